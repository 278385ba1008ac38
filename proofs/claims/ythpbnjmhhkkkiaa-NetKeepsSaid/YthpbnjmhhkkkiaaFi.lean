/-
  NetActs, NetCounts, NetTakes of every input, of the landed functions of nets.
-/
import Derived.Test.YthpbnjmhhkkkiaaNe
import Derived.Test.YthpbnjmhhkkkiaaAk
import Derived.Test.YthpbnjmhhkkkiaaArg
namespace Go.Proofs.Ythpbnjmhhkkkiaa
open Go.RowKit

theorem takes_all (v : Value) (n : Nett) (w : World) (h : NetAt w w.heap.size v n) : Calls Try.prog 6 #[v] w fun e w' => e = .returned (.bool true) ∧ Below w.heap.size w w' := takes_walk awake_ok take_new v n w h
theorem counts_all (v : Value) (n : Nett) (i : Int) (w : World) (h : NetAt w w.heap.size v n) : Calls Try.prog 4 #[v, .int .i64 i] w fun e w' => e = .returned (.bool true) ∧ Below w.heap.size w w' := counts_walk awake_ok take_new drop_ok copy_ok send_ok v n i w h
theorem acts_all (v : Value) (n : Nett) (to_ : Int) (vb : Value) (b : List UInt8) (i : Int) (w : World) (h : NetAt w w.heap.size v n) (hs : Seen w w.heap.size vb b) : Calls Try.prog 3 #[v, .int .i64 to_, vb, .int .i64 i] w fun e w' => e = .returned (.bool true) ∧ Below w.heap.size w w' := acts_walk awake_ok take_new drop_ok copy_ok send_ok cut_ok v n to_ vb b i w h hs

end Go.Proofs.Ythpbnjmhhkkkiaa
