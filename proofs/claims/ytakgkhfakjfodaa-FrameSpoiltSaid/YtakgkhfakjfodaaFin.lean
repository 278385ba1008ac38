/-
  The laws of frames, of every input.
-/
import Derived.Test.YtakgkhfakjfodaaAw
import Derived.Test.YtakgkhfakjfodaaEndm
namespace Go.Proofs.Ytakgkhfakjfodaa
open Go.RowKit

theorem u16_of {n : Int} (h : (Lit.int .u16 n).wf = true) : ∃ m : Nat, n = (m : Int) ∧ m ≤ 65535 := by
  have hn' : 0 ≤ n ∧ n ≤ 65535 := by
    simp [Lit.wf, IntKind.min, IntKind.max, IntKind.signed, IntKind.bits] at h
    omega
  exact ⟨n.toNat, by omega, by omega⟩
theorem u8_of {n : Int} (h : (Lit.int .u8 n).wf = true) : ∃ c : UInt8, n = (c.toNat : Int) := by
  have hn' : 0 ≤ n ∧ n ≤ 255 := by
    simp [Lit.wf, IntKind.min, IntKind.max, IntKind.signed, IntKind.bits] at h
    omega
  refine ⟨by_ n.toNat, ?_⟩
  rw [by_nat _ (by omega)]
  omega

theorem scans_fin (v : Value) (l : List UInt8) (w : World) (hv : Seen w w.heap.size v l) :
    Calls Try.prog 4 #[v] w fun e w' => e = .returned (.bool true) ∧ Below w.heap.size w w' := scans_law awake_is (scan_ok scan_is) v l w hv
theorem again_fin (v : Value) (l : List UInt8) (w : World) (hv : Seen w w.heap.size v l) :
    Calls Try.prog 6 #[v] w fun e w' => e = .returned (.bool true) ∧ Below w.heap.size w w' := again_law awake_is (scan_ok scan_is) v l w hv
theorem puts_fin (v : Value) (o : List UInt8) (u : Value) (r : List UInt8) (w : World) (hv : Seen w w.heap.size v o) (hu : Seen w w.heap.size u r) :
    Calls Try.prog 3 #[v, u] w fun e w' => e = .returned (.bool true) ∧ Below w.heap.size w w' := puts_law awake_is (put_ok put_own) v u o r w hv hu
theorem torn_fin (v : Value) (ls : List (List UInt8)) (n : Int) (w : World) (hv : Many w v ls) (hn : (Lit.int .u16 n).wf = true) :
    Calls Try.prog 5 #[v, .int .u16 n] w fun e w' => e = .returned (.bool true) ∧ Below w.heap.size w w' := by
  obtain ⟨m, rfl, hm⟩ := u16_of hn
  exact torn_law awake_is put_own (scan_ok scan_is) v ls m w hv hm
theorem spoilt_fin (v : Value) (ls : List (List UInt8)) (n x : Int) (w : World) (hv : Many w v ls) (hn : (Lit.int .u16 n).wf = true) (hx : (Lit.int .u8 x).wf = true) :
    Calls Try.prog 7 #[v, .int .u16 n, .int .u8 x] w fun e w' => e = .returned (.bool true) ∧ Below w.heap.size w w' := by
  obtain ⟨m, rfl, hm⟩ := u16_of hn
  obtain ⟨d, rfl⟩ := u8_of hx
  exact spoilt_law awake_is (scan_ok scan_is) v ls m d w hv hm
theorem keeps_fin (v : Value) (ls : List (List UInt8)) (w : World) (hv : Many w v ls) :
    Calls Try.prog 8 #[v] w fun e w' => e = .returned (.bool true) ∧ Below w.heap.size w w' := keeps_law awake_is (scan_new scan_is) v ls w hv

end Go.Proofs.Ytakgkhfakjfodaa
