/-
  EntryGets and EntryKeeps, of every input.
-/
import Derived.Test.YtmohanbgplffcaaEp
import Derived.Test.YtmohanbgplffcaaEi
import Derived.Test.YtmohanbgplffcaaAwk
import Derived.Test.YtmohanbgplffcaaLx
namespace Go.Proofs.Ytmohanbgplffcaa
open Go.RowKit Flo

theorem reads_E : ReadsOk 6 KE := fun w v l p hv hl hp => getentry_any w v l p hv (by omega) (by omega)
theorem reads_O : ReadsOk 7 KO := fun w v l p hv hl hp => getop_any w v l p hv (by omega) (by omega)
theorem writes_E : WritesOk 11 KE := fun w B v l fs hk hf hr hB hl => (put_writesE w B v l fs hk hf hr hB (by omega)).mono fun _ _ ⟨_, he, ha⟩ => by subst he; exact ha.gives
theorem writes_O : WritesOk 12 KO := fun w B v l fs hk hf hr hB hl => (put_writesO w B v l fs hk hf hr hB (by omega)).mono fun _ _ ⟨_, he, ha⟩ => by subst he; exact ha.gives
theorem size_ok : SizeOk 13 := fun w x y kd key val wt dl se nu co rs hr h1 h2 => size_any w x y kd key val wt dl se nu co rs hr (by omega) (by omega)
theorem awake_ok : AwakeOk := awake_of writes_E writes_O reads_E reads_O size_ok
theorem gets_walk (v : Value) (l : List UInt8) (a : Int) (w : World) (hv : Seen w w.heap.size v l) :
    Calls Try.prog 3 #[v, .int .i64 a] w fun e w' => e = .returned (.bool true) ∧ Below w.heap.size w w' := gets_law awake_ok reads_E reads_O v l a w hv
theorem keeps_walk_any (v : Value) (l : List UInt8) (a : Int) (w : World) (hv : Seen w w.heap.size v l) :
    Calls Try.prog 4 #[v, .int .i64 a] w fun e w' => e = .returned (.bool true) ∧ Below w.heap.size w w' := keeps_law awake_ok reads_E reads_O v l a w hv

end Go.Proofs.Ytmohanbgplffcaa
