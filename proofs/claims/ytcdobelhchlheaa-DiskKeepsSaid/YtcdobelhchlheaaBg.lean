/-
  Beginnings of bytes, as the document's own function tells them.
-/
import Derived.Test.YtcdobelhchlheaaSame
namespace Go.Proofs.Ytcdobelhchlheaa
open Go.RowKit

set_option maxRecDepth 100000 in
theorem begins_is {v u : Value} {l m : List UInt8} {x : Bool} (w : World) (h1 : Seen w w.heap.size v l) (h2 : Seen w w.heap.size u m) (hx : decide (m <+: l) = x) :
    Calls Try.prog 22 #[v, u] w fun e w' => e = .returned (.bool x) ∧ Below w.heap.size w w' := by
  obtain ⟨A, c, rfl, k1⟩ := h1
  obtain ⟨A', c', rfl, k2⟩ := h2
  have hlc := k1.1
  have hcm := k1.2.1
  have hmc := k2.1
  have hmm := k2.2.1
  unfold maxLen at hcm hmm
  by_cases hl : m.length ≤ l.length
  · have h3 : At w w.heap.size A c (l.take m.length) := by
      refine ⟨by rw [List.length_take]; omega, k1.2.1, ?_⟩
      rcases k1.2.2 with rfl | ⟨b, off, hA, hb, hw, hr⟩
      · exact .inl (by rw [List.take_nil])
      · exact .inr ⟨b, off, hA, hb, hw, hr.take _⟩
    have hlen : (l.take m.length).length = m.length := by rw [List.length_take]; omega
    have S1 := Lib.hid (show Seen w w.heap.size (.slice A m.length c) (l.take m.length) from ⟨A, c, by rw [hlen], h3⟩)
    have S2 := Lib.hid (show Seen w w.heap.size (.slice A' m.length c') m from ⟨A', c', rfl, k2⟩)
    have HX : Hid (decide (m = l.take m.length) = x) := by rw [← hx]; exact decide_eq_decide.2 List.prefix_iff_eq_take.symm
    clear k1 k2 h3 hlen hx
    go_enter Try.func22, Try.ntmps22
    go_wp2_with (go_at_call 21; (with_reducible refine (same_is _ S2.out S1.out HX.out).mono ?_); rintro e w' ⟨rfl, hb⟩)
    go_ret
    exact ⟨rfl, hb⟩
  · have HX : Hid (false = x) := by
      rw [← hx]
      exact (decide_eq_false (fun h => hl h.length_le)).symm
    have hl' : (l.length : Int) < (m.length : Int) := by omega
    clear k1 k2 hx hl
    go_enter Try.func22, Try.ntmps22
    go_wp2
    go_ret
    exact ⟨ret_bool HX.out, Below.refl _ _⟩

end Go.Proofs.Ytcdobelhchlheaa
