/-
  WireUnlike: of two unlike numbers, and of two unlike texts, one's bytes don't begin the other one's.
-/
import Derived.Test.YtemoekakpnaboaaAw
namespace Go.Proofs.Ytemoekakpnaboaa
open Go.RowKit

set_option maxRecDepth 100000 in
theorem begins_is {v u : Value} {l m : List UInt8} {x : Bool} (w : World) (h1 : Seen w w.heap.size v l) (h2 : Seen w w.heap.size u m) (hx : decide (m <+: l) = x) :
    Calls Try.prog 25 #[v, u] w fun e w' => e = .returned (.bool x) ∧ Below w.heap.size w w' := by
  obtain ⟨A, c, rfl, k1⟩ := h1
  obtain ⟨A', c', rfl, k2⟩ := h2
  have hlc := k1.1
  have hcm := k1.2.1
  have hmc := k2.1
  have hmm := k2.2.1
  unfold maxLen at hcm hmm
  by_cases hl : m.length ≤ l.length
  · have h3 : At w w.heap.size A c (l.take m.length) := by
      refine ⟨by rw [List.length_take]; omega, k1.2.1, ?_⟩
      rcases k1.2.2 with rfl | ⟨b, off, hA, hb, hw, hr⟩
      · exact .inl (by rw [List.take_nil])
      · exact .inr ⟨b, off, hA, hb, hw, hr.take _⟩
    have hlen : (l.take m.length).length = m.length := by rw [List.length_take]; omega
    have S1 := Lib.hid (show Seen w w.heap.size (.slice A m.length c) (l.take m.length) from ⟨A, c, by rw [hlen], h3⟩)
    have S2 := Lib.hid (show Seen w w.heap.size (.slice A' m.length c') m from ⟨A', c', rfl, k2⟩)
    have HX : Hid (decide (m = l.take m.length) = x) := by rw [← hx]; exact decide_eq_decide.2 List.prefix_iff_eq_take.symm
    clear k1 k2 h3 hlen hx
    go_enter Try.func25, Try.ntmps25
    go_wp2_with (go_at_call 12; (with_reducible refine (same_is _ S2.out S1.out HX.out).mono ?_); rintro e w' ⟨rfl, hb⟩)
    go_ret
    exact ⟨rfl, hb⟩
  · have HX : Hid (false = x) := by
      rw [← hx]
      exact (decide_eq_false (fun h => hl h.length_le)).symm
    have hl' : (l.length : Int) < (m.length : Int) := by omega
    clear k1 k2 hx hl
    go_enter Try.func25, Try.ntmps25
    go_wp2
    go_ret
    exact ⟨ret_bool HX.out, Below.refl _ _⟩

theorem begins_int {a b : Int} (ha : -9223372036854775808 ≤ a ∧ a ≤ 9223372036854775807) (hb : -9223372036854775808 ≤ b ∧ b ≤ 9223372036854775807) : decide (wint a <+: wint b) = (a == b) := by
  by_cases h : a = b
  · subst h; rw [decide_eq_true (List.prefix_refl _)]; simp
  · rw [decide_eq_false, beq_eq_false_iff_ne.2 h]
    rintro ⟨r, hr⟩
    exact h (wint_begins (r := r) (s := []) ha hb (by rw [hr, List.append_nil])).1
theorem begins_text (s t : ByteArray) (hs : s.size ≤ 5000) (ht : t.size ≤ 5000) : decide ((wint s.size ++ s.data.toList) <+: (wint t.size ++ t.data.toList)) = (s.toList == t.toList) := by
  rw [ByteArray.toList_eq, ByteArray.toList_eq]
  by_cases h : s.data.toList = t.data.toList
  · have : s = t := ByteArray.ext (Array.ext' h)
    subst this
    rw [decide_eq_true (List.prefix_refl _)]; simp
  · rw [decide_eq_false, beq_eq_false_iff_ne.2 h]
    rintro ⟨r, hr⟩
    rw [List.append_assoc] at hr
    obtain ⟨e1, e2⟩ := wint_begins (by omega) (by omega) hr
    have hl : s.data.toList.length = t.data.toList.length := by
      have a1 : s.data.toList.length = s.size := by simp
      have a2 : t.data.toList.length = t.size := by simp
      omega
    exact h (List.append_inj (e2.trans (List.append_nil _).symm) hl).1

set_option maxRecDepth 100000 in
set_option maxHeartbeats 1000000 in
theorem unlike_law (a b : Int) (s t : ByteArray) (w : World) (ha : (Lit.int .i64 a).wf = true) (hb : (Lit.int .i64 b).wf = true) (hs : s.size ≤ maxLen) (ht : t.size ≤ maxLen) :
    Calls Try.prog 6 #[.int .i64 a, .int .i64 b, .string s, .string t] w fun e w' => e = .returned (.bool true) ∧ Below w.heap.size w w' := by
  unfold maxLen at hs ht
  have ha' : -9223372036854775808 ≤ a ∧ a ≤ 9223372036854775807 := by
    simp [Lit.wf, IntKind.min, IntKind.max, IntKind.signed, IntKind.bits] at ha
    omega
  have hb' : -9223372036854775808 ≤ b ∧ b ≤ 9223372036854775807 := by
    simp [Lit.wf, IntKind.min, IntKind.max, IntKind.signed, IntKind.bits] at hb
    omega
  clear ha hb
  by_cases h5 : s.size ≤ 5000 ∧ t.size ≤ 5000
  · obtain ⟨h5s, h5t⟩ := h5
    obtain ⟨x, hx⟩ : ∃ x, (a == b) = x := ⟨_, rfl⟩
    obtain ⟨y, hy⟩ : ∃ y, (s.toList == t.toList) = y := ⟨_, rfl⟩
    have BX := Lib.hid ((begins_int ha' hb').trans hx)
    have BY := Lib.hid ((begins_text s t h5s h5t).trans hy)
    have I1 := Lib.hid (fun w => int_any b w w.heap.size (.slice none 0 0) [] hb'.1 hb'.2 Room.nil (Nat.le_refl _) (by simp))
    have I2 := Lib.hid (fun w => int_any a w w.heap.size (.slice none 0 0) [] ha'.1 ha'.2 Room.nil (Nat.le_refl _) (by simp))
    have T1 := Lib.hid (fun w => text_any t w w.heap.size (.slice none 0 0) [] Room.nil (Nat.le_refl _) (by simp) (by omega))
    have T2 := Lib.hid (fun w => text_any s w w.heap.size (.slice none 0 0) [] Room.nil (Nat.le_refl _) (by simp) (by omega))
    have HXX : ∀ z : Bool, (z == z) = true := by decide
    go_enter Try.func6, Try.ntmps6
    go_wp2_with fail
    (go_at_call 9; refine (awake_true _).mono ?_; rintro e w0 ⟨rfl, hb0⟩)
    go_wp2_with fail
    (go_at_call 13; refine (I1.out _).mono ?_; rintro e w1 ⟨v1, rfl, hr1, hb1⟩)
    go_wp2_with fail
    (go_at_call 13; refine (I2.out _).mono ?_; rintro e w2 ⟨v2, rfl, hr2, hb2⟩)
    go_wp2_with fail
    (go_at_call 25; refine (begins_is _ (hr1.seen.on hb2) hr2.seen BX.out).mono ?_; rintro e w3 ⟨rfl, hb3⟩)
    go_wp2_with fail
    (go_at_call 15; refine (T1.out _).mono ?_; rintro e w4 ⟨v4, rfl, hr4, hb4⟩)
    go_wp2_with fail
    (go_at_call 15; refine (T2.out _).mono ?_; rintro e w5 ⟨v5, rfl, hr5, hb5⟩)
    go_wp2_with fail
    (go_at_call 25; refine (begins_is _ (hr4.seen.on hb5) hr5.seen BY.out).mono ?_; rintro e w6 ⟨rfl, hb6⟩)
    go_wp2_with fail
    go_ret
    exact ⟨rfl, bt hb0 (bt hb1 (bt hb2 (bt hb3 (bt hb4 (bt hb5 hb6)))))⟩
  · by_cases h5s : s.size ≤ 5000
    · have h5t : 5000 < t.size := by omega
      clear h5
      go_enter Try.func6, Try.ntmps6
      go_wp2_with (go_at_call 9; refine (awake_true _).mono ?_; rintro e w0 ⟨rfl, hb0⟩)
      go_ret
      exact ⟨rfl, hb0⟩
    · have h5s' : 5000 < s.size := by omega
      clear h5 h5s
      go_enter Try.func6, Try.ntmps6
      go_wp2_with (go_at_call 9; refine (awake_true _).mono ?_; rintro e w0 ⟨rfl, hb0⟩)
      go_ret
      exact ⟨rfl, hb0⟩

end Go.Proofs.Ytemoekakpnaboaa
