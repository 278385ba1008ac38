/-
  The document's own answers for versions, and what each law's walk comes to.
-/
import Derived.Test.YtkbcblcolfjbgaaVer
namespace Go.Proofs.Ytkbcblcolfjbgaa
open Go.RowKit Flo

theorem F_zero : F 0 = 0 := by decide
theorem F_most : F 1099511627776 = 4787326403894837248 := by decide

theorem up_F {n : Int} (h : In n) : up (F n) = true := by
  have h0 : In 0 := ⟨by decide, by decide⟩
  unfold up
  rw [show (0 : Nat) = F 0 from F_zero.symm, gt_F h h0, eq_F h h0]
  obtain ⟨h1, _⟩ := h
  by_cases h2 : n = 0
  · simp [h2]
  · have : 0 < n := by omega
    simp [this]

theorem low_F {n : Int} (h : In n) (hm : n ≤ 1099511627776) : low (F n) = true := by
  have h0 : In 1099511627776 := ⟨by decide, by decide⟩
  unfold low
  rw [show (4787326403894837248 : Nat) = F 1099511627776 from F_most.symm, lt_F h h0, eq_F h h0]
  by_cases h2 : n = 1099511627776
  · simp [h2]
  · have : n < 1099511627776 := by omega
    simp [this]

theorem count_F (n : Int) (w : World) (h : In n) (hm : n ≤ 1099511627776) :
    Calls Try.prog 21 #[.float .f64 (F n)] w fun x w' => x = .returned (.bool true) ∧ w = w' := by
  rcases count_any (F n) w with ⟨h1, _⟩ | ⟨_, _, m, hm0, hm1, h3, h4⟩
  · rw [up_F h, low_F h hm] at h1; cases h1
  · rw [toInt_F h] at h3
    obtain rfl : n = m := by simpa using h3
    rw [eq_F h h, decide_eq_true rfl] at h4
    exact h4

theorem right_any (e n : Int) (w : World) (he : In e) (hn : In n) (he1 : e ≤ 1099511627776) (hn1 : n ≤ 1099511627776) :
    Calls Try.prog 14 #[ver e n] w fun x w' => x = .returned (.bool true) ∧ w = w' := by
  unfold ver
  go_enter Try.func14, Try.ntmps14
  go_wp2_with fail
  (go_at_call 21; refine (count_F e _ he he1).mono ?_; rintro e w' ⟨rfl, rfl⟩)
  go_wp2_with fail
  (go_at_call 21; refine (count_F n _ hn hn1).mono ?_; rintro e w' ⟨rfl, rfl⟩)
  go_wp2_with fail
  go_ret
  exact ⟨rfl, rfl⟩

theorem ver_eq (a b c d : Int) (ha : In a) (hb : In b) (hc : In c) (hd : In d) (t : TypeId) (w : World) :
    (binOp .eql t (ver a b) (ver c d)).run Try.prog w = .ok (.bool (decide (a = c) && decide (b = d))) w := by
  rw [← eq_F ha hc, ← eq_F hb hd]
  exact run_eql_complex w t .f64 _ _ _ _

theorem rahead_any (a b c d : Int) (w : World) (ha : In a) (hb : In b) (hc : In c) (hd : In d) :
    Calls Try.prog 17 #[ver a b, ver c d] w fun x w' => x = .returned (.bool (aheadB a b c d)) ∧ w = w' := by
  have c1 := Lib.hid fun w => repoch_any a b w ha
  have c2 := Lib.hid fun w => repoch_any c d w hc
  have c3 := Lib.hid fun w => rnum_any a b w hb
  have c4 := Lib.hid fun w => rnum_any c d w hd
  by_cases h : a = c
  · have H : aheadB a b c d = decide (b < d) := by unfold aheadB; simp [h]
    rw [H]
    subst h
    clear H
    go_enter Try.func17, Try.ntmps17
    go_wp2_with fail
    (go_at_call 22; refine (c1.out _).mono ?_; rintro e w' ⟨rfl, rfl⟩)
    go_wp2_with fail
    (go_at_call 22; refine (c2.out _).mono ?_; rintro e w' ⟨rfl, rfl⟩)
    go_wp2_with fail
    (go_at_call 23; refine (c3.out _).mono ?_; rintro e w' ⟨rfl, rfl⟩)
    go_wp2_with fail
    (go_at_call 23; refine (c4.out _).mono ?_; rintro e w' ⟨rfl, rfl⟩)
    go_wp2_with fail
    go_ret
    exact ⟨rfl, rfl⟩
  · have H : aheadB a b c d = decide (a < c) := by unfold aheadB; simp [h]
    rw [H]
    clear H
    go_enter Try.func17, Try.ntmps17
    go_wp2_with fail
    (go_at_call 22; refine (c1.out _).mono ?_; rintro e w' ⟨rfl, rfl⟩)
    go_wp2_with fail
    (go_at_call 22; refine (c2.out _).mono ?_; rintro e w' ⟨rfl, rfl⟩)
    go_wp2_with fail
    (go_at_call 22; refine (c1.out _).mono ?_; rintro e w' ⟨rfl, rfl⟩)
    go_wp2_with fail
    (go_at_call 22; refine (c2.out _).mono ?_; rintro e w' ⟨rfl, rfl⟩)
    go_wp2_with fail
    go_ret
    exact ⟨rfl, rfl⟩

theorem rlater_first (a b c d : Int) (w : World) (ha : In a) (hb : In b) (hc : In c) (hd : In d) (h : aheadB a b c d = false) :
    Calls Try.prog 19 #[ver a b, ver c d] w fun x w' => x = .returned (ver a b) ∧ w = w' := by
  have H := rahead_any a b c d w ha hb hc hd
  rw [h] at H
  have HH := Lib.hid H
  clear H h
  go_enter Try.func19, Try.ntmps19
  go_wp2_with (go_at_call 17; refine HH.out.mono ?_; rintro e w' ⟨rfl, rfl⟩)
  go_ret
  exact ⟨rfl, rfl⟩

theorem rlater_second (a b c d : Int) (w : World) (ha : In a) (hb : In b) (hc : In c) (hd : In d) (h : aheadB a b c d = true) :
    Calls Try.prog 19 #[ver a b, ver c d] w fun x w' => x = .returned (ver c d) ∧ w = w' := by
  have H := rahead_any a b c d w ha hb hc hd
  rw [h] at H
  have HH := Lib.hid H
  clear H h
  go_enter Try.func19, Try.ntmps19
  go_wp2_with (go_at_call 17; refine HH.out.mono ?_; rintro e w' ⟨rfl, rfl⟩)
  go_ret
  exact ⟨rfl, rfl⟩

theorem awake_true (w : World) : Calls Try.prog 9 #[] w fun x w' => x = .returned (.bool true) ∧ w = w' := by
  have i0 : In 0 := ⟨by decide, by decide⟩
  have i1 : In 1 := ⟨by decide, by decide⟩
  have i2 : In 2 := ⟨by decide, by decide⟩
  have i3 : In 3 := ⟨by decide, by decide⟩
  have i4 : In 4 := ⟨by decide, by decide⟩
  have i5 : In 5 := ⟨by decide, by decide⟩
  have i6 : In 6 := ⟨by decide, by decide⟩
  have q1 : ∀ t w, (binOp .eql t (ver 3 6) (ver 3 6)).run Try.prog w = .ok (.bool true) w := fun t w => ver_eq 3 6 3 6 i3 i6 i3 i6 t w
  have q2 : ∀ t w, (binOp .eql t (ver 2 5) (ver 2 5)).run Try.prog w = .ok (.bool true) w := fun t w => ver_eq 2 5 2 5 i2 i5 i2 i5 t w
  have A1 := Lib.hid fun w => ahead_is (v := true) w i2 i5 i3 i0 (by decide)
  have A2 := Lib.hid fun w => ahead_is (v := false) w i2 i5 i2 i5 (by decide)
  go_enter Try.func9, Try.ntmps9
  go_wp2_with fail
  (go_at_call 10; refine (make_any 2 5 _ i2 i5).mono ?_; rintro e w' ⟨rfl, rfl⟩)
  go_wp2_with fail
  (go_at_call 12; refine (epoch_any 2 5 _ i2).mono ?_; rintro e w' ⟨rfl, rfl⟩)
  go_wp2_with fail
  (go_at_call 13; refine (num_any 2 5 _ i5).mono ?_; rintro e w' ⟨rfl, rfl⟩)
  go_wp2_with fail
  (go_at_call 10; refine (make_any 3 0 _ i3 i0).mono ?_; rintro e w' ⟨rfl, rfl⟩)
  go_wp2_with fail
  (go_at_call 16; refine (A1.out _).mono ?_; rintro e w' ⟨rfl, rfl⟩)
  go_wp2_with fail
  (go_at_call 16; refine (A2.out _).mono ?_; rintro e w' ⟨rfl, rfl⟩)
  go_wp2_with fail
  (go_at_call 20; refine (next_any 2 5 3 _ i2 i5 i1 i3 i6).mono ?_; rintro e w' ⟨rfl, rfl⟩)
  go_wp2_with fail
  (go_at_call 10; refine (make_any 3 6 _ i3 i6).mono ?_; rintro e w' ⟨rfl, rfl⟩)
  go_wp2_with fail
  (go_at_call 14; refine (right_any 2 5 _ i2 i5 (by decide) (by decide)).mono ?_; rintro e w' ⟨rfl, rfl⟩)
  go_wp2_with fail
  (go_at_call 10; refine (make_any 2 4 _ i2 i4).mono ?_; rintro e w' ⟨rfl, rfl⟩)
  go_wp2_with fail
  (go_at_call 18; refine (later_first 2 5 2 4 _ i2 i5 i2 i4 (by decide)).mono ?_; rintro e w' ⟨rfl, rfl⟩)
  go_wp2_with fail
  go_ret
  exact ⟨rfl, rfl⟩

/-- what Fits asks -/
def fitsB (n : Int) : Bool := decide (0 ≤ n) && decide (n ≤ 1099511627776)
theorem fits_is {n : Int} {v : Bool} (w : World) (h : fitsB n = v) : Calls Try.prog 8 #[.int .i64 n] w fun x w' => x = .returned (.bool v) ∧ w = w' := h ▸ fits_any n w
theorem fits_in {n : Int} (h : fitsB n = true) : In n ∧ n ≤ 1099511627776 := by
  unfold fitsB at h
  simp at h
  exact ⟨⟨h.1, by omega⟩, h.2⟩

theorem parts_walk (a b : Int) (w : World) : Calls Try.prog 3 #[.int .i64 a, .int .i64 b] w fun x w' => x = .returned (.bool true) ∧ w = w' := by
  cases ha : fitsB a with
  | false =>
    have f1 := Lib.hid (fun w => fits_is (n := a) w ha)
    clear ha
    go_enter Try.func3, Try.ntmps3
    go_wp2_with (first | (go_at_call 8; refine (f1.out _).mono ?_; rintro e w' ⟨rfl, rfl⟩) | (go_at_call 9; refine (awake_true _).mono ?_; rintro e w' ⟨rfl, rfl⟩))
    go_ret
    exact ⟨rfl, rfl⟩
  | true =>
    have f1 := Lib.hid (fun w => fits_is (n := a) w ha)
    cases hb : fitsB b with
    | false =>
      have f2 := Lib.hid (fun w => fits_is (n := b) w hb)
      clear ha hb
      go_enter Try.func3, Try.ntmps3
      go_wp2_with fail
      (go_at_call 8; refine (f1.out _).mono ?_; rintro e w' ⟨rfl, rfl⟩)
      go_wp2_with fail
      (go_at_call 8; refine (f2.out _).mono ?_; rintro e w' ⟨rfl, rfl⟩)
      go_wp2_with (go_at_call 9; refine (awake_true _).mono ?_; rintro e w' ⟨rfl, rfl⟩)
      go_ret
      exact ⟨rfl, rfl⟩
    | true =>
      have f2 := Lib.hid (fun w => fits_is (n := b) w hb)
      obtain ⟨ia, la⟩ := fits_in ha
      obtain ⟨ib, lb⟩ := fits_in hb
      have q : ∀ t w, (binOp .eql t (ver a b) (ver a b)).run Try.prog w = .ok (.bool true) w := fun t w => (ver_eq a b a b ia ib ia ib t w).trans (by simp)
      clear ha hb
      go_enter Try.func3, Try.ntmps3
      go_wp2_with fail
      (go_at_call 8; refine (f1.out _).mono ?_; rintro e w' ⟨rfl, rfl⟩)
      go_wp2_with fail
      (go_at_call 8; refine (f2.out _).mono ?_; rintro e w' ⟨rfl, rfl⟩)
      go_wp2_with (first | (go_at_call 9; refine (awake_true _).mono ?_; rintro e w' ⟨rfl, rfl⟩) | (go_at_call 10; refine (make_any a b _ ia ib).mono ?_; rintro e w' ⟨rfl, rfl⟩) | (go_at_call 11; refine (rmake_any a b _ ia ib).mono ?_; rintro e w' ⟨rfl, rfl⟩) | (go_at_call 12; refine (epoch_any a b _ ia).mono ?_; rintro e w' ⟨rfl, rfl⟩) | (go_at_call 13; refine (num_any a b _ ib).mono ?_; rintro e w' ⟨rfl, rfl⟩) | (go_at_call 14; refine (right_any a b _ ia ib la lb).mono ?_; rintro e w' ⟨rfl, rfl⟩))
      go_ret
      exact ⟨rfl, rfl⟩

end Go.Proofs.Ytkbcblcolfjbgaa
