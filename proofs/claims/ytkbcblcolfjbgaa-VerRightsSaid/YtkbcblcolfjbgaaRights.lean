/-
  What the walk of the law VerRights comes to, at whatever two doubles.
-/
import Derived.Test.YtkbcblcolfjbgaaLaw
namespace Go.Proofs.Ytkbcblcolfjbgaa
open Go.RowKit Flo

theorem right_of (a b : Nat) (X Y : Bool) (hX : ∀ w, Calls Try.prog 21 #[.float .f64 a] w fun x w' => x = .returned (.bool X) ∧ w = w') (hY : ∀ w, Calls Try.prog 21 #[.float .f64 b] w fun x w' => x = .returned (.bool Y) ∧ w = w') (w : World) :
    Calls Try.prog 14 #[.complex .f64 a b] w fun x w' => x = .returned (.bool (X && Y)) ∧ w = w' := by
  have H1 := Lib.hid hX
  have H2 := Lib.hid hY
  clear hX hY
  cases X with
  | false =>
    go_enter Try.func14, Try.ntmps14
    go_wp2_with fail
    (go_at_call 21; refine (H1.out _).mono ?_; rintro e w' ⟨rfl, rfl⟩)
    go_wp2_with fail
    go_ret
    exact ⟨rfl, rfl⟩
  | true =>
    go_enter Try.func14, Try.ntmps14
    go_wp2_with fail
    (go_at_call 21; refine (H1.out _).mono ?_; rintro e w' ⟨rfl, rfl⟩)
    go_wp2_with fail
    (go_at_call 21; refine (H2.out _).mono ?_; rintro e w' ⟨rfl, rfl⟩)
    go_wp2_with fail
    go_ret
    exact ⟨rfl, rfl⟩

theorem repoch_gen (a b : Nat) (n : Int) (h : floatToIntVal .f64 a .i64 = some n) (w : World) :
    Calls Try.prog 22 #[.complex .f64 a b] w fun x w' => x = .returned (.int .i64 n) ∧ w = w' := by
  have hc : ∀ w, (convert 30 3 (.float .f64 a)).run Try.prog w = .ok (.int .i64 n) w := fun w => run_convert_float_int w 30 3 .f64 .i64 a n (by rw [Try.underlying30]; rfl) Try.underlying3 h
  clear h
  go_enter Try.func22, Try.ntmps22
  go_wp2_with (simp only [hc])
  go_ret
  exact ⟨rfl, rfl⟩

theorem rnum_gen (a b : Nat) (n : Int) (h : floatToIntVal .f64 b .i64 = some n) (w : World) :
    Calls Try.prog 23 #[.complex .f64 a b] w fun x w' => x = .returned (.int .i64 n) ∧ w = w' := by
  have hc : ∀ w, (convert 30 3 (.float .f64 b)).run Try.prog w = .ok (.int .i64 n) w := fun w => run_convert_float_int w 30 3 .f64 .i64 b n (by rw [Try.underlying30]; rfl) Try.underlying3 h
  clear h
  go_enter Try.func23, Try.ntmps23
  go_wp2_with (simp only [hc])
  go_ret
  exact ⟨rfl, rfl⟩

theorem rright_no (a b : Nat) (h : (up a && low a && up b && low b) = false) (w : World) :
    Calls Try.prog 15 #[.complex .f64 a b] w fun x w' => x = .returned (.bool false) ∧ w = w' := by
  unfold up low at h
  cases h1 : (FloatKind.f64.format.order a 0 == some .gt || FloatKind.f64.format.order a 0 == some .eq) with
  | false =>
    clear h
    go_enter Try.func15, Try.ntmps15
    go_wp2
    go_ret
    exact ⟨rfl, rfl⟩
  | true =>
    cases h2 : (FloatKind.f64.format.order a 4787326403894837248 == some .lt || FloatKind.f64.format.order a 4787326403894837248 == some .eq) with
    | false =>
      clear h
      go_enter Try.func15, Try.ntmps15
      go_wp2
      go_ret
      exact ⟨rfl, rfl⟩
    | true =>
      cases h3 : (FloatKind.f64.format.order b 0 == some .gt || FloatKind.f64.format.order b 0 == some .eq) with
      | false =>
        clear h
        go_enter Try.func15, Try.ntmps15
        go_wp2
        go_ret
        exact ⟨rfl, rfl⟩
      | true =>
        have h4 : (FloatKind.f64.format.order b 4787326403894837248 == some .lt || FloatKind.f64.format.order b 4787326403894837248 == some .eq) = false := by
          rw [h1, h2, h3] at h
          simpa only [Bool.true_and] using h
        clear h
        go_enter Try.func15, Try.ntmps15
        go_wp2
        go_ret
        exact ⟨rfl, rfl⟩

@[go_sem] theorem eqGuard_cplx (op : BinOp) (t : TypeId) (x y : Operand) (a b : Nat) (v : Value) : eqGuard op t x y (.complex .f64 a b) v = pure () := by
  cases op <;> rfl

theorem rright_yes (a b : Nat) (n m : Int) (X Y : Bool) (w : World) (h1 : up a = true) (h2 : low a = true) (h3 : up b = true) (h4 : low b = true) (hn : floatToIntVal .f64 a .i64 = some n) (hm : floatToIntVal .f64 b .i64 = some m) (jn : In n) (jm : In m)
    (hX : (FloatKind.f64.format.order (F n) a == some .eq) = X) (hY : (FloatKind.f64.format.order (F m) b == some .eq) = Y) :
    Calls Try.prog 15 #[.complex .f64 a b] w fun x w' => x = .returned (.bool (X && Y)) ∧ w = w' := by
  have C1 := Lib.hid (repoch_gen a b n hn)
  have C2 := Lib.hid (rnum_gen a b m hm)
  have q : ∀ t w, (binOp .eql t (ver n m) (.complex .f64 a b)).run Try.prog w = .ok (.bool (X && Y)) w := fun t w => by
    rw [← hX, ← hY]
    exact run_eql_complex w t .f64 _ _ _ _
  unfold up at h1 h3
  unfold low at h2 h4
  clear hn hm hX hY
  go_enter Try.func15, Try.ntmps15
  go_wp2_with (first | (go_at_call 22; refine (C1.out _).mono ?_; rintro e w' ⟨rfl, rfl⟩) | (go_at_call 23; refine (C2.out _).mono ?_; rintro e w' ⟨rfl, rfl⟩) | (go_at_call 11; refine (rmake_any n m _ jn jm).mono ?_; rintro e w' ⟨rfl, rfl⟩))
  go_ret
  exact ⟨rfl, rfl⟩

/-- The two sides answer alike. -/
theorem rights_alike (a b : Nat) : ∃ R : Bool, (∀ w, Calls Try.prog 14 #[.complex .f64 a b] w fun x w' => x = .returned (.bool R) ∧ w = w') ∧ (∀ w, Calls Try.prog 15 #[.complex .f64 a b] w fun x w' => x = .returned (.bool R) ∧ w = w') := by
  cases ha : up a && low a with
  | false =>
    refine ⟨false, fun w => ?_, fun w => rright_no a b (by rw [ha]; rfl) w⟩
    have hX : ∀ w, Calls Try.prog 21 #[.float .f64 a] w fun x w' => x = .returned (.bool false) ∧ w = w' := fun w => by
      rcases count_any a w with ⟨_, h⟩ | ⟨h1, h2, _⟩
      · exact h
      · rw [h1, h2] at ha; cases ha
    have hY : ∃ Y, ∀ w, Calls Try.prog 21 #[.float .f64 b] w fun x w' => x = .returned (.bool Y) ∧ w = w' := by
      cases hb : up b && low b with
      | false =>
        refine ⟨false, fun w => ?_⟩
        rcases count_any b w with ⟨_, h⟩ | ⟨h1, h2, _⟩
        · exact h
        · rw [h1, h2] at hb; cases hb
      | true =>
        rcases count_any b w with ⟨h, _⟩ | ⟨h1, h2, n, k1, k2, h3, _⟩
        · rw [h] at hb; cases hb
        · refine ⟨(FloatKind.f64.format.order (F n) b == some .eq), fun w => ?_⟩
          rcases count_any b w with ⟨h, _⟩ | ⟨_, _, n', _, _, h3', h4'⟩
          · rw [h] at hb; cases hb
          · rw [h3] at h3'
            obtain rfl : n = n' := by simpa using h3'
            exact h4'
    obtain ⟨Y, hY⟩ := hY
    exact right_of a b false Y hX hY w
  | true =>
    have ha1 : up a = true := by cases h : up a <;> simp [h] at ha ⊢
    have ha2 : low a = true := by cases h : low a <;> simp [h] at ha ⊢
    have w0 : World := default
    rcases count_any a w0 with ⟨h, _⟩ | ⟨_, _, n, k1, k2, h3, _⟩
    · rw [h] at ha; cases ha
    have hX : ∀ w, Calls Try.prog 21 #[.float .f64 a] w fun x w' => x = .returned (.bool (FloatKind.f64.format.order (F n) a == some .eq)) ∧ w = w' := fun w => by
      rcases count_any a w with ⟨h, _⟩ | ⟨_, _, n', _, _, h3', h4'⟩
      · rw [h] at ha; cases ha
      · rw [h3] at h3'
        obtain rfl : n = n' := by simpa using h3'
        exact h4'
    cases hb : up b && low b with
    | false =>
      refine ⟨false, fun w => ?_, fun w => rright_no a b (by rw [ha, Bool.true_and, hb]) w⟩
      have hY : ∀ w, Calls Try.prog 21 #[.float .f64 b] w fun x w' => x = .returned (.bool false) ∧ w = w' := fun w => by
        rcases count_any b w with ⟨_, h⟩ | ⟨h1, h2, _⟩
        · exact h
        · rw [h1, h2] at hb; cases hb
      have := right_of a b _ false hX hY w
      rw [Bool.and_false] at this
      exact this
    | true =>
      have hb1 : up b = true := by cases h : up b <;> simp [h] at hb ⊢
      have hb2 : low b = true := by cases h : low b <;> simp [h] at hb ⊢
      rcases count_any b w0 with ⟨h, _⟩ | ⟨_, _, m, j1, j2, g3, _⟩
      · rw [h] at hb; cases hb
      have hY : ∀ w, Calls Try.prog 21 #[.float .f64 b] w fun x w' => x = .returned (.bool (FloatKind.f64.format.order (F m) b == some .eq)) ∧ w = w' := fun w => by
        rcases count_any b w with ⟨h, _⟩ | ⟨_, _, m', _, _, h3', h4'⟩
        · rw [h] at hb; cases hb
        · rw [g3] at h3'
          obtain rfl : m = m' := by simpa using h3'
          exact h4'
      exact ⟨_, fun w => right_of a b _ _ hX hY w, fun w => rright_yes a b n m _ _ w ha1 ha2 hb1 hb2 h3 g3 ⟨k1, by omega⟩ ⟨j1, by omega⟩ rfl rfl⟩

theorem rights_walk (a b : Nat) (w : World) : Calls Try.prog 4 #[.float .f64 a, .float .f64 b] w fun x w' => x = .returned (.bool true) ∧ w = w' := by
  obtain ⟨R, h1, h2⟩ := rights_alike a b
  have H1 := Lib.hid h1
  have H2 := Lib.hid h2
  clear h1 h2
  cases R with
  | false =>
    go_enter Try.func4, Try.ntmps4
    go_wp2_with (first | (go_at_call 9; refine (awake_true _).mono ?_; rintro e w' ⟨rfl, rfl⟩) | (go_at_call 14; refine (H1.out _).mono ?_; rintro e w' ⟨rfl, rfl⟩) | (go_at_call 15; refine (H2.out _).mono ?_; rintro e w' ⟨rfl, rfl⟩))
    go_ret
    exact ⟨rfl, rfl⟩
  | true =>
    go_enter Try.func4, Try.ntmps4
    go_wp2_with (first | (go_at_call 9; refine (awake_true _).mono ?_; rintro e w' ⟨rfl, rfl⟩) | (go_at_call 14; refine (H1.out _).mono ?_; rintro e w' ⟨rfl, rfl⟩) | (go_at_call 15; refine (H2.out _).mono ?_; rintro e w' ⟨rfl, rfl⟩))
    go_ret
    exact ⟨rfl, rfl⟩

end Go.Proofs.Ytkbcblcolfjbgaa
