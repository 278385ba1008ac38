/-
  What each function of the versions' layer does, said of whole numbers from 0 to 2^42.
-/
import Derived.Test.YtkbcblcolfjbgaaRows
import Derived.Test.YtkbcblcolfjbgaaCut
import Derived.WalkKit
import Derived.WalkSpells
import Derived.WalkLawsBesides
import Derived.Lib.Hide
namespace Go.Proofs.Ytkbcblcolfjbgaa
open Go.RowKit Flo

/-- a version: its epoch and its number -/
def ver (e n : Int) : Value := .complex .f64 (F e) (F n)

@[go_sem] theorem eqGuard_ver (op : BinOp) (t : TypeId) (x y : Operand) (a b : Int) (v : Value) : eqGuard op t x y (ver a b) v = pure () := by
  unfold ver
  cases op <;> rfl

theorem make_any (e n : Int) (w : World) (he : In e) (hn : In n) :
    Calls Try.prog 10 #[.int .i64 e, .int .i64 n] w fun x w' => x = .returned (ver e n) ∧ w = w' := by
  have h1 := Lib.hid (floatOfInt_F he)
  have h2 := Lib.hid (floatOfInt_F hn)
  go_enter Try.func10, Try.ntmps10
  go_wp2
  go_ret
  exact ⟨by rw [h1.out, h2.out]; rfl, rfl⟩

theorem rmake_any (e n : Int) (w : World) (he : In e) (hn : In n) :
    Calls Try.prog 11 #[.int .i64 e, .int .i64 n] w fun x w' => x = .returned (ver e n) ∧ w = w' := by
  have h1 := Lib.hid (floatOfInt_F he)
  have h2 := Lib.hid (floatOfInt_F hn)
  go_enter Try.func11, Try.ntmps11
  go_wp2
  go_ret
  exact ⟨by rw [h1.out, h2.out]; rfl, rfl⟩

theorem epoch_any (e n : Int) (w : World) (he : In e) :
    Calls Try.prog 12 #[ver e n] w fun x w' => x = .returned (.int .i64 e) ∧ w = w' := by
  have hc : ∀ w, (convert 30 3 (.float .f64 (F e))).run Try.prog w = .ok (.int .i64 e) w := fun w => run_convert_float_int w 30 3 .f64 .i64 (F e) e (by rw [Try.underlying30]; rfl) Try.underlying3 (toInt_F he)
  unfold ver
  go_enter Try.func12, Try.ntmps12
  go_wp2_with (simp only [hc])
  go_ret
  exact ⟨rfl, rfl⟩

theorem num_any (e n : Int) (w : World) (hn : In n) :
    Calls Try.prog 13 #[ver e n] w fun x w' => x = .returned (.int .i64 n) ∧ w = w' := by
  have hc : ∀ w, (convert 30 3 (.float .f64 (F n))).run Try.prog w = .ok (.int .i64 n) w := fun w => run_convert_float_int w 30 3 .f64 .i64 (F n) n (by rw [Try.underlying30]; rfl) Try.underlying3 (toInt_F hn)
  unfold ver
  go_enter Try.func13, Try.ntmps13
  go_wp2_with (simp only [hc])
  go_ret
  exact ⟨rfl, rfl⟩

def aheadB (a b c d : Int) : Bool := decide (a < c) || (decide (a = c) && decide (b < d))

theorem ahead_any (a b c d : Int) (w : World) (ha : In a) (hb : In b) (hc : In c) (hd : In d) :
    Calls Try.prog 16 #[ver a b, ver c d] w fun x w' => x = .returned (.bool (aheadB a b c d)) ∧ w = w' := by
  have h1 := neq_F ha hc
  have h2 := lt_F ha hc
  have h3 := lt_F hb hd
  unfold ver
  by_cases h : a = c
  · have e1 : decide (a = c) = true := decide_eq_true h
    rw [e1] at h1
    have H : aheadB a b c d = decide (b < d) := by unfold aheadB; simp [h]
    rw [H]
    clear h e1 H
    go_enter Try.func16, Try.ntmps16
    go_wp2
    go_ret
    exact ⟨rfl, rfl⟩
  · have e1 : decide (a = c) = false := decide_eq_false h
    rw [e1] at h1
    have H : aheadB a b c d = decide (a < c) := by unfold aheadB; simp [h]
    rw [H]
    clear h e1 H
    go_enter Try.func16, Try.ntmps16
    go_wp2
    go_ret
    exact ⟨rfl, rfl⟩

theorem ahead_is {a b c d : Int} {v : Bool} (w : World) (ha : In a) (hb : In b) (hc : In c) (hd : In d) (h : aheadB a b c d = v) :
    Calls Try.prog 16 #[ver a b, ver c d] w fun x w' => x = .returned (.bool v) ∧ w = w' := h ▸ ahead_any a b c d w ha hb hc hd

theorem later_first (a b c d : Int) (w : World) (ha : In a) (hb : In b) (hc : In c) (hd : In d) (h : aheadB c d a b = true) :
    Calls Try.prog 18 #[ver a b, ver c d] w fun x w' => x = .returned (ver a b) ∧ w = w' := by
  have H := ahead_any c d a b w hc hd ha hb
  rw [h] at H
  have HH := Lib.hid H
  clear H h
  go_enter Try.func18, Try.ntmps18
  go_wp2_with (go_at_call 16; refine HH.out.mono ?_; rintro e w' ⟨rfl, rfl⟩)
  go_ret
  exact ⟨rfl, rfl⟩

theorem later_second (a b c d : Int) (w : World) (ha : In a) (hb : In b) (hc : In c) (hd : In d) (h : aheadB c d a b = false) :
    Calls Try.prog 18 #[ver a b, ver c d] w fun x w' => x = .returned (ver c d) ∧ w = w' := by
  have H := ahead_any c d a b w hc hd ha hb
  rw [h] at H
  have HH := Lib.hid H
  clear H h
  go_enter Try.func18, Try.ntmps18
  go_wp2_with (go_at_call 16; refine HH.out.mono ?_; rintro e w' ⟨rfl, rfl⟩)
  go_ret
  exact ⟨rfl, rfl⟩

theorem repoch_any (e n : Int) (w : World) (he : In e) :
    Calls Try.prog 22 #[ver e n] w fun x w' => x = .returned (.int .i64 e) ∧ w = w' := by
  have hc : ∀ w, (convert 30 3 (.float .f64 (F e))).run Try.prog w = .ok (.int .i64 e) w := fun w => run_convert_float_int w 30 3 .f64 .i64 (F e) e (by rw [Try.underlying30]; rfl) Try.underlying3 (toInt_F he)
  unfold ver
  go_enter Try.func22, Try.ntmps22
  go_wp2_with (simp only [hc])
  go_ret
  exact ⟨rfl, rfl⟩

theorem rnum_any (e n : Int) (w : World) (hn : In n) :
    Calls Try.prog 23 #[ver e n] w fun x w' => x = .returned (.int .i64 n) ∧ w = w' := by
  have hc : ∀ w, (convert 30 3 (.float .f64 (F n))).run Try.prog w = .ok (.int .i64 n) w := fun w => run_convert_float_int w 30 3 .f64 .i64 (F n) n (by rw [Try.underlying30]; rfl) Try.underlying3 (toInt_F hn)
  unfold ver
  go_enter Try.func23, Try.ntmps23
  go_wp2_with (simp only [hc])
  go_ret
  exact ⟨rfl, rfl⟩

theorem fits_any (n : Int) (w : World) :
    Calls Try.prog 8 #[.int .i64 n] w fun x w' => x = .returned (.bool (decide (0 ≤ n) && decide (n ≤ 1099511627776))) ∧ w = w' := by
  by_cases h : 0 ≤ n
  · have H : (decide (0 ≤ n) && decide (n ≤ 1099511627776)) = decide (n ≤ 1099511627776) := by simp [h]
    rw [H]
    clear H
    go_enter Try.func8, Try.ntmps8
    go_wp2
    go_ret
    exact ⟨rfl, rfl⟩
  · have H : (decide (0 ≤ n) && decide (n ≤ 1099511627776)) = false := by simp [h]
    rw [H]
    clear H
    go_enter Try.func8, Try.ntmps8
    go_wp2
    go_ret
    exact ⟨rfl, rfl⟩

theorem next_any (a b ep : Int) (w : World) (ha : In a) (hb : In b) (hs : In (ep - a)) (he : In ep) (h1 : In (b + 1)) :
    Calls Try.prog 20 #[ver a b, .int .i64 ep] w fun x w' => x = .returned (ver ep (b + 1)) ∧ w = w' := by
  have ho : In 1 := ⟨by decide, by decide⟩
  have hop : ∀ t w, (binOp .add t (ver a b) (ver (ep - a) 1)).run Try.prog w = .ok (ver ep (b + 1)) w := fun t w =>
    run_complex_sum (P := Try.prog) w .add (Or.inl rfl) t .f64 (F a) (F b) (F (ep - a)) (F 1) (F ep) (F (b + 1)) (by
      have := cadd_F ha hb hs ho (by rw [show a + (ep - a) = ep from by omega]; exact he) h1
      rw [this, show a + (ep - a) = ep from by omega])
  have g1 : 0 ≤ ep - a := hs.1
  have g2 : ep ≤ 4398046511104 := he.2
  have g3 : 0 ≤ a := ha.1
  go_enter Try.func20, Try.ntmps20
  go_wp2_with (first | (go_at_call 12; refine (epoch_any _ _ _ ha).mono ?_; rintro e w' ⟨rfl, rfl⟩) | (go_at_call 10; refine (make_any _ _ _ hs ho).mono ?_; rintro e w' ⟨rfl, rfl⟩))
  go_ret
  exact ⟨rfl, rfl⟩

/-- What is done with a NaN, and with any other datum. -/
def parted (x : Ieee.Datum) (g : Bool → Nat → Sem Value) (h : Ieee.Datum → Sem Value) : Sem Value :=
  match x with
  | .nan s t => g s t
  | d => h d

/-- math.archTrunc, of what is no NaN. -/
theorem run_trunc (b : Nat) (h : ∀ s t, Ieee.double.read b ≠ .nan s t) (w : World) :
    (callFunc 25 #[.float .f64 b]).run Try.prog w = .ok (.value (.float .f64 (Ieee.double.write ((Ieee.double.read b).integral .zero)))) w := by
  refine (run_callFunc_extern Try.func25 (by kernel_rfl) (by kernel_rfl) (by kernel_rfl) (show Extern.find Try.f25 = some (Extern.MathFloor.toIntegral "math.archTrunc" .zero) from rfl) _ w).trans ?_
  have e : Extern.MathFloor.toIntegral "math.archTrunc" .zero #[.float .f64 b] = pure (Value.float .f64 (Ieee.double.write ((Ieee.double.read b).integral .zero))) := by
    obtain ⟨g, hg⟩ : ∃ g, Extern.MathFloor.toIntegral "math.archTrunc" .zero #[.float .f64 b] = parted (Ieee.double.read b) g fun d => pure (Value.float .f64 (Ieee.double.write (d.integral .zero))) := ⟨_, rfl⟩
    rw [hg]
    unfold parted
    split
    · rename_i s t hh; exact absurd hh (h s t)
    · rfl
  rw [e]
  rfl

/-- no less than 0 -/
def up (b : Nat) : Bool := FloatKind.f64.format.order b 0 == some .gt || FloatKind.f64.format.order b 0 == some .eq
/-- no more than 2^40 -/
def low (b : Nat) : Bool := FloatKind.f64.format.order b 4787326403894837248 == some .lt || FloatKind.f64.format.order b 4787326403894837248 == some .eq
/-- the word of what is cut off to a whole number -/
def cutW (b : Nat) : Nat := Ieee.double.write ((Ieee.double.read b).integral .zero)

theorem trunc_any (b : Nat) (h : ∀ s t, Ieee.double.read b ≠ .nan s t) (w : World) :
    Calls Try.prog 24 #[.float .f64 b] w fun x w' => x = .returned (.float .f64 (cutW b)) ∧ w = w' := by
  have hop := run_trunc b h
  go_enter Try.func24, Try.ntmps24
  go_wp2_with (simp only [hop])
  go_ret
  exact ⟨rfl, rfl⟩

theorem count_up (b : Nat) (w : World) (h : up b = false) :
    Calls Try.prog 21 #[.float .f64 b] w fun x w' => x = .returned (.bool false) ∧ w = w' := by
  have h1 : (FloatKind.f64.format.order b 0 == some .gt || FloatKind.f64.format.order b 0 == some .eq) = false := h
  clear h
  go_enter Try.func21, Try.ntmps21
  go_wp2
  go_ret
  exact ⟨rfl, rfl⟩

theorem count_low (b : Nat) (w : World) (h : up b = true) (h' : low b = false) :
    Calls Try.prog 21 #[.float .f64 b] w fun x w' => x = .returned (.bool false) ∧ w = w' := by
  have h1 : (FloatKind.f64.format.order b 0 == some .gt || FloatKind.f64.format.order b 0 == some .eq) = true := h
  have h2 : (FloatKind.f64.format.order b 4787326403894837248 == some .lt || FloatKind.f64.format.order b 4787326403894837248 == some .eq) = false := h'
  clear h h'
  go_enter Try.func21, Try.ntmps21
  go_wp2
  go_ret
  exact ⟨rfl, rfl⟩

theorem count_in (b : Nat) (w : World) (h : up b = true) (h' : low b = true) (hn : ∀ s t, Ieee.double.read b ≠ .nan s t) :
    Calls Try.prog 21 #[.float .f64 b] w fun x w' => x = .returned (.bool (FloatKind.f64.format.order (cutW b) b == some .eq)) ∧ w = w' := by
  have h1 : (FloatKind.f64.format.order b 0 == some .gt || FloatKind.f64.format.order b 0 == some .eq) = true := h
  have h2 : (FloatKind.f64.format.order b 4787326403894837248 == some .lt || FloatKind.f64.format.order b 4787326403894837248 == some .eq) = true := h'
  have H := Lib.hid hn
  clear h h' hn
  go_enter Try.func21, Try.ntmps21
  go_wp2_with (go_at_call 24; refine (trunc_any _ H.out _).mono ?_; rintro e w' ⟨rfl, rfl⟩)
  go_ret
  exact ⟨rfl, rfl⟩

/-- Of a double: is it a count? And its whole number, if it is from 0 to 2^40. -/
theorem count_any (b : Nat) (w : World) :
    ((up b && low b) = false ∧ Calls Try.prog 21 #[.float .f64 b] w fun x w' => x = .returned (.bool false) ∧ w = w') ∨
    (up b = true ∧ low b = true ∧ ∃ n : Int, 0 ≤ n ∧ n ≤ 1099511627776 ∧ floatToIntVal .f64 b .i64 = some n ∧ Calls Try.prog 21 #[.float .f64 b] w fun x w' => x = .returned (.bool (FloatKind.f64.format.order (F n) b == some .eq)) ∧ w = w') := by
  cases h : up b with
  | false => exact .inl ⟨rfl, count_up b w h⟩
  | true =>
    cases h' : low b with
    | false => exact .inl ⟨rfl, count_low b w h h'⟩
    | true =>
      obtain ⟨n, hn, h3, h4, h5⟩ := whole b h h'
      refine .inr ⟨rfl, rfl, (n : Int), by omega, by omega, ?_, ?_⟩
      · unfold floatToIntVal
        show (match (Ieee.double.read b).toInt .zero with
          | some n => if IntKind.i64.min ≤ n ∧ n ≤ IntKind.i64.max then some n else none
          | none => none) = _
        rw [h3]
        have hmin : IntKind.i64.min = -9223372036854775808 := by decide
        have hmax : IntKind.i64.max = 9223372036854775807 := by decide
        rw [hmin, hmax]
        simp only
        exact if_pos ⟨by omega, by omega⟩
      · have := count_in b w h h' h4
        have e : FloatKind.f64.format.order (cutW b) b = FloatKind.f64.format.order (F (n : Int)) b := h5
        rw [e] at this
        exact this

end Go.Proofs.Ytkbcblcolfjbgaa
