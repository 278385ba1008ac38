/-
  What the versions' functions answer that the later layers call: made, taken apart, compared; and the document's own (made, fits). Said of whole numbers from 0 to 2^42.
-/
import Derived.Test.YtemoekakpnaboaaRows
import Derived.Test.YtemoekakpnaboaaFlo
import Derived.WalkKit
import Derived.WalkSpells
import Derived.WalkLawsBesides
import Derived.Lib.Hide
namespace Go.Proofs.Ytemoekakpnaboaa
open Go.RowKit Flo

/-- a version: its epoch and its number -/
def ver (e n : Int) : Value := .complex .f64 (F e) (F n)

@[go_sem] theorem eqGuard_ver (op : BinOp) (t : TypeId) (x y : Operand) (a b : Int) (v : Value) : eqGuard op t x y (ver a b) v = pure () := by
  unfold ver
  cases op <;> rfl

theorem make_any (e n : Int) (w : World) (he : In e) (hn : In n) :
    Calls Try.prog 17 #[.int .i64 e, .int .i64 n] w fun x w' => x = .returned (ver e n) ∧ w = w' := by
  have h1 := Lib.hid (floatOfInt_F he)
  have h2 := Lib.hid (floatOfInt_F hn)
  go_enter Try.func17, Try.ntmps17
  go_wp2
  go_ret
  exact ⟨by rw [h1.out, h2.out]; rfl, rfl⟩

theorem rmake_any (e n : Int) (w : World) (he : In e) (hn : In n) :
    Calls Try.prog 31 #[.int .i64 e, .int .i64 n] w fun x w' => x = .returned (ver e n) ∧ w = w' := by
  have h1 := Lib.hid (floatOfInt_F he)
  have h2 := Lib.hid (floatOfInt_F hn)
  go_enter Try.func31, Try.ntmps31
  go_wp2
  go_ret
  exact ⟨by rw [h1.out, h2.out]; rfl, rfl⟩

theorem epoch_any (e n : Int) (w : World) (he : In e) :
    Calls Try.prog 27 #[ver e n] w fun x w' => x = .returned (.int .i64 e) ∧ w = w' := by
  have hc : ∀ w, (convert 51 3 (.float .f64 (F e))).run Try.prog w = .ok (.int .i64 e) w := fun w => run_convert_float_int w 51 3 .f64 .i64 (F e) e (by rw [Try.underlying51]; rfl) Try.underlying3 (toInt_F he)
  unfold ver
  go_enter Try.func27, Try.ntmps27
  go_wp2_with (simp only [hc])
  go_ret
  exact ⟨rfl, rfl⟩

theorem num_any (e n : Int) (w : World) (hn : In n) :
    Calls Try.prog 28 #[ver e n] w fun x w' => x = .returned (.int .i64 n) ∧ w = w' := by
  have hc : ∀ w, (convert 51 3 (.float .f64 (F n))).run Try.prog w = .ok (.int .i64 n) w := fun w => run_convert_float_int w 51 3 .f64 .i64 (F n) n (by rw [Try.underlying51]; rfl) Try.underlying3 (toInt_F hn)
  unfold ver
  go_enter Try.func28, Try.ntmps28
  go_wp2_with (simp only [hc])
  go_ret
  exact ⟨rfl, rfl⟩

theorem fits_any (n : Int) (w : World) :
    Calls Try.prog 8 #[.int .i64 n] w fun x w' => x = .returned (.bool (decide (0 ≤ n) && decide (n ≤ 1099511627776))) ∧ w = w' := by
  by_cases h : 0 ≤ n
  · have H : (decide (0 ≤ n) && decide (n ≤ 1099511627776)) = decide (n ≤ 1099511627776) := by simp [h]
    rw [H]
    clear H
    go_enter Try.func8, Try.ntmps8
    go_wp2
    go_ret
    exact ⟨rfl, rfl⟩
  · have H : (decide (0 ≤ n) && decide (n ≤ 1099511627776)) = false := by simp [h]
    rw [H]
    clear H
    go_enter Try.func8, Try.ntmps8
    go_wp2
    go_ret
    exact ⟨rfl, rfl⟩

theorem ver_eq (a b c d : Int) (ha : In a) (hb : In b) (hc : In c) (hd : In d) (t : TypeId) (w : World) :
    (binOp .eql t (ver a b) (ver c d)).run Try.prog w = .ok (.bool (decide (a = c) && decide (b = d))) w := by
  rw [← eq_F ha hc, ← eq_F hb hd]
  exact run_eql_complex w t .f64 _ _ _ _

/-- what Fits asks -/
def fitsB (n : Int) : Bool := decide (0 ≤ n) && decide (n ≤ 1099511627776)
theorem fits_is {n : Int} {v : Bool} (w : World) (h : fitsB n = v) : Calls Try.prog 8 #[.int .i64 n] w fun x w' => x = .returned (.bool v) ∧ w = w' := h ▸ fits_any n w
theorem fits_in {n : Int} (h : fitsB n = true) : In n ∧ n ≤ 1099511627776 := by
  unfold fitsB at h
  simp at h
  exact ⟨⟨h.1, by omega⟩, h.2⟩

end Go.Proofs.Ytemoekakpnaboaa
