/-
  What the versions' functions answer that the later layers call: made, taken apart, compared; and the document's own (taken apart). Said of whole numbers from 0 to 2^42.
-/
import Derived.Test.YtmohanbgplffcaaRows
import Derived.Test.YtmohanbgplffcaaFlo
import Derived.WalkKit
import Derived.WalkSpells
import Derived.WalkLawsBesides
import Derived.Lib.Hide
namespace Go.Proofs.Ytmohanbgplffcaa
open Go.RowKit Flo

/-- a version: its epoch and its number -/
def ver (e n : Int) : Value := .complex .f64 (F e) (F n)

@[go_sem] theorem eqGuard_ver (op : BinOp) (t : TypeId) (x y : Operand) (a b : Int) (v : Value) : eqGuard op t x y (ver a b) v = pure () := by
  unfold ver
  cases op <;> rfl

theorem make_any (e n : Int) (w : World) (he : In e) (hn : In n) :
    Calls Try.prog 32 #[.int .i64 e, .int .i64 n] w fun x w' => x = .returned (ver e n) ∧ w = w' := by
  have h1 := Lib.hid (floatOfInt_F he)
  have h2 := Lib.hid (floatOfInt_F hn)
  go_enter Try.func32, Try.ntmps32
  go_wp2
  go_ret
  exact ⟨by rw [h1.out, h2.out]; rfl, rfl⟩

theorem epoch_any (e n : Int) (w : World) (he : In e) :
    Calls Try.prog 36 #[ver e n] w fun x w' => x = .returned (.int .i64 e) ∧ w = w' := by
  have hc : ∀ w, (convert 77 3 (.float .f64 (F e))).run Try.prog w = .ok (.int .i64 e) w := fun w => run_convert_float_int w 77 3 .f64 .i64 (F e) e (by rw [Try.underlying77]; rfl) Try.underlying3 (toInt_F he)
  unfold ver
  go_enter Try.func36, Try.ntmps36
  go_wp2_with (simp only [hc])
  go_ret
  exact ⟨rfl, rfl⟩

theorem num_any (e n : Int) (w : World) (hn : In n) :
    Calls Try.prog 37 #[ver e n] w fun x w' => x = .returned (.int .i64 n) ∧ w = w' := by
  have hc : ∀ w, (convert 77 3 (.float .f64 (F n))).run Try.prog w = .ok (.int .i64 n) w := fun w => run_convert_float_int w 77 3 .f64 .i64 (F n) n (by rw [Try.underlying77]; rfl) Try.underlying3 (toInt_F hn)
  unfold ver
  go_enter Try.func37, Try.ntmps37
  go_wp2_with (simp only [hc])
  go_ret
  exact ⟨rfl, rfl⟩

theorem repoch_any (e n : Int) (w : World) (he : In e) :
    Calls Try.prog 34 #[ver e n] w fun x w' => x = .returned (.int .i64 e) ∧ w = w' := by
  have hc : ∀ w, (convert 77 3 (.float .f64 (F e))).run Try.prog w = .ok (.int .i64 e) w := fun w => run_convert_float_int w 77 3 .f64 .i64 (F e) e (by rw [Try.underlying77]; rfl) Try.underlying3 (toInt_F he)
  unfold ver
  go_enter Try.func34, Try.ntmps34
  go_wp2_with (simp only [hc])
  go_ret
  exact ⟨rfl, rfl⟩

theorem rnum_any (e n : Int) (w : World) (hn : In n) :
    Calls Try.prog 35 #[ver e n] w fun x w' => x = .returned (.int .i64 n) ∧ w = w' := by
  have hc : ∀ w, (convert 77 3 (.float .f64 (F n))).run Try.prog w = .ok (.int .i64 n) w := fun w => run_convert_float_int w 77 3 .f64 .i64 (F n) n (by rw [Try.underlying77]; rfl) Try.underlying3 (toInt_F hn)
  unfold ver
  go_enter Try.func35, Try.ntmps35
  go_wp2_with (simp only [hc])
  go_ret
  exact ⟨rfl, rfl⟩

theorem ver_eq (a b c d : Int) (ha : In a) (hb : In b) (hc : In c) (hd : In d) (t : TypeId) (w : World) :
    (binOp .eql t (ver a b) (ver c d)).run Try.prog w = .ok (.bool (decide (a = c) && decide (b = d))) w := by
  rw [← eq_F ha hc, ← eq_F hb hd]
  exact run_eql_complex w t .f64 _ _ _ _

/-- what Fits asks -/
def fitsB (n : Int) : Bool := decide (0 ≤ n) && decide (n ≤ 1099511627776)
theorem fits_in {n : Int} (h : fitsB n = true) : In n ∧ n ≤ 1099511627776 := by
  unfold fitsB at h
  simp at h
  exact ⟨⟨h.1, by omega⟩, h.2⟩

end Go.Proofs.Ytmohanbgplffcaa
