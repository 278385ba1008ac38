/-
  What the document's own functions answer: numbers and texts as bytes, sameness, beginnings.
-/
import Derived.Test.YtmohanbgplffcaaPut
namespace Go.Proofs.Ytmohanbgplffcaa
open Go.RowKit

theorem sum8 (m : Nat) : 128 + (m : Int) % 128 = ((by_ (m % 128 + 128)).toNat : Int) := by rw [by_nat _ (by omega)]; omega

set_option maxRecDepth 10000 in
set_option maxHeartbeats 400000 in
theorem refint_any (n : Int) (w : World) (h1 : -9223372036854775808 ≤ n) (h2 : n ≤ 9223372036854775807) :
    Calls Try.prog 24 #[.int .i64 n] w (Gives w.heap.size (wint n) w) := by
  obtain ⟨i0, hi0, hz0, hz1, hz2⟩ := info_parts byte_info
  have hz := zig_lt h1 h2
  have hle := enc_le _ hz
  have hE : Hid (wint n = enc (zig n)) := rfl
  have hm0 : (0 ≤ n → 2 * n = (zig n : Nat)) ∧ (n < 0 → 2 * (-(n + 1)) + 1 = (zig n : Nat)) := by
    unfold zig; split <;> omega
  generalize zig n = m0 at hz hle hE hm0
  have hz' : m0 < 18446744073709551616 := hz
  clear hz
  by_cases h0 : n < 0
  all_goals
    go_enter Try.func24, Try.ntmps24
    go_wp2_with fail
    go_loopw [3, 4] (fun mv v wr => IntAt w.heap.size [] m0 w v mv wr) (fun mv _ _ => (intOf mv).toNat)
    case atStart =>
      exact ⟨m0, [], by first | rw [← hm0.1 (by omega)] | rw [← hm0.2 (by omega)], hz', rfl, Room.nil, Below.refl _ _, Nat.le_refl _⟩
    case round =>
      obtain ⟨m, p, rfl, hm, hp, hr', hb', hB'⟩ := hrel
      have hpl : ([] ++ p).length + 1 ≤ 1099511627776 := by
        have := congrArg List.length hp
        rw [List.length_append] at this ⊢
        simp only [List.length_nil]
        omega
      have HP := Lib.hid hp
      clear hp hm0
      by_cases hlt : m < 128
      · have hin : IntKind.u8.wrap (m : Int) = ((by_ m).toNat : Int) := low8 m hlt
        go_wp2_with (at_builtin; refine wpList_append8 (B := w.heap.size) (l := [] ++ p) (m := [by_ m]) rfl (.tmp 27) (.tmp 30) 22 22 rfl 5 i0 Try.underlying22 hi0 hz0 hz1 hz2 (hr'.on (Below.alloc (Below.refl _ _) (Nat.le_refl _) _)) (by simp; omega) (src_one _ (by_ m) Try.underlying22) hpl rfl rfl ?_; intro v' w' hr2 hb2)
        go_ret
        refine ⟨v', rfl, ?_, hb'.trans ((Below.alloc (Below.refl _ _) hB' _).trans hb2)⟩
        rw [hE.out, ← HP.out, enc_small hlt]
        exact hr2
      · have hin := sum8 m
        go_wp2_with (at_builtin; refine wpList_append8 (B := w.heap.size) (l := [] ++ p) (m := [by_ (m % 128 + 128)]) rfl (.tmp 18) (.tmp 23) 22 22 rfl 5 i0 Try.underlying22 hi0 hz0 hz1 hz2 (hr'.on (Below.alloc (Below.refl _ _) (Nat.le_refl _) _)) (by simp; omega) (src_one _ (by_ (m % 128 + 128)) Try.underlying22) hpl rfl rfl ?_; intro v' w' hr2 hb2)
        go_roundw
        case rel =>
          refine ⟨m / 128, p ++ [by_ (m % 128 + 128)], by go_num, by omega, ?_, by rw [← List.append_assoc]; exact hr2, hb'.trans ((Below.alloc (Below.refl _ _) hB' _).trans hb2), Nat.le_trans hB' (Nat.le_trans (by simp) hb2.size)⟩
          rw [← HP.out, enc_big hlt, List.append_assoc]
          rfl
        case measure => simp [intOf]; omega

end Go.Proofs.Ytmohanbgplffcaa
