/-
  What the program writes: numbers, truths, texts, versions.
-/
import Derived.Test.YtmohanbgplffcaaRows
import Derived.Test.YtmohanbgplffcaaMem
import Derived.Test.YtmohanbgplffcaaBit
import Derived.Test.YtmohanbgplffcaaSame
import Derived.WalkSpells
import Derived.WalkLawsBesides
import Derived.LoopTactic
import Derived.Lib.Hide
import Derived.Outline
namespace Go.Proofs.Ytmohanbgplffcaa
open Go.RowKit

theorem fold_any (n : Int) (w : World) (h1 : -9223372036854775808 ≤ n) (h2 : n ≤ 9223372036854775807) :
    Calls Try.prog 38 #[.int .i64 n] w fun e w' => e = .returned (.int .u64 (zig n : Nat)) ∧ w = w' := by
  by_cases h0 : n < 0
  · go_enter Try.func38, Try.ntmps38
    go_wp2_with fail
    go_ret
    exact ⟨ret_int (fold_neg n h1 h0), rfl⟩
  · have h0' : 0 ≤ n := by omega
    go_enter Try.func38, Try.ntmps38
    go_wp2_with fail
    go_ret
    exact ⟨ret_int (zig_pos n (by omega)), rfl⟩

theorem unfold_any (m : Nat) (w : World) (h1 : m < 18446744073709551616) :
    Calls Try.prog 33 #[.int .u64 m] w fun e w' => e = .returned (.int .i64 (zag m)) ∧ w = w' := by
  by_cases h0 : m % 2 = 1
  · have hb : (bits BinOp.and IntKind.u64 (↑m) 1 == 1) = true := by rw [and1 m h1, h0]; rfl
    have H0 := Lib.hid h0
    clear h0
    go_enter Try.func33, Try.ntmps33
    go_wp2_with fail
    go_ret
    exact ⟨ret_int (unfold_odd m h1 H0.out), rfl⟩
  · have hb : (bits BinOp.and IntKind.u64 (↑m) 1 == 1) = false := by rw [and1 m h1, beq_eq_false_iff_ne]; omega
    have H0 := Lib.hid h0
    clear h0
    go_enter Try.func33, Try.ntmps33
    go_wp2_with fail
    go_ret
    exact ⟨ret_int (unfold_even m H0.out), rfl⟩

/-- where the loop of Int stands -/
def IntAt (B : Nat) (l : List UInt8) (m0 : Nat) (w : World) (v mv : Value) (wr : World) : Prop :=
  ∃ (m : Nat) (p : List UInt8), mv = .int .u64 (m : Int) ∧ m < 18446744073709551616 ∧ p ++ enc m = enc m0 ∧ Room wr B v (l ++ p) ∧ Below B w wr ∧ B ≤ wr.heap.size

set_option maxRecDepth 10000 in
set_option maxHeartbeats 400000 in
theorem int_any (n : Int) (w : World) (B : Nat) (v : Value) (l : List UInt8) (h1 : -9223372036854775808 ≤ n) (h2 : n ≤ 9223372036854775807) (hr : Room w B v l) (hB : B ≤ w.heap.size) (hl : l.length ≤ 549755813888) :
    Calls Try.prog 28 #[v, .int .i64 n] w (Gives B (l ++ wint n) w) := by
  obtain ⟨i0, hi0, hz0, hz1, hz2⟩ := info_parts byte_info
  have hz := zig_lt h1 h2
  have hle := enc_le _ hz
  have hE : Hid (wint n = enc (zig n)) := rfl
  have F := Lib.hid (fun w => fold_any n w h1 h2)
  generalize zig n = m0 at hz hle hE F
  have hz' : m0 < 18446744073709551616 := hz
  clear hz
  go_enter Try.func28, Try.ntmps28
  go_wp2_with (go_at_call 38; (with_reducible refine (F.out _).mono ?_); rintro e w' ⟨rfl, rfl⟩)
  go_loopw [0, 5] (IntAt B l m0 w) (fun _ mv _ => (intOf mv).toNat)
  case atStart => exact ⟨m0, [], rfl, hz', rfl, by rw [List.append_nil]; exact hr, Below.refl _ _, hB⟩
  case round =>
    obtain ⟨m, p, rfl, hm, hp, hr', hb', hB'⟩ := hrel
    have hpl : (l ++ p).length + 1 ≤ 1099511627776 := by
      have := congrArg List.length hp
      rw [List.length_append] at this ⊢
      omega
    have HP := Lib.hid hp
    clear hp
    by_cases hlt : m < 128
    · have hin : IntKind.u8.wrap (m : Int) = ((by_ m).toNat : Int) := low8 m hlt
      go_wp2_with (at_builtin; refine wpList_append8 (B := B) (l := l ++ p) (m := [by_ m]) rfl (.tmp 18) (.tmp 21) 22 22 rfl 5 i0 Try.underlying22 hi0 hz0 hz1 hz2 (hr'.on (Below.alloc (Below.refl _ _) (Nat.le_refl _) _)) (by simp; omega) (src_one _ (by_ m) Try.underlying22) hpl rfl rfl ?_; intro v' w' hr2 hb2)
      go_ret
      refine ⟨v', rfl, ?_, hb'.trans ((Below.alloc (Below.refl _ _) hB' _).trans hb2)⟩
      rw [hE.out, ← HP.out, enc_small hlt, ← List.append_assoc]
      exact hr2
    · have hin := or128m m
      go_wp2_with (at_builtin; refine wpList_append8 (B := B) (l := l ++ p) (m := [by_ (m % 128 + 128)]) rfl (.tmp 10) (.tmp 14) 22 22 rfl 5 i0 Try.underlying22 hi0 hz0 hz1 hz2 (hr'.on (Below.alloc (Below.refl _ _) (Nat.le_refl _) _)) (by simp; omega) (src_one _ (by_ (m % 128 + 128)) Try.underlying22) hpl rfl rfl ?_; intro v' w' hr2 hb2)
      go_roundw
      case rel =>
        refine ⟨m / 128, p ++ [by_ (m % 128 + 128)], by go_num, by omega, ?_, by rw [← List.append_assoc]; exact hr2, hb'.trans ((Below.alloc (Below.refl _ _) hB' _).trans hb2), Nat.le_trans hB' (Nat.le_trans (by simp) hb2.size)⟩
        rw [← HP.out, enc_big hlt, List.append_assoc]
        rfl
      case measure => simp [intOf]; omega

end Go.Proofs.Ytmohanbgplffcaa
