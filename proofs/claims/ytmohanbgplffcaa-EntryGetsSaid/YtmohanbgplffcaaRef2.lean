/-
  What the document's own functions answer: texts as bytes.
-/
import Derived.Test.YtmohanbgplffcaaRef
namespace Go.Proofs.Ytmohanbgplffcaa
open Go.RowKit

theorem take_str (s : ByteArray) (k : Nat) (h : k < s.size) : s.data.toList.take (k + 1) = s.data.toList.take k ++ [s[k]] := by
  rw [List.take_succ_eq_append_getElem (by simpa using h)]; rfl

set_option maxRecDepth 10000 in
set_option maxHeartbeats 400000 in
theorem reftext_any (s : ByteArray) (w : World) (hs : s.size ≤ 549755813888) :
    Calls Try.prog 25 #[.string s] w (Gives w.heap.size (wint s.size ++ s.data.toList) w) := by
  obtain ⟨i0, hi0, hz0, hz1, hz2⟩ := info_parts byte_info
  have hle := wint_le (n := (s.size : Int)) (by omega) (by omega)
  have R := Lib.hid (fun w => refint_any (s.size : Int) w (by omega) (by omega))
  go_enter Try.func25, Try.ntmps25
  go_wp2_with (go_at_call 24; (with_reducible refine (R.out _).mono ?_); rintro e w' ⟨v1, rfl, hr1, hb1⟩)
  go_loopw [3, 4] (fun v i wr => ∃ k : Nat, k ≤ s.size ∧ i = .int .i64 k ∧ Room wr w.heap.size v (wint s.size ++ s.data.toList.take k) ∧ Below w.heap.size w wr) (fun _ i _ => s.size - (intOf i).toNat)
  case atStart => exact ⟨0, Nat.zero_le _, rfl, by rw [List.take_zero, List.append_nil]; exact hr1, hb1⟩
  case round =>
    obtain ⟨k, hk, rfl, hr', hb'⟩ := hrel
    have hlen : s.data.toList.length = s.size := by simp
    by_cases hlt : k < s.size
    · have hpl : (wint s.size ++ s.data.toList.take k).length + 1 ≤ 1099511627776 := by
        rw [List.length_append, List.length_take]
        omega
      have ht := Lib.hid (take_str s k hlt)
      clear hlen
      go_wp2_with (at_builtin; refine wpList_append8 (B := w.heap.size) (l := wint s.size ++ s.data.toList.take k) (m := [s[k]]) rfl (.tmp 14) (.tmp 18) 22 22 rfl 5 i0 Try.underlying22 hi0 hz0 hz1 hz2 (hr'.on (Below.alloc (Below.refl _ _) (Nat.le_refl _) _)) (by have := hb'.size; simp; omega) (src_one _ s[k] Try.underlying22) hpl rfl rfl ?_; intro v' w' hr2 hb2)
      go_roundw
      case rel =>
        refine ⟨k + 1, by omega, by go_num, ?_, hb'.trans ((Below.alloc (Below.refl _ _) hb'.size _).trans hb2)⟩
        rw [ht.out, ← List.append_assoc]
        exact hr2
      case measure => simp [intOf]; omega
    · have hk' : Hid (s.data.toList.take k = s.data.toList) := List.take_of_length_le (by omega)
      clear hlen
      go_wp2
      go_ret
      exact ⟨_, rfl, by rw [hk'.out] at hr'; exact hr', hb'⟩

end Go.Proofs.Ytmohanbgplffcaa
