/-
  What the program writes: truths, texts, versions.
-/
import Derived.Test.YtmohanbgplffcaaPut
import Derived.Test.YtmohanbgplffcaaVerm
namespace Go.Proofs.Ytmohanbgplffcaa
open Go.RowKit Flo

def bit (is : Bool) : UInt8 := if is then 1 else 0

set_option maxRecDepth 10000 in
theorem bool_any (is : Bool) (w : World) (B : Nat) (v : Value) (l : List UInt8) (hr : Room w B v l) (hB : B ≤ w.heap.size) (hl : l.length ≤ 549755813888) :
    Calls Try.prog 30 #[v, .bool is] w (Gives B (l ++ [bit is]) w) := by
  obtain ⟨i0, hi0, hz0, hz1, hz2⟩ := info_parts byte_info
  have hpl : l.length + 1 ≤ 1099511627776 := by omega
  cases is
  · go_enter Try.func30, Try.ntmps30
    go_wp2_with (at_builtin; refine wpList_append8 (B := B) (l := l) (m := [0]) rfl (.tmp 9) (.tmp 10) 22 22 rfl 5 i0 Try.underlying22 hi0 hz0 hz1 hz2 (hr.on (Below.alloc (Below.refl _ _) (Nat.le_refl _) _)) (by simp; omega) (src_one _ 0 Try.underlying22) hpl rfl rfl ?_; intro v' w' hr2 hb2)
    go_ret
    exact ⟨v', rfl, hr2, (Below.alloc (Below.refl _ _) hB _).trans hb2⟩
  · go_enter Try.func30, Try.ntmps30
    go_wp2_with (at_builtin; refine wpList_append8 (B := B) (l := l) (m := [1]) rfl (.tmp 6) (.tmp 7) 22 22 rfl 5 i0 Try.underlying22 hi0 hz0 hz1 hz2 (hr.on (Below.alloc (Below.refl _ _) (Nat.le_refl _) _)) (by simp; omega) (src_one _ 1 Try.underlying22) hpl rfl rfl ?_; intro v' w' hr2 hb2)
    go_ret
    exact ⟨v', rfl, hr2, (Below.alloc (Below.refl _ _) hB _).trans hb2⟩

set_option maxRecDepth 10000 in
theorem text_any (s : ByteArray) (w : World) (B : Nat) (v : Value) (l : List UInt8) (hr : Room w B v l) (hB : B ≤ w.heap.size) (hl : l.length ≤ 274877906944) (hs : s.size ≤ 274877906944) :
    Calls Try.prog 29 #[v, .string s] w (Gives B (l ++ (wint s.size ++ s.data.toList)) w) := by
  obtain ⟨i0, hi0, hz0, hz1, hz2⟩ := info_parts byte_info
  have hle := wint_le (n := (s.size : Int)) (by omega) (by omega)
  have hpl : (l ++ wint s.size).length + s.data.toList.length ≤ 1099511627776 := by
    rw [List.length_append]
    have : s.data.toList.length = s.size := by simp
    omega
  have R := Lib.hid (int_any (s.size : Int) w B v l (by omega) (by omega) hr hB (by omega))
  go_enter Try.func29, Try.ntmps29
  go_wp2_with (first
    | (go_at_call 28; (with_reducible refine R.out.mono ?_); rintro e w1 ⟨v1, rfl, hr1, hb1⟩)
    | (at_builtin; refine wpList_append8 (B := B) (l := l ++ wint s.size) (m := s.data.toList) rfl (.tmp 8) (.tmp 9) 22 9 rfl 5 i0 Try.underlying22 hi0 hz0 hz1 hz2 hr1 (Nat.le_trans hB hb1.size) (src_string _ Try.underlying9 s) hpl rfl rfl ?_; intro v' w' hr2 hb2))
  go_ret
  exact ⟨v', rfl, by rw [← List.append_assoc]; exact hr2, hb1.trans hb2⟩

set_option maxRecDepth 10000 in
theorem wver_any (a b : Int) (w : World) (B : Nat) (v : Value) (l : List UInt8) (hr : Room w B v l) (hB : B ≤ w.heap.size) (hl : l.length ≤ 274877906944) (ha : In a) (hb : In b) :
    Calls Try.prog 27 #[v, ver a b] w (Gives B (l ++ (wint a ++ wint b)) w) := by
  have ha' := ha
  have hb' := hb
  unfold In at ha' hb'
  have hle := wint_le (n := a) (by omega) (by omega)
  have R := Lib.hid (int_any a w B v l (by omega) (by omega) hr hB (by omega))
  have R2 := Lib.hid (fun w' v' (h : Room w' B v' (l ++ wint a)) (h' : B ≤ w'.heap.size) => int_any b w' B v' (l ++ wint a) (by omega) (by omega) h h' (by rw [List.length_append]; omega))
  go_enter Try.func27, Try.ntmps27
  go_wp2_with (first
    | (go_at_call 36; (with_reducible refine (epoch_any a b _ ha).mono ?_); rintro e w1 ⟨rfl, rfl⟩)
    | (go_at_call 37; (with_reducible refine (num_any a b _ hb).mono ?_); rintro e w1 ⟨rfl, rfl⟩)
    | (go_at_call 28; (with_reducible refine R.out.mono ?_); rintro e w1 ⟨v1, rfl, hr1, hb1⟩)
    | (go_at_call 28; (with_reducible refine (R2.out _ _ hr1 (Nat.le_trans hB hb1.size)).mono ?_); rintro e w2 ⟨v2, rfl, hr2, hb2⟩))
  go_ret
  exact ⟨v2, rfl, by rw [← List.append_assoc]; exact hr2, hb1.trans hb2⟩

end Go.Proofs.Ytmohanbgplffcaa
