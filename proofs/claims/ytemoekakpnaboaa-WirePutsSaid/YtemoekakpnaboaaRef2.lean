/-
  What the document's own functions answer: texts as bytes, sameness.
-/
import Derived.Test.YtemoekakpnaboaaRef
import Derived.Deep.QuietTactic
import Derived.BigQuiet
namespace Go.Proofs.Ytemoekakpnaboaa
open Go.RowKit

theorem take_str (s : ByteArray) (k : Nat) (h : k < s.size) : s.data.toList.take (k + 1) = s.data.toList.take k ++ [s[k]] := by
  rw [List.take_succ_eq_append_getElem (by simpa using h)]; rfl
theorem take_next (l : List UInt8) (k : Nat) (h : k < l.length) : l.take (k + 1) = l.take k ++ [l[k]] := List.take_succ_eq_append_getElem h

set_option maxRecDepth 10000 in
set_option maxHeartbeats 400000 in
theorem reftext_any (s : ByteArray) (w : World) (hs : s.size ≤ 549755813888) :
    Calls Try.prog 11 #[.string s] w (Gives w.heap.size (wint s.size ++ s.data.toList) w) := by
  obtain ⟨i0, hi0, hz0, hz1, hz2⟩ := info_parts byte_info
  have hle := wint_le (n := (s.size : Int)) (by omega) (by omega)
  have R := Lib.hid (fun w => refint_any (s.size : Int) w (by omega) (by omega))
  go_enter Try.func11, Try.ntmps11
  go_wp2_with (go_at_call 10; (with_reducible refine (R.out _).mono ?_); rintro e w' ⟨v1, rfl, hr1, hb1⟩)
  go_loopw [3, 4] (fun v i wr => ∃ k : Nat, k ≤ s.size ∧ i = .int .i64 k ∧ Room wr w.heap.size v (wint s.size ++ s.data.toList.take k) ∧ Below w.heap.size w wr) (fun _ i _ => s.size - (intOf i).toNat)
  case atStart => exact ⟨0, Nat.zero_le _, rfl, by rw [List.take_zero, List.append_nil]; exact hr1, hb1⟩
  case round =>
    obtain ⟨k, hk, rfl, hr', hb'⟩ := hrel
    have hlen : s.data.toList.length = s.size := by simp
    by_cases hlt : k < s.size
    · have hpl : (wint s.size ++ s.data.toList.take k).length + 1 ≤ 1099511627776 := by
        rw [List.length_append, List.length_take]
        omega
      have ht := Lib.hid (take_str s k hlt)
      clear hlen
      go_wp2_with (at_builtin; refine wpList_append8 (B := w.heap.size) (l := wint s.size ++ s.data.toList.take k) (m := [s[k]]) rfl (.tmp 14) (.tmp 18) 22 22 rfl 5 i0 Try.underlying22 hi0 hz0 hz1 hz2 (hr'.on (Below.alloc (Below.refl _ _) (Nat.le_refl _) _)) (by have := hb'.size; simp; omega) (src_one _ s[k] Try.underlying22) hpl rfl rfl ?_; intro v' w' hr2 hb2)
      go_roundw
      case rel =>
        refine ⟨k + 1, by omega, by go_num, ?_, hb'.trans ((Below.alloc (Below.refl _ _) hb'.size _).trans hb2)⟩
        rw [ht.out, ← List.append_assoc]
        exact hr2
      case measure => simp [intOf]; omega
    · have hk' : Hid (s.data.toList.take k = s.data.toList) := List.take_of_length_le (by omega)
      clear hlen
      go_wp2
      go_ret
      exact ⟨_, rfl, by rw [hk'.out] at hr'; exact hr', hb'⟩

theorem below_drewN (B : Nat) (w : World) (n : Nat) : Below B w (w.drewN n) := ⟨rfl, rfl, rfl, Nat.le_refl _, fun _ _ => rfl⟩

theorem byte_ne {a b : UInt8} (h : a ≠ b) : ((a.toNat : Int) == (b.toNat : Int)) = false := by
  rw [beq_eq_false_iff_ne]
  intro e
  exact h (UInt8.toNat_inj.1 (by omega))

theorem At.row {w : World} {B : Nat} {A : Option Addr} {c : Nat} {l : List UInt8} (h : At w B A c l) (hp : 0 < l.length) : ∃ b off, A = some ⟨b, off, none⟩ ∧ Row w b off l := by
  obtain ⟨_, _, rfl | ⟨b, off, rfl, _, _, hr⟩⟩ := h
  · cases hp
  · exact ⟨b, off, rfl, hr⟩

set_option maxRecDepth 10000 in
theorem same_at {B B' : Nat} (A A' : Option Addr) (c c' : Nat) (l m : List UInt8) (w : World) (hlm : m.length = l.length) (h1 : At w B A c l) (h2 : At w B' A' c' m) :
    Calls Try.prog 12 #[.slice A l.length c, .slice A' l.length c'] w fun e w' => e = .returned (.bool (decide (l = m))) ∧ ∃ n, w' = w.drewN n := by
  have hl : l.length ≤ maxLen := Nat.le_trans h1.1 h1.2.1
  unfold maxLen at hl
  have HL := Lib.hid hlm
  clear hlm
  go_enter Try.func12, Try.ntmps12
  go_wp2
  go_loopw [5] (fun i wr => ∃ k n : Nat, k ≤ l.length ∧ i = .int .i64 k ∧ l.take k = m.take k ∧ wr = w.drewN n) (fun i _ => l.length - (intOf i).toNat)
  case atStart => exact ⟨0, 0, Nat.zero_le _, rfl, rfl, rfl⟩
  case round =>
    obtain ⟨k, n, hk, rfl, ht, rfl⟩ := hrel
    have HT := Lib.hid ht
    clear ht
    by_cases hlt : k < l.length
    · have hkm : k < m.length := by rw [HL.out]; exact hlt
      obtain ⟨b, off, rfl, r1⟩ := h1.row (by omega)
      obtain ⟨b', off', rfl, r2⟩ := h2.row (by omega)
      have e1 := r1 k hlt
      have e2 := r2 k hkm
      clear h1 h2 r1 r2
      have i0 : (0 : Int) ≤ (k : Int) := by omega
      have i1 : (k : Int) < (l.length : Int) := by omega
      by_cases he : l[k] = m[k]
      · have HE := Lib.hid he
        rw [← he] at e2
        clear he
        go_wp2
        go_quiet (fail)
        go_wp2
        all_goals (go_roundw)
        case rel => exact ⟨k + 1, _, by omega, by go_num, by rw [take_next l k hlt, take_next m k hkm, HT.out, HE.out], rfl⟩
        case measure => simp [intOf]; omega
      · have hne := byte_ne he
        have HD := Lib.hid (decide_eq_false (fun e : l = m => he (by subst e; rfl)))
        clear he
        go_wp2
        go_quiet (fail)
        go_wp2
        go_ret
        exact ⟨ret_bool HD.out.symm, _, World.drewN_drewN ..⟩
    · have hk' : l = m := by
        have := HT.out
        rw [List.take_of_length_le (by omega), List.take_of_length_le (by rw [HL.out]; omega)] at this
        exact this
      have HD := Lib.hid (decide_eq_true hk')
      clear hk'
      go_wp2
      go_ret
      exact ⟨ret_bool HD.out.symm, _, rfl⟩

theorem nat_ne {a b : Nat} (h : a ≠ b) : ((a : Int) == (b : Int)) = false := by
  rw [beq_eq_false_iff_ne]; omega

set_option maxRecDepth 10000 in
theorem same_any {B B' : Nat} {v u : Value} {l m : List UInt8} (w : World) (h1 : Seen w B v l) (h2 : Seen w B' u m) :
    Calls Try.prog 12 #[v, u] w fun e w' => e = .returned (.bool (decide (l = m))) ∧ ∃ n, w' = w.drewN n := by
  obtain ⟨A, c, rfl, h1⟩ := h1
  obtain ⟨A', c', rfl, h2⟩ := h2
  by_cases hl : m.length = l.length
  · rw [hl]
    exact same_at A A' c c' l m w hl h1 h2
  · have hne := nat_ne (fun h => hl h.symm)
    have HD := Lib.hid (decide_eq_false (fun e : l = m => hl (by rw [e])))
    clear h1 h2 hl
    go_enter Try.func12, Try.ntmps12
    go_wp2
    go_ret
    exact ⟨ret_bool HD.out.symm, 0, rfl⟩

end Go.Proofs.Ytemoekakpnaboaa
