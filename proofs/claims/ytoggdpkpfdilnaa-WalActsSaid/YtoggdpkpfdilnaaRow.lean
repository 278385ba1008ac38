/-
  Records' frames in a row; the same records.
-/
import Derived.Test.YtoggdpkpfdilnaaFew
namespace Go.Proofs.Ytoggdpkpfdilnaa
open Go.RowKit

theorem same_quiet {v u : Value} {l m : List UInt8} {b : Bool} (w : World) (n : Nat) (h1 : Seen w w.heap.size v l) (h2 : Seen w w.heap.size u m) (hb : decide (l = m) = b) :
    Calls Try.prog 16 #[v, u] (w.drewN n) fun e w' => e = .returned (.bool b) ∧ ∃ k, w' = (w.drewN n).drewN k :=
  (same_any (w.drewN n) (h1.on (below_drewN _ _ _)) (h2.on (below_drewN _ _ _))).mono fun e w' ⟨he, k, hw⟩ => ⟨by rw [he, hb], k, hw⟩

set_option maxRecDepth 10000 in
set_option maxHeartbeats 400000 in
theorem sameall_any (v u : Value) (a b : List (List UInt8)) (w : World) (hv : Many w v a) (hu : Many w u b) :
    Calls Try.prog 29 #[v, u] w fun e w' => e = .returned (.bool (decide (a = b))) ∧ Below w.heap.size w w' := by
  obtain ⟨A, c, rfl, hA⟩ := hv
  obtain ⟨A', c', rfl, hA'⟩ := hu
  have hlm : a.length ≤ maxLen := Nat.le_trans hA.1 hA.2.1
  have hlm' : b.length ≤ maxLen := Nat.le_trans hA'.1 hA'.2.1
  unfold maxLen at hlm hlm'
  by_cases hl : b.length = a.length
  · have HL := Lib.hid hl
    rw [hl]
    have HA := Lib.hid hA
    have HA' := Lib.hid hA'
    clear hA hA' hl
    go_enter Try.func29, Try.ntmps29
    go_wp2
    go_loopw [5] (fun i wr => ∃ k : Nat, k ≤ a.length ∧ i = .int .i64 (k : Int) ∧ a.take k = b.take k ∧ Below w.heap.size w wr) (fun i _ => a.length - (intOf i).toNat)
    case atStart => exact ⟨0, Nat.zero_le _, rfl, rfl, Below.refl _ _⟩
    case round =>
      obtain ⟨k, hk, rfl, ht, hb⟩ := hrel
      have HT := Lib.hid ht
      clear ht
      by_cases hlt : k < a.length
      · have hkb : k < b.length := by rw [HL.out]; exact hlt
        obtain ⟨g, off, x, rfl, _, hc1, hs1⟩ := (HA.out.on hb).at_ k hlt
        obtain ⟨g', off', y, rfl, _, hc2, hs2⟩ := (HA'.out.on hb).at_ k hkb
        have i0 : (0 : Int) ≤ (k : Int) := by omega
        have i1 : (k : Int) < (a.length : Int) := by omega
        by_cases he : a[k] = b[k]
        · have Q := Lib.hid (fun n => same_quiet wr n hs1 hs2 (decide_eq_true he))
          have HE := Lib.hid he
          clear he hs1 hs2
          go_wp2
          go_quiet ((go_at_call 16; exact Calls.quiet_of (Q.out _)))
          go_wp2
          all_goals go_roundw
          case rel => exact ⟨k + 1, by omega, by go_num, by rw [takeM a k hlt, takeM b k hkb, HT.out, HE.out], hb.trans (below_drewN _ _ _)⟩
          case measure => simp [intOf]; omega
        · have Q := Lib.hid (fun n => same_quiet wr n hs1 hs2 (decide_eq_false he))
          have HD := Lib.hid (decide_eq_false (fun e : a = b => he (by subst e; rfl)))
          clear he hs1 hs2
          go_wp2
          go_quiet ((go_at_call 16; exact Calls.quiet_of (Q.out _)))
          go_wp2
          go_ret
          exact ⟨ret_bool HD.out.symm, hb.trans (below_drewN _ _ _)⟩
      · have hk' : a = b := by
          have := HT.out
          rw [List.take_of_length_le (by omega), List.take_of_length_le (by rw [HL.out]; omega)] at this
          exact this
        have HD := Lib.hid (decide_eq_true hk')
        clear hk'
        go_wp2
        go_ret
        exact ⟨ret_bool HD.out.symm, hb⟩
  · have hne := nat_ne (fun h => hl h.symm)
    have HD := Lib.hid (decide_eq_false (fun e : a = b => hl (by rw [e])))
    clear hA hA' hl
    go_enter Try.func29, Try.ntmps29
    go_wp2
    go_ret
    exact ⟨ret_bool HD.out.symm, Below.refl _ _⟩

end Go.Proofs.Ytoggdpkpfdilnaa
