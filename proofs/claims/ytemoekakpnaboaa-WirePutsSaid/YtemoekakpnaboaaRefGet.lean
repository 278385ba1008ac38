/-
  The document's own reading of a number: the same answer.
-/
import Derived.Test.YtemoekakpnaboaaGet
import Derived.Test.YtemoekakpnaboaaWr
namespace Go.Proofs.Ytemoekakpnaboaa
open Go.RowKit

def ScanTo (l : List UInt8) (p : Nat) (v : Value) : Prop := ∃ q e : Nat, q = p + e ∧ e ≤ 10 ∧ e ≤ (l.drop p).length ∧ v = .int .i64 (q : Int) ∧ Mores ((l.drop p).take e)
def BackTo (l : List UInt8) (p e : Nat) (m i : Value) : Prop := ∃ (j M : Nat) (iv : Int), iv + 1 = p + j ∧ j ≤ e + 1 ∧ i = .int .i64 iv ∧ m = .int .u64 (M : Int) ∧ M = tailv (l.drop p) e j ∧ M < 18446744073709551616 ∧ (j ≤ e → tailv (l.drop p) e (j + 1) ≤ 144115188075855871)

set_option maxRecDepth 100000 in
set_option maxHeartbeats 1000000 in
theorem refgetint_at (A : Option Addr) (c : Nat) (l : List UInt8) (p : Nat) (w : World) (hA : At w w.heap.size A c l) (hp : p ≤ 4611686018427387904) :
    Calls Try.prog 19 #[.slice A l.length c, .int .i64 p] w fun e w' => e = .returned (gotI l p) ∧ w = w' := by
  have hl : l.length ≤ maxLen := Nat.le_trans hA.1 hA.2.1
  unfold maxLen at hl
  go_enter Try.func19, Try.ntmps19
  go_wp2_with fail
  go_loop [7] (ScanTo l p) (fun v => (p + 10 - intOf v).toNat)
  case atStart => exact ⟨p, 0, rfl, by omega, Nat.zero_le _, rfl, by intro x hx; simp at hx⟩
  case round =>
    obtain ⟨q, e, hq, he, hel, rfl, hm⟩ := hrel
    have hld : (l.drop p).length = l.length - p := List.length_drop
    by_cases hlt : q < l.length
    · obtain ⟨b, off, rfl, r1⟩ := hA.row (by omega)
      have e1 := r1 q hlt
      have hc8 := l[q].toNat_lt
      have hgl : e < (l.drop p).length := by omega
      have hge : (l.drop p)[e] = l[q] := by subst hq; exact List.getElem_drop ..
      by_cases h10 : e = 10
      · have HN := Lib.hid (scan_long hgl (by omega) hm)
        have hq10 : (p : Int) + 10 ≤ (q : Int) := by omega
        clear hq he hel hm hld r1 hA hge h10
        go_wp2
        go_ret3
        exact ⟨gotI_none HN.out, rfl⟩
      · have hq10 : (q : Int) < (p : Int) + 10 := by omega
        by_cases hc : 128 ≤ l[q].toNat
        · have HM := Lib.hid (mores_next hgl hm (by rw [hge]; exact hc))
          have HQ := Lib.hid hq
          have HL := Lib.hid hld
          clear hq hm hld r1 hA hge
          go_wp2
          go_round
          case rel => exact ⟨q + 1, e + 1, by have := HQ.out; omega, by omega, by omega, by go_num, HM.out⟩
          case measure => have := HQ.out; simp [intOf]; omega
        · have hc' : (l[q].toNat : Int) < 128 := by omega
          have he9 : e ≤ 9 := by omega
          have hcs : ((l.drop p)[e]).toNat < 128 := by rw [hge]; omega
          have HScan := Lib.hid (scan_is hgl he9 hm hcs)
          have HBig := Lib.hid (fun j => tailv_big (j := j) hgl he9 hcs)
          have HFit := Lib.hid (tailv_fits hgl he9 hcs)
          have HStep := Lib.hid (fun j => tailv_step (j := j) hgl)
          have HAll := Lib.hid (tailv_all hgl)
          have HQ := Lib.hid hq
          have HG := Lib.hid hge
          have HLD := Lib.hid hld
          have hpq : p ≤ q := by omega
          have R1 := Lib.hid r1
          clear hq he hm hld r1 hA hge h10
          go_wp2
          go_loop [8, 9] (BackTo l p e) (fun _ i => (intOf i + 1 - p).toNat)
          case atStart => exact ⟨e + 1, 0, q, by have := HQ.out; omega, Nat.le_refl _, rfl, rfl, HAll.out.symm, by omega, fun h => by omega⟩
          case round =>
            obtain ⟨j, M, iv, hiv, hj, rfl, rfl, hM, hM64, hprev⟩ := hrel
            by_cases hj0 : j = 0
            · subst hj0
              have hivp : iv < (p : Int) := by omega
              have HScan2 : Hid (dec 0 (l.drop p) = if l[q].toNat = 0 ∧ 0 < e then none else some (M, e + 1)) := by
                have := HScan.out
                rw [if_neg (HFit.out (hprev (Nat.zero_le _))), ← tailv_zero, ← hM, HG.out] at this
                exact this
              clear hM hprev hiv
              by_cases h0 : l[q].toNat = 0 ∧ 0 < e
              · have HN : Hid (dec 0 (l.drop p) = none) := HScan2.out.trans (if_pos h0)
                have hz : ((l[q].toNat : Int) == 0) = true := by rw [beq_iff_eq]; omega
                have hqp : (p : Int) < (q : Int) := by have := HQ.out; omega
                clear h0
                go_wp2
                go_ret3
                exact ⟨gotI_none HN.out, rfl⟩
              · have HN : Hid (dec 0 (l.drop p) = some (M, e + 1)) := HScan2.out.trans (if_neg h0)
                have HP : Hid ((q : Int) + 1 = ((p + (e + 1) : Nat) : Int)) := by
                  have := HQ.out
                  show (q : Int) + 1 = _
                  omega
                have HZ0 : Hid (M % 2 = 1 → -((M : Int) / 2) - 1 = zag M) := fun h => by unfold zag; rw [if_pos h]; omega
                have HZ1 : Hid (¬ M % 2 = 1 → ((M : Int) / 2) = zag M) := fun h => by unfold zag; rw [if_neg h]; omega
                by_cases hodd : M % 2 = 1
                all_goals by_cases he0 : 0 < e
                · have hodd' : ((M : Int) % 2 == 1) = true := by rw [beq_iff_eq]; omega
                  have hqp : (p : Int) < (q : Int) := by have := HQ.out; omega
                  have hz : ((l[q].toNat : Int) == 0) = false := by rw [beq_eq_false_iff_ne]; omega
                  have HO := Lib.hid hodd
                  clear h0 hodd
                  go_wp2
                  go_ret3
                  exact ⟨by rw [HP.out, HZ0.out HO.out]; exact gotI_some HN.out, rfl⟩
                · have hodd' : ((M : Int) % 2 == 1) = true := by rw [beq_iff_eq]; omega
                  have hqp : (q : Int) ≤ (p : Int) := by have := HQ.out; omega
                  have HO := Lib.hid hodd
                  clear h0 hodd
                  go_wp2
                  go_ret3
                  exact ⟨by rw [HP.out, HZ0.out HO.out]; exact gotI_some HN.out, rfl⟩
                · have hodd' : ((M : Int) % 2 == 1) = false := by rw [beq_eq_false_iff_ne]; omega
                  have hqp : (p : Int) < (q : Int) := by have := HQ.out; omega
                  have hz : ((l[q].toNat : Int) == 0) = false := by rw [beq_eq_false_iff_ne]; omega
                  have HO := Lib.hid hodd
                  clear h0 hodd
                  go_wp2
                  go_ret3
                  exact ⟨by rw [HP.out, HZ1.out HO.out]; exact gotI_some HN.out, rfl⟩
                · have hodd' : ((M : Int) % 2 == 1) = false := by rw [beq_eq_false_iff_ne]; omega
                  have hqp : (q : Int) ≤ (p : Int) := by have := HQ.out; omega
                  have HO := Lib.hid hodd
                  clear h0 hodd
                  go_wp2
                  go_ret3
                  exact ⟨by rw [HP.out, HZ1.out HO.out]; exact gotI_some HN.out, rfl⟩
            · obtain ⟨k, rfl⟩ : ∃ k, j = k + 1 := ⟨j - 1, by omega⟩
              obtain ⟨r, hr⟩ : ∃ r : Nat, r = p + k := ⟨_, rfl⟩
              obtain rfl : iv = (r : Int) := by omega
              have hrl : r < l.length := by have := HQ.out; omega
              have e2 := R1.out r hrl
              have hb8 := l[r].toNat_lt
              have hkl : k < (l.drop p).length := by omega
              have hke : (l.drop p)[k] = l[r] := by subst hr; exact List.getElem_drop ..
              have hpr : (p : Int) ≤ (r : Int) := by omega
              by_cases hov : 144115188075855871 < M
              · have HN : Hid (dec 0 (l.drop p) = none) := by
                  have := HScan.out
                  rw [if_pos (HBig.out k (by rw [← hM]; exact hov))] at this
                  exact this
                clear hiv hM hprev hr hke
                go_wp2
                go_ret3
                exact ⟨gotI_none HN.out, rfl⟩
              · have hov' : (M : Int) ≤ 144115188075855871 := by omega
                have HNext : Hid (tailv (l.drop p) e k = M * 128 + l[r].toNat % 128) := by
                  have := HStep.out k (by omega)
                  rw [hke, ← hM] at this
                  exact this
                have HR := Lib.hid hr
                have HM := Lib.hid hM
                clear hiv hM hprev hr hke
                go_wp2
                go_round
                case rel => exact ⟨k, M * 128 + l[r].toNat % 128, (r : Int) - 1, by have := HR.out; omega, by omega, rfl, by go_num, HNext.out.symm, by omega, fun _ => by rw [← HM.out]; omega⟩
                case measure => have := HR.out; simp [intOf]; omega
    · have HN := Lib.hid (scan_over (L := l.drop p) (e := e) (by omega) hm)
      have hge : (l.length : Int) ≤ (q : Int) := by omega
      clear hq he hel hm hld hA
      go_wp2
      go_ret3
      exact ⟨gotI_none HN.out, rfl⟩

end Go.Proofs.Ytemoekakpnaboaa
