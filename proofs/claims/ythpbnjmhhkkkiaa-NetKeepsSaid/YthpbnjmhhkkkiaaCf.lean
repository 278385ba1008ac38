/-
  slices.IndexFunc and slices.DeleteFunc of packets, by whom they are to.
-/
import Derived.Test.YthpbnjmhhkkkiaaCo
namespace Go.Proofs.Ythpbnjmhhkkkiaa
open Go.RowKit
attribute [local go_sem ↓] Go.wp_at_zero Go.wp_at_succ

set_option maxRecDepth 100000 in
theorem cutfn_any (w : World) (z : Nat) (id_ to2 to_ : Int) (A : Option Addr) (n c : Nat) (b : Bool) (hb : (to2 == to_) = b) (hz : w.cell? ⟨z, 0, none⟩ = some (.int .i64 to_)) (hzl : z < w.heap.size) :
    Calls Try.prog 27 #[.agg #[.int .i64 id_, .int .i64 to2, .slice A n c], .pointer (some ⟨z, 0, none⟩)] w fun e w' => e = .returned (.bool b) ∧ Below w.heap.size w w' := by
  have hba := bal w (.cells #[.int .i64 id_, .int .i64 to2, .slice A n c] 29)
  have h2 := (World.cell?_of_block (a := ⟨z, 0, none⟩) (hba.block z hzl)).trans hz
  go_enter Try.func27, Try.ntmps27
  go_wp2
  go_ret
  exact ⟨rfl, hba⟩

def isTo (l : List Pkt) (to_ : Int) (i : Nat) : Prop := (l.getD i default).to_ = to_
def FirstTo (l : List Pkt) (to_ r : Int) : Prop := (r = -1 ∧ ∀ i, i < l.length → ¬ isTo l to_ i) ∨ ∃ k : Nat, k < l.length ∧ r = (k : Int) ∧ isTo l to_ k ∧ ∀ i, i < k → ¬ isTo l to_ i

set_option maxRecDepth 100000 in
set_option maxHeartbeats 2000000 in
theorem index_any (w : World) (z : Nat) (to_ : Int) (A : Option Addr) (c : Nat) (l : List Pkt) (h : PktsAt w w.heap.size (.slice A l.length c) l) (hl : l.length ≤ 1000) (hz : w.cell? ⟨z, 0, none⟩ = some (.int .i64 to_)) (hzl : z < w.heap.size) :
    Calls Try.prog 29 #[.slice A l.length c, .func (.func 27) #[] #[.pointer (some ⟨z, 0, none⟩)]] w fun e w' => ∃ r, e = .returned (.int .i64 r) ∧ FirstTo l to_ r ∧ Below w.heap.size w w' := by
  have HP := Lib.hid h
  have HZ := Lib.hid hz
  clear h hz
  go_enter Try.func29, Try.ntmps29
  go_wp2
  go_loopw [8] (fun j wr => ∃ k : Nat, k ≤ l.length ∧ j = .int .i64 (k : Int) ∧ (∀ i, i < k → ¬ isTo l to_ i) ∧ Below w.heap.size w wr) (fun j _ => l.length - (intOf j).toNat)
  case atStart => exact ⟨0, Nat.zero_le _, rfl, (fun i h => by cases h), Below.refl _ _⟩
  case round =>
    obtain ⟨k, hk, rfl, hno, hbw⟩ := hrel
    have HNO := Lib.hid hno
    have HBW := Lib.hid hbw
    by_cases hlt : k < l.length
    · obtain ⟨b, off, vb, rfl, hb, hbB, hsb, c0, c1, c2⟩ := (HP.out.on hbw).at_ k hlt
      obtain ⟨Ab, cb, rfl, _⟩ := hsb
      have i0 : (0 : Int) ≤ (k : Int) := by omega
      have i1 : (k : Int) < (l.length : Int) := by omega
      have CF := Lib.hid (fun (x : Bool) (hx : (l[k].to_ == to_) = x) => cutfn_any wr z l[k].id l[k].to_ to_ Ab l[k].b.length cb x hx ((World.cell?_of_block (a := ⟨z, 0, none⟩) (hbw.block z hzl)).trans HZ.out) (Nat.lt_of_lt_of_le hzl hbw.size))
      clear hno hbw
      by_cases hto : l[k].to_ = to_
      · have HTO : Hid (isTo l to_ k) := by show isTo l to_ k; unfold isTo; rw [getD_get hlt]; exact hto
        have CT := Lib.hid (CF.out true (by rw [hto]; exact beq_self_eq_true _))
        clear hto CF
        go_wp2_with fail
        go_at_call 27
        refine (CT.out).mono ?_
        rintro e w2 ⟨rfl, hb2⟩
        have HB2 := Lib.hid (HBW.out.trans (hb2.mono HBW.out.size))
        clear hb2
        go_wp2
        go_ret
        exact ⟨_, rfl, .inr ⟨k, hlt, rfl, HTO.out, HNO.out⟩, HB2.out⟩
      · have HTO : Hid (¬ isTo l to_ k) := by show ¬ isTo l to_ k; unfold isTo; rw [getD_get hlt]; exact hto
        have CT := Lib.hid (CF.out false (beq_eq_false_iff_ne.2 hto))
        clear hto CF
        go_wp2_with fail
        go_at_call 27
        refine (CT.out).mono ?_
        rintro e w2 ⟨rfl, hb2⟩
        have HB2 := Lib.hid (HBW.out.trans (hb2.mono HBW.out.size))
        clear hb2
        go_wp2
        go_roundw
        case rel => exact ⟨k + 1, by omega, by go_num, fun i hi => by rcases Nat.lt_succ_iff_lt_or_eq.1 hi with h | rfl; exact HNO.out i h; exact HTO.out, HB2.out⟩
        case measure => simp [intOf]; omega
    · obtain rfl : k = l.length := by omega
      clear hno hbw
      go_wp2
      go_ret
      exact ⟨_, rfl, .inl ⟨rfl, HNO.out⟩, HBW.out⟩

end Go.Proofs.Ythpbnjmhhkkkiaa
