/-
  NetCounts, over whatever functions of nets that answer as the document asks.
-/
import Derived.Test.YthpbnjmhhkkkiaaNa
namespace Go.Proofs.Ythpbnjmhhkkkiaa
open Go.RowKit
attribute [local go_sem ↓] Go.wp_at_zero Go.wp_at_succ

@[local go_sem] theorem run_netlist (w : World) (x : Int) (A : Option Addr) (n c : Nat) : (Instr.field 24 (.agg #[.int .i64 x, .slice A n c]) 1).run Try.prog w = .ok (.slice A n c) w := by kernel_rfl

theorem netAt_len {w : World} {B : Nat} {v : Value} {n : Nett} {k : Nat} (h : NetAt w B v n) (hk : n.l.length = k) : ∃ A c, v = .agg #[.int .i64 n.next, .slice A k c] ∧ k ≤ c := by
  subst hk; exact netAt_slice h
theorem taken_len0 {n : Nett} {i : Int} (h : n.l.length = 0) : (n.taken i).2.1.l.length = 0 := by unfold Nett.taken; rw [if_pos h]; exact h
theorem copied_len0 {n : Nett} {i : Int} (h : n.l.length = 0) : (n.copied i).l.length = 0 := by unfold Nett.copied; rw [if_pos h]; exact h
theorem send_len {n : Nett} {t : Int} {b : List UInt8} {k : Nat} (h : n.l.length = k) : (n.send t b).l.length = k + 1 := by unfold Nett.send; simp [h]
theorem taken_len {n : Nett} {i : Int} {k : Nat} (h : n.l.length = k + 1) : (n.taken i).2.1.l.length = k := by
  have hp := place_lt (n := n) (i := i) (by omega)
  unfold Nett.taken; rw [if_neg (by omega)]
  show (n.l.eraseIdx (n.place i)).length = k
  rw [List.length_eraseIdx, if_pos hp]; omega
theorem copied_len {n : Nett} {i : Int} {k : Nat} (h : n.l.length = k + 1) : (n.copied i).l.length = k + 1 + 1 := by
  unfold Nett.copied; rw [if_neg (by omega)]; exact send_len h

section
variable (HAW : AwakeOk) (HTA : TakeOk) (HDR : DropOk) (HCO : CopyOk) (HSE : SendOk)
include HAW

set_option maxRecDepth 100000 in
set_option maxHeartbeats 4000000 in
theorem counts_no (w : World) (v : Value) (n : Nett) (i : Int) (h : NetAt w w.heap.size v n) (hno : ¬ n.right ∨ i < 0) :
    Calls Try.prog 4 #[v, .int .i64 i] w (Fine w) := by
  have HN := Lib.hid h
  obtain ⟨A, c, rfl, hlc⟩ := netAt_slice h
  have hb0 := bal w (.cells #[.int .i64 n.next, .slice A n.l.length c] 24)
  clear h
  obtain ⟨bb, hbb⟩ : ∃ bb : Bool, bb = true ↔ n.right := by
    by_cases hr : n.right
    · exact ⟨true, fun _ => hr, fun _ => rfl⟩
    · exact ⟨false, fun e => (by cases e), fun e => absurd e hr⟩
  have HR : Hid (∀ W, Below w.heap.size w W → Calls Try.prog 8 #[.agg #[.int .i64 n.next, .slice A n.l.length c]] W fun e w' => e = .returned (.bool bb) ∧ Below W.heap.size W w') := fun W hW => right_is (HN.out.on hW) hbb
  have hx0 := box_made w [.int .i64 n.next, .slice A n.l.length c] 24
  have hi : bb = true → i < 0 := fun e => hno.elim (fun q => absurd (hbb.1 e) q) id
  clear hno hbb
  cases bb
  · clear hi
    go_enter Try.func4, Try.ntmps4
    go_wp2_with fail
    go_at_call 7
    refine (HAW _).mono ?_
    rintro e w1 ⟨rfl, hb1⟩
    have hd1 := bt hb0 hb1
    have z0 := (hx0.on hb1).get 0 rfl
    have z1 := (hx0.on hb1).get 1 rfl
    go_wp2_with fail
    go_at_call 8
    refine (HR.out _ hd1).mono ?_
    rintro e w2 ⟨rfl, hb2⟩
    have hd2 := bt hd1 hb2
    go_wp2_with fail
    go_at_call 7
    refine (HAW _).mono ?_
    rintro e w3 ⟨rfl, hb3⟩
    go_wp2
    go_ret
    exact ⟨rfl, bt hd2 hb3⟩
  · have hi := hi rfl
    go_enter Try.func4, Try.ntmps4
    go_wp2_with fail
    go_at_call 7
    refine (HAW _).mono ?_
    rintro e w1 ⟨rfl, hb1⟩
    have hd1 := bt hb0 hb1
    have z0 := (hx0.on hb1).get 0 rfl
    have z1 := (hx0.on hb1).get 1 rfl
    go_wp2_with fail
    go_at_call 8
    refine (HR.out _ hd1).mono ?_
    rintro e w2 ⟨rfl, hb2⟩
    have hd2 := bt hd1 hb2
    go_wp2_with fail
    go_at_call 7
    refine (HAW _).mono ?_
    rintro e w3 ⟨rfl, hb3⟩
    go_wp2
    go_ret
    exact ⟨rfl, bt hd2 hb3⟩
include HTA HDR HCO HSE

set_option maxRecDepth 100000 in
set_option maxHeartbeats 8000000 in
theorem counts_yes (w : World) (v : Value) (n : Nett) (i : Int) (k l1 l2 l3 : Nat) (h : NetAt w w.heap.size v n) (hr : n.right) (hi : 0 ≤ i) (hk : n.l.length = k) (hk6 : k ≤ 60)
    (h1 : (n.taken i).2.1.l.length = l1) (h2 : (n.copied i).l.length = l2) (h3 : (n.send 0 []).l.length = l3)
    (e1 : (k = 0 ∧ l1 = 0 ∧ l2 = 0 ∧ l3 = 1) ∨ (0 < k ∧ l1 + 1 = k ∧ l2 = k + 1 ∧ l3 = k + 1)) :
    Calls Try.prog 4 #[v, .int .i64 i] w (Fine w) := by
  have HN := Lib.hid h
  obtain ⟨A, c, rfl, hlc⟩ := netAt_len h hk
  have hb0 := bal w (.cells #[.int .i64 n.next, .slice A k c] 24)
  have hx0 := box_made w [.int .i64 n.next, .slice A k c] 24
  have KR : Hid (∀ W, Below w.heap.size w W → Calls Try.prog 8 #[.agg #[.int .i64 n.next, .slice A k c]] W fun e w' => e = .returned (.bool true) ∧ Below W.heap.size W w') := fun W hW => right_is (HN.out.on hW) ⟨fun _ => hr, fun _ => rfl⟩
  have KT : Hid (∀ W, Below w.heap.size w W → Calls Try.prog 9 #[.agg #[.int .i64 n.next, .slice A k c], .int .i64 i] W (Took (n.taken i) W)) := fun W hW => HTA W _ n i (HN.out.on hW) hr hi
  have KS : Hid (∀ W, Below w.heap.size w W → Calls Try.prog 13 #[.agg #[.int .i64 n.next, .slice A k c], .int .i64 0, .slice none 0 0] W (GivesNet (n.send 0 []) W)) := fun W hW => HSE W _ _ n 0 [] (HN.out.on hW) Seen.nil hr (by simp)
  have KD : Hid (∀ W, Below w.heap.size w W → Calls Try.prog 15 #[.agg #[.int .i64 n.next, .slice A k c], .int .i64 i] W (GivesNet (n.taken i).2.1 W)) := fun W hW => HDR W _ n i (HN.out.on hW) hr hi
  have KC : Hid (∀ W, Below w.heap.size w W → Calls Try.prog 16 #[.agg #[.int .i64 n.next, .slice A k c], .int .i64 i] W (GivesNet (n.copied i) W)) := fun W hW => HCO W _ n i (HN.out.on hW) hr hi
  obtain ⟨⟨pk, m, ok⟩, ht⟩ : ∃ t : Pkt × Nett × Bool, t = n.taken i := ⟨_, rfl⟩
  rw [← ht] at KT KD h1
  obtain ⟨nc, hnc⟩ : ∃ nc, nc = n.copied i := ⟨_, rfl⟩
  obtain ⟨ns, hns⟩ : ∃ ns, ns = n.send 0 [] := ⟨_, rfl⟩
  rw [← hnc] at KC h2
  rw [← hns] at KS h3
  have hib : decide (i < 0) = false := decide_eq_false (by omega)
  have H1 : Hid (m.l.length = l1) := h1
  have H2 := Lib.hid h2
  have H3 := Lib.hid h3
  have HE := Lib.hid e1
  clear h hr ht hi hnc hns hk h1 h2 h3 e1
  have go : ∀ (less more : Int), True := fun _ _ => trivial
  go_enter Try.func4, Try.ntmps4
  go_wp2_with fail
  go_at_call 7
  refine (HAW _).mono ?_
  rintro e w1 ⟨rfl, hb1⟩
  have hd1 := bt hb0 hb1
  have hx1 := hx0.on hb1
  have z0 := hx1.get 0 rfl
  have z1 := hx1.get 1 rfl
  go_wp2_with fail
  go_at_call 8
  refine (KR.out _ hd1).mono ?_
  rintro e w2 ⟨rfl, hb2⟩
  have hd2 := bt hd1 hb2
  have hx2 := hx1.on hb2
  have y0 := hx2.get 0 rfl
  have y1 := hx2.get 1 rfl
  by_cases hk0 : k = 0
  · have hkq : decide ((0 : Int) < (k : Int)) = false := decide_eq_false (by omega)
    have hkr : decide (0 < k) = false := decide_eq_false (by omega)
    have q1 : ((l1 : Int) == (k : Int)) = true := by have := HE.out; simp; omega
    have q2 : ((l2 : Int) == (k : Int)) = true := by have := HE.out; simp; omega
    have q3 : ((l3 : Int) == (k : Int) + 1) = true := by have := HE.out; simp; omega
    clear hk0
    go_wp2_with fail
    go_at_call 9
    refine (KT.out _ hd2).mono ?_
    rintro e w3 ⟨pv, mv, rfl, hp, hm, hb3⟩
    obtain ⟨A1, n1, c1, rfl⟩ := pktAt_slice hp
    obtain ⟨A2, c2, rfl, hc2⟩ := netAt_len hm H1.out
    have v3 := bal w3 (.cells #[.int .i64 pk.id, .int .i64 pk.to_, .slice A1 n1 c1] 29)
    have v3' := bal (w3.alloc (.cells #[.int .i64 pk.id, .int .i64 pk.to_, .slice A1 n1 c1] 29)) (.cells #[.int .i64 m.next, .slice A2 l1 c2] 24)
    have hx4 := ((hx2.on hb3).on v3).on v3'
    have y40 := hx4.get 0 rfl
    have y41 := hx4.get 1 rfl
    have hd3 := bt (bt (bt hd2 hb3) v3) v3'
    go_wp2_with fail
    go_at_call 15
    refine (KD.out _ hd3).mono ?_
    rintro e w5 ⟨u5, rfl, hu5, hb5⟩
    obtain ⟨A5, c5, rfl, hc5⟩ := netAt_len hu5 H1.out
    have hx5 := hx4.on hb5
    have y50 := hx5.get 0 rfl
    have y51 := hx5.get 1 rfl
    have hd5 := bt hd3 hb5
    go_wp2_with fail
    go_at_call 16
    refine (KC.out _ hd5).mono ?_
    rintro e w6 ⟨u6, rfl, hu6, hb6⟩
    obtain ⟨A6, c6, rfl, hc6⟩ := netAt_len hu6 H2.out
    have hx6 := hx5.on hb6
    have y60 := hx6.get 0 rfl
    have y61 := hx6.get 1 rfl
    have hd6 := bt hd5 hb6
    go_wp2_with fail
    go_at_call 13
    refine (KS.out _ hd6).mono ?_
    rintro e w7 ⟨u7, rfl, hu7, hb7⟩
    obtain ⟨A7, c7, rfl, hc7⟩ := netAt_len hu7 H3.out
    go_wp2
    go_ret
    exact ⟨rfl, bt hd6 hb7⟩
  · have hkp : (0 : Int) < (k : Int) := by omega
    have hkq : decide ((0 : Int) < (k : Int)) = true := decide_eq_true hkp
    have hkr : decide (0 < k) = true := decide_eq_true (by omega)
    have q1 : ((l1 : Int) == (k : Int) - 1) = true := by have := HE.out; simp; omega
    have q2 : ((l2 : Int) == (k : Int) + 1) = true := by have := HE.out; simp; omega
    have q3 : ((l3 : Int) == (k : Int) + 1) = true := by have := HE.out; simp; omega
    clear hk0
    go_wp2_with fail
    go_at_call 9
    refine (KT.out _ hd2).mono ?_
    rintro e w3 ⟨pv, mv, rfl, hp, hm, hb3⟩
    obtain ⟨A1, n1, c1, rfl⟩ := pktAt_slice hp
    obtain ⟨A2, c2, rfl, hc2⟩ := netAt_len hm H1.out
    have v3 := bal w3 (.cells #[.int .i64 pk.id, .int .i64 pk.to_, .slice A1 n1 c1] 29)
    have v3' := bal (w3.alloc (.cells #[.int .i64 pk.id, .int .i64 pk.to_, .slice A1 n1 c1] 29)) (.cells #[.int .i64 m.next, .slice A2 l1 c2] 24)
    have hx4 := ((hx2.on hb3).on v3).on v3'
    have y40 := hx4.get 0 rfl
    have y41 := hx4.get 1 rfl
    have hd3 := bt (bt (bt hd2 hb3) v3) v3'
    go_wp2_with fail
    go_at_call 15
    refine (KD.out _ hd3).mono ?_
    rintro e w5 ⟨u5, rfl, hu5, hb5⟩
    obtain ⟨A5, c5, rfl, hc5⟩ := netAt_len hu5 H1.out
    have hx5 := hx4.on hb5
    have y50 := hx5.get 0 rfl
    have y51 := hx5.get 1 rfl
    have hd5 := bt hd3 hb5
    go_wp2_with fail
    go_at_call 16
    refine (KC.out _ hd5).mono ?_
    rintro e w6 ⟨u6, rfl, hu6, hb6⟩
    obtain ⟨A6, c6, rfl, hc6⟩ := netAt_len hu6 H2.out
    have hx6 := hx5.on hb6
    have y60 := hx6.get 0 rfl
    have y61 := hx6.get 1 rfl
    have hd6 := bt hd5 hb6
    go_wp2_with fail
    go_at_call 13
    refine (KS.out _ hd6).mono ?_
    rintro e w7 ⟨u7, rfl, hu7, hb7⟩
    obtain ⟨A7, c7, rfl, hc7⟩ := netAt_len hu7 H3.out
    go_wp2
    go_ret
    exact ⟨rfl, bt hd6 hb7⟩
end

end Go.Proofs.Ythpbnjmhhkkkiaa
