/-
  NetActs, over whatever functions of nets that answer as the document asks.
-/
import Derived.Test.YthpbnjmhhkkkiaaNp
namespace Go.Proofs.Ythpbnjmhhkkkiaa
open Go.RowKit
attribute [local go_sem ↓] Go.wp_at_zero Go.wp_at_succ

def Fine (w : World) (e : Ending) (w' : World) : Prop := e = .returned (.bool true) ∧ Below w.heap.size w w'

section
variable (HAW : AwakeOk) (HTA : TakeOk) (HDR : DropOk) (HCO : CopyOk) (HSE : SendOk) (HCU : CutOk)
include HAW

set_option maxRecDepth 100000 in
set_option maxHeartbeats 4000000 in
theorem acts_no (w : World) (v vb : Value) (n : Nett) (to_ i : Int) (b : List UInt8) (h : NetAt w w.heap.size v n) (hs : Seen w w.heap.size vb b) (hno : ¬ n.right ∨ 500 < b.length ∨ i < 0) :
    Calls Try.prog 3 #[v, .int .i64 to_, vb, .int .i64 i] w (Fine w) := by
  have HN := Lib.hid h
  obtain ⟨A, c, rfl, hlc⟩ := netAt_slice h
  obtain ⟨Ab, cb, rfl, hAb⟩ := hs
  have hcb : b.length ≤ cb := hAb.1
  have hb0 := bal w (.cells #[.int .i64 n.next, .slice A n.l.length c] 24)
  clear h hAb
  by_cases hr : n.right
  · have HR : Hid (∀ W, Below w.heap.size w W → Calls Try.prog 8 #[.agg #[.int .i64 n.next, .slice A n.l.length c]] W fun e w' => e = .returned (.bool true) ∧ Below W.heap.size W w') := fun W hW => right_is (HN.out.on hW) ⟨fun _ => hr, fun _ => rfl⟩
    by_cases h5 : 500 < b.length
    · have h5b : decide ((500 : Int) < (b.length : Int)) = true := decide_eq_true (by omega)
      have h5c : (500 : Int) < (b.length : Int) := by omega
      clear hno hr
      go_enter Try.func3, Try.ntmps3
      go_wp2_with fail
      go_at_call 7
      refine (HAW _).mono ?_
      rintro e w1 ⟨rfl, hb1⟩
      have hd1 := bt hb0 hb1
      have z0 := ((box_made w [.int .i64 n.next, .slice A n.l.length c] 24).on hb1).get 0 rfl
      have z1 := ((box_made w [.int .i64 n.next, .slice A n.l.length c] 24).on hb1).get 1 rfl
      go_wp2_with fail
      go_at_call 8
      refine (HR.out _ hd1).mono ?_
      rintro e w2 ⟨rfl, hb2⟩
      have hd2 := bt hd1 hb2
      go_wp2_with fail
      go_at_call 7
      refine (HAW _).mono ?_
      rintro e w3 ⟨rfl, hb3⟩
      go_wp2
      go_ret
      exact ⟨rfl, bt hd2 hb3⟩
    · have hi : i < 0 := by
        rcases hno with h | h | h
        · exact absurd hr h
        · exact absurd h h5
        · exact h
      have h5b : decide ((500 : Int) < (b.length : Int)) = false := decide_eq_false (by omega)
      have h5c : decide (500 < b.length) = false := decide_eq_false h5
      clear hno hr h5
      go_enter Try.func3, Try.ntmps3
      go_wp2_with fail
      go_at_call 7
      refine (HAW _).mono ?_
      rintro e w1 ⟨rfl, hb1⟩
      have hd1 := bt hb0 hb1
      have z0 := ((box_made w [.int .i64 n.next, .slice A n.l.length c] 24).on hb1).get 0 rfl
      have z1 := ((box_made w [.int .i64 n.next, .slice A n.l.length c] 24).on hb1).get 1 rfl
      go_wp2_with fail
      go_at_call 8
      refine (HR.out _ hd1).mono ?_
      rintro e w2 ⟨rfl, hb2⟩
      have hd2 := bt hd1 hb2
      go_wp2_with fail
      go_at_call 7
      refine (HAW _).mono ?_
      rintro e w3 ⟨rfl, hb3⟩
      go_wp2
      go_ret
      exact ⟨rfl, bt hd2 hb3⟩
  · have HR : Hid (∀ W, Below w.heap.size w W → Calls Try.prog 8 #[.agg #[.int .i64 n.next, .slice A n.l.length c]] W fun e w' => e = .returned (.bool false) ∧ Below W.heap.size W w') := fun W hW => right_is (HN.out.on hW) ⟨fun e => (by cases e), fun e => absurd e hr⟩
    clear hno hr
    go_enter Try.func3, Try.ntmps3
    go_wp2_with fail
    go_at_call 7
    refine (HAW _).mono ?_
    rintro e w1 ⟨rfl, hb1⟩
    have hd1 := bt hb0 hb1
    have z0 := ((box_made w [.int .i64 n.next, .slice A n.l.length c] 24).on hb1).get 0 rfl
    have z1 := ((box_made w [.int .i64 n.next, .slice A n.l.length c] 24).on hb1).get 1 rfl
    go_wp2_with fail
    go_at_call 8
    refine (HR.out _ hd1).mono ?_
    rintro e w2 ⟨rfl, hb2⟩
    have hd2 := bt hd1 hb2
    go_wp2_with fail
    go_at_call 7
    refine (HAW _).mono ?_
    rintro e w3 ⟨rfl, hb3⟩
    go_wp2
    go_ret
    exact ⟨rfl, bt hd2 hb3⟩
include HTA HDR HCO HSE HCU

set_option maxRecDepth 100000 in
set_option maxHeartbeats 8000000 in
theorem acts_yes (w : World) (v vb : Value) (n : Nett) (to_ i : Int) (b : List UInt8) (h : NetAt w w.heap.size v n) (hs : Seen w w.heap.size vb b) (hr : n.right) (h5 : b.length ≤ 500) (hi : 0 ≤ i) :
    Calls Try.prog 3 #[v, .int .i64 to_, vb, .int .i64 i] w (Fine w) := by
  have HN := Lib.hid h
  have HS := Lib.hid hs
  have HR := Lib.hid hr
  obtain ⟨A, c, rfl, hlc⟩ := netAt_slice h
  obtain ⟨Ab, cb, rfl, hAb⟩ := hs
  have hcb : b.length ≤ cb := hAb.1
  have hb0 := bal w (.cells #[.int .i64 n.next, .slice A n.l.length c] 24)
  have hx0 := box_made w [.int .i64 n.next, .slice A n.l.length c] 24
  have KR : Hid (∀ W, Below w.heap.size w W → Calls Try.prog 8 #[.agg #[.int .i64 n.next, .slice A n.l.length c]] W fun e w' => e = .returned (.bool true) ∧ Below W.heap.size W w') := fun W hW => right_is (HN.out.on hW) ⟨fun _ => hr, fun _ => rfl⟩
  have KT : Hid (∀ W, Below w.heap.size w W → Calls Try.prog 9 #[.agg #[.int .i64 n.next, .slice A n.l.length c], .int .i64 i] W (Took (n.taken i) W)) := fun W hW => HTA W _ n i (HN.out.on hW) hr hi
  have KT' : Hid (∀ W, Below w.heap.size w W → Calls Try.prog 10 #[.agg #[.int .i64 n.next, .slice A n.l.length c], .int .i64 i] W (Took (n.taken i) W)) := fun W hW => rtake_is (HN.out.on hW) hr hi
  have KS : Hid (∀ W, Below w.heap.size w W → Calls Try.prog 13 #[.agg #[.int .i64 n.next, .slice A n.l.length c], .int .i64 to_, .slice Ab b.length cb] W (GivesNet (n.send to_ b) W)) := fun W hW => HSE W _ _ n to_ b (HN.out.on hW) (HS.out.on hW) hr h5
  have KS' : Hid (∀ W, Below w.heap.size w W → Calls Try.prog 14 #[.agg #[.int .i64 n.next, .slice A n.l.length c], .int .i64 to_, .slice Ab b.length cb] W (GivesNet (n.send to_ b) W)) := fun W hW => rsend_is to_ (HN.out.on hW) (HS.out.on hW) hr
  have KD : Hid (∀ W, Below w.heap.size w W → Calls Try.prog 15 #[.agg #[.int .i64 n.next, .slice A n.l.length c], .int .i64 i] W (GivesNet (n.taken i).2.1 W)) := fun W hW => HDR W _ n i (HN.out.on hW) hr hi
  have KC : Hid (∀ W, Below w.heap.size w W → Calls Try.prog 16 #[.agg #[.int .i64 n.next, .slice A n.l.length c], .int .i64 i] W (GivesNet (n.copied i) W)) := fun W hW => HCO W _ n i (HN.out.on hW) hr hi
  have KC' : Hid (∀ W, Below w.heap.size w W → Calls Try.prog 17 #[.agg #[.int .i64 n.next, .slice A n.l.length c], .int .i64 i] W (GivesNet (n.copied i) W)) := fun W hW => rcopy_is (HN.out.on hW) hr hi
  have KU : Hid (∀ W, Below w.heap.size w W → Calls Try.prog 18 #[.agg #[.int .i64 n.next, .slice A n.l.length c], .int .i64 to_] W (GivesNet (n.cutTo to_) W)) := fun W hW => HCU W _ n to_ (HN.out.on hW) hr
  have KU' : Hid (∀ W, Below w.heap.size w W → Calls Try.prog 19 #[.agg #[.int .i64 n.next, .slice A n.l.length c], .int .i64 to_] W (GivesNet (n.cutTo to_) W)) := fun W hW => rcut_is to_ (HN.out.on hW) hr
  obtain ⟨⟨pk, m, ok⟩, ht⟩ : ∃ t : Pkt × Nett × Bool, t = n.taken i := ⟨_, rfl⟩
  rw [← ht] at KT KT' KD
  have h5b : decide ((500 : Int) < (b.length : Int)) = false := decide_eq_false (by omega)
  have h5c : decide (500 < b.length) = false := decide_eq_false (by omega)
  have hib : decide (i < 0) = false := decide_eq_false (by omega)
  clear h hAb hr ht h5 hi
  go_enter Try.func3, Try.ntmps3
  go_wp2_with fail
  go_at_call 7
  refine (HAW _).mono ?_
  rintro e w1 ⟨rfl, hb1⟩
  have hd1 := bt hb0 hb1
  have hx1 := hx0.on hb1
  have z0 := hx1.get 0 rfl
  have z1 := hx1.get 1 rfl
  go_wp2_with fail
  go_at_call 8
  refine (KR.out _ hd1).mono ?_
  rintro e w2 ⟨rfl, hb2⟩
  have hd2 := bt hd1 hb2
  have hx2 := hx1.on hb2
  have y0 := hx2.get 0 rfl
  have y1 := hx2.get 1 rfl
  go_wp2_with fail
  go_at_call 9
  refine (KT.out _ hd2).mono ?_
  rintro e w3 ⟨pv, mv, rfl, hp, hm, hb3⟩
  have HP := Lib.hid hp
  have HM := Lib.hid hm
  obtain ⟨A1, n1, c1, rfl⟩ := pktAt_slice hp
  obtain ⟨A2, c2, rfl, _⟩ := netAt_slice hm
  have hd3 := bt hd2 hb3
  have hx3 := hx2.on hb3
  have v3 := bal w3 (.cells #[.int .i64 pk.id, .int .i64 pk.to_, .slice A1 n1 c1] 29)
  have v3' := bal (w3.alloc (.cells #[.int .i64 pk.id, .int .i64 pk.to_, .slice A1 n1 c1] 29)) (.cells #[.int .i64 m.next, .slice A2 m.l.length c2] 24)
  have hx4 := (hx3.on v3).on v3'
  have y40 := hx4.get 0 rfl
  have y41 := hx4.get 1 rfl
  have hd3' := bt (bt hd3 v3) v3'
  have bp := (box_made w3 [.int .i64 pk.id, .int .i64 pk.to_, .slice A1 n1 c1] 29).on v3'
  have bm := box_made (w3.alloc (.cells #[.int .i64 pk.id, .int .i64 pk.to_, .slice A1 n1 c1] 29)) [.int .i64 m.next, .slice A2 m.l.length c2] 24
  simp only [World.size_alloc] at bm
  go_wp2_with fail
  go_at_call 10
  refine (KT'.out _ hd3').mono ?_
  rintro e w4 ⟨qv, kv, rfl, hq, hk, hb4⟩
  have HQ := Lib.hid hq
  have HK := Lib.hid hk
  obtain ⟨A3, n3, c3, rfl⟩ := pktAt_slice hq
  obtain ⟨A4, c4, rfl, _⟩ := netAt_slice hk
  have hd4 := bt hd3' hb4
  have v4 := bal w4 (.cells #[.int .i64 pk.id, .int .i64 pk.to_, .slice A3 n3 c3] 29)
  have v4' := bal (w4.alloc (.cells #[.int .i64 pk.id, .int .i64 pk.to_, .slice A3 n3 c3] 29)) (.cells #[.int .i64 m.next, .slice A4 m.l.length c4] 24)
  have bq := (box_made w4 [.int .i64 pk.id, .int .i64 pk.to_, .slice A3 n3 c3] 29).on v4'
  have bk := box_made (w4.alloc (.cells #[.int .i64 pk.id, .int .i64 pk.to_, .slice A3 n3 c3] 29)) [.int .i64 m.next, .slice A4 m.l.length c4] 24
  simp only [World.size_alloc] at bk
  have hx5 := ((hx4.on hb4).on v4).on v4'
  have bp5 := ((bp.on hb4).on v4).on v4'
  have bm5 := ((bm.on hb4).on v4).on v4'
  have hw5 := bt (bt hd4 v4) v4'
  have P5 := (((HP.out.on v3).on v3').on hb4).on v4 |>.on v4'
  have M5 := (((HM.out.on v3).on v3').on hb4).on v4 |>.on v4'
  have Q5 := (HQ.out.on v4).on v4'
  have N5 := (HK.out.on v4).on v4'
  obtain ⟨W5, hW5⟩ : ∃ W5, W5 = (w4.alloc (.cells #[.int .i64 pk.id, .int .i64 pk.to_, .slice A3 n3 c3] 29)).alloc (.cells #[.int .i64 m.next, .slice A4 m.l.length c4] 24) := ⟨_, rfl⟩
  have HE5 := Lib.hid hW5
  rw [← hW5] at hx5 bp5 bm5 bq bk hw5 P5 M5 Q5 N5
  clear hW5
  have HSS : Hid (∀ W, Below W5.heap.size W5 W → (fun W => (W.cell? ⟨w.heap.size, 0, none⟩ = some (.int .i64 n.next) ∧ W.cell? ⟨w.heap.size, 1, none⟩ = some (.slice A n.l.length c)) ∧ (W.cell? ⟨w3.heap.size, 0, none⟩ = some (.int .i64 pk.id) ∧ W.cell? ⟨w3.heap.size, 1, none⟩ = some (.int .i64 pk.to_) ∧ W.cell? ⟨w3.heap.size, 2, none⟩ = some (.slice A1 n1 c1)) ∧ (W.cell? ⟨w3.heap.size + 1, 0, none⟩ = some (.int .i64 m.next) ∧ W.cell? ⟨w3.heap.size + 1, 1, none⟩ = some (.slice A2 m.l.length c2)) ∧ (W.cell? ⟨w4.heap.size, 0, none⟩ = some (.int .i64 pk.id) ∧ W.cell? ⟨w4.heap.size, 1, none⟩ = some (.int .i64 pk.to_) ∧ W.cell? ⟨w4.heap.size, 2, none⟩ = some (.slice A3 n3 c3)) ∧ (W.cell? ⟨w4.heap.size + 1, 0, none⟩ = some (.int .i64 m.next) ∧ W.cell? ⟨w4.heap.size + 1, 1, none⟩ = some (.slice A4 m.l.length c4))) W) := fun W hW => ⟨⟨(hx5.on hW).get 0 rfl, (hx5.on hW).get 1 rfl⟩, ⟨(bp5.on hW).get 0 rfl, (bp5.on hW).get 1 rfl, (bp5.on hW).get 2 rfl⟩, ⟨(bm5.on hW).get 0 rfl, (bm5.on hW).get 1 rfl⟩, ⟨(bq.on hW).get 0 rfl, (bq.on hW).get 1 rfl, (bq.on hW).get 2 rfl⟩, ⟨(bk.on hW).get 0 rfl, (bk.on hW).get 1 rfl⟩⟩
  have K1 : Hid (∀ W, Below W5.heap.size W5 W → Calls Try.prog 11 #[.agg #[.int .i64 pk.id, .int .i64 pk.to_, .slice A1 n1 c1], .agg #[.int .i64 pk.id, .int .i64 pk.to_, .slice A3 n3 c3]] W fun e w' => e = .returned (.bool true) ∧ Below W.heap.size W w') := fun W hW => samepkt_yes (P5.on hW) (Q5.on hW)
  have K2 : Hid (∀ W, Below W5.heap.size W5 W → Calls Try.prog 12 #[.agg #[.int .i64 m.next, .slice A2 m.l.length c2], .agg #[.int .i64 m.next, .slice A4 m.l.length c4]] W fun e w' => e = .returned (.bool true) ∧ Below W.heap.size W w') := fun W hW => samenet_yes (M5.on hW) (N5.on hW)
  have K3 : Hid (∀ W, Below W5.heap.size W5 W → NetAt W W.heap.size (.agg #[.int .i64 m.next, .slice A4 m.l.length c4]) m) := fun W hW => N5.on hW
  have HW5 := Lib.hid hw5
  have hok : (ok == ok) = true := by simp
  clear hx0 hx1 hx2 hx3 hx4 hx5 bp bm bq bk bp5 bm5 hw5 P5 M5 Q5 N5 hp hm hq hk hb0 hb1 hb2 hb3 hb4 hd1 hd2 hd3 hd3' hd4 v3 v3' v4 v4' z0 z1 y0 y1 y40 y41
  go_wp2_with fail
  rw [← HE5.out]
  first | (go_region_held3 (fun W => (W.cell? ⟨w.heap.size, 0, none⟩ = some (.int .i64 n.next) ∧ W.cell? ⟨w.heap.size, 1, none⟩ = some (.slice A n.l.length c)) ∧ (W.cell? ⟨w3.heap.size, 0, none⟩ = some (.int .i64 pk.id) ∧ W.cell? ⟨w3.heap.size, 1, none⟩ = some (.int .i64 pk.to_) ∧ W.cell? ⟨w3.heap.size, 2, none⟩ = some (.slice A1 n1 c1)) ∧ (W.cell? ⟨w3.heap.size + 1, 0, none⟩ = some (.int .i64 m.next) ∧ W.cell? ⟨w3.heap.size + 1, 1, none⟩ = some (.slice A2 m.l.length c2)) ∧ (W.cell? ⟨w4.heap.size, 0, none⟩ = some (.int .i64 pk.id) ∧ W.cell? ⟨w4.heap.size, 1, none⟩ = some (.int .i64 pk.to_) ∧ W.cell? ⟨w4.heap.size, 2, none⟩ = some (.slice A3 n3 c3)) ∧ (W.cell? ⟨w4.heap.size + 1, 0, none⟩ = some (.int .i64 m.next) ∧ W.cell? ⟨w4.heap.size + 1, 1, none⟩ = some (.slice A4 m.l.length c4))) (first | with_reducible exact HSS.out _ hd18 | with_reducible exact HSS.out _ hd17 | with_reducible exact HSS.out _ hd16 | with_reducible exact HSS.out _ hd15 | with_reducible exact HSS.out _ hd14 | with_reducible exact HSS.out _ hd13 | with_reducible exact HSS.out _ hd12 | with_reducible exact HSS.out _ hd11 | with_reducible exact HSS.out _ hd10 | with_reducible exact HSS.out _ hd9 | with_reducible exact HSS.out _ hd8 | with_reducible exact HSS.out _ hd7 | with_reducible exact HSS.out _ hd6 | exact HSS.out _ (below_drewN _ _ _) | exact HSS.out _ (Below.refl _ _).drew | exact HSS.out _ (Below.refl _ _)) (first
    | (go_at_call 11; (with_reducible refine (K1.out _ (Below.refl _ _).drew).mono ?_); rintro e w6 ⟨rfl, hb6⟩; have hd6 : Below W5.heap.size W5 w6 := bt (Below.refl W5.heap.size W5).drew hb6)
    | (go_at_call 11; (with_reducible refine (K1.out _ (below_drewN _ _ _)).mono ?_); rintro e w6 ⟨rfl, hb6⟩; have hd6 : Below W5.heap.size W5 w6 := bt (below_drewN W5.heap.size W5 _) hb6)
    | (go_at_call 12; (with_reducible refine (K2.out _ hd6).mono ?_); rintro e w7 ⟨rfl, hb7⟩; have hd7 := bt hd6 hb7)
    | (go_at_call 13; (with_reducible refine (KS.out _ (HW5.out.trans (hd7.mono HW5.out.size))).mono ?_); rintro e w8 ⟨u8, rfl, hu8, hb8⟩; have hd8 := bt hd7 hb8)
    | (go_at_call 14; (with_reducible refine (KS'.out _ (HW5.out.trans (hd8.mono HW5.out.size))).mono ?_); rintro e w9 ⟨u9, rfl, hu9, hb9⟩; have hd9 := bt hd8 hb9; have hu8' := hu8.on hb9)
    | (go_at_call 12; (with_reducible refine (samenet_yes hu8' hu9).mono ?_); rintro e w10 ⟨rfl, hb10⟩; have hd10 := bt hd9 hb10; clear hu8 hu8' hu9)
    | (go_at_call 15; (with_reducible refine (KD.out _ (HW5.out.trans (hd10.mono HW5.out.size))).mono ?_); rintro e w11 ⟨u11, rfl, hu11, hb11⟩; have hd11 := bt hd10 hb11)
    | (go_at_call 12; (with_reducible refine (samenet_yes hu11 (K3.out _ hd11)).mono ?_); rintro e w12 ⟨rfl, hb12⟩; have hd12 := bt hd11 hb12; clear hu11)
    | (go_at_call 16; (with_reducible refine (KC.out _ (HW5.out.trans (hd12.mono HW5.out.size))).mono ?_); rintro e w13 ⟨u13, rfl, hu13, hb13⟩; have hd13 := bt hd12 hb13)
    | (go_at_call 17; (with_reducible refine (KC'.out _ (HW5.out.trans (hd13.mono HW5.out.size))).mono ?_); rintro e w14 ⟨u14, rfl, hu14, hb14⟩; have hd14 := bt hd13 hb14; have hu13' := hu13.on hb14)
    | (go_at_call 12; (with_reducible refine (samenet_yes hu13' hu14).mono ?_); rintro e w15 ⟨rfl, hb15⟩; have hd15 := bt hd14 hb15; clear hu13 hu13' hu14)
    | (go_at_call 18; (with_reducible refine (KU.out _ (HW5.out.trans (hd15.mono HW5.out.size))).mono ?_); rintro e w16 ⟨u16, rfl, hu16, hb16⟩; have hd16 := bt hd15 hb16)
    | (go_at_call 19; (with_reducible refine (KU'.out _ (HW5.out.trans (hd16.mono HW5.out.size))).mono ?_); rintro e w17 ⟨u17, rfl, hu17, hb17⟩; have hd17 := bt hd16 hb17; have hu16' := hu16.on hb17)
    | (go_at_call 12; (with_reducible refine (samenet_yes hu16' hu17).mono ?_); rintro e w18 ⟨rfl, hb18⟩; have hd18 := bt hd17 hb18; clear hu16 hu16' hu17))) | fail
  all_goals go_wp2
  all_goals go_ret
  all_goals exact ⟨rfl, HW5.out.trans (hd18.mono HW5.out.size)⟩
end

end Go.Proofs.Ythpbnjmhhkkkiaa
