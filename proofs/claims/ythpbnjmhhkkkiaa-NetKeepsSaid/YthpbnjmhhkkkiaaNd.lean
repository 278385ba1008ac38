/-
  NetTakes, over whatever Take answers as the document asks, in new memory.
-/
import Derived.Test.YthpbnjmhhkkkiaaPx
import Derived.Test.YthpbnjmhhkkkiaaNb
namespace Go.Proofs.Ythpbnjmhhkkkiaa
open Go.RowKit
attribute [local go_sem ↓] Go.wp_at_zero Go.wp_at_succ

def TakesAt (w : World) (z : Nat) (n : Nett) (lv0 : Value) (k : Nat) (wr : World) : Prop := ∃ V, Box w.heap.size [.int .i64 n.next, lv0] wr ∧ BoxF z [.int .i64 n.next, V] wr ∧ (∃ A m c, V = .slice A m c) ∧ PktsX (· ≠ z) wr V (n.l.drop k) ∧ Below w.heap.size w wr

theorem takes_next {w wr W5 w5 : World} {z k : Nat} {n : Nett} {lv0 lv V : Value} (hz : w.heap.size < z) (hzr : z < wr.heap.size) (h0 : Box w.heap.size [.int .i64 n.next, lv0] wr) (h1 : BoxF z [.int .i64 n.next, V] wr) (hv : ∃ A m c, lv = .slice A m c) (hx : PktsX (wr.heap.size ≤ ·) W5 lv (n.l.drop (k + 1)))
    (hb : Below w.heap.size w wr) (hb5 : Below wr.heap.size wr W5) (hb6 : Below W5.heap.size W5 w5) : TakesAt w z n lv0 (k + 1) (put2 w5 z (.int .i64 n.next) lv) := by
  have hb7 := hb5.trans (hb6.mono hb5.size)
  refine ⟨lv, (h0.on hb7).kept (put2_other _ _ _ _ _ (by omega)) (by rw [put2_size]; exact Nat.le_refl _), put2_box (h1.on hb7) _ _, hv, ?_, (hb.trans (hb7.mono hb.size)).trans (put2_below _ (by omega) _ _)⟩
  have h2 := (hx.keep (fun b _ hb => hb6.block b hb) hb6.size).mono (Y := (· ≠ z)) (fun b hb _ => by omega)
  exact h2.keep (fun b hb _ => put2_other _ _ _ _ _ hb) (by rw [put2_size]; exact Nat.le_refl _)

section
variable (HAW : AwakeOk) (HTN : TakeNewOk)
include HAW HTN

set_option maxRecDepth 100000 in
set_option maxHeartbeats 8000000 in
theorem takes_yes (w : World) (v : Value) (n : Nett) (h : NetAt w w.heap.size v n) (hr : n.right) :
    Calls Try.prog 6 #[v] w (Fine w) := by
  have HR := Lib.hid hr
  have hl60 : n.l.length ≤ 60 := hr.2.2.1
  obtain ⟨lv0, rfl, hp⟩ := h
  have HN := Lib.hid hp
  obtain ⟨A, c, css, rfl, hlc, hcm, _⟩ := hp
  have KR : Hid (∀ W, Below w.heap.size w W → Calls Try.prog 8 #[.agg #[.int .i64 n.next, .slice A n.l.length c]] W fun e w' => e = .returned (.bool true) ∧ Below W.heap.size W w') := fun W hW => right_is ⟨_, rfl, HN.out.on hW⟩ ⟨fun _ => hr, fun _ => rfl⟩
  have hb0 := bal w (.cells #[.int .i64 n.next, .slice A n.l.length c] 24)
  have hx0 := box_made w [.int .i64 n.next, .slice A n.l.length c] 24
  clear hr
  go_enter Try.func6, Try.ntmps6
  go_wp2_with fail
  go_at_call 7
  refine (HAW _).mono ?_
  rintro e w1 ⟨rfl, hb1⟩
  have hd1 := bt hb0 hb1
  have hx1 := hx0.on hb1
  have z0 := hx1.get 0 rfl
  have z1 := hx1.get 1 rfl
  go_wp2_with fail
  go_at_call 8
  refine (KR.out _ hd1).mono ?_
  rintro e w2 ⟨rfl, hb2⟩
  have hd2 := bt hd1 hb2
  have hx2 := hx1.on hb2
  have y0 := hx2.get 0 rfl
  have y1 := hx2.get 1 rfl
  have hsz : w.heap.size < w2.heap.size := hx2.1
  have HD2 := Lib.hid hd2
  have HX2 := Lib.hid hx2
  clear hx0 hx1 hx2 hb0 hb1 hb2 hd1 hd2 z0 z1
  go_wp2_with fail
  go_loopw [4] (fun j wr => ∃ k : Nat, k ≤ n.l.length ∧ j = .int .i64 (k : Int) ∧ TakesAt w w2.heap.size n (.slice A n.l.length c) k wr) (fun j _ => n.l.length - (intOf j).toNat)
  case atStart =>
    refine ⟨0, Nat.zero_le _, rfl, .slice A n.l.length c, HX2.out.on (bal _ _), boxF_made w2 _ _, ⟨_, _, _, rfl⟩, ?_, bt HD2.out (bal _ _)⟩
    rw [List.drop_zero]
    exact ((HN.out.below (bt HD2.out (bal _ _))).x.mono (fun b hb _ => by omega))
  case round =>
    obtain ⟨k, hk, rfl, V, hb0, hb1, ⟨Av, mv, cv, rfl⟩, hpx, hbw⟩ := hrel
    have x1 := hb0.get 1 rfl
    have x0 := hb0.get 0 rfl
    have t0 := hb1.get 0 rfl
    have t1 := hb1.get 1 rfl
    have KT := HTN wr (.agg #[.int .i64 n.next, .slice Av mv cv]) ⟨n.next, n.l.drop k⟩ 0 ⟨_, rfl, hpx.pkts⟩ (right_drop HR.out k) (Int.le_refl _)
    have hzr : w2.heap.size < wr.heap.size := hb1.1
    have HB0 := Lib.hid hb0
    have HB1 := Lib.hid hb1
    have HBW := Lib.hid hbw
    by_cases hlt : k < n.l.length
    · rw [taken_drop hlt] at KT
      have HKT := Lib.hid KT
      obtain ⟨b, off, vb, rfl, hb, hbB, hsb, c0, c1, c2⟩ := (HN.out.below hbw).at_ k hlt
      have HS := Lib.hid hsb.full
      obtain ⟨Ab, cb, rfl, _⟩ := hsb
      have i0 : (0 : Int) ≤ (k : Int) := by omega
      have i1 : (k : Int) < (n.l.length : Int) := by omega
      clear KT hb0 hb1 hpx hbw
      go_wp2_with fail
      go_at_call 9
      refine HKT.out.mono ?_
      rintro e w3 ⟨pb, lv, rfl, hpb, hlv, hb3⟩
      obtain ⟨Ap, cp, rfl, _⟩ := id hpb
      obtain ⟨Al, dl, cl, rfl⟩ : ∃ A d c, lv = .slice A d c := by obtain ⟨A, c, _, e, _⟩ := hlv; exact ⟨_, _, _, e⟩
      have v3 := bal w3 (.cells #[.int .i64 n.l[k].id, .int .i64 n.l[k].to_, .slice Ap n.l[k].b.length cp] 29)
      have v3' := bal (w3.alloc (.cells #[.int .i64 n.l[k].id, .int .i64 n.l[k].to_, .slice Ap n.l[k].b.length cp] 29)) (.cells #[.int .i64 n.next, .slice Al dl cl] 24)
      have bp := (box_made w3 [.int .i64 n.l[k].id, .int .i64 n.l[k].to_, .slice Ap n.l[k].b.length cp] 29).on v3'
      have bm := box_made (w3.alloc (.cells #[.int .i64 n.l[k].id, .int .i64 n.l[k].to_, .slice Ap n.l[k].b.length cp] 29)) [.int .i64 n.next, .slice Al dl cl] 24
      simp only [World.size_alloc] at bm
      have h35 := bt (bt hb3 v3) v3'
      have P5 := ((PktAt.on (w := w3) (p := n.l[k]) ⟨_, rfl, hpb.seen⟩ v3).on v3')
      have L5 := (hlv.keep (fun q _ hq => v3.block q hq) v3.size).keep (fun q _ hq => v3'.block q hq) v3'.size
      have Q5 : PktAt wr wr.heap.size (.agg #[.int .i64 n.l[k].id, .int .i64 n.l[k].to_, .slice Ab n.l[k].b.length cb]) n.l[k] := ⟨_, rfl, HS.out⟩
      obtain ⟨W5, hW5⟩ : ∃ W5, W5 = (w3.alloc (.cells #[.int .i64 n.l[k].id, .int .i64 n.l[k].to_, .slice Ap n.l[k].b.length cp] 29)).alloc (.cells #[.int .i64 n.next, .slice Al dl cl] 24) := ⟨_, rfl⟩
      have HE5 := Lib.hid hW5
      rw [← hW5] at bp bm h35 P5 L5
      clear hW5
      have hx5 := HB0.out.on h35
      have HSS : Hid (∀ W, Below W5.heap.size W5 W → (fun W => W.cell? ⟨w.heap.size, 1, none⟩ = some (.slice (some ⟨b, off, none⟩) n.l.length c) ∧ (W.cell? ⟨b, off + k * 3, none⟩ = some (.int .i64 n.l[k].id) ∧ W.cell? ⟨b, off + k * 3 + 1, none⟩ = some (.int .i64 n.l[k].to_) ∧ W.cell? ⟨b, off + k * 3 + 2, none⟩ = some (.slice Ab n.l[k].b.length cb)) ∧ (W.cell? ⟨w3.heap.size, 0, none⟩ = some (.int .i64 n.l[k].id) ∧ W.cell? ⟨w3.heap.size, 1, none⟩ = some (.int .i64 n.l[k].to_) ∧ W.cell? ⟨w3.heap.size, 2, none⟩ = some (.slice Ap n.l[k].b.length cp))) W) := fun W hW => by
        have hq := h35.trans (hW.mono h35.size)
        have e := fun (x : Nat) (hx : x < wr.heap.size) (o : Nat) => World.cell?_of_block (a := ⟨x, o, none⟩) (hq.block x hx)
        exact ⟨(hx5.on hW).get 1 rfl, ⟨(e _ hb _).trans c0, (e _ hb _).trans c1, (e _ hb _).trans c2⟩, (bp.on hW).get 0 rfl, (bp.on hW).get 1 rfl, (bp.on hW).get 2 rfl⟩
      have K1 : Hid (∀ W, Below W5.heap.size W5 W → Calls Try.prog 11 #[.agg #[.int .i64 n.l[k].id, .int .i64 n.l[k].to_, .slice Ap n.l[k].b.length cp], .agg #[.int .i64 n.l[k].id, .int .i64 n.l[k].to_, .slice Ab n.l[k].b.length cb]] W fun e w' => e = .returned (.bool true) ∧ Below W.heap.size W w') := fun W hW => samepkt_yes (P5.on hW) ((Q5.on h35).on hW)
      have H35 := Lib.hid h35
      have HL5 := Lib.hid L5
      have HBM := Lib.hid bm
      clear bp bm P5 L5 Q5 h35 hx5 hpb hlv hb3 v3 v3' c0 c1 c2
      go_wp2_with fail
      rw [← HE5.out]
      first | (go_region_held3 (fun W => W.cell? ⟨w.heap.size, 1, none⟩ = some (.slice (some ⟨b, off, none⟩) n.l.length c) ∧ (W.cell? ⟨b, off + k * 3, none⟩ = some (.int .i64 n.l[k].id) ∧ W.cell? ⟨b, off + k * 3 + 1, none⟩ = some (.int .i64 n.l[k].to_) ∧ W.cell? ⟨b, off + k * 3 + 2, none⟩ = some (.slice Ab n.l[k].b.length cb)) ∧ (W.cell? ⟨w3.heap.size, 0, none⟩ = some (.int .i64 n.l[k].id) ∧ W.cell? ⟨w3.heap.size, 1, none⟩ = some (.int .i64 n.l[k].to_) ∧ W.cell? ⟨w3.heap.size, 2, none⟩ = some (.slice Ap n.l[k].b.length cp))) (first | with_reducible exact HSS.out _ hd6 | exact HSS.out _ (below_drewN _ _ _) | exact HSS.out _ (Below.refl _ _).drew | exact HSS.out _ (Below.refl _ _)) (first
        | (go_at_call 11; (with_reducible refine (K1.out _ (Below.refl _ _).drew).mono ?_); rintro e w6 ⟨rfl, hb6⟩; have hd6 : Below W5.heap.size W5 w6 := bt (Below.refl W5.heap.size W5).drew hb6)
        | (go_at_call 11; (with_reducible refine (K1.out _ (below_drewN _ _ _)).mono ?_); rintro e w6 ⟨rfl, hb6⟩; have hd6 : Below W5.heap.size W5 w6 := bt (below_drewN W5.heap.size W5 _) hb6))) | fail
      have bm6 := HBM.out.on hd6
      have g0 := bm6.get 0 rfl
      have g1 := bm6.get 1 rfl
      have z6 := HB1.out.on (H35.out.trans (hd6.mono H35.out.size))
      have s0 := z6.get 0 rfl
      have s1 := z6.get 1 rfl
      have f0 := z6.free 0 (by simp)
      have f1 := z6.free 1 (by simp)
      have HN6 := Lib.hid (takes_next (lv := .slice Al dl cl) (V := .slice Av mv cv) hsz hzr HB0.out HB1.out ⟨_, _, _, rfl⟩ HL5.out HBW.out H35.out hd6)
      clear bm6 z6
      go_wp2
      go_roundw
      case rel => exact ⟨k + 1, by omega, by go_num, HN6.out⟩
      case measure => simp [intOf]; omega
    · have hkl : k = n.l.length := by omega
      subst hkl
      rw [taken_out] at KT
      have HKT := Lib.hid KT
      clear KT hb0 hb1 hpx hbw
      go_wp2_with fail
      go_at_call 9
      refine HKT.out.mono ?_
      rintro e w3 ⟨pb, lv, rfl, hpb, hlv, hb3⟩
      obtain ⟨Ap, cp, rfl, _⟩ := hpb
      obtain ⟨Al, cl, _, rfl, _⟩ := hlv
      have v3 := bal w3 (.cells #[.int .i64 0, .int .i64 0, .slice Ap ([] : List UInt8).length cp] 29)
      have v3' := bal (w3.alloc (.cells #[.int .i64 0, .int .i64 0, .slice Ap ([] : List UInt8).length cp] 29)) (.cells #[.int .i64 n.next, .slice Al ([] : List Pkt).length cl] 24)
      have hx5 := (((HB0.out.on hb3).on v3).on v3')
      have g0 := hx5.get 0 rfl
      have hbE := (HBW.out.trans (hb3.mono HBW.out.size))
      have hbF := bt (bt hbE v3) v3'
      simp only [List.length_nil] at *
      go_wp2
      go_ret
      exact ⟨rfl, hbF⟩
end

end Go.Proofs.Ythpbnjmhhkkkiaa
