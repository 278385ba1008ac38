/-
  NetKeeps of right nets.
-/
import Derived.Test.YthpbnjmhhkkkiaaKb
namespace Go.Proofs.Ythpbnjmhhkkkiaa
open Go.RowKit
attribute [local go_sem ↓] Go.wp_at_zero Go.wp_at_succ

set_option maxRecDepth 100000 in
set_option maxHeartbeats 8000000 in
theorem keeps_yes (w : World) (v vb : Value) (n : Nett) (i : Int) (b : List UInt8) (h : NetAt w w.heap.size v n) (hs : Seen w w.heap.size vb b) (hr : n.right) (h5 : b.length ≤ 500) (hi : 0 ≤ i) :
    Calls Try.prog 5 #[v, vb, .int .i64 i] w (Fine w) := by
  have HN := Lib.hid h
  have HS := Lib.hid hs
  have HR := Lib.hid hr
  obtain ⟨nx, l⟩ := n
  obtain ⟨lv, rfl, hp⟩ := h
  have HP := Lib.hid hp
  obtain ⟨A, c, css0, rfl, hlc, hcm, _⟩ := hp
  replace HP : Hid (PktsAt w w.heap.size (.slice A l.length c) l) := HP
  obtain ⟨Ab, cb, rfl, hAb⟩ := hs
  have hcb : b.length ≤ cb := hAb.1
  have hl60 : l.length ≤ 60 := hr.2.2.1
  have hlc : l.length ≤ c := hlc
  obtain ⟨jb, hj, hz0, hz1, hz2⟩ := info_part3 byte_info
  obtain ⟨tp, hi0, hz3, hz4, hz5⟩ := info_part3 pkt_info
  have h5b : decide ((500 : Int) < (b.length : Int)) = false := decide_eq_false (by omega)
  have h5c : decide (500 < b.length) = false := decide_eq_false (by omega)
  have hi1 : decide (i < 0) = false := decide_eq_false (by omega)
  have hb0 := bal w (.cells #[.int .i64 nx, .slice A l.length c] 24)
  have hx0 := box_made w [.int .i64 nx, .slice A l.length c] 24
  have HRT : Hid (∀ W, Below w.heap.size w W → Calls Try.prog 8 #[.agg #[.int .i64 nx, .slice A l.length c]] W fun e w' => e = .returned (.bool true) ∧ Below W.heap.size W w') := fun W hW => right_is (HN.out.on hW) ⟨fun _ => HR.out, fun _ => rfl⟩
  have HI := Lib.hid hi
  clear hr hi hAb hcm
  go_enter Try.func5, Try.ntmps5
  go_wp2_with fail
  go_at_call 7
  refine (awake_ok _).mono ?_
  rintro e w1 ⟨rfl, hb1⟩
  have hd1 := bt hb0 hb1
  have z0 := (hx0.on hb1).get 0 rfl
  have z1 := (hx0.on hb1).get 1 rfl
  go_wp2_with fail
  go_at_call 8
  refine (HRT.out _ hd1).mono ?_
  rintro e w2 ⟨rfl, hb2⟩
  have hd2 := bt hd1 hb2
  have hx2 := (hx0.on hb1).on hb2
  have q0 := hx2.get 0 rfl
  have q1 := hx2.get 1 rfl
  have HX2 := Lib.hid hx2
  have HD2 := Lib.hid hd2
  clear hb0 hx0 hb1 hd1 z0 z1 hb2 hd2 hx2
  have hx3 := boxF_made w2 [.int .i64 nx, .slice none 0 0] 24
  have HST : Hid (Copied1 w w2 nx (.slice A l.length c) l 0 (w2.alloc (.cells #[.int .i64 nx, .slice none 0 0] 24))) := ⟨_, HX2.out.on (bal _ _), hx3, Kept2.nil, bal _ _⟩
  have HWW : Hid (w.heap.size < w2.heap.size) := HX2.out.1
  clear hx3
  go_wp2
  go_loopw [8] (fun j wr => ∃ k : Nat, k ≤ l.length ∧ j = .int .i64 (k : Int) ∧ Copied1 w w2 nx (.slice A l.length c) l k wr) (fun j _ => l.length - (intOf j).toNat)
  case atStart => exact ⟨0, Nat.zero_le _, rfl, HST.out⟩
  case round =>
    obtain ⟨k, hk, rfl, V, hx, hy, ⟨ds, r1, r2, r3⟩, hbw⟩ := hrel
    have x0 := hx.get 0 rfl
    have x1 := hx.get 1 rfl
    have y0 := hy.get 0 rfl
    have y1 := hy.get 1 rfl
    by_cases hlt : k < l.length
    · have htk : (l.take k).length = k := by rw [List.length_take]; omega
      rw [htk] at r1
      obtain ⟨bb, off, vp, rfl, hb, hbB, hsb, c0, c1, c2⟩ := (HP.out.below (HD2.out.trans (hbw.mono HD2.out.size))).at_ k hlt
      have hlen : l[k].b.length ≤ 500 := (right_fit HR.out).2 _ (List.getElem_mem hlt)
      obtain ⟨Ap, cp, rfl, hat⟩ := hsb
      obtain ⟨Av, cv, rfl, _⟩ := r1.slice
      have i0 : (0 : Int) ≤ (k : Int) := by omega
      have i1 : (k : Int) < (l.length : Int) := by omega
      have hwa := (bal wr (.cells #[] 5)).drew
      have hsz := hy.1
      have hbe : wr.heap.size ≤ (wr.alloc (.cells #[] 5)).drew.heap.size := hwa.size
      have R1 : RoomN (wr.alloc (.cells #[] 5)).drew wr.heap.size (.slice (some ⟨wr.heap.size, 0, none⟩) 0 0) 1 0 [] := RoomN.empty (Nat.le_refl _) (by show wr.heap.size < (wr.alloc (.cells #[] 5)).heap.size; simp)
      have S1 : Src Try.prog 1 25 (.slice Ap l[k].b.length cp) l[k].b.length (c8 l[k].b) (wr.alloc (.cells #[] 5)).drew := (hat.below (hwa.mono (Nat.le_trans (HD2.out.trans (hbw.mono HD2.out.size)).size (Nat.le_refl _)))).src Try.underlying25
      have y1l : (c8 l[k].b).length = l[k].b.length * 1 := by rw [c8_length, Nat.mul_one]
      have q1 : 0 + l[k].b.length ≤ 1000000 := by omega
      have q2 : (0 + l[k].b.length) * 1 ≤ 140737488355328 := by omega
      have q3 : k + 1 ≤ 1000000 := by omega
      have q4 : (k + 1) * 40 ≤ 140737488355328 := by omega
      have STEP := Lib.hid (fun (W6 w7 : World) (V' vb : Value) => copied_step (W6 := W6) (w7 := w7) (V' := V') (vb := vb) hx hy HWW.out hbw r1 r2 r3 hlt)
      have RON := Lib.hid (fun (W : World) (hW : Below wr.heap.size wr W) => r1.on hW)
      have YON := Lib.hid (fun (W : World) (hW : Below wr.heap.size wr W) => hy.on hW)
      have HWA := Lib.hid hwa
      have y1d : wr.drew.cell? ⟨w2.heap.size, 1, none⟩ = some (.slice Av k cv) := (hy.on (Below.refl _ _).drew).get 1 rfl
      have hw2r : w2.heap.size ≤ wr.heap.size := by omega
      have HSS : Hid (∀ W, Below w2.heap.size wr W → (fun W => W.cell? ⟨w.heap.size, 0, none⟩ = some (.int .i64 nx) ∧ W.cell? ⟨w.heap.size, 1, none⟩ = some (.slice (some ⟨bb, off, none⟩) l.length c) ∧ W.cell? ⟨bb, off + k * 3, none⟩ = some (.int .i64 l[k].id) ∧ W.cell? ⟨bb, off + k * 3 + 1, none⟩ = some (.int .i64 l[k].to_) ∧ W.cell? ⟨bb, off + k * 3 + 2, none⟩ = some (.slice Ap l[k].b.length cp)) W) := fun W hW => by
        have e := fun (x : Nat) (hx : x < w2.heap.size) (o : Nat) => World.cell?_of_block (a := ⟨x, o, none⟩) (hW.block x hx)
        have hww := HWW.out
        exact ⟨(e _ hww _).trans x0, (e _ hww _).trans x1, (e _ (by have := HD2.out.size; omega) _).trans c0, (e _ (by have := HD2.out.size; omega) _).trans c1, (e _ (by have := HD2.out.size; omega) _).trans c2⟩
      have y1a : (wr.alloc (.cells #[] 5)).drew.cell? ⟨w2.heap.size, 1, none⟩ = some (.slice Av k cv) := (hy.on hwa).get 1 rfl
      have HSZ := Lib.hid hsz
      clear hx hy r1 r2 r3 hbw hat hsz hwa c0 c1 c2 y0
      go_wp2
      refine wp_region_noPanic ?_
      refine wp_region_held_drew (S := (fun W => W.cell? ⟨w.heap.size, 0, none⟩ = some (.int .i64 nx) ∧ W.cell? ⟨w.heap.size, 1, none⟩ = some (.slice (some ⟨bb, off, none⟩) l.length c) ∧ W.cell? ⟨bb, off + k * 3, none⟩ = some (.int .i64 l[k].id) ∧ W.cell? ⟨bb, off + k * 3 + 1, none⟩ = some (.int .i64 l[k].to_) ∧ W.cell? ⟨bb, off + k * 3 + 2, none⟩ = some (.slice Ap l[k].b.length cp))) (by kernel_rfl) (HSS.out _ (Below.refl _ _).drew) (fun hHeld => ?_)
      refine takeL 0 rfl (by kernel_rfl) (by kernel_rfl) (by kernel_rfl) (fun _ _ _ h => h) (by rfl) (v := ?vv1) ?yy1 hHeld ?_
      case yy1 => (intro w hSw; (try dsimp only at hSw); go_split_ands; go_simp; try with_reducible rfl)
      try simp only [Act.put, List.setIfInBounds_toArray, List.set_cons_zero, List.set_cons_succ]
      refine takeL 2 rfl (by kernel_rfl) (by kernel_rfl) (by kernel_rfl) (fun _ _ _ h => h) (by rfl) (v := ?vv2) ?yy2 hHeld ?_
      case yy2 => (intro w hSw; (try dsimp only at hSw); go_split_ands; go_simp; try with_reducible rfl)
      try simp only [Act.put, List.setIfInBounds_toArray, List.set_cons_zero, List.set_cons_succ]
      refine takeL 3 rfl (by kernel_rfl) (by kernel_rfl) (by kernel_rfl) (fun _ _ _ h => h) (by rfl) (v := ?vv3) ?yy3 hHeld ?_
      case yy3 => (intro w hSw; (try dsimp only at hSw); go_split_ands; go_simp; try with_reducible rfl)
      try simp only [Act.put, List.setIfInBounds_toArray, List.set_cons_zero, List.set_cons_succ]
      refine takeL 4 rfl (by kernel_rfl) (by kernel_rfl) (by kernel_rfl) (fun _ _ _ h => h) (by rfl) (v := ?vv4) ?yy4 hHeld ?_
      case yy4 => (intro w hSw; (try dsimp only at hSw); go_split_ands; go_simp; try with_reducible rfl)
      try simp only [Act.put, List.setIfInBounds_toArray, List.set_cons_zero, List.set_cons_succ]
      refine takeL 5 rfl (by kernel_rfl) (by kernel_rfl) (by kernel_rfl) (fun _ _ _ h => h) (by rfl) (v := ?vv5) ?yy5 hHeld ?_
      case yy5 => (intro w hSw; (try dsimp only at hSw); go_split_ands; go_simp; try with_reducible rfl)
      try simp only [Act.put, List.setIfInBounds_toArray, List.set_cons_zero, List.set_cons_succ]
      refine takeL 6 rfl (by kernel_rfl) (by kernel_rfl) (by kernel_rfl) (fun _ _ _ h => h) (by rfl) (v := ?vv6) ?yy6 hHeld ?_
      case yy6 => (intro w hSw; (try dsimp only at hSw); go_split_ands; go_simp; try with_reducible rfl)
      try simp only [Act.put, List.setIfInBounds_toArray, List.set_cons_zero, List.set_cons_succ]
      refine takeL 7 rfl (by kernel_rfl) (by kernel_rfl) (by kernel_rfl) (fun _ _ _ h => h) (by rfl) (v := ?vv7) ?yy7 hHeld ?_
      case yy7 => (intro w hSw; (try dsimp only at hSw); go_split_ands; go_simp; try with_reducible rfl)
      try simp only [Act.put, List.setIfInBounds_toArray, List.set_cons_zero, List.set_cons_succ]
      refine takeL 8 rfl (by kernel_rfl) (by kernel_rfl) (by kernel_rfl) (fun _ _ _ h => h) (by rfl) (v := ?vv8) ?yy8 hHeld ?_
      case yy8 => (intro w hSw; (try dsimp only at hSw); go_split_ands; go_simp; try with_reducible rfl)
      try simp only [Act.put, List.setIfInBounds_toArray, List.set_cons_zero, List.set_cons_succ]
      refine takeL 9 rfl (by kernel_rfl) (by kernel_rfl) (by kernel_rfl) (fun _ _ _ h => h) (by rfl) (v := ?vv9) ?yy9 hHeld ?_
      case yy9 => (intro w hSw; (try dsimp only at hSw); go_split_ands; go_simp; try with_reducible rfl)
      try simp only [Act.put, List.setIfInBounds_toArray, List.set_cons_zero, List.set_cons_succ]
      refine takeL 10 rfl (by kernel_rfl) (by kernel_rfl) (by kernel_rfl) (fun _ _ _ h => h) (by rfl) (v := ?vv10) ?yy10 hHeld ?_
      case yy10 => (intro w hSw; (try dsimp only at hSw); go_split_ands; go_simp; try with_reducible rfl)
      try simp only [Act.put, List.setIfInBounds_toArray, List.set_cons_zero, List.set_cons_succ]
      refine takeL 11 rfl (by kernel_rfl) (by kernel_rfl) (by kernel_rfl) (fun _ _ _ h => h) (by rfl) (v := ?vv11) ?yy11 hHeld ?_
      case yy11 => (intro w hSw; (try dsimp only at hSw); go_split_ands; go_simp; try with_reducible rfl)
      try simp only [Act.put, List.setIfInBounds_toArray, List.set_cons_zero, List.set_cons_succ]
      refine takeL 12 rfl (by kernel_rfl) (by kernel_rfl) (by kernel_rfl) (fun _ _ _ h => h) (by rfl) (v := ?vv12) ?yy12 hHeld ?_
      case yy12 => (intro w hSw; (try dsimp only at hSw); go_split_ands; go_simp; try with_reducible rfl)
      try simp only [Act.put, List.setIfInBounds_toArray, List.set_cons_zero, List.set_cons_succ]
      refine takeL 13 rfl (by kernel_rfl) (by kernel_rfl) (by kernel_rfl) (fun _ _ _ h => h) (by rfl) (v := ?vv13) ?yy13 hHeld ?_
      case yy13 => (intro w hSw; (try dsimp only at hSw); go_split_ands; go_simp; try with_reducible rfl)
      try simp only [Act.put, List.setIfInBounds_toArray, List.set_cons_zero, List.set_cons_succ]
      refine takeL 15 rfl (by kernel_rfl) (by kernel_rfl) (by kernel_rfl) (fun _ _ _ h => h) (by rfl) (v := ?vv14) ?yy14 hHeld ?_
      case yy14 => (intro w hSw; (try dsimp only at hSw); go_split_ands; go_simp; try with_reducible rfl)
      try simp only [Act.put, List.setIfInBounds_toArray, List.set_cons_zero, List.set_cons_succ]
      refine takeL 16 rfl (by kernel_rfl) (by kernel_rfl) (by kernel_rfl) (fun _ _ _ h => h) (by rfl) (v := ?vv15) ?yy15 hHeld ?_
      case yy15 => (intro w hSw; (try dsimp only at hSw); go_split_ands; go_simp; try with_reducible rfl)
      try simp only [Act.put, List.setIfInBounds_toArray, List.set_cons_zero, List.set_cons_succ]
      refine takeL 17 rfl (by kernel_rfl) (by kernel_rfl) (by kernel_rfl) (fun _ _ _ h => h) (by rfl) (v := ?vv16) ?yy16 hHeld ?_
      case yy16 => (intro w hSw; (try dsimp only at hSw); go_split_ands; go_simp; try with_reducible rfl)
      try simp only [Act.put, List.setIfInBounds_toArray, List.set_cons_zero, List.set_cons_succ]
      refine takeL 18 rfl (by kernel_rfl) (by kernel_rfl) (by kernel_rfl) (fun _ _ _ h => h) (by rfl) (v := ?vv17) ?yy17 hHeld ?_
      case yy17 => (intro w hSw; (try dsimp only at hSw); go_split_ands; go_simp; try with_reducible rfl)
      try simp only [Act.put, List.setIfInBounds_toArray, List.set_cons_zero, List.set_cons_succ]
      refine takeL 19 rfl (by kernel_rfl) (by kernel_rfl) (by kernel_rfl) (fun _ _ _ h => h) (by rfl) (v := ?vv18) ?yy18 hHeld ?_
      case yy18 => (intro w hSw; (try dsimp only at hSw); go_split_ands; go_simp; try with_reducible rfl)
      try simp only [Act.put, List.setIfInBounds_toArray, List.set_cons_zero, List.set_cons_succ]
      refine takeL 20 rfl (by kernel_rfl) (by kernel_rfl) (by kernel_rfl) (fun _ _ _ h => h) (by rfl) (v := ?vv19) ?yy19 hHeld ?_
      case yy19 => (intro w hSw; (try dsimp only at hSw); go_split_ands; go_simp; try with_reducible rfl)
      try simp only [Act.put, List.setIfInBounds_toArray, List.set_cons_zero, List.set_cons_succ]
      refine pairL 1 14 (by kernel_rfl) rfl rfl (fun K hK => ?_) (fun K hK => ?_)
      · go_simp
        refine hK.out _ _ hHeld (fun hHeld => ?_)
        clear hK K
        try simp only [Act.put, List.setIfInBounds_toArray, List.set_cons_zero, List.set_cons_succ]
        refine callL 14 (by kernel_rfl) rfl (fun K hK => ?_)
        go_simp
        refine hK.out _ _ ?_ (fun hHeld => ?_)
        · ((try dsimp only); with_reducible first | exact HSS.out _ hbm | exact HSS.out _ (below_drewN _ _ _) | exact HSS.out _ (Below.refl _ _).drew | exact HSS.out _ (Below.refl _ _) | exact HSS.out _ (bel_alloc hbm hw2r _) | exact HSS.out _ (bel_alloc (below_drewN _ _ _) hw2r _) | exact HSS.out _ (bel_alloc (Below.refl _ _).drew hw2r _) | exact HSS.out _ (bel_alloc (Below.refl _ _) hw2r _).drew | exact HSS.out _ (below_set hbm _ _ _ (Nat.le_refl _)))
        clear hK K
        try simp only [Act.put, List.setIfInBounds_toArray, List.set_cons_zero, List.set_cons_succ]
        refine callL 21 (by kernel_rfl) rfl (fun K hK => ?_)
        (refine step_appendN (B := wr.heap.size) (n := 1) (k := 0) (m := l[k].b.length) (cs := []) (ys := c8 l[k].b) (by rfl) (.tmp 58) (.tmp 64) 25 25 (by rfl) 5 jb _ 1 Try.underlying25 hj hz0 hz1 rfl hz2 R1 hbe S1 y1l q1 q2 (by rfl) (by rfl) ?_; intro v5 w5 h5' hb5 hk5 ho5; rw [Nat.zero_add, List.nil_append] at h5'; have hw5 := HWA.out.trans hb5; have hs5 := roomN_seenX h5'; obtain ⟨A5, c5, hv5, _⟩ := hs5; subst hv5; have h6 := bal w5 (.cells #[.int .i64 l[k].id, .int .i64 l[k].to_, .slice A5 l[k].b.length c5] 29); have hw6 := hw5.trans (h6.mono hw5.size); have HS6 := Lib.hid ((roomN_seenX h5').keep (fun b _ hlt => h6.block b hlt) h6.size); have HW6 := Lib.hid hw6; have R6 := RON.out _ hw6; have B6 : w2.heap.size + 1 ≤ (w5.alloc (.cells #[.int .i64 l[k].id, .int .i64 l[k].to_, .slice A5 l[k].b.length c5] 29)).heap.size := Nat.le_trans HSZ.out hw6.size; have S6 := srcN_one (P := Try.prog) w5 3 [.int .i64 l[k].id, .int .i64 l[k].to_, .slice A5 l[k].b.length c5] rfl (cell_one l[k] _ (roomN_seenX h5').seen) (e := 29) Try.underlying22; have hbm : Below w2.heap.size wr w5 := hw5.mono hw2r; have y15 := (YON.out _ hw5).get 1 rfl; have y16 := (YON.out _ hw6).get 1 rfl; clear h5' hb5 hk5 ho5 hw5 h6 hw6)
        refine hK.out _ _ ?_ (fun hHeld => ?_)
        · ((try dsimp only); with_reducible first | exact HSS.out _ hbm | exact HSS.out _ (below_drewN _ _ _) | exact HSS.out _ (Below.refl _ _).drew | exact HSS.out _ (Below.refl _ _) | exact HSS.out _ (bel_alloc hbm hw2r _) | exact HSS.out _ (bel_alloc (below_drewN _ _ _) hw2r _) | exact HSS.out _ (bel_alloc (Below.refl _ _).drew hw2r _) | exact HSS.out _ (bel_alloc (Below.refl _ _) hw2r _).drew | exact HSS.out _ (below_set hbm _ _ _ (Nat.le_refl _)))
        clear hK K
        try simp only [Act.put, List.setIfInBounds_toArray, List.set_cons_zero, List.set_cons_succ]
        refine takeL 22 rfl (by kernel_rfl) (by kernel_rfl) (by kernel_rfl) (fun _ _ _ h => h) (by rfl) (v := ?vv23) ?yy23 hHeld ?_
        case yy23 => (intro w hSw; (try dsimp only at hSw); go_split_ands; go_simp; try with_reducible rfl)
        try simp only [Act.put, List.setIfInBounds_toArray, List.set_cons_zero, List.set_cons_succ]
        refine callL 23 (by kernel_rfl) rfl (fun K hK => ?_)
        go_simp
        refine hK.out _ _ ?_ (fun hHeld => ?_)
        · ((try dsimp only); with_reducible first | exact HSS.out _ hbm | exact HSS.out _ (below_drewN _ _ _) | exact HSS.out _ (Below.refl _ _).drew | exact HSS.out _ (Below.refl _ _) | exact HSS.out _ (bel_alloc hbm hw2r _) | exact HSS.out _ (bel_alloc (below_drewN _ _ _) hw2r _) | exact HSS.out _ (bel_alloc (Below.refl _ _).drew hw2r _) | exact HSS.out _ (bel_alloc (Below.refl _ _) hw2r _).drew | exact HSS.out _ (below_set hbm _ _ _ (Nat.le_refl _)))
        clear hK K
        try simp only [Act.put, List.setIfInBounds_toArray, List.set_cons_zero, List.set_cons_succ]
        refine callL 24 (by kernel_rfl) rfl (fun K hK => ?_)
        (refine step_appendN (B := w2.heap.size + 1) (n := 3) (k := k) (m := 1) (cs := ds.flatten) (ys := [.int .i64 l[k].id, .int .i64 l[k].to_, .slice A5 l[k].b.length c5]) (by rfl) (.tmp 45) (.tmp 67) 22 22 (by rfl) 29 tp _ 40 Try.underlying22 hi0 hz3 hz4 rfl hz5 R6 B6 S6 rfl q3 q4 (by rfl) (by rfl) ?_; intro v7 w7 h7 hb7 hk7 ho7; have HS7 := Lib.hid (STEP.out _ w7 v7 _ HW6.out HS6.out h7 hb7 hk7 ho7); have y7 := (YON.out _ HW6.out).kept (hb7.block _ (by have := HSZ.out; have := HW6.out.size; omega)) hb7.size; have u1 := y7.get 1 rfl; have f1 := y7.free 1 (by simp); obtain ⟨A7, c7, hv7, _⟩ := h7.slice; subst hv7; have hbn := (HW6.out.mono hw2r).trans (hb7.mono (Nat.le_succ _)); clear hbm; have hbm := hbn; clear h7 hb7 hk7 ho7 y7 hbn)
        refine hK.out _ _ ?_ (fun hHeld => ?_)
        · ((try dsimp only); with_reducible first | exact HSS.out _ hbm | exact HSS.out _ (below_drewN _ _ _) | exact HSS.out _ (Below.refl _ _).drew | exact HSS.out _ (Below.refl _ _) | exact HSS.out _ (bel_alloc hbm hw2r _) | exact HSS.out _ (bel_alloc (below_drewN _ _ _) hw2r _) | exact HSS.out _ (bel_alloc (Below.refl _ _).drew hw2r _) | exact HSS.out _ (bel_alloc (Below.refl _ _) hw2r _).drew | exact HSS.out _ (below_set hbm _ _ _ (Nat.le_refl _)))
        clear hK K
        try simp only [Act.put, List.setIfInBounds_toArray, List.set_cons_zero, List.set_cons_succ]
        refine takeL 25 rfl (by kernel_rfl) (by kernel_rfl) (by kernel_rfl) (fun _ _ _ h => h) (by rfl) (v := ?vv24) ?yy24 hHeld ?_
        case yy24 => (intro w hSw; (try dsimp only at hSw); go_split_ands; go_simp; try with_reducible rfl)
        try simp only [Act.put, List.setIfInBounds_toArray, List.set_cons_zero, List.set_cons_succ]
        refine callL 26 (by kernel_rfl) rfl (fun K hK => ?_)
        go_simp
        refine hK.out _ _ ?_ (fun hHeld => ?_)
        · ((try dsimp only); with_reducible first | exact HSS.out _ hbm | exact HSS.out _ (below_drewN _ _ _) | exact HSS.out _ (Below.refl _ _).drew | exact HSS.out _ (Below.refl _ _) | exact HSS.out _ (bel_alloc hbm hw2r _) | exact HSS.out _ (bel_alloc (below_drewN _ _ _) hw2r _) | exact HSS.out _ (bel_alloc (Below.refl _ _).drew hw2r _) | exact HSS.out _ (bel_alloc (Below.refl _ _) hw2r _).drew | exact HSS.out _ (below_set hbm _ _ _ (Nat.le_refl _)))
        clear hK K
        try simp only [Act.put, List.setIfInBounds_toArray, List.set_cons_zero, List.set_cons_succ]
        refine wpAnyH_done (by kernel_rfl) ?_ _
        refine NoPanic.normal ?_
        go_wp2
        go_roundw
        case rel => exact ⟨k + 1, by omega, by go_num, HS7.out⟩
        case measure => simp [intOf]; omega
      · go_simp
        refine hK.out _ _ ?_ (fun hHeld => ?_)
        · ((try dsimp only); with_reducible first | exact HSS.out _ hbm | exact HSS.out _ (below_drewN _ _ _) | exact HSS.out _ (Below.refl _ _).drew | exact HSS.out _ (Below.refl _ _) | exact HSS.out _ (bel_alloc hbm hw2r _) | exact HSS.out _ (bel_alloc (below_drewN _ _ _) hw2r _) | exact HSS.out _ (bel_alloc (Below.refl _ _).drew hw2r _) | exact HSS.out _ (bel_alloc (Below.refl _ _) hw2r _).drew | exact HSS.out _ (below_set hbm _ _ _ (Nat.le_refl _)))
        clear hK K
        try simp only [Act.put, List.setIfInBounds_toArray, List.set_cons_zero, List.set_cons_succ]
        refine pairL 1 21 (by kernel_rfl) rfl rfl (fun K hK => ?_) (fun K hK => ?_)
        · go_simp
          refine hK.out _ _ hHeld (fun hHeld => ?_)
          clear hK K
          try simp only [Act.put, List.setIfInBounds_toArray, List.set_cons_zero, List.set_cons_succ]
          refine callL 21 (by kernel_rfl) rfl (fun K hK => ?_)
          (refine step_appendN (B := wr.heap.size) (n := 1) (k := 0) (m := l[k].b.length) (cs := []) (ys := c8 l[k].b) (by rfl) (.tmp 58) (.tmp 64) 25 25 (by rfl) 5 jb _ 1 Try.underlying25 hj hz0 hz1 rfl hz2 R1 hbe S1 y1l q1 q2 (by rfl) (by rfl) ?_; intro v5 w5 h5' hb5 hk5 ho5; rw [Nat.zero_add, List.nil_append] at h5'; have hw5 := HWA.out.trans hb5; have hs5 := roomN_seenX h5'; obtain ⟨A5, c5, hv5, _⟩ := hs5; subst hv5; have h6 := bal w5 (.cells #[.int .i64 l[k].id, .int .i64 l[k].to_, .slice A5 l[k].b.length c5] 29); have hw6 := hw5.trans (h6.mono hw5.size); have HS6 := Lib.hid ((roomN_seenX h5').keep (fun b _ hlt => h6.block b hlt) h6.size); have HW6 := Lib.hid hw6; have R6 := RON.out _ hw6; have B6 : w2.heap.size + 1 ≤ (w5.alloc (.cells #[.int .i64 l[k].id, .int .i64 l[k].to_, .slice A5 l[k].b.length c5] 29)).heap.size := Nat.le_trans HSZ.out hw6.size; have S6 := srcN_one (P := Try.prog) w5 3 [.int .i64 l[k].id, .int .i64 l[k].to_, .slice A5 l[k].b.length c5] rfl (cell_one l[k] _ (roomN_seenX h5').seen) (e := 29) Try.underlying22; have hbm : Below w2.heap.size wr w5 := hw5.mono hw2r; have y15 := (YON.out _ hw5).get 1 rfl; have y16 := (YON.out _ hw6).get 1 rfl; clear h5' hb5 hk5 ho5 hw5 h6 hw6)
          refine hK.out _ _ ?_ (fun hHeld => ?_)
          · ((try dsimp only); with_reducible first | exact HSS.out _ hbm | exact HSS.out _ (below_drewN _ _ _) | exact HSS.out _ (Below.refl _ _).drew | exact HSS.out _ (Below.refl _ _) | exact HSS.out _ (bel_alloc hbm hw2r _) | exact HSS.out _ (bel_alloc (below_drewN _ _ _) hw2r _) | exact HSS.out _ (bel_alloc (Below.refl _ _).drew hw2r _) | exact HSS.out _ (bel_alloc (Below.refl _ _) hw2r _).drew | exact HSS.out _ (below_set hbm _ _ _ (Nat.le_refl _)))
          clear hK K
          try simp only [Act.put, List.setIfInBounds_toArray, List.set_cons_zero, List.set_cons_succ]
          refine takeL 22 rfl (by kernel_rfl) (by kernel_rfl) (by kernel_rfl) (fun _ _ _ h => h) (by rfl) (v := ?vv25) ?yy25 hHeld ?_
          case yy25 => (intro w hSw; (try dsimp only at hSw); go_split_ands; go_simp; try with_reducible rfl)
          try simp only [Act.put, List.setIfInBounds_toArray, List.set_cons_zero, List.set_cons_succ]
          refine callL 23 (by kernel_rfl) rfl (fun K hK => ?_)
          go_simp
          refine hK.out _ _ ?_ (fun hHeld => ?_)
          · ((try dsimp only); with_reducible first | exact HSS.out _ hbm | exact HSS.out _ (below_drewN _ _ _) | exact HSS.out _ (Below.refl _ _).drew | exact HSS.out _ (Below.refl _ _) | exact HSS.out _ (bel_alloc hbm hw2r _) | exact HSS.out _ (bel_alloc (below_drewN _ _ _) hw2r _) | exact HSS.out _ (bel_alloc (Below.refl _ _).drew hw2r _) | exact HSS.out _ (bel_alloc (Below.refl _ _) hw2r _).drew | exact HSS.out _ (below_set hbm _ _ _ (Nat.le_refl _)))
          clear hK K
          try simp only [Act.put, List.setIfInBounds_toArray, List.set_cons_zero, List.set_cons_succ]
          refine callL 24 (by kernel_rfl) rfl (fun K hK => ?_)
          (refine step_appendN (B := w2.heap.size + 1) (n := 3) (k := k) (m := 1) (cs := ds.flatten) (ys := [.int .i64 l[k].id, .int .i64 l[k].to_, .slice A5 l[k].b.length c5]) (by rfl) (.tmp 45) (.tmp 67) 22 22 (by rfl) 29 tp _ 40 Try.underlying22 hi0 hz3 hz4 rfl hz5 R6 B6 S6 rfl q3 q4 (by rfl) (by rfl) ?_; intro v7 w7 h7 hb7 hk7 ho7; have HS7 := Lib.hid (STEP.out _ w7 v7 _ HW6.out HS6.out h7 hb7 hk7 ho7); have y7 := (YON.out _ HW6.out).kept (hb7.block _ (by have := HSZ.out; have := HW6.out.size; omega)) hb7.size; have u1 := y7.get 1 rfl; have f1 := y7.free 1 (by simp); obtain ⟨A7, c7, hv7, _⟩ := h7.slice; subst hv7; have hbn := (HW6.out.mono hw2r).trans (hb7.mono (Nat.le_succ _)); clear hbm; have hbm := hbn; clear h7 hb7 hk7 ho7 y7 hbn)
          refine hK.out _ _ ?_ (fun hHeld => ?_)
          · ((try dsimp only); with_reducible first | exact HSS.out _ hbm | exact HSS.out _ (below_drewN _ _ _) | exact HSS.out _ (Below.refl _ _).drew | exact HSS.out _ (Below.refl _ _) | exact HSS.out _ (bel_alloc hbm hw2r _) | exact HSS.out _ (bel_alloc (below_drewN _ _ _) hw2r _) | exact HSS.out _ (bel_alloc (Below.refl _ _).drew hw2r _) | exact HSS.out _ (bel_alloc (Below.refl _ _) hw2r _).drew | exact HSS.out _ (below_set hbm _ _ _ (Nat.le_refl _)))
          clear hK K
          try simp only [Act.put, List.setIfInBounds_toArray, List.set_cons_zero, List.set_cons_succ]
          refine takeL 25 rfl (by kernel_rfl) (by kernel_rfl) (by kernel_rfl) (fun _ _ _ h => h) (by rfl) (v := ?vv26) ?yy26 hHeld ?_
          case yy26 => (intro w hSw; (try dsimp only at hSw); go_split_ands; go_simp; try with_reducible rfl)
          try simp only [Act.put, List.setIfInBounds_toArray, List.set_cons_zero, List.set_cons_succ]
          refine callL 26 (by kernel_rfl) rfl (fun K hK => ?_)
          go_simp
          refine hK.out _ _ ?_ (fun hHeld => ?_)
          · ((try dsimp only); with_reducible first | exact HSS.out _ hbm | exact HSS.out _ (below_drewN _ _ _) | exact HSS.out _ (Below.refl _ _).drew | exact HSS.out _ (Below.refl _ _) | exact HSS.out _ (bel_alloc hbm hw2r _) | exact HSS.out _ (bel_alloc (below_drewN _ _ _) hw2r _) | exact HSS.out _ (bel_alloc (Below.refl _ _).drew hw2r _) | exact HSS.out _ (bel_alloc (Below.refl _ _) hw2r _).drew | exact HSS.out _ (below_set hbm _ _ _ (Nat.le_refl _)))
          clear hK K
          try simp only [Act.put, List.setIfInBounds_toArray, List.set_cons_zero, List.set_cons_succ]
          refine wpAnyH_done (by kernel_rfl) ?_ _
          refine NoPanic.normal ?_
          go_wp2
          go_roundw
          case rel => exact ⟨k + 1, by omega, by go_num, HS7.out⟩
          case measure => simp [intOf]; omega
        · (refine step_appendN (B := wr.heap.size) (n := 1) (k := 0) (m := l[k].b.length) (cs := []) (ys := c8 l[k].b) (by rfl) (.tmp 58) (.tmp 64) 25 25 (by rfl) 5 jb _ 1 Try.underlying25 hj hz0 hz1 rfl hz2 R1 hbe S1 y1l q1 q2 (by rfl) (by rfl) ?_; intro v5 w5 h5' hb5 hk5 ho5; rw [Nat.zero_add, List.nil_append] at h5'; have hw5 := HWA.out.trans hb5; have hs5 := roomN_seenX h5'; obtain ⟨A5, c5, hv5, _⟩ := hs5; subst hv5; have h6 := bal w5 (.cells #[.int .i64 l[k].id, .int .i64 l[k].to_, .slice A5 l[k].b.length c5] 29); have hw6 := hw5.trans (h6.mono hw5.size); have HS6 := Lib.hid ((roomN_seenX h5').keep (fun b _ hlt => h6.block b hlt) h6.size); have HW6 := Lib.hid hw6; have R6 := RON.out _ hw6; have B6 : w2.heap.size + 1 ≤ (w5.alloc (.cells #[.int .i64 l[k].id, .int .i64 l[k].to_, .slice A5 l[k].b.length c5] 29)).heap.size := Nat.le_trans HSZ.out hw6.size; have S6 := srcN_one (P := Try.prog) w5 3 [.int .i64 l[k].id, .int .i64 l[k].to_, .slice A5 l[k].b.length c5] rfl (cell_one l[k] _ (roomN_seenX h5').seen) (e := 29) Try.underlying22; have hbm : Below w2.heap.size wr w5 := hw5.mono hw2r; have y15 := (YON.out _ hw5).get 1 rfl; have y16 := (YON.out _ hw6).get 1 rfl; clear h5' hb5 hk5 ho5 hw5 h6 hw6)
          refine hK.out _ _ ?_ (fun hHeld => ?_)
          · ((try dsimp only); with_reducible first | exact HSS.out _ hbm | exact HSS.out _ (below_drewN _ _ _) | exact HSS.out _ (Below.refl _ _).drew | exact HSS.out _ (Below.refl _ _) | exact HSS.out _ (bel_alloc hbm hw2r _) | exact HSS.out _ (bel_alloc (below_drewN _ _ _) hw2r _) | exact HSS.out _ (bel_alloc (Below.refl _ _).drew hw2r _) | exact HSS.out _ (bel_alloc (Below.refl _ _) hw2r _).drew | exact HSS.out _ (below_set hbm _ _ _ (Nat.le_refl _)))
          clear hK K
          try simp only [Act.put, List.setIfInBounds_toArray, List.set_cons_zero, List.set_cons_succ]
          refine takeL 22 rfl (by kernel_rfl) (by kernel_rfl) (by kernel_rfl) (fun _ _ _ h => h) (by rfl) (v := ?vv20) ?yy20 hHeld ?_
          case yy20 => (intro w hSw; (try dsimp only at hSw); go_split_ands; go_simp; try with_reducible rfl)
          try simp only [Act.put, List.setIfInBounds_toArray, List.set_cons_zero, List.set_cons_succ]
          refine pairL 1 23 (by kernel_rfl) rfl rfl (fun K hK => ?_) (fun K hK => ?_)
          · go_simp
            refine hK.out _ _ hHeld (fun hHeld => ?_)
            clear hK K
            try simp only [Act.put, List.setIfInBounds_toArray, List.set_cons_zero, List.set_cons_succ]
            refine callL 23 (by kernel_rfl) rfl (fun K hK => ?_)
            go_simp
            refine hK.out _ _ ?_ (fun hHeld => ?_)
            · ((try dsimp only); with_reducible first | exact HSS.out _ hbm | exact HSS.out _ (below_drewN _ _ _) | exact HSS.out _ (Below.refl _ _).drew | exact HSS.out _ (Below.refl _ _) | exact HSS.out _ (bel_alloc hbm hw2r _) | exact HSS.out _ (bel_alloc (below_drewN _ _ _) hw2r _) | exact HSS.out _ (bel_alloc (Below.refl _ _).drew hw2r _) | exact HSS.out _ (bel_alloc (Below.refl _ _) hw2r _).drew | exact HSS.out _ (below_set hbm _ _ _ (Nat.le_refl _)))
            clear hK K
            try simp only [Act.put, List.setIfInBounds_toArray, List.set_cons_zero, List.set_cons_succ]
            refine callL 24 (by kernel_rfl) rfl (fun K hK => ?_)
            (refine step_appendN (B := w2.heap.size + 1) (n := 3) (k := k) (m := 1) (cs := ds.flatten) (ys := [.int .i64 l[k].id, .int .i64 l[k].to_, .slice A5 l[k].b.length c5]) (by rfl) (.tmp 45) (.tmp 67) 22 22 (by rfl) 29 tp _ 40 Try.underlying22 hi0 hz3 hz4 rfl hz5 R6 B6 S6 rfl q3 q4 (by rfl) (by rfl) ?_; intro v7 w7 h7 hb7 hk7 ho7; have HS7 := Lib.hid (STEP.out _ w7 v7 _ HW6.out HS6.out h7 hb7 hk7 ho7); have y7 := (YON.out _ HW6.out).kept (hb7.block _ (by have := HSZ.out; have := HW6.out.size; omega)) hb7.size; have u1 := y7.get 1 rfl; have f1 := y7.free 1 (by simp); obtain ⟨A7, c7, hv7, _⟩ := h7.slice; subst hv7; have hbn := (HW6.out.mono hw2r).trans (hb7.mono (Nat.le_succ _)); clear hbm; have hbm := hbn; clear h7 hb7 hk7 ho7 y7 hbn)
            refine hK.out _ _ ?_ (fun hHeld => ?_)
            · ((try dsimp only); with_reducible first | exact HSS.out _ hbm | exact HSS.out _ (below_drewN _ _ _) | exact HSS.out _ (Below.refl _ _).drew | exact HSS.out _ (Below.refl _ _) | exact HSS.out _ (bel_alloc hbm hw2r _) | exact HSS.out _ (bel_alloc (below_drewN _ _ _) hw2r _) | exact HSS.out _ (bel_alloc (Below.refl _ _).drew hw2r _) | exact HSS.out _ (bel_alloc (Below.refl _ _) hw2r _).drew | exact HSS.out _ (below_set hbm _ _ _ (Nat.le_refl _)))
            clear hK K
            try simp only [Act.put, List.setIfInBounds_toArray, List.set_cons_zero, List.set_cons_succ]
            refine takeL 25 rfl (by kernel_rfl) (by kernel_rfl) (by kernel_rfl) (fun _ _ _ h => h) (by rfl) (v := ?vv21) ?yy21 hHeld ?_
            case yy21 => (intro w hSw; (try dsimp only at hSw); go_split_ands; go_simp; try with_reducible rfl)
            try simp only [Act.put, List.setIfInBounds_toArray, List.set_cons_zero, List.set_cons_succ]
            refine callL 26 (by kernel_rfl) rfl (fun K hK => ?_)
            go_simp
            refine hK.out _ _ ?_ (fun hHeld => ?_)
            · ((try dsimp only); with_reducible first | exact HSS.out _ hbm | exact HSS.out _ (below_drewN _ _ _) | exact HSS.out _ (Below.refl _ _).drew | exact HSS.out _ (Below.refl _ _) | exact HSS.out _ (bel_alloc hbm hw2r _) | exact HSS.out _ (bel_alloc (below_drewN _ _ _) hw2r _) | exact HSS.out _ (bel_alloc (Below.refl _ _).drew hw2r _) | exact HSS.out _ (bel_alloc (Below.refl _ _) hw2r _).drew | exact HSS.out _ (below_set hbm _ _ _ (Nat.le_refl _)))
            clear hK K
            try simp only [Act.put, List.setIfInBounds_toArray, List.set_cons_zero, List.set_cons_succ]
            refine wpAnyH_done (by kernel_rfl) ?_ _
            refine NoPanic.normal ?_
            go_wp2
            go_roundw
            case rel => exact ⟨k + 1, by omega, by go_num, HS7.out⟩
            case measure => simp [intOf]; omega
          · go_simp
            refine hK.out _ _ ?_ (fun hHeld => ?_)
            · ((try dsimp only); with_reducible first | exact HSS.out _ hbm | exact HSS.out _ (below_drewN _ _ _) | exact HSS.out _ (Below.refl _ _).drew | exact HSS.out _ (Below.refl _ _) | exact HSS.out _ (bel_alloc hbm hw2r _) | exact HSS.out _ (bel_alloc (below_drewN _ _ _) hw2r _) | exact HSS.out _ (bel_alloc (Below.refl _ _).drew hw2r _) | exact HSS.out _ (bel_alloc (Below.refl _ _) hw2r _).drew | exact HSS.out _ (below_set hbm _ _ _ (Nat.le_refl _)))
            clear hK K
            try simp only [Act.put, List.setIfInBounds_toArray, List.set_cons_zero, List.set_cons_succ]
            refine callL 1 (by kernel_rfl) rfl (fun K hK => ?_)
            go_simp
            refine hK.out _ _ hHeld (fun hHeld => ?_)
            clear hK K
            try simp only [Act.put, List.setIfInBounds_toArray, List.set_cons_zero, List.set_cons_succ]
            refine callL 24 (by kernel_rfl) rfl (fun K hK => ?_)
            (refine step_appendN (B := w2.heap.size + 1) (n := 3) (k := k) (m := 1) (cs := ds.flatten) (ys := [.int .i64 l[k].id, .int .i64 l[k].to_, .slice A5 l[k].b.length c5]) (by rfl) (.tmp 45) (.tmp 67) 22 22 (by rfl) 29 tp _ 40 Try.underlying22 hi0 hz3 hz4 rfl hz5 R6 B6 S6 rfl q3 q4 (by rfl) (by rfl) ?_; intro v7 w7 h7 hb7 hk7 ho7; have HS7 := Lib.hid (STEP.out _ w7 v7 _ HW6.out HS6.out h7 hb7 hk7 ho7); have y7 := (YON.out _ HW6.out).kept (hb7.block _ (by have := HSZ.out; have := HW6.out.size; omega)) hb7.size; have u1 := y7.get 1 rfl; have f1 := y7.free 1 (by simp); obtain ⟨A7, c7, hv7, _⟩ := h7.slice; subst hv7; have hbn := (HW6.out.mono hw2r).trans (hb7.mono (Nat.le_succ _)); clear hbm; have hbm := hbn; clear h7 hb7 hk7 ho7 y7 hbn)
            refine hK.out _ _ ?_ (fun hHeld => ?_)
            · ((try dsimp only); with_reducible first | exact HSS.out _ hbm | exact HSS.out _ (below_drewN _ _ _) | exact HSS.out _ (Below.refl _ _).drew | exact HSS.out _ (Below.refl _ _) | exact HSS.out _ (bel_alloc hbm hw2r _) | exact HSS.out _ (bel_alloc (below_drewN _ _ _) hw2r _) | exact HSS.out _ (bel_alloc (Below.refl _ _).drew hw2r _) | exact HSS.out _ (bel_alloc (Below.refl _ _) hw2r _).drew | exact HSS.out _ (below_set hbm _ _ _ (Nat.le_refl _)))
            clear hK K
            try simp only [Act.put, List.setIfInBounds_toArray, List.set_cons_zero, List.set_cons_succ]
            refine takeL 25 rfl (by kernel_rfl) (by kernel_rfl) (by kernel_rfl) (fun _ _ _ h => h) (by rfl) (v := ?vv22) ?yy22 hHeld ?_
            case yy22 => (intro w hSw; (try dsimp only at hSw); go_split_ands; go_simp; try with_reducible rfl)
            try simp only [Act.put, List.setIfInBounds_toArray, List.set_cons_zero, List.set_cons_succ]
            refine callL 26 (by kernel_rfl) rfl (fun K hK => ?_)
            go_simp
            refine hK.out _ _ ?_ (fun hHeld => ?_)
            · ((try dsimp only); with_reducible first | exact HSS.out _ hbm | exact HSS.out _ (below_drewN _ _ _) | exact HSS.out _ (Below.refl _ _).drew | exact HSS.out _ (Below.refl _ _) | exact HSS.out _ (bel_alloc hbm hw2r _) | exact HSS.out _ (bel_alloc (below_drewN _ _ _) hw2r _) | exact HSS.out _ (bel_alloc (Below.refl _ _).drew hw2r _) | exact HSS.out _ (bel_alloc (Below.refl _ _) hw2r _).drew | exact HSS.out _ (below_set hbm _ _ _ (Nat.le_refl _)))
            clear hK K
            try simp only [Act.put, List.setIfInBounds_toArray, List.set_cons_zero, List.set_cons_succ]
            refine wpAnyH_done (by kernel_rfl) ?_ _
            refine NoPanic.normal ?_
            go_wp2
            go_roundw
            case rel => exact ⟨k + 1, by omega, by go_num, HS7.out⟩
            case measure => simp [intOf]; omega
    · obtain rfl : k = l.length := by omega
      rename World => w3
      have HK : Hid (Kept2 (w2.heap.size + 1) w3 V l) := by
        have := (⟨ds, r1, r2, r3⟩ : Kept2 (w2.heap.size + 1) w3 V (l.take l.length))
        rw [List.take_length] at this
        exact this
      have HK0 := HK.out
      obtain ⟨cssK, hK1, _⟩ := HK0
      obtain ⟨AV, cV, rfl, _⟩ := hK1.slice
      clear hK1
      have b3 : Below w.heap.size w w3 := HD2.out.trans (hbw.mono HD2.out.size)
      have a3 := bal w3 (.cells #[] 5)
      have R1 : RoomN (w3.alloc (.cells #[] 5)) w3.heap.size (.slice (some ⟨w3.heap.size, 0, none⟩) 0 0) 1 0 [] := RoomN.empty (Nat.le_refl _) (by simp)
      have hB1 := a3.size
      have S1 : Src Try.prog 1 25 (.slice Ab b.length cb) b.length (c8 b) (w3.alloc (.cells #[] 5)) := (HS.out.on (b3.trans (a3.mono b3.size))).src8 Try.underlying25
      have y1l : (c8 b).length = b.length * 1 := by rw [c8_length, Nat.mul_one]
      have q1 : 0 + b.length ≤ 1000000 := by omega
      have q2 : (0 + b.length) * 1 ≤ 140737488355328 := by omega
      have HX3 := Lib.hid hx
      have HY3 := Lib.hid hy
      have HB3 := Lib.hid b3
      have HBW := Lib.hid hbw
      have HA3 := Lib.hid a3
      have n60 : (Nett.mk nx l).l.length ≤ 61 := by show l.length ≤ 61; omega
      have fn : Fit (Nett.mk nx l).l := right_fit HR.out
      have nx0 : 0 ≤ nx := HR.out.1
      have nx1 : nx ≤ 4611686018427387904 := HR.out.2.1
      clear r1 r2 r3 hx hy hbw b3 a3
      go_wp2_with (first
        | (at_builtin; refine wpList_appendN (B := w3.heap.size) (n := 1) (k := 0) (m := b.length) (cs := []) (ys := c8 b) (by rfl) (.tmp 70) (.tmp 71) 25 25 (by rfl) 5 jb _ 1 Try.underlying25 hj hz0 hz1 rfl hz2 R1 hB1 S1 y1l q1 q2 (by rfl) (by rfl) ?_; intro v4 w4 h4 hb4 hk4 ho4; rw [Nat.zero_add, List.nil_append] at h4; have hs4 := roomN_seenX h4; have HS4 := Lib.hid hs4; have b4 := HA3.out.trans hb4; have B4 := Lib.hid b4; obtain ⟨A4, c4, hv4, _⟩ := hs4; subst hv4; have z0 := (HX3.out.on b4).get 0 rfl; have z1 := (HX3.out.on b4).get 1 rfl; clear h4 hb4 hk4 ho4 b4))
      go_at_call 13
      have w04 : Below w.heap.size w w4 := bt HB3.out B4.out
      refine (send_own w4 _ _ ⟨nx, l⟩ 3 b (HN.out.on w04) HS4.out.seen fn n60 h5 nx0 (by show nx ≤ _; omega)).mono ?_
      rintro e w5 ⟨lv5, rfl, ho5, hb5⟩
      have w05 := bt w04 hb5
      have f61 : (Nett.send ⟨nx, l⟩ 3 b).l.length ≤ 61 := by show (l ++ [_]).length ≤ 61; rw [List.length_append, List.length_singleton]; omega
      have ff := fit_send (n := ⟨nx, l⟩) (to_ := 3) fn n60 h5
      have hn5 : NetAt w5 w5.heap.size (.agg #[.int .i64 (Nett.send ⟨nx, l⟩ 3 b).next, lv5]) (Nett.send ⟨nx, l⟩ 3 b) := ⟨lv5, rfl, ho5.x.pkts⟩
      clear w04 ho5
      go_wp2_with fail
      go_at_call 16
      refine (copy_own w5 _ _ i hn5 ff f61 (by show 0 ≤ nx + 1; omega) (by show nx + 1 ≤ _; omega) HI.out).mono ?_
      rintro e w6 ⟨lv6, rfl, ho6, hb6⟩
      have w06 := bt w05 hb6
      have w46 : Below w4.heap.size w4 w6 := bt hb5 hb6
      have hne : (Nett.copied (Nett.send ⟨nx, l⟩ 3 b) i).l ≠ [] := by
        have h0 : (Nett.send ⟨nx, l⟩ 3 b).l.length = l.length + 1 := by show (l ++ [_]).length = _; simp
        unfold Nett.copied
        rw [if_neg (by omega)]
        intro e
        have := congrArg List.length e
        rw [send_len rfl] at this
        cases this
      generalize Nett.copied (Nett.send ⟨nx, l⟩ 3 b) i = m at ho6 hne ⊢
      obtain ⟨A6, c6, rfl, hl6, hm6, hml | ⟨g, off, css, rfl, hg, hlst, hoc⟩⟩ := ho6
      · exact absurd hml hne
      have a7 := bal w6 (.cells #[.int .i64 m.next, .slice (some ⟨g, off, none⟩) m.l.length c6] 24)
      have FL := Lib.hid (hoc.flip (w' := w6.alloc (.cells #[.int .i64 m.next, .slice (some ⟨g, off, none⟩) m.l.length c6] 24)) (fun b hb => a7.block b hb))
      have BX := Lib.hid (box_made w6 [.int .i64 m.next, .slice (some ⟨g, off, none⟩) m.l.length c6] 24)
      have HL7 := Lib.hid (hlst.on a7)
      have HLN : Hid (css.length = m.l.length) := hoc.1
      have hm1000 : m.l.length ≤ c6 := hl6
      unfold maxLen at hm6
      have W06 := Lib.hid (bt w06 a7)
      have W46 := Lib.hid (bt w46 a7)
      have HB5 : Hid (w4.heap.size ≤ w5.heap.size) := hb5.size
      have HS5 : Hid (w.heap.size ≤ w5.heap.size) := w05.size
      clear hne hoc hlst hg a7 w06 w46 w05 hn5 ff f61 hb5 hb6
      go_wp2
      go_loopw [11] (fun j wr => ∃ k : Nat, k ≤ m.l.length ∧ j = .int .i64 (k : Int) ∧ Flip w5.heap.size w6.heap.size g (w6.alloc (.cells #[.int .i64 m.next, .slice (some ⟨g, off, none⟩) m.l.length c6] 24)) css wr) (fun j _ => m.l.length - (intOf j).toNat)
      case atStart => exact ⟨0, Nat.zero_le _, rfl, FL.out⟩
      case round =>
        obtain ⟨k, hk, rfl, hf⟩ := hrel
        rename World => wo
        have bo := BX.out.kept (hf.same _ (by omega)) (by rw [hf.size]; exact Nat.le_refl _)
        have x0 := bo.get 0 rfl
        have x1 := bo.get 1 rfl
        by_cases hlt : k < m.l.length
        · have hkc : k < css.length := by rw [HLN.out]; exact hlt
          obtain ⟨a, c', Av, nk, cv, ek, hnk, hcv⟩ := hf.third k hkc
          unfold maxLen at hcv
          have HEK : Hid (∃ h : k < css.length, css[k]'h = [a, c', .slice Av nk cv]) := ⟨hkc, ek⟩
          have HF := Lib.hid hf
          clear hf bo ek hkc
          go_wp2
          go_loopw [12] (fun j wr => ∃ q : Nat, q ≤ nk ∧ j = .int .i64 (q : Int) ∧ Flip w5.heap.size w6.heap.size g (w6.alloc (.cells #[.int .i64 m.next, .slice (some ⟨g, off, none⟩) m.l.length c6] 24)) css wr) (fun j _ => nk - (intOf j).toNat)
          case atStart => exact ⟨0, Nat.zero_le _, rfl, HF.out⟩
          case round =>
            obtain ⟨q, hq, rfl, hf2⟩ := hrel
            obtain ⟨hkc, ek⟩ := HEK.out
            have bo2 := BX.out.kept (hf2.same _ (by omega)) (by rw [hf2.size]; exact Nat.le_refl _)
            have lo2 := HL7.out.kept (hf2.same g (fun e => e.2.2 rfl)) (by rw [hf2.size]; exact Nat.le_refl _)
            have z0 := bo2.get 0 rfl
            have z1 := bo2.get 1 rfl
            have d2 := lo2.row k hkc 2 (.slice Av nk cv) (by rw [ek]; rfl)
            have i0 : (0 : Int) ≤ (k : Int) := by omega
            have i1 : (k : Int) < (m.l.length : Int) := by omega
            have HF2 := Lib.hid hf2
            by_cases hq2 : q < nk
            · obtain ⟨bb, ob, x, rfl, hX, cc, ff⟩ := hf2.byte k hkc ek q hq2
              have HX := Lib.hid hX
              have j0 : (0 : Int) ≤ (q : Int) := by omega
              have j1 : (q : Int) < (nk : Int) := by omega
              clear hf2 bo2 lo2 ek hkc hX
              go_wp2
              go_roundw
              case rel => exact ⟨q + 1, by omega, by go_num, HF2.out.step HX.out _ _⟩
              case measure => simp [intOf]; omega
            · obtain rfl : q = nk := by omega
              clear hf2 bo2 lo2 ek hkc
              go_wp2
              go_roundw
              case rel => exact ⟨k + 1, by omega, by go_num, HF2.out⟩
              case measure => simp [intOf]; omega
        · have w0o : Below w.heap.size w wo := W06.out.trans (hf.below.mono HS5.out)
          have w4o : Below w4.heap.size w4 wo := W46.out.trans (hf.below.mono HB5.out)
          have w3o : Below w3.heap.size w3 wo := bt B4.out w4o
          have u0 := (HX3.out.on w3o).get 0 rfl
          have u1 := (HX3.out.on w3o).get 1 rfl
          have W0O := Lib.hid w0o
          have W4O := Lib.hid w4o
          have W3O := Lib.hid w3o
          have TK := Lib.hid (take_own wo _ ⟨nx, l⟩ i (HN.out.on w0o) fn HI.out)
          clear hf bo w0o w4o w3o
          go_wp2_with fail
          go_at_call 9
          refine (TK.out).mono ?_
          rintro e w8 ⟨vq, lv8, rfl, hob, ho8, hb8⟩
          generalize Nett.taken ⟨nx, l⟩ i = t at hob ho8 ⊢
          obtain ⟨⟨pid, pto, pb⟩, ⟨tn, tl⟩, ok⟩ := t
          dsimp only at hob ho8 ⊢
          have hbt := hob.bts
          obtain ⟨Ap, cp, rfl, hpl, hpm, _⟩ := id hob
          obtain ⟨A8, c8', rfl, _⟩ := ho8
          have hpb : pb.length ≤ cp := hpl
          unfold maxLen at hpm
          generalize pb.length = pl at hbt hpb ⊢
          generalize tl.length = tll
          have a10 : Below w8.heap.size w8 ((w8.alloc (.cells #[.int .i64 pid, .int .i64 pto, .slice Ap pl cp] 29)).alloc (.cells #[.int .i64 tn, .slice A8 tll c8'] 24)) := bt (bal _ _) (bal _ _)
          have PX := Lib.hid ((box_made w8 [.int .i64 pid, .int .i64 pto, .slice Ap pl cp] 29).on (bal _ (.cells #[.int .i64 tn, .slice A8 tll c8'] 24)))
          have FP : Hid (Flip wo.heap.size w8.heap.size w8.heap.size ((w8.alloc (.cells #[.int .i64 pid, .int .i64 pto, .slice Ap pl cp] 29)).alloc (.cells #[.int .i64 tn, .slice A8 tll c8'] 24)) [[.int .i64 pid, .int .i64 pto, .slice Ap pl cp]] ((w8.alloc (.cells #[.int .i64 pid, .int .i64 pto, .slice Ap pl cp] 29)).alloc (.cells #[.int .i64 tn, .slice A8 tll c8'] 24))) :=
            Flip.start fun j hj => by
              obtain rfl : j = 0 := by simpa using hj
              exact ⟨_, _, _, _, rfl, (hbt.mono fun b hb => (⟨hb.1, hb.2, by have := hb.2; omega⟩ : wo.heap.size ≤ b ∧ b < w8.heap.size ∧ b ≠ w8.heap.size)).kept fun b hb => a10.block b hb.2.1⟩
          have W8 := Lib.hid hb8
          have A10 := Lib.hid a10
          clear hob hbt hb8 a10 u0 u1
          go_wp2
          go_loopw [16] (fun j wr => ∃ q : Nat, q ≤ pl ∧ j = .int .i64 (q : Int) ∧ Flip wo.heap.size w8.heap.size w8.heap.size ((w8.alloc (.cells #[.int .i64 pid, .int .i64 pto, .slice Ap pl cp] 29)).alloc (.cells #[.int .i64 tn, .slice A8 tll c8'] 24)) [[.int .i64 pid, .int .i64 pto, .slice Ap pl cp]] wr) (fun j _ => pl - (intOf j).toNat)
          case atStart => exact ⟨0, Nat.zero_le _, rfl, FP.out⟩
          case round =>
            obtain ⟨q, hq, rfl, hf2⟩ := hrel
            have bp := PX.out.kept (hf2.same _ (by omega)) (by rw [hf2.size]; exact Nat.le_refl _)
            have p2 := bp.get 2 rfl
            have HF2 := Lib.hid hf2
            by_cases hq2 : q < pl
            · obtain ⟨bb, ob, x, rfl, hX, cc, ff⟩ := hf2.byte 0 (by simp) rfl q hq2
              have HX := Lib.hid hX
              have j0 : (0 : Int) ≤ (q : Int) := by omega
              have j1 : (q : Int) < (pl : Int) := by omega
              clear hf2 bp hX
              go_wp2
              go_roundw
              case rel => exact ⟨q + 1, by omega, by go_num, HF2.out.step HX.out _ _⟩
              case measure => simp [intOf]; omega
            · obtain rfl : q = pl := by omega
              have wof : Below wo.heap.size wo wr := W8.out.trans ((A10.out.mono W8.out.size).trans hf2.below)
              have w0f : Below w.heap.size w wr := bt W0O.out wof
              have w3f : Below w3.heap.size w3 wr := bt W3O.out wof
              have w4f : Below w4.heap.size w4 wr := bt W4O.out wof
              have e0 := (HX3.out.on w3f).get 0 rfl
              have e1 := (HX3.out.on w3f).get 1 rfl
              have g0 := (HY3.out.on w3f).get 0 rfl
              have g1 := (HY3.out.on w3f).get 1 rfl
              have hnf : NetAt wr wr.heap.size (.agg #[.int .i64 nx, .slice A l.length c]) ⟨nx, l⟩ := HN.out.on w0f
              have hwf : NetAt wr wr.heap.size (.agg #[.int .i64 nx, .slice AV l.length cV]) ⟨nx, l⟩ := ⟨_, rfl, (HK.out.on w3f).pkts⟩
              have SM := Lib.hid (samenet_yes hnf hwf)
              have SB := Lib.hid (fun (W : World) (hW : Below wr.heap.size wr W) => same_yes W ((HS.out.on w0f).on hW) ((HS4.out.seen.on w4f).on hW))
              have W0F := Lib.hid w0f
              clear hf2 bp wof w0f w3f w4f hnf hwf
              go_wp2_with fail
              go_at_call 12
              refine (SM.out).mono ?_
              rintro e wa ⟨rfl, hba⟩
              have SBA := Lib.hid (SB.out wa hba)
              have WA := Lib.hid (bt W0F.out hba)
              clear hba
              go_wp2_with fail
              go_at_call 20
              refine (SBA.out).mono ?_
              rintro e wb ⟨rfl, hbb⟩
              have WB := Lib.hid (bt WA.out hbb)
              clear hbb
              go_wp2
              go_ret
              exact ⟨rfl, WB.out⟩

theorem keeps_all (v : Value) (n : Nett) (vb : Value) (b : List UInt8) (i : Int) (w : World) (h : NetAt w w.heap.size v n) (hs : Seen w w.heap.size vb b) : Calls Try.prog 5 #[v, vb, .int .i64 i] w fun e w' => e = .returned (.bool true) ∧ Below w.heap.size w w' := by
  by_cases hr : n.right
  · by_cases h5 : 500 < b.length
    · exact keeps_no w v vb n i b h hs (.inr (.inl h5))
    · by_cases hi : i < 0
      · exact keeps_no w v vb n i b h hs (.inr (.inr hi))
      · exact keeps_yes w v vb n i b h hs hr (by omega) (by omega)
  · exact keeps_no w v vb n i b h hs (.inl hr)

end Go.Proofs.Ythpbnjmhhkkkiaa
