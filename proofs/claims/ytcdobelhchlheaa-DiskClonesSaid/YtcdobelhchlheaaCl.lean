/-
  DiskClones, of every input (made by disk-clones-gen.py).
-/
import Derived.Test.YtcdobelhchlheaaAc
namespace Go.Proofs.Ytcdobelhchlheaa
open Go.RowKit
attribute [local go_sem ↓] Go.wp_at_zero Go.wp_at_succ

/-- the disk that was cloned, and the document's in a variable at block gw, while others are played with -/
structure Rest (B g gd gw : Nat) (s0 : Dsk) (F0 : Nat → Prop) (d0 : Dskd) (sv0 lv0 : Value) (F : Nat → Prop) (wr : World) : Prop where
  disk : Disk wr B g s0 F0
  apart : ∀ k, F0 k → ¬ F k ∧ k ≠ gd
  box : Box gw (d0.cells sv0 lv0) wr
  gw : ¬ F gw ∧ gw ≠ gd
  lies : d0.liesIn wr B (fun k => ¬ F k ∧ k ≠ gd) sv0 lv0
theorem Rest.turn {B g gd gw : Nat} {s0 : Dsk} {F0 F F' : Nat → Prop} {d0 : Dskd} {sv0 lv0 : Value} {w w' : World} (h : Rest B g gd gw s0 F0 d0 sv0 lv0 F w) (hf : ∀ k, F' k → F k ∨ w.heap.size ≤ k) (hb : Below B w w') (hk : ∀ k, k < w.heap.size → ¬ F k → w'.heap[k]? = w.heap[k]?) : Rest B g gd gw s0 F0 d0 sv0 lv0 F' w' where
  disk := h.disk.kept (fun k q => hk k (h.disk.less k q).2 (h.apart k q).1) hb.size
  apart := fun k q => ⟨fun r => (hf k r).elim (h.apart k q).1 (fun c => by have := (h.disk.less k q).2; omega), (h.apart k q).2⟩
  box := h.box.kept (hk gw h.box.1 h.gw.1) hb.size
  gw := ⟨fun r => (hf gw r).elim h.gw.1 (fun c => by have := h.box.1; omega), h.gw.2⟩
  lies := lies_turn h.lies hf hb hk
theorem Rest.on {B g g2 gd gw : Nat} {s0 s : Dsk} {F0 F : Nat → Prop} {d0 : Dskd} {sv0 lv0 : Value} {w w' : World} (h : Rest B g gd gw s0 F0 d0 sv0 lv0 F w) (hd : Disk w B g2 s F) (hg : gd < w.heap.size) (hb : Below w.heap.size w w') : Rest B g gd gw s0 F0 d0 sv0 lv0 F w' where
  disk := h.disk.on hb
  apart := h.apart
  box := h.box.on hb
  gw := h.gw
  lies := ⟨lies_on h.lies.1 hd hg hd.base hb, lies_on h.lies.2 hd hg hd.base hb⟩
theorem Rest.put {B g gd gw : Nat} {s0 : Dsk} {F0 F : Nat → Prop} {d0 : Dskd} {sv0 lv0 : Value} {wx : World} (h : Rest B g gd gw s0 F0 d0 sv0 lv0 F wx) (hB : B ≤ gd) (p q r t u : Value) : Rest B g gd gw s0 F0 d0 sv0 lv0 F (put5 wx gd p q r t u) where
  disk := h.disk.kept (fun k a => put5_other _ _ _ _ _ _ _ k (h.apart k a).2) (Nat.le_of_eq (put5_size _ _ _ _ _ _ _).symm)
  apart := h.apart
  box := h.box.kept (put5_other _ _ _ _ _ _ _ gw h.gw.2) (Nat.le_of_eq (put5_size _ _ _ _ _ _ _).symm)
  gw := h.gw
  lies := ⟨h.lies.1.kept (put5_below wx hB _ _ _ _ _) (fun k a _ => put5_other _ _ _ _ _ _ _ k a.2), h.lies.2.kept (put5_below wx hB _ _ _ _ _) (fun k a _ => put5_other _ _ _ _ _ _ _ k a.2)⟩
def BothF (B g gd m n : Nat) (F : Nat → Prop) (wr : World) : Prop := ∃ s d sv lv, Disk wr B g s F ∧ Sim s d ∧ BoxF gd (d.cells sv lv) wr ∧ ¬ F gd ∧ d.liesIn wr B (fun k => ¬ F k ∧ k ≠ gd) sv lv ∧ s.mass ≤ m ∧ d.safe.length + d.loose.length ≤ n

set_option maxRecDepth 100000 in
set_option maxHeartbeats 4000000 in
theorem clones_walk (v : Value) (l : List Actd) (vm : Value) (m : List Actd) (w : World) (hv : ActsAt w w.heap.size v l) (hf : ∀ a ∈ l, a.fits) (hvm : ActsAt w w.heap.size vm m) (hfm : ∀ a ∈ m, a.fits) :
    Calls Try.prog 5 #[v, vm] w fun e w' => e = .returned (.bool true) ∧ Below w.heap.size w w' := by
  have HV := Lib.hid hv
  have HVM := Lib.hid hvm
  obtain ⟨A, c, rfl, _⟩ := hv.len
  obtain ⟨Am, cm, rfl, _⟩ := hvm.len
  clear hv hvm
  by_cases hfew : fewA l = true
  · by_cases hfewm : fewA m = true
    · obtain ⟨h40, h200⟩ := fewA_small hfew
      obtain ⟨h40m, h200m⟩ := fewA_small hfewm
      have HR := Lib.hid (few_right hfew (fun a ha => .inr (hf a ha)))
      have H200 := Lib.hid h200
      have HRM := Lib.hid (few_right hfewm (fun a ha => .inr (hfm a ha)))
      have H200M := Lib.hid h200m
      clear hf hfm h200 h200m
      go_enter Try.func5, Try.ntmps5
      go_wp2_with fail
      go_at_call 8
      refine (awake_any w).mono ?_
      rintro e w1 ⟨rfl, b1⟩
      have hv1 := HV.out.on b1
      go_wp2_with fail
      go_at_call 9
      refine (few_any w1 _ _ l hv1 (Nat.le_refl _)).mono ?_
      rintro e w2 ⟨rfl, b2⟩
      have b02 := bt b1 b2
      rw [hfew]
      have hvm2 := HVM.out.on b02
      clear hv1 b1 b2
      go_wp2_with fail
      go_at_call 9
      refine (few_any w2 _ _ m hvm2 (Nat.le_refl _)).mono ?_
      rintro e w2' ⟨rfl, b2'⟩
      have b02' := bt b02 b2'
      rw [hfewm]
      clear hvm2 b02 b2'
      go_wp2_with fail
      go_at_call 10
      refine (new_any w2' w.heap.size b02'.size).mono ?_
      rintro e w3 ⟨rfl, hd3, b3⟩
      have b03 := bt b02' b3
      generalize hF : (fun x => x = w2'.heap.size) = F3 at hd3
      clear hF b3 b02'
      generalize w2'.heap.size = g at hd3 ⊢
      obtain ⟨gd, hgd⟩ : ∃ x, x = w3.heap.size := ⟨_, rfl⟩
      have hal := bal w3 (.cells #[.slice none 0 0, .slice none 0 0, .int .i64 0, .bool false, .bool false] 28)
      have HGB : Hid (w.heap.size ≤ gd) := by show _ ≤ _; rw [hgd]; exact b03.size
      have HK0 : Hid (Both w.heap.size g gd 0 0 (w3.alloc (.cells #[.slice none 0 0, .slice none 0 0, .int .i64 0, .bool false, .bool false] 28))) :=
        ⟨Dsk.fresh, F3, ⟨[], [], 0, false, false⟩, .slice none 0 0, .slice none 0 0, hd3.on hal, sim_fresh, by rw [hgd]; exact boxF_made w3 _ _, fun hF => by have := (hd3.less gd hF).2; omega, ⟨ActsIn.nil, ActsIn.nil⟩, Nat.le_refl _, Nat.le_refl _⟩
      have HB3 : Hid (Below w.heap.size w (w3.alloc (.cells #[.slice none 0 0, .slice none 0 0, .int .i64 0, .bool false, .bool false] 28))) := bt b03 hal
      have HGD := Lib.hid hgd
      clear hd3 b03 hfew hfewm hal hgd
      go_wp2
      rw [← HGD.out]
      clear HGD
      go_loopw [7] (fun i wr => ∃ k : Nat, k ≤ l.length ∧ i = .int .i64 (k : Int) ∧ Both w.heap.size g gd (201 * k) k wr ∧ Below w.heap.size w wr) (fun i _ => l.length - (intOf i).toNat)
      case atStart => exact ⟨0, Nat.zero_le _, rfl, HK0.out, HB3.out⟩
      case round =>
        obtain ⟨k, hk, rfl, ⟨s, F, d, sv, lv, hd, hsim, hbx, hF, hl, hm, hn⟩, hb⟩ := hrel
        by_cases hlt : k < l.length
        · obtain ⟨b, off, vb, rfl, hbw, hbB, hsb, c0, c1, c2, c3, c4⟩ := (HV.out.below hb).at_ k hlt
          have hmem := List.getElem_mem hlt
          have ha2 := H200.out _ hmem
          have har := HR.out _ hmem
          obtain ⟨a, hae⟩ : ∃ a, a = l[k] := ⟨_, rfl⟩
          rw [← hae] at c0 c1 c3 c4 hsb ha2 har
          have HCL : Hid (∀ W, Below w.heap.size wr W → W.cell? ⟨b, off + k * 5, none⟩ = some (.int .u8 (a.kind.toNat : Int)) ∧ W.cell? ⟨b, off + k * 5 + 1, none⟩ = some (.int .i64 a.area) ∧ W.cell? ⟨b, off + k * 5 + 2, none⟩ = some vb ∧ W.cell? ⟨b, off + k * 5 + 3, none⟩ = some (.int .i64 a.n) ∧ W.cell? ⟨b, off + k * 5 + 4, none⟩ = some (.int .i64 a.m)) := fun W hW =>
            ⟨(World.cell?_of_block (a := ⟨b, off + k * 5, none⟩) (hW.block b hbB)).trans c0, (World.cell?_of_block (a := ⟨b, off + k * 5 + 1, none⟩) (hW.block b hbB)).trans c1, (World.cell?_of_block (a := ⟨b, off + k * 5 + 2, none⟩) (hW.block b hbB)).trans c2, (World.cell?_of_block (a := ⟨b, off + k * 5 + 3, none⟩) (hW.block b hbB)).trans c3, (World.cell?_of_block (a := ⟨b, off + k * 5 + 4, none⟩) (hW.block b hbB)).trans c4⟩
          have RP := Lib.hid (play_any a vb wr w.heap.size g s F hd hsb.full har (by omega))
          have hmn := act_mass s a
          have hnn := act_len d a
          have i0 : (0 : Int) ≤ (k : Int) := by omega
          have i1 : (k : Int) < (l.length : Int) := by omega
          have HSB := Lib.hid hsb
          obtain ⟨Ab, cb, hvb, _⟩ := hsb
          subst hvb
          have HB := Lib.hid hb
          have HM : Hid ((s.act a).1.mass ≤ 201 * (k + 1)) := by show _ ≤ _; omega
          have HN : Hid ((d.act a).1.safe.length + (d.act a).1.loose.length ≤ k + 1) := by show _ ≤ _; omega
          have HND : Hid (d.safe.length + d.loose.length ≤ 100000) := by show _ ≤ _; omega
          have HSA := Lib.hid (sim_act hsim a har)
          have HLF : Hid (d.armed = true → I64 (d.left - 1)) := fun q => hsim.leftin hd q
          clear hae hd hb hmem ha2 hmn hnn hm hn hsim har
          go_wp2_with fail
          go_at_call 11
          refine (RP.out).mono ?_
          rintro e w5 ⟨rfl, F5, hd5, hf5, hb5, hk5⟩
          have hbx5 := hbx.kept (hk5 gd hbx.1 hF) hb5.size
          have hF5 : ¬ F5 gd := fun q => (hf5 gd q).elim hF (fun h => by have := hbx.1; omega)
          have hl5 := lies_turn hl hf5 hb5 hk5
          have hB5 : w.heap.size ≤ w5.heap.size := Nat.le_trans HB.out.size hb5.size
          have E1 : Below w5.heap.size w5 w5.drew := (Below.refl _ _).drew
          have RDO : Hid (Calls Try.prog 12 #[.agg #[sv, lv, .int .i64 d.left, .bool d.armed, .bool d.down], .agg #[.int .u8 (a.kind.toNat : Int), .int .i64 a.area, .slice Ab a.b.length cb, .int .i64 a.n, .int .i64 a.m]] w5.drew (Done7 w.heap.size (fun b => ¬ F5 b ∧ b ≠ gd) w5.drew (d.act a).1 (d.act a).2)) :=
            docs_any d a sv lv _ w5.drew w.heap.size _ (Nat.le_trans hB5 E1.size) ⟨hl5.1.below E1 hB5 (fun _ _ q => q), hl5.2.below E1 hB5 (fun _ _ q => q)⟩ ((HSB.out.below hb5).below (E1.mono hB5)) HLF.out HND.out
          have hbxd := hbx5.on E1
          have x0 := hbxd.get 0 rfl
          have x1 := hbxd.get 1 rfl
          have x2 := hbxd.get 2 rfl
          have x3 := hbxd.get 3 rfl
          have x4 := hbxd.get 4 rfl
          obtain ⟨e0, e1, e2, e3, e4⟩ := HCL.out w5.drew (hb5.trans (E1.mono hB5))
          obtain ⟨f0, f1, f2, f3, f4⟩ := HCL.out w5 hb5
          have HD5 := Lib.hid hd5
          have HX5 := Lib.hid hbx5
          have HF5 := Lib.hid hF5
          have HB5 : Hid (Below w.heap.size w w5) := HB.out.trans hb5
          obtain ⟨As, ns, zs, hvs⟩ := acts_slice hl5.1
          obtain ⟨Al, nl, zl, hvl⟩ := acts_slice hl5.2
          subst hvs hvl
          obtain ⟨d', hd'⟩ : ∃ x, x = (d.act a).1 := ⟨_, rfl⟩
          obtain ⟨why, hwhy⟩ : ∃ x, x = (d.act a).2 := ⟨_, rfl⟩
          rw [← hd'] at RDO HN HSA
          rw [← hwhy] at RDO HSA
          have HE1 := Lib.hid E1
          clear hd5 hf5 hb5 hk5 RP c0 c1 c2 c3 c4 hbx hF hl hbx5 hF5 hl5 hd' hwhy hbB hbw hbxd E1 hB5
          go_wp2
          first | (go_region_with (first | (go_at_call 12; (with_reducible refine (RDO.out).mono ?_); rintro e w6 ⟨sv', lv', rfl, hl6, hb6⟩; have hg6 := HX5.out.on (bt HE1.out hb6); have u0 := hg6.2 0 (by simp [Dskd.cells]); have u1 := hg6.2 1 (by simp [Dskd.cells]); have u2 := hg6.2 2 (by simp [Dskd.cells]); have u3 := hg6.2 3 (by simp [Dskd.cells]); have u4 := hg6.2 4 (by simp [Dskd.cells]); obtain ⟨As', ns', zs', hvs'⟩ := acts_slice hl6.1; obtain ⟨Al', nl', zl', hvl'⟩ := acts_slice hl6.2; subst hvs' hvl'; have HL6 := Lib.hid hl6; have HG6 := Lib.hid hg6; have HB6 := Lib.hid (bt HE1.out hb6); clear hl6 hb6 hg6))) | fail
          all_goals
            have hlc : d'.liesIn w6 w.heap.size (fun k => ¬ F5 k ∧ k ≠ gd) (.slice As' ns' zs') (.slice Al' nl' zl') := by
              have key : ∀ b, (¬ F5 b ∧ b ≠ gd) ∨ w5.drew.heap.size ≤ b → ¬ F5 b ∧ b ≠ gd := fun b q => q.elim id (fun h => ⟨fun hF => by have := (HD5.out.less b hF).2; have := HE1.out.size; omega, by have := HX5.out.1; have := HE1.out.size; omega⟩)
              exact ⟨HL6.out.1.imp (fun b q _ => key b q), HL6.out.2.imp (fun b q _ => key b q)⟩
            have hNX := Lib.hid (both_next (HD5.out.on HB6.out) HG6.out HF5.out hlc HGB.out rfl)
            have HBC : Hid (Below w.heap.size w w6) := HB5.out.trans (HB6.out.mono HB5.out.size)
            have HBT : Hid (Both w.heap.size g gd (201 * (k + 1)) (k + 1) (put5 w6 gd (.slice As' ns' zs') (.slice Al' nl' zl') (.int .i64 d'.left) (.bool d'.armed) (.bool d'.down))) := ⟨_, F5, d', _, _, hNX.out.1, HSA.out.1, hNX.out.2.1, HF5.out, hNX.out.2.2.1, HM.out, HN.out⟩
            have HBY : Hid (Below w.heap.size w (put5 w6 gd (.slice As' ns' zs') (.slice Al' nl' zl') (.int .i64 d'.left) (.bool d'.armed) (.bool d'.down))) := HBC.out.trans hNX.out.2.2.2
            clear hlc x0 x1 x2 x3 x4 e0 e1 e2 e3 e4 f0 f1 f2 f3 f4 u0 u1 u2 u3 u4
            go_wp2
            go_roundw
            case rel => exact ⟨k + 1, by omega, by go_num, HBT.out, HBY.out⟩
            case measure => simp [intOf]; omega
        · have hms : s.mass ≤ 8040 := by omega
          have hns : d.safe.length + d.loose.length ≤ 40 := by omega
          have HSIM0 := Lib.hid hsim
          have HMS := Lib.hid hms
          have HNS := Lib.hid hns
          clear hm hn
          go_wp2_with fail
          go_at_call 24
          refine (clone_disk _ _ _ _ _ hd (by omega)).mono ?_
          rintro e w4 ⟨g2, F2, rfl, hd2, hf2, b4⟩
          have hdp := hd.on b4
          have hbx4 := hbx.on b4
          have hF2 : ¬ F2 gd := fun q => by have := hf2 gd q; have := hbx.1; omega
          have hl4 : d.liesIn w4 w.heap.size (fun k => ¬ F2 k ∧ k ≠ gd) sv lv := by
            have key : ∀ {v : Value} {q : List Actd}, ActsIn wr w.heap.size (fun k => ¬ F k ∧ k ≠ gd) v q → ActsIn w4 w.heap.size (fun k => ¬ F2 k ∧ k ≠ gd) v q := fun {v q} h =>
              (h.imp (Y := fun k => ¬ F2 k ∧ k ≠ gd) (fun b a c => ⟨fun r => by have := hf2 b r; omega, a.2⟩)).below b4 hb.size (fun _ _ r => r)
            exact ⟨key hl.1, key hl.2⟩
          have hgdw : gd < w4.heap.size := hbx4.1
          have hap : ∀ k, F k → ¬ F2 k ∧ k ≠ gd := fun k q => ⟨fun r => by have := hf2 k r; have := (hd.less k q).2; omega, fun r => hF (by rw [← r]; exact q)⟩
          have hb4 : Below w.heap.size w w4 := bt hb b4
          obtain ⟨gw, hgw⟩ : ∃ x, x = w4.heap.size := ⟨_, rfl⟩
          obtain ⟨A0, n0, z0, hv0⟩ := acts_slice hl4.1
          obtain ⟨A9, n9, z9, hv9⟩ := acts_slice hl4.2
          subst hv0 hv9
          have a4 := bal w4 (.cells #[.slice A0 n0 z0, .slice A9 n9 z9, .int .i64 d.left, .bool d.armed, .bool d.down] 28)
          have hl9 : d.liesIn (w4.alloc (.cells #[.slice A0 n0 z0, .slice A9 n9 z9, .int .i64 d.left, .bool d.armed, .bool d.down] 28)) w.heap.size (fun k => ¬ F2 k ∧ k ≠ gd) (.slice A0 n0 z0) (.slice A9 n9 z9) := ⟨hl4.1.below a4 hb4.size (fun _ _ r => r), hl4.2.below a4 hb4.size (fun _ _ r => r)⟩
          have HREST : Hid (Rest w.heap.size g gd gw s F d (.slice A0 n0 z0) (.slice A9 n9 z9) F2 (w4.alloc (.cells #[.slice A0 n0 z0, .slice A9 n9 z9, .int .i64 d.left, .bool d.armed, .bool d.down] 28))) :=
            ⟨hdp.on a4, hap, by rw [hgw]; exact box_made w4 [.slice A0 n0 z0, .slice A9 n9 z9, .int .i64 d.left, .bool d.armed, .bool d.down] _, ⟨fun q => by have := (hd2.less gw q).2; omega, by omega⟩, hl9⟩
          have HBF : Hid (BothF w.heap.size g2 gd (8040 + 201 * 0) (40 + 0) F2 (w4.alloc (.cells #[.slice A0 n0 z0, .slice A9 n9 z9, .int .i64 d.left, .bool d.armed, .bool d.down] 28))) :=
            ⟨s, d, _, _, hd2.on a4, hsim, hbx4.on a4, hF2, hl9, by omega, by omega⟩
          have HB9 : Hid (Below w.heap.size w (w4.alloc (.cells #[.slice A0 n0 z0, .slice A9 n9 z9, .int .i64 d.left, .bool d.armed, .bool d.down] 28))) := bt hb4 a4
          have HGW := Lib.hid hgw
          have x0 := hbx4.get 0 rfl
          have x1 := hbx4.get 1 rfl
          have x2 := hbx4.get 2 rfl
          have x3 := hbx4.get 3 rfl
          have x4 := hbx4.get 4 rfl
          clear hd hsim hbx hF hl hb hd2 hf2 b4 hdp hbx4 hF2 hl4 hgdw hap hb4 a4 hl9 hgw hms hns
          go_wp2
          rw [← HGW.out]
          clear HGW x0 x1 x2 x3 x4
          go_loopw [10] (fun i wr => ∃ k : Nat, k ≤ m.length ∧ i = .int .i64 (k : Int) ∧ (∃ F', BothF w.heap.size g2 gd (8040 + 201 * k) (40 + k) F' wr ∧ Rest w.heap.size g gd gw s F d (.slice A0 n0 z0) (.slice A9 n9 z9) F' wr) ∧ Below w.heap.size w wr) (fun i _ => m.length - (intOf i).toNat)
          case atStart => exact ⟨0, Nat.zero_le _, rfl, ⟨F2, HBF.out, HREST.out⟩, HB9.out⟩
          case round =>
            obtain ⟨k, hk, rfl, ⟨F, ⟨s, d, sv, lv, hd, hsim, hbx, hF, hl, hm, hn⟩, hrest⟩, hb⟩ := hrel
            by_cases hlt : k < m.length
            · obtain ⟨b, off, vb, rfl, hbw, hbB, hsb, c0, c1, c2, c3, c4⟩ := (HVM.out.below hb).at_ k hlt
              have hmem := List.getElem_mem hlt
              have ha2 := H200M.out _ hmem
              have har := HRM.out _ hmem
              obtain ⟨a, hae⟩ : ∃ a, a = m[k] := ⟨_, rfl⟩
              rw [← hae] at c0 c1 c3 c4 hsb ha2 har
              have HCL : Hid (∀ W, Below w.heap.size wr W → W.cell? ⟨b, off + k * 5, none⟩ = some (.int .u8 (a.kind.toNat : Int)) ∧ W.cell? ⟨b, off + k * 5 + 1, none⟩ = some (.int .i64 a.area) ∧ W.cell? ⟨b, off + k * 5 + 2, none⟩ = some vb ∧ W.cell? ⟨b, off + k * 5 + 3, none⟩ = some (.int .i64 a.n) ∧ W.cell? ⟨b, off + k * 5 + 4, none⟩ = some (.int .i64 a.m)) := fun W hW =>
                ⟨(World.cell?_of_block (a := ⟨b, off + k * 5, none⟩) (hW.block b hbB)).trans c0, (World.cell?_of_block (a := ⟨b, off + k * 5 + 1, none⟩) (hW.block b hbB)).trans c1, (World.cell?_of_block (a := ⟨b, off + k * 5 + 2, none⟩) (hW.block b hbB)).trans c2, (World.cell?_of_block (a := ⟨b, off + k * 5 + 3, none⟩) (hW.block b hbB)).trans c3, (World.cell?_of_block (a := ⟨b, off + k * 5 + 4, none⟩) (hW.block b hbB)).trans c4⟩
              have RP := Lib.hid (play_any a vb wr w.heap.size g2 s F hd hsb.full har (by omega))
              have hmn := act_mass s a
              have hnn := act_len d a
              have i0 : (0 : Int) ≤ (k : Int) := by omega
              have i1 : (k : Int) < (m.length : Int) := by omega
              have HSB := Lib.hid hsb
              obtain ⟨Ab, cb, hvb, _⟩ := hsb
              subst hvb
              have HB := Lib.hid hb
              have HM : Hid ((s.act a).1.mass ≤ 8040 + 201 * (k + 1)) := by show _ ≤ _; omega
              have HN : Hid ((d.act a).1.safe.length + (d.act a).1.loose.length ≤ 40 + (k + 1)) := by show _ ≤ _; omega
              have HND : Hid (d.safe.length + d.loose.length ≤ 100000) := by show _ ≤ _; omega
              have HSA := Lib.hid (sim_act hsim a har)
              have HLF : Hid (d.armed = true → I64 (d.left - 1)) := fun q => hsim.leftin hd q
              clear hae hd hb hmem ha2 hmn hnn hm hn hsim har
              go_wp2_with fail
              go_at_call 11
              refine (RP.out).mono ?_
              rintro e w5 ⟨rfl, F5, hd5, hf5, hb5, hk5⟩
              have hbx5 := hbx.kept (hk5 gd hbx.1 hF) hb5.size
              have hF5 : ¬ F5 gd := fun q => (hf5 gd q).elim hF (fun h => by have := hbx.1; omega)
              have hl5 := lies_turn hl hf5 hb5 hk5
              have hB5 : w.heap.size ≤ w5.heap.size := Nat.le_trans HB.out.size hb5.size
              have HREST5 := Lib.hid (hrest.turn hf5 hb5 hk5)
              have E1 : Below w5.heap.size w5 w5.drew := (Below.refl _ _).drew
              have RDO : Hid (Calls Try.prog 12 #[.agg #[sv, lv, .int .i64 d.left, .bool d.armed, .bool d.down], .agg #[.int .u8 (a.kind.toNat : Int), .int .i64 a.area, .slice Ab a.b.length cb, .int .i64 a.n, .int .i64 a.m]] w5.drew (Done7 w.heap.size (fun b => ¬ F5 b ∧ b ≠ gd) w5.drew (d.act a).1 (d.act a).2)) :=
                docs_any d a sv lv _ w5.drew w.heap.size _ (Nat.le_trans hB5 E1.size) ⟨hl5.1.below E1 hB5 (fun _ _ q => q), hl5.2.below E1 hB5 (fun _ _ q => q)⟩ ((HSB.out.below hb5).below (E1.mono hB5)) HLF.out HND.out
              have hbxd := hbx5.on E1
              have x0 := hbxd.get 0 rfl
              have x1 := hbxd.get 1 rfl
              have x2 := hbxd.get 2 rfl
              have x3 := hbxd.get 3 rfl
              have x4 := hbxd.get 4 rfl
              obtain ⟨e0, e1, e2, e3, e4⟩ := HCL.out w5.drew (hb5.trans (E1.mono hB5))
              obtain ⟨f0, f1, f2, f3, f4⟩ := HCL.out w5 hb5
              have HD5 := Lib.hid hd5
              have HX5 := Lib.hid hbx5
              have HF5 := Lib.hid hF5
              have HB5 : Hid (Below w.heap.size w w5) := HB.out.trans hb5
              obtain ⟨As, ns, zs, hvs⟩ := acts_slice hl5.1
              obtain ⟨Al, nl, zl, hvl⟩ := acts_slice hl5.2
              subst hvs hvl
              obtain ⟨d', hd'⟩ : ∃ x, x = (d.act a).1 := ⟨_, rfl⟩
              obtain ⟨why, hwhy⟩ : ∃ x, x = (d.act a).2 := ⟨_, rfl⟩
              rw [← hd'] at RDO HN HSA
              rw [← hwhy] at RDO HSA
              have HE1 := Lib.hid E1
              clear hd5 hf5 hb5 hk5 RP c0 c1 c2 c3 c4 hbx hF hl hbx5 hF5 hl5 hd' hwhy hbB hbw hbxd E1 hB5 hrest
              go_wp2
              first | (go_region_with (first | (go_at_call 12; (with_reducible refine (RDO.out).mono ?_); rintro e w6 ⟨sv', lv', rfl, hl6, hb6⟩; have hg6 := HX5.out.on (bt HE1.out hb6); have u0 := hg6.2 0 (by simp [Dskd.cells]); have u1 := hg6.2 1 (by simp [Dskd.cells]); have u2 := hg6.2 2 (by simp [Dskd.cells]); have u3 := hg6.2 3 (by simp [Dskd.cells]); have u4 := hg6.2 4 (by simp [Dskd.cells]); obtain ⟨As', ns', zs', hvs'⟩ := acts_slice hl6.1; obtain ⟨Al', nl', zl', hvl'⟩ := acts_slice hl6.2; subst hvs' hvl'; have HL6 := Lib.hid hl6; have HG6 := Lib.hid hg6; have HB6 := Lib.hid (bt HE1.out hb6); clear hl6 hb6 hg6))) | fail
              all_goals
                have hlc : d'.liesIn w6 w.heap.size (fun k => ¬ F5 k ∧ k ≠ gd) (.slice As' ns' zs') (.slice Al' nl' zl') := by
                  have key : ∀ b, (¬ F5 b ∧ b ≠ gd) ∨ w5.drew.heap.size ≤ b → ¬ F5 b ∧ b ≠ gd := fun b q => q.elim id (fun h => ⟨fun hF => by have := (HD5.out.less b hF).2; have := HE1.out.size; omega, by have := HX5.out.1; have := HE1.out.size; omega⟩)
                  exact ⟨HL6.out.1.imp (fun b q _ => key b q), HL6.out.2.imp (fun b q _ => key b q)⟩
                have hNX := Lib.hid (both_next (HD5.out.on HB6.out) HG6.out HF5.out hlc HGB.out rfl)
                have HBC : Hid (Below w.heap.size w w6) := HB5.out.trans (HB6.out.mono HB5.out.size)
                have HRN := Lib.hid ((HREST5.out.on HD5.out HX5.out.1 HB6.out).put HGB.out (.slice As' ns' zs') (.slice Al' nl' zl') (.int .i64 d'.left) (.bool d'.armed) (.bool d'.down))
                have HBT : Hid (BothF w.heap.size g2 gd (8040 + 201 * (k + 1)) (40 + (k + 1)) F5 (put5 w6 gd (.slice As' ns' zs') (.slice Al' nl' zl') (.int .i64 d'.left) (.bool d'.armed) (.bool d'.down))) := ⟨_, d', _, _, hNX.out.1, HSA.out.1, hNX.out.2.1, HF5.out, hNX.out.2.2.1, HM.out, HN.out⟩
                have HBY : Hid (Below w.heap.size w (put5 w6 gd (.slice As' ns' zs') (.slice Al' nl' zl') (.int .i64 d'.left) (.bool d'.armed) (.bool d'.down))) := HBC.out.trans hNX.out.2.2.2
                clear hlc x0 x1 x2 x3 x4 e0 e1 e2 e3 e4 f0 f1 f2 f3 f4 u0 u1 u2 u3 u4
                go_wp2
                go_roundw
                case rel => exact ⟨k + 1, by omega, by go_num, ⟨F5, HBT.out, HRN.out⟩, HBY.out⟩
                case measure => simp [intOf]; omega
            · have HSH1 := Lib.hid (shows_any _ _ HSIM0.out _ _ wr w.heap.size g _ hrest.disk (hrest.lies.acts hb.size) (by have := HMS.out; omega) (by have := HNS.out; omega))
              have HBW := Lib.hid hrest.box
              have x0 := hrest.box.get 0 rfl
              have x1 := hrest.box.get 1 rfl
              have x2 := hrest.box.get 2 rfl
              have x3 := hrest.box.get 3 rfl
              have x4 := hrest.box.get 4 rfl
              have hla := hl.acts hb.size
              obtain ⟨As, ns, zs, hvs⟩ := acts_slice hl.1
              obtain ⟨Al, nl, zl, hvl⟩ := acts_slice hl.2
              subst hvs hvl
              clear hrest hl hF
              go_wp2_with fail
              go_at_call 13
              refine (HSH1.out).mono ?_
              rintro e w7 ⟨rfl, b7⟩
              have HSH2 := Lib.hid (shows_any d s hsim _ _ w7 w.heap.size g2 F (hd.on b7) ⟨hla.1.on b7, hla.2.on b7⟩ (by omega) (by omega))
              have hg7 := hbx.on b7
              have y0 := hg7.get 0 rfl
              have y1 := hg7.get 1 rfl
              have y2 := hg7.get 2 rfl
              have y3 := hg7.get 3 rfl
              have y4 := hg7.get 4 rfl
              have HB7 := Lib.hid (bt hb b7)
              clear hla hd hbx hg7 hb b7 x0 x1 x2 x3 x4 hm hn hsim
              go_wp2_with fail
              go_at_call 13
              refine (HSH2.out).mono ?_
              rintro e w8 ⟨rfl, b8⟩
              go_wp2
              go_ret
              exact ⟨rfl, bt HB7.out b8⟩
    · have hfewm' : fewA m = false := by simpa using hfewm
      go_enter Try.func5, Try.ntmps5
      go_wp2_with fail
      go_at_call 8
      refine (awake_any w).mono ?_
      rintro e w1 ⟨rfl, b1⟩
      go_wp2_with fail
      go_at_call 9
      refine (few_any w1 _ _ l (HV.out.on b1) (Nat.le_refl _)).mono ?_
      rintro e w2 ⟨rfl, b2⟩
      rw [hfew]
      go_wp2_with fail
      go_at_call 9
      refine (few_any w2 _ _ m (HVM.out.on (bt b1 b2)) (Nat.le_refl _)).mono ?_
      rintro e w2' ⟨rfl, b2'⟩
      rw [hfewm']
      go_wp2_with fail
      go_at_call 8
      refine (awake_any w2').mono ?_
      rintro e w3 ⟨rfl, b3⟩
      go_wp2
      go_ret
      exact ⟨rfl, bt (bt (bt b1 b2) b2') b3⟩
  · have hfew' : fewA l = false := by simpa using hfew
    go_enter Try.func5, Try.ntmps5
    go_wp2_with fail
    go_at_call 8
    refine (awake_any w).mono ?_
    rintro e w1 ⟨rfl, b1⟩
    go_wp2_with fail
    go_at_call 9
    refine (few_any w1 _ _ l (HV.out.on b1) (Nat.le_refl _)).mono ?_
    rintro e w2 ⟨rfl, b2⟩
    rw [hfew']
    go_wp2_with fail
    go_at_call 8
    refine (awake_any w2).mono ?_
    rintro e w3 ⟨rfl, b3⟩
    go_wp2
    go_ret
    exact ⟨rfl, bt (bt b1 b2) b3⟩

end Go.Proofs.Ytcdobelhchlheaa
