/-
  net.apart: the walk.
-/
import Derived.Test.YthpbnjmhhkkkiaaPa
namespace Go.Proofs.Ythpbnjmhhkkkiaa
open Go.RowKit
attribute [local go_sem ↓] Go.wp_at_zero Go.wp_at_succ

theorem half_step {w wr wa w5 w6 : World} {nx : Int} {l : List Pkt} {g off M C c k : Nat} {V : Value} (hM : w.heap.size + 1 < M) (hk : k < l.length)
    (h0 : BoxF w.heap.size [.int .i64 nx, .slice (some ⟨g, off, none⟩) l.length c] wr) (h1 : BoxF (w.heap.size + 1) [.int .i64 0, .slice none 0 0] wr) (hw : Below w.heap.size w wr) (hg : M < g)
    {css : List (List Value)} (hl : Lst wr g off c css) (hc : css.length = l.length) (hp : ∀ i (h : i < l.length) (h' : i < css.length), ∃ vb, css[i] = l[i].cells vb ∧ (i < k → Piece M (pos l i) l[i].b.length vb) ∧ (k ≤ i → Seen wr w.heap.size vb l[i].b))
    (hwa : Below wr.heap.size wr wa) (ht : Tight w5 M C (bts l k ++ l[k].b)) (h5 : ∀ B, B ≤ M → Below B wa w5) (hk5 : ∀ j, j ≠ M → w5.heap[j]? = wa.heap[j]?) (h6 : Below w5.heap.size w5 w6) (hV : Piece M (pos l k) l[k].b.length V) :
    Half w nx l (some ⟨g, off, none⟩) M C c (k + 1) (w6.setCell ⟨g, off + k * 3 + 2, none⟩ V) := by
  have s5 := (h5 0 (Nat.zero_le _)).size
  have keep : ∀ b, b < wr.heap.size → b ≠ M → w6.heap[b]? = wr.heap[b]? := fun b hb hne => by
    rw [h6.block b (Nat.lt_of_lt_of_le hb (Nat.le_trans hwa.size s5)), hk5 b hne, hwa.block b hb]
  have hs6 : wr.heap.size ≤ w6.heap.size := Nat.le_trans hwa.size (Nat.le_trans s5 h6.size)
  have hb6 : Below w.heap.size wr w6 := ⟨h6.1.trans ((h5 0 (Nat.zero_le _)).1.trans hwa.1), h6.2.trans ((h5 0 (Nat.zero_le _)).2.trans hwa.2), h6.3.trans ((h5 0 (Nat.zero_le _)).3.trans hwa.3), hs6, fun b hb => keep b (Nat.lt_of_lt_of_le hb hw.size) (by omega)⟩
  have hlt := hl.lt
  have hl6 := hl.kept (keep g hl.lt (by omega)) hs6
  have hck : k < css.length := by omega
  have hb7 : Below w.heap.size wr (w6.setCell ⟨g, off + k * 3 + 2, none⟩ V) := below_set hb6 g _ V (by omega)
  refine ⟨(h0.kept (keep _ h0.1 (by omega)) hs6).other V (by omega), (h1.kept (keep _ h1.1 (by omega)) hs6).other V (by omega), ?_, hw.trans hb7, .inr ⟨g, off, css.set k (css[k].set 2 V), rfl, hg, hl6.set1 k hck 2 (by omega) V, by rw [List.length_set]; exact hc, fun i hi hi' => ?_⟩⟩
  · rw [bts_succ hk]
    exact (ht.kept (h6.block M ht.lt) h6.size).kept (Below.heap_setCell _ ⟨g, off + k * 3 + 2, none⟩ _ M (by show M ≠ g; omega)) (by simp [World.setCell])
  · rw [List.length_set] at hi'
    obtain ⟨vb, e, a, b⟩ := hp i hi hi'
    by_cases hik : k = i
    · subst hik
      refine ⟨V, ?_, fun _ => hV, fun h => absurd h (by omega)⟩
      rw [List.getElem_set_self, e]; rfl
    · refine ⟨vb, by rw [List.getElem_set_ne hik]; exact e, fun h => a (by omega), fun h => (b (by omega)).below hb7⟩

theorem half_start {w wx w3 : World} {nx : Int} {l : List Pkt} {A : Option Addr} {c C : Nat} {z lv : Value} {e : TypeId} {css : List (List Value)} (h0 : BoxF w.heap.size [.int .i64 nx, lv] wx) (h1 : BoxF (w.heap.size + 1) [.int .i64 0, .slice none 0 0] wx) (hw : Below w.heap.size w wx) (hcm : C ≤ maxLen)
    (hr : RoomN w3 (wx.alloc (.cells (madeCells #[z] C) e)).heap.size (.slice A l.length c) 3 l.length css.flatten) (hcs : Cells w3 w.heap.size l css) (hb3 : Below (wx.alloc (.cells (madeCells #[z] C) e)).heap.size (wx.alloc (.cells (madeCells #[z] C) e)) w3) :
    Half w nx l A wx.heap.size C c 0 (w3.setCell ⟨w.heap.size, 1, none⟩ (.slice A l.length c)) := by
  have hba := bal wx (.cells (madeCells #[z] C) e)
  have hz : (wx.alloc (.cells (madeCells #[z] C) e)).heap.size = wx.heap.size + 1 := by simp
  have hlt := h1.1
  have hs : w3.heap.size ≤ (w3.setCell ⟨w.heap.size, 1, none⟩ (.slice A l.length c)).heap.size := by simp [World.setCell]
  have hb4 : Below w.heap.size w3 (w3.setCell ⟨w.heap.size, 1, none⟩ (.slice A l.length c)) := below_set (Below.refl _ _) _ _ _ (Nat.le_refl _)
  refine ⟨(((h0.on hba).on hb3).set 1 (by simp) _ : _), ((h1.on hba).on hb3).other _ (by omega), (((tight_made wx C z e hcm).on hb3).kept (Below.heap_setCell _ ⟨w.heap.size, 1, none⟩ _ _ (by show wx.heap.size ≠ w.heap.size; omega)) hs : _), ?_, ?_⟩
  · exact ((hw.trans (hba.mono (by omega))).trans (hb3.mono (by omega))).trans hb4
  · cases A with
    | none =>
      obtain ⟨A', c', e', _, _, h | ⟨b, off, e2, _⟩⟩ := hr.slice
      · exact .inl (List.eq_nil_of_length_eq_zero h)
      · injection e' with e1 _ _; rw [← e1] at e2; cases e2
    | some a =>
      obtain ⟨A', c', e', _, _, h | ⟨b, off, e2, hb, hblt, _⟩⟩ := hr.slice
      · exact .inl (List.eq_nil_of_length_eq_zero h)
      · injection e' with e1 _ _
        rw [← e1] at e2
        injection e2 with e2
        subst e2
        obtain ⟨hg, hl⟩ := lst_of hr hcs.1 hcs.len
        refine .inr ⟨b, off, css, rfl, by omega, hl.kept (Below.heap_setCell _ ⟨w.heap.size, 1, none⟩ _ _ (by show b ≠ w.heap.size; omega)) hs, hcs.1, fun i hi hi' => ?_⟩
        obtain ⟨vb, e, hsn⟩ := hcs.2 i hi hi'
        exact ⟨vb, e, (fun h => by cases h), fun _ => hsn.below hb4⟩

set_option maxRecDepth 100000 in
set_option maxHeartbeats 4000000 in
theorem apart_any (w : World) (v : Value) (n : Nett) (h : NetAt w w.heap.size v n) (hf : Fit n.l) : Calls Try.prog 21 #[v] w (Aparted n w) := by
  obtain ⟨lv, rfl, hp⟩ := h
  have HA := Lib.hid hp
  have HF := Lib.hid hf
  obtain ⟨nx, l⟩ := n
  obtain ⟨A, c, css0, rfl, hlc, hcm, _⟩ := hp
  have hl62 : l.length ≤ 62 := hf.1
  replace HF : Hid (Fit l) := HF
  replace HA : Hid (PktsAt w w.heap.size (.slice A l.length c) l) := HA
  replace hlc : l.length ≤ c := hlc
  have HLC := Lib.hid hlc
  clear hf hlc hcm
  obtain ⟨jb, hj, hz0, hz1, hz2⟩ := info_part3 byte_info
  go_enter Try.func21, Try.ntmps21
  go_wp2
  go_loopw [3, 13] (fun s j wr => ∃ k : Nat, k ≤ l.length ∧ s = .int .i64 (pos l k : Int) ∧ j = .int .i64 (k : Int) ∧ BoxF w.heap.size [.int .i64 nx, .slice A l.length c] wr ∧ BoxF (w.heap.size + 1) [.int .i64 0, .slice none 0 0] wr ∧ Below w.heap.size w wr) (fun _ j _ => l.length - (intOf j).toNat)
  case atStart =>
    refine ⟨0, Nat.zero_le _, rfl, rfl, ?_, ?_, bt (bal _ _) (bal _ _)⟩
    · exact (boxF_made w _ _).on (bal _ _)
    · have := boxF_made (w.alloc (.cells #[.int .i64 nx, .slice A l.length c] 24)) [.int .i64 0, .slice none 0 0] 24
      simpa using this
  case round =>
    obtain ⟨k, hk, rfl, rfl, hb0, hb1, hbw⟩ := hrel
    have hpk := pos_le HF.out k
    have hpk1 : k < l.length → pos l (k + 1) = pos l k + (l.getD k default).b.length := fun h => by rw [getD_get h]; exact pos_succ h
    have hpk2 : k < l.length → (l.getD k default).b.length ≤ 500 := fun h => by rw [getD_get h]; exact HF.out.2 _ (List.getElem_mem h)
    have HPP := Lib.hid (show pos l k = pos l k from rfl)
    have x0 := hb0.get 0 rfl
    have x1 := hb0.get 1 rfl
    have HB0 := Lib.hid hb0
    have HB1 := Lib.hid hb1
    have HBW := Lib.hid hbw
    by_cases hlt : k < l.length
    · obtain ⟨b, off, vb, rfl, hb, hbB, hsb, c0, c1, c2⟩ := (HA.out.below hbw).at_ k hlt
      obtain ⟨Ab, cb, rfl, _⟩ := hsb
      have i0 : (0 : Int) ≤ (k : Int) := by omega
      have i1 : (k : Int) < (l.length : Int) := by omega
      replace hpk1 := hpk1 hlt
      replace hpk2 := hpk2 hlt
      rw [getD_get hlt] at hpk1 hpk2
      clear hb0 hb1 hbw
      go_wp2
      go_roundw
      case rel => exact ⟨k + 1, by omega, by rw [hpk1]; go_num, by go_num, HB0.out.on (bal _ _), HB1.out.on (bal _ _), bt HBW.out (bal _ _)⟩
      case measure => simp [intOf]; omega
    · obtain rfl : k = l.length := by omega
      clear hpk1 hpk2
      rename World => wx
      have HPA := Lib.hid (pos_all (l := l) l.length (Nat.le_refl _))
      generalize hC : pos l l.length = C at hpk HPA
      have HC := Lib.hid hC
      have hmk : ∀ W, (Instr.makeSlice 25 (.int .i64 0) (.int .i64 (C : Int))).run Try.prog W = .ok (.slice (some ⟨W.heap.size, 0, none⟩) 0 C) (W.alloc (.cells (madeCells #[.int .u8 0] C) 5)) := fun W => by
        have := run_make (P := Try.prog) W 25 5 jb (.int .u8 0) Try.underlying25 hj hz0 .i64 .i64 0 (C : Int) (Int.le_refl 0) (by omega) (by rw [hz2]; omega) (by omega)
        rw [hz1, show (Value.int IntKind.u8 0).cells = #[Value.int IntKind.u8 0] from rfl] at this
        simpa using this
      have hbm := bal wx (.cells (madeCells #[.int .u8 0] C) 5)
      have CLN := Lib.hid (clone_any (wx.alloc (.cells (madeCells #[.int .u8 0] C) 5)) w.heap.size (Nat.le_trans hbw.size hbm.size) (.slice A l.length c) l (HA.out.below (hbw.trans (hbm.mono hbw.size))) (by omega))
      have HBM := Lib.hid hbm
      have y0 := hb0.on hbm
      have y00 := y0.get 0 rfl
      have y01 := y0.get 1 rfl
      have Y0 := Lib.hid y0
      clear hb0 hb1 hbw hbm hC y0
      go_wp2_with (first
        | (go_at_call 28; refine (CLN.out).mono ?_; rintro e w3 ⟨V, css, rfl, hrm, hcs, hb3⟩; obtain ⟨A1, c1, rfl, hlc1, hcm1, _⟩ := hrm.slice; have z0 := Y0.out.on hb3; have z00 := z0.get 0 rfl; have z01 := z0.get 1 rfl; have zf := z0.free 1 (by simp); have HS := Lib.hid (half_start HB0.out HB1.out HBW.out (by unfold maxLen; omega) hrm hcs hb3); clear hrm hcs hb3 z0))
      go_loopw [6, 32] (fun s j wr => ∃ k P : Nat, k ≤ l.length ∧ P = pos l k ∧ s = .slice (some ⟨wx.heap.size, 0, none⟩) P C ∧ j = .int .i64 (k : Int) ∧ Half w nx l A1 wx.heap.size C c1 k wr) (fun _ j _ => l.length - (intOf j).toNat)
      case atStart => exact ⟨0, 0, Nat.zero_le _, rfl, rfl, rfl, HS.out⟩
      case round =>
        obtain ⟨k, P, hk, hP, rfl, rfl, hb0, hb1, htt, hbw, hpk⟩ := hrel
        have x0 := hb0.get 0 rfl
        have x1 := hb0.get 1 rfl
        by_cases hlt : k < l.length
        · rcases hpk with rfl | ⟨g, off, ds, rfl, hg, hl, hcl, hpp⟩
          · cases hlt
          obtain ⟨vb, e, _, hsb⟩ := hpp k hlt (by omega)
          replace hsb := hsb (Nat.le_refl _)
          have HSB := Lib.hid hsb
          obtain ⟨Ab, cb, rfl, hat⟩ := hsb
          have d0 := hl.row k (by omega) 0 (.int .i64 l[k].id) (by rw [e]; rfl)
          have d1 := hl.row k (by omega) 1 (.int .i64 l[k].to_) (by rw [e]; rfl)
          have d2 := hl.row k (by omega) 2 (.slice Ab l[k].b.length cb) (by rw [e]; rfl)
          rw [Nat.add_zero] at d0
          have hwa := bal wr (.cells #[.int .i64 l[k].id, .int .i64 l[k].to_, .slice Ab l[k].b.length cb] 29)
          have TA := htt.on hwa
          have SA := ((hat.below (hwa.mono hbw.size)).src Try.underlying25 : Src Try.prog 1 25 _ _ _ _)
          have qA : (bts l k).length + l[k].b.length ≤ C := HPA.out k hlt hlt
          have i0 : (0 : Int) ≤ (k : Int) := by omega
          have i1 : (k : Int) < (l.length : Int) := by omega
          have hMg : w.heap.size + 1 < wx.heap.size := HB1.out.1
          have X0 := Lib.hid (hb0.on hwa)
          have X1 := Lib.hid (hl.on hwa)
          have HLT := Lib.hid hl.lt
          have HPP := Lib.hid hP
          have HQ := Lib.hid (show P = (bts l k).length from hP)
          have HST : Hid (∀ w5 w6 V, Tight w5 wx.heap.size C (bts l k ++ l[k].b) → (∀ B, B ≤ wx.heap.size → Below B (wr.alloc (.cells #[.int .i64 l[k].id, .int .i64 l[k].to_, .slice Ab l[k].b.length cb] 29)) w5) → (∀ j, j ≠ wx.heap.size → w5.heap[j]? = (wr.alloc (.cells #[.int .i64 l[k].id, .int .i64 l[k].to_, .slice Ab l[k].b.length cb] 29)).heap[j]?) → Below w5.heap.size w5 w6 → Piece wx.heap.size (pos l k) l[k].b.length V →
              Half w nx l (some ⟨g, off, none⟩) wx.heap.size C c1 (k + 1) (w6.setCell ⟨g, off + k * 3 + 2, none⟩ V)) := fun w5 w6 V a b c d e => half_step hMg hlt hb0 hb1 hbw hg hl hcl hpp hwa a b c d e
          have HTI := Lib.hid hg
          have HDK : Hid (k < ds.length) := by show k < ds.length; omega
          have hqP : P + l[k].b.length ≤ C := by rw [hP]; exact qA
          have HH : Hid (w.heap.size + 1 < wx.heap.size) := hMg
          have HE := Lib.hid e
          clear hb0 hb1 htt hbw hpp hat hP hl hg hMg e
          go_wp2_with (first
            | (at_builtin; refine wpList_appendT (g := wx.heap.size) (cap := C) (l := bts l k) (m := l[k].b) (by rfl) (.tmp 39) (.tmp 41) 25 25 (by rfl) 5 jb Try.underlying25 hj hz1 TA SA HQ.out qA (by rfl) (by rfl) ?_; intro w5 N hN ht5 hb5 hk5; have s5 := (hb5 0 (Nat.zero_le _)).size; have B5 := Lib.hid (X0.out.kept (hk5 _ (by have := HH.out; omega)) s5); have L5 := Lib.hid (X1.out.kept (hk5 _ (by have := HTI.out; omega)) s5); have y0 := B5.out.get 0 rfl; have y1 := B5.out.get 1 rfl; have e2 := L5.out.row k HDK.out 2 (.slice Ab l[k].b.length cb) (by rw [HE.out]; rfl); have f2 := L5.out.at_ k HDK.out 2 (by omega); have HS5 := Lib.hid (fun w6 V => HST.out w5 w6 V ht5 hb5 hk5); have HN := Lib.hid hN; have j0 : (0 : Int) ≤ (P : Int) := (by omega); have j1 : (P : Int) ≤ (N : Int) := (by omega); have j2 : (N : Int) ≤ (C : Int) := (by omega); have j3 : P ≤ N := (by omega); clear ht5 hb5 hk5 hN))
          by_cases hNP : N = P
          · have hz := HN.out
            have hz0 : l[k].b.length = 0 := by omega
            have HZ := Lib.hid hz0
            clear hz hz0
            subst hNP
            first | (go_region_law (fail)) | fail
            all_goals go_wp2
            all_goals go_roundw
            all_goals first
              | (refine ⟨k + 1, N, by omega, by have h1 := HN.out; have h2 := HPP.out; have h3 := pos_succ hlt; omega, rfl, by go_num, ?_⟩; exact HS5.out w5.drew _ (Below.refl _ _).drew ⟨_, by rw [HZ.out], .inl HZ.out⟩)
              | (simp [intOf]; omega)
          · have hPN : ¬ P = N := fun e => hNP e.symm
            have HL : Hid (N - P = l[k].b.length) := by have := HN.out; show N - P = _; omega
            first | (go_region_law (fail)) | fail
            all_goals go_wp2
            all_goals go_roundw
            all_goals first
              | (refine ⟨k + 1, N, by omega, by have h1 := HN.out; have h2 := HPP.out; have h3 := pos_succ hlt; omega, rfl, by go_num, ?_⟩; exact HS5.out w5.drew _ (Below.refl _ _).drew ⟨P, by rw [HL.out], .inr HPP.out⟩)
              | (simp [intOf]; omega)
        · obtain rfl : k = l.length := by omega
          have HO := Lib.hid (Half.own (B := w.heap.size + 1 + 1) ⟨hb0, hb1, htt, hbw, hpk⟩ (by have := HB1.out.1; omega) hlc1 hcm1)
          have f0 := hb1.free 0 (by simp)
          have f1 := hb1.free 1 (by simp)
          have g0 := hb1.get 0 rfl
          have g1 := hb1.get 1 rfl
          have K1 := Lib.hid hb1
          have KW := Lib.hid hbw
          clear hb0 hb1 htt hbw hpk
          go_wp2
          refine bodyPost_ret (results_cell1 (p := 2) rfl rfl (load_net rfl (put2_box K1.out (.int .i64 nx) (.slice A1 l.length c1)).box)) rfl ?_
          exact ⟨_, rfl, (HO.out.kept (fun j hj _ => put2_other _ _ _ _ j (by omega)) (by rw [put2_size]; exact Nat.le_refl _)).mono (by omega), KW.out.trans (put2_below _ (by omega) _ _)⟩

end Go.Proofs.Ythpbnjmhhkkkiaa
