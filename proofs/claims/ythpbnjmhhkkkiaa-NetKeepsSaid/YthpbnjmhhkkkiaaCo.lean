/-
  net.Copy.
-/
import Derived.Test.YthpbnjmhhkkkiaaSe
namespace Go.Proofs.Ythpbnjmhhkkkiaa
open Go.RowKit
attribute [local go_sem ↓] Go.wp_at_zero Go.wp_at_succ

set_option maxRecDepth 100000 in
set_option maxHeartbeats 4000000 in
theorem copy_out (w : World) (v : Value) (n : Nett) (i : Int) (h : NetAt w w.heap.size v n) (hf : Fit n.l) (h0 : n.l.length = 0) : Calls Try.prog 16 #[v, .int .i64 i] w (Aparted (n.copied i) w) := by
  have HT : Hid (n.copied i = n) := by show n.copied i = _; unfold Nett.copied; rw [if_pos h0]
  rw [HT.out]
  have HN := Lib.hid h
  obtain ⟨lv, rfl, hp⟩ := h
  obtain ⟨nx, l⟩ := n
  obtain rfl : l = [] := List.eq_nil_of_length_eq_zero h0
  obtain ⟨A, c, css, rfl, hlc, hcm, _⟩ := hp
  have hbA : Below w.heap.size w ((w.alloc (.cells #[.int .i64 nx, .slice A 0 c] 24)).alloc (.cells #[.int .i64 0, .slice none 0 0] 24)) := bt (bal _ _) (bal _ _)
  have x0 := (boxF_made w [.int .i64 nx, .slice A 0 c] 24).on (bal _ (.cells #[.int .i64 0, .slice none 0 0] 24))
  have x1 := boxF_made (w.alloc (.cells #[.int .i64 nx, .slice A 0 c] 24)) [.int .i64 0, .slice none 0 0] 24
  simp only [World.size_alloc] at x1
  clear hlc hcm h0
  go_enter Try.func16, Try.ntmps16
  go_wp2_with fail
  go_at_call 22
  refine (place_none _ nx i A c).mono ?_
  rintro e w1 ⟨rfl, hb1⟩
  have y0 := x0.on hb1
  have y00 := y0.get 0 rfl
  have y01 := y0.get 1 rfl
  have HX1 := Lib.hid (x1.on hb1)
  have hb2 := hbA.trans (hb1.mono hbA.size)
  have HA := Lib.hid (apart_any _ _ ⟨nx, []⟩ (HN.out.on hb2) hf)
  have HB := Lib.hid hb2
  have HS : Hid (w.heap.size + 1 + 1 ≤ w1.heap.size) := by have := hbA.size; have := hb1.size; simp only [World.size_alloc] at this; exact this
  clear x0 x1 y0 hb1 hb2 hbA
  go_wp2_with fail
  go_at_call 21
  refine (HA.out).mono ?_
  rintro e w2 ⟨lv2, rfl, ho, hb2⟩
  have HO := Lib.hid (ho.mono (B' := w.heap.size + 1 + 1) HS.out)
  obtain ⟨A2, c2, rfl, _⟩ := ho
  have z1 := HX1.out.on hb2
  have f10 := z1.free 0 (by simp)
  have f11 := z1.free 1 (by simp)
  have g10 := z1.get 0 rfl
  have g11 := z1.get 1 rfl
  have HZ := Lib.hid z1
  have HBW := Lib.hid (HB.out.trans (hb2.mono HB.out.size))
  clear z1 hb2
  go_wp2
  have F1 := put2_box HZ.out (.int .i64 nx) (.slice A2 0 c2)
  refine bodyPost_ret (results_cell1 (p := 4) rfl rfl (load_net rfl F1.box)) rfl ?_
  exact ⟨_, rfl, (HO.out.put2 (by omega) _ _).mono (by omega), HBW.out.trans (put2_below _ (by omega) _ _)⟩

set_option maxRecDepth 100000 in
set_option maxHeartbeats 4000000 in
theorem copy_one (w : World) (v : Value) (n : Nett) (i : Int) (h : NetAt w w.heap.size v n) (hf : Fit n.l) (h61 : n.l.length ≤ 61) (hn0 : 0 ≤ n.next) (hn1 : n.next ≤ 4611686018427387905) (h0 : n.l.length ≠ 0) (hi : 0 ≤ i) : Calls Try.prog 16 #[v, .int .i64 i] w (Aparted (n.copied i) w) := by
  have HT : Hid (n.copied i = n.send (n.l.getD (n.place i) default).to_ (n.l.getD (n.place i) default).b) := by show n.copied i = _; unfold Nett.copied; rw [if_neg h0]
  have hpl := place_lt (i := i) h0
  have hpe : ((n.place i : Nat) : Int) = i % (n.l.length : Int) := by
    unfold Nett.place
    have h1 := Int.emod_nonneg i (show (n.l.length : Int) ≠ 0 by omega)
    omega
  rw [HT.out]
  clear HT
  have HN := Lib.hid h
  obtain ⟨lv, rfl, hp⟩ := h
  have HP := Lib.hid hp
  obtain ⟨nx, l⟩ := n
  generalize Nett.place ⟨nx, l⟩ i = k at hpl hpe ⊢
  replace h0 : l.length ≠ 0 := h0
  replace hpl : k < l.length := hpl
  replace hpe : (k : Int) = i % (l.length : Int) := hpe
  replace h61 : l.length ≤ 61 := h61
  show Calls _ _ _ _ (Aparted (Nett.send ⟨nx, l⟩ (l.getD k default).to_ (l.getD k default).b) w)
  rw [getD_get hpl]
  obtain ⟨A, c, css, rfl, hlc, hcm, _⟩ := hp
  obtain ⟨b, off, vb, e, hb, hbB, hsb, c0, c1, c2⟩ := HP.out.at_ k hpl
  subst e
  have HS := Lib.hid hsb
  obtain ⟨Ab, cb, rfl, _⟩ := hsb
  have hbA : Below w.heap.size w ((w.alloc (.cells #[.int .i64 nx, .slice (some ⟨b, off, none⟩) l.length c] 24)).alloc (.cells #[.int .i64 0, .slice none 0 0] 24)) := bt (bal _ _) (bal _ _)
  have x0 := (boxF_made w [.int .i64 nx, .slice (some ⟨b, off, none⟩) l.length c] 24).on (bal _ (.cells #[.int .i64 0, .slice none 0 0] 24))
  have x1 := boxF_made (w.alloc (.cells #[.int .i64 nx, .slice (some ⟨b, off, none⟩) l.length c] 24)) [.int .i64 0, .slice none 0 0] 24
  simp only [World.size_alloc] at x1
  have HPE := Lib.hid hpe
  clear hlc hcm hpe
  go_enter Try.func16, Try.ntmps16
  go_wp2_with fail
  go_at_call 22
  refine (place_some _ nx i (some ⟨b, off, none⟩) l.length k c h0 HPE.out hi).mono ?_
  rintro e w1 ⟨rfl, hb1⟩
  have y0 := x0.on hb1
  have y00 := y0.get 0 rfl
  have y01 := y0.get 1 rfl
  have hb2 := hbA.trans (hb1.mono hbA.size)
  have d0 := (World.cell?_of_block (a := ⟨b, off + k * 3, none⟩) (hb2.block b hb)).trans c0
  have d1 := (World.cell?_of_block (a := ⟨b, off + k * 3 + 1, none⟩) (hb2.block b hb)).trans c1
  have d2 := (World.cell?_of_block (a := ⟨b, off + k * 3 + 2, none⟩) (hb2.block b hb)).trans c2
  have hba := bal w1 (.cells #[.int .i64 l[k].id, .int .i64 l[k].to_, .slice Ab l[k].b.length cb] 29)
  have hb3 := hb2.trans (hba.mono hb2.size)
  have Y0 := y0.on hba
  have a00 := Y0.get 0 rfl
  have a01 := Y0.get 1 rfl
  have HX1 := Lib.hid ((x1.on hb1).on hba)
  have SND := Lib.hid (send_own _ _ _ ⟨nx, l⟩ l[k].to_ l[k].b (HN.out.on hb3) (HS.out.on hb3) hf h61 (hf.2 _ (List.getElem_mem hpl)) hn0 hn1)
  have HB := Lib.hid hb3
  have HSZ : Hid (w.heap.size + 1 + 1 ≤ w1.heap.size) := by have := hb1.size; simp only [World.size_alloc] at this; exact this
  have hw1 := hb1.size
  simp only [World.size_alloc] at hw1
  have i0 : (0 : Int) ≤ (k : Int) := by omega
  have i1 : (k : Int) < (l.length : Int) := by omega
  have HSA := Lib.hid hba.size
  clear x0 x1 y0 hb1 hb2 hb3 hba Y0 hbA c0 c1 c2
  go_wp2_with fail
  go_at_call 13
  refine (SND.out).mono ?_
  rintro e w2 ⟨lv2, rfl, ho, hb2⟩
  have HO := Lib.hid (ho.mono (B' := w.heap.size + 1 + 1) (Nat.le_trans HSZ.out HSA.out))
  obtain ⟨A2, c2, rfl, _⟩ := ho
  have z1 := HX1.out.on hb2
  have f10 := z1.free 0 (by simp)
  have f11 := z1.free 1 (by simp)
  have g10 := z1.get 0 rfl
  have g11 := z1.get 1 rfl
  have HZ := Lib.hid z1
  have HBW := Lib.hid (HB.out.trans (hb2.mono HB.out.size))
  clear z1 hb2
  go_wp2
  have F1 := put2_box HZ.out (.int .i64 (Nett.send ⟨nx, l⟩ l[k].to_ l[k].b).next) (.slice A2 (Nett.send ⟨nx, l⟩ l[k].to_ l[k].b).l.length c2)
  refine bodyPost_ret (results_cell1 (p := 4) rfl rfl (load_net rfl F1.box)) rfl ?_
  exact ⟨_, rfl, (HO.out.put2 (by omega) _ _).mono (by omega), HBW.out.trans (put2_below _ (by omega) _ _)⟩

theorem copy_own (w : World) (v : Value) (n : Nett) (i : Int) (h : NetAt w w.heap.size v n) (hf : Fit n.l) (h61 : n.l.length ≤ 61) (hn0 : 0 ≤ n.next) (hn1 : n.next ≤ 4611686018427387905) (hi : 0 ≤ i) : Calls Try.prog 16 #[v, .int .i64 i] w (Aparted (n.copied i) w) := by
  by_cases h0 : n.l.length = 0
  · exact copy_out w v n i h hf h0
  · exact copy_one w v n i h hf h61 hn0 hn1 h0 hi
theorem drop_ok : DropOk := fun w v n i h hr hi => (drop_own w v n i h (right_fit hr) hi).mono fun _ _ q => q.gives
theorem copy_ok : CopyOk := fun w v n i h hr hi => (copy_own w v n i h (right_fit hr) (by have := hr.2.2.1; omega) hr.1 (by have := hr.2.1; omega) hi).mono fun _ _ q => q.gives
theorem send_ok : SendOk := fun w v vb n to_ b h hs hr hb => (send_own w v vb n to_ b h hs (right_fit hr) (by have := hr.2.2.1; omega) hb hr.1 (by have := hr.2.1; omega)).mono fun _ _ q => q.gives

end Go.Proofs.Ythpbnjmhhkkkiaa
