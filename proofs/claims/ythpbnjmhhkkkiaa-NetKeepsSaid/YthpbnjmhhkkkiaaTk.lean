/-
  net.Take.
-/
import Derived.Test.YthpbnjmhhkkkiaaDl
namespace Go.Proofs.Ythpbnjmhhkkkiaa
open Go.RowKit
attribute [local go_sem ↓] Go.wp_at_zero Go.wp_at_succ

/-- what is taken, in memory of the call's own -/
def TookOwn (t : Pkt × Nett × Bool) (w : World) (e : Ending) (w' : World) : Prop := ∃ vb lv, e = .returned (.tuple #[.agg #[.int .i64 t.1.id, .int .i64 t.1.to_, vb], .agg #[.int .i64 t.2.1.next, lv], .bool t.2.2]) ∧ OwnB (w.heap.size ≤ ·) w' vb t.1.b ∧ OwnL w.heap.size w' lv t.2.1.l ∧ Below w.heap.size w w'
theorem TookOwn.new {t : Pkt × Nett × Bool} {w : World} {e : Ending} {w' : World} (h : TookOwn t w e w') : TookNew t w e w' := by
  obtain ⟨vb, lv, rfl, h1, h2, h3⟩ := h
  exact ⟨vb, lv, rfl, h1.x, h2.x, h3⟩
theorem OwnB.nil {X : Nat → Prop} {w : World} : OwnB X w (.slice none 0 0) [] := ⟨none, 0, rfl, Nat.le_refl _, Nat.zero_le _, .inl rfl⟩
theorem OwnC.ones {B g : Nat} {w : World} {l : List Pkt} {css : List (List Value)} (h : OwnC B g w l css) : ∀ c ∈ css, ∀ u ∈ c, u.oneCell' = true := by
  intro c hc
  obtain ⟨i, hi, rfl⟩ := List.getElem_of_mem hc
  obtain ⟨vb, e, ho⟩ := h.2 i (by rw [← h.1]; exact hi) hi
  rw [e]
  exact cell_one _ vb ho.x.seen
theorem OwnC.erase {B g : Nat} {w : World} {l : List Pkt} {css : List (List Value)} (h : OwnC B g w l css) (k : Nat) (hk : k < l.length) : OwnC B g w (l.eraseIdx k) (css.eraseIdx k) := by
  obtain ⟨h1, h2⟩ := h
  refine ⟨by rw [List.length_eraseIdx_of_lt hk, List.length_eraseIdx_of_lt (by omega), h1], fun i hi hi' => ?_⟩
  by_cases hik : i < k
  · rw [List.getElem_eraseIdx_of_lt _ hik, List.getElem_eraseIdx_of_lt _ hik]
    exact h2 i _ _
  · rw [List.getElem_eraseIdx_of_ge _ (by omega), List.getElem_eraseIdx_of_ge _ (by omega)]
    exact h2 (i + 1) _ _
theorem OwnC.keep {B g : Nat} {w w' : World} {l : List Pkt} {css : List (List Value)} (h : OwnC B g w l css) (hk : ∀ b, B ≤ b → b ≠ g → b < w.heap.size → w'.heap[b]? = w.heap[b]?) (hs : w.heap.size ≤ w'.heap.size) : OwnC B g w' l css :=
  ⟨h.1, fun i hi hi' => by
    obtain ⟨vb, e, ho⟩ := h.2 i hi hi'
    exact ⟨vb, e, ho.keep (fun b hb hlt => hk b hb.1 hb.2 hlt) hs⟩⟩

theorem drew_heap (W : World) (g : Nat) : W.drew.heap[g]? = W.heap[g]? := rfl
theorem took_fin {w w4 : World} {nx id to_ : Int} {x0 x1 x2 x3 x4 vb lv : Value} {b : List UInt8} {l : List Pkt} (y1 : BoxF (w.heap.size + 1) [x0, x1, x2] w4) (y2 : BoxF (w.heap.size + 1 + 1) [x3, x4] w4) (hb : Below w.heap.size w w4)
    (hs : OwnB (w.heap.size + 1 + 1 + 1 ≤ ·) w4 vb b) (hl : OwnL (w.heap.size + 1 + 1 + 1) w4 lv l) :
    Box (w.heap.size + 1) [.int .i64 id, .int .i64 to_, vb] (put2 (put3 w4 (w.heap.size + 1) (.int .i64 id) (.int .i64 to_) vb) (w.heap.size + 1 + 1) (.int .i64 nx) lv).drew ∧
    Box (w.heap.size + 1 + 1) [.int .i64 nx, lv] (put2 (put3 w4 (w.heap.size + 1) (.int .i64 id) (.int .i64 to_) vb) (w.heap.size + 1 + 1) (.int .i64 nx) lv).drew ∧
    OwnB (w.heap.size ≤ ·) (put2 (put3 w4 (w.heap.size + 1) (.int .i64 id) (.int .i64 to_) vb) (w.heap.size + 1 + 1) (.int .i64 nx) lv).drew vb b ∧
    OwnL w.heap.size (put2 (put3 w4 (w.heap.size + 1) (.int .i64 id) (.int .i64 to_) vb) (w.heap.size + 1 + 1) (.int .i64 nx) lv).drew lv l ∧
    Below w.heap.size w (put2 (put3 w4 (w.heap.size + 1) (.int .i64 id) (.int .i64 to_) vb) (w.heap.size + 1 + 1) (.int .i64 nx) lv).drew := by
  have h0 : Below w.heap.size w4 (put3 w4 (w.heap.size + 1) (.int .i64 id) (.int .i64 to_) vb) := put3_below (Below.refl _ _) (by omega) _ _ _
  have h1' : Below w.heap.size w4 (put2 (put3 w4 (w.heap.size + 1) (.int .i64 id) (.int .i64 to_) vb) (w.heap.size + 1 + 1) (.int .i64 nx) lv) := h0.trans (put2_below _ (by omega) _ _)
  have h1 := h1'.drew
  have hsame : ∀ g, w.heap.size + 1 + 1 + 1 ≤ g → (put2 (put3 w4 (w.heap.size + 1) (.int .i64 id) (.int .i64 to_) vb) (w.heap.size + 1 + 1) (.int .i64 nx) lv).drew.heap[g]? = w4.heap[g]? := fun g hg => by
    have e1 := put2_other (put3 w4 (w.heap.size + 1) (.int .i64 id) (.int .i64 to_) vb) (w.heap.size + 1 + 1) (.int .i64 nx) lv g (by omega)
    have e2 := put3_other w4 (w.heap.size + 1) (.int .i64 id) (.int .i64 to_) vb g (by omega)
    exact (drew_heap (put2 (put3 w4 (w.heap.size + 1) (.int .i64 id) (.int .i64 to_) vb) (w.heap.size + 1 + 1) (.int .i64 nx) lv) g).trans (e1.trans e2)
  have k1 : BoxF (w.heap.size + 1) [.int .i64 id, .int .i64 to_, vb] (put3 w4 (w.heap.size + 1) (.int .i64 id) (.int .i64 to_) vb) := put3_box y1 _ _ _
  have k2 : BoxF (w.heap.size + 1 + 1) [x3, x4] (put3 w4 (w.heap.size + 1) (.int .i64 id) (.int .i64 to_) vb) := y2.kept (put3_other _ _ _ _ _ _ (by omega)) (by rw [put3_size]; exact Nat.le_refl _)
  have s1 := hs.keep (w' := (put2 (put3 w4 (w.heap.size + 1) (.int .i64 id) (.int .i64 to_) vb) (w.heap.size + 1 + 1) (.int .i64 nx) lv).drew) (fun g hg _ => hsame g hg) h1.size
  have s2 := hl.kept (w' := (put2 (put3 w4 (w.heap.size + 1) (.int .i64 id) (.int .i64 to_) vb) (w.heap.size + 1 + 1) (.int .i64 nx) lv).drew) (fun g hg _ => hsame g hg) h1.size
  have hb2 := hb.trans h1
  clear h1 h1' h0 hsame y1 y2 hs hl hb
  generalize put3 w4 (w.heap.size + 1) (.int .i64 id) (.int .i64 to_) vb = W3 at k1 k2 s1 s2 hb2 ⊢
  have k3 : BoxF (w.heap.size + 1) [.int .i64 id, .int .i64 to_, vb] (put2 W3 (w.heap.size + 1 + 1) (.int .i64 nx) lv) := k1.kept (put2_other W3 _ _ _ _ (by omega)) (by rw [put2_size]; exact Nat.le_refl _)
  have k4 : BoxF (w.heap.size + 1 + 1) [.int .i64 nx, lv] (put2 W3 (w.heap.size + 1 + 1) (.int .i64 nx) lv) := put2_box k2 _ _
  generalize put2 W3 (w.heap.size + 1 + 1) (.int .i64 nx) lv = W2 at k3 k4 s1 s2 hb2 ⊢
  exact ⟨k3.box.on (Below.refl _ _).drew, k4.box.on (Below.refl _ _).drew, s1.mono (fun g hg => by omega), s2.mono (by omega), hb2⟩

set_option maxRecDepth 100000 in
set_option maxHeartbeats 4000000 in
theorem take_out (w : World) (v : Value) (n : Nett) (i : Int) (h : NetAt w w.heap.size v n) (hf : Fit n.l) (h0 : n.l.length = 0) : Calls Try.prog 9 #[v, .int .i64 i] w (TookOwn (n.taken i) w) := by
  have HT : Hid (n.taken i = (⟨0, 0, []⟩, n, false)) := by show n.taken i = _; unfold Nett.taken; rw [if_pos h0]
  have HN := Lib.hid h
  obtain ⟨lv, rfl, hp⟩ := h
  obtain ⟨nx, l⟩ := n
  obtain rfl : l = [] := List.eq_nil_of_length_eq_zero h0
  rw [HT.out]
  obtain ⟨A, c, css, rfl, hlc, hcm, _⟩ := hp
  have HLC := Lib.hid hlc
  have hbA : Below w.heap.size w (((w.alloc (.cells #[.int .i64 nx, .slice A 0 c] 24)).alloc (.cells #[.int .i64 0, .int .i64 0, .slice none 0 0] 29)).alloc (.cells #[.int .i64 0, .slice none 0 0] 24)) := bt (bt (bal _ _) (bal _ _)) (bal _ _)
  have x0 := ((boxF_made w [.int .i64 nx, .slice A 0 c] 24).on (bal _ (.cells #[.int .i64 0, .int .i64 0, .slice none 0 0] 29))).on (bal _ (.cells #[.int .i64 0, .slice none 0 0] 24))
  have x1 := (boxF_made (w.alloc (.cells #[.int .i64 nx, .slice A 0 c] 24)) [.int .i64 0, .int .i64 0, .slice none 0 0] 29).on (bal _ (.cells #[.int .i64 0, .slice none 0 0] 24))
  have x2 := boxF_made ((w.alloc (.cells #[.int .i64 nx, .slice A 0 c] 24)).alloc (.cells #[.int .i64 0, .int .i64 0, .slice none 0 0] 29)) [.int .i64 0, .slice none 0 0] 24
  simp only [World.size_alloc] at x1 x2
  have HA := Lib.hid (apart_any _ _ ⟨nx, []⟩ (HN.out.on hbA) hf)
  clear hlc hcm h0
  go_enter Try.func9, Try.ntmps9
  go_wp2_with fail
  go_at_call 21
  refine (HA.out).mono ?_
  rintro e w1 ⟨lv1, rfl, ho, hb1⟩
  obtain ⟨A1, c1, rfl, hl1, hm1, _⟩ := ho
  have X0 := x0.on hb1
  have X1 := x1.on hb1
  have X2 := x2.on hb1
  have f00 := X0.free 0 (by simp)
  have f01 := X0.free 1 (by simp)
  have g00 := X0.get 0 rfl
  have g01 := X0.get 1 rfl
  have hbw := hbA.trans (hb1.mono hbA.size)
  have Y0 := Lib.hid (put2_box X0 (.int .i64 nx) (.slice A1 0 c1))
  have Y1 := Lib.hid (X1.kept (put2_other w1 w.heap.size (.int .i64 nx) (.slice A1 0 c1) _ (by omega)) (by rw [put2_size]; exact Nat.le_refl _))
  have Y2 := Lib.hid (X2.kept (put2_other w1 w.heap.size (.int .i64 nx) (.slice A1 0 c1) _ (by omega)) (by rw [put2_size]; exact Nat.le_refl _))
  have HBW := Lib.hid (hbw.trans (put2_below w1 (Nat.le_refl _) (.int .i64 nx) (.slice A1 0 c1)))
  have HL1 := Lib.hid hl1
  have HM1 := Lib.hid hm1
  clear hbA x0 x1 x2 X0 X1 X2 hl1 hm1 hbw hb1
  go_wp2_with fail
  go_at_call 22
  refine (place_none (put2 w1 w.heap.size (.int .i64 nx) (.slice A1 0 c1)) nx i A1 c1).mono ?_
  rintro e w3 ⟨rfl, hb3⟩
  have z0 := Y0.out.on hb3
  have z1 := Y1.out.on hb3
  have z2 := Y2.out.on hb3
  have d00 := z0.get 0 rfl
  have d01 := z0.get 1 rfl
  have d10 := z1.get 0 rfl
  have d11 := z1.get 1 rfl
  have d12 := z1.get 2 rfl
  have e10 := z1.free 0 (by simp)
  have e11 := z1.free 1 (by simp)
  have e12 := z1.free 2 (by simp)
  have d20 := z2.get 0 rfl
  have d21 := z2.get 1 rfl
  have e20 := z2.free 0 (by simp)
  have e21 := z2.free 1 (by simp)
  have Z1 := Lib.hid z1
  have Z2 := Lib.hid z2
  have HB3 := Lib.hid (HBW.out.trans (hb3.mono HBW.out.size))
  clear z0 z1 z2 hb3
  go_wp2
  first | (go_region_law (fail)) | fail
  all_goals go_wp2
  all_goals (have HF := took_fin (nx := nx) (id := 0) (to_ := 0) (vb := .slice none 0 0) (lv := .slice A1 0 c1) (b := []) (l := []) Z1.out Z2.out HB3.out OwnB.nil ⟨A1, c1, rfl, Nat.zero_le _, HM1.out, .inl rfl⟩)
  all_goals (refine bodyPost_ret (results_took (p := 4) (q := 5) (u := 6) rfl rfl rfl (load_pkt rfl HF.1) (load_net rfl HF.2.1)) rfl ?_)
  all_goals exact ⟨_, _, rfl, HF.2.2.1, HF.2.2.2.1, HF.2.2.2.2⟩

set_option maxRecDepth 100000 in
set_option maxHeartbeats 4000000 in
theorem take_one (w : World) (v : Value) (n : Nett) (i : Int) (h : NetAt w w.heap.size v n) (hf : Fit n.l) (h0 : n.l.length ≠ 0) (hi : 0 ≤ i) : Calls Try.prog 9 #[v, .int .i64 i] w (TookOwn (n.taken i) w) := by
  have HT : Hid (n.taken i = (n.l.getD (n.place i) default, ⟨n.next, n.l.eraseIdx (n.place i)⟩, true)) := by show n.taken i = _; unfold Nett.taken; rw [if_neg h0]
  have hpl := place_lt (i := i) h0
  have hpe : ((n.place i : Nat) : Int) = i % (n.l.length : Int) := by
    unfold Nett.place
    have h1 := Int.emod_nonneg i (show (n.l.length : Int) ≠ 0 by omega)
    omega
  rw [HT.out]
  clear HT
  have HN := Lib.hid h
  obtain ⟨lv, rfl, hp⟩ := h
  obtain ⟨nx, l⟩ := n
  generalize Nett.place ⟨nx, l⟩ i = k at hpl hpe
  replace h0 : l.length ≠ 0 := h0
  replace hpl : k < l.length := hpl
  replace hpe : (k : Int) = i % (l.length : Int) := hpe
  have h62 : l.length ≤ 62 := hf.1
  rw [getD_get hpl]
  obtain ⟨A, c, css, rfl, hlc, hcm, _⟩ := hp
  have hbA : Below w.heap.size w (((w.alloc (.cells #[.int .i64 nx, .slice A l.length c] 24)).alloc (.cells #[.int .i64 0, .int .i64 0, .slice none 0 0] 29)).alloc (.cells #[.int .i64 0, .slice none 0 0] 24)) := bt (bt (bal _ _) (bal _ _)) (bal _ _)
  have x0 := ((boxF_made w [.int .i64 nx, .slice A l.length c] 24).on (bal _ (.cells #[.int .i64 0, .int .i64 0, .slice none 0 0] 29))).on (bal _ (.cells #[.int .i64 0, .slice none 0 0] 24))
  have x1 := (boxF_made (w.alloc (.cells #[.int .i64 nx, .slice A l.length c] 24)) [.int .i64 0, .int .i64 0, .slice none 0 0] 29).on (bal _ (.cells #[.int .i64 0, .slice none 0 0] 24))
  have x2 := boxF_made ((w.alloc (.cells #[.int .i64 nx, .slice A l.length c] 24)).alloc (.cells #[.int .i64 0, .int .i64 0, .slice none 0 0] 29)) [.int .i64 0, .slice none 0 0] 24
  simp only [World.size_alloc] at x1 x2
  have HA := Lib.hid (apart_any _ _ ⟨nx, l⟩ (HN.out.on hbA) hf)
  clear hlc hcm
  have HPE := Lib.hid hpe
  clear hpe
  go_enter Try.func9, Try.ntmps9
  go_wp2_with fail
  go_at_call 21
  refine (HA.out).mono ?_
  rintro e w1 ⟨lv1, rfl, ho, hb1⟩
  obtain ⟨A1, c1, rfl, hl1, hm1, rfl | ⟨g, off, ds, rfl, hg, hlst, hoc⟩⟩ := ho
  · cases hpl
  simp only [World.size_alloc] at hg hoc
  have X0 := x0.on hb1
  have X1 := x1.on hb1
  have X2 := x2.on hb1
  have f00 := X0.free 0 (by simp)
  have f01 := X0.free 1 (by simp)
  have g00 := X0.get 0 rfl
  have g01 := X0.get 1 rfl
  have hbw := hbA.trans (hb1.mono hbA.size)
  have hp2 : ∀ b, b ≠ w.heap.size → (put2 w1 w.heap.size (.int .i64 nx) (.slice (some ⟨g, off, none⟩) l.length c1)).heap[b]? = w1.heap[b]? := put2_other w1 w.heap.size _ _
  have hs2 : w1.heap.size ≤ (put2 w1 w.heap.size (.int .i64 nx) (.slice (some ⟨g, off, none⟩) l.length c1)).heap.size := by rw [put2_size]; exact Nat.le_refl _
  have Y0 := Lib.hid (put2_box X0 (.int .i64 nx) (.slice (some ⟨g, off, none⟩) l.length c1))
  have Y1 := Lib.hid (X1.kept (hp2 _ (by omega)) hs2)
  have Y2 := Lib.hid (X2.kept (hp2 _ (by omega)) hs2)
  have YL := Lib.hid (hlst.kept (hp2 g (by omega)) hs2)
  have YC := Lib.hid (hoc.keep (fun b hb _ _ => hp2 b (by omega)) hs2)
  have HBW := Lib.hid (hbw.trans (put2_below w1 (Nat.le_refl _) (.int .i64 nx) (.slice (some ⟨g, off, none⟩) l.length c1)))
  have HL1 := Lib.hid hl1
  have HM1 := Lib.hid hm1
  have HG := Lib.hid hg
  have HDL : Hid (ds.length = l.length) := hoc.1
  clear hbA x0 x1 x2 X0 X1 X2 hl1 hm1 hbw hb1 hlst hoc hg hp2 hs2
  go_wp2_with fail
  go_at_call 22
  refine (place_some (put2 w1 w.heap.size (.int .i64 nx) (.slice (some ⟨g, off, none⟩) l.length c1)) nx i (some ⟨g, off, none⟩) l.length k c1 h0 HPE.out hi).mono ?_
  rintro e w3 ⟨rfl, hb3⟩
  have z0 := Y0.out.on hb3
  have z1 := Y1.out.on hb3
  have z2 := Y2.out.on hb3
  have zl := YL.out.on hb3
  have zc := YC.out.keep (fun b _ _ hlt => hb3.block b hlt) hb3.size
  have d00 := z0.get 0 rfl
  have d01 := z0.get 1 rfl
  have hkd : k < ds.length := by rw [HDL.out]; exact hpl
  obtain ⟨vb, evb, hob⟩ := zc.2 k hpl hkd
  have c0 := zl.row k hkd 0 (.int .i64 l[k].id) (by rw [evb]; rfl)
  have c1' := zl.row k hkd 1 (.int .i64 l[k].to_) (by rw [evb]; rfl)
  have c2 := zl.row k hkd 2 vb (by rw [evb]; rfl)
  rw [Nat.add_zero] at c0
  obtain ⟨Ab, cb, rfl, hob'⟩ := id hob
  have HOB : Hid (OwnB (fun b => w.heap.size + 1 + 1 + 1 ≤ b ∧ b ≠ g) w3 (.slice Ab l[k].b.length cb) l[k].b) := hob
  have hba := bal w3 (.cells #[.int .i64 l[k].id, .int .i64 l[k].to_, .slice Ab l[k].b.length cb] 29)
  have DEL := Lib.hid (delete_any (w3.alloc (.cells #[.int .i64 l[k].id, .int .i64 l[k].to_, .slice Ab l[k].b.length cb] 29)) g off c1 l.length k ds (zl.on hba) HDL.out hpl (by omega) zc.ones)
  have P0 := Lib.hid (boxF_made w3 [.int .i64 l[k].id, .int .i64 l[k].to_, .slice Ab l[k].b.length cb] 29)
  have A0 := z0.on hba
  have a00 := A0.get 0 rfl
  have a01 := A0.get 1 rfl
  have ZA0 := Lib.hid A0
  have Z1 := Lib.hid (z1.on hba)
  have Z2 := Lib.hid (z2.on hba)
  have ZC := Lib.hid (zc.keep (w' := w3.alloc (.cells #[.int .i64 l[k].id, .int .i64 l[k].to_, .slice Ab l[k].b.length cb] 29)) (fun b _ _ hlt => hba.block b hlt) hba.size)
  have HBA := Lib.hid hba
  have HB3 := Lib.hid (HBW.out.trans (hb3.mono HBW.out.size))
  have HS3 : Hid (w.heap.size + 1 + 1 < w3.heap.size ∧ g < w3.heap.size) := ⟨z2.1, zl.lt⟩
  have i0 : (0 : Int) ≤ (k : Int) := by omega
  have i1 : (k : Int) < (l.length : Int) := by omega
  have i2 : (k : Int) + 1 ≤ 9223372036854775807 := by omega
  clear z0 z1 z2 zl zc hb3 hob hob' evb hba A0
  go_wp2_with fail
  go_at_call 23
  refine (DEL.out).mono ?_
  rintro e w4 ⟨q, hq, rfl, hg1, hg2, hg3⟩
  have hg0 := HG.out
  have hs3 := HS3.out
  have hs4 := (hg2 0 (Nat.zero_le _)).size
  have b0 := ZA0.out.kept (hg3 _ (by omega)) hs4
  have b1 := Z1.out.kept (hg3 _ (by omega)) hs4
  have b2 := Z2.out.kept (hg3 _ (by omega)) hs4
  have bp := P0.out.kept (hg3 _ (by omega)) hs4
  have hoc := (ZC.out.keep (fun b _ hne _ => hg3 b hne) hs4).erase k hpl
  have hob : OwnB (fun b => w.heap.size + 1 + 1 + 1 ≤ b ∧ b ≠ g) w4 (.slice Ab l[k].b.length cb) l[k].b := HOB.out.keep (fun b hb hlt => (hg3 b hb.2).trans (HBA.out.block b hlt)) (Nat.le_trans HBA.out.size hs4)
  have hb4 : Below w.heap.size w w4 := (HB3.out.trans (HBA.out.mono (by omega))).trans (hg2 _ (by omega))
  have hm1 := HM1.out
  have hl1 := HL1.out
  have hle : (l.eraseIdx k).length = q := by rw [List.length_eraseIdx_of_lt hpl, hq]
  have hol : OwnL (w.heap.size + 1 + 1 + 1) w4 (.slice (some ⟨g, off, none⟩) q c1) (l.eraseIdx k) := ⟨_, c1, by rw [hle], by omega, hm1, .inr ⟨g, off, _, rfl, hg0, hg1, hoc⟩⟩
  have hw5 : ∀ b, b ≠ w.heap.size → (w4.setCell ⟨w.heap.size, 1, none⟩ (.slice (some ⟨g, off, none⟩) q c1)).heap[b]? = w4.heap[b]? := fun b hb => Below.heap_setCell w4 ⟨w.heap.size, 1, none⟩ _ b hb
  have hz5 : w4.heap.size ≤ (w4.setCell ⟨w.heap.size, 1, none⟩ (.slice (some ⟨g, off, none⟩) q c1)).heap.size := by simp [World.setCell]
  have FIN := Lib.hid (took_fin (nx := nx) (id := l[k].id) (to_ := l[k].to_) (b1.kept (hw5 _ (by omega)) hz5) (b2.kept (hw5 _ (by omega)) hz5) (below_set hb4 w.heap.size 1 (.slice (some ⟨g, off, none⟩) q c1) (Nat.le_refl _))
    ((hob.keep (fun b hb _ => hw5 b (by have := hb.1; omega)) hz5).mono fun b hb => hb.1) (hol.kept (fun b hb _ => hw5 b (by omega)) hz5))
  have y00 := b0.get 0 rfl
  have y01 := b0.get 1 rfl
  have fz := b0.free 1 (by simp)
  have p0 := bp.get 0 rfl
  have p1 := bp.get 1 rfl
  have p2 := bp.get 2 rfl
  have q10 := b1.get 0 rfl
  have q11 := b1.get 1 rfl
  have q12 := b1.get 2 rfl
  have r10 := b1.free 0 (by simp)
  have r11 := b1.free 1 (by simp)
  have r12 := b1.free 2 (by simp)
  have q20 := b2.get 0 rfl
  have q21 := b2.get 1 rfl
  have r20 := b2.free 0 (by simp)
  have r21 := b2.free 1 (by simp)
  have ne1 : ¬ w3.heap.size = w.heap.size := by omega
  have ne2 : ¬ w.heap.size = w3.heap.size := by omega
  clear hq hg1 hg2 hg3 hs4 b0 b1 b2 bp hoc hob hb4 hle hol hw5 hz5 hs3 hg0 hl1 hm1
  go_wp2
  first | (go_region_law (fail)) | fail
  all_goals go_wp2
  all_goals (refine bodyPost_ret (results_took (p := 4) (q := 5) (u := 6) rfl rfl rfl (load_pkt rfl FIN.out.1) (load_net rfl FIN.out.2.1)) rfl ?_)
  all_goals exact ⟨_, _, rfl, FIN.out.2.2.1, FIN.out.2.2.2.1, FIN.out.2.2.2.2⟩

theorem take_own (w : World) (v : Value) (n : Nett) (i : Int) (h : NetAt w w.heap.size v n) (hf : Fit n.l) (hi : 0 ≤ i) : Calls Try.prog 9 #[v, .int .i64 i] w (TookOwn (n.taken i) w) := by
  by_cases h0 : n.l.length = 0
  · exact take_out w v n i h hf h0
  · exact take_one w v n i h hf h0 hi
theorem right_fit {n : Nett} (h : n.right) : Fit n.l := by
  refine ⟨by have := h.2.2.1; omega, fun p hp => ?_⟩
  obtain ⟨i, hi, rfl⟩ := List.getElem_of_mem hp
  have := (h.2.2.2 i hi).2.2.2
  rw [getD_get hi] at this
  exact this
theorem take_new : TakeNewOk := fun w v n i h hr hi => (take_own w v n i h (right_fit hr) hi).mono fun _ _ q => q.new

end Go.Proofs.Ythpbnjmhhkkkiaa
