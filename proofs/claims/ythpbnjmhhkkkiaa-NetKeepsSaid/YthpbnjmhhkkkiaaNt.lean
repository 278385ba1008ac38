/-
  Taking, sending, copying, as the document's own functions do it.
-/
import Derived.Test.YthpbnjmhhkkkiaaNs
namespace Go.Proofs.Ythpbnjmhhkkkiaa
open Go.RowKit
attribute [local go_sem ↓] Go.wp_at_zero Go.wp_at_succ

theorem wo_all (l : List Pkt) (k : Nat) (hk : k ≤ l.length) (p : Nat → Bool) (hp : ∀ i, i < k → p i = true) : wo l p k = l.take k := by
  induction k with
  | zero => rfl
  | succ k ih =>
    rw [wo_yes (hp k (by omega)), ih (by omega) (fun i hi => hp i (by omega)), List.take_succ_eq_append_getElem (by omega), getD_get (by omega)]
theorem wo_but (l : List Pkt) (a : Nat) (ha : a < l.length) : wo l (fun i => decide ((i : Int) ≠ (a : Int))) l.length = l.eraseIdx a := by
  have h : ∀ k, k ≤ l.length → wo l (fun i => decide ((i : Int) ≠ (a : Int))) k = (l.take k).eraseIdx a := by
    intro k
    induction k with
    | zero => intro _; simp [wo]
    | succ k ih =>
      intro hk
      by_cases e : k = a
      · subst e
        rw [wo_no (by simp), ih (by omega), List.take_succ_eq_append_getElem (by omega)]
        rw [List.eraseIdx_of_length_le (by simp; omega), List.eraseIdx_append_of_length_le (by simp; omega)]
        simp
        have : min k l.length = k := by omega
        simp [this]
      · rw [wo_yes (by simp; omega), ih (by omega), List.take_succ_eq_append_getElem (by omega), getD_get (by omega)]
        by_cases hlt : a < k
        · rw [List.eraseIdx_append_of_lt_length (by simp; omega)]
        · rw [List.eraseIdx_of_length_le (by simp; omega), List.eraseIdx_of_length_le (by simp; omega)]
  rw [h _ (Nat.le_refl _), List.take_length]
theorem wo_none (l : List Pkt) : wo l (fun i => decide ((i : Int) ≠ -1)) l.length = l := by
  rw [wo_all l l.length (Nat.le_refl _) _ (fun i _ => by simp), List.take_length]

/-- what is taken: the packet, the net without it, whether there is one -/
def Nett.taken (n : Nett) (i : Int) : Pkt × Nett × Bool := if n.l.length = 0 then (⟨0, 0, []⟩, n, false) else (n.l.getD (n.place i) default, ⟨n.next, n.l.eraseIdx (n.place i)⟩, true)
def Took (t : Pkt × Nett × Bool) (w : World) (e : Ending) (w' : World) : Prop := ∃ pv mv, e = .returned (.tuple #[pv, mv, .bool t.2.2]) ∧ PktAt w' w'.heap.size pv t.1 ∧ NetAt w' w'.heap.size mv t.2.1 ∧ Below w.heap.size w w'

theorem pkt_size : (Try.prog.info? 29).map (·.size) = some 3 := by kernel_rfl
theorem pkt_agg (W : World) : (isAgg 29).run Try.prog W = .ok true W := by simp [isAgg, run_underlying Try.underlying29]
theorem load_pkt {g : Nat} {vs : List Value} {W : World} (hn : vs.length = 3) (h : Box g vs W) : (loadVar 29 ⟨g, 0, none⟩).run Try.prog W = .ok (.agg vs.toArray) W := by
  obtain ⟨i, hi, hz⟩ : ∃ i, Try.prog.info? 29 = some i ∧ i.size = 3 := by
    have hq := pkt_size
    cases he : Try.prog.info? 29 with
    | none => rw [he] at hq; cases hq
    | some i => rw [he] at hq; exact ⟨i, rfl, Option.some.inj hq⟩
  have hs : (sizeOf 29).run Try.prog W = .ok 3 W := by simp [sizeOf, typeInfo, hi, hz]
  have hl := run_loadCells_list (P := Try.prog) W ⟨g, 0, none⟩ vs (fun j u hu => by
    obtain ⟨hj, e⟩ := List.getElem?_eq_some_iff.1 hu
    rw [Addr.add_lit, Nat.zero_add, ← e]
    exact h.2 j hj)
  rw [hn] at hl
  simp only [loadVar, Sem.run_bind, Sem.run_pure, Result.andThen_ok, pkt_agg, hs, hl, if_true]
theorem results_took {fn : Func} {p q u : Tmp} {ty ty' : TypeId} (h : fn.results = #[.cell p ty, .cell q ty', .tmp u]) {P : Program} {w : World} {tmps : Array Value} {a b : Addr} {x y : Value} (ha : tmps.getD p undef = .pointer (some a)) (hb : tmps.getD q undef = .pointer (some b))
    (hl : (loadVar ty a).run P w = .ok x w) (hm : (loadVar ty' b).run P w = .ok y w) : (results fn tmps).run P w = .ok (.tuple #[x, y, tmps.getD u undef]) w := by
  have h2 : (asAddr (tmps.getD p undef)).run P w = .ok a w := by rw [ha]; rfl
  have h3 : (asAddr (tmps.getD q undef)).run P w = .ok b w := by rw [hb]; rfl
  rw [Array.getD_eq_getD_getElem?] at h2 h3
  simp only [results, h]
  simp [Sem.run_bind, Result.andThen, h2, h3, hl, hm]

set_option maxRecDepth 100000 in
set_option maxHeartbeats 2000000 in
theorem take_none (w : World) (v : Value) (n : Nett) (i : Int) (h : NetAt w w.heap.size v n) (h0 : n.l.length = 0) :
    Calls Try.prog 10 #[v, .int .i64 i] w (Took (n.taken i) w) := by
  obtain ⟨lv, rfl, hp⟩ := h
  have HA := Lib.hid hp
  have HT : Hid (n.taken i = (⟨0, 0, []⟩, n, false)) := by show n.taken i = _; unfold Nett.taken; rw [if_pos h0]
  obtain ⟨nx, l⟩ := n
  obtain ⟨A, c, css, rfl, hlc, hcm, _⟩ := hp
  have h0 : l.length = 0 := h0
  rw [HT.out]
  have HL := Lib.hid h0
  simp only [h0] at hlc HA ⊢
  clear h0
  have b1 := ((box_made (w.alloc (.cells #[.int .i64 nx, .slice A 0 c] 24)) [.int .i64 0, .int .i64 0, .slice none 0 0] 29).on (bal _ (.cells #[.int .i64 nx, .slice A 0 c] 24))).on (Below.refl _ _).drew
  have b2 := (box_made ((w.alloc (.cells #[.int .i64 nx, .slice A 0 c] 24)).alloc (.cells #[.int .i64 0, .int .i64 0, .slice none 0 0] 29)) [.int .i64 nx, .slice A 0 c] 24).on (Below.refl _ _).drew
  have b3 : Below w.heap.size w (((w.alloc (.cells #[.int .i64 nx, .slice A 0 c] 24)).alloc (.cells #[.int .i64 0, .int .i64 0, .slice none 0 0] 29)).alloc (.cells #[.int .i64 nx, .slice A 0 c] 24)).drew := (bt (bt (bal _ _) (bal _ _)) (bal _ _)).drew
  simp only [World.size_alloc] at b1 b2
  have B1 := Lib.hid b1
  have B2 := Lib.hid b2
  have B3 := Lib.hid b3
  clear b1 b2 b3
  go_enter Try.func10, Try.ntmps10
  go_wp2
  first | (go_region_law (fail)) | fail
  all_goals go_wp2
  all_goals (refine bodyPost_ret (results_took (p := 4) (q := 5) (u := 6) rfl rfl rfl (load_pkt (vs := [.int .i64 0, .int .i64 0, .slice none 0 0]) rfl B1.out) (load_net (vs := [.int .i64 nx, .slice A 0 c]) rfl B2.out)) rfl ?_)
  all_goals exact ⟨_, _, rfl, ⟨_, rfl, Seen.nil⟩, ⟨_, rfl, HA.out.on B3.out⟩, B3.out⟩

theorem place_lt {n : Nett} {i : Int} (h : n.l.length ≠ 0) : n.place i < n.l.length := by
  unfold Nett.place
  have h1 := Int.emod_nonneg i (show (n.l.length : Int) ≠ 0 by omega)
  have h2 := Int.emod_lt_of_pos i (show (0 : Int) < (n.l.length : Int) by omega)
  omega

/-- three cells are stored, one by one -/
def put3 (W : World) (z : Nat) (a b c : Value) : World := ((W.setCell ⟨z, 0, none⟩ a).setCell ⟨z, 1, none⟩ b).setCell ⟨z, 2, none⟩ c
theorem put3_box {W : World} {z : Nat} {p q r : Value} (h : BoxF z [p, q, r] W) (a b c : Value) : BoxF z [a, b, c] (put3 W z a b c) :=
  (((h.set 0 (by simp) a).set 1 (by simp) b).set 2 (by simp) c : BoxF z ((([p, q, r].set 0 a).set 1 b).set 2 c) _)
theorem put3_below {B : Nat} {w W : World} {z : Nat} (h : Below B w W) (hz : B ≤ z) (a b c : Value) : Below B w (put3 W z a b c) := ((h.setCell hz _).setCell hz _).setCell hz _
theorem put3_other (W : World) (z : Nat) (a b c : Value) (k : Nat) (h : k ≠ z) : (put3 W z a b c).heap[k]? = W.heap[k]? := by
  unfold put3
  rw [Below.heap_setCell _ ⟨z, 2, none⟩ _ k h, Below.heap_setCell _ ⟨z, 1, none⟩ _ k h, Below.heap_setCell _ ⟨z, 0, none⟩ _ k h]
theorem put3_size (W : World) (z : Nat) (a b c : Value) : (put3 W z a b c).heap.size = W.heap.size := by simp [put3, World.setCell]
theorem took_end {w WA W w1 : World} {nx : Int} {l' : List Pkt} {p : Pkt} {mv vb x0 x1 x2 x3 x4 : Value} (hz : WA.heap.size = w.heap.size + 1 + 1 + 1) (ha : Below w.heap.size w WA) (hk : Below WA.heap.size WA w1) (hm : NetNew W w.heap.size w1 (.agg #[.int .i64 nx, mv]) ⟨nx, l'⟩)
    (y1 : BoxF (w.heap.size + 1) [x0, x1, x2] w1) (y2 : BoxF (w.heap.size + 1 + 1) [x3, x4] w1) (hs : Seen w w.heap.size vb p.b) (hW : WA.heap.size ≤ W.heap.size) :
    Box (w.heap.size + 1) [.int .i64 p.id, .int .i64 p.to_, vb] (put2 (put3 w1 (w.heap.size + 1) (.int .i64 p.id) (.int .i64 p.to_) vb) (w.heap.size + 1 + 1) (.int .i64 nx) mv) ∧
    Box (w.heap.size + 1 + 1) [.int .i64 nx, mv] (put2 (put3 w1 (w.heap.size + 1) (.int .i64 p.id) (.int .i64 p.to_) vb) (w.heap.size + 1 + 1) (.int .i64 nx) mv) ∧
    PktAt (put2 (put3 w1 (w.heap.size + 1) (.int .i64 p.id) (.int .i64 p.to_) vb) (w.heap.size + 1 + 1) (.int .i64 nx) mv) (put2 (put3 w1 (w.heap.size + 1) (.int .i64 p.id) (.int .i64 p.to_) vb) (w.heap.size + 1 + 1) (.int .i64 nx) mv).heap.size (.agg #[.int .i64 p.id, .int .i64 p.to_, vb]) p ∧
    NetAt (put2 (put3 w1 (w.heap.size + 1) (.int .i64 p.id) (.int .i64 p.to_) vb) (w.heap.size + 1 + 1) (.int .i64 nx) mv) (put2 (put3 w1 (w.heap.size + 1) (.int .i64 p.id) (.int .i64 p.to_) vb) (w.heap.size + 1 + 1) (.int .i64 nx) mv).heap.size (.agg #[.int .i64 nx, mv]) ⟨nx, l'⟩ ∧
    Below w.heap.size w (put2 (put3 w1 (w.heap.size + 1) (.int .i64 p.id) (.int .i64 p.to_) vb) (w.heap.size + 1 + 1) (.int .i64 nx) mv) := by
  have h1 : Below w.heap.size w1 (put2 (put3 w1 (w.heap.size + 1) (.int .i64 p.id) (.int .i64 p.to_) vb) (w.heap.size + 1 + 1) (.int .i64 nx) mv) := (put3_below (Below.refl _ _) (by omega) _ _ _).trans (put2_below _ (by omega) _ _)
  have h2 := (ha.trans (hk.mono ha.size)).trans h1
  refine ⟨((put3_box y1 _ _ _).kept (put2_other _ _ _ _ _ (by omega)) (by rw [put2_size]; exact Nat.le_refl _)).box, (put2_box (y2.kept (put3_other _ _ _ _ _ _ (by omega)) (by rw [put3_size]; exact Nat.le_refl _)) _ _).box, ⟨vb, rfl, hs.on h2⟩, ?_, h2⟩
  refine (hm.kept (fun g hg _ => ?_) h1.size h1).net h2.size
  rw [put2_other _ _ _ _ _ (by omega), put3_other _ _ _ _ _ _ (by omega)]

set_option maxRecDepth 100000 in
set_option maxHeartbeats 4000000 in
theorem take_some (w : World) (v : Value) (n : Nett) (i : Int) (h : NetAt w w.heap.size v n) (h0 : n.l.length ≠ 0) (hl : n.l.length ≤ 100) (hi : 0 ≤ i) :
    Calls Try.prog 10 #[v, .int .i64 i] w (Took (n.taken i) w) := by
  obtain ⟨lv, rfl, hp⟩ := h
  have HA := Lib.hid hp
  have hpl := place_lt (i := i) h0
  have HT : Hid (n.taken i = (n.l.getD (n.place i) default, ⟨n.next, n.l.eraseIdx (n.place i)⟩, true)) := by show n.taken i = _; unfold Nett.taken; rw [if_neg h0]
  have hpe : ((n.place i : Nat) : Int) = i % (n.l.length : Int) := by
    unfold Nett.place
    have h1 := Int.emod_nonneg i (show (n.l.length : Int) ≠ 0 by omega)
    omega
  rw [HT.out]
  clear HT
  obtain ⟨nx, l⟩ := n
  generalize Nett.place ⟨nx, l⟩ i = k at hpl hpe
  replace h0 : l.length ≠ 0 := h0
  replace hl : l.length ≤ 100 := hl
  replace hpl : k < l.length := hpl
  replace hpe : (k : Int) = i % (l.length : Int) := hpe
  obtain ⟨A, c, css, rfl, hlc, hcm, _⟩ := hp
  have hlc : l.length ≤ c := hlc
  have HW : ∀ W, Below w.heap.size w W → Calls Try.prog 24 #[.agg #[.int .i64 nx, .slice A l.length c], .int .i64 (k : Int)] W fun e w' => ∃ u, e = .returned u ∧ NetNew W w.heap.size w' u ⟨nx, l.eraseIdx k⟩ ∧ Below W.heap.size W w' := by
    intro W hW
    have := without_any W w.heap.size (.agg #[.int .i64 nx, .slice A l.length c]) ⟨nx, l⟩ (k : Int) ⟨_, rfl, HA.out.below hW⟩ hW.size hl
    rw [show wo l (fun i => decide ((i : Int) ≠ (k : Int))) l.length = l.eraseIdx k from wo_but l k hpl] at this
    exact this
  obtain ⟨b, off, vb, e, hb, hbB, hsb, c0, c1, c2⟩ := HA.out.at_ k hpl
  subst e
  have HS := Lib.hid hsb
  obtain ⟨Ab, cb, rfl, _⟩ := hsb
  have hrem : Int.tmod i (l.length : Int) = (k : Int) := by rw [hpe, Int.tmod_eq_emod_of_nonneg hi]
  have n0 : ((l.length : Int) == 0) = false := beq_eq_false_iff_ne.2 (by omega)
  have n1 : (l.length : Int) ≠ 0 := by omega
  have HK : Hid (l.getD k default = l[k]) := getD_get hpl
  show Calls _ _ _ _ (Took (l.getD k default, ⟨nx, l.eraseIdx k⟩, true) w)
  rw [HK.out]
  have hbA : Below w.heap.size w (((w.alloc (.cells #[.int .i64 nx, .slice (some ⟨b, off, none⟩) l.length c] 24)).alloc (.cells #[.int .i64 0, .int .i64 0, .slice none 0 0] 29)).alloc (.cells #[.int .i64 0, .slice none 0 0] 24)) := bt (bt (bal _ _) (bal _ _)) (bal _ _)
  have x0 := ((box_made w [.int .i64 nx, .slice (some ⟨b, off, none⟩) l.length c] 24).on (bal _ (.cells #[.int .i64 0, .int .i64 0, .slice none 0 0] 29))).on (bal _ (.cells #[.int .i64 0, .slice none 0 0] 24))
  have x1 := (boxF_made (w.alloc (.cells #[.int .i64 nx, .slice (some ⟨b, off, none⟩) l.length c] 24)) [.int .i64 0, .int .i64 0, .slice none 0 0] 29).on (bal _ (.cells #[.int .i64 0, .slice none 0 0] 24))
  have x2 := boxF_made ((w.alloc (.cells #[.int .i64 nx, .slice (some ⟨b, off, none⟩) l.length c] 24)).alloc (.cells #[.int .i64 0, .int .i64 0, .slice none 0 0] 29)) [.int .i64 0, .slice none 0 0] 24
  simp only [World.size_alloc] at x1 x2
  have hzA : (((w.alloc (.cells #[.int .i64 nx, .slice (some ⟨b, off, none⟩) l.length c] 24)).alloc (.cells #[.int .i64 0, .int .i64 0, .slice none 0 0] 29)).alloc (.cells #[.int .i64 0, .slice none 0 0] 24)).heap.size = w.heap.size + 1 + 1 + 1 := by simp
  obtain ⟨WA, hWA⟩ : ∃ WA, WA = (((w.alloc (.cells #[.int .i64 nx, .slice (some ⟨b, off, none⟩) l.length c] 24)).alloc (.cells #[.int .i64 0, .int .i64 0, .slice none 0 0] 29)).alloc (.cells #[.int .i64 0, .slice none 0 0] 24)) := ⟨_, rfl⟩
  have HWA := Lib.hid hWA
  rw [← hWA] at hbA x0 x1 x2 hzA
  clear hWA
  have HSS : Hid (∀ W, Below (w.heap.size + 1) WA W → (fun W => W.cell? ⟨w.heap.size, 0, none⟩ = some (.int .i64 nx) ∧ W.cell? ⟨w.heap.size, 1, none⟩ = some (.slice (some ⟨b, off, none⟩) l.length c) ∧ W.cell? ⟨b, off + k * 3, none⟩ = some (.int .i64 l[k].id) ∧ W.cell? ⟨b, off + k * 3 + 1, none⟩ = some (.int .i64 l[k].to_) ∧ W.cell? ⟨b, off + k * 3 + 2, none⟩ = some (.slice Ab l[k].b.length cb)) W) := fun W hW => by
    have hw := hbA.trans (hW.mono (by omega))
    have e := fun (x : Nat) (hx : x < w.heap.size) (o : Nat) => World.cell?_of_block (a := ⟨x, o, none⟩) (hw.block x hx)
    exact ⟨(x0.kept (hW.block _ (by omega)) hW.size).get 0 rfl, (x0.kept (hW.block _ (by omega)) hW.size).get 1 rfl, (e _ hb _).trans c0, (e _ hb _).trans c1, (e _ hb _).trans c2⟩
  have HWH : Hid (∀ W, Below WA.heap.size WA W → Calls Try.prog 24 #[.agg #[.int .i64 nx, .slice (some ⟨b, off, none⟩) l.length c], .int .i64 (k : Int)] W fun e w' => ∃ mv, e = .returned (.agg #[.int .i64 nx, mv]) ∧ NetNew W w.heap.size w' (.agg #[.int .i64 nx, mv]) ⟨nx, l.eraseIdx k⟩ ∧ (∃ A' n' c', mv = .slice A' n' c') ∧ Below W.heap.size W w') := fun W hW => by
    refine (HW W (hbA.trans (hW.mono hbA.size))).mono ?_
    rintro e w' ⟨u, rfl, ⟨mv, css, rfl, hv, hr, hc⟩, hb⟩
    exact ⟨mv, rfl, ⟨mv, css, rfl, hv, hr, hc⟩, hv, hb⟩
  have HX1 := Lib.hid x1
  have HX2 := Lib.hid x2
  have HBA := Lib.hid hbA
  have HZA := Lib.hid hzA
  have i0 : (0 : Int) ≤ (k : Int) := by omega
  have i1 : (k : Int) < (l.length : Int) := by omega
  have HR2 : Hid (i % (l.length : Int) = (k : Int)) := hpe.symm
  clear HK hpe h0 HW x0 x1 x2 hbA hzA c0 c1 c2 hb hbB
  go_enter Try.func10, Try.ntmps10
  go_wp2
  rw [← HWA.out]
  first | (go_region_held3 (fun W => W.cell? ⟨w.heap.size, 0, none⟩ = some (.int .i64 nx) ∧ W.cell? ⟨w.heap.size, 1, none⟩ = some (.slice (some ⟨b, off, none⟩) l.length c) ∧ W.cell? ⟨b, off + k * 3, none⟩ = some (.int .i64 l[k].id) ∧ W.cell? ⟨b, off + k * 3 + 1, none⟩ = some (.int .i64 l[k].to_) ∧ W.cell? ⟨b, off + k * 3 + 2, none⟩ = some (.slice Ab l[k].b.length cb)) (first | exact HSS.out _ hbm | exact HSS.out _ (put3_below hbm (Nat.le_refl _) _ _ _) | exact HSS.out _ ((put2_below _ (by omega) _ _ : Below (w.heap.size + 1) _ _).mono (Nat.le_refl _) |> (put3_below hbm (Nat.le_refl _) _ _ _).trans) | exact HSS.out _ (below_drewN _ _ _) | exact HSS.out _ (Below.refl _ _).drew | exact HSS.out _ (Below.refl _ _)) (first
    | (go_at_call 24; refine (HWH.out _ (by first | exact below_drewN _ _ _ | exact (Below.refl _ _).drew | exact Below.refl _ _)).mono ?_; rintro e w1 ⟨mv, rfl, hm, ⟨A', n', c', rfl⟩, hb1⟩; have hbk : Below WA.heap.size WA w1 := (by first | exact (below_drewN WA.heap.size WA _).trans hb1 | exact ((Below.refl WA.heap.size WA).drew).trans hb1 | exact hb1); have hbm : Below (w.heap.size + 1) WA w1 := hbk.mono (by have := HZA.out; omega); have y1 := HX1.out.on hbk; have y2 := HX2.out.on hbk; have f10 := y1.free 0 (by simp); have f11 := y1.free 1 (by simp); have f12 := y1.free 2 (by simp); have f20 := y2.free 0 (by simp); have f21 := y2.free 1 (by simp); have g10 := y1.get 0 rfl; have g11 := y1.get 1 rfl; have g12 := y1.get 2 rfl; have g20 := y2.get 0 rfl; have g21 := y2.get 1 rfl; have Y1 := Lib.hid y1; have Y2 := Lib.hid y2; have HM := Lib.hid (took_end (p := l[k]) HZA.out HBA.out hbk hm Y1.out Y2.out HS.out (by first | exact (Below.refl WA.heap.size WA).drew.size | exact (below_drewN WA.heap.size WA _).size | exact Nat.le_refl _)); clear y1 y2 hm))) | fail
  all_goals go_wp2
  all_goals (refine bodyPost_ret (results_took (p := 4) (q := 5) (u := 6) rfl rfl rfl (load_pkt rfl HM.out.1) (load_net rfl HM.out.2.1)) rfl ?_)
  all_goals exact ⟨_, _, rfl, HM.out.2.2.1, HM.out.2.2.2.1, HM.out.2.2.2.2⟩

theorem take_any (w : World) (v : Value) (n : Nett) (i : Int) (h : NetAt w w.heap.size v n) (hl : n.l.length ≤ 100) (hi : 0 ≤ i) :
    Calls Try.prog 10 #[v, .int .i64 i] w (Took (n.taken i) w) := by
  by_cases h0 : n.l.length = 0
  · exact take_none w v n i h h0
  · exact take_some w v n i h h0 hl hi

end Go.Proofs.Ythpbnjmhhkkkiaa
