/-
  Sending, copying, as the document's own functions do it.
-/
import Derived.Test.YthpbnjmhhkkkiaaNt
namespace Go.Proofs.Ythpbnjmhhkkkiaa
open Go.RowKit
attribute [local go_sem ↓] Go.wp_at_zero Go.wp_at_succ

/-- what a send has come to, behind its append -/
theorem send_end {w w1 wa w5 : World} {B0 : Nat} {m : Int} {l : List Pkt} {ds : List (List Value)} {p : Pkt} {V v5 vb x0 y0 x1 y1 x2 y2 : Value} (hsz : w.heap.size + 1 + 1 ≤ w1.heap.size) (hB0 : B0 ≤ w.heap.size) (hw1 : Below w.heap.size w w1) (h1a : Below w1.heap.size w1 wa) (ha5 : Below (w.heap.size + 1 + 1) wa w5) (hza : w1.heap.size < wa.heap.size)
    (how : ∀ g, V.ownBlock = some g → w.heap.size + 1 + 1 ≤ g ∧ g < w1.heap.size) (X5 : Box w.heap.size [x0, y0] w5) (T5 : BoxF (w.heap.size + 1) [x1, y1] w5) (Z5 : BoxF w1.heap.size [x2, y2] w5)
    (h5 : RoomN w5 (w.heap.size + 1 + 1) v5 3 (l.length + 1) (ds.flatten ++ p.cells vb)) (hv : ∃ A n c, v5 = .slice A n c) (hc : Cells w1 B0 l ds) (hs : Seen w B0 vb p.b) (ho5 : ∀ g, v5.ownBlock = some g → V.ownBlock = some g ∨ wa.heap.size ≤ g) :
    (w5.setCell ⟨w1.heap.size, 1, none⟩ v5).cell? ⟨w.heap.size, 0, none⟩ = some x0 ∧
    ((w5.setCell ⟨w1.heap.size, 1, none⟩ v5).setCell ⟨w1.heap.size, 0, none⟩ (.int .i64 m)).cell? ⟨w1.heap.size, 0, none⟩ = some (.int .i64 m) ∧
    ((w5.setCell ⟨w1.heap.size, 1, none⟩ v5).setCell ⟨w1.heap.size, 0, none⟩ (.int .i64 m)).cell? ⟨w1.heap.size, 1, none⟩ = some v5 ∧
    ((w5.setCell ⟨w1.heap.size, 1, none⟩ v5).setCell ⟨w1.heap.size, 0, none⟩ (.int .i64 m)).cell? ⟨w.heap.size + 1, 0, none⟩ = some x1 ∧
    ((w5.setCell ⟨w1.heap.size, 1, none⟩ v5).setCell ⟨w1.heap.size, 0, none⟩ (.int .i64 m)).cell? ⟨w.heap.size + 1, 1, none⟩ = some y1 ∧
    ((w5.setCell ⟨w1.heap.size, 1, none⟩ v5).setCell ⟨w1.heap.size, 0, none⟩ (.int .i64 m)).frozen? ⟨w.heap.size + 1, 0, none⟩ = false ∧
    ((w5.setCell ⟨w1.heap.size, 1, none⟩ v5).setCell ⟨w1.heap.size, 0, none⟩ (.int .i64 m)).frozen? ⟨w.heap.size + 1, 1, none⟩ = false ∧
    Box (w.heap.size + 1) [.int .i64 m, v5] (put2 ((w5.setCell ⟨w1.heap.size, 1, none⟩ v5).setCell ⟨w1.heap.size, 0, none⟩ (.int .i64 m)) (w.heap.size + 1) (.int .i64 m) v5) ∧
    NetNew w B0 (put2 ((w5.setCell ⟨w1.heap.size, 1, none⟩ v5).setCell ⟨w1.heap.size, 0, none⟩ (.int .i64 m)) (w.heap.size + 1) (.int .i64 m) v5) (.agg #[.int .i64 m, v5]) ⟨m, l ++ [p]⟩ ∧
    Below w.heap.size w (put2 ((w5.setCell ⟨w1.heap.size, 1, none⟩ v5).setCell ⟨w1.heap.size, 0, none⟩ (.int .i64 m)) (w.heap.size + 1) (.int .i64 m) v5) := by
  have X6 := X5.kept (Below.heap_setCell w5 ⟨w1.heap.size, 1, none⟩ v5 w.heap.size (by show w.heap.size ≠ w1.heap.size; omega)) (by simp [World.setCell])
  have Z7 : BoxF w1.heap.size [.int .i64 m, v5] ((w5.setCell ⟨w1.heap.size, 1, none⟩ v5).setCell ⟨w1.heap.size, 0, none⟩ (.int .i64 m)) := (Z5.set 1 (by simp) v5).set 0 (by simp) (.int .i64 m)
  have T7 := (T5.other (b := w1.heap.size) (o := 1) v5 (by omega)).other (b := w1.heap.size) (o := 0) (.int .i64 m) (by omega)
  have hb5 : Below w.heap.size w w5 := (hw1.trans (h1a.mono hw1.size)).trans (ha5.mono (by omega))
  have hb7 : Below w.heap.size w5 ((w5.setCell ⟨w1.heap.size, 1, none⟩ v5).setCell ⟨w1.heap.size, 0, none⟩ (.int .i64 m)) := below_set (below_set (Below.refl _ _) w1.heap.size 1 v5 (by omega)) w1.heap.size 0 _ (by omega)
  have hb8 : Below w.heap.size w5 (put2 ((w5.setCell ⟨w1.heap.size, 1, none⟩ v5).setCell ⟨w1.heap.size, 0, none⟩ (.int .i64 m)) (w.heap.size + 1) (.int .i64 m) v5) := hb7.trans (put2_below _ (by omega) _ _)
  have hg : ∀ g, v5.ownBlock = some g → w.heap.size + 1 + 1 ≤ g ∧ g ≠ w1.heap.size := fun g e => by
    rcases ho5 g e with h | h
    · have := how g h; omega
    · have := h5.own_ge g e; omega
  refine ⟨X6.get 0 rfl, Z7.get 0 rfl, Z7.get 1 rfl, T7.get 0 rfl, T7.get 1 rfl, T7.free 0 (by simp), T7.free 1 (by simp), (put2_box T7 _ _).box, ⟨v5, ds ++ [p.cells vb], rfl, hv, ?_, ?_⟩, hb5.trans hb8⟩
  · show RoomN _ _ _ 3 (l ++ [p]).length _
    rw [List.length_append, List.length_singleton, List.flatten_append, show [p.cells vb].flatten = p.cells vb by simp]
    refine (h5.kept (fun g e => ?_) hb8.size).less (by omega)
    have := hg g e
    rw [put2_other _ _ _ _ g (by omega), Below.heap_setCell _ ⟨w1.heap.size, 0, none⟩ _ g this.2, Below.heap_setCell _ ⟨w1.heap.size, 1, none⟩ _ g this.2]
  · exact ((hc.below (((h1a.mono hw1.size).trans (ha5.mono (by omega))).mono hB0)).snoc (hs.below (hb5.mono hB0))).below (hb8.mono hB0)

set_option maxRecDepth 100000 in
set_option maxHeartbeats 4000000 in
theorem rsend_any (w : World) (B0 : Nat) (v vb : Value) (n : Nett) (to_ : Int) (b : List UInt8) (h : NetAt w B0 v n) (hs : Seen w B0 vb b) (hB0 : B0 ≤ w.heap.size) (hl : n.l.length ≤ 100) (hn : 0 ≤ n.next ∧ n.next ≤ 4611686018427387904) :
    Calls Try.prog 14 #[v, .int .i64 to_, vb] w fun e w' => ∃ u, e = .returned u ∧ NetNew w B0 w' u (n.send to_ b) ∧ Below w.heap.size w w' := by
  obtain ⟨lv, rfl, hp⟩ := h
  have HA := Lib.hid hp
  have HS := Lib.hid hs
  have HB := Lib.hid hB0
  obtain ⟨nx, l⟩ := n
  replace hl : l.length ≤ 100 := hl
  replace hn : 0 ≤ nx ∧ nx ≤ 4611686018427387904 := hn
  obtain ⟨A, c, css, rfl, hlc, hcm, _⟩ := hp
  replace hlc : l.length ≤ c := hlc
  obtain ⟨Ab, cb, rfl, _⟩ := hs
  obtain ⟨j, hj, hz0, hz1, hz2⟩ := info_part3 pkt_info
  have hn1 := hn.1
  have hn2 := hn.2
  have x0 := (box_made w [.int .i64 nx, .slice A l.length c] 24).on (bal _ (.cells #[.int .i64 0, .slice none 0 0] 24))
  have x1 := boxF_made (w.alloc (.cells #[.int .i64 nx, .slice A l.length c] 24)) [.int .i64 0, .slice none 0 0] 24
  have hbA : Below w.heap.size w ((w.alloc (.cells #[.int .i64 nx, .slice A l.length c] 24)).alloc (.cells #[.int .i64 0, .slice none 0 0] 24)) := bt (bal _ _) (bal _ _)
  have hzA : ((w.alloc (.cells #[.int .i64 nx, .slice A l.length c] 24)).alloc (.cells #[.int .i64 0, .slice none 0 0] 24)).heap.size = w.heap.size + 1 + 1 := by simp
  simp only [World.size_alloc] at x1
  have X0 := Lib.hid x0
  have X1 := Lib.hid x1
  have HBA := Lib.hid hbA
  have HZA := Lib.hid hzA
  clear x0 x1 hbA hzA hn hB0
  go_enter Try.func14, Try.ntmps14
  go_wp2_with (first
    | (go_at_call 24; (refine (without_any _ B0 _ ⟨nx, l⟩ (-1) ⟨_, rfl, HA.out.below (HBA.out.mono HB.out)⟩ (Nat.le_trans HB.out HBA.out.size) hl).mono ?_); rintro e w1 ⟨u, rfl, ⟨V, ds, rfl, ⟨A', n', c', rfl⟩, hr, hc⟩, hb1⟩; rw [show wo l (fun i => decide ((i : Int) ≠ -1)) l.length = l from wo_none l] at hr hc; have hsz : w.heap.size + 1 + 1 ≤ w1.heap.size := (by have := hb1.size; have := HZA.out; omega); have hb2 := bal w1 (.cells #[.int .i64 nx, .slice A' n' c'] 24); have hz := boxF_made w1 [.int .i64 nx, .slice A' n' c'] 24; have hb3 := bal (w1.alloc (.cells #[.int .i64 nx, .slice A' n' c'] 24)) (.cells #[.int .i64 nx, .int .i64 to_, .slice Ab b.length cb] 29); have S1 := srcN_at (P := Try.prog) (n := 3) rfl (cell_one ⟨nx, to_, b⟩ _ HS.out) (box_made (w1.alloc (.cells #[.int .i64 nx, .slice A' n' c'] 24)) [.int .i64 nx, .int .i64 to_, .slice Ab b.length cb] 29) Try.underlying22; simp only [World.size_alloc] at S1; have R1 := ((hr.less (Nat.le_of_eq HZA.out.symm)).on hb2).on hb3; have hb13 := bt hb2 hb3; have q0 : ((w.alloc (.cells #[.int .i64 nx, .slice A l.length c] 24)).alloc (.cells #[.int .i64 0, .slice none 0 0] 24)).heap.size ≤ ((w1.alloc (.cells #[.int .i64 nx, .slice A' n' c'] 24)).alloc (.cells #[.int .i64 nx, .int .i64 to_, .slice Ab b.length cb] 29)).heap.size := Nat.le_trans hb1.size hb13.size; have q1 : l.length + 1 ≤ 1000000 := (by omega); have q2 : (l.length + 1) * 40 ≤ 140737488355328 := (by omega); have e0 := ((X0.out.on hb1).on hb2).get 0 rfl; have hnn : n' = l.length := (by obtain ⟨_, _, e, _⟩ := hr.slice; injection e); subst hnn)
    | (at_builtin; (refine wpList_appendN (B := w.heap.size + 1 + 1) (n := 3) (k := l.length) (m := 1) (cs := ds.flatten) (ys := [.int .i64 nx, .int .i64 to_, .slice Ab b.length cb]) rfl (.tmp 11) (.tmp 17) 22 22 rfl 29 j _ 40 Try.underlying22 hj hz0 hz1 rfl hz2 R1 (Nat.le_trans (Nat.le_of_eq HZA.out.symm) q0) S1 rfl q1 q2 rfl rfl ?_; intro v5 w5 h5 hb5 hk5 ho5; have how : ∀ g, (Value.slice A' l.length c').ownBlock = some g → w.heap.size + 1 + 1 ≤ g ∧ g < w1.heap.size := (fun g e => ⟨Nat.le_trans (Nat.le_of_eq HZA.out.symm) (hr.own_ge _ e), hr.own_lt _ e⟩); have hkz := hk5 w1.heap.size (by simp only [World.size_alloc]; omega) (fun e => by have := how _ e; omega); have hks := hk5 w.heap.size (by simp only [World.size_alloc]; omega) (fun e => by have := how _ e; omega); have hkt := hk5 (w.heap.size + 1) (by simp only [World.size_alloc]; omega) (fun e => by have := how _ e; omega); have Z5 := (hz.on hb3).kept hkz hb5.size; have X5 := (((X0.out.on hb1).on hb2).on hb3).kept hks hb5.size; have T5 := (((X1.out.on hb1).on hb2).on hb3).kept hkt hb5.size; obtain ⟨A5, c5, hv5, _⟩ := h5.slice; subst hv5; have SE := Lib.hid (send_end (m := nx + 1) (p := ⟨nx, to_, b⟩) hsz HB.out (HBA.out.trans (hb1.mono HBA.out.size)) hb13 hb5 (by simp only [World.size_alloc]; omega) how X5 T5 Z5 h5 ⟨_, _, _, rfl⟩ hc HS.out ho5); have z50 := Z5.get 0 rfl; have z51 := Z5.get 1 rfl; have f50 := Z5.free 0 (by simp); have f51 := Z5.free 1 (by simp); have x60 := SE.out.1; have z70 := SE.out.2.1; have z71 := SE.out.2.2.1; have t70 := SE.out.2.2.2.1; have t71 := SE.out.2.2.2.2.1; have u70 := SE.out.2.2.2.2.2.1; have u71 := SE.out.2.2.2.2.2.2.1; clear hk5 ho5 hkz hks hkt Z5 X5 T5)))
  refine bodyPost_ret (results_cell1 (p := 6) rfl rfl (load_net rfl SE.out.2.2.2.2.2.2.2.1)) rfl ?_
  exact ⟨_, rfl, SE.out.2.2.2.2.2.2.2.2.1, SE.out.2.2.2.2.2.2.2.2.2⟩

def Nett.copied (n : Nett) (i : Int) : Nett := if n.l.length = 0 then n else n.send (n.l.getD (n.place i) default).to_ (n.l.getD (n.place i) default).b

set_option maxRecDepth 100000 in
set_option maxHeartbeats 4000000 in
theorem rcopy_any (w : World) (v : Value) (n : Nett) (i : Int) (h : NetAt w w.heap.size v n) (hl : n.l.length ≤ 100) (hn : 0 ≤ n.next ∧ n.next ≤ 4611686018427387904) (hi : 0 ≤ i) :
    Calls Try.prog 17 #[v, .int .i64 i] w fun e w' => ∃ u, e = .returned u ∧ NetAt w' w'.heap.size u (n.copied i) ∧ Below w.heap.size w w' := by
  by_cases h0 : n.l.length = 0
  · obtain ⟨lv, rfl, hp⟩ := h
    have HA := Lib.hid hp
    have HT : Hid (n.copied i = n) := by show n.copied i = _; unfold Nett.copied; rw [if_pos h0]
    rw [HT.out]
    obtain ⟨nx, l⟩ := n
    obtain ⟨A, c, css, rfl, hlc, hcm, _⟩ := hp
    replace h0 : l.length = 0 := h0
    have HL := Lib.hid h0
    simp only [h0] at hlc HA ⊢
    clear h0 hl hn
    have b1 := boxF_made (w.alloc (.cells #[.int .i64 nx, .slice A 0 c] 24)) [.int .i64 0, .slice none 0 0] 24
    have b3 : Below w.heap.size w ((w.alloc (.cells #[.int .i64 nx, .slice A 0 c] 24)).alloc (.cells #[.int .i64 nx, .slice A 0 c] 24)) := bt (bal _ _) (bal _ _)
    have b2 := box_made (w.alloc (.cells #[.int .i64 nx, .slice A 0 c] 24)) [.int .i64 nx, .slice A 0 c] 24
    simp only [World.size_alloc] at b2
    have B2 := Lib.hid b2
    have B3 := Lib.hid b3
    clear b1 b2 b3
    go_enter Try.func17, Try.ntmps17
    go_wp2
    refine bodyPost_ret (results_cell1 (p := 4) rfl rfl (load_net (vs := [.int .i64 nx, .slice A 0 c]) rfl B2.out)) rfl ?_
    exact ⟨_, rfl, ⟨_, rfl, HA.out.on B3.out⟩, B3.out⟩
  · obtain ⟨lv, rfl, hp⟩ := h
    have HA := Lib.hid hp
    have hpl := place_lt (i := i) h0
    have HT : Hid (n.copied i = n.send (n.l.getD (n.place i) default).to_ (n.l.getD (n.place i) default).b) := by show n.copied i = _; unfold Nett.copied; rw [if_neg h0]
    have hpe : ((n.place i : Nat) : Int) = i % (n.l.length : Int) := by
      unfold Nett.place
      have h1 := Int.emod_nonneg i (show (n.l.length : Int) ≠ 0 by omega)
      omega
    rw [HT.out]
    clear HT
    obtain ⟨nx, l⟩ := n
    generalize Nett.place ⟨nx, l⟩ i = k at hpl hpe
    replace h0 : l.length ≠ 0 := h0
    replace hl : l.length ≤ 100 := hl
    replace hpl : k < l.length := hpl
    replace hpe : (k : Int) = i % (l.length : Int) := hpe
    obtain ⟨A, c, css, rfl, hlc, hcm, _⟩ := hp
    replace hlc : l.length ≤ c := hlc
    obtain ⟨b, off, vb, e, hb, hbB, hsb, c0, c1, c2⟩ := HA.out.at_ k hpl
    subst e
    have HS := Lib.hid hsb
    obtain ⟨Ab, cb, rfl, _⟩ := hsb
    show Calls _ _ _ _ fun e w' => ∃ u, e = .returned u ∧ NetAt w' w'.heap.size u (Nett.send ⟨nx, l⟩ (l.getD k default).to_ (l.getD k default).b) ∧ Below w.heap.size w w'
    rw [show l.getD k default = l[k] from getD_get hpl]
    have hrem : Int.tmod i (l.length : Int) = (k : Int) := by rw [hpe, Int.tmod_eq_emod_of_nonneg hi]
    have n0 : ((l.length : Int) == 0) = false := beq_eq_false_iff_ne.2 (by omega)
    have n1 : (l.length : Int) ≠ 0 := by omega
    have i0 : (0 : Int) ≤ (k : Int) := by omega
    have i1 : (k : Int) < (l.length : Int) := by omega
    have HW : Hid (∀ W, Below w.heap.size w W → Calls Try.prog 14 #[.agg #[.int .i64 nx, .slice (some ⟨b, off, none⟩) l.length c], .int .i64 l[k].to_, .slice Ab l[k].b.length cb] W fun e w' => ∃ u, e = .returned u ∧ NetNew W w.heap.size w' u (Nett.send ⟨nx, l⟩ l[k].to_ l[k].b) ∧ Below W.heap.size W w') := fun W hW =>
      rsend_any W w.heap.size _ _ ⟨nx, l⟩ l[k].to_ l[k].b ⟨_, rfl, HA.out.below hW⟩ (HS.out.below hW) hW.size hl hn
    have hbA : Below w.heap.size w ((w.alloc (.cells #[.int .i64 nx, .slice (some ⟨b, off, none⟩) l.length c] 24)).alloc (.cells #[.int .i64 0, .slice none 0 0] 24)) := bt (bal _ _) (bal _ _)
    have x0 := (box_made w [.int .i64 nx, .slice (some ⟨b, off, none⟩) l.length c] 24).on (bal _ (.cells #[.int .i64 0, .slice none 0 0] 24))
    have x1 := boxF_made (w.alloc (.cells #[.int .i64 nx, .slice (some ⟨b, off, none⟩) l.length c] 24)) [.int .i64 0, .slice none 0 0] 24
    simp only [World.size_alloc] at x1
    have hzA : ((w.alloc (.cells #[.int .i64 nx, .slice (some ⟨b, off, none⟩) l.length c] 24)).alloc (.cells #[.int .i64 0, .slice none 0 0] 24)).heap.size = w.heap.size + 1 + 1 := by simp
    obtain ⟨WA, hWA⟩ : ∃ WA, WA = ((w.alloc (.cells #[.int .i64 nx, .slice (some ⟨b, off, none⟩) l.length c] 24)).alloc (.cells #[.int .i64 0, .slice none 0 0] 24)) := ⟨_, rfl⟩
    have HWA := Lib.hid hWA
    rw [← hWA] at hbA x0 x1 hzA
    clear hWA
    have e := fun (o : Nat) => World.cell?_of_block (a := ⟨b, o, none⟩) (hbA.block b hb)
    replace c0 := (e _).trans c0
    replace c1 := (e _).trans c1
    replace c2 := (e _).trans c2
    have y0 := x0.get 0 rfl
    have y1 := x0.get 1 rfl
    have hbW : b < WA.heap.size := by omega
    have hsW : w.heap.size < WA.heap.size := by omega
    have X0 := Lib.hid x0
    have X1 := Lib.hid x1
    have HBA := Lib.hid hbA
    have HZA := Lib.hid hzA
    have HSS : Hid (∀ W, Below WA.heap.size WA W → W.cell? ⟨w.heap.size, 1, none⟩ = some (.slice (some ⟨b, off, none⟩) l.length c) ∧ W.cell? ⟨b, off + k * 3, none⟩ = some (.int .i64 l[k].id) ∧ W.cell? ⟨b, off + k * 3 + 1, none⟩ = some (.int .i64 l[k].to_) ∧ W.cell? ⟨b, off + k * 3 + 2, none⟩ = some (.slice Ab l[k].b.length cb)) := fun W hW => by
      have e' := fun (x : Nat) (hx : x < WA.heap.size) (o : Nat) => World.cell?_of_block (a := ⟨x, o, none⟩) (hW.block x hx)
      exact ⟨(e' _ hsW _).trans y1, (e' _ hbW _).trans c0, (e' _ hbW _).trans c1, (e' _ hbW _).trans c2⟩
    have n2 : (l.length == 0) = false := by simp; intro e; rw [e] at h0; exact h0 rfl
    have n4 : l ≠ [] := by intro e; rw [e] at h0; exact h0 rfl
    have n5 : decide ((l.length : Int) = 0) = false := decide_eq_false n1
    have n6 : decide (l.length = 0) = false := decide_eq_false h0
    clear hpe hn e x0 x1 hbA hzA hbB
    go_enter Try.func17, Try.ntmps17
    go_wp2
    rw [← HWA.out]
    first | (go_region_held3 (fun W => W.cell? ⟨w.heap.size, 1, none⟩ = some (.slice (some ⟨b, off, none⟩) l.length c) ∧ W.cell? ⟨b, off + k * 3, none⟩ = some (.int .i64 l[k].id) ∧ W.cell? ⟨b, off + k * 3 + 1, none⟩ = some (.int .i64 l[k].to_) ∧ W.cell? ⟨b, off + k * 3 + 2, none⟩ = some (.slice Ab l[k].b.length cb)) (first | exact HSS.out _ (below_drewN _ _ _) | exact HSS.out _ (Below.refl _ _).drew | exact HSS.out _ (Below.refl _ _) | exact HSS.out _ (bal _ _) | exact HSS.out _ (bal _ _).drew | exact HSS.out _ ((bal _ _).drewN _) | exact HSS.out _ (bt (Below.refl _ _).drew (bal _ _)) | exact HSS.out _ (put3_below (bal _ _) (Nat.le_refl _) _ _ _) | exact HSS.out _ (put3_below (bal _ _).drew (Nat.le_refl _) _ _ _)) (fail)) | fail
    go_wp2_with fail
    go_at_call 14
    have hbW : Below WA.heap.size WA (WA.alloc (.cells #[.int .i64 l[k].id, .int .i64 l[k].to_, .slice Ab l[k].b.length cb] 29)).drew := (bal _ _).drew
    have hbw := HBA.out.trans (hbW.mono HBA.out.size)
    refine (HW.out _ hbw).mono ?_
    rintro e w1 ⟨u, rfl, ⟨V, ds, rfl, ⟨A', n', c', rfl⟩, hr, hc⟩, hb1⟩
    have hb2 := hbW.trans (hb1.mono hbW.size)
    have x5 := X1.out.on hb2
    have g0 := x5.get 0 rfl
    have g1 := x5.get 1 rfl
    have f0 := x5.free 0 (by simp)
    have f1 := x5.free 1 (by simp)
    have X5 := Lib.hid x5
    have HB2 := Lib.hid (HBA.out.trans (hb2.mono HBA.out.size))
    have HN : Hid (NetNew (WA.alloc (.cells #[.int .i64 l[k].id, .int .i64 l[k].to_, .slice Ab l[k].b.length cb] 29)).drew w.heap.size w1 (.agg #[.int .i64 (Nett.send ⟨nx, l⟩ l[k].to_ l[k].b).next, .slice A' n' c']) (Nett.send ⟨nx, l⟩ l[k].to_ l[k].b)) := ⟨_, ds, rfl, ⟨_, _, _, rfl⟩, hr, hc⟩
    have hsW : w.heap.size + 1 + 1 ≤ (WA.alloc (.cells #[.int .i64 l[k].id, .int .i64 l[k].to_, .slice Ab l[k].b.length cb] 29)).drew.heap.size := Nat.le_trans (Nat.le_of_eq HZA.out.symm) hbW.size
    clear x5 hr hc
    go_wp2
    refine bodyPost_ret (results_cell1 (p := 4) rfl rfl (load_net (vs := [.int .i64 (Nett.send ⟨nx, l⟩ l[k].to_ l[k].b).next, .slice A' n' c']) rfl (put2_box X5.out _ _).box)) rfl ?_
    have hp : Below w.heap.size w1 (put2 w1 (w.heap.size + 1) (.int .i64 (Nett.send ⟨nx, l⟩ l[k].to_ l[k].b).next) (.slice A' n' c')) := put2_below _ (by omega) _ _
    refine ⟨_, rfl, (HN.out.kept (fun g hg _ => put2_other _ _ _ _ g (by omega)) hp.size hp).net ?_, HB2.out.trans hp⟩
    exact (HB2.out.trans hp).size

end Go.Proofs.Ythpbnjmhhkkkiaa
