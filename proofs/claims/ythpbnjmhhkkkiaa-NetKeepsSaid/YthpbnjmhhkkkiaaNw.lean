/-
  A net without some of its packets, as the document's own functions make it.
-/
import Derived.Test.YthpbnjmhhkkkiaaNr
import Derived.Deep.RegionLaw
namespace Go.Proofs.Ythpbnjmhhkkkiaa
open Go.RowKit
attribute [local go_sem ↓] Go.wp_at_zero Go.wp_at_succ

theorem info_part3 {o : Option TypeInfo} {z : Value} {n q : Nat} (h : o.map (fun i => (i.zero, i.size, i.bytes)) = some (some z, n, q)) : ∃ i, o = some i ∧ i.zero = some z ∧ i.size = n ∧ i.bytes = q := by
  cases o with
  | none => cases h
  | some i => simp at h; exact ⟨i, rfl, h.1, h.2.1, h.2.2⟩
theorem pkt_info : (Try.prog.info? 29).map (fun i => (i.zero, i.size, i.bytes)) = some (some (.agg #[.int .i64 0, .int .i64 0, .slice none 0 0]), 3, 40) := by kernel_rfl
theorem srcN_at {P : Program} {W : World} {g n : Nat} {cs : List Value} (hl : cs.length = n) (h1 : ∀ u ∈ cs, u.oneCell' = true) (h : Box g cs W) {tx e' : TypeId} (hk : P.underlying tx = some (.slice e')) : Src P n tx (.slice (some ⟨g, 0, none⟩) 1 1) 1 cs W := by
  refine Src.ofSlice _ hk _ 1 1 cs (by rw [Nat.one_mul]; exact hl) (fun j x hx => ?_) h1
  rw [Addr.add_lit, Nat.zero_add]
  exact h.get j hx
theorem net_info : (Try.prog.info? 24).map (·.size) = some 2 := by kernel_rfl
theorem net_agg (W : World) : (isAgg 24).run Try.prog W = .ok true W := by simp [isAgg, run_underlying Try.underlying24]
theorem load_net {g : Nat} {vs : List Value} {W : World} (hn : vs.length = 2) (h : Box g vs W) : (loadVar 24 ⟨g, 0, none⟩).run Try.prog W = .ok (.agg vs.toArray) W := by
  obtain ⟨i, hi, hz⟩ : ∃ i, Try.prog.info? 24 = some i ∧ i.size = 2 := by
    have hq := net_info
    cases he : Try.prog.info? 24 with
    | none => rw [he] at hq; cases hq
    | some i => rw [he] at hq; exact ⟨i, rfl, Option.some.inj hq⟩
  have hs : (sizeOf 24).run Try.prog W = .ok 2 W := by simp [sizeOf, typeInfo, hi, hz]
  have hl := run_loadCells_list (P := Try.prog) W ⟨g, 0, none⟩ vs (fun j u hu => by
    obtain ⟨hj, e⟩ := List.getElem?_eq_some_iff.1 hu
    rw [Addr.add_lit, Nat.zero_add, ← e]
    exact h.2 j hj)
  rw [hn] at hl
  simp only [loadVar, Sem.run_bind, Sem.run_pure, Result.andThen_ok, net_agg, hs, hl, if_true]
/-- two cells are stored, one by one -/
def put2 (W : World) (z : Nat) (a b : Value) : World := (W.setCell ⟨z, 0, none⟩ a).setCell ⟨z, 1, none⟩ b
theorem put2_box {W : World} {z : Nat} {p q : Value} (h : BoxF z [p, q] W) (a b : Value) : BoxF z [a, b] (put2 W z a b) :=
  ((h.set 0 (by simp) a).set 1 (by simp) b : BoxF z (([p, q].set 0 a).set 1 b) _)
theorem put2_below {B : Nat} (W : World) {z : Nat} (hz : B ≤ z) (a b : Value) : Below B W (put2 W z a b) := ((Below.refl B W).setCell hz _).setCell hz _
theorem put2_other (W : World) (z : Nat) (a b : Value) (k : Nat) (h : k ≠ z) : (put2 W z a b).heap[k]? = W.heap[k]? := by
  unfold put2
  rw [Below.heap_setCell _ ⟨z, 1, none⟩ _ k h, Below.heap_setCell _ ⟨z, 0, none⟩ _ k h]
theorem put2_size (W : World) (z : Nat) (a b : Value) : (put2 W z a b).heap.size = W.heap.size := by simp [put2, World.setCell]

def wo (l : List Pkt) (p : Nat → Bool) (k : Nat) : List Pkt := ((List.range k).filter p).map (fun i => l.getD i default)
theorem wo_yes {l : List Pkt} {p : Nat → Bool} {k : Nat} (h : p k = true) : wo l p (k + 1) = wo l p k ++ [l.getD k default] := by
  unfold wo; rw [List.range_succ, List.filter_append, List.map_append]; simp [h]
theorem wo_no {l : List Pkt} {p : Nat → Bool} {k : Nat} (h : p k = false) : wo l p (k + 1) = wo l p k := by
  unfold wo; rw [List.range_succ, List.filter_append, List.map_append]; simp [h]
theorem wo_len (l : List Pkt) (p : Nat → Bool) (k : Nat) : (wo l p k).length ≤ k := by
  unfold wo; rw [List.length_map]; exact Nat.le_trans (List.length_filter_le _ _) (by simp)

/-- what a loop that lays packets by has come to -/
def Laid (w : World) (B0 : Nat) (nx : Int) (lv : Value) (m : List Pkt) (wr : World) : Prop := ∃ V css, Box w.heap.size [.int .i64 nx, lv] wr ∧ BoxF (w.heap.size + 1) [.int .i64 0, .slice none 0 0] wr ∧ BoxF (w.heap.size + 1 + 1) [.int .i64 nx, V] wr ∧
  RoomN wr (w.heap.size + 1 + 1 + 1) V 3 m.length css.flatten ∧ Cells wr B0 m css ∧ Below w.heap.size w wr

theorem laid_step {w wr wa w5 : World} {B0 : Nat} (hB0 : B0 ≤ w.heap.size) {nx : Int} {lv V v5 vb : Value} {m : List Pkt} {ds : List (List Value)} {p : Pkt} (h0 : Box w.heap.size [.int .i64 nx, lv] wr) (h1 : BoxF (w.heap.size + 1) [.int .i64 0, .slice none 0 0] wr) (hsz : w.heap.size + 1 + 1 < wr.heap.size)
    (hx : BoxF (w.heap.size + 1 + 1) [.int .i64 nx, V] w5) (hr : RoomN w5 (w.heap.size + 1 + 1 + 1) v5 3 (m.length + 1) (ds.flatten ++ p.cells vb)) (hc : Cells wr B0 m ds) (hs : Seen wr B0 vb p.b) (hw : Below w.heap.size w wr)
    (ha : Below wr.heap.size wr wa) (h5 : Below (w.heap.size + 1 + 1 + 1) wa w5) : Laid w B0 nx lv (m ++ [p]) (w5.setCell ⟨w.heap.size + 1 + 1, 1, none⟩ v5) := by
  have hb5 : Below (w.heap.size + 1 + 1 + 1) wr w5 := (ha.mono (by omega)).trans h5
  have hb6 : Below (w.heap.size + 1 + 1) wr (w5.setCell ⟨w.heap.size + 1 + 1, 1, none⟩ v5) := below_set (hb5.mono (show w.heap.size + 1 + 1 ≤ w.heap.size + 1 + 1 + 1 by omega)) (w.heap.size + 1 + 1) 1 v5 (Nat.le_refl _)
  have hb7 : Below w.heap.size wr (w5.setCell ⟨w.heap.size + 1 + 1, 1, none⟩ v5) := hb6.mono (by omega)
  refine ⟨v5, ds ++ [p.cells vb], h0.kept (hb6.block _ (by omega)) hb6.size, h1.kept (hb6.block _ (by omega)) hb6.size, hx.set 1 (by simp) v5, ?_, (hc.snoc hs).below (hb7.mono hB0), hw.trans hb7⟩
  rw [List.length_append, List.length_singleton, List.flatten_append]
  have e : [p.cells vb].flatten = p.cells vb := by simp
  rw [e]
  exact hr.kept (fun g hg => Below.heap_setCell _ ⟨w.heap.size + 1 + 1, 1, none⟩ _ g (show g ≠ w.heap.size + 1 + 1 by have := hr.own_ge g hg; omega)) (by simp [World.setCell])
/-- a net of a row of the call's own, whose bytes lie below block B0 -/
def NetNew (w : World) (B0 : Nat) (w' : World) (u : Value) (n : Nett) : Prop := ∃ V css, u = .agg #[.int .i64 n.next, V] ∧ (∃ A n c, V = .slice A n c) ∧ RoomN w' w.heap.size V 3 n.l.length css.flatten ∧ Cells w' B0 n.l css
theorem NetNew.net {w w' : World} {B0 : Nat} {u : Value} {n : Nett} (h : NetNew w B0 w' u n) (hB : B0 ≤ w'.heap.size) : NetAt w' w'.heap.size u n := by
  obtain ⟨V, css, e, _, hr, hc⟩ := h
  exact ⟨V, e, hr.pkts (hc.more hB)⟩
theorem NetNew.kept {w w' w'' : World} {B0 : Nat} {u : Value} {n : Nett} (h : NetNew w B0 w' u n) (hk : ∀ g, w.heap.size ≤ g → g < w'.heap.size → w''.heap[g]? = w'.heap[g]?) (hs : w'.heap.size ≤ w''.heap.size) (hb : Below B0 w' w'') : NetNew w B0 w'' u n := by
  obtain ⟨V, css, e, hv, hr, hc⟩ := h
  exact ⟨V, css, e, hv, hr.kept (fun g hg => hk g (hr.own_ge g hg) (hr.own_lt g hg)) hs, hc.below hb⟩
/-- what it hands out -/
theorem laid_end {w wr : World} {B0 : Nat} (hB0 : B0 ≤ w.heap.size) {nx : Int} {lv : Value} {m : List Pkt} (h : Laid w B0 nx lv m wr) : ∃ V, BoxF (w.heap.size + 1) [.int .i64 0, .slice none 0 0] wr ∧ Box (w.heap.size + 1 + 1) [.int .i64 nx, V] wr ∧ (∃ A n c, V = .slice A n c) ∧
    NetNew w B0 (put2 wr (w.heap.size + 1) (.int .i64 nx) V) (.agg #[.int .i64 nx, V]) ⟨nx, m⟩ ∧ Below w.heap.size w (put2 wr (w.heap.size + 1) (.int .i64 nx) V) := by
  obtain ⟨V, ds, h0, h1, h2, hr, hc, hb⟩ := h
  obtain ⟨A, c, e, _⟩ := hr.slice
  have hp : Below w.heap.size wr (put2 wr (w.heap.size + 1) (.int .i64 nx) V) := put2_below wr (by omega) _ _
  have hr' := hr.kept (w' := put2 wr (w.heap.size + 1) (.int .i64 nx) V) (fun g hg => put2_other _ _ _ _ g (by have := hr.own_ge g hg; omega)) (by rw [put2_size]; exact Nat.le_refl _)
  exact ⟨V, h1, h2.box, ⟨_, _, _, e⟩, ⟨V, ds, rfl, ⟨_, _, _, e⟩, hr'.less (by omega), hc.below (hp.mono hB0)⟩, hb.trans hp⟩

set_option maxRecDepth 100000 in
set_option maxHeartbeats 2000000 in
theorem without_any (w : World) (B0 : Nat) (v : Value) (n : Nett) (at_ : Int) (h : NetAt w B0 v n) (hB0 : B0 ≤ w.heap.size) (hl : n.l.length ≤ 100) :
    Calls Try.prog 24 #[v, .int .i64 at_] w fun e w' => ∃ u, e = .returned u ∧ NetNew w B0 w' u ⟨n.next, wo n.l (fun i => decide ((i : Int) ≠ at_)) n.l.length⟩ ∧ Below w.heap.size w w' := by
  obtain ⟨lv, rfl, hp⟩ := h
  have HA := Lib.hid hp
  have HB00 := Lib.hid hB0
  clear hB0
  obtain ⟨nx, l⟩ := n
  obtain ⟨A, c, css, rfl, hlc, hcm, _⟩ := hp
  obtain ⟨j, hj, hz0, hz1, hz2⟩ := info_part3 pkt_info
  go_enter Try.func24, Try.ntmps24
  go_wp2
  go_loopw [6] (fun j wr => ∃ k : Nat, k ≤ l.length ∧ j = .int .i64 (k : Int) ∧ Laid w B0 nx (.slice A l.length c) (wo l (fun i => decide ((i : Int) ≠ at_)) k) wr) (fun j _ => l.length - (intOf j).toNat)
  case atStart =>
    refine ⟨0, Nat.zero_le _, rfl, .slice none 0 0, [], ?_, ?_, ?_, RoomN.nil, Cells.nil, bt (bt (bal _ _) (bal _ _)) (bal _ _)⟩
    · exact ((box_made w _ _).on (bal _ _)).on (bal _ _)
    · have := (boxF_made (w.alloc (.cells #[.int .i64 nx, .slice A l.length c] 24)) [.int .i64 0, .slice none 0 0] 24).on (bal _ (.cells #[.int .i64 nx, .slice none 0 0] 24))
      simpa using this
    · have := boxF_made ((w.alloc (.cells #[.int .i64 nx, .slice A l.length c] 24)).alloc (.cells #[.int .i64 0, .slice none 0 0] 24)) [.int .i64 nx, .slice none 0 0] 24
      simpa using this
  case round =>
    obtain ⟨k, hk, rfl, V, ds, hb0, hb1, hb2, hrm, hcs, hbw⟩ := hrel
    have x0 := hb0.get 0 rfl
    have x1 := hb0.get 1 rfl
    have z0 := hb2.get 0 rfl
    have z1 := hb2.get 1 rfl
    have HB0 := Lib.hid hb0
    have HB1 := Lib.hid hb1
    have HB2 := Lib.hid hb2
    have HRM := Lib.hid hrm
    have HCS := Lib.hid hcs
    have HBW := Lib.hid hbw
    have hsz := hb2.1
    by_cases hlt : k < l.length
    · obtain ⟨b, off, vb, rfl, hb, hbB, hsb, c0, c1, c2⟩ := (HA.out.below (hbw.mono HB00.out)).at_ k hlt
      obtain ⟨Ab, cb, rfl, hAb⟩ := hsb
      have HS : Hid (Seen wr B0 (.slice Ab l[k].b.length cb) l[k].b) := ⟨Ab, cb, rfl, hAb⟩
      have i0 : (0 : Int) ≤ (k : Int) := by omega
      have i1 : (k : Int) < (l.length : Int) := by omega
      clear hb0 hb1 hb2 hrm hcs hbw hAb
      by_cases he : (k : Int) = at_
      · have HW := Lib.hid (wo_no (l := l) (p := fun i => decide ((i : Int) ≠ at_)) (k := k) (by simp [he]))
        have hne : ((k : Int) != at_) = false := by simp [he]
        have HE := Lib.hid he
        clear he
        go_wp2
        go_roundw
        case rel => exact ⟨k + 1, by omega, by go_num, V, ds, HB0.out, HB1.out, HB2.out, by rw [HW.out]; exact HRM.out, by rw [HW.out]; exact HCS.out, HBW.out⟩
        case measure => simp [intOf]; omega
      · have hwy := wo_yes (l := l) (p := fun i => decide ((i : Int) ≠ at_)) (k := k) (by simp [he])
        rw [getD_get hlt] at hwy
        have HW := Lib.hid hwy
        have HM : Hid ((wo l (fun i => decide ((i : Int) ≠ at_)) k).length ≤ k) := wo_len _ _ _
        have hne : ((k : Int) != at_) = true := by simp [he]
        clear he hwy
        generalize wo l (fun i => decide ((i : Int) ≠ at_)) k = m at HRM HCS HW HM
        have hml : m.length ≤ k := HM.out
        have hwa := bal wr (.cells #[.int .i64 l[k].id, .int .i64 l[k].to_, .slice Ab l[k].b.length cb] 29)
        have R1 := HRM.out.on hwa.drew
        have hB1 : w.heap.size + 1 + 1 + 1 ≤ (wr.alloc (.cells #[.int .i64 l[k].id, .int .i64 l[k].to_, .slice Ab l[k].b.length cb] 29)).drew.heap.size := Nat.le_trans hsz hwa.drew.size
        have S1 := srcN_at (P := Try.prog) (n := 3) rfl (cell_one l[k] _ HS.out) ((box_made wr [.int .i64 l[k].id, .int .i64 l[k].to_, .slice Ab l[k].b.length cb] 29).on (Below.refl _ _).drew) Try.underlying22
        have q1 : m.length + 1 ≤ 1000000 := by omega
        have q2 : (m.length + 1) * 40 ≤ 140737488355328 := by omega
        obtain ⟨Av, cv, rfl, _⟩ := HRM.out.slice
        go_wp2
        first | (go_region_law (first
          | (refine step_appendN (B := w.heap.size + 1 + 1 + 1) (n := 3) (k := m.length) (m := 1) (cs := ds.flatten) (ys := [.int .i64 l[k].id, .int .i64 l[k].to_, .slice Ab l[k].b.length cb]) (by rfl) (.tmp 21) (.tmp 27) 22 22 (by rfl) 29 j _ 40 Try.underlying22 hj hz0 hz1 rfl hz2 R1 hB1 S1 rfl q1 q2 (by rfl) (by rfl) ?_; intro v5 w5 h5 hb5 hk5 ho5; have HX5 := Lib.hid ((HB2.out.on hwa.drew).kept (hb5.block _ (by omega)) hb5.size); have y1 := HX5.out.get 1 rfl; have f1 := HX5.out.free 1 (by simp); obtain ⟨A5, c5, hv5, _⟩ := h5.slice; subst hv5; have H5 := Lib.hid h5; have K5 := Lib.hid hb5; clear hk5 ho5))) | fail
        all_goals go_wp2
        all_goals go_roundw
        all_goals first
          | (refine ⟨k + 1, by omega, by go_num, ?_⟩; rw [HW.out]; exact laid_step HB00.out HB0.out HB1.out hsz HX5.out H5.out HCS.out HS.out HBW.out hwa.drew K5.out)
          | (simp [intOf]; omega)
    · have hkl : k = l.length := by omega
      obtain ⟨V, e1, e2, ⟨A', n', c', e3⟩, e4, e5⟩ := laid_end (w := w) HB00.out (nx := nx) (m := wo l (fun i => decide ((i : Int) ≠ at_)) k) ⟨V, ds, hb0, hb1, hb2, hrm, hcs, hbw⟩
      subst e3
      have y0 := e2.get 0 rfl
      have y1 := e2.get 1 rfl
      have f0 := e1.free 0 (by simp)
      have f1 := e1.free 1 (by simp)
      have g0 := e1.get 0 rfl
      have g1 := e1.get 1 rfl
      have E1 := Lib.hid e1
      have E4 := Lib.hid e4
      have E5 := Lib.hid e5
      clear e1 e2 e4 e5 hb0 hb1 hb2 hrm hcs hbw z0 z1
      subst hkl
      go_wp2
      refine bodyPost_ret (results_cell1 (p := 4) rfl rfl (load_net rfl (put2_box E1.out (.int .i64 nx) (.slice A' n' c')).box)) rfl ?_
      exact ⟨_, rfl, E4.out, E5.out⟩

end Go.Proofs.Ythpbnjmhhkkkiaa
