/-
  The document's own crash.
-/
import Derived.Test.YtcdobelhchlheaaIn
namespace Go.Proofs.Ytcdobelhchlheaa
open Go.RowKit
attribute [local go_sem ↓] Go.wp_at_zero Go.wp_at_succ

/-- a block of the call's own that holds these values, and may be written -/
def BoxF (g : Nat) (vs : List Value) (W : World) : Prop := g < W.heap.size ∧ ∀ i (h : i < vs.length), W.cell? ⟨g, i, none⟩ = some vs[i] ∧ W.frozen? ⟨g, i, none⟩ = false
theorem BoxF.on {g : Nat} {vs : List Value} {W W' : World} (h : BoxF g vs W) (hb : Below W.heap.size W W') : BoxF g vs W' :=
  ⟨Nat.lt_of_lt_of_le h.1 hb.size, fun i hi => ⟨(World.cell?_of_block (a := ⟨g, i, none⟩) (hb.block g h.1)).trans (h.2 i hi).1, (World.frozen?_of_block (a := ⟨g, i, none⟩) (hb.block g h.1)).trans (h.2 i hi).2⟩⟩
theorem BoxF.kept {g : Nat} {vs : List Value} {W W' : World} (h : BoxF g vs W) (e : W'.heap[g]? = W.heap[g]?) (hs : W.heap.size ≤ W'.heap.size) : BoxF g vs W' :=
  ⟨Nat.lt_of_lt_of_le h.1 hs, fun i hi => ⟨(World.cell?_of_block (a := ⟨g, i, none⟩) e).trans (h.2 i hi).1, (World.frozen?_of_block (a := ⟨g, i, none⟩) e).trans (h.2 i hi).2⟩⟩
theorem boxF_made (w : World) (vs : List Value) (e : TypeId) : BoxF w.heap.size vs (w.alloc (.cells vs.toArray e)) :=
  ⟨by simp, fun i hi => ⟨by rw [World.cell?_alloc_new, List.getElem?_toArray]; exact List.getElem?_eq_getElem hi, World.frozen?_alloc_new ..⟩⟩
theorem BoxF.get {g : Nat} {vs : List Value} {W : World} (h : BoxF g vs W) (i : Nat) {u : Value} (e : vs[i]? = some u) : W.cell? ⟨g, i, none⟩ = some u := by
  obtain ⟨hi, e⟩ := List.getElem?_eq_some_iff.1 e
  rw [(h.2 i hi).1, e]
theorem BoxF.free {g : Nat} {vs : List Value} {W : World} (h : BoxF g vs W) (i : Nat) (hi : i < vs.length) : W.frozen? ⟨g, i, none⟩ = false := (h.2 i hi).2
theorem BoxF.set {g : Nat} {vs : List Value} {W : World} (h : BoxF g vs W) (i : Nat) (hi : i < vs.length) (u : Value) : BoxF g (vs.set i u) (W.setCell ⟨g, i, none⟩ u) := by
  refine ⟨by simpa [World.setCell] using h.1, fun j hj => ⟨?_, by rw [World.frozen?_setCell]; exact (h.2 j (by simpa using hj)).2⟩⟩
  rw [List.length_set] at hj
  by_cases e : j = i
  · subst e
    rw [World.cell?_setCell_same _ _ _ (h.2 j hi).1, List.getElem_set_self]
  · rw [World.cell?_setCell_other _ _ _ _ (by intro h; injection h with _ h; omega), (h.2 j hj).1, List.getElem_set_ne (fun h => e h.symm)]
theorem BoxF.other {g : Nat} {vs : List Value} {W : World} (h : BoxF g vs W) {b o : Nat} (u : Value) (hne : g ≠ b) : BoxF g vs (W.setCell ⟨b, o, none⟩ u) :=
  h.kept (Below.heap_setCell W ⟨b, o, none⟩ u g hne) (by simp [World.setCell])
theorem RoomN.kept {w w' : World} {B n k : Nat} {v : Value} {cs : List Value} (h : RoomN w B v n k cs) (hk : ∀ g, v.ownBlock = some g → w'.heap[g]? = w.heap[g]?) (hs : w.heap.size ≤ w'.heap.size) : RoomN w' B v n k cs := by
  obtain ⟨h0, h⟩ := h
  refine ⟨h0, h.imp id ?_⟩
  rintro ⟨g, off, cap, rfl, h1, h2, h3, h4, h5, h7, h6⟩
  have e := hk g rfl
  refine ⟨g, off, cap, rfl, h1, h2, h3, Nat.lt_of_lt_of_le h4 hs, h5.congr e, fun j b => (World.frozen?_of_block (a := ⟨g, off + j, none⟩) e).trans (h7 j b), fun j a b => ?_⟩
  rw [World.cell?_of_block (a := ⟨g, off + j, none⟩) e, World.frozen?_of_block (a := ⟨g, off + j, none⟩) e]
  exact h6 j a b
/-- one new struct, in a block of its own -/
theorem srcN_one {P : Program} (w : World) (n : Nat) (cs : List Value) (hl : cs.length = n) (h1 : ∀ u ∈ cs, u.oneCell' = true) {tx e e' : TypeId} (hk : P.underlying tx = some (.slice e')) :
    Src P n tx (.slice (some ⟨w.heap.size, 0, none⟩) 1 1) 1 cs (w.alloc (.cells cs.toArray e)) := by
  refine Src.ofSlice _ hk _ 1 1 cs (by rw [Nat.one_mul]; exact hl) (fun j x hx => ?_) h1
  rw [Addr.add_lit, World.cell?_alloc_new, Nat.zero_add, List.getElem?_toArray, hx]
theorem Cells.one {w : World} {B : Nat} {a : Actd} {vb : Value} (h : Seen w B vb a.b) : Cells w B [a] [a.cells vb] := ⟨rfl, fun i hi hi' => by
  have : i = 0 := by simpa using hi
  subst this
  exact ⟨vb, rfl, h⟩⟩
theorem crashA_cons {keep torn : Int} {k : Nat} {a : Actd} {r : List Actd} : crashA keep torn k (a :: r) = if keep ≤ (k : Int) then (if a.kind.toNat = 0 ∧ 0 < torn then [{ a with b := a.b.take torn.toNat }] else []) else a :: crashA keep torn (k + 1) r := rfl
theorem crashA_go {keep torn : Int} {k : Nat} {a : Actd} {r : List Actd} (h : (k : Int) < keep) : crashA keep torn k (a :: r) = a :: crashA keep torn (k + 1) r := by
  rw [crashA_cons, if_neg (by omega)]
theorem crashA_end {keep torn : Int} {k : Nat} {a : Actd} {r : List Actd} (h : keep ≤ (k : Int)) (h2 : ¬ (a.kind.toNat = 0 ∧ 0 < torn)) : crashA keep torn k (a :: r) = [] := by
  rw [crashA_cons, if_pos h, if_neg h2]
theorem crashA_torn {keep torn : Int} {k : Nat} {a : Actd} {r : List Actd} (h : keep ≤ (k : Int)) (h2 : a.kind.toNat = 0) (h3 : 0 < torn) : crashA keep torn k (a :: r) = [{ a with b := a.b.take torn.toNat }] := by
  rw [crashA_cons, if_pos h, if_pos ⟨h2, h3⟩]
theorem crashA_len {keep torn : Int} : ∀ (l : List Actd) (k : Nat), (crashA keep torn k l).length ≤ l.length
  | [], _ => Nat.le_refl _
  | a :: l, k => by
    rw [crashA_cons]
    split
    · split <;> simp
    · have := crashA_len (keep := keep) (torn := torn) l (k + 1)
      simp; omega

theorem below_set {B : Nat} {w w' : World} (h : Below B w w') (g i : Nat) (u : Value) (hg : B ≤ g) : Below B w (w'.setCell ⟨g, i, none⟩ u) := h.setCell hg u
/-- where a crash stands: so many acts are lasting -/
def FallsV (B0 B g7 : Nat) (acts : List Actd) (w7 wr : World) (v : Value) (css : List (List Value)) : Prop := BoxF g7 [v, .slice none 0 0, .int .i64 0, .bool false, .bool false] wr ∧ Cells wr B0 acts css ∧ RoomN wr B v 5 acts.length css.flatten ∧ v.ownBlock ≠ some g7 ∧ Below B w7 wr
def Falls (B0 B g7 : Nat) (acts : List Actd) (w7 wr : World) : Prop := ∃ v css, FallsV B0 B g7 acts w7 wr v css
theorem Falls.put {B0 B g7 : Nat} {acts : List Actd} {a : Actd} {w7 wr wa w5 : World} {v v5 vb : Value} {css : List (List Value)} (h0 : B0 ≤ B) (hB : B ≤ g7) (hw : B ≤ wr.heap.size) (h1 : BoxF g7 [v, .slice none 0 0, .int .i64 0, .bool false, .bool false] wr) (hc : Cells wr B0 acts css) (hv : v.ownBlock ≠ some g7) (hb : Below B w7 wr)
    (ha : Below wr.heap.size wr wa) (hs : Seen wr B0 vb a.b) (h5 : RoomN w5 B v5 5 (acts.length + 1) (css.flatten ++ a.cells vb)) (hb5 : Below B wa w5) (hk5 : ∀ k, k < wa.heap.size → v.ownBlock ≠ some k → w5.heap[k]? = wa.heap[k]?) (ho5 : ∀ g, v5.ownBlock = some g → v.ownBlock = some g ∨ wa.heap.size ≤ g) :
    FallsV B0 B g7 (acts ++ [a]) w7 (w5.setCell ⟨g7, 0, none⟩ v5) v5 (css ++ [a.cells vb]) := by
  have s1 := ha.size
  have hg := h1.1
  have e5 : v5.ownBlock ≠ some g7 := fun e => (ho5 g7 e).elim hv (fun h => by omega)
  have hbx : Below B wr w5 := (ha.mono hw).trans hb5
  have hby : Below B wr (w5.setCell ⟨g7, 0, none⟩ v5) := hbx.setCell hB _
  refine ⟨?_, (hc.append (Cells.one hs)).below (hby.mono h0), ?_, e5, hb.trans hby⟩
  · exact ((h1.kept (W' := w5) ((hk5 g7 (by omega) hv).trans (ha.block g7 hg)) (Nat.le_trans s1 hb5.size)).set 0 (by simp) v5 : BoxF g7 ([v, .slice none 0 0, .int .i64 0, .bool false, .bool false].set 0 v5) _)
  · rw [List.length_append, List.flatten_append]
    have : RoomN (w5.setCell ⟨g7, 0, none⟩ v5) B v5 5 (acts.length + 1) (css.flatten ++ a.cells vb) := h5.kept (fun g hg' => Below.heap_setCell w5 ⟨g7, 0, none⟩ v5 g (fun e => e5 (by rw [hg', e]))) (by simp [World.setCell])
    simpa using this
theorem results_cell1 {fn : Func} {p : Tmp} {ty : TypeId} (h : fn.results = #[.cell p ty]) {P : Program} {w : World} {tmps : Array Value} {a : Addr} {v : Value} (ha : tmps.getD p undef = .pointer (some a)) (hl : (loadVar ty a).run P w = .ok v w) :
    (results fn tmps).run P w = .ok v w := by
  have h2 : (asAddr (tmps.getD p undef)).run P w = .ok a w := by rw [ha]; rfl
  rw [Array.getD_eq_getD_getElem?] at h2
  simp only [results, h]
  simp [Sem.run_bind, Result.andThen, h2, hl]
theorem dsk_info : (Try.prog.info? 28).map (·.size) = some 5 := by kernel_rfl
theorem dsk_agg (W : World) : (isAgg 28).run Try.prog W = .ok true W := by simp [isAgg, run_underlying Try.underlying28]
theorem load_dsk {g : Nat} {vs : List Value} {W : World} (hn : vs.length = 5) (h : Box g vs W) : (loadVar 28 ⟨g, 0, none⟩).run Try.prog W = .ok (.agg vs.toArray) W := by
  obtain ⟨i, hi, hz⟩ : ∃ i, Try.prog.info? 28 = some i ∧ i.size = 5 := by
    have hq := dsk_info
    cases he : Try.prog.info? 28 with
    | none => rw [he] at hq; cases hq
    | some i => rw [he] at hq; exact ⟨i, rfl, Option.some.inj hq⟩
  have hs : (sizeOf 28).run Try.prog W = .ok 5 W := by simp [sizeOf, typeInfo, hi, hz]
  have hl := run_loadCells_list (P := Try.prog) W ⟨g, 0, none⟩ vs (fun j u hu => by
    obtain ⟨hj, e⟩ := List.getElem?_eq_some_iff.1 hu
    rw [Addr.add_lit, Nat.zero_add, ← e]
    exact h.2 j hj)
  rw [hn] at hl
  simp only [loadVar, Sem.run_bind, Sem.run_pure, Result.andThen_ok, dsk_agg, hs, hl, if_true]
theorem BoxF.box {g : Nat} {vs : List Value} {W : World} (h : BoxF g vs W) : Box g vs W := ⟨h.1, fun i hi => (h.2 i hi).1⟩
/-- five cells are stored, one by one -/
def put5 (W : World) (z : Nat) (a b c d e : Value) : World := ((((W.setCell ⟨z, 0, none⟩ a).setCell ⟨z, 1, none⟩ b).setCell ⟨z, 2, none⟩ c).setCell ⟨z, 3, none⟩ d).setCell ⟨z, 4, none⟩ e
theorem put5_box {W : World} {z : Nat} {p q r s t : Value} (h : BoxF z [p, q, r, s, t] W) (a b c d e : Value) : BoxF z [a, b, c, d, e] (put5 W z a b c d e) :=
  (((((h.set 0 (by simp) a).set 1 (by simp) b).set 2 (by simp) c).set 3 (by simp) d).set 4 (by simp) e : BoxF z ((((([p, q, r, s, t].set 0 a).set 1 b).set 2 c).set 3 d).set 4 e) _)
theorem put5_below {B : Nat} (W : World) {z : Nat} (hz : B ≤ z) (a b c d e : Value) : Below B W (put5 W z a b c d e) := (((((Below.refl B W).setCell hz _).setCell hz _).setCell hz _).setCell hz _).setCell hz _
theorem put5_other (W : World) (z : Nat) (a b c d e : Value) (k : Nat) (h : k ≠ z) : (put5 W z a b c d e).heap[k]? = W.heap[k]? := by
  unfold put5
  rw [Below.heap_setCell _ ⟨z, 4, none⟩ _ k h, Below.heap_setCell _ ⟨z, 3, none⟩ _ k h, Below.heap_setCell _ ⟨z, 2, none⟩ _ k h, Below.heap_setCell _ ⟨z, 1, none⟩ _ k h, Below.heap_setCell _ ⟨z, 0, none⟩ _ k h]
theorem put5_size (W : World) (z : Nat) (a b c d e : Value) : (put5 W z a b c d e).heap.size = W.heap.size := by simp [put5, World.setCell]
theorem RoomN.less {w : World} {B B' n k : Nat} {v : Value} {cs : List Value} (h : RoomN w B v n k cs) (hB : B' ≤ B) : RoomN w B' v n k cs := by
  obtain ⟨h0, h⟩ := h
  refine ⟨h0, h.imp id ?_⟩
  rintro ⟨g, off, cap, e, h1, h2, h3, h4⟩
  exact ⟨g, off, cap, e, h1, h2, by omega, h4⟩
theorem acts_put5 {B0 B z : Nat} {acts : List Actd} {W : World} {v : Value} {css : List (List Value)} (h1 : Cells W B0 acts css) (h2 : RoomN W B v 5 acts.length css.flatten) (h0 : B0 ≤ z) (hz : z < B) (a b c d e : Value) :
    Cells (put5 W z a b c d e) B0 acts css ∧ RoomN (put5 W z a b c d e) B v 5 acts.length css.flatten :=
  ⟨h1.below (put5_below W h0 a b c d e), h2.kept (fun g hg => put5_other W z _ _ _ _ _ g (fun e => by have := h2.own_ge g hg; omega)) (Nat.le_of_eq (put5_size W z a b c d e).symm)⟩
theorem seen_take {w : World} {B : Nat} {A : Option Addr} {n c t : Nat} {l : List UInt8} (h : Seen w B (.slice A n c) l) (ht : t ≤ l.length) : Seen w B (.slice A t c) (l.take t) := by
  obtain ⟨A', c', e, h1, h2, h3⟩ := h
  injection e with e1 _ e3
  subst e1 e3
  have hlen : (l.take t).length = t := by rw [List.length_take]; omega
  refine ⟨_, c, by rw [hlen], by rw [hlen]; omega, h2, ?_⟩
  rcases h3 with rfl | ⟨b, off, rfl, hb, hw, hr⟩
  · exact .inl (by simp)
  · exact .inr ⟨b, off, rfl, hb, hw, hr.take t⟩
theorem Falls.ret {B0 B g7 z : Nat} {acts : List Actd} {w7 W : World} {v p q r s t : Value} {css : List (List Value)} (h : FallsV B0 B g7 acts w7 W v css) (h0 : B0 ≤ z) (hz : z < B) (hbz : BoxF z [p, q, r, s, t] W) :
    (Cells (put5 W z v (.slice none 0 0) (.int .i64 0) (.bool false) (.bool false)) B0 acts css ∧ RoomN (put5 W z v (.slice none 0 0) (.int .i64 0) (.bool false) (.bool false)) z v 5 acts.length css.flatten) ∧ Box z [v, .slice none 0 0, .int .i64 0, .bool false, .bool false] (put5 W z v (.slice none 0 0) (.int .i64 0) (.bool false) (.bool false)) ∧ Below z w7 (put5 W z v (.slice none 0 0) (.int .i64 0) (.bool false) (.bool false)) :=
  ⟨⟨(acts_put5 h.2.1 h.2.2.1 h0 hz _ _ _ _ _).1, (acts_put5 h.2.1 h.2.2.1 h0 hz _ _ _ _ _).2.less (Nat.le_of_lt hz)⟩, (put5_box hbz _ _ _ _ _).box, (h.2.2.2.2.mono (Nat.le_of_lt hz)).trans (put5_below W (Nat.le_refl z) _ _ _ _ _)⟩

/-- what a crash comes to: these acts are lasting, in a row of the call's own -/
def Crashed (B0 : Nat) (w : World) (acts : List Actd) (e : Ending) (w' : World) : Prop := ∃ v css, e = .returned (.agg #[v, .slice none 0 0, .int .i64 0, .bool false, .bool false]) ∧ (Cells w' B0 acts css ∧ RoomN w' (w.heap.size + 1) v 5 acts.length css.flatten) ∧ Below w.heap.size w w'
set_option maxRecDepth 100000 in
set_option maxHeartbeats 2000000 in
theorem crash_any (d : Dskd) (sv lv : Value) (keep torn : Int) (w : World) (B0 : Nat) (h0 : B0 ≤ w.heap.size) (hl : d.liesIn w B0 (fun b => b < w.heap.size) sv lv) (hn : d.safe.length + d.loose.length ≤ 100000) :
    Calls Try.prog 27 #[.agg #[sv, lv, .int .i64 d.left, .bool d.armed, .bool d.down], .int .i64 keep, .int .i64 torn] w (Crashed B0 w (d.crash keep torn).safe) := by
  obtain ⟨j, hj, hz0, hz1, hz2⟩ := info_parts act_info
  obtain ⟨B, hB⟩ : ∃ B, B = w.heap.size + 1 + 1 := ⟨_, rfl⟩
  have hbw : Below w.heap.size w (((w.alloc (.cells #[sv, lv, .int .i64 d.left, .bool d.armed, .bool d.down] 28)).alloc (.cells #[.slice none 0 0, .slice none 0 0, .int .i64 0, .bool false, .bool false] 28)).alloc (.cells #[] 32)) := bt (bt (bal _ _) (bal _ _)) (bal _ _)
  have hs3 : (((w.alloc (.cells #[sv, lv, .int .i64 d.left, .bool d.armed, .bool d.down] 28)).alloc (.cells #[.slice none 0 0, .slice none 0 0, .int .i64 0, .bool false, .bool false] 28)).alloc (.cells #[] 32)).heap.size = B + 1 := by rw [hB]; simp
  have hsB : B ≤ (((w.alloc (.cells #[sv, lv, .int .i64 d.left, .bool d.armed, .bool d.down] 28)).alloc (.cells #[.slice none 0 0, .slice none 0 0, .int .i64 0, .bool false, .bool false] 28)).alloc (.cells #[] 32)).heap.size := by omega
  have R0 : RoomN (((w.alloc (.cells #[sv, lv, .int .i64 d.left, .bool d.armed, .bool d.down] 28)).alloc (.cells #[.slice none 0 0, .slice none 0 0, .int .i64 0, .bool false, .bool false] 28)).alloc (.cells #[] 32)) B (.slice (some ⟨w.heap.size + 1 + 1, 0, none⟩) 0 0) 5 0 [] := RoomN.empty (by omega) (by omega)
  have HD : Hid (ActsIn (((w.alloc (.cells #[sv, lv, .int .i64 d.left, .bool d.armed, .bool d.down] 28)).alloc (.cells #[.slice none 0 0, .slice none 0 0, .int .i64 0, .bool false, .bool false] 28)).alloc (.cells #[] 32)) B0 (fun b => b < w.heap.size) sv d.safe ∧ ActsIn (((w.alloc (.cells #[sv, lv, .int .i64 d.left, .bool d.armed, .bool d.down] 28)).alloc (.cells #[.slice none 0 0, .slice none 0 0, .int .i64 0, .bool false, .bool false] 28)).alloc (.cells #[] 32)) B0 (fun b => b < w.heap.size) lv d.loose) := ⟨hl.1.below hbw h0 (fun _ q _ => q), hl.2.below hbw h0 (fun _ q _ => q)⟩
  obtain ⟨c1, hc1, hsrc1⟩ := HD.out.1.src (P := Try.prog) Try.underlying22
  have HX : Hid (Box w.heap.size [sv, lv, .int .i64 d.left, .bool d.armed, .bool d.down] (((w.alloc (.cells #[sv, lv, .int .i64 d.left, .bool d.armed, .bool d.down] 28)).alloc (.cells #[.slice none 0 0, .slice none 0 0, .int .i64 0, .bool false, .bool false] 28)).alloc (.cells #[] 32))) := ((box_made w [sv, lv, .int .i64 d.left, .bool d.armed, .bool d.down] 28).on (bal _ _)).on (bal _ _)
  have HZ : Hid (BoxF (w.heap.size + 1) [.slice none 0 0, .slice none 0 0, .int .i64 0, .bool false, .bool false] (((w.alloc (.cells #[sv, lv, .int .i64 d.left, .bool d.armed, .bool d.down] 28)).alloc (.cells #[.slice none 0 0, .slice none 0 0, .int .i64 0, .bool false, .bool false] 28)).alloc (.cells #[] 32))) := by
    have := boxF_made (w.alloc (.cells #[sv, lv, .int .i64 d.left, .bool d.armed, .bool d.down] 28)) [.slice none 0 0, .slice none 0 0, .int .i64 0, .bool false, .bool false] 28
    rw [show (w.alloc (.cells #[sv, lv, .int .i64 d.left, .bool d.armed, .bool d.down] 28)).heap.size = w.heap.size + 1 by simp] at this
    exact this.on (bal _ _)
  have HBW := Lib.hid hbw
  have HBB := Lib.hid hB
  have HS3 := Lib.hid hs3
  obtain ⟨A1, n1, z1, hv1⟩ : ∃ A n c, sv = .slice A n c := by obtain ⟨A, c, _, e, _⟩ := hl.1; exact ⟨_, _, _, e⟩
  obtain ⟨A2, z2, hv2⟩ : ∃ A c, lv = .slice A d.loose.length c := by obtain ⟨A, c, _, e, _⟩ := hl.2; exact ⟨_, _, e⟩
  subst hv1 hv2
  have q1 : 0 + d.safe.length ≤ 1000000 := by omega
  have q2 : (0 + d.safe.length) * 56 ≤ 140737488355328 := by omega
  clear hl hbw hs3 hB
  go_enter Try.func27, Try.ntmps27
  go_wp2_with (at_builtin; refine wpList_appendN (B := B) (n := 5) (k := 0) (m := d.safe.length) (cs := []) (ys := c1.flatten) rfl (.tmp 10) (.tmp 12) 22 22 rfl 32 j _ 56 Try.underlying22 hj hz0 hz1 rfl hz2 R0 hsB hsrc1 hc1.flat q1 q2 rfl rfl ?_; intro v3 w3 h3 hb3 hk3 ho3; rw [Nat.zero_add, List.nil_append] at h3; obtain ⟨A3, z3, hv3, _⟩ := h3.slice; subst hv3)
  have hB3 : B ≤ w3.heap.size := Nat.le_trans hsB hb3.size
  obtain ⟨w7, hw7⟩ : ∃ x, x = (w3.alloc (.cells #[.slice A3 d.safe.length z3, .slice none 0 0, .int .i64 0, .bool false, .bool false] 28)) := ⟨_, rfl⟩
  have hb37 : Below w3.heap.size w3 w7 := by rw [hw7]; exact bal _ _
  have hBx : w.heap.size < B ∧ w.heap.size + 1 < B := by have := HBB.out; omega
  have HB37 : Hid (Below B (((w.alloc (.cells #[.slice A1 n1 z1, .slice A2 d.loose.length z2, .int .i64 d.left, .bool d.armed, .bool d.down] 28)).alloc (.cells #[.slice none 0 0, .slice none 0 0, .int .i64 0, .bool false, .bool false] 28)).alloc (.cells #[] 32)) w7) := hb3.trans (hb37.mono hB3)
  have HX7 : Hid (∀ W, Below B w7 W → W.cell? ⟨w.heap.size, 1, none⟩ = some (.slice A2 d.loose.length z2)) := fun W hb => (World.cell?_of_block (a := ⟨w.heap.size, 1, none⟩) ((HB37.out.trans hb).block _ hBx.1)).trans (HX.out.get 1 rfl)
  have HZ7 : Hid (∀ W, Below B w7 W → BoxF (w.heap.size + 1) [.slice none 0 0, .slice none 0 0, .int .i64 0, .bool false, .bool false] W) := fun W hb => HZ.out.kept ((HB37.out.trans hb).block _ hBx.2) (HB37.out.trans hb).size
  have HD7 : Hid (∀ W, Below B w7 W → ActsIn W B0 (fun b => b < w.heap.size) (.slice A2 d.loose.length z2) d.loose) := fun W hb => HD.out.2.below (HB37.out.trans hb) (by omega) (fun b q _ => by omega)
  have F0 : Falls B0 B w3.heap.size (d.safe ++ d.loose.take 0) w7 w7 := by
    rw [List.take_zero, List.append_nil]
    refine ⟨.slice A3 d.safe.length z3, c1, by rw [hw7]; exact boxF_made w3 [.slice A3 d.safe.length z3, .slice none 0 0, .int .i64 0, .bool false, .bool false] 28, hc1.below (HB37.out.mono (by omega)), h3.on hb37, fun e => absurd (h3.own_lt _ e) (Nat.lt_irrefl _), Below.refl _ _⟩
  rw [← hw7]
  have HC0 : Hid (crashA keep torn 0 d.loose = d.loose.take 0 ++ crashA keep torn 0 (d.loose.drop 0)) := by show _ = _; simp
  have HB1 : Hid (B0 ≤ B) := Nat.le_trans h0 (Nat.le_of_lt hBx.1)
  have HB2 : Hid (B ≤ w7.heap.size) := Nat.le_trans hB3 hb37.size
  have HP : Hid (Below w.heap.size w w7) := HBW.out.trans (HB37.out.mono (by omega))
  have HBX := Lib.hid hBx
  obtain ⟨g7, hg7⟩ : ∃ g, g = w3.heap.size := ⟨_, rfl⟩
  rw [← hg7] at F0 hB3 ⊢
  have HB7 := Lib.hid hB3
  clear hw7 hb37 h3 hb3 hk3 ho3 hsrc1 hc1 R0 hsB hBx hg7 HB37
  go_wp2
  go_loopw [8] (fun iv wr => ∃ k : Nat, k ≤ d.loose.length ∧ iv = .int .i64 (k : Int) ∧ Falls B0 B g7 (d.safe ++ d.loose.take k) w7 wr ∧ crashA keep torn 0 d.loose = d.loose.take k ++ crashA keep torn k (d.loose.drop k)) (fun iv _ => d.loose.length - (intOf iv).toNat)
  case atStart => exact ⟨0, Nat.zero_le _, rfl, F0, HC0.out⟩
  case round =>
    obtain ⟨k, hk, rfl, ⟨v, css, ⟨hbx, hcs, hrn, hov, hb⟩⟩, hca⟩ := hrel
    have x1 := HX7.out wr hb
    have hBr := Nat.le_trans HB2.out hb.size
    by_cases hlt : k < d.loose.length
    · obtain ⟨b, off, vb, hA2, hbw, hbB, hsb, c0, c1, c2, c3, c4⟩ := (HD7.out wr hb).at_ k hlt
      subst hA2
      obtain ⟨a, ha⟩ : ∃ a, a = d.loose[k] := ⟨_, rfl⟩
      have HDR : Hid (d.loose.drop k = a :: d.loose.drop (k + 1)) := by rw [ha]; exact List.drop_eq_getElem_cons hlt
      have HTK : Hid (d.safe ++ d.loose.take (k + 1) = (d.safe ++ d.loose.take k) ++ [a]) := by show _ = _; rw [List.take_succ_eq_append_getElem hlt, ha, List.append_assoc]
      have HTL : Hid (d.loose.take (k + 1) = d.loose.take k ++ [a]) := by show _ = _; rw [List.take_succ_eq_append_getElem hlt, ha]
      rw [← ha] at hsb c0 c1 c3 c4
      obtain ⟨acts, hacts⟩ : ∃ x, x = d.safe ++ d.loose.take k := ⟨_, rfl⟩
      have hlen : acts.length ≤ 100000 := by rw [hacts, List.length_append, List.length_take]; omega
      rw [← hacts] at HTK hcs hrn
      have HAC := Lib.hid hacts
      obtain ⟨n, hnn⟩ : ∃ n, n = acts.length := ⟨_, rfl⟩
      rw [← hnn] at hrn hlen
      have HNN := Lib.hid hnn
      obtain ⟨A5, c5, hv5, _⟩ := hrn.slice
      subst hv5
      obtain ⟨Ab, cb, hvb, hAb⟩ := hsb
      have hcb : a.b.length ≤ cb := hAb.1
      have HSB : Hid (Seen wr B0 vb a.b) := ⟨Ab, cb, hvb, hAb⟩
      have i0' : (0 : Int) ≤ (k : Int) := by omega
      have i1 : (k : Int) < (d.loose.length : Int) := by omega
      have y0 := hbx.get 0 rfl
      have HBXX := Lib.hid hbx
      have HCS := Lib.hid hcs
      have HOV := Lib.hid hov
      have HCA := Lib.hid hca
      have q3 : n + 1 ≤ 1000000 := by omega
      have q4 : (n + 1) * 56 ≤ 140737488355328 := by omega
      have hones : ∀ u ∈ a.cells vb, u.oneCell' = true := cell_one a vb HSB.out
      have hw1 : Below wr.heap.size wr (wr.alloc (.cells #[.int .u8 (a.kind.toNat : Int), .int .i64 a.area, vb, .int .i64 a.n, .int .i64 a.m] 32)) := bal _ _
      have hw2 : Below wr.heap.size wr ((wr.alloc (.cells #[.int .u8 (a.kind.toNat : Int), .int .i64 a.area, vb, .int .i64 a.n, .int .i64 a.m] 32)).alloc (.cells #[.int .u8 (a.kind.toNat : Int), .int .i64 a.area, vb, .int .i64 a.n, .int .i64 a.m] 32)) := bt hw1 (bal _ _)
      have S1 : Src Try.prog 5 22 (.slice (some ⟨wr.heap.size + 1, 0, none⟩) 1 1) 1 (a.cells vb) ((wr.alloc (.cells #[.int .u8 (a.kind.toNat : Int), .int .i64 a.area, vb, .int .i64 a.n, .int .i64 a.m] 32)).alloc (.cells #[.int .u8 (a.kind.toNat : Int), .int .i64 a.area, vb, .int .i64 a.n, .int .i64 a.m] 32)) := by
        have := srcN_one (P := Try.prog) (wr.alloc (.cells #[.int .u8 (a.kind.toNat : Int), .int .i64 a.area, vb, .int .i64 a.n, .int .i64 a.m] 32)) 5 (a.cells vb) rfl hones (e := 32) Try.underlying22
        rw [show (wr.alloc (.cells #[.int .u8 (a.kind.toNat : Int), .int .i64 a.area, vb, .int .i64 a.n, .int .i64 a.m] 32)).heap.size = wr.heap.size + 1 by simp] at this
        exact this
      have y0a : (wr.alloc (.cells #[.int .u8 (a.kind.toNat : Int), .int .i64 a.area, vb, .int .i64 a.n, .int .i64 a.m] 32)).cell? ⟨g7, 0, none⟩ = some (.slice A5 n c5) := (World.cell?_of_block (a := ⟨g7, 0, none⟩) (hw1.block g7 HBXX.out.1)).trans y0
      have hB5 := Nat.le_trans hBr hw2.size
      subst hvb
      clear ha hacts hnn hbx hcs hov hca hAb hones
      by_cases hkeep : (k : Int) < keep
      · go_wp2_with (at_builtin; refine wpList_appendN (B := B) (n := 5) (k := n) (m := 1) (cs := css.flatten) (ys := a.cells (.slice Ab a.b.length cb)) rfl (.tmp 55) (.tmp 57) 22 22 rfl 32 j _ 56 Try.underlying22 hj hz0 hz1 rfl hz2 (hrn.on hw2) hB5 S1 rfl q3 q4 rfl rfl ?_; intro v5 w5 h5 hb5 hk5 ho5; have e5 := (hk5 g7 (Nat.lt_of_lt_of_le HBXX.out.1 hw2.size) HOV.out).trans (hw2.block g7 HBXX.out.1); have z0 := (World.cell?_of_block (a := ⟨g7, 0, none⟩) e5).trans y0; have z1 := (World.frozen?_of_block (a := ⟨g7, 0, none⟩) e5).trans (HBXX.out.free 0 (by simp)); obtain ⟨A6, c6, hv6, _⟩ := h5.slice; subst hv6)
        go_roundw
        case rel =>
          refine ⟨k + 1, by omega, by go_num, ?_, ?_⟩
          · rw [HTK.out]
            have h5' : RoomN w5 B (.slice A6 (n + 1) c6) 5 (acts.length + 1) (css.flatten ++ a.cells (.slice Ab a.b.length cb)) := by rw [← HNN.out]; exact h5
            exact ⟨_, _, Falls.put HB1.out HB7.out hBr HBXX.out HCS.out HOV.out hb hw2 HSB.out h5' hb5 hk5 ho5⟩
          · rw [HCA.out, HTL.out, HDR.out, crashA_go hkeep, List.append_assoc]
            rfl
        case measure => simp [intOf]; omega
      · have hge : keep ≤ (k : Int) := by omega
        have HBA : Hid (Below B w7 (wr.alloc (.cells #[.int .u8 (a.kind.toNat : Int), .int .i64 a.area, .slice Ab a.b.length cb, .int .i64 a.n, .int .i64 a.m] 32))) := hb.trans (hw1.mono hBr)
        have HFA : Hid (FallsV B0 B g7 acts w7 (wr.alloc (.cells #[.int .u8 (a.kind.toNat : Int), .int .i64 a.area, .slice Ab a.b.length cb, .int .i64 a.n, .int .i64 a.m] 32)) (.slice A5 n c5) css) :=
          ⟨HBXX.out.on hw1, HCS.out.below (hw1.mono (Nat.le_trans HB1.out hBr)), by rw [← HNN.out]; exact hrn.on hw1, HOV.out, HBA.out⟩
        by_cases hkt : a.kind.toNat = 0 ∧ 0 < torn
        · obtain ⟨hk0, ht0⟩ := hkt
          have hk0b : ((a.kind.toNat : Int) == 0) = true := by rw [hk0]; rfl
          by_cases htl : torn < (a.b.length : Int)
          · obtain ⟨tn, rfl⟩ : ∃ t : Nat, torn = (t : Int) := ⟨torn.toNat, by omega⟩
            have htn : tn < a.b.length := by omega
            have htc : (tn : Int) ≤ (cb : Int) := by omega
            have HSC : Hid (Seen wr B0 (.slice Ab tn cb) ({ a with b := a.b.take tn } : Actd).b) := seen_take HSB.out (Nat.le_of_lt htn)
            have hq : Hid ((d.crash keep (tn : Int)).safe = acts ++ [({ a with b := a.b.take tn } : Actd)]) := by
              show d.safe ++ crashA keep (tn : Int) 0 d.loose = _
              rw [HCA.out, HDR.out, crashA_torn hge hk0 ht0, HAC.out, List.append_assoc, Int.toNat_natCast]
            have hones2 : ∀ u ∈ ({ a with b := a.b.take tn } : Actd).cells (.slice Ab tn cb), u.oneCell' = true := cell_one _ _ HSC.out
            have hx1 : Below wr.heap.size wr (wr.alloc (.cells #[.int .u8 (a.kind.toNat : Int), .int .i64 a.area, .slice Ab tn cb, .int .i64 a.n, .int .i64 a.m] 32)) := bal _ _
            have hx2 : Below wr.heap.size wr ((wr.alloc (.cells #[.int .u8 (a.kind.toNat : Int), .int .i64 a.area, .slice Ab tn cb, .int .i64 a.n, .int .i64 a.m] 32)).alloc (.cells #[.int .u8 (a.kind.toNat : Int), .int .i64 a.area, .slice Ab tn cb, .int .i64 a.n, .int .i64 a.m] 32)) := bt hx1 (bal _ _)
            have S2 : Src Try.prog 5 22 (.slice (some ⟨wr.heap.size + 1, 0, none⟩) 1 1) 1 (({ a with b := a.b.take tn } : Actd).cells (.slice Ab tn cb)) ((wr.alloc (.cells #[.int .u8 (a.kind.toNat : Int), .int .i64 a.area, .slice Ab tn cb, .int .i64 a.n, .int .i64 a.m] 32)).alloc (.cells #[.int .u8 (a.kind.toNat : Int), .int .i64 a.area, .slice Ab tn cb, .int .i64 a.n, .int .i64 a.m] 32)) := by
              have := srcN_one (P := Try.prog) (wr.alloc (.cells #[.int .u8 (a.kind.toNat : Int), .int .i64 a.area, .slice Ab tn cb, .int .i64 a.n, .int .i64 a.m] 32)) 5 (({ a with b := a.b.take tn } : Actd).cells (.slice Ab tn cb)) rfl hones2 (e := 32) Try.underlying22
              rw [show (wr.alloc (.cells #[.int .u8 (a.kind.toNat : Int), .int .i64 a.area, .slice Ab tn cb, .int .i64 a.n, .int .i64 a.m] 32)).heap.size = wr.heap.size + 1 by simp] at this
              exact this
            have y0b : (wr.alloc (.cells #[.int .u8 (a.kind.toNat : Int), .int .i64 a.area, .slice Ab tn cb, .int .i64 a.n, .int .i64 a.m] 32)).cell? ⟨g7, 0, none⟩ = some (.slice A5 n c5) := (World.cell?_of_block (a := ⟨g7, 0, none⟩) (hx1.block g7 HBXX.out.1)).trans y0
            have hB6 := Nat.le_trans hBr hx2.size
            clear hk0 S1 hw2 hB5 hones2
            go_wp2_with (at_builtin; refine wpList_appendN (B := B) (n := 5) (k := n) (m := 1) (cs := css.flatten) (ys := ({ a with b := a.b.take tn } : Actd).cells (.slice Ab tn cb)) rfl (.tmp 48) (.tmp 50) 22 22 rfl 32 j _ 56 Try.underlying22 hj hz0 hz1 rfl hz2 (hrn.on hx2) hB6 S2 rfl q3 q4 rfl rfl ?_; intro v5 w5 h5 hb5 hk5 ho5; have e5 := (hk5 g7 (Nat.lt_of_lt_of_le HBXX.out.1 hx2.size) HOV.out).trans (hx2.block g7 HBXX.out.1); have z0 := (World.cell?_of_block (a := ⟨g7, 0, none⟩) e5).trans y0; have z1 := (World.frozen?_of_block (a := ⟨g7, 0, none⟩) e5).trans (HBXX.out.free 0 (by simp)); obtain ⟨A6, c6, hv6, _⟩ := h5.slice; subst hv6; have h5' : RoomN w5 B (.slice A6 (n + 1) c6) 5 (acts.length + 1) (css.flatten ++ ({ a with b := a.b.take tn } : Actd).cells (.slice Ab tn cb)) := (by rw [← HNN.out]; exact h5); have HFB := Lib.hid (Falls.put HB1.out HB7.out hBr HBXX.out HCS.out HOV.out hb hx2 HSC.out h5' hb5 hk5 ho5); have hbz := HZ7.out _ HFB.out.2.2.2.2; have HR := Lib.hid (Falls.ret HFB.out (z := w.heap.size + 1) (by omega) HBX.out.2 hbz); have x0 := HFB.out.1.get 0 rfl; have x1 := HFB.out.1.get 1 rfl; have x2 := HFB.out.1.get 2 rfl; have x3 := HFB.out.1.get 3 rfl; have x4 := HFB.out.1.get 4 rfl; have u0 := hbz.2 0 (by simp); have u1 := hbz.2 1 (by simp); have u2 := hbz.2 2 (by simp); have u3 := hbz.2 3 (by simp); have u4 := hbz.2 4 (by simp); have HG : Hid (Below w.heap.size w _) := HP.out.trans (HR.out.2.2.mono (Nat.le_succ _)); clear hbz)
            refine bodyPost_ret (results_cell1 (p := 6) rfl rfl (load_dsk rfl HR.out.2.1)) rfl ?_
            exact ⟨_, _, rfl, by rw [hq.out]; exact HR.out.1, HG.out⟩
          · have hga : (a.b.length : Int) ≤ torn := by omega
            have HAA : Hid ({ a with b := a.b.take torn.toNat } = a) := by
              show _ = _
              have : a.b.take torn.toNat = a.b := List.take_of_length_le (by omega)
              rw [this]
            have hq : Hid ((d.crash keep torn).safe = acts ++ [a]) := by
              show d.safe ++ crashA keep torn 0 d.loose = _
              rw [HCA.out, HDR.out, crashA_torn hge hk0 ht0, HAA.out, HAC.out, List.append_assoc]
            clear hk0
            go_wp2_with (at_builtin; refine wpList_appendN (B := B) (n := 5) (k := n) (m := 1) (cs := css.flatten) (ys := a.cells (.slice Ab a.b.length cb)) rfl (.tmp 48) (.tmp 50) 22 22 rfl 32 j _ 56 Try.underlying22 hj hz0 hz1 rfl hz2 (hrn.on hw2) hB5 S1 rfl q3 q4 rfl rfl ?_; intro v5 w5 h5 hb5 hk5 ho5; have e5 := (hk5 g7 (Nat.lt_of_lt_of_le HBXX.out.1 hw2.size) HOV.out).trans (hw2.block g7 HBXX.out.1); have z0 := (World.cell?_of_block (a := ⟨g7, 0, none⟩) e5).trans y0; have z1 := (World.frozen?_of_block (a := ⟨g7, 0, none⟩) e5).trans (HBXX.out.free 0 (by simp)); obtain ⟨A6, c6, hv6, _⟩ := h5.slice; subst hv6; have h5' : RoomN w5 B (.slice A6 (n + 1) c6) 5 (acts.length + 1) (css.flatten ++ a.cells (.slice Ab a.b.length cb)) := (by rw [← HNN.out]; exact h5); have HFB := Lib.hid (Falls.put HB1.out HB7.out hBr HBXX.out HCS.out HOV.out hb hw2 HSB.out h5' hb5 hk5 ho5); have hbz := HZ7.out _ HFB.out.2.2.2.2; have HR := Lib.hid (Falls.ret HFB.out (z := w.heap.size + 1) (by omega) HBX.out.2 hbz); have x0 := HFB.out.1.get 0 rfl; have x1 := HFB.out.1.get 1 rfl; have x2 := HFB.out.1.get 2 rfl; have x3 := HFB.out.1.get 3 rfl; have x4 := HFB.out.1.get 4 rfl; have u0 := hbz.2 0 (by simp); have u1 := hbz.2 1 (by simp); have u2 := hbz.2 2 (by simp); have u3 := hbz.2 3 (by simp); have u4 := hbz.2 4 (by simp); have HG : Hid (Below w.heap.size w _) := HP.out.trans (HR.out.2.2.mono (Nat.le_succ _)); clear hbz)
            refine bodyPost_ret (results_cell1 (p := 6) rfl rfl (load_dsk rfl HR.out.2.1)) rfl ?_
            exact ⟨_, _, rfl, by rw [hq.out]; exact HR.out.1, HG.out⟩
        · have hbz := HZ7.out _ HBA.out
          have HR := Lib.hid (Falls.ret HFA.out (z := w.heap.size + 1) (by omega) HBX.out.2 hbz)
          have y0' := HFA.out.1.get 0 rfl
          have y1 := HFA.out.1.get 1 rfl
          have y2 := HFA.out.1.get 2 rfl
          have y3 := HFA.out.1.get 3 rfl
          have y4 := HFA.out.1.get 4 rfl
          have u0 := hbz.2 0 (by simp)
          have u1 := hbz.2 1 (by simp)
          have u2 := hbz.2 2 (by simp)
          have u3 := hbz.2 3 (by simp)
          have u4 := hbz.2 4 (by simp)
          have hq : Hid ((d.crash keep torn).safe = acts) := by
            show d.safe ++ crashA keep torn 0 d.loose = _
            rw [HCA.out, HDR.out, crashA_end hge hkt, List.append_nil, HAC.out]
          have HG : Hid (Below w.heap.size w _) := HP.out.trans (HR.out.2.2.mono (Nat.le_succ _))
          by_cases hk0 : a.kind.toNat = 0
          · have hk0b : ((a.kind.toNat : Int) == 0) = true := by rw [hk0]; rfl
            have ht : ¬ 0 < torn := fun h => hkt ⟨hk0, h⟩
            clear hk0 hkt hbz S1 hw2 hB5 y0 y0a hrn hb
            go_wp2
            refine bodyPost_ret (results_cell1 (p := 6) rfl rfl (load_dsk rfl HR.out.2.1)) rfl ?_
            exact ⟨_, _, rfl, by rw [hq.out]; exact HR.out.1, HG.out⟩
          · have hk0' : ¬ (a.kind.toNat : Int) = 0 := by omega
            have hk0b : ((a.kind.toNat : Int) == 0) = false := by rw [beq_eq_false_iff_ne]; exact hk0'
            clear hkt hbz S1 hw2 hB5 y0 y0a hrn hb
            go_wp2
            refine bodyPost_ret (results_cell1 (p := 6) rfl rfl (load_dsk rfl HR.out.2.1)) rfl ?_
            exact ⟨_, _, rfl, by rw [hq.out]; exact HR.out.1, HG.out⟩
    · have hkl : d.loose.take k = d.loose := List.take_of_length_le (by omega)
      have hkd : d.loose.drop k = [] := List.drop_of_length_le (by omega)
      rw [hkl, hkd] at hca
      rw [hkl] at hcs hrn
      have hbz := HZ7.out wr hb
      obtain ⟨A5, c5, hv5, _⟩ := hrn.slice
      rw [List.length_append] at hv5
      have HR := Lib.hid (Falls.ret (⟨hbx, hcs, hrn, hov, hb⟩ : FallsV B0 B g7 (d.safe ++ d.loose) w7 wr v css) (z := w.heap.size + 1) (by omega) HBX.out.2 hbz)
      have HG : Hid (Below w.heap.size w _) := HP.out.trans (HR.out.2.2.mono (Nat.le_succ _))
      have y0 := hbx.get 0 rfl
      have y1 := hbx.get 1 rfl
      have y2 := hbx.get 2 rfl
      have y3 := hbx.get 3 rfl
      have y4 := hbx.get 4 rfl
      have u0 := hbz.2 0 (by simp)
      have u1 := hbz.2 1 (by simp)
      have u2 := hbz.2 2 (by simp)
      have u3 := hbz.2 3 (by simp)
      have u4 := hbz.2 4 (by simp)
      have HCA := Lib.hid hca
      clear hbx hcs hrn hov hbz hca
      subst hv5
      go_wp2
      refine bodyPost_ret (results_cell1 (p := 6) rfl rfl (load_dsk rfl HR.out.2.1)) rfl ?_
      refine ⟨_, css, rfl, ?_, HG.out⟩
      have hq : (d.crash keep torn).safe = d.safe ++ d.loose := by
        show d.safe ++ crashA keep torn 0 d.loose = _
        rw [HCA.out]
        show d.safe ++ (d.loose ++ []) = _
        rw [List.append_nil]
      rw [hq]
      exact HR.out.1

end Go.Proofs.Ytcdobelhchlheaa
