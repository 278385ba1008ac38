/-
  Things are written: what a writer comes to; a box of cells whose fields are written one by one; numbers in a row (msg.putInts).
  Writers of fields, of operations, of entries, as writers of things; a step of a box that is written field by field (made by msg-put-gen.py).
  What msg.putMember and msg.putSeen come to (made by msg-put-gen.py).
-/
import Derived.Test.YtfikailgjmgnbaaZp16

namespace Go.Proofs.Ytfikailgjmgnbaa
open Go.RowKit Flo
attribute [local go_sem ↓] Go.wp_at_zero Go.wp_at_succ

/-- a struct's cells, wherever it stands -/
def wholeAt (W : World) (g o n : Nat) : Array Value := ((List.range n).map fun j => (W.cell? ⟨g, o + j, none⟩).getD undef).toArray
def WhAt (W : World) (g o n : Nat) : Prop := ∀ j, j < n → (W.cell? ⟨g, o + j, none⟩).isSome = true
theorem run_wholeAt {P : Program} (W : World) (g o n : Nat) (h : WhAt W g o n) : (loadCellsFrom ⟨g, o, none⟩ 0 n #[]).run P W = .ok (wholeAt W g o n) W := by
  have := run_loadCells_list (P := P) W ⟨g, o, none⟩ ((List.range n).map fun j => (W.cell? ⟨g, o + j, none⟩).getD undef) (fun j v hv => by
    obtain ⟨hj, e⟩ := List.getElem?_eq_some_iff.1 hv
    rw [List.length_map, List.length_range] at hj
    rw [Addr.add_lit]
    have h2 := h j hj
    simp only [List.getElem_map, List.getElem_range] at e
    cases hc : W.cell? ⟨g, o + j, none⟩ with
    | none => rw [hc] at h2; cases h2
    | some u => rw [hc] at e; exact congrArg some e)
  rw [List.length_map, List.length_range] at this
  simpa [loadCells, wholeAt] using this
theorem run_ldAt (T n : Nat) (hT : (Try.prog.info? T).map (·.size) = some n) (ha : ∀ W, (isAgg T).run Try.prog W = .ok true W) (W : World) (g o : Nat) (h : WhAt W g o n) : (ldT T (.pointer (some ⟨g, o, none⟩))).run Try.prog W = .ok (.agg (wholeAt W g o n)) W := by
  have hl : (loadCells ⟨g, o, none⟩ n).run Try.prog W = .ok (wholeAt W g o n) W := by simpa [loadCells] using run_wholeAt W g o n h
  obtain ⟨i, hi, hz⟩ : ∃ i, Try.prog.info? T = some i ∧ i.size = n := by
    cases hq : Try.prog.info? T with
    | none => rw [hq] at hT; cases hT
    | some i => rw [hq] at hT; exact ⟨i, rfl, Option.some.inj hT⟩
  have hs : (sizeOf T).run Try.prog W = .ok n W := by simp [sizeOf, typeInfo, hi, hz]
  unfold ldT
  simp only [Instr.loadAt, Instr.sureAddr, loadVar, Sem.run_bind, Sem.run_pure, Result.andThen_ok, ha, hs, hl, if_true]
theorem whole_cells {W : World} {g o n : Nat} {cs : List Value} (hn : cs.length = n) (h : ∀ j (hj : j < cs.length), W.cell? ⟨g, o + j, none⟩ = some cs[j]) : WhAt W g o n ∧ wholeAt W g o n = cs.toArray := by
  subst hn
  refine ⟨fun j hj => by rw [h j hj]; rfl, ?_⟩
  unfold wholeAt
  congr 1
  apply List.ext_getElem
  · simp
  · intro j h1 h2
    simp only [List.getElem_map, List.getElem_range]
    rw [h j h2]
    rfl

/-- things in memory, one behind the other -/
def ItemsA (X : Nat → Prop) (w : World) (v : Value) (K : TK) (n : Nat) (its : List Th) : Prop := ∃ A c, v = .slice A its.length c ∧ its.length ≤ c ∧ c ≤ maxLen ∧ (its = [] ∨ ∃ b off css, A = some ⟨b, off, none⟩ ∧ X b ∧ b < w.heap.size ∧ (css : List (List Value)).length = its.length ∧
  ∀ i (h : i < its.length) (h' : i < css.length), css[i].length = n ∧ K.lies X w its[i] css[i] ∧ ∀ j (hj : j < css[i].length), w.cell? ⟨b, off + i * n + j, none⟩ = some css[i][j])
theorem items_rows {X : Nat → Prop} {w : World} {v : Value} {ks : List Knd} {xs : List (List Fld)} (h : StructsX X w v ks.length (xs.map vals)) (hk : ∀ x ∈ xs, kinds x = ks) : ItemsA X w v (.row ks) ks.length (xs.map .row) := by
  obtain ⟨A, c, rfl, h1, h2, h3⟩ := h
  rw [List.length_map] at h1
  refine ⟨A, c, by rw [List.length_map, List.length_map], by rw [List.length_map]; exact h1, h2, ?_⟩
  rcases h3 with h3 | ⟨b, off, rfl, hx, hw, hr⟩
  · exact .inl (by rw [List.map_eq_nil_iff] at h3 ⊢; exact h3)
  · refine .inr ⟨b, off, xs.map vals, rfl, hx, hw, by simp, fun i hi hi' => ⟨?_, ?_, fun j hj => hr i hi' j hj⟩⟩
    · rw [List.length_map] at hi
      have := congrArg List.length (hk _ (List.getElem_mem hi))
      simpa [kinds, vals] using this
    · simp only [List.getElem_map]
      rfl
theorem items_views {X : Nat → Prop} {w : World} {v : Value} {xs : List View} (h : ViewsX X w v xs) (hk : ∀ x ∈ xs, ViewRight x) : ItemsA X w v .view 5 (xs.map .view) := by
  obtain ⟨A, c, rfl, h1, h2, h3⟩ := h
  refine ⟨A, c, by rw [List.length_map], by rw [List.length_map]; exact h1, h2, ?_⟩
  rcases h3 with h3 | ⟨b, off, rfl, hx, hw, hr⟩
  · exact .inl (by rw [List.map_eq_nil_iff]; exact h3)
  · obtain ⟨us, hus⟩ : ∃ us : List Value, us.length = xs.length ∧ ∀ i (h : i < xs.length) (h' : i < us.length), (∀ j (h' : j < (vals xs[i].1).length), w.cell? ⟨b, off + i * 5 + j, none⟩ = some (vals xs[i].1)[j]) ∧ w.cell? ⟨b, off + i * 5 + 4, none⟩ = some us[i] ∧ StructsX X w us[i] 2 (xs[i].2.map vals) := by
      refine ⟨(List.range xs.length).map fun i => (w.cell? ⟨b, off + i * 5 + 4, none⟩).getD undef, by simp, fun i hi hi' => ?_⟩
      obtain ⟨u, a1, a2, a3⟩ := hr i hi
      simp only [List.getElem_map, List.getElem_range, a2, Option.getD_some]
      exact ⟨a1, trivial, a3⟩
    refine .inr ⟨b, off, (List.range xs.length).map (fun i => (vals ((xs[i]?.getD ([], [])).1)) ++ [us[i]?.getD undef]), rfl, hx, hw, by simp, fun i hi hi' => ?_⟩
    rw [List.length_map] at hi
    have hi2 : i < us.length := by rw [hus.1]; exact hi
    obtain ⟨a1, a2, a3⟩ := hus.2 i hi hi2
    have hl4 : (vals xs[i].1).length = 4 := by
      have := congrArg List.length (hk xs[i] (List.getElem_mem hi)).1
      simpa [kinds, K4, vals] using this
    have hcs : ((List.range xs.length).map (fun i => (vals ((xs[i]?.getD ([], [])).1)) ++ [us[i]?.getD undef]))[i] = vals xs[i].1 ++ [us[i]] := by
      simp only [List.getElem_map, List.getElem_range, List.getElem?_eq_getElem hi, List.getElem?_eq_getElem hi2, Option.getD_some]
    rw [hcs]
    refine ⟨by rw [List.length_append, hl4]; rfl, ?_, fun j hj => ?_⟩
    · rw [List.getElem_map]
      exact ⟨us[i], rfl, a3⟩
    · skip
      by_cases h4 : j < (vals xs[i].1).length
      · rw [a1 j h4, List.getElem_append_left h4]
      · rw [List.length_append, List.length_singleton] at hj
        obtain rfl : j = 4 := by omega
        rw [a2, List.getElem_append_right (by omega)]
        simp [hl4]
theorem ItemsA.keep {X Y : Nat → Prop} {w w' : World} {v : Value} {K : TK} {n : Nat} {its : List Th} (h : ItemsA X w v K n its) (hk : Kept X Y w w') : ItemsA Y w' v K n its := by
  obtain ⟨A, c, rfl, h1, h2, h3⟩ := h
  refine ⟨A, c, rfl, h1, h2, h3.imp id ?_⟩
  rintro ⟨b, off, css, rfl, hx, hw, hl, hr⟩
  obtain ⟨e, hy⟩ := hk.2 b hx hw
  refine ⟨b, off, css, rfl, hy, Nat.lt_of_lt_of_le hw hk.1, hl, fun i hi hi' => ?_⟩
  obtain ⟨a1, a2, a3⟩ := hr i hi hi'
  exact ⟨a1, lies_keep a2 hk, fun j hj => (World.cell?_of_block (a := ⟨b, off + i * n + j, none⟩) e).trans (a3 j hj)⟩
theorem kept_below {B : Nat} {w w' : World} (hb : Below B w w') : Kept (· < B) (· < B) w w' := ⟨hb.size, fun b hx _ => ⟨hb.block b hx, hx⟩⟩
/-- a list's things -/
structure ListAt (K L : TK) (n : Nat) : Prop where
  items : ∀ (X : Nat → Prop) (w : World) (t : Th) (v : Value), L.is t → L.lies X w t [v] → ∃ its : List Th, its.length ≤ 4096 ∧ (∀ t ∈ its, K.is t) ∧ t.bytes = wint (its.length : Int) ++ bytesT its ∧ ItemsA X w v K n its
theorem at_rows (ks : List Knd) : ListAt (.row ks) (.list ks) ks.length := ⟨fun X w t v ht hl => by
  cases t with
  | list xs =>
    obtain ⟨u, e, hs⟩ := hl
    injection e with e _
    subst e
    exact ⟨xs.map .row, by rw [List.length_map]; exact ht.1, fun t h => (by obtain ⟨x, hx, rfl⟩ := List.mem_map.1 h; exact ht.2 x hx), by rw [bytes_rows, List.length_map]; rfl, items_rows hs fun x hx => (ht.2 x hx).1⟩
  | _ => exact ht.elim⟩
theorem at_views : ListAt .view .views 5 := ⟨fun X w t v ht hl => by
  cases t with
  | views xs =>
    obtain ⟨u, e, hs⟩ := hl
    injection e with e _
    subst e
    exact ⟨xs.map .view, by rw [List.length_map]; exact ht.1, fun t h => (by obtain ⟨x, hx, rfl⟩ := List.mem_map.1 h; exact ht.2 x hx), by rw [bytes_views, List.length_map]; rfl, items_views hs ht.2⟩
  | _ => exact ht.elim⟩

/-- what a writer of a thing comes to: the bytes behind, and what is kept -/
def AddsE (w : World) (B : Nat) (u : Value) (l m : List UInt8) (e : Ending) (w' : World) : Prop := ∃ u', e = .returned u' ∧ Adds w B u l m w' u'
def Putter (K : TK) (f : FuncId) : Prop := ∀ (w : World) (B : Nat) (u : Value) (l : List UInt8) (t : Th) (vs : List Value), K.is t → K.lies (· < B) w t vs → Room w B u l → B ≤ w.heap.size → l.length + t.bytes.length ≤ 200000000000 → Calls Try.prog f #[u, K.pack vs] w (AddsE w B u l t.bytes)

/-- some fields are written; the box of all of them stands -/
def StepT (B : Nat) (v : Value) (l : List UInt8) (g : Nat) (vs : List Value) (w1 : World) (M : List UInt8) (W : World) (u : Value) : Prop :=
  Adds w1 B v l M W u ∧ Held g vs W ∧ u.ownBlock ≠ some g ∧ B ≤ W.heap.size
theorem StepT.start {B : Nat} {v : Value} {l : List UInt8} {w : World} (vs : List Value) (T : TypeId) (hr : Room w B v l) (hB : B ≤ w.heap.size) :
    StepT B v l w.heap.size vs (w.alloc (.cells vs.toArray T)) [] (w.alloc (.cells vs.toArray T)) v :=
  ⟨Adds.refl (hr.al _), held_made w vs T, fun e => absurd (hr.own_lt _ e) (Nat.lt_irrefl _), Nat.le_trans hB (bal w _).size⟩
theorem StepT.next {B : Nat} {v : Value} {l : List UInt8} {g : Nat} {vs : List Value} {w1 : World} {M m : List UInt8} {W W' : World} {u u' : Value} (h : StepT B v l g vs w1 M W u) (ha : Adds W B u (l ++ M) m W' u') : StepT B v l g vs w1 (M ++ m) W' u' := by
  obtain ⟨h1, h2, h3, h5⟩ := h
  have hs := ha.2.1.size
  refine ⟨h1.trans ha, ⟨Nat.lt_of_lt_of_le h2.1 hs, fun i hi => (World.cell?_of_block (a := ⟨g, i, none⟩) (ha.2.2.2 g h2.1 h3)).trans (h2.2 i hi)⟩, fun e => ?_, Nat.le_trans h5 hs⟩
  rcases ha.2.2.1 g e with h | h
  · exact h3 h
  · exact absurd h2.1 (by omega)
def StepE (B : Nat) (v : Value) (l : List UInt8) (g : Nat) (vs : List Value) (w1 : World) (M : List UInt8) (e : Ending) (W' : World) : Prop := ∃ u', e = .returned u' ∧ StepT B v l g vs w1 M W' u'
theorem StepT.cell {B : Nat} {v : Value} {l : List UInt8} {g : Nat} {vs : List Value} {w1 : World} {M : List UInt8} {W : World} {u : Value} (h : StepT B v l g vs w1 M W u) (i : Nat) {x : Value} (e : vs[i]? = some x) : W.cell? ⟨g, i, none⟩ = some x := h.2.1.get i x e

set_option maxRecDepth 100000 in
set_option maxHeartbeats 1000000 in
theorem putints_any (ns : List Int) (W : World) (B b n : Nat) (u : Value) (l : List UInt8) (hn : ns.length = n) (hc : ∀ j (h : j < ns.length), W.cell? ⟨b, j, none⟩ = some (.int .i64 ns[j])) (hbw : b < W.heap.size) (hub : u.ownBlock ≠ some b) (hr : Room W B u l) (hB : B ≤ W.heap.size) (hl : l.length ≤ 200000000000) (hn2 : n ≤ 1000) (hri : ∀ m ∈ ns, (Fld.int m).right) :
    Calls Try.prog 43 #[u, .slice (some ⟨b, 0, none⟩) n n] W (AddsE W B u l (bytesOf (ns.map .int))) := by
  have HC := Lib.hid hc
  have HRI := Lib.hid hri
  have HUB := Lib.hid hub
  have HN := Lib.hid hn
  have A0 := Adds.refl hr
  clear hc hri hub hn hr
  go_enter Try.func43, Try.ntmps43
  go_wp2
  go_loopw [0, 9] (fun u' j wr => ∃ k : Nat, k ≤ n ∧ j = .int .i64 (k : Int) ∧ Adds W B u l (bytesOf ((ns.take k).map .int)) wr u' ∧ (bytesOf ((ns.take k).map Fld.int)).length ≤ 10 * k) (fun _ j _ => n - (intOf j).toNat)
  case atStart => exact ⟨0, Nat.zero_le _, rfl, A0, by simp [bytesOf]⟩
  case round =>
    obtain ⟨k, hk, rfl, ha, hlen⟩ := hrel
    by_cases hlt : k < n
    · have hlt' : k < ns.length := by rw [HN.out]; exact hlt
      obtain ⟨x, hx⟩ : ∃ x, x = ns[k] := ⟨_, rfl⟩
      have hcell := (World.cell?_of_block (a := ⟨b, k, none⟩) (ha.2.2.2 b hbw HUB.out)).trans (HC.out k hlt')
      have hri := HRI.out _ (List.getElem_mem hlt')
      have HT := Lib.hid (show bytesOf ((ns.take (k + 1)).map .int) = bytesOf ((ns.take k).map .int) ++ wint x by rw [List.take_succ_eq_append_getElem hlt', List.map_append, hx]; exact bytesOf_snoc _ _)
      rw [← hx] at hcell hri
      have hle : (wint x).length ≤ 10 := wint_le hri.1 hri.2
      have R1 := Lib.hid (fun wr u' (ha : Adds W B u l (bytesOf ((ns.take k).map .int)) wr u') => int_adds x wr B u' (l ++ bytesOf ((ns.take k).map .int)) hri.1 hri.2 ha.1 (Nat.le_trans hB ha.2.1.size) (by rw [List.length_append]; omega))
      have i0' : (0 : Int) ≤ (k : Int) := by omega
      have i1 : (k : Int) < (n : Int) := by omega
      clear hx hri
      go_wp2_with (go_at_call 71; (with_reducible refine (R1.out _ _ ha).mono ?_); rintro e w1 ⟨v1, rfl, ha1⟩)
      go_roundw
      case rel => exact ⟨k + 1, by omega, by go_num, by rw [HT.out]; exact ha.trans ha1, by rw [HT.out, List.length_append]; omega⟩
      case measure => simp [intOf]; omega
    · have hkl : Hid (ns.take k = ns) := List.take_of_length_le (by rw [HN.out]; omega)
      go_wp2
      go_ret
      rw [hkl.out] at ha
      exact ⟨_, rfl, ha⟩
theorem putints_new (ns : List Int) (W : World) (B n b : Nat) (u : Value) (l : List UInt8) (T : TypeId) (cs : Array Value) (hb : b = W.heap.size) (hcs : cs = (ns.map (Value.int .i64)).toArray) (hn : ns.length = n) (hr : Room W B u l) (hB : B ≤ W.heap.size) (hl : l.length ≤ 200000000000) (hn2 : n ≤ 1000) (hri : ∀ m ∈ ns, (Fld.int m).right) :
    Calls Try.prog 43 #[u, .slice (some ⟨b, 0, none⟩) n n] (W.alloc (.cells cs T)) (AddsE W B u l (bytesOf (ns.map .int))) := by
  subst hb hcs
  refine (putints_any ns _ B W.heap.size n u l hn (fun j hj => ?_) (by simp) (fun e => absurd (hr.own_lt _ e) (Nat.lt_irrefl _)) (hr.al _) (Nat.le_trans hB (bal _ _).size) hl hn2 hri).mono ?_
  · rw [World.cell?_alloc_new, List.getElem?_toArray, List.getElem?_map, List.getElem?_eq_getElem hj]
    rfl
  · rintro e w' ⟨u', he, ha⟩
    exact ⟨u', he, ha.ahead (bal _ _) hB⟩

end Go.Proofs.Ytfikailgjmgnbaa

namespace Go.Proofs.Ytfikailgjmgnbaa
open Go.RowKit Flo
attribute [local go_sem ↓] Go.wp_at_zero Go.wp_at_succ

theorem putter_I : Putter (.one .I) 71 := fun w B u l t vs ht hl hr hB hlen => by
  cases t with
  | fld f =>
    cases f with
    | int n => obtain rfl := hl; exact int_adds n w B u l ht.2.1 ht.2.2 hr hB (by omega)
    | _ => cases ht.1
  | _ => exact ht.elim
theorem putter_T : Putter (.one .T) 45 := fun w B u l t vs ht hl hr hB hlen => by
  cases t with
  | fld f =>
    cases f with
    | text s => obtain rfl := hl; exact text_adds s w B u l hr hB (by omega) (by have : s.size ≤ 65536 := ht.2; omega)
    | _ => cases ht.1
  | _ => exact ht.elim
theorem putter_B : Putter (.one .B) 44 := fun w B u l t vs ht hl hr hB hlen => by
  cases t with
  | fld f =>
    cases f with
    | truth b => obtain rfl := hl; exact bool_adds b w B u l hr hB (by omega)
    | _ => cases ht.1
  | _ => exact ht.elim
theorem putter_V : Putter (.one .V) 46 := fun w B u l t vs ht hl hr hB hlen => by
  cases t with
  | fld f =>
    cases f with
    | ver a b => obtain rfl := hl; exact wver_adds a b w B u l hr hB (by omega) (in_of ht.2.1) (in_of ht.2.2)
    | _ => cases ht.1
  | _ => exact ht.elim
theorem putter_O : Putter (.row KO) 47 := fun w B u l t vs ht hl hr hB hlen => by
  cases t with
  | row fs => obtain rfl := hl; exact put_writesO w B u l fs ht.1 ht.2 hr hB (by omega)
  | _ => exact ht.elim
theorem putter_E : Putter (.row KE) 49 := fun w B u l t vs ht hl hr hB hlen => by
  cases t with
  | row fs => obtain rfl := hl; exact put_writesE w B u l fs ht.1 ht.2 hr hB (by omega)
  | _ => exact ht.elim
/-- a writer of lists, which is handed a writer of things -/
def LPutter (L : TK) (f g : FuncId) : Prop := ∀ (w : World) (B : Nat) (u v : Value) (l : List UInt8) (t : Th), L.is t → L.lies (· < B) w t [v] → Room w B u l → B ≤ w.heap.size → l.length + t.bytes.length ≤ 200000000000 → Calls Try.prog f #[u, v, .func (.func g) #[] #[]] w (AddsE w B u l t.bytes)
section
variable {B : Nat} {v : Value} {l : List UInt8} {g : Nat} {vs : List Value} {w w1 : World} {M : List UInt8} {W : World} {u : Value}
theorem step_put {K : TK} {f : FuncId} (P : Putter K f) {t : Th} {cs : List Value} (h : StepT B v l g vs w1 M W u) (hw : Below B w w1) (ht : K.is t) (hl : K.lies (· < B) w t cs) (hlen : l.length + M.length + t.bytes.length ≤ 200000000000) :
    Calls Try.prog f #[u, K.pack cs] W (StepE B v l g vs w1 (M ++ t.bytes)) :=
  (P W B u (l ++ M) t cs ht (lies_keep hl (kept_below (hw.trans h.1.2.1))) h.1.1 h.2.2.2 (by rw [List.length_append]; omega)).mono fun _ _ ⟨v', he, ha⟩ => ⟨v', he, h.next ha⟩
theorem step_list {L : TK} {f q : FuncId} (P : LPutter L f q) {t : Th} {x : Value} (h : StepT B v l g vs w1 M W u) (hw : Below B w w1) (ht : L.is t) (hl : L.lies (· < B) w t [x]) (hlen : l.length + M.length + t.bytes.length ≤ 200000000000) :
    Calls Try.prog f #[u, x, .func (.func q) #[] #[]] W (StepE B v l g vs w1 (M ++ t.bytes)) :=
  (P W B u x (l ++ M) t ht (lies_keep hl (kept_below (hw.trans h.1.2.1))) h.1.1 h.2.2.2 (by rw [List.length_append]; omega)).mono fun _ _ ⟨v', he, ha⟩ => ⟨v', he, h.next ha⟩
theorem step_ints (ns : List Int) (n b : Nat) (T : TypeId) (cs : Array Value) (h : StepT B v l g vs w1 M W u) (hb : b = W.heap.size) (hcs : cs = (ns.map (Value.int .i64)).toArray) (hn : ns.length = n) (hn2 : n ≤ 1000) (hri : ∀ m ∈ ns, (Fld.int m).right) (hlen : l.length + M.length ≤ 200000000000) :
    Calls Try.prog 43 #[u, .slice (some ⟨b, 0, none⟩) n n] (W.alloc (.cells cs T)) (StepE B v l g vs w1 (M ++ bytesOf (ns.map .int))) :=
  (putints_new ns W B n b u (l ++ M) T cs hb hcs hn h.1.1 h.2.2.2 (by rw [List.length_append]; omega) hn2 hri).mono fun _ _ ⟨v', he, ha⟩ => ⟨v', he, h.next ha⟩
end

end Go.Proofs.Ytfikailgjmgnbaa

namespace Go.Proofs.Ytfikailgjmgnbaa
open Go.RowKit Flo
attribute [local go_sem ↓] Go.wp_at_zero Go.wp_at_succ

set_option maxRecDepth 100000 in
set_option maxHeartbeats 400000 in
theorem ter_M_any (a b : Int) (w : World) (B : Nat) (u : Value) (l : List UInt8) (hroom : Room w B u l) (hB : B ≤ w.heap.size) (hlen : l.length + (bytesOf [Fld.int a, Fld.int b]).length ≤ 200000000000) (r0 : (Fld.int a).right) (r1 : (Fld.int b).right) :
    Calls Try.prog 51 #[u, .agg #[.int .i64 a, .int .i64 b]] w (AddsE w B u l (bytesOf [Fld.int a, Fld.int b])) := by
  have HB := Lib.hid hB
  obtain ⟨m1, hm1⟩ : ∃ x, x = bytesOf (([a, b] : List Int).map .int) := ⟨_, rfl⟩
  have hlens : l.length + (m1.length) ≤ 200000000000 := by
    rw [hm1]
    simp only [bytesOf, List.length_append, List.length_nil, List.map_cons, List.map_nil, Fld.bytes] at hlen ⊢
    omega
  have hw1 : Below B w (w.alloc (.cells #[.int .i64 a, .int .i64 b] 73)) := (bal w _).mono hB
  have S0 := StepT.start (w := w) [.int .i64 a, .int .i64 b] 73 hroom hB
  have R1 : Hid (∀ W xw bk cz, StepT B u l w.heap.size [.int .i64 a, .int .i64 b] (w.alloc (.cells #[.int .i64 a, .int .i64 b] 73)) [] W xw → bk = W.heap.size → cz = (([a, b] : List Int).map (Value.int .i64)).toArray → Calls Try.prog 43 #[xw, .slice (some ⟨bk, 0, none⟩) 2 2] (W.alloc (.cells cz 3)) (StepE B u l w.heap.size [.int .i64 a, .int .i64 b] (w.alloc (.cells #[.int .i64 a, .int .i64 b] 73)) ([] ++ m1))) := fun W xw bk cz h hb hcs => by
    rw [hm1]
    exact step_ints [a, b] 2 bk _ cz h hb hcs rfl (by decide) (by
      intro qq hq
      simp only [List.mem_cons, List.not_mem_nil, or_false] at hq
      rcases hq with h0 | h0
      · rw [h0]; exact r0
      · rw [h0]; exact r1) (by simp only [List.length_nil]; omega)
  clear hroom hlens hw1 hlen
  have c0 := S0.cell 0 (x := .int .i64 a) rfl
  have c1 := S0.cell 1 (x := .int .i64 b) rfl
  go_enter Try.func51, Try.ntmps51
  go_wp2_with fail
  go_at_call 43
  (refine (R1.out _ _ _ _ S0 (by simp) rfl).mono ?_)
  rintro e w1 ⟨v1, rfl, S1⟩
  go_wp2
  go_ret
  refine ⟨_, rfl, ?_⟩
  have h := Adds.ahead (bal w _) HB.out S1.1
  rw [hm1] at h
  simp only [bytesOf, List.map_cons, List.map_nil, Fld.bytes, List.nil_append, List.append_nil] at h ⊢
  exact h
theorem putter_M : Putter (.row KM) 51 := fun w B u l t vs ht hl hroom hB hlen => by
  cases t with
  | row fs =>
    obtain rfl := hl
    obtain ⟨hk, hf⟩ := ht
    obtain ⟨a, b, rfl⟩ := kinds_me hk
    exact ter_M_any a b w B u l hroom hB hlen (hf _ (by simp)) (hf _ (by simp))
  | _ => exact ht.elim

set_option maxRecDepth 100000 in
set_option maxHeartbeats 400000 in
theorem ter_S_any (a b : Int) (vr : Int × Int) (c d : Int) (rs : ByteArray) (hr : Bool) (w : World) (B : Nat) (u : Value) (l : List UInt8) (hroom : Room w B u l) (hB : B ≤ w.heap.size) (hlen : l.length + (bytesOf [Fld.int a, Fld.int b, Fld.ver vr.1 vr.2, Fld.int c, Fld.int d, Fld.text rs, Fld.truth hr]).length ≤ 200000000000) (r0 : (Fld.int a).right) (r1 : (Fld.int b).right) (r2 : (Fld.ver vr.1 vr.2).right) (r3 : (Fld.int c).right) (r4 : (Fld.int d).right) (r5 : (Fld.text rs).right) (r6 : (Fld.truth hr).right) :
    Calls Try.prog 75 #[u, .agg #[.int .i64 a, .int .i64 b, ver vr.1 vr.2, .int .i64 c, .int .i64 d, .string rs, .bool hr]] w (AddsE w B u l (bytesOf [Fld.int a, Fld.int b, Fld.ver vr.1 vr.2, Fld.int c, Fld.int d, Fld.text rs, Fld.truth hr])) := by
  have HB := Lib.hid hB
  obtain ⟨m1, hm1⟩ : ∃ x, x = bytesOf (([a, b] : List Int).map .int) := ⟨_, rfl⟩
  obtain ⟨m2, hm2⟩ : ∃ x, x = (Fld.ver vr.1 vr.2).bytes := ⟨_, rfl⟩
  obtain ⟨m3, hm3⟩ : ∃ x, x = bytesOf (([c, d] : List Int).map .int) := ⟨_, rfl⟩
  obtain ⟨m4, hm4⟩ : ∃ x, x = (Fld.text rs).bytes := ⟨_, rfl⟩
  obtain ⟨m5, hm5⟩ : ∃ x, x = (Fld.truth hr).bytes := ⟨_, rfl⟩
  have hlens : l.length + (m1.length + m2.length + m3.length + m4.length + m5.length) ≤ 200000000000 := by
    rw [hm1, hm2, hm3, hm4, hm5]
    simp only [bytesOf, List.length_append, List.length_nil, List.map_cons, List.map_nil, Fld.bytes] at hlen ⊢
    omega
  have hw1 : Below B w (w.alloc (.cells #[.int .i64 a, .int .i64 b, ver vr.1 vr.2, .int .i64 c, .int .i64 d, .string rs, .bool hr] 93)) := (bal w _).mono hB
  have S0 := StepT.start (w := w) [.int .i64 a, .int .i64 b, ver vr.1 vr.2, .int .i64 c, .int .i64 d, .string rs, .bool hr] 93 hroom hB
  have R1 : Hid (∀ W xw bk cz, StepT B u l w.heap.size [.int .i64 a, .int .i64 b, ver vr.1 vr.2, .int .i64 c, .int .i64 d, .string rs, .bool hr] (w.alloc (.cells #[.int .i64 a, .int .i64 b, ver vr.1 vr.2, .int .i64 c, .int .i64 d, .string rs, .bool hr] 93)) [] W xw → bk = W.heap.size → cz = (([a, b] : List Int).map (Value.int .i64)).toArray → Calls Try.prog 43 #[xw, .slice (some ⟨bk, 0, none⟩) 2 2] (W.alloc (.cells cz 3)) (StepE B u l w.heap.size [.int .i64 a, .int .i64 b, ver vr.1 vr.2, .int .i64 c, .int .i64 d, .string rs, .bool hr] (w.alloc (.cells #[.int .i64 a, .int .i64 b, ver vr.1 vr.2, .int .i64 c, .int .i64 d, .string rs, .bool hr] 93)) ([] ++ m1))) := fun W xw bk cz h hb hcs => by
    rw [hm1]
    exact step_ints [a, b] 2 bk _ cz h hb hcs rfl (by decide) (by
      intro qq hq
      simp only [List.mem_cons, List.not_mem_nil, or_false] at hq
      rcases hq with h0 | h0
      · rw [h0]; exact r0
      · rw [h0]; exact r1) (by simp only [List.length_nil]; omega)
  have R2 : Hid (∀ W xw, StepT B u l w.heap.size [.int .i64 a, .int .i64 b, ver vr.1 vr.2, .int .i64 c, .int .i64 d, .string rs, .bool hr] (w.alloc (.cells #[.int .i64 a, .int .i64 b, ver vr.1 vr.2, .int .i64 c, .int .i64 d, .string rs, .bool hr] 93)) ([] ++ m1) W xw → Calls Try.prog 46 #[xw, ver vr.1 vr.2] W (StepE B u l w.heap.size [.int .i64 a, .int .i64 b, ver vr.1 vr.2, .int .i64 c, .int .i64 d, .string rs, .bool hr] (w.alloc (.cells #[.int .i64 a, .int .i64 b, ver vr.1 vr.2, .int .i64 c, .int .i64 d, .string rs, .bool hr] 93)) (([] ++ m1) ++ m2))) := fun W xw h => by
    have hq : m2 = (Th.bytes (.fld (.ver vr.1 vr.2))) := hm2
    rw [hq]
    exact step_put (K := .one .V) putter_V (cs := [ver vr.1 vr.2]) h hw1 (⟨rfl, r2⟩) (rfl) (by rw [← hq]; simp only [List.length_append, List.length_nil]; omega)
  have R3 : Hid (∀ W xw bk cz, StepT B u l w.heap.size [.int .i64 a, .int .i64 b, ver vr.1 vr.2, .int .i64 c, .int .i64 d, .string rs, .bool hr] (w.alloc (.cells #[.int .i64 a, .int .i64 b, ver vr.1 vr.2, .int .i64 c, .int .i64 d, .string rs, .bool hr] 93)) (([] ++ m1) ++ m2) W xw → bk = W.heap.size → cz = (([c, d] : List Int).map (Value.int .i64)).toArray → Calls Try.prog 43 #[xw, .slice (some ⟨bk, 0, none⟩) 2 2] (W.alloc (.cells cz 3)) (StepE B u l w.heap.size [.int .i64 a, .int .i64 b, ver vr.1 vr.2, .int .i64 c, .int .i64 d, .string rs, .bool hr] (w.alloc (.cells #[.int .i64 a, .int .i64 b, ver vr.1 vr.2, .int .i64 c, .int .i64 d, .string rs, .bool hr] 93)) ((([] ++ m1) ++ m2) ++ m3))) := fun W xw bk cz h hb hcs => by
    rw [hm3]
    exact step_ints [c, d] 2 bk _ cz h hb hcs rfl (by decide) (by
      intro qq hq
      simp only [List.mem_cons, List.not_mem_nil, or_false] at hq
      rcases hq with h0 | h0
      · rw [h0]; exact r3
      · rw [h0]; exact r4) (by simp only [List.length_append, List.length_nil]; omega)
  have R4 : Hid (∀ W xw, StepT B u l w.heap.size [.int .i64 a, .int .i64 b, ver vr.1 vr.2, .int .i64 c, .int .i64 d, .string rs, .bool hr] (w.alloc (.cells #[.int .i64 a, .int .i64 b, ver vr.1 vr.2, .int .i64 c, .int .i64 d, .string rs, .bool hr] 93)) ((([] ++ m1) ++ m2) ++ m3) W xw → Calls Try.prog 45 #[xw, .string rs] W (StepE B u l w.heap.size [.int .i64 a, .int .i64 b, ver vr.1 vr.2, .int .i64 c, .int .i64 d, .string rs, .bool hr] (w.alloc (.cells #[.int .i64 a, .int .i64 b, ver vr.1 vr.2, .int .i64 c, .int .i64 d, .string rs, .bool hr] 93)) (((([] ++ m1) ++ m2) ++ m3) ++ m4))) := fun W xw h => by
    have hq : m4 = (Th.bytes (.fld (.text rs))) := hm4
    rw [hq]
    exact step_put (K := .one .T) putter_T (cs := [.string rs]) h hw1 (⟨rfl, r5⟩) (rfl) (by rw [← hq]; simp only [List.length_append, List.length_nil]; omega)
  have R5 : Hid (∀ W xw, StepT B u l w.heap.size [.int .i64 a, .int .i64 b, ver vr.1 vr.2, .int .i64 c, .int .i64 d, .string rs, .bool hr] (w.alloc (.cells #[.int .i64 a, .int .i64 b, ver vr.1 vr.2, .int .i64 c, .int .i64 d, .string rs, .bool hr] 93)) (((([] ++ m1) ++ m2) ++ m3) ++ m4) W xw → Calls Try.prog 44 #[xw, .bool hr] W (StepE B u l w.heap.size [.int .i64 a, .int .i64 b, ver vr.1 vr.2, .int .i64 c, .int .i64 d, .string rs, .bool hr] (w.alloc (.cells #[.int .i64 a, .int .i64 b, ver vr.1 vr.2, .int .i64 c, .int .i64 d, .string rs, .bool hr] 93)) ((((([] ++ m1) ++ m2) ++ m3) ++ m4) ++ m5))) := fun W xw h => by
    have hq : m5 = (Th.bytes (.fld (.truth hr))) := hm5
    rw [hq]
    exact step_put (K := .one .B) putter_B (cs := [.bool hr]) h hw1 (⟨rfl, r6⟩) (rfl) (by rw [← hq]; simp only [List.length_append, List.length_nil]; omega)
  clear hroom hlens hw1 hlen
  have c0 := S0.cell 0 (x := .int .i64 a) rfl
  have c1 := S0.cell 1 (x := .int .i64 b) rfl
  go_enter Try.func75, Try.ntmps75
  go_wp2_with fail
  go_at_call 43
  (refine (R1.out _ _ _ _ S0 (by simp) rfl).mono ?_)
  rintro e w1 ⟨v1, rfl, S1⟩
  clear c0 c1
  have c2 := S1.cell 2 (x := ver vr.1 vr.2) rfl
  go_wp2_with (first
    | (go_at_call 46; (with_reducible refine (R2.out _ _ S1).mono ?_); rintro e w2 ⟨v2, rfl, S2⟩; clear c2; have c3 := S2.cell 3 (x := .int .i64 c) rfl; have c4 := S2.cell 4 (x := .int .i64 d) rfl)
    | (go_at_call 43; (refine (R3.out _ _ _ _ S2 (by simp) rfl).mono ?_); rintro e w3 ⟨v3, rfl, S3⟩; clear c3 c4; have c5 := S3.cell 5 (x := .string rs) rfl)
    | (go_at_call 45; (with_reducible refine (R4.out _ _ S3).mono ?_); rintro e w4 ⟨v4, rfl, S4⟩; clear c5; have c6 := S4.cell 6 (x := .bool hr) rfl)
    | (go_at_call 44; (with_reducible refine (R5.out _ _ S4).mono ?_); rintro e w5 ⟨v5, rfl, S5⟩))
  go_ret
  refine ⟨_, rfl, ?_⟩
  have h := Adds.ahead (bal w _) HB.out S5.1
  rw [hm1, hm2, hm3, hm4, hm5] at h
  simp only [bytesOf, List.map_cons, List.map_nil, Fld.bytes, List.nil_append, List.append_nil, List.append_assoc] at h ⊢
  exact h
theorem putter_S : Putter (.row KS) 75 := fun w B u l t vs ht hl hroom hB hlen => by
  cases t with
  | row fs =>
    obtain rfl := hl
    obtain ⟨hk, hf⟩ := ht
    obtain ⟨a, b, vr, c, d, rs, hr, rfl⟩ := kinds_se hk
    exact ter_S_any a b vr c d rs hr w B u l hroom hB hlen (hf _ (by simp)) (hf _ (by simp)) (hf _ (by simp)) (hf _ (by simp)) (hf _ (by simp)) (hf _ (by simp)) (hf _ (by simp))
  | _ => exact ht.elim

end Go.Proofs.Ytfikailgjmgnbaa
