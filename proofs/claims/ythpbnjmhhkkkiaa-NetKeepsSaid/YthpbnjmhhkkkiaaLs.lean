/-
  A row of structs of three cells in a block of the call's own: cells stored, structs moved, the tail cleared; bytes of the call's own, appended to in place (no program).
-/
import Derived.Test.YthpbnjmhhkkkiaaPx
import Derived.Lib.SliceRun
import Derived.Laws.MakeOwn
namespace Go.Proofs.Ythpbnjmhhkkkiaa
open Go.RowKit

structure Lst (w : World) (g off cap : Nat) (css : List (List Value)) : Prop where
  lt : g < w.heap.size
  le : css.length ≤ cap
  max : cap ≤ maxLen
  three : ∀ c ∈ css, c.length = 3
  row : ∀ i (h : i < css.length) j u, css[i][j]? = some u → w.cell? ⟨g, off + i * 3 + j, none⟩ = some u
  open_ : ∀ j, j < cap * 3 → (w.cell? ⟨g, off + j, none⟩).isSome = true ∧ w.frozen? ⟨g, off + j, none⟩ = false

theorem Lst.kept {w w' : World} {g off cap : Nat} {css : List (List Value)} (h : Lst w g off cap css) (e : w'.heap[g]? = w.heap[g]?) (hs : w.heap.size ≤ w'.heap.size) : Lst w' g off cap css :=
  ⟨Nat.lt_of_lt_of_le h.lt hs, h.le, h.max, h.three, fun i hi j u hu => (World.cell?_of_block (a := ⟨g, off + i * 3 + j, none⟩) e).trans (h.row i hi j u hu),
    fun j hj => by rw [World.cell?_of_block (a := ⟨g, off + j, none⟩) e, World.frozen?_of_block (a := ⟨g, off + j, none⟩) e]; exact h.open_ j hj⟩
theorem Lst.on {w w' : World} {g off cap : Nat} {css : List (List Value)} (h : Lst w g off cap css) (hb : Below w.heap.size w w') : Lst w' g off cap css := h.kept (hb.block g h.lt) hb.size
theorem Lst.rowV {w : World} {g off cap : Nat} {css : List (List Value)} (h : Lst w g off cap css) : RowV w g off css.flatten := by
  intro q hq
  obtain ⟨hl, hf⟩ := flat_at css h.three
  have hq' : q < css.length * 3 := by rw [← hl]; exact hq
  have hi : q / 3 < css.length := by omega
  have h3 : css[q / 3].length = 3 := h.three _ (List.getElem_mem hi)
  have hj : q % 3 < css[q / 3].length := by omega
  have e := hf (q / 3) hi (q % 3) hj
  rw [show q / 3 * 3 + q % 3 = q by omega, List.getElem?_eq_getElem hq] at e
  have := h.row (q / 3) hi (q % 3) _ (List.getElem?_eq_getElem hj)
  rw [Nat.add_assoc, show q / 3 * 3 + q % 3 = q by omega] at this
  rw [this]
  exact e.symm
theorem Lst.room {w : World} {B g off cap : Nat} {css : List (List Value)} (h : Lst w g off cap css) (hB : B ≤ g) : RoomN w B (.slice (some ⟨g, off, none⟩) css.length cap) 3 css.length css.flatten := by
  refine ⟨(flat_at css h.three).1, .inr ⟨g, off, cap, rfl, h.le, h.max, hB, h.lt, h.rowV, fun j hj => (h.open_ j ?_).2, fun j _ hj => h.open_ j hj⟩⟩
  have := Nat.mul_le_mul_right 3 h.le
  omega
theorem lst_of {w : World} {B g off k cap : Nat} {css : List (List Value)} (h : RoomN w B (.slice (some ⟨g, off, none⟩) k cap) 3 k css.flatten) (hc : css.length = k) (h3 : ∀ c ∈ css, c.length = 3) : B ≤ g ∧ Lst w g off cap css := by
  obtain ⟨h0, h | ⟨g', off', cap', e, h1, h2, hB, h4, h5, h6, h7⟩⟩ := h
  · cases h.1
  injection e with e1 _ e3
  injection e1 with e1
  injection e1 with e1 e2
  subst e1 e2 e3
  refine ⟨hB, h4, by omega, h2, h3, fun i hi j u hu => ?_, fun j hj => ?_⟩
  · obtain ⟨hj, e⟩ := List.getElem?_eq_some_iff.1 hu
    have := (flat_at css h3).2 i hi j hj
    obtain ⟨hq, e'⟩ := List.getElem?_eq_some_iff.1 this
    rw [Nat.add_assoc, h5 _ hq, e', e]
  · by_cases hlt : j < k * 3
    · have hq : j < css.flatten.length := by omega
      exact ⟨by rw [h5 j hq]; rfl, h6 j hlt⟩
    · exact h7 j (by omega) hj
theorem Lst.at_ {w : World} {g off cap : Nat} {css : List (List Value)} (h : Lst w g off cap css) (i : Nat) (hi : i < css.length) (j : Nat) (hj : j < 3) : w.frozen? ⟨g, off + i * 3 + j, none⟩ = false := by
  have h1 := h.le
  have := (h.open_ (i * 3 + j) (by omega)).2
  rw [← Nat.add_assoc] at this
  exact this

/-- cells of the row overwritten, by whatever: the row of the structs that still stand, or stand there now -/
theorem Lst.over {w w' : World} {g off cap : Nat} {css ds : List (List Value)} (h : Lst w g off cap css) (o : Nat) (vs : List Value) (hw : w' = w.setCells g (off + o) vs) (hd : ds.length ≤ cap) (h3 : ∀ c ∈ ds, c.length = 3) (hin : o + vs.length ≤ cap * 3)
    (hr : ∀ i (hi : i < ds.length) j u, ds[i][j]? = some u → (o ≤ i * 3 + j ∧ i * 3 + j < o + vs.length ∧ vs[i * 3 + j - o]? = some u) ∨ ((i * 3 + j < o ∨ o + vs.length ≤ i * 3 + j) ∧ ∃ hi' : i < css.length, css[i][j]? = some u)) : Lst w' g off cap ds := by
  subst hw
  have hcell : ∀ j, j < vs.length → (w.cell? ⟨g, off + o + j, none⟩).isSome = true := fun j hj => by rw [Nat.add_assoc]; exact (h.open_ (o + j) (by omega)).1
  refine ⟨by rw [(World.tape_setCells g _ _ w).2]; exact h.lt, hd, h.max, h3, fun i hi j u hu => ?_, fun j hj => ?_⟩
  · rcases hr i hi j u hu with ⟨a, b, e⟩ | ⟨a, hi', e⟩
    · obtain ⟨hq, e⟩ := List.getElem?_eq_some_iff.1 e
      have := World.cell?_setCells_in g vs (off + o) w hcell _ hq
      rw [show off + o + (i * 3 + j - o) = off + i * 3 + j by omega] at this
      rw [this, e]
    · rw [World.cell?_setCells_out g _ _ _ _ (fun _ _ => by show off + i * 3 + j < _ ∨ _ ≤ off + i * 3 + j; omega)]
      exact h.row i hi' j u e
  · rw [World.frozen?_setCells]
    refine ⟨?_, (h.open_ j hj).2⟩
    by_cases hin' : o ≤ j ∧ j < o + vs.length
    · have := World.cell?_setCells_in g vs (off + o) w hcell (j - o) (by omega)
      rw [show off + o + (j - o) = off + j by omega] at this
      rw [this]; rfl
    · rw [World.cell?_setCells_out g _ _ _ _ (fun _ _ => by show off + j < _ ∨ _ ≤ off + j; omega)]
      exact (h.open_ j hj).1
theorem Lst.take {w : World} {g off cap : Nat} {css : List (List Value)} (h : Lst w g off cap css) (k : Nat) : Lst w g off cap (css.take k) :=
  ⟨h.lt, by have := h.le; rw [List.length_take]; omega, h.max, fun c hc => h.three c (List.mem_of_mem_take hc), fun i hi j u hu => by
    rw [List.getElem_take] at hu
    exact h.row i (by rw [List.length_take] at hi; omega) j u hu, h.open_⟩
/-- behind the last one whatever is written -/
theorem Lst.tail {w : World} {g off cap : Nat} {css : List (List Value)} (h : Lst w g off cap css) (o : Nat) (vs : List Value) (ho : css.length * 3 ≤ o) (hin : o + vs.length ≤ cap * 3) : Lst (w.setCells g (off + o) vs) g off cap css :=
  h.over o vs rfl h.le h.three hin fun i hi j u hu => .inr ⟨.inl (by
    have h3 := h.three _ (List.getElem_mem hi)
    have hj := (List.getElem?_eq_some_iff.1 hu).1
    omega), hi, hu⟩
/-- one cell of one struct -/
theorem Lst.set1 {w : World} {g off cap : Nat} {css : List (List Value)} (h : Lst w g off cap css) (i : Nat) (hi : i < css.length) (j : Nat) (hj : j < 3) (u : Value) : Lst (w.setCell ⟨g, off + i * 3 + j, none⟩ u) g off cap (css.set i (css[i].set j u)) := by
  have hc := h.le
  have h3i := h.three _ (List.getElem_mem hi)
  refine h.over (i * 3 + j) [u] (by simp [World.setCells, Nat.add_assoc]) (by simpa using hc) (fun c hc' => ?_) (by simp; omega) fun k hk m x hx => ?_
  · rcases List.mem_or_eq_of_mem_set hc' with h' | rfl
    · exact h.three c h'
    · rw [List.length_set]; exact h3i
  · rw [List.length_set] at hk
    have hm := (List.getElem?_eq_some_iff.1 hx).1
    by_cases e : i = k
    · subst e
      rw [List.getElem_set_self] at hx hm
      rw [List.length_set] at hm
      by_cases e2 : j = m
      · subst e2
        rw [List.getElem?_set_self (by omega)] at hx
        exact .inl ⟨Nat.le_refl _, by simp, by simpa using hx⟩
      · rw [List.getElem?_set_ne e2] at hx
        exact .inr ⟨by simp; omega, hi, hx⟩
    · rw [List.getElem_set_ne e] at hx hm
      have h3k := h.three _ (List.getElem_mem hk)
      exact .inr ⟨by simp; omega, hk, hx⟩
/-- one struct overwritten -/
theorem Lst.set3 {w : World} {g off cap : Nat} {css : List (List Value)} (h : Lst w g off cap css) (i : Nat) (hi : i < css.length) (a b c : Value) :
    Lst (((w.setCell ⟨g, off + i * 3, none⟩ a).setCell ⟨g, off + i * 3 + 1, none⟩ b).setCell ⟨g, off + i * 3 + 2, none⟩ c) g off cap (css.set i [a, b, c]) := by
  have hc := h.le
  refine h.over (i * 3) [a, b, c] (by simp [World.setCells, Nat.add_assoc]) (by simpa using hc) (fun c hc' => ?_) (by simp; omega) fun k hk m x hx => ?_
  · rcases List.mem_or_eq_of_mem_set hc' with h' | rfl
    · exact h.three c h'
    · rfl
  · rw [List.length_set] at hk
    have hm := (List.getElem?_eq_some_iff.1 hx).1
    by_cases e : i = k
    · subst e
      rw [List.getElem_set_self] at hx hm
      have hm' : m < 3 := hm
      refine .inl ⟨by omega, by simp; omega, ?_⟩
      rw [show i * 3 + m - i * 3 = m by omega]; exact hx
    · rw [List.getElem_set_ne e] at hx hm
      have h3k := h.three _ (List.getElem_mem hk)
      exact .inr ⟨by simp; omega, hk, hx⟩
/-- the structs behind one are moved over it -/
theorem Lst.delete {w : World} {g off cap : Nat} {css : List (List Value)} (h : Lst w g off cap css) (a : Nat) (ha : a < css.length) : Lst (w.setCells g (off + a * 3) (css.drop (a + 1)).flatten) g off cap (css.eraseIdx a) := by
  have hc := h.le
  have hd3 : ∀ c ∈ css.drop (a + 1), c.length = 3 := fun c hc' => h.three c (List.mem_of_mem_drop hc')
  obtain ⟨hl, hf⟩ := flat_at _ hd3
  rw [List.length_drop] at hl
  have he := List.length_eraseIdx_of_lt ha
  refine h.over (a * 3) _ rfl (by omega) (fun c hc' => h.three c (List.mem_of_mem_eraseIdx hc')) (by omega) fun k hk m x hx => ?_
  have hm := (List.getElem?_eq_some_iff.1 hx).1
  by_cases e : k < a
  · rw [List.getElem_eraseIdx_of_lt _ e] at hx hm
    have h3k := h.three _ (List.getElem_mem (show k < css.length by omega))
    exact .inr ⟨by omega, by omega, hx⟩
  · rw [List.getElem_eraseIdx_of_ge _ (by omega)] at hx hm
    have h3k := h.three _ (List.getElem_mem (show k + 1 < css.length by omega))
    refine .inl ⟨by omega, by omega, ?_⟩
    have hkd : k - a < (css.drop (a + 1)).length := by rw [List.length_drop]; omega
    have hg : (css.drop (a + 1))[k - a] = css[k + 1]'(by omega) := by
      rw [List.getElem_drop]
      congr 1
      omega
    have := hf (k - a) hkd m (by rw [hg]; exact hm)
    rw [show k * 3 + m - a * 3 = (k - a) * 3 + m by omega, this, ← hx, List.getElem?_eq_getElem hm]
    simp only [hg]

/-- 'clear' of structs of three cells: their cells are overwritten -/
theorem run_clear3 {P : Program} (w : World) (t e : TypeId) (a b c : Value) (ht : P.underlying t = some (.slice e)) (hv : ∀ w, (zeroValue e).run P w = .ok (.agg #[a, b, c]) w) (ha : a.oneCell' = true) (hb : b.oneCell' = true) (hc' : c.oneCell' = true) (hz : (Value.agg #[a, b, c]).cells = #[a, b, c]) (g o n cp : Nat)
    (hc : ∀ j, j < n * 3 → (w.cell? ⟨g, o + j, none⟩).isSome = true) (hf : ∀ j, j < n * 3 → w.frozen? ⟨g, o + j, none⟩ = false) :
    ∃ vs : List Value, vs.length = n * 3 ∧ ∀ ty, (Builtin.clear_ #[t] ty #[.slice (some ⟨g, o, none⟩) n cp]).run P w = .ok (.tuple #[]) (w.setCells g o vs) := by
  rcases Nat.eq_zero_or_pos n with rfl | hn
  · exact ⟨[], rfl, fun ty => by simp [Builtin.clear_, run_underlying ht, World.setCells]⟩
  have hl : (Builtin.zeroCells (Value.agg #[a, b, c]).cells n).toList.length = n * 3 := by
    rw [Array.length_toList, size_zeroCells, hz]; rfl
  have h1 : ∀ v ∈ (Builtin.zeroCells (Value.agg #[a, b, c]).cells n).toList, v.oneCell' = true := by
    intro v hv'
    rw [hz] at hv'
    simp only [Builtin.zeroCells, Array.toList_map, List.mem_map] at hv'
    obtain ⟨i, _, rfl⟩ := hv'
    have : i % 3 < 3 := Nat.mod_lt _ (by omega)
    show (#[a, b, c][i % 3]!).oneCell' = true
    match i % 3, this with
    | 0, _ => exact ha
    | 1, _ => exact hb
    | 2, _ => exact hc'
  have hst := run_storeCells_cells (P := P) g o (Builtin.zeroCells (Value.agg #[a, b, c]).cells n).toList 0 w (by simpa [hl] using hc) (by simpa [hl] using hf) h1
  simp only [Nat.add_zero] at hst
  refine ⟨_, hl, fun ty => ?_⟩
  obtain ⟨m, rfl⟩ : ∃ m, n = m + 1 := ⟨n - 1, by omega⟩
  simp [Builtin.clear_, run_underlying ht, hv, hst]

/-- bytes of the call's own in one block, with room behind them -/
structure Tight (w : World) (g cap : Nat) (l : List UInt8) : Prop where
  lt : g < w.heap.size
  le : l.length ≤ cap
  max : cap ≤ maxLen
  row : Row w g 0 l
  open_ : ∀ j, j < cap → (w.cell? ⟨g, j, none⟩).isSome = true ∧ w.frozen? ⟨g, j, none⟩ = false
theorem Tight.kept {w w' : World} {g cap : Nat} {l : List UInt8} (h : Tight w g cap l) (e : w'.heap[g]? = w.heap[g]?) (hs : w.heap.size ≤ w'.heap.size) : Tight w' g cap l :=
  ⟨Nat.lt_of_lt_of_le h.lt hs, h.le, h.max, h.row.congr e, fun j hj => by rw [World.cell?_of_block (a := ⟨g, j, none⟩) e, World.frozen?_of_block (a := ⟨g, j, none⟩) e]; exact h.open_ j hj⟩
theorem Tight.on {w w' : World} {g cap : Nat} {l : List UInt8} (h : Tight w g cap l) (hb : Below w.heap.size w w') : Tight w' g cap l := h.kept (hb.block g h.lt) hb.size
theorem tight_made (w : World) (cap : Nat) (z : Value) (e : TypeId) (hm : cap ≤ maxLen) : Tight (w.alloc (.cells (madeCells #[z] cap) e)) w.heap.size cap [] :=
  ⟨by simp, Nat.zero_le _, hm, (fun j hj => by cases hj), fun j hj => by
    rw [World.cell?_alloc_new, World.frozen?_alloc_new, Array.getElem?_eq_getElem (by rw [size_madeCells]; exact hj)]; exact ⟨rfl, rfl⟩⟩
theorem run_appendT {P : Program} {w : World} {g cap : Nat} {x : Value} {l m : List UInt8} (t tx ty e : TypeId) (i : TypeInfo) (ht : P.underlying t = some (.slice e)) (hi : P.info? e = some i) (h1 : i.size = 1)
    (hr : Tight w g cap l) (hs : Src P 1 tx x m.length (c8 m) w) (hl : l.length + m.length ≤ cap) :
    ∃ w', (Builtin.append_ #[t, tx] ty #[.slice (some ⟨g, 0, none⟩) l.length cap, x]).run P w = .ok (.slice (some ⟨g, 0, none⟩) (l ++ m).length cap) w' ∧ Tight w' g cap (l ++ m) ∧ (∀ B, B ≤ g → Below B w w') ∧ (∀ k, k ≠ g → w'.heap[k]? = w.heap[k]?) := by
  have hs' : Src P i.size tx x m.length (c8 m) w := by rw [h1]; exact hs
  have hcell : ∀ j, j < (c8 m).length → (w.cell? ⟨g, 0 + l.length + j, none⟩).isSome = true := fun j hj => by
    rw [c8_length] at hj
    rw [show 0 + l.length + j = l.length + j by omega]; exact (hr.open_ _ (by omega)).1
  have hrun := run_append_room_src (P := P) w t tx ty e i ht hi g 0 l.length cap x m.length (c8 m) hs' hl (by rw [h1, Nat.mul_one]; exact hcell)
    (by rw [h1, Nat.mul_one]; intro j hj; rw [c8_length] at hj; rw [show 0 + l.length + j = l.length + j by omega]; exact (hr.open_ _ (by omega)).2)
  rw [h1, Nat.mul_one, ← List.length_append] at hrun
  refine ⟨_, hrun, ⟨by rw [(World.tape_setCells g _ _ w).2]; exact hr.lt, by rw [List.length_append]; exact hl, hr.max, fun j hj => ?_, fun j hj => ?_⟩, fun B hB => below_setCells hB _ _, fun k hk => heap_setCells g _ _ w k hk⟩
  · rw [List.length_append] at hj
    by_cases hjl : j < l.length
    · rw [World.cell?_setCells_out g _ _ _ _ (fun _ _ => .inl (by show 0 + j < _; omega)), hr.row j hjl, List.getElem_append_left hjl]
    · have hin := World.cell?_setCells_in g (c8 m) (0 + l.length) w hcell (j - l.length) (by rw [c8_length]; omega)
      rw [show 0 + l.length + (j - l.length) = 0 + j by omega] at hin
      rw [hin, List.getElem_append_right (by omega)]
      simp [c8]
  · rw [World.frozen?_setCells]
    refine ⟨?_, (hr.open_ j hj).2⟩
    by_cases hin' : l.length ≤ j ∧ j < l.length + m.length
    · have := World.cell?_setCells_in g (c8 m) (0 + l.length) w hcell (j - l.length) (by rw [c8_length]; omega)
      rw [show 0 + l.length + (j - l.length) = j by omega] at this
      rw [this]; rfl
    · rw [World.cell?_setCells_out g _ _ _ _ (fun _ _ => by rw [c8_length]; show j < _ ∨ _ ≤ j; omega)]
      exact (hr.open_ j hj).1
theorem wpList_appendT {P : Program} {w : World} {g cap p : Nat} {xv : Value} {l m : List UInt8} {ops : Array Oper} {rest : List Oper} {o : Oper} {a : Act} {Q : Exit → Act → World → Prop} (hgd : o.guard = none) (s x : Operand) (t tx : TypeId)
    (ho : o.op = .call { callee := .builtin .append, args := #[s, x], argTypes := #[t, tx] })
    (e : TypeId) (i : TypeInfo) (ht : P.underlying t = some (.slice e)) (hi : P.info? e = some i) (h1 : i.size = 1)
    (hr : Tight w g cap l) (hs : Src P 1 tx xv m.length (c8 m) w) (hp : p = l.length) (hl : l.length + m.length ≤ cap) (hv : a.eval s = .slice (some ⟨g, 0, none⟩) p cap) (hx : a.eval x = xv)
    (h : ∀ w' n, n = p + m.length → Tight w' g cap (l ++ m) → (∀ B, B ≤ g → Below B w w') → (∀ k, k ≠ g → w'.heap[k]? = w.heap[k]?) → wpList P ops Q rest (a.put o.dst (.slice (some ⟨g, 0, none⟩) n cap)) w') : wpList P ops Q (o :: rest) a w := by
  subst hp
  refine wpList_plain hgd fun K hK => ?_
  obtain ⟨w', hrun, h2, h3, h4⟩ := run_appendT (P := P) t tx o.type e i ht hi h1 hr hs hl
  unfold Oper.wp execOp
  simp only [ho, resolve, invoke, builtin, Sem.run_bind, Sem.run_pure, Result.andThen_ok, List.map_toArray, List.map_cons, List.map_nil, hv, hx, hrun]
  exact hK _ _ (h w' _ List.length_append h2 h3 h4)

end Go.Proofs.Ythpbnjmhhkkkiaa
