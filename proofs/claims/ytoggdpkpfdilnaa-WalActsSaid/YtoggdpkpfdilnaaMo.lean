/-
  append, and what has become of the slice that was appended to.
-/
import Derived.Test.YtoggdpkpfdilnaaMem
namespace Go.Proofs.Ytoggdpkpfdilnaa
open Go.RowKit

/-- the new slice begins where the old one does, or it lies in a new block and nothing that was there has turned -/
def Grown (w w' : World) (v v' : Value) : Prop := (∃ A n c n' c', v = .slice A n c ∧ v' = .slice A n' c') ∨ (Below w.heap.size w w' ∧ ∀ g, v'.ownBlock = some g → w.heap.size ≤ g)

/-- append: what it leaves, and where the old slice stands -/
theorem run_append8o {P : Program} {w : World} {B : Nat} {v x : Value} {l m : List UInt8} (t tx ty e : TypeId) (i : TypeInfo) (ht : P.underlying t = some (.slice e)) (hi : P.info? e = some i) (hz : i.zero = some (.int .u8 0)) (h1 : i.size = 1) (hy : i.bytes = 1)
    (hr : Room w B v l) (hB : B ≤ w.heap.size) (hs : Src P 1 tx x m.length (c8 m) w) (hl : l.length + m.length ≤ 1099511627776) :
    ∃ v' w', (Builtin.append_ #[t, tx] ty #[v, x]).run P w = .ok v' w' ∧ Room w' B v' (l ++ m) ∧ Below B w w' ∧ (∀ g, v'.ownBlock = some g → v.ownBlock = some g ∨ w.heap.size ≤ g) ∧ (∀ k, k < w.heap.size → v.ownBlock ≠ some k → w'.heap[k]? = w.heap[k]?) ∧ Grown w w' v v' := by
  have hs' : Src P i.size tx x m.length (c8 m) w := by rw [h1]; exact hs
  rcases Nat.eq_zero_or_pos m.length with hm | hm
  · have hm' : m = [] := List.eq_nil_of_length_eq_zero hm
    subst hm'
    obtain ⟨A, c, rfl, hle, _⟩ := hr.seen
    exact ⟨_, _, run_append_nothing (P := P) w t tx ty e i ht hi A l.length c hle x hs', by rw [List.append_nil]; exact hr, Below.refl _ _, fun _ h => .inl h, fun _ _ _ => rfl, .inl ⟨_, _, _, _, _, rfl, rfl⟩⟩
  · -- a new row
    have grow : ∀ (bs : Option Addr) (sc : Nat), v = .slice bs l.length sc → sc < l.length + m.length → (Builtin.firstCells i.size l.length (.slice bs l.length sc)).run P w.drew = .ok (c8 l).toArray w.drew →
        ∃ v' w', (Builtin.append_ #[t, tx] ty #[v, x]).run P w = .ok v' w' ∧ Room w' B v' (l ++ m) ∧ Below B w w' ∧ (∀ g, v'.ownBlock = some g → v.ownBlock = some g ∨ w.heap.size ≤ g) ∧ (∀ k, k < w.heap.size → v.ownBlock ≠ some k → w'.heap[k]? = w.heap[k]?) ∧ Grown w w' v v' := by
      rintro bs sc rfl hlt hold
      have hrun := run_append_grow_src (P := P) w t tx ty e i (.int .u8 0) ht hi hz bs l.length sc (c8 l) hold x m.length (c8 m) hs' hlt (by omega) (by rw [hy]; exact growslice_fits hlt (by omega))
      have hge := grownCap_ge w (l.length + m.length) sc e
      have hcm := grownCap_le_maxLen w (l.length + m.length) sc e (by unfold maxLen; omega)
      generalize grownCap w (l.length + m.length) sc e = C at hrun hge hcm
      have hZ : ((c8 l ++ c8 m).toArray ++ Builtin.zeroCells (Value.int .u8 0).cells (C - (l.length + m.length))).size = C := by
        have e1 : (Value.int IntKind.u8 0).cells.size = 1 := rfl
        rw [Array.size_append, List.size_toArray, List.length_append, c8_length, c8_length, size_zeroCells, e1]
        omega
      generalize hcs : ((c8 l ++ c8 m).toArray ++ Builtin.zeroCells (Value.int .u8 0).cells (C - (l.length + m.length))) = cs at hrun hZ
      refine ⟨_, _, hrun, .inr ⟨w.heap.size, 0, C, by rw [List.length_append], by rw [List.length_append]; exact hge, hcm, .inl hB, by show w.heap.size < (w.drew.alloc _).heap.size; simp, fun j hj => ?_, fun _ j _ => World.frozen?_alloc_new w.drew .., fun j _ hj => ?_⟩, (Below.refl B w).drew.alloc hB _, fun g hg => .inr (Nat.le_of_eq (by simpa [Value.ownBlock] using hg)), fun k hk _ => Below.heap_alloc w.drew _ k hk, .inr ⟨(Below.refl _ w).drew.alloc (Nat.le_refl _) _, fun g hg => Nat.le_of_eq (by simpa [Value.ownBlock] using hg)⟩⟩
      · show (w.drew.alloc _).cell? ⟨w.drew.heap.size, 0 + j, none⟩ = _
        rw [World.cell?_alloc_new, Nat.zero_add, ← hcs, Array.getElem?_append_left (by rw [List.size_toArray, ← c8_append, c8_length]; exact hj), List.getElem?_toArray, ← c8_append]
        exact c8_get _ j hj
      · show ((w.drew.alloc _).cell? ⟨w.drew.heap.size, 0 + j, none⟩).isSome = true ∧ (w.drew.alloc _).frozen? ⟨w.drew.heap.size, 0 + j, none⟩ = false
        rw [World.cell?_alloc_new, World.frozen?_alloc_new, Nat.zero_add, Array.getElem?_eq_getElem (by omega)]
        exact ⟨rfl, rfl⟩
    rcases hr with ⟨rfl, rfl⟩ | ⟨g, off, cap, rfl, hle, hcm, hg, hgw, hrow, hfz, hsp⟩
    · exact grow none 0 rfl (by simpa using hm) (by simp [Builtin.firstCells, c8])
    · have hcell : ∀ j u, (c8 l)[j]? = some u → w.cell? ((⟨g, off, none⟩ : Addr).add j) = some u := by
        intro j u hu
        have hj : j < l.length := by rw [← c8_length]; exact (List.getElem?_eq_some_iff.1 hu).1
        rw [c8_get l j hj] at hu
        rw [Addr.add_lit, hrow j hj, hu]
      by_cases hfit : l.length + m.length ≤ cap
      · have hgB : B ≤ g := by
          rcases hg with h | h
          · exact h
          · omega
        have hfree : ∀ j, j < (c8 m).length → (w.cell? ⟨g, off + l.length + j, none⟩).isSome = true ∧ w.frozen? ⟨g, off + l.length + j, none⟩ = false := by
          intro j hj
          rw [c8_length] at hj
          rw [Nat.add_assoc]
          exact hsp (l.length + j) (by omega) (by omega)
        have hrun := run_append_room_src (P := P) w t tx ty e i ht hi g off l.length cap x m.length (c8 m) hs' hfit (by rw [h1, Nat.mul_one]; exact fun j hj => (hfree j hj).1) (by rw [h1, Nat.mul_one]; exact fun j hj => (hfree j hj).2)
        rw [h1, Nat.mul_one] at hrun
        refine ⟨_, _, hrun, .inr ⟨g, off, cap, by rw [List.length_append], by rw [List.length_append]; exact hfit, hcm, .inl hgB, by rw [(World.tape_setCells g _ _ w).2]; exact hgw, fun j hj => ?_, fun _ j hj => ?_, fun j hj hc => ?_⟩, below_setCells hgB _ _, fun _ h => .inl h, fun k _ hk => heap_setCells g _ _ w k (fun e => hk (by rw [e]; rfl)), .inl ⟨_, _, _, _, _, rfl, rfl⟩⟩
        · rw [List.length_append] at hj
          by_cases hjl : j < l.length
          · rw [World.cell?_setCells_out g _ _ _ _ (fun _ _ => .inl (by show off + j < _; omega)), hrow j hjl, List.getElem_append_left hjl]
          · have hin := World.cell?_setCells_in g (c8 m) (off + l.length) w (fun j hj => (hfree j hj).1) (j - l.length) (by rw [c8_length]; omega)
            rw [show off + l.length + (j - l.length) = off + j by omega] at hin
            rw [hin, List.getElem_append_right (by omega)]
            simp [c8]
        · rw [List.length_append] at hj
          rw [World.frozen?_setCells]
          by_cases hjl : j < l.length
          · exact hfz hgB j hjl
          · exact (hsp j (by omega) (by omega)).2
        · rw [List.length_append] at hj
          rw [World.cell?_setCells_out g _ _ _ _ (fun _ _ => .inr (by show off + l.length + (c8 m).length ≤ off + j; rw [c8_length]; omega)), World.frozen?_setCells]
          exact hsp j (by omega) hc
      · exact grow _ cap rfl (by omega) (run_firstCells_some (P := P) w.drew i.size l.length _ l.length cap (c8 l) (by rw [c8_length, h1, Nat.mul_one]) (by simpa using hcell))

theorem wpList_append8o {P : Program} {w : World} {B : Nat} {v xv : Value} {l m : List UInt8} {ops : Array Oper} {rest : List Oper} {o : Oper} {a : Act} {Q : Exit → Act → World → Prop} (hgd : o.guard = none) (s x : Operand) (t tx : TypeId)
    (ho : o.op = .call { callee := .builtin .append, args := #[s, x], argTypes := #[t, tx] })
    (e : TypeId) (i : TypeInfo) (ht : P.underlying t = some (.slice e)) (hi : P.info? e = some i) (hz : i.zero = some (.int .u8 0)) (h1 : i.size = 1) (hy : i.bytes = 1)
    (hr : Room w B v l) (hB : B ≤ w.heap.size) (hs : Src P 1 tx xv m.length (c8 m) w) (hl : l.length + m.length ≤ 1099511627776) (hv : a.eval s = v) (hx : a.eval x = xv)
    (h : ∀ v' w', Room w' B v' (l ++ m) → Below B w w' → (∀ g, v'.ownBlock = some g → v.ownBlock = some g ∨ w.heap.size ≤ g) → (∀ k, k < w.heap.size → v.ownBlock ≠ some k → w'.heap[k]? = w.heap[k]?) → Grown w w' v v' → wpList P ops Q rest (a.put o.dst v') w') : wpList P ops Q (o :: rest) a w := by
  refine wpList_plain hgd fun K hK => ?_
  obtain ⟨v', w', hrun, h2, h3, h4, h5, h6⟩ := run_append8o (P := P) t tx o.type e i ht hi hz h1 hy hr hB hs hl
  unfold Oper.wp execOp
  simp only [ho, resolve, invoke, builtin, Sem.run_bind, Sem.run_pure, Result.andThen_ok, List.map_toArray, List.map_cons, List.map_nil, hv, hx, hrun]
  exact hK _ _ (h v' w' h2 h3 h4 h5 h6)

/-- what stands of a slice while another grows out of it -/
def Stay (w : World) (v : Value) (l : List UInt8) (o : Value) (wr : World) : Prop := (∃ A c n' c', v = .slice A l.length c ∧ l.length ≤ c ∧ c ≤ maxLen ∧ o = .slice A n' c') ∨ (Seen wr wr.heap.size v l ∧ ∀ g, o.ownBlock = some g → w.heap.size ≤ g ∧ ∀ g', v.ownBlock = some g' → g' ≠ g)
theorem Stay.start {w : World} {B : Nat} {v : Value} {l : List UInt8} (h : Room w B v l) : Stay w v l v w := by
  obtain ⟨A, c, rfl, h1, h2, _⟩ := h.cut
  exact .inl ⟨A, c, _, c, rfl, h1, h2, rfl⟩
theorem Stay.seen {w wr : World} {B : Nat} {v o : Value} {l m : List UInt8} (h : Stay w v l o wr) (hr : Room wr B o (l ++ m)) : Seen wr wr.heap.size v l := by
  rcases h with ⟨A, c, n', c', rfl, h1, h2, rfl⟩ | ⟨h, _⟩
  · obtain ⟨A2, c2, e, h3, h4, h5⟩ := hr.seen
    injection e with e1 e2 e3
    subst e1 e2 e3
    refine ⟨A, c, rfl, h1, h2, ?_⟩
    rcases h5 with h5 | ⟨b, off, hA, hb, hw, hrow⟩
    · exact .inl (List.append_eq_nil_iff.1 h5).1
    · refine .inr ⟨b, off, hA, hb, hw, ?_⟩
      have := hrow.take l.length
      rw [List.take_left] at this
      exact this
  · exact h
theorem Stay.step {w wr w' : World} {B : Nat} {v o o' : Value} {l m : List UInt8} (h : Stay w v l o wr) (hr : Room wr B o (l ++ m)) (hw : w.heap.size ≤ wr.heap.size) (hs : wr.heap.size ≤ w'.heap.size) (hv : ∀ g, v.ownBlock = some g → g < w.heap.size)
    (hk : ∀ k, k < wr.heap.size → o.ownBlock ≠ some k → w'.heap[k]? = wr.heap[k]?) (hg : Grown wr w' o o') : Stay w v l o' w' := by
  have hsee := h.seen hr
  rcases hg with ⟨A, n, c, n', c', rfl, rfl⟩ | ⟨hb, hn⟩
  · rcases h with ⟨A2, c2, n2, c2', rfl, h1, h2, e⟩ | ⟨h1, h2⟩
    · injection e with e1 _ _
      subst e1
      exact .inl ⟨A, c2, n', c', rfl, h1, h2, rfl⟩
    · refine .inr ⟨?_, fun g hg => h2 g (by cases A with | none => cases hg | some a => exact hg)⟩
      obtain ⟨A3, c3, rfl, h3, h4, h5⟩ := h1
      refine ⟨A3, c3, rfl, h3, h4, h5.imp id ?_⟩
      rintro ⟨b, off, rfl, hb, hw', hrow⟩
      refine ⟨b, off, rfl, Nat.lt_of_lt_of_le hw' hs, Nat.lt_of_lt_of_le hw' hs, hrow.congr (hk b hw' ?_)⟩
      intro e
      exact (h2 b e).2 b rfl rfl
  · refine .inr ⟨hsee.on hb, fun g hg => ⟨Nat.le_trans hw (hn g hg), fun g' hg' e => ?_⟩⟩
    have := hv g' hg'
    have := hn g hg
    omega

end Go.Proofs.Ytoggdpkpfdilnaa
