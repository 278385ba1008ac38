/-
  Rows of structs in memory: appended to, one struct or many (no program).
-/
import Derived.Test.YthpbnjmhhkkkiaaMv
namespace Go.Proofs.Ythpbnjmhhkkkiaa
open Go.RowKit

/-- A slice of k structs of n cells that may be appended to, without a write below block B. -/
def RoomN (w : World) (B : Nat) (v : Value) (n k : Nat) (cs : List Value) : Prop := cs.length = k * n ∧
  ((v = .slice none 0 0 ∧ k = 0) ∨
  ∃ g off cap, v = .slice (some ⟨g, off, none⟩) k cap ∧ k ≤ cap ∧ cap ≤ maxLen ∧ B ≤ g ∧ g < w.heap.size ∧ RowV w g off cs ∧ (∀ j, j < k * n → w.frozen? ⟨g, off + j, none⟩ = false) ∧
    ∀ j, k * n ≤ j → j < cap * n → (w.cell? ⟨g, off + j, none⟩).isSome = true ∧ w.frozen? ⟨g, off + j, none⟩ = false)
theorem RoomN.nil {w : World} {B n : Nat} : RoomN w B (.slice none 0 0) n 0 [] := ⟨by simp, .inl ⟨rfl, rfl⟩⟩
theorem RoomN.empty {w : World} {B n g : Nat} (hB : B ≤ g) (hg : g < w.heap.size) : RoomN w B (.slice (some ⟨g, 0, none⟩) 0 0) n 0 [] :=
  ⟨by simp, .inr ⟨g, 0, 0, rfl, Nat.le_refl _, Nat.zero_le _, hB, hg, (by intro j h; cases h), (by intro j h; rw [Nat.zero_mul] at h; omega), (by intro j _ h; rw [Nat.zero_mul] at h; omega)⟩⟩
theorem RoomN.on {w w' : World} {B n k : Nat} {v : Value} {cs : List Value} (h : RoomN w B v n k cs) (hb : Below w.heap.size w w') : RoomN w' B v n k cs := by
  obtain ⟨h0, h⟩ := h
  refine ⟨h0, h.imp id ?_⟩
  rintro ⟨g, off, cap, rfl, h1, h2, h3, h4, h5, h7, h6⟩
  have e := hb.block g h4
  refine ⟨g, off, cap, rfl, h1, h2, h3, Nat.lt_of_lt_of_le h4 hb.size, h5.congr e, fun j b => (World.frozen?_of_block (a := ⟨g, off + j, none⟩) e).trans (h7 j b), fun j a b => ?_⟩
  rw [World.cell?_of_block (a := ⟨g, off + j, none⟩) e, World.frozen?_of_block (a := ⟨g, off + j, none⟩) e]
  exact h6 j a b
theorem RoomN.own_lt {w : World} {B n k : Nat} {v : Value} {cs : List Value} (h : RoomN w B v n k cs) : ∀ g, v.ownBlock = some g → g < w.heap.size := by
  intro g hg
  rcases h.2 with ⟨rfl, _⟩ | ⟨g', off, cap, rfl, _, _, _, h4, _⟩
  · cases hg
  · injection hg with hg
    rw [← hg]; exact h4
theorem RoomN.own_ge {w : World} {B n k : Nat} {v : Value} {cs : List Value} (h : RoomN w B v n k cs) : ∀ g, v.ownBlock = some g → B ≤ g := by
  intro g hg
  rcases h.2 with ⟨rfl, _⟩ | ⟨g', off, cap, rfl, _, _, h3, _⟩
  · cases hg
  · injection hg with hg
    rw [← hg]; exact h3
theorem RoomN.slice {w : World} {B n k : Nat} {v : Value} {cs : List Value} (h : RoomN w B v n k cs) : ∃ A c, v = .slice A k c ∧ k ≤ c ∧ c ≤ maxLen ∧ (k = 0 ∨ ∃ b off, A = some ⟨b, off, none⟩ ∧ B ≤ b ∧ b < w.heap.size ∧ RowV w b off cs) := by
  rcases h.2 with ⟨rfl, rfl⟩ | ⟨g', off, cap, rfl, h1, h2, h3, h4, h5, _⟩
  · exact ⟨_, _, rfl, Nat.le_refl _, Nat.zero_le _, .inl rfl⟩
  · exact ⟨_, _, rfl, h1, h2, .inr ⟨_, _, rfl, h3, h4, h5⟩⟩

theorem run_appendN {P : Program} {w : World} {B n k m : Nat} {v x : Value} {cs ys : List Value} (t tx ty e : TypeId) (i : TypeInfo) (z : Value) (q : Nat) (ht : P.underlying t = some (.slice e)) (hi : P.info? e = some i) (hz : i.zero = some z) (h1 : i.size = n) (hzs : z.cells.size = n) (hy : i.bytes = q)
    (hr : RoomN w B v n k cs) (hB : B ≤ w.heap.size) (hs : Src P n tx x m ys w) (hyl : ys.length = m * n) (hl : k + m ≤ 1000000) (hq : (k + m) * q ≤ 140737488355328) :
    ∃ v' w', (Builtin.append_ #[t, tx] ty #[v, x]).run P w = .ok v' w' ∧ RoomN w' B v' n (k + m) (cs ++ ys) ∧ Below B w w' ∧ (∀ k, k < w.heap.size → v.ownBlock ≠ some k → w'.heap[k]? = w.heap[k]?) ∧ (∀ g, v'.ownBlock = some g → v.ownBlock = some g ∨ w.heap.size ≤ g) := by
  have hs' : Src P i.size tx x m ys w := by rw [h1]; exact hs
  rcases Nat.eq_zero_or_pos m with hm | hm
  · subst hm
    obtain rfl : ys = [] := List.eq_nil_of_length_eq_zero (by rw [hyl]; omega)
    obtain ⟨A, c, rfl, hle, _⟩ := hr.slice
    exact ⟨_, _, run_append_nothing (P := P) w t tx ty e i ht hi A k c hle x hs', by rw [List.append_nil]; exact hr, Below.refl _ _, fun _ _ _ => rfl, fun _ h => .inl h⟩
  obtain ⟨h0, hr⟩ := hr
  have hmul : (k + m) * n = k * n + m * n := Nat.add_mul k m n
  have hlen : (cs ++ ys).length = (k + m) * n := by rw [List.length_append, h0, hyl, hmul]
  have grow : ∀ (bs : Option Addr) (sc : Nat), v = .slice bs k sc → sc < k + m → (Builtin.firstCells i.size k (.slice bs k sc)).run P w.drew = .ok cs.toArray w.drew →
      ∃ v' w', (Builtin.append_ #[t, tx] ty #[v, x]).run P w = .ok v' w' ∧ RoomN w' B v' n (k + m) (cs ++ ys) ∧ Below B w w' ∧ (∀ k, k < w.heap.size → v.ownBlock ≠ some k → w'.heap[k]? = w.heap[k]?) ∧ (∀ g, v'.ownBlock = some g → v.ownBlock = some g ∨ w.heap.size ≤ g) := by
    rintro bs sc rfl hlt hold
    have hrun := run_append_grow_src (P := P) w t tx ty e i z ht hi hz bs k sc cs hold x m ys hs' hlt (by omega) (by rw [hy]; exact growslice_fits hlt hq)
    have hge := grownCap_ge w (k + m) sc e
    have hcm := grownCap_le_maxLen w (k + m) sc e (by unfold maxLen; omega)
    generalize grownCap w (k + m) sc e = C at hrun hge hcm
    obtain ⟨r, rfl⟩ : ∃ r, C = k + m + r := ⟨C - (k + m), by omega⟩
    have hZ : ((cs ++ ys).toArray ++ Builtin.zeroCells z.cells (k + m + r - (k + m))).size = (k + m + r) * n := by
      rw [Array.size_append, List.size_toArray, hlen, size_zeroCells, hzs, Nat.add_sub_cancel_left, ← Nat.add_mul]
    generalize hcs : ((cs ++ ys).toArray ++ Builtin.zeroCells z.cells (k + m + r - (k + m))) = rs at hrun hZ
    refine ⟨_, _, hrun, ⟨hlen, .inr ⟨w.heap.size, 0, k + m + r, rfl, hge, hcm, hB, by show w.heap.size < (w.drew.alloc _).heap.size; simp, fun j hj => ?_, fun j _ => World.frozen?_alloc_new w.drew .., fun j _ hj => ?_⟩⟩, (Below.refl B w).drew.alloc hB _, fun k hk _ => Below.heap_alloc w.drew _ k hk, fun g hg => .inr (Nat.le_of_eq (by simpa [Value.ownBlock] using hg))⟩
    · show (w.drew.alloc _).cell? ⟨w.drew.heap.size, 0 + j, none⟩ = _
      rw [World.cell?_alloc_new, Nat.zero_add, ← hcs, Array.getElem?_append_left (by rw [List.size_toArray]; exact hj), List.getElem?_toArray]
      exact List.getElem?_eq_getElem hj
    · show ((w.drew.alloc _).cell? ⟨w.drew.heap.size, 0 + j, none⟩).isSome = true ∧ (w.drew.alloc _).frozen? ⟨w.drew.heap.size, 0 + j, none⟩ = false
      rw [World.cell?_alloc_new, World.frozen?_alloc_new, Nat.zero_add, Array.getElem?_eq_getElem (by omega)]
      exact ⟨rfl, rfl⟩
  rcases hr with ⟨rfl, rfl⟩ | ⟨g, off, cap, rfl, hle, hcm, hgB, hgw, hrow, hfz, hsp⟩
  · obtain rfl : cs = [] := List.eq_nil_of_length_eq_zero (by rw [h0]; omega)
    exact grow none 0 rfl (by omega) (by simp [Builtin.firstCells])
  · have hcell : ∀ j u, cs[j]? = some u → w.cell? ((⟨g, off, none⟩ : Addr).add j) = some u := by
      intro j u hu
      obtain ⟨hj, e⟩ := List.getElem?_eq_some_iff.1 hu
      rw [Addr.add_lit, hrow j hj, e]
    by_cases hfit : k + m ≤ cap
    · have hcn : k * n + m * n ≤ cap * n := by rw [← hmul]; exact Nat.mul_le_mul_right n hfit
      have hfree : ∀ j, j < ys.length → (w.cell? ⟨g, off + k * n + j, none⟩).isSome = true ∧ w.frozen? ⟨g, off + k * n + j, none⟩ = false := by
        intro j hj
        rw [Nat.add_assoc]
        exact hsp (k * n + j) (by omega) (by omega)
      have hrun := run_append_room_src (P := P) w t tx ty e i ht hi g off k cap x m ys hs' hfit (by rw [h1]; exact fun j hj => (hfree j hj).1) (by rw [h1]; exact fun j hj => (hfree j hj).2)
      rw [h1] at hrun
      refine ⟨_, _, hrun, ⟨hlen, .inr ⟨g, off, cap, rfl, hfit, hcm, hgB, by rw [(World.tape_setCells g _ _ w).2]; exact hgw, fun j hj => ?_, fun j hj => ?_, fun j hj hc => ?_⟩⟩, below_setCells hgB _ _, fun k _ hk => heap_setCells g ys _ w k (fun e => hk (by rw [e]; rfl)), fun _ h => .inl h⟩
      · rw [List.length_append] at hj
        by_cases hjl : j < cs.length
        · rw [World.cell?_setCells_out g _ _ _ _ (fun _ _ => .inl (by show off + j < _; omega)), hrow j hjl, List.getElem_append_left hjl]
        · have hin := World.cell?_setCells_in g ys (off + k * n) w (fun j hj => (hfree j hj).1) (j - cs.length) (by omega)
          rw [show off + k * n + (j - cs.length) = off + j by omega] at hin
          rw [hin, List.getElem_append_right (by omega)]
      · rw [World.frozen?_setCells]
        by_cases hjl : j < k * n
        · exact hfz j hjl
        · exact (hsp j (by omega) (by omega)).2
      · rw [World.cell?_setCells_out g _ _ _ _ (fun _ _ => .inr (by show off + k * n + ys.length ≤ off + j; omega)), World.frozen?_setCells]
        exact hsp j (by omega) hc
    · exact grow _ cap rfl (by omega) (run_firstCells_some (P := P) w.drew i.size k _ k cap cs (by rw [h1]; exact h0) (by simpa using hcell))

theorem wpList_appendN {P : Program} {w : World} {B n k m : Nat} {v xv : Value} {cs ys : List Value} {ops : Array Oper} {rest : List Oper} {o : Oper} {a : Act} {Q : Exit → Act → World → Prop} (hgd : o.guard = none) (s x : Operand) (t tx : TypeId)
    (ho : o.op = .call { callee := .builtin .append, args := #[s, x], argTypes := #[t, tx] })
    (e : TypeId) (i : TypeInfo) (z : Value) (q : Nat) (ht : P.underlying t = some (.slice e)) (hi : P.info? e = some i) (hz : i.zero = some z) (h1 : i.size = n) (hzs : z.cells.size = n) (hy : i.bytes = q)
    (hr : RoomN w B v n k cs) (hB : B ≤ w.heap.size) (hs : Src P n tx xv m ys w) (hyl : ys.length = m * n) (hl : k + m ≤ 1000000) (hq : (k + m) * q ≤ 140737488355328) (hv : a.eval s = v) (hx : a.eval x = xv)
    (h : ∀ v' w', RoomN w' B v' n (k + m) (cs ++ ys) → Below B w w' → (∀ k, k < w.heap.size → v.ownBlock ≠ some k → w'.heap[k]? = w.heap[k]?) → (∀ g, v'.ownBlock = some g → v.ownBlock = some g ∨ w.heap.size ≤ g) → wpList P ops Q rest (a.put o.dst v') w') : wpList P ops Q (o :: rest) a w := by
  refine wpList_plain hgd fun K hK => ?_
  obtain ⟨v', w', hrun, h2, h3, h4, h5⟩ := run_appendN (P := P) t tx o.type e i z q ht hi hz h1 hzs hy hr hB hs hyl hl hq
  unfold Oper.wp execOp
  simp only [ho, resolve, invoke, builtin, Sem.run_bind, Sem.run_pure, Result.andThen_ok, List.map_toArray, List.map_cons, List.map_nil, hv, hx, hrun]
  exact hK _ _ (h v' w' h2 h3 h4 h5)
/-- append of structs at a step of a region that draws its order -/
theorem step_appendN {P : Program} {w : World} {B n k m : Nat} {v xv : Value} {cs ys : List Value} {ops : Array Oper} {o : Oper} {a : Act} {K : Act → World → Prop} {Q : Exit → Act → World → Prop} {E : Prop} (hgd : o.guard = none) (s x : Operand) (t tx : TypeId)
    (ho : o.op = .call { callee := .builtin .append, args := #[s, x], argTypes := #[t, tx] })
    (e : TypeId) (i : TypeInfo) (z : Value) (q : Nat) (ht : P.underlying t = some (.slice e)) (hi : P.info? e = some i) (hz : i.zero = some z) (h1 : i.size = n) (hzs : z.cells.size = n) (hy : i.bytes = q)
    (hr : RoomN w B v n k cs) (hB : B ≤ w.heap.size) (hs : Src P n tx xv m ys w) (hyl : ys.length = m * n) (hl : k + m ≤ 1000000) (hq : (k + m) * q ≤ 140737488355328) (hv : a.eval s = v) (hx : a.eval x = xv)
    (h : ∀ v' w', RoomN w' B v' n (k + m) (cs ++ ys) → Below B w w' → (∀ k, k < w.heap.size → v.ownBlock ≠ some k → w'.heap[k]? = w.heap[k]?) → (∀ g, v'.ownBlock = some g → v.ownBlock = some g ∨ w.heap.size ≤ g) → K (a.put o.dst v') w') : if Region.wanted o (yielded ops a.tmps) = true then Oper.wp P o a w K Q else E := by
  have hw : Region.wanted o (yielded ops a.tmps) = true := by simp [Region.wanted, hgd]
  rw [if_pos hw]
  obtain ⟨v', w', hrun, h2, h3, h4, h5⟩ := run_appendN (P := P) t tx o.type e i z q ht hi hz h1 hzs hy hr hB hs hyl hl hq
  unfold Oper.wp execOp
  simp only [ho, resolve, invoke, builtin, Sem.run_bind, Sem.run_pure, Result.andThen_ok, List.map_toArray, List.map_cons, List.map_nil, hv, hx, hrun]
  exact h v' w' h2 h3 h4 h5

theorem flat_at {n : Nat} : ∀ (css : List (List Value)), (∀ c ∈ css, c.length = n) → css.flatten.length = css.length * n ∧ ∀ i (h : i < css.length) j (h' : j < css[i].length), css.flatten[i * n + j]? = some css[i][j]
  | [], _ => ⟨by simp, fun i h => by cases h⟩
  | c :: css, hc => by
    obtain ⟨h1, h2⟩ := flat_at css fun x hx => hc x (by simp [hx])
    have hcl := hc c (by simp)
    refine ⟨by rw [List.flatten_cons, List.length_append, h1, hcl, List.length_cons, Nat.succ_mul, Nat.add_comm], fun i hi j hj => ?_⟩
    rw [List.flatten_cons]
    cases i with
    | zero =>
      have hj' : j < c.length := hj
      rw [Nat.zero_mul, Nat.zero_add, List.getElem?_append_left hj']
      exact List.getElem?_eq_getElem hj'
    | succ i =>
      have := h2 i (by simpa using hi) j hj
      rw [Nat.succ_mul, List.getElem?_append_right (by omega), show i * n + n + j - c.length = i * n + j by omega]
      exact this

end Go.Proofs.Ythpbnjmhhkkkiaa
