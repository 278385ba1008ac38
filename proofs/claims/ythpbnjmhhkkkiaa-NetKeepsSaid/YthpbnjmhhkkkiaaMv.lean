/-
  Rows of one-cell elements in memory (slices of slices): read, appended to.
-/
import Derived.Test.YthpbnjmhhkkkiaaMem
namespace Go.Proofs.Ythpbnjmhhkkkiaa
open Go.RowKit

def RowV (w : World) (b off : Nat) (xs : List Value) : Prop := ∀ j (h : j < xs.length), w.cell? ⟨b, off + j, none⟩ = some xs[j]
theorem RowV.congr {w w' : World} {b off : Nat} {xs : List Value} (h : RowV w b off xs) (e : w'.heap[b]? = w.heap[b]?) : RowV w' b off xs :=
  fun j hj => (World.cell?_of_block (a := ⟨b, off + j, none⟩) e).trans (h j hj)

/-- A slice of one-cell elements that may be appended to, without a write below block B. -/
def RoomV (w : World) (B : Nat) (v : Value) (xs : List Value) : Prop :=
  (v = .slice none 0 0 ∧ xs = []) ∨
  ∃ g off cap, v = .slice (some ⟨g, off, none⟩) xs.length cap ∧ xs.length ≤ cap ∧ cap ≤ maxLen ∧ B ≤ g ∧ g < w.heap.size ∧ RowV w g off xs ∧ (∀ j, j < xs.length → w.frozen? ⟨g, off + j, none⟩ = false) ∧
    ∀ j, xs.length ≤ j → j < cap → (w.cell? ⟨g, off + j, none⟩).isSome = true ∧ w.frozen? ⟨g, off + j, none⟩ = false
theorem RoomV.nil {w : World} {B : Nat} : RoomV w B (.slice none 0 0) [] := .inl ⟨rfl, rfl⟩
theorem RoomV.on {w w' : World} {B : Nat} {v : Value} {xs : List Value} (h : RoomV w B v xs) (hb : Below w.heap.size w w') : RoomV w' B v xs := by
  rcases h with h | ⟨g, off, cap, rfl, h1, h2, h3, h4, h5, h7, h6⟩
  · exact .inl h
  · have e := hb.block g h4
    refine .inr ⟨g, off, cap, rfl, h1, h2, h3, Nat.lt_of_lt_of_le h4 hb.size, h5.congr e, fun j b => (World.frozen?_of_block (a := ⟨g, off + j, none⟩) e).trans (h7 j b), fun j a b => ?_⟩
    rw [World.cell?_of_block (a := ⟨g, off + j, none⟩) e, World.frozen?_of_block (a := ⟨g, off + j, none⟩) e]
    exact h6 j a b
theorem RoomV.shape {w : World} {B : Nat} {v : Value} {xs : List Value} (h : RoomV w B v xs) : ∃ A c, v = .slice A xs.length c ∧ xs.length ≤ c ∧ c ≤ maxLen ∧ (xs = [] ∨ ∃ b off, A = some ⟨b, off, none⟩ ∧ b < w.heap.size ∧ RowV w b off xs) := by
  rcases h with ⟨rfl, rfl⟩ | ⟨g, off, cap, rfl, h1, h2, h3, h4, h5, _⟩
  · exact ⟨none, 0, rfl, Nat.le_refl _, Nat.zero_le _, .inl rfl⟩
  · exact ⟨_, cap, rfl, h1, h2, .inr ⟨g, off, rfl, h4, h5⟩⟩

theorem run_appendV {P : Program} {w : World} {B : Nat} {v x : Value} {xs ys : List Value} (t tx ty e : TypeId) (i : TypeInfo) (z : Value) (q : Nat) (ht : P.underlying t = some (.slice e)) (hi : P.info? e = some i) (hz : i.zero = some z) (h1 : i.size = 1) (hzs : z.cells.size = 1) (hy : i.bytes = q)
    (hr : RoomV w B v xs) (hB : B ≤ w.heap.size) (hs : Src P 1 tx x ys.length ys w) (hl : xs.length + ys.length ≤ 1099511627776) (hq : (xs.length + ys.length) * q ≤ 140737488355328) :
    ∃ v' w', (Builtin.append_ #[t, tx] ty #[v, x]).run P w = .ok v' w' ∧ RoomV w' B v' (xs ++ ys) ∧ Below B w w' ∧ (∀ k, k < w.heap.size → v.ownBlock ≠ some k → w'.heap[k]? = w.heap[k]?) ∧ (∀ g, v'.ownBlock = some g → v.ownBlock = some g ∨ w.heap.size ≤ g) := by
  have hs' : Src P i.size tx x ys.length ys w := by rw [h1]; exact hs
  rcases Nat.eq_zero_or_pos ys.length with hm | hm
  · have hm' : ys = [] := List.eq_nil_of_length_eq_zero hm
    subst hm'
    obtain ⟨A, c, rfl, hle, _⟩ := hr.shape
    exact ⟨_, _, run_append_nothing (P := P) w t tx ty e i ht hi A xs.length c hle x hs', by rw [List.append_nil]; exact hr, Below.refl _ _, fun _ _ _ => rfl, fun _ h => .inl h⟩
  · have grow : ∀ (bs : Option Addr) (sc : Nat), v = .slice bs xs.length sc → sc < xs.length + ys.length → (Builtin.firstCells i.size xs.length (.slice bs xs.length sc)).run P w.drew = .ok xs.toArray w.drew →
        ∃ v' w', (Builtin.append_ #[t, tx] ty #[v, x]).run P w = .ok v' w' ∧ RoomV w' B v' (xs ++ ys) ∧ Below B w w' ∧ (∀ k, k < w.heap.size → v.ownBlock ≠ some k → w'.heap[k]? = w.heap[k]?) ∧ (∀ g, v'.ownBlock = some g → v.ownBlock = some g ∨ w.heap.size ≤ g) := by
      rintro bs sc rfl hlt hold
      have hrun := run_append_grow_src (P := P) w t tx ty e i z ht hi hz bs xs.length sc xs hold x ys.length ys hs' hlt (by omega) (by rw [hy]; exact growslice_fits hlt hq)
      have hge := grownCap_ge w (xs.length + ys.length) sc e
      have hcm := grownCap_le_maxLen w (xs.length + ys.length) sc e (by unfold maxLen; omega)
      generalize grownCap w (xs.length + ys.length) sc e = C at hrun hge hcm
      have hZ : ((xs ++ ys).toArray ++ Builtin.zeroCells z.cells (C - (xs.length + ys.length))).size = C := by
        rw [Array.size_append, List.size_toArray, List.length_append, size_zeroCells, hzs]
        omega
      generalize hcs : ((xs ++ ys).toArray ++ Builtin.zeroCells z.cells (C - (xs.length + ys.length))) = cs at hrun hZ
      refine ⟨_, _, hrun, .inr ⟨w.heap.size, 0, C, by rw [List.length_append], by rw [List.length_append]; exact hge, hcm, hB, by show w.heap.size < (w.drew.alloc _).heap.size; simp, fun j hj => ?_, fun j _ => World.frozen?_alloc_new w.drew .., fun j _ hj => ?_⟩, (Below.refl B w).drew.alloc hB _, fun k hk _ => Below.heap_alloc w.drew _ k hk, fun g hg => .inr (Nat.le_of_eq (by simpa [Value.ownBlock] using hg))⟩
      · show (w.drew.alloc _).cell? ⟨w.drew.heap.size, 0 + j, none⟩ = _
        rw [World.cell?_alloc_new, Nat.zero_add, ← hcs, Array.getElem?_append_left (by rw [List.size_toArray]; exact hj), List.getElem?_toArray]
        exact List.getElem?_eq_getElem hj
      · show ((w.drew.alloc _).cell? ⟨w.drew.heap.size, 0 + j, none⟩).isSome = true ∧ (w.drew.alloc _).frozen? ⟨w.drew.heap.size, 0 + j, none⟩ = false
        rw [World.cell?_alloc_new, World.frozen?_alloc_new, Nat.zero_add, Array.getElem?_eq_getElem (by omega)]
        exact ⟨rfl, rfl⟩
    rcases hr with ⟨rfl, rfl⟩ | ⟨g, off, cap, rfl, hle, hcm, hgB, hgw, hrow, hfz, hsp⟩
    · exact grow none 0 rfl (by simpa using hm) (by simp [Builtin.firstCells])
    · have hcell : ∀ j u, xs[j]? = some u → w.cell? ((⟨g, off, none⟩ : Addr).add j) = some u := by
        intro j u hu
        obtain ⟨hj, e⟩ := List.getElem?_eq_some_iff.1 hu
        rw [Addr.add_lit, hrow j hj, e]
      by_cases hfit : xs.length + ys.length ≤ cap
      · have hfree : ∀ j, j < ys.length → (w.cell? ⟨g, off + xs.length + j, none⟩).isSome = true ∧ w.frozen? ⟨g, off + xs.length + j, none⟩ = false := by
          intro j hj
          rw [Nat.add_assoc]
          exact hsp (xs.length + j) (by omega) (by omega)
        have hrun := run_append_room_src (P := P) w t tx ty e i ht hi g off xs.length cap x ys.length ys hs' hfit (by rw [h1, Nat.mul_one]; exact fun j hj => (hfree j hj).1) (by rw [h1, Nat.mul_one]; exact fun j hj => (hfree j hj).2)
        rw [h1, Nat.mul_one] at hrun
        refine ⟨_, _, hrun, .inr ⟨g, off, cap, by rw [List.length_append], by rw [List.length_append]; exact hfit, hcm, hgB, by rw [(World.tape_setCells g _ _ w).2]; exact hgw, fun j hj => ?_, fun j hj => ?_, fun j hj hc => ?_⟩, below_setCells hgB _ _, fun k _ hk => heap_setCells g ys _ w k (fun e => hk (by rw [e]; rfl)), fun _ h => .inl h⟩
        · rw [List.length_append] at hj
          by_cases hjl : j < xs.length
          · rw [World.cell?_setCells_out g _ _ _ _ (fun _ _ => .inl (by show off + j < _; omega)), hrow j hjl, List.getElem_append_left hjl]
          · have hin := World.cell?_setCells_in g ys (off + xs.length) w (fun j hj => (hfree j hj).1) (j - xs.length) (by omega)
            rw [show off + xs.length + (j - xs.length) = off + j by omega] at hin
            rw [hin, List.getElem_append_right (by omega)]
        · rw [List.length_append] at hj
          rw [World.frozen?_setCells]
          by_cases hjl : j < xs.length
          · exact hfz j hjl
          · exact (hsp j (by omega) (by omega)).2
        · rw [List.length_append] at hj
          rw [World.cell?_setCells_out g _ _ _ _ (fun _ _ => .inr (by show off + xs.length + ys.length ≤ off + j; omega)), World.frozen?_setCells]
          exact hsp j (by omega) hc
      · exact grow _ cap rfl (by omega) (run_firstCells_some (P := P) w.drew i.size xs.length _ xs.length cap xs (by rw [h1, Nat.mul_one]) (by simpa using hcell))

theorem wpList_appendV {P : Program} {w : World} {B : Nat} {v xv : Value} {xs ys : List Value} {ops : Array Oper} {rest : List Oper} {o : Oper} {a : Act} {Q : Exit → Act → World → Prop} (hgd : o.guard = none) (s x : Operand) (t tx : TypeId)
    (ho : o.op = .call { callee := .builtin .append, args := #[s, x], argTypes := #[t, tx] })
    (e : TypeId) (i : TypeInfo) (z : Value) (q : Nat) (ht : P.underlying t = some (.slice e)) (hi : P.info? e = some i) (hz : i.zero = some z) (h1 : i.size = 1) (hzs : z.cells.size = 1) (hy : i.bytes = q)
    (hr : RoomV w B v xs) (hB : B ≤ w.heap.size) (hs : Src P 1 tx xv ys.length ys w) (hl : xs.length + ys.length ≤ 1099511627776) (hq : (xs.length + ys.length) * q ≤ 140737488355328) (hv : a.eval s = v) (hx : a.eval x = xv)
    (h : ∀ v' w', RoomV w' B v' (xs ++ ys) → Below B w w' → (∀ k, k < w.heap.size → v.ownBlock ≠ some k → w'.heap[k]? = w.heap[k]?) → (∀ g, v'.ownBlock = some g → v.ownBlock = some g ∨ w.heap.size ≤ g) → wpList P ops Q rest (a.put o.dst v') w') : wpList P ops Q (o :: rest) a w := by
  refine wpList_plain hgd fun K hK => ?_
  obtain ⟨v', w', hrun, h2, h3, h4, h5⟩ := run_appendV (P := P) t tx o.type e i z q ht hi hz h1 hzs hy hr hB hs hl hq
  unfold Oper.wp execOp
  simp only [ho, resolve, invoke, builtin, Sem.run_bind, Sem.run_pure, Result.andThen_ok, List.map_toArray, List.map_cons, List.map_nil, hv, hx, hrun]
  exact hK _ _ (h v' w' h2 h3 h4 h5)

/-- one new element, in a block of its own -/
theorem srcV_one {P : Program} (w : World) (u : Value) (hu : u.oneCell' = true) {tx e : TypeId} (hk : P.underlying tx = some (.slice e)) :
    Src P 1 tx (.slice (some ⟨w.heap.size, 0, none⟩) 1 1) [u].length [u] (w.alloc (.cells #[u] e)) := by
  refine Src.ofSlice _ hk _ 1 1 [u] rfl (fun j x hx => ?_) (fun x hx => by rw [List.mem_singleton] at hx; rw [hx]; exact hu)
  obtain ⟨hj, e⟩ := List.getElem?_eq_some_iff.1 hx
  obtain rfl : j = 0 := by simpa using hj
  rw [Addr.add_lit, World.cell?_alloc_new, ← e]; rfl

/-- The slice reads as slices of bytes. -/
def AtM (w : World) (A : Option Addr) (c : Nat) (ls : List (List UInt8)) : Prop :=
  ls.length ≤ c ∧ c ≤ maxLen ∧ ∃ vs : List Value, vs.length = ls.length ∧ (ls = [] ∨ ∃ b off, A = some ⟨b, off, none⟩ ∧ b < w.heap.size ∧ RowV w b off vs) ∧
    ∀ i (h : i < ls.length) (h' : i < vs.length), Seen w w.heap.size vs[i] ls[i]
def Many (w : World) (v : Value) (ls : List (List UInt8)) : Prop := ∃ A c, v = .slice A ls.length c ∧ AtM w A c ls
theorem AtM.on {w w' : World} {A : Option Addr} {c : Nat} {ls : List (List UInt8)} (h : AtM w A c ls) (hb : Below w.heap.size w w') : AtM w' A c ls := by
  obtain ⟨h1, h2, vs, h3, h4, h5⟩ := h
  refine ⟨h1, h2, vs, h3, h4.imp id ?_, fun i hi hi' => (h5 i hi hi').on hb⟩
  rintro ⟨b, off, hA, hw, hr⟩
  exact ⟨b, off, hA, Nat.lt_of_lt_of_le hw hb.size, hr.congr (hb.block b hw)⟩
theorem Many.on {w w' : World} {v : Value} {ls : List (List UInt8)} (h : Many w v ls) (hb : Below w.heap.size w w') : Many w' v ls := by
  obtain ⟨A, c, rfl, h⟩ := h
  exact ⟨A, c, rfl, h.on hb⟩
theorem Many.nil {w : World} : Many w (.slice none 0 0) [] := ⟨none, 0, rfl, Nat.le_refl _, Nat.zero_le _, [], rfl, .inl rfl, fun _ h => by cases h⟩
/-- One of them: where it lies, and what it reads as. -/
theorem AtM.at_ {w : World} {A : Option Addr} {c : Nat} {ls : List (List UInt8)} (h : AtM w A c ls) (i : Nat) (hi : i < ls.length) :
    ∃ b off u, A = some ⟨b, off, none⟩ ∧ b < w.heap.size ∧ w.cell? ⟨b, off + i, none⟩ = some u ∧ Seen w w.heap.size u ls[i] := by
  obtain ⟨_, _, vs, h3, h4, h5⟩ := h
  rcases h4 with rfl | ⟨b, off, hA, hw, hr⟩
  · cases hi
  · exact ⟨b, off, vs[i]'(by omega), hA, hw, hr i (by omega), h5 i hi (by omega)⟩
theorem AtM.take {w : World} {A : Option Addr} {c : Nat} {ls : List (List UInt8)} (h : AtM w A c ls) (n : Nat) : AtM w A c (ls.take n) := by
  obtain ⟨h1, h2, vs, h3, h4, h5⟩ := h
  refine ⟨by rw [List.length_take]; omega, h2, vs.take n, by rw [List.length_take, List.length_take, h3], ?_, fun i hi hi' => ?_⟩
  · rcases h4 with rfl | ⟨b, off, hA, hw, hr⟩
    · exact .inl (by simp)
    · refine .inr ⟨b, off, hA, hw, fun j hj => ?_⟩
      rw [List.length_take] at hj
      rw [hr j (by omega), List.getElem_take]
  · rw [List.length_take] at hi hi'
    rw [List.getElem_take, List.getElem_take]
    exact h5 i (by omega) (by omega)
theorem Seen.keep {w w' : World} {B B' : Nat} {v : Value} {l : List UInt8} (h : Seen w B v l) (hk : ∀ b, v.ownBlock = some b → b < w.heap.size → w'.heap[b]? = w.heap[b]? ∧ b < B' ∧ b < w'.heap.size) : Seen w' B' v l := by
  obtain ⟨A, c, rfl, h1, h2, h3⟩ := h
  refine ⟨A, c, rfl, h1, h2, h3.imp id ?_⟩
  rintro ⟨b, off, rfl, _, hw, hr⟩
  obtain ⟨e1, e2, e3⟩ := hk b rfl hw
  exact ⟨b, off, rfl, e2, e3, hr.congr e1⟩
/-- Slices of bytes that are being gathered: none of them lies in the gathering slice's own block. -/
def RoomM (w : World) (B : Nat) (v : Value) (ls : List (List UInt8)) : Prop := ∃ vs : List Value, vs.length = ls.length ∧ RoomV w B v vs ∧ ∀ i (h : i < ls.length) (h' : i < vs.length), Seen w w.heap.size vs[i] ls[i] ∧ ∀ g, vs[i].ownBlock = some g → g < w.heap.size ∧ v.ownBlock ≠ some g
theorem RoomM.on {w w' : World} {B : Nat} {v : Value} {ls : List (List UInt8)} (h : RoomM w B v ls) (hb : Below w.heap.size w w') : RoomM w' B v ls := by
  obtain ⟨vs, h1, h2, h3⟩ := h
  exact ⟨vs, h1, h2.on hb, fun i hi hi' => ⟨(h3 i hi hi').1.on hb, fun g hg => ⟨Nat.lt_of_lt_of_le ((h3 i hi hi').2 g hg).1 hb.size, ((h3 i hi hi').2 g hg).2⟩⟩⟩
theorem RoomM.nil {w : World} {B : Nat} : RoomM w B (.slice none 0 0) [] := ⟨[], rfl, RoomV.nil, fun _ h => by cases h⟩
theorem RoomV.own_lt {w : World} {B : Nat} {v : Value} {xs : List Value} (h : RoomV w B v xs) : ∀ g, v.ownBlock = some g → g < w.heap.size := by
  intro g hg
  rcases h with ⟨rfl, _⟩ | ⟨g', off, cap, rfl, _, _, _, h4, _⟩
  · cases hg
  · injection hg with hg
    rw [← hg]; exact h4
/-- One more, which lies apart. -/
theorem RoomM.put {w w1 w' : World} {B : Nat} {v v' u : Value} {ls : List (List UInt8)} {r : List UInt8} {vs : List Value} (h1 : vs.length = ls.length) (h0 : RoomV w B v vs) (h3 : ∀ i (h : i < ls.length) (h' : i < vs.length), Seen w w.heap.size vs[i] ls[i] ∧ ∀ g, vs[i].ownBlock = some g → g < w.heap.size ∧ v.ownBlock ≠ some g)
    (hb : Below w.heap.size w w1) (h2 : RoomV w' B v' (vs ++ [u])) (hk : ∀ k, k < w1.heap.size → v.ownBlock ≠ some k → w'.heap[k]? = w1.heap[k]?) (hs : w1.heap.size ≤ w'.heap.size) (hl : ∀ g, v'.ownBlock = some g → v.ownBlock = some g ∨ w1.heap.size ≤ g)
    (hu : Seen w1 w1.heap.size u r) (hul : ∀ g, u.ownBlock = some g → w.heap.size ≤ g ∧ g < w1.heap.size) : RoomM w' B v' (ls ++ [r]) := by
  have hlt := h0.own_lt
  have hbs := hb.size
  refine ⟨vs ++ [u], by simp [h1], h2, fun i hi hi' => ?_⟩
  by_cases hil : i < ls.length
  · have hiv : i < vs.length := by omega
    rw [List.getElem_append_left hiv, List.getElem_append_left hil]
    obtain ⟨s1, s2⟩ := h3 i hil hiv
    refine ⟨(s1.on hb).keep fun b hb' hlt' => ⟨hk b hlt' (s2 b hb').2, by omega, by omega⟩, fun g hg => ⟨by have := (s2 g hg).1; omega, fun he => ?_⟩⟩
    rcases hl g he with h | h
    · exact (s2 g hg).2 h
    · have := (s2 g hg).1
      omega
  · simp at hi
    obtain rfl : i = ls.length := by omega
    rw [List.getElem_append_right (by omega), List.getElem_append_right (by omega)]
    simp only [h1, Nat.sub_self, List.getElem_singleton]
    refine ⟨hu.keep fun b hb' hlt' => ⟨hk b hlt' (fun e => by have := hlt b e; have := hul b hb'; omega), by omega, by omega⟩, fun g hg => ⟨by have := hul g hg; omega, fun he => ?_⟩⟩
    have := hul g hg
    rcases hl g he with h | h
    · have := hlt g h
      omega
    · omega
theorem RoomM.many {w : World} {B : Nat} {v : Value} {ls : List (List UInt8)} (h : RoomM w B v ls) : Many w v ls := by
  obtain ⟨vs, h1, h2, h3⟩ := h
  obtain ⟨A, c, rfl, h4, h5, h6⟩ := h2.shape
  exact ⟨A, c, by rw [h1], by omega, h5, vs, h1, h6.imp (fun h => List.eq_nil_of_length_eq_zero (by rw [← h1, h]; rfl)) id, fun i hi hi' => (h3 i hi hi').1⟩

end Go.Proofs.Ythpbnjmhhkkkiaa
