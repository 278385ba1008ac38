/-
  Blocks of a call's own that hold values (no program).
-/
import Derived.Test.YthpbnjmhhkkkiaaRws
import Derived.Test.YthpbnjmhhkkkiaaSame
import Derived.Deep.RegionHeld3
import Derived.Deep.DrawnRows
namespace Go.Proofs.Ythpbnjmhhkkkiaa
open Go.RowKit
def I64 (n : Int) : Prop := -9223372036854775808 ≤ n ∧ n ≤ 9223372036854775807

/-- a block that holds these values -/
def Box (g : Nat) (vs : List Value) (W : World) : Prop := g < W.heap.size ∧ ∀ i (h : i < vs.length), W.cell? ⟨g, i, none⟩ = some vs[i]
theorem Box.on {g : Nat} {vs : List Value} {W W' : World} (h : Box g vs W) (hb : Below W.heap.size W W') : Box g vs W' :=
  ⟨Nat.lt_of_lt_of_le h.1 hb.size, fun i hi => (World.cell?_of_block (a := ⟨g, i, none⟩) (hb.block g h.1)).trans (h.2 i hi)⟩
theorem box_made (w : World) (vs : List Value) (e : TypeId) : Box w.heap.size vs (w.alloc (.cells vs.toArray e)) :=
  ⟨by simp, fun i hi => by rw [World.cell?_alloc_new, List.getElem?_toArray]; exact List.getElem?_eq_getElem hi⟩
theorem Box.get {g : Nat} {vs : List Value} {W : World} (h : Box g vs W) (i : Nat) {u : Value} (e : vs[i]? = some u) : W.cell? ⟨g, i, none⟩ = some u := by
  obtain ⟨hi, e⟩ := List.getElem?_eq_some_iff.1 e
  rw [h.2 i hi, e]
theorem Box.kept {g : Nat} {vs : List Value} {W W' : World} (h : Box g vs W) (e : W'.heap[g]? = W.heap[g]?) (hs : W.heap.size ≤ W'.heap.size) : Box g vs W' :=
  ⟨Nat.lt_of_lt_of_le h.1 hs, fun i hi => (World.cell?_of_block (a := ⟨g, i, none⟩) e).trans (h.2 i hi)⟩

theorem below_kept {B B' : Nat} {w w' : World} {v : Value} (hb : Below B w w') (hk : ∀ k, k < w.heap.size → v.ownBlock ≠ some k → w'.heap[k]? = w.heap[k]?) (hv : ∀ g, v.ownBlock = some g → B' ≤ g) (hB : B' ≤ w.heap.size) : Below B' w w' :=
  ⟨hb.1, hb.2, hb.3, hb.size, fun k hk' => hk k (by omega) (fun e => by have := hv k e; omega)⟩

/-- a block of the call's own that holds these values, and may be written -/
def BoxF (g : Nat) (vs : List Value) (W : World) : Prop := g < W.heap.size ∧ ∀ i (h : i < vs.length), W.cell? ⟨g, i, none⟩ = some vs[i] ∧ W.frozen? ⟨g, i, none⟩ = false
theorem BoxF.on {g : Nat} {vs : List Value} {W W' : World} (h : BoxF g vs W) (hb : Below W.heap.size W W') : BoxF g vs W' :=
  ⟨Nat.lt_of_lt_of_le h.1 hb.size, fun i hi => ⟨(World.cell?_of_block (a := ⟨g, i, none⟩) (hb.block g h.1)).trans (h.2 i hi).1, (World.frozen?_of_block (a := ⟨g, i, none⟩) (hb.block g h.1)).trans (h.2 i hi).2⟩⟩
theorem BoxF.kept {g : Nat} {vs : List Value} {W W' : World} (h : BoxF g vs W) (e : W'.heap[g]? = W.heap[g]?) (hs : W.heap.size ≤ W'.heap.size) : BoxF g vs W' :=
  ⟨Nat.lt_of_lt_of_le h.1 hs, fun i hi => ⟨(World.cell?_of_block (a := ⟨g, i, none⟩) e).trans (h.2 i hi).1, (World.frozen?_of_block (a := ⟨g, i, none⟩) e).trans (h.2 i hi).2⟩⟩
theorem boxF_made (w : World) (vs : List Value) (e : TypeId) : BoxF w.heap.size vs (w.alloc (.cells vs.toArray e)) :=
  ⟨by simp, fun i hi => ⟨by rw [World.cell?_alloc_new, List.getElem?_toArray]; exact List.getElem?_eq_getElem hi, World.frozen?_alloc_new ..⟩⟩
theorem BoxF.get {g : Nat} {vs : List Value} {W : World} (h : BoxF g vs W) (i : Nat) {u : Value} (e : vs[i]? = some u) : W.cell? ⟨g, i, none⟩ = some u := by
  obtain ⟨hi, e⟩ := List.getElem?_eq_some_iff.1 e
  rw [(h.2 i hi).1, e]
theorem BoxF.free {g : Nat} {vs : List Value} {W : World} (h : BoxF g vs W) (i : Nat) (hi : i < vs.length) : W.frozen? ⟨g, i, none⟩ = false := (h.2 i hi).2
theorem BoxF.set {g : Nat} {vs : List Value} {W : World} (h : BoxF g vs W) (i : Nat) (hi : i < vs.length) (u : Value) : BoxF g (vs.set i u) (W.setCell ⟨g, i, none⟩ u) := by
  refine ⟨by simpa [World.setCell] using h.1, fun j hj => ⟨?_, by rw [World.frozen?_setCell]; exact (h.2 j (by simpa using hj)).2⟩⟩
  rw [List.length_set] at hj
  by_cases e : j = i
  · subst e
    rw [World.cell?_setCell_same _ _ _ (h.2 j hi).1, List.getElem_set_self]
  · rw [World.cell?_setCell_other _ _ _ _ (by intro h; injection h with _ h; omega), (h.2 j hj).1, List.getElem_set_ne (fun h => e h.symm)]
theorem BoxF.other {g : Nat} {vs : List Value} {W : World} (h : BoxF g vs W) {b o : Nat} (u : Value) (hne : g ≠ b) : BoxF g vs (W.setCell ⟨b, o, none⟩ u) :=
  h.kept (Below.heap_setCell W ⟨b, o, none⟩ u g hne) (by simp [World.setCell])
theorem RoomN.kept {w w' : World} {B n k : Nat} {v : Value} {cs : List Value} (h : RoomN w B v n k cs) (hk : ∀ g, v.ownBlock = some g → w'.heap[g]? = w.heap[g]?) (hs : w.heap.size ≤ w'.heap.size) : RoomN w' B v n k cs := by
  obtain ⟨h0, h⟩ := h
  refine ⟨h0, h.imp id ?_⟩
  rintro ⟨g, off, cap, rfl, h1, h2, h3, h4, h5, h7, h6⟩
  have e := hk g rfl
  refine ⟨g, off, cap, rfl, h1, h2, h3, Nat.lt_of_lt_of_le h4 hs, h5.congr e, fun j b => (World.frozen?_of_block (a := ⟨g, off + j, none⟩) e).trans (h7 j b), fun j a b => ?_⟩
  rw [World.cell?_of_block (a := ⟨g, off + j, none⟩) e, World.frozen?_of_block (a := ⟨g, off + j, none⟩) e]
  exact h6 j a b
/-- one new struct, in a block of its own -/
theorem srcN_one {P : Program} (w : World) (n : Nat) (cs : List Value) (hl : cs.length = n) (h1 : ∀ u ∈ cs, u.oneCell' = true) {tx e e' : TypeId} (hk : P.underlying tx = some (.slice e')) :
    Src P n tx (.slice (some ⟨w.heap.size, 0, none⟩) 1 1) 1 cs (w.alloc (.cells cs.toArray e)) := by
  refine Src.ofSlice _ hk _ 1 1 cs (by rw [Nat.one_mul]; exact hl) (fun j x hx => ?_) h1
  rw [Addr.add_lit, World.cell?_alloc_new, Nat.zero_add, List.getElem?_toArray, hx]
theorem below_set {B : Nat} {w w' : World} (h : Below B w w') (g i : Nat) (u : Value) (hg : B ≤ g) : Below B w (w'.setCell ⟨g, i, none⟩ u) := h.setCell hg u
theorem results_cell1 {fn : Func} {p : Tmp} {ty : TypeId} (h : fn.results = #[.cell p ty]) {P : Program} {w : World} {tmps : Array Value} {a : Addr} {v : Value} (ha : tmps.getD p undef = .pointer (some a)) (hl : (loadVar ty a).run P w = .ok v w) :
    (results fn tmps).run P w = .ok v w := by
  have h2 : (asAddr (tmps.getD p undef)).run P w = .ok a w := by rw [ha]; rfl
  rw [Array.getD_eq_getD_getElem?] at h2
  simp only [results, h]
  simp [Sem.run_bind, Result.andThen, h2, hl]
theorem BoxF.box {g : Nat} {vs : List Value} {W : World} (h : BoxF g vs W) : Box g vs W := ⟨h.1, fun i hi => (h.2 i hi).1⟩
theorem RoomN.less {w : World} {B B' n k : Nat} {v : Value} {cs : List Value} (h : RoomN w B v n k cs) (hB : B' ≤ B) : RoomN w B' v n k cs := by
  obtain ⟨h0, h⟩ := h
  refine ⟨h0, h.imp id ?_⟩
  rintro ⟨g, off, cap, e, h1, h2, h3, h4⟩
  exact ⟨g, off, cap, e, h1, h2, by omega, h4⟩
theorem seen_take {w : World} {B : Nat} {A : Option Addr} {n c t : Nat} {l : List UInt8} (h : Seen w B (.slice A n c) l) (ht : t ≤ l.length) : Seen w B (.slice A t c) (l.take t) := by
  obtain ⟨A', c', e, h1, h2, h3⟩ := h
  injection e with e1 _ e3
  subst e1 e3
  have hlen : (l.take t).length = t := by rw [List.length_take]; omega
  refine ⟨_, c, by rw [hlen], by rw [hlen]; omega, h2, ?_⟩
  rcases h3 with rfl | ⟨b, off, rfl, hb, hw, hr⟩
  · exact .inl (by simp)
  · exact .inr ⟨b, off, rfl, hb, hw, hr.take t⟩
theorem Room.own_lt {w : World} {B : Nat} {v : Value} {l : List UInt8} (h : Room w B v l) : ∀ g, v.ownBlock = some g → g < w.heap.size := by
  intro g hg
  rcases h with ⟨rfl, _⟩ | ⟨g', off, cap, rfl, _, _, _, h4, _⟩
  · cases hg
  · injection hg with hg
    rw [← hg]; exact h4

end Go.Proofs.Ythpbnjmhhkkkiaa
