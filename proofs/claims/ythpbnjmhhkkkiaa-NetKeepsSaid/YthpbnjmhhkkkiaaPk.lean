/-
  Packets, as the document has them, and where they lie in memory; nets.
-/
import Derived.Test.YthpbnjmhhkkkiaaBx
namespace Go.Proofs.Ythpbnjmhhkkkiaa
open Go.RowKit

structure Pkt where
  id : Int
  to_ : Int
  b : List UInt8
instance pkt_some : Inhabited Pkt := ⟨⟨0, 0, []⟩⟩
instance pkt_eq : DecidableEq Pkt := fun a b =>
  if h : a.id = b.id ∧ a.to_ = b.to_ ∧ a.b = b.b then isTrue (by cases a; cases b; obtain ⟨h1, h2, h3⟩ := h; simp at h1 h2 h3; subst h1 h2 h3; rfl)
  else isFalse (fun e => h (by subst e; exact ⟨rfl, rfl, rfl⟩))
/-- its cells, its bytes' slice handed in -/
def Pkt.cells (a : Pkt) (vb : Value) : List Value := [.int .i64 a.id, .int .i64 a.to_, vb]
def Cells (w : World) (B : Nat) (l : List Pkt) (css : List (List Value)) : Prop := css.length = l.length ∧ ∀ i (h : i < l.length) (h' : i < css.length), ∃ vb, css[i] = l[i].cells vb ∧ Seen w B vb l[i].b
theorem Cells.below {w w' : World} {B : Nat} {l : List Pkt} {css : List (List Value)} (h : Cells w B l css) (hb : Below B w w') : Cells w' B l css :=
  ⟨h.1, fun i hi hi' => by obtain ⟨vb, e, hs⟩ := h.2 i hi hi'; exact ⟨vb, e, hs.below hb⟩⟩
theorem Cells.more {w : World} {B B' : Nat} {l : List Pkt} {css : List (List Value)} (h : Cells w B l css) (hb : B ≤ B') : Cells w B' l css :=
  ⟨h.1, fun i hi hi' => by obtain ⟨vb, e, hs⟩ := h.2 i hi hi'; exact ⟨vb, e, hs.more hb⟩⟩
theorem Cells.on {w w' : World} {l : List Pkt} {css : List (List Value)} (h : Cells w w.heap.size l css) (hb : Below w.heap.size w w') : Cells w' w'.heap.size l css := (h.below hb).more hb.size
theorem Cells.len {w : World} {B : Nat} {l : List Pkt} {css : List (List Value)} (h : Cells w B l css) : ∀ c ∈ css, c.length = 3 := by
  intro c hc
  obtain ⟨i, hi, rfl⟩ := List.getElem_of_mem hc
  obtain ⟨vb, e, _⟩ := h.2 i (by rw [← h.1]; exact hi) hi
  rw [e]; rfl
theorem Cells.flat {w : World} {B : Nat} {l : List Pkt} {css : List (List Value)} (h : Cells w B l css) : css.flatten.length = l.length * 3 := by
  rw [(flat_at css h.len).1, h.1]
theorem cell_one (a : Pkt) (vb : Value) {w : World} {B : Nat} {l : List UInt8} (h : Seen w B vb l) : ∀ u ∈ a.cells vb, u.oneCell' = true := by
  obtain ⟨A, c, rfl, _⟩ := h
  intro u hu
  simp only [Pkt.cells, List.mem_cons, List.not_mem_nil, or_false] at hu
  rcases hu with rfl | rfl | rfl <;> rfl
theorem Cells.ones {w : World} {B : Nat} {l : List Pkt} {css : List (List Value)} (h : Cells w B l css) : ∀ u ∈ css.flatten, u.oneCell' = true := by
  intro u hu
  obtain ⟨c, hc, huc⟩ := List.mem_flatten.1 hu
  obtain ⟨i, hi, rfl⟩ := List.getElem_of_mem hc
  obtain ⟨vb, e, hs⟩ := h.2 i (by rw [← h.1]; exact hi) hi
  rw [e] at huc
  exact cell_one _ vb hs u huc
theorem Cells.nil {w : World} {B : Nat} : Cells w B [] [] := ⟨rfl, fun _ h => by cases h⟩
theorem Cells.snoc {w : World} {B : Nat} {l : List Pkt} {css : List (List Value)} (h : Cells w B l css) {a : Pkt} {vb : Value} (hs : Seen w B vb a.b) : Cells w B (l ++ [a]) (css ++ [a.cells vb]) := by
  refine ⟨by simp [h.1], fun i hi hi' => ?_⟩
  by_cases hlt : i < l.length
  · obtain ⟨v, e, hs'⟩ := h.2 i hlt (by rw [h.1]; exact hlt)
    exact ⟨v, by rw [List.getElem_append_left (by rw [h.1]; exact hlt), e, List.getElem_append_left hlt], by rw [List.getElem_append_left hlt]; exact hs'⟩
  · have hi0 : i = l.length := by simp at hi; omega
    subst hi0
    refine ⟨vb, ?_, ?_⟩
    · rw [List.getElem_append_right (by rw [h.1]; exact Nat.le_refl _), List.getElem_append_right (Nat.le_refl _)]; simp
    · rw [List.getElem_append_right (Nat.le_refl _)]; simpa using hs
/-- packets in memory, below block B -/
def PktsAt (w : World) (B : Nat) (v : Value) (l : List Pkt) : Prop := ∃ A c css, v = .slice A l.length c ∧ l.length ≤ c ∧ c ≤ maxLen ∧ Cells w B l css ∧ (l = [] ∨ ∃ b off, A = some ⟨b, off, none⟩ ∧ b < B ∧ b < w.heap.size ∧ RowV w b off css.flatten)
theorem PktsAt.below {w w' : World} {B : Nat} {v : Value} {l : List Pkt} (h : PktsAt w B v l) (hb : Below B w w') : PktsAt w' B v l := by
  obtain ⟨A, c, css, e, h1, h2, h3, h4⟩ := h
  refine ⟨A, c, css, e, h1, h2, h3.below hb, h4.imp id ?_⟩
  rintro ⟨b, off, e, hB, hw, hr⟩
  exact ⟨b, off, e, hB, Nat.lt_of_lt_of_le hw hb.size, hr.congr (hb.block b hB)⟩
theorem PktsAt.more {w : World} {B B' : Nat} {v : Value} {l : List Pkt} (h : PktsAt w B v l) (hb : B ≤ B') : PktsAt w B' v l := by
  obtain ⟨A, c, css, e, h1, h2, h3, h4⟩ := h
  refine ⟨A, c, css, e, h1, h2, h3.more hb, h4.imp id ?_⟩
  rintro ⟨b, off, e, hB, hw, hr⟩
  exact ⟨b, off, e, Nat.lt_of_lt_of_le hB hb, hw, hr⟩
theorem PktsAt.on {w w' : World} {v : Value} {l : List Pkt} (h : PktsAt w w.heap.size v l) (hb : Below w.heap.size w w') : PktsAt w' w'.heap.size v l := (h.below hb).more hb.size
theorem PktsAt.nil {w : World} {B : Nat} : PktsAt w B (.slice none 0 0) [] := ⟨none, 0, [], rfl, Nat.le_refl _, Nat.zero_le _, Cells.nil, .inl rfl⟩
/-- one of them -/
theorem PktsAt.at_ {w : World} {B : Nat} {A : Option Addr} {c n : Nat} {l : List Pkt} (h : PktsAt w B (.slice A n c) l) (i : Nat) (hi : i < l.length) : ∃ b off vb, A = some ⟨b, off, none⟩ ∧ b < w.heap.size ∧ b < B ∧ Seen w B vb l[i].b ∧
    w.cell? ⟨b, off + i * 3, none⟩ = some (.int .i64 l[i].id) ∧ w.cell? ⟨b, off + i * 3 + 1, none⟩ = some (.int .i64 l[i].to_) ∧ w.cell? ⟨b, off + i * 3 + 2, none⟩ = some vb := by
  obtain ⟨A', c', css, e, h1, h2, h3, h4⟩ := h
  injection e with e1 _ _
  subst e1
  rcases h4 with rfl | ⟨b, off, rfl, hB, hw, hr⟩
  · cases hi
  have hc : i < css.length := by rw [h3.1]; exact hi
  obtain ⟨vb, e, hs⟩ := h3.2 i hi hc
  have hcell : ∀ j u, (l[i].cells vb)[j]? = some u → w.cell? ⟨b, off + i * 3 + j, none⟩ = some u := fun j u hu => by
    rw [← e] at hu
    obtain ⟨hj, e2⟩ := List.getElem?_eq_some_iff.1 hu
    obtain ⟨hq, e3⟩ := List.getElem?_eq_some_iff.1 ((flat_at css h3.len).2 i hc j hj)
    rw [Nat.add_assoc, hr _ hq, e3, e2]
  exact ⟨b, off, vb, rfl, hw, hB, hs, hcell 0 _ rfl, hcell 1 _ rfl, hcell 2 _ rfl⟩
/-- the program's row of them, that may be appended to -/
theorem RoomN.pkts {w : World} {B : Nat} {v : Value} {l : List Pkt} {css : List (List Value)} (h : RoomN w B v 3 l.length css.flatten) (hc : Cells w w.heap.size l css) : PktsAt w w.heap.size v l := by
  obtain ⟨A, c, rfl, h1, h2, h3⟩ := h.slice
  refine ⟨A, c, css, rfl, h1, h2, hc, ?_⟩
  rcases h3 with h0 | ⟨b, off, e, _, hw, hr⟩
  · exact .inl (List.eq_nil_of_length_eq_zero h0)
  · exact .inr ⟨b, off, e, hw, hw, hr⟩

structure Nett where
  next : Int
  l : List Pkt
/-- a net's value -/
def NetAt (w : World) (B : Nat) (v : Value) (n : Nett) : Prop := ∃ lv, v = .agg #[.int .i64 n.next, lv] ∧ PktsAt w B lv n.l
theorem NetAt.below {w w' : World} {B : Nat} {v : Value} {n : Nett} (h : NetAt w B v n) (hb : Below B w w') : NetAt w' B v n := by
  obtain ⟨lv, e, h⟩ := h; exact ⟨lv, e, h.below hb⟩
theorem NetAt.more {w : World} {B B' : Nat} {v : Value} {n : Nett} (h : NetAt w B v n) (hb : B ≤ B') : NetAt w B' v n := by
  obtain ⟨lv, e, h⟩ := h; exact ⟨lv, e, h.more hb⟩
theorem NetAt.on {w w' : World} {v : Value} {n : Nett} (h : NetAt w w.heap.size v n) (hb : Below w.heap.size w w') : NetAt w' w'.heap.size v n := (h.below hb).more hb.size
/-- a packet's value -/
def PktAt (w : World) (B : Nat) (v : Value) (p : Pkt) : Prop := ∃ vb, v = .agg #[.int .i64 p.id, .int .i64 p.to_, vb] ∧ Seen w B vb p.b
theorem PktAt.on {w w' : World} {v : Value} {p : Pkt} (h : PktAt w w.heap.size v p) (hb : Below w.heap.size w w') : PktAt w' w'.heap.size v p := by
  obtain ⟨vb, e, h⟩ := h; exact ⟨vb, e, h.on hb⟩

/-- what the document makes of nets -/
def Nett.without (n : Nett) (at_ : Int) : Nett := ⟨n.next, (n.l.zipIdx.filter fun p => decide ((p.2 : Int) ≠ at_)).map (·.1)⟩
def Nett.send (n : Nett) (to_ : Int) (b : List UInt8) : Nett := ⟨n.next + 1, n.l ++ [⟨n.next, to_, b⟩]⟩
def Nett.cut (n : Nett) (to_ : Int) : Nett := ⟨n.next, n.l.filter fun p => decide (p.to_ ≠ to_)⟩
/-- the place -/
def Nett.place (n : Nett) (i : Int) : Nat := (i % (n.l.length : Int)).toNat
/-- one of the packets, by its place -/
def Nett.okAt (n : Nett) (i : Nat) : Prop := 0 ≤ (n.l.getD i default).id ∧ (n.l.getD i default).id < n.next ∧ (0 < i → (n.l.getD (i - 1) default).id < (n.l.getD i default).id) ∧ (n.l.getD i default).b.length ≤ 500
def Nett.right (n : Nett) : Prop := 0 ≤ n.next ∧ n.next ≤ 4611686018427387904 ∧ n.l.length ≤ 60 ∧ ∀ i, i < n.l.length → n.okAt i
theorem getD_get {l : List Pkt} {i : Nat} (h : i < l.length) : l.getD i default = l[i] := by simp [List.getD, List.getElem?_eq_getElem h]

/-- a call that tells whether something is so -/
def Tells (p : Prop) (w : World) (e : Ending) (w' : World) : Prop := ∃ b, e = .returned (.bool b) ∧ (b = true ↔ p) ∧ Below w.heap.size w w'
theorem Tells.no {p : Prop} {w w' : World} (hb : Below w.heap.size w w') (h : ¬ p) : Tells p w (.returned (.bool false)) w' := ⟨_, rfl, ⟨fun e => (by cases e), fun e => absurd e h⟩, hb⟩
theorem Tells.yes {p : Prop} {w w' : World} (hb : Below w.heap.size w w') (h : p) : Tells p w (.returned (.bool true)) w' := ⟨_, rfl, ⟨fun _ => h, fun _ => rfl⟩, hb⟩

end Go.Proofs.Ythpbnjmhhkkkiaa
