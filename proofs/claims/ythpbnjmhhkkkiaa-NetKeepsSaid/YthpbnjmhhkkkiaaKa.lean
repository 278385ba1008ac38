/-
  What stays while bytes of the call's own are turned; packets gathered by a statement's own loop.
-/
import Derived.Test.YthpbnjmhhkkkiaaFi
namespace Go.Proofs.Ythpbnjmhhkkkiaa
open Go.RowKit

/-- bytes that may be written, whatever they are -/
def Bts (X : Nat → Prop) (w : World) (v : Value) (n : Nat) : Prop := ∃ A c, v = .slice A n c ∧ n ≤ c ∧ c ≤ maxLen ∧ (n = 0 ∨ ∃ b off, A = some ⟨b, off, none⟩ ∧ X b ∧ ∀ j, j < n → (∃ x : Int, w.cell? ⟨b, off + j, none⟩ = some (.int .u8 x)) ∧ w.frozen? ⟨b, off + j, none⟩ = false)
theorem OwnB.bts {X : Nat → Prop} {w : World} {v : Value} {l : List UInt8} (h : OwnB X w v l) : Bts (fun b => X b ∧ b < w.heap.size) w v l.length := by
  obtain ⟨A, c, e, h1, h2, h3⟩ := h
  refine ⟨A, c, e, h1, h2, ?_⟩
  rcases h3 with rfl | ⟨b, off, e, hx, hb, hr, hf⟩
  · exact .inl rfl
  · exact .inr ⟨b, off, e, ⟨hx, hb⟩, fun j hj => ⟨⟨_, hr j hj⟩, hf j hj⟩⟩
theorem Bts.mono {X Y : Nat → Prop} {w : World} {v : Value} {n : Nat} (h : Bts X w v n) (hk : ∀ b, X b → Y b) : Bts Y w v n := by
  obtain ⟨A, c, e, h1, h2, h3⟩ := h
  refine ⟨A, c, e, h1, h2, h3.imp id ?_⟩
  rintro ⟨b, off, e, hx, hr⟩
  exact ⟨b, off, e, hk b hx, hr⟩
theorem Bts.kept {X : Nat → Prop} {w w' : World} {v : Value} {n : Nat} (h : Bts X w v n) (hk : ∀ b, X b → w'.heap[b]? = w.heap[b]?) : Bts X w' v n := by
  obtain ⟨A, c, e, h1, h2, h3⟩ := h
  refine ⟨A, c, e, h1, h2, h3.imp id ?_⟩
  rintro ⟨b, off, e, hx, hr⟩
  refine ⟨b, off, e, hx, fun j hj => ?_⟩
  rw [World.cell?_of_block (a := ⟨b, off + j, none⟩) (hk b hx), World.frozen?_of_block (a := ⟨b, off + j, none⟩) (hk b hx)]
  exact hr j hj
theorem Bts.set {X : Nat → Prop} {w : World} {v : Value} {n : Nat} (h : Bts X w v n) (g o : Nat) (x : Int) : Bts X (w.setCell ⟨g, o, none⟩ (.int .u8 x)) v n := by
  obtain ⟨A, c, e, h1, h2, h3⟩ := h
  refine ⟨A, c, e, h1, h2, h3.imp id ?_⟩
  rintro ⟨b, off, e, hx, hr⟩
  refine ⟨b, off, e, hx, fun j hj => ?_⟩
  obtain ⟨⟨y, hy⟩, hf⟩ := hr j hj
  refine ⟨?_, by rw [World.frozen?_setCell]; exact hf⟩
  by_cases he : (⟨g, o, none⟩ : Addr) = ⟨b, off + j, none⟩
  · rw [he]
    exact ⟨x, World.cell?_setCell_same _ _ _ hy⟩
  · exact ⟨y, by rw [World.cell?_setCell_other _ _ _ _ he]; exact hy⟩

/-- what stands while bytes in blocks from B to E, all but g, are turned -/
structure Flip (B E g : Nat) (w0 : World) (css : List (List Value)) (wr : World) : Prop where
  same : ∀ b, ¬ (B ≤ b ∧ b < E ∧ b ≠ g) → wr.heap[b]? = w0.heap[b]?
  size : wr.heap.size = w0.heap.size
  below : Below B w0 wr
  bts : ∀ i (h : i < css.length), ∃ a c v n, css[i] = [a, c, v] ∧ Bts (fun b => B ≤ b ∧ b < E ∧ b ≠ g) wr v n
theorem Flip.start {B E g : Nat} {w0 : World} {css : List (List Value)} (h : ∀ i (h : i < css.length), ∃ a c v n, css[i] = [a, c, v] ∧ Bts (fun b => B ≤ b ∧ b < E ∧ b ≠ g) w0 v n) : Flip B E g w0 css w0 := ⟨fun _ _ => rfl, rfl, Below.refl _ _, h⟩
theorem Flip.step {B E g : Nat} {w0 wr : World} {css : List (List Value)} (h : Flip B E g w0 css wr) {b : Nat} (hb : B ≤ b ∧ b < E ∧ b ≠ g) (o : Nat) (x : Int) : Flip B E g w0 css (wr.setCell ⟨b, o, none⟩ (.int .u8 x)) := by
  refine ⟨fun k hk => (Below.heap_setCell wr ⟨b, o, none⟩ _ k (by show k ≠ b; intro e; exact hk (by rw [e]; exact hb))).trans (h.same k hk), by simpa [World.setCell] using h.size, below_set h.below b o _ hb.1, fun i hi => ?_⟩
  obtain ⟨a, c, v, n, e, hv⟩ := h.bts i hi
  exact ⟨a, c, v, n, e, hv.set b o x⟩
theorem OwnC.flip {B g : Nat} {w w' : World} {l : List Pkt} {css : List (List Value)} (h : OwnC B g w l css) (hk : ∀ b, b < w.heap.size → w'.heap[b]? = w.heap[b]?) : Flip B w.heap.size g w' css w' := by
  refine Flip.start fun i hi => ?_
  obtain ⟨vb, e, ho⟩ := h.2 i (by rw [← h.1]; exact hi) hi
  exact ⟨_, _, vb, _, e, (ho.bts.mono fun b hb => ⟨hb.1.1, hb.2, hb.1.2⟩).kept fun b hb => hk b hb.2.1⟩

/-- packets gathered by a loop, their bytes new and elsewhere than the row -/
def Kept2 (B : Nat) (w : World) (V : Value) (l : List Pkt) : Prop := ∃ css : List (List Value), RoomN w B V 3 l.length css.flatten ∧ css.length = l.length ∧ ∀ i (h : i < l.length) (h' : i < css.length), ∃ vb, css[i] = l[i].cells vb ∧ SeenX (fun b => B ≤ b ∧ V.ownBlock ≠ some b) w vb l[i].b
theorem Kept2.nil {B : Nat} {w : World} : Kept2 B w (.slice none 0 0) [] := ⟨[], RoomN.nil, rfl, fun _ h => by cases h⟩
theorem Kept2.on {B : Nat} {w w' : World} {V : Value} {l : List Pkt} (h : Kept2 B w V l) (hb : Below w.heap.size w w') : Kept2 B w' V l := by
  obtain ⟨css, h1, h2, h3⟩ := h
  refine ⟨css, h1.on hb, h2, fun i hi hi' => ?_⟩
  obtain ⟨vb, e, hs⟩ := h3 i hi hi'
  exact ⟨vb, e, hs.keep (fun b _ hlt => hb.block b hlt) hb.size⟩
theorem Kept2.pkts {B : Nat} {w : World} {V : Value} {l : List Pkt} (h : Kept2 B w V l) : PktsAt w w.heap.size V l := by
  obtain ⟨css, h1, h2, h3⟩ := h
  refine RoomN.pkts h1 ⟨h2, fun i hi hi' => ?_⟩
  obtain ⟨vb, e, hs⟩ := h3 i hi hi'
  exact ⟨vb, e, hs.seen⟩
/-- one more: its bytes lie in a new block, then the row grows -/
theorem kept2_snoc {B : Nat} {w wa w' : World} {V V' vb : Value} {l : List Pkt} {p : Pkt} {css : List (List Value)} (h1 : RoomN w B V 3 l.length css.flatten) (h2 : css.length = l.length) (h3 : ∀ i (h : i < l.length) (h' : i < css.length), ∃ vb, css[i] = l[i].cells vb ∧ SeenX (fun b => B ≤ b ∧ V.ownBlock ≠ some b) w vb l[i].b)
    (hB : B ≤ w.heap.size) (ha : Below w.heap.size w wa) (hs : SeenX (w.heap.size ≤ ·) wa vb p.b) (h4 : RoomN w' B V' 3 (l.length + 1) (css.flatten ++ p.cells vb))
    (hk : ∀ k, k < wa.heap.size → V.ownBlock ≠ some k → w'.heap[k]? = wa.heap[k]?) (ho : ∀ g, V'.ownBlock = some g → V.ownBlock = some g ∨ wa.heap.size ≤ g) (hz : wa.heap.size ≤ w'.heap.size) : Kept2 B w' V' (l ++ [p]) := by
  have hown := h1.own_lt
  have haz := ha.size
  refine ⟨css ++ [p.cells vb], ?_, by simp [h2], fun i hi hi' => ?_⟩
  · rw [List.length_append, List.length_singleton, List.flatten_append]
    have e : [p.cells vb].flatten = p.cells vb := by simp
    rw [e]; exact h4
  · by_cases hlt : i < l.length
    · rw [List.getElem_append_left hlt, List.getElem_append_left (by omega)]
      obtain ⟨v, e, hv⟩ := h3 i hlt (by omega)
      refine ⟨v, e, ?_⟩
      have hv1 := hv.keep (w' := wa) (fun b _ hlt => ha.block b hlt) haz
      obtain ⟨A, c, e, q1, q2, q3⟩ := hv
      refine ⟨A, c, e, q1, q2, q3.imp id ?_⟩
      rintro ⟨b, off, e, ⟨hbB, hbo⟩, hb, hrow⟩
      have hbw : b < wa.heap.size := by omega
      refine ⟨b, off, e, ⟨hbB, fun e' => ?_⟩, by omega, (hrow.congr (ha.block b hb)).congr (hk b hbw hbo)⟩
      rcases ho b e' with h | h
      · exact hbo h
      · omega
    · have hi0 : i = l.length := by rw [List.length_append, List.length_singleton] at hi; omega
      subst hi0
      refine ⟨vb, ?_, ?_⟩
      · rw [List.getElem_append_right (by omega), List.getElem_append_right (Nat.le_refl _)]; simp [h2]
      · rw [List.getElem_append_right (Nat.le_refl _)]
        simp only [Nat.sub_self, List.getElem_singleton]
        obtain ⟨A, c, e, q1, q2, q3⟩ := hs
        refine ⟨A, c, e, q1, q2, q3.imp id ?_⟩
        rintro ⟨b, off, e, hbB, hb, hrow⟩
        have hne : V.ownBlock ≠ some b := fun e' => by have := hown b e'; omega
        refine ⟨b, off, e, ⟨by omega, fun e' => ?_⟩, by omega, hrow.congr (hk b hb hne)⟩
        rcases ho b e' with h | h
        · exact hne h
        · omega

end Go.Proofs.Ythpbnjmhhkkkiaa
