/-
  slices.DeleteFunc of packets, by whom they are to.
-/
import Derived.Test.YthpbnjmhhkkkiaaCf
namespace Go.Proofs.Ythpbnjmhhkkkiaa
open Go.RowKit
attribute [local go_sem ↓] Go.wp_at_zero Go.wp_at_succ

def notTo (l : List Pkt) (to_ : Int) : Nat → Bool := fun i => decide ((l.getD i default).to_ ≠ to_)
theorem notTo_yes {l : List Pkt} {to_ : Int} {i : Nat} (h : ¬ isTo l to_ i) : notTo l to_ i = true := decide_eq_true h
theorem notTo_no {l : List Pkt} {to_ : Int} {i : Nat} (h : isTo l to_ i) : notTo l to_ i = false := decide_eq_false (fun e => e h)

theorem OwnC.take {B g : Nat} {w : World} {l : List Pkt} {css : List (List Value)} (h : OwnC B g w l css) (k : Nat) : OwnC B g w (l.take k) (css.take k) :=
  ⟨by rw [List.length_take, List.length_take, h.1], fun i hi hi' => by
    rw [List.length_take] at hi hi'
    rw [List.getElem_take, List.getElem_take]
    exact h.2 i (by omega) (by omega)⟩
theorem OwnC.snoc {B g : Nat} {w : World} {l : List Pkt} {css : List (List Value)} (h : OwnC B g w l css) {p : Pkt} {vb : Value} (ho : OwnB (fun b => B ≤ b ∧ b ≠ g) w vb p.b) : OwnC B g w (l ++ [p]) (css ++ [p.cells vb]) := by
  have h1 := h.1
  refine ⟨by simp [h1], fun i hi hi' => ?_⟩
  by_cases hlt : i < l.length
  · rw [List.getElem_append_left hlt, List.getElem_append_left (by omega)]
    exact h.2 i hlt (by omega)
  · have : i = l.length := by rw [List.length_append, List.length_singleton] at hi; omega
    subst this
    refine ⟨vb, ?_, ?_⟩
    · rw [List.getElem_append_right (by omega), List.getElem_append_right (Nat.le_refl _)]; simp
    · rw [List.getElem_append_right (Nat.le_refl _)]; simpa using ho

def Sift (w : World) (B g off c : Nat) (l : List Pkt) (to_ : Int) (k i : Nat) (wr : World) : Prop := ∃ ds, Lst wr g off c ds ∧ ds.length = l.length ∧ i = (wo l (notTo l to_) k).length ∧ i < k ∧ OwnC B g wr (wo l (notTo l to_) k) (ds.take i) ∧
  (∀ q (h : q < l.length) (h' : q < ds.length), k ≤ q → ∃ vb, ds[q] = l[q].cells vb ∧ OwnB (fun b => B ≤ b ∧ b ≠ g) wr vb l[q].b) ∧ (∀ b, b ≠ g → b < w.heap.size → wr.heap[b]? = w.heap[b]?) ∧ Below g w wr
theorem sift_start {w w1 : World} {B g off c : Nat} {l : List Pkt} {to_ : Int} {css : List (List Value)} {k : Nat} (hl : Lst w g off c css) (hc : OwnC B g w l css) (hb : Below w.heap.size w w1) (hk : k < l.length) (ht : isTo l to_ k) (hno : ∀ i, i < k → ¬ isTo l to_ i) : Sift w B g off c l to_ (k + 1) k w1 := by
  have hw : wo l (notTo l to_) (k + 1) = l.take k := by
    rw [wo_no (notTo_no ht), wo_all l k (by omega) _ (fun i hi => notTo_yes (hno i hi))]
  have hc1 : OwnC B g w1 l css := hc.keep (fun b _ _ hlt => hb.block b hlt) hb.size
  refine ⟨css, hl.on hb, hc.1, ?_, by omega, ?_, fun q h h' _ => hc1.2 q h h', fun b _ hlt => hb.block b hlt, hb.mono (Nat.le_of_lt hl.lt)⟩
  · rw [hw, List.length_take]; omega
  · rw [hw]; exact hc1.take k
theorem Sift.skip {w wr w2 : World} {B g off c : Nat} {l : List Pkt} {to_ : Int} {k i : Nat} (h : Sift w B g off c l to_ k i wr) (hb : Below wr.heap.size wr w2) (ht : isTo l to_ k) : Sift w B g off c l to_ (k + 1) i w2 := by
  obtain ⟨ds, h1, h2, h3, h4, h5, h6, h7, h8⟩ := h
  refine ⟨ds, h1.on hb, h2, by rw [wo_no (notTo_no ht)]; exact h3, by omega, by rw [wo_no (notTo_no ht)]; exact h5.keep (fun b _ _ hlt => hb.block b hlt) hb.size, fun q h h' hq => ?_, fun b hne hlt => (hb.block b (Nat.lt_of_lt_of_le hlt h8.size)).trans (h7 b hne hlt), h8.trans (hb.mono (Nat.le_of_lt h1.lt))⟩
  obtain ⟨vb, e, ho⟩ := h6 q h h' (by omega)
  exact ⟨vb, e, ho.keep (fun b _ hlt => hb.block b hlt) hb.size⟩
theorem Sift.keeps {w wr w2 : World} {B g off c : Nat} {l : List Pkt} {to_ : Int} {k i : Nat} (h : Sift w B g off c l to_ k i wr) (hb : Below wr.heap.size wr w2) (ht : ¬ isTo l to_ k) (hk : k < l.length) {A : Option Addr} {cc : Nat} (hv : wr.cell? ⟨g, off + k * 3 + 2, none⟩ = some (.slice A l[k].b.length cc)) :
    Sift w B g off c l to_ (k + 1) (i + 1) (((w2.setCell ⟨g, off + i * 3, none⟩ (.int .i64 l[k].id)).setCell ⟨g, off + i * 3 + 1, none⟩ (.int .i64 l[k].to_)).setCell ⟨g, off + i * 3 + 2, none⟩ (.slice A l[k].b.length cc)) := by
  obtain ⟨ds, h1, h2, h3, h4, h5, h6, h7, h8⟩ := h
  obtain ⟨vb, e, ho⟩ := h6 k hk (by omega) (Nat.le_refl _)
  obtain rfl : vb = .slice A l[k].b.length cc := by
    have := h1.row k (by omega) 2 vb (by rw [e]; rfl)
    rw [hv] at this
    exact (Option.some.inj this).symm
  have hsame : ∀ b, b ≠ g → (((w2.setCell ⟨g, off + i * 3, none⟩ (.int .i64 l[k].id)).setCell ⟨g, off + i * 3 + 1, none⟩ (.int .i64 l[k].to_)).setCell ⟨g, off + i * 3 + 2, none⟩ (.slice A l[k].b.length cc)).heap[b]? = w2.heap[b]? := fun b hb => by
    rw [Below.heap_setCell _ ⟨g, off + i * 3 + 2, none⟩ _ b hb, Below.heap_setCell _ ⟨g, off + i * 3 + 1, none⟩ _ b hb, Below.heap_setCell _ ⟨g, off + i * 3, none⟩ _ b hb]
  have hsz : (((w2.setCell ⟨g, off + i * 3, none⟩ (.int .i64 l[k].id)).setCell ⟨g, off + i * 3 + 1, none⟩ (.int .i64 l[k].to_)).setCell ⟨g, off + i * 3 + 2, none⟩ (.slice A l[k].b.length cc)).heap.size = w2.heap.size := by simp [World.setCell]
  have hbg : Below g w2 (((w2.setCell ⟨g, off + i * 3, none⟩ (.int .i64 l[k].id)).setCell ⟨g, off + i * 3 + 1, none⟩ (.int .i64 l[k].to_)).setCell ⟨g, off + i * 3 + 2, none⟩ (.slice A l[k].b.length cc)) := ((below_set (Below.refl g w2) g _ _ (Nat.le_refl _)).setCell (Nat.le_refl _) _).setCell (Nat.le_refl _) _
  have hl3 := (h1.on hb).set3 i (by omega) (.int .i64 l[k].id) (.int .i64 l[k].to_) (.slice A l[k].b.length cc)
  generalize (((w2.setCell ⟨g, off + i * 3, none⟩ (.int .i64 l[k].id)).setCell ⟨g, off + i * 3 + 1, none⟩ (.int .i64 l[k].to_)).setCell ⟨g, off + i * 3 + 2, none⟩ (.slice A l[k].b.length cc)) = W at hsame hsz hbg hl3 ⊢
  have hso : ∀ b, B ≤ b ∧ b ≠ g → b < wr.heap.size → W.heap[b]? = wr.heap[b]? := fun b hne hlt => (hsame b hne.2).trans (hb.block b hlt)
  have hss : wr.heap.size ≤ W.heap.size := by rw [hsz]; exact hb.size
  have hwo : wo l (notTo l to_) (k + 1) = wo l (notTo l to_) k ++ [l[k]] := by rw [wo_yes (notTo_yes ht), getD_get hk]
  refine ⟨ds.set i (l[k].cells (.slice A l[k].b.length cc)), hl3, by rw [List.length_set]; exact h2, by rw [hwo, List.length_append, ← h3]; rfl, by omega, ?_, fun q h h' hq => ?_, fun b hne hlt => (hsame b hne).trans ((hb.block b (Nat.lt_of_lt_of_le hlt h8.size)).trans (h7 b hne hlt)), (h8.trans (hb.mono (Nat.le_of_lt h1.lt))).trans hbg⟩
  · rw [hwo, List.take_succ_eq_append_getElem (by rw [List.length_set]; omega), List.getElem_set_self, List.take_set_of_le (Nat.le_refl _)]
    exact (h5.keep (fun b hB hne hlt => hso b ⟨hB, hne⟩ hlt) hss).snoc (ho.keep hso hss)
  · rw [List.length_set] at h'
    rw [List.getElem_set_ne (by omega)]
    obtain ⟨vb, e, ho⟩ := h6 q h h' (by omega)
    exact ⟨vb, e, ho.keep hso hss⟩
theorem Sift.done {w wr : World} {B g off c i : Nat} {l : List Pkt} {to_ : Int} (h : Sift w B g off c l to_ l.length i wr) (hB : B ≤ g) (vs : List Value) (hv : vs.length = (l.length - i) * 3) :
    OwnL B (wr.setCells g (off + i * 3) vs) (.slice (some ⟨g, off, none⟩) i c) (wo l (notTo l to_) l.length) ∧ Below B w (wr.setCells g (off + i * 3) vs) := by
  obtain ⟨ds, h1, h2, h3, h4, h5, h6, h7, h8⟩ := h
  have hle := h1.le
  have hmx := h1.max
  have htl : (ds.take i).length = i := by rw [List.length_take]; omega
  have ht := (h1.take i).tail (i * 3) vs (by rw [htl]; exact Nat.le_refl _) (by omega)
  have hs : wr.heap.size ≤ (wr.setCells g (off + i * 3) vs).heap.size := by rw [(World.tape_setCells g vs _ wr).2]; exact Nat.le_refl _
  exact ⟨⟨_, c, by rw [← h3], by omega, hmx, .inr ⟨g, off, ds.take i, rfl, hB, ht, h5.keep (fun b _ hne _ => heap_setCells g vs _ wr b hne) hs⟩⟩, (h8.mono hB).trans (below_setCells hB _ _)⟩

end Go.Proofs.Ythpbnjmhhkkkiaa
