/-
  Acts in memory: their bytes below a block, their row in a block of which something is said (no program).
-/
import Derived.Test.YtcdobelhchlheaaBy
namespace Go.Proofs.Ytcdobelhchlheaa
open Go.RowKit

/-- acts in memory: their bytes lie below block B0, their row in a block of X -/
def ActsIn (w : World) (B0 : Nat) (X : Nat → Prop) (v : Value) (l : List Actd) : Prop := ∃ A c css, v = .slice A l.length c ∧ l.length ≤ c ∧ c ≤ maxLen ∧ Cells w B0 l css ∧ (l = [] ∨ ∃ b off, A = some ⟨b, off, none⟩ ∧ X b ∧ b < w.heap.size ∧ RowV w b off css.flatten)
theorem ActsIn.below {w w' : World} {B B0 : Nat} {X : Nat → Prop} {v : Value} {l : List Actd} (h : ActsIn w B0 X v l) (hb : Below B w w') (h0 : B0 ≤ B) (hX : ∀ b, X b → b < w.heap.size → b < B) : ActsIn w' B0 X v l := by
  obtain ⟨A, c, css, e, h1, h2, h3, h4⟩ := h
  refine ⟨A, c, css, e, h1, h2, h3.below (hb.mono h0), h4.imp id ?_⟩
  rintro ⟨b, off, e, hx, hw, hr⟩
  exact ⟨b, off, e, hx, Nat.lt_of_lt_of_le hw hb.size, hr.congr (hb.block b (hX b hx hw))⟩
theorem ActsIn.imp {w : World} {B0 : Nat} {X Y : Nat → Prop} {v : Value} {l : List Actd} (h : ActsIn w B0 X v l) (hXY : ∀ b, X b → b < w.heap.size → Y b) : ActsIn w B0 Y v l := by
  obtain ⟨A, c, css, e, h1, h2, h3, h4⟩ := h
  refine ⟨A, c, css, e, h1, h2, h3, h4.imp id ?_⟩
  rintro ⟨b, off, e, hx, hw, hr⟩
  exact ⟨b, off, e, hXY b hx hw, hw, hr⟩
theorem ActsIn.full {w : World} {B0 : Nat} {X : Nat → Prop} {v : Value} {l : List Actd} (h : ActsIn w B0 X v l) : ActsIn w B0 (fun b => b < w.heap.size) v l := h.imp fun _ _ q => q
/-- nothing that was there has turned -/
theorem ActsIn.on {w w' : World} {B0 : Nat} {X : Nat → Prop} {v : Value} {l : List Actd} (h : ActsIn w B0 X v l) (h0 : B0 ≤ w.heap.size) (hb : Below w.heap.size w w') : ActsIn w' B0 (fun b => X b ∨ w.heap.size ≤ b) v l :=
  (h.below hb h0 fun _ _ q => q).imp fun _ q _ => .inl q
/-- what isn't of F is kept -/
theorem ActsIn.kept {w w' : World} {B0 : Nat} {X : Nat → Prop} {v : Value} {l : List Actd} (h : ActsIn w B0 X v l) (hb : Below B0 w w') (hk : ∀ b, X b → b < w.heap.size → w'.heap[b]? = w.heap[b]?) : ActsIn w' B0 X v l := by
  obtain ⟨A, c, css, e, h1, h2, h3, h4⟩ := h
  refine ⟨A, c, css, e, h1, h2, h3.below hb, h4.imp id ?_⟩
  rintro ⟨b, off, e, hx, hw, hr⟩
  exact ⟨b, off, e, hx, Nat.lt_of_lt_of_le hw hb.size, hr.congr (hk b hx hw)⟩
theorem ActsIn.nil {w : World} {B0 : Nat} {X : Nat → Prop} : ActsIn w B0 X (.slice none 0 0) [] := ⟨none, 0, [], rfl, Nat.le_refl _, Nat.zero_le _, Cells.nil, .inl rfl⟩
theorem ActsIn.acts {w : World} {B0 : Nat} {X : Nat → Prop} {v : Value} {l : List Actd} (h : ActsIn w B0 X v l) (h0 : B0 ≤ w.heap.size) : ActsAt w w.heap.size v l := by
  obtain ⟨A, c, css, e, h1, h2, h3, h4⟩ := h
  refine ⟨A, c, css, e, h1, h2, h3.more h0, h4.imp id ?_⟩
  rintro ⟨b, off, e, _, hw, hr⟩
  exact ⟨b, off, e, hw, hw, hr⟩
theorem ActsIn.src {P : Program} {w : World} {B0 : Nat} {X : Nat → Prop} {v : Value} {l : List Actd} (h : ActsIn w B0 X v l) {tx e : TypeId} (hk : P.underlying tx = some (.slice e)) : ∃ css, Cells w B0 l css ∧ Src P 5 tx v l.length css.flatten w := by
  obtain ⟨A, c, css, rfl, h1, h2, h3, h4⟩ := h
  refine ⟨css, h3, ?_⟩
  rcases h4 with rfl | ⟨b, off, rfl, _, _, hr⟩
  · obtain rfl : css = [] := List.eq_nil_of_length_eq_zero h3.1
    cases A with
    | none => exact Src.ofNil w hk c
    | some a => exact Src.ofSlice w hk a 0 c [] (by simp) (fun _ _ h => by simp at h) (fun _ h => by cases h)
  · refine Src.ofSlice w hk _ _ c css.flatten h3.flat (fun j u hu => ?_) h3.ones
    obtain ⟨hj, e⟩ := List.getElem?_eq_some_iff.1 hu
    rw [Addr.add_lit, hr j hj, e]
/-- one of them -/
theorem ActsIn.at_ {w : World} {B0 : Nat} {X : Nat → Prop} {A : Option Addr} {c n : Nat} {l : List Actd} (h : ActsIn w B0 X (.slice A n c) l) (i : Nat) (hi : i < l.length) : ∃ b off vb, A = some ⟨b, off, none⟩ ∧ b < w.heap.size ∧ X b ∧ Seen w B0 vb l[i].b ∧
    w.cell? ⟨b, off + i * 5, none⟩ = some (.int .u8 (l[i].kind.toNat : Int)) ∧ w.cell? ⟨b, off + i * 5 + 1, none⟩ = some (.int .i64 l[i].area) ∧ w.cell? ⟨b, off + i * 5 + 2, none⟩ = some vb ∧ w.cell? ⟨b, off + i * 5 + 3, none⟩ = some (.int .i64 l[i].n) ∧ w.cell? ⟨b, off + i * 5 + 4, none⟩ = some (.int .i64 l[i].m) := by
  obtain ⟨A', c', css, e, h1, h2, h3, h4⟩ := h
  injection e with e1 _ _
  subst e1
  rcases h4 with rfl | ⟨b, off, rfl, hX, hw, hr⟩
  · cases hi
  have hc : i < css.length := by rw [h3.1]; exact hi
  obtain ⟨vb, e, hs⟩ := h3.2 i hi hc
  have hcell : ∀ j u, (l[i].cells vb)[j]? = some u → w.cell? ⟨b, off + i * 5 + j, none⟩ = some u := fun j u hu => by
    rw [← e] at hu
    obtain ⟨hj, e2⟩ := List.getElem?_eq_some_iff.1 hu
    obtain ⟨hq, e3⟩ := List.getElem?_eq_some_iff.1 ((flat_at css h3.len).2 i hc j hj)
    rw [Nat.add_assoc, hr _ hq, e3, e2]
  exact ⟨b, off, vb, rfl, hw, hX, hs, hcell 0 _ rfl, hcell 1 _ rfl, hcell 2 _ rfl, hcell 3 _ rfl, hcell 4 _ rfl⟩
/-- acts that were gathered in a row of the call's own -/
theorem actsIn_room {w : World} {B B0 : Nat} {v : Value} {l : List Actd} {css : List (List Value)} (hc : Cells w B0 l css) (hr : RoomN w B v 5 l.length css.flatten) : ActsIn w B0 (fun b => B ≤ b) v l := by
  obtain ⟨A, c, rfl, h3, h4, h5⟩ := hr.slice
  refine ⟨A, c, css, rfl, h3, h4, hc, h5.imp List.eq_nil_of_length_eq_zero ?_⟩
  rintro ⟨b, off, e, hB, hw, hr⟩
  exact ⟨b, off, e, hB, hw, hr⟩
def Dskd.liesIn (d : Dskd) (w : World) (B0 : Nat) (X : Nat → Prop) (sv lv : Value) : Prop := ActsIn w B0 X sv d.safe ∧ ActsIn w B0 X lv d.loose
theorem Dskd.liesIn.on {d : Dskd} {w w' : World} {B0 : Nat} {X : Nat → Prop} {sv lv : Value} (h : d.liesIn w B0 X sv lv) (h0 : B0 ≤ w.heap.size) (hb : Below w.heap.size w w') : d.liesIn w' B0 (fun b => X b ∨ w.heap.size ≤ b) sv lv := ⟨h.1.on h0 hb, h.2.on h0 hb⟩
theorem Dskd.liesIn.acts {d : Dskd} {w : World} {B0 : Nat} {X : Nat → Prop} {sv lv : Value} (h : d.liesIn w B0 X sv lv) (h0 : B0 ≤ w.heap.size) : d.lies w w.heap.size sv lv := ⟨h.1.acts h0, h.2.acts h0⟩

end Go.Proofs.Ytcdobelhchlheaa
