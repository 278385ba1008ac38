/-
  What a log holds, in memory; the document's own Do.
-/
import Derived.Test.YtoggdpkpfdilnaaLm
import Derived.Deep.RegionLaw
import Derived.Deep.CutRange
namespace Go.Proofs.Ytoggdpkpfdilnaa
open Go.RowKit
attribute [local go_sem ↓] Go.wp_at_zero Go.wp_at_succ

/-- picture and records that are held: all bytes below B, the row that tells the records no part of the disk -/
def HeldIn (w : World) (B : Nat) (F : Nat → Prop) (pv rv : Value) (p : List UInt8) (rs : List (List UInt8)) : Prop :=
  Seen w B pv p ∧ ∃ A c vs, rv = .slice A rs.length c ∧ rs.length ≤ c ∧ c ≤ maxLen ∧ vs.length = rs.length ∧ (rs = [] ∨ ∃ b off, A = some ⟨b, off, none⟩ ∧ b < w.heap.size ∧ ¬ F b ∧ RowV w b off vs) ∧ ∀ i (h : i < rs.length) (h' : i < vs.length), Seen w B vs[i] rs[i]
theorem HeldIn.nil {w : World} {B : Nat} {F : Nat → Prop} : HeldIn w B F (.slice none 0 0) (.slice none 0 0) [] [] :=
  ⟨Seen.nil, none, 0, [], rfl, Nat.le_refl _, Nat.zero_le _, rfl, .inl rfl, fun _ h => by cases h⟩
theorem HeldIn.turned {w w' : World} {B : Nat} {F F' : Nat → Prop} {pv rv : Value} {p : List UInt8} {rs : List (List UInt8)} (h : HeldIn w B F pv rv p rs) (h1 : ∀ k, F' k → F k ∨ w.heap.size ≤ k) (hb : Below B w w') (h2 : ∀ k, k < w.heap.size → ¬ F k → w'.heap[k]? = w.heap[k]?) : HeldIn w' B F' pv rv p rs := by
  obtain ⟨hp, A, c, vs, e, q1, q2, q3, q4, q5⟩ := h
  refine ⟨hp.below hb, A, c, vs, e, q1, q2, q3, q4.imp id ?_, fun i hi hi' => (q5 i hi hi').below hb⟩
  rintro ⟨b, off, rfl, hw, hF, hr⟩
  exact ⟨b, off, rfl, Nat.lt_of_lt_of_le hw hb.size, fun q => (h1 b q).elim hF (by omega), hr.congr (h2 b hw hF)⟩
theorem HeldIn.on {w w' : World} {B : Nat} {F : Nat → Prop} {pv rv : Value} {p : List UInt8} {rs : List (List UInt8)} (h : HeldIn w B F pv rv p rs) (hB : B ≤ w.heap.size) (hb : Below w.heap.size w w') : HeldIn w' B F pv rv p rs :=
  h.turned (fun _ => .inl) (hb.mono hB) (fun k hk _ => hb.block k hk)
/-- the call's own cells that are stored into don't matter -/
theorem HeldIn.kept {w w' : World} {B g : Nat} {F : Nat → Prop} {pv rv : Value} {p : List UInt8} {rs : List (List UInt8)} (h : HeldIn w B F pv rv p rs) (hb : Below B w w') (hg : ∀ k, k ≠ g → w'.heap[k]? = w.heap[k]?) (hrv : rv.ownBlock ≠ some g) : HeldIn w' B F pv rv p rs := by
  obtain ⟨hp, A, c, vs, rfl, q1, q2, q3, q4, q5⟩ := h
  refine ⟨hp.below hb, A, c, vs, rfl, q1, q2, q3, q4.imp id ?_, fun i hi hi' => (q5 i hi hi').below hb⟩
  rintro ⟨b, off, rfl, hw, hF, hr⟩
  exact ⟨b, off, rfl, Nat.lt_of_lt_of_le hw hb.size, hF, hr.congr (hg b (fun e => hrv (by rw [e]; rfl)))⟩
theorem Seen.low_kept {w W : World} {B : Nat} {v : Value} {l : List UInt8} (h : Seen w B v l) (hk : ∀ k, k < B → k < w.heap.size → W.heap[k]? = w.heap[k]?) (hs : w.heap.size ≤ W.heap.size) : Seen W W.heap.size v l := by
  obtain ⟨A, c, rfl, h1, h2, h3⟩ := h
  refine ⟨A, c, rfl, h1, h2, h3.imp id ?_⟩
  rintro ⟨b, off, rfl, hb, hw, hr⟩
  exact ⟨b, off, rfl, Nat.lt_of_lt_of_le hw hs, Nat.lt_of_lt_of_le hw hs, hr.congr (hk b hb hw)⟩
theorem HeldIn.stands {w : World} {B : Nat} {F : Nat → Prop} {pv rv : Value} {p : List UInt8} {rs : List (List UInt8)} (h : HeldIn w B F pv rv p rs) (hF : ∀ k, F k → B ≤ k) : Stands' w F pv rv p rs := by
  intro W hk hs
  obtain ⟨hp, A, c, vs, rfl, q1, q2, q3, q4, q5⟩ := h
  have hlow : ∀ k, k < B → k < w.heap.size → W.heap[k]? = w.heap[k]? := fun k h1 h2 => hk k h2 (fun q => by have := hF k q; omega)
  refine ⟨hp.low_kept hlow hs, A, c, rfl, q1, q2, vs, q3, q4.imp id ?_, fun i hi hi' => (q5 i hi hi').low_kept hlow hs⟩
  rintro ⟨b, off, rfl, hw, hF', hr⟩
  exact ⟨b, off, rfl, Nat.lt_of_lt_of_le hw hs, hr.congr (hk b hw hF')⟩
theorem seen_one {w : World} {B : Nat} {v : Value} {l : List UInt8} (h : Seen w B v l) : v.oneCell' = true := by
  obtain ⟨A, c, rfl, _⟩ := h
  rfl
theorem HeldIn.src {P : Program} {w : World} {B : Nat} {F : Nat → Prop} {pv : Value} {A : Option Addr} {c n : Nat} {p : List UInt8} {rs : List (List UInt8)} (h : HeldIn w B F pv (.slice A n c) p rs) {tx e : TypeId} (hk : P.underlying tx = some (.slice e)) : ∃ vs, vs.length = rs.length ∧ (∀ i (h : i < rs.length) (h' : i < vs.length), Seen w B vs[i] rs[i]) ∧ ∀ W : World, Below w.heap.size w W → Src P 1 tx (.slice A n c) rs.length vs W := by
  obtain ⟨hp, A', c', vs, e, q1, q2, q3, q4, q5⟩ := h
  injection e with e1 e2 e3
  subst e1 e2 e3
  refine ⟨vs, q3, q5, fun W hb => ?_⟩
  rcases q4 with rfl | ⟨b, off, rfl, hw, _, hr⟩
  · obtain rfl : vs = [] := List.eq_nil_of_length_eq_zero q3
    cases A with
    | none => exact Src.ofNil W hk c
    | some z => exact Src.ofSlice W hk z 0 c [] (by simp) (fun _ _ h => by simp at h) nofun
  · refine Src.ofSlice W hk _ _ c vs (by rw [q3, Nat.mul_one]) (fun j u hu => ?_) (fun u hu => ?_)
    · obtain ⟨hj, e⟩ := List.getElem?_eq_some_iff.1 hu
      rw [Addr.add_lit, (World.cell?_of_block (a := ⟨b, off + j, none⟩) (hb.block b hw)).trans (hr j hj), e]
    · obtain ⟨i, hi, rfl⟩ := List.getElem_of_mem hu
      exact seen_one (q5 i (by omega) hi)
theorem room_at {W : World} {B n g : Nat} (hB : B ≤ g) (hg : g < W.heap.size) : RoomN W B (.slice (some ⟨g, 0, none⟩) 0 0) n 0 [] := RoomN.empty hB hg
theorem srcN_at {P : Program} {W : World} {g n : Nat} {cs : List Value} (hl : cs.length = n) (h1 : ∀ u ∈ cs, u.oneCell' = true) (h : Box g cs W) {tx e' : TypeId} (hk : P.underlying tx = some (.slice e')) : Src P n tx (.slice (some ⟨g, 0, none⟩) 1 1) 1 cs W := by
  refine Src.ofSlice _ hk _ 1 1 cs (by rw [Nat.one_mul]; exact hl) (fun j x hx => ?_) h1
  rw [Addr.add_lit, Nat.zero_add]
  exact h.get j hx

theorem held_info : (Try.prog.info? 34).map (·.size) = some 3 := by kernel_rfl
theorem held_agg (W : World) : (isAgg 34).run Try.prog W = .ok true W := by simp [isAgg, run_underlying Try.underlying34]
theorem load_held {g : Nat} {vs : List Value} {W : World} (hn : vs.length = 3) (h : Box g vs W) : (loadVar 34 ⟨g, 0, none⟩).run Try.prog W = .ok (.agg vs.toArray) W := by
  obtain ⟨i, hi, hz⟩ : ∃ i, Try.prog.info? 34 = some i ∧ i.size = 3 := by
    have hq := held_info
    cases he : Try.prog.info? 34 with
    | none => rw [he] at hq; cases hq
    | some i => rw [he] at hq; exact ⟨i, rfl, Option.some.inj hq⟩
  have hs : (sizeOf 34).run Try.prog W = .ok 3 W := by simp [sizeOf, typeInfo, hi, hz]
  have hl := run_loadCells_list (P := Try.prog) W ⟨g, 0, none⟩ vs (fun j u hu => by
    obtain ⟨hj, e⟩ := List.getElem?_eq_some_iff.1 hu
    rw [Addr.add_lit, Nat.zero_add, ← e]
    exact h.2 j hj)
  rw [hn] at hl
  simp only [loadVar, Sem.run_bind, Sem.run_pure, Result.andThen_ok, held_agg, hs, hl, if_true]
/-- a block of three cells, stored into -/
def put3 (W : World) (g : Nat) (a b c : Value) : World := ((W.setCell ⟨g, 0, none⟩ a).setCell ⟨g, 1, none⟩ b).setCell ⟨g, 2, none⟩ c
theorem put3_box {W : World} {g : Nat} {p q r : Value} (h : BoxF g [p, q, r] W) (a b c : Value) : BoxF g [a, b, c] (put3 W g a b c) :=
  ((((h.set 0 (by simp) a).set 1 (by simp) b).set 2 (by simp) c) : BoxF _ ((([p, q, r].set 0 a).set 1 b).set 2 c) _)
theorem put3_below {B : Nat} (W : World) {g : Nat} (hg : B ≤ g) (a b c : Value) : Below B W (put3 W g a b c) := (((Below.refl B W).setCell hg _).setCell hg _).setCell hg _
theorem put3_other (W : World) (g : Nat) (a b c : Value) (k : Nat) (h : k ≠ g) : (put3 W g a b c).heap[k]? = W.heap[k]? :=
  (Below.heap_setCell _ ⟨g, 2, none⟩ _ k h).trans ((Below.heap_setCell _ ⟨g, 1, none⟩ _ k h).trans (Below.heap_setCell _ ⟨g, 0, none⟩ _ k h))
theorem put3_size (W : World) (g : Nat) (a b c : Value) : (put3 W g a b c).heap.size = W.heap.size := by simp [put3, World.setCell]

end Go.Proofs.Ytoggdpkpfdilnaa
