/-
  The program's copy of a content.
-/
import Derived.Test.YtoggdpkpfdilnaaCe
namespace Go.Proofs.Ytoggdpkpfdilnaa
open Go.RowKit
attribute [local go_sem ↓] Go.wp_at_zero Go.wp_at_succ

theorem cont_info : (Try.prog.info? 55).map (·.size) = some 3 := by kernel_rfl
theorem cont_agg (W : World) : (isAgg 55).run Try.prog W = .ok true W := by simp [isAgg, run_underlying Try.underlying55]
theorem load_cont {g : Nat} {vs : List Value} {W : World} (hn : vs.length = 3) (h : Box g vs W) : (loadVar 55 ⟨g, 0, none⟩).run Try.prog W = .ok (.agg vs.toArray) W := by
  obtain ⟨i, hi, hz⟩ : ∃ i, Try.prog.info? 55 = some i ∧ i.size = 3 := by
    have hq := cont_info
    cases he : Try.prog.info? 55 with
    | none => rw [he] at hq; cases hq
    | some i => rw [he] at hq; exact ⟨i, rfl, Option.some.inj hq⟩
  have hs : (sizeOf 55).run Try.prog W = .ok 3 W := by simp [sizeOf, typeInfo, hi, hz]
  have hl := run_loadCells_list (P := Try.prog) W ⟨g, 0, none⟩ vs (fun j u hu => by
    obtain ⟨hj, e⟩ := List.getElem?_eq_some_iff.1 hu
    rw [Addr.add_lit, Nat.zero_add, ← e]
    exact h.2 j hj)
  rw [hn] at hl
  simp only [loadVar, Sem.run_bind, Sem.run_pure, Result.andThen_ok, cont_agg, hs, hl, if_true]

/-- what a copy of a content comes to -/
def Copied (B : Nat) (w : World) (x : Cont) (w' : World) (v0 v1 : Value) : Prop := RoomO w' B v0 x.a0 ∧ RoomO w' B v1 x.a1 ∧ (∀ k, v0.ownBlock = some k → w.heap.size ≤ k) ∧ (∀ k, v1.ownBlock = some k → w.heap.size ≤ k) ∧ (∀ k, v0.ownBlock = some k → v1.ownBlock ≠ some k) ∧ Below w.heap.size w w'
set_option maxRecDepth 100000 in
set_option maxHeartbeats 1000000 in
theorem apart_any (g o : Nat) (u0 u1 : Value) (x : Cont) (w : World) (B : Nat) (e0 : w.cell? ⟨g, o, none⟩ = some u0) (e1 : w.cell? ⟨g, o + 1, none⟩ = some u1) (e2 : w.cell? ⟨g, o + 2, none⟩ = some (.int .i64 x.front)) (hgl : g < w.heap.size)
    (h0 : RoomO w B u0 x.a0) (h1 : RoomO w B u1 x.a1) (hgB : B ≤ w.heap.size) (hm : x.mass ≤ 1000000000) :
    Calls Try.prog 40 #[.pointer (some ⟨g, o, none⟩)] w fun e w' => ∃ v0 v1, e = .returned (.agg #[v0, v1, .int .i64 x.front]) ∧ Copied B w x w' v0 v1 := by
  have hm0 : x.a0.length ≤ 1099511627776 := by unfold Cont.mass at hm; omega
  have hm1 : x.a1.length ≤ 1099511627776 := by unfold Cont.mass at hm; omega
  have RC0 : Hid (∀ W, Below w.heap.size w W → Calls Try.prog 32 #[u0] W fun e w' => ∃ u, e = .returned u ∧ RoomO w' B u x.a0 ∧ (∀ k, u.ownBlock = some k → W.heap.size ≤ k) ∧ Below W.heap.size W w') := fun W hb => copied_any W B _ u0 x.a0 (Nat.le_trans hgB hb.size) (h0.on hb).1.seen hm0
  have RC1 : Hid (∀ W, Below w.heap.size w W → Calls Try.prog 32 #[u1] W fun e w' => ∃ u, e = .returned u ∧ RoomO w' B u x.a1 ∧ (∀ k, u.ownBlock = some k → W.heap.size ≤ k) ∧ Below W.heap.size W w') := fun W hb => copied_any W B _ u1 x.a1 (Nat.le_trans hgB hb.size) (h1.on hb).1.seen hm1
  have HS : Hid (∀ W, Below w.heap.size w W → W.cell? ⟨g, o, none⟩ = some u0 ∧ W.cell? ⟨g, o + 1, none⟩ = some u1 ∧ W.cell? ⟨g, o + 2, none⟩ = some (.int .i64 x.front)) := fun W hb =>
    ⟨(World.cell?_of_block (a := ⟨g, o, none⟩) (hb.block g hgl)).trans e0, (World.cell?_of_block (a := ⟨g, o + 1, none⟩) (hb.block g hgl)).trans e1, (World.cell?_of_block (a := ⟨g, o + 2, none⟩) (hb.block g hgl)).trans e2⟩
  have hbz := boxF_made w [.slice none 0 0, .slice none 0 0, .int .i64 0] 55
  have hb1 := bal w (.cells #[.slice none 0 0, .slice none 0 0, .int .i64 0] 55)
  have HZ := Lib.hid (hbz.on (Below.refl _ _).drew)
  have H1 := Lib.hid hb1
  have C1 := HS.out _ hb1.drew
  have HG := Lib.hid hgB
  clear e0 e1 e2 h0 h1 hgB hm hm0 hm1 hbz hb1
  go_enter Try.func40, Try.ntmps40
  go_wp2
  first | (go_region_held3 (fun W => W.cell? ⟨g, o, none⟩ = some u0 ∧ W.cell? ⟨g, o + 1, none⟩ = some u1 ∧ W.cell? ⟨g, o + 2, none⟩ = some (.int .i64 x.front)) (first | exact C4 _ _ _ | exact C3 | exact C2 | exact C1) (first
    | (go_at_call 32; (with_reducible refine (RC0.out _ H1.out.drew).mono ?_); rintro e w2 ⟨v0, rfl, r0, o0, hb2⟩; have hb02 : Below w.heap.size w w2 := bt H1.out.drew hb2; have C2 := HS.out _ hb02; obtain ⟨A0, z0, hv0, _⟩ := r0.slice; generalize x.a0.length = n0 at hv0; subst hv0)
    | (go_at_call 32; (with_reducible refine (RC1.out _ hb02).mono ?_); rintro e w3 ⟨v1, rfl, r1, o1, hb3⟩; have hb03 : Below w.heap.size w w3 := bt hb02 hb3; have C3 := HS.out _ hb03; have hz3 := (HZ.out.on hb2).on hb3; have q0 := hz3.2 0 (by simp); have q1 := hz3.2 1 (by simp); have q2 := hz3.2 2 (by simp); have C4 := fun (a b c : Value) => HS.out _ (below_set (below_set (below_set hb03 w.heap.size 0 a (Nat.le_refl _)) w.heap.size 1 b (Nat.le_refl _)) w.heap.size 2 c (Nat.le_refl _)); obtain ⟨A1, z1, hv1, _⟩ := r1.slice; generalize x.a1.length = n1 at hv1; subst hv1))) | fail
  have hz6 : Box w.heap.size [.slice A0 n0 z0, .slice A1 n1 z1, .int .i64 x.front] (((w3.setCell ⟨w.heap.size, 0, none⟩ (.slice A0 n0 z0)).setCell ⟨w.heap.size, 1, none⟩ (.slice A1 n1 z1)).setCell ⟨w.heap.size, 2, none⟩ (.int .i64 x.front)) :=
    ((((hz3.set 0 (by simp) (.slice A0 n0 z0)).set 1 (by simp) (.slice A1 n1 z1)).set 2 (by simp) (.int .i64 x.front)) : BoxF _ (((([.slice none 0 0, .slice none 0 0, .int .i64 0] : List Value).set 0 (.slice A0 n0 z0)).set 1 (.slice A1 n1 z1)).set 2 (.int .i64 x.front)) _).box
  have hbe : Below w.heap.size w (((w3.setCell ⟨w.heap.size, 0, none⟩ (.slice A0 n0 z0)).setCell ⟨w.heap.size, 1, none⟩ (.slice A1 n1 z1)).setCell ⟨w.heap.size, 2, none⟩ (.int .i64 x.front)) := below_set (below_set (below_set hb03 w.heap.size 0 _ (Nat.le_refl _)) w.heap.size 1 _ (Nat.le_refl _)) w.heap.size 2 _ (Nat.le_refl _)
  have hke : ∀ k, w.heap.size < k → (((w3.setCell ⟨w.heap.size, 0, none⟩ (.slice A0 n0 z0)).setCell ⟨w.heap.size, 1, none⟩ (.slice A1 n1 z1)).setCell ⟨w.heap.size, 2, none⟩ (.int .i64 x.front)).heap[k]? = w3.heap[k]? := fun k hk =>
    (Below.heap_setCell _ ⟨w.heap.size, 2, none⟩ _ k (show k ≠ w.heap.size by omega)).trans ((Below.heap_setCell _ ⟨w.heap.size, 1, none⟩ _ k (show k ≠ w.heap.size by omega)).trans (Below.heap_setCell _ ⟨w.heap.size, 0, none⟩ _ k (show k ≠ w.heap.size by omega)))
  have hse : w3.heap.size ≤ (((w3.setCell ⟨w.heap.size, 0, none⟩ (.slice A0 n0 z0)).setCell ⟨w.heap.size, 1, none⟩ (.slice A1 n1 z1)).setCell ⟨w.heap.size, 2, none⟩ (.int .i64 x.front)).heap.size := by simp [World.setCell]
  have hw2 := hb02.size
  have ha : w.heap.size < (w.alloc (.cells #[.slice none 0 0, .slice none 0 0, .int .i64 0] 55)).drew.heap.size := by show _ < (w.alloc _).heap.size; simp
  have hs2 := hb2.size
  have g0 : ∀ k, (Value.slice A0 n0 z0).ownBlock = some k → w.heap.size < k ∧ k < w2.heap.size := fun k e => ⟨Nat.lt_of_lt_of_le ha (o0 k e), (r0.2 k e).2⟩
  have g1 : ∀ k, (Value.slice A1 n1 z1).ownBlock = some k → w2.heap.size ≤ k := o1
  go_wp2
  refine bodyPost_ret (results_cell1 (p := 2) rfl rfl (load_cont rfl hz6)) rfl ?_
  refine ⟨_, _, rfl, ((r0.on hb3).kept (fun k e => hke k (g0 k e).1) hse), (r1.kept (fun k e => hke k (by have := g1 k e; omega)) hse), fun k e => Nat.le_of_lt (g0 k e).1, fun k e => Nat.le_trans hw2 (g1 k e), fun k e1 e2 => ?_, hbe⟩
  have := (g0 k e1).2
  have := g1 k e2
  omega

end Go.Proofs.Ytoggdpkpfdilnaa
