/-
  The program's Clone.
-/
import Derived.Test.YtoggdpkpfdilnaaMd
namespace Go.Proofs.Ytoggdpkpfdilnaa
open Go.RowKit
attribute [local go_sem ↓] Go.wp_at_zero Go.wp_at_succ

theorem apart_of {g : Nat} {a0 a1 b0 b1 lv : Value} (la ha lb hb ll hl : Nat) (A0 : ∀ k, a0.ownBlock = some k → la ≤ k ∧ k < ha) (A1 : ∀ k, a1.ownBlock = some k → la ≤ k ∧ k < ha) (B0 : ∀ k, b0.ownBlock = some k → lb ≤ k ∧ k < hb) (B1 : ∀ k, b1.ownBlock = some k → lb ≤ k ∧ k < hb) (L : ∀ k, lv.ownBlock = some k → ll ≤ k ∧ k < hl)
    (hA : ∀ k, a0.ownBlock = some k → a1.ownBlock ≠ some k) (hBB : ∀ k, b0.ownBlock = some k → b1.ownBlock ≠ some k) (d1 : ha ≤ lb ∨ hb ≤ la) (d2 : ha ≤ ll ∨ hl ≤ la) (d3 : hb ≤ ll ∨ hl ≤ lb) (hg : ha ≤ g ∧ hb ≤ g ∧ hl ≤ g) : Apart (owns g a0 a1 b0 b1 lv) := by
  have F : ∀ n k : Nat, (owns g a0 a1 b0 b1 lv)[n]? = some (some k) → (n = 0 ∧ k = g) ∨ (n = 1 ∧ a0.ownBlock = some k ∧ la ≤ k ∧ k < ha) ∨ (n = 2 ∧ a1.ownBlock = some k ∧ la ≤ k ∧ k < ha) ∨ (n = 3 ∧ b0.ownBlock = some k ∧ lb ≤ k ∧ k < hb) ∨ (n = 4 ∧ b1.ownBlock = some k ∧ lb ≤ k ∧ k < hb) ∨ (n = 5 ∧ lv.ownBlock = some k ∧ ll ≤ k ∧ k < hl) := by
    intro n k e
    rcases n with _ | _ | _ | _ | _ | _ | n
    · exact .inl ⟨rfl, (Option.some.inj (Option.some.inj e)).symm⟩
    · have e := Option.some.inj e
      exact .inr (.inl ⟨rfl, e, A0 k e⟩)
    · have e := Option.some.inj e
      exact .inr (.inr (.inl ⟨rfl, e, A1 k e⟩))
    · have e := Option.some.inj e
      exact .inr (.inr (.inr (.inl ⟨rfl, e, B0 k e⟩)))
    · have e := Option.some.inj e
      exact .inr (.inr (.inr (.inr (.inl ⟨rfl, e, B1 k e⟩))))
    · have e := Option.some.inj e
      exact .inr (.inr (.inr (.inr (.inr ⟨rfl, e, L k e⟩))))
    · cases e
  intro i j k hij hi hj
  rcases F i k hi with ⟨ni, e⟩ | ⟨ni, e, e1, e2⟩ | ⟨ni, e, e1, e2⟩ | ⟨ni, e, e1, e2⟩ | ⟨ni, e, e1, e2⟩ | ⟨ni, e, e1, e2⟩ <;>
    rcases F j k hj with ⟨nj, f⟩ | ⟨nj, f, f1, f2⟩ | ⟨nj, f, f1, f2⟩ | ⟨nj, f, f1, f2⟩ | ⟨nj, f, f1, f2⟩ | ⟨nj, f, f1, f2⟩ <;>
    first | omega | exact hA k e f | exact hA k f e | exact hBB k e f | exact hBB k f e

theorem chgs_src {P : Program} {w : World} {B n : Nat} {v : Value} {l : List Chg} (h : RoomN w B v 3 n (chgCells l)) {tx e : TypeId} (hk : P.underlying tx = some (.slice e)) : Src P 3 tx v n (chgCells l) w := by
  obtain ⟨A, c, rfl, h1, h2, h3⟩ := h.slice
  rcases h3 with rfl | ⟨b, off, rfl, _, _, hr⟩
  · have : chgCells l = [] := List.eq_nil_of_length_eq_zero (by have := h.1; omega)
    rw [this]
    cases A with
    | none => exact Src.ofNil w hk c
    | some a => exact Src.ofSlice w hk a 0 c [] (by simp) (fun _ _ h => by simp at h) nofun
  · refine Src.ofSlice w hk _ _ c _ h.1 (fun j u hu => ?_) (chgCells_one l)
    obtain ⟨hj, e⟩ := List.getElem?_eq_some_iff.1 hu
    rw [Addr.add_lit, hr j hj, e]

/-- what a clone comes to -/
def Cloned (B : Nat) (s : Dsk) (w : World) (W : World) (g' : Nat) (a0 a1 b0 b1 lv : Value) : Prop := DiskAt W B g' s a0 a1 b0 b1 lv ∧ (∀ k, some k ∈ owns g' a0 a1 b0 b1 lv → w.heap.size ≤ k) ∧ Below w.heap.size w W
theorem clone_fin {w w1 w2 w3 Wa Wb Wl wE : World} {B g : Nat} {s : Dsk} {p0 p1 q0 q1 lv a0 a1 b0 b1 lv' : Value} (h : DiskAt w B g s p0 p1 q0 q1 lv) (hB : B ≤ w.heap.size)
    (ca : Copied B Wa s.last w1 a0 a1) (cb : Copied B Wb s.now w2 b0 b1) (cl : RoomN w3 B lv' 3 s.loose.length (chgCells s.loose)) (ol : ∀ k, lv'.ownBlock = some k → Wl.heap.size ≤ k)
    (t1 : Below w1.heap.size w1 wE) (t2 : Below w2.heap.size w2 wE) (t3 : Below w3.heap.size w3 wE) (hw : Below w.heap.size w wE) (sa : w.heap.size ≤ Wa.heap.size) (sb : w.heap.size ≤ Wb.heap.size) (sl : w.heap.size ≤ Wl.heap.size)
    (d1 : w1.heap.size ≤ Wb.heap.size ∨ w2.heap.size ≤ Wa.heap.size) (d2 : w1.heap.size ≤ Wl.heap.size ∨ w3.heap.size ≤ Wa.heap.size) (d3 : w2.heap.size ≤ Wl.heap.size ∨ w3.heap.size ≤ Wb.heap.size) :
    Cloned B s w (wE.alloc (.cells #[a0, a1, .int .i64 s.last.front, b0, b1, .int .i64 s.now.front, lv', .bool s.armed, .int .i64 s.left] 58)) wE.heap.size a0 a1 b0 b1 lv' := by
  have hal := bal wE (.cells #[a0, a1, .int .i64 s.last.front, b0, b1, .int .i64 s.now.front, lv', .bool s.armed, .int .i64 s.left] 58)
  obtain ⟨ra0, ra1, oa0, oa1, hpa, _⟩ := ca
  obtain ⟨rb0, rb1, ob0, ob1, hpb, _⟩ := cb
  have z1 := t1.size
  have z2 := t2.size
  have z3 := t3.size
  have zw := hw.size
  refine ⟨⟨boxF_made wE [a0, a1, .int .i64 s.last.front, b0, b1, .int .i64 s.now.front, lv', .bool s.armed, .int .i64 s.left] _, by omega, (ra0.on t1).on hal, (ra1.on t1).on hal, (rb0.on t2).on hal, (rb1.on t2).on hal, (cl.on t3).on hal, h.ok, h.lf,
    apart_of Wa.heap.size w1.heap.size Wb.heap.size w2.heap.size Wl.heap.size w3.heap.size (fun k e => ⟨oa0 k e, (ra0.2 k e).2⟩) (fun k e => ⟨oa1 k e, (ra1.2 k e).2⟩) (fun k e => ⟨ob0 k e, (rb0.2 k e).2⟩) (fun k e => ⟨ob1 k e, (rb1.2 k e).2⟩) (fun k e => ⟨ol k e, cl.own_lt k e⟩) hpa hpb d1 d2 d3 (by omega)⟩, fun k hk => ?_, bt hw hal⟩
  simp only [owns, List.mem_cons, List.not_mem_nil, or_false] at hk
  rcases hk with e | e | e | e | e | e
  · injection e with e
    omega
  · have := oa0 k e.symm; omega
  · have := oa1 k e.symm; omega
  · have := ob0 k e.symm; omega
  · have := ob1 k e.symm; omega
  · have := ol k e.symm; omega

set_option maxRecDepth 100000 in
set_option maxHeartbeats 2000000 in
theorem clone_any (w : World) (B g : Nat) (s : Dsk) (p0 p1 q0 q1 lv : Value) (h : DiskAt w B g s p0 p1 q0 q1 lv) (hB : B ≤ w.heap.size) (hri : s.right) (hm : s.mass ≤ 900000) :
    Calls Try.prog 33 #[.pointer (some ⟨g, 0, none⟩)] w fun e w' => ∃ g' a0 a1 b0 b1 lv', e = .returned (.pointer (some ⟨g', 0, none⟩)) ∧ Cloned B s w w' g' a0 a1 b0 b1 lv' := by
  obtain ⟨j, hj, hz0, hz1, hz2⟩ := info_parts chg_info
  have hnm := Dsk.now_mass hri
  have hlm := massL_len s.loose
  have hm0 : s.last.mass ≤ 1000000000 ∧ s.loose.length ≤ 900000 := by unfold Dsk.mass at hm; omega
  have RA0 : Hid (∀ W, Below w.heap.size w W → Calls Try.prog 40 #[.pointer (some ⟨g, 0, none⟩)] W fun e w' => ∃ v0 v1, e = .returned (.agg #[v0, v1, .int .i64 s.last.front]) ∧ Copied B W s.last w' v0 v1) := fun W hb => by
    have hd := h.on hb
    exact apart_any g 0 p0 p1 s.last W B (hd.box.get 0 rfl) (hd.box.get 1 rfl) (hd.box.get 2 rfl) hd.box.1 hd.r0 hd.r1 (Nat.le_trans hB hb.size) hm0.1
  have RA1 : Hid (∀ W, Below w.heap.size w W → Calls Try.prog 40 #[.pointer (some ⟨g, 3, none⟩)] W fun e w' => ∃ v0 v1, e = .returned (.agg #[v0, v1, .int .i64 s.now.front]) ∧ Copied B W s.now w' v0 v1) := fun W hb => by
    have hd := h.on hb
    exact apart_any g 3 q0 q1 s.now W B (hd.box.get 3 rfl) (hd.box.get 4 rfl) (hd.box.get 5 rfl) hd.box.1 hd.n0 hd.n1 (Nat.le_trans hB hb.size) (by omega)
  have HC : Hid (∀ W, Below w.heap.size w W → W.cell? ⟨g, 6, none⟩ = some lv ∧ W.cell? ⟨g, 7, none⟩ = some (.bool s.armed) ∧ W.cell? ⟨g, 8, none⟩ = some (.int .i64 s.left)) := fun W hb => by
    have hd := h.on hb
    exact ⟨hd.box.get 6 rfl, hd.box.get 7 rfl, hd.box.get 8 rfl⟩
  have HSR : Hid (∀ W, Below w.heap.size w W → Src Try.prog 3 56 lv s.loose.length (chgCells s.loose) W) := fun W hb => chgs_src (h.on hb).lo Try.underlying56
  have HBB : Hid (∀ W, Below w.heap.size w W → B ≤ W.heap.size) := fun W hb => Nat.le_trans hB hb.size
  have hb0 : Below w.heap.size w w.drew := (Below.refl _ _).drew
  have y1 : 0 + s.loose.length ≤ 1000000 := by omega
  have y2 : (0 + s.loose.length) * 32 ≤ 140737488355328 := by omega
  have hyl : (chgCells s.loose).length = s.loose.length * 3 := chgCells_len _
  obtain ⟨A, z, hlv, _⟩ := h.lo.slice
  subst hlv
  have H0 := Lib.hid h
  have HB := Lib.hid hB
  clear h hB hri hm hnm hlm hm0
  go_enter Try.func33, Try.ntmps33
  go_wp2
  first | (go_region_held3 (fun W => W.cell? ⟨g, 6, none⟩ = some (.slice A s.loose.length z) ∧ W.cell? ⟨g, 7, none⟩ = some (.bool s.armed) ∧ W.cell? ⟨g, 8, none⟩ = some (.int .i64 s.left)) (first | exact HC.out _ hb3 | exact HC.out _ hb2 | exact HC.out _ hb1 | exact HC.out _ hb0 | exact HC.out _ (bt hb3 (bal _ _)) | exact HC.out _ (bt hb2 (bal _ _))) (first
    | (go_at_call 40; (with_reducible refine (RA0.out _ (by first | exact hb3 | exact hb0)).mono ?_); rintro e w1 ⟨a0, a1, rfl, ca⟩; have hb1 : Below w.heap.size w w1 := (by first | exact bt hb3 ca.2.2.2.2.2 | exact bt hb0 ca.2.2.2.2.2); obtain ⟨Aa, za, hva, _⟩ := ca.1.slice; obtain ⟨Ab, zb, hvb, _⟩ := ca.2.1.slice; generalize s.last.a0.length = na at hva; generalize s.last.a1.length = nb at hvb; subst hva hvb)
    | (go_at_call 40; (with_reducible refine (RA1.out _ (by first | exact hb3 | exact hb1)).mono ?_); rintro e w2 ⟨b0, b1, rfl, cb⟩; have hb2 : Below w.heap.size w w2 := (by first | exact bt hb3 cb.2.2.2.2.2 | exact bt hb1 cb.2.2.2.2.2); obtain ⟨Ac, zc, hvc, _⟩ := cb.1.slice; obtain ⟨Ad, zd, hvd, _⟩ := cb.2.1.slice; generalize s.now.a0.length = nc at hvc; generalize s.now.a1.length = nd at hvd; subst hvc hvd)
    | ((refine step_appendN (B := B) (n := 3) (k := 0) (m := s.loose.length) (cs := []) (ys := chgCells s.loose) (by rfl) (.const (.slice none 0 0)) (.tmp 14) 56 56 (by rfl) 73 j _ 32 Try.underlying56 hj hz0 hz1 rfl hz2 RoomN.nil (HBB.out _ (by first | exact hb2 | exact hb1 | exact hb0)) (HSR.out _ (by first | exact hb2 | exact hb1 | exact hb0)) hyl y1 y2 (by rfl) (by rfl) ?_; intro v3 w3 h3 qb3 hk3 ho3; rw [Nat.zero_add, List.nil_append] at h3; have wb3 := below_kept (B' := _) qb3 hk3 (fun _ h => by cases h) (Nat.le_refl _); have hb3 : Below w.heap.size w w3 := (by first | exact bt hb2 wb3 | exact bt hb1 wb3 | exact bt hb0 wb3); obtain ⟨Al, zl, hvl, _⟩ := h3.slice; subst hvl)))) | fail
  go_wp2
  go_ret
  exact ⟨_, _, _, _, _, _, rfl, clone_fin H0.out HB.out ca cb h3 (Wl := w2) (fun k e => (ho3 k e).elim (fun q => nomatch q) id) (bt cb.2.2.2.2.2 wb3) wb3 (Below.refl _ _) hb3 (Nat.le_refl _) hb1.size hb2.size (.inl (Nat.le_refl _)) (.inl cb.2.2.2.2.2.size) (.inl (Nat.le_refl _))⟩

end Go.Proofs.Ytoggdpkpfdilnaa
