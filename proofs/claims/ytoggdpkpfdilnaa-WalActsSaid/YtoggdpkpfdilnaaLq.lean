/-
  The document's own Do.
-/
import Derived.Test.YtoggdpkpfdilnaaLp
namespace Go.Proofs.Ytoggdpkpfdilnaa
open Go.RowKit
attribute [local go_sem ↓] Go.wp_at_zero Go.wp_at_succ

/-- the three cells that Do's walk begins with -/
theorem three_at (w : World) (pv rv vb : Value) (sf q kp tn : Int) : ∃ w3 : World, w3 = ((w.alloc (.cells #[pv, rv, .int .i64 sf] 34)).alloc (.cells #[.int .u8 q, vb, .int .i64 kp, .int .i64 tn] 36)).alloc (.cells #[.slice none 0 0, .slice none 0 0, .int .i64 0] 34) ∧
    Below w.heap.size w w3 ∧ w3.heap.size = w.heap.size + 1 + 1 + 1 ∧ BoxF w.heap.size [pv, rv, .int .i64 sf] w3 ∧ BoxF (w.heap.size + 1) [.int .u8 q, vb, .int .i64 kp, .int .i64 tn] w3 ∧ BoxF (w.heap.size + 1 + 1) [.slice none 0 0, .slice none 0 0, .int .i64 0] w3 := by
  obtain ⟨w1, h1⟩ : ∃ x, x = w.alloc (.cells #[pv, rv, .int .i64 sf] 34) := ⟨_, rfl⟩
  obtain ⟨w2, h2⟩ : ∃ x, x = w1.alloc (.cells #[.int .u8 q, vb, .int .i64 kp, .int .i64 tn] 36) := ⟨_, rfl⟩
  obtain ⟨w3, h3⟩ : ∃ x, x = w2.alloc (.cells #[.slice none 0 0, .slice none 0 0, .int .i64 0] 34) := ⟨_, rfl⟩
  have s1 : w1.heap.size = w.heap.size + 1 := by rw [h1]; simp
  have s2 : w2.heap.size = w.heap.size + 1 + 1 := by rw [h2, ← s1]; simp
  have s3 : w3.heap.size = w.heap.size + 1 + 1 + 1 := by rw [h3, ← s2]; simp
  have b1 : Below w.heap.size w w1 := by rw [h1]; exact bal _ _
  have b2 : Below w1.heap.size w1 w2 := by rw [h2]; exact bal _ _
  have b3 : Below w2.heap.size w2 w3 := by rw [h3]; exact bal _ _
  have x1 : BoxF w.heap.size [pv, rv, .int .i64 sf] w1 := by rw [h1]; exact boxF_made _ _ _
  have x2 : BoxF w1.heap.size [.int .u8 q, vb, .int .i64 kp, .int .i64 tn] w2 := by rw [h2]; exact boxF_made _ _ _
  have x3 : BoxF w2.heap.size [.slice none 0 0, .slice none 0 0, .int .i64 0] w3 := by rw [h3]; exact boxF_made _ _ _
  rw [s1] at x2
  rw [s2] at x3
  exact ⟨w3, by rw [h3, h2, h1], bt b1 (bt b2 b3), s3, (x1.on b2).on b3, x2.on b3, x3⟩

theorem three_last (w : World) (o1 o2 : Obj) (vs : List Value) (e : TypeId) : Box (w.heap.size + 1 + 1) vs (((w.alloc o1).alloc o2).alloc (.cells vs.toArray e)) ∧ Below w.heap.size w (((w.alloc o1).alloc o2).alloc (.cells vs.toArray e)) := by
  have h := box_made ((w.alloc o1).alloc o2) vs e
  rw [show ((w.alloc o1).alloc o2).heap.size = w.heap.size + 1 + 1 by simp] at h
  exact ⟨h, bt (bal _ _) (bt (bal _ _) (bal _ _))⟩

section
variable (a : Actd) (vb pv rv : Value) (p : List UInt8) (rs : List (List UInt8)) (sf : Int) (w : World) (B : Nat) (F : Nat → Prop) (hB : B ≤ w.heap.size) (hF : ∀ k, F k → k < w.heap.size) (h : HeldIn w B F pv rv p rs) (hs : Seen w B vb a.b)
include hB h hs

set_option maxRecDepth 100000 in
set_option maxHeartbeats 1000000 in
theorem do_flush (hk : a.kind.toNat % 6 = 2) :
    Calls Try.prog 12 #[.agg #[pv, rv, .int .i64 sf], .agg #[.int .u8 (a.kind.toNat : Int), vb, .int .i64 a.keep, .int .i64 a.torn]] w fun e w' => e = .returned (.agg #[pv, rv, .int .i64 (rs.length : Int)]) ∧ HeldIn w' B F pv rv p rs ∧ Below w.heap.size w w' := by
  obtain ⟨q, hqe⟩ : ∃ q : Nat, q = a.kind.toNat := ⟨_, rfl⟩
  have hq2 : q < 256 := by rw [hqe]; exact UInt8.toNat_lt _
  rw [← hqe] at hk ⊢
  have HK : (q : Int) % 6 = 2 := by omega
  have H0 := Lib.hid h
  have HBB := Lib.hid hB
  obtain ⟨⟨A1, c1, rfl, _⟩, A2, c2, vs, rfl, hlc, hcm, _⟩ := h
  obtain ⟨Ab, cb, rfl, _⟩ := hs
  clear hqe hk hB
  go_enter Try.func12, Try.ntmps12
  go_wp2
  refine bodyPost_ret (results_cell1 (p := 4) rfl rfl (load_held rfl (three_last w _ _ [.slice A1 p.length c1, .slice A2 rs.length c2, .int .i64 (rs.length : Int)] _).1)) rfl ?_
  exact ⟨rfl, H0.out.on HBB.out (three_last w _ _ _ _).2, (three_last w _ _ _ _).2⟩
set_option maxRecDepth 100000 in
set_option maxHeartbeats 1000000 in
theorem do_save (hk : a.kind.toNat % 6 = 3) :
    Calls Try.prog 12 #[.agg #[pv, rv, .int .i64 sf], .agg #[.int .u8 (a.kind.toNat : Int), vb, .int .i64 a.keep, .int .i64 a.torn]] w fun e w' => e = .returned (.agg #[vb, .slice none 0 0, .int .i64 0]) ∧ HeldIn w' B F vb (.slice none 0 0) a.b [] ∧ Below w.heap.size w w' := by
  obtain ⟨q, hqe⟩ : ∃ q : Nat, q = a.kind.toNat := ⟨_, rfl⟩
  have hq2 : q < 256 := by rw [hqe]; exact UInt8.toNat_lt _
  rw [← hqe] at hk ⊢
  have HK : (q : Int) % 6 = 3 := by omega
  have HS := Lib.hid hs
  have HBB := Lib.hid hB
  obtain ⟨⟨A1, c1, rfl, _⟩, A2, c2, vs, rfl, hlc, hcm, _⟩ := h
  obtain ⟨Ab, cb, rfl, _⟩ := hs
  clear hqe hk hB
  go_enter Try.func12, Try.ntmps12
  go_wp2
  refine bodyPost_ret (results_cell1 (p := 4) rfl rfl (load_held rfl (three_last w _ _ [.slice Ab a.b.length cb, .slice none 0 0, .int .i64 0] _).1)) rfl ?_
  exact ⟨rfl, (show HeldIn w B F (.slice Ab a.b.length cb) (.slice none 0 0) a.b [] from ⟨HS.out, HeldIn.nil.2⟩).on HBB.out (three_last w _ _ _ _).2, (three_last w _ _ _ _).2⟩

include hF
set_option maxRecDepth 100000 in
set_option maxHeartbeats 4000000 in
theorem do_add (hn : rs.length ≤ 1000) (hk : a.kind.toNat % 6 ≤ 1) :
    Calls Try.prog 12 #[.agg #[pv, rv, .int .i64 sf], .agg #[.int .u8 (a.kind.toNat : Int), vb, .int .i64 a.keep, .int .i64 a.torn]] w fun e w' => ∃ V, e = .returned (.agg #[pv, V, .int .i64 sf]) ∧ HeldIn w' B F pv V p (rs ++ [a.b]) ∧ (∀ k, V.ownBlock = some k → w.heap.size ≤ k) ∧ Below w.heap.size w w' := by
  obtain ⟨j, hj, hy0, hy1, hy2⟩ := info_parts rows_info
  obtain ⟨q, hqe⟩ : ∃ q : Nat, q = a.kind.toNat := ⟨_, rfl⟩
  have hq2 : q < 256 := by rw [hqe]; exact UInt8.toNat_lt _
  rw [← hqe] at hk ⊢
  have HK : (q : Int) % 6 ≤ 1 := by omega
  have K2 : ((q : Int) % 6 == 2) = false := by simpa using (show ¬ (q : Int) % 6 = 2 by omega)
  have K3 : ((q : Int) % 6 == 3) = false := by simpa using (show ¬ (q : Int) % 6 = 3 by omega)
  obtain ⟨w3, hw3, hb3, hz3, x1, x2, x3⟩ := three_at w pv rv vb sf (q : Int) a.keep a.torn
  have H0 := Lib.hid h
  have HBB := Lib.hid hB
  have HFF := Lib.hid hF
  have HSB := Lib.hid hs
  have h' := h
  obtain ⟨⟨A1, c1, rfl, _⟩, A2, c2, _, rfl, hlc, hcm, _⟩ := h'
  obtain ⟨vs, hvl, hvs, hsrc⟩ := h.src (P := Try.prog) Try.underlying29
  obtain ⟨Ab, cb, rfl, _⟩ := hs
  have HVL : Hid (vs.length = rs.length * 1) := by show _ = _; omega
  have HVS : Hid (∀ i (h : i < rs.length) (h' : i < vs.length), Seen w B vs[i] rs[i]) := hvs
  have HSR := Lib.hid hsrc
  have HW3 := Lib.hid hb3
  have HSZ := Lib.hid hz3
  have HBX := Lib.hid x1
  have HBA := Lib.hid x2
  have HBZ := Lib.hid x3
  have HE3 := Lib.hid hw3
  have q1 : 0 + rs.length ≤ 1000000 := by omega
  have q2 : (0 + rs.length) * 24 ≤ 140737488355328 := by omega
  have q3 : rs.length + 1 ≤ 1000000 := by omega
  have q4 : (rs.length + 1) * 24 ≤ 140737488355328 := by omega
  have HONE : Hid (∀ u ∈ ([.slice Ab a.b.length cb] : List Value), u.oneCell' = true) := fun u hu => by rw [List.mem_singleton] at hu; rw [hu]; rfl
  clear hqe hk hB hF h hvl hvs hsrc hb3 hz3 x1 x2 x3 hw3
  go_enter Try.func12, Try.ntmps12
  go_wp2
  rw [← HE3.out]
  have y1 : w3.cell? ⟨w.heap.size, 1, none⟩ = some (.slice A2 rs.length c2) := HBX.out.get 1 rfl
  have e1 : w3.cell? ⟨w.heap.size + 1, 1, none⟩ = some (.slice Ab a.b.length cb) := HBA.out.get 1 rfl
  have aE : Below w3.heap.size w3 (w3.alloc (.cells #[] 28)) := bal _ _
  have aC : Below w3.heap.size w3 (w3.alloc (.cells #[.slice Ab a.b.length cb] 28)) := bal _ _
  have aEC : Below w3.heap.size w3 ((w3.alloc (.cells #[] 28)).alloc (.cells #[.slice Ab a.b.length cb] 28)) := bt aE (bal _ _)
  have aCE : Below w3.heap.size w3 ((w3.alloc (.cells #[.slice Ab a.b.length cb] 28)).alloc (.cells #[] 28)) := bt aC (bal _ _)
  have y1E : (w3.alloc (.cells #[] 28)).cell? ⟨w.heap.size, 1, none⟩ = some (.slice A2 rs.length c2) := (HBX.out.on aE).get 1 rfl
  have y1C : (w3.alloc (.cells #[.slice Ab a.b.length cb] 28)).cell? ⟨w.heap.size, 1, none⟩ = some (.slice A2 rs.length c2) := (HBX.out.on aC).get 1 rfl
  have y1EC : ((w3.alloc (.cells #[] 28)).alloc (.cells #[.slice Ab a.b.length cb] 28)).cell? ⟨w.heap.size, 1, none⟩ = some (.slice A2 rs.length c2) := (HBX.out.on aEC).get 1 rfl
  have y1CE : ((w3.alloc (.cells #[.slice Ab a.b.length cb] 28)).alloc (.cells #[] 28)).cell? ⟨w.heap.size, 1, none⟩ = some (.slice A2 rs.length c2) := (HBX.out.on aCE).get 1 rfl
  have e1E := (HBA.out.on aE).get 1 rfl
  have bA : Below w3.heap.size w3 ((w3.alloc (.cells #[] 28)).alloc (.cells #[.slice Ab a.b.length cb] 28)).drew := aEC.drew
  have hBA : w3.heap.size ≤ ((w3.alloc (.cells #[] 28)).alloc (.cells #[.slice Ab a.b.length cb] 28)).drew.heap.size := bA.size
  have R0A : RoomN ((w3.alloc (.cells #[] 28)).alloc (.cells #[.slice Ab a.b.length cb] 28)).drew w3.heap.size (.slice (some ⟨w3.heap.size, 0, none⟩) 0 0) 1 0 [] := room_at (by omega) (by show _ < ((w3.alloc (.cells #[] 28)).alloc (.cells #[.slice Ab a.b.length cb] 28)).heap.size; simp only [World.size_alloc]; omega)
  have hsrcA := HSR.out _ (HW3.out.trans (bA.mono HW3.out.size))
  have bB : Below w3.heap.size w3 ((w3.alloc (.cells #[.slice Ab a.b.length cb] 28)).alloc (.cells #[] 28)).drew := aCE.drew
  have hBB : w3.heap.size ≤ ((w3.alloc (.cells #[.slice Ab a.b.length cb] 28)).alloc (.cells #[] 28)).drew.heap.size := bB.size
  have R0B : RoomN ((w3.alloc (.cells #[.slice Ab a.b.length cb] 28)).alloc (.cells #[] 28)).drew w3.heap.size (.slice (some ⟨(w3.heap.size + 1), 0, none⟩) 0 0) 1 0 [] := room_at (by omega) (by show _ < ((w3.alloc (.cells #[.slice Ab a.b.length cb] 28)).alloc (.cells #[] 28)).heap.size; simp only [World.size_alloc]; omega)
  have hsrcB := HSR.out _ (HW3.out.trans (bB.mono HW3.out.size))
  have bC : Below w3.heap.size w3 (w3.alloc (.cells #[] 28)).drew := aE.drew
  have hBC : w3.heap.size ≤ (w3.alloc (.cells #[] 28)).drew.heap.size := bC.size
  have R0C : RoomN (w3.alloc (.cells #[] 28)).drew w3.heap.size (.slice (some ⟨w3.heap.size, 0, none⟩) 0 0) 1 0 [] := room_at (by omega) (by show _ < (w3.alloc (.cells #[] 28)).heap.size; simp only [World.size_alloc]; omega)
  have hsrcC := HSR.out _ (HW3.out.trans (bC.mono HW3.out.size))
  have bxA : Box (w3.heap.size + 1) [.slice Ab a.b.length cb] ((w3.alloc (.cells #[] 28)).alloc (.cells #[.slice Ab a.b.length cb] 28)).drew := by
    have h := box_made (w3.alloc (.cells #[] 28)) [.slice Ab a.b.length cb] 28
    rw [show (w3.alloc (.cells #[] 28)).heap.size = w3.heap.size + 1 by simp] at h
    exact h.on (Below.refl _ _).drew
  have bxB : Box w3.heap.size [.slice Ab a.b.length cb] ((w3.alloc (.cells #[.slice Ab a.b.length cb] 28)).alloc (.cells #[] 28)).drew := ((box_made w3 [.slice Ab a.b.length cb] 28).on (bal _ _)).on (Below.refl _ _).drew
  go_cut [] from 11 to 19 (fun wx => ∃ V, BoxF w.heap.size [.slice A1 p.length c1, V, .int .i64 sf] wx ∧ BoxF (w.heap.size + 1 + 1) [.slice none 0 0, .slice none 0 0, .int .i64 0] wx ∧ RoomN wx w3.heap.size V 1 (rs.length + 1) (vs ++ [.slice Ab a.b.length cb]) ∧ Below w.heap.size w wx)
  case first =>
    first | (go_region_law (first
    | (refine step_appendN (B := w3.heap.size) (n := 1) (k := 0) (m := rs.length) (cs := []) (ys := vs) (by rfl) (.tmp 11) (.tmp 13) 29 29 (by rfl) 28 j _ 24 Try.underlying29 hj hy0 hy1 rfl hy2 R0A hBA hsrcA HVL.out q1 q2 (by rfl) (by rfl) ?_; intro v5 w5 h5 hb5 hk5 ho5; rw [Nat.zero_add, List.nil_append] at h5; obtain ⟨A5, z5, hv5, _⟩ := h5.slice; subst hv5; have S5 := srcN_at (P := Try.prog) rfl HONE.out (bxA.kept (hk5 _ bxA.1 (by show some w3.heap.size ≠ some (w3.heap.size + 1); simp)) hb5.size) Try.underlying29; have b5 := bA.trans (hb5.mono (Nat.le_refl _)); have hB5 := b5.size; have x15 := (HBX.out.on b5).get 1 rfl; have f15 := (HBX.out.on b5).free 1 (by simp))
    | (refine step_appendN (B := w3.heap.size) (n := 1) (k := 0) (m := rs.length) (cs := []) (ys := vs) (by rfl) (.tmp 11) (.tmp 13) 29 29 (by rfl) 28 j _ 24 Try.underlying29 hj hy0 hy1 rfl hy2 R0B hBB hsrcB HVL.out q1 q2 (by rfl) (by rfl) ?_; intro v5 w5 h5 hb5 hk5 ho5; rw [Nat.zero_add, List.nil_append] at h5; obtain ⟨A5, z5, hv5, _⟩ := h5.slice; subst hv5; have S5 := srcN_at (P := Try.prog) rfl HONE.out (bxB.kept (hk5 _ bxB.1 (by show some (w3.heap.size + 1) ≠ some w3.heap.size; simp)) hb5.size) Try.underlying29; have b5 := bB.trans (hb5.mono (Nat.le_refl _)); have hB5 := b5.size; have x15 := (HBX.out.on b5).get 1 rfl; have f15 := (HBX.out.on b5).free 1 (by simp))
    | (refine step_appendN (B := w3.heap.size) (n := 1) (k := 0) (m := rs.length) (cs := []) (ys := vs) (by rfl) (.tmp 11) (.tmp 13) 29 29 (by rfl) 28 j _ 24 Try.underlying29 hj hy0 hy1 rfl hy2 R0C hBC hsrcC HVL.out q1 q2 (by rfl) (by rfl) ?_; intro v5 w5 h5 hb5 hk5 ho5; rw [Nat.zero_add, List.nil_append] at h5; obtain ⟨A5, z5, hv5, _⟩ := h5.slice; subst hv5; have b5 := bC.trans (hb5.mono (Nat.le_refl _)); have hA5 := HBA.out.on b5; have e15 := hA5.get 1 rfl; have a5 := bal w5 (.cells #[.slice Ab a.b.length cb] 28); have b5C := b5.trans (a5.mono b5.size); have S5C := srcN_at (P := Try.prog) rfl HONE.out (box_made w5 [.slice Ab a.b.length cb] 28) Try.underlying29; have h5C := h5.on a5; have hB5C := b5C.size)
    | (refine step_appendN (B := w3.heap.size) (n := 1) (k := rs.length) (m := 1) (cs := vs) (ys := [.slice Ab a.b.length cb]) (by rfl) (.tmp 14) (.tmp 17) 29 29 (by rfl) 28 j _ 24 Try.underlying29 hj hy0 hy1 rfl hy2 h5 hB5 S5 rfl q3 q4 (by rfl) (by rfl) ?_; intro v6 w6 h6 hb6 hk6 ho6; have hb36 : Below w3.heap.size w3 w6 := b5.trans hb6; have HBX6 := Lib.hid (HBX.out.on hb36); have HBZ6 := Lib.hid (HBZ.out.on hb36); have HB36 := Lib.hid hb36; have x0 := HBX6.out.get 0 rfl; have x1 := HBX6.out.get 1 rfl; have x2 := HBX6.out.get 2 rfl; have f1 := HBX6.out.free 1 (by simp); obtain ⟨A6, c6, hv6, _⟩ := h6.slice; subst hv6; have H6 := Lib.hid h6; clear hb36)
    | (refine step_appendN (B := w3.heap.size) (n := 1) (k := rs.length) (m := 1) (cs := vs) (ys := [.slice Ab a.b.length cb]) (by rfl) (.tmp 14) (.tmp 17) 29 29 (by rfl) 28 j _ 24 Try.underlying29 hj hy0 hy1 rfl hy2 h5C hB5C S5C rfl q3 q4 (by rfl) (by rfl) ?_; intro v6 w6 h6 hb6 hk6 ho6; have hb36 : Below w3.heap.size w3 w6 := b5C.trans hb6; have HBX6 := Lib.hid (HBX.out.on hb36); have HBZ6 := Lib.hid (HBZ.out.on hb36); have HB36 := Lib.hid hb36; have x0 := HBX6.out.get 0 rfl; have x1 := HBX6.out.get 1 rfl; have x2 := HBX6.out.get 2 rfl; have f1 := HBX6.out.free 1 (by simp); obtain ⟨A6, c6, hv6, _⟩ := h6.slice; subst hv6; have H6 := Lib.hid h6; clear hb36))) | fail
    all_goals (go_wp2_with fail; go_meet; exact ⟨_, (HBX6.out.set 1 (by simp) _ : _), HBZ6.out.other (o := 1) _ (by omega), H6.out.kept (fun g hg => Below.heap_setCell _ ⟨w.heap.size, 1, none⟩ _ g (show g ≠ w.heap.size by have := H6.out.own_ge g hg; have := HSZ.out; omega)) (by simp [World.setCell]), (HW3.out.trans (HB36.out.mono HW3.out.size)).trans (below_set (Below.refl _ _) w.heap.size 1 _ (Nat.le_refl _))⟩)
  case rest =>
    obtain ⟨V, hbx, hbz, hrm, hbw⟩ := hcut
    have HBX6 := Lib.hid hbx
    have HBZ6 := Lib.hid hbz
    have HRM := Lib.hid hrm
    have HBW := Lib.hid hbw
    obtain ⟨A6, c6, hv6, hl6, hc6, hrow6⟩ := hrm.slice
    subst hv6
    have HL6 : Hid (rs.length + 1 ≤ c6 ∧ c6 ≤ maxLen ∧ (rs.length + 1 = 0 ∨ ∃ b off, A6 = some ⟨b, off, none⟩ ∧ w3.heap.size ≤ b ∧ b < wc.heap.size ∧ RowV wc b off (vs ++ [.slice Ab a.b.length cb]))) := ⟨hl6, hc6, hrow6⟩
    have x0 := hbx.get 0 rfl
    have x1 := hbx.get 1 rfl
    have x2 := hbx.get 2 rfl
    have z0 := hbz.get 0 rfl
    have z1 := hbz.get 1 rfl
    have z2 := hbz.get 2 rfl
    clear hbx hbz hrm hbw hl6 hc6 hrow6
    have f0 := HBZ6.out.free 0 (by simp)
    have f1 := HBZ6.out.free 1 (by simp)
    have f2 := HBZ6.out.free 2 (by simp)
    go_wp2
    have hp3 := put3_below wc (show w.heap.size ≤ w.heap.size + 1 + 1 by omega) (.slice A1 p.length c1) (.slice A6 (rs.length + 1) c6) (.int .i64 sf)
    have hbE := HBW.out.trans hp3
    refine bodyPost_ret (results_cell1 (p := 4) rfl rfl (load_held rfl (put3_box HBZ6.out (.slice A1 p.length c1) (.slice A6 (rs.length + 1) c6) (.int .i64 sf)).box)) rfl ?_
    obtain ⟨hl6, hc6, hrow6⟩ := HL6.out
    have hvl : vs.length = rs.length := by have := HVL.out; omega
    have hbB := hbE.mono HBB.out
    refine ⟨_, rfl, ⟨H0.out.1.below hbB, A6, c6, vs ++ [.slice Ab a.b.length cb], by rw [List.length_append]; rfl, by rw [List.length_append]; exact hl6, hc6, by rw [List.length_append, List.length_append, hvl]; rfl, .inr ?_, fun i hi hi' => ?_⟩, fun k e => by have := HRM.out.own_ge k e; have := HSZ.out; omega, hbE⟩
    · rcases hrow6 with h | ⟨b, off, rfl, q1, q2, q3⟩
      · omega
      · have hsz := HSZ.out
        exact ⟨b, off, rfl, Nat.lt_of_lt_of_le q2 hp3.size, fun q => by have := HFF.out b q; omega, q3.congr (put3_other _ _ _ _ _ b (by omega))⟩
    · rw [List.length_append, List.length_singleton] at hi hi'
      by_cases hil : i < rs.length
      · rw [List.getElem_append_left (by omega), List.getElem_append_left hil]
        exact (HVS.out i hil (by omega)).below hbB
      · obtain rfl : i = rs.length := by omega
        rw [List.getElem_append_right (by omega), List.getElem_append_right (by omega)]
        simp only [hvl, Nat.sub_self, List.getElem_singleton]
        exact HSB.out.below hbB
end

end Go.Proofs.Ytoggdpkpfdilnaa
