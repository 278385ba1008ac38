/-
  The document's own act: a sync (made by disk-sync-gen.py).
-/
import Derived.Test.YtcdobelhchlheaaDo2
namespace Go.Proofs.Ytcdobelhchlheaa
open Go.RowKit
attribute [local go_sem ↓] Go.wp_at_zero Go.wp_at_succ


theorem room3 (w : World) (o1 o2 o3 : Obj) : RoomN ((((w.alloc o1).alloc o2).alloc o3).alloc (.cells #[] 32)) (w.heap.size + 1 + 1 + 1) (.slice (some ⟨w.heap.size + 1 + 1 + 1, 0, none⟩) 0 0) 5 0 [] := RoomN.empty (Nat.le_refl _) (by simp)
theorem boxF1 (w : World) (vs : List Value) (T : TypeId) (o2 o3 o4 : Obj) : BoxF w.heap.size vs ((((w.alloc (.cells vs.toArray T)).alloc o2).alloc o3).alloc o4) := (((boxF_made w vs T).on (bal _ _)).on (bal _ _)).on (bal _ _)
theorem below4 (w : World) (o1 o2 o3 o4 : Obj) : Below w.heap.size w ((((w.alloc o1).alloc o2).alloc o3).alloc o4) := bt (below3 w o1 o2 o3) (bal _ _)
theorem size4 (w : World) (o1 o2 o3 o4 : Obj) : ((((w.alloc o1).alloc o2).alloc o3).alloc o4).heap.size = w.heap.size + 1 + 1 + 1 + 1 := by simp

set_option maxRecDepth 100000 in
set_option maxHeartbeats 1000000 in
theorem do_syncN (d : Dskd) (a : Actd) (sv lv vb : Value) (w : World) (B0 : Nat) (X : Nat → Prop) (hB0 : B0 ≤ w.heap.size) (hl : d.liesIn w B0 X sv lv) (hs : Seen w B0 vb a.b) (hn : d.safe.length + d.loose.length ≤ 100000) (hk : a.kind.toNat % 6 = 3) :
    Calls Try.prog 12 #[.agg #[sv, lv, .int .i64 d.left, .bool false, .bool false], .agg #[.int .u8 (a.kind.toNat : Int), .int .i64 a.area, vb, .int .i64 a.n, .int .i64 a.m]] w (Done7 B0 X w ⟨d.safe ++ d.loose, [], d.left, false, false⟩ 0) := by
  obtain ⟨j, hj, hz0, hz1, hz2⟩ := info_parts act_info
  obtain ⟨q, hq⟩ : ∃ q : Nat, q = a.kind.toNat := ⟨_, rfl⟩
  have hq2 : q < 256 := by rw [hq]; exact UInt8.toNat_lt _
  rw [← hq] at hk ⊢
  have HK : (q : Int) % 6 = 3 := by omega
  obtain ⟨A1, n1, c1, hv1⟩ := acts_slice hl.1
  obtain ⟨A2, n2, c2, hv2⟩ := acts_slice hl.2
  obtain ⟨Ab, cb, hvb, _⟩ := hs
  have R0 := room3 w (.cells #[sv, lv, .int .i64 d.left, .bool false, .bool false] 28) (.cells #[.int .u8 (q : Int), .int .i64 a.area, vb, .int .i64 a.n, .int .i64 a.m] 32) (.cells #[.slice none 0 0, .slice none 0 0, .int .i64 0, .bool false, .bool false] 28)
  have hb4 := below4 w (.cells #[sv, lv, .int .i64 d.left, .bool false, .bool false] 28) (.cells #[.int .u8 (q : Int), .int .i64 a.area, vb, .int .i64 a.n, .int .i64 a.m] 32) (.cells #[.slice none 0 0, .slice none 0 0, .int .i64 0, .bool false, .bool false] 28) (.cells #[] 32)
  have hs4 := size4 w (.cells #[sv, lv, .int .i64 d.left, .bool false, .bool false] 28) (.cells #[.int .u8 (q : Int), .int .i64 a.area, vb, .int .i64 a.n, .int .i64 a.m] 32) (.cells #[.slice none 0 0, .slice none 0 0, .int .i64 0, .bool false, .bool false] 28) (.cells #[] 32)
  have hB4 : w.heap.size + 1 + 1 + 1 ≤ ((((w.alloc (.cells #[sv, lv, .int .i64 d.left, .bool false, .bool false] 28)).alloc (.cells #[.int .u8 (q : Int), .int .i64 a.area, vb, .int .i64 a.n, .int .i64 a.m] 32)).alloc (.cells #[.slice none 0 0, .slice none 0 0, .int .i64 0, .bool false, .bool false] 28)).alloc (.cells #[] 32)).heap.size := by omega
  have HBX : Hid (BoxF w.heap.size [sv, lv, .int .i64 d.left, .bool false, .bool false] ((((w.alloc (.cells #[sv, lv, .int .i64 d.left, .bool false, .bool false] 28)).alloc (.cells #[.int .u8 (q : Int), .int .i64 a.area, vb, .int .i64 a.n, .int .i64 a.m] 32)).alloc (.cells #[.slice none 0 0, .slice none 0 0, .int .i64 0, .bool false, .bool false] 28)).alloc (.cells #[] 32))) := boxF1 w [sv, lv, .int .i64 d.left, .bool false, .bool false] 28 _ _ _
  have HBZ : Hid (BoxF (w.heap.size + 1 + 1) [.slice none 0 0, .slice none 0 0, .int .i64 0, .bool false, .bool false] ((((w.alloc (.cells #[sv, lv, .int .i64 d.left, .bool false, .bool false] 28)).alloc (.cells #[.int .u8 (q : Int), .int .i64 a.area, vb, .int .i64 a.n, .int .i64 a.m] 32)).alloc (.cells #[.slice none 0 0, .slice none 0 0, .int .i64 0, .bool false, .bool false] 28)).alloc (.cells #[] 32))) := (boxF3 w _ _ [.slice none 0 0, .slice none 0 0, .int .i64 0, .bool false, .bool false] 28).on (bal _ _)
  obtain ⟨ss, hc1, hsrc1⟩ := (hl.1.on hB0 hb4).src (P := Try.prog) Try.underlying22
  have HL2 : Hid (∀ W, Below w.heap.size w W → ∃ css, Cells W B0 d.loose css ∧ Src Try.prog 5 22 lv d.loose.length css.flatten W) := fun W hb => (hl.2.on hB0 hb).src Try.underlying22
  have q1 : 0 + d.safe.length ≤ 1000000 := by omega
  have q2 : (0 + d.safe.length) * 56 ≤ 140737488355328 := by omega
  have q3 : d.safe.length + d.loose.length ≤ 1000000 := by omega
  have q4 : (d.safe.length + d.loose.length) * 56 ≤ 140737488355328 := by omega
  have HS4 := Lib.hid hs4
  have HB4 := Lib.hid hb4
  subst hv1 hv2 hvb
  clear hq hl hk hs4 hb4
  go_enter Try.func12, Try.ntmps12
  go_wp2_with (first
    | (at_builtin; refine wpList_appendN (B := w.heap.size + 1 + 1 + 1) (n := 5) (k := 0) (m := d.safe.length) (cs := []) (ys := ss.flatten) rfl (.tmp 55) (.tmp 57) 22 22 rfl 32 j _ 56 Try.underlying22 hj hz0 hz1 rfl hz2 R0 hB4 hsrc1 hc1.flat q1 q2 rfl rfl ?_; intro v5 w5 h5 hb5 hk5 ho5; rw [Nat.zero_add, List.nil_append] at h5; obtain ⟨s2, hc2, hsrc2⟩ := HL2.out w5 (HB4.out.trans (hb5.mono (by omega))); have hB5 := Nat.le_trans hB4 hb5.size; have HBX5 := Lib.hid (HBX.out.kept (hb5.block _ (by omega)) hb5.size); have HBZ5 := Lib.hid (HBZ.out.kept (hb5.block _ (by omega)) hb5.size); have x1 := HBX5.out.get 1 rfl; obtain ⟨A5, c5, hv5, _⟩ := h5.slice; subst hv5)
    | (at_builtin; refine wpList_appendN (B := w.heap.size + 1 + 1 + 1) (n := 5) (k := d.safe.length) (m := d.loose.length) (cs := ss.flatten) (ys := s2.flatten) rfl (.tmp 59) (.tmp 61) 22 22 rfl 32 j _ 56 Try.underlying22 hj hz0 hz1 rfl hz2 h5 hB5 hsrc2 hc2.flat q3 q4 rfl rfl ?_; intro v6 w6 h6 hb6 hk6 ho6; have HBX6 := Lib.hid (HBX5.out.kept (hb6.block _ (by omega)) hb6.size); have HBZ6 := Lib.hid (HBZ5.out.kept (hb6.block _ (by omega)) hb6.size); have x0 := HBX6.out.get 0 rfl; have x1 := HBX6.out.get 1 rfl; have x2 := HBX6.out.get 2 rfl; have x3 := HBX6.out.get 3 rfl; have x4 := HBX6.out.get 4 rfl; have f0 := HBX6.out.free 0 (by simp); have f1 := HBX6.out.free 1 (by simp); have f2 := HBX6.out.free 2 (by simp); have f4 := HBX6.out.free 4 (by simp); have u0 := HBZ6.out.2 0 (by simp); have u1 := HBZ6.out.2 1 (by simp); have u2 := HBZ6.out.2 2 (by simp); have u3 := HBZ6.out.2 3 (by simp); have u4 := HBZ6.out.2 4 (by simp); obtain ⟨A6, c6, hv6, _⟩ := h6.slice; subst hv6))
  have hw5 : Below w.heap.size w w5 := HB4.out.trans (hb5.mono (by omega))
  have hw6 : Below w.heap.size w w6 := hw5.trans (hb6.mono (by omega))
  have hcA : Cells w6 B0 (d.safe ++ d.loose) (ss ++ s2) := ((hc1.below (hb5.mono (by omega))).below (hb6.mono (by omega))).append (hc2.below (hb6.mono (by omega)))
  have hbS : Below w.heap.size w6 ((w6.setCell ⟨w.heap.size, 0, none⟩ (.slice A6 (d.safe.length + d.loose.length) c6)).setCell ⟨w.heap.size, 1, none⟩ (.slice none 0 0)) := below_set (below_set (Below.refl w.heap.size w6) w.heap.size 0 (.slice A6 (d.safe.length + d.loose.length) c6) (Nat.le_refl _)) w.heap.size 1 (.slice none 0 0) (Nat.le_refl _)
  have hzS : BoxF (w.heap.size + 1 + 1) [.slice none 0 0, .slice none 0 0, .int .i64 0, .bool false, .bool false] ((w6.setCell ⟨w.heap.size, 0, none⟩ (.slice A6 (d.safe.length + d.loose.length) c6)).setCell ⟨w.heap.size, 1, none⟩ (.slice none 0 0)) := ((HBZ6.out.other (o := 0) (.slice A6 (d.safe.length + d.loose.length) c6) (by omega)).other (o := 1) (.slice none 0 0) (by omega))
  have hoS : ∀ g, w.heap.size + 1 + 1 + 1 ≤ g → ((w6.setCell ⟨w.heap.size, 0, none⟩ (.slice A6 (d.safe.length + d.loose.length) c6)).setCell ⟨w.heap.size, 1, none⟩ (.slice none 0 0)).heap[g]? = w6.heap[g]? := fun g hg => (Below.heap_setCell _ ⟨w.heap.size, 1, none⟩ _ g (by show g ≠ w.heap.size; omega)).trans (Below.heap_setCell _ ⟨w.heap.size, 0, none⟩ _ g (by show g ≠ w.heap.size; omega))
  have hfin := hbS.trans (put5_below _ (show w.heap.size ≤ w.heap.size + 1 + 1 by omega) (.slice A6 (d.safe.length + d.loose.length) c6) (.slice none 0 0) (.int .i64 d.left) (.bool false) (.bool false))
  have hsz := put5_size ((w6.setCell ⟨w.heap.size, 0, none⟩ (.slice A6 (d.safe.length + d.loose.length) c6)).setCell ⟨w.heap.size, 1, none⟩ (.slice none 0 0)) (w.heap.size + 1 + 1) (.slice A6 (d.safe.length + d.loose.length) c6) (.slice none 0 0) (.int .i64 d.left) (.bool false) (.bool false)
  refine bodyPost_ret (results_cell2 (p := 4) (u := 5) rfl rfl (load_dsk rfl (put5_box hzS (.slice A6 (d.safe.length + d.loose.length) c6) (.slice none 0 0) (.int .i64 d.left) (.bool false) (.bool false)).box)) rfl ?_
  refine ⟨_, _, rfl, ⟨(actsIn_room (hcA.below (hfin.mono hB0)) (B := w.heap.size) ?_).imp (fun b q _ => .inr q), ActsIn.nil⟩, hw6.trans hfin⟩
  have h7 : RoomN w6 (w.heap.size + 1 + 1 + 1) (.slice A6 (d.safe.length + d.loose.length) c6) 5 (d.safe ++ d.loose).length (ss ++ s2).flatten := by rw [List.length_append, List.flatten_append]; exact h6
  exact (h7.kept (fun g hg => (put5_other _ _ _ _ _ _ _ g (fun e => by have := h7.own_ge g hg; omega)).trans (hoS g (h7.own_ge g hg))) hfin.size).less (by omega)
set_option maxRecDepth 100000 in
set_option maxHeartbeats 1000000 in
theorem do_syncZ (d : Dskd) (a : Actd) (sv lv vb : Value) (w : World) (B0 : Nat) (X : Nat → Prop) (hB0 : B0 ≤ w.heap.size) (hl : d.liesIn w B0 X sv lv) (hs : Seen w B0 vb a.b) (hn : d.safe.length + d.loose.length ≤ 100000) (hk : a.kind.toNat % 6 = 3) (hz : d.left - 1 = 0) :
    Calls Try.prog 12 #[.agg #[sv, lv, .int .i64 d.left, .bool true, .bool false], .agg #[.int .u8 (a.kind.toNat : Int), .int .i64 a.area, vb, .int .i64 a.n, .int .i64 a.m]] w (Done7 B0 X w ⟨d.safe ++ d.loose, [], 0, true, true⟩ 0) := by
  obtain ⟨j, hj, hz0, hz1, hz2⟩ := info_parts act_info
  obtain ⟨q, hq⟩ : ∃ q : Nat, q = a.kind.toNat := ⟨_, rfl⟩
  have hq2 : q < 256 := by rw [hq]; exact UInt8.toNat_lt _
  rw [← hq] at hk ⊢
  have HK : (q : Int) % 6 = 3 := by omega
  obtain ⟨A1, n1, c1, hv1⟩ := acts_slice hl.1
  obtain ⟨A2, n2, c2, hv2⟩ := acts_slice hl.2
  obtain ⟨Ab, cb, hvb, _⟩ := hs
  have R0 := room3 w (.cells #[sv, lv, .int .i64 d.left, .bool true, .bool false] 28) (.cells #[.int .u8 (q : Int), .int .i64 a.area, vb, .int .i64 a.n, .int .i64 a.m] 32) (.cells #[.slice none 0 0, .slice none 0 0, .int .i64 0, .bool false, .bool false] 28)
  have hb4 := below4 w (.cells #[sv, lv, .int .i64 d.left, .bool true, .bool false] 28) (.cells #[.int .u8 (q : Int), .int .i64 a.area, vb, .int .i64 a.n, .int .i64 a.m] 32) (.cells #[.slice none 0 0, .slice none 0 0, .int .i64 0, .bool false, .bool false] 28) (.cells #[] 32)
  have hs4 := size4 w (.cells #[sv, lv, .int .i64 d.left, .bool true, .bool false] 28) (.cells #[.int .u8 (q : Int), .int .i64 a.area, vb, .int .i64 a.n, .int .i64 a.m] 32) (.cells #[.slice none 0 0, .slice none 0 0, .int .i64 0, .bool false, .bool false] 28) (.cells #[] 32)
  have hB4 : w.heap.size + 1 + 1 + 1 ≤ ((((w.alloc (.cells #[sv, lv, .int .i64 d.left, .bool true, .bool false] 28)).alloc (.cells #[.int .u8 (q : Int), .int .i64 a.area, vb, .int .i64 a.n, .int .i64 a.m] 32)).alloc (.cells #[.slice none 0 0, .slice none 0 0, .int .i64 0, .bool false, .bool false] 28)).alloc (.cells #[] 32)).heap.size := by omega
  have HBX : Hid (BoxF w.heap.size [sv, lv, .int .i64 d.left, .bool true, .bool false] ((((w.alloc (.cells #[sv, lv, .int .i64 d.left, .bool true, .bool false] 28)).alloc (.cells #[.int .u8 (q : Int), .int .i64 a.area, vb, .int .i64 a.n, .int .i64 a.m] 32)).alloc (.cells #[.slice none 0 0, .slice none 0 0, .int .i64 0, .bool false, .bool false] 28)).alloc (.cells #[] 32))) := boxF1 w [sv, lv, .int .i64 d.left, .bool true, .bool false] 28 _ _ _
  have HBZ : Hid (BoxF (w.heap.size + 1 + 1) [.slice none 0 0, .slice none 0 0, .int .i64 0, .bool false, .bool false] ((((w.alloc (.cells #[sv, lv, .int .i64 d.left, .bool true, .bool false] 28)).alloc (.cells #[.int .u8 (q : Int), .int .i64 a.area, vb, .int .i64 a.n, .int .i64 a.m] 32)).alloc (.cells #[.slice none 0 0, .slice none 0 0, .int .i64 0, .bool false, .bool false] 28)).alloc (.cells #[] 32))) := (boxF3 w _ _ [.slice none 0 0, .slice none 0 0, .int .i64 0, .bool false, .bool false] 28).on (bal _ _)
  obtain ⟨ss, hc1, hsrc1⟩ := (hl.1.on hB0 hb4).src (P := Try.prog) Try.underlying22
  have HL2 : Hid (∀ W, Below w.heap.size w W → ∃ css, Cells W B0 d.loose css ∧ Src Try.prog 5 22 lv d.loose.length css.flatten W) := fun W hb => (hl.2.on hB0 hb).src Try.underlying22
  have q1 : 0 + d.safe.length ≤ 1000000 := by omega
  have q2 : (0 + d.safe.length) * 56 ≤ 140737488355328 := by omega
  have q3 : d.safe.length + d.loose.length ≤ 1000000 := by omega
  have q4 : (d.safe.length + d.loose.length) * 56 ≤ 140737488355328 := by omega
  have HS4 := Lib.hid hs4
  have HB4 := Lib.hid hb4
  subst hv1 hv2 hvb
  clear hq hl hk hs4 hb4
  go_enter Try.func12, Try.ntmps12
  go_wp2_with (first
    | (at_builtin; refine wpList_appendN (B := w.heap.size + 1 + 1 + 1) (n := 5) (k := 0) (m := d.safe.length) (cs := []) (ys := ss.flatten) rfl (.tmp 55) (.tmp 57) 22 22 rfl 32 j _ 56 Try.underlying22 hj hz0 hz1 rfl hz2 R0 hB4 hsrc1 hc1.flat q1 q2 rfl rfl ?_; intro v5 w5 h5 hb5 hk5 ho5; rw [Nat.zero_add, List.nil_append] at h5; obtain ⟨s2, hc2, hsrc2⟩ := HL2.out w5 (HB4.out.trans (hb5.mono (by omega))); have hB5 := Nat.le_trans hB4 hb5.size; have HBX5 := Lib.hid (HBX.out.kept (hb5.block _ (by omega)) hb5.size); have HBZ5 := Lib.hid (HBZ.out.kept (hb5.block _ (by omega)) hb5.size); have x1 := HBX5.out.get 1 rfl; obtain ⟨A5, c5, hv5, _⟩ := h5.slice; subst hv5)
    | (at_builtin; refine wpList_appendN (B := w.heap.size + 1 + 1 + 1) (n := 5) (k := d.safe.length) (m := d.loose.length) (cs := ss.flatten) (ys := s2.flatten) rfl (.tmp 59) (.tmp 61) 22 22 rfl 32 j _ 56 Try.underlying22 hj hz0 hz1 rfl hz2 h5 hB5 hsrc2 hc2.flat q3 q4 rfl rfl ?_; intro v6 w6 h6 hb6 hk6 ho6; have HBX6 := Lib.hid (HBX5.out.kept (hb6.block _ (by omega)) hb6.size); have HBZ6 := Lib.hid (HBZ5.out.kept (hb6.block _ (by omega)) hb6.size); have x0 := HBX6.out.get 0 rfl; have x1 := HBX6.out.get 1 rfl; have x2 := HBX6.out.get 2 rfl; have x3 := HBX6.out.get 3 rfl; have x4 := HBX6.out.get 4 rfl; have f0 := HBX6.out.free 0 (by simp); have f1 := HBX6.out.free 1 (by simp); have f2 := HBX6.out.free 2 (by simp); have f4 := HBX6.out.free 4 (by simp); have u0 := HBZ6.out.2 0 (by simp); have u1 := HBZ6.out.2 1 (by simp); have u2 := HBZ6.out.2 2 (by simp); have u3 := HBZ6.out.2 3 (by simp); have u4 := HBZ6.out.2 4 (by simp); obtain ⟨A6, c6, hv6, _⟩ := h6.slice; subst hv6))
  have hw5 : Below w.heap.size w w5 := HB4.out.trans (hb5.mono (by omega))
  have hw6 : Below w.heap.size w w6 := hw5.trans (hb6.mono (by omega))
  have hcA : Cells w6 B0 (d.safe ++ d.loose) (ss ++ s2) := ((hc1.below (hb5.mono (by omega))).below (hb6.mono (by omega))).append (hc2.below (hb6.mono (by omega)))
  have hbS : Below w.heap.size w6 ((((w6.setCell ⟨w.heap.size, 0, none⟩ (.slice A6 (d.safe.length + d.loose.length) c6)).setCell ⟨w.heap.size, 1, none⟩ (.slice none 0 0)).setCell ⟨w.heap.size, 2, none⟩ (.int .i64 0)).setCell ⟨w.heap.size, 4, none⟩ (.bool true)) := below_set (below_set (below_set (below_set (Below.refl w.heap.size w6) w.heap.size 0 (.slice A6 (d.safe.length + d.loose.length) c6) (Nat.le_refl _)) w.heap.size 1 (.slice none 0 0) (Nat.le_refl _)) w.heap.size 2 (.int .i64 0) (Nat.le_refl _)) w.heap.size 4 (.bool true) (Nat.le_refl _)
  have hzS : BoxF (w.heap.size + 1 + 1) [.slice none 0 0, .slice none 0 0, .int .i64 0, .bool false, .bool false] ((((w6.setCell ⟨w.heap.size, 0, none⟩ (.slice A6 (d.safe.length + d.loose.length) c6)).setCell ⟨w.heap.size, 1, none⟩ (.slice none 0 0)).setCell ⟨w.heap.size, 2, none⟩ (.int .i64 0)).setCell ⟨w.heap.size, 4, none⟩ (.bool true)) := ((((HBZ6.out.other (o := 0) (.slice A6 (d.safe.length + d.loose.length) c6) (by omega)).other (o := 1) (.slice none 0 0) (by omega)).other (o := 2) (.int .i64 0) (by omega)).other (o := 4) (.bool true) (by omega))
  have hoS : ∀ g, w.heap.size + 1 + 1 + 1 ≤ g → ((((w6.setCell ⟨w.heap.size, 0, none⟩ (.slice A6 (d.safe.length + d.loose.length) c6)).setCell ⟨w.heap.size, 1, none⟩ (.slice none 0 0)).setCell ⟨w.heap.size, 2, none⟩ (.int .i64 0)).setCell ⟨w.heap.size, 4, none⟩ (.bool true)).heap[g]? = w6.heap[g]? := fun g hg => (Below.heap_setCell _ ⟨w.heap.size, 4, none⟩ _ g (by show g ≠ w.heap.size; omega)).trans ((Below.heap_setCell _ ⟨w.heap.size, 2, none⟩ _ g (by show g ≠ w.heap.size; omega)).trans ((Below.heap_setCell _ ⟨w.heap.size, 1, none⟩ _ g (by show g ≠ w.heap.size; omega)).trans (Below.heap_setCell _ ⟨w.heap.size, 0, none⟩ _ g (by show g ≠ w.heap.size; omega))))
  have hfin := hbS.trans (put5_below _ (show w.heap.size ≤ w.heap.size + 1 + 1 by omega) (.slice A6 (d.safe.length + d.loose.length) c6) (.slice none 0 0) (.int .i64 0) (.bool true) (.bool true))
  have hsz := put5_size ((((w6.setCell ⟨w.heap.size, 0, none⟩ (.slice A6 (d.safe.length + d.loose.length) c6)).setCell ⟨w.heap.size, 1, none⟩ (.slice none 0 0)).setCell ⟨w.heap.size, 2, none⟩ (.int .i64 0)).setCell ⟨w.heap.size, 4, none⟩ (.bool true)) (w.heap.size + 1 + 1) (.slice A6 (d.safe.length + d.loose.length) c6) (.slice none 0 0) (.int .i64 0) (.bool true) (.bool true)
  refine bodyPost_ret (results_cell2 (p := 4) (u := 5) rfl rfl (load_dsk rfl (put5_box hzS (.slice A6 (d.safe.length + d.loose.length) c6) (.slice none 0 0) (.int .i64 0) (.bool true) (.bool true)).box)) rfl ?_
  refine ⟨_, _, rfl, ⟨(actsIn_room (hcA.below (hfin.mono hB0)) (B := w.heap.size) ?_).imp (fun b q _ => .inr q), ActsIn.nil⟩, hw6.trans hfin⟩
  have h7 : RoomN w6 (w.heap.size + 1 + 1 + 1) (.slice A6 (d.safe.length + d.loose.length) c6) 5 (d.safe ++ d.loose).length (ss ++ s2).flatten := by rw [List.length_append, List.flatten_append]; exact h6
  exact (h7.kept (fun g hg => (put5_other _ _ _ _ _ _ _ g (fun e => by have := h7.own_ge g hg; omega)).trans (hoS g (h7.own_ge g hg))) hfin.size).less (by omega)
set_option maxRecDepth 100000 in
set_option maxHeartbeats 1000000 in
theorem do_syncP (d : Dskd) (a : Actd) (sv lv vb : Value) (w : World) (B0 : Nat) (X : Nat → Prop) (hB0 : B0 ≤ w.heap.size) (hl : d.liesIn w B0 X sv lv) (hs : Seen w B0 vb a.b) (hn : d.safe.length + d.loose.length ≤ 100000) (hk : a.kind.toNat % 6 = 3) (h1 : -9223372036854775808 ≤ d.left - 1) (h2 : d.left - 1 ≤ 9223372036854775807) (hz : ¬ d.left - 1 = 0) :
    Calls Try.prog 12 #[.agg #[sv, lv, .int .i64 d.left, .bool true, .bool false], .agg #[.int .u8 (a.kind.toNat : Int), .int .i64 a.area, vb, .int .i64 a.n, .int .i64 a.m]] w (Done7 B0 X w ⟨d.safe ++ d.loose, [], d.left - 1, true, false⟩ 0) := by
  obtain ⟨j, hj, hz0, hz1, hz2⟩ := info_parts act_info
  obtain ⟨q, hq⟩ : ∃ q : Nat, q = a.kind.toNat := ⟨_, rfl⟩
  have hq2 : q < 256 := by rw [hq]; exact UInt8.toNat_lt _
  rw [← hq] at hk ⊢
  have HK : (q : Int) % 6 = 3 := by omega
  have hzb : (d.left - 1 == 0) = false := by rw [beq_eq_false_iff_ne]; exact hz
  obtain ⟨A1, n1, c1, hv1⟩ := acts_slice hl.1
  obtain ⟨A2, n2, c2, hv2⟩ := acts_slice hl.2
  obtain ⟨Ab, cb, hvb, _⟩ := hs
  have R0 := room3 w (.cells #[sv, lv, .int .i64 d.left, .bool true, .bool false] 28) (.cells #[.int .u8 (q : Int), .int .i64 a.area, vb, .int .i64 a.n, .int .i64 a.m] 32) (.cells #[.slice none 0 0, .slice none 0 0, .int .i64 0, .bool false, .bool false] 28)
  have hb4 := below4 w (.cells #[sv, lv, .int .i64 d.left, .bool true, .bool false] 28) (.cells #[.int .u8 (q : Int), .int .i64 a.area, vb, .int .i64 a.n, .int .i64 a.m] 32) (.cells #[.slice none 0 0, .slice none 0 0, .int .i64 0, .bool false, .bool false] 28) (.cells #[] 32)
  have hs4 := size4 w (.cells #[sv, lv, .int .i64 d.left, .bool true, .bool false] 28) (.cells #[.int .u8 (q : Int), .int .i64 a.area, vb, .int .i64 a.n, .int .i64 a.m] 32) (.cells #[.slice none 0 0, .slice none 0 0, .int .i64 0, .bool false, .bool false] 28) (.cells #[] 32)
  have hB4 : w.heap.size + 1 + 1 + 1 ≤ ((((w.alloc (.cells #[sv, lv, .int .i64 d.left, .bool true, .bool false] 28)).alloc (.cells #[.int .u8 (q : Int), .int .i64 a.area, vb, .int .i64 a.n, .int .i64 a.m] 32)).alloc (.cells #[.slice none 0 0, .slice none 0 0, .int .i64 0, .bool false, .bool false] 28)).alloc (.cells #[] 32)).heap.size := by omega
  have HBX : Hid (BoxF w.heap.size [sv, lv, .int .i64 d.left, .bool true, .bool false] ((((w.alloc (.cells #[sv, lv, .int .i64 d.left, .bool true, .bool false] 28)).alloc (.cells #[.int .u8 (q : Int), .int .i64 a.area, vb, .int .i64 a.n, .int .i64 a.m] 32)).alloc (.cells #[.slice none 0 0, .slice none 0 0, .int .i64 0, .bool false, .bool false] 28)).alloc (.cells #[] 32))) := boxF1 w [sv, lv, .int .i64 d.left, .bool true, .bool false] 28 _ _ _
  have HBZ : Hid (BoxF (w.heap.size + 1 + 1) [.slice none 0 0, .slice none 0 0, .int .i64 0, .bool false, .bool false] ((((w.alloc (.cells #[sv, lv, .int .i64 d.left, .bool true, .bool false] 28)).alloc (.cells #[.int .u8 (q : Int), .int .i64 a.area, vb, .int .i64 a.n, .int .i64 a.m] 32)).alloc (.cells #[.slice none 0 0, .slice none 0 0, .int .i64 0, .bool false, .bool false] 28)).alloc (.cells #[] 32))) := (boxF3 w _ _ [.slice none 0 0, .slice none 0 0, .int .i64 0, .bool false, .bool false] 28).on (bal _ _)
  obtain ⟨ss, hc1, hsrc1⟩ := (hl.1.on hB0 hb4).src (P := Try.prog) Try.underlying22
  have HL2 : Hid (∀ W, Below w.heap.size w W → ∃ css, Cells W B0 d.loose css ∧ Src Try.prog 5 22 lv d.loose.length css.flatten W) := fun W hb => (hl.2.on hB0 hb).src Try.underlying22
  have q1 : 0 + d.safe.length ≤ 1000000 := by omega
  have q2 : (0 + d.safe.length) * 56 ≤ 140737488355328 := by omega
  have q3 : d.safe.length + d.loose.length ≤ 1000000 := by omega
  have q4 : (d.safe.length + d.loose.length) * 56 ≤ 140737488355328 := by omega
  have HS4 := Lib.hid hs4
  have HB4 := Lib.hid hb4
  subst hv1 hv2 hvb
  clear hq hl hk hs4 hb4
  go_enter Try.func12, Try.ntmps12
  go_wp2_with (first
    | (at_builtin; refine wpList_appendN (B := w.heap.size + 1 + 1 + 1) (n := 5) (k := 0) (m := d.safe.length) (cs := []) (ys := ss.flatten) rfl (.tmp 55) (.tmp 57) 22 22 rfl 32 j _ 56 Try.underlying22 hj hz0 hz1 rfl hz2 R0 hB4 hsrc1 hc1.flat q1 q2 rfl rfl ?_; intro v5 w5 h5 hb5 hk5 ho5; rw [Nat.zero_add, List.nil_append] at h5; obtain ⟨s2, hc2, hsrc2⟩ := HL2.out w5 (HB4.out.trans (hb5.mono (by omega))); have hB5 := Nat.le_trans hB4 hb5.size; have HBX5 := Lib.hid (HBX.out.kept (hb5.block _ (by omega)) hb5.size); have HBZ5 := Lib.hid (HBZ.out.kept (hb5.block _ (by omega)) hb5.size); have x1 := HBX5.out.get 1 rfl; obtain ⟨A5, c5, hv5, _⟩ := h5.slice; subst hv5)
    | (at_builtin; refine wpList_appendN (B := w.heap.size + 1 + 1 + 1) (n := 5) (k := d.safe.length) (m := d.loose.length) (cs := ss.flatten) (ys := s2.flatten) rfl (.tmp 59) (.tmp 61) 22 22 rfl 32 j _ 56 Try.underlying22 hj hz0 hz1 rfl hz2 h5 hB5 hsrc2 hc2.flat q3 q4 rfl rfl ?_; intro v6 w6 h6 hb6 hk6 ho6; have HBX6 := Lib.hid (HBX5.out.kept (hb6.block _ (by omega)) hb6.size); have HBZ6 := Lib.hid (HBZ5.out.kept (hb6.block _ (by omega)) hb6.size); have x0 := HBX6.out.get 0 rfl; have x1 := HBX6.out.get 1 rfl; have x2 := HBX6.out.get 2 rfl; have x3 := HBX6.out.get 3 rfl; have x4 := HBX6.out.get 4 rfl; have f0 := HBX6.out.free 0 (by simp); have f1 := HBX6.out.free 1 (by simp); have f2 := HBX6.out.free 2 (by simp); have f4 := HBX6.out.free 4 (by simp); have u0 := HBZ6.out.2 0 (by simp); have u1 := HBZ6.out.2 1 (by simp); have u2 := HBZ6.out.2 2 (by simp); have u3 := HBZ6.out.2 3 (by simp); have u4 := HBZ6.out.2 4 (by simp); obtain ⟨A6, c6, hv6, _⟩ := h6.slice; subst hv6))
  have hw5 : Below w.heap.size w w5 := HB4.out.trans (hb5.mono (by omega))
  have hw6 : Below w.heap.size w w6 := hw5.trans (hb6.mono (by omega))
  have hcA : Cells w6 B0 (d.safe ++ d.loose) (ss ++ s2) := ((hc1.below (hb5.mono (by omega))).below (hb6.mono (by omega))).append (hc2.below (hb6.mono (by omega)))
  have hbS : Below w.heap.size w6 (((w6.setCell ⟨w.heap.size, 0, none⟩ (.slice A6 (d.safe.length + d.loose.length) c6)).setCell ⟨w.heap.size, 1, none⟩ (.slice none 0 0)).setCell ⟨w.heap.size, 2, none⟩ (.int .i64 (d.left - 1))) := below_set (below_set (below_set (Below.refl w.heap.size w6) w.heap.size 0 (.slice A6 (d.safe.length + d.loose.length) c6) (Nat.le_refl _)) w.heap.size 1 (.slice none 0 0) (Nat.le_refl _)) w.heap.size 2 (.int .i64 (d.left - 1)) (Nat.le_refl _)
  have hzS : BoxF (w.heap.size + 1 + 1) [.slice none 0 0, .slice none 0 0, .int .i64 0, .bool false, .bool false] (((w6.setCell ⟨w.heap.size, 0, none⟩ (.slice A6 (d.safe.length + d.loose.length) c6)).setCell ⟨w.heap.size, 1, none⟩ (.slice none 0 0)).setCell ⟨w.heap.size, 2, none⟩ (.int .i64 (d.left - 1))) := (((HBZ6.out.other (o := 0) (.slice A6 (d.safe.length + d.loose.length) c6) (by omega)).other (o := 1) (.slice none 0 0) (by omega)).other (o := 2) (.int .i64 (d.left - 1)) (by omega))
  have hoS : ∀ g, w.heap.size + 1 + 1 + 1 ≤ g → (((w6.setCell ⟨w.heap.size, 0, none⟩ (.slice A6 (d.safe.length + d.loose.length) c6)).setCell ⟨w.heap.size, 1, none⟩ (.slice none 0 0)).setCell ⟨w.heap.size, 2, none⟩ (.int .i64 (d.left - 1))).heap[g]? = w6.heap[g]? := fun g hg => (Below.heap_setCell _ ⟨w.heap.size, 2, none⟩ _ g (by show g ≠ w.heap.size; omega)).trans ((Below.heap_setCell _ ⟨w.heap.size, 1, none⟩ _ g (by show g ≠ w.heap.size; omega)).trans (Below.heap_setCell _ ⟨w.heap.size, 0, none⟩ _ g (by show g ≠ w.heap.size; omega)))
  have hfin := hbS.trans (put5_below _ (show w.heap.size ≤ w.heap.size + 1 + 1 by omega) (.slice A6 (d.safe.length + d.loose.length) c6) (.slice none 0 0) (.int .i64 (d.left - 1)) (.bool true) (.bool false))
  have hsz := put5_size (((w6.setCell ⟨w.heap.size, 0, none⟩ (.slice A6 (d.safe.length + d.loose.length) c6)).setCell ⟨w.heap.size, 1, none⟩ (.slice none 0 0)).setCell ⟨w.heap.size, 2, none⟩ (.int .i64 (d.left - 1))) (w.heap.size + 1 + 1) (.slice A6 (d.safe.length + d.loose.length) c6) (.slice none 0 0) (.int .i64 (d.left - 1)) (.bool true) (.bool false)
  refine bodyPost_ret (results_cell2 (p := 4) (u := 5) rfl rfl (load_dsk rfl (put5_box hzS (.slice A6 (d.safe.length + d.loose.length) c6) (.slice none 0 0) (.int .i64 (d.left - 1)) (.bool true) (.bool false)).box)) rfl ?_
  refine ⟨_, _, rfl, ⟨(actsIn_room (hcA.below (hfin.mono hB0)) (B := w.heap.size) ?_).imp (fun b q _ => .inr q), ActsIn.nil⟩, hw6.trans hfin⟩
  have h7 : RoomN w6 (w.heap.size + 1 + 1 + 1) (.slice A6 (d.safe.length + d.loose.length) c6) 5 (d.safe ++ d.loose).length (ss ++ s2).flatten := by rw [List.length_append, List.flatten_append]; exact h6
  exact (h7.kept (fun g hg => (put5_other _ _ _ _ _ _ _ g (fun e => by have := h7.own_ge g hg; omega)).trans (hoS g (h7.own_ge g hg))) hfin.size).less (by omega)

end Go.Proofs.Ytcdobelhchlheaa
