/-
  The program's perform: a change of a disk, as far as it lets it (made by disk-perform-gen.py).
-/
import Derived.Test.YtoggdpkpfdilnaaPu
namespace Go.Proofs.Ytoggdpkpfdilnaa
open Go.RowKit
attribute [local go_sem ↓] Go.wp_at_zero Go.wp_at_succ

def Dsk.tick (s : Dsk) : Dsk := if s.armed = true then { s with left := s.left - 1 } else s
set_option maxRecDepth 100000 in
theorem perform_no (does area : Int) (text : ByteArray) (w : World) (B g : Nat) (s : Dsk) (p0 p1 q0 q1 lv : Value) (h : DiskAt w B g s p0 p1 q0 q1 lv) (hr : s.refuses area ≠ 0) :
    Calls Try.prog 52 #[.pointer (some ⟨g, 0, none⟩), .agg #[.int .i64 does, .int .i64 area, .string text]] w fun e w' => e = .returned (.int .i64 (s.refuses area)) ∧ Below w.heap.size w w' := by
  have hb := bal w (.cells #[.int .i64 does, .int .i64 area, .string text] 73)
  have RR := Lib.hid (refuses_any _ B g s p0 p1 q0 q1 lv area (h.on hb))
  obtain ⟨r, hrr⟩ : ∃ r, r = s.refuses area := ⟨_, rfl⟩
  rw [← hrr] at RR hr ⊢
  have hr' : (r != 0) = true := bne_iff_ne.2 hr
  have HB := Lib.hid hb
  clear h hb hrr hr
  go_enter Try.func52, Try.ntmps52
  go_wp2_with (go_at_call 31; (with_reducible refine (RR.out).mono ?_); rintro e w1 ⟨rfl, rfl⟩)
  go_ret
  exact ⟨rfl, HB.out⟩
set_option maxRecDepth 100000 in
set_option maxHeartbeats 1000000 in
theorem perform_syncN (w : World) (B g : Nat) (s : Dsk) (p0 p1 q0 q1 lv : Value) (h : DiskAt w B g s p0 p1 q0 q1 lv) (hB : B ≤ w.heap.size) (hm : s.mass ≤ 1000000) (hr : s.refuses 0 = 0) (ha : s.armed = false) :
    Calls Try.prog 52 #[.pointer (some ⟨g, 0, none⟩), .agg #[.int .i64 3, .int .i64 0, .string ⟨#[]⟩]] w fun e w' => e = .returned (.int .i64 0) ∧ ∃ v0 v1, Stands B g { s with last := s.last.all s.loose, loose := [] } (owns g p0 p1 q0 q1 lv) w w' (v0, v1, q0, q1, .slice none 0 0) := by
  have hb := bal w (.cells #[.int .i64 3, .int .i64 0, .string ⟨#[]⟩] 73)
  have h1 := h.on hb
  have RR := Lib.hid (refuses_any _ B g s p0 p1 q0 q1 lv 0 h1)
  have RS := Lib.hid (settle_any _ B g s p0 p1 q0 q1 lv h1 (Nat.le_trans hB hb.size) hm)
  rw [hr] at RR
  have HB := Lib.hid hb
  have HB0 := Lib.hid hB
  have HA := Lib.hid ha
  clear h hb h1 hB hm hr ha
  go_enter Try.func52, Try.ntmps52
  go_wp2_with (first
    | (go_at_call 31; (with_reducible refine (RR.out).mono ?_); rintro e w1 ⟨rfl, rfl⟩)
    | (go_at_call 55; (with_reducible refine (RS.out).mono ?_); rintro e w2 ⟨rfl, v0, v1, hst⟩; have HST := Lib.hid hst; have c7 := hst.1.box.get 7 rfl; rw [HA.out] at c7; have c8 := hst.1.box.get 8 rfl; have f8 := hst.1.box.free 8 (by simp); clear hst))
  go_ret
  exact ⟨rfl, v0, v1, Stands.after HB.out HB0.out HST.out⟩
set_option maxRecDepth 100000 in
set_option maxHeartbeats 1000000 in
theorem perform_syncA (w : World) (B g : Nat) (s : Dsk) (p0 p1 q0 q1 lv : Value) (h : DiskAt w B g s p0 p1 q0 q1 lv) (hB : B ≤ w.heap.size) (hm : s.mass ≤ 1000000) (hr : s.refuses 0 = 0) (ha : s.armed = true) (hl : 0 < s.left) :
    Calls Try.prog 52 #[.pointer (some ⟨g, 0, none⟩), .agg #[.int .i64 3, .int .i64 0, .string ⟨#[]⟩]] w fun e w' => e = .returned (.int .i64 0) ∧ ∃ v0 v1, Stands B g { s with last := s.last.all s.loose, loose := [], left := s.left - 1 } (owns g p0 p1 q0 q1 lv) w w' (v0, v1, q0, q1, .slice none 0 0) := by
  have hb := bal w (.cells #[.int .i64 3, .int .i64 0, .string ⟨#[]⟩] 73)
  have h1 := h.on hb
  have RR := Lib.hid (refuses_any _ B g s p0 p1 q0 q1 lv 0 h1)
  have RS := Lib.hid (settle_any _ B g s p0 p1 q0 q1 lv h1 (Nat.le_trans hB hb.size) hm)
  rw [hr] at RR
  have HB := Lib.hid hb
  have HB0 := Lib.hid hB
  have hlf := h.lf
  have HA := Lib.hid ha
  clear h hb h1 hB hm hr ha
  go_enter Try.func52, Try.ntmps52
  go_wp2_with (first
    | (go_at_call 31; (with_reducible refine (RR.out).mono ?_); rintro e w1 ⟨rfl, rfl⟩)
    | (go_at_call 55; (with_reducible refine (RS.out).mono ?_); rintro e w2 ⟨rfl, v0, v1, hst⟩; have HST := Lib.hid hst; have c7 := hst.1.box.get 7 rfl; rw [HA.out] at c7; have c8 := hst.1.box.get 8 rfl; have f8 := hst.1.box.free 8 (by simp); clear hst))
  go_ret
  exact ⟨rfl, v0, v1, Stands.after HB.out HB0.out (HST.out.trans (HST.out.1.left (s.left - 1) (by omega)))⟩
set_option maxRecDepth 100000 in
set_option maxHeartbeats 2000000 in
theorem perform_chgN (c : Chg) (hc : c.ok) (w : World) (B g : Nat) (s : Dsk) (p0 p1 q0 q1 lv : Value) (h : DiskAt w B g s p0 p1 q0 q1 lv) (hB : B ≤ w.heap.size) (hri : s.right) (hm : s.mass + c.w ≤ 900000) (hr : s.refuses (c.area : Int) = 0) (ha : s.armed = false) :
    Calls Try.prog 52 #[.pointer (some ⟨g, 0, none⟩), .agg #[.int .i64 (c.does : Int), .int .i64 (c.area : Int), .string c.text]] w fun e w' => e = .returned (.int .i64 0) ∧ ∃ v0 v1 lv', Stands B g { s with now := s.now.does c, loose := s.loose ++ [c] } (owns g p0 p1 q0 q1 lv) w w' (p0, p1, v0, v1, lv') := by
  obtain ⟨j, hj, hz0, hz1, hz2⟩ := info_parts chg_info
  have hb := bal w (.cells #[.int .i64 (c.does : Int), .int .i64 (c.area : Int), .string c.text] 73)
  have h1 := h.on hb
  have hd := h1.on (Below.refl _ _).drew
  have hbd := hb.drew
  have RR := Lib.hid (refuses_any _ B g s p0 p1 q0 q1 lv c.area h1)
  rw [hr] at RR
  have hnm := Dsk.now_mass hri
  have RD := Lib.hid (do_now c hc _ B g s p0 p1 q0 q1 lv hd (Nat.le_trans hB hbd.size) (by unfold Chg.w at hm; omega))
  have hbx := box_made w [.int .i64 (c.does : Int), .int .i64 (c.area : Int), .string c.text] 73
  have CB0 : (w.alloc (.cells #[.int .i64 (c.does : Int), .int .i64 (c.area : Int), .string c.text] 73)).cell? ⟨w.heap.size, 0, none⟩ = some (.int .i64 (c.does : Int)) := hbx.get 0 rfl
  have CB1 : (w.alloc (.cells #[.int .i64 (c.does : Int), .int .i64 (c.area : Int), .string c.text] 73)).cell? ⟨w.heap.size, 1, none⟩ = some (.int .i64 (c.area : Int)) := hbx.get 1 rfl
  have CD : (w.alloc (.cells #[.int .i64 (c.does : Int), .int .i64 (c.area : Int), .string c.text] 73)).drew.cell? ⟨w.heap.size, 0, none⟩ = some (.int .i64 (c.does : Int)) ∧ (w.alloc (.cells #[.int .i64 (c.does : Int), .int .i64 (c.area : Int), .string c.text] 73)).drew.cell? ⟨w.heap.size, 1, none⟩ = some (.int .i64 (c.area : Int)) ∧ (w.alloc (.cells #[.int .i64 (c.does : Int), .int .i64 (c.area : Int), .string c.text] 73)).drew.cell? ⟨w.heap.size, 2, none⟩ = some (.string c.text) := ⟨hbx.get 0 rfl, hbx.get 1 rfl, hbx.get 2 rfl⟩
  have HNO : Hid (some w.heap.size ∉ owns g p0 p1 q0 q1 lv ∧ w.heap.size < (w.alloc (.cells #[.int .i64 (c.does : Int), .int .i64 (c.area : Int), .string c.text] 73)).drew.heap.size) := ⟨fun e => by have := (h.own _ e).2; omega, hbx.1⟩
  have hlm := massL_len s.loose
  have q3 : s.loose.length + 1 ≤ 1000000 := by unfold Dsk.mass at hm; omega
  have q4 : (s.loose.length + 1) * 32 ≤ 140737488355328 := by omega
  have HB := Lib.hid hbd
  have HB0 := Lib.hid hB
  have HC := Lib.hid hc
  have HA := Lib.hid ha
  have hd3 : ((c.does : Int) == 3) = false := by have := hc.1; rw [beq_eq_false_iff_ne]; omega
  obtain ⟨A, z, hlv, _⟩ := h.lo.slice
  subst hlv
  obtain ⟨n, hn⟩ : ∃ n, n = s.loose.length := ⟨_, rfl⟩
  rw [← hn] at q3 q4
  have HN := Lib.hid hn
  have hones : ∀ u ∈ c.cells, u.oneCell' = true := by
    intro u hu
    simp only [Chg.cells, List.mem_cons, List.not_mem_nil, or_false] at hu
    rcases hu with rfl | rfl | rfl <;> rfl
  have HO := Lib.hid hones
  clear h hb h1 hd hbd hnm hbx hlm hB hri hm hr ha hc hones
  rw [← hn] at RD HNO ⊢
  clear hn
  go_enter Try.func52, Try.ntmps52
  go_wp2_with (go_at_call 31; (with_reducible refine (RR.out).mono ?_); rintro e w1 ⟨rfl, rfl⟩)
  first | (go_region_held3 (fun W => W.cell? ⟨w.heap.size, 0, none⟩ = some (.int .i64 (c.does : Int)) ∧ W.cell? ⟨w.heap.size, 1, none⟩ = some (.int .i64 (c.area : Int)) ∧ W.cell? ⟨w.heap.size, 2, none⟩ = some (.string c.text)) (first | exact C2 | exact CD) (first
    | (go_at_call 39; (with_reducible refine (RD.out).mono ?_); rintro e w2 ⟨rfl, v0, v1, hs2⟩; have e2 := hs2.2.2.2 _ HNO.out.2 HNO.out.1; have C2 := And.intro ((World.cell?_of_block (a := ⟨w.heap.size, 0, none⟩) e2).trans CD.1) (And.intro ((World.cell?_of_block (a := ⟨w.heap.size, 1, none⟩) e2).trans CD.2.1) ((World.cell?_of_block (a := ⟨w.heap.size, 2, none⟩) e2).trans CD.2.2))))) | fail
  have HS2 := Lib.hid hs2
  have E0 : w2.drew.cell? ⟨w.heap.size, 0, none⟩ = some (.int .i64 (c.does : Int)) := C2.1
  have E1 : w2.drew.cell? ⟨w.heap.size, 1, none⟩ = some (.int .i64 (c.area : Int)) := C2.2.1
  have E2 : w2.drew.cell? ⟨w.heap.size, 2, none⟩ = some (.string c.text) := C2.2.2
  have hdd := hs2.1.on (Below.refl _ _).drew
  have HDD := Lib.hid hdd
  have c6 : w2.drew.cell? ⟨g, 6, none⟩ = some (.slice A n z) := hdd.box.get 6 rfl
  have hal := bal w2.drew (.cells #[.int .i64 (c.does : Int), .int .i64 (c.area : Int), .string c.text] 73)
  have HAL := Lib.hid hal
  have c6a := (World.cell?_of_block (a := ⟨g, 6, none⟩) (hal.block g hdd.box.1)).trans c6
  have c6c : (w2.alloc (.cells #[.int .i64 (c.does : Int), .int .i64 (c.area : Int), .string c.text] 73)).cell? ⟨g, 6, none⟩ = some (.slice A n z) := c6a
  have E0a := (World.cell?_of_block (a := ⟨w.heap.size, 0, none⟩) (hal.block w.heap.size (Nat.lt_of_lt_of_le HNO.out.2 hs2.2.2.1.size))).trans E0
  have E1a := (World.cell?_of_block (a := ⟨w.heap.size, 1, none⟩) (hal.block w.heap.size (Nat.lt_of_lt_of_le HNO.out.2 hs2.2.2.1.size))).trans E1
  have E2a := (World.cell?_of_block (a := ⟨w.heap.size, 2, none⟩) (hal.block w.heap.size (Nat.lt_of_lt_of_le HNO.out.2 hs2.2.2.1.size))).trans E2
  have HB2 : Hid (B ≤ w2.drew.heap.size) := Nat.le_trans HB0.out (Nat.le_trans HB.out.size hs2.2.2.1.size)
  have hB2 : B ≤ (w2.drew.alloc (.cells #[.int .i64 (c.does : Int), .int .i64 (c.area : Int), .string c.text] 73)).heap.size := Nat.le_trans HB2.out hal.size
  have S1 : Src Try.prog 3 56 (.slice (some ⟨w2.drew.heap.size, 0, none⟩) 1 1) 1 c.cells (w2.drew.alloc (.cells #[.int .i64 (c.does : Int), .int .i64 (c.area : Int), .string c.text] 73)) := srcN_one (P := Try.prog) w2.drew 3 c.cells rfl HO.out (e := 73) Try.underlying56
  have hlo : RoomN (w2.drew.alloc (.cells #[.int .i64 (c.does : Int), .int .i64 (c.area : Int), .string c.text] 73)) B (.slice A n z) 3 n (chgCells s.loose) := by have := hdd.lo.on hal; rw [← HN.out] at this; exact this
  clear hs2 hdd hal C2 CD CB0 CB1
  go_wp2
  first | (go_region_law (first
    | ((refine step_appendN (B := B) (n := 3) (k := n) (m := 1) (cs := chgCells s.loose) (ys := c.cells) (by rfl) (.tmp 27) (.tmp 29) 56 56 (by rfl) 73 j _ 32 Try.underlying56 hj hz0 hz1 rfl hz2 hlo hB2 S1 rfl q3 q4 (by rfl) (by rfl) ?_; intro v5 w5 h5 hb5 hk5 ho5; have h5' : RoomN w5 B v5 3 (s.loose ++ [c]).length (chgCells (s.loose ++ [c])) := (by rw [chgCells_snoc, List.length_append, ← HN.out]; exact h5); have hps := HDD.out.push HB2.out HAL.out hb5 hk5 v5 (s.loose ++ [c]) h5' ho5 (by intro x hx; rcases List.mem_append.1 hx with q | q; exact HDD.out.ok x q; rw [List.mem_singleton.1 q]; exact HC.out); have HPS := Lib.hid hps; have c7 := hps.1.box.get 7 rfl; have c8 := hps.1.box.get 8 rfl; have f8 := hps.1.box.free 8 (by simp); have c6b := (World.cell?_of_block (a := ⟨g, 6, none⟩) (hk5 g (Nat.lt_of_lt_of_le HDD.out.box.1 HAL.out.size) (fun q => HDD.out.apart 0 5 g (by omega) rfl (by show some (Value.slice A n z).ownBlock = _; rw [q])))).trans c6a; have f6b := (World.frozen?_of_block (a := ⟨g, 6, none⟩) ((hk5 g (Nat.lt_of_lt_of_le HDD.out.box.1 HAL.out.size) (fun q => HDD.out.apart 0 5 g (by omega) rfl (by show some (Value.slice A n z).ownBlock = _; rw [q]))).trans (HAL.out.block g HDD.out.box.1))).trans (HDD.out.box.free 6 (by simp)); obtain ⟨A5, z5, hv5, _⟩ := h5.slice; subst hv5; clear hps; rw [HA.out] at c7)))) | fail
  all_goals go_wp2
  all_goals go_ret
  all_goals exact ⟨rfl, v0, v1, _, Stands.after HB.out HB0.out (HS2.out.trans (Stands.after (Below.refl _ _).drew HB2.out HPS.out))⟩
set_option maxRecDepth 100000 in
set_option maxHeartbeats 2000000 in
theorem perform_chgA (c : Chg) (hc : c.ok) (w : World) (B g : Nat) (s : Dsk) (p0 p1 q0 q1 lv : Value) (h : DiskAt w B g s p0 p1 q0 q1 lv) (hB : B ≤ w.heap.size) (hri : s.right) (hm : s.mass + c.w ≤ 900000) (hr : s.refuses (c.area : Int) = 0) (ha : s.armed = true) (hl : 0 < s.left) :
    Calls Try.prog 52 #[.pointer (some ⟨g, 0, none⟩), .agg #[.int .i64 (c.does : Int), .int .i64 (c.area : Int), .string c.text]] w fun e w' => e = .returned (.int .i64 0) ∧ ∃ v0 v1 lv', Stands B g { s with now := s.now.does c, loose := s.loose ++ [c], left := s.left - 1 } (owns g p0 p1 q0 q1 lv) w w' (p0, p1, v0, v1, lv') := by
  obtain ⟨j, hj, hz0, hz1, hz2⟩ := info_parts chg_info
  have hb := bal w (.cells #[.int .i64 (c.does : Int), .int .i64 (c.area : Int), .string c.text] 73)
  have h1 := h.on hb
  have hd := h1.on (Below.refl _ _).drew
  have hbd := hb.drew
  have RR := Lib.hid (refuses_any _ B g s p0 p1 q0 q1 lv c.area h1)
  rw [hr] at RR
  have hnm := Dsk.now_mass hri
  have RD := Lib.hid (do_now c hc _ B g s p0 p1 q0 q1 lv hd (Nat.le_trans hB hbd.size) (by unfold Chg.w at hm; omega))
  have hbx := box_made w [.int .i64 (c.does : Int), .int .i64 (c.area : Int), .string c.text] 73
  have CB0 : (w.alloc (.cells #[.int .i64 (c.does : Int), .int .i64 (c.area : Int), .string c.text] 73)).cell? ⟨w.heap.size, 0, none⟩ = some (.int .i64 (c.does : Int)) := hbx.get 0 rfl
  have CB1 : (w.alloc (.cells #[.int .i64 (c.does : Int), .int .i64 (c.area : Int), .string c.text] 73)).cell? ⟨w.heap.size, 1, none⟩ = some (.int .i64 (c.area : Int)) := hbx.get 1 rfl
  have CD : (w.alloc (.cells #[.int .i64 (c.does : Int), .int .i64 (c.area : Int), .string c.text] 73)).drew.cell? ⟨w.heap.size, 0, none⟩ = some (.int .i64 (c.does : Int)) ∧ (w.alloc (.cells #[.int .i64 (c.does : Int), .int .i64 (c.area : Int), .string c.text] 73)).drew.cell? ⟨w.heap.size, 1, none⟩ = some (.int .i64 (c.area : Int)) ∧ (w.alloc (.cells #[.int .i64 (c.does : Int), .int .i64 (c.area : Int), .string c.text] 73)).drew.cell? ⟨w.heap.size, 2, none⟩ = some (.string c.text) := ⟨hbx.get 0 rfl, hbx.get 1 rfl, hbx.get 2 rfl⟩
  have HNO : Hid (some w.heap.size ∉ owns g p0 p1 q0 q1 lv ∧ w.heap.size < (w.alloc (.cells #[.int .i64 (c.does : Int), .int .i64 (c.area : Int), .string c.text] 73)).drew.heap.size) := ⟨fun e => by have := (h.own _ e).2; omega, hbx.1⟩
  have hlm := massL_len s.loose
  have q3 : s.loose.length + 1 ≤ 1000000 := by unfold Dsk.mass at hm; omega
  have q4 : (s.loose.length + 1) * 32 ≤ 140737488355328 := by omega
  have HB := Lib.hid hbd
  have HB0 := Lib.hid hB
  have HC := Lib.hid hc
  have HA := Lib.hid ha
  have hd3 : ((c.does : Int) == 3) = false := by have := hc.1; rw [beq_eq_false_iff_ne]; omega
  have hlf := h.lf
  obtain ⟨A, z, hlv, _⟩ := h.lo.slice
  subst hlv
  obtain ⟨n, hn⟩ : ∃ n, n = s.loose.length := ⟨_, rfl⟩
  rw [← hn] at q3 q4
  have HN := Lib.hid hn
  have hones : ∀ u ∈ c.cells, u.oneCell' = true := by
    intro u hu
    simp only [Chg.cells, List.mem_cons, List.not_mem_nil, or_false] at hu
    rcases hu with rfl | rfl | rfl <;> rfl
  have HO := Lib.hid hones
  clear h hb h1 hd hbd hnm hbx hlm hB hri hm hr ha hc hones
  rw [← hn] at RD HNO ⊢
  clear hn
  go_enter Try.func52, Try.ntmps52
  go_wp2_with (go_at_call 31; (with_reducible refine (RR.out).mono ?_); rintro e w1 ⟨rfl, rfl⟩)
  first | (go_region_held3 (fun W => W.cell? ⟨w.heap.size, 0, none⟩ = some (.int .i64 (c.does : Int)) ∧ W.cell? ⟨w.heap.size, 1, none⟩ = some (.int .i64 (c.area : Int)) ∧ W.cell? ⟨w.heap.size, 2, none⟩ = some (.string c.text)) (first | exact C2 | exact CD) (first
    | (go_at_call 39; (with_reducible refine (RD.out).mono ?_); rintro e w2 ⟨rfl, v0, v1, hs2⟩; have e2 := hs2.2.2.2 _ HNO.out.2 HNO.out.1; have C2 := And.intro ((World.cell?_of_block (a := ⟨w.heap.size, 0, none⟩) e2).trans CD.1) (And.intro ((World.cell?_of_block (a := ⟨w.heap.size, 1, none⟩) e2).trans CD.2.1) ((World.cell?_of_block (a := ⟨w.heap.size, 2, none⟩) e2).trans CD.2.2))))) | fail
  have HS2 := Lib.hid hs2
  have E0 : w2.drew.cell? ⟨w.heap.size, 0, none⟩ = some (.int .i64 (c.does : Int)) := C2.1
  have E1 : w2.drew.cell? ⟨w.heap.size, 1, none⟩ = some (.int .i64 (c.area : Int)) := C2.2.1
  have E2 : w2.drew.cell? ⟨w.heap.size, 2, none⟩ = some (.string c.text) := C2.2.2
  have hdd := hs2.1.on (Below.refl _ _).drew
  have HDD := Lib.hid hdd
  have c6 : w2.drew.cell? ⟨g, 6, none⟩ = some (.slice A n z) := hdd.box.get 6 rfl
  have hal := bal w2.drew (.cells #[.int .i64 (c.does : Int), .int .i64 (c.area : Int), .string c.text] 73)
  have HAL := Lib.hid hal
  have c6a := (World.cell?_of_block (a := ⟨g, 6, none⟩) (hal.block g hdd.box.1)).trans c6
  have c6c : (w2.alloc (.cells #[.int .i64 (c.does : Int), .int .i64 (c.area : Int), .string c.text] 73)).cell? ⟨g, 6, none⟩ = some (.slice A n z) := c6a
  have E0a := (World.cell?_of_block (a := ⟨w.heap.size, 0, none⟩) (hal.block w.heap.size (Nat.lt_of_lt_of_le HNO.out.2 hs2.2.2.1.size))).trans E0
  have E1a := (World.cell?_of_block (a := ⟨w.heap.size, 1, none⟩) (hal.block w.heap.size (Nat.lt_of_lt_of_le HNO.out.2 hs2.2.2.1.size))).trans E1
  have E2a := (World.cell?_of_block (a := ⟨w.heap.size, 2, none⟩) (hal.block w.heap.size (Nat.lt_of_lt_of_le HNO.out.2 hs2.2.2.1.size))).trans E2
  have HB2 : Hid (B ≤ w2.drew.heap.size) := Nat.le_trans HB0.out (Nat.le_trans HB.out.size hs2.2.2.1.size)
  have hB2 : B ≤ (w2.drew.alloc (.cells #[.int .i64 (c.does : Int), .int .i64 (c.area : Int), .string c.text] 73)).heap.size := Nat.le_trans HB2.out hal.size
  have S1 : Src Try.prog 3 56 (.slice (some ⟨w2.drew.heap.size, 0, none⟩) 1 1) 1 c.cells (w2.drew.alloc (.cells #[.int .i64 (c.does : Int), .int .i64 (c.area : Int), .string c.text] 73)) := srcN_one (P := Try.prog) w2.drew 3 c.cells rfl HO.out (e := 73) Try.underlying56
  have hlo : RoomN (w2.drew.alloc (.cells #[.int .i64 (c.does : Int), .int .i64 (c.area : Int), .string c.text] 73)) B (.slice A n z) 3 n (chgCells s.loose) := by have := hdd.lo.on hal; rw [← HN.out] at this; exact this
  clear hs2 hdd hal C2 CD CB0 CB1
  go_wp2
  first | (go_region_law (first
    | ((refine step_appendN (B := B) (n := 3) (k := n) (m := 1) (cs := chgCells s.loose) (ys := c.cells) (by rfl) (.tmp 27) (.tmp 29) 56 56 (by rfl) 73 j _ 32 Try.underlying56 hj hz0 hz1 rfl hz2 hlo hB2 S1 rfl q3 q4 (by rfl) (by rfl) ?_; intro v5 w5 h5 hb5 hk5 ho5; have h5' : RoomN w5 B v5 3 (s.loose ++ [c]).length (chgCells (s.loose ++ [c])) := (by rw [chgCells_snoc, List.length_append, ← HN.out]; exact h5); have hps := HDD.out.push HB2.out HAL.out hb5 hk5 v5 (s.loose ++ [c]) h5' ho5 (by intro x hx; rcases List.mem_append.1 hx with q | q; exact HDD.out.ok x q; rw [List.mem_singleton.1 q]; exact HC.out); have HPS := Lib.hid hps; have c7 := hps.1.box.get 7 rfl; have c8 := hps.1.box.get 8 rfl; have f8 := hps.1.box.free 8 (by simp); have c6b := (World.cell?_of_block (a := ⟨g, 6, none⟩) (hk5 g (Nat.lt_of_lt_of_le HDD.out.box.1 HAL.out.size) (fun q => HDD.out.apart 0 5 g (by omega) rfl (by show some (Value.slice A n z).ownBlock = _; rw [q])))).trans c6a; have f6b := (World.frozen?_of_block (a := ⟨g, 6, none⟩) ((hk5 g (Nat.lt_of_lt_of_le HDD.out.box.1 HAL.out.size) (fun q => HDD.out.apart 0 5 g (by omega) rfl (by show some (Value.slice A n z).ownBlock = _; rw [q]))).trans (HAL.out.block g HDD.out.box.1))).trans (HDD.out.box.free 6 (by simp)); obtain ⟨A5, z5, hv5, _⟩ := h5.slice; subst hv5; clear hps; rw [HA.out] at c7)))) | fail
  all_goals go_wp2
  all_goals go_ret
  all_goals exact ⟨rfl, v0, v1, _, Stands.after HB.out HB0.out (HS2.out.trans (Stands.after (Below.refl _ _).drew HB2.out (HPS.out.trans (HPS.out.1.left (s.left - 1) (by omega)))))⟩

end Go.Proofs.Ytoggdpkpfdilnaa
