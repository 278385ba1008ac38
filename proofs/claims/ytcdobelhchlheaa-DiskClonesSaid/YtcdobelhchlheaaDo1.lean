/-
  The document's own act, where nothing is appended (made by disk-do-gen.py).
-/
import Derived.Test.YtcdobelhchlheaaCr
namespace Go.Proofs.Ytcdobelhchlheaa
open Go.RowKit
attribute [local go_sem ↓] Go.wp_at_zero Go.wp_at_succ

theorem results_cell2 {fn : Func} {p u : Tmp} {ty : TypeId} (h : fn.results = #[.cell p ty, .tmp u]) {P : Program} {w : World} {tmps : Array Value} {a : Addr} {v : Value} (ha : tmps.getD p undef = .pointer (some a)) (hl : (loadVar ty a).run P w = .ok v w) :
    (results fn tmps).run P w = .ok (.tuple #[v, tmps.getD u undef]) w := by
  have h2 : (asAddr (tmps.getD p undef)).run P w = .ok a w := by rw [ha]; rfl
  rw [Array.getD_eq_getD_getElem?] at h2
  simp only [results, h]
  simp [Sem.run_bind, Result.andThen, h2, hl]
/-- what an act's answer comes to -/
def Done7 (B0 : Nat) (X : Nat → Prop) (w : World) (d' : Dskd) (why : Int) (e : Ending) (w' : World) : Prop := ∃ sv lv, e = .returned (.tuple #[.agg #[sv, lv, .int .i64 d'.left, .bool d'.armed, .bool d'.down], .int .i64 why]) ∧ d'.liesIn w' B0 (fun b => X b ∨ w.heap.size ≤ b) sv lv ∧ Below w.heap.size w w'
theorem box3 (w : World) (o1 o2 : Obj) (vs : List Value) (T : TypeId) : Box (w.heap.size + 1 + 1) vs (((w.alloc o1).alloc o2).alloc (.cells vs.toArray T)) := by
  have := box_made ((w.alloc o1).alloc o2) vs T
  rw [show ((w.alloc o1).alloc o2).heap.size = w.heap.size + 1 + 1 by simp] at this
  exact this
theorem below3 (w : World) (o1 o2 o3 : Obj) : Below w.heap.size w (((w.alloc o1).alloc o2).alloc o3) := bt (bt (bal _ _) (bal _ _)) (bal _ _)
theorem acts_slice {w : World} {B : Nat} {X : Nat → Prop} {v : Value} {l : List Actd} (h : ActsIn w B X v l) : ∃ A n c, v = .slice A n c := by obtain ⟨A, c, _, e, _⟩ := h; exact ⟨_, _, _, e⟩

section
variable (d : Dskd) (a : Actd) (sv lv vb : Value) (w : World) (B0 : Nat) (X : Nat → Prop) (hB0 : B0 ≤ w.heap.size) (hl : d.liesIn w B0 X sv lv) (hs : Seen w B0 vb a.b)
include hB0 hl hs
set_option maxRecDepth 100000 in
set_option maxHeartbeats 2000000 in
theorem do_armdown (hk : a.kind.toNat % 6 = 4) :
    Calls Try.prog 12 #[.agg #[sv, lv, .int .i64 d.left, .bool d.armed, .bool true], .agg #[.int .u8 (a.kind.toNat : Int), .int .i64 a.area, vb, .int .i64 a.n, .int .i64 a.m]] w (Done7 B0 X w { d with down := true } 0) := by
  obtain ⟨q, hq⟩ : ∃ q : Nat, q = a.kind.toNat := ⟨_, rfl⟩
  have hq2 : q < 256 := by rw [hq]; exact UInt8.toNat_lt _
  rw [← hq] at hk ⊢
  have HK : (q : Int) % 6 = 4 := by omega
  obtain ⟨A1, n1, c1, hv1⟩ := acts_slice hl.1
  obtain ⟨A2, n2, c2, hv2⟩ := acts_slice hl.2
  obtain ⟨Ab, cb, hvb, _⟩ := hs
  have HL := Lib.hid hl
  subst hv1 hv2 hvb
  clear hq hl hk
  go_enter Try.func12, Try.ntmps12
  go_wp2
  refine bodyPost_ret (results_cell2 (p := 4) (u := 5) rfl rfl (load_dsk (vs := [.slice A1 n1 c1, .slice A2 n2 c2, .int .i64 d.left, .bool d.armed, .bool true]) rfl (box3 w _ _ _ _))) rfl ?_
  exact ⟨_, _, rfl, HL.out.on hB0 (below3 w _ _ _), below3 w _ _ _⟩
set_option maxRecDepth 100000 in
set_option maxHeartbeats 2000000 in
theorem do_arm (hk : a.kind.toNat % 6 = 4)  :
    Calls Try.prog 12 #[.agg #[sv, lv, .int .i64 d.left, .bool d.armed, .bool false], .agg #[.int .u8 (a.kind.toNat : Int), .int .i64 a.area, vb, .int .i64 a.n, .int .i64 a.m]] w (Done7 B0 X w { d with armed := decide (0 ≤ a.n), left := a.n, down := decide (a.n = 0) } 0) := by
  obtain ⟨q, hq⟩ : ∃ q : Nat, q = a.kind.toNat := ⟨_, rfl⟩
  have hq2 : q < 256 := by rw [hq]; exact UInt8.toNat_lt _
  rw [← hq] at hk ⊢
  have HK : (q : Int) % 6 = 4 := by omega
  obtain ⟨A1, n1, c1, hv1⟩ := acts_slice hl.1
  obtain ⟨A2, n2, c2, hv2⟩ := acts_slice hl.2
  obtain ⟨Ab, cb, hvb, _⟩ := hs
  have HL := Lib.hid hl
  subst hv1 hv2 hvb
  clear hq hl hk
  go_enter Try.func12, Try.ntmps12
  go_wp2
  refine bodyPost_ret (results_cell2 (p := 4) (u := 5) rfl rfl (load_dsk (vs := [.slice A1 n1 c1, .slice A2 n2 c2, .int .i64 a.n, .bool (decide (0 ≤ a.n)), .bool (decide (a.n = 0))]) rfl (box3 w _ _ _ _))) rfl ?_
  exact ⟨_, _, rfl, HL.out.on hB0 (below3 w _ _ _), below3 w _ _ _⟩
set_option maxRecDepth 100000 in
set_option maxHeartbeats 2000000 in
theorem do_arg (hk : a.kind.toNat % 6 < 3) (h0 : ¬ a.area = 0) (h1 : ¬ a.area = 1) :
    Calls Try.prog 12 #[.agg #[sv, lv, .int .i64 d.left, .bool d.armed, .bool d.down], .agg #[.int .u8 (a.kind.toNat : Int), .int .i64 a.area, vb, .int .i64 a.n, .int .i64 a.m]] w (Done7 B0 X w d 1) := by
  obtain ⟨q, hq⟩ : ∃ q : Nat, q = a.kind.toNat := ⟨_, rfl⟩
  have hq2 : q < 256 := by rw [hq]; exact UInt8.toNat_lt _
  rw [← hq] at hk ⊢
  have h0b : (a.area != 0) = true := bne_iff_ne.2 h0
  have h1b : (a.area != 1) = true := bne_iff_ne.2 h1
  have HK : (q : Int) % 6 < 3 := by omega
  have K4 : ¬ (q : Int) % 6 = 4 := by omega
  have K5 : ¬ (q : Int) % 6 = 5 := by omega
  obtain ⟨A1, n1, c1, hv1⟩ := acts_slice hl.1
  obtain ⟨A2, n2, c2, hv2⟩ := acts_slice hl.2
  obtain ⟨Ab, cb, hvb, _⟩ := hs
  have HL := Lib.hid hl
  subst hv1 hv2 hvb
  clear hq hl hk
  go_enter Try.func12, Try.ntmps12
  go_wp2
  refine bodyPost_ret (results_cell2 (p := 4) (u := 5) rfl rfl (load_dsk (vs := [.slice A1 n1 c1, .slice A2 n2 c2, .int .i64 d.left, .bool d.armed, .bool d.down]) rfl (box3 w _ _ _ _))) rfl ?_
  exact ⟨_, _, rfl, HL.out.on hB0 (below3 w _ _ _), below3 w _ _ _⟩
set_option maxRecDepth 100000 in
set_option maxHeartbeats 2000000 in
theorem do_down3 (hk : a.kind.toNat % 6 = 3) :
    Calls Try.prog 12 #[.agg #[sv, lv, .int .i64 d.left, .bool d.armed, .bool true], .agg #[.int .u8 (a.kind.toNat : Int), .int .i64 a.area, vb, .int .i64 a.n, .int .i64 a.m]] w (Done7 B0 X w { d with down := true } 4) := by
  obtain ⟨q, hq⟩ : ∃ q : Nat, q = a.kind.toNat := ⟨_, rfl⟩
  have hq2 : q < 256 := by rw [hq]; exact UInt8.toNat_lt _
  rw [← hq] at hk ⊢
  have HK : (q : Int) % 6 = 3 := by omega
  obtain ⟨A1, n1, c1, hv1⟩ := acts_slice hl.1
  obtain ⟨A2, n2, c2, hv2⟩ := acts_slice hl.2
  obtain ⟨Ab, cb, hvb, _⟩ := hs
  have HL := Lib.hid hl
  subst hv1 hv2 hvb
  clear hq hl hk
  go_enter Try.func12, Try.ntmps12
  go_wp2
  refine bodyPost_ret (results_cell2 (p := 4) (u := 5) rfl rfl (load_dsk (vs := [.slice A1 n1 c1, .slice A2 n2 c2, .int .i64 d.left, .bool d.armed, .bool true]) rfl (box3 w _ _ _ _))) rfl ?_
  exact ⟨_, _, rfl, HL.out.on hB0 (below3 w _ _ _), below3 w _ _ _⟩
set_option maxRecDepth 100000 in
set_option maxHeartbeats 2000000 in
theorem do_down0 (hk : a.kind.toNat % 6 < 3) (h0 : a.area = 0) :
    Calls Try.prog 12 #[.agg #[sv, lv, .int .i64 d.left, .bool d.armed, .bool true], .agg #[.int .u8 (a.kind.toNat : Int), .int .i64 a.area, vb, .int .i64 a.n, .int .i64 a.m]] w (Done7 B0 X w { d with down := true } 4) := by
  obtain ⟨q, hq⟩ : ∃ q : Nat, q = a.kind.toNat := ⟨_, rfl⟩
  have hq2 : q < 256 := by rw [hq]; exact UInt8.toNat_lt _
  rw [← hq] at hk ⊢
  have HK : (q : Int) % 6 < 3 := by omega
  have K4 : ¬ (q : Int) % 6 = 4 := by omega
  have K5 : ¬ (q : Int) % 6 = 5 := by omega
  obtain ⟨A1, n1, c1, hv1⟩ := acts_slice hl.1
  obtain ⟨A2, n2, c2, hv2⟩ := acts_slice hl.2
  obtain ⟨Ab, cb, hvb, _⟩ := hs
  have HL := Lib.hid hl
  subst hv1 hv2 hvb
  clear hq hl hk
  go_enter Try.func12, Try.ntmps12
  go_wp2
  refine bodyPost_ret (results_cell2 (p := 4) (u := 5) rfl rfl (load_dsk (vs := [.slice A1 n1 c1, .slice A2 n2 c2, .int .i64 d.left, .bool d.armed, .bool true]) rfl (box3 w _ _ _ _))) rfl ?_
  exact ⟨_, _, rfl, HL.out.on hB0 (below3 w _ _ _), below3 w _ _ _⟩
set_option maxRecDepth 100000 in
set_option maxHeartbeats 2000000 in
theorem do_down1 (hk : a.kind.toNat % 6 < 3) (h0 : a.area = 1) :
    Calls Try.prog 12 #[.agg #[sv, lv, .int .i64 d.left, .bool d.armed, .bool true], .agg #[.int .u8 (a.kind.toNat : Int), .int .i64 a.area, vb, .int .i64 a.n, .int .i64 a.m]] w (Done7 B0 X w { d with down := true } 4) := by
  obtain ⟨q, hq⟩ : ∃ q : Nat, q = a.kind.toNat := ⟨_, rfl⟩
  have hq2 : q < 256 := by rw [hq]; exact UInt8.toNat_lt _
  rw [← hq] at hk ⊢
  have HK : (q : Int) % 6 < 3 := by omega
  have K4 : ¬ (q : Int) % 6 = 4 := by omega
  have K5 : ¬ (q : Int) % 6 = 5 := by omega
  obtain ⟨A1, n1, c1, hv1⟩ := acts_slice hl.1
  obtain ⟨A2, n2, c2, hv2⟩ := acts_slice hl.2
  obtain ⟨Ab, cb, hvb, _⟩ := hs
  have HL := Lib.hid hl
  subst hv1 hv2 hvb
  clear hq hl hk
  go_enter Try.func12, Try.ntmps12
  go_wp2
  refine bodyPost_ret (results_cell2 (p := 4) (u := 5) rfl rfl (load_dsk (vs := [.slice A1 n1 c1, .slice A2 n2 c2, .int .i64 d.left, .bool d.armed, .bool true]) rfl (box3 w _ _ _ _))) rfl ?_
  exact ⟨_, _, rfl, HL.out.on hB0 (below3 w _ _ _), below3 w _ _ _⟩
end

end Go.Proofs.Ytcdobelhchlheaa
