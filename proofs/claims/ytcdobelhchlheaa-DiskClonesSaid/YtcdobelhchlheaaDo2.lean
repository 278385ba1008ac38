/-
  The document's own act: a crash.
-/
import Derived.Test.YtcdobelhchlheaaDo1
namespace Go.Proofs.Ytcdobelhchlheaa
open Go.RowKit
attribute [local go_sem ↓] Go.wp_at_zero Go.wp_at_succ

theorem boxF3 (w : World) (o1 o2 : Obj) (vs : List Value) (T : TypeId) : BoxF (w.heap.size + 1 + 1) vs (((w.alloc o1).alloc o2).alloc (.cells vs.toArray T)) := by
  have := boxF_made ((w.alloc o1).alloc o2) vs T
  rw [show ((w.alloc o1).alloc o2).heap.size = w.heap.size + 1 + 1 by simp] at this
  exact this
set_option maxRecDepth 100000 in
set_option maxHeartbeats 2000000 in
theorem do_crash (d : Dskd) (a : Actd) (sv lv vb : Value) (w : World) (B0 : Nat) (X : Nat → Prop) (hB0 : B0 ≤ w.heap.size) (hl : d.liesIn w B0 X sv lv) (hs : Seen w B0 vb a.b) (hn : d.safe.length + d.loose.length ≤ 100000) (hk : a.kind.toNat % 6 = 5) :
    Calls Try.prog 12 #[.agg #[sv, lv, .int .i64 d.left, .bool d.armed, .bool d.down], .agg #[.int .u8 (a.kind.toNat : Int), .int .i64 a.area, vb, .int .i64 a.n, .int .i64 a.m]] w (Done7 B0 X w (d.crash a.n a.m) 0) := by
  obtain ⟨q, hq⟩ : ∃ q : Nat, q = a.kind.toNat := ⟨_, rfl⟩
  have hq2 : q < 256 := by rw [hq]; exact UInt8.toNat_lt _
  rw [← hq] at hk ⊢
  have HK : (q : Int) % 6 = 5 := by omega
  obtain ⟨A1, n1, c1, hv1⟩ := acts_slice hl.1
  obtain ⟨A2, n2, c2, hv2⟩ := acts_slice hl.2
  obtain ⟨Ab, cb, hvb, _⟩ := hs
  have RC : Hid (∀ o1 o2 o3, Calls Try.prog 27 #[.agg #[sv, lv, .int .i64 d.left, .bool d.armed, .bool d.down], .int .i64 a.n, .int .i64 a.m] (((w.alloc o1).alloc o2).alloc o3) (Crashed B0 (((w.alloc o1).alloc o2).alloc o3) (d.crash a.n a.m).safe)) := fun o1 o2 o3 =>
    crash_any d sv lv a.n a.m _ B0 (Nat.le_trans hB0 (below3 w o1 o2 o3).size) ⟨(hl.1.on hB0 (below3 w o1 o2 o3)).full, (hl.2.on hB0 (below3 w o1 o2 o3)).full⟩ hn
  have HZ := Lib.hid (fun o1 o2 => boxF3 w o1 o2 [.slice none 0 0, .slice none 0 0, .int .i64 0, .bool false, .bool false] 28)
  subst hv1 hv2 hvb
  clear hq hl hk
  go_enter Try.func12, Try.ntmps12
  go_wp2_with fail
  go_at_call 27
  refine (RC.out _ _ _).mono ?_
  rintro e w1 ⟨v, css, rfl, ⟨hc, hr⟩, hb⟩
  have hbz := (HZ.out _ _).on hb
  have hbw := bt (below3 w _ _ _) hb
  obtain ⟨A3, c3, hv3, _⟩ := hr.slice
  have hss : ∀ o1 o2 o3, (((w.alloc o1).alloc o2).alloc o3).heap.size = w.heap.size + 1 + 1 + 1 := fun o1 o2 o3 => by simp
  rw [hss] at hr
  have HP := Lib.hid (acts_put5 hc hr (z := w.heap.size + 1 + 1) (by omega) (by omega) v (.slice none 0 0) (.int .i64 0) (.bool false) (.bool false))
  have HX := Lib.hid (put5_box hbz v (.slice none 0 0) (.int .i64 0) (.bool false) (.bool false)).box
  have HB : Hid (Below w.heap.size w (put5 w1 (w.heap.size + 1 + 1) v (.slice none 0 0) (.int .i64 0) (.bool false) (.bool false))) := hbw.trans (put5_below w1 (by omega) _ _ _ _ _)
  have u0 := hbz.2 0 (by simp)
  have u1 := hbz.2 1 (by simp)
  have u2 := hbz.2 2 (by simp)
  have u3 := hbz.2 3 (by simp)
  have u4 := hbz.2 4 (by simp)
  subst hv3
  clear hbz hc hr hb hbw hss RC HZ
  go_wp2
  refine bodyPost_ret (results_cell2 (p := 4) (u := 5) rfl rfl (load_dsk rfl HX.out)) rfl ?_
  exact ⟨_, _, rfl, ⟨(actsIn_room HP.out.1 HP.out.2).imp (fun b q _ => .inr (by omega)), ActsIn.nil⟩, HB.out⟩

end Go.Proofs.Ytcdobelhchlheaa
