/-
  wal.front, and the steps of wal.replace, of whatever disk on which nothing fails.
-/
import Derived.Test.YtoggdpkpfdilnaaHs
namespace Go.Proofs.Ytoggdpkpfdilnaa
open Go.RowKit
attribute [local go_sem ↓] Go.wp_at_zero Go.wp_at_succ

set_option maxRecDepth 100000 in
theorem fronted (w : World) (B g : Nat) (s : Dsk) (F : Nat → Prop) (a : List UInt8) (n : Nat) (h : Disk w B g s F) (hh : Has s a n) (hn : n ≤ 900000) :
    Calls Try.prog 24 #[.pointer (some ⟨g, 0, none⟩)] w fun e w' => ∃ u, e = .returned (.tuple #[.int .i64 s.now.front, u, .int .i64 0]) ∧ RoomO w' B u a ∧ (∀ k, u.ownBlock = some k → w.heap.size ≤ k) ∧ Below w.heap.size w w' := by
  obtain ⟨f, hf⟩ : ∃ f, f = s.now.front := ⟨_, rfl⟩
  have RF := Lib.hid (first_of h (calm_down hh.calm) hf.symm)
  have RD := Lib.hid (read_is (area := f) (l := a) (why := 0) h (Nat.le_trans hh.most hn) (by rw [hf]; exact hh.reads.1) (by rw [hf]; exact hh.reads.2))
  rw [← hf]
  clear hf h hh hn
  go_enter Try.func24, Try.ntmps24
  go_wp2_with fail
  go_at_call 13
  refine (RF.out).mono ?_
  rintro e w1 ⟨rfl, rfl⟩
  go_wp2_with fail
  go_at_call 14
  refine (RD.out).mono ?_
  rintro e w1 ⟨u, rfl, hu, hou, hb⟩
  go_wp2
  go_ret3
  exact ⟨_, rfl, hu, hou, hb⟩

variable {w : World} {B g c2 c3 c7 : Nat} {s : Dsk} {F : Nat → Prop} {r : Dsk × Int} {o : Int}
set_option maxRecDepth 100000 in
theorem step_wipe (h : Disk w B g s F) (e2 : w.cell? ⟨c2, 0, none⟩ = some (.pointer (some ⟨g, 0, none⟩))) (e7 : w.cell? ⟨c7, 0, none⟩ = some (.int .i64 o)) (hm : s.mass + 1 ≤ 900000) (hr : s.chg 1 o [] = r) :
    Calls Try.prog 45 #[.pointer (some ⟨c2, 0, none⟩), .pointer (some ⟨c7, 0, none⟩)] w (Does B g F w r) := by
  have RC := Lib.hid (wipe_is h hm hr)
  clear h hm hr
  go_enter Try.func45, Try.ntmps45
  go_wp2_with fail
  go_at_call 46
  refine (RC.out).mono ?_
  rintro e w1 ⟨rfl, ht⟩
  go_wp2
  go_ret
  exact ⟨rfl, ht⟩
set_option maxRecDepth 100000 in
theorem step_front (h : Disk w B g s F) (e2 : w.cell? ⟨c2, 0, none⟩ = some (.pointer (some ⟨g, 0, none⟩))) (e7 : w.cell? ⟨c7, 0, none⟩ = some (.int .i64 o)) (hm : s.mass + 1 ≤ 900000) (hr : s.chg 2 o [] = r) :
    Calls Try.prog 48 #[.pointer (some ⟨c2, 0, none⟩), .pointer (some ⟨c7, 0, none⟩)] w (Does B g F w r) := by
  have RC := Lib.hid (front_is h hm hr)
  clear h hm hr
  go_enter Try.func48, Try.ntmps48
  go_wp2_with fail
  go_at_call 49
  refine (RC.out).mono ?_
  rintro e w1 ⟨rfl, ht⟩
  go_wp2
  go_ret
  exact ⟨rfl, ht⟩
set_option maxRecDepth 100000 in
theorem step_append {v : Value} {l : List UInt8} {B0 : Nat} (h : Disk w B g s F) (e2 : w.cell? ⟨c2, 0, none⟩ = some (.pointer (some ⟨g, 0, none⟩))) (e7 : w.cell? ⟨c7, 0, none⟩ = some (.int .i64 o)) (e3 : w.cell? ⟨c3, 0, none⟩ = some v) (hv : Seen w B0 v l) (hm : s.mass + l.length + 1 ≤ 900000) (hr : s.chg 0 o l = r) :
    Calls Try.prog 47 #[.pointer (some ⟨c2, 0, none⟩), .pointer (some ⟨c7, 0, none⟩), .pointer (some ⟨c3, 0, none⟩)] w (Does B g F w r) := by
  have RC := Lib.hid (append_is h hv hm hr)
  obtain ⟨A, c, rfl, _⟩ := hv
  clear h hm hr
  go_enter Try.func47, Try.ntmps47
  go_wp2_with fail
  go_at_call 36
  refine (RC.out).mono ?_
  rintro e w1 ⟨rfl, ht⟩
  go_wp2
  go_ret
  exact ⟨rfl, ht⟩

end Go.Proofs.Ytoggdpkpfdilnaa
