/-
  The program's Append, Wipe, Front, Sync, Arm, of whatever disk.
-/
import Derived.Test.YtoggdpkpfdilnaaPf
import Derived.Test.YtoggdpkpfdilnaaFr2
namespace Go.Proofs.Ytoggdpkpfdilnaa
open Go.RowKit
def Dsk.chg (s : Dsk) (k : Nat) (area : Int) (l : List UInt8) : Dsk × Int :=
  if s.refuses area = 0 then (Dsk.tick { s with now := s.now.does ⟨k, area.toNat, ⟨l.toArray⟩⟩, loose := s.loose ++ [⟨k, area.toNat, ⟨l.toArray⟩⟩] }, 0) else (s, s.refuses area)
def Dsk.sync (s : Dsk) : Dsk × Int := if s.refuses 0 = 0 then (Dsk.tick { s with last := s.last.all s.loose, loose := [] }, 0) else (s, s.refuses 0)
def Dsk.arm (s : Dsk) (n : Int) : Dsk := if s.down = true then s else { s with armed := decide (0 ≤ n), left := max n 0 }
/-- what a change comes to -/
def Does (B g : Nat) (F : Nat → Prop) (w : World) (r : Dsk × Int) (e : Ending) (w' : World) : Prop := e = .returned (.int .i64 r.2) ∧ Turned B g r.1 F w w'
theorem refuses_up {s : Dsk} {area : Int} (h : s.refuses area = 0) : (area = 0 ∨ area = 1) ∧ s.down = false := by
  unfold Dsk.refuses at h
  split at h
  · rename_i ha
    split at h
    · cases h
    · rename_i hd
      exact ⟨ha, by simpa using hd⟩
  · cases h
theorem up_left {s : Dsk} (h : s.down = false) (ha : s.armed = true) (hl : 0 ≤ s.left) : 0 < s.left := by
  unfold Dsk.down at h
  rw [ha, Bool.true_and] at h
  have := of_decide_eq_false h
  omega
theorem Disk.same {w w' : World} {B g : Nat} {s : Dsk} {F : Nat → Prop} (h : Disk w B g s F) (hB : B ≤ w.heap.size) (hb : Below w.heap.size w w') : Turned B g s F w w' :=
  ⟨F, h.on hb, fun _ hk => .inl hk, hb.mono hB, fun k hk _ => hb.block k hk⟩
theorem Disk.base {w : World} {B g : Nat} {s : Dsk} {F : Nat → Prop} (h : Disk w B g s F) : B ≤ w.heap.size := by
  obtain ⟨p0, p1, q0, q1, lv, h1, _⟩ := h
  exact Nat.le_trans h1.base (Nat.le_of_lt h1.box.1)

theorem perform_any (k : Nat) (hk : k < 3) (area : Int) (l : List UInt8) (w : World) (B g : Nat) (s : Dsk) (F : Nat → Prop) (h : Disk w B g s F) (hm : s.mass + l.length + 1 ≤ 900000) :
    Calls Try.prog 52 #[.pointer (some ⟨g, 0, none⟩), .agg #[.int .i64 (k : Int), .int .i64 area, .string ⟨l.toArray⟩]] w (Does B g F w (s.chg k area l)) := by
  have hB := h.base
  have h0 := h
  obtain ⟨p0, p1, q0, q1, lv, h1, h2, h3, h4⟩ := h
  by_cases hr : s.refuses area = 0
  · obtain ⟨ha, hd⟩ := refuses_up hr
    have hq : s.chg k area l = (Dsk.tick { s with now := s.now.does ⟨k, area.toNat, ⟨l.toArray⟩⟩, loose := s.loose ++ [⟨k, area.toNat, ⟨l.toArray⟩⟩] }, 0) := by unfold Dsk.chg; rw [if_pos hr]
    have hc : (⟨k, area.toNat, ⟨l.toArray⟩⟩ : Chg).ok := ⟨hk, by show area.toNat < 2; omega⟩
    have hw : (⟨k, area.toNat, ⟨l.toArray⟩⟩ : Chg).w = l.length + 1 := rfl
    have ht : ((area.toNat : Nat) : Int) = area := by omega
    have hri : ∀ (a : Bool) (n : Int), Dsk.right { last := s.last, now := s.now.does ⟨k, area.toNat, ⟨l.toArray⟩⟩, loose := s.loose ++ [⟨k, area.toNat, ⟨l.toArray⟩⟩], armed := a, left := n } := fun a n => by
      show s.now.does _ = s.last.all (s.loose ++ [_])
      rw [Cont.all_snoc, ← h4]
    rw [hq]
    cases hb : s.armed with
    | true =>
      have := perform_chgA _ hc w B g s p0 p1 q0 q1 lv h1 hB h4 (by rw [hw]; omega) (by show s.refuses (area.toNat : Int) = 0; rw [ht]; exact hr) hb (up_left hd hb h1.lf.1)
      simp only [ht] at this
      refine this.mono ?_
      rintro e w' ⟨rfl, v0, v1, lv', hst⟩
      rw [hb] at hst
      exact ⟨rfl, hst.turned h2 (hri _ _)⟩
    | false =>
      have := perform_chgN _ hc w B g s p0 p1 q0 q1 lv h1 hB h4 (by rw [hw]; omega) (by show s.refuses (area.toNat : Int) = 0; rw [ht]; exact hr) hb
      simp only [ht] at this
      refine this.mono ?_
      rintro e w' ⟨rfl, v0, v1, lv', hst⟩
      rw [hb] at hst
      exact ⟨rfl, hst.turned h2 (hri _ _)⟩
  · have hq : s.chg k area l = (s, s.refuses area) := by unfold Dsk.chg; rw [if_neg hr]
    rw [hq]
    refine (perform_no _ area _ w B g s p0 p1 q0 q1 lv h1 hr).mono ?_
    rintro e w' ⟨rfl, hb⟩
    exact ⟨rfl, h0.same hB hb⟩

theorem perform_sync (w : World) (B g : Nat) (s : Dsk) (F : Nat → Prop) (h : Disk w B g s F) (hm : s.mass ≤ 900000) :
    Calls Try.prog 52 #[.pointer (some ⟨g, 0, none⟩), .agg #[.int .i64 3, .int .i64 0, .string ⟨#[]⟩]] w (Does B g F w s.sync) := by
  have hB := h.base
  have h0 := h
  obtain ⟨p0, p1, q0, q1, lv, h1, h2, h3, h4⟩ := h
  by_cases hr : s.refuses 0 = 0
  · obtain ⟨ha, hd⟩ := refuses_up hr
    have hq : s.sync = (Dsk.tick { s with last := s.last.all s.loose, loose := [] }, 0) := by unfold Dsk.sync; rw [if_pos hr]
    have hri : ∀ (a : Bool) (n : Int), Dsk.right { last := s.last.all s.loose, now := s.now, loose := [], armed := a, left := n } := fun a n => h4
    rw [hq]
    cases hb : s.armed with
    | true =>
      refine (perform_syncA w B g s p0 p1 q0 q1 lv h1 hB (by omega) hr hb (up_left hd hb h1.lf.1)).mono ?_
      rintro e w' ⟨rfl, v0, v1, hst⟩
      rw [hb] at hst
      exact ⟨rfl, hst.turned h2 (hri _ _)⟩
    | false =>
      refine (perform_syncN w B g s p0 p1 q0 q1 lv h1 hB (by omega) hr hb).mono ?_
      rintro e w' ⟨rfl, v0, v1, hst⟩
      rw [hb] at hst
      exact ⟨rfl, hst.turned h2 (hri _ _)⟩
  · have hq : s.sync = (s, s.refuses 0) := by unfold Dsk.sync; rw [if_neg hr]
    rw [hq]
    refine (perform_no _ 0 _ w B g s p0 p1 q0 q1 lv h1 hr).mono ?_
    rintro e w' ⟨rfl, hb⟩
    exact ⟨rfl, h0.same hB hb⟩

set_option maxRecDepth 100000 in
theorem append_any (area : Int) (v : Value) (l : List UInt8) (B0 : Nat) (w : World) (B g : Nat) (s : Dsk) (F : Nat → Prop) (h : Disk w B g s F) (hv : Seen w B0 v l) (hm : s.mass + l.length + 1 ≤ 900000) :
    Calls Try.prog 36 #[.pointer (some ⟨g, 0, none⟩), .int .i64 area, v] w (Does B g F w (s.chg 0 area l)) := by
  have RP := Lib.hid (perform_any 0 (by omega) area l w B g s F h hm)
  have CS := conv_seen hv
  obtain ⟨A, c, rfl, _⟩ := hv
  clear h hm
  go_enter Try.func36, Try.ntmps36
  go_wp2_with (go_at_call 52; refine (RP.out).mono ?_; rintro e w1 ⟨rfl, ht⟩)
  go_ret
  exact ⟨rfl, ht⟩
set_option maxRecDepth 100000 in
theorem wipe_any (area : Int) (w : World) (B g : Nat) (s : Dsk) (F : Nat → Prop) (h : Disk w B g s F) (hm : s.mass + 1 ≤ 900000) :
    Calls Try.prog 46 #[.pointer (some ⟨g, 0, none⟩), .int .i64 area] w (Does B g F w (s.chg 1 area [])) := by
  have RP := Lib.hid (perform_any 1 (by omega) area [] w B g s F h hm)
  clear h hm
  go_enter Try.func46, Try.ntmps46
  go_wp2_with (go_at_call 52; refine (RP.out).mono ?_; rintro e w1 ⟨rfl, ht⟩)
  go_ret
  exact ⟨rfl, ht⟩
set_option maxRecDepth 100000 in
theorem front_any (area : Int) (w : World) (B g : Nat) (s : Dsk) (F : Nat → Prop) (h : Disk w B g s F) (hm : s.mass + 1 ≤ 900000) :
    Calls Try.prog 49 #[.pointer (some ⟨g, 0, none⟩), .int .i64 area] w (Does B g F w (s.chg 2 area [])) := by
  have RP := Lib.hid (perform_any 2 (by omega) area [] w B g s F h hm)
  clear h hm
  go_enter Try.func49, Try.ntmps49
  go_wp2_with (go_at_call 52; refine (RP.out).mono ?_; rintro e w1 ⟨rfl, ht⟩)
  go_ret
  exact ⟨rfl, ht⟩
set_option maxRecDepth 100000 in
theorem sync_any (w : World) (B g : Nat) (s : Dsk) (F : Nat → Prop) (h : Disk w B g s F) (hm : s.mass ≤ 900000) :
    Calls Try.prog 37 #[.pointer (some ⟨g, 0, none⟩)] w (Does B g F w s.sync) := by
  have RP := Lib.hid (perform_sync w B g s F h hm)
  clear h hm
  go_enter Try.func37, Try.ntmps37
  go_wp2_with (go_at_call 52; refine (RP.out).mono ?_; rintro e w1 ⟨rfl, ht⟩)
  go_ret
  exact ⟨rfl, ht⟩

end Go.Proofs.Ytoggdpkpfdilnaa
