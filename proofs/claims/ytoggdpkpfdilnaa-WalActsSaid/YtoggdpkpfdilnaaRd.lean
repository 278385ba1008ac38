/-
  The program's Read of a disk.
-/
import Derived.Test.YtoggdpkpfdilnaaSm
namespace Go.Proofs.Ytoggdpkpfdilnaa
open Go.RowKit
attribute [local go_sem ↓] Go.wp_at_zero Go.wp_at_succ

def Cont.get (x : Cont) (area : Int) : List UInt8 := if area = 0 then x.a0 else x.a1
/-- what a Read comes to: these bytes, in memory of their own, and this error -/
def ReadTo (B : Nat) (w : World) (l : List UInt8) (why : Int) (e : Ending) (w' : World) : Prop := ∃ u, e = .returned (.tuple #[u, .int .i64 why]) ∧ RoomO w' B u l ∧ (∀ k, u.ownBlock = some k → w.heap.size ≤ k) ∧ Below w.heap.size w w'
def Dsk.reads (s : Dsk) (area : Int) : List UInt8 := if s.refuses area = 0 then s.now.get area else []
set_option maxRecDepth 100000 in
theorem read_any (w : World) (B g : Nat) (s : Dsk) (p0 p1 q0 q1 lv : Value) (area : Int) (h : DiskAt w B g s p0 p1 q0 q1 lv) (hB : B ≤ w.heap.size) (hri : s.right) (hm : s.mass ≤ 1000000) :
    Calls Try.prog 14 #[.pointer (some ⟨g, 0, none⟩), .int .i64 area] w (ReadTo B w (s.reads area) (s.refuses area)) := by
  have RR := Lib.hid (refuses_any w B g s p0 p1 q0 q1 lv area h)
  have hnm := Dsk.now_mass hri
  unfold Cont.mass at hnm
  have RC0 := Lib.hid (copied_any w B _ q0 s.now.a0 hB h.n0.1.seen (by omega))
  have RC1 := Lib.hid (copied_any w B _ q1 s.now.a1 hB h.n1.1.seen (by omega))
  have c3 := h.box.get 3 rfl
  have c4 := h.box.get 4 rfl
  obtain ⟨A0, z0, hq0, _⟩ := h.n0.slice
  obtain ⟨A1, z1, hq1, _⟩ := h.n1.slice
  obtain ⟨r, hr⟩ : ∃ r, r = s.refuses area := ⟨_, rfl⟩
  by_cases hz : r = 0
  · have ha : area = 0 ∨ area = 1 := by
      rw [hr] at hz
      unfold Dsk.refuses at hz
      split at hz
      · assumption
      · cases hz
    have HL : Hid (s.reads area = s.now.get area) := by show _ = _; unfold Dsk.reads; rw [← hr, if_pos hz]
    rw [← hr] at RR ⊢
    subst hz
    subst hq0 hq1
    clear hr hnm h hB hm
    rcases ha with rfl | rfl
    · go_enter Try.func14, Try.ntmps14
      go_wp2_with (first
        | (go_at_call 31; (with_reducible refine (RR.out).mono ?_); rintro e w1 ⟨rfl, rfl⟩)
        | (go_at_call 32; (with_reducible refine (RC0.out).mono ?_); rintro e w1 ⟨u, rfl, hu, ho, hb⟩))
      go_ret2
      exact ⟨u, rfl, by rw [HL.out]; exact hu, ho, hb⟩
    · go_enter Try.func14, Try.ntmps14
      go_wp2_with (first
        | (go_at_call 31; (with_reducible refine (RR.out).mono ?_); rintro e w1 ⟨rfl, rfl⟩)
        | (go_at_call 32; (with_reducible refine (RC1.out).mono ?_); rintro e w1 ⟨u, rfl, hu, ho, hb⟩))
      go_ret2
      exact ⟨u, rfl, by rw [HL.out]; exact hu, ho, hb⟩
  · have HL : Hid (s.reads area = []) := by show _ = _; unfold Dsk.reads; rw [← hr, if_neg hz]
    have hz' : (r != 0) = true := bne_iff_ne.2 hz
    rw [← hr] at RR ⊢
    clear hr hz hnm h hB hm
    go_enter Try.func14, Try.ntmps14
    go_wp2_with (first
      | (go_at_call 31; (with_reducible refine (RR.out).mono ?_); rintro e w1 ⟨rfl, rfl⟩))
    go_ret2
    exact ⟨.slice none 0 0, rfl, by rw [HL.out]; exact RoomO.nil, (fun _ h => by cases h), Below.refl _ _⟩

end Go.Proofs.Ytoggdpkpfdilnaa
