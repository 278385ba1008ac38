/-
  The document's own Same and Opened.
-/
import Derived.Test.YtoggdpkpfdilnaaLf
import Derived.Test.YtoggdpkpfdilnaaRow
namespace Go.Proofs.Ytoggdpkpfdilnaa
open Go.RowKit
attribute [local go_sem ↓] Go.wp_at_zero Go.wp_at_succ

theorem opened {w : World} {B g : Nat} {s : Dsk} {F : Nat → Prop} {a p : List UInt8} {rs : List (List UInt8)} {n m : Nat} (h : Disk w B g s F) (hh : Has s a n) (hr : Rests a p rs) (hn : n + a.length + a.length + 14 ≤ 900000) (hm1 : n ≤ m) (hm2 : a.length + a.length ≤ m) :
    Calls Try.prog 9 #[.pointer (some ⟨g, 0, none⟩)] w (OpenedTo B g F a p rs m w) := by
  rcases hr with ⟨rfl, rfl, rfl⟩ | ⟨ha, hf⟩
  · exact open_none w B g s F n m h hh (by omega) hm1
  · exact open_some w B g s F a p rs n m h hh ha hf hn hm2
theorem many_one (w : World) (k : Nat) (hk : w.heap.size = k) (u : Value) (l : List UInt8) (h : Seen w w.heap.size u l) (e : TypeId) : Many (w.alloc (.cells #[u] e)) (.slice (some ⟨k, 0, none⟩) 1 1) [l] := by
  subst hk
  have hx := boxF_made w [u] e
  refine ⟨_, 1, rfl, by simp, by unfold maxLen; omega, [u], rfl, .inr ⟨_, 0, rfl, hx.1, fun j hj => ?_⟩, fun i hi hi' => ?_⟩
  · have hj0 : j = 0 := by simpa using hj
    subst hj0
    exact hx.get 0 rfl
  · have hi0 : i = 0 := by simpa using hi
    subst hi0
    exact h.on (bal w _)

set_option maxRecDepth 100000 in
theorem same_held (w : World) (pv rv hp hr : Value) (sf : Int) (p : List UInt8) (rs : List (List UInt8)) (h1 : Seen w w.heap.size pv p) (h2 : Many w rv rs) (h3 : Seen w w.heap.size hp p) (h4 : Many w hr rs) :
    Calls Try.prog 10 #[pv, rv, .agg #[hp, hr, .int .i64 sf]] w fun e w' => e = .returned (.bool true) ∧ Below w.heap.size w w' := by
  obtain ⟨w1, hw1⟩ : ∃ x, x = w.alloc (.cells #[hp, hr, .int .i64 sf] 34) := ⟨_, rfl⟩
  obtain ⟨w2, hw2⟩ : ∃ x, x = w1.alloc (.cells #[pv] 28) := ⟨_, rfl⟩
  obtain ⟨w3, hw3⟩ : ∃ x, x = w2.alloc (.cells #[hp] 28) := ⟨_, rfl⟩
  have b1 : Below w.heap.size w w1 := by rw [hw1]; exact bal _ _
  have b2 : Below w1.heap.size w1 w2 := by rw [hw2]; exact bal _ _
  have b3 : Below w2.heap.size w2 w3 := by rw [hw3]; exact bal _ _
  have z1 : w1.heap.size = w.heap.size + 1 := by rw [hw1]; simp
  have z2 : w2.heap.size = w.heap.size + 1 + 1 := by rw [hw2, ← z1]; simp
  have x1 : BoxF w.heap.size [hp, hr, .int .i64 sf] w1 := by rw [hw1]; exact boxF_made _ _ _
  have m1 : Many w3 (.slice (some ⟨w.heap.size + 1, 0, none⟩) 1 1) [p] := by
    have := many_one w1 _ z1 pv p (h1.on b1) 28
    rw [← hw2] at this
    exact this.on b3
  have m2 : Many w3 (.slice (some ⟨w.heap.size + 1 + 1, 0, none⟩) 1 1) [p] := by
    have := many_one w2 _ z2 hp p (h3.on (bt b1 b2)) 28
    rw [← hw3] at this
    exact this
  have b13 := bt b1 (bt b2 b3)
  have S1 := Lib.hid (sameall_any _ _ _ _ w3 m1 m2)
  have x3 := (x1.on b2).on b3
  have HX := Lib.hid x3
  have M3 := Lib.hid (h2.on b13)
  have M4 := Lib.hid (h4.on b13)
  have HB := Lib.hid b13
  rw [hw3, hw2, hw1] at S1
  obtain ⟨A1, c1, rfl, _⟩ := h1
  obtain ⟨A2, c2, rfl, _⟩ := h2
  obtain ⟨A3, c3, rfl, _⟩ := h3
  obtain ⟨A4, c4, rfl, _⟩ := h4
  clear b1 b2 b3 z1 z2 x1 m1 m2 b13 x3
  go_enter Try.func10, Try.ntmps10
  go_wp2_with fail
  go_at_call 29
  refine (S1.out).mono ?_
  rintro e w4 ⟨rfl, hb4⟩
  rw [← hw1, ← hw2, ← hw3] at hb4
  have c1' := (HX.out.on hb4).get 1 rfl
  have S2 := Lib.hid (sameall_any _ _ _ _ w4 (M3.out.on hb4) (M4.out.on hb4))
  go_wp2_with fail
  go_at_call 29
  refine (S2.out).mono ?_
  rintro e w5 ⟨rfl, hb5⟩
  go_wp2
  go_ret
  exact ⟨ret_bool (by simp), bt HB.out (bt hb4 hb5)⟩

end Go.Proofs.Ytoggdpkpfdilnaa
