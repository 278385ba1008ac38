/-
  The document's own bytes of a version, of an operation, of an entry.
-/
import Derived.Test.YtmohanbgplffcaaCt
import Derived.Test.YtmohanbgplffcaaRef
import Derived.Deep.RegionHeld3
import Derived.Deep.DrawnRows
namespace Go.Proofs.Ytmohanbgplffcaa
open Go.RowKit Flo
attribute [local go_sem ↓] Go.wp_at_zero Go.wp_at_succ

theorem many_made (w : World) (vs : List Value) (ls : List (List UInt8)) (e : TypeId) (h : vs.length = ls.length) (hm : vs.length ≤ maxLen) (hs : ∀ i (h : i < ls.length) (h' : i < vs.length), Seen w w.heap.size vs[i] ls[i]) :
    Many (w.alloc (.cells vs.toArray e)) (.slice (some ⟨w.heap.size, 0, none⟩) vs.length vs.length) ls := by
  refine ⟨_, vs.length, by rw [h], by omega, hm, vs, h, .inr ⟨w.heap.size, 0, rfl, by simp, fun j hj => ?_⟩, fun i hi hi' => (hs i hi hi').al _⟩
  rw [World.cell?_alloc_new, Nat.zero_add, List.getElem?_toArray]
  exact List.getElem?_eq_getElem hj
/-- what a call that tells bytes comes to, its slice written out -/
def Tells (l : List UInt8) (w : World) (e : Ending) (w' : World) : Prop := ∃ A c, e = .returned (.slice A l.length c) ∧ Seen w' w'.heap.size (.slice A l.length c) l ∧ Below w.heap.size w w'
theorem Gives.tells {l : List UInt8} {w : World} {e : Ending} {w' : World} (h : Gives w.heap.size l w e w') : Tells l w e w' := by
  obtain ⟨v, rfl, hr, hb⟩ := h
  obtain ⟨A, c, rfl, _⟩ := hr.cut
  exact ⟨A, c, rfl, hr.seen, hb⟩
theorem tells {f : FuncId} {args : Array Value} {l : List UInt8} {w : World} (h : Calls Try.prog f args w (Gives w.heap.size l w)) : Calls Try.prog f args w (Tells l w) := h.mono fun _ _ h => h.tells
theorem two {w : World} {v u : Value} {l m : List UInt8} (h1 : Seen w w.heap.size v l) (h2 : Seen w w.heap.size u m) : ∀ i (_ : i < [l, m].length) (_ : i < [v, u].length), Seen w w.heap.size [v, u][i] [l, m][i] := by
  intro i _ _
  match i with
  | 0 => exact h1
  | 1 => exact h2
theorem rint_r {n : Int} (w : World) (h : (Fld.int n).right) : Calls Try.prog 24 #[.int .i64 n] w (Tells (Fld.int n).bytes w) := tells (refint_any n w h.1 h.2)
theorem rtext_r {s : ByteArray} (w : World) (h : (Fld.text s).right) : Calls Try.prog 25 #[.string s] w (Tells (Fld.text s).bytes w) := tells (reftext_any s w (by have : s.size ≤ 65536 := h; omega))
theorem rtruth_r {b : Bool} (w : World) : Calls Try.prog 26 #[.bool b] w (Tells (Fld.truth b).bytes w) := tells (rbit_any b w)

set_option maxRecDepth 10000 in
set_option maxHeartbeats 400000 in
theorem rver_r {a b : Int} (w : World) (h : (Fld.ver a b).right) : Calls Try.prog 23 #[ver a b] w (Tells (Fld.ver a b).bytes w) := by
  have ha := in_of h.1
  have hb := in_of h.2
  have ha' := ha
  have hb' := hb
  unfold In at ha' hb'
  have hle := wint_le (n := a) (by omega) (by omega)
  have hle2 := wint_le (n := b) (by omega) (by omega)
  have R1 := Lib.hid (fun w => tells (refint_any a w (by omega) (by omega)))
  have R2 := Lib.hid (fun w => tells (refint_any b w (by omega) (by omega)))
  have HB := Lib.hid (show (Fld.ver a b).bytes = flat [wint a, wint b] by show _ = wint a ++ (wint b ++ []); rw [List.append_nil]; rfl)
  have HL := Lib.hid (show ∀ r ∈ [wint a, wint b], r.length ≤ 1000000 by intro r hr; simp at hr; rcases hr with rfl | rfl <;> omega)
  clear h
  go_enter Try.func23, Try.ntmps23
  go_wp2_with (first
    | (go_at_call 34; (with_reducible refine (repoch_any a b _ ha).mono ?_); rintro e w1 ⟨rfl, rfl⟩)
    | (go_at_call 35; (with_reducible refine (rnum_any a b _ hb).mono ?_); rintro e w1 ⟨rfl, rfl⟩)
    | (go_at_call 24; (with_reducible refine (R1.out _).mono ?_); rintro e w1 ⟨A1, c1, rfl, hs1, hb1⟩)
    | (go_at_call 24; (with_reducible refine (R2.out _).mono ?_); rintro e w2 ⟨A2, c2, rfl, hs2, hb2⟩; have C1 := Lib.hid (tells (cat_any (.slice (some ⟨w2.heap.size, 0, none⟩) 2 2) [wint a, wint b] _ (many_made w2 [.slice A1 (wint a).length c1, .slice A2 (wint b).length c2] [wint a, wint b] 22 rfl (show 2 ≤ maxLen by decide) (two (hs1.on hb2) hs2)) (show 2 ≤ 1000 by decide) HL.out)))
    | (go_at_call 22; (with_reducible refine (C1.out).mono ?_); rintro e w3 ⟨A3, c3, rfl, hs3, hb3⟩))
  go_ret
  exact ⟨A3, c3, by rw [HB.out]; rfl, by rw [HB.out]; exact hs3, bt hb1 (bt hb2 (bt (bal w2 _) hb3))⟩

end Go.Proofs.Ytmohanbgplffcaa
