/-
  The program's small words: net.place, slices.Clone, slices.Clip of packets.
-/
import Derived.Test.YthpbnjmhhkkkiaaLs
namespace Go.Proofs.Ythpbnjmhhkkkiaa
open Go.RowKit
attribute [local go_sem ↓] Go.wp_at_zero Go.wp_at_succ

set_option maxRecDepth 100000 in
theorem place_none (w : World) (nx i : Int) (A : Option Addr) (c : Nat) :
    Calls Try.prog 22 #[.agg #[.int .i64 nx, .slice A 0 c], .int .i64 i] w fun e w' => e = .returned (.tuple #[.int .i64 0, .bool false]) ∧ Below w.heap.size w w' := by
  have hb := bal w (.cells #[.int .i64 nx, .slice A 0 c] 24)
  go_enter Try.func22, Try.ntmps22
  go_wp2
  go_ret2
  exact ⟨rfl, hb⟩

set_option maxRecDepth 100000 in
theorem place_some (w : World) (nx i : Int) (A : Option Addr) (n k c : Nat) (hn : n ≠ 0) (hk : (k : Int) = i % (n : Int)) (hi : 0 ≤ i) :
    Calls Try.prog 22 #[.agg #[.int .i64 nx, .slice A n c], .int .i64 i] w fun e w' => e = .returned (.tuple #[.int .i64 k, .bool true]) ∧ Below w.heap.size w w' := by
  have hb := bal w (.cells #[.int .i64 nx, .slice A n c] 24)
  have n0 : ((n : Int) == 0) = false := beq_eq_false_iff_ne.2 (by omega)
  have n1 : (n : Int) ≠ 0 := by omega
  have i0 : decide (i < 0) = false := decide_eq_false (by omega)
  have hrem : Int.tmod i (n : Int) = (k : Int) := by rw [hk, Int.tmod_eq_emod_of_nonneg hi]
  have HR := Lib.hid hk
  clear hk hi hn
  go_enter Try.func22, Try.ntmps22
  go_wp2
  go_ret2
  exact ⟨rfl, hb⟩

theorem PktsAt.src {w : World} {B : Nat} {A : Option Addr} {c n : Nat} {l : List Pkt} (h : PktsAt w B (.slice A n c) l) {tx e : TypeId} (hk : Try.prog.underlying tx = some (.slice e)) :
    ∃ css, n = l.length ∧ n ≤ c ∧ c ≤ maxLen ∧ Cells w B l css ∧ ∀ W, Below w.heap.size w W → Src Try.prog 3 tx (.slice A n c) n css.flatten W := by
  obtain ⟨A', c', css, e, h1, h2, h3, h4⟩ := h
  injection e with e1 e2 e3
  subst e1 e2 e3
  refine ⟨css, rfl, h1, h2, h3, fun W hW => ?_⟩
  rcases h4 with rfl | ⟨b, off, rfl, _, hw, hr⟩
  · obtain rfl : css = [] := List.eq_nil_of_length_eq_zero h3.1
    cases A with
    | none => exact Src.ofNil W hk c
    | some a => exact Src.ofSlice W hk a 0 c [] rfl (fun _ _ h => by simp at h) (fun _ h => by cases h)
  · refine Src.ofSlice W hk _ _ c css.flatten h3.flat ?_ h3.ones
    intro j u hu
    obtain ⟨hj, e⟩ := List.getElem?_eq_some_iff.1 hu
    rw [Addr.add_lit, hr.congr (hW.block b hw) j hj, e]

set_option maxRecDepth 100000 in
theorem clip_any (w : World) (A : Option Addr) (n c : Nat) (h : n ≤ c) :
    Calls Try.prog 25 #[.slice A n c] w fun e w' => e = .returned (.slice A n n) ∧ Below w.heap.size w w' := by
  have hb := Below.refl w.heap.size w
  have i0 : (0 : Int) ≤ (n : Int) := by omega
  have i1 : (n : Int) ≤ (c : Int) := by omega
  go_enter Try.func25, Try.ntmps25
  go_wp2
  go_ret
  exact ⟨rfl, hb⟩

@[local go_sem] theorem eql_nil_some (w : World) (b : Addr) (n c : Nat) : (binOp .eql 22 (.slice (some b) n c) (.slice none 0 0)).run Try.prog w = .ok (.bool false) w := Lib.run_eql_slice_nil w _ _ (some b) n c 0 0 Try.underlying22
@[local go_sem] theorem eql_nil_none (w : World) (n c : Nat) : (binOp .eql 22 (.slice none n c) (.slice none 0 0)).run Try.prog w = .ok (.bool true) w := Lib.run_eql_slice_nil w _ _ none n c 0 0 Try.underlying22
/-- what a copy of a list comes to -/
def Cloned (B0 : Nat) (l : List Pkt) (w : World) (e : Ending) (w' : World) : Prop := ∃ V css, e = .returned V ∧ RoomN w' w.heap.size V 3 l.length css.flatten ∧ Cells w' B0 l css ∧ Below w.heap.size w w'

set_option maxRecDepth 100000 in
theorem clone_some (w : World) (B0 : Nat) (hB0 : B0 ≤ w.heap.size) (b : Addr) (n c : Nat) (l : List Pkt) (h : PktsAt w B0 (.slice (some b) n c) l) (hl : l.length ≤ 1000) :
    Calls Try.prog 28 #[.slice (some b) n c] w (Cloned B0 l w) := by
  obtain ⟨j, hj, hz0, hz1, hz2⟩ := info_part3 pkt_info
  have hbe := bal w (.cells #[] 29)
  obtain ⟨css, hn, _, _, hcs, hsrc⟩ := h.src Try.underlying22
  have S1 := hsrc _ hbe
  have HN := Lib.hid hn
  have R1 : RoomN (w.alloc (.cells #[] 29)) w.heap.size (.slice (some ⟨w.heap.size, 0, none⟩) 0 0) 3 0 [] := RoomN.empty (Nat.le_refl _) (by simp)
  have hB1 := hbe.size
  have hyl : css.flatten.length = n * 3 := by rw [hcs.flat, hn]
  have q1 : 0 + n ≤ 1000000 := by omega
  have q2 : (0 + n) * 40 ≤ 140737488355328 := by omega
  have HC := Lib.hid hcs
  clear hcs hsrc h hn
  go_enter Try.func28, Try.ntmps28
  go_wp2_with (first
    | (at_builtin; refine wpList_appendN (B := w.heap.size) (n := 3) (k := 0) (m := n) (cs := []) (ys := css.flatten) (by rfl) (.tmp 5) (.tmp 6) 22 22 (by rfl) 29 j _ 40 Try.underlying22 hj hz0 hz1 rfl hz2 R1 hB1 S1 hyl q1 q2 (by rfl) (by rfl) ?_; intro v5 w5 h5 hb5 hk5 ho5))
  go_ret
  have hb := hbe.trans hb5
  refine ⟨v5, css, rfl, ?_, HC.out.below (hb.mono hB0), hb⟩
  rw [← HN.out]
  simpa using h5
set_option maxRecDepth 100000 in
theorem clone_none (w : World) (B0 c : Nat) : Calls Try.prog 28 #[.slice none 0 c] w (Cloned B0 [] w) := by
  go_enter Try.func28, Try.ntmps28
  go_wp2
  go_ret
  exact ⟨_, [], rfl, RoomN.nil, Cells.nil, Below.refl _ _⟩
theorem clone_any (w : World) (B0 : Nat) (hB0 : B0 ≤ w.heap.size) (v : Value) (l : List Pkt) (h : PktsAt w B0 v l) (hl : l.length ≤ 1000) : Calls Try.prog 28 #[v] w (Cloned B0 l w) := by
  obtain ⟨A, c, css, rfl, h1, h2, h3, h4⟩ := id h
  cases A with
  | some b => exact clone_some w B0 hB0 b _ c l h hl
  | none =>
    rcases h4 with rfl | ⟨_, _, e, _⟩
    · exact clone_none w B0 c
    · cases e
end Go.Proofs.Ythpbnjmhhkkkiaa
