/-
  What the program's own functions of nets are to come to, by the document; the statements' beginning.
-/
import Derived.Test.YthpbnjmhhkkkiaaNu
namespace Go.Proofs.Ythpbnjmhhkkkiaa
open Go.RowKit
attribute [local go_sem ↓] Go.wp_at_zero Go.wp_at_succ

def GivesNet (n : Nett) (w : World) (e : Ending) (w' : World) : Prop := ∃ u, e = .returned u ∧ NetAt w' w'.heap.size u n ∧ Below w.heap.size w w'
def Nett.cutTo (n : Nett) (to_ : Int) : Nett := ⟨n.next, wo n.l (fun i => decide ((n.l.getD i default).to_ ≠ to_)) n.l.length⟩
def TakeOk : Prop := ∀ (w : World) (v : Value) (n : Nett) (i : Int), NetAt w w.heap.size v n → n.right → 0 ≤ i → Calls Try.prog 9 #[v, .int .i64 i] w (Took (n.taken i) w)
def DropOk : Prop := ∀ (w : World) (v : Value) (n : Nett) (i : Int), NetAt w w.heap.size v n → n.right → 0 ≤ i → Calls Try.prog 15 #[v, .int .i64 i] w (GivesNet (n.taken i).2.1 w)
def CopyOk : Prop := ∀ (w : World) (v : Value) (n : Nett) (i : Int), NetAt w w.heap.size v n → n.right → 0 ≤ i → Calls Try.prog 16 #[v, .int .i64 i] w (GivesNet (n.copied i) w)
def SendOk : Prop := ∀ (w : World) (v vb : Value) (n : Nett) (to_ : Int) (b : List UInt8), NetAt w w.heap.size v n → Seen w w.heap.size vb b → n.right → b.length ≤ 500 → Calls Try.prog 13 #[v, .int .i64 to_, vb] w (GivesNet (n.send to_ b) w)
def CutOk : Prop := ∀ (w : World) (v : Value) (n : Nett) (to_ : Int), NetAt w w.heap.size v n → n.right → Calls Try.prog 18 #[v, .int .i64 to_] w (GivesNet (n.cutTo to_) w)
def AwakeOk : Prop := ∀ w : World, Calls Try.prog 7 #[] w fun e w' => e = .returned (.bool true) ∧ Below w.heap.size w w'

theorem right_is {w : World} {v : Value} {n : Nett} {b : Bool} (h : NetAt w w.heap.size v n) (hb : b = true ↔ n.right) :
    Calls Try.prog 8 #[v] w fun e w' => e = .returned (.bool b) ∧ Below w.heap.size w w' := by
  refine (right_any w v n h).mono ?_
  rintro e w' ⟨c, rfl, hc, hw⟩
  refine ⟨?_, hw⟩
  congr 2
  cases c <;> cases b <;> simp at hb hc ⊢
  · exact absurd hb hc
  · exact absurd hc hb
theorem samenet_yes {w : World} {u v : Value} {a : Nett} (hu : NetAt w w.heap.size u a) (hv : NetAt w w.heap.size v a) :
    Calls Try.prog 12 #[u, v] w fun e w' => e = .returned (.bool true) ∧ Below w.heap.size w w' := by
  refine (samenet_any w u v a a hu hv).mono ?_
  rintro e w' ⟨c, rfl, hc, hw⟩
  exact ⟨by rw [hc.2 rfl], hw⟩
theorem samepkt_yes {w : World} {u v : Value} {a : Pkt} (hu : PktAt w w.heap.size u a) (hv : PktAt w w.heap.size v a) :
    Calls Try.prog 11 #[u, v] w fun e w' => e = .returned (.bool true) ∧ Below w.heap.size w w' := samepkt_is hu hv (decide_eq_true rfl)
theorem rcut_is {w : World} {v : Value} {n : Nett} (to_ : Int) (h : NetAt w w.heap.size v n) (hr : n.right) :
    Calls Try.prog 19 #[v, .int .i64 to_] w (GivesNet (n.cutTo to_) w) := by
  refine (rcut_any w w.heap.size v n to_ h (Nat.le_refl _) (by have := hr.2.2.1; omega)).mono ?_
  rintro e w' ⟨u, rfl, hu, hb⟩
  exact ⟨u, rfl, hu.net hb.size, hb⟩
theorem rsend_is {w : World} {v vb : Value} {n : Nett} (to_ : Int) {b : List UInt8} (h : NetAt w w.heap.size v n) (hs : Seen w w.heap.size vb b) (hr : n.right) :
    Calls Try.prog 14 #[v, .int .i64 to_, vb] w (GivesNet (n.send to_ b) w) := by
  refine (rsend_any w w.heap.size v vb n to_ b h hs (Nat.le_refl _) (by have := hr.2.2.1; omega) ⟨hr.1, hr.2.1⟩).mono ?_
  rintro e w' ⟨u, rfl, hu, hb⟩
  exact ⟨u, rfl, hu.net hb.size, hb⟩
theorem rcopy_is {w : World} {v : Value} {n : Nett} {i : Int} (h : NetAt w w.heap.size v n) (hr : n.right) (hi : 0 ≤ i) :
    Calls Try.prog 17 #[v, .int .i64 i] w (GivesNet (n.copied i) w) :=
  rcopy_any w v n i h (by have := hr.2.2.1; omega) ⟨hr.1, hr.2.1⟩ hi
theorem rtake_is {w : World} {v : Value} {n : Nett} {i : Int} (h : NetAt w w.heap.size v n) (hr : n.right) (hi : 0 ≤ i) :
    Calls Try.prog 10 #[v, .int .i64 i] w (Took (n.taken i) w) := take_any w v n i h (by have := hr.2.2.1; omega) hi

theorem pktAt_slice {w : World} {B : Nat} {v : Value} {p : Pkt} (h : PktAt w B v p) : ∃ A n c, v = .agg #[.int .i64 p.id, .int .i64 p.to_, .slice A n c] := by
  obtain ⟨vb, rfl, A, c, rfl, _⟩ := h; exact ⟨_, _, _, rfl⟩
theorem netAt_slice {w : World} {B : Nat} {v : Value} {n : Nett} (h : NetAt w B v n) : ∃ A c, v = .agg #[.int .i64 n.next, .slice A n.l.length c] ∧ n.l.length ≤ c := by
  obtain ⟨lv, rfl, A, c, css, rfl, hl, _⟩ := h; exact ⟨_, _, rfl, hl⟩

end Go.Proofs.Ythpbnjmhhkkkiaa
