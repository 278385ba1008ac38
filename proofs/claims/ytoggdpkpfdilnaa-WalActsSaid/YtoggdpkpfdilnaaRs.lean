/-
  The document's own scan.
-/
import Derived.Test.YtoggdpkpfdilnaaRow
import Derived.Test.YtoggdpkpfdilnaaBx
import Derived.IntWalk
import Derived.Deep.RegionHeld3
import Derived.Deep.DrawnRows
namespace Go.Proofs.Ytoggdpkpfdilnaa
open Go.RowKit
attribute [local go_sem ↓] Go.wp_at_zero Go.wp_at_succ

theorem rows_info : (Try.prog.info? 28).map (fun i => (i.zero, i.size, i.bytes)) = some (some (.slice none 0 0), 1, 24) := by kernel_rfl

/-- what a scan comes to -/
def Scans (l : List UInt8) (w : World) (e : Ending) (w' : World) : Prop :=
  ∃ v, e = .returned (.tuple #[v, .int .i64 ((scan l).2 : Int)]) ∧ Many w' v (scan l).1 ∧ Below w.heap.size w w'

theorem num4 (R : List UInt8) (h : 3 < R.length) : num (R.take 4) = R[0].toNat + 256 * R[1].toNat + 65536 * R[2].toNat + 16777216 * R[3].toNat := by
  match R, h with
  | a :: b :: c :: d :: t, _ =>
    simp [num]
    omega

theorem num4_at (l : List UInt8) (p : Nat) (h : p + 3 < l.length) : num ((l.drop p).take 4) = l[p].toNat + 256 * l[p + 1].toNat + 65536 * l[p + 2].toNat + 16777216 * l[p + 3].toNat := by
  have := num4 (l.drop p) (by rw [List.length_drop]; omega)
  simp only [List.getElem_drop, Nat.add_zero] at this
  exact this

theorem cut_at {w : World} {B : Nat} {b off c : Nat} {l r : List UInt8} {q : Nat} (h : At w B (some ⟨b, off, none⟩) c l) (hr : r = (l.drop q).take r.length) (hq : q + r.length ≤ l.length) (hpos : 0 < l.length) :
    Seen w B (if c = q then .slice (some ⟨b, off, none⟩) r.length (c - q) else .slice (some ⟨b, off + q, none⟩) r.length (c - q)) r := by
  obtain ⟨h1, h2, h3⟩ := h
  split
  · rename_i hc
    refine ⟨_, c - q, rfl, by omega, by omega, .inl (List.eq_nil_of_length_eq_zero (by omega))⟩
  · refine ⟨_, c - q, rfl, by omega, by omega, ?_⟩
    rcases h3 with rfl | ⟨b', off', e, hb, hw, hrow⟩
    · cases hpos
    · injection e with e
      injection e with e1 e2 _
      subst e1 e2
      refine .inr ⟨b, off + q, rfl, hb, hw, ?_⟩
      have := (hrow.drop q).take r.length
      rw [← hr] at this
      exact this

end Go.Proofs.Ytoggdpkpfdilnaa
