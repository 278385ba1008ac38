/-
  What entry.read comes to, of a field of kind B (made by entry-read-gen.py).
-/
import Derived.Test.YtmohanbgplffcaaLg0
import Derived.Deep.RegionWith
namespace Go.Proofs.Ytmohanbgplffcaa
open Go.RowKit Flo
attribute [local go_sem ↓] Go.wp_at_zero Go.wp_at_succ

set_option maxRecDepth 100000 in
set_option maxHeartbeats 1000000 in
theorem read_yesB (w : World) (gr ge i : Nat) (v : Value) (p : Nat) (x0 : Value) (c : Bool) (q : Int) (ok : Bool)
    (h0 : w.cell? ⟨gr, 0, none⟩ = some v) (h1 : w.cell? ⟨gr, 1, none⟩ = some (.int .i64 p)) (h2 : w.cell? ⟨gr, 2, none⟩ = some (.bool true)) (hz1 : w.frozen? ⟨gr, 1, none⟩ = false) (hz2 : w.frozen? ⟨gr, 2, none⟩ = false)
    (he : w.cell? ⟨ge, i, none⟩ = some x0) (hze : w.frozen? ⟨ge, i, none⟩ = false) (hne : gr ≠ ge)
    (RD : Hid (Calls Try.prog 21 #[v, .int .i64 p] w.drew fun e w' => e = .returned (.tuple #[.bool c, .int .i64 q, .bool ok]) ∧ w.drew = w')) :
    Calls Try.prog 20 #[.pointer (some ⟨gr, 0, none⟩), .pointer (some ⟨ge, i, none⟩), .func (.func 21) #[] #[]] w fun e w' => e = .returned (.tuple #[]) ∧ w' = ((w.drew.setCell ⟨ge, i, none⟩ (.bool c)).setCell ⟨gr, 1, none⟩ (.int .i64 q)).setCell ⟨gr, 2, none⟩ (.bool ok) := by
  have hne' : ge ≠ gr := fun h => hne h.symm
  go_enter Try.func20, Try.ntmps20
  go_wp2_with fail
  first | (go_region_with (first | (go_at_call 21; (with_reducible refine (RD.out).mono ?_); rintro e w1 ⟨rfl, rfl⟩))) | fail
  all_goals go_wp2
  all_goals go_end0
  all_goals exact ⟨rfl, rfl⟩
set_option maxRecDepth 100000 in
theorem read_noB (w : World) (gr : Nat) (x f : Value) (h2 : w.cell? ⟨gr, 2, none⟩ = some (.bool false)) :
    Calls Try.prog 20 #[.pointer (some ⟨gr, 0, none⟩), x, f] w fun e w' => e = .returned (.tuple #[]) ∧ w = w' := by
  go_enter Try.func20, Try.ntmps20
  go_wp2_with fail
  go_end0
  exact ⟨rfl, rfl⟩

end Go.Proofs.Ytmohanbgplffcaa
