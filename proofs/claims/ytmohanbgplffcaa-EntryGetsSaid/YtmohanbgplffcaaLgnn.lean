/-
  EntryGets' walk: one of four ways (made by entry-law-gen.py).
-/
import Derived.Test.YtmohanbgplffcaaLg0
namespace Go.Proofs.Ytmohanbgplffcaa
open Go.RowKit Flo
attribute [local go_sem ↓] Go.wp_at_zero Go.wp_at_succ

set_option maxRecDepth 100000 in
set_option maxHeartbeats 2000000 in
theorem gets_nn (AW : AwakeOk) (GE : ReadsOk 6 KE) (GO : ReadsOk 7 KO) (v : Value) (l : List UInt8) (p : Nat) (w : World) (hv : Seen w w.heap.size v l) (hl : l.length ≤ 3000) (hp : p ≤ 4000)
    (he : gets KE (l.drop p) = none) (ho : gets KO (l.drop p) = none) :
    Calls Try.prog 3 #[v, .int .i64 (p : Int)] w fun e w' => e = .returned (.bool true) ∧ Below w.heap.size w w' := by
  have HS := Lib.hid hv
  have HAW := Lib.hid AW
  obtain ⟨A, c, rfl, hA⟩ := hv
  have hlc := hA.1
  have hcm := hA.2.1
  unfold maxLen at hcm
  have G1 : Hid (∀ W, Seen W W.heap.size (.slice A l.length c) l → Calls Try.prog 6 #[.slice A l.length c, .int .i64 (p : Int)] W fun e w' => e = .returned (.tuple #[.agg #[.complex .f64 0 0, .int .i64 0, .string ⟨#[]⟩, .string ⟨#[]⟩, .bool false, .bool false, .int .i64 0, .int .i64 0, .int .i64 0, .string ⟨#[]⟩, .bool false], .int .i64 0, .bool false]) ∧ Below W.heap.size W w') := fun W h => by
    have := GE W _ l p h (by omega) hp
    unfold gotS at this
    rw [he] at this
    exact this
  have G2 : Hid (∀ W, Seen W W.heap.size (.slice A l.length c) l → Calls Try.prog 7 #[.slice A l.length c, .int .i64 (p : Int)] W fun e w' => e = .returned (.tuple #[.agg #[.int .i64 0, .string ⟨#[]⟩, .string ⟨#[]⟩, .string ⟨#[]⟩, .bool false], .int .i64 0, .bool false]) ∧ Below W.heap.size W w') := fun W h => by
    have := GO W _ l p h (by omega) hp
    unfold gotS at this
    rw [ho] at this
    exact this
  clear AW GE GO he ho hA
  have hez := eq_zero
  go_enter Try.func3, Try.ntmps3
  go_wp2_with (first
    | (go_at_call 5; refine (HAW.out _).mono ?_; rintro e w0 ⟨rfl, hb0⟩)
    | (go_at_call 6; (with_reducible refine (G1.out _ (HS.out.on hb0)).mono ?_); rintro e w1 ⟨rfl, hb1⟩)
    | (go_at_call 7; refine (G2.out _ ((HS.out.on (bt hb0 hb1)).al _)).mono ?_; rintro e w2 ⟨rfl, hb2⟩))
  have H1 := (held_made w1 [.complex .f64 0 0, .int .i64 0, .string ⟨#[]⟩, .string ⟨#[]⟩, .bool false, .bool false, .int .i64 0, .int .i64 0, .int .i64 0, .string ⟨#[]⟩, .bool false] 27).on hb2
  have H2 := held_made w2 [.int .i64 0, .string ⟨#[]⟩, .string ⟨#[]⟩, .string ⟨#[]⟩, .bool false] 31
  change Held w2.heap.size _ (World.alloc w2 (.cells #[.int .i64 0, .string ⟨#[]⟩, .string ⟨#[]⟩, .string ⟨#[]⟩, .bool false] 31)) at H2
  have hb3 := bal w2 (.cells #[.int .i64 0, .string ⟨#[]⟩, .string ⟨#[]⟩, .string ⟨#[]⟩, .bool false] 31)
  generalize World.alloc w2 (.cells #[.int .i64 0, .string ⟨#[]⟩, .string ⟨#[]⟩, .string ⟨#[]⟩, .bool false] 31) = w3 at H2 hb3 ⊢
  have hb03 : Below w.heap.size w w3 := bt hb0 (bt hb1 (bt (bal w1 (.cells #[.complex .f64 0 0, .int .i64 0, .string ⟨#[]⟩, .string ⟨#[]⟩, .bool false, .bool false, .int .i64 0, .int .i64 0, .int .i64 0, .string ⟨#[]⟩, .bool false] 27)) (bt hb2 hb3)))
  replace H1 := H1.on hb3
  have KAa := H1.all
  have KBa := H2.all
  simp only [cellsAre] at KAa KBa
  go_quiet (fail)
  generalize hqa : World.drewN w3 _ = w5
  have hb5 : Below w3.heap.size w3 w5 := hqa ▸ below_drewN _ _ _
  clear hqa KAa KBa
  replace H1 := H1.on hb5
  replace H2 := H2.on hb5
  have hb05 := bt hb03 hb5
  go_wp2
  have KAb := H1.all
  have KBb := H2.all
  simp only [cellsAre] at KAb KBb
  go_quiet (fail)
  generalize hqb : World.drewN w5 _ = w7
  have hb7 : Below w5.heap.size w5 w7 := hqb ▸ below_drewN _ _ _
  clear hqb KAb KBb
  replace H1 := H1.on hb7
  replace H2 := H2.on hb7
  have hb07 := bt hb05 hb7
  have KA := H1.all
  have KB := H2.all
  simp only [cellsAre] at KA KB
  go_wp2
  go_ret
  exact ⟨rfl, hb07⟩

end Go.Proofs.Ytmohanbgplffcaa
