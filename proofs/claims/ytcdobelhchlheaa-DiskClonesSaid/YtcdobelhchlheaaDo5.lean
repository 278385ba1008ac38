/-
  The document's own act, of whatever kind.
-/
import Derived.Test.YtcdobelhchlheaaDo4
namespace Go.Proofs.Ytcdobelhchlheaa
open Go.RowKit

theorem docs_any (d : Dskd) (a : Actd) (sv lv vb : Value) (w : World) (B0 : Nat) (X : Nat → Prop) (hB0 : B0 ≤ w.heap.size) (hl : d.liesIn w B0 X sv lv) (hs : Seen w B0 vb a.b) (hlf : d.armed = true → I64 (d.left - 1)) (hn : d.safe.length + d.loose.length ≤ 100000) :
    Calls Try.prog 12 #[.agg #[sv, lv, .int .i64 d.left, .bool d.armed, .bool d.down], .agg #[.int .u8 (a.kind.toNat : Int), .int .i64 a.area, vb, .int .i64 a.n, .int .i64 a.m]] w (Done7 B0 X w (d.act a).1 (d.act a).2) := by
  obtain ⟨sf, ls, left, armed, down⟩ := d
  have h6 : a.kind.toNat % 6 < 6 := Nat.mod_lt _ (by omega)
  unfold Dskd.act
  simp only
  by_cases k4 : a.kind.toNat % 6 = 4
  · rw [if_pos k4]
    cases down with
    | true => exact do_armdown ⟨sf, ls, left, armed, true⟩ a sv lv vb w B0 X hB0 hl hs k4
    | false => exact do_arm ⟨sf, ls, left, armed, false⟩ a sv lv vb w B0 X hB0 hl hs k4
  rw [if_neg k4]
  by_cases k5 : a.kind.toNat % 6 = 5
  · rw [if_pos k5]
    exact do_crash ⟨sf, ls, left, armed, down⟩ a sv lv vb w B0 X hB0 hl hs hn k5
  rw [if_neg k5]
  by_cases kg : a.kind.toNat % 6 < 3 ∧ a.area ≠ 0 ∧ a.area ≠ 1
  · rw [if_pos kg]
    exact do_arg ⟨sf, ls, left, armed, down⟩ a sv lv vb w B0 X hB0 hl hs kg.1 kg.2.1 kg.2.2
  rw [if_neg kg]
  cases down with
  | true =>
    rw [if_pos rfl]
    by_cases k3 : a.kind.toNat % 6 = 3
    · exact do_down3 ⟨sf, ls, left, armed, true⟩ a sv lv vb w B0 X hB0 hl hs k3
    · have hk : a.kind.toNat % 6 < 3 := by omega
      by_cases ha : a.area = 0
      · exact do_down0 ⟨sf, ls, left, armed, true⟩ a sv lv vb w B0 X hB0 hl hs hk ha
      · have ha1 : a.area = 1 := Decidable.byContradiction fun q => kg ⟨hk, ha, q⟩
        exact do_down1 ⟨sf, ls, left, armed, true⟩ a sv lv vb w B0 X hB0 hl hs hk ha1
  | false =>
    rw [if_neg (by simp)]
    by_cases k3 : a.kind.toNat % 6 = 3
    · rw [if_pos k3]
      cases armed with
      | false => exact do_syncN ⟨sf, ls, left, false, false⟩ a sv lv vb w B0 X hB0 hl hs hn k3
      | true =>
        by_cases hz : left - 1 = 0
        · have h := do_syncZ ⟨sf, ls, left, true, false⟩ a sv lv vb w B0 X hB0 hl hs hn k3 hz
          have ht : Dskd.tick ⟨sf ++ ls, [], left, true, false⟩ = ⟨sf ++ ls, [], 0, true, true⟩ := by
            unfold Dskd.tick
            rw [if_pos rfl, if_pos hz, hz]
          rw [ht]
          exact h
        · have hr := hlf rfl
          have h := do_syncP ⟨sf, ls, left, true, false⟩ a sv lv vb w B0 X hB0 hl hs hn k3 hr.1 hr.2 hz
          have ht : Dskd.tick ⟨sf ++ ls, [], left, true, false⟩ = ⟨sf ++ ls, [], left - 1, true, false⟩ := by
            unfold Dskd.tick
            rw [if_pos rfl, if_neg hz]
          rw [ht]
          exact h
    · rw [if_neg k3]
      have hk : a.kind.toNat % 6 < 3 := by omega
      have ha : a.area = 0 ∨ a.area = 1 := by
        by_cases ha : a.area = 0
        · exact .inl ha
        · exact .inr (Decidable.byContradiction fun q => kg ⟨hk, ha, q⟩)
      exact do_chg ⟨sf, ls, left, armed, false⟩ a armed sv lv vb w B0 X hB0 hl hs hlf hn hk ha

end Go.Proofs.Ytcdobelhchlheaa
