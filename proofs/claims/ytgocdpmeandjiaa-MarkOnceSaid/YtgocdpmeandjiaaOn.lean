/-
  The walk of the law MarkOnce, of every input.
-/
import Derived.Test.YtgocdpmeandjiaaLw
namespace Go.Proofs.Ytgocdpmeandjiaa
open Go.RowKit

theorem part_nums {b off c : Nat} {w : World} {xs : List Int} {k : Nat} (hk : k + 1 ≤ xs.length) (h1 : xs.length ≤ c) (h2 : c ≤ maxLen) (hr : RowI w b off xs) :
    Nums w (.slice (some ⟨b, off, none⟩) (k + 1) c) (xs.take (k + 1)) := by
  have hlen : (xs.take (k + 1)).length = k + 1 := by rw [List.length_take]; omega
  exact ⟨some ⟨b, off, none⟩, c, by rw [hlen], by omega, h2, .inr ⟨b, off, rfl, hr.take _⟩⟩

theorem once_walk (v : Value) (xs : List Int) (h l : Int) (w : World) (hv : Nums w v xs) :
    Calls Try.prog 4 #[v, .int .i64 h, .int .i64 l] w fun e w' => e = .returned (.bool true) ∧ w = w' := by
  obtain ⟨A, c, rfl, h1, h2, h3⟩ := hv
  have h4 := h2
  unfold maxLen at h2
  by_cases hl : h < l
  · go_enter Try.func4, Try.ntmps4
    go_wp2_with (go_at_call 6; refine (awake_any _).mono ?_; rintro e w' ⟨rfl, rfl⟩)
    go_ret
    exact ⟨rfl, rfl⟩
  · by_cases hn : 200 < xs.length
    · go_enter Try.func4, Try.ntmps4
      go_wp2_with (go_at_call 6; refine (awake_any _).mono ?_; rintro e w' ⟨rfl, rfl⟩)
      go_ret
      exact ⟨rfl, rfl⟩
    · go_enter Try.func4, Try.ntmps4
      go_wp2_with fail
      go_loop [7, 8] (fun b i => ∃ k : Nat, k ≤ xs.length ∧ i = .int .i64 (k : Int) ∧ b = .bool (busyD h l (xs.take k))) (fun _ i => xs.length - (intOf i).toNat)
      case atStart => exact ⟨0, Nat.zero_le _, rfl, rfl⟩
      case round =>
        obtain ⟨k, hk, rfl, rfl⟩ := hrel
        by_cases hlt : k < xs.length
        · rcases h3 with rfl | ⟨b, off, rfl, hr⟩
          · exact absurd hlt (by simp)
          · have hc := hr k hlt
            have hp := part_nums hlt h1 h4 hr
            have A := (busyD_next h l xs k hlt).symm
            have B := Lib.hid (rbusy_any _ _ h l w hp)
            clear hp
            obtain ⟨r, hr1⟩ : ∃ r, busyD h l (xs.take (k + 1)) = r := ⟨_, rfl⟩
            have HR := Lib.hid hr1
            rw [hr1] at A B
            clear hr1
            go_wp2_with fail
            go_at_call 7
            refine (next_is A _).mono ?_
            rintro e w' ⟨rfl, rfl⟩
            go_wp2_with fail
            go_at_call 9
            refine B.out.mono ?_
            rintro e w' ⟨rfl, rfl⟩
            go_wp2
            go_round
            case rel => exact ⟨k + 1, by omega, by go_num, by rw [HR.out]⟩
            case measure => simp [intOf]; omega
        · go_wp2_with (go_at_call 6; refine (awake_any _).mono ?_; rintro e w' ⟨rfl, rfl⟩)
          go_ret
          exact ⟨rfl, rfl⟩

theorem once_law (v : Value) (xs : List Int) (h l : Int) (w : World) (hv : Nums w v xs) :
    Calls Try.prog 4 #[v, .int .i64 h, .int .i64 l] w fun e w' => e = .returned (.bool true) ∧ Below w.heap.size w w' := by
  refine (once_walk v xs h l w hv).mono ?_
  rintro e w' ⟨rfl, rfl⟩
  exact ⟨rfl, Below.refl _ _⟩

end Go.Proofs.Ytgocdpmeandjiaa
