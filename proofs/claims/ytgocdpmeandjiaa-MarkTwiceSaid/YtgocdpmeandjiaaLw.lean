/-
  The walks of the laws MarkSteps, MarkOnce and MarkTwice, of every input.
-/
import Derived.Test.YtgocdpmeandjiaaMa
namespace Go.Proofs.Ytgocdpmeandjiaa
open Go.RowKit

theorem next_is {b r : Bool} {x h l : Int} (e : nextD b x h l = r) (w : World) :
    Calls Try.prog 7 #[.bool b, .int .i64 x, .int .i64 h, .int .i64 l] w fun e w' => e = .returned (.bool r) ∧ w = w' := e ▸ next_any b x h l w
theorem room_is {b r : Bool} {x h l : Int} (e : nextD b x h l = r) (w : World) :
    Calls Try.prog 8 #[.bool b, .int .i64 x, .int .i64 h, .int .i64 l] w fun e w' => e = .returned (.bool (!r)) ∧ w = w' := e ▸ room_any b x h l w

theorem steps_walk (b : Bool) (x h l : Int) (w : World) :
    Calls Try.prog 3 #[.bool b, .int .i64 x, .int .i64 h, .int .i64 l] w fun e w' => e = .returned (.bool true) ∧ w = w' := by
  by_cases hl : h < l
  · go_enter Try.func3, Try.ntmps3
    go_wp2_with (go_at_call 6; refine (awake_any _).mono ?_; rintro e w' ⟨rfl, rfl⟩)
    go_ret
    exact ⟨rfl, rfl⟩
  · by_cases e : h ≤ x
    · have A := nextD_high (b := b) (l := l) e
      go_enter Try.func3, Try.ntmps3
      go_wp2_with (first | (go_at_call 6; refine (awake_any _).mono ?_; rintro e w' ⟨rfl, rfl⟩) | (go_at_call 7; refine (next_is A _).mono ?_; rintro e w' ⟨rfl, rfl⟩) | (go_at_call 8; refine (room_is A _).mono ?_; rintro e w' ⟨rfl, rfl⟩))
      go_ret
      exact ⟨rfl, rfl⟩
    · by_cases e' : x ≤ l
      · have A := nextD_low (b := b) e e'
        have q : ¬ l < x := by omega
        cases b <;>
        · go_enter Try.func3, Try.ntmps3
          go_wp2_with (first | (go_at_call 6; refine (awake_any _).mono ?_; rintro e w' ⟨rfl, rfl⟩) | (go_at_call 7; refine (next_is A _).mono ?_; rintro e w' ⟨rfl, rfl⟩) | (go_at_call 8; refine (room_is A _).mono ?_; rintro e w' ⟨rfl, rfl⟩))
          go_ret
          exact ⟨rfl, rfl⟩
      · have A := nextD_on (b := b) e e'
        cases b <;>
        · go_enter Try.func3, Try.ntmps3
          go_wp2_with (first | (go_at_call 6; refine (awake_any _).mono ?_; rintro e w' ⟨rfl, rfl⟩) | (go_at_call 7; refine (next_is A _).mono ?_; rintro e w' ⟨rfl, rfl⟩) | (go_at_call 8; refine (room_is A _).mono ?_; rintro e w' ⟨rfl, rfl⟩))
          go_ret
          exact ⟨rfl, rfl⟩

theorem next_again {b r : Bool} {x h l : Int} (e : nextD b x h l = r) : nextD r x h l = r := by
  by_cases q : h ≤ x
  · rw [nextD_high q] at e ⊢
    exact e
  · by_cases q' : x ≤ l
    · rw [nextD_low q q'] at e ⊢
      exact e
    · exact nextD_on q q'
theorem next_more {b : Bool} {x y h l : Int} (hxy : x ≤ y) (e : nextD b x h l = true) : nextD b y h l = true := by
  by_cases q : h ≤ y
  · exact nextD_high q
  · have q1 : ¬ h ≤ x := by omega
    by_cases q' : x ≤ l
    · rw [nextD_low q1 q'] at e
      exact absurd e (by decide)
    · rw [nextD_on q1 q'] at e
      rw [nextD_on q (by omega), e]

theorem twice_walk (b : Bool) (x y h l : Int) (w : World) :
    Calls Try.prog 5 #[.bool b, .int .i64 x, .int .i64 y, .int .i64 h, .int .i64 l] w fun e w' => e = .returned (.bool true) ∧ w = w' := by
  by_cases hl : h < l
  · go_enter Try.func5, Try.ntmps5
    go_wp2_with (go_at_call 6; refine (awake_any _).mono ?_; rintro e w' ⟨rfl, rfl⟩)
    go_ret
    exact ⟨rfl, rfl⟩
  · by_cases hy : y < x
    · go_enter Try.func5, Try.ntmps5
      go_wp2_with (go_at_call 6; refine (awake_any _).mono ?_; rintro e w' ⟨rfl, rfl⟩)
      go_ret
      exact ⟨rfl, rfl⟩
    · obtain ⟨r, A⟩ : ∃ r, nextD b x h l = r := ⟨_, rfl⟩
      obtain ⟨s, B⟩ : ∃ s, nextD b y h l = s := ⟨_, rfl⟩
      have C := next_again A
      cases r with
      | false =>
        cases s <;>
        · go_enter Try.func5, Try.ntmps5
          go_wp2_with fail
          go_at_call 7
          refine (next_is A _).mono ?_
          rintro e w' ⟨rfl, rfl⟩
          go_wp2_with fail
          go_at_call 7
          refine (next_is B _).mono ?_
          rintro e w' ⟨rfl, rfl⟩
          go_wp2_with (first | (go_at_call 6; refine (awake_any _).mono ?_; rintro e w' ⟨rfl, rfl⟩) | (go_at_call 7; refine (next_is C _).mono ?_; rintro e w' ⟨rfl, rfl⟩))
          go_ret
          exact ⟨rfl, rfl⟩
      | true =>
        have D := next_more (by omega : x ≤ y) A
        rw [D] at B
        obtain rfl := B
        go_enter Try.func5, Try.ntmps5
        go_wp2_with fail
        go_at_call 7
        refine (next_is A _).mono ?_
        rintro e w' ⟨rfl, rfl⟩
        go_wp2_with fail
        go_at_call 7
        refine (next_is D _).mono ?_
        rintro e w' ⟨rfl, rfl⟩
        go_wp2_with (first | (go_at_call 6; refine (awake_any _).mono ?_; rintro e w' ⟨rfl, rfl⟩) | (go_at_call 7; refine (next_is C _).mono ?_; rintro e w' ⟨rfl, rfl⟩))
        go_ret
        exact ⟨rfl, rfl⟩

end Go.Proofs.Ytgocdpmeandjiaa
