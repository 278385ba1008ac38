/-
  mark.Next, mark.Room and the document's own Busy: what they answer.
-/
import Derived.Test.YtgocdpmeandjiaaRows
import Derived.Test.YtgocdpmeandjiaaNu
import Derived.WalkKit
import Derived.WalkSpells
import Derived.WalkLawsBesides
import Derived.LoopTactic
import Derived.Lib.Hide
import Derived.Outline
namespace Go.Proofs.Ytgocdpmeandjiaa
open Go.RowKit

/-- Is it busy behind these bytes, if it was, or wasn't? -/
def nextD (b : Bool) (x h l : Int) : Bool := if h ≤ x then true else if x ≤ l then false else b
/-- Is it busy behind these bytes, told one behind the other? -/
def busyD (h l : Int) (xs : List Int) : Bool := xs.foldl (fun b x => nextD b x h l) false

theorem nextD_high {b : Bool} {x h l : Int} (e : h ≤ x) : nextD b x h l = true := by unfold nextD; rw [if_pos e]
theorem nextD_low {b : Bool} {x h l : Int} (e : ¬ h ≤ x) (e' : x ≤ l) : nextD b x h l = false := by unfold nextD; rw [if_neg e, if_pos e']
theorem nextD_on {b : Bool} {x h l : Int} (e : ¬ h ≤ x) (e' : ¬ x ≤ l) : nextD b x h l = b := by unfold nextD; rw [if_neg e, if_neg e']
theorem busyD_nil (h l : Int) : busyD h l [] = false := rfl
theorem busyD_next (h l : Int) (xs : List Int) (k : Nat) (hk : k < xs.length) : busyD h l (xs.take (k + 1)) = nextD (busyD h l (xs.take k)) xs[k] h l := by
  unfold busyD
  rw [List.take_succ_eq_append_getElem hk, List.foldl_append]
  rfl

theorem next_any (b : Bool) (x h l : Int) (w : World) :
    Calls Try.prog 7 #[.bool b, .int .i64 x, .int .i64 h, .int .i64 l] w fun e w' => e = .returned (.bool (nextD b x h l)) ∧ w = w' := by
  by_cases e : h ≤ x
  · rw [nextD_high e]
    go_enter Try.func7, Try.ntmps7
    go_wp2
    go_ret
    exact ⟨rfl, rfl⟩
  · by_cases e' : x ≤ l
    · rw [nextD_low e e']
      go_enter Try.func7, Try.ntmps7
      go_wp2
      go_ret
      exact ⟨rfl, rfl⟩
    · rw [nextD_on e e']
      go_enter Try.func7, Try.ntmps7
      go_wp2
      go_ret
      exact ⟨rfl, rfl⟩

theorem room_any (b : Bool) (x h l : Int) (w : World) :
    Calls Try.prog 8 #[.bool b, .int .i64 x, .int .i64 h, .int .i64 l] w fun e w' => e = .returned (.bool (!nextD b x h l)) ∧ w = w' := by
  go_enter Try.func8, Try.ntmps8
  go_wp2_with (go_at_call 7; refine (next_any _ _ _ _ _).mono ?_; rintro e w' ⟨rfl, rfl⟩)
  go_ret
  exact ⟨rfl, rfl⟩

theorem awake_any (w : World) : Calls Try.prog 6 #[] w fun e w' => e = .returned (.bool true) ∧ w = w' := by
  go_enter Try.func6, Try.ntmps6
  go_wp2_with (first | (go_at_call 7; refine (next_any _ _ _ _ _).mono ?_; rintro e w' ⟨rfl, rfl⟩) | (go_at_call 8; refine (room_any _ _ _ _ _).mono ?_; rintro e w' ⟨rfl, rfl⟩))
  go_ret
  exact ⟨rfl, rfl⟩

theorem rbusy_any (v : Value) (xs : List Int) (h l : Int) (w : World) (hv : Nums w v xs) :
    Calls Try.prog 9 #[v, .int .i64 h, .int .i64 l] w fun e w' => e = .returned (.bool (busyD h l xs)) ∧ w = w' := by
  obtain ⟨A, c, rfl, h1, h2, h3⟩ := hv
  unfold maxLen at h2
  go_enter Try.func9, Try.ntmps9
  go_wp2
  go_loop [7] (fun i => ∃ k : Nat, k ≤ xs.length ∧ i = .int .i64 ((k : Int) - 1) ∧ busyD h l xs = busyD h l (xs.take k)) (fun i => (intOf i + 1).toNat)
  case atStart => exact ⟨xs.length, Nat.le_refl _, by go_num, by rw [List.take_length]⟩
  case round =>
    obtain ⟨k, hk, rfl, hb⟩ := hrel
    cases k with
    | zero =>
      go_wp2
      go_ret
      exact ⟨rfl, rfl⟩
    | succ k =>
      rcases h3 with rfl | ⟨b, off, rfl, hr⟩
      · exact absurd hk (by simp)
      · have hc := hr k (by omega)
        have hn := busyD_next h l xs k (by omega)
        rw [← hb] at hn
        clear hb
        by_cases e : h ≤ xs[k]
        · rw [nextD_high e] at hn
          go_wp2
          go_ret
          exact ⟨rfl, rfl⟩
        · by_cases e' : xs[k] ≤ l
          · rw [nextD_low e e'] at hn
            go_wp2
            go_ret
            exact ⟨rfl, rfl⟩
          · rw [nextD_on e e'] at hn
            go_wp2
            go_round
            case rel => exact ⟨k, by omega, by go_num, hn⟩
            case measure => simp [intOf]

end Go.Proofs.Ytgocdpmeandjiaa
