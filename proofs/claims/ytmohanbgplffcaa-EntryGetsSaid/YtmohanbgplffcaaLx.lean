/-
  EntryGets and EntryKeeps, of every input, given what entry.Get and entry.GetOp come to.
-/
import Derived.Test.YtmohanbgplffcaaLgnn
import Derived.Test.YtmohanbgplffcaaLgsn
import Derived.Test.YtmohanbgplffcaaLgns
import Derived.Test.YtmohanbgplffcaaLgss
import Derived.Test.YtmohanbgplffcaaLk
namespace Go.Proofs.Ytmohanbgplffcaa
open Go.RowKit Flo
attribute [local go_sem ↓] Go.wp_at_zero Go.wp_at_succ

set_option maxRecDepth 100000 in
theorem gets_early (AW : AwakeOk) (A : Option Addr) (n c : Nat) (a : Int) (w : World) (h : 3000 < n ∨ a < 0 ∨ 4000 < a) :
    Calls Try.prog 3 #[.slice A n c, .int .i64 a] w fun e w' => e = .returned (.bool true) ∧ Below w.heap.size w w' := by
  have HAW := Lib.hid AW
  clear AW
  by_cases h1 : 3000 < n
  · have h1' : (3000 : Int) < (n : Int) := by omega
    clear h
    go_enter Try.func3, Try.ntmps3
    go_wp2_with fail
    (go_at_call 5; refine (HAW.out _).mono ?_; rintro e w0 ⟨rfl, hb0⟩)
    go_wp2_with fail
    (go_at_call 5; refine (HAW.out _).mono ?_; rintro e w1 ⟨rfl, hb1⟩)
    go_wp2_with fail
    go_ret
    exact ⟨rfl, bt hb0 hb1⟩
  · have h1' : (n : Int) ≤ 3000 := by omega
    by_cases h2 : a < 0
    · clear h
      go_enter Try.func3, Try.ntmps3
      go_wp2_with fail
      (go_at_call 5; refine (HAW.out _).mono ?_; rintro e w0 ⟨rfl, hb0⟩)
      go_wp2_with fail
      (go_at_call 5; refine (HAW.out _).mono ?_; rintro e w1 ⟨rfl, hb1⟩)
      go_wp2_with fail
      go_ret
      exact ⟨rfl, bt hb0 hb1⟩
    · have h2' : 0 ≤ a := by omega
      have h3 : 4000 < a := by omega
      clear h
      go_enter Try.func3, Try.ntmps3
      go_wp2_with fail
      (go_at_call 5; refine (HAW.out _).mono ?_; rintro e w0 ⟨rfl, hb0⟩)
      go_wp2_with fail
      (go_at_call 5; refine (HAW.out _).mono ?_; rintro e w1 ⟨rfl, hb1⟩)
      go_wp2_with fail
      go_ret
      exact ⟨rfl, bt hb0 hb1⟩

set_option maxRecDepth 100000 in
theorem keeps_early (AW : AwakeOk) (A : Option Addr) (n c : Nat) (a : Int) (w : World) (h : 3000 < n ∨ a < 0 ∨ 4000 < a) :
    Calls Try.prog 4 #[.slice A n c, .int .i64 a] w fun e w' => e = .returned (.bool true) ∧ Below w.heap.size w w' := by
  have HAW := Lib.hid AW
  clear AW
  by_cases h1 : 3000 < n
  · have h1' : (3000 : Int) < (n : Int) := by omega
    clear h
    go_enter Try.func4, Try.ntmps4
    go_wp2_with fail
    (go_at_call 5; refine (HAW.out _).mono ?_; rintro e w0 ⟨rfl, hb0⟩)
    go_wp2_with fail
    (go_at_call 5; refine (HAW.out _).mono ?_; rintro e w1 ⟨rfl, hb1⟩)
    go_wp2_with fail
    go_ret
    exact ⟨rfl, bt hb0 hb1⟩
  · have h1' : (n : Int) ≤ 3000 := by omega
    by_cases h2 : a < 0
    · clear h
      go_enter Try.func4, Try.ntmps4
      go_wp2_with fail
      (go_at_call 5; refine (HAW.out _).mono ?_; rintro e w0 ⟨rfl, hb0⟩)
      go_wp2_with fail
      (go_at_call 5; refine (HAW.out _).mono ?_; rintro e w1 ⟨rfl, hb1⟩)
      go_wp2_with fail
      go_ret
      exact ⟨rfl, bt hb0 hb1⟩
    · have h2' : 0 ≤ a := by omega
      have h3 : 4000 < a := by omega
      clear h
      go_enter Try.func4, Try.ntmps4
      go_wp2_with fail
      (go_at_call 5; refine (HAW.out _).mono ?_; rintro e w0 ⟨rfl, hb0⟩)
      go_wp2_with fail
      (go_at_call 5; refine (HAW.out _).mono ?_; rintro e w1 ⟨rfl, hb1⟩)
      go_wp2_with fail
      go_ret
      exact ⟨rfl, bt hb0 hb1⟩

theorem gets_law (AW : AwakeOk) (GE : ReadsOk 6 KE) (GO : ReadsOk 7 KO) (v : Value) (l : List UInt8) (a : Int) (w : World) (hv : Seen w w.heap.size v l) :
    Calls Try.prog 3 #[v, .int .i64 a] w fun e w' => e = .returned (.bool true) ∧ Below w.heap.size w w' := by
  by_cases h : 3000 < l.length ∨ a < 0 ∨ 4000 < a
  · obtain ⟨A, c, rfl, _⟩ := hv
    exact gets_early AW A l.length c a w h
  · obtain ⟨p, rfl⟩ : ∃ p : Nat, a = (p : Int) := ⟨a.toNat, by omega⟩
    have hl : l.length ≤ 3000 := by omega
    have hp : p ≤ 4000 := by omega
    cases he : gets KE (l.drop p) with
    | none =>
      cases ho : gets KO (l.drop p) with
      | none => exact gets_nn AW GE GO v l p w hv hl hp he ho
      | some y => exact gets_ns AW GE GO v l p w hv hl hp he (gs := y.1) (j := y.2) ho
    | some x =>
      cases ho : gets KO (l.drop p) with
      | none => exact gets_sn AW GE GO v l p w hv hl hp (fs := x.1) (k := x.2) he ho
      | some y => exact gets_ss AW GE GO v l p w hv hl hp (fs := x.1) (k := x.2) he (gs := y.1) (j := y.2) ho
theorem keeps_law (AW : AwakeOk) (GE : ReadsOk 6 KE) (GO : ReadsOk 7 KO) (v : Value) (l : List UInt8) (a : Int) (w : World) (hv : Seen w w.heap.size v l) :
    Calls Try.prog 4 #[v, .int .i64 a] w fun e w' => e = .returned (.bool true) ∧ Below w.heap.size w w' := by
  by_cases h : 3000 < l.length ∨ a < 0 ∨ 4000 < a
  · obtain ⟨A, c, rfl, _⟩ := hv
    exact keeps_early AW A l.length c a w h
  · obtain ⟨p, rfl⟩ : ∃ p : Nat, a = (p : Int) := ⟨a.toNat, by omega⟩
    exact keeps_walk AW GE GO v l p w hv (by omega) (by omega)

end Go.Proofs.Ytmohanbgplffcaa
