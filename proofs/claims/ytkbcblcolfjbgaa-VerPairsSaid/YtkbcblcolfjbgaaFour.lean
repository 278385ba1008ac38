/-
  What the walks of the laws VerRights, VerPairs, VerOrder, VerNext come to.
-/
import Derived.Test.YtkbcblcolfjbgaaLaw
namespace Go.Proofs.Ytkbcblcolfjbgaa
open Go.RowKit Flo

theorem rahead_is {a b c d : Int} {v : Bool} (w : World) (ha : In a) (hb : In b) (hc : In c) (hd : In d) (h : aheadB a b c d = v) :
    Calls Try.prog 17 #[ver a b, ver c d] w fun x w' => x = .returned (.bool v) ∧ w = w' := h ▸ rahead_any a b c d w ha hb hc hd

theorem three (a b c d : Int) : (aheadB a b c d = true ∧ aheadB c d a b = false ∧ ¬(a = c ∧ b = d)) ∨ (aheadB a b c d = false ∧ aheadB c d a b = true ∧ ¬(a = c ∧ b = d)) ∨ (aheadB a b c d = false ∧ aheadB c d a b = false ∧ a = c ∧ b = d) := by
  unfold aheadB
  rcases Int.lt_trichotomy a c with h | h | h
  · left; refine ⟨?_, ?_, ?_⟩ <;> (try simp) <;> omega
  · subst h
    rcases Int.lt_trichotomy b d with h | h | h
    · left; refine ⟨?_, ?_, ?_⟩ <;> (try simp) <;> omega
    · right; right; refine ⟨?_, ?_, ?_, ?_⟩ <;> (try simp) <;> omega
    · right; left; refine ⟨?_, ?_, ?_⟩ <;> (try simp) <;> omega
  · right; left; refine ⟨?_, ?_, ?_⟩ <;> (try simp) <;> omega

theorem irr (a b : Int) : aheadB a b a b = false := by unfold aheadB; simp

theorem trans3 (a b c d e f : Int) (h1 : aheadB a b c d = true) (h2 : aheadB c d e f = true) : aheadB a b e f = true := by
  unfold aheadB at *
  simp at *
  omega

theorem pairs_walk (a b c d : Int) (w : World) : Calls Try.prog 5 #[.int .i64 a, .int .i64 b, .int .i64 c, .int .i64 d] w fun x w' => x = .returned (.bool true) ∧ w = w' := by
  cases ha : fitsB a with
  | false =>
    have fa := Lib.hid (fun w => fits_is (n := a) w ha)
    clear ha
    go_enter Try.func5, Try.ntmps5
    go_wp2_with (first | (go_at_call 9; (with_reducible refine (awake_true _).mono ?_); rintro e w' ⟨rfl, rfl⟩) | (go_at_call 8; (with_reducible refine (fa.out _).mono ?_); rintro e w' ⟨rfl, rfl⟩))
    go_ret
    exact ⟨rfl, rfl⟩
  | true =>
    have fa := Lib.hid (fun w => fits_is (n := a) w ha)
    cases hb : fitsB b with
    | false =>
      have fb := Lib.hid (fun w => fits_is (n := b) w hb)
      clear ha hb
      go_enter Try.func5, Try.ntmps5
      go_wp2_with (first | (go_at_call 9; (with_reducible refine (awake_true _).mono ?_); rintro e w' ⟨rfl, rfl⟩) | (go_at_call 8; (with_reducible refine (fa.out _).mono ?_); rintro e w' ⟨rfl, rfl⟩) | (go_at_call 8; (with_reducible refine (fb.out _).mono ?_); rintro e w' ⟨rfl, rfl⟩))
      go_ret
      exact ⟨rfl, rfl⟩
    | true =>
      have fb := Lib.hid (fun w => fits_is (n := b) w hb)
      cases hc : fitsB c with
      | false =>
        have fc := Lib.hid (fun w => fits_is (n := c) w hc)
        clear ha hb hc
        go_enter Try.func5, Try.ntmps5
        go_wp2_with (first | (go_at_call 9; (with_reducible refine (awake_true _).mono ?_); rintro e w' ⟨rfl, rfl⟩) | (go_at_call 8; (with_reducible refine (fa.out _).mono ?_); rintro e w' ⟨rfl, rfl⟩) | (go_at_call 8; (with_reducible refine (fb.out _).mono ?_); rintro e w' ⟨rfl, rfl⟩) | (go_at_call 8; (with_reducible refine (fc.out _).mono ?_); rintro e w' ⟨rfl, rfl⟩))
        go_ret
        exact ⟨rfl, rfl⟩
      | true =>
        have fc := Lib.hid (fun w => fits_is (n := c) w hc)
        cases hd : fitsB d with
        | false =>
          have fd := Lib.hid (fun w => fits_is (n := d) w hd)
          clear ha hb hc hd
          go_enter Try.func5, Try.ntmps5
          go_wp2_with (first | (go_at_call 9; (with_reducible refine (awake_true _).mono ?_); rintro e w' ⟨rfl, rfl⟩) | (go_at_call 8; (with_reducible refine (fa.out _).mono ?_); rintro e w' ⟨rfl, rfl⟩) | (go_at_call 8; (with_reducible refine (fb.out _).mono ?_); rintro e w' ⟨rfl, rfl⟩) | (go_at_call 8; (with_reducible refine (fc.out _).mono ?_); rintro e w' ⟨rfl, rfl⟩) | (go_at_call 8; (with_reducible refine (fd.out _).mono ?_); rintro e w' ⟨rfl, rfl⟩))
          go_ret
          exact ⟨rfl, rfl⟩
        | true =>
          have fd := Lib.hid (fun w => fits_is (n := d) w hd)
          obtain ⟨ia, la⟩ := fits_in ha
          obtain ⟨ib, lb⟩ := fits_in hb
          obtain ⟨ic, lc⟩ := fits_in hc
          obtain ⟨ie, ld⟩ := fits_in hd
          clear ha hb hc hd
          rcases three a b c d with ⟨h1, h2, _⟩ | ⟨h1, h2, _⟩ | ⟨h1, h2, rfl, rfl⟩
          · have A := Lib.hid fun w => ahead_is w ia ib ic ie h1
            have R := Lib.hid fun w => rahead_is w ia ib ic ie h1
            have L := Lib.hid fun w => later_second a b c d w ia ib ic ie h2
            have M := Lib.hid fun w => rlater_second a b c d w ia ib ic ie h1
            have q : ∀ t w, (binOp .eql t (ver c d) (ver c d)).run Try.prog w = .ok (.bool true) w := fun t w => (ver_eq c d c d ic ie ic ie t w).trans (by simp)
            clear h1 h2
            go_enter Try.func5, Try.ntmps5
            go_wp2_with (first | (go_at_call 9; (with_reducible refine (awake_true _).mono ?_); rintro e w' ⟨rfl, rfl⟩) | (go_at_call 8; (with_reducible refine (fa.out _).mono ?_); rintro e w' ⟨rfl, rfl⟩) | (go_at_call 8; (with_reducible refine (fb.out _).mono ?_); rintro e w' ⟨rfl, rfl⟩) | (go_at_call 8; (with_reducible refine (fc.out _).mono ?_); rintro e w' ⟨rfl, rfl⟩) | (go_at_call 8; (with_reducible refine (fd.out _).mono ?_); rintro e w' ⟨rfl, rfl⟩) | (go_at_call 11; (with_reducible refine (rmake_any a b _ ia ib).mono ?_); rintro e w' ⟨rfl, rfl⟩) | (go_at_call 11; (with_reducible refine (rmake_any c d _ ic ie).mono ?_); rintro e w' ⟨rfl, rfl⟩) | (go_at_call 16; (with_reducible refine (A.out _).mono ?_); rintro e w' ⟨rfl, rfl⟩) | (go_at_call 17; (with_reducible refine (R.out _).mono ?_); rintro e w' ⟨rfl, rfl⟩) | (go_at_call 18; (with_reducible refine (L.out _).mono ?_); rintro e w' ⟨rfl, rfl⟩) | (go_at_call 19; (with_reducible refine (M.out _).mono ?_); rintro e w' ⟨rfl, rfl⟩))
            go_ret
            exact ⟨rfl, rfl⟩
          · have A := Lib.hid fun w => ahead_is w ia ib ic ie h1
            have R := Lib.hid fun w => rahead_is w ia ib ic ie h1
            have L := Lib.hid fun w => later_first a b c d w ia ib ic ie h2
            have M := Lib.hid fun w => rlater_first a b c d w ia ib ic ie h1
            have q : ∀ t w, (binOp .eql t (ver a b) (ver a b)).run Try.prog w = .ok (.bool true) w := fun t w => (ver_eq a b a b ia ib ia ib t w).trans (by simp)
            clear h1 h2
            go_enter Try.func5, Try.ntmps5
            go_wp2_with (first | (go_at_call 9; (with_reducible refine (awake_true _).mono ?_); rintro e w' ⟨rfl, rfl⟩) | (go_at_call 8; (with_reducible refine (fa.out _).mono ?_); rintro e w' ⟨rfl, rfl⟩) | (go_at_call 8; (with_reducible refine (fb.out _).mono ?_); rintro e w' ⟨rfl, rfl⟩) | (go_at_call 8; (with_reducible refine (fc.out _).mono ?_); rintro e w' ⟨rfl, rfl⟩) | (go_at_call 8; (with_reducible refine (fd.out _).mono ?_); rintro e w' ⟨rfl, rfl⟩) | (go_at_call 11; (with_reducible refine (rmake_any a b _ ia ib).mono ?_); rintro e w' ⟨rfl, rfl⟩) | (go_at_call 11; (with_reducible refine (rmake_any c d _ ic ie).mono ?_); rintro e w' ⟨rfl, rfl⟩) | (go_at_call 16; (with_reducible refine (A.out _).mono ?_); rintro e w' ⟨rfl, rfl⟩) | (go_at_call 17; (with_reducible refine (R.out _).mono ?_); rintro e w' ⟨rfl, rfl⟩) | (go_at_call 18; (with_reducible refine (L.out _).mono ?_); rintro e w' ⟨rfl, rfl⟩) | (go_at_call 19; (with_reducible refine (M.out _).mono ?_); rintro e w' ⟨rfl, rfl⟩))
            go_ret
            exact ⟨rfl, rfl⟩
          · have A := Lib.hid fun w => ahead_is w ia ib ic ie h1
            have R := Lib.hid fun w => rahead_is w ia ib ic ie h1
            have L := Lib.hid fun w => later_second a b a b w ia ib ic ie h2
            have M := Lib.hid fun w => rlater_first a b a b w ia ib ic ie h1
            have q : ∀ t w, (binOp .eql t (ver a b) (ver a b)).run Try.prog w = .ok (.bool true) w := fun t w => (ver_eq a b a b ia ib ia ib t w).trans (by simp)
            clear h1 h2
            go_enter Try.func5, Try.ntmps5
            go_wp2_with (first | (go_at_call 9; (with_reducible refine (awake_true _).mono ?_); rintro e w' ⟨rfl, rfl⟩) | (go_at_call 8; (with_reducible refine (fa.out _).mono ?_); rintro e w' ⟨rfl, rfl⟩) | (go_at_call 8; (with_reducible refine (fb.out _).mono ?_); rintro e w' ⟨rfl, rfl⟩) | (go_at_call 8; (with_reducible refine (fc.out _).mono ?_); rintro e w' ⟨rfl, rfl⟩) | (go_at_call 8; (with_reducible refine (fd.out _).mono ?_); rintro e w' ⟨rfl, rfl⟩) | (go_at_call 11; (with_reducible refine (rmake_any a b _ ia ib).mono ?_); rintro e w' ⟨rfl, rfl⟩) | (go_at_call 16; (with_reducible refine (A.out _).mono ?_); rintro e w' ⟨rfl, rfl⟩) | (go_at_call 17; (with_reducible refine (R.out _).mono ?_); rintro e w' ⟨rfl, rfl⟩) | (go_at_call 18; (with_reducible refine (L.out _).mono ?_); rintro e w' ⟨rfl, rfl⟩) | (go_at_call 19; (with_reducible refine (M.out _).mono ?_); rintro e w' ⟨rfl, rfl⟩))
            go_ret
            exact ⟨rfl, rfl⟩

theorem next_walk (a b e : Int) (w : World) : Calls Try.prog 7 #[.int .i64 a, .int .i64 b, .int .i64 e] w fun x w' => x = .returned (.bool true) ∧ w = w' := by
  cases ha : fitsB a with
  | false =>
    have fa := Lib.hid (fun w => fits_is (n := a) w ha)
    clear ha
    go_enter Try.func7, Try.ntmps7
    go_wp2_with (first | (go_at_call 9; (with_reducible refine (awake_true _).mono ?_); rintro x w' ⟨rfl, rfl⟩) | (go_at_call 8; (with_reducible refine (fa.out _).mono ?_); rintro x w' ⟨rfl, rfl⟩))
    go_ret
    exact ⟨rfl, rfl⟩
  | true =>
    have fa := Lib.hid (fun w => fits_is (n := a) w ha)
    cases hb : fitsB b with
    | false =>
      have fb := Lib.hid (fun w => fits_is (n := b) w hb)
      clear ha hb
      go_enter Try.func7, Try.ntmps7
      go_wp2_with (first | (go_at_call 9; (with_reducible refine (awake_true _).mono ?_); rintro x w' ⟨rfl, rfl⟩) | (go_at_call 8; (with_reducible refine (fa.out _).mono ?_); rintro x w' ⟨rfl, rfl⟩) | (go_at_call 8; (with_reducible refine (fb.out _).mono ?_); rintro x w' ⟨rfl, rfl⟩))
      go_ret
      exact ⟨rfl, rfl⟩
    | true =>
      have fb := Lib.hid (fun w => fits_is (n := b) w hb)
      cases he : fitsB e with
      | false =>
        have fe := Lib.hid (fun w => fits_is (n := e) w he)
        clear ha hb he
        go_enter Try.func7, Try.ntmps7
        go_wp2_with (first | (go_at_call 9; (with_reducible refine (awake_true _).mono ?_); rintro x w' ⟨rfl, rfl⟩) | (go_at_call 8; (with_reducible refine (fa.out _).mono ?_); rintro x w' ⟨rfl, rfl⟩) | (go_at_call 8; (with_reducible refine (fb.out _).mono ?_); rintro x w' ⟨rfl, rfl⟩) | (go_at_call 8; (with_reducible refine (fe.out _).mono ?_); rintro x w' ⟨rfl, rfl⟩))
        go_ret
        exact ⟨rfl, rfl⟩
      | true =>
        have fe := Lib.hid (fun w => fits_is (n := e) w he)
        obtain ⟨ia, la⟩ := fits_in ha
        obtain ⟨ib, lb⟩ := fits_in hb
        obtain ⟨ie, le⟩ := fits_in he
        clear ha hb he
        by_cases h1 : e < a
        · go_enter Try.func7, Try.ntmps7
          go_wp2_with (first | (go_at_call 9; (with_reducible refine (awake_true _).mono ?_); rintro x w' ⟨rfl, rfl⟩) | (go_at_call 8; (with_reducible refine (fa.out _).mono ?_); rintro x w' ⟨rfl, rfl⟩) | (go_at_call 8; (with_reducible refine (fb.out _).mono ?_); rintro x w' ⟨rfl, rfl⟩) | (go_at_call 8; (with_reducible refine (fe.out _).mono ?_); rintro x w' ⟨rfl, rfl⟩))
          go_ret
          exact ⟨rfl, rfl⟩
        · by_cases h2 : b = 1099511627776
          · subst h2
            go_enter Try.func7, Try.ntmps7
            go_wp2_with (first | (go_at_call 9; (with_reducible refine (awake_true _).mono ?_); rintro x w' ⟨rfl, rfl⟩) | (go_at_call 8; (with_reducible refine (fa.out _).mono ?_); rintro x w' ⟨rfl, rfl⟩) | (go_at_call 8; (with_reducible refine (fb.out _).mono ?_); rintro x w' ⟨rfl, rfl⟩) | (go_at_call 8; (with_reducible refine (fe.out _).mono ?_); rintro x w' ⟨rfl, rfl⟩))
            go_ret
            exact ⟨rfl, rfl⟩
          · have i1 : In (b + 1) := ⟨by have := ib.1; omega, by omega⟩
            have is : In (e - a) := ⟨by omega, by have := ia.1; omega⟩
            have g1 : aheadB a b e (b + 1) = true := by unfold aheadB; simp; omega
            have g2 : aheadB e (b + 1) a b = false := by unfold aheadB; simp; omega
            have A := Lib.hid fun w => ahead_is w ia ib ie i1 g1
            have B := Lib.hid fun w => ahead_is w ie i1 ia ib g2
            have q : ∀ t w, (binOp .eql t (ver e (b + 1)) (ver e (b + 1))).run Try.prog w = .ok (.bool true) w := fun t w => (ver_eq e (b + 1) e (b + 1) ie i1 ie i1 t w).trans (by simp)
            have gb : 0 ≤ b := ib.1
            have g3 : (b == 1099511627776) = false := by simpa using h2
            clear g1 g2 h2
            go_enter Try.func7, Try.ntmps7
            go_wp2_with (first | (go_at_call 9; (with_reducible refine (awake_true _).mono ?_); rintro x w' ⟨rfl, rfl⟩) | (go_at_call 8; (with_reducible refine (fa.out _).mono ?_); rintro x w' ⟨rfl, rfl⟩) | (go_at_call 8; (with_reducible refine (fb.out _).mono ?_); rintro x w' ⟨rfl, rfl⟩) | (go_at_call 8; (with_reducible refine (fe.out _).mono ?_); rintro x w' ⟨rfl, rfl⟩) | (go_at_call 10; (with_reducible refine (make_any a b _ ia ib).mono ?_); rintro x w' ⟨rfl, rfl⟩) | (go_at_call 11; (with_reducible refine (rmake_any e (b + 1) _ ie i1).mono ?_); rintro x w' ⟨rfl, rfl⟩) | (go_at_call 20; (with_reducible refine (next_any a b e _ ia ib is ie i1).mono ?_); rintro x w' ⟨rfl, rfl⟩) | (go_at_call 16; (with_reducible refine (A.out _).mono ?_); rintro x w' ⟨rfl, rfl⟩) | (go_at_call 16; (with_reducible refine (B.out _).mono ?_); rintro x w' ⟨rfl, rfl⟩))
            go_ret
            exact ⟨rfl, rfl⟩

theorem order_walk (a b c d f g : Int) (w : World) : Calls Try.prog 6 #[.int .i64 a, .int .i64 b, .int .i64 c, .int .i64 d, .int .i64 f, .int .i64 g] w fun x w' => x = .returned (.bool true) ∧ w = w' := by
  cases ha : fitsB a with
  | false =>
    have fa := Lib.hid (fun w => fits_is (n := a) w ha)
    clear ha
    go_enter Try.func6, Try.ntmps6
    go_wp2_with (first | (go_at_call 9; (with_reducible refine (awake_true _).mono ?_); rintro e w' ⟨rfl, rfl⟩) | (go_at_call 8; (with_reducible refine (fa.out _).mono ?_); rintro e w' ⟨rfl, rfl⟩))
    go_ret
    exact ⟨rfl, rfl⟩
  | true =>
    have fa := Lib.hid (fun w => fits_is (n := a) w ha)
    cases hb : fitsB b with
    | false =>
      have fb := Lib.hid (fun w => fits_is (n := b) w hb)
      clear ha hb
      go_enter Try.func6, Try.ntmps6
      go_wp2_with (first | (go_at_call 9; (with_reducible refine (awake_true _).mono ?_); rintro e w' ⟨rfl, rfl⟩) | (go_at_call 8; (with_reducible refine (fa.out _).mono ?_); rintro e w' ⟨rfl, rfl⟩) | (go_at_call 8; (with_reducible refine (fb.out _).mono ?_); rintro e w' ⟨rfl, rfl⟩))
      go_ret
      exact ⟨rfl, rfl⟩
    | true =>
      have fb := Lib.hid (fun w => fits_is (n := b) w hb)
      cases hc : fitsB c with
      | false =>
        have fc := Lib.hid (fun w => fits_is (n := c) w hc)
        clear ha hb hc
        go_enter Try.func6, Try.ntmps6
        go_wp2_with (first | (go_at_call 9; (with_reducible refine (awake_true _).mono ?_); rintro e w' ⟨rfl, rfl⟩) | (go_at_call 8; (with_reducible refine (fa.out _).mono ?_); rintro e w' ⟨rfl, rfl⟩) | (go_at_call 8; (with_reducible refine (fb.out _).mono ?_); rintro e w' ⟨rfl, rfl⟩) | (go_at_call 8; (with_reducible refine (fc.out _).mono ?_); rintro e w' ⟨rfl, rfl⟩))
        go_ret
        exact ⟨rfl, rfl⟩
      | true =>
        have fc := Lib.hid (fun w => fits_is (n := c) w hc)
        cases hd : fitsB d with
        | false =>
          have fd := Lib.hid (fun w => fits_is (n := d) w hd)
          clear ha hb hc hd
          go_enter Try.func6, Try.ntmps6
          go_wp2_with (first | (go_at_call 9; (with_reducible refine (awake_true _).mono ?_); rintro e w' ⟨rfl, rfl⟩) | (go_at_call 8; (with_reducible refine (fa.out _).mono ?_); rintro e w' ⟨rfl, rfl⟩) | (go_at_call 8; (with_reducible refine (fb.out _).mono ?_); rintro e w' ⟨rfl, rfl⟩) | (go_at_call 8; (with_reducible refine (fc.out _).mono ?_); rintro e w' ⟨rfl, rfl⟩) | (go_at_call 8; (with_reducible refine (fd.out _).mono ?_); rintro e w' ⟨rfl, rfl⟩))
          go_ret
          exact ⟨rfl, rfl⟩
        | true =>
          have fd := Lib.hid (fun w => fits_is (n := d) w hd)
          cases hf : fitsB f with
          | false =>
            have ff := Lib.hid (fun w => fits_is (n := f) w hf)
            clear ha hb hc hd hf
            go_enter Try.func6, Try.ntmps6
            go_wp2_with (first | (go_at_call 9; (with_reducible refine (awake_true _).mono ?_); rintro e w' ⟨rfl, rfl⟩) | (go_at_call 8; (with_reducible refine (fa.out _).mono ?_); rintro e w' ⟨rfl, rfl⟩) | (go_at_call 8; (with_reducible refine (fb.out _).mono ?_); rintro e w' ⟨rfl, rfl⟩) | (go_at_call 8; (with_reducible refine (fc.out _).mono ?_); rintro e w' ⟨rfl, rfl⟩) | (go_at_call 8; (with_reducible refine (fd.out _).mono ?_); rintro e w' ⟨rfl, rfl⟩) | (go_at_call 8; (with_reducible refine (ff.out _).mono ?_); rintro e w' ⟨rfl, rfl⟩))
            go_ret
            exact ⟨rfl, rfl⟩
          | true =>
            have ff := Lib.hid (fun w => fits_is (n := f) w hf)
            cases hg : fitsB g with
            | false =>
              have fg := Lib.hid (fun w => fits_is (n := g) w hg)
              clear ha hb hc hd hf hg
              go_enter Try.func6, Try.ntmps6
              go_wp2_with (first | (go_at_call 9; (with_reducible refine (awake_true _).mono ?_); rintro e w' ⟨rfl, rfl⟩) | (go_at_call 8; (with_reducible refine (fa.out _).mono ?_); rintro e w' ⟨rfl, rfl⟩) | (go_at_call 8; (with_reducible refine (fb.out _).mono ?_); rintro e w' ⟨rfl, rfl⟩) | (go_at_call 8; (with_reducible refine (fc.out _).mono ?_); rintro e w' ⟨rfl, rfl⟩) | (go_at_call 8; (with_reducible refine (fd.out _).mono ?_); rintro e w' ⟨rfl, rfl⟩) | (go_at_call 8; (with_reducible refine (ff.out _).mono ?_); rintro e w' ⟨rfl, rfl⟩) | (go_at_call 8; (with_reducible refine (fg.out _).mono ?_); rintro e w' ⟨rfl, rfl⟩))
              go_ret
              exact ⟨rfl, rfl⟩
            | true =>
              have fg := Lib.hid (fun w => fits_is (n := g) w hg)
              obtain ⟨ia, la⟩ := fits_in ha
              obtain ⟨ib, lb⟩ := fits_in hb
              obtain ⟨ic, lc⟩ := fits_in hc
              obtain ⟨ie, ld⟩ := fits_in hd
              obtain ⟨iff, lf⟩ := fits_in hf
              obtain ⟨ig, lg⟩ := fits_in hg
              clear ha hb hc hd hf hg
              have p1 := three a b c d
              rcases p1 with ⟨h1, h2, h3⟩ | ⟨h1, h2, h3⟩ | ⟨h1, h2, rfl, rfl⟩
              · have A := Lib.hid fun w => ahead_is w ia ib ic ie h1
                have B := Lib.hid fun w => ahead_is w ic ie ia ib h2
                have q : ∀ t w, (binOp .eql t (ver a b) (ver c d)).run Try.prog w = .ok (.bool false) w := fun t w => (ver_eq a b c d ia ib ic ie t w).trans (by rw [show (decide (a = c) && decide (b = d)) = false from by simpa using h3])
                have L := Lib.hid fun w => later_second a b c d w ia ib ic ie h2
                have X := Lib.hid fun w => ahead_is w ic ie ia ib h2
                have Y := Lib.hid fun w => ahead_is w ic ie ic ie (irr c d)
                cases h4 : aheadB c d f g with
                | false =>
                  have C := Lib.hid fun w => ahead_is w ic ie iff ig h4
                  clear h1 h2 h3 h4
                  go_enter Try.func6, Try.ntmps6
                  go_wp2_with (first | (go_at_call 9; (with_reducible refine (awake_true _).mono ?_); rintro e w' ⟨rfl, rfl⟩) | (go_at_call 8; (with_reducible refine (fa.out _).mono ?_); rintro e w' ⟨rfl, rfl⟩) | (go_at_call 8; (with_reducible refine (fb.out _).mono ?_); rintro e w' ⟨rfl, rfl⟩) | (go_at_call 8; (with_reducible refine (fc.out _).mono ?_); rintro e w' ⟨rfl, rfl⟩) | (go_at_call 8; (with_reducible refine (fd.out _).mono ?_); rintro e w' ⟨rfl, rfl⟩) | (go_at_call 8; (with_reducible refine (ff.out _).mono ?_); rintro e w' ⟨rfl, rfl⟩) | (go_at_call 8; (with_reducible refine (fg.out _).mono ?_); rintro e w' ⟨rfl, rfl⟩) | (go_at_call 10; (with_reducible refine (make_any a b _ ia ib).mono ?_); rintro e w' ⟨rfl, rfl⟩) | (go_at_call 10; (with_reducible refine (make_any c d _ ic ie).mono ?_); rintro e w' ⟨rfl, rfl⟩) | (go_at_call 10; (with_reducible refine (make_any f g _ iff ig).mono ?_); rintro e w' ⟨rfl, rfl⟩) | (go_at_call 16; (with_reducible refine (A.out _).mono ?_); rintro e w' ⟨rfl, rfl⟩) | (go_at_call 16; (with_reducible refine (B.out _).mono ?_); rintro e w' ⟨rfl, rfl⟩) | (go_at_call 16; (with_reducible refine (C.out _).mono ?_); rintro e w' ⟨rfl, rfl⟩) | (go_at_call 18; (with_reducible refine (L.out _).mono ?_); rintro e w' ⟨rfl, rfl⟩) | (go_at_call 16; (with_reducible refine (X.out _).mono ?_); rintro e w' ⟨rfl, rfl⟩) | (go_at_call 16; (with_reducible refine (Y.out _).mono ?_); rintro e w' ⟨rfl, rfl⟩))
                  go_ret
                  exact ⟨rfl, rfl⟩
                | true =>
                  have C := Lib.hid fun w => ahead_is w ic ie iff ig h4
                  have D := Lib.hid fun w => ahead_is w ia ib iff ig (trans3 a b c d f g h1 h4)
                  clear h1 h2 h3 h4
                  go_enter Try.func6, Try.ntmps6
                  go_wp2_with (first | (go_at_call 9; (with_reducible refine (awake_true _).mono ?_); rintro e w' ⟨rfl, rfl⟩) | (go_at_call 8; (with_reducible refine (fa.out _).mono ?_); rintro e w' ⟨rfl, rfl⟩) | (go_at_call 8; (with_reducible refine (fb.out _).mono ?_); rintro e w' ⟨rfl, rfl⟩) | (go_at_call 8; (with_reducible refine (fc.out _).mono ?_); rintro e w' ⟨rfl, rfl⟩) | (go_at_call 8; (with_reducible refine (fd.out _).mono ?_); rintro e w' ⟨rfl, rfl⟩) | (go_at_call 8; (with_reducible refine (ff.out _).mono ?_); rintro e w' ⟨rfl, rfl⟩) | (go_at_call 8; (with_reducible refine (fg.out _).mono ?_); rintro e w' ⟨rfl, rfl⟩) | (go_at_call 10; (with_reducible refine (make_any a b _ ia ib).mono ?_); rintro e w' ⟨rfl, rfl⟩) | (go_at_call 10; (with_reducible refine (make_any c d _ ic ie).mono ?_); rintro e w' ⟨rfl, rfl⟩) | (go_at_call 10; (with_reducible refine (make_any f g _ iff ig).mono ?_); rintro e w' ⟨rfl, rfl⟩) | (go_at_call 16; (with_reducible refine (A.out _).mono ?_); rintro e w' ⟨rfl, rfl⟩) | (go_at_call 16; (with_reducible refine (B.out _).mono ?_); rintro e w' ⟨rfl, rfl⟩) | (go_at_call 16; (with_reducible refine (C.out _).mono ?_); rintro e w' ⟨rfl, rfl⟩) | (go_at_call 18; (with_reducible refine (L.out _).mono ?_); rintro e w' ⟨rfl, rfl⟩) | (go_at_call 16; (with_reducible refine (X.out _).mono ?_); rintro e w' ⟨rfl, rfl⟩) | (go_at_call 16; (with_reducible refine (Y.out _).mono ?_); rintro e w' ⟨rfl, rfl⟩) | (go_at_call 16; (with_reducible refine (D.out _).mono ?_); rintro e w' ⟨rfl, rfl⟩))
                  go_ret
                  exact ⟨rfl, rfl⟩
              · have A := Lib.hid fun w => ahead_is w ia ib ic ie h1
                have B := Lib.hid fun w => ahead_is w ic ie ia ib h2
                have q : ∀ t w, (binOp .eql t (ver a b) (ver c d)).run Try.prog w = .ok (.bool false) w := fun t w => (ver_eq a b c d ia ib ic ie t w).trans (by rw [show (decide (a = c) && decide (b = d)) = false from by simpa using h3])
                have L := Lib.hid fun w => later_first a b c d w ia ib ic ie h2
                have X := Lib.hid fun w => ahead_is w ia ib ia ib (irr a b)
                clear h1 h2 h3
                go_enter Try.func6, Try.ntmps6
                go_wp2_with (first | (go_at_call 9; (with_reducible refine (awake_true _).mono ?_); rintro e w' ⟨rfl, rfl⟩) | (go_at_call 8; (with_reducible refine (fa.out _).mono ?_); rintro e w' ⟨rfl, rfl⟩) | (go_at_call 8; (with_reducible refine (fb.out _).mono ?_); rintro e w' ⟨rfl, rfl⟩) | (go_at_call 8; (with_reducible refine (fc.out _).mono ?_); rintro e w' ⟨rfl, rfl⟩) | (go_at_call 8; (with_reducible refine (fd.out _).mono ?_); rintro e w' ⟨rfl, rfl⟩) | (go_at_call 8; (with_reducible refine (ff.out _).mono ?_); rintro e w' ⟨rfl, rfl⟩) | (go_at_call 8; (with_reducible refine (fg.out _).mono ?_); rintro e w' ⟨rfl, rfl⟩) | (go_at_call 10; (with_reducible refine (make_any a b _ ia ib).mono ?_); rintro e w' ⟨rfl, rfl⟩) | (go_at_call 10; (with_reducible refine (make_any c d _ ic ie).mono ?_); rintro e w' ⟨rfl, rfl⟩) | (go_at_call 10; (with_reducible refine (make_any f g _ iff ig).mono ?_); rintro e w' ⟨rfl, rfl⟩) | (go_at_call 16; (with_reducible refine (A.out _).mono ?_); rintro e w' ⟨rfl, rfl⟩) | (go_at_call 16; (with_reducible refine (B.out _).mono ?_); rintro e w' ⟨rfl, rfl⟩) | (go_at_call 18; (with_reducible refine (L.out _).mono ?_); rintro e w' ⟨rfl, rfl⟩) | (go_at_call 16; (with_reducible refine (X.out _).mono ?_); rintro e w' ⟨rfl, rfl⟩))
                go_ret
                exact ⟨rfl, rfl⟩
              · have A := Lib.hid fun w => ahead_is w ia ib ic ie h1
                have B := Lib.hid fun w => ahead_is w ic ie ia ib h2
                have q : ∀ t w, (binOp .eql t (ver a b) (ver a b)).run Try.prog w = .ok (.bool true) w := fun t w => (ver_eq a b a b ia ib ia ib t w).trans (by simp)
                have L := Lib.hid fun w => later_second a b a b w ia ib ic ie h2
                clear h1 h2
                go_enter Try.func6, Try.ntmps6
                go_wp2_with (first | (go_at_call 9; (with_reducible refine (awake_true _).mono ?_); rintro e w' ⟨rfl, rfl⟩) | (go_at_call 8; (with_reducible refine (fa.out _).mono ?_); rintro e w' ⟨rfl, rfl⟩) | (go_at_call 8; (with_reducible refine (fb.out _).mono ?_); rintro e w' ⟨rfl, rfl⟩) | (go_at_call 8; (with_reducible refine (fc.out _).mono ?_); rintro e w' ⟨rfl, rfl⟩) | (go_at_call 8; (with_reducible refine (fd.out _).mono ?_); rintro e w' ⟨rfl, rfl⟩) | (go_at_call 8; (with_reducible refine (ff.out _).mono ?_); rintro e w' ⟨rfl, rfl⟩) | (go_at_call 8; (with_reducible refine (fg.out _).mono ?_); rintro e w' ⟨rfl, rfl⟩) | (go_at_call 10; (with_reducible refine (make_any a b _ ia ib).mono ?_); rintro e w' ⟨rfl, rfl⟩) | (go_at_call 10; (with_reducible refine (make_any f g _ iff ig).mono ?_); rintro e w' ⟨rfl, rfl⟩) | (go_at_call 16; (with_reducible refine (A.out _).mono ?_); rintro e w' ⟨rfl, rfl⟩) | (go_at_call 18; (with_reducible refine (L.out _).mono ?_); rintro e w' ⟨rfl, rfl⟩))
                go_ret
                exact ⟨rfl, rfl⟩

end Go.Proofs.Ytkbcblcolfjbgaa
