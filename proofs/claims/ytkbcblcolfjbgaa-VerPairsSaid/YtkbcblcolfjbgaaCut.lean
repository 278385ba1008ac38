/-
  Of whatever float64 from 0 to 2^40: the whole number below it. No program is named here.
-/
import Derived.Test.YtkbcblcolfjbgaaFlo
namespace Go.Proofs.Ytkbcblcolfjbgaa
namespace Flo
open Ieee

/-- A word of a double is a NaN, an infinity, or a number whose place is no less than the least one. -/
theorem read_kinds (b : Nat) : (∃ s t, double.read b = .nan s t) ∨ (∃ s, double.read b = .infinity s) ∨ ∃ s m i, double.read b = .number s m i ∧ -(U : Int) ≤ i := by
  have hleast : double.leastPlace = -(U : Int) := by decide
  unfold Format.read
  dsimp only
  split
  · exact .inr (.inr ⟨_, _, _, rfl, by rw [hleast]; exact Int.le_refl _⟩)
  · split
    · exact .inr (.inr ⟨_, _, _, rfl, by rw [hleast]; omega⟩)
    · split
      · exact .inr (.inl ⟨_, rfl⟩)
      · exact .inl ⟨_, _, rfl⟩

theorem cut_zero (s : Bool) (n drop : Nat) : Toward.zero.cut s n drop = n / 2 ^ min drop (n.log2 + 2) := by
  unfold Toward.cut
  rw [Nat.one_shiftLeft]
  rfl

/-- The whole number below 'm * 2^i' is not more than it. -/
theorem cut_le (m : Nat) (i : Int) (hi : -(U : Int) ≤ i) (s : Bool) :
    Toward.zero.cut s (m <<< i.toNat) (-i).toNat * 2 ^ U ≤ m * 2 ^ (i + (U : Int)).toNat := by
  rw [cut_zero, Nat.shiftLeft_eq]
  by_cases h : 0 ≤ i
  · have e1 : (-i).toNat = 0 := by omega
    have e2 : (i + (U : Int)).toNat = i.toNat + U := by omega
    rw [e1, e2, Nat.zero_min, Nat.pow_zero, Nat.div_one, Nat.pow_add, Nat.mul_assoc]
    exact Nat.le_refl _
  · have e1 : i.toNat = 0 := by omega
    obtain ⟨d, hd⟩ := Int.eq_ofNat_of_zero_le (show 0 ≤ -i by omega)
    have e2 : (-i).toNat = d := by omega
    have e3 : U = d + (i + (U : Int)).toNat := by omega
    rw [e1, e2, Nat.pow_zero, Nat.mul_one]
    by_cases hm : d ≤ m.log2 + 2
    · rw [Nat.min_eq_left hm]
      generalize hq : (i + (U : Int)).toNat = q at e3
      rw [e3, Nat.pow_add, ← Nat.mul_assoc]
      exact Nat.mul_le_mul_right _ (Nat.div_mul_le_self _ _)
    · rw [Nat.min_eq_right (by omega), Nat.div_eq_of_lt, Nat.zero_mul]
      · exact Nat.zero_le _
      · exact Nat.lt_of_lt_of_le (@Nat.lt_log2_self m) (Nat.pow_le_pow_right (by decide) (by omega))

theorem dval_pos (m : Nat) (i : Int) : dval (.number false m i) = ((m * 2 ^ (i + (U : Int)).toNat : Nat) : Int) := signed_pos _ _

theorem dval_neg (m : Nat) (i : Int) : dval (.number true m i) = -((m * 2 ^ (i + (U : Int)).toNat : Nat) : Int) := by
  simp only [dval]
  rw [signed_eq]
  simp [Int.neg_mul]

theorem cmp_cases {a b : Int} (h : compare a b = .gt ∨ compare a b = .eq) : b ≤ a := by
  rcases Int.lt_trichotomy a b with h1 | h1 | h1
  · rw [cmp_lt h1] at h; rcases h with h | h <;> cases h
  · omega
  · omega

theorem cmp_cases' {a b : Int} (h : compare a b = .lt ∨ compare a b = .eq) : a ≤ b := by
  rcases Int.lt_trichotomy a b with h1 | h1 | h1
  · omega
  · omega
  · rw [cmp_gt h1] at h; rcases h with h | h <;> cases h

theorem order_some {x y : Nat} {o1 o2 : Ordering} (h : (double.order x y == some o1 || double.order x y == some o2) = true) : double.order x y = some o1 ∨ double.order x y = some o2 := by
  simpa using h

theorem read_big : ∃ k : Nat, k ≤ U ∧ double.read 4787326403894837248 = .number false (1099511627776 * 2 ^ k) (-(k : Int)) := by
  have := read_fw 1099511627776 (by decide)
  have e : fw 1099511627776 = 4787326403894837248 := by decide
  rw [e] at this
  exact this

theorem read_minus : double.read (2 ^ 63) = .number true 0 (-1074) := by decide

/-- Of a double from 0 to 2^40: the whole number below it is what it is as an integer, and what is cut off of it stands to it as that number's word does. -/
theorem whole (b : Nat) (h0 : (double.order b 0 == some .gt || double.order b 0 == some .eq) = true) (h1 : (double.order b 4787326403894837248 == some .lt || double.order b 4787326403894837248 == some .eq) = true) :
    ∃ n : Nat, n ≤ 1099511627776 ∧ (double.read b).toInt .zero = some (n : Int) ∧ (∀ s t, double.read b ≠ .nan s t) ∧ double.order (double.write ((double.read b).integral .zero)) b = double.order (fw n) b := by
  replace h0 := order_some h0
  replace h1 := order_some h1
  unfold Format.order at h0 h1
  rw [read_zero] at h0
  obtain ⟨kb, hkb, eb⟩ := read_big
  rw [eb] at h1
  rcases read_kinds b with ⟨s, t, e⟩ | ⟨s, e⟩ | ⟨s, m, i, e, hi⟩
  · rw [e] at h0; simp [Datum.order] at h0
  · rw [e] at h0 h1
    cases s
    · simp [Datum.order] at h1
    · simp [Datum.order] at h0
  · rw [e] at h0 h1
    rw [order_val _ _ _ _ _ _ hi (by decide)] at h0
    rw [order_val _ _ _ _ _ _ hi (by omega), dval_shift _ _ hkb] at h1
    have hz : dval (.number false 0 (-1074)) = 0 := by rw [dval_pos, Nat.zero_mul]; rfl
    rw [hz] at h0
    simp only [Option.some.injEq] at h0 h1
    replace h0 := cmp_cases h0
    replace h1 := cmp_cases' h1
    have hc := cut_le m i hi s
    have hm : s = true → m = 0 := by
      intro hs
      subst hs
      rw [dval_neg] at h0
      have : m * 2 ^ (i + (U : Int)).toNat = 0 := by omega
      rcases Nat.mul_eq_zero.1 this with h | h
      · exact h
      · have := Nat.two_pow_pos (i + (U : Int)).toNat
        omega
    have hn : Toward.zero.cut s (m <<< i.toNat) (-i).toNat ≤ 1099511627776 := by
      by_cases hs : s = true
      · have := hm hs
        subst this
        have hp := Nat.two_pow_pos U
        rw [Nat.zero_mul] at hc
        rcases Nat.eq_zero_or_pos (Toward.zero.cut s (0 <<< i.toNat) (-i).toNat) with h | h
        · omega
        · have := Nat.mul_pos h hp
          omega
      · obtain rfl : s = false := by simpa using hs
        rw [dval_pos] at h1
        have h2 : m * 2 ^ (i + (U : Int)).toNat ≤ 1099511627776 * 2 ^ U := by
          unfold units at h1
          have : (((1099511627776 * 2 ^ U : Nat)) : Int) = ((1099511627776 : Nat) : Int) * 2 ^ U := by
            rw [Int.natCast_mul, Int.natCast_pow]; rfl
          rw [← this] at h1
          exact Int.ofNat_le.1 h1
        exact Nat.le_of_mul_le_mul_right (Nat.le_trans hc h2) (Nat.two_pow_pos U)
    refine ⟨_, hn, ?_, ?_, ?_⟩
    · rw [e]
      simp only [Datum.toInt, Datum.integral]
      cases s
      · rw [signed_pos, Nat.pow_zero, Nat.mul_one]
      · have := hm rfl
        subst this
        have hz2 : Toward.zero.cut true (0 <<< i.toNat) (-i).toNat = 0 := by
          rw [cut_zero, Nat.zero_shiftLeft, Nat.zero_div]
        rw [hz2]
        rfl
    · intro s' t' h
      rw [e] at h
      cases h
    · rw [e]
      simp only [Datum.integral]
      cases s
      · rfl
      · have := hm rfl
        subst this
        have hz2 : Toward.zero.cut true (0 <<< i.toNat) (-i).toNat = 0 := by
          rw [cut_zero, Nat.zero_shiftLeft, Nat.zero_div]
        rw [hz2]
        have hw : double.write (.number true 0 0) = 2 ^ 63 := by decide
        rw [hw, fw_zero]
        unfold Format.order
        rw [read_minus, read_zero, e, order_val _ _ _ _ _ _ (by decide) hi, order_val _ _ _ _ _ _ (by decide) hi, dval_neg, dval_pos, Nat.zero_mul]
        rfl

end Flo
end Go.Proofs.Ytkbcblcolfjbgaa
