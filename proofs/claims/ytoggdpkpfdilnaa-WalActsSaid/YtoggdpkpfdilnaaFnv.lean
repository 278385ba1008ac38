/-
  FNV-1a on natural numbers: the step, that it can be undone, and the document's own way of saying it.
-/
import Derived.WalkKit
import Derived.Laws.Bits64
namespace Go.Proofs.Ytoggdpkpfdilnaa
open Go.RowKit

def M : Nat := 18446744073709551616
def P : Nat := 1099511628211
def P1 : Nat := 14886173955864302971
def B0 : Nat := 14695981039346656037

theorem M_pos : 0 < M := by unfold M; omega
theorem M_pow : M = 2 ^ 64 := by decide
theorem P_P1 : P * P1 % M = 1 := by decide

def step (h c : Nat) : Nat := (h ^^^ c) * P % M
def stepB (h : Nat) (c : UInt8) : Nat := step h c.toNat
def fnv (l : List UInt8) : Nat := l.foldl stepB B0

theorem step_lt (h c : Nat) : step h c < M := Nat.mod_lt _ M_pos
theorem stepB_lt (h : Nat) (c : UInt8) : stepB h c < M := step_lt _ _
theorem fold_lt (l : List UInt8) (h : Nat) (hh : h < M) : l.foldl stepB h < M := by
  induction l generalizing h with
  | nil => exact hh
  | cons c l ih => rw [List.foldl_cons]; exact ih _ (stepB_lt _ _)
theorem B0_lt : B0 < M := by decide
theorem fnv_lt (l : List UInt8) : fnv l < M := fold_lt l B0 B0_lt
theorem fold_snoc {α β : Type} (f : β → α → β) (l : List α) (b : β) (c : α) : (l ++ [c]).foldl f b = f (l.foldl f b) c := by
  rw [List.foldl_append, List.foldl_cons, List.foldl_nil]
theorem stepB_is (h : Nat) (c : UInt8) : stepB h c = step h c.toNat := rfl
theorem fnv_snoc (l : List UInt8) (c : UInt8) : fnv (l ++ [c]) = step (fnv l) c.toNat :=
  (congrArg (fun x => x) (fold_snoc stepB l B0 c)).trans (stepB_is _ _)

theorem mul_back (a : Nat) (h : a < M) : (a * P % M) * P1 % M = a := by
  rw [Nat.mod_mul_mod, Nat.mul_assoc, ← Nat.mul_mod_mod, P_P1, Nat.mul_one, Nat.mod_eq_of_lt h]

theorem xor_lt {a b : Nat} (ha : a < M) (hb : b < M) : a ^^^ b < M := by
  rw [M_pow] at *
  exact Nat.xor_lt_two_pow ha hb

theorem byte_lt (c : UInt8) : c.toNat < M := by
  have := c.toNat_lt
  have e : 256 < M := by decide
  omega

theorem xor_cancel_right {a b c : Nat} (h : a ^^^ c = b ^^^ c) : a = b := by
  have := congrArg (· ^^^ c) h
  simpa [Nat.xor_assoc] using this
theorem xor_cancel_left {a b c : Nat} (h : c ^^^ a = c ^^^ b) : a = b := by
  rw [Nat.xor_comm c a, Nat.xor_comm c b] at h
  exact xor_cancel_right h

theorem step_inj_sum {a b : Nat} (c : UInt8) (ha : a < M) (hb : b < M) (h : step a c.toNat = step b c.toNat) : a = b := by
  unfold step at h
  have h1 := mul_back _ (xor_lt ha (byte_lt c))
  have h2 := mul_back _ (xor_lt hb (byte_lt c))
  rw [h, h2] at h1
  exact (xor_cancel_right h1).symm
theorem step_inj_byte {a : Nat} {c d : UInt8} (ha : a < M) (h : step a c.toNat = step a d.toNat) : c = d := by
  unfold step at h
  have h1 := mul_back _ (xor_lt ha (byte_lt c))
  have h2 := mul_back _ (xor_lt ha (byte_lt d))
  rw [h, h2] at h1
  exact UInt8.toNat_inj.mp (xor_cancel_left h1).symm
theorem fold_inj (l : List UInt8) {a b : Nat} (ha : a < M) (hb : b < M) (h : l.foldl stepB a = l.foldl stepB b) : a = b := by
  induction l generalizing a b with
  | nil => exact h
  | cons c l ih => rw [List.foldl_cons, List.foldl_cons] at h; exact step_inj_sum c ha hb (ih (stepB_lt _ _) (stepB_lt _ _) h)

/-- P2.2, of lists. -/
theorem fnv_one (l r : List UInt8) (c d : UInt8) (h : fnv (l ++ c :: r) = fnv (l ++ d :: r)) : c = d := by
  unfold fnv at h
  rw [List.foldl_append, List.foldl_append, List.foldl_cons, List.foldl_cons] at h
  exact step_inj_byte (fnv_lt l) (fold_inj r (stepB_lt _ _) (stepB_lt _ _) h)

/-- The document's way: the lowest eight bits by themselves. -/
theorem xor_low (h c : Nat) (hc : c < 256) : h ^^^ c = h - h % 256 + (h % 256 ^^^ c) := by
  have h1 : (h ^^^ c) / 256 = h / 256 := by
    have := Nat.xor_div_two_pow (a := h) (b := c) (n := 8)
    rw [show (2 : Nat) ^ 8 = 256 from rfl, Nat.div_eq_of_lt hc, Nat.xor_zero] at this
    exact this
  have h2 : (h ^^^ c) % 256 = h % 256 ^^^ c := by
    have := Nat.xor_mod_two_pow (a := h) (b := c) (n := 8)
    rw [show (2 : Nat) ^ 8 = 256 from rfl, Nat.mod_eq_of_lt hc] at this
    exact this
  omega

end Go.Proofs.Ytoggdpkpfdilnaa
