/-
  A number read byte for byte: how far one is, and how it ends.
-/
import Derived.Test.YtmohanbgplffcaaBit
namespace Go.Proofs.Ytmohanbgplffcaa
open Go.RowKit

/-- i groups have been read of L, m is what they give. -/
def Along (L : List UInt8) (i m : Nat) : Prop := i ≤ 9 ∧ m < 2 ^ (7 * i) ∧ dec 0 L = (dec i (L.drop i)).map fun x => (m + 2 ^ (7 * i) * x.1, x.2 + i)
def Big (i : Nat) (c : UInt8) : Prop := i = 9 ∧ 1 < c.toNat

theorem along_start (L : List UInt8) : Along L 0 0 := by
  refine ⟨by omega, by omega, ?_⟩
  rw [List.drop_zero]
  cases dec 0 L <;> simp
theorem along_over {L : List UInt8} {i m : Nat} (h : Along L i m) (hi : L.length ≤ i) : dec 0 L = none := by
  rw [h.2.2, List.drop_of_length_le hi]; rfl
theorem along_dec {L : List UInt8} {i m : Nat} (h : Along L i m) (hi : i < L.length) : dec 0 L = (dec i (L[i] :: L.drop (i + 1))).map fun x => (m + 2 ^ (7 * i) * x.1, x.2 + i) := by
  rw [h.2.2, List.drop_eq_getElem_cons hi]
theorem along_big {L : List UInt8} {i m : Nat} (h : Along L i m) (hi : i < L.length) (hb : Big i L[i]) : dec 0 L = none := by
  unfold Big at hb
  rw [along_dec h hi, dec, if_pos hb]; rfl
theorem along_empty {L : List UInt8} {i m : Nat} (h : Along L i m) (hi : i < L.length) (h0 : L[i].toNat = 0) (hp : 0 < i) : dec 0 L = none := by
  rw [along_dec h hi, dec, if_neg (fun h => by omega), if_neg (by omega), if_pos ⟨h0, hp⟩]; rfl
theorem along_next {L : List UInt8} {i m : Nat} (h : Along L i m) (hi : i < L.length) (hb : ¬ Big i L[i]) (hc : 128 ≤ L[i].toNat) : i < 9 ∧ Along L (i + 1) (m + L[i].toNat % 128 * 2 ^ (7 * i)) := by
  unfold Big at hb
  have h9 : i < 9 := by
    rcases Nat.lt_or_ge i 9 with h9 | h9
    · exact h9
    · exact absurd ⟨by have := h.1; omega, by omega⟩ hb
  have e7 : 2 ^ (7 * (i + 1)) = 128 * 2 ^ (7 * i) := by rw [show 7 * (i + 1) = 7 * i + 7 by omega, Nat.pow_add]; omega
  refine ⟨h9, by omega, ?_, ?_⟩
  · have h1 := h.2.1
    have h2 : L[i].toNat % 128 * 2 ^ (7 * i) ≤ 127 * 2 ^ (7 * i) := Nat.mul_le_mul_right _ (by omega)
    omega
  · rw [along_dec h hi, dec, if_neg hb, if_pos hc, Option.map_map]
    congr 1
    funext x
    simp only [Function.comp, e7]
    refine Prod.ext ?_ (by show x.2 + 1 + i = x.2 + (i + 1); omega)
    show m + 2 ^ (7 * i) * (L[i].toNat % 128 + 128 * x.1) = m + L[i].toNat % 128 * 2 ^ (7 * i) + 128 * 2 ^ (7 * i) * x.1
    rw [Nat.mul_add, Nat.mul_comm (L[i].toNat % 128), ← Nat.mul_assoc, Nat.mul_comm (2 ^ (7 * i)) 128]
    omega
theorem along_fits {L : List UInt8} {i m : Nat} (h : Along L i m) (hi : i < L.length) (hb : ¬ Big i L[i]) : m + L[i].toNat % 128 * 2 ^ (7 * i) < 18446744073709551616 ∧ L[i].toNat % 128 * 2 ^ (7 * i) < 18446744073709551616 := by
  unfold Big at hb
  have h1 := h.2.1
  rcases Nat.lt_or_ge i 9 with h9 | h9
  · have h2 : L[i].toNat % 128 * 2 ^ (7 * i) ≤ 127 * 2 ^ (7 * i) := Nat.mul_le_mul_right _ (by omega)
    have h3 : 2 ^ (7 * i) ≤ 2 ^ 56 := Nat.pow_le_pow_right (by omega) (by omega)
    omega
  · have e9 : i = 9 := by have := h.1; omega
    have hc : L[i].toNat ≤ 1 := by
      rcases Nat.lt_or_ge 1 L[i].toNat with hc | hc
      · exact absurd ⟨e9, hc⟩ hb
      · exact hc
    have h2 : L[i].toNat % 128 * 2 ^ (7 * i) ≤ 1 * 2 ^ (7 * i) := Nat.mul_le_mul_right _ (by omega)
    have h3 : 2 ^ (7 * i) ≤ 2 ^ 63 := Nat.pow_le_pow_right (by omega) (by omega)
    omega
theorem along_end {L : List UInt8} {i m : Nat} (h : Along L i m) (hi : i < L.length) (hb : ¬ Big i L[i]) (hc : L[i].toNat < 128) (h0 : ¬ (L[i].toNat = 0 ∧ 0 < i)) : dec 0 L = some (m + L[i].toNat % 128 * 2 ^ (7 * i), i + 1) := by
  unfold Big at hb
  rw [along_dec h hi, dec, if_neg hb, if_neg (by omega), if_neg h0]
  show some (m + 2 ^ (7 * i) * L[i].toNat, 1 + i) = _
  rw [Nat.mod_eq_of_lt hc, Nat.mul_comm, Nat.add_comm 1 i]

/-- a group put in its place -/
theorem or_put (m x s : Nat) (hm : m < 2 ^ s) (hx : x * 2 ^ s < 18446744073709551616) (hm' : m < 18446744073709551616) : bits BinOp.or .u64 (m : Int) ((x * 2 ^ s : Nat) : Int) = ((m + x * 2 ^ s : Nat) : Int) := by
  rw [u64_or_nat _ _ hm' hx, Nat.or_comm, nat_join s (x * 2 ^ s) m (Nat.mul_mod_left _ _) hm, Nat.add_comm]

end Go.Proofs.Ytmohanbgplffcaa
