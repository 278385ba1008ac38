/-
  A number read from its last byte back: what that comes to.
-/
import Derived.Test.YtemoekakpnaboaaWd
namespace Go.Proofs.Ytemoekakpnaboaa
open Go.RowKit

def val : List UInt8 → Nat
  | [] => 0
  | c :: t => c.toNat % 128 + 128 * val t
theorem val_lt : ∀ t : List UInt8, val t < 128 ^ t.length
  | [] => by simp [val]
  | c :: t => by
    have := val_lt t
    rw [val, List.length_cons, Nat.pow_succ]
    omega
theorem val_snoc : ∀ (t : List UInt8) (c : UInt8), val (t ++ [c]) = val t + 128 ^ t.length * (c.toNat % 128)
  | [], c => by simp [val]
  | x :: t, c => by
    rw [List.cons_append, val, val_snoc t c, val, List.length_cons, Nat.pow_succ, Nat.mul_add, Nat.mul_comm (128 ^ t.length) 128, Nat.mul_assoc]
    omega

/-- Bytes that all tell that another follows. -/
def Mores (t : List UInt8) : Prop := ∀ x ∈ t, 128 ≤ x.toNat

theorem dec_mores : ∀ (t : List UInt8) (i : Nat), Mores t → dec i t = none
  | [], i, _ => by rw [dec]
  | c :: t, i, h => by
    have hc := h c (by simp)
    rw [dec, if_pos hc, dec_mores t (i + 1) fun x hx => h x (by simp [hx])]
    split <;> rfl
theorem dec_long : ∀ (t r : List UInt8) (i : Nat), i ≤ 9 → 9 < i + t.length → Mores t → dec i (t ++ r) = none
  | [], r, i, h1, h2, _ => by simp at h2; omega
  | c :: t, r, i, h1, h2, h => by
    have hc := h c (by simp)
    rw [List.length_cons] at h2
    rw [List.cons_append, dec]
    by_cases h9 : i = 9
    · rw [if_pos ⟨h9, by omega⟩]
    · rw [if_neg (fun h => h9 h.1), if_pos hc, dec_long t r (i + 1) (by omega) (by omega) fun x hx => h x (by simp [hx])]
      rfl
theorem dec_scan : ∀ (t : List UInt8) (c : UInt8) (r : List UInt8) (i : Nat), i + t.length ≤ 9 → Mores t → c.toNat < 128 →
    dec i (t ++ c :: r) = if i + t.length = 9 ∧ 1 < c.toNat then none else if c.toNat = 0 ∧ 0 < i + t.length then none else some (val (t ++ [c]), t.length + 1)
  | [], c, r, i, h1, _, hc => by
    rw [List.nil_append, dec, if_neg (show ¬ 128 ≤ c.toNat by omega)]
    show _ = if i + 0 = 9 ∧ _ then none else if _ ∧ 0 < i + 0 then none else some (c.toNat % 128 + 128 * 0, 0 + 1)
    rw [Nat.mod_eq_of_lt hc]
    rfl
  | x :: t, c, r, i, h1, h, hc => by
    have hx := h x (by simp)
    rw [List.length_cons] at h1
    rw [List.cons_append, dec, if_neg (fun h => by omega), if_pos hx, dec_scan t c r (i + 1) (by omega) (fun x hx => h x (by simp [hx])) hc]
    rw [List.length_cons, show i + 1 + t.length = i + (t.length + 1) by omega]
    split
    · rfl
    · split
      · rfl
      · rfl

theorem split_at (L : List UInt8) (e : Nat) (h : e < L.length) : L = L.take e ++ L[e] :: L.drop (e + 1) := by
  rw [List.getElem_cons_drop, List.take_append_drop]
theorem take_len {L : List UInt8} {e : Nat} (h : e < L.length) : (L.take e).length = e := by rw [List.length_take]; omega
theorem scan_is {L : List UInt8} {e : Nat} (h : e < L.length) (he : e ≤ 9) (hm : Mores (L.take e)) (hc : L[e].toNat < 128) :
    dec 0 L = if e = 9 ∧ 1 < L[e].toNat then none else if L[e].toNat = 0 ∧ 0 < e then none else some (val (L.take (e + 1)), e + 1) := by
  have := dec_scan (L.take e) L[e] (L.drop (e + 1)) 0 (by rw [take_len h]; omega) hm hc
  rw [← split_at L e h, take_len h, Nat.zero_add, ← List.take_succ_eq_append_getElem h] at this
  exact this
theorem scan_over {L : List UInt8} {e : Nat} (h : L.length ≤ e) (hm : Mores (L.take e)) : dec 0 L = none := by
  rw [List.take_of_length_le h] at hm
  exact dec_mores L 0 hm
theorem scan_long {L : List UInt8} {e : Nat} (h : e < L.length) (he : 10 ≤ e) (hm : Mores (L.take e)) : dec 0 L = none := by
  rw [split_at L e h]
  exact dec_long _ _ 0 (by omega) (by rw [take_len h]; omega) hm
theorem mores_next {L : List UInt8} {e : Nat} (h : e < L.length) (hm : Mores (L.take e)) (hc : 128 ≤ L[e].toNat) : Mores (L.take (e + 1)) := by
  intro x hx
  rw [List.take_succ_eq_append_getElem h, List.mem_append, List.mem_singleton] at hx
  rcases hx with hx | rfl
  · exact hm x hx
  · exact hc

/-- the value of the groups from the j-th on -/
def tailv (L : List UInt8) (e j : Nat) : Nat := val ((L.take (e + 1)).drop j)
theorem tailv_all {L : List UInt8} {e : Nat} (h : e < L.length) : tailv L e (e + 1) = 0 := by
  unfold tailv
  rw [List.drop_of_length_le (by rw [List.length_take]; omega)]; rfl
theorem tailv_zero (L : List UInt8) (e : Nat) : tailv L e 0 = val (L.take (e + 1)) := rfl
theorem tailv_step {L : List UInt8} {e j : Nat} (h : e < L.length) (hj : j ≤ e) : tailv L e j = tailv L e (j + 1) * 128 + L[j].toNat % 128 := by
  unfold tailv
  have hl : j < (L.take (e + 1)).length := by rw [List.length_take]; omega
  rw [List.drop_eq_getElem_cons hl, val, List.getElem_take]
  omega
theorem tailv_lt {L : List UInt8} {e : Nat} (h : e < L.length) (j : Nat) : tailv L e j < 128 ^ (e + 1 - j) := by
  have := val_lt ((L.take (e + 1)).drop j)
  rw [List.length_drop, List.length_take, show min (e + 1) L.length = e + 1 by omega] at this
  exact this
/-- Where a value grows too great, the number doesn't fit. -/
theorem tailv_big {L : List UInt8} {e j : Nat} (h : e < L.length) (he : e ≤ 9) (hc : L[e].toNat < 128) (hb : 144115188075855871 < tailv L e (j + 1)) : e = 9 ∧ 1 < L[e].toNat := by
  have h1 := tailv_lt h (j + 1)
  have hp : 128 ^ (e + 1 - (j + 1)) ≤ 128 ^ (e - j) := Nat.pow_le_pow_right (by omega) (by omega)
  have h9 : e = 9 ∧ j = 0 := by
    rcases Nat.lt_or_ge (e - j) 9 with h8 | h8
    · have : 128 ^ (e - j) ≤ 128 ^ 8 := Nat.pow_le_pow_right (by omega) (by omega)
      have e8 : 128 ^ 8 = 72057594037927936 := by decide
      omega
    · omega
  obtain ⟨rfl, rfl⟩ := h9
  refine ⟨rfl, ?_⟩
  unfold tailv at hb
  rw [List.take_succ_eq_append_getElem h, List.drop_append_of_le_length (by rw [take_len h]; omega), val_snoc, Nat.mod_eq_of_lt hc] at hb
  have h2 := val_lt ((L.take 9).drop (0 + 1))
  have hlen : ((L.take 9).drop (0 + 1)).length = 8 := by rw [List.length_drop, take_len h]
  rw [hlen] at hb h2
  have e8 : 128 ^ 8 = 72057594037927936 := by decide
  rw [e8] at hb h2
  rcases Nat.lt_or_ge 1 L[9].toNat with h3 | h3
  · exact h3
  · have : 72057594037927936 * L[9].toNat ≤ 72057594037927936 * 1 := Nat.mul_le_mul_left _ h3
    omega
theorem tailv_fits {L : List UInt8} {e : Nat} (h : e < L.length) (he : e ≤ 9) (hc : L[e].toNat < 128) (hb : tailv L e 1 ≤ 144115188075855871) : ¬ (e = 9 ∧ 1 < L[e].toNat) := by
  rintro ⟨rfl, h1⟩
  unfold tailv at hb
  rw [List.take_succ_eq_append_getElem h, List.drop_append_of_le_length (by rw [take_len h]; omega), val_snoc, Nat.mod_eq_of_lt hc] at hb
  have hlen : ((L.take 9).drop 1).length = 8 := by rw [List.length_drop, take_len h]
  rw [hlen, show 128 ^ 8 = 72057594037927936 by decide] at hb
  have : 72057594037927936 * 2 ≤ 72057594037927936 * L[9].toNat := Nat.mul_le_mul_left _ h1
  omega

end Go.Proofs.Ytemoekakpnaboaa
