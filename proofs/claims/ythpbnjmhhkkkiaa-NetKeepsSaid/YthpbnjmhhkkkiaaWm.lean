/-
  Numbers as bytes, in plain mathematics: groups of seven bits, the lowest first; reading them back; that there is one way.
-/
import Derived.WalkKit
namespace Go.Proofs.Ythpbnjmhhkkkiaa

/-- A byte of that value. -/
def by_ (n : Nat) : UInt8 := UInt8.ofNat n
theorem by_nat (n : Nat) (h : n < 256) : (by_ n).toNat = n := by unfold by_; simp [UInt8.toNat_ofNat']; omega
theorem by_of (c : UInt8) : by_ c.toNat = c := by unfold by_; exact UInt8.ofNat_toNat

/-- A number's bytes. -/
def enc (m : Nat) : List UInt8 := if h : m < 128 then [by_ m] else by_ (m % 128 + 128) :: enc (m / 128)
termination_by m
decreasing_by omega

theorem enc_small {m : Nat} (h : m < 128) : enc m = [by_ m] := by rw [enc, dif_pos h]
theorem enc_big {m : Nat} (h : ¬ m < 128) : enc m = by_ (m % 128 + 128) :: enc (m / 128) := by rw [enc, dif_neg h]

/-- The whole number without sign that a number is written as. -/
def zig (n : Int) : Nat := if n < 0 then (-2 * n - 1).toNat else (2 * n).toNat
def zag (m : Nat) : Int := if m % 2 = 1 then -(m / 2 : Nat) - 1 else (m / 2 : Nat)
theorem zag_zig (n : Int) : zag (zig n) = n := by
  unfold zag zig
  split <;> split <;> omega
theorem zig_zag (m : Nat) : zig (zag m) = m := by
  unfold zag zig
  split <;> split <;> omega
theorem zig_inj {a b : Int} (h : zig a = zig b) : a = b := by rw [← zag_zig a, h, zag_zig]

/-- What stands at the head of bytes: the number without sign, and how many bytes it takes; i: how many groups came before. -/
def dec : Nat → List UInt8 → Option (Nat × Nat)
  | _, [] => none
  | i, c :: t =>
    if i = 9 ∧ 1 < c.toNat then none
    else if 128 ≤ c.toNat then (dec (i + 1) t).map fun x => (c.toNat % 128 + 128 * x.1, x.2 + 1)
    else if c.toNat = 0 ∧ 0 < i then none
    else some (c.toNat, 1)

def room (i : Nat) : Nat := 2 ^ (64 - 7 * i)
theorem room_next {i : Nat} (h : i < 9) : room i = 128 * room (i + 1) := by
  unfold room
  rw [show (128 : Nat) = 2 ^ 7 from rfl, ← Nat.pow_add]
  congr 1
  omega
theorem room_nine : room 9 = 2 := rfl
theorem room_big {i : Nat} (h : i < 9) : 128 ≤ room i := by
  rw [room_next h]
  have : 0 < room (i + 1) := Nat.pow_pos (by omega)
  omega

theorem dec_enc (m : Nat) : ∀ (i : Nat) (r : List UInt8), i ≤ 9 → m < room i → (0 < i → 0 < m) → dec i (enc m ++ r) = some (m, (enc m).length) := by
  induction m using enc.induct with
  | case1 m h =>
    intro i r hi hm hp
    rw [enc_small h]
    have e := by_nat m (by omega)
    show dec i (by_ m :: r) = _
    rw [dec, e, if_neg, if_neg (by omega), if_neg (by omega)]
    · rfl
    · rintro ⟨rfl, h1⟩
      rw [room_nine] at hm
      omega
  | case2 m h ih =>
    intro i r hi hm hp
    rw [enc_big h]
    have e := by_nat (m % 128 + 128) (by omega)
    have h9 : i < 9 := by
      rcases Nat.lt_or_ge i 9 with h9 | h9
      · exact h9
      · obtain rfl : i = 9 := by omega
        rw [room_nine] at hm
        omega
    have hr := room_next h9
    show dec i (by_ (m % 128 + 128) :: (enc (m / 128) ++ r)) = _
    rw [dec, e, if_neg (by omega), if_pos (by omega), ih (i + 1) r (by omega) (by omega) (by omega)]
    show some ((m % 128 + 128) % 128 + 128 * (m / 128), (enc (m / 128)).length + 1) = _
    rw [List.length_cons]
    congr 2
    omega

theorem dec_is : ∀ (l : List UInt8) (i m k : Nat), i ≤ 9 → dec i l = some (m, k) → l.take k = enc m ∧ 0 < k ∧ k ≤ l.length ∧ k + i ≤ 10 ∧ m < room i ∧ (0 < i → 0 < m)
  | [], i, m, k, _, h => by simp [dec] at h
  | c :: t, i, m, k, hi, h => by
    have hc := c.toNat_lt
    rw [dec] at h
    split at h
    · cases h
    · rename_i h1
      split at h
      · rename_i h2
        have h9 : i < 9 := by
          rcases Nat.lt_or_ge i 9 with h9 | h9
          · exact h9
          · exact absurd ⟨by omega, by omega⟩ h1
        obtain ⟨⟨m', k'⟩, hd, he⟩ := Option.map_eq_some_iff.1 h
        obtain ⟨e1, e2, e3, e4, e5, e6⟩ := dec_is t (i + 1) m' k' (by omega) hd
        simp only [Prod.mk.injEq] at he
        obtain ⟨rfl, rfl⟩ := he
        have hr := room_next h9
        have hp := e6 (by omega)
        refine ⟨?_, by omega, by simp only [List.length_cons]; omega, by omega, by omega, by omega⟩
        rw [List.take_succ_cons, e1, enc_big (m := c.toNat % 128 + 128 * m') (by omega)]
        congr 1
        · rw [show (c.toNat % 128 + 128 * m') % 128 + 128 = c.toNat by omega, by_of]
        · congr 1
          omega
      · rename_i h2
        split at h
        · cases h
        · rename_i h3
          simp only [Option.some.injEq, Prod.mk.injEq] at h
          obtain ⟨rfl, rfl⟩ := h
          refine ⟨?_, by omega, by simp, by omega, ?_, by omega⟩
          · rw [enc_small (by omega), by_of]; rfl
          · rcases Nat.lt_or_ge i 9 with h9 | h9
            · have := room_big h9; omega
            · obtain rfl : i = 9 := by omega
              rw [room_nine]; omega

theorem enc_pos (m : Nat) : 0 < (enc m).length := by
  rw [enc]; split <;> simp
theorem enc_le (m : Nat) (h : m < room 0) : (enc m).length ≤ 10 := by
  have := dec_is (enc m ++ []) 0 m _ (by omega) (dec_enc m 0 [] (by omega) h (by omega))
  omega

/-- Of two unlike numbers, one's bytes don't begin the other's. -/
theorem enc_begins {a b : Nat} (ha : a < room 0) (hb : b < room 0) (r s : List UInt8) (h : enc a ++ r = enc b ++ s) : a = b ∧ r = s := by
  have h1 := dec_enc a 0 r (by omega) ha (by omega)
  have h2 := dec_enc b 0 s (by omega) hb (by omega)
  rw [h, h2] at h1
  obtain ⟨rfl, _⟩ := Prod.mk.inj (Option.some.inj h1)
  exact ⟨rfl, List.append_cancel_left h⟩

/-- A number's bytes, sign and all. -/
def wint (n : Int) : List UInt8 := enc (zig n)
theorem zig_lt {n : Int} (h1 : -9223372036854775808 ≤ n) (h2 : n ≤ 9223372036854775807) : zig n < room 0 := by
  show zig n < 18446744073709551616
  unfold zig
  split <;> omega
theorem zag_in {m : Nat} (h : m < room 0) : -9223372036854775808 ≤ zag m ∧ zag m ≤ 9223372036854775807 := by
  have h' : m < 18446744073709551616 := h
  unfold zag
  split <;> omega

/-- A number that stands in bytes. -/
def geti (l : List UInt8) : Option (Int × Nat) := (dec 0 l).map fun x => (zag x.1, x.2)
theorem geti_wint {n : Int} (h1 : -9223372036854775808 ≤ n) (h2 : n ≤ 9223372036854775807) (r : List UInt8) : geti (wint n ++ r) = some (n, (wint n).length) := by
  unfold geti wint
  rw [dec_enc _ 0 r (by omega) (zig_lt h1 h2) (by omega)]
  simp [zag_zig]
theorem geti_is {l : List UInt8} {n : Int} {k : Nat} (h : geti l = some (n, k)) : l.take k = wint n ∧ 0 < k ∧ k ≤ l.length ∧ k ≤ 10 ∧ -9223372036854775808 ≤ n ∧ n ≤ 9223372036854775807 := by
  unfold geti at h
  obtain ⟨⟨m, k'⟩, hd, he⟩ := Option.map_eq_some_iff.1 h
  simp only [Prod.mk.injEq] at he
  obtain ⟨rfl, rfl⟩ := he
  obtain ⟨e1, e2, e3, e4, e5, _⟩ := dec_is l 0 m k' (by omega) hd
  have := zag_in e5
  refine ⟨?_, e2, e3, by omega, this.1, this.2⟩
  unfold wint
  rw [zig_zag]
  exact e1
theorem wint_pos (n : Int) : 0 < (wint n).length := enc_pos _
theorem wint_le {n : Int} (h1 : -9223372036854775808 ≤ n) (h2 : n ≤ 9223372036854775807) : (wint n).length ≤ 10 := enc_le _ (zig_lt h1 h2)
theorem wint_begins {a b : Int} (ha : -9223372036854775808 ≤ a ∧ a ≤ 9223372036854775807) (hb : -9223372036854775808 ≤ b ∧ b ≤ 9223372036854775807) {r s : List UInt8} (h : wint a ++ r = wint b ++ s) : a = b ∧ r = s := by
  obtain ⟨e1, e2⟩ := enc_begins (zig_lt ha.1 ha.2) (zig_lt hb.1 hb.2) r s h
  exact ⟨zig_inj e1, e2⟩

/-- A text's bytes. -/
def wtext (s : List UInt8) : List UInt8 := wint s.length ++ s

end Go.Proofs.Ythpbnjmhhkkkiaa
