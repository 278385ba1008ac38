/-
  What the document's own functions answer: the product modulo 2^64, the sum, the shard; and hash.Shard.
-/
import Derived.Test.YtoggdpkpfdilnaaSum
namespace Go.Proofs.Ytoggdpkpfdilnaa
open Go.RowKit

theorem times_step1 {a b o t : Nat} (h : (o + a * b) % M = t) (hb : b % 2 = 1) : ((o + a) % M + (a + a) % M * (b / 2)) % M = t := by
  have e : b = 2 * (b / 2) + 1 := by omega
  rw [← h, Nat.mod_add_mod, ← Nat.add_mod_mod, Nat.mod_mul_mod, Nat.add_mod_mod]
  congr 1
  conv => rhs; rw [e]
  rw [Nat.mul_add, Nat.mul_one, ← Nat.two_mul, Nat.mul_comm 2 a, Nat.mul_assoc]
  omega
theorem times_step0 {a b o t : Nat} (h : (o + a * b) % M = t) (hb : b % 2 = 0) : (o + (a + a) % M * (b / 2)) % M = t := by
  have e : b = 2 * (b / 2) := by omega
  rw [← h, ← Nat.add_mod_mod, Nat.mod_mul_mod, Nat.add_mod_mod]
  congr 1
  conv => rhs; rw [e]
  rw [← Nat.two_mul, Nat.mul_comm 2 a, Nat.mul_assoc]

def TimesRel (t : Nat) (a b o : Value) : Prop := ∃ A B O : Nat, A < M ∧ O < M ∧ B < M ∧ (O + A * B) % M = t ∧ a = .int .u64 (A : Nat) ∧ b = .int .u64 (B : Nat) ∧ o = .int .u64 (O : Nat)

theorem addI (a b : Nat) : IntKind.u64.wrap ((a : Int) + (b : Int)) = (((a + b) % M : Nat) : Int) := by
  rw [← Int.natCast_add, wrap_nat]
theorem half {B : Nat} (h : B < M) : IntKind.u64.wrap ((B : Int) / 2) = ((B / 2 : Nat) : Int) := by
  rw [show ((B : Int) / 2) = ((B / 2 : Nat) : Int) from rfl, wrap_nat, Nat.mod_eq_of_lt (Nat.lt_of_le_of_lt (Nat.div_le_self _ _) h)]
theorem rel_odd {t A B O : Nat} (hB : B < M) (h : (O + A * B) % M = t) (h2 : B % 2 = 1) :
    TimesRel t (.int .u64 (IntKind.u64.wrap ((A : Int) + (A : Int)))) (.int .u64 (IntKind.u64.wrap ((B : Int) / 2))) (.int .u64 (IntKind.u64.wrap ((O : Int) + (A : Int)))) :=
  ⟨(A + A) % M, B / 2, (O + A) % M, Nat.mod_lt _ M_pos, Nat.mod_lt _ M_pos, by omega, times_step1 h h2, by rw [addI], by rw [half hB], by rw [addI]⟩
theorem rel_even {t A B O : Nat} (hO : O < M) (hB : B < M) (h : (O + A * B) % M = t) (h2 : B % 2 = 0) :
    TimesRel t (.int .u64 (IntKind.u64.wrap ((A : Int) + (A : Int)))) (.int .u64 (IntKind.u64.wrap ((B : Int) / 2))) (.int .u64 (O : Int)) :=
  ⟨(A + A) % M, B / 2, O, Nat.mod_lt _ M_pos, hO, by omega, times_step0 h h2, by rw [addI], by rw [half hB], rfl⟩
theorem ret_u64 {a b : Nat} (h : a = b) : Ending.returned (.int .u64 (a : Int)) = .returned (.int .u64 (b : Int)) := by rw [h]

theorem times_any (a b t : Nat) (w : World) (ha : a < M) (hb : b < M) (ht : a * b % M = t) :
    Calls Try.prog 54 #[.int .u64 (a : Nat), .int .u64 (b : Nat)] w fun e w' => e = .returned (.int .u64 (t : Int)) ∧ w = w' := by
  have HT := Lib.hid ht
  clear ht
  go_enter Try.func54, Try.ntmps54
  go_wp2
  go_loop [0, 1, 5] (fun x y o => TimesRel t x y o) (fun _ y _ => (intOf y).toNat)
  case atStart => exact ⟨a, b, 0, ha, M_pos, hb, by rw [Nat.zero_add, HT.out], rfl, rfl, rfl⟩
  case round =>
    obtain ⟨A, B, O, hA, hO, hB, ht, rfl, rfl, rfl⟩ := hrel
    have HT := Lib.hid ht
    have HH := Lib.hid (half hB)
    clear ht
    by_cases hz : 0 < B
    · by_cases h2 : B % 2 = 1
      · have R := Lib.hid (rel_odd hB HT.out h2)
        go_wp2
        go_round
        case rel => exact R.out
        case measure => simp only [intOf, HH.out]; omega
      · have R := Lib.hid (rel_even hO hB HT.out (by omega))
        go_wp2
        go_round
        case rel => exact R.out
        case measure => simp only [intOf, HH.out]; omega
    · go_wp2
      go_ret
      exact ⟨ret_u64 (by rw [← HT.out, show B = 0 from by omega, Nat.mul_zero, Nat.add_zero, Nat.mod_eq_of_lt hO]), rfl⟩

/-- the sum by the document's own way -/
theorem low_step {h : Nat} {c : UInt8} (hh : h < M) :
    IntKind.u64.wrap (IntKind.u64.wrap ((h : Int) - (h : Int) % 256) + bits BinOp.xor .u64 ((h : Int) % 256) (IntKind.u64.wrap (c.toNat : Int))) = ((h ^^^ c.toNat : Nat) : Int) := by
  have hc := c.toNat_lt
  have e1 : (h : Int) % 256 = ((h % 256 : Nat) : Int) := rfl
  have hl : h % 256 < M := Nat.lt_of_le_of_lt (Nat.mod_le _ _) hh
  have hx := xor_lt hh (byte_lt c)
  rw [u64_byte, e1, xorI hl (byte_lt c)]
  rw [xor_low h _ hc] at *
  have hle : h % 256 ≤ h := Nat.mod_le _ _
  have hle2 : h - h % 256 < M := by omega
  rw [← Int.natCast_sub hle, wrap_nat, Nat.mod_eq_of_lt hle2, ← Int.natCast_add, wrap_nat, Nat.mod_eq_of_lt hx]

theorem times_low (h : Nat) (c : UInt8) (w : World) (hh : h < M) :
    Calls Try.prog 54 #[.int .u64 (IntKind.u64.wrap (IntKind.u64.wrap ((h : Int) - (h : Int) % 256) + bits BinOp.xor .u64 ((h : Int) % 256) (IntKind.u64.wrap (c.toNat : Int)))), .int .u64 1099511628211] w fun e w' => e = .returned (.int .u64 (step h c.toNat : Nat)) ∧ w = w' := by
  rw [low_step hh]
  exact times_any _ P _ w (xor_lt hh (byte_lt c)) (by decide) rfl

theorem rsum_any (s : ByteArray) (w : World) (hs : s.size ≤ maxLen) :
    Calls Try.prog 51 #[.string s] w fun e w' => e = .returned (.int .u64 (fnv s.data.toList : Nat)) ∧ w = w' := by
  unfold maxLen at hs
  go_enter Try.func51, Try.ntmps51
  go_wp2
  go_loop [3, 4] (fun h i => ∃ k : Nat, k ≤ s.size ∧ i = .int .i64 k ∧ h = .int .u64 (fnv (s.data.toList.take k) : Nat)) (fun _ i => s.size - (intOf i).toNat)
  case atStart => exact ⟨0, Nat.zero_le _, rfl, by rw [List.take_zero, fnv_nil]⟩
  case round =>
    obtain ⟨k, hk, rfl, rfl⟩ := hrel
    by_cases hlt : k < s.size
    · have HS := Lib.hid (fnv_next s k hlt)
      have HL := Lib.hid (fnv_lt (s.data.toList.take k))
      go_wp2_with (go_at_call 54; refine (times_low _ _ _ HL.out).mono ?_; rintro e w' ⟨rfl, rfl⟩)
      go_round
      case rel => exact ⟨k + 1, by omega, by go_num, by rw [HS.out]⟩
      case measure => simp [intOf]; omega
    · go_wp2
      go_ret
      exact ⟨by rw [List.take_of_length_le (by simp; omega)]; rfl, rfl⟩

/-- a key's shard: the remainder by how many there are -/
def shard (l : List UInt8) (n : Int) : Int := (fnv l : Int) % n

end Go.Proofs.Ytoggdpkpfdilnaa
