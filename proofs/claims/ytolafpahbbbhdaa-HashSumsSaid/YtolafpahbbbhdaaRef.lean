/-
  What the document's own functions answer: the product modulo 2^64, the sum, the shard; and hash.Shard.
-/
import Derived.Test.YtolafpahbbbhdaaSum
namespace Go.Proofs.Ytolafpahbbbhdaa
open Go.RowKit

theorem times_step1 {a b o t : Nat} (h : (o + a * b) % M = t) (hb : b % 2 = 1) : ((o + a) % M + (a + a) % M * (b / 2)) % M = t := by
  have e : b = 2 * (b / 2) + 1 := by omega
  rw [← h, Nat.mod_add_mod, ← Nat.add_mod_mod, Nat.mod_mul_mod, Nat.add_mod_mod]
  congr 1
  conv => rhs; rw [e]
  rw [Nat.mul_add, Nat.mul_one, ← Nat.two_mul, Nat.mul_comm 2 a, Nat.mul_assoc]
  omega
theorem times_step0 {a b o t : Nat} (h : (o + a * b) % M = t) (hb : b % 2 = 0) : (o + (a + a) % M * (b / 2)) % M = t := by
  have e : b = 2 * (b / 2) := by omega
  rw [← h, ← Nat.add_mod_mod, Nat.mod_mul_mod, Nat.add_mod_mod]
  congr 1
  conv => rhs; rw [e]
  rw [← Nat.two_mul, Nat.mul_comm 2 a, Nat.mul_assoc]

def TimesRel (t : Nat) (a b o : Value) : Prop := ∃ A B O : Nat, A < M ∧ O < M ∧ B < M ∧ (O + A * B) % M = t ∧ a = .int .u64 (A : Nat) ∧ b = .int .u64 (B : Nat) ∧ o = .int .u64 (O : Nat)

theorem addI (a b : Nat) : IntKind.u64.wrap ((a : Int) + (b : Int)) = (((a + b) % M : Nat) : Int) := by
  rw [← Int.natCast_add, wrap_nat]
theorem half {B : Nat} (h : B < M) : IntKind.u64.wrap ((B : Int) / 2) = ((B / 2 : Nat) : Int) := by
  rw [show ((B : Int) / 2) = ((B / 2 : Nat) : Int) from rfl, wrap_nat, Nat.mod_eq_of_lt (Nat.lt_of_le_of_lt (Nat.div_le_self _ _) h)]
theorem rel_odd {t A B O : Nat} (hB : B < M) (h : (O + A * B) % M = t) (h2 : B % 2 = 1) :
    TimesRel t (.int .u64 (IntKind.u64.wrap ((A : Int) + (A : Int)))) (.int .u64 (IntKind.u64.wrap ((B : Int) / 2))) (.int .u64 (IntKind.u64.wrap ((O : Int) + (A : Int)))) :=
  ⟨(A + A) % M, B / 2, (O + A) % M, Nat.mod_lt _ M_pos, Nat.mod_lt _ M_pos, by omega, times_step1 h h2, by rw [addI], by rw [half hB], by rw [addI]⟩
theorem rel_even {t A B O : Nat} (hO : O < M) (hB : B < M) (h : (O + A * B) % M = t) (h2 : B % 2 = 0) :
    TimesRel t (.int .u64 (IntKind.u64.wrap ((A : Int) + (A : Int)))) (.int .u64 (IntKind.u64.wrap ((B : Int) / 2))) (.int .u64 (O : Int)) :=
  ⟨(A + A) % M, B / 2, O, Nat.mod_lt _ M_pos, hO, by omega, times_step0 h h2, by rw [addI], by rw [half hB], rfl⟩
theorem ret_u64 {a b : Nat} (h : a = b) : Ending.returned (.int .u64 (a : Int)) = .returned (.int .u64 (b : Int)) := by rw [h]

theorem times_any (a b t : Nat) (w : World) (ha : a < M) (hb : b < M) (ht : a * b % M = t) :
    Calls Try.prog 12 #[.int .u64 (a : Nat), .int .u64 (b : Nat)] w fun e w' => e = .returned (.int .u64 (t : Int)) ∧ w = w' := by
  have HT := Lib.hid ht
  clear ht
  go_enter Try.func12, Try.ntmps12
  go_wp2
  go_loop [0, 1, 5] (fun x y o => TimesRel t x y o) (fun _ y _ => (intOf y).toNat)
  case atStart => exact ⟨a, b, 0, ha, M_pos, hb, by rw [Nat.zero_add, HT.out], rfl, rfl, rfl⟩
  case round =>
    obtain ⟨A, B, O, hA, hO, hB, ht, rfl, rfl, rfl⟩ := hrel
    have HT := Lib.hid ht
    have HH := Lib.hid (half hB)
    clear ht
    by_cases hz : 0 < B
    · by_cases h2 : B % 2 = 1
      · have R := Lib.hid (rel_odd hB HT.out h2)
        go_wp2
        go_round
        case rel => exact R.out
        case measure => simp only [intOf, HH.out]; omega
      · have R := Lib.hid (rel_even hO hB HT.out (by omega))
        go_wp2
        go_round
        case rel => exact R.out
        case measure => simp only [intOf, HH.out]; omega
    · go_wp2
      go_ret
      exact ⟨ret_u64 (by rw [← HT.out, show B = 0 from by omega, Nat.mul_zero, Nat.add_zero, Nat.mod_eq_of_lt hO]), rfl⟩

/-- the sum by the document's own way -/
theorem low_step {h : Nat} {c : UInt8} (hh : h < M) :
    IntKind.u64.wrap (IntKind.u64.wrap ((h : Int) - (h : Int) % 256) + bits BinOp.xor .u64 ((h : Int) % 256) (IntKind.u64.wrap (c.toNat : Int))) = ((h ^^^ c.toNat : Nat) : Int) := by
  have hc := c.toNat_lt
  have e1 : (h : Int) % 256 = ((h % 256 : Nat) : Int) := rfl
  have hl : h % 256 < M := Nat.lt_of_le_of_lt (Nat.mod_le _ _) hh
  have hx := xor_lt hh (byte_lt c)
  rw [u64_byte, e1, xorI hl (byte_lt c)]
  rw [xor_low h _ hc] at *
  have hle : h % 256 ≤ h := Nat.mod_le _ _
  have hle2 : h - h % 256 < M := by omega
  rw [← Int.natCast_sub hle, wrap_nat, Nat.mod_eq_of_lt hle2, ← Int.natCast_add, wrap_nat, Nat.mod_eq_of_lt hx]

theorem times_low (h : Nat) (c : UInt8) (w : World) (hh : h < M) :
    Calls Try.prog 12 #[.int .u64 (IntKind.u64.wrap (IntKind.u64.wrap ((h : Int) - (h : Int) % 256) + bits BinOp.xor .u64 ((h : Int) % 256) (IntKind.u64.wrap (c.toNat : Int)))), .int .u64 1099511628211] w fun e w' => e = .returned (.int .u64 (step h c.toNat : Nat)) ∧ w = w' := by
  rw [low_step hh]
  exact times_any _ P _ w (xor_lt hh (byte_lt c)) (by decide) rfl

theorem rsum_any (s : ByteArray) (w : World) (hs : s.size ≤ maxLen) :
    Calls Try.prog 9 #[.string s] w fun e w' => e = .returned (.int .u64 (fnv s.data.toList : Nat)) ∧ w = w' := by
  unfold maxLen at hs
  go_enter Try.func9, Try.ntmps9
  go_wp2
  go_loop [3, 4] (fun h i => ∃ k : Nat, k ≤ s.size ∧ i = .int .i64 k ∧ h = .int .u64 (fnv (s.data.toList.take k) : Nat)) (fun _ i => s.size - (intOf i).toNat)
  case atStart => exact ⟨0, Nat.zero_le _, rfl, by rw [List.take_zero, fnv_nil]⟩
  case round =>
    obtain ⟨k, hk, rfl, rfl⟩ := hrel
    by_cases hlt : k < s.size
    · have HS := Lib.hid (fnv_next s k hlt)
      have HL := Lib.hid (fnv_lt (s.data.toList.take k))
      go_wp2_with (go_at_call 12; refine (times_low _ _ _ HL.out).mono ?_; rintro e w' ⟨rfl, rfl⟩)
      go_round
      case rel => exact ⟨k + 1, by omega, by go_num, by rw [HS.out]⟩
      case measure => simp [intOf]; omega
    · go_wp2
      go_ret
      exact ⟨by rw [List.take_of_length_le (by simp; omega)]; rfl, rfl⟩

/-- a key's shard: the remainder by how many there are -/
def shard (l : List UInt8) (n : Int) : Int := (fnv l : Int) % n

theorem ret_int {k : IntKind} {a b : Int} (h : a = b) : Ending.returned (.int k a) = .returned (.int k b) := by rw [h]
theorem shard_bd (l : List UInt8) {n : Int} (h1 : 1 ≤ n) : 0 ≤ shard l n ∧ shard l n < n := by
  unfold shard
  exact ⟨Int.emod_nonneg _ (by omega), Int.emod_lt_of_pos _ (by omega)⟩
theorem shard_wrap (l : List UInt8) {n : Int} (h1 : 1 ≤ n) (h2 : n ≤ 9223372036854775807) : wrap64 ((fnv l : Int) % n) = shard l n := by
  have := shard_bd l h1
  exact IntWalk.wrap64_in _ ⟨by unfold shard at this; omega, by unfold shard at this; omega⟩
theorem shard_far (l : List UInt8) {n : Int} (h1 : 1 ≤ n) (h2 : n ≤ 9223372036854775807) :
    wrap64 (IntKind.u64.wrap ((fnv l : Int) - IntKind.u64.wrap (IntKind.u64.wrap ((fnv l : Int) / n) * n))) = shard l n := by
  obtain ⟨m, rfl⟩ : ∃ m : Nat, n = (m : Int) := ⟨n.toNat, by omega⟩
  have hf := fnv_lt l
  have e1 : (fnv l : Int) / (m : Int) = ((fnv l / m : Nat) : Int) := rfl
  have q1 : fnv l / m < M := Nat.lt_of_le_of_lt (Nat.div_le_self _ _) hf
  have q2 : fnv l / m * m ≤ fnv l := Nat.div_mul_le_self _ _
  have q3 : fnv l / m * m < M := Nat.lt_of_le_of_lt q2 hf
  have q4 : fnv l - fnv l / m * m = fnv l % m := by
    have := Nat.div_add_mod (fnv l) m
    rw [Nat.mul_comm] at this
    omega
  have q5 : fnv l % m < M := Nat.lt_of_le_of_lt (Nat.mod_le _ _) hf
  rw [e1, wrap_nat, Nat.mod_eq_of_lt q1, ← Int.natCast_mul, wrap_nat, Nat.mod_eq_of_lt q3, ← Int.natCast_sub q2, q4, wrap_nat, Nat.mod_eq_of_lt q5]
  exact shard_wrap l h1 h2

theorem shard_any (s : ByteArray) (n : Int) (w : World) (hs : s.size ≤ maxLen) (h1 : 1 ≤ n) (h2 : n ≤ 9223372036854775807) :
    Calls Try.prog 10 #[.string s, .int .i64 n] w fun e w' => e = .returned (.int .i64 (shard s.data.toList n)) ∧ w = w' := by
  go_enter Try.func10, Try.ntmps10
  go_wp2_with (go_at_call 8; refine (sum_any _ _ hs).mono ?_; rintro e w' ⟨rfl, rfl⟩)
  go_ret
  exact ⟨ret_int (shard_wrap _ h1 h2), rfl⟩

theorem rshard_any (s : ByteArray) (n : Int) (w : World) (hs : s.size ≤ maxLen) (h1 : 1 ≤ n) (h2 : n ≤ 9223372036854775807) :
    Calls Try.prog 11 #[.string s, .int .i64 n] w fun e w' => e = .returned (.int .i64 (shard s.data.toList n)) ∧ w = w' := by
  go_enter Try.func11, Try.ntmps11
  go_wp2_with (go_at_call 9; refine (rsum_any _ _ hs).mono ?_; rintro e w' ⟨rfl, rfl⟩)
  go_ret
  exact ⟨ret_int (shard_far _ h1 h2), rfl⟩

theorem fnv_a : ((fnv [97] : Nat) : Int) = 12638187200555641996 := by decide +kernel
theorem sum_empty (w : World) : Calls Try.prog 8 #[.string ⟨#[]⟩] w fun e w' => e = .returned (.int .u64 14695981039346656037) ∧ w = w' := by
  have := sum_any ⟨#[]⟩ w (by decide)
  rw [← fnv_nil]
  exact this
theorem sum_a (w : World) : Calls Try.prog 8 #[.string ⟨#[97]⟩] w fun e w' => e = .returned (.int .u64 12638187200555641996) ∧ w = w' := by
  have := sum_any ⟨#[97]⟩ w (by decide)
  rw [← fnv_a]
  exact this
theorem awake_true (w : World) : Calls Try.prog 7 #[] w fun e w' => e = .returned (.bool true) ∧ w = w' := by
  go_enter Try.func7, Try.ntmps7
  go_wp2_with fail
  (go_at_call 8; refine (sum_empty _).mono ?_; rintro e w' ⟨rfl, rfl⟩)
  go_wp2_with fail
  (go_at_call 8; refine (sum_a _).mono ?_; rintro e w' ⟨rfl, rfl⟩)
  go_wp2_with fail
  go_ret
  exact ⟨rfl, rfl⟩

end Go.Proofs.Ytolafpahbbbhdaa
