/-
  frame.fromLow: the number that a row of bytes makes, the lowest first.
-/
import Derived.Test.YtoggdpkpfdilnaaFr2
namespace Go.Proofs.Ytoggdpkpfdilnaa
open Go.RowKit

theorem num_snoc : ∀ (l : List UInt8) (c : UInt8), num (l ++ [c]) = num l + c.toNat * 256 ^ l.length
  | [], c => by simp [num]
  | a :: t, c => by
    rw [List.cons_append, num, num, num_snoc t c, List.length_cons, Nat.pow_succ, Nat.mul_add, Nat.add_assoc]
    congr 1
    rw [Nat.mul_comm 256 (c.toNat * _), Nat.mul_assoc]
theorem pow256 (k : Nat) : 256 ^ k = 2 ^ (8 * k) := by rw [Nat.pow_mul]
theorem num_take (l : List UInt8) (k : Nat) (h : k < l.length) : num (l.take (k + 1)) = num (l.take k) + l[k].toNat * 2 ^ (8 * k) := by
  rw [take_next l k h, num_snoc, List.length_take, Nat.min_eq_left (Nat.le_of_lt h), pow256]
theorem num_below (l : List UInt8) (k : Nat) : num (l.take k) < 2 ^ (8 * k) := by
  rw [← pow256]
  refine Nat.lt_of_lt_of_le (num_lt _) (Nat.pow_le_pow_right (by omega) ?_)
  rw [List.length_take]; omega
theorem byte_put (c : UInt8) (k : Nat) (hk : k < 8) : c.toNat * 2 ^ (8 * k) < 18446744073709551616 := by
  have := c.toNat_lt
  have h2 : 2 ^ (8 * k) ≤ 2 ^ 56 := Nat.pow_le_pow_right (by omega) (by omega)
  calc c.toNat * 2 ^ (8 * k) ≤ 255 * 2 ^ 56 := Nat.mul_le_mul (by omega) h2
    _ < 18446744073709551616 := by decide
theorem orput (m x s : Nat) (hm : m < 2 ^ s) (hx : x * 2 ^ s < 18446744073709551616) (hm' : m < 18446744073709551616) : bits BinOp.or .u64 (m : Int) ((x * 2 ^ s : Nat) : Int) = ((m + x * 2 ^ s : Nat) : Int) := by
  rw [u64_or_nat _ _ hm' hx, Nat.or_comm, nat_join s (x * 2 ^ s) m (Nat.mul_mod_left _ _) hm, Nat.add_comm]

set_option maxRecDepth 10000 in
set_option maxHeartbeats 400000 in
theorem froml_any (A : Option Addr) (c : Nat) (l : List UInt8) (B : Nat) (w : World) (hA : At w B A c l) (hl : l.length ≤ 8) :
    Calls Try.prog 53 #[.slice A l.length c] w fun e w' => e = .returned (.int .u64 (num l : Int)) ∧ w = w' := by
  go_enter Try.func53, Try.ntmps53
  go_wp2_with fail
  go_loop [3, 8] (fun nv i => ∃ k : Nat, k ≤ l.length ∧ i = .int .i64 (k : Int) ∧ nv = .int .u64 (num (l.take k) : Int)) (fun _ i => l.length - (intOf i).toNat)
  case atStart => exact ⟨0, Nat.zero_le _, rfl, rfl⟩
  case round =>
    obtain ⟨k, hk, rfl, rfl⟩ := hrel
    by_cases hlt : k < l.length
    · obtain ⟨b, off, rfl, r1⟩ := hA.row (by omega)
      have e1 := r1 k hlt
      have hc8 := l[k].toNat_lt
      have HN := Lib.hid (num_take l k hlt)
      have HP : Hid (bits BinOp.or IntKind.u64 (num (l.take k) : Int) (IntKind.u64.wrap ((l[k].toNat : Int) * 2 ^ (8 * k))) = ((num (l.take k) + l[k].toNat * 2 ^ (8 * k) : Nat) : Int)) := by
        have hx := byte_put l[k] k (by omega)
        have hm := num_below l k
        have h2 : 2 ^ (8 * k) ≤ 2 ^ 64 := Nat.pow_le_pow_right (by omega) (by omega)
        show bits BinOp.or IntKind.u64 (num (l.take k) : Int) (IntKind.u64.wrap ((l[k].toNat : Int) * 2 ^ (8 * k))) = _
        rw [show ((2 : Int) ^ (8 * k)) = ((2 ^ (8 * k) : Nat) : Int) by rw [Int.natCast_pow]; rfl, ← Int.natCast_mul, wrap64_is, show (((l[k].toNat * 2 ^ (8 * k) : Nat) : Int) % 18446744073709551616) = ((l[k].toNat * 2 ^ (8 * k) : Nat) : Int) by omega, orput _ _ _ hm hx (by omega)]
      clear r1 hA
      go_wp2
      go_round
      case rel => exact ⟨k + 1, by omega, by go_num, by rw [HN.out, HP.out]⟩
      case measure => simp [intOf]; omega
    · obtain rfl : k = l.length := by omega
      go_wp2
      go_ret
      exact ⟨rfl, rfl⟩

end Go.Proofs.Ytoggdpkpfdilnaa
