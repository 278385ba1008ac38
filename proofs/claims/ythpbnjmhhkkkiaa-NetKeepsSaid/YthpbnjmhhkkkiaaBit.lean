/-
  Bits of the program's numbers, as sums and remainders.
-/
import Derived.Test.YthpbnjmhhkkkiaaWm
import Derived.WalkKit
import Derived.Laws.BitsAllLaws
namespace Go.Proofs.Ythpbnjmhhkkkiaa
open Go.RowKit

theorem ret_int {k : IntKind} {a b : Int} (h : a = b) : Ending.returned (.int k a) = .returned (.int k b) := by rw [h]
theorem ret_bool {a b : Bool} (h : a = b) : Ending.returned (.bool a) = .returned (.bool b) := by rw [h]
theorem wrap64_is (n : Int) : IntKind.u64.wrap n = n % 18446744073709551616 := by simp [IntKind.wrap, IntKind.bits, IntKind.signed]
theorem wrap8_is (n : Int) : IntKind.u8.wrap n = n % 256 := by simp [IntKind.wrap, IntKind.bits, IntKind.signed]
theorem max64_is : IntKind.u64.max = ((18446744073709551615 : Nat) : Int) := rfl

theorem nat_not64 (a : Nat) (h : a < 18446744073709551616) : 18446744073709551615 ^^^ a = 18446744073709551615 - a := by
  have e := congrArg BitVec.toNat (BitVec.allOnes_xor (x := BitVec.ofNat 64 a))
  rw [BitVec.toNat_xor, BitVec.toNat_not, BitVec.toNat_ofNat, BitVec.toNat_allOnes] at e
  rw [Nat.mod_eq_of_lt (by simpa using h)] at e
  simpa using e
theorem not64 (a : Nat) (h : a < 18446744073709551616) : bits BinOp.xor .u64 IntKind.u64.max (a : Int) = ((18446744073709551615 - a : Nat) : Int) := by
  rw [max64_is, u64_xor_nat _ _ (by omega) h, nat_not64 a h]
theorem and1 (m : Nat) (h : m < 18446744073709551616) : bits BinOp.and .u64 (m : Int) 1 = ((m % 2 : Nat) : Int) := by
  rw [show (1 : Int) = ((1 : Nat) : Int) from rfl, u64_and_nat _ _ h (by omega), nat_mask1]
theorem nat_or128 : ∀ x : Fin 256, x.val ||| 128 = x.val % 128 + 128 := by decide +kernel
theorem or128 (m : Nat) : bits BinOp.or .u8 (IntKind.u8.wrap (m : Int)) 128 = ((by_ (m % 128 + 128)).toNat : Int) := by
  rw [wrap8_is, show ((m : Int) % 256) = ((m % 256 : Nat) : Int) by omega, show (128 : Int) = ((128 : Nat) : Int) from rfl, u8_or_nat _ _ (by omega) (by omega), nat_or128 ⟨m % 256, by omega⟩, by_nat _ (by omega)]
  show (((m % 256 % 128 + 128 : Nat)) : Int) = _
  congr 1
  omega
theorem or128m (m : Nat) : bits BinOp.or .u8 ((m : Int) % 256) 128 = ((by_ (m % 128 + 128)).toNat : Int) := by rw [← wrap8_is, or128]
theorem low8 (m : Nat) (h : m < 128) : IntKind.u8.wrap (m : Int) = ((by_ m).toNat : Int) := by
  rw [wrap8_is, by_nat _ (by omega)]; omega
theorem andNot128 (c : UInt8) : bits BinOp.andNot .u8 (c.toNat : Int) 128 = ((c.toNat % 128 : Nat) : Int) := by
  have := c.toNat_lt
  rw [show (128 : Int) = ((128 : Nat) : Int) from rfl, u8_andNot_nat _ _ (by omega) (by omega), nat_mask7]

theorem fold_neg (n : Int) (h1 : -9223372036854775808 ≤ n) (h0 : n < 0) :
    bits BinOp.xor IntKind.u64 IntKind.u64.max (IntKind.u64.wrap (IntKind.u64.wrap n * 2)) = (zig n : Nat) := by
  obtain ⟨a, ha⟩ : ∃ a : Nat, IntKind.u64.wrap (IntKind.u64.wrap n * 2) = (a : Int) := ⟨(IntKind.u64.wrap (IntKind.u64.wrap n * 2)).toNat, by rw [wrap64_is]; omega⟩
  rw [ha]
  rw [wrap64_is, wrap64_is] at ha
  rw [not64 a (by omega)]
  unfold zig
  rw [if_pos h0]
  omega
theorem zig_pos (n : Int) (h0 : ¬ n < 0) : n * 2 = (zig n : Nat) := by
  unfold zig; rw [if_neg h0]; omega
theorem unfold_odd (m : Nat) (h : m < 18446744073709551616) (h1 : m % 2 = 1) : wrap64 (bits BinOp.xor IntKind.u64 IntKind.u64.max ((m : Int) / 2)) = zag m := by
  rw [show ((m : Int) / 2) = ((m / 2 : Nat) : Int) by omega, not64 _ (by omega)]
  unfold wrap64 zag
  rw [if_pos h1]
  omega
theorem unfold_even (m : Nat) (h1 : ¬ m % 2 = 1) : ((m : Int) / 2) = zag m := by
  unfold zag; rw [if_neg h1]; omega

end Go.Proofs.Ythpbnjmhhkkkiaa
