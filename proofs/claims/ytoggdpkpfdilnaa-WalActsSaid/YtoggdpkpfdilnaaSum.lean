/-
  What hash.Sum and the document's own functions answer: FNV-1a.
-/
import Derived.Test.YtoggdpkpfdilnaaRows
import Derived.Test.YtoggdpkpfdilnaaFnv
import Derived.WalkKit
import Derived.WalkSpells
import Derived.WalkLawsBesides
import Derived.LoopTactic
import Derived.Lib.Hide
import Derived.Outline
namespace Go.Proofs.Ytoggdpkpfdilnaa
open Go.RowKit

theorem take_snoc (s : ByteArray) (k : Nat) (h : k < s.size) : s.data.toList.take (k + 1) = s.data.toList.take k ++ [s[k]] := by
  rw [List.take_succ_eq_append_getElem (by simpa using h)]; rfl

theorem fnv_next (s : ByteArray) (k : Nat) (h : k < s.size) : fnv (s.data.toList.take (k + 1)) = step (fnv (s.data.toList.take k)) s[k].toNat := by
  rw [take_snoc s k h, fnv_snoc]
theorem fnv_nil : ((fnv [] : Nat) : Int) = 14695981039346656037 := by decide

theorem u64_byte (c : UInt8) : IntKind.u64.wrap (c.toNat : Int) = (c.toNat : Int) := by
  have := c.toNat_lt
  rw [IntKind.wrap_u64]; omega
theorem wrap_nat (n : Nat) : IntKind.u64.wrap (n : Int) = ((n % M : Nat) : Int) := by
  rw [IntKind.wrap_u64]; unfold M; omega
theorem xorI {a b : Nat} (ha : a < M) (hb : b < M) : bits .xor .u64 (a : Int) (b : Int) = ((a ^^^ b : Nat) : Int) := bits_xor_u64_nat a b ha hb
theorem stepI (h : Nat) (c : UInt8) (hh : h < M) : IntKind.u64.wrap (bits BinOp.xor .u64 (h : Int) (IntKind.u64.wrap (c.toNat : Int)) * 1099511628211) = ((step h c.toNat : Nat) : Int) := by
  rw [u64_byte, xorI hh (byte_lt c), show (1099511628211 : Int) = ((P : Nat) : Int) from rfl, ← Int.natCast_mul, wrap_nat]
  rfl

theorem sum_any (s : ByteArray) (w : World) (hs : s.size ≤ maxLen) :
    Calls Try.prog 42 #[.string s] w fun e w' => e = .returned (.int .u64 (fnv s.data.toList : Nat)) ∧ w = w' := by
  unfold maxLen at hs
  go_enter Try.func42, Try.ntmps42
  go_wp2
  go_loop [3, 7] (fun h i => ∃ k : Nat, k ≤ s.size ∧ i = .int .i64 k ∧ h = .int .u64 (fnv (s.data.toList.take k) : Nat)) (fun _ i => s.size - (intOf i).toNat)
  case atStart => exact ⟨0, Nat.zero_le _, rfl, by rw [List.take_zero, fnv_nil]⟩
  case round =>
    obtain ⟨k, hk, rfl, rfl⟩ := hrel
    by_cases hlt : k < s.size
    · have HS := Lib.hid (fnv_next s k hlt)
      go_wp2
      go_round
      case rel => exact ⟨k + 1, by omega, by go_num, by rw [HS.out, stepI _ _ (fnv_lt _)]⟩
      case measure => simp [intOf]; omega
    · go_wp2
      go_ret
      exact ⟨by rw [List.take_of_length_le (by simp; omega)]; rfl, rfl⟩

end Go.Proofs.Ytoggdpkpfdilnaa
