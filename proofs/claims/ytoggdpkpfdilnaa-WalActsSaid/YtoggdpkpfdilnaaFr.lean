/-
  The document's own functions of frames: the lowest bytes of a number; a record's frame.
-/
import Derived.Test.YtoggdpkpfdilnaaFm
import Derived.Test.YtoggdpkpfdilnaaSame
import Derived.Test.YtoggdpkpfdilnaaRsum
namespace Go.Proofs.Ytoggdpkpfdilnaa
open Go.RowKit

theorem lowb_next (k n m : Nat) (hm : m = n / 256 ^ k) : lowb (k + 1) n = lowb k n ++ [by_ (m % 256)] := by rw [lowb_snoc, hm]
theorem div_next (k n m : Nat) (hm : m = n / 256 ^ k) : m / 256 = n / 256 ^ (k + 1) := by rw [hm, Nat.div_div_eq_div_mul, Nat.pow_succ]
theorem rem256 (m : Nat) : (m : Int) % 256 = ((by_ (m % 256)).toNat : Int) := by rw [by_nat _ (by omega)]; omega

set_option maxRecDepth 10000 in
set_option maxHeartbeats 400000 in
theorem low_any (n c : Nat) (w : World) (hn : n < 18446744073709551616) (hc : c ≤ 8) :
    Calls Try.prog 50 #[.int .u64 (n : Int), .int .i64 (c : Int)] w (Gives w.heap.size (lowb c n) w) := by
  obtain ⟨i0, hi0, hz0, hz1, hz2⟩ := info_parts byte_info
  go_enter Try.func50, Try.ntmps50
  go_wp2_with fail
  go_loopw [0, 5, 6] (fun mv v i wr => ∃ k m : Nat, k ≤ c ∧ i = .int .i64 (k : Int) ∧ mv = .int .u64 (m : Int) ∧ m = n / 256 ^ k ∧ m < 18446744073709551616 ∧ Room wr w.heap.size v (lowb k n) ∧ Below w.heap.size w wr) (fun _ _ i _ => c - (intOf i).toNat)
  case atStart => exact ⟨0, n, Nat.zero_le _, rfl, rfl, by simp, hn, Room.nil, Below.refl _ _⟩
  case round =>
    obtain ⟨k, m, hk, rfl, rfl, hm, hm64, hr', hb'⟩ := hrel
    have HN := Lib.hid (lowb_next k n m hm)
    have HD := Lib.hid (div_next k n m hm)
    have HM := Lib.hid hm
    have hll := lowb_length k n
    have hpl : (lowb k n).length + 1 ≤ 1099511627776 := by omega
    clear hm hll
    by_cases hlt : k < c
    · have hin := rem256 m
      go_wp2_with (at_builtin; refine wpList_append8 (B := w.heap.size) (l := lowb k n) (m := [by_ (m % 256)]) rfl (.tmp 12) (.tmp 16) 28 28 rfl 5 i0 Try.underlying28 hi0 hz0 hz1 hz2 (hr'.on (Below.alloc (Below.refl _ _) (Nat.le_refl _) _)) (by have := hb'.size; simp; omega) (src_one _ (by_ (m % 256)) Try.underlying28) hpl rfl rfl ?_; intro v' w' hr2 hb2)
      go_roundw
      case rel => exact ⟨k + 1, m / 256, by omega, by go_num, by go_num, HD.out, by omega, by rw [HN.out]; exact hr2, hb'.trans ((Below.alloc (Below.refl _ _) hb'.size _).trans hb2)⟩
      case measure => simp [intOf]; omega
    · obtain rfl : k = c := by omega
      go_wp2
      go_ret
      exact ⟨_, rfl, hr', hb'⟩

end Go.Proofs.Ytoggdpkpfdilnaa
