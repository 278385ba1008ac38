/-
  Records' frames in a row, in memory of the call's own; a frame that has turned in one byte.
-/
import Derived.Test.YtakgkhfakjfodaaTn
namespace Go.Proofs.Ytakgkhfakjfodaa
open Go.RowKit

theorem set_parts (l : List UInt8) (k : Nat) (hk : k < l.length) (d : UInt8) : l = l.take k ++ l[k] :: l.drop (k + 1) ∧ l.set k d = l.take k ++ d :: l.drop (k + 1) := by
  refine ⟨?_, ?_⟩
  · rw [← List.drop_eq_getElem_cons hk, List.take_append_drop]
  · rw [List.set_eq_take_append_cons_drop, if_pos hk]
theorem frame_set (l : List UInt8) (k : Nat) (hk : k < l.length) (d : UInt8) (hne : l[k] ≠ d) (h : l.length ≤ 16777216) : first ((frame l).set (12 + k) d) = none := by
  obtain ⟨e1, e2⟩ := set_parts l k hk d
  have := first_spoilt (l.take k) (l.drop (k + 1)) l[k] d [] hne (by rw [← e1]; exact h)
  rw [← e1, ← e2, List.append_nil] at this
  have e3 : (frame l).set (12 + k) d = lowb 4 l.length ++ (lowb 8 (fnv (lowb 4 l.length ++ l)) ++ l.set k d) := by
    unfold frame
    rw [List.set_append_right _ _ (by rw [lowb_length]; omega), List.set_append_right _ _ (by rw [lowb_length, lowb_length]; omega), lowb_length, lowb_length, show 12 + k - 4 - 8 = k by omega]
  rw [e3]
  exact this
theorem scan_spoilt (init : List (List UInt8)) (r : List UInt8) (k : Nat) (hk : k < r.length) (d : UInt8) (hne : r[k] ≠ d) (hf : Fit (init ++ [r])) :
    scan ((frames (init ++ [r])).set ((frames init).length + (12 + k)) d) = (init, (frames init).length) := by
  rw [frames_snoc, List.set_append_right _ _ (by omega), show (frames init).length + (12 + k) - (frames init).length = 12 + k by omega, scan_frames _ _ (fun x hx => hf x (by simp [hx])),
    scan_none (frame_set r k hk d hne (hf r (by simp)))]
  simp
theorem spoilt_get (init : List (List UInt8)) (r : List UInt8) (k : Nat) (hk : k < r.length) : (frames (init ++ [r]))[(frames init).length + (12 + k)]? = some r[k] := by
  have e : frame r = (lowb 4 r.length ++ lowb 8 (fnv (lowb 4 r.length ++ r))) ++ r := by unfold frame; rw [List.append_assoc]
  rw [frames_snoc, List.getElem?_append_right (by omega), show (frames init).length + (12 + k) - (frames init).length = 12 + k by omega, e, List.getElem?_append_right (by rw [List.length_append, lowb_length, lowb_length]; omega), List.length_append, lowb_length, lowb_length, show 12 + k - (4 + 8) = k by omega]
  exact List.getElem?_eq_getElem hk
theorem xor_ne (c d : UInt8) (h : d.toNat ≠ 0) : c ≠ c ^^^ d := by
  intro e
  apply h
  have e' := congrArg (c ^^^ ·) e
  simp only [← UInt8.xor_assoc, UInt8.xor_self, UInt8.zero_xor] at e'
  rw [← e']; rfl
theorem xor_is (c d : UInt8) : bits BinOp.xor .u8 (c.toNat : Int) (d.toNat : Int) = (((c ^^^ d).toNat : Nat) : Int) := by
  have := c.toNat_lt
  have := d.toNat_lt
  rw [u8_xor_nat _ _ (by omega) (by omega), UInt8.toNat_xor]

set_option maxRecDepth 10000 in
set_option maxHeartbeats 400000 in
theorem row_own (v : Value) (ls : List (List UInt8)) (w : World) (hv : Many w v ls) (hf : ls.length ≤ 1048576) (hl : ∀ r ∈ ls, r.length ≤ 524288) :
    Calls Try.prog 17 #[v] w fun e w' => ∃ v', e = .returned v' ∧ Room w' w.heap.size v' (frames ls) ∧ Below w.heap.size w w' ∧ Own w.heap.size v' := by
  obtain ⟨i0, hi0, hz0, hz1, hz2⟩ := info_parts byte_info
  have HM := Lib.hid hv
  obtain ⟨A, c, rfl, hA⟩ := hv
  have HA := Lib.hid hA
  have HLR := Lib.hid hl
  clear hA hl
  go_enter Try.func17, Try.ntmps17
  go_wp2
  go_loopw [3, 4] (fun o i wr => ∃ k : Nat, k ≤ ls.length ∧ i = .int .i64 (k : Int) ∧ Room wr w.heap.size o (frames (ls.take k)) ∧ (frames (ls.take k)).length ≤ 524300 * k ∧ Below w.heap.size w wr ∧ Own w.heap.size o) (fun _ i _ => ls.length - (intOf i).toNat)
  case atStart => exact ⟨0, Nat.zero_le _, rfl, Room.nil, by simp [frames], Below.refl _ _, (fun g h => by cases h)⟩
  case round =>
    obtain ⟨k, hk, rfl, hr, hlen, hb, ho⟩ := hrel
    by_cases hlt : k < ls.length
    · obtain ⟨b, off, u, rfl, hbw, hcell, hsee⟩ := (HA.out.on hb).at_ k hlt
      have HT := Lib.hid (show frames (ls.take (k + 1)) = frames (ls.take k) ++ frame ls[k] by rw [takeM ls k hlt, frames_snoc])
      have hrk := HLR.out _ (List.getElem_mem hlt)
      have hfl : (frame ls[k]).length ≤ 524300 := by rw [frame_length]; omega
      have P1 : (frames (ls.take k)).length + (frame ls[k]).length ≤ 1099511627776 := by omega
      have i0' : (0 : Int) ≤ (k : Int) := by omega
      have i1 : (k : Int) < (ls.length : Int) := by omega
      have FR := Lib.hid (refframe_any u ls[k] wr hsee (by omega))
      clear hsee
      go_wp2_with (first
        | (go_at_call 12; (with_reducible refine FR.out.mono ?_); rintro e w1 ⟨v1, rfl, hr1, hb1⟩)
        | (at_builtin; refine wpList_append8k (B := w.heap.size) (l := frames (ls.take k)) (m := frame ls[k]) rfl (.tmp 11) (.tmp 16) 22 22 rfl 5 i0 Try.underlying22 hi0 hz0 hz1 hz2 (hr.on hb1) (Nat.le_trans hb.size hb1.size) (hr1.seen.src Try.underlying22) P1 rfl rfl ?_; intro v2 w2 hr2 hb2 ho2 hq2))
      go_roundw
      case rel => exact ⟨k + 1, by omega, by go_num, by rw [HT.out]; exact hr2, by rw [HT.out, List.length_append]; omega, hb.trans ((hb1.mono hb.size).trans hb2), own_step ho (Nat.le_trans hb.size hb1.size) ho2⟩
      case measure => simp [intOf]; omega
    · have hkl : Hid (ls.take k = ls) := List.take_of_length_le (by omega)
      go_wp2
      go_ret
      exact ⟨_, rfl, by rw [hkl.out] at hr; exact hr, hb, ho⟩

end Go.Proofs.Ytakgkhfakjfodaa
