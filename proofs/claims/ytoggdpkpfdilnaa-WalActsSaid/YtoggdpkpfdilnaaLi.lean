/-
  The document's own Row: frames of what is held.
-/
import Derived.Test.YtoggdpkpfdilnaaLg
namespace Go.Proofs.Ytoggdpkpfdilnaa
open Go.RowKit
attribute [local go_sem ↓] Go.wp_at_zero Go.wp_at_succ

set_option maxRecDepth 100000 in
set_option maxHeartbeats 400000 in
theorem row_is (w : World) (hp hr : Value) (sf : Int) (p : List UInt8) (rs : List (List UInt8)) (h1 : Seen w w.heap.size hp p) (h2 : Many w hr rs) (hpl : p.length ≤ 524288) (hf : rs.length ≤ 1000000) (hl : ∀ r ∈ rs, r.length ≤ 524288) :
    Calls Try.prog 17 #[.agg #[hp, hr, .int .i64 sf]] w fun e w' => ∃ v, e = .returned v ∧ Seen w' w'.heap.size v (frames (p :: rs)) ∧ Below w.heap.size w w' := by
  obtain ⟨i0, hi0, hz0, hz1, hz2⟩ := info_parts byte_info
  obtain ⟨w1, hw1⟩ : ∃ x, x = w.alloc (.cells #[hp, hr, .int .i64 sf] 34) := ⟨_, rfl⟩
  have b1 : Below w.heap.size w w1 := by rw [hw1]; exact bal _ _
  have x1 : BoxF w.heap.size [hp, hr, .int .i64 sf] w1 := by rw [hw1]; exact boxF_made _ _ _
  have RF := Lib.hid (refframe_any hp p w1 (h1.on b1) (by omega))
  have HX := Lib.hid x1
  have HB1 := Lib.hid b1
  have HM := Lib.hid (h2.on b1)
  have HLR := Lib.hid hl
  have HPL : Hid ((frame p).length ≤ 524300) := by show (frame p).length ≤ _; rw [frame_length]; omega
  have H2 := Lib.hid h2
  obtain ⟨A1, c1, rfl, _⟩ := h1
  obtain ⟨A, c, rfl, hA⟩ := h2
  rw [hw1] at RF
  clear b1 x1 hl hA
  go_enter Try.func17, Try.ntmps17
  go_wp2_with fail
  go_at_call 35
  refine (RF.out).mono ?_
  rw [← hw1]
  rintro e w2 ⟨v2, rfl, hr2, hb2⟩
  obtain ⟨A2, c2, rfl, _⟩ := hr2.cut
  have HR2 := Lib.hid hr2
  have HB2 := Lib.hid hb2
  clear hr2 hb2
  go_wp2
  go_loopw [3, 4] (fun o i wr => ∃ k : Nat, k ≤ rs.length ∧ i = .int .i64 (k : Int) ∧ Room wr w1.heap.size o (frames (p :: rs.take k)) ∧ (frames (p :: rs.take k)).length ≤ 524300 * (k + 1) ∧ Below w1.heap.size w1 wr) (fun _ i _ => rs.length - (intOf i).toNat)
  case atStart =>
    have hfr : frames (p :: rs.take 0) = frame p := by simp [frames]
    exact ⟨0, Nat.zero_le _, rfl, by rw [hfr]; exact HR2.out, by rw [hfr]; have := HPL.out; omega, HB2.out⟩
  case round =>
    obtain ⟨k, hk, rfl, hr, hlen, hb⟩ := hrel
    have hx := HX.out.on hb
    have e1 := hx.get 1 rfl
    by_cases hlt : k < rs.length
    · obtain ⟨A', c', hAe, hA⟩ := HM.out.on hb
      injection hAe with q1 _ q2
      subst q1 q2
      obtain ⟨b, off, u, rfl, hbw, hcell, hsee⟩ := hA.at_ k hlt
      have HT := Lib.hid (show frames (p :: rs.take (k + 1)) = frames (p :: rs.take k) ++ frame rs[k] by rw [takeM rs k hlt, ← List.cons_append, frames_snoc])
      have hrk := HLR.out _ (List.getElem_mem hlt)
      have hfl : (frame rs[k]).length ≤ 524300 := by rw [frame_length]; omega
      have P1 : (frames (p :: rs.take k)).length + (frame rs[k]).length ≤ 1099511627776 := by omega
      have i0' : (0 : Int) ≤ (k : Int) := by omega
      have i1 : (k : Int) < (rs.length : Int) := by omega
      have FR := Lib.hid (refframe_any u rs[k] wr hsee (by omega))
      obtain ⟨Au, cu, rfl, _⟩ := hsee
      clear hA
      go_wp2_with (first
        | (go_at_call 35; (with_reducible refine FR.out.mono ?_); rintro e w3 ⟨v3, rfl, hr3, hb3⟩)
        | (at_builtin; refine wpList_append8 (B := w1.heap.size) (l := frames (p :: rs.take k)) (m := frame rs[k]) rfl (.tmp 15) (.tmp 21) 28 28 rfl 5 i0 Try.underlying28 hi0 hz0 hz1 hz2 (hr.on hb3) (Nat.le_trans hb.size hb3.size) (hr3.seen.src Try.underlying28) P1 rfl rfl ?_; intro v4 w4 hr4 hb4))
      go_roundw
      case rel => exact ⟨k + 1, by omega, by go_num, by rw [HT.out]; exact hr4, by rw [HT.out, List.length_append]; omega, hb.trans ((hb3.mono hb.size).trans hb4)⟩
      case measure => simp [intOf]; omega
    · have hkl : Hid (rs.take k = rs) := List.take_of_length_le (by omega)
      go_wp2
      go_ret
      exact ⟨_, rfl, by rw [hkl.out] at hr; exact hr.seen, HB1.out.trans (hb.mono HB1.out.size)⟩

end Go.Proofs.Ytoggdpkpfdilnaa
