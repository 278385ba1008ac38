/-
  FrameSpoilt's walk, given what frame.Scan comes to.
-/
import Derived.Test.YtakgkhfakjfodaaRo
namespace Go.Proofs.Ytakgkhfakjfodaa
open Go.RowKit
attribute [local go_sem ↓] Go.wp_at_zero Go.wp_at_succ

set_option maxRecDepth 100000 in
set_option maxHeartbeats 1000000 in
theorem spoilt_walk (AW : AwakeOk) (SC : ScanOk) (v : Value) (ls : List (List UInt8)) (cut : Nat) (d : UInt8) (w : World) (hv : Many w v ls) (hc : cut ≤ 65535) (hd : d.toNat ≠ 0) (hf : fewB ls = true) (n : Nat) (hn : ls.length = n + 1) :
    Calls Try.prog 7 #[v, .int .u16 (cut : Int), .int .u8 (d.toNat : Int)] w fun e w' => e = .returned (.bool true) ∧ Below w.heap.size w w' := by
  obtain ⟨f1, f2, f3⟩ := fewB_is hf
  have HM := Lib.hid hv
  have HAW := Lib.hid AW
  unfold ScanOk at SC
  have HSC := Lib.hid SC
  have HF := Lib.hid (fun w (h : Many w v ls) => few_any v ls w h)
  rw [hf] at HF
  have HF2 := Lib.hid f2
  have hfl : (frames ls).length ≤ 4000 := by rw [frames_len]; omega
  have HR := Lib.hid (fun w (h : Many w v ls) => row_own v ls w h (by omega) (fun r hr => by have := f2 r hr; omega))
  clear AW SC hf f2 f1 f3
  have HN := Lib.hid (show n < ls.length by omega)
  obtain ⟨r, hr⟩ : ∃ r, r = ls[n]'HN.out := ⟨_, rfl⟩
  obtain ⟨it, hit⟩ : ∃ it, it = ls.take n := ⟨_, rfl⟩
  have hls : ls = it ++ [r] := by rw [hit, hr, ← takeM ls n (by omega), List.take_of_length_le (by omega)]
  obtain ⟨A, c, rfl, hA⟩ := hv
  have hlc := hA.1
  have hcm := hA.2.1
  unfold maxLen at hcm
  have HA := Lib.hid hA
  clear hA
  have hlc' : ((ls.length : Nat) : Int) ≤ (c : Int) := by omega
  have hn1 : ((ls.length : Nat) : Int) - 1 = (n : Int) := by omega
  have n0 : (0 : Int) ≤ (n : Int) := by omega
  have n1 : ((ls.length : Int) == 0) = false := beq_false_of_ne (by omega)
  have n2 : (n : Int) < (ls.length : Int) := by omega
  have nc : (n : Int) ≤ (c : Int) := by omega
  have d0 : ((d.toNat : Int) == 0) = false := beq_false_of_ne (by omega)
  have HRE := Lib.hid hr
  have HIT := Lib.hid hit
  have HLS := Lib.hid hls
  clear hls hr hit hn
  by_cases hr0 : r.length = 0
  · have r0 : ((r.length : Int) == 0) = true := by rw [hr0]; rfl
    go_enter Try.func7, Try.ntmps7
    go_wp2_with fail
    (go_at_call 9; refine (HAW.out _).mono ?_; rintro e w0 ⟨rfl, hb0⟩)
    obtain ⟨b, off, u, rfl, hbw, hcell, A1, c1, rfl, _⟩ := (HA.out.on hb0).at_ n HN.out
    rw [← HRE.out] at hcell
    go_wp2_with fail
    (go_at_call 16; (with_reducible refine (HF.out _ (HM.out.on hb0)).mono ?_); rintro e w' ⟨rfl, rfl⟩)
    go_wp2
    go_ret
    exact ⟨rfl, hb0⟩
  · obtain ⟨m, hm⟩ : ∃ m, m = cut % r.length := ⟨_, rfl⟩
    have hmr : m < r.length := by rw [hm]; exact Nat.mod_lt _ (by omega)
    have hmi : (cut : Int) % (r.length : Int) = (m : Int) := by rw [hm, Int.natCast_emod]
    have HMR := Lib.hid hm
    clear hm
    obtain ⟨k, hk⟩ : ∃ k, k = r.length - 1 - m := ⟨_, rfl⟩
    have hkr : k < r.length := by omega
    obtain ⟨q, hq⟩ : ∃ q, q = (frames it).length + (12 + k) := ⟨_, rfl⟩
    obtain ⟨L, hL⟩ : ∃ L, L = frames ls := ⟨_, rfl⟩
    have hLl : L.length = (frames it).length + (12 + r.length) := by rw [hL, HLS.out, frames_snoc, List.length_append, frame_length]
    have hqL : q < L.length := by omega
    have hqi : (L.length : Int) - 1 - (m : Int) = (q : Int) := by omega
    have hfit : Fit (it ++ [r]) := by rw [← HLS.out]; intro x hx; have := HF2.out x hx; omega
    have hcq : L[q] = r[k] := by
      have h := spoilt_get it r k hkr
      rw [← HLS.out, ← hL, ← hq, List.getElem?_eq_getElem hqL] at h
      exact Option.some.inj h
    have hsc : Hid (scan (L.set q (L[q] ^^^ d)) = (it, (frames it).length)) := by
      show scan (L.set q (L[q] ^^^ d)) = (it, (frames it).length)
      rw [hcq]
      rw [hL, hq, HLS.out]
      exact scan_spoilt it r k hkr _ (xor_ne _ _ hd) hfit
    rw [← hL] at hfl HR
    have HX := Lib.hid (xor_is L[q] d)
    have q0 : (0 : Int) ≤ (q : Int) := by omega
    have q1 : (q : Int) < (L.length : Int) := by omega
    have r0 : ((r.length : Int) == 0) = false := beq_false_of_ne (by omega)
    clear hL hq hk hfit hcq hkr hLl
    go_enter Try.func7, Try.ntmps7
    go_wp2_with fail
    (go_at_call 9; refine (HAW.out _).mono ?_; rintro e w0 ⟨rfl, hb0⟩)
    obtain ⟨b, off, u, rfl, hbw, hcell, A1, c1, rfl, _⟩ := (HA.out.on hb0).at_ n HN.out
    rw [← HRE.out] at hcell
    go_wp2_with fail
    (go_at_call 16; (with_reducible refine (HF.out _ (HM.out.on hb0)).mono ?_); rintro e w' ⟨rfl, rfl⟩)
    go_wp2_with fail
    (go_at_call 17; (with_reducible refine (HR.out _ (HM.out.on hb0)).mono ?_); rintro e w1 ⟨v1, rfl, hr1, hb1, ho1⟩)
    have hcell1 := (hb1.cell (p := ⟨b, off + n, none⟩) hbw).trans hcell
    obtain ⟨g, o1, cap, rfl, hcm1, hle1, hg, ⟨u, hu⟩, hfz, hr2, hb2⟩ := hr1.put ho1 q hqL (L[q] ^^^ d)
    unfold maxLen at hcm1
    have hu0 : w1.cell? ⟨g, o1 + q, none⟩ = some (.int .u8 (L[q].toNat : Int)) := by
      rcases hr1 with ⟨e, _⟩ | ⟨g', o', cap', e, _, _, _, _, hrow, _, _⟩
      · cases e
      · injection e with e1 _ _
        injection e1 with e1
        injection e1 with e1 e2 _
        subst e1 e2
        exact hrow q hqL
    rw [UInt8.toNat_xor] at hr2 hb2
    obtain ⟨w2, hw2⟩ : ∃ w2, w2 = w1.setCell ⟨g, o1 + q, none⟩ (.int .u8 ((L[q].toNat ^^^ d.toNat : Nat) : Int)) := ⟨_, rfl⟩
    rw [← hw2] at hr2 hb2
    have S1 := Lib.hid (HSC.out w2 _ _ (show Seen w2 w2.heap.size _ _ from hr2.seen) (by rw [List.length_set]; omega))
    unfold Scans at S1
    rw [hsc.out] at S1
    have HB2 := Lib.hid (show Below w.heap.size w w2 from (hb0.trans (hb1.mono hb0.size)).trans (hb2.mono hb0.size))
    have HHX := HX.out
    have HW2 := Lib.hid hw2
    clear hr1 hr2 ho1 hu hb2 hw2
    go_wp2_with fail
    rw [← HW2.out]
    (go_at_call 13; (with_reducible refine S1.out.mono ?_); rintro e w3 ⟨v3, rfl, hm3, hb3⟩)
    have HB3 := Lib.hid (bt HB2.out hb3)
    have SM := Lib.hid (show Many w3 (.slice (some ⟨b, off, none⟩) n c) (ls.take n) by
      have hlen : (ls.take n).length = n := by have := HN.out; rw [List.length_take]; omega
      exact ⟨some ⟨b, off, none⟩, c, by rw [hlen], (HA.out.on HB3.out).take n⟩)
    have SA2 := Lib.hid (sameall_any v3 _ it (ls.take n) w3 hm3 SM.out)
    go_wp2_with fail
    (go_at_call 15; (with_reducible refine SA2.out.mono ?_); rintro e w4 ⟨rfl, hb4⟩)
    go_wp2_with fail
    go_ret
    exact ⟨ret_bool (decide_eq_true HIT.out), bt HB3.out hb4⟩

end Go.Proofs.Ytakgkhfakjfodaa
