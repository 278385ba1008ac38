/-
  WalSaves, of every input.
-/
import Derived.Test.YtoggdpkpfdilnaaLk
import Derived.Test.YtoggdpkpfdilnaaEndm
namespace Go.Proofs.Ytoggdpkpfdilnaa
open Go.RowKit
attribute [local go_sem ↓] Go.wp_at_zero Go.wp_at_succ

theorem Many.stand {w W : World} {v : Value} {ls : List (List UInt8)} (h : Many w v ls) (hk : ∀ k, k < w.heap.size → W.heap[k]? = w.heap[k]?) (hs : w.heap.size ≤ W.heap.size) : Many W v ls := by
  obtain ⟨A, c, rfl, h1, h2, vs, h3, h4, h5⟩ := h
  refine ⟨A, c, rfl, h1, h2, vs, h3, h4.imp id ?_, fun i hi hi' => (h5 i hi hi').stand hk hs⟩
  rintro ⟨b, off, hA, hw, hr⟩
  exact ⟨b, off, hA, by omega, hr.congr (hk b hw)⟩
/-- what is kept of a held picture and records: the same value, at a place that is no part of the disk -/
theorem Disk.right {w : World} {B g : Nat} {s : Dsk} {F : Nat → Prop} (h : Disk w B g s F) : s.right := by obtain ⟨_, _, _, _, _, _, _, _, h⟩ := h; exact h

set_option maxRecDepth 100000 in
set_option maxHeartbeats 4000000 in
theorem saves_walk (v : Value) (l : List UInt8) (u : Value) (ls : List (List UInt8)) (w : World) (hv : Seen w w.heap.size v l) (hu : Many w u ls) (h5 : l.length ≤ 500) (hf : fewB ls = true) :
    Calls Try.prog 5 #[v, u] w fun e w' => e = .returned (.bool true) ∧ Below w.heap.size w w' := by
  have kc := fun (w : World) (C : Array Value) (n c : Nat) => Lib.run_convert_bytes_const (P := Try.prog) w 28 5 C n c Try.underlying28 Try.underlying5
  have HV := Lib.hid hv
  have HU := Lib.hid hu
  have HFW := Lib.hid hf
  obtain ⟨hf1, hf2, hf3⟩ : ls.length ≤ 40 ∧ (∀ r ∈ ls, r.length ≤ 3000) ∧ total ls ≤ 3000 := of_decide_eq_true hf
  have HFIT : Hid (Fit (l :: ls)) := fun r hr => by
    rcases List.mem_cons.1 hr with rfl | hr
    · omega
    · have := hf2 r hr
      omega
  have HR := Lib.hid hf2
  have HN := Lib.hid hf1
  obtain ⟨L0, hL0⟩ : ∃ x, x = lead [] ++ frame [111, 108, 100] := ⟨_, rfl⟩
  have n0 : L0.length = 27 := by rw [hL0, List.length_append, lead_nil, frame_length, frame_length]; rfl
  obtain ⟨s1, hq1, hh1⟩ := Has.fresh.turn (l := L0)
  rw [hL0] at hq1
  have hh1' : Has s1 L0 28 := by rw [n0, List.nil_append] at hh1; exact hh1
  have HL0 := Lib.hid n0
  have HQ1 := Lib.hid hq1
  have HH1 := Lib.hid hh1'
  have FW := Lib.hid (fun W (h : Many W u ls) => few_any u ls W h)
  obtain ⟨A, c, rfl, _⟩ := hv
  obtain ⟨Au, cu, rfl, _⟩ := hu
  have h5' : (l.length : Int) ≤ 500 := by omega
  have HL5 : Hid (l.length ≤ 500) := h5
  rw [hf] at FW
  clear hL0 n0 hq1 hh1 hh1' hf hf2 hf3
  go_enter Try.func5, Try.ntmps5
  go_wp2_with fail
  go_at_call 6
  refine (awake_any w).mono ?_
  rintro e w1 ⟨rfl, b1⟩
  go_wp2_with fail
  go_at_call 21
  refine (FW.out _ (HU.out.on b1)).mono ?_
  rintro e w1' ⟨rfl, rfl⟩
  go_wp2_with fail
  go_at_call 8
  refine (new_any w1 w1.heap.size (Nat.le_refl _)).mono ?_
  rintro e w4 ⟨rfl, hd4, hb4⟩
  generalize hF : (fun x => x = w1.heap.size) = F4 at hd4
  clear hF
  generalize hg : w1.heap.size = g at hd4 hb4 ⊢
  have HGW : Hid (w.heap.size ≤ g) := by show w.heap.size ≤ g; rw [← hg]; exact b1.size
  have b4 : Below w.heap.size w w4 := b1.trans (hb4.mono HGW.out)
  clear b1 hb4 hg
  go_wp2_with fail
  go_at_call 9
  refine (open_empty w4 g g _ F4 0 hd4 Has.fresh (by omega)).mono ?_
  rintro e w5 ⟨bl, rfl, hl5, hb5⟩
  have hd5 := hd4.on hb5
  have b5 : Below w.heap.size w w5 := bt b4 hb5
  clear hd4 hb5 b4
  go_wp2_with fail
  go_at_call 19
  have hs5 := bytes_const w5 [111, 108, 100] 5 (3, 4) (by decide)
  have a5 := bal w5 (.cells (c8 [111, 108, 100]).toArray 5 (3, 4))
  refine (added _ [111, 108, 100] _ _ g g _ F4 [] 0 _ (hd5.on a5) Has.fresh (hl5.on a5) hs5 (by decide) (by decide) HQ1.out).mono ?_
  rintro e w6 ⟨rfl, F6, hd6, hf6, hb6, hk6⟩
  have hl6 := (hl5.on a5).turned hf6 hk6 hb6.size
  have b6 : Below w.heap.size w w6 := (bt b5 a5).trans (hb6.mono HGW.out)
  clear hd5 hl5 hs5 a5 hf6 hb6 hk6 b5
  go_wp2_with fail
  go_at_call 18
  refine (saved _ l w6 _ g g _ F6 L0 28 hd6 HH1.out hl6 (HV.out.on b6) (by omega) (by rw [HL0.out]; omega)).mono ?_
  rintro e w7 ⟨rfl, s7, hs7, F7, hd7, hf7, hb7, hk7⟩
  have hl7 := hl6.turned hf7 hk7 hb7.size
  have b7 : Below w.heap.size w w7 := b6.trans (hb7.mono HGW.out)
  rw [HL0.out] at hs7
  have HI : Hid (∃ s F, Disk w7 g g s F ∧ Has s (frames (l :: ls.take 0)) (540 + 3013 * 0) ∧ LogAt w7 (.pointer (some ⟨bl, 0, none⟩)) g F) := ⟨s7, F7, hd7, by
    have hfr : frames (l :: ls.take 0) = frame l := by simp [frames]
    rw [hfr]
    exact hs7.more (by omega), hl7⟩
  have HB7 := Lib.hid b7
  clear hd6 hl6 hf7 hb7 hk7 hs7 hd7 hl7 b6 b7
  go_wp2
  go_loopw [10] (fun i wr => ∃ k : Nat, k ≤ ls.length ∧ i = .int .i64 (k : Int) ∧ (∃ s F, Disk wr g g s F ∧ Has s (frames (l :: ls.take k)) (540 + 3013 * k) ∧ LogAt wr (.pointer (some ⟨bl, 0, none⟩)) g F) ∧ Below w.heap.size w wr) (fun i _ => ls.length - (intOf i).toNat)
  case atStart => exact ⟨0, Nat.zero_le _, rfl, HI.out, HB7.out⟩
  case round =>
    obtain ⟨k, hk, rfl, ⟨s, F, hd, hh, hl⟩, hb⟩ := hrel
    by_cases hlt : k < ls.length
    · obtain ⟨A', c', hAe, hA⟩ := HU.out.on hb
      injection hAe with q1 _ q2
      subst q1 q2
      obtain ⟨b, off, x, rfl, hbw, hcell, hsee⟩ := hA.at_ k hlt
      have HT : Hid (frames (l :: ls.take (k + 1)) = frames (l :: ls.take k) ++ frame ls[k]) := by
        show frames _ = _
        rw [takeM ls k hlt, ← List.cons_append, frames_snoc]
      have hrk := HR.out _ (List.getElem_mem hlt)
      have hkn := HN.out
      obtain ⟨s', hq', hh'⟩ := hh.turn (l := frame ls[k])
      have hq'' : s.chg 0 s.now.front (lead (frames (l :: ls.take k)) ++ frame ls[k]) = (s', 0) := by
        rw [lead_no (by rw [frames, List.length_append]; have := frame_pos l; omega), List.nil_append]
        exact hq'
      have hh2 : Hid (Has s' (frames (l :: ls.take (k + 1))) (540 + 3013 * (k + 1))) := by
        show Has _ _ _
        rw [HT.out]
        exact hh'.more (by rw [frame_length]; omega)
      have RA := Lib.hid (added x ls[k] wr _ g g s F _ _ _ hd hh hl hsee (by omega) (by omega) hq'')
      have HL := Lib.hid hl
      have HB := Lib.hid hb
      have i0 : (0 : Int) ≤ (k : Int) := by omega
      have i1 : (k : Int) < (ls.length : Int) := by omega
      obtain ⟨Ax, cx, rfl, _⟩ := hsee
      clear hA hd hh hl hb hq' hq'' hh'
      go_wp2_with (go_at_call 19; (with_reducible refine (RA.out).mono ?_); rintro e w9 ⟨rfl, F9, hd9, hf9, hb9, hk9⟩)
      go_roundw
      case rel => exact ⟨k + 1, by omega, by go_num, ⟨s', F9, hd9, hh2.out, HL.out.turned hf9 hk9 hb9.size⟩, HB.out.trans (hb9.mono HGW.out)⟩
      case measure => simp [intOf]; omega
    · have hkl : ls.take k = ls := List.take_of_length_le (by omega)
      rw [hkl] at hh
      have hk40 : k ≤ 40 := Nat.le_trans hk HN.out
      have hsm := hh.small hd.right
      have hh' : Has s (frames (l :: ls)) 130000 := hh.more (by omega)
      have hre : Rests (frames (l :: ls)) l ls := .inr ⟨rfl, HFIT.out⟩
      obtain ⟨w11, hw11⟩ : ∃ x, x = wr.alloc (.cells #[.slice A l.length c, .slice Au ls.length cu, .int .i64 0] 34) := ⟨_, rfl⟩
      have b11 : Below wr.heap.size wr w11 := by rw [hw11]; exact bal _ _
      have x11 : BoxF wr.heap.size [.slice A l.length c, .slice Au ls.length cu, .int .i64 0] w11 := by rw [hw11]; exact boxF_made _ _ _
      have hd11 := hd.on b11
      have hb11 := bt hb b11
      have hgw := HGW.out
      have hst : ∀ (W : World) (F : Nat → Prop), Below w.heap.size w W → (∀ k, F k → g ≤ k) → Stands' W F (.slice A l.length c) (.slice Au ls.length cu) l ls := fun W F hbW hFg W' hk hs => by
        have hkw : ∀ k, k < w.heap.size → W'.heap[k]? = w.heap[k]? := fun k hk' => (hk k (Nat.lt_of_lt_of_le hk' hbW.size) (fun q => by have := hFg k q; omega)).trans (hbW.block k hk')
        exact ⟨HV.out.stand hkw (Nat.le_trans hbW.size hs), HU.out.stand hkw (Nat.le_trans hbW.size hs)⟩
      have RO := Lib.hid (opened_yes w11 g g s F _ l ls 130000 270000 _ _ 0 hd11 hh' hre (by omega) (by omega) (by omega) (hst w11 F hb11 (fun k q => (hd11.less k q).1)))
      have HST := Lib.hid hst
      have HRE := Lib.hid hre
      have HX := Lib.hid x11
      have HB11 := Lib.hid hb11
      have HSM : Hid ((frames (l :: ls)).length ≤ 130000) := by show _ ≤ _; omega
      have HNF : Hid (¬ F wr.heap.size) := fun q => Nat.lt_irrefl _ (hd.less _ q).2
      have e0 := x11.get 0 rfl
      have e1 := x11.get 1 rfl
      have e2 := x11.get 2 rfl
      rw [hw11] at e0 e1 e2
      rw [hw11] at RO
      clear hd hh hl hb hh' hre b11 x11 hd11 hb11 hst hkl hsm hgw hk40
      go_wp2_with fail
      go_at_call 20
      refine (RO.out).mono ?_
      rw [← hw11]
      rintro e w12 ⟨rfl, s12, hh12, F12, hd12, hf12, hb12, hk12⟩
      have hx12 := HX.out.kept (W' := w12) (hk12 _ HX.out.1 HNF.out) hb12.size
      have y0 := hx12.get 0 rfl
      have y1 := hx12.get 1 rfl
      have y2 := hx12.get 2 rfl
      have hb012 : Below w.heap.size w w12 := HB11.out.trans (hb12.mono HGW.out)
      have RO2 := Lib.hid (opened_yes w12 g g s12 F12 _ l ls 270000 270000 _ _ 0 hd12 hh12 HRE.out (by have := HSM.out; omega) (Nat.le_refl _) (by have := HSM.out; omega) (HST.out w12 F12 hb012 (fun k q => (hd12.less k q).1)))
      have HB12 := Lib.hid hb012
      clear e0 e1 e2 hd12 hh12 hf12 hb12 hk12 hx12 hb012
      go_wp2_with fail
      go_at_call 20
      refine (RO2.out).mono ?_
      rintro e w13 ⟨rfl, s13, _, F13, _, _, hb13, _⟩
      go_wp2
      go_ret
      exact ⟨rfl, HB12.out.trans (hb13.mono HGW.out)⟩

set_option maxRecDepth 100000 in
theorem saves_law (v : Value) (l : List UInt8) (u : Value) (ls : List (List UInt8)) (w : World) (hv : Seen w w.heap.size v l) (hu : Many w u ls) :
    Calls Try.prog 5 #[v, u] w fun e w' => e = .returned (.bool true) ∧ Below w.heap.size w w' := by
  have hlm : l.length ≤ maxLen := by obtain ⟨_, _, _, h1, h2, _⟩ := hv; exact Nat.le_trans h1 h2
  unfold maxLen at hlm
  by_cases h5 : l.length ≤ 500
  · cases hf : fewB ls with
    | true => exact saves_walk v l u ls w hv hu h5 hf
    | false =>
      have FW := Lib.hid (fun W (h : Many W u ls) => few_any u ls W h)
      rw [hf] at FW
      have HU := Lib.hid hu
      have h5' : (l.length : Int) ≤ 500 := by omega
      obtain ⟨A, c, rfl, _⟩ := hv
      obtain ⟨Au, cu, rfl, _⟩ := hu
      clear hf h5
      go_enter Try.func5, Try.ntmps5
      go_wp2_with fail
      go_at_call 6
      refine (awake_any w).mono ?_
      rintro e w1 ⟨rfl, b1⟩
      go_wp2_with fail
      go_at_call 21
      refine (FW.out _ (HU.out.on b1)).mono ?_
      rintro e w1' ⟨rfl, rfl⟩
      go_wp2_with fail
      go_at_call 6
      refine (awake_any w1).mono ?_
      rintro e w2 ⟨rfl, b2⟩
      go_wp2
      go_ret
      exact ⟨rfl, bt b1 b2⟩
  · have h5' : (500 : Int) < (l.length : Int) := by omega
    obtain ⟨A, c, rfl, _⟩ := hv
    obtain ⟨Au, cu, rfl, _⟩ := hu
    clear h5
    go_enter Try.func5, Try.ntmps5
    go_wp2_with fail
    go_at_call 6
    refine (awake_any w).mono ?_
    rintro e w1 ⟨rfl, b1⟩
    go_wp2_with fail
    go_at_call 6
    refine (awake_any w1).mono ?_
    rintro e w2 ⟨rfl, b2⟩
    go_wp2
    go_ret
    exact ⟨rfl, bt b1 b2⟩

end Go.Proofs.Ytoggdpkpfdilnaa
