/-
  WalMemory, of every input.
-/
import Derived.Test.YtoggdpkpfdilnaaLj
namespace Go.Proofs.Ytoggdpkpfdilnaa
open Go.RowKit
attribute [local go_sem ↓] Go.wp_at_zero Go.wp_at_succ

theorem Has.turn {s : Dsk} {a l : List UInt8} {n : Nat} (h : Has s a n) : ∃ s', s.chg 0 s.now.front l = (s', 0) ∧ Has s' (a ++ l) (n + l.length + 1) := by
  have := chg_calm h.calm 0 h.side l
  exact ⟨_, this, h.add this⟩
theorem frame_pos (l : List UInt8) : 0 < (frame l).length := by rw [frame_length]; omega
theorem Room.base {w : World} {B B' : Nat} {v : Value} {l : List UInt8} (h : Room w B v l) (ho : ∀ g, v.ownBlock = some g → B ≤ g ∧ B' ≤ g) : Room w B' v l := by
  rcases h with h | ⟨g, off, cap, rfl, h1, h2, h3, h4, h5, h7, h6⟩
  · exact .inl h
  · have hg := ho g rfl
    exact .inr ⟨g, off, cap, rfl, h1, h2, .inl hg.2, h4, h5, fun _ => h7 hg.1, h6⟩

theorem many_at (W : World) (b : Nat) (u : Value) (l : List UInt8) (hb : b < W.heap.size) (hc : W.cell? ⟨b, 0, none⟩ = some u) (hs : Seen W W.heap.size u l) : Many W (.slice (some ⟨b, 0, none⟩) 1 1) [l] := by
  refine ⟨_, 1, rfl, by simp, by unfold maxLen; omega, [u], rfl, .inr ⟨_, 0, rfl, hb, fun j hj => ?_⟩, fun i hi hi' => ?_⟩
  · have hj0 : j = 0 := by simpa using hj
    subst hj0
    exact hc
  · have hi0 : i = 0 := by simpa using hi
    subst hi0
    exact hs
/-- what was there below a block stands where only blocks from it on turn -/
theorem Seen.stand {w W : World} {v : Value} {l : List UInt8} (h : Seen w w.heap.size v l) (hk : ∀ k, k < w.heap.size → W.heap[k]? = w.heap[k]?) (hs : w.heap.size ≤ W.heap.size) : Seen W W.heap.size v l :=
  h.keep fun b _ hb => ⟨hk b hb, by omega, by omega⟩

set_option maxRecDepth 100000 in
set_option maxHeartbeats 4000000 in
theorem memory_walk (v u : Value) (l m : List UInt8) (w : World) (hv : Seen w w.heap.size v l) (hu : Seen w w.heap.size u m) (h5 : l.length ≤ 500) (h6 : m.length ≤ 500) :
    Calls Try.prog 4 #[v, u] w fun e w' => e = .returned (.bool true) ∧ Below w.heap.size w w' := by
  obtain ⟨i0, hi0, hy0, hy1, hy2⟩ := info_parts byte_info
  have HV := Lib.hid hv
  have HU := Lib.hid hu
  obtain ⟨A, c, rfl, _⟩ := hv
  obtain ⟨Au, cu, rfl, _⟩ := hu
  have h5' : (l.length : Int) ≤ 500 := by omega
  have h6' : (m.length : Int) ≤ 500 := by omega
  go_enter Try.func4, Try.ntmps4
  go_wp2_with fail
  go_at_call 6
  refine (awake_any w).mono ?_
  rintro e w1 ⟨rfl, b1⟩
  have P1 : ([] : List UInt8).length + l.length ≤ 1099511627776 := by simp only [List.length_nil]; omega
  have a1 := bal w1 (.cells #[] 5)
  have hv1 := HV.out.on (bt b1 a1)
  have R0 : Room (w1.alloc (.cells #[] 5)) w1.heap.size (.slice (some ⟨w1.heap.size, 0, none⟩) 0 0) [] := Room.made w1 [] 5 (Nat.zero_le _)
  have S1 : Src Try.prog 1 28 (.slice A l.length c) l.length (c8 l) (w1.alloc (.cells #[] 5)) := by
    obtain ⟨A', c', e, h⟩ := hv1
    injection e with e1 _ e3
    subst e1 e3
    exact h.src Try.underlying28
  go_wp2_with (at_builtin; refine wpList_append8s (B := w1.heap.size) (l := []) (m := l) rfl (.tmp 30) (.tmp 31) 28 28 rfl 5 i0 Try.underlying28 hi0 hy0 hy1 hy2 R0 a1.size S1 P1 rfl rfl ?_; intro v3 w3 hr3 hb3 ho3; rw [List.nil_append] at hr3)
  go_at_call 8
  have b3 : Below w.heap.size w w3 := (bt b1 a1).trans (hb3.mono b1.size)
  have ow3 : ∀ k, v3.ownBlock = some k → w1.heap.size ≤ k ∧ k < w3.heap.size := fun k e => ⟨(ho3 k e).elim (fun h => Nat.le_of_eq (Option.some.inj h)) (fun h => Nat.le_trans a1.size h), hr3.own_lt k e⟩
  refine (new_any w3 w3.heap.size (Nat.le_refl _)).mono ?_
  rintro e w4 ⟨rfl, hd4, hb4⟩
  have hr4 := hr3.on hb4
  have b4 : Below w.heap.size w w4 := bt b3 hb4
  generalize hF : (fun x => x = w3.heap.size) = F4 at hd4
  clear hF hr3 hb3 ho3 R0 S1 P1 hv1
  obtain ⟨A3, z3, hv3, _⟩ := hr4.cut
  subst hv3
  have HOW := Lib.hid ow3
  have HB3 := Lib.hid b3.size
  have HB1 := Lib.hid b1.size
  have K4 : Below w3.heap.size w3 w4 := hb4
  have HBW := Lib.hid b3
  clear b1 a1 ow3 hb4 b3
  generalize hg : w3.heap.size = g at hd4 ⊢
  have HG := Lib.hid hg
  go_wp2_with fail
  go_at_call 9
  refine (open_empty w4 g g _ F4 0 hd4 Has.fresh (by omega)).mono ?_
  rintro e w5 ⟨bl, rfl, hl5, hb5⟩
  have hd5 := hd4.on hb5
  have hr5 := hr4.on hb5
  have K5 : Below w3.heap.size w3 w5 := bt K4 hb5
  clear hd4 hr4 hb5 K4
  have HU5 := Lib.hid (HU.out.on (HBW.out.trans (K5.mono HB3.out)))
  go_wp2_with fail
  go_at_call 18
  refine (saved _ l w5 _ g g _ F4 [] 0 hd5 Has.fresh hl5 hr5.seen (by omega) (by simp only [List.length_nil]; omega)).mono ?_
  rintro e w6 ⟨rfl, s6, hs6, F6, hd6, hf6, hb6, hk6⟩
  have hl6 := hl5.turned hf6 hk6 hb6.size
  have hr6 := hr5.kept (fun k e => hb6.block k (by have := HOW.out k e; have := HG.out; omega)) hb6.size
  have K6 : Below w3.heap.size w3 w6 := K5.trans (by rw [HG.out]; exact hb6)
  have HU6 := HU.out.on (HBW.out.trans (K6.mono HB3.out))
  obtain ⟨s7, hq7, hh7⟩ := hs6.turn (l := frame m)
  have hq7' : s6.chg 0 s6.now.front (lead (frame l) ++ frame m) = (s7, 0) := by rw [lead_no (frame_pos l), List.nil_append]; exact hq7
  clear hd5 hr5 hl5 hf6 hb6 hk6 K5
  go_wp2_with fail
  go_at_call 19
  refine (added _ m w6 _ g g _ F6 (frame l) _ _ hd6 hs6 hl6 HU6 (by omega) (by simp only [List.length_nil]; omega) hq7').mono ?_
  rintro e w7 ⟨rfl, F7, hd7, hf7, hb7, hk7⟩
  have hr7 := hr6.kept (fun k e => hb7.block k (by have := HOW.out k e; have := HG.out; omega)) hb7.size
  have K7 : Below w3.heap.size w3 w7 := K6.trans (by rw [HG.out]; exact hb7)
  have hh7' : Has s7 (frame l ++ frame m) 2000 := hh7.more (by rw [frame_length]; simp only [List.length_nil]; omega)
  clear hd6 hr6 hl6 hf7 hb7 hk7 K6 hq7 hq7' hh7 HU6 HU5 hs6
  have HD7 := Lib.hid hd7
  have HR7 := Lib.hid hr7
  have HK7 := Lib.hid K7
  have HH7 := Lib.hid hh7'
  have HLL : Hid (l.length ≤ 500 ∧ m.length ≤ 500) := ⟨h5, h6⟩
  clear hd7 hr7 K7 hh7'
  go_wp2
  go_loopw [11] (fun i wr => ∃ k : Nat, k ≤ l.length ∧ i = .int .i64 (k : Int) ∧ ∃ lx : List UInt8, lx.length = l.length ∧ Room wr w1.heap.size (.slice A3 l.length z3) lx ∧ Below w1.heap.size w7 wr ∧ ∀ k, g ≤ k → wr.heap[k]? = w7.heap[k]?) (fun i _ => l.length - (intOf i).toNat)
  case atStart => exact ⟨0, Nat.zero_le _, rfl, l, rfl, HR7.out, Below.refl _ _, fun _ _ => rfl⟩
  case round =>
    obtain ⟨k, hk, rfl, lx, hlx, hrx, hbx, hkx⟩ := hrel
    by_cases hlt : k < l.length
    · obtain ⟨g9, off9, cap9, hv9, hc9, hl9, hg9, ⟨u9, hcell⟩, hfz, hr9, hb9⟩ := hrx.put (fun g e => (HOW.out g e).1) k (by omega) 9
      have hlt9 := (HOW.out g9 (by rw [hv9]; rfl)).2
      injection hv9 with e1 e2 e3
      subst e1 e3
      have HR9 := Lib.hid hr9
      have HB9 := Lib.hid hb9
      have HLX := Lib.hid hlx
      have HBX2 := Lib.hid hbx
      have HKX := Lib.hid hkx
      have HLT : Hid (g9 < g) := by show g9 < g; rw [← HG.out]; exact hlt9
      have i0 : (0 : Int) ≤ (k : Int) := by omega
      have i1 : (k : Int) < (l.length : Int) := by omega
      clear hr9 hb9 hlx hbx hrx hkx e2 hl9 hc9 hlt9
      go_wp2
      go_roundw
      case rel => exact ⟨k + 1, by omega, by go_num, _, by rw [List.length_set]; exact HLX.out, HR9.out, HBX2.out.trans HB9.out, fun q hq => (Below.heap_setCell _ ⟨g9, off9 + k, none⟩ _ q (show q ≠ g9 by have := HLT.out; omega)).trans (HKX.out q hq)⟩
      case measure => simp [intOf]; omega
    · have hd8 := HD7.out.kept (w' := wr) (fun k hF => hkx k (HD7.out.less k hF).1) hbx.size
      have hbw8 : Below w.heap.size w wr := HBW.out.trans ((HK7.out.mono HB3.out).trans (hbx.mono HB1.out))
      have hg8 : g ≤ wr.heap.size := hd8.base
      have hre : Rests (frame l ++ frame m) l [m] := .inr ⟨by simp [frames], fun r hr => by simp only [List.mem_cons, List.not_mem_nil, or_false] at hr; have := HLL.out; rcases hr with rfl | rfl <;> omega⟩
      have hal : (frame l ++ frame m).length ≤ 1024 := by rw [List.length_append, frame_length, frame_length]; have := HLL.out; omega
      have HRE := Lib.hid hre
      have HAL := Lib.hid hal
      have HB8 := Lib.hid hbw8
      clear hbx hrx hlx hkx hbw8
      revert hd8 hg8 HB8
      generalize wr = w8
      intro hd8 hg8 HB8
      go_wp2_with fail
      go_at_call 9
      refine (opened (m := 3000) hd8 HH7.out hre (by omega) (by decide) (by omega)).mono ?_
      rintro e w9 ⟨lv, pv, rv, rfl, ⟨s9, F9, hd9, hh9, hl9, hf9, hp9⟩, ⟨hb9, hk9⟩, hr9, hm9⟩
      have HP9 : Hid (∀ k, pv.ownBlock = some k → ¬ F9 k ∧ w8.heap.size ≤ k) := fun k e => ⟨(hp9 k e).1, (hp9 k e).2.1⟩
      have HB9 : Hid (Below w.heap.size w w9) := HB8.out.trans (hb9.mono (by have := HG.out; have := HB3.out; omega))
      obtain ⟨bl9, rfl, _⟩ := hl9
      obtain ⟨A9, c9, rfl, _⟩ := hr9.cut
      have HM9 := Lib.hid hm9
      have hm0 := hm9 w9 (fun _ _ _ => rfl) (Nat.le_refl _)
      obtain ⟨A10, c10, rfl, _⟩ := hm0
      have HD9 := Lib.hid hd9
      have HH9 := Lib.hid hh9
      have HR9 := Lib.hid hr9
      have HS8 : Hid (w.heap.size ≤ w8.heap.size) := HB8.out.size
      clear hd8 hg8 hre hal hb9 hk9 hp9 hf9 hd9 hh9 hr9 hm9
      go_wp2
      go_loopw [16] (fun i wq => ∃ k : Nat, k ≤ l.length ∧ i = .int .i64 (k : Int) ∧ ∃ lx : List UInt8, lx.length = l.length ∧ Room wq w8.heap.size (.slice A9 l.length c9) lx ∧ Below w8.heap.size w9 wq ∧ ∀ k, (Value.slice A9 l.length c9).ownBlock ≠ some k → wq.heap[k]? = w9.heap[k]?) (fun i _ => l.length - (intOf i).toNat)
      case atStart => exact ⟨0, Nat.zero_le _, rfl, l, rfl, HR9.out, Below.refl _ _, fun _ _ => rfl⟩
      case round =>
        obtain ⟨k, hk, rfl, lx, hlx, hrx, hbx, hkx⟩ := hrel
        by_cases hlt : k < l.length
        · obtain ⟨g9, off9, cap9, hv9, hc9, hl9, hg9, ⟨u9, hcell⟩, hfz, hrn, hbn⟩ := hrx.put (fun g e => (HP9.out g e).2) k (by omega) 7
          injection hv9 with e1 e2 e3
          subst e1 e3
          have HRN := Lib.hid hrn
          have HBN := Lib.hid hbn
          have HLX := Lib.hid hlx
          have HBX2 := Lib.hid hbx
          have HKX := Lib.hid hkx
          have i0 : (0 : Int) ≤ (k : Int) := by omega
          have i1 : (k : Int) < (l.length : Int) := by omega
          clear hrn hbn hlx hbx hrx hkx e2 hl9 hc9
          go_wp2
          go_roundw
          case rel => exact ⟨k + 1, by omega, by go_num, _, by rw [List.length_set]; exact HLX.out, HRN.out, HBX2.out.trans HBN.out, fun q hq => (Below.heap_setCell _ ⟨g9, off9 + k, none⟩ _ q (fun e => hq (by rw [e]; rfl))).trans (HKX.out q hq)⟩
          case measure => simp [intOf]; omega
        · have hdX := HD9.out.kept (w' := wr) (fun k hF => hkx k (fun e => (HP9.out k e).1 hF)) hbx.size
          have hmX := HM9.out wr (fun k _ hn => hkx k hn) hbx.size
          have hbX : Below w.heap.size w wr := HB9.out.trans (hbx.mono HS8.out)
          obtain ⟨A11, c11, hAe, hA11⟩ := hmX
          injection hAe with q1 _ q3
          subst q1 q3
          obtain ⟨bb, off, uu, rfl, _, hcell, hsee0⟩ := hA11.at_ 0 Nat.zero_lt_one
          have hsee : Seen wr wr.heap.size uu m := hsee0
          clear hsee0
          have hcell0 : wr.cell? ⟨bb, off, none⟩ = some uu := hcell
          have hux := HU.out.on hbX
          have SY := Lib.hid (same_yes wr hsee hux)
          have HDX := Lib.hid hdX
          have HBX := Lib.hid hbX
          obtain ⟨Auu, cuu, rfl, _⟩ := hsee
          clear hbx hrx hlx hkx hdX hbX hux hcell hA11
          revert hcell0 SY HDX HBX
          generalize wr = wx
          intro HDX HBX hcell0 SY
          go_wp2_with fail
          go_at_call 16
          refine (SY.out).mono ?_
          rintro e w10 ⟨rfl, hb10⟩
          have hd10 := HDX.out.on hb10
          have hb010 := HBX.out.trans (hb10.mono HBX.out.size)
          obtain ⟨w11, hw11⟩ : ∃ x, x = w10.alloc (.cells #[.slice Au m.length cu] 28) := ⟨_, rfl⟩
          have b11 : Below w10.heap.size w10 w11 := by rw [hw11]; exact bal _ _
          have x11 : BoxF w10.heap.size [.slice Au m.length cu] w11 := by rw [hw11]; exact boxF_made _ _ _
          have hd11 := hd10.on b11
          have hb011 : Below w.heap.size w w11 := bt hb010 b11
          have hgw : w.heap.size ≤ g := by have := HG.out; have := HB3.out; omega
          have hst : Stands' w11 F9 (.slice A l.length c) (.slice (some ⟨w10.heap.size, 0, none⟩) 1 1) l [m] := fun W hk hs => by
            have hkw : ∀ k, k < w.heap.size → W.heap[k]? = w.heap[k]? := fun k hk' => (hk k (Nat.lt_of_lt_of_le hk' hb011.size) (fun q => by have := (hd11.less k q).1; omega)).trans (hb011.block k hk')
            refine ⟨HV.out.stand hkw (Nat.le_trans hb011.size hs), many_at W _ _ m (Nat.lt_of_lt_of_le x11.1 hs) ?_ (HU.out.stand hkw (Nat.le_trans hb011.size hs))⟩
            exact (World.cell?_of_block (a := ⟨w10.heap.size, 0, none⟩) (hk w10.heap.size x11.1 (fun q => Nat.lt_irrefl _ (hd10.less w10.heap.size q).2))).trans (x11.get 0 rfl)
          have RO := Lib.hid (opened_yes w11 g g s9 F9 _ l [m] 3000 3000 _ _ 0 hd11 HH9.out HRE.out (by have := HAL.out; omega) (Nat.le_refl _) (by have := HAL.out; omega) hst)
          rw [hw11] at RO
          have HB11 := Lib.hid hb011
          have HGW := Lib.hid hgw
          clear hd10 hb010 b11 x11 hd11 hb011 hgw hst hb10
          go_wp2_with fail
          go_at_call 20
          refine (RO.out).mono ?_
          rw [← hw11]
          rintro e w12 ⟨rfl, s12, _, F12, _, _, hb12, _⟩
          go_wp2
          go_ret
          exact ⟨rfl, HB11.out.trans (hb12.mono HGW.out)⟩

set_option maxRecDepth 100000 in
theorem memory_law (v : Value) (l : List UInt8) (u : Value) (m : List UInt8) (w : World) (hv : Seen w w.heap.size v l) (hu : Seen w w.heap.size u m) :
    Calls Try.prog 4 #[v, u] w fun e w' => e = .returned (.bool true) ∧ Below w.heap.size w w' := by
  have hlm : l.length ≤ maxLen := by obtain ⟨_, _, _, h1, h2, _⟩ := hv; exact Nat.le_trans h1 h2
  have hmm : m.length ≤ maxLen := by obtain ⟨_, _, _, h1, h2, _⟩ := hu; exact Nat.le_trans h1 h2
  unfold maxLen at hlm hmm
  by_cases h5 : l.length ≤ 500
  · by_cases h6 : m.length ≤ 500
    · exact memory_walk v u l m w hv hu h5 h6
    · have h5' : (l.length : Int) ≤ 500 := by omega
      have h6' : (500 : Int) < (m.length : Int) := by omega
      obtain ⟨A, c, rfl, _⟩ := hv
      obtain ⟨Au, cu, rfl, _⟩ := hu
      clear h5 h6
      go_enter Try.func4, Try.ntmps4
      go_wp2_with fail
      go_at_call 6
      refine (awake_any w).mono ?_
      rintro e w1 ⟨rfl, b1⟩
      go_wp2_with fail
      go_at_call 6
      refine (awake_any w1).mono ?_
      rintro e w2 ⟨rfl, b2⟩
      go_wp2
      go_ret
      exact ⟨rfl, bt b1 b2⟩
  · have h5' : (500 : Int) < (l.length : Int) := by omega
    obtain ⟨A, c, rfl, _⟩ := hv
    obtain ⟨Au, cu, rfl, _⟩ := hu
    clear h5
    go_enter Try.func4, Try.ntmps4
    go_wp2_with fail
    go_at_call 6
    refine (awake_any w).mono ?_
    rintro e w1 ⟨rfl, b1⟩
    go_wp2_with fail
    go_at_call 6
    refine (awake_any w1).mono ?_
    rintro e w2 ⟨rfl, b2⟩
    go_wp2
    go_ret
    exact ⟨rfl, bt b1 b2⟩

end Go.Proofs.Ytoggdpkpfdilnaa
