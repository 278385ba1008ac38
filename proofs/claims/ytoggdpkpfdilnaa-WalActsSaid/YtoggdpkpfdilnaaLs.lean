/-
  WalActs, of every input.
-/
import Derived.Test.YtoggdpkpfdilnaaLr
import Derived.Test.YtoggdpkpfdilnaaArg
namespace Go.Proofs.Ytoggdpkpfdilnaa
open Go.RowKit
attribute [local go_sem ↓] Go.wp_at_zero Go.wp_at_succ

/-- the disk's own reading, of what is kept -/
theorem read_kept {g bh k : Nat} {lv : Value} {em : Bool} {W : World} (h : Keeps g bh k lv em W) (hk : k ≤ 26) : ∃ (f : Int) (x p : List UInt8) (rs : List (List UInt8)),
    ((em = true → x = []) ∧ (em = false → x = frames (p :: rs)) ∧ x.length ≤ 900000) ∧
    (∀ W', Below W.heap.size W W' → Calls Try.prog 13 #[.pointer (some ⟨g, 0, none⟩)] W' fun e w' => e = .returned (.tuple #[.int .i64 f, .int .i64 0]) ∧ W' = w') ∧
    (∀ W', Below W.heap.size W W' → Calls Try.prog 14 #[.pointer (some ⟨g, 0, none⟩), .int .i64 f] W' fun e w' => ∃ u, e = .returned (.tuple #[u, .int .i64 0]) ∧ Seen w' w'.heap.size u x ∧ Below W'.heap.size W' w') ∧
    (∀ W', Below W.heap.size W W' → Calls Try.prog 15 #[lv] W' fun e w' => e = .returned (.int .i64 (x.length : Int)) ∧ Below W'.heap.size W' w') ∧
    (∀ W', Below W.heap.size W W' → ∃ A1 n1 c1 A2 n2 c2, ∃ sf : Int, W'.cell? ⟨bh, 0, none⟩ = some (.slice A1 n1 c1) ∧ W'.cell? ⟨bh, 1, none⟩ = some (.slice A2 n2 c2) ∧ W'.cell? ⟨bh, 2, none⟩ = some (.int .i64 sf) ∧
      Calls Try.prog 17 #[.agg #[.slice A1 n1 c1, .slice A2 n2 c2, .int .i64 sf]] W' fun e w' => ∃ u, e = .returned u ∧ Seen w' w'.heap.size u (frames (p :: rs)) ∧ Below W'.heap.size W' w') := by
  obtain ⟨s, F, pv, rv, p, rs, sf, x, ⟨h1, h2, h3, h4⟩, ⟨h5, h6, h7, h8⟩, h9, h10, h11, h12, h13⟩ := h
  have hmost := h2.most
  have hsm := h2.small h1.rights
  refine ⟨s.now.front, x, p, rs, ⟨fun e => (h9 e).1, h10, by omega⟩, fun W' hb => first_of (h1.on hb) (calm_down h2.calm) rfl, fun W' hb => ?_, fun W' hb => sized W' lv g g s F x _ (h1.on hb) h2 (h3.on hb) (by omega), fun W' hb => ?_⟩
  · refine (read_is (area := s.now.front) (l := x) (why := 0) (h1.on hb) (by omega) h2.reads.1 h2.reads.2).mono ?_
    rintro e w' ⟨u, rfl, hu, _, hb'⟩
    exact ⟨u, rfl, hu.1.seen, hb'⟩
  · have hx := h5.on hb
    obtain ⟨hse, hma⟩ := ((h7.on h1.base hb).stands (fun k q => (h1.less k q).1)) W' (fun _ _ _ => rfl) (Nat.le_refl _)
    have RR := row_is W' pv rv sf p rs hse hma (by omega) (by omega) (fun r hr => by have := h12 r hr; omega)
    obtain ⟨A1, c1, rfl, _⟩ := hse
    obtain ⟨A2, c2, rfl, _⟩ := hma
    exact ⟨A1, _, c1, A2, _, c2, sf, hx.get 0 rfl, hx.get 1 rfl, hx.get 2 rfl, RR⟩

set_option maxRecDepth 100000 in
set_option maxHeartbeats 16000000 in
theorem acts_walk (v : Value) (l : List Actd) (w : World) (hv : ActsAt w w.heap.size v l) (hfew : fewA l = true) :
    Calls Try.prog 3 #[v] w fun e w' => e = .returned (.bool true) ∧ Below w.heap.size w w' := by
  obtain ⟨h40, h200⟩ := fewA_small hfew
  have HV := Lib.hid hv
  have H200 := Lib.hid h200
  obtain ⟨A, c, css, rfl, hlc, hcm, _⟩ := hv
  unfold maxLen at hcm
  clear h200
  go_enter Try.func3, Try.ntmps3
  go_wp2_with fail
  go_at_call 6
  refine (awake_any w).mono ?_
  rintro e w1 ⟨rfl, b1⟩
  have hv1 := HV.out.on b1
  go_wp2_with fail
  go_at_call 7
  refine (fewacts_any w1 _ _ l hv1 (Nat.le_refl _)).mono ?_
  rintro e w2 ⟨rfl, b2⟩
  have b02 := bt b1 b2
  rw [hfew]
  clear hv1 b1 b2 hfew
  go_wp2_with fail
  go_at_call 8
  refine (new_any w2 w2.heap.size (Nat.le_refl _)).mono ?_
  rintro e w4 ⟨rfl, hd4, hb4⟩
  generalize hF : (fun x => x = w2.heap.size) = F4 at hd4
  clear hF
  generalize hg : w2.heap.size = g at hd4 hb4 ⊢
  have HGW : Hid (w.heap.size ≤ g) := by show w.heap.size ≤ g; rw [← hg]; exact b02.size
  have b4 : Below w.heap.size w w4 := b02.trans (hb4.mono HGW.out)
  clear b02 hb4 hg
  go_wp2_with fail
  go_at_call 9
  refine (open_empty w4 g g _ F4 0 hd4 Has.fresh (by omega)).mono ?_
  rintro e w5 ⟨bl, rfl, hl5, hb5⟩
  have hd5 := hd4.on hb5
  have b5 : Below w.heap.size w w5 := bt b4 hb5
  have hal := bal w5 (.cells #[.slice none 0 0, .slice none 0 0, .int .i64 0] 34)
  have hx6 := boxF_made w5 [.slice none 0 0, .slice none 0 0, .int .i64 0] 34
  obtain ⟨bh, hbh⟩ : ∃ x, x = w5.heap.size := ⟨_, rfl⟩
  have hgb : g ≤ bh := by rw [hbh]; exact hd5.base
  have hlb : bl < bh := by
    obtain ⟨b, e, h, _⟩ := hl5
    injection e with e
    injection e with e
    injection e with e
    rw [e, hbh]
    exact h
  have HK0 : Hid (Keeps g bh 0 (.pointer (some ⟨bl, 0, none⟩)) true (w5.alloc (.cells #[.slice none 0 0, .slice none 0 0, .int .i64 0] 34))) := by
    refine ⟨Dsk.fresh, F4, _, _, [], [], 0, [], ⟨hd5.on hal, Has.fresh.more (by omega), hl5.on hal, fun e => ?_⟩, ⟨by rw [hbh]; exact hx6, fun q => by have := (hd5.less _ q).2; omega, HeldIn.nil, fun h => nomatch h⟩, fun _ => ⟨rfl, rfl, rfl⟩, (fun h => nomatch h), by simp, (fun _ h => by cases h), Nat.le_refl _⟩
    injection e with e
    injection e with e
    injection e with e
    omega
  have HB6 : Hid (Below w.heap.size w (w5.alloc (.cells #[.slice none 0 0, .slice none 0 0, .int .i64 0] 34))) := bt b5 hal
  have HGB := Lib.hid hgb
  have HGD := Lib.hid hbh
  clear hd4 hd5 hl5 hb5 b5 b4 hal hx6 hgb hlb hbh
  go_wp2
  rw [← HGD.out]
  clear HGD
  go_loopw [4, 9, 10] (fun lv em i wr => ∃ k : Nat, k ≤ l.length ∧ i = .int .i64 (k : Int) ∧ (∃ bl : Nat, lv = .pointer (some ⟨bl, 0, none⟩)) ∧ (∃ eb : Bool, em = .bool eb ∧ Keeps g bh k lv eb wr) ∧ Below w.heap.size w wr) (fun _ _ i _ => l.length - (intOf i).toNat)
  case atStart => exact ⟨0, Nat.zero_le _, rfl, ⟨_, rfl⟩, ⟨true, rfl, HK0.out⟩, HB6.out⟩
  case round =>
    obtain ⟨k, hk, rfl, ⟨bl, rfl⟩, ⟨eb, rfl, hK⟩, hb⟩ := hrel
    by_cases hlt : k < l.length
    · obtain ⟨b, off, vb, rfl, hbw, hbB, hsb, c0, c1, c2, c3⟩ := (HV.out.below hb).at_ k hlt
      have ha2 := H200.out _ (List.getElem_mem hlt)
      obtain ⟨a, hae⟩ : ∃ a, a = l[k] := ⟨_, rfl⟩
      rw [← hae] at c0 c2 c3 hsb ha2
      clear hae
      have i0 : (0 : Int) ≤ (k : Int) := by omega
      have i1 : (k : Int) < (l.length : Int) := by omega
      have hk25 : k < 25 := by omega
      have HCL : Hid (∀ W : World, Below w.heap.size wr W → W.cell? ⟨b, off + k * 4, none⟩ = some (.int .u8 (a.kind.toNat : Int)) ∧ W.cell? ⟨b, off + k * 4 + 1, none⟩ = some vb ∧ W.cell? ⟨b, off + k * 4 + 2, none⟩ = some (.int .i64 a.keep) ∧ W.cell? ⟨b, off + k * 4 + 3, none⟩ = some (.int .i64 a.torn)) := fun W hW =>
        ⟨(World.cell?_of_block (a := ⟨b, off + k * 4, none⟩) (hW.block b hbB)).trans c0, (World.cell?_of_block (a := ⟨b, off + k * 4 + 1, none⟩) (hW.block b hbB)).trans c1, (World.cell?_of_block (a := ⟨b, off + k * 4 + 2, none⟩) (hW.block b hbB)).trans c2, (World.cell?_of_block (a := ⟨b, off + k * 4 + 3, none⟩) (hW.block b hbB)).trans c3⟩
      have HSB := Lib.hid hsb
      have HB := Lib.hid hb
      have HA2 := Lib.hid ha2
      obtain ⟨s, F, pv, rv, p, rs, sf, x, ⟨hd, hh, hl, hlv⟩, ⟨hx, hF, hin, hown⟩, hm1, hm2, hpl, hrl, hrn⟩ := hK
      have hxs := hh.small hd.rights
      obtain ⟨q, hq⟩ : ∃ q : Nat, q = a.kind.toNat := ⟨_, rfl⟩
      have hq2 : q < 256 := by rw [hq]; exact UInt8.toNat_lt _
      by_cases hk4 : 4 ≤ q % 6
      · -- opened anew
        have hre : Rests x p rs := by
          cases eb with
          | true => exact .inl (hm1 rfl)
          | false =>
            refine .inr ⟨hm2 rfl, fun r hr => ?_⟩
            rcases List.mem_cons.1 hr with rfl | hr
            · omega
            · have := hrl r hr
              omega
        have hxl : x.length ≤ 212 * (k + 1) := by
          cases eb with
          | true => rw [(hm1 rfl).1]; simp
          | false => rw [hm2 rfl]; exact frames_small hpl hrl hrn
        have RO := Lib.hid (opened (m := 1000 * (k + 1 + 1)) hd hh hre (by omega) (by omega) (by omega))
        have HK : (4 : Int) ≤ (q : Int) % 6 := by omega
        have HX := Lib.hid hx
        have HIN := Lib.hid hin
        have HFF := Lib.hid hF
        have HSM : Hid (p.length ≤ 200 ∧ (∀ r ∈ rs, r.length ≤ 200) ∧ rs.length ≤ k) := ⟨hpl, hrl, hrn⟩
        have HM : Hid ((eb = true → x = [] ∧ p = [] ∧ rs = []) ∧ (eb = false → x = frames (p :: rs))) := ⟨hm1, hm2⟩
        have HFL : Hid (∀ k, F k → g ≤ k ∧ k < wr.heap.size) := hd.less
        have HOWN := Lib.hid hown
        have HBS : Hid (g ≤ wr.heap.size ∧ bh < wr.heap.size) := ⟨hd.base, hx.1⟩
        rw [← hq] at c0
        obtain ⟨Ab, cb, hvb, _⟩ := hsb
        subst hvb
        clear hd hh hl hlv hx hF hin hown hm1 hm2 hpl hrl hrn hre hxl hxs hk4 hq hb ha2 hbB hbw
        go_wp2_with fail
        go_at_call 9
        refine (RO.out).mono ?_
        rintro e w6 ⟨lv6, pv6, rv6, rfl, ⟨s6, F6, hd6, hh6, hl6, hf6, hp6⟩, ⟨hb6, hk6⟩, hr6, hm6⟩
        have hx6 := HX.out.kept (hk6 bh HX.out.1 HFF.out) hb6.size
        have hF6 : ¬ F6 bh := fun q => (hf6 bh q).elim HFF.out (fun h => by have := HX.out.1; omega)
        have hin6 := HIN.out.turned hf6 hb6 hk6
        have hlv6 := log_apart hl6 hx6 hin6
        obtain ⟨hse, hma⟩ := hin6.stands (fun k q => (hd6.less k q).1) w6 (fun _ _ _ => rfl) (Nat.le_refl _)
        have SH := Lib.hid (same_held w6 pv6 rv6 pv rv sf p rs hr6.seen (hm6 w6 (fun _ _ _ => rfl) (Nat.le_refl _)) hse hma)
        have HK6 : Hid (Keeps g bh (k + 1) lv6 eb w6) := ⟨s6, F6, pv, rv, p, rs, sf, x, ⟨hd6, hh6, hl6, hlv6⟩, ⟨hx6, hF6, hin6, HOWN.out⟩, HM.out.1, HM.out.2, HSM.out.1, HSM.out.2.1, by have := HSM.out.2.2; omega⟩
        obtain ⟨bl6, rfl, _⟩ := hl6
        have HB6 : Hid (Below w.heap.size w w6) := HB.out.trans (hb6.mono HGW.out)
        obtain ⟨A7, c7, rfl, _⟩ := hr6.cut
        obtain ⟨A8, c8, rfl, _⟩ := hm6 w6 (fun _ _ _ => rfl) (Nat.le_refl _)
        obtain ⟨Ap, cp, rfl, _⟩ := hse
        obtain ⟨Ar, cr, rfl, _⟩ := hma
        have HX6 := Lib.hid hx6
        have e0 := hx6.get 0 rfl
        have e1 := hx6.get 1 rfl
        have e2 := hx6.get 2 rfl
        clear hd6 hh6 hf6 hp6 hb6 hk6 hr6 hm6 hx6 hF6 hin6 hlv6 RO
        go_wp2_with fail
        go_at_call 10
        refine (SH.out).mono ?_
        rintro e w7 ⟨rfl, hb7⟩
        have hx7 := HX6.out.on hb7
        have e0' := hx7.get 0 rfl
        have e1' := hx7.get 1 rfl
        have e2' := hx7.get 2 rfl
        have f2' := hx7.free 2 (by simp)
        have HT0 : Hid (Keeps g bh (k + 1) (.pointer (some ⟨bl6, 0, none⟩)) eb (w7.setCell ⟨bh, 2, none⟩ (.int .i64 (rs.length : Int)))) := (HK6.out.on hb7).safe HGB.out _
        have HBT0 : Hid (Below w.heap.size w (w7.setCell ⟨bh, 2, none⟩ (.int .i64 (rs.length : Int)))) := (bt HB6.out hb7).setCell (Nat.le_trans HGW.out HGB.out) _
        obtain ⟨wt, hwt⟩ : ∃ x, x = w7.setCell ⟨bh, 2, none⟩ (.int .i64 (rs.length : Int)) := ⟨_, rfl⟩
        rw [← hwt] at HT0 HBT0
        have HWT := Lib.hid hwt
        clear hb7 hx7 SH HK6 hwt e0 e1 e2
        cases eb with
        | true =>
          obtain ⟨f, y, p', rs', ⟨t1, t2, t3⟩, RF, RD, RS, RR⟩ := read_kept HT0.out (by omega)
          obtain rfl : y = [] := t1 rfl
          have HRF := Lib.hid RF
          have HRD := Lib.hid RD
          have HRS := Lib.hid RS
          clear RF RD RS RR t1 t2 t3
          go_wp2_with fail
          go_at_call 13
          rw [← HWT.out]
          refine (HRF.out _ (Below.refl _ _)).mono ?_
          rintro e w8 ⟨rfl, rfl⟩
          go_wp2_with fail
          go_at_call 14
          refine (HRD.out _ (Below.refl _ _)).mono ?_
          rintro e w9 ⟨u9, rfl, hu9, hb9⟩
          obtain ⟨A9, c9, rfl, _⟩ := hu9
          go_wp2_with fail
          go_at_call 15
          refine (HRS.out _ hb9).mono ?_
          rintro e w10 ⟨rfl, hb10⟩
          have HTE : Hid (Keeps g bh (k + 1) (.pointer (some ⟨bl6, 0, none⟩)) true w10) := HT0.out.on (bt hb9 hb10)
          have HBE : Hid (Below w.heap.size w w10) := bt HBT0.out (bt hb9 hb10)
          clear hb9 hb10
          go_wp2
          go_roundw
          case rel => exact ⟨k + 1, by omega, by go_num, ⟨_, rfl⟩, ⟨true, rfl, HTE.out⟩, HBE.out⟩
          case measure => simp [intOf]; omega
        | false =>
          obtain ⟨f, y, p', rs', ⟨t1, t2, t3⟩, RF, RD, RS, RR⟩ := read_kept HT0.out (by omega)
          have hy := t2 rfl
          have HRF := Lib.hid RF
          have HRD := Lib.hid RD
          have HRS := Lib.hid RS
          have HRR := Lib.hid RR
          have HY := Lib.hid hy
          clear RF RD RS RR t1 t2 hy
          go_wp2_with fail
          go_at_call 13
          rw [← HWT.out]
          refine (HRF.out _ (Below.refl _ _)).mono ?_
          rintro e w8 ⟨rfl, rfl⟩
          go_wp2_with fail
          go_at_call 14
          refine (HRD.out _ (Below.refl _ _)).mono ?_
          rintro e w9 ⟨u9, rfl, hu9, hb9⟩
          have HU9 := Lib.hid hu9
          obtain ⟨A9, c9, rfl, _⟩ := hu9
          obtain ⟨A1, n1, c1, A2, n2, c2, sf', z0, z1, z2, RW⟩ := HRR.out _ hb9
          have HRW := Lib.hid RW
          have HB9 := Lib.hid hb9
          clear RW hb9
          go_wp2_with fail
          go_at_call 17
          refine (HRW.out).mono ?_
          rintro e w10 ⟨u10, rfl, hu10, hb10⟩
          rw [← HY.out] at hu10
          have SY := Lib.hid (same_yes w10 (HU9.out.on hb10) hu10)
          have HB10 : Hid (Below wt.heap.size wt w10) := bt HB9.out hb10
          obtain ⟨A10, c10, rfl, _⟩ := hu10
          clear hb10 z0 z1 z2
          go_wp2_with fail
          go_at_call 16
          refine (SY.out).mono ?_
          rintro e w11 ⟨rfl, hb11⟩
          have hb011 : Below wt.heap.size wt w11 := bt HB10.out hb11
          have HRS11 := Lib.hid (HRS.out _ hb011)
          have HB11 := Lib.hid hb011
          clear hb11 hb011
          go_wp2_with fail
          go_at_call 15
          refine (HRS11.out).mono ?_
          rintro e w12 ⟨rfl, hb12⟩
          have HTE : Hid (Keeps g bh (k + 1) (.pointer (some ⟨bl6, 0, none⟩)) false w12) := HT0.out.on (bt HB11.out hb12)
          have HBE : Hid (Below w.heap.size w w12) := bt HBT0.out (bt HB11.out hb12)
          clear hb12
          go_wp2
          go_roundw
          case rel => exact ⟨k + 1, by omega, by go_num, ⟨_, rfl⟩, ⟨false, rfl, HTE.out⟩, HBE.out⟩
          case measure => simp [intOf]; omega
      · -- played
        rw [hq] at hk4
        have hkk : a.kind.toNat % 6 < 4 := by omega
        have RP := Lib.hid (play_any a vb wr _ g g s F x _ hd hh hl hsb.full ha2 (by omega))
        have HK : (q : Int) % 6 < 4 := by omega
        have HX := Lib.hid hx
        have HIN := Lib.hid hin
        have HFF := Lib.hid hF
        have HL := Lib.hid hl
        have HLV := Lib.hid hlv
        have HPH := Lib.hid (play_held (b := a.b) (k := q) hm1 hm2)
        have HSM := Lib.hid (held_small (k := q) ha2 hpl hrl hrn)
        have HOWN := Lib.hid hown
        have HRN : Hid (rs.length ≤ 1000) := by show _ ≤ _; omega
        have HKK : Hid (a.kind.toNat % 6 < 4) := hkk
        have HBS : Hid (g ≤ wr.heap.size ∧ bh < wr.heap.size) := ⟨hd.base, hx.1⟩
        have HQ := Lib.hid hq
        have HBB : Hid (b < w.heap.size) := hbB
        rw [← hq] at c0 RP
        have HCQ : Hid (∀ W : World, Below w.heap.size wr W → W.cell? ⟨b, off + k * 4, none⟩ = some (.int .u8 (q : Int)) ∧ W.cell? ⟨b, off + k * 4 + 1, none⟩ = some vb ∧ W.cell? ⟨b, off + k * 4 + 2, none⟩ = some (.int .i64 a.keep) ∧ W.cell? ⟨b, off + k * 4 + 3, none⟩ = some (.int .i64 a.torn)) := by
          show ∀ W : World, _
          rw [hq]
          exact HCL.out
        obtain ⟨Ab, cb, hvb, _⟩ := hsb
        subst hvb
        clear hd hh hl hlv hx hF hin hown hm1 hm2 hpl hrl hrn hxs hk4 hkk hq hb ha2 hbB hbw HCL
        go_wp2_with fail
        go_at_call 11
        refine (RP.out).mono ?_
        rintro e w5 ⟨rfl, s5, hs5, F5, hd5, hf5, hb5, hk5⟩
        have hx5 := HX.out.kept (hk5 bh HX.out.1 HFF.out) hb5.size
        have hF5 : ¬ F5 bh := fun q => (hf5 bh q).elim HFF.out (fun h => by have := HX.out.1; omega)
        have hin5 := HIN.out.turned hf5 hb5 hk5
        have hl5 := HL.out.turned hf5 hk5 hb5.size
        have hgw5 : g ≤ w5.heap.size := hd5.base
        have hbw5 : Below w.heap.size w w5 := HB.out.trans (hb5.mono HGW.out)
        have RDO : Hid (∀ W : World, Below w5.heap.size w5 W → Calls Try.prog 12 #[.agg #[pv, rv, .int .i64 sf], .agg #[.int .u8 (q : Int), .slice Ab a.b.length cb, .int .i64 a.keep, .int .i64 a.torn]] W fun e w' => ∃ pv' rv' sf', e = .returned (.agg #[pv', rv', .int .i64 sf']) ∧ HeldIn w' g F5 pv' rv' (heldA q p rs a.b).1 (heldA q p rs a.b).2 ∧ (∀ k, rv'.ownBlock = some k → rv.ownBlock = some k ∨ W.heap.size ≤ k) ∧ Below W.heap.size W w') := fun W hW => by
          have := doc_any a (.slice Ab a.b.length cb) pv rv p rs sf W g F5 (Nat.le_trans hgw5 hW.size) (fun k q => Nat.lt_of_lt_of_le (hd5.less k q).2 hW.size) (hin5.on hgw5 hW) (((HSB.out.below (hb5.mono HGW.out)).below (hW.mono (Nat.le_trans HGW.out hgw5))).more HGW.out) HRN.out HKK.out
          rw [← HQ.out] at this
          exact this
        have HS : Hid (∀ W : World, Below w5.heap.size w5 W → (W.cell? ⟨bh, 0, none⟩ = some pv ∧ W.cell? ⟨bh, 1, none⟩ = some rv ∧ W.cell? ⟨bh, 2, none⟩ = some (.int .i64 sf)) ∧ W.cell? ⟨b, off + k * 4, none⟩ = some (.int .u8 (q : Int)) ∧ W.cell? ⟨b, off + k * 4 + 1, none⟩ = some (.slice Ab a.b.length cb) ∧ W.cell? ⟨b, off + k * 4 + 2, none⟩ = some (.int .i64 a.keep) ∧ W.cell? ⟨b, off + k * 4 + 3, none⟩ = some (.int .i64 a.torn)) := fun W hW => by
          have h := hx5.on hW
          exact ⟨⟨h.get 0 rfl, h.get 1 rfl, h.get 2 rfl⟩, HCQ.out W ((hb5.mono HGW.out).trans (hW.mono (Nat.le_trans HGW.out hgw5)))⟩
        obtain ⟨⟨Ap, cp, rfl, _⟩, Ar, cr, _, rfl, _⟩ := hin5
        obtain ⟨⟨g0, g1, g2⟩, g3, g4, g5, g6⟩ := HS.out w5 (Below.refl _ _)
        have E1 : Below w5.heap.size w5 w5.drew := (Below.refl _ _).drew
        have HD5 := Lib.hid hd5
        have HS5 := Lib.hid hs5
        have HX5 := Lib.hid hx5
        have HF5 := Lib.hid hF5
        have HL5 := Lib.hid hl5
        have HBW5 := Lib.hid hbw5
        have HGW5 := Lib.hid hgw5
        clear hd5 hs5 hf5 hb5 hk5 hx5 hF5 hl5 hbw5 hgw5 RP c0 c1 c2 c3 HCQ
        go_wp2
        go_cut [] from 81 to 86 (fun wx => ∃ Ap6 np6 cp6 Ar6 nr6 cr6, ∃ sf' : Int, BoxF bh [.slice Ap6 np6 cp6, .slice Ar6 nr6 cr6, .int .i64 sf'] wx ∧ HeldIn wx g F5 (.slice Ap6 np6 cp6) (.slice Ar6 nr6 cr6) (heldA q p rs a.b).1 (heldA q p rs a.b).2 ∧ (Value.slice Ar6 nr6 cr6).ownBlock ≠ some bh ∧ (∀ k, k ≠ bh → k < w5.heap.size → wx.heap[k]? = w5.heap[k]?) ∧ w5.heap.size ≤ wx.heap.size ∧ Below w.heap.size w wx)
        case first =>
          first | (go_region_law (first
            | (go_simp; go_at_call 12; (with_reducible refine (RDO.out _ E1).mono ?_); rintro e w6 ⟨pv', rv', sf', rfl, hin6, hown6, hb6⟩; have E6 : Below w5.heap.size w5 w6 := bt E1 hb6; have HX6 := Lib.hid (HX5.out.on E6); have HIN6 := Lib.hid hin6; have HOWN6 := Lib.hid hown6; have HE6 := Lib.hid E6; have f0 := HX6.out.free 0 (by simp); have f1 := HX6.out.free 1 (by simp); have f2 := HX6.out.free 2 (by simp); have x0 := HX6.out.get 0 rfl; have x1 := HX6.out.get 1 rfl; have x2 := HX6.out.get 2 rfl; obtain ⟨⟨Ap6, cp6, hvp6, _⟩, Ar6, cr6, _, hvr6, _⟩ := hin6; obtain ⟨np6, hnp6⟩ : ∃ n, n = (heldA q p rs a.b).1.length := ⟨_, rfl⟩; obtain ⟨nr6, hnr6⟩ : ∃ n, n = (heldA q p rs a.b).2.length := ⟨_, rfl⟩; rw [← hnp6] at hvp6; rw [← hnr6] at hvr6; subst hvp6 hvr6; clear hnp6 hnr6 hown6 hb6 E6))) | fail
          all_goals go_wp2_with fail
          all_goals go_meet
          all_goals exact ⟨_, _, _, _, _, _, _, put3_box HX6.out _ _ _, HIN6.out.put3 HGB.out (fun e => (HOWN6.out bh e).elim HOWN.out (fun h => by have := HX5.out.1; have : w5.heap.size ≤ bh := h; omega)) _ _ _, (fun e => (HOWN6.out bh e).elim HOWN.out (fun h => by have := HX5.out.1; have : w5.heap.size ≤ bh := h; omega)), fun k h1 h2 => (put3_other w6 bh _ _ _ k h1).trans (HE6.out.block k h2), Nat.le_trans HE6.out.size (Nat.le_of_eq (put3_size w6 bh _ _ _).symm), (bt HBW5.out HE6.out).trans (put3_below w6 (Nat.le_trans HGW.out HGB.out) _ _ _)⟩
        case rest =>
          obtain ⟨Ap6, np6, cp6, Ar6, nr6, cr6, sf', hx6, hin6, hown6, hk6, hs6, hb6⟩ := hcut
          obtain ⟨y, hy⟩ : ∃ y, y = playA q x a.b := ⟨_, rfl⟩
          have hs5' := HS5.out
          have hph := HPH.out
          rw [← hy] at hs5' hph
          have HPY := Lib.hid hph
          have HKW : Hid (∀ em : Bool, (em = true → y = [] ∧ (heldA q p rs a.b).1 = [] ∧ (heldA q p rs a.b).2 = []) → (em = false → y = frames ((heldA q p rs a.b).1 :: (heldA q p rs a.b).2)) → Keeps g bh (k + 1) (.pointer (some ⟨bl, 0, none⟩)) em wc) := fun em q1 q2 =>
            ⟨s5, F5, _, _, _, _, _, y, ⟨HD5.out.but HF5.out hk6 hs6, hs5'.more (by omega), HL5.out.but HLV.out hk6 hs6, HLV.out⟩, ⟨hx6, HF5.out, hin6, hown6⟩, q1, q2, HSM.out.1, HSM.out.2.1, HSM.out.2.2⟩
          have HBT0 := Lib.hid hb6
          have c0 := (World.cell?_of_block (a := ⟨b, off + k * 4, none⟩) (hk6 b (by have := HBB.out; have := HGB.out; have := HGW.out; omega) (by have := HBB.out; have := HGW.out; have := HGW5.out; omega))).trans g3
          clear hx6 hin6 hown6 hk6 hs6 hb6 hs5' hph hy g0 g1 g2 g3 g4 g5 g6
          by_cases h2 : q % 6 = 2
          · have K2 : (q : Int) % 6 = 2 := by omega
            have K2' : ((q : Int) % 6 == 2) = true := by simpa using K2
            rw [decide_eq_true h2] at HPY
            simp only [Bool.and_true] at HPY
            clear h2
            cases eb with
            | true =>
              have HT0 : Hid (Keeps g bh (k + 1) (.pointer (some ⟨bl, 0, none⟩)) true wc) := HKW.out true HPY.out.1 HPY.out.2
              obtain ⟨f, y, p', rs', ⟨t1, t2, t3⟩, RF, RD, RS, RR⟩ := read_kept HT0.out (by omega)
              obtain rfl : y = [] := t1 rfl
              have HRF := Lib.hid RF
              have HRD := Lib.hid RD
              have HRS := Lib.hid RS
              clear RF RD RS RR t1 t2 t3
              go_wp2_with fail
              go_at_call 13
              refine (HRF.out _ (Below.refl _ _)).mono ?_
              rintro e w8 ⟨rfl, rfl⟩
              go_wp2_with fail
              go_at_call 14
              refine (HRD.out _ (Below.refl _ _)).mono ?_
              rintro e w9 ⟨u9, rfl, hu9, hb9⟩
              obtain ⟨A9, c9, rfl, _⟩ := hu9
              go_wp2_with fail
              go_at_call 15
              refine (HRS.out _ hb9).mono ?_
              rintro e w10 ⟨rfl, hb10⟩
              have HTE : Hid (Keeps g bh (k + 1) (.pointer (some ⟨bl, 0, none⟩)) true w10) := HT0.out.on (bt hb9 hb10)
              have HBE : Hid (Below w.heap.size w w10) := bt HBT0.out (bt hb9 hb10)
              clear hb9 hb10
              go_wp2
              go_roundw
              case rel => exact ⟨k + 1, by omega, by go_num, ⟨_, rfl⟩, ⟨true, rfl, HTE.out⟩, HBE.out⟩
              case measure => simp [intOf]; omega
            | false =>
              have HT0 : Hid (Keeps g bh (k + 1) (.pointer (some ⟨bl, 0, none⟩)) false wc) := HKW.out false HPY.out.1 HPY.out.2
              obtain ⟨f, y, p', rs', ⟨t1, t2, t3⟩, RF, RD, RS, RR⟩ := read_kept HT0.out (by omega)
              have hy := t2 rfl
              have HRF := Lib.hid RF
              have HRD := Lib.hid RD
              have HRS := Lib.hid RS
              have HRR := Lib.hid RR
              have HY := Lib.hid hy
              clear RF RD RS RR t1 t2 hy
              go_wp2_with fail
              go_at_call 13
              refine (HRF.out _ (Below.refl _ _)).mono ?_
              rintro e w8 ⟨rfl, rfl⟩
              go_wp2_with fail
              go_at_call 14
              refine (HRD.out _ (Below.refl _ _)).mono ?_
              rintro e w9 ⟨u9, rfl, hu9, hb9⟩
              have HU9 := Lib.hid hu9
              obtain ⟨A9, c9, rfl, _⟩ := hu9
              obtain ⟨A1, n1, c1, A2, n2, c2, sf', z0, z1, z2, RW⟩ := HRR.out _ hb9
              have HRW := Lib.hid RW
              have HB9 := Lib.hid hb9
              clear RW hb9
              go_wp2_with fail
              go_at_call 17
              refine (HRW.out).mono ?_
              rintro e w10 ⟨u10, rfl, hu10, hb10⟩
              rw [← HY.out] at hu10
              have SY := Lib.hid (same_yes w10 (HU9.out.on hb10) hu10)
              have HB10 : Hid (Below wc.heap.size wc w10) := bt HB9.out hb10
              obtain ⟨A10, c10, rfl, _⟩ := hu10
              clear hb10 z0 z1 z2
              go_wp2_with fail
              go_at_call 16
              refine (SY.out).mono ?_
              rintro e w11 ⟨rfl, hb11⟩
              have hb011 : Below wc.heap.size wc w11 := bt HB10.out hb11
              have HRS11 := Lib.hid (HRS.out _ hb011)
              have HB11 := Lib.hid hb011
              clear hb11 hb011
              go_wp2_with fail
              go_at_call 15
              refine (HRS11.out).mono ?_
              rintro e w12 ⟨rfl, hb12⟩
              have HTE : Hid (Keeps g bh (k + 1) (.pointer (some ⟨bl, 0, none⟩)) false w12) := HT0.out.on (bt HB11.out hb12)
              have HBE : Hid (Below w.heap.size w w12) := bt HBT0.out (bt HB11.out hb12)
              clear hb12
              go_wp2
              go_roundw
              case rel => exact ⟨k + 1, by omega, by go_num, ⟨_, rfl⟩, ⟨false, rfl, HTE.out⟩, HBE.out⟩
              case measure => simp [intOf]; omega
          · have K2 : ((q : Int) % 6 == 2) = false := by simpa using (show ¬ (q : Int) % 6 = 2 by omega)
            rw [decide_eq_false h2] at HPY
            simp only [Bool.and_false] at HPY
            clear h2
            have HT0 : Hid (Keeps g bh (k + 1) (.pointer (some ⟨bl, 0, none⟩)) false wc) := HKW.out false (fun h => nomatch h) (fun _ => HPY.out.2 trivial)
            cases eb with
            | true =>
              obtain ⟨f, y, p', rs', ⟨t1, t2, t3⟩, RF, RD, RS, RR⟩ := read_kept HT0.out (by omega)
              have hy := t2 rfl
              have HRF := Lib.hid RF
              have HRD := Lib.hid RD
              have HRS := Lib.hid RS
              have HRR := Lib.hid RR
              have HY := Lib.hid hy
              clear RF RD RS RR t1 t2 hy
              go_wp2_with fail
              go_at_call 13
              refine (HRF.out _ (Below.refl _ _)).mono ?_
              rintro e w8 ⟨rfl, rfl⟩
              go_wp2_with fail
              go_at_call 14
              refine (HRD.out _ (Below.refl _ _)).mono ?_
              rintro e w9 ⟨u9, rfl, hu9, hb9⟩
              have HU9 := Lib.hid hu9
              obtain ⟨A9, c9, rfl, _⟩ := hu9
              obtain ⟨A1, n1, c1, A2, n2, c2, sf', z0, z1, z2, RW⟩ := HRR.out _ hb9
              have HRW := Lib.hid RW
              have HB9 := Lib.hid hb9
              clear RW hb9
              go_wp2_with fail
              go_at_call 17
              refine (HRW.out).mono ?_
              rintro e w10 ⟨u10, rfl, hu10, hb10⟩
              rw [← HY.out] at hu10
              have SY := Lib.hid (same_yes w10 (HU9.out.on hb10) hu10)
              have HB10 : Hid (Below wc.heap.size wc w10) := bt HB9.out hb10
              obtain ⟨A10, c10, rfl, _⟩ := hu10
              clear hb10 z0 z1 z2
              go_wp2_with fail
              go_at_call 16
              refine (SY.out).mono ?_
              rintro e w11 ⟨rfl, hb11⟩
              have hb011 : Below wc.heap.size wc w11 := bt HB10.out hb11
              have HRS11 := Lib.hid (HRS.out _ hb011)
              have HB11 := Lib.hid hb011
              clear hb11 hb011
              go_wp2_with fail
              go_at_call 15
              refine (HRS11.out).mono ?_
              rintro e w12 ⟨rfl, hb12⟩
              have HTE : Hid (Keeps g bh (k + 1) (.pointer (some ⟨bl, 0, none⟩)) false w12) := HT0.out.on (bt HB11.out hb12)
              have HBE : Hid (Below w.heap.size w w12) := bt HBT0.out (bt HB11.out hb12)
              clear hb12
              go_wp2
              go_roundw
              case rel => exact ⟨k + 1, by omega, by go_num, ⟨_, rfl⟩, ⟨false, rfl, HTE.out⟩, HBE.out⟩
              case measure => simp [intOf]; omega
            | false =>
              obtain ⟨f, y, p', rs', ⟨t1, t2, t3⟩, RF, RD, RS, RR⟩ := read_kept HT0.out (by omega)
              have hy := t2 rfl
              have HRF := Lib.hid RF
              have HRD := Lib.hid RD
              have HRS := Lib.hid RS
              have HRR := Lib.hid RR
              have HY := Lib.hid hy
              clear RF RD RS RR t1 t2 hy
              go_wp2_with fail
              go_at_call 13
              refine (HRF.out _ (Below.refl _ _)).mono ?_
              rintro e w8 ⟨rfl, rfl⟩
              go_wp2_with fail
              go_at_call 14
              refine (HRD.out _ (Below.refl _ _)).mono ?_
              rintro e w9 ⟨u9, rfl, hu9, hb9⟩
              have HU9 := Lib.hid hu9
              obtain ⟨A9, c9, rfl, _⟩ := hu9
              obtain ⟨A1, n1, c1, A2, n2, c2, sf', z0, z1, z2, RW⟩ := HRR.out _ hb9
              have HRW := Lib.hid RW
              have HB9 := Lib.hid hb9
              clear RW hb9
              go_wp2_with fail
              go_at_call 17
              refine (HRW.out).mono ?_
              rintro e w10 ⟨u10, rfl, hu10, hb10⟩
              rw [← HY.out] at hu10
              have SY := Lib.hid (same_yes w10 (HU9.out.on hb10) hu10)
              have HB10 : Hid (Below wc.heap.size wc w10) := bt HB9.out hb10
              obtain ⟨A10, c10, rfl, _⟩ := hu10
              clear hb10 z0 z1 z2
              go_wp2_with fail
              go_at_call 16
              refine (SY.out).mono ?_
              rintro e w11 ⟨rfl, hb11⟩
              have hb011 : Below wc.heap.size wc w11 := bt HB10.out hb11
              have HRS11 := Lib.hid (HRS.out _ hb011)
              have HB11 := Lib.hid hb011
              clear hb11 hb011
              go_wp2_with fail
              go_at_call 15
              refine (HRS11.out).mono ?_
              rintro e w12 ⟨rfl, hb12⟩
              have HTE : Hid (Keeps g bh (k + 1) (.pointer (some ⟨bl, 0, none⟩)) false w12) := HT0.out.on (bt HB11.out hb12)
              have HBE : Hid (Below w.heap.size w w12) := bt HBT0.out (bt HB11.out hb12)
              clear hb12
              go_wp2
              go_roundw
              case rel => exact ⟨k + 1, by omega, by go_num, ⟨_, rfl⟩, ⟨false, rfl, HTE.out⟩, HBE.out⟩
              case measure => simp [intOf]; omega
    · go_wp2
      go_ret
      exact ⟨rfl, hb⟩

set_option maxRecDepth 100000 in
theorem acts_law (v : Value) (l : List Actd) (w : World) (hv : ActsAt w w.heap.size v l) :
    Calls Try.prog 3 #[v] w fun e w' => e = .returned (.bool true) ∧ Below w.heap.size w w' := by
  cases hfew : fewA l with
  | true => exact acts_walk v l w hv hfew
  | false =>
    have HV := Lib.hid hv
    obtain ⟨A, c, css, rfl, _⟩ := hv
    go_enter Try.func3, Try.ntmps3
    go_wp2_with fail
    go_at_call 6
    refine (awake_any w).mono ?_
    rintro e w1 ⟨rfl, b1⟩
    go_wp2_with fail
    go_at_call 7
    refine (fewacts_any w1 _ _ l (HV.out.on b1) (Nat.le_refl _)).mono ?_
    rintro e w2 ⟨rfl, b2⟩
    rw [hfew]
    go_wp2_with fail
    go_at_call 6
    refine (awake_any w2).mono ?_
    rintro e w3 ⟨rfl, b3⟩
    go_wp2
    go_ret
    exact ⟨rfl, bt (bt b1 b2) b3⟩

end Go.Proofs.Ytoggdpkpfdilnaa
