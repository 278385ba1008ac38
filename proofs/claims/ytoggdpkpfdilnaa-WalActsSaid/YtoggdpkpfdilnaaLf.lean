/-
  wal.Open, of whatever disk on which nothing fails, whose front area is empty or holds whole frames.
-/
import Derived.Test.YtoggdpkpfdilnaaLe
namespace Go.Proofs.Ytoggdpkpfdilnaa
open Go.RowKit
attribute [local go_sem ↓] Go.wp_at_zero Go.wp_at_succ

theorem results_tmp4 {fn : Func} {t u v x : Tmp} (h : fn.results = #[.tmp t, .tmp u, .tmp v, .tmp x]) (tmps : Array Value) (P : Program) (w : World) :
    (results fn tmps).run P w = .ok (.tuple #[tmps.getD t undef, tmps.getD u undef, tmps.getD v undef, tmps.getD x undef]) w := by
  simp [results, h]

/-- the first of the records that are told, and the others -/
theorem roomR_cons {w : World} {B : Nat} {u : Value} {p : List UInt8} {rs : List (List UInt8)} (h : RoomR w B u (p :: rs)) : ∃ b off c vp, u = .slice (some ⟨b, off, none⟩) (rs.length + 1) c ∧ rs.length + 1 ≤ c ∧ c ≤ maxLen ∧ B ≤ b ∧ b < w.heap.size ∧
    w.cell? ⟨b, off, none⟩ = some vp ∧ Room w B vp p ∧ Own B vp ∧ (∀ g, vp.ownBlock = some g → g ≠ b) ∧
    ∀ W : World, (∀ k, B ≤ k → k < w.heap.size → vp.ownBlock ≠ some k → W.heap[k]? = w.heap[k]?) → w.heap.size ≤ W.heap.size → Many W (.slice (if c = 1 then some ⟨b, off, none⟩ else some ⟨b, off + 1, none⟩) rs.length (c - 1)) rs := by
  obtain ⟨vs, h1, h2, h3, h4⟩ := h
  match vs, h1 with
  | vp :: vr, h1 =>
    have h1' : vr.length = rs.length := by simpa using h1
    obtain ⟨hp1, hp2, hp3⟩ := h3 0 (by simp) (by simp)
    rcases h2 with ⟨_, h⟩ | ⟨b, off, c, rfl, hl, hc, hB, hb, hrow, _, _⟩
    · cases h
    · rw [List.length_cons] at hl
      refine ⟨b, off, c, vp, by rw [List.length_cons, h1'], by omega, hc, hB, hb, by have := hrow 0 (by simp); exact this, hp1, hp2, fun g e hgb => ?_, fun W hk hs => ?_⟩
      · subst hgb
        exact hp3 g e rfl
      · have ebl : W.heap[b]? = w.heap[b]? := hk b hB hb (fun e => hp3 b e rfl)
        have hsee : ∀ i (h : i < rs.length) (h' : i < vr.length), Seen W W.heap.size vr[i] rs[i] := fun i hi hi' => by
          obtain ⟨r1, r2, r3⟩ := h3 (i + 1) (by simpa using hi) (by simpa using hi')
          simp only [List.getElem_cons_succ] at r1 r2 r3
          refine r1.seen.keep fun k e hk' => ?_
          refine ⟨hk k (r2 k e) hk' (fun e' => ?_), Nat.lt_of_lt_of_le hk' hs, Nat.lt_of_lt_of_le hk' hs⟩
          have := h4 0 (i + 1) (by simp) (by simpa using hi') (by omega) k e'
          simp only [List.getElem_cons_succ] at this
          exact this e
        by_cases hc1 : c = 1
        · rw [if_pos hc1]
          obtain rfl : rs = [] := List.eq_nil_of_length_eq_zero (by omega)
          exact ⟨_, c - 1, rfl, by simp, by omega, vr, h1', .inl rfl, hsee⟩
        · rw [if_neg hc1]
          refine ⟨_, c - 1, rfl, by omega, by omega, vr, h1', .inr ⟨b, off + 1, rfl, Nat.lt_of_lt_of_le hb hs, fun j hj => ?_⟩, hsee⟩
          have := hrow (j + 1) (by simpa using hj)
          rw [show off + 1 + j = off + (j + 1) by omega, World.cell?_of_block (a := ⟨b, off + (j + 1), none⟩) ebl, this]
          simp

/-- picture and records are what is told by these bytes -/
def Rests (a p : List UInt8) (rs : List (List UInt8)) : Prop := (a = [] ∧ p = [] ∧ rs = []) ∨ (a = frames (p :: rs) ∧ Fit (p :: rs))
/-- what Open comes to -/
def OpenedTo (B g : Nat) (F : Nat → Prop) (a p : List UInt8) (rs : List (List UInt8)) (m : Nat) (w : World) (e : Ending) (w' : World) : Prop :=
  ∃ lv pv rv, e = .returned (.tuple #[lv, pv, rv, .int .i64 0]) ∧ (∃ s' F', Disk w' B g s' F' ∧ Has s' a m ∧ LogAt w' lv g F' ∧ (∀ k, F' k → F k ∨ w.heap.size ≤ k) ∧ (∀ k, pv.ownBlock = some k → ¬ F' k ∧ w.heap.size ≤ k ∧ lv ≠ .pointer (some ⟨k, 0, none⟩))) ∧
    (Below B w w' ∧ ∀ k, k < w.heap.size → ¬ F k → w'.heap[k]? = w.heap[k]?) ∧ Room w' w.heap.size pv p ∧
    ∀ W : World, (∀ k, k < w'.heap.size → pv.ownBlock ≠ some k → W.heap[k]? = w'.heap[k]?) → w'.heap.size ≤ W.heap.size → Many W rv rs

set_option maxRecDepth 100000 in
theorem open_none (w : World) (B g : Nat) (s : Dsk) (F : Nat → Prop) (n m : Nat) (h : Disk w B g s F) (hh : Has s [] n) (hn : n ≤ 900000) (hm : n ≤ m) :
    Calls Try.prog 9 #[.pointer (some ⟨g, 0, none⟩)] w (OpenedTo B g F [] [] [] m w) := by
  have hB := h.base
  have RF := Lib.hid (fronted w B g s F [] n h hh hn)
  have H0 := Lib.hid h
  have HH := Lib.hid (hh.more hm)
  clear h hh hn hm
  go_enter Try.func9, Try.ntmps9
  go_wp2_with fail
  go_at_call 24
  refine (RF.out).mono ?_
  rintro e w1 ⟨u, rfl, hu, hou, hb1⟩
  obtain ⟨A, c, rfl, _⟩ := hu.slice
  go_wp2
  (try simp only [Exit.inBlock, Exit.then]); refine bodyPost_ret (results_tmp4 rfl _ _ _) rfl ?_
  have hb2 := bal w1 (.cells #[.pointer (some ⟨g, 0, none⟩)] 62)
  have hx := boxF_made w1 [.pointer (some ⟨g, 0, none⟩)] 62
  have hb := bt hb1 hb2
  refine ⟨_, _, _, rfl, ⟨s, F, H0.out.on hb, HH.out, ⟨w1.heap.size, rfl, hx.1, fun hF => ?_, hx.get 0 rfl⟩, fun _ => .inl, fun k e => nomatch e⟩, ⟨hb.mono hB, fun k hk _ => hb.block k hk⟩, Room.nil, fun W _ _ => Many.nil⟩
  have := (H0.out.less _ hF).2
  have := hb1.size
  omega

set_option maxRecDepth 100000 in
set_option maxHeartbeats 2000000 in
theorem open_some (w : World) (B g : Nat) (s : Dsk) (F : Nat → Prop) (a p : List UInt8) (rs : List (List UInt8)) (n m : Nat) (h : Disk w B g s F) (hh : Has s a n) (ha : a = frames (p :: rs)) (hfit : Fit (p :: rs)) (hn : n + a.length + a.length + 14 ≤ 900000) (hm : a.length + a.length ≤ m) :
    Calls Try.prog 9 #[.pointer (some ⟨g, 0, none⟩)] w (OpenedTo B g F a p rs m w) := by
  have hB := h.base
  have hl12 : 12 ≤ a.length := by rw [ha, frames, List.length_append, frame_length]; omega
  have hrl : rs.length < a.length := by rw [ha, frames_len, List.length_cons]; omega
  have hscan : scan a = (p :: rs, a.length) := by
    have := scan_frames (p :: rs) [] hfit
    rw [List.append_nil, ← ha, scan_none (first_short (b := ([] : List UInt8)) (by decide))] at this
    simp only [List.append_nil, Nat.add_zero] at this
    exact this
  have h12 : a.length = 12 → a = frame [] := fun h => by
    rw [ha, frames_len, List.length_cons] at h
    have h1 : total (p :: rs) = p.length + total rs := rfl
    obtain rfl : rs = [] := List.eq_nil_of_length_eq_zero (by omega)
    obtain rfl : p = [] := List.eq_nil_of_length_eq_zero (by omega)
    rw [ha]
    simp [frames]
  have RF := Lib.hid (fronted w B g s F a n h hh (by omega))
  have SC : Hid (∀ (W : World) (v : Value), Seen W W.heap.size v a → Calls Try.prog 27 #[v] W fun e w' => ∃ u, e = .returned (.tuple #[u, .int .i64 (a.length : Int)]) ∧ RoomR w' W.heap.size u (p :: rs) ∧ Below W.heap.size W w') := fun W v hv => by
    have := scan_r v a W hv (by omega)
    unfold ScansR at this
    rw [hscan] at this
    exact this
  have RP : Hid (∀ (W : World) (v : Value), Below w.heap.size w W → Seen W W.heap.size v a → (∀ k, v.ownBlock = some k → w.heap.size ≤ k ∧ k < W.heap.size) → Calls Try.prog 28 #[.pointer (some ⟨g, 0, none⟩), v] W fun e w' => e = .returned (.int .i64 0) ∧ ∃ s', Has s' a m ∧ Turned B g s' F W w') := fun W v hb hv ho =>
    (replaced v a W.heap.size W B g s F a n (h.on hb) hh hv (fun k e => (ho k e).2) (fun k e hF => by have := (h.less k hF).2; have := (ho k e).1; omega) (by omega)).mono fun e w' ⟨h1, s', h2, h3⟩ => ⟨h1, s', h2.more hm, h3⟩
  have HF : Hid (∀ k, F k → k < w.heap.size) := fun k hk => (h.less k hk).2
  have P0 : Hid (∀ W : World, Below w.heap.size w W → Calls Try.prog 25 #[.slice none 0 0, .slice none 0 0] W fun e w' => ∃ v', e = .returned v' ∧ Room w' W.heap.size v' (frame []) ∧ (∀ k, v'.ownBlock = some k → w.heap.size ≤ k ∧ k < w'.heap.size) ∧ Below W.heap.size W w') := fun W hb => (put_new _ [] W Seen.nil (by simp)).mono fun e w' ⟨v', h1, h2, h3, h4⟩ => ⟨v', h1, h2, fun k e => ⟨Nat.le_trans hb.size (h3 k e).1, (h3 k e).2⟩, h4⟩
  have HA12 := Lib.hid h12
  have HLF : Hid ((frame []).length = 12) := by show (frame []).length = 12; rw [frame_length]; rfl
  have l0 : (0 : Int) < (a.length : Int) := by omega
  have HB := Lib.hid hB
  have hrb : rs.length ≤ 900000 := by omega
  have hab : a.length ≤ 900000 := by omega
  have HL12 := Lib.hid hl12
  clear h hh ha hfit hn hm hscan h12 hB hrl hl12
  go_enter Try.func9, Try.ntmps9
  go_wp2_with fail
  go_at_call 24
  refine (RF.out).mono ?_
  rintro e w1 ⟨u, rfl, hu, hou, hb1⟩
  have hou1 : ∀ k, u.ownBlock = some k → w.heap.size ≤ k ∧ k < w1.heap.size := fun k e => ⟨hou k e, (hu.2 k e).2⟩
  obtain ⟨A, c, rfl, hac⟩ := hu.slice
  go_wp2_with fail
  go_at_call 25
  refine (P0.out _ hb1).mono ?_
  rintro e w2 ⟨v2, rfl, hv2, ho2, hb2⟩
  obtain ⟨A2, c2, hv2e, hc2, hc2m, _⟩ := hv2.cut
  rw [HLF.out] at hv2e hc2
  subst hv2e
  have hb02 := bt hb1 hb2
  have hu2 := (hu.on hb2).1.seen
  by_cases hal : a.length = 12
  · have hvs := hv2.seen
    rw [← HA12.out hal] at hvs
    have PX := Lib.hid (prefix_same w2 _ _ _ _ a hvs hu2)
    have SB0 := hvs
    have SB : Seen w2 w2.heap.size (.slice A2 a.length c2) a := by rw [hal]; exact hvs
    have OB : ∀ k, (Value.slice A2 a.length c2).ownBlock = some k → w.heap.size ≤ k ∧ k < w2.heap.size := fun k e => ho2 k (by cases A2 <;> exact e)
    have hcb : a.length ≤ c2 := by omega
    have hcm := hc2m
    clear hvs hal
    go_wp2_with fail
    go_at_call 26
    refine (PX.out).mono ?_
    rintro e w3 ⟨rfl, rfl⟩
    clear PX
    unfold maxLen at hcm
    have hcI : (a.length : Int) ≤ (c2 : Int) := by omega
    have HAB := Lib.hid hb02
    clear hu hou hou1 hac hv2 ho2 hc2 hc2m hb1 hb2 hu2
    go_wp2_with fail
    go_at_call 27
    refine (SC.out _ _ SB0).mono ?_
    rintro e w4 ⟨u4, rfl, hu4, hb4⟩
    obtain ⟨b, off, cr, vp, rfl, hcr, hcrm, hBb, hbw, hcell, hrp, hop, hpb, hmany⟩ := roomR_cons hu4
    unfold maxLen at hcrm
    have hb04 := bt hb02 hb4
    have RP4 := Lib.hid (RP.out w4 _ hb04 (SB.on hb4) (fun k e => ⟨(OB k e).1, Nat.lt_of_lt_of_le (OB k e).2 hb4.size⟩))
    have HMANY := Lib.hid hmany
    clear hmany hu4 SB SB0 OB
    obtain ⟨N, hN⟩ : ∃ N : Nat, N = rs.length + 1 := ⟨_, rfl⟩
    have HN := Lib.hid hN
    have hcrI : (N : Int) ≤ (cr : Int) := by omega
    have hN1 : (1 : Int) ≤ (N : Int) := by omega
    have hN0 : 0 < N := by omega
    rw [← hN]
    clear hN
    go_wp2_with fail
    go_at_call 28
    refine (RP4.out).mono ?_
    rintro e w5 ⟨rfl, s', hs', F', t1, t2, t3, t4⟩
    have hbF : ∀ k, w.heap.size ≤ k → ¬ F k := fun k h1 h2 => by have := HF.out k h2; omega
    have hws : w.heap.size ≤ w2.heap.size := hb02.size
    have k5 : ∀ k, w.heap.size ≤ k → k < w4.heap.size → w5.heap[k]? = w4.heap[k]? := fun k h1 h2 => t4 k h2 (hbF k h1)
    have hc5 : w5.cell? ⟨b, off, none⟩ = some vp := (World.cell?_of_block (a := ⟨b, off, none⟩) (k5 b (Nat.le_trans hws hBb) hbw)).trans hcell
    have hs5 := t3.size
    have hc6 : (w5.drew.alloc (.cells #[.pointer (some ⟨g, 0, none⟩)] 62)).cell? ⟨b, off, none⟩ = some vp := (World.cell?_of_block (a := ⟨b, off, none⟩) ((bal w5.drew (.cells #[.pointer (some ⟨g, 0, none⟩)] 62)).block b (show b < w5.heap.size by omega))).trans hc5
    have HT : Hid (Disk w5 B g s' F' ∧ (∀ k, F' k → F k ∨ w4.heap.size ≤ k) ∧ Below B w4 w5 ∧ ∀ k, k < w4.heap.size → ¬ F k → w5.heap[k]? = w4.heap[k]?) := ⟨t1, t2, t3, t4⟩
    have HRP := Lib.hid hrp
    have HOP := Lib.hid hop
    have HPB := Lib.hid hpb
    obtain ⟨Ap, cp, rfl, _⟩ := hrp.cut
    have HLE : Hid (w4.heap.size ≤ w5.heap.size ∧ b < w4.heap.size ∧ w2.heap.size ≤ b) := ⟨hs5, hbw, hBb⟩
    clear t1 t2 t3 t4 hrp hop hpb hs5 hbw hBb
    go_wp2
    first | (go_region_held3 (fun W => W.cell? ⟨b, off, none⟩ = some (.slice Ap p.length cp)) (first | exact hc5 | exact hc6) (fail)) | fail
    have hbE : Below w5.heap.size w5 (w5.alloc (.cells #[.pointer (some ⟨g, 0, none⟩)] 62)).drew := (bal w5 (.cells #[.pointer (some ⟨g, 0, none⟩)] 62)).drew
    have hxE : BoxF w5.heap.size [.pointer (some ⟨g, 0, none⟩)] (w5.alloc (.cells #[.pointer (some ⟨g, 0, none⟩)] 62)).drew := (boxF_made w5 [.pointer (some ⟨g, 0, none⟩)] 62).on (Below.refl _ _).drew
    obtain ⟨wE, hwE⟩ : ∃ x, x = (w5.alloc (.cells #[.pointer (some ⟨g, 0, none⟩)] 62)).drew := ⟨_, rfl⟩
    rw [← hwE] at hbE hxE ⊢
    obtain ⟨AR, hAR⟩ : ∃ AR : Option Addr, AR = (if cr = 1 then some ⟨b, off, none⟩ else some ⟨b, off + 1, none⟩) := ⟨_, rfl⟩
    rw [← hAR] at HMANY ⊢
    clear hwE hAR
    go_wp2
    (try simp only [Exit.inBlock, Exit.then]); refine bodyPost_ret (results_tmp4 rfl _ _ _) rfl ?_
    obtain ⟨t1, t2, t3, t4⟩ := HT.out
    have hle := HLE.out
    have hsE := hbE.size
    have hlt := HRP.out.own_lt
    have hB := HB.out
    refine ⟨_, _, _, rfl, ⟨s', F', t1.on hbE, hs', ⟨w5.heap.size, rfl, hxE.1, fun hF => by have := (t1.less _ hF).2; omega, hxE.get 0 rfl⟩, fun k hk => (t2 k hk).imp id fun q => by omega, fun k e => ⟨fun hF => ?_, Nat.le_trans hws (HOP.out k e), fun q => ?_⟩⟩,
      ⟨(hb04.mono hB).trans (t3.trans (hbE.mono (by omega))), fun k hk hn => (hbE.block k (by omega)).trans ((t4 k (by omega) hn).trans (hb04.block k hk))⟩, ?_, fun W hk hs => ?_⟩
    · rcases t2 k hF with q | q
      · exact hbF k (Nat.le_trans hws (HOP.out k e)) q
      · have := hlt k e
        omega
    · injection q with q
      injection q with q
      injection q with q
      have := hlt k e
      omega
    · exact ((HRP.out.kept (fun k e => k5 k (Nat.le_trans hws (HOP.out k e)) (hlt k e)) (by omega)).on hbE).low (fun k e => HOP.out k e) hws
    · rw [show N - 1 = rs.length by have := HN.out; omega]
      exact HMANY.out W (fun k q1 q2 q3 => (hk k (by omega) q3).trans ((hbE.block k (by omega)).trans (k5 k (Nat.le_trans hws q1) q2))) (by omega)
  · have PX := Lib.hid (prefix_no w2 _ _ _ _ (frame []) a hv2.seen hu2 (by have := HLF.out; have := HL12.out; omega))
    go_wp2_with fail
    go_at_call 26
    refine (PX.out).mono ?_
    rintro e w3 ⟨rfl, rfl⟩
    have SB := hu2
    have SB0 := hu2
    have OB : ∀ k, (Value.slice A a.length c).ownBlock = some k → w.heap.size ≤ k ∧ k < w2.heap.size := fun k e => ⟨(hou1 k e).1, Nat.lt_of_lt_of_le (hou1 k e).2 hb2.size⟩
    have hcb : a.length ≤ c := hac.1
    have hcm := hac.2
    clear PX hal
    unfold maxLen at hcm
    have hcI : (a.length : Int) ≤ (c : Int) := by omega
    have HAB := Lib.hid hb02
    clear hu hou hou1 hac hv2 ho2 hc2 hc2m hb1 hb2 hu2
    go_wp2_with fail
    go_at_call 27
    refine (SC.out _ _ SB0).mono ?_
    rintro e w4 ⟨u4, rfl, hu4, hb4⟩
    obtain ⟨b, off, cr, vp, rfl, hcr, hcrm, hBb, hbw, hcell, hrp, hop, hpb, hmany⟩ := roomR_cons hu4
    unfold maxLen at hcrm
    have hb04 := bt hb02 hb4
    have RP4 := Lib.hid (RP.out w4 _ hb04 (SB.on hb4) (fun k e => ⟨(OB k e).1, Nat.lt_of_lt_of_le (OB k e).2 hb4.size⟩))
    have HMANY := Lib.hid hmany
    clear hmany hu4 SB SB0 OB
    obtain ⟨N, hN⟩ : ∃ N : Nat, N = rs.length + 1 := ⟨_, rfl⟩
    have HN := Lib.hid hN
    have hcrI : (N : Int) ≤ (cr : Int) := by omega
    have hN1 : (1 : Int) ≤ (N : Int) := by omega
    have hN0 : 0 < N := by omega
    rw [← hN]
    clear hN
    go_wp2_with fail
    go_at_call 28
    refine (RP4.out).mono ?_
    rintro e w5 ⟨rfl, s', hs', F', t1, t2, t3, t4⟩
    have hbF : ∀ k, w.heap.size ≤ k → ¬ F k := fun k h1 h2 => by have := HF.out k h2; omega
    have hws : w.heap.size ≤ w2.heap.size := hb02.size
    have k5 : ∀ k, w.heap.size ≤ k → k < w4.heap.size → w5.heap[k]? = w4.heap[k]? := fun k h1 h2 => t4 k h2 (hbF k h1)
    have hc5 : w5.cell? ⟨b, off, none⟩ = some vp := (World.cell?_of_block (a := ⟨b, off, none⟩) (k5 b (Nat.le_trans hws hBb) hbw)).trans hcell
    have hs5 := t3.size
    have hc6 : (w5.drew.alloc (.cells #[.pointer (some ⟨g, 0, none⟩)] 62)).cell? ⟨b, off, none⟩ = some vp := (World.cell?_of_block (a := ⟨b, off, none⟩) ((bal w5.drew (.cells #[.pointer (some ⟨g, 0, none⟩)] 62)).block b (show b < w5.heap.size by omega))).trans hc5
    have HT : Hid (Disk w5 B g s' F' ∧ (∀ k, F' k → F k ∨ w4.heap.size ≤ k) ∧ Below B w4 w5 ∧ ∀ k, k < w4.heap.size → ¬ F k → w5.heap[k]? = w4.heap[k]?) := ⟨t1, t2, t3, t4⟩
    have HRP := Lib.hid hrp
    have HOP := Lib.hid hop
    have HPB := Lib.hid hpb
    obtain ⟨Ap, cp, rfl, _⟩ := hrp.cut
    have HLE : Hid (w4.heap.size ≤ w5.heap.size ∧ b < w4.heap.size ∧ w2.heap.size ≤ b) := ⟨hs5, hbw, hBb⟩
    clear t1 t2 t3 t4 hrp hop hpb hs5 hbw hBb
    go_wp2
    first | (go_region_held3 (fun W => W.cell? ⟨b, off, none⟩ = some (.slice Ap p.length cp)) (first | exact hc5 | exact hc6) (fail)) | fail
    have hbE : Below w5.heap.size w5 (w5.alloc (.cells #[.pointer (some ⟨g, 0, none⟩)] 62)).drew := (bal w5 (.cells #[.pointer (some ⟨g, 0, none⟩)] 62)).drew
    have hxE : BoxF w5.heap.size [.pointer (some ⟨g, 0, none⟩)] (w5.alloc (.cells #[.pointer (some ⟨g, 0, none⟩)] 62)).drew := (boxF_made w5 [.pointer (some ⟨g, 0, none⟩)] 62).on (Below.refl _ _).drew
    obtain ⟨wE, hwE⟩ : ∃ x, x = (w5.alloc (.cells #[.pointer (some ⟨g, 0, none⟩)] 62)).drew := ⟨_, rfl⟩
    rw [← hwE] at hbE hxE ⊢
    obtain ⟨AR, hAR⟩ : ∃ AR : Option Addr, AR = (if cr = 1 then some ⟨b, off, none⟩ else some ⟨b, off + 1, none⟩) := ⟨_, rfl⟩
    rw [← hAR] at HMANY ⊢
    clear hwE hAR
    go_wp2
    (try simp only [Exit.inBlock, Exit.then]); refine bodyPost_ret (results_tmp4 rfl _ _ _) rfl ?_
    obtain ⟨t1, t2, t3, t4⟩ := HT.out
    have hle := HLE.out
    have hsE := hbE.size
    have hlt := HRP.out.own_lt
    have hB := HB.out
    refine ⟨_, _, _, rfl, ⟨s', F', t1.on hbE, hs', ⟨w5.heap.size, rfl, hxE.1, fun hF => by have := (t1.less _ hF).2; omega, hxE.get 0 rfl⟩, fun k hk => (t2 k hk).imp id fun q => by omega, fun k e => ⟨fun hF => ?_, Nat.le_trans hws (HOP.out k e), fun q => ?_⟩⟩,
      ⟨(hb04.mono hB).trans (t3.trans (hbE.mono (by omega))), fun k hk hn => (hbE.block k (by omega)).trans ((t4 k (by omega) hn).trans (hb04.block k hk))⟩, ?_, fun W hk hs => ?_⟩
    · rcases t2 k hF with q | q
      · exact hbF k (Nat.le_trans hws (HOP.out k e)) q
      · have := hlt k e
        omega
    · injection q with q
      injection q with q
      injection q with q
      have := hlt k e
      omega
    · exact ((HRP.out.kept (fun k e => k5 k (Nat.le_trans hws (HOP.out k e)) (hlt k e)) (by omega)).on hbE).low (fun k e => HOP.out k e) hws
    · rw [show N - 1 = rs.length by have := HN.out; omega]
      exact HMANY.out W (fun k q1 q2 q3 => (hk k (by omega) q3).trans ((hbE.block k (by omega)).trans (k5 k (Nat.le_trans hws q1) q2))) (by omega)

end Go.Proofs.Ytoggdpkpfdilnaa
