/-
  FrameKeeps' walk, given that what frame.Scan tells lies in memory of the call's own.
-/
import Derived.Test.YtakgkhfakjfodaaSp
namespace Go.Proofs.Ytakgkhfakjfodaa
open Go.RowKit
attribute [local go_sem ↓] Go.wp_at_zero Go.wp_at_succ

/-- a slice that may be written, in no block below B -/
def WrB (w : World) (B : Nat) (u : Value) : Prop := ∃ A n c, u = .slice A n c ∧ n ≤ c ∧ c ≤ maxLen ∧
  (n = 0 ∨ ∃ g off, A = some ⟨g, off, none⟩ ∧ B ≤ g ∧ ∀ j, j < n → (∃ x, w.cell? ⟨g, off + j, none⟩ = some x) ∧ w.frozen? ⟨g, off + j, none⟩ = false)
/-- a row of slices none of which lies in the row's own block -/
def OutV (w : World) (A : Option Addr) (vs : List Value) : Prop := vs = [] ∨ ∃ b off, A = some ⟨b, off, none⟩ ∧ b < w.heap.size ∧ RowV w b off vs ∧ ∀ u ∈ vs, ∀ g, u.ownBlock = some g → g ≠ b
def KeptM (w0 : World) (B : Nat) (A : Option Addr) (vs : List Value) (w : World) : Prop := OutV w A vs ∧ (∀ u ∈ vs, WrB w B u) ∧ Below B w0 w
/-- frame.Scan's contract, of what may be written -/
def ScanNew : Prop := ∀ (w : World) (v : Value) (l : List UInt8), Seen w w.heap.size v l → l.length ≤ 16777216 → Calls Try.prog 13 #[v] w fun e w' =>
  ∃ A c vs n, e = .returned (.tuple #[.slice A vs.length c, n]) ∧ vs.length ≤ c ∧ c ≤ maxLen ∧ KeptM w w.heap.size A vs w'

theorem WrB.set {w : World} {B : Nat} {u x y : Value} {p : Addr} (h : WrB w B u) (hp : w.cell? p = some x) : WrB (w.setCell p y) B u := by
  obtain ⟨A, n, c, rfl, h1, h2, h3⟩ := h
  refine ⟨A, n, c, rfl, h1, h2, h3.imp id ?_⟩
  rintro ⟨g, off, rfl, hB, h4⟩
  refine ⟨g, off, rfl, hB, fun j hj => ⟨?_, by rw [World.frozen?_setCell]; exact (h4 j hj).2⟩⟩
  by_cases e : (⟨g, off + j, none⟩ : Addr) = p
  · subst e
    exact ⟨_, World.cell?_setCell_same _ _ _ hp⟩
  · obtain ⟨z, hz⟩ := (h4 j hj).1
    exact ⟨z, by rw [World.cell?_setCell_other _ _ _ _ (Ne.symm e)]; exact hz⟩
theorem OutV.set {w : World} {A : Option Addr} {vs : List Value} {g o : Nat} {y : Value} (h : OutV w A vs) (hg : ∀ b off, A = some ⟨b, off, none⟩ → g ≠ b) : OutV (w.setCell ⟨g, o, none⟩ y) A vs := by
  rcases h with h | ⟨b, off, rfl, h1, h2, h3⟩
  · exact .inl h
  · refine .inr ⟨b, off, rfl, by simpa [World.setCell] using h1, fun j hj => ?_, h3⟩
    rw [World.cell?_setCell_other _ _ _ _ (by intro h; injection h with h _; exact hg b off rfl h)]
    exact h2 j hj
/-- One byte of one of them turned. -/
theorem KeptM.put {w0 w : World} {B : Nat} {A : Option Addr} {vs : List Value} (h : KeptM w0 B A vs w) (i : Nat) (hi : i < vs.length) : ∃ Ai ni ci, vs[i] = .slice Ai ni ci ∧ ni ≤ ci ∧ ci ≤ maxLen ∧ (∃ b off, A = some ⟨b, off, none⟩ ∧ w.cell? ⟨b, off + i, none⟩ = some (.slice Ai ni ci)) ∧
    ∀ k, k < ni → ∃ g off x, Ai = some ⟨g, off, none⟩ ∧ w.cell? ⟨g, off + k, none⟩ = some x ∧ w.frozen? ⟨g, off + k, none⟩ = false ∧ ∀ y, KeptM w0 B A vs (w.setCell ⟨g, off + k, none⟩ y) := by
  obtain ⟨h1, h2, h3⟩ := h
  obtain ⟨Ai, ni, ci, e, a1, a2, a3⟩ := h2 vs[i] (List.getElem_mem hi)
  rcases h1 with rfl | ⟨b, off, rfl, hb, hrow, hne⟩
  · cases hi
  · refine ⟨Ai, ni, ci, e, a1, a2, ⟨b, off, rfl, by rw [← e]; exact hrow i hi⟩, fun k hk => ?_⟩
    rcases a3 with a3 | ⟨g, o, rfl, hB, hw⟩
    · omega
    · obtain ⟨⟨x, hx⟩, hfz⟩ := hw k hk
      refine ⟨g, o, x, rfl, hx, hfz, fun y => ⟨OutV.set (.inr ⟨b, off, rfl, hb, hrow, hne⟩) ?_, fun u hu => (h2 u hu).set hx, h3.trans ((Below.refl B w).setCell hB _)⟩⟩
      intro b' off' hA
      injection hA with hA
      injection hA with hA _
      subst hA
      exact hne vs[i] (List.getElem_mem hi) g (by rw [e]; rfl)

def KeepOut (w0 : World) (B : Nat) (A : Option Addr) (vs : List Value) (i _k : Value) (wr : World) : Prop := ∃ n : Nat, n ≤ vs.length ∧ i = .int .i64 (n : Int) ∧ KeptM w0 B A vs wr
def KeepIn (w0 : World) (B : Nat) (A : Option Addr) (vs : List Value) (ni : Nat) (k : Value) (wr : World) : Prop := ∃ q : Nat, q ≤ ni ∧ k = .int .i64 (q : Int) ∧ KeptM w0 B A vs wr

set_option maxRecDepth 100000 in
set_option maxHeartbeats 1000000 in
theorem keeps_walk (AW : AwakeOk) (SC : ScanNew) (v : Value) (ls : List (List UInt8)) (w : World) (hv : Many w v ls) (hf : fewB ls = true) :
    Calls Try.prog 8 #[v] w fun e w' => e = .returned (.bool true) ∧ Below w.heap.size w w' := by
  obtain ⟨i0, hi0, hz0, hz1, hz2⟩ := info_parts byte_info
  obtain ⟨f1, f2, f3⟩ := fewB_is hf
  have HM := Lib.hid hv
  have HAW := Lib.hid AW
  unfold ScanNew at SC
  have HSC := Lib.hid SC
  have HF := Lib.hid (fun w (h : Many w v ls) => few_any v ls w h)
  rw [hf] at HF
  have hfl : (frames ls).length ≤ 4000 := by rw [frames_len]; omega
  have HR := Lib.hid (fun w (h : Many w v ls) => row_any v ls w h (by omega) (fun r hr => by have := f2 r hr; omega))
  obtain ⟨L, hL⟩ : ∃ L, L = frames ls := ⟨_, rfl⟩
  rw [← hL] at hfl HR
  have hpl : ([] : List UInt8).length + L.length ≤ 1099511627776 := by simp only [List.length_nil]; omega
  clear AW SC hf f1 f2 f3 hL hv
  go_enter Try.func8, Try.ntmps8
  go_wp2_with fail
  (go_at_call 9; refine (HAW.out _).mono ?_; rintro e w0 ⟨rfl, hb0⟩)
  go_wp2_with fail
  (go_at_call 16; (with_reducible refine (HF.out _ (HM.out.on hb0)).mono ?_); rintro e w' ⟨rfl, rfl⟩)
  go_wp2_with fail
  (go_at_call 17; (with_reducible refine (HR.out _ (HM.out.on hb0)).mono ?_); rintro e w1 ⟨v1, rfl, hr1, hb1⟩)
  have S1 := Lib.hid (show Seen w1 w1.heap.size v1 L from hr1.seen)
  go_wp2_with (at_builtin; refine wpList_append8 (B := w1.heap.size) (l := []) (m := L) rfl (.tmp 19) (.tmp 20) 22 22 rfl 5 i0 Try.underlying22 hi0 hz0 hz1 hz2 (room_new w1) (by simp) (Seen.src (S1.out.below (bal w1 _)) Try.underlying22) hpl rfl rfl ?_; intro v2 w2 hr2 hb2)
  have hb12 := Lib.hid (show Below w1.heap.size w1 w2 from (bal w1 _).trans hb2)
  have S2 := Lib.hid (show Seen w2 w2.heap.size v2 L from hr2.seen)
  (go_at_call 13; (with_reducible refine (HSC.out _ _ _ (S1.out.on hb12.out) (by omega)).mono ?_); rintro e w3 ⟨A, c, vs, x, rfl, hlc, hcm, hk⟩)
  have HK := Lib.hid hk
  unfold maxLen at hcm
  have vc : (vs.length : Int) ≤ (c : Int) := by omega
  clear hr1 hr2 hk
  go_wp2_with fail
  go_loopw [7, 8] (KeepOut w2 w2.heap.size A vs) (fun i _ _ => vs.length - (intOf i).toNat)
  case atStart => exact ⟨0, Nat.zero_le _, rfl, HK.out⟩
  case round =>
    obtain ⟨n, hn, rfl, hkm⟩ := hrel
    by_cases hlt : n < vs.length
    · obtain ⟨Ai, ni, ci, e, a1, a2, _, _⟩ := hkm.put n hlt
      unfold maxLen at a2
      have HE := Lib.hid e
      have HKM := Lib.hid hkm
      have n0 : (0 : Int) ≤ (n : Int) := by omega
      have n1 : (n : Int) < (vs.length : Int) := by omega
      clear e hkm
      go_wp2_with fail
      go_loopw [8] (KeepIn w2 w2.heap.size A vs ni) (fun k _ => ni - (intOf k).toNat)
      case atStart => exact ⟨0, Nat.zero_le _, rfl, HKM.out⟩
      case round =>
        obtain ⟨q, hq, rfl, hkq⟩ := hrel
        obtain ⟨Ai', ni', ci', e, _, _, ⟨b, off, rfl, hcell⟩, hput⟩ := hkq.put n hlt
        rw [HE.out] at e
        injection e with e1 e2 e3
        subst e1 e2 e3
        by_cases hqt : q < ni
        · obtain ⟨g, o, x, rfl, hx, hfz, hput'⟩ := hput q hqt
          have HP := Lib.hid hput'
          have q0 : (0 : Int) ≤ (q : Int) := by omega
          have q1 : (q : Int) < (ni : Int) := by omega
          clear hput hput' hkq
          go_wp2
          go_roundw
          case rel => exact ⟨q + 1, by omega, by go_num, HP.out _⟩
          case measure => simp [intOf]; omega
        · obtain rfl : q = ni := by omega
          have HKQ := Lib.hid hkq
          clear hput hkq
          go_wp2
          go_roundw
          case rel => exact ⟨n + 1, by omega, by go_num, HKQ.out⟩
          case measure => simp [intOf]; omega
    · obtain rfl : n = vs.length := by omega
      have hb2r := Lib.hid hkm.2.2
      have SA := Lib.hid (same_any (l := L) (m := L) wr ((S1.out.on hb12.out).on hb2r.out) (S2.out.on hb2r.out))
      have HBW := Lib.hid (show Below w.heap.size w wr from bt hb0 (bt hb1 (bt hb12.out hb2r.out)))
      clear hkm
      go_wp2_with fail
      (go_at_call 10; (with_reducible refine SA.out.mono ?_); rintro e w4 ⟨rfl, k, rfl⟩)
      go_wp2_with fail
      go_ret
      exact ⟨ret_bool (by simp), bt HBW.out (below_drewN _ _ _)⟩

end Go.Proofs.Ytakgkhfakjfodaa
