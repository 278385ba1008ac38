/-
  wal.replace, of whatever disk on which nothing fails.
-/
import Derived.Test.YtoggdpkpfdilnaaLa
namespace Go.Proofs.Ytoggdpkpfdilnaa
open Go.RowKit
attribute [local go_sem ↓] Go.wp_at_zero Go.wp_at_succ

/-- the five steps, in a row -/
def fiveV (b g : Nat) : List Value := [.func (.func 45) #[] #[.pointer (some ⟨b, 0, none⟩), .pointer (some ⟨b + 1 + 1, 0, none⟩)],
  .func (.func 47) #[] #[.pointer (some ⟨b, 0, none⟩), .pointer (some ⟨b + 1 + 1, 0, none⟩), .pointer (some ⟨b + 1, 0, none⟩)],
  .func (.func 37) #[.pointer (some ⟨g, 0, none⟩)] #[],
  .func (.func 48) #[] #[.pointer (some ⟨b, 0, none⟩), .pointer (some ⟨b + 1 + 1, 0, none⟩)],
  .func (.func 37) #[.pointer (some ⟨g, 0, none⟩)] #[]]
/-- where they are gone through -/
def fiveW (w : World) (g : Nat) (v : Value) (o : Int) : World :=
  (((w.alloc (.cells #[.pointer (some ⟨g, 0, none⟩)] 25)).alloc (.cells #[v] 28)).alloc (.cells #[.int .i64 o] 3)).alloc (.cells (fiveV w.heap.size g).toArray 51)
theorem five_at (w : World) (g : Nat) (v : Value) (o : Int) : Below w.heap.size w (fiveW w g v o) ∧ w.heap.size + 1 + 1 + 1 < (fiveW w g v o).heap.size ∧ (fiveW w g v o).cell? ⟨w.heap.size, 0, none⟩ = some (.pointer (some ⟨g, 0, none⟩)) ∧
    (fiveW w g v o).cell? ⟨w.heap.size + 1, 0, none⟩ = some v ∧ (fiveW w g v o).cell? ⟨w.heap.size + 1 + 1, 0, none⟩ = some (.int .i64 o) ∧ ∀ i u, (fiveV w.heap.size g)[i]? = some u → (fiveW w g v o).cell? ⟨w.heap.size + 1 + 1 + 1, i, none⟩ = some u := by
  unfold fiveW
  generalize hL : fiveV w.heap.size g = L
  obtain ⟨w1, h1⟩ : ∃ x, x = w.alloc (.cells #[.pointer (some ⟨g, 0, none⟩)] 25) := ⟨_, rfl⟩
  obtain ⟨w2, h2⟩ : ∃ x, x = w1.alloc (.cells #[v] 28) := ⟨_, rfl⟩
  obtain ⟨w3, h3⟩ : ∃ x, x = w2.alloc (.cells #[.int .i64 o] 3) := ⟨_, rfl⟩
  obtain ⟨w4, h4⟩ : ∃ x, x = w3.alloc (.cells L.toArray 51) := ⟨_, rfl⟩
  rw [← h1, ← h2, ← h3, ← h4]
  have s1 : w1.heap.size = w.heap.size + 1 := by rw [h1]; simp
  have s2 : w2.heap.size = w.heap.size + 1 + 1 := by rw [h2, ← s1]; simp
  have s3 : w3.heap.size = w.heap.size + 1 + 1 + 1 := by rw [h3, ← s2]; simp
  have s4 : w4.heap.size = w.heap.size + 1 + 1 + 1 + 1 := by rw [h4, ← s3]; simp
  have b1 : Below w.heap.size w w1 := by rw [h1]; exact bal _ _
  have b2 : Below w1.heap.size w1 w2 := by rw [h2]; exact bal _ _
  have b3 : Below w2.heap.size w2 w3 := by rw [h3]; exact bal _ _
  have b4 : Below w3.heap.size w3 w4 := by rw [h4]; exact bal _ _
  have x1 : BoxF w.heap.size [.pointer (some ⟨g, 0, none⟩)] w1 := by rw [h1]; exact boxF_made _ _ _
  have x2 : BoxF w1.heap.size [v] w2 := by rw [h2]; exact boxF_made _ _ _
  have x3 : BoxF w2.heap.size [.int .i64 o] w3 := by rw [h3]; exact boxF_made _ _ _
  have x4 : BoxF w3.heap.size L w4 := by rw [h4]; exact boxF_made _ _ _
  refine ⟨bt b1 (bt b2 (bt b3 b4)), by omega, (((x1.on b2).on b3).on b4).get 0 rfl, ?_, ?_, ?_⟩
  · rw [← s1]; exact ((x2.on b3).on b4).get 0 rfl
  · rw [← s2]; exact (x3.on b4).get 0 rfl
  · rw [← s3]; exact fun i u e => x4.get i e

/-- what stands there so many steps on -/
def Stood (s s1 s2 s3 s4 s5 : Dsk) (k : Nat) (x : Dsk) : Prop := (k = 0 ∧ x = s) ∨ (k = 1 ∧ x = s1) ∨ (k = 2 ∧ x = s2) ∨ (k = 3 ∧ x = s3) ∨ (k = 4 ∧ x = s4) ∨ (k = 5 ∧ x = s5)
theorem Turned.step {B g : Nat} {s s' : Dsk} {F F1 : Nat → Prop} {w w1 w' : World} (a1 : Disk w1 B g s F1) (a2 : ∀ k, F1 k → F k ∨ w.heap.size ≤ k) (a3 : Below B w w1) (a4 : ∀ k, k < w.heap.size → ¬ F k → w1.heap[k]? = w.heap[k]?) (h : Turned B g s' F1 w1 w') : Turned B g s' F w w' :=
  Turned.trans (s := s) ⟨F1, a1, a2, a3, a4, h⟩

set_option maxRecDepth 100000 in
set_option maxHeartbeats 1000000 in
theorem replaced (v : Value) (l : List UInt8) (B0 : Nat) (w : World) (B g : Nat) (s : Dsk) (F : Nat → Prop) (a : List UInt8) (n : Nat) (h : Disk w B g s F) (hh : Has s a n) (hv : Seen w B0 v l) (hvw : ∀ k, v.ownBlock = some k → k < w.heap.size) (hvF : ∀ k, v.ownBlock = some k → ¬ F k) (hn : n + a.length + l.length + 2 ≤ 900000) :
    Calls Try.prog 28 #[.pointer (some ⟨g, 0, none⟩), v] w fun e w' => e = .returned (.int .i64 0) ∧ ∃ s', Has s' l (l.length + a.length) ∧ Turned B g s' F w w' := by
  have hri : s.right := by obtain ⟨_, _, _, _, _, _, _, _, h⟩ := h; exact h
  obtain ⟨s1, s2, s3, s4, s5, q1, q2, q3, q4, q5, hh5, m1, m2, m3, m4⟩ := hh.swap hri l
  obtain ⟨f, hf⟩ : ∃ f, f = s.now.front := ⟨_, rfl⟩
  have hf0 : 0 ≤ f := by have := hh.side; omega
  have hf1 : f ≤ 1 := by have := hh.side; omega
  have hm := hh.most
  have hB := h.base
  have RF := Lib.hid (fun W (hb : Below w.heap.size w W) => first_of (h.on hb) (calm_down hh.calm) hf.symm)
  rw [← hf] at q1 q2 q4
  obtain ⟨o, ho⟩ : ∃ o, o = 1 - f := ⟨_, rfl⟩
  rw [← ho] at q1 q2 q4
  have HO := Lib.hid ho.symm
  have FA := five_at w g v o
  obtain ⟨y1, y2, y3, y4, y5, y6⟩ := FA
  have hvk : ∀ k, v.ownBlock = some k → k < (fiveW w g v o).heap.size := fun k e => Nat.lt_of_lt_of_le (hvw k e) y1.size
  have TS : Turned B g s F (fiveW w g v o) (fiveW w g v o) := (h.on y1).same (Nat.le_trans hB y1.size) (Below.refl _ _)
  have HV : Hid (∀ W : World, (∀ k, v.ownBlock = some k → W.heap[k]? = w.heap[k]?) → w.heap.size ≤ W.heap.size → Seen W W.heap.size v l) := fun W hk hs => hv.keep fun b e _ => ⟨hk b e, Nat.lt_of_lt_of_le (hvw b e) hs, Nat.lt_of_lt_of_le (hvw b e) hs⟩
  have HF : Hid (∀ k, F k → k < w.heap.size) := fun k hk => (h.less k hk).2
  have HT : Hid (∀ W W' : World, Turned B g s5 F W W' → Below w.heap.size w W → Turned B g s5 F w W') := fun W W' hT hb => by
    obtain ⟨F', d1, d2, d3, d4⟩ := hT
    exact ⟨F', d1, fun k hk => (d2 k hk).imp id fun h => Nat.le_trans hb.size h, (hb.mono hB).trans d3, fun k hk hn => (d4 k (Nat.lt_of_lt_of_le hk hb.size) hn).trans (hb.block k hk)⟩
  have HQ1 := Lib.hid q1
  have HQ2 := Lib.hid q2
  have HQ3 := Lib.hid q3
  have HQ4 := Lib.hid q4
  have HQ5 := Lib.hid q5
  have HM : Hid (s.mass + 1 ≤ 900000 ∧ s1.mass + l.length + 1 ≤ 900000 ∧ s2.mass ≤ 900000 ∧ s3.mass + 1 ≤ 900000 ∧ s4.mass ≤ 900000) := by
    refine ⟨?_, ?_, ?_, ?_, ?_⟩ <;> omega
  have HY : Hid (Below w.heap.size w (fiveW w g v o) ∧ w.heap.size + 1 + 1 + 1 < (fiveW w g v o).heap.size) := ⟨y1, y2⟩
  have HC : Hid (∀ W : World, (∀ k, k < (fiveW w g v o).heap.size → ¬ F k → W.heap[k]? = (fiveW w g v o).heap[k]?) → W.cell? ⟨w.heap.size, 0, none⟩ = some (.pointer (some ⟨g, 0, none⟩)) ∧ W.cell? ⟨w.heap.size + 1, 0, none⟩ = some v ∧ W.cell? ⟨w.heap.size + 1 + 1, 0, none⟩ = some (.int .i64 o) ∧ ∀ i u, (fiveV w.heap.size g)[i]? = some u → W.cell? ⟨w.heap.size + 1 + 1 + 1, i, none⟩ = some u) := fun W hk => by
    have hFk : ∀ k, w.heap.size ≤ k → ¬ F k := fun k h1 h2 => by have := HF.out k h2; omega
    exact ⟨(World.cell?_of_block (a := ⟨w.heap.size, 0, none⟩) (hk (w.heap.size) (by omega) (hFk (w.heap.size) (by omega)))).trans y3, (World.cell?_of_block (a := ⟨w.heap.size + 1, 0, none⟩) (hk (w.heap.size + 1) (by omega) (hFk (w.heap.size + 1) (by omega)))).trans y4, (World.cell?_of_block (a := ⟨w.heap.size + 1 + 1, 0, none⟩) (hk (w.heap.size + 1 + 1) (by omega) (hFk (w.heap.size + 1 + 1) (by omega)))).trans y5,
      fun i u e => (World.cell?_of_block (a := ⟨w.heap.size + 1 + 1 + 1, i, none⟩) (hk (w.heap.size + 1 + 1 + 1) (by omega) (hFk (w.heap.size + 1 + 1 + 1) (by omega)))).trans (y6 i u e)⟩
  have HVW : Hid (∀ W : World, (∀ k, k < (fiveW w g v o).heap.size → ¬ F k → W.heap[k]? = (fiveW w g v o).heap[k]?) → (fiveW w g v o).heap.size ≤ W.heap.size → Seen W W.heap.size v l) := fun W hk hs =>
    HV.out W (fun k e => (hk k (hvk k e) (hvF k e)).trans (y1.block k (hvw k e))) (Nat.le_trans y1.size hs)
  have HTS := Lib.hid TS
  have HH5 := Lib.hid hh5
  obtain ⟨A, c, rfl, hA⟩ := hv
  clear hA HV hvw hvF hvk TS q1 q2 q3 q4 q5 m1 m2 m3 m4 hm hn hh5 hh h hri y1 y2 y3 y4 y5 y6 hB hf ho
  go_enter Try.func28, Try.ntmps28
  go_wp2_with fail
  go_at_call 13
  refine (RF.out _ (bt (bal _ _) (bal _ _))).mono ?_
  rintro e w1 ⟨rfl, rfl⟩
  go_wp2_with fail
  rw [HO.out]
  go_loopw [32] (fun i wr => ∃ k : Nat, i = .int .i64 (k : Int) ∧ ∃ x, Stood s s1 s2 s3 s4 s5 k x ∧ Turned B g x F (fiveW w g (.slice A l.length c) o) wr) (fun i _ => 5 - (intOf i).toNat)
  case atStart => exact ⟨0, rfl, _, .inl ⟨rfl, rfl⟩, HTS.out⟩
  case round =>
    obtain ⟨k, rfl, x, hx, hT⟩ := hrel
    obtain ⟨Fk, d1, d2, d3, d4⟩ := hT
    have hsz := d3.size
    obtain ⟨z1, z2, z3, z4⟩ := HC.out wr d4
    have HVX := Lib.hid (HVW.out wr d4 hsz)
    have D1 := Lib.hid d1
    have D2 := Lib.hid d2
    have D3 := Lib.hid d3
    have D4 := Lib.hid d4
    clear d1 d2 d3 d4
    rcases hx with ⟨rfl, rfl⟩ | ⟨rfl, rfl⟩ | ⟨rfl, rfl⟩ | ⟨rfl, rfl⟩ | ⟨rfl, rfl⟩ | ⟨rfl, rfl⟩
    · have z5 := z4 0 _ rfl
      have RC := Lib.hid (step_wipe D1.out z1 z3 HM.out.1 HQ1.out)
      clear z4
      go_wp2_with (go_at_call 45; (with_reducible refine (RC.out).mono ?_); rintro e w1 ⟨rfl, ht⟩)
      go_roundw
      case rel => exact ⟨1, rfl, _, .inr (.inl ⟨rfl, rfl⟩), Turned.step D1.out D2.out D3.out D4.out ht⟩
      case measure => simp [intOf]
    · have z5 := z4 1 _ rfl
      have RC := Lib.hid (step_append D1.out z1 z3 z2 HVX.out HM.out.2.1 HQ2.out)
      clear z4
      go_wp2_with (go_at_call 47; (with_reducible refine (RC.out).mono ?_); rintro e w1 ⟨rfl, ht⟩)
      go_roundw
      case rel => exact ⟨2, rfl, _, .inr (.inr (.inl ⟨rfl, rfl⟩)), Turned.step D1.out D2.out D3.out D4.out ht⟩
      case measure => simp [intOf]
    · have z5 := z4 2 _ rfl
      have RC := Lib.hid (sync_is D1.out HM.out.2.2.1 HQ3.out)
      clear z4
      go_wp2_with (go_at_call 37; (with_reducible refine (RC.out).mono ?_); rintro e w1 ⟨rfl, ht⟩)
      go_roundw
      case rel => exact ⟨3, rfl, _, .inr (.inr (.inr (.inl ⟨rfl, rfl⟩))), Turned.step D1.out D2.out D3.out D4.out ht⟩
      case measure => simp [intOf]
    · have z5 := z4 3 _ rfl
      have RC := Lib.hid (step_front D1.out z1 z3 HM.out.2.2.2.1 HQ4.out)
      clear z4
      go_wp2_with (go_at_call 48; (with_reducible refine (RC.out).mono ?_); rintro e w1 ⟨rfl, ht⟩)
      go_roundw
      case rel => exact ⟨4, rfl, _, .inr (.inr (.inr (.inr (.inl ⟨rfl, rfl⟩)))), Turned.step D1.out D2.out D3.out D4.out ht⟩
      case measure => simp [intOf]
    · have z5 := z4 4 _ rfl
      have RC := Lib.hid (sync_is D1.out HM.out.2.2.2.2 HQ5.out)
      clear z4
      go_wp2_with (go_at_call 37; (with_reducible refine (RC.out).mono ?_); rintro e w1 ⟨rfl, ht⟩)
      go_roundw
      case rel => exact ⟨5, rfl, _, .inr (.inr (.inr (.inr (.inr ⟨rfl, rfl⟩)))), Turned.step D1.out D2.out D3.out D4.out ht⟩
      case measure => simp [intOf]
    · clear z4
      go_wp2
      go_ret
      exact ⟨rfl, _, HH5.out, HT.out _ _ ⟨Fk, D1.out, D2.out, D3.out, D4.out⟩ HY.out.1⟩

end Go.Proofs.Ytoggdpkpfdilnaa
