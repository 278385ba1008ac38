/-
  The document's examples of frames hold.
-/
import Derived.Test.YtakgkhfakjfodaaSc
import Derived.Lib.SlBytesConst
namespace Go.Proofs.Ytakgkhfakjfodaa
open Go.RowKit

theorem frame0 : frame [] = lowb 4 0 ++ lowb 8 (fnv (lowb 4 0)) := by unfold frame; simp
theorem frame0_len : (frame []).length = 12 := by rw [frame_length]; rfl
theorem frame0_head (h : 0 < (frame []).length) : (frame [])[0] = by_ 0 := by
  have e : frame [] = by_ (0 % 256) :: (lowb 3 (0 / 256) ++ lowb 8 (fnv (lowb 4 0))) := by rw [frame0]; rfl
  have : ∀ (l : List UInt8) (hl : 0 < l.length), l = by_ (0 % 256) :: (lowb 3 (0 / 256) ++ lowb 8 (fnv (lowb 4 0))) → l[0] = by_ 0 := by
    intro l hl e
    subst e
    rfl
  exact this _ h e
theorem scan25 : scan (frame [] ++ frame [120]) = ([[], [120]], 25) := by
  have h := scan_frames [[], [120]] [] (by intro r hr; simp at hr; rcases hr with rfl | rfl <;> simp)
  have e : frames [[], [120]] ++ [] = frame [] ++ frame [120] := by simp [frames]
  have en : scan [] = ([], 0) := scan_none (first_short (by simp))
  rw [e, en] at h
  rw [h]
  have : (frames [[], [120]]).length = 25 := by simp [frames, frame_length]
  rw [this]
  rfl
theorem scan6 : scan ((frame []).take 6) = ([], 0) := scan_none (first_short (by rw [List.length_take]; omega))

theorem exA (w : World) : Calls Try.prog 11 #[.slice none 0 0, .slice none 0 0] w fun e w' => ∃ g off cap, e = .returned (.slice (some ⟨g, off, none⟩) 12 cap) ∧ 12 ≤ cap ∧ cap ≤ maxLen ∧ g < w'.heap.size ∧ Room w' w.heap.size (.slice (some ⟨g, off, none⟩) 12 cap) (frame []) ∧ Below w.heap.size w w' :=
  (put_grew (.slice none 0 0) (.slice none 0 0) [] [] w.heap.size w Room.nil (Nat.le_refl _) Seen.nil (by simp) (by simp)).mono fun e w' ⟨v', he, h1, h2, _⟩ => by
    rw [List.nil_append] at h1
    rcases h1 with ⟨_, h⟩ | ⟨g, off, cap, rfl, a1, a2, a3⟩
    · have := frame0_len
      rw [h] at this
      simp at this
    · have hl := frame0_len
      rw [hl] at a1 he
      exact ⟨g, off, cap, he, a1, a2, a3.2.1, .inr ⟨g, off, cap, by rw [hl], by rw [hl]; exact a1, a2, a3⟩, h2⟩

theorem exB (w : World) (B : Nat) (v u : Value) (hv : Room w B v (frame [])) (hB : B ≤ w.heap.size) (hu : Seen w w.heap.size u [120]) :
    Calls Try.prog 11 #[v, u] w fun e w' => ∃ A c, e = .returned (.slice A 25 c) ∧ Seen w' w'.heap.size (.slice A 25 c) (frame [] ++ frame [120]) ∧ Seen w' w'.heap.size v (frame []) ∧ Below B w w' :=
  (put_grew v u (frame []) [120] B w hv hB hu (by rw [frame0_len]; omega) (by simp)).mono fun e w' ⟨v', he, h1, h2, _, _, h5⟩ => by
    have hst := h5 w v (frame []) [] (by simp) (Nat.le_refl _) hv.own_lt (Stay.start hv)
    have hsv := hst.seen h1
    have hs := h1.seen
    obtain ⟨A, c, rfl, hA⟩ := hs
    have hl : (frame [] ++ frame [120]).length = 25 := by rw [List.length_append, frame_length, frame_length]; rfl
    rw [hl] at he
    exact ⟨A, c, he, ⟨A, c, by rw [hl], hA⟩, hsv, h2⟩

theorem exC (w : World) (v : Value) (hv : Seen w w.heap.size v (frame [] ++ frame [120])) :
    Calls Try.prog 13 #[v] w fun e w' => ∃ b off c A c1, e = .returned (.tuple #[.slice (some ⟨b, off, none⟩) 2 c, .int .i64 25]) ∧ w'.cell? ⟨b, off + 1, none⟩ = some (.slice A 1 c1) ∧ Seen w' w'.heap.size (.slice A 1 c1) [120] ∧ b < w'.heap.size ∧ 2 ≤ c ∧ Below w.heap.size w w' :=
  (scan_r v _ w hv (by rw [List.length_append, frame_length, frame_length]; simp)).mono fun e w' ⟨u, he, ⟨vs, h1, h2, h3⟩, hb⟩ => by
    rw [scan25] at he h1 h3
    rcases h2 with ⟨_, h⟩ | ⟨g, off, cap, rfl, a1, a2, a3, a4, a5, _⟩
    · rw [h] at h1; simp at h1
    · have h1' : vs.length = 2 := h1
      have hs := (h3 1 (by simp) (by omega)).1.seen
      have hcell := a5 1 (by omega)
      obtain ⟨A, c1, e1, hA⟩ := hs
      rw [e1] at hcell
      rw [h1'] at he a1
      exact ⟨g, off, cap, A, c1, he, hcell, ⟨A, c1, rfl, hA⟩, a4, a1, hb⟩

theorem exD (w : World) (v : Value) (hv : Seen w w.heap.size v ((frame []).take 6)) :
    Calls Try.prog 13 #[v] w fun e w' => ∃ A c, e = .returned (.tuple #[.slice A 0 c, .int .i64 0]) ∧ Below w.heap.size w w' :=
  (scan_r v _ w hv (by rw [List.length_take]; omega)).mono fun e w' ⟨u, he, ⟨vs, h1, h2, _⟩, hb⟩ => by
    rw [scan6] at he h1
    obtain ⟨A, c, rfl, _⟩ := h2.shape
    rw [h1] at he
    exact ⟨A, c, he, hb⟩

theorem x_seen (w : World) : Seen (w.alloc (.cells #[.int .u8 120] 5 (1, 2))) (w.alloc (.cells #[.int .u8 120] 5 (1, 2))).heap.size (.slice (some ⟨w.heap.size, 0, none⟩) 1 1) [120] :=
  ⟨_, 1, rfl, Nat.le_refl _, by decide, .inr ⟨w.heap.size, 0, rfl, by simp, by simp, fun j hj => by
    obtain rfl : j = 0 := by simpa using hj
    rw [World.cell?_alloc_mark]; rfl⟩⟩

theorem take6 {w : World} {B g off cap : Nat} (h : Seen w B (.slice (some ⟨g, off, none⟩) 12 cap) (frame [])) : Seen w B (.slice (some ⟨g, off, none⟩) 6 cap) ((frame []).take 6) := by
  have hl := frame0_len
  obtain ⟨A, c, e, h1, h2, h3⟩ := h
  injection e with e1 e2 e3
  subst e1 e3
  refine ⟨_, cap, by rw [List.length_take, hl]; rfl, by rw [List.length_take]; omega, h2, .inr ?_⟩
  rcases h3 with h3 | ⟨b, o, e, hb, hw, hr⟩
  · rw [h3] at hl; simp at hl
  · injection e with e
    injection e with e1 e2 _
    subst e1 e2
    exact ⟨_, _, rfl, hb, hw, hr.take 6⟩
theorem cell0 {w : World} {B g off cap : Nat} (h : Seen w B (.slice (some ⟨g, off, none⟩) 12 cap) (frame [])) : w.cell? ⟨g, off, none⟩ = some (.int .u8 0) := by
  have hl := frame0_len
  obtain ⟨A, c, e, h1, h2, h3⟩ := h
  injection e with e1 e2 e3
  subst e1 e3
  rcases h3 with h3 | ⟨b, o, e, hb, hw, hr⟩
  · rw [h3] at hl; simp at hl
  · injection e with e
    injection e with e1 e2 _
    subst e1 e2
    have := hr 0 (by omega)
    rw [frame0_head] at this
    exact this

set_option maxRecDepth 100000 in
set_option maxHeartbeats 1000000 in
theorem awake_is : AwakeOk := by
  intro w
  have kc := fun (w : World) (C : Array Value) (n c : Nat) => Lib.run_convert_bytes_const (P := Try.prog) w 22 5 C n c Try.underlying22 Try.underlying5
  go_enter Try.func9, Try.ntmps9
  go_wp2_with fail
  (go_at_call 11; refine (exA _).mono ?_; rintro e w1 ⟨g, off, cap, rfl, hc1, hc2, hg, hr1, hb1⟩)
  go_wp2_with fail
  (go_at_call 11; refine (exB _ w.heap.size _ _ (hr1.on (bal _ _)) (Nat.le_trans hb1.size (bal _ _).size) (x_seen w1)).mono ?_; rintro e w2 ⟨A2, c2, rfl, hs2, hs1, hb2⟩)
  go_wp2_with fail
  (go_at_call 13; refine (exC _ _ hs2).mono ?_; rintro e w3 ⟨b3, off3, c3, A4, c4, rfl, hcell, hs4, hb3lt, hc3, hb3⟩)
  have hc6 : (6 : Int) ≤ (cap : Int) := by omega
  have hs13 := hs1.on hb3
  go_wp2_with fail
  (go_at_call 13; refine (exD _ _ (take6 hs13)).mono ?_; rintro e w4 ⟨A5, c5, rfl, hb4⟩)
  have e0 := cell0 (hs13.on hb4)
  have e1 : w4.cell? ⟨b3, off3 + 1, none⟩ = some (.slice A4 1 c4) := (World.cell?_of_block (a := ⟨b3, off3 + 1, none⟩) (hb4.block b3 hb3lt)).trans hcell
  have e2 := conv_seen (hs4.on hb4)
  have z2 : w.heap.size ≤ w2.heap.size := Nat.le_trans hb1.size (Nat.le_trans (bal w1 (.cells #[.int .u8 120] 5 (1, 2))).size hb2.size)
  have hb14 : Below w.heap.size w w4 := (hb1.trans (((bal w1 (.cells #[.int .u8 120] 5 (1, 2))).mono hb1.size).trans hb2)).trans ((hb3.mono z2).trans (hb4.mono (Nat.le_trans z2 hb3.size)))
  · have e3 : (⟨[(120 : UInt8)].toArray⟩ : ByteArray) = ⟨#[120]⟩ := rfl
    rw [e3] at e2
    clear hs1 hs2 hs4 hs13 hr1 hcell
    go_wp2
    go_ret
    exact ⟨rfl, hb14⟩

end Go.Proofs.Ytakgkhfakjfodaa
