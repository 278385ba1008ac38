/-
  The document's answers that the statements begin with.
-/
import Derived.Test.YtoggdpkpfdilnaaLh
import Derived.Lib.SlBytesConst
namespace Go.Proofs.Ytoggdpkpfdilnaa
open Go.RowKit
attribute [local go_sem ↓] Go.wp_at_zero Go.wp_at_succ

set_option maxRecDepth 100000 in
theorem open_empty (w : World) (B g : Nat) (s : Dsk) (F : Nat → Prop) (n : Nat) (h : Disk w B g s F) (hh : Has s [] n) (hn : n ≤ 900000) :
    Calls Try.prog 9 #[.pointer (some ⟨g, 0, none⟩)] w fun e w' => ∃ b, e = .returned (.tuple #[.pointer (some ⟨b, 0, none⟩), .slice none 0 0, .slice none 0 0, .int .i64 0]) ∧ LogAt w' (.pointer (some ⟨b, 0, none⟩)) g F ∧ Below w.heap.size w w' := by
  have RF := Lib.hid (fronted w B g s F [] n h hh hn)
  have HF : Hid (∀ k, F k → k < w.heap.size) := fun k q => (h.less k q).2
  clear h hh hn
  go_enter Try.func9, Try.ntmps9
  go_wp2_with fail
  go_at_call 24
  refine (RF.out).mono ?_
  rintro e w1 ⟨u, rfl, hu, hou, hb1⟩
  obtain ⟨A, c, rfl, _⟩ := hu.slice
  go_wp2
  (try simp only [Exit.inBlock, Exit.then]); refine bodyPost_ret (results_tmp4 rfl _ _ _) rfl ?_
  have hb2 := bal w1 (.cells #[.pointer (some ⟨g, 0, none⟩)] 62)
  have hx := boxF_made w1 [.pointer (some ⟨g, 0, none⟩)] 62
  refine ⟨w1.heap.size, rfl, ⟨w1.heap.size, rfl, hx.1, fun q => ?_, hx.get 0 rfl⟩, bt hb1 hb2⟩
  have := HF.out _ q
  have := hb1.size
  omega

def kd1 (l : List UInt8) : Dsk := ⟨⟨[], [], 0⟩, ⟨l, [], 0⟩, [⟨0, 0, ⟨l.toArray⟩⟩], false, 0⟩
def kd2 (l : List UInt8) : Dsk := ⟨⟨l, [], 0⟩, ⟨l, [], 0⟩, [], false, 0⟩
def kd3 (l m : List UInt8) : Dsk := ⟨⟨l, [], 0⟩, ⟨l ++ m, [], 0⟩, [⟨0, 0, ⟨m.toArray⟩⟩], false, 0⟩
theorem kd_s1 (l : List UInt8) : Dsk.fresh.chg 0 Dsk.fresh.now.front l = (kd1 l, 0) := rfl
theorem kd_s2 (l : List UInt8) : (kd1 l).sync = (kd2 l, 0) := rfl
theorem kd_s3 (l m : List UInt8) : (kd2 l).chg 0 (kd2 l).now.front m = (kd3 l m, 0) := rfl
theorem kd_fall (l m : List UInt8) : (kd3 l m).fallen 0 0 = ⟨l, [], 0⟩ := by
  have h : (kd3 l m).fallen 0 0 = (⟨l, [], 0⟩ : Cont).does ⟨0, 0, cut 0 ⟨m.toArray⟩⟩ := rfl
  rw [h]
  unfold Cont.does
  rw [if_pos rfl, if_pos rfl]
  show (⟨l ++ (cut 0 ⟨m.toArray⟩).data.toList, [], 0⟩ : Cont) = _
  unfold cut
  rw [extract_bytes]
  simp [within]
theorem kd_s4 (l m : List UInt8) : (kd3 l m).crash 0 0 = kd2 l := by
  unfold Dsk.crash
  rw [kd_fall]
  rfl
theorem lead_no {a : List UInt8} (h : 0 < a.length) : lead a = [] := by
  unfold lead
  rw [if_neg]
  rintro rfl
  cases h
theorem lead_nil : lead [] = frame [] := rfl

set_option maxRecDepth 100000 in
set_option maxHeartbeats 2000000 in
theorem awake_any (w : World) : Calls Try.prog 6 #[] w fun e w' => e = .returned (.bool true) ∧ Below w.heap.size w w' := by
  obtain ⟨B, hB⟩ : ∃ B, B = w.heap.size := ⟨_, rfl⟩
  have HB := Lib.hid hB
  have kc := fun (w : World) (C : Array Value) (n c : Nat) => Lib.run_convert_bytes_const (P := Try.prog) w 28 5 C n c Try.underlying28 Try.underlying5
  obtain ⟨L1, hL1⟩ : ∃ l, l = lead [] ++ frame [97] := ⟨_, rfl⟩
  obtain ⟨L2, hL2⟩ : ∃ l, l = lead L1 ++ frame [98] := ⟨_, rfl⟩
  have n1 : L1.length = 25 := by rw [hL1, List.length_append, lead_nil, frame_length, frame_length]; rfl
  have n2 : L2.length = 13 := by rw [hL2, lead_no (by omega), List.nil_append, frame_length]; rfl
  have hh0 : Has Dsk.fresh [] 0 := Has.fresh
  have hh1 : Has (kd1 L1) L1 26 := by have := hh0.add (kd_s1 L1); rw [n1, List.nil_append] at this; exact this
  have hh2 : Has (kd2 L1) L1 26 := hh1.flush (kd_s2 L1)
  have hh3 : Has (kd3 L1 L2) (L1 ++ L2) 40 := by have := hh2.add (kd_s3 L1 L2); rw [n2] at this; exact this
  have hre : Rests L1 [] [[97]] := .inr ⟨by rw [hL1, lead_nil]; simp [frames], fun r hr => by simp only [List.mem_cons, List.not_mem_nil, or_false] at hr; rcases hr with rfl | rfl <;> decide⟩
  have n3 : (L1 ++ L2).length = 38 := by rw [List.length_append]; omega
  have q1 : Dsk.fresh.chg 0 Dsk.fresh.now.front (lead [] ++ frame [97]) = (kd1 L1, 0) := by rw [← hL1]; exact kd_s1 L1
  have q3 : (kd2 L1).chg 0 (kd2 L1).now.front (lead L1 ++ frame [98]) = (kd3 L1 L2, 0) := by rw [← hL2]; exact kd_s3 L1 L2
  have HH0 := Lib.hid hh0
  have HH1 := Lib.hid hh1
  have HH2 := Lib.hid hh2
  have HH3 := Lib.hid hh3
  have HRE := Lib.hid hre
  have HN1 := Lib.hid n1
  have HN3 := Lib.hid n3
  have HQ1 := Lib.hid q1
  have HQ3 := Lib.hid q3
  clear hB hL1 hL2 n1 n2 hh0 hh1 hh2 hh3 hre n3 q1 q3
  go_enter Try.func6, Try.ntmps6
  go_wp2_with fail
  go_at_call 8
  refine (new_any w B (by rw [HB.out]; exact Nat.le_refl _)).mono ?_
  rintro e w1 ⟨rfl, hd1, hb1⟩
  have b1 : Below B w w1 := hb1.mono (by rw [HB.out]; exact Nat.le_refl _)
  clear hb1
  generalize hF : (fun x => x = w.heap.size) = F1 at hd1
  clear hF
  generalize w.heap.size = g at hd1 ⊢
  go_wp2_with fail
  go_at_call 9
  refine (open_empty w1 B g _ F1 0 hd1 HH0.out (by omega)).mono ?_
  rintro e w2 ⟨bl, rfl, hl2, hb2⟩
  have hd2 := hd1.on hb2
  have b2 : Below B w w2 := b1.trans (hb2.mono hd1.base)
  clear hd1 hb2 b1
  go_wp2_with fail
  go_at_call 19
  have hs2 := bytes_const w2 [97] 5 (1, 2) (by decide)
  have a2 := bal w2 (.cells (c8 [97]).toArray 5 (1, 2))
  refine (added _ [97] _ _ B g _ F1 [] 0 _ (hd2.on a2) HH0.out (hl2.on a2) hs2 (by decide) (by decide) HQ1.out).mono ?_
  rintro e w3 ⟨rfl, F3, hd3, hf3, hb3, hk3⟩
  have hl3 := (hl2.on a2).turned hf3 hk3 hb3.size
  have b3 : Below B w w3 := (b2.trans (a2.mono hd2.base)).trans hb3
  clear hs2 a2 hd2 hl2 hf3 hb3 hk3 b2
  go_wp2_with fail
  go_at_call 22
  refine (flushed w3 _ B g _ F3 _ hd3 hl3 (Nat.le_trans HH1.out.most (by decide)) (kd_s2 _)).mono ?_
  rintro e w4 ⟨rfl, F4, hd4, hf4, hb4, hk4⟩
  have hl4 := hl3.turned hf4 hk4 hb4.size
  have b4 := b3.trans hb4
  clear hd3 hl3 hf4 hb4 hk4 b3
  go_wp2_with fail
  go_at_call 19
  have hs4 := bytes_const w4 [98] 5 (1, 2) (by decide)
  have a4 := bal w4 (.cells (c8 [98]).toArray 5 (1, 2))
  refine (added _ [98] _ _ B g _ F4 L1 26 _ (hd4.on a4) HH2.out (hl4.on a4) hs4 (by decide) (by decide) HQ3.out).mono ?_
  rintro e w5 ⟨rfl, F5, hd5, hf5, hb5, hk5⟩
  have hl5 := (hl4.on a4).turned hf5 hk5 hb5.size
  have b5 : Below B w w5 := (b4.trans (a4.mono hd4.base)).trans hb5
  clear hs4 a4 hd4 hl4 hf5 hb5 hk5 b4
  go_wp2_with fail
  go_at_call 15
  refine (sized w5 _ B g _ F5 _ 40 hd5 HH3.out hl5 (by decide)).mono ?_
  rw [HN3.out]
  rintro e w6 ⟨rfl, hb6⟩
  have hd6 := hd5.on hb6
  have b6 := b5.trans (hb6.mono hd5.base)
  clear hd5 hl5 hb6 b5
  go_wp2_with fail
  go_at_call 23
  refine (crash_is hd6 (Nat.le_trans HH3.out.most (by decide)) (kd_s4 _ _)).mono ?_
  rintro e w7 ⟨rfl, F7, hd7, hf7, hb7, hk7⟩
  have b7 := b6.trans hb7
  clear hd6 hf7 hb7 hk7 b6
  go_wp2_with fail
  go_at_call 9
  refine (opened (m := 50) hd7 HH2.out HRE.out (by rw [HN1.out]; decide) (by decide) (by rw [HN1.out]; decide)).mono ?_
  rintro e w8 ⟨lv, pv, rv, rfl, ⟨s8, F8, _, _, hl8, _⟩, ⟨hb8, _⟩, hp8, hr8⟩
  have b8 := b7.trans hb8
  obtain ⟨A8, c8', rfl, hA8⟩ := hr8 w8 (fun _ _ _ => rfl) (Nat.le_refl _)
  obtain ⟨bb, off, u, rfl, _, hcell, hsee⟩ := hA8.at_ 0 (by decide)
  have CV := conv_seen hsee
  obtain ⟨Au, cu, rfl, _⟩ := hsee
  obtain ⟨bl8, rfl, _⟩ := hl8
  obtain ⟨Ap, cp, rfl, _⟩ := hp8.cut
  have CV' : (convert 28 9 (.slice Au 1 cu)).run Try.prog w8 = .ok (.string ⟨#[97]⟩) w8 := CV
  have HC' : w8.cell? ⟨bb, off, none⟩ = some (.slice Au 1 cu) := hcell
  clear CV hcell hA8 hr8 hp8
  go_wp2
  go_ret
  exact ⟨rfl, by rw [← HB.out]; exact b8⟩

end Go.Proofs.Ytoggdpkpfdilnaa
