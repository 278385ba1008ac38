/-
  WireBack: what is written is read as it was, whatever stands ahead of it and behind; what is read was written in the one way there is.
-/
import Derived.Test.YtemoekakpnaboaaKeeps
import Derived.Deep.RegionHeld3
import Derived.Deep.RegionWith
import Derived.Deep.DrawnRows
namespace Go.Proofs.Ytemoekakpnaboaa
open Go.RowKit
attribute [local go_sem ↓] Go.wp_at_zero Go.wp_at_succ

theorem back_int {n : Int} (h1 : -9223372036854775808 ≤ n) (h2 : n ≤ 9223372036854775807) (o r : List UInt8) : geti ((o ++ wint n ++ r).drop o.length) = some (n, (wint n).length) := by
  rw [List.append_assoc, List.drop_left]
  exact geti_wint h1 h2 r
theorem back_text (s : ByteArray) (hs : s.size ≤ 5000) (o r : List UInt8) : upTo 65536 ((o ++ (wint s.size ++ s.data.toList) ++ r).drop o.length) = some ((s.size : Int), (wint s.size).length) := by
  rw [List.append_assoc, List.drop_left, List.append_assoc]
  unfold upTo
  rw [geti_wint (by omega) (by omega)]
  show (if _ then _ else _) = _
  rw [if_pos ⟨by omega, by omega⟩]
theorem back_cut (s : ByteArray) (o r : List UInt8) : cutS (o ++ (wint s.size ++ s.data.toList) ++ r) (o.length + (wint s.size).length) s.size = s := by
  have hl : s.data.toList.length = s.size := by simp
  unfold cutS
  rw [← List.drop_drop, List.append_assoc, List.drop_left, List.append_assoc, List.drop_left, ← hl, List.take_left]

theorem get0_none {v : Value} {m : List UInt8} {B : Nat} (w : World) (h : Seen w B v m) (hg : geti m = none) :
    Calls Try.prog 18 #[v, .int .i64 0] w fun e w' => e = .returned (.tuple #[.int .i64 0, .int .i64 0, .bool false]) ∧ w = w' := getint_none (p := 0) w h (by omega) hg
theorem get0_some {v : Value} {m : List UInt8} {B : Nat} {n : Int} {k : Nat} (w : World) (h : Seen w B v m) (hg : geti m = some (n, k)) :
    Calls Try.prog 18 #[v, .int .i64 0] w fun e w' => e = .returned (.tuple #[.int .i64 n, .int .i64 (k : Int), .bool true]) ∧ w = w' := by
  have := getint_some (p := 0) w h (by omega) hg
  rw [Nat.zero_add] at this
  exact this

set_option maxRecDepth 100000 in
set_option maxHeartbeats 2000000 in
theorem back_walk (v v3 : Value) (o m : List UInt8) (n : Int) (s : ByteArray) (w : World) (hv : Seen w w.heap.size v o) (hv3 : Seen w w.heap.size v3 m) (hn1 : -9223372036854775808 ≤ n) (hn2 : n ≤ 9223372036854775807) (ho : o.length ≤ 5000) (hm : m.length ≤ 5000) (hs : s.size ≤ 5000) :
    Calls Try.prog 5 #[v, .int .i64 n, .string s, v3] w fun e w' => e = .returned (.bool true) ∧ Below w.heap.size w w' := by
  obtain ⟨i0, hi0, hz0, hz1, hz2⟩ := info_parts byte_info
  have hle1 := wint_le hn1 hn2
  have hle2 := wint_le (n := (s.size : Int)) (by omega) (by omega)
  have hsl : s.data.toList.length = s.size := by simp
  obtain ⟨L1, hL1⟩ : ∃ L, L = o ++ wint n := ⟨_, rfl⟩
  obtain ⟨L2, hL2⟩ : ∃ L, L = L1 ++ (wint s.size ++ s.data.toList) := ⟨_, rfl⟩
  obtain ⟨L3, hL3⟩ : ∃ L, L = L2 ++ m := ⟨_, rfl⟩
  have hl1 : L1.length ≤ 6000 := by rw [hL1, List.length_append]; omega
  have hl1' : L1.length = o.length + (wint n).length := by rw [hL1, List.length_append]
  have hl2' : L2.length = L1.length + (wint s.size).length + s.size := by rw [hL2, List.length_append, List.length_append, hsl, Nat.add_assoc]
  have hl2 : L2.length ≤ 12000 := by omega
  have hl3' : L3.length = L2.length + m.length := by rw [hL3, List.length_append]
  have g1 : geti (L3.drop o.length) = some (n, (wint n).length) := by
    rw [hL3, hL2, hL1, List.append_assoc (o ++ wint n)]
    exact back_int hn1 hn2 o _
  have g2 : upTo 65536 (L3.drop L1.length) = some ((s.size : Int), (wint s.size).length) := by
    rw [hL3, hL2]
    exact back_text s hs L1 m
  have g3 : cutS L3 (L1.length + (wint s.size).length) s.size = s := by
    rw [hL3, hL2]
    exact back_cut s L1 m
  have R1 := Lib.hid (fun (v : Value) w (h : Seen w w.heap.size v L3) => getint_some w h (by omega) g1)
  rw [← hl1'] at R1
  have R2 := Lib.hid (fun (v : Value) w (h : Seen w w.heap.size v L3) => gettext_some w h (by omega) g2 (by omega))
  rw [← hl2', g3] at R2
  have P0 : ([] : List UInt8).length + o.length ≤ 1099511627776 := by simp only [List.length_nil]; omega
  have P3 : L2.length + m.length ≤ 1099511627776 := by omega
  have I1 := Lib.hid (fun (v : Value) w' B (h : Room w' B v o) (hB : B ≤ w'.heap.size) => int_any n w' B v o hn1 hn2 h hB (by omega))
  have I2 := Lib.hid (fun (v : Value) w' B (h : Room w' B v L1) (hB : B ≤ w'.heap.size) => text_any s w' B v L1 h hB (by omega) (by omega))
  rw [← hL1] at I1
  rw [← hL2] at I2
  have A3 := Lib.hid hL3
  clear hL1 hL2 hL3 hl1' hl2' hl3' g1 g2 g3 hsl hle1 hle2
  have HS := Lib.hid hv
  have HS3 := Lib.hid hv3
  obtain ⟨A, c, rfl, hA⟩ := hv
  obtain ⟨A', c', rfl, hA'⟩ := hv3
  have HA := Lib.hid hA
  have HA' := Lib.hid hA'
  clear hA hA'
  go_enter Try.func5, Try.ntmps5
  go_wp2_with (at_builtin; refine wpList_append8 (B := w.heap.size) (l := []) (m := o) rfl (.tmp 35) (.tmp 36) 22 22 rfl 5 i0 Try.underlying22 hi0 hz0 hz1 hz2 (room_new w) (by simp) ((HA.out.below (bal w _)).src Try.underlying22) P0 rfl rfl ?_; intro v1 w1 hr1 hb1)
  have hb1' : Below w.heap.size w w1 := (bal w _).trans hb1
  (go_at_call 13; (with_reducible refine (I1.out _ _ _ hr1 hb1'.size).mono ?_); rintro e w2 ⟨v2, rfl, hr2, hb2⟩)
  have hb2' : Below w.heap.size w w2 := hb1'.trans hb2
  obtain ⟨A2, c2, rfl, hle2, hcm2, _⟩ := hr2.cut
  go_wp2_with fail
  (go_at_call 15; (with_reducible refine (I2.out _ _ _ hr2 hb2'.size).mono ?_); rintro e w3 ⟨v3, rfl, hr3, hb3⟩)
  have hb3' : Below w.heap.size w w3 := hb2'.trans hb3
  obtain ⟨A3', c3', rfl, hle3, hcm3, _⟩ := hr3.cut
  go_wp2_with (at_builtin; refine wpList_append8 (B := w.heap.size) (l := L2) (m := m) rfl (.tmp 48) (.tmp 49) 22 22 rfl 5 i0 Try.underlying22 hi0 hz0 hz1 hz2 hr3 hb3'.size ((HA'.out.below hb3').src Try.underlying22) P3 rfl rfl ?_; intro v4 w4 hr4 hb4)
  rw [← A3.out] at hr4
  have hb4' : Below w.heap.size w w4 := hb3'.trans hb4
  have S4 := Lib.hid hr4.seen
  (go_at_call 18; (with_reducible refine (R1.out _ _ S4.out).mono ?_); rintro e w5 ⟨rfl, rfl⟩)
  go_wp2_with fail
  (go_at_call 20; (with_reducible refine (R2.out _ _ S4.out).mono ?_); rintro e w5 ⟨rfl, rfl⟩)
  go_wp2_with fail
  have S3 := Lib.hid (HS3.out.on hb4')
  have HA4 := Lib.hid (HA'.out.below hb4')
  cases hg : geti m with
  | none =>
    have R3 := Lib.hid (get0_none w4 S3.out hg)
    clear hg
    (go_at_call 18; (with_reducible refine R3.out.mono ?_); rintro e w5 ⟨rfl, rfl⟩)
    go_wp2_with fail
    first | (go_region_with (first | (go_at_call 9; refine (awake_true _).mono ?_; rintro e w0 ⟨rfl, hb0⟩))) | fail
    all_goals go_wp2
    all_goals go_ret
    all_goals exact ⟨rfl, hb4'.trans ((Below.refl _ _).drew.trans (hb0.mono hb4'.size))⟩
  | some y =>
    obtain ⟨k, z⟩ := y
    have hi := geti_is hg
    have R3 := Lib.hid (get0_some w4 S3.out hg)
    have J := Lib.hid (fun w => int_any k w w.heap.size (.slice none 0 0) [] hi.2.2.2.2.1 hi.2.2.2.2.2 Room.nil (Nat.le_refl _) (by simp))
    have hzm : z ≤ m.length := hi.2.2.1
    have hlz : (m.take z).length = z := by rw [List.length_take]; omega
    have SZ := Lib.hid (show Seen w4 w4.heap.size (.slice A' z c') (wint k) by
      rw [← hi.1]
      obtain ⟨h1, h2, h3⟩ := HA4.out
      refine ⟨A', c', by rw [hlz], by rw [hlz]; omega, h2, ?_⟩
      rcases h3 with rfl | ⟨b, off, hA, hb, hw, hr⟩
      · exact .inl (by rw [List.take_nil])
      · exact .inr ⟨b, off, hA, hw, hw, hr.take _⟩)
    have hmc : m.length ≤ c' := HA4.out.1
    have hcm : c' ≤ 9223372036854775807 := HA4.out.2.1
    clear hg hi hlz
    (go_at_call 18; (with_reducible refine R3.out.mono ?_); rintro e w5 ⟨rfl, rfl⟩)
    go_wp2_with fail
    have z0 : (0 : Int) ≤ (z : Int) := by omega
    have z1 : (z : Int) ≤ (m.length : Int) := by omega
    have z2 : (z : Int) ≤ (c' : Int) := by omega
    first | (go_region_held3 (fun _ => True) (trivial) (first
      | (go_at_call 9; refine (awake_true _).mono ?_; rintro e w0 ⟨rfl, hb0⟩)
      | (go_at_call 13; refine (J.out _).mono ?_; rintro e w7 ⟨v7, rfl, hr7, hb7⟩)
      | (go_at_call 12; refine (same_yes _ hr7.seen (((SZ.out.on (Below.refl _ _).drew).on hb0).on hb7)).mono ?_; rintro e w8 ⟨rfl, hb8⟩))) | fail
    all_goals go_wp2
    all_goals go_ret
    all_goals exact ⟨rfl, bt hb4' (bt ((Below.refl _ _).drew.trans hb0) (bt hb7 hb8))⟩

end Go.Proofs.Ytemoekakpnaboaa
