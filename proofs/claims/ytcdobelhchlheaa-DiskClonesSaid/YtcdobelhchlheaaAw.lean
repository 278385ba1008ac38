/-
  The document's answers that the statements begin with.
-/
import Derived.Test.YtcdobelhchlheaaWr
import Derived.Lib.SlBytesConst
namespace Go.Proofs.Ytcdobelhchlheaa
open Go.RowKit
attribute [local go_sem ↓] Go.wp_at_zero Go.wp_at_succ

def c1 : Chg := ⟨0, 0, ⟨#[97, 98]⟩⟩
def c2 : Chg := ⟨0, 0, ⟨#[99, 100]⟩⟩
def c3 : Chg := ⟨2, 1, ⟨#[]⟩⟩
def dk1 : Dsk := ⟨⟨[], [], 0⟩, ⟨[97, 98], [], 0⟩, [c1], false, 0⟩
def dk2 : Dsk := ⟨⟨[97, 98], [], 0⟩, ⟨[97, 98], [], 0⟩, [], false, 0⟩
def dk3 : Dsk := ⟨⟨[97, 98], [], 0⟩, ⟨[97, 98, 99, 100], [], 0⟩, [c2], false, 0⟩
def dk4 : Dsk := ⟨⟨[97, 98], [], 0⟩, ⟨[97, 98, 99, 100], [], 1⟩, [c2, c3], false, 0⟩
def dk5 : Dsk := ⟨⟨[97, 98, 99, 100], [], 0⟩, ⟨[97, 98, 99, 100], [], 0⟩, [], false, 0⟩
def dk6 : Dsk := ⟨⟨[97, 98, 99], [], 0⟩, ⟨[97, 98, 99], [], 0⟩, [], false, 0⟩
theorem step1 : Dsk.fresh.chg 0 0 [97, 98] = (dk1, 0) := rfl
theorem step2 : dk1.sync = (dk2, 0) := rfl
theorem step3 : dk2.chg 0 0 [99, 100] = (dk3, 0) := rfl
theorem step4 : dk3.chg 2 1 [] = (dk4, 0) := rfl
theorem step5 : dk4.crash 1 0 = dk5 := rfl
theorem step6 : dk4.crash 0 1 = dk6 := rfl
theorem step7 : dk5.reads 0 = [97, 98, 99, 100] := rfl
theorem step8 : dk6.reads 0 = [97, 98, 99] := rfl
theorem step9 : dk5.chg 1 2 [] = (dk5, 1) := rfl

set_option maxRecDepth 100000 in
set_option maxHeartbeats 2000000 in
theorem awake_any (w : World) : Calls Try.prog 8 #[] w fun e w' => e = .returned (.bool true) ∧ Below w.heap.size w w' := by
  obtain ⟨B, hB⟩ : ∃ B, B = w.heap.size := ⟨_, rfl⟩
  have HB := Lib.hid hB
  have kc := fun (w : World) (C : Array Value) (n c : Nat) => Lib.run_convert_bytes_const (P := Try.prog) w 30 5 C n c Try.underlying30 Try.underlying5
  clear hB
  go_enter Try.func8, Try.ntmps8
  go_wp2_with fail
  go_at_call 10
  refine (new_any w B (by rw [HB.out]; exact Nat.le_refl _)).mono ?_
  rintro e w1 ⟨rfl, hd1, hb1⟩
  have b1 : Below B w w1 := hb1.mono (by rw [HB.out]; exact Nat.le_refl _)
  clear hb1
  generalize hF : (fun x => x = w.heap.size) = F1 at hd1
  clear hF
  generalize w.heap.size = g at hd1 ⊢
  go_wp2_with fail
  go_at_call 19
  have hs1 := bytes_const w1 [97, 98] 5 (2, 3) (by decide)
  have a1 := bal w1 (.cells (c8 [97, 98]).toArray 5 (2, 3))
  refine (append_is (hd1.on a1) hs1 (by decide) step1).mono ?_
  rintro e w2 ⟨rfl, F2, hd2, hf2, hb2, hk2⟩
  have b2 : Below B w w2 := (b1.trans (a1.mono hd1.base)).trans hb2
  clear hs1 a1 hd1 hf2 hb2 hk2 b1
  go_wp2_with fail
  go_at_call 15
  refine (sync_is hd2 (by decide) step2).mono ?_
  rintro e w3 ⟨rfl, F3, hd3, hf3, hb3, hk3⟩
  have b3 := b2.trans hb3
  clear hd2 hf3 hb3 hk3 b2
  go_wp2_with fail
  go_at_call 19
  have hs3 := bytes_const w3 [99, 100] 5 (2, 3) (by decide)
  have a3 := bal w3 (.cells (c8 [99, 100]).toArray 5 (2, 3))
  refine (append_is (hd3.on a3) hs3 (by decide) step3).mono ?_
  rintro e w4 ⟨rfl, F4, hd4, hf4, hb4, hk4⟩
  have b4 : Below B w w4 := (b3.trans (a3.mono hd3.base)).trans hb4
  clear hs3 a3 hd3 hf4 hb4 hk4 b3
  go_wp2_with fail
  go_at_call 25
  refine (front_is hd4 (by decide) step4).mono ?_
  rintro e w5 ⟨rfl, F5, hd5, hf5, hb5, hk5⟩
  have b5 := b4.trans hb5
  clear hd4 hf5 hb5 hk5 b4
  go_wp2_with fail
  go_at_call 24
  refine (clone_disk _ _ _ _ _ hd5 (by decide)).mono ?_
  rintro e w6 ⟨gx, F6, rfl, hx6, hf6, hb6⟩
  have hd6 := hd5.on hb6
  have b6 := b5.trans (hb6.mono hd5.base)
  go_wp2_with fail
  go_at_call 20
  refine (crash_is hd6 (by decide) step5).mono ?_
  rintro e w7 ⟨rfl, F7, hd7, hf7, hb7, hk7⟩
  have hx7 := hx6.apart (fun k h6 h5 => by have := hf6 k h6; have := (hd5.less k h5).2; omega) hk7 hb7.size
  have b7 := b6.trans hb7
  go_wp2_with fail
  go_at_call 20
  refine (crash_is hx7 (by decide) step6).mono ?_
  rintro e w8 ⟨rfl, F8, hx8, hf8, hb8, hk8⟩
  have hd8 := hd7.apart (fun k h7 h6 => by
    have := (hx6.less k h6).2
    rcases hf7 k h7 with h | h
    · have := hf6 k h6
      have := (hd5.less k h).2
      omega
    · omega) hk8 hb8.size
  have b8 := b7.trans hb8
  clear hx6 hx7 hd5 hd6 hd7 hf6 hf7 hf8 hb6 hb7 hb8 hk7 hk8 b5 b6 b7
  go_wp2_with fail
  go_at_call 17
  refine (read_is hd8 (by decide) step7 rfl).mono ?_
  rintro e w9 ⟨u9, rfl, hu9, _, hb9⟩
  have hx9 := hx8.on hb9
  have hd9 := hd8.on hb9
  have b9 := b8.trans (hb9.mono hd8.base)
  clear hx8 hd8 b8 hb9
  go_wp2_with fail
  go_at_call 17
  refine (read_is hx9 (by decide) step8 rfl).mono ?_
  rintro e w10 ⟨u10, rfl, hu10, _, hb10⟩
  have hd10 := hd9.on hb10
  have b10 := b9.trans (hb10.mono hd9.base)
  have C9 := conv_seen (hu9.on hb10).1.seen
  have C10 := conv_seen hu10.1.seen
  obtain ⟨A9, z9, hv9, _⟩ := hu9.slice
  obtain ⟨A10, z10, hv10, _⟩ := hu10.slice
  subst hv9 hv10
  have D9 : (convert 30 9 (.slice A9 4 z9)).run Try.prog w10 = .ok (.string ⟨#[97, 98, 99, 100]⟩) w10 := C9
  have D10 : (convert 30 9 (.slice A10 3 z10)).run Try.prog w10 = .ok (.string ⟨#[97, 98, 99]⟩) w10 := C10
  clear C9 C10
  clear hx9 hd9 b9 hb10 hu9 hu10
  go_wp2_with fail
  go_at_call 18
  refine (first_is hd10 rfl rfl).mono ?_
  rintro e w11 ⟨rfl, rfl⟩
  go_wp2_with fail
  go_at_call 26
  refine (wipe_is hd10 (by decide) step9).mono ?_
  rintro e w12 ⟨rfl, F12, hd12, hf12, hb12, hk12⟩
  go_wp2
  go_ret
  exact ⟨rfl, by rw [← HB.out]; exact b10.trans hb12⟩

end Go.Proofs.Ytcdobelhchlheaa
