/-
  The laws on records, with their early answers.
-/
import Derived.Test.YtakgkhfakjfodaaKp
namespace Go.Proofs.Ytakgkhfakjfodaa
open Go.RowKit
attribute [local go_sem ↓] Go.wp_at_zero Go.wp_at_succ

set_option maxRecDepth 100000 in
set_option maxHeartbeats 1000000 in
theorem torn_law (AW : AwakeOk) (PU : PutOwn) (SC : ScanOk) (v : Value) (ls : List (List UInt8)) (cut : Nat) (w : World) (hv : Many w v ls) (hc : cut ≤ 65535) :
    Calls Try.prog 5 #[v, .int .u16 (cut : Int)] w fun e w' => e = .returned (.bool true) ∧ Below w.heap.size w w' := by
  cases hf : fewB ls with
  | true => exact torn_walk AW PU SC v ls cut w hv hc hf
  | false =>
    have HM := Lib.hid hv
    have HAW := Lib.hid AW
    have HF := Lib.hid (fun w (h : Many w v ls) => few_any v ls w h)
    rw [hf] at HF
    clear AW PU SC hf hv
    go_enter Try.func5, Try.ntmps5
    go_wp2_with fail
    (go_at_call 9; refine (HAW.out _).mono ?_; rintro e w0 ⟨rfl, hb0⟩)
    go_wp2_with fail
    (go_at_call 16; (with_reducible refine (HF.out _ (HM.out.on hb0)).mono ?_); rintro e w' ⟨rfl, rfl⟩)
    go_wp2_with fail
    (go_at_call 9; refine (HAW.out _).mono ?_; rintro e w1 ⟨rfl, hb1⟩)
    go_wp2_with fail
    go_ret
    exact ⟨rfl, bt hb0 hb1⟩

set_option maxRecDepth 100000 in
set_option maxHeartbeats 1000000 in
theorem keeps_law (AW : AwakeOk) (SC : ScanNew) (v : Value) (ls : List (List UInt8)) (w : World) (hv : Many w v ls) :
    Calls Try.prog 8 #[v] w fun e w' => e = .returned (.bool true) ∧ Below w.heap.size w w' := by
  cases hf : fewB ls with
  | true => exact keeps_walk AW SC v ls w hv hf
  | false =>
    have HM := Lib.hid hv
    have HAW := Lib.hid AW
    have HF := Lib.hid (fun w (h : Many w v ls) => few_any v ls w h)
    rw [hf] at HF
    clear AW SC hf hv
    go_enter Try.func8, Try.ntmps8
    go_wp2_with fail
    (go_at_call 9; refine (HAW.out _).mono ?_; rintro e w0 ⟨rfl, hb0⟩)
    go_wp2_with fail
    (go_at_call 16; (with_reducible refine (HF.out _ (HM.out.on hb0)).mono ?_); rintro e w' ⟨rfl, rfl⟩)
    go_wp2_with fail
    (go_at_call 9; refine (HAW.out _).mono ?_; rintro e w1 ⟨rfl, hb1⟩)
    go_wp2_with fail
    go_ret
    exact ⟨rfl, bt hb0 hb1⟩

set_option maxRecDepth 100000 in
set_option maxHeartbeats 1000000 in
theorem spoilt_law (AW : AwakeOk) (SC : ScanOk) (v : Value) (ls : List (List UInt8)) (cut : Nat) (d : UInt8) (w : World) (hv : Many w v ls) (hc : cut ≤ 65535) :
    Calls Try.prog 7 #[v, .int .u16 (cut : Int), .int .u8 (d.toNat : Int)] w fun e w' => e = .returned (.bool true) ∧ Below w.heap.size w w' := by
  cases hf : fewB ls with
  | true =>
    by_cases hd : d.toNat = 0
    · have hd' : ((d.toNat : Int) == 0) = true := by rw [hd]; rfl
      have HM := Lib.hid hv
      have HAW := Lib.hid AW
      have HF := Lib.hid (fun w (h : Many w v ls) => few_any v ls w h)
      rw [hf] at HF
      obtain ⟨A, c, rfl, _⟩ := hv
      obtain ⟨z, hz⟩ : ∃ z, ((ls.length : Int) == 0) = z := ⟨_, rfl⟩
      clear AW SC hf hd
      cases z <;> (
        go_enter Try.func7, Try.ntmps7
        go_wp2_with fail
        (go_at_call 9; refine (HAW.out _).mono ?_; rintro e w0 ⟨rfl, hb0⟩)
        go_wp2_with fail
        (go_at_call 16; (with_reducible refine (HF.out _ (HM.out.on hb0)).mono ?_); rintro e w' ⟨rfl, rfl⟩)
        go_wp2_with fail
        (go_at_call 9; refine (HAW.out _).mono ?_; rintro e w1 ⟨rfl, hb1⟩)
        go_wp2_with fail
        go_ret
        exact ⟨rfl, bt hb0 hb1⟩)
    · cases hn : ls.length with
      | succ n => exact spoilt_walk AW SC v ls cut d w hv hc hd hf n hn
      | zero =>
        have hz : ((ls.length : Int) == 0) = true := by rw [hn]; rfl
        have HM := Lib.hid hv
        have HAW := Lib.hid AW
        have HF := Lib.hid (fun w (h : Many w v ls) => few_any v ls w h)
        rw [hf] at HF
        obtain ⟨A, c, rfl, _⟩ := hv
        clear AW SC hf hd hn
        go_enter Try.func7, Try.ntmps7
        go_wp2_with fail
        (go_at_call 9; refine (HAW.out _).mono ?_; rintro e w0 ⟨rfl, hb0⟩)
        go_wp2_with fail
        (go_at_call 16; (with_reducible refine (HF.out _ (HM.out.on hb0)).mono ?_); rintro e w' ⟨rfl, rfl⟩)
        go_wp2_with fail
        (go_at_call 9; refine (HAW.out _).mono ?_; rintro e w1 ⟨rfl, hb1⟩)
        go_wp2_with fail
        go_ret
        exact ⟨rfl, bt hb0 hb1⟩
  | false =>
    have HM := Lib.hid hv
    have HAW := Lib.hid AW
    have HF := Lib.hid (fun w (h : Many w v ls) => few_any v ls w h)
    rw [hf] at HF
    clear AW SC hf hv
    go_enter Try.func7, Try.ntmps7
    go_wp2_with fail
    (go_at_call 9; refine (HAW.out _).mono ?_; rintro e w0 ⟨rfl, hb0⟩)
    go_wp2_with fail
    (go_at_call 16; (with_reducible refine (HF.out _ (HM.out.on hb0)).mono ?_); rintro e w' ⟨rfl, rfl⟩)
    go_wp2_with fail
    (go_at_call 9; refine (HAW.out _).mono ?_; rintro e w1 ⟨rfl, hb1⟩)
    go_wp2_with fail
    go_ret
    exact ⟨rfl, bt hb0 hb1⟩

end Go.Proofs.Ytakgkhfakjfodaa
