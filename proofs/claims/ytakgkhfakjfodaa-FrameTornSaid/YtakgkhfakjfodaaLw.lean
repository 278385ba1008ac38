/-
  The laws of frames, given what frame.Put and frame.Scan come to.
-/
import Derived.Test.YtakgkhfakjfodaaRs
namespace Go.Proofs.Ytakgkhfakjfodaa
open Go.RowKit
attribute [local go_sem ↓] Go.wp_at_zero Go.wp_at_succ

/-- frame.Put's contract: behind whatever may be appended to, of a record that lies apart from it -/
def PutOk : Prop := ∀ (w : World) (B : Nat) (v u : Value) (l r : List UInt8), Room w B v l → B ≤ w.heap.size → Seen w w.heap.size u r → (r = [] ∨ ∀ g, v.ownBlock = some g → u.ownBlock ≠ some g) → l.length ≤ 16777216 → r.length ≤ 16777216 → Calls Try.prog 11 #[v, u] w (Gives B (l ++ frame r) w)
/-- frame.Scan's contract -/
def ScanOk : Prop := ∀ (w : World) (v : Value) (l : List UInt8), Seen w w.heap.size v l → l.length ≤ 16777216 → Calls Try.prog 13 #[v] w (Scans l w)
def AwakeOk : Prop := ∀ w : World, Calls Try.prog 9 #[] w fun e w' => e = .returned (.bool true) ∧ Below w.heap.size w w'

set_option maxRecDepth 10000 in
set_option maxHeartbeats 400000 in
theorem scans_law (AW : AwakeOk) (SC : ScanOk) (v : Value) (l : List UInt8) (w : World) (hv : Seen w w.heap.size v l) :
    Calls Try.prog 4 #[v] w fun e w' => e = .returned (.bool true) ∧ Below w.heap.size w w' := by
  have hlm := hv.len
  unfold maxLen at hlm
  have HS := Lib.hid hv
  have HAW := Lib.hid AW
  have HSC := Lib.hid SC
  clear AW SC
  obtain ⟨A, c, rfl, hA⟩ := hv
  clear hA
  by_cases h5 : l.length ≤ 5000
  · have S1 := Lib.hid (fun W (h : Seen W W.heap.size (.slice A l.length c) l) => HSC.out W _ l h (by omega))
    have S2 := Lib.hid (fun W (h : Seen W W.heap.size (.slice A l.length c) l) => rscan_any _ l W h (by omega))
    go_enter Try.func4, Try.ntmps4
    go_wp2_with (first
      | (go_at_call 9; refine (HAW.out _).mono ?_; rintro e w0 ⟨rfl, hb0⟩)
      | (go_at_call 13; (with_reducible refine (S1.out _ (HS.out.on hb0)).mono ?_); rintro e w1 ⟨v1, rfl, hm1, hb1⟩)
      | (go_at_call 14; (with_reducible refine (S2.out _ ((HS.out.on hb0).on hb1)).mono ?_); rintro e w2 ⟨v2, rfl, hm2, hb2⟩)
      | (go_at_call 15; refine (sameall_any _ _ _ _ _ (hm1.on hb2) hm2).mono ?_; rintro e w3 ⟨rfl, hb3⟩))
    go_ret
    exact ⟨ret_bool (by simp), bt hb0 (bt hb1 (bt hb2 hb3))⟩
  · have h5' : 5000 < l.length := by omega
    clear h5
    go_enter Try.func4, Try.ntmps4
    go_wp2_with fail
    (go_at_call 9; refine (HAW.out _).mono ?_; rintro e w0 ⟨rfl, hb0⟩)
    go_wp2_with fail
    (go_at_call 9; refine (HAW.out _).mono ?_; rintro e w1 ⟨rfl, hb1⟩)
    go_wp2_with fail
    go_ret
    exact ⟨rfl, bt hb0 hb1⟩

theorem frames_each {ls : List (List UInt8)} {n : Nat} (h : (frames ls).length ≤ n) : ls.length ≤ n ∧ ∀ r ∈ ls, r.length ≤ n := by
  rw [frames_len] at h
  refine ⟨by omega, fun r hr => ?_⟩
  have : r.length ≤ total ls := by
    clear h
    induction ls with
    | nil => cases hr
    | cons x t ih =>
      rw [total]
      rcases List.mem_cons.1 hr with rfl | hr
      · omega
      · have := ih hr; omega
  omega
theorem Seen.own_lt {w : World} {B : Nat} {u : Value} {r : List UInt8} (h : Seen w B u r) : r = [] ∨ ∀ g, u.ownBlock = some g → g < B := by
  obtain ⟨A, c, rfl, _, _, h3⟩ := h
  refine h3.imp id ?_
  rintro ⟨b, off, rfl, hb, _⟩ g hg
  injection hg with hg
  rw [← hg]; exact hb

set_option maxRecDepth 10000 in
set_option maxHeartbeats 1000000 in
theorem again_law (AW : AwakeOk) (SC : ScanOk) (v : Value) (l : List UInt8) (w : World) (hv : Seen w w.heap.size v l) :
    Calls Try.prog 6 #[v] w fun e w' => e = .returned (.bool true) ∧ Below w.heap.size w w' := by
  have hlm := hv.len
  unfold maxLen at hlm
  have HS := Lib.hid hv
  have HAW := Lib.hid AW
  have HSC := Lib.hid SC
  clear AW SC
  obtain ⟨A, c, rfl, hA⟩ := hv
  have hlc := hA.1
  have hcm := hA.2.1
  unfold maxLen at hcm
  by_cases h5 : l.length ≤ 5000
  · obtain ⟨e1, e2⟩ := scan_again l
    have hfl : (frames (scan l).1).length ≤ 5000 := by rw [e1, List.length_take]; omega
    have hea := frames_each hfl
    have S1 := Lib.hid (fun W (h : Seen W W.heap.size (.slice A l.length c) l) => HSC.out W _ l h (by omega))
    have R1 := Lib.hid (fun W v1 (h : Many W v1 (scan l).1) => row_any v1 (scan l).1 W h (by omega) (fun r hr => by have := hea.2 r hr; omega))
    rw [e1] at R1
    obtain ⟨q, hq⟩ : ∃ q, q = (scan l).2 := ⟨_, rfl⟩
    unfold Scans at S1
    rw [← hq] at S1 R1 e2
    have SQ : Hid (Seen w w.heap.size (.slice A q c) (l.take q)) := by
      have hlen : (l.take q).length = q := by rw [List.length_take]; omega
      obtain ⟨h1, h2, h3⟩ := hA
      refine ⟨A, c, by rw [hlen], by rw [hlen]; omega, h2, ?_⟩
      rcases h3 with rfl | ⟨b, off, hA, hb, hw, hr⟩
      · exact .inl (by rw [List.take_nil])
      · exact .inr ⟨b, off, hA, hb, hw, hr.take _⟩
    have q0 : (0 : Int) ≤ (q : Int) := by omega
    have q1 : (q : Int) ≤ (l.length : Int) := by omega
    have q2 : (q : Int) ≤ (c : Int) := by omega
    clear hA e1 e2 hfl hea hq
    go_enter Try.func6, Try.ntmps6
    go_wp2_with (first
      | (go_at_call 9; refine (HAW.out _).mono ?_; rintro e w0 ⟨rfl, hb0⟩)
      | (go_at_call 13; (with_reducible refine (S1.out _ (HS.out.on hb0)).mono ?_); rintro e w1 ⟨v1, rfl, hm1, hb1⟩))
    have hb01 := bt hb0 hb1
    have hd : Below w1.heap.size w1 w1.drew := (Below.refl _ _).drew
    have SQ1 := Lib.hid (SQ.out.on hb01)
    first | (go_region_held3 (fun _ => True) (trivial) (first
      | (go_at_call 17; (with_reducible refine (R1.out _ _ (hm1.on hd)).mono ?_); rintro e w2 ⟨v2, rfl, hr2, hb2⟩; have hb12 : Below w1.heap.size w1 w2 := hd.trans hb2)
      | (go_at_call 10; (with_reducible refine (same_yes _ hr2.seen (SQ1.out.on hb12)).mono ?_); rintro e w3 ⟨rfl, hb3⟩; have hb13 := bt hb12 hb3))) | fail
    all_goals go_wp2
    all_goals go_ret
    all_goals exact ⟨rfl, bt hb01 hb13⟩
  · have h5' : 5000 < l.length := by omega
    clear h5 hA
    go_enter Try.func6, Try.ntmps6
    go_wp2_with fail
    (go_at_call 9; refine (HAW.out _).mono ?_; rintro e w0 ⟨rfl, hb0⟩)
    go_wp2_with fail
    (go_at_call 9; refine (HAW.out _).mono ?_; rintro e w1 ⟨rfl, hb1⟩)
    go_wp2_with fail
    go_ret
    exact ⟨rfl, bt hb0 hb1⟩

set_option maxRecDepth 10000 in
set_option maxHeartbeats 1000000 in
theorem puts_law (AW : AwakeOk) (PU : PutOk) (v u : Value) (o r : List UInt8) (w : World) (hv : Seen w w.heap.size v o) (hu : Seen w w.heap.size u r) :
    Calls Try.prog 3 #[v, u] w fun e w' => e = .returned (.bool true) ∧ Below w.heap.size w w' := by
  obtain ⟨i0, hi0, hz0, hz1, hz2⟩ := info_parts byte_info
  have hlm := hv.len
  have hlm2 := hu.len
  unfold maxLen at hlm hlm2
  have HS := Lib.hid hv
  have HU := Lib.hid hu
  have HAW := Lib.hid AW
  unfold PutOk at PU
  have HPU := Lib.hid PU
  clear AW PU
  obtain ⟨A, c, rfl, hA⟩ := hv
  obtain ⟨A', c', rfl, hA'⟩ := hu
  clear hA hA'
  by_cases h3 : o.length ≤ 3000
  · by_cases h4 : r.length ≤ 3000
    · have P0 : ([] : List UInt8).length + o.length ≤ 1099511627776 := by simp only [List.length_nil]; omega
      have P1 : o.length + (frame r).length ≤ 1099511627776 := by rw [frame_length]; omega
      have o16 : o.length ≤ 16777216 := by omega
      have r16 : r.length ≤ 16777216 := by omega
      have r27 : r.length ≤ 274877906944 := by omega
      go_enter Try.func3, Try.ntmps3
      go_wp2_with (first
        | (go_at_call 9; refine (HAW.out _).mono ?_; rintro e w1 ⟨rfl, hb1⟩)
        | (at_builtin; refine wpList_append8s (B := w1.heap.size) (l := []) (m := o) rfl (.tmp 18) (.tmp 19) 22 22 rfl 5 i0 Try.underlying22 hi0 hz0 hz1 hz2 (room_new w1) (by simp) (((HS.out.on hb1).al _).src Try.underlying22) P0 rfl rfl ?_; intro v2 w2 hr2 hb2 ho2; have hb12 : Below w1.heap.size w1 w2 := (bal w1 _).trans hb2; have O2 : Own w1.heap.size v2 := own_step (own_new w1 0 0) (by simp) ho2; have hr2' : Room w2 w1.heap.size v2 o := hr2; have HAP : r = [] ∨ ∀ g, v2.ownBlock = some g → (Value.slice A' r.length c').ownBlock ≠ some g := (HU.out.on hb1).own_lt.imp id (fun h g hg he => by have := O2 g hg; have := h g he; omega))
        | (go_at_call 11; (with_reducible refine (HPU.out _ w1.heap.size _ _ _ _ hr2' hb12.size ((HU.out.on hb1).on hb12) HAP o16 r16).mono ?_); rintro e w3 ⟨v3, rfl, hr3, hb3⟩; have hb13 : Below w1.heap.size w1 w3 := hb12.trans hb3)
        | (at_builtin; refine wpList_append8 (B := w3.heap.size) (l := []) (m := o) rfl (.tmp 23) (.tmp 24) 22 22 rfl 5 i0 Try.underlying22 hi0 hz0 hz1 hz2 (room_new w3) (by simp) ((((HS.out.on hb1).on hb13).al _).src Try.underlying22) P0 rfl rfl ?_; intro v4 w4 hr4 hb4; have hb34 : Below w3.heap.size w3 w4 := (bal w3 _).trans hb4)
        | (go_at_call 12; (with_reducible refine (refframe_any _ r _ (((HU.out.on hb1).on hb13).on hb34) r27).mono ?_); rintro e w5 ⟨v5, rfl, hr5, hb5⟩)
        | (at_builtin; refine wpList_append8 (B := w3.heap.size) (l := o) (m := frame r) rfl (.tmp 25) (.tmp 27) 22 22 rfl 5 i0 Try.underlying22 hi0 hz0 hz1 hz2 (hr4.on hb5) (Nat.le_trans hb34.size hb5.size) (hr5.seen.src Try.underlying22) P1 rfl rfl ?_; intro v6 w6 hr6 hb6; have hb36 : Below w3.heap.size w3 w6 := hb34.trans ((hb5.mono hb34.size).trans hb6))
        | (go_at_call 10; (with_reducible refine (same_yes _ (hr3.seen.on hb36) hr6.seen).mono ?_); rintro e w7 ⟨rfl, hb7⟩))
      go_ret
      exact ⟨rfl, bt hb1 (bt hb13 (bt hb36 hb7))⟩
    · have h4' : 3000 < r.length := by omega
      clear h4
      go_enter Try.func3, Try.ntmps3
      go_wp2_with fail
      (go_at_call 9; refine (HAW.out _).mono ?_; rintro e w0 ⟨rfl, hb0⟩)
      go_wp2_with fail
      (go_at_call 9; refine (HAW.out _).mono ?_; rintro e w1 ⟨rfl, hb1⟩)
      go_wp2_with fail
      go_ret
      exact ⟨rfl, bt hb0 hb1⟩
  · have h3' : 3000 < o.length := by omega
    clear h3
    go_enter Try.func3, Try.ntmps3
    go_wp2_with fail
    (go_at_call 9; refine (HAW.out _).mono ?_; rintro e w0 ⟨rfl, hb0⟩)
    go_wp2_with fail
    (go_at_call 9; refine (HAW.out _).mono ?_; rintro e w1 ⟨rfl, hb1⟩)
    go_wp2_with fail
    go_ret
    exact ⟨rfl, bt hb0 hb1⟩

end Go.Proofs.Ytakgkhfakjfodaa
