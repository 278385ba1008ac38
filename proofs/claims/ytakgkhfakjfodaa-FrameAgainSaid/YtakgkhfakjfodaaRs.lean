/-
  The document's own scan.
-/
import Derived.Test.YtakgkhfakjfodaaRow
import Derived.IntWalk
import Derived.Deep.RegionHeld3
import Derived.Deep.DrawnRows
namespace Go.Proofs.Ytakgkhfakjfodaa
open Go.RowKit
attribute [local go_sem ↓] Go.wp_at_zero Go.wp_at_succ

theorem rows_info : (Try.prog.info? 22).map (fun i => (i.zero, i.size, i.bytes)) = some (some (.slice none 0 0), 1, 24) := by kernel_rfl

/-- where the scan stands -/
def ScanAt (l : List UInt8) (w : World) (o i : Value) (wr : World) : Prop :=
  ∃ (p : Nat) (ls : List (List UInt8)), p ≤ l.length ∧ i = .int .i64 (p : Int) ∧ RoomM wr w.heap.size o ls ∧ ls.length ≤ p ∧ scan l = (ls ++ (scan (l.drop p)).1, p + (scan (l.drop p)).2) ∧ Below w.heap.size w wr

/-- what a scan comes to -/
def Scans (l : List UInt8) (w : World) (e : Ending) (w' : World) : Prop :=
  ∃ v, e = .returned (.tuple #[v, .int .i64 ((scan l).2 : Int)]) ∧ Many w' v (scan l).1 ∧ Below w.heap.size w w'

theorem num4 (R : List UInt8) (h : 3 < R.length) : num (R.take 4) = R[0].toNat + 256 * R[1].toNat + 65536 * R[2].toNat + 16777216 * R[3].toNat := by
  match R, h with
  | a :: b :: c :: d :: t, _ =>
    simp [num]
    omega

theorem num4_at (l : List UInt8) (p : Nat) (h : p + 3 < l.length) : num ((l.drop p).take 4) = l[p].toNat + 256 * l[p + 1].toNat + 65536 * l[p + 2].toNat + 16777216 * l[p + 3].toNat := by
  have := num4 (l.drop p) (by rw [List.length_drop]; omega)
  simp only [List.getElem_drop, Nat.add_zero] at this
  exact this

theorem Room.own_lt {w : World} {B : Nat} {v : Value} {l : List UInt8} (h : Room w B v l) : ∀ g, v.ownBlock = some g → g < w.heap.size := by
  intro g hg
  rcases h with ⟨rfl, _⟩ | ⟨g', off, cap, rfl, _, _, _, h4, _⟩
  · cases hg
  · injection hg with hg
    rw [← hg]; exact h4
theorem cut_at {w : World} {B : Nat} {b off c : Nat} {l r : List UInt8} {q : Nat} (h : At w B (some ⟨b, off, none⟩) c l) (hr : r = (l.drop q).take r.length) (hq : q + r.length ≤ l.length) (hpos : 0 < l.length) :
    Seen w B (if c = q then .slice (some ⟨b, off, none⟩) r.length (c - q) else .slice (some ⟨b, off + q, none⟩) r.length (c - q)) r := by
  obtain ⟨h1, h2, h3⟩ := h
  split
  · rename_i hc
    refine ⟨_, c - q, rfl, by omega, by omega, .inl (List.eq_nil_of_length_eq_zero (by omega))⟩
  · refine ⟨_, c - q, rfl, by omega, by omega, ?_⟩
    rcases h3 with rfl | ⟨b', off', e, hb, hw, hrow⟩
    · cases hpos
    · injection e with e
      injection e with e1 e2 _
      subst e1 e2
      refine .inr ⟨b, off + q, rfl, hb, hw, ?_⟩
      have := (hrow.drop q).take r.length
      rw [← hr] at this
      exact this

set_option maxRecDepth 100000 in
set_option maxHeartbeats 1000000 in
theorem rscan_any (v : Value) (l : List UInt8) (w : World) (hv : Seen w w.heap.size v l) (hl : l.length ≤ 274877906944) :
    Calls Try.prog 14 #[v] w (Scans l w) := by
  obtain ⟨i0, hi0, hz0, hz1, hz2⟩ := info_parts byte_info
  obtain ⟨j0, hj0, hy0, hy1, hy2⟩ := info_parts rows_info
  obtain ⟨A, c, rfl, hA⟩ := hv
  have hlc := hA.1
  have hcm := hA.2.1
  unfold maxLen at hcm
  have HA := Lib.hid hA
  clear hA
  go_enter Try.func14, Try.ntmps14
  go_wp2
  go_loopw [4, 5] (ScanAt l w) (fun _ i _ => l.length - (intOf i).toNat)
  case atStart => exact ⟨0, [], Nat.zero_le _, rfl, RoomM.nil, Nat.zero_le _, by simp, Below.refl _ _⟩
  case round =>
    obtain ⟨p, ls, hp, rfl, hr, hlp, hsc, hb⟩ := hrel
    have HSC := Lib.hid hsc
    have hRl : (l.drop p).length = l.length - p := List.length_drop
    by_cases h12 : l.length - p < 12
    · have HE := Lib.hid (scan_none (first_short (b := l.drop p) (by omega)))
      have h12' : (l.length : Int) - (p : Int) < 12 := by omega
      clear hsc hRl
      go_wp2
      go_ret2
      exact ⟨_, by rw [HSC.out, HE.out]; rfl, by rw [HSC.out, HE.out, List.append_nil]; exact hr.many, hb⟩
    · obtain ⟨b, off, rfl, r1⟩ := (HA.out.below hb).row (by omega)
      have e0 := r1 p (by omega)
      have e1 := r1 (p + 1) (by omega)
      have e2 := r1 (p + 2) (by omega)
      have e3 := r1 (p + 3) (by omega)
      have h12' : (12 : Int) ≤ (l.length : Int) - (p : Int) := by omega
      have b0 := l[p].toNat_lt
      have b1 := l[p + 1].toNat_lt
      have b2 := l[p + 2].toNat_lt
      have b3 := l[p + 3].toNat_lt
      obtain ⟨N, hN⟩ : ∃ N, N = num ((l.drop p).take 4) := ⟨_, rfl⟩
      have hNI : (l[p].toNat : Int) + 256 * (l[p + 1].toNat : Int) + 65536 * (l[p + 2].toNat : Int) + 16777216 * (l[p + 3].toNat : Int) = (N : Int) := by
        have := hN.trans (num4_at l p (by omega))
        omega
      by_cases hbad : 16777216 < N ∨ l.length < p + 12 + N
      · have HE := Lib.hid (scan_none (first_long (b := l.drop p) (by omega) (by rw [← hN]; omega)))
        clear hsc hRl r1 hN
        by_cases hbig : 16777216 < N
        · clear hbad
          go_wp2
          go_quiet (fail)
          go_wp2
          go_ret2
          exact ⟨_, by rw [HSC.out, HE.out]; rfl, by rw [HSC.out, HE.out, List.append_nil]; exact hr.many.on (below_drewN _ _ _), hb.trans (below_drewN _ _ _)⟩
        · have hlong : (l.length : Int) < (p : Int) + 12 + (N : Int) := by omega
          have hsm : (N : Int) ≤ 16777216 := by omega
          clear hbad hbig
          go_wp2
          go_quiet (fail)
          go_wp2
          go_ret2
          exact ⟨_, by rw [HSC.out, HE.out]; rfl, by rw [HSC.out, HE.out, List.append_nil]; exact hr.many.on (below_drewN _ _ _), hb.trans (below_drewN _ _ _)⟩
      · obtain ⟨r, hrd⟩ : ∃ r, r = (l.drop (p + 12)).take N := ⟨_, rfl⟩
        have hrl : r.length = N := by rw [hrd, List.length_take, List.length_drop]; omega
        obtain rfl := hrl
        have hsm : (r.length : Int) ≤ 16777216 := by omega
        have hfit : (p : Int) + 12 + (r.length : Int) ≤ (l.length : Int) := by omega
        have HAR := Lib.hid (HA.out.below hb)
        by_cases hcq : c = p + 12
        · subst hcq
          have SR : Hid (Seen wr w.heap.size (.slice (some ⟨b, off, none⟩) (p + 12 + r.length - (p + 12)) (p + 12 - (p + 12))) r) := by
            have := cut_at HAR.out hrd (by omega) (by omega)
            rw [if_pos rfl] at this
            rw [Nat.add_sub_cancel_left]
            exact this
          have P1 : ([] : List UInt8).length + r.length ≤ 1099511627776 := by simp only [List.length_nil]; omega
          have hdrop : (l.drop p).drop 12 = l.drop (p + 12) := List.drop_drop
          have hdrop2 : (l.drop p).drop (12 + r.length) = l.drop (p + 12 + r.length) := by rw [List.drop_drop, Nat.add_assoc]
          have SP : Hid (Seen wr w.heap.size (.slice (some ⟨b, off + p, none⟩) (p + 12 + r.length - p) 12) ((l.drop p).take (12 + r.length))) := by
            have hlen : ((l.drop p).take (12 + r.length)).length = 12 + r.length := by rw [List.length_take, List.length_drop]; omega
            have := cut_at (r := (l.drop p).take (12 + r.length)) HAR.out (by rw [hlen]) (by rw [hlen]; omega) (by omega)
            rw [if_neg (by omega), hlen] at this
            rw [show p + 12 + r.length - p = 12 + r.length by omega]
            rw [show p + 12 - p = 12 by omega] at this
            exact this
          have hp0 : (0 : Int) ≤ (p : Int) := by omega
          have hpc : (p : Int) + 12 + (r.length : Int) ≤ (p : Int) + 12 := by omega
          have hr0 : (r.length : Int) ≤ 0 := by omega
          have hr1 : r.length ≤ 0 := by omega
          by_cases hfr : frame r = (l.drop p).take (12 + r.length)
          · have HNX := Lib.hid (scan_some (first_yes (b := l.drop p) (by omega) (by rw [← hN]; omega) (by rw [← hN, hdrop, ← hrd]; exact hfr)))
            rw [← hN, hdrop, ← hrd, hdrop2] at HNX
            have HD := Lib.hid (decide_eq_true hfr)
            clear hrd hN hsc hRl r1 hbad hfr hdrop hdrop2
            go_wp2
            go_quiet (fail)
            generalize hq : World.drewN wr _ = wq
            have hbq : Below wr.heap.size wr wq := hq ▸ below_drewN _ _ _
            clear hq
            go_wp2_with (at_builtin; refine wpList_append8s (B := wq.heap.size) (l := []) (m := r) rfl (.tmp 55) (.tmp 63) 22 22 rfl 5 i0 Try.underlying22 hi0 hz0 hz1 hz2 (room_new wq) (by simp) (((SR.out.full.on hbq).al _).src Try.underlying22) P1 rfl rfl ?_; intro v3 w3 hr3 hb3 ho3)
            have hb03 : Below wr.heap.size wr w3 := bt hbq ((bal wq _).trans hb3)
            have O3 : Own wq.heap.size v3 := own_step (own_new wq 0 0) (by simp) ho3
            have L3 := Lib.hid (hr3.own_lt)
            obtain ⟨A3, c3, rfl, _, _, _⟩ := (show Room w3 wq.heap.size v3 r from hr3).cut
            have S3 := Lib.hid (show Seen w3 w3.heap.size (.slice A3 r.length c3) r from hr3.seen)
            have FR := Lib.hid (fun W (h : Seen W W.heap.size (.slice A3 r.length c3) r) => refframe_any _ r W h (by omega))
            have SP3 := Lib.hid (SP.out.full.on hb03)
            have hd : Below w3.heap.size w3 w3.drew := (Below.refl _ _).drew
            have q1 : IntKind.i64.wrap ((p : Int) + 12) = (p : Int) + 12 := IntWalk.i64_in _ (by omega)
            have q2 : IntKind.i64.wrap ((p : Int) + 12 + (r.length : Int)) = (p : Int) + 12 + (r.length : Int) := IntWalk.i64_in _ (by omega)
            have q3 : (0 : Int) ≤ (p : Int) + 12 + (r.length : Int) := by omega
            have q4 : (p : Int) ≤ (p : Int) + 12 + (r.length : Int) := by omega
            have q5 : ((p : Int) + 12 + (r.length : Int)).toNat = p + 12 + r.length := by omega
            have q6 : ¬ p + 12 = p := by omega
            first | (go_region_held3 (fun _ => True) (trivial) (first
              | (go_at_call 12; (with_reducible refine (FR.out _ (S3.out.on hd)).mono ?_); rintro e w4 ⟨v4, rfl, hr4, hb4⟩; have hb34 : Below w3.heap.size w3 w4 := hd.trans hb4)
              | (go_at_call 10; (with_reducible refine (same_is _ hr4.seen (SP3.out.on hb34) HD.out).mono ?_); rintro e w5 ⟨rfl, hb5⟩; have hb35 := bt hb34 hb5))) | fail
            clear q1 q2 q3 q4 q5 q6
            obtain ⟨vs, hv1, hv2, hv3⟩ := hr
            have hbr5 : Below wr.heap.size wr w5 := bt hb03 hb35
            have hb05 : Below w.heap.size w w5 := hb.trans (hbr5.mono hb.size)
            have HV3 := Lib.hid hv3
            have HV1 := Lib.hid hv1
            have T1 : vs.length + [Value.slice A3 r.length c3].length ≤ 1099511627776 := by rw [hv1]; simp only [List.length_singleton]; omega
            have T2 : (vs.length + [Value.slice A3 r.length c3].length) * 24 ≤ 140737488355328 := by rw [hv1]; simp only [List.length_singleton]; omega
            clear hv1 hv3
            go_wp2_with (at_builtin; refine wpList_appendV (B := w.heap.size) (xs := vs) (ys := [.slice A3 r.length c3]) rfl (.tmp 78) (.tmp 80) 27 27 rfl 22 j0 (.slice none 0 0) 24 Try.underlying27 hj0 hy0 hy1 rfl hy2 (hv2.on (hbr5.trans ((bal w5 _).mono hbr5.size))) (Nat.le_trans hb05.size (bal w5 _).size) (srcV_one w5 _ rfl Try.underlying27) T1 T2 rfl rfl ?_; intro v6 w6 hr6 hb6 hk6 hl6)
            go_roundw
            case rel =>
              refine ⟨p + 12 + r.length, ls ++ [r], by omega, by go_num, ?_, by rw [List.length_append, List.length_singleton]; omega, ?_, hb05.trans (((bal w5 _).mono hb05.size).trans hb6)⟩
              · refine RoomM.put HV1.out hv2 HV3.out (hbr5.trans ((bal w5 _).mono hbr5.size)) hr6 hk6 hb6.size hl6 ((S3.out.on hb35).al _) (fun g hg => ?_)
                have a1 := O3 g hg
                have a2 := L3.out g hg
                have a3 := hb35.size
                have a4 := hbq.size
                have a5 := (bal w5 (Obj.cells #[Value.slice A3 r.length c3] 22)).size
                exact ⟨by omega, by omega⟩
              · rw [HSC.out, HNX.out, List.append_assoc]
                simp only [List.singleton_append, Nat.add_assoc]
            case measure => simp [intOf]; omega
          · have HE := Lib.hid (scan_none (first_no (b := l.drop p) (by omega) (by rw [← hN]; omega) (by rw [← hN, hdrop, ← hrd]; exact hfr)))
            have HD := Lib.hid (decide_eq_false hfr)
            clear hrd hN hsc hRl r1 hbad hfr hdrop hdrop2
            go_wp2
            go_quiet (fail)
            generalize hq : World.drewN wr _ = wq
            have hbq : Below wr.heap.size wr wq := hq ▸ below_drewN _ _ _
            clear hq
            go_wp2_with (at_builtin; refine wpList_append8s (B := wq.heap.size) (l := []) (m := r) rfl (.tmp 55) (.tmp 63) 22 22 rfl 5 i0 Try.underlying22 hi0 hz0 hz1 hz2 (room_new wq) (by simp) (((SR.out.full.on hbq).al _).src Try.underlying22) P1 rfl rfl ?_; intro v3 w3 hr3 hb3 ho3)
            have hb03 : Below wr.heap.size wr w3 := bt hbq ((bal wq _).trans hb3)
            have O3 : Own wq.heap.size v3 := own_step (own_new wq 0 0) (by simp) ho3
            have L3 := Lib.hid (hr3.own_lt)
            obtain ⟨A3, c3, rfl, _, _, _⟩ := (show Room w3 wq.heap.size v3 r from hr3).cut
            have S3 := Lib.hid (show Seen w3 w3.heap.size (.slice A3 r.length c3) r from hr3.seen)
            have FR := Lib.hid (fun W (h : Seen W W.heap.size (.slice A3 r.length c3) r) => refframe_any _ r W h (by omega))
            have SP3 := Lib.hid (SP.out.full.on hb03)
            have hd : Below w3.heap.size w3 w3.drew := (Below.refl _ _).drew
            have q1 : IntKind.i64.wrap ((p : Int) + 12) = (p : Int) + 12 := IntWalk.i64_in _ (by omega)
            have q2 : IntKind.i64.wrap ((p : Int) + 12 + (r.length : Int)) = (p : Int) + 12 + (r.length : Int) := IntWalk.i64_in _ (by omega)
            have q3 : (0 : Int) ≤ (p : Int) + 12 + (r.length : Int) := by omega
            have q4 : (p : Int) ≤ (p : Int) + 12 + (r.length : Int) := by omega
            have q5 : ((p : Int) + 12 + (r.length : Int)).toNat = p + 12 + r.length := by omega
            have q6 : ¬ p + 12 = p := by omega
            first | (go_region_held3 (fun _ => True) (trivial) (first
              | (go_at_call 12; (with_reducible refine (FR.out _ (S3.out.on hd)).mono ?_); rintro e w4 ⟨v4, rfl, hr4, hb4⟩; have hb34 : Below w3.heap.size w3 w4 := hd.trans hb4)
              | (go_at_call 10; (with_reducible refine (same_is _ hr4.seen (SP3.out.on hb34) HD.out).mono ?_); rintro e w5 ⟨rfl, hb5⟩; have hb35 := bt hb34 hb5))) | fail
            clear q1 q2 q3 q4 q5 q6
            go_wp2
            go_ret2
            exact ⟨_, by rw [HSC.out, HE.out]; rfl, by rw [HSC.out, HE.out, List.append_nil]; exact hr.many.on (bt hb03 hb35), hb.trans ((bt hb03 hb35).mono hb.size)⟩
        · have SR : Hid (Seen wr w.heap.size (.slice (some ⟨b, off + (p + 12), none⟩) (p + 12 + r.length - (p + 12)) (c - (p + 12))) r) := by
            have := cut_at HAR.out hrd (by omega) (by omega)
            rw [if_neg hcq] at this
            rw [Nat.add_sub_cancel_left]
            exact this
          have hcq' : p + 12 < c := by omega
          have P1 : ([] : List UInt8).length + r.length ≤ 1099511627776 := by simp only [List.length_nil]; omega
          have hdrop : (l.drop p).drop 12 = l.drop (p + 12) := List.drop_drop
          have hdrop2 : (l.drop p).drop (12 + r.length) = l.drop (p + 12 + r.length) := by rw [List.drop_drop, Nat.add_assoc]
          have SP : Hid (Seen wr w.heap.size (.slice (some ⟨b, off + p, none⟩) (p + 12 + r.length - p) (c - p)) ((l.drop p).take (12 + r.length))) := by
            have hlen : ((l.drop p).take (12 + r.length)).length = 12 + r.length := by rw [List.length_take, List.length_drop]; omega
            have := cut_at (r := (l.drop p).take (12 + r.length)) HAR.out (by rw [hlen]) (by rw [hlen]; omega) (by omega)
            rw [if_neg (by omega), hlen] at this
            rw [show p + 12 + r.length - p = 12 + r.length by omega]
            exact this
          have hp0 : (0 : Int) ≤ (p : Int) := by omega
          have hpc : (p : Int) + 12 + (r.length : Int) ≤ (c : Int) := by omega
          by_cases hfr : frame r = (l.drop p).take (12 + r.length)
          · have HNX := Lib.hid (scan_some (first_yes (b := l.drop p) (by omega) (by rw [← hN]; omega) (by rw [← hN, hdrop, ← hrd]; exact hfr)))
            rw [← hN, hdrop, ← hrd, hdrop2] at HNX
            have HD := Lib.hid (decide_eq_true hfr)
            clear hrd hN hsc hRl r1 hbad hcq hfr hdrop hdrop2
            go_wp2
            go_quiet (fail)
            generalize hq : World.drewN wr _ = wq
            have hbq : Below wr.heap.size wr wq := hq ▸ below_drewN _ _ _
            clear hq
            go_wp2_with (at_builtin; refine wpList_append8s (B := wq.heap.size) (l := []) (m := r) rfl (.tmp 55) (.tmp 63) 22 22 rfl 5 i0 Try.underlying22 hi0 hz0 hz1 hz2 (room_new wq) (by simp) (((SR.out.full.on hbq).al _).src Try.underlying22) P1 rfl rfl ?_; intro v3 w3 hr3 hb3 ho3)
            have hb03 : Below wr.heap.size wr w3 := bt hbq ((bal wq _).trans hb3)
            have O3 : Own wq.heap.size v3 := own_step (own_new wq 0 0) (by simp) ho3
            have L3 := Lib.hid (hr3.own_lt)
            obtain ⟨A3, c3, rfl, _, _, _⟩ := (show Room w3 wq.heap.size v3 r from hr3).cut
            have S3 := Lib.hid (show Seen w3 w3.heap.size (.slice A3 r.length c3) r from hr3.seen)
            have FR := Lib.hid (fun W (h : Seen W W.heap.size (.slice A3 r.length c3) r) => refframe_any _ r W h (by omega))
            have SP3 := Lib.hid (SP.out.full.on hb03)
            have hd : Below w3.heap.size w3 w3.drew := (Below.refl _ _).drew
            have q1 : IntKind.i64.wrap ((p : Int) + 12) = (p : Int) + 12 := IntWalk.i64_in _ (by omega)
            have q2 : IntKind.i64.wrap ((p : Int) + 12 + (r.length : Int)) = (p : Int) + 12 + (r.length : Int) := IntWalk.i64_in _ (by omega)
            have q3 : (0 : Int) ≤ (p : Int) + 12 + (r.length : Int) := by omega
            have q4 : (p : Int) ≤ (p : Int) + 12 + (r.length : Int) := by omega
            have q5 : ((p : Int) + 12 + (r.length : Int)).toNat = p + 12 + r.length := by omega
            have q6 : ¬ c = p := by omega
            first | (go_region_held3 (fun _ => True) (trivial) (first
              | (go_at_call 12; (with_reducible refine (FR.out _ (S3.out.on hd)).mono ?_); rintro e w4 ⟨v4, rfl, hr4, hb4⟩; have hb34 : Below w3.heap.size w3 w4 := hd.trans hb4)
              | (go_at_call 10; (with_reducible refine (same_is _ hr4.seen (SP3.out.on hb34) HD.out).mono ?_); rintro e w5 ⟨rfl, hb5⟩; have hb35 := bt hb34 hb5))) | fail
            clear q1 q2 q3 q4 q5 q6
            obtain ⟨vs, hv1, hv2, hv3⟩ := hr
            have hbr5 : Below wr.heap.size wr w5 := bt hb03 hb35
            have hb05 : Below w.heap.size w w5 := hb.trans (hbr5.mono hb.size)
            have HV3 := Lib.hid hv3
            have HV1 := Lib.hid hv1
            have T1 : vs.length + [Value.slice A3 r.length c3].length ≤ 1099511627776 := by rw [hv1]; simp only [List.length_singleton]; omega
            have T2 : (vs.length + [Value.slice A3 r.length c3].length) * 24 ≤ 140737488355328 := by rw [hv1]; simp only [List.length_singleton]; omega
            clear hv1 hv3
            go_wp2_with (at_builtin; refine wpList_appendV (B := w.heap.size) (xs := vs) (ys := [.slice A3 r.length c3]) rfl (.tmp 78) (.tmp 80) 27 27 rfl 22 j0 (.slice none 0 0) 24 Try.underlying27 hj0 hy0 hy1 rfl hy2 (hv2.on (hbr5.trans ((bal w5 _).mono hbr5.size))) (Nat.le_trans hb05.size (bal w5 _).size) (srcV_one w5 _ rfl Try.underlying27) T1 T2 rfl rfl ?_; intro v6 w6 hr6 hb6 hk6 hl6)
            go_roundw
            case rel =>
              refine ⟨p + 12 + r.length, ls ++ [r], by omega, by go_num, ?_, by rw [List.length_append, List.length_singleton]; omega, ?_, hb05.trans (((bal w5 _).mono hb05.size).trans hb6)⟩
              · refine RoomM.put HV1.out hv2 HV3.out (hbr5.trans ((bal w5 _).mono hbr5.size)) hr6 hk6 hb6.size hl6 ((S3.out.on hb35).al _) (fun g hg => ?_)
                have a1 := O3 g hg
                have a2 := L3.out g hg
                have a3 := hb35.size
                have a4 := hbq.size
                have a5 := (bal w5 (Obj.cells #[Value.slice A3 r.length c3] 22)).size
                exact ⟨by omega, by omega⟩
              · rw [HSC.out, HNX.out, List.append_assoc]
                simp only [List.singleton_append, Nat.add_assoc]
            case measure => simp [intOf]; omega
          · have HE := Lib.hid (scan_none (first_no (b := l.drop p) (by omega) (by rw [← hN]; omega) (by rw [← hN, hdrop, ← hrd]; exact hfr)))
            have HD := Lib.hid (decide_eq_false hfr)
            clear hrd hN hsc hRl r1 hbad hcq hfr hdrop hdrop2
            go_wp2
            go_quiet (fail)
            generalize hq : World.drewN wr _ = wq
            have hbq : Below wr.heap.size wr wq := hq ▸ below_drewN _ _ _
            clear hq
            go_wp2_with (at_builtin; refine wpList_append8s (B := wq.heap.size) (l := []) (m := r) rfl (.tmp 55) (.tmp 63) 22 22 rfl 5 i0 Try.underlying22 hi0 hz0 hz1 hz2 (room_new wq) (by simp) (((SR.out.full.on hbq).al _).src Try.underlying22) P1 rfl rfl ?_; intro v3 w3 hr3 hb3 ho3)
            have hb03 : Below wr.heap.size wr w3 := bt hbq ((bal wq _).trans hb3)
            have O3 : Own wq.heap.size v3 := own_step (own_new wq 0 0) (by simp) ho3
            have L3 := Lib.hid (hr3.own_lt)
            obtain ⟨A3, c3, rfl, _, _, _⟩ := (show Room w3 wq.heap.size v3 r from hr3).cut
            have S3 := Lib.hid (show Seen w3 w3.heap.size (.slice A3 r.length c3) r from hr3.seen)
            have FR := Lib.hid (fun W (h : Seen W W.heap.size (.slice A3 r.length c3) r) => refframe_any _ r W h (by omega))
            have SP3 := Lib.hid (SP.out.full.on hb03)
            have hd : Below w3.heap.size w3 w3.drew := (Below.refl _ _).drew
            have q1 : IntKind.i64.wrap ((p : Int) + 12) = (p : Int) + 12 := IntWalk.i64_in _ (by omega)
            have q2 : IntKind.i64.wrap ((p : Int) + 12 + (r.length : Int)) = (p : Int) + 12 + (r.length : Int) := IntWalk.i64_in _ (by omega)
            have q3 : (0 : Int) ≤ (p : Int) + 12 + (r.length : Int) := by omega
            have q4 : (p : Int) ≤ (p : Int) + 12 + (r.length : Int) := by omega
            have q5 : ((p : Int) + 12 + (r.length : Int)).toNat = p + 12 + r.length := by omega
            have q6 : ¬ c = p := by omega
            first | (go_region_held3 (fun _ => True) (trivial) (first
              | (go_at_call 12; (with_reducible refine (FR.out _ (S3.out.on hd)).mono ?_); rintro e w4 ⟨v4, rfl, hr4, hb4⟩; have hb34 : Below w3.heap.size w3 w4 := hd.trans hb4)
              | (go_at_call 10; (with_reducible refine (same_is _ hr4.seen (SP3.out.on hb34) HD.out).mono ?_); rintro e w5 ⟨rfl, hb5⟩; have hb35 := bt hb34 hb5))) | fail
            clear q1 q2 q3 q4 q5 q6
            go_wp2
            go_ret2
            exact ⟨_, by rw [HSC.out, HE.out]; rfl, by rw [HSC.out, HE.out, List.append_nil]; exact hr.many.on (bt hb03 hb35), hb.trans ((bt hb03 hb35).mono hb.size)⟩

end Go.Proofs.Ytakgkhfakjfodaa
