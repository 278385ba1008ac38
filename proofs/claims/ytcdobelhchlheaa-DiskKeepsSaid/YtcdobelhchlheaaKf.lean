/-
  DiskKeeps, of every input (made by disk-keeps-gen.py).
-/
import Derived.Test.YtcdobelhchlheaaKe
import Derived.Test.YtcdobelhchlheaaEndm
namespace Go.Proofs.Ytcdobelhchlheaa
open Go.RowKit
attribute [local go_sem ↓] Go.wp_at_zero Go.wp_at_succ

set_option maxRecDepth 100000 in
set_option maxHeartbeats 4000000 in
theorem keeps_walk (v : Value) (l : List Actd) (vm : Value) (ls : List (List UInt8)) (keep torn : Int) (w : World) (hv : ActsAt w w.heap.size v l) (hf : ∀ a ∈ l, a.fits) (hmany : Many w vm ls) :
    Calls Try.prog 4 #[v, vm, .int .i64 keep, .int .i64 torn] w fun e w' => e = .returned (.bool true) ∧ Below w.heap.size w w' := by
  obtain ⟨i0, hi0, hy0, hy1, hy2⟩ := info_parts byte_info
  have HV := Lib.hid hv
  have HMY := Lib.hid hmany
  obtain ⟨A, c, rfl, _⟩ := hv.len
  obtain ⟨Am, cm, rfl, hml, _⟩ := hmany
  clear hv
  by_cases hfew : fewA l = true
  · obtain ⟨h40, h200⟩ := fewA_small hfew
    have HR := Lib.hid (few_right hfew (fun a ha => .inr (hf a ha)))
    have H200 := Lib.hid h200
    clear hf h200
    by_cases h20 : ls.length ≤ 20
    · have h20' : (ls.length : Int) ≤ 20 := by omega
      go_enter Try.func4, Try.ntmps4
      go_wp2_with fail
      go_at_call 8
      refine (awake_any w).mono ?_
      rintro e w1 ⟨rfl, b1⟩
      have hv1 := HV.out.on b1
      go_wp2_with fail
      go_at_call 9
      refine (few_any w1 _ _ l hv1 (Nat.le_refl _)).mono ?_
      rintro e w2 ⟨rfl, b2⟩
      have b02 := bt b1 b2
      rw [hfew]
      clear hv1 b1 b2
      go_wp2_with fail
      go_at_call 10
      refine (new_any w2 w.heap.size b02.size).mono ?_
      rintro e w3 ⟨rfl, hd3, b3⟩
      have b03 := bt b02 b3
      generalize hF : (fun x => x = w2.heap.size) = F3 at hd3
      clear hF b3 b02
      generalize w2.heap.size = g at hd3 ⊢
      have HD3 := Lib.hid hd3
      have HB3 := Lib.hid b03
      clear hd3 b03 hfew
      go_wp2
      go_loopw [10] (fun i wr => ∃ k : Nat, k ≤ l.length ∧ i = .int .i64 (k : Int) ∧ Standing w.heap.size g (201 * k) wr ∧ Below w.heap.size w wr) (fun i _ => l.length - (intOf i).toNat)
      case atStart => exact ⟨0, Nat.zero_le _, rfl, ⟨_, _, HD3.out, Nat.le_refl _⟩, HB3.out⟩
      case round =>
        obtain ⟨k, hk, rfl, ⟨s, F, hd, hm⟩, hb⟩ := hrel
        by_cases hlt : k < l.length
        · obtain ⟨b, off, vb, rfl, hbw, hbB, hsb, c0, c1, c2, c3, c4⟩ := (HV.out.below hb).at_ k hlt
          have hmem := List.getElem_mem hlt
          have ha2 := H200.out _ hmem
          have har := HR.out _ hmem
          have hs2 : Seen wr wr.heap.size vb l[k].b := hsb.full
          obtain ⟨a, hae⟩ : ∃ a, a = l[k] := ⟨_, rfl⟩
          rw [← hae] at c0 c1 c3 c4 hs2 ha2 har
          have RP := Lib.hid (play_any a vb wr w.heap.size g s F hd hs2 har (by omega))
          have hmn := act_mass s a
          have i0 : (0 : Int) ≤ (k : Int) := by omega
          have i1 : (k : Int) < (l.length : Int) := by omega
          obtain ⟨Ab, cb, hvb, _⟩ := hs2
          subst hvb
          have HB := Lib.hid hb
          have HM : Hid ((s.act a).1.mass ≤ 201 * (k + 1)) := by show _ ≤ _; omega
          clear hae hsb har hd hb hmem hbB ha2 hmn hm
          go_wp2_with fail
          go_at_call 11
          refine (RP.out).mono ?_
          rintro e w5 ⟨rfl, F5, hd5, hf5, hb5, hk5⟩
          have HD5 := Lib.hid hd5
          have HB5 := Lib.hid hb5
          clear hd5 hf5 hb5 hk5 RP c0 c1 c2 c3 c4
          go_wp2
          go_roundw
          case rel => exact ⟨k + 1, by omega, by go_num, ⟨_, _, HD5.out, HM.out⟩, HB.out.trans HB5.out⟩
          case measure => simp [intOf]; omega
        · have hms : s.mass ≤ 800000 := by omega
          clear hm
          go_wp2_with fail
          go_at_call 14
          refine (arm_any (-1) (by unfold I64; omega) wr w.heap.size g s F hd).mono ?_
          rintro e w5 ⟨rfl, F5, hd5, hf5, hb5, hk5⟩
          have b5 := hb.trans hb5
          clear hf5 hb5 hk5
          by_cases hdn : s.down = true
          · rw [arm_down hdn] at hd5
            go_wp2_with fail
            go_at_call 15
            refine (sync_is hd5 (by omega) (sync_down hdn)).mono ?_
            rintro e w6 ⟨rfl, F6, hd6, hf6, hb6, hk6⟩
            go_wp2_with fail
            go_at_call 16
            refine (down_disk w6 _ _ _ _ hd6).mono ?_
            rintro e w7 ⟨rfl, rfl⟩
            rw [hdn]
            go_wp2
            go_ret
            exact ⟨rfl, b5.trans hb6⟩
          · have hdn' : s.down = false := by simpa using hdn
            go_wp2_with fail
            go_at_call 15
            refine (sync_is hd5 (by rw [arm_mass]; omega) (arm_up hdn' hd.right)).mono ?_
            rintro e w6 ⟨rfl, F6, hd6, hf6, hb6, hk6⟩
            have hm6 : (synced s.now).mass ≤ 800000 := Nat.le_trans (synced_mass hd.right) (by omega)
            have b6 := b5.trans hb6
            generalize s.now = x at hd6 hm6 ⊢
            clear hd5 b5 hf6 hb6 hk6 hd hb hdn hdn' hms
            have hm6' : (synced x).mass ≤ 900000 := by omega
            go_wp2_with fail
            go_at_call 17
            refine (read_is hd6 hm6' (l := x.a1) (why := 0) rfl rfl).mono ?_
            rintro e w7 ⟨ua, rfl, ha, oa, b7⟩
            have hd7 := hd6.on b7
            go_wp2_with fail
            go_at_call 17
            refine (read_is hd7 hm6' (l := x.a0) (why := 0) rfl rfl).mono ?_
            rintro e w8 ⟨ub, rfl, hbb, ob, b8⟩
            have hd8 := hd7.on b8
            have ha8 := ha.on b8
            have b08 : Below w.heap.size w w8 := b6.trans ((bt b7 b8).mono hd6.base)
            go_wp2_with fail
            go_at_call 18
            refine (first_is hd8 rfl rfl).mono ?_
            rintro e w9 ⟨rfl, rfl⟩
            have hxm : x.mass ≤ 800000 := by
              have : (synced x).mass = x.mass := rfl
              omega
            have hxa : x.a1.length ≤ 800000 := by unfold Cont.mass at hxm; omega
            have P1 : ([] : List UInt8).length + x.a1.length ≤ 1099511627776 := by simp only [List.length_nil]; omega
            have R0 : Room w8 w8.heap.size (.slice none 0 0) [] := Room.nil
            obtain ⟨Aa, za, hva, _⟩ := ha8.slice
            have S1 : Src Try.prog 1 30 ua x.a1.length (c8 x.a1) w8 := by
              obtain ⟨A', c', e', h'⟩ := ha8.1.seen
              rw [e']
              exact h'.src Try.underlying30
            have fa8 : Free ua F6 ∧ ∀ k, ua.ownBlock = some k → k < w8.heap.size := ⟨fun k e hF => by have := (hd6.less k hF).2; have := oa k e; omega, fun k e => (ha8.2 k e).2⟩
            have fb8 : Free ub F6 ∧ ∀ k, ub.ownBlock = some k → k < w8.heap.size := ⟨fun k e hF => by have := (hd7.less k hF).2; have := ob k e; omega, fun k e => (hbb.2 k e).2⟩
            have HA8 := Lib.hid ha8
            have HB8 := Lib.hid hbb
            have HD8 := Lib.hid hd8
            have HB08 := Lib.hid b08
            have HFA := Lib.hid fa8
            have HFB := Lib.hid fb8
            have HXM := Lib.hid hxm
            obtain ⟨Ab, zb, hvb, _⟩ := hbb.slice
            generalize hna : x.a1.length = na at hva
            generalize hnb : x.a0.length = nb at hvb
            rw [hna] at S1 P1
            have HNA := Lib.hid hna
            subst hva hvb
            clear hna hnb hd6 hd7 hd8 ha ha8 hbb b6 b7 b8 b08 oa ob hm6 hm6' hxm fa8 fb8
            go_wp2_with (at_builtin; refine wpList_append8k (B := w8.heap.size) (l := []) (m := x.a1) rfl (.tmp 73) (.tmp 74) 30 30 rfl 5 i0 Try.underlying30 hi0 hy0 hy1 hy2 R0 (Nat.le_refl _) (by rw [HNA.out]; exact S1) (by rw [HNA.out]; exact P1) rfl rfl ?_; intro va wq hrq hbq hoq hkq; rw [List.nil_append] at hrq)
            have hov : ∀ k, va.ownBlock = some k → w8.heap.size ≤ k := fun k e => (hoq k e).elim (fun q => by cases q) id
            have hbq' : Below w8.heap.size w8 wq := hbq
            have H0 : Held7 w.heap.size w8.heap.size g x (ls.take 0) (.slice Aa na za) (.slice Ab nb zb) va wq := by
              refine ⟨F6, ?_, ⟨HA8.out.on hbq', HFA.out⟩, ⟨HB8.out.on hbq', HFB.out⟩, ⟨?_, fun k e => ⟨hov k e, hrq.own_lt k e⟩⟩, fun k e hF => by have := (HD8.out.less k hF).2; have := hov k e; omega⟩
              · rw [List.take_zero, since_nil]; exact HD8.out.on hbq'
              · rw [List.take_zero]; simpa using hrq
            have HH0 := Lib.hid H0
            have HSQ : Hid (w8.heap.size ≤ wq.heap.size) := hbq'.size
            have HBQ : Hid (Below w.heap.size w wq) := bt HB08.out hbq'
            clear H0 hbq hbq' hov hoq hkq hrq R0 S1 P1
            go_wp2
            go_loopw [17, 18] (fun vall i wr => ∃ k : Nat, k ≤ ls.length ∧ i = .int .i64 (k : Int) ∧ Held7 w.heap.size w8.heap.size g x (ls.take k) (.slice Aa na za) (.slice Ab nb zb) vall wr ∧ (∀ m ∈ ls.take k, m.length ≤ 200) ∧ w8.heap.size ≤ wr.heap.size ∧ Below w.heap.size w wr) (fun _ i _ => ls.length - (intOf i).toNat)
            case atStart => exact ⟨0, Nat.zero_le _, rfl, HH0.out, (by intro m hm; rw [List.take_zero] at hm; cases hm), HSQ.out, HBQ.out⟩
            case round =>
              obtain ⟨k, hk, rfl, hheld, hsm, hsz, hb⟩ := hrel
              have HSZ := Lib.hid hsz
              clear hsz
              by_cases hlt : k < ls.length
              · obtain ⟨F, hd, ⟨hra, hfa, hna⟩, ⟨hrb, hfb, hnb⟩, hrv, hfv⟩ := hheld
                have HMW := Lib.hid (HMY.out.on hb)
                obtain ⟨A', c', e', hat'⟩ := HMW.out
                injection e' with e1 _ e3
                subst e1 e3
                obtain ⟨bm, om, u, hAm, hbm, hcell, hseen⟩ := hat'.at_ k hlt
                subst hAm
                obtain ⟨m, hme⟩ : ∃ m, m = ls[k] := ⟨_, rfl⟩
                rw [← hme] at hseen
                have HTK : Hid (ls.take (k + 1) = ls.take k ++ [m]) := by show _ = _; rw [List.take_succ_eq_append_getElem hlt, hme]
                have i0' : (0 : Int) ≤ (k : Int) := by omega
                have i1 : (k : Int) < (ls.length : Int) := by omega
                obtain ⟨Au, cu, hu, hau⟩ := hseen
                have HSU : Hid (Seen wr wr.heap.size u m) := ⟨Au, cu, hu, hau⟩
                subst hu
                have HB := Lib.hid hb
                have HSM := Lib.hid hsm
                clear hau hme hat'
                by_cases h2 : m.length ≤ 200
                · have h2' : (m.length : Int) ≤ 200 := by omega
                  have hfl := flat_len (ls.take k) hsm
                  have htl : (ls.take k).length ≤ 20 := by rw [List.length_take]; omega
                  have hP : (x.a1 ++ (ls.take k).flatten).length + m.length ≤ 1099511627776 := by rw [List.length_append]; omega
                  have RA := Lib.hid (append_is hd HSU.out (by rw [since_mass]; have := HXM.out; omega) (since_chg x (ls.take k) m))
                  have HP := Lib.hid hP
                  clear hsm hfl htl hb hP
                  go_wp2_with fail
                  go_at_call 19
                  refine (RA.out).mono ?_
                  rintro e w5 ⟨rfl, F5, hd5, hf5, hb5, hk5⟩
                  have hra5 := hra.kept (fun q e => hk5 q (hra.2 q e).2 (hfa q e)) hb5.size
                  have hrb5 := hrb.kept (fun q e => hk5 q (hrb.2 q e).2 (hfb q e)) hb5.size
                  have hrv5 := hrv.kept (fun q e => hk5 q (hrv.2 q e).2 (hfv q e)) hb5.size
                  have hfa5 := hfa.turn hra hf5
                  have hfb5 := hfb.turn hrb hf5
                  have hfv5 := hfv.turn hrv hf5
                  have b5 := HB.out.trans hb5
                  have HM5 := Lib.hid (HMY.out.on b5)
                  obtain ⟨A', c', e', hat'⟩ := HM5.out
                  injection e' with e1 _ e3
                  subst e1 e3
                  obtain ⟨bm', om', u5, hAm5, hbm5, hcell5, hseen5⟩ := hat'.at_ k hlt
                  injection hAm5 with hAm5
                  injection hAm5 with e4 e5 _
                  subst e4 e5
                  have hm5 : ls[k] = m := by
                    have h := HTK.out
                    rw [List.take_succ_eq_append_getElem hlt] at h
                    exact List.singleton_inj.1 (List.append_cancel_left h)
                  rw [hm5] at hseen5
                  have S5 : Src Try.prog 1 30 u5 m.length (c8 m) w5 := by
                    obtain ⟨A'', c'', e'', h''⟩ := hseen5
                    rw [e'']
                    exact h''.src Try.underlying30
                  have HN5 : Hid (w8.heap.size ≤ w5.heap.size) := Nat.le_trans HSZ.out hb5.size
                  clear hat' hbm5 hseen5 hm5 hra hrb hrv hfa hfb hfv hd hf5 hk5 RA hcell
                  go_wp2_with (at_builtin; refine wpList_append8k (B := w8.heap.size) (l := x.a1 ++ (ls.take k).flatten) (m := m) rfl (.tmp 97) (.tmp 101) 30 30 rfl 5 i0 Try.underlying30 hi0 hy0 hy1 hy2 hrv5.1 HN5.out S5 HP.out rfl rfl ?_; intro v6 w6 hr6 hb6 ho6 hk6)
                  have H6 : Held7 w.heap.size w8.heap.size g x (ls.take (k + 1)) (.slice Aa na za) (.slice Ab nb zb) v6 w6 := by
                    rw [HTK.out]
                    have hs6 := hb6.size
                    refine ⟨F5, hd5.kept (fun q hF => hk6 q (hd5.less q hF).2 (fun e => hfv5 q e hF)) hs6, ⟨hra5.kept (fun q e => hk6 q (hra5.2 q e).2 (fun e2 => by have := hna q e; have := (hrv5.2 q e2).1; omega)) hs6, hfa5, hna⟩, ⟨hrb5.kept (fun q e => hk6 q (hrb5.2 q e).2 (fun e2 => by have := hnb q e; have := (hrv5.2 q e2).1; omega)) hs6, hfb5, hnb⟩, ⟨?_, fun q e => ⟨?_, hr6.own_lt q e⟩⟩, fun q e hF => ?_⟩
                    · rw [List.flatten_append, ← List.append_assoc]; simpa using hr6
                    · exact (ho6 q e).elim (fun h => (hrv5.2 q h).1) (fun h => Nat.le_trans HN5.out h)
                    · rcases ho6 q e with h | h
                      · exact hfv5 q h hF
                      · have := (hd5.less q hF).2; omega
                  have HH6 := Lib.hid H6
                  have HB6 : Hid (Below w.heap.size w w6) := b5.trans (hb6.mono HB08.out.size)
                  have HN6 : Hid (w8.heap.size ≤ w6.heap.size) := Nat.le_trans HN5.out hb6.size
                  have HS6 : Hid (∀ q ∈ ls.take (k + 1), q.length ≤ 200) := by
                    intro q hq
                    rw [HTK.out] at hq
                    rcases List.mem_append.1 hq with h | h
                    · exact HSM.out q h
                    · rw [List.mem_singleton.1 h]; exact h2
                  clear H6 hr6 hb6 ho6 hk6 hra5 hrb5 hrv5 hfa5 hfb5 hfv5 hd5 hb5 b5 hna hnb S5 hcell5
                  go_wp2
                  go_roundw
                  case rel => exact ⟨k + 1, by omega, by go_num, HH6.out, HS6.out, HN6.out, HB6.out⟩
                  case measure => simp [intOf]; omega
                · have h2' : (200 : Int) < (m.length : Int) := by omega
                  clear hsm
                  go_wp2
                  go_ret
                  exact ⟨rfl, hb⟩
              · obtain ⟨F, hd, ⟨hra, hfa, hna⟩, ⟨hrb, hfb, hnb⟩, hrv, hfv⟩ := hheld
                have hkl : ls.take k = ls := List.take_of_length_le (by omega)
                rw [hkl] at hd hrv hsm
                have hfl := flat_len ls hsm
                have hms : (since x ls).mass ≤ 900000 := by rw [since_mass]; have := HXM.out; omega
                clear hkl hsm hfl
                go_wp2_with fail
                go_at_call 20
                refine (crash_disk keep torn _ _ _ _ _ hd hms).mono ?_
                rintro e w5 ⟨rfl, F5, hd5, hf5, hb5, hk5⟩
                have hra5 := hra.kept (fun q e => hk5 q (hra.2 q e).2 (hfa q e)) hb5.size
                have hrb5 := hrb.kept (fun q e => hk5 q (hrb.2 q e).2 (hfb q e)) hb5.size
                have hrv5 := hrv.kept (fun q e => hk5 q (hrv.2 q e).2 (hfv q e)) hb5.size
                have b5 := hb.trans hb5
                obtain ⟨y1, y2, y3, y4⟩ := since_fallen x ls keep torn
                have hm5 := Nat.le_trans (crash_mass (since x ls) keep torn) hms
                have hd5' : Disk w5 w.heap.size g (synced ((since x ls).fallen keep torn)) F5 := hd5
                have hm5' : (synced ((since x ls).fallen keep torn)).mass ≤ 900000 := hm5
                generalize (since x ls).fallen keep torn = y at y1 y2 y3 y4 hd5' hm5'
                clear hd5 hm5 hd hra hrb hrv hfa hfb hfv hf5 hb5 hk5 hb hna hnb hms
                go_wp2_with fail
                go_at_call 17
                refine (read_is hd5' hm5' (l := y.a1) (why := 0) rfl rfl).mono ?_
                rintro e w6 ⟨uc, rfl, hc, oc, b6⟩
                have hd6 := hd5'.on b6
                go_wp2_with fail
                go_at_call 17
                refine (read_is hd6 hm5' (l := y.a0) (why := 0) rfl rfl).mono ?_
                rintro e w7 ⟨ud, rfl, hdd, od, b7⟩
                have hd7 := hd6.on b7
                have hc7 := hc.on b7
                have ha7 := (hra5.on b6).on b7
                have hb7 := (hrb5.on b6).on b7
                have hv7 := (hrv5.on b6).on b7
                have b07 : Below w.heap.size w w7 := b5.trans ((bt b6 b7).mono hd5'.base)
                go_wp2_with fail
                go_at_call 18
                refine (first_is hd7 rfl (n := x.front) y2).mono ?_
                rintro e w8' ⟨rfl, rfl⟩
                clear hra5 hrb5 hrv5 hd5' hd6 hc b5 b6 b7 oc od
                go_wp2_with fail
                go_at_call 21
                refine (same_is w7 hdd.1.seen hb7.1.seen (decide_eq_true y1)).mono ?_
                rintro e w9 ⟨rfl, b9⟩
                have hc9 := (hc7.on b9).1.seen
                have ha9 := (ha7.on b9).1.seen
                have hv9 := (hv7.on b9).1.seen
                go_wp2_with fail
                go_at_call 22
                refine (begins_is w9 hc9 ha9 (decide_eq_true y3)).mono ?_
                rintro e w10 ⟨rfl, b10⟩
                go_wp2_with fail
                go_at_call 22
                refine (begins_is w10 (hv9.on b10) (hc9.on b10) (decide_eq_true y4)).mono ?_
                rintro e w11 ⟨rfl, b11⟩
                go_wp2_with fail
                go_at_call 23
                refine (loose_disk w11 _ _ _ _ (((hd7.on b9).on b10).on b11)).mono ?_
                rintro e w12 ⟨rfl, rfl⟩
                go_wp2
                go_ret
                exact ⟨rfl, b07.trans ((bt (bt b9 b10) b11).mono b07.size)⟩
    · have h20' : (20 : Int) < (ls.length : Int) := by omega
      go_enter Try.func4, Try.ntmps4
      go_wp2_with fail
      go_at_call 8
      refine (awake_any w).mono ?_
      rintro e w1 ⟨rfl, b1⟩
      go_wp2_with fail
      go_at_call 9
      refine (few_any w1 _ _ l (HV.out.on b1) (Nat.le_refl _)).mono ?_
      rintro e w2 ⟨rfl, b2⟩
      rw [hfew]
      go_wp2_with fail
      go_at_call 8
      refine (awake_any w2).mono ?_
      rintro e w3 ⟨rfl, b3⟩
      go_wp2
      go_ret
      exact ⟨rfl, bt (bt b1 b2) b3⟩
  · have hfew' : fewA l = false := by simpa using hfew
    go_enter Try.func4, Try.ntmps4
    go_wp2_with fail
    go_at_call 8
    refine (awake_any w).mono ?_
    rintro e w1 ⟨rfl, b1⟩
    go_wp2_with fail
    go_at_call 9
    refine (few_any w1 _ _ l (HV.out.on b1) (Nat.le_refl _)).mono ?_
    rintro e w2 ⟨rfl, b2⟩
    rw [hfew']
    go_wp2_with fail
    go_at_call 8
    refine (awake_any w2).mono ?_
    rintro e w3 ⟨rfl, b3⟩
    go_wp2
    go_ret
    exact ⟨rfl, bt (bt b1 b2) b3⟩

end Go.Proofs.Ytcdobelhchlheaa
