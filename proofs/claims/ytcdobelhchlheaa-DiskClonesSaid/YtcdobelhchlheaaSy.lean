/-
  DiskSyncs, of every input.
-/
import Derived.Test.YtcdobelhchlheaaMa
import Derived.Test.YtcdobelhchlheaaAw
import Derived.Test.YtcdobelhchlheaaArg
namespace Go.Proofs.Ytcdobelhchlheaa
open Go.RowKit
attribute [local go_sem ↓] Go.wp_at_zero Go.wp_at_succ

/-- where a play of acts stands -/
def Standing (B g : Nat) (m : Nat) (wr : World) : Prop := ∃ s F, Disk wr B g s F ∧ s.mass ≤ m
theorem ActsAt.len {w : World} {B : Nat} {v : Value} {l : List Actd} (h : ActsAt w B v l) : ∃ A c, v = .slice A l.length c ∧ l.length ≤ c ∧ c ≤ maxLen := by
  obtain ⟨A, c, _, e, h1, h2, _⟩ := h
  exact ⟨A, c, e, h1, h2⟩
set_option maxRecDepth 100000 in
set_option maxHeartbeats 4000000 in
theorem syncs_walk (v : Value) (l : List Actd) (keep torn : Int) (w : World) (hv : ActsAt w w.heap.size v l) (hf : ∀ a ∈ l, a.fits) :
    Calls Try.prog 7 #[v, .int .i64 keep, .int .i64 torn] w fun e w' => e = .returned (.bool true) ∧ Below w.heap.size w w' := by
  have HV := Lib.hid hv
  obtain ⟨A, c, rfl, _⟩ := hv.len
  clear hv
  by_cases hfew : fewA l = true
  · obtain ⟨h40, h200⟩ := fewA_small hfew
    have HR := Lib.hid (few_right hfew (fun a ha => .inr (hf a ha)))
    have H200 := Lib.hid h200
    clear hf h200
    go_enter Try.func7, Try.ntmps7
    go_wp2_with fail
    go_at_call 8
    refine (awake_any w).mono ?_
    rintro e w1 ⟨rfl, b1⟩
    have hv1 := HV.out.on b1
    go_wp2_with fail
    go_at_call 9
    refine (few_any w1 _ _ l hv1 (Nat.le_refl _)).mono ?_
    rintro e w2 ⟨rfl, b2⟩
    have b02 := bt b1 b2
    rw [hfew]
    clear hv1 b1 b2
    go_wp2_with fail
    go_at_call 10
    refine (new_any w2 w.heap.size b02.size).mono ?_
    rintro e w3 ⟨rfl, hd3, b3⟩
    have b03 := bt b02 b3
    generalize hF : (fun x => x = w2.heap.size) = F3 at hd3
    clear hF b3 b02
    generalize w2.heap.size = g at hd3 ⊢
    have HD3 := Lib.hid hd3
    have HB3 := Lib.hid b03
    clear hd3 b03 hfew
    go_wp2
    go_loopw [8] (fun i wr => ∃ k : Nat, k ≤ l.length ∧ i = .int .i64 (k : Int) ∧ Standing w.heap.size g (201 * k) wr ∧ Below w.heap.size w wr) (fun i _ => l.length - (intOf i).toNat)
    case atStart => exact ⟨0, Nat.zero_le _, rfl, ⟨_, _, HD3.out, Nat.le_refl _⟩, HB3.out⟩
    case round =>
      obtain ⟨k, hk, rfl, ⟨s, F, hd, hm⟩, hb⟩ := hrel
      by_cases hlt : k < l.length
      · obtain ⟨b, off, vb, rfl, hbw, hbB, hsb, c0, c1, c2, c3, c4⟩ := (HV.out.below hb).at_ k hlt
        have hmem := List.getElem_mem hlt
        have ha2 := H200.out _ hmem
        have har := HR.out _ hmem
        have hs2 : Seen wr wr.heap.size vb l[k].b := hsb.full
        obtain ⟨a, hae⟩ : ∃ a, a = l[k] := ⟨_, rfl⟩
        rw [← hae] at c0 c1 c3 c4 hs2 ha2 har
        have RP := Lib.hid (play_any a vb wr w.heap.size g s F hd hs2 har (by omega))
        have hmn := act_mass s a
        have i0 : (0 : Int) ≤ (k : Int) := by omega
        have i1 : (k : Int) < (l.length : Int) := by omega
        obtain ⟨Ab, cb, hvb, _⟩ := hs2
        subst hvb
        have HB := Lib.hid hb
        have HM : Hid ((s.act a).1.mass ≤ 201 * (k + 1)) := by show _ ≤ _; omega
        clear hae hsb har hd hb hmem hbB ha2 hmn hm
        go_wp2_with fail
        go_at_call 11
        refine (RP.out).mono ?_
        rintro e w5 ⟨rfl, F5, hd5, hf5, hb5, hk5⟩
        have HD5 := Lib.hid hd5
        have HB5 := Lib.hid hb5
        clear hd5 hf5 hb5 hk5 RP c0 c1 c2 c3 c4
        go_wp2
        go_roundw
        case rel => exact ⟨k + 1, by omega, by go_num, ⟨_, _, HD5.out, HM.out⟩, HB.out.trans HB5.out⟩
        case measure => simp [intOf]; omega
      · have hms : s.mass ≤ 800000 := by omega
        clear hm
        go_wp2_with fail
        go_at_call 14
        refine (arm_any (-1) (by unfold I64; omega) wr w.heap.size g s F hd).mono ?_
        rintro e w5 ⟨rfl, F5, hd5, hf5, hb5, hk5⟩
        have b5 := hb.trans hb5
        clear hf5 hb5 hk5
        by_cases hdn : s.down = true
        · rw [arm_down hdn] at hd5
          go_wp2_with fail
          go_at_call 15
          refine (sync_is hd5 (by omega) (sync_down hdn)).mono ?_
          rintro e w6 ⟨rfl, F6, hd6, hf6, hb6, hk6⟩
          go_wp2_with fail
          go_at_call 16
          refine (down_disk w6 _ _ _ _ hd6).mono ?_
          rintro e w7 ⟨rfl, rfl⟩
          rw [hdn]
          go_wp2
          go_ret
          exact ⟨rfl, b5.trans hb6⟩
        · have hdn' : s.down = false := by simpa using hdn
          go_wp2_with fail
          go_at_call 15
          refine (sync_is hd5 (by rw [arm_mass]; omega) (arm_up hdn' hd.right)).mono ?_
          rintro e w6 ⟨rfl, F6, hd6, hf6, hb6, hk6⟩
          have hm6 : (synced s.now).mass ≤ 900000 := Nat.le_trans (synced_mass hd.right) (by omega)
          have b6 := b5.trans hb6
          generalize s.now = x at hd6 hm6 ⊢
          clear hd5 b5 hf6 hb6 hk6 hd hb hdn hdn' hms
          go_wp2_with fail
          go_at_call 17
          refine (read_is hd6 hm6 (l := x.a0) (why := 0) rfl rfl).mono ?_
          rintro e w7 ⟨ua, rfl, ha, oa, b7⟩
          have hd7 := hd6.on b7
          go_wp2_with fail
          go_at_call 17
          refine (read_is hd7 hm6 (l := x.a1) (why := 0) rfl rfl).mono ?_
          rintro e w8 ⟨ub, rfl, hbb, ob, b8⟩
          have hd8 := hd7.on b8
          have ha8 := ha.on b8
          have b08 : Below w.heap.size w w8 := b6.trans ((bt b7 b8).mono hd6.base)
          go_wp2_with fail
          go_at_call 18
          refine (first_is hd8 rfl rfl).mono ?_
          rintro e w9 ⟨rfl, rfl⟩
          go_wp2_with fail
          go_at_call 20
          refine (crash_is hd8 hm6 (synced_crash x keep torn)).mono ?_
          rintro e w10 ⟨rfl, F10, hd10, hf10, hb10, hk10⟩
          have ha10 := ha8.past hd6 oa hk10 hb10.size
          have hb10' := hbb.past hd7 ob hk10 hb10.size
          have b10 := b08.trans hb10
          clear ha hbb ha8 hd6 hd7 hd8 b6 b7 b8 b08 hf10 hb10 hk10 oa ob
          go_wp2_with fail
          go_at_call 17
          refine (read_is hd10 hm6 (l := x.a0) (why := 0) rfl rfl).mono ?_
          rintro e w11 ⟨uc, rfl, hc, oc, b11⟩
          have hd11 := hd10.on b11
          go_wp2_with fail
          go_at_call 17
          refine (read_is hd11 hm6 (l := x.a1) (why := 0) rfl rfl).mono ?_
          rintro e w12 ⟨ud, rfl, hdd, od, b12⟩
          have hd12 := hd11.on b12
          have hc12 := hc.on b12
          have ha12 := (ha10.on b11).on b12
          have hb12 := (hb10'.on b11).on b12
          have b012 : Below w.heap.size w w12 := b10.trans ((bt b11 b12).mono hd10.base)
          go_wp2_with fail
          go_at_call 18
          refine (first_is hd12 rfl rfl).mono ?_
          rintro e w13 ⟨rfl, rfl⟩
          go_wp2_with fail
          go_at_call 21
          refine (same_yes w12 ha12.1.seen hc12.1.seen).mono ?_
          rintro e w14 ⟨rfl, b14⟩
          go_wp2_with fail
          go_at_call 21
          refine (same_yes w14 (hb12.on b14).1.seen (hdd.on b14).1.seen).mono ?_
          rintro e w15 ⟨rfl, b15⟩
          go_wp2_with fail
          go_at_call 23
          refine (loose_disk w15 _ _ _ _ ((hd12.on b14).on b15)).mono ?_
          rintro e w16 ⟨rfl, rfl⟩
          go_wp2
          go_ret
          exact ⟨rfl, b012.trans ((bt b14 b15).mono b012.size)⟩
  · have hfew' : fewA l = false := by simpa using hfew
    go_enter Try.func7, Try.ntmps7
    go_wp2_with fail
    go_at_call 8
    refine (awake_any w).mono ?_
    rintro e w1 ⟨rfl, b1⟩
    go_wp2_with fail
    go_at_call 9
    refine (few_any w1 _ _ l (HV.out.on b1) (Nat.le_refl _)).mono ?_
    rintro e w2 ⟨rfl, b2⟩
    rw [hfew']
    go_wp2_with fail
    go_at_call 8
    refine (awake_any w2).mono ?_
    rintro e w3 ⟨rfl, b3⟩
    go_wp2
    go_ret
    exact ⟨rfl, bt (bt b1 b2) b3⟩

end Go.Proofs.Ytcdobelhchlheaa
