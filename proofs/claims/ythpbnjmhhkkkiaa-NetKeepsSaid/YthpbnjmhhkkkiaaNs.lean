/-
  The same packet, the same net, as the document's own functions tell it.
-/
import Derived.Test.YthpbnjmhhkkkiaaNc
namespace Go.Proofs.Ythpbnjmhhkkkiaa
open Go.RowKit
attribute [local go_sem ↓] Go.wp_at_zero Go.wp_at_succ

theorem pkt_ext {p q : Pkt} (h1 : p.id = q.id) (h2 : p.to_ = q.to_) (h3 : p.b = q.b) : p = q := by cases p; cases q; simp at h1 h2 h3; subst h1 h2 h3; rfl

set_option maxRecDepth 100000 in
set_option maxHeartbeats 1000000 in
theorem samepkt_any (w : World) (u v : Value) (p q : Pkt) (hp : PktAt w w.heap.size u p) (hq : PktAt w w.heap.size v q) :
    Calls Try.prog 11 #[u, v] w (Tells (p = q) w) := by
  obtain ⟨vb, rfl, hs⟩ := hp
  obtain ⟨vc, rfl, ht⟩ := hq
  have HS := Lib.hid hs
  have HT := Lib.hid ht
  obtain ⟨Ab, cb, rfl, _⟩ := hs
  obtain ⟨Ac, cc, rfl, _⟩ := ht
  by_cases h1 : p.id = q.id
  · by_cases h2 : p.to_ = q.to_
    · have h1b : (p.id == q.id) = true := by simp [h1]
      have h2b : (p.to_ == q.to_) = true := by simp [h2]
      have H1 := Lib.hid h1
      have H2 := Lib.hid h2
      clear h1 h2
      go_enter Try.func11, Try.ntmps11
      go_wp2_with fail
      go_at_call 20
      have hb : Below w.heap.size w ((w.alloc (.cells #[.int .i64 p.id, .int .i64 p.to_, .slice Ab p.b.length cb] 29)).alloc (.cells #[.int .i64 q.id, .int .i64 q.to_, .slice Ac q.b.length cc] 29)) := bt (bal _ _) (bal _ _)
      refine (same_is (b := decide (p.b = q.b)) _ (HS.out.on hb) (HT.out.on hb) rfl).mono ?_
      rintro e w1 ⟨rfl, hb1⟩
      have hb2 := hb.trans (hb1.mono hb.size)
      go_wp2
      go_ret
      exact ⟨_, rfl, ⟨fun h => pkt_ext H1.out H2.out (of_decide_eq_true h), fun h => decide_eq_true (by rw [h])⟩, hb2⟩
    · have h1b : (p.id == q.id) = true := by simp [h1]
      have h2b : (p.to_ == q.to_) = false := by simp [h2]
      have H2 := Lib.hid h2
      clear h1 h2
      go_enter Try.func11, Try.ntmps11
      go_wp2
      go_ret
      exact Tells.no (bt (bal _ _) (bal _ _)) (fun h => H2.out (by rw [h]))
  · have h1b : (p.id == q.id) = false := by simp [h1]
    have H1 := Lib.hid h1
    clear h1
    go_enter Try.func11, Try.ntmps11
    go_wp2
    go_ret
    exact Tells.no (bt (bal _ _) (bal _ _)) (fun h => H1.out (by rw [h]))

theorem samepkt_is {w : World} {u v : Value} {p q : Pkt} {b : Bool} (hp : PktAt w w.heap.size u p) (hq : PktAt w w.heap.size v q) (hb : decide (p = q) = b) :
    Calls Try.prog 11 #[u, v] w fun e w' => e = .returned (.bool b) ∧ Below w.heap.size w w' := by
  refine (samepkt_any w u v p q hp hq).mono ?_
  rintro e w' ⟨c, rfl, hc, hw⟩
  refine ⟨?_, hw⟩
  congr 2
  cases c <;> cases b <;> simp at hb hc ⊢
  · exact absurd (hb) hc
  · exact absurd hc hb

set_option maxRecDepth 100000 in
set_option maxHeartbeats 2000000 in
theorem samenet_any (w : World) (u v : Value) (a d : Nett) (ha : NetAt w w.heap.size u a) (hd : NetAt w w.heap.size v d) :
    Calls Try.prog 12 #[u, v] w (Tells (a = d) w) := by
  obtain ⟨lv, rfl, hp⟩ := ha
  obtain ⟨mv, rfl, hq⟩ := hd
  have HA := Lib.hid hp
  have HD := Lib.hid hq
  obtain ⟨nx, l⟩ := a
  obtain ⟨ny, m⟩ := d
  obtain ⟨A, c, css, rfl, hlc, hcm, _⟩ := hp
  obtain ⟨A', c', css', rfl, hlc', hcm', _⟩ := hq
  obtain ⟨P, hP⟩ : ∃ P : Prop, P = ((⟨nx, l⟩ : Nett) = ⟨ny, m⟩) := ⟨_, rfl⟩
  rw [← hP]
  have HP : Hid (P ↔ nx = ny ∧ l = m) := by show P ↔ _; rw [hP]; simp
  clear hP
  have hz := hcm
  unfold maxLen at hz
  by_cases h1 : nx = ny
  · subst h1
    by_cases h2 : l.length = m.length
    · have hlc : l.length ≤ c := hlc
      have hlc' : m.length ≤ c' := hlc'
      have h2' : (l.length : Int) = (m.length : Int) := by omega
      have H2 := Lib.hid h2
      rw [← h2] at hlc' ⊢
      clear h2 h2'
      go_enter Try.func12, Try.ntmps12
      go_wp2
      go_loopw [5] (fun j wr => ∃ k : Nat, k ≤ l.length ∧ j = .int .i64 (k : Int) ∧ l.take k = m.take k ∧ Box w.heap.size [.int .i64 nx, .slice A l.length c] wr ∧ Box (w.heap.size + 1) [.int .i64 nx, .slice A' l.length c'] wr ∧ Below w.heap.size w wr) (fun j _ => l.length - (intOf j).toNat)
      case atStart =>
        refine ⟨0, Nat.zero_le _, rfl, rfl, (box_made w _ _).on (bal _ _), ?_, bt (bal _ _) (bal _ _)⟩
        have := box_made (w.alloc (.cells #[.int .i64 nx, .slice A l.length c] 24)) [.int .i64 nx, .slice A' l.length c'] 24
        simpa using this
      case round =>
        obtain ⟨k, hk, rfl, hall, hb0, hb1, hbw⟩ := hrel
        have y0 := hb0.get 1 rfl
        have y1 := hb1.get 1 rfl
        have HX := Lib.hid hall
        have HY := Lib.hid hb0
        have HZ := Lib.hid hb1
        have HBW := Lib.hid hbw
        clear hall hb0 hb1
        by_cases hlt : k < l.length
        · have hltm : k < m.length := by have := H2.out; omega
          obtain ⟨b, off, vb, rfl, hb, hbB, hsb, c0, c1, c2⟩ := (HA.out.below hbw).at_ k hlt
          have HD' : PktsAt w w.heap.size (.slice A' m.length c') m := HD.out
          obtain ⟨b', off', vb', rfl, hb', hbB', hsb', d0, d1, d2⟩ := (HD'.below hbw).at_ k hltm
          have HS := Lib.hid hsb.full
          have HT := Lib.hid hsb'.full
          obtain ⟨Ab, cb, rfl, _⟩ := hsb
          obtain ⟨Ac, cc, rfl, _⟩ := hsb'
          have i0 : (0 : Int) ≤ (k : Int) := by omega
          have i1 : (k : Int) < (l.length : Int) := by omega
          have HC : ∀ W, Below wr.heap.size wr W → Calls Try.prog 11 #[.agg #[.int .i64 l[k].id, .int .i64 l[k].to_, .slice Ab l[k].b.length cb], .agg #[.int .i64 m[k].id, .int .i64 m[k].to_, .slice Ac m[k].b.length cc]] W fun e w' => e = .returned (.bool (decide (l[k] = m[k]))) ∧ Below W.heap.size W w' :=
            fun W hW => samepkt_is ⟨_, rfl, HS.out.on hW⟩ ⟨_, rfl, HT.out.on hW⟩ rfl
          have HCH := Lib.hid HC
          have HN1 : Hid ((∀ (h : decide (l[k] = m[k]) = true), l.take (k + 1) = m.take (k + 1)) ∧ (decide (l[k] = m[k]) = false → ¬ P)) := by
            refine ⟨fun h => ?_, fun h e => ?_⟩
            · rw [List.take_succ_eq_append_getElem hlt, List.take_succ_eq_append_getElem hltm, HX.out, of_decide_eq_true h]
            · have e := (HP.out.1 e).2
              subst e
              simp at h
          have HSS : Hid (∀ W, Below wr.heap.size wr W → (fun W => W.cell? ⟨w.heap.size, 1, none⟩ = some (.slice (some ⟨b, off, none⟩) l.length c) ∧ W.cell? ⟨w.heap.size + 1, 1, none⟩ = some (.slice (some ⟨b', off', none⟩) l.length c') ∧ W.cell? ⟨b, off + k * 3, none⟩ = some (.int .i64 l[k].id) ∧ W.cell? ⟨b, off + k * 3 + 1, none⟩ = some (.int .i64 l[k].to_) ∧ W.cell? ⟨b, off + k * 3 + 2, none⟩ = some (.slice Ab l[k].b.length cb) ∧ W.cell? ⟨b', off' + k * 3, none⟩ = some (.int .i64 m[k].id) ∧ W.cell? ⟨b', off' + k * 3 + 1, none⟩ = some (.int .i64 m[k].to_) ∧ W.cell? ⟨b', off' + k * 3 + 2, none⟩ = some (.slice Ac m[k].b.length cc)) W) := fun W hW => by
            have e := fun (x : Nat) (hx : x < wr.heap.size) (o : Nat) => World.cell?_of_block (a := ⟨x, o, none⟩) (hW.block x hx)
            have g0 := HY.out.1
            have g1 := HZ.out.1
            exact ⟨(e _ g0 _).trans y0, (e _ g1 _).trans y1, (e _ hb _).trans c0, (e _ hb _).trans c1, (e _ hb _).trans c2, (e _ hb' _).trans d0, (e _ hb' _).trans d1, (e _ hb' _).trans d2⟩
          clear hbw HC
          generalize decide (l[k] = m[k]) = bb at HCH HN1
          cases bb
          · go_wp2
            first | (go_region_held3 (fun W => W.cell? ⟨w.heap.size, 1, none⟩ = some (.slice (some ⟨b, off, none⟩) l.length c) ∧ W.cell? ⟨w.heap.size + 1, 1, none⟩ = some (.slice (some ⟨b', off', none⟩) l.length c') ∧ W.cell? ⟨b, off + k * 3, none⟩ = some (.int .i64 l[k].id) ∧ W.cell? ⟨b, off + k * 3 + 1, none⟩ = some (.int .i64 l[k].to_) ∧ W.cell? ⟨b, off + k * 3 + 2, none⟩ = some (.slice Ab l[k].b.length cb) ∧ W.cell? ⟨b', off' + k * 3, none⟩ = some (.int .i64 m[k].id) ∧ W.cell? ⟨b', off' + k * 3 + 1, none⟩ = some (.int .i64 m[k].to_) ∧ W.cell? ⟨b', off' + k * 3 + 2, none⟩ = some (.slice Ac m[k].b.length cc)) (first | exact HSS.out _ hbk | exact HSS.out _ (below_drewN _ _ _) | exact HSS.out _ (Below.refl _ _).drew | exact HSS.out _ (Below.refl _ _)) (first
              | (go_at_call 11; refine (HCH.out _ (below_drewN _ _ _)).mono ?_; rintro e w1 ⟨rfl, hb1⟩; have hbk := (below_drewN wr.heap.size wr _).trans hb1)
              | (go_at_call 11; refine (HCH.out _ (Below.refl _ _).drew).mono ?_; rintro e w1 ⟨rfl, hb1⟩; have hbk := ((Below.refl wr.heap.size wr).drew).trans hb1))) | fail
            go_wp2
            go_ret
            exact Tells.no (HBW.out.trans (hbk.mono HBW.out.size)) (by simpa using HN1.out.2)
          · go_wp2
            first | (go_region_held3 (fun W => W.cell? ⟨w.heap.size, 1, none⟩ = some (.slice (some ⟨b, off, none⟩) l.length c) ∧ W.cell? ⟨w.heap.size + 1, 1, none⟩ = some (.slice (some ⟨b', off', none⟩) l.length c') ∧ W.cell? ⟨b, off + k * 3, none⟩ = some (.int .i64 l[k].id) ∧ W.cell? ⟨b, off + k * 3 + 1, none⟩ = some (.int .i64 l[k].to_) ∧ W.cell? ⟨b, off + k * 3 + 2, none⟩ = some (.slice Ab l[k].b.length cb) ∧ W.cell? ⟨b', off' + k * 3, none⟩ = some (.int .i64 m[k].id) ∧ W.cell? ⟨b', off' + k * 3 + 1, none⟩ = some (.int .i64 m[k].to_) ∧ W.cell? ⟨b', off' + k * 3 + 2, none⟩ = some (.slice Ac m[k].b.length cc)) (first | exact HSS.out _ hbk | exact HSS.out _ (below_drewN _ _ _) | exact HSS.out _ (Below.refl _ _).drew | exact HSS.out _ (Below.refl _ _)) (first
              | (go_at_call 11; refine (HCH.out _ (below_drewN _ _ _)).mono ?_; rintro e w1 ⟨rfl, hb1⟩; have hbk := (below_drewN wr.heap.size wr _).trans hb1)
              | (go_at_call 11; refine (HCH.out _ (Below.refl _ _).drew).mono ?_; rintro e w1 ⟨rfl, hb1⟩; have hbk := ((Below.refl wr.heap.size wr).drew).trans hb1))) | fail
            go_wp2
            go_roundw
            case rel => exact ⟨k + 1, by omega, by go_num, by simpa using HN1.out.1, HY.out.on hbk, HZ.out.on hbk, HBW.out.trans (hbk.mono HBW.out.size)⟩
            case measure => simp [intOf]; omega
        · have hkl : k = l.length := by omega
          go_wp2
          go_ret
          refine Tells.yes hbw ?_
          have e := HX.out
          rw [hkl, List.take_length, H2.out, List.take_length] at e
          exact (by simpa using HP.out : P ↔ l = m).2 e
    · have hlc : l.length ≤ c := hlc
      have hlc' : m.length ≤ c' := hlc'
      have h2b : ((l.length : Int) != (m.length : Int)) = true := by simp; omega
      have H2 := Lib.hid h2
      clear h2
      go_enter Try.func12, Try.ntmps12
      go_wp2
      go_ret
      exact Tells.no (bt (bal _ _) (bal _ _)) (fun h => H2.out (by rw [(HP.out.1 h).2]))
  · have h1b : (nx != ny) = true := by simp [h1]
    have H1 := Lib.hid h1
    clear h1
    go_enter Try.func12, Try.ntmps12
    go_wp2
    go_ret
    exact Tells.no (bt (bal _ _) (bal _ _)) (fun h => H1.out (HP.out.1 h).1)

end Go.Proofs.Ythpbnjmhhkkkiaa
