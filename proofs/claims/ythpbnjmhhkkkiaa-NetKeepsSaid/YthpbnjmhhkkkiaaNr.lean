/-
  Is a net right, as the document's own function tells it.
-/
import Derived.Test.YthpbnjmhhkkkiaaPk
namespace Go.Proofs.Ythpbnjmhhkkkiaa
open Go.RowKit
attribute [local go_sem ↓] Go.wp_at_zero Go.wp_at_succ

theorem ok_no {nx : Int} {l : List Pkt} {k : Nat} (hk : k < l.length) (h : l[k].id < 0 ∨ nx ≤ l[k].id ∨ (∃ h0 : k - 1 < l.length, 0 < k ∧ l[k].id ≤ l[k - 1].id) ∨ 500 < l[k].b.length) : ¬ Nett.right ⟨nx, l⟩ := by
  intro hr
  have ho := hr.2.2.2 k hk
  unfold Nett.okAt at ho
  simp only [getD_get hk] at ho
  obtain ⟨h1, h2, h3, h4⟩ := ho
  rcases h with h | h | ⟨h0, h5, h6⟩ | h
  · omega
  · omega
  · have := h3 h5
    rw [getD_get h0] at this
    omega
  · omega
theorem ok_yes {nx : Int} {l : List Pkt} {k : Nat} (hk : k < l.length) (h1 : 0 ≤ l[k].id) (h2 : l[k].id < nx) (h3 : k = 0 ∨ ∃ h0 : k - 1 < l.length, l[k - 1].id < l[k].id) (h4 : l[k].b.length ≤ 500) : Nett.okAt ⟨nx, l⟩ k := by
  unfold Nett.okAt
  simp only [getD_get hk]
  refine ⟨h1, h2, fun h => ?_, h4⟩
  rcases h3 with h0 | ⟨h0, h5⟩
  · omega
  · rw [getD_get h0]; exact h5

set_option maxRecDepth 100000 in
set_option maxHeartbeats 2000000 in
theorem right_any (w : World) (v : Value) (n : Nett) (h : NetAt w w.heap.size v n) :
    Calls Try.prog 8 #[v] w (Tells n.right w) := by
  obtain ⟨lv, rfl, hp⟩ := h
  have HA := Lib.hid hp
  obtain ⟨nx, l⟩ := n
  obtain ⟨A, c, css, rfl, hlc, hcm, _⟩ := hp
  by_cases h1 : nx < 0
  · go_enter Try.func8, Try.ntmps8
    go_wp2
    go_ret
    exact Tells.no (bal _ _) (fun h => absurd h.1 (by show ¬ 0 ≤ nx; omega))
  by_cases h2 : 4611686018427387904 < nx
  · go_enter Try.func8, Try.ntmps8
    go_wp2
    go_ret
    exact Tells.no (bal _ _) (fun h => absurd h.2.1 (by show ¬ nx ≤ _; omega))
  by_cases h3 : 60 < l.length
  · have h3' : (60 : Int) < (l.length : Int) := by omega
    go_enter Try.func8, Try.ntmps8
    go_wp2
    go_ret
    exact Tells.no (bal _ _) (fun h => absurd h.2.2.1 (by show ¬ l.length ≤ 60; omega))
  have h3' : (l.length : Int) ≤ 60 := by omega
  go_enter Try.func8, Try.ntmps8
  go_wp2
  go_loopw [3] (fun j wr => ∃ k : Nat, k ≤ l.length ∧ j = .int .i64 (k : Int) ∧ (∀ i, i < k → Nett.okAt ⟨nx, l⟩ i) ∧ Box w.heap.size [.int .i64 nx, .slice A l.length c] wr ∧ Below w.heap.size w wr) (fun j _ => l.length - (intOf j).toNat)
  case atStart => exact ⟨0, Nat.zero_le _, rfl, fun i h => absurd h (by omega), box_made _ _ _, bal _ _⟩
  case round =>
    obtain ⟨k, hk, rfl, hall, hbox, hbw⟩ := hrel
    have y0 := hbox.get 0 rfl
    have y1 := hbox.get 1 rfl
    have HX := Lib.hid hall
    have HY := Lib.hid hbox
    clear hall hbox
    by_cases hlt : k < l.length
    · obtain ⟨b, off, vb, rfl, hb, hbB, hsb, c0, c1, c2⟩ := (HA.out.below hbw).at_ k hlt
      obtain ⟨Ab, cb, rfl, hAb⟩ := hsb
      have hcb : l[k].b.length ≤ cb := hAb.1
      clear hAb
      obtain ⟨id, hid⟩ : ∃ x, x = l[k].id := ⟨_, rfl⟩
      obtain ⟨nb, hnb⟩ : ∃ x, x = l[k].b.length := ⟨_, rfl⟩
      have HI := Lib.hid hid
      have HN := Lib.hid hnb
      rw [← hid] at c0
      rw [← hnb] at c2 hcb
      clear hid hnb
      have i0 : (0 : Int) ≤ (k : Int) := by omega
      have i1 : (k : Int) < (l.length : Int) := by omega
      by_cases g1 : id < 0
      · go_wp2
        go_quiet (fail)
        go_wp2
        go_ret
        exact Tells.no (hbw.trans (below_drewN _ _ _)) (ok_no hlt (.inl (by rw [← HI.out]; exact g1)))
      have g1b : decide (id < 0) = false := decide_eq_false g1
      have G1 := Lib.hid g1
      clear g1
      by_cases g2 : nx ≤ id
      · go_wp2
        go_quiet (fail)
        go_wp2
        go_ret
        exact Tells.no (hbw.trans (below_drewN _ _ _)) (ok_no hlt (.inr (.inl (by rw [← HI.out]; exact g2))))
      have g2b : decide (nx ≤ id) = false := decide_eq_false g2
      have G2 := Lib.hid g2
      clear g2
      by_cases g3 : k = 0
      · have g3b : decide ((0 : Int) < (k : Int)) = false := decide_eq_false (by omega)
        have g3c : decide (0 < k) = false := decide_eq_false (by omega)
        have G3 := Lib.hid g3
        clear g3
        by_cases g5 : 500 < nb
        · have g5' : (500 : Int) < (nb : Int) := by omega
          go_wp2
          go_quiet (fail)
          go_wp2
          go_ret
          exact Tells.no (hbw.trans (below_drewN _ _ _)) (ok_no hlt (.inr (.inr (.inr (by rw [← HN.out]; exact g5)))))
        · have g5b : decide ((500 : Int) < (nb : Int)) = false := decide_eq_false (by omega)
          have g5c : decide (500 < nb) = false := decide_eq_false g5
          have G5 := Lib.hid g5
          clear g5
          go_wp2
          go_quiet (fail)
          go_wp2
          go_roundw
          case rel => exact ⟨k + 1, by omega, by go_num, fun i hi => by
            have : i = k := by have := G3.out; omega
            subst this
            exact ok_yes hlt (by rw [← HI.out]; have := G1.out; omega) (by rw [← HI.out]; have := G2.out; omega) (.inl G3.out) (by rw [← HN.out]; have := G5.out; omega), HY.out.on (below_drewN _ _ _), hbw.trans (below_drewN _ _ _)⟩
          case measure => simp [intOf]; omega
      · obtain ⟨b', off', vb', e', _, _, _, d0, _, _⟩ := (HA.out.below hbw).at_ (k - 1) (by omega)
        injection e' with e'
        injection e' with e1 e2
        subst e1 e2
        obtain ⟨q, hq⟩ : ∃ x, x = l[k - 1].id := ⟨_, rfl⟩
        have HQ := Lib.hid hq
        rw [← hq] at d0
        clear hq
        have j0 : (0 : Int) ≤ (k : Int) - 1 := by omega
        have j1 : (k : Int) - 1 < (l.length : Int) := by omega
        have j2 : ((k : Int) - 1).toNat = k - 1 := by omega
        have g3b : decide ((0 : Int) < (k : Int)) = true := decide_eq_true (by omega)
        have g3c : decide (0 < k) = true := decide_eq_true (by omega)
        have G3 := Lib.hid g3
        clear g3
        by_cases g4 : id ≤ q
        · go_wp2
          go_quiet (fail)
          go_wp2
          go_ret
          exact Tells.no (hbw.trans (below_drewN _ _ _)) (ok_no hlt (.inr (.inr (.inl ⟨by omega, by have := G3.out; omega, by rw [← HI.out, ← HQ.out]; exact g4⟩))))
        · have g4b : decide (id ≤ q) = false := decide_eq_false g4
          have G4 := Lib.hid g4
          clear g4
          by_cases g5 : 500 < nb
          · have g5' : (500 : Int) < (nb : Int) := by omega
            go_wp2
            go_quiet (fail)
            go_wp2
            go_ret
            exact Tells.no (hbw.trans (below_drewN _ _ _)) (ok_no hlt (.inr (.inr (.inr (by rw [← HN.out]; exact g5)))))
          · have g5b : decide ((500 : Int) < (nb : Int)) = false := decide_eq_false (by omega)
            have g5c : decide (500 < nb) = false := decide_eq_false g5
            have G5 := Lib.hid g5
            clear g5
            go_wp2
            go_quiet (fail)
            go_wp2
            go_roundw
            case rel => exact ⟨k + 1, by omega, by go_num, fun i hi => by
              by_cases hik : i < k
              · exact HX.out i hik
              · have : i = k := by omega
                subst this
                exact ok_yes hlt (by rw [← HI.out]; have := G1.out; omega) (by rw [← HI.out]; have := G2.out; omega) (.inr ⟨by omega, by rw [← HI.out, ← HQ.out]; have := G4.out; omega⟩) (by rw [← HN.out]; have := G5.out; omega), HY.out.on (below_drewN _ _ _), hbw.trans (below_drewN _ _ _)⟩
            case measure => simp [intOf]; omega
    · have hkl : k = l.length := by omega
      go_wp2
      go_ret
      exact Tells.yes hbw ⟨by show 0 ≤ nx; omega, by show nx ≤ _; omega, by show l.length ≤ 60; omega, fun i hi => HX.out i (by rw [hkl]; exact hi)⟩

end Go.Proofs.Ythpbnjmhhkkkiaa
