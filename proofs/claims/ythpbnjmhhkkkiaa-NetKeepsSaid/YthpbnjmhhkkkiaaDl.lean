/-
  slices.Delete of one packet: the walk.
-/
import Derived.Test.YthpbnjmhhkkkiaaDe
namespace Go.Proofs.Ythpbnjmhhkkkiaa
open Go.RowKit
attribute [local go_sem ↓] Go.wp_at_zero Go.wp_at_succ

set_option maxRecDepth 100000 in
set_option maxHeartbeats 4000000 in
theorem delete_far (w : World) (g off cap n a j : Nat) (css : List (List Value)) (h : Lst w g off cap css) (hn : css.length = n) (hj : j = a + 1) (ha : a < n) (hb : n ≤ 1000) (h1 : ∀ c ∈ css, ∀ u ∈ c, u.oneCell' = true) (hcj : cap ≠ j) :
    Calls Try.prog 23 #[.slice (some ⟨g, off, none⟩) n cap, .int .i64 (a : Int), .int .i64 (j : Int)] w fun e w' => ∃ q, q = n - 1 ∧ e = .returned (.slice (some ⟨g, off, none⟩) q cap) ∧ Gone w g off cap (css.eraseIdx a) w' := by
  obtain ⟨tp, hi, hz0, hz1, hz2⟩ := info_part3 pkt_info
  have hle := h.le
  have hmx := h.max
  unfold maxLen at hmx
  have hd := h.on (w' := w.drew) (Below.refl _ _).drew
  have hsr : Src Try.prog 3 22 (.slice (some ⟨g, off + j * 3, none⟩) (n - j) (cap - j)) (n - j) (css.drop (a + 1)).flatten w.drew := by
    rw [hj, ← hn]
    exact hd.src h1 (k := a + 1) (by omega) Try.underlying22 (cap - (a + 1)) ⟨g, off + (a + 1) * 3, none⟩ (.inl rfl)
  have HJ := Lib.hid hj
  have HN := Lib.hid hn
  have HD := Lib.hid hd
  have HH := Lib.hid h
  have HLE := Lib.hid hle
  have i0 : (0 : Int) ≤ (a : Int) := by omega
  have i1 : (a : Int) ≤ (j : Int) := by omega
  have i2 : (j : Int) ≤ (n : Int) := by omega
  have i3 : (n : Int) ≤ (cap : Int) := by omega
  have i4 : (a : Int) ≤ (n : Int) := by omega
  have i5 : (a : Int) ≤ (cap : Int) := by omega
  have e0 : ((a : Int) == (j : Int)) = false := beq_eq_false_iff_ne.2 (by omega)
  have m1 : n ≠ a := by omega
  have m2 : cap ≠ 0 := by omega
  have hk : a < css.length := by omega
  have HM : Hid (n - j = css.length - (a + 1)) := by show n - j = _; omega
  clear h hn hj h1 hd hle hmx
  go_enter Try.func23, Try.ntmps23
  go_wp2
  first | (go_region_law (first
    | (refine step_appendL (g := g) (off := off) (cap := cap) (k := a) (m := n - j) (css := css) (by rfl) (.tmp 22) (.tmp 25) 22 22 (by rfl) 29 tp Try.underlying22 hi hz1 HD.out hk hsr HM.out (by rfl) (by rfl) ?_; intro w5 q hq hl5 hb5 hk5; have hq2 : q = n - 1 := (by rw [HN.out] at hq; exact hq); have HQ := Lib.hid hq2; have q0 : (0 : Int) ≤ (q : Int) := (by omega); have q1 : (q : Int) ≤ (n : Int) := (by omega); have q2 : cap ≠ q := (by omega); have q3 : n - q = 1 := (by omega); have HG : Hid (Gone w g off cap (css.eraseIdx a) w5) := ⟨hl5, fun B hB => (Below.refl B w).drew.trans (hb5 B hB), fun b hb => (hk5 b hb).trans rfl⟩; obtain ⟨vs, hvl, hcl⟩ := run_clear3 (P := Try.prog) w5 22 29 (.int .i64 0) (.int .i64 0) (.slice none 0 0) Try.underlying22 pkt_zero rfl rfl rfl rfl g (off + q * 3) (n - q) (cap - q) (fun x hx => by rw [Nat.add_assoc]; exact (hl5.open_ _ (by omega)).1) (fun x hx => by rw [Nat.add_assoc]; exact (hl5.open_ _ (by omega)).2); have HV := Lib.hid hvl; clear hq hq2 hl5 hb5 hk5 hvl q3))) | fail
  all_goals go_wp2_with (simp only [hcl])
  all_goals go_ret
  all_goals exact ⟨q, HQ.out, rfl, HG.out.clear (by rw [List.length_eraseIdx_of_lt hk, HN.out]; exact HQ.out) vs (by have := HV.out; have := HQ.out; have := HLE.out; have := HN.out; omega)⟩

set_option maxRecDepth 100000 in
set_option maxHeartbeats 4000000 in
theorem delete_near (w : World) (g off a j : Nat) (css : List (List Value)) (h : Lst w g off j css) (hn : css.length = j) (hj : j = a + 1) (hb : j ≤ 1000) (h1 : ∀ c ∈ css, ∀ u ∈ c, u.oneCell' = true) :
    Calls Try.prog 23 #[.slice (some ⟨g, off, none⟩) j j, .int .i64 (a : Int), .int .i64 (j : Int)] w fun e w' => ∃ q, q = j - 1 ∧ e = .returned (.slice (some ⟨g, off, none⟩) q j) ∧ Gone w g off j (css.eraseIdx a) w' := by
  obtain ⟨tp, hi, hz0, hz1, hz2⟩ := info_part3 pkt_info
  have hle := h.le
  have hmx := h.max
  unfold maxLen at hmx
  have hd := h.on (w' := w.drew) (Below.refl _ _).drew
  have hsr : Src Try.prog 3 22 (.slice (some ⟨g, off, none⟩) 0 0) 0 (css.drop (a + 1)).flatten w.drew := by
    have := hd.src h1 (k := css.length) (Nat.le_refl _) Try.underlying22 0 ⟨g, off, none⟩ (.inr rfl)
    rw [Nat.sub_self] at this
    rw [← hj, ← hn]
    exact this
  have HJ := Lib.hid hj
  have HN := Lib.hid hn
  have HD := Lib.hid hd
  have HH := Lib.hid h
  have HLE := Lib.hid hle
  have i0 : (0 : Int) ≤ (a : Int) := by omega
  have i1 : (a : Int) ≤ (j : Int) := by omega
  have e0 : ((a : Int) == (j : Int)) = false := beq_eq_false_iff_ne.2 (by omega)
  have m1 : j ≠ a := by omega
  have m2 : j ≠ 0 := by omega
  have hk : a < css.length := by omega
  have HM : Hid (0 = css.length - (a + 1)) := by show 0 = _; omega
  clear h hn hj h1 hd hle hmx
  go_enter Try.func23, Try.ntmps23
  go_wp2
  first | (go_region_law (first
    | (refine step_appendL (g := g) (off := off)  (k := a) (m := 0) (css := css) (by rfl) (.tmp 22) (.tmp 25) 22 22 (by rfl) 29 tp Try.underlying22 hi hz1 HD.out hk hsr HM.out (by rfl) (by rfl) ?_; intro w5 q hq hl5 hb5 hk5; have hq2 : q = j - 1 := (by rw [HN.out] at hq; exact hq); have HQ := Lib.hid hq2; have q0 : (0 : Int) ≤ (q : Int) := (by omega); have q1 : (q : Int) ≤ (j : Int) := (by omega); have q2 : j ≠ q := (by omega); have q3 : j - q = 1 := (by omega); have HG : Hid (Gone w g off j (css.eraseIdx a) w5) := ⟨hl5, fun B hB => (Below.refl B w).drew.trans (hb5 B hB), fun b hb => (hk5 b hb).trans rfl⟩; obtain ⟨vs, hvl, hcl⟩ := run_clear3 (P := Try.prog) w5 22 29 (.int .i64 0) (.int .i64 0) (.slice none 0 0) Try.underlying22 pkt_zero rfl rfl rfl rfl g (off + q * 3) (j - q) (j - q) (fun x hx => by rw [Nat.add_assoc]; exact (hl5.open_ _ (by omega)).1) (fun x hx => by rw [Nat.add_assoc]; exact (hl5.open_ _ (by omega)).2); have HV := Lib.hid hvl; clear hq hq2 hl5 hb5 hk5 hvl q3))) | fail
  all_goals go_wp2_with (simp only [hcl])
  all_goals go_ret
  all_goals exact ⟨q, HQ.out, rfl, HG.out.clear (by rw [List.length_eraseIdx_of_lt hk, HN.out]; exact HQ.out) vs (by have := HV.out; have := HQ.out; have := HLE.out; have := HN.out; omega)⟩

theorem delete_any (w : World) (g off cap n a : Nat) (css : List (List Value)) (h : Lst w g off cap css) (hn : css.length = n) (ha : a < n) (hb : n ≤ 1000) (h1 : ∀ c ∈ css, ∀ u ∈ c, u.oneCell' = true) :
    Calls Try.prog 23 #[.slice (some ⟨g, off, none⟩) n cap, .int .i64 (a : Int), .int .i64 ((a : Int) + 1)] w fun e w' => ∃ q, q = n - 1 ∧ e = .returned (.slice (some ⟨g, off, none⟩) q cap) ∧ Gone w g off cap (css.eraseIdx a) w' := by
  have e : (a : Int) + 1 = ((a + 1 : Nat) : Int) := by omega
  rw [e]
  by_cases hc : cap = a + 1
  · have hle := h.le
    obtain rfl : n = a + 1 := by omega
    subst hc
    exact delete_near w g off a (a + 1) css h hn rfl hb h1
  · exact delete_far w g off cap n a (a + 1) css h hn rfl ha hb h1 hc

end Go.Proofs.Ythpbnjmhhkkkiaa
