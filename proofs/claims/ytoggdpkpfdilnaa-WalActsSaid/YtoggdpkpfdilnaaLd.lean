/-
  A log's Size and Add; bytes.HasPrefix.
-/
import Derived.Test.YtoggdpkpfdilnaaLc
namespace Go.Proofs.Ytoggdpkpfdilnaa
open Go.RowKit
attribute [local go_sem ↓] Go.wp_at_zero Go.wp_at_succ

set_option maxRecDepth 100000 in
theorem sized (w : World) (lv : Value) (B g : Nat) (s : Dsk) (F : Nat → Prop) (a : List UInt8) (n : Nat) (h : Disk w B g s F) (hh : Has s a n) (hl : LogAt w lv g F) (hn : n ≤ 900000) :
    Calls Try.prog 15 #[lv] w fun e w' => e = .returned (.int .i64 (a.length : Int)) ∧ Below w.heap.size w w' := by
  obtain ⟨b, rfl, hb, hF, hc⟩ := hl
  have RD := Lib.hid (down_disk w B g s F h)
  rw [calm_down hh.calm] at RD
  have RF := Lib.hid (fronted w B g s F a n h hh hn)
  clear h hh hn
  go_enter Try.func15, Try.ntmps15
  go_wp2_with fail
  go_at_call 30
  refine (RD.out).mono ?_
  rintro e w1 ⟨rfl, rfl⟩
  go_wp2_with fail
  go_at_call 24
  refine (RF.out).mono ?_
  rintro e w1 ⟨u, rfl, hu, hou, hb1⟩
  obtain ⟨A, c, rfl, _⟩ := hu.slice
  go_wp2
  go_ret
  exact ⟨rfl, hb1⟩

/-- what Add appends -/
def lead (a : List UInt8) : List UInt8 := if a = [] then frame [] else []
theorem lead_len (a : List UInt8) : (lead a).length ≤ 12 := by
  unfold lead
  split
  · rw [frame_length]; simp
  · simp

set_option maxRecDepth 100000 in
set_option maxHeartbeats 1000000 in
theorem added (u : Value) (r : List UInt8) (w : World) (lv : Value) (B g : Nat) (s : Dsk) (F : Nat → Prop) (a : List UInt8) (n : Nat) (q : Dsk × Int) (h : Disk w B g s F) (hh : Has s a n) (hl : LogAt w lv g F) (hu : Seen w w.heap.size u r) (hr : r.length ≤ 16777216) (hn : n + r.length + 25 ≤ 900000)
    (hq : s.chg 0 s.now.front (lead a ++ frame r) = q) : Calls Try.prog 19 #[lv, u] w (Does B g F w q) := by
  obtain ⟨b, rfl, hb, hF, hc⟩ := hl
  have hB := h.base
  have hri : s.right := by obtain ⟨_, _, _, _, _, _, _, _, h⟩ := h; exact h
  have hal : a.length ≤ 900000 := by have := hh.small hri; omega
  have RF := Lib.hid (fronted w B g s F a n h hh (by omega))
  have hm := hh.most
  have AP : Hid (∀ (W : World) (v : Value), Below w.heap.size w W → Seen W W.heap.size v (lead a ++ frame r) → Calls Try.prog 36 #[.pointer (some ⟨g, 0, none⟩), .int .i64 s.now.front, v] W (Does B g F W q)) := fun W v hb hv =>
    append_is (h.on hb) hv (by rw [List.length_append, frame_length]; have := lead_len a; omega) hq
  have HC : Hid (∀ W : World, Below w.heap.size w W → W.cell? ⟨b, 0, none⟩ = some (.pointer (some ⟨g, 0, none⟩))) := fun W hb' => (World.cell?_of_block (a := ⟨b, 0, none⟩) (hb'.block b hb)).trans hc
  have HCT : Hid (∀ (W W' : World) (s' : Dsk), Below w.heap.size w W → Turned B g s' F W W' → W'.cell? ⟨b, 0, none⟩ = some (.pointer (some ⟨g, 0, none⟩))) := fun W W' s' hb' ⟨_, _, _, _, hk⟩ => (World.cell?_of_block (a := ⟨b, 0, none⟩) (hk b (Nat.lt_of_lt_of_le hb hb'.size) hF)).trans ((World.cell?_of_block (a := ⟨b, 0, none⟩) (hb'.block b hb)).trans hc)
  have HB := Lib.hid hB
  have PG : Hid (∀ (W : World) (v : Value) (l : List UInt8), Below w.heap.size w W → Room W w.heap.size v l → l.length ≤ 16777216 → Calls Try.prog 25 #[v, u] W fun e w' => ∃ v', e = .returned v' ∧ Room w' w.heap.size v' (l ++ frame r) ∧ Below w.heap.size w w') := fun W v l hb hv hll =>
    (put_grew v u l r w.heap.size W hv hb.size (hu.on hb) hll hr).mono fun e w' ⟨v', h1, h2, h3, _⟩ => ⟨v', h1, h2, hb.trans h3⟩
  have P0 : Hid (∀ W : World, Below w.heap.size w W → Calls Try.prog 25 #[.slice none 0 0, .slice none 0 0] W fun e w' => ∃ v', e = .returned v' ∧ Room w' w.heap.size v' (frame []) ∧ (∀ k, v'.ownBlock = some k → w.heap.size ≤ k ∧ k < w'.heap.size) ∧ Below w.heap.size w w') := fun W hb => put_later _ [] w W hb Seen.nil (by simp)
  have HE : Hid ((frame []).length ≤ 16777216) := by show (frame []).length ≤ _; rw [frame_length]; simp
  obtain ⟨f, hf⟩ : ∃ f, f = s.now.front := ⟨_, rfl⟩
  rw [← hf] at RF AP
  obtain ⟨Au, cu, rfl, _⟩ := hu
  obtain ⟨q1, q2⟩ := q
  have hq2 : q2 = 0 := by
    have := chg_calm hh.calm 0 hh.side (lead a ++ frame r)
    rw [this] at hq
    injection hq with _ h
    exact h.symm
  subst hq2
  clear h hh hr hn hB hri hq hf hm
  by_cases ha : a = []
  · have HL : Hid (lead a = frame []) := by show lead a = _; unfold lead; rw [if_pos ha]
    subst ha
    go_enter Try.func19, Try.ntmps19
    go_wp2_with fail
    go_at_call 24
    refine (RF.out).mono ?_
    rintro e w1 ⟨u1, rfl, hu1, hou, hb1⟩
    obtain ⟨A1, c1, rfl, _⟩ := hu1.slice
    go_wp2_with fail
    go_at_call 25
    refine (P0.out _ hb1).mono ?_
    rintro e w2 ⟨v2, rfl, hv2, _, hb2⟩
    obtain ⟨A2, c2, rfl, _⟩ := hv2.cut
    generalize hm2 : (frame []).length = m2 at hv2 ⊢
    have hb2d : Below w.heap.size w w2.drew := hb2.drew
    have hv2d := hv2.on (Below.refl w2.heap.size w2).drew
    rw [← hm2] at hv2d
    have PG2 := Lib.hid (PG.out w2.drew _ _ hb2d hv2d HE.out)
    rw [hm2] at PG2
    go_wp2
    first | (go_region_held3 (fun W => W.cell? ⟨b, 0, none⟩ = some (.pointer (some ⟨g, 0, none⟩))) (first | exact C4 | exact C3 | exact HC.out _ hb2d) (first
      | (go_at_call 25; (with_reducible refine (PG2.out).mono ?_); rintro e w3 ⟨v3, rfl, hv3, hb3⟩; have C3 := HC.out _ hb3; have SE := hv3.seen; rw [← HL.out] at SE)
      | (go_at_call 36; (with_reducible refine (AP.out _ _ hb3 SE).mono ?_); rintro e w4 ⟨rfl, ht⟩; have C4 := HCT.out _ _ _ hb3 ht))) | fail
    go_wp2
    go_ret
    exact ⟨rfl, ht.after hb3 HB.out⟩
  · have HL : Hid (lead a = []) := by show lead a = _; unfold lead; rw [if_neg ha]
    have hpos : (0 : Int) < (a.length : Int) := by have := List.length_pos_iff.2 ha; omega
    clear ha
    go_enter Try.func19, Try.ntmps19
    go_wp2_with fail
    go_at_call 24
    refine (RF.out).mono ?_
    rintro e w1 ⟨u1, rfl, hu1, hou, hb1⟩
    obtain ⟨A1, c1, rfl, _⟩ := hu1.slice
    have hb2d : Below w.heap.size w w1.drew := hb1.drew
    have PG2 := Lib.hid (PG.out w1.drew (.slice none 0 0) [] hb2d Room.nil (by simp))
    go_wp2
    first | (go_region_held3 (fun W => W.cell? ⟨b, 0, none⟩ = some (.pointer (some ⟨g, 0, none⟩))) (first | exact C4 | exact C3 | exact HC.out _ hb2d) (first
      | (go_at_call 25; (with_reducible refine (PG2.out).mono ?_); rintro e w3 ⟨v3, rfl, hv3, hb3⟩; have C3 := HC.out _ hb3; have SE := hv3.seen; rw [← HL.out] at SE)
      | (go_at_call 36; (with_reducible refine (AP.out _ _ hb3 SE).mono ?_); rintro e w4 ⟨rfl, ht⟩; have C4 := HCT.out _ _ _ hb3 ht))) | fail
    go_wp2
    go_ret
    exact ⟨rfl, ht.after hb3 HB.out⟩

end Go.Proofs.Ytoggdpkpfdilnaa
