/-
  A log; its Flush, Save, Add, Size, of whatever disk on which nothing fails.
-/
import Derived.Test.YtoggdpkpfdilnaaLb
import Derived.Test.YtoggdpkpfdilnaaSc
namespace Go.Proofs.Ytoggdpkpfdilnaa
open Go.RowKit
attribute [local go_sem ↓] Go.wp_at_zero Go.wp_at_succ

theorem Turned.after {B g : Nat} {s : Dsk} {F : Nat → Prop} {w w1 w' : World} (hb : Below w.heap.size w w1) (hB : B ≤ w.heap.size) (h : Turned B g s F w1 w') : Turned B g s F w w' := by
  obtain ⟨F', h1, h2, h3, h4⟩ := h
  have hs := hb.size
  exact ⟨F', h1, fun k hk => (h2 k hk).imp id (fun q => by omega), (hb.mono hB).trans h3, fun k hk hn => (h4 k (by omega) hn).trans (hb.block k hk)⟩
/-- the log's own cell, which isn't the disk's -/
def LogAt (w : World) (lv : Value) (g : Nat) (F : Nat → Prop) : Prop := ∃ b, lv = .pointer (some ⟨b, 0, none⟩) ∧ b < w.heap.size ∧ ¬ F b ∧ w.cell? ⟨b, 0, none⟩ = some (.pointer (some ⟨g, 0, none⟩))
theorem LogAt.on {w w' : World} {lv : Value} {g : Nat} {F : Nat → Prop} (h : LogAt w lv g F) (hb : Below w.heap.size w w') : LogAt w' lv g F := by
  obtain ⟨b, h1, h2, h3, h4⟩ := h
  exact ⟨b, h1, Nat.lt_of_lt_of_le h2 hb.size, h3, (World.cell?_of_block (a := ⟨b, 0, none⟩) (hb.block b h2)).trans h4⟩
theorem LogAt.turned {w w' : World} {lv : Value} {g : Nat} {F F' : Nat → Prop} (h : LogAt w lv g F) (h1 : ∀ k, F' k → F k ∨ w.heap.size ≤ k) (h2 : ∀ k, k < w.heap.size → ¬ F k → w'.heap[k]? = w.heap[k]?) (hs : w.heap.size ≤ w'.heap.size) : LogAt w' lv g F' := by
  obtain ⟨b, e, hb, hF, hc⟩ := h
  refine ⟨b, e, by omega, fun h => ?_, (World.cell?_of_block (a := ⟨b, 0, none⟩) (h2 b hb hF)).trans hc⟩
  rcases h1 b h with h | h
  · exact hF h
  · omega
theorem own_seen {w : World} {B : Nat} {v : Value} {l : List UInt8} (h : Seen w B v l) : l = [] ∨ ∀ k, v.ownBlock = some k → k < B ∧ k < w.heap.size := by
  obtain ⟨A, c, rfl, _, _, h⟩ := h
  rcases h with h | ⟨b, off, rfl, h1, h2, _⟩
  · exact .inl h
  · refine .inr fun k e => ?_
    injection e with e
    subst e
    exact ⟨h1, h2⟩

set_option maxRecDepth 100000 in
theorem flushed (w : World) (lv : Value) (B g : Nat) (s : Dsk) (F : Nat → Prop) (r : Dsk × Int) (h : Disk w B g s F) (hl : LogAt w lv g F) (hm : s.mass ≤ 900000) (hr : s.sync = r) :
    Calls Try.prog 22 #[lv] w (Does B g F w r) := by
  obtain ⟨b, rfl, hb, hF, hc⟩ := hl
  have RC := Lib.hid (sync_is h hm hr)
  clear h hm hr
  go_enter Try.func22, Try.ntmps22
  go_wp2_with fail
  go_at_call 37
  refine (RC.out).mono ?_
  rintro e w1 ⟨rfl, ht⟩
  go_wp2
  go_ret
  exact ⟨rfl, ht⟩

/-- frame.Put behind nothing, in memory of the call's own -/
theorem put_new (u : Value) (r : List UInt8) (w : World) (hu : Seen w w.heap.size u r) (hr : r.length ≤ 16777216) :
    Calls Try.prog 25 #[.slice none 0 0, u] w fun e w' => ∃ v', e = .returned v' ∧ Room w' w.heap.size v' (frame r) ∧ (∀ k, v'.ownBlock = some k → w.heap.size ≤ k ∧ k < w'.heap.size) ∧ Below w.heap.size w w' := by
  refine (put_grew (.slice none 0 0) u [] r w.heap.size w Room.nil (Nat.le_refl _) hu (by simp) hr).mono ?_
  rintro e w' ⟨v', rfl, h1, h2, h3, _⟩
  rw [List.nil_append] at h1
  exact ⟨v', rfl, h1, fun k hk => ⟨(h3 k hk).elim (fun h => nomatch h) id, h1.own_lt k hk⟩, h2⟩

theorem put_later (u : Value) (r : List UInt8) (w W : World) (hb : Below w.heap.size w W) (hu : Seen w w.heap.size u r) (hr : r.length ≤ 16777216) :
    Calls Try.prog 25 #[.slice none 0 0, u] W fun e w' => ∃ v', e = .returned v' ∧ Room w' w.heap.size v' (frame r) ∧ (∀ k, v'.ownBlock = some k → w.heap.size ≤ k ∧ k < w'.heap.size) ∧ Below w.heap.size w w' := by
  refine (put_new u r W (hu.on hb) hr).mono ?_
  rintro e w' ⟨v', rfl, h1, h2, h3⟩
  exact ⟨v', rfl, h1.low (fun k e => (h2 k e).1) hb.size, fun k e => ⟨Nat.le_trans hb.size (h2 k e).1, (h2 k e).2⟩, bt hb h3⟩

set_option maxRecDepth 100000 in
set_option maxHeartbeats 1000000 in
theorem saved (u : Value) (r : List UInt8) (w : World) (lv : Value) (B g : Nat) (s : Dsk) (F : Nat → Prop) (a : List UInt8) (n : Nat) (h : Disk w B g s F) (hh : Has s a n) (hl : LogAt w lv g F) (hu : Seen w w.heap.size u r) (hr : r.length ≤ 16777216) (hn : n + a.length + r.length + 14 ≤ 900000) :
    Calls Try.prog 18 #[lv, u] w fun e w' => e = .returned (.int .i64 0) ∧ ∃ s', Has s' (frame r) (12 + r.length + a.length) ∧ Turned B g s' F w w' := by
  obtain ⟨b, rfl, hb, hF, hc⟩ := hl
  have hB := h.base
  have PN : Hid (∀ W : World, Below w.heap.size w W → Calls Try.prog 25 #[.slice none 0 0, u] W fun e w' => ∃ v', e = .returned v' ∧ Room w' w.heap.size v' (frame r) ∧ (∀ k, v'.ownBlock = some k → w.heap.size ≤ k ∧ k < w'.heap.size) ∧ Below w.heap.size w w') := fun W hb => put_later u r w W hb hu hr
  have RP : Hid (∀ (W : World) (v : Value), Below w.heap.size w W → Room W w.heap.size v (frame r) → (∀ k, v.ownBlock = some k → w.heap.size ≤ k ∧ k < W.heap.size) →
      Calls Try.prog 28 #[.pointer (some ⟨g, 0, none⟩), v] W fun e w' => e = .returned (.int .i64 0) ∧ ∃ s', Has s' (frame r) (12 + r.length + a.length) ∧ Turned B g s' F W w') := fun W v hb hv ho => by
    have := replaced v (frame r) W.heap.size W B g s F a n (h.on hb) hh hv.seen (fun k e => (ho k e).2) (fun k e hF => by have := (h.less k hF).2; have := (ho k e).1; omega) (by rw [frame_length]; omega)
    rw [frame_length] at this
    exact this
  have HC : Hid (∀ W : World, Below w.heap.size w W → W.cell? ⟨b, 0, none⟩ = some (.pointer (some ⟨g, 0, none⟩))) := fun W hb' => (World.cell?_of_block (a := ⟨b, 0, none⟩) (hb'.block b hb)).trans hc
  have HCT : Hid (∀ (W W' : World) (s' : Dsk), Below w.heap.size w W → Turned B g s' F W W' → W'.cell? ⟨b, 0, none⟩ = some (.pointer (some ⟨g, 0, none⟩))) := fun W W' s' hb' ⟨_, _, _, _, hk⟩ => (World.cell?_of_block (a := ⟨b, 0, none⟩) (hk b (Nat.lt_of_lt_of_le hb hb'.size) hF)).trans ((World.cell?_of_block (a := ⟨b, 0, none⟩) (hb'.block b hb)).trans hc)
  have hb0 : Below w.heap.size w w.drew := (Below.refl _ _).drew
  have HB := Lib.hid hB
  obtain ⟨Au, cu, rfl, _⟩ := hu
  clear h hh hr hn hB
  go_enter Try.func18, Try.ntmps18
  go_wp2
  first | (go_region_held3 (fun W => W.cell? ⟨b, 0, none⟩ = some (.pointer (some ⟨g, 0, none⟩))) (first | exact C2 | exact C1 | exact HC.out _ hb0) (first
    | (go_at_call 25; (with_reducible refine (PN.out _ hb0).mono ?_); rintro e w1 ⟨v1, rfl, hr1, ho1, hb01⟩; have C1 := HC.out _ hb01)
    | (go_at_call 28; (with_reducible refine (RP.out _ _ hb01 hr1 ho1).mono ?_); rintro e w2 ⟨rfl, s', hs', ht⟩; have C2 := HCT.out _ _ _ hb01 ht))) | fail
  go_wp2
  go_ret
  exact ⟨rfl, s', hs', ht.after hb01 HB.out⟩

end Go.Proofs.Ytoggdpkpfdilnaa
