/-
  The document's own Play: an act, by the program's log.
-/
import Derived.Test.YtoggdpkpfdilnaaLm
namespace Go.Proofs.Ytoggdpkpfdilnaa
open Go.RowKit
attribute [local go_sem ↓] Go.wp_at_zero Go.wp_at_succ

/-- what stands in front behind an act -/
def playA (k : Nat) (a b : List UInt8) : List UInt8 := if k % 6 = 2 then a else if k % 6 = 3 then frame b else a ++ (lead a ++ frame b)
section
variable (a : Actd) (vb : Value) (w : World) (lv : Value) (B g : Nat) (s : Dsk) (F : Nat → Prop) (x : List UInt8) (n : Nat) (h : Disk w B g s F) (hh : Has s x n) (hl : LogAt w lv g F) (hs : Seen w w.heap.size vb a.b) (hb : a.b.length ≤ 200) (hn : n + x.length + 300 ≤ 900000)
include h hh hl hs hb hn
omit hb in
set_option maxRecDepth 100000 in
theorem play_flush (hk : a.kind.toNat % 6 = 2) :
    Calls Try.prog 11 #[lv, .agg #[.int .u8 (a.kind.toNat : Int), vb, .int .i64 a.keep, .int .i64 a.torn]] w fun e w' => e = .returned (.int .i64 0) ∧ ∃ s', Has s' x (n + 300) ∧ Turned B g s' F w w' := by
  have hB := h.base
  have b1 := bal w (.cells #[.int .u8 (a.kind.toNat : Int), vb, .int .i64 a.keep, .int .i64 a.torn] 36)
  obtain ⟨s', hq⟩ : ∃ s', s.sync = (s', 0) := ⟨_, sync_calm hh.calm⟩
  have hh' := Lib.hid ((hh.flush hq).more (m := n + 300) (by omega))
  have RC := Lib.hid (flushed _ lv B g s F _ (h.on b1) (hl.on b1) (Nat.le_trans hh.most (by omega)) hq)
  obtain ⟨q, hqe⟩ : ∃ q : Nat, q = a.kind.toNat := ⟨_, rfl⟩
  have hq2 : q < 256 := by rw [hqe]; exact UInt8.toNat_lt _
  rw [← hqe] at hk b1 RC ⊢
  have HK : (q : Int) % 6 = 2 := by omega
  have HB := Lib.hid b1
  have HBB := Lib.hid hB
  obtain ⟨Ab, cb, rfl, _⟩ := hs
  obtain ⟨bl, rfl, _⟩ := hl
  clear hqe hk b1 h hh hB hn hq
  go_enter Try.func11, Try.ntmps11
  go_wp2_with fail
  go_at_call 22
  refine (RC.out).mono ?_
  rintro e w1 ⟨rfl, ht⟩
  go_wp2
  go_ret
  exact ⟨rfl, s', hh'.out, ht.after HB.out HBB.out⟩
set_option maxRecDepth 100000 in
theorem play_save (hk : a.kind.toNat % 6 = 3) :
    Calls Try.prog 11 #[lv, .agg #[.int .u8 (a.kind.toNat : Int), vb, .int .i64 a.keep, .int .i64 a.torn]] w fun e w' => e = .returned (.int .i64 0) ∧ ∃ s', Has s' (frame a.b) (n + 300) ∧ Turned B g s' F w w' := by
  have hB := h.base
  have b1 := bal w (.cells #[.int .u8 (a.kind.toNat : Int), vb, .int .i64 a.keep, .int .i64 a.torn] 36)
  have RC := Lib.hid (saved vb a.b _ lv B g s F x n (h.on b1) hh (hl.on b1) (hs.on b1) (by omega) (by omega))
  obtain ⟨q, hqe⟩ : ∃ q : Nat, q = a.kind.toNat := ⟨_, rfl⟩
  have hq2 : q < 256 := by rw [hqe]; exact UInt8.toNat_lt _
  rw [← hqe] at hk b1 RC ⊢
  have HK : (q : Int) % 6 = 3 := by omega
  have HB := Lib.hid b1
  have HBB := Lib.hid hB
  have hsx := hh.small (by obtain ⟨_, _, _, _, _, _, _, _, h⟩ := h; exact h)
  have HN : Hid (12 + a.b.length + x.length ≤ n + 300) := by show _ ≤ _; omega
  obtain ⟨Ab, cb, rfl, _⟩ := hs
  obtain ⟨bl, rfl, _⟩ := hl
  clear hqe hk b1 h hh hB hn hsx
  go_enter Try.func11, Try.ntmps11
  go_wp2_with fail
  go_at_call 18
  refine (RC.out).mono ?_
  rintro e w1 ⟨rfl, s', hh', ht⟩
  go_wp2
  go_ret
  exact ⟨rfl, s', hh'.more HN.out, ht.after HB.out HBB.out⟩
set_option maxRecDepth 100000 in
theorem play_add (hk : a.kind.toNat % 6 ≠ 2 ∧ a.kind.toNat % 6 ≠ 3) :
    Calls Try.prog 11 #[lv, .agg #[.int .u8 (a.kind.toNat : Int), vb, .int .i64 a.keep, .int .i64 a.torn]] w fun e w' => e = .returned (.int .i64 0) ∧ ∃ s', Has s' (x ++ (lead x ++ frame a.b)) (n + 300) ∧ Turned B g s' F w w' := by
  have hB := h.base
  have b1 := bal w (.cells #[.int .u8 (a.kind.toNat : Int), vb, .int .i64 a.keep, .int .i64 a.torn] 36)
  obtain ⟨s', hq, hh1⟩ := hh.turns (l := lead x ++ frame a.b)
  have hlx := lead_len x
  have hh' := Lib.hid (hh1.more (m := n + 300) (by rw [List.length_append, frame_length]; omega))
  have RC := Lib.hid (added vb a.b _ lv B g s F x n _ (h.on b1) hh (hl.on b1) (hs.on b1) (by omega) (by omega) hq)
  obtain ⟨q, hqe⟩ : ∃ q : Nat, q = a.kind.toNat := ⟨_, rfl⟩
  have hq2 : q < 256 := by rw [hqe]; exact UInt8.toNat_lt _
  rw [← hqe] at hk b1 RC ⊢
  have K2 : ((q : Int) % 6 == 2) = false := by simpa using (show ¬ (q : Int) % 6 = 2 by omega)
  have K3 : ((q : Int) % 6 == 3) = false := by simpa using (show ¬ (q : Int) % 6 = 3 by omega)
  have HB := Lib.hid b1
  have HBB := Lib.hid hB
  obtain ⟨Ab, cb, rfl, _⟩ := hs
  obtain ⟨bl, rfl, _⟩ := hl
  clear hqe hk b1 h hh hB hn hq hh1 hlx
  go_enter Try.func11, Try.ntmps11
  go_wp2_with fail
  go_at_call 19
  refine (RC.out).mono ?_
  rintro e w1 ⟨rfl, ht⟩
  go_wp2
  go_ret
  exact ⟨rfl, s', hh'.out, ht.after HB.out HBB.out⟩
theorem play_any : Calls Try.prog 11 #[lv, .agg #[.int .u8 (a.kind.toNat : Int), vb, .int .i64 a.keep, .int .i64 a.torn]] w fun e w' => e = .returned (.int .i64 0) ∧ ∃ s', Has s' (playA a.kind.toNat x a.b) (n + 300) ∧ Turned B g s' F w w' := by
  unfold playA
  by_cases h2 : a.kind.toNat % 6 = 2
  · rw [if_pos h2]
    exact play_flush a vb w lv B g s F x n h hh hl hs hn h2
  · rw [if_neg h2]
    by_cases h3 : a.kind.toNat % 6 = 3
    · rw [if_pos h3]
      exact play_save a vb w lv B g s F x n h hh hl hs hb hn h3
    · rw [if_neg h3]
      exact play_add a vb w lv B g s F x n h hh hl hs hb hn ⟨h2, h3⟩
end

end Go.Proofs.Ytoggdpkpfdilnaa
