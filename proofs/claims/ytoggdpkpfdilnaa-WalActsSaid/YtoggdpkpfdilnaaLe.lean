/-
  bytes.Equal, bytes.HasPrefix.
-/
import Derived.Test.YtoggdpkpfdilnaaLd
namespace Go.Proofs.Ytoggdpkpfdilnaa
open Go.RowKit
attribute [local go_sem ↓] Go.wp_at_zero Go.wp_at_succ

set_option maxRecDepth 100000 in
theorem equal_yes (w : World) (v u : Value) (B0 B1 : Nat) (l : List UInt8) (h1 : Seen w B0 v l) (h2 : Seen w B1 u l) :
    Calls Try.prog 43 #[v, u] w fun e w' => e = .returned (.bool true) ∧ w = w' := by
  have C1 := conv_seen h1
  have C2 := conv_seen h2
  obtain ⟨A1, c1, rfl, _⟩ := h1
  obtain ⟨A2, c2, rfl, _⟩ := h2
  go_enter Try.func43, Try.ntmps43
  go_wp2
  go_ret
  exact ⟨ret_bool (by simp), rfl⟩

set_option maxRecDepth 100000 in
theorem prefix_no (w : World) (v u : Value) (B0 B1 : Nat) (l m : List UInt8) (h1 : Seen w B0 v l) (h2 : Seen w B1 u m) (hl : l.length < m.length) :
    Calls Try.prog 26 #[v, u] w fun e w' => e = .returned (.bool false) ∧ w = w' := by
  obtain ⟨A1, c1, rfl, _⟩ := h1
  obtain ⟨A2, c2, rfl, _⟩ := h2
  have hlI : (l.length : Int) < (m.length : Int) := by omega
  go_enter Try.func26, Try.ntmps26
  go_wp2
  go_ret
  exact ⟨rfl, rfl⟩

set_option maxRecDepth 100000 in
theorem prefix_same (w : World) (v u : Value) (B0 B1 : Nat) (l : List UInt8) (h1 : Seen w B0 v l) (h2 : Seen w B1 u l) :
    Calls Try.prog 26 #[v, u] w fun e w' => e = .returned (.bool true) ∧ w = w' := by
  have EQ := Lib.hid (equal_yes w v u B0 B1 l h1 h2)
  obtain ⟨A1, c1, rfl, a1⟩ := h1
  obtain ⟨A2, c2, rfl, a2⟩ := h2
  have hlc : l.length ≤ c1 := a1.1
  have hcm : c1 ≤ maxLen := a1.2.1
  unfold maxLen at hcm
  have hlI : (l.length : Int) ≤ (c1 : Int) := by omega
  clear a1 a2
  go_enter Try.func26, Try.ntmps26
  go_wp2_with (go_at_call 43; refine (EQ.out).mono ?_; rintro e w1 ⟨rfl, rfl⟩)
  go_ret
  exact ⟨rfl, rfl⟩

end Go.Proofs.Ytoggdpkpfdilnaa
