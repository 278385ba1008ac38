/-
  NetActs, NetCounts, NetTakes of every input, over whatever functions of nets that answer as the document asks.
-/
import Derived.Test.YthpbnjmhhkkkiaaNd
namespace Go.Proofs.Ythpbnjmhhkkkiaa
open Go.RowKit
attribute [local go_sem ↓] Go.wp_at_zero Go.wp_at_succ

section
variable (HAW : AwakeOk) (HTN : TakeNewOk) (HDR : DropOk) (HCO : CopyOk) (HSE : SendOk) (HCU : CutOk)
include HAW

set_option maxRecDepth 100000 in
set_option maxHeartbeats 4000000 in
theorem takes_no (w : World) (v : Value) (n : Nett) (h : NetAt w w.heap.size v n) (hr : ¬ n.right) :
    Calls Try.prog 6 #[v] w (Fine w) := by
  have HN := Lib.hid h
  obtain ⟨A, c, rfl, hlc⟩ := netAt_slice h
  have hb0 := bal w (.cells #[.int .i64 n.next, .slice A n.l.length c] 24)
  have hx0 := box_made w [.int .i64 n.next, .slice A n.l.length c] 24
  have HR : Hid (∀ W, Below w.heap.size w W → Calls Try.prog 8 #[.agg #[.int .i64 n.next, .slice A n.l.length c]] W fun e w' => e = .returned (.bool false) ∧ Below W.heap.size W w') := fun W hW => right_is (HN.out.on hW) ⟨fun e => (by cases e), fun e => absurd e hr⟩
  clear h hr
  go_enter Try.func6, Try.ntmps6
  go_wp2_with fail
  go_at_call 7
  refine (HAW _).mono ?_
  rintro e w1 ⟨rfl, hb1⟩
  have hd1 := bt hb0 hb1
  have z0 := (hx0.on hb1).get 0 rfl
  have z1 := (hx0.on hb1).get 1 rfl
  go_wp2_with fail
  go_at_call 8
  refine (HR.out _ hd1).mono ?_
  rintro e w2 ⟨rfl, hb2⟩
  have hd2 := bt hd1 hb2
  go_wp2_with fail
  go_at_call 7
  refine (HAW _).mono ?_
  rintro e w3 ⟨rfl, hb3⟩
  go_wp2
  go_ret
  exact ⟨rfl, bt hd2 hb3⟩

include HTN
theorem takes_walk (v : Value) (n : Nett) (w : World) (h : NetAt w w.heap.size v n) : Calls Try.prog 6 #[v] w fun e w' => e = .returned (.bool true) ∧ Below w.heap.size w w' := by
  by_cases hr : n.right
  · exact takes_yes HAW HTN w v n h hr
  · exact takes_no HAW w v n h hr
include HDR HCO HSE
theorem counts_walk (v : Value) (n : Nett) (i : Int) (w : World) (h : NetAt w w.heap.size v n) : Calls Try.prog 4 #[v, .int .i64 i] w fun e w' => e = .returned (.bool true) ∧ Below w.heap.size w w' := by
  by_cases hr : n.right
  · by_cases hi : i < 0
    · exact counts_no HAW w v n i h (.inr hi)
    · have h60 := hr.2.2.1
      cases hk : n.l.length with
      | zero => exact counts_yes HAW HTN.takes HDR HCO HSE w v n i 0 0 0 1 h hr (by omega) hk (by omega) (taken_len0 hk) (copied_len0 hk) (send_len hk) (.inl ⟨rfl, rfl, rfl, rfl⟩)
      | succ k => exact counts_yes HAW HTN.takes HDR HCO HSE w v n i (k + 1) k (k + 1 + 1) (k + 1 + 1) h hr (by omega) hk (by omega) (taken_len hk) (copied_len hk) (send_len hk) (.inr ⟨by omega, rfl, rfl, rfl⟩)
  · exact counts_no HAW w v n i h (.inl hr)
include HCU
theorem acts_walk (v : Value) (n : Nett) (to_ : Int) (vb : Value) (b : List UInt8) (i : Int) (w : World) (h : NetAt w w.heap.size v n) (hs : Seen w w.heap.size vb b) : Calls Try.prog 3 #[v, .int .i64 to_, vb, .int .i64 i] w fun e w' => e = .returned (.bool true) ∧ Below w.heap.size w w' := by
  by_cases hr : n.right
  · by_cases hi : i < 0
    · exact acts_no HAW w v vb n to_ i b h hs (.inr (.inr hi))
    · by_cases h5 : 500 < b.length
      · exact acts_no HAW w v vb n to_ i b h hs (.inr (.inl h5))
      · exact acts_yes HAW HTN.takes HDR HCO HSE HCU w v vb n to_ i b h hs hr (by omega) (by omega)
  · exact acts_no HAW w v vb n to_ i b h hs (.inl hr)
end

end Go.Proofs.Ythpbnjmhhkkkiaa
