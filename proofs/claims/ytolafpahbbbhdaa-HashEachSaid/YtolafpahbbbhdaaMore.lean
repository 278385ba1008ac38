/-
  What the walk of the law HashMore comes to.
-/
import Derived.Test.YtolafpahbbbhdaaTwo
import Derived.Below
import Derived.Laws.IdiomStrings
import Derived.Laws.Concat
namespace Go.Proofs.Ytolafpahbbbhdaa
open Go.RowKit

theorem conv_one (c : UInt8) (b : Nat) (W : World) (hc : W.cell? ⟨b, 0, none⟩ = some (.int .u8 (c.toNat : Int))) :
    (convert 29 9 (.slice (some ⟨b, 0, none⟩) 1 1)).run Try.prog W = .ok (.string ⟨#[c]⟩) W := by
  refine run_convert_bytes_back W 29 9 5 ⟨b, 0, none⟩ 1 [c] Try.underlying29 Try.underlying5 Try.underlying9 ?_
  intro j hj
  obtain rfl : j = 0 := by simpa using hj
  exact hc

theorem bytes_append (s x : ByteArray) : (s ++ x).data.toList = s.data.toList ++ x.data.toList := by
  rw [ByteArray.data_append, Array.toList_append]
theorem sum_is {s : ByteArray} {a : Nat} (hs : s.size ≤ maxLen) (h : fnv s.data.toList = a) (w : World) :
    Calls Try.prog 8 #[.string s] w fun e w' => e = .returned (.int .u64 (a : Int)) ∧ w = w' := h ▸ sum_any s w hs
theorem sum_more {s : ByteArray} {c : UInt8} {a x : Nat} (hs : s.size ≤ 5000) (h : fnv s.data.toList = a) (hx : step a c.toNat = x) (w : World) :
    Calls Try.prog 8 #[.string (s ++ ⟨#[c]⟩)] w fun e w' => e = .returned (.int .u64 (x : Int)) ∧ w = w' :=
  sum_is (by rw [ByteArray.size_append]; unfold maxLen; show s.size + 1 ≤ _; omega) (by rw [bytes_append, fnv_snoc, h, hx]) w

theorem ret_bool {a b : Bool} (h : a = b) : Ending.returned (.bool a) = .returned (.bool b) := by rw [h]
theorem two_no {a b x y : Nat} (h : a ≠ b) (h' : x ≠ y) : (((a : Int) == (b : Int)) == ((x : Int) == (y : Int))) = true := by
  rw [show ((a : Int) == (b : Int)) = false from beq_eq_false_iff_ne.2 (by omega), show ((x : Int) == (y : Int)) = false from beq_eq_false_iff_ne.2 (by omega)]
  rfl

theorem more_walk (s t : ByteArray) (c : UInt8) (w : World) (hs : s.size ≤ maxLen) (ht : t.size ≤ maxLen) :
    Calls Try.prog 6 #[.string s, .string t, .int .u8 (c.toNat : Int)] w fun e w' => e = .returned (.bool true) ∧ Below w.heap.size w w' := by
  by_cases h : 5000 < s.size
  · go_enter Try.func6, Try.ntmps6
    go_wp2_with (go_at_call 7; refine (awake_true _).mono ?_; rintro e w' ⟨rfl, rfl⟩)
    go_ret
    exact ⟨rfl, Below.refl _ _⟩
  · by_cases h' : 5000 < t.size
    · go_enter Try.func6, Try.ntmps6
      go_wp2_with (go_at_call 7; refine (awake_true _).mono ?_; rintro e w' ⟨rfl, rfl⟩)
      go_ret
      exact ⟨rfl, Below.refl _ _⟩
    · have k1 := conv_one c w.heap.size (w.alloc (.cells #[.int .u8 (c.toNat : Int)] 5)) (by go_simp)
      have k2 := conv_one c (w.heap.size + 1) ((w.alloc (.cells #[.int .u8 (c.toNat : Int)] 5)).alloc (.cells #[.int .u8 (c.toNat : Int)] 5)) (by go_simp)
      obtain ⟨a, ha⟩ : ∃ a, fnv s.data.toList = a := ⟨_, rfl⟩
      obtain ⟨b, hb⟩ : ∃ b, fnv t.data.toList = b := ⟨_, rfl⟩
      obtain ⟨x, hx⟩ : ∃ x, step a c.toNat = x := ⟨_, rfl⟩
      obtain ⟨y, hy⟩ : ∃ y, step b c.toNat = y := ⟨_, rfl⟩
      have A := Lib.hid (sum_is hs ha)
      have B := Lib.hid (sum_is ht hb)
      have X := Lib.hid (sum_more (c := c) (by omega) ha hx)
      have Y := Lib.hid (sum_more (c := c) (by omega) hb hy)
      have hab : a = b ↔ x = y := ⟨fun e => by rw [← hx, ← hy, e], fun e => step_inj_sum c (ha ▸ fnv_lt _) (hb ▸ fnv_lt _) (by rw [hx, hy, e])⟩
      clear ha hb hx hy
      by_cases e : a = b
      · obtain rfl := e
        obtain rfl := hab.1 rfl
        clear hab
        go_enter Try.func6, Try.ntmps6
        go_wp2_with (first | (go_at_call 7; refine (awake_true _).mono ?_; rintro e w' ⟨rfl, rfl⟩) | (go_at_call 8; (with_reducible refine (A.out _).mono ?_); rintro e w' ⟨rfl, rfl⟩) | (go_at_call 8; (with_reducible refine (B.out _).mono ?_); rintro e w' ⟨rfl, rfl⟩) | (go_at_call 8; (with_reducible refine (X.out _).mono ?_); rintro e w' ⟨rfl, rfl⟩) | (go_at_call 8; (with_reducible refine (Y.out _).mono ?_); rintro e w' ⟨rfl, rfl⟩))
        go_ret
        exact ⟨rfl, ((Below.refl _ _).alloc (Nat.le_refl _) _).alloc (by simp) _⟩
      · have e' : x ≠ y := fun h => e (hab.2 h)
        clear hab
        go_enter Try.func6, Try.ntmps6
        go_wp2_with (first | (go_at_call 7; refine (awake_true _).mono ?_; rintro e w' ⟨rfl, rfl⟩) | (go_at_call 8; (with_reducible refine (A.out _).mono ?_); rintro e w' ⟨rfl, rfl⟩) | (go_at_call 8; (with_reducible refine (B.out _).mono ?_); rintro e w' ⟨rfl, rfl⟩) | (go_at_call 8; (with_reducible refine (X.out _).mono ?_); rintro e w' ⟨rfl, rfl⟩) | (go_at_call 8; (with_reducible refine (Y.out _).mono ?_); rintro e w' ⟨rfl, rfl⟩))
        go_ret
        exact ⟨ret_bool (two_no e e'), ((Below.refl _ _).alloc (Nat.le_refl _) _).alloc (by simp) _⟩

theorem byte_of {n : Int} (h : (Lit.int .u8 n).wf = true) : ∃ c : UInt8, n = (c.toNat : Int) := by
  simp [Lit.wf, IntKind.min, IntKind.max, IntKind.signed, IntKind.bits] at h
  refine ⟨UInt8.ofNat n.toNat, ?_⟩
  rw [UInt8.toNat_ofNat']
  omega

theorem more_law (s t : ByteArray) (n : Int) (w : World) (hs : s.size ≤ maxLen) (ht : t.size ≤ maxLen) (hn : (Lit.int .u8 n).wf = true) :
    Calls Try.prog 6 #[.string s, .string t, .int .u8 n] w fun e w' => e = .returned (.bool true) ∧ Below w.heap.size w w' := by
  obtain ⟨c, rfl⟩ := byte_of hn
  exact more_walk s t c w hs ht

end Go.Proofs.Ytolafpahbbbhdaa
