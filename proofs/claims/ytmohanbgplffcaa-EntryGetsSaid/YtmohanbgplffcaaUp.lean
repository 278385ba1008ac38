/-
  The program's readings of a number, for those that call them; numbers up to a bound; truths.
-/
import Derived.Test.YtmohanbgplffcaaGet
namespace Go.Proofs.Ytmohanbgplffcaa
open Go.RowKit

theorem gotI_of {l : List UInt8} {p : Nat} {n : Int} {k : Nat} (h : geti (l.drop p) = some (n, k)) : gotI l p = .tuple #[.int .i64 n, .int .i64 ((p + k : Nat) : Int), .bool true] := by unfold gotI; rw [h]
theorem gotI_no {l : List UInt8} {p : Nat} (h : geti (l.drop p) = none) : gotI l p = .tuple #[.int .i64 0, .int .i64 0, .bool false] := by unfold gotI; rw [h]

section
variable {v : Value} {l : List UInt8} {B p : Nat} {n : Int} {k : Nat} (w : World) (h : Seen w B v l) (hp : p ≤ 4611686018427387904)
include h hp
theorem getint_some (hg : geti (l.drop p) = some (n, k)) : Calls Try.prog 17 #[v, .int .i64 p] w fun e w' => e = .returned (.tuple #[.int .i64 n, .int .i64 ((p + k : Nat) : Int), .bool true]) ∧ w = w' := by
  obtain ⟨A, c, rfl, hh⟩ := h.full
  rw [← gotI_of hg]
  exact getint_at A c l p w hh hp
theorem getint_none (hg : geti (l.drop p) = none) : Calls Try.prog 17 #[v, .int .i64 p] w fun e w' => e = .returned (.tuple #[.int .i64 0, .int .i64 0, .bool false]) ∧ w = w' := by
  obtain ⟨A, c, rfl, hh⟩ := h.full
  rw [← gotI_no hg]
  exact getint_at A c l p w hh hp
end

/-- A number from 0 to a bound that stands in bytes. -/
def upTo (most : Int) (L : List UInt8) : Option (Int × Nat) := match geti L with
  | some (n, k) => if 0 ≤ n ∧ n ≤ most then some (n, k) else none
  | none => none
theorem upTo_is {most : Int} {L : List UInt8} {n : Int} {k : Nat} (h : upTo most L = some (n, k)) : geti L = some (n, k) ∧ 0 ≤ n ∧ n ≤ most := by
  unfold upTo at h
  split at h
  · rename_i n' k' hg
    split at h
    · rename_i hb
      obtain ⟨rfl, rfl⟩ := Prod.mk.inj (Option.some.inj h)
      exact ⟨hg, hb⟩
    · cases h
  · cases h
theorem upTo_no {most : Int} {L : List UInt8} (h : upTo most L = none) : geti L = none ∨ ∃ n k, geti L = some (n, k) ∧ (n < 0 ∨ most < n) := by
  unfold upTo at h
  split at h
  · rename_i n' k' hg
    split at h
    · cases h
    · exact .inr ⟨n', k', hg, by omega⟩
  · exact .inl ‹_›

set_option maxRecDepth 100000 in
theorem upto_some {v : Value} {l : List UInt8} {B p : Nat} {n : Int} {k : Nat} {most : Int} (w : World) (h : Seen w B v l) (hp : p ≤ 4611686018427387904) (hg : upTo most (l.drop p) = some (n, k)) :
    Calls Try.prog 31 #[v, .int .i64 p, .int .i64 most] w fun e w' => e = .returned (.tuple #[.int .i64 n, .int .i64 ((p + k : Nat) : Int), .bool true]) ∧ w = w' := by
  obtain ⟨h1, h2, h3⟩ := upTo_is hg
  have R := Lib.hid (fun w' (h' : Seen w' B v l) => getint_some w' h' hp h1)
  have HS := Lib.hid h
  obtain ⟨q, hq⟩ : ∃ q : Nat, q = p + k := ⟨_, rfl⟩
  rw [← hq] at R ⊢
  clear hg h1 h hq
  go_enter Try.func31, Try.ntmps31
  go_wp2_with (go_at_call 17; (with_reducible refine (R.out _ HS.out).mono ?_); rintro e w' ⟨rfl, rfl⟩)
  go_ret3
  exact ⟨rfl, rfl⟩

set_option maxRecDepth 100000 in
theorem upto_none {v : Value} {l : List UInt8} {B p : Nat} {most : Int} (w : World) (h : Seen w B v l) (hp : p ≤ 4611686018427387904) (hg : upTo most (l.drop p) = none) :
    Calls Try.prog 31 #[v, .int .i64 p, .int .i64 most] w fun e w' => e = .returned (.tuple #[.int .i64 0, .int .i64 0, .bool false]) ∧ w = w' := by
  rcases upTo_no hg with h1 | ⟨n, k, h1, h2⟩
  · have R := Lib.hid (fun w' (h' : Seen w' B v l) => getint_none w' h' hp h1)
    have HS := Lib.hid h
    clear hg h1 h
    go_enter Try.func31, Try.ntmps31
    go_wp2_with (go_at_call 17; (with_reducible refine (R.out _ HS.out).mono ?_); rintro e w' ⟨rfl, rfl⟩)
    go_ret3
    exact ⟨rfl, rfl⟩
  · have R := Lib.hid (fun w' (h' : Seen w' B v l) => getint_some w' h' hp h1)
    have HS := Lib.hid h
    obtain ⟨q, hq⟩ : ∃ q : Nat, q = p + k := ⟨_, rfl⟩
    rw [← hq] at R
    clear hg h1 h hq
    by_cases hn : n < 0
    · clear h2
      go_enter Try.func31, Try.ntmps31
      go_wp2_with (go_at_call 17; (with_reducible refine (R.out _ HS.out).mono ?_); rintro e w' ⟨rfl, rfl⟩)
      go_ret3
      exact ⟨rfl, rfl⟩
    · have h2' : most < n := by omega
      have hn' : 0 ≤ n := by omega
      clear h2 hn
      go_enter Try.func31, Try.ntmps31
      go_wp2_with (go_at_call 17; (with_reducible refine (R.out _ HS.out).mono ?_); rintro e w' ⟨rfl, rfl⟩)
      go_ret3
      exact ⟨rfl, rfl⟩

/-- What a truth's reading comes to. -/
def gotB (l : List UInt8) (p : Nat) : Option UInt8 := match l[p]? with
  | some c => if c.toNat ≤ 1 then some c else none
  | none => none

theorem one_beq (a : Nat) : ((a : Int) == 1) = decide (a = 1) := by
  by_cases h : a = 1
  · subst h; rfl
  · rw [decide_eq_false h, beq_eq_false_iff_ne]; omega

set_option maxRecDepth 100000 in
theorem getbool_some {v : Value} {l : List UInt8} {B p : Nat} (w : World) (h : Seen w B v l) (hp : p < l.length) (hc : l[p].toNat ≤ 1) :
    Calls Try.prog 21 #[v, .int .i64 p] w fun e w' => e = .returned (.tuple #[.bool (decide (l[p].toNat = 1)), .int .i64 ((p + 1 : Nat) : Int), .bool true]) ∧ w = w' := by
  obtain ⟨A, c, rfl, h⟩ := h
  have hl : l.length ≤ maxLen := Nat.le_trans h.1 h.2.1
  unfold maxLen at hl
  obtain ⟨b, off, rfl, r1⟩ := h.row (by omega)
  have e1 := r1 p hp
  have hc' : (l[p].toNat : Int) ≤ 1 := by omega
  have HD := Lib.hid (one_beq l[p].toNat)
  clear h r1 hc
  go_enter Try.func21, Try.ntmps21
  go_wp2
  go_ret3
  exact ⟨by rw [← HD.out]; rfl, rfl⟩

set_option maxRecDepth 100000 in
theorem getbool_none {v : Value} {l : List UInt8} {B p : Nat} (w : World) (h : Seen w B v l) (hp : (hp : p < l.length) → 1 < l[p].toNat) :
    Calls Try.prog 21 #[v, .int .i64 p] w fun e w' => e = .returned (.tuple #[.bool false, .int .i64 0, .bool false]) ∧ w = w' := by
  obtain ⟨A, c, rfl, h⟩ := h
  have hl : l.length ≤ maxLen := Nat.le_trans h.1 h.2.1
  unfold maxLen at hl
  by_cases hpl : p < l.length
  · obtain ⟨b, off, rfl, r1⟩ := h.row (by omega)
    have e1 := r1 p hpl
    have hc' : (1 : Int) < (l[p].toNat : Int) := by have := hp hpl; omega
    clear h r1 hp
    go_enter Try.func21, Try.ntmps21
    go_wp2
    go_ret3
    exact ⟨rfl, rfl⟩
  · clear h hp
    go_enter Try.func21, Try.ntmps21
    go_wp2
    go_ret3
    exact ⟨rfl, rfl⟩

end Go.Proofs.Ytmohanbgplffcaa
