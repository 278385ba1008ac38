/-
  Readings of texts, by the program.
-/
import Derived.Test.YtmohanbgplffcaaUp
namespace Go.Proofs.Ytmohanbgplffcaa
open Go.RowKit

theorem conv_at {w : World} {b off : Nat} {l : List UInt8} (h : Row w b off l) (q n c' : Nat) (hq : q + n ≤ l.length) :
    (convert 22 9 (.slice (some ⟨b, off + q, none⟩) n c')).run Try.prog w = .ok (.string ⟨((l.drop q).take n).toArray⟩) w := by
  have hr := (h.drop q).take n
  have hl : ((l.drop q).take n).length = n := by rw [List.length_take, List.length_drop]; omega
  have := run_convert_bytes_back (P := Try.prog) w 22 9 5 ⟨b, off + q, none⟩ c' ((l.drop q).take n) Try.underlying22 Try.underlying5 Try.underlying9 (fun j hj => by rw [Addr.add_lit]; exact hr j hj)
  rw [hl] at this
  exact this

/-- the text of n bytes at q -/
def cutS (l : List UInt8) (q n : Nat) : ByteArray := ⟨((l.drop q).take n).toArray⟩

theorem row_of {w : World} {B : Nat} {A : Option Addr} {c : Nat} {l : List UInt8} {p : Nat} {n : Int} {k : Nat} (h : At w B A c l) (hg : geti (l.drop p) = some (n, k)) : ∃ b off, A = some ⟨b, off, none⟩ ∧ Row w b off l := by
  have h1 := (geti_is hg).2.1
  have h2 := (geti_is hg).2.2.1
  rw [List.length_drop] at h2
  exact h.row (by omega)

section
variable {v : Value} {l : List UInt8} {B p : Nat} {n : Nat} {k : Nat} (w : World) (h : Seen w B v l) (hp : p ≤ 4611686018427387904)
include h hp

set_option maxRecDepth 100000 in
theorem gettext_some (hg : upTo 65536 (l.drop p) = some ((n : Int), k)) (hn : p + k + n ≤ l.length) :
    Calls Try.prog 19 #[v, .int .i64 p] w fun e w' => e = .returned (.tuple #[.string (cutS l (p + k) n), .int .i64 ((p + k + n : Nat) : Int), .bool true]) ∧ w = w' := by
  have h0 := h
  obtain ⟨A, c, rfl, hA⟩ := h
  obtain ⟨b, off, rfl, hr⟩ := row_of hA (upTo_is hg).1
  have R := Lib.hid (fun w' (h' : Seen w' B (.slice (some ⟨b, off, none⟩) l.length c) l) => upto_some w' h' hp hg)
  have hn6 := (upTo_is hg).2.2
  have hlc := hA.1
  have hcm := hA.2.1
  unfold maxLen at hcm
  obtain ⟨q, hq⟩ : ∃ q : Nat, q = p + k := ⟨_, rfl⟩
  rw [← hq] at R hn ⊢
  have HS := Lib.hid h0
  by_cases hqc : q < c
  · have hconv := conv_at hr q n (c - q) hn
    have HC : Hid ((⟨((l.drop q).take n).toArray⟩ : ByteArray) = cutS l q n) := rfl
    generalize (⟨((l.drop q).take n).toArray⟩ : ByteArray) = S at hconv HC
    clear hg h0 hq hA hr
    go_enter Try.func19, Try.ntmps19
    go_wp2_with (go_at_call 31; (with_reducible refine (R.out _ HS.out).mono ?_); rintro e w' ⟨rfl, rfl⟩)
    go_ret3
    exact ⟨by rw [← HC.out]; rfl, rfl⟩
  · obtain rfl : q = c := by omega
    obtain rfl : n = 0 := by omega
    have hconv := conv_at hr 0 0 0 (Nat.zero_le _)
    have HC : Hid ((⟨((l.drop 0).take 0).toArray⟩ : ByteArray) = cutS l q 0) := by
      show _ = _
      unfold cutS
      rw [List.take_zero, List.take_zero]
    generalize (⟨((l.drop 0).take 0).toArray⟩ : ByteArray) = S at hconv HC
    rw [Nat.add_zero] at hconv
    clear hg h0 hq hA hr hqc
    go_enter Try.func19, Try.ntmps19
    go_wp2_with (go_at_call 31; (with_reducible refine (R.out _ HS.out).mono ?_); rintro e w' ⟨rfl, rfl⟩)
    go_ret3
    exact ⟨by rw [← HC.out]; rfl, rfl⟩

/-- nothing stands there that is a text -/
def NoText (l : List UInt8) (p : Nat) : Prop := upTo 65536 (l.drop p) = none ∨ ∃ n k : Nat, upTo 65536 (l.drop p) = some ((n : Int), k) ∧ l.length < p + k + n

set_option maxRecDepth 100000 in
theorem gettext_none (hg : NoText l p) :
    Calls Try.prog 19 #[v, .int .i64 p] w fun e w' => e = .returned (.tuple #[.string ⟨#[]⟩, .int .i64 0, .bool false]) ∧ w = w' := by
  rcases hg with hg | ⟨n, k, hg, hn⟩
  · have R := Lib.hid (fun w' (h' : Seen w' B v l) => upto_none w' h' hp hg)
    have HS := Lib.hid h
    clear hg
    go_enter Try.func19, Try.ntmps19
    go_wp2_with (go_at_call 31; (with_reducible refine (R.out _ HS.out).mono ?_); rintro e w' ⟨rfl, rfl⟩)
    go_ret3
    exact ⟨rfl, rfl⟩
  · have h0 := h
    obtain ⟨A, c, rfl, hA⟩ := h
    have R := Lib.hid (fun w' (h' : Seen w' B (.slice A l.length c) l) => upto_some w' h' hp hg)
    have hn6 := (upTo_is hg).2.2
    have hkl := (geti_is (upTo_is hg).1).2.2.1
    rw [List.length_drop] at hkl
    have hk0 := (geti_is (upTo_is hg).1).2.1
    have hlc := hA.1
    have hcm := hA.2.1
    unfold maxLen at hcm
    obtain ⟨q, hq⟩ : ∃ q : Nat, q = p + k := ⟨_, rfl⟩
    have hql : q ≤ l.length := by omega
    rw [← hq] at R hn
    have HS := Lib.hid h0
    clear hg h0 hq hA hkl hk0
    go_enter Try.func19, Try.ntmps19
    go_wp2_with (go_at_call 31; (with_reducible refine (R.out _ HS.out).mono ?_); rintro e w' ⟨rfl, rfl⟩)
    go_ret3
    exact ⟨rfl, rfl⟩

end
end Go.Proofs.Ytmohanbgplffcaa
