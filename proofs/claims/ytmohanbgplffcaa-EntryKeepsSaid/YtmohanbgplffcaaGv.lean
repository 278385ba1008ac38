/-
  Readings of versions, by the program.
-/
import Derived.Test.YtmohanbgplffcaaUp
import Derived.Test.YtmohanbgplffcaaVerm
namespace Go.Proofs.Ytmohanbgplffcaa
open Go.RowKit Flo

def M40 : Int := 1099511627776
theorem in_of {n : Int} (h : 0 ≤ n ∧ n ≤ M40) : In n := ⟨h.1, by have := h.2; unfold M40 at this; omega⟩
theorem fitsB_of {n : Int} (h : 0 ≤ n ∧ n ≤ M40) : fitsB n = true := by
  unfold fitsB; rw [decide_eq_true h.1, decide_eq_true (show n ≤ 1099511627776 from h.2)]; rfl
theorem fitsB_no {n : Int} (h : n < 0 ∨ M40 < n) : fitsB n = false := by
  unfold fitsB
  unfold M40 at h
  rcases h with h | h
  · rw [decide_eq_false (by omega)]; rfl
  · rw [decide_eq_false (show ¬ n ≤ 1099511627776 by omega)]; exact Bool.and_false _

/-- nothing stands there that is a version -/
def NoVer (l : List UInt8) (p : Nat) : Prop := upTo M40 (l.drop p) = none ∨ ∃ e k, upTo M40 (l.drop p) = some (e, k) ∧ upTo M40 (l.drop (p + k)) = none

theorem next_le {l : List UInt8} {p j : Nat} {a : Int} (hl : l.length ≤ 4611686018427387904) (hg : geti (l.drop p) = some (a, j)) : p + j ≤ 4611686018427387904 := by
  have h1 := (geti_is hg).2.2.1
  have h2 := (geti_is hg).2.1
  rw [List.length_drop] at h1
  omega

section
variable {v : Value} {l : List UInt8} {B p : Nat} {a b : Int} {j k : Nat} (w : World) (h : Seen w B v l) (hp : p ≤ 4611686018427387904) (hl : l.length ≤ 4611686018427387904)
include h hp hl

set_option maxRecDepth 100000 in
theorem getver_some (hg : upTo M40 (l.drop p) = some (a, j)) (hg2 : upTo M40 (l.drop (p + j)) = some (b, k)) :
    Calls Try.prog 15 #[v, .int .i64 p] w fun e w' => e = .returned (.tuple #[ver a b, .int .i64 ((p + j + k : Nat) : Int), .bool true]) ∧ w = w' := by
  have R1 := Lib.hid (fun w' (h' : Seen w' B v l) => upto_some w' h' hp hg)
  have hql := next_le hl (upTo_is hg).1
  obtain ⟨q, hq⟩ : ∃ q : Nat, q = p + j := ⟨_, rfl⟩
  rw [← hq] at R1 hg2 hql ⊢
  have R2 := Lib.hid (fun w' (h' : Seen w' B v l) => upto_some w' h' hql hg2)
  have HI := Lib.hid (in_of (upTo_is hg).2)
  have HI2 := Lib.hid (in_of (upTo_is hg2).2)
  have HS := Lib.hid h
  unfold M40 at R1 R2
  clear hg hg2 hq
  go_enter Try.func15, Try.ntmps15
  go_wp2_with (first
    | (go_at_call 31; (with_reducible refine (R1.out _ HS.out).mono ?_); rintro e w' ⟨rfl, rfl⟩)
    | (go_at_call 31; (with_reducible refine (R2.out _ HS.out).mono ?_); rintro e w' ⟨rfl, rfl⟩)
    | (go_at_call 32; (with_reducible refine (make_any _ _ _ HI.out HI2.out).mono ?_); rintro e w' ⟨rfl, rfl⟩))
  go_ret3
  exact ⟨rfl, rfl⟩

set_option maxRecDepth 100000 in
theorem getver_none (hg : NoVer l p) :
    Calls Try.prog 15 #[v, .int .i64 p] w fun e w' => e = .returned (.tuple #[.complex .f64 0 0, .int .i64 0, .bool false]) ∧ w = w' := by
  have HS := Lib.hid h
  rcases hg with hg | ⟨a, j, hg, hg2⟩
  · have R1 := Lib.hid (fun w' (h' : Seen w' B v l) => upto_none w' h' hp hg)
    unfold M40 at R1
    clear hg
    go_enter Try.func15, Try.ntmps15
    go_wp2_with (go_at_call 31; (with_reducible refine (R1.out _ HS.out).mono ?_); rintro e w' ⟨rfl, rfl⟩)
    go_ret3
    exact ⟨rfl, rfl⟩
  · have R1 := Lib.hid (fun w' (h' : Seen w' B v l) => upto_some w' h' hp hg)
    have hql := next_le hl (upTo_is hg).1
    obtain ⟨q, hq⟩ : ∃ q : Nat, q = p + j := ⟨_, rfl⟩
    rw [← hq] at R1 hg2 hql
    have R2 := Lib.hid (fun w' (h' : Seen w' B v l) => upto_none w' h' hql hg2)
    unfold M40 at R1 R2
    clear hg hg2 hq
    go_enter Try.func15, Try.ntmps15
    go_wp2_with (first
      | (go_at_call 31; (with_reducible refine (R1.out _ HS.out).mono ?_); rintro e w' ⟨rfl, rfl⟩)
      | (go_at_call 31; (with_reducible refine (R2.out _ HS.out).mono ?_); rintro e w' ⟨rfl, rfl⟩))
    go_ret3
    exact ⟨rfl, rfl⟩

end
end Go.Proofs.Ytmohanbgplffcaa
