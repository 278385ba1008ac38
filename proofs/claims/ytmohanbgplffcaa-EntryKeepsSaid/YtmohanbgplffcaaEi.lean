/-
  What entry.Get comes to (made by entry-get-gen.py).
-/
import Derived.Test.YtmohanbgplffcaaEh
import Derived.Deep.RegionHeld3
namespace Go.Proofs.Ytmohanbgplffcaa
open Go.RowKit Flo
attribute [local go_sem ↓] Go.wp_at_zero Go.wp_at_succ

set_option maxRecDepth 100000 in
set_option maxHeartbeats 4000000 in
theorem getentry_any (w : World) (v : Value) (l : List UInt8) (p : Nat) (hv : Seen w w.heap.size v l) (hl : l.length ≤ 1000000000) (hp : p ≤ 1000000000) :
    Calls Try.prog 6 #[v, .int .i64 (p : Int)] w fun e w' => e = .returned (gotS KE l p) ∧ Below w.heap.size w w' := by
  have HV := Lib.hid hv
  obtain ⟨A, c, rfl, hA⟩ := hv
  have S0 := St.start w (.slice A l.length c) l p KE [.complex .f64 0 0, .int .i64 0, .string ⟨#[]⟩, .string ⟨#[]⟩, .bool false, .bool false, .int .i64 0, .int .i64 0, .int .i64 0, .string ⟨#[]⟩, .bool false] 27 42 rfl
  have H0 := Lib.hid (heldF_made w [.complex .f64 0 0, .int .i64 0, .string ⟨#[]⟩, .string ⟨#[]⟩, .bool false, .bool false, .int .i64 0, .int .i64 0, .int .i64 0, .string ⟨#[]⟩, .bool false] 27)
  have hb0 : Hid (Below w.heap.size w (w.alloc (.cells #[.complex .f64 0 0, .int .i64 0, .string ⟨#[]⟩, .string ⟨#[]⟩, .bool false, .bool false, .int .i64 0, .int .i64 0, .int .i64 0, .string ⟨#[]⟩, .bool false] 27))) := bal _ _
  have W0 : Hid (w.heap.size + 1 = (w.alloc (.cells #[.complex .f64 0 0, .int .i64 0, .string ⟨#[]⟩, .string ⟨#[]⟩, .bool false, .bool false, .int .i64 0, .int .i64 0, .int .i64 0, .string ⟨#[]⟩, .bool false] 27)).heap.size) := by show _ = _; simp
  obtain ⟨w0, hw0⟩ : ∃ w0, w0 = (w.alloc (.cells #[.complex .f64 0 0, .int .i64 0, .string ⟨#[]⟩, .string ⟨#[]⟩, .bool false, .bool false, .int .i64 0, .int .i64 0, .int .i64 0, .string ⟨#[]⟩, .bool false] 27)) := ⟨_, rfl⟩
  rw [← hw0] at H0 hb0 W0
  have S0' : St l p (.slice A l.length c) (w.heap.size + 1 + 1) (w.heap.size + 1) [] [.V, .I, .T, .T, .B, .B, .I, .I, .I, .T, .B] w0 (((w.alloc (.cells #[.complex .f64 0 0, .int .i64 0, .string ⟨#[]⟩, .string ⟨#[]⟩, .bool false, .bool false, .int .i64 0, .int .i64 0, .int .i64 0, .string ⟨#[]⟩, .bool false] 27)).alloc (.cells #[.complex .f64 0 0, .int .i64 0, .string ⟨#[]⟩, .string ⟨#[]⟩, .bool false, .bool false, .int .i64 0, .int .i64 0, .int .i64 0, .string ⟨#[]⟩, .bool false] 27)).alloc (.cells #[.slice A l.length c, .int .i64 (p : Int), .bool true] 42)) := by rw [hw0]; exact S0
  have HS := Lib.hid ((HV.out.on hb0.out))
  have G1 : Hid (w0.heap.size ≤ w.heap.size + 1) := Nat.le_of_eq W0.out.symm
  have G2 : Hid (w0.heap.size ≤ w.heap.size + 1 + 1) := Nat.le_trans G1.out (Nat.le_succ _)
  have G3 : Hid (w.heap.size + 1 + 1 ≠ w.heap.size + 1) := by show _ ≠ _; omega
  have R1 : Hid (∀ W, St l p (.slice A l.length c) (w.heap.size + 1 + 1) (w.heap.size + 1) [] [.V, .I, .T, .T, .B, .B, .I, .I, .I, .T, .B] w0 W → Calls Try.prog 14 #[.pointer (some ⟨w.heap.size + 1 + 1, 0, none⟩), .pointer (some ⟨w.heap.size + 1, 0, none⟩), .func (.func 15) #[] #[]] W fun e W' => e = .returned (.tuple #[]) ∧ St l p (.slice A l.length c) (w.heap.size + 1 + 1) (w.heap.size + 1) [.V] [.I, .T, .T, .B, .B, .I, .I, .I, .T, .B] w0 W') := fun W h => St.step (K := .V) (ks := []) (rest := [.I, .T, .T, .B, .B, .I, .I, .I, .T, .B]) (W := W) (n := 0) reader_V HS.out hl hp G2.out G1.out G3.out h rfl
  have R2 : Hid (∀ W, St l p (.slice A l.length c) (w.heap.size + 1 + 1) (w.heap.size + 1) [.V] [.I, .T, .T, .B, .B, .I, .I, .I, .T, .B] w0 W → Calls Try.prog 16 #[.pointer (some ⟨w.heap.size + 1 + 1, 0, none⟩), .pointer (some ⟨w.heap.size + 1, 1, none⟩), .func (.func 17) #[] #[]] W fun e W' => e = .returned (.tuple #[]) ∧ St l p (.slice A l.length c) (w.heap.size + 1 + 1) (w.heap.size + 1) [.V, .I] [.T, .T, .B, .B, .I, .I, .I, .T, .B] w0 W') := fun W h => St.step (K := .I) (ks := [.V]) (rest := [.T, .T, .B, .B, .I, .I, .I, .T, .B]) (W := W) (n := 1) reader_I HS.out hl hp G2.out G1.out G3.out h rfl
  have R3 : Hid (∀ W, St l p (.slice A l.length c) (w.heap.size + 1 + 1) (w.heap.size + 1) [.V, .I] [.T, .T, .B, .B, .I, .I, .I, .T, .B] w0 W → Calls Try.prog 18 #[.pointer (some ⟨w.heap.size + 1 + 1, 0, none⟩), .pointer (some ⟨w.heap.size + 1, 2, none⟩), .func (.func 19) #[] #[]] W fun e W' => e = .returned (.tuple #[]) ∧ St l p (.slice A l.length c) (w.heap.size + 1 + 1) (w.heap.size + 1) [.V, .I, .T] [.T, .B, .B, .I, .I, .I, .T, .B] w0 W') := fun W h => St.step (K := .T) (ks := [.V, .I]) (rest := [.T, .B, .B, .I, .I, .I, .T, .B]) (W := W) (n := 2) reader_T HS.out hl hp G2.out G1.out G3.out h rfl
  have R4 : Hid (∀ W, St l p (.slice A l.length c) (w.heap.size + 1 + 1) (w.heap.size + 1) [.V, .I, .T] [.T, .B, .B, .I, .I, .I, .T, .B] w0 W → Calls Try.prog 18 #[.pointer (some ⟨w.heap.size + 1 + 1, 0, none⟩), .pointer (some ⟨w.heap.size + 1, 3, none⟩), .func (.func 19) #[] #[]] W fun e W' => e = .returned (.tuple #[]) ∧ St l p (.slice A l.length c) (w.heap.size + 1 + 1) (w.heap.size + 1) [.V, .I, .T, .T] [.B, .B, .I, .I, .I, .T, .B] w0 W') := fun W h => St.step (K := .T) (ks := [.V, .I, .T]) (rest := [.B, .B, .I, .I, .I, .T, .B]) (W := W) (n := 3) reader_T HS.out hl hp G2.out G1.out G3.out h rfl
  have R5 : Hid (∀ W, St l p (.slice A l.length c) (w.heap.size + 1 + 1) (w.heap.size + 1) [.V, .I, .T, .T] [.B, .B, .I, .I, .I, .T, .B] w0 W → Calls Try.prog 20 #[.pointer (some ⟨w.heap.size + 1 + 1, 0, none⟩), .pointer (some ⟨w.heap.size + 1, 4, none⟩), .func (.func 21) #[] #[]] W fun e W' => e = .returned (.tuple #[]) ∧ St l p (.slice A l.length c) (w.heap.size + 1 + 1) (w.heap.size + 1) [.V, .I, .T, .T, .B] [.B, .I, .I, .I, .T, .B] w0 W') := fun W h => St.step (K := .B) (ks := [.V, .I, .T, .T]) (rest := [.B, .I, .I, .I, .T, .B]) (W := W) (n := 4) reader_B HS.out hl hp G2.out G1.out G3.out h rfl
  have R6 : Hid (∀ W, St l p (.slice A l.length c) (w.heap.size + 1 + 1) (w.heap.size + 1) [.V, .I, .T, .T, .B] [.B, .I, .I, .I, .T, .B] w0 W → Calls Try.prog 20 #[.pointer (some ⟨w.heap.size + 1 + 1, 0, none⟩), .pointer (some ⟨w.heap.size + 1, 5, none⟩), .func (.func 21) #[] #[]] W fun e W' => e = .returned (.tuple #[]) ∧ St l p (.slice A l.length c) (w.heap.size + 1 + 1) (w.heap.size + 1) [.V, .I, .T, .T, .B, .B] [.I, .I, .I, .T, .B] w0 W') := fun W h => St.step (K := .B) (ks := [.V, .I, .T, .T, .B]) (rest := [.I, .I, .I, .T, .B]) (W := W) (n := 5) reader_B HS.out hl hp G2.out G1.out G3.out h rfl
  have R7 : Hid (∀ W, St l p (.slice A l.length c) (w.heap.size + 1 + 1) (w.heap.size + 1) [.V, .I, .T, .T, .B, .B] [.I, .I, .I, .T, .B] w0 W → Calls Try.prog 16 #[.pointer (some ⟨w.heap.size + 1 + 1, 0, none⟩), .pointer (some ⟨w.heap.size + 1, 6, none⟩), .func (.func 17) #[] #[]] W fun e W' => e = .returned (.tuple #[]) ∧ St l p (.slice A l.length c) (w.heap.size + 1 + 1) (w.heap.size + 1) [.V, .I, .T, .T, .B, .B, .I] [.I, .I, .T, .B] w0 W') := fun W h => St.step (K := .I) (ks := [.V, .I, .T, .T, .B, .B]) (rest := [.I, .I, .T, .B]) (W := W) (n := 6) reader_I HS.out hl hp G2.out G1.out G3.out h rfl
  have R8 : Hid (∀ W, St l p (.slice A l.length c) (w.heap.size + 1 + 1) (w.heap.size + 1) [.V, .I, .T, .T, .B, .B, .I] [.I, .I, .T, .B] w0 W → Calls Try.prog 16 #[.pointer (some ⟨w.heap.size + 1 + 1, 0, none⟩), .pointer (some ⟨w.heap.size + 1, 7, none⟩), .func (.func 17) #[] #[]] W fun e W' => e = .returned (.tuple #[]) ∧ St l p (.slice A l.length c) (w.heap.size + 1 + 1) (w.heap.size + 1) [.V, .I, .T, .T, .B, .B, .I, .I] [.I, .T, .B] w0 W') := fun W h => St.step (K := .I) (ks := [.V, .I, .T, .T, .B, .B, .I]) (rest := [.I, .T, .B]) (W := W) (n := 7) reader_I HS.out hl hp G2.out G1.out G3.out h rfl
  have R9 : Hid (∀ W, St l p (.slice A l.length c) (w.heap.size + 1 + 1) (w.heap.size + 1) [.V, .I, .T, .T, .B, .B, .I, .I] [.I, .T, .B] w0 W → Calls Try.prog 16 #[.pointer (some ⟨w.heap.size + 1 + 1, 0, none⟩), .pointer (some ⟨w.heap.size + 1, 8, none⟩), .func (.func 17) #[] #[]] W fun e W' => e = .returned (.tuple #[]) ∧ St l p (.slice A l.length c) (w.heap.size + 1 + 1) (w.heap.size + 1) [.V, .I, .T, .T, .B, .B, .I, .I, .I] [.T, .B] w0 W') := fun W h => St.step (K := .I) (ks := [.V, .I, .T, .T, .B, .B, .I, .I]) (rest := [.T, .B]) (W := W) (n := 8) reader_I HS.out hl hp G2.out G1.out G3.out h rfl
  have R10 : Hid (∀ W, St l p (.slice A l.length c) (w.heap.size + 1 + 1) (w.heap.size + 1) [.V, .I, .T, .T, .B, .B, .I, .I, .I] [.T, .B] w0 W → Calls Try.prog 18 #[.pointer (some ⟨w.heap.size + 1 + 1, 0, none⟩), .pointer (some ⟨w.heap.size + 1, 9, none⟩), .func (.func 19) #[] #[]] W fun e W' => e = .returned (.tuple #[]) ∧ St l p (.slice A l.length c) (w.heap.size + 1 + 1) (w.heap.size + 1) [.V, .I, .T, .T, .B, .B, .I, .I, .I, .T] [.B] w0 W') := fun W h => St.step (K := .T) (ks := [.V, .I, .T, .T, .B, .B, .I, .I, .I]) (rest := [.B]) (W := W) (n := 9) reader_T HS.out hl hp G2.out G1.out G3.out h rfl
  have R11 : Hid (∀ W, St l p (.slice A l.length c) (w.heap.size + 1 + 1) (w.heap.size + 1) [.V, .I, .T, .T, .B, .B, .I, .I, .I, .T] [.B] w0 W → Calls Try.prog 20 #[.pointer (some ⟨w.heap.size + 1 + 1, 0, none⟩), .pointer (some ⟨w.heap.size + 1, 10, none⟩), .func (.func 21) #[] #[]] W fun e W' => e = .returned (.tuple #[]) ∧ St l p (.slice A l.length c) (w.heap.size + 1 + 1) (w.heap.size + 1) [.V, .I, .T, .T, .B, .B, .I, .I, .I, .T, .B] [] w0 W') := fun W h => St.step (K := .B) (ks := [.V, .I, .T, .T, .B, .B, .I, .I, .I, .T]) (rest := []) (W := W) (n := 10) reader_B HS.out hl hp G2.out G1.out G3.out h rfl
  clear hA hw0 S0
  go_enter Try.func6, Try.ntmps6
  go_wp2_with (first
    | (go_at_call 14; (refine (R1.out _ S0').mono ?_); rintro e w1 ⟨rfl, S1⟩)
    | (go_at_call 16; (with_reducible refine (R2.out _ S1).mono ?_); rintro e w2 ⟨rfl, S2⟩)
    | (go_at_call 18; (with_reducible refine (R3.out _ S2).mono ?_); rintro e w3 ⟨rfl, S3⟩)
    | (go_at_call 18; (with_reducible refine (R4.out _ S3).mono ?_); rintro e w4 ⟨rfl, S4⟩)
    | (go_at_call 20; (with_reducible refine (R5.out _ S4).mono ?_); rintro e w5 ⟨rfl, S5⟩)
    | (go_at_call 20; (with_reducible refine (R6.out _ S5).mono ?_); rintro e w6 ⟨rfl, S6⟩)
    | (go_at_call 16; (with_reducible refine (R7.out _ S6).mono ?_); rintro e w7 ⟨rfl, S7⟩)
    | (go_at_call 16; (with_reducible refine (R8.out _ S7).mono ?_); rintro e w8 ⟨rfl, S8⟩)
    | (go_at_call 16; (with_reducible refine (R9.out _ S8).mono ?_); rintro e w9 ⟨rfl, S9⟩)
    | (go_at_call 18; (with_reducible refine (R10.out _ S9).mono ?_); rintro e w10 ⟨rfl, S10⟩))
  go_at_call 20
  refine (R11.out _ S10).mono ?_
  rintro e wn ⟨rfl, hb, hst⟩
  clear R1 R2 R3 R4 R5 R6 R7 R8 R9 R10 R11 S1 S2 S3 S4 S5 S6 S7 S8 S9 S10 S0'
  have HB := Lib.hid (bt hb0.out hb)
  have HZ := H0.out.on hb
  clear hb hb0 H0 G1 G2 W0 HS
  rcases hst with ⟨fs, k, hg, hr, he⟩ | ⟨hg, x, vs, hlen, hr, he⟩
  · have HG := Lib.hid hg
    have hk := (gets_is hg).2.2.1
    obtain ⟨vr, kd, key, val, wt, dl, se, nu, co, rs, hs, rfl⟩ := kinds_en hk
    have C1 := hr.held.all
    have C2 := he.held.all
    simp only [cellsAre, Nat.zero_add, Nat.reduceAdd] at C1
    simp only [List.map_cons, List.map_nil, List.append_nil, Fld.val, cellsAre, Nat.zero_add, Nat.reduceAdd] at C2
    have HR : Hid (gotS KE l p = _) := gotS_some hg
    have GV := Lib.hid HV
    have Z0 : wn.cell? ⟨w.heap.size, 0, none⟩ = some (.complex .f64 0 0) ∧ wn.frozen? ⟨w.heap.size, 0, none⟩ = false := HZ.2 0 (by simp)
    have Z1 : wn.cell? ⟨w.heap.size, 1, none⟩ = some (.int .i64 0) ∧ wn.frozen? ⟨w.heap.size, 1, none⟩ = false := HZ.2 1 (by simp)
    have Z2 : wn.cell? ⟨w.heap.size, 2, none⟩ = some (.string ⟨#[]⟩) ∧ wn.frozen? ⟨w.heap.size, 2, none⟩ = false := HZ.2 2 (by simp)
    have Z3 : wn.cell? ⟨w.heap.size, 3, none⟩ = some (.string ⟨#[]⟩) ∧ wn.frozen? ⟨w.heap.size, 3, none⟩ = false := HZ.2 3 (by simp)
    have Z4 : wn.cell? ⟨w.heap.size, 4, none⟩ = some (.bool false) ∧ wn.frozen? ⟨w.heap.size, 4, none⟩ = false := HZ.2 4 (by simp)
    have Z5 : wn.cell? ⟨w.heap.size, 5, none⟩ = some (.bool false) ∧ wn.frozen? ⟨w.heap.size, 5, none⟩ = false := HZ.2 5 (by simp)
    have Z6 : wn.cell? ⟨w.heap.size, 6, none⟩ = some (.int .i64 0) ∧ wn.frozen? ⟨w.heap.size, 6, none⟩ = false := HZ.2 6 (by simp)
    have Z7 : wn.cell? ⟨w.heap.size, 7, none⟩ = some (.int .i64 0) ∧ wn.frozen? ⟨w.heap.size, 7, none⟩ = false := HZ.2 7 (by simp)
    have Z8 : wn.cell? ⟨w.heap.size, 8, none⟩ = some (.int .i64 0) ∧ wn.frozen? ⟨w.heap.size, 8, none⟩ = false := HZ.2 8 (by simp)
    have Z9 : wn.cell? ⟨w.heap.size, 9, none⟩ = some (.string ⟨#[]⟩) ∧ wn.frozen? ⟨w.heap.size, 9, none⟩ = false := HZ.2 9 (by simp)
    have Z10 : wn.cell? ⟨w.heap.size, 10, none⟩ = some (.bool false) ∧ wn.frozen? ⟨w.heap.size, 10, none⟩ = false := HZ.2 10 (by simp)
    have HF1 : Hid (Held w.heap.size [ver vr.1 vr.2, .int .i64 kd, .string key, .string val, .bool wt, .bool dl, .int .i64 se, .int .i64 nu, .int .i64 co, .string rs, .bool hs] (((((((((((wn.setCell ⟨w.heap.size, 0, none⟩ (ver vr.1 vr.2)).setCell ⟨w.heap.size, 1, none⟩ (.int .i64 kd)).setCell ⟨w.heap.size, 2, none⟩ (.string key)).setCell ⟨w.heap.size, 3, none⟩ (.string val)).setCell ⟨w.heap.size, 4, none⟩ (.bool wt)).setCell ⟨w.heap.size, 5, none⟩ (.bool dl)).setCell ⟨w.heap.size, 6, none⟩ (.int .i64 se)).setCell ⟨w.heap.size, 7, none⟩ (.int .i64 nu)).setCell ⟨w.heap.size, 8, none⟩ (.int .i64 co)).setCell ⟨w.heap.size, 9, none⟩ (.string rs)).setCell ⟨w.heap.size, 10, none⟩ (.bool hs)).drew) := (((((((((((HZ.set 0 (by simp) (ver vr.1 vr.2)).set 1 (by simp) (.int .i64 kd)).set 2 (by simp) (.string key)).set 3 (by simp) (.string val)).set 4 (by simp) (.bool wt)).set 5 (by simp) (.bool dl)).set 6 (by simp) (.int .i64 se)).set 7 (by simp) (.int .i64 nu)).set 8 (by simp) (.int .i64 co)).set 9 (by simp) (.string rs)).set 10 (by simp) (.bool hs)).drew.held
    have HF2 : Hid (Below w.heap.size w (((((((((((wn.setCell ⟨w.heap.size, 0, none⟩ (ver vr.1 vr.2)).setCell ⟨w.heap.size, 1, none⟩ (.int .i64 kd)).setCell ⟨w.heap.size, 2, none⟩ (.string key)).setCell ⟨w.heap.size, 3, none⟩ (.string val)).setCell ⟨w.heap.size, 4, none⟩ (.bool wt)).setCell ⟨w.heap.size, 5, none⟩ (.bool dl)).setCell ⟨w.heap.size, 6, none⟩ (.int .i64 se)).setCell ⟨w.heap.size, 7, none⟩ (.int .i64 nu)).setCell ⟨w.heap.size, 8, none⟩ (.int .i64 co)).setCell ⟨w.heap.size, 9, none⟩ (.string rs)).setCell ⟨w.heap.size, 10, none⟩ (.bool hs)).drew) := (((((((((((HB.out.setCell (Nat.le_refl _) _).setCell (Nat.le_refl _) _).setCell (Nat.le_refl _) _).setCell (Nat.le_refl _) _).setCell (Nat.le_refl _) _).setCell (Nat.le_refl _) _).setCell (Nat.le_refl _) _).setCell (Nat.le_refl _) _).setCell (Nat.le_refl _) _).setCell (Nat.le_refl _) _).setCell (Nat.le_refl _) _).drew
    clear hr he hk hg HZ
    obtain ⟨c10, c11, c12⟩ := C1
    have D1 : ¬ w.heap.size + 1 + 1 = w.heap.size := by omega
    have D2 : ¬ w.heap.size + 1 = w.heap.size := by omega
    have D3 : ¬ w.heap.size = w.heap.size + 1 + 1 := by omega
    go_wp2
    go_region_held3 (fun W => W.cell? ⟨w.heap.size + 1, 0, none⟩ = some (ver vr.1 vr.2) ∧ W.cell? ⟨w.heap.size + 1, 1, none⟩ = some (.int .i64 kd) ∧ W.cell? ⟨w.heap.size + 1, 2, none⟩ = some (.string key) ∧ W.cell? ⟨w.heap.size + 1, 3, none⟩ = some (.string val) ∧ W.cell? ⟨w.heap.size + 1, 4, none⟩ = some (.bool wt) ∧ W.cell? ⟨w.heap.size + 1, 5, none⟩ = some (.bool dl) ∧ W.cell? ⟨w.heap.size + 1, 6, none⟩ = some (.int .i64 se) ∧ W.cell? ⟨w.heap.size + 1, 7, none⟩ = some (.int .i64 nu) ∧ W.cell? ⟨w.heap.size + 1, 8, none⟩ = some (.int .i64 co) ∧ W.cell? ⟨w.heap.size + 1, 9, none⟩ = some (.string rs) ∧ W.cell? ⟨w.heap.size + 1, 10, none⟩ = some (.bool hs) ∧ W.cell? ⟨w.heap.size + 1 + 1, 1, none⟩ = some (.int .i64 ((p + k : Nat) : Int))) (go_keep) (fail)
    go_wp2
    (try simp only [Exit.inBlock, Exit.then])
    refine bodyPost_ret (results_cell3 (p := 4) (u := 5) (x := 6) (a := ⟨w.heap.size, 0, none⟩) rfl rfl (run_loadVar_held (vs := [ver vr.1 vr.2, .int .i64 kd, .string key, .string val, .bool wt, .bool dl, .int .i64 se, .int .i64 nu, .int .i64 co, .string rs, .bool hs]) entry_info (entry_agg _) HF1.out)) rfl ?_
    exact ⟨by rw [HR.out]; rfl, HF2.out⟩
  · have C1 := hr.held.all
    simp only [cellsAre, Nat.zero_add, Nat.reduceAdd] at C1
    obtain ⟨c10, c11, c12⟩ := C1
    have HR : Hid (gotS KE l p = _) := gotS_none hg
    have Z0 : wn.cell? ⟨w.heap.size, 0, none⟩ = some (.complex .f64 0 0) ∧ wn.frozen? ⟨w.heap.size, 0, none⟩ = false := HZ.2 0 (by simp)
    have Z1 : wn.cell? ⟨w.heap.size, 1, none⟩ = some (.int .i64 0) ∧ wn.frozen? ⟨w.heap.size, 1, none⟩ = false := HZ.2 1 (by simp)
    have Z2 : wn.cell? ⟨w.heap.size, 2, none⟩ = some (.string ⟨#[]⟩) ∧ wn.frozen? ⟨w.heap.size, 2, none⟩ = false := HZ.2 2 (by simp)
    have Z3 : wn.cell? ⟨w.heap.size, 3, none⟩ = some (.string ⟨#[]⟩) ∧ wn.frozen? ⟨w.heap.size, 3, none⟩ = false := HZ.2 3 (by simp)
    have Z4 : wn.cell? ⟨w.heap.size, 4, none⟩ = some (.bool false) ∧ wn.frozen? ⟨w.heap.size, 4, none⟩ = false := HZ.2 4 (by simp)
    have Z5 : wn.cell? ⟨w.heap.size, 5, none⟩ = some (.bool false) ∧ wn.frozen? ⟨w.heap.size, 5, none⟩ = false := HZ.2 5 (by simp)
    have Z6 : wn.cell? ⟨w.heap.size, 6, none⟩ = some (.int .i64 0) ∧ wn.frozen? ⟨w.heap.size, 6, none⟩ = false := HZ.2 6 (by simp)
    have Z7 : wn.cell? ⟨w.heap.size, 7, none⟩ = some (.int .i64 0) ∧ wn.frozen? ⟨w.heap.size, 7, none⟩ = false := HZ.2 7 (by simp)
    have Z8 : wn.cell? ⟨w.heap.size, 8, none⟩ = some (.int .i64 0) ∧ wn.frozen? ⟨w.heap.size, 8, none⟩ = false := HZ.2 8 (by simp)
    have Z9 : wn.cell? ⟨w.heap.size, 9, none⟩ = some (.string ⟨#[]⟩) ∧ wn.frozen? ⟨w.heap.size, 9, none⟩ = false := HZ.2 9 (by simp)
    have Z10 : wn.cell? ⟨w.heap.size, 10, none⟩ = some (.bool false) ∧ wn.frozen? ⟨w.heap.size, 10, none⟩ = false := HZ.2 10 (by simp)
    have HF1 : Hid (Held w.heap.size [.complex .f64 0 0, .int .i64 0, .string ⟨#[]⟩, .string ⟨#[]⟩, .bool false, .bool false, .int .i64 0, .int .i64 0, .int .i64 0, .string ⟨#[]⟩, .bool false] (((((((((((wn.setCell ⟨w.heap.size, 0, none⟩ (.complex .f64 0 0)).setCell ⟨w.heap.size, 1, none⟩ (.int .i64 0)).setCell ⟨w.heap.size, 2, none⟩ (.string ⟨#[]⟩)).setCell ⟨w.heap.size, 3, none⟩ (.string ⟨#[]⟩)).setCell ⟨w.heap.size, 4, none⟩ (.bool false)).setCell ⟨w.heap.size, 5, none⟩ (.bool false)).setCell ⟨w.heap.size, 6, none⟩ (.int .i64 0)).setCell ⟨w.heap.size, 7, none⟩ (.int .i64 0)).setCell ⟨w.heap.size, 8, none⟩ (.int .i64 0)).setCell ⟨w.heap.size, 9, none⟩ (.string ⟨#[]⟩)).setCell ⟨w.heap.size, 10, none⟩ (.bool false))) := (((((((((((HZ.set 0 (by simp) (.complex .f64 0 0)).set 1 (by simp) (.int .i64 0)).set 2 (by simp) (.string ⟨#[]⟩)).set 3 (by simp) (.string ⟨#[]⟩)).set 4 (by simp) (.bool false)).set 5 (by simp) (.bool false)).set 6 (by simp) (.int .i64 0)).set 7 (by simp) (.int .i64 0)).set 8 (by simp) (.int .i64 0)).set 9 (by simp) (.string ⟨#[]⟩)).set 10 (by simp) (.bool false)).held
    have HF2 : Hid (Below w.heap.size w (((((((((((wn.setCell ⟨w.heap.size, 0, none⟩ (.complex .f64 0 0)).setCell ⟨w.heap.size, 1, none⟩ (.int .i64 0)).setCell ⟨w.heap.size, 2, none⟩ (.string ⟨#[]⟩)).setCell ⟨w.heap.size, 3, none⟩ (.string ⟨#[]⟩)).setCell ⟨w.heap.size, 4, none⟩ (.bool false)).setCell ⟨w.heap.size, 5, none⟩ (.bool false)).setCell ⟨w.heap.size, 6, none⟩ (.int .i64 0)).setCell ⟨w.heap.size, 7, none⟩ (.int .i64 0)).setCell ⟨w.heap.size, 8, none⟩ (.int .i64 0)).setCell ⟨w.heap.size, 9, none⟩ (.string ⟨#[]⟩)).setCell ⟨w.heap.size, 10, none⟩ (.bool false))) := (((((((((((HB.out.setCell (Nat.le_refl _) _).setCell (Nat.le_refl _) _).setCell (Nat.le_refl _) _).setCell (Nat.le_refl _) _).setCell (Nat.le_refl _) _).setCell (Nat.le_refl _) _).setCell (Nat.le_refl _) _).setCell (Nat.le_refl _) _).setCell (Nat.le_refl _) _).setCell (Nat.le_refl _) _).setCell (Nat.le_refl _) _)
    clear hr he hg HZ hlen
    go_wp2
    (try simp only [Exit.inBlock, Exit.then])
    refine bodyPost_ret (results_cell3 (p := 4) (u := 5) (x := 6) (a := ⟨w.heap.size, 0, none⟩) rfl rfl (run_loadVar_held (vs := [.complex .f64 0 0, .int .i64 0, .string ⟨#[]⟩, .string ⟨#[]⟩, .bool false, .bool false, .int .i64 0, .int .i64 0, .int .i64 0, .string ⟨#[]⟩, .bool false]) entry_info (entry_agg _) HF1.out)) rfl ?_
    exact ⟨by rw [HR.out]; rfl, HF2.out⟩

end Go.Proofs.Ytmohanbgplffcaa
