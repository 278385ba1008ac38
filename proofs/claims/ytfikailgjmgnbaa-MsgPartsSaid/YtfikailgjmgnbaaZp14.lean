/-
  What entry.Get comes to (made by entry-get-gen.py).
  The readers of wire and entry, said of things; msg.readInts.
-/
import Derived.Test.YtfikailgjmgnbaaZp13
import Derived.Deep.RegionHeld3
import Derived.Test.YtfikailgjmgnbaaZp12

namespace Go.Proofs.Ytfikailgjmgnbaa
open Go.RowKit Flo
attribute [local go_sem ↓] Go.wp_at_zero Go.wp_at_succ

set_option maxRecDepth 100000 in
set_option maxHeartbeats 4000000 in
theorem getentry_any (w : World) (v : Value) (l : List UInt8) (p : Nat) (hv : Seen w w.heap.size v l) (hl : l.length ≤ 1000000000) (hp : p ≤ 1000000000) :
    Calls Try.prog 25 #[v, .int .i64 (p : Int)] w fun e w' => e = .returned (gotS KE l p) ∧ Below w.heap.size w w' := by
  have HV := Lib.hid hv
  obtain ⟨A, c, rfl, hA⟩ := hv
  have S0 := St.start w (.slice A l.length c) l p KE [.complex .f64 0 0, .int .i64 0, .string ⟨#[]⟩, .string ⟨#[]⟩, .bool false, .bool false, .int .i64 0, .int .i64 0, .int .i64 0, .string ⟨#[]⟩, .bool false] 68 122 rfl
  have H0 := Lib.hid (heldF_made w [.complex .f64 0 0, .int .i64 0, .string ⟨#[]⟩, .string ⟨#[]⟩, .bool false, .bool false, .int .i64 0, .int .i64 0, .int .i64 0, .string ⟨#[]⟩, .bool false] 68)
  have hb0 : Hid (Below w.heap.size w (w.alloc (.cells #[.complex .f64 0 0, .int .i64 0, .string ⟨#[]⟩, .string ⟨#[]⟩, .bool false, .bool false, .int .i64 0, .int .i64 0, .int .i64 0, .string ⟨#[]⟩, .bool false] 68))) := bal _ _
  have W0 : Hid (w.heap.size + 1 = (w.alloc (.cells #[.complex .f64 0 0, .int .i64 0, .string ⟨#[]⟩, .string ⟨#[]⟩, .bool false, .bool false, .int .i64 0, .int .i64 0, .int .i64 0, .string ⟨#[]⟩, .bool false] 68)).heap.size) := by show _ = _; simp
  obtain ⟨w0, hw0⟩ : ∃ w0, w0 = (w.alloc (.cells #[.complex .f64 0 0, .int .i64 0, .string ⟨#[]⟩, .string ⟨#[]⟩, .bool false, .bool false, .int .i64 0, .int .i64 0, .int .i64 0, .string ⟨#[]⟩, .bool false] 68)) := ⟨_, rfl⟩
  rw [← hw0] at H0 hb0 W0
  have S0' : St l p (.slice A l.length c) (w.heap.size + 1 + 1) (w.heap.size + 1) [] [.V, .I, .T, .T, .B, .B, .I, .I, .I, .T, .B] w0 (((w.alloc (.cells #[.complex .f64 0 0, .int .i64 0, .string ⟨#[]⟩, .string ⟨#[]⟩, .bool false, .bool false, .int .i64 0, .int .i64 0, .int .i64 0, .string ⟨#[]⟩, .bool false] 68)).alloc (.cells #[.complex .f64 0 0, .int .i64 0, .string ⟨#[]⟩, .string ⟨#[]⟩, .bool false, .bool false, .int .i64 0, .int .i64 0, .int .i64 0, .string ⟨#[]⟩, .bool false] 68)).alloc (.cells #[.slice A l.length c, .int .i64 (p : Int), .bool true] 122)) := by rw [hw0]; exact S0
  have HS := Lib.hid ((HV.out.on hb0.out))
  have G1 : Hid (w0.heap.size ≤ w.heap.size + 1) := Nat.le_of_eq W0.out.symm
  have G2 : Hid (w0.heap.size ≤ w.heap.size + 1 + 1) := Nat.le_trans G1.out (Nat.le_succ _)
  have G3 : Hid (w.heap.size + 1 + 1 ≠ w.heap.size + 1) := by show _ ≠ _; omega
  have R1 : Hid (∀ W, St l p (.slice A l.length c) (w.heap.size + 1 + 1) (w.heap.size + 1) [] [.V, .I, .T, .T, .B, .B, .I, .I, .I, .T, .B] w0 W → Calls Try.prog 63 #[.pointer (some ⟨w.heap.size + 1 + 1, 0, none⟩), .pointer (some ⟨w.heap.size + 1, 0, none⟩), .func (.func 21) #[] #[]] W fun e W' => e = .returned (.tuple #[]) ∧ St l p (.slice A l.length c) (w.heap.size + 1 + 1) (w.heap.size + 1) [.V] [.I, .T, .T, .B, .B, .I, .I, .I, .T, .B] w0 W') := fun W h => St.step (K := .V) (ks := []) (rest := [.I, .T, .T, .B, .B, .I, .I, .I, .T, .B]) (W := W) (n := 0) reader_V HS.out hl hp G2.out G1.out G3.out h rfl
  have R2 : Hid (∀ W, St l p (.slice A l.length c) (w.heap.size + 1 + 1) (w.heap.size + 1) [.V] [.I, .T, .T, .B, .B, .I, .I, .I, .T, .B] w0 W → Calls Try.prog 59 #[.pointer (some ⟨w.heap.size + 1 + 1, 0, none⟩), .pointer (some ⟨w.heap.size + 1, 1, none⟩), .func (.func 56) #[] #[]] W fun e W' => e = .returned (.tuple #[]) ∧ St l p (.slice A l.length c) (w.heap.size + 1 + 1) (w.heap.size + 1) [.V, .I] [.T, .T, .B, .B, .I, .I, .I, .T, .B] w0 W') := fun W h => St.step (K := .I) (ks := [.V]) (rest := [.T, .T, .B, .B, .I, .I, .I, .T, .B]) (W := W) (n := 1) reader_I HS.out hl hp G2.out G1.out G3.out h rfl
  have R3 : Hid (∀ W, St l p (.slice A l.length c) (w.heap.size + 1 + 1) (w.heap.size + 1) [.V, .I] [.T, .T, .B, .B, .I, .I, .I, .T, .B] w0 W → Calls Try.prog 60 #[.pointer (some ⟨w.heap.size + 1 + 1, 0, none⟩), .pointer (some ⟨w.heap.size + 1, 2, none⟩), .func (.func 19) #[] #[]] W fun e W' => e = .returned (.tuple #[]) ∧ St l p (.slice A l.length c) (w.heap.size + 1 + 1) (w.heap.size + 1) [.V, .I, .T] [.T, .B, .B, .I, .I, .I, .T, .B] w0 W') := fun W h => St.step (K := .T) (ks := [.V, .I]) (rest := [.T, .B, .B, .I, .I, .I, .T, .B]) (W := W) (n := 2) reader_T HS.out hl hp G2.out G1.out G3.out h rfl
  have R4 : Hid (∀ W, St l p (.slice A l.length c) (w.heap.size + 1 + 1) (w.heap.size + 1) [.V, .I, .T] [.T, .B, .B, .I, .I, .I, .T, .B] w0 W → Calls Try.prog 60 #[.pointer (some ⟨w.heap.size + 1 + 1, 0, none⟩), .pointer (some ⟨w.heap.size + 1, 3, none⟩), .func (.func 19) #[] #[]] W fun e W' => e = .returned (.tuple #[]) ∧ St l p (.slice A l.length c) (w.heap.size + 1 + 1) (w.heap.size + 1) [.V, .I, .T, .T] [.B, .B, .I, .I, .I, .T, .B] w0 W') := fun W h => St.step (K := .T) (ks := [.V, .I, .T]) (rest := [.B, .B, .I, .I, .I, .T, .B]) (W := W) (n := 3) reader_T HS.out hl hp G2.out G1.out G3.out h rfl
  have R5 : Hid (∀ W, St l p (.slice A l.length c) (w.heap.size + 1 + 1) (w.heap.size + 1) [.V, .I, .T, .T] [.B, .B, .I, .I, .I, .T, .B] w0 W → Calls Try.prog 61 #[.pointer (some ⟨w.heap.size + 1 + 1, 0, none⟩), .pointer (some ⟨w.heap.size + 1, 4, none⟩), .func (.func 17) #[] #[]] W fun e W' => e = .returned (.tuple #[]) ∧ St l p (.slice A l.length c) (w.heap.size + 1 + 1) (w.heap.size + 1) [.V, .I, .T, .T, .B] [.B, .I, .I, .I, .T, .B] w0 W') := fun W h => St.step (K := .B) (ks := [.V, .I, .T, .T]) (rest := [.B, .I, .I, .I, .T, .B]) (W := W) (n := 4) reader_B HS.out hl hp G2.out G1.out G3.out h rfl
  have R6 : Hid (∀ W, St l p (.slice A l.length c) (w.heap.size + 1 + 1) (w.heap.size + 1) [.V, .I, .T, .T, .B] [.B, .I, .I, .I, .T, .B] w0 W → Calls Try.prog 61 #[.pointer (some ⟨w.heap.size + 1 + 1, 0, none⟩), .pointer (some ⟨w.heap.size + 1, 5, none⟩), .func (.func 17) #[] #[]] W fun e W' => e = .returned (.tuple #[]) ∧ St l p (.slice A l.length c) (w.heap.size + 1 + 1) (w.heap.size + 1) [.V, .I, .T, .T, .B, .B] [.I, .I, .I, .T, .B] w0 W') := fun W h => St.step (K := .B) (ks := [.V, .I, .T, .T, .B]) (rest := [.I, .I, .I, .T, .B]) (W := W) (n := 5) reader_B HS.out hl hp G2.out G1.out G3.out h rfl
  have R7 : Hid (∀ W, St l p (.slice A l.length c) (w.heap.size + 1 + 1) (w.heap.size + 1) [.V, .I, .T, .T, .B, .B] [.I, .I, .I, .T, .B] w0 W → Calls Try.prog 59 #[.pointer (some ⟨w.heap.size + 1 + 1, 0, none⟩), .pointer (some ⟨w.heap.size + 1, 6, none⟩), .func (.func 56) #[] #[]] W fun e W' => e = .returned (.tuple #[]) ∧ St l p (.slice A l.length c) (w.heap.size + 1 + 1) (w.heap.size + 1) [.V, .I, .T, .T, .B, .B, .I] [.I, .I, .T, .B] w0 W') := fun W h => St.step (K := .I) (ks := [.V, .I, .T, .T, .B, .B]) (rest := [.I, .I, .T, .B]) (W := W) (n := 6) reader_I HS.out hl hp G2.out G1.out G3.out h rfl
  have R8 : Hid (∀ W, St l p (.slice A l.length c) (w.heap.size + 1 + 1) (w.heap.size + 1) [.V, .I, .T, .T, .B, .B, .I] [.I, .I, .T, .B] w0 W → Calls Try.prog 59 #[.pointer (some ⟨w.heap.size + 1 + 1, 0, none⟩), .pointer (some ⟨w.heap.size + 1, 7, none⟩), .func (.func 56) #[] #[]] W fun e W' => e = .returned (.tuple #[]) ∧ St l p (.slice A l.length c) (w.heap.size + 1 + 1) (w.heap.size + 1) [.V, .I, .T, .T, .B, .B, .I, .I] [.I, .T, .B] w0 W') := fun W h => St.step (K := .I) (ks := [.V, .I, .T, .T, .B, .B, .I]) (rest := [.I, .T, .B]) (W := W) (n := 7) reader_I HS.out hl hp G2.out G1.out G3.out h rfl
  have R9 : Hid (∀ W, St l p (.slice A l.length c) (w.heap.size + 1 + 1) (w.heap.size + 1) [.V, .I, .T, .T, .B, .B, .I, .I] [.I, .T, .B] w0 W → Calls Try.prog 59 #[.pointer (some ⟨w.heap.size + 1 + 1, 0, none⟩), .pointer (some ⟨w.heap.size + 1, 8, none⟩), .func (.func 56) #[] #[]] W fun e W' => e = .returned (.tuple #[]) ∧ St l p (.slice A l.length c) (w.heap.size + 1 + 1) (w.heap.size + 1) [.V, .I, .T, .T, .B, .B, .I, .I, .I] [.T, .B] w0 W') := fun W h => St.step (K := .I) (ks := [.V, .I, .T, .T, .B, .B, .I, .I]) (rest := [.T, .B]) (W := W) (n := 8) reader_I HS.out hl hp G2.out G1.out G3.out h rfl
  have R10 : Hid (∀ W, St l p (.slice A l.length c) (w.heap.size + 1 + 1) (w.heap.size + 1) [.V, .I, .T, .T, .B, .B, .I, .I, .I] [.T, .B] w0 W → Calls Try.prog 60 #[.pointer (some ⟨w.heap.size + 1 + 1, 0, none⟩), .pointer (some ⟨w.heap.size + 1, 9, none⟩), .func (.func 19) #[] #[]] W fun e W' => e = .returned (.tuple #[]) ∧ St l p (.slice A l.length c) (w.heap.size + 1 + 1) (w.heap.size + 1) [.V, .I, .T, .T, .B, .B, .I, .I, .I, .T] [.B] w0 W') := fun W h => St.step (K := .T) (ks := [.V, .I, .T, .T, .B, .B, .I, .I, .I]) (rest := [.B]) (W := W) (n := 9) reader_T HS.out hl hp G2.out G1.out G3.out h rfl
  have R11 : Hid (∀ W, St l p (.slice A l.length c) (w.heap.size + 1 + 1) (w.heap.size + 1) [.V, .I, .T, .T, .B, .B, .I, .I, .I, .T] [.B] w0 W → Calls Try.prog 61 #[.pointer (some ⟨w.heap.size + 1 + 1, 0, none⟩), .pointer (some ⟨w.heap.size + 1, 10, none⟩), .func (.func 17) #[] #[]] W fun e W' => e = .returned (.tuple #[]) ∧ St l p (.slice A l.length c) (w.heap.size + 1 + 1) (w.heap.size + 1) [.V, .I, .T, .T, .B, .B, .I, .I, .I, .T, .B] [] w0 W') := fun W h => St.step (K := .B) (ks := [.V, .I, .T, .T, .B, .B, .I, .I, .I, .T]) (rest := []) (W := W) (n := 10) reader_B HS.out hl hp G2.out G1.out G3.out h rfl
  clear hA hw0 S0
  go_enter Try.func25, Try.ntmps25
  go_wp2_with (first
    | (go_at_call 63; (refine (R1.out _ S0').mono ?_); rintro e w1 ⟨rfl, S1⟩)
    | (go_at_call 59; (with_reducible refine (R2.out _ S1).mono ?_); rintro e w2 ⟨rfl, S2⟩)
    | (go_at_call 60; (with_reducible refine (R3.out _ S2).mono ?_); rintro e w3 ⟨rfl, S3⟩)
    | (go_at_call 60; (with_reducible refine (R4.out _ S3).mono ?_); rintro e w4 ⟨rfl, S4⟩)
    | (go_at_call 61; (with_reducible refine (R5.out _ S4).mono ?_); rintro e w5 ⟨rfl, S5⟩)
    | (go_at_call 61; (with_reducible refine (R6.out _ S5).mono ?_); rintro e w6 ⟨rfl, S6⟩)
    | (go_at_call 59; (with_reducible refine (R7.out _ S6).mono ?_); rintro e w7 ⟨rfl, S7⟩)
    | (go_at_call 59; (with_reducible refine (R8.out _ S7).mono ?_); rintro e w8 ⟨rfl, S8⟩)
    | (go_at_call 59; (with_reducible refine (R9.out _ S8).mono ?_); rintro e w9 ⟨rfl, S9⟩)
    | (go_at_call 60; (with_reducible refine (R10.out _ S9).mono ?_); rintro e w10 ⟨rfl, S10⟩))
  go_at_call 61
  refine (R11.out _ S10).mono ?_
  rintro e wn ⟨rfl, hb, hst⟩
  clear R1 R2 R3 R4 R5 R6 R7 R8 R9 R10 R11 S1 S2 S3 S4 S5 S6 S7 S8 S9 S10 S0'
  have HB := Lib.hid (bt hb0.out hb)
  have HZ := H0.out.on hb
  clear hb hb0 H0 G1 G2 W0 HS
  rcases hst with ⟨fs, k, hg, hr, he⟩ | ⟨hg, x, vs, hlen, hr, he⟩
  · have HG := Lib.hid hg
    have hk := (gets_is hg).2.2.1
    obtain ⟨vr, kd, key, val, wt, dl, se, nu, co, rs, hs, rfl⟩ := kinds_en hk
    have C1 := hr.held.all
    have C2 := he.held.all
    simp only [cellsAre, Nat.zero_add, Nat.reduceAdd] at C1
    simp only [List.map_cons, List.map_nil, List.append_nil, Fld.val, cellsAre, Nat.zero_add, Nat.reduceAdd] at C2
    have HR : Hid (gotS KE l p = _) := gotS_some hg
    have GV := Lib.hid HV
    have Z0 : wn.cell? ⟨w.heap.size, 0, none⟩ = some (.complex .f64 0 0) ∧ wn.frozen? ⟨w.heap.size, 0, none⟩ = false := HZ.2 0 (by simp)
    have Z1 : wn.cell? ⟨w.heap.size, 1, none⟩ = some (.int .i64 0) ∧ wn.frozen? ⟨w.heap.size, 1, none⟩ = false := HZ.2 1 (by simp)
    have Z2 : wn.cell? ⟨w.heap.size, 2, none⟩ = some (.string ⟨#[]⟩) ∧ wn.frozen? ⟨w.heap.size, 2, none⟩ = false := HZ.2 2 (by simp)
    have Z3 : wn.cell? ⟨w.heap.size, 3, none⟩ = some (.string ⟨#[]⟩) ∧ wn.frozen? ⟨w.heap.size, 3, none⟩ = false := HZ.2 3 (by simp)
    have Z4 : wn.cell? ⟨w.heap.size, 4, none⟩ = some (.bool false) ∧ wn.frozen? ⟨w.heap.size, 4, none⟩ = false := HZ.2 4 (by simp)
    have Z5 : wn.cell? ⟨w.heap.size, 5, none⟩ = some (.bool false) ∧ wn.frozen? ⟨w.heap.size, 5, none⟩ = false := HZ.2 5 (by simp)
    have Z6 : wn.cell? ⟨w.heap.size, 6, none⟩ = some (.int .i64 0) ∧ wn.frozen? ⟨w.heap.size, 6, none⟩ = false := HZ.2 6 (by simp)
    have Z7 : wn.cell? ⟨w.heap.size, 7, none⟩ = some (.int .i64 0) ∧ wn.frozen? ⟨w.heap.size, 7, none⟩ = false := HZ.2 7 (by simp)
    have Z8 : wn.cell? ⟨w.heap.size, 8, none⟩ = some (.int .i64 0) ∧ wn.frozen? ⟨w.heap.size, 8, none⟩ = false := HZ.2 8 (by simp)
    have Z9 : wn.cell? ⟨w.heap.size, 9, none⟩ = some (.string ⟨#[]⟩) ∧ wn.frozen? ⟨w.heap.size, 9, none⟩ = false := HZ.2 9 (by simp)
    have Z10 : wn.cell? ⟨w.heap.size, 10, none⟩ = some (.bool false) ∧ wn.frozen? ⟨w.heap.size, 10, none⟩ = false := HZ.2 10 (by simp)
    have HF1 : Hid (Held w.heap.size [ver vr.1 vr.2, .int .i64 kd, .string key, .string val, .bool wt, .bool dl, .int .i64 se, .int .i64 nu, .int .i64 co, .string rs, .bool hs] (((((((((((wn.setCell ⟨w.heap.size, 0, none⟩ (ver vr.1 vr.2)).setCell ⟨w.heap.size, 1, none⟩ (.int .i64 kd)).setCell ⟨w.heap.size, 2, none⟩ (.string key)).setCell ⟨w.heap.size, 3, none⟩ (.string val)).setCell ⟨w.heap.size, 4, none⟩ (.bool wt)).setCell ⟨w.heap.size, 5, none⟩ (.bool dl)).setCell ⟨w.heap.size, 6, none⟩ (.int .i64 se)).setCell ⟨w.heap.size, 7, none⟩ (.int .i64 nu)).setCell ⟨w.heap.size, 8, none⟩ (.int .i64 co)).setCell ⟨w.heap.size, 9, none⟩ (.string rs)).setCell ⟨w.heap.size, 10, none⟩ (.bool hs)).drew) := (((((((((((HZ.set 0 (by simp) (ver vr.1 vr.2)).set 1 (by simp) (.int .i64 kd)).set 2 (by simp) (.string key)).set 3 (by simp) (.string val)).set 4 (by simp) (.bool wt)).set 5 (by simp) (.bool dl)).set 6 (by simp) (.int .i64 se)).set 7 (by simp) (.int .i64 nu)).set 8 (by simp) (.int .i64 co)).set 9 (by simp) (.string rs)).set 10 (by simp) (.bool hs)).drew.held
    have HF2 : Hid (Below w.heap.size w (((((((((((wn.setCell ⟨w.heap.size, 0, none⟩ (ver vr.1 vr.2)).setCell ⟨w.heap.size, 1, none⟩ (.int .i64 kd)).setCell ⟨w.heap.size, 2, none⟩ (.string key)).setCell ⟨w.heap.size, 3, none⟩ (.string val)).setCell ⟨w.heap.size, 4, none⟩ (.bool wt)).setCell ⟨w.heap.size, 5, none⟩ (.bool dl)).setCell ⟨w.heap.size, 6, none⟩ (.int .i64 se)).setCell ⟨w.heap.size, 7, none⟩ (.int .i64 nu)).setCell ⟨w.heap.size, 8, none⟩ (.int .i64 co)).setCell ⟨w.heap.size, 9, none⟩ (.string rs)).setCell ⟨w.heap.size, 10, none⟩ (.bool hs)).drew) := (((((((((((HB.out.setCell (Nat.le_refl _) _).setCell (Nat.le_refl _) _).setCell (Nat.le_refl _) _).setCell (Nat.le_refl _) _).setCell (Nat.le_refl _) _).setCell (Nat.le_refl _) _).setCell (Nat.le_refl _) _).setCell (Nat.le_refl _) _).setCell (Nat.le_refl _) _).setCell (Nat.le_refl _) _).setCell (Nat.le_refl _) _).drew
    clear hr he hk hg HZ
    obtain ⟨c10, c11, c12⟩ := C1
    have D1 : ¬ w.heap.size + 1 + 1 = w.heap.size := by omega
    have D2 : ¬ w.heap.size + 1 = w.heap.size := by omega
    have D3 : ¬ w.heap.size = w.heap.size + 1 + 1 := by omega
    go_wp2
    go_region_held3 (fun W => W.cell? ⟨w.heap.size + 1, 0, none⟩ = some (ver vr.1 vr.2) ∧ W.cell? ⟨w.heap.size + 1, 1, none⟩ = some (.int .i64 kd) ∧ W.cell? ⟨w.heap.size + 1, 2, none⟩ = some (.string key) ∧ W.cell? ⟨w.heap.size + 1, 3, none⟩ = some (.string val) ∧ W.cell? ⟨w.heap.size + 1, 4, none⟩ = some (.bool wt) ∧ W.cell? ⟨w.heap.size + 1, 5, none⟩ = some (.bool dl) ∧ W.cell? ⟨w.heap.size + 1, 6, none⟩ = some (.int .i64 se) ∧ W.cell? ⟨w.heap.size + 1, 7, none⟩ = some (.int .i64 nu) ∧ W.cell? ⟨w.heap.size + 1, 8, none⟩ = some (.int .i64 co) ∧ W.cell? ⟨w.heap.size + 1, 9, none⟩ = some (.string rs) ∧ W.cell? ⟨w.heap.size + 1, 10, none⟩ = some (.bool hs) ∧ W.cell? ⟨w.heap.size + 1 + 1, 1, none⟩ = some (.int .i64 ((p + k : Nat) : Int))) (go_keep) (fail)
    go_wp2
    (try simp only [Exit.inBlock, Exit.then])
    refine bodyPost_ret (results_cell3 (p := 4) (u := 5) (x := 6) (a := ⟨w.heap.size, 0, none⟩) rfl rfl (run_loadVar_held (vs := [ver vr.1 vr.2, .int .i64 kd, .string key, .string val, .bool wt, .bool dl, .int .i64 se, .int .i64 nu, .int .i64 co, .string rs, .bool hs]) entry_info (entry_agg _) HF1.out)) rfl ?_
    exact ⟨by rw [HR.out]; rfl, HF2.out⟩
  · have C1 := hr.held.all
    simp only [cellsAre, Nat.zero_add, Nat.reduceAdd] at C1
    obtain ⟨c10, c11, c12⟩ := C1
    have HR : Hid (gotS KE l p = _) := gotS_none hg
    have Z0 : wn.cell? ⟨w.heap.size, 0, none⟩ = some (.complex .f64 0 0) ∧ wn.frozen? ⟨w.heap.size, 0, none⟩ = false := HZ.2 0 (by simp)
    have Z1 : wn.cell? ⟨w.heap.size, 1, none⟩ = some (.int .i64 0) ∧ wn.frozen? ⟨w.heap.size, 1, none⟩ = false := HZ.2 1 (by simp)
    have Z2 : wn.cell? ⟨w.heap.size, 2, none⟩ = some (.string ⟨#[]⟩) ∧ wn.frozen? ⟨w.heap.size, 2, none⟩ = false := HZ.2 2 (by simp)
    have Z3 : wn.cell? ⟨w.heap.size, 3, none⟩ = some (.string ⟨#[]⟩) ∧ wn.frozen? ⟨w.heap.size, 3, none⟩ = false := HZ.2 3 (by simp)
    have Z4 : wn.cell? ⟨w.heap.size, 4, none⟩ = some (.bool false) ∧ wn.frozen? ⟨w.heap.size, 4, none⟩ = false := HZ.2 4 (by simp)
    have Z5 : wn.cell? ⟨w.heap.size, 5, none⟩ = some (.bool false) ∧ wn.frozen? ⟨w.heap.size, 5, none⟩ = false := HZ.2 5 (by simp)
    have Z6 : wn.cell? ⟨w.heap.size, 6, none⟩ = some (.int .i64 0) ∧ wn.frozen? ⟨w.heap.size, 6, none⟩ = false := HZ.2 6 (by simp)
    have Z7 : wn.cell? ⟨w.heap.size, 7, none⟩ = some (.int .i64 0) ∧ wn.frozen? ⟨w.heap.size, 7, none⟩ = false := HZ.2 7 (by simp)
    have Z8 : wn.cell? ⟨w.heap.size, 8, none⟩ = some (.int .i64 0) ∧ wn.frozen? ⟨w.heap.size, 8, none⟩ = false := HZ.2 8 (by simp)
    have Z9 : wn.cell? ⟨w.heap.size, 9, none⟩ = some (.string ⟨#[]⟩) ∧ wn.frozen? ⟨w.heap.size, 9, none⟩ = false := HZ.2 9 (by simp)
    have Z10 : wn.cell? ⟨w.heap.size, 10, none⟩ = some (.bool false) ∧ wn.frozen? ⟨w.heap.size, 10, none⟩ = false := HZ.2 10 (by simp)
    have HF1 : Hid (Held w.heap.size [.complex .f64 0 0, .int .i64 0, .string ⟨#[]⟩, .string ⟨#[]⟩, .bool false, .bool false, .int .i64 0, .int .i64 0, .int .i64 0, .string ⟨#[]⟩, .bool false] (((((((((((wn.setCell ⟨w.heap.size, 0, none⟩ (.complex .f64 0 0)).setCell ⟨w.heap.size, 1, none⟩ (.int .i64 0)).setCell ⟨w.heap.size, 2, none⟩ (.string ⟨#[]⟩)).setCell ⟨w.heap.size, 3, none⟩ (.string ⟨#[]⟩)).setCell ⟨w.heap.size, 4, none⟩ (.bool false)).setCell ⟨w.heap.size, 5, none⟩ (.bool false)).setCell ⟨w.heap.size, 6, none⟩ (.int .i64 0)).setCell ⟨w.heap.size, 7, none⟩ (.int .i64 0)).setCell ⟨w.heap.size, 8, none⟩ (.int .i64 0)).setCell ⟨w.heap.size, 9, none⟩ (.string ⟨#[]⟩)).setCell ⟨w.heap.size, 10, none⟩ (.bool false))) := (((((((((((HZ.set 0 (by simp) (.complex .f64 0 0)).set 1 (by simp) (.int .i64 0)).set 2 (by simp) (.string ⟨#[]⟩)).set 3 (by simp) (.string ⟨#[]⟩)).set 4 (by simp) (.bool false)).set 5 (by simp) (.bool false)).set 6 (by simp) (.int .i64 0)).set 7 (by simp) (.int .i64 0)).set 8 (by simp) (.int .i64 0)).set 9 (by simp) (.string ⟨#[]⟩)).set 10 (by simp) (.bool false)).held
    have HF2 : Hid (Below w.heap.size w (((((((((((wn.setCell ⟨w.heap.size, 0, none⟩ (.complex .f64 0 0)).setCell ⟨w.heap.size, 1, none⟩ (.int .i64 0)).setCell ⟨w.heap.size, 2, none⟩ (.string ⟨#[]⟩)).setCell ⟨w.heap.size, 3, none⟩ (.string ⟨#[]⟩)).setCell ⟨w.heap.size, 4, none⟩ (.bool false)).setCell ⟨w.heap.size, 5, none⟩ (.bool false)).setCell ⟨w.heap.size, 6, none⟩ (.int .i64 0)).setCell ⟨w.heap.size, 7, none⟩ (.int .i64 0)).setCell ⟨w.heap.size, 8, none⟩ (.int .i64 0)).setCell ⟨w.heap.size, 9, none⟩ (.string ⟨#[]⟩)).setCell ⟨w.heap.size, 10, none⟩ (.bool false))) := (((((((((((HB.out.setCell (Nat.le_refl _) _).setCell (Nat.le_refl _) _).setCell (Nat.le_refl _) _).setCell (Nat.le_refl _) _).setCell (Nat.le_refl _) _).setCell (Nat.le_refl _) _).setCell (Nat.le_refl _) _).setCell (Nat.le_refl _) _).setCell (Nat.le_refl _) _).setCell (Nat.le_refl _) _).setCell (Nat.le_refl _) _)
    clear hr he hg HZ hlen
    go_wp2
    (try simp only [Exit.inBlock, Exit.then])
    refine bodyPost_ret (results_cell3 (p := 4) (u := 5) (x := 6) (a := ⟨w.heap.size, 0, none⟩) rfl rfl (run_loadVar_held (vs := [.complex .f64 0 0, .int .i64 0, .string ⟨#[]⟩, .string ⟨#[]⟩, .bool false, .bool false, .int .i64 0, .int .i64 0, .int .i64 0, .string ⟨#[]⟩, .bool false]) entry_info (entry_agg _) HF1.out)) rfl ?_
    exact ⟨by rw [HR.out]; rfl, HF2.out⟩

end Go.Proofs.Ytfikailgjmgnbaa

namespace Go.Proofs.Ytfikailgjmgnbaa
open Go.RowKit Flo
attribute [local go_sem ↓] Go.wp_at_zero Go.wp_at_succ

theorem getter_one {K : Knd} {g : FuncId} (rd : RdOk K g) : Getter (.one K) g := fun w v l p hv hl hp => by
  refine (rd w _ v l p hv (by omega) (by omega)).mono ?_
  rintro e w' ⟨rfl, rfl⟩
  cases hf : fget K (l.drop p) with
  | none =>
    rw [got_none hf]
    refine ⟨[K.zero], 0, false, ⟨_, rfl, shape_zero K⟩, rfl, Below.refl _ _, .inr ⟨?_, rfl⟩⟩
    rintro ⟨t, r, ht, hd⟩
    cases t with
    | fld f =>
      rw [hd, ← ht.1, show (Th.fld f).bytes = f.bytes from rfl, fget_bytes ht.2] at hf
      cases hf
    | _ => exact ht.elim
  | some x =>
    obtain ⟨f, k⟩ := x
    rw [got_some hf]
    obtain ⟨a1, a2, a3, a4, a5⟩ := fget_is hf
    refine ⟨[f.val], _, true, ⟨_, rfl, by rw [← a4]; exact shape_val f⟩, rfl, Below.refl _ _, .inl ⟨.fld f, (l.drop p).drop k, ⟨a4, a5⟩, ?_, rfl, ?_, rfl⟩⟩
    · show _ = f.bytes ++ _
      rw [← a1, List.take_append_drop]
    · show _ = ((p + f.bytes.length : Nat) : Int)
      rw [← a1, List.length_take, Nat.min_eq_left a3]
theorem getter_row {ks : List Knd} {g : FuncId} (rd : ∀ (w : World) (v : Value) (l : List UInt8) (p : Nat), Seen w w.heap.size v l → l.length ≤ 1000000000 → p ≤ 1000000000 → Calls Try.prog g #[v, .int .i64 (p : Int)] w fun e w' => e = .returned (gotS ks l p) ∧ Below w.heap.size w w') : Getter (.row ks) g := fun w v l p hv hl hp => by
  refine (rd w v l p hv hl hp).mono ?_
  rintro e w' ⟨rfl, hb⟩
  cases hf : gets ks (l.drop p) with
  | none =>
    rw [gotS_none hf]
    refine ⟨ks.map Knd.zero, 0, false, zero_shape (.row ks), rfl, hb, .inr ⟨?_, rfl⟩⟩
    rintro ⟨t, r, ht, hd⟩
    cases t with
    | row fs =>
      rw [hd, ← ht.1, show (Th.row fs).bytes = bytesOf fs from rfl, gets_bytes fs r ht.2] at hf
      cases hf
    | _ => exact ht.elim
  | some x =>
    obtain ⟨fs, k⟩ := x
    rw [gotS_some hf]
    obtain ⟨a1, a2, a3, a4⟩ := gets_is hf
    refine ⟨vals fs, _, true, ?_, rfl, hb, .inl ⟨.row fs, (l.drop p).drop k, ⟨a3, a4⟩, ?_, rfl, ?_, rfl⟩⟩
    · have := vals_few fs
      rw [show fs.length = ks.length by rw [← a3]; simp [kinds]] at this
      exact this
    · show _ = bytesOf fs ++ _
      rw [← a1, List.take_append_drop]
    · show _ = ((p + (bytesOf fs).length : Nat) : Int)
      rw [← a1, List.length_take, Nat.min_eq_left a2]

abbrev U (g : FuncId) : Value := .func (.func g) #[] #[]
theorem rdr_I : Rdr (.one .I) 55 (U 56) := ⟨_, #[], ready_I, readn_I, fun w v l p h1 h2 h3 => getter_one (fun w _ _ _ _ h hp _ => rd_int w h hp) w v l p h1 h2 h3⟩
theorem rdr_T : Rdr (.one .T) 18 (U 19) := ⟨_, #[], ready_T, readn_T, fun w v l p h1 h2 h3 => getter_one (fun w _ _ _ _ h hp _ => rd_text w h hp) w v l p h1 h2 h3⟩
theorem rdr_B : Rdr (.one .B) 16 (U 17) := ⟨_, #[], ready_B, readn_B, fun w v l p h1 h2 h3 => getter_one (fun w _ _ _ _ h _ _ => rd_truth w h) w v l p h1 h2 h3⟩
theorem rdr_V : Rdr (.one .V) 20 (U 21) := ⟨_, #[], ready_V, readn_V, fun w v l p h1 h2 h3 => getter_one (fun w _ _ _ _ h hp hl => rd_ver w h hp hl) w v l p h1 h2 h3⟩
theorem getter_O : Getter (.row KO) 23 := getter_row fun w v l p h1 h2 h3 => getop_any w v l p h1 h2 h3
theorem getter_E : Getter (.row KE) 25 := getter_row fun w v l p h1 h2 h3 => getentry_any w v l p h1 h2 h3
theorem rdr_O : Rdr (.row KO) 22 (U 23) := ⟨_, #[], ready_O, readn_O, fun w v l p h1 h2 h3 => getter_O w v l p h1 h2 h3⟩

/-- pointers to n cells, one behind the other -/
def Ptrs (w : World) (b g i n : Nat) : Prop := b < w.heap.size ∧ ∀ j, j < n → w.cell? ⟨b, j, none⟩ = some (.pointer (some ⟨g, i + j, none⟩))
theorem Ptrs.on {w w' : World} {b g i n : Nat} (h : Ptrs w b g i n) (e : w'.heap[b]? = w.heap[b]?) (hs : w.heap.size ≤ w'.heap.size) : Ptrs w' b g i n :=
  ⟨Nat.lt_of_lt_of_le h.1 hs, fun j hj => (World.cell?_of_block (a := ⟨b, j, none⟩) e).trans (h.2 j hj)⟩
theorem Stays.trans {gr ge : Nat} {a b c : World} (h1 : Stays gr ge a b) (h2 : Stays gr ge b c) : Stays gr ge a c :=
  ⟨Nat.le_trans h1.1 h2.1, fun k hk k1 k2 => (h2.2 k (Nat.lt_of_lt_of_le hk h1.1) k1 k2).trans (h1.2 k hk k1 k2)⟩
abbrev ints (n : Nat) : List TK := List.replicate n (.one .I)
theorem zerosT_ints : ∀ n, (zerosT (ints n)).length = n
  | 0 => rfl
  | n + 1 => by
    show ((TK.one .I).zero ++ zerosT (ints n)).length = _
    rw [List.length_append, zerosT_ints n]
    show 1 + n = _
    omega
theorem ints_more (n : Nat) : ints n ++ [.one .I] = ints (n + 1) := by
  show List.replicate n _ ++ [_] = List.replicate (n + 1) _
  rw [List.replicate_succ']
theorem ints_less {n k : Nat} (h : k < n) : ints (n - k) = .one .I :: ints (n - (k + 1)) := by
  show List.replicate _ _ = _ :: List.replicate _ _
  rw [← List.replicate_succ]
  congr 1
  omega

set_option maxRecDepth 100000 in
set_option maxHeartbeats 1000000 in
theorem ints_any {l : List UInt8} {p : Nat} {v : Value} {gr ge lo : Nat} {ks rest : List TK} {w0 : World} (n : Nat) (W : World) (b i : Nat) (hv : Seen w0 w0.heap.size v l) (hl : l.length ≤ 1000000000) (hp : p ≤ 1000000000) (hgr : w0.heap.size ≤ gr) (hge : w0.heap.size ≤ ge) (hne : gr ≠ ge) (hlr : gr < lo) (hle : ge < lo)
    (h : Sg l p v gr ge lo w0 ks (ints n ++ rest) W) (hi : i = (zerosT ks).length) (hP : Ptrs W b ge i n) (hn : n ≤ 1000) (hb1 : b ≠ gr) (hb2 : b ≠ ge) :
    Calls Try.prog 15 #[.pointer (some ⟨gr, 0, none⟩), .slice (some ⟨b, 0, none⟩) n n] W fun e W' => e = .returned (.tuple #[]) ∧ Sg l p v gr ge lo w0 (ks ++ ints n) rest W' ∧ Stays gr ge W W' := by
  have HP := Lib.hid hP
  have HS : Hid (∀ k W', k < n → Sg l p v gr ge lo w0 (ks ++ ints k) (ints (n - k) ++ rest) W' → Calls Try.prog 55 #[.pointer (some ⟨gr, 0, none⟩), .pointer (some ⟨ge, i + k, none⟩), U 56] W' fun e W'' => e = .returned (.tuple #[]) ∧ Sg l p v gr ge lo w0 (ks ++ ints (k + 1)) (ints (n - (k + 1)) ++ rest) W'' ∧ Stays gr ge W' W'') := fun k W' hk hs => by
    rw [ints_less hk] at hs
    have := Sg.step rdr_I hv hl hp hgr hge hne hlr hle hs (n := i + k) (by rw [zerosT_append, List.length_append, zerosT_ints, hi])
    rw [List.append_assoc, ints_more] at this
    exact this
  have H0 : Sg l p v gr ge lo w0 (ks ++ ints 0) (ints (n - 0) ++ rest) W := by
    rw [show ints 0 = [] from rfl, List.append_nil]; exact h
  clear hP h hv hi
  go_enter Try.func15, Try.ntmps15
  go_wp2
  go_loopw [8] (fun j wr => ∃ k : Nat, k ≤ n ∧ j = .int .i64 (k : Int) ∧ Sg l p v gr ge lo w0 (ks ++ ints k) (ints (n - k) ++ rest) wr ∧ Stays gr ge W wr) (fun j _ => n - (intOf j).toNat)
  case atStart => exact ⟨0, Nat.zero_le _, rfl, H0, Nat.le_refl _, fun _ _ _ _ => rfl⟩
  case round =>
    obtain ⟨k, hk, rfl, hs, hst⟩ := hrel
    by_cases hlt : k < n
    · have hPk := (HP.out.on (hst.2 b HP.out.1 hb2 hb1) hst.1).2 k hlt
      have i0' : (0 : Int) ≤ (k : Int) := by omega
      have i1 : (k : Int) < (n : Int) := by omega
      go_wp2_with (go_at_call 55; (with_reducible refine (HS.out k _ hlt hs).mono ?_); rintro e w1 ⟨rfl, hs1, hst1⟩)
      go_roundw
      case rel => exact ⟨k + 1, by omega, by go_num, hs1, hst.trans hst1⟩
      case measure => simp [intOf]; omega
    · obtain rfl : k = n := by omega
      go_wp2
      go_end0
      rw [Nat.sub_self] at hs
      exact ⟨rfl, hs, hst⟩

end Go.Proofs.Ytfikailgjmgnbaa
