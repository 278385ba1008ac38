/-
  What entry.GetOp comes to (made by entry-get-gen.py).
-/
import Derived.Test.YtfikailgjmgnbaaZp11
import Derived.Deep.RegionHeld3

namespace Go.Proofs.Ytfikailgjmgnbaa
open Go.RowKit Flo
attribute [local go_sem ↓] Go.wp_at_zero Go.wp_at_succ

theorem St.start (w : World) (v : Value) (l : List UInt8) (p : Nat) (ks : List Knd) (zs : List Value) (T U : TypeId) (hz : ks.map Knd.zero = zs) :
    St l p v (w.heap.size + 1 + 1) (w.heap.size + 1) [] ks (w.alloc (.cells zs.toArray T)) (((w.alloc (.cells zs.toArray T)).alloc (.cells zs.toArray T)).alloc (.cells #[v, .int .i64 (p : Int), .bool true] U)) := by
  have h1 := heldF_made (w.alloc (.cells zs.toArray T)) zs T
  have h2 := heldF_made ((w.alloc (.cells zs.toArray T)).alloc (.cells zs.toArray T)) [v, .int .i64 (p : Int), .bool true] U
  have e1 : (w.alloc (.cells zs.toArray T)).heap.size = w.heap.size + 1 := by simp
  have e2 : ((w.alloc (.cells zs.toArray T)).alloc (.cells zs.toArray T)).heap.size = w.heap.size + 1 + 1 := by simp
  have hb := bal ((w.alloc (.cells zs.toArray T)).alloc (.cells zs.toArray T)) (.cells #[v, .int .i64 (p : Int), .bool true] U)
  refine ⟨bt (bal _ _) hb, .inl ⟨[], 0, rfl, ?_, ?_⟩⟩
  · rw [e2] at h2; exact h2
  · have := h1.on hb
    rw [e1] at this
    rw [hz]
    exact this
theorem gotS_some {ks : List Knd} {l : List UInt8} {p k : Nat} {fs : List Fld} (h : gets ks (l.drop p) = some (fs, k)) : gotS ks l p = .tuple #[.agg (fs.map Fld.val).toArray, .int .i64 ((p + k : Nat) : Int), .bool true] := by unfold gotS; rw [h]
theorem gotS_none {ks : List Knd} {l : List UInt8} {p : Nat} (h : gets ks (l.drop p) = none) : gotS ks l p = .tuple #[.agg (ks.map Knd.zero).toArray, .int .i64 0, .bool false] := by unfold gotS; rw [h]

theorem run_loadVar_held {T : TypeId} {g : Nat} {vs : List Value} {W : World} (hsz : (Try.prog.info? T).map (·.size) = some vs.length) (ha : (isAgg T).run Try.prog W = .ok true W) (h : Held g vs W) : (loadVar T ⟨g, 0, none⟩).run Try.prog W = .ok (.agg vs.toArray) W := by
  obtain ⟨i, hi, hz⟩ : ∃ i, Try.prog.info? T = some i ∧ i.size = vs.length := by
    cases hq : Try.prog.info? T with
    | none => rw [hq] at hsz; cases hsz
    | some i => rw [hq] at hsz; exact ⟨i, rfl, Option.some.inj hsz⟩
  have hs : (sizeOf T).run Try.prog W = .ok vs.length W := by simp [sizeOf, typeInfo, hi, hz]
  have hl := run_loadCells_list (P := Try.prog) W ⟨g, 0, none⟩ vs (fun j u hu => by
    obtain ⟨hj, e⟩ := List.getElem?_eq_some_iff.1 hu
    rw [Addr.add_lit, Nat.zero_add, ← e]
    exact h.2 j hj)
  simp only [loadVar, Sem.run_bind, Sem.run_pure, Result.andThen_ok, ha, hs, hl, if_true]
theorem results_cell3 {fn : Func} {p u x : Tmp} {ty : TypeId} (h : fn.results = #[.cell p ty, .tmp u, .tmp x]) {P : Program} {w : World} {tmps : Array Value} {a : Addr} {v : Value} (ha : tmps.getD p undef = .pointer (some a)) (hl : (loadVar ty a).run P w = .ok v w) :
    (results fn tmps).run P w = .ok (.tuple #[v, tmps.getD u undef, tmps.getD x undef]) w := by
  have h2 : (asAddr (tmps.getD p undef)).run P w = .ok a w := by rw [ha]; rfl
  rw [Array.getD_eq_getD_getElem?] at h2
  simp only [results, h]
  simp [Sem.run_bind, Result.andThen, h2, hl]
theorem op_info : (Try.prog.info? 27).map (·.size) = some 5 := by kernel_rfl
theorem op_agg (W : World) : (isAgg 27).run Try.prog W = .ok true W := by simp [isAgg, run_underlying Try.underlying27]
theorem entry_info : (Try.prog.info? 68).map (·.size) = some 11 := by kernel_rfl
theorem entry_agg (W : World) : (isAgg 68).run Try.prog W = .ok true W := by simp [isAgg, run_underlying Try.underlying68]

set_option maxRecDepth 100000 in
set_option maxHeartbeats 4000000 in
theorem getop_any (w : World) (v : Value) (l : List UInt8) (p : Nat) (hv : Seen w w.heap.size v l) (hl : l.length ≤ 1000000000) (hp : p ≤ 1000000000) :
    Calls Try.prog 23 #[v, .int .i64 (p : Int)] w fun e w' => e = .returned (gotS KO l p) ∧ Below w.heap.size w w' := by
  have HV := Lib.hid hv
  obtain ⟨A, c, rfl, hA⟩ := hv
  have S0 := St.start w (.slice A l.length c) l p KO [.int .i64 0, .string ⟨#[]⟩, .string ⟨#[]⟩, .string ⟨#[]⟩, .bool false] 27 122 rfl
  have H0 := Lib.hid (heldF_made w [.int .i64 0, .string ⟨#[]⟩, .string ⟨#[]⟩, .string ⟨#[]⟩, .bool false] 27)
  have hb0 : Hid (Below w.heap.size w (w.alloc (.cells #[.int .i64 0, .string ⟨#[]⟩, .string ⟨#[]⟩, .string ⟨#[]⟩, .bool false] 27))) := bal _ _
  have W0 : Hid (w.heap.size + 1 = (w.alloc (.cells #[.int .i64 0, .string ⟨#[]⟩, .string ⟨#[]⟩, .string ⟨#[]⟩, .bool false] 27)).heap.size) := by show _ = _; simp
  obtain ⟨w0, hw0⟩ : ∃ w0, w0 = (w.alloc (.cells #[.int .i64 0, .string ⟨#[]⟩, .string ⟨#[]⟩, .string ⟨#[]⟩, .bool false] 27)) := ⟨_, rfl⟩
  rw [← hw0] at H0 hb0 W0
  have S0' : St l p (.slice A l.length c) (w.heap.size + 1 + 1) (w.heap.size + 1) [] [.I, .T, .T, .T, .B] w0 (((w.alloc (.cells #[.int .i64 0, .string ⟨#[]⟩, .string ⟨#[]⟩, .string ⟨#[]⟩, .bool false] 27)).alloc (.cells #[.int .i64 0, .string ⟨#[]⟩, .string ⟨#[]⟩, .string ⟨#[]⟩, .bool false] 27)).alloc (.cells #[.slice A l.length c, .int .i64 (p : Int), .bool true] 122)) := by rw [hw0]; exact S0
  have HS := Lib.hid ((HV.out.on hb0.out))
  have G1 : Hid (w0.heap.size ≤ w.heap.size + 1) := Nat.le_of_eq W0.out.symm
  have G2 : Hid (w0.heap.size ≤ w.heap.size + 1 + 1) := Nat.le_trans G1.out (Nat.le_succ _)
  have G3 : Hid (w.heap.size + 1 + 1 ≠ w.heap.size + 1) := by show _ ≠ _; omega
  have R1 : Hid (∀ W, St l p (.slice A l.length c) (w.heap.size + 1 + 1) (w.heap.size + 1) [] [.I, .T, .T, .T, .B] w0 W → Calls Try.prog 59 #[.pointer (some ⟨w.heap.size + 1 + 1, 0, none⟩), .pointer (some ⟨w.heap.size + 1, 0, none⟩), .func (.func 56) #[] #[]] W fun e W' => e = .returned (.tuple #[]) ∧ St l p (.slice A l.length c) (w.heap.size + 1 + 1) (w.heap.size + 1) [.I] [.T, .T, .T, .B] w0 W') := fun W h => St.step (K := .I) (ks := []) (rest := [.T, .T, .T, .B]) (W := W) (n := 0) reader_I HS.out hl hp G2.out G1.out G3.out h rfl
  have R2 : Hid (∀ W, St l p (.slice A l.length c) (w.heap.size + 1 + 1) (w.heap.size + 1) [.I] [.T, .T, .T, .B] w0 W → Calls Try.prog 60 #[.pointer (some ⟨w.heap.size + 1 + 1, 0, none⟩), .pointer (some ⟨w.heap.size + 1, 1, none⟩), .func (.func 19) #[] #[]] W fun e W' => e = .returned (.tuple #[]) ∧ St l p (.slice A l.length c) (w.heap.size + 1 + 1) (w.heap.size + 1) [.I, .T] [.T, .T, .B] w0 W') := fun W h => St.step (K := .T) (ks := [.I]) (rest := [.T, .T, .B]) (W := W) (n := 1) reader_T HS.out hl hp G2.out G1.out G3.out h rfl
  have R3 : Hid (∀ W, St l p (.slice A l.length c) (w.heap.size + 1 + 1) (w.heap.size + 1) [.I, .T] [.T, .T, .B] w0 W → Calls Try.prog 60 #[.pointer (some ⟨w.heap.size + 1 + 1, 0, none⟩), .pointer (some ⟨w.heap.size + 1, 2, none⟩), .func (.func 19) #[] #[]] W fun e W' => e = .returned (.tuple #[]) ∧ St l p (.slice A l.length c) (w.heap.size + 1 + 1) (w.heap.size + 1) [.I, .T, .T] [.T, .B] w0 W') := fun W h => St.step (K := .T) (ks := [.I, .T]) (rest := [.T, .B]) (W := W) (n := 2) reader_T HS.out hl hp G2.out G1.out G3.out h rfl
  have R4 : Hid (∀ W, St l p (.slice A l.length c) (w.heap.size + 1 + 1) (w.heap.size + 1) [.I, .T, .T] [.T, .B] w0 W → Calls Try.prog 60 #[.pointer (some ⟨w.heap.size + 1 + 1, 0, none⟩), .pointer (some ⟨w.heap.size + 1, 3, none⟩), .func (.func 19) #[] #[]] W fun e W' => e = .returned (.tuple #[]) ∧ St l p (.slice A l.length c) (w.heap.size + 1 + 1) (w.heap.size + 1) [.I, .T, .T, .T] [.B] w0 W') := fun W h => St.step (K := .T) (ks := [.I, .T, .T]) (rest := [.B]) (W := W) (n := 3) reader_T HS.out hl hp G2.out G1.out G3.out h rfl
  have R5 : Hid (∀ W, St l p (.slice A l.length c) (w.heap.size + 1 + 1) (w.heap.size + 1) [.I, .T, .T, .T] [.B] w0 W → Calls Try.prog 61 #[.pointer (some ⟨w.heap.size + 1 + 1, 0, none⟩), .pointer (some ⟨w.heap.size + 1, 4, none⟩), .func (.func 17) #[] #[]] W fun e W' => e = .returned (.tuple #[]) ∧ St l p (.slice A l.length c) (w.heap.size + 1 + 1) (w.heap.size + 1) [.I, .T, .T, .T, .B] [] w0 W') := fun W h => St.step (K := .B) (ks := [.I, .T, .T, .T]) (rest := []) (W := W) (n := 4) reader_B HS.out hl hp G2.out G1.out G3.out h rfl
  clear hA hw0 S0
  go_enter Try.func23, Try.ntmps23
  go_wp2_with (first
    | (go_at_call 59; (refine (R1.out _ S0').mono ?_); rintro e w1 ⟨rfl, S1⟩)
    | (go_at_call 60; (with_reducible refine (R2.out _ S1).mono ?_); rintro e w2 ⟨rfl, S2⟩)
    | (go_at_call 60; (with_reducible refine (R3.out _ S2).mono ?_); rintro e w3 ⟨rfl, S3⟩)
    | (go_at_call 60; (with_reducible refine (R4.out _ S3).mono ?_); rintro e w4 ⟨rfl, S4⟩))
  go_at_call 61
  refine (R5.out _ S4).mono ?_
  rintro e wn ⟨rfl, hb, hst⟩
  clear R1 R2 R3 R4 R5 S1 S2 S3 S4 S0'
  have HB := Lib.hid (bt hb0.out hb)
  have HZ := H0.out.on hb
  clear hb hb0 H0 G1 G2 W0 HS
  rcases hst with ⟨fs, k, hg, hr, he⟩ | ⟨hg, x, vs, hlen, hr, he⟩
  · have HG := Lib.hid hg
    have hk := (gets_is hg).2.2.1
    obtain ⟨kd, key, val, old, has, rfl⟩ := kinds_op hk
    have C1 := hr.held.all
    have C2 := he.held.all
    simp only [cellsAre, Nat.zero_add, Nat.reduceAdd] at C1
    simp only [List.map_cons, List.map_nil, List.append_nil, Fld.val, cellsAre, Nat.zero_add, Nat.reduceAdd] at C2
    have HR : Hid (gotS KO l p = _) := gotS_some hg
    have GV := Lib.hid HV
    have Z0 : wn.cell? ⟨w.heap.size, 0, none⟩ = some (.int .i64 0) ∧ wn.frozen? ⟨w.heap.size, 0, none⟩ = false := HZ.2 0 (by simp)
    have Z1 : wn.cell? ⟨w.heap.size, 1, none⟩ = some (.string ⟨#[]⟩) ∧ wn.frozen? ⟨w.heap.size, 1, none⟩ = false := HZ.2 1 (by simp)
    have Z2 : wn.cell? ⟨w.heap.size, 2, none⟩ = some (.string ⟨#[]⟩) ∧ wn.frozen? ⟨w.heap.size, 2, none⟩ = false := HZ.2 2 (by simp)
    have Z3 : wn.cell? ⟨w.heap.size, 3, none⟩ = some (.string ⟨#[]⟩) ∧ wn.frozen? ⟨w.heap.size, 3, none⟩ = false := HZ.2 3 (by simp)
    have Z4 : wn.cell? ⟨w.heap.size, 4, none⟩ = some (.bool false) ∧ wn.frozen? ⟨w.heap.size, 4, none⟩ = false := HZ.2 4 (by simp)
    have HF1 : Hid (Held w.heap.size [.int .i64 kd, .string key, .string val, .string old, .bool has] (((((wn.setCell ⟨w.heap.size, 0, none⟩ (.int .i64 kd)).setCell ⟨w.heap.size, 1, none⟩ (.string key)).setCell ⟨w.heap.size, 2, none⟩ (.string val)).setCell ⟨w.heap.size, 3, none⟩ (.string old)).setCell ⟨w.heap.size, 4, none⟩ (.bool has)).drew) := (((((HZ.set 0 (by simp) (.int .i64 kd)).set 1 (by simp) (.string key)).set 2 (by simp) (.string val)).set 3 (by simp) (.string old)).set 4 (by simp) (.bool has)).drew.held
    have HF2 : Hid (Below w.heap.size w (((((wn.setCell ⟨w.heap.size, 0, none⟩ (.int .i64 kd)).setCell ⟨w.heap.size, 1, none⟩ (.string key)).setCell ⟨w.heap.size, 2, none⟩ (.string val)).setCell ⟨w.heap.size, 3, none⟩ (.string old)).setCell ⟨w.heap.size, 4, none⟩ (.bool has)).drew) := (((((HB.out.setCell (Nat.le_refl _) _).setCell (Nat.le_refl _) _).setCell (Nat.le_refl _) _).setCell (Nat.le_refl _) _).setCell (Nat.le_refl _) _).drew
    clear hr he hk hg HZ
    obtain ⟨c10, c11, c12⟩ := C1
    have D1 : ¬ w.heap.size + 1 + 1 = w.heap.size := by omega
    have D2 : ¬ w.heap.size + 1 = w.heap.size := by omega
    have D3 : ¬ w.heap.size = w.heap.size + 1 + 1 := by omega
    go_wp2
    go_region_held3 (fun W => W.cell? ⟨w.heap.size + 1, 0, none⟩ = some (.int .i64 kd) ∧ W.cell? ⟨w.heap.size + 1, 1, none⟩ = some (.string key) ∧ W.cell? ⟨w.heap.size + 1, 2, none⟩ = some (.string val) ∧ W.cell? ⟨w.heap.size + 1, 3, none⟩ = some (.string old) ∧ W.cell? ⟨w.heap.size + 1, 4, none⟩ = some (.bool has) ∧ W.cell? ⟨w.heap.size + 1 + 1, 1, none⟩ = some (.int .i64 ((p + k : Nat) : Int))) (go_keep) (fail)
    go_wp2
    (try simp only [Exit.inBlock, Exit.then])
    refine bodyPost_ret (results_cell3 (p := 4) (u := 5) (x := 6) (a := ⟨w.heap.size, 0, none⟩) rfl rfl (run_loadVar_held (vs := [.int .i64 kd, .string key, .string val, .string old, .bool has]) op_info (op_agg _) HF1.out)) rfl ?_
    exact ⟨by rw [HR.out]; rfl, HF2.out⟩
  · have C1 := hr.held.all
    simp only [cellsAre, Nat.zero_add, Nat.reduceAdd] at C1
    obtain ⟨c10, c11, c12⟩ := C1
    have HR : Hid (gotS KO l p = _) := gotS_none hg
    have Z0 : wn.cell? ⟨w.heap.size, 0, none⟩ = some (.int .i64 0) ∧ wn.frozen? ⟨w.heap.size, 0, none⟩ = false := HZ.2 0 (by simp)
    have Z1 : wn.cell? ⟨w.heap.size, 1, none⟩ = some (.string ⟨#[]⟩) ∧ wn.frozen? ⟨w.heap.size, 1, none⟩ = false := HZ.2 1 (by simp)
    have Z2 : wn.cell? ⟨w.heap.size, 2, none⟩ = some (.string ⟨#[]⟩) ∧ wn.frozen? ⟨w.heap.size, 2, none⟩ = false := HZ.2 2 (by simp)
    have Z3 : wn.cell? ⟨w.heap.size, 3, none⟩ = some (.string ⟨#[]⟩) ∧ wn.frozen? ⟨w.heap.size, 3, none⟩ = false := HZ.2 3 (by simp)
    have Z4 : wn.cell? ⟨w.heap.size, 4, none⟩ = some (.bool false) ∧ wn.frozen? ⟨w.heap.size, 4, none⟩ = false := HZ.2 4 (by simp)
    have HF1 : Hid (Held w.heap.size [.int .i64 0, .string ⟨#[]⟩, .string ⟨#[]⟩, .string ⟨#[]⟩, .bool false] (((((wn.setCell ⟨w.heap.size, 0, none⟩ (.int .i64 0)).setCell ⟨w.heap.size, 1, none⟩ (.string ⟨#[]⟩)).setCell ⟨w.heap.size, 2, none⟩ (.string ⟨#[]⟩)).setCell ⟨w.heap.size, 3, none⟩ (.string ⟨#[]⟩)).setCell ⟨w.heap.size, 4, none⟩ (.bool false))) := (((((HZ.set 0 (by simp) (.int .i64 0)).set 1 (by simp) (.string ⟨#[]⟩)).set 2 (by simp) (.string ⟨#[]⟩)).set 3 (by simp) (.string ⟨#[]⟩)).set 4 (by simp) (.bool false)).held
    have HF2 : Hid (Below w.heap.size w (((((wn.setCell ⟨w.heap.size, 0, none⟩ (.int .i64 0)).setCell ⟨w.heap.size, 1, none⟩ (.string ⟨#[]⟩)).setCell ⟨w.heap.size, 2, none⟩ (.string ⟨#[]⟩)).setCell ⟨w.heap.size, 3, none⟩ (.string ⟨#[]⟩)).setCell ⟨w.heap.size, 4, none⟩ (.bool false))) := (((((HB.out.setCell (Nat.le_refl _) _).setCell (Nat.le_refl _) _).setCell (Nat.le_refl _) _).setCell (Nat.le_refl _) _).setCell (Nat.le_refl _) _)
    clear hr he hg HZ hlen
    go_wp2
    (try simp only [Exit.inBlock, Exit.then])
    refine bodyPost_ret (results_cell3 (p := 4) (u := 5) (x := 6) (a := ⟨w.heap.size, 0, none⟩) rfl rfl (run_loadVar_held (vs := [.int .i64 0, .string ⟨#[]⟩, .string ⟨#[]⟩, .string ⟨#[]⟩, .bool false]) op_info (op_agg _) HF1.out)) rfl ?_
    exact ⟨by rw [HR.out]; rfl, HF2.out⟩

end Go.Proofs.Ytfikailgjmgnbaa
