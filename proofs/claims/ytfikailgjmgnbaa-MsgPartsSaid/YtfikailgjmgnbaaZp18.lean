/-
  What msg.putList comes to, of a list of kind M (made by msg-putlist-gen.py).
  What msg.putView comes to (made by msg-put-gen.py).
  What msg.putList comes to, of a list of kind E (made by msg-putlist-gen.py).
  What msg.putList comes to, of a list of kind S (made by msg-putlist-gen.py).
  What msg.putList comes to, of a list of kind W (made by msg-putlist-gen.py).
-/
import Derived.Test.YtfikailgjmgnbaaZp17

namespace Go.Proofs.Ytfikailgjmgnbaa
open Go.RowKit Flo
attribute [local go_sem ↓] Go.wp_at_zero Go.wp_at_succ

theorem psz_M : (Try.prog.info? 73).map (·.size) = some 2 := by kernel_rfl
theorem pag_M (W : World) : (isAgg 73).run Try.prog W = .ok true W := by simp [isAgg, run_underlying Try.underlying73]
theorem to_lpM (X : Value) : Instr.loadAt 73 X = ldT 73 X := rfl
theorem to_spM (X Y : Value) : Instr.storeAt 73 X Y = stT 73 X Y := rfl
theorem run_lpM (W : World) (g o : Nat) (h : WhAt W g o 2) : (ldT 73 (.pointer (some ⟨g, o, none⟩))).run Try.prog W = .ok (.agg (wholeAt W g o 2)) W := run_ldAt _ 2 psz_M pag_M W g o h
theorem run_spM (w : World) (cs : List Value) (hf : Few 2 cs) : (stT 73 (.pointer (some ⟨w.heap.size, 0, none⟩)) (.agg cs.toArray)).run Try.prog (w.alloc (.cells #[.int .i64 0, .int .i64 0] 73)) = .ok () (w.alloc (.cells cs.toArray 73)) :=
  run_storeAt_new w 73 #[.int .i64 0, .int .i64 0] cs.toArray (by rw [psz_M, List.size_toArray, hf.1]) (by rw [show cs.toArray.size = 2 by simpa using hf.1]; rfl) (all_oneCell_toArray hf.2)
section
attribute [local go_sem ↓] to_lpM to_spM
attribute [local go_sem] run_lpM run_spM
set_option maxRecDepth 100000 in
set_option maxHeartbeats 2000000 in
theorem putlist_M (PI : Putter (.row KM) 51) (w : World) (B : Nat) (x0 v : Value) (l : List UInt8) (t : Th) (ht : (.list KM : TK).is t) (hv : (.list KM : TK).lies (· < B) w t [v]) (hr : Room w B x0 l) (hB : B ≤ w.heap.size) (hlen : l.length + t.bytes.length ≤ 200000000000) :
    Calls Try.prog 50 #[x0, v, .func (.func 51) #[] #[]] w (AddsE w B x0 l t.bytes) := by
  obtain ⟨its, hl, hi, hbt, hit⟩ := (at_rows KM).items _ w t v ht hv
  rw [hbt] at hlen ⊢
  obtain ⟨N, hN⟩ : ∃ N, N = its.length := ⟨_, rfl⟩
  obtain ⟨Wn, hWn⟩ : ∃ Wn, Wn = wint (its.length : Int) := ⟨_, rfl⟩
  rw [← hWn] at hlen ⊢
  rw [List.length_append] at hlen
  have HI := Lib.hid hi
  have hitk := Lib.hid (fun wr (hb : Below B w wr) => hit.keep (kept_below hb))
  have HN := Lib.hid hN
  obtain ⟨A, c, rfl, hlc, hcm, hA⟩ := hit
  have HA := Lib.hid hA
  rw [← hN] at hlc hl ⊢
  have R0 : Hid (Calls Try.prog 71 #[x0, .int .i64 (N : Int)] w (AddsE w B x0 l Wn)) := by
    have := int_adds (N : Int) w B x0 l (by omega) (by omega) hr hB (by omega)
    rw [hWn, ← hN]
    exact this
  have PIH := Lib.hid PI
  have HT : Hid (∀ k (h : k < its.length), bytesT (its.take (k + 1)) = bytesT (its.take k) ++ its[k].bytes) := fun k h => by rw [List.take_succ_eq_append_getElem h, bytesT_snoc]
  have HLe : Hid (∀ k, k ≤ its.length → (bytesT (its.take k)).length ≤ (bytesT its).length) := fun k _ => by
    have h := bytesT_append (its.take k) (its.drop k)
    rw [List.take_append_drop] at h
    rw [h, List.length_append]; omega
  clear hbt hA hi hr hN hWn hv ht PI
  go_enter Try.func50, Try.ntmps50
  go_wp2_with (go_at_call 71; (with_reducible refine R0.out.mono ?_); rintro e w0 ⟨v0, rfl, ha0⟩)
  go_loopw [0, 15] (fun u j wr => ∃ k : Nat, k ≤ N ∧ j = .int .i64 (k : Int) ∧ Adds w B x0 l (Wn ++ bytesT (its.take k)) wr u) (fun _ j _ => N - (intOf j).toNat)
  case atStart => exact ⟨0, Nat.zero_le _, rfl, by rw [List.take_zero, bytesT, List.append_nil]; exact ha0⟩
  case round =>
    obtain ⟨k, hk, rfl, ha⟩ := hrel
    by_cases hlt : k < N
    · have hlt' : k < its.length := by rw [← HN.out]; exact hlt
      obtain ⟨A', c', e, _, _, h3⟩ := hitk.out wr ha.2.1
      rw [← HN.out] at e
      injection e with e1 _ e3
      subst e1 e3
      rcases h3 with h3 | ⟨b, off, css, rfl, hbB, hbw, hcl, hcs⟩
      · rw [h3] at hlt'; cases hlt'
      have hkc : k < css.length := by rw [hcl]; exact hlt'
      obtain ⟨q1, q2, q3⟩ := hcs k hlt' hkc
      have hik := HI.out _ (List.getElem_mem hlt')
      obtain ⟨cs, hcse⟩ : ∃ cs, cs = css[k] := ⟨_, rfl⟩
      rw [← hcse] at q1 q2
      have q3 : ∀ j (hj : j < cs.length), wr.cell? ⟨b, off + k * 2 + j, none⟩ = some cs[j] := by subst hcse; exact q3
      have hf : Few 2 cs := ⟨q1, (shape_few (lies_shape q2 hik)).2⟩
      obtain ⟨D1, D2⟩ : WhAt wr b (off + k * 2) 2 ∧ wholeAt wr b (off + k * 2) 2 = cs.toArray := whole_cells q1 q3
      have hh := held_made wr cs 73
      obtain ⟨C1, C2⟩ : WhAt (wr.alloc (.cells cs.toArray 73)) wr.heap.size 0 2 ∧ wholeAt (wr.alloc (.cells cs.toArray 73)) wr.heap.size 0 2 = cs.toArray := whole_cells (W := wr.alloc (.cells cs.toArray 73)) (g := wr.heap.size) (o := 0) q1 (fun j hj => by rw [Nat.zero_add]; exact hh.2 j hj)
      have hbx : Below wr.heap.size wr (wr.alloc (.cells cs.toArray 73)) := bal _ _
      have hBw := Nat.le_trans hB ha.2.1.size
      have hle1 := HLe.out (k + 1) hlt'
      have hle0 := HLe.out k (by omega)
      have HTk := Lib.hid (HT.out k hlt')
      have hle2 : (bytesT (its.take k)).length + its[k].bytes.length ≤ (bytesT its).length := by rw [HTk.out, List.length_append] at hle1; exact hle1
      have RP : Hid (Calls Try.prog 51 #[u0, .agg cs.toArray] (wr.alloc (.cells cs.toArray 73)) (AddsE (wr.alloc (.cells cs.toArray 73)) B u0 (l ++ (Wn ++ bytesT (its.take k))) its[k].bytes)) :=
        PIH.out _ B u0 _ _ cs hik (lies_keep q2 (kept_below (hbx.mono hBw))) (ha.1.on hbx) (Nat.le_trans hBw hbx.size) (by rw [List.length_append, List.length_append]; omega)
      have i0' : (0 : Int) ≤ (k : Int) := by omega
      have i1 : (k : Int) < (N : Int) := by omega
      clear hh q1 q2 q3 hcs hcse hle0 hle1 hle2 hik
      go_wp2_with (go_at_call 51; (with_reducible refine RP.out.mono ?_); rintro e w1 ⟨v1, rfl, ha1⟩)
      go_roundw
      case rel =>
        refine ⟨k + 1, by omega, by go_num, ?_⟩
        rw [HTk.out, ← List.append_assoc]
        exact ha.trans (ha1.ahead hbx hBw)
      case measure => simp [intOf]; omega
    · have hkl : Hid (its.take k = its) := List.take_of_length_le (by rw [← HN.out]; omega)
      go_wp2
      go_ret
      rw [hkl.out] at ha
      exact ⟨_, rfl, ha⟩
end

end Go.Proofs.Ytfikailgjmgnbaa

namespace Go.Proofs.Ytfikailgjmgnbaa
open Go.RowKit Flo
attribute [local go_sem ↓] Go.wp_at_zero Go.wp_at_succ

theorem lputter_M : LPutter (.list KM) 50 51 := fun w B u v l t ht hl hr hB hlen => putlist_M putter_M w B u v l t ht hl hr hB hlen
set_option maxRecDepth 100000 in
set_option maxHeartbeats 400000 in
theorem ter_W_any (a b c d : Int) (ys : List (List Fld)) (cv : Value) (w : World) (B : Nat) (u : Value) (l : List UInt8) (hroom : Room w B u l) (hB : B ≤ w.heap.size) (hlen : l.length + (viewB ([.int a, .int b, .int c, .int d], ys)).length ≤ 200000000000) (r0 : (Fld.int a).right) (r1 : (Fld.int b).right) (r2 : (Fld.int c).right) (r3 : (Fld.int d).right) (hys : (TK.list KM).is (.list ys)) (hcv : StructsX (· < B) w cv 2 (ys.map vals)) :
    Calls Try.prog 53 #[u, .agg #[.int .i64 a, .int .i64 b, .int .i64 c, .int .i64 d, cv]] w (AddsE w B u l (viewB ([.int a, .int b, .int c, .int d], ys))) := by
  have HB := Lib.hid hB
  obtain ⟨m1, hm1⟩ : ∃ x, x = bytesOf (([a, b, c, d] : List Int).map .int) := ⟨_, rfl⟩
  obtain ⟨m2, hm2⟩ : ∃ x, x = entB ys := ⟨_, rfl⟩
  have hlens : l.length + (m1.length + m2.length) ≤ 200000000000 := by
    rw [hm1, hm2]
    simp only [bytesOf, List.length_append, List.length_nil, List.map_cons, List.map_nil, Fld.bytes, viewB, entB] at hlen ⊢
    omega
  have hw1 : Below B w (w.alloc (.cells #[.int .i64 a, .int .i64 b, .int .i64 c, .int .i64 d, cv] 78)) := (bal w _).mono hB
  have S0 := StepT.start (w := w) [.int .i64 a, .int .i64 b, .int .i64 c, .int .i64 d, cv] 78 hroom hB
  have R1 : Hid (∀ W xw bk cz, StepT B u l w.heap.size [.int .i64 a, .int .i64 b, .int .i64 c, .int .i64 d, cv] (w.alloc (.cells #[.int .i64 a, .int .i64 b, .int .i64 c, .int .i64 d, cv] 78)) [] W xw → bk = W.heap.size → cz = (([a, b, c, d] : List Int).map (Value.int .i64)).toArray → Calls Try.prog 43 #[xw, .slice (some ⟨bk, 0, none⟩) 4 4] (W.alloc (.cells cz 3)) (StepE B u l w.heap.size [.int .i64 a, .int .i64 b, .int .i64 c, .int .i64 d, cv] (w.alloc (.cells #[.int .i64 a, .int .i64 b, .int .i64 c, .int .i64 d, cv] 78)) ([] ++ m1))) := fun W xw bk cz h hb hcs => by
    rw [hm1]
    exact step_ints [a, b, c, d] 4 bk _ cz h hb hcs rfl (by decide) (by
      intro qq hq
      simp only [List.mem_cons, List.not_mem_nil, or_false] at hq
      rcases hq with h0 | h0 | h0 | h0
      · rw [h0]; exact r0
      · rw [h0]; exact r1
      · rw [h0]; exact r2
      · rw [h0]; exact r3) (by simp only [List.length_nil]; omega)
  have R2 : Hid (∀ W xw, StepT B u l w.heap.size [.int .i64 a, .int .i64 b, .int .i64 c, .int .i64 d, cv] (w.alloc (.cells #[.int .i64 a, .int .i64 b, .int .i64 c, .int .i64 d, cv] 78)) ([] ++ m1) W xw → Calls Try.prog 50 #[xw, cv, .func (.func 51) #[] #[]] W (StepE B u l w.heap.size [.int .i64 a, .int .i64 b, .int .i64 c, .int .i64 d, cv] (w.alloc (.cells #[.int .i64 a, .int .i64 b, .int .i64 c, .int .i64 d, cv] 78)) (([] ++ m1) ++ m2))) := fun W xw h => by
    have hq : m2 = (Th.bytes (.list ys)) := hm2
    rw [hq]
    exact step_list (L := .list KM) lputter_M h hw1 (hys) (⟨cv, rfl, hcv⟩) (by rw [← hq]; simp only [List.length_append, List.length_nil]; omega)
  clear hroom hlens hw1 hlen hcv hys
  have c0 := S0.cell 0 (x := .int .i64 a) rfl
  have c1 := S0.cell 1 (x := .int .i64 b) rfl
  have c2 := S0.cell 2 (x := .int .i64 c) rfl
  have c3 := S0.cell 3 (x := .int .i64 d) rfl
  go_enter Try.func53, Try.ntmps53
  go_wp2_with fail
  go_at_call 43
  (refine (R1.out _ _ _ _ S0 (by simp) rfl).mono ?_)
  rintro e w1 ⟨v1, rfl, S1⟩
  clear c0 c1 c2 c3
  have c4 := S1.cell 4 (x := cv) rfl
  go_wp2_with (first
    | (go_at_call 50; (with_reducible refine (R2.out _ _ S1).mono ?_); rintro e w2 ⟨v2, rfl, S2⟩))
  go_ret
  refine ⟨_, rfl, ?_⟩
  have h := Adds.ahead (bal w _) HB.out S2.1
  rw [hm1, hm2] at h
  simp only [bytesOf, List.map_cons, List.map_nil, Fld.bytes, List.nil_append, List.append_nil, List.append_assoc, entB, viewB] at h ⊢
  exact h
theorem putter_W : Putter .view 53 := fun w B u l t vs ht hl hroom hB hlen => by
  cases t with
  | view x =>
    obtain ⟨fs, ys⟩ := x
    obtain ⟨h1, h2, h3, h4⟩ := ht
    obtain ⟨a, b, c, d, rfl⟩ := kinds_v4 h1
    obtain ⟨cv, rfl, hcv⟩ := hl
    exact ter_W_any a b c d ys cv w B u l hroom hB hlen (h2 _ (by simp)) (h2 _ (by simp)) (h2 _ (by simp)) (h2 _ (by simp)) ⟨h3, h4⟩ hcv
  | _ => exact ht.elim

end Go.Proofs.Ytfikailgjmgnbaa

namespace Go.Proofs.Ytfikailgjmgnbaa
open Go.RowKit Flo
attribute [local go_sem ↓] Go.wp_at_zero Go.wp_at_succ

theorem psz_E : (Try.prog.info? 68).map (·.size) = some 11 := by kernel_rfl
theorem pag_E (W : World) : (isAgg 68).run Try.prog W = .ok true W := by simp [isAgg, run_underlying Try.underlying68]
theorem to_lpE (X : Value) : Instr.loadAt 68 X = ldT 68 X := rfl
theorem to_spE (X Y : Value) : Instr.storeAt 68 X Y = stT 68 X Y := rfl
theorem run_lpE (W : World) (g o : Nat) (h : WhAt W g o 11) : (ldT 68 (.pointer (some ⟨g, o, none⟩))).run Try.prog W = .ok (.agg (wholeAt W g o 11)) W := run_ldAt _ 11 psz_E pag_E W g o h
theorem run_spE (w : World) (cs : List Value) (hf : Few 11 cs) : (stT 68 (.pointer (some ⟨w.heap.size, 0, none⟩)) (.agg cs.toArray)).run Try.prog (w.alloc (.cells #[.complex .f64 0 0, .int .i64 0, .string ⟨#[]⟩, .string ⟨#[]⟩, .bool false, .bool false, .int .i64 0, .int .i64 0, .int .i64 0, .string ⟨#[]⟩, .bool false] 68)) = .ok () (w.alloc (.cells cs.toArray 68)) :=
  run_storeAt_new w 68 #[.complex .f64 0 0, .int .i64 0, .string ⟨#[]⟩, .string ⟨#[]⟩, .bool false, .bool false, .int .i64 0, .int .i64 0, .int .i64 0, .string ⟨#[]⟩, .bool false] cs.toArray (by rw [psz_E, List.size_toArray, hf.1]) (by rw [show cs.toArray.size = 11 by simpa using hf.1]; rfl) (all_oneCell_toArray hf.2)
section
attribute [local go_sem ↓] to_lpE to_spE
attribute [local go_sem] run_lpE run_spE
set_option maxRecDepth 100000 in
set_option maxHeartbeats 2000000 in
theorem putlist_E (PI : Putter (.row KE) 49) (w : World) (B : Nat) (x0 v : Value) (l : List UInt8) (t : Th) (ht : (.list KE : TK).is t) (hv : (.list KE : TK).lies (· < B) w t [v]) (hr : Room w B x0 l) (hB : B ≤ w.heap.size) (hlen : l.length + t.bytes.length ≤ 200000000000) :
    Calls Try.prog 48 #[x0, v, .func (.func 49) #[] #[]] w (AddsE w B x0 l t.bytes) := by
  obtain ⟨its, hl, hi, hbt, hit⟩ := (at_rows KE).items _ w t v ht hv
  rw [hbt] at hlen ⊢
  obtain ⟨N, hN⟩ : ∃ N, N = its.length := ⟨_, rfl⟩
  obtain ⟨Wn, hWn⟩ : ∃ Wn, Wn = wint (its.length : Int) := ⟨_, rfl⟩
  rw [← hWn] at hlen ⊢
  rw [List.length_append] at hlen
  have HI := Lib.hid hi
  have hitk := Lib.hid (fun wr (hb : Below B w wr) => hit.keep (kept_below hb))
  have HN := Lib.hid hN
  obtain ⟨A, c, rfl, hlc, hcm, hA⟩ := hit
  have HA := Lib.hid hA
  rw [← hN] at hlc hl ⊢
  have R0 : Hid (Calls Try.prog 71 #[x0, .int .i64 (N : Int)] w (AddsE w B x0 l Wn)) := by
    have := int_adds (N : Int) w B x0 l (by omega) (by omega) hr hB (by omega)
    rw [hWn, ← hN]
    exact this
  have PIH := Lib.hid PI
  have HT : Hid (∀ k (h : k < its.length), bytesT (its.take (k + 1)) = bytesT (its.take k) ++ its[k].bytes) := fun k h => by rw [List.take_succ_eq_append_getElem h, bytesT_snoc]
  have HLe : Hid (∀ k, k ≤ its.length → (bytesT (its.take k)).length ≤ (bytesT its).length) := fun k _ => by
    have h := bytesT_append (its.take k) (its.drop k)
    rw [List.take_append_drop] at h
    rw [h, List.length_append]; omega
  clear hbt hA hi hr hN hWn hv ht PI
  go_enter Try.func48, Try.ntmps48
  go_wp2_with (go_at_call 71; (with_reducible refine R0.out.mono ?_); rintro e w0 ⟨v0, rfl, ha0⟩)
  go_loopw [0, 15] (fun u j wr => ∃ k : Nat, k ≤ N ∧ j = .int .i64 (k : Int) ∧ Adds w B x0 l (Wn ++ bytesT (its.take k)) wr u) (fun _ j _ => N - (intOf j).toNat)
  case atStart => exact ⟨0, Nat.zero_le _, rfl, by rw [List.take_zero, bytesT, List.append_nil]; exact ha0⟩
  case round =>
    obtain ⟨k, hk, rfl, ha⟩ := hrel
    by_cases hlt : k < N
    · have hlt' : k < its.length := by rw [← HN.out]; exact hlt
      obtain ⟨A', c', e, _, _, h3⟩ := hitk.out wr ha.2.1
      rw [← HN.out] at e
      injection e with e1 _ e3
      subst e1 e3
      rcases h3 with h3 | ⟨b, off, css, rfl, hbB, hbw, hcl, hcs⟩
      · rw [h3] at hlt'; cases hlt'
      have hkc : k < css.length := by rw [hcl]; exact hlt'
      obtain ⟨q1, q2, q3⟩ := hcs k hlt' hkc
      have hik := HI.out _ (List.getElem_mem hlt')
      obtain ⟨cs, hcse⟩ : ∃ cs, cs = css[k] := ⟨_, rfl⟩
      rw [← hcse] at q1 q2
      have q3 : ∀ j (hj : j < cs.length), wr.cell? ⟨b, off + k * 11 + j, none⟩ = some cs[j] := by subst hcse; exact q3
      have hf : Few 11 cs := ⟨q1, (shape_few (lies_shape q2 hik)).2⟩
      obtain ⟨D1, D2⟩ : WhAt wr b (off + k * 11) 11 ∧ wholeAt wr b (off + k * 11) 11 = cs.toArray := whole_cells q1 q3
      have hh := held_made wr cs 68
      obtain ⟨C1, C2⟩ : WhAt (wr.alloc (.cells cs.toArray 68)) wr.heap.size 0 11 ∧ wholeAt (wr.alloc (.cells cs.toArray 68)) wr.heap.size 0 11 = cs.toArray := whole_cells (W := wr.alloc (.cells cs.toArray 68)) (g := wr.heap.size) (o := 0) q1 (fun j hj => by rw [Nat.zero_add]; exact hh.2 j hj)
      have hbx : Below wr.heap.size wr (wr.alloc (.cells cs.toArray 68)) := bal _ _
      have hBw := Nat.le_trans hB ha.2.1.size
      have hle1 := HLe.out (k + 1) hlt'
      have hle0 := HLe.out k (by omega)
      have HTk := Lib.hid (HT.out k hlt')
      have hle2 : (bytesT (its.take k)).length + its[k].bytes.length ≤ (bytesT its).length := by rw [HTk.out, List.length_append] at hle1; exact hle1
      have RP : Hid (Calls Try.prog 49 #[u0, .agg cs.toArray] (wr.alloc (.cells cs.toArray 68)) (AddsE (wr.alloc (.cells cs.toArray 68)) B u0 (l ++ (Wn ++ bytesT (its.take k))) its[k].bytes)) :=
        PIH.out _ B u0 _ _ cs hik (lies_keep q2 (kept_below (hbx.mono hBw))) (ha.1.on hbx) (Nat.le_trans hBw hbx.size) (by rw [List.length_append, List.length_append]; omega)
      have i0' : (0 : Int) ≤ (k : Int) := by omega
      have i1 : (k : Int) < (N : Int) := by omega
      clear hh q1 q2 q3 hcs hcse hle0 hle1 hle2 hik
      go_wp2_with (go_at_call 49; (with_reducible refine RP.out.mono ?_); rintro e w1 ⟨v1, rfl, ha1⟩)
      go_roundw
      case rel =>
        refine ⟨k + 1, by omega, by go_num, ?_⟩
        rw [HTk.out, ← List.append_assoc]
        exact ha.trans (ha1.ahead hbx hBw)
      case measure => simp [intOf]; omega
    · have hkl : Hid (its.take k = its) := List.take_of_length_le (by rw [← HN.out]; omega)
      go_wp2
      go_ret
      rw [hkl.out] at ha
      exact ⟨_, rfl, ha⟩
end

end Go.Proofs.Ytfikailgjmgnbaa

namespace Go.Proofs.Ytfikailgjmgnbaa
open Go.RowKit Flo
attribute [local go_sem ↓] Go.wp_at_zero Go.wp_at_succ

theorem psz_S : (Try.prog.info? 93).map (·.size) = some 7 := by kernel_rfl
theorem pag_S (W : World) : (isAgg 93).run Try.prog W = .ok true W := by simp [isAgg, run_underlying Try.underlying93]
theorem to_lpS (X : Value) : Instr.loadAt 93 X = ldT 93 X := rfl
theorem to_spS (X Y : Value) : Instr.storeAt 93 X Y = stT 93 X Y := rfl
theorem run_lpS (W : World) (g o : Nat) (h : WhAt W g o 7) : (ldT 93 (.pointer (some ⟨g, o, none⟩))).run Try.prog W = .ok (.agg (wholeAt W g o 7)) W := run_ldAt _ 7 psz_S pag_S W g o h
theorem run_spS (w : World) (cs : List Value) (hf : Few 7 cs) : (stT 93 (.pointer (some ⟨w.heap.size, 0, none⟩)) (.agg cs.toArray)).run Try.prog (w.alloc (.cells #[.int .i64 0, .int .i64 0, .complex .f64 0 0, .int .i64 0, .int .i64 0, .string ⟨#[]⟩, .bool false] 93)) = .ok () (w.alloc (.cells cs.toArray 93)) :=
  run_storeAt_new w 93 #[.int .i64 0, .int .i64 0, .complex .f64 0 0, .int .i64 0, .int .i64 0, .string ⟨#[]⟩, .bool false] cs.toArray (by rw [psz_S, List.size_toArray, hf.1]) (by rw [show cs.toArray.size = 7 by simpa using hf.1]; rfl) (all_oneCell_toArray hf.2)
section
attribute [local go_sem ↓] to_lpS to_spS
attribute [local go_sem] run_lpS run_spS
set_option maxRecDepth 100000 in
set_option maxHeartbeats 2000000 in
theorem putlist_S (PI : Putter (.row KS) 75) (w : World) (B : Nat) (x0 v : Value) (l : List UInt8) (t : Th) (ht : (.list KS : TK).is t) (hv : (.list KS : TK).lies (· < B) w t [v]) (hr : Room w B x0 l) (hB : B ≤ w.heap.size) (hlen : l.length + t.bytes.length ≤ 200000000000) :
    Calls Try.prog 74 #[x0, v, .func (.func 75) #[] #[]] w (AddsE w B x0 l t.bytes) := by
  obtain ⟨its, hl, hi, hbt, hit⟩ := (at_rows KS).items _ w t v ht hv
  rw [hbt] at hlen ⊢
  obtain ⟨N, hN⟩ : ∃ N, N = its.length := ⟨_, rfl⟩
  obtain ⟨Wn, hWn⟩ : ∃ Wn, Wn = wint (its.length : Int) := ⟨_, rfl⟩
  rw [← hWn] at hlen ⊢
  rw [List.length_append] at hlen
  have HI := Lib.hid hi
  have hitk := Lib.hid (fun wr (hb : Below B w wr) => hit.keep (kept_below hb))
  have HN := Lib.hid hN
  obtain ⟨A, c, rfl, hlc, hcm, hA⟩ := hit
  have HA := Lib.hid hA
  rw [← hN] at hlc hl ⊢
  have R0 : Hid (Calls Try.prog 71 #[x0, .int .i64 (N : Int)] w (AddsE w B x0 l Wn)) := by
    have := int_adds (N : Int) w B x0 l (by omega) (by omega) hr hB (by omega)
    rw [hWn, ← hN]
    exact this
  have PIH := Lib.hid PI
  have HT : Hid (∀ k (h : k < its.length), bytesT (its.take (k + 1)) = bytesT (its.take k) ++ its[k].bytes) := fun k h => by rw [List.take_succ_eq_append_getElem h, bytesT_snoc]
  have HLe : Hid (∀ k, k ≤ its.length → (bytesT (its.take k)).length ≤ (bytesT its).length) := fun k _ => by
    have h := bytesT_append (its.take k) (its.drop k)
    rw [List.take_append_drop] at h
    rw [h, List.length_append]; omega
  clear hbt hA hi hr hN hWn hv ht PI
  go_enter Try.func74, Try.ntmps74
  go_wp2_with (go_at_call 71; (with_reducible refine R0.out.mono ?_); rintro e w0 ⟨v0, rfl, ha0⟩)
  go_loopw [0, 15] (fun u j wr => ∃ k : Nat, k ≤ N ∧ j = .int .i64 (k : Int) ∧ Adds w B x0 l (Wn ++ bytesT (its.take k)) wr u) (fun _ j _ => N - (intOf j).toNat)
  case atStart => exact ⟨0, Nat.zero_le _, rfl, by rw [List.take_zero, bytesT, List.append_nil]; exact ha0⟩
  case round =>
    obtain ⟨k, hk, rfl, ha⟩ := hrel
    by_cases hlt : k < N
    · have hlt' : k < its.length := by rw [← HN.out]; exact hlt
      obtain ⟨A', c', e, _, _, h3⟩ := hitk.out wr ha.2.1
      rw [← HN.out] at e
      injection e with e1 _ e3
      subst e1 e3
      rcases h3 with h3 | ⟨b, off, css, rfl, hbB, hbw, hcl, hcs⟩
      · rw [h3] at hlt'; cases hlt'
      have hkc : k < css.length := by rw [hcl]; exact hlt'
      obtain ⟨q1, q2, q3⟩ := hcs k hlt' hkc
      have hik := HI.out _ (List.getElem_mem hlt')
      obtain ⟨cs, hcse⟩ : ∃ cs, cs = css[k] := ⟨_, rfl⟩
      rw [← hcse] at q1 q2
      have q3 : ∀ j (hj : j < cs.length), wr.cell? ⟨b, off + k * 7 + j, none⟩ = some cs[j] := by subst hcse; exact q3
      have hf : Few 7 cs := ⟨q1, (shape_few (lies_shape q2 hik)).2⟩
      obtain ⟨D1, D2⟩ : WhAt wr b (off + k * 7) 7 ∧ wholeAt wr b (off + k * 7) 7 = cs.toArray := whole_cells q1 q3
      have hh := held_made wr cs 93
      obtain ⟨C1, C2⟩ : WhAt (wr.alloc (.cells cs.toArray 93)) wr.heap.size 0 7 ∧ wholeAt (wr.alloc (.cells cs.toArray 93)) wr.heap.size 0 7 = cs.toArray := whole_cells (W := wr.alloc (.cells cs.toArray 93)) (g := wr.heap.size) (o := 0) q1 (fun j hj => by rw [Nat.zero_add]; exact hh.2 j hj)
      have hbx : Below wr.heap.size wr (wr.alloc (.cells cs.toArray 93)) := bal _ _
      have hBw := Nat.le_trans hB ha.2.1.size
      have hle1 := HLe.out (k + 1) hlt'
      have hle0 := HLe.out k (by omega)
      have HTk := Lib.hid (HT.out k hlt')
      have hle2 : (bytesT (its.take k)).length + its[k].bytes.length ≤ (bytesT its).length := by rw [HTk.out, List.length_append] at hle1; exact hle1
      have RP : Hid (Calls Try.prog 75 #[u0, .agg cs.toArray] (wr.alloc (.cells cs.toArray 93)) (AddsE (wr.alloc (.cells cs.toArray 93)) B u0 (l ++ (Wn ++ bytesT (its.take k))) its[k].bytes)) :=
        PIH.out _ B u0 _ _ cs hik (lies_keep q2 (kept_below (hbx.mono hBw))) (ha.1.on hbx) (Nat.le_trans hBw hbx.size) (by rw [List.length_append, List.length_append]; omega)
      have i0' : (0 : Int) ≤ (k : Int) := by omega
      have i1 : (k : Int) < (N : Int) := by omega
      clear hh q1 q2 q3 hcs hcse hle0 hle1 hle2 hik
      go_wp2_with (go_at_call 75; (with_reducible refine RP.out.mono ?_); rintro e w1 ⟨v1, rfl, ha1⟩)
      go_roundw
      case rel =>
        refine ⟨k + 1, by omega, by go_num, ?_⟩
        rw [HTk.out, ← List.append_assoc]
        exact ha.trans (ha1.ahead hbx hBw)
      case measure => simp [intOf]; omega
    · have hkl : Hid (its.take k = its) := List.take_of_length_le (by rw [← HN.out]; omega)
      go_wp2
      go_ret
      rw [hkl.out] at ha
      exact ⟨_, rfl, ha⟩
end

end Go.Proofs.Ytfikailgjmgnbaa

namespace Go.Proofs.Ytfikailgjmgnbaa
open Go.RowKit Flo
attribute [local go_sem ↓] Go.wp_at_zero Go.wp_at_succ

theorem psz_W : (Try.prog.info? 78).map (·.size) = some 5 := by kernel_rfl
theorem pag_W (W : World) : (isAgg 78).run Try.prog W = .ok true W := by simp [isAgg, run_underlying Try.underlying78]
theorem to_lpW (X : Value) : Instr.loadAt 78 X = ldT 78 X := rfl
theorem to_spW (X Y : Value) : Instr.storeAt 78 X Y = stT 78 X Y := rfl
theorem run_lpW (W : World) (g o : Nat) (h : WhAt W g o 5) : (ldT 78 (.pointer (some ⟨g, o, none⟩))).run Try.prog W = .ok (.agg (wholeAt W g o 5)) W := run_ldAt _ 5 psz_W pag_W W g o h
theorem run_spW (w : World) (cs : List Value) (hf : Few 5 cs) : (stT 78 (.pointer (some ⟨w.heap.size, 0, none⟩)) (.agg cs.toArray)).run Try.prog (w.alloc (.cells #[.int .i64 0, .int .i64 0, .int .i64 0, .int .i64 0, .slice none 0 0] 78)) = .ok () (w.alloc (.cells cs.toArray 78)) :=
  run_storeAt_new w 78 #[.int .i64 0, .int .i64 0, .int .i64 0, .int .i64 0, .slice none 0 0] cs.toArray (by rw [psz_W, List.size_toArray, hf.1]) (by rw [show cs.toArray.size = 5 by simpa using hf.1]; rfl) (all_oneCell_toArray hf.2)
section
attribute [local go_sem ↓] to_lpW to_spW
attribute [local go_sem] run_lpW run_spW
set_option maxRecDepth 100000 in
set_option maxHeartbeats 2000000 in
theorem putlist_W (PI : Putter (.view) 53) (w : World) (B : Nat) (x0 v : Value) (l : List UInt8) (t : Th) (ht : (.views : TK).is t) (hv : (.views : TK).lies (· < B) w t [v]) (hr : Room w B x0 l) (hB : B ≤ w.heap.size) (hlen : l.length + t.bytes.length ≤ 200000000000) :
    Calls Try.prog 52 #[x0, v, .func (.func 53) #[] #[]] w (AddsE w B x0 l t.bytes) := by
  obtain ⟨its, hl, hi, hbt, hit⟩ := at_views.items _ w t v ht hv
  rw [hbt] at hlen ⊢
  obtain ⟨N, hN⟩ : ∃ N, N = its.length := ⟨_, rfl⟩
  obtain ⟨Wn, hWn⟩ : ∃ Wn, Wn = wint (its.length : Int) := ⟨_, rfl⟩
  rw [← hWn] at hlen ⊢
  rw [List.length_append] at hlen
  have HI := Lib.hid hi
  have hitk := Lib.hid (fun wr (hb : Below B w wr) => hit.keep (kept_below hb))
  have HN := Lib.hid hN
  obtain ⟨A, c, rfl, hlc, hcm, hA⟩ := hit
  have HA := Lib.hid hA
  rw [← hN] at hlc hl ⊢
  have R0 : Hid (Calls Try.prog 71 #[x0, .int .i64 (N : Int)] w (AddsE w B x0 l Wn)) := by
    have := int_adds (N : Int) w B x0 l (by omega) (by omega) hr hB (by omega)
    rw [hWn, ← hN]
    exact this
  have PIH := Lib.hid PI
  have HT : Hid (∀ k (h : k < its.length), bytesT (its.take (k + 1)) = bytesT (its.take k) ++ its[k].bytes) := fun k h => by rw [List.take_succ_eq_append_getElem h, bytesT_snoc]
  have HLe : Hid (∀ k, k ≤ its.length → (bytesT (its.take k)).length ≤ (bytesT its).length) := fun k _ => by
    have h := bytesT_append (its.take k) (its.drop k)
    rw [List.take_append_drop] at h
    rw [h, List.length_append]; omega
  clear hbt hA hi hr hN hWn hv ht PI
  go_enter Try.func52, Try.ntmps52
  go_wp2_with (go_at_call 71; (with_reducible refine R0.out.mono ?_); rintro e w0 ⟨v0, rfl, ha0⟩)
  go_loopw [0, 15] (fun u j wr => ∃ k : Nat, k ≤ N ∧ j = .int .i64 (k : Int) ∧ Adds w B x0 l (Wn ++ bytesT (its.take k)) wr u) (fun _ j _ => N - (intOf j).toNat)
  case atStart => exact ⟨0, Nat.zero_le _, rfl, by rw [List.take_zero, bytesT, List.append_nil]; exact ha0⟩
  case round =>
    obtain ⟨k, hk, rfl, ha⟩ := hrel
    by_cases hlt : k < N
    · have hlt' : k < its.length := by rw [← HN.out]; exact hlt
      obtain ⟨A', c', e, _, _, h3⟩ := hitk.out wr ha.2.1
      rw [← HN.out] at e
      injection e with e1 _ e3
      subst e1 e3
      rcases h3 with h3 | ⟨b, off, css, rfl, hbB, hbw, hcl, hcs⟩
      · rw [h3] at hlt'; cases hlt'
      have hkc : k < css.length := by rw [hcl]; exact hlt'
      obtain ⟨q1, q2, q3⟩ := hcs k hlt' hkc
      have hik := HI.out _ (List.getElem_mem hlt')
      obtain ⟨cs, hcse⟩ : ∃ cs, cs = css[k] := ⟨_, rfl⟩
      rw [← hcse] at q1 q2
      have q3 : ∀ j (hj : j < cs.length), wr.cell? ⟨b, off + k * 5 + j, none⟩ = some cs[j] := by subst hcse; exact q3
      have hf : Few 5 cs := ⟨q1, (shape_few (lies_shape q2 hik)).2⟩
      obtain ⟨D1, D2⟩ : WhAt wr b (off + k * 5) 5 ∧ wholeAt wr b (off + k * 5) 5 = cs.toArray := whole_cells q1 q3
      have hh := held_made wr cs 78
      obtain ⟨C1, C2⟩ : WhAt (wr.alloc (.cells cs.toArray 78)) wr.heap.size 0 5 ∧ wholeAt (wr.alloc (.cells cs.toArray 78)) wr.heap.size 0 5 = cs.toArray := whole_cells (W := wr.alloc (.cells cs.toArray 78)) (g := wr.heap.size) (o := 0) q1 (fun j hj => by rw [Nat.zero_add]; exact hh.2 j hj)
      have hbx : Below wr.heap.size wr (wr.alloc (.cells cs.toArray 78)) := bal _ _
      have hBw := Nat.le_trans hB ha.2.1.size
      have hle1 := HLe.out (k + 1) hlt'
      have hle0 := HLe.out k (by omega)
      have HTk := Lib.hid (HT.out k hlt')
      have hle2 : (bytesT (its.take k)).length + its[k].bytes.length ≤ (bytesT its).length := by rw [HTk.out, List.length_append] at hle1; exact hle1
      have RP : Hid (Calls Try.prog 53 #[u0, .agg cs.toArray] (wr.alloc (.cells cs.toArray 78)) (AddsE (wr.alloc (.cells cs.toArray 78)) B u0 (l ++ (Wn ++ bytesT (its.take k))) its[k].bytes)) :=
        PIH.out _ B u0 _ _ cs hik (lies_keep q2 (kept_below (hbx.mono hBw))) (ha.1.on hbx) (Nat.le_trans hBw hbx.size) (by rw [List.length_append, List.length_append]; omega)
      have i0' : (0 : Int) ≤ (k : Int) := by omega
      have i1 : (k : Int) < (N : Int) := by omega
      clear hh q1 q2 q3 hcs hcse hle0 hle1 hle2 hik
      go_wp2_with (go_at_call 53; (with_reducible refine RP.out.mono ?_); rintro e w1 ⟨v1, rfl, ha1⟩)
      go_roundw
      case rel =>
        refine ⟨k + 1, by omega, by go_num, ?_⟩
        rw [HTk.out, ← List.append_assoc]
        exact ha.trans (ha1.ahead hbx hBw)
      case measure => simp [intOf]; omega
    · have hkl : Hid (its.take k = its) := List.take_of_length_le (by rw [← HN.out]; omega)
      go_wp2
      go_ret
      rw [hkl.out] at ha
      exact ⟨_, rfl, ha⟩
end

end Go.Proofs.Ytfikailgjmgnbaa
