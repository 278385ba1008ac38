/-
  The document's own bytes of a list of members; append in a region that draws its order.
  The document's own bytes of a list of seen calls (made by msg-gen.py).
  The document's own bytes of a list of views (made by msg-views-gen.py).
-/
import Derived.Test.YtfikailgjmgnbaaZp06

namespace Go.Proofs.Ytfikailgjmgnbaa
open Go.RowKit Flo
attribute [local go_sem ↓] Go.wp_at_zero Go.wp_at_succ

/-- append at a step of a region that draws its order -/
theorem step_append8 {P : Program} {ops : Array Oper} {o : Oper} {a : Act} {w : World} {K : Act → World → Prop} {Q : Exit → Act → World → Prop} {E : Prop} {B : Nat} {v xv : Value} {l m : List UInt8} (hgd : o.guard = none) (s x : Operand) (t tx : TypeId)
    (ho : o.op = .call { callee := .builtin .append, args := #[s, x], argTypes := #[t, tx] })
    (e : TypeId) (i : TypeInfo) (ht : P.underlying t = some (.slice e)) (hi : P.info? e = some i) (hz : i.zero = some (.int .u8 0)) (h1 : i.size = 1) (hy : i.bytes = 1)
    (hr : Room w B v l) (hB : B ≤ w.heap.size) (hs : Src P 1 tx xv m.length (c8 m) w) (hl : l.length + m.length ≤ 1099511627776) (hv : a.eval s = v) (hx : a.eval x = xv)
    (h : ∀ v' w', Room w' B v' (l ++ m) → Below B w w' → K (a.put o.dst v') w') : if Region.wanted o (yielded ops a.tmps) = true then Oper.wp P o a w K Q else E := by
  have hw : Region.wanted o (yielded ops a.tmps) = true := by simp [Region.wanted, hgd]
  rw [if_pos hw]
  obtain ⟨v', w', hrun, h2, h3, _⟩ := run_append8k (P := P) t tx o.type e i ht hi hz h1 hy hr hB hs hl
  unfold Oper.wp execOp
  simp only [ho, resolve, invoke, builtin, Sem.run_bind, Sem.run_pure, Result.andThen_ok, List.map_toArray, List.map_cons, List.map_nil, hv, hx, hrun]
  exact h v' w' h2 h3

set_option maxRecDepth 100000 in
set_option maxHeartbeats 1000000 in
theorem members_any (v : Value) (xs : List (List Fld)) (w : World) (hv : Structs w v 2 (xs.map vals)) (hf : xs.length ≤ 4096) (hk : ∀ x ∈ xs, kinds x = KM ∧ ∀ f ∈ x, f.right) :
    Calls Try.prog 37 #[v] w (Tells (wint (xs.length : Int) ++ listB xs) w) := by
  obtain ⟨i0, hi0, hz0, hz1, hz2⟩ := info_parts byte_info
  obtain ⟨A, c, rfl, hlc, hcm, hA⟩ := hv
  have HR := Lib.hid hk
  rw [List.length_map] at hlc ⊢
  have HA := Lib.hid hA
  have RN := Lib.hid (fun w => refint_any (xs.length : Int) w (by omega) (by omega))
  have hwn := wint_le (n := (xs.length : Int)) (by omega) (by omega)
  clear hA hk
  refine tells ?_
  go_enter Try.func37, Try.ntmps37
  go_wp2_with (go_at_call 41; (with_reducible refine (RN.out _).mono ?_); rintro e w0 ⟨v0, rfl, hr0, hb0⟩)
  go_loopw [3, 4] (fun o i wr => ∃ k : Nat, k ≤ xs.length ∧ i = .int .i64 (k : Int) ∧ Room wr w.heap.size o (wint (xs.length : Int) ++ listB (xs.take k)) ∧ (listB (xs.take k)).length ≤ 2000000 * k ∧ Below w.heap.size w wr) (fun _ i _ => xs.length - (intOf i).toNat)
  case atStart => exact ⟨0, Nat.zero_le _, rfl, by rw [List.take_zero, listB, List.append_nil]; exact hr0, by simp [listB], hb0⟩
  case round =>
    obtain ⟨k, hk, rfl, hr', hlen, hb⟩ := hrel
    by_cases hlt : k < xs.length
    · rcases HA.out with h3 | ⟨b, off, rfl, hbw, hcells⟩
      · rw [List.map_eq_nil_iff] at h3; rw [h3] at hlt; cases hlt
      obtain ⟨hk1, hk2⟩ := HR.out _ (List.getElem_mem hlt)
      have hlx : xs[k].length = 2 := by have := congrArg List.length hk1; simpa [kinds, KM] using this
      have hbl := bytesOf_len _ hk2
      rw [hlx] at hbl
      have HT := Lib.hid (show listB (xs.take (k + 1)) = listB (xs.take k) ++ bytesOf xs[k] by rw [List.take_succ_eq_append_getElem hlt, listB_snoc])
      have hc0 : ∀ W, Below w.heap.size w W → cellsAt b (off + k * 2) W 0 (vals xs[k]) := fun W hW => cellsAt_from (vals xs[k]) 0 (fun j hj => by
        rw [Nat.zero_add, World.cell?_of_block (a := ⟨b, off + k * 2 + j, none⟩) (hW.block b hbw)]
        have := hcells k (by rw [List.length_map]; exact hlt) j (by rw [List.getElem_map]; exact hj)
        rw [this]
        congr 1
        simp only [List.getElem_map])
      obtain ⟨L, hL⟩ : ∃ L, L = bytesOf xs[k] := ⟨_, rfl⟩
      rw [← hL] at HT hbl
      obtain ⟨n1, n2, hx⟩ := kinds_me hk1
      rw [hx] at hc0 hL hk2
      simp only [vals, List.map_cons, List.map_nil, Fld.val, cellsAt, Nat.add_zero, Nat.reduceAdd] at hc0
      have CF := Lib.hid hc0
      have RN2 : Hid (∀ W : World, Calls Try.prog 31 #[.slice (some ⟨W.heap.size, 0, none⟩) 2 2] (W.alloc (.cells #[.int .i64 n1, .int .i64 n2] 3)).drew (Tells L (W.alloc (.cells #[.int .i64 n1, .int .i64 n2] 3)).drew)) := fun W => by
        have := numbers_any _ [n1, n2] (W.alloc (.cells #[.int .i64 n1, .int .i64 n2] 3)).drew ((nums_made W [n1, n2] 3 2 rfl (by decide)).on (Below.refl _ _).drew) (by simp) (fun n hn => by simp at hn; rcases hn with rfl | rfl <;> exact hk2 _ (by simp))
        rw [hL]
        exact this
      have P1 : (wint (xs.length : Int) ++ listB (xs.take k)).length + L.length ≤ 1099511627776 := by rw [List.length_append]; omega
      have i0' : (0 : Int) ≤ (k : Int) := by omega
      have i1 : (k : Int) < (xs.length : Int) := by omega
      have C0 := hc0 wr hb
      have hbd : Below w.heap.size w wr.drew := hb.drew
      have CD := hc0 _ hbd
      have hdn : Below wr.heap.size wr (wr.alloc (.cells #[.int .i64 n1, .int .i64 n2] 3)).drew := (bal wr _).drew
      have hbn : Below w.heap.size w (wr.alloc (.cells #[.int .i64 n1, .int .i64 n2] 3)).drew := hb.trans (hdn.mono hb.size)
      have CN := hc0 _ hbn
      clear hcells hk1 hk2 hx hL hlx hr0 hc0
      go_wp2
      first | (go_region_held3 (fun W => W.cell? ⟨b, off + k * 2, none⟩ = some (.int .i64 n1) ∧ W.cell? ⟨b, off + k * 2 + 1, none⟩ = some (.int .i64 n2)) (first | exact C2 | exact C1 | exact CN | exact CD | exact C0) (first
        | (go_at_call 31; (with_reducible refine (RN2.out _).mono ?_); rintro e w1 ⟨A1, c1, rfl, hs1, hb1⟩; have hb1' : Below wr.heap.size wr w1 := bt hdn hb1; have hbw1 : Below w.heap.size w w1 := hb.trans (hb1'.mono hb.size); have C1 := CF.out _ hbw1)
        | ((refine step_append8 (B := w.heap.size) (l := wint (xs.length : Int) ++ listB (xs.take k)) (m := L) (by rfl) (.tmp 14) (.tmp 26) 22 22 (by rfl) 5 i0 Try.underlying22 hi0 hz0 hz1 hz2 (hr'.on hb1') hbw1.size (hs1.src Try.underlying22) P1 (by rfl) (by rfl) ?_; intro v2 w2 hr2 hb2; have hbw2 : Below w.heap.size w w2 := hbw1.trans hb2; have C2 := CF.out _ hbw2)))) | fail
      go_wp2
      go_roundw
      case rel => exact ⟨k + 1, by omega, by go_num, by rw [HT.out, ← List.append_assoc]; exact hr2, by rw [HT.out, List.length_append]; omega, hbw2⟩
      case measure => simp [intOf]; omega
    · have hkl : Hid (xs.take k = xs) := List.take_of_length_le (by omega)
      go_wp2
      go_ret
      exact ⟨_, rfl, by rw [hkl.out] at hr'; exact hr', hb⟩

end Go.Proofs.Ytfikailgjmgnbaa

namespace Go.Proofs.Ytfikailgjmgnbaa
open Go.RowKit Flo
attribute [local go_sem ↓] Go.wp_at_zero Go.wp_at_succ

theorem bit6_any (b : Bool) (w : World) : Calls Try.prog 32 #[.bool b] w fun e w' => e = .returned (.int .u8 ((bit b).toNat : Int)) ∧ w = w' := by
  cases b
  all_goals
    go_enter Try.func32, Try.ntmps32
    go_wp2
    go_ret
    exact ⟨rfl, rfl⟩

set_option maxRecDepth 100000 in
set_option maxHeartbeats 2000000 in
theorem seens_any (v : Value) (xs : List (List Fld)) (w : World) (hv : Structs w v 7 (xs.map vals)) (hf : xs.length ≤ 4096) (hk : ∀ x ∈ xs, kinds x = KS ∧ ∀ f ∈ x, f.right) :
    Calls Try.prog 42 #[v] w (Tells (wint (xs.length : Int) ++ listB xs) w) := by
  obtain ⟨i0, hi0, hz0, hz1, hz2⟩ := info_parts byte_info
  obtain ⟨A, c, rfl, hlc, hcm, hA⟩ := hv
  have HR := Lib.hid hk
  rw [List.length_map] at hlc ⊢
  have HA := Lib.hid hA
  have RN := Lib.hid (fun w => refint_any (xs.length : Int) w (by omega) (by omega))
  have hwn := wint_le (n := (xs.length : Int)) (by omega) (by omega)
  clear hA hk
  refine tells ?_
  go_enter Try.func42, Try.ntmps42
  go_wp2_with (go_at_call 41; (with_reducible refine (RN.out _).mono ?_); rintro e w0 ⟨v0, rfl, hr0, hb0⟩)
  go_loopw [3, 4] (fun o i wr => ∃ k : Nat, k ≤ xs.length ∧ i = .int .i64 (k : Int) ∧ Room wr w.heap.size o (wint (xs.length : Int) ++ listB (xs.take k)) ∧ (listB (xs.take k)).length ≤ 7000000 * k ∧ Below w.heap.size w wr) (fun _ i _ => xs.length - (intOf i).toNat)
  case atStart => exact ⟨0, Nat.zero_le _, rfl, by rw [List.take_zero, listB, List.append_nil]; exact hr0, by simp [listB], hb0⟩
  case round =>
    obtain ⟨k, hk, rfl, hr', hlen, hb⟩ := hrel
    by_cases hlt : k < xs.length
    · rcases HA.out with h3 | ⟨b, off, rfl, hbw, hcells⟩
      · rw [List.map_eq_nil_iff] at h3; rw [h3] at hlt; cases hlt
      obtain ⟨hk1, hk2⟩ := HR.out _ (List.getElem_mem hlt)
      have hlx : xs[k].length = 7 := by have := congrArg List.length hk1; simpa [kinds, KS] using this
      have hbl := bytesOf_len _ hk2
      rw [hlx] at hbl
      have HT := Lib.hid (show listB (xs.take (k + 1)) = listB (xs.take k) ++ bytesOf xs[k] by rw [List.take_succ_eq_append_getElem hlt, listB_snoc])
      have hc0 : ∀ W, Below w.heap.size w W → cellsAt b (off + k * 7) W 0 (vals xs[k]) := fun W hW => cellsAt_from (vals xs[k]) 0 (fun j hj => by
        rw [Nat.zero_add, World.cell?_of_block (a := ⟨b, off + k * 7 + j, none⟩) (hW.block b hbw)]
        have := hcells k (by rw [List.length_map]; exact hlt) j (by rw [List.getElem_map]; exact hj)
        rw [this]
        congr 1
        simp only [List.getElem_map])
      obtain ⟨L, hL⟩ : ∃ L, L = bytesOf xs[k] := ⟨_, rfl⟩
      rw [← hL] at HT hbl
      obtain ⟨n1, n2, vr, n3, n4, rs, hh, hx⟩ := kinds_se hk1
      rw [hx] at hc0 hL hk2
      simp only [vals, List.map_cons, List.map_nil, Fld.val, cellsAt, Nat.add_zero, Nat.reduceAdd] at hc0
      have CF := Lib.hid hc0
      obtain ⟨La, hLa⟩ : ∃ L, L = bytesOf [Fld.int n1, .int n2] := ⟨_, rfl⟩
      obtain ⟨Lb, hLb⟩ : ∃ L, L = (Fld.ver vr.1 vr.2).bytes := ⟨_, rfl⟩
      obtain ⟨Lc, hLc⟩ : ∃ L, L = bytesOf [Fld.int n3, .int n4] := ⟨_, rfl⟩
      obtain ⟨Ld, hLd⟩ : ∃ L, L = (Fld.text rs).bytes := ⟨_, rfl⟩
      have HL : Hid (L = La ++ (Lb ++ (Lc ++ (Ld ++ [bit hh])))) := by
        show L = _
        rw [hL, hLa, hLb, hLc, hLd]
        simp [bytesOf, Fld.bytes]
      have hlens : La.length + Lb.length + Lc.length + Ld.length ≤ L.length := by rw [HL.out]; simp only [List.length_append]; omega
      have RNa : Hid (∀ W : World, Calls Try.prog 31 #[.slice (some ⟨W.heap.size, 0, none⟩) 2 2] (W.alloc (.cells #[.int .i64 n1, .int .i64 n2] 3)).drew (Tells La (W.alloc (.cells #[.int .i64 n1, .int .i64 n2] 3)).drew)) := fun W => by
        have := numbers_any _ [n1, n2] (W.alloc (.cells #[.int .i64 n1, .int .i64 n2] 3)).drew ((nums_made W [n1, n2] 3 2 rfl (by decide)).on (Below.refl _ _).drew) (by simp) (fun n hn => by simp at hn; rcases hn with rfl | rfl <;> exact hk2 _ (by simp))
        rw [hLa]
        exact this
      have RNc : Hid (∀ W : World, Calls Try.prog 31 #[.slice (some ⟨W.heap.size, 0, none⟩) 2 2] (W.alloc (.cells #[.int .i64 n3, .int .i64 n4] 3)).drew (Tells Lc (W.alloc (.cells #[.int .i64 n3, .int .i64 n4] 3)).drew)) := fun W => by
        have := numbers_any _ [n3, n4] (W.alloc (.cells #[.int .i64 n3, .int .i64 n4] 3)).drew ((nums_made W [n3, n4] 3 2 rfl (by decide)).on (Below.refl _ _).drew) (by simp) (fun n hn => by simp at hn; rcases hn with rfl | rfl <;> exact hk2 _ (by simp))
        rw [hLc]
        exact this
      have RV : Hid (∀ W, Calls Try.prog 34 #[ver vr.1 vr.2] W (Tells Lb W)) := fun W => by rw [hLb]; exact rver_r W (hk2 _ (by simp))
      have RT : Hid (∀ W, Calls Try.prog 33 #[.string rs] W (Tells Ld W)) := fun W => by rw [hLd]; exact rtext_r W (hk2 _ (by simp))
      have i0' : (0 : Int) ≤ (k : Int) := by omega
      have i1 : (k : Int) < (xs.length : Int) := by omega
      have Pa : (wint (xs.length : Int) ++ listB (xs.take k)).length + La.length ≤ 1099511627776 := by simp only [List.length_append]; omega
      have Pb : ((wint (xs.length : Int) ++ listB (xs.take k)) ++ La).length + Lb.length ≤ 1099511627776 := by simp only [List.length_append]; omega
      have Pc : (((wint (xs.length : Int) ++ listB (xs.take k)) ++ La) ++ Lb).length + Lc.length ≤ 1099511627776 := by simp only [List.length_append]; omega
      have Pd : ((((wint (xs.length : Int) ++ listB (xs.take k)) ++ La) ++ Lb) ++ Lc).length + Ld.length ≤ 1099511627776 := by simp only [List.length_append]; omega
      have Pe : (((((wint (xs.length : Int) ++ listB (xs.take k)) ++ La) ++ Lb) ++ Lc) ++ Ld).length + 1 ≤ 1099511627776 := by simp only [List.length_append]; omega
      clear hcells hk1 hk2 hx hL hlx hr0 hc0 hLa hLb hLc hLd
      go_wp2
      have C0 := CF.out _ hb
      have hbda : Below w.heap.size w wr.drew := hb.drew
      have CDa := CF.out _ hbda
      have hdna : Below wr.heap.size wr (wr.alloc (.cells #[.int .i64 n1, .int .i64 n2] 3)).drew := (bal wr _).drew
      have hbna : Below w.heap.size w (wr.alloc (.cells #[.int .i64 n1, .int .i64 n2] 3)).drew := hb.trans (hdna.mono hb.size)
      have CNa := CF.out _ hbna
      first | (go_region_held3 (fun W => W.cell? ⟨b, off + k * 7, none⟩ = some (.int .i64 n1) ∧ W.cell? ⟨b, off + k * 7 + 1, none⟩ = some (.int .i64 n2) ∧ W.cell? ⟨b, off + k * 7 + 2, none⟩ = some (ver vr.1 vr.2) ∧ W.cell? ⟨b, off + k * 7 + 3, none⟩ = some (.int .i64 n3) ∧ W.cell? ⟨b, off + k * 7 + 4, none⟩ = some (.int .i64 n4) ∧ W.cell? ⟨b, off + k * 7 + 5, none⟩ = some (.string rs) ∧ W.cell? ⟨b, off + k * 7 + 6, none⟩ = some (.bool hh)) (first | exact C2 | exact C1 | exact CNa | exact CDa | exact C0) (first
        | (go_at_call 31; (with_reducible refine (RNa.out _).mono ?_); rintro e w1 ⟨A1, c1, rfl, hs1, hb1⟩; have hbqa : Below wr.heap.size wr w1 := bt hdna hb1; have hbw1 : Below w.heap.size w w1 := hb.trans (hbqa.mono hb.size); have C1 := CF.out _ hbw1)
        | ((refine step_append8 (B := w.heap.size) (l := wint (xs.length : Int) ++ listB (xs.take k)) (m := La) (by rfl) (.tmp 14) (.tmp 26) 22 22 (by rfl) 5 i0 Try.underlying22 hi0 hz0 hz1 hz2 (hr'.on hbqa) hbw1.size (hs1.src Try.underlying22) Pa (by rfl) (by rfl) ?_; intro v2 w2 hr2 hb2; have hbw2 : Below w.heap.size w w2 := hbw1.trans hb2; have C2 := CF.out _ hbw2)))) | fail
      go_wp2_with (first
        | (go_at_call 34; (with_reducible refine (RV.out _).mono ?_); rintro e w3 ⟨A3, c3, rfl, hs3, hb3⟩; have hbw3 : Below w.heap.size w w3 := hbw2.trans (hb3.mono hbw2.size); have C3 := CF.out _ hbw3)
        | (at_builtin; refine wpList_append8 (B := w.heap.size) (l := (wint (xs.length : Int) ++ listB (xs.take k)) ++ La) (m := Lb) rfl (.tmp 28) (.tmp 34) 22 22 rfl 5 i0 Try.underlying22 hi0 hz0 hz1 hz2 (hr2.on hb3) hbw3.size (hs3.src Try.underlying22) Pb rfl rfl ?_; intro v4 w4 hr4 hb4; have hbw4 : Below w.heap.size w w4 := hbw3.trans hb4; have C4 := CF.out _ hbw4))
      have hbdc : Below w.heap.size w w4.drew := hbw4.drew
      have CDc := CF.out _ hbdc
      have hdnc : Below w4.heap.size w4 (w4.alloc (.cells #[.int .i64 n3, .int .i64 n4] 3)).drew := (bal w4 _).drew
      have hbnc : Below w.heap.size w (w4.alloc (.cells #[.int .i64 n3, .int .i64 n4] 3)).drew := hbw4.trans (hdnc.mono hbw4.size)
      have CNc := CF.out _ hbnc
      first | (go_region_held3 (fun W => W.cell? ⟨b, off + k * 7, none⟩ = some (.int .i64 n1) ∧ W.cell? ⟨b, off + k * 7 + 1, none⟩ = some (.int .i64 n2) ∧ W.cell? ⟨b, off + k * 7 + 2, none⟩ = some (ver vr.1 vr.2) ∧ W.cell? ⟨b, off + k * 7 + 3, none⟩ = some (.int .i64 n3) ∧ W.cell? ⟨b, off + k * 7 + 4, none⟩ = some (.int .i64 n4) ∧ W.cell? ⟨b, off + k * 7 + 5, none⟩ = some (.string rs) ∧ W.cell? ⟨b, off + k * 7 + 6, none⟩ = some (.bool hh)) (first | exact C6 | exact C5 | exact CNc | exact CDc | exact C4) (first
        | (go_at_call 31; (with_reducible refine (RNc.out _).mono ?_); rintro e w5 ⟨A5, c5, rfl, hs5, hb5⟩; have hbqc : Below w4.heap.size w4 w5 := bt hdnc hb5; have hbw5 : Below w.heap.size w w5 := hbw4.trans (hbqc.mono hbw4.size); have C5 := CF.out _ hbw5)
        | ((refine step_append8 (B := w.heap.size) (l := ((wint (xs.length : Int) ++ listB (xs.take k)) ++ La) ++ Lb) (m := Lc) (by rfl) (.tmp 36) (.tmp 48) 22 22 (by rfl) 5 i0 Try.underlying22 hi0 hz0 hz1 hz2 (hr4.on hbqc) hbw5.size (hs5.src Try.underlying22) Pc (by rfl) (by rfl) ?_; intro v6 w6 hr6 hb6; have hbw6 : Below w.heap.size w w6 := hbw5.trans hb6; have C6 := CF.out _ hbw6)))) | fail
      go_wp2_with (first
        | (go_at_call 33; (with_reducible refine (RT.out _).mono ?_); rintro e w7 ⟨A7, c7, rfl, hs7, hb7⟩; have hbw7 : Below w.heap.size w w7 := hbw6.trans (hb7.mono hbw6.size); have C7 := CF.out _ hbw7)
        | (at_builtin; refine wpList_append8 (B := w.heap.size) (l := (((wint (xs.length : Int) ++ listB (xs.take k)) ++ La) ++ Lb) ++ Lc) (m := Ld) rfl (.tmp 50) (.tmp 56) 22 22 rfl 5 i0 Try.underlying22 hi0 hz0 hz1 hz2 (hr6.on hb7) hbw7.size (hs7.src Try.underlying22) Pd rfl rfl ?_; intro v8 w8 hr8 hb8; have hbw8 : Below w.heap.size w w8 := hbw7.trans hb8; have C8 := CF.out _ hbw8)
        | (go_at_call 32; (with_reducible refine (bit6_any _ _).mono ?_); rintro e w9 ⟨rfl, rfl⟩)
        | (at_builtin; refine wpList_append8 (B := w.heap.size) (l := ((((wint (xs.length : Int) ++ listB (xs.take k)) ++ La) ++ Lb) ++ Lc) ++ Ld) (m := [bit hh]) rfl (.tmp 58) (.tmp 65) 22 22 rfl 5 i0 Try.underlying22 hi0 hz0 hz1 hz2 (hr8.al _) (Nat.le_trans hbw8.size (bal _ _).size) (src_one _ (bit hh) Try.underlying22) Pe rfl rfl ?_; intro v10 w10 hr10 hb10))
      go_roundw
      case rel => exact ⟨k + 1, by omega, by go_num, by rw [HT.out, HL.out]; simpa only [List.append_assoc] using hr10, by rw [HT.out, List.length_append]; omega, hbw8.trans (((bal w8 _).mono hbw8.size).trans hb10)⟩
      case measure => simp [intOf]; omega
    · have hkl : Hid (xs.take k = xs) := List.take_of_length_le (by omega)
      go_wp2
      go_ret
      exact ⟨_, rfl, by rw [hkl.out] at hr'; exact hr', hb⟩

end Go.Proofs.Ytfikailgjmgnbaa

namespace Go.Proofs.Ytfikailgjmgnbaa
open Go.RowKit Flo
attribute [local go_sem ↓] Go.wp_at_zero Go.wp_at_succ

abbrev View := List Fld × List (List Fld)
def K4 : List Knd := [.I, .I, .I, .I]
theorem kinds_v4 {fs : List Fld} (h : kinds fs = K4) : ∃ a b c d, fs = [.int a, .int b, .int c, .int d] := by
  match fs, h with
  | [.int a, .int b, .int c, .int d], _ => exact ⟨a, b, c, d, rfl⟩
def viewB (x : View) : List UInt8 := bytesOf x.1 ++ (wint (x.2.length : Int) ++ listB x.2)
def viewsB : List View → List UInt8
  | [] => []
  | x :: t => viewB x ++ viewsB t
theorem viewsB_snoc (l : List View) (x : View) : viewsB (l ++ [x]) = viewsB l ++ viewB x := by
  induction l with
  | nil => simp [viewsB]
  | cons y t ih => rw [List.cons_append, viewsB, viewsB, ih, List.append_assoc]
theorem listB_len : ∀ (xs : List (List Fld)) (n : Nat), (∀ x ∈ xs, x.length = n ∧ ∀ f ∈ x, f.right) → (listB xs).length ≤ 1000000 * n * xs.length
  | [], n, _ => by simp [listB]
  | x :: t, n, h => by
    obtain ⟨h1, h2⟩ := h x (by simp)
    have h3 := bytesOf_len x h2
    have h4 := listB_len t n fun y hy => h y (by simp [hy])
    rw [h1] at h3
    rw [listB, List.length_append, List.length_cons, Nat.mul_add]
    omega
/-- views in memory -/
def ViewsAt (w : World) (v : Value) (xs : List View) : Prop := ∃ A c, v = .slice A xs.length c ∧ xs.length ≤ c ∧ c ≤ maxLen ∧ (xs = [] ∨ ∃ b off, A = some ⟨b, off, none⟩ ∧ b < w.heap.size ∧
  ∀ i (h : i < xs.length), ∃ u, (∀ j (h' : j < (vals xs[i].1).length), w.cell? ⟨b, off + i * 5 + j, none⟩ = some (vals xs[i].1)[j]) ∧ w.cell? ⟨b, off + i * 5 + 4, none⟩ = some u ∧ Structs w u 2 (xs[i].2.map vals))
theorem ViewsAt.on {w w' : World} {v : Value} {xs : List View} (h : ViewsAt w v xs) (hb : Below w.heap.size w w') : ViewsAt w' v xs := by
  obtain ⟨A, c, rfl, h1, h2, h3⟩ := h
  refine ⟨A, c, rfl, h1, h2, h3.imp id ?_⟩
  rintro ⟨b, off, rfl, hw, hr⟩
  refine ⟨b, off, rfl, Nat.lt_of_lt_of_le hw hb.size, fun i hi => ?_⟩
  obtain ⟨u, a1, a2, a3⟩ := hr i hi
  exact ⟨u, fun j hj => (World.cell?_of_block (a := ⟨b, off + i * 5 + j, none⟩) (hb.block b hw)).trans (a1 j hj), (World.cell?_of_block (a := ⟨b, off + i * 5 + 4, none⟩) (hb.block b hw)).trans a2, a3.on hb⟩
def ViewRight (x : View) : Prop := kinds x.1 = K4 ∧ (∀ f ∈ x.1, f.right) ∧ x.2.length ≤ 4096 ∧ ∀ y ∈ x.2, kinds y = KM ∧ ∀ f ∈ y, f.right
theorem viewsB_take (xs : List View) (k : Nat) : (viewsB (xs.take k)).length ≤ (viewsB xs).length := by
  have h : viewsB (xs.take k ++ xs.drop k) = viewsB (xs.take k) ++ viewsB (xs.drop k) := by
    generalize xs.take k = a
    generalize xs.drop k = b
    induction a with
    | nil => simp [viewsB]
    | cons y t ih => rw [List.cons_append, viewsB, viewsB, ih, List.append_assoc]
  rw [List.take_append_drop] at h
  rw [h, List.length_append]
  omega

set_option maxRecDepth 100000 in
set_option maxHeartbeats 2000000 in
theorem views_any (v : Value) (xs : List View) (w : World) (hv : ViewsAt w v xs) (hf : xs.length ≤ 4096) (hT : (viewsB xs).length ≤ 100000000000) (hk : ∀ x ∈ xs, ViewRight x) :
    Calls Try.prog 13 #[v] w (Tells (wint (xs.length : Int) ++ viewsB xs) w) := by
  obtain ⟨i0, hi0, hz0, hz1, hz2⟩ := info_parts byte_info
  obtain ⟨A, c, rfl, hlc, hcm, hA⟩ := hv
  have HR := Lib.hid hk
  have HA := Lib.hid hA
  have RN := Lib.hid (fun w => refint_any (xs.length : Int) w (by omega) (by omega))
  have hwn := wint_le (n := (xs.length : Int)) (by omega) (by omega)
  clear hA hk
  refine tells ?_
  go_enter Try.func13, Try.ntmps13
  go_wp2_with (go_at_call 41; (with_reducible refine (RN.out _).mono ?_); rintro e w0 ⟨v0, rfl, hr0, hb0⟩)
  go_loopw [3, 4] (fun o i wr => ∃ k : Nat, k ≤ xs.length ∧ i = .int .i64 (k : Int) ∧ Room wr w.heap.size o (wint (xs.length : Int) ++ viewsB (xs.take k)) ∧ Below w.heap.size w wr) (fun _ i _ => xs.length - (intOf i).toNat)
  case atStart => exact ⟨0, Nat.zero_le _, rfl, by rw [List.take_zero, viewsB, List.append_nil]; exact hr0, hb0⟩
  case round =>
    obtain ⟨k, hk, rfl, hr', hb⟩ := hrel
    have hlen := Nat.le_trans (viewsB_take xs k) hT
    by_cases hlt : k < xs.length
    · rcases HA.out with h3 | ⟨b, off, rfl, hbw, hcells⟩
      · rw [h3] at hlt; cases hlt
      have hvr := HR.out _ (List.getElem_mem hlt)
      have hbl : (viewB xs[k]).length ≤ 100000000000 := by
        have := Nat.le_trans (viewsB_take xs (k + 1)) hT
        rw [List.take_succ_eq_append_getElem hlt, viewsB_snoc, List.length_append] at this
        omega
      obtain ⟨hk1, hk2, hk3, hk4⟩ := hvr
      have HT := Lib.hid (show viewsB (xs.take (k + 1)) = viewsB (xs.take k) ++ viewB xs[k] by rw [List.take_succ_eq_append_getElem hlt, viewsB_snoc])
      obtain ⟨u, hcu, hcu4, hst⟩ := hcells k hlt
      have hc00 : ∀ W, Below w.heap.size w W → cellsAt b (off + k * 5) W 0 (vals xs[k].1) := fun W hW => cellsAt_from (vals xs[k].1) 0 (fun j hj => by
        rw [Nat.zero_add, World.cell?_of_block (a := ⟨b, off + k * 5 + j, none⟩) (hW.block b hbw)]
        exact hcu j hj)
      obtain ⟨n1, n2, n3, n4, hx⟩ := kinds_v4 hk1
      rw [hx] at hc00 hk2
      simp only [vals, List.map_cons, List.map_nil, Fld.val, cellsAt, Nat.add_zero, Nat.reduceAdd] at hc00
      have hc0 : ∀ W, Below w.heap.size w W → W.cell? ⟨b, off + k * 5, none⟩ = some (.int .i64 n1) ∧ W.cell? ⟨b, off + k * 5 + 1, none⟩ = some (.int .i64 n2) ∧ W.cell? ⟨b, off + k * 5 + 2, none⟩ = some (.int .i64 n3) ∧ W.cell? ⟨b, off + k * 5 + 3, none⟩ = some (.int .i64 n4) ∧ W.cell? ⟨b, off + k * 5 + 4, none⟩ = some u := fun W hW => by
        obtain ⟨q1, q2, q3, q4⟩ := hc00 W hW
        exact ⟨q1, q2, q3, q4, (World.cell?_of_block (a := ⟨b, off + k * 5 + 4, none⟩) (hW.block b hbw)).trans hcu4⟩
      have CF := Lib.hid hc0
      obtain ⟨La, hLa⟩ : ∃ L, L = bytesOf [Fld.int n1, .int n2, .int n3, .int n4] := ⟨_, rfl⟩
      obtain ⟨Lb, hLb⟩ : ∃ L, L = wint (xs[k].2.length : Int) ++ listB xs[k].2 := ⟨_, rfl⟩
      have HL : Hid (viewB xs[k] = La ++ Lb) := by
        show viewB xs[k] = _
        unfold viewB
        rw [hx, hLa, hLb]
      have hlens : La.length + Lb.length ≤ 100000000000 := by rw [HL.out, List.length_append] at hbl; exact hbl
      have RNa : Hid (∀ W : World, Calls Try.prog 31 #[.slice (some ⟨W.heap.size, 0, none⟩) 4 4] (W.alloc (.cells #[.int .i64 n1, .int .i64 n2, .int .i64 n3, .int .i64 n4] 3)).drew (Tells La (W.alloc (.cells #[.int .i64 n1, .int .i64 n2, .int .i64 n3, .int .i64 n4] 3)).drew)) := fun W => by
        have := numbers_any _ [n1, n2, n3, n4] (W.alloc (.cells #[.int .i64 n1, .int .i64 n2, .int .i64 n3, .int .i64 n4] 3)).drew ((nums_made W [n1, n2, n3, n4] 3 4 rfl (by decide)).on (Below.refl _ _).drew) (by simp) (fun n hn => by simp at hn; rcases hn with rfl | rfl | rfl | rfl <;> exact hk2 _ (by simp))
        rw [hLa]
        exact this
      have RM : Hid (∀ W, Below w.heap.size w W → Calls Try.prog 37 #[u] W (Tells Lb W)) := fun W hW => by rw [hLb]; exact members_any u xs[k].2 W (hst.on hW) hk3 hk4
      have i0' : (0 : Int) ≤ (k : Int) := by omega
      have i1 : (k : Int) < (xs.length : Int) := by omega
      have Pa : (wint (xs.length : Int) ++ viewsB (xs.take k)).length + La.length ≤ 1099511627776 := by simp only [List.length_append]; omega
      have Pb : ((wint (xs.length : Int) ++ viewsB (xs.take k)) ++ La).length + Lb.length ≤ 1099511627776 := by simp only [List.length_append]; omega
      clear hcells hk1 hk2 hk3 hk4 hx hbl hr0 hc0 hc00 hLa hLb hcu hcu4 hst
      go_wp2
      have C0 := CF.out _ hb
      have hbda : Below w.heap.size w wr.drew := hb.drew
      have CDa := CF.out _ hbda
      have hdna : Below wr.heap.size wr (wr.alloc (.cells #[.int .i64 n1, .int .i64 n2, .int .i64 n3, .int .i64 n4] 3)).drew := (bal wr _).drew
      have hbna : Below w.heap.size w (wr.alloc (.cells #[.int .i64 n1, .int .i64 n2, .int .i64 n3, .int .i64 n4] 3)).drew := hb.trans (hdna.mono hb.size)
      have CNa := CF.out _ hbna
      first | (go_region_held3 (fun W => W.cell? ⟨b, off + k * 5, none⟩ = some (.int .i64 n1) ∧ W.cell? ⟨b, off + k * 5 + 1, none⟩ = some (.int .i64 n2) ∧ W.cell? ⟨b, off + k * 5 + 2, none⟩ = some (.int .i64 n3) ∧ W.cell? ⟨b, off + k * 5 + 3, none⟩ = some (.int .i64 n4) ∧ W.cell? ⟨b, off + k * 5 + 4, none⟩ = some u) (first | exact C2 | exact C1 | exact CNa | exact CDa | exact C0) (first
        | (go_at_call 31; (with_reducible refine (RNa.out _).mono ?_); rintro e w1 ⟨A1, c1, rfl, hs1, hb1⟩; have hbqa : Below wr.heap.size wr w1 := bt hdna hb1; have hbw1 : Below w.heap.size w w1 := hb.trans (hbqa.mono hb.size); have C1 := CF.out _ hbw1)
        | ((refine step_append8 (B := w.heap.size) (l := wint (xs.length : Int) ++ viewsB (xs.take k)) (m := La) (by rfl) (.tmp 14) (.tmp 36) 22 22 (by rfl) 5 i0 Try.underlying22 hi0 hz0 hz1 hz2 (hr'.on hbqa) hbw1.size (hs1.src Try.underlying22) Pa (by rfl) (by rfl) ?_; intro v2 w2 hr2 hb2; have hbw2 : Below w.heap.size w w2 := hbw1.trans hb2; have C2 := CF.out _ hbw2)))) | fail
      go_wp2_with (first
        | (go_at_call 37; (with_reducible refine (RM.out _ hbw2).mono ?_); rintro e w3 ⟨A3, c3, rfl, hs3, hb3⟩; have hbw3 : Below w.heap.size w w3 := hbw2.trans (hb3.mono hbw2.size); have C3 := CF.out _ hbw3)
        | (at_builtin; refine wpList_append8 (B := w.heap.size) (l := (wint (xs.length : Int) ++ viewsB (xs.take k)) ++ La) (m := Lb) rfl (.tmp 38) (.tmp 44) 22 22 rfl 5 i0 Try.underlying22 hi0 hz0 hz1 hz2 (hr2.on hb3) hbw3.size (hs3.src Try.underlying22) Pb rfl rfl ?_; intro v4 w4 hr4 hb4; have hbw4 : Below w.heap.size w w4 := hbw3.trans hb4))
      go_roundw
      case rel => exact ⟨k + 1, by omega, by go_num, by rw [HT.out, HL.out]; simpa only [List.append_assoc] using hr4, hbw4⟩
      case measure => simp [intOf]; omega
    · have hkl : Hid (xs.take k = xs) := List.take_of_length_le (by omega)
      go_wp2
      go_ret
      exact ⟨_, rfl, by rw [hkl.out] at hr'; exact hr', hb⟩

end Go.Proofs.Ytfikailgjmgnbaa
