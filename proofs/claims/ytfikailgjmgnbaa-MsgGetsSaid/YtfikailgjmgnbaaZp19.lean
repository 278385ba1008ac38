/-
  What msg.putImage comes to (made by msg-put-gen.py).
  append, and what has become of the slice that was appended to.
  The example of messages holds, given what msg.Put and msg.Get come to (made by msg-awake-gen.py).
-/
import Derived.Test.YtfikailgjmgnbaaZp18
import Derived.Test.YtfikailgjmgnbaaZp01
import Derived.Test.YtfikailgjmgnbaaZp10

namespace Go.Proofs.Ytfikailgjmgnbaa
open Go.RowKit Flo
attribute [local go_sem ↓] Go.wp_at_zero Go.wp_at_succ

theorem lputter_E : LPutter (.list KE) 48 49 := fun w B u v l t ht hl hr hB hlen => putlist_E putter_E w B u v l t ht hl hr hB hlen
theorem lputter_S : LPutter (.list KS) 74 75 := fun w B u v l t ht hl hr hB hlen => putlist_S putter_S w B u v l t ht hl hr hB hlen
theorem lputter_W : LPutter .views 52 53 := fun w B u v l t ht hl hr hB hlen => putlist_W putter_W w B u v l t ht hl hr hB hlen
set_option maxRecDepth 100000 in
set_option maxHeartbeats 400000 in
theorem ter_G_any (fl la : Int × Int) (gen : Int) (log seen : List (List Fld)) (lv sv : Value) (w : World) (B : Nat) (u : Value) (l : List UInt8) (hroom : Room w B u l) (hB : B ≤ w.heap.size) (hlen : l.length + (Img.bytes ⟨fl, la, gen, log, seen⟩).length ≤ 200000000000) (r0 : (Fld.ver fl.1 fl.2).right) (r1 : (Fld.ver la.1 la.2).right) (r2 : (Fld.int gen).right)
    (hlog : (TK.list KE).is (.list log)) (hseen : (TK.list KS).is (.list seen)) (hlv : StructsX (· < B) w lv 11 (log.map vals)) (hsv : StructsX (· < B) w sv 7 (seen.map vals)) :
    Calls Try.prog 54 #[u, .agg #[ver fl.1 fl.2, ver la.1 la.2, .int .i64 gen, lv, sv]] w (AddsE w B u l (Img.bytes ⟨fl, la, gen, log, seen⟩)) := by
  have HB := Lib.hid hB
  obtain ⟨m1, hm1⟩ : ∃ x, x = (Fld.ver fl.1 fl.2).bytes := ⟨_, rfl⟩
  obtain ⟨m2, hm2⟩ : ∃ x, x = (Fld.ver la.1 la.2).bytes := ⟨_, rfl⟩
  obtain ⟨m3, hm3⟩ : ∃ x, x = (Fld.int gen).bytes := ⟨_, rfl⟩
  obtain ⟨m4, hm4⟩ : ∃ x, x = entB log := ⟨_, rfl⟩
  obtain ⟨m5, hm5⟩ : ∃ x, x = entB seen := ⟨_, rfl⟩
  have hlens : l.length + (m1.length + m2.length + m3.length + m4.length + m5.length) ≤ 200000000000 := by
    rw [hm1, hm2, hm3, hm4, hm5]
    simp only [List.length_append, Img.bytes] at hlen ⊢
    omega
  have hw1 : Below B w (w.alloc (.cells #[ver fl.1 fl.2, ver la.1 la.2, .int .i64 gen, lv, sv] 33)) := (bal w _).mono hB
  have S0 := StepT.start (w := w) [ver fl.1 fl.2, ver la.1 la.2, .int .i64 gen, lv, sv] 33 hroom hB
  have R1 : Hid (∀ W xw, StepT B u l w.heap.size [ver fl.1 fl.2, ver la.1 la.2, .int .i64 gen, lv, sv] (w.alloc (.cells #[ver fl.1 fl.2, ver la.1 la.2, .int .i64 gen, lv, sv] 33)) [] W xw → Calls Try.prog 46 #[xw, ver fl.1 fl.2] W (StepE B u l w.heap.size [ver fl.1 fl.2, ver la.1 la.2, .int .i64 gen, lv, sv] (w.alloc (.cells #[ver fl.1 fl.2, ver la.1 la.2, .int .i64 gen, lv, sv] 33)) ([] ++ m1))) := fun W xw h => by
    have hq : m1 = (Th.bytes (.fld (.ver fl.1 fl.2))) := hm1
    rw [hq]
    exact step_put (K := .one .V) putter_V (cs := [ver fl.1 fl.2]) h hw1 (⟨rfl, r0⟩) (rfl) (by rw [← hq]; simp only [List.length_nil]; omega)
  have R2 : Hid (∀ W xw, StepT B u l w.heap.size [ver fl.1 fl.2, ver la.1 la.2, .int .i64 gen, lv, sv] (w.alloc (.cells #[ver fl.1 fl.2, ver la.1 la.2, .int .i64 gen, lv, sv] 33)) ([] ++ m1) W xw → Calls Try.prog 46 #[xw, ver la.1 la.2] W (StepE B u l w.heap.size [ver fl.1 fl.2, ver la.1 la.2, .int .i64 gen, lv, sv] (w.alloc (.cells #[ver fl.1 fl.2, ver la.1 la.2, .int .i64 gen, lv, sv] 33)) (([] ++ m1) ++ m2))) := fun W xw h => by
    have hq : m2 = (Th.bytes (.fld (.ver la.1 la.2))) := hm2
    rw [hq]
    exact step_put (K := .one .V) putter_V (cs := [ver la.1 la.2]) h hw1 (⟨rfl, r1⟩) (rfl) (by rw [← hq]; simp only [List.length_append, List.length_nil]; omega)
  have R3 : Hid (∀ W xw, StepT B u l w.heap.size [ver fl.1 fl.2, ver la.1 la.2, .int .i64 gen, lv, sv] (w.alloc (.cells #[ver fl.1 fl.2, ver la.1 la.2, .int .i64 gen, lv, sv] 33)) (([] ++ m1) ++ m2) W xw → Calls Try.prog 71 #[xw, .int .i64 gen] W (StepE B u l w.heap.size [ver fl.1 fl.2, ver la.1 la.2, .int .i64 gen, lv, sv] (w.alloc (.cells #[ver fl.1 fl.2, ver la.1 la.2, .int .i64 gen, lv, sv] 33)) ((([] ++ m1) ++ m2) ++ m3))) := fun W xw h => by
    have hq : m3 = (Th.bytes (.fld (.int gen))) := hm3
    rw [hq]
    exact step_put (K := .one .I) putter_I (cs := [.int .i64 gen]) h hw1 (⟨rfl, r2⟩) (rfl) (by rw [← hq]; simp only [List.length_append, List.length_nil]; omega)
  have R4 : Hid (∀ W xw, StepT B u l w.heap.size [ver fl.1 fl.2, ver la.1 la.2, .int .i64 gen, lv, sv] (w.alloc (.cells #[ver fl.1 fl.2, ver la.1 la.2, .int .i64 gen, lv, sv] 33)) ((([] ++ m1) ++ m2) ++ m3) W xw → Calls Try.prog 48 #[xw, lv, .func (.func 49) #[] #[]] W (StepE B u l w.heap.size [ver fl.1 fl.2, ver la.1 la.2, .int .i64 gen, lv, sv] (w.alloc (.cells #[ver fl.1 fl.2, ver la.1 la.2, .int .i64 gen, lv, sv] 33)) (((([] ++ m1) ++ m2) ++ m3) ++ m4))) := fun W xw h => by
    have hq : m4 = (Th.bytes (.list log)) := hm4
    rw [hq]
    exact step_list (L := .list KE) lputter_E h hw1 (hlog) (⟨lv, rfl, hlv⟩) (by rw [← hq]; simp only [List.length_append, List.length_nil]; omega)
  have R5 : Hid (∀ W xw, StepT B u l w.heap.size [ver fl.1 fl.2, ver la.1 la.2, .int .i64 gen, lv, sv] (w.alloc (.cells #[ver fl.1 fl.2, ver la.1 la.2, .int .i64 gen, lv, sv] 33)) (((([] ++ m1) ++ m2) ++ m3) ++ m4) W xw → Calls Try.prog 74 #[xw, sv, .func (.func 75) #[] #[]] W (StepE B u l w.heap.size [ver fl.1 fl.2, ver la.1 la.2, .int .i64 gen, lv, sv] (w.alloc (.cells #[ver fl.1 fl.2, ver la.1 la.2, .int .i64 gen, lv, sv] 33)) ((((([] ++ m1) ++ m2) ++ m3) ++ m4) ++ m5))) := fun W xw h => by
    have hq : m5 = (Th.bytes (.list seen)) := hm5
    rw [hq]
    exact step_list (L := .list KS) lputter_S h hw1 (hseen) (⟨sv, rfl, hsv⟩) (by rw [← hq]; simp only [List.length_append, List.length_nil]; omega)
  clear hroom hlens hw1 hlen hlv hsv hlog hseen
  have c0 := S0.cell 0 (x := ver fl.1 fl.2) rfl
  go_enter Try.func54, Try.ntmps54
  go_wp2_with fail
  go_at_call 46
  (refine (R1.out _ _ S0).mono ?_)
  rintro e w1 ⟨v1, rfl, S1⟩
  clear c0
  have c1 := S1.cell 1 (x := ver la.1 la.2) rfl
  go_wp2_with (first
    | (go_at_call 46; (with_reducible refine (R2.out _ _ S1).mono ?_); rintro e w2 ⟨v2, rfl, S2⟩; clear c1; have c2 := S2.cell 2 (x := .int .i64 gen) rfl)
    | (go_at_call 71; (with_reducible refine (R3.out _ _ S2).mono ?_); rintro e w3 ⟨v3, rfl, S3⟩; clear c2; have c3 := S3.cell 3 (x := lv) rfl)
    | (go_at_call 48; (with_reducible refine (R4.out _ _ S3).mono ?_); rintro e w4 ⟨v4, rfl, S4⟩; clear c3; have c4 := S4.cell 4 (x := sv) rfl)
    | (go_at_call 74; (with_reducible refine (R5.out _ _ S4).mono ?_); rintro e w5 ⟨v5, rfl, S5⟩))
  go_ret
  refine ⟨_, rfl, ?_⟩
  have h := Adds.ahead (bal w _) HB.out S5.1
  rw [hm1, hm2, hm3, hm4, hm5] at h
  simp only [List.nil_append, List.append_assoc, Img.bytes] at h ⊢
  exact h
theorem putter_G : Putter .img 54 := fun w B u l t vs ht hl hroom hB hlen => by
  cases t with
  | img x =>
    obtain ⟨fl, la, gen, log, seen⟩ := x
    obtain ⟨h1, h2, h3, h4, h5, h6, h7⟩ := ht
    obtain ⟨lv, sv, rfl, hlv, hsv⟩ := hl
    exact ter_G_any fl la gen log seen lv sv w B u l hroom hB hlen h1 h2 h3 ⟨h4, h6⟩ ⟨h5, h7⟩ hlv hsv
  | _ => exact ht.elim

end Go.Proofs.Ytfikailgjmgnbaa

namespace Go.Proofs.Ytfikailgjmgnbaa
open Go.RowKit

/-- the new slice begins where the old one does, or it lies in a new block and nothing that was there has turned -/
def Grown (w w' : World) (v v' : Value) : Prop := (∃ A n c n' c', v = .slice A n c ∧ v' = .slice A n' c') ∨ (Below w.heap.size w w' ∧ ∀ g, v'.ownBlock = some g → w.heap.size ≤ g)

/-- append: what it leaves, and where the old slice stands -/
theorem run_append8o {P : Program} {w : World} {B : Nat} {v x : Value} {l m : List UInt8} (t tx ty e : TypeId) (i : TypeInfo) (ht : P.underlying t = some (.slice e)) (hi : P.info? e = some i) (hz : i.zero = some (.int .u8 0)) (h1 : i.size = 1) (hy : i.bytes = 1)
    (hr : Room w B v l) (hB : B ≤ w.heap.size) (hs : Src P 1 tx x m.length (c8 m) w) (hl : l.length + m.length ≤ 1099511627776) :
    ∃ v' w', (Builtin.append_ #[t, tx] ty #[v, x]).run P w = .ok v' w' ∧ Room w' B v' (l ++ m) ∧ Below B w w' ∧ (∀ g, v'.ownBlock = some g → v.ownBlock = some g ∨ w.heap.size ≤ g) ∧ (∀ k, k < w.heap.size → v.ownBlock ≠ some k → w'.heap[k]? = w.heap[k]?) ∧ Grown w w' v v' := by
  have hs' : Src P i.size tx x m.length (c8 m) w := by rw [h1]; exact hs
  rcases Nat.eq_zero_or_pos m.length with hm | hm
  · have hm' : m = [] := List.eq_nil_of_length_eq_zero hm
    subst hm'
    obtain ⟨A, c, rfl, hle, _⟩ := hr.seen
    exact ⟨_, _, run_append_nothing (P := P) w t tx ty e i ht hi A l.length c hle x hs', by rw [List.append_nil]; exact hr, Below.refl _ _, fun _ h => .inl h, fun _ _ _ => rfl, .inl ⟨_, _, _, _, _, rfl, rfl⟩⟩
  · -- a new row
    have grow : ∀ (bs : Option Addr) (sc : Nat), v = .slice bs l.length sc → sc < l.length + m.length → (Builtin.firstCells i.size l.length (.slice bs l.length sc)).run P w.drew = .ok (c8 l).toArray w.drew →
        ∃ v' w', (Builtin.append_ #[t, tx] ty #[v, x]).run P w = .ok v' w' ∧ Room w' B v' (l ++ m) ∧ Below B w w' ∧ (∀ g, v'.ownBlock = some g → v.ownBlock = some g ∨ w.heap.size ≤ g) ∧ (∀ k, k < w.heap.size → v.ownBlock ≠ some k → w'.heap[k]? = w.heap[k]?) ∧ Grown w w' v v' := by
      rintro bs sc rfl hlt hold
      have hrun := run_append_grow_src (P := P) w t tx ty e i (.int .u8 0) ht hi hz bs l.length sc (c8 l) hold x m.length (c8 m) hs' hlt (by omega) (by rw [hy]; exact growslice_fits hlt (by omega))
      have hge := grownCap_ge w (l.length + m.length) sc e
      have hcm := grownCap_le_maxLen w (l.length + m.length) sc e (by unfold maxLen; omega)
      generalize grownCap w (l.length + m.length) sc e = C at hrun hge hcm
      have hZ : ((c8 l ++ c8 m).toArray ++ Builtin.zeroCells (Value.int .u8 0).cells (C - (l.length + m.length))).size = C := by
        have e1 : (Value.int IntKind.u8 0).cells.size = 1 := rfl
        rw [Array.size_append, List.size_toArray, List.length_append, c8_length, c8_length, size_zeroCells, e1]
        omega
      generalize hcs : ((c8 l ++ c8 m).toArray ++ Builtin.zeroCells (Value.int .u8 0).cells (C - (l.length + m.length))) = cs at hrun hZ
      refine ⟨_, _, hrun, .inr ⟨w.heap.size, 0, C, by rw [List.length_append], by rw [List.length_append]; exact hge, hcm, .inl hB, by show w.heap.size < (w.drew.alloc _).heap.size; simp, fun j hj => ?_, fun _ j _ => World.frozen?_alloc_new w.drew .., fun j _ hj => ?_⟩, (Below.refl B w).drew.alloc hB _, fun g hg => .inr (Nat.le_of_eq (by simpa [Value.ownBlock] using hg)), fun k hk _ => Below.heap_alloc w.drew _ k hk, .inr ⟨(Below.refl _ w).drew.alloc (Nat.le_refl _) _, fun g hg => Nat.le_of_eq (by simpa [Value.ownBlock] using hg)⟩⟩
      · show (w.drew.alloc _).cell? ⟨w.drew.heap.size, 0 + j, none⟩ = _
        rw [World.cell?_alloc_new, Nat.zero_add, ← hcs, Array.getElem?_append_left (by rw [List.size_toArray, ← c8_append, c8_length]; exact hj), List.getElem?_toArray, ← c8_append]
        exact c8_get _ j hj
      · show ((w.drew.alloc _).cell? ⟨w.drew.heap.size, 0 + j, none⟩).isSome = true ∧ (w.drew.alloc _).frozen? ⟨w.drew.heap.size, 0 + j, none⟩ = false
        rw [World.cell?_alloc_new, World.frozen?_alloc_new, Nat.zero_add, Array.getElem?_eq_getElem (by omega)]
        exact ⟨rfl, rfl⟩
    rcases hr with ⟨rfl, rfl⟩ | ⟨g, off, cap, rfl, hle, hcm, hg, hgw, hrow, hfz, hsp⟩
    · exact grow none 0 rfl (by simpa using hm) (by simp [Builtin.firstCells, c8])
    · have hcell : ∀ j u, (c8 l)[j]? = some u → w.cell? ((⟨g, off, none⟩ : Addr).add j) = some u := by
        intro j u hu
        have hj : j < l.length := by rw [← c8_length]; exact (List.getElem?_eq_some_iff.1 hu).1
        rw [c8_get l j hj] at hu
        rw [Addr.add_lit, hrow j hj, hu]
      by_cases hfit : l.length + m.length ≤ cap
      · have hgB : B ≤ g := by
          rcases hg with h | h
          · exact h
          · omega
        have hfree : ∀ j, j < (c8 m).length → (w.cell? ⟨g, off + l.length + j, none⟩).isSome = true ∧ w.frozen? ⟨g, off + l.length + j, none⟩ = false := by
          intro j hj
          rw [c8_length] at hj
          rw [Nat.add_assoc]
          exact hsp (l.length + j) (by omega) (by omega)
        have hrun := run_append_room_src (P := P) w t tx ty e i ht hi g off l.length cap x m.length (c8 m) hs' hfit (by rw [h1, Nat.mul_one]; exact fun j hj => (hfree j hj).1) (by rw [h1, Nat.mul_one]; exact fun j hj => (hfree j hj).2)
        rw [h1, Nat.mul_one] at hrun
        refine ⟨_, _, hrun, .inr ⟨g, off, cap, by rw [List.length_append], by rw [List.length_append]; exact hfit, hcm, .inl hgB, by rw [(World.tape_setCells g _ _ w).2]; exact hgw, fun j hj => ?_, fun _ j hj => ?_, fun j hj hc => ?_⟩, below_setCells hgB _ _, fun _ h => .inl h, fun k _ hk => heap_setCells g _ _ w k (fun e => hk (by rw [e]; rfl)), .inl ⟨_, _, _, _, _, rfl, rfl⟩⟩
        · rw [List.length_append] at hj
          by_cases hjl : j < l.length
          · rw [World.cell?_setCells_out g _ _ _ _ (fun _ _ => .inl (by show off + j < _; omega)), hrow j hjl, List.getElem_append_left hjl]
          · have hin := World.cell?_setCells_in g (c8 m) (off + l.length) w (fun j hj => (hfree j hj).1) (j - l.length) (by rw [c8_length]; omega)
            rw [show off + l.length + (j - l.length) = off + j by omega] at hin
            rw [hin, List.getElem_append_right (by omega)]
            simp [c8]
        · rw [List.length_append] at hj
          rw [World.frozen?_setCells]
          by_cases hjl : j < l.length
          · exact hfz hgB j hjl
          · exact (hsp j (by omega) (by omega)).2
        · rw [List.length_append] at hj
          rw [World.cell?_setCells_out g _ _ _ _ (fun _ _ => .inr (by show off + l.length + (c8 m).length ≤ off + j; rw [c8_length]; omega)), World.frozen?_setCells]
          exact hsp j (by omega) hc
      · exact grow _ cap rfl (by omega) (run_firstCells_some (P := P) w.drew i.size l.length _ l.length cap (c8 l) (by rw [c8_length, h1, Nat.mul_one]) (by simpa using hcell))

theorem wpList_append8o {P : Program} {w : World} {B : Nat} {v xv : Value} {l m : List UInt8} {ops : Array Oper} {rest : List Oper} {o : Oper} {a : Act} {Q : Exit → Act → World → Prop} (hgd : o.guard = none) (s x : Operand) (t tx : TypeId)
    (ho : o.op = .call { callee := .builtin .append, args := #[s, x], argTypes := #[t, tx] })
    (e : TypeId) (i : TypeInfo) (ht : P.underlying t = some (.slice e)) (hi : P.info? e = some i) (hz : i.zero = some (.int .u8 0)) (h1 : i.size = 1) (hy : i.bytes = 1)
    (hr : Room w B v l) (hB : B ≤ w.heap.size) (hs : Src P 1 tx xv m.length (c8 m) w) (hl : l.length + m.length ≤ 1099511627776) (hv : a.eval s = v) (hx : a.eval x = xv)
    (h : ∀ v' w', Room w' B v' (l ++ m) → Below B w w' → (∀ g, v'.ownBlock = some g → v.ownBlock = some g ∨ w.heap.size ≤ g) → (∀ k, k < w.heap.size → v.ownBlock ≠ some k → w'.heap[k]? = w.heap[k]?) → Grown w w' v v' → wpList P ops Q rest (a.put o.dst v') w') : wpList P ops Q (o :: rest) a w := by
  refine wpList_plain hgd fun K hK => ?_
  obtain ⟨v', w', hrun, h2, h3, h4, h5, h6⟩ := run_append8o (P := P) t tx o.type e i ht hi hz h1 hy hr hB hs hl
  unfold Oper.wp execOp
  simp only [ho, resolve, invoke, builtin, Sem.run_bind, Sem.run_pure, Result.andThen_ok, List.map_toArray, List.map_cons, List.map_nil, hv, hx, hrun]
  exact hK _ _ (h v' w' h2 h3 h4 h5 h6)

/-- what stands of a slice while another grows out of it -/
def Stay (w : World) (v : Value) (l : List UInt8) (o : Value) (wr : World) : Prop := (∃ A c n' c', v = .slice A l.length c ∧ l.length ≤ c ∧ c ≤ maxLen ∧ o = .slice A n' c') ∨ (Seen wr wr.heap.size v l ∧ ∀ g, o.ownBlock = some g → w.heap.size ≤ g ∧ ∀ g', v.ownBlock = some g' → g' ≠ g)
theorem Stay.start {w : World} {B : Nat} {v : Value} {l : List UInt8} (h : Room w B v l) : Stay w v l v w := by
  obtain ⟨A, c, rfl, h1, h2, _⟩ := h.cut
  exact .inl ⟨A, c, _, c, rfl, h1, h2, rfl⟩
theorem Stay.seen {w wr : World} {B : Nat} {v o : Value} {l m : List UInt8} (h : Stay w v l o wr) (hr : Room wr B o (l ++ m)) : Seen wr wr.heap.size v l := by
  rcases h with ⟨A, c, n', c', rfl, h1, h2, rfl⟩ | ⟨h, _⟩
  · obtain ⟨A2, c2, e, h3, h4, h5⟩ := hr.seen
    injection e with e1 e2 e3
    subst e1 e2 e3
    refine ⟨A, c, rfl, h1, h2, ?_⟩
    rcases h5 with h5 | ⟨b, off, hA, hb, hw, hrow⟩
    · exact .inl (List.append_eq_nil_iff.1 h5).1
    · refine .inr ⟨b, off, hA, hb, hw, ?_⟩
      have := hrow.take l.length
      rw [List.take_left] at this
      exact this
  · exact h
theorem Stay.step {w wr w' : World} {B : Nat} {v o o' : Value} {l m : List UInt8} (h : Stay w v l o wr) (hr : Room wr B o (l ++ m)) (hw : w.heap.size ≤ wr.heap.size) (hs : wr.heap.size ≤ w'.heap.size) (hv : ∀ g, v.ownBlock = some g → g < w.heap.size)
    (hk : ∀ k, k < wr.heap.size → o.ownBlock ≠ some k → w'.heap[k]? = wr.heap[k]?) (hg : Grown wr w' o o') : Stay w v l o' w' := by
  have hsee := h.seen hr
  rcases hg with ⟨A, n, c, n', c', rfl, rfl⟩ | ⟨hb, hn⟩
  · rcases h with ⟨A2, c2, n2, c2', rfl, h1, h2, e⟩ | ⟨h1, h2⟩
    · injection e with e1 _ _
      subst e1
      exact .inl ⟨A, c2, n', c', rfl, h1, h2, rfl⟩
    · refine .inr ⟨?_, fun g hg => h2 g (by cases A with | none => cases hg | some a => exact hg)⟩
      obtain ⟨A3, c3, rfl, h3, h4, h5⟩ := h1
      refine ⟨A3, c3, rfl, h3, h4, h5.imp id ?_⟩
      rintro ⟨b, off, rfl, hb, hw', hrow⟩
      refine ⟨b, off, rfl, Nat.lt_of_lt_of_le hw' hs, Nat.lt_of_lt_of_le hw' hs, hrow.congr (hk b hw' ?_)⟩
      intro e
      exact (h2 b e).2 b rfl rfl
  · refine .inr ⟨hsee.on hb, fun g hg => ⟨Nat.le_trans hw (hn g hg), fun g' hg' e => ?_⟩⟩
    have := hv g' hg'
    have := hn g hg
    omega

end Go.Proofs.Ytfikailgjmgnbaa

namespace Go.Proofs.Ytfikailgjmgnbaa
open Go.RowKit Flo
attribute [local go_sem ↓] Go.wp_at_zero Go.wp_at_succ
attribute [local go_sem ↓] to_msgLoad to_msgStore
attribute [local go_sem] run_msgLoad run_msgStore

def PutOk : Prop := ∀ (w : World) (m : MsgD) (ev cv vv lv sv : Value), m.right → m.lies w ev cv vv lv sv → Calls Try.prog 14 #[m.val_ ev cv vv lv sv] w (Gives w.heap.size m.bytes w)
def amsg : MsgD := ⟨fun i => if i = 0 then 3 else if i = 1 then 100 else if i = 2 then 1 else 0, false, false, ⟨#[]⟩, ⟨#[]⟩, (0, 0), (0, 0), 0, ⟨#[]⟩, ⟨#[]⟩, ⟨#[]⟩, false, [], [], [], zimg⟩
theorem wint3 : (Fld.int 3).bytes = [6] := by
  show enc 6 = _
  rw [enc_small (by omega)]; rfl
theorem wint1 : (Fld.int 1).bytes = [2] := by
  show enc 2 = _
  rw [enc_small (by omega)]; rfl
theorem wint100 : (Fld.int 100).bytes = [200, 1] := by
  show enc 200 = _
  rw [enc_big (by omega), enc_small (by omega)]; rfl
theorem amsg_bytes : amsg.bytes = [6, 200, 1, 2, 0, 0, 0, 0, 0, 0, 0, 0, 0, 0, 0, 0, 0, 0, 0, 0, 0, 0, 0, 0, 0, 0, 0, 0, 0, 0, 0, 0, 0, 0, 0, 0] := by
  have e : amsg.bytes = bytesOf [.int 3, .int 100, .int 1, .int 0, .int 0, .int 0, .int 0, .int 0, .int 0, .int 0, .int 0, .int 0] ++ ([0, 0] ++ ((Fld.text ⟨#[]⟩).bytes ++ ((Fld.text ⟨#[]⟩).bytes ++ ((Fld.ver 0 0).bytes ++ ((Fld.ver 0 0).bytes ++ (bytesOf [.int 0, .text ⟨#[]⟩, .text ⟨#[]⟩, .text ⟨#[]⟩, .truth false] ++ (entB [] ++ (entB [] ++ (vwsB [] ++ ((Fld.ver 0 0).bytes ++ ((Fld.ver 0 0).bytes ++ ((Fld.int 0).bytes ++ (entB [] ++ entB []))))))))))))) := rfl
  rw [e]
  simp only [bytesOf, b_int, b_ver, b_none, b_ent, b_vws, wint3, wint1, wint100]
  rfl
theorem amsg_right : amsg.right := by
  refine ⟨fun n hn => ?_, r_text, r_text, r_ver, r_ver, fun f hf => ?_, by decide, by decide, by decide, (fun _ h => by cases h), (fun _ h => by cases h), (fun _ h => by cases h), zimg_right, by rw [amsg_bytes]; decide⟩
  · have hm : n ∈ ([3, 100, 1, 0, 0, 0, 0, 0, 0, 0, 0, 0] : List Int) := hn
    simp only [List.mem_cons, List.not_mem_nil, or_false] at hm
    have : 0 ≤ n ∧ n ≤ 100 := by omega
    exact ⟨by omega, by omega⟩
  · simp only [MsgD.op, amsg, List.mem_cons, List.not_mem_nil, or_false] at hf
    rcases hf with rfl | rfl | rfl | rfl | rfl
    · exact r_int
    · exact r_text
    · exact r_text
    · exact r_text
    · exact trivial
theorem amsg_put (PU : PutOk) (w : World) : Calls Try.prog 14 #[.agg #[.int .i64 3, .int .i64 100, .int .i64 1, .int .i64 0, .int .i64 0, .int .i64 0, .int .i64 0, .int .i64 0, .int .i64 0, .int .i64 0, .int .i64 0, .int .i64 0, .bool false, .bool false, .string ⟨#[]⟩, .string ⟨#[]⟩, .complex .f64 0 0, .complex .f64 0 0, .int .i64 0, .string ⟨#[]⟩, .string ⟨#[]⟩, .string ⟨#[]⟩, .bool false, .slice none 0 0, .slice none 0 0, .slice none 0 0, .complex .f64 0 0, .complex .f64 0 0, .int .i64 0, .slice none 0 0, .slice none 0 0]] w (Gives w.heap.size amsg.bytes w) := by
  have h := PU w amsg (.slice none 0 0) (.slice none 0 0) (.slice none 0 0) (.slice none 0 0) (.slice none 0 0) amsg_right ⟨structs_nil w _, structs_nil w _, ⟨none, 0, rfl, Nat.le_refl _, Nat.zero_le _, .inl rfl⟩, structs_nil w _, structs_nil w _⟩
  have e : amsg.val_ (.slice none 0 0) (.slice none 0 0) (.slice none 0 0) (.slice none 0 0) (.slice none 0 0) = .agg #[.int .i64 3, .int .i64 100, .int .i64 1, .int .i64 0, .int .i64 0, .int .i64 0, .int .i64 0, .int .i64 0, .int .i64 0, .int .i64 0, .int .i64 0, .int .i64 0, .bool false, .bool false, .string ⟨#[]⟩, .string ⟨#[]⟩, ver 0 0, ver 0 0, .int .i64 0, .string ⟨#[]⟩, .string ⟨#[]⟩, .string ⟨#[]⟩, .bool false, .slice none 0 0, .slice none 0 0, .slice none 0 0, ver 0 0, ver 0 0, .int .i64 0, .slice none 0 0, .slice none 0 0] := rfl
  rw [e, ver00] at h
  exact h
theorem whole_at (W : World) (g n i : Nat) (u : Value) (hi : i < n) (hw : Wh W g n) (h : (wholeOf W g n)[i]? = some u) : W.cell? ⟨g, i, none⟩ = some u := by
  have h2 := hw i hi
  unfold wholeOf at h
  rw [List.getElem?_toArray, List.getElem?_map, List.getElem?_range hi, Option.map_some] at h
  cases hc : W.cell? ⟨g, i, none⟩ with
  | none => rw [hc] at h2; cases h2
  | some x => rw [hc] at h; exact h
/-- what Get comes to at the example's bytes, and with a byte more -/
theorem amsg_get (GE : GetOk) (w : World) (v : Value) (hv : Seen w w.heap.size v amsg.bytes) : Calls Try.prog 6 #[v] w fun e w' => Below w.heap.size w w' ∧ ∃ cs, Ones cs ∧ e = .returned (.tuple #[.agg cs, .bool true]) ∧ ∀ W g, Wh W g 31 → wholeOf W g 31 = cs → W.cell? ⟨g, 0, none⟩ = some (.int .i64 3) ∧ W.cell? ⟨g, 1, none⟩ = some (.int .i64 100) :=
  (GE w v _ hv (by rw [amsg_bytes]; decide)).mono fun e w' ⟨hb, h⟩ => by
    refine ⟨hb, ?_⟩
    rcases h with ⟨m, vs, ev, cv, vv, lv, sv, hm, hmb, hml, hmv, rfl⟩ | ⟨h, _⟩
    · obtain ⟨q1, q2⟩ := msg_cells hml hmv
      obtain ⟨hn, _⟩ := msg_apart m amsg [] [] hm amsg_right (by rw [hmb])
      have h0 : m.ns 0 = 3 := by have := congrArg (fun l => l[0]?) hn; simpa [MsgD.nums, amsg] using this
      have h1 : m.ns 1 = 100 := by have := congrArg (fun l => l[1]?) hn; simpa [MsgD.nums, amsg] using this
      refine ⟨vs.toArray, ⟨by simpa using q1, q2⟩, rfl, fun W g hw he => ?_⟩
      have c0 : vs.toArray[0]? = some (.int .i64 (m.ns 0)) := by unfold MsgD.val_ at hmv; injection hmv with hmv; rw [← hmv]; rfl
      have c1 : vs.toArray[1]? = some (.int .i64 (m.ns 1)) := by unfold MsgD.val_ at hmv; injection hmv with hmv; rw [← hmv]; rfl
      rw [← he] at c0 c1
      rw [h0] at c0
      rw [h1] at c1
      exact ⟨whole_at W g 31 0 _ (by omega) hw c0, whole_at W g 31 1 _ (by omega) hw c1⟩
    · exact absurd ⟨amsg, amsg_right, rfl⟩ h
theorem amsg_more (GE : GetOk) (w : World) (v : Value) (hv : Seen w w.heap.size v (amsg.bytes ++ [0])) : Calls Try.prog 6 #[v] w fun e w' => e = .returned (.tuple #[.agg #[.int .i64 0, .int .i64 0, .int .i64 0, .int .i64 0, .int .i64 0, .int .i64 0, .int .i64 0, .int .i64 0, .int .i64 0, .int .i64 0, .int .i64 0, .int .i64 0, .bool false, .bool false, .string ⟨#[]⟩, .string ⟨#[]⟩, .complex .f64 0 0, .complex .f64 0 0, .int .i64 0, .string ⟨#[]⟩, .string ⟨#[]⟩, .string ⟨#[]⟩, .bool false, .slice none 0 0, .slice none 0 0, .slice none 0 0, .complex .f64 0 0, .complex .f64 0 0, .int .i64 0, .slice none 0 0, .slice none 0 0], .bool false]) ∧ Below w.heap.size w w' :=
  (GE w v _ hv (by rw [amsg_bytes]; decide)).mono fun e w' ⟨hb, h⟩ => by
    rcases h with ⟨m, vs, ev, cv, vv, lv, sv, hm, hmb, _⟩ | ⟨_, h⟩
    · obtain ⟨_, h⟩ := msg_apart m amsg [] [0] hm amsg_right (by rw [hmb, List.append_nil])
      cases h
    · exact ⟨h, hb⟩

end Go.Proofs.Ytfikailgjmgnbaa
