/-
  net.Send.
-/
import Derived.Test.YthpbnjmhhkkkiaaSd
namespace Go.Proofs.Ythpbnjmhhkkkiaa
open Go.RowKit
attribute [local go_sem ↓] Go.wp_at_zero Go.wp_at_succ

/-- structs behind a slice that has no room: a new row, and nothing that was there has turned -/
theorem run_appendC {P : Program} {w : World} {n k m : Nat} {A : Option Addr} {x : Value} {cs ys : List Value} (t tx ty e : TypeId) (i : TypeInfo) (z : Value) (q : Nat) (ht : P.underlying t = some (.slice e)) (hi : P.info? e = some i) (hz : i.zero = some z) (h1 : i.size = n) (hzs : z.cells.size = n) (hy : i.bytes = q)
    (ho : Src P n t (.slice A k k) k cs w) (hs : Src P n tx x m ys w) (hm : m ≠ 0) (hl : k + m ≤ 1000000) (hq : (k + m) * q ≤ 140737488355328) :
    ∃ v' w', (Builtin.append_ #[t, tx] ty #[.slice A k k, x]).run P w = .ok v' w' ∧ RoomN w' w.heap.size v' n (k + m) (cs ++ ys) ∧ Below w.heap.size w w' := by
  have hs' : Src P i.size tx x m ys w := by rw [h1]; exact hs
  have hold : (Builtin.firstCells i.size k (.slice A k k)).run P w.drew = .ok cs.toArray w.drew := by rw [h1]; exact ho.cellsD
  have hlt : k < k + m := by omega
  have hmul : (k + m) * n = k * n + m * n := Nat.add_mul k m n
  have hlen : (cs ++ ys).length = (k + m) * n := by rw [List.length_append, ho.newsLen, hs.newsLen, hmul]
  have hrun := run_append_grow_src (P := P) w t tx ty e i z ht hi hz A k k cs hold x m ys hs' hlt (by omega) (by rw [hy]; exact growslice_fits hlt hq)
  have hge := grownCap_ge w (k + m) k e
  have hcm := grownCap_le_maxLen w (k + m) k e (by unfold maxLen; omega)
  generalize grownCap w (k + m) k e = C at hrun hge hcm
  obtain ⟨r, rfl⟩ : ∃ r, C = k + m + r := ⟨C - (k + m), by omega⟩
  have hZ : ((cs ++ ys).toArray ++ Builtin.zeroCells z.cells (k + m + r - (k + m))).size = (k + m + r) * n := by
    rw [Array.size_append, List.size_toArray, hlen, size_zeroCells, hzs, Nat.add_sub_cancel_left, ← Nat.add_mul]
  generalize hcs : ((cs ++ ys).toArray ++ Builtin.zeroCells z.cells (k + m + r - (k + m))) = rs at hrun hZ
  refine ⟨_, _, hrun, ⟨hlen, .inr ⟨w.heap.size, 0, k + m + r, rfl, hge, hcm, Nat.le_refl _, by show w.heap.size < (w.drew.alloc _).heap.size; simp, fun j hj => ?_, fun j _ => World.frozen?_alloc_new w.drew .., fun j _ hj => ?_⟩⟩, (Below.refl w.heap.size w).drew.alloc (Nat.le_refl _) _⟩
  · show (w.drew.alloc _).cell? ⟨w.drew.heap.size, 0 + j, none⟩ = _
    rw [World.cell?_alloc_new, Nat.zero_add, ← hcs, Array.getElem?_append_left (by rw [List.size_toArray]; exact hj), List.getElem?_toArray]
    exact List.getElem?_eq_getElem hj
  · show ((w.drew.alloc _).cell? ⟨w.drew.heap.size, 0 + j, none⟩).isSome = true ∧ (w.drew.alloc _).frozen? ⟨w.drew.heap.size, 0 + j, none⟩ = false
    rw [World.cell?_alloc_new, World.frozen?_alloc_new, Nat.zero_add, Array.getElem?_eq_getElem (by omega)]
    exact ⟨rfl, rfl⟩
theorem step_appendC {P : Program} {w : World} {n k m : Nat} {A : Option Addr} {xv : Value} {cs ys : List Value} {ops : Array Oper} {o : Oper} {a : Act} {K : Act → World → Prop} {Q : Exit → Act → World → Prop} {E : Prop} (hgd : o.guard = none) (s x : Operand) (t tx : TypeId)
    (ho : o.op = .call { callee := .builtin .append, args := #[s, x], argTypes := #[t, tx] })
    (e : TypeId) (i : TypeInfo) (z : Value) (q : Nat) (ht : P.underlying t = some (.slice e)) (hi : P.info? e = some i) (hz : i.zero = some z) (h1 : i.size = n) (hzs : z.cells.size = n) (hy : i.bytes = q)
    (hso : Src P n t (.slice A k k) k cs w) (hs : Src P n tx xv m ys w) (hm : m ≠ 0) (hl : k + m ≤ 1000000) (hq : (k + m) * q ≤ 140737488355328) (hv : a.eval s = .slice A k k) (hx : a.eval x = xv)
    (h : ∀ v' w', RoomN w' w.heap.size v' n (k + m) (cs ++ ys) → Below w.heap.size w w' → K (a.put o.dst v') w') : if Region.wanted o (yielded ops a.tmps) = true then Oper.wp P o a w K Q else E := by
  have hw : Region.wanted o (yielded ops a.tmps) = true := by simp [Region.wanted, hgd]
  rw [if_pos hw]
  obtain ⟨v', w', hrun, h2, h3⟩ := run_appendC (P := P) t tx o.type e i z q ht hi hz h1 hzs hy hso hs hm hl hq
  unfold Oper.wp execOp
  simp only [ho, resolve, invoke, builtin, Sem.run_bind, Sem.run_pure, Result.andThen_ok, List.map_toArray, List.map_cons, List.map_nil, hv, hx, hrun]
  exact h v' w' h2 h3
/-- the list cut to its length, where nothing that was there has turned -/
theorem PktsAt.clip {w : World} {B : Nat} {A : Option Addr} {c n : Nat} {l : List Pkt} (h : PktsAt w B (.slice A n c) l) : PktsAt w B (.slice A n n) l := by
  obtain ⟨A', c', css, e, h1, h2, h3, h4⟩ := h
  injection e with e1 e2 e3
  subst e1 e2 e3
  exact ⟨A, _, css, rfl, Nat.le_refl _, by omega, h3, h4⟩
/-- the list with one more, as append leaves it -/
theorem sent_at {w : World} {B : Nat} {v vb : Value} {l : List Pkt} {css : List (List Value)} {nx to_ : Int} {b : List UInt8} (hr : RoomN w B v 3 (l.length + 1) (css.flatten ++ [.int .i64 nx, .int .i64 to_, vb])) (hc : Cells w w.heap.size l css) (hs : Seen w w.heap.size vb b) : PktsAt w w.heap.size v (l ++ [⟨nx, to_, b⟩]) := by
  have := hc.snoc (a := ⟨nx, to_, b⟩) hs
  refine RoomN.pkts (B := B) (css := css ++ [[.int .i64 nx, .int .i64 to_, vb]]) ?_ this
  rw [List.length_append, List.length_singleton, List.flatten_append]
  have e : ([[.int .i64 nx, .int .i64 to_, vb]] : List (List Value)).flatten = [.int .i64 nx, .int .i64 to_, vb] := by simp
  rw [e]
  exact hr
theorem fit_send {n : Nett} {to_ : Int} {b : List UInt8} (hf : Fit n.l) (h : n.l.length ≤ 61) (hb : b.length ≤ 500) : Fit (n.send to_ b).l := by
  refine ⟨by show (n.l ++ [_]).length ≤ 62; rw [List.length_append]; simp; omega, fun p hp => ?_⟩
  rcases List.mem_append.1 (show p ∈ n.l ++ [⟨n.next, to_, b⟩] from hp) with h' | h'
  · exact hf.2 p h'
  · rw [List.mem_singleton] at h'; rw [h']; exact hb

theorem bel_alloc {B : Nat} {w W : World} (h : Below B w W) (hB : B ≤ w.heap.size) (o : Obj) : Below B w (W.alloc o) := h.alloc (Nat.le_trans hB h.size) o

set_option maxRecDepth 100000 in
set_option maxHeartbeats 4000000 in
theorem send_own (w : World) (v vb : Value) (n : Nett) (to_ : Int) (b : List UInt8) (h : NetAt w w.heap.size v n) (hs : Seen w w.heap.size vb b) (hf : Fit n.l) (hl : n.l.length ≤ 61) (hb : b.length ≤ 500) (h0 : 0 ≤ n.next) (h1 : n.next ≤ 4611686018427387905) :
    Calls Try.prog 13 #[v, .int .i64 to_, vb] w (Aparted (n.send to_ b) w) := by
  have hfs := fit_send (to_ := to_) hf hl hb
  obtain ⟨lv, rfl, hp⟩ := h
  obtain ⟨Ab, cb, rfl, hat⟩ := hs
  have HS : Hid (Seen w w.heap.size (.slice Ab b.length cb) b) := ⟨Ab, cb, rfl, hat⟩
  have HP := Lib.hid hp
  obtain ⟨nx, l⟩ := n
  obtain ⟨A, c, css0, rfl, hlc, hcm, _⟩ := hp
  obtain ⟨css, _, _, _, hcs, hsrc⟩ := HP.out.clip.src Try.underlying22
  replace hlc : l.length ≤ c := hlc
  replace h0 : 0 ≤ nx := h0
  replace h1 : nx ≤ 4611686018427387905 := h1
  replace hl : l.length ≤ 61 := hl
  have HF := Lib.hid hfs
  have HC := Lib.hid hcs
  have HSR := Lib.hid hsrc
  obtain ⟨tp, hi, hz0, hz1, hz2⟩ := info_part3 pkt_info
  have hbA : Below w.heap.size w (((w.alloc (.cells #[.int .i64 nx, .slice A l.length c] 24)).alloc (.cells #[.int .i64 0, .slice none 0 0] 24)).alloc (.cells #[.int .i64 nx, .int .i64 to_, .slice Ab b.length cb] 29)) := bt (bt (bal _ _) (bal _ _)) (bal _ _)
  have x0 := ((boxF_made w [.int .i64 nx, .slice A l.length c] 24).on (bal _ (.cells #[.int .i64 0, .slice none 0 0] 24))).on (bal _ (.cells #[.int .i64 nx, .int .i64 to_, .slice Ab b.length cb] 29))
  have x1 := (boxF_made (w.alloc (.cells #[.int .i64 nx, .slice A l.length c] 24)) [.int .i64 0, .slice none 0 0] 24).on (bal _ (.cells #[.int .i64 nx, .int .i64 to_, .slice Ab b.length cb] 29))
  have x2 := boxF_made ((w.alloc (.cells #[.int .i64 nx, .slice A l.length c] 24)).alloc (.cells #[.int .i64 0, .slice none 0 0] 24)) [.int .i64 nx, .int .i64 to_, .slice Ab b.length cb] 29
  have hzA : (((w.alloc (.cells #[.int .i64 nx, .slice A l.length c] 24)).alloc (.cells #[.int .i64 0, .slice none 0 0] 24)).alloc (.cells #[.int .i64 nx, .int .i64 to_, .slice Ab b.length cb] 29)).heap.size = w.heap.size + 1 + 1 + 1 := by simp
  simp only [World.size_alloc] at x1 x2
  obtain ⟨WA, hWA⟩ : ∃ WA, WA = (((w.alloc (.cells #[.int .i64 nx, .slice A l.length c] 24)).alloc (.cells #[.int .i64 0, .slice none 0 0] 24)).alloc (.cells #[.int .i64 nx, .int .i64 to_, .slice Ab b.length cb] 29)) := ⟨_, rfl⟩
  have HWA := Lib.hid hWA
  rw [← hWA] at hbA x0 x1 x2 hzA
  have hwr : IntKind.i64.wrap (nx + 1) = nx + 1 := by rw [IntKind.wrap_i64]; omega
  clear hWA hfs hcm hcs hsrc hat
  go_enter Try.func13, Try.ntmps13
  go_wp2
  rw [← HWA.out]
  have HX0 := Lib.hid x0
  have HX1 := Lib.hid x1
  have HX2 := Lib.hid x2
  have HBA := Lib.hid hbA
  have HZA := Lib.hid hzA
  have HSS : Hid (∀ W, Below WA.heap.size WA W → (fun W => W.cell? ⟨w.heap.size, 0, none⟩ = some (.int .i64 nx) ∧ W.cell? ⟨w.heap.size, 1, none⟩ = some (.slice A l.length c) ∧ W.cell? ⟨w.heap.size + 1 + 1, 0, none⟩ = some (.int .i64 nx) ∧ W.cell? ⟨w.heap.size + 1 + 1, 1, none⟩ = some (.int .i64 to_) ∧ W.cell? ⟨w.heap.size + 1 + 1, 2, none⟩ = some (.slice Ab b.length cb)) W) := fun W hW =>
    ⟨(HX0.out.on hW).get 0 rfl, (HX0.out.on hW).get 1 rfl, (HX2.out.on hW).get 0 rfl, (HX2.out.on hW).get 1 rfl, (HX2.out.on hW).get 2 rfl⟩
  have HSK : Hid (∀ W a b', Below WA.heap.size WA W → (fun W => W.cell? ⟨w.heap.size, 0, none⟩ = some (.int .i64 nx) ∧ W.cell? ⟨w.heap.size, 1, none⟩ = some (.slice A l.length c) ∧ W.cell? ⟨w.heap.size + 1 + 1, 0, none⟩ = some (.int .i64 nx) ∧ W.cell? ⟨w.heap.size + 1 + 1, 1, none⟩ = some (.int .i64 to_) ∧ W.cell? ⟨w.heap.size + 1 + 1, 2, none⟩ = some (.slice Ab b.length cb)) ((W.setCell ⟨w.heap.size + 1, 0, none⟩ a).setCell ⟨w.heap.size + 1, 1, none⟩ b')) := fun W a b' hW =>
    ⟨((HX0.out.on hW).put2o (by omega) a b').get 0 rfl, ((HX0.out.on hW).put2o (by omega) a b').get 1 rfl, ((HX2.out.on hW).put2o (by omega) a b').get 0 rfl, ((HX2.out.on hW).put2o (by omega) a b').get 1 rfl, ((HX2.out.on hW).put2o (by omega) a b').get 2 rfl⟩
  have ones : ∀ u ∈ [Value.int .i64 nx, .int .i64 to_, .slice Ab b.length cb], u.oneCell' = true := cell_one ⟨nx, to_, b⟩ _ HS.out
  have HON := Lib.hid ones
  have q1 : l.length + 1 ≤ 1000000 := by omega
  have q2 : (l.length + 1) * 40 ≤ 140737488355328 := by omega
  have HLC := Lib.hid hlc
  clear x0 x1 x2 hbA hzA ones hlc
  first | (go_region_held3 (fun W => W.cell? ⟨w.heap.size, 0, none⟩ = some (.int .i64 nx) ∧ W.cell? ⟨w.heap.size, 1, none⟩ = some (.slice A l.length c) ∧ W.cell? ⟨w.heap.size + 1 + 1, 0, none⟩ = some (.int .i64 nx) ∧ W.cell? ⟨w.heap.size + 1 + 1, 1, none⟩ = some (.int .i64 to_) ∧ W.cell? ⟨w.heap.size + 1 + 1, 2, none⟩ = some (.slice Ab b.length cb))
    (with_reducible first | exact HSS.out _ hbm | exact HSK.out _ _ _ hbm | exact HSS.out _ (below_drewN _ _ _) | exact HSS.out _ (Below.refl _ _).drew | exact HSS.out _ (Below.refl _ _) | exact HSS.out _ (bel_alloc hbm (Nat.le_refl _) _) | exact HSS.out _ (bel_alloc (below_drewN _ _ _) (Nat.le_refl _) _) | exact HSS.out _ (bel_alloc (Below.refl _ _).drew (Nat.le_refl _) _))
    (first
    | (go_at_call 25; (with_reducible refine (clip_any _ A l.length c HLC.out).mono ?_); rintro e w2 ⟨rfl, hb2⟩; have hbm : Below WA.heap.size WA w2 := (by first | exact (below_drewN WA.heap.size WA _).trans hb2 | exact ((Below.refl WA.heap.size WA).drew).trans hb2 | exact (bel_alloc (below_drewN WA.heap.size WA _) (Nat.le_refl _) _).trans (hb2.mono (bel_alloc (below_drewN WA.heap.size WA _) (Nat.le_refl _) _).size) | exact (bel_alloc (Below.refl WA.heap.size WA).drew (Nat.le_refl _) _).trans (hb2.mono (bel_alloc (Below.refl WA.heap.size WA).drew (Nat.le_refl _) _).size)); first | have HBX := Lib.hid (((box_made WA [.int .i64 nx, .int .i64 to_, .slice Ab b.length cb] 29).on (Below.refl _ _).drew).on hb2) | skip)
    | ((refine step_appendC (n := 3) (k := l.length) (m := 1) (A := A) (cs := css.flatten) (ys := [.int .i64 nx, .int .i64 to_, .slice Ab b.length cb]) (by rfl) (.tmp 18) (.tmp 20) 22 22 (by rfl) 29 tp _ 40 Try.underlying22 hi hz0 hz1 rfl hz2 (HSR.out _ (by first | exact HBA.out.trans (hbm.mono HBA.out.size) | exact HBA.out.trans ((bel_alloc hbm (Nat.le_refl _) _).mono HBA.out.size))) (by first | exact srcN_at rfl HON.out HBX.out Try.underlying22 | exact srcN_at rfl HON.out (box_made _ [.int .i64 nx, .int .i64 to_, .slice Ab b.length cb] 29) Try.underlying22) Nat.one_ne_zero q1 q2 (by rfl) (by rfl) ?_); intro v5 w5 hr5 hb5; have hbn : Below WA.heap.size WA w5 := (by first | exact hbm.trans (hb5.mono hbm.size) | exact (bel_alloc hbm (Nat.le_refl _) _).trans (hb5.mono (bel_alloc hbm (Nat.le_refl _) _).size)); clear hbm; have hbm := hbn; have hbw := HBA.out.trans (hbm.mono HBA.out.size); have HPA := Lib.hid (sent_at hr5 (HC.out.on hbw) (HS.out.on hbw)); obtain ⟨A5, c5, hv5, _⟩ := hr5.slice; subst hv5; have HNA : Hid (NetAt w5 w5.heap.size (.agg #[.int .i64 (nx + 1), .slice A5 (l.length + 1) c5]) (Nett.send ⟨nx, l⟩ to_ b)) := ⟨_, rfl, HPA.out⟩; clear hr5 hb5 hbn hbw)
    | (go_at_call 21; (with_reducible refine (apart_any _ _ _ HNA.out HF.out).mono ?_); rintro e w6 ⟨lv6, rfl, ho6, hb6⟩; have hbm5 := hbm; have hbn := hbm.trans (hb6.mono hbm.size); clear hbm; have hbm := hbn; obtain ⟨A6, c6, hv6, hl6, hm6, _⟩ := id ho6; subst hv6; have X1 := HX1.out.on hbm; have f10 := X1.free 0 (by simp); have f11 := X1.free 1 (by simp); have g10 := X1.get 0 rfl; have g11 := X1.get 1 rfl; have HO := Lib.hid (OwnL.mono (B' := WA.heap.size) ho6 hbm5.size); have K1 := Lib.hid X1; have KW := Lib.hid hbm; have HB5 := Lib.hid hb6; clear ho6 X1 hb6 hbn hl6 hm6))) | fail
  all_goals go_wp2
  all_goals (have F1 := put2_box K1.out (.int .i64 (Nett.send ⟨nx, l⟩ to_ b).next) (.slice A6 (Nett.send ⟨nx, l⟩ to_ b).l.length c6))
  all_goals (refine bodyPost_ret (results_cell1 (p := 6) rfl rfl (load_net rfl F1.box)) rfl ?_)
  all_goals exact ⟨_, rfl, (HO.out.put2 (by have := HZA.out; omega) _ _).mono (by have := HZA.out; omega), (HBA.out.trans (KW.out.mono HBA.out.size)).trans (put2_below _ (by omega) _ _)⟩

end Go.Proofs.Ythpbnjmhhkkkiaa
