/-
  A message, as things one behind the other (made by msg-get-gen.py).
  What a function that reads comes to, of a field of kind E (made by msg-read-gen.py).
  What msg.getList comes to, of a list of kind E (made by msg-list-gen.py).
-/
import Derived.Test.YtfikailgjmgnbaaZp15
import Derived.Test.YtfikailgjmgnbaaZp19
import Derived.Test.YtfikailgjmgnbaaZp11
import Derived.Deep.RegionWith
import Derived.Test.YtfikailgjmgnbaaZp16
import Derived.Test.YtfikailgjmgnbaaZp14

namespace Go.Proofs.Ytfikailgjmgnbaa
open Go.RowKit Flo

def msgK : List TK := [.one .I, .one .I, .one .I, .one .I, .one .I, .one .I, .one .I, .one .I, .one .I, .one .I, .one .I, .one .I, .one .B, .one .B, .one .T, .one .T, .one .V, .one .V, .row KO, .list KE, .list KM, .views, .img]
def thsOf (m : MsgD) : List Th := [.fld (.int (m.ns 0)), .fld (.int (m.ns 1)), .fld (.int (m.ns 2)), .fld (.int (m.ns 3)), .fld (.int (m.ns 4)), .fld (.int (m.ns 5)), .fld (.int (m.ns 6)), .fld (.int (m.ns 7)), .fld (.int (m.ns 8)), .fld (.int (m.ns 9)), .fld (.int (m.ns 10)), .fld (.int (m.ns 11)), .fld (.truth m.has), .fld (.truth m.fresh), .fld (.text m.key), .fld (.text m.val), .fld (.ver m.vr.1 m.vr.2), .fld (.ver m.fl.1 m.fl.2), .row m.op, .list m.ents, .list m.chain, .views m.vws, .img m.img]
theorem ths_bytes (m : MsgD) : bytesT (thsOf m) = m.bytes := by
  simp only [thsOf, bytesT, Th.bytes, MsgD.bytes, MsgD.nums, List.map_cons, List.map_nil, bytesOf, List.append_assoc, List.append_nil]
  rfl
theorem ths_are (m : MsgD) (h : m.right) : Are msgK (thsOf m) := by
  obtain ⟨m1, m2, m3, m4, m5, m6, m7, m8, m9, m10, m11, m12, m13, _⟩ := h
  exact ⟨⟨rfl, m1 _ (by simp [MsgD.nums])⟩, ⟨rfl, m1 _ (by simp [MsgD.nums])⟩, ⟨rfl, m1 _ (by simp [MsgD.nums])⟩, ⟨rfl, m1 _ (by simp [MsgD.nums])⟩, ⟨rfl, m1 _ (by simp [MsgD.nums])⟩, ⟨rfl, m1 _ (by simp [MsgD.nums])⟩, ⟨rfl, m1 _ (by simp [MsgD.nums])⟩, ⟨rfl, m1 _ (by simp [MsgD.nums])⟩, ⟨rfl, m1 _ (by simp [MsgD.nums])⟩, ⟨rfl, m1 _ (by simp [MsgD.nums])⟩, ⟨rfl, m1 _ (by simp [MsgD.nums])⟩, ⟨rfl, m1 _ (by simp [MsgD.nums])⟩, ⟨rfl, trivial⟩, ⟨rfl, trivial⟩, ⟨rfl, m2⟩, ⟨rfl, m3⟩, ⟨rfl, m4⟩, ⟨rfl, m5⟩, ⟨rfl, m6⟩, ⟨m7, m10⟩, ⟨m8, m11⟩, ⟨m9, m12⟩, m13, trivial⟩
theorem knd_I {f : Fld} (h : f.knd = .I) : ∃ n, f = .int n := by cases f <;> first | exact ⟨_, rfl⟩ | cases h
theorem knd_T {f : Fld} (h : f.knd = .T) : ∃ n, f = .text n := by cases f <;> first | exact ⟨_, rfl⟩ | cases h
theorem knd_B {f : Fld} (h : f.knd = .B) : ∃ n, f = .truth n := by cases f <;> first | exact ⟨_, rfl⟩ | cases h
theorem knd_V {f : Fld} (h : f.knd = .V) : ∃ a b, f = .ver a b := by cases f <;> first | exact ⟨_, _, rfl⟩ | cases h
theorem are_cons {K : TK} {ks : List TK} : ∀ {ts : List Th}, Are (K :: ks) ts → ∃ t r, ts = t :: r ∧ K.is t ∧ Are ks r
  | [], h => h.elim
  | t :: r, h => ⟨t, r, rfl, h.1, h.2⟩
theorem is_I {t : Th} (h : (TK.one .I).is t) : ∃ n, t = .fld (.int n) ∧ (Fld.int n).right := by
  cases t with
  | fld f => obtain ⟨h1, h2⟩ := h; obtain ⟨n, rfl⟩ := knd_I h1; exact ⟨n, rfl, h2⟩
  | _ => exact h.elim
theorem is_B {t : Th} (h : (TK.one .B).is t) : ∃ n, t = .fld (.truth n) := by
  cases t with
  | fld f => obtain ⟨h1, h2⟩ := h; obtain ⟨n, rfl⟩ := knd_B h1; exact ⟨n, rfl⟩
  | _ => exact h.elim
theorem is_T {t : Th} (h : (TK.one .T).is t) : ∃ n, t = .fld (.text n) ∧ (Fld.text n).right := by
  cases t with
  | fld f => obtain ⟨h1, h2⟩ := h; obtain ⟨n, rfl⟩ := knd_T h1; exact ⟨n, rfl, h2⟩
  | _ => exact h.elim
theorem is_V {t : Th} (h : (TK.one .V).is t) : ∃ a b, t = .fld (.ver a b) ∧ (Fld.ver a b).right := by
  cases t with
  | fld f => obtain ⟨h1, h2⟩ := h; obtain ⟨a, b, rfl⟩ := knd_V h1; exact ⟨a, b, rfl, h2⟩
  | _ => exact h.elim
theorem is_row {ks : List Knd} {t : Th} (h : (TK.row ks).is t) : ∃ fs, t = .row fs ∧ kinds fs = ks ∧ ∀ f ∈ fs, f.right := by
  cases t with
  | row fs => exact ⟨fs, rfl, h⟩
  | _ => exact h.elim
theorem is_list {ks : List Knd} {t : Th} (h : (TK.list ks).is t) : ∃ xs, t = .list xs ∧ xs.length ≤ 4096 ∧ ∀ y ∈ xs, kinds y = ks ∧ ∀ f ∈ y, f.right := by
  cases t with
  | list fs => exact ⟨fs, rfl, h⟩
  | _ => exact h.elim
theorem is_views {t : Th} (h : TK.views.is t) : ∃ xs, t = .views xs ∧ xs.length ≤ 4096 ∧ ∀ y ∈ xs, ViewRight y := by
  cases t with
  | views fs => exact ⟨fs, rfl, h⟩
  | _ => exact h.elim
theorem is_img {t : Th} (h : TK.img.is t) : ∃ x, t = .img x ∧ x.right := by
  cases t with
  | img x => exact ⟨x, rfl, h⟩
  | _ => exact h.elim
set_option maxHeartbeats 1000000 in
theorem are_ths (ts : List Th) (h : Are msgK ts) (hlen : (bytesT ts).length ≤ 100000000000) : ∃ m : MsgD, ts = thsOf m ∧ m.right := by
    have g0 := h
    unfold msgK at g0
    clear h
    obtain ⟨t0, ts0, rfl, k0, g1⟩ := are_cons g0
    obtain ⟨n0, rfl, r0⟩ := is_I k0
    obtain ⟨t1, ts1, rfl, k1, g2⟩ := are_cons g1
    obtain ⟨n1, rfl, r1⟩ := is_I k1
    obtain ⟨t2, ts2, rfl, k2, g3⟩ := are_cons g2
    obtain ⟨n2, rfl, r2⟩ := is_I k2
    obtain ⟨t3, ts3, rfl, k3, g4⟩ := are_cons g3
    obtain ⟨n3, rfl, r3⟩ := is_I k3
    obtain ⟨t4, ts4, rfl, k4, g5⟩ := are_cons g4
    obtain ⟨n4, rfl, r4⟩ := is_I k4
    obtain ⟨t5, ts5, rfl, k5, g6⟩ := are_cons g5
    obtain ⟨n5, rfl, r5⟩ := is_I k5
    obtain ⟨t6, ts6, rfl, k6, g7⟩ := are_cons g6
    obtain ⟨n6, rfl, r6⟩ := is_I k6
    obtain ⟨t7, ts7, rfl, k7, g8⟩ := are_cons g7
    obtain ⟨n7, rfl, r7⟩ := is_I k7
    obtain ⟨t8, ts8, rfl, k8, g9⟩ := are_cons g8
    obtain ⟨n8, rfl, r8⟩ := is_I k8
    obtain ⟨t9, ts9, rfl, k9, g10⟩ := are_cons g9
    obtain ⟨n9, rfl, r9⟩ := is_I k9
    obtain ⟨t10, ts10, rfl, k10, g11⟩ := are_cons g10
    obtain ⟨n10, rfl, r10⟩ := is_I k10
    obtain ⟨t11, ts11, rfl, k11, g12⟩ := are_cons g11
    obtain ⟨n11, rfl, r11⟩ := is_I k11
    obtain ⟨t12, ts12, rfl, k12, g13⟩ := are_cons g12
    obtain ⟨b1, rfl⟩ := is_B k12
    obtain ⟨t13, ts13, rfl, k13, g14⟩ := are_cons g13
    obtain ⟨b2, rfl⟩ := is_B k13
    obtain ⟨t14, ts14, rfl, k14, g15⟩ := are_cons g14
    obtain ⟨s1, rfl, r14⟩ := is_T k14
    obtain ⟨t15, ts15, rfl, k15, g16⟩ := are_cons g15
    obtain ⟨s2, rfl, r15⟩ := is_T k15
    obtain ⟨t16, ts16, rfl, k16, g17⟩ := are_cons g16
    obtain ⟨p1, p2, rfl, r16⟩ := is_V k16
    obtain ⟨t17, ts17, rfl, k17, g18⟩ := are_cons g17
    obtain ⟨p3, p4, rfl, r17⟩ := is_V k17
    obtain ⟨t18, ts18, rfl, k18, g19⟩ := are_cons g18
    obtain ⟨fo, rfl, ko, ro⟩ := is_row k18
    obtain ⟨t19, ts19, rfl, k19, g20⟩ := are_cons g19
    obtain ⟨es, rfl, l1, l2⟩ := is_list k19
    obtain ⟨t20, ts20, rfl, k20, g21⟩ := are_cons g20
    obtain ⟨cs, rfl, c1, c2⟩ := is_list k20
    obtain ⟨t21, ts21, rfl, k21, g22⟩ := are_cons g21
    obtain ⟨vs, rfl, v1, v2⟩ := is_views k21
    obtain ⟨t22, ts22, rfl, k22, g23⟩ := are_cons g22
    obtain ⟨x, rfl, hx⟩ := is_img k22
    obtain rfl : ts22 = [] := by cases ts22 with | nil => rfl | cons _ _ => exact g23.elim
    obtain ⟨kd, key, val, old, has, rfl⟩ := kinds_op ko
    obtain ⟨m, hm⟩ : ∃ m : MsgD, m = ⟨fun i => [n0, n1, n2, n3, n4, n5, n6, n7, n8, n9, n10, n11].getD i.val 0, b1, b2, s1, s2, (p1, p2), (p3, p4), kd, key, val, old, has, es, cs, vs, x⟩ := ⟨_, rfl⟩
    have e : [Th.fld (.int n0), .fld (.int n1), .fld (.int n2), .fld (.int n3), .fld (.int n4), .fld (.int n5), .fld (.int n6), .fld (.int n7), .fld (.int n8), .fld (.int n9), .fld (.int n10), .fld (.int n11), .fld (.truth b1), .fld (.truth b2), .fld (.text s1), .fld (.text s2), .fld (.ver p1 p2), .fld (.ver p3 p4), .row [.int kd, .text key, .text val, .text old, .truth has], .list es, .list cs, .views vs, .img x] = thsOf m := by rw [hm]; rfl
    refine ⟨m, e, ?_⟩
    rw [e, ths_bytes] at hlen
    have hn : m.nums = [n0, n1, n2, n3, n4, n5, n6, n7, n8, n9, n10, n11] := by rw [hm]; rfl
    refine ⟨fun n hn' => ?_, by rw [hm]; exact r14, by rw [hm]; exact r15, by rw [hm]; exact r16, by rw [hm]; exact r17, by rw [hm]; exact ro, by rw [hm]; exact l1, by rw [hm]; exact c1, by rw [hm]; exact v1, by rw [hm]; exact l2, by rw [hm]; exact c2, by rw [hm]; exact v2, by rw [hm]; exact hx, hlen⟩
    rw [hn] at hn'
    simp only [List.mem_cons, List.not_mem_nil, or_false] at hn'
    rcases hn' with rfl | rfl | rfl | rfl | rfl | rfl | rfl | rfl | rfl | rfl | rfl | rfl
    · exact r0
    · exact r1
    · exact r2
    · exact r3
    · exact r4
    · exact r5
    · exact r6
    · exact r7
    · exact r8
    · exact r9
    · exact r10
    · exact r11
theorem lies_ths {X : Nat → Prop} {w : World} {m : MsgD} {vs : List Value} (h : liesT X w msgK (thsOf m) vs) : ∃ ev cv vv lv sv, m.lies w ev cv vv lv sv ∧ m.val_ ev cv vv lv sv = .agg vs.toArray := by
  obtain ⟨a0, q0, rfl, rfl, h⟩ := h
  obtain ⟨a1, q1, rfl, rfl, h⟩ := h
  obtain ⟨a2, q2, rfl, rfl, h⟩ := h
  obtain ⟨a3, q3, rfl, rfl, h⟩ := h
  obtain ⟨a4, q4, rfl, rfl, h⟩ := h
  obtain ⟨a5, q5, rfl, rfl, h⟩ := h
  obtain ⟨a6, q6, rfl, rfl, h⟩ := h
  obtain ⟨a7, q7, rfl, rfl, h⟩ := h
  obtain ⟨a8, q8, rfl, rfl, h⟩ := h
  obtain ⟨a9, q9, rfl, rfl, h⟩ := h
  obtain ⟨a10, q10, rfl, rfl, h⟩ := h
  obtain ⟨a11, q11, rfl, rfl, h⟩ := h
  obtain ⟨a12, q12, rfl, rfl, h⟩ := h
  obtain ⟨a13, q13, rfl, rfl, h⟩ := h
  obtain ⟨a14, q14, rfl, rfl, h⟩ := h
  obtain ⟨a15, q15, rfl, rfl, h⟩ := h
  obtain ⟨a16, q16, rfl, rfl, h⟩ := h
  obtain ⟨a17, q17, rfl, rfl, h⟩ := h
  obtain ⟨a18, q18, rfl, rfl, h⟩ := h
  obtain ⟨a19, q19, rfl, ⟨ev, rfl, hev⟩, h⟩ := h
  obtain ⟨a20, q20, rfl, ⟨cv, rfl, hcv⟩, h⟩ := h
  obtain ⟨a21, q21, rfl, ⟨vv, rfl, hvv⟩, h⟩ := h
  obtain ⟨a22, q22, rfl, ⟨lv, sv, rfl, hlv, hsv⟩, h⟩ := h
  obtain rfl : q22 = [] := h
  exact ⟨ev, cv, vv, lv, sv, ⟨hev.all, hcv.all, hvv.all, hlv.all, hsv.all⟩, rfl⟩
theorem msg_yes {l : List UInt8} {lo : Nat} {vs : List Value} {q : Int} {w : World} (h : OutS msgK l 0 lo vs q true w) (hq : q = (l.length : Int)) (hl : l.length ≤ 6000) : ∃ (m : MsgD) (ev cv vv lv sv : Value), m.right ∧ m.bytes = l ∧ m.lies w ev cv vv lv sv ∧ m.val_ ev cv vv lv sv = .agg vs.toArray := by
  rcases h with ⟨ts, r, a1, a2, a3, a4, _⟩ | ⟨_, h⟩
  · rw [List.drop_zero] at a2
    have hlen := congrArg List.length a2
    rw [List.length_append] at hlen
    obtain ⟨m, rfl, hm⟩ := are_ths ts a1 (by omega)
    obtain ⟨ev, cv, vv, lv, sv, h1, h2⟩ := lies_ths a3
    have hr : r = [] := List.eq_nil_of_length_eq_zero (by omega)
    exact ⟨m, ev, cv, vv, lv, sv, hm, by rw [a2, hr, List.append_nil, ths_bytes], h1, h2⟩
  · cases h
theorem msg_no {l : List UInt8} {lo : Nat} {vs : List Value} {q : Int} {ok : Bool} {w : World} (h : OutS msgK l 0 lo vs q ok w) (hq : ok = false ∨ q ≠ (l.length : Int)) : ¬ ∃ m : MsgD, m.right ∧ m.bytes = l := by
  rintro ⟨m, hm, rfl⟩
  have ha := ths_are m hm
  rcases h with ⟨ts, r, a1, a2, a3, a4, a5⟩ | ⟨h, _⟩
  · rw [List.drop_zero] at a2
    obtain ⟨e1, e2⟩ := are_apart msgK ts (thsOf m) r [] a1 ha (by rw [← a2, List.append_nil, ths_bytes])
    rcases hq with h | h
    · rw [h] at a5; cases a5
    · refine h ?_
      rw [a4, a2, e2, List.append_nil, Nat.zero_add]
  · exact h ⟨thsOf m, [], ha, by rw [List.drop_zero, List.append_nil, ths_bytes]⟩
theorem results_two {fn : Func} {p u : Tmp} {ty : TypeId} (h : fn.results = #[.cell p ty, .tmp u]) {P : Program} {w : World} {tmps : Array Value} {a : Addr} {v : Value} (ha : tmps.getD p undef = .pointer (some a)) (hl : (loadVar ty a).run P w = .ok v w) :
    (results fn tmps).run P w = .ok (.tuple #[v, tmps.getD u undef]) w := by
  have h2 : (asAddr (tmps.getD p undef)).run P w = .ok a w := by rw [ha]; rfl
  rw [Array.getD_eq_getD_getElem?] at h2
  simp only [results, h]
  simp [Sem.run_bind, Result.andThen, h2, hl]

end Go.Proofs.Ytfikailgjmgnbaa

namespace Go.Proofs.Ytfikailgjmgnbaa
open Go.RowKit Flo
attribute [local go_sem ↓] Go.wp_at_zero Go.wp_at_succ

set_option maxRecDepth 100000 in
set_option maxHeartbeats 1000000 in
theorem ready_E : ReadY (.list KE) 24 62 (.func (.func 25) #[] #[]) #[.func (.func 25) #[] #[]] := by
  intro w gr ge i v p R h0 h1 h2 hz1 hz2 hgr hge hne hsp RD
  have HSP := Lib.hid hsp
  have RD : Hid (Calls Try.prog 62 #[v, .int .i64 p, .func (.func 25) #[] #[]] w.drew (Told (.list KE) R w)) := RD
  have hne' : ge ≠ gr := fun h => hne h.symm
  clear hsp
  go_enter Try.func24, Try.ntmps24
  go_wp2_with fail
  first | (go_region_with (first | (go_at_call 62; (with_reducible refine (RD.out).mono ?_); rintro e w1 ⟨vs, q, ok, hs, he, hb, hR⟩; have HH := Lib.hid hs; have HR := Lib.hid hR; clear hR; obtain ⟨A, n, c, rfl⟩ := hs; simp only [TK.pack, List.headD_cons] at he; subst he; have F0 : w1.cell? ⟨gr, 0, none⟩ = some v := (World.cell?_of_block (a := ⟨gr, 0, none⟩) (hb.block gr hgr)).trans h0; have F1 : w1.cell? ⟨gr, 1, none⟩ = some (.int .i64 p) := (World.cell?_of_block (a := ⟨gr, 1, none⟩) (hb.block gr hgr)).trans h1; have F2 : w1.cell? ⟨gr, 2, none⟩ = some (.bool true) := (World.cell?_of_block (a := ⟨gr, 2, none⟩) (hb.block gr hgr)).trans h2; have F3 : w1.frozen? ⟨gr, 1, none⟩ = false := (World.frozen?_of_block (a := ⟨gr, 1, none⟩) (hb.block gr hgr)).trans hz1; have F4 : w1.frozen? ⟨gr, 2, none⟩ = false := (World.frozen?_of_block (a := ⟨gr, 2, none⟩) (hb.block gr hgr)).trans hz2; obtain ⟨x1, e1⟩ := Option.isSome_iff_exists.1 (HSP.out.on (hb.block ge hge) 0 (by decide)).1; have e2 := (HSP.out.on (hb.block ge hge) 0 (by decide)).2; rw [Nat.add_zero] at e1 e2))) | fail
  all_goals go_wp2
  all_goals go_end0
  all_goals exact ⟨rfl, _, q, ok, w1, HH.out, hb, HR.out, rfl⟩
set_option maxRecDepth 100000 in
theorem readn_E : ReadN 24 := by
  intro w gr x f h2
  go_enter Try.func24, Try.ntmps24
  go_wp2_with fail
  go_end0
  exact ⟨rfl, rfl⟩

end Go.Proofs.Ytfikailgjmgnbaa

namespace Go.Proofs.Ytfikailgjmgnbaa
open Go.RowKit Flo
attribute [local go_sem ↓] Go.wp_at_zero Go.wp_at_succ

theorem item_E : (Try.prog.info? 68).map (fun i => (i.zero, i.size, i.bytes)) = some (some (.agg #[.complex .f64 0 0, .int .i64 0, .string ⟨#[]⟩, .string ⟨#[]⟩, .bool false, .bool false, .int .i64 0, .int .i64 0, .int .i64 0, .string ⟨#[]⟩, .bool false]), 11, 112) := by kernel_rfl
theorem isz_E : (Try.prog.info? 68).map (·.size) = some 11 := by kernel_rfl
theorem iag_E (W : World) : (isAgg 68).run Try.prog W = .ok true W := by simp [isAgg, run_underlying Try.underlying68]
theorem to_liE (X : Value) : Instr.loadAt 68 X = ldT 68 X := rfl
theorem to_siE (X Y : Value) : Instr.storeAt 68 X Y = stT 68 X Y := rfl
theorem to_biE (n : Nat) (ps : Array (Nat × Value)) : Instr.buildSlice 28 n ps = bsT 28 n ps := rfl
theorem run_liE (W : World) (g : Nat) (h : Wh W g 11) : (ldT 68 (.pointer (some ⟨g, 0, none⟩))).run Try.prog W = .ok (.agg (wholeOf W g 11)) W := run_ldT _ 11 isz_E iag_E W g h
theorem run_siE (w : World) (cs : List Value) (hf : Few 11 cs) : (stT 68 (.pointer (some ⟨w.heap.size, 0, none⟩)) (.agg cs.toArray)).run Try.prog (w.alloc (.cells #[.complex .f64 0 0, .int .i64 0, .string ⟨#[]⟩, .string ⟨#[]⟩, .bool false, .bool false, .int .i64 0, .int .i64 0, .int .i64 0, .string ⟨#[]⟩, .bool false] 68)) = .ok () (w.alloc (.cells cs.toArray 68)) :=
  run_storeAt_new w 68 #[.complex .f64 0 0, .int .i64 0, .string ⟨#[]⟩, .string ⟨#[]⟩, .bool false, .bool false, .int .i64 0, .int .i64 0, .int .i64 0, .string ⟨#[]⟩, .bool false] cs.toArray (by rw [isz_E, List.size_toArray, hf.1]) (by rw [show cs.toArray.size = 11 by simpa using hf.1]; rfl) (all_oneCell_toArray hf.2)
theorem run_biE (W : World) (cs : List Value) (hf : Few 11 cs) : (bsT 28 1 #[(0, .agg cs.toArray)]).run Try.prog W = .ok (.slice (some ⟨W.heap.size, 0, none⟩) 1 1) (W.alloc (.cells cs.toArray 68)) := by
  obtain ⟨i, hi, hz0, hz1, _⟩ := info_parts item_E
  exact run_bsT _ _ 11 _ i Try.underlying28 hi hz0 hz1 rfl (by decide) (by decide) W cs hf
section
attribute [local go_sem ↓] to_liE to_siE to_biE
attribute [local go_sem] run_liE run_siE run_biE
set_option maxRecDepth 100000 in
set_option maxHeartbeats 1000000 in
theorem nolist_E (w : World) (v u : Value) (p : Nat) (m q : Int) (ok : Bool) (hm : ok = false ∨ m < 0 ∨ 4096 < m) (RG : Hid (Calls Try.prog 56 #[v, .int .i64 (p : Int)] w fun e w' => e = .returned (.tuple #[.int .i64 m, .int .i64 q, .bool ok]) ∧ w = w')) :
    Calls Try.prog 62 #[v, .int .i64 (p : Int), u] w fun e w' => e = .returned (.tuple #[.slice none 0 0, .int .i64 0, .bool false]) ∧ w = w' := by
  by_cases h1 : ok = false
  · subst h1
    go_enter Try.func62, Try.ntmps62
    go_wp2_with (go_at_call 56; (with_reducible refine RG.out.mono ?_); rintro e w1 ⟨rfl, rfl⟩)
    go_ret3
    exact ⟨rfl, rfl⟩
  · obtain rfl : ok = true := by simpa using h1
    by_cases h2 : m < 0
    · clear hm h1
      go_enter Try.func62, Try.ntmps62
      go_wp2_with (go_at_call 56; (with_reducible refine RG.out.mono ?_); rintro e w1 ⟨rfl, rfl⟩)
      go_ret3
      exact ⟨rfl, rfl⟩
    · have h2' : 0 ≤ m := by omega
      have h3 : 4096 < m := hm.elim (fun h => absurd h h1) fun h => h.elim (fun h => absurd h h2) id
      clear hm h1
      go_enter Try.func62, Try.ntmps62
      go_wp2_with (go_at_call 56; (with_reducible refine RG.out.mono ?_); rintro e w1 ⟨rfl, rfl⟩)
      go_ret3
      exact ⟨rfl, rfl⟩

set_option maxRecDepth 100000 in
set_option maxHeartbeats 2000000 in
theorem somelist_E (GI : Getter (.row KE) 25) (w : World) (v : Value) (l : List UInt8) (p N q : Nat) (hv : Seen w w.heap.size v l) (hl : l.length ≤ 1000000000) (hN : N ≤ 4096) (r0 : List UInt8) (hd0 : l.drop p = wint (N : Int) ++ r0) (hq : q = p + (wint (N : Int)).length)
    (RG : Hid (Calls Try.prog 56 #[v, .int .i64 (p : Int)] w fun e w' => e = .returned (.tuple #[.int .i64 (N : Int), .int .i64 (q : Int), .bool true]) ∧ w = w')) :
    Calls Try.prog 62 #[v, .int .i64 (p : Int), .func (.func 25) #[] #[]] w (GetsZ (.list KE) l p w) := by
  obtain ⟨i, hi, hz0, hz1, hz2⟩ := info_parts item_E
  have HV := Lib.hid hv
  have hdl := congrArg List.length hd0
  have hw1 : 0 < (wint (N : Int)).length := enc_pos (zig (N : Int))
  have h0N : (0 : Int) ≤ (N : Int) := by omega
  have hNI : (N : Int) ≤ 4096 := by omega
  have LO := Lib.hid (show ListOf (.row KE) (.list KE) 11 from (list_rows KE))
  have HG : Hid (∀ (W : World) (its : List Th) (r : List UInt8) (a : Nat), Below w.heap.size w W → l.drop p = wint (N : Int) ++ (bytesT its ++ r) → a = q + (bytesT its).length → Calls Try.prog 25 #[v, .int .i64 (a : Int)] W fun e w' => ∃ cs q' ok, Few 11 cs ∧ e = .returned (.tuple #[.agg cs.toArray, .int .i64 q', .bool ok]) ∧ Below W.heap.size W w' ∧
      ((∃ t r', (.row KE : TK).is t ∧ r = t.bytes ++ r' ∧ (.row KE : TK).lies (W.heap.size ≤ ·) w' t cs ∧ q' = ((q + (bytesT (its ++ [t])).length : Nat) : Int) ∧ ok = true) ∨ ((¬ ∃ t r', (.row KE : TK).is t ∧ r = t.bytes ++ r') ∧ ok = false))) := fun W its r a hb hd ha => by
    have hdl2 := congrArg List.length hd
    rw [List.length_drop, List.length_append, List.length_append] at hdl2
    have hn := next_at hd
    rw [← hq, ← ha] at hn
    refine (GI W v l a (hv.on hb) hl (by omega)).mono ?_
    rintro e w' ⟨cs, q', ok, hs, he, hb', ho⟩
    refine ⟨cs, q', ok, shape_few hs, he, hb', ?_⟩
    unfold Out at ho
    rw [hn] at ho
    refine ho.imp (fun ⟨t, r', a1, a2, a3, a4, a5⟩ => ⟨t, r', a1, a2, a3, by rw [a4, ha, bytesT_snoc, List.length_append, Nat.add_assoc], a5⟩) id
  clear GI hv hdl hw1
  have hd1 : l.drop p = wint (N : Int) ++ (bytesT [] ++ r0) := hd0
  have HQ := Lib.hid hq
  clear hd0 hq
  go_enter Try.func62, Try.ntmps62
  go_wp2_with (go_at_call 56; (with_reducible refine RG.out.mono ?_); rintro e w1 ⟨rfl, rfl⟩)
  go_loopw [1, 11, 33] (fun a o j wr => ∃ (its : List Th) (r : List UInt8), its.length ≤ N ∧ j = .int .i64 (its.length : Int) ∧ a = .int .i64 ((q + (bytesT its).length : Nat) : Int) ∧ (∀ t ∈ its, (.row KE : TK).is t) ∧ l.drop p = wint (N : Int) ++ (bytesT its ++ r) ∧ ItemsR wr w.heap.size o (.row KE) 11 its ∧ Below w.heap.size w wr) (fun _ _ j _ => N - (intOf j).toNat)
  case atStart => exact ⟨[], r0, Nat.zero_le _, rfl, rfl, (fun _ h => by cases h), hd1, ItemsR.nil, Below.refl _ _⟩
  case round =>
    obtain ⟨its, r, hk, rfl, rfl, his, hd, hR, hb⟩ := hrel
    by_cases hlt : its.length < N
    · obtain ⟨a, ha⟩ : ∃ a, a = q + (bytesT its).length := ⟨_, rfl⟩
      rw [← ha]
      obtain ⟨kk, hkk⟩ : ∃ kk, kk = its.length := ⟨_, rfl⟩
      rw [← hkk] at hlt hk ⊢
      have HI := Lib.hid his
      have HD := Lib.hid hd
      have HKK := Lib.hid hkk
      have HAA := Lib.hid ha
      obtain ⟨css, e1, e2, e3, e4⟩ := hR
      have HC1 := Lib.hid e1
      have HC2 := Lib.hid e2
      have HC3 := Lib.hid e3
      obtain ⟨Ao, co, rfl⟩ := e3.slice
      have HC4 : Hid (∀ i (h : i < its.length) (h' : i < css.length), (.row KE : TK).lies (fun b => w.heap.size ≤ b ∧ (Value.slice Ao kk co).ownBlock ≠ some b) wr its[i] css[i]) := by rw [hkk]; exact e4
      rw [← hkk] at HC3 ⊢
      clear his hd hkk ha e1 e2 e3 e4
      have i0' : (0 : Int) ≤ (kk : Int) := by omega
      have i1 : (kk : Int) < (N : Int) := by omega
      go_wp2_with fail
      go_at_call 25
      refine (HG.out _ _ _ _ hb HD.out HAA.out).mono ?_
      rintro e w1 ⟨cs, q', ok, hf, rfl, hb1, ho⟩
      have HF := Lib.hid hf
      rcases ho with ⟨t, r', ht, hr', hlt', rfl, rfl⟩ | ⟨hno, rfl⟩
      · have HT := Lib.hid ht
        have HE := Lib.hid hr'
        have HLI := Lib.hid hlt'
        have hh := held_made w1 cs 68
        have C1 : Wh (w1.alloc (.cells cs.toArray 68)) w1.heap.size 11 := hh.wh hf.1
        have C2 : wholeOf (w1.alloc (.cells cs.toArray 68)) w1.heap.size 11 = cs.toArray := hh.whole hf.1
        have hbx : Below w1.heap.size w1 (w1.alloc (.cells cs.toArray 68)) := bal _ _
        have hby : Below (w1.alloc (.cells cs.toArray 68)).heap.size (w1.alloc (.cells cs.toArray 68)) ((w1.alloc (.cells cs.toArray 68)).alloc (.cells cs.toArray 68)) := bal _ _
        have hb3 : Below w1.heap.size w1 ((w1.alloc (.cells cs.toArray 68)).alloc (.cells cs.toArray 68)) := hbx.trans (hby.mono hbx.size)
        have hb4 := bt hb1 hb3
        have S1 : Src Try.prog 11 28 (.slice (some ⟨w1.heap.size + 1, 0, none⟩) 1 1) 1 cs ((w1.alloc (.cells cs.toArray 68)).alloc (.cells cs.toArray 68)) := by
          have := srcS_one (P := Try.prog) (w1.alloc (.cells cs.toArray 68)) 11 cs hf (e := 68) Try.underlying28
          rw [show (w1.alloc (.cells cs.toArray 68)).heap.size = w1.heap.size + 1 by simp] at this
          exact this
        have R3 := HC3.out.on hb4
        have Bs : w.heap.size ≤ ((w1.alloc (.cells cs.toArray 68)).alloc (.cells cs.toArray 68)).heap.size := Nat.le_trans hb.size hb4.size
        have k1 : kk ≤ 1000000 := by omega
        have k2 : (kk + 1) * 112 ≤ 140737488355328 := by omega
        clear hlt' ht hr' hh
        go_wp2_with (at_builtin; refine wpList_appendS (B := w.heap.size) (n := 11) (k := kk) (cs := css.flatten) (ys := cs) rfl (.tmp 45) (.tmp 47) 28 28 rfl 68 i _ 112 Try.underlying28 hi hz0 hz1 rfl hz2 R3 Bs S1 HF.out.1 k1 k2 rfl rfl ?_; intro v5 w5 h5 hb5 hk5 ho5)
        go_roundw
        case rel =>
          have hkk := HKK.out
          subst hkk
          refine ⟨its ++ [t], r', by rw [List.length_append, List.length_singleton]; omega, by rw [List.length_append, List.length_singleton]; go_num, rfl, fun u hu => ?_, ?_, ?_, ?_⟩
          · rcases List.mem_append.1 hu with hu | hu
            · exact HI.out u hu
            · rw [List.mem_singleton] at hu; rw [hu]; exact HT.out
          · rw [HD.out, HE.out, bytesT_snoc, List.append_assoc]
          · exact ItemsR.put HC1.out HC2.out HC3.out HC4.out hb.size hb4 h5 hk5 hb5.size ho5 HF.out.1 (lies_keep HLI.out ⟨hb3.size, fun b hx hw => ⟨hb3.block b hw, hx⟩⟩)
          · exact hb.trans ((hb4.mono hb.size).trans hb5)
        case measure => simp [intOf]; omega
      · have HNO := Lib.hid hno
        have hby : Below w1.heap.size w1 (w1.alloc (.cells cs.toArray 68)) := bal _ _
        have hb4 : Below w.heap.size w (w1.alloc (.cells cs.toArray 68)) := hb.trans ((bt hb1 hby).mono hb.size)
        clear hno
        go_wp2
        go_ret3
        refine ⟨[.slice none 0 0], 0, false, ⟨_, _, _, rfl⟩, rfl, hb4, .inr ⟨?_, rfl⟩, fun _ => ⟨rfl, rfl⟩⟩
        exact list_no2 LO.out hN (by rw [← HKK.out]; exact hlt) HI.out HD.out HNO.out
    · have hkl : Hid (its.length = N) := by show _ = _; omega
      have HR := Lib.hid hR
      have HI := Lib.hid his
      have HD := Lib.hid hd
      obtain ⟨css, _, _, e3, _⟩ := hR
      obtain ⟨Ao, co, rfl⟩ := e3.slice
      have hge : ¬ (its.length : Int) < (N : Int) := by omega
      clear his hd e3
      go_wp2
      go_ret3
      refine ⟨[_], _, true, ⟨_, _, _, rfl⟩, rfl, hb, ?_, fun h => (by cases h)⟩
      have := list_yes LO.out hN hkl.out HI.out HD.out HR.out
      rw [← HQ.out] at this
      exact this
end

theorem getlist_E (GI : Getter (.row KE) 25) (w : World) (v : Value) (l : List UInt8) (p : Nat) (hv : Seen w w.heap.size v l) (hl : l.length ≤ 1000000000) (hp : p ≤ 1000000000) : Calls Try.prog 62 #[v, .int .i64 (p : Int), .func (.func 25) #[] #[]] w (GetsZ (.list KE) l p w) := by
  have R0 := rd_int w hv (show p ≤ 4611686018427387904 by omega)
  have no : (¬ ∃ t r, (.list KE : TK).is t ∧ l.drop p = t.bytes ++ r) → ∀ e w', (e = .returned (.tuple #[.slice none 0 0, .int .i64 0, .bool false]) ∧ w = w') → GetsZ (.list KE) l p w e w' := fun hn e w' ⟨he, hw⟩ => by
    subst hw
    exact ⟨[.slice none 0 0], 0, false, ⟨_, _, _, rfl⟩, he, Below.refl _ _, .inr ⟨hn, rfl⟩, fun _ => ⟨rfl, rfl⟩⟩
  cases hf : fget .I (l.drop p) with
  | none =>
    rw [got_none hf] at R0
    exact (nolist_E w v _ p 0 0 false (.inl rfl) R0).mono (no (list_no1 (list_rows KE) fun N k _ h => by rw [hf] at h; cases h))
  | some x =>
    obtain ⟨f, j⟩ := x
    rw [got_some hf] at R0
    obtain ⟨a1, a2, a3, a4, a5⟩ := fget_is hf
    cases f with
    | int m =>
      by_cases hm : m < 0 ∨ 4096 < m
      · exact (nolist_E w v _ p m _ true (.inr hm) R0).mono (no (list_no1 (list_rows KE) fun N k hN h => by
          rw [hf] at h
          injection h with h
          injection h with h _
          injection h with h
          omega))
      · obtain ⟨N, rfl⟩ : ∃ N : Nat, m = (N : Int) := ⟨m.toNat, by omega⟩
        have a1 : (l.drop p).take j = wint (N : Int) := a1
        have hj : (wint (N : Int)).length = j := by rw [← a1, List.length_take, Nat.min_eq_left a3]
        exact somelist_E GI w v l p N (p + j) hv hl (by omega) ((l.drop p).drop j) (by rw [← a1, List.take_append_drop]) (by rw [hj]) R0
    | text s => cases a4
    | truth b => cases a4
    | ver a b => cases a4
theorem rdr_E : Rdr (.list KE) 24 (U 25) := ⟨_, #[U 25], ready_E, readn_E, fun w v l p h1 h2 h3 => (getlist_E getter_E w v l p h1 h2 h3).mono fun _ _ h => h.gets⟩

end Go.Proofs.Ytfikailgjmgnbaa
