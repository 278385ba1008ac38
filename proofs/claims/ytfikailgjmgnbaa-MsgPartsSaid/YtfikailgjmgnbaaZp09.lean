/-
  The document's own bytes of a message (made by msg-all-gen.py).
-/
import Derived.Test.YtfikailgjmgnbaaZp08

namespace Go.Proofs.Ytfikailgjmgnbaa
open Go.RowKit Flo
attribute [local go_sem ↓] Go.wp_at_zero Go.wp_at_succ

theorem Held.get {g : Nat} {vs : List Value} {W : World} (h : Held g vs W) (i : Nat) (u : Value) (e : vs[i]? = some u) : W.cell? ⟨g, i, none⟩ = some u := by
  obtain ⟨hi, e⟩ := List.getElem?_eq_some_iff.1 e
  rw [h.2 i hi, e]

set_option maxRecDepth 10000 in
set_option maxHeartbeats 400000 in
theorem numbers_own (v : Value) (ns : List Int) (w : World) (hv : Nums w v ns) (hf : ns.length ≤ 1000) (hr : ∀ n ∈ ns, (Fld.int n).right) :
    Calls Try.prog 31 #[v] w (GivesO (bytesOf (ns.map .int)) w) := by
  obtain ⟨i0, hi0, hz0, hz1, hz2⟩ := info_parts byte_info
  have HM := Lib.hid hv
  obtain ⟨A, c, rfl, hlc, hcm, hA⟩ := hv
  have HR := Lib.hid hr
  clear hA hr
  go_enter Try.func31, Try.ntmps31
  go_wp2
  go_loopw [3, 4] (fun o i wr => ∃ k : Nat, k ≤ ns.length ∧ i = .int .i64 (k : Int) ∧ Room wr w.heap.size o (bytesOf ((ns.take k).map .int)) ∧ Own w.heap.size o ∧ (bytesOf ((ns.take k).map Fld.int)).length ≤ 10 * k ∧ Below w.heap.size w wr) (fun _ i _ => ns.length - (intOf i).toNat)
  case atStart => exact ⟨0, Nat.zero_le _, rfl, Room.nil, (by intro g hg; cases hg), by simp [bytesOf], Below.refl _ _⟩
  case round =>
    obtain ⟨k, hk, rfl, hr', ho, hlen, hb⟩ := hrel
    by_cases hlt : k < ns.length
    · obtain ⟨A', c', e, _, _, h3⟩ := HM.out.on hb
      injection e with e1 _ e3
      subst e1 e3
      rcases h3 with h3 | ⟨b, off, rfl, hbw, hcells⟩
      · rw [h3] at hlt; cases hlt
      have hcell := hcells k hlt
      have hri := HR.out _ (List.getElem_mem hlt)
      have HT := Lib.hid (show bytesOf ((ns.take (k + 1)).map .int) = bytesOf ((ns.take k).map .int) ++ (Fld.int ns[k]).bytes by rw [List.take_succ_eq_append_getElem hlt, List.map_append]; exact bytesOf_snoc _ _)
      have hle : (Fld.int ns[k]).bytes.length ≤ 10 := wint_le hri.1 hri.2
      have P1 : (bytesOf ((ns.take k).map Fld.int)).length + (Fld.int ns[k]).bytes.length ≤ 1099511627776 := by omega
      have i0' : (0 : Int) ≤ (k : Int) := by omega
      have i1 : (k : Int) < (ns.length : Int) := by omega
      have RI := Lib.hid (rint_r (n := ns[k]) wr hri)
      clear hcells hri
      go_wp2_with (first
        | (go_at_call 41; (with_reducible refine RI.out.mono ?_); rintro e w1 ⟨A1, c1, rfl, hs1, hb1⟩)
        | (at_builtin; refine wpList_append8s (B := w.heap.size) (l := bytesOf ((ns.take k).map .int)) (m := (Fld.int ns[k]).bytes) rfl (.tmp 11) (.tmp 16) 22 22 rfl 5 i0 Try.underlying22 hi0 hz0 hz1 hz2 (hr'.on hb1) (Nat.le_trans hb.size hb1.size) (hs1.src Try.underlying22) P1 rfl rfl ?_; intro v2 w2 hr2 hb2 ho2))
      go_roundw
      case rel => exact ⟨k + 1, by omega, by go_num, by rw [HT.out]; exact hr2, own_step ho (Nat.le_trans hb.size hb1.size) ho2, by rw [HT.out, List.length_append]; omega, hb.trans ((hb1.mono hb.size).trans hb2)⟩
      case measure => simp [intOf]; omega
    · have hkl : Hid (ns.take k = ns) := List.take_of_length_le (by omega)
      go_wp2
      go_ret
      rw [hkl.out] at hr'
      obtain ⟨A3, c3, rfl, _⟩ := hr'.cut
      exact ⟨A3, c3, rfl, hr', ho, hb⟩

theorem two_src {P : Program} (w : World) (c d : UInt8) {tx e : TypeId} (hk : P.underlying tx = some (.slice e)) :
    Src P 1 tx (.slice (some ⟨w.heap.size, 0, none⟩) 2 2) [c, d].length (c8 [c, d]) (w.alloc (.cells #[.int .u8 (c.toNat : Int), .int .u8 (d.toNat : Int)] e)).drew :=
  ((Room.made w [c, d] e (by show 2 ≤ maxLen; decide)).seen.on (Below.refl _ _).drew).src hk

structure MsgD where
  ns : Fin 12 → Int
  has : Bool
  fresh : Bool
  key : ByteArray
  val : ByteArray
  vr : Int × Int
  fl : Int × Int
  okd : Int
  okey : ByteArray
  oval : ByteArray
  oold : ByteArray
  ohas : Bool
  ents : List (List Fld)
  chain : List (List Fld)
  vws : List View
  img : Img
def MsgD.nums (m : MsgD) : List Int := [m.ns 0, m.ns 1, m.ns 2, m.ns 3, m.ns 4, m.ns 5, m.ns 6, m.ns 7, m.ns 8, m.ns 9, m.ns 10, m.ns 11]
def MsgD.op (m : MsgD) : List Fld := [.int m.okd, .text m.okey, .text m.oval, .text m.oold, .truth m.ohas]
def vwsB (xs : List View) : List UInt8 := wint (xs.length : Int) ++ viewsB xs
def MsgD.bytes (m : MsgD) : List UInt8 :=
  bytesOf (m.nums.map .int) ++ ([bit m.has, bit m.fresh] ++ ((Fld.text m.key).bytes ++ ((Fld.text m.val).bytes ++ ((Fld.ver m.vr.1 m.vr.2).bytes ++ ((Fld.ver m.fl.1 m.fl.2).bytes ++ (bytesOf m.op ++ (entB m.ents ++ (entB m.chain ++ (vwsB m.vws ++ m.img.bytes)))))))))
def MsgD.right (m : MsgD) : Prop := (∀ n ∈ m.nums, (Fld.int n).right) ∧ (Fld.text m.key).right ∧ (Fld.text m.val).right ∧ (Fld.ver m.vr.1 m.vr.2).right ∧ (Fld.ver m.fl.1 m.fl.2).right ∧ (∀ f ∈ m.op, f.right) ∧
  m.ents.length ≤ 4096 ∧ m.chain.length ≤ 4096 ∧ m.vws.length ≤ 4096 ∧ (∀ y ∈ m.ents, kinds y = KE ∧ ∀ f ∈ y, f.right) ∧ (∀ y ∈ m.chain, kinds y = KM ∧ ∀ f ∈ y, f.right) ∧ (∀ y ∈ m.vws, ViewRight y) ∧ m.img.right ∧ m.bytes.length ≤ 100000000000
/-- a message's value, its lists' slices handed in -/
def MsgD.val_ (m : MsgD) (ev cv vv lv sv : Value) : Value :=
  .agg #[.int .i64 (m.ns 0), .int .i64 (m.ns 1), .int .i64 (m.ns 2), .int .i64 (m.ns 3), .int .i64 (m.ns 4), .int .i64 (m.ns 5), .int .i64 (m.ns 6), .int .i64 (m.ns 7), .int .i64 (m.ns 8), .int .i64 (m.ns 9), .int .i64 (m.ns 10), .int .i64 (m.ns 11), .bool m.has, .bool m.fresh, .string m.key, .string m.val, Proofs.Ytfikailgjmgnbaa.ver m.vr.1 m.vr.2, Proofs.Ytfikailgjmgnbaa.ver m.fl.1 m.fl.2, .int .i64 m.okd, .string m.okey, .string m.oval, .string m.oold, .bool m.ohas, ev, cv, vv, Proofs.Ytfikailgjmgnbaa.ver m.img.fl.1 m.img.fl.2, Proofs.Ytfikailgjmgnbaa.ver m.img.la.1 m.img.la.2, .int .i64 m.img.gen, lv, sv]
def MsgD.lies (m : MsgD) (w : World) (ev cv vv lv sv : Value) : Prop := Structs w ev 11 (m.ents.map vals) ∧ Structs w cv 2 (m.chain.map vals) ∧ ViewsAt w vv m.vws ∧ Structs w lv 11 (m.img.log.map vals) ∧ Structs w sv 7 (m.img.seen.map vals)

set_option maxRecDepth 100000 in
set_option maxHeartbeats 4000000 in
theorem msg_any (m : MsgD) (ev cv vv lv sv : Value) (w : World) (hl : m.lies w ev cv vv lv sv) (hm : m.right) :
    Calls Try.prog 9 #[m.val_ ev cv vv lv sv] w (Tells m.bytes w) := by
  obtain ⟨i0, hi0, hz0, hz1, hz2⟩ := info_parts byte_info
  obtain ⟨m1, m2, m3, m4, m5, m6, m7, m8, m9, m10, m11, m12, m13, m14⟩ := hm
  obtain ⟨l1, l2, l3, l4, l5⟩ := hl
  obtain ⟨La, hLa⟩ : ∃ L, L = bytesOf (m.nums.map .int) := ⟨_, rfl⟩
  obtain ⟨Lb, hLb⟩ : ∃ L, L = [bit m.has, bit m.fresh] := ⟨_, rfl⟩
  obtain ⟨Lc, hLc⟩ : ∃ L, L = (Fld.text m.key).bytes := ⟨_, rfl⟩
  obtain ⟨Ld, hLd⟩ : ∃ L, L = (Fld.text m.val).bytes := ⟨_, rfl⟩
  obtain ⟨Le, hLe⟩ : ∃ L, L = (Fld.ver m.vr.1 m.vr.2).bytes := ⟨_, rfl⟩
  obtain ⟨Lf, hLf⟩ : ∃ L, L = (Fld.ver m.fl.1 m.fl.2).bytes := ⟨_, rfl⟩
  obtain ⟨Lg, hLg⟩ : ∃ L, L = bytesOf m.op := ⟨_, rfl⟩
  obtain ⟨Lh, hLh⟩ : ∃ L, L = entB m.ents := ⟨_, rfl⟩
  obtain ⟨Li, hLi⟩ : ∃ L, L = entB m.chain := ⟨_, rfl⟩
  obtain ⟨Lj, hLj⟩ : ∃ L, L = vwsB m.vws := ⟨_, rfl⟩
  obtain ⟨Lk, hLk⟩ : ∃ L, L = m.img.bytes := ⟨_, rfl⟩
  have HB : Hid (m.bytes = La ++ (Lb ++ (Lc ++ (Ld ++ (Le ++ (Lf ++ (Lg ++ (Lh ++ (Li ++ (Lj ++ Lk)))))))))) := by show m.bytes = _; unfold MsgD.bytes; rw [hLa, hLb, hLc, hLd, hLe, hLf, hLg, hLh, hLi, hLj, hLk]
  have hlen : La.length + Lb.length + Lc.length + Ld.length + Le.length + Lf.length + Lg.length + Lh.length + Li.length + Lj.length + Lk.length ≤ 100000000000 := by rw [HB.out] at m14; simp only [List.length_append] at m14; omega
  have RN : Hid (∀ W v, Nums W v m.nums → Calls Try.prog 31 #[v] W (GivesO La W)) := fun W v h => by rw [hLa]; exact numbers_own v m.nums W h (show 12 ≤ 1000 by decide) m1
  have RK : Hid (∀ W, Calls Try.prog 33 #[.string m.key] W (Tells Lc W)) := fun W => by rw [hLc]; exact rtext_r W m2
  have RW : Hid (∀ W, Calls Try.prog 33 #[.string m.val] W (Tells Ld W)) := fun W => by rw [hLd]; exact rtext_r W m3
  have RV : Hid (∀ W, Calls Try.prog 34 #[ver m.vr.1 m.vr.2] W (Tells Le W)) := fun W => by rw [hLe]; exact rver_r W m4
  have RF : Hid (∀ W, Calls Try.prog 34 #[ver m.fl.1 m.fl.2] W (Tells Lf W)) := fun W => by rw [hLf]; exact rver_r W m5
  have RO : Hid (∀ W, Calls Try.prog 35 #[.agg #[.int .i64 m.okd, .string m.okey, .string m.oval, .string m.oold, .bool m.ohas]] W (Tells Lg W)) := fun W => by
    rw [hLg]
    exact rop_r m.okd m.okey m.oval m.oold m.ohas W (m6 _ (by simp [MsgD.op])) (m6 _ (by simp [MsgD.op])) (m6 _ (by simp [MsgD.op])) (m6 _ (by simp [MsgD.op]))
  have RE : Hid (∀ W, Structs W ev 11 (m.ents.map vals) → Calls Try.prog 36 #[ev] W (Tells Lh W)) := fun W h => by rw [hLh]; exact entries_any ev m.ents W h m7 m10
  have RC : Hid (∀ W, Structs W cv 2 (m.chain.map vals) → Calls Try.prog 37 #[cv] W (Tells Li W)) := fun W h => by rw [hLi]; exact members_any cv m.chain W h m8 m11
  have RU : Hid (∀ W, ViewsAt W vv m.vws → Calls Try.prog 13 #[vv] W (Tells Lj W)) := fun W h => by
    rw [hLj]
    exact views_any vv m.vws W h m9 (by have : Lj.length = (wint (m.vws.length : Int)).length + (viewsB m.vws).length := by rw [hLj]; exact List.length_append
                                        omega) m12
  have RI : Hid (∀ W, Structs W lv 11 (m.img.log.map vals) → Structs W sv 7 (m.img.seen.map vals) → Calls Try.prog 12 #[.agg #[ver m.img.fl.1 m.img.fl.2, ver m.img.la.1 m.img.la.2, .int .i64 m.img.gen, lv, sv]] W (Tells Lk W)) := fun W h h' => by rw [hLk]; exact image_any m.img lv sv W h h' m13
  have H1 := Lib.hid l1
  have H2 := Lib.hid l2
  have H3 := Lib.hid l3
  have H4 := Lib.hid l4
  have H5 := Lib.hid l5
  have hLb2 : Lb = [bit m.has, bit m.fresh] := hLb
  clear hLa hLb hLc hLd hLe hLf hLg hLh hLi hLj hLk m1 m2 m3 m4 m5 m6 m7 m8 m9 m10 m11 m12 m13 m14
  obtain ⟨Ae, ce, rfl, _⟩ := l1
  obtain ⟨Ac, cc, rfl, _⟩ := l2
  obtain ⟨Av, cv', rfl, _⟩ := l3
  obtain ⟨Al, cl, rfl, _⟩ := l4
  obtain ⟨As, cs, rfl, _⟩ := l5
  unfold MsgD.val_
  rw [List.length_map] at H1 H2 H4 H5 RE RC
  rw [List.length_map, List.length_map] at RI
  rw [List.length_map, List.length_map, List.length_map, List.length_map]
  have P1 : (La).length + Lb.length ≤ 1099511627776 := by (try simp only [List.length_append]); omega
  have P2 : (La ++ Lb).length + Lc.length ≤ 1099511627776 := by (try simp only [List.length_append]); omega
  have P3 : (La ++ Lb ++ Lc).length + Ld.length ≤ 1099511627776 := by (try simp only [List.length_append]); omega
  have P4 : (La ++ Lb ++ Lc ++ Ld).length + Le.length ≤ 1099511627776 := by (try simp only [List.length_append]); omega
  have P5 : (La ++ Lb ++ Lc ++ Ld ++ Le).length + Lf.length ≤ 1099511627776 := by (try simp only [List.length_append]); omega
  have P6 : (La ++ Lb ++ Lc ++ Ld ++ Le ++ Lf).length + Lg.length ≤ 1099511627776 := by (try simp only [List.length_append]); omega
  have P7 : (La ++ Lb ++ Lc ++ Ld ++ Le ++ Lf ++ Lg).length + Lh.length ≤ 1099511627776 := by (try simp only [List.length_append]); omega
  have P8 : (La ++ Lb ++ Lc ++ Ld ++ Le ++ Lf ++ Lg ++ Lh).length + Li.length ≤ 1099511627776 := by (try simp only [List.length_append]); omega
  have P9 : (La ++ Lb ++ Lc ++ Ld ++ Le ++ Lf ++ Lg ++ Lh ++ Li).length + Lj.length ≤ 1099511627776 := by (try simp only [List.length_append]); omega
  have P10 : (La ++ Lb ++ Lc ++ Ld ++ Le ++ Lf ++ Lg ++ Lh ++ Li ++ Lj).length + Lk.length ≤ 1099511627776 := by (try simp only [List.length_append]); omega
  have HH := held_made w [.int .i64 (m.ns 0), .int .i64 (m.ns 1), .int .i64 (m.ns 2), .int .i64 (m.ns 3), .int .i64 (m.ns 4), .int .i64 (m.ns 5), .int .i64 (m.ns 6), .int .i64 (m.ns 7), .int .i64 (m.ns 8), .int .i64 (m.ns 9), .int .i64 (m.ns 10), .int .i64 (m.ns 11), .bool m.has, .bool m.fresh, .string m.key, .string m.val, ver m.vr.1 m.vr.2, ver m.fl.1 m.fl.2, .int .i64 m.okd, .string m.okey, .string m.oval, .string m.oold, .bool m.ohas, .slice Ae m.ents.length ce, .slice Ac m.chain.length cc, .slice Av m.vws.length cv', ver m.img.fl.1 m.img.fl.2, ver m.img.la.1 m.img.la.2, .int .i64 m.img.gen, .slice Al m.img.log.length cl, .slice As m.img.seen.length cs] 35
  have hbw := bal w (.cells #[.int .i64 (m.ns 0), .int .i64 (m.ns 1), .int .i64 (m.ns 2), .int .i64 (m.ns 3), .int .i64 (m.ns 4), .int .i64 (m.ns 5), .int .i64 (m.ns 6), .int .i64 (m.ns 7), .int .i64 (m.ns 8), .int .i64 (m.ns 9), .int .i64 (m.ns 10), .int .i64 (m.ns 11), .bool m.has, .bool m.fresh, .string m.key, .string m.val, ver m.vr.1 m.vr.2, ver m.fl.1 m.fl.2, .int .i64 m.okd, .string m.okey, .string m.oval, .string m.oold, .bool m.ohas, .slice Ae m.ents.length ce, .slice Ac m.chain.length cc, .slice Av m.vws.length cv', ver m.img.fl.1 m.img.fl.2, ver m.img.la.1 m.img.la.2, .int .i64 m.img.gen, .slice Al m.img.log.length cl, .slice As m.img.seen.length cs] 35)
  have HN := nums_made (w.alloc (.cells #[.int .i64 (m.ns 0), .int .i64 (m.ns 1), .int .i64 (m.ns 2), .int .i64 (m.ns 3), .int .i64 (m.ns 4), .int .i64 (m.ns 5), .int .i64 (m.ns 6), .int .i64 (m.ns 7), .int .i64 (m.ns 8), .int .i64 (m.ns 9), .int .i64 (m.ns 10), .int .i64 (m.ns 11), .bool m.has, .bool m.fresh, .string m.key, .string m.val, ver m.vr.1 m.vr.2, ver m.fl.1 m.fl.2, .int .i64 m.okd, .string m.okey, .string m.oval, .string m.oold, .bool m.ohas, .slice Ae m.ents.length ce, .slice Ac m.chain.length cc, .slice Av m.vws.length cv', ver m.img.fl.1 m.img.fl.2, ver m.img.la.1 m.img.la.2, .int .i64 m.img.gen, .slice Al m.img.log.length cl, .slice As m.img.seen.length cs] 35)) m.nums 3 12 rfl (by decide)
  rw [show (w.alloc (.cells #[.int .i64 (m.ns 0), .int .i64 (m.ns 1), .int .i64 (m.ns 2), .int .i64 (m.ns 3), .int .i64 (m.ns 4), .int .i64 (m.ns 5), .int .i64 (m.ns 6), .int .i64 (m.ns 7), .int .i64 (m.ns 8), .int .i64 (m.ns 9), .int .i64 (m.ns 10), .int .i64 (m.ns 11), .bool m.has, .bool m.fresh, .string m.key, .string m.val, ver m.vr.1 m.vr.2, ver m.fl.1 m.fl.2, .int .i64 m.okd, .string m.okey, .string m.oval, .string m.oold, .bool m.ohas, .slice Ae m.ents.length ce, .slice Ac m.chain.length cc, .slice Av m.vws.length cv', ver m.img.fl.1 m.img.fl.2, ver m.img.la.1 m.img.la.2, .int .i64 m.img.gen, .slice Al m.img.log.length cl, .slice As m.img.seen.length cs] 35)).heap.size = w.heap.size + 1 by simp] at HN
  obtain ⟨w0, hw0⟩ : ∃ w0, w0 = w.alloc (.cells #[.int .i64 (m.ns 0), .int .i64 (m.ns 1), .int .i64 (m.ns 2), .int .i64 (m.ns 3), .int .i64 (m.ns 4), .int .i64 (m.ns 5), .int .i64 (m.ns 6), .int .i64 (m.ns 7), .int .i64 (m.ns 8), .int .i64 (m.ns 9), .int .i64 (m.ns 10), .int .i64 (m.ns 11), .bool m.has, .bool m.fresh, .string m.key, .string m.val, ver m.vr.1 m.vr.2, ver m.fl.1 m.fl.2, .int .i64 m.okd, .string m.okey, .string m.oval, .string m.oold, .bool m.ohas, .slice Ae m.ents.length ce, .slice Ac m.chain.length cc, .slice Av m.vws.length cv', ver m.img.fl.1 m.img.fl.2, ver m.img.la.1 m.img.la.2, .int .i64 m.img.gen, .slice Al m.img.log.length cl, .slice As m.img.seen.length cs] 35) := ⟨_, rfl⟩
  have FX : Hid (∀ w1, Below ((w.alloc (.cells #[.int .i64 (m.ns 0), .int .i64 (m.ns 1), .int .i64 (m.ns 2), .int .i64 (m.ns 3), .int .i64 (m.ns 4), .int .i64 (m.ns 5), .int .i64 (m.ns 6), .int .i64 (m.ns 7), .int .i64 (m.ns 8), .int .i64 (m.ns 9), .int .i64 (m.ns 10), .int .i64 (m.ns 11), .bool m.has, .bool m.fresh, .string m.key, .string m.val, ver m.vr.1 m.vr.2, ver m.fl.1 m.fl.2, .int .i64 m.okd, .string m.okey, .string m.oval, .string m.oold, .bool m.ohas, .slice Ae m.ents.length ce, .slice Ac m.chain.length cc, .slice Av m.vws.length cv', ver m.img.fl.1 m.img.fl.2, ver m.img.la.1 m.img.la.2, .int .i64 m.img.gen, .slice Al m.img.log.length cl, .slice As m.img.seen.length cs] 35)).alloc (.cells #[.int .i64 (m.ns 0), .int .i64 (m.ns 1), .int .i64 (m.ns 2), .int .i64 (m.ns 3), .int .i64 (m.ns 4), .int .i64 (m.ns 5), .int .i64 (m.ns 6), .int .i64 (m.ns 7), .int .i64 (m.ns 8), .int .i64 (m.ns 9), .int .i64 (m.ns 10), .int .i64 (m.ns 11)] 3)).heap.size ((w.alloc (.cells #[.int .i64 (m.ns 0), .int .i64 (m.ns 1), .int .i64 (m.ns 2), .int .i64 (m.ns 3), .int .i64 (m.ns 4), .int .i64 (m.ns 5), .int .i64 (m.ns 6), .int .i64 (m.ns 7), .int .i64 (m.ns 8), .int .i64 (m.ns 9), .int .i64 (m.ns 10), .int .i64 (m.ns 11), .bool m.has, .bool m.fresh, .string m.key, .string m.val, ver m.vr.1 m.vr.2, ver m.fl.1 m.fl.2, .int .i64 m.okd, .string m.okey, .string m.oval, .string m.oold, .bool m.ohas, .slice Ae m.ents.length ce, .slice Ac m.chain.length cc, .slice Av m.vws.length cv', ver m.img.fl.1 m.img.fl.2, ver m.img.la.1 m.img.la.2, .int .i64 m.img.gen, .slice Al m.img.log.length cl, .slice As m.img.seen.length cs] 35)).alloc (.cells #[.int .i64 (m.ns 0), .int .i64 (m.ns 1), .int .i64 (m.ns 2), .int .i64 (m.ns 3), .int .i64 (m.ns 4), .int .i64 (m.ns 5), .int .i64 (m.ns 6), .int .i64 (m.ns 7), .int .i64 (m.ns 8), .int .i64 (m.ns 9), .int .i64 (m.ns 10), .int .i64 (m.ns 11)] 3)) w1 → Below w0.heap.size w0 w1) := by
    intro w1 h
    rw [hw0]
    exact bt (bal _ _) h
  have FR : Hid (∀ w1 v, Room w1 ((w.alloc (.cells #[.int .i64 (m.ns 0), .int .i64 (m.ns 1), .int .i64 (m.ns 2), .int .i64 (m.ns 3), .int .i64 (m.ns 4), .int .i64 (m.ns 5), .int .i64 (m.ns 6), .int .i64 (m.ns 7), .int .i64 (m.ns 8), .int .i64 (m.ns 9), .int .i64 (m.ns 10), .int .i64 (m.ns 11), .bool m.has, .bool m.fresh, .string m.key, .string m.val, ver m.vr.1 m.vr.2, ver m.fl.1 m.fl.2, .int .i64 m.okd, .string m.okey, .string m.oval, .string m.oold, .bool m.ohas, .slice Ae m.ents.length ce, .slice Ac m.chain.length cc, .slice Av m.vws.length cv', ver m.img.fl.1 m.img.fl.2, ver m.img.la.1 m.img.la.2, .int .i64 m.img.gen, .slice Al m.img.log.length cl, .slice As m.img.seen.length cs] 35)).alloc (.cells #[.int .i64 (m.ns 0), .int .i64 (m.ns 1), .int .i64 (m.ns 2), .int .i64 (m.ns 3), .int .i64 (m.ns 4), .int .i64 (m.ns 5), .int .i64 (m.ns 6), .int .i64 (m.ns 7), .int .i64 (m.ns 8), .int .i64 (m.ns 9), .int .i64 (m.ns 10), .int .i64 (m.ns 11)] 3)).heap.size v La → Own ((w.alloc (.cells #[.int .i64 (m.ns 0), .int .i64 (m.ns 1), .int .i64 (m.ns 2), .int .i64 (m.ns 3), .int .i64 (m.ns 4), .int .i64 (m.ns 5), .int .i64 (m.ns 6), .int .i64 (m.ns 7), .int .i64 (m.ns 8), .int .i64 (m.ns 9), .int .i64 (m.ns 10), .int .i64 (m.ns 11), .bool m.has, .bool m.fresh, .string m.key, .string m.val, ver m.vr.1 m.vr.2, ver m.fl.1 m.fl.2, .int .i64 m.okd, .string m.okey, .string m.oval, .string m.oold, .bool m.ohas, .slice Ae m.ents.length ce, .slice Ac m.chain.length cc, .slice Av m.vws.length cv', ver m.img.fl.1 m.img.fl.2, ver m.img.la.1 m.img.la.2, .int .i64 m.img.gen, .slice Al m.img.log.length cl, .slice As m.img.seen.length cs] 35)).alloc (.cells #[.int .i64 (m.ns 0), .int .i64 (m.ns 1), .int .i64 (m.ns 2), .int .i64 (m.ns 3), .int .i64 (m.ns 4), .int .i64 (m.ns 5), .int .i64 (m.ns 6), .int .i64 (m.ns 7), .int .i64 (m.ns 8), .int .i64 (m.ns 9), .int .i64 (m.ns 10), .int .i64 (m.ns 11)] 3)).heap.size v → Room w1 w0.heap.size v La) := by
    intro w1 v h ho
    rw [hw0]
    exact h.low ho (bal _ _).size
  have HN2 : Hid (Nums ((w.alloc (.cells #[.int .i64 (m.ns 0), .int .i64 (m.ns 1), .int .i64 (m.ns 2), .int .i64 (m.ns 3), .int .i64 (m.ns 4), .int .i64 (m.ns 5), .int .i64 (m.ns 6), .int .i64 (m.ns 7), .int .i64 (m.ns 8), .int .i64 (m.ns 9), .int .i64 (m.ns 10), .int .i64 (m.ns 11), .bool m.has, .bool m.fresh, .string m.key, .string m.val, ver m.vr.1 m.vr.2, ver m.fl.1 m.fl.2, .int .i64 m.okd, .string m.okey, .string m.oval, .string m.oold, .bool m.ohas, .slice Ae m.ents.length ce, .slice Ac m.chain.length cc, .slice Av m.vws.length cv', ver m.img.fl.1 m.img.fl.2, ver m.img.la.1 m.img.la.2, .int .i64 m.img.gen, .slice Al m.img.log.length cl, .slice As m.img.seen.length cs] 35)).alloc (.cells #[.int .i64 (m.ns 0), .int .i64 (m.ns 1), .int .i64 (m.ns 2), .int .i64 (m.ns 3), .int .i64 (m.ns 4), .int .i64 (m.ns 5), .int .i64 (m.ns 6), .int .i64 (m.ns 7), .int .i64 (m.ns 8), .int .i64 (m.ns 9), .int .i64 (m.ns 10), .int .i64 (m.ns 11)] 3)) (.slice (some ⟨w.heap.size + 1, 0, none⟩) 12 12) m.nums) := HN
  have F0 := HH.get 0 (.int .i64 (m.ns 0)) rfl
  have F1 := HH.get 1 (.int .i64 (m.ns 1)) rfl
  have F2 := HH.get 2 (.int .i64 (m.ns 2)) rfl
  have F3 := HH.get 3 (.int .i64 (m.ns 3)) rfl
  have F4 := HH.get 4 (.int .i64 (m.ns 4)) rfl
  have F5 := HH.get 5 (.int .i64 (m.ns 5)) rfl
  have F6 := HH.get 6 (.int .i64 (m.ns 6)) rfl
  have F7 := HH.get 7 (.int .i64 (m.ns 7)) rfl
  have F8 := HH.get 8 (.int .i64 (m.ns 8)) rfl
  have F9 := HH.get 9 (.int .i64 (m.ns 9)) rfl
  have F10 := HH.get 10 (.int .i64 (m.ns 10)) rfl
  have F11 := HH.get 11 (.int .i64 (m.ns 11)) rfl
  change Held w.heap.size _ (w.alloc (.cells #[.int .i64 (m.ns 0), .int .i64 (m.ns 1), .int .i64 (m.ns 2), .int .i64 (m.ns 3), .int .i64 (m.ns 4), .int .i64 (m.ns 5), .int .i64 (m.ns 6), .int .i64 (m.ns 7), .int .i64 (m.ns 8), .int .i64 (m.ns 9), .int .i64 (m.ns 10), .int .i64 (m.ns 11), .bool m.has, .bool m.fresh, .string m.key, .string m.val, ver m.vr.1 m.vr.2, ver m.fl.1 m.fl.2, .int .i64 m.okd, .string m.okey, .string m.oval, .string m.oold, .bool m.ohas, .slice Ae m.ents.length ce, .slice Ac m.chain.length cc, .slice Av m.vws.length cv', ver m.img.fl.1 m.img.fl.2, ver m.img.la.1 m.img.la.2, .int .i64 m.img.gen, .slice Al m.img.log.length cl, .slice As m.img.seen.length cs] 35)) at HH
  rw [← hw0] at HH hbw
  clear hw0 HN
  go_enter Try.func9, Try.ntmps9
  go_wp2_with (go_at_call 31; (refine (RN.out _ _ HN2.out).mono ?_); rintro e w1 ⟨A1, c1, rfl, hr1, ho1, hb1⟩; have hr1' := FR.out _ _ hr1 ho1; have hx1 := FX.out _ hb1; clear hr1 ho1 hb1)
  clear F0 F1 F2 F3 F4 F5 F6 F7 F8 F9 F10 F11 FX FR HN2 RN
  obtain ⟨g, hg⟩ : ∃ g, g = w.heap.size := ⟨_, rfl⟩
  rw [← hg] at HH ⊢
  clear hg
  have hd : Below w1.heap.size w1 w1.drew := (Below.refl _ _).drew
  have E1 : w1.cell? ⟨g, 12, none⟩ = some (.bool m.has) ∧ w1.cell? ⟨g, 13, none⟩ = some (.bool m.fresh) := ⟨(HH.on hx1).get 12 _ rfl, (HH.on hx1).get 13 _ rfl⟩
  have hx1d : Below w0.heap.size w0 w1.drew := hx1.drew
  have ED : w1.drew.cell? ⟨g, 12, none⟩ = some (.bool m.has) ∧ w1.drew.cell? ⟨g, 13, none⟩ = some (.bool m.fresh) := ⟨(HH.on hx1d).get 12 _ rfl, (HH.on hx1d).get 13 _ rfl⟩
  have hdn : Below w1.heap.size w1 (w1.alloc (.cells #[.int .u8 ((bit m.has).toNat : Int), .int .u8 ((bit m.fresh).toNat : Int)] 5)).drew := (bal w1 _).drew
  have hxn : Below w0.heap.size w0 (w1.alloc (.cells #[.int .u8 ((bit m.has).toNat : Int), .int .u8 ((bit m.fresh).toNat : Int)] 5)).drew := hx1.trans (hdn.mono hx1.size)
  have EN : (w1.alloc (.cells #[.int .u8 ((bit m.has).toNat : Int), .int .u8 ((bit m.fresh).toNat : Int)] 5)).drew.cell? ⟨g, 12, none⟩ = some (.bool m.has) ∧ (w1.alloc (.cells #[.int .u8 ((bit m.has).toNat : Int), .int .u8 ((bit m.fresh).toNat : Int)] 5)).drew.cell? ⟨g, 13, none⟩ = some (.bool m.fresh) := ⟨(HH.on hxn).get 12 _ rfl, (HH.on hxn).get 13 _ rfl⟩
  have S2 := Lib.hid (two_src (P := Try.prog) w1 (bit m.has) (bit m.fresh) Try.underlying22)
  subst hLb2
  first | (go_region_held3 (fun W => W.cell? ⟨g, 12, none⟩ = some (.bool m.has) ∧ W.cell? ⟨g, 13, none⟩ = some (.bool m.fresh)) (first | exact E2 | exact EN | exact ED | exact E1) (first
    | (go_at_call 32; (with_reducible refine (bit6_any _ _).mono ?_); rintro e w9 ⟨rfl, rfl⟩)
    | ((refine step_append8 (B := w0.heap.size) (l := La) (m := [bit m.has, bit m.fresh]) (by rfl) (.tmp 30) (.tmp 37) 22 22 (by rfl) 5 i0 Try.underlying22 hi0 hz0 hz1 hz2 (hr1'.on hdn) hxn.size S2.out P1 (by rfl) (by rfl) ?_; intro v2 w2 hr2 hb2; have hx2 : Below w0.heap.size w0 w2 := hxn.trans hb2; have E2 : w2.cell? ⟨g, 12, none⟩ = some (.bool m.has) ∧ w2.cell? ⟨g, 13, none⟩ = some (.bool m.fresh) := ⟨(HH.on hx2).get 12 _ rfl, (HH.on hx2).get 13 _ rfl⟩)))) | fail
  have F14 := (HH.on hx2).get 14 (.string m.key) rfl
  go_wp2_with (first
    | (go_at_call 33; (with_reducible refine (RK.out _).mono ?_); rintro e w3 ⟨A3, c3, rfl, hs3, hb3⟩; have hx3 : Below w0.heap.size w0 w3 := bt hx2 hb3)
    | (at_builtin; refine wpList_append8 (B := w0.heap.size) (l := La ++ [bit m.has, bit m.fresh]) (m := Lc) rfl (.tmp 39) (.tmp 42) 22 22 rfl 5 i0 Try.underlying22 hi0 hz0 hz1 hz2 (hr2.on hb3) hx3.size (hs3.src Try.underlying22) P2 rfl rfl ?_; intro v4 w4 hr4 hb4; have hx4 : Below w0.heap.size w0 w4 := hx3.trans hb4; have F15 := (HH.on hx4).get 15 (.string m.val) rfl)
    | (go_at_call 33; (with_reducible refine (RW.out _).mono ?_); rintro e w5 ⟨A5, c5, rfl, hs5, hb5⟩; have hx5 : Below w0.heap.size w0 w5 := bt hx4 hb5)
    | (at_builtin; refine wpList_append8 (B := w0.heap.size) (l := La ++ [bit m.has, bit m.fresh] ++ Lc) (m := Ld) rfl (.tmp 44) (.tmp 47) 22 22 rfl 5 i0 Try.underlying22 hi0 hz0 hz1 hz2 (hr4.on hb5) hx5.size (hs5.src Try.underlying22) P3 rfl rfl ?_; intro v6 w6 hr6 hb6; have hx6 : Below w0.heap.size w0 w6 := hx5.trans hb6; have F16 := (HH.on hx6).get 16 (ver m.vr.1 m.vr.2) rfl)
    | (go_at_call 34; (with_reducible refine (RV.out _).mono ?_); rintro e w7 ⟨A7, c7, rfl, hs7, hb7⟩; have hx7 : Below w0.heap.size w0 w7 := bt hx6 hb7)
    | (at_builtin; refine wpList_append8 (B := w0.heap.size) (l := La ++ [bit m.has, bit m.fresh] ++ Lc ++ Ld) (m := Le) rfl (.tmp 49) (.tmp 52) 22 22 rfl 5 i0 Try.underlying22 hi0 hz0 hz1 hz2 (hr6.on hb7) hx7.size (hs7.src Try.underlying22) P4 rfl rfl ?_; intro v8 w8 hr8 hb8; have hx8 : Below w0.heap.size w0 w8 := hx7.trans hb8; have F17 := (HH.on hx8).get 17 (ver m.fl.1 m.fl.2) rfl)
    | (go_at_call 34; (with_reducible refine (RF.out _).mono ?_); rintro e w9 ⟨A9, c9, rfl, hs9, hb9⟩; have hx9 : Below w0.heap.size w0 w9 := bt hx8 hb9)
    | (at_builtin; refine wpList_append8 (B := w0.heap.size) (l := La ++ [bit m.has, bit m.fresh] ++ Lc ++ Ld ++ Le) (m := Lf) rfl (.tmp 54) (.tmp 57) 22 22 rfl 5 i0 Try.underlying22 hi0 hz0 hz1 hz2 (hr8.on hb9) hx9.size (hs9.src Try.underlying22) P5 rfl rfl ?_; intro v10 w10 hr10 hb10; have hx10 : Below w0.heap.size w0 w10 := hx9.trans hb10; have F18 := (HH.on hx10).get 18 (.int .i64 m.okd) rfl; have F19 := (HH.on hx10).get 19 (.string m.okey) rfl; have F20 := (HH.on hx10).get 20 (.string m.oval) rfl; have F21 := (HH.on hx10).get 21 (.string m.oold) rfl; have F22 := (HH.on hx10).get 22 (.bool m.ohas) rfl)
    | (go_at_call 35; (with_reducible refine (RO.out _).mono ?_); rintro e w11 ⟨A11, c11, rfl, hs11, hb11⟩; have hx11 : Below w0.heap.size w0 w11 := bt hx10 hb11)
    | (at_builtin; refine wpList_append8 (B := w0.heap.size) (l := La ++ [bit m.has, bit m.fresh] ++ Lc ++ Ld ++ Le ++ Lf) (m := Lg) rfl (.tmp 59) (.tmp 62) 22 22 rfl 5 i0 Try.underlying22 hi0 hz0 hz1 hz2 (hr10.on hb11) hx11.size (hs11.src Try.underlying22) P6 rfl rfl ?_; intro v12 w12 hr12 hb12; have hx12 : Below w0.heap.size w0 w12 := hx11.trans hb12; have F23 := (HH.on hx12).get 23 (.slice Ae m.ents.length ce) rfl)
    | (go_at_call 36; (with_reducible refine (RE.out _ (H1.out.on (hbw.trans (hx12.mono hbw.size)))).mono ?_); rintro e w13 ⟨A13, c13, rfl, hs13, hb13⟩; have hx13 : Below w0.heap.size w0 w13 := bt hx12 hb13)
    | (at_builtin; refine wpList_append8 (B := w0.heap.size) (l := La ++ [bit m.has, bit m.fresh] ++ Lc ++ Ld ++ Le ++ Lf ++ Lg) (m := Lh) rfl (.tmp 64) (.tmp 67) 22 22 rfl 5 i0 Try.underlying22 hi0 hz0 hz1 hz2 (hr12.on hb13) hx13.size (hs13.src Try.underlying22) P7 rfl rfl ?_; intro v14 w14 hr14 hb14; have hx14 : Below w0.heap.size w0 w14 := hx13.trans hb14; have F24 := (HH.on hx14).get 24 (.slice Ac m.chain.length cc) rfl)
    | (go_at_call 37; (with_reducible refine (RC.out _ (H2.out.on (hbw.trans (hx14.mono hbw.size)))).mono ?_); rintro e w15 ⟨A15, c15, rfl, hs15, hb15⟩; have hx15 : Below w0.heap.size w0 w15 := bt hx14 hb15)
    | (at_builtin; refine wpList_append8 (B := w0.heap.size) (l := La ++ [bit m.has, bit m.fresh] ++ Lc ++ Ld ++ Le ++ Lf ++ Lg ++ Lh) (m := Li) rfl (.tmp 69) (.tmp 72) 22 22 rfl 5 i0 Try.underlying22 hi0 hz0 hz1 hz2 (hr14.on hb15) hx15.size (hs15.src Try.underlying22) P8 rfl rfl ?_; intro v16 w16 hr16 hb16; have hx16 : Below w0.heap.size w0 w16 := hx15.trans hb16; have F25 := (HH.on hx16).get 25 (.slice Av m.vws.length cv') rfl)
    | (go_at_call 13; (with_reducible refine (RU.out _ (H3.out.on (hbw.trans (hx16.mono hbw.size)))).mono ?_); rintro e w17 ⟨A17, c17, rfl, hs17, hb17⟩; have hx17 : Below w0.heap.size w0 w17 := bt hx16 hb17)
    | (at_builtin; refine wpList_append8 (B := w0.heap.size) (l := La ++ [bit m.has, bit m.fresh] ++ Lc ++ Ld ++ Le ++ Lf ++ Lg ++ Lh ++ Li) (m := Lj) rfl (.tmp 74) (.tmp 77) 22 22 rfl 5 i0 Try.underlying22 hi0 hz0 hz1 hz2 (hr16.on hb17) hx17.size (hs17.src Try.underlying22) P9 rfl rfl ?_; intro v18 w18 hr18 hb18; have hx18 : Below w0.heap.size w0 w18 := hx17.trans hb18; have F26 := (HH.on hx18).get 26 (ver m.img.fl.1 m.img.fl.2) rfl; have F27 := (HH.on hx18).get 27 (ver m.img.la.1 m.img.la.2) rfl; have F28 := (HH.on hx18).get 28 (.int .i64 m.img.gen) rfl; have F29 := (HH.on hx18).get 29 (.slice Al m.img.log.length cl) rfl; have F30 := (HH.on hx18).get 30 (.slice As m.img.seen.length cs) rfl)
    | (go_at_call 12; (with_reducible refine (RI.out _ (H4.out.on (hbw.trans (hx18.mono hbw.size))) (H5.out.on (hbw.trans (hx18.mono hbw.size)))).mono ?_); rintro e w19 ⟨A19, c19, rfl, hs19, hb19⟩; have hx19 : Below w0.heap.size w0 w19 := bt hx18 hb19)
    | (at_builtin; refine wpList_append8 (B := w0.heap.size) (l := La ++ [bit m.has, bit m.fresh] ++ Lc ++ Ld ++ Le ++ Lf ++ Lg ++ Lh ++ Li ++ Lj) (m := Lk) rfl (.tmp 79) (.tmp 82) 22 22 rfl 5 i0 Try.underlying22 hi0 hz0 hz1 hz2 (hr18.on hb19) hx19.size (hs19.src Try.underlying22) P10 rfl rfl ?_; intro v20 w20 hr20 hb20; have hx20 : Below w0.heap.size w0 w20 := hx19.trans hb20))
  go_ret
  have hs9 := hr20.seen
  obtain ⟨A9, c9, rfl, hA9⟩ := hs9
  have HE : La ++ [bit m.has, bit m.fresh] ++ Lc ++ Ld ++ Le ++ Lf ++ Lg ++ Lh ++ Li ++ Lj ++ Lk = m.bytes := by rw [HB.out]; simp only [List.append_assoc]
  rw [HE] at hA9
  exact ⟨A9, c9, by rw [HE]; rfl, ⟨A9, c9, rfl, hA9⟩, bt hbw hx20⟩

end Go.Proofs.Ytfikailgjmgnbaa
