/-
  The document's own bytes of an operation, of an entry (made by gen_re.py).
  Kinds of fields: an operation's, an entry's; lists of structs in memory; the document's own bytes of numbers, of lists of entries.
  Lists of structs in memory; the document's own bytes of a list of entries.
-/
import Derived.Test.YtfikailgjmgnbaaZp05

namespace Go.Proofs.Ytfikailgjmgnbaa
open Go.RowKit Flo
attribute [local go_sem ↓] Go.wp_at_zero Go.wp_at_succ

/-- a block of the call's own that holds these values -/
def Held (g : Nat) (vs : List Value) (W : World) : Prop := g < W.heap.size ∧ ∀ i (h : i < vs.length), W.cell? ⟨g, i, none⟩ = some vs[i]
theorem Held.on {g : Nat} {vs : List Value} {W W' : World} (h : Held g vs W) (hb : Below W.heap.size W W') : Held g vs W' :=
  ⟨Nat.lt_of_lt_of_le h.1 hb.size, fun i hi => (World.cell?_of_block (a := ⟨g, i, none⟩) (hb.block g h.1)).trans (h.2 i hi)⟩
theorem held_made (w : World) (vs : List Value) (e : TypeId) : Held w.heap.size vs (w.alloc (.cells vs.toArray e)) :=
  ⟨by simp, fun i hi => by rw [World.cell?_alloc_new, List.getElem?_toArray]; exact List.getElem?_eq_getElem hi⟩
def cellsAre (g : Nat) (W : World) : Nat → List Value → Prop
  | _, [] => True
  | i, [v] => W.cell? ⟨g, i, none⟩ = some v
  | i, v :: vs => W.cell? ⟨g, i, none⟩ = some v ∧ cellsAre g W (i + 1) vs
theorem Held.from {g : Nat} {W : World} : ∀ (vs : List Value) (i : Nat), (∀ j (h : j < vs.length), W.cell? ⟨g, i + j, none⟩ = some vs[j]) → cellsAre g W i vs
  | [], _, _ => trivial
  | [v], i, h => h 0 (by simp)
  | v :: u :: vs, i, h => ⟨h 0 (by simp), Held.from (u :: vs) (i + 1) fun j hj => by
    have := h (j + 1) (by simp at hj ⊢; omega)
    rw [Nat.add_assoc, Nat.add_comm 1 j]
    exact this⟩
theorem Held.all {g : Nat} {vs : List Value} {W : World} (h : Held g vs W) : cellsAre g W 0 vs := Held.from vs 0 fun j hj => by rw [Nat.zero_add]; exact h.2 j hj

def Seens (w : World) : List Value → List (List UInt8) → Prop
  | [], [] => True
  | v :: vs, l :: ls => Seen w w.heap.size v l ∧ Seens w vs ls
  | _, _ => False
theorem Seens.len : ∀ {w : World} {vs : List Value} {ls : List (List UInt8)}, Seens w vs ls → vs.length = ls.length
  | _, [], [], _ => rfl
  | _, _ :: _, _ :: _, h => by rw [List.length_cons, List.length_cons, h.2.len]
  | _, [], _ :: _, h => h.elim
  | _, _ :: _, [], h => h.elim
theorem Seens.get : ∀ {w : World} {vs : List Value} {ls : List (List UInt8)}, Seens w vs ls → ∀ i (h : i < ls.length) (h' : i < vs.length), Seen w w.heap.size vs[i] ls[i]
  | _, v :: vs, l :: ls, hs, 0, _, _ => hs.1
  | _, v :: vs, l :: ls, hs, i + 1, h, h' => hs.2.get i (by simpa using h) (by simpa using h')
  | _, [], [], _, i, h, _ => absurd h (by simp)
  | _, [], _ :: _, hs, _, _, _ => hs.elim
  | _, _ :: _, [], hs, _, _, _ => hs.elim
theorem bit_len (f : Fld) (h : f.right) : f.bytes.length ≤ 1000000 := by
  cases f with
  | int n => have := wint_le h.1 h.2; show (wint n).length ≤ _; omega
  | text s =>
    have hs : s.size ≤ 65536 := h
    have := wint_le (n := (s.size : Int)) (by omega) (by omega)
    have hl : s.data.toList.length = s.size := by simp
    show (wint _ ++ _).length ≤ _
    rw [List.length_append, hl]; omega
  | truth b => show 1 ≤ _; omega
  | ver a b =>
    obtain ⟨⟨h0, h1⟩, h2, h3⟩ := h
    unfold M40 at h1 h3
    have e1 := wint_le (n := a) (by omega) (by omega)
    have e2 := wint_le (n := b) (by omega) (by omega)
    show (wint _ ++ wint _).length ≤ _
    rw [List.length_append]; omega
theorem cat_fields (w : World) (vs : List Value) (fs : List Fld) (n : Nat) (hn : vs.length = n) (h : Seens w vs (fs.map Fld.bytes)) (hl : n ≤ 1000) (hr : ∀ f ∈ fs, f.right) :
    Calls Try.prog 65 #[.slice (some ⟨w.heap.size, 0, none⟩) n n] (w.alloc (.cells vs.toArray 22)) (Tells (bytesOf fs) (w.alloc (.cells vs.toArray 22))) := by
  subst hn
  have := cat_any _ _ _ (many_made w vs (fs.map Fld.bytes) 22 h.len (by unfold maxLen; omega) h.get) (by rw [← h.len]; omega) (fun r hr' => by
    obtain ⟨f, hf, rfl⟩ := List.mem_map.1 hr'
    exact bit_len f (hr f hf))
  rw [flat_bytes] at this
  exact tells this

set_option maxRecDepth 100000 in
set_option maxHeartbeats 4000000 in
theorem rop_r (kd : Int) (key : ByteArray) (val : ByteArray) (old : ByteArray) (has : Bool) (w : World) (h1 : (Fld.int kd).right) (h2 : (Fld.text key).right) (h3 : (Fld.text val).right) (h4 : (Fld.text old).right) :
    Calls Try.prog 35 #[.agg #[.int .i64 kd, .string key, .string val, .string old, .bool has]] w (Tells (bytesOf [Fld.int kd, Fld.text key, Fld.text val, Fld.text old, Fld.truth has]) w) := by
  have R1 := Lib.hid (fun w => rint_r (n := kd) w h1)
  have R2 := Lib.hid (fun w => rtext_r (s := key) w h2)
  have R3 := Lib.hid (fun w => rtext_r (s := val) w h3)
  have R4 := Lib.hid (fun w => rtext_r (s := old) w h4)
  have R5 := Lib.hid (fun w => rtruth_r (b := has) w)
  have HR : Hid (∀ f ∈ [Fld.int kd, Fld.text key, Fld.text val, Fld.text old, Fld.truth has], f.right) := by
    intro f hf
    simp only [List.mem_cons, List.not_mem_nil, or_false] at hf
    rcases hf with rfl | rfl | rfl | rfl | rfl
    · exact h1
    · exact h2
    · exact h3
    · exact h4
    · exact trivial
  have HH := held_made w [.int .i64 kd, .string key, .string val, .string old, .bool has] 27
  have hbw := bal w (.cells #[.int .i64 kd, .string key, .string val, .string old, .bool has] 27)
  clear h1 h2 h3 h4
  go_enter Try.func35, Try.ntmps35
  go_wp2_with fail
  change Held w.heap.size _ (w.alloc (.cells #[.int .i64 kd, .string key, .string val, .string old, .bool has] 27)) at HH
  generalize w.alloc (.cells #[.int .i64 kd, .string key, .string val, .string old, .bool has] 27) = w0 at HH hbw ⊢
  obtain ⟨g, hg⟩ : ∃ g, g = w.heap.size := ⟨_, rfl⟩
  rw [← hg] at HH ⊢
  clear hg
  have hd : Below w0.heap.size w0 w0.drew := (Below.refl _ _).drew
  have H0 := HH.all
  have HD := (HH.on hd).all
  first | (go_region_held3 (fun W => W.cell? ⟨g, 0, none⟩ = some (.int .i64 kd) ∧ W.cell? ⟨g, 1, none⟩ = some (.string key) ∧ W.cell? ⟨g, 2, none⟩ = some (.string val) ∧ W.cell? ⟨g, 3, none⟩ = some (.string old) ∧ W.cell? ⟨g, 4, none⟩ = some (.bool has)) (first | exact H7 | exact H6 | exact H5 | exact H4 | exact H3 | exact H2 | exact H1 | exact HD | exact H0) (first
    | (go_at_call 41; (with_reducible refine (R1.out _).mono ?_); rintro e w1 ⟨A1, c1, rfl, hs1, hb1⟩; have hb0_1 : Below w0.heap.size w0 w1 := hd.trans hb1; have H1 := (HH.on hb0_1).all)
    | (go_at_call 33; (with_reducible refine (R2.out _).mono ?_); rintro e w2 ⟨A2, c2, rfl, hs2, hb2⟩; have hb0_2 := bt hb0_1 hb2; have H2 := (HH.on hb0_2).all)
    | (go_at_call 33; (with_reducible refine (R3.out _).mono ?_); rintro e w3 ⟨A3, c3, rfl, hs3, hb3⟩; have hb0_3 := bt hb0_2 hb3; have H3 := (HH.on hb0_3).all)
    | (go_at_call 33; (with_reducible refine (R4.out _).mono ?_); rintro e w4 ⟨A4, c4, rfl, hs4, hb4⟩; have hb0_4 := bt hb0_3 hb4; have H4 := (HH.on hb0_4).all)
    | (go_at_call 68; (with_reducible refine (R5.out _).mono ?_); rintro e w5 ⟨A5, c5, rfl, hs5, hb5⟩; have hb0_5 := bt hb0_4 hb5; have H5 := (HH.on hb0_5).all; have H6 := ((HH.on hb0_5).on (bal w5 (.cells #[.slice A1 (Fld.int kd).bytes.length c1, .slice A2 (Fld.text key).bytes.length c2, .slice A3 (Fld.text val).bytes.length c3, .slice A4 (Fld.text old).bytes.length c4, .slice A5 (Fld.truth has).bytes.length c5] 22))).all; have C1 := Lib.hid (cat_fields w5 [.slice A1 (Fld.int kd).bytes.length c1, .slice A2 (Fld.text key).bytes.length c2, .slice A3 (Fld.text val).bytes.length c3, .slice A4 (Fld.text old).bytes.length c4, .slice A5 (Fld.truth has).bytes.length c5] [Fld.int kd, Fld.text key, Fld.text val, Fld.text old, Fld.truth has] 5 rfl ⟨hs1.on (bt hb2 (bt hb3 (bt hb4 (hb5)))), hs2.on (bt hb3 (bt hb4 (hb5))), hs3.on (bt hb4 (hb5)), hs4.on (hb5), hs5, trivial⟩ (by decide) HR.out))
    | (go_at_call 65; (with_reducible refine (C1.out).mono ?_); rintro e w6 ⟨A6, c6, rfl, hs6, hb6⟩; have hb0_6 := bt hb0_5 (bt (bal w5 _) hb6); have H7 := (HH.on hb0_6).all))) | fail
  all_goals go_wp2
  all_goals go_ret
  all_goals exact ⟨_, _, rfl, hs6, bt hbw hb0_6⟩

set_option maxRecDepth 100000 in
set_option maxHeartbeats 4000000 in
theorem rentry_r (vr : Int × Int) (kd : Int) (key : ByteArray) (val : ByteArray) (wr : Bool) (dl : Bool) (se : Int) (nu : Int) (co : Int) (rs : ByteArray) (hr : Bool) (w : World) (h1 : (Fld.ver vr.1 vr.2).right) (h2 : (Fld.int kd).right) (h3 : (Fld.text key).right) (h4 : (Fld.text val).right) (h7 : (Fld.int se).right) (h8 : (Fld.int nu).right) (h9 : (Fld.int co).right) (h10 : (Fld.text rs).right) :
    Calls Try.prog 69 #[.agg #[ver vr.1 vr.2, .int .i64 kd, .string key, .string val, .bool wr, .bool dl, .int .i64 se, .int .i64 nu, .int .i64 co, .string rs, .bool hr]] w (Tells (bytesOf [Fld.ver vr.1 vr.2, Fld.int kd, Fld.text key, Fld.text val, Fld.truth wr, Fld.truth dl, Fld.int se, Fld.int nu, Fld.int co, Fld.text rs, Fld.truth hr]) w) := by
  have R1 := Lib.hid (fun w => rver_r (a := vr.1) (b := vr.2) w h1)
  have R2 := Lib.hid (fun w => rint_r (n := kd) w h2)
  have R3 := Lib.hid (fun w => rtext_r (s := key) w h3)
  have R4 := Lib.hid (fun w => rtext_r (s := val) w h4)
  have R5 := Lib.hid (fun w => rtruth_r (b := wr) w)
  have R6 := Lib.hid (fun w => rtruth_r (b := dl) w)
  have R7 := Lib.hid (fun w => rint_r (n := se) w h7)
  have R8 := Lib.hid (fun w => rint_r (n := nu) w h8)
  have R9 := Lib.hid (fun w => rint_r (n := co) w h9)
  have R10 := Lib.hid (fun w => rtext_r (s := rs) w h10)
  have R11 := Lib.hid (fun w => rtruth_r (b := hr) w)
  have HR : Hid (∀ f ∈ [Fld.ver vr.1 vr.2, Fld.int kd, Fld.text key, Fld.text val, Fld.truth wr, Fld.truth dl, Fld.int se, Fld.int nu, Fld.int co, Fld.text rs, Fld.truth hr], f.right) := by
    intro f hf
    simp only [List.mem_cons, List.not_mem_nil, or_false] at hf
    rcases hf with rfl | rfl | rfl | rfl | rfl | rfl | rfl | rfl | rfl | rfl | rfl
    · exact h1
    · exact h2
    · exact h3
    · exact h4
    · exact trivial
    · exact trivial
    · exact h7
    · exact h8
    · exact h9
    · exact h10
    · exact trivial
  have HH := held_made w [ver vr.1 vr.2, .int .i64 kd, .string key, .string val, .bool wr, .bool dl, .int .i64 se, .int .i64 nu, .int .i64 co, .string rs, .bool hr] 68
  have hbw := bal w (.cells #[ver vr.1 vr.2, .int .i64 kd, .string key, .string val, .bool wr, .bool dl, .int .i64 se, .int .i64 nu, .int .i64 co, .string rs, .bool hr] 68)
  clear h1 h2 h3 h4 h7 h8 h9 h10
  go_enter Try.func69, Try.ntmps69
  go_wp2_with fail
  change Held w.heap.size _ (w.alloc (.cells #[ver vr.1 vr.2, .int .i64 kd, .string key, .string val, .bool wr, .bool dl, .int .i64 se, .int .i64 nu, .int .i64 co, .string rs, .bool hr] 68)) at HH
  generalize w.alloc (.cells #[ver vr.1 vr.2, .int .i64 kd, .string key, .string val, .bool wr, .bool dl, .int .i64 se, .int .i64 nu, .int .i64 co, .string rs, .bool hr] 68) = w0 at HH hbw ⊢
  obtain ⟨g, hg⟩ : ∃ g, g = w.heap.size := ⟨_, rfl⟩
  rw [← hg] at HH ⊢
  clear hg
  have hd : Below w0.heap.size w0 w0.drew := (Below.refl _ _).drew
  have H0 := HH.all
  have HD := (HH.on hd).all
  first | (go_region_held3 (fun W => W.cell? ⟨g, 0, none⟩ = some (ver vr.1 vr.2) ∧ W.cell? ⟨g, 1, none⟩ = some (.int .i64 kd) ∧ W.cell? ⟨g, 2, none⟩ = some (.string key) ∧ W.cell? ⟨g, 3, none⟩ = some (.string val) ∧ W.cell? ⟨g, 4, none⟩ = some (.bool wr) ∧ W.cell? ⟨g, 5, none⟩ = some (.bool dl) ∧ W.cell? ⟨g, 6, none⟩ = some (.int .i64 se) ∧ W.cell? ⟨g, 7, none⟩ = some (.int .i64 nu) ∧ W.cell? ⟨g, 8, none⟩ = some (.int .i64 co) ∧ W.cell? ⟨g, 9, none⟩ = some (.string rs) ∧ W.cell? ⟨g, 10, none⟩ = some (.bool hr)) (first | exact H13 | exact H12 | exact H11 | exact H10 | exact H9 | exact H8 | exact H7 | exact H6 | exact H5 | exact H4 | exact H3 | exact H2 | exact H1 | exact HD | exact H0) (first
    | (go_at_call 34; (with_reducible refine (R1.out _).mono ?_); rintro e w1 ⟨A1, c1, rfl, hs1, hb1⟩; have hb0_1 : Below w0.heap.size w0 w1 := hd.trans hb1; have H1 := (HH.on hb0_1).all)
    | (go_at_call 41; (with_reducible refine (R2.out _).mono ?_); rintro e w2 ⟨A2, c2, rfl, hs2, hb2⟩; have hb0_2 := bt hb0_1 hb2; have H2 := (HH.on hb0_2).all)
    | (go_at_call 33; (with_reducible refine (R3.out _).mono ?_); rintro e w3 ⟨A3, c3, rfl, hs3, hb3⟩; have hb0_3 := bt hb0_2 hb3; have H3 := (HH.on hb0_3).all)
    | (go_at_call 33; (with_reducible refine (R4.out _).mono ?_); rintro e w4 ⟨A4, c4, rfl, hs4, hb4⟩; have hb0_4 := bt hb0_3 hb4; have H4 := (HH.on hb0_4).all)
    | (go_at_call 68; (with_reducible refine (R5.out _).mono ?_); rintro e w5 ⟨A5, c5, rfl, hs5, hb5⟩; have hb0_5 := bt hb0_4 hb5; have H5 := (HH.on hb0_5).all)
    | (go_at_call 68; (with_reducible refine (R6.out _).mono ?_); rintro e w6 ⟨A6, c6, rfl, hs6, hb6⟩; have hb0_6 := bt hb0_5 hb6; have H6 := (HH.on hb0_6).all)
    | (go_at_call 41; (with_reducible refine (R7.out _).mono ?_); rintro e w7 ⟨A7, c7, rfl, hs7, hb7⟩; have hb0_7 := bt hb0_6 hb7; have H7 := (HH.on hb0_7).all)
    | (go_at_call 41; (with_reducible refine (R8.out _).mono ?_); rintro e w8 ⟨A8, c8, rfl, hs8, hb8⟩; have hb0_8 := bt hb0_7 hb8; have H8 := (HH.on hb0_8).all)
    | (go_at_call 41; (with_reducible refine (R9.out _).mono ?_); rintro e w9 ⟨A9, c9, rfl, hs9, hb9⟩; have hb0_9 := bt hb0_8 hb9; have H9 := (HH.on hb0_9).all)
    | (go_at_call 33; (with_reducible refine (R10.out _).mono ?_); rintro e w10 ⟨A10, c10, rfl, hs10, hb10⟩; have hb0_10 := bt hb0_9 hb10; have H10 := (HH.on hb0_10).all)
    | (go_at_call 68; (with_reducible refine (R11.out _).mono ?_); rintro e w11 ⟨A11, c11, rfl, hs11, hb11⟩; have hb0_11 := bt hb0_10 hb11; have H11 := (HH.on hb0_11).all; have H12 := ((HH.on hb0_11).on (bal w11 (.cells #[.slice A1 (Fld.ver vr.1 vr.2).bytes.length c1, .slice A2 (Fld.int kd).bytes.length c2, .slice A3 (Fld.text key).bytes.length c3, .slice A4 (Fld.text val).bytes.length c4, .slice A5 (Fld.truth wr).bytes.length c5, .slice A6 (Fld.truth dl).bytes.length c6, .slice A7 (Fld.int se).bytes.length c7, .slice A8 (Fld.int nu).bytes.length c8, .slice A9 (Fld.int co).bytes.length c9, .slice A10 (Fld.text rs).bytes.length c10, .slice A11 (Fld.truth hr).bytes.length c11] 22))).all; have C1 := Lib.hid (cat_fields w11 [.slice A1 (Fld.ver vr.1 vr.2).bytes.length c1, .slice A2 (Fld.int kd).bytes.length c2, .slice A3 (Fld.text key).bytes.length c3, .slice A4 (Fld.text val).bytes.length c4, .slice A5 (Fld.truth wr).bytes.length c5, .slice A6 (Fld.truth dl).bytes.length c6, .slice A7 (Fld.int se).bytes.length c7, .slice A8 (Fld.int nu).bytes.length c8, .slice A9 (Fld.int co).bytes.length c9, .slice A10 (Fld.text rs).bytes.length c10, .slice A11 (Fld.truth hr).bytes.length c11] [Fld.ver vr.1 vr.2, Fld.int kd, Fld.text key, Fld.text val, Fld.truth wr, Fld.truth dl, Fld.int se, Fld.int nu, Fld.int co, Fld.text rs, Fld.truth hr] 11 rfl ⟨hs1.on (bt hb2 (bt hb3 (bt hb4 (bt hb5 (bt hb6 (bt hb7 (bt hb8 (bt hb9 (bt hb10 (hb11)))))))))), hs2.on (bt hb3 (bt hb4 (bt hb5 (bt hb6 (bt hb7 (bt hb8 (bt hb9 (bt hb10 (hb11))))))))), hs3.on (bt hb4 (bt hb5 (bt hb6 (bt hb7 (bt hb8 (bt hb9 (bt hb10 (hb11)))))))), hs4.on (bt hb5 (bt hb6 (bt hb7 (bt hb8 (bt hb9 (bt hb10 (hb11))))))), hs5.on (bt hb6 (bt hb7 (bt hb8 (bt hb9 (bt hb10 (hb11)))))), hs6.on (bt hb7 (bt hb8 (bt hb9 (bt hb10 (hb11))))), hs7.on (bt hb8 (bt hb9 (bt hb10 (hb11)))), hs8.on (bt hb9 (bt hb10 (hb11))), hs9.on (bt hb10 (hb11)), hs10.on (hb11), hs11, trivial⟩ (by decide) HR.out))
    | (go_at_call 65; (with_reducible refine (C1.out).mono ?_); rintro e w12 ⟨A12, c12, rfl, hs12, hb12⟩; have hb0_12 := bt hb0_11 (bt (bal w11 _) hb12); have H13 := (HH.on hb0_12).all))) | fail
  all_goals go_wp2
  all_goals go_ret
  all_goals exact ⟨_, _, rfl, hs12, bt hbw hb0_12⟩

end Go.Proofs.Ytfikailgjmgnbaa

namespace Go.Proofs.Ytfikailgjmgnbaa
open Go.RowKit Flo
attribute [local go_sem ↓] Go.wp_at_zero Go.wp_at_succ

@[go_sem] theorem run_store_complex {P : Program} (w : World) (a : Addr) (m : Mode) (k : FloatKind) (x y : Nat) : (store a (.complex k x y) m).run P w = stored P w a (.complex k x y) m := run_store P w a _ m rfl
@[go_sem] theorem run_store_ver {P : Program} (w : World) (a : Addr) (m : Mode) (x y : Int) : (store a (ver x y) m).run P w = stored P w a (ver x y) m := run_store P w a _ m rfl

def KE : List Knd := [.V, .I, .T, .T, .B, .B, .I, .I, .I, .T, .B]
def KO : List Knd := [.I, .T, .T, .T, .B]
def KM : List Knd := [.I, .I]
def KS : List Knd := [.I, .I, .V, .I, .I, .T, .B]
theorem kinds_op {fs : List Fld} (h : kinds fs = KO) : ∃ kd key val old has, fs = [.int kd, .text key, .text val, .text old, .truth has] := by
  match fs, h with
  | [.int kd, .text key, .text val, .text old, .truth has], _ => exact ⟨kd, key, val, old, has, rfl⟩
theorem kinds_en {fs : List Fld} (h : kinds fs = KE) : ∃ vr kd key val wr dl se nu co rs hr, fs = [.ver (Prod.fst vr) (Prod.snd vr), .int kd, .text key, .text val, .truth wr, .truth dl, .int se, .int nu, .int co, .text rs, .truth hr] := by
  match fs, h with
  | [.ver a b, .int kd, .text key, .text val, .truth wr, .truth dl, .int se, .int nu, .int co, .text rs, .truth hr], _ => exact ⟨(a, b), kd, key, val, wr, dl, se, nu, co, rs, hr, rfl⟩
theorem kinds_me {fs : List Fld} (h : kinds fs = KM) : ∃ a b, fs = [.int a, .int b] := by
  match fs, h with
  | [.int a, .int b], _ => exact ⟨a, b, rfl⟩
theorem kinds_se {fs : List Fld} (h : kinds fs = KS) : ∃ a b vr c d rs hr, fs = [.int a, .int b, .ver (Prod.fst vr) (Prod.snd vr), .int c, .int d, .text rs, .truth hr] := by
  match fs, h with
  | [.int a, .int b, .ver x y, .int c, .int d, .text rs, .truth hr], _ => exact ⟨a, b, (x, y), c, d, rs, hr, rfl⟩

/-- numbers in memory, one behind the other -/
def Nums (w : World) (v : Value) (ns : List Int) : Prop := ∃ A c, v = .slice A ns.length c ∧ ns.length ≤ c ∧ c ≤ maxLen ∧ (ns = [] ∨ ∃ b off, A = some ⟨b, off, none⟩ ∧ b < w.heap.size ∧ ∀ j (h : j < ns.length), w.cell? ⟨b, off + j, none⟩ = some (.int .i64 ns[j]))
theorem Nums.on {w w' : World} {v : Value} {ns : List Int} (h : Nums w v ns) (hb : Below w.heap.size w w') : Nums w' v ns := by
  obtain ⟨A, c, rfl, h1, h2, h3⟩ := h
  refine ⟨A, c, rfl, h1, h2, h3.imp id ?_⟩
  rintro ⟨b, off, rfl, hw, hr⟩
  exact ⟨b, off, rfl, Nat.lt_of_lt_of_le hw hb.size, fun j hj => (World.cell?_of_block (a := ⟨b, off + j, none⟩) (hb.block b hw)).trans (hr j hj)⟩
theorem nums_made (w : World) (ns : List Int) (e : TypeId) (n : Nat) (hn : ns.length = n) (hm : n ≤ maxLen) : Nums (w.alloc (.cells (ns.map (Value.int .i64)).toArray e)) (.slice (some ⟨w.heap.size, 0, none⟩) n n) ns := by
  subst hn
  refine ⟨_, ns.length, rfl, Nat.le_refl _, hm, .inr ⟨w.heap.size, 0, rfl, by simp, fun j hj => ?_⟩⟩
  rw [World.cell?_alloc_new, Nat.zero_add, List.getElem?_toArray, List.getElem?_map, List.getElem?_eq_getElem hj]
  rfl
theorem bytesOf_snoc (fs : List Fld) (f : Fld) : bytesOf (fs ++ [f]) = bytesOf fs ++ f.bytes := by
  induction fs with
  | nil => simp [bytesOf]
  | cons x t ih => rw [List.cons_append, bytesOf, bytesOf, ih, List.append_assoc]

set_option maxRecDepth 10000 in
set_option maxHeartbeats 400000 in
theorem numbers_any (v : Value) (ns : List Int) (w : World) (hv : Nums w v ns) (hf : ns.length ≤ 1000) (hr : ∀ n ∈ ns, (Fld.int n).right) :
    Calls Try.prog 31 #[v] w (Tells (bytesOf (ns.map .int)) w) := by
  obtain ⟨i0, hi0, hz0, hz1, hz2⟩ := info_parts byte_info
  have HM := Lib.hid hv
  obtain ⟨A, c, rfl, hlc, hcm, hA⟩ := hv
  have HR := Lib.hid hr
  clear hA hr
  refine tells ?_
  go_enter Try.func31, Try.ntmps31
  go_wp2
  go_loopw [3, 4] (fun o i wr => ∃ k : Nat, k ≤ ns.length ∧ i = .int .i64 (k : Int) ∧ Room wr w.heap.size o (bytesOf ((ns.take k).map .int)) ∧ (bytesOf ((ns.take k).map Fld.int)).length ≤ 10 * k ∧ Below w.heap.size w wr) (fun _ i _ => ns.length - (intOf i).toNat)
  case atStart => exact ⟨0, Nat.zero_le _, rfl, Room.nil, by simp [bytesOf], Below.refl _ _⟩
  case round =>
    obtain ⟨k, hk, rfl, hr', hlen, hb⟩ := hrel
    by_cases hlt : k < ns.length
    · obtain ⟨A', c', e, _, _, h3⟩ := HM.out.on hb
      injection e with e1 _ e3
      subst e1 e3
      rcases h3 with h3 | ⟨b, off, rfl, hbw, hcells⟩
      · rw [h3] at hlt; cases hlt
      have hcell := hcells k hlt
      have hri := HR.out _ (List.getElem_mem hlt)
      have HT := Lib.hid (show bytesOf ((ns.take (k + 1)).map .int) = bytesOf ((ns.take k).map .int) ++ (Fld.int ns[k]).bytes by rw [List.take_succ_eq_append_getElem hlt, List.map_append]; exact bytesOf_snoc _ _)
      have hle : (Fld.int ns[k]).bytes.length ≤ 10 := wint_le hri.1 hri.2
      have P1 : (bytesOf ((ns.take k).map Fld.int)).length + (Fld.int ns[k]).bytes.length ≤ 1099511627776 := by omega
      have i0' : (0 : Int) ≤ (k : Int) := by omega
      have i1 : (k : Int) < (ns.length : Int) := by omega
      have RI := Lib.hid (rint_r (n := ns[k]) wr hri)
      clear hcells hri
      go_wp2_with (first
        | (go_at_call 41; (with_reducible refine RI.out.mono ?_); rintro e w1 ⟨A1, c1, rfl, hs1, hb1⟩)
        | (at_builtin; refine wpList_append8 (B := w.heap.size) (l := bytesOf ((ns.take k).map .int)) (m := (Fld.int ns[k]).bytes) rfl (.tmp 11) (.tmp 16) 22 22 rfl 5 i0 Try.underlying22 hi0 hz0 hz1 hz2 (hr'.on hb1) (Nat.le_trans hb.size hb1.size) (hs1.src Try.underlying22) P1 rfl rfl ?_; intro v2 w2 hr2 hb2))
      go_roundw
      case rel => exact ⟨k + 1, by omega, by go_num, by rw [HT.out]; exact hr2, by rw [HT.out, List.length_append]; omega, hb.trans ((hb1.mono hb.size).trans hb2)⟩
      case measure => simp [intOf]; omega
    · have hkl : Hid (ns.take k = ns) := List.take_of_length_le (by omega)
      go_wp2
      go_ret
      exact ⟨_, rfl, by rw [hkl.out] at hr'; exact hr', hb⟩

end Go.Proofs.Ytfikailgjmgnbaa

namespace Go.Proofs.Ytfikailgjmgnbaa
open Go.RowKit Flo
attribute [local go_sem ↓] Go.wp_at_zero Go.wp_at_succ

/-- structs of n cells each in memory, one behind the other -/
def Structs (w : World) (v : Value) (n : Nat) (rows : List (List Value)) : Prop := ∃ A c, v = .slice A rows.length c ∧ rows.length ≤ c ∧ c ≤ maxLen ∧ (rows = [] ∨ ∃ b off, A = some ⟨b, off, none⟩ ∧ b < w.heap.size ∧ ∀ i (h : i < rows.length) j (h' : j < rows[i].length), w.cell? ⟨b, off + i * n + j, none⟩ = some rows[i][j])
theorem Structs.on {w w' : World} {v : Value} {n : Nat} {rows : List (List Value)} (h : Structs w v n rows) (hb : Below w.heap.size w w') : Structs w' v n rows := by
  obtain ⟨A, c, rfl, h1, h2, h3⟩ := h
  refine ⟨A, c, rfl, h1, h2, h3.imp id ?_⟩
  rintro ⟨b, off, rfl, hw, hr⟩
  exact ⟨b, off, rfl, Nat.lt_of_lt_of_le hw hb.size, fun i hi j hj => (World.cell?_of_block (a := ⟨b, off + i * n + j, none⟩) (hb.block b hw)).trans (hr i hi j hj)⟩
def cellsAt (b o : Nat) (W : World) : Nat → List Value → Prop
  | _, [] => True
  | j, [v] => W.cell? ⟨b, o + j, none⟩ = some v
  | j, v :: vs => W.cell? ⟨b, o + j, none⟩ = some v ∧ cellsAt b o W (j + 1) vs
theorem cellsAt_from {b o : Nat} {W : World} : ∀ (vs : List Value) (i : Nat), (∀ j (h : j < vs.length), W.cell? ⟨b, o + (i + j), none⟩ = some vs[j]) → cellsAt b o W i vs
  | [], _, _ => trivial
  | [v], i, h => h 0 (by simp)
  | v :: u :: vs, i, h => ⟨h 0 (by simp), cellsAt_from (u :: vs) (i + 1) fun j hj => by
    have := h (j + 1) (by simp at hj ⊢; omega)
    rw [Nat.add_assoc i, Nat.add_comm 1 j]
    exact this⟩
def vals (fs : List Fld) : List Value := fs.map Fld.val
/-- a list's bytes: how many, and each -/
def listB : List (List Fld) → List UInt8
  | [] => []
  | x :: t => bytesOf x ++ listB t
theorem listB_snoc (l : List (List Fld)) (x : List Fld) : listB (l ++ [x]) = listB l ++ bytesOf x := by
  induction l with
  | nil => simp [listB]
  | cons y t ih => rw [List.cons_append, listB, listB, ih, List.append_assoc]
theorem bytesOf_len : ∀ (fs : List Fld), (∀ f ∈ fs, f.right) → (bytesOf fs).length ≤ 1000000 * fs.length
  | [], _ => by simp [bytesOf]
  | f :: t, h => by
    have h1 := bit_len f (h f (by simp))
    have h2 := bytesOf_len t fun g hg => h g (by simp [hg])
    rw [bytesOf, List.length_append, List.length_cons]; omega

set_option maxRecDepth 100000 in
set_option maxHeartbeats 1000000 in
theorem entries_any (v : Value) (xs : List (List Fld)) (w : World) (hv : Structs w v 11 (xs.map vals)) (hf : xs.length ≤ 4096) (hk : ∀ x ∈ xs, kinds x = KE ∧ ∀ f ∈ x, f.right) :
    Calls Try.prog 36 #[v] w (Tells (wint (xs.length : Int) ++ listB xs) w) := by
  obtain ⟨i0, hi0, hz0, hz1, hz2⟩ := info_parts byte_info
  have HM := Lib.hid hv
  obtain ⟨A, c, rfl, hlc, hcm, hA⟩ := hv
  have HR := Lib.hid hk
  rw [List.length_map] at hlc ⊢
  have RN := Lib.hid (fun w => refint_any (xs.length : Int) w (by omega) (by omega))
  have hwn := wint_le (n := (xs.length : Int)) (by omega) (by omega)
  clear hA hk
  refine tells ?_
  go_enter Try.func36, Try.ntmps36
  go_wp2_with (go_at_call 41; (with_reducible refine (RN.out _).mono ?_); rintro e w0 ⟨v0, rfl, hr0, hb0⟩)
  go_loopw [3, 4] (fun o i wr => ∃ k : Nat, k ≤ xs.length ∧ i = .int .i64 (k : Int) ∧ Room wr w.heap.size o (wint (xs.length : Int) ++ listB (xs.take k)) ∧ (listB (xs.take k)).length ≤ 11000000 * k ∧ Below w.heap.size w wr) (fun _ i _ => xs.length - (intOf i).toNat)
  case atStart => exact ⟨0, Nat.zero_le _, rfl, by rw [List.take_zero, listB, List.append_nil]; exact hr0, by simp [listB], hb0⟩
  case round =>
    obtain ⟨k, hk, rfl, hr', hlen, hb⟩ := hrel
    by_cases hlt : k < xs.length
    · obtain ⟨A', c', e, _, _, h3⟩ := HM.out.on hb
      rw [List.length_map] at e
      injection e with e1 _ e3
      subst e1 e3
      rcases h3 with h3 | ⟨b, off, rfl, hbw, hcells⟩
      · rw [List.map_eq_nil_iff] at h3; rw [h3] at hlt; cases hlt
      obtain ⟨hk1, hk2⟩ := HR.out _ (List.getElem_mem hlt)
      have hlx : xs[k].length = 11 := by have := congrArg List.length hk1; simpa [kinds, KE] using this
      have hbl := bytesOf_len _ hk2
      rw [hlx] at hbl
      have HT := Lib.hid (show listB (xs.take (k + 1)) = listB (xs.take k) ++ bytesOf xs[k] by rw [List.take_succ_eq_append_getElem hlt, listB_snoc])
      have hc1 := cellsAt_from (b := b) (o := off + k * 11) (W := wr) (vals xs[k]) 0 (fun j hj => by
        rw [Nat.zero_add]
        have := hcells k (by rw [List.length_map]; exact hlt) j (by rw [List.getElem_map]; exact hj)
        rw [this]
        congr 1
        simp only [List.getElem_map])
      obtain ⟨L, hL⟩ : ∃ L, L = bytesOf xs[k] := ⟨_, rfl⟩
      rw [← hL] at HT hbl
      obtain ⟨vr, kd, key, val, wt, dl, se, nu, co, rs, hh, hx⟩ := kinds_en hk1
      rw [hx] at hc1 hL hk2
      have RE : Hid (Calls Try.prog 69 #[.agg #[ver vr.1 vr.2, .int .i64 kd, .string key, .string val, .bool wt, .bool dl, .int .i64 se, .int .i64 nu, .int .i64 co, .string rs, .bool hh]] wr (Tells L wr)) := by
        have := rentry_r vr kd key val wt dl se nu co rs hh wr (hk2 _ (by simp)) (hk2 _ (by simp)) (hk2 _ (by simp)) (hk2 _ (by simp)) (hk2 _ (by simp)) (hk2 _ (by simp)) (hk2 _ (by simp)) (hk2 _ (by simp))
        rw [hL]
        exact this
      simp only [vals, List.map_cons, List.map_nil, Fld.val, cellsAt, Nat.add_zero, Nat.reduceAdd] at hc1
      have P1 : (wint (xs.length : Int) ++ listB (xs.take k)).length + L.length ≤ 1099511627776 := by rw [List.length_append]; omega
      have i0' : (0 : Int) ≤ (k : Int) := by omega
      have i1 : (k : Int) < (xs.length : Int) := by omega
      clear hcells hk1 hk2 hx hL hlx hr0
      go_wp2_with (first
        | (go_at_call 69; (with_reducible refine RE.out.mono ?_); rintro e w1 ⟨A1, c1, rfl, hs1, hb1⟩)
        | (at_builtin; refine wpList_append8 (B := w.heap.size) (l := wint (xs.length : Int) ++ listB (xs.take k)) (m := L) rfl (.tmp 14) (.tmp 19) 22 22 rfl 5 i0 Try.underlying22 hi0 hz0 hz1 hz2 (hr'.on hb1) (Nat.le_trans hb.size hb1.size) (hs1.src Try.underlying22) P1 rfl rfl ?_; intro v2 w2 hr2 hb2))
      go_roundw
      case rel => exact ⟨k + 1, by omega, by go_num, by rw [HT.out, ← List.append_assoc]; exact hr2, by rw [HT.out, List.length_append]; omega, hb.trans ((hb1.mono hb.size).trans hb2)⟩
      case measure => simp [intOf]; omega
    · have hkl : Hid (xs.take k = xs) := List.take_of_length_le (by omega)
      go_wp2
      go_ret
      exact ⟨_, rfl, by rw [hkl.out] at hr'; exact hr', hb⟩

end Go.Proofs.Ytfikailgjmgnbaa
