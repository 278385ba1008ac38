/-
  The document's own sameness of messages; a whole struct read out of its block at once.
  MsgGets' walk, given what msg.Get comes to (made by msg-law-gen.py).
  MsgGets, of every input, given what msg.Get comes to; messages' bytes don't begin one another.
  What a reading of fields comes to (the part of entry's Lg0 that Kn has not).
  What entry.read comes to, of a field of kind I (made by entry-read-gen.py).
  What entry.read comes to, of a field of kind T (made by entry-read-gen.py).
-/
import Derived.Test.YtfikailgjmgnbaaZp09
import Derived.Deep.WholeRow
import Derived.Deep.MidRow
import Derived.Test.YtfikailgjmgnbaaZp06
import Derived.Deep.RegionWith

namespace Go.Proofs.Ytfikailgjmgnbaa
open Go.RowKit Flo
attribute [local go_sem ↓] Go.wp_at_zero Go.wp_at_succ

/-- the block's first cells -/
def wholeOf (W : World) (g n : Nat) : Array Value := ((List.range n).map fun j => (W.cell? ⟨g, j, none⟩).getD undef).toArray
def Wh (W : World) (g n : Nat) : Prop := ∀ j, j < n → (W.cell? ⟨g, j, none⟩).isSome = true
theorem run_whole {P : Program} (W : World) (g n : Nat) (h : Wh W g n) : (loadCellsFrom ⟨g, 0, none⟩ 0 n #[]).run P W = .ok (wholeOf W g n) W := by
  have := run_loadCells_list (P := P) W ⟨g, 0, none⟩ ((List.range n).map fun j => (W.cell? ⟨g, j, none⟩).getD undef) (fun j v hv => by
    obtain ⟨hj, e⟩ := List.getElem?_eq_some_iff.1 hv
    rw [List.length_map, List.length_range] at hj
    rw [Addr.add_lit, Nat.zero_add]
    have h2 := h j hj
    simp only [List.getElem_map, List.getElem_range] at e
    cases hc : W.cell? ⟨g, j, none⟩ with
    | none => rw [hc] at h2; cases h2
    | some u => rw [hc] at e; exact congrArg some e)
  rw [List.length_map, List.length_range] at this
  simpa [loadCells, wholeOf] using this
theorem Held.wh {g n : Nat} {vs : List Value} {W : World} (h : Held g vs W) (hn : vs.length = n) : Wh W g n := fun j hj => by rw [h.2 j (by omega)]; rfl
theorem Held.whole {g n : Nat} {vs : List Value} {W : World} (h : Held g vs W) (hn : vs.length = n) : wholeOf W g n = vs.toArray := by
  subst hn
  unfold wholeOf
  congr 1
  apply List.ext_getElem
  · simp
  · intro j h1 h2
    simp only [List.getElem_map, List.getElem_range]
    rw [h.2 j h2]
    rfl
/-- a message's load, opaque to the walk -/
def msgLoad (X : Value) : Sem Value := Instr.loadAt 35 X
theorem to_msgLoad (X : Value) : Instr.loadAt 35 X = msgLoad X := rfl
theorem msg_info : (Try.prog.info? 35).map (·.size) = some 31 := by kernel_rfl
theorem run_msgLoad (W : World) (g : Nat) (h : Wh W g 31) : (msgLoad (.pointer (some ⟨g, 0, none⟩))).run Try.prog W = .ok (.agg (wholeOf W g 31)) W := by
  have hl : (loadCells ⟨g, 0, none⟩ 31).run Try.prog W = .ok (wholeOf W g 31) W := by simpa [loadCells] using run_whole W g 31 h
  obtain ⟨i, hi, hz⟩ : ∃ i, Try.prog.info? 35 = some i ∧ i.size = 31 := by
    have := msg_info
    cases hq : Try.prog.info? 35 with
    | none => rw [hq] at this; cases this
    | some i => rw [hq] at this; exact ⟨i, rfl, Option.some.inj this⟩
  have ha : (isAgg 35).run Try.prog W = .ok true W := by simp [isAgg, run_underlying Try.underlying35]
  have hs : (sizeOf 35).run Try.prog W = .ok 31 W := by simp [sizeOf, typeInfo, hi, hz]
  unfold msgLoad
  simp only [Instr.loadAt, Instr.sureAddr, loadVar, Sem.run_bind, Sem.run_pure, Result.andThen_ok, ha, hs, hl, if_true]
attribute [local go_sem ↓] to_msgLoad
attribute [local go_sem] run_msgLoad

set_option maxRecDepth 100000 in
set_option maxHeartbeats 1000000 in
theorem rsame_of (vs us : List Value) (w : World) (h1 : vs.length = 31) (h2 : us.length = 31) (l m : List UInt8) (b : Bool) (hb : decide (l = m) = b)
    (R1 : ∀ W, Below w.heap.size w W → Calls Try.prog 9 #[.agg vs.toArray] W (Tells l W)) (R2 : ∀ W, Below w.heap.size w W → Calls Try.prog 9 #[.agg us.toArray] W (Tells m W)) :
    Calls Try.prog 7 #[.agg vs.toArray, .agg us.toArray] w fun e w' => e = .returned (.bool b) ∧ Below w.heap.size w w' := by
  have HB := Lib.hid hb
  have hbw := bal w (.cells vs.toArray 35)
  have HA := held_made w vs 35
  have HC := held_made (w.alloc (.cells vs.toArray 35)) us 35
  rw [show (w.alloc (.cells vs.toArray 35)).heap.size = w.heap.size + 1 by simp] at HC
  have HA2 := HA.on (bal _ (.cells us.toArray 35))
  have hb2 := bt hbw (bal (w.alloc (.cells vs.toArray 35)) (.cells us.toArray 35))
  have T1 := Lib.hid R1
  have T2 := Lib.hid R2
  have Q1 : Hid (∀ W, Held w.heap.size vs W → Wh W w.heap.size 31 ∧ wholeOf W w.heap.size 31 = vs.toArray) := fun W h => ⟨h.wh h1, h.whole h1⟩
  have Q2 : Hid (∀ W, Held (w.heap.size + 1) us W → Wh W (w.heap.size + 1) 31 ∧ wholeOf W (w.heap.size + 1) 31 = us.toArray) := fun W h => ⟨h.wh h2, h.whole h2⟩
  obtain ⟨cs, hcs⟩ : ∃ cs, cs = vs.toArray := ⟨_, rfl⟩
  obtain ⟨ds, hds⟩ : ∃ ds, ds = us.toArray := ⟨_, rfl⟩
  have k1 : cs.size = 31 := by rw [hcs]; simpa using h1
  have k2 : ds.size = 31 := by rw [hds]; simpa using h2
  rw [← hcs] at T1 Q1 HA2 HC hb2 ⊢
  rw [← hds] at T2 Q2 HA2 HC hb2 ⊢
  clear HA hbw R1 R2 hb hcs hds
  go_enter Try.func7, Try.ntmps7
  go_wp2_with fail
  generalize (w.alloc (.cells cs 35)).alloc (.cells ds 35) = w0 at HA2 HC hb2 ⊢
  obtain ⟨g, hg⟩ : ∃ g, g = w.heap.size := ⟨_, rfl⟩
  rw [← hg] at HA2 HC Q1 Q2 ⊢
  clear hg
  obtain ⟨g2, hg2⟩ : ∃ x, x = g + 1 := ⟨_, rfl⟩
  rw [← hg2] at HC Q2 ⊢
  clear hg2
  have hd : Below w0.heap.size w0 w0.drew := (Below.refl _ _).drew
  have K : Hid (∀ W, Below w0.heap.size w0 W → (Wh W g 31 ∧ wholeOf W g 31 = cs) ∧ (Wh W g2 31 ∧ wholeOf W g2 31 = ds)) := fun W h => ⟨Q1.out W (HA2.on h), Q2.out W (HC.on h)⟩
  clear HA2 HC Q1 Q2
  have H0 := K.out _ (Below.refl _ _)
  have HD := K.out _ hd
  first | (go_region_held3 (fun W => (Wh W g 31 ∧ wholeOf W g 31 = cs) ∧ (Wh W g2 31 ∧ wholeOf W g2 31 = ds)) (first | exact H3 | exact H2 | exact H1 | exact HD | exact H0) (first
    | (go_at_call 9; (with_reducible refine (T1.out _ (bt hb2 hd)).mono ?_); rintro e w1 ⟨A1, c1, rfl, hs1, hb1⟩; have hx1 : Below w0.heap.size w0 w1 := hd.trans hb1; have H1 := K.out _ hx1)
    | (go_at_call 9; (with_reducible refine (T2.out _ (bt hb2 hx1)).mono ?_); rintro e w2 ⟨A2, c2, rfl, hs2, hb2'⟩; have hx2 := bt hx1 hb2'; have H2 := K.out _ hx2)
    | (go_at_call 8; (with_reducible refine (same_is _ (hs1.on hb2') hs2 HB.out).mono ?_); rintro e w3 ⟨rfl, hb3⟩; have hx3 := bt hx2 hb3; have H3 := K.out _ hx3))) | fail
  all_goals go_wp2
  all_goals go_ret
  all_goals exact ⟨rfl, bt hb2 hx3⟩

end Go.Proofs.Ytfikailgjmgnbaa

namespace Go.Proofs.Ytfikailgjmgnbaa
open Go.RowKit Flo
attribute [local go_sem ↓] Go.wp_at_zero Go.wp_at_succ

theorem ver00 : ver 0 0 = .complex .f64 0 0 := by
  have h : F 0 = 0 := by decide +kernel
  show Value.complex .f64 (F 0) (F 0) = _
  rw [h]
def zimg : Img := ⟨(0, 0), (0, 0), 0, [], []⟩
def zmsg : MsgD := ⟨fun _ => 0, false, false, ⟨#[]⟩, ⟨#[]⟩, (0, 0), (0, 0), 0, ⟨#[]⟩, ⟨#[]⟩, ⟨#[]⟩, false, [], [], [], zimg⟩
theorem r_int : (Fld.int 0).right := ⟨by omega, by omega⟩
theorem r_ver : (Fld.ver 0 0).right := ⟨⟨by decide, by decide⟩, by decide, by decide⟩
theorem r_text : (Fld.text ⟨#[]⟩).right := (by decide : (0 : Nat) ≤ 65536)
theorem wint0 : wint 0 = [0] := by
  show enc 0 = _
  rw [enc_small (by omega)]; rfl
theorem b_int : (Fld.int 0).bytes = [0] := wint0
theorem b_ver : (Fld.ver 0 0).bytes = [0, 0] := by show wint 0 ++ wint 0 = _; rw [wint0]; rfl
theorem b_none : (Fld.text ⟨#[]⟩).bytes = [0] := by show wint 0 ++ [] = _; rw [wint0]; rfl
theorem b_ent : entB [] = [0] := by show wint 0 ++ [] = _; rw [wint0]; rfl
theorem b_vws : vwsB [] = [0] := by show wint 0 ++ [] = _; rw [wint0]; rfl
theorem zimg_right : zimg.right := ⟨r_ver, r_ver, r_int, by decide, by decide, (fun _ h => by cases h), (fun _ h => by cases h)⟩
theorem zmsg_bytes : zmsg.bytes.length ≤ 100000000000 := by
  have e : zmsg.bytes = bytesOf [.int 0, .int 0, .int 0, .int 0, .int 0, .int 0, .int 0, .int 0, .int 0, .int 0, .int 0, .int 0] ++ ([0, 0] ++ ((Fld.text ⟨#[]⟩).bytes ++ ((Fld.text ⟨#[]⟩).bytes ++ ((Fld.ver 0 0).bytes ++ ((Fld.ver 0 0).bytes ++ (bytesOf [.int 0, .text ⟨#[]⟩, .text ⟨#[]⟩, .text ⟨#[]⟩, .truth false] ++ (entB [] ++ (entB [] ++ (vwsB [] ++ ((Fld.ver 0 0).bytes ++ ((Fld.ver 0 0).bytes ++ ((Fld.int 0).bytes ++ (entB [] ++ entB []))))))))))))) := rfl
  rw [e]
  simp only [bytesOf, b_int, b_ver, b_none, b_ent, b_vws]
  decide
theorem zmsg_right : zmsg.right := by
  refine ⟨fun n hn => ?_, r_text, r_text, r_ver, r_ver, fun f hf => ?_, by decide, by decide, by decide, (fun _ h => by cases h), (fun _ h => by cases h), (fun _ h => by cases h), zimg_right, zmsg_bytes⟩
  · have : n = 0 := by
      simp only [MsgD.nums, zmsg, List.mem_cons, List.not_mem_nil, or_false] at hn
      rcases hn with h | h | h | h | h | h | h | h | h | h | h | h <;> exact h
    rw [this]; exact r_int
  · simp only [MsgD.op, zmsg, List.mem_cons, List.not_mem_nil, or_false] at hf
    rcases hf with rfl | rfl | rfl | rfl | rfl
    · exact r_int
    · exact r_text
    · exact r_text
    · exact r_text
    · exact trivial
theorem structs_nil (w : World) (n : Nat) : Structs w (.slice none 0 0) n [] := ⟨none, 0, rfl, Nat.le_refl _, Nat.zero_le _, .inl rfl⟩
theorem zmsg_lies (w : World) : zmsg.lies w (.slice none 0 0) (.slice none 0 0) (.slice none 0 0) (.slice none 0 0) (.slice none 0 0) :=
  ⟨structs_nil w _, structs_nil w _, ⟨none, 0, rfl, Nat.le_refl _, Nat.zero_le _, .inl rfl⟩, structs_nil w _, structs_nil w _⟩
theorem zmsg_any (w : World) : Calls Try.prog 9 #[.agg #[.int .i64 0, .int .i64 0, .int .i64 0, .int .i64 0, .int .i64 0, .int .i64 0, .int .i64 0, .int .i64 0, .int .i64 0, .int .i64 0, .int .i64 0, .int .i64 0, .bool false, .bool false, .string ⟨#[]⟩, .string ⟨#[]⟩, .complex .f64 0 0, .complex .f64 0 0, .int .i64 0, .string ⟨#[]⟩, .string ⟨#[]⟩, .string ⟨#[]⟩, .bool false, .slice none 0 0, .slice none 0 0, .slice none 0 0, .complex .f64 0 0, .complex .f64 0 0, .int .i64 0, .slice none 0 0, .slice none 0 0]] w (Tells zmsg.bytes w) := by
  have h := msg_any zmsg _ _ _ _ _ w (zmsg_lies w) zmsg_right
  unfold MsgD.val_ at h
  simp only [zmsg, zimg, ver00] at h
  exact h


def zrow : List Value := [.int .i64 0, .int .i64 0, .int .i64 0, .int .i64 0, .int .i64 0, .int .i64 0, .int .i64 0, .int .i64 0, .int .i64 0, .int .i64 0, .int .i64 0, .int .i64 0, .bool false, .bool false, .string ⟨#[]⟩, .string ⟨#[]⟩, .complex .f64 0 0, .complex .f64 0 0, .int .i64 0, .string ⟨#[]⟩, .string ⟨#[]⟩, .string ⟨#[]⟩, .bool false, .slice none 0 0, .slice none 0 0, .slice none 0 0, .complex .f64 0 0, .complex .f64 0 0, .int .i64 0, .slice none 0 0, .slice none 0 0]
theorem rsame_zero (w : World) : Calls Try.prog 7 #[.agg #[.int .i64 0, .int .i64 0, .int .i64 0, .int .i64 0, .int .i64 0, .int .i64 0, .int .i64 0, .int .i64 0, .int .i64 0, .int .i64 0, .int .i64 0, .int .i64 0, .bool false, .bool false, .string ⟨#[]⟩, .string ⟨#[]⟩, .complex .f64 0 0, .complex .f64 0 0, .int .i64 0, .string ⟨#[]⟩, .string ⟨#[]⟩, .string ⟨#[]⟩, .bool false, .slice none 0 0, .slice none 0 0, .slice none 0 0, .complex .f64 0 0, .complex .f64 0 0, .int .i64 0, .slice none 0 0, .slice none 0 0], .agg #[.int .i64 0, .int .i64 0, .int .i64 0, .int .i64 0, .int .i64 0, .int .i64 0, .int .i64 0, .int .i64 0, .int .i64 0, .int .i64 0, .int .i64 0, .int .i64 0, .bool false, .bool false, .string ⟨#[]⟩, .string ⟨#[]⟩, .complex .f64 0 0, .complex .f64 0 0, .int .i64 0, .string ⟨#[]⟩, .string ⟨#[]⟩, .string ⟨#[]⟩, .bool false, .slice none 0 0, .slice none 0 0, .slice none 0 0, .complex .f64 0 0, .complex .f64 0 0, .int .i64 0, .slice none 0 0, .slice none 0 0]] w fun e w' => e = .returned (.bool true) ∧ Below w.heap.size w w' :=
  rsame_of zrow zrow w rfl rfl zmsg.bytes zmsg.bytes true (decide_eq_true rfl) (fun W _ => zmsg_any W) (fun W _ => zmsg_any W)

/-- a message's store, opaque to the walk -/
def msgStore (X Y : Value) : Sem Unit := Instr.storeAt 35 X Y
theorem to_msgStore (X Y : Value) : Instr.storeAt 35 X Y = msgStore X Y := rfl
def Ones (cs : Array Value) : Prop := cs.size = 31 ∧ cs.all (·.oneCell') = true
theorem run_msgStore (w : World) (cs : Array Value) (h : Ones cs) :
    (msgStore (.pointer (some ⟨w.heap.size, 0, none⟩)) (.agg cs)).run Try.prog (w.alloc (.cells #[.int .i64 0, .int .i64 0, .int .i64 0, .int .i64 0, .int .i64 0, .int .i64 0, .int .i64 0, .int .i64 0, .int .i64 0, .int .i64 0, .int .i64 0, .int .i64 0, .bool false, .bool false, .string ⟨#[]⟩, .string ⟨#[]⟩, .complex .f64 0 0, .complex .f64 0 0, .int .i64 0, .string ⟨#[]⟩, .string ⟨#[]⟩, .string ⟨#[]⟩, .bool false, .slice none 0 0, .slice none 0 0, .slice none 0 0, .complex .f64 0 0, .complex .f64 0 0, .int .i64 0, .slice none 0 0, .slice none 0 0] 35)) = .ok () (w.alloc (.cells cs 35)) :=
  run_storeAt_new w 35 #[.int .i64 0, .int .i64 0, .int .i64 0, .int .i64 0, .int .i64 0, .int .i64 0, .int .i64 0, .int .i64 0, .int .i64 0, .int .i64 0, .int .i64 0, .int .i64 0, .bool false, .bool false, .string ⟨#[]⟩, .string ⟨#[]⟩, .complex .f64 0 0, .complex .f64 0 0, .int .i64 0, .string ⟨#[]⟩, .string ⟨#[]⟩, .string ⟨#[]⟩, .bool false, .slice none 0 0, .slice none 0 0, .slice none 0 0, .complex .f64 0 0, .complex .f64 0 0, .int .i64 0, .slice none 0 0, .slice none 0 0] cs (by rw [msg_info, h.1]) (by rw [h.1]; rfl) h.2
theorem zrow_ones : Ones #[.int .i64 0, .int .i64 0, .int .i64 0, .int .i64 0, .int .i64 0, .int .i64 0, .int .i64 0, .int .i64 0, .int .i64 0, .int .i64 0, .int .i64 0, .int .i64 0, .bool false, .bool false, .string ⟨#[]⟩, .string ⟨#[]⟩, .complex .f64 0 0, .complex .f64 0 0, .int .i64 0, .string ⟨#[]⟩, .string ⟨#[]⟩, .string ⟨#[]⟩, .bool false, .slice none 0 0, .slice none 0 0, .slice none 0 0, .complex .f64 0 0, .complex .f64 0 0, .int .i64 0, .slice none 0 0, .slice none 0 0] := ⟨rfl, by decide +kernel⟩
attribute [local go_sem ↓] to_msgLoad to_msgStore
attribute [local go_sem] run_msgLoad run_msgStore

def AwakeOk : Prop := ∀ w : World, Calls Try.prog 5 #[] w fun e w' => e = .returned (.bool true) ∧ Below w.heap.size w w'
/-- msg.Get: the message whose bytes these are, in new memory; or Msg{} and false, if there is none -/
def GetOk : Prop := ∀ (w : World) (v : Value) (l : List UInt8), Seen w w.heap.size v l → l.length ≤ 6000 → Calls Try.prog 6 #[v] w fun e w' => Below w.heap.size w w' ∧
  ((∃ (m : MsgD) (vs : List Value) (ev cv vv lv sv : Value), m.right ∧ m.bytes = l ∧ m.lies w' ev cv vv lv sv ∧ m.val_ ev cv vv lv sv = .agg vs.toArray ∧ e = .returned (.tuple #[.agg vs.toArray, .bool true])) ∨
   ((¬ ∃ m : MsgD, m.right ∧ m.bytes = l) ∧ e = .returned (.tuple #[.agg #[.int .i64 0, .int .i64 0, .int .i64 0, .int .i64 0, .int .i64 0, .int .i64 0, .int .i64 0, .int .i64 0, .int .i64 0, .int .i64 0, .int .i64 0, .int .i64 0, .bool false, .bool false, .string ⟨#[]⟩, .string ⟨#[]⟩, .complex .f64 0 0, .complex .f64 0 0, .int .i64 0, .string ⟨#[]⟩, .string ⟨#[]⟩, .string ⟨#[]⟩, .bool false, .slice none 0 0, .slice none 0 0, .slice none 0 0, .complex .f64 0 0, .complex .f64 0 0, .int .i64 0, .slice none 0 0, .slice none 0 0], .bool false])))
theorem MsgD.lies.on {m : MsgD} {w w' : World} {ev cv vv lv sv : Value} (h : m.lies w ev cv vv lv sv) (hb : Below w.heap.size w w') : m.lies w' ev cv vv lv sv :=
  ⟨h.1.on hb, h.2.1.on hb, h.2.2.1.on hb, h.2.2.2.1.on hb, h.2.2.2.2.on hb⟩
theorem structs_one {w : World} {v : Value} {n : Nat} {rows : List (List Value)} (h : Structs w v n rows) : v.oneCell' = true := by obtain ⟨A, c, rfl, _⟩ := h; rfl
theorem views_one {w : World} {v : Value} {xs : List View} (h : ViewsAt w v xs) : v.oneCell' = true := by obtain ⟨A, c, rfl, _⟩ := h; rfl
theorem msg_cells {m : MsgD} {w : World} {ev cv vv lv sv : Value} {vs : List Value} (h : m.lies w ev cv vv lv sv) (e : m.val_ ev cv vv lv sv = .agg vs.toArray) : vs.length = 31 ∧ vs.toArray.all (·.oneCell') = true := by
  unfold MsgD.val_ at e
  injection e with e
  obtain ⟨h1, h2, h3, h4, h5⟩ := h
  have o1 := structs_one h1
  have o2 := structs_one h2
  have o3 := views_one h3
  have o4 := structs_one h4
  have o5 := structs_one h5
  have hl : vs.length = vs.toArray.size := by simp
  rw [hl, ← e]
  refine ⟨rfl, all_oneCell_toArray fun v hv => ?_⟩
  simp only [List.mem_cons, List.not_mem_nil, or_false] at hv
  rcases hv with rfl | rfl | rfl | rfl | rfl | rfl | rfl | rfl | rfl | rfl | rfl | rfl | rfl | rfl | rfl | rfl | rfl | rfl | rfl | rfl | rfl | rfl | rfl | rfl | rfl | rfl | rfl | rfl | rfl | rfl | rfl
  all_goals first | rfl | assumption

set_option maxRecDepth 100000 in
set_option maxHeartbeats 1000000 in
theorem gets_walk (AW : AwakeOk) (GE : GetOk) (v : Value) (l : List UInt8) (w : World) (hv : Seen w w.heap.size v l) (hl : l.length ≤ 5000) :
    Calls Try.prog 3 #[v] w fun e w' => e = .returned (.bool true) ∧ Below w.heap.size w w' := by
  have HS := Lib.hid hv
  have HAW := Lib.hid AW
  obtain ⟨A, c, rfl, hA⟩ := hv
  clear hA
  have G := Lib.hid (fun W (h : Seen W W.heap.size (.slice A l.length c) l) => GE W _ l h (by omega))
  have hlI : (l.length : Int) ≤ 5000 := by omega
  have RZ := Lib.hid rsame_zero
  clear AW GE
  go_enter Try.func3, Try.ntmps3
  go_wp2_with fail
  (go_at_call 5; refine (HAW.out _).mono ?_; rintro e w0 ⟨rfl, hb0⟩)
  go_wp2_with fail
  go_at_call 6
  refine (G.out _ (HS.out.on hb0)).mono ?_
  rintro e w1 ⟨hb1, ⟨m, vs, ev, cv, vv, lv, sv, hm, hmb, hml, hmv, rfl⟩ | ⟨_, rfl⟩⟩
  · obtain ⟨q1, q2⟩ := msg_cells hml hmv
    obtain ⟨cs, hcs⟩ : ∃ cs, cs = vs.toArray := ⟨_, rfl⟩
    have hb2 := bal w1 (.cells cs 35)
    have HH := held_made w1 vs 35
    rw [← hcs] at HH
    have K1 := HH.wh q1
    have K2 := HH.whole q1
    rw [← hcs] at K2
    have k1 : Ones cs := ⟨by rw [hcs]; simpa using q1, by rw [hcs]; exact q2⟩
    have T : Hid (Calls Try.prog 9 #[.agg cs] (w1.alloc (.cells cs 35)) (Tells l (w1.alloc (.cells cs 35)))) := by
      have := msg_any m ev cv vv lv sv (w1.alloc (.cells cs 35)) (hml.on hb2) hm
      rw [hmv, hmb, ← hcs] at this
      exact this
    clear hm hmb hml hmv q1 q2 HH
    rw [← hcs]
    clear hcs
    go_wp2_with (first
      | (go_at_call 9; (with_reducible refine T.out.mono ?_); rintro e w2 ⟨A2, c2, rfl, hs2, hb2'⟩)
      | (go_at_call 8; (with_reducible refine (same_yes _ hs2 (HS.out.on (bt hb0 (bt hb1 (bt hb2 hb2'))))).mono ?_); rintro e w3 ⟨rfl, hb3⟩))
    go_ret
    exact ⟨rfl, bt hb0 (bt hb1 (bt hb2 (bt hb2' hb3)))⟩
  · have k1 := zrow_ones
    have hb2 := bal w1 (.cells #[.int .i64 0, .int .i64 0, .int .i64 0, .int .i64 0, .int .i64 0, .int .i64 0, .int .i64 0, .int .i64 0, .int .i64 0, .int .i64 0, .int .i64 0, .int .i64 0, .bool false, .bool false, .string ⟨#[]⟩, .string ⟨#[]⟩, .complex .f64 0 0, .complex .f64 0 0, .int .i64 0, .string ⟨#[]⟩, .string ⟨#[]⟩, .string ⟨#[]⟩, .bool false, .slice none 0 0, .slice none 0 0, .slice none 0 0, .complex .f64 0 0, .complex .f64 0 0, .int .i64 0, .slice none 0 0, .slice none 0 0] 35)
    have HH := held_made w1 zrow 35
    have K1 : Wh (w1.alloc (.cells #[.int .i64 0, .int .i64 0, .int .i64 0, .int .i64 0, .int .i64 0, .int .i64 0, .int .i64 0, .int .i64 0, .int .i64 0, .int .i64 0, .int .i64 0, .int .i64 0, .bool false, .bool false, .string ⟨#[]⟩, .string ⟨#[]⟩, .complex .f64 0 0, .complex .f64 0 0, .int .i64 0, .string ⟨#[]⟩, .string ⟨#[]⟩, .string ⟨#[]⟩, .bool false, .slice none 0 0, .slice none 0 0, .slice none 0 0, .complex .f64 0 0, .complex .f64 0 0, .int .i64 0, .slice none 0 0, .slice none 0 0] 35)) w1.heap.size 31 := HH.wh rfl
    have K2 : wholeOf (w1.alloc (.cells #[.int .i64 0, .int .i64 0, .int .i64 0, .int .i64 0, .int .i64 0, .int .i64 0, .int .i64 0, .int .i64 0, .int .i64 0, .int .i64 0, .int .i64 0, .int .i64 0, .bool false, .bool false, .string ⟨#[]⟩, .string ⟨#[]⟩, .complex .f64 0 0, .complex .f64 0 0, .int .i64 0, .string ⟨#[]⟩, .string ⟨#[]⟩, .string ⟨#[]⟩, .bool false, .slice none 0 0, .slice none 0 0, .slice none 0 0, .complex .f64 0 0, .complex .f64 0 0, .int .i64 0, .slice none 0 0, .slice none 0 0] 35)) w1.heap.size 31 = #[.int .i64 0, .int .i64 0, .int .i64 0, .int .i64 0, .int .i64 0, .int .i64 0, .int .i64 0, .int .i64 0, .int .i64 0, .int .i64 0, .int .i64 0, .int .i64 0, .bool false, .bool false, .string ⟨#[]⟩, .string ⟨#[]⟩, .complex .f64 0 0, .complex .f64 0 0, .int .i64 0, .string ⟨#[]⟩, .string ⟨#[]⟩, .string ⟨#[]⟩, .bool false, .slice none 0 0, .slice none 0 0, .slice none 0 0, .complex .f64 0 0, .complex .f64 0 0, .int .i64 0, .slice none 0 0, .slice none 0 0] := HH.whole rfl
    clear HH
    go_wp2_with (go_at_call 7; (with_reducible refine (RZ.out _).mono ?_); rintro e w2 ⟨rfl, hb2'⟩)
    go_ret
    exact ⟨rfl, bt hb0 (bt hb1 (bt hb2 hb2'))⟩

end Go.Proofs.Ytfikailgjmgnbaa

namespace Go.Proofs.Ytfikailgjmgnbaa
open Go.RowKit Flo
attribute [local go_sem ↓] Go.wp_at_zero Go.wp_at_succ

set_option maxRecDepth 100000 in
theorem gets_law (AW : AwakeOk) (GE : GetOk) (v : Value) (l : List UInt8) (w : World) (hv : Seen w w.heap.size v l) :
    Calls Try.prog 3 #[v] w fun e w' => e = .returned (.bool true) ∧ Below w.heap.size w w' := by
  by_cases h : l.length ≤ 5000
  · exact gets_walk AW GE v l w hv h
  · have HAW := Lib.hid AW
    obtain ⟨A, c, rfl, _⟩ := hv
    have h' : (5000 : Int) < (l.length : Int) := by omega
    clear h AW GE
    go_enter Try.func3, Try.ntmps3
    go_wp2_with fail
    (go_at_call 5; refine (HAW.out _).mono ?_; rintro e w0 ⟨rfl, hb0⟩)
    go_wp2_with fail
    (go_at_call 5; refine (HAW.out _).mono ?_; rintro e w1 ⟨rfl, hb1⟩)
    go_wp2_with fail
    go_ret
    exact ⟨rfl, bt hb0 hb1⟩

/-- bytes that don't begin one another: what is written is read in one way -/
def Apart {α : Type} (f : α → List UInt8) (R : α → Prop) : Prop := ∀ a b x y, R a → R b → f a ++ x = f b ++ y → a = b ∧ x = y
theorem cat_inj {a b c d : List UInt8} (h : a ++ b = c ++ d) (hl : a = c) : b = d := by subst hl; exact List.append_cancel_left h
theorem fields_apart (ks : List Knd) : Apart bytesOf (fun fs => kinds fs = ks ∧ ∀ f ∈ fs, f.right) := by
  rintro a b x y ⟨ka, ra⟩ ⟨kb, rb⟩ h
  have h1 := gets_bytes a x ra
  have h2 := gets_bytes b y rb
  rw [ka, h] at h1
  rw [kb, h1] at h2
  obtain ⟨e1, _⟩ := Prod.mk.inj (Option.some.inj h2)
  exact ⟨e1, cat_inj h (by rw [e1])⟩
theorem field_apart (K : Knd) : Apart Fld.bytes (fun f => f.knd = K ∧ f.right) := by
  rintro a b x y ⟨ka, ra⟩ ⟨kb, rb⟩ h
  have h1 := fget_bytes ra x
  have h2 := fget_bytes rb y
  rw [ka, h] at h1
  rw [kb, h1] at h2
  obtain ⟨e1, _⟩ := Prod.mk.inj (Option.some.inj h2)
  exact ⟨e1, cat_inj h (by rw [e1])⟩
/-- a list of things whose bytes don't begin one another, its length ahead -/
def catL {α : Type} (f : α → List UInt8) : List α → List UInt8
  | [] => []
  | a :: t => f a ++ catL f t
theorem list_apart {α : Type} {f : α → List UInt8} {R : α → Prop} (hf : Apart f R) : ∀ (a b : List α) (x y : List UInt8), a.length = b.length → (∀ z ∈ a, R z) → (∀ z ∈ b, R z) → catL f a ++ x = catL f b ++ y → a = b ∧ x = y
  | [], [], x, y, _, _, _, h => ⟨rfl, h⟩
  | [], _ :: _, _, _, hl, _, _, _ => by simp at hl
  | _ :: _, [], _, _, hl, _, _, _ => by simp at hl
  | a :: s, b :: t, x, y, hl, ha, hb, h => by
    rw [catL, catL, List.append_assoc, List.append_assoc] at h
    obtain ⟨e1, e2⟩ := hf a b _ _ (ha a (by simp)) (hb b (by simp)) h
    obtain ⟨e3, e4⟩ := list_apart hf s t x y (by simpa using hl) (fun z hz => ha z (by simp [hz])) (fun z hz => hb z (by simp [hz])) e2
    exact ⟨by rw [e1, e3], e4⟩
theorem listB_catL : ∀ xs, listB xs = catL bytesOf xs
  | [] => rfl
  | x :: t => by rw [listB, catL, listB_catL t]
theorem viewsB_catL : ∀ xs, viewsB xs = catL viewB xs
  | [] => rfl
  | x :: t => by rw [viewsB, catL, viewsB_catL t]
theorem count_apart {α : Type} {f : α → List UInt8} {R : α → Prop} (hf : Apart f R) : Apart (fun a : List α => wint (a.length : Int) ++ catL f a) (fun a => a.length ≤ 4096 ∧ ∀ z ∈ a, R z) := by
  rintro a b x y ⟨la, ra⟩ ⟨lb, rb⟩ h
  simp only [List.append_assoc] at h
  obtain ⟨e1, e2⟩ := wint_begins (by omega) (by omega) h
  exact list_apart hf a b x y (by omega) ra rb e2
theorem ent_apart (ks : List Knd) : Apart entB (fun xs => xs.length ≤ 4096 ∧ ∀ y ∈ xs, kinds y = ks ∧ ∀ f ∈ y, f.right) := by
  intro a b x y ra rb h
  unfold entB at h
  rw [listB_catL, listB_catL] at h
  exact count_apart (fields_apart ks) a b x y ra rb h
theorem view_apart : Apart viewB ViewRight := by
  rintro a b x y ⟨a1, a2, a3, a4⟩ ⟨b1, b2, b3, b4⟩ h
  have h : bytesOf a.1 ++ (entB a.2 ++ x) = bytesOf b.1 ++ (entB b.2 ++ y) := by simpa only [entB, viewB, List.append_assoc] using h
  obtain ⟨e1, e2⟩ := fields_apart K4 a.1 b.1 _ _ ⟨a1, a2⟩ ⟨b1, b2⟩ h
  obtain ⟨e3, e4⟩ := ent_apart KM a.2 b.2 x y ⟨a3, a4⟩ ⟨b3, b4⟩ e2
  exact ⟨Prod.ext e1 e3, e4⟩
theorem vws_apart : Apart vwsB (fun xs => xs.length ≤ 4096 ∧ ∀ y ∈ xs, ViewRight y) := by
  intro a b x y ra rb h
  unfold vwsB at h
  rw [viewsB_catL, viewsB_catL] at h
  exact count_apart view_apart a b x y ra rb h
theorem ver_apart (a b : Int × Int) (x y : List UInt8) (ra : (Fld.ver a.1 a.2).right) (rb : (Fld.ver b.1 b.2).right) (h : (Fld.ver a.1 a.2).bytes ++ x = (Fld.ver b.1 b.2).bytes ++ y) : a = b ∧ x = y := by
  obtain ⟨e1, e2⟩ := field_apart .V _ _ x y ⟨rfl, ra⟩ ⟨rfl, rb⟩ h
  injection e1 with e3 e4
  exact ⟨Prod.ext e3 e4, e2⟩
theorem int_apart (a b : Int) (x y : List UInt8) (ra : (Fld.int a).right) (rb : (Fld.int b).right) (h : (Fld.int a).bytes ++ x = (Fld.int b).bytes ++ y) : a = b ∧ x = y := by
  obtain ⟨e1, e2⟩ := field_apart .I _ _ x y ⟨rfl, ra⟩ ⟨rfl, rb⟩ h
  injection e1 with e3
  exact ⟨e3, e2⟩
theorem text_apart (a b : ByteArray) (x y : List UInt8) (ra : (Fld.text a).right) (rb : (Fld.text b).right) (h : (Fld.text a).bytes ++ x = (Fld.text b).bytes ++ y) : a = b ∧ x = y := by
  obtain ⟨e1, e2⟩ := field_apart .T _ _ x y ⟨rfl, ra⟩ ⟨rfl, rb⟩ h
  injection e1 with e3
  exact ⟨e3, e2⟩
theorem img_apart : Apart Img.bytes Img.right := by
  rintro a b x y ⟨a1, a2, a3, a4, a5, a6, a7⟩ ⟨b1, b2, b3, b4, b5, b6, b7⟩ h
  unfold Img.bytes at h
  simp only [List.append_assoc] at h
  obtain ⟨e1, h⟩ := ver_apart _ _ _ _ a1 b1 h
  obtain ⟨e2, h⟩ := ver_apart _ _ _ _ a2 b2 h
  obtain ⟨e3, h⟩ := int_apart _ _ _ _ a3 b3 h
  obtain ⟨e4, h⟩ := ent_apart KE _ _ _ _ ⟨a4, a6⟩ ⟨b4, b6⟩ h
  obtain ⟨e5, h⟩ := ent_apart KS _ _ _ _ ⟨a5, a7⟩ ⟨b5, b7⟩ h
  refine ⟨?_, h⟩
  cases a; cases b
  simp_all
theorem msg_apart (a b : MsgD) (x y : List UInt8) (ha : a.right) (hb : b.right) (h : a.bytes ++ x = b.bytes ++ y) : a.nums = b.nums ∧ x = y := by
  obtain ⟨a1, a2, a3, a4, a5, a6, a7, a8, a9, a10, a11, a12, a13, _⟩ := ha
  obtain ⟨b1, b2, b3, b4, b5, b6, b7, b8, b9, b10, b11, b12, b13, _⟩ := hb
  unfold MsgD.bytes at h
  simp only [List.append_assoc] at h
  obtain ⟨e1, h⟩ := fields_apart (List.replicate 12 .I) _ _ _ _ ⟨rfl, fun f hf => by obtain ⟨n, hn, rfl⟩ := List.mem_map.1 hf; exact a1 n hn⟩ ⟨rfl, fun f hf => by obtain ⟨n, hn, rfl⟩ := List.mem_map.1 hf; exact b1 n hn⟩ h
  have h : [bit a.has, bit a.fresh] ++ _ = [bit b.has, bit b.fresh] ++ _ := h
  have h := (List.append_inj h rfl).2
  obtain ⟨_, h⟩ := text_apart _ _ _ _ a2 b2 h
  obtain ⟨_, h⟩ := text_apart _ _ _ _ a3 b3 h
  obtain ⟨_, h⟩ := ver_apart _ _ _ _ a4 b4 h
  obtain ⟨_, h⟩ := ver_apart _ _ _ _ a5 b5 h
  obtain ⟨_, h⟩ := fields_apart KO _ _ _ _ ⟨rfl, a6⟩ ⟨rfl, b6⟩ h
  obtain ⟨_, h⟩ := ent_apart KE _ _ _ _ ⟨a7, a10⟩ ⟨b7, b10⟩ h
  obtain ⟨_, h⟩ := ent_apart KM _ _ _ _ ⟨a8, a11⟩ ⟨b8, b11⟩ h
  obtain ⟨_, h⟩ := vws_apart _ _ _ _ ⟨a9, a12⟩ ⟨b9, b12⟩ h
  obtain ⟨_, h⟩ := img_apart _ _ _ _ a13 b13 h
  refine ⟨?_, h⟩
  have := congrArg (List.map fun f => match f with | Fld.int n => n | _ => 0) e1
  simpa [List.map_map, Function.comp_def] using this

end Go.Proofs.Ytfikailgjmgnbaa

namespace Go.Proofs.Ytfikailgjmgnbaa
open Go.RowKit Flo

/-- what a reading of fields comes to -/
def gotS (ks : List Knd) (l : List UInt8) (p : Nat) : Value := match gets ks (l.drop p) with
  | some (fs, k) => .tuple #[.agg (fs.map Fld.val).toArray, .int .i64 ((p + k : Nat) : Int), .bool true]
  | none => .tuple #[.agg (ks.map Knd.zero).toArray, .int .i64 0, .bool false]
def ReadsOk (f : FuncId) (ks : List Knd) : Prop := ∀ (w : World) (v : Value) (l : List UInt8) (p : Nat), Seen w w.heap.size v l → l.length ≤ 4000 → p ≤ 4000 → Calls Try.prog f #[v, .int .i64 (p : Int)] w fun e w' => e = .returned (gotS ks l p) ∧ Below w.heap.size w w'

theorem gets_pos : ∀ {ks : List Knd} {R : List UInt8} {fs : List Fld} {k : Nat}, gets ks R = some (fs, k) → ks ≠ [] → 0 < k
  | [], _, _, _, _, h => absurd rfl h
  | K :: ks, R, fs, k, h, _ => by
    unfold gets at h
    split at h
    · cases h
    · rename_i f j hf
      split at h
      · cases h
      · obtain ⟨rfl, rfl⟩ := Prod.mk.inj (Option.some.inj h)
        have := (fget_is hf).2.1
        omega

end Go.Proofs.Ytfikailgjmgnbaa

namespace Go.Proofs.Ytfikailgjmgnbaa
open Go.RowKit Flo
attribute [local go_sem ↓] Go.wp_at_zero Go.wp_at_succ

set_option maxRecDepth 100000 in
set_option maxHeartbeats 1000000 in
theorem read_yesI (w : World) (gr ge i : Nat) (v : Value) (p : Nat) (x0 : Value) (n : Int) (q : Int) (ok : Bool)
    (h0 : w.cell? ⟨gr, 0, none⟩ = some v) (h1 : w.cell? ⟨gr, 1, none⟩ = some (.int .i64 p)) (h2 : w.cell? ⟨gr, 2, none⟩ = some (.bool true)) (hz1 : w.frozen? ⟨gr, 1, none⟩ = false) (hz2 : w.frozen? ⟨gr, 2, none⟩ = false)
    (he : w.cell? ⟨ge, i, none⟩ = some x0) (hze : w.frozen? ⟨ge, i, none⟩ = false) (hne : gr ≠ ge)
    (RD : Hid (Calls Try.prog 56 #[v, .int .i64 p] w.drew fun e w' => e = .returned (.tuple #[.int .i64 n, .int .i64 q, .bool ok]) ∧ w.drew = w')) :
    Calls Try.prog 59 #[.pointer (some ⟨gr, 0, none⟩), .pointer (some ⟨ge, i, none⟩), .func (.func 56) #[] #[]] w fun e w' => e = .returned (.tuple #[]) ∧ w' = ((w.drew.setCell ⟨ge, i, none⟩ (.int .i64 n)).setCell ⟨gr, 1, none⟩ (.int .i64 q)).setCell ⟨gr, 2, none⟩ (.bool ok) := by
  have hne' : ge ≠ gr := fun h => hne h.symm
  go_enter Try.func59, Try.ntmps59
  go_wp2_with fail
  first | (go_region_with (first | (go_at_call 56; (with_reducible refine (RD.out).mono ?_); rintro e w1 ⟨rfl, rfl⟩))) | fail
  all_goals go_wp2
  all_goals go_end0
  all_goals exact ⟨rfl, rfl⟩
set_option maxRecDepth 100000 in
theorem read_noI (w : World) (gr : Nat) (x f : Value) (h2 : w.cell? ⟨gr, 2, none⟩ = some (.bool false)) :
    Calls Try.prog 59 #[.pointer (some ⟨gr, 0, none⟩), x, f] w fun e w' => e = .returned (.tuple #[]) ∧ w = w' := by
  go_enter Try.func59, Try.ntmps59
  go_wp2_with fail
  go_end0
  exact ⟨rfl, rfl⟩

end Go.Proofs.Ytfikailgjmgnbaa

namespace Go.Proofs.Ytfikailgjmgnbaa
open Go.RowKit Flo
attribute [local go_sem ↓] Go.wp_at_zero Go.wp_at_succ

set_option maxRecDepth 100000 in
set_option maxHeartbeats 1000000 in
theorem read_yesT (w : World) (gr ge i : Nat) (v : Value) (p : Nat) (x0 : Value) (s : ByteArray) (q : Int) (ok : Bool)
    (h0 : w.cell? ⟨gr, 0, none⟩ = some v) (h1 : w.cell? ⟨gr, 1, none⟩ = some (.int .i64 p)) (h2 : w.cell? ⟨gr, 2, none⟩ = some (.bool true)) (hz1 : w.frozen? ⟨gr, 1, none⟩ = false) (hz2 : w.frozen? ⟨gr, 2, none⟩ = false)
    (he : w.cell? ⟨ge, i, none⟩ = some x0) (hze : w.frozen? ⟨ge, i, none⟩ = false) (hne : gr ≠ ge)
    (RD : Hid (Calls Try.prog 19 #[v, .int .i64 p] w.drew fun e w' => e = .returned (.tuple #[.string s, .int .i64 q, .bool ok]) ∧ w.drew = w')) :
    Calls Try.prog 60 #[.pointer (some ⟨gr, 0, none⟩), .pointer (some ⟨ge, i, none⟩), .func (.func 19) #[] #[]] w fun e w' => e = .returned (.tuple #[]) ∧ w' = ((w.drew.setCell ⟨ge, i, none⟩ (.string s)).setCell ⟨gr, 1, none⟩ (.int .i64 q)).setCell ⟨gr, 2, none⟩ (.bool ok) := by
  have hne' : ge ≠ gr := fun h => hne h.symm
  go_enter Try.func60, Try.ntmps60
  go_wp2_with fail
  first | (go_region_with (first | (go_at_call 19; (with_reducible refine (RD.out).mono ?_); rintro e w1 ⟨rfl, rfl⟩))) | fail
  all_goals go_wp2
  all_goals go_end0
  all_goals exact ⟨rfl, rfl⟩
set_option maxRecDepth 100000 in
theorem read_noT (w : World) (gr : Nat) (x f : Value) (h2 : w.cell? ⟨gr, 2, none⟩ = some (.bool false)) :
    Calls Try.prog 60 #[.pointer (some ⟨gr, 0, none⟩), x, f] w fun e w' => e = .returned (.tuple #[]) ∧ w = w' := by
  go_enter Try.func60, Try.ntmps60
  go_wp2_with fail
  go_end0
  exact ⟨rfl, rfl⟩

end Go.Proofs.Ytfikailgjmgnbaa
