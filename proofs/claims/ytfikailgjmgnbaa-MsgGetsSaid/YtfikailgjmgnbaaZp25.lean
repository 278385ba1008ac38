/-
  What msg.Get comes to (made by msg-get-gen.py).
-/
import Derived.Test.YtfikailgjmgnbaaZp21
import Derived.Test.YtfikailgjmgnbaaZp24

namespace Go.Proofs.Ytfikailgjmgnbaa
open Go.RowKit Flo
attribute [local go_sem ↓] Go.wp_at_zero Go.wp_at_succ

theorem info_Msg : (Try.prog.info? 35).map (·.size) = some 31 := by kernel_rfl
theorem agg_Msg (W : World) : (isAgg 35).run Try.prog W = .ok true W := by simp [isAgg, run_underlying Try.underlying35]
theorem to_ldMsg (X : Value) : Instr.loadAt 35 X = ldT 35 X := rfl
theorem to_stMsg (X Y : Value) : Instr.storeAt 35 X Y = stT 35 X Y := rfl
theorem run_ldMsg (W : World) (g : Nat) (h : Wh W g 31) : (ldT 35 (.pointer (some ⟨g, 0, none⟩))).run Try.prog W = .ok (.agg (wholeOf W g 31)) W := run_ldT _ 31 info_Msg agg_Msg W g h
theorem run_stMsg (w : World) (g i : Nat) (cs : List Value) (hf : Few 31 cs) (hs : Spot w g i 31) : (stT 35 (.pointer (some ⟨g, i, none⟩)) (.agg cs.toArray)).run Try.prog w = .ok () (w.setCells g i cs) := run_stT _ 31 info_Msg w g i cs hf hs
section
attribute [local go_sem ↓] to_ldMsg to_stMsg
attribute [local go_sem] run_ldMsg run_stMsg
set_option maxRecDepth 100000 in
set_option maxHeartbeats 8000000 in
theorem get_ok : GetOk := by
  intro w v l hv hl6
  have hl : l.length ≤ 1000000000 := by omega
  have HV := Lib.hid hv
  obtain ⟨A, c, rfl, hA⟩ := hv
  have S0 := Sg.start w (.slice A l.length c) l 0 [.one .I, .one .I, .one .I, .one .I, .one .I, .one .I, .one .I, .one .I, .one .I, .one .I, .one .I, .one .I, .one .B, .one .B, .one .T, .one .T, .one .V, .one .V, .row KO, .list KE, .list KM, .views, .img] 35 50 [.int .i64 0, .int .i64 0, .int .i64 0, .int .i64 0, .int .i64 0, .int .i64 0, .int .i64 0, .int .i64 0, .int .i64 0, .int .i64 0, .int .i64 0, .int .i64 0, .bool false, .bool false, .string ⟨#[]⟩, .string ⟨#[]⟩, .complex .f64 0 0, .complex .f64 0 0, .int .i64 0, .string ⟨#[]⟩, .string ⟨#[]⟩, .string ⟨#[]⟩, .bool false, .slice none 0 0, .slice none 0 0, .slice none 0 0, .complex .f64 0 0, .complex .f64 0 0, .int .i64 0, .slice none 0 0, .slice none 0 0] rfl
  have HZ : Hid (∀ W vs, Below (w.alloc (.cells #[.int .i64 0, .int .i64 0, .int .i64 0, .int .i64 0, .int .i64 0, .int .i64 0, .int .i64 0, .int .i64 0, .int .i64 0, .int .i64 0, .int .i64 0, .int .i64 0, .bool false, .bool false, .string ⟨#[]⟩, .string ⟨#[]⟩, .complex .f64 0 0, .complex .f64 0 0, .int .i64 0, .string ⟨#[]⟩, .string ⟨#[]⟩, .string ⟨#[]⟩, .bool false, .slice none 0 0, .slice none 0 0, .slice none 0 0, .complex .f64 0 0, .complex .f64 0 0, .int .i64 0, .slice none 0 0, .slice none 0 0] 35)).heap.size (w.alloc (.cells #[.int .i64 0, .int .i64 0, .int .i64 0, .int .i64 0, .int .i64 0, .int .i64 0, .int .i64 0, .int .i64 0, .int .i64 0, .int .i64 0, .int .i64 0, .int .i64 0, .bool false, .bool false, .string ⟨#[]⟩, .string ⟨#[]⟩, .complex .f64 0 0, .complex .f64 0 0, .int .i64 0, .string ⟨#[]⟩, .string ⟨#[]⟩, .string ⟨#[]⟩, .bool false, .slice none 0 0, .slice none 0 0, .slice none 0 0, .complex .f64 0 0, .complex .f64 0 0, .int .i64 0, .slice none 0 0, .slice none 0 0] 35)) W → Few 31 vs → Spot W w.heap.size 0 31 ∧ Held w.heap.size vs (W.setCells w.heap.size 0 vs) ∧ Below w.heap.size w (W.setCells w.heap.size 0 vs) ∧ Kept (w.heap.size + 1 + 1 + 1 ≤ ·) (w.heap.size ≤ ·) W (W.setCells w.heap.size 0 vs)) := fun W vs hb hf => store_last (zs := [.int .i64 0, .int .i64 0, .int .i64 0, .int .i64 0, .int .i64 0, .int .i64 0, .int .i64 0, .int .i64 0, .int .i64 0, .int .i64 0, .int .i64 0, .int .i64 0, .bool false, .bool false, .string ⟨#[]⟩, .string ⟨#[]⟩, .complex .f64 0 0, .complex .f64 0 0, .int .i64 0, .string ⟨#[]⟩, .string ⟨#[]⟩, .string ⟨#[]⟩, .bool false, .slice none 0 0, .slice none 0 0, .slice none 0 0, .complex .f64 0 0, .complex .f64 0 0, .int .i64 0, .slice none 0 0, .slice none 0 0]) hb rfl hf (by omega)
  have hb0 : Hid (Below w.heap.size w (w.alloc (.cells #[.int .i64 0, .int .i64 0, .int .i64 0, .int .i64 0, .int .i64 0, .int .i64 0, .int .i64 0, .int .i64 0, .int .i64 0, .int .i64 0, .int .i64 0, .int .i64 0, .bool false, .bool false, .string ⟨#[]⟩, .string ⟨#[]⟩, .complex .f64 0 0, .complex .f64 0 0, .int .i64 0, .string ⟨#[]⟩, .string ⟨#[]⟩, .string ⟨#[]⟩, .bool false, .slice none 0 0, .slice none 0 0, .slice none 0 0, .complex .f64 0 0, .complex .f64 0 0, .int .i64 0, .slice none 0 0, .slice none 0 0] 35))) := bal _ _
  have W0 : Hid (w.heap.size + 1 = (w.alloc (.cells #[.int .i64 0, .int .i64 0, .int .i64 0, .int .i64 0, .int .i64 0, .int .i64 0, .int .i64 0, .int .i64 0, .int .i64 0, .int .i64 0, .int .i64 0, .int .i64 0, .bool false, .bool false, .string ⟨#[]⟩, .string ⟨#[]⟩, .complex .f64 0 0, .complex .f64 0 0, .int .i64 0, .string ⟨#[]⟩, .string ⟨#[]⟩, .string ⟨#[]⟩, .bool false, .slice none 0 0, .slice none 0 0, .slice none 0 0, .complex .f64 0 0, .complex .f64 0 0, .int .i64 0, .slice none 0 0, .slice none 0 0] 35)).heap.size) := by show _ = _; simp
  obtain ⟨w0, hw0⟩ : ∃ w0, w0 = (w.alloc (.cells #[.int .i64 0, .int .i64 0, .int .i64 0, .int .i64 0, .int .i64 0, .int .i64 0, .int .i64 0, .int .i64 0, .int .i64 0, .int .i64 0, .int .i64 0, .int .i64 0, .bool false, .bool false, .string ⟨#[]⟩, .string ⟨#[]⟩, .complex .f64 0 0, .complex .f64 0 0, .int .i64 0, .string ⟨#[]⟩, .string ⟨#[]⟩, .string ⟨#[]⟩, .bool false, .slice none 0 0, .slice none 0 0, .slice none 0 0, .complex .f64 0 0, .complex .f64 0 0, .int .i64 0, .slice none 0 0, .slice none 0 0] 35)) := ⟨_, rfl⟩
  rw [← hw0] at hb0 W0 HZ
  have S0' : Sg l 0 (.slice A l.length c) (w.heap.size + 1 + 1) (w.heap.size + 1) (w.heap.size + 1 + 1 + 1) w0 [] [.one .I, .one .I, .one .I, .one .I, .one .I, .one .I, .one .I, .one .I, .one .I, .one .I, .one .I, .one .I, .one .B, .one .B, .one .T, .one .T, .one .V, .one .V, .row KO, .list KE, .list KM, .views, .img] (((w.alloc (.cells #[.int .i64 0, .int .i64 0, .int .i64 0, .int .i64 0, .int .i64 0, .int .i64 0, .int .i64 0, .int .i64 0, .int .i64 0, .int .i64 0, .int .i64 0, .int .i64 0, .bool false, .bool false, .string ⟨#[]⟩, .string ⟨#[]⟩, .complex .f64 0 0, .complex .f64 0 0, .int .i64 0, .string ⟨#[]⟩, .string ⟨#[]⟩, .string ⟨#[]⟩, .bool false, .slice none 0 0, .slice none 0 0, .slice none 0 0, .complex .f64 0 0, .complex .f64 0 0, .int .i64 0, .slice none 0 0, .slice none 0 0] 35)).alloc (.cells #[.int .i64 0, .int .i64 0, .int .i64 0, .int .i64 0, .int .i64 0, .int .i64 0, .int .i64 0, .int .i64 0, .int .i64 0, .int .i64 0, .int .i64 0, .int .i64 0, .bool false, .bool false, .string ⟨#[]⟩, .string ⟨#[]⟩, .complex .f64 0 0, .complex .f64 0 0, .int .i64 0, .string ⟨#[]⟩, .string ⟨#[]⟩, .string ⟨#[]⟩, .bool false, .slice none 0 0, .slice none 0 0, .slice none 0 0, .complex .f64 0 0, .complex .f64 0 0, .int .i64 0, .slice none 0 0, .slice none 0 0] 35)).alloc (.cells #[.slice A l.length c, .int .i64 0, .bool true] 50)) := by rw [hw0]; exact S0
  have HS := Lib.hid ((HV.out.on hb0.out))
  have G1 : Hid (w0.heap.size ≤ w.heap.size + 1) := Nat.le_of_eq W0.out.symm
  have G2 : Hid (w0.heap.size ≤ w.heap.size + 1 + 1) := Nat.le_trans G1.out (Nat.le_succ _)
  have G3 : Hid (w.heap.size + 1 + 1 ≠ w.heap.size + 1) := by show _ ≠ _; omega
  have G4 : Hid (w.heap.size + 1 + 1 < w.heap.size + 1 + 1 + 1) := by show _ < _; omega
  have G5 : Hid (w.heap.size + 1 < w.heap.size + 1 + 1 + 1) := by show _ < _; omega
  have R1 : Hid (∀ W b cs, Sg l 0 (.slice A l.length c) (w.heap.size + 1 + 1) (w.heap.size + 1) (w.heap.size + 1 + 1 + 1) w0 [] [.one .I, .one .I, .one .I, .one .I, .one .I, .one .I, .one .I, .one .I, .one .I, .one .I, .one .I, .one .I, .one .B, .one .B, .one .T, .one .T, .one .V, .one .V, .row KO, .list KE, .list KM, .views, .img] W → b = W.heap.size → cs = (ptrsL (w.heap.size + 1) 0 12).toArray → Calls Try.prog 15 #[.pointer (some ⟨w.heap.size + 1 + 1, 0, none⟩), .slice (some ⟨b, 0, none⟩) 12 12] (W.alloc (.cells cs 53)) fun e W' => e = .returned (.tuple #[]) ∧ Sg l 0 (.slice A l.length c) (w.heap.size + 1 + 1) (w.heap.size + 1) (w.heap.size + 1 + 1 + 1) w0 [.one .I, .one .I, .one .I, .one .I, .one .I, .one .I, .one .I, .one .I, .one .I, .one .I, .one .I, .one .I] [.one .B, .one .B, .one .T, .one .T, .one .V, .one .V, .row KO, .list KE, .list KM, .views, .img] W' ∧ Stays (w.heap.size + 1 + 1) (w.heap.size + 1) W W') := fun W b cs h hb hcs => ints_new 12 W 0 _ cs b HS.out hl (Nat.zero_le _) G2.out G1.out G3.out G4.out G5.out h rfl (by decide) hcs hb
  have R2 : Hid (∀ W, Sg l 0 (.slice A l.length c) (w.heap.size + 1 + 1) (w.heap.size + 1) (w.heap.size + 1 + 1 + 1) w0 [.one .I, .one .I, .one .I, .one .I, .one .I, .one .I, .one .I, .one .I, .one .I, .one .I, .one .I, .one .I] [.one .B, .one .B, .one .T, .one .T, .one .V, .one .V, .row KO, .list KE, .list KM, .views, .img] W → Calls Try.prog 16 #[.pointer (some ⟨w.heap.size + 1 + 1, 0, none⟩), .pointer (some ⟨w.heap.size + 1, 12, none⟩), .func (.func 17) #[] #[]] W fun e W' => e = .returned (.tuple #[]) ∧ Sg l 0 (.slice A l.length c) (w.heap.size + 1 + 1) (w.heap.size + 1) (w.heap.size + 1 + 1 + 1) w0 [.one .I, .one .I, .one .I, .one .I, .one .I, .one .I, .one .I, .one .I, .one .I, .one .I, .one .I, .one .I, .one .B] [.one .B, .one .T, .one .T, .one .V, .one .V, .row KO, .list KE, .list KM, .views, .img] W' ∧ Stays (w.heap.size + 1 + 1) (w.heap.size + 1) W W') := fun W h => Sg.step (K := .one .B) rdr_B HS.out hl (Nat.zero_le _) G2.out G1.out G3.out G4.out G5.out h rfl
  have R3 : Hid (∀ W, Sg l 0 (.slice A l.length c) (w.heap.size + 1 + 1) (w.heap.size + 1) (w.heap.size + 1 + 1 + 1) w0 [.one .I, .one .I, .one .I, .one .I, .one .I, .one .I, .one .I, .one .I, .one .I, .one .I, .one .I, .one .I, .one .B] [.one .B, .one .T, .one .T, .one .V, .one .V, .row KO, .list KE, .list KM, .views, .img] W → Calls Try.prog 16 #[.pointer (some ⟨w.heap.size + 1 + 1, 0, none⟩), .pointer (some ⟨w.heap.size + 1, 13, none⟩), .func (.func 17) #[] #[]] W fun e W' => e = .returned (.tuple #[]) ∧ Sg l 0 (.slice A l.length c) (w.heap.size + 1 + 1) (w.heap.size + 1) (w.heap.size + 1 + 1 + 1) w0 [.one .I, .one .I, .one .I, .one .I, .one .I, .one .I, .one .I, .one .I, .one .I, .one .I, .one .I, .one .I, .one .B, .one .B] [.one .T, .one .T, .one .V, .one .V, .row KO, .list KE, .list KM, .views, .img] W' ∧ Stays (w.heap.size + 1 + 1) (w.heap.size + 1) W W') := fun W h => Sg.step (K := .one .B) rdr_B HS.out hl (Nat.zero_le _) G2.out G1.out G3.out G4.out G5.out h rfl
  have R4 : Hid (∀ W, Sg l 0 (.slice A l.length c) (w.heap.size + 1 + 1) (w.heap.size + 1) (w.heap.size + 1 + 1 + 1) w0 [.one .I, .one .I, .one .I, .one .I, .one .I, .one .I, .one .I, .one .I, .one .I, .one .I, .one .I, .one .I, .one .B, .one .B] [.one .T, .one .T, .one .V, .one .V, .row KO, .list KE, .list KM, .views, .img] W → Calls Try.prog 18 #[.pointer (some ⟨w.heap.size + 1 + 1, 0, none⟩), .pointer (some ⟨w.heap.size + 1, 14, none⟩), .func (.func 19) #[] #[]] W fun e W' => e = .returned (.tuple #[]) ∧ Sg l 0 (.slice A l.length c) (w.heap.size + 1 + 1) (w.heap.size + 1) (w.heap.size + 1 + 1 + 1) w0 [.one .I, .one .I, .one .I, .one .I, .one .I, .one .I, .one .I, .one .I, .one .I, .one .I, .one .I, .one .I, .one .B, .one .B, .one .T] [.one .T, .one .V, .one .V, .row KO, .list KE, .list KM, .views, .img] W' ∧ Stays (w.heap.size + 1 + 1) (w.heap.size + 1) W W') := fun W h => Sg.step (K := .one .T) rdr_T HS.out hl (Nat.zero_le _) G2.out G1.out G3.out G4.out G5.out h rfl
  have R5 : Hid (∀ W, Sg l 0 (.slice A l.length c) (w.heap.size + 1 + 1) (w.heap.size + 1) (w.heap.size + 1 + 1 + 1) w0 [.one .I, .one .I, .one .I, .one .I, .one .I, .one .I, .one .I, .one .I, .one .I, .one .I, .one .I, .one .I, .one .B, .one .B, .one .T] [.one .T, .one .V, .one .V, .row KO, .list KE, .list KM, .views, .img] W → Calls Try.prog 18 #[.pointer (some ⟨w.heap.size + 1 + 1, 0, none⟩), .pointer (some ⟨w.heap.size + 1, 15, none⟩), .func (.func 19) #[] #[]] W fun e W' => e = .returned (.tuple #[]) ∧ Sg l 0 (.slice A l.length c) (w.heap.size + 1 + 1) (w.heap.size + 1) (w.heap.size + 1 + 1 + 1) w0 [.one .I, .one .I, .one .I, .one .I, .one .I, .one .I, .one .I, .one .I, .one .I, .one .I, .one .I, .one .I, .one .B, .one .B, .one .T, .one .T] [.one .V, .one .V, .row KO, .list KE, .list KM, .views, .img] W' ∧ Stays (w.heap.size + 1 + 1) (w.heap.size + 1) W W') := fun W h => Sg.step (K := .one .T) rdr_T HS.out hl (Nat.zero_le _) G2.out G1.out G3.out G4.out G5.out h rfl
  have R6 : Hid (∀ W, Sg l 0 (.slice A l.length c) (w.heap.size + 1 + 1) (w.heap.size + 1) (w.heap.size + 1 + 1 + 1) w0 [.one .I, .one .I, .one .I, .one .I, .one .I, .one .I, .one .I, .one .I, .one .I, .one .I, .one .I, .one .I, .one .B, .one .B, .one .T, .one .T] [.one .V, .one .V, .row KO, .list KE, .list KM, .views, .img] W → Calls Try.prog 20 #[.pointer (some ⟨w.heap.size + 1 + 1, 0, none⟩), .pointer (some ⟨w.heap.size + 1, 16, none⟩), .func (.func 21) #[] #[]] W fun e W' => e = .returned (.tuple #[]) ∧ Sg l 0 (.slice A l.length c) (w.heap.size + 1 + 1) (w.heap.size + 1) (w.heap.size + 1 + 1 + 1) w0 [.one .I, .one .I, .one .I, .one .I, .one .I, .one .I, .one .I, .one .I, .one .I, .one .I, .one .I, .one .I, .one .B, .one .B, .one .T, .one .T, .one .V] [.one .V, .row KO, .list KE, .list KM, .views, .img] W' ∧ Stays (w.heap.size + 1 + 1) (w.heap.size + 1) W W') := fun W h => Sg.step (K := .one .V) rdr_V HS.out hl (Nat.zero_le _) G2.out G1.out G3.out G4.out G5.out h rfl
  have R7 : Hid (∀ W, Sg l 0 (.slice A l.length c) (w.heap.size + 1 + 1) (w.heap.size + 1) (w.heap.size + 1 + 1 + 1) w0 [.one .I, .one .I, .one .I, .one .I, .one .I, .one .I, .one .I, .one .I, .one .I, .one .I, .one .I, .one .I, .one .B, .one .B, .one .T, .one .T, .one .V] [.one .V, .row KO, .list KE, .list KM, .views, .img] W → Calls Try.prog 20 #[.pointer (some ⟨w.heap.size + 1 + 1, 0, none⟩), .pointer (some ⟨w.heap.size + 1, 17, none⟩), .func (.func 21) #[] #[]] W fun e W' => e = .returned (.tuple #[]) ∧ Sg l 0 (.slice A l.length c) (w.heap.size + 1 + 1) (w.heap.size + 1) (w.heap.size + 1 + 1 + 1) w0 [.one .I, .one .I, .one .I, .one .I, .one .I, .one .I, .one .I, .one .I, .one .I, .one .I, .one .I, .one .I, .one .B, .one .B, .one .T, .one .T, .one .V, .one .V] [.row KO, .list KE, .list KM, .views, .img] W' ∧ Stays (w.heap.size + 1 + 1) (w.heap.size + 1) W W') := fun W h => Sg.step (K := .one .V) rdr_V HS.out hl (Nat.zero_le _) G2.out G1.out G3.out G4.out G5.out h rfl
  have R8 : Hid (∀ W, Sg l 0 (.slice A l.length c) (w.heap.size + 1 + 1) (w.heap.size + 1) (w.heap.size + 1 + 1 + 1) w0 [.one .I, .one .I, .one .I, .one .I, .one .I, .one .I, .one .I, .one .I, .one .I, .one .I, .one .I, .one .I, .one .B, .one .B, .one .T, .one .T, .one .V, .one .V] [.row KO, .list KE, .list KM, .views, .img] W → Calls Try.prog 22 #[.pointer (some ⟨w.heap.size + 1 + 1, 0, none⟩), .pointer (some ⟨w.heap.size + 1, 18, none⟩), .func (.func 23) #[] #[]] W fun e W' => e = .returned (.tuple #[]) ∧ Sg l 0 (.slice A l.length c) (w.heap.size + 1 + 1) (w.heap.size + 1) (w.heap.size + 1 + 1 + 1) w0 [.one .I, .one .I, .one .I, .one .I, .one .I, .one .I, .one .I, .one .I, .one .I, .one .I, .one .I, .one .I, .one .B, .one .B, .one .T, .one .T, .one .V, .one .V, .row KO] [.list KE, .list KM, .views, .img] W' ∧ Stays (w.heap.size + 1 + 1) (w.heap.size + 1) W W') := fun W h => Sg.step (K := .row KO) rdr_O HS.out hl (Nat.zero_le _) G2.out G1.out G3.out G4.out G5.out h rfl
  have R9 : Hid (∀ W, Sg l 0 (.slice A l.length c) (w.heap.size + 1 + 1) (w.heap.size + 1) (w.heap.size + 1 + 1 + 1) w0 [.one .I, .one .I, .one .I, .one .I, .one .I, .one .I, .one .I, .one .I, .one .I, .one .I, .one .I, .one .I, .one .B, .one .B, .one .T, .one .T, .one .V, .one .V, .row KO] [.list KE, .list KM, .views, .img] W → Calls Try.prog 24 #[.pointer (some ⟨w.heap.size + 1 + 1, 0, none⟩), .pointer (some ⟨w.heap.size + 1, 23, none⟩), .func (.func 25) #[] #[]] W fun e W' => e = .returned (.tuple #[]) ∧ Sg l 0 (.slice A l.length c) (w.heap.size + 1 + 1) (w.heap.size + 1) (w.heap.size + 1 + 1 + 1) w0 [.one .I, .one .I, .one .I, .one .I, .one .I, .one .I, .one .I, .one .I, .one .I, .one .I, .one .I, .one .I, .one .B, .one .B, .one .T, .one .T, .one .V, .one .V, .row KO, .list KE] [.list KM, .views, .img] W' ∧ Stays (w.heap.size + 1 + 1) (w.heap.size + 1) W W') := fun W h => Sg.step (K := .list KE) rdr_E HS.out hl (Nat.zero_le _) G2.out G1.out G3.out G4.out G5.out h rfl
  have R10 : Hid (∀ W, Sg l 0 (.slice A l.length c) (w.heap.size + 1 + 1) (w.heap.size + 1) (w.heap.size + 1 + 1 + 1) w0 [.one .I, .one .I, .one .I, .one .I, .one .I, .one .I, .one .I, .one .I, .one .I, .one .I, .one .I, .one .I, .one .B, .one .B, .one .T, .one .T, .one .V, .one .V, .row KO, .list KE] [.list KM, .views, .img] W → Calls Try.prog 26 #[.pointer (some ⟨w.heap.size + 1 + 1, 0, none⟩), .pointer (some ⟨w.heap.size + 1, 24, none⟩), .func (.func 27) #[] #[]] W fun e W' => e = .returned (.tuple #[]) ∧ Sg l 0 (.slice A l.length c) (w.heap.size + 1 + 1) (w.heap.size + 1) (w.heap.size + 1 + 1 + 1) w0 [.one .I, .one .I, .one .I, .one .I, .one .I, .one .I, .one .I, .one .I, .one .I, .one .I, .one .I, .one .I, .one .B, .one .B, .one .T, .one .T, .one .V, .one .V, .row KO, .list KE, .list KM] [.views, .img] W' ∧ Stays (w.heap.size + 1 + 1) (w.heap.size + 1) W W') := fun W h => Sg.step (K := .list KM) rdr_M HS.out hl (Nat.zero_le _) G2.out G1.out G3.out G4.out G5.out h rfl
  have R11 : Hid (∀ W, Sg l 0 (.slice A l.length c) (w.heap.size + 1 + 1) (w.heap.size + 1) (w.heap.size + 1 + 1 + 1) w0 [.one .I, .one .I, .one .I, .one .I, .one .I, .one .I, .one .I, .one .I, .one .I, .one .I, .one .I, .one .I, .one .B, .one .B, .one .T, .one .T, .one .V, .one .V, .row KO, .list KE, .list KM] [.views, .img] W → Calls Try.prog 28 #[.pointer (some ⟨w.heap.size + 1 + 1, 0, none⟩), .pointer (some ⟨w.heap.size + 1, 25, none⟩), .func (.func 29) #[] #[]] W fun e W' => e = .returned (.tuple #[]) ∧ Sg l 0 (.slice A l.length c) (w.heap.size + 1 + 1) (w.heap.size + 1) (w.heap.size + 1 + 1 + 1) w0 [.one .I, .one .I, .one .I, .one .I, .one .I, .one .I, .one .I, .one .I, .one .I, .one .I, .one .I, .one .I, .one .B, .one .B, .one .T, .one .T, .one .V, .one .V, .row KO, .list KE, .list KM, .views] [.img] W' ∧ Stays (w.heap.size + 1 + 1) (w.heap.size + 1) W W') := fun W h => Sg.step (K := .views) rdr_W HS.out hl (Nat.zero_le _) G2.out G1.out G3.out G4.out G5.out h rfl
  have R12 : Hid (∀ W, Sg l 0 (.slice A l.length c) (w.heap.size + 1 + 1) (w.heap.size + 1) (w.heap.size + 1 + 1 + 1) w0 [.one .I, .one .I, .one .I, .one .I, .one .I, .one .I, .one .I, .one .I, .one .I, .one .I, .one .I, .one .I, .one .B, .one .B, .one .T, .one .T, .one .V, .one .V, .row KO, .list KE, .list KM, .views] [.img] W → Calls Try.prog 30 #[.pointer (some ⟨w.heap.size + 1 + 1, 0, none⟩), .pointer (some ⟨w.heap.size + 1, 26, none⟩), .func (.func 10) #[] #[]] W fun e W' => e = .returned (.tuple #[]) ∧ Sg l 0 (.slice A l.length c) (w.heap.size + 1 + 1) (w.heap.size + 1) (w.heap.size + 1 + 1 + 1) w0 [.one .I, .one .I, .one .I, .one .I, .one .I, .one .I, .one .I, .one .I, .one .I, .one .I, .one .I, .one .I, .one .B, .one .B, .one .T, .one .T, .one .V, .one .V, .row KO, .list KE, .list KM, .views, .img] [] W' ∧ Stays (w.heap.size + 1 + 1) (w.heap.size + 1) W W') := fun W h => Sg.step (K := .img) rdr_G HS.out hl (Nat.zero_le _) G2.out G1.out G3.out G4.out G5.out h rfl
  clear hA hw0 S0
  go_enter Try.func6, Try.ntmps6
  go_wp2_with fail
  go_at_call 15
  (refine (R1.out _ _ _ S0' (by simp) rfl).mono ?_)
  rintro e w1 ⟨rfl, S1, _⟩
  go_wp2_with (first
    | (go_at_call 16; (with_reducible refine (R2.out _ S1).mono ?_); rintro e w2 ⟨rfl, S2, _⟩)
    | (go_at_call 16; (with_reducible refine (R3.out _ S2).mono ?_); rintro e w3 ⟨rfl, S3, _⟩)
    | (go_at_call 18; (with_reducible refine (R4.out _ S3).mono ?_); rintro e w4 ⟨rfl, S4, _⟩)
    | (go_at_call 18; (with_reducible refine (R5.out _ S4).mono ?_); rintro e w5 ⟨rfl, S5, _⟩)
    | (go_at_call 20; (with_reducible refine (R6.out _ S5).mono ?_); rintro e w6 ⟨rfl, S6, _⟩)
    | (go_at_call 20; (with_reducible refine (R7.out _ S6).mono ?_); rintro e w7 ⟨rfl, S7, _⟩)
    | (go_at_call 22; (with_reducible refine (R8.out _ S7).mono ?_); rintro e w8 ⟨rfl, S8, _⟩)
    | (go_at_call 24; (with_reducible refine (R9.out _ S8).mono ?_); rintro e w9 ⟨rfl, S9, _⟩)
    | (go_at_call 26; (with_reducible refine (R10.out _ S9).mono ?_); rintro e w10 ⟨rfl, S10, _⟩)
    | (go_at_call 28; (with_reducible refine (R11.out _ S10).mono ?_); rintro e w11 ⟨rfl, S11, _⟩))
  go_at_call 30
  refine (R12.out _ S11).mono ?_
  rintro e wn ⟨rfl, Sn, _⟩
  clear R1 R2 R3 R4 R5 R6 R7 R8 R9 R10 R11 R12 S1 S2 S3 S4 S5 S6 S7 S8 S9 S10 S11 S0'
  obtain ⟨hb, hlo, vs, q, ok, hf, hr, he, ho⟩ := Sn.done
  have hf : Few 31 vs := hf
  have ho : OutS msgK l 0 (w.heap.size + 1 + 1 + 1) vs q ok wn := ho
  have C1 := hr.held.all
  simp only [cellsAre, Nat.zero_add, Nat.reduceAdd] at C1
  obtain ⟨c10, c11, c12⟩ := C1
  by_cases hok : ok = true ∧ q = (l.length : Int)
  · obtain ⟨rfl, hq⟩ := hok
    obtain ⟨z1, z2, z3, z4⟩ := HZ.out wn vs hb hf
    have HO := Lib.hid (msg_yes (ho.keep z4) hq hl6)
    have HF := Lib.hid z2
    have HB := Lib.hid z3
    have HF0 := Lib.hid hf
    have C2 : Wh wn (w.heap.size + 1) 31 := he.held.wh hf.1
    have C3 : wholeOf wn (w.heap.size + 1) 31 = vs.toArray := he.held.whole hf.1
    subst hq
    clear ho z2 z3 z4 he hr Sn hb hlo HS HZ
    go_wp2
    (try simp only [Exit.inBlock, Exit.then])
    refine bodyPost_ret (results_two (p := 2) (u := 3) (a := ⟨w.heap.size, 0, none⟩) rfl rfl (run_loadVar_held (by rw [HF0.out.1]; exact info_Msg) (agg_Msg _) HF.out)) rfl ?_
    obtain ⟨m, ev, cv, vv, lv, sv, h1, h2, h3, h4⟩ := HO.out
    exact ⟨HB.out, .inl ⟨m, vs, ev, cv, vv, lv, sv, h1, h2, h3, h4, rfl⟩⟩
  · have hfz : Few 31 [.int .i64 0, .int .i64 0, .int .i64 0, .int .i64 0, .int .i64 0, .int .i64 0, .int .i64 0, .int .i64 0, .int .i64 0, .int .i64 0, .int .i64 0, .int .i64 0, .bool false, .bool false, .string ⟨#[]⟩, .string ⟨#[]⟩, .complex .f64 0 0, .complex .f64 0 0, .int .i64 0, .string ⟨#[]⟩, .string ⟨#[]⟩, .string ⟨#[]⟩, .bool false, .slice none 0 0, .slice none 0 0, .slice none 0 0, .complex .f64 0 0, .complex .f64 0 0, .int .i64 0, .slice none 0 0, .slice none 0 0] := ⟨rfl, by decide⟩
    obtain ⟨z1, z2, z3, z4⟩ := HZ.out wn [.int .i64 0, .int .i64 0, .int .i64 0, .int .i64 0, .int .i64 0, .int .i64 0, .int .i64 0, .int .i64 0, .int .i64 0, .int .i64 0, .int .i64 0, .int .i64 0, .bool false, .bool false, .string ⟨#[]⟩, .string ⟨#[]⟩, .complex .f64 0 0, .complex .f64 0 0, .int .i64 0, .string ⟨#[]⟩, .string ⟨#[]⟩, .string ⟨#[]⟩, .bool false, .slice none 0 0, .slice none 0 0, .slice none 0 0, .complex .f64 0 0, .complex .f64 0 0, .int .i64 0, .slice none 0 0, .slice none 0 0] hb hfz
    have HF := Lib.hid z2
    have HB := Lib.hid z3
    have HO := Lib.hid (msg_no ho (by
      cases ok with
      | false => exact .inl rfl
      | true => exact .inr fun h => hok ⟨rfl, h⟩))
    clear ho z2 z3 z4 he hr Sn hb hlo HS HZ hf
    cases ok with
    | false =>
      clear hok
      go_wp2
      (try simp only [Exit.inBlock, Exit.then])
      refine bodyPost_ret (results_two (p := 2) (u := 3) (a := ⟨w.heap.size, 0, none⟩) rfl rfl (run_loadVar_held info_Msg (agg_Msg _) HF.out)) rfl ?_
      exact ⟨HB.out, .inr ⟨HO.out, rfl⟩⟩
    | true =>
      have hq : ¬ q = (l.length : Int) := fun h => hok ⟨rfl, h⟩
      clear hok
      go_wp2
      (try simp only [Exit.inBlock, Exit.then])
      refine bodyPost_ret (results_two (p := 2) (u := 3) (a := ⟨w.heap.size, 0, none⟩) rfl rfl (run_loadVar_held info_Msg (agg_Msg _) HF.out)) rfl ?_
      exact ⟨HB.out, .inr ⟨HO.out, rfl⟩⟩
end

end Go.Proofs.Ytfikailgjmgnbaa
