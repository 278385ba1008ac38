/-
  The examples of entries hold, given what the program's functions of entries come to.
-/
import Derived.Test.YtmohanbgplffcaaLg0
namespace Go.Proofs.Ytmohanbgplffcaa
open Go.RowKit Flo
attribute [local go_sem ↓] Go.wp_at_zero Go.wp_at_succ

def WritesOk (f : FuncId) (ks : List Knd) : Prop := ∀ (w : World) (B : Nat) (v : Value) (l : List UInt8) (fs : List Fld), kinds fs = ks → (∀ f ∈ fs, f.right) → Room w B v l → B ≤ w.heap.size → l.length ≤ 1000000 → Calls Try.prog f #[v, .agg (fs.map Fld.val).toArray] w (Gives B (l ++ bytesOf fs) w)
def SizeOk (f : FuncId) : Prop := ∀ (w : World) (x y : Nat) (kd : Int) (key val : ByteArray) (wt dl : Bool) (se nu co : Int) (rs : ByteArray) (hr : Bool), key.size ≤ 65536 → val.size ≤ 65536 → Calls Try.prog f #[.agg #[.complex .f64 x y, .int .i64 kd, .string key, .string val, .bool wt, .bool dl, .int .i64 se, .int .i64 nu, .int .i64 co, .string rs, .bool hr]] w fun e w' => e = .returned (.int .i64 ((key.size + val.size + 1 : Nat) : Int)) ∧ Below w.heap.size w w'

def zeroF : List Fld := [.ver 0 0, .int 0, .text ⟨#[]⟩, .text ⟨#[]⟩, .truth false, .truth false, .int 0, .int 0, .int 0, .text ⟨#[]⟩, .truth false]
def opF : List Fld := [.int 2, .text ⟨#[107]⟩, .text ⟨#[118]⟩, .text ⟨#[]⟩, .truth false]
theorem w0 : wint 0 = [0] := by
  show enc 0 = _
  rw [enc_small (by omega)]; rfl
theorem w1 : wint 1 = [2] := by
  show enc 2 = _
  rw [enc_small (by omega)]; rfl
theorem w2 : wint 2 = [4] := by
  show enc 4 = _
  rw [enc_small (by omega)]; rfl
theorem b_int : (Fld.int 0).bytes = [0] := w0
theorem b_two : (Fld.int 2).bytes = [4] := w2
theorem b_ver : (Fld.ver 0 0).bytes = [0, 0] := by show wint 0 ++ wint 0 = _; rw [w0]; rfl
theorem b_none : (Fld.text ⟨#[]⟩).bytes = [0] := by show wint 0 ++ [] = _; rw [w0]; rfl
theorem b_one (c : UInt8) : (Fld.text ⟨#[c]⟩).bytes = [2, c] := by show wint 1 ++ [c] = _; rw [w1]; rfl
theorem b_false : (Fld.truth false).bytes = [0] := rfl
theorem zero_bytes : bytesOf zeroF = [0, 0, 0, 0, 0, 0, 0, 0, 0, 0, 0, 0] := by
  unfold zeroF
  simp only [bytesOf, b_int, b_ver, b_none, b_false]
  rfl
theorem op_bytes : bytesOf opF = [4, 2, 107, 2, 118, 0, 0] := by
  unfold opF
  simp only [bytesOf, b_two, b_one, b_none, b_false]
  rfl
theorem zero_right : ∀ f ∈ zeroF, f.right := by
  have r0 : (Fld.int 0).right := ⟨by omega, by omega⟩
  have rv : (Fld.ver 0 0).right := ⟨⟨by decide, by decide⟩, by decide, by decide⟩
  have rt : (Fld.text ⟨#[]⟩).right := (by decide : (0 : Nat) ≤ 65536)
  intro f hf
  simp only [zeroF, List.mem_cons, List.not_mem_nil, or_false] at hf
  rcases hf with rfl | rfl | rfl | rfl | rfl | rfl | rfl | rfl | rfl | rfl | rfl <;> first | exact r0 | exact rv | exact rt | exact trivial
theorem op_right : ∀ f ∈ opF, f.right := by
  have r0 : (Fld.int 2).right := ⟨by omega, by omega⟩
  have rt : (Fld.text ⟨#[]⟩).right := (by decide : (0 : Nat) ≤ 65536)
  have r1 : ∀ c, (Fld.text ⟨#[c]⟩).right := fun _ => (by decide : (1 : Nat) ≤ 65536)
  intro f hf
  simp only [opF, List.mem_cons, List.not_mem_nil, or_false] at hf
  rcases hf with rfl | rfl | rfl | rfl | rfl <;> first | exact r0 | exact r1 _ | exact rt | exact trivial
theorem ver00 : ver 0 0 = .complex .f64 0 0 := by
  have h : F 0 = 0 := by decide +kernel
  show Value.complex .f64 (F 0) (F 0) = _
  rw [h]
theorem got_zero : gotS KE [0, 0, 0, 0, 0, 0, 0, 0, 0, 0, 0, 0] 0 = .tuple #[.agg #[.complex .f64 0 0, .int .i64 0, .string ⟨#[]⟩, .string ⟨#[]⟩, .bool false, .bool false, .int .i64 0, .int .i64 0, .int .i64 0, .string ⟨#[]⟩, .bool false], .int .i64 12, .bool true] := by
  have h := gets_bytes zeroF [] zero_right
  rw [List.append_nil, zero_bytes] at h
  have h2 : gets KE (([0, 0, 0, 0, 0, 0, 0, 0, 0, 0, 0, 0] : List UInt8).drop 0) = some (zeroF, 12) := h
  unfold gotS
  rw [h2]
  show Value.tuple #[.agg #[ver 0 0, _, _, _, _, _, _, _, _, _, _], _, _] = _
  rw [ver00]
  rfl
theorem got_op : gotS KO [4, 2, 107, 2, 118, 0, 0] 0 = .tuple #[.agg #[.int .i64 2, .string ⟨#[107]⟩, .string ⟨#[118]⟩, .string ⟨#[]⟩, .bool false], .int .i64 7, .bool true] := by
  have h := gets_bytes opF [] op_right
  rw [List.append_nil, op_bytes] at h
  have h2 : gets KO (([4, 2, 107, 2, 118, 0, 0] : List UInt8).drop 0) = some (opF, 7) := h
  unfold gotS
  rw [h2]
  rfl

set_option maxRecDepth 100000 in
set_option maxHeartbeats 1000000 in
theorem awake_of (PE : WritesOk 11 KE) (PO : WritesOk 12 KO) (GE : ReadsOk 6 KE) (GO : ReadsOk 7 KO) (SZ : SizeOk 13) : AwakeOk := by
  intro w
  have A1 : Hid (∀ W, Calls Try.prog 11 #[.slice none 0 0, .agg #[.complex .f64 0 0, .int .i64 0, .string ⟨#[]⟩, .string ⟨#[]⟩, .bool false, .bool false, .int .i64 0, .int .i64 0, .int .i64 0, .string ⟨#[]⟩, .bool false]] W (Tells [0, 0, 0, 0, 0, 0, 0, 0, 0, 0, 0, 0] W)) := fun W => by
    have := PE W W.heap.size (.slice none 0 0) [] zeroF rfl zero_right Room.nil (Nat.le_refl _) (by simp)
    rw [List.nil_append, zero_bytes] at this
    have h2 : Calls Try.prog 11 #[.slice none 0 0, .agg #[ver 0 0, .int .i64 0, .string ⟨#[]⟩, .string ⟨#[]⟩, .bool false, .bool false, .int .i64 0, .int .i64 0, .int .i64 0, .string ⟨#[]⟩, .bool false]] W (Tells [0, 0, 0, 0, 0, 0, 0, 0, 0, 0, 0, 0] W) := tells this
    rw [ver00] at h2
    exact h2
  have A2 : Hid (∀ W, Calls Try.prog 12 #[.slice none 0 0, .agg #[.int .i64 2, .string ⟨#[107]⟩, .string ⟨#[118]⟩, .string ⟨#[]⟩, .bool false]] W (Tells [4, 2, 107, 2, 118, 0, 0] W)) := fun W => by
    have := PO W W.heap.size (.slice none 0 0) [] opF rfl op_right Room.nil (Nat.le_refl _) (by simp)
    rw [List.nil_append, op_bytes] at this
    exact tells this
  have A3 : Hid (∀ W v, Seen W W.heap.size v [0, 0, 0, 0, 0, 0, 0, 0, 0, 0, 0, 0] → Calls Try.prog 6 #[v, .int .i64 0] W fun e w' => e = .returned (.tuple #[.agg #[.complex .f64 0 0, .int .i64 0, .string ⟨#[]⟩, .string ⟨#[]⟩, .bool false, .bool false, .int .i64 0, .int .i64 0, .int .i64 0, .string ⟨#[]⟩, .bool false], .int .i64 12, .bool true]) ∧ Below W.heap.size W w') := fun W v h => by
    have := GE W v _ 0 h (by simp) (by omega)
    rw [got_zero] at this
    exact this
  have A4 : Hid (∀ W v, Seen W W.heap.size v [4, 2, 107, 2, 118, 0, 0] → Calls Try.prog 7 #[v, .int .i64 0] W fun e w' => e = .returned (.tuple #[.agg #[.int .i64 2, .string ⟨#[107]⟩, .string ⟨#[118]⟩, .string ⟨#[]⟩, .bool false], .int .i64 7, .bool true]) ∧ Below W.heap.size W w') := fun W v h => by
    have := GO W v _ 0 h (by simp) (by omega)
    rw [got_op] at this
    exact this
  have A5 : Hid (∀ W, Calls Try.prog 13 #[.agg #[.complex .f64 0 0, .int .i64 0, .string ⟨#[97, 98]⟩, .string ⟨#[99]⟩, .bool false, .bool false, .int .i64 0, .int .i64 0, .int .i64 0, .string ⟨#[]⟩, .bool false]] W fun e w' => e = .returned (.int .i64 4) ∧ Below W.heap.size W w') := fun W =>
    SZ W 0 0 0 ⟨#[97, 98]⟩ ⟨#[99]⟩ false false 0 0 0 ⟨#[]⟩ false (by decide) (by decide)
  have hez := eq_zero
  clear PE PO GE GO SZ
  go_enter Try.func5, Try.ntmps5
  go_wp2_with (first
    | (go_at_call 11; (with_reducible refine (A1.out _).mono ?_); rintro e w1 ⟨B1, c1, rfl, hs1, hb1⟩)
    | (go_at_call 6; (refine (A3.out _ _ hs1).mono ?_); rintro e w2 ⟨rfl, hb2⟩)
    | (go_at_call 12; (refine (A2.out _).mono ?_); rintro e w3 ⟨B3, c3, rfl, hs3, hb3⟩)
    | (go_at_call 7; (refine (A4.out _ _ hs3).mono ?_); rintro e w4 ⟨rfl, hb4⟩; have U := bal w4 (.cells #[.int .i64 2, .string ⟨#[107]⟩, .string ⟨#[118]⟩, .string ⟨#[]⟩, .bool false] 31); have C1 := (((held_made w2 [.complex .f64 0 0, .int .i64 0, .string ⟨#[]⟩, .string ⟨#[]⟩, .bool false, .bool false, .int .i64 0, .int .i64 0, .int .i64 0, .string ⟨#[]⟩, .bool false] 27).on (bt hb3 hb4)).on U).all; have C2 := (held_made w4 [.int .i64 2, .string ⟨#[107]⟩, .string ⟨#[118]⟩, .string ⟨#[]⟩, .bool false] 31).all; simp only [cellsAre] at C1 C2)
    | (go_at_call 13; (refine (A5.out _).mono ?_); rintro e w5 ⟨rfl, hb5⟩))
  go_ret
  exact ⟨rfl, bt hb1 (bt hb2 (bt (bal w2 (.cells #[.complex .f64 0 0, .int .i64 0, .string ⟨#[]⟩, .string ⟨#[]⟩, .bool false, .bool false, .int .i64 0, .int .i64 0, .int .i64 0, .string ⟨#[]⟩, .bool false] 27)) (bt hb3 (bt hb4 (bt U hb5)))))⟩

end Go.Proofs.Ytmohanbgplffcaa
