/-
  What entry.PutOp, entry.Put and entry.Size come to (made by entry-put-gen.py).
-/
import Derived.Test.YtmohanbgplffcaaAd
import Derived.Test.YtmohanbgplffcaaRo
import Derived.Test.YtmohanbgplffcaaLg0
namespace Go.Proofs.Ytmohanbgplffcaa
open Go.RowKit Flo
attribute [local go_sem ↓] Go.wp_at_zero Go.wp_at_succ

/-- the first k fields are written; the box of all of them stands -/
def Step (B : Nat) (v : Value) (l : List UInt8) (g : Nat) (vs : List Value) (w1 : World) (k : Nat) (M : List UInt8) (W : World) (u : Value) : Prop :=
  Adds w1 B v l M W u ∧ Held g vs W ∧ u.ownBlock ≠ some g ∧ (l ++ M).length ≤ 1000000000 + 1000000 * k ∧ B ≤ W.heap.size
theorem Step.cells {B : Nat} {v : Value} {l : List UInt8} {g : Nat} {vs : List Value} {w1 : World} {k : Nat} {M : List UInt8} {W : World} {u : Value} (h : Step B v l g vs w1 k M W u) : cellsAre g W 0 vs := h.2.1.all
theorem Step.start {B : Nat} {v : Value} {l : List UInt8} {w : World} (vs : List Value) (T : TypeId) (hr : Room w B v l) (hB : B ≤ w.heap.size) (hl : l.length ≤ 1000000000) :
    Step B v l w.heap.size vs (w.alloc (.cells vs.toArray T)) 0 [] (w.alloc (.cells vs.toArray T)) v :=
  ⟨Adds.refl (hr.al _), held_made w vs T, fun e => absurd (hr.own_lt _ e) (Nat.lt_irrefl _), by rw [List.append_nil]; omega, Nat.le_trans hB (bal w _).size⟩
theorem Step.next {B : Nat} {v : Value} {l : List UInt8} {g : Nat} {vs : List Value} {w1 : World} {k : Nat} {M : List UInt8} {W W' : World} {u u' : Value} {f : Fld} (hf : f.right) (h : Step B v l g vs w1 k M W u) (ha : Adds W B u (l ++ M) f.bytes W' u') : Step B v l g vs w1 (k + 1) (M ++ f.bytes) W' u' := by
  obtain ⟨h1, h2, h3, h4, h5⟩ := h
  have hbl := bit_len f hf
  have hs := ha.2.1.size
  refine ⟨h1.trans ha, ⟨Nat.lt_of_lt_of_le h2.1 hs, fun i hi => (World.cell?_of_block (a := ⟨g, i, none⟩) (ha.2.2.2 g h2.1 h3)).trans (h2.2 i hi)⟩, fun e => ?_, ?_, Nat.le_trans h5 hs⟩
  · rcases ha.2.2.1 g e with h | h
    · exact h3 h
    · exact absurd h2.1 (by omega)
  · rw [← List.append_assoc, List.length_append]; omega
def Steps (B : Nat) (v : Value) (l : List UInt8) (g : Nat) (vs : List Value) (w1 : World) (k : Nat) (M : List UInt8) (e : Ending) (W' : World) : Prop := ∃ u', e = .returned u' ∧ Step B v l g vs w1 k M W' u'
section
variable {B : Nat} {v : Value} {l : List UInt8} {g : Nat} {vs : List Value} {w1 : World} {k : Nat} {M : List UInt8} {W : World} {u : Value} (h : Step B v l g vs w1 k M W u) (hk : k ≤ 100)
include h hk
theorem step_int {n : Int} (hf : (Fld.int n).right) : Calls Try.prog 28 #[u, .int .i64 n] W (Steps B v l g vs w1 (k + 1) (M ++ (Fld.int n).bytes)) :=
  (int_adds n W B u (l ++ M) hf.1 hf.2 h.1.1 h.2.2.2.2 (by have := h.2.2.2.1; omega)).mono fun _ _ ⟨v', he, ha⟩ => ⟨v', he, h.next hf ha⟩
theorem step_text {s : ByteArray} (hf : (Fld.text s).right) : Calls Try.prog 29 #[u, .string s] W (Steps B v l g vs w1 (k + 1) (M ++ (Fld.text s).bytes)) :=
  (text_adds s W B u (l ++ M) h.1.1 h.2.2.2.2 (by have := h.2.2.2.1; omega) (by have : s.size ≤ 65536 := hf; omega)).mono fun _ _ ⟨v', he, ha⟩ => ⟨v', he, h.next hf ha⟩
theorem step_truth {b : Bool} : Calls Try.prog 30 #[u, .bool b] W (Steps B v l g vs w1 (k + 1) (M ++ (Fld.truth b).bytes)) :=
  (bool_adds b W B u (l ++ M) h.1.1 h.2.2.2.2 (by have := h.2.2.2.1; omega)).mono fun _ _ ⟨v', he, ha⟩ => ⟨v', he, h.next (f := .truth b) trivial ha⟩
theorem step_ver {a b : Int} (hf : (Fld.ver a b).right) : Calls Try.prog 27 #[u, ver a b] W (Steps B v l g vs w1 (k + 1) (M ++ (Fld.ver a b).bytes)) :=
  (wver_adds a b W B u (l ++ M) h.1.1 h.2.2.2.2 (by have := h.2.2.2.1; omega) (in_of hf.1) (in_of hf.2)).mono fun _ _ ⟨v', he, ha⟩ => ⟨v', he, h.next hf ha⟩
end

set_option maxRecDepth 100000 in
set_option maxHeartbeats 1000000 in
theorem putop_any (kd : Int) (key : ByteArray) (val : ByteArray) (old : ByteArray) (has : Bool) (w : World) (B : Nat) (v : Value) (l : List UInt8) (hroom : Room w B v l) (hB : B ≤ w.heap.size) (hl : l.length ≤ 1000000000) (h1 : (Fld.int kd).right) (h2 : (Fld.text key).right) (h3 : (Fld.text val).right) (h4 : (Fld.text old).right) :
    Calls Try.prog 12 #[v, .agg #[.int .i64 kd, .string key, .string val, .string old, .bool has]] w fun e w' => ∃ v', e = .returned v' ∧ Adds w B v l (bytesOf [Fld.int kd, Fld.text key, Fld.text val, Fld.text old, Fld.truth has]) w' v' := by
  have S0 := Step.start [.int .i64 kd, .string key, .string val, .string old, .bool has] 31 hroom hB hl
  have C0 := S0.cells
  simp only [cellsAre] at C0
  have HB := Lib.hid hB
  have R1 := Lib.hid (fun (W : World) (u : Value) (M : List UInt8) (h : Step B v l w.heap.size [.int .i64 kd, .string key, .string val, .string old, .bool has] (w.alloc (.cells #[.int .i64 kd, .string key, .string val, .string old, .bool has] 31)) 0 M W u) => step_int h (by omega) h1)
  have R2 := Lib.hid (fun (W : World) (u : Value) (M : List UInt8) (h : Step B v l w.heap.size [.int .i64 kd, .string key, .string val, .string old, .bool has] (w.alloc (.cells #[.int .i64 kd, .string key, .string val, .string old, .bool has] 31)) 1 M W u) => step_text h (by omega) h2)
  have R3 := Lib.hid (fun (W : World) (u : Value) (M : List UInt8) (h : Step B v l w.heap.size [.int .i64 kd, .string key, .string val, .string old, .bool has] (w.alloc (.cells #[.int .i64 kd, .string key, .string val, .string old, .bool has] 31)) 2 M W u) => step_text h (by omega) h3)
  have R4 := Lib.hid (fun (W : World) (u : Value) (M : List UInt8) (h : Step B v l w.heap.size [.int .i64 kd, .string key, .string val, .string old, .bool has] (w.alloc (.cells #[.int .i64 kd, .string key, .string val, .string old, .bool has] 31)) 3 M W u) => step_text h (by omega) h4)
  have R5 := Lib.hid (fun (W : World) (u : Value) (M : List UInt8) (h : Step B v l w.heap.size [.int .i64 kd, .string key, .string val, .string old, .bool has] (w.alloc (.cells #[.int .i64 kd, .string key, .string val, .string old, .bool has] 31)) 4 M W u) => step_truth (b := has) h (by omega))
  clear hroom hB hl h1 h2 h3 h4
  go_enter Try.func12, Try.ntmps12
  go_wp2_with (first
    | (go_at_call 28; (with_reducible refine (R1.out _ _ _ S0).mono ?_); rintro e w1 ⟨v1, rfl, S1⟩; have C1 := S1.cells; simp only [cellsAre] at C1; clear C0)
    | (go_at_call 29; (with_reducible refine (R2.out _ _ _ S1).mono ?_); rintro e w2 ⟨v2, rfl, S2⟩; have C2 := S2.cells; simp only [cellsAre] at C2; clear C1)
    | (go_at_call 29; (with_reducible refine (R3.out _ _ _ S2).mono ?_); rintro e w3 ⟨v3, rfl, S3⟩; have C3 := S3.cells; simp only [cellsAre] at C3; clear C2)
    | (go_at_call 29; (with_reducible refine (R4.out _ _ _ S3).mono ?_); rintro e w4 ⟨v4, rfl, S4⟩; have C4 := S4.cells; simp only [cellsAre] at C4; clear C3)
    | (go_at_call 30; (with_reducible refine (R5.out _ _ _ S4).mono ?_); rintro e w5 ⟨v5, rfl, S5⟩))
  go_ret
  refine ⟨v5, rfl, ?_⟩
  have h := Adds.ahead (bal w _) HB.out S5.1
  simp only [List.nil_append, List.append_assoc] at h
  simp only [bytesOf, List.append_nil]
  exact h

set_option maxRecDepth 100000 in
set_option maxHeartbeats 1000000 in
theorem putentry_any (vr : Int × Int) (kd : Int) (key : ByteArray) (val : ByteArray) (wr : Bool) (dl : Bool) (se : Int) (nu : Int) (co : Int) (rs : ByteArray) (hr : Bool) (w : World) (B : Nat) (v : Value) (l : List UInt8) (hroom : Room w B v l) (hB : B ≤ w.heap.size) (hl : l.length ≤ 1000000000) (h1 : (Fld.ver vr.1 vr.2).right) (h2 : (Fld.int kd).right) (h3 : (Fld.text key).right) (h4 : (Fld.text val).right) (h7 : (Fld.int se).right) (h8 : (Fld.int nu).right) (h9 : (Fld.int co).right) (h10 : (Fld.text rs).right) :
    Calls Try.prog 11 #[v, .agg #[ver vr.1 vr.2, .int .i64 kd, .string key, .string val, .bool wr, .bool dl, .int .i64 se, .int .i64 nu, .int .i64 co, .string rs, .bool hr]] w fun e w' => ∃ v', e = .returned v' ∧ Adds w B v l (bytesOf [Fld.ver vr.1 vr.2, Fld.int kd, Fld.text key, Fld.text val, Fld.truth wr, Fld.truth dl, Fld.int se, Fld.int nu, Fld.int co, Fld.text rs, Fld.truth hr]) w' v' := by
  have S0 := Step.start [ver vr.1 vr.2, .int .i64 kd, .string key, .string val, .bool wr, .bool dl, .int .i64 se, .int .i64 nu, .int .i64 co, .string rs, .bool hr] 27 hroom hB hl
  have C0 := S0.cells
  simp only [cellsAre] at C0
  have HB := Lib.hid hB
  have R1 := Lib.hid (fun (W : World) (u : Value) (M : List UInt8) (h : Step B v l w.heap.size [ver vr.1 vr.2, .int .i64 kd, .string key, .string val, .bool wr, .bool dl, .int .i64 se, .int .i64 nu, .int .i64 co, .string rs, .bool hr] (w.alloc (.cells #[ver vr.1 vr.2, .int .i64 kd, .string key, .string val, .bool wr, .bool dl, .int .i64 se, .int .i64 nu, .int .i64 co, .string rs, .bool hr] 27)) 0 M W u) => step_ver h (by omega) h1)
  have R2 := Lib.hid (fun (W : World) (u : Value) (M : List UInt8) (h : Step B v l w.heap.size [ver vr.1 vr.2, .int .i64 kd, .string key, .string val, .bool wr, .bool dl, .int .i64 se, .int .i64 nu, .int .i64 co, .string rs, .bool hr] (w.alloc (.cells #[ver vr.1 vr.2, .int .i64 kd, .string key, .string val, .bool wr, .bool dl, .int .i64 se, .int .i64 nu, .int .i64 co, .string rs, .bool hr] 27)) 1 M W u) => step_int h (by omega) h2)
  have R3 := Lib.hid (fun (W : World) (u : Value) (M : List UInt8) (h : Step B v l w.heap.size [ver vr.1 vr.2, .int .i64 kd, .string key, .string val, .bool wr, .bool dl, .int .i64 se, .int .i64 nu, .int .i64 co, .string rs, .bool hr] (w.alloc (.cells #[ver vr.1 vr.2, .int .i64 kd, .string key, .string val, .bool wr, .bool dl, .int .i64 se, .int .i64 nu, .int .i64 co, .string rs, .bool hr] 27)) 2 M W u) => step_text h (by omega) h3)
  have R4 := Lib.hid (fun (W : World) (u : Value) (M : List UInt8) (h : Step B v l w.heap.size [ver vr.1 vr.2, .int .i64 kd, .string key, .string val, .bool wr, .bool dl, .int .i64 se, .int .i64 nu, .int .i64 co, .string rs, .bool hr] (w.alloc (.cells #[ver vr.1 vr.2, .int .i64 kd, .string key, .string val, .bool wr, .bool dl, .int .i64 se, .int .i64 nu, .int .i64 co, .string rs, .bool hr] 27)) 3 M W u) => step_text h (by omega) h4)
  have R5 := Lib.hid (fun (W : World) (u : Value) (M : List UInt8) (h : Step B v l w.heap.size [ver vr.1 vr.2, .int .i64 kd, .string key, .string val, .bool wr, .bool dl, .int .i64 se, .int .i64 nu, .int .i64 co, .string rs, .bool hr] (w.alloc (.cells #[ver vr.1 vr.2, .int .i64 kd, .string key, .string val, .bool wr, .bool dl, .int .i64 se, .int .i64 nu, .int .i64 co, .string rs, .bool hr] 27)) 4 M W u) => step_truth (b := wr) h (by omega))
  have R6 := Lib.hid (fun (W : World) (u : Value) (M : List UInt8) (h : Step B v l w.heap.size [ver vr.1 vr.2, .int .i64 kd, .string key, .string val, .bool wr, .bool dl, .int .i64 se, .int .i64 nu, .int .i64 co, .string rs, .bool hr] (w.alloc (.cells #[ver vr.1 vr.2, .int .i64 kd, .string key, .string val, .bool wr, .bool dl, .int .i64 se, .int .i64 nu, .int .i64 co, .string rs, .bool hr] 27)) 5 M W u) => step_truth (b := dl) h (by omega))
  have R7 := Lib.hid (fun (W : World) (u : Value) (M : List UInt8) (h : Step B v l w.heap.size [ver vr.1 vr.2, .int .i64 kd, .string key, .string val, .bool wr, .bool dl, .int .i64 se, .int .i64 nu, .int .i64 co, .string rs, .bool hr] (w.alloc (.cells #[ver vr.1 vr.2, .int .i64 kd, .string key, .string val, .bool wr, .bool dl, .int .i64 se, .int .i64 nu, .int .i64 co, .string rs, .bool hr] 27)) 6 M W u) => step_int h (by omega) h7)
  have R8 := Lib.hid (fun (W : World) (u : Value) (M : List UInt8) (h : Step B v l w.heap.size [ver vr.1 vr.2, .int .i64 kd, .string key, .string val, .bool wr, .bool dl, .int .i64 se, .int .i64 nu, .int .i64 co, .string rs, .bool hr] (w.alloc (.cells #[ver vr.1 vr.2, .int .i64 kd, .string key, .string val, .bool wr, .bool dl, .int .i64 se, .int .i64 nu, .int .i64 co, .string rs, .bool hr] 27)) 7 M W u) => step_int h (by omega) h8)
  have R9 := Lib.hid (fun (W : World) (u : Value) (M : List UInt8) (h : Step B v l w.heap.size [ver vr.1 vr.2, .int .i64 kd, .string key, .string val, .bool wr, .bool dl, .int .i64 se, .int .i64 nu, .int .i64 co, .string rs, .bool hr] (w.alloc (.cells #[ver vr.1 vr.2, .int .i64 kd, .string key, .string val, .bool wr, .bool dl, .int .i64 se, .int .i64 nu, .int .i64 co, .string rs, .bool hr] 27)) 8 M W u) => step_int h (by omega) h9)
  have R10 := Lib.hid (fun (W : World) (u : Value) (M : List UInt8) (h : Step B v l w.heap.size [ver vr.1 vr.2, .int .i64 kd, .string key, .string val, .bool wr, .bool dl, .int .i64 se, .int .i64 nu, .int .i64 co, .string rs, .bool hr] (w.alloc (.cells #[ver vr.1 vr.2, .int .i64 kd, .string key, .string val, .bool wr, .bool dl, .int .i64 se, .int .i64 nu, .int .i64 co, .string rs, .bool hr] 27)) 9 M W u) => step_text h (by omega) h10)
  have R11 := Lib.hid (fun (W : World) (u : Value) (M : List UInt8) (h : Step B v l w.heap.size [ver vr.1 vr.2, .int .i64 kd, .string key, .string val, .bool wr, .bool dl, .int .i64 se, .int .i64 nu, .int .i64 co, .string rs, .bool hr] (w.alloc (.cells #[ver vr.1 vr.2, .int .i64 kd, .string key, .string val, .bool wr, .bool dl, .int .i64 se, .int .i64 nu, .int .i64 co, .string rs, .bool hr] 27)) 10 M W u) => step_truth (b := hr) h (by omega))
  clear hroom hB hl h1 h2 h3 h4 h7 h8 h9 h10
  go_enter Try.func11, Try.ntmps11
  go_wp2_with (first
    | (go_at_call 27; (with_reducible refine (R1.out _ _ _ S0).mono ?_); rintro e w1 ⟨v1, rfl, S1⟩; have C1 := S1.cells; simp only [cellsAre] at C1; clear C0)
    | (go_at_call 28; (with_reducible refine (R2.out _ _ _ S1).mono ?_); rintro e w2 ⟨v2, rfl, S2⟩; have C2 := S2.cells; simp only [cellsAre] at C2; clear C1)
    | (go_at_call 29; (with_reducible refine (R3.out _ _ _ S2).mono ?_); rintro e w3 ⟨v3, rfl, S3⟩; have C3 := S3.cells; simp only [cellsAre] at C3; clear C2)
    | (go_at_call 29; (with_reducible refine (R4.out _ _ _ S3).mono ?_); rintro e w4 ⟨v4, rfl, S4⟩; have C4 := S4.cells; simp only [cellsAre] at C4; clear C3)
    | (go_at_call 30; (with_reducible refine (R5.out _ _ _ S4).mono ?_); rintro e w5 ⟨v5, rfl, S5⟩; have C5 := S5.cells; simp only [cellsAre] at C5; clear C4)
    | (go_at_call 30; (with_reducible refine (R6.out _ _ _ S5).mono ?_); rintro e w6 ⟨v6, rfl, S6⟩; have C6 := S6.cells; simp only [cellsAre] at C6; clear C5)
    | (go_at_call 28; (with_reducible refine (R7.out _ _ _ S6).mono ?_); rintro e w7 ⟨v7, rfl, S7⟩; have C7 := S7.cells; simp only [cellsAre] at C7; clear C6)
    | (go_at_call 28; (with_reducible refine (R8.out _ _ _ S7).mono ?_); rintro e w8 ⟨v8, rfl, S8⟩; have C8 := S8.cells; simp only [cellsAre] at C8; clear C7)
    | (go_at_call 28; (with_reducible refine (R9.out _ _ _ S8).mono ?_); rintro e w9 ⟨v9, rfl, S9⟩; have C9 := S9.cells; simp only [cellsAre] at C9; clear C8)
    | (go_at_call 29; (with_reducible refine (R10.out _ _ _ S9).mono ?_); rintro e w10 ⟨v10, rfl, S10⟩; have C10 := S10.cells; simp only [cellsAre] at C10; clear C9)
    | (go_at_call 30; (with_reducible refine (R11.out _ _ _ S10).mono ?_); rintro e w11 ⟨v11, rfl, S11⟩))
  go_ret
  refine ⟨v11, rfl, ?_⟩
  have h := Adds.ahead (bal w _) HB.out S11.1
  simp only [List.nil_append, List.append_assoc] at h
  simp only [bytesOf, List.append_nil]
  exact h

theorem put_writesO : ∀ (w : World) (B : Nat) (v : Value) (l : List UInt8) (fs : List Fld), kinds fs = KO → (∀ f ∈ fs, f.right) → Room w B v l → B ≤ w.heap.size → l.length ≤ 1000000000 → Calls Try.prog 12 #[v, .agg (fs.map Fld.val).toArray] w fun e w' => ∃ v', e = .returned v' ∧ Adds w B v l (bytesOf fs) w' v' := by
  intro w B v l fs hk hf hr hB hl
  obtain ⟨kd, key, val, old, has, rfl⟩ := kinds_op hk
  exact putop_any kd key val old has w B v l hr hB hl (hf _ (by simp)) (hf _ (by simp)) (hf _ (by simp)) (hf _ (by simp))
theorem put_writesE : ∀ (w : World) (B : Nat) (v : Value) (l : List UInt8) (fs : List Fld), kinds fs = KE → (∀ f ∈ fs, f.right) → Room w B v l → B ≤ w.heap.size → l.length ≤ 1000000000 → Calls Try.prog 11 #[v, .agg (fs.map Fld.val).toArray] w fun e w' => ∃ v', e = .returned v' ∧ Adds w B v l (bytesOf fs) w' v' := by
  intro w B v l fs hk hf hr hB hl
  obtain ⟨vr, kd, key, val, wr, dl, se, nu, co, rs, hr', rfl⟩ := kinds_en hk
  exact putentry_any vr kd key val wr dl se nu co rs hr' w B v l hr hB hl (hf _ (by simp)) (hf _ (by simp)) (hf _ (by simp)) (hf _ (by simp)) (hf _ (by simp)) (hf _ (by simp)) (hf _ (by simp)) (hf _ (by simp))

set_option maxRecDepth 100000 in
theorem size_any (w : World) (x y : Nat) (kd : Int) (key val : ByteArray) (wt dl : Bool) (se nu co : Int) (rs : ByteArray) (hr : Bool) (h1 : key.size ≤ 1099511627776) (h2 : val.size ≤ 1099511627776) : Calls Try.prog 13 #[.agg #[.complex .f64 x y, .int .i64 kd, .string key, .string val, .bool wt, .bool dl, .int .i64 se, .int .i64 nu, .int .i64 co, .string rs, .bool hr]] w fun e w' => e = .returned (.int .i64 ((key.size + val.size + 1 : Nat) : Int)) ∧ Below w.heap.size w w' := by
  have C0 := (held_made w [.complex .f64 x y, .int .i64 kd, .string key, .string val, .bool wt, .bool dl, .int .i64 se, .int .i64 nu, .int .i64 co, .string rs, .bool hr] 27).all
  simp only [cellsAre] at C0
  go_enter Try.func13, Try.ntmps13
  go_wp2_with fail
  go_ret
  exact ⟨ret_int (by omega), bal w _⟩

end Go.Proofs.Ytmohanbgplffcaa
