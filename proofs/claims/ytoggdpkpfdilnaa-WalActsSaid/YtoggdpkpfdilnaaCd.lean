/-
  The program's change of a content.
-/
import Derived.Test.YtoggdpkpfdilnaaRd
import Derived.Deep.RegionLaw
namespace Go.Proofs.Ytoggdpkpfdilnaa
open Go.RowKit
attribute [local go_sem ↓] Go.wp_at_zero Go.wp_at_succ

/-- append at a step of a region that draws its order: what is kept, too -/
theorem step_append8k {P : Program} {ops : Array Oper} {o : Oper} {a : Act} {w : World} {K : Act → World → Prop} {Q : Exit → Act → World → Prop} {E : Prop} {B : Nat} {v xv : Value} {l m : List UInt8} (hgd : o.guard = none) (s x : Operand) (t tx : TypeId)
    (ho : o.op = .call { callee := .builtin .append, args := #[s, x], argTypes := #[t, tx] })
    (e : TypeId) (i : TypeInfo) (ht : P.underlying t = some (.slice e)) (hi : P.info? e = some i) (hz : i.zero = some (.int .u8 0)) (h1 : i.size = 1) (hy : i.bytes = 1)
    (hr : Room w B v l) (hB : B ≤ w.heap.size) (hs : Src P 1 tx xv m.length (c8 m) w) (hl : l.length + m.length ≤ 1099511627776) (hv : a.eval s = v) (hx : a.eval x = xv)
    (h : ∀ v' w', Room w' B v' (l ++ m) → Below B w w' → (∀ g, v'.ownBlock = some g → v.ownBlock = some g ∨ w.heap.size ≤ g) → (∀ k, k < w.heap.size → v.ownBlock ≠ some k → w'.heap[k]? = w.heap[k]?) → K (a.put o.dst v') w') : if Region.wanted o (yielded ops a.tmps) = true then Oper.wp P o a w K Q else E := by
  have hw : Region.wanted o (yielded ops a.tmps) = true := by simp [Region.wanted, hgd]
  rw [if_pos hw]
  obtain ⟨v', w', hrun, h2, h3, h4, h5⟩ := run_append8k (P := P) t tx o.type e i ht hi hz h1 hy hr hB hs hl
  unfold Oper.wp execOp
  simp only [ho, resolve, invoke, builtin, Sem.run_bind, Sem.run_pure, Result.andThen_ok, List.map_toArray, List.map_cons, List.map_nil, hv, hx, hrun]
  exact h v' w' h2 h3 h4 h5

/-- the content's cells, turned -/
def turn3 (vs : List Value) (o : Nat) (u0 u1 : Value) (f : Int) : List Value := ((vs.set o u0).set (o + 1) u1).set (o + 2) (.int .i64 f)
theorem set_same : ∀ (vs : List Value) (i : Nat) (u : Value), vs[i]? = some u → vs.set i u = vs
  | [], _, _, _ => rfl
  | a :: vs, 0, u, h => by
    obtain rfl : a = u := by simpa using h
    rfl
  | a :: vs, i + 1, u, h => by
    rw [List.set_cons_succ, set_same vs i u (by simpa using h)]
/-- what comes of a change of a content that stands at cell o of block g -/
def DoneC (B g o : Nat) (vs : List Value) (u0 u1 : Value) (x : Cont) (w w' : World) : Prop := ∃ v0 v1, BoxF g (turn3 vs o v0 v1 x.front) w' ∧ RoomO w' B v0 x.a0 ∧ RoomO w' B v1 x.a1 ∧ (∀ k, v0.ownBlock = some k → u0.ownBlock = some k ∨ w.heap.size ≤ k) ∧ (∀ k, v1.ownBlock = some k → u1.ownBlock = some k ∨ w.heap.size ≤ k) ∧ (∀ k, v0.ownBlock = some k → v1.ownBlock ≠ some k) ∧ Below B w w' ∧ ∀ k, k < w.heap.size → k ≠ g → u0.ownBlock ≠ some k → u1.ownBlock ≠ some k → w'.heap[k]? = w.heap[k]?

section
variable (g o : Nat) (vs : List Value) (u0 u1 : Value) (x : Cont) (w : World) (B : Nat) (hbox : BoxF g vs w) (e0 : vs[o]? = some u0) (e1 : vs[o + 1]? = some u1) (e2 : vs[o + 2]? = some (.int .i64 x.front))
  (h0 : RoomO w B u0 x.a0) (h1 : RoomO w B u1 x.a1) (hg : B ≤ g) (hgB : B ≤ w.heap.size) (hap : Apart [some g, u0.ownBlock, u1.ownBlock])
include hbox e0 e1 e2 h0 h1 hg hgB hap
theorem done0 {l : List UInt8} {v3 : Value} {wa w3 : World} (hwa : Below w.heap.size w wa) (hb3 : Below B wa w3) (hr3 : Room w3 B v3 l) (ho3 : ∀ k, v3.ownBlock = some k → u0.ownBlock = some k ∨ wa.heap.size ≤ k) (hk3 : ∀ k, k < wa.heap.size → u0.ownBlock ≠ some k → w3.heap[k]? = wa.heap[k]?) :
    DoneC B g o vs u0 u1 { x with a0 := l } w (w3.setCell ⟨g, o, none⟩ v3) := by
  have hgl := hbox.1
  have hwas := hwa.size
  have hug : u0.ownBlock ≠ some g := fun e => hap.get 1 0 (by omega) rfl rfl g e rfl
  have hvg : ∀ k, v3.ownBlock = some k → k ≠ g := fun k e eg => by
    rcases ho3 k e with h | h
    · exact hug (by rw [← eg]; exact h)
    · omega
  have hb3x : BoxF g vs w3 := (hbox.on hwa).kept (hk3 g (by omega) hug) hb3.size
  have hsz : w.heap.size ≤ (w3.setCell ⟨g, o, none⟩ v3).heap.size := by have := hb3.size; simp [World.setCell]; omega
  have hcell : ∀ k, k ≠ g → (w3.setCell ⟨g, o, none⟩ v3).heap[k]? = w3.heap[k]? := fun k hne => Below.heap_setCell w3 ⟨g, o, none⟩ v3 k hne
  have hk : ∀ k, k < w.heap.size → k ≠ g → u0.ownBlock ≠ some k → (w3.setCell ⟨g, o, none⟩ v3).heap[k]? = w.heap[k]? := fun k a b c => (hcell k b).trans ((hk3 k (by omega) c).trans (hwa.block k a))
  have hv3o : RoomO (w3.setCell ⟨g, o, none⟩ v3) B v3 l := ⟨hr3.kept (fun k e => hcell k (hvg k e)) (by simp [World.setCell]), fun k e => ⟨(ho3 k e).elim (fun h => (h0.2 k h).1) (fun h => by omega), by have := hr3.own_lt k e; simpa [World.setCell] using this⟩⟩
  have hkv : ∀ k, u1.ownBlock = some k → (w3.setCell ⟨g, o, none⟩ v3).heap[k]? = w.heap[k]? := fun k e => hk k (h1.2 k e).2 (fun eg => hap.get 2 0 (by omega) rfl rfl g (by rw [← eg]; exact e) rfl) (fun h => hap.get 1 2 (by omega) rfl rfl k h e)
  have hi : o < vs.length := (List.getElem?_eq_some_iff.1 e0).1
  refine ⟨v3, u1, ?_, hv3o, (h1.kept hkv hsz), (fun k e => (ho3 k e).imp id (fun h => Nat.le_trans hwa.size h)), (fun k e => .inl e), (fun k e1 e2 => (ho3 k e1).elim (fun h => hap.get 1 2 (by omega) rfl rfl k h e2) (fun h => by have := (h1.2 k e2).2; have := hwa.size; omega)), below_set ((hwa.mono hgB).trans hb3) g (o) v3 hg, fun k a b c d => hk k a b c⟩
  have hbs := hb3x.set (o) hi v3
  unfold turn3
  rw [set_same (vs.set o v3) (o + 1) u1 (by rw [List.getElem?_set_ne (by omega)]; exact e1), set_same (vs.set o v3) (o + 2) (.int .i64 x.front) (by rw [List.getElem?_set_ne (by omega)]; exact e2)]
  exact hbs
theorem done1 {l : List UInt8} {v3 : Value} {wa w3 : World} (hwa : Below w.heap.size w wa) (hb3 : Below B wa w3) (hr3 : Room w3 B v3 l) (ho3 : ∀ k, v3.ownBlock = some k → u1.ownBlock = some k ∨ wa.heap.size ≤ k) (hk3 : ∀ k, k < wa.heap.size → u1.ownBlock ≠ some k → w3.heap[k]? = wa.heap[k]?) :
    DoneC B g o vs u0 u1 { x with a1 := l } w (w3.setCell ⟨g, o + 1, none⟩ v3) := by
  have hgl := hbox.1
  have hwas := hwa.size
  have hug : u1.ownBlock ≠ some g := fun e => hap.get 2 0 (by omega) rfl rfl g e rfl
  have hvg : ∀ k, v3.ownBlock = some k → k ≠ g := fun k e eg => by
    rcases ho3 k e with h | h
    · exact hug (by rw [← eg]; exact h)
    · omega
  have hb3x : BoxF g vs w3 := (hbox.on hwa).kept (hk3 g (by omega) hug) hb3.size
  have hsz : w.heap.size ≤ (w3.setCell ⟨g, o + 1, none⟩ v3).heap.size := by have := hb3.size; simp [World.setCell]; omega
  have hcell : ∀ k, k ≠ g → (w3.setCell ⟨g, o + 1, none⟩ v3).heap[k]? = w3.heap[k]? := fun k hne => Below.heap_setCell w3 ⟨g, o + 1, none⟩ v3 k hne
  have hk : ∀ k, k < w.heap.size → k ≠ g → u1.ownBlock ≠ some k → (w3.setCell ⟨g, o + 1, none⟩ v3).heap[k]? = w.heap[k]? := fun k a b c => (hcell k b).trans ((hk3 k (by omega) c).trans (hwa.block k a))
  have hv3o : RoomO (w3.setCell ⟨g, o + 1, none⟩ v3) B v3 l := ⟨hr3.kept (fun k e => hcell k (hvg k e)) (by simp [World.setCell]), fun k e => ⟨(ho3 k e).elim (fun h => (h1.2 k h).1) (fun h => by omega), by have := hr3.own_lt k e; simpa [World.setCell] using this⟩⟩
  have hkv : ∀ k, u0.ownBlock = some k → (w3.setCell ⟨g, o + 1, none⟩ v3).heap[k]? = w.heap[k]? := fun k e => hk k (h0.2 k e).2 (fun eg => hap.get 1 0 (by omega) rfl rfl g (by rw [← eg]; exact e) rfl) (fun h => hap.get 2 1 (by omega) rfl rfl k h e)
  have hi : o + 1 < vs.length := (List.getElem?_eq_some_iff.1 e1).1
  refine ⟨u0, v3, ?_, (h0.kept hkv hsz), hv3o, (fun k e => .inl e), (fun k e => (ho3 k e).imp id (fun h => Nat.le_trans hwa.size h)), (fun k e2 e1 => (ho3 k e1).elim (fun h => hap.get 2 1 (by omega) rfl rfl k h e2) (fun h => by have := (h0.2 k e2).2; have := hwa.size; omega)), below_set ((hwa.mono hgB).trans hb3) g (o + 1) v3 hg, fun k a b c d => hk k a b d⟩
  have hbs := hb3x.set (o + 1) hi v3
  unfold turn3
  rw [set_same vs o u0 e0, set_same (vs.set (o + 1) v3) (o + 2) (.int .i64 x.front) (by rw [List.getElem?_set_ne (by omega)]; exact e2)]
  exact hbs
set_option maxRecDepth 100000 in
theorem do_front (text : ByteArray) (area : Int) :
    Calls Try.prog 39 #[.pointer (some ⟨g, o, none⟩), .agg #[.int .i64 2, .int .i64 area, .string text]] w fun e w' => e = .returned (.tuple #[]) ∧ DoneC B g o vs u0 u1 { x with front := area } w w' := by
  have hwa := bal w (.cells #[.int .i64 2, .int .i64 area, .string text] 73)
  have HBX : Hid (BoxF g vs (w.alloc (.cells #[.int .i64 2, .int .i64 area, .string text] 73))) := hbox.on hwa
  have y2 := HBX.out.get (o + 2) e2
  have hi2 : o + 2 < vs.length := (List.getElem?_eq_some_iff.1 e2).1
  have f2 := HBX.out.free (o + 2) hi2
  have HI := Lib.hid hi2
  have H0 := Lib.hid (h0.on hwa)
  have H1 := Lib.hid (h1.on hwa)
  have HAP := Lib.hid hap
  have HG := Lib.hid hg
  have HGB := Lib.hid hgB
  have HE := Lib.hid (And.intro (set_same vs o u0 e0) (set_same vs (o + 1) u1 e1))
  have HW := Lib.hid hwa
  have HSZ := Lib.hid hbox.1
  clear hbox e0 e1 e2 h0 h1 hg hgB hap hwa hi2
  go_enter Try.func39, Try.ntmps39
  go_wp2
  go_end0
  have hbs := HBX.out.set (o + 2) HI.out (.int .i64 area)
  have hbb : Below B w ((w.alloc (.cells #[.int .i64 2, .int .i64 area, .string text] 73)).setCell ⟨g, o + 2, none⟩ (.int .i64 area)) := below_set (HW.out.mono HGB.out) g (o + 2) (.int .i64 area) HG.out
  have hk : ∀ k, k < w.heap.size → k ≠ g → ((w.alloc (.cells #[.int .i64 2, .int .i64 area, .string text] 73)).setCell ⟨g, o + 2, none⟩ (.int .i64 area)).heap[k]? = w.heap[k]? := fun k hk hne => (Below.heap_setCell _ ⟨g, o + 2, none⟩ _ k hne).trans (HW.out.block k hk)
  have hka : ∀ k, k ≠ g → ((w.alloc (.cells #[.int .i64 2, .int .i64 area, .string text] 73)).setCell ⟨g, o + 2, none⟩ (.int .i64 area)).heap[k]? = (w.alloc (.cells #[.int .i64 2, .int .i64 area, .string text] 73)).heap[k]? := fun k hne => Below.heap_setCell _ ⟨g, o + 2, none⟩ _ k hne
  have hsz : (w.alloc (.cells #[.int .i64 2, .int .i64 area, .string text] 73)).heap.size ≤ ((w.alloc (.cells #[.int .i64 2, .int .i64 area, .string text] 73)).setCell ⟨g, o + 2, none⟩ (.int .i64 area)).heap.size := by simp [World.setCell]
  refine ⟨rfl, u0, u1, ?_, H0.out.kept (fun k e => hka k (fun eg => HAP.out.get 0 1 (by omega) rfl rfl g rfl (by rw [← eg]; exact e))) hsz, H1.out.kept (fun k e => hka k (fun eg => HAP.out.get 0 2 (by omega) rfl rfl g rfl (by rw [← eg]; exact e))) hsz, fun k e => .inl e, fun k e => .inl e, fun k e => HAP.out.get 1 2 (by omega) rfl rfl k e, hbb, fun k a b _ _ => hk k a b⟩
  unfold turn3
  rw [HE.out.1, HE.out.2]
  exact hbs
set_option maxRecDepth 100000 in
theorem do_wipe0 (text : ByteArray) :
    Calls Try.prog 39 #[.pointer (some ⟨g, o, none⟩), .agg #[.int .i64 1, .int .i64 0, .string text]] w fun e w' => e = .returned (.tuple #[]) ∧ DoneC B g o vs u0 u1 { x with a0 := [] } w w' := by
  have hwa := bal w (.cells #[.int .i64 1, .int .i64 0, .string text] 73)
  have HBX : Hid (BoxF g vs (w.alloc (.cells #[.int .i64 1, .int .i64 0, .string text] 73))) := hbox.on hwa
  have hi : o < vs.length := (List.getElem?_eq_some_iff.1 e0).1
  have y := HBX.out.get (o) e0
  have f := HBX.out.free (o) hi
  have HQ := Lib.hid (done0 g o vs u0 u1 x w B hbox e0 e1 e2 h0 h1 hg hgB hap (v3 := .slice none 0 0) hwa (Below.refl B _).drew Room.nil (fun k e => by cases e) (fun k _ _ => rfl))
  have CD : ((w.alloc (.cells #[.int .i64 1, .int .i64 0, .string text] 73)).drew).cell? ⟨w.heap.size, 1, none⟩ = some (.int .i64 0) := (box_made w [.int .i64 1, .int .i64 0, .string text] 73).get 1 rfl
  have CE : (((w.alloc (.cells #[.int .i64 1, .int .i64 0, .string text] 73)).drew).setCell ⟨g, o, none⟩ (.slice none 0 0)).cell? ⟨w.heap.size, 1, none⟩ = some (.int .i64 0) := (World.cell?_of_block (a := ⟨w.heap.size, 1, none⟩) (Below.heap_setCell _ ⟨g, o, none⟩ _ w.heap.size (show w.heap.size ≠ g by have := hbox.1; omega))).trans CD
  clear hbox e0 e1 e2 h0 h1 hg hgB hap hwa hi
  go_enter Try.func39, Try.ntmps39
  go_wp2
  first | (go_region_held3 (fun W => W.cell? ⟨w.heap.size, 1, none⟩ = some (.int .i64 0)) (first | exact CE | exact CD) (fail)) | fail
  go_wp2
  go_end0
  exact ⟨rfl, HQ.out⟩
set_option maxRecDepth 100000 in
theorem do_wipe1 (text : ByteArray) :
    Calls Try.prog 39 #[.pointer (some ⟨g, o, none⟩), .agg #[.int .i64 1, .int .i64 1, .string text]] w fun e w' => e = .returned (.tuple #[]) ∧ DoneC B g o vs u0 u1 { x with a1 := [] } w w' := by
  have hwa := bal w (.cells #[.int .i64 1, .int .i64 1, .string text] 73)
  have HBX : Hid (BoxF g vs (w.alloc (.cells #[.int .i64 1, .int .i64 1, .string text] 73))) := hbox.on hwa
  have hi : o + 1 < vs.length := (List.getElem?_eq_some_iff.1 e1).1
  have y := HBX.out.get (o + 1) e1
  have f := HBX.out.free (o + 1) hi
  have HQ := Lib.hid (done1 g o vs u0 u1 x w B hbox e0 e1 e2 h0 h1 hg hgB hap (v3 := .slice none 0 0) hwa (Below.refl B _).drew Room.nil (fun k e => by cases e) (fun k _ _ => rfl))
  have CD : ((w.alloc (.cells #[.int .i64 1, .int .i64 1, .string text] 73)).drew).cell? ⟨w.heap.size, 1, none⟩ = some (.int .i64 1) := (box_made w [.int .i64 1, .int .i64 1, .string text] 73).get 1 rfl
  have CE : (((w.alloc (.cells #[.int .i64 1, .int .i64 1, .string text] 73)).drew).setCell ⟨g, o + 1, none⟩ (.slice none 0 0)).cell? ⟨w.heap.size, 1, none⟩ = some (.int .i64 1) := (World.cell?_of_block (a := ⟨w.heap.size, 1, none⟩) (Below.heap_setCell _ ⟨g, o + 1, none⟩ _ w.heap.size (show w.heap.size ≠ g by have := hbox.1; omega))).trans CD
  clear hbox e0 e1 e2 h0 h1 hg hgB hap hwa hi
  go_enter Try.func39, Try.ntmps39
  go_wp2
  first | (go_region_held3 (fun W => W.cell? ⟨w.heap.size, 1, none⟩ = some (.int .i64 1)) (first | exact CE | exact CD) (fail)) | fail
  go_wp2
  go_end0
  exact ⟨rfl, HQ.out⟩
set_option maxRecDepth 100000 in
theorem do_app0 (text : ByteArray) (hm : x.a0.length + text.data.toList.length ≤ 1099511627776) :
    Calls Try.prog 39 #[.pointer (some ⟨g, o, none⟩), .agg #[.int .i64 0, .int .i64 0, .string text]] w fun e w' => e = .returned (.tuple #[]) ∧ DoneC B g o vs u0 u1 { x with a0 := x.a0 ++ text.data.toList } w w' := by
  have hwa := bal w (.cells #[.int .i64 0, .int .i64 0, .string text] 73)
  have HBX : Hid (BoxF g vs (w.alloc (.cells #[.int .i64 0, .int .i64 0, .string text] 73))) := hbox.on hwa
  have hi : o < vs.length := (List.getElem?_eq_some_iff.1 e0).1
  obtain ⟨i0, hi0, hy0, hy1, hy2⟩ := info_parts byte_info
  have y := HBX.out.get (o) e0
  have f := HBX.out.free (o) hi
  have yd : ((w.alloc (.cells #[.int .i64 0, .int .i64 0, .string text] 73)).drew).cell? ⟨g, o, none⟩ = some u0 := y
  have hne : g ≠ w.heap.size := by have := hbox.1; omega
  have HQ : Hid (∀ v3 w3, Below B ((w.alloc (.cells #[.int .i64 0, .int .i64 0, .string text] 73)).drew) w3 → Room w3 B v3 (x.a0 ++ text.data.toList) → (∀ k, v3.ownBlock = some k → u0.ownBlock = some k ∨ ((w.alloc (.cells #[.int .i64 0, .int .i64 0, .string text] 73)).drew).heap.size ≤ k) → (∀ k, k < ((w.alloc (.cells #[.int .i64 0, .int .i64 0, .string text] 73)).drew).heap.size → u0.ownBlock ≠ some k → w3.heap[k]? = ((w.alloc (.cells #[.int .i64 0, .int .i64 0, .string text] 73)).drew).heap[k]?) → DoneC B g o vs u0 u1 { x with a0 := x.a0 ++ text.data.toList } w (w3.setCell ⟨g, o, none⟩ v3)) :=
    fun v3 w3 a b c d => done0 g o vs u0 u1 x w B hbox e0 e1 e2 h0 h1 hg hgB hap (hwa.drew) a b c d
  have CD : ((w.alloc (.cells #[.int .i64 0, .int .i64 0, .string text] 73)).drew).cell? ⟨w.heap.size, 1, none⟩ = some (.int .i64 0) ∧ ((w.alloc (.cells #[.int .i64 0, .int .i64 0, .string text] 73)).drew).cell? ⟨w.heap.size, 2, none⟩ = some (.string text) := ⟨(box_made w [.int .i64 0, .int .i64 0, .string text] 73).get 1 rfl, (box_made w [.int .i64 0, .int .i64 0, .string text] 73).get 2 rfl⟩
  have HR : Hid (Room ((w.alloc (.cells #[.int .i64 0, .int .i64 0, .string text] 73)).drew) B u0 x.a0) := (h0.on (hwa.drew)).1
  have hBs : B ≤ ((w.alloc (.cells #[.int .i64 0, .int .i64 0, .string text] 73)).drew).heap.size := Nat.le_trans hgB hwa.size
  have HN : Hid (u0.ownBlock ≠ some w.heap.size ∧ w.heap.size < ((w.alloc (.cells #[.int .i64 0, .int .i64 0, .string text] 73)).drew).heap.size ∧ u0.ownBlock ≠ some g ∧ g < ((w.alloc (.cells #[.int .i64 0, .int .i64 0, .string text] 73)).drew).heap.size) := ⟨fun e => by have := (h0.2 _ e).2; omega, by simp, fun e => hap.get 1 0 (by omega) rfl rfl g e rfl, Nat.lt_of_lt_of_le hbox.1 hwa.size⟩
  have HF : Hid (((w.alloc (.cells #[.int .i64 0, .int .i64 0, .string text] 73)).drew).frozen? ⟨g, o, none⟩ = false) := f
  have S1 : Src Try.prog 1 9 (.string text) text.data.toList.length (c8 text.data.toList) ((w.alloc (.cells #[.int .i64 0, .int .i64 0, .string text] 73)).drew) := src_string _ Try.underlying9 text
  obtain ⟨A, z, hu, _⟩ := h0.slice
  subst hu
  clear hbox e0 e1 e2 h0 h1 hg hgB hap hwa hi
  go_enter Try.func39, Try.ntmps39
  go_wp2
  first | (go_region_law (first
    | ((refine step_append8k (B := B) (l := x.a0) (m := text.data.toList) (by rfl) (.tmp 17) (.tmp 19) 28 9 (by rfl) 5 i0 Try.underlying28 hi0 hy0 hy1 hy2 HR.out hBs S1 hm (by rfl) (by rfl) ?_; intro v3 w3 h3 hb3 ho3 hk3; have e3 := hk3 w.heap.size HN.out.2.1 HN.out.1; have C31 := (World.cell?_of_block (a := ⟨w.heap.size, 1, none⟩) e3).trans CD.1; have eg3 := hk3 g HN.out.2.2.2 HN.out.2.2.1; have yg := (World.cell?_of_block (a := ⟨g, o, none⟩) eg3).trans yd; have fg := (World.frozen?_of_block (a := ⟨g, o, none⟩) eg3).trans HF.out; obtain ⟨A3, z3, hv3, _⟩ := h3.cut; generalize (x.a0 ++ text.data.toList).length = n3 at hv3; subst hv3)))) | fail
  all_goals go_wp2
  all_goals go_end0
  all_goals exact ⟨rfl, HQ.out _ _ hb3 h3 ho3 hk3⟩
set_option maxRecDepth 100000 in
theorem do_app1 (text : ByteArray) (hm : x.a1.length + text.data.toList.length ≤ 1099511627776) :
    Calls Try.prog 39 #[.pointer (some ⟨g, o, none⟩), .agg #[.int .i64 0, .int .i64 1, .string text]] w fun e w' => e = .returned (.tuple #[]) ∧ DoneC B g o vs u0 u1 { x with a1 := x.a1 ++ text.data.toList } w w' := by
  have hwa := bal w (.cells #[.int .i64 0, .int .i64 1, .string text] 73)
  have HBX : Hid (BoxF g vs (w.alloc (.cells #[.int .i64 0, .int .i64 1, .string text] 73))) := hbox.on hwa
  have hi : o + 1 < vs.length := (List.getElem?_eq_some_iff.1 e1).1
  obtain ⟨i0, hi0, hy0, hy1, hy2⟩ := info_parts byte_info
  have y := HBX.out.get (o + 1) e1
  have f := HBX.out.free (o + 1) hi
  have yd : ((w.alloc (.cells #[.int .i64 0, .int .i64 1, .string text] 73)).drew).cell? ⟨g, o + 1, none⟩ = some u1 := y
  have hne : g ≠ w.heap.size := by have := hbox.1; omega
  have HQ : Hid (∀ v3 w3, Below B ((w.alloc (.cells #[.int .i64 0, .int .i64 1, .string text] 73)).drew) w3 → Room w3 B v3 (x.a1 ++ text.data.toList) → (∀ k, v3.ownBlock = some k → u1.ownBlock = some k ∨ ((w.alloc (.cells #[.int .i64 0, .int .i64 1, .string text] 73)).drew).heap.size ≤ k) → (∀ k, k < ((w.alloc (.cells #[.int .i64 0, .int .i64 1, .string text] 73)).drew).heap.size → u1.ownBlock ≠ some k → w3.heap[k]? = ((w.alloc (.cells #[.int .i64 0, .int .i64 1, .string text] 73)).drew).heap[k]?) → DoneC B g o vs u0 u1 { x with a1 := x.a1 ++ text.data.toList } w (w3.setCell ⟨g, o + 1, none⟩ v3)) :=
    fun v3 w3 a b c d => done1 g o vs u0 u1 x w B hbox e0 e1 e2 h0 h1 hg hgB hap (hwa.drew) a b c d
  have CD : ((w.alloc (.cells #[.int .i64 0, .int .i64 1, .string text] 73)).drew).cell? ⟨w.heap.size, 1, none⟩ = some (.int .i64 1) ∧ ((w.alloc (.cells #[.int .i64 0, .int .i64 1, .string text] 73)).drew).cell? ⟨w.heap.size, 2, none⟩ = some (.string text) := ⟨(box_made w [.int .i64 0, .int .i64 1, .string text] 73).get 1 rfl, (box_made w [.int .i64 0, .int .i64 1, .string text] 73).get 2 rfl⟩
  have HR : Hid (Room ((w.alloc (.cells #[.int .i64 0, .int .i64 1, .string text] 73)).drew) B u1 x.a1) := (h1.on (hwa.drew)).1
  have hBs : B ≤ ((w.alloc (.cells #[.int .i64 0, .int .i64 1, .string text] 73)).drew).heap.size := Nat.le_trans hgB hwa.size
  have HN : Hid (u1.ownBlock ≠ some w.heap.size ∧ w.heap.size < ((w.alloc (.cells #[.int .i64 0, .int .i64 1, .string text] 73)).drew).heap.size ∧ u1.ownBlock ≠ some g ∧ g < ((w.alloc (.cells #[.int .i64 0, .int .i64 1, .string text] 73)).drew).heap.size) := ⟨fun e => by have := (h1.2 _ e).2; omega, by simp, fun e => hap.get 2 0 (by omega) rfl rfl g e rfl, Nat.lt_of_lt_of_le hbox.1 hwa.size⟩
  have HF : Hid (((w.alloc (.cells #[.int .i64 0, .int .i64 1, .string text] 73)).drew).frozen? ⟨g, o + 1, none⟩ = false) := f
  have S1 : Src Try.prog 1 9 (.string text) text.data.toList.length (c8 text.data.toList) ((w.alloc (.cells #[.int .i64 0, .int .i64 1, .string text] 73)).drew) := src_string _ Try.underlying9 text
  obtain ⟨A, z, hu, _⟩ := h1.slice
  subst hu
  clear hbox e0 e1 e2 h0 h1 hg hgB hap hwa hi
  go_enter Try.func39, Try.ntmps39
  go_wp2
  first | (go_region_law (first
    | ((refine step_append8k (B := B) (l := x.a1) (m := text.data.toList) (by rfl) (.tmp 17) (.tmp 19) 28 9 (by rfl) 5 i0 Try.underlying28 hi0 hy0 hy1 hy2 HR.out hBs S1 hm (by rfl) (by rfl) ?_; intro v3 w3 h3 hb3 ho3 hk3; have e3 := hk3 w.heap.size HN.out.2.1 HN.out.1; have C31 := (World.cell?_of_block (a := ⟨w.heap.size, 1, none⟩) e3).trans CD.1; have eg3 := hk3 g HN.out.2.2.2 HN.out.2.2.1; have yg := (World.cell?_of_block (a := ⟨g, o + 1, none⟩) eg3).trans yd; have fg := (World.frozen?_of_block (a := ⟨g, o + 1, none⟩) eg3).trans HF.out; obtain ⟨A3, z3, hv3, _⟩ := h3.cut; generalize (x.a1 ++ text.data.toList).length = n3 at hv3; subst hv3)))) | fail
  all_goals go_wp2
  all_goals go_end0
  all_goals exact ⟨rfl, HQ.out _ _ hb3 h3 ho3 hk3⟩
end

end Go.Proofs.Ytoggdpkpfdilnaa
