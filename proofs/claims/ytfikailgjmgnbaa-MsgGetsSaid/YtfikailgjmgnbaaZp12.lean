/-
  Where a reading of several things through pointers stands; a step of it.
  What a function that reads comes to, of a field of kind I (made by msg-read-gen.py).
  What a function that reads comes to, of a field of kind T (made by msg-read-gen.py).
  What a function that reads comes to, of a field of kind B (made by msg-read-gen.py).
  What a function that reads comes to, of a field of kind V (made by msg-read-gen.py).
  What a function that reads comes to, of a field of kind O (made by msg-read-gen.py).
-/
import Derived.Test.YtfikailgjmgnbaaZp11
import Derived.Deep.RegionWith

namespace Go.Proofs.Ytfikailgjmgnbaa
open Go.RowKit Flo

def zerosT : List TK → List Value
  | [] => []
  | K :: ks => K.zero ++ zerosT ks
theorem zerosT_append : ∀ (a b : List TK), zerosT (a ++ b) = zerosT a ++ zerosT b
  | [], _ => rfl
  | K :: a, b => by rw [List.cons_append, zerosT, zerosT, zerosT_append a b, List.append_assoc]
def liesT (X : Nat → Prop) (w : World) : List TK → List Th → List Value → Prop
  | [], [], vs => vs = []
  | K :: ks, t :: ts, vs => ∃ a b, vs = a ++ b ∧ K.lies X w t a ∧ liesT X w ks ts b
  | _, _, _ => False
theorem liesT_keep {X Y : Nat → Prop} {w w' : World} (hk : Kept X Y w w') : ∀ {ks : List TK} {ts : List Th} {vs : List Value}, liesT X w ks ts vs → liesT Y w' ks ts vs
  | [], [], _, h => h
  | [], _ :: _, _, h => h.elim
  | _ :: _, [], _, h => h.elim
  | _ :: _, _ :: _, _, h => by
    obtain ⟨a, b, e, h1, h2⟩ := h
    exact ⟨a, b, e, lies_keep h1 hk, liesT_keep hk h2⟩
theorem liesT_snoc {X : Nat → Prop} {w : World} {K : TK} {t : Th} {u : List Value} (hu : K.lies X w t u) : ∀ {ks : List TK} {ts : List Th} {vs : List Value}, liesT X w ks ts vs → liesT X w (ks ++ [K]) (ts ++ [t]) (vs ++ u)
  | [], [], vs, h => by obtain rfl : vs = [] := h; exact ⟨u, [], by simp, hu, rfl⟩
  | [], _ :: _, _, h => h.elim
  | _ :: _, [], _, h => h.elim
  | _ :: _, _ :: _, _, h => by
    obtain ⟨a, b, rfl, h1, h2⟩ := h
    exact ⟨a, b ++ u, by rw [List.append_assoc], h1, liesT_snoc hu h2⟩
theorem liesT_few {X : Nat → Prop} {w : World} : ∀ {ks : List TK} {ts : List Th} {vs : List Value}, Are ks ts → liesT X w ks ts vs → Few (zerosT ks).length vs
  | [], [], vs, _, h => by obtain rfl : vs = [] := h; exact ⟨rfl, fun _ h => by cases h⟩
  | [], _ :: _, _, h, _ => h.elim
  | _ :: _, [], _, h, _ => h.elim
  | K :: ks, _ :: _, _, h0, h => by
    obtain ⟨a, b, rfl, h1, h2⟩ := h
    obtain ⟨a1, a2⟩ := shape_few (lies_shape h1 h0.1)
    obtain ⟨b1, b2⟩ := liesT_few h0.2 h2
    refine ⟨by rw [List.length_append, zerosT, List.length_append, a1, b1], fun v hv => ?_⟩
    rcases List.mem_append.1 hv with hv | hv
    · exact a2 v hv
    · exact b2 v hv
theorem zerosT_few : ∀ (ks : List TK), ∀ v ∈ zerosT ks, v.oneCell' = true
  | [], _, h => by cases h
  | K :: ks, v, h => by
    rcases List.mem_append.1 h with h | h
    · exact (shape_few (zero_shape K)).2 v h
    · exact zerosT_few ks v h
theorem HeldF.sets {g : Nat} {a z b vs : List Value} {W : World} (h : HeldF g (a ++ (z ++ b)) W) (hl : vs.length = z.length) {n : Nat} (hn : n = a.length) : HeldF g (a ++ (vs ++ b)) (W.setCells g n vs) := by
  subst hn
  refine ⟨by rw [(World.tape_setCells g vs _ W).2]; exact h.1, fun j hj => ?_⟩
  rw [World.frozen?_setCells]
  have hlen : (a ++ (z ++ b)).length = (a ++ (vs ++ b)).length := by simp [hl]
  obtain ⟨h1, h2⟩ := h.2 j (by omega)
  refine ⟨?_, h2⟩
  by_cases hja : j < a.length
  · rw [World.cell?_setCells_out g _ _ _ _ (fun _ _ => .inl hja), h1, List.getElem_append_left hja, List.getElem_append_left hja]
  · by_cases hjv : j < a.length + vs.length
    · have hin := World.cell?_setCells_in g vs a.length W (fun k hk => by
        obtain ⟨q, _⟩ := h.2 (a.length + k) (by simp; omega)
        rw [q]; rfl) (j - a.length) (by omega)
      rw [show a.length + (j - a.length) = j by omega] at hin
      rw [hin, List.getElem_append_right (by omega), List.getElem_append_left (by omega)]
    · rw [World.cell?_setCells_out g _ _ _ _ (fun _ _ => .inr (by show a.length + vs.length ≤ j; omega)), h1]
      simp only [List.getElem_append_right (by omega : a.length ≤ j)]
      rw [List.getElem_append_right (by omega), List.getElem_append_right (by omega)]
      simp only [hl]
theorem HeldF.sets_other {g : Nat} {cs : List Value} {W : World} (h : HeldF g cs W) {b o : Nat} (vs : List Value) (hne : g ≠ b) : HeldF g cs (W.setCells b o vs) := by
  refine ⟨by rw [(World.tape_setCells b vs _ W).2]; exact h.1, fun j hj => ?_⟩
  obtain ⟨h1, h2⟩ := h.2 j hj
  exact ⟨(cell_apart W b o j g vs hne).trans h1, (frozen_apart W b o j g vs hne).trans h2⟩
theorem HeldF.spot {g : Nat} {a z b : List Value} {W : World} (h : HeldF g (a ++ (z ++ b)) W) {n : Nat} (hn : n = a.length) : Spot W g n z.length := fun j hj => by
  subst hn
  obtain ⟨h1, h2⟩ := h.2 (a.length + j) (by simp; omega)
  exact ⟨by rw [h1]; rfl, h2⟩

/-- a function that reads through pointers, and what it calls -/
def Rdr (K : TK) (f : FuncId) (u : Value) : Prop := ∃ c x, ReadY K f c u x ∧ ReadN f ∧ ∀ (w : World) (v : Value) (l : List UInt8) (p : Nat), Seen w w.heap.size v l → l.length ≤ 1000000000 → p ≤ 1000000000 → Calls Try.prog c (#[v, .int .i64 (p : Int)] ++ x) w (GetsT K l p w)

/-- where a reading stands: these things are behind it, those ahead of it are zero; or one of them wasn't there -/
def Sg (l : List UInt8) (p : Nat) (v : Value) (gr ge lo : Nat) (w0 : World) (ks rest : List TK) (W : World) : Prop := Below w0.heap.size w0 W ∧ lo ≤ W.heap.size ∧
  ((∃ ts r vs, Are ks ts ∧ l.drop p = bytesT ts ++ r ∧ liesT (lo ≤ ·) W ks ts vs ∧ HeldF gr [v, .int .i64 ((p + (bytesT ts).length : Nat) : Int), .bool true] W ∧ HeldF ge (vs ++ zerosT rest) W) ∨
   ((¬ ∃ ts r, Are ks ts ∧ l.drop p = bytesT ts ++ r) ∧ ∃ q vs, Few (zerosT ks ++ zerosT rest).length vs ∧ HeldF gr [v, .int .i64 q, .bool false] W ∧ HeldF ge vs W))
theorem Sg.on {l : List UInt8} {p : Nat} {v : Value} {gr ge lo : Nat} {w0 : World} {ks rest : List TK} {W W' : World} (h : Sg l p v gr ge lo w0 ks rest W) (h0 : w0.heap.size ≤ W.heap.size) (hb : Below W.heap.size W W') : Sg l p v gr ge lo w0 ks rest W' := by
  obtain ⟨h1, h2, h3⟩ := h
  refine ⟨h1.trans (hb.mono h0), Nat.le_trans h2 hb.size, h3.imp ?_ ?_⟩
  · rintro ⟨ts, r, vs, a1, a2, a3, a4, a5⟩
    exact ⟨ts, r, vs, a1, a2, liesT_keep ⟨hb.size, fun b hx hw => ⟨hb.block b hw, hx⟩⟩ a3, a4.on hb, a5.on hb⟩
  · rintro ⟨a1, q, vs, a2, a3, a4⟩
    exact ⟨a1, q, vs, a2, a3.on hb, a4.on hb⟩
/-- what a step keeps -/
def Stays (gr ge : Nat) (W W' : World) : Prop := W.heap.size ≤ W'.heap.size ∧ ∀ k, k < W.heap.size → k ≠ ge → k ≠ gr → W'.heap[k]? = W.heap[k]?

theorem Sg.step {K : TK} {f : FuncId} {u : Value} (R : Rdr K f u) {l : List UInt8} {p : Nat} {v : Value} {gr ge lo : Nat} {ks rest : List TK} {w0 W : World} (hv : Seen w0 w0.heap.size v l) (hl : l.length ≤ 1000000000) (hp : p ≤ 1000000000) (hgr : w0.heap.size ≤ gr) (hge : w0.heap.size ≤ ge) (hne : gr ≠ ge) (hlr : gr < lo) (hle : ge < lo)
    (h : Sg l p v gr ge lo w0 ks (K :: rest) W) {n : Nat} (hn : n = (zerosT ks).length) :
    Calls Try.prog f #[.pointer (some ⟨gr, 0, none⟩), .pointer (some ⟨ge, n, none⟩), u] W fun e W' => e = .returned (.tuple #[]) ∧ Sg l p v gr ge lo w0 (ks ++ [K]) rest W' ∧ Stays gr ge W W' := by
  obtain ⟨c, x, RY, RN, RD⟩ := R
  obtain ⟨hb, hlo, h⟩ := h
  rcases h with ⟨ts, r, vs, ha, hd, hli, hr, he⟩ | ⟨hg, q, vs, hlen, hr, he⟩
  · obtain ⟨hfl, hf1⟩ := liesT_few ha hli
    obtain rfl : n = vs.length := by omega
    have hdl := congrArg List.length hd
    rw [List.length_drop, List.length_append] at hdl
    have he' : HeldF ge (vs ++ (K.zero ++ zerosT rest)) W := he
    obtain ⟨c1, _⟩ := hr.2 0 (by simp)
    obtain ⟨c2, z2⟩ := hr.2 1 (by simp)
    obtain ⟨c3, z3⟩ := hr.2 2 (by simp)
    have hrd : l.drop (p + (bytesT ts).length) = r := by
      rw [← List.drop_drop, hd]
      exact take_left_len _ _ _ rfl
    have hbd : Below W.heap.size W W.drew := (Below.refl _ _).drew
    refine (RY W gr ge vs.length v (p + (bytesT ts).length) (Out K l (p + (bytesT ts).length) W.heap.size) c1 c2 c3 z2 z3 hr.1 he.1 hne (he'.spot rfl) (Lib.hid ?_)).mono ?_
    · refine (RD W.drew v l (p + (bytesT ts).length) ((hv.below hb).more hb.size |>.on hbd) hl (by omega)).mono ?_
      rintro e w2 ⟨us, q, ok, hs, he2, hb2, ho⟩
      exact ⟨us, q, ok, hs, he2, hbd.trans hb2, ho⟩
    · rintro e W' ⟨rfl, us, q, ok, w2, hs, hb2, ho, rfl⟩
      have hul := (shape_few hs).1
      have hs1 : w2.heap.size = (((w2.setCells ge vs.length us).setCell ⟨gr, 1, none⟩ (.int .i64 q)).setCell ⟨gr, 2, none⟩ (.bool ok)).heap.size := by
        simp [World.setCell, (World.tape_setCells ge us _ w2).2]
      have hkk : ∀ k, k ≠ ge → k ≠ gr → (((w2.setCells ge vs.length us).setCell ⟨gr, 1, none⟩ (.int .i64 q)).setCell ⟨gr, 2, none⟩ (.bool ok)).heap[k]? = w2.heap[k]? := fun k k1 k2 => by
        rw [Below.heap_setCell _ ⟨gr, 2, none⟩ _ k k2, Below.heap_setCell _ ⟨gr, 1, none⟩ _ k k2]
        exact heap_setCells ge us _ w2 k k1
      have hbel : Below w0.heap.size w0 (((w2.setCells ge vs.length us).setCell ⟨gr, 1, none⟩ (.int .i64 q)).setCell ⟨gr, 2, none⟩ (.bool ok)) := (((hb.trans (hb2.mono hb.size)).trans (below_setCells hge _ us)).setCell hgr _).setCell hgr _
      have hrr : HeldF gr [v, .int .i64 q, .bool ok] (((w2.setCells ge vs.length us).setCell ⟨gr, 1, none⟩ (.int .i64 q)).setCell ⟨gr, 2, none⟩ (.bool ok)) :=
        ((((hr.on hb2).sets_other us hne).set 1 (by simp) (.int .i64 q)).set 2 (by simp) (.bool ok) : HeldF gr (([v, .int .i64 ((p + (bytesT ts).length : Nat) : Int), .bool true].set 1 (.int .i64 q)).set 2 (.bool ok)) _)
      have hee : HeldF ge (vs ++ (us ++ zerosT rest)) (((w2.setCells ge vs.length us).setCell ⟨gr, 1, none⟩ (.int .i64 q)).setCell ⟨gr, 2, none⟩ (.bool ok)) :=
        (((he'.on hb2).sets hul rfl).other (o := 1) (.int .i64 q) (Ne.symm hne)).other (o := 2) (.bool ok) (Ne.symm hne)
      refine ⟨rfl, ⟨hbel, by rw [← hs1]; exact Nat.le_trans hlo hb2.size, ?_⟩, by rw [← hs1]; exact hb2.size, fun k hk k1 k2 => (hkk k k1 k2).trans (hb2.block k hk)⟩
      rcases ho with ⟨t, r', ht, hd', hlt, rfl, rfl⟩ | ⟨hno, rfl⟩
      · rw [hrd] at hd'
        refine .inl ⟨ts ++ [t], r', vs ++ us, are_snoc ha ht, by rw [bytesT_snoc, hd, hd', List.append_assoc], ?_, by rw [bytesT_snoc, List.length_append, ← Nat.add_assoc]; exact hrr, by rw [List.append_assoc]; exact hee⟩
        refine liesT_snoc (lies_keep hlt ⟨Nat.le_of_eq hs1, fun b hx hw => ⟨hkk b (by omega) (by omega), by omega⟩⟩) (liesT_keep ⟨by rw [← hs1]; exact hb2.size, fun b hx hw => ⟨(hkk b (by omega) (by omega)).trans (hb2.block b hw), hx⟩⟩ hli)
      · refine .inr ⟨?_, q, _, ⟨?_, ?_⟩, hrr, hee⟩
        · rintro ⟨ts', r', ha', hd'⟩
          obtain ⟨ss, t, rfl, h1, h2⟩ := are_snoc_of ha'
          rw [bytesT_snoc, hd, List.append_assoc] at hd'
          obtain ⟨_, e⟩ := are_apart ks ts ss _ _ ha h1 hd'
          exact hno ⟨t, r', h2, by rw [hrd]; exact e⟩
        · rw [zerosT_append, List.append_assoc]
          simp only [List.length_append, zerosT, hul, List.append_nil, hfl]
        · intro y hy
          rcases List.mem_append.1 hy with hy | hy
          · exact hf1 y hy
          · rcases List.mem_append.1 hy with hy | hy
            · exact (shape_few hs).2 y hy
            · exact zerosT_few _ y hy
  · obtain ⟨c3, _⟩ := hr.2 2 (by simp)
    refine (RN W gr _ _ c3).mono ?_
    rintro e W' ⟨rfl, rfl⟩
    refine ⟨rfl, ⟨hb, hlo, .inr ⟨?_, q, vs, by rw [zerosT_append, List.append_assoc]; simpa [zerosT] using hlen, hr, he⟩⟩, Nat.le_refl _, fun _ _ _ _ => rfl⟩
    rintro ⟨ts', r', ha', hd'⟩
    obtain ⟨ss, t, rfl, h1, h2⟩ := are_snoc_of ha'
    exact hg ⟨ss, t.bytes ++ r', h1, by rw [hd', bytesT_snoc, List.append_assoc]⟩

end Go.Proofs.Ytfikailgjmgnbaa

namespace Go.Proofs.Ytfikailgjmgnbaa
open Go.RowKit Flo
attribute [local go_sem ↓] Go.wp_at_zero Go.wp_at_succ

set_option maxRecDepth 100000 in
set_option maxHeartbeats 1000000 in
theorem ready_I : ReadY (.one .I) 55 56 (.func (.func 56) #[] #[]) #[] := by
  intro w gr ge i v p R h0 h1 h2 hz1 hz2 hgr hge hne hsp RD
  have HSP := Lib.hid hsp
  have RD : Hid (Calls Try.prog 56 #[v, .int .i64 p] w.drew (Told (.one .I) R w)) := RD
  have hne' : ge ≠ gr := fun h => hne h.symm
  clear hsp
  go_enter Try.func55, Try.ntmps55
  go_wp2_with fail
  first | (go_region_with (first | (go_at_call 56; (with_reducible refine (RD.out).mono ?_); rintro e w1 ⟨vs, q, ok, hs, he, hb, hR⟩; have HH := Lib.hid hs; have HR := Lib.hid hR; clear hR; obtain ⟨_, rfl, n, rfl⟩ := hs; simp only [TK.pack, List.headD_cons] at he; subst he; have F0 : w1.cell? ⟨gr, 0, none⟩ = some v := (World.cell?_of_block (a := ⟨gr, 0, none⟩) (hb.block gr hgr)).trans h0; have F1 : w1.cell? ⟨gr, 1, none⟩ = some (.int .i64 p) := (World.cell?_of_block (a := ⟨gr, 1, none⟩) (hb.block gr hgr)).trans h1; have F2 : w1.cell? ⟨gr, 2, none⟩ = some (.bool true) := (World.cell?_of_block (a := ⟨gr, 2, none⟩) (hb.block gr hgr)).trans h2; have F3 : w1.frozen? ⟨gr, 1, none⟩ = false := (World.frozen?_of_block (a := ⟨gr, 1, none⟩) (hb.block gr hgr)).trans hz1; have F4 : w1.frozen? ⟨gr, 2, none⟩ = false := (World.frozen?_of_block (a := ⟨gr, 2, none⟩) (hb.block gr hgr)).trans hz2; obtain ⟨x1, e1⟩ := Option.isSome_iff_exists.1 (HSP.out.on (hb.block ge hge) 0 (by decide)).1; have e2 := (HSP.out.on (hb.block ge hge) 0 (by decide)).2; rw [Nat.add_zero] at e1 e2))) | fail
  all_goals go_wp2
  all_goals go_end0
  all_goals exact ⟨rfl, _, q, ok, w1, HH.out, hb, HR.out, rfl⟩
set_option maxRecDepth 100000 in
theorem readn_I : ReadN 55 := by
  intro w gr x f h2
  go_enter Try.func55, Try.ntmps55
  go_wp2_with fail
  go_end0
  exact ⟨rfl, rfl⟩

end Go.Proofs.Ytfikailgjmgnbaa

namespace Go.Proofs.Ytfikailgjmgnbaa
open Go.RowKit Flo
attribute [local go_sem ↓] Go.wp_at_zero Go.wp_at_succ

set_option maxRecDepth 100000 in
set_option maxHeartbeats 1000000 in
theorem ready_T : ReadY (.one .T) 18 19 (.func (.func 19) #[] #[]) #[] := by
  intro w gr ge i v p R h0 h1 h2 hz1 hz2 hgr hge hne hsp RD
  have HSP := Lib.hid hsp
  have RD : Hid (Calls Try.prog 19 #[v, .int .i64 p] w.drew (Told (.one .T) R w)) := RD
  have hne' : ge ≠ gr := fun h => hne h.symm
  clear hsp
  go_enter Try.func18, Try.ntmps18
  go_wp2_with fail
  first | (go_region_with (first | (go_at_call 19; (with_reducible refine (RD.out).mono ?_); rintro e w1 ⟨vs, q, ok, hs, he, hb, hR⟩; have HH := Lib.hid hs; have HR := Lib.hid hR; clear hR; obtain ⟨_, rfl, n, rfl⟩ := hs; simp only [TK.pack, List.headD_cons] at he; subst he; have F0 : w1.cell? ⟨gr, 0, none⟩ = some v := (World.cell?_of_block (a := ⟨gr, 0, none⟩) (hb.block gr hgr)).trans h0; have F1 : w1.cell? ⟨gr, 1, none⟩ = some (.int .i64 p) := (World.cell?_of_block (a := ⟨gr, 1, none⟩) (hb.block gr hgr)).trans h1; have F2 : w1.cell? ⟨gr, 2, none⟩ = some (.bool true) := (World.cell?_of_block (a := ⟨gr, 2, none⟩) (hb.block gr hgr)).trans h2; have F3 : w1.frozen? ⟨gr, 1, none⟩ = false := (World.frozen?_of_block (a := ⟨gr, 1, none⟩) (hb.block gr hgr)).trans hz1; have F4 : w1.frozen? ⟨gr, 2, none⟩ = false := (World.frozen?_of_block (a := ⟨gr, 2, none⟩) (hb.block gr hgr)).trans hz2; obtain ⟨x1, e1⟩ := Option.isSome_iff_exists.1 (HSP.out.on (hb.block ge hge) 0 (by decide)).1; have e2 := (HSP.out.on (hb.block ge hge) 0 (by decide)).2; rw [Nat.add_zero] at e1 e2))) | fail
  all_goals go_wp2
  all_goals go_end0
  all_goals exact ⟨rfl, _, q, ok, w1, HH.out, hb, HR.out, rfl⟩
set_option maxRecDepth 100000 in
theorem readn_T : ReadN 18 := by
  intro w gr x f h2
  go_enter Try.func18, Try.ntmps18
  go_wp2_with fail
  go_end0
  exact ⟨rfl, rfl⟩

end Go.Proofs.Ytfikailgjmgnbaa

namespace Go.Proofs.Ytfikailgjmgnbaa
open Go.RowKit Flo
attribute [local go_sem ↓] Go.wp_at_zero Go.wp_at_succ

set_option maxRecDepth 100000 in
set_option maxHeartbeats 1000000 in
theorem ready_B : ReadY (.one .B) 16 17 (.func (.func 17) #[] #[]) #[] := by
  intro w gr ge i v p R h0 h1 h2 hz1 hz2 hgr hge hne hsp RD
  have HSP := Lib.hid hsp
  have RD : Hid (Calls Try.prog 17 #[v, .int .i64 p] w.drew (Told (.one .B) R w)) := RD
  have hne' : ge ≠ gr := fun h => hne h.symm
  clear hsp
  go_enter Try.func16, Try.ntmps16
  go_wp2_with fail
  first | (go_region_with (first | (go_at_call 17; (with_reducible refine (RD.out).mono ?_); rintro e w1 ⟨vs, q, ok, hs, he, hb, hR⟩; have HH := Lib.hid hs; have HR := Lib.hid hR; clear hR; obtain ⟨_, rfl, n, rfl⟩ := hs; simp only [TK.pack, List.headD_cons] at he; subst he; have F0 : w1.cell? ⟨gr, 0, none⟩ = some v := (World.cell?_of_block (a := ⟨gr, 0, none⟩) (hb.block gr hgr)).trans h0; have F1 : w1.cell? ⟨gr, 1, none⟩ = some (.int .i64 p) := (World.cell?_of_block (a := ⟨gr, 1, none⟩) (hb.block gr hgr)).trans h1; have F2 : w1.cell? ⟨gr, 2, none⟩ = some (.bool true) := (World.cell?_of_block (a := ⟨gr, 2, none⟩) (hb.block gr hgr)).trans h2; have F3 : w1.frozen? ⟨gr, 1, none⟩ = false := (World.frozen?_of_block (a := ⟨gr, 1, none⟩) (hb.block gr hgr)).trans hz1; have F4 : w1.frozen? ⟨gr, 2, none⟩ = false := (World.frozen?_of_block (a := ⟨gr, 2, none⟩) (hb.block gr hgr)).trans hz2; obtain ⟨x1, e1⟩ := Option.isSome_iff_exists.1 (HSP.out.on (hb.block ge hge) 0 (by decide)).1; have e2 := (HSP.out.on (hb.block ge hge) 0 (by decide)).2; rw [Nat.add_zero] at e1 e2))) | fail
  all_goals go_wp2
  all_goals go_end0
  all_goals exact ⟨rfl, _, q, ok, w1, HH.out, hb, HR.out, rfl⟩
set_option maxRecDepth 100000 in
theorem readn_B : ReadN 16 := by
  intro w gr x f h2
  go_enter Try.func16, Try.ntmps16
  go_wp2_with fail
  go_end0
  exact ⟨rfl, rfl⟩

end Go.Proofs.Ytfikailgjmgnbaa

namespace Go.Proofs.Ytfikailgjmgnbaa
open Go.RowKit Flo
attribute [local go_sem ↓] Go.wp_at_zero Go.wp_at_succ

set_option maxRecDepth 100000 in
set_option maxHeartbeats 1000000 in
theorem ready_V : ReadY (.one .V) 20 21 (.func (.func 21) #[] #[]) #[] := by
  intro w gr ge i v p R h0 h1 h2 hz1 hz2 hgr hge hne hsp RD
  have HSP := Lib.hid hsp
  have RD : Hid (Calls Try.prog 21 #[v, .int .i64 p] w.drew (Told (.one .V) R w)) := RD
  have hne' : ge ≠ gr := fun h => hne h.symm
  clear hsp
  go_enter Try.func20, Try.ntmps20
  go_wp2_with fail
  first | (go_region_with (first | (go_at_call 21; (with_reducible refine (RD.out).mono ?_); rintro e w1 ⟨vs, q, ok, hs, he, hb, hR⟩; have HH := Lib.hid hs; have HR := Lib.hid hR; clear hR; obtain ⟨_, rfl, n, m, rfl⟩ := hs; simp only [TK.pack, List.headD_cons] at he; subst he; have F0 : w1.cell? ⟨gr, 0, none⟩ = some v := (World.cell?_of_block (a := ⟨gr, 0, none⟩) (hb.block gr hgr)).trans h0; have F1 : w1.cell? ⟨gr, 1, none⟩ = some (.int .i64 p) := (World.cell?_of_block (a := ⟨gr, 1, none⟩) (hb.block gr hgr)).trans h1; have F2 : w1.cell? ⟨gr, 2, none⟩ = some (.bool true) := (World.cell?_of_block (a := ⟨gr, 2, none⟩) (hb.block gr hgr)).trans h2; have F3 : w1.frozen? ⟨gr, 1, none⟩ = false := (World.frozen?_of_block (a := ⟨gr, 1, none⟩) (hb.block gr hgr)).trans hz1; have F4 : w1.frozen? ⟨gr, 2, none⟩ = false := (World.frozen?_of_block (a := ⟨gr, 2, none⟩) (hb.block gr hgr)).trans hz2; obtain ⟨x1, e1⟩ := Option.isSome_iff_exists.1 (HSP.out.on (hb.block ge hge) 0 (by decide)).1; have e2 := (HSP.out.on (hb.block ge hge) 0 (by decide)).2; rw [Nat.add_zero] at e1 e2))) | fail
  all_goals go_wp2
  all_goals go_end0
  all_goals exact ⟨rfl, _, q, ok, w1, HH.out, hb, HR.out, rfl⟩
set_option maxRecDepth 100000 in
theorem readn_V : ReadN 20 := by
  intro w gr x f h2
  go_enter Try.func20, Try.ntmps20
  go_wp2_with fail
  go_end0
  exact ⟨rfl, rfl⟩

end Go.Proofs.Ytfikailgjmgnbaa

namespace Go.Proofs.Ytfikailgjmgnbaa
open Go.RowKit Flo
attribute [local go_sem ↓] Go.wp_at_zero Go.wp_at_succ
attribute [local go_sem ↓] to_stOp
attribute [local go_sem] run_stOp

set_option maxRecDepth 100000 in
set_option maxHeartbeats 1000000 in
theorem ready_O : ReadY (.row KO) 22 23 (.func (.func 23) #[] #[]) #[] := by
  intro w gr ge i v p R h0 h1 h2 hz1 hz2 hgr hge hne hsp RD
  have HSP := Lib.hid hsp
  have RD : Hid (Calls Try.prog 23 #[v, .int .i64 p] w.drew (Told (.row KO) R w)) := RD
  have hne' : ge ≠ gr := fun h => hne h.symm
  clear hsp
  go_enter Try.func22, Try.ntmps22
  go_wp2_with fail
  first | (go_region_with (first | (go_at_call 23; (with_reducible refine (RD.out).mono ?_); rintro e w1 ⟨vs, q, ok, hs, he, hb, hR⟩; have HH := Lib.hid hs; have HR := Lib.hid hR; clear hR; simp only [TK.pack] at he; subst he; have F0 : w1.cell? ⟨gr, 0, none⟩ = some v := (World.cell?_of_block (a := ⟨gr, 0, none⟩) (hb.block gr hgr)).trans h0; have F1 : w1.cell? ⟨gr, 1, none⟩ = some (.int .i64 p) := (World.cell?_of_block (a := ⟨gr, 1, none⟩) (hb.block gr hgr)).trans h1; have F2 : w1.cell? ⟨gr, 2, none⟩ = some (.bool true) := (World.cell?_of_block (a := ⟨gr, 2, none⟩) (hb.block gr hgr)).trans h2; have F3 : w1.frozen? ⟨gr, 1, none⟩ = false := (World.frozen?_of_block (a := ⟨gr, 1, none⟩) (hb.block gr hgr)).trans hz1; have F4 : w1.frozen? ⟨gr, 2, none⟩ = false := (World.frozen?_of_block (a := ⟨gr, 2, none⟩) (hb.block gr hgr)).trans hz2; have SP : Spot w1 ge i 5 := HSP.out.on (hb.block ge hge); have hf : Few 5 vs := hs; have F5 := (cell_apart w1 ge i 1 gr vs hne).trans F1; have F6 := (cell_apart w1 ge i 2 gr vs hne).trans F2; have F7 := (frozen_apart w1 ge i 1 gr vs hne).trans F3; have F8 := (frozen_apart w1 ge i 2 gr vs hne).trans F4))) | fail
  all_goals go_wp2
  all_goals go_end0
  all_goals exact ⟨rfl, vs, q, ok, w1, HH.out, hb, HR.out, rfl⟩
set_option maxRecDepth 100000 in
theorem readn_O : ReadN 22 := by
  intro w gr x f h2
  go_enter Try.func22, Try.ntmps22
  go_wp2_with fail
  go_end0
  exact ⟨rfl, rfl⟩

end Go.Proofs.Ytfikailgjmgnbaa
