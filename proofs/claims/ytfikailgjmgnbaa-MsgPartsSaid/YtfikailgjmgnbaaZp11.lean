/-
  What entry.read comes to, of a field of kind B (made by entry-read-gen.py).
  What entry.read comes to, of a field of kind V (made by entry-read-gen.py).
  Fields read one by one through pointers: where a reading of several fields stands; a step of it.
  Things that stand in bytes: fields, structs of fields, lists of structs, views, images; none's bytes begin another one's; where they lie in memory.
  A struct is stored into cells that stand, opaque to the walk; what a reading through pointers comes to (made by msg-read-gen.py).
-/
import Derived.Test.YtfikailgjmgnbaaZp10
import Derived.Deep.RegionWith

namespace Go.Proofs.Ytfikailgjmgnbaa
open Go.RowKit Flo
attribute [local go_sem ↓] Go.wp_at_zero Go.wp_at_succ

set_option maxRecDepth 100000 in
set_option maxHeartbeats 1000000 in
theorem read_yesB (w : World) (gr ge i : Nat) (v : Value) (p : Nat) (x0 : Value) (c : Bool) (q : Int) (ok : Bool)
    (h0 : w.cell? ⟨gr, 0, none⟩ = some v) (h1 : w.cell? ⟨gr, 1, none⟩ = some (.int .i64 p)) (h2 : w.cell? ⟨gr, 2, none⟩ = some (.bool true)) (hz1 : w.frozen? ⟨gr, 1, none⟩ = false) (hz2 : w.frozen? ⟨gr, 2, none⟩ = false)
    (he : w.cell? ⟨ge, i, none⟩ = some x0) (hze : w.frozen? ⟨ge, i, none⟩ = false) (hne : gr ≠ ge)
    (RD : Hid (Calls Try.prog 17 #[v, .int .i64 p] w.drew fun e w' => e = .returned (.tuple #[.bool c, .int .i64 q, .bool ok]) ∧ w.drew = w')) :
    Calls Try.prog 61 #[.pointer (some ⟨gr, 0, none⟩), .pointer (some ⟨ge, i, none⟩), .func (.func 17) #[] #[]] w fun e w' => e = .returned (.tuple #[]) ∧ w' = ((w.drew.setCell ⟨ge, i, none⟩ (.bool c)).setCell ⟨gr, 1, none⟩ (.int .i64 q)).setCell ⟨gr, 2, none⟩ (.bool ok) := by
  have hne' : ge ≠ gr := fun h => hne h.symm
  go_enter Try.func61, Try.ntmps61
  go_wp2_with fail
  first | (go_region_with (first | (go_at_call 17; (with_reducible refine (RD.out).mono ?_); rintro e w1 ⟨rfl, rfl⟩))) | fail
  all_goals go_wp2
  all_goals go_end0
  all_goals exact ⟨rfl, rfl⟩
set_option maxRecDepth 100000 in
theorem read_noB (w : World) (gr : Nat) (x f : Value) (h2 : w.cell? ⟨gr, 2, none⟩ = some (.bool false)) :
    Calls Try.prog 61 #[.pointer (some ⟨gr, 0, none⟩), x, f] w fun e w' => e = .returned (.tuple #[]) ∧ w = w' := by
  go_enter Try.func61, Try.ntmps61
  go_wp2_with fail
  go_end0
  exact ⟨rfl, rfl⟩

end Go.Proofs.Ytfikailgjmgnbaa

namespace Go.Proofs.Ytfikailgjmgnbaa
open Go.RowKit Flo
attribute [local go_sem ↓] Go.wp_at_zero Go.wp_at_succ

set_option maxRecDepth 100000 in
set_option maxHeartbeats 1000000 in
theorem read_yesV (w : World) (gr ge i : Nat) (v : Value) (p : Nat) (x0 : Value) (a c : Nat) (q : Int) (ok : Bool)
    (h0 : w.cell? ⟨gr, 0, none⟩ = some v) (h1 : w.cell? ⟨gr, 1, none⟩ = some (.int .i64 p)) (h2 : w.cell? ⟨gr, 2, none⟩ = some (.bool true)) (hz1 : w.frozen? ⟨gr, 1, none⟩ = false) (hz2 : w.frozen? ⟨gr, 2, none⟩ = false)
    (he : w.cell? ⟨ge, i, none⟩ = some x0) (hze : w.frozen? ⟨ge, i, none⟩ = false) (hne : gr ≠ ge)
    (RD : Hid (Calls Try.prog 21 #[v, .int .i64 p] w.drew fun e w' => e = .returned (.tuple #[.complex .f64 a c, .int .i64 q, .bool ok]) ∧ w.drew = w')) :
    Calls Try.prog 63 #[.pointer (some ⟨gr, 0, none⟩), .pointer (some ⟨ge, i, none⟩), .func (.func 21) #[] #[]] w fun e w' => e = .returned (.tuple #[]) ∧ w' = ((w.drew.setCell ⟨ge, i, none⟩ (.complex .f64 a c)).setCell ⟨gr, 1, none⟩ (.int .i64 q)).setCell ⟨gr, 2, none⟩ (.bool ok) := by
  have hne' : ge ≠ gr := fun h => hne h.symm
  go_enter Try.func63, Try.ntmps63
  go_wp2_with fail
  first | (go_region_with (first | (go_at_call 21; (with_reducible refine (RD.out).mono ?_); rintro e w1 ⟨rfl, rfl⟩))) | fail
  all_goals go_wp2
  all_goals go_end0
  all_goals exact ⟨rfl, rfl⟩
set_option maxRecDepth 100000 in
theorem read_noV (w : World) (gr : Nat) (x f : Value) (h2 : w.cell? ⟨gr, 2, none⟩ = some (.bool false)) :
    Calls Try.prog 63 #[.pointer (some ⟨gr, 0, none⟩), x, f] w fun e w' => e = .returned (.tuple #[]) ∧ w = w' := by
  go_enter Try.func63, Try.ntmps63
  go_wp2_with fail
  go_end0
  exact ⟨rfl, rfl⟩

end Go.Proofs.Ytfikailgjmgnbaa

namespace Go.Proofs.Ytfikailgjmgnbaa
open Go.RowKit Flo

/-- a block of the call's own that holds these values, and may be written -/
def HeldF (g : Nat) (vs : List Value) (W : World) : Prop := g < W.heap.size ∧ ∀ i (h : i < vs.length), W.cell? ⟨g, i, none⟩ = some vs[i] ∧ W.frozen? ⟨g, i, none⟩ = false
theorem HeldF.held {g : Nat} {vs : List Value} {W : World} (h : HeldF g vs W) : Held g vs W := ⟨h.1, fun i hi => (h.2 i hi).1⟩
theorem HeldF.on {g : Nat} {vs : List Value} {W W' : World} (h : HeldF g vs W) (hb : Below W.heap.size W W') : HeldF g vs W' :=
  ⟨Nat.lt_of_lt_of_le h.1 hb.size, fun i hi => ⟨(World.cell?_of_block (a := ⟨g, i, none⟩) (hb.block g h.1)).trans (h.2 i hi).1, (World.frozen?_of_block (a := ⟨g, i, none⟩) (hb.block g h.1)).trans (h.2 i hi).2⟩⟩
theorem heldF_made (w : World) (vs : List Value) (e : TypeId) : HeldF w.heap.size vs (w.alloc (.cells vs.toArray e)) :=
  ⟨by simp, fun i hi => ⟨by rw [World.cell?_alloc_new, List.getElem?_toArray]; exact List.getElem?_eq_getElem hi, World.frozen?_alloc_new ..⟩⟩
theorem HeldF.drew {g : Nat} {vs : List Value} {W : World} (h : HeldF g vs W) : HeldF g vs W.drew := h
theorem HeldF.set {g : Nat} {vs : List Value} {W : World} (h : HeldF g vs W) (i : Nat) (hi : i < vs.length) (u : Value) : HeldF g (vs.set i u) (W.setCell ⟨g, i, none⟩ u) := by
  refine ⟨by simpa [World.setCell] using h.1, fun j hj => ⟨?_, by rw [World.frozen?_setCell]; exact (h.2 j (by simpa using hj)).2⟩⟩
  rw [List.length_set] at hj
  by_cases e : j = i
  · subst e
    rw [World.cell?_setCell_same _ _ _ (h.2 j hi).1, List.getElem_set_self]
  · rw [World.cell?_setCell_other _ _ _ _ (by intro h; injection h with _ h; omega), (h.2 j hj).1, List.getElem_set_ne (fun h => e h.symm)]
theorem HeldF.other {g : Nat} {vs : List Value} {W : World} (h : HeldF g vs W) {b o : Nat} (u : Value) (hne : g ≠ b) : HeldF g vs (W.setCell ⟨b, o, none⟩ u) := by
  refine ⟨by simpa [World.setCell] using h.1, fun j hj => ⟨?_, by rw [World.frozen?_setCell]; exact (h.2 j hj).2⟩⟩
  rw [World.cell?_setCell_other _ _ _ _ (by intro h; injection h with h _; omega)]
  exact (h.2 j hj).1

def Knd.shape : Knd → Value → Prop
  | .I, y => ∃ n, y = .int .i64 n
  | .T, y => ∃ s, y = .string s
  | .B, y => ∃ c, y = .bool c
  | .V, y => ∃ a c, y = .complex .f64 a c
theorem shape_val (f : Fld) : f.knd.shape f.val := by
  cases f
  · exact ⟨_, rfl⟩
  · exact ⟨_, rfl⟩
  · exact ⟨_, rfl⟩
  · exact ⟨_, _, rfl⟩
theorem shape_zero (K : Knd) : K.shape K.zero := by
  cases K
  · exact ⟨_, rfl⟩
  · exact ⟨_, rfl⟩
  · exact ⟨_, rfl⟩
  · exact ⟨_, _, rfl⟩
def ReadYes (K : Knd) (f g : FuncId) : Prop := ∀ (w : World) (gr ge i : Nat) (v : Value) (p : Nat) (x0 y : Value) (q : Int) (ok : Bool), K.shape y → w.cell? ⟨gr, 0, none⟩ = some v → w.cell? ⟨gr, 1, none⟩ = some (.int .i64 p) → w.cell? ⟨gr, 2, none⟩ = some (.bool true) → w.frozen? ⟨gr, 1, none⟩ = false → w.frozen? ⟨gr, 2, none⟩ = false →
  w.cell? ⟨ge, i, none⟩ = some x0 → w.frozen? ⟨ge, i, none⟩ = false → gr ≠ ge → Calls Try.prog g #[v, .int .i64 p] w.drew (fun e w' => e = .returned (.tuple #[y, .int .i64 q, .bool ok]) ∧ w.drew = w') →
  Calls Try.prog f #[.pointer (some ⟨gr, 0, none⟩), .pointer (some ⟨ge, i, none⟩), .func (.func g) #[] #[]] w fun e w' => e = .returned (.tuple #[]) ∧ w' = ((w.drew.setCell ⟨ge, i, none⟩ y).setCell ⟨gr, 1, none⟩ (.int .i64 q)).setCell ⟨gr, 2, none⟩ (.bool ok)
def ReadNo (f : FuncId) : Prop := ∀ (w : World) (gr : Nat) (x u : Value), w.cell? ⟨gr, 2, none⟩ = some (.bool false) → Calls Try.prog f #[.pointer (some ⟨gr, 0, none⟩), x, u] w fun e w' => e = .returned (.tuple #[]) ∧ w = w'
def RdOk (K : Knd) (g : FuncId) : Prop := ∀ (w : World) (B : Nat) (v : Value) (l : List UInt8) (p : Nat), Seen w B v l → p ≤ 4611686018427387904 → l.length ≤ 4611686018427387904 → Calls Try.prog g #[v, .int .i64 p] w fun e w' => e = .returned (got K l p) ∧ w = w'
structure Reader (K : Knd) (f g : FuncId) : Prop where
  yes : ReadYes K f g
  no : ReadNo f
  rd : RdOk K g
theorem reader_I : Reader .I 59 56 :=
  ⟨fun w gr ge i v p x0 y q ok ⟨n, hy⟩ h0 h1 h2 z1 z2 he hz hne hrd => by subst hy; exact read_yesI w gr ge i v p x0 n q ok h0 h1 h2 z1 z2 he hz hne hrd, fun w gr x u h => read_noI w gr x u h, fun w B v l p h hp _ => rd_int w h hp⟩
theorem reader_T : Reader .T 60 19 :=
  ⟨fun w gr ge i v p x0 y q ok ⟨n, hy⟩ h0 h1 h2 z1 z2 he hz hne hrd => by subst hy; exact read_yesT w gr ge i v p x0 n q ok h0 h1 h2 z1 z2 he hz hne hrd, fun w gr x u h => read_noT w gr x u h, fun w B v l p h hp _ => rd_text w h hp⟩
theorem reader_B : Reader .B 61 17 :=
  ⟨fun w gr ge i v p x0 y q ok ⟨n, hy⟩ h0 h1 h2 z1 z2 he hz hne hrd => by subst hy; exact read_yesB w gr ge i v p x0 n q ok h0 h1 h2 z1 z2 he hz hne hrd, fun w gr x u h => read_noB w gr x u h, fun w B v l p h _ _ => rd_truth w h⟩
theorem reader_V : Reader .V 63 21 :=
  ⟨fun w gr ge i v p x0 y q ok ⟨a, c, hy⟩ h0 h1 h2 z1 z2 he hz hne hrd => by subst hy; exact read_yesV w gr ge i v p x0 a c q ok h0 h1 h2 z1 z2 he hz hne hrd, fun w gr x u h => read_noV w gr x u h, fun w B v l p h hp hl => rd_ver w h hp hl⟩

theorem gets_snoc : ∀ (ks : List Knd) (K : Knd) (R : List UInt8), gets (ks ++ [K]) R = match gets ks R with
    | none => none
    | some (fs, k) => match fget K (R.drop k) with
      | none => none
      | some (f, j) => some (fs ++ [f], k + j)
  | [], K, R => by
    show gets [K] R = match fget K (R.drop 0) with
      | none => none
      | some (f, j) => some ([] ++ [f], 0 + j)
    rw [List.drop_zero]
    unfold gets
    cases hf : fget K R with
    | none => rfl
    | some x => simp [gets]
  | K' :: ks, K, R => by
    rw [List.cons_append, gets, gets]
    cases hf : fget K' R with
    | none => rfl
    | some x =>
      obtain ⟨f', k'⟩ := x
      simp only
      rw [gets_snoc ks K (R.drop k')]
      cases hg : gets ks (R.drop k') with
      | none => rfl
      | some y =>
        obtain ⟨fs, j⟩ := y
        simp only [List.drop_drop]
        cases hh : fget K (R.drop (k' + j)) with
        | none => rfl
        | some z => simp [Nat.add_assoc]
theorem gets_len {ks : List Knd} {R : List UInt8} {fs : List Fld} {k : Nat} (h : gets ks R = some (fs, k)) : fs.length = ks.length ∧ k ≤ R.length := by
  obtain ⟨_, h2, h3, _⟩ := gets_is h
  exact ⟨by have := congrArg List.length h3; simpa [kinds] using this, h2⟩
theorem set_mid {α : Type _} (a b : List α) (x y : α) (n : Nat) (hn : n = a.length) : (a ++ x :: b).set n y = a ++ y :: b := by
  subst hn; simp

/-- where a reading stands: the fields of these kinds are behind it, those ahead of it are zero; or one of them wasn't there -/
def St (l : List UInt8) (p : Nat) (v : Value) (gr ge : Nat) (ks rest : List Knd) (w0 W : World) : Prop := Below w0.heap.size w0 W ∧
  ((∃ fs k, gets ks (l.drop p) = some (fs, k) ∧ HeldF gr [v, .int .i64 ((p + k : Nat) : Int), .bool true] W ∧ HeldF ge (fs.map Fld.val ++ rest.map Knd.zero) W) ∨
   (gets ks (l.drop p) = none ∧ ∃ x vs, vs.length = ks.length + rest.length ∧ HeldF gr [v, x, .bool false] W ∧ HeldF ge vs W))

theorem St.step {K : Knd} {f g : FuncId} (R : Reader K f g) {l : List UInt8} {p : Nat} {v : Value} {gr ge : Nat} {ks rest : List Knd} {w0 W : World} (hv : Seen w0 w0.heap.size v l) (hl : l.length ≤ 1000000000) (hp : p ≤ 1000000000) (hgr : w0.heap.size ≤ gr) (hge : w0.heap.size ≤ ge) (hne : gr ≠ ge) (h : St l p v gr ge ks (K :: rest) w0 W) {n : Nat} (hn : n = ks.length) :
    Calls Try.prog f #[.pointer (some ⟨gr, 0, none⟩), .pointer (some ⟨ge, n, none⟩), .func (.func g) #[] #[]] W fun e W' => e = .returned (.tuple #[]) ∧ St l p v gr ge (ks ++ [K]) rest w0 W' := by
  subst hn
  obtain ⟨hb, h⟩ := h
  rcases h with ⟨fs, k, hg, hr, he⟩ | ⟨hg, x, vs, hlen, hr, he⟩
  · obtain ⟨hks, hkl⟩ := gets_len hg
    rw [List.length_drop] at hkl
    have hi : ks.length < (fs.map Fld.val ++ (K :: rest).map Knd.zero).length := by simp; omega
    obtain ⟨e1, e2⟩ := he.2 _ hi
    obtain ⟨c1, _⟩ := hr.2 0 (by simp)
    obtain ⟨c2, z2⟩ := hr.2 1 (by simp)
    obtain ⟨c3, z3⟩ := hr.2 2 (by simp)
    have hrd := R.rd W.drew w0.heap.size v l (p + k) (hv.below hb.drew) (by omega) (by omega)
    have hbel : ∀ (y : Value) (q : Int) (ok : Bool), Below w0.heap.size w0 (((W.drew.setCell ⟨ge, ks.length, none⟩ y).setCell ⟨gr, 1, none⟩ (.int .i64 q)).setCell ⟨gr, 2, none⟩ (.bool ok)) := fun y q ok => ((hb.drew.setCell hge _).setCell hgr _).setCell hgr _
    have hrr : ∀ (y : Value) (q : Int) (ok : Bool), HeldF gr [v, .int .i64 q, .bool ok] (((W.drew.setCell ⟨ge, ks.length, none⟩ y).setCell ⟨gr, 1, none⟩ (.int .i64 q)).setCell ⟨gr, 2, none⟩ (.bool ok)) := fun y q ok =>
      (((hr.drew.other y hne).set 1 (by simp) (.int .i64 q)).set 2 (by simp) (.bool ok) : HeldF gr (([v, .int .i64 ((p + k : Nat) : Int), .bool true].set 1 (.int .i64 q)).set 2 (.bool ok)) _)
    have hee : ∀ (y : Value) (q : Int) (ok : Bool), HeldF ge (fs.map Fld.val ++ y :: rest.map Knd.zero) (((W.drew.setCell ⟨ge, ks.length, none⟩ y).setCell ⟨gr, 1, none⟩ (.int .i64 q)).setCell ⟨gr, 2, none⟩ (.bool ok)) := fun y q ok => by
      have := ((he.drew.set ks.length hi y).other (o := 1) (.int .i64 q) (Ne.symm hne)).other (o := 2) (.bool ok) (Ne.symm hne)
      rw [List.map_cons, set_mid _ _ _ _ _ (by simp [hks])] at this
      exact this
    cases hf : fget K (l.drop (p + k)) with
    | none =>
      rw [got_none hf] at hrd
      refine (R.yes W gr ge ks.length v (p + k) _ K.zero 0 false (shape_zero K) c1 c2 c3 z2 z3 e1 e2 hne hrd).mono ?_
      rintro e W' ⟨rfl, rfl⟩
      refine ⟨rfl, hbel _ _ _, .inr ⟨by rw [gets_snoc, hg]; simp only [List.drop_drop, hf], _, _, ?_, hrr _ _ _, hee _ _ _⟩⟩
      simp [hks]; omega
    | some z =>
      obtain ⟨f0, j⟩ := z
      rw [got_some hf] at hrd
      have hk := (fget_is hf).2.2.2.1
      refine (R.yes W gr ge ks.length v (p + k) _ f0.val _ true (by rw [← hk]; exact shape_val f0) c1 c2 c3 z2 z3 e1 e2 hne hrd).mono ?_
      rintro e W' ⟨rfl, rfl⟩
      refine ⟨rfl, hbel _ _ _, .inl ⟨fs ++ [f0], k + j, by rw [gets_snoc, hg]; simp only [List.drop_drop, hf], ?_, ?_⟩⟩
      · rw [← Nat.add_assoc]; exact hrr _ _ _
      · have := hee f0.val ((p + k + j : Nat) : Int) true
        rw [List.map_append, List.append_assoc]
        exact this
  · obtain ⟨c3, _⟩ := hr.2 2 (by simp)
    refine (R.no W gr _ _ c3).mono ?_
    rintro e W' ⟨rfl, rfl⟩
    exact ⟨rfl, hb, .inr ⟨by rw [gets_snoc, hg], x, vs, by rw [hlen]; simp; omega, hr, he⟩⟩

end Go.Proofs.Ytfikailgjmgnbaa

namespace Go.Proofs.Ytfikailgjmgnbaa
open Go.RowKit Flo

inductive Th where
  | fld (f : Fld)
  | row (fs : List Fld)
  | list (xs : List (List Fld))
  | view (x : View)
  | views (xs : List View)
  | img (x : Img)
inductive TK where
  | one (K : Knd)
  | row (ks : List Knd)
  | list (ks : List Knd)
  | view
  | views
  | img
def Th.bytes : Th → List UInt8
  | .fld f => f.bytes
  | .row fs => bytesOf fs
  | .list xs => entB xs
  | .view x => viewB x
  | .views xs => vwsB xs
  | .img x => x.bytes
/-- a right thing of this kind -/
def TK.is : TK → Th → Prop
  | .one K, .fld f => f.knd = K ∧ f.right
  | .row ks, .row fs => kinds fs = ks ∧ ∀ f ∈ fs, f.right
  | .list ks, .list xs => xs.length ≤ 4096 ∧ ∀ y ∈ xs, kinds y = ks ∧ ∀ f ∈ y, f.right
  | .view, .view x => ViewRight x
  | .views, .views xs => xs.length ≤ 4096 ∧ ∀ y ∈ xs, ViewRight y
  | .img, .img x => x.right
  | _, _ => False
theorem th_apart : ∀ (K : TK), Apart Th.bytes (fun t => K.is t) := by
  intro K a b x y ha hb h
  cases K <;> cases a <;> first | exact ha.elim | skip
  all_goals cases b <;> first | exact hb.elim | skip
  · obtain ⟨e1, e2⟩ := field_apart _ _ _ x y ha hb h
    exact ⟨by rw [e1], e2⟩
  · obtain ⟨e1, e2⟩ := fields_apart _ _ _ x y ha hb h
    exact ⟨by rw [e1], e2⟩
  · obtain ⟨e1, e2⟩ := ent_apart _ _ _ x y ha hb h
    exact ⟨by rw [e1], e2⟩
  · obtain ⟨e1, e2⟩ := view_apart _ _ x y ha hb h
    exact ⟨by rw [e1], e2⟩
  · obtain ⟨e1, e2⟩ := vws_apart _ _ x y ha hb h
    exact ⟨by rw [e1], e2⟩
  · obtain ⟨e1, e2⟩ := img_apart _ _ x y ha hb h
    exact ⟨by rw [e1], e2⟩
/-- several things, one behind the other -/
def bytesT : List Th → List UInt8
  | [] => []
  | t :: ts => t.bytes ++ bytesT ts
theorem bytesT_snoc (ts : List Th) (t : Th) : bytesT (ts ++ [t]) = bytesT ts ++ t.bytes := by
  induction ts with
  | nil => simp [bytesT]
  | cons x r ih => rw [List.cons_append, bytesT, bytesT, ih, List.append_assoc]
def Are : List TK → List Th → Prop
  | [], [] => True
  | K :: ks, t :: ts => K.is t ∧ Are ks ts
  | _, _ => False
theorem are_snoc : ∀ {ks : List TK} {ts : List Th} {K : TK} {t : Th}, Are ks ts → K.is t → Are (ks ++ [K]) (ts ++ [t])
  | [], [], _, _, _, h => ⟨h, trivial⟩
  | [], _ :: _, _, _, h, _ => h.elim
  | _ :: _, [], _, _, h, _ => h.elim
  | _ :: _, _ :: _, _, _, h, h2 => ⟨h.1, are_snoc h.2 h2⟩
theorem are_snoc_of : ∀ {ks : List TK} {us : List Th} {K : TK}, Are (ks ++ [K]) us → ∃ ts t, us = ts ++ [t] ∧ Are ks ts ∧ K.is t
  | [], [], _, h => h.elim
  | [], [t], _, h => ⟨[], t, rfl, trivial, h.1⟩
  | [], _ :: _ :: _, _, h => h.2.elim
  | _ :: _, [], _, h => h.elim
  | _ :: _, u :: _, _, h => by
    obtain ⟨ts, t, rfl, h1, h2⟩ := are_snoc_of h.2
    exact ⟨u :: ts, t, rfl, ⟨h.1, h1⟩, h2⟩
theorem are_apart : ∀ (ks : List TK), Apart bytesT (fun ts => Are ks ts)
  | [], [], [], _, _, _, _, h => ⟨rfl, h⟩
  | [], _ :: _, _, _, _, h, _, _ => h.elim
  | [], [], _ :: _, _, _, _, h, _ => h.elim
  | _ :: _, [], _, _, _, h, _, _ => h.elim
  | _ :: _, _ :: _, [], _, _, _, h, _ => h.elim
  | K :: ks, a :: s, b :: t, x, y, ha, hb, h => by
    rw [bytesT, bytesT, List.append_assoc, List.append_assoc] at h
    obtain ⟨e1, e2⟩ := th_apart K a b _ _ ha.1 hb.1 h
    obtain ⟨e3, e4⟩ := are_apart ks s t x y ha.2 hb.2 e2
    exact ⟨by rw [e1, e3], e4⟩

/-- lists in memory, in blocks of which X holds -/
def StructsX (X : Nat → Prop) (w : World) (v : Value) (n : Nat) (rows : List (List Value)) : Prop := ∃ A c, v = .slice A rows.length c ∧ rows.length ≤ c ∧ c ≤ maxLen ∧ (rows = [] ∨ ∃ b off, A = some ⟨b, off, none⟩ ∧ X b ∧ b < w.heap.size ∧ ∀ i (h : i < rows.length) j (h' : j < rows[i].length), w.cell? ⟨b, off + i * n + j, none⟩ = some rows[i][j])
def ViewsX (X : Nat → Prop) (w : World) (v : Value) (xs : List View) : Prop := ∃ A c, v = .slice A xs.length c ∧ xs.length ≤ c ∧ c ≤ maxLen ∧ (xs = [] ∨ ∃ b off, A = some ⟨b, off, none⟩ ∧ X b ∧ b < w.heap.size ∧
  ∀ i (h : i < xs.length), ∃ u, (∀ j (h' : j < (vals xs[i].1).length), w.cell? ⟨b, off + i * 5 + j, none⟩ = some (vals xs[i].1)[j]) ∧ w.cell? ⟨b, off + i * 5 + 4, none⟩ = some u ∧ StructsX X w u 2 (xs[i].2.map vals))
/-- nothing turns of what X holds of; and Y holds of it -/
def Kept (X Y : Nat → Prop) (w w' : World) : Prop := w.heap.size ≤ w'.heap.size ∧ ∀ b, X b → b < w.heap.size → w'.heap[b]? = w.heap[b]? ∧ Y b
theorem StructsX.keep {X Y : Nat → Prop} {w w' : World} {v : Value} {n : Nat} {rows : List (List Value)} (h : StructsX X w v n rows) (hk : Kept X Y w w') : StructsX Y w' v n rows := by
  obtain ⟨A, c, rfl, h1, h2, h3⟩ := h
  refine ⟨A, c, rfl, h1, h2, h3.imp id ?_⟩
  rintro ⟨b, off, rfl, hx, hw, hr⟩
  obtain ⟨e, hy⟩ := hk.2 b hx hw
  exact ⟨b, off, rfl, hy, Nat.lt_of_lt_of_le hw hk.1, fun i hi j hj => (World.cell?_of_block (a := ⟨b, off + i * n + j, none⟩) e).trans (hr i hi j hj)⟩
theorem ViewsX.keep {X Y : Nat → Prop} {w w' : World} {v : Value} {xs : List View} (h : ViewsX X w v xs) (hk : Kept X Y w w') : ViewsX Y w' v xs := by
  obtain ⟨A, c, rfl, h1, h2, h3⟩ := h
  refine ⟨A, c, rfl, h1, h2, h3.imp id ?_⟩
  rintro ⟨b, off, rfl, hx, hw, hr⟩
  obtain ⟨e, hy⟩ := hk.2 b hx hw
  refine ⟨b, off, rfl, hy, Nat.lt_of_lt_of_le hw hk.1, fun i hi => ?_⟩
  obtain ⟨u, a1, a2, a3⟩ := hr i hi
  exact ⟨u, fun j hj => (World.cell?_of_block (a := ⟨b, off + i * 5 + j, none⟩) e).trans (a1 j hj), (World.cell?_of_block (a := ⟨b, off + i * 5 + 4, none⟩) e).trans a2, a3.keep hk⟩
theorem StructsX.all {X : Nat → Prop} {w : World} {v : Value} {n : Nat} {rows : List (List Value)} (h : StructsX X w v n rows) : Structs w v n rows := by
  obtain ⟨A, c, rfl, h1, h2, h3⟩ := h
  exact ⟨A, c, rfl, h1, h2, h3.imp id fun ⟨b, off, e, _, hw, hr⟩ => ⟨b, off, e, hw, hr⟩⟩
theorem ViewsX.all {X : Nat → Prop} {w : World} {v : Value} {xs : List View} (h : ViewsX X w v xs) : ViewsAt w v xs := by
  obtain ⟨A, c, rfl, h1, h2, h3⟩ := h
  refine ⟨A, c, rfl, h1, h2, h3.imp id fun ⟨b, off, e, _, hw, hr⟩ => ⟨b, off, e, hw, fun i hi => ?_⟩⟩
  obtain ⟨u, a1, a2, a3⟩ := hr i hi
  exact ⟨u, a1, a2, a3.all⟩
theorem StructsX.nil {X : Nat → Prop} {w : World} {n : Nat} : StructsX X w (.slice none 0 0) n [] := ⟨none, 0, rfl, Nat.le_refl _, Nat.zero_le _, .inl rfl⟩

/-- a thing's cells -/
def TK.lies (X : Nat → Prop) (w : World) : TK → Th → List Value → Prop
  | .one _, .fld f, vs => vs = [f.val]
  | .row _, .row fs, vs => vs = vals fs
  | .list ks, .list xs, vs => ∃ v, vs = [v] ∧ StructsX X w v ks.length (xs.map vals)
  | .view, .view x, vs => ∃ u, vs = vals x.1 ++ [u] ∧ StructsX X w u 2 (x.2.map vals)
  | .views, .views xs, vs => ∃ v, vs = [v] ∧ ViewsX X w v xs
  | .img, .img x, vs => ∃ lv sv, vs = [ver x.fl.1 x.fl.2, ver x.la.1 x.la.2, .int .i64 x.gen, lv, sv] ∧ StructsX X w lv 11 (x.log.map vals) ∧ StructsX X w sv 7 (x.seen.map vals)
  | _, _, _ => False
theorem lies_keep {X Y : Nat → Prop} {w w' : World} {K : TK} {t : Th} {vs : List Value} (h : K.lies X w t vs) (hk : Kept X Y w w') : K.lies Y w' t vs := by
  cases K <;> cases t <;> first | exact h.elim | exact h | skip
  · obtain ⟨v, e, h⟩ := h
    exact ⟨v, e, h.keep hk⟩
  · obtain ⟨v, e, h⟩ := h
    exact ⟨v, e, h.keep hk⟩
  · obtain ⟨v, e, h⟩ := h
    exact ⟨v, e, h.keep hk⟩
  · obtain ⟨a, b, e, h1, h2⟩ := h
    exact ⟨a, b, e, h1.keep hk, h2.keep hk⟩
def TK.zero : TK → List Value
  | .one K => [K.zero]
  | .row ks => ks.map Knd.zero
  | .list _ => [.slice none 0 0]
  | .view => [.int .i64 0, .int .i64 0, .int .i64 0, .int .i64 0, .slice none 0 0]
  | .views => [.slice none 0 0]
  | .img => [.complex .f64 0 0, .complex .f64 0 0, .int .i64 0, .slice none 0 0, .slice none 0 0]
def Few (n : Nat) (vs : List Value) : Prop := vs.length = n ∧ ∀ v ∈ vs, v.oneCell' = true
def TK.shape : TK → List Value → Prop
  | .one K, vs => ∃ y, vs = [y] ∧ K.shape y
  | .row ks, vs => Few ks.length vs
  | .list _, vs => ∃ A n c, vs = [.slice A n c]
  | .view, vs => Few 5 vs
  | .views, vs => ∃ A n c, vs = [.slice A n c]
  | .img, vs => Few 5 vs
theorem one_shape {K : Knd} {y : Value} (h : K.shape y) : y.oneCell' = true := by
  cases K
  · obtain ⟨_, rfl⟩ := h; rfl
  · obtain ⟨_, rfl⟩ := h; rfl
  · obtain ⟨_, rfl⟩ := h; rfl
  · obtain ⟨_, _, rfl⟩ := h; rfl
theorem vals_few (fs : List Fld) : Few fs.length (vals fs) := by
  refine ⟨by simp [vals], fun v hv => ?_⟩
  obtain ⟨f, _, rfl⟩ := List.mem_map.1 hv
  exact one_shape (shape_val f)
theorem shape_few {K : TK} {vs : List Value} (h : K.shape vs) : Few K.zero.length vs := by
  cases K with
  | one K => obtain ⟨y, rfl, hy⟩ := h; exact ⟨rfl, fun v hv => by rw [List.mem_singleton] at hv; rw [hv]; exact one_shape hy⟩
  | row ks => obtain ⟨h1, h2⟩ := h; exact ⟨by simp [TK.zero, h1], h2⟩
  | list ks => obtain ⟨A, n, c, rfl⟩ := h; exact ⟨rfl, fun v hv => by rw [List.mem_singleton] at hv; rw [hv]; rfl⟩
  | view => exact h
  | views => obtain ⟨A, n, c, rfl⟩ := h; exact ⟨rfl, fun v hv => by rw [List.mem_singleton] at hv; rw [hv]; rfl⟩
  | img => exact h
theorem zero_shape (K : TK) : K.shape K.zero := by
  cases K with
  | one K => exact ⟨_, rfl, shape_zero K⟩
  | row ks =>
    refine ⟨by simp [TK.zero], fun v hv => ?_⟩
    obtain ⟨f, _, rfl⟩ := List.mem_map.1 hv
    exact one_shape (shape_zero f)
  | list ks => exact ⟨_, _, _, rfl⟩
  | view => exact ⟨rfl, by decide⟩
  | views => exact ⟨_, _, _, rfl⟩
  | img => exact ⟨rfl, by decide⟩
theorem structsX_slice {X : Nat → Prop} {w : World} {v : Value} {n : Nat} {rows : List (List Value)} (h : StructsX X w v n rows) : ∃ A n c, v = .slice A n c := by
  obtain ⟨A, c, rfl, _⟩ := h
  exact ⟨_, _, _, rfl⟩
theorem lies_shape {X : Nat → Prop} {w : World} {K : TK} {t : Th} {vs : List Value} (h : K.lies X w t vs) (hi : K.is t) : K.shape vs := by
  cases K <;> cases t <;> first | exact h.elim | skip
  · obtain rfl := h
    exact ⟨_, rfl, by rw [← hi.1]; exact shape_val _⟩
  · obtain rfl := h
    have := vals_few ‹List Fld›
    obtain ⟨h1, _⟩ := hi
    rw [← h1]
    simpa [TK.shape, kinds] using this
  · obtain ⟨v, rfl, h⟩ := h
    obtain ⟨A, n, c, rfl⟩ := structsX_slice h
    exact ⟨A, n, c, rfl⟩
  · obtain ⟨u, rfl, h⟩ := h
    obtain ⟨A, n, c, rfl⟩ := structsX_slice h
    obtain ⟨h1, h2⟩ := vals_few (Prod.fst ‹View›)
    have hl : (Prod.fst ‹View›).length = 4 := by have := congrArg List.length hi.1; simpa [kinds, K4] using this
    refine ⟨by rw [List.length_append, h1, hl]; rfl, fun v hv => ?_⟩
    rcases List.mem_append.1 hv with hv | hv
    · exact h2 v hv
    · rw [List.mem_singleton] at hv; rw [hv]; rfl
  · obtain ⟨v, rfl, h⟩ := h
    obtain ⟨A, c, rfl, _⟩ := h
    exact ⟨A, _, c, rfl⟩
  · obtain ⟨a, b, rfl, h1, h2⟩ := h
    obtain ⟨A, n, c, rfl⟩ := structsX_slice h1
    obtain ⟨A', n', c', rfl⟩ := structsX_slice h2
    refine ⟨rfl, fun v hv => ?_⟩
    simp only [List.mem_cons, List.not_mem_nil, or_false] at hv
    rcases hv with rfl | rfl | rfl | rfl | rfl <;> rfl
def TK.pack : TK → List Value → Value
  | .one _, vs => vs.headD undef
  | .list _, vs => vs.headD undef
  | .views, vs => vs.headD undef
  | _, vs => .agg vs.toArray
/-- what a reading at a place comes to -/
def Out (K : TK) (l : List UInt8) (p lo : Nat) (vs : List Value) (q : Int) (ok : Bool) (w' : World) : Prop :=
  (∃ t r, K.is t ∧ l.drop p = t.bytes ++ r ∧ K.lies (lo ≤ ·) w' t vs ∧ q = ((p + t.bytes.length : Nat) : Int) ∧ ok = true) ∨ ((¬ ∃ t r, K.is t ∧ l.drop p = t.bytes ++ r) ∧ ok = false)
def GetsT (K : TK) (l : List UInt8) (p : Nat) (w : World) (e : Ending) (w' : World) : Prop :=
  ∃ vs q ok, K.shape vs ∧ e = .returned (.tuple #[K.pack vs, .int .i64 q, .bool ok]) ∧ Below w.heap.size w w' ∧ Out K l p w.heap.size vs q ok w'
def Getter (K : TK) (g : FuncId) : Prop := ∀ (w : World) (v : Value) (l : List UInt8) (p : Nat), Seen w w.heap.size v l → l.length ≤ 1000000000 → p ≤ 1000000000 → Calls Try.prog g #[v, .int .i64 (p : Int)] w (GetsT K l p w)

end Go.Proofs.Ytfikailgjmgnbaa

namespace Go.Proofs.Ytfikailgjmgnbaa
open Go.RowKit Flo
attribute [local go_sem ↓] Go.wp_at_zero Go.wp_at_succ

/-- these cells stand, and may be written -/
def Spot (w : World) (g i n : Nat) : Prop := ∀ j, j < n → (w.cell? ⟨g, i + j, none⟩).isSome = true ∧ w.frozen? ⟨g, i + j, none⟩ = false
theorem Spot.on {w w' : World} {g i n : Nat} (h : Spot w g i n) (e : w'.heap[g]? = w.heap[g]?) : Spot w' g i n := fun j hj => by
  rw [World.cell?_of_block (a := ⟨g, i + j, none⟩) e, World.frozen?_of_block (a := ⟨g, i + j, none⟩) e]
  exact h j hj
def stT (T : TypeId) (X Y : Value) : Sem Unit := Instr.storeAt T X Y
theorem run_stT (T n : Nat) (hT : (Try.prog.info? T).map (·.size) = some n) (w : World) (g i : Nat) (cs : List Value) (hf : Few n cs) (hs : Spot w g i n) :
    (stT T (.pointer (some ⟨g, i, none⟩)) (.agg cs.toArray)).run Try.prog w = .ok () (w.setCells g i cs) := by
  obtain ⟨x, hi, hz⟩ : ∃ x, Try.prog.info? T = some x ∧ x.size = n := by
    cases hq : Try.prog.info? T with
    | none => rw [hq] at hT; cases hT
    | some x => rw [hq] at hT; exact ⟨x, rfl, Option.some.inj hT⟩
  have hsz : (sizeOf T).run Try.prog w = .ok n w := by simp [sizeOf, typeInfo, hi, hz]
  have h := run_storeCells_cells (P := Try.prog) g i cs 0 w (fun j hj => by rw [Nat.add_zero]; exact (hs j (by rw [← hf.1]; exact hj)).1) (fun j hj => by rw [Nat.add_zero]; exact (hs j (by rw [← hf.1]; exact hj)).2) hf.2
  rw [Nat.add_zero] at h
  have hc : (Value.agg cs.toArray).cells.size = n := by show cs.toArray.size = n; simpa using hf.1
  have hl : (Value.agg cs.toArray).cells.toList = cs := by show cs.toArray.toList = cs; simp
  unfold stT
  simp only [Instr.storeAt, Instr.sureAddr, storeVar, Sem.run_bind, Sem.run_pure, Result.andThen_ok, hsz, hc, hl, h, ne_eq, not_true_eq_false, if_false]
theorem to_stOp (X Y : Value) : Instr.storeAt 27 X Y = stT 27 X Y := rfl
theorem to_stIm (X Y : Value) : Instr.storeAt 33 X Y = stT 33 X Y := rfl
theorem run_stOp (w : World) (g i : Nat) (cs : List Value) (hf : Few 5 cs) (hs : Spot w g i 5) : (stT 27 (.pointer (some ⟨g, i, none⟩)) (.agg cs.toArray)).run Try.prog w = .ok () (w.setCells g i cs) := run_stT _ 5 (by kernel_rfl) w g i cs hf hs
theorem run_stIm (w : World) (g i : Nat) (cs : List Value) (hf : Few 5 cs) (hs : Spot w g i 5) : (stT 33 (.pointer (some ⟨g, i, none⟩)) (.agg cs.toArray)).run Try.prog w = .ok () (w.setCells g i cs) := run_stT _ 5 (by kernel_rfl) w g i cs hf hs
theorem cell_apart (w : World) (g i j b : Nat) (cs : List Value) (h : b ≠ g) : (w.setCells g i cs).cell? ⟨b, j, none⟩ = w.cell? ⟨b, j, none⟩ := World.cell?_of_block (a := ⟨b, j, none⟩) (heap_setCells g cs i w b h)
theorem frozen_apart (w : World) (g i j b : Nat) (cs : List Value) (h : b ≠ g) : (w.setCells g i cs).frozen? ⟨b, j, none⟩ = w.frozen? ⟨b, j, none⟩ := World.frozen?_of_block (a := ⟨b, j, none⟩) (heap_setCells g cs i w b h)

/-- a call that reads: its field's cells, the place behind, whether it stood there -/
def Told (K : TK) (R : List Value → Int → Bool → World → Prop) (w : World) (e : Ending) (w2 : World) : Prop := ∃ vs q ok, K.shape vs ∧ e = .returned (.tuple #[K.pack vs, .int .i64 q, .bool ok]) ∧ Below w.heap.size w w2 ∧ R vs q ok w2
def Laid (K : TK) (R : List Value → Int → Bool → World → Prop) (gr ge i : Nat) (w : World) (e : Ending) (w' : World) : Prop := e = .returned (.tuple #[]) ∧ ∃ vs q ok w2, K.shape vs ∧ Below w.heap.size w w2 ∧ R vs q ok w2 ∧ w' = ((w2.setCells ge i vs).setCell ⟨gr, 1, none⟩ (.int .i64 q)).setCell ⟨gr, 2, none⟩ (.bool ok)
/-- what a function that reads through pointers comes to: c is what it calls, x what it hands on -/
def ReadY (K : TK) (f c : FuncId) (u : Value) (x : Array Value) : Prop := ∀ (w : World) (gr ge i : Nat) (v : Value) (p : Nat) (R : List Value → Int → Bool → World → Prop),
  w.cell? ⟨gr, 0, none⟩ = some v → w.cell? ⟨gr, 1, none⟩ = some (.int .i64 p) → w.cell? ⟨gr, 2, none⟩ = some (.bool true) → w.frozen? ⟨gr, 1, none⟩ = false → w.frozen? ⟨gr, 2, none⟩ = false → gr < w.heap.size → ge < w.heap.size → gr ≠ ge → Spot w ge i K.zero.length →
  Hid (Calls Try.prog c (#[v, .int .i64 p] ++ x) w.drew (Told K R w)) → Calls Try.prog f #[.pointer (some ⟨gr, 0, none⟩), .pointer (some ⟨ge, i, none⟩), u] w (Laid K R gr ge i w)
def ReadN (f : FuncId) : Prop := ∀ (w : World) (gr : Nat) (x u : Value), w.cell? ⟨gr, 2, none⟩ = some (.bool false) → Calls Try.prog f #[.pointer (some ⟨gr, 0, none⟩), x, u] w fun e w' => e = .returned (.tuple #[]) ∧ w = w'

end Go.Proofs.Ytfikailgjmgnbaa
