/-
  Fields read one by one through pointers: where a reading of several fields stands; a step of it.
-/
import Derived.Test.YtmohanbgplffcaaErI
import Derived.Test.YtmohanbgplffcaaErT
import Derived.Test.YtmohanbgplffcaaErB
import Derived.Test.YtmohanbgplffcaaErV
namespace Go.Proofs.Ytmohanbgplffcaa
open Go.RowKit Flo

/-- a block of the call's own that holds these values, and may be written -/
def HeldF (g : Nat) (vs : List Value) (W : World) : Prop := g < W.heap.size ∧ ∀ i (h : i < vs.length), W.cell? ⟨g, i, none⟩ = some vs[i] ∧ W.frozen? ⟨g, i, none⟩ = false
theorem HeldF.held {g : Nat} {vs : List Value} {W : World} (h : HeldF g vs W) : Held g vs W := ⟨h.1, fun i hi => (h.2 i hi).1⟩
theorem HeldF.on {g : Nat} {vs : List Value} {W W' : World} (h : HeldF g vs W) (hb : Below W.heap.size W W') : HeldF g vs W' :=
  ⟨Nat.lt_of_lt_of_le h.1 hb.size, fun i hi => ⟨(World.cell?_of_block (a := ⟨g, i, none⟩) (hb.block g h.1)).trans (h.2 i hi).1, (World.frozen?_of_block (a := ⟨g, i, none⟩) (hb.block g h.1)).trans (h.2 i hi).2⟩⟩
theorem heldF_made (w : World) (vs : List Value) (e : TypeId) : HeldF w.heap.size vs (w.alloc (.cells vs.toArray e)) :=
  ⟨by simp, fun i hi => ⟨by rw [World.cell?_alloc_new, List.getElem?_toArray]; exact List.getElem?_eq_getElem hi, World.frozen?_alloc_new ..⟩⟩
theorem HeldF.drew {g : Nat} {vs : List Value} {W : World} (h : HeldF g vs W) : HeldF g vs W.drew := h
theorem HeldF.set {g : Nat} {vs : List Value} {W : World} (h : HeldF g vs W) (i : Nat) (hi : i < vs.length) (u : Value) : HeldF g (vs.set i u) (W.setCell ⟨g, i, none⟩ u) := by
  refine ⟨by simpa [World.setCell] using h.1, fun j hj => ⟨?_, by rw [World.frozen?_setCell]; exact (h.2 j (by simpa using hj)).2⟩⟩
  rw [List.length_set] at hj
  by_cases e : j = i
  · subst e
    rw [World.cell?_setCell_same _ _ _ (h.2 j hi).1, List.getElem_set_self]
  · rw [World.cell?_setCell_other _ _ _ _ (by intro h; injection h with _ h; omega), (h.2 j hj).1, List.getElem_set_ne (fun h => e h.symm)]
theorem HeldF.other {g : Nat} {vs : List Value} {W : World} (h : HeldF g vs W) {b o : Nat} (u : Value) (hne : g ≠ b) : HeldF g vs (W.setCell ⟨b, o, none⟩ u) := by
  refine ⟨by simpa [World.setCell] using h.1, fun j hj => ⟨?_, by rw [World.frozen?_setCell]; exact (h.2 j hj).2⟩⟩
  rw [World.cell?_setCell_other _ _ _ _ (by intro h; injection h with h _; omega)]
  exact (h.2 j hj).1

def Knd.shape : Knd → Value → Prop
  | .I, y => ∃ n, y = .int .i64 n
  | .T, y => ∃ s, y = .string s
  | .B, y => ∃ c, y = .bool c
  | .V, y => ∃ a c, y = .complex .f64 a c
theorem shape_val (f : Fld) : f.knd.shape f.val := by
  cases f
  · exact ⟨_, rfl⟩
  · exact ⟨_, rfl⟩
  · exact ⟨_, rfl⟩
  · exact ⟨_, _, rfl⟩
theorem shape_zero (K : Knd) : K.shape K.zero := by
  cases K
  · exact ⟨_, rfl⟩
  · exact ⟨_, rfl⟩
  · exact ⟨_, rfl⟩
  · exact ⟨_, _, rfl⟩
def ReadYes (K : Knd) (f g : FuncId) : Prop := ∀ (w : World) (gr ge i : Nat) (v : Value) (p : Nat) (x0 y : Value) (q : Int) (ok : Bool), K.shape y → w.cell? ⟨gr, 0, none⟩ = some v → w.cell? ⟨gr, 1, none⟩ = some (.int .i64 p) → w.cell? ⟨gr, 2, none⟩ = some (.bool true) → w.frozen? ⟨gr, 1, none⟩ = false → w.frozen? ⟨gr, 2, none⟩ = false →
  w.cell? ⟨ge, i, none⟩ = some x0 → w.frozen? ⟨ge, i, none⟩ = false → gr ≠ ge → Calls Try.prog g #[v, .int .i64 p] w.drew (fun e w' => e = .returned (.tuple #[y, .int .i64 q, .bool ok]) ∧ w.drew = w') →
  Calls Try.prog f #[.pointer (some ⟨gr, 0, none⟩), .pointer (some ⟨ge, i, none⟩), .func (.func g) #[] #[]] w fun e w' => e = .returned (.tuple #[]) ∧ w' = ((w.drew.setCell ⟨ge, i, none⟩ y).setCell ⟨gr, 1, none⟩ (.int .i64 q)).setCell ⟨gr, 2, none⟩ (.bool ok)
def ReadNo (f : FuncId) : Prop := ∀ (w : World) (gr : Nat) (x u : Value), w.cell? ⟨gr, 2, none⟩ = some (.bool false) → Calls Try.prog f #[.pointer (some ⟨gr, 0, none⟩), x, u] w fun e w' => e = .returned (.tuple #[]) ∧ w = w'
def RdOk (K : Knd) (g : FuncId) : Prop := ∀ (w : World) (B : Nat) (v : Value) (l : List UInt8) (p : Nat), Seen w B v l → p ≤ 4611686018427387904 → l.length ≤ 4611686018427387904 → Calls Try.prog g #[v, .int .i64 p] w fun e w' => e = .returned (got K l p) ∧ w = w'
structure Reader (K : Knd) (f g : FuncId) : Prop where
  yes : ReadYes K f g
  no : ReadNo f
  rd : RdOk K g
theorem reader_I : Reader .I 16 17 :=
  ⟨fun w gr ge i v p x0 y q ok ⟨n, hy⟩ h0 h1 h2 z1 z2 he hz hne hrd => by subst hy; exact read_yesI w gr ge i v p x0 n q ok h0 h1 h2 z1 z2 he hz hne hrd, fun w gr x u h => read_noI w gr x u h, fun w B v l p h hp _ => rd_int w h hp⟩
theorem reader_T : Reader .T 18 19 :=
  ⟨fun w gr ge i v p x0 y q ok ⟨n, hy⟩ h0 h1 h2 z1 z2 he hz hne hrd => by subst hy; exact read_yesT w gr ge i v p x0 n q ok h0 h1 h2 z1 z2 he hz hne hrd, fun w gr x u h => read_noT w gr x u h, fun w B v l p h hp _ => rd_text w h hp⟩
theorem reader_B : Reader .B 20 21 :=
  ⟨fun w gr ge i v p x0 y q ok ⟨n, hy⟩ h0 h1 h2 z1 z2 he hz hne hrd => by subst hy; exact read_yesB w gr ge i v p x0 n q ok h0 h1 h2 z1 z2 he hz hne hrd, fun w gr x u h => read_noB w gr x u h, fun w B v l p h _ _ => rd_truth w h⟩
theorem reader_V : Reader .V 14 15 :=
  ⟨fun w gr ge i v p x0 y q ok ⟨a, c, hy⟩ h0 h1 h2 z1 z2 he hz hne hrd => by subst hy; exact read_yesV w gr ge i v p x0 a c q ok h0 h1 h2 z1 z2 he hz hne hrd, fun w gr x u h => read_noV w gr x u h, fun w B v l p h hp hl => rd_ver w h hp hl⟩

theorem gets_snoc : ∀ (ks : List Knd) (K : Knd) (R : List UInt8), gets (ks ++ [K]) R = match gets ks R with
    | none => none
    | some (fs, k) => match fget K (R.drop k) with
      | none => none
      | some (f, j) => some (fs ++ [f], k + j)
  | [], K, R => by
    show gets [K] R = match fget K (R.drop 0) with
      | none => none
      | some (f, j) => some ([] ++ [f], 0 + j)
    rw [List.drop_zero]
    unfold gets
    cases hf : fget K R with
    | none => rfl
    | some x => simp [gets]
  | K' :: ks, K, R => by
    rw [List.cons_append, gets, gets]
    cases hf : fget K' R with
    | none => rfl
    | some x =>
      obtain ⟨f', k'⟩ := x
      simp only
      rw [gets_snoc ks K (R.drop k')]
      cases hg : gets ks (R.drop k') with
      | none => rfl
      | some y =>
        obtain ⟨fs, j⟩ := y
        simp only [List.drop_drop]
        cases hh : fget K (R.drop (k' + j)) with
        | none => rfl
        | some z => simp [Nat.add_assoc]
theorem gets_len {ks : List Knd} {R : List UInt8} {fs : List Fld} {k : Nat} (h : gets ks R = some (fs, k)) : fs.length = ks.length ∧ k ≤ R.length := by
  obtain ⟨_, h2, h3, _⟩ := gets_is h
  exact ⟨by have := congrArg List.length h3; simpa [kinds] using this, h2⟩
theorem set_mid {α : Type _} (a b : List α) (x y : α) (n : Nat) (hn : n = a.length) : (a ++ x :: b).set n y = a ++ y :: b := by
  subst hn; simp

/-- where a reading stands: the fields of these kinds are behind it, those ahead of it are zero; or one of them wasn't there -/
def St (l : List UInt8) (p : Nat) (v : Value) (gr ge : Nat) (ks rest : List Knd) (w0 W : World) : Prop := Below w0.heap.size w0 W ∧
  ((∃ fs k, gets ks (l.drop p) = some (fs, k) ∧ HeldF gr [v, .int .i64 ((p + k : Nat) : Int), .bool true] W ∧ HeldF ge (fs.map Fld.val ++ rest.map Knd.zero) W) ∨
   (gets ks (l.drop p) = none ∧ ∃ x vs, vs.length = ks.length + rest.length ∧ HeldF gr [v, x, .bool false] W ∧ HeldF ge vs W))

theorem St.step {K : Knd} {f g : FuncId} (R : Reader K f g) {l : List UInt8} {p : Nat} {v : Value} {gr ge : Nat} {ks rest : List Knd} {w0 W : World} (hv : Seen w0 w0.heap.size v l) (hl : l.length ≤ 1000000000) (hp : p ≤ 1000000000) (hgr : w0.heap.size ≤ gr) (hge : w0.heap.size ≤ ge) (hne : gr ≠ ge) (h : St l p v gr ge ks (K :: rest) w0 W) {n : Nat} (hn : n = ks.length) :
    Calls Try.prog f #[.pointer (some ⟨gr, 0, none⟩), .pointer (some ⟨ge, n, none⟩), .func (.func g) #[] #[]] W fun e W' => e = .returned (.tuple #[]) ∧ St l p v gr ge (ks ++ [K]) rest w0 W' := by
  subst hn
  obtain ⟨hb, h⟩ := h
  rcases h with ⟨fs, k, hg, hr, he⟩ | ⟨hg, x, vs, hlen, hr, he⟩
  · obtain ⟨hks, hkl⟩ := gets_len hg
    rw [List.length_drop] at hkl
    have hi : ks.length < (fs.map Fld.val ++ (K :: rest).map Knd.zero).length := by simp; omega
    obtain ⟨e1, e2⟩ := he.2 _ hi
    obtain ⟨c1, _⟩ := hr.2 0 (by simp)
    obtain ⟨c2, z2⟩ := hr.2 1 (by simp)
    obtain ⟨c3, z3⟩ := hr.2 2 (by simp)
    have hrd := R.rd W.drew w0.heap.size v l (p + k) (hv.below hb.drew) (by omega) (by omega)
    have hbel : ∀ (y : Value) (q : Int) (ok : Bool), Below w0.heap.size w0 (((W.drew.setCell ⟨ge, ks.length, none⟩ y).setCell ⟨gr, 1, none⟩ (.int .i64 q)).setCell ⟨gr, 2, none⟩ (.bool ok)) := fun y q ok => ((hb.drew.setCell hge _).setCell hgr _).setCell hgr _
    have hrr : ∀ (y : Value) (q : Int) (ok : Bool), HeldF gr [v, .int .i64 q, .bool ok] (((W.drew.setCell ⟨ge, ks.length, none⟩ y).setCell ⟨gr, 1, none⟩ (.int .i64 q)).setCell ⟨gr, 2, none⟩ (.bool ok)) := fun y q ok =>
      (((hr.drew.other y hne).set 1 (by simp) (.int .i64 q)).set 2 (by simp) (.bool ok) : HeldF gr (([v, .int .i64 ((p + k : Nat) : Int), .bool true].set 1 (.int .i64 q)).set 2 (.bool ok)) _)
    have hee : ∀ (y : Value) (q : Int) (ok : Bool), HeldF ge (fs.map Fld.val ++ y :: rest.map Knd.zero) (((W.drew.setCell ⟨ge, ks.length, none⟩ y).setCell ⟨gr, 1, none⟩ (.int .i64 q)).setCell ⟨gr, 2, none⟩ (.bool ok)) := fun y q ok => by
      have := ((he.drew.set ks.length hi y).other (o := 1) (.int .i64 q) (Ne.symm hne)).other (o := 2) (.bool ok) (Ne.symm hne)
      rw [List.map_cons, set_mid _ _ _ _ _ (by simp [hks])] at this
      exact this
    cases hf : fget K (l.drop (p + k)) with
    | none =>
      rw [got_none hf] at hrd
      refine (R.yes W gr ge ks.length v (p + k) _ K.zero 0 false (shape_zero K) c1 c2 c3 z2 z3 e1 e2 hne hrd).mono ?_
      rintro e W' ⟨rfl, rfl⟩
      refine ⟨rfl, hbel _ _ _, .inr ⟨by rw [gets_snoc, hg]; simp only [List.drop_drop, hf], _, _, ?_, hrr _ _ _, hee _ _ _⟩⟩
      simp [hks]; omega
    | some z =>
      obtain ⟨f0, j⟩ := z
      rw [got_some hf] at hrd
      have hk := (fget_is hf).2.2.2.1
      refine (R.yes W gr ge ks.length v (p + k) _ f0.val _ true (by rw [← hk]; exact shape_val f0) c1 c2 c3 z2 z3 e1 e2 hne hrd).mono ?_
      rintro e W' ⟨rfl, rfl⟩
      refine ⟨rfl, hbel _ _ _, .inl ⟨fs ++ [f0], k + j, by rw [gets_snoc, hg]; simp only [List.drop_drop, hf], ?_, ?_⟩⟩
      · rw [← Nat.add_assoc]; exact hrr _ _ _
      · have := hee f0.val ((p + k + j : Nat) : Int) true
        rw [List.map_append, List.append_assoc]
        exact this
  · obtain ⟨c3, _⟩ := hr.2 2 (by simp)
    refine (R.no W gr _ _ c3).mono ?_
    rintro e W' ⟨rfl, rfl⟩
    exact ⟨rfl, hb, .inr ⟨by rw [gets_snoc, hg], x, vs, by rw [hlen]; simp; omega, hr, he⟩⟩

end Go.Proofs.Ytmohanbgplffcaa
