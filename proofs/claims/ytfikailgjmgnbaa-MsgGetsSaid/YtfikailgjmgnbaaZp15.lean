/-
  Structs read through pointers: how a reading begins and ends; a struct's load, opaque to the walk.
  Rows of structs in memory: appended to one by one; things that are gathered so.
-/
import Derived.Test.YtfikailgjmgnbaaZp14

namespace Go.Proofs.Ytfikailgjmgnbaa
open Go.RowKit Flo

def ldT (T : TypeId) (X : Value) : Sem Value := Instr.loadAt T X
theorem run_ldT (T n : Nat) (hT : (Try.prog.info? T).map (·.size) = some n) (ha : ∀ W, (isAgg T).run Try.prog W = .ok true W) (W : World) (g : Nat) (h : Wh W g n) : (ldT T (.pointer (some ⟨g, 0, none⟩))).run Try.prog W = .ok (.agg (wholeOf W g n)) W := by
  have hl : (loadCells ⟨g, 0, none⟩ n).run Try.prog W = .ok (wholeOf W g n) W := by simpa [loadCells] using run_whole W g n h
  obtain ⟨i, hi, hz⟩ : ∃ i, Try.prog.info? T = some i ∧ i.size = n := by
    cases hq : Try.prog.info? T with
    | none => rw [hq] at hT; cases hT
    | some i => rw [hq] at hT; exact ⟨i, rfl, Option.some.inj hT⟩
  have hs : (sizeOf T).run Try.prog W = .ok n W := by simp [sizeOf, typeInfo, hi, hz]
  unfold ldT
  simp only [Instr.loadAt, Instr.sureAddr, loadVar, Sem.run_bind, Sem.run_pure, Result.andThen_ok, ha, hs, hl, if_true]
theorem Sg.start (w : World) (v : Value) (l : List UInt8) (p : Nat) (ks : List TK) (T U : TypeId) (zs : List Value) (hz : zerosT ks = zs) :
    Sg l p v (w.heap.size + 1 + 1) (w.heap.size + 1) (w.heap.size + 1 + 1 + 1) (w.alloc (.cells zs.toArray T)) [] ks (((w.alloc (.cells zs.toArray T)).alloc (.cells zs.toArray T)).alloc (.cells #[v, .int .i64 (p : Int), .bool true] U)) := by
  subst hz
  have h1 := heldF_made (w.alloc (.cells (zerosT ks).toArray T)) (zerosT ks) T
  have h2 := heldF_made ((w.alloc (.cells (zerosT ks).toArray T)).alloc (.cells (zerosT ks).toArray T)) [v, .int .i64 (p : Int), .bool true] U
  have e1 : (w.alloc (.cells (zerosT ks).toArray T)).heap.size = w.heap.size + 1 := by simp
  have e2 : ((w.alloc (.cells (zerosT ks).toArray T)).alloc (.cells (zerosT ks).toArray T)).heap.size = w.heap.size + 1 + 1 := by simp
  have hb := bal ((w.alloc (.cells (zerosT ks).toArray T)).alloc (.cells (zerosT ks).toArray T)) (.cells #[v, .int .i64 (p : Int), .bool true] U)
  refine ⟨bt (bal _ _) hb, by simp, .inl ⟨[], l.drop p, [], trivial, rfl, rfl, ?_, ?_⟩⟩
  · rw [e2] at h2; exact h2
  · have := h1.on hb
    rw [e1] at this
    exact this
/-- what a reading of several things has come to -/
def OutS (ks : List TK) (l : List UInt8) (p lo : Nat) (vs : List Value) (q : Int) (ok : Bool) (W : World) : Prop :=
  (∃ ts r, Are ks ts ∧ l.drop p = bytesT ts ++ r ∧ liesT (lo ≤ ·) W ks ts vs ∧ q = ((p + (bytesT ts).length : Nat) : Int) ∧ ok = true) ∨ ((¬ ∃ ts r, Are ks ts ∧ l.drop p = bytesT ts ++ r) ∧ ok = false)
theorem Sg.done {l : List UInt8} {p : Nat} {v : Value} {gr ge lo : Nat} {w0 : World} {ks : List TK} {W : World} (h : Sg l p v gr ge lo w0 ks [] W) :
    Below w0.heap.size w0 W ∧ lo ≤ W.heap.size ∧ ∃ vs q ok, Few (zerosT ks).length vs ∧ HeldF gr [v, .int .i64 q, .bool ok] W ∧ HeldF ge vs W ∧ OutS ks l p lo vs q ok W := by
  obtain ⟨h1, h2, h3⟩ := h
  refine ⟨h1, h2, ?_⟩
  rcases h3 with ⟨ts, r, vs, a1, a2, a3, a4, a5⟩ | ⟨a1, q, vs, a2, a3, a4⟩
  · exact ⟨vs, _, true, liesT_few a1 a3, a4, by rw [zerosT, List.append_nil] at a5; exact a5, .inl ⟨ts, r, a1, a2, a3, rfl, rfl⟩⟩
  · exact ⟨vs, q, false, by rw [zerosT, List.append_nil] at a2; exact a2, a3, a4, .inr ⟨a1, rfl⟩⟩
theorem OutS.keep {ks : List TK} {l : List UInt8} {p lo lo' : Nat} {vs : List Value} {q : Int} {ok : Bool} {W W' : World} (h : OutS ks l p lo vs q ok W) (hk : Kept (lo ≤ ·) (lo' ≤ ·) W W') : OutS ks l p lo' vs q ok W' := by
  rcases h with ⟨ts, r, a1, a2, a3, a4⟩ | h
  · exact .inl ⟨ts, r, a1, a2, liesT_keep hk a3, a4⟩
  · exact .inr h
/-- pointers to cells, one behind the other -/
def ptrsL (g i n : Nat) : List Value := (List.range n).map fun j => .pointer (some ⟨g, i + j, none⟩)
theorem ptrs_made (w : World) (g i n : Nat) (T : TypeId) : Ptrs (w.alloc (.cells (ptrsL g i n).toArray T)) w.heap.size g i n := by
  refine ⟨by simp, fun j hj => ?_⟩
  rw [World.cell?_alloc_new, List.getElem?_toArray]
  simp [ptrsL, hj]
section
variable {l : List UInt8} {p : Nat} {v : Value} {gr ge lo : Nat} {ks rest : List TK} {w0 : World}
theorem ints_new (n : Nat) (W : World) (i : Nat) (T : TypeId) (cs : Array Value) (b : Nat) (hv : Seen w0 w0.heap.size v l) (hl : l.length ≤ 1000000000) (hp : p ≤ 1000000000) (hgr : w0.heap.size ≤ gr) (hge : w0.heap.size ≤ ge) (hne : gr ≠ ge) (hlr : gr < lo) (hle : ge < lo)
    (h : Sg l p v gr ge lo w0 ks (ints n ++ rest) W) (hi : i = (zerosT ks).length) (hn : n ≤ 1000) (hcs : cs = (ptrsL ge i n).toArray) (hb : b = W.heap.size) :
    Calls Try.prog 15 #[.pointer (some ⟨gr, 0, none⟩), .slice (some ⟨b, 0, none⟩) n n] (W.alloc (.cells cs T)) fun e W' => e = .returned (.tuple #[]) ∧ Sg l p v gr ge lo w0 (ks ++ ints n) rest W' ∧ Stays gr ge W W' := by
  subst hcs hb
  have h2 := h.2.1
  have h0 : w0.heap.size ≤ W.heap.size := h.1.size
  refine (ints_any n _ W.heap.size i hv hl hp hgr hge hne hlr hle (h.on h0 (bal _ _)) hi (ptrs_made W ge i n T) hn (by omega) (by omega)).mono ?_
  rintro e W' ⟨he, hs, hst⟩
  exact ⟨he, hs, Stays.trans ⟨(bal W _).size, fun k hk _ _ => (bal W _).block k hk⟩ hst⟩
end
theorem results_three {fn : Func} {p u x : Tmp} {ty : TypeId} (h : fn.results = #[.cell p ty, .tmp u, .tmp x]) {w : World} {tmps : Array Value} {g n : Nat} {vs : List Value} (hsz : (Try.prog.info? ty).map (·.size) = some n) (ha2 : ∀ W, (isAgg ty).run Try.prog W = .ok true W) (ha : tmps.getD p undef = .pointer (some ⟨g, 0, none⟩)) (hl : Held g vs w) (hn : vs.length = n) :
    (results fn tmps).run Try.prog w = .ok (.tuple #[.agg vs.toArray, tmps.getD u undef, tmps.getD x undef]) w :=
  results_cell3 h ha (run_loadVar_held (by rw [hn]; exact hsz) (ha2 w) hl)
/-- where a reading's result stands behind its last store -/
theorem store_last {w : World} {W : World} {vs zs : List Value} {n lo : Nat} {T : TypeId} (hb : Below (w.alloc (.cells zs.toArray T)).heap.size (w.alloc (.cells zs.toArray T)) W) (hz : zs.length = n) (hf : Few n vs) (hlo : w.heap.size < lo) :
    Spot W w.heap.size 0 n ∧ Held w.heap.size vs (W.setCells w.heap.size 0 vs) ∧ Below w.heap.size w (W.setCells w.heap.size 0 vs) ∧ Kept (lo ≤ ·) (w.heap.size ≤ ·) W (W.setCells w.heap.size 0 vs) := by
  have h0 := (heldF_made w zs T).on hb
  have h1 : HeldF w.heap.size ([] ++ (zs ++ [])) W := by simpa using h0
  refine ⟨by rw [← hz]; exact h1.spot rfl, ?_, (bt (bal _ _) hb).trans (below_setCells (Nat.le_refl _) _ _), by rw [(World.tape_setCells _ _ _ W).2]; exact Nat.le_refl _, fun b hx _ => ⟨heap_setCells _ _ _ _ _ (by omega), by omega⟩⟩
  have := (h1.sets (vs := vs) (by rw [hf.1, hz]) rfl).held
  simpa using this
/-- a struct of fields -/
theorem are_ones : ∀ {Ks : List Knd} {ts : List Th}, Are (Ks.map .one) ts → ∃ fs, ts = fs.map .fld ∧ kinds fs = Ks ∧ ∀ f ∈ fs, f.right
  | [], [], _ => ⟨[], rfl, rfl, fun _ h => by cases h⟩
  | [], _ :: _, h => h.elim
  | _ :: _, [], h => h.elim
  | K :: Ks, t :: ts, h => by
    obtain ⟨h1, h2⟩ := h
    obtain ⟨fs, rfl, e, hr⟩ := are_ones h2
    cases t with
    | fld f => exact ⟨f :: fs, rfl, by show f.knd :: kinds fs = _; rw [e, h1.1], fun g hg => by exact (List.mem_cons.1 hg).elim (fun e => by rw [e]; exact h1.2) (hr g)⟩
    | _ => exact h1.elim
theorem ones_are : ∀ (fs : List Fld), (∀ f ∈ fs, f.right) → Are ((kinds fs).map .one) (fs.map .fld)
  | [], _ => trivial
  | f :: fs, h => ⟨⟨rfl, h f (by simp)⟩, ones_are fs fun g hg => h g (by simp [hg])⟩
theorem bytes_ones : ∀ (fs : List Fld), bytesT (fs.map .fld) = bytesOf fs
  | [] => rfl
  | f :: fs => by rw [List.map_cons, bytesT, bytes_ones fs]; rfl
theorem lies_ones {X : Nat → Prop} {w : World} : ∀ {Ks : List Knd} {fs : List Fld} {vs : List Value}, liesT X w (Ks.map .one) (fs.map .fld) vs → vs = vals fs
  | [], [], _, h => h
  | [], _ :: _, _, h => h.elim
  | _ :: _, [], _, h => h.elim
  | _ :: _, _ :: _, _, h => by
    obtain ⟨a, b, rfl, h1, h2⟩ := h
    obtain rfl := h1
    rw [lies_ones h2]
    rfl
theorem OutS.row {Ks : List Knd} {l : List UInt8} {p lo : Nat} {vs : List Value} {q : Int} {ok : Bool} {W : World} (h : OutS (Ks.map .one) l p lo vs q ok W) : Out (.row Ks) l p lo vs q ok W := by
  rcases h with ⟨ts, r, a1, a2, a3, a4, a5⟩ | ⟨hn, e⟩
  · obtain ⟨fs, rfl, e, hr⟩ := are_ones a1
    rw [bytes_ones] at a2 a4
    exact .inl ⟨.row fs, r, ⟨e, hr⟩, a2, lies_ones a3, a4, a5⟩
  · refine .inr ⟨?_, e⟩
    rintro ⟨t, r, ht, hd⟩
    cases t with
    | row fs => exact hn ⟨fs.map .fld, r, by rw [← ht.1]; exact ones_are fs ht.2, by rw [bytes_ones]; exact hd⟩
    | _ => exact ht.elim
theorem OutS.view {l : List UInt8} {p lo : Nat} {vs : List Value} {q : Int} {ok : Bool} {W : World} (h : OutS (K4.map .one ++ [.list KM]) l p lo vs q ok W) : Out .view l p lo vs q ok W := by
  rcases h with ⟨ts, r, a1, a2, a3, a4, a5⟩ | ⟨hn, e⟩
  · obtain ⟨ss, t, rfl, h1, h2⟩ := are_snoc_of a1
    obtain ⟨fs, rfl, e, hr⟩ := are_ones h1
    rw [bytesT_snoc, bytes_ones] at a2 a4
    cases t with
    | list xs =>
      obtain ⟨a, b, c, d, rfl⟩ := kinds_v4 e
      refine .inl ⟨.view ([.int a, .int b, .int c, .int d], xs), r, ⟨e, hr, h2.1, h2.2⟩, a2, ?_, a4, a5⟩
      obtain ⟨u1, v1, rfl, rfl, b1⟩ := a3
      obtain ⟨u2, v2, rfl, rfl, b2⟩ := b1
      obtain ⟨u3, v3, rfl, rfl, b3⟩ := b2
      obtain ⟨u4, v4, rfl, rfl, b4⟩ := b3
      obtain ⟨u5, v5, rfl, ⟨u, rfl, hu⟩, b5⟩ := b4
      obtain rfl : v5 = [] := b5
      exact ⟨u, rfl, hu⟩
    | _ => exact h2.elim
  · refine .inr ⟨?_, e⟩
    rintro ⟨t, r, ht, hd⟩
    cases t with
    | view x =>
      obtain ⟨h1, h2, h3, h4⟩ := ht
      refine hn ⟨x.1.map .fld ++ [.list x.2], r, are_snoc (by rw [← h1]; exact ones_are _ h2) (show (TK.list KM).is (.list x.2) from ⟨h3, h4⟩), ?_⟩
      rw [bytesT_snoc, bytes_ones]
      exact hd
    | _ => exact ht.elim
theorem OutS.img {l : List UInt8} {p lo : Nat} {vs : List Value} {q : Int} {ok : Bool} {W : World} (h : OutS [.one .V, .one .V, .one .I, .list KE, .list KS] l p lo vs q ok W) : Out .img l p lo vs q ok W := by
  rcases h with ⟨ts, r, a1, a2, a3, a4, a5⟩ | ⟨hn, e⟩
  · match ts, a1, a2, a3, a4 with
    | [.fld f1, .fld f2, .fld f3, .list xs, .list ys], a1, a2, a3, a4 =>
      obtain ⟨⟨k1, r1⟩, ⟨k2, r2⟩, ⟨k3, r3⟩, ⟨l1, l2⟩, ⟨m1, m2⟩, _⟩ := a1
      cases f1 with
      | ver a b =>
        cases f2 with
        | ver c d =>
          cases f3 with
          | int n =>
            have hbt : bytesT [.fld (.ver a b), .fld (.ver c d), .fld (.int n), .list xs, .list ys] = Img.bytes ⟨(a, b), (c, d), n, xs, ys⟩ := by
              simp only [bytesT, Th.bytes, Img.bytes, List.append_nil]
            rw [hbt] at a2 a4
            refine .inl ⟨.img ⟨(a, b), (c, d), n, xs, ys⟩, r, ⟨r1, r2, r3, l1, m1, l2, m2⟩, a2, ?_, a4, a5⟩
            obtain ⟨u1, v1, rfl, rfl, b1⟩ := a3
            obtain ⟨u2, v2, rfl, rfl, b2⟩ := b1
            obtain ⟨u3, v3, rfl, rfl, b3⟩ := b2
            obtain ⟨u4, v4, rfl, ⟨u, rfl, hu⟩, b4⟩ := b3
            obtain ⟨u5, v5, rfl, ⟨y, rfl, hy⟩, b5⟩ := b4
            obtain rfl : v5 = [] := b5
            exact ⟨u, y, rfl, hu, hy⟩
          | _ => cases k3
        | _ => cases k2
      | _ => cases k1
  · refine .inr ⟨?_, e⟩
    rintro ⟨t, r, ht, hd⟩
    cases t with
    | img x =>
      obtain ⟨h1, h2, h3, h4, h5, h6, h7⟩ := ht
      refine hn ⟨[.fld (.ver x.fl.1 x.fl.2), .fld (.ver x.la.1 x.la.2), .fld (.int x.gen), .list x.log, .list x.seen], r, ⟨⟨rfl, h1⟩, ⟨rfl, h2⟩, ⟨rfl, h3⟩, ⟨h4, h6⟩, ⟨h5, h7⟩, trivial⟩, ?_⟩
      have : (Th.img x).bytes = bytesT [.fld (.ver x.fl.1 x.fl.2), .fld (.ver x.la.1 x.la.2), .fld (.int x.gen), .list x.log, .list x.seen] := by
        simp only [bytesT, Th.bytes, Img.bytes, List.append_nil]
      rw [← this]
      exact hd
    | _ => exact ht.elim

end Go.Proofs.Ytfikailgjmgnbaa

namespace Go.Proofs.Ytfikailgjmgnbaa
open Go.RowKit Flo

/-- A slice of k structs of n cells that may be appended to, without a write below block B. -/
def RoomS (w : World) (B : Nat) (v : Value) (n k : Nat) (cs : List Value) : Prop := cs.length = k * n ∧
  ((v = .slice none 0 0 ∧ k = 0) ∨
  ∃ g off cap, v = .slice (some ⟨g, off, none⟩) k cap ∧ k ≤ cap ∧ cap ≤ maxLen ∧ B ≤ g ∧ g < w.heap.size ∧ RowV w g off cs ∧ (∀ j, j < k * n → w.frozen? ⟨g, off + j, none⟩ = false) ∧
    ∀ j, k * n ≤ j → j < cap * n → (w.cell? ⟨g, off + j, none⟩).isSome = true ∧ w.frozen? ⟨g, off + j, none⟩ = false)
theorem RoomS.nil {w : World} {B n : Nat} : RoomS w B (.slice none 0 0) n 0 [] := ⟨by simp, .inl ⟨rfl, rfl⟩⟩
theorem RoomS.on {w w' : World} {B n k : Nat} {v : Value} {cs : List Value} (h : RoomS w B v n k cs) (hb : Below w.heap.size w w') : RoomS w' B v n k cs := by
  obtain ⟨h0, h⟩ := h
  refine ⟨h0, h.imp id ?_⟩
  rintro ⟨g, off, cap, rfl, h1, h2, h3, h4, h5, h7, h6⟩
  have e := hb.block g h4
  refine ⟨g, off, cap, rfl, h1, h2, h3, Nat.lt_of_lt_of_le h4 hb.size, h5.congr e, fun j b => (World.frozen?_of_block (a := ⟨g, off + j, none⟩) e).trans (h7 j b), fun j a b => ?_⟩
  rw [World.cell?_of_block (a := ⟨g, off + j, none⟩) e, World.frozen?_of_block (a := ⟨g, off + j, none⟩) e]
  exact h6 j a b
theorem RoomS.own_lt {w : World} {B n k : Nat} {v : Value} {cs : List Value} (h : RoomS w B v n k cs) : ∀ g, v.ownBlock = some g → g < w.heap.size := by
  intro g hg
  rcases h.2 with ⟨rfl, _⟩ | ⟨g', off, cap, rfl, _, _, _, h4, _⟩
  · cases hg
  · injection hg with hg
    rw [← hg]; exact h4
theorem RoomS.slice {w : World} {B n k : Nat} {v : Value} {cs : List Value} (h : RoomS w B v n k cs) : ∃ A c, v = .slice A k c := by
  rcases h.2 with ⟨rfl, rfl⟩ | ⟨g', off, cap, rfl, _⟩
  · exact ⟨_, _, rfl⟩
  · exact ⟨_, _, rfl⟩

theorem run_appendS {P : Program} {w : World} {B n k : Nat} {v x : Value} {cs ys : List Value} (t tx ty e : TypeId) (i : TypeInfo) (z : Value) (q : Nat) (ht : P.underlying t = some (.slice e)) (hi : P.info? e = some i) (hz : i.zero = some z) (h1 : i.size = n) (hzs : z.cells.size = n) (hy : i.bytes = q)
    (hr : RoomS w B v n k cs) (hB : B ≤ w.heap.size) (hs : Src P n tx x 1 ys w) (hyl : ys.length = n) (hl : k ≤ 1000000) (hq : (k + 1) * q ≤ 140737488355328) :
    ∃ v' w', (Builtin.append_ #[t, tx] ty #[v, x]).run P w = .ok v' w' ∧ RoomS w' B v' n (k + 1) (cs ++ ys) ∧ Below B w w' ∧ (∀ k, k < w.heap.size → v.ownBlock ≠ some k → w'.heap[k]? = w.heap[k]?) ∧ (∀ g, v'.ownBlock = some g → v.ownBlock = some g ∨ w.heap.size ≤ g) := by
  have hs' : Src P i.size tx x 1 ys w := by rw [h1]; exact hs
  obtain ⟨h0, hr⟩ := hr
  have hmul : (k + 1) * n = k * n + n := Nat.succ_mul k n
  have grow : ∀ (bs : Option Addr) (sc : Nat), v = .slice bs k sc → sc < k + 1 → (Builtin.firstCells i.size k (.slice bs k sc)).run P w.drew = .ok cs.toArray w.drew →
      ∃ v' w', (Builtin.append_ #[t, tx] ty #[v, x]).run P w = .ok v' w' ∧ RoomS w' B v' n (k + 1) (cs ++ ys) ∧ Below B w w' ∧ (∀ k, k < w.heap.size → v.ownBlock ≠ some k → w'.heap[k]? = w.heap[k]?) ∧ (∀ g, v'.ownBlock = some g → v.ownBlock = some g ∨ w.heap.size ≤ g) := by
    rintro bs sc rfl hlt hold
    have hrun := run_append_grow_src (P := P) w t tx ty e i z ht hi hz bs k sc cs hold x 1 ys hs' hlt (by omega) (by rw [hy]; exact growslice_fits hlt hq)
    have hge := grownCap_ge w (k + 1) sc e
    have hcm := grownCap_le_maxLen w (k + 1) sc e (by unfold maxLen; omega)
    generalize grownCap w (k + 1) sc e = C at hrun hge hcm
    obtain ⟨m, rfl⟩ : ∃ m, C = k + 1 + m := ⟨C - (k + 1), by omega⟩
    have hZ : ((cs ++ ys).toArray ++ Builtin.zeroCells z.cells (k + 1 + m - (k + 1))).size = (k + 1 + m) * n := by
      rw [Array.size_append, List.size_toArray, List.length_append, size_zeroCells, hzs, h0, hyl, Nat.add_sub_cancel_left, Nat.add_mul, hmul]
    generalize hcs : ((cs ++ ys).toArray ++ Builtin.zeroCells z.cells (k + 1 + m - (k + 1))) = rs at hrun hZ
    have hlen : (cs ++ ys).length = (k + 1) * n := by rw [List.length_append, h0, hyl, hmul]
    refine ⟨_, _, hrun, ⟨hlen, .inr ⟨w.heap.size, 0, k + 1 + m, rfl, hge, hcm, hB, by show w.heap.size < (w.drew.alloc _).heap.size; simp, fun j hj => ?_, fun j _ => World.frozen?_alloc_new w.drew .., fun j _ hj => ?_⟩⟩, (Below.refl B w).drew.alloc hB _, fun k hk _ => Below.heap_alloc w.drew _ k hk, fun g hg => .inr (Nat.le_of_eq (by simpa [Value.ownBlock] using hg))⟩
    · show (w.drew.alloc _).cell? ⟨w.drew.heap.size, 0 + j, none⟩ = _
      rw [World.cell?_alloc_new, Nat.zero_add, ← hcs, Array.getElem?_append_left (by rw [List.size_toArray]; exact hj), List.getElem?_toArray]
      exact List.getElem?_eq_getElem hj
    · show ((w.drew.alloc _).cell? ⟨w.drew.heap.size, 0 + j, none⟩).isSome = true ∧ (w.drew.alloc _).frozen? ⟨w.drew.heap.size, 0 + j, none⟩ = false
      rw [World.cell?_alloc_new, World.frozen?_alloc_new, Nat.zero_add, Array.getElem?_eq_getElem (by omega)]
      exact ⟨rfl, rfl⟩
  rcases hr with ⟨rfl, rfl⟩ | ⟨g, off, cap, rfl, hle, hcm, hgB, hgw, hrow, hfz, hsp⟩
  · obtain rfl : cs = [] := List.eq_nil_of_length_eq_zero (by rw [h0]; omega)
    exact grow none 0 rfl (by omega) (by simp [Builtin.firstCells])
  · have hcell : ∀ j u, cs[j]? = some u → w.cell? ((⟨g, off, none⟩ : Addr).add j) = some u := by
      intro j u hu
      obtain ⟨hj, e⟩ := List.getElem?_eq_some_iff.1 hu
      rw [Addr.add_lit, hrow j hj, e]
    by_cases hfit : k + 1 ≤ cap
    · have hcn : k * n + n ≤ cap * n := by rw [← hmul]; exact Nat.mul_le_mul_right n hfit
      have hfree : ∀ j, j < ys.length → (w.cell? ⟨g, off + k * n + j, none⟩).isSome = true ∧ w.frozen? ⟨g, off + k * n + j, none⟩ = false := by
        intro j hj
        rw [Nat.add_assoc]
        exact hsp (k * n + j) (by omega) (by omega)
      have hrun := run_append_room_src (P := P) w t tx ty e i ht hi g off k cap x 1 ys hs' hfit (by rw [h1]; exact fun j hj => (hfree j hj).1) (by rw [h1]; exact fun j hj => (hfree j hj).2)
      rw [h1] at hrun
      have hlen : (cs ++ ys).length = (k + 1) * n := by rw [List.length_append, h0, hyl, hmul]
      refine ⟨_, _, hrun, ⟨hlen, .inr ⟨g, off, cap, rfl, hfit, hcm, hgB, by rw [(World.tape_setCells g _ _ w).2]; exact hgw, fun j hj => ?_, fun j hj => ?_, fun j hj hc => ?_⟩⟩, below_setCells hgB _ _, fun k _ hk => heap_setCells g ys _ w k (fun e => hk (by rw [e]; rfl)), fun _ h => .inl h⟩
      · rw [List.length_append] at hj
        by_cases hjl : j < cs.length
        · rw [World.cell?_setCells_out g _ _ _ _ (fun _ _ => .inl (by show off + j < _; omega)), hrow j hjl, List.getElem_append_left hjl]
        · have hin := World.cell?_setCells_in g ys (off + k * n) w (fun j hj => (hfree j hj).1) (j - cs.length) (by omega)
          rw [show off + k * n + (j - cs.length) = off + j by omega] at hin
          rw [hin, List.getElem_append_right (by omega)]
      · rw [World.frozen?_setCells]
        by_cases hjl : j < k * n
        · exact hfz j hjl
        · exact (hsp j (by omega) (by omega)).2
      · rw [World.cell?_setCells_out g _ _ _ _ (fun _ _ => .inr (by show off + k * n + ys.length ≤ off + j; omega)), World.frozen?_setCells]
        exact hsp j (by omega) hc
    · exact grow _ cap rfl (by omega) (run_firstCells_some (P := P) w.drew i.size k _ k cap cs (by rw [h1]; exact h0) (by simpa using hcell))

theorem wpList_appendS {P : Program} {w : World} {B n k : Nat} {v xv : Value} {cs ys : List Value} {ops : Array Oper} {rest : List Oper} {o : Oper} {a : Act} {Q : Exit → Act → World → Prop} (hgd : o.guard = none) (s x : Operand) (t tx : TypeId)
    (ho : o.op = .call { callee := .builtin .append, args := #[s, x], argTypes := #[t, tx] })
    (e : TypeId) (i : TypeInfo) (z : Value) (q : Nat) (ht : P.underlying t = some (.slice e)) (hi : P.info? e = some i) (hz : i.zero = some z) (h1 : i.size = n) (hzs : z.cells.size = n) (hy : i.bytes = q)
    (hr : RoomS w B v n k cs) (hB : B ≤ w.heap.size) (hs : Src P n tx xv 1 ys w) (hyl : ys.length = n) (hl : k ≤ 1000000) (hq : (k + 1) * q ≤ 140737488355328) (hv : a.eval s = v) (hx : a.eval x = xv)
    (h : ∀ v' w', RoomS w' B v' n (k + 1) (cs ++ ys) → Below B w w' → (∀ k, k < w.heap.size → v.ownBlock ≠ some k → w'.heap[k]? = w.heap[k]?) → (∀ g, v'.ownBlock = some g → v.ownBlock = some g ∨ w.heap.size ≤ g) → wpList P ops Q rest (a.put o.dst v') w') : wpList P ops Q (o :: rest) a w := by
  refine wpList_plain hgd fun K hK => ?_
  obtain ⟨v', w', hrun, h2, h3, h4, h5⟩ := run_appendS (P := P) t tx o.type e i z q ht hi hz h1 hzs hy hr hB hs hyl hl hq
  unfold Oper.wp execOp
  simp only [ho, resolve, invoke, builtin, Sem.run_bind, Sem.run_pure, Result.andThen_ok, List.map_toArray, List.map_cons, List.map_nil, hv, hx, hrun]
  exact hK _ _ (h v' w' h2 h3 h4 h5)
/-- one new struct, in a block of its own -/
theorem srcS_one {P : Program} (w : World) (n : Nat) (cs : List Value) (hf : Few n cs) {tx e e' : TypeId} (hk : P.underlying tx = some (.slice e')) :
    Src P n tx (.slice (some ⟨w.heap.size, 0, none⟩) 1 1) 1 cs (w.alloc (.cells cs.toArray e)) := by
  refine Src.ofSlice _ hk _ 1 1 cs (by rw [Nat.one_mul]; exact hf.1) (fun j x hx => ?_) hf.2
  rw [Addr.add_lit, World.cell?_alloc_new, Nat.zero_add, List.getElem?_toArray, hx]

theorem flatten_at {n : Nat} : ∀ (css : List (List Value)), (∀ c ∈ css, c.length = n) → css.flatten.length = css.length * n ∧ ∀ i (h : i < css.length) j (h' : j < css[i].length), css.flatten[i * n + j]? = some css[i][j]
  | [], _ => ⟨by simp, fun i h => by cases h⟩
  | c :: css, hc => by
    obtain ⟨h1, h2⟩ := flatten_at css fun x hx => hc x (by simp [hx])
    have hcl := hc c (by simp)
    refine ⟨by rw [List.flatten_cons, List.length_append, h1, hcl, List.length_cons, Nat.succ_mul, Nat.add_comm], fun i hi j hj => ?_⟩
    rw [List.flatten_cons]
    cases i with
    | zero =>
      have hj' : j < c.length := hj
      rw [Nat.zero_mul, Nat.zero_add, List.getElem?_append_left hj']
      exact List.getElem?_eq_getElem hj'
    | succ i =>
      have := h2 i (by simpa using hi) j hj
      rw [Nat.succ_mul, List.getElem?_append_right (by omega), show i * n + n + j - c.length = i * n + j by omega]
      exact this
/-- Things that are being gathered: none of them lies in the gathering slice's own block. -/
def ItemsR (w : World) (B : Nat) (v : Value) (K : TK) (n : Nat) (its : List Th) : Prop := ∃ css : List (List Value), css.length = its.length ∧ (∀ c ∈ css, c.length = n) ∧ RoomS w B v n its.length css.flatten ∧
  ∀ i (h : i < its.length) (h' : i < css.length), K.lies (fun b => B ≤ b ∧ v.ownBlock ≠ some b) w its[i] css[i]
theorem ItemsR.nil {w : World} {B : Nat} {K : TK} {n : Nat} : ItemsR w B (.slice none 0 0) K n [] := ⟨[], rfl, fun _ h => (by cases h), RoomS.nil, fun _ h => by cases h⟩
/-- One more. -/
theorem ItemsR.put {w w1 w' : World} {B : Nat} {v v' : Value} {K : TK} {n : Nat} {its : List Th} {t : Th} {css : List (List Value)} {cs : List Value} (h1 : css.length = its.length) (h2 : ∀ c ∈ css, c.length = n) (h0 : RoomS w B v n its.length css.flatten)
    (h3 : ∀ i (h : i < its.length) (h' : i < css.length), K.lies (fun b => B ≤ b ∧ v.ownBlock ≠ some b) w its[i] css[i]) (hB : B ≤ w.heap.size)
    (hb : Below w.heap.size w w1) (h4 : RoomS w' B v' n (its.length + 1) (css.flatten ++ cs)) (hk : ∀ k, k < w1.heap.size → v.ownBlock ≠ some k → w'.heap[k]? = w1.heap[k]?) (hs : w1.heap.size ≤ w'.heap.size) (hl : ∀ g, v'.ownBlock = some g → v.ownBlock = some g ∨ w1.heap.size ≤ g)
    (hc : cs.length = n) (ht : K.lies (w.heap.size ≤ ·) w1 t cs) : ItemsR w' B v' K n (its ++ [t]) := by
  have hlt := h0.own_lt
  have hbs := hb.size
  refine ⟨css ++ [cs], by simp [h1], fun c hc' => ?_, by simpa using h4, fun i hi hi' => ?_⟩
  · rcases List.mem_append.1 hc' with h | h
    · exact h2 c h
    · rw [List.mem_singleton] at h; rw [h]; exact hc
  · by_cases hil : i < its.length
    · have hiv : i < css.length := by omega
      rw [List.getElem_append_left hiv, List.getElem_append_left hil]
      refine lies_keep (lies_keep (h3 i hil hiv) (Y := fun b => B ≤ b ∧ v.ownBlock ≠ some b ∧ b < w1.heap.size) ⟨hbs, fun b hx hw => ⟨hb.block b hw, hx.1, hx.2, by omega⟩⟩) ⟨hs, fun b hx hw => ⟨hk b hw hx.2.1, hx.1, fun e => ?_⟩⟩
      rcases hl b e with h | h
      · exact hx.2.1 h
      · omega
    · simp at hi
      obtain rfl : i = its.length := by omega
      rw [List.getElem_append_right (by omega), List.getElem_append_right (by omega)]
      simp only [h1, Nat.sub_self, List.getElem_singleton]
      refine lies_keep ht ⟨hs, fun b hx hw => ⟨hk b hw (fun e => by have := hlt b e; omega), by omega, fun e => ?_⟩⟩
      rcases hl b e with h | h
      · have := hlt b h; omega
      · omega
theorem ItemsR.on {w w' : World} {B : Nat} {v : Value} {K : TK} {n : Nat} {its : List Th} (h : ItemsR w B v K n its) (hb : Below w.heap.size w w') : ItemsR w' B v K n its := by
  obtain ⟨css, h1, h2, h3, h4⟩ := h
  exact ⟨css, h1, h2, h3.on hb, fun i hi hi' => lies_keep (h4 i hi hi') ⟨hb.size, fun b hx hw => ⟨hb.block b hw, hx⟩⟩⟩

/-- a list of things, as a thing -/
structure ListOf (K L : TK) (n : Nat) : Prop where
  made : ∀ its : List Th, its.length ≤ 4096 → (∀ t ∈ its, K.is t) → ∃ t, L.is t ∧ t.bytes = wint (its.length : Int) ++ bytesT its ∧ ∀ (w : World) (B : Nat) (v : Value), ItemsR w B v K n its → L.lies (B ≤ ·) w t [v]
  from_ : ∀ t, L.is t → ∃ its : List Th, its.length ≤ 4096 ∧ (∀ t ∈ its, K.is t) ∧ t.bytes = wint (its.length : Int) ++ bytesT its
theorem rows_of : ∀ (its : List Th) {ks : List Knd}, (∀ t ∈ its, (TK.row ks).is t) → ∃ xs : List (List Fld), its = xs.map .row ∧ ∀ y ∈ xs, kinds y = ks ∧ ∀ f ∈ y, f.right
  | [], _, _ => ⟨[], rfl, fun _ h => by cases h⟩
  | t :: its, ks, h => by
    obtain ⟨xs, rfl, h2⟩ := rows_of its fun u hu => h u (by simp [hu])
    have ht := h t (by simp)
    cases t with
    | row fs => exact ⟨fs :: xs, rfl, fun y hy => (List.mem_cons.1 hy).elim (fun e => by rw [e]; exact ht) (h2 y)⟩
    | _ => exact ht.elim
theorem bytes_rows : ∀ (xs : List (List Fld)), bytesT (xs.map .row) = listB xs
  | [] => rfl
  | x :: xs => by rw [List.map_cons, bytesT, bytes_rows xs]; rfl
theorem views_of : ∀ (its : List Th), (∀ t ∈ its, TK.view.is t) → ∃ xs : List View, its = xs.map .view ∧ ∀ y ∈ xs, ViewRight y
  | [], _ => ⟨[], rfl, fun _ h => by cases h⟩
  | t :: its, h => by
    obtain ⟨xs, rfl, h2⟩ := views_of its fun u hu => h u (by simp [hu])
    have ht := h t (by simp)
    cases t with
    | view x => exact ⟨x :: xs, rfl, fun y hy => (List.mem_cons.1 hy).elim (fun e => by rw [e]; exact ht) (h2 y)⟩
    | _ => exact ht.elim
theorem bytes_views : ∀ (xs : List View), bytesT (xs.map .view) = viewsB xs
  | [] => rfl
  | x :: xs => by rw [List.map_cons, bytesT, bytes_views xs]; rfl
theorem items_shape {w : World} {B : Nat} {v : Value} {K : TK} {n : Nat} {its : List Th} (h : ItemsR w B v K n its) : ∃ A c, v = .slice A its.length c ∧ its.length ≤ c ∧ c ≤ maxLen ∧ (its = [] ∨ ∃ b off css, A = some ⟨b, off, none⟩ ∧ B ≤ b ∧ b < w.heap.size ∧ (css : List (List Value)).length = its.length ∧
    ∀ i (h : i < its.length) (h' : i < css.length), K.lies (B ≤ ·) w its[i] css[i] ∧ ∀ j (hj : j < css[i].length), w.cell? ⟨b, off + i * n + j, none⟩ = some css[i][j]) := by
  obtain ⟨css, h1, h2, ⟨_, h3⟩, h4⟩ := h
  rcases h3 with ⟨rfl, h3⟩ | ⟨g, off, cap, rfl, a1, a2, a3, a4, a5, _⟩
  · exact ⟨none, 0, by rw [h3], by omega, Nat.zero_le _, .inl (List.eq_nil_of_length_eq_zero h3)⟩
  · refine ⟨_, cap, rfl, a1, a2, .inr ⟨g, off, css, rfl, a3, a4, h1, fun i hi hi' => ⟨lies_keep (h4 i hi hi') ⟨Nat.le_refl _, fun b hx _ => ⟨rfl, hx.1⟩⟩, fun j hj => ?_⟩⟩⟩
    obtain ⟨_, f2⟩ := flatten_at css h2
    obtain ⟨hq, e⟩ := List.getElem?_eq_some_iff.1 (f2 i hi' j hj)
    rw [Nat.add_assoc, a5 _ hq, e]
theorem list_rows (ks : List Knd) : ListOf (.row ks) (.list ks) ks.length := by
  refine ⟨fun its hl hi => ?_, fun t ht => ?_⟩
  · obtain ⟨xs, rfl, hx⟩ := rows_of its hi
    rw [List.length_map] at hl
    refine ⟨.list xs, ⟨hl, hx⟩, by rw [bytes_rows, List.length_map]; rfl, fun w B v h => ⟨v, rfl, ?_⟩⟩
    obtain ⟨A, c, rfl, h1, h2, h3⟩ := items_shape h
    rw [List.length_map] at h1 ⊢
    refine ⟨A, c, by rw [List.length_map], by rw [List.length_map]; exact h1, h2, ?_⟩
    rcases h3 with h3 | ⟨b, off, css, rfl, hb, hw, hcl, hc⟩
    · exact .inl (by rw [List.map_eq_nil_iff] at h3 ⊢; exact h3)
    · refine .inr ⟨b, off, rfl, hb, hw, fun i hi j hj => ?_⟩
      rw [List.length_map] at hi hcl
      obtain ⟨e, h5⟩ := hc i (by rw [List.length_map]; exact hi) (by omega)
      rw [List.getElem_map] at e
      have e : css[i]'(by omega) = vals xs[i] := e
      have hjl : j < (css[i]'(by omega)).length := by rw [e]; simpa using hj
      rw [h5 j hjl]
      simp only [e, List.getElem_map]
  · cases t with
    | list xs => exact ⟨xs.map .row, by rw [List.length_map]; exact ht.1, fun t h => by obtain ⟨x, hx, rfl⟩ := List.mem_map.1 h; exact ht.2 x hx, by rw [bytes_rows, List.length_map]; rfl⟩
    | _ => exact ht.elim
theorem list_views : ListOf .view .views 5 := by
  refine ⟨fun its hl hi => ?_, fun t ht => ?_⟩
  · obtain ⟨xs, rfl, hx⟩ := views_of its hi
    rw [List.length_map] at hl
    refine ⟨.views xs, ⟨hl, hx⟩, by rw [bytes_views, List.length_map]; rfl, fun w B v h => ⟨v, rfl, ?_⟩⟩
    obtain ⟨A, c, rfl, h1, h2, h3⟩ := items_shape h
    rw [List.length_map] at h1 ⊢
    refine ⟨A, c, rfl, h1, h2, ?_⟩
    rcases h3 with h3 | ⟨b, off, css, rfl, hb, hw, hcl, hc⟩
    · exact .inl (by rw [List.map_eq_nil_iff] at h3; exact h3)
    · refine .inr ⟨b, off, rfl, hb, hw, fun i hi => ?_⟩
      rw [List.length_map] at hcl
      obtain ⟨e, h5⟩ := hc i (by rw [List.length_map]; exact hi) (by omega)
      rw [List.getElem_map] at e
      obtain ⟨u, e, hu⟩ := e
      have hl4 : (vals xs[i].1).length = 4 := by
        have := congrArg List.length (hx xs[i] (List.getElem_mem hi)).1
        simpa [kinds, K4, vals] using this
      have hcj : ∀ j y, (vals xs[i].1 ++ [u])[j]? = some y → w.cell? ⟨b, off + i * 5 + j, none⟩ = some y := fun j y hy => by
        rw [← e] at hy
        obtain ⟨hj, e2⟩ := List.getElem?_eq_some_iff.1 hy
        rw [h5 j hj, e2]
      refine ⟨u, fun j hj => hcj j _ ?_, hcj 4 u ?_, hu⟩
      · rw [List.getElem?_append_left hj]; exact List.getElem?_eq_getElem hj
      · rw [List.getElem?_append_right (by omega), hl4]; rfl
  · cases t with
    | views xs => exact ⟨xs.map .view, by rw [List.length_map]; exact ht.1, fun t h => by obtain ⟨x, hx, rfl⟩ := List.mem_map.1 h; exact ht.2 x hx, by rw [bytes_views, List.length_map]; rfl⟩
    | _ => exact ht.elim

end Go.Proofs.Ytfikailgjmgnbaa
