/-
  MsgParts: what msg.GetImage and msg.GetViews come to.
-/
import Derived.Test.YtfikailgjmgnbaaZp10
import Derived.Deep.RegionHeld3

namespace Go.Proofs.Ytfikailgjmgnbaa
open Go.RowKit Flo

/-- msg.GetImage: the image that stands there, in new memory, or none -/
def ImageOk : Prop := ∀ (w : World) (v : Value) (l : List UInt8) (p : Nat), Seen w w.heap.size v l → l.length ≤ 6000 → p ≤ 6000 → Calls Try.prog 10 #[v, .int .i64 (p : Int)] w fun e w' => Below w.heap.size w w' ∧
  ((∃ (x : Img) (lv sv : Value) (k : Nat), x.right ∧ (l.drop p).take k = x.bytes ∧ 0 < k ∧ p + k ≤ l.length ∧ Structs w' lv 11 (x.log.map vals) ∧ Structs w' sv 7 (x.seen.map vals) ∧ e = .returned (.tuple #[.agg #[ver x.fl.1 x.fl.2, ver x.la.1 x.la.2, .int .i64 x.gen, lv, sv], .int .i64 ((p + k : Nat) : Int), .bool true])) ∨
   e = .returned (.tuple #[.agg #[.complex .f64 0 0, .complex .f64 0 0, .int .i64 0, .slice none 0 0, .slice none 0 0], .int .i64 0, .bool false]))
/-- msg.GetViews: the views that stand there, in new memory, or none -/
def ViewsOk : Prop := ∀ (w : World) (v : Value) (l : List UInt8) (p : Nat), Seen w w.heap.size v l → l.length ≤ 6000 → p ≤ 6000 → Calls Try.prog 11 #[v, .int .i64 (p : Int)] w fun e w' => Below w.heap.size w w' ∧
  ((∃ (xs : List View) (vv : Value) (k : Nat), xs.length ≤ 4096 ∧ (∀ y ∈ xs, ViewRight y) ∧ (l.drop p).take k = vwsB xs ∧ 0 < k ∧ p + k ≤ l.length ∧ ViewsAt w' vv xs ∧ e = .returned (.tuple #[vv, .int .i64 ((p + k : Nat) : Int), .bool true])) ∨
   e = .returned (.tuple #[.slice none 0 0, .int .i64 0, .bool false]))
theorem cut_seen {w : World} {B b off c : Nat} {l : List UInt8} (h : At w B (some ⟨b, off, none⟩) c l) (p X : Nat) (h1 : p ≤ X) (h2 : X ≤ l.length) :
    Seen w B (.slice (some ⟨b, off + p, none⟩) (X - p) (c - p)) ((l.drop p).take (X - p)) := by
  obtain ⟨a1, a2, a3⟩ := h
  have hlen : ((l.drop p).take (X - p)).length = X - p := by rw [List.length_take, List.length_drop]; omega
  refine ⟨_, c - p, by rw [hlen], by rw [hlen]; omega, by omega, ?_⟩
  rcases a3 with rfl | ⟨b', off', e, hb, hw, hr⟩
  · exact .inl (by simp)
  · injection e with e
    injection e with e1 e2 _
    subst e1 e2
    exact .inr ⟨b, off + p, rfl, hb, hw, (hr.drop p).take _⟩


section
variable {P : Program} {l : List Oper} {Q : Exit → Act → World → Prop} {md : Region.Mode} {S : World → Prop}
/-- number i of a region is taken first: it is wanted, and yields v in every world that meets S -/
theorem takeL (i : Nat) {oi : Oper} {v : Value} {fuel : Nat} {listed : Array Bool} {a : Act} {w : World} (hi : l[i]? = some oi)
    (hs : Region.noSelect l.toArray = true) (hf : Region.free md l.toArray listed i = true) (hr : (Region.ready md l.toArray listed).contains i = true)
    (hQ : ∀ c a w, Q (.panic c) (a.put oi.dst v) w → Q (.panic c) a w) (hw : Region.wanted oi (yielded l.toArray a.tmps) = true)
    (hy : ∀ w, S w → (execOp a.eval oi).run P w = .ok (.value v) w) (hS : S w)
    (h : wpAnyH P md l.toArray Q S fuel (listed.setIfInBounds i true) (a.put oi.dst v) w) : wpAnyH P md l.toArray Q S (fuel + 1) listed a w :=
  wpAnyH_take (by simpa using hi) hs hf hr hQ (.inl ⟨hw, hy⟩) hS h
/-- number i of a region is taken first: its guard says no -/
theorem skipL (i : Nat) {oi : Oper} {fuel : Nat} {listed : Array Bool} {a : Act} {w : World} (hi : l[i]? = some oi)
    (hs : Region.noSelect l.toArray = true) (hf : Region.free md l.toArray listed i = true) (hr : (Region.ready md l.toArray listed).contains i = true)
    (hQ : ∀ c a w, Q (.panic c) (a.put oi.dst undef) w → Q (.panic c) a w) (hw : Region.wanted oi (yielded l.toArray a.tmps) = false) (hS : S w)
    (h : wpAnyH P md l.toArray Q S fuel (listed.setIfInBounds i true) (a.put oi.dst undef) w) : wpAnyH P md l.toArray Q S (fuel + 1) listed a w :=
  wpAnyH_take (by simpa using hi) hs hf hr hQ (.inr ⟨hw, rfl⟩) hS h
/-- number i of a region is what comes up, and nothing else -/
theorem callL (i : Nat) {oi : Oper} {fuel : Nat} {listed : Array Bool} {a : Act} {w : World} (hr : Region.ready md l.toArray listed = [i]) (hi : l[i]? = some oi)
    (h : ∀ K' : Act → World → Prop, Shut (∀ a w, S w → (S w → wpAnyH P md l.toArray Q S fuel (listed.setIfInBounds i true) a w) → K' a w) → if Region.wanted oi (yielded l.toArray a.tmps) = true then Oper.wp P oi a w K' Q else K' (a.put oi.dst undef) w) :
    wpAnyH P md l.toArray Q S (fuel + 1) listed a w :=
  wpAnyH_ready (rs := [i]) hr (by simp) (AllReadyH.cons (by simpa using hi) h AllReadyH.nil)
end

end Go.Proofs.Ytfikailgjmgnbaa
