/-
  NetKeeps, where nothing is asked of it; its beginning.
-/
import Derived.Test.YthpbnjmhhkkkiaaKa
import Derived.Deep.RegionHeld3
namespace Go.Proofs.Ythpbnjmhhkkkiaa
open Go.RowKit
attribute [local go_sem ↓] Go.wp_at_zero Go.wp_at_succ

set_option maxRecDepth 100000 in
set_option maxHeartbeats 4000000 in
theorem keeps_no (w : World) (v vb : Value) (n : Nett) (i : Int) (b : List UInt8) (h : NetAt w w.heap.size v n) (hs : Seen w w.heap.size vb b) (hno : ¬ n.right ∨ 500 < b.length ∨ i < 0) :
    Calls Try.prog 5 #[v, vb, .int .i64 i] w (Fine w) := by
  have HN := Lib.hid h
  obtain ⟨A, c, rfl, hlc⟩ := netAt_slice h
  obtain ⟨Ab, cb, rfl, hAb⟩ := hs
  have hcb : b.length ≤ cb := hAb.1
  have hb0 := bal w (.cells #[.int .i64 n.next, .slice A n.l.length c] 24)
  clear h hAb
  by_cases hr : n.right
  · have HR : Hid (∀ W, Below w.heap.size w W → Calls Try.prog 8 #[.agg #[.int .i64 n.next, .slice A n.l.length c]] W fun e w' => e = .returned (.bool true) ∧ Below W.heap.size W w') := fun W hW => right_is (HN.out.on hW) ⟨fun _ => hr, fun _ => rfl⟩
    by_cases h5 : 500 < b.length
    · have h5b : decide ((500 : Int) < (b.length : Int)) = true := decide_eq_true (by omega)
      have h5c : (500 : Int) < (b.length : Int) := by omega
      clear hno hr
      go_enter Try.func5, Try.ntmps5
      go_wp2_with fail
      go_at_call 7
      refine (awake_ok _).mono ?_
      rintro e w1 ⟨rfl, hb1⟩
      have hd1 := bt hb0 hb1
      have z0 := ((box_made w [.int .i64 n.next, .slice A n.l.length c] 24).on hb1).get 0 rfl
      have z1 := ((box_made w [.int .i64 n.next, .slice A n.l.length c] 24).on hb1).get 1 rfl
      go_wp2_with fail
      go_at_call 8
      refine (HR.out _ hd1).mono ?_
      rintro e w2 ⟨rfl, hb2⟩
      have hd2 := bt hd1 hb2
      go_wp2_with fail
      go_at_call 7
      refine (awake_ok _).mono ?_
      rintro e w3 ⟨rfl, hb3⟩
      go_wp2
      go_ret
      exact ⟨rfl, bt hd2 hb3⟩
    · have hi : i < 0 := by
        rcases hno with h | h | h
        · exact absurd hr h
        · exact absurd h h5
        · exact h
      have h5b : decide ((500 : Int) < (b.length : Int)) = false := decide_eq_false (by omega)
      have h5c : decide (500 < b.length) = false := decide_eq_false h5
      clear hno hr h5
      go_enter Try.func5, Try.ntmps5
      go_wp2_with fail
      go_at_call 7
      refine (awake_ok _).mono ?_
      rintro e w1 ⟨rfl, hb1⟩
      have hd1 := bt hb0 hb1
      have z0 := ((box_made w [.int .i64 n.next, .slice A n.l.length c] 24).on hb1).get 0 rfl
      have z1 := ((box_made w [.int .i64 n.next, .slice A n.l.length c] 24).on hb1).get 1 rfl
      go_wp2_with fail
      go_at_call 8
      refine (HR.out _ hd1).mono ?_
      rintro e w2 ⟨rfl, hb2⟩
      have hd2 := bt hd1 hb2
      go_wp2_with fail
      go_at_call 7
      refine (awake_ok _).mono ?_
      rintro e w3 ⟨rfl, hb3⟩
      go_wp2
      go_ret
      exact ⟨rfl, bt hd2 hb3⟩
  · have HR : Hid (∀ W, Below w.heap.size w W → Calls Try.prog 8 #[.agg #[.int .i64 n.next, .slice A n.l.length c]] W fun e w' => e = .returned (.bool false) ∧ Below W.heap.size W w') := fun W hW => right_is (HN.out.on hW) ⟨fun e => (by cases e), fun e => absurd e hr⟩
    clear hno hr
    go_enter Try.func5, Try.ntmps5
    go_wp2_with fail
    go_at_call 7
    refine (awake_ok _).mono ?_
    rintro e w1 ⟨rfl, hb1⟩
    have hd1 := bt hb0 hb1
    have z0 := ((box_made w [.int .i64 n.next, .slice A n.l.length c] 24).on hb1).get 0 rfl
    have z1 := ((box_made w [.int .i64 n.next, .slice A n.l.length c] 24).on hb1).get 1 rfl
    go_wp2_with fail
    go_at_call 8
    refine (HR.out _ hd1).mono ?_
    rintro e w2 ⟨rfl, hb2⟩
    have hd2 := bt hd1 hb2
    go_wp2_with fail
    go_at_call 7
    refine (awake_ok _).mono ?_
    rintro e w3 ⟨rfl, hb3⟩
    go_wp2
    go_ret
    exact ⟨rfl, bt hd2 hb3⟩

section
variable {P : Program} {l : List Oper} {Q : Exit → Act → World → Prop} {md : Region.Mode} {S : World → Prop}
/-- number i of a region is taken first: it is wanted, and yields v in every world that meets S -/
theorem takeL (i : Nat) {oi : Oper} {v : Value} {fuel : Nat} {listed : Array Bool} {a : Act} {w : World} (hi : l[i]? = some oi)
    (hs : Region.noSelect l.toArray = true) (hf : Region.free md l.toArray listed i = true) (hr : (Region.ready md l.toArray listed).contains i = true)
    (hQ : ∀ c a w, Q (.panic c) (a.put oi.dst v) w → Q (.panic c) a w) (hw : Region.wanted oi (yielded l.toArray a.tmps) = true)
    (hy : ∀ w, S w → (execOp a.eval oi).run P w = .ok (.value v) w) (hS : S w)
    (h : wpAnyH P md l.toArray Q S fuel (listed.setIfInBounds i true) (a.put oi.dst v) w) : wpAnyH P md l.toArray Q S (fuel + 1) listed a w :=
  wpAnyH_take (by simpa using hi) hs hf hr hQ (.inl ⟨hw, hy⟩) hS h
/-- number i of a region is taken first: its guard says no -/
theorem skipL (i : Nat) {oi : Oper} {fuel : Nat} {listed : Array Bool} {a : Act} {w : World} (hi : l[i]? = some oi)
    (hs : Region.noSelect l.toArray = true) (hf : Region.free md l.toArray listed i = true) (hr : (Region.ready md l.toArray listed).contains i = true)
    (hQ : ∀ c a w, Q (.panic c) (a.put oi.dst undef) w → Q (.panic c) a w) (hw : Region.wanted oi (yielded l.toArray a.tmps) = false) (hS : S w)
    (h : wpAnyH P md l.toArray Q S fuel (listed.setIfInBounds i true) (a.put oi.dst undef) w) : wpAnyH P md l.toArray Q S (fuel + 1) listed a w :=
  wpAnyH_take (by simpa using hi) hs hf hr hQ (.inr ⟨hw, rfl⟩) hS h
/-- number i of a region is what comes up, and nothing else -/
theorem callL (i : Nat) {oi : Oper} {fuel : Nat} {listed : Array Bool} {a : Act} {w : World} (hr : Region.ready md l.toArray listed = [i]) (hi : l[i]? = some oi)
    (h : ∀ K' : Act → World → Prop, Shut (∀ a w, S w → (S w → wpAnyH P md l.toArray Q S fuel (listed.setIfInBounds i true) a w) → K' a w) → if Region.wanted oi (yielded l.toArray a.tmps) = true then Oper.wp P oi a w K' Q else K' (a.put oi.dst undef) w) :
    wpAnyH P md l.toArray Q S (fuel + 1) listed a w :=
  wpAnyH_ready (rs := [i]) hr (by simp) (AllReadyH.cons (by simpa using hi) h AllReadyH.nil)
/-- two of a region come up, and nothing else -/
theorem pairL (i j : Nat) {oi oj : Oper} {fuel : Nat} {listed : Array Bool} {a : Act} {w : World} (hr : Region.ready md l.toArray listed = [i, j]) (hi : l[i]? = some oi) (hj : l[j]? = some oj)
    (h : ∀ K' : Act → World → Prop, Shut (∀ a w, S w → (S w → wpAnyH P md l.toArray Q S fuel (listed.setIfInBounds i true) a w) → K' a w) → if Region.wanted oi (yielded l.toArray a.tmps) = true then Oper.wp P oi a w K' Q else K' (a.put oi.dst undef) w)
    (h' : ∀ K' : Act → World → Prop, Shut (∀ a w, S w → (S w → wpAnyH P md l.toArray Q S fuel (listed.setIfInBounds j true) a w) → K' a w) → if Region.wanted oj (yielded l.toArray a.tmps) = true then Oper.wp P oj a w K' Q else K' (a.put oj.dst undef) w) :
    wpAnyH P md l.toArray Q S (fuel + 1) listed a w :=
  wpAnyH_ready (rs := [i, j]) hr (by simp) (AllReadyH.cons (by simpa using hi) h (AllReadyH.cons (by simpa using hj) h' AllReadyH.nil))
end

theorem Flip.third {B E g : Nat} {w0 wr : World} {css : List (List Value)} (h : Flip B E g w0 css wr) (k : Nat) (hk : k < css.length) : ∃ a c Av nk cv, css[k] = [a, c, .slice Av nk cv] ∧ nk ≤ cv ∧ cv ≤ maxLen := by
  obtain ⟨a, c, v, n, e, A, cv, rfl, h1, h2, _⟩ := h.bts k hk
  exact ⟨a, c, A, n, cv, e, h1, h2⟩
theorem Flip.byte {B E g : Nat} {w0 wr : World} {css : List (List Value)} (h : Flip B E g w0 css wr) (k : Nat) (hk : k < css.length) {a c : Value} {Av : Option Addr} {nk cv : Nat} (e : css[k] = [a, c, .slice Av nk cv]) (q : Nat) (hq : q < nk) :
    ∃ b o x, Av = some ⟨b, o, none⟩ ∧ (B ≤ b ∧ b < E ∧ b ≠ g) ∧ wr.cell? ⟨b, o + q, none⟩ = some (.int .u8 x) ∧ wr.frozen? ⟨b, o + q, none⟩ = false := by
  obtain ⟨a', c', v, n, e', A, cv', rfl, h1, h2, h3⟩ := h.bts k hk
  rw [e] at e'
  injection e' with _ e'
  injection e' with _ e'
  injection e' with e' _
  injection e' with e1 e2 e3
  subst e1 e2 e3
  rcases h3 with h3 | ⟨b, o, rfl, hx, hr⟩
  · omega
  · obtain ⟨⟨x, hx'⟩, hf⟩ := hr q hq
    exact ⟨b, o, x, rfl, hx, hx', hf⟩
theorem Seen.src8 {P : Program} {w : World} {B : Nat} {v : Value} {l : List UInt8} (h : Seen w B v l) {tx e : TypeId} (hk : P.underlying tx = some (.slice e)) : Src P 1 tx v l.length (c8 l) w := by
  obtain ⟨A, c, rfl, h⟩ := h
  exact h.src hk
theorem roomN_seenX {w : World} {B : Nat} {v : Value} {l : List UInt8} (h : RoomN w B v 1 l.length (c8 l)) : SeenX (B ≤ ·) w v l := by
  obtain ⟨A, c, rfl, h1, h2, h3⟩ := h.slice
  refine ⟨A, c, rfl, h1, h2, ?_⟩
  rcases h3 with h3 | ⟨b, off, e, hb, hw, hr⟩
  · exact .inl (List.eq_nil_of_length_eq_zero h3)
  · refine .inr ⟨b, off, e, hb, hw, fun j hj => ?_⟩
    have hj' : j < (c8 l).length := by rw [c8_length]; exact hj
    have := c8_get l j hj
    rw [hr j hj', ← this, List.getElem?_eq_getElem hj']
theorem Kept2.kept {B : Nat} {w w' : World} {V : Value} {l : List Pkt} (h : Kept2 B w V l) (hk : ∀ b, B ≤ b → b < w.heap.size → w'.heap[b]? = w.heap[b]?) (hs : w.heap.size ≤ w'.heap.size) : Kept2 B w' V l := by
  obtain ⟨css, h1, h2, h3⟩ := h
  refine ⟨css, h1.kept (fun g hg => hk g (h1.own_ge g hg) (h1.own_lt g hg)) hs, h2, fun i hi hi' => ?_⟩
  obtain ⟨vb, e, hv⟩ := h3 i hi hi'
  exact ⟨vb, e, hv.keep (fun b hb hlt => hk b hb.1 hlt) hs⟩

/-- what the first loop has come to: the net stands, the copy has the first k of its packets -/
def Copied1 (w w2 : World) (nx : Int) (lv : Value) (l : List Pkt) (k : Nat) (wr : World) : Prop := ∃ V, Box w.heap.size [.int .i64 nx, lv] wr ∧ BoxF w2.heap.size [.int .i64 nx, V] wr ∧ Kept2 (w2.heap.size + 1) wr V (l.take k) ∧ Below w2.heap.size w2 wr
theorem copied_step {w w2 wr W6 w7 : World} {nx : Int} {lv V V' vb : Value} {l : List Pkt} {k : Nat} {css : List (List Value)} (hx : Box w.heap.size [.int .i64 nx, lv] wr) (hy : BoxF w2.heap.size [.int .i64 nx, V] wr) (hlt : w.heap.size < w2.heap.size) (hb : Below w2.heap.size w2 wr)
    (h1 : RoomN wr (w2.heap.size + 1) V 3 k css.flatten) (h2 : css.length = (l.take k).length) (h3 : ∀ i (h : i < (l.take k).length) (h' : i < css.length), ∃ vb, css[i] = (l.take k)[i].cells vb ∧ SeenX (fun b => w2.heap.size + 1 ≤ b ∧ V.ownBlock ≠ some b) wr vb (l.take k)[i].b) (hk : k < l.length)
    (ha : Below wr.heap.size wr W6) (hs : SeenX (wr.heap.size ≤ ·) W6 vb l[k].b) (h4 : RoomN w7 (w2.heap.size + 1) V' 3 (k + 1) (css.flatten ++ l[k].cells vb)) (h5 : Below (w2.heap.size + 1) W6 w7)
    (hk7 : ∀ k, k < W6.heap.size → V.ownBlock ≠ some k → w7.heap[k]? = W6.heap[k]?) (ho7 : ∀ g, V'.ownBlock = some g → V.ownBlock = some g ∨ W6.heap.size ≤ g) : Copied1 w w2 nx lv l (k + 1) (w7.setCell ⟨w2.heap.size, 1, none⟩ V') := by
  have hys := hy.1
  have h7 : Below (w2.heap.size + 1) wr w7 := (ha.mono (by omega)).trans h5
  have htk : (l.take k).length = k := by rw [List.length_take]; omega
  have hK : Kept2 (w2.heap.size + 1) w7 V' (l.take k ++ [l[k]]) := kept2_snoc (p := l[k]) (by rw [htk]; exact h1) h2 h3 (by omega) ha hs (by rw [htk]; exact h4) hk7 ho7 h5.size
  refine ⟨V', (hx.kept (h7.block _ (by omega)) h7.size).kept (Below.heap_setCell _ ⟨w2.heap.size, 1, none⟩ _ _ (by show w.heap.size ≠ w2.heap.size; omega)) (by simp [World.setCell]), ((hy.kept (h7.block _ (by omega)) h7.size).set 1 (by simp) V' : _), ?_, (hb.trans (h7.mono (by omega))).trans (below_set (Below.refl _ _) _ _ _ (Nat.le_refl _))⟩
  rw [List.take_succ_eq_append_getElem hk]
  exact hK.kept (fun b hb _ => Below.heap_setCell _ ⟨w2.heap.size, 1, none⟩ _ b (by show b ≠ w2.heap.size; omega)) (by simp [World.setCell])

end Go.Proofs.Ythpbnjmhhkkkiaa
