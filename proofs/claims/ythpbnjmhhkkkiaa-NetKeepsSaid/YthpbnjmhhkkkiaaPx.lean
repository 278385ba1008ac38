/-
  Packets in blocks of one kind (new ones, or all but one): what stays when other blocks turn.
-/
import Derived.Test.YthpbnjmhhkkkiaaNp
namespace Go.Proofs.Ythpbnjmhhkkkiaa
open Go.RowKit

def SeenX (X : Nat → Prop) (w : World) (v : Value) (l : List UInt8) : Prop := ∃ A c, v = .slice A l.length c ∧ l.length ≤ c ∧ c ≤ maxLen ∧ (l = [] ∨ ∃ b off, A = some ⟨b, off, none⟩ ∧ X b ∧ b < w.heap.size ∧ Row w b off l)
theorem SeenX.seen {X : Nat → Prop} {w : World} {v : Value} {l : List UInt8} (h : SeenX X w v l) : Seen w w.heap.size v l := by
  obtain ⟨A, c, e, h1, h2, h3⟩ := h
  refine ⟨A, c, e, h1, h2, h3.imp id ?_⟩
  rintro ⟨b, off, e, _, hb, hr⟩
  exact ⟨b, off, e, hb, hb, hr⟩
theorem SeenX.keep {X : Nat → Prop} {w w' : World} {v : Value} {l : List UInt8} (h : SeenX X w v l) (hk : ∀ b, X b → b < w.heap.size → w'.heap[b]? = w.heap[b]?) (hs : w.heap.size ≤ w'.heap.size) : SeenX X w' v l := by
  obtain ⟨A, c, e, h1, h2, h3⟩ := h
  refine ⟨A, c, e, h1, h2, h3.imp id ?_⟩
  rintro ⟨b, off, e, hx, hb, hr⟩
  exact ⟨b, off, e, hx, Nat.lt_of_lt_of_le hb hs, hr.congr (hk b hx hb)⟩
theorem SeenX.mono {X Y : Nat → Prop} {w : World} {v : Value} {l : List UInt8} (h : SeenX X w v l) (hk : ∀ b, X b → b < w.heap.size → Y b) : SeenX Y w v l := by
  obtain ⟨A, c, e, h1, h2, h3⟩ := h
  refine ⟨A, c, e, h1, h2, h3.imp id ?_⟩
  rintro ⟨b, off, e, hx, hb, hr⟩
  exact ⟨b, off, e, hk b hx hb, hb, hr⟩
theorem Seen.x {w : World} {B : Nat} {v : Value} {l : List UInt8} (h : Seen w B v l) : SeenX (· < B) w v l := by
  obtain ⟨A, c, e, h1, h2, h3⟩ := h
  refine ⟨A, c, e, h1, h2, h3.imp id ?_⟩
  rintro ⟨b, off, e, hx, hb, hr⟩
  exact ⟨b, off, e, hx, hb, hr⟩

def PktsX (X : Nat → Prop) (w : World) (v : Value) (l : List Pkt) : Prop := ∃ (A : Option Addr) (c : Nat) (css : List (List Value)), v = .slice A l.length c ∧ l.length ≤ c ∧ c ≤ maxLen ∧ (css.length = l.length ∧ ∀ i (h : i < l.length) (h' : i < css.length), ∃ vb, css[i] = l[i].cells vb ∧ SeenX X w vb l[i].b) ∧ (l = [] ∨ ∃ b off, A = some ⟨b, off, none⟩ ∧ X b ∧ b < w.heap.size ∧ RowV w b off css.flatten)
theorem PktsX.pkts {X : Nat → Prop} {w : World} {v : Value} {l : List Pkt} (h : PktsX X w v l) : PktsAt w w.heap.size v l := by
  obtain ⟨A, c, css, e, h1, h2, h3, h4⟩ := h
  refine ⟨A, c, css, e, h1, h2, ⟨h3.1, fun i hi hi' => ?_⟩, h4.imp id ?_⟩
  · obtain ⟨vb, e, hs⟩ := h3.2 i hi hi'; exact ⟨vb, e, hs.seen⟩
  · rintro ⟨b, off, e, _, hb, hr⟩; exact ⟨b, off, e, hb, hb, hr⟩
theorem PktsX.keep {X : Nat → Prop} {w w' : World} {v : Value} {l : List Pkt} (h : PktsX X w v l) (hk : ∀ b, X b → b < w.heap.size → w'.heap[b]? = w.heap[b]?) (hs : w.heap.size ≤ w'.heap.size) : PktsX X w' v l := by
  obtain ⟨A, c, css, e, h1, h2, h3, h4⟩ := h
  refine ⟨A, c, css, e, h1, h2, ⟨h3.1, fun i hi hi' => ?_⟩, h4.imp id ?_⟩
  · obtain ⟨vb, e, hq⟩ := h3.2 i hi hi'; exact ⟨vb, e, hq.keep hk hs⟩
  · rintro ⟨b, off, e, hx, hb, hr⟩; exact ⟨b, off, e, hx, Nat.lt_of_lt_of_le hb hs, hr.congr (hk b hx hb)⟩
theorem PktsX.mono {X Y : Nat → Prop} {w : World} {v : Value} {l : List Pkt} (h : PktsX X w v l) (hk : ∀ b, X b → b < w.heap.size → Y b) : PktsX Y w v l := by
  obtain ⟨A, c, css, e, h1, h2, h3, h4⟩ := h
  refine ⟨A, c, css, e, h1, h2, ⟨h3.1, fun i hi hi' => ?_⟩, h4.imp id ?_⟩
  · obtain ⟨vb, e, hq⟩ := h3.2 i hi hi'; exact ⟨vb, e, hq.mono hk⟩
  · rintro ⟨b, off, e, hx, hb, hr⟩; exact ⟨b, off, e, hk b hx hb, hb, hr⟩
theorem PktsAt.x {w : World} {B : Nat} {v : Value} {l : List Pkt} (h : PktsAt w B v l) : PktsX (· < B) w v l := by
  obtain ⟨A, c, css, e, h1, h2, h3, h4⟩ := h
  refine ⟨A, c, css, e, h1, h2, ⟨h3.1, fun i hi hi' => ?_⟩, h4.imp id ?_⟩
  · obtain ⟨vb, e, hq⟩ := h3.2 i hi hi'; exact ⟨vb, e, hq.x⟩
  · rintro ⟨b, off, e, hx, hb, hr⟩; exact ⟨b, off, e, hx, hb, hr⟩

/-- what is taken, in new memory -/
def TookNew (t : Pkt × Nett × Bool) (w : World) (e : Ending) (w' : World) : Prop := ∃ vb lv, e = .returned (.tuple #[.agg #[.int .i64 t.1.id, .int .i64 t.1.to_, vb], .agg #[.int .i64 t.2.1.next, lv], .bool t.2.2]) ∧ SeenX (w.heap.size ≤ ·) w' vb t.1.b ∧ PktsX (w.heap.size ≤ ·) w' lv t.2.1.l ∧ Below w.heap.size w w'
theorem TookNew.took {t : Pkt × Nett × Bool} {w : World} {e : Ending} {w' : World} (h : TookNew t w e w') : Took t w e w' := by
  obtain ⟨vb, lv, rfl, h1, h2, h3⟩ := h
  exact ⟨_, _, rfl, ⟨_, rfl, h1.seen⟩, ⟨_, rfl, h2.pkts⟩, h3⟩
def TakeNewOk : Prop := ∀ (w : World) (v : Value) (n : Nett) (i : Int), NetAt w w.heap.size v n → n.right → 0 ≤ i → Calls Try.prog 9 #[v, .int .i64 i] w (TookNew (n.taken i) w)
theorem TakeNewOk.takes (h : TakeNewOk) : TakeOk := fun w v n i hn hr hi => (h w v n i hn hr hi).mono fun _ _ q => q.took

theorem right_drop {n : Nett} (h : n.right) (k : Nat) : Nett.right ⟨n.next, n.l.drop k⟩ := by
  obtain ⟨h1, h2, h3, h4⟩ := h
  refine ⟨h1, h2, by show (n.l.drop k).length ≤ 60; rw [List.length_drop]; omega, fun i hi => ?_⟩
  have hi : i < (n.l.drop k).length := hi
  rw [List.length_drop] at hi
  have hg : ∀ j, (n.l.drop k).getD j default = n.l.getD (k + j) default := fun j => by simp [List.getD, List.getElem?_drop]
  obtain ⟨a, b, c, d⟩ := h4 (k + i) (by omega)
  unfold Nett.okAt
  simp only [hg]
  exact ⟨a, b, fun h0 => by rw [show k + (i - 1) = k + i - 1 by omega]; exact c (by omega), d⟩
theorem taken_drop {n : Nett} {k : Nat} (hk : k < n.l.length) : Nett.taken ⟨n.next, n.l.drop k⟩ 0 = (n.l[k], ⟨n.next, n.l.drop (k + 1)⟩, true) := by
  unfold Nett.taken
  have h0 : (n.l.drop k).length ≠ 0 := by rw [List.length_drop]; omega
  have hp : Nett.place ⟨n.next, n.l.drop k⟩ 0 = 0 := by unfold Nett.place; simp
  simp only [hp]
  rw [if_neg h0]
  have e : (n.l.drop k).getD 0 default = n.l[k] := by simp [List.getD, List.getElem?_drop, List.getElem?_eq_getElem hk]
  have e2 : (n.l.drop k).eraseIdx 0 = n.l.drop (k + 1) := by rw [List.eraseIdx_zero, List.tail_drop]
  rw [e, e2]
theorem taken_out {n : Nett} : Nett.taken ⟨n.next, n.l.drop n.l.length⟩ 0 = (⟨0, 0, []⟩, ⟨n.next, []⟩, false) := by
  unfold Nett.taken
  rw [List.drop_length]
  rfl

end Go.Proofs.Ythpbnjmhhkkkiaa
