/-
  net.apart: the same net in memory of its own.
-/
import Derived.Test.YthpbnjmhhkkkiaaCl
namespace Go.Proofs.Ythpbnjmhhkkkiaa
open Go.RowKit
attribute [local go_sem ↓] Go.wp_at_zero Go.wp_at_succ

def Fit (l : List Pkt) : Prop := l.length ≤ 62 ∧ ∀ p ∈ l, p.b.length ≤ 500
/-- the bytes of the first k packets, and how many they are -/
def bts (l : List Pkt) (k : Nat) : List UInt8 := (l.take k).flatMap (·.b)
def pos (l : List Pkt) (k : Nat) : Nat := (bts l k).length
theorem bts_succ {l : List Pkt} {k : Nat} (h : k < l.length) : bts l (k + 1) = bts l k ++ l[k].b := by
  unfold bts; rw [List.take_succ_eq_append_getElem h, List.flatMap_append]; simp
theorem pos_succ {l : List Pkt} {k : Nat} (h : k < l.length) : pos l (k + 1) = pos l k + l[k].b.length := by
  unfold pos; rw [bts_succ h, List.length_append]
theorem pos_le {l : List Pkt} (hf : Fit l) (k : Nat) : pos l k ≤ k * 500 := by
  induction k with
  | zero => simp [pos, bts]
  | succ k ih =>
    by_cases h : k < l.length
    · rw [pos_succ h]
      have := hf.2 _ (List.getElem_mem h)
      omega
    · have : pos l (k + 1) = pos l k := by unfold pos bts; rw [List.take_of_length_le (by omega), List.take_of_length_le (by omega)]
      omega
theorem bts_at {l : List Pkt} : ∀ (k i : Nat) (hi : i < l.length), i < k → k ≤ l.length → ((bts l k).drop (pos l i)).take l[i].b.length = l[i].b := by
  intro k
  induction k with
  | zero => intro i _ h; cases h
  | succ k ih =>
    intro i hi hik hk
    rw [bts_succ (by omega)]
    by_cases e : i = k
    · subst e
      unfold pos
      rw [List.drop_left, List.take_length]
    · have h0 := ih i hi (by omega) (by omega)
      have hlen : pos l i + l[i].b.length ≤ (bts l k).length := by
        have := congrArg List.length h0
        rw [List.length_take, List.length_drop] at this
        have hp : ∀ a b, a ≤ b → b ≤ l.length → pos l a ≤ pos l b := by
          intro a b hab hb
          induction b with
          | zero => rw [show a = 0 by omega]; exact Nat.le_refl _
          | succ b ihb =>
            by_cases ea : a = b + 1
            · rw [ea]; exact Nat.le_refl _
            · rw [pos_succ (by omega)]
              have := ihb (by omega) (by omega)
              omega
        have h1 := hp (i + 1) k (by omega) (by omega)
        rw [pos_succ hi] at h1
        unfold pos at h1 ⊢
        omega
      rw [List.drop_append_of_le_length (by omega), List.take_append_of_le_length (by rw [List.length_drop]; omega)]
      exact h0

theorem pos_all {l : List Pkt} : ∀ k, k ≤ l.length → ∀ i (hi : i < l.length), i < k → pos l i + l[i].b.length ≤ pos l k := by
  intro k
  induction k with
  | zero => intro _ i _ h; cases h
  | succ k ih =>
    intro hk i hi hik
    by_cases e : i = k
    · subst e; rw [pos_succ hi]; exact Nat.le_refl _
    · have := ih (by omega) i hi (by omega)
      rw [pos_succ (by omega)]
      omega
/-- bytes in a block of the call's own that may be written -/
def OwnB (X : Nat → Prop) (w : World) (v : Value) (l : List UInt8) : Prop := ∃ A c, v = .slice A l.length c ∧ l.length ≤ c ∧ c ≤ maxLen ∧ (l = [] ∨ ∃ b off, A = some ⟨b, off, none⟩ ∧ X b ∧ b < w.heap.size ∧ Row w b off l ∧ ∀ j, j < l.length → w.frozen? ⟨b, off + j, none⟩ = false)
theorem OwnB.x {X : Nat → Prop} {w : World} {v : Value} {l : List UInt8} (h : OwnB X w v l) : SeenX X w v l := by
  obtain ⟨A, c, e, h1, h2, h3⟩ := h
  refine ⟨A, c, e, h1, h2, h3.imp id ?_⟩
  rintro ⟨b, off, e, hx, hb, hr, _⟩
  exact ⟨b, off, e, hx, hb, hr⟩
theorem OwnB.keep {X : Nat → Prop} {w w' : World} {v : Value} {l : List UInt8} (h : OwnB X w v l) (hk : ∀ b, X b → b < w.heap.size → w'.heap[b]? = w.heap[b]?) (hs : w.heap.size ≤ w'.heap.size) : OwnB X w' v l := by
  obtain ⟨A, c, e, h1, h2, h3⟩ := h
  refine ⟨A, c, e, h1, h2, h3.imp id ?_⟩
  rintro ⟨b, off, e, hx, hb, hr, hf⟩
  exact ⟨b, off, e, hx, Nat.lt_of_lt_of_le hb hs, hr.congr (hk b hx hb), fun j hj => (World.frozen?_of_block (a := ⟨b, off + j, none⟩) (hk b hx hb)).trans (hf j hj)⟩
theorem OwnB.mono {X Y : Nat → Prop} {w : World} {v : Value} {l : List UInt8} (h : OwnB X w v l) (hk : ∀ b, X b → Y b) : OwnB Y w v l := by
  obtain ⟨A, c, e, h1, h2, h3⟩ := h
  refine ⟨A, c, e, h1, h2, h3.imp id ?_⟩
  rintro ⟨b, off, e, hx, hb, hr⟩
  exact ⟨b, off, e, hk b hx, hb, hr⟩
/-- packets of the call's own: the list's block g, the bytes elsewhere, all from block B on -/
def OwnC (B g : Nat) (w : World) (l : List Pkt) (css : List (List Value)) : Prop := css.length = l.length ∧ ∀ i (h : i < l.length) (h' : i < css.length), ∃ vb, css[i] = l[i].cells vb ∧ OwnB (fun b => B ≤ b ∧ b ≠ g) w vb l[i].b
def OwnL (B : Nat) (w : World) (lv : Value) (l : List Pkt) : Prop := ∃ A c, lv = .slice A l.length c ∧ l.length ≤ c ∧ c ≤ maxLen ∧ (l = [] ∨ ∃ g off css, A = some ⟨g, off, none⟩ ∧ B ≤ g ∧ Lst w g off c css ∧ OwnC B g w l css)
theorem OwnL.on {B : Nat} {w w' : World} {lv : Value} {l : List Pkt} (h : OwnL B w lv l) (hb : Below w.heap.size w w') : OwnL B w' lv l := by
  obtain ⟨A, c, e, h1, h2, h3⟩ := h
  refine ⟨A, c, e, h1, h2, h3.imp id ?_⟩
  rintro ⟨g, off, css, e, hg, hl, hc, hp⟩
  refine ⟨g, off, css, e, hg, hl.on hb, hc, fun i hi hi' => ?_⟩
  obtain ⟨vb, e, ho⟩ := hp i hi hi'
  exact ⟨vb, e, ho.keep (fun b _ hlt => hb.block b hlt) hb.size⟩
theorem OwnL.kept {B : Nat} {w w' : World} {lv : Value} {l : List Pkt} (h : OwnL B w lv l) (hk : ∀ k, B ≤ k → k < w.heap.size → w'.heap[k]? = w.heap[k]?) (hs : w.heap.size ≤ w'.heap.size) : OwnL B w' lv l := by
  obtain ⟨A, c, e, h1, h2, h3⟩ := h
  refine ⟨A, c, e, h1, h2, h3.imp id ?_⟩
  rintro ⟨g, off, css, e, hg, hl, hc, hp⟩
  refine ⟨g, off, css, e, hg, hl.kept (hk g hg hl.lt) hs, hc, fun i hi hi' => ?_⟩
  obtain ⟨vb, e, ho⟩ := hp i hi hi'
  exact ⟨vb, e, ho.keep (fun b hb hlt => hk b hb.1 hlt) hs⟩
theorem OwnL.mono {B B' : Nat} {w : World} {lv : Value} {l : List Pkt} (h : OwnL B w lv l) (hB : B' ≤ B) : OwnL B' w lv l := by
  obtain ⟨A, c, e, h1, h2, h3⟩ := h
  refine ⟨A, c, e, h1, h2, h3.imp id ?_⟩
  rintro ⟨g, off, css, e, hg, hl, hc, hp⟩
  refine ⟨g, off, css, e, by omega, hl, hc, fun i hi hi' => ?_⟩
  obtain ⟨vb, e, ho⟩ := hp i hi hi'
  exact ⟨vb, e, ho.mono fun b hb => ⟨by have := hb.1; omega, hb.2⟩⟩
theorem OwnL.x {B : Nat} {w : World} {lv : Value} {l : List Pkt} (h : OwnL B w lv l) : PktsX (B ≤ ·) w lv l := by
  obtain ⟨A, c, e, h1, h2, h3⟩ := h
  rcases h3 with rfl | ⟨g, off, css, rfl, hg, hl, hc, hp⟩
  · exact ⟨A, c, [], e, h1, h2, ⟨rfl, fun _ h => by cases h⟩, .inl rfl⟩
  · refine ⟨_, c, css, e, h1, h2, ⟨hc, fun i hi hi' => ?_⟩, .inr ⟨g, off, rfl, hg, hl.lt, hl.rowV⟩⟩
    obtain ⟨vb, e, ho⟩ := hp i hi hi'
    exact ⟨vb, e, ho.x.mono fun b hb _ => hb.1⟩

/-- a piece of the one array of all bytes -/
def Piece (M p n : Nat) (V : Value) : Prop := ∃ o, V = .slice (some ⟨M, o, none⟩) n n ∧ (n = 0 ∨ o = p)
theorem Piece.own {X : Nat → Prop} {M C k i : Nat} {V : Value} {w : World} {l : List Pkt} (ht : Tight w M C (bts l k)) (hX : X M) (hi : i < l.length) (hik : i < k) (hk : k ≤ l.length) (h : Piece M (pos l i) l[i].b.length V) : OwnB X w V l[i].b := by
  obtain ⟨o, rfl, h⟩ := h
  have hb := bts_at k i hi hik hk
  have hlen := congrArg List.length hb
  rw [List.length_take, List.length_drop] at hlen
  have hm := ht.max
  have hle := ht.le
  refine ⟨_, _, rfl, Nat.le_refl _, by omega, ?_⟩
  rcases h with h | rfl
  · exact .inl (List.eq_nil_of_length_eq_zero h)
  by_cases h0 : l[i].b = []
  · exact .inl h0
  have h1 : l[i].b.length ≠ 0 := fun e => h0 (List.eq_nil_of_length_eq_zero e)
  refine .inr ⟨M, pos l i, rfl, hX, ht.lt, ?_, fun j hj => (ht.open_ _ (by omega)).2⟩
  have := (ht.row.drop (pos l i)).take l[i].b.length
  rw [hb, Nat.zero_add] at this
  exact this

def Half (w : World) (nx : Int) (l : List Pkt) (A : Option Addr) (M C c k : Nat) (wr : World) : Prop := BoxF w.heap.size [.int .i64 nx, .slice A l.length c] wr ∧ BoxF (w.heap.size + 1) [.int .i64 0, .slice none 0 0] wr ∧ Tight wr M C (bts l k) ∧ Below w.heap.size w wr ∧
  (l = [] ∨ ∃ g off css, A = some ⟨g, off, none⟩ ∧ M < g ∧ Lst wr g off c css ∧ css.length = l.length ∧ ∀ i (h : i < l.length) (h' : i < css.length), ∃ vb, css[i] = l[i].cells vb ∧ (i < k → Piece M (pos l i) l[i].b.length vb) ∧ (k ≤ i → Seen wr w.heap.size vb l[i].b))
theorem Half.own {B : Nat} {w : World} {nx : Int} {l : List Pkt} {A : Option Addr} {M C c : Nat} {wr : World} (h : Half w nx l A M C c l.length wr) (hM : B ≤ M) (hlc : l.length ≤ c) (hcm : c ≤ maxLen) : OwnL B wr (.slice A l.length c) l := by
  obtain ⟨_, _, ht, _, h⟩ := h
  refine ⟨A, c, rfl, hlc, hcm, h.imp id ?_⟩
  rintro ⟨g, off, css, rfl, hg, hl, hc, hp⟩
  refine ⟨g, off, css, rfl, by omega, hl, hc, fun i hi hi' => ?_⟩
  obtain ⟨vb, e, h1, _⟩ := hp i hi hi'
  exact ⟨vb, e, Piece.own ht ⟨hM, by omega⟩ hi hi (Nat.le_refl _) (h1 hi)⟩

def Aparted (n : Nett) (w : World) (e : Ending) (w' : World) : Prop := ∃ lv, e = .returned (.agg #[.int .i64 n.next, lv]) ∧ OwnL w.heap.size w' lv n.l ∧ Below w.heap.size w w'

end Go.Proofs.Ythpbnjmhhkkkiaa
