/-
  Bytes in memory: a slice that reads as a list of bytes; a slice that may be appended to without a write below a given block; append onto it, of whatever gives bytes.
-/
import Derived.Test.YthpbnjmhhkkkiaaWm
import Derived.WalkKit
import Derived.Below
import Derived.Deep.Upon
import Derived.Deep.Draws
import Derived.Laws.IdiomStrings
namespace Go.Proofs.Ythpbnjmhhkkkiaa
open Go.RowKit

/-- bytes as cells -/
def c8 (l : List UInt8) : List Value := l.map fun c => Value.int .u8 (c.toNat : Int)
theorem c8_length (l : List UInt8) : (c8 l).length = l.length := by simp [c8]
theorem c8_append (l m : List UInt8) : c8 (l ++ m) = c8 l ++ c8 m := by simp [c8]
theorem c8_get (l : List UInt8) (j : Nat) (h : j < l.length) : (c8 l)[j]? = some (.int .u8 (l[j].toNat : Int)) := by simp [c8, h]
theorem c8_one (l : List UInt8) : ∀ u ∈ c8 l, u.oneCell' = true := by
  intro u hu
  obtain ⟨c, _, rfl⟩ := List.mem_map.1 hu
  rfl

/-- From that place on, the cells hold these bytes. -/
def Row (w : World) (b off : Nat) (l : List UInt8) : Prop := ∀ j (h : j < l.length), w.cell? ⟨b, off + j, none⟩ = some (.int .u8 (l[j].toNat : Int))
theorem Row.congr {w w' : World} {b off : Nat} {l : List UInt8} (h : Row w b off l) (e : w'.heap[b]? = w.heap[b]?) : Row w' b off l :=
  fun j hj => (World.cell?_of_block (a := ⟨b, off + j, none⟩) e).trans (h j hj)
theorem Row.drop {w : World} {b off : Nat} {l : List UInt8} (h : Row w b off l) (k : Nat) : Row w b (off + k) (l.drop k) := by
  intro j hj
  rw [List.length_drop] at hj
  rw [Nat.add_assoc, h (k + j) (by omega), List.getElem_drop]
theorem Row.take {w : World} {b off : Nat} {l : List UInt8} (h : Row w b off l) (k : Nat) : Row w b off (l.take k) := by
  intro j hj
  rw [List.length_take] at hj
  rw [h j (by omega), List.getElem_take]

/-- The slice's address and capacity, where it reads as l, below block B. -/
def At (w : World) (B : Nat) (A : Option Addr) (c : Nat) (l : List UInt8) : Prop :=
  l.length ≤ c ∧ c ≤ maxLen ∧ (l = [] ∨ ∃ b off, A = some ⟨b, off, none⟩ ∧ b < B ∧ b < w.heap.size ∧ Row w b off l)
/-- The slice reads as l. -/
def Seen (w : World) (B : Nat) (v : Value) (l : List UInt8) : Prop := ∃ A c, v = .slice A l.length c ∧ At w B A c l

theorem At.below {w w' : World} {B : Nat} {A : Option Addr} {c : Nat} {l : List UInt8} (h : At w B A c l) (hb : Below B w w') : At w' B A c l := by
  obtain ⟨h1, h2, h3⟩ := h
  refine ⟨h1, h2, h3.imp id ?_⟩
  rintro ⟨b, off, rfl, hB, hw, hr⟩
  exact ⟨b, off, rfl, hB, Nat.lt_of_lt_of_le hw hb.size, hr.congr (hb.block b hB)⟩
theorem At.more {w : World} {B B' : Nat} {A : Option Addr} {c : Nat} {l : List UInt8} (h : At w B A c l) (hb : B ≤ B') : At w B' A c l := by
  obtain ⟨h1, h2, h3⟩ := h
  refine ⟨h1, h2, h3.imp id ?_⟩
  rintro ⟨b, off, rfl, hB, hw, hr⟩
  exact ⟨b, off, rfl, Nat.lt_of_lt_of_le hB hb, hw, hr⟩
theorem At.full {w : World} {B : Nat} {A : Option Addr} {c : Nat} {l : List UInt8} (h : At w B A c l) : At w w.heap.size A c l := by
  obtain ⟨h1, h2, h3⟩ := h
  refine ⟨h1, h2, h3.imp id ?_⟩
  rintro ⟨b, off, rfl, hB, hw, hr⟩
  exact ⟨b, off, rfl, hw, hw, hr⟩
theorem Seen.below {w w' : World} {B : Nat} {v : Value} {l : List UInt8} (h : Seen w B v l) (hb : Below B w w') : Seen w' B v l := by
  obtain ⟨A, c, rfl, h⟩ := h
  exact ⟨A, c, rfl, h.below hb⟩
theorem Seen.more {w : World} {B B' : Nat} {v : Value} {l : List UInt8} (h : Seen w B v l) (hb : B ≤ B') : Seen w B' v l := by
  obtain ⟨A, c, rfl, h⟩ := h
  exact ⟨A, c, rfl, h.more hb⟩
theorem Seen.full {w : World} {B : Nat} {v : Value} {l : List UInt8} (h : Seen w B v l) : Seen w w.heap.size v l := by
  obtain ⟨A, c, rfl, h⟩ := h
  exact ⟨A, c, rfl, h.full⟩
/-- What was seen is seen still, where nothing that was there has turned. -/
theorem Seen.on {w w' : World} {v : Value} {l : List UInt8} (h : Seen w w.heap.size v l) (hb : Below w.heap.size w w') : Seen w' w'.heap.size v l := (h.below hb).more hb.size
theorem Seen.len {w : World} {B : Nat} {v : Value} {l : List UInt8} (h : Seen w B v l) : l.length ≤ maxLen := by
  obtain ⟨_, _, _, h1, h2, _⟩ := h
  omega
theorem Seen.nil {w : World} {B : Nat} : Seen w B (.slice none 0 0) [] := ⟨none, 0, rfl, Nat.le_refl _, Nat.zero_le _, .inl rfl⟩

theorem At.src {P : Program} {w : World} {B : Nat} {A : Option Addr} {c : Nat} {l : List UInt8} (h : At w B A c l) {tx e : TypeId} (hk : P.underlying tx = some (.slice e)) : Src P 1 tx (.slice A l.length c) l.length (c8 l) w := by
  obtain ⟨h1, h2, h3⟩ := h
  rcases h3 with rfl | ⟨b, off, rfl, _, _, hr⟩
  · cases A with
    | none => exact Src.ofNil w hk c
    | some a => exact Src.ofSlice w hk a 0 c [] rfl (fun _ _ h => by simp at h) (fun _ h => by cases h)
  · refine Src.ofSlice w hk _ _ c (c8 l) (by rw [c8_length, Nat.mul_one]) ?_ (c8_one l)
    intro j u hu
    have hj : j < l.length := by rw [← c8_length]; exact (List.getElem?_eq_some_iff.1 hu).1
    rw [c8_get l j hj] at hu
    rw [Addr.add_lit, hr j hj, hu]
theorem src_string {P : Program} (w : World) {tx : TypeId} (hk : P.underlying tx = some .string) (s : ByteArray) : Src P 1 tx (.string s) s.data.toList.length (c8 s.data.toList) w :=
  Src.ofString w hk s

/-- A slice that may be appended to, without a write below block B. -/
def Room (w : World) (B : Nat) (v : Value) (l : List UInt8) : Prop :=
  (v = .slice none 0 0 ∧ l = []) ∨
  ∃ g off cap, v = .slice (some ⟨g, off, none⟩) l.length cap ∧ l.length ≤ cap ∧ cap ≤ maxLen ∧ (B ≤ g ∨ cap = l.length) ∧ g < w.heap.size ∧ Row w g off l ∧ (B ≤ g → ∀ j, j < l.length → w.frozen? ⟨g, off + j, none⟩ = false) ∧
    ∀ j, l.length ≤ j → j < cap → (w.cell? ⟨g, off + j, none⟩).isSome = true ∧ w.frozen? ⟨g, off + j, none⟩ = false

theorem Room.nil {w : World} {B : Nat} : Room w B (.slice none 0 0) [] := .inl ⟨rfl, rfl⟩
theorem Room.seen {w : World} {B : Nat} {v : Value} {l : List UInt8} (h : Room w B v l) : Seen w w.heap.size v l := by
  rcases h with ⟨rfl, rfl⟩ | ⟨g, off, cap, rfl, h1, h2, _, h4, h5, _, _⟩
  · exact Seen.nil
  · exact ⟨_, cap, rfl, h1, h2, .inr ⟨g, off, rfl, h4, h4, h5⟩⟩
/-- It is kept, where nothing that was there has turned. -/
theorem Room.on {w w' : World} {B : Nat} {v : Value} {l : List UInt8} (h : Room w B v l) (hb : Below w.heap.size w w') : Room w' B v l := by
  rcases h with h | ⟨g, off, cap, rfl, h1, h2, h3, h4, h5, h7, h6⟩
  · exact .inl h
  · have e := hb.block g h4
    refine .inr ⟨g, off, cap, rfl, h1, h2, h3, Nat.lt_of_lt_of_le h4 hb.size, h5.congr (hb.block g h4), fun a j b => (World.frozen?_of_block (a := ⟨g, off + j, none⟩) e).trans (h7 a j b), fun j a b => ?_⟩
    rw [World.cell?_of_block (a := ⟨g, off + j, none⟩) e, World.frozen?_of_block (a := ⟨g, off + j, none⟩) e]
    exact h6 j a b
/-- Cut to its length, it may be appended to: there is no room in it, and nothing that was there turns. -/
theorem Room.cut {w : World} {B : Nat} {v : Value} {l : List UInt8} (h : Room w B v l) : ∃ A c, v = .slice A l.length c ∧ l.length ≤ c ∧ c ≤ maxLen ∧ Room w w.heap.size (.slice A l.length l.length) l := by
  rcases h with ⟨rfl, rfl⟩ | ⟨g, off, cap, rfl, h1, h2, h3, h4, h5, h7, h6⟩
  · exact ⟨none, 0, rfl, Nat.le_refl _, Nat.zero_le _, Room.nil⟩
  · exact ⟨_, cap, rfl, h1, h2, .inr ⟨g, off, _, rfl, Nat.le_refl _, by omega, .inr rfl, h4, h5, fun h => by omega, fun j _ _ => by omega⟩⟩
/-- A new block. -/
theorem Room.made (w : World) (l : List UInt8) (e : TypeId) (hl : l.length ≤ maxLen) : Room (w.alloc (.cells (c8 l).toArray e)) w.heap.size (.slice (some ⟨w.heap.size, 0, none⟩) l.length l.length) l := by
  refine .inr ⟨w.heap.size, 0, _, rfl, Nat.le_refl _, hl, .inl (Nat.le_refl _), by simp, fun j hj => ?_, fun _ j _ => World.frozen?_alloc_new .., fun j _ _ => by omega⟩
  rw [World.cell?_alloc_new, Nat.zero_add, List.getElem?_toArray]
  exact c8_get l j hj

theorem World.tape_setCells (b : Nat) : ∀ (vs : List Value) (o : Nat) (w : World), (w.setCells b o vs).tape = w.tape ∧ (w.setCells b o vs).heap.size = w.heap.size
  | [], _, _ => ⟨rfl, rfl⟩
  | v :: r, o, w => by
    rw [World.setCells]
    obtain ⟨h1, h2⟩ := World.tape_setCells b r (o + 1) (w.setCell ⟨b, o, none⟩ v)
    exact ⟨h1, h2.trans (by simp [World.setCell])⟩
theorem heap_setCells (b : Nat) : ∀ (vs : List Value) (o : Nat) (w : World) (k : Nat), k ≠ b → (w.setCells b o vs).heap[k]? = w.heap[k]?
  | [], _, _, _, _ => rfl
  | v :: r, o, w, k, h => by
    rw [World.setCells, heap_setCells b r (o + 1) _ k h]
    exact Below.heap_setCell w ⟨b, o, none⟩ v k h
theorem below_setCells {w : World} {B b : Nat} (hb : B ≤ b) (o : Nat) (vs : List Value) : Below B w (w.setCells b o vs) :=
  ⟨World.os_setCells w b o vs, (World.tape_setCells b vs o w).1, World.output_setCells w b o vs, by rw [(World.tape_setCells b vs o w).2]; exact Nat.le_refl _, fun k hk => heap_setCells b vs o w k (by omega)⟩

/-- One byte of a row of the call's own turned. -/
theorem Room.put {w : World} {B : Nat} {v : Value} {l : List UInt8} (h : Room w B v l) (hg : ∀ g, v.ownBlock = some g → B ≤ g) (k : Nat) (hk : k < l.length) (c : UInt8) : ∃ g off cap, v = .slice (some ⟨g, off, none⟩) l.length cap ∧ cap ≤ maxLen ∧ l.length ≤ cap ∧ B ≤ g ∧
    (∃ u, w.cell? ⟨g, off + k, none⟩ = some u) ∧ w.frozen? ⟨g, off + k, none⟩ = false ∧ Room (w.setCell ⟨g, off + k, none⟩ (.int .u8 (c.toNat : Int))) B v (l.set k c) ∧ Below B w (w.setCell ⟨g, off + k, none⟩ (.int .u8 (c.toNat : Int))) := by
  rcases h with ⟨rfl, rfl⟩ | ⟨g, off, cap, rfl, h1, h2, h3, h4, h5, h7, h6⟩
  · cases hk
  · have hB := hg g rfl
    have hc := h5 k hk
    refine ⟨g, off, cap, rfl, h2, h1, hB, ⟨_, hc⟩, h7 hB k hk, .inr ⟨g, off, cap, by rw [List.length_set], by rw [List.length_set]; exact h1, h2, .inl hB, by simpa [World.setCell] using h4, fun j hj => ?_, fun _ j hj => ?_, fun j hj hc' => ?_⟩, (Below.refl B w).setCell hB _⟩
    · rw [List.length_set] at hj
      by_cases e : j = k
      · subst e
        rw [World.cell?_setCell_same _ _ _ hc, List.getElem_set_self]
      · rw [World.cell?_setCell_other _ _ _ _ (by intro h; injection h with _ h; omega), h5 j hj, List.getElem_set_ne (fun h => e h.symm)]
    · rw [List.length_set] at hj
      rw [World.frozen?_setCell]
      exact h7 hB j hj
    · rw [List.length_set] at hj
      rw [World.frozen?_setCell, World.cell?_setCell_other _ _ _ _ (by intro h; injection h with _ h; omega)]
      exact h6 j hj hc'

/-- append: bytes more, of whatever gives them. -/
theorem run_append8k {P : Program} {w : World} {B : Nat} {v x : Value} {l m : List UInt8} (t tx ty e : TypeId) (i : TypeInfo) (ht : P.underlying t = some (.slice e)) (hi : P.info? e = some i) (hz : i.zero = some (.int .u8 0)) (h1 : i.size = 1) (hy : i.bytes = 1)
    (hr : Room w B v l) (hB : B ≤ w.heap.size) (hs : Src P 1 tx x m.length (c8 m) w) (hl : l.length + m.length ≤ 1099511627776) :
    ∃ v' w', (Builtin.append_ #[t, tx] ty #[v, x]).run P w = .ok v' w' ∧ Room w' B v' (l ++ m) ∧ Below B w w' ∧ (∀ g, v'.ownBlock = some g → v.ownBlock = some g ∨ w.heap.size ≤ g) ∧ (∀ k, k < w.heap.size → v.ownBlock ≠ some k → w'.heap[k]? = w.heap[k]?) := by
  have hs' : Src P i.size tx x m.length (c8 m) w := by rw [h1]; exact hs
  rcases Nat.eq_zero_or_pos m.length with hm | hm
  · have hm' : m = [] := List.eq_nil_of_length_eq_zero hm
    subst hm'
    obtain ⟨A, c, rfl, hle, _⟩ := hr.seen
    exact ⟨_, _, run_append_nothing (P := P) w t tx ty e i ht hi A l.length c hle x hs', by rw [List.append_nil]; exact hr, Below.refl _ _, fun _ h => .inl h, fun _ _ _ => rfl⟩
  · -- a new row
    have grow : ∀ (bs : Option Addr) (sc : Nat), v = .slice bs l.length sc → sc < l.length + m.length → (Builtin.firstCells i.size l.length (.slice bs l.length sc)).run P w.drew = .ok (c8 l).toArray w.drew →
        ∃ v' w', (Builtin.append_ #[t, tx] ty #[v, x]).run P w = .ok v' w' ∧ Room w' B v' (l ++ m) ∧ Below B w w' ∧ (∀ g, v'.ownBlock = some g → v.ownBlock = some g ∨ w.heap.size ≤ g) ∧ (∀ k, k < w.heap.size → v.ownBlock ≠ some k → w'.heap[k]? = w.heap[k]?) := by
      rintro bs sc rfl hlt hold
      have hrun := run_append_grow_src (P := P) w t tx ty e i (.int .u8 0) ht hi hz bs l.length sc (c8 l) hold x m.length (c8 m) hs' hlt (by omega) (by rw [hy]; exact growslice_fits hlt (by omega))
      have hge := grownCap_ge w (l.length + m.length) sc e
      have hcm := grownCap_le_maxLen w (l.length + m.length) sc e (by unfold maxLen; omega)
      generalize grownCap w (l.length + m.length) sc e = C at hrun hge hcm
      have hZ : ((c8 l ++ c8 m).toArray ++ Builtin.zeroCells (Value.int .u8 0).cells (C - (l.length + m.length))).size = C := by
        have e1 : (Value.int IntKind.u8 0).cells.size = 1 := rfl
        rw [Array.size_append, List.size_toArray, List.length_append, c8_length, c8_length, size_zeroCells, e1]
        omega
      generalize hcs : ((c8 l ++ c8 m).toArray ++ Builtin.zeroCells (Value.int .u8 0).cells (C - (l.length + m.length))) = cs at hrun hZ
      refine ⟨_, _, hrun, .inr ⟨w.heap.size, 0, C, by rw [List.length_append], by rw [List.length_append]; exact hge, hcm, .inl hB, by show w.heap.size < (w.drew.alloc _).heap.size; simp, fun j hj => ?_, fun _ j _ => World.frozen?_alloc_new w.drew .., fun j _ hj => ?_⟩, (Below.refl B w).drew.alloc hB _, fun g hg => .inr (Nat.le_of_eq (by simpa [Value.ownBlock] using hg)), fun k hk _ => Below.heap_alloc w.drew _ k hk⟩
      · show (w.drew.alloc _).cell? ⟨w.drew.heap.size, 0 + j, none⟩ = _
        rw [World.cell?_alloc_new, Nat.zero_add, ← hcs, Array.getElem?_append_left (by rw [List.size_toArray, ← c8_append, c8_length]; exact hj), List.getElem?_toArray, ← c8_append]
        exact c8_get _ j hj
      · show ((w.drew.alloc _).cell? ⟨w.drew.heap.size, 0 + j, none⟩).isSome = true ∧ (w.drew.alloc _).frozen? ⟨w.drew.heap.size, 0 + j, none⟩ = false
        rw [World.cell?_alloc_new, World.frozen?_alloc_new, Nat.zero_add, Array.getElem?_eq_getElem (by omega)]
        exact ⟨rfl, rfl⟩
    rcases hr with ⟨rfl, rfl⟩ | ⟨g, off, cap, rfl, hle, hcm, hg, hgw, hrow, hfz, hsp⟩
    · exact grow none 0 rfl (by simpa using hm) (by simp [Builtin.firstCells, c8])
    · have hcell : ∀ j u, (c8 l)[j]? = some u → w.cell? ((⟨g, off, none⟩ : Addr).add j) = some u := by
        intro j u hu
        have hj : j < l.length := by rw [← c8_length]; exact (List.getElem?_eq_some_iff.1 hu).1
        rw [c8_get l j hj] at hu
        rw [Addr.add_lit, hrow j hj, hu]
      by_cases hfit : l.length + m.length ≤ cap
      · have hgB : B ≤ g := by
          rcases hg with h | h
          · exact h
          · omega
        have hfree : ∀ j, j < (c8 m).length → (w.cell? ⟨g, off + l.length + j, none⟩).isSome = true ∧ w.frozen? ⟨g, off + l.length + j, none⟩ = false := by
          intro j hj
          rw [c8_length] at hj
          rw [Nat.add_assoc]
          exact hsp (l.length + j) (by omega) (by omega)
        have hrun := run_append_room_src (P := P) w t tx ty e i ht hi g off l.length cap x m.length (c8 m) hs' hfit (by rw [h1, Nat.mul_one]; exact fun j hj => (hfree j hj).1) (by rw [h1, Nat.mul_one]; exact fun j hj => (hfree j hj).2)
        rw [h1, Nat.mul_one] at hrun
        refine ⟨_, _, hrun, .inr ⟨g, off, cap, by rw [List.length_append], by rw [List.length_append]; exact hfit, hcm, .inl hgB, by rw [(World.tape_setCells g _ _ w).2]; exact hgw, fun j hj => ?_, fun _ j hj => ?_, fun j hj hc => ?_⟩, below_setCells hgB _ _, fun _ h => .inl h, fun k _ hk => heap_setCells g _ _ w k (fun e => hk (by rw [e]; rfl))⟩
        · rw [List.length_append] at hj
          by_cases hjl : j < l.length
          · rw [World.cell?_setCells_out g _ _ _ _ (fun _ _ => .inl (by show off + j < _; omega)), hrow j hjl, List.getElem_append_left hjl]
          · have hin := World.cell?_setCells_in g (c8 m) (off + l.length) w (fun j hj => (hfree j hj).1) (j - l.length) (by rw [c8_length]; omega)
            rw [show off + l.length + (j - l.length) = off + j by omega] at hin
            rw [hin, List.getElem_append_right (by omega)]
            simp [c8]
        · rw [List.length_append] at hj
          rw [World.frozen?_setCells]
          by_cases hjl : j < l.length
          · exact hfz hgB j hjl
          · exact (hsp j (by omega) (by omega)).2
        · rw [List.length_append] at hj
          rw [World.cell?_setCells_out g _ _ _ _ (fun _ _ => .inr (by show off + l.length + (c8 m).length ≤ off + j; rw [c8_length]; omega)), World.frozen?_setCells]
          exact hsp j (by omega) hc
      · exact grow _ cap rfl (by omega) (run_firstCells_some (P := P) w.drew i.size l.length _ l.length cap (c8 l) (by rw [c8_length, h1, Nat.mul_one]) (by simpa using hcell))

theorem run_append8s {P : Program} {w : World} {B : Nat} {v x : Value} {l m : List UInt8} (t tx ty e : TypeId) (i : TypeInfo) (ht : P.underlying t = some (.slice e)) (hi : P.info? e = some i) (hz : i.zero = some (.int .u8 0)) (h1 : i.size = 1) (hy : i.bytes = 1)
    (hr : Room w B v l) (hB : B ≤ w.heap.size) (hs : Src P 1 tx x m.length (c8 m) w) (hl : l.length + m.length ≤ 1099511627776) :
    ∃ v' w', (Builtin.append_ #[t, tx] ty #[v, x]).run P w = .ok v' w' ∧ Room w' B v' (l ++ m) ∧ Below B w w' ∧ (∀ g, v'.ownBlock = some g → v.ownBlock = some g ∨ w.heap.size ≤ g) := by
  obtain ⟨v', w', h1', h2, h3, h4, _⟩ := run_append8k (P := P) t tx ty e i ht hi hz h1 hy hr hB hs hl
  exact ⟨v', w', h1', h2, h3, h4⟩

theorem run_append8 {P : Program} {w : World} {B : Nat} {v x : Value} {l m : List UInt8} (t tx ty e : TypeId) (i : TypeInfo) (ht : P.underlying t = some (.slice e)) (hi : P.info? e = some i) (hz : i.zero = some (.int .u8 0)) (h1 : i.size = 1) (hy : i.bytes = 1)
    (hr : Room w B v l) (hB : B ≤ w.heap.size) (hs : Src P 1 tx x m.length (c8 m) w) (hl : l.length + m.length ≤ 1099511627776) :
    ∃ v' w', (Builtin.append_ #[t, tx] ty #[v, x]).run P w = .ok v' w' ∧ Room w' B v' (l ++ m) ∧ Below B w w' := by
  obtain ⟨v', w', h1', h2, h3, _⟩ := run_append8s (P := P) t tx ty e i ht hi hz h1 hy hr hB hs hl
  exact ⟨v', w', h1', h2, h3⟩

theorem wpList_append8 {P : Program} {w : World} {B : Nat} {v xv : Value} {l m : List UInt8} {ops : Array Oper} {rest : List Oper} {o : Oper} {a : Act} {Q : Exit → Act → World → Prop} (hgd : o.guard = none) (s x : Operand) (t tx : TypeId)
    (ho : o.op = .call { callee := .builtin .append, args := #[s, x], argTypes := #[t, tx] })
    (e : TypeId) (i : TypeInfo) (ht : P.underlying t = some (.slice e)) (hi : P.info? e = some i) (hz : i.zero = some (.int .u8 0)) (h1 : i.size = 1) (hy : i.bytes = 1)
    (hr : Room w B v l) (hB : B ≤ w.heap.size) (hs : Src P 1 tx xv m.length (c8 m) w) (hl : l.length + m.length ≤ 1099511627776) (hv : a.eval s = v) (hx : a.eval x = xv)
    (h : ∀ v' w', Room w' B v' (l ++ m) → Below B w w' → wpList P ops Q rest (a.put o.dst v') w') : wpList P ops Q (o :: rest) a w := by
  refine wpList_plain hgd fun K hK => ?_
  obtain ⟨v', w', hrun, h2, h3⟩ := run_append8 (P := P) t tx o.type e i ht hi hz h1 hy hr hB hs hl
  unfold Oper.wp execOp
  simp only [ho, resolve, invoke, builtin, Sem.run_bind, Sem.run_pure, Result.andThen_ok, List.map_toArray, List.map_cons, List.map_nil, hv, hx, hrun]
  exact hK _ _ (h v' w' h2 h3)

theorem wpList_append8s {P : Program} {w : World} {B : Nat} {v xv : Value} {l m : List UInt8} {ops : Array Oper} {rest : List Oper} {o : Oper} {a : Act} {Q : Exit → Act → World → Prop} (hgd : o.guard = none) (s x : Operand) (t tx : TypeId)
    (ho : o.op = .call { callee := .builtin .append, args := #[s, x], argTypes := #[t, tx] })
    (e : TypeId) (i : TypeInfo) (ht : P.underlying t = some (.slice e)) (hi : P.info? e = some i) (hz : i.zero = some (.int .u8 0)) (h1 : i.size = 1) (hy : i.bytes = 1)
    (hr : Room w B v l) (hB : B ≤ w.heap.size) (hs : Src P 1 tx xv m.length (c8 m) w) (hl : l.length + m.length ≤ 1099511627776) (hv : a.eval s = v) (hx : a.eval x = xv)
    (h : ∀ v' w', Room w' B v' (l ++ m) → Below B w w' → (∀ g, v'.ownBlock = some g → v.ownBlock = some g ∨ w.heap.size ≤ g) → wpList P ops Q rest (a.put o.dst v') w') : wpList P ops Q (o :: rest) a w := by
  refine wpList_plain hgd fun K hK => ?_
  obtain ⟨v', w', hrun, h2, h3, h4⟩ := run_append8s (P := P) t tx o.type e i ht hi hz h1 hy hr hB hs hl
  unfold Oper.wp execOp
  simp only [ho, resolve, invoke, builtin, Sem.run_bind, Sem.run_pure, Result.andThen_ok, List.map_toArray, List.map_cons, List.map_nil, hv, hx, hrun]
  exact hK _ _ (h v' w' h2 h3 h4)

theorem wpList_append8k {P : Program} {w : World} {B : Nat} {v xv : Value} {l m : List UInt8} {ops : Array Oper} {rest : List Oper} {o : Oper} {a : Act} {Q : Exit → Act → World → Prop} (hgd : o.guard = none) (s x : Operand) (t tx : TypeId)
    (ho : o.op = .call { callee := .builtin .append, args := #[s, x], argTypes := #[t, tx] })
    (e : TypeId) (i : TypeInfo) (ht : P.underlying t = some (.slice e)) (hi : P.info? e = some i) (hz : i.zero = some (.int .u8 0)) (h1 : i.size = 1) (hy : i.bytes = 1)
    (hr : Room w B v l) (hB : B ≤ w.heap.size) (hs : Src P 1 tx xv m.length (c8 m) w) (hl : l.length + m.length ≤ 1099511627776) (hv : a.eval s = v) (hx : a.eval x = xv)
    (h : ∀ v' w', Room w' B v' (l ++ m) → Below B w w' → (∀ g, v'.ownBlock = some g → v.ownBlock = some g ∨ w.heap.size ≤ g) → (∀ k, k < w.heap.size → v.ownBlock ≠ some k → w'.heap[k]? = w.heap[k]?) → wpList P ops Q rest (a.put o.dst v') w') : wpList P ops Q (o :: rest) a w := by
  refine wpList_plain hgd fun K hK => ?_
  obtain ⟨v', w', hrun, h2, h3, h4, h5⟩ := run_append8k (P := P) t tx o.type e i ht hi hz h1 hy hr hB hs hl
  unfold Oper.wp execOp
  simp only [ho, resolve, invoke, builtin, Sem.run_bind, Sem.run_pure, Result.andThen_ok, List.map_toArray, List.map_cons, List.map_nil, hv, hx, hrun]
  exact hK _ _ (h v' w' h2 h3 h4 h5)

end Go.Proofs.Ythpbnjmhhkkkiaa
