/-
  The program's disk: what it holds, and where it lies in memory (no program).
-/
import Derived.Test.YtoggdpkpfdilnaaBx
namespace Go.Proofs.Ytoggdpkpfdilnaa
open Go.RowKit

/-- what stands on a disk -/
structure Cont where
  a0 : List UInt8
  a1 : List UInt8
  front : Int
/-- a change -/
structure Chg where
  does : Nat
  area : Nat
  text : ByteArray
def Chg.ok (c : Chg) : Prop := c.does < 3 ∧ c.area < 2
def Chg.bytes (c : Chg) : List UInt8 := c.text.data.toList
def Chg.w (c : Chg) : Nat := c.bytes.length + 1
def Chg.cells (c : Chg) : List Value := [.int .i64 (c.does : Int), .int .i64 (c.area : Int), .string c.text]
def Cont.mass (x : Cont) : Nat := x.a0.length + x.a1.length
def Cont.does (x : Cont) (c : Chg) : Cont :=
  if c.does = 0 then (if c.area = 0 then { x with a0 := x.a0 ++ c.bytes } else { x with a1 := x.a1 ++ c.bytes })
  else if c.does = 1 then (if c.area = 0 then { x with a0 := [] } else { x with a1 := [] })
  else { x with front := c.area }
theorem Cont.does_mass (x : Cont) (c : Chg) : (x.does c).mass ≤ x.mass + c.bytes.length := by
  unfold Cont.does
  split
  · split <;> (simp only [Cont.mass, List.length_append]; omega)
  · split
    · split <;> (simp only [Cont.mass, List.length_nil]; omega)
    · simp only [Cont.mass]; omega
def Cont.all (x : Cont) (l : List Chg) : Cont := l.foldl Cont.does x
theorem Cont.all_snoc (x : Cont) (l : List Chg) (c : Chg) : x.all (l ++ [c]) = (x.all l).does c := by
  unfold Cont.all
  rw [List.foldl_append]
  rfl
def massL (l : List Chg) : Nat := (l.map Chg.w).sum
theorem massL_snoc (l : List Chg) (c : Chg) : massL (l ++ [c]) = massL l + c.w := by simp [massL]
theorem massL_cons (l : List Chg) (c : Chg) : massL (c :: l) = c.w + massL l := by simp [massL]
theorem massL_len : ∀ l : List Chg, l.length ≤ massL l
  | [] => Nat.zero_le _
  | c :: l => by
    have := massL_len l
    rw [massL_cons, List.length_cons]
    unfold Chg.w
    omega
theorem massL_take : ∀ (l : List Chg) (k : Nat), massL (l.take k) ≤ massL l
  | [], k => by simp
  | c :: l, 0 => by simp [massL]
  | c :: l, k + 1 => by
    rw [List.take_succ_cons, massL_cons, massL_cons]
    have := massL_take l k
    omega
theorem Cont.all_mass : ∀ (l : List Chg) (x : Cont), (x.all l).mass ≤ x.mass + massL l
  | [], x => Nat.le_refl _
  | c :: l, x => by
    have h1 := Cont.does_mass x c
    have h2 := Cont.all_mass l (x.does c)
    rw [massL_cons]
    unfold Chg.w
    show ((x.does c).all l).mass ≤ _
    omega
structure Dsk where
  last : Cont
  now : Cont
  loose : List Chg
  armed : Bool
  left : Int
def Dsk.right (s : Dsk) : Prop := s.now = s.last.all s.loose
def Dsk.mass (s : Dsk) : Nat := s.last.mass + massL s.loose
def Dsk.down (s : Dsk) : Bool := s.armed && decide (s.left = 0)
theorem Dsk.now_mass {s : Dsk} (h : s.right) : s.now.mass ≤ s.mass := by rw [h]; exact Cont.all_mass s.loose s.last

/-- bytes in a row of the disk's own -/
def RoomO (w : World) (B : Nat) (v : Value) (l : List UInt8) : Prop := Room w B v l ∧ ∀ g, v.ownBlock = some g → B ≤ g ∧ g < w.heap.size
theorem Room.kept {w w' : World} {B : Nat} {v : Value} {l : List UInt8} (h : Room w B v l) (hk : ∀ g, v.ownBlock = some g → w'.heap[g]? = w.heap[g]?) (hs : w.heap.size ≤ w'.heap.size) : Room w' B v l := by
  rcases h with h | ⟨g, off, cap, rfl, h1, h2, h3, h4, h5, h7, h6⟩
  · exact .inl h
  · have e := hk g rfl
    refine .inr ⟨g, off, cap, rfl, h1, h2, h3, Nat.lt_of_lt_of_le h4 hs, h5.congr e, fun a j b => (World.frozen?_of_block (a := ⟨g, off + j, none⟩) e).trans (h7 a j b), fun j a b => ?_⟩
    rw [World.cell?_of_block (a := ⟨g, off + j, none⟩) e, World.frozen?_of_block (a := ⟨g, off + j, none⟩) e]
    exact h6 j a b
theorem RoomO.kept {w w' : World} {B : Nat} {v : Value} {l : List UInt8} (h : RoomO w B v l) (hk : ∀ g, v.ownBlock = some g → w'.heap[g]? = w.heap[g]?) (hs : w.heap.size ≤ w'.heap.size) : RoomO w' B v l :=
  ⟨h.1.kept hk hs, fun g hg => ⟨(h.2 g hg).1, Nat.lt_of_lt_of_le (h.2 g hg).2 hs⟩⟩
theorem RoomO.on {w w' : World} {B : Nat} {v : Value} {l : List UInt8} (h : RoomO w B v l) (hb : Below w.heap.size w w') : RoomO w' B v l :=
  h.kept (fun g hg => hb.block g (h.2 g hg).2) hb.size
theorem RoomO.nil {w : World} {B : Nat} : RoomO w B (.slice none 0 0) [] := ⟨Room.nil, fun _ h => by cases h⟩
theorem RoomO.slice {w : World} {B : Nat} {v : Value} {l : List UInt8} (h : RoomO w B v l) : ∃ A c, v = .slice A l.length c ∧ l.length ≤ c ∧ c ≤ maxLen := by
  obtain ⟨A, c, e, h1, h2, _⟩ := h.1.cut
  exact ⟨A, c, e, h1, h2⟩

/-- no two of these blocks are the same -/
def Apart (l : List (Option Nat)) : Prop := ∀ i j k : Nat, i ≠ j → l[i]? = some (some k) → l[j]? ≠ some (some k)
theorem Apart.get {l : List (Option Nat)} (h : Apart l) (i j : Nat) (hij : i ≠ j) {a b : Option Nat} (ha : l[i]? = some a) (hb : l[j]? = some b) (k : Nat) (e : a = some k) : b ≠ some k := by
  subst e
  intro e
  subst e
  exact h i j k hij ha hb
theorem Apart.fresh (g : Nat) : Apart [some g, none, none, none, none, none] := by
  have h0 : ∀ n k : Nat, ([some g, none, none, none, none, none] : List (Option Nat))[n]? = some (some k) → n = 0 := by
    intro n k h
    rcases n with _ | _ | _ | _ | _ | _ | n <;> simp at h ⊢
  intro i j k hij hi hj
  exact hij ((h0 i k hi).trans (h0 j k hj).symm)
/-- one of them turned into what it was, or into a new one -/
theorem Apart.set {l : List (Option Nat)} (h : Apart l) (N i : Nat) (x : Option Nat) (hx : ∀ k, x = some k → l[i]? = some (some k) ∨ N ≤ k) (hl : ∀ k, some k ∈ l → k < N) : Apart (l.set i x) := by
  have hm : ∀ j k, l[j]? = some (some k) → k < N := fun j k e => hl k (List.mem_of_getElem? e)
  have hg : ∀ a k, (l.set i x)[a]? = some (some k) → (a = i ∧ x = some k) ∨ (a ≠ i ∧ l[a]? = some (some k)) := by
    intro a k e
    rw [List.getElem?_set] at e
    split at e
    · rename_i hia
      split at e
      · exact .inl ⟨hia.symm, Option.some.inj e⟩
      · cases e
    · rename_i hia
      exact .inr ⟨fun q => hia q.symm, e⟩
  intro a b k hab e1 e2
  rcases hg a k e1 with ⟨ra, xa⟩ | ⟨na, la⟩ <;> rcases hg b k e2 with ⟨rb, xb⟩ | ⟨nb, lb⟩
  · exact hab (ra.trans rb.symm)
  · rcases hx k xa with hq | hq
    · exact h i b k (fun q => nb q.symm) hq lb
    · have := hm b k lb
      omega
  · rcases hx k xb with hq | hq
    · exact h i a k (fun q => na q.symm) hq la
    · have := hm a k la
      omega
  · exact h a b k hab la lb
/-- two of them -/
theorem Apart.set2 {l : List (Option Nat)} (h : Apart l) (N i j : Nat) (x y : Option Nat) (hij : i ≠ j) (hx : ∀ k, x = some k → l[i]? = some (some k) ∨ N ≤ k) (hy : ∀ k, y = some k → l[j]? = some (some k) ∨ N ≤ k) (hxy : ∀ k, x = some k → y ≠ some k) (hl : ∀ k, some k ∈ l → k < N) : Apart ((l.set i x).set j y) := by
  have hm : ∀ j k, l[j]? = some (some k) → k < N := fun j k e => hl k (List.mem_of_getElem? e)
  have hg : ∀ a k, ((l.set i x).set j y)[a]? = some (some k) → (a = j ∧ y = some k) ∨ (a = i ∧ x = some k) ∨ (a ≠ i ∧ a ≠ j ∧ l[a]? = some (some k)) := by
    intro a k e
    rw [List.getElem?_set] at e
    split at e
    · rename_i hja
      split at e
      · exact .inl ⟨hja.symm, Option.some.inj e⟩
      · cases e
    · rename_i hja
      rw [List.getElem?_set] at e
      split at e
      · rename_i hia
        split at e
        · exact .inr (.inl ⟨hia.symm, Option.some.inj e⟩)
        · cases e
      · rename_i hia
        exact .inr (.inr ⟨fun q => hia q.symm, fun q => hja q.symm, e⟩)
  intro a b k hab e1 e2
  have hold : ∀ c, c ≠ i → c ≠ j → l[c]? = some (some k) → ∀ n z, (n = i ∨ n = j) → (l[n]? = some (some k) ∨ N ≤ k) → z = some k → False := by
    intro c n1 n2 lc n z hn hz _
    rcases hz with hq | hq
    · refine h c n k (fun q => ?_) lc hq
      rcases hn with rfl | rfl
      · exact n1 q
      · exact n2 q
    · have := hm c k lc
      omega
  rcases hg a k e1 with ⟨ra, xa⟩ | ⟨ra, xa⟩ | ⟨na, ma, la⟩ <;> rcases hg b k e2 with ⟨rb, xb⟩ | ⟨rb, xb⟩ | ⟨nb, mb, lb⟩
  · exact hab (ra.trans rb.symm)
  · exact hxy k xb xa
  · exact hold b nb mb lb j y (.inr rfl) (hy k xa) xa
  · exact hxy k xa xb
  · exact hab (ra.trans rb.symm)
  · exact hold b nb mb lb i x (.inl rfl) (hx k xa) xa
  · exact hold a na ma la j y (.inr rfl) (hy k xb) xb
  · exact hold a na ma la i x (.inl rfl) (hx k xb) xb
  · exact h a b k hab la lb

def chgCells (l : List Chg) : List Value := (l.map Chg.cells).flatten
theorem chgCells_snoc (l : List Chg) (c : Chg) : chgCells (l ++ [c]) = chgCells l ++ c.cells := by simp [chgCells]
theorem chgCells_len (l : List Chg) : (chgCells l).length = l.length * 3 := by
  have := (flat_at (n := 3) (l.map Chg.cells) (fun c hc => by obtain ⟨d, _, rfl⟩ := List.mem_map.1 hc; rfl)).1
  rw [List.length_map] at this
  exact this
theorem chgCells_at (l : List Chg) (i : Nat) (h : i < l.length) (j : Nat) (u : Value) (hu : (l[i].cells)[j]? = some u) : (chgCells l)[i * 3 + j]? = some u := by
  have hp := (flat_at (n := 3) (l.map Chg.cells) (fun c hc => by obtain ⟨d, _, rfl⟩ := List.mem_map.1 hc; rfl)).2 i (by rw [List.length_map]; exact h) j
  obtain ⟨hj, e⟩ := List.getElem?_eq_some_iff.1 hu
  have := hp (by rw [List.getElem_map]; exact hj)
  rw [← e]
  simpa [chgCells] using this
theorem chgCells_one (l : List Chg) : ∀ u ∈ chgCells l, u.oneCell' = true := by
  intro u hu
  obtain ⟨c, hc, huc⟩ := List.mem_flatten.1 hu
  obtain ⟨d, _, rfl⟩ := List.mem_map.1 hc
  simp only [Chg.cells, List.mem_cons, List.not_mem_nil, or_false] at huc
  rcases huc with rfl | rfl | rfl <;> rfl

def owns (g : Nat) (p0 p1 q0 q1 lv : Value) : List (Option Nat) := [some g, p0.ownBlock, p1.ownBlock, q0.ownBlock, q1.ownBlock, lv.ownBlock]
/-- a disk lies at block g, in blocks from B on -/
structure DiskAt (w : World) (B g : Nat) (s : Dsk) (p0 p1 q0 q1 lv : Value) : Prop where
  box : BoxF g [p0, p1, .int .i64 s.last.front, q0, q1, .int .i64 s.now.front, lv, .bool s.armed, .int .i64 s.left] w
  base : B ≤ g
  r0 : RoomO w B p0 s.last.a0
  r1 : RoomO w B p1 s.last.a1
  n0 : RoomO w B q0 s.now.a0
  n1 : RoomO w B q1 s.now.a1
  lo : RoomN w B lv 3 s.loose.length (chgCells s.loose)
  ok : ∀ c ∈ s.loose, c.ok
  lf : 0 ≤ s.left ∧ s.left ≤ 9223372036854775807
  apart : Apart (owns g p0 p1 q0 q1 lv)
theorem DiskAt.own {w : World} {B g : Nat} {s : Dsk} {p0 p1 q0 q1 lv : Value} (h : DiskAt w B g s p0 p1 q0 q1 lv) : ∀ k, some k ∈ owns g p0 p1 q0 q1 lv → B ≤ k ∧ k < w.heap.size := by
  intro k hk
  simp only [owns, List.mem_cons, List.not_mem_nil, or_false] at hk
  rcases hk with e | e | e | e | e | e
  · injection e with e
    subst e
    exact ⟨h.base, h.box.1⟩
  · exact h.r0.2 k e.symm
  · exact h.r1.2 k e.symm
  · exact h.n0.2 k e.symm
  · exact h.n1.2 k e.symm
  · exact ⟨h.lo.own_ge k e.symm, h.lo.own_lt k e.symm⟩
theorem DiskAt.kept {w w' : World} {B g : Nat} {s : Dsk} {p0 p1 q0 q1 lv : Value} (h : DiskAt w B g s p0 p1 q0 q1 lv) (hk : ∀ k, some k ∈ owns g p0 p1 q0 q1 lv → w'.heap[k]? = w.heap[k]?) (hs : w.heap.size ≤ w'.heap.size) : DiskAt w' B g s p0 p1 q0 q1 lv where
  box := h.box.kept (hk g (by simp [owns])) hs
  base := h.base
  r0 := h.r0.kept (fun k e => hk k (by simp [owns, e])) hs
  r1 := h.r1.kept (fun k e => hk k (by simp [owns, e])) hs
  n0 := h.n0.kept (fun k e => hk k (by simp [owns, e])) hs
  n1 := h.n1.kept (fun k e => hk k (by simp [owns, e])) hs
  lo := h.lo.kept (fun k e => hk k (by simp [owns, e])) hs
  ok := h.ok
  lf := h.lf
  apart := h.apart
theorem DiskAt.on {w w' : World} {B g : Nat} {s : Dsk} {p0 p1 q0 q1 lv : Value} (h : DiskAt w B g s p0 p1 q0 q1 lv) (hb : Below w.heap.size w w') : DiskAt w' B g s p0 p1 q0 q1 lv :=
  h.kept (fun k hk => hb.block k (h.own k hk).2) hb.size

/-- a disk, in blocks of F alone -/
def Disk (w : World) (B g : Nat) (s : Dsk) (F : Nat → Prop) : Prop := ∃ p0 p1 q0 q1 lv, DiskAt w B g s p0 p1 q0 q1 lv ∧ (∀ k, some k ∈ owns g p0 p1 q0 q1 lv → F k) ∧ (∀ k, F k → B ≤ k ∧ k < w.heap.size) ∧ s.right
theorem Disk.kept {w w' : World} {B g : Nat} {s : Dsk} {F : Nat → Prop} (h : Disk w B g s F) (hk : ∀ k, F k → w'.heap[k]? = w.heap[k]?) (hs : w.heap.size ≤ w'.heap.size) : Disk w' B g s F := by
  obtain ⟨p0, p1, q0, q1, lv, h1, h2, h3, h4⟩ := h
  exact ⟨p0, p1, q0, q1, lv, h1.kept (fun k hk' => hk k (h2 k hk')) hs, h2, fun k hk' => ⟨(h3 k hk').1, Nat.lt_of_lt_of_le (h3 k hk').2 hs⟩, h4⟩
theorem Disk.on {w w' : World} {B g : Nat} {s : Dsk} {F : Nat → Prop} (h : Disk w B g s F) (hb : Below w.heap.size w w') : Disk w' B g s F :=
  h.kept (fun k hk => by obtain ⟨_, _, _, _, _, _, _, h3, _⟩ := h; exact hb.block k (h3 k hk).2) hb.size
/-- what comes of a change: this disk; all that isn't the disk's own is kept -/
def Turned (B g : Nat) (s : Dsk) (F : Nat → Prop) (w w' : World) : Prop := ∃ F' : Nat → Prop, Disk w' B g s F' ∧ (∀ k, F' k → F k ∨ w.heap.size ≤ k) ∧ Below B w w' ∧ ∀ k, k < w.heap.size → ¬ F k → w'.heap[k]? = w.heap[k]?
theorem Turned.trans {B g : Nat} {s s' : Dsk} {F : Nat → Prop} {w w1 w' : World} (h1 : ∃ F1 : Nat → Prop, Disk w1 B g s F1 ∧ (∀ k, F1 k → F k ∨ w.heap.size ≤ k) ∧ Below B w w1 ∧ (∀ k, k < w.heap.size → ¬ F k → w1.heap[k]? = w.heap[k]?) ∧ Turned B g s' F1 w1 w') : Turned B g s' F w w' := by
  obtain ⟨F1, _, a2, a3, a4, F2, b1, b2, b3, b4⟩ := h1
  have hs := a3.size
  refine ⟨F2, b1, fun k hk => ?_, a3.trans b3, fun k hk hn => (b4 k (by omega) (fun h => (a2 k h).elim hn (by omega))).trans (a4 k hk hn)⟩
  rcases b2 k hk with h | h
  · exact a2 k h
  · exact .inr (by omega)

end Go.Proofs.Ytoggdpkpfdilnaa
