/-
  Acts and disks, as the document has them, and where they lie in memory (no program).
-/
import Derived.Test.YtcdobelhchlheaaRws
import Derived.Test.YtcdobelhchlheaaSame
namespace Go.Proofs.Ytcdobelhchlheaa
open Go.RowKit

structure Actd where
  kind : UInt8
  area : Int
  b : List UInt8
  n : Int
  m : Int
def I64 (n : Int) : Prop := -9223372036854775808 ≤ n ∧ n ≤ 9223372036854775807
def Actd.right (a : Actd) : Prop := I64 a.area ∧ I64 a.n ∧ I64 a.m ∧ a.b.length ≤ 1000000
/-- its cells, its bytes' slice handed in -/
def Actd.cells (a : Actd) (vb : Value) : List Value := [.int .u8 (a.kind.toNat : Int), .int .i64 a.area, vb, .int .i64 a.n, .int .i64 a.m]
def Cells (w : World) (B : Nat) (l : List Actd) (css : List (List Value)) : Prop := css.length = l.length ∧ ∀ i (h : i < l.length) (h' : i < css.length), ∃ vb, css[i] = l[i].cells vb ∧ Seen w B vb l[i].b
theorem Cells.below {w w' : World} {B : Nat} {l : List Actd} {css : List (List Value)} (h : Cells w B l css) (hb : Below B w w') : Cells w' B l css :=
  ⟨h.1, fun i hi hi' => by obtain ⟨vb, e, hs⟩ := h.2 i hi hi'; exact ⟨vb, e, hs.below hb⟩⟩
theorem Cells.more {w : World} {B B' : Nat} {l : List Actd} {css : List (List Value)} (h : Cells w B l css) (hb : B ≤ B') : Cells w B' l css :=
  ⟨h.1, fun i hi hi' => by obtain ⟨vb, e, hs⟩ := h.2 i hi hi'; exact ⟨vb, e, hs.more hb⟩⟩
theorem Cells.len {w : World} {B : Nat} {l : List Actd} {css : List (List Value)} (h : Cells w B l css) : ∀ c ∈ css, c.length = 5 := by
  intro c hc
  obtain ⟨i, hi, rfl⟩ := List.getElem_of_mem hc
  obtain ⟨vb, e, _⟩ := h.2 i (by rw [← h.1]; exact hi) hi
  rw [e]; rfl
theorem Cells.flat {w : World} {B : Nat} {l : List Actd} {css : List (List Value)} (h : Cells w B l css) : css.flatten.length = l.length * 5 := by
  rw [(flat_at css h.len).1, h.1]
theorem Cells.append {w : World} {B : Nat} {l m : List Actd} {css dss : List (List Value)} (h : Cells w B l css) (h2 : Cells w B m dss) : Cells w B (l ++ m) (css ++ dss) := by
  refine ⟨by rw [List.length_append, List.length_append, h.1, h2.1], fun i hi hi' => ?_⟩
  by_cases hl : i < l.length
  · have hc : i < css.length := by rw [h.1]; exact hl
    rw [List.getElem_append_left hl, List.getElem_append_left hc]
    exact h.2 i hl hc
  · have hc : ¬ i < css.length := by rw [h.1]; exact hl
    rw [List.getElem_append_right (by omega), List.getElem_append_right (by omega)]
    simp only [h.1]
    rw [List.length_append] at hi hi'
    exact h2.2 (i - l.length) (by omega) (by have := h.1; omega)
theorem Cells.nil {w : World} {B : Nat} : Cells w B [] [] := ⟨rfl, fun _ h => by cases h⟩
theorem cell_one (a : Actd) (vb : Value) {w : World} {B : Nat} {l : List UInt8} (h : Seen w B vb l) : ∀ u ∈ a.cells vb, u.oneCell' = true := by
  obtain ⟨A, c, rfl, _⟩ := h
  intro u hu
  simp only [Actd.cells, List.mem_cons, List.not_mem_nil, or_false] at hu
  rcases hu with rfl | rfl | rfl | rfl | rfl <;> rfl
theorem Cells.ones {w : World} {B : Nat} {l : List Actd} {css : List (List Value)} (h : Cells w B l css) : ∀ u ∈ css.flatten, u.oneCell' = true := by
  intro u hu
  obtain ⟨c, hc, huc⟩ := List.mem_flatten.1 hu
  obtain ⟨i, hi, rfl⟩ := List.getElem_of_mem hc
  obtain ⟨vb, e, hs⟩ := h.2 i (by rw [← h.1]; exact hi) hi
  rw [e] at huc
  exact cell_one _ vb hs u huc
/-- acts in memory, below block B -/
def ActsAt (w : World) (B : Nat) (v : Value) (l : List Actd) : Prop := ∃ A c css, v = .slice A l.length c ∧ l.length ≤ c ∧ c ≤ maxLen ∧ Cells w B l css ∧ (l = [] ∨ ∃ b off, A = some ⟨b, off, none⟩ ∧ b < B ∧ b < w.heap.size ∧ RowV w b off css.flatten)
theorem ActsAt.below {w w' : World} {B : Nat} {v : Value} {l : List Actd} (h : ActsAt w B v l) (hb : Below B w w') : ActsAt w' B v l := by
  obtain ⟨A, c, css, e, h1, h2, h3, h4⟩ := h
  refine ⟨A, c, css, e, h1, h2, h3.below hb, h4.imp id ?_⟩
  rintro ⟨b, off, e, hB, hw, hr⟩
  exact ⟨b, off, e, hB, Nat.lt_of_lt_of_le hw hb.size, hr.congr (hb.block b hB)⟩
theorem ActsAt.more {w : World} {B B' : Nat} {v : Value} {l : List Actd} (h : ActsAt w B v l) (hb : B ≤ B') : ActsAt w B' v l := by
  obtain ⟨A, c, css, e, h1, h2, h3, h4⟩ := h
  refine ⟨A, c, css, e, h1, h2, h3.more hb, h4.imp id ?_⟩
  rintro ⟨b, off, e, hB, hw, hr⟩
  exact ⟨b, off, e, Nat.lt_of_lt_of_le hB hb, hw, hr⟩
theorem ActsAt.on {w w' : World} {v : Value} {l : List Actd} (h : ActsAt w w.heap.size v l) (hb : Below w.heap.size w w') : ActsAt w' w'.heap.size v l := (h.below hb).more hb.size
theorem ActsAt.nil {w : World} {B : Nat} : ActsAt w B (.slice none 0 0) [] := ⟨none, 0, [], rfl, Nat.le_refl _, Nat.zero_le _, Cells.nil, .inl rfl⟩
theorem ActsAt.src {P : Program} {w : World} {B : Nat} {v : Value} {l : List Actd} (h : ActsAt w B v l) {tx e : TypeId} (hk : P.underlying tx = some (.slice e)) : ∃ css, Cells w B l css ∧ Src P 5 tx v l.length css.flatten w := by
  obtain ⟨A, c, css, rfl, h1, h2, h3, h4⟩ := h
  refine ⟨css, h3, ?_⟩
  rcases h4 with rfl | ⟨b, off, rfl, _, _, hr⟩
  · obtain rfl : css = [] := List.eq_nil_of_length_eq_zero h3.1
    cases A with
    | none => exact Src.ofNil w hk c
    | some a => exact Src.ofSlice w hk a 0 c [] (by simp) (fun _ _ h => by simp at h) (fun _ h => by cases h)
  · refine Src.ofSlice w hk _ _ c css.flatten h3.flat (fun j u hu => ?_) h3.ones
    obtain ⟨hj, e⟩ := List.getElem?_eq_some_iff.1 hu
    rw [Addr.add_lit, hr j hj, e]
/-- one of them -/
theorem ActsAt.at_ {w : World} {B : Nat} {A : Option Addr} {c n : Nat} {l : List Actd} (h : ActsAt w B (.slice A n c) l) (i : Nat) (hi : i < l.length) : ∃ b off vb, A = some ⟨b, off, none⟩ ∧ b < w.heap.size ∧ b < B ∧ Seen w B vb l[i].b ∧
    w.cell? ⟨b, off + i * 5, none⟩ = some (.int .u8 (l[i].kind.toNat : Int)) ∧ w.cell? ⟨b, off + i * 5 + 1, none⟩ = some (.int .i64 l[i].area) ∧ w.cell? ⟨b, off + i * 5 + 2, none⟩ = some vb ∧ w.cell? ⟨b, off + i * 5 + 3, none⟩ = some (.int .i64 l[i].n) ∧ w.cell? ⟨b, off + i * 5 + 4, none⟩ = some (.int .i64 l[i].m) := by
  obtain ⟨A', c', css, e, h1, h2, h3, h4⟩ := h
  injection e with e1 _ _
  subst e1
  rcases h4 with rfl | ⟨b, off, rfl, hB, hw, hr⟩
  · cases hi
  have hc : i < css.length := by rw [h3.1]; exact hi
  obtain ⟨vb, e, hs⟩ := h3.2 i hi hc
  have hcell : ∀ j u, (l[i].cells vb)[j]? = some u → w.cell? ⟨b, off + i * 5 + j, none⟩ = some u := fun j u hu => by
    rw [← e] at hu
    obtain ⟨hj, e2⟩ := List.getElem?_eq_some_iff.1 hu
    obtain ⟨hq, e3⟩ := List.getElem?_eq_some_iff.1 ((flat_at css h3.len).2 i hc j hj)
    rw [Nat.add_assoc, hr _ hq, e3, e2]
  exact ⟨b, off, vb, rfl, hw, hB, hs, hcell 0 _ rfl, hcell 1 _ rfl, hcell 2 _ rfl, hcell 3 _ rfl, hcell 4 _ rfl⟩
/-- acts that are being gathered, in a row of the call's own -/
def RoomA (w : World) (B : Nat) (v : Value) (l : List Actd) : Prop := ∃ css, Cells w B l css ∧ RoomN w B v 5 l.length css.flatten
theorem RoomA.on {w w' : World} {B : Nat} {v : Value} {l : List Actd} (h : RoomA w B v l) (hB : B ≤ w.heap.size) (hb : Below w.heap.size w w') : RoomA w' B v l := by
  obtain ⟨css, h1, h2⟩ := h
  exact ⟨css, h1.below (hb.mono hB), h2.on hb⟩
theorem RoomA.acts {w : World} {B : Nat} {v : Value} {l : List Actd} (h : RoomA w B v l) (hB : B ≤ w.heap.size) : ActsAt w w.heap.size v l := by
  obtain ⟨css, h1, h2⟩ := h
  obtain ⟨A, c, rfl, h3, h4, h5⟩ := h2.slice
  refine ⟨A, c, css, rfl, h3, h4, h1.more hB, h5.imp List.eq_nil_of_length_eq_zero ?_⟩
  rintro ⟨b, off, e, _, hw, hr⟩
  exact ⟨b, off, e, hw, hw, hr⟩
theorem RoomA.put {w w' : World} {B : Nat} {v' : Value} {l m : List Actd} {css dss : List (List Value)} (h1 : Cells w B l css) (h2 : Cells w B m dss) (hr : RoomN w' B v' 5 (l.length + m.length) (css.flatten ++ dss.flatten)) (hb : Below B w w') : RoomA w' B v' (l ++ m) :=
  ⟨css ++ dss, (h1.append h2).below hb, by rw [List.length_append, List.flatten_append]; exact hr⟩

/-- a disk -/
structure Dskd where
  safe : List Actd
  loose : List Actd
  left : Int
  armed : Bool
  down : Bool
def Dskd.cells (d : Dskd) (sv lv : Value) : List Value := [sv, lv, .int .i64 d.left, .bool d.armed, .bool d.down]
def Dskd.lies (d : Dskd) (w : World) (B : Nat) (sv lv : Value) : Prop := ActsAt w B sv d.safe ∧ ActsAt w B lv d.loose
def stepA (area : Int) (x : List UInt8 × Int) (a : Actd) : List UInt8 × Int :=
  if a.kind.toNat = 2 then (x.1, a.area) else if a.area = area ∧ a.kind.toNat = 1 then ([], x.2) else if a.area = area then (x.1 ++ a.b, x.2) else x
/-- an area's bytes, and which one is in front -/
def bytesA (area : Int) (l : List Actd) : List UInt8 × Int := l.foldl (stepA area) ([], 0)
theorem bytesA_snoc (area : Int) (l : List Actd) (a : Actd) : bytesA area (l ++ [a]) = stepA area (bytesA area l) a := by
  unfold bytesA
  rw [List.foldl_append]
  rfl
theorem foldA_len (area : Int) : ∀ (l : List Actd) (x : List UInt8 × Int), (∀ a ∈ l, a.right) → (l.foldl (stepA area) x).1.length ≤ x.1.length + 1000000 * l.length
  | [], x, _ => by simp
  | a :: l, x, h => by
    have h2 := (h a (by simp)).2.2.2
    have h1 := foldA_len area l (stepA area x a) fun y hy => h y (by simp [hy])
    have h3 : (stepA area x a).1.length ≤ x.1.length + 1000000 := by
      unfold stepA
      split
      · simp only; omega
      · split
        · simp
        · split
          · simp only [List.length_append]; omega
          · omega
    rw [List.foldl_cons, List.length_cons]
    omega
theorem bytesA_len (area : Int) (l : List Actd) (h : ∀ a ∈ l, a.right) : (bytesA area l).1.length ≤ 1000000 * l.length := by
  have := foldA_len area l ([], 0) h
  simpa [bytesA] using this
/-- what comes of a crash -/
def crashA (keep torn : Int) : Nat → List Actd → List Actd
  | _, [] => []
  | i, a :: l => if keep ≤ (i : Int) then (if a.kind.toNat = 0 ∧ 0 < torn then [{ a with b := a.b.take torn.toNat }] else []) else a :: crashA keep torn (i + 1) l
def Dskd.crash (d : Dskd) (keep torn : Int) : Dskd := ⟨d.safe ++ crashA keep torn 0 d.loose, [], 0, false, false⟩
def Dskd.tick (d : Dskd) : Dskd := if d.armed = true then (if d.left - 1 = 0 then { d with left := d.left - 1, down := true } else { d with left := d.left - 1 }) else d
/-- what comes of an act; why not -/
def Dskd.act (d : Dskd) (a : Actd) : Dskd × Int :=
  let k := a.kind.toNat % 6
  if k = 4 then ((if d.down = true then d else { d with armed := decide (0 ≤ a.n), left := a.n, down := decide (a.n = 0) }), 0)
  else if k = 5 then (d.crash a.n a.m, 0)
  else if k < 3 ∧ a.area ≠ 0 ∧ a.area ≠ 1 then (d, 1)
  else if d.down = true then (d, 4)
  else if k = 3 then (Dskd.tick { d with safe := d.safe ++ d.loose, loose := [] }, 0)
  else (Dskd.tick { d with loose := d.loose ++ [{ a with kind := UInt8.ofNat k }] }, 0)
def fewA (l : List Actd) : Bool := decide (l.length ≤ 40) && l.all fun a => decide (a.b.length ≤ 200)

end Go.Proofs.Ytcdobelhchlheaa
