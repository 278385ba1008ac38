/-
  Acts, as the document has them, and where they lie in memory; its own Few.
-/
import Derived.Test.YtoggdpkpfdilnaaLj
namespace Go.Proofs.Ytoggdpkpfdilnaa
open Go.RowKit
attribute [local go_sem ↓] Go.wp_at_zero Go.wp_at_succ

theorem Has.turns {s : Dsk} {a l : List UInt8} {n : Nat} (h : Has s a n) : ∃ s', s.chg 0 s.now.front l = (s', 0) ∧ Has s' (a ++ l) (n + l.length + 1) := by
  have := chg_calm h.calm 0 h.side l
  exact ⟨_, this, h.add this⟩
structure Actd where
  kind : UInt8
  b : List UInt8
  keep : Int
  torn : Int
/-- its cells, its bytes' slice handed in -/
def Actd.cells (a : Actd) (vb : Value) : List Value := [.int .u8 (a.kind.toNat : Int), vb, .int .i64 a.keep, .int .i64 a.torn]
def Cells (w : World) (B : Nat) (l : List Actd) (css : List (List Value)) : Prop := css.length = l.length ∧ ∀ i (h : i < l.length) (h' : i < css.length), ∃ vb, css[i] = l[i].cells vb ∧ Seen w B vb l[i].b
theorem Cells.below {w w' : World} {B : Nat} {l : List Actd} {css : List (List Value)} (h : Cells w B l css) (hb : Below B w w') : Cells w' B l css :=
  ⟨h.1, fun i hi hi' => by obtain ⟨vb, e, hs⟩ := h.2 i hi hi'; exact ⟨vb, e, hs.below hb⟩⟩
theorem Cells.more {w : World} {B B' : Nat} {l : List Actd} {css : List (List Value)} (h : Cells w B l css) (hb : B ≤ B') : Cells w B' l css :=
  ⟨h.1, fun i hi hi' => by obtain ⟨vb, e, hs⟩ := h.2 i hi hi'; exact ⟨vb, e, hs.more hb⟩⟩
theorem Cells.len {w : World} {B : Nat} {l : List Actd} {css : List (List Value)} (h : Cells w B l css) : ∀ c ∈ css, c.length = 4 := by
  intro c hc
  obtain ⟨i, hi, rfl⟩ := List.getElem_of_mem hc
  obtain ⟨vb, e, _⟩ := h.2 i (by rw [← h.1]; exact hi) hi
  rw [e]; rfl
theorem Cells.flat {w : World} {B : Nat} {l : List Actd} {css : List (List Value)} (h : Cells w B l css) : css.flatten.length = l.length * 4 := by
  rw [(flat_at css h.len).1, h.1]
theorem cell_one (a : Actd) (vb : Value) {w : World} {B : Nat} {l : List UInt8} (h : Seen w B vb l) : ∀ u ∈ a.cells vb, u.oneCell' = true := by
  obtain ⟨A, c, rfl, _⟩ := h
  intro u hu
  simp only [Actd.cells, List.mem_cons, List.not_mem_nil, or_false] at hu
  rcases hu with rfl | rfl | rfl | rfl <;> rfl
theorem Cells.ones {w : World} {B : Nat} {l : List Actd} {css : List (List Value)} (h : Cells w B l css) : ∀ u ∈ css.flatten, u.oneCell' = true := by
  intro u hu
  obtain ⟨c, hc, huc⟩ := List.mem_flatten.1 hu
  obtain ⟨i, hi, rfl⟩ := List.getElem_of_mem hc
  obtain ⟨vb, e, hs⟩ := h.2 i (by rw [← h.1]; exact hi) hi
  rw [e] at huc
  exact cell_one _ vb hs u huc
theorem Cells.nil {w : World} {B : Nat} : Cells w B [] [] := ⟨rfl, fun _ h => by cases h⟩
/-- acts in memory, below block B -/
def ActsAt (w : World) (B : Nat) (v : Value) (l : List Actd) : Prop := ∃ A c css, v = .slice A l.length c ∧ l.length ≤ c ∧ c ≤ maxLen ∧ Cells w B l css ∧ (l = [] ∨ ∃ b off, A = some ⟨b, off, none⟩ ∧ b < B ∧ b < w.heap.size ∧ RowV w b off css.flatten)
theorem ActsAt.below {w w' : World} {B : Nat} {v : Value} {l : List Actd} (h : ActsAt w B v l) (hb : Below B w w') : ActsAt w' B v l := by
  obtain ⟨A, c, css, e, h1, h2, h3, h4⟩ := h
  refine ⟨A, c, css, e, h1, h2, h3.below hb, h4.imp id ?_⟩
  rintro ⟨b, off, e, hB, hw, hr⟩
  exact ⟨b, off, e, hB, Nat.lt_of_lt_of_le hw hb.size, hr.congr (hb.block b hB)⟩
theorem ActsAt.more {w : World} {B B' : Nat} {v : Value} {l : List Actd} (h : ActsAt w B v l) (hb : B ≤ B') : ActsAt w B' v l := by
  obtain ⟨A, c, css, e, h1, h2, h3, h4⟩ := h
  refine ⟨A, c, css, e, h1, h2, h3.more hb, h4.imp id ?_⟩
  rintro ⟨b, off, e, hB, hw, hr⟩
  exact ⟨b, off, e, Nat.lt_of_lt_of_le hB hb, hw, hr⟩
theorem ActsAt.on {w w' : World} {v : Value} {l : List Actd} (h : ActsAt w w.heap.size v l) (hb : Below w.heap.size w w') : ActsAt w' w'.heap.size v l := (h.below hb).more hb.size
theorem ActsAt.nil {w : World} {B : Nat} : ActsAt w B (.slice none 0 0) [] := ⟨none, 0, [], rfl, Nat.le_refl _, Nat.zero_le _, Cells.nil, .inl rfl⟩
/-- one of them -/
theorem ActsAt.at_ {w : World} {B : Nat} {A : Option Addr} {c n : Nat} {l : List Actd} (h : ActsAt w B (.slice A n c) l) (i : Nat) (hi : i < l.length) : ∃ b off vb, A = some ⟨b, off, none⟩ ∧ b < w.heap.size ∧ b < B ∧ Seen w B vb l[i].b ∧
    w.cell? ⟨b, off + i * 4, none⟩ = some (.int .u8 (l[i].kind.toNat : Int)) ∧ w.cell? ⟨b, off + i * 4 + 1, none⟩ = some vb ∧ w.cell? ⟨b, off + i * 4 + 2, none⟩ = some (.int .i64 l[i].keep) ∧ w.cell? ⟨b, off + i * 4 + 3, none⟩ = some (.int .i64 l[i].torn) := by
  obtain ⟨A', c', css, e, h1, h2, h3, h4⟩ := h
  injection e with e1 _ _
  subst e1
  rcases h4 with rfl | ⟨b, off, rfl, hB, hw, hr⟩
  · cases hi
  have hc : i < css.length := by rw [h3.1]; exact hi
  obtain ⟨vb, e, hs⟩ := h3.2 i hi hc
  have hcell : ∀ j u, (l[i].cells vb)[j]? = some u → w.cell? ⟨b, off + i * 4 + j, none⟩ = some u := fun j u hu => by
    rw [← e] at hu
    obtain ⟨hj, e2⟩ := List.getElem?_eq_some_iff.1 hu
    obtain ⟨hq, e3⟩ := List.getElem?_eq_some_iff.1 ((flat_at css h3.len).2 i hc j hj)
    rw [Nat.add_assoc, hr _ hq, e3, e2]
  exact ⟨b, off, vb, rfl, hw, hB, hs, hcell 0 _ rfl, hcell 1 _ rfl, hcell 2 _ rfl, hcell 3 _ rfl⟩
/-- few acts, of few bytes -/
def fewA (l : List Actd) : Bool := decide (l.length ≤ 25) && l.all fun a => decide (a.b.length ≤ 200)
theorem fewA_small {l : List Actd} (h : fewA l = true) : l.length ≤ 25 ∧ ∀ a ∈ l, a.b.length ≤ 200 := by
  unfold fewA at h
  rw [Bool.and_eq_true] at h
  exact ⟨of_decide_eq_true h.1, fun a ha => by simpa using List.all_eq_true.1 h.2 a ha⟩
set_option maxRecDepth 100000 in
set_option maxHeartbeats 1000000 in
theorem fewacts_any (w : World) (B : Nat) (v : Value) (l : List Actd) (h : ActsAt w B v l) (hB : B ≤ w.heap.size) :
    Calls Try.prog 7 #[v] w fun e w' => e = .returned (.bool (fewA l)) ∧ Below w.heap.size w w' := by
  have HA := Lib.hid h
  have HB0 := Lib.hid hB
  clear hB
  obtain ⟨A, c, css, rfl, hlc, hcm, _⟩ := h
  by_cases h25 : l.length ≤ 25
  · have h25' : (l.length : Int) ≤ 25 := by omega
    have HF : Hid (fewA l = l.all fun a => decide (a.b.length ≤ 200)) := by show fewA l = _; unfold fewA; rw [decide_eq_true h25, Bool.true_and]
    go_enter Try.func7, Try.ntmps7
    go_wp2
    go_loopw [3] (fun j wr => ∃ k : Nat, k ≤ l.length ∧ j = .int .i64 (k : Int) ∧ (l.take k).all (fun a => decide (a.b.length ≤ 200)) = true ∧ Below w.heap.size w wr) (fun j _ => l.length - (intOf j).toNat)
    case atStart => exact ⟨0, Nat.zero_le _, rfl, rfl, Below.refl _ _⟩
    case round =>
      obtain ⟨k, hk, rfl, hall, hbw0⟩ := hrel
      by_cases hlt : k < l.length
      · obtain ⟨b, off, vb, rfl, hbw, hbB, hsb, c0, c1, c2, c3⟩ := (HA.out.below (hbw0.mono HB0.out)).at_ k hlt
        obtain ⟨Ab, cb, rfl, hAb⟩ := hsb
        have hcb : l[k].b.length ≤ cb := hAb.1
        have i0 : (0 : Int) ≤ (k : Int) := by omega
        have i1 : (k : Int) < (l.length : Int) := by omega
        have HT : Hid ((l.take (k + 1)).all (fun a => decide (a.b.length ≤ 200)) = decide (l[k].b.length ≤ 200)) := by
          show _ = _
          rw [List.take_succ_eq_append_getElem hlt, List.all_append, hall, Bool.true_and]
          simp
        obtain ⟨n, hn⟩ : ∃ n, n = l[k].b.length := ⟨_, rfl⟩
        rw [← hn] at HT c1 hcb
        by_cases h2 : n ≤ 200
        · have h2' : (n : Int) ≤ 200 := by omega
          have HL := Lib.hid hall
          clear hall hAb hn c0 c2 c3
          go_wp2
          go_roundw
          case rel => exact ⟨k + 1, by omega, by go_num, by rw [HT.out, decide_eq_true h2], hbw0⟩
          case measure => simp [intOf]; omega
        · have h2' : (200 : Int) < (n : Int) := by omega
          have HN : Hid (l.all (fun a => decide (a.b.length ≤ 200)) = false) := by
            show _ = _
            have : (l.take (k + 1) ++ l.drop (k + 1)).all (fun a => decide (a.b.length ≤ 200)) = false := by
              rw [List.all_append, HT.out, decide_eq_false h2, Bool.false_and]
            rw [List.take_append_drop] at this
            exact this
          clear hall hAb hn c0 c2 c3
          go_wp2
          go_ret
          exact ⟨ret_bool (show false = fewA l by rw [HF.out, HN.out]), hbw0⟩
      · have hkl : l.take k = l := List.take_of_length_le (by omega)
        rw [hkl] at hall
        have HL := Lib.hid hall
        clear hall
        go_wp2
        go_ret
        exact ⟨ret_bool (show true = fewA l by rw [HF.out, HL.out]), hbw0⟩
  · have h25' : (25 : Int) < (l.length : Int) := by omega
    have HF : Hid (fewA l = false) := by show fewA l = _; unfold fewA; rw [decide_eq_false h25, Bool.false_and]
    go_enter Try.func7, Try.ntmps7
    go_wp2
    go_ret
    exact ⟨ret_bool (show false = fewA l from HF.out.symm), Below.refl _ _⟩

end Go.Proofs.Ytoggdpkpfdilnaa
