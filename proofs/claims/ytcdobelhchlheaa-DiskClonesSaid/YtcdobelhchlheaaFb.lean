/-
  The document's own functions of disks: few acts; an area's bytes.
-/
import Derived.Test.YtcdobelhchlheaaAm
import Derived.Deep.RegionHeld3
import Derived.Deep.DrawnRows
namespace Go.Proofs.Ytcdobelhchlheaa
open Go.RowKit
attribute [local go_sem ↓] Go.wp_at_zero Go.wp_at_succ

/-- a block that holds these values -/
def Box (g : Nat) (vs : List Value) (W : World) : Prop := g < W.heap.size ∧ ∀ i (h : i < vs.length), W.cell? ⟨g, i, none⟩ = some vs[i]
theorem Box.on {g : Nat} {vs : List Value} {W W' : World} (h : Box g vs W) (hb : Below W.heap.size W W') : Box g vs W' :=
  ⟨Nat.lt_of_lt_of_le h.1 hb.size, fun i hi => (World.cell?_of_block (a := ⟨g, i, none⟩) (hb.block g h.1)).trans (h.2 i hi)⟩
theorem box_made (w : World) (vs : List Value) (e : TypeId) : Box w.heap.size vs (w.alloc (.cells vs.toArray e)) :=
  ⟨by simp, fun i hi => by rw [World.cell?_alloc_new, List.getElem?_toArray]; exact List.getElem?_eq_getElem hi⟩
theorem Box.get {g : Nat} {vs : List Value} {W : World} (h : Box g vs W) (i : Nat) {u : Value} (e : vs[i]? = some u) : W.cell? ⟨g, i, none⟩ = some u := by
  obtain ⟨hi, e⟩ := List.getElem?_eq_some_iff.1 e
  rw [h.2 i hi, e]
theorem Box.kept {g : Nat} {vs : List Value} {W W' : World} (h : Box g vs W) (e : W'.heap[g]? = W.heap[g]?) (hs : W.heap.size ≤ W'.heap.size) : Box g vs W' :=
  ⟨Nat.lt_of_lt_of_le h.1 hs, fun i hi => (World.cell?_of_block (a := ⟨g, i, none⟩) e).trans (h.2 i hi)⟩

theorem fewA_small {l : List Actd} (h : fewA l = true) : l.length ≤ 40 ∧ ∀ a ∈ l, a.b.length ≤ 200 := by
  unfold fewA at h
  rw [Bool.and_eq_true] at h
  exact ⟨of_decide_eq_true h.1, fun a ha => by simpa using List.all_eq_true.1 h.2 a ha⟩
set_option maxRecDepth 100000 in
set_option maxHeartbeats 1000000 in
theorem few_any (w : World) (B : Nat) (v : Value) (l : List Actd) (h : ActsAt w B v l) (hB : B ≤ w.heap.size) :
    Calls Try.prog 9 #[v] w fun e w' => e = .returned (.bool (fewA l)) ∧ Below w.heap.size w w' := by
  have HA := Lib.hid h
  have HB0 := Lib.hid hB
  clear hB
  obtain ⟨A, c, css, rfl, hlc, hcm, _⟩ := h
  by_cases h40 : l.length ≤ 40
  · have h40' : (l.length : Int) ≤ 40 := by omega
    have HF : Hid (fewA l = l.all fun a => decide (a.b.length ≤ 200)) := by show fewA l = _; unfold fewA; rw [decide_eq_true h40, Bool.true_and]
    go_enter Try.func9, Try.ntmps9
    go_wp2
    go_loopw [3] (fun j wr => ∃ k : Nat, k ≤ l.length ∧ j = .int .i64 (k : Int) ∧ (l.take k).all (fun a => decide (a.b.length ≤ 200)) = true ∧ Below w.heap.size w wr) (fun j _ => l.length - (intOf j).toNat)
    case atStart => exact ⟨0, Nat.zero_le _, rfl, rfl, Below.refl _ _⟩
    case round =>
      obtain ⟨k, hk, rfl, hall, hbw0⟩ := hrel
      by_cases hlt : k < l.length
      · obtain ⟨b, off, vb, rfl, hbw, hbB, hsb, c0, c1, c2, c3, c4⟩ := (HA.out.below (hbw0.mono HB0.out)).at_ k hlt
        obtain ⟨Ab, cb, rfl, hAb⟩ := hsb
        have hcb : l[k].b.length ≤ cb := hAb.1
        have i0 : (0 : Int) ≤ (k : Int) := by omega
        have i1 : (k : Int) < (l.length : Int) := by omega
        have HT : Hid ((l.take (k + 1)).all (fun a => decide (a.b.length ≤ 200)) = decide (l[k].b.length ≤ 200)) := by
          show _ = _
          rw [List.take_succ_eq_append_getElem hlt, List.all_append, hall, Bool.true_and]
          simp
        obtain ⟨n, hn⟩ : ∃ n, n = l[k].b.length := ⟨_, rfl⟩
        rw [← hn] at HT c2 hcb
        by_cases h2 : n ≤ 200
        · have h2' : (n : Int) ≤ 200 := by omega
          have HL := Lib.hid hall
          clear hall hAb hn c0 c1 c3 c4
          go_wp2
          go_roundw
          case rel => exact ⟨k + 1, by omega, by go_num, by rw [HT.out, decide_eq_true h2], hbw0⟩
          case measure => simp [intOf]; omega
        · have h2' : (200 : Int) < (n : Int) := by omega
          have HN : Hid (l.all (fun a => decide (a.b.length ≤ 200)) = false) := by
            show _ = _
            have : (l.take (k + 1) ++ l.drop (k + 1)).all (fun a => decide (a.b.length ≤ 200)) = false := by
              rw [List.all_append, HT.out, decide_eq_false h2, Bool.false_and]
            rw [List.take_append_drop] at this
            exact this
          clear hall hAb hn c0 c1 c3 c4
          go_wp2
          go_ret
          exact ⟨ret_bool (show false = fewA l by rw [HF.out, HN.out]), hbw0⟩
      · have hkl : l.take k = l := List.take_of_length_le (by omega)
        rw [hkl] at hall
        have HL := Lib.hid hall
        clear hall
        go_wp2
        go_ret
        exact ⟨ret_bool (show true = fewA l by rw [HF.out, HL.out]), hbw0⟩
  · have h40' : (40 : Int) < (l.length : Int) := by omega
    have HF : Hid (fewA l = false) := by show fewA l = _; unfold fewA; rw [decide_eq_false h40, Bool.false_and]
    go_enter Try.func9, Try.ntmps9
    go_wp2
    go_ret
    exact ⟨ret_bool (show false = fewA l from HF.out.symm), Below.refl _ _⟩

end Go.Proofs.Ytcdobelhchlheaa
