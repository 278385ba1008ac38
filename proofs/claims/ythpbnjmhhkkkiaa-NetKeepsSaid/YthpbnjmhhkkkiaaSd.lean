/-
  net.Drop; what net.Send needs: append onto a slice cut to its length.
-/
import Derived.Test.YthpbnjmhhkkkiaaTk
namespace Go.Proofs.Ythpbnjmhhkkkiaa
open Go.RowKit
attribute [local go_sem ↓] Go.wp_at_zero Go.wp_at_succ

theorem Aparted.gives {n : Nett} {w : World} {e : Ending} {w' : World} (h : Aparted n w e w') : GivesNet n w e w' := by
  obtain ⟨lv, rfl, ho, hb⟩ := h
  exact ⟨_, rfl, ⟨lv, rfl, ho.x.pkts⟩, hb⟩

theorem OwnL.put2 {B z : Nat} {w : World} {lv : Value} {l : List Pkt} (h : OwnL B w lv l) (hz : z < B) (a b : Value) : OwnL B (put2 w z a b) lv l :=
  h.kept (fun k hk _ => put2_other w z a b k (by omega)) (by rw [put2_size]; exact Nat.le_refl _)
theorem BoxF.put2o {g z : Nat} {vs : List Value} {w : World} (h : BoxF g vs w) (hz : g ≠ z) (a b : Value) : BoxF g vs (put2 w z a b) :=
  h.kept (put2_other w z a b g hz) (by rw [put2_size]; exact Nat.le_refl _)

set_option maxRecDepth 100000 in
set_option maxHeartbeats 4000000 in
theorem drop_own (w : World) (v : Value) (n : Nett) (i : Int) (h : NetAt w w.heap.size v n) (hf : Fit n.l) (hi : 0 ≤ i) : Calls Try.prog 15 #[v, .int .i64 i] w (Aparted (n.taken i).2.1 w) := by
  have HN := Lib.hid h
  obtain ⟨A, c, rfl, hlc⟩ := netAt_slice h
  have hbA : Below w.heap.size w ((w.alloc (.cells #[.int .i64 n.next, .slice A n.l.length c] 24)).alloc (.cells #[.int .i64 0, .slice none 0 0] 24)) := bt (bal _ _) (bal _ _)
  have x0 := (boxF_made w [.int .i64 n.next, .slice A n.l.length c] 24).on (bal _ (.cells #[.int .i64 0, .slice none 0 0] 24))
  have x1 := boxF_made (w.alloc (.cells #[.int .i64 n.next, .slice A n.l.length c] 24)) [.int .i64 0, .slice none 0 0] 24
  simp only [World.size_alloc] at x1
  have HT := Lib.hid (take_own _ _ n i (HN.out.on hbA) hf hi)
  clear h hlc
  generalize n.taken i = t at HT ⊢
  obtain ⟨p, ⟨m0, ml⟩, ok⟩ := t
  go_enter Try.func15, Try.ntmps15
  go_wp2_with fail
  go_at_call 9
  refine (HT.out).mono ?_
  rintro e w1 ⟨vb, lv, rfl, ho1, ho, hb1⟩
  obtain ⟨Av, cv, rfl, _⟩ := ho1
  replace ho : OwnL ((w.alloc (.cells #[.int .i64 n.next, .slice A n.l.length c] 24)).alloc (.cells #[.int .i64 0, .slice none 0 0] 24)).heap.size w1 lv ml := ho
  simp only [World.size_alloc] at ho
  generalize p.b.length = pl
  have HO := Lib.hid ho
  obtain ⟨A1, c1, rfl, hl1, hm1, _⟩ := ho
  have X0 := x0.on hb1
  have X1 := x1.on hb1
  have f00 := X0.free 0 (by simp)
  have f01 := X0.free 1 (by simp)
  have g00 := X0.get 0 rfl
  have g01 := X0.get 1 rfl
  have f10 := X1.free 0 (by simp)
  have f11 := X1.free 1 (by simp)
  have g10 := X1.get 0 rfl
  have g11 := X1.get 1 rfl
  have ne1 : ¬ w.heap.size + 1 = w.heap.size := by omega
  have HB := Lib.hid (hbA.trans (hb1.mono hbA.size))
  have HX1 := Lib.hid X1
  clear hbA x0 x1 X0 X1 hl1 hm1 hb1
  go_wp2
  have F1 := put2_box (HX1.out.put2o (z := w.heap.size) (by omega) (.int .i64 m0) (.slice A1 ml.length c1)) (.int .i64 m0) (.slice A1 ml.length c1)
  refine bodyPost_ret (results_cell1 (p := 4) rfl rfl (load_net rfl F1.box)) rfl ?_
  exact ⟨_, rfl, ((HO.out.put2 (by omega) _ _).put2 (by omega) _ _).mono (by omega), (HB.out.trans (put2_below _ (Nat.le_refl _) _ _)).trans (put2_below _ (by omega) _ _)⟩

end Go.Proofs.Ythpbnjmhhkkkiaa
