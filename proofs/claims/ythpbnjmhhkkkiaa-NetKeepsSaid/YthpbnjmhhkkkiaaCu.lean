/-
  net.Cut.
-/
import Derived.Test.YthpbnjmhhkkkiaaDg
namespace Go.Proofs.Ythpbnjmhhkkkiaa
open Go.RowKit
attribute [local go_sem ↓] Go.wp_at_zero Go.wp_at_succ

set_option maxRecDepth 100000 in
set_option maxHeartbeats 4000000 in
theorem cut_own (w : World) (v : Value) (n : Nett) (to_ : Int) (h : NetAt w w.heap.size v n) (hf : Fit n.l) : Calls Try.prog 18 #[v, .int .i64 to_] w (Aparted (n.cutTo to_) w) := by
  have HN := Lib.hid h
  have h62 := hf.1
  obtain ⟨A, c, rfl, hlc⟩ := netAt_slice h
  have hbA : Below w.heap.size w (((w.alloc (.cells #[.int .i64 n.next, .slice A n.l.length c] 24)).alloc (.cells #[.int .i64 to_] 3)).alloc (.cells #[.int .i64 0, .slice none 0 0] 24)) := bt (bt (bal _ _) (bal _ _)) (bal _ _)
  have x0 := ((boxF_made w [.int .i64 n.next, .slice A n.l.length c] 24).on (bal _ (.cells #[.int .i64 to_] 3))).on (bal _ (.cells #[.int .i64 0, .slice none 0 0] 24))
  have xz := (boxF_made (w.alloc (.cells #[.int .i64 n.next, .slice A n.l.length c] 24)) [.int .i64 to_] 3).on (bal _ (.cells #[.int .i64 0, .slice none 0 0] 24))
  have x1 := boxF_made ((w.alloc (.cells #[.int .i64 n.next, .slice A n.l.length c] 24)).alloc (.cells #[.int .i64 to_] 3)) [.int .i64 0, .slice none 0 0] 24
  simp only [World.size_alloc] at x1 xz
  have HA := Lib.hid (apart_any _ _ n (HN.out.on hbA) hf)
  clear h hlc
  go_enter Try.func18, Try.ntmps18
  go_wp2_with fail
  go_at_call 21
  refine (HA.out).mono ?_
  rintro e w1 ⟨lv1, rfl, ho, hb1⟩
  simp only [World.size_alloc] at ho
  have HO := Lib.hid ho
  obtain ⟨A1, c1, rfl, _⟩ := ho
  have X0 := x0.on hb1
  have XZ := xz.on hb1
  have X1 := x1.on hb1
  have f00 := X0.free 0 (by simp)
  have f01 := X0.free 1 (by simp)
  have g00 := X0.get 0 rfl
  have g01 := X0.get 1 rfl
  have hbw := hbA.trans (hb1.mono hbA.size)
  have Y0 := Lib.hid (put2_box X0 (.int .i64 n.next) (.slice A1 n.l.length c1))
  have YZ := Lib.hid (XZ.put2o (z := w.heap.size) (by omega) (.int .i64 n.next) (.slice A1 n.l.length c1))
  have Y1 := Lib.hid (X1.put2o (z := w.heap.size) (by omega) (.int .i64 n.next) (.slice A1 n.l.length c1))
  have HBW := Lib.hid (hbw.trans (put2_below w1 (Nat.le_refl _) (.int .i64 n.next) (.slice A1 n.l.length c1)))
  have HSZ : Hid (w.heap.size + 1 + 1 + 1 ≤ w1.heap.size) := by have := hb1.size; simp only [World.size_alloc] at this; exact this
  have DF := Lib.hid (delfunc_any (put2 w1 w.heap.size (.int .i64 n.next) (.slice A1 n.l.length c1)) (w.heap.size + 1 + 1 + 1) (w.heap.size + 1) to_ (.slice A1 n.l.length c1) n.l (HO.out.put2 (by omega) _ _) (by omega) (by rw [put2_size]; exact HSZ.out) (YZ.out.get 0 rfl) (by omega))
  clear hbA x0 x1 xz X0 X1 XZ hbw hb1
  go_wp2_with fail
  go_at_call 26
  refine (DF.out).mono ?_
  rintro e w2 ⟨lv2, rfl, ho2, hb2⟩
  have HO2 := Lib.hid ho2
  obtain ⟨A2, c2, rfl, _⟩ := ho2
  generalize hm : wo n.l (notTo n.l to_) n.l.length = m at HO2
  have HM := Lib.hid hm
  have z0 := Y0.out.kept (hb2.block _ (by omega)) hb2.size
  have z1 := Y1.out.kept (hb2.block _ (by omega)) hb2.size
  have g20 := z0.get 0 rfl
  have g21 := z0.get 1 rfl
  have f21 := z0.free 1 (by simp)
  have f20 := z0.free 0 (by simp)
  have h10 := z1.get 0 rfl
  have h11 := z1.get 1 rfl
  have e10 := z1.free 0 (by simp)
  have e11 := z1.free 1 (by simp)
  have Z1 := Lib.hid z1
  have HBX := Lib.hid (HBW.out.trans (hb2.mono (by omega)))
  clear z0 z1 hb2 hm
  go_wp2
  have s1 := HO2.out.kept (w' := w2.setCell ⟨w.heap.size, 1, none⟩ (.slice A2 m.length c2)) (fun b hb _ => Below.heap_setCell w2 ⟨w.heap.size, 1, none⟩ _ b (by show b ≠ w.heap.size; omega)) (by simp [World.setCell])
  have b1 := below_set HBX.out w.heap.size 1 (.slice A2 m.length c2) (Nat.le_refl _)
  have z1 := Z1.out.other (b := w.heap.size) (o := 1) (.slice A2 m.length c2) (by omega)
  have F1 := put2_box z1 (.int .i64 n.next) (.slice A2 m.length c2)
  refine bodyPost_ret (results_cell1 (p := 4) rfl rfl (load_net rfl F1.box)) rfl ?_
  refine ⟨_, rfl, ?_, b1.trans (put2_below _ (by omega) _ _)⟩
  show OwnL _ _ _ (wo n.l (notTo n.l to_) n.l.length)
  rw [HM.out]
  exact (s1.put2 (by omega) _ _).mono (by omega)
theorem cut_ok : CutOk := fun w v n to_ h hr => (cut_own w v n to_ h (right_fit hr)).mono fun _ _ q => q.gives

end Go.Proofs.Ythpbnjmhhkkkiaa
