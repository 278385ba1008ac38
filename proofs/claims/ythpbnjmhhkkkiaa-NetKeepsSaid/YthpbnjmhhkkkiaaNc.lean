/-
  A net without all that are to a process, as the document's own function makes it (made of XNw by program).
-/
import Derived.Test.YthpbnjmhhkkkiaaNw
namespace Go.Proofs.Ythpbnjmhhkkkiaa
open Go.RowKit
attribute [local go_sem ↓] Go.wp_at_zero Go.wp_at_succ

set_option maxRecDepth 100000 in
set_option maxHeartbeats 2000000 in
theorem rcut_any (w : World) (B0 : Nat) (v : Value) (n : Nett) (at_ : Int) (h : NetAt w B0 v n) (hB0 : B0 ≤ w.heap.size) (hl : n.l.length ≤ 100) :
    Calls Try.prog 19 #[v, .int .i64 at_] w fun e w' => ∃ u, e = .returned u ∧ NetNew w B0 w' u ⟨n.next, wo n.l (fun i => decide ((n.l.getD i default).to_ ≠ at_)) n.l.length⟩ ∧ Below w.heap.size w w' := by
  obtain ⟨lv, rfl, hp⟩ := h
  have HA := Lib.hid hp
  have HB00 := Lib.hid hB0
  clear hB0
  obtain ⟨nx, l⟩ := n
  obtain ⟨A, c, css, rfl, hlc, hcm, _⟩ := hp
  obtain ⟨j, hj, hz0, hz1, hz2⟩ := info_part3 pkt_info
  go_enter Try.func19, Try.ntmps19
  go_wp2
  go_loopw [6] (fun j wr => ∃ k : Nat, k ≤ l.length ∧ j = .int .i64 (k : Int) ∧ Laid w B0 nx (.slice A l.length c) (wo l (fun i => decide ((l.getD i default).to_ ≠ at_)) k) wr) (fun j _ => l.length - (intOf j).toNat)
  case atStart =>
    refine ⟨0, Nat.zero_le _, rfl, .slice none 0 0, [], ?_, ?_, ?_, RoomN.nil, Cells.nil, bt (bt (bal _ _) (bal _ _)) (bal _ _)⟩
    · exact ((box_made w _ _).on (bal _ _)).on (bal _ _)
    · have := (boxF_made (w.alloc (.cells #[.int .i64 nx, .slice A l.length c] 24)) [.int .i64 0, .slice none 0 0] 24).on (bal _ (.cells #[.int .i64 nx, .slice none 0 0] 24))
      simpa using this
    · have := boxF_made ((w.alloc (.cells #[.int .i64 nx, .slice A l.length c] 24)).alloc (.cells #[.int .i64 0, .slice none 0 0] 24)) [.int .i64 nx, .slice none 0 0] 24
      simpa using this
  case round =>
    obtain ⟨k, hk, rfl, V, ds, hb0, hb1, hb2, hrm, hcs, hbw⟩ := hrel
    have x0 := hb0.get 0 rfl
    have x1 := hb0.get 1 rfl
    have z0 := hb2.get 0 rfl
    have z1 := hb2.get 1 rfl
    have HB0 := Lib.hid hb0
    have HB1 := Lib.hid hb1
    have HB2 := Lib.hid hb2
    have HRM := Lib.hid hrm
    have HCS := Lib.hid hcs
    have HBW := Lib.hid hbw
    have hsz := hb2.1
    by_cases hlt : k < l.length
    · obtain ⟨b, off, vb, rfl, hb, hbB, hsb, c0, c1, c2⟩ := (HA.out.below (hbw.mono HB00.out)).at_ k hlt
      obtain ⟨Ab, cb, rfl, hAb⟩ := hsb
      have HS : Hid (Seen wr B0 (.slice Ab l[k].b.length cb) l[k].b) := ⟨Ab, cb, rfl, hAb⟩
      have i0 : (0 : Int) ≤ (k : Int) := by omega
      have i1 : (k : Int) < (l.length : Int) := by omega
      clear hb0 hb1 hb2 hrm hcs hbw hAb
      by_cases he : l[k].to_ = at_
      · have HW := Lib.hid (wo_no (l := l) (p := fun i => decide ((l.getD i default).to_ ≠ at_)) (k := k) (by rw [getD_get hlt]; simp [he]))
        have hne : (l[k].to_ != at_) = false := by simp [he]
        have HE := Lib.hid he
        clear he
        go_wp2
        go_roundw
        case rel => exact ⟨k + 1, by omega, by go_num, V, ds, HB0.out, HB1.out, HB2.out, by rw [HW.out]; exact HRM.out, by rw [HW.out]; exact HCS.out, HBW.out⟩
        case measure => simp [intOf]; omega
      · have hwy := wo_yes (l := l) (p := fun i => decide ((l.getD i default).to_ ≠ at_)) (k := k) (by rw [getD_get hlt]; simp [he])
        rw [getD_get hlt] at hwy
        have HW := Lib.hid hwy
        have HM : Hid ((wo l (fun i => decide ((l.getD i default).to_ ≠ at_)) k).length ≤ k) := wo_len _ _ _
        have hne : (l[k].to_ != at_) = true := by simp [he]
        clear he hwy
        generalize wo l (fun i => decide ((l.getD i default).to_ ≠ at_)) k = m at HRM HCS HW HM
        have hml : m.length ≤ k := HM.out
        have hwa := bal wr (.cells #[.int .i64 l[k].id, .int .i64 l[k].to_, .slice Ab l[k].b.length cb] 29)
        have R1 := HRM.out.on hwa.drew
        have hB1 : w.heap.size + 1 + 1 + 1 ≤ (wr.alloc (.cells #[.int .i64 l[k].id, .int .i64 l[k].to_, .slice Ab l[k].b.length cb] 29)).drew.heap.size := Nat.le_trans hsz hwa.drew.size
        have S1 := srcN_at (P := Try.prog) (n := 3) rfl (cell_one l[k] _ HS.out) ((box_made wr [.int .i64 l[k].id, .int .i64 l[k].to_, .slice Ab l[k].b.length cb] 29).on (Below.refl _ _).drew) Try.underlying22
        have q1 : m.length + 1 ≤ 1000000 := by omega
        have q2 : (m.length + 1) * 40 ≤ 140737488355328 := by omega
        obtain ⟨Av, cv, rfl, _⟩ := HRM.out.slice
        go_wp2
        first | (go_region_law (first
          | (refine step_appendN (B := w.heap.size + 1 + 1 + 1) (n := 3) (k := m.length) (m := 1) (cs := ds.flatten) (ys := [.int .i64 l[k].id, .int .i64 l[k].to_, .slice Ab l[k].b.length cb]) (by rfl) (.tmp 26) (.tmp 32) 22 22 (by rfl) 29 j _ 40 Try.underlying22 hj hz0 hz1 rfl hz2 R1 hB1 S1 rfl q1 q2 (by rfl) (by rfl) ?_; intro v5 w5 h5 hb5 hk5 ho5; have HX5 := Lib.hid ((HB2.out.on hwa.drew).kept (hb5.block _ (by omega)) hb5.size); have y1 := HX5.out.get 1 rfl; have f1 := HX5.out.free 1 (by simp); obtain ⟨A5, c5, hv5, _⟩ := h5.slice; subst hv5; have H5 := Lib.hid h5; have K5 := Lib.hid hb5; clear hk5 ho5))) | fail
        all_goals go_wp2
        all_goals go_roundw
        all_goals first
          | (refine ⟨k + 1, by omega, by go_num, ?_⟩; rw [HW.out]; exact laid_step HB00.out HB0.out HB1.out hsz HX5.out H5.out HCS.out HS.out HBW.out hwa.drew K5.out)
          | (simp [intOf]; omega)
    · have hkl : k = l.length := by omega
      obtain ⟨V, e1, e2, ⟨A', n', c', e3⟩, e4, e5⟩ := laid_end (w := w) HB00.out (nx := nx) (m := wo l (fun i => decide ((l.getD i default).to_ ≠ at_)) k) ⟨V, ds, hb0, hb1, hb2, hrm, hcs, hbw⟩
      subst e3
      have y0 := e2.get 0 rfl
      have y1 := e2.get 1 rfl
      have f0 := e1.free 0 (by simp)
      have f1 := e1.free 1 (by simp)
      have g0 := e1.get 0 rfl
      have g1 := e1.get 1 rfl
      have E1 := Lib.hid e1
      have E4 := Lib.hid e4
      have E5 := Lib.hid e5
      clear e1 e2 e4 e5 hb0 hb1 hb2 hrm hcs hbw z0 z1
      subst hkl
      go_wp2
      refine bodyPost_ret (results_cell1 (p := 4) rfl rfl (load_net rfl (put2_box E1.out (.int .i64 nx) (.slice A' n' c')).box)) rfl ?_
      exact ⟨_, rfl, E4.out, E5.out⟩

end Go.Proofs.Ythpbnjmhhkkkiaa
