/-
  slices.DeleteFunc of packets: the walk.
-/
import Derived.Test.YthpbnjmhhkkkiaaDf
namespace Go.Proofs.Ythpbnjmhhkkkiaa
open Go.RowKit
attribute [local go_sem ↓] Go.wp_at_zero Go.wp_at_succ

/-- what a list without some comes to -/
def Sifted (B : Nat) (l : List Pkt) (to_ : Int) (w : World) (e : Ending) (w' : World) : Prop := ∃ lv, e = .returned lv ∧ OwnL B w' lv (wo l (notTo l to_) l.length) ∧ Below B w w'

set_option maxRecDepth 100000 in
set_option maxHeartbeats 4000000 in
theorem delfunc_any (w : World) (B z : Nat) (to_ : Int) (lv : Value) (l : List Pkt) (h : OwnL B w lv l) (hl : l.length ≤ 1000) (hB : B ≤ w.heap.size) (hz : w.cell? ⟨z, 0, none⟩ = some (.int .i64 to_)) (hzl : z < B) :
    Calls Try.prog 26 #[lv, .func (.func 27) #[] #[.pointer (some ⟨z, 0, none⟩)]] w (Sifted B l to_ w) := by
  have HO := Lib.hid h
  have HP := Lib.hid h.x.pkts
  obtain ⟨A, c, rfl, hlc, hcm, hcase⟩ := h
  have HZ := Lib.hid hz
  have HCM := Lib.hid hcm
  have HLC := Lib.hid hlc
  have HI := Lib.hid (index_any w z to_ A c l HP.out hl hz (Nat.lt_of_lt_of_le hzl hB))
  have HCS := Lib.hid hcase
  unfold maxLen at hcm
  clear hz hcase
  go_enter Try.func26, Try.ntmps26
  go_wp2_with fail
  go_at_call 29
  refine (HI.out).mono ?_
  rintro e w1 ⟨r, rfl, hf, hb1⟩
  have HB1 := Lib.hid hb1
  rcases hf with ⟨rfl, hno⟩ | ⟨k0, hk0, rfl, ht, hno⟩
  · have HW : Hid (wo l (notTo l to_) l.length = l) := by
      show _ = _
      rw [wo_all l l.length (Nat.le_refl _) _ (fun i hi => notTo_yes (hno i hi)), List.take_length]
    clear hno hb1
    go_wp2
    go_ret
    exact ⟨_, rfl, by rw [HW.out]; exact HO.out.on HB1.out, HB1.out.mono hB⟩
  · obtain rfl | ⟨g, off, css, rfl, hg, hlst, hoc⟩ := HCS.out
    · cases hk0
    have HS := Lib.hid (sift_start hlst hoc hb1 hk0 ht hno)
    have hlen := hoc.1
    have HG := Lib.hid hg
    have e0 : ((k0 : Int) == -1) = false := beq_eq_false_iff_ne.2 (by omega)
    clear HCS hlst hoc hb1 hno ht hg hlen
    go_wp2
    go_loopw [5, 6] (fun ii jj wr => ∃ i k : Nat, k ≤ l.length ∧ ii = .int .i64 (i : Int) ∧ jj = .int .i64 (k : Int) ∧ Sift w B g off c l to_ k i wr) (fun _ jj _ => l.length - (intOf jj).toNat)
    case atStart => exact ⟨k0, k0 + 1, by omega, rfl, by go_num, HS.out⟩
    case round =>
      obtain ⟨i, k, hk, rfl, rfl, hs⟩ := hrel
      have HSI := Lib.hid hs
      by_cases hlt : k < l.length
      · obtain ⟨ds, d1, d2, d3, d4, d5, d6, d7, d8⟩ := id hs
        obtain ⟨vb, e, ho⟩ := d6 k hlt (by omega) (Nat.le_refl _)
        obtain ⟨Ab, cb, rfl, _⟩ := ho
        have c0 := d1.row k (by omega) 0 (.int .i64 l[k].id) (by rw [e]; rfl)
        have c1 := d1.row k (by omega) 1 (.int .i64 l[k].to_) (by rw [e]; rfl)
        have c2 := d1.row k (by omega) 2 (.slice Ab l[k].b.length cb) (by rw [e]; rfl)
        rw [Nat.add_zero] at c0
        have i0 : (0 : Int) ≤ (k : Int) := by omega
        have i1 : (k : Int) < (l.length : Int) := by omega
        have j0 : (0 : Int) ≤ (i : Int) := by omega
        have j1 : (i : Int) < (l.length : Int) := by omega
        have hba := bal wr (.cells #[.int .i64 l[k].id, .int .i64 l[k].to_, .slice Ab l[k].b.length cb] 29)
        have hzw : w.cell? ⟨z, 0, none⟩ = some (.int .i64 to_) := HZ.out
        have hz2 : (wr.alloc (.cells #[.int .i64 l[k].id, .int .i64 l[k].to_, .slice Ab l[k].b.length cb] 29)).cell? ⟨z, 0, none⟩ = some (.int .i64 to_) :=
          (World.cell?_of_block (a := ⟨z, 0, none⟩) (((d8.trans (hba.mono (Nat.le_of_lt d1.lt))).block z (by have := HG.out; omega)))).trans hzw
        have CF := Lib.hid (fun (x : Bool) (hx : (l[k].to_ == to_) = x) => cutfn_any (wr.alloc (.cells #[.int .i64 l[k].id, .int .i64 l[k].to_, .slice Ab l[k].b.length cb] 29)) z l[k].id l[k].to_ to_ Ab l[k].b.length cb x hx hz2 (by have := hba.size; have := d8.size; omega))
        have C2 := Lib.hid c2
        have PB := Lib.hid (box_made wr [.int .i64 l[k].id, .int .i64 l[k].to_, .slice Ab l[k].b.length cb] 29)
        have HBA := Lib.hid hba
        have KEEP := Lib.hid (fun (w2 : World) (hb : Below (wr.alloc (.cells #[.int .i64 l[k].id, .int .i64 l[k].to_, .slice Ab l[k].b.length cb] 29)).heap.size (wr.alloc (.cells #[.int .i64 l[k].id, .int .i64 l[k].to_, .slice Ab l[k].b.length cb] 29)) w2) => (⟨(d1.on hba).on hb, by omega⟩ : Lst w2 g off c ds ∧ i < ds.length))
        clear hs d1 d3 d4 d5 d6 d7 d8 e hba hzw hz2 d2
        by_cases hto : l[k].to_ = to_
        · have HTO : Hid (isTo l to_ k) := by show isTo l to_ k; unfold isTo; rw [getD_get hlt]; exact hto
          have CT := Lib.hid (CF.out true (by rw [hto]; exact beq_self_eq_true _))
          clear hto CF
          go_wp2_with fail
          go_at_call 27
          refine (CT.out).mono ?_
          rintro e w2 ⟨rfl, hb2⟩
          have HB2 := Lib.hid (HBA.out.trans (hb2.mono HBA.out.size))
          clear hb2
          go_wp2
          go_roundw
          case rel => exact ⟨i, k + 1, by omega, rfl, by go_num, HSI.out.skip HB2.out HTO.out⟩
          case measure => simp [intOf]; omega
        · have HTO : Hid (¬ isTo l to_ k) := by show ¬ isTo l to_ k; unfold isTo; rw [getD_get hlt]; exact hto
          have CT := Lib.hid (CF.out false (beq_eq_false_iff_ne.2 hto))
          clear hto CF
          go_wp2_with fail
          go_at_call 27
          refine (CT.out).mono ?_
          rintro e w2 ⟨rfl, hb2⟩
          have HB2 := Lib.hid (HBA.out.trans (hb2.mono HBA.out.size))
          have p0 := (PB.out.on hb2).get 0 rfl
          have p1 := (PB.out.on hb2).get 1 rfl
          have p2 := (PB.out.on hb2).get 2 rfl
          obtain ⟨L2, hi2⟩ := KEEP.out w2 hb2
          have f0 := L2.at_ i hi2 0 (by omega)
          have f1 := L2.at_ i hi2 1 (by omega)
          have f2 := L2.at_ i hi2 2 (by omega)
          rw [Nat.add_zero] at f0
          obtain ⟨u0, u1', u2', hu⟩ : ∃ a b c, ds[i] = [a, b, c] := by
            have := L2.three _ (List.getElem_mem hi2)
            match ds[i], this with
            | [a, b, c], _ => exact ⟨a, b, c, rfl⟩
          have y0 := L2.row i hi2 0 u0 (by rw [hu]; rfl)
          have y1 := L2.row i hi2 1 u1' (by rw [hu]; rfl)
          have y2 := L2.row i hi2 2 u2' (by rw [hu]; rfl)
          rw [Nat.add_zero] at y0
          clear hb2 hu L2 hi2
          go_wp2
          go_roundw
          case rel => exact ⟨i + 1, k + 1, by omega, by go_num, by go_num, HSI.out.keeps HB2.out HTO.out hlt C2.out⟩
          case measure => simp [intOf]; omega
      · obtain rfl : k = l.length := by omega
        obtain ⟨ds, d1, d2, d3, d4, _⟩ := id hs
        have hle := d1.le
        have j0 : (0 : Int) ≤ (i : Int) := by omega
        have j1 : (i : Int) ≤ (l.length : Int) := by omega
        have j2 : (i : Int) ≤ (c : Int) := by omega
        have m1 : c ≠ i := by omega
        have m2 : c ≠ 0 := by omega
        obtain ⟨vs, hvl, hcl⟩ := run_clear3 (P := Try.prog) wr 22 29 (.int .i64 0) (.int .i64 0) (.slice none 0 0) Try.underlying22 pkt_zero rfl rfl rfl rfl g (off + i * 3) (l.length - i) (c - i) (fun x hx => by rw [Nat.add_assoc]; exact (d1.open_ _ (by omega)).1) (fun x hx => by rw [Nat.add_assoc]; exact (d1.open_ _ (by omega)).2)
        have HV := Lib.hid hvl
        clear hs d1 d2 d3 d4 hle hvl
        go_wp2_with (simp only [hcl])
        go_ret
        obtain ⟨r1, r2⟩ := HSI.out.done HG.out vs HV.out
        exact ⟨_, rfl, r1, r2⟩

end Go.Proofs.Ythpbnjmhhkkkiaa
