/-
  The document's own act: a change that isn't a sync (made by disk-do4-gen.py).
-/
import Derived.Test.YtcdobelhchlheaaDo3
import Derived.Deep.RegionLaw
import Derived.Deep.CutRange
namespace Go.Proofs.Ytcdobelhchlheaa
open Go.RowKit
attribute [local go_sem ↓] Go.wp_at_zero Go.wp_at_succ

theorem box1 (w : World) (vs : List Value) (T : TypeId) (o1 o3 : Obj) : Box (w.heap.size + 1) vs (((w.alloc o1).alloc (.cells vs.toArray T)).alloc o3) := by
  have := (box_made (w.alloc o1) vs T).on (bal _ o3)
  rw [show (w.alloc o1).heap.size = w.heap.size + 1 by simp] at this
  exact this
theorem srcN_at {P : Program} {W : World} {g n : Nat} {cs : List Value} (hl : cs.length = n) (h1 : ∀ u ∈ cs, u.oneCell' = true) (h : Box g cs W) {tx e' : TypeId} (hk : P.underlying tx = some (.slice e')) : Src P n tx (.slice (some ⟨g, 0, none⟩) 1 1) 1 cs W := by
  refine Src.ofSlice _ hk _ 1 1 cs (by rw [Nat.one_mul]; exact hl) (fun j x hx => ?_) h1
  rw [Addr.add_lit, Nat.zero_add]
  exact h.get j hx
theorem room_at {W : World} {B n g : Nat} (hB : B ≤ g) (hg : g < W.heap.size) : RoomN W B (.slice (some ⟨g, 0, none⟩) 0 0) n 0 [] := RoomN.empty hB hg

set_option maxRecDepth 100000 in
set_option maxHeartbeats 4000000 in
theorem do_chg (d : Dskd) (a : Actd) (bm : Bool) (sv lv vb : Value) (w : World) (B0 : Nat) (X : Nat → Prop) (hB0 : B0 ≤ w.heap.size) (hl : d.liesIn w B0 X sv lv) (hs : Seen w B0 vb a.b) (hlf : bm = true → I64 (d.left - 1)) (hn : d.safe.length + d.loose.length ≤ 100000) (hk : a.kind.toNat % 6 < 3) (ha : a.area = 0 ∨ a.area = 1) :
    Calls Try.prog 12 #[.agg #[sv, lv, .int .i64 d.left, .bool bm, .bool false], .agg #[.int .u8 (a.kind.toNat : Int), .int .i64 a.area, vb, .int .i64 a.n, .int .i64 a.m]] w (Done7 B0 X w (Dskd.tick ⟨d.safe, d.loose ++ [{ a with kind := UInt8.ofNat (a.kind.toNat % 6) }], d.left, bm, false⟩) 0) := by
  obtain ⟨j, hj, hz0, hz1, hz2⟩ := info_parts act_info
  obtain ⟨q, hq⟩ : ∃ q : Nat, q = a.kind.toNat := ⟨_, rfl⟩
  have hq2 : q < 256 := by rw [hq]; exact UInt8.toNat_lt _
  rw [← hq] at hk ⊢
  have HK : (q : Int) % 6 < 3 := by omega
  have K4 : ¬ (q : Int) % 6 = 4 := by omega
  have K5 : ¬ (q : Int) % 6 = 5 := by omega
  have K3 : ¬ (q : Int) % 6 = 3 := by omega
  obtain ⟨k8, hk8⟩ : ∃ k : UInt8, k = UInt8.ofNat (q % 6) := ⟨_, rfl⟩
  have HKK : Hid ((k8.toNat : Int) = (q : Int) % 6) := by show _ = _; rw [hk8, UInt8.toNat_ofNat']; omega
  rw [← hk8]
  clear hk8
  have hw3 : Below w.heap.size w (((w.alloc (.cells #[sv, lv, .int .i64 d.left, .bool bm, .bool false] 28)).alloc (.cells #[.int .u8 ((q : Int) % 6), .int .i64 a.area, vb, .int .i64 a.n, .int .i64 a.m] 32)).alloc (.cells #[.slice none 0 0, .slice none 0 0, .int .i64 0, .bool false, .bool false] 28)) := below3 w _ _ _
  have hsz3 : (((w.alloc (.cells #[sv, lv, .int .i64 d.left, .bool bm, .bool false] 28)).alloc (.cells #[.int .u8 ((q : Int) % 6), .int .i64 a.area, vb, .int .i64 a.n, .int .i64 a.m] 32)).alloc (.cells #[.slice none 0 0, .slice none 0 0, .int .i64 0, .bool false, .bool false] 28)).heap.size = w.heap.size + 1 + 1 + 1 := by simp
  have HBX : Hid (BoxF w.heap.size [sv, lv, .int .i64 d.left, .bool bm, .bool false] (((w.alloc (.cells #[sv, lv, .int .i64 d.left, .bool bm, .bool false] 28)).alloc (.cells #[.int .u8 ((q : Int) % 6), .int .i64 a.area, vb, .int .i64 a.n, .int .i64 a.m] 32)).alloc (.cells #[.slice none 0 0, .slice none 0 0, .int .i64 0, .bool false, .bool false] 28))) := ((boxF_made w [sv, lv, .int .i64 d.left, .bool bm, .bool false] 28).on (bal _ _)).on (bal _ _)
  have HBA : Hid (Box (w.heap.size + 1) [.int .u8 ((q : Int) % 6), .int .i64 a.area, vb, .int .i64 a.n, .int .i64 a.m] (((w.alloc (.cells #[sv, lv, .int .i64 d.left, .bool bm, .bool false] 28)).alloc (.cells #[.int .u8 ((q : Int) % 6), .int .i64 a.area, vb, .int .i64 a.n, .int .i64 a.m] 32)).alloc (.cells #[.slice none 0 0, .slice none 0 0, .int .i64 0, .bool false, .bool false] 28))) := box1 w [.int .u8 ((q : Int) % 6), .int .i64 a.area, vb, .int .i64 a.n, .int .i64 a.m] 32 _ _
  have HBZ : Hid (BoxF (w.heap.size + 1 + 1) [.slice none 0 0, .slice none 0 0, .int .i64 0, .bool false, .bool false] (((w.alloc (.cells #[sv, lv, .int .i64 d.left, .bool bm, .bool false] 28)).alloc (.cells #[.int .u8 ((q : Int) % 6), .int .i64 a.area, vb, .int .i64 a.n, .int .i64 a.m] 32)).alloc (.cells #[.slice none 0 0, .slice none 0 0, .int .i64 0, .bool false, .bool false] 28))) := boxF3 w _ _ [.slice none 0 0, .slice none 0 0, .int .i64 0, .bool false, .bool false] 28
  have HL2 : Hid (∃ ss : List (List Value), (∀ W, Below w.heap.size w W → Cells W B0 d.loose ss) ∧ ss.flatten.length = d.loose.length * 5 ∧ ∀ W, Below w.heap.size w W → Src Try.prog 5 22 lv d.loose.length ss.flatten W) := by
    obtain ⟨A', c', css, rfl, h1, h2, h3, h4⟩ := hl.2
    refine ⟨css, fun W hb => h3.below (hb.mono hB0), h3.flat, fun W hb => ?_⟩
    rcases h4 with h4 | ⟨b, off, rfl, _, hbw, hr⟩
    · have : css = [] := List.eq_nil_of_length_eq_zero (by rw [h3.1, h4]; rfl)
      subst this
      rw [h4]
      cases A' with
      | none => exact Src.ofNil W Try.underlying22 c'
      | some z => exact Src.ofSlice W Try.underlying22 z 0 c' [] (by simp) (fun _ _ h => by simp at h) nofun
    · refine Src.ofSlice W Try.underlying22 _ _ c' css.flatten h3.flat (fun j u hu => ?_) h3.ones
      obtain ⟨hj, e⟩ := List.getElem?_eq_some_iff.1 hu
      rw [Addr.add_lit, (World.cell?_of_block (a := ⟨b, off + j, none⟩) (hb.block b hbw)).trans (hr j hj), e]
  obtain ⟨ss, hcl, hfl, hsr⟩ := HL2.out
  have HCL := Lib.hid hcl
  have HC1 := Lib.hid hfl
  have HSR := Lib.hid hsr
  obtain ⟨A1, n1, c1, hv1⟩ := acts_slice hl.1
  obtain ⟨A2, n2, c2, hv2⟩ := acts_slice hl.2
  have HSB := Lib.hid hs
  obtain ⟨Ab, cb, hvb, _⟩ := hs
  have HL := Lib.hid hl
  have HB := Lib.hid hB0
  have HW3 := Lib.hid hw3
  have HSZ := Lib.hid hsz3
  have q1 : 0 + d.loose.length ≤ 1000000 := by omega
  have q2 : (0 + d.loose.length) * 56 ≤ 140737488355328 := by omega
  have q3 : d.loose.length + 1 ≤ 1000000 := by omega
  have q4 : (d.loose.length + 1) * 56 ≤ 140737488355328 := by omega
  subst hv1 hv2 hvb
  have hone : ∀ u ∈ ([.int .u8 ((q : Int) % 6), .int .i64 a.area, .slice Ab a.b.length cb, .int .i64 a.n, .int .i64 a.m] : List Value), u.oneCell' = true := by
    intro u hu
    simp only [List.mem_cons, List.not_mem_nil, or_false] at hu
    rcases hu with rfl | rfl | rfl | rfl | rfl <;> rfl
  have HONE := Lib.hid hone
  clear hq hl hk hw3 hsz3 HL2 hcl hfl hsr hone hB0
  go_enter Try.func12, Try.ntmps12
  go_upto_region 10 with fail
  go_cut [48] from 8 to 48 (fun s48 wx => s48 = .bool false ∧ wx = (((w.alloc (.cells #[.slice A1 n1 c1, .slice A2 n2 c2, .int .i64 d.left, .bool bm, .bool false] 28)).alloc (.cells #[.int .u8 (q : Int), .int .i64 a.area, .slice Ab a.b.length cb, .int .i64 a.n, .int .i64 a.m] 32)).alloc (.cells #[.slice none 0 0, .slice none 0 0, .int .i64 0, .bool false, .bool false] 28)))
  case first =>
    rcases ha with ha | ha
    · have a0 : (a.area != 0) = false := by rw [ha]; rfl
      clear ha
      go_wp2_with fail
      go_meet
      exact ⟨rfl, rfl⟩
    · have a0 : (a.area != 0) = true := by rw [ha]; rfl
      have a1 : (a.area != 1) = false := by rw [ha]; rfl
      clear ha
      go_wp2_with fail
      go_meet
      exact ⟨rfl, rfl⟩
  case rest =>
  obtain ⟨rfl, rfl⟩ := hcut
  clear ha
  go_wp2
  obtain ⟨w3, hw3⟩ : ∃ x, x = (((w.alloc (.cells #[.slice A1 n1 c1, .slice A2 n2 c2, .int .i64 d.left, .bool bm, .bool false] 28)).alloc (.cells #[.int .u8 ((q : Int) % 6), .int .i64 a.area, .slice Ab a.b.length cb, .int .i64 a.n, .int .i64 a.m] 32)).alloc (.cells #[.slice none 0 0, .slice none 0 0, .int .i64 0, .bool false, .bool false] 28)) := ⟨_, rfl⟩
  rw [← hw3] at HBX HBA HBZ HW3 HSZ ⊢
  clear hw3
  have y1 : w3.cell? ⟨w.heap.size, 1, none⟩ = some (.slice A2 n2 c2) := HBX.out.get 1 rfl
  have e0 : w3.cell? ⟨w.heap.size + 1, 0, none⟩ = some (.int .u8 ((q : Int) % 6)) := HBA.out.get 0 rfl
  have e1 : w3.cell? ⟨w.heap.size + 1, 1, none⟩ = some (.int .i64 a.area) := HBA.out.get 1 rfl
  have e2 : w3.cell? ⟨w.heap.size + 1, 2, none⟩ = some (.slice Ab a.b.length cb) := HBA.out.get 2 rfl
  have e3 : w3.cell? ⟨w.heap.size + 1, 3, none⟩ = some (.int .i64 a.n) := HBA.out.get 3 rfl
  have e4 : w3.cell? ⟨w.heap.size + 1, 4, none⟩ = some (.int .i64 a.m) := HBA.out.get 4 rfl
  have aE : Below w3.heap.size w3 (w3.alloc (.cells #[] 32)) := bal _ _
  have aC : Below w3.heap.size w3 (w3.alloc (.cells #[.int .u8 ((q : Int) % 6), .int .i64 a.area, .slice Ab a.b.length cb, .int .i64 a.n, .int .i64 a.m] 32)) := bal _ _
  have aEC : Below w3.heap.size w3 ((w3.alloc (.cells #[] 32)).alloc (.cells #[.int .u8 ((q : Int) % 6), .int .i64 a.area, .slice Ab a.b.length cb, .int .i64 a.n, .int .i64 a.m] 32)) := bt aE (bal _ _)
  have aCE : Below w3.heap.size w3 ((w3.alloc (.cells #[.int .u8 ((q : Int) % 6), .int .i64 a.area, .slice Ab a.b.length cb, .int .i64 a.n, .int .i64 a.m] 32)).alloc (.cells #[] 32)) := bt aC (bal _ _)
  have y1E : (w3.alloc (.cells #[] 32)).cell? ⟨w.heap.size, 1, none⟩ = some (.slice A2 n2 c2) := (HBX.out.on aE).get 1 rfl
  have y1C : (w3.alloc (.cells #[.int .u8 ((q : Int) % 6), .int .i64 a.area, .slice Ab a.b.length cb, .int .i64 a.n, .int .i64 a.m] 32)).cell? ⟨w.heap.size, 1, none⟩ = some (.slice A2 n2 c2) := (HBX.out.on aC).get 1 rfl
  have y1EC : ((w3.alloc (.cells #[] 32)).alloc (.cells #[.int .u8 ((q : Int) % 6), .int .i64 a.area, .slice Ab a.b.length cb, .int .i64 a.n, .int .i64 a.m] 32)).cell? ⟨w.heap.size, 1, none⟩ = some (.slice A2 n2 c2) := (HBX.out.on aEC).get 1 rfl
  have y1CE : ((w3.alloc (.cells #[.int .u8 ((q : Int) % 6), .int .i64 a.area, .slice Ab a.b.length cb, .int .i64 a.n, .int .i64 a.m] 32)).alloc (.cells #[] 32)).cell? ⟨w.heap.size, 1, none⟩ = some (.slice A2 n2 c2) := (HBX.out.on aCE).get 1 rfl
  have e0E := (HBA.out.on aE).get 0 rfl
  have e1E := (HBA.out.on aE).get 1 rfl
  have e2E := (HBA.out.on aE).get 2 rfl
  have e3E := (HBA.out.on aE).get 3 rfl
  have e4E := (HBA.out.on aE).get 4 rfl
  have bA : Below w3.heap.size w3 ((w3.alloc (.cells #[] 32)).alloc (.cells #[.int .u8 ((q : Int) % 6), .int .i64 a.area, .slice Ab a.b.length cb, .int .i64 a.n, .int .i64 a.m] 32)).drew := aEC.drew
  have hBA : w3.heap.size ≤ ((w3.alloc (.cells #[] 32)).alloc (.cells #[.int .u8 ((q : Int) % 6), .int .i64 a.area, .slice Ab a.b.length cb, .int .i64 a.n, .int .i64 a.m] 32)).drew.heap.size := bA.size
  have R0A : RoomN ((w3.alloc (.cells #[] 32)).alloc (.cells #[.int .u8 ((q : Int) % 6), .int .i64 a.area, .slice Ab a.b.length cb, .int .i64 a.n, .int .i64 a.m] 32)).drew w3.heap.size (.slice (some ⟨w3.heap.size, 0, none⟩) 0 0) 5 0 [] := room_at (by omega) (by show _ < ((w3.alloc (.cells #[] 32)).alloc (.cells #[.int .u8 ((q : Int) % 6), .int .i64 a.area, .slice Ab a.b.length cb, .int .i64 a.n, .int .i64 a.m] 32)).heap.size; simp only [World.size_alloc]; omega)
  have hsrcA := HSR.out _ (HW3.out.trans (bA.mono HW3.out.size))
  have bB : Below w3.heap.size w3 ((w3.alloc (.cells #[.int .u8 ((q : Int) % 6), .int .i64 a.area, .slice Ab a.b.length cb, .int .i64 a.n, .int .i64 a.m] 32)).alloc (.cells #[] 32)).drew := aCE.drew
  have hBB : w3.heap.size ≤ ((w3.alloc (.cells #[.int .u8 ((q : Int) % 6), .int .i64 a.area, .slice Ab a.b.length cb, .int .i64 a.n, .int .i64 a.m] 32)).alloc (.cells #[] 32)).drew.heap.size := bB.size
  have R0B : RoomN ((w3.alloc (.cells #[.int .u8 ((q : Int) % 6), .int .i64 a.area, .slice Ab a.b.length cb, .int .i64 a.n, .int .i64 a.m] 32)).alloc (.cells #[] 32)).drew w3.heap.size (.slice (some ⟨(w3.heap.size + 1), 0, none⟩) 0 0) 5 0 [] := room_at (by omega) (by show _ < ((w3.alloc (.cells #[.int .u8 ((q : Int) % 6), .int .i64 a.area, .slice Ab a.b.length cb, .int .i64 a.n, .int .i64 a.m] 32)).alloc (.cells #[] 32)).heap.size; simp only [World.size_alloc]; omega)
  have hsrcB := HSR.out _ (HW3.out.trans (bB.mono HW3.out.size))
  have bC : Below w3.heap.size w3 (w3.alloc (.cells #[] 32)).drew := aE.drew
  have hBC : w3.heap.size ≤ (w3.alloc (.cells #[] 32)).drew.heap.size := bC.size
  have R0C : RoomN (w3.alloc (.cells #[] 32)).drew w3.heap.size (.slice (some ⟨w3.heap.size, 0, none⟩) 0 0) 5 0 [] := room_at (by omega) (by show _ < (w3.alloc (.cells #[] 32)).heap.size; simp only [World.size_alloc]; omega)
  have hsrcC := HSR.out _ (HW3.out.trans (bC.mono HW3.out.size))
  have bxA : Box (w3.heap.size + 1) [.int .u8 ((q : Int) % 6), .int .i64 a.area, .slice Ab a.b.length cb, .int .i64 a.n, .int .i64 a.m] ((w3.alloc (.cells #[] 32)).alloc (.cells #[.int .u8 ((q : Int) % 6), .int .i64 a.area, .slice Ab a.b.length cb, .int .i64 a.n, .int .i64 a.m] 32)).drew := by
    have h := box_made (w3.alloc (.cells #[] 32)) [.int .u8 ((q : Int) % 6), .int .i64 a.area, .slice Ab a.b.length cb, .int .i64 a.n, .int .i64 a.m] 32
    rw [show (w3.alloc (.cells #[] 32)).heap.size = w3.heap.size + 1 by simp] at h
    exact h.on (Below.refl _ _).drew
  have bxB : Box w3.heap.size [.int .u8 ((q : Int) % 6), .int .i64 a.area, .slice Ab a.b.length cb, .int .i64 a.n, .int .i64 a.m] ((w3.alloc (.cells #[.int .u8 ((q : Int) % 6), .int .i64 a.area, .slice Ab a.b.length cb, .int .i64 a.n, .int .i64 a.m] 32)).alloc (.cells #[] 32)).drew := ((box_made w3 [.int .u8 ((q : Int) % 6), .int .i64 a.area, .slice Ab a.b.length cb, .int .i64 a.n, .int .i64 a.m] 32).on (bal _ _)).on (Below.refl _ _).drew
  go_cut [] from 8 to 75 (fun wx => ∃ V, BoxF w.heap.size [.slice A1 n1 c1, V, .int .i64 d.left, .bool bm, .bool false] wx ∧ BoxF (w.heap.size + 1 + 1) [.slice none 0 0, .slice none 0 0, .int .i64 0, .bool false, .bool false] wx ∧ RoomN wx w3.heap.size V 5 (d.loose.length + 1) (ss.flatten ++ [.int .u8 ((q : Int) % 6), .int .i64 a.area, .slice Ab a.b.length cb, .int .i64 a.n, .int .i64 a.m]) ∧ Below w.heap.size w wx)
  case first =>
    first | (go_region_law (first
    | (refine step_appendN (B := w3.heap.size) (n := 5) (k := 0) (m := d.loose.length) (cs := []) (ys := ss.flatten) (by rfl) (.tmp 68) (.tmp 70) 22 22 (by rfl) 32 j _ 56 Try.underlying22 hj hz0 hz1 rfl hz2 R0A hBA hsrcA HC1.out q1 q2 (by rfl) (by rfl) ?_; intro v5 w5 h5 hb5 hk5 ho5; rw [Nat.zero_add, List.nil_append] at h5; obtain ⟨A5, z5, hv5, _⟩ := h5.slice; subst hv5; have S5 := srcN_at (P := Try.prog) rfl HONE.out (bxA.kept (hk5 _ bxA.1 (by show some w3.heap.size ≠ some (w3.heap.size + 1); simp)) hb5.size) Try.underlying22; have b5 := bA.trans (hb5.mono (Nat.le_refl _)); have hB5 := b5.size; have x15 := (HBX.out.on b5).get 1 rfl; have f15 := (HBX.out.on b5).free 1 (by simp))
    | (refine step_appendN (B := w3.heap.size) (n := 5) (k := 0) (m := d.loose.length) (cs := []) (ys := ss.flatten) (by rfl) (.tmp 68) (.tmp 70) 22 22 (by rfl) 32 j _ 56 Try.underlying22 hj hz0 hz1 rfl hz2 R0B hBB hsrcB HC1.out q1 q2 (by rfl) (by rfl) ?_; intro v5 w5 h5 hb5 hk5 ho5; rw [Nat.zero_add, List.nil_append] at h5; obtain ⟨A5, z5, hv5, _⟩ := h5.slice; subst hv5; have S5 := srcN_at (P := Try.prog) rfl HONE.out (bxB.kept (hk5 _ bxB.1 (by show some (w3.heap.size + 1) ≠ some w3.heap.size; simp)) hb5.size) Try.underlying22; have b5 := bB.trans (hb5.mono (Nat.le_refl _)); have hB5 := b5.size; have x15 := (HBX.out.on b5).get 1 rfl; have f15 := (HBX.out.on b5).free 1 (by simp))
    | (refine step_appendN (B := w3.heap.size) (n := 5) (k := 0) (m := d.loose.length) (cs := []) (ys := ss.flatten) (by rfl) (.tmp 68) (.tmp 70) 22 22 (by rfl) 32 j _ 56 Try.underlying22 hj hz0 hz1 rfl hz2 R0C hBC hsrcC HC1.out q1 q2 (by rfl) (by rfl) ?_; intro v5 w5 h5 hb5 hk5 ho5; rw [Nat.zero_add, List.nil_append] at h5; obtain ⟨A5, z5, hv5, _⟩ := h5.slice; subst hv5; have b5 := bC.trans (hb5.mono (Nat.le_refl _)); have hA5 := HBA.out.on b5; have e05 := hA5.get 0 rfl; have e15 := hA5.get 1 rfl; have e25 := hA5.get 2 rfl; have e35 := hA5.get 3 rfl; have e45 := hA5.get 4 rfl; have a5 := bal w5 (.cells #[.int .u8 ((q : Int) % 6), .int .i64 a.area, .slice Ab a.b.length cb, .int .i64 a.n, .int .i64 a.m] 32); have b5C := b5.trans (a5.mono b5.size); have S5C := srcN_at (P := Try.prog) rfl HONE.out (box_made w5 [.int .u8 ((q : Int) % 6), .int .i64 a.area, .slice Ab a.b.length cb, .int .i64 a.n, .int .i64 a.m] 32) Try.underlying22; have h5C := h5.on a5; have hB5C := b5C.size)
    | (refine step_appendN (B := w3.heap.size) (n := 5) (k := d.loose.length) (m := 1) (cs := ss.flatten) (ys := [.int .u8 ((q : Int) % 6), .int .i64 a.area, .slice Ab a.b.length cb, .int .i64 a.n, .int .i64 a.m]) (by rfl) (.tmp 71) (.tmp 73) 22 22 (by rfl) 32 j _ 56 Try.underlying22 hj hz0 hz1 rfl hz2 h5 hB5 S5 rfl q3 q4 (by rfl) (by rfl) ?_; intro v6 w6 h6 hb6 hk6 ho6; have hb36 : Below w3.heap.size w3 w6 := b5.trans hb6; have HBX6 := Lib.hid (HBX.out.on hb36); have HBZ6 := Lib.hid (HBZ.out.on hb36); have HB36 := Lib.hid hb36; have x0 := HBX6.out.get 0 rfl; have x1 := HBX6.out.get 1 rfl; have x2 := HBX6.out.get 2 rfl; have x3 := HBX6.out.get 3 rfl; have x4 := HBX6.out.get 4 rfl; have f1 := HBX6.out.free 1 (by simp); have f2 := HBX6.out.free 2 (by simp); have f4 := HBX6.out.free 4 (by simp); have u0 := HBZ6.out.2 0 (by simp); have u1 := HBZ6.out.2 1 (by simp); have u2 := HBZ6.out.2 2 (by simp); have u3 := HBZ6.out.2 3 (by simp); have u4 := HBZ6.out.2 4 (by simp); obtain ⟨A6, c6, hv6, _⟩ := h6.slice; subst hv6; have H6 := Lib.hid h6; clear hb36)
    | (refine step_appendN (B := w3.heap.size) (n := 5) (k := d.loose.length) (m := 1) (cs := ss.flatten) (ys := [.int .u8 ((q : Int) % 6), .int .i64 a.area, .slice Ab a.b.length cb, .int .i64 a.n, .int .i64 a.m]) (by rfl) (.tmp 71) (.tmp 73) 22 22 (by rfl) 32 j _ 56 Try.underlying22 hj hz0 hz1 rfl hz2 h5C hB5C S5C rfl q3 q4 (by rfl) (by rfl) ?_; intro v6 w6 h6 hb6 hk6 ho6; have hb36 : Below w3.heap.size w3 w6 := b5C.trans hb6; have HBX6 := Lib.hid (HBX.out.on hb36); have HBZ6 := Lib.hid (HBZ.out.on hb36); have HB36 := Lib.hid hb36; have x0 := HBX6.out.get 0 rfl; have x1 := HBX6.out.get 1 rfl; have x2 := HBX6.out.get 2 rfl; have x3 := HBX6.out.get 3 rfl; have x4 := HBX6.out.get 4 rfl; have f1 := HBX6.out.free 1 (by simp); have f2 := HBX6.out.free 2 (by simp); have f4 := HBX6.out.free 4 (by simp); have u0 := HBZ6.out.2 0 (by simp); have u1 := HBZ6.out.2 1 (by simp); have u2 := HBZ6.out.2 2 (by simp); have u3 := HBZ6.out.2 3 (by simp); have u4 := HBZ6.out.2 4 (by simp); obtain ⟨A6, c6, hv6, _⟩ := h6.slice; subst hv6; have H6 := Lib.hid h6; clear hb36))) | fail
    all_goals (go_wp2_with fail; go_meet; exact ⟨_, (HBX6.out.set 1 (by simp) _ : _), HBZ6.out.other (o := 1) _ (by omega), H6.out.kept (fun g hg => Below.heap_setCell _ ⟨w.heap.size, 1, none⟩ _ g (show g ≠ w.heap.size by have := H6.out.own_ge g hg; have := HSZ.out; omega)) (by simp [World.setCell]), (HW3.out.trans (HB36.out.mono HW3.out.size)).trans (below_set (Below.refl _ _) w.heap.size 1 _ (Nat.le_refl _))⟩)
  case rest =>
    obtain ⟨V, hbx, hbz, hrm, hbw⟩ := hcut
    have HBX6 := Lib.hid hbx
    have HBZ6 := Lib.hid hbz
    have HRM := Lib.hid hrm
    have HBW := Lib.hid hbw
    obtain ⟨A6, c6, hv6, _⟩ := hrm.slice
    subst hv6
    have x0 := hbx.get 0 rfl
    have x1 := hbx.get 1 rfl
    have x2 := hbx.get 2 rfl
    have x3 := hbx.get 3 rfl
    have x4 := hbx.get 4 rfl
    have f2 := hbx.free 2 (by simp)
    have f4 := hbx.free 4 (by simp)
    have u0 := hbz.2 0 (by simp)
    have u1 := hbz.2 1 (by simp)
    have u2 := hbz.2 2 (by simp)
    have u3 := hbz.2 3 (by simp)
    have u4 := hbz.2 4 (by simp)
    have hcs : ({ a with kind := k8 } : Actd).cells (.slice Ab a.b.length cb) = [.int .u8 ((q : Int) % 6), .int .i64 a.area, .slice Ab a.b.length cb, .int .i64 a.n, .int .i64 a.m] := by
      show [_, _, _, _, _] = [_, _, _, _, _]
      rw [HKK.out]
    have HCA : Hid (Cells wc B0 (d.loose ++ [{ a with kind := k8 }]) (ss ++ [({ a with kind := k8 } : Actd).cells (.slice Ab a.b.length cb)])) := (HCL.out _ hbw).append (Cells.one (HSB.out.below (hbw.mono HB.out)))
    have HR7 : Hid (RoomN wc w3.heap.size (.slice A6 (d.loose.length + 1) c6) 5 (d.loose ++ [{ a with kind := k8 }]).length (ss ++ [({ a with kind := k8 } : Actd).cells (.slice Ab a.b.length cb)]).flatten) := by
      show RoomN _ _ _ _ _ _
      rw [List.length_append, List.flatten_append, hcs]
      simpa using hrm
    clear hbx hbz hrm hbw hcs
    cases bm with
    | false =>
      have HT : Dskd.tick ⟨d.safe, d.loose ++ [{ a with kind := k8 }], d.left, false, false⟩ = ⟨d.safe, d.loose ++ [{ a with kind := k8 }], d.left, false, false⟩ := by
        rfl
      have HTT := Lib.hid HT
      clear HT
      go_wp2
      have hbS : Below w.heap.size wc wc := Below.refl w.heap.size wc
      have hzS : BoxF (w.heap.size + 1 + 1) [.slice none 0 0, .slice none 0 0, .int .i64 0, .bool false, .bool false] wc := HBZ6.out
      have hoS : ∀ g, w3.heap.size ≤ g → wc.heap[g]? = wc.heap[g]? := fun g hg => by
        have hsz := HSZ.out
        exact rfl
      have hfin := hbS.trans (put5_below _ (show w.heap.size ≤ w.heap.size + 1 + 1 by omega) (.slice A1 n1 c1) (.slice A6 (d.loose.length + 1) c6) (.int .i64 d.left) (.bool false) (.bool false))
      refine bodyPost_ret (results_cell2 (p := 4) (u := 5) rfl rfl (load_dsk rfl (put5_box hzS (.slice A1 n1 c1) (.slice A6 (d.loose.length + 1) c6) (.int .i64 d.left) (.bool false) (.bool false)).box)) rfl ?_
      show Done7 B0 X w (Dskd.tick _) 0 _ _
      rw [HTT.out]
      refine ⟨_, _, rfl, ⟨HL.out.1.on HB.out (HBW.out.trans hfin), (actsIn_room (HCA.out.below (hfin.mono HB.out)) (B := w3.heap.size) ?_).imp (fun b h _ => .inr (by have := HSZ.out; omega))⟩, HBW.out.trans hfin⟩
      exact HR7.out.kept (fun g hg => (put5_other _ _ _ _ _ _ _ g (by have := HR7.out.own_ge g hg; have := HSZ.out; omega)).trans (hoS g (HR7.out.own_ge g hg))) hfin.size
    | true =>
      by_cases hz : d.left - 1 = 0
      · skip
        have HT : Dskd.tick ⟨d.safe, d.loose ++ [{ a with kind := k8 }], d.left, true, false⟩ = ⟨d.safe, d.loose ++ [{ a with kind := k8 }], 0, true, true⟩ := by
          unfold Dskd.tick
          rw [if_pos rfl, if_pos hz, hz]
        have HTT := Lib.hid HT
        clear HT
        go_wp2
        have hbS : Below w.heap.size wc ((wc.setCell ⟨w.heap.size, 2, none⟩ (.int .i64 0)).setCell ⟨w.heap.size, 4, none⟩ (.bool true)) := below_set (below_set (Below.refl w.heap.size wc) w.heap.size 2 (.int .i64 0) (Nat.le_refl _)) w.heap.size 4 (.bool true) (Nat.le_refl _)
        have hzS : BoxF (w.heap.size + 1 + 1) [.slice none 0 0, .slice none 0 0, .int .i64 0, .bool false, .bool false] ((wc.setCell ⟨w.heap.size, 2, none⟩ (.int .i64 0)).setCell ⟨w.heap.size, 4, none⟩ (.bool true)) := ((HBZ6.out.other (o := 2) (.int .i64 0) (by omega)).other (o := 4) (.bool true) (by omega))
        have hoS : ∀ g, w3.heap.size ≤ g → ((wc.setCell ⟨w.heap.size, 2, none⟩ (.int .i64 0)).setCell ⟨w.heap.size, 4, none⟩ (.bool true)).heap[g]? = wc.heap[g]? := fun g hg => by
          have hsz := HSZ.out
          exact (Below.heap_setCell _ ⟨w.heap.size, 4, none⟩ _ g (show g ≠ w.heap.size by omega)).trans (Below.heap_setCell _ ⟨w.heap.size, 2, none⟩ _ g (show g ≠ w.heap.size by omega))
        have hfin := hbS.trans (put5_below _ (show w.heap.size ≤ w.heap.size + 1 + 1 by omega) (.slice A1 n1 c1) (.slice A6 (d.loose.length + 1) c6) (.int .i64 0) (.bool true) (.bool true))
        refine bodyPost_ret (results_cell2 (p := 4) (u := 5) rfl rfl (load_dsk rfl (put5_box hzS (.slice A1 n1 c1) (.slice A6 (d.loose.length + 1) c6) (.int .i64 0) (.bool true) (.bool true)).box)) rfl ?_
        show Done7 B0 X w (Dskd.tick _) 0 _ _
        rw [HTT.out]
        refine ⟨_, _, rfl, ⟨HL.out.1.on HB.out (HBW.out.trans hfin), (actsIn_room (HCA.out.below (hfin.mono HB.out)) (B := w3.heap.size) ?_).imp (fun b h _ => .inr (by have := HSZ.out; omega))⟩, HBW.out.trans hfin⟩
        exact HR7.out.kept (fun g hg => (put5_other _ _ _ _ _ _ _ g (by have := HR7.out.own_ge g hg; have := HSZ.out; omega)).trans (hoS g (HR7.out.own_ge g hg))) hfin.size
      · have hzb : (d.left - 1 == 0) = false := by rw [beq_eq_false_iff_ne]; exact hz
        have hlf2 := hlf rfl
        unfold I64 at hlf2
        have HT : Dskd.tick ⟨d.safe, d.loose ++ [{ a with kind := k8 }], d.left, true, false⟩ = ⟨d.safe, d.loose ++ [{ a with kind := k8 }], d.left - 1, true, false⟩ := by
          unfold Dskd.tick
          rw [if_pos rfl, if_neg hz]
        have HTT := Lib.hid HT
        clear HT
        go_wp2
        have hbS : Below w.heap.size wc (wc.setCell ⟨w.heap.size, 2, none⟩ (.int .i64 (d.left - 1))) := below_set (Below.refl w.heap.size wc) w.heap.size 2 (.int .i64 (d.left - 1)) (Nat.le_refl _)
        have hzS : BoxF (w.heap.size + 1 + 1) [.slice none 0 0, .slice none 0 0, .int .i64 0, .bool false, .bool false] (wc.setCell ⟨w.heap.size, 2, none⟩ (.int .i64 (d.left - 1))) := (HBZ6.out.other (o := 2) (.int .i64 (d.left - 1)) (by omega))
        have hoS : ∀ g, w3.heap.size ≤ g → (wc.setCell ⟨w.heap.size, 2, none⟩ (.int .i64 (d.left - 1))).heap[g]? = wc.heap[g]? := fun g hg => by
          have hsz := HSZ.out
          exact Below.heap_setCell _ ⟨w.heap.size, 2, none⟩ _ g (show g ≠ w.heap.size by omega)
        have hfin := hbS.trans (put5_below _ (show w.heap.size ≤ w.heap.size + 1 + 1 by omega) (.slice A1 n1 c1) (.slice A6 (d.loose.length + 1) c6) (.int .i64 (d.left - 1)) (.bool true) (.bool false))
        refine bodyPost_ret (results_cell2 (p := 4) (u := 5) rfl rfl (load_dsk rfl (put5_box hzS (.slice A1 n1 c1) (.slice A6 (d.loose.length + 1) c6) (.int .i64 (d.left - 1)) (.bool true) (.bool false)).box)) rfl ?_
        show Done7 B0 X w (Dskd.tick _) 0 _ _
        rw [HTT.out]
        refine ⟨_, _, rfl, ⟨HL.out.1.on HB.out (HBW.out.trans hfin), (actsIn_room (HCA.out.below (hfin.mono HB.out)) (B := w3.heap.size) ?_).imp (fun b h _ => .inr (by have := HSZ.out; omega))⟩, HBW.out.trans hfin⟩
        exact HR7.out.kept (fun g hg => (put5_other _ _ _ _ _ _ _ g (by have := HR7.out.own_ge g hg; have := HSZ.out; omega)).trans (hoS g (HR7.out.own_ge g hg))) hfin.size

end Go.Proofs.Ytcdobelhchlheaa
