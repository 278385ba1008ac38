/-
  The document's own reading of an area: the bytes of changes one behind the other.
-/
import Derived.Test.YtcdobelhchlheaaFb
namespace Go.Proofs.Ytcdobelhchlheaa
open Go.RowKit
attribute [local go_sem ↓] Go.wp_at_zero Go.wp_at_succ

theorem act_info : (Try.prog.info? 32).map (fun i => (i.zero, i.size, i.bytes)) = some (some (.agg #[.int .u8 0, .int .i64 0, .slice none 0 0, .int .i64 0, .int .i64 0]), 5, 56) := by kernel_rfl
theorem stepA_2 {area : Int} {x : List UInt8 × Int} {a : Actd} (h : a.kind.toNat = 2) : stepA area x a = (x.1, a.area) := by unfold stepA; rw [if_pos h]
theorem stepA_1 {area : Int} {x : List UInt8 × Int} {a : Actd} (h : ¬ a.kind.toNat = 2) (h1 : a.area = area) (h2 : a.kind.toNat = 1) : stepA area x a = ([], x.2) := by unfold stepA; rw [if_neg h, if_pos ⟨h1, h2⟩]
theorem stepA_0 {area : Int} {x : List UInt8 × Int} {a : Actd} (h : ¬ a.kind.toNat = 2) (h1 : a.area = area) (h2 : ¬ a.kind.toNat = 1) : stepA area x a = (x.1 ++ a.b, x.2) := by unfold stepA; rw [if_neg h, if_neg (fun q => h2 q.2), if_pos h1]
theorem stepA_no {area : Int} {x : List UInt8 × Int} {a : Actd} (h : ¬ a.kind.toNat = 2) (h1 : ¬ a.area = area) : stepA area x a = x := by unfold stepA; rw [if_neg h, if_neg (fun q => h1 q.1), if_neg h1]

theorem below_kept {B B' : Nat} {w w' : World} {v : Value} (hb : Below B w w') (hk : ∀ k, k < w.heap.size → v.ownBlock ≠ some k → w'.heap[k]? = w.heap[k]?) (hv : ∀ g, v.ownBlock = some g → B' ≤ g) (hB : B' ≤ w.heap.size) : Below B' w w' :=
  ⟨hb.1, hb.2, hb.3, hb.size, fun k hk' => hk k (by omega) (fun e => by have := hv k e; omega)⟩
/-- where the reading stands -/
def Along7 (w : World) (area : Int) (l : List Actd) (k : Nat) (o f : Value) (wr : World) : Prop := ∃ x : List UInt8 × Int, x = bytesA area (l.take k) ∧ Room wr w.heap.size o x.1 ∧ f = .int .i64 x.2 ∧ Below w.heap.size w wr

set_option maxRecDepth 100000 in
set_option maxHeartbeats 2000000 in
theorem bytes_at (d : Dskd) (sv lv : Value) (area : Int) (l : List Actd) (w : World) (hll : l = d.safe ++ d.loose) (hl : d.lies w w.heap.size sv lv) (hr : ∀ a ∈ l, a.right) (hn : l.length ≤ 100000) :
    Calls Try.prog 28 #[.agg #[sv, lv, .int .i64 d.left, .bool d.armed, .bool d.down], .int .i64 area] w fun e w' => ∃ v, e = .returned (.tuple #[v, .int .i64 (bytesA area l).2]) ∧ Seen w' w'.heap.size v (bytesA area l).1 ∧ Below w.heap.size w w' := by
  obtain ⟨j, hj, hz0, hz1, hz2⟩ := info_parts act_info
  obtain ⟨i0, hi0, hy0, hy1, hy2⟩ := info_parts byte_info
  have hlen := hn
  rw [hll, List.length_append] at hlen
  have HLL := Lib.hid hll
  clear hll
  have hbox := box_made w [sv, lv, .int .i64 d.left, .bool d.armed, .bool d.down] 28
  have hbb := bal w (.cells #[sv, lv, .int .i64 d.left, .bool d.armed, .bool d.down] 28)
  obtain ⟨w1, hw1⟩ : ∃ x, x = w.alloc (.cells #[sv, lv, .int .i64 d.left, .bool d.armed, .bool d.down] 28) := ⟨_, rfl⟩
  have HX : Hid (∀ W, Below w1.heap.size w1 W → W.cell? ⟨w.heap.size, 0, none⟩ = some sv ∧ W.cell? ⟨w.heap.size, 1, none⟩ = some lv) := fun W hb => by
    have := (by rw [hw1]; exact hbox : Box w.heap.size [sv, lv, .int .i64 d.left, .bool d.armed, .bool d.down] w1).on hb
    exact ⟨this.get 0 rfl, this.get 1 rfl⟩
  have hs1 : w1.heap.size = w.heap.size + 1 := by rw [hw1]; simp
  obtain ⟨c1, C1s, R1s⟩ := hl.1.src (P := Try.prog) Try.underlying22
  obtain ⟨c2, C2s, R2s⟩ := hl.2.src (P := Try.prog) Try.underlying22
  have HL := Lib.hid hl
  have hb1 : Below w.heap.size w w1 := by rw [hw1]; exact hbb
  have hd1 : Below w1.heap.size w1 (w1.alloc (.cells #[] 32)).drew := (bal w1 _).drew
  have hd0 : Below w1.heap.size w1 w1.drew := (Below.refl _ _).drew
  have C0 := HX.out w1 (Below.refl _ _)
  have CD := HX.out _ hd0
  have CN := HX.out _ hd1
  have hbn : Below w.heap.size w (w1.alloc (.cells #[] 32)).drew := bt hb1 hd1
  have S1 : ∃ css, Cells (w1.alloc (.cells #[] 32)).drew w.heap.size d.safe css ∧ Src Try.prog 5 22 sv d.safe.length css.flatten (w1.alloc (.cells #[] 32)).drew := (hl.1.below hbn).src Try.underlying22
  obtain ⟨css, hc1, hsrc1⟩ := S1
  have R0 : RoomN (w1.alloc (.cells #[] 32)).drew w.heap.size (.slice (some ⟨w1.heap.size, 0, none⟩) 0 0) 5 0 [] := (RoomN.empty (w := w1.alloc (.cells #[] 32)) (by omega) (by simp)).on (Below.refl _ _).drew
  have q1 : 0 + d.safe.length ≤ 1000000 := by omega
  have q2 : (0 + d.safe.length) * 56 ≤ 140737488355328 := by omega
  have q3 : d.safe.length + d.loose.length ≤ 1000000 := by omega
  have q4 : (d.safe.length + d.loose.length) * 56 ≤ 140737488355328 := by omega
  have hB1 : w.heap.size ≤ (w1.alloc (.cells #[] 32)).drew.heap.size := hbn.size
  have HL2 : Hid (∀ W, Below w.heap.size w W → ∃ css, Cells W w.heap.size d.loose css ∧ Src Try.prog 5 22 lv d.loose.length css.flatten W) := fun W hb => (hl.2.below hb).src Try.underlying22
  have HW := Lib.hid hw1
  clear c1 C1s R1s c2 C2s R2s hw1 hs1
  go_enter Try.func28, Try.ntmps28
  go_wp2
  rw [← HW.out]
  first | (go_region_held3 (fun W => W.cell? ⟨w.heap.size, 0, none⟩ = some sv ∧ W.cell? ⟨w.heap.size, 1, none⟩ = some lv) (first | exact C4 | exact C3 | exact CN | exact CD | exact C0) (first
    | ((refine step_appendN (B := w.heap.size) (n := 5) (k := 0) (m := d.safe.length) (cs := []) (ys := css.flatten) (by rfl) (.tmp 10) (.tmp 12) 22 22 (by rfl) 32 j _ 56 Try.underlying22 hj hz0 hz1 rfl hz2 R0 hB1 hsrc1 hc1.flat q1 q2 (by rfl) (by rfl) ?_; intro v3 w3 h3 hb3 hk3 ho3; rw [Nat.zero_add, List.nil_append] at h3; have e3 : Below w1.heap.size w1 w3 := hd1.trans (below_kept hb3 hk3 (fun g hg => Nat.le_of_eq (Option.some.inj hg)) hd1.size); have o3 : ∀ g, v3.ownBlock = some g → w1.heap.size ≤ g := (fun g hg => (ho3 g hg).elim (fun h => Nat.le_of_eq (Option.some.inj h)) (fun h => Nat.le_trans hd1.size h)); have C3 := HX.out _ e3; obtain ⟨ds3, hc3, hsrc3⟩ := HL2.out w3 (hbn.trans hb3); have hB3 := Nat.le_trans hB1 hb3.size))
    | ((refine step_appendN (B := w.heap.size) (n := 5) (k := d.safe.length) (m := d.loose.length) (cs := css.flatten) (ys := ds3.flatten) (by rfl) (.tmp 13) (.tmp 15) 22 22 (by rfl) 32 j _ 56 Try.underlying22 hj hz0 hz1 rfl hz2 h3 hB3 hsrc3 hc3.flat q3 q4 (by rfl) (by rfl) ?_; intro v4 w4 h4 hb4 hk4 ho4; have e4 : Below w1.heap.size w1 w4 := e3.trans (below_kept hb4 hk4 o3 e3.size); have C4 := HX.out _ e4)))) | fail
  have HB4 : Hid (Below w.heap.size w w4) := hb1.trans (e4.mono hb1.size)
  have HR : Hid (RoomA w4 w.heap.size v4 l) := by rw [HLL.out]; exact RoomA.put ((hc1.below hb3).below hb4) (hc3.below hb4) h4 (Below.refl _ _)
  have HA : Hid (ActsAt w4 w4.heap.size v4 l) := HR.out.acts HB4.out.size
  obtain ⟨A4, c4, csx, hv4, hlc, hcm, _⟩ := HA.out
  subst hv4
  have hlen2 := bytesA_len area l hr
  have hlk : ∀ k, (bytesA area (l.take k)).1.length ≤ 100000000000 := fun k => by
    have := bytesA_len area (l.take k) (fun a ha => hr a (List.mem_of_mem_take ha))
    have h2 : (l.take k).length ≤ l.length := by rw [List.length_take]; omega
    omega
  have HLK := Lib.hid hlk
  have HRI := Lib.hid hr
  clear hlk hlen2 hr C0 CD CN C3 C4 hc1 hc3 hsrc1 hsrc3 h3 h4 hb3 hb4 hk3 hk4 ho3 ho4 o3 R0 e3 e4 hd1 hd0 hbox hbb HX hlen hB3 hB1
  go_wp2
  go_loopw [6, 7, 9] (fun o f jv wr => ∃ k : Nat, k ≤ l.length ∧ jv = .int .i64 (k : Int) ∧ Along7 w4 area l k o f wr) (fun _ _ jv _ => l.length - (intOf jv).toNat)
  case atStart => exact ⟨0, Nat.zero_le _, rfl, ⟨([], 0), rfl, Room.nil, rfl, Below.refl _ _⟩⟩
  case round =>
    obtain ⟨k, hk, rfl, ⟨x, hx, hro, rfl, hb⟩⟩ := hrel
    by_cases hlt : k < l.length
    · obtain ⟨b, off, vb, rfl, hbw, hbB, hsb, c0, c1, c2, c3, c4⟩ := (HA.out.on hb).at_ k hlt
      have HSX : Hid (bytesA area (l.take (k + 1)) = stepA area x l[k]) := by
        show _ = _
        rw [List.take_succ_eq_append_getElem hlt, bytesA_snoc, ← hx]
      have hxl : x.1.length ≤ 100000000000 := by rw [hx]; exact HLK.out k
      have hal := (HRI.out _ (List.getElem_mem hlt)).2.2.2
      obtain ⟨a, ha⟩ : ∃ a, a = l[k] := ⟨_, rfl⟩
      rw [← ha] at HSX c0 c1 hsb hal
      have i0' : (0 : Int) ≤ (k : Int) := by omega
      have i1 : (k : Int) < (l.length : Int) := by omega
      have Bs := hb.size
      clear ha hx c3 c4 hbB
      by_cases h2 : a.kind.toNat = 2
      · have h2' : (a.kind.toNat : Int) = 2 := by omega
        have HT : Hid (bytesA area (l.take (k + 1)) = (x.1, a.area)) := by show _ = _; rw [HSX.out, stepA_2 h2]
        have HSB := Lib.hid hsb
        clear hsb
        go_wp2
        go_roundw
        case rel => exact ⟨k + 1, by omega, by go_num, ⟨_, HT.out.symm, hro, rfl, hb⟩⟩
        case measure => simp [intOf]; omega
      · have h2' : ¬ (a.kind.toNat : Int) = 2 := by omega
        have h2b : ((a.kind.toNat : Int) == 2) = false := by rw [beq_eq_false_iff_ne]; exact h2'
        by_cases h3 : a.area = area
        · by_cases h1 : a.kind.toNat = 1
          · have h1' : (a.kind.toNat : Int) = 1 := by omega
            have HT : Hid (bytesA area (l.take (k + 1)) = ([], x.2)) := by show _ = _; rw [HSX.out, stepA_1 h2 h3 h1]
            have HSB := Lib.hid hsb
            clear hsb
            go_wp2
            go_roundw
            case rel => exact ⟨k + 1, by omega, by go_num, ⟨_, HT.out.symm, Room.nil, rfl, hb⟩⟩
            case measure => simp [intOf]; omega
          · have h1' : ¬ (a.kind.toNat : Int) = 1 := by omega
            have h1b : ((a.kind.toNat : Int) == 1) = false := by rw [beq_eq_false_iff_ne]; exact h1'
            have HT : Hid (bytesA area (l.take (k + 1)) = (x.1 ++ a.b, x.2)) := by show _ = _; rw [HSX.out, stepA_0 h2 h3 h1]
            have P1 : x.1.length + a.b.length ≤ 1099511627776 := by omega
            obtain ⟨Ab, cb, rfl, hAb⟩ := hsb
            have S5 := hAb.src (P := Try.prog) Try.underlying30
            go_wp2_with (at_builtin; refine wpList_append8 (B := w4.heap.size) (l := x.1) (m := a.b) rfl (.tmp 56) (.tmp 61) 30 30 rfl 5 i0 Try.underlying30 hi0 hy0 hy1 hy2 hro Bs S5 P1 rfl rfl ?_; intro v5 w5 h5 hb5)
            go_roundw
            case rel => exact ⟨k + 1, by omega, by go_num, ⟨_, HT.out.symm, h5, rfl, hb.trans hb5⟩⟩
            case measure => simp [intOf]; omega
        · have h3b : (a.area == area) = false := by rw [beq_eq_false_iff_ne]; exact h3
          have HT : Hid (bytesA area (l.take (k + 1)) = x) := by show _ = _; rw [HSX.out, stepA_no h2 h3]
          have HSB := Lib.hid hsb
          clear hsb
          go_wp2
          go_roundw
          case rel => exact ⟨k + 1, by omega, by go_num, ⟨_, HT.out.symm, hro, rfl, hb⟩⟩
          case measure => simp [intOf]; omega
    · have hkl : l.take k = l := List.take_of_length_le (by omega)
      rw [hkl] at hx
      subst hx
      have HRO := Lib.hid hro.seen
      clear hkl hro
      go_wp2
      go_ret2
      exact ⟨_, rfl, HRO.out, bt HB4.out hb⟩

end Go.Proofs.Ytcdobelhchlheaa
