/-
  The document's own look at the program's disk (made by disk-shows-gen.py).
-/
import Derived.Test.YtcdobelhchlheaaSi
import Derived.Test.YtcdobelhchlheaaWr
import Derived.Test.YtcdobelhchlheaaIn
namespace Go.Proofs.Ytcdobelhchlheaa
open Go.RowKit
attribute [local go_sem ↓] Go.wp_at_zero Go.wp_at_succ

theorem Sim.front {s : Dsk} {d : Dskd} (h : Sim s d) (area : Int) (ha : area = 0 ∨ area = 1) : s.now.front = (bytesA area (d.safe ++ d.loose)).2 := by
  rw [h.now]
  rcases ha with rfl | rfl
  · rfl
  · exact (bytesA_front _).symm
theorem Sim.bytes {s : Dsk} {d : Dskd} (h : Sim s d) (area : Int) (ha : area = 0 ∨ area = 1) : s.now.get area = (bytesA area (d.safe ++ d.loose)).1 := by
  rw [h.now]
  rcases ha with rfl | rfl <;> rfl
theorem Sim.refuses {s : Dsk} {d : Dskd} (h : Sim s d) (area : Int) (ha : area = 0 ∨ area = 1) : s.refuses area = if d.down = true then 4 else 0 := by
  unfold Dsk.refuses
  rw [if_pos ha, h.down]
theorem Sim.reads {s : Dsk} {d : Dskd} (h : Sim s d) (area : Int) (ha : area = 0 ∨ area = 1) : s.reads area = if d.down = true then [] else (bytesA area (d.safe ++ d.loose)).1 := by
  unfold Dsk.reads
  rw [h.refuses area ha]
  by_cases hd : d.down = true
  · rw [if_pos hd, if_pos hd]; rfl
  · rw [if_neg hd, if_neg hd, if_pos rfl, h.bytes area ha]

set_option maxRecDepth 100000 in
set_option maxHeartbeats 4000000 in
theorem shows_any (d : Dskd) (s : Dsk) (hsim : Sim s d) (sv lv : Value) (w : World) (B g : Nat) (F : Nat → Prop) (h : Disk w B g s F) (hl : d.lies w w.heap.size sv lv) (hm : s.mass ≤ 900000) (hn : d.safe.length + d.loose.length ≤ 100000) :
    Calls Try.prog 13 #[.pointer (some ⟨g, 0, none⟩), .agg #[sv, lv, .int .i64 d.left, .bool d.armed, .bool d.down]] w fun e w' => e = .returned (.bool true) ∧ Below w.heap.size w w' := by
  have hb1 := bal w (.cells #[sv, lv, .int .i64 d.left, .bool d.armed, .bool d.down] 28)
  have hbx := box_made w [sv, lv, .int .i64 d.left, .bool d.armed, .bool d.down] 28
  have hd1 := h.on hb1
  have HSI := Lib.hid hsim
  have HLI := Lib.hid hl
  have hlen : s.loose.length = d.loose.length := by rw [hsim.loose, List.length_map]
  have RD : Hid (∀ W, Below (w.alloc (.cells #[sv, lv, .int .i64 d.left, .bool d.armed, .bool d.down] 28)).heap.size (w.alloc (.cells #[sv, lv, .int .i64 d.left, .bool d.armed, .bool d.down] 28)) W → Calls Try.prog 16 #[.pointer (some ⟨g, 0, none⟩)] W fun e w' => e = .returned (.bool d.down) ∧ W = w') := fun W hb => by
    have := down_disk W B g s F (hd1.on hb)
    rw [hsim.down] at this
    exact this
  have RL : Hid (∀ W, Below (w.alloc (.cells #[sv, lv, .int .i64 d.left, .bool d.armed, .bool d.down] 28)).heap.size (w.alloc (.cells #[sv, lv, .int .i64 d.left, .bool d.armed, .bool d.down] 28)) W → Calls Try.prog 23 #[.pointer (some ⟨g, 0, none⟩)] W fun e w' => e = .returned (.int .i64 (d.loose.length : Int)) ∧ W = w') := fun W hb => by
    have := loose_disk W B g s F (hd1.on hb)
    rw [hlen] at this
    exact this
  have HN : Hid (d.safe.length + d.loose.length ≤ 100000) := hn
  have HM : Hid (s.mass ≤ 900000) := hm
  obtain ⟨A1, z1, hv1⟩ : ∃ A c, sv = .slice A d.safe.length c := by obtain ⟨A, c, _, e, _⟩ := hl.1; exact ⟨_, _, e⟩
  obtain ⟨A2, z2, hv2⟩ : ∃ A c, lv = .slice A d.loose.length c := by obtain ⟨A, c, _, e, _⟩ := hl.2; exact ⟨_, _, e⟩
  subst hv1 hv2
  have CD : (w.alloc (.cells #[.slice A1 d.safe.length z1, .slice A2 d.loose.length z2, .int .i64 d.left, .bool d.armed, .bool d.down] 28)).drew.cell? ⟨w.heap.size, 4, none⟩ = some (.bool d.down) ∧ (w.alloc (.cells #[.slice A1 d.safe.length z1, .slice A2 d.loose.length z2, .int .i64 d.left, .bool d.armed, .bool d.down] 28)).drew.cell? ⟨w.heap.size, 1, none⟩ = some (.slice A2 d.loose.length z2) := ⟨hbx.get 4 rfl, hbx.get 1 rfl⟩
  have HB1 := Lib.hid hb1
  have HD1 := Lib.hid hd1
  have HBX := Lib.hid hbx
  have hbd := (Below.refl (w.alloc (.cells #[.slice A1 d.safe.length z1, .slice A2 d.loose.length z2, .int .i64 d.left, .bool d.armed, .bool d.down] 28)).heap.size (w.alloc (.cells #[.slice A1 d.safe.length z1, .slice A2 d.loose.length z2, .int .i64 d.left, .bool d.armed, .bool d.down] 28))).drew
  have HBD := Lib.hid hbd
  have HDW := Lib.hid (hd1.on hbd)
  have HXW := Lib.hid (hbx.on hbd)
  have HBW := Lib.hid (bt hb1 hbd)
  have HLW : Hid (d.lies ((w.alloc (.cells #[.slice A1 d.safe.length z1, .slice A2 d.loose.length z2, .int .i64 d.left, .bool d.armed, .bool d.down] 28)).drew) ((w.alloc (.cells #[.slice A1 d.safe.length z1, .slice A2 d.loose.length z2, .int .i64 d.left, .bool d.armed, .bool d.down] 28)).drew).heap.size (.slice A1 d.safe.length z1) (.slice A2 d.loose.length z2)) := ⟨hl.1.on (bt hb1 hbd), hl.2.on (bt hb1 hbd)⟩
  clear h hl hsim hm hn hb1 hd1 hbx hlen hbd
  go_enter Try.func13, Try.ntmps13
  go_wp2_with fail
  first | (go_region_held3 (fun W => W.cell? ⟨w.heap.size, 4, none⟩ = some (.bool d.down) ∧ W.cell? ⟨w.heap.size, 1, none⟩ = some (.slice A2 d.loose.length z2)) (first | exact CD) (first
    | (go_at_call 16; (with_reducible refine (RD.out _ HBD.out).mono ?_); rintro e w1 ⟨rfl, rfl⟩)
    | (go_at_call 23; (with_reducible refine (RL.out _ HBD.out).mono ?_); rintro e w1 ⟨rfl, rfl⟩))) | fail
  revert HDW HXW HBW HLW
  generalize (w.alloc (.cells #[.slice A1 d.safe.length z1, .slice A2 d.loose.length z2, .int .i64 d.left, .bool d.armed, .bool d.down] 28)).drew = w1
  intro HDW HXW HBW HLW
  have HRI : Hid (∀ a ∈ d.safe ++ d.loose, a.right) := fun a ha => by
    rcases List.mem_append.1 ha with q | q
    · exact (HSI.out.ok1 a q).2.2
    · exact (HSI.out.ok2 a q).2.2
  clear CD RD RL HB1 HD1 HBX HBD
  go_wp2
  go_loopw [5] (fun i wr => (i = .int .i64 0 ∨ i = .int .i64 1 ∨ i = .int .i64 2) ∧ Below w1.heap.size w1 wr) (fun i _ => 2 - (intOf i).toNat)
  case atStart => exact ⟨.inl rfl, Below.refl _ _⟩
  case round =>
    obtain ⟨hi, hb⟩ := hrel
    have hdr := HDW.out.on hb
    have hxr := HXW.out.on hb
    have hlr : d.lies wr wr.heap.size (.slice A1 d.safe.length z1) (.slice A2 d.loose.length z2) := ⟨HLW.out.1.on hb, HLW.out.2.on hb⟩
    rcases hi with rfl | rfl | rfl
    · have har : ((0 : Int) = 0 ∨ (0 : Int) = 1) := by decide
      have hrf := HSI.out.refuses 0 har
      have hrd := HSI.out.reads 0 har
      have hfr := HSI.out.front 0 har
      have hdn := HSI.out.down
      by_cases hdd : d.down = true
      · rw [if_pos hdd] at hrf hrd
        rw [hdd] at hdn
        have HDD := Lib.hid hdd
        clear hdd
        go_wp2_with fail
        go_at_call 17
        refine (read_is hdr HM.out hrd hrf).mono ?_
        rintro e w2 ⟨u, rfl, hu, _, b2⟩
        obtain ⟨Au, zu, hvu, _⟩ := hu.slice
        subst hvu
        have hd2 := hdr.on b2
        have hx2 := hxr.on b2
        have hl2 : d.lies w2 w2.heap.size (.slice A1 d.safe.length z1) (.slice A2 d.loose.length z2) := ⟨hlr.1.on b2, hlr.2.on b2⟩
        clear hu hdr hxr hlr
        go_wp2_with fail
        go_at_call 18
        refine (first_disk w2 _ _ _ _ hd2).mono ?_
        rintro e w3 ⟨rfl, rfl⟩
        rw [if_pos hdn]
        have x0 := hx2.get 0 rfl
        have x1 := hx2.get 1 rfl
        have x2 := hx2.get 2 rfl
        have x3 := hx2.get 3 rfl
        have x4 := hx2.get 4 rfl
        go_wp2_with fail
        go_at_call 28
        refine (bytes_at d _ _ 0 _ w2 rfl hl2 HRI.out (by rw [List.length_append]; exact HN.out)).mono ?_
        rintro e w4 ⟨v4, rfl, hs4, b4⟩
        have hx4 := hx2.on b4
        have y4 := hx4.get 4 rfl
        have hb4 := bt hb (bt b2 b4)
        have HHB := Lib.hid hb4
        clear hs4 hx2 hl2 hd2 b2 b4 hb hb4 hx4 x0 x1 x2 x3 x4
        rw [HDD.out] at y4
        go_wp2
        go_roundw
        case rel => exact ⟨.inr (.inl rfl), HHB.out⟩
        case measure => simp [intOf]
      · have hddf : d.down = false := by simpa using hdd
        rw [if_neg hdd] at hrf hrd
        rw [hddf] at hdn
        have HDD := Lib.hid hddf
        clear hdd hddf
        go_wp2_with fail
        go_at_call 17
        refine (read_is hdr HM.out hrd hrf).mono ?_
        rintro e w2 ⟨u, rfl, hu, _, b2⟩
        have hd2 := hdr.on b2
        have hx2 := hxr.on b2
        have hl2 : d.lies w2 w2.heap.size (.slice A1 d.safe.length z1) (.slice A2 d.loose.length z2) := ⟨hlr.1.on b2, hlr.2.on b2⟩
        have HU := Lib.hid hu
        obtain ⟨Au, zu, hvu, _⟩ := hu.slice
        generalize (bytesA 0 (d.safe ++ d.loose)).1.length = nu at hvu
        subst hvu
        clear hu hdr hxr hlr
        go_wp2_with fail
        go_at_call 18
        refine (first_is hd2 hdn hfr).mono ?_
        rintro e w3 ⟨rfl, rfl⟩
        have x0 := hx2.get 0 rfl
        have x1 := hx2.get 1 rfl
        have x2 := hx2.get 2 rfl
        have x3 := hx2.get 3 rfl
        have x4 := hx2.get 4 rfl
        go_wp2_with fail
        go_at_call 28
        refine (bytes_at d _ _ 0 _ w2 rfl hl2 HRI.out (by rw [List.length_append]; exact HN.out)).mono ?_
        rintro e w4 ⟨v4, rfl, hs4, b4⟩
        have hx4 := hx2.on b4
        have y4 := hx4.get 4 rfl
        have hb4 := bt hb (bt b2 b4)
        have hu4 := (HU.out.on b4).1.seen
        have HHB := Lib.hid hb4
        have HS := Lib.hid (same_yes w4 hu4 hs4)
        obtain ⟨Av, zv, hv4, _⟩ := hs4
        generalize (bytesA 0 (d.safe ++ d.loose)).1.length = nv at hv4
        subst hv4
        clear hx2 hl2 hd2 b2 b4 hb hb4 hx4 x0 x1 x2 x3 x4 hu4
        rw [HDD.out] at y4
        go_wp2_with fail
        go_at_call 21
        refine (HS.out).mono ?_
        rintro e w5 ⟨rfl, b5⟩
        have HB5 := Lib.hid (bt HHB.out b5)
        clear b5
        go_wp2
        go_roundw
        case rel => exact ⟨.inr (.inl rfl), HB5.out⟩
        case measure => simp [intOf]
    · have har : ((1 : Int) = 0 ∨ (1 : Int) = 1) := by decide
      have hrf := HSI.out.refuses 1 har
      have hrd := HSI.out.reads 1 har
      have hfr := HSI.out.front 1 har
      have hdn := HSI.out.down
      by_cases hdd : d.down = true
      · rw [if_pos hdd] at hrf hrd
        rw [hdd] at hdn
        have HDD := Lib.hid hdd
        clear hdd
        go_wp2_with fail
        go_at_call 17
        refine (read_is hdr HM.out hrd hrf).mono ?_
        rintro e w2 ⟨u, rfl, hu, _, b2⟩
        obtain ⟨Au, zu, hvu, _⟩ := hu.slice
        subst hvu
        have hd2 := hdr.on b2
        have hx2 := hxr.on b2
        have hl2 : d.lies w2 w2.heap.size (.slice A1 d.safe.length z1) (.slice A2 d.loose.length z2) := ⟨hlr.1.on b2, hlr.2.on b2⟩
        clear hu hdr hxr hlr
        go_wp2_with fail
        go_at_call 18
        refine (first_disk w2 _ _ _ _ hd2).mono ?_
        rintro e w3 ⟨rfl, rfl⟩
        rw [if_pos hdn]
        have x0 := hx2.get 0 rfl
        have x1 := hx2.get 1 rfl
        have x2 := hx2.get 2 rfl
        have x3 := hx2.get 3 rfl
        have x4 := hx2.get 4 rfl
        go_wp2_with fail
        go_at_call 28
        refine (bytes_at d _ _ 1 _ w2 rfl hl2 HRI.out (by rw [List.length_append]; exact HN.out)).mono ?_
        rintro e w4 ⟨v4, rfl, hs4, b4⟩
        have hx4 := hx2.on b4
        have y4 := hx4.get 4 rfl
        have hb4 := bt hb (bt b2 b4)
        have HHB := Lib.hid hb4
        clear hs4 hx2 hl2 hd2 b2 b4 hb hb4 hx4 x0 x1 x2 x3 x4
        rw [HDD.out] at y4
        go_wp2
        go_roundw
        case rel => exact ⟨.inr (.inr rfl), HHB.out⟩
        case measure => simp [intOf]
      · have hddf : d.down = false := by simpa using hdd
        rw [if_neg hdd] at hrf hrd
        rw [hddf] at hdn
        have HDD := Lib.hid hddf
        clear hdd hddf
        go_wp2_with fail
        go_at_call 17
        refine (read_is hdr HM.out hrd hrf).mono ?_
        rintro e w2 ⟨u, rfl, hu, _, b2⟩
        have hd2 := hdr.on b2
        have hx2 := hxr.on b2
        have hl2 : d.lies w2 w2.heap.size (.slice A1 d.safe.length z1) (.slice A2 d.loose.length z2) := ⟨hlr.1.on b2, hlr.2.on b2⟩
        have HU := Lib.hid hu
        obtain ⟨Au, zu, hvu, _⟩ := hu.slice
        generalize (bytesA 1 (d.safe ++ d.loose)).1.length = nu at hvu
        subst hvu
        clear hu hdr hxr hlr
        go_wp2_with fail
        go_at_call 18
        refine (first_is hd2 hdn hfr).mono ?_
        rintro e w3 ⟨rfl, rfl⟩
        have x0 := hx2.get 0 rfl
        have x1 := hx2.get 1 rfl
        have x2 := hx2.get 2 rfl
        have x3 := hx2.get 3 rfl
        have x4 := hx2.get 4 rfl
        go_wp2_with fail
        go_at_call 28
        refine (bytes_at d _ _ 1 _ w2 rfl hl2 HRI.out (by rw [List.length_append]; exact HN.out)).mono ?_
        rintro e w4 ⟨v4, rfl, hs4, b4⟩
        have hx4 := hx2.on b4
        have y4 := hx4.get 4 rfl
        have hb4 := bt hb (bt b2 b4)
        have hu4 := (HU.out.on b4).1.seen
        have HHB := Lib.hid hb4
        have HS := Lib.hid (same_yes w4 hu4 hs4)
        obtain ⟨Av, zv, hv4, _⟩ := hs4
        generalize (bytesA 1 (d.safe ++ d.loose)).1.length = nv at hv4
        subst hv4
        clear hx2 hl2 hd2 b2 b4 hb hb4 hx4 x0 x1 x2 x3 x4 hu4
        rw [HDD.out] at y4
        go_wp2_with fail
        go_at_call 21
        refine (HS.out).mono ?_
        rintro e w5 ⟨rfl, b5⟩
        have HB5 := Lib.hid (bt HHB.out b5)
        clear b5
        go_wp2
        go_roundw
        case rel => exact ⟨.inr (.inr rfl), HB5.out⟩
        case measure => simp [intOf]
    · go_wp2
      go_ret
      exact ⟨rfl, bt HBW.out hb⟩

end Go.Proofs.Ytcdobelhchlheaa
