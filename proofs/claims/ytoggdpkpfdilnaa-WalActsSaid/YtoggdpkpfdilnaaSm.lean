/-
  The program's small functions of disks: New, Down, Loose, First, within, copied, refuses, Read.
-/
import Derived.Test.YtoggdpkpfdilnaaDk
namespace Go.Proofs.Ytoggdpkpfdilnaa
open Go.RowKit
attribute [local go_sem ↓] Go.wp_at_zero Go.wp_at_succ

def Dsk.fresh : Dsk := ⟨⟨[], [], 0⟩, ⟨[], [], 0⟩, [], false, 0⟩
set_option maxRecDepth 100000 in
theorem new_any (w : World) (B : Nat) (hB : B ≤ w.heap.size) :
    Calls Try.prog 8 #[] w fun e w' => e = .returned (.pointer (some ⟨w.heap.size, 0, none⟩)) ∧ Disk w' B w.heap.size Dsk.fresh (· = w.heap.size) ∧ Below w.heap.size w w' := by
  have HX : Hid (DiskAt (w.alloc (.cells #[.slice none 0 0, .slice none 0 0, .int .i64 0, .slice none 0 0, .slice none 0 0, .int .i64 0, .slice none 0 0, .bool false, .int .i64 0] 58)) B w.heap.size Dsk.fresh (.slice none 0 0) (.slice none 0 0) (.slice none 0 0) (.slice none 0 0) (.slice none 0 0)) :=
    ⟨boxF_made w [.slice none 0 0, .slice none 0 0, .int .i64 0, .slice none 0 0, .slice none 0 0, .int .i64 0, .slice none 0 0, .bool false, .int .i64 0] _, hB, RoomO.nil, RoomO.nil, RoomO.nil, RoomO.nil, RoomN.nil, (fun c h => by cases h), ⟨Int.le_refl _, by decide⟩, Apart.fresh _⟩
  have hb := bal w (.cells #[.slice none 0 0, .slice none 0 0, .int .i64 0, .slice none 0 0, .slice none 0 0, .int .i64 0, .slice none 0 0, .bool false, .int .i64 0] 58)
  have HB0 := Lib.hid hB
  have HB := Lib.hid hb
  clear hb hB
  go_enter Try.func8, Try.ntmps8
  go_wp2
  go_ret
  refine ⟨rfl, ⟨_, _, _, _, _, HX.out, fun k hk => ?_, fun k hk => ?_, rfl⟩, HB.out⟩
  · simpa [owns, Value.ownBlock] using hk
  · subst hk
    exact ⟨HB0.out, by simp⟩

/-- the disk is down just if it is armed and nothing is left -/
theorem down_any (w : World) (B g : Nat) (s : Dsk) (p0 p1 q0 q1 lv : Value) (h : DiskAt w B g s p0 p1 q0 q1 lv) :
    Calls Try.prog 30 #[.pointer (some ⟨g, 0, none⟩)] w fun e w' => e = .returned (.bool s.down) ∧ w = w' := by
  have c7 := h.box.get 7 rfl
  have c8 := h.box.get 8 rfl
  obtain ⟨b, hb⟩ : ∃ b, b = s.armed := ⟨_, rfl⟩
  have HD : Hid (s.down = (b && decide (s.left = 0))) := by show _ = _; rw [hb]; rfl
  rw [← hb] at c7
  clear hb h
  cases b with
  | true =>
    by_cases hl : s.left = 0
    · have hl' : (s.left == 0) = true := by rw [hl]; rfl
      have HT : Hid (s.down = true) := by show _ = _; rw [HD.out, hl]; rfl
      clear hl
      go_enter Try.func30, Try.ntmps30
      go_wp2
      go_ret
      exact ⟨ret_bool HT.out.symm, rfl⟩
    · have hl' : (s.left == 0) = false := by rw [beq_eq_false_iff_ne]; exact hl
      have HT : Hid (s.down = false) := by show _ = _; rw [HD.out, decide_eq_false hl]; rfl
      go_enter Try.func30, Try.ntmps30
      go_wp2
      go_ret
      exact ⟨ret_bool HT.out.symm, rfl⟩
  | false =>
    have HT : Hid (s.down = false) := by show _ = _; rw [HD.out]; rfl
    go_enter Try.func30, Try.ntmps30
    go_wp2
    go_ret
    exact ⟨ret_bool HT.out.symm, rfl⟩

theorem loose_any (w : World) (B g : Nat) (s : Dsk) (p0 p1 q0 q1 lv : Value) (h : DiskAt w B g s p0 p1 q0 q1 lv) :
    Calls Try.prog 34 #[.pointer (some ⟨g, 0, none⟩)] w fun e w' => e = .returned (.int .i64 (s.loose.length : Int)) ∧ w = w' := by
  obtain ⟨A, c, rfl, _⟩ := h.lo.slice
  have c6 := h.box.get 6 rfl
  go_enter Try.func34, Try.ntmps34
  go_wp2
  go_ret
  exact ⟨rfl, rfl⟩

theorem dfirst_any (w : World) (B g : Nat) (s : Dsk) (p0 p1 q0 q1 lv : Value) (h : DiskAt w B g s p0 p1 q0 q1 lv) :
    Calls Try.prog 13 #[.pointer (some ⟨g, 0, none⟩)] w fun e w' => e = .returned (.tuple (if s.down = true then #[.int .i64 0, .int .i64 4] else #[.int .i64 s.now.front, .int .i64 0])) ∧ w = w' := by
  have c5 := h.box.get 5 rfl
  have RD := Lib.hid (down_any w B g s p0 p1 q0 q1 lv h)
  obtain ⟨b, hb⟩ : ∃ b, b = s.down := ⟨_, rfl⟩
  rw [← hb] at RD ⊢
  clear hb h
  cases b with
  | true =>
    go_enter Try.func13, Try.ntmps13
    go_wp2_with (go_at_call 30; (with_reducible refine (RD.out).mono ?_); rintro e w1 ⟨rfl, rfl⟩)
    go_ret2
    exact ⟨rfl, rfl⟩
  | false =>
    go_enter Try.func13, Try.ntmps13
    go_wp2_with (go_at_call 30; (with_reducible refine (RD.out).mono ?_); rintro e w1 ⟨rfl, rfl⟩)
    go_ret2
    exact ⟨rfl, rfl⟩

/-- n, or the nearer one of 0 and most -/
def within (n : Int) (most : Nat) : Nat := min n.toNat most
theorem within_any (w : World) (n : Int) (most : Nat) :
    Calls Try.prog 38 #[.int .i64 n, .int .i64 (most : Int)] w fun e w' => e = .returned (.int .i64 (within n most : Int)) ∧ w = w' := by
  by_cases h0 : n < 0
  · have HW : Hid (within n most = 0) := by show _ = _; unfold within; omega
    go_enter Try.func38, Try.ntmps38
    go_wp2
    go_ret
    exact ⟨ret_int (by rw [HW.out]; rfl), rfl⟩
  · by_cases h1 : n ≤ (most : Int)
    · have HW : Hid ((within n most : Int) = n) := by show _ = _; unfold within; omega
      go_enter Try.func38, Try.ntmps38
      go_wp2
      go_ret
      exact ⟨ret_int HW.out.symm, rfl⟩
    · have HW : Hid ((within n most : Int) = most) := by show _ = _; unfold within; omega
      go_enter Try.func38, Try.ntmps38
      go_wp2
      go_ret
      exact ⟨ret_int HW.out.symm, rfl⟩

set_option maxRecDepth 100000 in
/-- bytes in memory of their own -/
theorem copied_any (w : World) (B B0 : Nat) (v : Value) (l : List UInt8) (hB : B ≤ w.heap.size) (h : Seen w B0 v l) (hl : l.length ≤ 1099511627776) :
    Calls Try.prog 32 #[v] w fun e w' => ∃ u, e = .returned u ∧ RoomO w' B u l ∧ (∀ k, u.ownBlock = some k → w.heap.size ≤ k) ∧ Below w.heap.size w w' := by
  obtain ⟨i0, hi0, hy0, hy1, hy2⟩ := info_parts byte_info
  obtain ⟨A, c, rfl, hA⟩ := h
  have S := hA.src (P := Try.prog) Try.underlying28
  have R0 : Room w w.heap.size (.slice none 0 0) [] := Room.nil
  have HB := Lib.hid hB
  have hl' : ([] : List UInt8).length + l.length ≤ 1099511627776 := by simpa using hl
  clear hB hA hl
  go_enter Try.func32, Try.ntmps32
  go_wp2_with (at_builtin; refine wpList_append8s (B := w.heap.size) (l := []) (m := l) rfl (.const (.slice none 0 0)) (.tmp 3) 28 28 rfl 5 i0 Try.underlying28 hi0 hy0 hy1 hy2 R0 (Nat.le_refl _) S hl' rfl rfl ?_; intro v1 w1 hr1 hb1 ho1)
  go_ret
  have ho : ∀ k, v1.ownBlock = some k → w.heap.size ≤ k := fun k hk => (ho1 k hk).elim (fun h => by cases h) id
  rw [List.nil_append] at hr1
  refine ⟨_, rfl, ⟨?_, fun k hk => ⟨Nat.le_trans HB.out (ho k hk), hr1.own_lt k hk⟩⟩, ho, hb1⟩
  rcases hr1 with h | ⟨g, off, cap, e, h1, h2, h3, h4, h5, h7, h6⟩
  · exact .inl h
  · have hg := ho g (by rw [e]; rfl)
    exact .inr ⟨g, off, cap, e, h1, h2, .inl (Nat.le_trans HB.out hg), h4, h5, fun _ => h7 hg, h6⟩

/-- the error of whatever would be done with an area -/
def Dsk.refuses (s : Dsk) (area : Int) : Int := if area = 0 ∨ area = 1 then (if s.down = true then 4 else 0) else 1
theorem refuses_any (w : World) (B g : Nat) (s : Dsk) (p0 p1 q0 q1 lv : Value) (area : Int) (h : DiskAt w B g s p0 p1 q0 q1 lv) :
    Calls Try.prog 31 #[.pointer (some ⟨g, 0, none⟩), .int .i64 area] w fun e w' => e = .returned (.int .i64 (s.refuses area)) ∧ w = w' := by
  have RD := Lib.hid (down_any w B g s p0 p1 q0 q1 lv h)
  obtain ⟨b, hb⟩ : ∃ b, b = s.down := ⟨_, rfl⟩
  by_cases ha : area = 0 ∨ area = 1
  · have HR : Hid (s.refuses area = if s.down = true then 4 else 0) := by show _ = _; unfold Dsk.refuses; rw [if_pos ha]
    rw [← hb] at RD HR
    clear hb h
    rcases ha with rfl | rfl
    all_goals
      cases b with
      | true =>
        go_enter Try.func31, Try.ntmps31
        go_wp2_with (go_at_call 30; (with_reducible refine (RD.out).mono ?_); rintro e w1 ⟨rfl, rfl⟩)
        go_ret
        exact ⟨ret_int HR.out.symm, rfl⟩
      | false =>
        go_enter Try.func31, Try.ntmps31
        go_wp2_with (go_at_call 30; (with_reducible refine (RD.out).mono ?_); rintro e w1 ⟨rfl, rfl⟩)
        go_ret
        exact ⟨ret_int HR.out.symm, rfl⟩
  · have HR : Hid (s.refuses area = 1) := by show _ = _; unfold Dsk.refuses; rw [if_neg ha]
    have h0 : (area != 0) = true := bne_iff_ne.2 fun e => ha (.inl e)
    have h1 : (area != 1) = true := bne_iff_ne.2 fun e => ha (.inr e)
    clear ha hb h
    go_enter Try.func31, Try.ntmps31
    go_wp2
    go_ret
    exact ⟨ret_int HR.out.symm, rfl⟩

end Go.Proofs.Ytoggdpkpfdilnaa
