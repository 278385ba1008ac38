/-
  WirePuts: of whatever number, truth, text and version: the bytes, behind whatever there is (a truth that is false).
-/
import Derived.Test.YtemoekakpnaboaaKeeps
import Derived.Deep.RegionHeld3
import Derived.Deep.DrawnRows
namespace Go.Proofs.Ytemoekakpnaboaa
open Go.RowKit Flo
attribute [local go_sem ↓] Go.wp_at_zero Go.wp_at_succ

/-- An own slice's block is the call's own. -/
def Own (B : Nat) (v : Value) : Prop := ∀ g, v.ownBlock = some g → B ≤ g
theorem own_step {B : Nat} {w : World} {v v' : Value} (h : Own B v) (hB : B ≤ w.heap.size) (hs : ∀ g, v'.ownBlock = some g → v.ownBlock = some g ∨ w.heap.size ≤ g) : Own B v' := by
  intro g hg
  rcases hs g hg with h1 | h1
  · exact h g h1
  · omega
theorem own_new (w : World) (n c : Nat) : Own w.heap.size (.slice (some ⟨w.heap.size, 0, none⟩) n c) := by
  intro g hg
  have : w.heap.size = g := by simpa [Value.ownBlock] using hg
  omega
theorem gives_seen {w : World} {B : Nat} {v : Value} {l : List UInt8} (h : Room w B v l) : Seen w w.heap.size v l := h.seen

/-- what a slice that is seen gives to an append -/
theorem Seen.src {P : Program} {w : World} {B : Nat} {v : Value} {l : List UInt8} (h : Seen w B v l) {tx e : TypeId} (hk : P.underlying tx = some (.slice e)) : Src P 1 tx v l.length (c8 l) w := by
  obtain ⟨A, c, rfl, h⟩ := h
  exact h.src hk

theorem Room.full {w : World} {B : Nat} {A : Option Addr} {c : Nat} {l : List UInt8} (h : Room w B (.slice A l.length c) l) : Room w w.heap.size (.slice A l.length l.length) l := by
  obtain ⟨A', c', e, _, _, h'⟩ := h.cut
  injection e with e _ _
  rw [e]; exact h'
theorem room_new' (w : World) (H : Nat) (h : H = w.heap.size) : Room (w.alloc (.cells #[] 5)) w.heap.size (.slice (some ⟨H, 0, none⟩) 0 0) [] := by
  subst h; exact room_new w
theorem set_last (o : List UInt8) (x y : UInt8) : (o ++ [x]).set o.length y = o ++ [y] := by
  rw [List.set_append_right _ _ (Nat.le_refl _), Nat.sub_self]; rfl

set_option maxRecDepth 100000 in
set_option maxHeartbeats 2000000 in
theorem puts_false (v : Value) (o : List UInt8) (n : Int) (s : ByteArray) (a b : Int) (w : World) (hv : Seen w w.heap.size v o) (hn1 : -9223372036854775808 ≤ n) (hn2 : n ≤ 9223372036854775807) (ho : o.length ≤ 5000) (hs : s.size ≤ 5000) (ha : fitsB a = true) (hb : fitsB b = true) :
    Calls Try.prog 3 #[v, .int .i64 n, .bool false, .string s, .int .i64 a, .int .i64 b] w fun e w' => e = .returned (.bool true) ∧ Below w.heap.size w w' := by
  obtain ⟨i0, hi0, hz0, hz1, hz2⟩ := info_parts byte_info
  have hle1 := wint_le hn1 hn2
  have hle2 := wint_le (n := (s.size : Int)) (by omega) (by omega)
  have hina := (fits_in ha).1
  have hinb := (fits_in hb).1
  have hina' := hina
  have hinb' := hinb
  unfold In at hina' hinb'
  have hlea := wint_le (n := a) (by omega) (by omega)
  have hleb := wint_le (n := b) (by omega) (by omega)
  have hsl : s.data.toList.length = s.size := by simp
  have FA := Lib.hid (fun w => fits_is w ha)
  have FB := Lib.hid (fun w => fits_is w hb)
  have MK := Lib.hid (fun w => make_any a b w hina hinb)
  have RI := Lib.hid (fun w => refint_any n w hn1 hn2)
  have RT := Lib.hid (fun w => reftext_any s w (by omega))
  have RA := Lib.hid (fun w => refint_any a w (by omega) (by omega))
  have RB := Lib.hid (fun w => refint_any b w (by omega) (by omega))
  have P0 : ([] : List UInt8).length + o.length ≤ 1099511627776 := by simp only [List.length_nil]; omega
  have P1 : o.length + [(0 : UInt8)].length ≤ 1099511627776 := by simp only [List.length_singleton]; omega
  have P2 : o.length + (wint n).length ≤ 1099511627776 := by omega
  have P3 : o.length + (wint s.size ++ s.data.toList).length ≤ 1099511627776 := by rw [List.length_append]; omega
  have P4 : o.length + (wint a).length ≤ 1099511627776 := by omega
  have P5 : (o ++ wint a).length + (wint b).length ≤ 1099511627776 := by rw [List.length_append]; omega
  have HIA := Lib.hid hina
  have HIB := Lib.hid hinb
  clear hle1 hle2 hlea hleb hina hinb hina' hinb' ha hb hsl
  obtain ⟨A, c, rfl, hA⟩ := hv
  have HS : Hid (Seen w w.heap.size (.slice A o.length c) o) := ⟨A, c, rfl, hA⟩
  clear hA
  go_enter Try.func3, Try.ntmps3
  go_wp2_with (first
    | (go_at_call 8; (with_reducible refine (FA.out _).mono ?_); rintro e w' ⟨rfl, rfl⟩)
    | (go_at_call 8; (with_reducible refine (FB.out _).mono ?_); rintro e w' ⟨rfl, rfl⟩)
    | (at_builtin; refine wpList_append8 (B := w.heap.size) (l := []) (m := o) rfl (.tmp 37) (.tmp 38) 22 22 rfl 5 i0 Try.underlying22 hi0 hz0 hz1 hz2 Room.nil (Nat.le_refl _) (HS.out.src Try.underlying22) P0 rfl rfl ?_; intro v1 w1 hr1 hb1; obtain ⟨A1, c1, rfl, hle1, hcm1, _⟩ := hr1.cut; unfold maxLen at hcm1; have hle1' : (o.length : Int) ≤ (c1 : Int) := Int.ofNat_le.2 hle1; have HW := Lib.hid (show Room w1 w.heap.size (.slice A1 o.length c1) o from hr1); clear hr1 hle1; have HSW := Lib.hid HW.out.seen)
    | (at_builtin; refine wpList_append8s (B := w1.heap.size) (l := []) (m := o) rfl (.tmp 40) (.tmp 41) 22 22 rfl 5 i0 Try.underlying22 hi0 hz0 hz1 hz2 (room_new w1) (by simp) ((HSW.out.on (bal w1 _)).src Try.underlying22) P0 rfl rfl ?_; intro v2 w2 hr2 hb2 hown2; have hb12 : Below w1.heap.size w1 w2 := (bal w1 _).trans hb2; have hO2 : Own w1.heap.size v2 := own_step (own_new w1 0 0) (by simp) hown2)
    | (at_builtin; refine wpList_append8s (B := w1.heap.size) (l := o) (m := [0]) rfl (.tmp 42) (.tmp 43) 22 22 rfl 5 i0 Try.underlying22 hi0 hz0 hz1 hz2 (hr2.on (bal w2 _)) (Nat.le_trans hb12.size (bal w2 _).size) (src_one w2 0 Try.underlying22) P1 rfl rfl ?_; intro v3 w3 hr3 hb3 hown3; have hb13 : Below w1.heap.size w1 w3 := hb12.trans (((bal w2 _).mono hb12.size).trans hb3); have hO3 : Own w1.heap.size v3 := own_step hO2 (Nat.le_trans hb12.size (bal w2 _).size) hown3; have HR4 := Lib.hid (show Room w3 w1.heap.size v3 (o ++ [bit false]) from hr3); have HB4 := Lib.hid hb13; clear hr3 hown3 hown2 hr2 hO2 hO3)
    | (at_builtin; refine wpList_append8 (B := w3.heap.size) (l := []) (m := o) rfl (.tmp 51) (.tmp 52) 22 22 rfl 5 i0 Try.underlying22 hi0 hz0 hz1 hz2 (room_new' w3 w3.heap.size rfl) (by simp) ((HSW.out.on (HB4.out.trans ((bal _ _).mono HB4.out.size))).src Try.underlying22) P0 rfl rfl ?_; intro v5 w5 hr5 hb5; have hb15 : Below w1.heap.size w1 w5 := HB4.out.trans (((bal _ _).trans hb5).mono HB4.out.size))
    | (go_at_call 10; (with_reducible refine (RI.out _).mono ?_); rintro e w6 ⟨v6, rfl, hr6, hb6⟩; have hb56 : Below w3.heap.size w5 w6 := hb6.mono ((bal _ _).trans hb5).size)
    | (at_builtin; refine wpList_append8 (B := w3.heap.size) (l := o) (m := wint n) rfl (.tmp 53) (.tmp 55) 22 22 rfl 5 i0 Try.underlying22 hi0 hz0 hz1 hz2 (hr5.on hb6) (Nat.le_trans ((bal _ _).trans hb5).size hb6.size) (hr6.seen.src Try.underlying22) P2 rfl rfl ?_; intro v7 w7 hr7 hb7; have hb47 : Below w3.heap.size w3 w7 := ((bal _ _).trans hb5).trans (hb56.trans hb7); have hb17 : Below w1.heap.size w1 w7 := HB4.out.trans (hb47.mono HB4.out.size))
    | (at_builtin; refine wpList_append8 (B := w7.heap.size) (l := []) (m := o) rfl (.tmp 57) (.tmp 58) 22 22 rfl 5 i0 Try.underlying22 hi0 hz0 hz1 hz2 (room_new w7) (by simp) ((HSW.out.on (hb17.trans ((bal _ _).mono hb17.size))).src Try.underlying22) P0 rfl rfl ?_; intro v8 w8 hr8 hb8)
    | (go_at_call 11; (with_reducible refine (RT.out _).mono ?_); rintro e w9 ⟨v9, rfl, hr9, hb9⟩)
    | (at_builtin; refine wpList_append8 (B := w7.heap.size) (l := o) (m := wint s.size ++ s.data.toList) rfl (.tmp 59) (.tmp 61) 22 22 rfl 5 i0 Try.underlying22 hi0 hz0 hz1 hz2 (hr8.on hb9) (Nat.le_trans ((bal _ _).trans hb8).size hb9.size) (hr9.seen.src Try.underlying22) P3 rfl rfl ?_; intro v10 w10 hr10 hb10; have hb710 : Below w7.heap.size w7 w10 := ((bal _ _).trans hb8).trans ((hb9.mono ((bal _ _).trans hb8).size).trans hb10); have hb110 : Below w1.heap.size w1 w10 := hb17.trans (hb710.mono hb17.size))
    | (at_builtin; refine wpList_append8 (B := w10.heap.size) (l := []) (m := o) rfl (.tmp 63) (.tmp 64) 22 22 rfl 5 i0 Try.underlying22 hi0 hz0 hz1 hz2 (room_new w10) (by simp) ((HSW.out.on (hb110.trans ((bal _ _).mono hb110.size))).src Try.underlying22) P0 rfl rfl ?_; intro v11 w11 hr11 hb11)
    | (go_at_call 10; (with_reducible refine (RA.out _).mono ?_); rintro e w12 ⟨v12, rfl, hr12, hb12'⟩)
    | (at_builtin; refine wpList_append8 (B := w10.heap.size) (l := o) (m := wint a) rfl (.tmp 65) (.tmp 67) 22 22 rfl 5 i0 Try.underlying22 hi0 hz0 hz1 hz2 (hr11.on hb12') (Nat.le_trans ((bal _ _).trans hb11).size hb12'.size) (hr12.seen.src Try.underlying22) P4 rfl rfl ?_; intro v13 w13 hr13 hb13'; have hb1013 : Below w10.heap.size w10 w13 := ((bal _ _).trans hb11).trans ((hb12'.mono ((bal _ _).trans hb11).size).trans hb13'))
    | (go_at_call 10; (with_reducible refine (RB.out _).mono ?_); rintro e w14 ⟨v14, rfl, hr14, hb14⟩)
    | (at_builtin; refine wpList_append8 (B := w10.heap.size) (l := o ++ wint a) (m := wint b) rfl (.tmp 68) (.tmp 70) 22 22 rfl 5 i0 Try.underlying22 hi0 hz0 hz1 hz2 (hr13.on hb14) (Nat.le_trans hb1013.size hb14.size) (hr14.seen.src Try.underlying22) P5 rfl rfl ?_; intro v15 w15 hr15 hb15'; have hb1015 : Below w10.heap.size w10 w15 := hb1013.trans ((hb14.mono hb1013.size).trans hb15'); have hb115 : Below w1.heap.size w1 w15 := hb110.trans (hb1015.mono hb110.size)))
  have hb715 : Below w7.heap.size w7 w15 := hb710.trans (hb1015.mono hb710.size)
  have KW := Lib.hid (HW.out.on hb115)
  have K3 := Lib.hid (show Seen w15 w15.heap.size v3 (o ++ [bit false]) from HR4.out.seen.on (hb47.trans (hb715.mono hb47.size)))
  have K7 := Lib.hid (hr7.seen.on hb715)
  have K10 := Lib.hid (hr10.seen.on hb1015)
  have K15 := Lib.hid (show Seen w15 w15.heap.size v15 (o ++ (wint a ++ wint b)) by rw [← List.append_assoc]; exact hr15.seen)
  have HEND : Hid (Below w.heap.size w w15) := hb1.trans (hb115.mono hb1.size)
  have o1 : o.length ≤ 549755813888 := by omega
  have o2 : o.length ≤ 274877906944 := by omega
  have o3 : s.size ≤ 274877906944 := by omega
  have z0 : (0 : Int) ≤ (o.length : Int) := by omega
  clear hb715 hr7 hr10 hr15 hr5 hr6 hr8 hr9 hr11 hr12 hr13 hr14 hb1 hb5 hb6 hb7 hb8 hb9 hb10 hb11 hb12' hb13' hb14 hb15' hb47 hb56 hb710 hb1013 hb1015 hb110 hb115 hb17 hb15
  first | (go_region_held3 (fun _ => True) (trivial) (first
    | (go_at_call 9; refine (awake_true _).mono ?_; rintro e w16 ⟨rfl, hb16⟩; have hd16 : Below w15.heap.size w15 w16 := (Below.refl _ _).drew.trans hb16)
    | (go_at_call 13; (with_reducible refine (int_any n _ _ _ o hn1 hn2 (KW.out.on hd16).full (Nat.le_refl _) o1).mono ?_); rintro e w17 ⟨v17, rfl, hr17, hb17⟩; have hd17 := bt hd16 hb17)
    | (go_at_call 12; (with_reducible refine (same_yes _ hr17.seen (K7.out.on hd17)).mono ?_); rintro e w18 ⟨rfl, hb18⟩; have hd18 := bt hd17 hb18)
    | (go_at_call 14; (with_reducible refine (bool_any false _ _ _ o (KW.out.on hd18).full (Nat.le_refl _) o1).mono ?_); rintro e w19 ⟨v19, rfl, hr19, hb19⟩; have hd19 := bt hd18 hb19)
    | (go_at_call 12; (with_reducible refine (same_yes _ hr19.seen (K3.out.on hd19)).mono ?_); rintro e w20 ⟨rfl, hb20⟩; have hd20 := bt hd19 hb20)
    | (go_at_call 15; (with_reducible refine (text_any s _ _ _ o (KW.out.on hd20).full (Nat.le_refl _) o2 o3).mono ?_); rintro e w21 ⟨v21, rfl, hr21, hb21⟩; have hd21 := bt hd20 hb21)
    | (go_at_call 12; (with_reducible refine (same_yes _ hr21.seen (K10.out.on hd21)).mono ?_); rintro e w22 ⟨rfl, hb22⟩; have hd22 := bt hd21 hb22)
    | (go_at_call 17; (with_reducible refine (MK.out _).mono ?_); rintro e w' ⟨rfl, rfl⟩)
    | (go_at_call 16; (with_reducible refine (wver_any a b _ _ _ o (KW.out.on hd22).full (Nat.le_refl _) o2 HIA.out HIB.out).mono ?_); rintro e w23 ⟨v23, rfl, hr23, hb23⟩; have hd23 := bt hd22 hb23)
    | (go_at_call 12; (with_reducible refine (same_yes _ hr23.seen (K15.out.on hd23)).mono ?_); rintro e w24 ⟨rfl, hb24⟩; have hd24 := bt hd23 hb24))) | fail
  all_goals go_wp2
  all_goals go_ret
  all_goals exact ⟨rfl, bt HEND.out hd24⟩

end Go.Proofs.Ytemoekakpnaboaa
