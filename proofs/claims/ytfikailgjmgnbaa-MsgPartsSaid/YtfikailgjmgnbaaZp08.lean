/-
  The document's own bytes of an image.
-/
import Derived.Test.YtfikailgjmgnbaaZp07

namespace Go.Proofs.Ytfikailgjmgnbaa
open Go.RowKit Flo
attribute [local go_sem ↓] Go.wp_at_zero Go.wp_at_succ

/-- what a call that gives bytes of its own comes to, its slice written out -/
def GivesO (l : List UInt8) (w : World) (e : Ending) (w' : World) : Prop := ∃ A c, e = .returned (.slice A l.length c) ∧ Room w' w.heap.size (.slice A l.length c) l ∧ Own w.heap.size (.slice A l.length c) ∧ Below w.heap.size w w'

set_option maxRecDepth 10000 in
set_option maxHeartbeats 400000 in
theorem cat_own (v : Value) (ls : List (List UInt8)) (w : World) (hv : Many w v ls) (hf : ls.length ≤ 1000) (hl : ∀ r ∈ ls, r.length ≤ 1000000) :
    Calls Try.prog 65 #[v] w (GivesO (flat ls) w) := by
  obtain ⟨i0, hi0, hz0, hz1, hz2⟩ := info_parts byte_info
  have HM := Lib.hid hv
  obtain ⟨A, c, rfl, hA⟩ := hv
  have HA := Lib.hid hA
  have HLR := Lib.hid hl
  clear hA hl
  go_enter Try.func65, Try.ntmps65
  go_wp2
  go_loopw [3, 4] (fun o i wr => ∃ k : Nat, k ≤ ls.length ∧ i = .int .i64 (k : Int) ∧ Room wr w.heap.size o (flat (ls.take k)) ∧ Own w.heap.size o ∧ (flat (ls.take k)).length ≤ 1000000 * k ∧ Below w.heap.size w wr) (fun _ i _ => ls.length - (intOf i).toNat)
  case atStart => exact ⟨0, Nat.zero_le _, rfl, Room.nil, (by intro g hg; cases hg), by simp [flat], Below.refl _ _⟩
  case round =>
    obtain ⟨k, hk, rfl, hr, ho, hlen, hb⟩ := hrel
    by_cases hlt : k < ls.length
    · obtain ⟨b, off, u, rfl, hbw, hcell, hsee⟩ := (HA.out.on hb).at_ k hlt
      have HT := Lib.hid (show flat (ls.take (k + 1)) = flat (ls.take k) ++ ls[k] by rw [takeM ls k hlt, flat_snoc])
      have hrk := HLR.out _ (List.getElem_mem hlt)
      have P1 : (flat (ls.take k)).length + ls[k].length ≤ 1099511627776 := by omega
      have i0' : (0 : Int) ≤ (k : Int) := by omega
      have i1 : (k : Int) < (ls.length : Int) := by omega
      have HS := Lib.hid hsee
      clear hsee
      go_wp2_with (at_builtin; refine wpList_append8s (B := w.heap.size) (l := flat (ls.take k)) (m := ls[k]) rfl (.tmp 11) (.tmp 15) 22 22 rfl 5 i0 Try.underlying22 hi0 hz0 hz1 hz2 hr hb.size (HS.out.src Try.underlying22) P1 rfl rfl ?_; intro v2 w2 hr2 hb2 ho2)
      go_roundw
      case rel => exact ⟨k + 1, by omega, by go_num, by rw [HT.out]; exact hr2, own_step ho hb.size ho2, by rw [HT.out, List.length_append]; omega, hb.trans hb2⟩
      case measure => simp [intOf]; omega
    · have hkl : Hid (ls.take k = ls) := List.take_of_length_le (by omega)
      go_wp2
      go_ret
      rw [hkl.out] at hr
      obtain ⟨A3, c3, rfl, _⟩ := hr.cut
      exact ⟨A3, c3, rfl, hr, ho, hb⟩

set_option maxRecDepth 10000 in
set_option maxHeartbeats 400000 in
theorem rver_o {a b : Int} (w : World) (h : (Fld.ver a b).right) : Calls Try.prog 34 #[ver a b] w (GivesO (Fld.ver a b).bytes w) := by
  have ha := in_of h.1
  have hb := in_of h.2
  have ha' := ha
  have hb' := hb
  unfold In at ha' hb'
  have hle := wint_le (n := a) (by omega) (by omega)
  have hle2 := wint_le (n := b) (by omega) (by omega)
  have R1 := Lib.hid (fun w => tells (refint_any a w (by omega) (by omega)))
  have R2 := Lib.hid (fun w => tells (refint_any b w (by omega) (by omega)))
  have HB := Lib.hid (show (Fld.ver a b).bytes = flat [wint a, wint b] by show _ = wint a ++ (wint b ++ []); rw [List.append_nil]; rfl)
  have HL := Lib.hid (show ∀ r ∈ [wint a, wint b], r.length ≤ 1000000 by intro r hr; simp at hr; rcases hr with rfl | rfl <;> omega)
  clear h
  go_enter Try.func34, Try.ntmps34
  go_wp2_with (first
    | (go_at_call 66; (with_reducible refine (repoch_any a b _ ha).mono ?_); rintro e w1 ⟨rfl, rfl⟩)
    | (go_at_call 67; (with_reducible refine (rnum_any a b _ hb).mono ?_); rintro e w1 ⟨rfl, rfl⟩)
    | (go_at_call 41; (with_reducible refine (R1.out _).mono ?_); rintro e w1 ⟨A1, c1, rfl, hs1, hb1⟩)
    | (go_at_call 41; (with_reducible refine (R2.out _).mono ?_); rintro e w2 ⟨A2, c2, rfl, hs2, hb2⟩; have C1 := Lib.hid (cat_own (.slice (some ⟨w2.heap.size, 0, none⟩) 2 2) [wint a, wint b] _ (many_made w2 [.slice A1 (wint a).length c1, .slice A2 (wint b).length c2] [wint a, wint b] 22 rfl (show 2 ≤ maxLen by decide) (two (hs1.on hb2) hs2)) (show 2 ≤ 1000 by decide) HL.out))
    | (go_at_call 65; (with_reducible refine (C1.out).mono ?_); rintro e w3 ⟨A3, c3, rfl, hr3, ho3, hb3⟩))
  go_ret
  have z := Nat.le_trans hb1.size (Nat.le_trans hb2.size (bal w2 (.cells #[.slice A1 (wint a).length c1, .slice A2 (wint b).length c2] 22)).size)
  exact ⟨A3, c3, by rw [HB.out]; rfl, by rw [HB.out]; exact hr3.low ho3 z, by rw [HB.out]; exact fun g hg => Nat.le_trans z (ho3 g hg), bt hb1 (bt hb2 (bt (bal w2 _) hb3))⟩

structure Img where
  fl : Int × Int
  la : Int × Int
  gen : Int
  log : List (List Fld)
  seen : List (List Fld)
def entB (xs : List (List Fld)) : List UInt8 := wint (xs.length : Int) ++ listB xs
def Img.bytes (x : Img) : List UInt8 := (Fld.ver x.fl.1 x.fl.2).bytes ++ ((Fld.ver x.la.1 x.la.2).bytes ++ ((Fld.int x.gen).bytes ++ (entB x.log ++ entB x.seen)))
def Img.right (x : Img) : Prop := (Fld.ver x.fl.1 x.fl.2).right ∧ (Fld.ver x.la.1 x.la.2).right ∧ (Fld.int x.gen).right ∧ x.log.length ≤ 4096 ∧ x.seen.length ≤ 4096 ∧ (∀ y ∈ x.log, kinds y = KE ∧ ∀ f ∈ y, f.right) ∧ (∀ y ∈ x.seen, kinds y = KS ∧ ∀ f ∈ y, f.right)
theorem listB_len' (K : List Knd) (xs : List (List Fld)) (h : ∀ x ∈ xs, kinds x = K ∧ ∀ f ∈ x, f.right) : (listB xs).length ≤ 1000000 * K.length * xs.length :=
  listB_len xs K.length fun x hx => ⟨by have := congrArg List.length (h x hx).1; simpa [kinds] using this, (h x hx).2⟩

set_option maxRecDepth 100000 in
set_option maxHeartbeats 2000000 in
theorem image_any (x : Img) (lv sv : Value) (w : World) (hl : Structs w lv 11 (x.log.map vals)) (hs : Structs w sv 7 (x.seen.map vals)) (hx : x.right) :
    Calls Try.prog 12 #[.agg #[ver x.fl.1 x.fl.2, ver x.la.1 x.la.2, .int .i64 x.gen, lv, sv]] w (Tells x.bytes w) := by
  obtain ⟨i0, hi0, hz0, hz1, hz2⟩ := info_parts byte_info
  obtain ⟨x1, x2, x3, x4, x5, x6, x7⟩ := hx
  have RE := Lib.hid (fun W (h : Structs W lv 11 (x.log.map vals)) => entries_any lv x.log W h x4 x6)
  have RS := Lib.hid (fun W (h : Structs W sv 7 (x.seen.map vals)) => seens_any sv x.seen W h x5 x7)
  have n1 := listB_len' _ _ x6
  have n2 := listB_len' _ _ x7
  have HL := Lib.hid hl
  have HS := Lib.hid hs
  obtain ⟨Al, cl, rfl, _⟩ := hl
  obtain ⟨As, cs, rfl, _⟩ := hs
  obtain ⟨xfl, xla, gen, log, seen⟩ := x
  simp only at x1 x2 x3 x4 x5 RE RS n1 n2 HL HS ⊢
  simp only [List.length_map] at RE RS HL HS ⊢
  have RF := Lib.hid (fun w => rver_o w x1)
  have RL := Lib.hid (fun w => tells ((fun h => by exact h) (show Calls Try.prog 34 #[ver xla.1 xla.2] w (Gives w.heap.size (Fld.ver xla.1 xla.2).bytes w) from (rver_o w x2).mono fun e w' ⟨A, c, he, h1, _, h3⟩ => ⟨_, he, h1, h3⟩)))
  have RG := Lib.hid (fun w => rint_r (n := gen) w x3)
  obtain ⟨Lf, hLf⟩ : ∃ L, L = (Fld.ver xfl.1 xfl.2).bytes := ⟨_, rfl⟩
  obtain ⟨Ll, hLl⟩ : ∃ L, L = (Fld.ver xla.1 xla.2).bytes := ⟨_, rfl⟩
  obtain ⟨Lg, hLg⟩ : ∃ L, L = (Fld.int gen).bytes := ⟨_, rfl⟩
  obtain ⟨Le, hLe⟩ : ∃ L, L = entB log := ⟨_, rfl⟩
  obtain ⟨Ls, hLs⟩ : ∃ L, L = entB seen := ⟨_, rfl⟩
  have b1 := bit_len _ x1
  have b2 := bit_len _ x2
  have b3 := bit_len _ x3
  have w1 := wint_le (n := (log.length : Int)) (by omega) (by omega)
  have w2 := wint_le (n := (seen.length : Int)) (by omega) (by omega)
  have b4 : Le.length ≤ 50000000000 := by rw [hLe]; unfold entB; rw [List.length_append]; simp [KE] at n1; omega
  have b5 : Ls.length ≤ 50000000000 := by rw [hLs]; unfold entB; rw [List.length_append]; simp [KS] at n2; omega
  rw [← hLf] at RF b1
  rw [← hLl] at RL b2
  rw [← hLg] at RG b3
  have HB : Hid (Img.bytes ⟨xfl, xla, gen, log, seen⟩ = Lf ++ (Ll ++ (Lg ++ (Le ++ Ls)))) := by show Img.bytes _ = _; unfold Img.bytes; rw [hLf, hLl, hLg, hLe, hLs]
  have RE2 : Hid (∀ W, Structs W (.slice Al log.length cl) 11 (log.map vals) → Calls Try.prog 36 #[.slice Al log.length cl] W (Tells Le W)) := fun W h => by rw [hLe]; exact RE.out W h
  have RS2 : Hid (∀ W, Structs W (.slice As seen.length cs) 7 (seen.map vals) → Calls Try.prog 42 #[.slice As seen.length cs] W (Tells Ls W)) := fun W h => by rw [hLs]; exact RS.out W h
  have P1 : Lf.length + Ll.length ≤ 1099511627776 := by omega
  have P2 : (Lf ++ Ll).length + Lg.length ≤ 1099511627776 := by simp only [List.length_append]; omega
  have P3 : (Lf ++ Ll ++ Lg).length + Le.length ≤ 1099511627776 := by simp only [List.length_append]; omega
  have P4 : (Lf ++ Ll ++ Lg ++ Le).length + Ls.length ≤ 1099511627776 := by simp only [List.length_append]; omega
  clear hLf hLl hLg hLe hLs x1 x2 x3 x4 x5 x6 x7 n1 n2 w1 w2 RE RS
  have HH := held_made w [ver xfl.1 xfl.2, ver xla.1 xla.2, .int .i64 gen, .slice Al log.length cl, .slice As seen.length cs] 33
  have hbw := bal w (.cells #[ver xfl.1 xfl.2, ver xla.1 xla.2, .int .i64 gen, .slice Al log.length cl, .slice As seen.length cs] 33)
  go_enter Try.func12, Try.ntmps12
  go_wp2_with fail
  change Held w.heap.size _ (w.alloc (.cells #[ver xfl.1 xfl.2, ver xla.1 xla.2, .int .i64 gen, .slice Al log.length cl, .slice As seen.length cs] 33)) at HH
  generalize w.alloc (.cells #[ver xfl.1 xfl.2, ver xla.1 xla.2, .int .i64 gen, .slice Al log.length cl, .slice As seen.length cs] 33) = w0 at HH hbw ⊢
  obtain ⟨g, hg⟩ : ∃ g, g = w.heap.size := ⟨_, rfl⟩
  rw [← hg] at HH ⊢
  clear hg
  have hd : Below w0.heap.size w0 w0.drew := (Below.refl _ _).drew
  have H0 := HH.all
  have HD := (HH.on hd).all
  first | (go_region_held3 (fun W => W.cell? ⟨g, 0, none⟩ = some (ver xfl.1 xfl.2) ∧ W.cell? ⟨g, 1, none⟩ = some (ver xla.1 xla.2) ∧ W.cell? ⟨g, 2, none⟩ = some (.int .i64 gen) ∧ W.cell? ⟨g, 3, none⟩ = some (.slice Al log.length cl) ∧ W.cell? ⟨g, 4, none⟩ = some (.slice As seen.length cs)) (first | exact H3 | exact H2 | exact H1 | exact HD | exact H0) (first
    | (go_at_call 34; (with_reducible refine (RF.out _).mono ?_); rintro e w1 ⟨A1, c1, rfl, hr1, ho1, hb1⟩; have hx1 : Below w0.heap.size w0 w1 := hd.trans hb1; have H1 := (HH.on hx1).all; have hr1' := hr1.low ho1 hbw.size)
    | (go_at_call 34; (with_reducible refine (RL.out _).mono ?_); rintro e w2 ⟨A2, c2, rfl, hs2, hb2⟩; have hx2 := bt hx1 hb2; have H2 := (HH.on hx2).all)
    | ((refine step_append8 (B := w0.heap.size) (l := Lf) (m := Ll) (by rfl) (.tmp 6) (.tmp 9) 22 22 (by rfl) 5 i0 Try.underlying22 hi0 hz0 hz1 hz2 (hr1.on hb2) hx2.size (hs2.src Try.underlying22) P1 (by rfl) (by rfl) ?_; intro v3 w3 hr3 hb3; have hx3 : Below w0.heap.size w0 w3 := hx2.trans hb3; have H3 := (HH.on hx3).all)))) | fail
  have H3 := (HH.on hx3).all
  simp only [cellsAre] at H3
  go_wp2_with (first
    | (go_at_call 41; (with_reducible refine (RG.out _).mono ?_); rintro e w4 ⟨A4, c4, rfl, hs4, hb4⟩; have hx4 : Below w0.heap.size w0 w4 := bt hx3 hb4; have H4 := (HH.on hx4).all; simp only [cellsAre] at H4)
    | (at_builtin; refine wpList_append8 (B := w0.heap.size) (l := Lf ++ Ll) (m := Lg) rfl (.tmp 11) (.tmp 14) 22 22 rfl 5 i0 Try.underlying22 hi0 hz0 hz1 hz2 (hr3.on hb4) hx4.size (hs4.src Try.underlying22) P2 rfl rfl ?_; intro v5 w5 hr5 hb5; have hx5 : Below w0.heap.size w0 w5 := hx4.trans hb5; have H5 := (HH.on hx5).all; simp only [cellsAre] at H5)
    | (go_at_call 36; (with_reducible refine (RE2.out _ (HL.out.on (hbw.trans (hx5.mono hbw.size)))).mono ?_); rintro e w6 ⟨A6, c6, rfl, hs6, hb6⟩; have hx6 : Below w0.heap.size w0 w6 := bt hx5 hb6; have H6 := (HH.on hx6).all; simp only [cellsAre] at H6)
    | (at_builtin; refine wpList_append8 (B := w0.heap.size) (l := Lf ++ Ll ++ Lg) (m := Le) rfl (.tmp 16) (.tmp 19) 22 22 rfl 5 i0 Try.underlying22 hi0 hz0 hz1 hz2 (hr5.on hb6) hx6.size (hs6.src Try.underlying22) P3 rfl rfl ?_; intro v7 w7 hr7 hb7; have hx7 : Below w0.heap.size w0 w7 := hx6.trans hb7; have H7 := (HH.on hx7).all; simp only [cellsAre] at H7)
    | (go_at_call 42; (with_reducible refine (RS2.out _ (HS.out.on (hbw.trans (hx7.mono hbw.size)))).mono ?_); rintro e w8 ⟨A8, c8, rfl, hs8, hb8⟩; have hx8 : Below w0.heap.size w0 w8 := bt hx7 hb8; have H8 := (HH.on hx8).all; simp only [cellsAre] at H8)
    | (at_builtin; refine wpList_append8 (B := w0.heap.size) (l := Lf ++ Ll ++ Lg ++ Le) (m := Ls) rfl (.tmp 21) (.tmp 24) 22 22 rfl 5 i0 Try.underlying22 hi0 hz0 hz1 hz2 (hr7.on hb8) hx8.size (hs8.src Try.underlying22) P4 rfl rfl ?_; intro v9 w9 hr9 hb9; have hx9 : Below w0.heap.size w0 w9 := hx8.trans hb9; have H9 := (HH.on hx9).all; simp only [cellsAre] at H9))
  go_ret
  have hs9 := hr9.seen
  obtain ⟨A9, c9, rfl, hA9⟩ := hs9
  have HE : Lf ++ Ll ++ Lg ++ Le ++ Ls = Img.bytes ⟨xfl, xla, gen, log, seen⟩ := by rw [HB.out]; simp only [List.append_assoc]
  rw [HE] at hA9
  exact ⟨A9, c9, by rw [HE]; rfl, ⟨A9, c9, rfl, hA9⟩, bt hbw hx9⟩

end Go.Proofs.Ytfikailgjmgnbaa
