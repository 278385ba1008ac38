/-
  wire.GetInt: what it answers, of whatever bytes, at whatever place.
-/
import Derived.Test.YtmohanbgplffcaaPut
import Derived.Test.YtmohanbgplffcaaSame
import Derived.Test.YtmohanbgplffcaaWd
import Derived.WalkMore
import Derived.ScopeJumps
namespace Go.Proofs.Ytmohanbgplffcaa
open Go.RowKit

/-- what a reading comes to: the number, the place behind it, and true; or noughts and false -/
def gotI (l : List UInt8) (p : Nat) : Value := match geti (l.drop p) with
  | some (n, k) => .tuple #[.int .i64 n, .int .i64 ((p + k : Nat) : Int), .bool true]
  | none => .tuple #[.int .i64 0, .int .i64 0, .bool false]
theorem gotI_none {l : List UInt8} {p : Nat} (h : dec 0 (l.drop p) = none) : Ending.returned (.tuple #[.int .i64 0, .int .i64 0, .bool false]) = .returned (gotI l p) := by
  unfold gotI geti; rw [h]; rfl
theorem gotI_some {l : List UInt8} {p m k : Nat} (h : dec 0 (l.drop p) = some (m, k)) : Ending.returned (.tuple #[.int .i64 (zag m), .int .i64 ((p + k : Nat) : Int), .bool true]) = .returned (gotI l p) := by
  unfold gotI geti; rw [h]; rfl

/-- where the reading stands at its label -/
def GJ (A : Option Addr) (c : Nat) (l : List UInt8) (p : Nat) (w : World) (a' : Act) (w' : World) : Prop :=
  w' = w ∧ ∃ (i m q sh : Nat) (u9 u10 u11 u12 u13 u14 u15 u16 u17 u18 u19 u20 u21 u22 u23 u24 u25 u26 u27 u28 u29 u30 u31 u32 u33 u34 u35 u36 u37 u38 u39 u40 u41 u42 u43 u44 u45 u46 u47 u48 u49 : Value), a' = { tmps := #[.slice A l.length c, .int .i64 (q : Int), undef, undef, .int .i64 0, .int .i64 0, .bool false, .int .u64 (m : Int), .int .i64 (sh : Int), u9, u10, u11, u12, u13, u14, u15, u16, u17, u18, u19, u20, u21, u22, u23, u24, u25, u26, u27, u28, u29, u30, u31, u32, u33, u34, u35, u36, u37, u38, u39, u40, u41, u42, u43, u44, u45, u46, u47, u48, u49], defers := [] } ∧ q = p + i ∧ sh = 7 * i ∧ Along (l.drop p) i m


theorem scope_label {P : Program} {a : Act} {w : World} {Q : Exit → Act → World → Prop} {c X : Code} (l : Nat) (J : Act → World → Prop) (μ : Act → World → Nat) (hf : findLabel c l = some (Code.skip.seq X))
    (pass : ∀ a w, J a w → X.wp P (Exit.jump l (fun a' w' => J a' w' ∧ μ a' w' < μ a w) Q) a w)
    (first : (∀ a w, J a w → X.wp P (Exit.jump l J Q) a w) → c.wp P (Exit.jump l J Q) a w) : (Code.scope c).wp P Q a w :=
  wp_scope_jumps l J μ hf (first fun a w h => Code.wp_mono (fun e a' w' he => by
    cases e with
    | goto l' => exact ⟨he.1, he.2.1⟩
    | _ => exact he) (pass a w h)) fun a w h => wp_seq (wp_skip (pass a w h))

set_option maxRecDepth 100000 in
theorem getint_at (A : Option Addr) (c : Nat) (l : List UInt8) (p : Nat) (w : World) (hA : At w w.heap.size A c l) (hp : p ≤ 4611686018427387904) :
    Calls Try.prog 17 #[.slice A l.length c, .int .i64 p] w fun e w' => e = .returned (gotI l p) ∧ w = w' := by
  have hl : l.length ≤ maxLen := Nat.le_trans hA.1 hA.2.1
  unfold maxLen at hl
  go_enter Try.func17, Try.ntmps17
  go_wp2_with fail
  refine scope_label 0 (GJ A c l p w) (fun a' _ => (64 - intOf (a'.tmps.getD 8 undef)).toNat) rfl ?_ ?_
  · rintro a' w' ⟨rfl, i, m, q, sh, u9, u10, u11, u12, u13, u14, u15, u16, u17, u18, u19, u20, u21, u22, u23, u24, u25, u26, u27, u28, u29, u30, u31, u32, u33, u34, u35, u36, u37, u38, u39, u40, u41, u42, u43, u44, u45, u46, u47, u48, u49, rfl, hq, hs, hal⟩
    have hi9 := hal.1
    have HQ := Lib.hid hq
    have HS := Lib.hid hs
    have HAL := Lib.hid hal
    have hql : q ≤ p + 9 := by omega
    have hsl : sh ≤ 63 := by omega
    by_cases hlt : q < l.length
    · obtain ⟨b, off, rfl, r1⟩ := hA.row (by omega)
      have e1 := r1 q hlt
      have hc8 := l[q].toNat_lt
      have hgl : i < (l.drop p).length := by rw [List.length_drop]; omega
      have hge : (l.drop p)[i] = l[q] := by subst hq; exact List.getElem_drop ..
      by_cases hb : Big i l[q]
      · have HN := Lib.hid (along_big hal hgl (by rw [hge]; exact hb))
        have hs63 : ((sh : Int) == 63) = true := by have := hb.1; rw [beq_iff_eq]; omega
        have hbig : (1 : Int) < (l[q].toNat : Int) := by have := hb.2; omega
        clear hq hs hal r1 hA hge hb
        go_wp2
        simp only [Exit.jump]
        go_ret3
        exact ⟨gotI_none HN.out, rfl⟩
      · have hfit := along_fits hal hgl (by rw [hge]; exact hb)
        obtain ⟨M, hM⟩ : ∃ M : Nat, M = m + l[q].toNat % 128 * 2 ^ sh := ⟨_, rfl⟩
        have hM64 : M < 18446744073709551616 := by rw [hM, hs, ← hge]; exact hfit.1
        have hput : bits BinOp.or IntKind.u64 (m : Int) (IntKind.u64.wrap (IntKind.u64.wrap (bits BinOp.andNot IntKind.u8 (l[q].toNat : Int) 128) * 2 ^ sh)) = (M : Int) := by
          have hx : l[q].toNat % 128 * 2 ^ sh < 18446744073709551616 := by rw [hs, ← hge]; exact hfit.2
          have hm := hal.2.1
          rw [← hs] at hm
          have h64 : 2 ^ sh ≤ 2 ^ 63 := Nat.pow_le_pow_right (by omega) hsl
          rw [andNot128, wrap64_is, wrap64_is, show ((l[q].toNat % 128 : Nat) : Int) % 18446744073709551616 = ((l[q].toNat % 128 : Nat) : Int) by omega, show ((2 : Int) ^ sh) = ((2 ^ sh : Nat) : Int) by rw [Int.natCast_pow]; rfl, ← Int.natCast_mul,
            show (((l[q].toNat % 128 * 2 ^ sh : Nat) : Int) % 18446744073709551616) = ((l[q].toNat % 128 * 2 ^ sh : Nat) : Int) by omega, or_put _ _ _ hm hx (by omega), hM]
        have HU := Lib.hid (fun w => unfold_any M w hM64)
        by_cases hc : 128 ≤ l[q].toNat
        · have hn := along_next hal hgl (by rw [hge]; exact hb) (by rw [hge]; exact hc)
          have HN := Lib.hid hn.2
          have hi8 := hn.1
          have hs63 : ((sh : Int) == 63) = false := by rw [beq_eq_false_iff_ne]; omega
          have HM := Lib.hid hM
          have HG := Lib.hid hge
          clear hq hs hal r1 hA hge hb hfit hM hn
          go_wp2
          go_step3
          refine ⟨rfl, ⟨rfl, i + 1, M, q + 1, sh + 7, _, _, _, _, _, _, _, _, _, _, _, _, _, _, _, _, _, _, _, _, _, _, _, _, _, _, _, _, _, _, _, _, _, _, _, _, _, _, _, _, _, rfl, by have := HQ.out; omega, by have := HS.out; omega, ?_⟩, ?_⟩
          · rw [HM.out, HS.out, ← HG.out]
            exact HN.out
          · simp [intOf]
            omega
        · have hc' : l[q].toNat < 128 := by omega
          have HM := Lib.hid hM
          have HG := Lib.hid hge
          by_cases h0 : l[q].toNat = 0 ∧ 0 < sh
          · have HN := Lib.hid (along_empty hal hgl (by rw [hge]; exact h0.1) (by omega))
            have h00 : ((l[q].toNat : Int) == 0) = true := by rw [beq_iff_eq]; omega
            have hsp : (0 : Int) < (sh : Int) := by omega
            have hle1 : (l[q].toNat : Int) ≤ 1 := by omega
            have hlt1 : (l[q].toNat : Int) < 128 := by omega
            clear hq hs hal r1 hA hge hb hfit hM h0
            by_cases h63 : sh = 63
            all_goals
              go_wp2
              simp only [Exit.jump]
              go_ret3
              exact ⟨gotI_none HN.out, rfl⟩
          · have HN : Hid (dec 0 (l.drop p) = some (M, i + 1)) := by
              have := along_end hal hgl (by rw [hge]; exact hb) (by rw [hge]; exact hc') (by rw [hge]; omega)
              rw [hge, ← hs, ← hM] at this
              exact this
            have hle1 : sh = 63 → (l[q].toNat : Int) ≤ 1 := by
              intro h
              rcases Nat.lt_or_ge 1 l[q].toNat with h1 | h1
              · exact absurd ⟨by omega, h1⟩ hb
              · omega
            have hlt1 : (l[q].toNat : Int) < 128 := by omega
            have HP : Hid ((q : Int) + 1 = ((p + (i + 1) : Nat) : Int)) := by
              show (q : Int) + 1 = _
              omega
            by_cases h63 : sh = 63
            · have hle2 := hle1 h63
              have h00 : ((l[q].toNat : Int) == 0) = false := by rw [beq_eq_false_iff_ne]; omega
              have hs63 : ((sh : Int) == 63) = true := by rw [beq_iff_eq]; omega
              clear hq hs hal r1 hA hge hb hfit hM h0 h63 hle1
              go_wp2_with (go_at_call 33; refine (HU.out _).mono ?_; rintro e w' ⟨rfl, rfl⟩)
              simp only [Exit.jump]
              go_ret3
              exact ⟨by rw [HP.out]; exact gotI_some HN.out, rfl⟩
            · have hs63 : ((sh : Int) == 63) = false := by rw [beq_eq_false_iff_ne]; omega
              by_cases h1 : l[q].toNat = 0
              · have h00 : ((l[q].toNat : Int) == 0) = true := by rw [beq_iff_eq]; omega
                have hsp : (sh : Int) ≤ 0 := by omega
                clear hq hs hal r1 hA hge hb hfit hM h0 h63 hle1 h1
                go_wp2_with (go_at_call 33; refine (HU.out _).mono ?_; rintro e w' ⟨rfl, rfl⟩)
                simp only [Exit.jump]
                go_ret3
                exact ⟨by rw [HP.out]; exact gotI_some HN.out, rfl⟩
              · have h00 : ((l[q].toNat : Int) == 0) = false := by rw [beq_eq_false_iff_ne]; omega
                clear hq hs hal r1 hA hge hb hfit hM h0 h63 hle1 h1
                go_wp2_with (go_at_call 33; refine (HU.out _).mono ?_; rintro e w' ⟨rfl, rfl⟩)
                simp only [Exit.jump]
                go_ret3
                exact ⟨by rw [HP.out]; exact gotI_some HN.out, rfl⟩
    · clear hA hq hs hal
      go_wp2
      simp only [Exit.jump]
      go_ret3
      exact ⟨gotI_none (along_over HAL.out (by have := HQ.out; rw [List.length_drop]; omega)), rfl⟩
  · intro hpass
    have HP := Lib.hid hpass
    clear hpass
    go_wp2_with fail
    go_step3
    rename_i K ha
    exact ha _ _ (HP.out _ _ ⟨rfl, 0, 0, p, 0, _, _, _, _, _, _, _, _, _, _, _, _, _, _, _, _, _, _, _, _, _, _, _, _, _, _, _, _, _, _, _, _, _, _, _, _, _, _, _, _, _, rfl, rfl, rfl, along_start _⟩)

end Go.Proofs.Ytmohanbgplffcaa
