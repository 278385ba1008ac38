/-
  wire.GetInt: what it answers, of whatever bytes, at whatever place.
  The program's readings of a number, for those that call them; numbers up to a bound; truths.
  Readings of texts, by the program.
  Readings of versions, by the program.
-/
import Derived.Test.YtfikailgjmgnbaaZp02
import Derived.Test.YtfikailgjmgnbaaZp03
import Derived.WalkMore
import Derived.ScopeJumps

namespace Go.Proofs.Ytfikailgjmgnbaa
open Go.RowKit

/-- what a reading comes to: the number, the place behind it, and true; or noughts and false -/
def gotI (l : List UInt8) (p : Nat) : Value := match geti (l.drop p) with
  | some (n, k) => .tuple #[.int .i64 n, .int .i64 ((p + k : Nat) : Int), .bool true]
  | none => .tuple #[.int .i64 0, .int .i64 0, .bool false]
theorem gotI_none {l : List UInt8} {p : Nat} (h : dec 0 (l.drop p) = none) : Ending.returned (.tuple #[.int .i64 0, .int .i64 0, .bool false]) = .returned (gotI l p) := by
  unfold gotI geti; rw [h]; rfl
theorem gotI_some {l : List UInt8} {p m k : Nat} (h : dec 0 (l.drop p) = some (m, k)) : Ending.returned (.tuple #[.int .i64 (zag m), .int .i64 ((p + k : Nat) : Int), .bool true]) = .returned (gotI l p) := by
  unfold gotI geti; rw [h]; rfl

/-- where the reading stands at its label -/
def GJ (A : Option Addr) (c : Nat) (l : List UInt8) (p : Nat) (w : World) (a' : Act) (w' : World) : Prop :=
  w' = w ∧ ∃ (i m q sh : Nat) (u9 u10 u11 u12 u13 u14 u15 u16 u17 u18 u19 u20 u21 u22 u23 u24 u25 u26 u27 u28 u29 u30 u31 u32 u33 u34 u35 u36 u37 u38 u39 u40 u41 u42 u43 u44 u45 u46 u47 u48 u49 : Value), a' = { tmps := #[.slice A l.length c, .int .i64 (q : Int), undef, undef, .int .i64 0, .int .i64 0, .bool false, .int .u64 (m : Int), .int .i64 (sh : Int), u9, u10, u11, u12, u13, u14, u15, u16, u17, u18, u19, u20, u21, u22, u23, u24, u25, u26, u27, u28, u29, u30, u31, u32, u33, u34, u35, u36, u37, u38, u39, u40, u41, u42, u43, u44, u45, u46, u47, u48, u49], defers := [] } ∧ q = p + i ∧ sh = 7 * i ∧ Along (l.drop p) i m


theorem scope_label {P : Program} {a : Act} {w : World} {Q : Exit → Act → World → Prop} {c X : Code} (l : Nat) (J : Act → World → Prop) (μ : Act → World → Nat) (hf : findLabel c l = some (Code.skip.seq X))
    (pass : ∀ a w, J a w → X.wp P (Exit.jump l (fun a' w' => J a' w' ∧ μ a' w' < μ a w) Q) a w)
    (first : (∀ a w, J a w → X.wp P (Exit.jump l J Q) a w) → c.wp P (Exit.jump l J Q) a w) : (Code.scope c).wp P Q a w :=
  wp_scope_jumps l J μ hf (first fun a w h => Code.wp_mono (fun e a' w' he => by
    cases e with
    | goto l' => exact ⟨he.1, he.2.1⟩
    | _ => exact he) (pass a w h)) fun a w h => wp_seq (wp_skip (pass a w h))

set_option maxRecDepth 100000 in
theorem getint_at (A : Option Addr) (c : Nat) (l : List UInt8) (p : Nat) (w : World) (hA : At w w.heap.size A c l) (hp : p ≤ 4611686018427387904) :
    Calls Try.prog 56 #[.slice A l.length c, .int .i64 p] w fun e w' => e = .returned (gotI l p) ∧ w = w' := by
  have hl : l.length ≤ maxLen := Nat.le_trans hA.1 hA.2.1
  unfold maxLen at hl
  go_enter Try.func56, Try.ntmps56
  go_wp2_with fail
  refine scope_label 0 (GJ A c l p w) (fun a' _ => (64 - intOf (a'.tmps.getD 8 undef)).toNat) rfl ?_ ?_
  · rintro a' w' ⟨rfl, i, m, q, sh, u9, u10, u11, u12, u13, u14, u15, u16, u17, u18, u19, u20, u21, u22, u23, u24, u25, u26, u27, u28, u29, u30, u31, u32, u33, u34, u35, u36, u37, u38, u39, u40, u41, u42, u43, u44, u45, u46, u47, u48, u49, rfl, hq, hs, hal⟩
    have hi9 := hal.1
    have HQ := Lib.hid hq
    have HS := Lib.hid hs
    have HAL := Lib.hid hal
    have hql : q ≤ p + 9 := by omega
    have hsl : sh ≤ 63 := by omega
    by_cases hlt : q < l.length
    · obtain ⟨b, off, rfl, r1⟩ := hA.row (by omega)
      have e1 := r1 q hlt
      have hc8 := l[q].toNat_lt
      have hgl : i < (l.drop p).length := by rw [List.length_drop]; omega
      have hge : (l.drop p)[i] = l[q] := by subst hq; exact List.getElem_drop ..
      by_cases hb : Big i l[q]
      · have HN := Lib.hid (along_big hal hgl (by rw [hge]; exact hb))
        have hs63 : ((sh : Int) == 63) = true := by have := hb.1; rw [beq_iff_eq]; omega
        have hbig : (1 : Int) < (l[q].toNat : Int) := by have := hb.2; omega
        clear hq hs hal r1 hA hge hb
        go_wp2
        simp only [Exit.jump]
        go_ret3
        exact ⟨gotI_none HN.out, rfl⟩
      · have hfit := along_fits hal hgl (by rw [hge]; exact hb)
        obtain ⟨M, hM⟩ : ∃ M : Nat, M = m + l[q].toNat % 128 * 2 ^ sh := ⟨_, rfl⟩
        have hM64 : M < 18446744073709551616 := by rw [hM, hs, ← hge]; exact hfit.1
        have hput : bits BinOp.or IntKind.u64 (m : Int) (IntKind.u64.wrap (IntKind.u64.wrap (bits BinOp.andNot IntKind.u8 (l[q].toNat : Int) 128) * 2 ^ sh)) = (M : Int) := by
          have hx : l[q].toNat % 128 * 2 ^ sh < 18446744073709551616 := by rw [hs, ← hge]; exact hfit.2
          have hm := hal.2.1
          rw [← hs] at hm
          have h64 : 2 ^ sh ≤ 2 ^ 63 := Nat.pow_le_pow_right (by omega) hsl
          rw [andNot128, wrap64_is, wrap64_is, show ((l[q].toNat % 128 : Nat) : Int) % 18446744073709551616 = ((l[q].toNat % 128 : Nat) : Int) by omega, show ((2 : Int) ^ sh) = ((2 ^ sh : Nat) : Int) by rw [Int.natCast_pow]; rfl, ← Int.natCast_mul,
            show (((l[q].toNat % 128 * 2 ^ sh : Nat) : Int) % 18446744073709551616) = ((l[q].toNat % 128 * 2 ^ sh : Nat) : Int) by omega, or_put _ _ _ hm hx (by omega), hM]
        have HU := Lib.hid (fun w => unfold_any M w hM64)
        by_cases hc : 128 ≤ l[q].toNat
        · have hn := along_next hal hgl (by rw [hge]; exact hb) (by rw [hge]; exact hc)
          have HN := Lib.hid hn.2
          have hi8 := hn.1
          have hs63 : ((sh : Int) == 63) = false := by rw [beq_eq_false_iff_ne]; omega
          have HM := Lib.hid hM
          have HG := Lib.hid hge
          clear hq hs hal r1 hA hge hb hfit hM hn
          go_wp2
          go_step3
          refine ⟨rfl, ⟨rfl, i + 1, M, q + 1, sh + 7, _, _, _, _, _, _, _, _, _, _, _, _, _, _, _, _, _, _, _, _, _, _, _, _, _, _, _, _, _, _, _, _, _, _, _, _, _, _, _, _, _, rfl, by have := HQ.out; omega, by have := HS.out; omega, ?_⟩, ?_⟩
          · rw [HM.out, HS.out, ← HG.out]
            exact HN.out
          · simp [intOf]
            omega
        · have hc' : l[q].toNat < 128 := by omega
          have HM := Lib.hid hM
          have HG := Lib.hid hge
          by_cases h0 : l[q].toNat = 0 ∧ 0 < sh
          · have HN := Lib.hid (along_empty hal hgl (by rw [hge]; exact h0.1) (by omega))
            have h00 : ((l[q].toNat : Int) == 0) = true := by rw [beq_iff_eq]; omega
            have hsp : (0 : Int) < (sh : Int) := by omega
            have hle1 : (l[q].toNat : Int) ≤ 1 := by omega
            have hlt1 : (l[q].toNat : Int) < 128 := by omega
            clear hq hs hal r1 hA hge hb hfit hM h0
            by_cases h63 : sh = 63
            all_goals
              go_wp2
              simp only [Exit.jump]
              go_ret3
              exact ⟨gotI_none HN.out, rfl⟩
          · have HN : Hid (dec 0 (l.drop p) = some (M, i + 1)) := by
              have := along_end hal hgl (by rw [hge]; exact hb) (by rw [hge]; exact hc') (by rw [hge]; omega)
              rw [hge, ← hs, ← hM] at this
              exact this
            have hle1 : sh = 63 → (l[q].toNat : Int) ≤ 1 := by
              intro h
              rcases Nat.lt_or_ge 1 l[q].toNat with h1 | h1
              · exact absurd ⟨by omega, h1⟩ hb
              · omega
            have hlt1 : (l[q].toNat : Int) < 128 := by omega
            have HP : Hid ((q : Int) + 1 = ((p + (i + 1) : Nat) : Int)) := by
              show (q : Int) + 1 = _
              omega
            by_cases h63 : sh = 63
            · have hle2 := hle1 h63
              have h00 : ((l[q].toNat : Int) == 0) = false := by rw [beq_eq_false_iff_ne]; omega
              have hs63 : ((sh : Int) == 63) = true := by rw [beq_iff_eq]; omega
              clear hq hs hal r1 hA hge hb hfit hM h0 h63 hle1
              go_wp2_with (go_at_call 76; refine (HU.out _).mono ?_; rintro e w' ⟨rfl, rfl⟩)
              simp only [Exit.jump]
              go_ret3
              exact ⟨by rw [HP.out]; exact gotI_some HN.out, rfl⟩
            · have hs63 : ((sh : Int) == 63) = false := by rw [beq_eq_false_iff_ne]; omega
              by_cases h1 : l[q].toNat = 0
              · have h00 : ((l[q].toNat : Int) == 0) = true := by rw [beq_iff_eq]; omega
                have hsp : (sh : Int) ≤ 0 := by omega
                clear hq hs hal r1 hA hge hb hfit hM h0 h63 hle1 h1
                go_wp2_with (go_at_call 76; refine (HU.out _).mono ?_; rintro e w' ⟨rfl, rfl⟩)
                simp only [Exit.jump]
                go_ret3
                exact ⟨by rw [HP.out]; exact gotI_some HN.out, rfl⟩
              · have h00 : ((l[q].toNat : Int) == 0) = false := by rw [beq_eq_false_iff_ne]; omega
                clear hq hs hal r1 hA hge hb hfit hM h0 h63 hle1 h1
                go_wp2_with (go_at_call 76; refine (HU.out _).mono ?_; rintro e w' ⟨rfl, rfl⟩)
                simp only [Exit.jump]
                go_ret3
                exact ⟨by rw [HP.out]; exact gotI_some HN.out, rfl⟩
    · clear hA hq hs hal
      go_wp2
      simp only [Exit.jump]
      go_ret3
      exact ⟨gotI_none (along_over HAL.out (by have := HQ.out; rw [List.length_drop]; omega)), rfl⟩
  · intro hpass
    have HP := Lib.hid hpass
    clear hpass
    go_wp2_with fail
    go_step3
    rename_i K ha
    exact ha _ _ (HP.out _ _ ⟨rfl, 0, 0, p, 0, _, _, _, _, _, _, _, _, _, _, _, _, _, _, _, _, _, _, _, _, _, _, _, _, _, _, _, _, _, _, _, _, _, _, _, _, _, _, _, _, _, rfl, rfl, rfl, along_start _⟩)

end Go.Proofs.Ytfikailgjmgnbaa

namespace Go.Proofs.Ytfikailgjmgnbaa
open Go.RowKit

theorem gotI_of {l : List UInt8} {p : Nat} {n : Int} {k : Nat} (h : geti (l.drop p) = some (n, k)) : gotI l p = .tuple #[.int .i64 n, .int .i64 ((p + k : Nat) : Int), .bool true] := by unfold gotI; rw [h]
theorem gotI_no {l : List UInt8} {p : Nat} (h : geti (l.drop p) = none) : gotI l p = .tuple #[.int .i64 0, .int .i64 0, .bool false] := by unfold gotI; rw [h]

section
variable {v : Value} {l : List UInt8} {B p : Nat} {n : Int} {k : Nat} (w : World) (h : Seen w B v l) (hp : p ≤ 4611686018427387904)
include h hp
theorem getint_some (hg : geti (l.drop p) = some (n, k)) : Calls Try.prog 56 #[v, .int .i64 p] w fun e w' => e = .returned (.tuple #[.int .i64 n, .int .i64 ((p + k : Nat) : Int), .bool true]) ∧ w = w' := by
  obtain ⟨A, c, rfl, hh⟩ := h.full
  rw [← gotI_of hg]
  exact getint_at A c l p w hh hp
theorem getint_none (hg : geti (l.drop p) = none) : Calls Try.prog 56 #[v, .int .i64 p] w fun e w' => e = .returned (.tuple #[.int .i64 0, .int .i64 0, .bool false]) ∧ w = w' := by
  obtain ⟨A, c, rfl, hh⟩ := h.full
  rw [← gotI_no hg]
  exact getint_at A c l p w hh hp
end

/-- A number from 0 to a bound that stands in bytes. -/
def upTo (most : Int) (L : List UInt8) : Option (Int × Nat) := match geti L with
  | some (n, k) => if 0 ≤ n ∧ n ≤ most then some (n, k) else none
  | none => none
theorem upTo_is {most : Int} {L : List UInt8} {n : Int} {k : Nat} (h : upTo most L = some (n, k)) : geti L = some (n, k) ∧ 0 ≤ n ∧ n ≤ most := by
  unfold upTo at h
  split at h
  · rename_i n' k' hg
    split at h
    · rename_i hb
      obtain ⟨rfl, rfl⟩ := Prod.mk.inj (Option.some.inj h)
      exact ⟨hg, hb⟩
    · cases h
  · cases h
theorem upTo_no {most : Int} {L : List UInt8} (h : upTo most L = none) : geti L = none ∨ ∃ n k, geti L = some (n, k) ∧ (n < 0 ∨ most < n) := by
  unfold upTo at h
  split at h
  · rename_i n' k' hg
    split at h
    · cases h
    · exact .inr ⟨n', k', hg, by omega⟩
  · exact .inl ‹_›

set_option maxRecDepth 100000 in
theorem upto_some {v : Value} {l : List UInt8} {B p : Nat} {n : Int} {k : Nat} {most : Int} (w : World) (h : Seen w B v l) (hp : p ≤ 4611686018427387904) (hg : upTo most (l.drop p) = some (n, k)) :
    Calls Try.prog 57 #[v, .int .i64 p, .int .i64 most] w fun e w' => e = .returned (.tuple #[.int .i64 n, .int .i64 ((p + k : Nat) : Int), .bool true]) ∧ w = w' := by
  obtain ⟨h1, h2, h3⟩ := upTo_is hg
  have R := Lib.hid (fun w' (h' : Seen w' B v l) => getint_some w' h' hp h1)
  have HS := Lib.hid h
  obtain ⟨q, hq⟩ : ∃ q : Nat, q = p + k := ⟨_, rfl⟩
  rw [← hq] at R ⊢
  clear hg h1 h hq
  go_enter Try.func57, Try.ntmps57
  go_wp2_with (go_at_call 56; (with_reducible refine (R.out _ HS.out).mono ?_); rintro e w' ⟨rfl, rfl⟩)
  go_ret3
  exact ⟨rfl, rfl⟩

set_option maxRecDepth 100000 in
theorem upto_none {v : Value} {l : List UInt8} {B p : Nat} {most : Int} (w : World) (h : Seen w B v l) (hp : p ≤ 4611686018427387904) (hg : upTo most (l.drop p) = none) :
    Calls Try.prog 57 #[v, .int .i64 p, .int .i64 most] w fun e w' => e = .returned (.tuple #[.int .i64 0, .int .i64 0, .bool false]) ∧ w = w' := by
  rcases upTo_no hg with h1 | ⟨n, k, h1, h2⟩
  · have R := Lib.hid (fun w' (h' : Seen w' B v l) => getint_none w' h' hp h1)
    have HS := Lib.hid h
    clear hg h1 h
    go_enter Try.func57, Try.ntmps57
    go_wp2_with (go_at_call 56; (with_reducible refine (R.out _ HS.out).mono ?_); rintro e w' ⟨rfl, rfl⟩)
    go_ret3
    exact ⟨rfl, rfl⟩
  · have R := Lib.hid (fun w' (h' : Seen w' B v l) => getint_some w' h' hp h1)
    have HS := Lib.hid h
    obtain ⟨q, hq⟩ : ∃ q : Nat, q = p + k := ⟨_, rfl⟩
    rw [← hq] at R
    clear hg h1 h hq
    by_cases hn : n < 0
    · clear h2
      go_enter Try.func57, Try.ntmps57
      go_wp2_with (go_at_call 56; (with_reducible refine (R.out _ HS.out).mono ?_); rintro e w' ⟨rfl, rfl⟩)
      go_ret3
      exact ⟨rfl, rfl⟩
    · have h2' : most < n := by omega
      have hn' : 0 ≤ n := by omega
      clear h2 hn
      go_enter Try.func57, Try.ntmps57
      go_wp2_with (go_at_call 56; (with_reducible refine (R.out _ HS.out).mono ?_); rintro e w' ⟨rfl, rfl⟩)
      go_ret3
      exact ⟨rfl, rfl⟩

/-- What a truth's reading comes to. -/
def gotB (l : List UInt8) (p : Nat) : Option UInt8 := match l[p]? with
  | some c => if c.toNat ≤ 1 then some c else none
  | none => none

theorem one_beq (a : Nat) : ((a : Int) == 1) = decide (a = 1) := by
  by_cases h : a = 1
  · subst h; rfl
  · rw [decide_eq_false h, beq_eq_false_iff_ne]; omega

set_option maxRecDepth 100000 in
theorem getbool_some {v : Value} {l : List UInt8} {B p : Nat} (w : World) (h : Seen w B v l) (hp : p < l.length) (hc : l[p].toNat ≤ 1) :
    Calls Try.prog 17 #[v, .int .i64 p] w fun e w' => e = .returned (.tuple #[.bool (decide (l[p].toNat = 1)), .int .i64 ((p + 1 : Nat) : Int), .bool true]) ∧ w = w' := by
  obtain ⟨A, c, rfl, h⟩ := h
  have hl : l.length ≤ maxLen := Nat.le_trans h.1 h.2.1
  unfold maxLen at hl
  obtain ⟨b, off, rfl, r1⟩ := h.row (by omega)
  have e1 := r1 p hp
  have hc' : (l[p].toNat : Int) ≤ 1 := by omega
  have HD := Lib.hid (one_beq l[p].toNat)
  clear h r1 hc
  go_enter Try.func17, Try.ntmps17
  go_wp2
  go_ret3
  exact ⟨by rw [← HD.out]; rfl, rfl⟩

set_option maxRecDepth 100000 in
theorem getbool_none {v : Value} {l : List UInt8} {B p : Nat} (w : World) (h : Seen w B v l) (hp : (hp : p < l.length) → 1 < l[p].toNat) :
    Calls Try.prog 17 #[v, .int .i64 p] w fun e w' => e = .returned (.tuple #[.bool false, .int .i64 0, .bool false]) ∧ w = w' := by
  obtain ⟨A, c, rfl, h⟩ := h
  have hl : l.length ≤ maxLen := Nat.le_trans h.1 h.2.1
  unfold maxLen at hl
  by_cases hpl : p < l.length
  · obtain ⟨b, off, rfl, r1⟩ := h.row (by omega)
    have e1 := r1 p hpl
    have hc' : (1 : Int) < (l[p].toNat : Int) := by have := hp hpl; omega
    clear h r1 hp
    go_enter Try.func17, Try.ntmps17
    go_wp2
    go_ret3
    exact ⟨rfl, rfl⟩
  · clear h hp
    go_enter Try.func17, Try.ntmps17
    go_wp2
    go_ret3
    exact ⟨rfl, rfl⟩

end Go.Proofs.Ytfikailgjmgnbaa

namespace Go.Proofs.Ytfikailgjmgnbaa
open Go.RowKit

theorem conv_at {w : World} {b off : Nat} {l : List UInt8} (h : Row w b off l) (q n c' : Nat) (hq : q + n ≤ l.length) :
    (convert 22 9 (.slice (some ⟨b, off + q, none⟩) n c')).run Try.prog w = .ok (.string ⟨((l.drop q).take n).toArray⟩) w := by
  have hr := (h.drop q).take n
  have hl : ((l.drop q).take n).length = n := by rw [List.length_take, List.length_drop]; omega
  have := run_convert_bytes_back (P := Try.prog) w 22 9 5 ⟨b, off + q, none⟩ c' ((l.drop q).take n) Try.underlying22 Try.underlying5 Try.underlying9 (fun j hj => by rw [Addr.add_lit]; exact hr j hj)
  rw [hl] at this
  exact this

/-- the text of n bytes at q -/
def cutS (l : List UInt8) (q n : Nat) : ByteArray := ⟨((l.drop q).take n).toArray⟩

theorem row_of {w : World} {B : Nat} {A : Option Addr} {c : Nat} {l : List UInt8} {p : Nat} {n : Int} {k : Nat} (h : At w B A c l) (hg : geti (l.drop p) = some (n, k)) : ∃ b off, A = some ⟨b, off, none⟩ ∧ Row w b off l := by
  have h1 := (geti_is hg).2.1
  have h2 := (geti_is hg).2.2.1
  rw [List.length_drop] at h2
  exact h.row (by omega)

section
variable {v : Value} {l : List UInt8} {B p : Nat} {n : Nat} {k : Nat} (w : World) (h : Seen w B v l) (hp : p ≤ 4611686018427387904)
include h hp

set_option maxRecDepth 100000 in
theorem gettext_some (hg : upTo 65536 (l.drop p) = some ((n : Int), k)) (hn : p + k + n ≤ l.length) :
    Calls Try.prog 19 #[v, .int .i64 p] w fun e w' => e = .returned (.tuple #[.string (cutS l (p + k) n), .int .i64 ((p + k + n : Nat) : Int), .bool true]) ∧ w = w' := by
  have h0 := h
  obtain ⟨A, c, rfl, hA⟩ := h
  obtain ⟨b, off, rfl, hr⟩ := row_of hA (upTo_is hg).1
  have R := Lib.hid (fun w' (h' : Seen w' B (.slice (some ⟨b, off, none⟩) l.length c) l) => upto_some w' h' hp hg)
  have hn6 := (upTo_is hg).2.2
  have hlc := hA.1
  have hcm := hA.2.1
  unfold maxLen at hcm
  obtain ⟨q, hq⟩ : ∃ q : Nat, q = p + k := ⟨_, rfl⟩
  rw [← hq] at R hn ⊢
  have HS := Lib.hid h0
  by_cases hqc : q < c
  · have hconv := conv_at hr q n (c - q) hn
    have HC : Hid ((⟨((l.drop q).take n).toArray⟩ : ByteArray) = cutS l q n) := rfl
    generalize (⟨((l.drop q).take n).toArray⟩ : ByteArray) = S at hconv HC
    clear hg h0 hq hA hr
    go_enter Try.func19, Try.ntmps19
    go_wp2_with (go_at_call 57; (with_reducible refine (R.out _ HS.out).mono ?_); rintro e w' ⟨rfl, rfl⟩)
    go_ret3
    exact ⟨by rw [← HC.out]; rfl, rfl⟩
  · obtain rfl : q = c := by omega
    obtain rfl : n = 0 := by omega
    have hconv := conv_at hr 0 0 0 (Nat.zero_le _)
    have HC : Hid ((⟨((l.drop 0).take 0).toArray⟩ : ByteArray) = cutS l q 0) := by
      show _ = _
      unfold cutS
      rw [List.take_zero, List.take_zero]
    generalize (⟨((l.drop 0).take 0).toArray⟩ : ByteArray) = S at hconv HC
    rw [Nat.add_zero] at hconv
    clear hg h0 hq hA hr hqc
    go_enter Try.func19, Try.ntmps19
    go_wp2_with (go_at_call 57; (with_reducible refine (R.out _ HS.out).mono ?_); rintro e w' ⟨rfl, rfl⟩)
    go_ret3
    exact ⟨by rw [← HC.out]; rfl, rfl⟩

/-- nothing stands there that is a text -/
def NoText (l : List UInt8) (p : Nat) : Prop := upTo 65536 (l.drop p) = none ∨ ∃ n k : Nat, upTo 65536 (l.drop p) = some ((n : Int), k) ∧ l.length < p + k + n

set_option maxRecDepth 100000 in
theorem gettext_none (hg : NoText l p) :
    Calls Try.prog 19 #[v, .int .i64 p] w fun e w' => e = .returned (.tuple #[.string ⟨#[]⟩, .int .i64 0, .bool false]) ∧ w = w' := by
  rcases hg with hg | ⟨n, k, hg, hn⟩
  · have R := Lib.hid (fun w' (h' : Seen w' B v l) => upto_none w' h' hp hg)
    have HS := Lib.hid h
    clear hg
    go_enter Try.func19, Try.ntmps19
    go_wp2_with (go_at_call 57; (with_reducible refine (R.out _ HS.out).mono ?_); rintro e w' ⟨rfl, rfl⟩)
    go_ret3
    exact ⟨rfl, rfl⟩
  · have h0 := h
    obtain ⟨A, c, rfl, hA⟩ := h
    have R := Lib.hid (fun w' (h' : Seen w' B (.slice A l.length c) l) => upto_some w' h' hp hg)
    have hn6 := (upTo_is hg).2.2
    have hkl := (geti_is (upTo_is hg).1).2.2.1
    rw [List.length_drop] at hkl
    have hk0 := (geti_is (upTo_is hg).1).2.1
    have hlc := hA.1
    have hcm := hA.2.1
    unfold maxLen at hcm
    obtain ⟨q, hq⟩ : ∃ q : Nat, q = p + k := ⟨_, rfl⟩
    have hql : q ≤ l.length := by omega
    rw [← hq] at R hn
    have HS := Lib.hid h0
    clear hg h0 hq hA hkl hk0
    go_enter Try.func19, Try.ntmps19
    go_wp2_with (go_at_call 57; (with_reducible refine (R.out _ HS.out).mono ?_); rintro e w' ⟨rfl, rfl⟩)
    go_ret3
    exact ⟨rfl, rfl⟩

end
end Go.Proofs.Ytfikailgjmgnbaa

namespace Go.Proofs.Ytfikailgjmgnbaa
open Go.RowKit Flo

def M40 : Int := 1099511627776
theorem in_of {n : Int} (h : 0 ≤ n ∧ n ≤ M40) : In n := ⟨h.1, by have := h.2; unfold M40 at this; omega⟩
theorem fitsB_of {n : Int} (h : 0 ≤ n ∧ n ≤ M40) : fitsB n = true := by
  unfold fitsB; rw [decide_eq_true h.1, decide_eq_true (show n ≤ 1099511627776 from h.2)]; rfl
theorem fitsB_no {n : Int} (h : n < 0 ∨ M40 < n) : fitsB n = false := by
  unfold fitsB
  unfold M40 at h
  rcases h with h | h
  · rw [decide_eq_false (by omega)]; rfl
  · rw [decide_eq_false (show ¬ n ≤ 1099511627776 by omega)]; exact Bool.and_false _

/-- nothing stands there that is a version -/
def NoVer (l : List UInt8) (p : Nat) : Prop := upTo M40 (l.drop p) = none ∨ ∃ e k, upTo M40 (l.drop p) = some (e, k) ∧ upTo M40 (l.drop (p + k)) = none

theorem next_le {l : List UInt8} {p j : Nat} {a : Int} (hl : l.length ≤ 4611686018427387904) (hg : geti (l.drop p) = some (a, j)) : p + j ≤ 4611686018427387904 := by
  have h1 := (geti_is hg).2.2.1
  have h2 := (geti_is hg).2.1
  rw [List.length_drop] at h1
  omega

section
variable {v : Value} {l : List UInt8} {B p : Nat} {a b : Int} {j k : Nat} (w : World) (h : Seen w B v l) (hp : p ≤ 4611686018427387904) (hl : l.length ≤ 4611686018427387904)
include h hp hl

set_option maxRecDepth 100000 in
theorem getver_some (hg : upTo M40 (l.drop p) = some (a, j)) (hg2 : upTo M40 (l.drop (p + j)) = some (b, k)) :
    Calls Try.prog 21 #[v, .int .i64 p] w fun e w' => e = .returned (.tuple #[ver a b, .int .i64 ((p + j + k : Nat) : Int), .bool true]) ∧ w = w' := by
  have R1 := Lib.hid (fun w' (h' : Seen w' B v l) => upto_some w' h' hp hg)
  have hql := next_le hl (upTo_is hg).1
  obtain ⟨q, hq⟩ : ∃ q : Nat, q = p + j := ⟨_, rfl⟩
  rw [← hq] at R1 hg2 hql ⊢
  have R2 := Lib.hid (fun w' (h' : Seen w' B v l) => upto_some w' h' hql hg2)
  have HI := Lib.hid (in_of (upTo_is hg).2)
  have HI2 := Lib.hid (in_of (upTo_is hg2).2)
  have HS := Lib.hid h
  unfold M40 at R1 R2
  clear hg hg2 hq
  go_enter Try.func21, Try.ntmps21
  go_wp2_with (first
    | (go_at_call 57; (with_reducible refine (R1.out _ HS.out).mono ?_); rintro e w' ⟨rfl, rfl⟩)
    | (go_at_call 57; (with_reducible refine (R2.out _ HS.out).mono ?_); rintro e w' ⟨rfl, rfl⟩)
    | (go_at_call 58; (with_reducible refine (make_any _ _ _ HI.out HI2.out).mono ?_); rintro e w' ⟨rfl, rfl⟩))
  go_ret3
  exact ⟨rfl, rfl⟩

set_option maxRecDepth 100000 in
theorem getver_none (hg : NoVer l p) :
    Calls Try.prog 21 #[v, .int .i64 p] w fun e w' => e = .returned (.tuple #[.complex .f64 0 0, .int .i64 0, .bool false]) ∧ w = w' := by
  have HS := Lib.hid h
  rcases hg with hg | ⟨a, j, hg, hg2⟩
  · have R1 := Lib.hid (fun w' (h' : Seen w' B v l) => upto_none w' h' hp hg)
    unfold M40 at R1
    clear hg
    go_enter Try.func21, Try.ntmps21
    go_wp2_with (go_at_call 57; (with_reducible refine (R1.out _ HS.out).mono ?_); rintro e w' ⟨rfl, rfl⟩)
    go_ret3
    exact ⟨rfl, rfl⟩
  · have R1 := Lib.hid (fun w' (h' : Seen w' B v l) => upto_some w' h' hp hg)
    have hql := next_le hl (upTo_is hg).1
    obtain ⟨q, hq⟩ : ∃ q : Nat, q = p + j := ⟨_, rfl⟩
    rw [← hq] at R1 hg2 hql
    have R2 := Lib.hid (fun w' (h' : Seen w' B v l) => upto_none w' h' hql hg2)
    unfold M40 at R1 R2
    clear hg hg2 hq
    go_enter Try.func21, Try.ntmps21
    go_wp2_with (first
      | (go_at_call 57; (with_reducible refine (R1.out _ HS.out).mono ?_); rintro e w' ⟨rfl, rfl⟩)
      | (go_at_call 57; (with_reducible refine (R2.out _ HS.out).mono ?_); rintro e w' ⟨rfl, rfl⟩))
    go_ret3
    exact ⟨rfl, rfl⟩

end
end Go.Proofs.Ytfikailgjmgnbaa
