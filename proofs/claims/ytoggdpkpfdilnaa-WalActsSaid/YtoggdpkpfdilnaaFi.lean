/-
  frame.first: the record whose frame stands at the beginning.
-/
import Derived.Test.YtoggdpkpfdilnaaFl
import Derived.Test.YtoggdpkpfdilnaaLo
import Derived.Test.YtoggdpkpfdilnaaSum
import Derived.Test.YtoggdpkpfdilnaaRs
namespace Go.Proofs.Ytoggdpkpfdilnaa
open Go.RowKit

theorem first_sum {l r : List UInt8} (h : ¬ l.length < 12) (h2 : ¬ (16777216 < num (l.take 4) ∨ l.length < 12 + num (l.take 4))) (hr : r = (l.drop 12).take (num (l.take 4))) :
    (frame r = l.take (12 + num (l.take 4)) ↔ fnv (l.take 4 ++ r) = num ((l.drop 4).take 8)) := by
  have hl4 : (l.take 4).length = 4 := by rw [List.length_take]; omega
  have hl8 : ((l.drop 4).take 8).length = 8 := by rw [List.length_take, List.length_drop]; omega
  have hrl : r.length = num (l.take 4) := by rw [hr, List.length_take, List.length_drop]; omega
  have e4 : lowb 4 r.length = l.take 4 := by have := lowb_num (l.take 4); rwa [hl4, ← hrl] at this
  have et : l.take (12 + num (l.take 4)) = l.take 4 ++ ((l.drop 4).take 8 ++ r) := by
    rw [hr, show 12 + num (l.take 4) = 4 + (8 + num (l.take 4)) by omega, List.take_add, List.take_add, List.drop_drop]
  unfold frame
  rw [e4, et]
  constructor
  · intro e
    have e2 := (List.append_inj (List.append_cancel_left e) (by rw [lowb_length, hl8])).1
    rw [← e2, num_lowb 8 _ (fnv_lt _)]
  · intro e
    have := lowb_num ((l.drop 4).take 8)
    rw [hl8, ← e] at this
    rw [this]

/-- what the reading of one frame comes to -/
def Firsts (l : List UInt8) (w : World) (e : Ending) (w' : World) : Prop :=
  Below w.heap.size w w' ∧ match first l with
    | none => e = .returned (.tuple #[.slice none 0 0, .bool false])
    | some r => ∃ u, e = .returned (.tuple #[u, .bool true]) ∧ Room w' w.heap.size u r ∧ Own w.heap.size u

theorem firsts_none {l : List UInt8} (h : first l = none) {w w' : World} (hb : Below w.heap.size w w') : Firsts l w (.returned (.tuple #[.slice none 0 0, .bool false])) w' := by
  unfold Firsts; rw [h]; exact ⟨hb, rfl⟩

theorem ext_tail (S T : ByteArray) : (S ++ T).extract S.size (S ++ T).size = T := by
  rw [ByteArray.size_append]
  exact ByteArray.extract_append_eq_right rfl rfl

/-- what []byte of a text comes to -/
theorem new_bytes (W : World) (S : ByteArray) (l : List UInt8) (N : Nat) (hS : S = ⟨l.toArray⟩) (hl : l.length ≤ 274877906944) (hN : l.length = N) : ∃ cap C fr, (convert 9 28 (.string S)).run Try.prog W = .ok (.slice (some ⟨W.heap.size, 0, none⟩) N cap) (W.drew.alloc (.cells C 5 fr)) ∧
    Room (W.alloc (.cells C 5 fr)).drew W.heap.size (.slice (some ⟨W.heap.size, 0, none⟩) N cap) l := by
  subst hS
  subst hN
  have hge := grownCap_ge W l.length 0 5
  have hcm := grownCap_le_maxLen W l.length 0 5 (by unfold maxLen; omega)
  refine ⟨_, _, _, run_bytes_of_string W 9 28 5 ⟨l.toArray⟩ Try.underlying9 Try.underlying28 Try.underlying5, ?_⟩
  rw [str_size]
  generalize grownCap W l.length 0 5 = cap at hge hcm
  have hC : (bytesRow ⟨l.toArray⟩ cap).size = cap := by
    unfold bytesRow
    rw [Array.size_append, Array.size_map, Array.size_replicate, str_size]
    show l.toArray.size + _ = _
    rw [List.size_toArray]
    omega
  show Room (W.drew.alloc _) _ _ _
  refine .inr ⟨W.heap.size, 0, cap, rfl, hge, hcm, .inl (Nat.le_refl _), by show W.heap.size < (W.drew.alloc _).heap.size; simp, fun j hj => ?_, fun _ j hj => ?_, fun j hj hc => ?_⟩
  · rw [Nat.zero_add]
    refine (World.cell?_alloc_mark W.drew _ _ _ j).trans ?_
    exact bytesRow_at ⟨l.toArray⟩ cap j (by simpa using hj)
  · rw [Nat.zero_add]
    refine (World.frozen?_alloc_mark W.drew _ _ _ _ j).trans ?_
    rw [hC, decide_eq_false (show ¬ cap ≤ j by omega)]
    rfl
  · rw [Nat.zero_add]
    refine ⟨?_, (World.frozen?_alloc_mark W.drew _ _ _ _ j).trans ?_⟩
    · have e := World.cell?_alloc_mark W.drew (bytesRow ⟨l.toArray⟩ cap) 5 ((bytesRow ⟨l.toArray⟩ cap).size, (bytesRow ⟨l.toArray⟩ cap).size + 1) j
      have e2 : (W.drew.alloc (.cells (bytesRow ⟨l.toArray⟩ cap) 5 ((bytesRow ⟨l.toArray⟩ cap).size, (bytesRow ⟨l.toArray⟩ cap).size + 1))).cell? ⟨W.heap.size, j, none⟩ = (bytesRow ⟨l.toArray⟩ cap)[j]? := e
      rw [e2, Array.getElem?_eq_getElem (by omega)]
      rfl
    · rw [hC, decide_eq_false (show ¬ cap ≤ j by omega)]
      rfl

theorem firsts_some {l r : List UInt8} (h : first l = some r) {w w' : World} {u : Value} (hb : Below w.heap.size w w') (hr : Room w' w.heap.size u r) (ho : Own w.heap.size u) : Firsts l w (.returned (.tuple #[u, .bool true])) w' := by
  unfold Firsts; rw [h]; exact ⟨hb, u, rfl, hr, ho⟩

set_option maxRecDepth 100000 in
set_option maxHeartbeats 1000000 in
theorem first_any (v : Value) (l : List UInt8) (w : World) (hv : Seen w w.heap.size v l) (hl : l.length ≤ 274877906944) :
    Calls Try.prog 44 #[v] w (Firsts l w) := by
  obtain ⟨A, c, rfl, hA⟩ := hv
  have hlc := hA.1
  have hcm := hA.2.1
  unfold maxLen at hcm
  by_cases h12 : l.length < 12
  · have HE := Lib.hid (fun w' (hb : Below w.heap.size w w') => firsts_none (first_short (b := l) h12) hb)
    have h12' : (l.length : Int) < 12 := by omega
    clear hA
    go_enter Try.func44, Try.ntmps44
    go_wp2
    go_ret2
    exact HE.out _ (Below.refl _ _)
  · have HA := Lib.hid hA
    obtain ⟨b, off, rfl, r1⟩ := hA.row (by omega)
    have HS4 : Hid (At w w.heap.size (some ⟨b, off, none⟩) c (l.take 4)) := by
      obtain ⟨h1, h2, h3⟩ := hA
      refine ⟨by rw [List.length_take]; omega, h2, ?_⟩
      rcases h3 with rfl | ⟨b', off', e, hb, hw, hr⟩
      · exact .inl (by rw [List.take_nil])
      · exact .inr ⟨b', off', e, hb, hw, hr.take _⟩
    have L4 := Lib.hid (froml_any _ _ _ _ _ HS4.out (by rw [List.length_take]; omega))
    have hl4 : (l.take 4).length = 4 := by rw [List.length_take]; omega
    rw [hl4] at L4
    obtain ⟨N, hN⟩ : ∃ N, N = num (l.take 4) := ⟨_, rfl⟩
    have hN4 : N < 4294967296 := by have := num_lt (l.take 4); rw [hl4] at this; omega
    rw [← hN] at L4
    have h12' : (12 : Int) ≤ (l.length : Int) := by omega
    by_cases hbad : 16777216 < N ∨ l.length < 12 + N
    · have HE := Lib.hid (fun w' (hb : Below w.heap.size w w') => firsts_none (first_long (b := l) h12 (by rw [← hN]; exact hbad)) hb)
      clear hA r1 hN hl4
      by_cases hbig : 16777216 < N
      · clear hbad
        have hbig' : (16777216 : Int) < (N : Int) := by omega
        go_enter Try.func44, Try.ntmps44
        go_wp2_with (go_at_call 53; refine (L4.out).mono ?_; rintro e w' ⟨rfl, rfl⟩)
        go_ret2
        exact HE.out _ (Below.refl _ _)
      · have hlong : (l.length : Int) - 12 < (N : Int) := by omega
        have hsm : (N : Int) ≤ 16777216 := by omega
        clear hbad hbig
        go_enter Try.func44, Try.ntmps44
        go_wp2_with (go_at_call 53; refine (L4.out).mono ?_; rintro e w' ⟨rfl, rfl⟩)
        go_ret2
        exact HE.out _ (Below.refl _ _)
    · obtain ⟨r, hrd⟩ : ∃ r, r = (l.drop 12).take N := ⟨_, rfl⟩
      have hrl : r.length = N := by rw [hrd, List.length_take, List.length_drop]; omega
      have hsm : (N : Int) ≤ 16777216 := by omega
      have hfit : (N : Int) ≤ (l.length : Int) - 12 := by omega
      have hNI : (N : Int) = (r.length : Int) := by omega
      obtain ⟨S1, hS1⟩ : ∃ x : ByteArray, x = ⟨(l.take 4).toArray⟩ := ⟨_, rfl⟩
      obtain ⟨S2, hS2⟩ : ∃ x : ByteArray, x = ⟨r.toArray⟩ := ⟨_, rfl⟩
      have s1 : S1.size ≤ 4 := by rw [hS1, str_size, hl4]; omega
      have s1' : S1.size = 4 := by rw [hS1, str_size, hl4]
      have s2 : S2.size ≤ 16777216 := by rw [hS2, str_size]; omega
      have s3 : (4 : Int) ≤ (S1.size : Int) + (S2.size : Int) := by omega
      have EX : Hid ((S1 ++ S2).extract 4 (S1.size + S2.size) = ⟨r.toArray⟩) := by
        show (S1 ++ S2).extract 4 (S1.size + S2.size) = ⟨r.toArray⟩
        rw [← hS2, ← s1', ← ByteArray.size_append]
        exact ext_tail S1 S2
      clear s1'
      obtain ⟨F, hF⟩ : ∃ F, F = fnv (l.take 4 ++ r) := ⟨_, rfl⟩
      have SUM : Hid (∀ W, Calls Try.prog 42 #[.string (S1 ++ S2)] W fun e w' => e = .returned (.int .u64 (F : Int)) ∧ W = w') := by
        intro W
        have := sum_any (S1 ++ S2) W (by
          show (S1 ++ S2).data.toList.toArray.size ≤ _
          rw [hS1, hS2, str_cat, List.size_toArray, List.length_append, hl4]
          unfold maxLen
          omega)
        rw [show fnv (S1 ++ S2).data.toList = F by rw [hS1, hS2, str_cat, hF]] at this
        exact this
      obtain ⟨M, hM⟩ : ∃ M, M = num ((l.drop 4).take 8) := ⟨_, rfl⟩
      have hl8 : ((l.drop 4).take 8).length = 8 := by rw [List.length_take, List.length_drop]; omega
      have FS := Lib.hid (first_sum (l := l) (r := r) h12 (by rw [← hN]; exact hbad) (by rw [← hN]; exact hrd))
      rw [← hN, ← hF, ← hM] at FS
      by_cases hcq : c = 12
      · obtain rfl : N = 0 := by omega
        subst hcq
        have C1d : (convert 28 9 (.slice (some ⟨b, off, none⟩) 4 12)).run Try.prog w.drew = .ok (.string S1) w.drew := by
          have := conv_seen (w := w.drew) (B := w.heap.size) (v := .slice (some ⟨b, off, none⟩) 4 12) (l := l.take 4) (by
            have := HS4.out.below (Below.refl w.heap.size w).drew
            exact ⟨_, _, by rw [hl4], this⟩)
          rw [← hS1] at this
          exact this
        have C1 : ∀ n, (convert 28 9 (.slice (some ⟨b, off, none⟩) 4 12)).run Try.prog (w.drewN n) = .ok (.string S1) (w.drewN n) := by
          intro n
          have := conv_seen (w := w.drewN n) (B := w.heap.size) (v := .slice (some ⟨b, off, none⟩) 4 12) (l := l.take 4) (by
            have := HS4.out.below (below_drewN w.heap.size w n)
            exact ⟨_, _, by rw [hl4], this⟩)
          rw [← hS1] at this
          exact this
        have SR : Hid (Seen w w.heap.size (.slice (some ⟨b, off, none⟩) 0 0) r) := by
          have := cut_at HA.out (q := 12) (by rw [hrl]; exact hrd) (by omega) (by omega)
          rw [if_pos rfl, hrl] at this
          exact this
        have C2d : (convert 28 9 (.slice (some ⟨b, off, none⟩) 0 0)).run Try.prog w.drew = .ok (.string S2) w.drew := by
          have := conv_seen (SR.out.below (Below.refl w.heap.size w).drew)
          rw [← hS2] at this
          exact this
        have C2 : ∀ n, (convert 28 9 (.slice (some ⟨b, off, none⟩) 0 0)).run Try.prog (w.drewN n) = .ok (.string S2) (w.drewN n) := by
          intro n
          have := conv_seen (SR.out.below (below_drewN w.heap.size w n))
          rw [← hS2] at this
          exact this
        have L8 : Hid (∀ W, Below w.heap.size w W → Calls Try.prog 53 #[.slice (some ⟨b, off + 4, none⟩) 8 8] W fun e w' => e = .returned (.int .u64 (M : Int)) ∧ W = w') := by
          intro W hW
          have := cut_at (r := (l.drop 4).take 8) HA.out (q := 4) (by rw [hl8]) (by rw [hl8]; omega) (by omega)
          rw [if_neg (by omega), hl8] at this
          obtain ⟨A1, c1, e1, h1⟩ := this
          injection e1 with e1 e2 e3
          subst e1 e3
          have := froml_any _ _ _ _ W (h1.below hW) (Nat.le_of_eq hl8)
          rw [hl8, ← hM] at this
          exact this
        have h4c : (12 : Int) ≤ 12 := by omega
        by_cases hsum : F = M
        · have HE := Lib.hid (first_yes (b := l) h12 (by rw [← hN]; exact hbad) (by rw [← hN, ← hrd]; exact FS.out.2 hsum))
          rw [← hN, ← hrd] at HE
          have hne : ((F : Int) != (M : Int)) = false := by rw [hsum]; simp
          clear hA r1 hN hl4 hrd hNI hS1 hS2 hF hM hl8 hsum
          go_enter Try.func44, Try.ntmps44
          go_wp2_with (go_at_call 53; refine (L4.out).mono ?_; rintro e w' ⟨rfl, rfl⟩)
          go_quiet (fail)
          go_wp2
          generalize hq : World.drewN w _ = w1
          have hb1 : Below w.heap.size w w1 := hq ▸ below_drewN _ _ _
          clear hq
          have Q19 : Hid (∀ n, Calls Try.prog 42 #[.string (S1 ++ S2)] (w1.drewN n) fun e w' => e = .returned (.int .u64 (F : Int)) ∧ ∃ m, w' = w1.drewN m) :=
            fun n => (SUM.out _).mono fun e w' ⟨he, hw⟩ => ⟨he, n, hw.symm⟩
          have Q24 : Hid (∀ n, Calls Try.prog 53 #[.slice (some ⟨b, off + 4, none⟩) 8 8] (w1.drewN n) fun e w' => e = .returned (.int .u64 (M : Int)) ∧ ∃ m, w' = w1.drewN m) :=
            fun n => (L8.out _ (hb1.trans (below_drewN _ _ _))).mono fun e w' ⟨he, hw⟩ => ⟨he, n, hw.symm⟩
          go_quiet (first | (go_at_call 42; exact Q19.out _) | (go_at_call 53; exact Q24.out _))
          generalize hq : World.drewN w1 _ = w2
          have hb2 : Below w.heap.size w w2 := hb1.trans (hq ▸ below_drewN _ _ _)
          clear hq
          obtain ⟨cap, C, fr, hcv, hroom⟩ := new_bytes w2 _ _ _ EX.out (by omega) hrl
          have HR := Lib.hid hroom
          clear hroom
          go_wp2
          go_ret2
          exact firsts_some HE.out (hb2.trans ((Below.refl _ _).drew.alloc hb2.size _)) (HR.out.low (own_new w2 _ _) hb2.size) (fun g hg => Nat.le_trans hb2.size (own_new w2 _ _ g hg))
        · have HE := Lib.hid (first_no (b := l) h12 (by rw [← hN]; exact hbad) (by rw [← hN, ← hrd]; exact fun h => hsum (FS.out.1 h)))
          have hne : ((F : Int) != (M : Int)) = true := by rw [bne_iff_ne]; omega
          clear hA r1 hN hl4 hrd hNI hS1 hS2 hF hM hl8 hsum
          go_enter Try.func44, Try.ntmps44
          go_wp2_with (go_at_call 53; refine (L4.out).mono ?_; rintro e w' ⟨rfl, rfl⟩)
          go_quiet (fail)
          go_wp2
          generalize hq : World.drewN w _ = w1
          have hb1 : Below w.heap.size w w1 := hq ▸ below_drewN _ _ _
          clear hq
          have Q19 : Hid (∀ n, Calls Try.prog 42 #[.string (S1 ++ S2)] (w1.drewN n) fun e w' => e = .returned (.int .u64 (F : Int)) ∧ ∃ m, w' = w1.drewN m) :=
            fun n => (SUM.out _).mono fun e w' ⟨he, hw⟩ => ⟨he, n, hw.symm⟩
          have Q24 : Hid (∀ n, Calls Try.prog 53 #[.slice (some ⟨b, off + 4, none⟩) 8 8] (w1.drewN n) fun e w' => e = .returned (.int .u64 (M : Int)) ∧ ∃ m, w' = w1.drewN m) :=
            fun n => (L8.out _ (hb1.trans (below_drewN _ _ _))).mono fun e w' ⟨he, hw⟩ => ⟨he, n, hw.symm⟩
          go_quiet (first | (go_at_call 42; exact Q19.out _) | (go_at_call 53; exact Q24.out _))
          generalize hq : World.drewN w1 _ = w2
          have hb2 : Below w.heap.size w w2 := hb1.trans (hq ▸ below_drewN _ _ _)
          clear hq
          go_wp2
          go_ret2
          exact firsts_none HE.out hb2
      · have hcq' : 12 < c := by omega
        have C1d : (convert 28 9 (.slice (some ⟨b, off, none⟩) 4 c)).run Try.prog w.drew = .ok (.string S1) w.drew := by
          have := conv_seen (w := w.drew) (B := w.heap.size) (v := .slice (some ⟨b, off, none⟩) 4 c) (l := l.take 4) (by
            have := HS4.out.below (Below.refl w.heap.size w).drew
            exact ⟨_, _, by rw [hl4], this⟩)
          rw [← hS1] at this
          exact this
        have C1 : ∀ n, (convert 28 9 (.slice (some ⟨b, off, none⟩) 4 c)).run Try.prog (w.drewN n) = .ok (.string S1) (w.drewN n) := by
          intro n
          have := conv_seen (w := w.drewN n) (B := w.heap.size) (v := .slice (some ⟨b, off, none⟩) 4 c) (l := l.take 4) (by
            have := HS4.out.below (below_drewN w.heap.size w n)
            exact ⟨_, _, by rw [hl4], this⟩)
          rw [← hS1] at this
          exact this
        have SR : Hid (Seen w w.heap.size (.slice (some ⟨b, off + 12, none⟩) N (c - 12)) r) := by
          have := cut_at HA.out (q := 12) (by rw [hrl]; exact hrd) (by omega) (by omega)
          rw [if_neg hcq, hrl] at this
          exact this
        have C2d : (convert 28 9 (.slice (some ⟨b, off + 12, none⟩) N (c - 12))).run Try.prog w.drew = .ok (.string S2) w.drew := by
          have := conv_seen (SR.out.below (Below.refl w.heap.size w).drew)
          rw [← hS2] at this
          exact this
        have C2 : ∀ n, (convert 28 9 (.slice (some ⟨b, off + 12, none⟩) N (c - 12))).run Try.prog (w.drewN n) = .ok (.string S2) (w.drewN n) := by
          intro n
          have := conv_seen (SR.out.below (below_drewN w.heap.size w n))
          rw [← hS2] at this
          exact this
        have q1 : (4 : Int) ≤ (c : Int) := by omega
        have q2 : (12 : Int) + (N : Int) ≤ (c : Int) := by omega
        have q3 : (0 : Int) ≤ (12 : Int) + (N : Int) := by omega
        have q4 : IntKind.u64.wrap ((12 : Int) + (N : Int)) = 12 + (N : Int) := by rw [wrap64_is]; omega
        have q5 : ((12 : Int) + (N : Int)).toNat = 12 + N := by omega
        have q6 : (12 : Int) ≤ (12 : Int) + (N : Int) := by omega
        have L8 : Hid (∀ W, Below w.heap.size w W → Calls Try.prog 53 #[.slice (some ⟨b, off + 4, none⟩) 8 (c - 4)] W fun e w' => e = .returned (.int .u64 (M : Int)) ∧ W = w') := by
          intro W hW
          have := cut_at (r := (l.drop 4).take 8) HA.out (q := 4) (by rw [hl8]) (by rw [hl8]; omega) (by omega)
          rw [if_neg (by omega), hl8] at this
          obtain ⟨A1, c1, e1, h1⟩ := this
          injection e1 with e1 e2 e3
          subst e1 e3
          have := froml_any _ _ _ _ W (h1.below hW) (Nat.le_of_eq hl8)
          rw [hl8, ← hM] at this
          exact this
        have h4c : (12 : Int) ≤ (c : Int) := by omega
        have h4n : ¬ c = 4 := by omega
        by_cases hsum : F = M
        · have HE := Lib.hid (first_yes (b := l) h12 (by rw [← hN]; exact hbad) (by rw [← hN, ← hrd]; exact FS.out.2 hsum))
          rw [← hN, ← hrd] at HE
          have hne : ((F : Int) != (M : Int)) = false := by rw [hsum]; simp
          clear hA r1 hN hl4 hrd hNI hS1 hS2 hF hM hl8 hsum
          go_enter Try.func44, Try.ntmps44
          go_wp2_with (go_at_call 53; refine (L4.out).mono ?_; rintro e w' ⟨rfl, rfl⟩)
          go_quiet (fail)
          go_wp2
          generalize hq : World.drewN w _ = w1
          have hb1 : Below w.heap.size w w1 := hq ▸ below_drewN _ _ _
          clear hq
          have Q19 : Hid (∀ n, Calls Try.prog 42 #[.string (S1 ++ S2)] (w1.drewN n) fun e w' => e = .returned (.int .u64 (F : Int)) ∧ ∃ m, w' = w1.drewN m) :=
            fun n => (SUM.out _).mono fun e w' ⟨he, hw⟩ => ⟨he, n, hw.symm⟩
          have Q24 : Hid (∀ n, Calls Try.prog 53 #[.slice (some ⟨b, off + 4, none⟩) 8 (c - 4)] (w1.drewN n) fun e w' => e = .returned (.int .u64 (M : Int)) ∧ ∃ m, w' = w1.drewN m) :=
            fun n => (L8.out _ (hb1.trans (below_drewN _ _ _))).mono fun e w' ⟨he, hw⟩ => ⟨he, n, hw.symm⟩
          go_quiet (first | (go_at_call 42; exact Q19.out _) | (go_at_call 53; exact Q24.out _))
          generalize hq : World.drewN w1 _ = w2
          have hb2 : Below w.heap.size w w2 := hb1.trans (hq ▸ below_drewN _ _ _)
          clear hq
          obtain ⟨cap, C, fr, hcv, hroom⟩ := new_bytes w2 _ _ _ EX.out (by omega) hrl
          have HR := Lib.hid hroom
          clear hroom
          go_wp2
          go_ret2
          exact firsts_some HE.out (hb2.trans ((Below.refl _ _).drew.alloc hb2.size _)) (HR.out.low (own_new w2 _ _) hb2.size) (fun g hg => Nat.le_trans hb2.size (own_new w2 _ _ g hg))
        · have HE := Lib.hid (first_no (b := l) h12 (by rw [← hN]; exact hbad) (by rw [← hN, ← hrd]; exact fun h => hsum (FS.out.1 h)))
          have hne : ((F : Int) != (M : Int)) = true := by rw [bne_iff_ne]; omega
          clear hA r1 hN hl4 hrd hNI hS1 hS2 hF hM hl8 hsum
          go_enter Try.func44, Try.ntmps44
          go_wp2_with (go_at_call 53; refine (L4.out).mono ?_; rintro e w' ⟨rfl, rfl⟩)
          go_quiet (fail)
          go_wp2
          generalize hq : World.drewN w _ = w1
          have hb1 : Below w.heap.size w w1 := hq ▸ below_drewN _ _ _
          clear hq
          have Q19 : Hid (∀ n, Calls Try.prog 42 #[.string (S1 ++ S2)] (w1.drewN n) fun e w' => e = .returned (.int .u64 (F : Int)) ∧ ∃ m, w' = w1.drewN m) :=
            fun n => (SUM.out _).mono fun e w' ⟨he, hw⟩ => ⟨he, n, hw.symm⟩
          have Q24 : Hid (∀ n, Calls Try.prog 53 #[.slice (some ⟨b, off + 4, none⟩) 8 (c - 4)] (w1.drewN n) fun e w' => e = .returned (.int .u64 (M : Int)) ∧ ∃ m, w' = w1.drewN m) :=
            fun n => (L8.out _ (hb1.trans (below_drewN _ _ _))).mono fun e w' ⟨he, hw⟩ => ⟨he, n, hw.symm⟩
          go_quiet (first | (go_at_call 42; exact Q19.out _) | (go_at_call 53; exact Q24.out _))
          generalize hq : World.drewN w1 _ = w2
          have hb2 : Below w.heap.size w w2 := hb1.trans (hq ▸ below_drewN _ _ _)
          clear hq
          go_wp2
          go_ret2
          exact firsts_none HE.out hb2

end Go.Proofs.Ytoggdpkpfdilnaa
