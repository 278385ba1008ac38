/-
  frame.Put: a record's frame, behind whatever there is.
-/
import Derived.Test.YtoggdpkpfdilnaaFi
namespace Go.Proofs.Ytoggdpkpfdilnaa
open Go.RowKit

theorem str_src {P : Program} (w : World) (S : ByteArray) (r : List UInt8) (hS : S = ⟨r.toArray⟩) {tx : TypeId} (hk : P.underlying tx = some .string) : Src P 1 tx (.string S) r.length (c8 r) w := by
  subst hS
  have := src_string (P := P) w hk ⟨r.toArray⟩
  simpa using this

theorem Grew.before {w w1 w2 : World} {B : Nat} {v v2 : Value} {l m : List UInt8} (h : Room w B v l) (hB : B ≤ w.heap.size) (hb : Below w.heap.size w w1) (h2 : Grew w1 B v l m w2 v2) : Grew w B v l m w2 v2 := by
  have := (Grew.quiet h hB hb).trans (n := m) (v2 := v2) (w2 := w2) (by rw [List.append_nil]; exact h2)
  rwa [List.nil_append] at this

set_option maxRecDepth 10000 in
set_option maxHeartbeats 1000000 in
theorem put_grew (v u : Value) (l r : List UInt8) (B : Nat) (w : World) (hv : Room w B v l) (hB : B ≤ w.heap.size) (hu : Seen w w.heap.size u r) (hl : l.length ≤ 16777216) (hr : r.length ≤ 16777216) :
    Calls Try.prog 25 #[v, u] w fun e w' => ∃ v', e = .returned v' ∧ Grew w B v l (frame r) w' v' := by
  obtain ⟨i0, hi0, hz0, hz1, hz2⟩ := info_parts byte_info
  have L4 := Lib.hid (show ∀ W, Calls Try.prog 41 #[.slice none 0 0, .int .u64 (r.length : Int), .int .i64 4] W fun e w' => ∃ v', e = .returned v' ∧ Grew W W.heap.size (.slice none 0 0) [] (lowb 4 r.length) w' v' from fun W => lowf_any _ [] W.heap.size r.length 4 W Room.nil (Nat.le_refl _) (by simp) (by omega) (by omega))
  obtain ⟨l4, hl4⟩ : ∃ x, x = lowb 4 r.length := ⟨_, rfl⟩
  have h4 : l4.length = 4 := by rw [hl4, lowb_length]
  rw [← hl4] at L4
  obtain ⟨S1, hS1⟩ : ∃ x : ByteArray, x = ⟨l4.toArray⟩ := ⟨_, rfl⟩
  obtain ⟨S2, hS2⟩ : ∃ x : ByteArray, x = ⟨r.toArray⟩ := ⟨_, rfl⟩
  have s1 : S1.size ≤ 4 := by rw [hS1, str_size]; omega
  have s1' : S1.size = 4 := by rw [hS1, str_size]; exact h4
  have s2 : S2.size ≤ 16777216 := by rw [hS2, str_size]; exact hr
  have s3 : (4 : Int) ≤ (S1.size : Int) + (S2.size : Int) := by omega
  have EX : Hid ((S1 ++ S2).extract 4 (S1.size + S2.size) = ⟨r.toArray⟩) := by
    show (S1 ++ S2).extract 4 (S1.size + S2.size) = ⟨r.toArray⟩
    rw [← hS2, ← s1', ← ByteArray.size_append]
    exact ext_tail S1 S2
  obtain ⟨f, hf⟩ : ∃ f, f = fnv (l4 ++ r) := ⟨_, rfl⟩
  have hf64 : f < 18446744073709551616 := by rw [hf]; exact fnv_lt _
  have SUM := Lib.hid (fun w => sum_any (S1 ++ S2) w (by
    show (S1 ++ S2).data.toList.toArray.size ≤ _
    rw [hS1, hS2, str_cat, List.size_toArray, List.length_append]
    unfold maxLen
    omega))
  rw [show fnv (S1 ++ S2).data.toList = f by rw [hS1, hS2, str_cat, hf]] at SUM
  have L8 := Lib.hid (show ∀ W B v l, Room W B v l → B ≤ W.heap.size → l.length ≤ 274877906944 → Calls Try.prog 41 #[v, .int .u64 (f : Int), .int .i64 8] W fun e w' => ∃ v', e = .returned v' ∧ Grew W B v l (lowb 8 f) w' v' from fun W B v l h hB hl => lowf_any v l B f 8 W h hB hl hf64 (by omega))
  have HF := Lib.hid (show frame r = l4 ++ (lowb 8 f ++ r) by unfold frame; rw [hf, hl4])
  have P1 : l.length + l4.length ≤ 1099511627776 := by omega
  have P2 : (l ++ l4).length ≤ 274877906944 := by rw [List.length_append]; omega
  have P3 : ((l ++ l4) ++ lowb 8 f).length + r.length ≤ 1099511627776 := by rw [List.length_append, List.length_append, lowb_length]; omega
  have K1 := Lib.hid hS1
  have K2 := Lib.hid hS2
  clear hl4 h4 hS1 hS2 hf s1'
  have HS := Lib.hid hu
  have HV := Lib.hid hv
  obtain ⟨A, c, rfl, hA⟩ := hu
  obtain ⟨A0, c0, rfl, hA0, _, _⟩ := hv.cut
  clear hA
  go_enter Try.func25, Try.ntmps25
  go_wp2_with (first
    | (go_at_call 41; (with_reducible refine (L4.out _).mono ?_); rintro e w1 ⟨v1, rfl, hg1⟩; have hb1 : Below w.heap.size w w1 := hg1.2.1; have hr1 : Room w1 w.heap.size v1 l4 := hg1.1; have C1 := conv_seen hr1.seen; have C2 := conv_seen (HS.out.on hb1); rw [← K1.out] at C1; rw [← K2.out] at C2)
    | (at_builtin; refine wpList_append8o (B := B) (l := l) (m := l4) rfl (.tmp 16) (.tmp 17) 28 28 rfl 5 i0 Try.underlying28 hi0 hz0 hz1 hz2 (HV.out.on hb1) (Nat.le_trans hB hb1.size) (hr1.seen.src Try.underlying28) P1 rfl rfl ?_; intro v2 w2 a1 a2 a3 a4 a5; have hg2 := Grew.before HV.out hB hb1 (Grew.app (HV.out.on hb1) a1 a2 a3 a4 a5); have hr2 : Room w2 B v2 (l ++ l4) := hg2.1; have hB2 : B ≤ w2.heap.size := Nat.le_trans hB hg2.2.1.size)
    | (go_at_call 42; (with_reducible refine (SUM.out _).mono ?_); rintro e w' ⟨rfl, rfl⟩)
    | (go_at_call 41; (with_reducible refine (L8.out _ _ _ _ hr2 hB2 P2).mono ?_); rintro e w3 ⟨v3, rfl, hg3⟩; have hg13 := hg2.trans hg3; have hB3 := Nat.le_trans hB hg13.2.1.size)
    | (at_builtin; refine wpList_append8o (B := B) (l := (l ++ l4) ++ lowb 8 f) (m := r) rfl (.tmp 23) (.tmp 25) 28 9 rfl 5 i0 Try.underlying28 hi0 hz0 hz1 hz2 hg3.1 hB3 (str_src _ _ _ EX.out Try.underlying9) P3 rfl rfl ?_; intro v4 w4 c1 c2 c3 c4 c5; have hg4 := hg2.trans (hg3.trans (Grew.app hg3.1 c1 c2 c3 c4 c5))))
  go_ret
  exact ⟨_, rfl, by rw [HF.out]; exact hg4⟩

end Go.Proofs.Ytoggdpkpfdilnaa
