/-
  The document's own frame of a record.
-/
import Derived.Test.YtoggdpkpfdilnaaFr
namespace Go.Proofs.Ytoggdpkpfdilnaa
open Go.RowKit

theorem conv_seen {w : World} {B : Nat} {v : Value} {l : List UInt8} (h : Seen w B v l) : (convert 28 9 v).run Try.prog w = .ok (.string ⟨l.toArray⟩) w := by
  obtain ⟨A, c, rfl, h1, h2, h3⟩ := h
  rcases h3 with rfl | ⟨b, off, rfl, _, _, hr⟩
  · cases A with
    | none =>
      show (convert 28 9 (.slice none 0 c)).run Try.prog w = _
      rw [run_convert_bytes_string w 28 9 5 none 0 c Try.underlying28 Try.underlying5 Try.underlying9]
      rfl
    | some a => exact run_convert_bytes_back w 28 9 5 a c [] Try.underlying28 Try.underlying5 Try.underlying9 (fun j hj => by cases hj)
  · exact run_convert_bytes_back w 28 9 5 ⟨b, off, none⟩ c l Try.underlying28 Try.underlying5 Try.underlying9 (fun j hj => by rw [Addr.add_lit]; exact hr j hj)

/-- an empty slice made now -/
theorem room_new (w : World) : Room (w.alloc (.cells #[] 5)) w.heap.size (.slice (some ⟨w.heap.size, 0, none⟩) 0 0) [] := Room.made w [] 5 (Nat.zero_le _)
theorem Seen.src {P : Program} {w : World} {B : Nat} {v : Value} {l : List UInt8} (h : Seen w B v l) {tx e : TypeId} (hk : P.underlying tx = some (.slice e)) : Src P 1 tx v l.length (c8 l) w := by
  obtain ⟨A, c, rfl, h⟩ := h
  exact h.src hk
/-- An own slice's block is the call's own. -/
def Own (B : Nat) (v : Value) : Prop := ∀ g, v.ownBlock = some g → B ≤ g
theorem own_step {B : Nat} {w : World} {v v' : Value} (h : Own B v) (hB : B ≤ w.heap.size) (hs : ∀ g, v'.ownBlock = some g → v.ownBlock = some g ∨ w.heap.size ≤ g) : Own B v' := by
  intro g hg
  rcases hs g hg with h1 | h1
  · exact h g h1
  · omega
theorem own_new (w : World) (n c : Nat) : Own w.heap.size (.slice (some ⟨w.heap.size, 0, none⟩) n c) := by
  intro g hg
  have : w.heap.size = g := by simpa [Value.ownBlock] using hg
  omega
theorem Room.low {w : World} {B B' : Nat} {v : Value} {l : List UInt8} (h : Room w B v l) (ho : Own B v) (hB : B' ≤ B) : Room w B' v l := by
  rcases h with h | ⟨g, off, cap, rfl, h1, h2, _, h4, h5, h7, h6⟩
  · exact .inl h
  · have hg : B ≤ g := ho g rfl
    exact .inr ⟨g, off, cap, rfl, h1, h2, .inl (Nat.le_trans hB hg), h4, h5, fun _ => h7 hg, h6⟩
theorem str_size (l : List UInt8) : (⟨l.toArray⟩ : ByteArray).size = l.length := rfl
theorem str_cat (l m : List UInt8) : ((⟨l.toArray⟩ : ByteArray) ++ ⟨m.toArray⟩).data.toList = l ++ m := by
  simp

set_option maxRecDepth 10000 in
set_option maxHeartbeats 400000 in
theorem refframe_any (v : Value) (l : List UInt8) (w : World) (hv : Seen w w.heap.size v l) (hl : l.length ≤ 274877906944) :
    Calls Try.prog 35 #[v] w (Gives w.heap.size (frame l) w) := by
  obtain ⟨i0, hi0, hz0, hz1, hz2⟩ := info_parts byte_info
  have L4 := Lib.hid (show ∀ w, Calls Try.prog 50 #[.int .u64 (l.length : Int), .int .i64 4] w (Gives w.heap.size (lowb 4 l.length) w) from fun w => low_any l.length 4 w (by omega) (by omega))
  obtain ⟨l4, hl4⟩ : ∃ x, x = lowb 4 l.length := ⟨_, rfl⟩
  have h4 : l4.length = 4 := by rw [hl4, lowb_length]
  rw [← hl4] at L4
  obtain ⟨S1, hS1⟩ : ∃ x : ByteArray, x = ⟨l4.toArray⟩ := ⟨_, rfl⟩
  obtain ⟨S2, hS2⟩ : ∃ x : ByteArray, x = ⟨l.toArray⟩ := ⟨_, rfl⟩
  have s1 : S1.size ≤ 4 := by rw [hS1, str_size]; omega
  have s2 : S2.size ≤ 274877906944 := by rw [hS2, str_size]; exact hl
  obtain ⟨f, hf⟩ : ∃ f, f = fnv (l4 ++ l) := ⟨_, rfl⟩
  have hf64 : f < 18446744073709551616 := by rw [hf]; exact fnv_lt _
  have SUM := Lib.hid (fun w => rsum_any (S1 ++ S2) w (by
    show (S1 ++ S2).data.toList.toArray.size ≤ _
    rw [hS1, hS2, str_cat, List.size_toArray, List.length_append]
    unfold maxLen
    omega))
  rw [show fnv (S1 ++ S2).data.toList = f by rw [hS1, hS2, str_cat, hf]] at SUM
  have L8 := Lib.hid (show ∀ w, Calls Try.prog 50 #[.int .u64 (f : Int), .int .i64 8] w (Gives w.heap.size (lowb 8 f) w) from fun w => low_any f 8 w hf64 (by omega))
  have HF := Lib.hid (show frame l = l4 ++ (lowb 8 f ++ l) by unfold frame; rw [hf, hl4])
  have P1 : ([] : List UInt8).length + l4.length ≤ 1099511627776 := by simp only [List.length_nil]; omega
  have P2 : l4.length + (lowb 8 f).length ≤ 1099511627776 := by rw [lowb_length]; omega
  have P3 : (l4 ++ lowb 8 f).length + l.length ≤ 1099511627776 := by rw [List.length_append, lowb_length]; omega
  have K1 := Lib.hid hS1
  have K2 := Lib.hid hS2
  clear hl4 h4 hS1 hS2 hf
  have HS := Lib.hid hv
  obtain ⟨A, c, rfl, hA⟩ := hv
  clear hA
  go_enter Try.func35, Try.ntmps35
  go_wp2_with (first
    | (go_at_call 50; (with_reducible refine (L4.out _).mono ?_); rintro e w1 ⟨v1, rfl, hr1, hb1⟩)
    | (at_builtin; refine wpList_append8s (B := w1.heap.size) (l := []) (m := l4) rfl (.tmp 9) (.tmp 10) 28 28 rfl 5 i0 Try.underlying28 hi0 hz0 hz1 hz2 (room_new w1) (by simp) ((hr1.seen.al _).src Try.underlying28) P1 rfl rfl ?_; intro v2 w2 hr2 hb2 ho2; have O2 : Own w1.heap.size v2 := own_step (own_new w1 0 0) (by simp) ho2; have hb12 : Below w1.heap.size w1 w2 := (bal w1 _).trans hb2; have hb02 : Below w.heap.size w w2 := bt hb1 hb12; have C1 := conv_seen (hr1.seen.on hb12); have C2 := conv_seen (HS.out.on hb02); rw [← K1.out] at C1; rw [← K2.out] at C2)
    | (go_at_call 51; (with_reducible refine (SUM.out _).mono ?_); rintro e w' ⟨rfl, rfl⟩)
    | (go_at_call 50; (with_reducible refine (L8.out _).mono ?_); rintro e w3 ⟨v3, rfl, hr3, hb3⟩)
    | (at_builtin; refine wpList_append8s (B := w1.heap.size) (l := l4) (m := lowb 8 f) rfl (.tmp 12) (.tmp 19) 28 28 rfl 5 i0 Try.underlying28 hi0 hz0 hz1 hz2 (hr2.on hb3) (Nat.le_trans hb12.size hb3.size) (hr3.seen.src Try.underlying28) P2 rfl rfl ?_; intro v4 w4 hr4 hb4 ho4; have O4 : Own w1.heap.size v4 := own_step O2 (Nat.le_trans hb12.size hb3.size) ho4; have hb14 : Below w1.heap.size w1 w4 := hb12.trans ((hb3.mono hb12.size).trans hb4); have hb04 : Below w.heap.size w w4 := bt hb1 hb14)
    | (at_builtin; refine wpList_append8s (B := w1.heap.size) (l := l4 ++ lowb 8 f) (m := l) rfl (.tmp 21) (.tmp 22) 28 28 rfl 5 i0 Try.underlying28 hi0 hz0 hz1 hz2 hr4 hb14.size ((HS.out.on hb04).src Try.underlying28) P3 rfl rfl ?_; intro v5 w5 hr5 hb5 ho5; have O5 : Own w1.heap.size v5 := own_step O4 hb14.size ho5))
  go_ret
  exact ⟨v5, rfl, by rw [HF.out, ← List.append_assoc]; exact hr5.low O5 hb1.size, hb04.trans (hb5.mono hb1.size)⟩

end Go.Proofs.Ytoggdpkpfdilnaa
