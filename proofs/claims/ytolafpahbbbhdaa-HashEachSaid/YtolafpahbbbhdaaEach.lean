/-
  What the walk of the law HashEach comes to.
-/
import Derived.Test.YtolafpahbbbhdaaMore
namespace Go.Proofs.Ytolafpahbbbhdaa
open Go.RowKit

theorem each_walk (s r : ByteArray) (m : Nat) (hm : m ≤ 65535) (c : UInt8) (w : World) (hs : s.size ≤ 5000) (hp : 0 < s.size) (a b : Nat)
    (A : Hid (∀ w, Calls Try.prog 8 #[.string s] w fun e w' => e = .returned (.int .u64 (a : Int)) ∧ w = w'))
    (B : Hid (∀ w, Calls Try.prog 8 #[.string r] w fun e w' => e = .returned (.int .u64 (b : Int)) ∧ w = w'))
    (cap : Nat) (C : Array Value) (c0 : Value)
    (hconv : (convert 9 29 (.string s)).run Try.prog w = .ok (.slice (some ⟨w.heap.size, 0, none⟩) s.size cap) (w.drew.alloc (.cells C 5 (C.size, C.size + 1))))
    (hcell : (w.alloc (.cells C 5 (C.size, C.size + 1))).cell? ⟨w.heap.size, m % s.size, none⟩ = some c0)
    (hfz : (w.alloc (.cells C 5 (C.size, C.size + 1))).frozen? ⟨w.heap.size, m % s.size, none⟩ = false)
    (hback : (convert 29 9 (.slice (some ⟨w.heap.size, 0, none⟩) s.size cap)).run Try.prog ((w.alloc (.cells C 5 (C.size, C.size + 1))).setCell ⟨w.heap.size, m % s.size, none⟩ (.int .u8 (c.toNat : Int))).drew = .ok (.string r) ((w.alloc (.cells C 5 (C.size, C.size + 1))).setCell ⟨w.heap.size, m % s.size, none⟩ (.int .u8 (c.toNat : Int))).drew)
    (HQ : Hid ((((a : Int) == (b : Int)) == (s.toList == r.toList)) = true)) :
    Calls Try.prog 5 #[.string s, .int .u16 (m : Int), .int .u8 (c.toNat : Int)] w fun e w' => e = .returned (.bool true) ∧ Below w.heap.size w w' := by
  have hlt : m % s.size < s.size := Nat.mod_lt _ hp
  have hz : ((s.size : Int) == 0) = false := beq_eq_false_iff_ne.2 (by omega)
  have hd : decide (s = ByteArray.empty) = false := decide_eq_false (by rintro rfl; exact absurd hp (by decide))
  have hne : ¬ s = ByteArray.empty := by rintro rfl; exact absurd hp (by decide)
  go_enter Try.func5, Try.ntmps5
  go_wp2_with fail
  (go_at_call 7; refine (awake_true _).mono ?_; rintro e w' ⟨rfl, rfl⟩)
  go_wp2_with fail
  (go_at_call 8; refine (A.out _).mono ?_; rintro e w' ⟨rfl, rfl⟩)
  go_wp2_with fail
  (go_at_call 8; refine (B.out _).mono ?_; rintro e w' ⟨rfl, rfl⟩)
  go_wp2_with fail
  go_ret
  exact ⟨ret_bool HQ.out, (((Below.refl _ _).alloc (Nat.le_refl _) _).setCell (Nat.le_refl _) _).drew⟩

/-- the text with the byte at k turned into c -/
def turned (s : ByteArray) (k : Nat) (c : UInt8) : ByteArray := ⟨(s.data.toList.set k c).toArray⟩

theorem turned_same (s : ByteArray) (k : Nat) (c : UInt8) (hk : k < s.size) :
    fnv s.data.toList = fnv (s.data.toList.set k c) ↔ s.data.toList = s.data.toList.set k c := by
  refine ⟨fun h => ?_, fun h => by rw [← h]⟩
  have hl : k < s.data.toList.length := by simpa using hk
  have e1 : s.data.toList = s.data.toList.take k ++ s.data.toList[k] :: s.data.toList.drop (k + 1) := by
    rw [List.getElem_cons_drop, List.take_append_drop]
  have e2 : s.data.toList.set k c = s.data.toList.take k ++ c :: s.data.toList.drop (k + 1) := List.set_eq_take_append_cons_drop.trans (if_pos hl)
  rw [e2] at h
  have h2 : fnv (s.data.toList.take k ++ s.data.toList[k] :: s.data.toList.drop (k + 1)) = fnv (s.data.toList.take k ++ c :: s.data.toList.drop (k + 1)) := by rw [← e1]; exact h
  have h3 := fnv_one _ _ _ _ h2
  rw [e2, ← h3]
  exact e1

theorem int_beq (a b : Nat) : ((a : Int) == (b : Int)) = decide (a = b) := by
  by_cases h : a = b
  · subst h; simp
  · rw [decide_eq_false h, beq_eq_false_iff_ne]; omega

theorem each_same (s : ByteArray) (k : Nat) (c : UInt8) (hk : k < s.size) :
    (((fnv s.data.toList : Int) == (fnv (s.data.toList.set k c) : Int)) == (s.toList == (turned s k c).toList)) = true := by
  have e : (turned s k c).toList = s.data.toList.set k c := ByteArray.toList_mk _
  rw [e, ByteArray.toList_eq, int_beq, decide_eq_decide.2 (turned_same s k c hk)]
  by_cases h : s.data.toList = s.data.toList.set k c
  · rw [decide_eq_true h, beq_iff_eq.2 h]; rfl
  · rw [decide_eq_false h, beq_eq_false_iff_ne.2 h]; rfl

theorem each_law (s : ByteArray) (n x : Int) (w : World) (hs : s.size ≤ maxLen) (hn : (Lit.int .u16 n).wf = true) (hx : (Lit.int .u8 x).wf = true) :
    Calls Try.prog 5 #[.string s, .int .u16 n, .int .u8 x] w fun e w' => e = .returned (.bool true) ∧ Below w.heap.size w w' := by
  obtain ⟨c, rfl⟩ := byte_of hx
  have hn' : 0 ≤ n ∧ n ≤ 65535 := by
    simp [Lit.wf, IntKind.min, IntKind.max, IntKind.signed, IntKind.bits] at hn
    omega
  obtain ⟨m, rfl⟩ : ∃ m : Nat, n = (m : Int) := ⟨n.toNat, by omega⟩
  clear hn hx
  by_cases h0 : 0 < s.size
  · by_cases h5 : s.size ≤ 5000
    · have hk : m % s.size < s.size := Nat.mod_lt _ h0
      have hC : s.size ≤ (bytesRow s (grownCap w s.size 0 5)).size := by
        unfold bytesRow
        rw [Array.size_append, Array.size_map]
        exact Nat.le_add_right _ _
      have hat : ∀ j, j < s.size → (w.alloc (.cells (bytesRow s (grownCap w s.size 0 5)) 5 ((bytesRow s (grownCap w s.size 0 5)).size, (bytesRow s (grownCap w s.size 0 5)).size + 1))).cell? ⟨w.heap.size, j, none⟩ = (bytesRow s (grownCap w s.size 0 5))[j]? :=
        fun j _ => World.cell?_alloc_mark w _ _ _ _
      refine each_walk s (turned s (m % s.size) c) m (by omega) c w h5 h0 _ _ (Lib.hid (sum_is hs rfl)) (Lib.hid (sum_is ?_ rfl)) (grownCap w s.size 0 5) (bytesRow s (grownCap w s.size 0 5)) _
        (run_bytes_of_string w 9 29 5 s Try.underlying9 Try.underlying29 Try.underlying5) ((hat _ hk).trans (bytesRow_at s _ _ hk)) ?_ ?_ (each_same s _ c hk)
      · show (s.data.toList.set _ c).toArray.size ≤ _
        rw [List.size_toArray, List.length_set]
        simpa using hs
      · rw [World.frozen?_alloc_mark]
        rw [decide_eq_false (by omega)]
        rfl
      · have hl : s.size = (s.data.toList.set (m % s.size) c).length := by rw [List.length_set]; rfl
        have key := run_convert_bytes_back (P := Try.prog) (((w.alloc (.cells (bytesRow s (grownCap w s.size 0 5)) 5 ((bytesRow s (grownCap w s.size 0 5)).size, (bytesRow s (grownCap w s.size 0 5)).size + 1))).setCell ⟨w.heap.size, m % s.size, none⟩ (.int .u8 (c.toNat : Int))).drew) 29 9 5 ⟨w.heap.size, 0, none⟩ (grownCap w s.size 0 5) (s.data.toList.set (m % s.size) c) Try.underlying29 Try.underlying5 Try.underlying9 ?_
        · rw [← hl] at key
          exact key
        · intro j hj
          have hj' : j < s.size := by rw [hl]; exact hj
          show World.cell? _ (Addr.add ⟨w.heap.size, 0, none⟩ j) = _
          rw [Addr.add_lit, Nat.zero_add]
          show ((w.alloc _).setCell _ _).cell? _ = _
          by_cases e : j = m % s.size
          · subst e
            rw [World.cell?_setCell_same _ _ _ ((hat _ hk).trans (bytesRow_at s _ _ hk)), List.getElem_set_self]
          · rw [World.cell?_setCell_other _ _ _ _ (by intro h; apply e; injection h with _ h; exact h.symm), hat _ hj', bytesRow_at s _ _ hj', List.getElem_set_ne (fun h => e h.symm)]
            rfl
    · have h5' : 5000 < s.size := by omega
      have hz : ((s.size : Int) == 0) = false := beq_eq_false_iff_ne.2 (by omega)
      have hne : ¬ s = ByteArray.empty := by rintro rfl; exact absurd h0 (by decide)
      clear h5
      go_enter Try.func5, Try.ntmps5
      go_wp2_with (go_at_call 7; refine (awake_true _).mono ?_; rintro e w' ⟨rfl, rfl⟩)
      go_ret
      exact ⟨rfl, Below.refl _ _⟩
  · have he : s = ByteArray.empty := by
      apply ByteArray.ext
      exact Array.eq_empty_of_size_eq_zero (by show s.size = 0; omega)
    subst he
    go_enter Try.func5, Try.ntmps5
    go_wp2_with (go_at_call 7; refine (awake_true _).mono ?_; rintro e w' ⟨rfl, rfl⟩)
    go_ret
    exact ⟨rfl, Below.refl _ _⟩

end Go.Proofs.Ytolafpahbbbhdaa
