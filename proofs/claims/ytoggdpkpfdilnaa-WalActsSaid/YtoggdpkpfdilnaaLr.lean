/-
  The document's own Do, of whatever act; what stands between two acts of WalActs.
-/
import Derived.Test.YtoggdpkpfdilnaaLq
import Derived.Test.YtoggdpkpfdilnaaLn
import Derived.Test.YtoggdpkpfdilnaaLi
namespace Go.Proofs.Ytoggdpkpfdilnaa
open Go.RowKit

/-- picture and records behind an act -/
def heldA (k : Nat) (p : List UInt8) (rs : List (List UInt8)) (b : List UInt8) : List UInt8 × List (List UInt8) := if k % 6 = 2 then (p, rs) else if k % 6 = 3 then (b, []) else (p, rs ++ [b])
theorem doc_any (a : Actd) (vb pv rv : Value) (p : List UInt8) (rs : List (List UInt8)) (sf : Int) (w : World) (B : Nat) (F : Nat → Prop) (hB : B ≤ w.heap.size) (hF : ∀ k, F k → k < w.heap.size) (h : HeldIn w B F pv rv p rs) (hs : Seen w B vb a.b) (hn : rs.length ≤ 1000) (hk : a.kind.toNat % 6 < 4) :
    Calls Try.prog 12 #[.agg #[pv, rv, .int .i64 sf], .agg #[.int .u8 (a.kind.toNat : Int), vb, .int .i64 a.keep, .int .i64 a.torn]] w fun e w' => ∃ pv' rv' sf', e = .returned (.agg #[pv', rv', .int .i64 sf']) ∧ HeldIn w' B F pv' rv' (heldA a.kind.toNat p rs a.b).1 (heldA a.kind.toNat p rs a.b).2 ∧ (∀ k, rv'.ownBlock = some k → rv.ownBlock = some k ∨ w.heap.size ≤ k) ∧ Below w.heap.size w w' := by
  unfold heldA
  by_cases h2 : a.kind.toNat % 6 = 2
  · simp only [if_pos h2]
    refine (do_flush a vb pv rv p rs sf w B F hB h hs h2).mono ?_
    rintro e w' ⟨rfl, h3, h4⟩
    exact ⟨_, _, _, rfl, h3, fun _ => .inl, h4⟩
  · simp only [if_neg h2]
    by_cases h3 : a.kind.toNat % 6 = 3
    · simp only [if_pos h3]
      refine (do_save a vb pv rv p rs sf w B F hB h hs h3).mono ?_
      rintro e w' ⟨rfl, h5, h4⟩
      exact ⟨_, _, _, rfl, h5, (fun _ h => nomatch h), h4⟩
    · simp only [if_neg h3]
      refine (do_add a vb pv rv p rs sf w B F hB hF h hs hn (by omega)).mono ?_
      rintro e w' ⟨V, rfl, h5, h6, h4⟩
      exact ⟨_, _, _, rfl, h5, fun k e => .inr (h6 k e), h4⟩

theorem frames_small {p : List UInt8} {rs : List (List UInt8)} {k : Nat} (hp : p.length ≤ 200) (hr : ∀ r ∈ rs, r.length ≤ 200) (hk : rs.length ≤ k) : (frames (p :: rs)).length ≤ 212 * (k + 1) := by
  have ht : ∀ l : List (List UInt8), (∀ r ∈ l, r.length ≤ 200) → total l ≤ 200 * l.length := by
    intro l
    induction l with
    | nil => intro _; simp [total]
    | cons r t ih =>
      intro h
      have h1 := h r (by simp)
      have h2 := ih fun x hx => h x (by simp [hx])
      rw [total, List.length_cons]
      omega
  have h1 : total (p :: rs) = p.length + total rs := rfl
  have h2 := ht rs hr
  rw [frames_len, List.length_cons, h1]
  omega
/-- what stands between two acts: the log, the disk, what is held; so many acts were done -/
def Keeps (g bh k : Nat) (lv : Value) (em : Bool) (W : World) : Prop := ∃ (s : Dsk) (F : Nat → Prop) (pv rv : Value) (p : List UInt8) (rs : List (List UInt8)) (sf : Int) (x : List UInt8),
  (Disk W g g s F ∧ Has s x (1000 * (k + 1)) ∧ LogAt W lv g F ∧ lv ≠ .pointer (some ⟨bh, 0, none⟩)) ∧ (BoxF bh [pv, rv, .int .i64 sf] W ∧ ¬ F bh ∧ HeldIn W g F pv rv p rs ∧ rv.ownBlock ≠ some bh) ∧
    (em = true → x = [] ∧ p = [] ∧ rs = []) ∧ (em = false → x = frames (p :: rs)) ∧ p.length ≤ 200 ∧ (∀ r ∈ rs, r.length ≤ 200) ∧ rs.length ≤ k
theorem Keeps.on {g bh k : Nat} {lv : Value} {em : Bool} {W W' : World} (h : Keeps g bh k lv em W) (hb : Below W.heap.size W W') : Keeps g bh k lv em W' := by
  obtain ⟨s, F, pv, rv, p, rs, sf, x, ⟨h1, h2, h3, h4⟩, ⟨h5, h6, h7, h8⟩, h9⟩ := h
  exact ⟨s, F, pv, rv, p, rs, sf, x, ⟨h1.on hb, h2, h3.on hb, h4⟩, ⟨h5.on hb, h6, h7.on h1.base hb, h8⟩, h9⟩
/-- what stands in front behind an act, and what is held then -/
theorem play_held {em : Bool} {x b p : List UInt8} {rs : List (List UInt8)} {k : Nat} (h1 : em = true → x = [] ∧ p = [] ∧ rs = []) (h2 : em = false → x = frames (p :: rs)) :
    ((em && decide (k % 6 = 2)) = true → playA k x b = [] ∧ (heldA k p rs b).1 = [] ∧ (heldA k p rs b).2 = []) ∧ ((em && decide (k % 6 = 2)) = false → playA k x b = frames ((heldA k p rs b).1 :: (heldA k p rs b).2)) := by
  unfold playA heldA
  by_cases h : k % 6 = 2
  · simp only [if_pos h, decide_eq_true h, Bool.and_true]
    exact ⟨h1, h2⟩
  · simp only [if_neg h, decide_eq_false h, Bool.and_false]
    refine ⟨(fun h => nomatch h), fun _ => ?_⟩
    by_cases h3 : k % 6 = 3
    · simp only [if_pos h3]
      simp [frames]
    · simp only [if_neg h3]
      cases em with
      | true =>
        obtain ⟨rfl, rfl, rfl⟩ := h1 rfl
        rw [lead_nil]
        simp [frames]
      | false =>
        rw [h2 rfl, lead_no (by rw [frames, List.length_append]; have := frame_length p; omega), List.nil_append, ← List.cons_append, frames_snoc]
theorem held_small {b p : List UInt8} {rs : List (List UInt8)} {k n : Nat} (hb : b.length ≤ 200) (hp : p.length ≤ 200) (hr : ∀ r ∈ rs, r.length ≤ 200) (hn : rs.length ≤ n) : (heldA k p rs b).1.length ≤ 200 ∧ (∀ r ∈ (heldA k p rs b).2, r.length ≤ 200) ∧ (heldA k p rs b).2.length ≤ n + 1 := by
  unfold heldA
  by_cases h2 : k % 6 = 2
  · simp only [if_pos h2]
    exact ⟨hp, hr, by omega⟩
  · simp only [if_neg h2]
    by_cases h3 : k % 6 = 3
    · simp only [if_pos h3]
      exact ⟨hb, (fun _ h => by cases h), by simp⟩
    · simp only [if_neg h3]
      refine ⟨hp, fun r hr' => ?_, by rw [List.length_append, List.length_singleton]; omega⟩
      rcases List.mem_append.1 hr' with h | h
      · exact hr r h
      · rw [List.mem_singleton.1 h]; exact hb

theorem Disk.rights {w : World} {B g : Nat} {s : Dsk} {F : Nat → Prop} (h : Disk w B g s F) : s.right := by obtain ⟨_, _, _, _, _, _, _, _, h⟩ := h; exact h
/-- the log's own cell is none of what is held -/
theorem log_apart {W : World} {lv pv rv : Value} {g bh B : Nat} {F : Nat → Prop} {sf : Int} {p : List UInt8} {rs : List (List UInt8)} (h1 : LogAt W lv g F) (h2 : BoxF bh [pv, rv, .int .i64 sf] W) (h3 : HeldIn W B F pv rv p rs) : lv ≠ .pointer (some ⟨bh, 0, none⟩) := by
  rintro rfl
  obtain ⟨b, e, _, _, hc⟩ := h1
  injection e with e
  injection e with e
  injection e with e
  subst e
  obtain ⟨⟨A, c, rfl, _⟩, _⟩ := h3
  rw [h2.get 0 rfl] at hc
  cases hc
/-- held things stored anew -/
theorem LogAt.other {W : World} {lv : Value} {g bh o : Nat} {F : Nat → Prop} (h : LogAt W lv g F) (hne : lv ≠ .pointer (some ⟨bh, 0, none⟩)) (u : Value) : LogAt (W.setCell ⟨bh, o, none⟩ u) lv g F := by
  obtain ⟨b, rfl, hb, hF, hc⟩ := h
  refine ⟨b, rfl, by simpa [World.setCell] using hb, hF, (World.cell?_of_block (a := ⟨b, 0, none⟩) (Below.heap_setCell _ ⟨bh, o, none⟩ _ b (fun e => hne (by rw [show b = bh from e])))).trans hc⟩
theorem Disk.other {W : World} {B g bh o : Nat} {s : Dsk} {F : Nat → Prop} (h : Disk W B g s F) (hF : ¬ F bh) (u : Value) : Disk (W.setCell ⟨bh, o, none⟩ u) B g s F :=
  h.kept (fun k hk => Below.heap_setCell _ ⟨bh, o, none⟩ _ k (show k ≠ bh from fun e => hF (by rw [← e]; exact hk))) (by simp [World.setCell])
theorem Keeps.safe {g bh k : Nat} {lv : Value} {em : Bool} {W : World} (h : Keeps g bh k lv em W) (hgb : g ≤ bh) (n : Int) : Keeps g bh k lv em (W.setCell ⟨bh, 2, none⟩ (.int .i64 n)) := by
  obtain ⟨s, F, pv, rv, p, rs, sf, x, ⟨h1, h2, h3, h4⟩, ⟨h5, h6, h7, h8⟩, h9⟩ := h
  exact ⟨s, F, pv, rv, p, rs, n, x, ⟨h1.other h6 _, h2, h3.other h4 _, h4⟩, ⟨(h5.set 2 (by simp) _ : BoxF bh ([pv, rv, .int .i64 sf].set 2 (.int .i64 n)) _), h6, h7.kept ((Below.refl _ _).setCell hgb _) (fun k hk => Below.heap_setCell _ ⟨bh, 2, none⟩ _ k hk) h8, h8⟩, h9⟩
theorem HeldIn.put3 {W : World} {B bh : Nat} {F : Nat → Prop} {pv rv : Value} {p : List UInt8} {rs : List (List UInt8)} (h : HeldIn W B F pv rv p rs) (hgb : B ≤ bh) (hrv : rv.ownBlock ≠ some bh) (a b c : Value) : HeldIn (put3 W bh a b c) B F pv rv p rs :=
  h.kept (put3_below W hgb a b c) (fun k hk => put3_other W bh a b c k hk) hrv

theorem LogAt.but {W W' : World} {lv : Value} {g bh : Nat} {F : Nat → Prop} (h : LogAt W lv g F) (hne : lv ≠ .pointer (some ⟨bh, 0, none⟩)) (hk : ∀ k, k ≠ bh → k < W.heap.size → W'.heap[k]? = W.heap[k]?) (hs : W.heap.size ≤ W'.heap.size) : LogAt W' lv g F := by
  obtain ⟨b, rfl, hb, hF, hc⟩ := h
  exact ⟨b, rfl, by omega, hF, (World.cell?_of_block (a := ⟨b, 0, none⟩) (hk b (fun e => hne (by rw [e])) hb)).trans hc⟩
theorem Disk.but {W W' : World} {B g bh : Nat} {s : Dsk} {F : Nat → Prop} (h : Disk W B g s F) (hF : ¬ F bh) (hk : ∀ k, k ≠ bh → k < W.heap.size → W'.heap[k]? = W.heap[k]?) (hs : W.heap.size ≤ W'.heap.size) : Disk W' B g s F :=
  h.kept (fun k hk' => hk k (fun e => hF (by rw [← e]; exact hk')) (h.less k hk').2) hs

end Go.Proofs.Ytoggdpkpfdilnaa
