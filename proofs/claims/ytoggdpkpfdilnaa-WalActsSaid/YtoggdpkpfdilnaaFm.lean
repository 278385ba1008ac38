/-
  Records in a row, each with its sum, in plain mathematics. No program is named here.
-/
import Derived.Test.YtoggdpkpfdilnaaWm
import Derived.Test.YtoggdpkpfdilnaaFnv
namespace Go.Proofs.Ytoggdpkpfdilnaa

/-- A number's lowest bytes, the lowest first. -/
def lowb : Nat → Nat → List UInt8
  | 0, _ => []
  | k + 1, n => by_ (n % 256) :: lowb k (n / 256)
def num : List UInt8 → Nat
  | [] => 0
  | c :: t => c.toNat + 256 * num t
theorem lowb_length : ∀ (k n : Nat), (lowb k n).length = k
  | 0, _ => rfl
  | k + 1, n => by rw [lowb, List.length_cons, lowb_length k]
theorem num_lt : ∀ l : List UInt8, num l < 256 ^ l.length
  | [] => by simp [num]
  | c :: t => by
    have h1 := num_lt t
    have h2 := c.toNat_lt
    rw [num, List.length_cons, Nat.pow_succ]
    omega
theorem num_lowb : ∀ (k n : Nat), n < 256 ^ k → num (lowb k n) = n
  | 0, n, h => by simp at h; simp [lowb, num, h]
  | k + 1, n, h => by
    rw [Nat.pow_succ] at h
    rw [lowb, num, num_lowb k (n / 256) (by omega), by_nat _ (by omega)]
    omega
theorem lowb_num : ∀ l : List UInt8, lowb l.length (num l) = l
  | [] => rfl
  | c :: t => by
    have h2 := c.toNat_lt
    rw [num, List.length_cons, lowb, show (c.toNat + 256 * num t) % 256 = c.toNat by omega, show (c.toNat + 256 * num t) / 256 = num t by omega, by_of, lowb_num t]
theorem lowb_snoc (k n : Nat) : lowb (k + 1) n = lowb k n ++ [by_ (n / 256 ^ k % 256)] := by
  induction k generalizing n with
  | zero => simp [lowb]
  | succ k ih =>
    rw [lowb, ih (n / 256), lowb, List.cons_append, Nat.div_div_eq_div_mul, Nat.pow_succ, Nat.mul_comm 256]

/-- A record's frame. -/
def frame (r : List UInt8) : List UInt8 := lowb 4 r.length ++ (lowb 8 (fnv (lowb 4 r.length ++ r)) ++ r)
theorem frame_length (r : List UInt8) : (frame r).length = 12 + r.length := by
  unfold frame
  rw [List.length_append, List.length_append, lowb_length, lowb_length]
  omega

/-- The record whose frame stands at the head. -/
def first (b : List UInt8) : Option (List UInt8) :=
  if b.length < 12 then none
  else if 16777216 < num (b.take 4) ∨ b.length < 12 + num (b.take 4) then none
  else if frame ((b.drop 12).take (num (b.take 4))) = b.take (12 + num (b.take 4)) then some ((b.drop 12).take (num (b.take 4))) else none

theorem first_short {b : List UInt8} (h : b.length < 12) : first b = none := by unfold first; rw [if_pos h]
theorem first_long {b : List UInt8} (h : ¬ b.length < 12) (h2 : 16777216 < num (b.take 4) ∨ b.length < 12 + num (b.take 4)) : first b = none := by
  unfold first; rw [if_neg h, if_pos h2]
theorem first_yes {b : List UInt8} (h : ¬ b.length < 12) (h2 : ¬ (16777216 < num (b.take 4) ∨ b.length < 12 + num (b.take 4))) (h3 : frame ((b.drop 12).take (num (b.take 4))) = b.take (12 + num (b.take 4))) :
    first b = some ((b.drop 12).take (num (b.take 4))) := by
  unfold first; rw [if_neg h, if_neg h2, if_pos h3]
theorem first_no {b : List UInt8} (h : ¬ b.length < 12) (h2 : ¬ (16777216 < num (b.take 4) ∨ b.length < 12 + num (b.take 4))) (h3 : ¬ frame ((b.drop 12).take (num (b.take 4))) = b.take (12 + num (b.take 4))) :
    first b = none := by
  unfold first; rw [if_neg h, if_neg h2, if_neg h3]

theorem first_is {b r : List UInt8} (h : first b = some r) : frame r = b.take (12 + r.length) ∧ r.length ≤ 16777216 ∧ 12 + r.length ≤ b.length := by
  unfold first at h
  split at h
  · cases h
  · split at h
    · cases h
    · rename_i h2
      split at h
      · rename_i h3
        have e := Option.some.inj h
        have hl : ((b.drop 12).take (num (b.take 4))).length = num (b.take 4) := by
          rw [List.length_take, List.length_drop]; omega
        rw [e] at h3 hl
        rw [hl]
        exact ⟨h3, by omega, by omega⟩
      · cases h

theorem head4 (r x : List UInt8) (h : r.length ≤ 16777216) : num ((frame r ++ x).take 4) = r.length := by
  have e : (frame r ++ x).take 4 = lowb 4 r.length := by
    unfold frame
    rw [List.append_assoc, List.take_append_of_le_length (by rw [lowb_length]; omega), List.take_of_length_le (by rw [lowb_length]; omega)]
  rw [e, num_lowb 4 _ (by omega)]
theorem rest12 (r x : List UInt8) : ((frame r ++ x).drop 12).take r.length = r := by
  have e : frame r = (lowb 4 r.length ++ lowb 8 (fnv (lowb 4 r.length ++ r))) ++ r := by unfold frame; rw [List.append_assoc]
  rw [e, List.append_assoc, List.drop_append_of_le_length (by rw [List.length_append, lowb_length, lowb_length]; omega), List.drop_of_length_le (by rw [List.length_append, lowb_length, lowb_length]; omega), List.nil_append, List.take_left]
theorem first_frame (r x : List UInt8) (h : r.length ≤ 16777216) : first (frame r ++ x) = some r := by
  have h4 := head4 r x h
  have hl := frame_length r
  have hr := rest12 r x
  have := first_yes (b := frame r ++ x) (by rw [List.length_append]; omega) (by rw [h4, List.length_append]; omega) (by
    rw [h4, hr, List.take_append_of_le_length (by omega), List.take_of_length_le (by omega)])
  rw [h4, hr] at this
  exact this
/-- Half a frame is none. -/
theorem first_torn (r : List UInt8) (k : Nat) (h : r.length ≤ 16777216) (hk : k < 12 + r.length) : first ((frame r).take k) = none := by
  have hl := frame_length r
  by_cases h12 : k < 12
  · exact first_short (by rw [List.length_take]; omega)
  · refine first_long (by rw [List.length_take]; omega) (.inr ?_)
    have e : ((frame r).take k).take 4 = (frame r ++ []).take 4 := by rw [List.take_take, List.append_nil, show min 4 k = 4 by omega]
    rw [e, head4 r [] h, List.length_take]
    omega
/-- A frame whose record has turned in one byte is none. -/
theorem first_spoilt (l t : List UInt8) (c d : UInt8) (x : List UInt8) (hne : c ≠ d) (h : (l ++ c :: t).length ≤ 16777216) :
    first (lowb 4 (l ++ c :: t).length ++ (lowb 8 (fnv (lowb 4 (l ++ c :: t).length ++ (l ++ c :: t))) ++ (l ++ d :: t)) ++ x) = none := by
  have hlen : (l ++ c :: t).length = (l ++ d :: t).length := by simp
  generalize hn : (l ++ c :: t).length = n at *
  have e4 : (lowb 4 n ++ (lowb 8 (fnv (lowb 4 n ++ (l ++ c :: t))) ++ (l ++ d :: t)) ++ x).take 4 = lowb 4 n := by
    rw [List.append_assoc, List.take_append_of_le_length (by rw [lowb_length]; omega), List.take_of_length_le (by rw [lowb_length]; omega)]
  have e12 : ((lowb 4 n ++ (lowb 8 (fnv (lowb 4 n ++ (l ++ c :: t))) ++ (l ++ d :: t)) ++ x).drop 12).take n = l ++ d :: t := by
    rw [← List.append_assoc, List.append_assoc, List.drop_append_of_le_length (by rw [List.length_append, lowb_length, lowb_length]; omega), List.drop_of_length_le (by rw [List.length_append, lowb_length, lowb_length]; omega), List.nil_append, hlen, List.take_left]
  have hL : (lowb 4 n ++ (lowb 8 (fnv (lowb 4 n ++ (l ++ c :: t))) ++ (l ++ d :: t)) ++ x).length = 12 + n + x.length := by
    rw [List.length_append, List.length_append, List.length_append, lowb_length, lowb_length, ← hlen]; omega
  have en : num (lowb 4 n) = n := num_lowb 4 n (by omega)
  refine first_no (by omega) (by rw [e4, en]; omega) ?_
  rw [e4, en, e12]
  intro he
  have e20 : (lowb 4 n ++ (lowb 8 (fnv (lowb 4 n ++ (l ++ c :: t))) ++ (l ++ d :: t)) ++ x).take (12 + n) = lowb 4 n ++ (lowb 8 (fnv (lowb 4 n ++ (l ++ c :: t))) ++ (l ++ d :: t)) := by
    rw [List.take_append_of_le_length (by rw [List.length_append, List.length_append, lowb_length, lowb_length, ← hlen]; omega), List.take_of_length_le (by rw [List.length_append, List.length_append, lowb_length, lowb_length, ← hlen]; omega)]
  rw [e20] at he
  unfold frame at he
  rw [← hlen] at he
  have he2 := List.append_cancel_left he
  have he3 := (List.append_inj he2 (by rw [lowb_length, lowb_length])).1
  have a1 := num_lowb 8 (fnv (lowb 4 n ++ (l ++ d :: t))) (fnv_lt _)
  have a2 := num_lowb 8 (fnv (lowb 4 n ++ (l ++ c :: t))) (fnv_lt _)
  rw [he3, a2] at a1
  rw [← List.append_assoc, ← List.append_assoc] at a1
  exact hne (fnv_one _ _ _ _ a1)

/-- The records whose frames stand there, one behind the other, and the place behind. -/
def scan (b : List UInt8) : List (List UInt8) × Nat := match _h : first b with
  | none => ([], 0)
  | some r => (r :: (scan (b.drop (12 + r.length))).1, 12 + r.length + (scan (b.drop (12 + r.length))).2)
termination_by b.length
decreasing_by
  all_goals
    have := first_is _h
    rw [List.length_drop]
    omega
theorem scan_none {b : List UInt8} (h : first b = none) : scan b = ([], 0) := by
  rw [scan]; split <;> simp_all
theorem scan_some {b r : List UInt8} (h : first b = some r) : scan b = (r :: (scan (b.drop (12 + r.length))).1, 12 + r.length + (scan (b.drop (12 + r.length))).2) := by
  rw [scan]; split
  · simp_all
  · rename_i r' h'
    rw [h] at h'
    obtain rfl := Option.some.inj h'
    rfl

/-- Frames, one behind the other. -/
def frames : List (List UInt8) → List UInt8
  | [] => []
  | r :: t => frame r ++ frames t
theorem frames_append : ∀ l m : List (List UInt8), frames (l ++ m) = frames l ++ frames m
  | [], _ => rfl
  | r :: t, m => by rw [List.cons_append, frames, frames, frames_append t m, List.append_assoc]
theorem frames_snoc (l : List (List UInt8)) (r : List UInt8) : frames (l ++ [r]) = frames l ++ frame r := by
  rw [frames_append]; simp [frames]
def Fit (l : List (List UInt8)) : Prop := ∀ r ∈ l, r.length ≤ 16777216
theorem scan_frames : ∀ (l : List (List UInt8)) (x : List UInt8), Fit l → scan (frames l ++ x) = (l ++ (scan x).1, (frames l).length + (scan x).2)
  | [], x, _ => by simp [frames]
  | r :: t, x, h => by
    have h1 : r.length ≤ 16777216 := h r (by simp)
    rw [frames, List.append_assoc, scan_some (first_frame r (frames t ++ x) h1), List.drop_append_of_le_length (by rw [frame_length]; omega), List.drop_of_length_le (by rw [frame_length]; omega), List.nil_append,
      scan_frames t x fun r hr => h r (by simp [hr])]
    simp only [List.cons_append, List.length_append, frame_length, Nat.add_assoc]
theorem scan_again (b : List UInt8) : frames (scan b).1 = b.take (scan b).2 ∧ (scan b).2 ≤ b.length := by
  induction b using scan.induct with
  | case1 b h => rw [scan_none h]; simp [frames]
  | case2 b r h ih =>
    obtain ⟨e1, e2, e3⟩ := first_is h
    obtain ⟨i1, i2⟩ := ih
    rw [List.length_drop] at i2
    rw [scan_some h]
    refine ⟨?_, by show 12 + r.length + _ ≤ _; omega⟩
    show frame r ++ frames _ = b.take (12 + r.length + _)
    rw [i1, e1]
    exact (List.take_add (l := b) (i := 12 + r.length)).symm
theorem scan_fit (b : List UInt8) : Fit (scan b).1 := by
  induction b using scan.induct with
  | case1 b h => rw [scan_none h]; intro r hr; cases hr
  | case2 b r h ih =>
    rw [scan_some h]
    intro x hx
    rcases List.mem_cons.1 hx with rfl | hx
    · exact (first_is h).2.1
    · exact ih x hx

/-- How many of the frames stand wholly in so many bytes. -/
def whole : List (List UInt8) → Nat → Nat
  | [], _ => 0
  | r :: t, k => if 12 + r.length ≤ k then whole t (k - (12 + r.length)) + 1 else 0
theorem scan_torn : ∀ (l : List (List UInt8)) (k : Nat), Fit l → k ≤ (frames l).length → scan ((frames l).take k) = (l.take (whole l k), (frames (l.take (whole l k))).length)
  | [], k, _, _ => by
    have : first [] = none := first_short (by simp)
    simp [frames, whole, scan_none this]
  | r :: t, k, h, hk => by
    have h1 : r.length ≤ 16777216 := h r (by simp)
    have hl := frame_length r
    rw [whole]
    by_cases hw : 12 + r.length ≤ k
    · rw [if_pos hw, frames, List.take_append, List.take_of_length_le (l := frame r) (by omega), scan_some (first_frame r _ h1), List.drop_append_of_le_length (by omega), List.drop_of_length_le (by omega), List.nil_append, hl]
      have hk' : k - (12 + r.length) ≤ (frames t).length := by
        rw [frames, List.length_append] at hk
        omega
      rw [scan_torn t (k - (12 + r.length)) (fun x hx => h x (by simp [hx])) hk', List.take_succ_cons, frames, List.length_append, hl]
    · rw [if_neg hw, frames, List.take_append_of_le_length (by omega), scan_none (first_torn r k h1 (by omega))]
      simp [frames]

end Go.Proofs.Ytoggdpkpfdilnaa
