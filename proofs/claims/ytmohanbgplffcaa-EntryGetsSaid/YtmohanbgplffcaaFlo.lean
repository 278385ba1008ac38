/-
  Numbers from 0 to 2^53 as float64: what they stand for, how they are compared, added, cut to whole numbers. No program is named here.
-/
import Derived.WalkLawsBesides
namespace Go.Proofs.Ytmohanbgplffcaa
namespace Flo
open Ieee

theorem log2_mul_pow (q k : Nat) (hq : q ≠ 0) : (q * 2 ^ k).log2 = q.log2 + k := by
  have h1 := Nat.log2_self_le hq
  have h2 := @Nat.lt_log2_self q
  have hp : 0 < 2 ^ k := Nat.two_pow_pos k
  have hne : q * 2 ^ k ≠ 0 := by
    intro h
    rcases Nat.mul_eq_zero.1 h with h | h <;> omega
  refine (Nat.log2_eq_iff hne).2 ⟨?_, ?_⟩
  · rw [Nat.pow_add]; exact Nat.mul_le_mul_right _ h1
  · rw [show q.log2 + k + 1 = (q.log2 + 1) + k from by omega, Nat.pow_add]
    exact Nat.mul_lt_mul_of_pos_right h2 hp

theorem cut_exact (way : Toward) (neg : Bool) (n drop q : Nat) (h : n = q * 2 ^ drop) : way.cut neg n drop = q := by
  subst h
  unfold Toward.cut
  by_cases hq : q = 0
  · subst hq
    have hg : 0 < 1 <<< min drop (0 * 2 ^ drop).log2.succ.succ := by
      rw [Nat.shiftLeft_eq, Nat.one_mul]; exact Nat.two_pow_pos _
    cases way <;> simp
    all_goals (first | done | (rw [Nat.one_shiftLeft]; exact Nat.two_pow_pos _) | (intro h; rw [Nat.shiftLeft_eq, Nat.one_mul] at h; have := Nat.two_pow_pos (min drop ((0:Nat).log2 + 2)); simp at this; omega))
  · have hm : min drop ((q * 2 ^ drop).log2 + 2) = drop := by rw [log2_mul_pow q drop hq]; omega
    have hp : 0 < 2 ^ drop := Nat.two_pow_pos drop
    simp only [hm, Nat.one_shiftLeft]
    rw [Nat.mul_div_cancel _ hp, Nat.mul_mod_left]
    cases way <;> simp <;> omega

/-- How far below the point the last digit is. -/
def U : Nat := 1074
theorem U_eq : U = 1074 := rfl

/-- The value of a datum, in units of 2^-1074. -/
def dval : Datum → Int
  | .number s m i => signed s m (i + (U : Int)).toNat
  | _ => 0

theorem signed_eq (s : Bool) (m k : Nat) : signed s m k = (if s then -1 else 1) * (m : Int) * 2 ^ k := by
  unfold signed
  rw [Nat.shiftLeft_eq]
  cases s <;> simp <;> push_cast <;> (try rw [Int.neg_mul])

theorem signed_add (s : Bool) (m j k : Nat) : signed s m (j + k) = signed s m j * 2 ^ k := by
  rw [signed_eq, signed_eq, Int.pow_add, Int.mul_assoc, Int.mul_assoc, Int.mul_assoc]

theorem cmp_lt {a b : Int} (h : a < b) : compare a b = .lt := by simp [compare, compareOfLessAndEq, h]
theorem cmp_gt {a b : Int} (h : b < a) : compare a b = .gt := by
  have h1 : ¬ a < b := by omega
  have h2 : ¬ a = b := by omega
  simp [compare, compareOfLessAndEq, h1, h2]
theorem cmp_eq (a : Int) : compare a a = .eq := by simp [compare, compareOfLessAndEq]

theorem compare_mul (a b : Int) (k : Nat) : compare (a * 2 ^ k) (b * 2 ^ k) = compare a b := by
  have hp : (0 : Int) < 2 ^ k := Int.pow_pos (by decide)
  rcases Int.lt_trichotomy a b with h | h | h
  · rw [cmp_lt h, cmp_lt (Int.mul_lt_mul_of_pos_right h hp)]
  · subst h; rw [cmp_eq, cmp_eq]
  · rw [cmp_gt h, cmp_gt (Int.mul_lt_mul_of_pos_right h hp)]

theorem order_val (s t : Bool) (m n : Nat) (i j : Int) (hi : -(U : Int) ≤ i) (hj : -(U : Int) ≤ j) :
    Datum.order (.number s m i) (.number t n j) = some (compare (dval (.number s m i)) (dval (.number t n j))) := by
  simp only [Datum.order, dval]
  congr 1
  have e1 : (i + (U : Int)).toNat = (i - min i j).toNat + (min i j + (U : Int)).toNat := by omega
  have e2 : (j + (U : Int)).toNat = (j - min i j).toNat + (min i j + (U : Int)).toNat := by omega
  rw [e1, e2, signed_add, signed_add, compare_mul]

theorem rung_le {L x B : Nat} (hl : L ≤ 52) (hx : x < 2 * B) : (L + 1022) * B + x ≤ 2047 * B := by
  have : (L + 1022) * B ≤ 1074 * B := Nat.mul_le_mul_right _ (by omega)
  omega

theorem rung_parts {L x B : Nat} (hl : L ≤ 52) (h1 : B ≤ x) (h2 : x < 2 * B) :
    B ≤ (L + 1022) * B + x ∧ (L + 1022) * B + x < 2047 * B ∧ (L + 1022) * B + x < 2048 * B ∧ ((L + 1022) * B + x) / B = L + 1023 ∧ B + ((L + 1022) * B + x) % B = x := by
  have hB : 0 < B := by omega
  have h : (L + 1022) * B ≤ 1074 * B := Nat.mul_le_mul_right _ (by omega)
  obtain ⟨y, rfl⟩ := Nat.exists_eq_add_of_le h1
  have hy : y < B := by omega
  have e : (L + 1022) * B + (B + y) = y + (L + 1023) * B := by
    rw [show L + 1023 = (L + 1022) + 1 from rfl, Nat.add_mul (L + 1022) 1 B, Nat.one_mul]; omega
  refine ⟨by omega, by omega, by omega, ?_, ?_⟩
  · rw [e, Nat.add_mul_div_right _ _ hB, Nat.div_eq_of_lt hy]; omega
  · rw [e, Nat.add_mul_mod_self_right, Nat.mod_eq_of_lt hy]

/-- The word of a whole number, below 2^53, of whatever length it is written. -/
theorem nearest_exact (N k : Nat) (hN : N ≠ 0) (hlt : N < 2 ^ 53) :
    double.nearest false (N * 2 ^ k) (-(k : Int)) = (N.log2 + 1022) * 2 ^ 52 + N * 2 ^ (52 - N.log2) := by
  have hl : N.log2 ≤ 52 := by
    have := (Nat.log2_lt hN).2 hlt
    omega
  have hne : N * 2 ^ k ≠ 0 := by
    intro h
    rcases Nat.mul_eq_zero.1 h with h | h
    · exact hN h
    · have := Nat.two_pow_pos k; omega
  have hlog : (N * 2 ^ k).log2 = N.log2 + k := log2_mul_pow N k hN
  have hleast : double.leastPlace = -1074 := by decide
  have hlast : max (-(k : Int) + ((N * 2 ^ k).log2 : Int) - (double.fractionBits : Int)) double.leastPlace = (N.log2 : Int) - 52 := by
    rw [hlog, hleast]
    show max (-(k : Int) + ((N.log2 + k : Nat) : Int) - 52) (-1074) = _
    omega
  unfold Format.nearest
  rw [if_neg hne]
  simp only [hlast]
  have hcut : Toward.even.cut false ((N * 2 ^ k) <<< (-(k : Int) - ((N.log2 : Int) - 52)).toNat) (((N.log2 : Int) - 52) - (-(k : Int))).toNat = N * 2 ^ (52 - N.log2) := by
    refine cut_exact _ _ _ _ _ ?_
    rw [Nat.shiftLeft_eq, Nat.mul_assoc, Nat.mul_assoc, ← Nat.pow_add, ← Nat.pow_add]
    congr 2
    omega
  rw [hcut, hleast]
  have h1 : ((N.log2 : Int) - 52 - -1074).toNat = N.log2 + 1022 := by omega
  rw [h1]
  have hb : double.binade = 2 ^ 52 := rfl
  have hi : double.infRung = 2047 * 2 ^ 52 := by decide
  have hw : N * 2 ^ (52 - N.log2) < 2 ^ 53 := by
    have := @Nat.lt_log2_self N
    calc N * 2 ^ (52 - N.log2) < 2 ^ (N.log2 + 1) * 2 ^ (52 - N.log2) := Nat.mul_lt_mul_of_pos_right this (Nat.two_pow_pos _)
      _ = 2 ^ 53 := by rw [← Nat.pow_add]; congr 1; omega
  rw [hb, hi, Nat.min_eq_left]
  · rfl
  · exact rung_le hl (show _ < 2 * 2 ^ 52 from hw)

theorem kept_bounds (N : Nat) (hN : N ≠ 0) (hlt : N < 2 ^ 53) : 2 ^ 52 ≤ N * 2 ^ (52 - N.log2) ∧ N * 2 ^ (52 - N.log2) < 2 * 2 ^ 52 := by
  have hl : N.log2 ≤ 52 := by
    have := (Nat.log2_lt hN).2 hlt
    omega
  constructor
  · calc 2 ^ 52 = 2 ^ N.log2 * 2 ^ (52 - N.log2) := by rw [← Nat.pow_add]; congr 1; omega
      _ ≤ _ := Nat.mul_le_mul_right _ (Nat.log2_self_le hN)
  · have := @Nat.lt_log2_self N
    calc N * 2 ^ (52 - N.log2) < 2 ^ (N.log2 + 1) * 2 ^ (52 - N.log2) := Nat.mul_lt_mul_of_pos_right this (Nat.two_pow_pos _)
      _ = 2 * 2 ^ 52 := by rw [← Nat.pow_add, ← Nat.pow_succ']; congr 1; omega

/-- What the word of a whole number is read as. -/
theorem read_nearest (N : Nat) (hN : N ≠ 0) (hlt : N < 2 ^ 53) :
    double.read ((N.log2 + 1022) * 2 ^ 52 + N * 2 ^ (52 - N.log2)) = .number false (N * 2 ^ (52 - N.log2)) ((N.log2 : Int) - 52) := by
  have hl : N.log2 ≤ 52 := by
    have := (Nat.log2_lt hN).2 hlt
    omega
  obtain ⟨h1, h2⟩ := kept_bounds N hN hlt
  generalize N * 2 ^ (52 - N.log2) = x at h1 h2
  generalize hL : N.log2 = L at hl
  have hs : double.signWeight = 2 ^ 63 := rfl
  have hb : double.binade = 2 ^ 52 := rfl
  have hi : double.infRung = 2047 * 2 ^ 52 := by decide
  have hleast : double.leastPlace = -1074 := by decide
  have h63 : (2 : Nat) ^ 63 = 2048 * 2 ^ 52 := by decide
  obtain ⟨p1, p2, p3, p4, p5⟩ := rung_parts hl h1 h2
  unfold Format.read
  simp only [hs, hb, hi, hleast, h63]
  rw [Nat.div_eq_of_lt p3, Nat.mod_eq_of_lt p3, if_neg (Nat.not_lt.2 p1), if_pos p2, p4, p5]
  have hz : (-1074 : Int) + ((L + 1023 - 1 : Nat) : Int) = (L : Int) - 52 := by omega
  rw [hz]
  rfl

/-- What a datum is, if it is a number of the format: its place is no less than the least one. -/
def Fine : Datum → Prop
  | .number _ _ i => -(U : Int) ≤ i
  | _ => False

/-- The value 'n' in units of 2^-1074. -/
def units (n : Nat) : Int := (n : Int) * 2 ^ U

/-- The word of a whole number. -/
def fw (n : Nat) : Nat := double.nearest false n 0

theorem fw_zero : fw 0 = 0 := rfl
theorem fw_pos (N : Nat) (hN : N ≠ 0) (hlt : N < 2 ^ 53) : fw N = (N.log2 + 1022) * 2 ^ 52 + N * 2 ^ (52 - N.log2) := by
  have := nearest_exact N 0 hN hlt
  rw [← this]
  unfold fw
  rw [Nat.pow_zero, Nat.mul_one]
  rfl

theorem read_zero : double.read 0 = .number false 0 (-1074) := by decide

/-- What the word of a whole number is read as: its digits, and their place, which is not above 0. -/
theorem read_fw (N : Nat) (hlt : N < 2 ^ 53) : ∃ k : Nat, k ≤ U ∧ double.read (fw N) = .number false (N * 2 ^ k) (-(k : Int)) := by
  by_cases hN : N = 0
  · subst hN
    exact ⟨U, by omega, by rw [fw_zero, read_zero, Nat.zero_mul]; rfl⟩
  · have hl : N.log2 ≤ 52 := by
      have := (Nat.log2_lt hN).2 hlt
      omega
    refine ⟨52 - N.log2, by rw [U_eq]; omega, ?_⟩
    rw [fw_pos N hN hlt, read_nearest N hN hlt]
    have hz : (N.log2 : Int) - 52 = -((52 - N.log2 : Nat) : Int) := by omega
    rw [hz]

theorem nearest_fw (N k : Nat) (hlt : N < 2 ^ 53) : double.nearest false (N * 2 ^ k) (-(k : Int)) = fw N := by
  by_cases hN : N = 0
  · subst hN
    rw [Nat.zero_mul]
    unfold fw Format.nearest
    rw [if_pos rfl, if_pos rfl]
  · rw [nearest_exact N k hN hlt, fw_pos N hN hlt]

theorem dval_shift (N k : Nat) (hk : k ≤ U) : dval (.number false (N * 2 ^ k) (-(k : Int))) = units N := by
  have e : (-(k : Int) + (U : Int)).toNat = U - k := by omega
  simp only [dval, e]
  unfold units
  rw [signed_eq]
  simp only [Bool.false_eq_true, if_false, Int.one_mul]
  rw [show ((N * 2 ^ k : Nat) : Int) = (N : Int) * 2 ^ k from by simp, Int.mul_assoc, ← Int.pow_add]
  congr 2
  omega

theorem units_lt {a b : Nat} : units a < units b ↔ a < b := by
  have hp : (0 : Int) < 2 ^ U := Int.pow_pos (by decide)
  unfold units
  constructor
  · intro h
    have := Int.lt_of_mul_lt_mul_right h (Int.le_of_lt hp)
    omega
  · intro h
    exact Int.mul_lt_mul_of_pos_right (by omega) hp

/-- Two words of whole numbers stand to each other as the numbers do. -/
theorem order_fw (a b : Nat) (ha : a < 2 ^ 53) (hb : b < 2 ^ 53) : double.order (fw a) (fw b) = some (compare a b) := by
  obtain ⟨j, hj, e1⟩ := read_fw a ha
  obtain ⟨k, hk, e2⟩ := read_fw b hb
  unfold Format.order
  rw [e1, e2, order_val _ _ _ _ _ _ (by omega) (by omega), dval_shift a j hj, dval_shift b k hk]
  refine congrArg some ?_
  rcases Nat.lt_trichotomy a b with h | h | h
  · rw [cmp_lt (units_lt.2 h), Nat.compare_eq_lt.2 h]
  · subst h; rw [cmp_eq, Nat.compare_eq_eq.2 rfl]
  · rw [cmp_gt (units_lt.2 h), Nat.compare_eq_gt.2 h]

theorem signed_pos (m k : Nat) : signed false m k = ((m * 2 ^ k : Nat) : Int) := by
  rw [signed_eq]; simp

theorem sum_fw (a b j k : Nat) : Datum.sum (.number false (a * 2 ^ j) (-(j : Int))) (.number false (b * 2 ^ k) (-(k : Int))) = some (.number false ((a + b) * 2 ^ max j k) (-((max j k : Nat) : Int))) := by
  have hm : min (-(j : Int)) (-(k : Int)) = -((max j k : Nat) : Int) := by omega
  have e1 : (-(j : Int) - -((max j k : Nat) : Int)).toNat = max j k - j := by omega
  have e2 : (-(k : Int) - -((max j k : Nat) : Int)).toNat = max j k - k := by omega
  simp only [Datum.sum, hm, e1, e2, signed_pos]
  have f1 : a * 2 ^ j * 2 ^ (max j k - j) = a * 2 ^ max j k := by
    rw [Nat.mul_assoc, ← Nat.pow_add]; congr 2; omega
  have f2 : b * 2 ^ k * 2 ^ (max j k - k) = b * 2 ^ max j k := by
    rw [Nat.mul_assoc, ← Nat.pow_add]; congr 2; omega
  rw [f1, f2, ← Int.natCast_add, ← Nat.add_mul]
  generalize (a + b) * 2 ^ max j k = T
  congr 1
  have h1 : (if ((T : Nat) : Int) = 0 then (false && false) else decide (((T : Nat) : Int) < 0)) = false := by
    split
    · rfl
    · exact decide_eq_false (by omega)
  rw [h1]
  rfl

/-- The sum of two whole numbers. -/
theorem add_fw (a b : Nat) (h : a + b < 2 ^ 53) : double.add (fw a) (fw b) = some (fw (a + b)) := by
  obtain ⟨j, hj, e1⟩ := read_fw a (by omega)
  obtain ⟨k, hk, e2⟩ := read_fw b (by omega)
  unfold Format.add
  rw [e1, e2, sum_fw]
  show some (double.nearest false ((a + b) * 2 ^ max j k) (-((max j k : Nat) : Int))) = _
  rw [nearest_fw _ _ h]

theorem toInt_fw (a : Nat) (h : a < 2 ^ 53) : (double.read (fw a)).toInt .zero = some (a : Int) := by
  obtain ⟨k, hk, e⟩ := read_fw a h
  rw [e]
  simp only [Datum.toInt, Datum.integral]
  have hc : Toward.zero.cut false ((a * 2 ^ k) <<< (-(k : Int)).toNat) (- -(k : Int)).toNat = a := by
    refine cut_exact _ _ _ _ _ ?_
    have e1 : (-(k : Int)).toNat = 0 := by omega
    have e2 : (- -(k : Int)).toNat = k := by omega
    rw [e1, e2, Nat.shiftLeft_zero]
  rw [hc, signed_pos, Nat.pow_zero, Nat.mul_one]

/-! ### In the walk's own words -/

/-- The word of a whole number that is no less than 0. -/
def F (n : Int) : Nat := fw n.toNat
/-- What the laws here speak of: a number from 0 to 2^42. -/
def In (n : Int) : Prop := 0 ≤ n ∧ n ≤ 4398046511104

theorem in_lt {n : Int} (h : In n) : n.toNat < 2 ^ 53 := by
  obtain ⟨h1, h2⟩ := h
  have : (2 : Nat) ^ 53 = 9007199254740992 := by decide
  omega

theorem floatOfInt_F {n : Int} (h : In n) : floatOfInt .f64 n = F n := by
  obtain ⟨h1, h2⟩ := h
  show double.nearest (decide (n < 0)) n.natAbs 0 = fw n.toNat
  rw [decide_eq_false (by omega), show n.natAbs = n.toNat from by omega]
  rfl

theorem F_wf (n : Int) : (Lit.float .f64 (F n)).wf = true := wf_of_lt .f64 _ (double.nearest_lt false n.toNat 0)

theorem order_F {a b : Int} (ha : In a) (hb : In b) : FloatKind.f64.format.order (F a) (F b) = some (compare a.toNat b.toNat) :=
  order_fw _ _ (in_lt ha) (in_lt hb)

theorem lt_F {a b : Int} (ha : In a) (hb : In b) : (FloatKind.f64.format.order (F a) (F b) == some .lt) = decide (a < b) := by
  rw [order_F ha hb]
  obtain ⟨h1, _⟩ := ha
  obtain ⟨h2, _⟩ := hb
  rcases Nat.lt_trichotomy a.toNat b.toNat with h | h | h
  · rw [Nat.compare_eq_lt.2 h, decide_eq_true (by omega)]; rfl
  · rw [Nat.compare_eq_eq.2 h, decide_eq_false (by omega)]; rfl
  · rw [Nat.compare_eq_gt.2 h, decide_eq_false (by omega)]; rfl

theorem eq_F {a b : Int} (ha : In a) (hb : In b) : (FloatKind.f64.format.order (F a) (F b) == some .eq) = decide (a = b) := by
  rw [order_F ha hb]
  obtain ⟨h1, _⟩ := ha
  obtain ⟨h2, _⟩ := hb
  rcases Nat.lt_trichotomy a.toNat b.toNat with h | h | h
  · rw [Nat.compare_eq_lt.2 h, decide_eq_false (by omega)]; rfl
  · rw [Nat.compare_eq_eq.2 h, decide_eq_true (by omega)]; rfl
  · rw [Nat.compare_eq_gt.2 h, decide_eq_false (by omega)]; rfl

theorem gt_F {a b : Int} (ha : In a) (hb : In b) : (FloatKind.f64.format.order (F a) (F b) == some .gt) = decide (b < a) := by
  rw [order_F ha hb]
  obtain ⟨h1, _⟩ := ha
  obtain ⟨h2, _⟩ := hb
  rcases Nat.lt_trichotomy a.toNat b.toNat with h | h | h
  · rw [Nat.compare_eq_lt.2 h, decide_eq_false (by omega)]; rfl
  · rw [Nat.compare_eq_eq.2 h, decide_eq_false (by omega)]; rfl
  · rw [Nat.compare_eq_gt.2 h, decide_eq_true (by omega)]; rfl

theorem neq_F {a b : Int} (ha : In a) (hb : In b) : (FloatKind.f64.format.order (F a) (F b) != some .eq) = !decide (a = b) := by
  show (!(FloatKind.f64.format.order (F a) (F b) == some .eq)) = _
  rw [eq_F ha hb]

theorem add_F {a b : Int} (ha : In a) (hb : In b) (h : In (a + b)) : floatBits .add .f64 (F a) (F b) = some (F (a + b)) := by
  show double.add (fw a.toNat) (fw b.toNat) = some (fw (a + b).toNat)
  have hl := in_lt h
  obtain ⟨h1, _⟩ := ha
  obtain ⟨h2, _⟩ := hb
  rw [show (a + b).toNat = a.toNat + b.toNat from by omega] at hl ⊢
  exact add_fw _ _ hl

theorem cadd_F {a b c d : Int} (ha : In a) (hb : In b) (hc : In c) (hd : In d) (h1 : In (a + c)) (h2 : In (b + d)) :
    cSumBits .add .f64 (F a) (F b) (F c) (F d) = some (F (a + c), F (b + d)) := by
  unfold cSumBits
  rw [add_F ha hc h1, add_F hb hd h2]
  rfl

theorem toInt_F {a : Int} (ha : In a) : floatToIntVal .f64 (F a) .i64 = some a := by
  have h := toInt_fw a.toNat (in_lt ha)
  obtain ⟨h1, h2⟩ := ha
  unfold floatToIntVal
  show (match (double.read (fw a.toNat)).toInt .zero with
    | some n => if IntKind.i64.min ≤ n ∧ n ≤ IntKind.i64.max then some n else none
    | none => none) = some a
  rw [h]
  have hmin : IntKind.i64.min = -9223372036854775808 := by decide
  have hmax : IntKind.i64.max = 9223372036854775807 := by decide
  rw [hmin, hmax]
  simp only
  rw [if_pos ⟨by omega, by omega⟩]
  exact congrArg some (by omega)

end Flo
end Go.Proofs.Ytmohanbgplffcaa
