/-
  Numbers from 0 to 2^53 as float64: what they stand for, how they are compared, added, cut to whole numbers. No program is named here.
  What the versions' functions answer that the later layers call: made, taken apart, compared; and the document's own (taken apart). Said of whole numbers from 0 to 2^42.
  What the program writes: truths, texts, versions.
  A number read byte for byte: how far one is, and how it ends.
-/
import Derived.WalkLawsBesides
import Derived.Test.YtfikailgjmgnbaaRows
import Derived.WalkKit
import Derived.WalkSpells
import Derived.Lib.Hide
import Derived.Test.YtfikailgjmgnbaaZp02
import Derived.Test.YtfikailgjmgnbaaZp01

namespace Go.Proofs.Ytfikailgjmgnbaa
namespace Flo
open Ieee

theorem log2_mul_pow (q k : Nat) (hq : q ≠ 0) : (q * 2 ^ k).log2 = q.log2 + k := by
  have h1 := Nat.log2_self_le hq
  have h2 := @Nat.lt_log2_self q
  have hp : 0 < 2 ^ k := Nat.two_pow_pos k
  have hne : q * 2 ^ k ≠ 0 := by
    intro h
    rcases Nat.mul_eq_zero.1 h with h | h <;> omega
  refine (Nat.log2_eq_iff hne).2 ⟨?_, ?_⟩
  · rw [Nat.pow_add]; exact Nat.mul_le_mul_right _ h1
  · rw [show q.log2 + k + 1 = (q.log2 + 1) + k from by omega, Nat.pow_add]
    exact Nat.mul_lt_mul_of_pos_right h2 hp

theorem cut_exact (way : Toward) (neg : Bool) (n drop q : Nat) (h : n = q * 2 ^ drop) : way.cut neg n drop = q := by
  subst h
  unfold Toward.cut
  by_cases hq : q = 0
  · subst hq
    have hg : 0 < 1 <<< min drop (0 * 2 ^ drop).log2.succ.succ := by
      rw [Nat.shiftLeft_eq, Nat.one_mul]; exact Nat.two_pow_pos _
    cases way <;> simp
    all_goals (first | done | (rw [Nat.one_shiftLeft]; exact Nat.two_pow_pos _) | (intro h; rw [Nat.shiftLeft_eq, Nat.one_mul] at h; have := Nat.two_pow_pos (min drop ((0:Nat).log2 + 2)); simp at this; omega))
  · have hm : min drop ((q * 2 ^ drop).log2 + 2) = drop := by rw [log2_mul_pow q drop hq]; omega
    have hp : 0 < 2 ^ drop := Nat.two_pow_pos drop
    simp only [hm, Nat.one_shiftLeft]
    rw [Nat.mul_div_cancel _ hp, Nat.mul_mod_left]
    cases way <;> simp <;> omega

/-- How far below the point the last digit is. -/
def U : Nat := 1074
theorem U_eq : U = 1074 := rfl

/-- The value of a datum, in units of 2^-1074. -/
def dval : Datum → Int
  | .number s m i => signed s m (i + (U : Int)).toNat
  | _ => 0

theorem signed_eq (s : Bool) (m k : Nat) : signed s m k = (if s then -1 else 1) * (m : Int) * 2 ^ k := by
  unfold signed
  rw [Nat.shiftLeft_eq]
  cases s <;> simp <;> push_cast <;> (try rw [Int.neg_mul])

theorem signed_add (s : Bool) (m j k : Nat) : signed s m (j + k) = signed s m j * 2 ^ k := by
  rw [signed_eq, signed_eq, Int.pow_add, Int.mul_assoc, Int.mul_assoc, Int.mul_assoc]

theorem cmp_lt {a b : Int} (h : a < b) : compare a b = .lt := by simp [compare, compareOfLessAndEq, h]
theorem cmp_gt {a b : Int} (h : b < a) : compare a b = .gt := by
  have h1 : ¬ a < b := by omega
  have h2 : ¬ a = b := by omega
  simp [compare, compareOfLessAndEq, h1, h2]
theorem cmp_eq (a : Int) : compare a a = .eq := by simp [compare, compareOfLessAndEq]

theorem compare_mul (a b : Int) (k : Nat) : compare (a * 2 ^ k) (b * 2 ^ k) = compare a b := by
  have hp : (0 : Int) < 2 ^ k := Int.pow_pos (by decide)
  rcases Int.lt_trichotomy a b with h | h | h
  · rw [cmp_lt h, cmp_lt (Int.mul_lt_mul_of_pos_right h hp)]
  · subst h; rw [cmp_eq, cmp_eq]
  · rw [cmp_gt h, cmp_gt (Int.mul_lt_mul_of_pos_right h hp)]

theorem order_val (s t : Bool) (m n : Nat) (i j : Int) (hi : -(U : Int) ≤ i) (hj : -(U : Int) ≤ j) :
    Datum.order (.number s m i) (.number t n j) = some (compare (dval (.number s m i)) (dval (.number t n j))) := by
  simp only [Datum.order, dval]
  congr 1
  have e1 : (i + (U : Int)).toNat = (i - min i j).toNat + (min i j + (U : Int)).toNat := by omega
  have e2 : (j + (U : Int)).toNat = (j - min i j).toNat + (min i j + (U : Int)).toNat := by omega
  rw [e1, e2, signed_add, signed_add, compare_mul]

theorem rung_le {L x B : Nat} (hl : L ≤ 52) (hx : x < 2 * B) : (L + 1022) * B + x ≤ 2047 * B := by
  have : (L + 1022) * B ≤ 1074 * B := Nat.mul_le_mul_right _ (by omega)
  omega

theorem rung_parts {L x B : Nat} (hl : L ≤ 52) (h1 : B ≤ x) (h2 : x < 2 * B) :
    B ≤ (L + 1022) * B + x ∧ (L + 1022) * B + x < 2047 * B ∧ (L + 1022) * B + x < 2048 * B ∧ ((L + 1022) * B + x) / B = L + 1023 ∧ B + ((L + 1022) * B + x) % B = x := by
  have hB : 0 < B := by omega
  have h : (L + 1022) * B ≤ 1074 * B := Nat.mul_le_mul_right _ (by omega)
  obtain ⟨y, rfl⟩ := Nat.exists_eq_add_of_le h1
  have hy : y < B := by omega
  have e : (L + 1022) * B + (B + y) = y + (L + 1023) * B := by
    rw [show L + 1023 = (L + 1022) + 1 from rfl, Nat.add_mul (L + 1022) 1 B, Nat.one_mul]; omega
  refine ⟨by omega, by omega, by omega, ?_, ?_⟩
  · rw [e, Nat.add_mul_div_right _ _ hB, Nat.div_eq_of_lt hy]; omega
  · rw [e, Nat.add_mul_mod_self_right, Nat.mod_eq_of_lt hy]

/-- The word of a whole number, below 2^53, of whatever length it is written. -/
theorem nearest_exact (N k : Nat) (hN : N ≠ 0) (hlt : N < 2 ^ 53) :
    double.nearest false (N * 2 ^ k) (-(k : Int)) = (N.log2 + 1022) * 2 ^ 52 + N * 2 ^ (52 - N.log2) := by
  have hl : N.log2 ≤ 52 := by
    have := (Nat.log2_lt hN).2 hlt
    omega
  have hne : N * 2 ^ k ≠ 0 := by
    intro h
    rcases Nat.mul_eq_zero.1 h with h | h
    · exact hN h
    · have := Nat.two_pow_pos k; omega
  have hlog : (N * 2 ^ k).log2 = N.log2 + k := log2_mul_pow N k hN
  have hleast : double.leastPlace = -1074 := by decide
  have hlast : max (-(k : Int) + ((N * 2 ^ k).log2 : Int) - (double.fractionBits : Int)) double.leastPlace = (N.log2 : Int) - 52 := by
    rw [hlog, hleast]
    show max (-(k : Int) + ((N.log2 + k : Nat) : Int) - 52) (-1074) = _
    omega
  unfold Format.nearest
  rw [if_neg hne]
  simp only [hlast]
  have hcut : Toward.even.cut false ((N * 2 ^ k) <<< (-(k : Int) - ((N.log2 : Int) - 52)).toNat) (((N.log2 : Int) - 52) - (-(k : Int))).toNat = N * 2 ^ (52 - N.log2) := by
    refine cut_exact _ _ _ _ _ ?_
    rw [Nat.shiftLeft_eq, Nat.mul_assoc, Nat.mul_assoc, ← Nat.pow_add, ← Nat.pow_add]
    congr 2
    omega
  rw [hcut, hleast]
  have h1 : ((N.log2 : Int) - 52 - -1074).toNat = N.log2 + 1022 := by omega
  rw [h1]
  have hb : double.binade = 2 ^ 52 := rfl
  have hi : double.infRung = 2047 * 2 ^ 52 := by decide
  have hw : N * 2 ^ (52 - N.log2) < 2 ^ 53 := by
    have := @Nat.lt_log2_self N
    calc N * 2 ^ (52 - N.log2) < 2 ^ (N.log2 + 1) * 2 ^ (52 - N.log2) := Nat.mul_lt_mul_of_pos_right this (Nat.two_pow_pos _)
      _ = 2 ^ 53 := by rw [← Nat.pow_add]; congr 1; omega
  rw [hb, hi, Nat.min_eq_left]
  · rfl
  · exact rung_le hl (show _ < 2 * 2 ^ 52 from hw)

theorem kept_bounds (N : Nat) (hN : N ≠ 0) (hlt : N < 2 ^ 53) : 2 ^ 52 ≤ N * 2 ^ (52 - N.log2) ∧ N * 2 ^ (52 - N.log2) < 2 * 2 ^ 52 := by
  have hl : N.log2 ≤ 52 := by
    have := (Nat.log2_lt hN).2 hlt
    omega
  constructor
  · calc 2 ^ 52 = 2 ^ N.log2 * 2 ^ (52 - N.log2) := by rw [← Nat.pow_add]; congr 1; omega
      _ ≤ _ := Nat.mul_le_mul_right _ (Nat.log2_self_le hN)
  · have := @Nat.lt_log2_self N
    calc N * 2 ^ (52 - N.log2) < 2 ^ (N.log2 + 1) * 2 ^ (52 - N.log2) := Nat.mul_lt_mul_of_pos_right this (Nat.two_pow_pos _)
      _ = 2 * 2 ^ 52 := by rw [← Nat.pow_add, ← Nat.pow_succ']; congr 1; omega

/-- What the word of a whole number is read as. -/
theorem read_nearest (N : Nat) (hN : N ≠ 0) (hlt : N < 2 ^ 53) :
    double.read ((N.log2 + 1022) * 2 ^ 52 + N * 2 ^ (52 - N.log2)) = .number false (N * 2 ^ (52 - N.log2)) ((N.log2 : Int) - 52) := by
  have hl : N.log2 ≤ 52 := by
    have := (Nat.log2_lt hN).2 hlt
    omega
  obtain ⟨h1, h2⟩ := kept_bounds N hN hlt
  generalize N * 2 ^ (52 - N.log2) = x at h1 h2
  generalize hL : N.log2 = L at hl
  have hs : double.signWeight = 2 ^ 63 := rfl
  have hb : double.binade = 2 ^ 52 := rfl
  have hi : double.infRung = 2047 * 2 ^ 52 := by decide
  have hleast : double.leastPlace = -1074 := by decide
  have h63 : (2 : Nat) ^ 63 = 2048 * 2 ^ 52 := by decide
  obtain ⟨p1, p2, p3, p4, p5⟩ := rung_parts hl h1 h2
  unfold Format.read
  simp only [hs, hb, hi, hleast, h63]
  rw [Nat.div_eq_of_lt p3, Nat.mod_eq_of_lt p3, if_neg (Nat.not_lt.2 p1), if_pos p2, p4, p5]
  have hz : (-1074 : Int) + ((L + 1023 - 1 : Nat) : Int) = (L : Int) - 52 := by omega
  rw [hz]
  rfl

/-- What a datum is, if it is a number of the format: its place is no less than the least one. -/
def Fine : Datum → Prop
  | .number _ _ i => -(U : Int) ≤ i
  | _ => False

/-- The value 'n' in units of 2^-1074. -/
def units (n : Nat) : Int := (n : Int) * 2 ^ U

/-- The word of a whole number. -/
def fw (n : Nat) : Nat := double.nearest false n 0

theorem fw_zero : fw 0 = 0 := rfl
theorem fw_pos (N : Nat) (hN : N ≠ 0) (hlt : N < 2 ^ 53) : fw N = (N.log2 + 1022) * 2 ^ 52 + N * 2 ^ (52 - N.log2) := by
  have := nearest_exact N 0 hN hlt
  rw [← this]
  unfold fw
  rw [Nat.pow_zero, Nat.mul_one]
  rfl

theorem read_zero : double.read 0 = .number false 0 (-1074) := by decide

/-- What the word of a whole number is read as: its digits, and their place, which is not above 0. -/
theorem read_fw (N : Nat) (hlt : N < 2 ^ 53) : ∃ k : Nat, k ≤ U ∧ double.read (fw N) = .number false (N * 2 ^ k) (-(k : Int)) := by
  by_cases hN : N = 0
  · subst hN
    exact ⟨U, by omega, by rw [fw_zero, read_zero, Nat.zero_mul]; rfl⟩
  · have hl : N.log2 ≤ 52 := by
      have := (Nat.log2_lt hN).2 hlt
      omega
    refine ⟨52 - N.log2, by rw [U_eq]; omega, ?_⟩
    rw [fw_pos N hN hlt, read_nearest N hN hlt]
    have hz : (N.log2 : Int) - 52 = -((52 - N.log2 : Nat) : Int) := by omega
    rw [hz]

theorem nearest_fw (N k : Nat) (hlt : N < 2 ^ 53) : double.nearest false (N * 2 ^ k) (-(k : Int)) = fw N := by
  by_cases hN : N = 0
  · subst hN
    rw [Nat.zero_mul]
    unfold fw Format.nearest
    rw [if_pos rfl, if_pos rfl]
  · rw [nearest_exact N k hN hlt, fw_pos N hN hlt]

theorem dval_shift (N k : Nat) (hk : k ≤ U) : dval (.number false (N * 2 ^ k) (-(k : Int))) = units N := by
  have e : (-(k : Int) + (U : Int)).toNat = U - k := by omega
  simp only [dval, e]
  unfold units
  rw [signed_eq]
  simp only [Bool.false_eq_true, if_false, Int.one_mul]
  rw [show ((N * 2 ^ k : Nat) : Int) = (N : Int) * 2 ^ k from by simp, Int.mul_assoc, ← Int.pow_add]
  congr 2
  omega

theorem units_lt {a b : Nat} : units a < units b ↔ a < b := by
  have hp : (0 : Int) < 2 ^ U := Int.pow_pos (by decide)
  unfold units
  constructor
  · intro h
    have := Int.lt_of_mul_lt_mul_right h (Int.le_of_lt hp)
    omega
  · intro h
    exact Int.mul_lt_mul_of_pos_right (by omega) hp

/-- Two words of whole numbers stand to each other as the numbers do. -/
theorem order_fw (a b : Nat) (ha : a < 2 ^ 53) (hb : b < 2 ^ 53) : double.order (fw a) (fw b) = some (compare a b) := by
  obtain ⟨j, hj, e1⟩ := read_fw a ha
  obtain ⟨k, hk, e2⟩ := read_fw b hb
  unfold Format.order
  rw [e1, e2, order_val _ _ _ _ _ _ (by omega) (by omega), dval_shift a j hj, dval_shift b k hk]
  refine congrArg some ?_
  rcases Nat.lt_trichotomy a b with h | h | h
  · rw [cmp_lt (units_lt.2 h), Nat.compare_eq_lt.2 h]
  · subst h; rw [cmp_eq, Nat.compare_eq_eq.2 rfl]
  · rw [cmp_gt (units_lt.2 h), Nat.compare_eq_gt.2 h]

theorem signed_pos (m k : Nat) : signed false m k = ((m * 2 ^ k : Nat) : Int) := by
  rw [signed_eq]; simp

theorem sum_fw (a b j k : Nat) : Datum.sum (.number false (a * 2 ^ j) (-(j : Int))) (.number false (b * 2 ^ k) (-(k : Int))) = some (.number false ((a + b) * 2 ^ max j k) (-((max j k : Nat) : Int))) := by
  have hm : min (-(j : Int)) (-(k : Int)) = -((max j k : Nat) : Int) := by omega
  have e1 : (-(j : Int) - -((max j k : Nat) : Int)).toNat = max j k - j := by omega
  have e2 : (-(k : Int) - -((max j k : Nat) : Int)).toNat = max j k - k := by omega
  simp only [Datum.sum, hm, e1, e2, signed_pos]
  have f1 : a * 2 ^ j * 2 ^ (max j k - j) = a * 2 ^ max j k := by
    rw [Nat.mul_assoc, ← Nat.pow_add]; congr 2; omega
  have f2 : b * 2 ^ k * 2 ^ (max j k - k) = b * 2 ^ max j k := by
    rw [Nat.mul_assoc, ← Nat.pow_add]; congr 2; omega
  rw [f1, f2, ← Int.natCast_add, ← Nat.add_mul]
  generalize (a + b) * 2 ^ max j k = T
  congr 1
  have h1 : (if ((T : Nat) : Int) = 0 then (false && false) else decide (((T : Nat) : Int) < 0)) = false := by
    split
    · rfl
    · exact decide_eq_false (by omega)
  rw [h1]
  rfl

/-- The sum of two whole numbers. -/
theorem add_fw (a b : Nat) (h : a + b < 2 ^ 53) : double.add (fw a) (fw b) = some (fw (a + b)) := by
  obtain ⟨j, hj, e1⟩ := read_fw a (by omega)
  obtain ⟨k, hk, e2⟩ := read_fw b (by omega)
  unfold Format.add
  rw [e1, e2, sum_fw]
  show some (double.nearest false ((a + b) * 2 ^ max j k) (-((max j k : Nat) : Int))) = _
  rw [nearest_fw _ _ h]

theorem toInt_fw (a : Nat) (h : a < 2 ^ 53) : (double.read (fw a)).toInt .zero = some (a : Int) := by
  obtain ⟨k, hk, e⟩ := read_fw a h
  rw [e]
  simp only [Datum.toInt, Datum.integral]
  have hc : Toward.zero.cut false ((a * 2 ^ k) <<< (-(k : Int)).toNat) (- -(k : Int)).toNat = a := by
    refine cut_exact _ _ _ _ _ ?_
    have e1 : (-(k : Int)).toNat = 0 := by omega
    have e2 : (- -(k : Int)).toNat = k := by omega
    rw [e1, e2, Nat.shiftLeft_zero]
  rw [hc, signed_pos, Nat.pow_zero, Nat.mul_one]

/-! ### In the walk's own words -/

/-- The word of a whole number that is no less than 0. -/
def F (n : Int) : Nat := fw n.toNat
/-- What the laws here speak of: a number from 0 to 2^42. -/
def In (n : Int) : Prop := 0 ≤ n ∧ n ≤ 4398046511104

theorem in_lt {n : Int} (h : In n) : n.toNat < 2 ^ 53 := by
  obtain ⟨h1, h2⟩ := h
  have : (2 : Nat) ^ 53 = 9007199254740992 := by decide
  omega

theorem floatOfInt_F {n : Int} (h : In n) : floatOfInt .f64 n = F n := by
  obtain ⟨h1, h2⟩ := h
  show double.nearest (decide (n < 0)) n.natAbs 0 = fw n.toNat
  rw [decide_eq_false (by omega), show n.natAbs = n.toNat from by omega]
  rfl

theorem F_wf (n : Int) : (Lit.float .f64 (F n)).wf = true := wf_of_lt .f64 _ (double.nearest_lt false n.toNat 0)

theorem order_F {a b : Int} (ha : In a) (hb : In b) : FloatKind.f64.format.order (F a) (F b) = some (compare a.toNat b.toNat) :=
  order_fw _ _ (in_lt ha) (in_lt hb)

theorem lt_F {a b : Int} (ha : In a) (hb : In b) : (FloatKind.f64.format.order (F a) (F b) == some .lt) = decide (a < b) := by
  rw [order_F ha hb]
  obtain ⟨h1, _⟩ := ha
  obtain ⟨h2, _⟩ := hb
  rcases Nat.lt_trichotomy a.toNat b.toNat with h | h | h
  · rw [Nat.compare_eq_lt.2 h, decide_eq_true (by omega)]; rfl
  · rw [Nat.compare_eq_eq.2 h, decide_eq_false (by omega)]; rfl
  · rw [Nat.compare_eq_gt.2 h, decide_eq_false (by omega)]; rfl

theorem eq_F {a b : Int} (ha : In a) (hb : In b) : (FloatKind.f64.format.order (F a) (F b) == some .eq) = decide (a = b) := by
  rw [order_F ha hb]
  obtain ⟨h1, _⟩ := ha
  obtain ⟨h2, _⟩ := hb
  rcases Nat.lt_trichotomy a.toNat b.toNat with h | h | h
  · rw [Nat.compare_eq_lt.2 h, decide_eq_false (by omega)]; rfl
  · rw [Nat.compare_eq_eq.2 h, decide_eq_true (by omega)]; rfl
  · rw [Nat.compare_eq_gt.2 h, decide_eq_false (by omega)]; rfl

theorem gt_F {a b : Int} (ha : In a) (hb : In b) : (FloatKind.f64.format.order (F a) (F b) == some .gt) = decide (b < a) := by
  rw [order_F ha hb]
  obtain ⟨h1, _⟩ := ha
  obtain ⟨h2, _⟩ := hb
  rcases Nat.lt_trichotomy a.toNat b.toNat with h | h | h
  · rw [Nat.compare_eq_lt.2 h, decide_eq_false (by omega)]; rfl
  · rw [Nat.compare_eq_eq.2 h, decide_eq_false (by omega)]; rfl
  · rw [Nat.compare_eq_gt.2 h, decide_eq_true (by omega)]; rfl

theorem neq_F {a b : Int} (ha : In a) (hb : In b) : (FloatKind.f64.format.order (F a) (F b) != some .eq) = !decide (a = b) := by
  show (!(FloatKind.f64.format.order (F a) (F b) == some .eq)) = _
  rw [eq_F ha hb]

theorem add_F {a b : Int} (ha : In a) (hb : In b) (h : In (a + b)) : floatBits .add .f64 (F a) (F b) = some (F (a + b)) := by
  show double.add (fw a.toNat) (fw b.toNat) = some (fw (a + b).toNat)
  have hl := in_lt h
  obtain ⟨h1, _⟩ := ha
  obtain ⟨h2, _⟩ := hb
  rw [show (a + b).toNat = a.toNat + b.toNat from by omega] at hl ⊢
  exact add_fw _ _ hl

theorem cadd_F {a b c d : Int} (ha : In a) (hb : In b) (hc : In c) (hd : In d) (h1 : In (a + c)) (h2 : In (b + d)) :
    cSumBits .add .f64 (F a) (F b) (F c) (F d) = some (F (a + c), F (b + d)) := by
  unfold cSumBits
  rw [add_F ha hc h1, add_F hb hd h2]
  rfl

theorem toInt_F {a : Int} (ha : In a) : floatToIntVal .f64 (F a) .i64 = some a := by
  have h := toInt_fw a.toNat (in_lt ha)
  obtain ⟨h1, h2⟩ := ha
  unfold floatToIntVal
  show (match (double.read (fw a.toNat)).toInt .zero with
    | some n => if IntKind.i64.min ≤ n ∧ n ≤ IntKind.i64.max then some n else none
    | none => none) = some a
  rw [h]
  have hmin : IntKind.i64.min = -9223372036854775808 := by decide
  have hmax : IntKind.i64.max = 9223372036854775807 := by decide
  rw [hmin, hmax]
  simp only
  rw [if_pos ⟨by omega, by omega⟩]
  exact congrArg some (by omega)

end Flo
end Go.Proofs.Ytfikailgjmgnbaa

namespace Go.Proofs.Ytfikailgjmgnbaa
open Go.RowKit Flo

/-- a version: its epoch and its number -/
def ver (e n : Int) : Value := .complex .f64 (F e) (F n)

@[go_sem] theorem eqGuard_ver (op : BinOp) (t : TypeId) (x y : Operand) (a b : Int) (v : Value) : eqGuard op t x y (ver a b) v = pure () := by
  unfold ver
  cases op <;> rfl

theorem make_any (e n : Int) (w : World) (he : In e) (hn : In n) :
    Calls Try.prog 58 #[.int .i64 e, .int .i64 n] w fun x w' => x = .returned (ver e n) ∧ w = w' := by
  have h1 := Lib.hid (floatOfInt_F he)
  have h2 := Lib.hid (floatOfInt_F hn)
  go_enter Try.func58, Try.ntmps58
  go_wp2
  go_ret
  exact ⟨by rw [h1.out, h2.out]; rfl, rfl⟩

theorem epoch_any (e n : Int) (w : World) (he : In e) :
    Calls Try.prog 72 #[ver e n] w fun x w' => x = .returned (.int .i64 e) ∧ w = w' := by
  have hc : ∀ w, (convert 145 3 (.float .f64 (F e))).run Try.prog w = .ok (.int .i64 e) w := fun w => run_convert_float_int w 145 3 .f64 .i64 (F e) e (by rw [Try.underlying145]; rfl) Try.underlying3 (toInt_F he)
  unfold ver
  go_enter Try.func72, Try.ntmps72
  go_wp2_with (simp only [hc])
  go_ret
  exact ⟨rfl, rfl⟩

theorem num_any (e n : Int) (w : World) (hn : In n) :
    Calls Try.prog 73 #[ver e n] w fun x w' => x = .returned (.int .i64 n) ∧ w = w' := by
  have hc : ∀ w, (convert 145 3 (.float .f64 (F n))).run Try.prog w = .ok (.int .i64 n) w := fun w => run_convert_float_int w 145 3 .f64 .i64 (F n) n (by rw [Try.underlying145]; rfl) Try.underlying3 (toInt_F hn)
  unfold ver
  go_enter Try.func73, Try.ntmps73
  go_wp2_with (simp only [hc])
  go_ret
  exact ⟨rfl, rfl⟩

theorem repoch_any (e n : Int) (w : World) (he : In e) :
    Calls Try.prog 66 #[ver e n] w fun x w' => x = .returned (.int .i64 e) ∧ w = w' := by
  have hc : ∀ w, (convert 145 3 (.float .f64 (F e))).run Try.prog w = .ok (.int .i64 e) w := fun w => run_convert_float_int w 145 3 .f64 .i64 (F e) e (by rw [Try.underlying145]; rfl) Try.underlying3 (toInt_F he)
  unfold ver
  go_enter Try.func66, Try.ntmps66
  go_wp2_with (simp only [hc])
  go_ret
  exact ⟨rfl, rfl⟩

theorem rnum_any (e n : Int) (w : World) (hn : In n) :
    Calls Try.prog 67 #[ver e n] w fun x w' => x = .returned (.int .i64 n) ∧ w = w' := by
  have hc : ∀ w, (convert 145 3 (.float .f64 (F n))).run Try.prog w = .ok (.int .i64 n) w := fun w => run_convert_float_int w 145 3 .f64 .i64 (F n) n (by rw [Try.underlying145]; rfl) Try.underlying3 (toInt_F hn)
  unfold ver
  go_enter Try.func67, Try.ntmps67
  go_wp2_with (simp only [hc])
  go_ret
  exact ⟨rfl, rfl⟩

theorem ver_eq (a b c d : Int) (ha : In a) (hb : In b) (hc : In c) (hd : In d) (t : TypeId) (w : World) :
    (binOp .eql t (ver a b) (ver c d)).run Try.prog w = .ok (.bool (decide (a = c) && decide (b = d))) w := by
  rw [← eq_F ha hc, ← eq_F hb hd]
  exact run_eql_complex w t .f64 _ _ _ _

/-- what Fits asks -/
def fitsB (n : Int) : Bool := decide (0 ≤ n) && decide (n ≤ 1099511627776)
theorem fits_in {n : Int} (h : fitsB n = true) : In n ∧ n ≤ 1099511627776 := by
  unfold fitsB at h
  simp at h
  exact ⟨⟨h.1, by omega⟩, h.2⟩

end Go.Proofs.Ytfikailgjmgnbaa

namespace Go.Proofs.Ytfikailgjmgnbaa
open Go.RowKit Flo

def bit (is : Bool) : UInt8 := if is then 1 else 0

set_option maxRecDepth 10000 in
theorem bool_any (is : Bool) (w : World) (B : Nat) (v : Value) (l : List UInt8) (hr : Room w B v l) (hB : B ≤ w.heap.size) (hl : l.length ≤ 549755813888) :
    Calls Try.prog 44 #[v, .bool is] w (Gives B (l ++ [bit is]) w) := by
  obtain ⟨i0, hi0, hz0, hz1, hz2⟩ := info_parts byte_info
  have hpl : l.length + 1 ≤ 1099511627776 := by omega
  cases is
  · go_enter Try.func44, Try.ntmps44
    go_wp2_with (at_builtin; refine wpList_append8 (B := B) (l := l) (m := [0]) rfl (.tmp 9) (.tmp 10) 22 22 rfl 5 i0 Try.underlying22 hi0 hz0 hz1 hz2 (hr.on (Below.alloc (Below.refl _ _) (Nat.le_refl _) _)) (by simp; omega) (src_one _ 0 Try.underlying22) hpl rfl rfl ?_; intro v' w' hr2 hb2)
    go_ret
    exact ⟨v', rfl, hr2, (Below.alloc (Below.refl _ _) hB _).trans hb2⟩
  · go_enter Try.func44, Try.ntmps44
    go_wp2_with (at_builtin; refine wpList_append8 (B := B) (l := l) (m := [1]) rfl (.tmp 6) (.tmp 7) 22 22 rfl 5 i0 Try.underlying22 hi0 hz0 hz1 hz2 (hr.on (Below.alloc (Below.refl _ _) (Nat.le_refl _) _)) (by simp; omega) (src_one _ 1 Try.underlying22) hpl rfl rfl ?_; intro v' w' hr2 hb2)
    go_ret
    exact ⟨v', rfl, hr2, (Below.alloc (Below.refl _ _) hB _).trans hb2⟩

set_option maxRecDepth 10000 in
theorem text_any (s : ByteArray) (w : World) (B : Nat) (v : Value) (l : List UInt8) (hr : Room w B v l) (hB : B ≤ w.heap.size) (hl : l.length ≤ 274877906944) (hs : s.size ≤ 274877906944) :
    Calls Try.prog 45 #[v, .string s] w (Gives B (l ++ (wint s.size ++ s.data.toList)) w) := by
  obtain ⟨i0, hi0, hz0, hz1, hz2⟩ := info_parts byte_info
  have hle := wint_le (n := (s.size : Int)) (by omega) (by omega)
  have hpl : (l ++ wint s.size).length + s.data.toList.length ≤ 1099511627776 := by
    rw [List.length_append]
    have : s.data.toList.length = s.size := by simp
    omega
  have R := Lib.hid (int_any (s.size : Int) w B v l (by omega) (by omega) hr hB (by omega))
  go_enter Try.func45, Try.ntmps45
  go_wp2_with (first
    | (go_at_call 71; (with_reducible refine R.out.mono ?_); rintro e w1 ⟨v1, rfl, hr1, hb1⟩)
    | (at_builtin; refine wpList_append8 (B := B) (l := l ++ wint s.size) (m := s.data.toList) rfl (.tmp 8) (.tmp 9) 22 9 rfl 5 i0 Try.underlying22 hi0 hz0 hz1 hz2 hr1 (Nat.le_trans hB hb1.size) (src_string _ Try.underlying9 s) hpl rfl rfl ?_; intro v' w' hr2 hb2))
  go_ret
  exact ⟨v', rfl, by rw [← List.append_assoc]; exact hr2, hb1.trans hb2⟩

set_option maxRecDepth 10000 in
theorem wver_any (a b : Int) (w : World) (B : Nat) (v : Value) (l : List UInt8) (hr : Room w B v l) (hB : B ≤ w.heap.size) (hl : l.length ≤ 274877906944) (ha : In a) (hb : In b) :
    Calls Try.prog 46 #[v, ver a b] w (Gives B (l ++ (wint a ++ wint b)) w) := by
  have ha' := ha
  have hb' := hb
  unfold In at ha' hb'
  have hle := wint_le (n := a) (by omega) (by omega)
  have R := Lib.hid (int_any a w B v l (by omega) (by omega) hr hB (by omega))
  have R2 := Lib.hid (fun w' v' (h : Room w' B v' (l ++ wint a)) (h' : B ≤ w'.heap.size) => int_any b w' B v' (l ++ wint a) (by omega) (by omega) h h' (by rw [List.length_append]; omega))
  go_enter Try.func46, Try.ntmps46
  go_wp2_with (first
    | (go_at_call 72; (with_reducible refine (epoch_any a b _ ha).mono ?_); rintro e w1 ⟨rfl, rfl⟩)
    | (go_at_call 73; (with_reducible refine (num_any a b _ hb).mono ?_); rintro e w1 ⟨rfl, rfl⟩)
    | (go_at_call 71; (with_reducible refine R.out.mono ?_); rintro e w1 ⟨v1, rfl, hr1, hb1⟩)
    | (go_at_call 71; (with_reducible refine (R2.out _ _ hr1 (Nat.le_trans hB hb1.size)).mono ?_); rintro e w2 ⟨v2, rfl, hr2, hb2⟩))
  go_ret
  exact ⟨v2, rfl, by rw [← List.append_assoc]; exact hr2, hb1.trans hb2⟩

end Go.Proofs.Ytfikailgjmgnbaa

namespace Go.Proofs.Ytfikailgjmgnbaa
open Go.RowKit

/-- i groups have been read of L, m is what they give. -/
def Along (L : List UInt8) (i m : Nat) : Prop := i ≤ 9 ∧ m < 2 ^ (7 * i) ∧ dec 0 L = (dec i (L.drop i)).map fun x => (m + 2 ^ (7 * i) * x.1, x.2 + i)
def Big (i : Nat) (c : UInt8) : Prop := i = 9 ∧ 1 < c.toNat

theorem along_start (L : List UInt8) : Along L 0 0 := by
  refine ⟨by omega, by omega, ?_⟩
  rw [List.drop_zero]
  cases dec 0 L <;> simp
theorem along_over {L : List UInt8} {i m : Nat} (h : Along L i m) (hi : L.length ≤ i) : dec 0 L = none := by
  rw [h.2.2, List.drop_of_length_le hi]; rfl
theorem along_dec {L : List UInt8} {i m : Nat} (h : Along L i m) (hi : i < L.length) : dec 0 L = (dec i (L[i] :: L.drop (i + 1))).map fun x => (m + 2 ^ (7 * i) * x.1, x.2 + i) := by
  rw [h.2.2, List.drop_eq_getElem_cons hi]
theorem along_big {L : List UInt8} {i m : Nat} (h : Along L i m) (hi : i < L.length) (hb : Big i L[i]) : dec 0 L = none := by
  unfold Big at hb
  rw [along_dec h hi, dec, if_pos hb]; rfl
theorem along_empty {L : List UInt8} {i m : Nat} (h : Along L i m) (hi : i < L.length) (h0 : L[i].toNat = 0) (hp : 0 < i) : dec 0 L = none := by
  rw [along_dec h hi, dec, if_neg (fun h => by omega), if_neg (by omega), if_pos ⟨h0, hp⟩]; rfl
theorem along_next {L : List UInt8} {i m : Nat} (h : Along L i m) (hi : i < L.length) (hb : ¬ Big i L[i]) (hc : 128 ≤ L[i].toNat) : i < 9 ∧ Along L (i + 1) (m + L[i].toNat % 128 * 2 ^ (7 * i)) := by
  unfold Big at hb
  have h9 : i < 9 := by
    rcases Nat.lt_or_ge i 9 with h9 | h9
    · exact h9
    · exact absurd ⟨by have := h.1; omega, by omega⟩ hb
  have e7 : 2 ^ (7 * (i + 1)) = 128 * 2 ^ (7 * i) := by rw [show 7 * (i + 1) = 7 * i + 7 by omega, Nat.pow_add]; omega
  refine ⟨h9, by omega, ?_, ?_⟩
  · have h1 := h.2.1
    have h2 : L[i].toNat % 128 * 2 ^ (7 * i) ≤ 127 * 2 ^ (7 * i) := Nat.mul_le_mul_right _ (by omega)
    omega
  · rw [along_dec h hi, dec, if_neg hb, if_pos hc, Option.map_map]
    congr 1
    funext x
    simp only [Function.comp, e7]
    refine Prod.ext ?_ (by show x.2 + 1 + i = x.2 + (i + 1); omega)
    show m + 2 ^ (7 * i) * (L[i].toNat % 128 + 128 * x.1) = m + L[i].toNat % 128 * 2 ^ (7 * i) + 128 * 2 ^ (7 * i) * x.1
    rw [Nat.mul_add, Nat.mul_comm (L[i].toNat % 128), ← Nat.mul_assoc, Nat.mul_comm (2 ^ (7 * i)) 128]
    omega
theorem along_fits {L : List UInt8} {i m : Nat} (h : Along L i m) (hi : i < L.length) (hb : ¬ Big i L[i]) : m + L[i].toNat % 128 * 2 ^ (7 * i) < 18446744073709551616 ∧ L[i].toNat % 128 * 2 ^ (7 * i) < 18446744073709551616 := by
  unfold Big at hb
  have h1 := h.2.1
  rcases Nat.lt_or_ge i 9 with h9 | h9
  · have h2 : L[i].toNat % 128 * 2 ^ (7 * i) ≤ 127 * 2 ^ (7 * i) := Nat.mul_le_mul_right _ (by omega)
    have h3 : 2 ^ (7 * i) ≤ 2 ^ 56 := Nat.pow_le_pow_right (by omega) (by omega)
    omega
  · have e9 : i = 9 := by have := h.1; omega
    have hc : L[i].toNat ≤ 1 := by
      rcases Nat.lt_or_ge 1 L[i].toNat with hc | hc
      · exact absurd ⟨e9, hc⟩ hb
      · exact hc
    have h2 : L[i].toNat % 128 * 2 ^ (7 * i) ≤ 1 * 2 ^ (7 * i) := Nat.mul_le_mul_right _ (by omega)
    have h3 : 2 ^ (7 * i) ≤ 2 ^ 63 := Nat.pow_le_pow_right (by omega) (by omega)
    omega
theorem along_end {L : List UInt8} {i m : Nat} (h : Along L i m) (hi : i < L.length) (hb : ¬ Big i L[i]) (hc : L[i].toNat < 128) (h0 : ¬ (L[i].toNat = 0 ∧ 0 < i)) : dec 0 L = some (m + L[i].toNat % 128 * 2 ^ (7 * i), i + 1) := by
  unfold Big at hb
  rw [along_dec h hi, dec, if_neg hb, if_neg (by omega), if_neg h0]
  show some (m + 2 ^ (7 * i) * L[i].toNat, 1 + i) = _
  rw [Nat.mod_eq_of_lt hc, Nat.mul_comm, Nat.add_comm 1 i]

/-- a group put in its place -/
theorem or_put (m x s : Nat) (hm : m < 2 ^ s) (hx : x * 2 ^ s < 18446744073709551616) (hm' : m < 18446744073709551616) : bits BinOp.or .u64 (m : Int) ((x * 2 ^ s : Nat) : Int) = ((m + x * 2 ^ s : Nat) : Int) := by
  rw [u64_or_nat _ _ hm' hx, Nat.or_comm, nat_join s (x * 2 ^ s) m (Nat.mul_mod_left _ _) hm, Nat.add_comm]

end Go.Proofs.Ytfikailgjmgnbaa
