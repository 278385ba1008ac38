/-
  EntryKeeps' walk, given what entry.Get and entry.GetOp come to.
-/
import Derived.Test.YtmohanbgplffcaaLg0
namespace Go.Proofs.Ytmohanbgplffcaa
open Go.RowKit Flo
attribute [local go_sem ↓] Go.wp_at_zero Go.wp_at_succ

theorem Held.other {g : Nat} {vs : List Value} {W : World} (h : Held g vs W) {b o : Nat} (v : Value) (hne : g ≠ b) : Held g vs (W.setCell ⟨b, o, none⟩ v) :=
  ⟨by simpa [World.setCell] using h.1, fun i hi => by rw [World.cell?_setCell_other _ _ _ _ (by intro e; injection e with e; exact hne e.symm)]; exact h.2 i hi⟩

/-- the answers of the two readings, their fields letters -/
theorem reads_en {f : FuncId} (h : ReadsOk f KE) (l : List UInt8) (p : Nat) (hl : l.length ≤ 4000) (hp : p ≤ 4000) : ∃ (x y : Nat) (kd : Int) (key val : ByteArray) (wt dl : Bool) (se nu co : Int) (rs : ByteArray) (hr : Bool) (X : Int) (ok : Bool),
    (∀ W, (Op.equalIn 9999 25 (.complex .f64 x y) (.complex .f64 x y)).run Try.prog W = .ok true W) ∧
    ∀ W v, Seen W W.heap.size v l → Calls Try.prog f #[v, .int .i64 (p : Int)] W fun e w' => e = .returned (.tuple #[.agg #[.complex .f64 x y, .int .i64 kd, .string key, .string val, .bool wt, .bool dl, .int .i64 se, .int .i64 nu, .int .i64 co, .string rs, .bool hr], .int .i64 X, .bool ok]) ∧ Below W.heap.size W w' := by
  cases hg : gets KE (l.drop p) with
  | none =>
    refine ⟨0, 0, 0, ⟨#[]⟩, ⟨#[]⟩, false, false, 0, 0, 0, ⟨#[]⟩, false, 0, false, eq_zero, fun W v hv => ?_⟩
    have := h W v l p hv hl hp
    unfold gotS at this
    rw [hg] at this
    exact this
  | some r =>
    obtain ⟨fs, k⟩ := r
    obtain ⟨_, _, e3, e4⟩ := gets_is hg
    obtain ⟨vr, kd, key, val, wt, dl, se, nu, co, rs, hr, rfl⟩ := kinds_en e3
    have hv := e4 (.ver vr.1 vr.2) (by simp)
    refine ⟨F vr.1, F vr.2, kd, key, val, wt, dl, se, nu, co, rs, hr, ((p + k : Nat) : Int), true, fun W => ?_, fun W v hv => ?_⟩
    · have := eq_ver W (in_of hv.1) (in_of hv.2) (in_of hv.1) (in_of hv.2)
      rw [decide_eq_true (rfl : vr.1 = vr.1), decide_eq_true (rfl : vr.2 = vr.2)] at this
      exact this
    · have := h W v l p hv hl hp
      unfold gotS at this
      rw [hg] at this
      exact this
theorem reads_op {f : FuncId} (h : ReadsOk f KO) (l : List UInt8) (p : Nat) (hl : l.length ≤ 4000) (hp : p ≤ 4000) : ∃ (kd : Int) (key val old : ByteArray) (has : Bool) (X : Int) (ok : Bool),
    ∀ W v, Seen W W.heap.size v l → Calls Try.prog f #[v, .int .i64 (p : Int)] W fun e w' => e = .returned (.tuple #[.agg #[.int .i64 kd, .string key, .string val, .string old, .bool has], .int .i64 X, .bool ok]) ∧ Below W.heap.size W w' := by
  cases hg : gets KO (l.drop p) with
  | none =>
    refine ⟨0, ⟨#[]⟩, ⟨#[]⟩, ⟨#[]⟩, false, 0, false, fun W v hv => ?_⟩
    have := h W v l p hv hl hp
    unfold gotS at this
    rw [hg] at this
    exact this
  | some r =>
    obtain ⟨fs, k⟩ := r
    obtain ⟨_, _, e3, e4⟩ := gets_is hg
    obtain ⟨kd, key, val, old, has, rfl⟩ := kinds_op e3
    refine ⟨kd, key, val, old, has, ((p + k : Nat) : Int), true, fun W v hv => ?_⟩
    have := h W v l p hv hl hp
    unfold gotS at this
    rw [hg] at this
    exact this

set_option maxRecDepth 100000 in
set_option maxHeartbeats 2000000 in
theorem keeps_walk (AW : AwakeOk) (GE : ReadsOk 6 KE) (GO : ReadsOk 7 KO) (v : Value) (l : List UInt8) (p : Nat) (w : World) (hv : Seen w w.heap.size v l) (hl : l.length ≤ 3000) (hp : p ≤ 4000) :
    Calls Try.prog 4 #[v, .int .i64 (p : Int)] w fun e w' => e = .returned (.bool true) ∧ Below w.heap.size w w' := by
  obtain ⟨i0, hi0, hz0, hz1, hz2⟩ := info_parts byte_info
  obtain ⟨x, y, kd, key, val, wt, dl, se, nu, co, rs, hr, X, ok, heq, G1⟩ := reads_en GE l p (by omega) hp
  obtain ⟨okd, okey, oval, old, has, Y, is, G2⟩ := reads_op GO l p (by omega) hp
  have R1 := Lib.hid G1
  have R2 := Lib.hid G2
  have HS := Lib.hid hv
  have HAW := Lib.hid AW
  obtain ⟨A, c, rfl, hA⟩ := hv
  clear hA AW GE GO G1 G2
  have P1 : ([] : List UInt8).length + l.length ≤ 1099511627776 := by simp only [List.length_nil]; omega
  go_enter Try.func4, Try.ntmps4
  go_wp2_with (first
    | (go_at_call 5; refine (HAW.out _).mono ?_; rintro e w0 ⟨rfl, hb0⟩)
    | (at_builtin; refine wpList_append8s (B := w0.heap.size) (l := []) (m := l) rfl (.tmp 35) (.tmp 36) 22 22 rfl 5 i0 Try.underlying22 hi0 hz0 hz1 hz2 (room_new w0) (by simp) (((HS.out.on hb0).al _).src Try.underlying22) P1 rfl rfl ?_; intro v1 w1 hr1 hb1 ho1; have O1 : Own w0.heap.size v1 := own_step (own_new w0 0 0) (by simp) ho1; obtain ⟨A1, c1, rfl, hc1, hc2, _⟩ := hr1.cut; have hb01 : Below w.heap.size w w1 := bt hb0 ((bal w0 _).trans hb1); have S1 := Lib.hid (show Seen w1 w1.heap.size (.slice A1 l.length c1) l from hr1.seen))
    | (go_at_call 6; (with_reducible refine (R1.out _ _ S1.out).mono ?_); rintro e w2 ⟨rfl, hb2⟩)
    | (go_at_call 7; refine (R2.out _ _ ((S1.out.on hb2).al _)).mono ?_; rintro e w3 ⟨rfl, hb3⟩)
    | (go_at_call 8; refine (same_yes _ ((HS.out.on (bt hb01 (bt hb2 (bt (bal w2 (.cells #[.complex .f64 x y, .int .i64 kd, .string key, .string val, .bool wt, .bool dl, .int .i64 se, .int .i64 nu, .int .i64 co, .string rs, .bool hr] 27)) hb3)))).al _) ((S1.out.on (bt hb2 (bt (bal w2 (.cells #[.complex .f64 x y, .int .i64 kd, .string key, .string val, .bool wt, .bool dl, .int .i64 se, .int .i64 nu, .int .i64 co, .string rs, .bool hr] 27)) hb3))).al _)).mono ?_; rintro e w5 ⟨rfl, hb5⟩))
  replace hr1 : Room w1 w0.heap.size (.slice A1 l.length c1) l := hr1
  have HE := ((held_made w2 [.complex .f64 x y, .int .i64 kd, .string key, .string val, .bool wt, .bool dl, .int .i64 se, .int .i64 nu, .int .i64 co, .string rs, .bool hr] 27).on hb3).on (bt (bal w3 (.cells #[.int .i64 okd, .string okey, .string oval, .string old, .bool has] 31)) hb5)
  have HO := (held_made w3 [.int .i64 okd, .string okey, .string oval, .string old, .bool has] 31).on hb5
  have hb13 : Below w1.heap.size w1 w3 := bt hb2 (bt (bal w2 (.cells #[.complex .f64 x y, .int .i64 kd, .string key, .string val, .bool wt, .bool dl, .int .i64 se, .int .i64 nu, .int .i64 co, .string rs, .bool hr] 27)) hb3)
  have hb15 : Below w1.heap.size w1 w5 := bt hb13 (bt (bal w3 (.cells #[.int .i64 okd, .string okey, .string oval, .string old, .bool has] 31)) hb5)
  have hr5 := hr1.on hb15
  have hlt1 := hr1.own_lt
  have z2 := hb2.size
  have z3 := hb13.size
  have z1 := hb01.size
  have z0 := hb0.size
  have OW : Own w.heap.size (.slice A1 l.length c1) := fun g hg => Nat.le_trans z0 (O1 g hg)
  have hr5' := hr5.low O1 z0
  go_loopw [12] (fun i wq => ∃ (k : Nat) (m : List UInt8), k ≤ l.length ∧ m.length = l.length ∧ i = .int .i64 (k : Int) ∧ Room wq w.heap.size (.slice A1 l.length c1) m ∧ Below w.heap.size w wq ∧ Held w2.heap.size [.complex .f64 x y, .int .i64 kd, .string key, .string val, .bool wt, .bool dl, .int .i64 se, .int .i64 nu, .int .i64 co, .string rs, .bool hr] wq ∧ Held w3.heap.size [.int .i64 okd, .string okey, .string oval, .string old, .bool has] wq) (fun i _ => l.length - (intOf i).toNat)
  case atStart => exact ⟨0, l, Nat.zero_le _, rfl, rfl, hr5', hb01.trans (hb15.mono z1), HE, HO⟩
  case round =>
    obtain ⟨k, m, hk, hm, rfl, hr', hb', HE', HO'⟩ := hrel
    by_cases hlt : k < l.length
    · obtain ⟨g, off, cap, hvv, q1, q2, q3, ⟨u, q4⟩, q5, q6, q7⟩ := hr'.put OW k (by omega) 7
      rw [hm] at hvv q2
      injection hvv with hA1 _ hcap
      have hg1 := hlt1 g (by rw [hA1]; rfl)
      subst hA1 hcap
      have H1 := Lib.hid (HE'.other (b := g) (o := off + k) (.int .u8 7) (by omega))
      have H2 := Lib.hid (HO'.other (b := g) (o := off + k) (.int .u8 7) (by omega))
      have Q6 := Lib.hid q6
      have Q7 := Lib.hid (hb'.trans q7)
      have i0' : (0 : Int) ≤ (k : Int) := by omega
      have i1' : (k : Int) < (l.length : Int) := by omega
      clear q6 q7 HE' HO' hr' hb' HE HO hr5 hr5' hlt1 hr1
      go_wp2
      go_roundw
      case rel => exact ⟨k + 1, m.set k 7, by omega, by rw [List.length_set]; exact hm, by go_num, Q6.out, Q7.out, H1.out, H2.out⟩
      case measure => simp [intOf]; omega
    · have HB := Lib.hid hb'
      have HE2 := Lib.hid HE'
      have HO2 := Lib.hid HO'
      have hkl : k = l.length := by omega
      subst hkl
      clear hr' hb' HE' HO' HE HO hr5 hr5' hlt1 hr1
      go_wp2_with (first
        | (go_at_call 6; (with_reducible refine (R1.out _ _ (HS.out.on HB.out)).mono ?_); rintro e w6 ⟨rfl, hb6⟩)
        | (go_at_call 7; refine (R2.out _ _ ((HS.out.on (bt HB.out hb6)).al _)).mono ?_; rintro e w7 ⟨rfl, hb7⟩; have T := bt hb6 (bt (bal w6 (.cells #[.complex .f64 x y, .int .i64 kd, .string key, .string val, .bool wt, .bool dl, .int .i64 se, .int .i64 nu, .int .i64 co, .string rs, .bool hr] 27)) hb7); have U := bal w7 (.cells #[.int .i64 okd, .string okey, .string oval, .string old, .bool has] 31); have KE := ((HE2.out.on T).on U).all; have KO := ((HO2.out.on T).on U).all; have KF := (((held_made w6 [.complex .f64 x y, .int .i64 kd, .string key, .string val, .bool wt, .bool dl, .int .i64 se, .int .i64 nu, .int .i64 co, .string rs, .bool hr] 27).on hb7).on U).all; have KP := (held_made w7 [.int .i64 okd, .string okey, .string oval, .string old, .bool has] 31).all; simp only [cellsAre] at KE KO KF KP))
      go_ret
      exact ⟨by simp, bt HB.out (bt T U)⟩

end Go.Proofs.Ytmohanbgplffcaa
