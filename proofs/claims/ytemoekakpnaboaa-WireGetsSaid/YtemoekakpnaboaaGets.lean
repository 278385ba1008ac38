/-
  WireGets: of whatever bytes, at whatever place: what stands there, or that nothing does.
-/
import Derived.Test.YtemoekakpnaboaaAw
import Derived.Test.YtemoekakpnaboaaTxt
import Derived.Test.YtemoekakpnaboaaGv
namespace Go.Proofs.Ytemoekakpnaboaa
open Go.RowKit Flo

theorem zero_ver : Value.complex .f64 0 0 = ver 0 0 := by
  unfold ver; rw [show F 0 = 0 by decide]
section
variable {v : Value} {l : List UInt8} {p : Nat} (hp : p ≤ 4611686018427387904) (hl : l.length ≤ 4611686018427387904)
include hp
theorem int_pair : ∃ (n x : Int) (ok : Bool), (∀ w, Seen w w.heap.size v l → Calls Try.prog 18 #[v, .int .i64 p] w fun e w' => e = .returned (.tuple #[.int .i64 n, .int .i64 x, .bool ok]) ∧ w = w') ∧
    (∀ w, Seen w w.heap.size v l → Calls Try.prog 19 #[v, .int .i64 p] w fun e w' => e = .returned (.tuple #[.int .i64 n, .int .i64 x, .bool ok]) ∧ w = w') := by
  cases hg : geti (l.drop p) with
  | none => exact ⟨_, _, _, fun w h => getint_none w h hp hg, fun w h => refgetint_none w h hp hg⟩
  | some x => exact ⟨_, _, _, fun w h => getint_some w h hp hg, fun w h => refgetint_some w h hp hg⟩
include hl
theorem text_pair : ∃ (s : ByteArray) (x : Int) (ok : Bool), (∀ w, Seen w w.heap.size v l → Calls Try.prog 20 #[v, .int .i64 p] w fun e w' => e = .returned (.tuple #[.string s, .int .i64 x, .bool ok]) ∧ w = w') ∧
    (∀ w, Seen w w.heap.size v l → Calls Try.prog 21 #[v, .int .i64 p] w fun e w' => e = .returned (.tuple #[.string s, .int .i64 x, .bool ok]) ∧ w = w') := by
  cases hg : upTo 65536 (l.drop p) with
  | none => exact ⟨_, _, _, fun w h => gettext_none w h hp (.inl hg), fun w h => refgettext_none w h hp hl (.inl hg)⟩
  | some x =>
    obtain ⟨n, k⟩ := x
    have h0 := (upTo_is hg).2.1
    obtain ⟨m, rfl⟩ : ∃ m : Nat, n = (m : Int) := ⟨n.toNat, by omega⟩
    by_cases hn : p + k + m ≤ l.length
    · exact ⟨_, _, _, fun w h => gettext_some w h hp hg hn, fun w h => refgettext_some w h hp hg hn⟩
    · have hn' : NoText l p := .inr ⟨m, k, hg, by omega⟩
      exact ⟨_, _, _, fun w h => gettext_none w h hp hn', fun w h => refgettext_none w h hp hl hn'⟩
theorem ver_pair : ∃ (a b x : Int) (ok : Bool), In a ∧ In b ∧ (∀ w, Seen w w.heap.size v l → Calls Try.prog 22 #[v, .int .i64 p] w fun e w' => e = .returned (.tuple #[ver a b, .int .i64 x, .bool ok]) ∧ w = w') ∧
    (∀ w, Seen w w.heap.size v l → Calls Try.prog 23 #[v, .int .i64 p] w fun e w' => e = .returned (.tuple #[ver a b, .int .i64 x, .bool ok]) ∧ w = w') := by
  have none_ : NoVer l p → ∃ (a b x : Int) (ok : Bool), In a ∧ In b ∧ (∀ w, Seen w w.heap.size v l → Calls Try.prog 22 #[v, .int .i64 p] w fun e w' => e = .returned (.tuple #[ver a b, .int .i64 x, .bool ok]) ∧ w = w') ∧
    (∀ w, Seen w w.heap.size v l → Calls Try.prog 23 #[v, .int .i64 p] w fun e w' => e = .returned (.tuple #[ver a b, .int .i64 x, .bool ok]) ∧ w = w') := by
    intro hn
    refine ⟨0, 0, 0, false, ⟨by omega, by omega⟩, ⟨by omega, by omega⟩, fun w h => ?_, fun w h => ?_⟩
    · rw [← zero_ver]; exact getver_none w h hp hl hn
    · rw [← zero_ver]; exact refgetver_none w h hp hl hn
  cases hg : upTo M40 (l.drop p) with
  | none => exact none_ (.inl hg)
  | some x =>
    obtain ⟨a, j⟩ := x
    cases hg2 : upTo M40 (l.drop (p + j)) with
    | none => exact none_ (.inr ⟨a, j, hg, hg2⟩)
    | some y => exact ⟨a, y.1, _, true, in_of (upTo_is hg).2, in_of (upTo_is hg2).2, fun w h => getver_some w h hp hl hg hg2, fun w h => refgetver_some w h hp hl hg hg2⟩
end

theorem ver_same {a b : Int} (ha : In a) (hb : In b) (w : World) : (binOp .eql 33 (ver a b) (ver a b)).run Try.prog w = .ok (.bool true) w := by
  rw [ver_eq a b a b ha hb ha hb 33 w, decide_eq_true rfl, decide_eq_true rfl]; rfl

set_option maxRecDepth 100000 in
set_option maxHeartbeats 2000000 in
theorem gets_walk (A : Option Addr) (c : Nat) (l : List UInt8) (p : Nat) (w : World) (hv : Seen w w.heap.size (.slice A l.length c) l) (hp : p ≤ 6000) (hl : l.length ≤ 5000) :
    Calls Try.prog 4 #[.slice A l.length c, .int .i64 p] w fun e w' => e = .returned (.bool true) ∧ Below w.heap.size w w' := by
  obtain ⟨n1, x1, ok1, I1, I2⟩ := int_pair (v := .slice A l.length c) (l := l) (p := p) (by omega)
  obtain ⟨s2, x2, ok2, T1, T2⟩ := text_pair (v := .slice A l.length c) (l := l) (p := p) (by omega) (by omega)
  obtain ⟨a3, b3, x3, ok3, ha, hb, V1, V2⟩ := ver_pair (v := .slice A l.length c) (l := l) (p := p) (by omega) (by omega)
  have I1' := Lib.hid (I1 w hv)
  have I2' := Lib.hid (I2 w hv)
  have T1' := Lib.hid (T1 w hv)
  have T2' := Lib.hid (T2 w hv)
  have V1' := Lib.hid (V1 w hv)
  have V2' := Lib.hid (V2 w hv)
  have hvv := ver_same ha hb
  clear I1 I2 T1 T2 V1 V2 ha hb
  by_cases hpl : p < l.length
  · obtain ⟨A', c', e, hA⟩ := hv
    injection e with e1 _ e2
    subst e1 e2
    obtain ⟨b, off, rfl, r1⟩ := hA.row (by omega)
    have e1 := r1 p hpl
    have h00 : (0 : Int) ≤ (p : Int) := by omega
    have h01 : (p : Int) < (l.length : Int) := by omega
    by_cases hc : l[p].toNat ≤ 1
    · have B1 := Lib.hid (getbool_some w ⟨_, c, rfl, hA⟩ hpl hc)
      rw [← one_beq] at B1
      have hc' : (l[p].toNat : Int) ≤ 1 := by omega
      obtain ⟨x, hx⟩ : ∃ x, ((l[p].toNat : Int) == 1) = x := ⟨_, rfl⟩
      rw [hx] at B1
      clear hA r1 hc
      go_enter Try.func4, Try.ntmps4
      go_wp2_with (first
        | (go_at_call 18; (with_reducible refine I1'.out.mono ?_); rintro e w' ⟨rfl, rfl⟩)
        | (go_at_call 19; (with_reducible refine I2'.out.mono ?_); rintro e w' ⟨rfl, rfl⟩)
        | (go_at_call 20; (with_reducible refine T1'.out.mono ?_); rintro e w' ⟨rfl, rfl⟩)
        | (go_at_call 21; (with_reducible refine T2'.out.mono ?_); rintro e w' ⟨rfl, rfl⟩)
        | (go_at_call 22; (with_reducible refine V1'.out.mono ?_); rintro e w' ⟨rfl, rfl⟩)
        | (go_at_call 23; (with_reducible refine V2'.out.mono ?_); rintro e w' ⟨rfl, rfl⟩)
        | (go_at_call 24; (with_reducible refine B1.out.mono ?_); rintro e w' ⟨rfl, rfl⟩)
        | (go_at_call 9; refine (awake_true _).mono ?_; rintro e w0 ⟨rfl, hb0⟩))
      go_ret
      exact ⟨rfl, hb0⟩
    · have B1 := Lib.hid (getbool_none w ⟨_, c, rfl, hA⟩ (p := p) (fun _ => by omega))
      have hc' : (1 : Int) < (l[p].toNat : Int) := by omega
      clear hA r1 hc
      go_enter Try.func4, Try.ntmps4
      go_wp2_with (first
        | (go_at_call 18; (with_reducible refine I1'.out.mono ?_); rintro e w' ⟨rfl, rfl⟩)
        | (go_at_call 19; (with_reducible refine I2'.out.mono ?_); rintro e w' ⟨rfl, rfl⟩)
        | (go_at_call 20; (with_reducible refine T1'.out.mono ?_); rintro e w' ⟨rfl, rfl⟩)
        | (go_at_call 21; (with_reducible refine T2'.out.mono ?_); rintro e w' ⟨rfl, rfl⟩)
        | (go_at_call 22; (with_reducible refine V1'.out.mono ?_); rintro e w' ⟨rfl, rfl⟩)
        | (go_at_call 23; (with_reducible refine V2'.out.mono ?_); rintro e w' ⟨rfl, rfl⟩)
        | (go_at_call 24; (with_reducible refine B1.out.mono ?_); rintro e w' ⟨rfl, rfl⟩)
        | (go_at_call 9; refine (awake_true _).mono ?_; rintro e w0 ⟨rfl, hb0⟩))
      go_ret
      exact ⟨rfl, hb0⟩
  · have B1 := Lib.hid (getbool_none w hv (p := p) (fun h => absurd h hpl))
    have h01 : (l.length : Int) ≤ (p : Int) := by omega
    clear hv hpl
    go_enter Try.func4, Try.ntmps4
    go_wp2_with (first
      | (go_at_call 18; (with_reducible refine I1'.out.mono ?_); rintro e w' ⟨rfl, rfl⟩)
      | (go_at_call 19; (with_reducible refine I2'.out.mono ?_); rintro e w' ⟨rfl, rfl⟩)
      | (go_at_call 20; (with_reducible refine T1'.out.mono ?_); rintro e w' ⟨rfl, rfl⟩)
      | (go_at_call 21; (with_reducible refine T2'.out.mono ?_); rintro e w' ⟨rfl, rfl⟩)
      | (go_at_call 22; (with_reducible refine V1'.out.mono ?_); rintro e w' ⟨rfl, rfl⟩)
      | (go_at_call 23; (with_reducible refine V2'.out.mono ?_); rintro e w' ⟨rfl, rfl⟩)
      | (go_at_call 24; (with_reducible refine B1.out.mono ?_); rintro e w' ⟨rfl, rfl⟩)
      | (go_at_call 9; refine (awake_true _).mono ?_; rintro e w0 ⟨rfl, hb0⟩))
    go_ret
    exact ⟨rfl, hb0⟩

set_option maxRecDepth 100000 in
theorem gets_law (v : Value) (l : List UInt8) (a : Int) (w : World) (hv : Seen w w.heap.size v l) (ha : (Lit.int .i64 a).wf = true) :
    Calls Try.prog 4 #[v, .int .i64 a] w fun e w' => e = .returned (.bool true) ∧ Below w.heap.size w w' := by
  have ha' : -9223372036854775808 ≤ a ∧ a ≤ 9223372036854775807 := by
    simp [Lit.wf, IntKind.min, IntKind.max, IntKind.signed, IntKind.bits] at ha
    omega
  have hlm := hv.len
  unfold maxLen at hlm
  have h0 := hv
  obtain ⟨A, c, rfl, hA⟩ := hv
  clear ha hA
  by_cases h1 : l.length ≤ 5000
  · by_cases h2 : a < 0
    · clear h0
      go_enter Try.func4, Try.ntmps4
      go_wp2_with (go_at_call 9; refine (awake_true _).mono ?_; rintro e w0 ⟨rfl, hb0⟩)
      go_ret
      exact ⟨rfl, hb0⟩
    · by_cases h3 : a ≤ 6000
      · obtain ⟨p, rfl⟩ : ∃ p : Nat, a = (p : Int) := ⟨a.toNat, by omega⟩
        exact gets_walk A c l p w h0 (by omega) h1
      · have h2' : 0 ≤ a := by omega
        have h3' : 6000 < a := by omega
        clear h0 h2 h3
        go_enter Try.func4, Try.ntmps4
        go_wp2_with (go_at_call 9; refine (awake_true _).mono ?_; rintro e w0 ⟨rfl, hb0⟩)
        go_ret
        exact ⟨rfl, hb0⟩
  · have h1' : 5000 < l.length := by omega
    clear h0 h1
    go_enter Try.func4, Try.ntmps4
    go_wp2_with (go_at_call 9; refine (awake_true _).mono ?_; rintro e w0 ⟨rfl, hb0⟩)
    go_ret
    exact ⟨rfl, hb0⟩

end Go.Proofs.Ytemoekakpnaboaa
