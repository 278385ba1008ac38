/-
  What is written behind a slice, and what is kept: numbers, truths, texts, versions.
-/
import Derived.Test.YtmohanbgplffcaaGen
import Derived.Test.YtmohanbgplffcaaCd
namespace Go.Proofs.Ytmohanbgplffcaa
open Go.RowKit Flo

/-- v' is v with m behind; where it lies, and what is kept -/
def Adds (w : World) (B : Nat) (v : Value) (l m : List UInt8) (w' : World) (v' : Value) : Prop :=
  Room w' B v' (l ++ m) ∧ Below B w w' ∧ (∀ g, v'.ownBlock = some g → v.ownBlock = some g ∨ w.heap.size ≤ g) ∧ ∀ k, k < w.heap.size → v.ownBlock ≠ some k → w'.heap[k]? = w.heap[k]?
theorem Adds.refl {w : World} {B : Nat} {v : Value} {l : List UInt8} (h : Room w B v l) : Adds w B v l [] w v :=
  ⟨by rw [List.append_nil]; exact h, Below.refl _ _, fun _ h => .inl h, fun _ _ _ => rfl⟩
theorem Adds.trans {w w1 w2 : World} {B : Nat} {v v1 v2 : Value} {l m n : List UInt8} (h1 : Adds w B v l m w1 v1) (h2 : Adds w1 B v1 (l ++ m) n w2 v2) : Adds w B v l (m ++ n) w2 v2 := by
  obtain ⟨a1, a2, a3, a4⟩ := h1
  obtain ⟨b1, b2, b3, b4⟩ := h2
  have hs := a2.size
  refine ⟨by rw [← List.append_assoc]; exact b1, a2.trans b2, fun g hg => ?_, fun k hk hv => ?_⟩
  · rcases b3 g hg with h | h
    · exact a3 g h
    · exact .inr (by omega)
  · rw [b4 k (by omega) (fun e => ?_), a4 k hk hv]
    rcases a3 k e with h | h
    · exact hv h
    · omega
theorem Adds.then {w w1 w2 : World} {B : Nat} {v v1 : Value} {l m : List UInt8} (h : Adds w B v l m w1 v1) (hB : B ≤ w.heap.size) (hb : Below w1.heap.size w1 w2) : Adds w B v l m w2 v1 := by
  obtain ⟨a1, a2, a3, a4⟩ := h
  have hs := a2.size
  exact ⟨a1.on hb, a2.trans (hb.mono (by omega)), a3, fun k hk hv => (hb.block k (by omega)).trans (a4 k hk hv)⟩
theorem Adds.ahead {w w1 w2 : World} {B : Nat} {v v2 : Value} {l m : List UInt8} (hb : Below w.heap.size w w1) (hB : B ≤ w.heap.size) (h : Adds w1 B v l m w2 v2) : Adds w B v l m w2 v2 := by
  obtain ⟨a1, a2, a3, a4⟩ := h
  have hs := hb.size
  refine ⟨a1, (hb.mono hB).trans a2, fun g hg => ?_, fun k hk hv => (a4 k (by omega) hv).trans (hb.block k hk)⟩
  rcases a3 g hg with h | h
  · exact .inl h
  · exact .inr (by omega)
theorem Adds.gives {w w' : World} {B : Nat} {v v' : Value} {l m : List UInt8} (h : Adds w B v l m w' v') : Gives B (l ++ m) w (.returned v') w' := ⟨v', rfl, h.1, h.2.1⟩

/-- where the loop of Int stands -/
def IntAs (B : Nat) (v0 : Value) (l : List UInt8) (m0 : Nat) (w : World) (v mv : Value) (wr : World) : Prop :=
  ∃ (m : Nat) (p : List UInt8), mv = .int .u64 (m : Int) ∧ m < 18446744073709551616 ∧ p ++ enc m = enc m0 ∧ Adds w B v0 l p wr v

set_option maxRecDepth 10000 in
set_option maxHeartbeats 400000 in
theorem int_adds (n : Int) (w : World) (B : Nat) (v : Value) (l : List UInt8) (h1 : -9223372036854775808 ≤ n) (h2 : n ≤ 9223372036854775807) (hr : Room w B v l) (hB : B ≤ w.heap.size) (hl : l.length ≤ 549755813888) :
    Calls Try.prog 28 #[v, .int .i64 n] w fun e w' => ∃ v', e = .returned v' ∧ Adds w B v l (wint n) w' v' := by
  obtain ⟨i0, hi0, hz0, hz1, hz2⟩ := info_parts byte_info
  have hz := zig_lt h1 h2
  have hle := enc_le _ hz
  have hE : Hid (wint n = enc (zig n)) := rfl
  have F := Lib.hid (fun w => fold_any n w h1 h2)
  generalize zig n = m0 at hz hle hE F
  have hz' : m0 < 18446744073709551616 := hz
  clear hz
  go_enter Try.func28, Try.ntmps28
  go_wp2_with (go_at_call 38; (with_reducible refine (F.out _).mono ?_); rintro e w' ⟨rfl, rfl⟩)
  go_loopw [0, 5] (IntAs B v l m0 w) (fun _ mv _ => (intOf mv).toNat)
  case atStart => exact ⟨m0, [], rfl, hz', rfl, Adds.refl hr⟩
  case round =>
    obtain ⟨m, p, rfl, hm, hp, hr'⟩ := hrel
    have hpl : (l ++ p).length + 1 ≤ 1099511627776 := by
      have := congrArg List.length hp
      rw [List.length_append] at this ⊢
      omega
    have HP := Lib.hid hp
    have HB := Lib.hid (Nat.le_trans hB hr'.2.1.size)
    clear hp
    by_cases hlt : m < 128
    · have hin : IntKind.u8.wrap (m : Int) = ((by_ m).toNat : Int) := low8 m hlt
      go_wp2_with (at_builtin; refine wpList_append8k (B := B) (l := l ++ p) (m := [by_ m]) rfl (.tmp 18) (.tmp 21) 22 22 rfl 5 i0 Try.underlying22 hi0 hz0 hz1 hz2 (hr'.1.on (bal _ _)) (Nat.le_trans HB.out (bal _ _).size) (src_one _ (by_ m) Try.underlying22) hpl rfl rfl ?_; intro v' w' h1 h2 h3 h4; have hg2 := hr'.trans (Adds.ahead (bal _ _) HB.out ⟨h1, h2, h3, h4⟩))
      go_ret
      refine ⟨v', rfl, ?_⟩
      rw [hE.out, ← HP.out, enc_small hlt]
      exact hg2
    · have hin := or128m m
      go_wp2_with (at_builtin; refine wpList_append8k (B := B) (l := l ++ p) (m := [by_ (m % 128 + 128)]) rfl (.tmp 10) (.tmp 14) 22 22 rfl 5 i0 Try.underlying22 hi0 hz0 hz1 hz2 (hr'.1.on (bal _ _)) (Nat.le_trans HB.out (bal _ _).size) (src_one _ (by_ (m % 128 + 128)) Try.underlying22) hpl rfl rfl ?_; intro v' w' h1 h2 h3 h4; have hg2 := hr'.trans (Adds.ahead (bal _ _) HB.out ⟨h1, h2, h3, h4⟩))
      go_roundw
      case rel =>
        refine ⟨m / 128, p ++ [by_ (m % 128 + 128)], by go_num, by omega, ?_, hg2⟩
        rw [← HP.out, enc_big hlt, List.append_assoc]
        rfl
      case measure => simp [intOf]; omega

set_option maxRecDepth 10000 in
theorem bool_adds (is : Bool) (w : World) (B : Nat) (v : Value) (l : List UInt8) (hr : Room w B v l) (hB : B ≤ w.heap.size) (hl : l.length ≤ 549755813888) :
    Calls Try.prog 30 #[v, .bool is] w fun e w' => ∃ v', e = .returned v' ∧ Adds w B v l [bit is] w' v' := by
  obtain ⟨i0, hi0, hz0, hz1, hz2⟩ := info_parts byte_info
  have hpl : l.length + 1 ≤ 1099511627776 := by omega
  cases is
  · go_enter Try.func30, Try.ntmps30
    go_wp2_with (at_builtin; refine wpList_append8k (B := B) (l := l) (m := [0]) rfl (.tmp 9) (.tmp 10) 22 22 rfl 5 i0 Try.underlying22 hi0 hz0 hz1 hz2 (hr.on (bal _ _)) (Nat.le_trans hB (bal _ _).size) (src_one _ 0 Try.underlying22) hpl rfl rfl ?_; intro v' w' h1 h2 h3 h4; have hg2 := (Adds.ahead (bal _ _) hB ⟨h1, h2, h3, h4⟩))
    go_ret
    exact ⟨v', rfl, hg2⟩
  · go_enter Try.func30, Try.ntmps30
    go_wp2_with (at_builtin; refine wpList_append8k (B := B) (l := l) (m := [1]) rfl (.tmp 6) (.tmp 7) 22 22 rfl 5 i0 Try.underlying22 hi0 hz0 hz1 hz2 (hr.on (bal _ _)) (Nat.le_trans hB (bal _ _).size) (src_one _ 1 Try.underlying22) hpl rfl rfl ?_; intro v' w' h1 h2 h3 h4; have hg2 := (Adds.ahead (bal _ _) hB ⟨h1, h2, h3, h4⟩))
    go_ret
    exact ⟨v', rfl, hg2⟩

set_option maxRecDepth 10000 in
theorem text_adds (s : ByteArray) (w : World) (B : Nat) (v : Value) (l : List UInt8) (hr : Room w B v l) (hB : B ≤ w.heap.size) (hl : l.length ≤ 274877906944) (hs : s.size ≤ 274877906944) :
    Calls Try.prog 29 #[v, .string s] w fun e w' => ∃ v', e = .returned v' ∧ Adds w B v l (wint s.size ++ s.data.toList) w' v' := by
  obtain ⟨i0, hi0, hz0, hz1, hz2⟩ := info_parts byte_info
  have hle := wint_le (n := (s.size : Int)) (by omega) (by omega)
  have hpl : (l ++ wint s.size).length + s.data.toList.length ≤ 1099511627776 := by
    rw [List.length_append]
    have : s.data.toList.length = s.size := by simp
    omega
  have R := Lib.hid (int_adds (s.size : Int) w B v l (by omega) (by omega) hr hB (by omega))
  go_enter Try.func29, Try.ntmps29
  go_wp2_with (first
    | (go_at_call 28; (with_reducible refine R.out.mono ?_); rintro e w1 ⟨v1, rfl, ha1⟩)
    | (at_builtin; refine wpList_append8k (B := B) (l := l ++ wint s.size) (m := s.data.toList) rfl (.tmp 8) (.tmp 9) 22 9 rfl 5 i0 Try.underlying22 hi0 hz0 hz1 hz2 ha1.1 (Nat.le_trans hB ha1.2.1.size) (src_string _ Try.underlying9 s) hpl rfl rfl ?_; intro v' w' h1 h2 h3 h4; have hg2 := ha1.trans ⟨h1, h2, h3, h4⟩))
  go_ret
  exact ⟨v', rfl, hg2⟩

set_option maxRecDepth 10000 in
theorem wver_adds (a b : Int) (w : World) (B : Nat) (v : Value) (l : List UInt8) (hr : Room w B v l) (hB : B ≤ w.heap.size) (hl : l.length ≤ 274877906944) (ha : In a) (hb : In b) :
    Calls Try.prog 27 #[v, ver a b] w fun e w' => ∃ v', e = .returned v' ∧ Adds w B v l (wint a ++ wint b) w' v' := by
  have ha' := ha
  have hb' := hb
  unfold In at ha' hb'
  have hle := wint_le (n := a) (by omega) (by omega)
  have R := Lib.hid (int_adds a w B v l (by omega) (by omega) hr hB (by omega))
  have R2 := Lib.hid (fun w' v' (h : Room w' B v' (l ++ wint a)) (h' : B ≤ w'.heap.size) => int_adds b w' B v' (l ++ wint a) (by omega) (by omega) h h' (by rw [List.length_append]; omega))
  go_enter Try.func27, Try.ntmps27
  go_wp2_with (first
    | (go_at_call 36; (with_reducible refine (epoch_any a b _ ha).mono ?_); rintro e w1 ⟨rfl, rfl⟩)
    | (go_at_call 37; (with_reducible refine (num_any a b _ hb).mono ?_); rintro e w1 ⟨rfl, rfl⟩)
    | (go_at_call 28; (with_reducible refine R.out.mono ?_); rintro e w1 ⟨v1, rfl, ha1⟩; have hr1 : Room w1 B v1 (l ++ wint a) := ha1.1; have hs1 : B ≤ w1.heap.size := Nat.le_trans hB ha1.2.1.size)
    | (go_at_call 28; (with_reducible refine (R2.out _ _ hr1 hs1).mono ?_); rintro e w2 ⟨v2, rfl, ha2⟩))
  go_ret
  exact ⟨v2, rfl, ha1.trans ha2⟩

end Go.Proofs.Ytmohanbgplffcaa
