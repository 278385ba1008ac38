/-
  frame.lowFirst: a number's lowest bytes, behind whatever there is; and what stands of a slice while another one grows out of it.
-/
import Derived.Test.YtoggdpkpfdilnaaMo
import Derived.Test.YtoggdpkpfdilnaaFr2
namespace Go.Proofs.Ytoggdpkpfdilnaa
open Go.RowKit

/-- o is v with m behind: where it lies, what is kept, and what still stands of a slice that it grew out of -/
def Grew (w : World) (B : Nat) (v : Value) (l m : List UInt8) (w' : World) (v' : Value) : Prop :=
  Room w' B v' (l ++ m) ∧ Below B w w' ∧ (∀ g, v'.ownBlock = some g → v.ownBlock = some g ∨ w.heap.size ≤ g) ∧ (∀ k, k < w.heap.size → v.ownBlock ≠ some k → w'.heap[k]? = w.heap[k]?) ∧
    ∀ (w0 : World) (u : Value) (k x : List UInt8), l = k ++ x → w0.heap.size ≤ w.heap.size → (∀ g, u.ownBlock = some g → g < w0.heap.size) → Stay w0 u k v w → Stay w0 u k v' w'

theorem Grew.refl {w : World} {B : Nat} {v : Value} {l : List UInt8} (h : Room w B v l) : Grew w B v l [] w v :=
  ⟨by rw [List.append_nil]; exact h, Below.refl _ _, fun _ h => .inl h, fun _ _ _ => rfl, fun _ _ _ _ _ _ _ h => h⟩
theorem Grew.trans {w w1 w2 : World} {B : Nat} {v v1 v2 : Value} {l m n : List UInt8} (h1 : Grew w B v l m w1 v1) (h2 : Grew w1 B v1 (l ++ m) n w2 v2) : Grew w B v l (m ++ n) w2 v2 := by
  obtain ⟨a1, a2, a3, a4, a5⟩ := h1
  obtain ⟨b1, b2, b3, b4, b5⟩ := h2
  have hs := a2.size
  refine ⟨by rw [← List.append_assoc]; exact b1, a2.trans b2, fun g hg => ?_, fun k hk hv => ?_, fun w0 u k x e h0 hu h => b5 w0 u k (x ++ m) (by rw [e, List.append_assoc]) (by omega) hu (a5 w0 u k x e h0 hu h)⟩
  · rcases b3 g hg with h | h
    · exact a3 g h
    · exact .inr (by omega)
  · rw [b4 k (by omega) (fun e => ?_), a4 k hk hv]
    rcases a3 k e with h | h
    · exact hv h
    · omega
/-- nothing that was there has turned -/
theorem Grew.quiet {w w1 : World} {B : Nat} {v : Value} {l : List UInt8} (h : Room w B v l) (hB : B ≤ w.heap.size) (hb : Below w.heap.size w w1) : Grew w B v l [] w1 v := by
  refine ⟨by rw [List.append_nil]; exact h.on hb, hb.mono hB, fun _ h => .inl h, fun k hk _ => hb.block k hk, fun w0 u k x _ _ _ hs => ?_⟩
  rcases hs with hs | ⟨h1, h2⟩
  · exact .inl hs
  · exact .inr ⟨h1.on hb, h2⟩
theorem Grew.then {w w1 w2 : World} {B : Nat} {v v1 : Value} {l m : List UInt8} (h : Grew w B v l m w1 v1) (hB : B ≤ w1.heap.size) (hb : Below w1.heap.size w1 w2) : Grew w B v l m w2 v1 := by
  have := h.trans (Grew.quiet h.1 hB hb)
  rw [List.append_nil] at this
  exact this
theorem Grew.app {w w' : World} {B : Nat} {v v' : Value} {l m : List UInt8} (h : Room w B v l) (h1 : Room w' B v' (l ++ m)) (h2 : Below B w w') (h3 : ∀ g, v'.ownBlock = some g → v.ownBlock = some g ∨ w.heap.size ≤ g) (h4 : ∀ k, k < w.heap.size → v.ownBlock ≠ some k → w'.heap[k]? = w.heap[k]?) (h5 : Grown w w' v v') : Grew w B v l m w' v' :=
  ⟨h1, h2, h3, h4, fun w0 u k x e h0 hu hs => by subst e; exact hs.step h h0 h2.size hu h4 h5⟩
theorem Grew.own {w w' : World} {B : Nat} {v v' : Value} {l m : List UInt8} (h : Grew w B v l m w' v') (ho : Own B v) (hB : B ≤ w.heap.size) : Own B v' := own_step ho hB h.2.2.1

theorem low_byte (m : Nat) : IntKind.u8.wrap (m : Int) = ((by_ (m % 256)).toNat : Int) := by rw [wrap8_is, rem256]

set_option maxRecDepth 10000 in
set_option maxHeartbeats 400000 in
theorem lowf_any (v : Value) (l : List UInt8) (B n c : Nat) (w : World) (hv : Room w B v l) (hB : B ≤ w.heap.size) (hl : l.length ≤ 274877906944) (hn : n < 18446744073709551616) (hc : c ≤ 8) :
    Calls Try.prog 41 #[v, .int .u64 (n : Int), .int .i64 (c : Int)] w fun e w' => ∃ v', e = .returned v' ∧ Grew w B v l (lowb c n) w' v' := by
  obtain ⟨i0, hi0, hz0, hz1, hz2⟩ := info_parts byte_info
  go_enter Try.func41, Try.ntmps41
  go_wp2_with fail
  go_loopw [0, 1, 8] (fun o mv i wr => ∃ k m : Nat, k ≤ c ∧ i = .int .i64 (k : Int) ∧ mv = .int .u64 (m : Int) ∧ m = n / 256 ^ k ∧ m < 18446744073709551616 ∧ Grew w B v l (lowb k n) wr o) (fun _ _ i _ => c - (intOf i).toNat)
  case atStart => exact ⟨0, n, Nat.zero_le _, rfl, rfl, by simp, hn, Grew.refl hv⟩
  case round =>
    obtain ⟨k, m, hk, rfl, rfl, hm, hm64, hg⟩ := hrel
    have HN := Lib.hid (lowb_next k n m hm)
    have HD := Lib.hid (div_next k n m hm)
    have HM := Lib.hid hm
    have HB := Lib.hid (Nat.le_trans hB hg.2.1.size)
    have hll := lowb_length k n
    have hpl : (l ++ lowb k n).length + 1 ≤ 1099511627776 := by rw [List.length_append]; omega
    clear hm hll
    by_cases hlt : k < c
    · have hin := low_byte m
      go_wp2_with (at_builtin; refine wpList_append8o (B := B) (l := l ++ lowb k n) (m := [by_ (m % 256)]) rfl (.tmp 10) (.tmp 13) 28 28 rfl 5 i0 Try.underlying28 hi0 hz0 hz1 hz2 (hg.1.al _) (Nat.le_trans HB.out (bal _ _).size) (src_one _ (by_ (m % 256)) Try.underlying28) hpl rfl rfl ?_; intro v' w' h1 h2 h3 h4 h5; have hg2 := (hg.then HB.out (bal _ _)).trans (Grew.app (hg.1.al _) h1 h2 h3 h4 h5))
      go_roundw
      case rel => exact ⟨k + 1, m / 256, by omega, by go_num, by go_num, HD.out, by omega, by rw [HN.out]; exact hg2⟩
      case measure => simp [intOf]; omega
    · obtain rfl : k = c := by omega
      go_wp2
      go_ret
      exact ⟨_, rfl, hg⟩

end Go.Proofs.Ytoggdpkpfdilnaa
