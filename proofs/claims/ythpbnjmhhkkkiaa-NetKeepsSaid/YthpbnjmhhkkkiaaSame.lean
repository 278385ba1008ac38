/-
  Sameness of bytes, as the document's own function tells it; small words for walks over many worlds.
-/
import Derived.Test.YthpbnjmhhkkkiaaRows
import Derived.Test.YthpbnjmhhkkkiaaMem
import Derived.Test.YthpbnjmhhkkkiaaBit
import Derived.WalkSpells
import Derived.WalkLawsBesides
import Derived.LoopTactic
import Derived.Lib.Hide
import Derived.Outline
import Derived.Deep.QuietTactic
import Derived.BigQuiet
namespace Go.Proofs.Ythpbnjmhhkkkiaa
open Go.RowKit

theorem byte_info : (Try.prog.info? 5).map (fun i => (i.zero, i.size, i.bytes)) = some (some (.int .u8 0), 1, 1) := by kernel_rfl

/-- what a call that gives bytes comes to -/
def Gives (B : Nat) (l : List UInt8) (w : World) (e : Ending) (w' : World) : Prop := ∃ v, e = .returned v ∧ Room w' B v l ∧ Below B w w'

theorem src_one {P : Program} (w : World) (c : UInt8) {tx e : TypeId} (hk : P.underlying tx = some (.slice e)) :
    Src P 1 tx (.slice (some ⟨w.heap.size, 0, none⟩) 1 1) [c].length (c8 [c]) (w.alloc (.cells #[.int .u8 (c.toNat : Int)] e)) :=
  At.src (l := [c]) (B := w.heap.size + 1) ⟨Nat.le_refl _, by unfold maxLen; show 1 ≤ _; omega, .inr ⟨w.heap.size, 0, rfl, by omega, by simp, fun j hj => by
    obtain rfl : j = 0 := by simpa using hj
    rw [World.cell?_alloc_new]; rfl⟩⟩ hk

theorem take_next (l : List UInt8) (k : Nat) (h : k < l.length) : l.take (k + 1) = l.take k ++ [l[k]] := List.take_succ_eq_append_getElem h

theorem below_drewN (B : Nat) (w : World) (n : Nat) : Below B w (w.drewN n) := ⟨rfl, rfl, rfl, Nat.le_refl _, fun _ _ => rfl⟩

theorem byte_ne {a b : UInt8} (h : a ≠ b) : ((a.toNat : Int) == (b.toNat : Int)) = false := by
  rw [beq_eq_false_iff_ne]
  intro e
  exact h (UInt8.toNat_inj.1 (by omega))

theorem At.row {w : World} {B : Nat} {A : Option Addr} {c : Nat} {l : List UInt8} (h : At w B A c l) (hp : 0 < l.length) : ∃ b off, A = some ⟨b, off, none⟩ ∧ Row w b off l := by
  obtain ⟨_, _, rfl | ⟨b, off, rfl, _, _, hr⟩⟩ := h
  · cases hp
  · exact ⟨b, off, rfl, hr⟩

set_option maxRecDepth 10000 in
theorem same_at {B B' : Nat} (A A' : Option Addr) (c c' : Nat) (l m : List UInt8) (w : World) (hlm : m.length = l.length) (h1 : At w B A c l) (h2 : At w B' A' c' m) :
    Calls Try.prog 20 #[.slice A l.length c, .slice A' l.length c'] w fun e w' => e = .returned (.bool (decide (l = m))) ∧ ∃ n, w' = w.drewN n := by
  have hl : l.length ≤ maxLen := Nat.le_trans h1.1 h1.2.1
  unfold maxLen at hl
  have HL := Lib.hid hlm
  clear hlm
  go_enter Try.func20, Try.ntmps20
  go_wp2
  go_loopw [5] (fun i wr => ∃ k n : Nat, k ≤ l.length ∧ i = .int .i64 k ∧ l.take k = m.take k ∧ wr = w.drewN n) (fun i _ => l.length - (intOf i).toNat)
  case atStart => exact ⟨0, 0, Nat.zero_le _, rfl, rfl, rfl⟩
  case round =>
    obtain ⟨k, n, hk, rfl, ht, rfl⟩ := hrel
    have HT := Lib.hid ht
    clear ht
    by_cases hlt : k < l.length
    · have hkm : k < m.length := by rw [HL.out]; exact hlt
      obtain ⟨b, off, rfl, r1⟩ := h1.row (by omega)
      obtain ⟨b', off', rfl, r2⟩ := h2.row (by omega)
      have e1 := r1 k hlt
      have e2 := r2 k hkm
      clear h1 h2 r1 r2
      have i0 : (0 : Int) ≤ (k : Int) := by omega
      have i1 : (k : Int) < (l.length : Int) := by omega
      by_cases he : l[k] = m[k]
      · have HE := Lib.hid he
        rw [← he] at e2
        clear he
        go_wp2
        go_quiet (fail)
        go_wp2
        all_goals (go_roundw)
        case rel => exact ⟨k + 1, _, by omega, by go_num, by rw [take_next l k hlt, take_next m k hkm, HT.out, HE.out], rfl⟩
        case measure => simp [intOf]; omega
      · have hne := byte_ne he
        have HD := Lib.hid (decide_eq_false (fun e : l = m => he (by subst e; rfl)))
        clear he
        go_wp2
        go_quiet (fail)
        go_wp2
        go_ret
        exact ⟨ret_bool HD.out.symm, _, World.drewN_drewN ..⟩
    · have hk' : l = m := by
        have := HT.out
        rw [List.take_of_length_le (by omega), List.take_of_length_le (by rw [HL.out]; omega)] at this
        exact this
      have HD := Lib.hid (decide_eq_true hk')
      clear hk'
      go_wp2
      go_ret
      exact ⟨ret_bool HD.out.symm, _, rfl⟩

theorem nat_ne {a b : Nat} (h : a ≠ b) : ((a : Int) == (b : Int)) = false := by
  rw [beq_eq_false_iff_ne]; omega

set_option maxRecDepth 10000 in
theorem same_any {B B' : Nat} {v u : Value} {l m : List UInt8} (w : World) (h1 : Seen w B v l) (h2 : Seen w B' u m) :
    Calls Try.prog 20 #[v, u] w fun e w' => e = .returned (.bool (decide (l = m))) ∧ ∃ n, w' = w.drewN n := by
  obtain ⟨A, c, rfl, h1⟩ := h1
  obtain ⟨A', c', rfl, h2⟩ := h2
  by_cases hl : m.length = l.length
  · rw [hl]
    exact same_at A A' c c' l m w hl h1 h2
  · have hne := nat_ne (fun h => hl h.symm)
    have HD := Lib.hid (decide_eq_false (fun e : l = m => hl (by rw [e])))
    clear h1 h2 hl
    go_enter Try.func20, Try.ntmps20
    go_wp2
    go_ret
    exact ⟨ret_bool HD.out.symm, 0, rfl⟩

theorem bt {a b c : World} (h : Below a.heap.size a b) (k : Below b.heap.size b c) : Below a.heap.size a c := h.trans (k.mono h.size)
theorem bal (w : World) (o : Obj) : Below w.heap.size w (w.alloc o) := Below.alloc (Below.refl _ _) (Nat.le_refl _) o
theorem Seen.al {w : World} {v : Value} {l : List UInt8} (h : Seen w w.heap.size v l) (o : Obj) : Seen (w.alloc o) (w.alloc o).heap.size v l := h.on (bal w o)
theorem Room.al {w : World} {B : Nat} {v : Value} {l : List UInt8} (h : Room w B v l) (o : Obj) : Room (w.alloc o) B v l := h.on (bal w o)

theorem same_is {v u : Value} {l m : List UInt8} {b : Bool} (w : World) (h1 : Seen w w.heap.size v l) (h2 : Seen w w.heap.size u m) (hb : decide (l = m) = b) :
    Calls Try.prog 20 #[v, u] w fun e w' => e = .returned (.bool b) ∧ Below w.heap.size w w' :=
  (same_any w h1 h2).mono fun e w' ⟨he, n, hw⟩ => ⟨by rw [he, hb], by rw [hw]; exact below_drewN _ _ _⟩
theorem same_yes {v u : Value} {l : List UInt8} (w : World) (h1 : Seen w w.heap.size v l) (h2 : Seen w w.heap.size u l) :
    Calls Try.prog 20 #[v, u] w fun e w' => e = .returned (.bool true) ∧ Below w.heap.size w w' := same_is w h1 h2 (decide_eq_true rfl)

end Go.Proofs.Ythpbnjmhhkkkiaa
