/-
  How much a disk holds, whatever is done with it; a disk that was synced (no program).
-/
import Derived.Test.YtcdobelhchlheaaPl
namespace Go.Proofs.Ytcdobelhchlheaa
open Go.RowKit

theorem tick_mass (s : Dsk) : s.tick.mass = s.mass := by unfold Dsk.tick; split <;> rfl
theorem chg_mass (s : Dsk) (k : Nat) (area : Int) (l : List UInt8) : (s.chg k area l).1.mass ≤ s.mass + l.length + 1 := by
  unfold Dsk.chg
  split
  · show (Dsk.tick _).mass ≤ _
    rw [tick_mass]
    show s.last.mass + massL (s.loose ++ [_]) ≤ s.last.mass + massL s.loose + l.length + 1
    rw [massL_snoc]
    show s.last.mass + (massL s.loose + (l.length + 1)) ≤ _
    omega
  · show s.mass ≤ _
    omega
theorem sync_mass (s : Dsk) : s.sync.1.mass ≤ s.mass := by
  unfold Dsk.sync
  split
  · show (Dsk.tick _).mass ≤ _
    rw [tick_mass]
    show (s.last.all s.loose).mass + massL [] ≤ s.last.mass + massL s.loose
    have := Cont.all_mass s.loose s.last
    simp [massL] at *
    exact this
  · exact Nat.le_refl _
theorem arm_mass (s : Dsk) (n : Int) : (s.arm n).mass = s.mass := by unfold Dsk.arm; split <;> rfl
theorem cut_len (t : Int) (tx : ByteArray) : (cut t tx).data.toList.length ≤ tx.data.toList.length := by
  unfold cut
  rw [extract_bytes, List.length_take]
  omega
theorem fallen_mass (s : Dsk) (keep torn : Int) : (s.fallen keep torn).mass ≤ s.mass := by
  unfold Dsk.fallen Dsk.mass
  generalize within keep s.loose.length = K
  have h1 := Cont.all_mass (s.loose.take K) s.last
  have h2 := massL_take s.loose K
  have h3 := massL_take s.loose (K + 1)
  split
  · rename_i c hc
    have hK : K < s.loose.length := (List.getElem?_eq_some_iff.1 hc).1
    have h4 : massL (s.loose.take (K + 1)) = massL (s.loose.take K) + c.w := by
      rw [List.take_succ_eq_append_getElem hK, massL_snoc, (List.getElem?_eq_some_iff.1 hc).2]
    unfold Chg.w at h4
    split
    · have h5 := Cont.does_mass (s.last.all (s.loose.take K)) { c with text := cut torn c.text }
      have h6 : ({ c with text := cut torn c.text } : Chg).bytes.length ≤ c.bytes.length := cut_len torn c.text
      omega
    · omega
  · omega
theorem crash_mass (s : Dsk) (keep torn : Int) : (s.crash keep torn).mass ≤ s.mass := by
  have := fallen_mass s keep torn
  show (s.fallen keep torn).mass + massL [] ≤ _
  simp [massL]
  exact this
theorem act_mass (s : Dsk) (a : Actd) : (s.act a).1.mass ≤ s.mass + a.b.length + 1 := by
  have h1 := chg_mass s 0 a.area a.b
  have h2 := chg_mass s 1 a.area []
  have h3 := chg_mass s 2 a.area []
  have h4 := sync_mass s
  have h5 := arm_mass s a.n
  have h6 := crash_mass s a.n a.m
  simp only [List.length_nil] at h2 h3
  unfold Dsk.act
  split
  · exact h1
  · split
    · omega
    · split
      · omega
      · split
        · omega
        · split
          · show (s.arm a.n).mass ≤ _
            omega
          · show (s.crash a.n a.m).mass ≤ _
            omega

/-- a disk on which all is synced -/
def synced (x : Cont) : Dsk := ⟨x, x, [], false, 0⟩
theorem synced_crash (x : Cont) (keep torn : Int) : (synced x).crash keep torn = synced x := by
  have : (synced x).fallen keep torn = x := by
    unfold Dsk.fallen synced
    simp [Cont.all]
  unfold Dsk.crash
  rw [this]
  rfl
theorem arm_up {s : Dsk} (h : s.down = false) (hr : s.right) : (s.arm (-1)).sync = (synced s.now, 0) := by
  have h1 : s.arm (-1) = { s with armed := false, left := 0 } := by
    unfold Dsk.arm
    rw [if_neg (by rw [h]; simp)]
    rfl
  rw [h1]
  unfold Dsk.sync
  have h2 : Dsk.refuses { s with armed := false, left := 0 } 0 = 0 := rfl
  rw [if_pos h2]
  show (Dsk.mk (s.last.all s.loose) s.now [] false 0, (0 : Int)) = _
  rw [← hr]
  rfl
theorem arm_down {s : Dsk} (h : s.down = true) : s.arm (-1) = s := by
  unfold Dsk.arm
  rw [if_pos h]
theorem sync_down {s : Dsk} (h : s.down = true) : s.sync = (s, 4) := by
  have h2 : s.refuses 0 = 4 := by
    unfold Dsk.refuses
    rw [if_pos (.inl rfl), if_pos h]
  unfold Dsk.sync
  rw [h2]
  rfl
theorem synced_mass {s : Dsk} (hr : s.right) : (synced s.now).mass ≤ s.mass := by
  have := Dsk.now_mass hr
  show s.now.mass + massL [] ≤ _
  simp [massL]
  exact this
theorem Disk.right {w : World} {B g : Nat} {s : Dsk} {F : Nat → Prop} (h : Disk w B g s F) : s.right := by
  obtain ⟨_, _, _, _, _, _, _, _, h4⟩ := h
  exact h4
/-- what was read is kept, while the disk changes -/
theorem RoomO.past {w w' W : World} {B g : Nat} {s : Dsk} {F : Nat → Prop} {v : Value} {l : List UInt8} (h : RoomO w B v l) (hd : Disk W B g s F) (hv : ∀ k, v.ownBlock = some k → W.heap.size ≤ k) (hk : ∀ k, k < w.heap.size → ¬ F k → w'.heap[k]? = w.heap[k]?) (hs : w.heap.size ≤ w'.heap.size) : RoomO w' B v l :=
  h.kept (fun k e => hk k (h.2 k e).2 (fun hF => by have := (hd.less k hF).2; have := hv k e; omega)) hs
theorem few_right {l : List Actd} (h : fewA l = true) (hf : ∀ a ∈ l, a.right ∨ (I64 a.area ∧ I64 a.n ∧ I64 a.m)) : ∀ a ∈ l, a.right := fun a ha => by
  have := (fewA_small h).2 a ha
  rcases hf a ha with q | ⟨q1, q2, q3⟩
  · exact q
  · exact ⟨q1, q2, q3, by omega⟩

end Go.Proofs.Ytcdobelhchlheaa
