/-
  DiskKeeps, of every input.
-/
import Derived.Test.YtcdobelhchlheaaSy
import Derived.Test.YtcdobelhchlheaaBg
namespace Go.Proofs.Ytcdobelhchlheaa
open Go.RowKit
attribute [local go_sem ↓] Go.wp_at_zero Go.wp_at_succ

def one1 (m : List UInt8) : Chg := ⟨0, 1, ⟨m.toArray⟩⟩
/-- a disk that was synced, and to which these were appended since -/
def since (x : Cont) (ls : List (List UInt8)) : Dsk := ⟨x, { x with a1 := x.a1 ++ ls.flatten }, ls.map one1, false, 0⟩
theorem since_nil (x : Cont) : since x [] = synced x := by
  unfold since synced
  simp
theorem since_chg (x : Cont) (ls : List (List UInt8)) (m : List UInt8) : (since x ls).chg 0 1 m = (since x (ls ++ [m]), 0) := by
  show (Dsk.mk x { x with a1 := (x.a1 ++ ls.flatten) ++ m } (ls.map one1 ++ [one1 m]) false 0, (0 : Int)) = _
  unfold since
  rw [List.map_append, List.flatten_append, ← List.append_assoc]
  simp
theorem since_mass (x : Cont) (ls : List (List UInt8)) : (since x ls).mass = x.mass + ls.flatten.length + ls.length := by
  have h : ∀ ls : List (List UInt8), massL (ls.map one1) = ls.flatten.length + ls.length := by
    intro ls
    induction ls with
    | nil => rfl
    | cons m ls ih =>
      rw [List.map_cons, massL_cons, ih, List.flatten_cons, List.length_append, List.length_cons]
      show m.length + 1 + _ = _
      omega
  show x.mass + massL (ls.map one1) = _
  rw [h]
  omega
theorem all_ones (x : Cont) : ∀ ls : List (List UInt8), x.all (ls.map one1) = { x with a1 := x.a1 ++ ls.flatten } := by
  intro ls
  induction ls generalizing x with
  | nil => simp [Cont.all]
  | cons m ls ih =>
    show ({ x with a1 := x.a1 ++ m } : Cont).all (ls.map one1) = _
    rw [ih]
    simp
theorem since_fallen (x : Cont) (ls : List (List UInt8)) (keep torn : Int) : ((since x ls).fallen keep torn).a0 = x.a0 ∧ ((since x ls).fallen keep torn).front = x.front ∧ x.a1 <+: ((since x ls).fallen keep torn).a1 ∧ ((since x ls).fallen keep torn).a1 <+: x.a1 ++ ls.flatten := by
  unfold Dsk.fallen
  generalize within keep (since x ls).loose.length = K
  have h1 : (since x ls).last.all ((since x ls).loose.take K) = { x with a1 := x.a1 ++ (ls.take K).flatten } := by
    show x.all ((ls.map one1).take K) = _
    rw [← List.map_take, all_ones]
  have hp : (ls.take K).flatten <+: ls.flatten := by
    refine ⟨(ls.drop K).flatten, ?_⟩
    rw [← List.flatten_append, List.take_append_drop]
  rw [h1]
  split
  · rename_i c hc
    have hc' : (ls.map one1)[K]? = some c := hc
    rw [List.getElem?_map] at hc'
    obtain ⟨m, hm, rfl⟩ := Option.map_eq_some_iff.1 hc'
    rw [if_pos (show (one1 m).does = 0 from rfl)]
    refine ⟨rfl, rfl, ⟨(ls.take K).flatten ++ (cut torn (one1 m).text).data.toList, ?_⟩, ?_⟩
    · show _ = (x.a1 ++ (ls.take K).flatten) ++ (cut torn (one1 m).text).data.toList
      rw [List.append_assoc]
    · show (x.a1 ++ (ls.take K).flatten) ++ (cut torn (one1 m).text).data.toList <+: _
      rw [List.append_assoc]
      refine (List.prefix_append_right_inj x.a1).2 ?_
      have hKl : K < ls.length := (List.getElem?_eq_some_iff.1 hm).1
      have h2 : ls.flatten = (ls.take K).flatten ++ (m ++ (ls.drop (K + 1)).flatten) := by
        have : ls = ls.take K ++ (m :: ls.drop (K + 1)) := by
          rw [← (List.getElem?_eq_some_iff.1 hm).2, ← List.drop_eq_getElem_cons hKl, List.take_append_drop]
        conv => lhs; rw [this]
        rw [List.flatten_append, List.flatten_cons]
      rw [h2]
      refine (List.prefix_append_right_inj _).2 ?_
      have h3 : (cut torn (one1 m).text).data.toList = m.take (within torn (one1 m).text.size) := by
        unfold cut
        rw [extract_bytes]
        rfl
      rw [h3]
      exact (List.take_prefix _ _).trans (List.prefix_append _ _)
  · exact ⟨rfl, rfl, List.prefix_append _ _, (List.prefix_append_right_inj x.a1).2 hp⟩
theorem flat_len : ∀ (ls : List (List UInt8)), (∀ m ∈ ls, m.length ≤ 200) → ls.flatten.length ≤ 200 * ls.length
  | [], _ => Nat.le_refl _
  | m :: ls, h => by
    have h1 := h m (by simp)
    have h2 := flat_len ls fun q hq => h q (by simp [hq])
    rw [List.flatten_cons, List.length_append, List.length_cons]
    omega

/-- none of the disk's blocks -/
def Free (v : Value) (F : Nat → Prop) : Prop := ∀ k, v.ownBlock = some k → ¬ F k
theorem Free.turn {v : Value} {F F' : Nat → Prop} {w : World} {B : Nat} {l : List UInt8} (h : Free v F) (hr : RoomO w B v l) (hf : ∀ k, F' k → F k ∨ w.heap.size ≤ k) : Free v F' := fun k e hF => (hf k hF).elim (h k e) (fun q => by have := (hr.2 k e).2; omega)
/-- where what was read, and what is gathered, stand -/
def Held7 (B N g : Nat) (x : Cont) (ls : List (List UInt8)) (ua ub va : Value) (wr : World) : Prop := ∃ F, Disk wr B g (since x ls) F ∧ (RoomO wr B ua x.a1 ∧ Free ua F ∧ ∀ k, ua.ownBlock = some k → k < N) ∧ (RoomO wr B ub x.a0 ∧ Free ub F ∧ ∀ k, ub.ownBlock = some k → k < N) ∧ RoomO wr N va (x.a1 ++ ls.flatten) ∧ Free va F

end Go.Proofs.Ytcdobelhchlheaa
