/-
  The document's own functions on records: few, the same, in a row.
-/
import Derived.Test.YtoggdpkpfdilnaaFr2
import Derived.Test.YtoggdpkpfdilnaaMv
namespace Go.Proofs.Ytoggdpkpfdilnaa
open Go.RowKit

def total : List (List UInt8) → Nat
  | [] => 0
  | r :: t => r.length + total t
theorem total_snoc (l : List (List UInt8)) (r : List UInt8) : total (l ++ [r]) = total l + r.length := by
  induction l with
  | nil => simp [total]
  | cons x t ih => rw [List.cons_append, total, total, ih, Nat.add_assoc]
theorem takeM (l : List (List UInt8)) (k : Nat) (h : k < l.length) : l.take (k + 1) = l.take k ++ [l[k]] := List.take_succ_eq_append_getElem h
theorem frames_len (l : List (List UInt8)) : (frames l).length = 12 * l.length + total l := by
  induction l with
  | nil => rfl
  | cons r t ih => rw [frames, List.length_append, frame_length, ih, List.length_cons, total]; omega
/-- few records, of few bytes -/
def fewB (l : List (List UInt8)) : Bool := decide (l.length ≤ 40 ∧ (∀ r ∈ l, r.length ≤ 3000) ∧ total l ≤ 3000)

set_option maxRecDepth 10000 in
set_option maxHeartbeats 400000 in
theorem few_any (v : Value) (ls : List (List UInt8)) (w : World) (hv : Many w v ls) :
    Calls Try.prog 21 #[v] w fun e w' => e = .returned (.bool (fewB ls)) ∧ w = w' := by
  obtain ⟨A, c, rfl, hA⟩ := hv
  have hlm : ls.length ≤ maxLen := Nat.le_trans hA.1 hA.2.1
  unfold maxLen at hlm
  by_cases h40 : ls.length ≤ 40
  · go_enter Try.func21, Try.ntmps21
    go_wp2
    go_loop [3, 4] (fun n i => ∃ k : Nat, k ≤ ls.length ∧ i = .int .i64 (k : Int) ∧ n = .int .i64 ((total (ls.take k) : Nat) : Int) ∧ (∀ r ∈ ls.take k, r.length ≤ 3000) ∧ total (ls.take k) ≤ 3000 * k) (fun _ i => ls.length - (intOf i).toNat)
    case atStart => exact ⟨0, Nat.zero_le _, rfl, rfl, by simp, by simp [total]⟩
    case round =>
      obtain ⟨k, hk, rfl, rfl, hall, htot⟩ := hrel
      have HALL := Lib.hid hall
      clear hall
      by_cases hlt : k < ls.length
      · obtain ⟨b, off, u, rfl, _, hcell, A', c', rfl, hsee⟩ := hA.at_ k hlt
        have HT := Lib.hid (takeM ls k hlt)
        have HTT := Lib.hid (show total (ls.take (k + 1)) = total (ls.take k) + ls[k].length by rw [takeM ls k hlt, total_snoc])
        have i0 : (0 : Int) ≤ (k : Int) := by omega
        have i1 : (k : Int) < (ls.length : Int) := by omega
        clear hA hsee
        by_cases h3 : ls[k].length ≤ 3000
        · go_wp2
          go_round
          case rel => exact ⟨k + 1, by omega, by go_num, by rw [HTT.out]; go_num, by
            rw [HT.out]
            intro r hr
            rcases List.mem_append.1 hr with hr | hr
            · exact HALL.out r hr
            · rw [List.mem_singleton.1 hr]; exact h3, by rw [HTT.out]; omega⟩
          case measure => simp [intOf]; omega
        · have HD : Hid (fewB ls = false) := decide_eq_false (fun h => h3 (h.2.1 _ (List.getElem_mem hlt)))
          have h3' : (3000 : Int) < (ls[k].length : Int) := by omega
          clear h3
          go_wp2
          go_ret
          exact ⟨ret_bool HD.out.symm, rfl⟩
      · have hkl : ls.take k = ls := List.take_of_length_le (by omega)
        rw [hkl] at htot ⊢
        have HAL := Lib.hid (hkl ▸ HALL.out)
        clear hkl HALL hA
        by_cases ht : total ls ≤ 3000
        · have HD : Hid (fewB ls = true) := decide_eq_true ⟨h40, HAL.out, ht⟩
          go_wp2
          go_ret
          exact ⟨ret_bool (by rw [HD.out, decide_eq_true (by omega)]), rfl⟩
        · have HD : Hid (fewB ls = false) := decide_eq_false (fun h => ht h.2.2)
          go_wp2
          go_ret
          exact ⟨ret_bool (by rw [HD.out, decide_eq_false (by omega)]), rfl⟩
  · have HD : Hid (fewB ls = false) := decide_eq_false (fun h => h40 h.1)
    have h40' : (40 : Int) < (ls.length : Int) := by omega
    clear hA h40
    go_enter Try.func21, Try.ntmps21
    go_wp2
    go_ret
    exact ⟨ret_bool HD.out.symm, rfl⟩

end Go.Proofs.Ytoggdpkpfdilnaa
