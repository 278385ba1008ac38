/-
  The document's own functions of entries: bytes one behind the other; a truth's byte; a version's bytes.
-/
import Derived.Test.YtmohanbgplffcaaGen
import Derived.Test.YtmohanbgplffcaaMv
import Derived.Test.YtmohanbgplffcaaCd
import Derived.Test.YtmohanbgplffcaaRef2
namespace Go.Proofs.Ytmohanbgplffcaa
open Go.RowKit Flo

def flat : List (List UInt8) → List UInt8
  | [] => []
  | r :: t => r ++ flat t
theorem flat_snoc (l : List (List UInt8)) (r : List UInt8) : flat (l ++ [r]) = flat l ++ r := by
  induction l with
  | nil => simp [flat]
  | cons x t ih => rw [List.cons_append, flat, flat, ih, List.append_assoc]
theorem takeM (l : List (List UInt8)) (k : Nat) (h : k < l.length) : l.take (k + 1) = l.take k ++ [l[k]] := List.take_succ_eq_append_getElem h
theorem flat_bytes (fs : List Fld) : flat (fs.map Fld.bytes) = bytesOf fs := by
  induction fs with
  | nil => rfl
  | cons f t ih => rw [List.map_cons, flat, ih]; rfl

set_option maxRecDepth 10000 in
set_option maxHeartbeats 400000 in
theorem cat_any (v : Value) (ls : List (List UInt8)) (w : World) (hv : Many w v ls) (hf : ls.length ≤ 1000) (hl : ∀ r ∈ ls, r.length ≤ 1000000) :
    Calls Try.prog 22 #[v] w (Gives w.heap.size (flat ls) w) := by
  obtain ⟨i0, hi0, hz0, hz1, hz2⟩ := info_parts byte_info
  have HM := Lib.hid hv
  obtain ⟨A, c, rfl, hA⟩ := hv
  have HA := Lib.hid hA
  have HLR := Lib.hid hl
  clear hA hl
  go_enter Try.func22, Try.ntmps22
  go_wp2
  go_loopw [3, 4] (fun o i wr => ∃ k : Nat, k ≤ ls.length ∧ i = .int .i64 (k : Int) ∧ Room wr w.heap.size o (flat (ls.take k)) ∧ (flat (ls.take k)).length ≤ 1000000 * k ∧ Below w.heap.size w wr) (fun _ i _ => ls.length - (intOf i).toNat)
  case atStart => exact ⟨0, Nat.zero_le _, rfl, Room.nil, by simp [flat], Below.refl _ _⟩
  case round =>
    obtain ⟨k, hk, rfl, hr, hlen, hb⟩ := hrel
    by_cases hlt : k < ls.length
    · obtain ⟨b, off, u, rfl, hbw, hcell, hsee⟩ := (HA.out.on hb).at_ k hlt
      have HT := Lib.hid (show flat (ls.take (k + 1)) = flat (ls.take k) ++ ls[k] by rw [takeM ls k hlt, flat_snoc])
      have hrk := HLR.out _ (List.getElem_mem hlt)
      have P1 : (flat (ls.take k)).length + ls[k].length ≤ 1099511627776 := by omega
      have i0' : (0 : Int) ≤ (k : Int) := by omega
      have i1 : (k : Int) < (ls.length : Int) := by omega
      have HS := Lib.hid hsee
      clear hsee
      go_wp2_with (at_builtin; refine wpList_append8 (B := w.heap.size) (l := flat (ls.take k)) (m := ls[k]) rfl (.tmp 11) (.tmp 15) 22 22 rfl 5 i0 Try.underlying22 hi0 hz0 hz1 hz2 hr hb.size (HS.out.src Try.underlying22) P1 rfl rfl ?_; intro v2 w2 hr2 hb2)
      go_roundw
      case rel => exact ⟨k + 1, by omega, by go_num, by rw [HT.out]; exact hr2, by rw [HT.out, List.length_append]; omega, hb.trans hb2⟩
      case measure => simp [intOf]; omega
    · have hkl : Hid (ls.take k = ls) := List.take_of_length_le (by omega)
      go_wp2
      go_ret
      exact ⟨_, rfl, by rw [hkl.out] at hr; exact hr, hb⟩

theorem rbit_any (b : Bool) (w : World) : Calls Try.prog 26 #[.bool b] w (Gives w.heap.size [bit b] w) := by
  cases b
  · have h := Lib.hid (Room.made w [0] 5 (by decide))
    go_enter Try.func26, Try.ntmps26
    go_wp2
    go_ret
    exact ⟨_, rfl, h.out, bal w _⟩
  · have h := Lib.hid (Room.made w [1] 5 (by decide))
    go_enter Try.func26, Try.ntmps26
    go_wp2
    go_ret
    exact ⟨_, rfl, h.out, bal w _⟩

end Go.Proofs.Ytmohanbgplffcaa
