/-
  FrameTorn's walk, given what frame.Put and frame.Scan come to.
-/
import Derived.Test.YtakgkhfakjfodaaLw
namespace Go.Proofs.Ytakgkhfakjfodaa
open Go.RowKit

theorem whole_lt : ∀ (ls : List (List UInt8)) (a k : Nat), k < whole ls a ↔ (k < ls.length ∧ (frames (ls.take (k + 1))).length ≤ a)
  | [], a, k => by simp [whole]
  | r :: t, a, k => by
    have hl := frame_length r
    rw [whole, List.take_succ_cons, frames, List.length_append, hl]
    by_cases h : 12 + r.length ≤ a
    · rw [if_pos h]
      cases k with
      | zero => simp [frames]; omega
      | succ k =>
        have := whole_lt t (a - (12 + r.length)) k
        rw [List.length_cons]
        omega
    · rw [if_neg h]
      constructor
      · intro h; omega
      · rintro ⟨_, h'⟩; omega
theorem whole_le : ∀ (ls : List (List UInt8)) (a : Nat), whole ls a ≤ ls.length
  | [], _ => Nat.le_refl _
  | r :: t, a => by
    rw [whole]
    split
    · have := whole_le t (a - (12 + r.length)); rw [List.length_cons]; omega
    · exact Nat.zero_le _

/-- frame.Put's contract, and where its result lies -/
def PutOwn : Prop := ∀ (w : World) (B : Nat) (v u : Value) (l r : List UInt8), Room w B v l → B ≤ w.heap.size → Seen w w.heap.size u r → (r = [] ∨ ∀ g, v.ownBlock = some g → u.ownBlock ≠ some g) → l.length ≤ 16777216 → r.length ≤ 16777216 →
  Calls Try.prog 11 #[v, u] w fun e w' => ∃ v', e = .returned v' ∧ Room w' B v' (l ++ frame r) ∧ Below B w w' ∧ ∀ g, v'.ownBlock = some g → v.ownBlock = some g ∨ w.heap.size ≤ g
theorem fewB_is {ls : List (List UInt8)} (h : fewB ls = true) : ls.length ≤ 40 ∧ (∀ r ∈ ls, r.length ≤ 3000) ∧ total ls ≤ 3000 := of_decide_eq_true h
theorem total_take (ls : List (List UInt8)) (k : Nat) : total (ls.take k) ≤ total ls := by
  induction ls generalizing k with
  | nil => simp
  | cons r t ih =>
    cases k with
    | zero => simp [total]
    | succ k => rw [List.take_succ_cons, total, total]; have := ih k; omega

def PutAt (ls : List (List UInt8)) (w0 : World) (o i : Value) (wr : World) : Prop := ∃ k : Nat, k ≤ ls.length ∧ i = .int .i64 (k : Int) ∧ Room wr w0.heap.size o (frames (ls.take k)) ∧ Own w0.heap.size o ∧ Below w0.heap.size w0 wr
def CountAt (ls : List (List UInt8)) (m : Nat) (e c i : Value) : Prop := ∃ k : Nat, k ≤ m ∧ i = .int .i64 (k : Int) ∧ c = .int .i64 (k : Int) ∧ e = .int .i64 ((frames (ls.take k)).length : Int)

set_option maxRecDepth 100000 in
set_option maxHeartbeats 1000000 in
theorem torn_walk (AW : AwakeOk) (PU : PutOwn) (SC : ScanOk) (v : Value) (ls : List (List UInt8)) (cut : Nat) (w : World) (hv : Many w v ls) (hc : cut ≤ 65535) (hf : fewB ls = true) :
    Calls Try.prog 5 #[v, .int .u16 (cut : Int)] w fun e w' => e = .returned (.bool true) ∧ Below w.heap.size w w' := by
  obtain ⟨f1, f2, f3⟩ := fewB_is hf
  have HM := Lib.hid hv
  have HAW := Lib.hid AW
  unfold PutOwn at PU
  unfold ScanOk at SC
  have HPU := Lib.hid PU
  have HSC := Lib.hid SC
  have HF := Lib.hid (fun w (h : Many w v ls) => few_any v ls w h)
  rw [hf] at HF
  have HF2 := Lib.hid f2
  have hfl : (frames ls).length ≤ 4000 := by rw [frames_len]; omega
  have hfk : ∀ k, (frames (ls.take k)).length ≤ 4000 := fun k => by
    rw [frames_len, List.length_take]; have := total_take ls k; omega
  have HFK := Lib.hid hfk
  clear AW PU SC hf f2 hfk
  obtain ⟨A, c, rfl, hA⟩ := hv
  have hlc := hA.1
  have hcm := hA.2.1
  unfold maxLen at hcm
  have HA := Lib.hid hA
  clear hA
  go_enter Try.func5, Try.ntmps5
  go_wp2_with (first
    | (go_at_call 9; refine (HAW.out _).mono ?_; rintro e w0 ⟨rfl, hb0⟩)
    | (go_at_call 16; (with_reducible refine (HF.out _ (HM.out.on hb0)).mono ?_); rintro e w' ⟨rfl, rfl⟩))
  have HA0 := Lib.hid (HA.out.on hb0)
  go_loopw [5, 6] (PutAt ls w0) (fun _ i _ => ls.length - (intOf i).toNat)
  case atStart => exact ⟨0, Nat.zero_le _, rfl, Room.nil, (fun g h => by cases h), Below.refl _ _⟩
  case round =>
    obtain ⟨k, hk, rfl, hr, hown, hb⟩ := hrel
    by_cases hlt : k < ls.length
    · obtain ⟨b, off, u, rfl, hbw, hcell0, hsee0⟩ := HA0.out.at_ k hlt
      have hcell : wr.cell? ⟨b, off + k, none⟩ = some u := (hb.cell (p := ⟨b, off + k, none⟩) hbw).trans hcell0
      have HT := Lib.hid (show frames (ls.take (k + 1)) = frames (ls.take k) ++ frame ls[k] by rw [takeM ls k hlt, frames_snoc])
      have hap := hsee0.own_lt
      have P := Lib.hid (HPU.out wr w0.heap.size _ u _ ls[k] hr hb.size (hsee0.on hb) (hap.imp id (fun h g hg he => by have := hown g hg; have := h g he; omega)) (by have := HFK.out k; omega) (by have := HF2.out _ (List.getElem_mem hlt); omega))
      have i0 : (0 : Int) ≤ (k : Int) := by omega
      have i1 : (k : Int) < (ls.length : Int) := by omega
      clear hcell0 hsee0 hap
      go_wp2_with (go_at_call 11; (with_reducible refine P.out.mono ?_); rintro e w1 ⟨v1, rfl, hr1, hb1, ho1⟩)
      go_roundw
      case rel => exact ⟨k + 1, by omega, by go_num, by rw [HT.out]; exact hr1, own_step hown hb.size ho1, hb.trans hb1⟩
      case measure => simp [intOf]; omega
    · obtain rfl : k = ls.length := by omega
      rw [List.take_length] at hr
      obtain ⟨L, hL⟩ : ∃ L, L = frames ls := ⟨_, rfl⟩
      rw [← hL] at hr hfl
      obtain ⟨A1, c1, rfl, hle1, hcm1, _⟩ := hr.cut
      unfold maxLen at hcm1
      obtain ⟨a, ha⟩ : ∃ a, a = cut % (L.length + 1) := ⟨_, rfl⟩
      have haL : a ≤ L.length := by rw [ha]; have := Nat.mod_lt cut (show 0 < L.length + 1 by omega); omega
      have hai : (cut : Int) % ((L.length : Int) + 1) = (a : Int) := by rw [ha, Int.natCast_emod, Int.natCast_add]; rfl
      have hst := scan_torn ls a (fun r hr => by have := HF2.out r hr; omega) (by rw [← hL]; exact haL)
      rw [← hL] at hst
      have SA : Hid (Seen wr wr.heap.size (.slice A1 a c1) (L.take a)) := by
        have hlen : (L.take a).length = a := by rw [List.length_take]; omega
        obtain ⟨A2, c2, e, hA2⟩ := hr.seen
        injection e with e1 _ e2
        subst e1 e2
        obtain ⟨h1, h2, h3⟩ := hA2
        refine ⟨A1, c1, by rw [hlen], by rw [hlen]; omega, h2, ?_⟩
        rcases h3 with rfl | ⟨b, off, hA, hb, hw, hr⟩
        · exact .inl (by rw [List.take_nil])
        · exact .inr ⟨b, off, hA, hb, hw, hr.take _⟩
      have S1 := Lib.hid (HSC.out wr _ _ SA.out (by rw [List.length_take]; omega))
      unfold Scans at S1
      rw [hst] at S1
      obtain ⟨m, hm⟩ : ∃ m, m = whole ls a := ⟨_, rfl⟩
      rw [← hm] at S1
      have a0 : (0 : Int) ≤ (a : Int) := by omega
      have a1 : (a : Int) ≤ (L.length : Int) := by omega
      have a2 : (a : Int) ≤ (c1 : Int) := by omega
      have hmw := Lib.hid (fun k => whole_lt ls a k)
      rw [← hm] at hmw
      have hml : m ≤ ls.length := by rw [hm]; exact whole_le ls a
      clear hm hr hown hst ha hL
      go_wp2_with (go_at_call 13; (with_reducible refine S1.out.mono ?_); rintro e w1 ⟨v1, rfl, hm1, hb1⟩)
      have hb01 : Below w0.heap.size w0 w1 := hb.trans (hb1.mono hb.size)
      have HM1 := Lib.hid hm1
      have HAM := Lib.hid (HA0.out.on hb01)
      clear hm1 hai
      go_wp2_with fail
      go_loop [10, 11, 12] (CountAt ls m) (fun _ _ i => ls.length - (intOf i).toNat)
      case atStart => exact ⟨0, Nat.zero_le _, rfl, rfl, by simp [frames]⟩
      case round =>
        obtain ⟨k, hk, rfl, rfl, rfl⟩ := hrel
        have hE := HFK.out k
        by_cases hlt : k < m
        · obtain ⟨h1, h2⟩ := (hmw.out k).1 hlt
          obtain ⟨b, off, u, rfl, _, hcell, A', c', rfl, _⟩ := HAM.out.at_ k h1
          have hL2 : (frames (ls.take (k + 1))).length = (frames (ls.take k)).length + 12 + ls[k].length := by rw [takeM ls k h1, frames_snoc, List.length_append, frame_length]; omega
          have i0 : (0 : Int) ≤ (k : Int) := by omega
          have i1 : (k : Int) < (ls.length : Int) := by omega
          have i2 : ((frames (ls.take k)).length : Int) + 12 + (ls[k].length : Int) ≤ (a : Int) := by omega
          have HL2 := Lib.hid hL2
          have hr3 := HF2.out _ (List.getElem_mem h1)
          clear hL2 h2
          go_wp2
          go_round
          case rel => exact ⟨k + 1, by omega, by go_num, by go_num, by rw [HL2.out]; go_num⟩
          case measure => simp [intOf]; omega
        · obtain rfl : k = m := by omega
          have SM := Lib.hid (show Many w1 (.slice A k c) (ls.take k) by
            have hlen : (ls.take k).length = k := by rw [List.length_take]; omega
            exact ⟨A, c, by rw [hlen], HAM.out.take k⟩)
          have SA2 := Lib.hid (sameall_any v1 (.slice A k c) (ls.take k) (ls.take k) w1 HM1.out SM.out)
          have k0 : (0 : Int) ≤ (k : Int) := by omega
          have k1 : (k : Int) ≤ (c : Int) := by omega
          by_cases hkl : k < ls.length
          · have hno : ¬ ((frames (ls.take (k + 1))).length ≤ a) := fun h => hlt ((hmw.out k).2 ⟨hkl, h⟩)
            obtain ⟨b, off, u, rfl, _, hcell, A', c', rfl, _⟩ := HAM.out.at_ k hkl
            have hL2 : (frames (ls.take (k + 1))).length = (frames (ls.take k)).length + 12 + ls[k].length := by rw [takeM ls k hkl, frames_snoc, List.length_append, frame_length]; omega
            have i1 : (k : Int) < (ls.length : Int) := by omega
            have i2 : (a : Int) < ((frames (ls.take k)).length : Int) + 12 + (ls[k].length : Int) := by omega
            have hr3 := HF2.out _ (List.getElem_mem hkl)
            clear hL2 hno hlt
            go_wp2_with (go_at_call 15; (with_reducible refine SA2.out.mono ?_); rintro e w2 ⟨rfl, hb2⟩)
            go_ret
            exact ⟨ret_bool (by simp), bt hb0 (hb01.trans (hb2.mono hb01.size))⟩
          · have i1 : (ls.length : Int) ≤ (k : Int) := by omega
            clear hlt
            go_wp2_with (go_at_call 15; (with_reducible refine SA2.out.mono ?_); rintro e w2 ⟨rfl, hb2⟩)
            go_ret
            exact ⟨ret_bool (by simp), bt hb0 (hb01.trans (hb2.mono hb01.size))⟩

end Go.Proofs.Ytakgkhfakjfodaa
