/-
  A disk on which nothing fails, and what stands in its front area (no program).
-/
import Derived.Test.YtoggdpkpfdilnaaWr
namespace Go.Proofs.Ytoggdpkpfdilnaa
open Go.RowKit

theorem bytes_of (l : List UInt8) : (⟨l.toArray⟩ : ByteArray).data.toList = l := rfl
/-- no power goes; this stands in front; so much may stand there in all -/
structure Has (s : Dsk) (a : List UInt8) (n : Nat) : Prop where
  calm : s.armed = false
  side : s.now.front = 0 ∨ s.now.front = 1
  here : s.now.get s.now.front = a
  most : s.mass ≤ n
theorem calm_down {s : Dsk} (h : s.armed = false) : s.down = false := by unfold Dsk.down; rw [h]; rfl
theorem calm_refuses {s : Dsk} (h : s.armed = false) {a : Int} (ha : a = 0 ∨ a = 1) : s.refuses a = 0 := by
  unfold Dsk.refuses
  rw [if_pos ha, calm_down h]
  rfl
theorem chg_calm {s : Dsk} (h : s.armed = false) (k : Nat) {a : Int} (ha : a = 0 ∨ a = 1) (l : List UInt8) :
    s.chg k a l = ({ s with now := s.now.does ⟨k, a.toNat, ⟨l.toArray⟩⟩, loose := s.loose ++ [⟨k, a.toNat, ⟨l.toArray⟩⟩] }, 0) := by
  unfold Dsk.chg
  rw [if_pos (calm_refuses h ha)]
  unfold Dsk.tick
  rw [if_neg (by simp [h])]
theorem sync_calm {s : Dsk} (h : s.armed = false) : s.sync = ({ s with last := s.last.all s.loose, loose := [] }, 0) := by
  unfold Dsk.sync
  rw [if_pos (calm_refuses h (.inl rfl))]
  unfold Dsk.tick
  rw [if_neg (by simp [h])]
theorem mass_chg (s : Dsk) (c : Chg) (x : Cont) : Dsk.mass { s with now := x, loose := s.loose ++ [c] } = s.mass + c.w := by
  unfold Dsk.mass
  show s.last.mass + massL (s.loose ++ [c]) = _
  rw [massL_snoc]
  omega
theorem mass_sync (s : Dsk) : Dsk.mass { s with last := s.last.all s.loose, loose := [] } = (s.last.all s.loose).mass := by
  unfold Dsk.mass
  show (s.last.all s.loose).mass + massL [] = _
  simp [massL]
theorem Has.reads {s : Dsk} {a : List UInt8} {n : Nat} (h : Has s a n) : s.reads s.now.front = a ∧ s.refuses s.now.front = 0 := by
  have := calm_refuses h.calm h.side
  refine ⟨?_, this⟩
  unfold Dsk.reads
  rw [if_pos this]
  exact h.here
theorem Has.more {s : Dsk} {a : List UInt8} {n m : Nat} (h : Has s a n) (hn : n ≤ m) : Has s a m := ⟨h.calm, h.side, h.here, Nat.le_trans h.most hn⟩
theorem Has.small {s : Dsk} {a : List UInt8} {n : Nat} (h : Has s a n) (hr : s.right) : a.length ≤ n := by
  have h1 := Dsk.now_mass hr
  have h2 := h.most
  have h3 := h.here
  unfold Cont.get at h3
  unfold Cont.mass at h1
  split at h3 <;> (rw [← h3]; omega)
theorem Has.fresh : Has Dsk.fresh [] 0 := ⟨rfl, .inl rfl, rfl, Nat.le_refl _⟩
/-- what is appended in front -/
theorem Has.add {s s' : Dsk} {a l : List UInt8} {n : Nat} {e : Int} (h : Has s a n) (he : s.chg 0 s.now.front l = (s', e)) : Has s' (a ++ l) (n + l.length + 1) := by
  rw [chg_calm h.calm 0 h.side l] at he
  injection he with he _
  subst he
  have hm := mass_chg s ⟨0, s.now.front.toNat, ⟨l.toArray⟩⟩ (s.now.does ⟨0, s.now.front.toNat, ⟨l.toArray⟩⟩)
  have hw : (⟨0, s.now.front.toNat, ⟨l.toArray⟩⟩ : Chg).w = l.length + 1 := rfl
  have hmo := h.most
  have hh := h.here
  refine ⟨h.calm, ?_, ?_, by rw [hm, hw]; omega⟩
  · show (s.now.does _).front = 0 ∨ (s.now.does _).front = 1
    unfold Cont.does
    rw [if_pos rfl]
    split <;> exact h.side
  · show (s.now.does _).get (s.now.does _).front = _
    rcases h.side with hf | hf
    · rw [hf] at hh ⊢
      unfold Cont.does
      simp only [Int.toNat_zero, if_true]
      show (if s.now.front = 0 then _ else _) = _
      rw [if_pos hf]
      show s.now.a0 ++ _ = _
      rw [← hh]
      rfl
    · rw [hf] at hh ⊢
      unfold Cont.does
      have h1 : ¬ (1 : Int).toNat = 0 := by decide
      simp only [h1, if_true, if_false]
      show (if s.now.front = 0 then _ else _) = _
      rw [if_neg (by omega)]
      show s.now.a1 ++ _ = _
      rw [← hh]
      rfl
theorem Has.flush {s s' : Dsk} {a : List UInt8} {n : Nat} {e : Int} (h : Has s a n) (he : s.sync = (s', e)) : Has s' a n := by
  rw [sync_calm h.calm] at he
  injection he with he _
  subst he
  have h1 := mass_sync s
  have h2 := Cont.all_mass s.loose s.last
  have h3 := h.most
  refine ⟨h.calm, h.side, h.here, ?_⟩
  rw [h1]
  unfold Dsk.mass at h3
  omega
/-- the five steps that let these bytes alone stand in front -/
theorem Has.swap {s : Dsk} {a : List UInt8} {n : Nat} (h : Has s a n) (hr : s.right) (l : List UInt8) :
    ∃ s1 s2 s3 s4 s5, s.chg 1 (1 - s.now.front) [] = (s1, 0) ∧ s1.chg 0 (1 - s.now.front) l = (s2, 0) ∧ s2.sync = (s3, 0) ∧ s3.chg 2 (1 - s.now.front) [] = (s4, 0) ∧ s4.sync = (s5, 0) ∧
      Has s5 l (l.length + a.length) ∧ s1.mass ≤ n + 1 ∧ s2.mass ≤ n + l.length + 2 ∧ s3.mass ≤ l.length + a.length ∧ s4.mass ≤ l.length + a.length + 1 := by
  obtain ⟨last, now, loose, armed, left⟩ := s
  obtain ⟨calm, side, here, most⟩ := h
  simp only at calm side here
  subst calm
  have ho : (1 - now.front = 0 ∨ 1 - now.front = 1) := by omega
  obtain ⟨o, hoe⟩ : ∃ o, o = 1 - now.front := ⟨_, rfl⟩
  simp only [← hoe] at ho ⊢
  have hri : now = last.all loose := hr
  obtain ⟨c1, hc1⟩ : ∃ c : Chg, c = ⟨1, o.toNat, ⟨([] : List UInt8).toArray⟩⟩ := ⟨_, rfl⟩
  obtain ⟨c2, hc2⟩ : ∃ c : Chg, c = ⟨0, o.toNat, ⟨l.toArray⟩⟩ := ⟨_, rfl⟩
  obtain ⟨c3, hc3⟩ : ∃ c : Chg, c = ⟨2, o.toNat, ⟨([] : List UInt8).toArray⟩⟩ := ⟨_, rfl⟩
  have w1 : c1.w = 1 := by rw [hc1]; rfl
  have w2 : c2.w = l.length + 1 := by rw [hc2]; rfl
  have w3 : c3.w = 1 := by rw [hc3]; rfl
  have x2 : last.all (loose ++ [c1] ++ [c2]) = (now.does c1).does c2 := by rw [Cont.all_snoc, Cont.all_snoc, ← hri]
  have x3 : ((now.does c1).does c2).all ([] ++ [c3]) = ((now.does c1).does c2).does c3 := by rw [Cont.all_snoc]; rfl
  have m2 : ((now.does c1).does c2).mass = l.length + a.length ∧ (((now.does c1).does c2).does c3).mass = l.length + a.length ∧ (((now.does c1).does c2).does c3).get o = l ∧ (((now.does c1).does c2).does c3).front = o := by
    rcases side with hf | hf
    · obtain rfl : o = 1 := by omega
      rw [hf] at here
      have here' : now.a0 = a := here
      subst hc1 hc2 hc3 here'
      refine ⟨?_, ?_, ?_, ?_⟩ <;> simp [Cont.does, Cont.mass, Cont.get, Chg.bytes] <;> omega
    · obtain rfl : o = 0 := by omega
      rw [hf] at here
      have here' : now.a1 = a := here
      subst hc1 hc2 hc3 here'
      refine ⟨?_, ?_, ?_, ?_⟩ <;> simp [Cont.does, Cont.mass, Cont.get, Chg.bytes]
  refine ⟨_, _, _, _, _, chg_calm rfl 1 ho [], chg_calm rfl 0 ho l, sync_calm rfl, chg_calm rfl 2 ho [], sync_calm rfl, ⟨rfl, ?_, ?_, ?_⟩, ?_, ?_, ?_, ?_⟩
  all_goals simp only [← hc1, ← hc2, ← hc3]
  · rw [m2.2.2.2]; exact ho
  · rw [m2.2.2.2]; exact m2.2.2.1
  · unfold Dsk.mass
    simp only [x2, x3, m2.2.1]
    simp [massL]
  · unfold Dsk.mass at most ⊢
    simp only [massL_snoc, w1] at most ⊢
    omega
  · unfold Dsk.mass at most ⊢
    simp only [massL_snoc, w1, w2] at most ⊢
    omega
  · unfold Dsk.mass
    simp only [x2, m2.1]
    simp [massL]
  · unfold Dsk.mass
    simp only [x2, m2.1]
    simp [massL, w3]

end Go.Proofs.Ytoggdpkpfdilnaa
