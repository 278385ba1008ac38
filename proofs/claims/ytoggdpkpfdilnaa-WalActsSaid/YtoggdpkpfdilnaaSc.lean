/-
  frame.Scan: the records whose frames stand there, and the place behind.
-/
import Derived.Test.YtoggdpkpfdilnaaFpu
import Derived.WalkMore
import Derived.ScopeJumps
namespace Go.Proofs.Ytoggdpkpfdilnaa
open Go.RowKit

theorem scope_label {P : Program} {a : Act} {w : World} {Q : Exit → Act → World → Prop} {c X : Code} (l : Nat) (J : Act → World → Prop) (μ : Act → World → Nat) (hf : findLabel c l = some (Code.skip.seq X))
    (pass : ∀ a w, J a w → X.wp P (Exit.jump l (fun a' w' => J a' w' ∧ μ a' w' < μ a w) Q) a w)
    (first : (∀ a w, J a w → X.wp P (Exit.jump l J Q) a w) → c.wp P (Exit.jump l J Q) a w) : (Code.scope c).wp P Q a w :=
  wp_scope_jumps l J μ hf (first fun a w h => Code.wp_mono (fun e a' w' he => by
    cases e with
    | goto l' => exact ⟨he.1, he.2.1⟩
    | _ => exact he) (pass a w h)) fun a w h => wp_seq (wp_skip (pass a w h))

theorem drop_seen {w : World} {B : Nat} {A : Option Addr} {c : Nat} {l : List UInt8} (h : At w B A c l) (p : Nat) (hp : p ≤ l.length) :
    Seen w B (.slice (if c = p then A else Option.map (fun x => x.add p) A) (l.length - p) (c - p)) (l.drop p) := by
  obtain ⟨h1, h2, h3⟩ := h
  refine ⟨_, c - p, by rw [List.length_drop], by rw [List.length_drop]; omega, by omega, ?_⟩
  rcases h3 with rfl | ⟨b, off, rfl, hb, hw, hr⟩
  · exact .inl (by simp)
  · by_cases he : p = l.length
    · exact .inl (by rw [he, List.drop_length])
    · rw [if_neg (by omega)]
      exact .inr ⟨b, off + p, by rw [Option.map_some, Addr.add_lit], hb, hw, hr.drop p⟩

/-- what was there in its own block stands still -/
theorem Room.keep {w w' : World} {B : Nat} {v : Value} {l : List UInt8} (h : Room w B v l) (hs : w.heap.size ≤ w'.heap.size) (hk : ∀ b, v.ownBlock = some b → w'.heap[b]? = w.heap[b]?) : Room w' B v l := by
  rcases h with h | ⟨g, off, cap, rfl, h1, h2, h3, h4, h5, h7, h6⟩
  · exact .inl h
  · have e := hk g rfl
    refine .inr ⟨g, off, cap, rfl, h1, h2, h3, Nat.lt_of_lt_of_le h4 hs, h5.congr e, fun a j b => (World.frozen?_of_block (a := ⟨g, off + j, none⟩) e).trans (h7 a j b), fun j a b => ?_⟩
    rw [World.cell?_of_block (a := ⟨g, off + j, none⟩) e, World.frozen?_of_block (a := ⟨g, off + j, none⟩) e]
    exact h6 j a b

/-- slices of the call's own that are being gathered, each in memory apart from the gathering slice's -/
def Parted (vs : List Value) : Prop := ∀ i j (h : i < vs.length) (h' : j < vs.length), i < j → ∀ g, vs[i].ownBlock = some g → vs[j].ownBlock ≠ some g
def RoomR (w : World) (B : Nat) (v : Value) (ls : List (List UInt8)) : Prop := ∃ vs : List Value, vs.length = ls.length ∧ RoomV w B v vs ∧ (∀ i (h : i < ls.length) (h' : i < vs.length), Room w B vs[i] ls[i] ∧ Own B vs[i] ∧ ∀ g, vs[i].ownBlock = some g → v.ownBlock ≠ some g) ∧ Parted vs
theorem RoomR.nil {w : World} {B : Nat} : RoomR w B (.slice none 0 0) [] := ⟨[], rfl, RoomV.nil, (fun _ h => by cases h), fun _ _ h => by cases h⟩
theorem RoomR.put {w w1 w' : World} {B : Nat} {v v' u : Value} {ls : List (List UInt8)} {r : List UInt8} {vs : List Value} (h1 : vs.length = ls.length) (h0 : RoomV w B v vs) (h3 : ∀ i (h : i < ls.length) (h' : i < vs.length), Room w B vs[i] ls[i] ∧ Own B vs[i] ∧ ∀ g, vs[i].ownBlock = some g → v.ownBlock ≠ some g)
    (hb : Below w.heap.size w w1) (h2 : RoomV w' B v' (vs ++ [u])) (hk : ∀ k, k < w1.heap.size → v.ownBlock ≠ some k → w'.heap[k]? = w1.heap[k]?) (hs : w1.heap.size ≤ w'.heap.size) (hl : ∀ g, v'.ownBlock = some g → v.ownBlock = some g ∨ w1.heap.size ≤ g)
    (hB : B ≤ w.heap.size) (hu : Room w1 w.heap.size u r) (hul : Own w.heap.size u) (hpt : Parted vs) : RoomR w' B v' (ls ++ [r]) := by
  have hlt := h0.own_lt
  have hbs := hb.size
  refine ⟨vs ++ [u], by simp [h1], h2, fun i hi hi' => ?_, fun i j hi hj hij g e1 e2 => ?_⟩
  by_cases hil : i < ls.length
  · have hiv : i < vs.length := by omega
    rw [List.getElem_append_left hiv, List.getElem_append_left hil]
    obtain ⟨s1, s2, s3⟩ := h3 i hil hiv
    have hlt1 := s1.own_lt
    refine ⟨(s1.on hb).keep hs fun b hb' => hk b (by have := hlt1 b hb'; omega) (s3 b hb'), s2, fun g hg he => ?_⟩
    rcases hl g he with h | h
    · exact s3 g hg h
    · have := hlt1 g hg
      omega
  · simp at hi
    obtain rfl : i = ls.length := by omega
    rw [List.getElem_append_right (by omega), List.getElem_append_right (by omega)]
    simp only [h1, Nat.sub_self, List.getElem_singleton]
    have hlt1 := hu.own_lt
    refine ⟨(hu.low hul hB).keep hs fun b hb' => hk b (hlt1 b hb') (fun e => by have := hlt b e; have := hul b hb'; omega), fun g hg => Nat.le_trans hB (hul g hg), fun g hg he => ?_⟩
    have := hul g hg
    have := hlt1 g hg
    rcases hl g he with h | h
    · have := hlt g h
      omega
    · omega
  · simp only [List.length_append, List.length_singleton] at hi hj
    by_cases hjl : j < vs.length
    · rw [List.getElem_append_left (by omega)] at e1
      rw [List.getElem_append_left hjl] at e2
      exact hpt i j (by omega) hjl hij g e1 e2
    · rw [List.getElem_append_left (by omega)] at e1
      rw [List.getElem_append_right (by omega)] at e2
      simp only [show j - vs.length = 0 by omega, List.getElem_singleton] at e2
      have := (h3 i (by omega) (by omega)).1.own_lt g e1
      have := hul g e2
      omega
theorem RoomR.on {w w' : World} {B : Nat} {v : Value} {ls : List (List UInt8)} (h : RoomR w B v ls) (hb : Below w.heap.size w w') : RoomR w' B v ls := by
  obtain ⟨vs, h1, h2, h3, h4⟩ := h
  exact ⟨vs, h1, h2.on hb, fun i hi hi' => ⟨(h3 i hi hi').1.on hb, (h3 i hi hi').2⟩, h4⟩

def SJ (A : Option Addr) (c : Nat) (l : List UInt8) (w : World) (a' : Act) (w' : World) : Prop :=
  ∃ (p : Nat) (o : Value) (ls : List (List UInt8)) (u6 u7 u8 u9 u10 u11 u12 u13 u14 u15 u16 u17 u18 u19 u20 u21 u22 u23 u24 u25 u26 u27 : Value),
    a' = { tmps := #[.slice A l.length c, undef, .slice none 0 0, .int .i64 0, o, .int .i64 (p : Int), u6, u7, u8, u9, u10, u11, u12, u13, u14, u15, u16, u17, u18, u19, u20, u21, u22, u23, u24, u25, u26, u27], defers := [] } ∧ p ≤ l.length ∧
      RoomR w' w.heap.size o ls ∧ ls.length ≤ p ∧ scan l = (ls ++ (scan (l.drop p)).1, p + (scan (l.drop p)).2) ∧ Below w.heap.size w w'

/-- what frame.Scan tells -/
def ScansR (l : List UInt8) (w : World) (e : Ending) (w' : World) : Prop := ∃ u, e = .returned (.tuple #[u, .int .i64 ((scan l).2 : Int)]) ∧ RoomR w' w.heap.size u (scan l).1 ∧ Below w.heap.size w w'

set_option maxRecDepth 100000 in
set_option maxHeartbeats 1000000 in
theorem scan_r (v : Value) (l : List UInt8) (w : World) (hv : Seen w w.heap.size v l) (hl : l.length ≤ 274877906944) :
    Calls Try.prog 27 #[v] w (ScansR l w) := by
  obtain ⟨j0, hj0, hy0, hy1, hy2⟩ := info_parts rows_info
  obtain ⟨A, c, rfl, hA⟩ := hv
  have hlc := hA.1
  have hcm := hA.2.1
  unfold maxLen at hcm
  have HA := Lib.hid hA
  clear hA
  go_enter Try.func27, Try.ntmps27
  go_wp2_with fail
  refine scope_label 0 (SJ A c l w) (fun a' _ => l.length - (intOf (a'.tmps.getD 5 undef)).toNat) rfl ?_ ?_
  · rintro a' w' ⟨p, o, ls, u6, u7, u8, u9, u10, u11, u12, u13, u14, u15, u16, u17, u18, u19, u20, u21, u22, u23, u24, u25, u26, u27, rfl, hp, hr, hlp, hsc, hb⟩
    have HSC := Lib.hid hsc
    have hpI : (p : Int) ≤ (l.length : Int) := by omega
    have hlI : (l.length : Int) ≤ (c : Int) := by omega
    have F1 : Hid (Calls Try.prog 44 #[.slice (if c = p then A else Option.map (fun x => x.add p) A) (l.length - p) (c - p)] w' (Firsts (l.drop p) w')) :=
      first_any _ (l.drop p) w' ((drop_seen (HA.out.below hb) p hp).full) (by rw [List.length_drop]; omega)
    generalize hq : (if c = p then A else Option.map (fun x => x.add p) A) = A1 at F1
    have HQ := Lib.hid hq
    obtain ⟨ans, hans⟩ : ∃ ans, ans = first (l.drop p) := ⟨_, rfl⟩
    cases ans with
    | none =>
      have HE := Lib.hid (scan_none hans.symm)
      have F2 : Hid (Calls Try.prog 44 #[.slice A1 (l.length - p) (c - p)] w' fun e w2 => e = .returned (.tuple #[.slice none 0 0, .bool false]) ∧ Below w'.heap.size w' w2) :=
        F1.out.mono fun e w2 ⟨h1, h2⟩ => by rw [← hans] at h2; exact ⟨h2, h1⟩
      clear hsc hans
      go_wp2_with (go_at_call 44; (with_reducible refine (F2.out).mono ?_); rintro e w2 ⟨rfl, hb2⟩)
      simp only [Exit.jump]
      go_ret2
      exact ⟨_, by rw [HSC.out, HE.out]; rfl, by rw [HSC.out, HE.out, List.append_nil]; exact hr.on hb2, hb.trans (hb2.mono hb.size)⟩
    | some r =>
      have hfi := first_is hans.symm
      rw [List.length_drop] at hfi
      have HE := Lib.hid (scan_some hans.symm)
      have F2 : Hid (Calls Try.prog 44 #[.slice A1 (l.length - p) (c - p)] w' fun e w2 => (∃ A2 c2, e = .returned (.tuple #[.slice A2 r.length c2, .bool true]) ∧ Room w2 w'.heap.size (.slice A2 r.length c2) r ∧ Own w'.heap.size (.slice A2 r.length c2)) ∧ Below w'.heap.size w' w2) :=
        F1.out.mono fun e w2 ⟨h1, h2⟩ => by
          rw [← hans] at h2
          obtain ⟨u, he, hu, ho⟩ := h2
          obtain ⟨A2, c2, rfl, _⟩ := hu.cut
          exact ⟨⟨A2, c2, he, hu, ho⟩, h1⟩
      have hr16 := hfi.2.1
      have hfit := hfi.2.2
      obtain ⟨vs, hv1, hv2, hv3, hv4⟩ := hr
      have HV3 := Lib.hid hv3
      have HV4 := Lib.hid hv4
      have HV1 := Lib.hid hv1
      have T1 : vs.length + [Value.slice none 0 0].length ≤ 1099511627776 := by rw [hv1]; simp only [List.length_singleton]; omega
      have T2 : (vs.length + [Value.slice none 0 0].length) * 24 ≤ 140737488355328 := by rw [hv1]; simp only [List.length_singleton]; omega
      have HB := Lib.hid hb.size
      have hcp : ¬ c = p := by omega
      rw [if_neg hcp] at hq
      clear hsc hans hfi hv1 hv3 hv4
      go_wp2_with (first
        | (go_at_call 44; (with_reducible refine (F2.out).mono ?_); rintro e w2 ⟨⟨A2, c2, rfl, hu, ho⟩, hb2⟩)
        | (at_builtin; refine wpList_appendV (B := w.heap.size) (xs := vs) (ys := [.slice A2 r.length c2]) rfl (.tmp 19) (.tmp 21) 29 29 rfl 28 j0 (.slice none 0 0) 24 Try.underlying29 hj0 hy0 hy1 rfl hy2 ((hv2.on hb2).on (bal w2 _)) (Nat.le_trans HB.out (Nat.le_trans hb2.size (bal w2 _).size)) (srcV_one w2 _ rfl Try.underlying29) T1 T2 rfl rfl ?_; intro v6 w6 hr6 hb6 hk6 hl6))
      go_step3
      have hbal := bal w2 (.cells #[.slice A2 r.length c2] 28)
      have hb21 : Below w'.heap.size w' (w2.alloc (.cells #[.slice A2 r.length c2] 28)) := bt hb2 hbal
      refine ⟨rfl, ⟨p + (12 + r.length), _, ls ++ [r], _, _, _, _, _, _, _, _, _, _, _, _, _, _, _, _, _, _, _, _, _, _, rfl, by omega, RoomR.put HV1.out hv2 HV3.out hb21 hr6 hk6 hb6.size hl6 HB.out (hu.al _) ho HV4.out, by rw [List.length_append, List.length_singleton]; omega, ?_, hb.trans ((hb21.mono HB.out).trans hb6)⟩, ?_⟩
      · rw [HSC.out, HE.out, List.append_assoc, List.drop_drop]
        simp only [List.singleton_append, Nat.add_assoc]
      · simp [intOf]
        omega
  · intro hpass
    have HP := Lib.hid hpass
    clear hpass
    go_wp2_with fail
    go_step3
    rename_i K ha
    exact ha _ _ (HP.out _ _ ⟨0, _, [], _, _, _, _, _, _, _, _, _, _, _, _, _, _, _, _, _, _, _, _, _, _, rfl, Nat.zero_le _, RoomR.nil, Nat.zero_le _, by simp, Below.refl _ _⟩)

end Go.Proofs.Ytoggdpkpfdilnaa
