/-
  The program's change of a content: of whatever change; of what lasts on a disk, and of what stands there now.
-/
import Derived.Test.YtoggdpkpfdilnaaCd
namespace Go.Proofs.Ytoggdpkpfdilnaa
open Go.RowKit

theorem do_any (c : Chg) (hc : c.ok) (g o : Nat) (vs : List Value) (u0 u1 : Value) (x : Cont) (w : World) (B : Nat) (hbox : BoxF g vs w) (e0 : vs[o]? = some u0) (e1 : vs[o + 1]? = some u1) (e2 : vs[o + 2]? = some (.int .i64 x.front))
    (h0 : RoomO w B u0 x.a0) (h1 : RoomO w B u1 x.a1) (hg : B ≤ g) (hgB : B ≤ w.heap.size) (hap : Apart [some g, u0.ownBlock, u1.ownBlock]) (hm : x.mass + c.bytes.length ≤ 1000000000) :
    Calls Try.prog 39 #[.pointer (some ⟨g, o, none⟩), .agg #[.int .i64 (c.does : Int), .int .i64 (c.area : Int), .string c.text]] w fun e w' => e = .returned (.tuple #[]) ∧ DoneC B g o vs u0 u1 (x.does c) w w' := by
  obtain ⟨dk, ar, text⟩ := c
  obtain ⟨hd, ha⟩ := hc
  simp only at hd ha
  simp only [Cont.mass, Chg.bytes] at hm
  have hd' : dk = 0 ∨ dk = 1 ∨ dk = 2 := by omega
  have ha' : ar = 0 ∨ ar = 1 := by omega
  rcases hd' with rfl | rfl | rfl
  · rcases ha' with rfl | rfl
    · exact do_app0 g o vs u0 u1 x w B hbox e0 e1 e2 h0 h1 hg hgB hap text (by omega)
    · exact do_app1 g o vs u0 u1 x w B hbox e0 e1 e2 h0 h1 hg hgB hap text (by omega)
  · rcases ha' with rfl | rfl
    · exact do_wipe0 g o vs u0 u1 x w B hbox e0 e1 e2 h0 h1 hg hgB hap text
    · exact do_wipe1 g o vs u0 u1 x w B hbox e0 e1 e2 h0 h1 hg hgB hap text
  · exact do_front g o vs u0 u1 x w B hbox e0 e1 e2 h0 h1 hg hgB hap text ar

/-- what comes of a change of a disk's cells: these slices stand there, of blocks that were the disk's, or new ones; what isn't the disk's is kept -/
def Stands (B g : Nat) (s : Dsk) (old : List (Option Nat)) (w w' : World) (vals : Value × Value × Value × Value × Value) : Prop :=
  DiskAt w' B g s vals.1 vals.2.1 vals.2.2.1 vals.2.2.2.1 vals.2.2.2.2 ∧ (∀ k, some k ∈ owns g vals.1 vals.2.1 vals.2.2.1 vals.2.2.2.1 vals.2.2.2.2 → some k ∈ old ∨ w.heap.size ≤ k) ∧ Below B w w' ∧ ∀ k, k < w.heap.size → some k ∉ old → w'.heap[k]? = w.heap[k]?
theorem Stands.refl {B g : Nat} {s : Dsk} {w : World} {p0 p1 q0 q1 lv : Value} (h : DiskAt w B g s p0 p1 q0 q1 lv) : Stands B g s (owns g p0 p1 q0 q1 lv) w w (p0, p1, q0, q1, lv) := ⟨h, fun _ h => .inl h, Below.refl _ _, fun _ _ _ => rfl⟩
theorem Stands.trans {B g : Nat} {s s' : Dsk} {old : List (Option Nat)} {w w1 w' : World} {p0 p1 q0 q1 lv : Value} {vals : Value × Value × Value × Value × Value} (h1 : Stands B g s old w w1 (p0, p1, q0, q1, lv)) (h2 : Stands B g s' (owns g p0 p1 q0 q1 lv) w1 w' vals) : Stands B g s' old w w' vals := by
  obtain ⟨_, a2, a3, a4⟩ := h1
  obtain ⟨b1, b2, b3, b4⟩ := h2
  have hs := a3.size
  refine ⟨b1, fun k hk => ?_, a3.trans b3, fun k hk hn => (b4 k (by omega) (fun h => (a2 k h).elim hn (by omega))).trans (a4 k hk hn)⟩
  rcases b2 k hk with h | h
  · exact a2 k h
  · exact .inr (by omega)
/-- nothing that was there has turned, ahead -/
theorem Stands.after {B g : Nat} {s : Dsk} {old : List (Option Nat)} {w w1 w' : World} {vals : Value × Value × Value × Value × Value} (hb : Below w.heap.size w w1) (hB : B ≤ w.heap.size) (h : Stands B g s old w1 w' vals) : Stands B g s old w w' vals := by
  obtain ⟨b1, b2, b3, b4⟩ := h
  have hs := hb.size
  exact ⟨b1, fun k hk => (b2 k hk).imp id (fun h => by omega), (hb.mono hB).trans b3, fun k hk hn => (b4 k (by omega) hn).trans (hb.block k hk)⟩
theorem Stands.turned {B g : Nat} {s : Dsk} {F : Nat → Prop} {w w' : World} {p0 p1 q0 q1 lv : Value} {vals : Value × Value × Value × Value × Value} (h : Stands B g s (owns g p0 p1 q0 q1 lv) w w' vals) (hF : ∀ k, some k ∈ owns g p0 p1 q0 q1 lv → F k) (hr : s.right) : Turned B g s F w w' := by
  obtain ⟨b1, b2, b3, b4⟩ := h
  refine ⟨fun k => some k ∈ owns g vals.1 vals.2.1 vals.2.2.1 vals.2.2.2.1 vals.2.2.2.2, ⟨_, _, _, _, _, b1, fun k hk => hk, fun k hk => b1.own k hk, hr⟩, fun k hk => (b2 k hk).imp (hF k) id, b3, fun k hk hn => b4 k hk (fun h => hn (hF k h))⟩

theorem do_last (c : Chg) (hc : c.ok) (w : World) (B g : Nat) (s : Dsk) (p0 p1 q0 q1 lv : Value) (h : DiskAt w B g s p0 p1 q0 q1 lv) (hB : B ≤ w.heap.size) (hm : s.last.mass + c.bytes.length ≤ 1000000000) :
    Calls Try.prog 39 #[.pointer (some ⟨g, 0, none⟩), .agg #[.int .i64 (c.does : Int), .int .i64 (c.area : Int), .string c.text]] w fun e w' => e = .returned (.tuple #[]) ∧ ∃ v0 v1, Stands B g { s with last := s.last.does c } (owns g p0 p1 q0 q1 lv) w w' (v0, v1, q0, q1, lv) := by
  have hap : Apart [some g, p0.ownBlock, p1.ownBlock] := by
    intro i j k hij hi hj
    have e : ∀ n : Nat, [some g, p0.ownBlock, p1.ownBlock][n]? = some (some k) → (owns g p0 p1 q0 q1 lv)[n]? = some (some k) := by
      intro n hn
      rcases n with _ | _ | _ | n
      · exact hn
      · exact hn
      · exact hn
      · cases hn
    exact h.apart i j k hij (e i hi) (e j hj)
  refine (do_any c hc g 0 _ p0 p1 s.last w B h.box rfl rfl rfl h.r0 h.r1 h.base hB hap hm).mono ?_
  rintro e w' ⟨rfl, v0, v1, hb, r0, r1, o0, o1, ho, hbe, hk⟩
  have hnot : ∀ (v : Value) (k : Nat), v.ownBlock = some k → (∃ n : Nat, 3 ≤ n ∧ (owns g p0 p1 q0 q1 lv)[n]? = some v.ownBlock) → w'.heap[k]? = w.heap[k]? := by
    rintro v k hv ⟨n, hn, e⟩
    have hkm : some k ∈ owns g p0 p1 q0 q1 lv := by rw [← hv]; exact List.mem_of_getElem? e
    refine hk k (h.own k hkm).2 (fun eg => ?_) (fun e0 => ?_) (fun e0 => ?_)
    · exact h.apart.get 0 n (by omega) rfl e k (by rw [eg]) hv
    · exact h.apart.get 1 n (by omega) rfl e k e0 hv
    · exact h.apart.get 2 n (by omega) rfl e k e0 hv
  refine ⟨rfl, v0, v1, ⟨hb, h.base, r0, r1, h.n0.kept (fun k e => hnot q0 k e ⟨3, by omega, rfl⟩) hbe.size, h.n1.kept (fun k e => hnot q1 k e ⟨4, by omega, rfl⟩) hbe.size, h.lo.kept (fun k e => hnot lv k e ⟨5, by omega, rfl⟩) hbe.size, h.ok, h.lf,
    h.apart.set2 w.heap.size 1 2 v0.ownBlock v1.ownBlock (by omega) (fun k e => (o0 k e).imp (fun q => by show some p0.ownBlock = _; rw [q]) id) (fun k e => (o1 k e).imp (fun q => by show some p1.ownBlock = _; rw [q]) id) ho (fun k hk => (h.own k hk).2)⟩, fun k hk' => ?_, hbe, fun k hk' hn => ?_⟩
  · simp only [owns, List.mem_cons, List.not_mem_nil, or_false] at hk' ⊢
    rcases hk' with e | e | e | e
    · exact .inl (.inl e)
    · rcases o0 k e.symm with q | q
      · exact .inl (.inr (.inl q.symm))
      · exact .inr q
    · rcases o1 k e.symm with q | q
      · exact .inl (.inr (.inr (.inl q.symm)))
      · exact .inr q
    · exact .inl (.inr (.inr (.inr e)))
  · simp only [owns, List.mem_cons, List.not_mem_nil, or_false, not_or] at hn
    exact hk k hk' (fun e => hn.1 (by rw [e])) (fun e => hn.2.1 e.symm) (fun e => hn.2.2.1 e.symm)

theorem do_now (c : Chg) (hc : c.ok) (w : World) (B g : Nat) (s : Dsk) (p0 p1 q0 q1 lv : Value) (h : DiskAt w B g s p0 p1 q0 q1 lv) (hB : B ≤ w.heap.size) (hm : s.now.mass + c.bytes.length ≤ 1000000000) :
    Calls Try.prog 39 #[.pointer (some ⟨g, 3, none⟩), .agg #[.int .i64 (c.does : Int), .int .i64 (c.area : Int), .string c.text]] w fun e w' => e = .returned (.tuple #[]) ∧ ∃ v0 v1, Stands B g { s with now := s.now.does c } (owns g p0 p1 q0 q1 lv) w w' (p0, p1, v0, v1, lv) := by
  have hap : Apart [some g, q0.ownBlock, q1.ownBlock] := by
    intro i j k hij hi hj
    have e : ∀ n : Nat, [some g, q0.ownBlock, q1.ownBlock][n]? = some (some k) → ∃ m : Nat, m = (if n = 0 then 0 else n + 2) ∧ (owns g p0 p1 q0 q1 lv)[m]? = some (some k) := by
      intro n hn
      rcases n with _ | _ | _ | n
      · exact ⟨_, rfl, hn⟩
      · exact ⟨_, rfl, hn⟩
      · exact ⟨_, rfl, hn⟩
      · cases hn
    obtain ⟨a, ha, ea⟩ := e i hi
    obtain ⟨b, hb, eb⟩ := e j hj
    exact h.apart a b k (by rw [ha, hb]; split <;> split <;> omega) ea eb
  refine (do_any c hc g 3 _ q0 q1 s.now w B h.box rfl rfl rfl h.n0 h.n1 h.base hB hap hm).mono ?_
  rintro e w' ⟨rfl, v0, v1, hb, r0, r1, o0, o1, ho, hbe, hk⟩
  have hnot : ∀ (v : Value) (k : Nat), v.ownBlock = some k → (∃ n : Nat, n ≠ 0 ∧ n ≠ 3 ∧ n ≠ 4 ∧ (owns g p0 p1 q0 q1 lv)[n]? = some v.ownBlock) → w'.heap[k]? = w.heap[k]? := by
    rintro v k hv ⟨n, hn0, hn1, hn2, e⟩
    have hkm : some k ∈ owns g p0 p1 q0 q1 lv := by rw [← hv]; exact List.mem_of_getElem? e
    refine hk k (h.own k hkm).2 (fun eg => ?_) (fun e0 => ?_) (fun e0 => ?_)
    · exact h.apart.get 0 n (by omega) rfl e k (by rw [eg]) hv
    · exact h.apart.get 3 n (by omega) rfl e k e0 hv
    · exact h.apart.get 4 n (by omega) rfl e k e0 hv
  refine ⟨rfl, v0, v1, ⟨hb, h.base, h.r0.kept (fun k e => hnot p0 k e ⟨1, by omega, by omega, by omega, rfl⟩) hbe.size, h.r1.kept (fun k e => hnot p1 k e ⟨2, by omega, by omega, by omega, rfl⟩) hbe.size, r0, r1, h.lo.kept (fun k e => hnot lv k e ⟨5, by omega, by omega, by omega, rfl⟩) hbe.size, h.ok, h.lf,
    h.apart.set2 w.heap.size 3 4 v0.ownBlock v1.ownBlock (by omega) (fun k e => (o0 k e).imp (fun q => by show some q0.ownBlock = _; rw [q]) id) (fun k e => (o1 k e).imp (fun q => by show some q1.ownBlock = _; rw [q]) id) ho (fun k hk => (h.own k hk).2)⟩, fun k hk' => ?_, hbe, fun k hk' hn => ?_⟩
  · simp only [owns, List.mem_cons, List.not_mem_nil, or_false] at hk' ⊢
    rcases hk' with e | e | e | e | e | e
    · exact .inl (.inl e)
    · exact .inl (.inr (.inl e))
    · exact .inl (.inr (.inr (.inl e)))
    · rcases o0 k e.symm with q | q
      · exact .inl (.inr (.inr (.inr (.inl q.symm))))
      · exact .inr q
    · rcases o1 k e.symm with q | q
      · exact .inl (.inr (.inr (.inr (.inr (.inl q.symm)))))
      · exact .inr q
    · exact .inl (.inr (.inr (.inr (.inr (.inr e)))))
  · simp only [owns, List.mem_cons, List.not_mem_nil, or_false, not_or] at hn
    exact hk k hk' (fun e => hn.1 (by rw [e])) (fun e => hn.2.2.2.1 e.symm) (fun e => hn.2.2.2.2.1 e.symm)

end Go.Proofs.Ytoggdpkpfdilnaa
