/-
  One contract of frame.Scan, from which the others follow.
-/
import Derived.Test.YtakgkhfakjfodaaEa
namespace Go.Proofs.Ytakgkhfakjfodaa
open Go.RowKit

/-- what frame.Scan tells: the records, each in memory of the call's own, apart from the row that tells them -/
def ScanM : Prop := ∀ (w : World) (v : Value) (l : List UInt8), Seen w w.heap.size v l → l.length ≤ 16777216 → Calls Try.prog 13 #[v] w fun e w' =>
  ∃ u vs, e = .returned (.tuple #[u, .int .i64 ((scan l).2 : Int)]) ∧ vs.length = (scan l).1.length ∧ RoomV w' w.heap.size u vs ∧
    (∀ i (h : i < (scan l).1.length) (h' : i < vs.length), Room w' w.heap.size vs[i] (scan l).1[i] ∧ Own w.heap.size vs[i] ∧ ∀ g, vs[i].ownBlock = some g → u.ownBlock ≠ some g) ∧ Below w.heap.size w w'

theorem Room.wr {w : World} {B : Nat} {v : Value} {l : List UInt8} (h : Room w B v l) (ho : Own B v) : WrB w B v := by
  rcases h with ⟨rfl, rfl⟩ | ⟨g, off, cap, rfl, h1, h2, _, _, h5, h7, _⟩
  · exact ⟨none, 0, 0, rfl, Nat.le_refl _, Nat.zero_le _, .inl rfl⟩
  · exact ⟨_, _, cap, rfl, h1, h2, .inr ⟨g, off, rfl, ho g rfl, fun j hj => ⟨⟨_, h5 j hj⟩, h7 (ho g rfl) j hj⟩⟩⟩
theorem scan_ok (h : ScanM) : ScanOk := fun w v l hv hl => (h w v l hv hl).mono fun _ _ ⟨u, vs, he, h1, h2, h3, h4⟩ =>
  ⟨u, he, RoomM.many (B := w.heap.size) ⟨vs, h1, h2, fun i hi hi' => ⟨(h3 i hi hi').1.seen, fun g hg => ⟨(h3 i hi hi').1.own_lt g hg, (h3 i hi hi').2.2 g hg⟩⟩⟩, h4⟩
theorem scan_new (h : ScanM) : ScanNew := fun w v l hv hl => (h w v l hv hl).mono fun e w' ⟨u, vs, he, h1, h2, h3, h4⟩ => by
  obtain ⟨A, c, rfl, a1, a2, a3⟩ := h2.shape
  refine ⟨A, c, vs, _, he, a1, a2, ?_, fun x hx => ?_, h4⟩
  · refine a3.imp id ?_
    rintro ⟨b, off, rfl, hb, hr⟩
    refine ⟨b, off, rfl, hb, hr, fun x hx g hg e => ?_⟩
    obtain ⟨i, hi, rfl⟩ := List.getElem_of_mem hx
    exact (h3 i (by omega) hi).2.2 g hg (by rw [e]; rfl)
  · obtain ⟨i, hi, rfl⟩ := List.getElem_of_mem hx
    exact (h3 i (by omega) hi).1.wr (h3 i (by omega) hi).2.1
theorem put_ok (h : PutOwn) : PutOk := fun w B v u l r h1 h2 h3 h4 h5 h6 => (h w B v u l r h1 h2 h3 h4 h5 h6).mono fun _ _ ⟨v', he, hr, hb, _⟩ => ⟨v', he, hr, hb⟩

end Go.Proofs.Ytakgkhfakjfodaa
