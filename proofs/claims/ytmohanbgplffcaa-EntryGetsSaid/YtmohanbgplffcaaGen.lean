/-
  Small words on bytes in memory: their text, whose a block is.
-/
import Derived.Test.YtmohanbgplffcaaSame
namespace Go.Proofs.Ytmohanbgplffcaa
open Go.RowKit

theorem conv_seen {w : World} {B : Nat} {v : Value} {l : List UInt8} (h : Seen w B v l) : (convert 22 9 v).run Try.prog w = .ok (.string ⟨l.toArray⟩) w := by
  obtain ⟨A, c, rfl, h1, h2, h3⟩ := h
  rcases h3 with rfl | ⟨b, off, rfl, _, _, hr⟩
  · cases A with
    | none =>
      show (convert 22 9 (.slice none 0 c)).run Try.prog w = _
      rw [run_convert_bytes_string w 22 9 5 none 0 c Try.underlying22 Try.underlying5 Try.underlying9]
      rfl
    | some a => exact run_convert_bytes_back w 22 9 5 a c [] Try.underlying22 Try.underlying5 Try.underlying9 (fun j hj => by cases hj)
  · exact run_convert_bytes_back w 22 9 5 ⟨b, off, none⟩ c l Try.underlying22 Try.underlying5 Try.underlying9 (fun j hj => by rw [Addr.add_lit]; exact hr j hj)

/-- an empty slice made now -/
theorem room_new (w : World) : Room (w.alloc (.cells #[] 5)) w.heap.size (.slice (some ⟨w.heap.size, 0, none⟩) 0 0) [] := Room.made w [] 5 (Nat.zero_le _)
theorem Seen.src {P : Program} {w : World} {B : Nat} {v : Value} {l : List UInt8} (h : Seen w B v l) {tx e : TypeId} (hk : P.underlying tx = some (.slice e)) : Src P 1 tx v l.length (c8 l) w := by
  obtain ⟨A, c, rfl, h⟩ := h
  exact h.src hk
/-- An own slice's block is the call's own. -/
def Own (B : Nat) (v : Value) : Prop := ∀ g, v.ownBlock = some g → B ≤ g
theorem own_step {B : Nat} {w : World} {v v' : Value} (h : Own B v) (hB : B ≤ w.heap.size) (hs : ∀ g, v'.ownBlock = some g → v.ownBlock = some g ∨ w.heap.size ≤ g) : Own B v' := by
  intro g hg
  rcases hs g hg with h1 | h1
  · exact h g h1
  · omega
theorem own_new (w : World) (n c : Nat) : Own w.heap.size (.slice (some ⟨w.heap.size, 0, none⟩) n c) := by
  intro g hg
  have : w.heap.size = g := by simpa [Value.ownBlock] using hg
  omega
theorem Room.low {w : World} {B B' : Nat} {v : Value} {l : List UInt8} (h : Room w B v l) (ho : Own B v) (hB : B' ≤ B) : Room w B' v l := by
  rcases h with h | ⟨g, off, cap, rfl, h1, h2, _, h4, h5, h7, h6⟩
  · exact .inl h
  · have hg : B ≤ g := ho g rfl
    exact .inr ⟨g, off, cap, rfl, h1, h2, .inl (Nat.le_trans hB hg), h4, h5, fun _ => h7 hg, h6⟩
theorem Room.own_lt {w : World} {B : Nat} {v : Value} {l : List UInt8} (h : Room w B v l) : ∀ g, v.ownBlock = some g → g < w.heap.size := by
  intro g hg
  rcases h with ⟨rfl, _⟩ | ⟨g', off, cap, rfl, _, _, _, h4, _⟩
  · cases hg
  · injection hg with hg
    rw [← hg]; exact h4

end Go.Proofs.Ytmohanbgplffcaa
