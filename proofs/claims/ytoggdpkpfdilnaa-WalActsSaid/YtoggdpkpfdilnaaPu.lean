/-
  One loose change more; the disk's plain cells (no program, but one change's cells).
-/
import Derived.Test.YtoggdpkpfdilnaaSt
namespace Go.Proofs.Ytoggdpkpfdilnaa
open Go.RowKit

theorem chg_info : (Try.prog.info? 73).map (fun i => (i.zero, i.size, i.bytes)) = some (some (.agg #[.int .i64 0, .int .i64 0, .string ⟨#[]⟩]), 3, 32) := by kernel_rfl

theorem DiskAt.push {w wa w5 : World} {B g : Nat} {s : Dsk} {p0 p1 q0 q1 lv : Value} (h : DiskAt w B g s p0 p1 q0 q1 lv) (hB : B ≤ w.heap.size) (hwa : Below w.heap.size w wa) (hb5 : Below B wa w5) (hk5 : ∀ k, k < wa.heap.size → lv.ownBlock ≠ some k → w5.heap[k]? = wa.heap[k]?)
    (v5 : Value) (l : List Chg) (hl : RoomN w5 B v5 3 l.length (chgCells l)) (ho5 : ∀ k, v5.ownBlock = some k → lv.ownBlock = some k ∨ wa.heap.size ≤ k) (hok : ∀ c ∈ l, c.ok) :
    Stands B g { s with loose := l } (owns g p0 p1 q0 q1 lv) w (w5.setCell ⟨g, 6, none⟩ v5) (p0, p1, q0, q1, v5) := by
  have hwas := hwa.size
  have hcell : ∀ k, k ≠ g → (w5.setCell ⟨g, 6, none⟩ v5).heap[k]? = w5.heap[k]? := fun k hne => Below.heap_setCell w5 ⟨g, 6, none⟩ v5 k hne
  have hsz : w.heap.size ≤ (w5.setCell ⟨g, 6, none⟩ v5).heap.size := by have := hb5.size; simp [World.setCell]; omega
  have hlt : ∀ (n : Nat) (k : Nat), (owns g p0 p1 q0 q1 lv)[n]? = some (some k) → k < w.heap.size := fun n k e => (h.own k (List.mem_of_getElem? e)).2
  have hold : ∀ k, k < w.heap.size → lv.ownBlock ≠ some k → w5.heap[k]? = w.heap[k]? := fun k a b => (hk5 k (by omega) b).trans (hwa.block k a)
  have hkeep : ∀ (n : Nat) (o : Option Nat), n ≠ 0 → n ≠ 5 → (owns g p0 p1 q0 q1 lv)[n]? = some o → ∀ k, o = some k → (w5.setCell ⟨g, 6, none⟩ v5).heap[k]? = w.heap[k]? := fun n o n0 n5 e k ek => by
    subst ek
    exact (hcell k (fun eg => h.apart 0 n k (by omega) (by show some (some g) = _; rw [eg]) e)).trans (hold k (hlt n k e) (fun q => h.apart 5 n k (by omega) (by show some lv.ownBlock = _; rw [q]) e))
  have hgl : lv.ownBlock ≠ some g := fun q => h.apart 0 5 g (by omega) rfl (by show some lv.ownBlock = _; rw [q])
  have hbx : BoxF g _ w5 := h.box.kept (hold g h.box.1 hgl) (by have := hb5.size; omega)
  have ho : ∀ k, v5.ownBlock = some k → ∀ n, n ≠ 5 → (owns g p0 p1 q0 q1 lv)[n]? ≠ some (some k) := by
    intro k e n hn en
    rcases ho5 k e with q | q
    · exact h.apart 5 n k (by omega) (by show some lv.ownBlock = _; rw [q]) en
    · have := hlt n k en
      omega
  have hg : ∀ a k, (owns g p0 p1 q0 q1 v5)[a]? = some (some k) → (a = 5 ∧ v5.ownBlock = some k) ∨ (a ≠ 5 ∧ (owns g p0 p1 q0 q1 lv)[a]? = some (some k)) := by
    intro a k e
    rcases a with _ | _ | _ | _ | _ | _ | a
    · exact .inr ⟨by omega, e⟩
    · exact .inr ⟨by omega, e⟩
    · exact .inr ⟨by omega, e⟩
    · exact .inr ⟨by omega, e⟩
    · exact .inr ⟨by omega, e⟩
    · exact .inl ⟨rfl, Option.some.inj e⟩
    · cases e
  refine ⟨⟨(hbx.set 6 (by simp) v5 : _), h.base, h.r0.kept (hkeep 1 _ (by omega) (by omega) rfl) hsz, h.r1.kept (hkeep 2 _ (by omega) (by omega) rfl) hsz, h.n0.kept (hkeep 3 _ (by omega) (by omega) rfl) hsz, h.n1.kept (hkeep 4 _ (by omega) (by omega) rfl) hsz, ?_, hok, h.lf, ?_⟩, fun k hk => ?_, below_set ((hwa.mono hB).trans hb5) g 6 v5 h.base, fun k hk hn => ?_⟩
  · exact hl.kept (fun k e => hcell k (fun eg => ho k e 0 (by omega) (by rw [eg]; rfl))) (by simp [World.setCell])
  · intro a b k hab e1 e2
    rcases hg a k e1 with ⟨ra, xa⟩ | ⟨na, la⟩ <;> rcases hg b k e2 with ⟨rb, xb⟩ | ⟨nb, lb⟩
    · exact hab (ra.trans rb.symm)
    · exact ho k xa b nb lb
    · exact ho k xb a na la
    · exact h.apart a b k hab la lb
  · obtain ⟨n, hn⟩ := List.mem_iff_getElem?.1 hk
    rcases hg n k hn with ⟨_, xa⟩ | ⟨_, la⟩
    · rcases ho5 k xa with q | q
      · exact .inl (by rw [← q]; simp [owns])
      · exact .inr (by omega)
    · exact .inl (List.mem_of_getElem? la)
  · exact (hcell k (fun eg => hn (by rw [eg]; simp [owns]))).trans (hold k hk (fun q => hn (by rw [← q]; simp [owns])))

/-- a plain cell of the disk's block is stored -/
theorem DiskAt.plain {w : World} {B g : Nat} {s s' : Dsk} {p0 p1 q0 q1 lv : Value} (h : DiskAt w B g s p0 p1 q0 q1 lv) (i : Nat) (u : Value) (h1 : s'.last = s.last) (h2 : s'.now = s.now) (h3 : s'.loose = s.loose) (hl : 0 ≤ s'.left ∧ s'.left ≤ 9223372036854775807)
    (hb : BoxF g [p0, p1, .int .i64 s'.last.front, q0, q1, .int .i64 s'.now.front, lv, .bool s'.armed, .int .i64 s'.left] (w.setCell ⟨g, i, none⟩ u)) :
    Stands B g s' (owns g p0 p1 q0 q1 lv) w (w.setCell ⟨g, i, none⟩ u) (p0, p1, q0, q1, lv) := by
  have hcell : ∀ k, k ≠ g → (w.setCell ⟨g, i, none⟩ u).heap[k]? = w.heap[k]? := fun k hne => Below.heap_setCell w ⟨g, i, none⟩ u k hne
  have hsz : w.heap.size ≤ (w.setCell ⟨g, i, none⟩ u).heap.size := by simp [World.setCell]
  have hkeep : ∀ (n : Nat) (o : Option Nat), n ≠ 0 → (owns g p0 p1 q0 q1 lv)[n]? = some o → ∀ k, o = some k → (w.setCell ⟨g, i, none⟩ u).heap[k]? = w.heap[k]? := fun n o n0 e k ek => by
    subst ek
    exact hcell k (fun eg => h.apart 0 n k (by omega) (by show some (some g) = _; rw [eg]) e)
  refine ⟨⟨hb, h.base, by rw [h1]; exact h.r0.kept (hkeep 1 _ (by omega) rfl) hsz, by rw [h1]; exact h.r1.kept (hkeep 2 _ (by omega) rfl) hsz, by rw [h2]; exact h.n0.kept (hkeep 3 _ (by omega) rfl) hsz, by rw [h2]; exact h.n1.kept (hkeep 4 _ (by omega) rfl) hsz, by rw [h3]; exact h.lo.kept (hkeep 5 _ (by omega) rfl) hsz, by rw [h3]; exact h.ok, hl, h.apart⟩, fun k hk => .inl hk, below_set (Below.refl B w) g i u h.base, fun k hk hn => hcell k (fun eg => hn (by rw [eg]; simp [owns]))⟩
theorem DiskAt.left {w : World} {B g : Nat} {s : Dsk} {p0 p1 q0 q1 lv : Value} (h : DiskAt w B g s p0 p1 q0 q1 lv) (n : Int) (hn : 0 ≤ n ∧ n ≤ 9223372036854775807) : Stands B g { s with left := n } (owns g p0 p1 q0 q1 lv) w (w.setCell ⟨g, 8, none⟩ (.int .i64 n)) (p0, p1, q0, q1, lv) :=
  h.plain 8 _ rfl rfl rfl hn (h.box.set 8 (by simp) (.int .i64 n))
theorem DiskAt.armed {w : World} {B g : Nat} {s : Dsk} {p0 p1 q0 q1 lv : Value} (h : DiskAt w B g s p0 p1 q0 q1 lv) (b : Bool) : Stands B g { s with armed := b } (owns g p0 p1 q0 q1 lv) w (w.setCell ⟨g, 7, none⟩ (.bool b)) (p0, p1, q0, q1, lv) :=
  h.plain 7 _ rfl rfl rfl h.lf (h.box.set 7 (by simp) (.bool b))

end Go.Proofs.Ytoggdpkpfdilnaa
