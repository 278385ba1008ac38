/-
  slices.Delete of one packet.
-/
import Derived.Test.YthpbnjmhhkkkiaaPb
namespace Go.Proofs.Ythpbnjmhhkkkiaa
open Go.RowKit
attribute [local go_sem ↓] Go.wp_at_zero Go.wp_at_succ

theorem step_appendL {P : Program} {w : World} {g off cap k m : Nat} {css : List (List Value)} {xv : Value} {ops : Array Oper} {o : Oper} {a : Act} {K : Act → World → Prop} {Q : Exit → Act → World → Prop} {E : Prop} (hgd : o.guard = none) (s x : Operand) (t tx : TypeId)
    (ho : o.op = .call { callee := .builtin .append, args := #[s, x], argTypes := #[t, tx] })
    (e : TypeId) (i : TypeInfo) (ht : P.underlying t = some (.slice e)) (hi : P.info? e = some i) (h1 : i.size = 3)
    (hr : Lst w g off cap css) (hk : k < css.length) (hs : Src P 3 tx xv m (css.drop (k + 1)).flatten w) (hm : m = css.length - (k + 1)) (hv : a.eval s = .slice (some ⟨g, off, none⟩) k cap) (hx : a.eval x = xv)
    (h : ∀ w' q, q = css.length - 1 → Lst w' g off cap (css.eraseIdx k) → (∀ B, B ≤ g → Below B w w') → (∀ b, b ≠ g → w'.heap[b]? = w.heap[b]?) → K (a.put o.dst (.slice (some ⟨g, off, none⟩) q cap)) w') : if Region.wanted o (yielded ops a.tmps) = true then Oper.wp P o a w K Q else E := by
  have hw : Region.wanted o (yielded ops a.tmps) = true := by simp [Region.wanted, hgd]
  rw [if_pos hw]
  have hle := hr.le
  have hl : (css.drop (k + 1)).flatten.length = m * 3 := by rw [(flat_at _ fun c hc => hr.three c (List.mem_of_mem_drop hc)).1, List.length_drop, hm]
  have hfree : ∀ j, j < (css.drop (k + 1)).flatten.length → (w.cell? ⟨g, off + k * i.size + j, none⟩).isSome = true ∧ w.frozen? ⟨g, off + k * i.size + j, none⟩ = false := fun j hj => by
    rw [h1, Nat.add_assoc]; exact hr.open_ _ (by omega)
  have hs' : Src P i.size tx xv m (css.drop (k + 1)).flatten w := by rw [h1]; exact hs
  have hrun := run_append_room_src (P := P) w t tx o.type e i ht hi g off k cap xv m _ hs' (by omega) (fun j hj => (hfree j hj).1) (fun j hj => (hfree j hj).2)
  rw [h1] at hrun
  unfold Oper.wp execOp
  simp only [ho, resolve, invoke, builtin, Sem.run_bind, Sem.run_pure, Result.andThen_ok, List.map_toArray, List.map_cons, List.map_nil, hv, hx, hrun]
  exact h _ _ (by omega) (hr.delete k hk) (fun B hB => below_setCells hB _ _) (fun b hb => heap_setCells g _ _ w b hb)

theorem pkt_zero (w : World) : (zeroValue 29).run Try.prog w = .ok (.agg #[.int .i64 0, .int .i64 0, .slice none 0 0]) w := by kernel_rfl
/-- what is left of a row of packets, one of which was taken out -/
def Gone (w : World) (g off cap : Nat) (css : List (List Value)) (w' : World) : Prop := Lst w' g off cap css ∧ (∀ B, B ≤ g → Below B w w') ∧ (∀ b, b ≠ g → w'.heap[b]? = w.heap[b]?)
theorem Gone.clear {w w' : World} {g off cap : Nat} {css : List (List Value)} (h : Gone w g off cap css w') {q : Nat} (hq : q = css.length) (vs : List Value) (hv : q * 3 + vs.length ≤ cap * 3) : Gone w g off cap css (w'.setCells g (off + q * 3) vs) := by
  obtain ⟨h1, h2, h3⟩ := h
  exact ⟨h1.tail (q * 3) vs (by omega) hv, fun B hB => (h2 B hB).trans (below_setCells hB _ _), fun b hb => (heap_setCells g _ _ _ b hb).trans (h3 b hb)⟩
theorem Lst.src {w : World} {g off cap k : Nat} {css : List (List Value)} (h : Lst w g off cap css) (h1 : ∀ c ∈ css, ∀ u ∈ c, u.oneCell' = true) (hk : k ≤ css.length) {tx e : TypeId} (ht : Try.prog.underlying tx = some (.slice e)) (c' : Nat) (A : Addr) (hA : A = ⟨g, off + k * 3, none⟩ ∨ k = css.length) :
    Src Try.prog 3 tx (.slice (some A) (css.length - k) c') (css.length - k) (css.drop k).flatten w := by
  have h3 : ∀ c ∈ css.drop k, c.length = 3 := fun c hc => h.three c (List.mem_of_mem_drop hc)
  refine Src.ofSlice w ht A _ c' _ (by rw [(flat_at _ h3).1, List.length_drop]) ?_ ?_
  · intro j u hu
    rcases hA with rfl | e
    · obtain ⟨hj, e⟩ := List.getElem?_eq_some_iff.1 hu
      have hj' : j < (css.length - k) * 3 := by rw [(flat_at _ h3).1, List.length_drop] at hj; exact hj
      have hi : j / 3 < (css.drop k).length := by rw [List.length_drop]; omega
      have h3j := h3 _ (List.getElem_mem hi)
      have hm : j % 3 < (css.drop k)[j / 3].length := by omega
      have := (flat_at _ h3).2 (j / 3) hi (j % 3) hm
      rw [show j / 3 * 3 + j % 3 = j by omega, hu] at this
      have hr := h.row (k + j / 3) (by omega) (j % 3) u (by rw [← List.getElem_drop (h := hi)]; exact (List.getElem?_eq_getElem hm).trans this.symm)
      rw [Addr.add_lit, ← hr]
      congr 2
      omega
    · rw [e, List.drop_length] at hu
      cases hu
  · intro u hu
    obtain ⟨c, hc, huc⟩ := List.mem_flatten.1 hu
    exact h1 c (List.mem_of_mem_drop hc) u huc

end Go.Proofs.Ythpbnjmhhkkkiaa
