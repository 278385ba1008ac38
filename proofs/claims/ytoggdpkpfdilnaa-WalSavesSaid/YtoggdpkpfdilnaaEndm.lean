/-
  A slice of slices of bytes that came in, as it is seen.
-/
import Derived.Test.YtoggdpkpfdilnaaEnd
import Derived.Test.YtoggdpkpfdilnaaMv
import Derived.Deep.Matrix
namespace Go.Proofs.Ytoggdpkpfdilnaa
open Go.RowKit Go.ChangeShapes Go.WideShapes

theorem seen_cells {w : World} {A : Option Addr} {len cap : Nat} {zs : List Int} (hl : len ≤ cap) (hm : cap ≤ maxLen) (hz : zs.length = cap) (hn : A = none → cap = 0) (hc : ∀ a, A = some a → ∀ c, c < cap → w.cell? (a.add c) = some (.int .u8 (zs.getD c 0))) (hwz : ∀ n ∈ zs, (Lit.int .u8 n).wf = true) :
    Seen w w.heap.size (.slice A len cap) (numBytes (zs.take len)) := by
  have hlen : (numBytes (zs.take len)).length = len := by rw [numBytes, List.length_map, List.length_take]; omega
  refine ⟨A, cap, by rw [hlen], by rw [hlen]; exact hl, hm, ?_⟩
  rcases Nat.eq_zero_or_pos len with h0 | h0
  · exact .inl (List.eq_nil_of_length_eq_zero (by rw [hlen, h0]))
  · right
    cases A with
    | none => have := hn rfl; omega
    | some x =>
      have hcell := hc x rfl
      obtain ⟨b, off, spot⟩ := x
      have hc0 := hcell 0 (by omega)
      have hspot : spot = none := by simpa [Addr.add] using World.cell?_spot hc0
      subst hspot
      have hb := World.block_lt_of_cell? w _ hc0
      have hb' : b < w.heap.size := by simpa [Addr.add] using hb
      refine ⟨b, off, rfl, hb', hb', fun j hj => ?_⟩
      rw [hlen] at hj
      have hcj := hcell j (by omega)
      rw [Addr.add_lit] at hcj
      rw [hcj]
      have hzj : zs.getD j 0 = zs[j]'(by omega) := by simp [List.getD, List.getElem?_eq_getElem (show j < zs.length by omega)]
      have hw := hwz (zs[j]'(by omega)) (List.getElem_mem _)
      simp [Lit.wf, IntKind.min, IntKind.max, IntKind.signed, IntKind.bits] at hw
      rw [hzj]
      have hg : (numBytes (zs.take len))[j]'(by rw [hlen]; exact hj) = UInt8.ofNat (zs[j]'(by omega)).toNat := by simp only [numBytes, List.getElem_map, List.getElem_take]
      rw [hg, UInt8.toNat_ofNat']
      congr 2
      omega

theorem many_arg {H : Type} {enc : TypeId × Value → H} {P : Program} {w : World} {base : Nat} {r : Reach} {held : Bool} {t e q : TypeId} {v : Value} {d : DataW H} {p : List MemPlace}
    (ht : P.underlying t = some (.slice e)) (he : P.underlying e = some (.slice q)) (hq : P.underlying q = some (.int .u8)) (ce : P.cellsOf e = 1) (cq : P.cellsOf q = 1) (hv : Value.okWide P w r base t v) (h : DataW.Trod enc P w 0 (fun _ => true) held t v d p) :
    ∃ ls : List (List UInt8), Many w v ls := by
  obtain ⟨a, len, cap, rfl⟩ := okWide_slice ht hv
  obtain ⟨fuel, hf⟩ := h
  rcases Go.Deep.open_int_rows ht he hq ce cq hf with ⟨hcs, _⟩ | ⟨x, l, c, A, L, C, Z, hcs, _, hl, hm, _, hx⟩
  · simp [Value.cells] at hcs
    obtain ⟨rfl, rfl, rfl⟩ := hcs
    exact ⟨[], Many.nil⟩
  · simp [Value.cells] at hcs
    obtain ⟨rfl, rfl, rfl⟩ := hcs
    refine ⟨(List.range len).map fun i => numBytes ((Z i).take (L i)), some x, cap, by simp, by simpa using hl, hm, (List.range len).map fun i => .slice (A i) (L i) (C i), by simp, ?_, fun i hi hi' => ?_⟩
    · rcases Nat.eq_zero_or_pos len with h0 | h0
      · left; subst h0; rfl
      · right
        obtain ⟨b, off, spot⟩ := x
        have hc0 := (hx 0 (by omega)).1
        have hspot : spot = none := by simpa [Addr.add] using World.cell?_spot hc0
        subst hspot
        have hb := World.block_lt_of_cell? w _ hc0
        have hb' : b < w.heap.size := by simpa [Addr.add] using hb
        refine ⟨b, off, rfl, hb', fun j hj => ?_⟩
        rw [List.length_map, List.length_range] at hj
        have hcj := (hx j (by omega)).1
        rw [Addr.add_lit] at hcj
        rw [hcj]
        simp
    · rw [List.length_map, List.length_range] at hi
      obtain ⟨_, h2, h3, h4, h5, h6, h7⟩ := hx i (by omega)
      have := seen_cells (w := w) (A := A i) h2 h3 h4 h6 (fun a' ha c' hc' => (h7 a' ha).2 c' hc') h5
      simpa using this

end Go.Proofs.Ytoggdpkpfdilnaa
