/-
  A slice of acts that came in, as it lies in memory.
-/
import Derived.Test.YtoggdpkpfdilnaaEnd
import Derived.Test.YtoggdpkpfdilnaaLm
import Derived.Deep.Slices
namespace Go.Proofs.Ytoggdpkpfdilnaa
open Go.RowKit Go.ChangeShapes Go.WideShapes

theorem seen_trod {H : Type} {enc : TypeId × Value → H} {P : Program} {w : World} {base : Nat} {spare : Nat → Bool} {held : Bool} {t e : TypeId} {v : Value} {fuel : Nat} {x : DataW H × List MemPlace}
    (ht : P.underlying t = some (.slice e)) (he : P.underlying e = some (.int .u8)) (hc : P.cellsOf e = 1) (hf : DataW.trod enc P w base spare held fuel t [v] = some x) : ∃ l : List UInt8, Seen w w.heap.size v l := by
  rcases open_ints ht he hc hf with ⟨hcs, _⟩ | ⟨x, len, cap, zs, hcs, _, hl, hm, hz, _, hcell, hwz⟩
  · obtain rfl : v = .slice none 0 0 := by simpa using hcs
    exact ⟨[], Seen.nil⟩
  · obtain rfl : v = .slice (some x) len cap := by simpa using hcs
    have hzl : len ≤ zs.length := by rw [hz]; split <;> omega
    have hlen : (numBytes (zs.take len)).length = len := by rw [numBytes, List.length_map, List.length_take]; omega
    refine ⟨numBytes (zs.take len), some x, cap, by rw [hlen], by rw [hlen]; exact hl, hm, ?_⟩
    rcases Nat.eq_zero_or_pos len with h0 | h0
    · left
      exact List.eq_nil_of_length_eq_zero (by rw [hlen, h0])
    · right
      obtain ⟨b, off, spot⟩ := x
      have hc0 := hcell 0 (by omega)
      have hspot : spot = none := by simpa [Addr.add] using World.cell?_spot hc0
      subst hspot
      have hb := World.block_lt_of_cell? w _ hc0
      have hb' : b < w.heap.size := by simpa [Addr.add] using hb
      refine ⟨b, off, rfl, hb', hb', fun j hj => ?_⟩
      rw [hlen] at hj
      have hcj := hcell j (by omega)
      rw [Addr.add_lit] at hcj
      rw [hcj]
      have hzj : zs.getD j 0 = zs[j]'(by omega) := by simp [List.getD, List.getElem?_eq_getElem (show j < zs.length by omega)]
      have hw := hwz (zs[j]'(by omega)) (List.getElem_mem _)
      simp [Lit.wf, IntKind.min, IntKind.max, IntKind.signed, IntKind.bits] at hw
      rw [hzj]
      have hg : (numBytes (zs.take len))[j]'(by rw [hlen]; exact hj) = UInt8.ofNat (zs[j]'(by omega)).toNat := by simp only [numBytes, List.getElem_map, List.getElem_take]
      rw [hg, UInt8.toNat_ofNat']
      congr 2
      omega

instance actd_some : Inhabited Actd := ⟨⟨0, [], 0, 0⟩⟩
theorem i64_wf {n : Int} (h : (Lit.int .i64 n).wf = true) : I64 n := by
  simp [Lit.wf, IntKind.min, IntKind.max, IntKind.signed, IntKind.bits] at h
  unfold I64
  omega
theorem u8_wf {n : Int} (h : (Lit.int .u8 n).wf = true) : ((UInt8.ofNat n.toNat).toNat : Int) = n := by
  simp [Lit.wf, IntKind.min, IntKind.max, IntKind.signed, IntKind.bits] at h
  rw [UInt8.toNat_ofNat']
  omega

section
variable {H : Type} {enc : TypeId × Value → H} {P : Program} {w : World} {base : Nat} {r : Reach} {held : Bool} {t e q : TypeId} {f0 f1 f2 f3 : Field}
  (ht : P.underlying t = some (.slice e)) (he : P.underlying e = some (.struct #[f0, f1, f2, f3])) (ce : P.cellsOf e = 4)
  (o0 : f0.offset = 0) (o1 : f1.offset = 1) (o2 : f2.offset = 2) (o3 : f3.offset = 3) (c0 : P.cellsOf f0.type = 1) (c1 : P.cellsOf f1.type = 1) (c2 : P.cellsOf f2.type = 1) (c3 : P.cellsOf f3.type = 1)
  (u0 : P.underlying f0.type = some (.int .u8)) (u1 : P.underlying f1.type = some (.slice q)) (uq : P.underlying q = some (.int .u8)) (cq : P.cellsOf q = 1) (u2 : P.underlying f2.type = some (.int .i64)) (u3 : P.underlying f3.type = some (.int .i64))
include he o0 o1 o2 o3 c0 c1 c2 c3 u0 u1 uq cq u2 u3
theorem act_trod {fuel : Nat} {cs : List Value} {x : DataW H × List MemPlace} {spare : Nat → Bool} (hl : cs.length = 4) (h : DataW.trod enc P w base spare held fuel e cs = some x) : ∃ (a : Actd) (vb : Value), cs = a.cells vb ∧ Seen w w.heap.size vb a.b := by
  obtain ⟨xs, k, hk, _, _, hxl, hf⟩ := DataW.trod_struct he h
  match xs, hxl, cs, hl with
  | [y0, y1, y2, y3], _, [v0, v1, v2, v3], _ =>
    have g0 := hf 0 f0 rfl
    have g1 := hf 1 f1 rfl
    have g2 := hf 2 f2 rfl
    have g3 := hf 3 f3 rfl
    simp [o0, c0] at g0
    simp [o1, c1] at g1
    simp [o2, c2] at g2
    simp [o3, c3] at g3
    obtain ⟨n0, hv0, _, w0⟩ := DataW.trod_int u0 g0
    obtain ⟨n2, hv2, _, w2⟩ := DataW.trod_int u2 g2
    obtain ⟨n3, hv3, _, w3⟩ := DataW.trod_int u3 g3
    obtain ⟨l, hs⟩ := seen_trod u1 uq cq g1
    refine ⟨⟨UInt8.ofNat n0.toNat, l, n2, n3⟩, v1, ?_, hs⟩
    have e0 : v0 = .int .u8 n0 := by simpa using hv0
    have e2 : v2 = .int .i64 n2 := by simpa using hv2
    have e3 : v3 = .int .i64 n3 := by simpa using hv3
    subst e0 e2 e3
    show [_, _, _, _] = [_, _, _, _]
    rw [u8_wf w0]
include ht ce
theorem acts_arg {v : Value} {d : DataW H} {p : List MemPlace} (hv : Value.okWide P w r base t v) (h : DataW.Trod enc P w 0 (fun _ => true) held t v d p) :
    ∃ l : List Actd, ActsAt w w.heap.size v l := by
  obtain ⟨A, len, cap, rfl⟩ := okWide_slice ht hv
  obtain ⟨fuel, hf⟩ := h
  rcases Go.Deep.open_slice ht hf with ⟨hcs, _⟩ | ⟨a, l, c, m, n, D, Pl, hcs, _, hl, hm, hmm, _, hx⟩
  · simp [Value.cells] at hcs
    obtain ⟨rfl, rfl, rfl⟩ := hcs
    exact ⟨[], ActsAt.nil⟩
  · simp [Value.cells] at hcs
    obtain ⟨rfl, rfl, rfl⟩ := hcs
    have hlm : len ≤ m := by rw [hmm]; simp; exact hl
    rw [ce] at hx
    have each : ∀ i, i < len → ∃ y : Actd × Value, (∀ j, j < 4 → w.cell? (a.add (i * 4 + j)) = (y.1.cells y.2)[j]?) ∧ Seen w w.heap.size y.2 y.1.b := by
      intro i hi
      obtain ⟨cs', h1, h2⟩ := hx i (by omega)
      obtain ⟨_, hlen, hcell⟩ := World.cells?_some h1
      obtain ⟨act, vb, rfl, hs⟩ := act_trod he o0 o1 o2 o3 c0 c1 c2 c3 u0 u1 uq cq u2 u3 hlen h2
      refine ⟨(act, vb), fun j hj => ?_, hs⟩
      have := hcell j hj
      rw [Go.Deep.add_add] at this
      exact this
    obtain ⟨y, hy⟩ := Go.Deep.choose_lt (α := Actd × Value) (p := fun i y => (∀ j, j < 4 → w.cell? (a.add (i * 4 + j)) = (y.1.cells y.2)[j]?) ∧ Seen w w.heap.size y.2 y.1.b) each
    rcases Nat.eq_zero_or_pos len with h0 | h0
    · subst h0
      exact ⟨[], ⟨some a, cap, [], rfl, hl, hm, Cells.nil, .inl rfl⟩⟩
    · obtain ⟨b, off, spot⟩ := a
      have hc0 := (hy 0 h0).1 0 (by omega)
      have hspot : spot = none := by
        have : w.cell? ((⟨b, off, spot⟩ : Addr).add (0 * 4 + 0)) = some _ := hc0
        simpa [Addr.add] using World.cell?_spot this
      subst hspot
      have hb : b < w.heap.size := by
        have h1 : w.cell? ((⟨b, off, none⟩ : Addr).add (0 * 4 + 0)) = some _ := hc0
        have := World.block_lt_of_cell? w _ h1
        simpa [Addr.add] using this
      have hlen : ((List.range len).map fun i => (y i).1).length = len := by simp
      have hclen : ((List.range len).map fun i => (y i).1.cells (y i).2).length = len := by simp
      refine ⟨(List.range len).map fun i => (y i).1, ⟨some ⟨b, off, none⟩, cap, (List.range len).map fun i => (y i).1.cells (y i).2, by rw [hlen], by rw [hlen]; exact hl, hm, ⟨by rw [hlen, hclen], fun i hi hi' => ?_⟩, .inr ⟨b, off, rfl, hb, hb, fun j hj => ?_⟩⟩⟩
      · rw [hlen] at hi
        refine ⟨(y i).2, by simp, ?_⟩
        simpa using (hy i hi).2
      · have hfl := flat_at (n := 4) ((List.range len).map fun i => (y i).1.cells (y i).2) (fun c hc => by obtain ⟨i, _, rfl⟩ := List.mem_map.1 hc; rfl)
        have hj' : j < len * 4 := by rw [hfl.1, hclen] at hj; exact hj
        have hd : j / 4 < len := by omega
        have hm4 : j % 4 < 4 := by omega
        have hje : j / 4 * 4 + j % 4 = j := by omega
        have h1 := hfl.2 (j / 4) (by rw [hclen]; exact hd) (j % 4) (by rw [List.getElem_map]; exact hm4)
        have h2 := (hy (j / 4) hd).1 (j % 4) hm4
        rw [hje] at h1 h2
        rw [Addr.add_lit] at h2
        rw [h2]
        rw [List.getElem?_eq_getElem hj] at h1
        rw [Option.some.inj h1]
        simp only [List.getElem_map, List.getElem_range]
        exact List.getElem?_eq_getElem hm4
end

end Go.Proofs.Ytoggdpkpfdilnaa
