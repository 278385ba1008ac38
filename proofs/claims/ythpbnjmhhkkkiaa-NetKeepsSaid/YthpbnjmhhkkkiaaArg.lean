/-
  A net that came in, as it lies in memory.
-/
import Derived.Test.YthpbnjmhhkkkiaaEnd
import Derived.Test.YthpbnjmhhkkkiaaPk
import Derived.Deep.Slices
import Derived.ChangeSame
namespace Go.Proofs.Ythpbnjmhhkkkiaa
open Go.RowKit Go.ChangeShapes Go.WideShapes

theorem seen_trod {H : Type} {enc : TypeId × Value → H} {P : Program} {w : World} {base : Nat} {spare : Nat → Bool} {held : Bool} {t e : TypeId} {v : Value} {fuel : Nat} {x : DataW H × List MemPlace}
    (ht : P.underlying t = some (.slice e)) (he : P.underlying e = some (.int .u8)) (hc : P.cellsOf e = 1) (hf : DataW.trod enc P w base spare held fuel t [v] = some x) : ∃ l : List UInt8, Seen w w.heap.size v l := by
  rcases open_ints ht he hc hf with ⟨hcs, _⟩ | ⟨x, len, cap, zs, hcs, _, hl, hm, hz, _, hcell, hwz⟩
  · obtain rfl : v = .slice none 0 0 := by simpa using hcs
    exact ⟨[], Seen.nil⟩
  · obtain rfl : v = .slice (some x) len cap := by simpa using hcs
    have hzl : len ≤ zs.length := by rw [hz]; split <;> omega
    have hlen : (numBytes (zs.take len)).length = len := by rw [numBytes, List.length_map, List.length_take]; omega
    refine ⟨numBytes (zs.take len), some x, cap, by rw [hlen], by rw [hlen]; exact hl, hm, ?_⟩
    rcases Nat.eq_zero_or_pos len with h0 | h0
    · left
      exact List.eq_nil_of_length_eq_zero (by rw [hlen, h0])
    · right
      obtain ⟨b, off, spot⟩ := x
      have hc0 := hcell 0 (by omega)
      have hspot : spot = none := by simpa [Addr.add] using World.cell?_spot hc0
      subst hspot
      have hb := World.block_lt_of_cell? w _ hc0
      have hb' : b < w.heap.size := by simpa [Addr.add] using hb
      refine ⟨b, off, rfl, hb', hb', fun j hj => ?_⟩
      rw [hlen] at hj
      have hcj := hcell j (by omega)
      rw [Addr.add_lit] at hcj
      rw [hcj]
      have hzj : zs.getD j 0 = zs[j]'(by omega) := by simp [List.getD, List.getElem?_eq_getElem (show j < zs.length by omega)]
      have hw := hwz (zs[j]'(by omega)) (List.getElem_mem _)
      simp [Lit.wf, IntKind.min, IntKind.max, IntKind.signed, IntKind.bits] at hw
      rw [hzj]
      have hg : (numBytes (zs.take len))[j]'(by rw [hlen]; exact hj) = UInt8.ofNat (zs[j]'(by omega)).toNat := by simp only [numBytes, List.getElem_map, List.getElem_take]
      rw [hg, UInt8.toNat_ofNat']
      congr 2
      omega


section
variable {H : Type} {enc : TypeId × Value → H} {P : Program} {w : World} {base : Nat} {r : Reach} {held : Bool} {t e q T : TypeId} {f0 f1 f2 g0 g1 : Field}
  (ht : P.underlying t = some (.slice e)) (he : P.underlying e = some (.struct #[f0, f1, f2])) (ce : P.cellsOf e = 3)
  (o0 : f0.offset = 0) (o1 : f1.offset = 1) (o2 : f2.offset = 2) (c0 : P.cellsOf f0.type = 1) (c1 : P.cellsOf f1.type = 1) (c2 : P.cellsOf f2.type = 1)
  (u0 : P.underlying f0.type = some (.int .i64)) (u1 : P.underlying f1.type = some (.int .i64)) (u2 : P.underlying f2.type = some (.slice q)) (uq : P.underlying q = some (.int .u8)) (cq : P.cellsOf q = 1)
include he o0 o1 o2 c0 c1 c2 u0 u1 u2 uq cq
theorem pkt_trod {fuel : Nat} {cs : List Value} {x : DataW H × List MemPlace} {spare : Nat → Bool} (hl : cs.length = 3) (h : DataW.trod enc P w base spare held fuel e cs = some x) : ∃ (a : Pkt) (vb : Value), cs = a.cells vb ∧ Seen w w.heap.size vb a.b := by
  obtain ⟨xs, k, hk, _, _, hxl, hf⟩ := DataW.trod_struct he h
  match xs, hxl, cs, hl with
  | [y0, y1, y2], _, [v0, v1, v2], _ =>
    have g0 := hf 0 f0 rfl
    have g1 := hf 1 f1 rfl
    have g2 := hf 2 f2 rfl
    simp [o0, c0] at g0
    simp [o1, c1] at g1
    simp [o2, c2] at g2
    obtain ⟨n0, hv0, _, w0⟩ := DataW.trod_int u0 g0
    obtain ⟨n1, hv1, _, w1⟩ := DataW.trod_int u1 g1
    obtain ⟨l, hs⟩ := seen_trod u2 uq cq g2
    refine ⟨⟨n0, n1, l⟩, v2, ?_, hs⟩
    have e0 : v0 = .int .i64 n0 := by simpa using hv0
    have e1 : v1 = .int .i64 n1 := by simpa using hv1
    subst e0 e1
    rfl
include ht ce
theorem pkts_trod {fuel : Nat} {v : Value} {x : DataW H × List MemPlace} {spare : Nat → Bool} (hf : DataW.trod enc P w base spare held fuel t [v] = some x) : ∃ l : List Pkt, PktsAt w w.heap.size v l := by
  rcases Go.Deep.open_slice ht hf with ⟨hcs, _⟩ | ⟨a, l, c, m, n, D, Pl, hcs, _, hl, hm, hmm, _, hx⟩
  · obtain rfl : v = .slice none 0 0 := by simpa using hcs
    exact ⟨[], PktsAt.nil⟩
  · obtain rfl : v = .slice (some a) l c := by simpa using hcs
    have hlm : l ≤ m := by rw [hmm]; split <;> omega
    rw [ce] at hx
    have each : ∀ i, i < l → ∃ y : Pkt × Value, (∀ j, j < 3 → w.cell? (a.add (i * 3 + j)) = (y.1.cells y.2)[j]?) ∧ Seen w w.heap.size y.2 y.1.b := by
      intro i hi
      obtain ⟨cs', h1, h2⟩ := hx i (by omega)
      obtain ⟨_, hlen, hcell⟩ := World.cells?_some h1
      obtain ⟨pk, vb, rfl, hs⟩ := pkt_trod he o0 o1 o2 c0 c1 c2 u0 u1 u2 uq cq hlen h2
      refine ⟨(pk, vb), fun j hj => ?_, hs⟩
      have := hcell j hj
      rw [Go.Deep.add_add] at this
      exact this
    obtain ⟨y, hy⟩ := Go.Deep.choose_lt (α := Pkt × Value) (p := fun i y => (∀ j, j < 3 → w.cell? (a.add (i * 3 + j)) = (y.1.cells y.2)[j]?) ∧ Seen w w.heap.size y.2 y.1.b) each
    rcases Nat.eq_zero_or_pos l with h0 | h0
    · subst h0
      exact ⟨[], some a, c, [], rfl, hl, hm, Cells.nil, .inl rfl⟩
    · obtain ⟨b, off, spot⟩ := a
      have hc0 := (hy 0 h0).1 0 (by omega)
      have hspot : spot = none := by
        have : w.cell? ((⟨b, off, spot⟩ : Addr).add (0 * 3 + 0)) = some _ := hc0
        simpa [Addr.add] using World.cell?_spot this
      subst hspot
      have hb : b < w.heap.size := by
        have h1 : w.cell? ((⟨b, off, none⟩ : Addr).add (0 * 3 + 0)) = some _ := hc0
        have := World.block_lt_of_cell? w _ h1
        simpa [Addr.add] using this
      have hlen : ((List.range l).map fun i => (y i).1).length = l := by simp
      have hclen : ((List.range l).map fun i => (y i).1.cells (y i).2).length = l := by simp
      refine ⟨(List.range l).map fun i => (y i).1, some ⟨b, off, none⟩, c, (List.range l).map fun i => (y i).1.cells (y i).2, by rw [hlen], by rw [hlen]; exact hl, hm, ⟨by rw [hlen, hclen], fun i hi hi' => ?_⟩, .inr ⟨b, off, rfl, hb, hb, fun j hj => ?_⟩⟩
      · rw [hlen] at hi
        refine ⟨(y i).2, by simp, ?_⟩
        simpa using (hy i hi).2
      · have hfl := flat_at (n := 3) ((List.range l).map fun i => (y i).1.cells (y i).2) (fun c hc => by obtain ⟨i, _, rfl⟩ := List.mem_map.1 hc; rfl)
        have hj' : j < l * 3 := by rw [hfl.1, hclen] at hj; exact hj
        have hd : j / 3 < l := by omega
        have hm5 : j % 3 < 3 := by omega
        have hje : j / 3 * 3 + j % 3 = j := by omega
        have h1 := hfl.2 (j / 3) (by rw [hclen]; exact hd) (j % 3) (by rw [List.getElem_map]; exact hm5)
        have h2 := (hy (j / 3) hd).1 (j % 3) hm5
        rw [hje] at h1 h2
        rw [Addr.add_lit] at h2
        rw [h2]
        rw [List.getElem?_eq_getElem hj] at h1
        rw [Option.some.inj h1]
        simp only [List.getElem_map, List.getElem_range]
        exact List.getElem?_eq_getElem hm5
theorem net_arg (hT : P.underlying T = some (.struct #[g0, g1])) (cT : P.cellsOf T = 2) (p0 : g0.offset = 0) (p1 : g1.offset = 1) (d0 : P.cellsOf g0.type = 1) (d1 : P.cellsOf g1.type = 1) (v0 : P.underlying g0.type = some (.int .i64)) (v1 : g1.type = t)
    {v : Value} {d : DataW H} {p : List MemPlace} (hv : Value.okWide P w r base T v) (h : DataW.Trod enc P w 0 (fun _ => true) held T v d p) : ∃ n : Nett, NetAt w w.heap.size v n := by
  obtain ⟨cs, rfl, hsz⟩ := okWide_struct hT hv
  rw [cT] at hsz
  obtain ⟨fuel, hf⟩ := h
  obtain ⟨y0, y1, k, _, hl, h0, h1⟩ := trod_struct2 hT hf
  obtain ⟨cl⟩ := cs
  replace hsz : cl.length = 2 := by simpa using hsz
  match cl, hsz with
  | [a, b], _ =>
    simp [Value.cells, p0, d0] at h0
    simp [Value.cells, p1, d1] at h1
    obtain ⟨n0, hv0, _, w0⟩ := DataW.trod_int v0 h0
    obtain rfl : a = .int .i64 n0 := by simpa using hv0
    rw [v1] at h1
    obtain ⟨l, hp⟩ := pkts_trod ht he ce o0 o1 o2 c0 c1 c2 u0 u1 u2 uq cq h1
    exact ⟨⟨n0, l⟩, b, rfl, hp⟩
end

end Go.Proofs.Ythpbnjmhhkkkiaa
