/-
  The program's settle: loose changes are made lasting.
-/
import Derived.Test.YtoggdpkpfdilnaaAp
namespace Go.Proofs.Ytoggdpkpfdilnaa
open Go.RowKit
attribute [local go_sem ↓] Go.wp_at_zero Go.wp_at_succ

/-- one of the loose changes -/
theorem lo_at {w : World} {B n z m : Nat} {A : Option Addr} {l : List Chg} (h : RoomN w B (.slice A n z) 3 m (chgCells l)) (i : Nat) (hi : i < l.length) : ∃ b off, A = some ⟨b, off, none⟩ ∧ b < w.heap.size ∧
    w.cell? ⟨b, off + i * 3, none⟩ = some (.int .i64 (l[i].does : Int)) ∧ w.cell? ⟨b, off + i * 3 + 1, none⟩ = some (.int .i64 (l[i].area : Int)) ∧ w.cell? ⟨b, off + i * 3 + 2, none⟩ = some (.string l[i].text) := by
  have hm : l.length * 3 = m * 3 := by rw [← chgCells_len]; exact h.1
  obtain ⟨A', z', e, h1, h2, h3⟩ := h.slice
  injection e with e1 _ _
  subst e1
  rcases h3 with h3 | ⟨b, off, rfl, _, hw, hr⟩
  · omega
  have hcell : ∀ j u, (l[i].cells)[j]? = some u → w.cell? ⟨b, off + i * 3 + j, none⟩ = some u := fun j u hu => by
    obtain ⟨hq, e3⟩ := List.getElem?_eq_some_iff.1 (chgCells_at l i hi j u hu)
    rw [Nat.add_assoc, hr _ hq, e3]
  exact ⟨b, off, rfl, hw, hcell 0 _ rfl, hcell 1 _ rfl, hcell 2 _ rfl⟩
/-- other loose changes are stored -/
theorem Stands.store6 {w : World} {B g : Nat} {s : Dsk} {p0 p1 q0 q1 lv : Value} (h : DiskAt w B g s p0 p1 q0 q1 lv) (lv' : Value) (l : List Chg) (hl : RoomN w B lv' 3 l.length (chgCells l)) (hok : ∀ c ∈ l, c.ok) (ho : ∀ k, lv'.ownBlock = some k → k < w.heap.size ∧ ∀ n, n ≠ 5 → (owns g p0 p1 q0 q1 lv)[n]? ≠ some (some k)) :
    DiskAt (w.setCell ⟨g, 6, none⟩ lv') B g { s with loose := l } p0 p1 q0 q1 lv' ∧ Below B w (w.setCell ⟨g, 6, none⟩ lv') ∧ ∀ k, k < w.heap.size → k ≠ g → (w.setCell ⟨g, 6, none⟩ lv').heap[k]? = w.heap[k]? := by
  have hcell : ∀ k, k ≠ g → (w.setCell ⟨g, 6, none⟩ lv').heap[k]? = w.heap[k]? := fun k hne => Below.heap_setCell w ⟨g, 6, none⟩ lv' k hne
  have hsz : w.heap.size ≤ (w.setCell ⟨g, 6, none⟩ lv').heap.size := by simp [World.setCell]
  have hng : ∀ (n : Nat) (o : Option Nat), n ≠ 0 → (owns g p0 p1 q0 q1 lv)[n]? = some o → ∀ k, o = some k → k ≠ g := fun n o hn e k ek eg => h.apart.get 0 n (by omega) rfl e k (by rw [eg]) ek
  refine ⟨⟨(h.box.set 6 (by simp) lv' : _), h.base, h.r0.kept (fun k e => hcell k (hng 1 _ (by omega) rfl k e)) hsz, h.r1.kept (fun k e => hcell k (hng 2 _ (by omega) rfl k e)) hsz, h.n0.kept (fun k e => hcell k (hng 3 _ (by omega) rfl k e)) hsz, h.n1.kept (fun k e => hcell k (hng 4 _ (by omega) rfl k e)) hsz, ?_, hok, h.lf, ?_⟩, below_set (Below.refl B w) g 6 lv' h.base, fun k _ hne => hcell k hne⟩
  · exact hl.kept (fun k e => hcell k (fun eg => (ho k e).2 0 (by omega) (by rw [eg]; rfl))) hsz
  · have hg : ∀ a k, (owns g p0 p1 q0 q1 lv')[a]? = some (some k) → (a = 5 ∧ lv'.ownBlock = some k) ∨ (a ≠ 5 ∧ (owns g p0 p1 q0 q1 lv)[a]? = some (some k)) := by
      intro a k e
      rcases a with _ | _ | _ | _ | _ | _ | a
      · exact .inr ⟨by omega, e⟩
      · exact .inr ⟨by omega, e⟩
      · exact .inr ⟨by omega, e⟩
      · exact .inr ⟨by omega, e⟩
      · exact .inr ⟨by omega, e⟩
      · exact .inl ⟨rfl, Option.some.inj e⟩
      · cases e
    intro a b k hab e1 e2
    rcases hg a k e1 with ⟨ra, xa⟩ | ⟨na, la⟩ <;> rcases hg b k e2 with ⟨rb, xb⟩ | ⟨nb, lb⟩
    · exact hab (ra.trans rb.symm)
    · exact (ho k xa).2 b nb lb
    · exact (ho k xb).2 a na la
    · exact h.apart a b k hab la lb

set_option maxRecDepth 100000 in
set_option maxHeartbeats 1000000 in
theorem settle_any (w : World) (B g : Nat) (s : Dsk) (p0 p1 q0 q1 lv : Value) (h : DiskAt w B g s p0 p1 q0 q1 lv) (hB : B ≤ w.heap.size) (hm : s.mass ≤ 1000000) :
    Calls Try.prog 55 #[.pointer (some ⟨g, 0, none⟩)] w fun e w' => e = .returned (.tuple #[]) ∧ ∃ v0 v1, Stands B g { s with last := s.last.all s.loose, loose := [] } (owns g p0 p1 q0 q1 lv) w w' (v0, v1, q0, q1, .slice none 0 0) := by
  obtain ⟨A, z, hlv, _⟩ := h.lo.slice
  subst hlv
  have H0 := Lib.hid h
  have HB := Lib.hid hB
  have HM := Lib.hid hm
  have c6 := h.box.get 6 rfl
  have hlen : s.loose.length ≤ 1000000 := by have := massL_len s.loose; unfold Dsk.mass at hm; omega
  clear h hB hm
  go_enter Try.func55, Try.ntmps55
  go_wp2
  go_loopw [9] (fun i wr => ∃ k : Nat, k ≤ s.loose.length ∧ i = .int .i64 (k : Int) ∧ ∃ v0 v1, Stands B g { s with last := s.last.all (s.loose.take k) } (owns g p0 p1 q0 q1 (.slice A s.loose.length z)) w wr (v0, v1, q0, q1, .slice A s.loose.length z)) (fun i _ => s.loose.length - (intOf i).toNat)
  case atStart => exact ⟨0, Nat.zero_le _, rfl, p0, p1, Stands.refl H0.out⟩
  case round =>
    obtain ⟨k, hk, rfl, v0, v1, hst⟩ := hrel
    have HST := Lib.hid hst
    by_cases hlt : k < s.loose.length
    · obtain ⟨b, off, rfl, hbw, c0, c1, c2⟩ := lo_at hst.1.lo k hlt
      have hok := hst.1.ok _ (List.getElem_mem hlt)
      have HN : Hid (s.last.all (s.loose.take (k + 1)) = (s.last.all (s.loose.take k)).does s.loose[k]) := by
        show _ = _
        rw [List.take_succ_eq_append_getElem hlt, Cont.all_snoc]
      have hmk : (s.last.all (s.loose.take k)).mass + s.loose[k].bytes.length ≤ 1000000000 := by
        have h1 := Cont.all_mass (s.loose.take (k + 1)) s.last
        have h2 := Cont.all_mass (s.loose.take k) s.last
        have h3 := massL_take s.loose (k + 1)
        have h4 : massL (s.loose.take (k + 1)) = massL (s.loose.take k) + s.loose[k].w := by rw [List.take_succ_eq_append_getElem hlt, massL_snoc]
        have := HM.out
        unfold Dsk.mass at this
        unfold Chg.w at h4
        omega
      obtain ⟨c, hc⟩ : ∃ c, c = s.loose[k] := ⟨_, rfl⟩
      rw [← hc] at c0 c1 c2 hok HN hmk
      have HOK := Lib.hid hok
      have HMK := Lib.hid hmk
      have i0 : (0 : Int) ≤ (k : Int) := by omega
      have i1 : (k : Int) < (s.loose.length : Int) := by omega
      have hBr := Nat.le_trans HB.out hst.2.2.1.size
      have hbx := box_made wr [.int .i64 (c.does : Int), .int .i64 (c.area : Int), .string c.text] 73
      have hbe := bal wr (.cells #[.int .i64 (c.does : Int), .int .i64 (c.area : Int), .string c.text] 73)
      have hd := hst.1.on hbe
      have hdl := DiskAt.on hd (Below.refl _ _).drew
      have RD := Lib.hid (do_last c hok (wr.alloc (.cells #[.int .i64 (c.does : Int), .int .i64 (c.area : Int), .string c.text] 73)).drew B g _ v0 v1 q0 q1 _ hdl (Nat.le_trans hBr (hbe.drew).size) hmk)
      have CD : (wr.alloc (.cells #[.int .i64 (c.does : Int), .int .i64 (c.area : Int), .string c.text] 73)).drew.cell? ⟨wr.heap.size, 0, none⟩ = some (.int .i64 (c.does : Int)) ∧ (wr.alloc (.cells #[.int .i64 (c.does : Int), .int .i64 (c.area : Int), .string c.text] 73)).drew.cell? ⟨wr.heap.size, 1, none⟩ = some (.int .i64 (c.area : Int)) ∧ (wr.alloc (.cells #[.int .i64 (c.does : Int), .int .i64 (c.area : Int), .string c.text] 73)).drew.cell? ⟨wr.heap.size, 2, none⟩ = some (.string c.text) := ⟨hbx.get 0 rfl, hbx.get 1 rfl, hbx.get 2 rfl⟩
      have HNO : Hid (some wr.heap.size ∉ owns g v0 v1 q0 q1 (.slice (some ⟨b, off, none⟩) s.loose.length z) ∧ wr.heap.size < (wr.alloc (.cells #[.int .i64 (c.does : Int), .int .i64 (c.area : Int), .string c.text] 73)).drew.heap.size) := ⟨fun e => by have := (hst.1.own _ e).2; omega, hbx.1⟩
      have HBE := Lib.hid (hbe.drew)
      have HBR := Lib.hid hBr
      clear hc hok hmk hst hbx hbe hBr hbw c6 hd hdl
      go_wp2
      first | (go_region_held3 (fun W => W.cell? ⟨wr.heap.size, 0, none⟩ = some (.int .i64 (c.does : Int)) ∧ W.cell? ⟨wr.heap.size, 1, none⟩ = some (.int .i64 (c.area : Int)) ∧ W.cell? ⟨wr.heap.size, 2, none⟩ = some (.string c.text)) (first | exact C2 | exact CD) (first
        | (go_at_call 39; (with_reducible refine (RD.out).mono ?_); rintro e w2 ⟨rfl, x0, x1, hs2⟩; have e2 := hs2.2.2.2 _ HNO.out.2 HNO.out.1; have C2 := And.intro ((World.cell?_of_block (a := ⟨wr.heap.size, 0, none⟩) e2).trans CD.1) (And.intro ((World.cell?_of_block (a := ⟨wr.heap.size, 1, none⟩) e2).trans CD.2.1) ((World.cell?_of_block (a := ⟨wr.heap.size, 2, none⟩) e2).trans CD.2.2))))) | fail
      go_wp2
      go_roundw
      case rel => exact ⟨k + 1, by omega, by go_num, x0, x1, HST.out.trans (Stands.after HBE.out HBR.out (by rw [HN.out]; exact hs2))⟩
      case measure => simp [intOf]; omega
    · have hkl : s.loose.take k = s.loose := List.take_of_length_le (by omega)
      rw [hkl] at HST
      have hst' := HST.out
      have c6' := hst'.1.box.get 6 rfl
      have f6 := hst'.1.box.free 6 (by simp)
      clear hst hst' c6 hkl
      go_wp2
      go_end0
      refine ⟨rfl, v0, v1, HST.out.trans ?_⟩
      obtain ⟨d1, d2, d3⟩ := Stands.store6 HST.out.1 (.slice none 0 0) [] RoomN.nil (fun c h => by cases h) (fun k e => by cases e)
      refine ⟨d1, fun k hk => .inl ?_, d2, fun k hk hn => d3 k hk (fun e => hn (by rw [e]; exact List.mem_cons_self ..))⟩
      simp only [owns, List.mem_cons, List.not_mem_nil, or_false] at hk ⊢
      rcases hk with e | e | e | e | e | e
      · exact .inl e
      · exact .inr (.inl e)
      · exact .inr (.inr (.inl e))
      · exact .inr (.inr (.inr (.inl e)))
      · exact .inr (.inr (.inr (.inr (.inl e))))
      · cases e

end Go.Proofs.Ytoggdpkpfdilnaa
