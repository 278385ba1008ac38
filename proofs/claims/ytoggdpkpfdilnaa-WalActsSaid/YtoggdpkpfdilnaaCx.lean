/-
  The program's Crash (made by disk-crash-gen.py).
-/
import Derived.Test.YtoggdpkpfdilnaaMd
namespace Go.Proofs.Ytoggdpkpfdilnaa
open Go.RowKit
attribute [local go_sem ↓] Go.wp_at_zero Go.wp_at_succ

/-- nine cells are stored -/
def put9 (W : World) (g : Nat) (a b c d e f h i j : Value) : World := ((((((((W.setCell ⟨g, 0, none⟩ a).setCell ⟨g, 1, none⟩ b).setCell ⟨g, 2, none⟩ c).setCell ⟨g, 3, none⟩ d).setCell ⟨g, 4, none⟩ e).setCell ⟨g, 5, none⟩ f).setCell ⟨g, 6, none⟩ h).setCell ⟨g, 7, none⟩ i).setCell ⟨g, 8, none⟩ j
theorem put9_box {W : World} {g : Nat} {a' b' c' d' e' f' h' i' j' : Value} (hb : BoxF g [a', b', c', d', e', f', h', i', j'] W) (a b c d e f h i j : Value) : BoxF g [a, b, c, d, e, f, h, i, j] (put9 W g a b c d e f h i j) :=
  (((((((((hb.set 0 (by simp) a).set 1 (by simp) b).set 2 (by simp) c).set 3 (by simp) d).set 4 (by simp) e).set 5 (by simp) f).set 6 (by simp) h).set 7 (by simp) i).set 8 (by simp) j : _)
theorem put9_other (W : World) (g : Nat) (a b c d e f h i j : Value) (k : Nat) (hk : k ≠ g) : (put9 W g a b c d e f h i j).heap[k]? = W.heap[k]? := by
  unfold put9
  rw [Below.heap_setCell _ ⟨g, 8, none⟩ _ k hk, Below.heap_setCell _ ⟨g, 7, none⟩ _ k hk, Below.heap_setCell _ ⟨g, 6, none⟩ _ k hk, Below.heap_setCell _ ⟨g, 5, none⟩ _ k hk, Below.heap_setCell _ ⟨g, 4, none⟩ _ k hk, Below.heap_setCell _ ⟨g, 3, none⟩ _ k hk, Below.heap_setCell _ ⟨g, 2, none⟩ _ k hk, Below.heap_setCell _ ⟨g, 1, none⟩ _ k hk, Below.heap_setCell _ ⟨g, 0, none⟩ _ k hk]
theorem put9_below {B : Nat} {W W' : World} (hb : Below B W W') (g : Nat) (hg : B ≤ g) (a b c d e f h i j : Value) : Below B W (put9 W' g a b c d e f h i j) :=
  below_set (below_set (below_set (below_set (below_set (below_set (below_set (below_set (below_set hb g 0 a hg) g 1 b hg) g 2 c hg) g 3 d hg) g 4 e hg) g 5 f hg) g 6 h hg) g 7 i hg) g 8 j hg
theorem put9_size (W : World) (g : Nat) (a b c d e f h i j : Value) : (put9 W g a b c d e f h i j).heap.size = W.heap.size := by simp [put9, World.setCell]

/-- what lasts stands there now, too: a new disk in the same place -/
theorem DiskAt.renew {W wA : World} {B g : Nat} {s : Dsk} {v0 v1 q0 q1 lv a0 a1 : Value} (h : DiskAt W B g s v0 v1 q0 q1 lv) (hB : B ≤ W.heap.size) (hc : Copied B W s.last wA a0 a1) :
    Stands B g ⟨s.last, s.last, [], false, 0⟩ (owns g v0 v1 q0 q1 lv) W (put9 wA g v0 v1 (.int .i64 s.last.front) a0 a1 (.int .i64 s.last.front) (.slice none 0 0) (.bool false) (.int .i64 0)) (v0, v1, a0, a1, .slice none 0 0) := by
  obtain ⟨r0, r1, o0, o1, hap, hb⟩ := hc
  have hbs := hb.size
  have hgl := h.box.1
  have hsz := put9_size wA g v0 v1 (.int .i64 s.last.front) a0 a1 (.int .i64 s.last.front) (.slice none 0 0) (.bool false) (.int .i64 0)
  have hcell : ∀ k, k ≠ g → (put9 wA g v0 v1 (.int .i64 s.last.front) a0 a1 (.int .i64 s.last.front) (.slice none 0 0) (.bool false) (.int .i64 0)).heap[k]? = wA.heap[k]? := fun k hk => put9_other _ _ _ _ _ _ _ _ _ _ _ k hk
  have hold : ∀ k, k < W.heap.size → k ≠ g → (put9 wA g v0 v1 (.int .i64 s.last.front) a0 a1 (.int .i64 s.last.front) (.slice none 0 0) (.bool false) (.int .i64 0)).heap[k]? = W.heap[k]? := fun k hk hne => (hcell k hne).trans (hb.block k hk)
  have hng : ∀ (n : Nat) (k : Nat), n ≠ 0 → (owns g v0 v1 q0 q1 lv)[n]? = some (some k) → k ≠ g := fun n k hn e eg => h.apart 0 n k (by omega) (by show some (some g) = _; rw [eg]) e
  have hs2 := h.apart.set2 W.heap.size 3 4 a0.ownBlock a1.ownBlock (by omega) (fun k e => .inr (o0 k e)) (fun k e => .inr (o1 k e)) hap (fun k hk => (h.own k hk).2)
  refine ⟨⟨put9_box ((h.on hb).box) _ _ _ _ _ _ _ _ _, h.base, h.r0.kept (fun k e => hold k (h.r0.2 k e).2 (hng 1 k (by omega) (by show some v0.ownBlock = _; rw [e]))) (by omega), h.r1.kept (fun k e => hold k (h.r1.2 k e).2 (hng 2 k (by omega) (by show some v1.ownBlock = _; rw [e]))) (by omega), r0.kept (fun k e => hcell k (by have := o0 k e; omega)) (by omega), r1.kept (fun k e => hcell k (by have := o1 k e; omega)) (by omega), RoomN.nil, (fun c hc => by cases hc), ⟨Int.le_refl _, by show (0 : Int) ≤ _; omega⟩, ?_⟩, fun k hk => ?_, put9_below (hb.mono hB) g h.base _ _ _ _ _ _ _ _ _, fun k hk hn => hold k hk (fun eg => hn (by rw [eg]; simp [owns]))⟩
  · intro i j k hij hi hj
    have hg : ∀ a : Nat, (owns g v0 v1 a0 a1 (.slice none 0 0))[a]? = some (some k) → (((owns g v0 v1 q0 q1 lv).set 3 a0.ownBlock).set 4 a1.ownBlock)[a]? = some (some k) := by
      intro a e
      rcases a with _ | _ | _ | _ | _ | _ | a
      · exact e
      · exact e
      · exact e
      · exact e
      · exact e
      · cases e
      · cases e
    exact hs2 i j k hij (hg i hi) (hg j hj)
  · simp only [owns, List.mem_cons, List.not_mem_nil, or_false] at hk ⊢
    rcases hk with e | e | e | e | e | e
    · exact .inl (.inl e)
    · exact .inl (.inr (.inl e))
    · exact .inl (.inr (.inr (.inl e)))
    · exact .inr (o0 k e.symm)
    · exact .inr (o1 k e.symm)
    · cases e

def cut (t : Int) (text : ByteArray) : ByteArray := text.extract 0 (within t text.size)
theorem extract_bytes (tx : ByteArray) (m : Nat) : (tx.extract 0 m).data.toList = tx.data.toList.take m := by simp [ByteArray.data_extract]
/-- what lasts behind a crash -/
def Dsk.fallen (s : Dsk) (keep torn : Int) : Cont :=
  match s.loose[within keep s.loose.length]? with
  | some c => if c.does = 0 then (s.last.all (s.loose.take (within keep s.loose.length))).does { c with text := cut torn c.text } else s.last.all (s.loose.take (within keep s.loose.length))
  | none => s.last.all (s.loose.take (within keep s.loose.length))
def Dsk.crash (s : Dsk) (keep torn : Int) : Dsk := ⟨s.fallen keep torn, s.fallen keep torn, [], false, 0⟩

set_option maxRecDepth 100000 in
set_option maxHeartbeats 2000000 in
theorem crashAt_any (keep torn : Int) (w : World) (B g : Nat) (s : Dsk) (p0 p1 q0 q1 lv : Value) (h : DiskAt w B g s p0 p1 q0 q1 lv) (hB : B ≤ w.heap.size) (hm : s.mass ≤ 900000) :
    Calls Try.prog 23 #[.pointer (some ⟨g, 0, none⟩), .int .i64 keep, .int .i64 torn] w fun e w' => e = .returned (.tuple #[]) ∧ ∃ v0 v1 u0 u1, Stands B g (s.crash keep torn) (owns g p0 p1 q0 q1 lv) w w' (v0, v1, u0, u1, .slice none 0 0) := by
  obtain ⟨A, z, hlv, hnz, hzm⟩ := h.lo.slice
  obtain ⟨hzm, _⟩ := hzm
  subst hlv
  have H0 := Lib.hid h
  have HB := Lib.hid hB
  have HM := Lib.hid hm
  have c6 := h.box.get 6 rfl
  have hlen : s.loose.length ≤ 1000000 := by have := massL_len s.loose; unfold Dsk.mass at hm; omega
  obtain ⟨K, hK⟩ : ∃ K, K = within keep s.loose.length := ⟨_, rfl⟩
  have hKn : K ≤ s.loose.length := by rw [hK]; unfold within; omega
  have RW := Lib.hid (within_any w keep s.loose.length)
  rw [← hK] at RW
  have HK := Lib.hid hK
  have i2 : (0 : Int) ≤ (K : Int) := by omega
  have i3 : (K : Int) ≤ (z : Int) := by omega
  clear h hB hm hK
  go_enter Try.func23, Try.ntmps23
  go_wp2_with (go_at_call 38; (with_reducible refine (RW.out).mono ?_); rintro e w1 ⟨rfl, rfl⟩)
  go_loopw [23] (fun i wr => ∃ k : Nat, k ≤ K ∧ i = .int .i64 (k : Int) ∧ ∃ v0 v1, Stands B g { s with last := s.last.all (s.loose.take k) } (owns g p0 p1 q0 q1 (.slice A s.loose.length z)) w wr (v0, v1, q0, q1, .slice A s.loose.length z)) (fun i _ => K - (intOf i).toNat)
  case atStart => exact ⟨0, Nat.zero_le _, rfl, p0, p1, Stands.refl H0.out⟩
  case round =>
    obtain ⟨k, hk, rfl, v0, v1, hst⟩ := hrel
    have HST := Lib.hid hst
    have hBr := Nat.le_trans HB.out hst.2.2.1.size
    have HBR := Lib.hid hBr
    by_cases hlt : k < K
    · have hltn : k < s.loose.length := by omega
      obtain ⟨b, off, rfl, hbw, c0, c1, c2⟩ := lo_at hst.1.lo k hltn
      have hok := hst.1.ok _ (List.getElem_mem hltn)
      have HN : Hid (s.last.all (s.loose.take (k + 1)) = (s.last.all (s.loose.take k)).does s.loose[k]) := by
        show _ = _
        rw [List.take_succ_eq_append_getElem hltn, Cont.all_snoc]
      have hmk : (s.last.all (s.loose.take k)).mass + s.loose[k].bytes.length ≤ 1000000000 := by
        have h2 := Cont.all_mass (s.loose.take k) s.last
        have h3 := massL_take s.loose (k + 1)
        have h4 : massL (s.loose.take (k + 1)) = massL (s.loose.take k) + s.loose[k].w := by rw [List.take_succ_eq_append_getElem hltn, massL_snoc]
        have := HM.out
        unfold Dsk.mass at this
        unfold Chg.w at h4
        omega
      obtain ⟨c, hc⟩ : ∃ c, c = s.loose[k] := ⟨_, rfl⟩
      rw [← hc] at c0 c1 c2 hok HN hmk
      have HOK := Lib.hid hok
      have HMK := Lib.hid hmk
      have i0 : (0 : Int) ≤ (k : Int) := by omega
      have i1 : (k : Int) < (K : Int) := by omega
      have hbx := box_made wr [.int .i64 (c.does : Int), .int .i64 (c.area : Int), .string c.text] 73
      have hbe := bal wr (.cells #[.int .i64 (c.does : Int), .int .i64 (c.area : Int), .string c.text] 73)
      have hd := hst.1.on hbe
      have hdl := DiskAt.on hd (Below.refl _ _).drew
      have RD := Lib.hid (do_last c hok (wr.alloc (.cells #[.int .i64 (c.does : Int), .int .i64 (c.area : Int), .string c.text] 73)).drew B g _ v0 v1 q0 q1 _ hdl (Nat.le_trans hBr (hbe.drew).size) hmk)
      have CD : (wr.alloc (.cells #[.int .i64 (c.does : Int), .int .i64 (c.area : Int), .string c.text] 73)).drew.cell? ⟨wr.heap.size, 0, none⟩ = some (.int .i64 (c.does : Int)) ∧ (wr.alloc (.cells #[.int .i64 (c.does : Int), .int .i64 (c.area : Int), .string c.text] 73)).drew.cell? ⟨wr.heap.size, 1, none⟩ = some (.int .i64 (c.area : Int)) ∧ (wr.alloc (.cells #[.int .i64 (c.does : Int), .int .i64 (c.area : Int), .string c.text] 73)).drew.cell? ⟨wr.heap.size, 2, none⟩ = some (.string c.text) := ⟨hbx.get 0 rfl, hbx.get 1 rfl, hbx.get 2 rfl⟩
      have HNO : Hid (some wr.heap.size ∉ owns g v0 v1 q0 q1 (.slice (some ⟨b, off, none⟩) s.loose.length z) ∧ wr.heap.size < (wr.alloc (.cells #[.int .i64 (c.does : Int), .int .i64 (c.area : Int), .string c.text] 73)).drew.heap.size) := ⟨fun e => by have := (hst.1.own _ e).2; omega, hbx.1⟩
      have HBE := Lib.hid (hbe.drew)
      clear hc hok hmk hst hbx hbe hBr hbw c6 hd hdl RW
      go_wp2
      first | (go_region_held3 (fun W => W.cell? ⟨wr.heap.size, 0, none⟩ = some (.int .i64 (c.does : Int)) ∧ W.cell? ⟨wr.heap.size, 1, none⟩ = some (.int .i64 (c.area : Int)) ∧ W.cell? ⟨wr.heap.size, 2, none⟩ = some (.string c.text)) (first | exact C2 | exact CD) (first
        | (go_at_call 39; (with_reducible refine (RD.out).mono ?_); rintro e w2 ⟨rfl, x0, x1, hs2⟩; have e2 := hs2.2.2.2 _ HNO.out.2 HNO.out.1; have C2 := And.intro ((World.cell?_of_block (a := ⟨wr.heap.size, 0, none⟩) e2).trans CD.1) (And.intro ((World.cell?_of_block (a := ⟨wr.heap.size, 1, none⟩) e2).trans CD.2.1) ((World.cell?_of_block (a := ⟨wr.heap.size, 2, none⟩) e2).trans CD.2.2))))) | fail
      go_wp2
      go_roundw
      case rel => exact ⟨k + 1, by omega, by go_num, x0, x1, HST.out.trans (Stands.after HBE.out HBR.out (by rw [HN.out]; exact hs2))⟩
      case measure => simp [intOf]; omega
    · obtain rfl : k = K := by omega
      clear hk
      have c6' := hst.1.box.get 6 rfl
      have hmk : (s.last.all (s.loose.take k)).mass ≤ 1000000 := by
        have h2 := Cont.all_mass (s.loose.take k) s.last
        have h3 := massL_take s.loose k
        have := HM.out
        unfold Dsk.mass at this
        omega
      obtain ⟨A0, z0, hv0, _⟩ := hst.1.r0.slice
      obtain ⟨A1, z1, hv1, _⟩ := hst.1.r1.slice
      generalize (s.last.all (s.loose.take k)).a0.length = n0 at hv0
      generalize (s.last.all (s.loose.take k)).a1.length = n1 at hv1
      by_cases hkn : k < s.loose.length
      · obtain ⟨b, off, hA, hbw, c0, c1, c2⟩ := lo_at hst.1.lo k hkn
        subst hA
        have hok := hst.1.ok _ (List.getElem_mem hkn)
        have hge : s.loose[k]? = some s.loose[k] := List.getElem?_eq_getElem hkn
        obtain ⟨c, hc⟩ : ∃ c, c = s.loose[k] := ⟨_, rfl⟩
        rw [← hc] at c0 c1 c2 hok hge
        have i4 : (k : Int) < (s.loose.length : Int) := by omega
        by_cases hd0 : c.does = 0
        · obtain ⟨dk, ar, tx⟩ := c
          simp only at hd0
          subst hd0
          have c0' : wr.cell? ⟨b, off + k * 3, none⟩ = some (.int .i64 0) := c0
          have c1' : wr.cell? ⟨b, off + k * 3 + 1, none⟩ = some (.int .i64 (ar : Int)) := c1
          have c2' : wr.cell? ⟨b, off + k * 3 + 2, none⟩ = some (.string tx) := c2
          obtain ⟨m, hm⟩ : ∃ m, m = within torn tx.size := ⟨_, rfl⟩
          have hmx : m ≤ tx.size := by rw [hm]; unfold within; omega
          have RT : Hid (∀ W, Calls Try.prog 38 #[.int .i64 torn, .int .i64 (tx.size : Int)] W fun e w' => e = .returned (.int .i64 (m : Int)) ∧ W = w') := fun W => by rw [hm]; exact within_any W torn tx.size
          have i5 : (0 : Int) ≤ (m : Int) := by omega
          have i6 : (m : Int) ≤ (tx.size : Int) := by omega
          have HMM := Lib.hid hm
          have HGE := Lib.hid hge
          have hc9 : (⟨0, ar, tx.extract 0 m⟩ : Chg).ok := hok
          have hmk9 : (s.last.all (s.loose.take k)).mass + (⟨0, ar, tx.extract 0 m⟩ : Chg).bytes.length ≤ 1000000 := by
            have h2 := Cont.all_mass (s.loose.take k) s.last
            have h3 := massL_take s.loose (k + 1)
            have h4 : massL (s.loose.take (k + 1)) = massL (s.loose.take k) + (⟨0, ar, tx⟩ : Chg).w := by rw [List.take_succ_eq_append_getElem hkn, massL_snoc, ← hc]
            have h5 : (⟨0, ar, tx.extract 0 m⟩ : Chg).bytes.length ≤ (⟨0, ar, tx⟩ : Chg).bytes.length := by
              show (tx.extract 0 m).data.toList.length ≤ tx.data.toList.length
              rw [extract_bytes, List.length_take]
              omega
            have := HM.out
            unfold Dsk.mass at this
            unfold Chg.w at h4
            omega
          have HFA : Hid (s.fallen keep torn = (s.last.all (s.loose.take k)).does ⟨0, ar, tx.extract 0 m⟩) := by
            show _ = _
            unfold Dsk.fallen
            rw [← HK.out, HGE.out, HMM.out]
            rfl
          have hm9 : ((s.last.all (s.loose.take k)).does ⟨0, ar, tx.extract 0 m⟩).mass ≤ 1000000 := Nat.le_trans (Cont.does_mass _ _) hmk9
          have hbx := box_made wr [.int .i64 0, .int .i64 (ar : Int), .string (tx.extract 0 m)] 73
          have hbe := bal wr (.cells #[.int .i64 0, .int .i64 (ar : Int), .string (tx.extract 0 m)] 73)
          have hd := hst.1.on hbe
          have hdl := DiskAt.on (DiskAt.on hd (Below.refl _ _).drew) (Below.refl _ _).drew
          have RD : Hid (Calls Try.prog 39 #[.pointer (some ⟨g, 0, none⟩), .agg #[.int .i64 0, .int .i64 (ar : Int), .string (tx.extract 0 m)]] (wr.alloc (.cells #[.int .i64 0, .int .i64 (ar : Int), .string (tx.extract 0 m)] 73)).drew.drew fun e w' => e = .returned (.tuple #[]) ∧ ∃ x0 x1, Stands B g { s with last := (s.last.all (s.loose.take k)).does ⟨0, ar, tx.extract 0 m⟩ } (owns g v0 v1 q0 q1 (.slice (some ⟨b, off, none⟩) s.loose.length z)) (wr.alloc (.cells #[.int .i64 0, .int .i64 (ar : Int), .string (tx.extract 0 m)] 73)).drew.drew w' (x0, x1, q0, q1, .slice (some ⟨b, off, none⟩) s.loose.length z)) := do_last ⟨0, ar, tx.extract 0 m⟩ hc9 (wr.alloc (.cells #[.int .i64 0, .int .i64 (ar : Int), .string (tx.extract 0 m)] 73)).drew.drew B g _ v0 v1 q0 q1 _ hdl (Nat.le_trans hBr (hbe.drew).size) (by show (s.last.all (s.loose.take k)).mass + _ ≤ _; omega)
          have CD : (wr.alloc (.cells #[.int .i64 0, .int .i64 (ar : Int), .string (tx.extract 0 m)] 73)).drew.drew.cell? ⟨wr.heap.size, 0, none⟩ = some (.int .i64 0) ∧ (wr.alloc (.cells #[.int .i64 0, .int .i64 (ar : Int), .string (tx.extract 0 m)] 73)).drew.drew.cell? ⟨wr.heap.size, 1, none⟩ = some (.int .i64 (ar : Int)) ∧ (wr.alloc (.cells #[.int .i64 0, .int .i64 (ar : Int), .string (tx.extract 0 m)] 73)).drew.drew.cell? ⟨wr.heap.size, 2, none⟩ = some (.string (tx.extract 0 m)) := ⟨hbx.get 0 rfl, hbx.get 1 rfl, hbx.get 2 rfl⟩
          have HNO : Hid (some wr.heap.size ∉ owns g v0 v1 q0 q1 (.slice (some ⟨b, off, none⟩) s.loose.length z) ∧ wr.heap.size < (wr.alloc (.cells #[.int .i64 0, .int .i64 (ar : Int), .string (tx.extract 0 m)] 73)).drew.drew.heap.size) := ⟨fun e => by have := (hst.1.own _ e).2; omega, hbx.1⟩
          have HBE := Lib.hid (hbe.drew.drew)
          subst hv0 hv1
          clear c0 c1 c2 hc hok hge hst hm RW hbx hbe hd hdl hc9 hBr c6 hlt hmk hmk9 hlen
          go_wp2
          first | (go_region_with (first | (go_at_call 38; (with_reducible refine (RT.out _).mono ?_); rintro e w9 ⟨rfl, rfl⟩))) | fail
          all_goals go_wp2
          all_goals
            first | (go_region_held3 (fun W => W.cell? ⟨wr.heap.size, 0, none⟩ = some (.int .i64 0) ∧ W.cell? ⟨wr.heap.size, 1, none⟩ = some (.int .i64 (ar : Int)) ∧ W.cell? ⟨wr.heap.size, 2, none⟩ = some (.string (tx.extract 0 m))) (first | exact C2 | exact CD) (first
              | (go_at_call 39; (with_reducible refine (RD.out).mono ?_); rintro e w9 ⟨rfl, v0, v1, hs9⟩; have e2 := hs9.2.2.2 _ HNO.out.2 HNO.out.1; have C2 := And.intro ((World.cell?_of_block (a := ⟨wr.heap.size, 0, none⟩) e2).trans CD.1) (And.intro ((World.cell?_of_block (a := ⟨wr.heap.size, 1, none⟩) e2).trans CD.2.1) ((World.cell?_of_block (a := ⟨wr.heap.size, 2, none⟩) e2).trans CD.2.2))))) | fail
            have HS9 := Lib.hid (HST.out.trans (Stands.after HBE.out HBR.out hs9))
            have hst9 := HS9.out
            have HB9 : Hid (B ≤ w9.heap.size) := Nat.le_trans HB.out hst9.2.2.1.size
            obtain ⟨A0, z0, hv0, _⟩ := hst9.1.r0.slice
            obtain ⟨A1, z1, hv1, _⟩ := hst9.1.r1.slice
            generalize ((s.last.all (s.loose.take k)).does ⟨0, ar, tx.extract 0 m⟩).a0.length = n0 at hv0
            generalize ((s.last.all (s.loose.take k)).does ⟨0, ar, tx.extract 0 m⟩).a1.length = n1 at hv1
            clear hs9 C2 CD RD
            have hdd := hst9.1.on (Below.refl _ _).drew
            have HDD := Lib.hid hdd
            have HBD : Hid (B ≤ w9.drew.heap.size) := HB9.out
            have RA := Lib.hid (apart_any g 0 _ _ ((s.last.all (s.loose.take k)).does ⟨0, ar, tx.extract 0 m⟩) w9.drew B (hdd.box.get 0 rfl) (hdd.box.get 1 rfl) (hdd.box.get 2 rfl) hdd.box.1 hdd.r0 hdd.r1 HBD.out (by omega))
            have d0 : w9.drew.cell? ⟨g, 0, none⟩ = some v0 := hdd.box.get 0 rfl
            have d1 : w9.drew.cell? ⟨g, 1, none⟩ = some v1 := hdd.box.get 1 rfl
            have d2 : w9.drew.cell? ⟨g, 2, none⟩ = some (.int .i64 ((s.last.all (s.loose.take k)).does ⟨0, ar, tx.extract 0 m⟩).front) := hdd.box.get 2 rfl
            subst hv0 hv1
            clear hst9 hdd
            go_wp2
            first | (go_region_with (first | (go_at_call 40; (with_reducible refine (RA.out).mono ?_); rintro e wA ⟨a0, a1, rfl, hcp⟩; have HCP := Lib.hid hcp; have hbA := (HDD.out.on hcp.2.2.2.2.2).box; have e0 := hbA.get 0 rfl; have e1 := hbA.get 1 rfl; have e2 := hbA.get 2 rfl; have g0 := hbA.2 0 (by simp); have g1 := hbA.2 1 (by simp); have g2 := hbA.2 2 (by simp); have g3 := hbA.2 3 (by simp); have g4 := hbA.2 4 (by simp); have g5 := hbA.2 5 (by simp); have g6 := hbA.2 6 (by simp); have g7 := hbA.2 7 (by simp); have g8 := hbA.2 8 (by simp); obtain ⟨Aa, za, hva, _⟩ := hcp.1.slice; obtain ⟨Ab, zb, hvb, _⟩ := hcp.2.1.slice; generalize ((s.last.all (s.loose.take k)).does ⟨0, ar, tx.extract 0 m⟩).a0.length = na at hva; generalize ((s.last.all (s.loose.take k)).does ⟨0, ar, tx.extract 0 m⟩).a1.length = nb at hvb; subst hva hvb; clear hcp hbA))) | fail
            all_goals go_wp2
            all_goals go_end0
            all_goals exact ⟨rfl, _, _, _, _, by unfold Dsk.crash; rw [HFA.out]; exact HS9.out.trans (Stands.after (Below.refl _ _).drew HB9.out (HDD.out.renew HBD.out HCP.out))⟩
        · have hdb : ((c.does : Int) == 0) = false := by rw [beq_eq_false_iff_ne]; omega
          have HFA : Hid (s.fallen keep torn = s.last.all (s.loose.take k)) := by
            show _ = _
            unfold Dsk.fallen
            rw [← HK.out, hge]
            exact if_neg hd0
          generalize ((c.does : Nat) : Int) = q at c0 hdb
          clear hd0 hok hc hge
          have hdd := hst.1.on (Below.refl _ _).drew
          have HDD := Lib.hid hdd
          have HBD : Hid (B ≤ wr.drew.heap.size) := HBR.out
          have RA := Lib.hid (apart_any g 0 _ _ (s.last.all (s.loose.take k)) wr.drew B (hdd.box.get 0 rfl) (hdd.box.get 1 rfl) (hdd.box.get 2 rfl) hdd.box.1 hdd.r0 hdd.r1 HBD.out (by omega))
          have d0 : wr.drew.cell? ⟨g, 0, none⟩ = some v0 := hdd.box.get 0 rfl
          have d1 : wr.drew.cell? ⟨g, 1, none⟩ = some v1 := hdd.box.get 1 rfl
          have d2 : wr.drew.cell? ⟨g, 2, none⟩ = some (.int .i64 (s.last.all (s.loose.take k)).front) := hdd.box.get 2 rfl
          subst hv0 hv1
          clear hst hdd hBr c6 RW hlt hmk hlen
          go_wp2
          first | (go_region_with (first | (go_at_call 40; (with_reducible refine (RA.out).mono ?_); rintro e wA ⟨a0, a1, rfl, hcp⟩; have HCP := Lib.hid hcp; have hbA := (HDD.out.on hcp.2.2.2.2.2).box; have e0 := hbA.get 0 rfl; have e1 := hbA.get 1 rfl; have e2 := hbA.get 2 rfl; have g0 := hbA.2 0 (by simp); have g1 := hbA.2 1 (by simp); have g2 := hbA.2 2 (by simp); have g3 := hbA.2 3 (by simp); have g4 := hbA.2 4 (by simp); have g5 := hbA.2 5 (by simp); have g6 := hbA.2 6 (by simp); have g7 := hbA.2 7 (by simp); have g8 := hbA.2 8 (by simp); obtain ⟨Aa, za, hva, _⟩ := hcp.1.slice; obtain ⟨Ab, zb, hvb, _⟩ := hcp.2.1.slice; generalize (s.last.all (s.loose.take k)).a0.length = na at hva; generalize (s.last.all (s.loose.take k)).a1.length = nb at hvb; subst hva hvb; clear hcp hbA))) | fail
          all_goals go_wp2
          all_goals go_end0
          all_goals exact ⟨rfl, _, _, _, _, by unfold Dsk.crash; rw [HFA.out]; exact HST.out.trans (Stands.after (Below.refl _ _).drew HBR.out (HDD.out.renew HBD.out HCP.out))⟩
      · have i4 : ¬ (k : Int) < (s.loose.length : Int) := by omega
        have HFA : Hid (s.fallen keep torn = s.last.all (s.loose.take k)) := by
          show _ = _
          unfold Dsk.fallen
          rw [← HK.out, List.getElem?_eq_none (by omega)]
        have hdd := hst.1.on (Below.refl _ _).drew
        have HDD := Lib.hid hdd
        have HBD : Hid (B ≤ wr.drew.heap.size) := HBR.out
        have RA := Lib.hid (apart_any g 0 _ _ (s.last.all (s.loose.take k)) wr.drew B (hdd.box.get 0 rfl) (hdd.box.get 1 rfl) (hdd.box.get 2 rfl) hdd.box.1 hdd.r0 hdd.r1 HBD.out (by omega))
        have d0 : wr.drew.cell? ⟨g, 0, none⟩ = some v0 := hdd.box.get 0 rfl
        have d1 : wr.drew.cell? ⟨g, 1, none⟩ = some v1 := hdd.box.get 1 rfl
        have d2 : wr.drew.cell? ⟨g, 2, none⟩ = some (.int .i64 (s.last.all (s.loose.take k)).front) := hdd.box.get 2 rfl
        subst hv0 hv1
        clear hst hdd hBr c6 RW hlt hmk hlen
        go_wp2
        first | (go_region_with (first | (go_at_call 40; (with_reducible refine (RA.out).mono ?_); rintro e wA ⟨a0, a1, rfl, hcp⟩; have HCP := Lib.hid hcp; have hbA := (HDD.out.on hcp.2.2.2.2.2).box; have e0 := hbA.get 0 rfl; have e1 := hbA.get 1 rfl; have e2 := hbA.get 2 rfl; have g0 := hbA.2 0 (by simp); have g1 := hbA.2 1 (by simp); have g2 := hbA.2 2 (by simp); have g3 := hbA.2 3 (by simp); have g4 := hbA.2 4 (by simp); have g5 := hbA.2 5 (by simp); have g6 := hbA.2 6 (by simp); have g7 := hbA.2 7 (by simp); have g8 := hbA.2 8 (by simp); obtain ⟨Aa, za, hva, _⟩ := hcp.1.slice; obtain ⟨Ab, zb, hvb, _⟩ := hcp.2.1.slice; generalize (s.last.all (s.loose.take k)).a0.length = na at hva; generalize (s.last.all (s.loose.take k)).a1.length = nb at hvb; subst hva hvb; clear hcp hbA))) | fail
        all_goals go_wp2
        all_goals go_end0
        all_goals exact ⟨rfl, _, _, _, _, by unfold Dsk.crash; rw [HFA.out]; exact HST.out.trans (Stands.after (Below.refl _ _).drew HBR.out (HDD.out.renew HBD.out HCP.out))⟩

end Go.Proofs.Ytoggdpkpfdilnaa
