/-
  DiskActs, of every input.
-/
import Derived.Test.YtcdobelhchlheaaSh
import Derived.Test.YtcdobelhchlheaaDo5
import Derived.Test.YtcdobelhchlheaaSy
import Derived.Deep.CutRange
namespace Go.Proofs.Ytcdobelhchlheaa
open Go.RowKit
attribute [local go_sem ↓] Go.wp_at_zero Go.wp_at_succ

/-- where the program's disk, and the document's in a variable at block gd, stand -/
def Both (B g gd m n : Nat) (wr : World) : Prop := ∃ s F d sv lv, Disk wr B g s F ∧ Sim s d ∧ BoxF gd (d.cells sv lv) wr ∧ ¬ F gd ∧ d.liesIn wr B (fun k => ¬ F k ∧ k ≠ gd) sv lv ∧ s.mass ≤ m ∧ d.safe.length + d.loose.length ≤ n
theorem act_len (d : Dskd) (a : Actd) : (d.act a).1.safe.length + (d.act a).1.loose.length ≤ d.safe.length + d.loose.length + 1 := by
  have ht : ∀ e : Dskd, e.tick.safe = e.safe ∧ e.tick.loose = e.loose := by
    intro e
    unfold Dskd.tick
    split
    · split <;> exact ⟨rfl, rfl⟩
    · exact ⟨rfl, rfl⟩
  unfold Dskd.act
  dsimp only
  split
  · split
    · show d.safe.length + d.loose.length ≤ _
      omega
    · show d.safe.length + d.loose.length ≤ _
      omega
  · split
    · show (d.safe ++ crashA a.n a.m 0 d.loose).length + 0 ≤ _
      have := crashA_len (keep := a.n) (torn := a.m) d.loose 0
      rw [List.length_append]
      omega
    · split
      · show d.safe.length + d.loose.length ≤ _
        omega
      · split
        · show d.safe.length + d.loose.length ≤ _
          omega
        · split
          · have h := ht { d with safe := d.safe ++ d.loose, loose := [] }
            show (Dskd.tick _).safe.length + (Dskd.tick _).loose.length ≤ _
            rw [h.1, h.2]
            show (d.safe ++ d.loose).length + 0 ≤ _
            rw [List.length_append]
            omega
          · have h := ht { d with loose := d.loose ++ [{ a with kind := UInt8.ofNat (a.kind.toNat % 6) }] }
            show (Dskd.tick _).safe.length + (Dskd.tick _).loose.length ≤ _
            rw [h.1, h.2]
            show d.safe.length + (d.loose ++ [_]).length ≤ _
            simp only [List.length_append, List.length_cons, List.length_nil]
            omega
theorem Sim.leftin {s : Dsk} {d : Dskd} {w : World} {B g : Nat} {F : Nat → Prop} (h : Sim s d) (hd : Disk w B g s F) (ha : d.armed = true) : I64 (d.left - 1) := by
  obtain ⟨_, _, _, _, _, h1, _⟩ := hd
  have h2 := h1.lf
  have h3 := h.left ha
  unfold I64
  omega
/-- behind a change of the program's disk -/
theorem lies_turn {d : Dskd} {w w' : World} {B : Nat} {gd : Nat} {F F' : Nat → Prop} {sv lv : Value} (h : d.liesIn w B (fun k => ¬ F k ∧ k ≠ gd) sv lv) (hf : ∀ k, F' k → F k ∨ w.heap.size ≤ k) (hb : Below B w w') (hk : ∀ k, k < w.heap.size → ¬ F k → w'.heap[k]? = w.heap[k]?) : d.liesIn w' B (fun k => ¬ F' k ∧ k ≠ gd) sv lv := by
  have key : ∀ {v : Value} {l : List Actd}, ActsIn w B (fun k => ¬ F k ∧ k ≠ gd) v l → ActsIn w' B (fun k => ¬ F' k ∧ k ≠ gd) v l := fun {v l} q =>
    (q.imp (Y := fun k => (¬ F k ∧ k ≠ gd) ∧ k < w.heap.size) (fun _ a b => ⟨a, b⟩)).kept hb (fun k a b => hk k b a.1.1) |>.imp fun k a _ => ⟨fun hF => (hf k hF).elim a.1.1 (fun c => by omega), a.1.2⟩
  exact ⟨key h.1, key h.2⟩
/-- what a play of one act more comes to, once the document's disk is in its variable again -/
theorem both_next {B g gd : Nat} {wx wy : World} {s : Dsk} {F : Nat → Prop} {d : Dskd} {sv lv p q r t u : Value} (hd : Disk wx B g s F) (hbx : BoxF gd [p, q, r, t, u] wx) (hF : ¬ F gd) (hl : d.liesIn wx B (fun k => ¬ F k ∧ k ≠ gd) sv lv) (hB : B ≤ gd)
    (hw : wy = put5 wx gd sv lv (.int .i64 d.left) (.bool d.armed) (.bool d.down)) : Disk wy B g s F ∧ BoxF gd (d.cells sv lv) wy ∧ d.liesIn wy B (fun k => ¬ F k ∧ k ≠ gd) sv lv ∧ Below B wx wy := by
  subst hw
  have hs := put5_size wx gd sv lv (.int .i64 d.left) (.bool d.armed) (.bool d.down)
  have ho : ∀ k, k ≠ gd → (put5 wx gd sv lv (.int .i64 d.left) (.bool d.armed) (.bool d.down)).heap[k]? = wx.heap[k]? := fun k hk => put5_other _ _ _ _ _ _ _ k hk
  have hb : Below B wx (put5 wx gd sv lv (.int .i64 d.left) (.bool d.armed) (.bool d.down)) := put5_below wx hB _ _ _ _ _
  exact ⟨hd.kept (fun k hk => ho k (fun e => hF (by rw [← e]; exact hk))) (by omega), put5_box hbx _ _ _ _ _, ⟨hl.1.kept hb (fun k a _ => ho k a.2), hl.2.kept hb (fun k a _ => ho k a.2)⟩, hb⟩

theorem lies_put5 {w5 w6 : World} {B : Nat} {Y : Nat → Prop} {v : Value} {l : List Actd} {o : Obj} (h : ActsIn w6 B (fun b => (Y b ∧ b < w5.heap.size) ∨ (w5.alloc o).drew.heap.size ≤ b) v l) (h5 : B ≤ w5.heap.size) (p q r t u : Value) : ActsIn (put5 w6 w5.heap.size p q r t u) B (fun b => Y b ∨ w5.heap.size ≤ b) v l := by
  have hs : (w5.alloc o).drew.heap.size = w5.heap.size + 1 := by show (w5.alloc o).heap.size = _; simp
  refine (h.kept (put5_below w6 h5 p q r t u) (fun b k _ => put5_other w6 w5.heap.size p q r t u b ?_)).imp (fun b k _ => ?_)
  · rcases k with k | k
    · omega
    · omega
  · rcases k with k | k
    · exact .inl k.1
    · exact .inr (by omega)
/-- a disk of the document's, behind what turns nothing -/
theorem lies_on {w w' : World} {B g gd : Nat} {s : Dsk} {F : Nat → Prop} {v : Value} {l : List Actd} (h : ActsIn w B (fun k => ¬ F k ∧ k ≠ gd) v l) (hd : Disk w B g s F) (hg : gd < w.heap.size) (h0 : B ≤ w.heap.size) (hb : Below w.heap.size w w') : ActsIn w' B (fun k => ¬ F k ∧ k ≠ gd) v l :=
  (h.on h0 hb).imp fun b q _ => q.elim id fun k => ⟨fun hF => by have := (hd.less b hF).2; omega, by omega⟩
set_option maxRecDepth 100000 in
set_option maxHeartbeats 4000000 in
theorem acts_walk (v : Value) (l : List Actd) (w : World) (hv : ActsAt w w.heap.size v l) (hf : ∀ a ∈ l, a.fits) :
    Calls Try.prog 3 #[v] w fun e w' => e = .returned (.bool true) ∧ Below w.heap.size w w' := by
  have HV := Lib.hid hv
  obtain ⟨A, c, rfl, _⟩ := hv.len
  clear hv
  by_cases hfew : fewA l = true
  · obtain ⟨h40, h200⟩ := fewA_small hfew
    have HR := Lib.hid (few_right hfew (fun a ha => .inr (hf a ha)))
    have H200 := Lib.hid h200
    clear hf h200
    go_enter Try.func3, Try.ntmps3
    go_wp2_with fail
    go_at_call 8
    refine (awake_any w).mono ?_
    rintro e w1 ⟨rfl, b1⟩
    have hv1 := HV.out.on b1
    go_wp2_with fail
    go_at_call 9
    refine (few_any w1 _ _ l hv1 (Nat.le_refl _)).mono ?_
    rintro e w2 ⟨rfl, b2⟩
    have b02 := bt b1 b2
    rw [hfew]
    clear hv1 b1 b2
    go_wp2_with fail
    go_at_call 10
    refine (new_any w2 w.heap.size b02.size).mono ?_
    rintro e w3 ⟨rfl, hd3, b3⟩
    have b03 := bt b02 b3
    have hg3 := hd3.less w2.heap.size rfl
    generalize hF : (fun x => x = w2.heap.size) = F3 at hd3
    clear hF b3 b02
    generalize w2.heap.size = g at hd3 hg3 ⊢
    obtain ⟨gd, hgd⟩ : ∃ x, x = w3.heap.size := ⟨_, rfl⟩
    have hal := bal w3 (.cells #[.slice none 0 0, .slice none 0 0, .int .i64 0, .bool false, .bool false] 28)
    have HGB : Hid (w.heap.size ≤ gd) := by show _ ≤ _; rw [hgd]; exact b03.size
    have HK0 : Hid (Both w.heap.size g gd 0 0 (w3.alloc (.cells #[.slice none 0 0, .slice none 0 0, .int .i64 0, .bool false, .bool false] 28))) :=
      ⟨Dsk.fresh, F3, ⟨[], [], 0, false, false⟩, .slice none 0 0, .slice none 0 0, hd3.on hal, sim_fresh, by rw [hgd]; exact boxF_made w3 _ _, fun hF => by have := (hd3.less gd hF).2; omega, ⟨ActsIn.nil, ActsIn.nil⟩, Nat.le_refl _, Nat.le_refl _⟩
    have HB3 : Hid (Below w.heap.size w (w3.alloc (.cells #[.slice none 0 0, .slice none 0 0, .int .i64 0, .bool false, .bool false] 28))) := bt b03 hal
    have HGD := Lib.hid hgd
    clear hd3 b03 hfew hal hg3 hgd
    go_wp2
    rw [← HGD.out]
    clear HGD
    go_loopw [5] (fun i wr => ∃ k : Nat, k ≤ l.length ∧ i = .int .i64 (k : Int) ∧ Both w.heap.size g gd (201 * k) k wr ∧ Below w.heap.size w wr) (fun i _ => l.length - (intOf i).toNat)
    case atStart => exact ⟨0, Nat.zero_le _, rfl, HK0.out, HB3.out⟩
    case round =>
      obtain ⟨k, hk, rfl, ⟨s, F, d, sv, lv, hd, hsim, hbx, hF, hl, hm, hn⟩, hb⟩ := hrel
      by_cases hlt : k < l.length
      · obtain ⟨b, off, vb, rfl, hbw, hbB, hsb, c0, c1, c2, c3, c4⟩ := (HV.out.below hb).at_ k hlt
        have hmem := List.getElem_mem hlt
        have ha2 := H200.out _ hmem
        have har := HR.out _ hmem
        obtain ⟨a, hae⟩ : ∃ a, a = l[k] := ⟨_, rfl⟩
        rw [← hae] at c0 c1 c3 c4 hsb ha2 har
        have HCL : Hid (∀ W, Below w.heap.size wr W → W.cell? ⟨b, off + k * 5, none⟩ = some (.int .u8 (a.kind.toNat : Int)) ∧ W.cell? ⟨b, off + k * 5 + 1, none⟩ = some (.int .i64 a.area) ∧ W.cell? ⟨b, off + k * 5 + 2, none⟩ = some vb ∧ W.cell? ⟨b, off + k * 5 + 3, none⟩ = some (.int .i64 a.n) ∧ W.cell? ⟨b, off + k * 5 + 4, none⟩ = some (.int .i64 a.m)) := fun W hW =>
          ⟨(World.cell?_of_block (a := ⟨b, off + k * 5, none⟩) (hW.block b hbB)).trans c0, (World.cell?_of_block (a := ⟨b, off + k * 5 + 1, none⟩) (hW.block b hbB)).trans c1, (World.cell?_of_block (a := ⟨b, off + k * 5 + 2, none⟩) (hW.block b hbB)).trans c2, (World.cell?_of_block (a := ⟨b, off + k * 5 + 3, none⟩) (hW.block b hbB)).trans c3, (World.cell?_of_block (a := ⟨b, off + k * 5 + 4, none⟩) (hW.block b hbB)).trans c4⟩
        have RP := Lib.hid (play_any a vb wr w.heap.size g s F hd hsb.full har (by omega))
        have hmn := act_mass s a
        have hnn := act_len d a
        have i0 : (0 : Int) ≤ (k : Int) := by omega
        have i1 : (k : Int) < (l.length : Int) := by omega
        have HSB := Lib.hid hsb
        obtain ⟨Ab, cb, hvb, _⟩ := hsb
        subst hvb
        have HB := Lib.hid hb
        have HM : Hid ((s.act a).1.mass ≤ 201 * (k + 1)) := by show _ ≤ _; omega
        have HN : Hid ((d.act a).1.safe.length + (d.act a).1.loose.length ≤ k + 1) := by show _ ≤ _; omega
        have HND : Hid (d.safe.length + d.loose.length ≤ 100000) := by show _ ≤ _; omega
        have HSA := Lib.hid (sim_act hsim a har)
        have HLF : Hid (d.armed = true → I64 (d.left - 1)) := fun q => hsim.leftin hd q
        clear hae hd hb hmem ha2 hmn hnn hm hn hsim har
        go_wp2_with fail
        go_at_call 11
        refine (RP.out).mono ?_
        rintro e w5 ⟨rfl, F5, hd5, hf5, hb5, hk5⟩
        have hbx5 := hbx.kept (hk5 gd hbx.1 hF) hb5.size
        have hF5 : ¬ F5 gd := fun q => (hf5 gd q).elim hF (fun h => by have := hbx.1; omega)
        have hl5 := lies_turn hl hf5 hb5 hk5
        have hB5 : w.heap.size ≤ w5.heap.size := Nat.le_trans HB.out.size hb5.size
        have RDO : Hid (∀ W, Below w5.heap.size w5 W → Calls Try.prog 12 #[.agg #[sv, lv, .int .i64 d.left, .bool d.armed, .bool d.down], .agg #[.int .u8 (a.kind.toNat : Int), .int .i64 a.area, .slice Ab a.b.length cb, .int .i64 a.n, .int .i64 a.m]] W (Done7 w.heap.size (fun b => (¬ F5 b ∧ b ≠ gd) ∧ b < w5.heap.size) W (d.act a).1 (d.act a).2)) := fun W hW =>
          docs_any d a sv lv _ W w.heap.size _ (Nat.le_trans hB5 hW.size) ⟨(hl5.1.imp (fun _ q r => And.intro q r)).below hW hB5 (fun _ _ q => q), (hl5.2.imp (fun _ q r => And.intro q r)).below hW hB5 (fun _ _ q => q)⟩ ((HSB.out.below hb5).below (hW.mono hB5)) HLF.out HND.out
        have HS : Hid (∀ W, Below w5.heap.size w5 W → (W.cell? ⟨gd, 0, none⟩ = some sv ∧ W.cell? ⟨gd, 1, none⟩ = some lv ∧ W.cell? ⟨gd, 2, none⟩ = some (.int .i64 d.left) ∧ W.cell? ⟨gd, 3, none⟩ = some (.bool d.armed) ∧ W.cell? ⟨gd, 4, none⟩ = some (.bool d.down)) ∧ W.cell? ⟨b, off + k * 5, none⟩ = some (.int .u8 (a.kind.toNat : Int)) ∧ W.cell? ⟨b, off + k * 5 + 1, none⟩ = some (.int .i64 a.area) ∧ W.cell? ⟨b, off + k * 5 + 2, none⟩ = some (.slice Ab a.b.length cb) ∧ W.cell? ⟨b, off + k * 5 + 3, none⟩ = some (.int .i64 a.n) ∧ W.cell? ⟨b, off + k * 5 + 4, none⟩ = some (.int .i64 a.m)) := fun W hW => by
          have h := hbx5.on hW
          exact ⟨⟨h.get 0 rfl, h.get 1 rfl, h.get 2 rfl, h.get 3 rfl, h.get 4 rfl⟩, HCL.out W (hb5.trans (hW.mono hB5))⟩
        have HD5 := Lib.hid hd5
        have HX5 := Lib.hid hbx5
        have HF5 := Lib.hid hF5
        have HL5 := Lib.hid hl5
        have HB5 : Hid (Below w.heap.size w w5) := HB.out.trans hb5
        obtain ⟨As, ns, zs, hvs⟩ := acts_slice hl5.1
        obtain ⟨Al, nl, zl, hvl⟩ := acts_slice hl5.2
        subst hvs hvl
        obtain ⟨d', hd'⟩ : ∃ x, x = (d.act a).1 := ⟨_, rfl⟩
        obtain ⟨why, hwhy⟩ : ∃ x, x = (d.act a).2 := ⟨_, rfl⟩
        rw [← hd'] at RDO HN HSA
        rw [← hwhy] at RDO HSA
        have hw2 : (s.act a).2 = why := HSA.out.2
        rw [hw2]
        have HZ5 := Lib.hid ((boxF_made w5 [.slice none 0 0, .slice none 0 0, .int .i64 0, .bool false, .bool false] 28).on (Below.refl _ _).drew)
        have E1 : Below w5.heap.size w5 w5.drew := (Below.refl _ _).drew
        have E2 : Below w5.heap.size w5 (w5.alloc (.cells #[.slice none 0 0, .slice none 0 0, .int .i64 0, .bool false, .bool false] 28)).drew := (bal _ _).drew
        clear hd5 hf5 hb5 hk5 RP c0 c1 c2 c3 c4 hbx hF hl hbx5 hF5 hl5 hd' hwhy hw2 hbB hbw
        go_wp2
        go_cut [7, 8] from 19 to 49 (fun s7 s8 wx => ∃ gx sv' lv', s7 = .pointer (some ⟨gx, 0, none⟩) ∧ s8 = .int .i64 why ∧ Box gx (d'.cells sv' lv') wx ∧ d'.liesIn wx w.heap.size (fun b => (¬ F5 b ∧ b ≠ gd) ∨ w5.heap.size ≤ b) sv' lv' ∧ Below w5.heap.size w5 wx)
        case first =>
          first | (go_region_held3 (fun W => (W.cell? ⟨gd, 0, none⟩ = some (.slice As ns zs) ∧ W.cell? ⟨gd, 1, none⟩ = some (.slice Al nl zl) ∧ W.cell? ⟨gd, 2, none⟩ = some (.int .i64 d.left) ∧ W.cell? ⟨gd, 3, none⟩ = some (.bool d.armed) ∧ W.cell? ⟨gd, 4, none⟩ = some (.bool d.down)) ∧ W.cell? ⟨b, off + k * 5, none⟩ = some (.int .u8 (a.kind.toNat : Int)) ∧ W.cell? ⟨b, off + k * 5 + 1, none⟩ = some (.int .i64 a.area) ∧ W.cell? ⟨b, off + k * 5 + 2, none⟩ = some (.slice Ab a.b.length cb) ∧ W.cell? ⟨b, off + k * 5 + 3, none⟩ = some (.int .i64 a.n) ∧ W.cell? ⟨b, off + k * 5 + 4, none⟩ = some (.int .i64 a.m)) (first | with_reducible exact HS.out _ E1 | with_reducible exact HS.out _ E2 | with_reducible exact HS.out _ E6 | with_reducible exact HS.out _ A6 | with_reducible exact HS.out _ (bt E6 (bal _ _)) | with_reducible exact P6) (first
            | (go_at_call 12; (with_reducible refine (RDO.out _ (by first | exact E1 | exact E2)).mono ?_); rintro e w6 ⟨sv', lv', rfl, hl6, hb6⟩; have E6 : Below w5.heap.size w5 w6 := (by first | exact bt E1 hb6 | exact bt E2 hb6); obtain ⟨As', ns', zs', hvs'⟩ := acts_slice hl6.1; obtain ⟨Al', nl', zl', hvl'⟩ := acts_slice hl6.2; subst hvs' hvl'; have A6 := bt E6 (bal w6 (.cells #[.slice none 0 0, .slice none 0 0, .int .i64 0, .bool false, .bool false] 28)); have P6 := HS.out _ (E6.trans (put5_below w6 (Nat.le_refl _) (.slice As' ns' zs') (.slice Al' nl' zl') (.int .i64 d'.left) (.bool d'.armed) (.bool d'.down))); unfold put5 at P6; have HL6 := Lib.hid hl6; have HS6 : Hid (w.heap.size ≤ w6.heap.size) := (by first | exact Nat.le_trans HB5.out.size (Nat.le_trans E1.size hb6.size) | exact Nat.le_trans HB5.out.size (Nat.le_trans E2.size hb6.size)); clear hl6; (first | (have hz6 := HZ5.out.on hb6; have z0 := hz6.2 0 (by simp); have z1 := hz6.2 1 (by simp); have z2 := hz6.2 2 (by simp); have z3 := hz6.2 3 (by simp); have z4 := hz6.2 4 (by simp)) | skip)))) | fail
          all_goals go_wp2_with fail
          all_goals go_meet
          all_goals first
            | exact ⟨_, _, _, rfl, rfl, box_made w6 [.slice As' ns' zs', .slice Al' nl' zl', .int .i64 d'.left, .bool d'.armed, .bool d'.down] _, ⟨(HL6.out.1.below (bal w6 _) HS6.out (fun _ _ q => q)).imp (fun _ q _ => q.imp And.left (fun h => h)), (HL6.out.2.below (bal w6 _) HS6.out (fun _ _ q => q)).imp (fun _ q _ => q.imp And.left (fun h => h))⟩, bt E6 (bal _ _)⟩
            | exact ⟨_, _, _, rfl, rfl, (put5_box hz6 _ _ _ _ _).box, ⟨lies_put5 HL6.out.1 HB5.out.size _ _ _ _ _, lies_put5 HL6.out.2 HB5.out.size _ _ _ _ _⟩, E6.trans (put5_below w6 (Nat.le_refl _) _ _ _ _ _)⟩
        case rest =>
          obtain ⟨gx, sv', lv', rfl, rfl, hxb, hlx, hbx⟩ := hcut
          obtain ⟨As', ns', zs', hvs'⟩ := acts_slice hlx.1
          obtain ⟨Al', nl', zl', hvl'⟩ := acts_slice hlx.2
          subst hvs' hvl'
          have x0 := hxb.get 0 rfl
          have x1 := hxb.get 1 rfl
          have x2 := hxb.get 2 rfl
          have x3 := hxb.get 3 rfl
          have x4 := hxb.get 4 rfl
          have hgc := HX5.out.on hbx
          have u0 := hgc.2 0 (by simp [Dskd.cells])
          have u1 := hgc.2 1 (by simp [Dskd.cells])
          have u2 := hgc.2 2 (by simp [Dskd.cells])
          have u3 := hgc.2 3 (by simp [Dskd.cells])
          have u4 := hgc.2 4 (by simp [Dskd.cells])
          have hlc : d'.liesIn wc w.heap.size (fun k => ¬ F5 k ∧ k ≠ gd) (.slice As' ns' zs') (.slice Al' nl' zl') := by
            have key : ∀ b, (¬ F5 b ∧ b ≠ gd) ∨ w5.heap.size ≤ b → ¬ F5 b ∧ b ≠ gd := fun b q => q.elim id (fun h => ⟨fun hF => by have := (HD5.out.less b hF).2; omega, by have := HX5.out.1; omega⟩)
            exact ⟨hlx.1.imp (fun b q _ => key b q), hlx.2.imp (fun b q _ => key b q)⟩
          have hNX := Lib.hid (both_next (HD5.out.on hbx) hgc HF5.out hlc HGB.out rfl)
          have HBC : Hid (Below w.heap.size w wc) := HB5.out.trans (hbx.mono HB5.out.size)
          clear hxb hlx hbx hgc hlc
          go_wp2_with fail
          go_at_call 13
          have hsz : w.heap.size ≤ (put5 wc gd (.slice As' ns' zs') (.slice Al' nl' zl') (.int .i64 d'.left) (.bool d'.armed) (.bool d'.down)).heap.size := Nat.le_trans HBC.out.size hNX.out.2.2.2.size
          refine (shows_any d' _ HSA.out.1 _ _ _ w.heap.size g F5 hNX.out.1 (hNX.out.2.2.1.acts hsz) (by have := HM.out; omega) (by have := HN.out; omega)).mono ?_
          rintro e w7 ⟨rfl, b7⟩
          have HBT : Hid (Both w.heap.size g gd (201 * (k + 1)) (k + 1) w7) :=
            ⟨_, F5, d', _, _, hNX.out.1.on b7, HSA.out.1, hNX.out.2.1.on b7, HF5.out, ⟨lies_on hNX.out.2.2.1.1 hNX.out.1 hNX.out.2.1.1 hsz b7, lies_on hNX.out.2.2.1.2 hNX.out.1 hNX.out.2.1.1 hsz b7⟩, HM.out, HN.out⟩
          have HB7 : Hid (Below w.heap.size w w7) := (HBC.out.trans hNX.out.2.2.2).trans (b7.mono hsz)
          clear b7 hsz x0 x1 x2 x3 x4 u0 u1 u2 u3 u4
          go_wp2
          go_roundw
          case rel => exact ⟨k + 1, by omega, by go_num, HBT.out, HB7.out⟩
          case measure => simp [intOf]; omega
      · obtain ⟨Al, nl, zl, hvl⟩ := acts_slice hl.2
        obtain ⟨As, ns, zs, hvs⟩ := acts_slice hl.1
        have x0 := hbx.get 0 rfl
        have x1 := hbx.get 1 rfl
        have x2 := hbx.get 2 rfl
        have x3 := hbx.get 3 rfl
        have x4 := hbx.get 4 rfl
        have HSH := Lib.hid (shows_any d s hsim sv lv wr w.heap.size g F hd (hl.acts hb.size) (by omega) (by omega))
        subst hvs hvl
        have HBR := Lib.hid hb
        clear hd hsim hbx hF hl hm hn hb
        go_wp2_with fail
        go_at_call 13
        refine (HSH.out).mono ?_
        rintro e w7 ⟨rfl, b7⟩
        go_wp2
        go_ret
        exact ⟨rfl, HBR.out.trans (b7.mono HBR.out.size)⟩
  · have hfew' : fewA l = false := by simpa using hfew
    go_enter Try.func3, Try.ntmps3
    go_wp2_with fail
    go_at_call 8
    refine (awake_any w).mono ?_
    rintro e w1 ⟨rfl, b1⟩
    go_wp2_with fail
    go_at_call 9
    refine (few_any w1 _ _ l (HV.out.on b1) (Nat.le_refl _)).mono ?_
    rintro e w2 ⟨rfl, b2⟩
    rw [hfew']
    go_wp2_with fail
    go_at_call 8
    refine (awake_any w2).mono ?_
    rintro e w3 ⟨rfl, b3⟩
    go_wp2
    go_ret
    exact ⟨rfl, bt (bt b1 b2) b3⟩

end Go.Proofs.Ytcdobelhchlheaa
