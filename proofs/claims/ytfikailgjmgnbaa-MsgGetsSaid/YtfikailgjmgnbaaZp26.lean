/-
  The example of messages holds: the walk (made by msg-awake-walk-gen.py).
  MsgGets, of every input.
  The last step of a law whose call makes memory of its own: nothing that was there has turned; and a slice of bytes that came in, as it is seen.
-/
import Derived.Test.YtfikailgjmgnbaaZp19
import Derived.Test.YtfikailgjmgnbaaZp20
import Derived.Test.YtfikailgjmgnbaaZp25
import Derived.Test.YtfikailgjmgnbaaRows
import Derived.Test.YtfikailgjmgnbaaZp01
import Derived.Below
import Derived.ChangeSame
import Derived.ProofKit
import Derived.OpenShut
import Derived.ChangeSlices

namespace Go.Proofs.Ytfikailgjmgnbaa
open Go.RowKit Flo
attribute [local go_sem ↓] Go.wp_at_zero Go.wp_at_succ
attribute [local go_sem ↓] to_msgLoad to_msgStore
attribute [local go_sem] run_msgLoad run_msgStore

theorem five_seen (w : World) : Seen (w.alloc (.cells #[.int .u8 6, .int .u8 200, .int .u8 1, .int .u8 2, .int .u8 0] 5)) (w.alloc (.cells #[.int .u8 6, .int .u8 200, .int .u8 1, .int .u8 2, .int .u8 0] 5)).heap.size (.slice (some ⟨w.heap.size, 0, none⟩) 5 5) [6, 200, 1, 2, 0] :=
  (Room.made w [6, 200, 1, 2, 0] 5 (by decide)).seen
theorem five_seen' (w : World) (o : Obj) : Seen ((w.alloc o).alloc (.cells #[.int .u8 6, .int .u8 200, .int .u8 1, .int .u8 2, .int .u8 0] 5)) ((w.alloc o).alloc (.cells #[.int .u8 6, .int .u8 200, .int .u8 1, .int .u8 2, .int .u8 0] 5)).heap.size (.slice (some ⟨w.heap.size + 1, 0, none⟩) 5 5) [6, 200, 1, 2, 0] := by
  have := five_seen (w.alloc o)
  rw [show (w.alloc o).heap.size = w.heap.size + 1 by simp] at this
  exact this
theorem take5 {w : World} {B : Nat} {A : Option Addr} {c : Nat} (h : Seen w B (.slice A 36 c) amsg.bytes) : Seen w B (.slice A 5 c) [6, 200, 1, 2, 0] := by
  obtain ⟨A', c', e, h1, h2, h3⟩ := h
  injection e with e1 _ e3
  subst e1 e3
  have hl : amsg.bytes.length = 36 := by rw [amsg_bytes]; rfl
  have ht : amsg.bytes.take 5 = [6, 200, 1, 2, 0] := by rw [amsg_bytes]; rfl
  refine ⟨_, c, rfl, by show 5 ≤ c; omega, h2, .inr ?_⟩
  rcases h3 with h3 | ⟨b, off, rfl, hb, hw, hr⟩
  · rw [h3] at hl; cases hl
  · have := hr.take 5
    rw [ht] at this
    exact ⟨b, off, rfl, hb, hw, this⟩

def Two (W : World) (g : Nat) : Prop := g < W.heap.size ∧ W.cell? ⟨g, 0, none⟩ = some (.int .i64 3) ∧ W.cell? ⟨g, 1, none⟩ = some (.int .i64 100)
theorem on_two {W W' : World} {g : Nat} (hb : Below W.heap.size W W') (h : Two W g) : Two W' g :=
  ⟨Nat.lt_of_lt_of_le h.1 hb.size, (World.cell?_of_block (a := ⟨g, 0, none⟩) (hb.block _ h.1)).trans h.2.1, (World.cell?_of_block (a := ⟨g, 1, none⟩) (hb.block _ h.1)).trans h.2.2⟩
theorem kept_two {W W' : World} {v : Value} {g : Nat} (hk : ∀ k, k < W.heap.size → v.ownBlock ≠ some k → W'.heap[k]? = W.heap[k]?) (hs : W.heap.size ≤ W'.heap.size) (h : Two W g) (hv : ∀ x, v.ownBlock = some x → x < g) : Two W' g := by
  have e := hk g h.1 (fun e => by have := hv g e; omega)
  exact ⟨Nat.lt_of_lt_of_le h.1 hs, (World.cell?_of_block (a := ⟨g, 0, none⟩) e).trans h.2.1, (World.cell?_of_block (a := ⟨g, 1, none⟩) e).trans h.2.2⟩
theorem stay_more {W w3 : World} {B : Nat} {v v3 : Value} {l m : List UInt8} (h : Stay W v l v W) (hr : Room W B v l) (hr3 : Room w3 B v3 (l ++ m)) (hs : W.heap.size ≤ w3.heap.size) (hk : ∀ k, k < W.heap.size → v.ownBlock ≠ some k → w3.heap[k]? = W.heap[k]?) (hg : Grown W w3 v v3) (hv : ∀ g, v.ownBlock = some g → g < W.heap.size) : Seen w3 w3.heap.size v l :=
  (h.step (m := []) (by rw [List.append_nil]; exact hr) (Nat.le_refl _) hs hv hk hg).seen hr3

set_option maxRecDepth 100000 in
set_option maxHeartbeats 1000000 in
theorem awake_of (PU : PutOk) (GE : GetOk) : AwakeOk := by
  intro w
  obtain ⟨i0, hi0, hz0, hz1, hz2⟩ := info_parts byte_info
  have T1 : Hid (∀ W, Calls Try.prog 14 #[.agg #[.int .i64 3, .int .i64 100, .int .i64 1, .int .i64 0, .int .i64 0, .int .i64 0, .int .i64 0, .int .i64 0, .int .i64 0, .int .i64 0, .int .i64 0, .int .i64 0, .bool false, .bool false, .string ⟨#[]⟩, .string ⟨#[]⟩, .complex .f64 0 0, .complex .f64 0 0, .int .i64 0, .string ⟨#[]⟩, .string ⟨#[]⟩, .string ⟨#[]⟩, .bool false, .slice none 0 0, .slice none 0 0, .slice none 0 0, .complex .f64 0 0, .complex .f64 0 0, .int .i64 0, .slice none 0 0, .slice none 0 0]] W fun e w' => ∃ A c, 36 ≤ c ∧ c ≤ maxLen ∧ e = .returned (.slice A 36 c) ∧ Room w' W.heap.size (.slice A 36 c) amsg.bytes ∧ Below W.heap.size W w') := fun W => (amsg_put PU W).mono fun e w' ⟨v, he, hr, hb⟩ => by
    have hl : amsg.bytes.length = 36 := by rw [amsg_bytes]; rfl
    obtain ⟨A, c, rfl, h1, h2, _⟩ := hr.cut
    rw [hl] at he hr h1
    exact ⟨A, c, h1, h2, he, hr, hb⟩
  have T2 := Lib.hid (fun W v (h : Seen W W.heap.size v amsg.bytes) => amsg_get GE W v h)
  have T3 := Lib.hid (fun W v (h : Seen W W.heap.size v (amsg.bytes ++ [0])) => amsg_more GE W v h)
  have P1 : amsg.bytes.length + 1 ≤ 1099511627776 := by rw [amsg_bytes]; decide
  have k0 := zrow_ones
  clear PU GE
  go_enter Try.func5, Try.ntmps5
  go_wp2_with fail
  (go_at_call 14; refine (T1.out _).mono ?_; rintro e w1 ⟨A1, c1, h1, h2, rfl, hr1, hb1⟩)
  go_wp2_with fail
  go_at_call 6
  refine (T2.out _ _ hr1.seen).mono ?_
  rintro e w2 ⟨hb2, cs, hcs, rfl, hcell⟩
  have hbal := bal w2 (.cells cs 35)
  have hx2 : Below w.heap.size w (w2.alloc (.cells cs 35)) := hb1.trans ((bt hb2 hbal).mono hb1.size)
  have HC : Hid (∀ W, Below (w2.alloc (.cells cs 35)).heap.size (w2.alloc (.cells cs 35)) W → W.cell? ⟨w2.heap.size, 0, none⟩ = some (.int .i64 3) ∧ W.cell? ⟨w2.heap.size, 1, none⟩ = some (.int .i64 100)) := by
    have HH := held_made w2 cs.toList 35
    rw [Array.toArray_toList] at HH
    have hl : cs.toList.length = 31 := by simpa using hcs.1
    intro W hW
    obtain ⟨q0, q1⟩ := hcell _ _ (HH.wh hl) (by rw [HH.whole hl])
    exact ⟨(World.cell?_of_block (a := ⟨w2.heap.size, 0, none⟩) (hW.block _ HH.1)).trans q0, (World.cell?_of_block (a := ⟨w2.heap.size, 1, none⟩) (hW.block _ HH.1)).trans q1⟩
  have Q0 : Two (w2.alloc (.cells cs 35)) w2.heap.size := ⟨by simp, (HC.out _ (Below.refl _ _)).1, (HC.out _ (Below.refl _ _)).2⟩
  have hrr := (hr1.on (bt hb2 hbal)).al (.cells #[.int .u8 0] 5)
  have S1 : Hid (Src Try.prog 1 22 (.slice (some ⟨w2.heap.size + 1, 0, none⟩) 1 1) [(0 : UInt8)].length (c8 [0]) ((w2.alloc (.cells cs 35)).alloc (.cells #[.int .u8 0] 5))) := by
    have := src_one (P := Try.prog) (w2.alloc (.cells cs 35)) 0 Try.underlying22
    rw [show (w2.alloc (.cells cs 35)).heap.size = w2.heap.size + 1 by simp] at this
    exact this
  have zB : w.heap.size ≤ ((w2.alloc (.cells cs 35)).alloc (.cells #[.int .u8 0] 5)).heap.size := Nat.le_trans hx2.size (bal _ _).size
  have hown := hr1.own_lt
  have zz := hb2.size
  have hst := Stay.start hrr
  have h5 : (5 : Int) ≤ (c1 : Int) := by omega
  have hL37 : (amsg.bytes ++ [0]).length = 37 := by rw [amsg_bytes]; rfl
  clear HC
  go_wp2_with (first
    | (at_builtin; refine wpList_append8o (B := w.heap.size) (l := amsg.bytes) (m := [0]) rfl (.tmp 14) (.tmp 15) 22 22 rfl 5 i0 Try.underlying22 hi0 hz0 hz1 hz2 hrr zB S1.out P1 rfl rfl ?_; intro v3 w3 hr3 hb3 ho3 hk3 hg3; have hs1 := stay_more hst hrr hr3 hb3.size hk3 hg3 (fun g hg => by have := hown g hg; have := (bal w2 (.cells cs 35)).size; have := (bal (w2.alloc (.cells cs 35)) (.cells #[.int .u8 0] 5)).size; omega); have Q3 := kept_two hk3 hb3.size (on_two (bal _ (.cells #[.int .u8 0] 5)) Q0) (fun g hg => by have := hown g hg; omega); have S3 := hr3.seen; obtain ⟨A3, c3, rfl, _⟩ := hr3.cut; rw [hL37] at S3 ⊢; have hx3 : Below w.heap.size w w3 := (hx2.trans ((bal _ (.cells #[.int .u8 0] 5)).mono hx2.size)).trans hb3)
    | (go_at_call 6; refine (T3.out _ _ S3).mono ?_; rintro e w4 ⟨rfl, hb4⟩; have F1 := Lib.hid (take5 ((hs1.on (bt hb4 (bal w4 (.cells #[.int .i64 0, .int .i64 0, .int .i64 0, .int .i64 0, .int .i64 0, .int .i64 0, .int .i64 0, .int .i64 0, .int .i64 0, .int .i64 0, .int .i64 0, .int .i64 0, .bool false, .bool false, .string ⟨#[]⟩, .string ⟨#[]⟩, .complex .f64 0 0, .complex .f64 0 0, .int .i64 0, .string ⟨#[]⟩, .string ⟨#[]⟩, .string ⟨#[]⟩, .bool false, .slice none 0 0, .slice none 0 0, .slice none 0 0, .complex .f64 0 0, .complex .f64 0 0, .int .i64 0, .slice none 0 0, .slice none 0 0] 35)))).al (.cells #[.int .u8 6, .int .u8 200, .int .u8 1, .int .u8 2, .int .u8 0] 5))); have F2 := Lib.hid (five_seen' w4 (.cells #[.int .i64 0, .int .i64 0, .int .i64 0, .int .i64 0, .int .i64 0, .int .i64 0, .int .i64 0, .int .i64 0, .int .i64 0, .int .i64 0, .int .i64 0, .int .i64 0, .bool false, .bool false, .string ⟨#[]⟩, .string ⟨#[]⟩, .complex .f64 0 0, .complex .f64 0 0, .int .i64 0, .string ⟨#[]⟩, .string ⟨#[]⟩, .string ⟨#[]⟩, .bool false, .slice none 0 0, .slice none 0 0, .slice none 0 0, .complex .f64 0 0, .complex .f64 0 0, .int .i64 0, .slice none 0 0, .slice none 0 0] 35)); have hx4 : Below w3.heap.size w3 ((w4.alloc (.cells #[.int .i64 0, .int .i64 0, .int .i64 0, .int .i64 0, .int .i64 0, .int .i64 0, .int .i64 0, .int .i64 0, .int .i64 0, .int .i64 0, .int .i64 0, .int .i64 0, .bool false, .bool false, .string ⟨#[]⟩, .string ⟨#[]⟩, .complex .f64 0 0, .complex .f64 0 0, .int .i64 0, .string ⟨#[]⟩, .string ⟨#[]⟩, .string ⟨#[]⟩, .bool false, .slice none 0 0, .slice none 0 0, .slice none 0 0, .complex .f64 0 0, .complex .f64 0 0, .int .i64 0, .slice none 0 0, .slice none 0 0] 35)).alloc (.cells #[.int .u8 6, .int .u8 200, .int .u8 1, .int .u8 2, .int .u8 0] 5)) := bt hb4 (bt (bal w4 (.cells #[.int .i64 0, .int .i64 0, .int .i64 0, .int .i64 0, .int .i64 0, .int .i64 0, .int .i64 0, .int .i64 0, .int .i64 0, .int .i64 0, .int .i64 0, .int .i64 0, .bool false, .bool false, .string ⟨#[]⟩, .string ⟨#[]⟩, .complex .f64 0 0, .complex .f64 0 0, .int .i64 0, .string ⟨#[]⟩, .string ⟨#[]⟩, .string ⟨#[]⟩, .bool false, .slice none 0 0, .slice none 0 0, .slice none 0 0, .complex .f64 0 0, .complex .f64 0 0, .int .i64 0, .slice none 0 0, .slice none 0 0] 35)) (bal _ _)))
    | (go_at_call 8; (with_reducible refine (same_yes _ F1.out F2.out).mono ?_); rintro e w5 ⟨rfl, hb5⟩; have hx5 : Below w3.heap.size w3 w5 := bt hx4 hb5; obtain ⟨_, q50, q51⟩ := on_two hx5 Q3))
  go_ret
  exact ⟨rfl, hx3.trans (hx5.mono hx3.size)⟩

end Go.Proofs.Ytfikailgjmgnbaa

namespace Go.Proofs.Ytfikailgjmgnbaa
open Go.RowKit Flo

theorem awake_ok : AwakeOk := awake_of put_ok get_ok
theorem gets_all (v : Value) (l : List UInt8) (w : World) (hv : Seen w w.heap.size v l) :
    Calls Try.prog 3 #[v] w fun e w' => e = .returned (.bool true) ∧ Below w.heap.size w w' := gets_law awake_ok get_ok v l w hv

end Go.Proofs.Ytfikailgjmgnbaa

namespace Go.Proofs.Ytfikailgjmgnbaa
open Go.RowKit Go.ChangeShapes Go.WideShapes

/-- For rows that promise nothing of a second reading. -/
theorem post_below {H : Type} {enc : TypeId × Value → H} {P : Program} {f : Func} {s : ChangeSpec} {apart fresh handsOn : Bool} {W W' : World} {args : Array Value} {v : Value} {ds gs : List (DataW H)} {before : List MemPlace}
    (hW : DataW.Whole enc P f.params.toList s.vars apart W args.toList ds gs before) (hb : Below W.heap.size W W')
    (hres : ∀ (b : Nat) (sp : Nat → Bool), DataW.TrodAll enc P W' b sp handsOn f.resultTypes.toList (v.resultList f.resultTypes.size) (s.fn H (ds ++ gs)).results [])
    {pa pv : List MemPlace} (hargs : DataW.TrodAll enc P W' 0 (fun b => decide (b < W.heap.size)) true f.params.toList args.toList (s.fn H (ds ++ gs)).args pa)
    (hvars : DataW.TrodVars enc P W' (fun b => decide (b < W.heap.size)) s.vars (s.fn H (ds ++ gs)).vars pv) :
    s.post enc P f apart fresh handsOn false W args v W' :=
  ⟨ds, gs, before, [], pa, pv, hW, hres _ _, hargs, hvars, hb.frame _, fun h => nomatch h⟩

/-- The bytes whose values these numbers are. -/
def numBytes (zs : List Int) : List UInt8 := zs.map fun z => UInt8.ofNat z.toNat

theorem seen_arg {H : Type} {enc : TypeId × Value → H} {P : Program} {w : World} {base : Nat} {r : Reach} {spare : Nat → Bool} {held : Bool} {t e : TypeId} {v : Value} {d : DataW H} {p : List MemPlace}
    (ht : P.underlying t = some (.slice e)) (he : P.underlying e = some (.int .u8)) (hc : P.cellsOf e = 1) (hv : Value.okWide P w r base t v) (h : DataW.Trod enc P w 0 spare held t v d p) :
    ∃ l : List UInt8, Seen w w.heap.size v l := by
  obtain ⟨a, len, cap, rfl⟩ := okWide_slice ht hv
  obtain ⟨fuel, hf⟩ := h
  rcases open_ints ht he hc hf with ⟨hcs, _⟩ | ⟨x, l, c, zs, hcs, _, hl, hm, hz, _, hcell, hwz⟩
  · simp [Value.cells] at hcs
    obtain ⟨rfl, rfl, rfl⟩ := hcs
    exact ⟨[], Seen.nil⟩
  · simp [Value.cells] at hcs
    obtain ⟨rfl, rfl, rfl⟩ := hcs
    have hzl : len ≤ zs.length := by rw [hz]; split <;> omega
    have hlen : (numBytes (zs.take len)).length = len := by rw [numBytes, List.length_map, List.length_take]; omega
    refine ⟨numBytes (zs.take len), some x, cap, by rw [hlen], by rw [hlen]; exact hl, hm, ?_⟩
    rcases Nat.eq_zero_or_pos len with h0 | h0
    · left
      exact List.eq_nil_of_length_eq_zero (by rw [hlen, h0])
    · right
      obtain ⟨b, off, spot⟩ := x
      have hc0 := hcell 0 (by omega)
      have hspot : spot = none := by simpa [Addr.add] using World.cell?_spot hc0
      subst hspot
      have hb := World.block_lt_of_cell? w _ hc0
      have hb' : b < w.heap.size := by simpa [Addr.add] using hb
      refine ⟨b, off, rfl, hb', hb', fun j hj => ?_⟩
      rw [hlen] at hj
      have hcj := hcell j (by omega)
      rw [Addr.add_lit] at hcj
      rw [hcj]
      have hzj : zs.getD j 0 = zs[j]'(by omega) := by simp [List.getD, List.getElem?_eq_getElem (show j < zs.length by omega)]
      have hw := hwz (zs[j]'(by omega)) (List.getElem_mem _)
      simp [Lit.wf, IntKind.min, IntKind.max, IntKind.signed, IntKind.bits] at hw
      rw [hzj]
      have hg : (numBytes (zs.take len))[j]'(by rw [hlen]; exact hj) = UInt8.ofNat (zs[j]'(by omega)).toNat := by simp only [numBytes, List.getElem_map, List.getElem_take]
      rw [hg, UInt8.toNat_ofNat']
      congr 2
      omega

end Go.Proofs.Ytfikailgjmgnbaa
