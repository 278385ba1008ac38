/-
  What msg.getList comes to, of a list of kind W (made by msg-list-gen.py).
  What a function that reads comes to, of a field of kind G (made by msg-read-gen.py).
  What msg.GetImage and msg.GetViews come to (made by msg-struct-gen.py).
-/
import Derived.Test.YtfikailgjmgnbaaZp16
import Derived.Test.YtfikailgjmgnbaaZp23
import Derived.Test.YtfikailgjmgnbaaZp11
import Derived.Deep.RegionWith
import Derived.Test.YtfikailgjmgnbaaZp21
import Derived.Test.YtfikailgjmgnbaaZp22
import Derived.Deep.RegionHeld3

namespace Go.Proofs.Ytfikailgjmgnbaa
open Go.RowKit Flo
attribute [local go_sem ↓] Go.wp_at_zero Go.wp_at_succ

theorem item_W : (Try.prog.info? 78).map (fun i => (i.zero, i.size, i.bytes)) = some (some (.agg #[.int .i64 0, .int .i64 0, .int .i64 0, .int .i64 0, .slice none 0 0]), 5, 56) := by kernel_rfl
theorem isz_W : (Try.prog.info? 78).map (·.size) = some 5 := by kernel_rfl
theorem iag_W (W : World) : (isAgg 78).run Try.prog W = .ok true W := by simp [isAgg, run_underlying Try.underlying78]
theorem to_liW (X : Value) : Instr.loadAt 78 X = ldT 78 X := rfl
theorem to_siW (X Y : Value) : Instr.storeAt 78 X Y = stT 78 X Y := rfl
theorem to_biW (n : Nat) (ps : Array (Nat × Value)) : Instr.buildSlice 30 n ps = bsT 30 n ps := rfl
theorem run_liW (W : World) (g : Nat) (h : Wh W g 5) : (ldT 78 (.pointer (some ⟨g, 0, none⟩))).run Try.prog W = .ok (.agg (wholeOf W g 5)) W := run_ldT _ 5 isz_W iag_W W g h
theorem run_siW (w : World) (cs : List Value) (hf : Few 5 cs) : (stT 78 (.pointer (some ⟨w.heap.size, 0, none⟩)) (.agg cs.toArray)).run Try.prog (w.alloc (.cells #[.int .i64 0, .int .i64 0, .int .i64 0, .int .i64 0, .slice none 0 0] 78)) = .ok () (w.alloc (.cells cs.toArray 78)) :=
  run_storeAt_new w 78 #[.int .i64 0, .int .i64 0, .int .i64 0, .int .i64 0, .slice none 0 0] cs.toArray (by rw [isz_W, List.size_toArray, hf.1]) (by rw [show cs.toArray.size = 5 by simpa using hf.1]; rfl) (all_oneCell_toArray hf.2)
theorem run_biW (W : World) (cs : List Value) (hf : Few 5 cs) : (bsT 30 1 #[(0, .agg cs.toArray)]).run Try.prog W = .ok (.slice (some ⟨W.heap.size, 0, none⟩) 1 1) (W.alloc (.cells cs.toArray 78)) := by
  obtain ⟨i, hi, hz0, hz1, _⟩ := info_parts item_W
  exact run_bsT _ _ 5 _ i Try.underlying30 hi hz0 hz1 rfl (by decide) (by decide) W cs hf
section
attribute [local go_sem ↓] to_liW to_siW to_biW
attribute [local go_sem] run_liW run_siW run_biW
set_option maxRecDepth 100000 in
set_option maxHeartbeats 1000000 in
theorem nolist_W (w : World) (v u : Value) (p : Nat) (m q : Int) (ok : Bool) (hm : ok = false ∨ m < 0 ∨ 4096 < m) (RG : Hid (Calls Try.prog 56 #[v, .int .i64 (p : Int)] w fun e w' => e = .returned (.tuple #[.int .i64 m, .int .i64 q, .bool ok]) ∧ w = w')) :
    Calls Try.prog 40 #[v, .int .i64 (p : Int), u] w fun e w' => e = .returned (.tuple #[.slice none 0 0, .int .i64 0, .bool false]) ∧ w = w' := by
  by_cases h1 : ok = false
  · subst h1
    go_enter Try.func40, Try.ntmps40
    go_wp2_with (go_at_call 56; (with_reducible refine RG.out.mono ?_); rintro e w1 ⟨rfl, rfl⟩)
    go_ret3
    exact ⟨rfl, rfl⟩
  · obtain rfl : ok = true := by simpa using h1
    by_cases h2 : m < 0
    · clear hm h1
      go_enter Try.func40, Try.ntmps40
      go_wp2_with (go_at_call 56; (with_reducible refine RG.out.mono ?_); rintro e w1 ⟨rfl, rfl⟩)
      go_ret3
      exact ⟨rfl, rfl⟩
    · have h2' : 0 ≤ m := by omega
      have h3 : 4096 < m := hm.elim (fun h => absurd h h1) fun h => h.elim (fun h => absurd h h2) id
      clear hm h1
      go_enter Try.func40, Try.ntmps40
      go_wp2_with (go_at_call 56; (with_reducible refine RG.out.mono ?_); rintro e w1 ⟨rfl, rfl⟩)
      go_ret3
      exact ⟨rfl, rfl⟩

set_option maxRecDepth 100000 in
set_option maxHeartbeats 2000000 in
theorem somelist_W (GI : Getter (.view) 29) (w : World) (v : Value) (l : List UInt8) (p N q : Nat) (hv : Seen w w.heap.size v l) (hl : l.length ≤ 1000000000) (hN : N ≤ 4096) (r0 : List UInt8) (hd0 : l.drop p = wint (N : Int) ++ r0) (hq : q = p + (wint (N : Int)).length)
    (RG : Hid (Calls Try.prog 56 #[v, .int .i64 (p : Int)] w fun e w' => e = .returned (.tuple #[.int .i64 (N : Int), .int .i64 (q : Int), .bool true]) ∧ w = w')) :
    Calls Try.prog 40 #[v, .int .i64 (p : Int), .func (.func 29) #[] #[]] w (GetsZ (.views) l p w) := by
  obtain ⟨i, hi, hz0, hz1, hz2⟩ := info_parts item_W
  have HV := Lib.hid hv
  have hdl := congrArg List.length hd0
  have hw1 : 0 < (wint (N : Int)).length := enc_pos (zig (N : Int))
  have h0N : (0 : Int) ≤ (N : Int) := by omega
  have hNI : (N : Int) ≤ 4096 := by omega
  have LO := Lib.hid (show ListOf (.view) (.views) 5 from list_views)
  have HG : Hid (∀ (W : World) (its : List Th) (r : List UInt8) (a : Nat), Below w.heap.size w W → l.drop p = wint (N : Int) ++ (bytesT its ++ r) → a = q + (bytesT its).length → Calls Try.prog 29 #[v, .int .i64 (a : Int)] W fun e w' => ∃ cs q' ok, Few 5 cs ∧ e = .returned (.tuple #[.agg cs.toArray, .int .i64 q', .bool ok]) ∧ Below W.heap.size W w' ∧
      ((∃ t r', (.view : TK).is t ∧ r = t.bytes ++ r' ∧ (.view : TK).lies (W.heap.size ≤ ·) w' t cs ∧ q' = ((q + (bytesT (its ++ [t])).length : Nat) : Int) ∧ ok = true) ∨ ((¬ ∃ t r', (.view : TK).is t ∧ r = t.bytes ++ r') ∧ ok = false))) := fun W its r a hb hd ha => by
    have hdl2 := congrArg List.length hd
    rw [List.length_drop, List.length_append, List.length_append] at hdl2
    have hn := next_at hd
    rw [← hq, ← ha] at hn
    refine (GI W v l a (hv.on hb) hl (by omega)).mono ?_
    rintro e w' ⟨cs, q', ok, hs, he, hb', ho⟩
    refine ⟨cs, q', ok, shape_few hs, he, hb', ?_⟩
    unfold Out at ho
    rw [hn] at ho
    refine ho.imp (fun ⟨t, r', a1, a2, a3, a4, a5⟩ => ⟨t, r', a1, a2, a3, by rw [a4, ha, bytesT_snoc, List.length_append, Nat.add_assoc], a5⟩) id
  clear GI hv hdl hw1
  have hd1 : l.drop p = wint (N : Int) ++ (bytesT [] ++ r0) := hd0
  have HQ := Lib.hid hq
  clear hd0 hq
  go_enter Try.func40, Try.ntmps40
  go_wp2_with (go_at_call 56; (with_reducible refine RG.out.mono ?_); rintro e w1 ⟨rfl, rfl⟩)
  go_loopw [1, 11, 33] (fun a o j wr => ∃ (its : List Th) (r : List UInt8), its.length ≤ N ∧ j = .int .i64 (its.length : Int) ∧ a = .int .i64 ((q + (bytesT its).length : Nat) : Int) ∧ (∀ t ∈ its, (.view : TK).is t) ∧ l.drop p = wint (N : Int) ++ (bytesT its ++ r) ∧ ItemsR wr w.heap.size o (.view) 5 its ∧ Below w.heap.size w wr) (fun _ _ j _ => N - (intOf j).toNat)
  case atStart => exact ⟨[], r0, Nat.zero_le _, rfl, rfl, (fun _ h => by cases h), hd1, ItemsR.nil, Below.refl _ _⟩
  case round =>
    obtain ⟨its, r, hk, rfl, rfl, his, hd, hR, hb⟩ := hrel
    by_cases hlt : its.length < N
    · obtain ⟨a, ha⟩ : ∃ a, a = q + (bytesT its).length := ⟨_, rfl⟩
      rw [← ha]
      obtain ⟨kk, hkk⟩ : ∃ kk, kk = its.length := ⟨_, rfl⟩
      rw [← hkk] at hlt hk ⊢
      have HI := Lib.hid his
      have HD := Lib.hid hd
      have HKK := Lib.hid hkk
      have HAA := Lib.hid ha
      obtain ⟨css, e1, e2, e3, e4⟩ := hR
      have HC1 := Lib.hid e1
      have HC2 := Lib.hid e2
      have HC3 := Lib.hid e3
      obtain ⟨Ao, co, rfl⟩ := e3.slice
      have HC4 : Hid (∀ i (h : i < its.length) (h' : i < css.length), (.view : TK).lies (fun b => w.heap.size ≤ b ∧ (Value.slice Ao kk co).ownBlock ≠ some b) wr its[i] css[i]) := by rw [hkk]; exact e4
      rw [← hkk] at HC3 ⊢
      clear his hd hkk ha e1 e2 e3 e4
      have i0' : (0 : Int) ≤ (kk : Int) := by omega
      have i1 : (kk : Int) < (N : Int) := by omega
      go_wp2_with fail
      go_at_call 29
      refine (HG.out _ _ _ _ hb HD.out HAA.out).mono ?_
      rintro e w1 ⟨cs, q', ok, hf, rfl, hb1, ho⟩
      have HF := Lib.hid hf
      rcases ho with ⟨t, r', ht, hr', hlt', rfl, rfl⟩ | ⟨hno, rfl⟩
      · have HT := Lib.hid ht
        have HE := Lib.hid hr'
        have HLI := Lib.hid hlt'
        have hh := held_made w1 cs 78
        have C1 : Wh (w1.alloc (.cells cs.toArray 78)) w1.heap.size 5 := hh.wh hf.1
        have C2 : wholeOf (w1.alloc (.cells cs.toArray 78)) w1.heap.size 5 = cs.toArray := hh.whole hf.1
        have hbx : Below w1.heap.size w1 (w1.alloc (.cells cs.toArray 78)) := bal _ _
        have hby : Below (w1.alloc (.cells cs.toArray 78)).heap.size (w1.alloc (.cells cs.toArray 78)) ((w1.alloc (.cells cs.toArray 78)).alloc (.cells cs.toArray 78)) := bal _ _
        have hb3 : Below w1.heap.size w1 ((w1.alloc (.cells cs.toArray 78)).alloc (.cells cs.toArray 78)) := hbx.trans (hby.mono hbx.size)
        have hb4 := bt hb1 hb3
        have S1 : Src Try.prog 5 30 (.slice (some ⟨w1.heap.size + 1, 0, none⟩) 1 1) 1 cs ((w1.alloc (.cells cs.toArray 78)).alloc (.cells cs.toArray 78)) := by
          have := srcS_one (P := Try.prog) (w1.alloc (.cells cs.toArray 78)) 5 cs hf (e := 78) Try.underlying30
          rw [show (w1.alloc (.cells cs.toArray 78)).heap.size = w1.heap.size + 1 by simp] at this
          exact this
        have R3 := HC3.out.on hb4
        have Bs : w.heap.size ≤ ((w1.alloc (.cells cs.toArray 78)).alloc (.cells cs.toArray 78)).heap.size := Nat.le_trans hb.size hb4.size
        have k1 : kk ≤ 1000000 := by omega
        have k2 : (kk + 1) * 56 ≤ 140737488355328 := by omega
        clear hlt' ht hr' hh
        go_wp2_with (at_builtin; refine wpList_appendS (B := w.heap.size) (n := 5) (k := kk) (cs := css.flatten) (ys := cs) rfl (.tmp 45) (.tmp 47) 30 30 rfl 78 i _ 56 Try.underlying30 hi hz0 hz1 rfl hz2 R3 Bs S1 HF.out.1 k1 k2 rfl rfl ?_; intro v5 w5 h5 hb5 hk5 ho5)
        go_roundw
        case rel =>
          have hkk := HKK.out
          subst hkk
          refine ⟨its ++ [t], r', by rw [List.length_append, List.length_singleton]; omega, by rw [List.length_append, List.length_singleton]; go_num, rfl, fun u hu => ?_, ?_, ?_, ?_⟩
          · rcases List.mem_append.1 hu with hu | hu
            · exact HI.out u hu
            · rw [List.mem_singleton] at hu; rw [hu]; exact HT.out
          · rw [HD.out, HE.out, bytesT_snoc, List.append_assoc]
          · exact ItemsR.put HC1.out HC2.out HC3.out HC4.out hb.size hb4 h5 hk5 hb5.size ho5 HF.out.1 (lies_keep HLI.out ⟨hb3.size, fun b hx hw => ⟨hb3.block b hw, hx⟩⟩)
          · exact hb.trans ((hb4.mono hb.size).trans hb5)
        case measure => simp [intOf]; omega
      · have HNO := Lib.hid hno
        have hby : Below w1.heap.size w1 (w1.alloc (.cells cs.toArray 78)) := bal _ _
        have hb4 : Below w.heap.size w (w1.alloc (.cells cs.toArray 78)) := hb.trans ((bt hb1 hby).mono hb.size)
        clear hno
        go_wp2
        go_ret3
        refine ⟨[.slice none 0 0], 0, false, ⟨_, _, _, rfl⟩, rfl, hb4, .inr ⟨?_, rfl⟩, fun _ => ⟨rfl, rfl⟩⟩
        exact list_no2 LO.out hN (by rw [← HKK.out]; exact hlt) HI.out HD.out HNO.out
    · have hkl : Hid (its.length = N) := by show _ = _; omega
      have HR := Lib.hid hR
      have HI := Lib.hid his
      have HD := Lib.hid hd
      obtain ⟨css, _, _, e3, _⟩ := hR
      obtain ⟨Ao, co, rfl⟩ := e3.slice
      have hge : ¬ (its.length : Int) < (N : Int) := by omega
      clear his hd e3
      go_wp2
      go_ret3
      refine ⟨[_], _, true, ⟨_, _, _, rfl⟩, rfl, hb, ?_, fun h => (by cases h)⟩
      have := list_yes LO.out hN hkl.out HI.out HD.out HR.out
      rw [← HQ.out] at this
      exact this
end

theorem getlist_W (GI : Getter (.view) 29) (w : World) (v : Value) (l : List UInt8) (p : Nat) (hv : Seen w w.heap.size v l) (hl : l.length ≤ 1000000000) (hp : p ≤ 1000000000) : Calls Try.prog 40 #[v, .int .i64 (p : Int), .func (.func 29) #[] #[]] w (GetsZ (.views) l p w) := by
  have R0 := rd_int w hv (show p ≤ 4611686018427387904 by omega)
  have no : (¬ ∃ t r, (.views : TK).is t ∧ l.drop p = t.bytes ++ r) → ∀ e w', (e = .returned (.tuple #[.slice none 0 0, .int .i64 0, .bool false]) ∧ w = w') → GetsZ (.views) l p w e w' := fun hn e w' ⟨he, hw⟩ => by
    subst hw
    exact ⟨[.slice none 0 0], 0, false, ⟨_, _, _, rfl⟩, he, Below.refl _ _, .inr ⟨hn, rfl⟩, fun _ => ⟨rfl, rfl⟩⟩
  cases hf : fget .I (l.drop p) with
  | none =>
    rw [got_none hf] at R0
    exact (nolist_W w v _ p 0 0 false (.inl rfl) R0).mono (no (list_no1 list_views fun N k _ h => by rw [hf] at h; cases h))
  | some x =>
    obtain ⟨f, j⟩ := x
    rw [got_some hf] at R0
    obtain ⟨a1, a2, a3, a4, a5⟩ := fget_is hf
    cases f with
    | int m =>
      by_cases hm : m < 0 ∨ 4096 < m
      · exact (nolist_W w v _ p m _ true (.inr hm) R0).mono (no (list_no1 list_views fun N k hN h => by
          rw [hf] at h
          injection h with h
          injection h with h _
          injection h with h
          omega))
      · obtain ⟨N, rfl⟩ : ∃ N : Nat, m = (N : Int) := ⟨m.toNat, by omega⟩
        have a1 : (l.drop p).take j = wint (N : Int) := a1
        have hj : (wint (N : Int)).length = j := by rw [← a1, List.length_take, Nat.min_eq_left a3]
        exact somelist_W GI w v l p N (p + j) hv hl (by omega) ((l.drop p).drop j) (by rw [← a1, List.take_append_drop]) (by rw [hj]) R0
    | text s => cases a4
    | truth b => cases a4
    | ver a b => cases a4
theorem rdr_W : Rdr (.views) 28 (U 29) := ⟨_, #[U 29], ready_W, readn_W, fun w v l p h1 h2 h3 => (getlist_W getter_W w v l p h1 h2 h3).mono fun _ _ h => h.gets⟩

end Go.Proofs.Ytfikailgjmgnbaa

namespace Go.Proofs.Ytfikailgjmgnbaa
open Go.RowKit Flo
attribute [local go_sem ↓] Go.wp_at_zero Go.wp_at_succ
attribute [local go_sem ↓] to_stIm
attribute [local go_sem] run_stIm

set_option maxRecDepth 100000 in
set_option maxHeartbeats 1000000 in
theorem ready_G : ReadY (.img) 30 10 (.func (.func 10) #[] #[]) #[] := by
  intro w gr ge i v p R h0 h1 h2 hz1 hz2 hgr hge hne hsp RD
  have HSP := Lib.hid hsp
  have RD : Hid (Calls Try.prog 10 #[v, .int .i64 p] w.drew (Told (.img) R w)) := RD
  have hne' : ge ≠ gr := fun h => hne h.symm
  clear hsp
  go_enter Try.func30, Try.ntmps30
  go_wp2_with fail
  first | (go_region_with (first | (go_at_call 10; (with_reducible refine (RD.out).mono ?_); rintro e w1 ⟨vs, q, ok, hs, he, hb, hR⟩; have HH := Lib.hid hs; have HR := Lib.hid hR; clear hR; simp only [TK.pack] at he; subst he; have F0 : w1.cell? ⟨gr, 0, none⟩ = some v := (World.cell?_of_block (a := ⟨gr, 0, none⟩) (hb.block gr hgr)).trans h0; have F1 : w1.cell? ⟨gr, 1, none⟩ = some (.int .i64 p) := (World.cell?_of_block (a := ⟨gr, 1, none⟩) (hb.block gr hgr)).trans h1; have F2 : w1.cell? ⟨gr, 2, none⟩ = some (.bool true) := (World.cell?_of_block (a := ⟨gr, 2, none⟩) (hb.block gr hgr)).trans h2; have F3 : w1.frozen? ⟨gr, 1, none⟩ = false := (World.frozen?_of_block (a := ⟨gr, 1, none⟩) (hb.block gr hgr)).trans hz1; have F4 : w1.frozen? ⟨gr, 2, none⟩ = false := (World.frozen?_of_block (a := ⟨gr, 2, none⟩) (hb.block gr hgr)).trans hz2; have SP : Spot w1 ge i 5 := HSP.out.on (hb.block ge hge); have hf : Few 5 vs := hs; have F5 := (cell_apart w1 ge i 1 gr vs hne).trans F1; have F6 := (cell_apart w1 ge i 2 gr vs hne).trans F2; have F7 := (frozen_apart w1 ge i 1 gr vs hne).trans F3; have F8 := (frozen_apart w1 ge i 2 gr vs hne).trans F4))) | fail
  all_goals go_wp2
  all_goals go_end0
  all_goals exact ⟨rfl, vs, q, ok, w1, HH.out, hb, HR.out, rfl⟩
set_option maxRecDepth 100000 in
theorem readn_G : ReadN 30 := by
  intro w gr x f h2
  go_enter Try.func30, Try.ntmps30
  go_wp2_with fail
  go_end0
  exact ⟨rfl, rfl⟩

end Go.Proofs.Ytfikailgjmgnbaa

namespace Go.Proofs.Ytfikailgjmgnbaa
open Go.RowKit Flo
attribute [local go_sem ↓] Go.wp_at_zero Go.wp_at_succ

theorem info_Image : (Try.prog.info? 33).map (·.size) = some 5 := by kernel_rfl
theorem agg_Image (W : World) : (isAgg 33).run Try.prog W = .ok true W := by simp [isAgg, run_underlying Try.underlying33]
theorem to_ldImage (X : Value) : Instr.loadAt 33 X = ldT 33 X := rfl
theorem to_stImage (X Y : Value) : Instr.storeAt 33 X Y = stT 33 X Y := rfl
theorem run_ldImage (W : World) (g : Nat) (h : Wh W g 5) : (ldT 33 (.pointer (some ⟨g, 0, none⟩))).run Try.prog W = .ok (.agg (wholeOf W g 5)) W := run_ldT _ 5 info_Image agg_Image W g h
theorem run_stImage (w : World) (g i : Nat) (cs : List Value) (hf : Few 5 cs) (hs : Spot w g i 5) : (stT 33 (.pointer (some ⟨g, i, none⟩)) (.agg cs.toArray)).run Try.prog w = .ok () (w.setCells g i cs) := run_stT _ 5 info_Image w g i cs hf hs
section
attribute [local go_sem ↓] to_ldImage to_stImage
attribute [local go_sem] run_ldImage run_stImage
set_option maxRecDepth 100000 in
set_option maxHeartbeats 4000000 in
theorem getter_Gz (w : World) (v : Value) (l : List UInt8) (p : Nat) (hv : Seen w w.heap.size v l) (hl : l.length ≤ 1000000000) (hp : p ≤ 1000000000) : Calls Try.prog 10 #[v, .int .i64 (p : Int)] w (GetsZ .img l p w) := by
  have HV := Lib.hid hv
  obtain ⟨A, c, rfl, hA⟩ := hv
  have S0 := Sg.start w (.slice A l.length c) l p [.one .V, .one .V, .one .I, .list KE, .list KS] 33 50 [.complex .f64 0 0, .complex .f64 0 0, .int .i64 0, .slice none 0 0, .slice none 0 0] rfl
  have HZ : Hid (∀ W vs, Below (w.alloc (.cells #[.complex .f64 0 0, .complex .f64 0 0, .int .i64 0, .slice none 0 0, .slice none 0 0] 33)).heap.size (w.alloc (.cells #[.complex .f64 0 0, .complex .f64 0 0, .int .i64 0, .slice none 0 0, .slice none 0 0] 33)) W → Few 5 vs → Spot W w.heap.size 0 5 ∧ Held w.heap.size vs (W.setCells w.heap.size 0 vs) ∧ Below w.heap.size w (W.setCells w.heap.size 0 vs) ∧ Kept (w.heap.size + 1 + 1 + 1 ≤ ·) (w.heap.size ≤ ·) W (W.setCells w.heap.size 0 vs)) := fun W vs hb hf => store_last (zs := [.complex .f64 0 0, .complex .f64 0 0, .int .i64 0, .slice none 0 0, .slice none 0 0]) hb rfl hf (by omega)
  have hb0 : Hid (Below w.heap.size w (w.alloc (.cells #[.complex .f64 0 0, .complex .f64 0 0, .int .i64 0, .slice none 0 0, .slice none 0 0] 33))) := bal _ _
  have W0 : Hid (w.heap.size + 1 = (w.alloc (.cells #[.complex .f64 0 0, .complex .f64 0 0, .int .i64 0, .slice none 0 0, .slice none 0 0] 33)).heap.size) := by show _ = _; simp
  obtain ⟨w0, hw0⟩ : ∃ w0, w0 = (w.alloc (.cells #[.complex .f64 0 0, .complex .f64 0 0, .int .i64 0, .slice none 0 0, .slice none 0 0] 33)) := ⟨_, rfl⟩
  rw [← hw0] at hb0 W0 HZ
  have S0' : Sg l p (.slice A l.length c) (w.heap.size + 1 + 1) (w.heap.size + 1) (w.heap.size + 1 + 1 + 1) w0 [] [.one .V, .one .V, .one .I, .list KE, .list KS] (((w.alloc (.cells #[.complex .f64 0 0, .complex .f64 0 0, .int .i64 0, .slice none 0 0, .slice none 0 0] 33)).alloc (.cells #[.complex .f64 0 0, .complex .f64 0 0, .int .i64 0, .slice none 0 0, .slice none 0 0] 33)).alloc (.cells #[.slice A l.length c, .int .i64 (p : Int), .bool true] 50)) := by rw [hw0]; exact S0
  have HS := Lib.hid ((HV.out.on hb0.out))
  have G1 : Hid (w0.heap.size ≤ w.heap.size + 1) := Nat.le_of_eq W0.out.symm
  have G2 : Hid (w0.heap.size ≤ w.heap.size + 1 + 1) := Nat.le_trans G1.out (Nat.le_succ _)
  have G3 : Hid (w.heap.size + 1 + 1 ≠ w.heap.size + 1) := by show _ ≠ _; omega
  have G4 : Hid (w.heap.size + 1 + 1 < w.heap.size + 1 + 1 + 1) := by show _ < _; omega
  have G5 : Hid (w.heap.size + 1 < w.heap.size + 1 + 1 + 1) := by show _ < _; omega
  have R1 : Hid (∀ W, Sg l p (.slice A l.length c) (w.heap.size + 1 + 1) (w.heap.size + 1) (w.heap.size + 1 + 1 + 1) w0 [] [.one .V, .one .V, .one .I, .list KE, .list KS] W → Calls Try.prog 20 #[.pointer (some ⟨w.heap.size + 1 + 1, 0, none⟩), .pointer (some ⟨w.heap.size + 1, 0, none⟩), .func (.func 21) #[] #[]] W fun e W' => e = .returned (.tuple #[]) ∧ Sg l p (.slice A l.length c) (w.heap.size + 1 + 1) (w.heap.size + 1) (w.heap.size + 1 + 1 + 1) w0 [.one .V] [.one .V, .one .I, .list KE, .list KS] W' ∧ Stays (w.heap.size + 1 + 1) (w.heap.size + 1) W W') := fun W h => Sg.step (K := .one .V) rdr_V HS.out hl hp G2.out G1.out G3.out G4.out G5.out h rfl
  have R2 : Hid (∀ W, Sg l p (.slice A l.length c) (w.heap.size + 1 + 1) (w.heap.size + 1) (w.heap.size + 1 + 1 + 1) w0 [.one .V] [.one .V, .one .I, .list KE, .list KS] W → Calls Try.prog 20 #[.pointer (some ⟨w.heap.size + 1 + 1, 0, none⟩), .pointer (some ⟨w.heap.size + 1, 1, none⟩), .func (.func 21) #[] #[]] W fun e W' => e = .returned (.tuple #[]) ∧ Sg l p (.slice A l.length c) (w.heap.size + 1 + 1) (w.heap.size + 1) (w.heap.size + 1 + 1 + 1) w0 [.one .V, .one .V] [.one .I, .list KE, .list KS] W' ∧ Stays (w.heap.size + 1 + 1) (w.heap.size + 1) W W') := fun W h => Sg.step (K := .one .V) rdr_V HS.out hl hp G2.out G1.out G3.out G4.out G5.out h rfl
  have R3 : Hid (∀ W b cs, Sg l p (.slice A l.length c) (w.heap.size + 1 + 1) (w.heap.size + 1) (w.heap.size + 1 + 1 + 1) w0 [.one .V, .one .V] [.one .I, .list KE, .list KS] W → b = W.heap.size → cs = (ptrsL (w.heap.size + 1) 2 1).toArray → Calls Try.prog 15 #[.pointer (some ⟨w.heap.size + 1 + 1, 0, none⟩), .slice (some ⟨b, 0, none⟩) 1 1] (W.alloc (.cells cs 53)) fun e W' => e = .returned (.tuple #[]) ∧ Sg l p (.slice A l.length c) (w.heap.size + 1 + 1) (w.heap.size + 1) (w.heap.size + 1 + 1 + 1) w0 [.one .V, .one .V, .one .I] [.list KE, .list KS] W' ∧ Stays (w.heap.size + 1 + 1) (w.heap.size + 1) W W') := fun W b cs h hb hcs => ints_new 1 W 2 _ cs b HS.out hl hp G2.out G1.out G3.out G4.out G5.out h rfl (by decide) hcs hb
  have R4 : Hid (∀ W, Sg l p (.slice A l.length c) (w.heap.size + 1 + 1) (w.heap.size + 1) (w.heap.size + 1 + 1 + 1) w0 [.one .V, .one .V, .one .I] [.list KE, .list KS] W → Calls Try.prog 24 #[.pointer (some ⟨w.heap.size + 1 + 1, 0, none⟩), .pointer (some ⟨w.heap.size + 1, 3, none⟩), .func (.func 25) #[] #[]] W fun e W' => e = .returned (.tuple #[]) ∧ Sg l p (.slice A l.length c) (w.heap.size + 1 + 1) (w.heap.size + 1) (w.heap.size + 1 + 1 + 1) w0 [.one .V, .one .V, .one .I, .list KE] [.list KS] W' ∧ Stays (w.heap.size + 1 + 1) (w.heap.size + 1) W W') := fun W h => Sg.step (K := .list KE) rdr_E HS.out hl hp G2.out G1.out G3.out G4.out G5.out h rfl
  have R5 : Hid (∀ W, Sg l p (.slice A l.length c) (w.heap.size + 1 + 1) (w.heap.size + 1) (w.heap.size + 1 + 1 + 1) w0 [.one .V, .one .V, .one .I, .list KE] [.list KS] W → Calls Try.prog 38 #[.pointer (some ⟨w.heap.size + 1 + 1, 0, none⟩), .pointer (some ⟨w.heap.size + 1, 4, none⟩), .func (.func 39) #[] #[]] W fun e W' => e = .returned (.tuple #[]) ∧ Sg l p (.slice A l.length c) (w.heap.size + 1 + 1) (w.heap.size + 1) (w.heap.size + 1 + 1 + 1) w0 [.one .V, .one .V, .one .I, .list KE, .list KS] [] W' ∧ Stays (w.heap.size + 1 + 1) (w.heap.size + 1) W W') := fun W h => Sg.step (K := .list KS) rdr_S HS.out hl hp G2.out G1.out G3.out G4.out G5.out h rfl
  clear hA hw0 S0
  go_enter Try.func10, Try.ntmps10
  go_wp2_with fail
  go_at_call 20
  (refine (R1.out _ S0').mono ?_)
  rintro e w1 ⟨rfl, S1, _⟩
  go_wp2_with (first
    | (go_at_call 20; (with_reducible refine (R2.out _ S1).mono ?_); rintro e w2 ⟨rfl, S2, _⟩)
    | (go_at_call 15; (refine (R3.out _ _ _ S2 (by simp) rfl).mono ?_); rintro e w3 ⟨rfl, S3, _⟩)
    | (go_at_call 24; (with_reducible refine (R4.out _ S3).mono ?_); rintro e w4 ⟨rfl, S4, _⟩))
  go_at_call 38
  refine (R5.out _ S4).mono ?_
  rintro e wn ⟨rfl, Sn, _⟩
  clear R1 R2 R3 R4 R5 S1 S2 S3 S4 S0'
  obtain ⟨hb, hlo, vs, q, ok, hf, hr, he, ho⟩ := Sn.done
  have hf : Few 5 vs := hf
  have HF0 := Lib.hid hf
  have C1 := hr.held.all
  simp only [cellsAre, Nat.zero_add, Nat.reduceAdd] at C1
  obtain ⟨c10, c11, c12⟩ := C1
  cases ok with
  | false =>
    have hfz : Few 5 [.complex .f64 0 0, .complex .f64 0 0, .int .i64 0, .slice none 0 0, .slice none 0 0] := ⟨rfl, by decide⟩
    obtain ⟨z1, z2, z3, z4⟩ := HZ.out wn [.complex .f64 0 0, .complex .f64 0 0, .int .i64 0, .slice none 0 0, .slice none 0 0] hb hfz
    have HF := Lib.hid z2
    have HB := Lib.hid z3
    have HO : Hid (¬ ∃ t r, TK.img.is t ∧ l.drop p = t.bytes ++ r) := by
      rcases OutS.img ho with ⟨t, r, _, _, _, _, h⟩ | ⟨h, _⟩
      · cases h
      · exact h
    clear ho z2 z3 z4 he hr Sn hb hlo HS HZ hf
    go_wp2
    (try simp only [Exit.inBlock, Exit.then])
    refine bodyPost_ret (results_three (p := 4) (u := 5) (x := 6) (g := w.heap.size) (n := 5) rfl info_Image agg_Image rfl HF.out rfl) rfl ?_
    exact ⟨_, 0, false, hfz, rfl, HB.out, .inr ⟨HO.out, rfl⟩, fun _ => ⟨rfl, rfl⟩⟩
  | true =>
    obtain ⟨z1, z2, z3, z4⟩ := HZ.out wn.drew vs hb.drew hf
    have HO := Lib.hid (OutS.img ((ho.keep (W' := wn.drew) (lo' := w.heap.size + 1 + 1 + 1) ⟨Nat.le_refl _, fun b hx _ => ⟨rfl, hx⟩⟩).keep z4))
    have HF := Lib.hid z2
    have HB := Lib.hid z3
    have C2 : Wh wn (w.heap.size + 1) 5 := he.held.wh hf.1
    have C3 : wholeOf wn (w.heap.size + 1) 5 = vs.toArray := he.held.whole hf.1
    have E2 := (he.drew.sets_other (b := w.heap.size) (o := 0) vs (by omega)).held
    have E3 := (hr.drew.sets_other (b := w.heap.size) (o := 0) vs (by omega)).held
    have D2 : Wh (wn.drew.setCells w.heap.size 0 vs) (w.heap.size + 1) 5 := E2.wh hf.1
    have D3 : wholeOf (wn.drew.setCells w.heap.size 0 vs) (w.heap.size + 1) 5 = vs.toArray := E2.whole hf.1
    have d11 := E3.get 1 _ rfl
    clear ho z2 z3 z4 he hr Sn hb hlo HS HZ E2 E3
    go_wp2
    first | (go_region_held3 (fun W => Wh W (w.heap.size + 1) 5 ∧ wholeOf W (w.heap.size + 1) 5 = vs.toArray ∧ W.cell? ⟨w.heap.size + 1 + 1, 1, none⟩ = some (.int .i64 q)) (first | exact ⟨C2, C3, c11⟩ | exact ⟨D2, D3, d11⟩) (fail)) | fail
    go_wp2
    (try simp only [Exit.inBlock, Exit.then])
    refine bodyPost_ret (results_three (p := 4) (u := 5) (x := 6) (g := w.heap.size) (n := 5) rfl info_Image agg_Image rfl HF.out hf.1) rfl ?_
    exact ⟨vs, q, true, HF0.out, rfl, HB.out, HO.out, fun h => (by cases h)⟩
end
theorem getter_G : Getter .img 10 := fun w v l p hv hl hp => (getter_Gz w v l p hv hl hp).mono fun _ _ h => h.gets
set_option maxRecDepth 100000 in
theorem getviews_any (w : World) (v : Value) (l : List UInt8) (p : Nat) (hv : Seen w w.heap.size v l) (hl : l.length ≤ 1000000000) (hp : p ≤ 1000000000) : Calls Try.prog 11 #[v, .int .i64 (p : Int)] w (GetsZ .views l p w) := by
  have RL := Lib.hid (getlist_W getter_W w v l p hv hl hp)
  clear hv
  go_enter Try.func11, Try.ntmps11
  go_wp2_with (go_at_call 40; (with_reducible refine RL.out.mono ?_); rintro e w1 ⟨vs, q, ok, ⟨A, n, c, hvs⟩, he, hb, ho, hz⟩; subst hvs; have HZ := Lib.hid hz; clear hz; simp only [TK.pack, List.headD_cons] at he; subst he)
  go_ret3
  exact ⟨_, q, ok, ⟨_, _, _, rfl⟩, rfl, hb, ho, HZ.out⟩
theorem rdr_G : Rdr .img 30 (U 10) := ⟨_, #[], ready_G, readn_G, fun w v l p h1 h2 h3 => getter_G w v l p h1 h2 h3⟩

end Go.Proofs.Ytfikailgjmgnbaa
