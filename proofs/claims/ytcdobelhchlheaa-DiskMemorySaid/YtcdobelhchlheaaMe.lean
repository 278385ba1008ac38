/-
  DiskMemory, of every input.
-/
import Derived.Test.YtcdobelhchlheaaAw
namespace Go.Proofs.Ytcdobelhchlheaa
open Go.RowKit
attribute [local go_sem ↓] Go.wp_at_zero Go.wp_at_succ

theorem Room.base {w : World} {B B' : Nat} {v : Value} {l : List UInt8} (h : Room w B v l) (ho : ∀ g, v.ownBlock = some g → B ≤ g ∧ B' ≤ g) : Room w B' v l := by
  rcases h with h | ⟨g, off, cap, rfl, h1, h2, h3, h4, h5, h7, h6⟩
  · exact .inl h
  · have hg := ho g rfl
    exact .inr ⟨g, off, cap, rfl, h1, h2, .inl hg.2, h4, h5, fun _ => h7 hg.1, h6⟩
def memC (l : List UInt8) : Chg := ⟨0, 0, ⟨l.toArray⟩⟩
def mem1 (l : List UInt8) : Dsk := ⟨⟨[], [], 0⟩, ⟨l, [], 0⟩, [memC l], false, 0⟩
def mem2 (l : List UInt8) : Dsk := ⟨⟨l, [], 0⟩, ⟨l, [], 0⟩, [], false, 0⟩
theorem mem_s1 (l : List UInt8) : Dsk.fresh.chg 0 0 l = (mem1 l, 0) := rfl
theorem mem_s2 (l : List UInt8) : (mem1 l).crash 5 0 = mem2 l := rfl
theorem mem_m1 (l : List UInt8) (h : l.length ≤ 500) : (mem1 l).mass ≤ 900000 := by
  show ([] : List UInt8).length + ([] : List UInt8).length + ([l.length + 1].sum) ≤ 900000
  simp
  omega
theorem mem_m2 (l : List UInt8) (h : l.length ≤ 500) : (mem2 l).mass ≤ 900000 := by
  show l.length + ([] : List UInt8).length + (([] : List Nat).sum) ≤ 900000
  simp
  omega
/-- bytes in a row of one's own, while others are stored into it: nothing below C has turned, nor from D on -/
def Wipes (W : World) (C D : Nat) (v : Value) (n : Nat) (wr : World) : Prop := ∃ lx : List UInt8, lx.length = n ∧ Room wr C v lx ∧ Below C W wr ∧ (∀ k, D ≤ k → wr.heap[k]? = W.heap[k]?)

set_option maxRecDepth 100000 in
set_option maxHeartbeats 2000000 in
theorem memory_walk (v : Value) (l : List UInt8) (w : World) (hv : Seen w w.heap.size v l) :
    Calls Try.prog 6 #[v] w fun e w' => e = .returned (.bool true) ∧ Below w.heap.size w w' := by
  obtain ⟨i0, hi0, hy0, hy1, hy2⟩ := info_parts byte_info
  have HV := Lib.hid hv
  obtain ⟨A, c, rfl, hA⟩ := hv
  have hlm : l.length ≤ maxLen := Nat.le_trans hA.1 hA.2.1
  unfold maxLen at hlm
  clear hA
  by_cases h5 : l.length ≤ 500
  · have h5' : (l.length : Int) ≤ 500 := by omega
    go_enter Try.func6, Try.ntmps6
    go_wp2_with fail
    go_at_call 8
    refine (awake_any w).mono ?_
    rintro e w1 ⟨rfl, b1⟩
    have P1 : ([] : List UInt8).length + l.length ≤ 1099511627776 := by simp only [List.length_nil]; omega
    have a1 := bal w1 (.cells #[] 5)
    have hv1 := HV.out.on (bt b1 a1)
    have R0 : Room (w1.alloc (.cells #[] 5)) w1.heap.size (.slice (some ⟨w1.heap.size, 0, none⟩) 0 0) [] := Room.made w1 [] 5 (Nat.zero_le _)
    have S1 : Src Try.prog 1 30 (.slice A l.length c) l.length (c8 l) (w1.alloc (.cells #[] 5)) := by
      obtain ⟨A', c', e, h⟩ := hv1
      injection e with e1 _ e3
      subst e1 e3
      exact h.src Try.underlying30
    go_wp2_with (at_builtin; refine wpList_append8s (B := w1.heap.size) (l := []) (m := l) rfl (.tmp 21) (.tmp 22) 30 30 rfl 5 i0 Try.underlying30 hi0 hy0 hy1 hy2 R0 a1.size S1 P1 rfl rfl ?_; intro v3 w3 hr3 hb3 ho3; rw [List.nil_append] at hr3)
    go_at_call 10
    have b3 : Below w.heap.size w w3 := (bt b1 a1).trans (hb3.mono b1.size)
    have ow3 : ∀ k, v3.ownBlock = some k → w1.heap.size ≤ k ∧ k < w3.heap.size := fun k e => ⟨(ho3 k e).elim (fun h => Nat.le_of_eq (Option.some.inj h)) (fun h => Nat.le_trans a1.size h), hr3.own_lt k e⟩
    refine (new_any w3 w3.heap.size (Nat.le_refl _)).mono ?_
    rintro e w4 ⟨rfl, hd4, hb4⟩
    have hr4 := hr3.on hb4
    have b4 : Below w.heap.size w w4 := bt b3 hb4
    generalize hF : (fun x => x = w3.heap.size) = F4 at hd4
    clear hF hr3 hb3 ho3 R0 S1 P1 hv1
    obtain ⟨A3, z3, hv3, _⟩ := hr4.cut
    subst hv3
    go_wp2_with fail
    go_at_call 19
    refine (append_is hd4 hr4.seen (by show 0 + 0 + 0 + l.length + 1 ≤ 900000; omega) (mem_s1 l)).mono ?_
    rintro e w5 ⟨rfl, F5, hd5, hf5, hb5, hk5⟩
    have hr5 := hr4.kept (fun k e => hb5.block k (ow3 k e).2) hb5.size
    have b5 : Below w.heap.size w w5 := b4.trans (hb5.mono b3.size)
    clear hd4 hb4 hr4 b4 hf5 hb5 hk5
    go_wp2_with fail
    go_at_call 17
    refine (read_is hd5 (mem_m1 l h5) (l := l) (why := 0) rfl rfl).mono ?_
    rintro e w6 ⟨u, rfl, hu, hou, hb6⟩
    have hx6 := hu.1.base (fun g e => ⟨(hu.2 g e).1, hou g e⟩)
    have HOU := Lib.hid hou
    obtain ⟨Ax, zx, hvx, _⟩ := hu.slice
    subst hvx
    have HD5 := Lib.hid hd5
    have HR5 := Lib.hid hr5
    have HOW := Lib.hid ow3
    have HB6 := Lib.hid hb6
    have HB5 := Lib.hid b5
    have HX6 := Lib.hid hx6
    have HB1 := Lib.hid b1.size
    have HB3 := Lib.hid b3.size
    have HL : Hid (l.length ≤ 500) := h5
    clear hd5 hr5 hou hb6 hx6 hu b5 b3 ow3 b1 a1
    go_wp2
    go_loopw [7] (fun i wr => ∃ k : Nat, k ≤ l.length ∧ i = .int .i64 (k : Int) ∧ ∃ lx : List UInt8, lx.length = l.length ∧ Room wr w5.heap.size (.slice Ax l.length zx) lx ∧ Below w5.heap.size w6 wr) (fun i _ => l.length - (intOf i).toNat)
    case atStart => exact ⟨0, Nat.zero_le _, rfl, l, rfl, HX6.out, Below.refl _ _⟩
    case round =>
      obtain ⟨k, hk, rfl, lx, hlx, hrx, hbx⟩ := hrel
      by_cases hlt : k < l.length
      · obtain ⟨g9, off9, cap9, hv9, hc9, hl9, hg9, ⟨u9, hcell⟩, hfz, hr9, hb9⟩ := hrx.put HOU.out k (by omega) 9
        injection hv9 with e1 e2 e3
        subst e1 e3
        have HR9 := Lib.hid hr9
        have HB9 := Lib.hid hb9
        have HLX := Lib.hid hlx
        have HBX := Lib.hid hbx
        have i0 : (0 : Int) ≤ (k : Int) := by omega
        have i1 : (k : Int) < (l.length : Int) := by omega
        clear hr9 hb9 hlx hbx hrx e2 hl9 hc9
        go_wp2
        go_roundw
        case rel => exact ⟨k + 1, by omega, by go_num, _, by rw [List.length_set]; exact HLX.out, HR9.out, HBX.out.trans HB9.out⟩
        case measure => simp [intOf]; omega
      · have hB5x : Below w5.heap.size w5 wr := HB6.out.trans hbx
        have HDX := Lib.hid (HD5.out.on hB5x)
        have HRX := Lib.hid (HR5.out.on hB5x)
        have HBX : Hid (Below w.heap.size w wr) := bt HB5.out hB5x
        clear hbx hrx hlx hB5x
        revert HDX HRX HBX
        generalize wr = wx
        intro HDX HRX HBX
        go_wp2
        go_loopw [8] (fun i wq => ∃ k : Nat, k ≤ l.length ∧ i = .int .i64 (k : Int) ∧ ∃ lx : List UInt8, lx.length = l.length ∧ Room wq w1.heap.size (.slice A3 l.length z3) lx ∧ Below w1.heap.size wx wq ∧ ∀ k, w3.heap.size ≤ k → wq.heap[k]? = wx.heap[k]?) (fun i _ => l.length - (intOf i).toNat)
        case atStart => exact ⟨0, Nat.zero_le _, rfl, l, rfl, HRX.out, Below.refl _ _, fun _ _ => rfl⟩
        case round =>
          obtain ⟨k, hk, rfl, lx, hlx, hrx, hbx, hkx⟩ := hrel
          by_cases hlt : k < l.length
          · obtain ⟨g9, off9, cap9, hv9, hc9, hl9, hg9, ⟨u9, hcell⟩, hfz, hr9, hb9⟩ := hrx.put (fun g e => (HOW.out g e).1) k (by omega) 7
            have hlt9 := (HOW.out g9 (by rw [hv9]; rfl)).2
            injection hv9 with e1 e2 e3
            subst e1 e3
            have HR9 := Lib.hid hr9
            have HB9 := Lib.hid hb9
            have HLX := Lib.hid hlx
            have HBX2 := Lib.hid hbx
            have HKX := Lib.hid hkx
            have HLT := Lib.hid hlt9
            have i0 : (0 : Int) ≤ (k : Int) := by omega
            have i1 : (k : Int) < (l.length : Int) := by omega
            clear hr9 hb9 hlx hbx hrx hkx e2 hl9 hc9 hlt9
            go_wp2
            go_roundw
            case rel => exact ⟨k + 1, by omega, by go_num, _, by rw [List.length_set]; exact HLX.out, HR9.out, HBX2.out.trans HB9.out, fun q hq => (Below.heap_setCell _ ⟨g9, off9 + k, none⟩ _ q (show q ≠ g9 by have := HLT.out; omega)).trans (HKX.out q hq)⟩
            case measure => simp [intOf]; omega
          · have hdy := HDX.out.kept (w' := wr) (fun k hF => hkx k (HDX.out.less k hF).1) hbx.size
            have hby : Below w.heap.size w wr := HBX.out.trans (hbx.mono HB1.out)
            clear hbx hrx hlx hkx
            go_wp2_with fail
            go_at_call 17
            refine (read_is hdy (mem_m1 l HL.out) (l := l) (why := 0) rfl rfl).mono ?_
            rintro e w7 ⟨y, rfl, hy, hoy, hb7⟩
            have hd7 := hdy.on hb7
            go_wp2_with fail
            go_at_call 20
            refine (crash_is hd7 (mem_m1 l HL.out) (mem_s2 l)).mono ?_
            rintro e w8 ⟨rfl, F8, hd8, hf8, hb8, hk8⟩
            have hy8 := hy.kept (w' := w8) (fun k e => hk8 k (hy.2 k e).2 (fun hF => by have := (hdy.less k hF).2; have := hoy k e; omega)) hb8.size
            have b8 : Below w.heap.size w w8 := (bt hby hb7).trans (hb8.mono HB3.out)
            go_wp2_with fail
            go_at_call 17
            refine (read_is hd8 (mem_m2 l HL.out) (l := l) (why := 0) rfl rfl).mono ?_
            rintro e w9 ⟨z, rfl, hz, hoz, hb9⟩
            have hy9 := (hy8.on hb9).1.seen
            have hz9 := hz.1.seen
            have b9 := bt b8 hb9
            have hv9 := HV.out.on b9
            go_wp2_with fail
            go_at_call 21
            refine (same_yes w9 hy9 hv9).mono ?_
            rintro e w10 ⟨rfl, hb10⟩
            have hz10 := hz9.on hb10
            have hv10 := hv9.on hb10
            have b10 := bt b9 hb10
            go_wp2_with fail
            go_at_call 21
            refine (same_yes w10 hz10 hv10).mono ?_
            rintro e w11 ⟨rfl, hb11⟩
            go_wp2
            go_ret
            exact ⟨rfl, bt b10 hb11⟩
  · have h5' : (500 : Int) < (l.length : Int) := by omega
    go_enter Try.func6, Try.ntmps6
    go_wp2_with fail
    go_at_call 8
    refine (awake_any w).mono ?_
    rintro e w1 ⟨rfl, b1⟩
    go_wp2_with fail
    go_at_call 8
    refine (awake_any w1).mono ?_
    rintro e w2 ⟨rfl, b2⟩
    go_wp2
    go_ret
    exact ⟨rfl, bt b1 b2⟩

end Go.Proofs.Ytcdobelhchlheaa
