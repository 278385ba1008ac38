/-
  WireKeeps: what is handed in stays; what is read is new memory.
-/
import Derived.Test.YtemoekakpnaboaaAw
import Derived.Test.YtemoekakpnaboaaTxt
namespace Go.Proofs.Ytemoekakpnaboaa
open Go.RowKit

theorem cutS_size (l : List UInt8) (q n : Nat) : (cutS l q n).size ≤ l.length := by
  show ((l.drop q).take n).toArray.size ≤ _
  rw [List.size_toArray, List.length_take, List.length_drop]
  omega
theorem text_one {l : List UInt8} {p : Nat} (hp : p ≤ 4611686018427387904) : ∃ (s : ByteArray) (x : Int) (ok : Bool), s.size ≤ l.length ∧ ∀ v w, Seen w w.heap.size v l →
    Calls Try.prog 20 #[v, .int .i64 p] w fun e w' => e = .returned (.tuple #[.string s, .int .i64 x, .bool ok]) ∧ w = w' := by
  cases hg : upTo 65536 (l.drop p) with
  | none => exact ⟨_, _, _, Nat.zero_le _, fun v w h => gettext_none w h hp (.inl hg)⟩
  | some x =>
    obtain ⟨n, k⟩ := x
    have h0 := (upTo_is hg).2.1
    obtain ⟨m, rfl⟩ : ∃ m : Nat, n = (m : Int) := ⟨n.toNat, by omega⟩
    by_cases hn : p + k + m ≤ l.length
    · exact ⟨_, _, _, cutS_size l (p + k) m, fun v w h => gettext_some w h hp hg hn⟩
    · exact ⟨_, _, _, Nat.zero_le _, fun v w h => gettext_none w h hp (.inr ⟨m, k, hg, by omega⟩)⟩

/-- an empty slice made now -/
theorem room_new (w : World) : Room (w.alloc (.cells #[] 5)) w.heap.size (.slice (some ⟨w.heap.size, 0, none⟩) 0 0) [] := Room.made w [] 5 (Nat.zero_le _)

theorem str_nil (s : ByteArray) : s ++ (⟨#[]⟩ : ByteArray) = s := by
  apply ByteArray.ext
  simp

def KeptAt (l : List UInt8) (B : Nat) (v : Value) (w0 : World) (i : Value) (wr : World) : Prop :=
  ∃ (k : Nat) (lc : List UInt8), k ≤ l.length ∧ i = .int .i64 (k : Int) ∧ lc.length = l.length ∧ Room wr B v lc ∧ Below B w0 wr

set_option maxRecDepth 100000 in
set_option maxHeartbeats 1000000 in
theorem keeps_walk (v : Value) (l : List UInt8) (p : Nat) (w : World) (hv : Seen w w.heap.size v l) (hp : p ≤ 6000) (hl : l.length ≤ 5000) :
    Calls Try.prog 7 #[v, .int .i64 p] w fun e w' => e = .returned (.bool true) ∧ Below w.heap.size w w' := by
  obtain ⟨i0, hi0, hz0, hz1, hz2⟩ := info_parts byte_info
  obtain ⟨s, x, ok, hss, T⟩ := text_one (l := l) (p := p) (by omega)
  have HT := Lib.hid T
  clear T
  have hpl : ([] : List UInt8).length + l.length ≤ 1099511627776 := by simp only [List.length_nil]; omega
  have h0 := hv
  obtain ⟨A, c, rfl, hA⟩ := hv
  have HS := Lib.hid h0
  have HA := Lib.hid hA
  clear h0 hA
  go_enter Try.func7, Try.ntmps7
  go_wp2_with (at_builtin; refine wpList_append8 (B := w.heap.size) (l := []) (m := l) rfl (.tmp 27) (.tmp 28) 22 22 rfl 5 i0 Try.underlying22 hi0 hz0 hz1 hz2 (room_new w) (by simp) ((HA.out.below (bal w _)).src Try.underlying22) hpl rfl rfl ?_; intro v1 w1 hr1 hb1)
  have hb1' : Below w.heap.size w w1 := (bal w _).trans hb1
  have S1 := Lib.hid (HS.out.on hb1')
  (go_at_call 20; (with_reducible refine (HT.out _ _ S1.out).mono ?_); rintro e w1' ⟨rfl, rfl⟩)
  have hs0 := str_nil s
  go_wp2_with (at_builtin; refine wpList_append8s (B := w1.heap.size) (l := []) (m := l) rfl (.tmp 39) (.tmp 40) 22 22 rfl 5 i0 Try.underlying22 hi0 hz0 hz1 hz2 (room_new w1) (by simp) (((HA.out.below hb1').below ((bal w1 _).mono hb1'.size)).src Try.underlying22) hpl rfl rfl ?_; intro v2 w2 hr2 hb2 hown2)
  have hown : ∀ g, v2.ownBlock = some g → w1.heap.size ≤ g := by
    intro g hg
    rcases hown2 g hg with h | h
    · have : w1.heap.size = g := by simpa [Value.ownBlock] using h
      omega
    · have : (w1.alloc (Obj.cells #[] 5)).heap.size = w1.heap.size + 1 := by simp
      omega
  have hb2' : Below w1.heap.size w1 w2 := (bal w1 _).trans hb2
  have S2 := Lib.hid (show Seen w2 w2.heap.size v2 l from hr2.seen)
  (go_at_call 20; (with_reducible refine (HT.out _ _ S2.out).mono ?_); rintro e w1' ⟨rfl, rfl⟩)
  obtain ⟨A2, c2, rfl, hle2, hcm2, _⟩ := hr2.cut
  unfold maxLen at hcm2
  have hl2 : (l.length : Int) ≤ (c2 : Int) := by
    have : ([] ++ l).length = l.length := rfl
    omega
  have HW := Lib.hid hr1
  have HR2 := Lib.hid hr2
  have HS1 := Lib.hid S1.out
  go_wp2_with fail
  go_loopw [14] (KeptAt l w1.heap.size (.slice A2 l.length c2) w2) (fun i _ => l.length - (intOf i).toNat)
  case atStart => exact ⟨0, l, Nat.zero_le _, rfl, rfl, HR2.out, Below.refl _ _⟩
  case round =>
    obtain ⟨k, lc, hk, rfl, hlc, hr, hb⟩ := hrel
    by_cases hlt : k < l.length
    · obtain ⟨g, off, cap, hv, hcm, hle, hB, ⟨u, hu⟩, hf, hr', hb'⟩ := hr.put hown k (by omega) 9
      injection hv with hA2 _ _
      subst hA2
      have HL := Lib.hid hlc
      clear hlc hr hle hcm hr1 hr2
      go_wp2
      go_roundw
      case rel => exact ⟨k + 1, lc.set k 9, by omega, by go_num, by rw [List.length_set]; exact HL.out, hr', hb.trans hb'⟩
      case measure => simp [intOf]; omega
    · have hbw : Below w.heap.size w w2 := hb1'.trans (hb2'.mono hb1'.size)
      have hbr : Below w.heap.size w wr := hbw.trans (hb.mono hb1'.size)
      have hb12 : Below w1.heap.size w1 wr := hb2'.trans hb
      have SV := Lib.hid (HS.out.on hbr)
      have SW := Lib.hid (show Seen wr wr.heap.size v1 l from HW.out.seen.on hb12)
      clear hr hlc hr1 hr2 hown hown2
      go_wp2_with fail
      (go_at_call 9; refine (awake_true _).mono ?_; rintro e w5 ⟨rfl, hb5⟩)
      go_wp2_with fail
      (go_at_call 12; refine (same_yes _ (SV.out.on hb5) (SW.out.on hb5)).mono ?_; rintro e w6 ⟨rfl, hb6⟩)
      go_wp2_with fail
      go_ret
      exact ⟨rfl, bt hbr (bt hb5 hb6)⟩

set_option maxRecDepth 100000 in
theorem keeps_law (v : Value) (l : List UInt8) (a : Int) (w : World) (hv : Seen w w.heap.size v l) (ha : (Lit.int .i64 a).wf = true) :
    Calls Try.prog 7 #[v, .int .i64 a] w fun e w' => e = .returned (.bool true) ∧ Below w.heap.size w w' := by
  have ha' : -9223372036854775808 ≤ a ∧ a ≤ 9223372036854775807 := by
    simp [Lit.wf, IntKind.min, IntKind.max, IntKind.signed, IntKind.bits] at ha
    omega
  have hlm := hv.len
  unfold maxLen at hlm
  have h0 := hv
  obtain ⟨A, c, rfl, hA⟩ := hv
  clear ha hA
  by_cases h1 : l.length ≤ 5000
  · by_cases h2 : a < 0
    · clear h0
      go_enter Try.func7, Try.ntmps7
      go_wp2_with (go_at_call 9; refine (awake_true _).mono ?_; rintro e w0 ⟨rfl, hb0⟩)
      go_ret
      exact ⟨rfl, hb0⟩
    · by_cases h3 : a ≤ 6000
      · obtain ⟨p, rfl⟩ : ∃ p : Nat, a = (p : Int) := ⟨a.toNat, by omega⟩
        exact keeps_walk _ l p w h0 (by omega) h1
      · have h2' : 0 ≤ a := by omega
        have h3' : 6000 < a := by omega
        clear h0 h2 h3
        go_enter Try.func7, Try.ntmps7
        go_wp2_with (go_at_call 9; refine (awake_true _).mono ?_; rintro e w0 ⟨rfl, hb0⟩)
        go_ret
        exact ⟨rfl, hb0⟩
  · have h1' : 5000 < l.length := by omega
    clear h0 h1
    go_enter Try.func7, Try.ntmps7
    go_wp2_with (go_at_call 9; refine (awake_true _).mono ?_; rintro e w0 ⟨rfl, hb0⟩)
    go_ret
    exact ⟨rfl, hb0⟩

end Go.Proofs.Ytemoekakpnaboaa
