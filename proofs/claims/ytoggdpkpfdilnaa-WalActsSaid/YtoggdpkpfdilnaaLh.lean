/-
  The document's own Opened.
-/
import Derived.Test.YtoggdpkpfdilnaaLg
namespace Go.Proofs.Ytoggdpkpfdilnaa
open Go.RowKit
attribute [local go_sem ↓] Go.wp_at_zero Go.wp_at_succ

/-- picture and records that are held, and stand whatever the disk comes to -/
def Stands' (w : World) (F : Nat → Prop) (hp hr : Value) (p : List UInt8) (rs : List (List UInt8)) : Prop :=
  ∀ W : World, (∀ k, k < w.heap.size → ¬ F k → W.heap[k]? = w.heap[k]?) → w.heap.size ≤ W.heap.size → Seen W W.heap.size hp p ∧ Many W hr rs
theorem Stands'.turned {w w' : World} {F F' : Nat → Prop} {hp hr : Value} {p : List UInt8} {rs : List (List UInt8)} (h : Stands' w F hp hr p rs) (h1 : ∀ k, F' k → F k ∨ w.heap.size ≤ k) (h2 : ∀ k, k < w.heap.size → ¬ F k → w'.heap[k]? = w.heap[k]?) (hs : w.heap.size ≤ w'.heap.size) : Stands' w' F' hp hr p rs :=
  fun W hk hs' => h W (fun k k1 k2 => (hk k (by omega) (fun q => (h1 k q).elim k2 (by omega))).trans (h2 k k1 k2)) (by omega)
theorem Stands'.on {w w' : World} {F : Nat → Prop} {hp hr : Value} {p : List UInt8} {rs : List (List UInt8)} (h : Stands' w F hp hr p rs) (hb : Below w.heap.size w w') : Stands' w' F hp hr p rs :=
  h.turned (fun _ => .inl) (fun k hk _ => hb.block k hk) hb.size
/-- what was there before the disk -/
theorem Stands'.low {w : World} {B : Nat} {F : Nat → Prop} {hp hr : Value} {p : List UInt8} {rs : List (List UInt8)} (hF : ∀ k, F k → B ≤ k) (hB : B ≤ w.heap.size) (h : ∀ W : World, (∀ k, k < B → W.heap[k]? = w.heap[k]?) → B ≤ W.heap.size → Seen W W.heap.size hp p ∧ Many W hr rs) : Stands' w F hp hr p rs :=
  fun W hk hs => h W (fun k k1 => hk k (by omega) (fun q => by have := hF k q; omega)) (by omega)

set_option maxRecDepth 100000 in
theorem opened_yes (w : World) (B g : Nat) (s : Dsk) (F : Nat → Prop) (a p : List UInt8) (rs : List (List UInt8)) (n m : Nat) (hp hr : Value) (sf : Int) (h : Disk w B g s F) (hh : Has s a n) (hre : Rests a p rs) (hn : n + a.length + a.length + 14 ≤ 900000) (hm1 : n ≤ m) (hm2 : a.length + a.length ≤ m) (HS : Stands' w F hp hr p rs) :
    Calls Try.prog 20 #[.pointer (some ⟨g, 0, none⟩), .agg #[hp, hr, .int .i64 sf]] w fun e w' => e = .returned (.bool true) ∧ ∃ s', Has s' a m ∧ Turned B g s' F w w' := by
  have hB := h.base
  obtain ⟨w1, hw1⟩ : ∃ x, x = w.alloc (.cells #[hp, hr, .int .i64 sf] 34) := ⟨_, rfl⟩
  have b1 : Below w.heap.size w w1 := by rw [hw1]; exact bal _ _
  have x1 : BoxF w.heap.size [hp, hr, .int .i64 sf] w1 := by rw [hw1]; exact boxF_made _ _ _
  have RO := Lib.hid (opened (h.on b1) hh hre hn hm1 hm2)
  have HF : Hid (¬ F w.heap.size) := fun q => by have := (h.less _ q).2; omega
  have HX := Lib.hid x1
  have HB1 := Lib.hid b1
  have HB := Lib.hid hB
  have HST := Lib.hid (HS.on b1)
  obtain ⟨hse, hma⟩ := HS w (fun _ _ _ => rfl) (Nat.le_refl _)
  obtain ⟨A1, c1, rfl, _⟩ := hse
  obtain ⟨A2, c2, rfl, _⟩ := hma
  rw [hw1] at RO
  clear HS h hh hre hn hm1 hm2 b1 x1 hB
  go_enter Try.func20, Try.ntmps20
  go_wp2_with fail
  go_at_call 9
  refine (RO.out).mono ?_
  rw [← hw1]
  rintro e w2 ⟨lv, pv, rv, rfl, ⟨s', F', d1, d2, d3, d4, _⟩, ⟨d6, d7⟩, hpv, hrv⟩
  have hx2 := HX.out.kept (W' := w2) (d7 _ HX.out.1 HF.out) d6.size
  have e0 := hx2.get 0 rfl
  have e1 := hx2.get 1 rfl
  have e2 := hx2.get 2 rfl
  obtain ⟨hse, hma⟩ := HST.out w2 d7 d6.size
  have SH := Lib.hid (same_held w2 pv rv _ _ sf p rs hpv.seen (hrv w2 (fun _ _ _ => rfl) (Nat.le_refl _)) hse hma)
  have HD : Hid (Turned B g s' F w1 w2) := ⟨F', d1, d4, d6, d7⟩
  have HD2 := Lib.hid d2
  obtain ⟨bl, rfl, _⟩ := d3
  obtain ⟨A3, c3, rfl, _⟩ := hpv.cut
  obtain ⟨A4, c4, rfl, _⟩ := hrv w2 (fun _ _ _ => rfl) (Nat.le_refl _)
  clear d1 d2 d4 d6 d7 hse hma hpv hrv hx2
  go_wp2_with fail
  go_at_call 10
  refine (SH.out).mono ?_
  rintro e w3 ⟨rfl, hb3⟩
  go_wp2
  go_ret
  obtain ⟨F', d1, d4, d6, d7⟩ := HD.out
  exact ⟨rfl, s', HD2.out, Turned.after HB1.out HB.out ⟨F', d1.on hb3, d4, d6.trans (hb3.mono (Nat.le_trans (Nat.le_trans HB.out HB1.out.size) d6.size)), fun k hk hn => (hb3.block k (Nat.lt_of_lt_of_le hk d6.size)).trans (d7 k hk hn)⟩⟩

end Go.Proofs.Ytoggdpkpfdilnaa
