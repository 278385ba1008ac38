/-
  The document's examples hold; small words for the laws' walks.
-/
import Derived.Test.YtemoekakpnaboaaPut2
import Derived.Test.YtemoekakpnaboaaUp
namespace Go.Proofs.Ytemoekakpnaboaa
open Go.RowKit

theorem bt {a b c : World} (h : Below a.heap.size a b) (k : Below b.heap.size b c) : Below a.heap.size a c := h.trans (k.mono h.size)
theorem bal (w : World) (o : Obj) : Below w.heap.size w (w.alloc o) := Below.alloc (Below.refl _ _) (Nat.le_refl _) o
theorem Seen.al {w : World} {v : Value} {l : List UInt8} (h : Seen w w.heap.size v l) (o : Obj) : Seen (w.alloc o) (w.alloc o).heap.size v l := h.on (bal w o)
theorem Room.al {w : World} {B : Nat} {v : Value} {l : List UInt8} (h : Room w B v l) (o : Obj) : Room (w.alloc o) B v l := h.on (bal w o)

theorem same_is {v u : Value} {l m : List UInt8} {b : Bool} (w : World) (h1 : Seen w w.heap.size v l) (h2 : Seen w w.heap.size u m) (hb : decide (l = m) = b) :
    Calls Try.prog 12 #[v, u] w fun e w' => e = .returned (.bool b) ∧ Below w.heap.size w w' :=
  (same_any w h1 h2).mono fun e w' ⟨he, n, hw⟩ => ⟨by rw [he, hb], by rw [hw]; exact below_drewN _ _ _⟩
theorem same_yes {v u : Value} {l : List UInt8} (w : World) (h1 : Seen w w.heap.size v l) (h2 : Seen w w.heap.size u l) :
    Calls Try.prog 12 #[v, u] w fun e w' => e = .returned (.bool true) ∧ Below w.heap.size w w' := same_is w h1 h2 (decide_eq_true rfl)

theorem wint_m1 : wint (-1) = [1] := by
  show enc 1 = _
  rw [enc_small (by omega)]; rfl
theorem wint_64 : wint 64 = [128, 1] := by
  show enc 128 = _
  rw [enc_big (by omega), enc_small (by omega)]; rfl
theorem wint_2 : wint 2 = [4] := by
  show enc 4 = _
  rw [enc_small (by omega)]; rfl

def ab : ByteArray := ⟨#[97, 98]⟩

theorem lit_seen (w : World) (l : List UInt8) (hl : l.length ≤ maxLen) : Seen (w.alloc (.cells (c8 l).toArray 5)) (w.alloc (.cells (c8 l).toArray 5)).heap.size (.slice (some ⟨w.heap.size, 0, none⟩) l.length l.length) l := (Room.made w l 5 hl).seen
theorem litA (w : World) : Seen (w.alloc (.cells #[.int .u8 128, .int .u8 0] 5)) (w.alloc (.cells #[.int .u8 128, .int .u8 0] 5)).heap.size (.slice (some ⟨w.heap.size, 0, none⟩) 2 2) [128, 0] := lit_seen w [128, 0] (by decide)
theorem litB (w : World) : Seen (w.alloc (.cells #[.int .u8 9, .int .u8 128, .int .u8 1] 5)) (w.alloc (.cells #[.int .u8 9, .int .u8 128, .int .u8 1] 5)).heap.size (.slice (some ⟨w.heap.size, 0, none⟩) 3 3) [9, 128, 1] := lit_seen w [9, 128, 1] (by decide)
theorem litC (w : World) : Seen (w.alloc (.cells #[.int .u8 1] 5)) (w.alloc (.cells #[.int .u8 1] 5)).heap.size (.slice (some ⟨w.heap.size, 0, none⟩) 1 1) [1] := lit_seen w [1] (by decide)
theorem litD (w : World) : Seen (w.alloc (.cells #[.int .u8 128, .int .u8 1] 5)) (w.alloc (.cells #[.int .u8 128, .int .u8 1] 5)).heap.size (.slice (some ⟨w.heap.size, 0, none⟩) 2 2) [128, 1] := lit_seen w [128, 1] (by decide)
theorem litE (w : World) : Room (w.alloc (.cells #[.int .u8 7] 5)) w.heap.size (.slice (some ⟨w.heap.size, 0, none⟩) 1 1) [7] := Room.made w [7] 5 (by decide)
theorem litF (w : World) : Seen (w.alloc (.cells #[.int .u8 7, .int .u8 4, .int .u8 97, .int .u8 98] 5)) (w.alloc (.cells #[.int .u8 7, .int .u8 4, .int .u8 97, .int .u8 98] 5)).heap.size (.slice (some ⟨w.heap.size, 0, none⟩) 4 4) [7, 4, 97, 98] := lit_seen w [7, 4, 97, 98] (by decide)

theorem exA (w : World) {v : Value} {B : Nat} (h : Seen w B v [128, 0]) : Calls Try.prog 18 #[v, .int .i64 0] w fun e w' => e = .returned (.tuple #[.int .i64 0, .int .i64 0, .bool false]) ∧ Below w.heap.size w w' :=
  (getint_none (p := 0) w h (by omega) (by decide +kernel)).mono fun _ _ ⟨he, hw⟩ => ⟨he, hw ▸ Below.refl _ _⟩
theorem exB (w : World) {v : Value} {B : Nat} (h : Seen w B v [9, 128, 1]) : Calls Try.prog 18 #[v, .int .i64 1] w fun e w' => e = .returned (.tuple #[.int .i64 64, .int .i64 3, .bool true]) ∧ Below w.heap.size w w' :=
  (getint_some (p := 1) (n := 64) (k := 2) w h (by omega) (by decide +kernel)).mono fun _ _ ⟨he, hw⟩ => ⟨he, hw ▸ Below.refl _ _⟩
theorem exC (w : World) : Calls Try.prog 13 #[.slice none 0 0, .int .i64 (-1)] w (Gives w.heap.size [1] w) := by
  have := int_any (-1) w w.heap.size (.slice none 0 0) [] (by omega) (by omega) Room.nil (Nat.le_refl _) (by simp)
  rw [wint_m1] at this
  exact this
theorem exD (w : World) : Calls Try.prog 13 #[.slice none 0 0, .int .i64 64] w (Gives w.heap.size [128, 1] w) := by
  have := int_any 64 w w.heap.size (.slice none 0 0) [] (by omega) (by omega) Room.nil (Nat.le_refl _) (by simp)
  rw [wint_64] at this
  exact this
theorem exE (w : World) {v : Value} {B : Nat} (h : Room w B v [7]) (hB : B ≤ w.heap.size) : Calls Try.prog 15 #[v, .string ⟨#[97, 98]⟩] w (Gives B [7, 4, 97, 98] w) := by
  have := text_any ⟨#[97, 98]⟩ w B v [7] h hB (by simp) (by decide)
  have e : ([7] : List UInt8) ++ (wint ((⟨#[97, 98]⟩ : ByteArray).size : Int) ++ (⟨#[97, 98]⟩ : ByteArray).data.toList) = [7, 4, 97, 98] := by
    show [7] ++ (wint 2 ++ [97, 98]) = _
    rw [wint_2]; rfl
  rw [e] at this
  exact this

set_option maxRecDepth 100000 in
theorem awake_true (w : World) : Calls Try.prog 9 #[] w fun e w' => e = .returned (.bool true) ∧ Below w.heap.size w w' := by
  go_enter Try.func9, Try.ntmps9
  go_wp2_with fail
  (go_at_call 18; refine (exA _ (litA _)).mono ?_; rintro e wa ⟨rfl, hba⟩)
  go_wp2_with fail
  (go_at_call 18; refine (exB _ (litB _)).mono ?_; rintro e wb ⟨rfl, hbb⟩)
  go_wp2_with fail
  (go_at_call 13; refine (exC _).mono ?_; rintro e w1 ⟨v1, rfl, hr1, hb1⟩)
  go_wp2_with fail
  (go_at_call 12; refine (same_yes _ (hr1.seen.al _) (litC _)).mono ?_; rintro e w2 ⟨rfl, hb2⟩)
  go_wp2_with fail
  (go_at_call 13; refine (exD _).mono ?_; rintro e w3 ⟨v3, rfl, hr3, hb3⟩)
  go_wp2_with fail
  (go_at_call 12; refine (same_yes _ (hr3.seen.al _) (litD _)).mono ?_; rintro e w4 ⟨rfl, hb4⟩)
  go_wp2_with fail
  (go_at_call 15; refine (exE _ (litE _) (by simp)).mono ?_; rintro e w5 ⟨v5, rfl, hr5, hb5⟩)
  go_wp2_with fail
  (go_at_call 12; refine (same_yes _ (hr5.seen.al _) (litF _)).mono ?_; rintro e w6 ⟨rfl, hb6⟩)
  go_wp2_with fail
  go_ret
  exact ⟨rfl, (bt (bt (bt (bal _ _) hba) (bt (bal _ _) hbb)) (bt hb1 (bt (bt (bal _ _) hb2) (bt hb3 (bt (bt (bal _ _) hb4) (bt ((bal _ _).trans hb5) (bt (bal _ _) hb6)))))))⟩

end Go.Proofs.Ytemoekakpnaboaa
