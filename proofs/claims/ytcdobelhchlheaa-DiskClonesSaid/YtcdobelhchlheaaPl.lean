/-
  The document's act, done with the program's disk (made by disk-play-gen.py).
-/
import Derived.Test.YtcdobelhchlheaaWr
namespace Go.Proofs.Ytcdobelhchlheaa
open Go.RowKit
attribute [local go_sem ↓] Go.wp_at_zero Go.wp_at_succ

def Dsk.act (s : Dsk) (a : Actd) : Dsk × Int :=
  if a.kind.toNat % 6 = 0 then s.chg 0 a.area a.b
  else if a.kind.toNat % 6 = 1 then s.chg 1 a.area []
  else if a.kind.toNat % 6 = 2 then s.chg 2 a.area []
  else if a.kind.toNat % 6 = 3 then s.sync
  else if a.kind.toNat % 6 = 4 then (s.arm a.n, 0)
  else (s.crash a.n a.m, 0)
theorem Turned.after {B g : Nat} {s : Dsk} {F : Nat → Prop} {w w1 w' : World} (hb : Below w.heap.size w w1) (hB : B ≤ w.heap.size) (h : Turned B g s F w1 w') : Turned B g s F w w' := by
  obtain ⟨F', h1, h2, h3, h4⟩ := h
  have hs := hb.size
  exact ⟨F', h1, fun k hk => (h2 k hk).imp id (fun q => by omega), (hb.mono hB).trans h3, fun k hk hn => (h4 k (by omega) hn).trans (hb.block k hk)⟩
def Played (B g : Nat) (F : Nat → Prop) (w : World) (r : Dsk × Int) (e : Ending) (w' : World) : Prop := e = .returned (.int .i64 r.2) ∧ Turned B g r.1 F w w'
section
variable (a : Actd) (vb : Value) (w : World) (B g : Nat) (s : Dsk) (F : Nat → Prop) (h : Disk w B g s F) (hs : Seen w w.heap.size vb a.b)
include h hs
set_option maxRecDepth 100000 in
theorem play0 (hm : s.mass + a.b.length + 1 ≤ 900000) (hk : a.kind.toNat % 6 = 0) :
    Calls Try.prog 11 #[.pointer (some ⟨g, 0, none⟩), .agg #[.int .u8 (a.kind.toNat : Int), .int .i64 a.area, vb, .int .i64 a.n, .int .i64 a.m]] w (Played B g F w (s.chg 0 a.area a.b)) := by
  have hB := h.base
  have hb := bal w (.cells #[.int .u8 (a.kind.toNat : Int), .int .i64 a.area, vb, .int .i64 a.n, .int .i64 a.m] 32)
  have hd := h.on hb
  have hsd := hs.on hb
  have RC := Lib.hid (append_any a.area vb a.b _ _ B g s F hd hsd hm)
  obtain ⟨q, hq⟩ : ∃ q : Nat, q = a.kind.toNat := ⟨_, rfl⟩
  have hq2 : q < 256 := by rw [hq]; exact UInt8.toNat_lt _
  rw [← hq] at hk hb RC ⊢
  have HK : (q : Int) % 6 = 0 := by omega
  have HB := Lib.hid hb
  have HBB := Lib.hid hB
  obtain ⟨Ab, cb, hvb, _⟩ := hs
  subst hvb
  clear hq hk hb hd hsd h hB hm
  go_enter Try.func11, Try.ntmps11
  go_wp2_with fail
  go_at_call 19
  refine (RC.out).mono ?_
  rintro e w1 ⟨rfl, ht⟩
  go_wp2
  go_ret
  exact ⟨rfl, ht.after HB.out HBB.out⟩
set_option maxRecDepth 100000 in
theorem play1 (hm : s.mass + a.b.length + 1 ≤ 900000) (hk : a.kind.toNat % 6 = 1) :
    Calls Try.prog 11 #[.pointer (some ⟨g, 0, none⟩), .agg #[.int .u8 (a.kind.toNat : Int), .int .i64 a.area, vb, .int .i64 a.n, .int .i64 a.m]] w (Played B g F w (s.chg 1 a.area [])) := by
  have hB := h.base
  have hb := bal w (.cells #[.int .u8 (a.kind.toNat : Int), .int .i64 a.area, vb, .int .i64 a.n, .int .i64 a.m] 32)
  have hd := h.on hb
  have hsd := hs.on hb
  have RC := Lib.hid (wipe_any a.area _ B g s F hd (by omega))
  obtain ⟨q, hq⟩ : ∃ q : Nat, q = a.kind.toNat := ⟨_, rfl⟩
  have hq2 : q < 256 := by rw [hq]; exact UInt8.toNat_lt _
  rw [← hq] at hk hb RC ⊢
  have HK : (q : Int) % 6 = 1 := by omega
  have HB := Lib.hid hb
  have HBB := Lib.hid hB
  obtain ⟨Ab, cb, hvb, _⟩ := hs
  subst hvb
  clear hq hk hb hd hsd h hB hm
  go_enter Try.func11, Try.ntmps11
  go_wp2_with fail
  go_at_call 26
  refine (RC.out).mono ?_
  rintro e w1 ⟨rfl, ht⟩
  go_wp2
  go_ret
  exact ⟨rfl, ht.after HB.out HBB.out⟩
set_option maxRecDepth 100000 in
theorem play2 (hm : s.mass + a.b.length + 1 ≤ 900000) (hk : a.kind.toNat % 6 = 2) :
    Calls Try.prog 11 #[.pointer (some ⟨g, 0, none⟩), .agg #[.int .u8 (a.kind.toNat : Int), .int .i64 a.area, vb, .int .i64 a.n, .int .i64 a.m]] w (Played B g F w (s.chg 2 a.area [])) := by
  have hB := h.base
  have hb := bal w (.cells #[.int .u8 (a.kind.toNat : Int), .int .i64 a.area, vb, .int .i64 a.n, .int .i64 a.m] 32)
  have hd := h.on hb
  have hsd := hs.on hb
  have RC := Lib.hid (front_any a.area _ B g s F hd (by omega))
  obtain ⟨q, hq⟩ : ∃ q : Nat, q = a.kind.toNat := ⟨_, rfl⟩
  have hq2 : q < 256 := by rw [hq]; exact UInt8.toNat_lt _
  rw [← hq] at hk hb RC ⊢
  have HK : (q : Int) % 6 = 2 := by omega
  have HB := Lib.hid hb
  have HBB := Lib.hid hB
  obtain ⟨Ab, cb, hvb, _⟩ := hs
  subst hvb
  clear hq hk hb hd hsd h hB hm
  go_enter Try.func11, Try.ntmps11
  go_wp2_with fail
  go_at_call 25
  refine (RC.out).mono ?_
  rintro e w1 ⟨rfl, ht⟩
  go_wp2
  go_ret
  exact ⟨rfl, ht.after HB.out HBB.out⟩
set_option maxRecDepth 100000 in
theorem play3 (hm : s.mass + a.b.length + 1 ≤ 900000) (hk : a.kind.toNat % 6 = 3) :
    Calls Try.prog 11 #[.pointer (some ⟨g, 0, none⟩), .agg #[.int .u8 (a.kind.toNat : Int), .int .i64 a.area, vb, .int .i64 a.n, .int .i64 a.m]] w (Played B g F w (s.sync)) := by
  have hB := h.base
  have hb := bal w (.cells #[.int .u8 (a.kind.toNat : Int), .int .i64 a.area, vb, .int .i64 a.n, .int .i64 a.m] 32)
  have hd := h.on hb
  have hsd := hs.on hb
  have RC := Lib.hid (sync_any _ B g s F hd (by omega))
  obtain ⟨q, hq⟩ : ∃ q : Nat, q = a.kind.toNat := ⟨_, rfl⟩
  have hq2 : q < 256 := by rw [hq]; exact UInt8.toNat_lt _
  rw [← hq] at hk hb RC ⊢
  have HK : (q : Int) % 6 = 3 := by omega
  have HB := Lib.hid hb
  have HBB := Lib.hid hB
  obtain ⟨Ab, cb, hvb, _⟩ := hs
  subst hvb
  clear hq hk hb hd hsd h hB hm
  go_enter Try.func11, Try.ntmps11
  go_wp2_with fail
  go_at_call 15
  refine (RC.out).mono ?_
  rintro e w1 ⟨rfl, ht⟩
  go_wp2
  go_ret
  exact ⟨rfl, ht.after HB.out HBB.out⟩
set_option maxRecDepth 100000 in
theorem play4 (ha : a.right) (hk : a.kind.toNat % 6 = 4) :
    Calls Try.prog 11 #[.pointer (some ⟨g, 0, none⟩), .agg #[.int .u8 (a.kind.toNat : Int), .int .i64 a.area, vb, .int .i64 a.n, .int .i64 a.m]] w (Played B g F w ((s.arm a.n, 0))) := by
  have hB := h.base
  have hb := bal w (.cells #[.int .u8 (a.kind.toNat : Int), .int .i64 a.area, vb, .int .i64 a.n, .int .i64 a.m] 32)
  have hd := h.on hb
  have hsd := hs.on hb
  have RC := Lib.hid (arm_any a.n ha.2.1 _ B g s F hd)
  obtain ⟨q, hq⟩ : ∃ q : Nat, q = a.kind.toNat := ⟨_, rfl⟩
  have hq2 : q < 256 := by rw [hq]; exact UInt8.toNat_lt _
  rw [← hq] at hk hb RC ⊢
  have HK : (q : Int) % 6 = 4 := by omega
  have HB := Lib.hid hb
  have HBB := Lib.hid hB
  obtain ⟨Ab, cb, hvb, _⟩ := hs
  subst hvb
  clear hq hk hb hd hsd h hB ha
  go_enter Try.func11, Try.ntmps11
  go_wp2_with fail
  go_at_call 14
  refine (RC.out).mono ?_
  rintro e w1 ⟨rfl, ht⟩
  go_wp2
  go_ret
  exact ⟨rfl, ht.after HB.out HBB.out⟩
set_option maxRecDepth 100000 in
theorem play5 (hm : s.mass + a.b.length + 1 ≤ 900000) (hk : a.kind.toNat % 6 = 5) :
    Calls Try.prog 11 #[.pointer (some ⟨g, 0, none⟩), .agg #[.int .u8 (a.kind.toNat : Int), .int .i64 a.area, vb, .int .i64 a.n, .int .i64 a.m]] w (Played B g F w ((s.crash a.n a.m, 0))) := by
  have hB := h.base
  have hb := bal w (.cells #[.int .u8 (a.kind.toNat : Int), .int .i64 a.area, vb, .int .i64 a.n, .int .i64 a.m] 32)
  have hd := h.on hb
  have hsd := hs.on hb
  have RC := Lib.hid (crash_disk a.n a.m _ B g s F hd (by omega))
  obtain ⟨q, hq⟩ : ∃ q : Nat, q = a.kind.toNat := ⟨_, rfl⟩
  have hq2 : q < 256 := by rw [hq]; exact UInt8.toNat_lt _
  rw [← hq] at hk hb RC ⊢
  have HK : (q : Int) % 6 = 5 := by omega
  have HB := Lib.hid hb
  have HBB := Lib.hid hB
  obtain ⟨Ab, cb, hvb, _⟩ := hs
  subst hvb
  clear hq hk hb hd hsd h hB hm
  go_enter Try.func11, Try.ntmps11
  go_wp2_with fail
  go_at_call 20
  refine (RC.out).mono ?_
  rintro e w1 ⟨rfl, ht⟩
  go_wp2
  go_ret
  exact ⟨rfl, ht.after HB.out HBB.out⟩
theorem play_any (ha : a.right) (hm : s.mass + a.b.length + 1 ≤ 900000) : Calls Try.prog 11 #[.pointer (some ⟨g, 0, none⟩), .agg #[.int .u8 (a.kind.toNat : Int), .int .i64 a.area, vb, .int .i64 a.n, .int .i64 a.m]] w (Played B g F w (s.act a)) := by
  have h6 : a.kind.toNat % 6 < 6 := Nat.mod_lt _ (by omega)
  unfold Dsk.act
  by_cases k0 : a.kind.toNat % 6 = 0
  · rw [if_pos k0]; exact play0 a vb w B g s F h hs hm k0
  rw [if_neg k0]
  by_cases k1 : a.kind.toNat % 6 = 1
  · rw [if_pos k1]; exact play1 a vb w B g s F h hs hm k1
  rw [if_neg k1]
  by_cases k2 : a.kind.toNat % 6 = 2
  · rw [if_pos k2]; exact play2 a vb w B g s F h hs hm k2
  rw [if_neg k2]
  by_cases k3 : a.kind.toNat % 6 = 3
  · rw [if_pos k3]; exact play3 a vb w B g s F h hs hm k3
  rw [if_neg k3]
  by_cases k4 : a.kind.toNat % 6 = 4
  · rw [if_pos k4]; exact play4 a vb w B g s F h hs ha k4
  rw [if_neg k4]
  exact play5 a vb w B g s F h hs hm (by omega)
end

end Go.Proofs.Ytcdobelhchlheaa
