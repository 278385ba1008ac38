/-
  The document's answers that the statements begin with.
-/
import Derived.Test.YthpbnjmhhkkkiaaCu
import Derived.Lib.SlBytesConst
namespace Go.Proofs.Ythpbnjmhhkkkiaa
open Go.RowKit
attribute [local go_sem ↓] Go.wp_at_zero Go.wp_at_succ

theorem bytes_const (w : World) (l : List UInt8) (e : TypeId) (q : Nat × Nat) (hl : l.length ≤ maxLen) : Seen (w.alloc (.cells (c8 l).toArray e q)) (w.alloc (.cells (c8 l).toArray e q)).heap.size (.slice (some ⟨w.heap.size, 0, none⟩) l.length l.length) l := by
  have hs : w.heap.size < (w.alloc (.cells (c8 l).toArray e q)).heap.size := by simp
  refine ⟨_, _, rfl, Nat.le_refl _, hl, .inr ⟨_, _, rfl, hs, hs, fun j hj => ?_⟩⟩
  have h1 : (w.alloc (.cells (c8 l).toArray e q)).heap[w.heap.size]? = some (.cells (c8 l).toArray e q) := by
    show (w.heap.push _)[w.heap.size]? = _
    simp
  have h2 := c8_get l j hj
  simp only [World.cell?, h1, Nat.zero_add]
  simpa using h2
theorem conv_seen {w : World} {B : Nat} {v : Value} {l : List UInt8} (h : Seen w B v l) : (convert 25 9 v).run Try.prog w = .ok (.string ⟨l.toArray⟩) w := by
  obtain ⟨A, c, rfl, h1, h2, h3⟩ := h
  rcases h3 with rfl | ⟨b, off, rfl, _, _, hr⟩
  · cases A with
    | none =>
      show (convert 25 9 (.slice none 0 c)).run Try.prog w = _
      rw [run_convert_bytes_string w 25 9 5 none 0 c Try.underlying25 Try.underlying5 Try.underlying9]
      rfl
    | some a => exact run_convert_bytes_back w 25 9 5 a c [] Try.underlying25 Try.underlying5 Try.underlying9 (fun j hj => by cases hj)
  · exact run_convert_bytes_back w 25 9 5 ⟨b, off, none⟩ c l Try.underlying25 Try.underlying5 Try.underlying9 (fun j hj => by rw [Addr.add_lit]; exact hr j hj)

def kn1 : Nett := ⟨1, [⟨0, 1, [97]⟩]⟩
def kn2 : Nett := ⟨2, [⟨0, 1, [97]⟩, ⟨1, 2, [98]⟩]⟩
def kn3 : Nett := ⟨3, [⟨0, 1, [97]⟩, ⟨1, 2, [98]⟩, ⟨2, 1, [97]⟩]⟩
def kn4 : Nett := ⟨3, [⟨0, 1, [97]⟩, ⟨2, 1, [97]⟩]⟩
theorem kn_1 : Nett.send ⟨0, []⟩ 1 [97] = kn1 := rfl
theorem kn_2 : kn1.send 2 [98] = kn2 := rfl
theorem kn_3 : kn2.copied 0 = kn3 := rfl
theorem kn_4 : kn3.taken 4 = (⟨1, 2, [98]⟩, kn4, true) := rfl
theorem kn_5 : (kn3.cutTo 1).l = [⟨1, 2, [98]⟩] := rfl
theorem fit0 : Fit [] := ⟨by decide, fun _ h => by cases h⟩
theorem fit1 : Fit kn1.l := ⟨by decide, by unfold kn1; decide⟩
theorem fit2 : Fit kn2.l := ⟨by decide, by unfold kn2; decide⟩
theorem fit3 : Fit kn3.l := ⟨by decide, by unfold kn3; decide⟩
@[local go_sem] theorem run_netlist1 (w : World) (x : Int) (A : Option Addr) (n c : Nat) : (Instr.field 24 (.agg #[.int .i64 x, .slice A n c]) 1).run Try.prog w = .ok (.slice A n c) w := by kernel_rfl

set_option maxRecDepth 100000 in
set_option maxHeartbeats 2000000 in
theorem awake_ok : AwakeOk := by
  intro w
  have kc := fun (w : World) (C : Array Value) (n c : Nat) => Lib.run_convert_bytes_const (P := Try.prog) w 25 5 C n c Try.underlying25 Try.underlying5
  go_enter Try.func7, Try.ntmps7
  go_wp2_with fail
  go_at_call 13
  have hs1 := bytes_const w [97] 5 (1, 2) (by decide)
  have a1 := bal w (.cells (c8 [97]).toArray 5 (1, 2))
  refine (send_own _ _ _ ⟨0, []⟩ 1 [97] ⟨_, rfl, PktsAt.nil⟩ hs1 fit0 (by decide) (by decide) (by decide) (by decide)).mono ?_
  rintro e w1 ⟨lv1, rfl, ho1, hb1⟩
  have b1 : Below w.heap.size w w1 := bt a1 hb1
  rw [kn_1] at ho1
  rw [kn_1]
  have hn1 := ho1.x.pkts
  clear hs1 a1 hb1 ho1
  go_wp2_with fail
  go_at_call 13
  have hs2 := bytes_const w1 [98] 5 (1, 2) (by decide)
  have a2 := bal w1 (.cells (c8 [98]).toArray 5 (1, 2))
  refine (send_own _ _ _ kn1 2 [98] ⟨_, rfl, hn1.on a2⟩ hs2 fit1 (by decide) (by decide) (by decide) (by decide)).mono ?_
  rintro e w2 ⟨lv2, rfl, ho2, hb2⟩
  have b2 : Below w.heap.size w w2 := bt (bt b1 a2) hb2
  rw [kn_2] at ho2
  rw [kn_2]
  have hn2 := ho2.x.pkts
  clear hs2 a2 hb2 ho2 hn1 b1
  go_wp2_with fail
  go_at_call 16
  refine (copy_own _ _ kn2 0 ⟨_, rfl, hn2⟩ fit2 (by decide) (by decide) (by decide) (by decide)).mono ?_
  rintro e w3 ⟨lv3, rfl, ho3, hb3⟩
  have b3 : Below w.heap.size w w3 := bt b2 hb3
  rw [kn_3] at ho3
  rw [kn_3]
  have hn3 := ho3.x.pkts
  clear hb3 ho3 hn2 b2
  rw [show kn3.next = 3 from rfl]
  obtain ⟨A3, c3, rfl⟩ : ∃ A c, lv3 = .slice A 3 c := by obtain ⟨A, c, _, e, _⟩ := hn3; exact ⟨A, c, e⟩
  have a3 := bal w3 (.cells #[.int .i64 3, .slice A3 3 c3] 24)
  have bx := box_made w3 [.int .i64 3, .slice A3 3 c3] 24
  have hn3' := hn3.on a3
  have b3' := bt b3 a3
  have x0 := bx.get 0 rfl
  have x1 := bx.get 1 rfl
  clear a3 b3 hn3
  go_wp2_with fail
  go_at_call 9
  refine (take_own _ _ kn3 4 ⟨_, rfl, hn3'⟩ fit3 (by decide)).mono ?_
  rintro e w4 ⟨vb, lv4, rfl, hob, ho4, hb4⟩
  rw [kn_4] at hob ho4 ⊢
  rw [show kn4.next = 3 from rfl]
  obtain ⟨A4, c4, rfl⟩ : ∃ A c, lv4 = .slice A 2 c := by obtain ⟨A, c, e, _⟩ := ho4; exact ⟨A, c, e⟩
  have hvs := hob.x.seen
  obtain ⟨Ab, cb, rfl⟩ : ∃ A c, vb = .slice A 1 c := by obtain ⟨A, c, e, _⟩ := hvs; exact ⟨A, c, e⟩
  have b4 := bt b3' hb4
  have a4 : Below w4.heap.size w4 ((w4.alloc (.cells #[.int .i64 1, .int .i64 2, .slice Ab 1 cb] 29)).alloc (.cells #[.int .i64 3, .slice A4 2 c4] 24)) := bt (bal _ _) (bal _ _)
  have hn5 := (hn3'.on hb4).on a4
  have bx5 := (bx.on hb4).on a4
  have z0 := bx5.get 0 rfl
  have z1 := bx5.get 1 rfl
  have hv5 := hvs.on a4
  have b5 := bt b4 a4
  have p5 := (box_made w4 [.int .i64 1, .int .i64 2, .slice Ab 1 cb] 29).on (bal _ (.cells #[.int .i64 3, .slice A4 2 c4] 24))
  have q0 := p5.get 2 rfl
  have q5 := box_made (w4.alloc (.cells #[.int .i64 1, .int .i64 2, .slice Ab 1 cb] 29)) [.int .i64 3, .slice A4 2 c4] 24
  have q1 := q5.get 1 rfl
  simp only [World.size_alloc] at q1
  obtain ⟨gb, go, vc, rfl, hgb, _, hsc, d0, d1, d2⟩ := hn5.at_ 2 (by decide)
  have k1 := conv_seen hv5
  replace d0 : ((w4.alloc (.cells #[.int .i64 1, .int .i64 2, .slice Ab 1 cb] 29)).alloc (.cells #[.int .i64 3, .slice A4 2 c4] 24)).cell? ⟨gb, go + 2 * 3, none⟩ = some (.int .i64 2) := d0
  have k2 : (convert 25 9 vc).run Try.prog ((w4.alloc (.cells #[.int .i64 1, .int .i64 2, .slice Ab 1 cb] 29)).alloc (.cells #[.int .i64 3, .slice A4 2 c4] 24)) = .ok (.string ⟨#[97]⟩) _ := conv_seen hsc
  obtain ⟨Ac, cc, rfl⟩ : ∃ A c, vc = .slice A 1 c := by obtain ⟨A, c, e, _⟩ := hsc; exact ⟨A, c, e⟩
  have CUT := Lib.hid (cut_own _ _ kn3 1 ⟨_, rfl, hn5⟩ fit3)
  have HB5 := Lib.hid b5
  clear x0 x1 bx hn3' b3' hb4 hob ho4 hvs b4 a4 hn5 bx5 hv5 b5 p5 q5 hsc
  go_wp2_with fail
  go_at_call 18
  refine (CUT.out).mono ?_
  rintro e w6 ⟨lv6, rfl, ho6, hb6⟩
  rw [kn_5] at ho6
  rw [show (kn3.cutTo 1).next = 3 from rfl]
  obtain ⟨A6, c6, rfl⟩ : ∃ A c, lv6 = .slice A 1 c := by obtain ⟨A, c, e, _⟩ := ho6; exact ⟨A, c, e⟩
  have HB6 := Lib.hid (bt HB5.out hb6)
  clear ho6 hb6
  go_wp2
  go_ret
  exact ⟨rfl, HB6.out⟩

end Go.Proofs.Ythpbnjmhhkkkiaa
