/-
  EntryGets' walk: one of four ways (made by entry-law-gen.py).
-/
import Derived.Test.YtmohanbgplffcaaLg0
namespace Go.Proofs.Ytmohanbgplffcaa
open Go.RowKit Flo
attribute [local go_sem ↓] Go.wp_at_zero Go.wp_at_succ

set_option maxRecDepth 100000 in
set_option maxHeartbeats 2000000 in
theorem gets_ss (AW : AwakeOk) (GE : ReadsOk 6 KE) (GO : ReadsOk 7 KO) (v : Value) (l : List UInt8) (p : Nat) (w : World) (hv : Seen w w.heap.size v l) (hl : l.length ≤ 3000) (hp : p ≤ 4000)
    {fs : List Fld} {k : Nat} (he : gets KE (l.drop p) = some (fs, k)) {gs : List Fld} {j : Nat} (ho : gets KO (l.drop p) = some (gs, j)) :
    Calls Try.prog 3 #[v, .int .i64 (p : Int)] w fun e w' => e = .returned (.bool true) ∧ Below w.heap.size w w' := by
  have HS := Lib.hid hv
  have HAW := Lib.hid AW
  obtain ⟨A, c, rfl, hA⟩ := hv
  have hlc := hA.1
  have hcm := hA.2.1
  unfold maxLen at hcm
  obtain ⟨e1, e2, e3, e4⟩ := gets_is he
  rw [List.length_drop] at e2
  obtain ⟨vr, kd, key, val, wr, dl, se, nu, co, rs, hr, rfl⟩ := kinds_en e3
  obtain ⟨X, hX⟩ : ∃ X : Nat, X = p + k := ⟨_, rfl⟩
  obtain ⟨o1, o2, o3, o4⟩ := gets_is ho
  rw [List.length_drop] at o2
  obtain ⟨okd, okey, oval, old, has, rfl⟩ := kinds_op o3
  obtain ⟨Y, hY⟩ : ∃ Y : Nat, Y = p + j := ⟨_, rfl⟩
  have hk0 := gets_pos he (by decide)
  have hj0 := gets_pos ho (by decide)
  obtain ⟨b, off, rfl, _⟩ := hA.row (by omega)
  obtain ⟨L, hL⟩ : ∃ L, L = bytesOf [.ver vr.1 vr.2, .int kd, .text key, .text val, .truth wr, .truth dl, .int se, .int nu, .int co, .text rs, .truth hr] := ⟨_, rfl⟩
  have SX : Hid (Seen w w.heap.size (.slice (some ⟨b, off + p, none⟩) (X - p) (c - p)) L) := by
    have := cut_seen hA p X (by omega) (by omega)
    rw [show X - p = k by omega] at this ⊢
    rw [e1, ← hL] at this
    exact this
  have RE : Hid (∀ W, Calls Try.prog 9 #[.agg #[ver vr.1 vr.2, .int .i64 kd, .string key, .string val, .bool wr, .bool dl, .int .i64 se, .int .i64 nu, .int .i64 co, .string rs, .bool hr]] W (Tells L W)) := fun W => by
    have := rentry_r vr kd key val wr dl se nu co rs hr W (e4 _ (by simp)) (e4 _ (by simp)) (e4 _ (by simp)) (e4 _ (by simp)) (e4 _ (by simp)) (e4 _ (by simp)) (e4 _ (by simp)) (e4 _ (by simp))
    rw [← hL] at this
    exact this
  obtain ⟨M, hM⟩ : ∃ M, M = bytesOf [.int okd, .text okey, .text oval, .text old, .truth has] := ⟨_, rfl⟩
  have SY : Hid (Seen w w.heap.size (.slice (some ⟨b, off + p, none⟩) (Y - p) (c - p)) M) := by
    have := cut_seen hA p Y (by omega) (by omega)
    rw [show Y - p = j by omega] at this ⊢
    rw [o1, ← hM] at this
    exact this
  have RO : Hid (∀ W, Calls Try.prog 10 #[.agg #[.int .i64 okd, .string okey, .string oval, .string old, .bool has]] W (Tells M W)) := fun W => by
    have := rop_r okd okey oval old has W (o4 _ (by simp)) (o4 _ (by simp)) (o4 _ (by simp)) (o4 _ (by simp))
    rw [← hM] at this
    exact this
  have G1 : Hid (∀ W, Seen W W.heap.size (.slice (some ⟨b, off, none⟩) l.length c) l → Calls Try.prog 6 #[.slice (some ⟨b, off, none⟩) l.length c, .int .i64 (p : Int)] W fun e w' => e = .returned (.tuple #[.agg #[ver vr.1 vr.2, .int .i64 kd, .string key, .string val, .bool wr, .bool dl, .int .i64 se, .int .i64 nu, .int .i64 co, .string rs, .bool hr], .int .i64 (X : Int), .bool true]) ∧ Below W.heap.size W w') := fun W h => by
    have := GE W _ l p h (by omega) hp
    unfold gotS at this
    rw [he] at this
    rw [hX]
    exact this
  have G2 : Hid (∀ W, Seen W W.heap.size (.slice (some ⟨b, off, none⟩) l.length c) l → Calls Try.prog 7 #[.slice (some ⟨b, off, none⟩) l.length c, .int .i64 (p : Int)] W fun e w' => e = .returned (.tuple #[.agg #[.int .i64 okd, .string okey, .string oval, .string old, .bool has], .int .i64 (Y : Int), .bool true]) ∧ Below W.heap.size W w') := fun W h => by
    have := GO W _ l p h (by omega) hp
    unfold gotS at this
    rw [ho] at this
    rw [hY]
    exact this
  have x1 : (p : Int) ≤ (X : Int) := by omega
  have x2 : (X : Int) ≤ (l.length : Int) := by omega
  have x3 : (X : Int) ≤ (c : Int) := by omega
  have x4 : ¬ X < p := by omega
  have x5 : ¬ l.length < X := by omega
  have x6 : decide (X < p) = false := decide_eq_false x4
  have x7 : decide (l.length < X) = false := decide_eq_false x5
  have y1 : (p : Int) ≤ (Y : Int) := by omega
  have y2 : (Y : Int) ≤ (l.length : Int) := by omega
  have y3 : (Y : Int) ≤ (c : Int) := by omega
  have y4 : ¬ Y < p := by omega
  have y5 : ¬ l.length < Y := by omega
  have y6 : decide (Y < p) = false := decide_eq_false y4
  have y7 : decide (l.length < Y) = false := decide_eq_false y5
  have p0 : (0 : Int) ≤ (p : Int) := by omega
  have hcp : ¬ c = p := by omega
  clear AW GE GO he ho hA
  clear e1 e2 e3 e4 hX hL hk0
  clear o1 o2 o3 o4 hY hM hj0
  have hez := eq_zero
  go_enter Try.func3, Try.ntmps3
  go_wp2_with (first
    | (go_at_call 5; refine (HAW.out _).mono ?_; rintro e w0 ⟨rfl, hb0⟩)
    | (go_at_call 6; (with_reducible refine (G1.out _ (HS.out.on hb0)).mono ?_); rintro e w1 ⟨rfl, hb1⟩)
    | (go_at_call 7; refine (G2.out _ ((HS.out.on (bt hb0 hb1)).al _)).mono ?_; rintro e w2 ⟨rfl, hb2⟩))
  have H1 := (held_made w1 [ver vr.1 vr.2, .int .i64 kd, .string key, .string val, .bool wr, .bool dl, .int .i64 se, .int .i64 nu, .int .i64 co, .string rs, .bool hr] 27).on hb2
  have H2 := held_made w2 [.int .i64 okd, .string okey, .string oval, .string old, .bool has] 31
  change Held w2.heap.size _ (World.alloc w2 (.cells #[.int .i64 okd, .string okey, .string oval, .string old, .bool has] 31)) at H2
  have hb3 := bal w2 (.cells #[.int .i64 okd, .string okey, .string oval, .string old, .bool has] 31)
  generalize World.alloc w2 (.cells #[.int .i64 okd, .string okey, .string oval, .string old, .bool has] 31) = w3 at H2 hb3 ⊢
  have hb03 : Below w.heap.size w w3 := bt hb0 (bt hb1 (bt (bal w1 (.cells #[ver vr.1 vr.2, .int .i64 kd, .string key, .string val, .bool wr, .bool dl, .int .i64 se, .int .i64 nu, .int .i64 co, .string rs, .bool hr] 27)) (bt hb2 hb3)))
  replace H1 := H1.on hb3
  have KAa := H1.all
  have KBa := H2.all
  simp only [cellsAre] at KAa KBa
  have hda : Below w3.heap.size w3 w3.drew := (Below.refl _ _).drew
  have KDa := (H1.on hda).all
  have KZa := H1.all
  have Sa := Lib.hid (SX.out.on hb03)
  first | (go_region_held3 (fun W => W.cell? ⟨w1.heap.size, 0, none⟩ = some (ver vr.1 vr.2) ∧ W.cell? ⟨w1.heap.size, 1, none⟩ = some (.int .i64 kd) ∧ W.cell? ⟨w1.heap.size, 2, none⟩ = some (.string key) ∧ W.cell? ⟨w1.heap.size, 3, none⟩ = some (.string val) ∧ W.cell? ⟨w1.heap.size, 4, none⟩ = some (.bool wr) ∧ W.cell? ⟨w1.heap.size, 5, none⟩ = some (.bool dl) ∧ W.cell? ⟨w1.heap.size, 6, none⟩ = some (.int .i64 se) ∧ W.cell? ⟨w1.heap.size, 7, none⟩ = some (.int .i64 nu) ∧ W.cell? ⟨w1.heap.size, 8, none⟩ = some (.int .i64 co) ∧ W.cell? ⟨w1.heap.size, 9, none⟩ = some (.string rs) ∧ W.cell? ⟨w1.heap.size, 10, none⟩ = some (.bool hr)) (first | exact KFa | exact KEa | exact KDa | exact KZa) (first
    | (go_at_call 9; (with_reducible refine (RE.out _).mono ?_); rintro e waa ⟨Aaa, caa, rfl, hsaa, hbaa⟩; have hbxa : Below w3.heap.size w3 waa := hda.trans hbaa; have KEa := (H1.on hbxa).all)
    | (go_at_call 8; (with_reducible refine (same_yes _ hsaa (Sa.out.on hbxa)).mono ?_); rintro e w5 ⟨rfl, hbsa⟩; have hb5 : Below w3.heap.size w3 w5 := bt hbxa hbsa; have KFa := (H1.on hb5).all))) | fail
  clear KAa KBa KDa KZa KEa KFa
  replace H1 := H1.on hb5
  replace H2 := H2.on hb5
  have hb05 := bt hb03 hb5
  go_wp2
  have KAb := H1.all
  have KBb := H2.all
  simp only [cellsAre] at KAb KBb
  have hdb : Below w5.heap.size w5 w5.drew := (Below.refl _ _).drew
  have KDb := (H2.on hdb).all
  have KZb := H2.all
  have Sb := Lib.hid (SY.out.on hb05)
  first | (go_region_held3 (fun W => W.cell? ⟨w2.heap.size, 0, none⟩ = some (.int .i64 okd) ∧ W.cell? ⟨w2.heap.size, 1, none⟩ = some (.string okey) ∧ W.cell? ⟨w2.heap.size, 2, none⟩ = some (.string oval) ∧ W.cell? ⟨w2.heap.size, 3, none⟩ = some (.string old) ∧ W.cell? ⟨w2.heap.size, 4, none⟩ = some (.bool has)) (first | exact KFb | exact KEb | exact KDb | exact KZb) (first
    | (go_at_call 10; (with_reducible refine (RO.out _).mono ?_); rintro e wab ⟨Aab, cab, rfl, hsab, hbab⟩; have hbxb : Below w5.heap.size w5 wab := hdb.trans hbab; have KEb := (H2.on hbxb).all)
    | (go_at_call 8; (with_reducible refine (same_yes _ hsab (Sb.out.on hbxb)).mono ?_); rintro e w7 ⟨rfl, hbsb⟩; have hb7 : Below w5.heap.size w5 w7 := bt hbxb hbsb; have KFb := (H2.on hb7).all))) | fail
  clear KAb KBb KDb KZb KEb KFb
  replace H1 := H1.on hb7
  replace H2 := H2.on hb7
  have hb07 := bt hb05 hb7
  have KA := H1.all
  have KB := H2.all
  simp only [cellsAre] at KA KB
  go_wp2
  go_ret
  exact ⟨rfl, hb07⟩

end Go.Proofs.Ytmohanbgplffcaa
