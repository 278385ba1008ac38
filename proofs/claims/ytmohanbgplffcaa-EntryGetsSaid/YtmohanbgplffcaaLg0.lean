/-
  EntryGets' walk, given what entry.Get and entry.GetOp come to.
-/
import Derived.Test.YtmohanbgplffcaaRo
namespace Go.Proofs.Ytmohanbgplffcaa
open Go.RowKit Flo
attribute [local go_sem ↓] Go.wp_at_zero Go.wp_at_succ

@[go_sem] theorem run_store_complex {P : Program} (w : World) (a : Addr) (m : Mode) (k : FloatKind) (x y : Nat) : (store a (.complex k x y) m).run P w = stored P w a (.complex k x y) m := run_store P w a _ m rfl
@[go_sem] theorem run_store_ver {P : Program} (w : World) (a : Addr) (m : Mode) (x y : Int) : (store a (ver x y) m).run P w = stored P w a (ver x y) m := run_store P w a _ m rfl

theorem run_equalIn_complex {P : Program} (w : World) (d : Nat) (t : TypeId) (k' : FloatKind) (a b c e : Nat) (h : P.underlying t = some (.complex k')) :
    (Op.equalIn (d + 1) t (.complex .f64 a b) (.complex .f64 c e)).run P w = .ok ((FloatKind.f64.format.order a c == some .eq) && (FloatKind.f64.format.order b e == some .eq)) w := by
  simp [Op.equalIn, run_underlying h]
  rfl
theorem eq_zero (w : World) : (Op.equalIn 9999 25 (.complex .f64 0 0) (.complex .f64 0 0)).run Try.prog w = .ok true w := by
  have : (Op.equalIn (9998 + 1) 25 (.complex .f64 0 0) (.complex .f64 0 0)).run Try.prog w = _ := run_equalIn_complex w 9998 25 .f64 0 0 0 0 Try.underlying25
  rw [show (9999 : Nat) = 9998 + 1 from rfl, this]
  rfl
theorem eq_ver (w : World) {a b c e : Int} (ha : In a) (hb : In b) (hc : In c) (he : In e) : (Op.equalIn 9999 25 (ver a b) (ver c e)).run Try.prog w = .ok (decide (a = c) && decide (b = e)) w := by
  have : (Op.equalIn (9998 + 1) 25 (.complex .f64 (F a) (F b)) (.complex .f64 (F c) (F e))).run Try.prog w = _ := run_equalIn_complex w 9998 25 .f64 _ _ _ _ Try.underlying25
  rw [eq_F ha hc, eq_F hb he] at this
  exact this

def KE : List Knd := [.V, .I, .T, .T, .B, .B, .I, .I, .I, .T, .B]
def KO : List Knd := [.I, .T, .T, .T, .B]
/-- what a reading of fields comes to -/
def gotS (ks : List Knd) (l : List UInt8) (p : Nat) : Value := match gets ks (l.drop p) with
  | some (fs, k) => .tuple #[.agg (fs.map Fld.val).toArray, .int .i64 ((p + k : Nat) : Int), .bool true]
  | none => .tuple #[.agg (ks.map Knd.zero).toArray, .int .i64 0, .bool false]
def ReadsOk (f : FuncId) (ks : List Knd) : Prop := ∀ (w : World) (v : Value) (l : List UInt8) (p : Nat), Seen w w.heap.size v l → l.length ≤ 4000 → p ≤ 4000 → Calls Try.prog f #[v, .int .i64 (p : Int)] w fun e w' => e = .returned (gotS ks l p) ∧ Below w.heap.size w w'
def AwakeOk : Prop := ∀ w : World, Calls Try.prog 5 #[] w fun e w' => e = .returned (.bool true) ∧ Below w.heap.size w w'

theorem gets_pos : ∀ {ks : List Knd} {R : List UInt8} {fs : List Fld} {k : Nat}, gets ks R = some (fs, k) → ks ≠ [] → 0 < k
  | [], _, _, _, _, h => absurd rfl h
  | K :: ks, R, fs, k, h, _ => by
    unfold gets at h
    split at h
    · cases h
    · rename_i f j hf
      split at h
      · cases h
      · obtain ⟨rfl, rfl⟩ := Prod.mk.inj (Option.some.inj h)
        have := (fget_is hf).2.1
        omega
theorem kinds_op {fs : List Fld} (h : kinds fs = KO) : ∃ kd key val old has, fs = [.int kd, .text key, .text val, .text old, .truth has] := by
  match fs, h with
  | [.int kd, .text key, .text val, .text old, .truth has], _ => exact ⟨kd, key, val, old, has, rfl⟩
theorem kinds_en {fs : List Fld} (h : kinds fs = KE) : ∃ vr kd key val wr dl se nu co rs hr, fs = [.ver (Prod.fst vr) (Prod.snd vr), .int kd, .text key, .text val, .truth wr, .truth dl, .int se, .int nu, .int co, .text rs, .truth hr] := by
  match fs, h with
  | [.ver a b, .int kd, .text key, .text val, .truth wr, .truth dl, .int se, .int nu, .int co, .text rs, .truth hr], _ => exact ⟨(a, b), kd, key, val, wr, dl, se, nu, co, rs, hr, rfl⟩

theorem cut_seen {w : World} {B b off c : Nat} {l : List UInt8} (h : At w B (some ⟨b, off, none⟩) c l) (p X : Nat) (h1 : p ≤ X) (h2 : X ≤ l.length) :
    Seen w B (.slice (some ⟨b, off + p, none⟩) (X - p) (c - p)) ((l.drop p).take (X - p)) := by
  obtain ⟨a1, a2, a3⟩ := h
  have hlen : ((l.drop p).take (X - p)).length = X - p := by rw [List.length_take, List.length_drop]; omega
  refine ⟨_, c - p, by rw [hlen], by rw [hlen]; omega, by omega, ?_⟩
  rcases a3 with rfl | ⟨b', off', e, hb, hw, hr⟩
  · exact .inl (by simp)
  · injection e with e
    injection e with e1 e2 _
    subst e1 e2
    exact .inr ⟨b, off + p, rfl, hb, hw, (hr.drop p).take _⟩

end Go.Proofs.Ytmohanbgplffcaa
