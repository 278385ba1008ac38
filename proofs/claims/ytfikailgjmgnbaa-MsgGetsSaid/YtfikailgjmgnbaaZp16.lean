/-
  Lists that are read thing by thing: where a list stands, and where none does (made by msg-list-gen.py).
  What is written behind a slice, and what is kept: numbers, truths, texts, versions.
  What entry.PutOp and entry.Put come to (made by entry-put-gen.py).
-/
import Derived.Test.YtfikailgjmgnbaaZp15
import Derived.Test.YtfikailgjmgnbaaZp02
import Derived.Test.YtfikailgjmgnbaaZp05
import Derived.Test.YtfikailgjmgnbaaZp06
import Derived.Test.YtfikailgjmgnbaaZp10

namespace Go.Proofs.Ytfikailgjmgnbaa
open Go.RowKit Flo

theorem bytesT_append : ∀ (a b : List Th), bytesT (a ++ b) = bytesT a ++ bytesT b
  | [], _ => rfl
  | x :: a, b => by rw [List.cons_append, bytesT, bytesT, bytesT_append a b, List.append_assoc]
theorem fget_wint {N : Nat} (hN : N ≤ 4096) (x : List UInt8) : fget .I (wint (N : Int) ++ x) = some (.int (N : Int), (wint (N : Int)).length) :=
  fget_bytes (f := .int (N : Int)) (show -9223372036854775808 ≤ (N : Int) ∧ (N : Int) ≤ 9223372036854775807 by omega) x
section
variable {K L : TK} {n : Nat} (LO : ListOf K L n)
include LO
theorem list_no1 {R : List UInt8} (h : ∀ (N : Nat) k, N ≤ 4096 → fget .I R ≠ some (.int (N : Int), k)) : ¬ ∃ t r, L.is t ∧ R = t.bytes ++ r := by
  rintro ⟨t, r, ht, rfl⟩
  obtain ⟨its, hl, _, hb⟩ := LO.from_ t ht
  rw [hb, List.append_assoc] at h
  exact h its.length _ hl (fget_wint hl _)
theorem list_no2 {R r : List UInt8} {N : Nat} {its : List Th} (hN : N ≤ 4096) (hlt : its.length < N) (hi : ∀ t ∈ its, K.is t) (hd : R = wint (N : Int) ++ (bytesT its ++ r)) (hno : ¬ ∃ t r', K.is t ∧ r = t.bytes ++ r') : ¬ ∃ t r, L.is t ∧ R = t.bytes ++ r := by
  rintro ⟨t, r2, ht, hd2⟩
  obtain ⟨us, hl, hu, hb⟩ := LO.from_ t ht
  rw [hd, hb, List.append_assoc] at hd2
  obtain ⟨e1, e2⟩ := wint_begins (by omega) (by omega) hd2
  obtain rfl : N = us.length := by omega
  have hbt : bytesT us = bytesT (us.take its.length) ++ (us[its.length].bytes ++ bytesT (us.drop (its.length + 1))) := by
    have h1 : us.take its.length ++ us.drop its.length = us := List.take_append_drop ..
    have h2 := bytesT_append (us.take its.length) (us.drop its.length)
    rw [h1, List.drop_eq_getElem_cons hlt] at h2
    exact h2
  have hare : ∀ (ls : List Th), (∀ t ∈ ls, K.is t) → Are (List.replicate ls.length K) ls := by
    intro ls
    induction ls with
    | nil => intro _; exact trivial
    | cons x s ih => intro h; exact ⟨h x (by simp), ih fun t ht => h t (by simp [ht])⟩
  rw [hbt, List.append_assoc] at e2
  have h2 := hare (us.take its.length) fun t ht => hu t (List.mem_of_mem_take ht)
  rw [List.length_take, Nat.min_eq_left (by omega)] at h2
  obtain ⟨_, e3⟩ := are_apart _ _ _ _ _ (hare its hi) h2 e2
  exact hno ⟨us[its.length], _, hu _ (List.getElem_mem hlt), by rw [e3, List.append_assoc]⟩
theorem list_yes {l r : List UInt8} {p N B : Nat} {its : List Th} {w : World} {v : Value} (hN : N ≤ 4096) (hl : its.length = N) (hi : ∀ t ∈ its, K.is t) (hd : l.drop p = wint (N : Int) ++ (bytesT its ++ r)) (hR : ItemsR w B v K n its) :
    Out L l p B [v] ((p + (wint (N : Int)).length + (bytesT its).length : Nat) : Int) true w := by
  subst hl
  obtain ⟨t, ht, hb, hm⟩ := LO.made its hN hi
  exact .inl ⟨t, r, ht, by rw [hd, hb, List.append_assoc], hm w B v hR, by rw [hb, List.length_append, ← Nat.add_assoc], rfl⟩
end
/-- the first thing of a list is there, or not -/
theorem next_at {l r : List UInt8} {p N : Nat} {its : List Th} (hd : l.drop p = wint (N : Int) ++ (bytesT its ++ r)) : l.drop (p + (wint (N : Int)).length + (bytesT its).length) = r := by
  rw [← List.drop_drop, ← List.drop_drop, hd, take_left_len _ _ _ rfl, take_left_len _ _ _ rfl]
theorem bytesT_more (its : List Th) (t : Th) : bytesT (its ++ [t]) = bytesT its ++ t.bytes := bytesT_snoc its t

/-- what a reading comes to that answers zeros where nothing stood -/
def GetsZ (K : TK) (l : List UInt8) (p : Nat) (w : World) (e : Ending) (w' : World) : Prop :=
  ∃ vs q ok, K.shape vs ∧ e = .returned (.tuple #[K.pack vs, .int .i64 q, .bool ok]) ∧ Below w.heap.size w w' ∧ Out K l p w.heap.size vs q ok w' ∧ (ok = false → vs = K.zero ∧ q = 0)
theorem GetsZ.gets {K : TK} {l : List UInt8} {p : Nat} {w w' : World} {e : Ending} (h : GetsZ K l p w e w') : GetsT K l p w e w' := by
  obtain ⟨vs, q, ok, h1, h2, h3, h4, _⟩ := h
  exact ⟨vs, q, ok, h1, h2, h3, h4⟩
def bsT (T : TypeId) (k : Nat) (ps : Array (Nat × Value)) : Sem Value := Instr.buildSlice T k ps
theorem fold_fill : ∀ (cs : List Value) (o : Nat) (a : List Value), a.length = o + cs.length → (cs.zipIdx o).foldl (fun (r : Array Value) (x : Value × Nat) => r.setIfInBounds x.2 x.1) a.toArray = (a.take o ++ cs).toArray
  | [], o, a, h => by
    rw [List.zipIdx_nil, List.foldl_nil, List.append_nil, List.take_of_length_le (by simp at h; omega)]
  | c :: cs, o, a, h => by
    rw [List.zipIdx_cons, List.foldl_cons, List.setIfInBounds_toArray, fold_fill cs (o + 1) _ (by rw [List.length_set, h, List.length_cons]; omega)]
    have ho : o < a.length := by rw [h, List.length_cons]; omega
    have h1 : (a.set o c).take (o + 1) = a.take o ++ [c] := by
      rw [List.take_add_one, List.take_set, List.set_eq_of_length_le (by rw [List.length_take]; omega), List.getElem?_set_self ho]
      rfl
    rw [h1, List.append_assoc]
    rfl
theorem run_bsT (T e n : Nat) (z : Value) (i : TypeInfo) (ht : Try.prog.underlying T = some (.slice e)) (hi : Try.prog.info? e = some i) (hz : i.zero = some z) (h1 : i.size = n) (hzs : z.cells.size = n) (hn : 0 < n) (hn2 : n ≤ 100) (W : World) (cs : List Value) (hf : Few n cs) :
    (bsT T 1 #[(0, .agg cs.toArray)]).run Try.prog W = .ok (.slice (some ⟨W.heap.size, 0, none⟩) 1 1) (W.alloc (.cells cs.toArray e)) := by
  have hsz : (sizeOf e).run Try.prog W = .ok n W := by simp [sizeOf, typeInfo, hi, h1]
  have hzv : (zeroValue e).run Try.prog W = .ok z W := by simp [zeroValue, typeInfo, hi, hz]
  have hu := run_underlying (w := W) ht
  have hn0 : ¬ (1 * n = 0) := by omega
  have hbig : ¬ (1 * n > 2 ^ 24) := by omega
  have hfill : Instr.fill (fun i => some (i * n, n)) ((Array.range (1 * n)).map (z.cells[· % z.cells.size]!)) [(0, .agg cs.toArray)] = some cs.toArray := by
    have hcs : (Value.agg cs.toArray).cells = cs.toArray := rfl
    have hl : ((Array.range (1 * n)).map (z.cells[· % z.cells.size]!)).size = n := by simp
    generalize (Array.range (1 * n)).map (z.cells[· % z.cells.size]!) = a0 at hl
    obtain ⟨al, rfl⟩ : ∃ al : List Value, a0 = al.toArray := ⟨a0.toList, by simp⟩
    rw [List.size_toArray] at hl
    unfold Instr.fill
    simp only [hcs, List.size_toArray, hf.1, Nat.zero_mul, Nat.zero_add, hl]
    rw [if_neg (by simp)]
    unfold Instr.fill
    have := fold_fill cs 0 al (by rw [Nat.zero_add, hl, hf.1])
    rw [List.take_zero, List.nil_append] at this
    rw [← Array.foldl_toList, Array.toList_zipIdx, this]
  unfold bsT Instr.buildSlice
  simp only [Sem.run_bind, Sem.run_pure, Result.andThen_ok, hu, hsz, hzv, hn0, hbig, if_false, hfill]
  rfl

end Go.Proofs.Ytfikailgjmgnbaa

namespace Go.Proofs.Ytfikailgjmgnbaa
open Go.RowKit Flo

/-- v' is v with m behind; where it lies, and what is kept -/
def Adds (w : World) (B : Nat) (v : Value) (l m : List UInt8) (w' : World) (v' : Value) : Prop :=
  Room w' B v' (l ++ m) ∧ Below B w w' ∧ (∀ g, v'.ownBlock = some g → v.ownBlock = some g ∨ w.heap.size ≤ g) ∧ ∀ k, k < w.heap.size → v.ownBlock ≠ some k → w'.heap[k]? = w.heap[k]?
theorem Adds.refl {w : World} {B : Nat} {v : Value} {l : List UInt8} (h : Room w B v l) : Adds w B v l [] w v :=
  ⟨by rw [List.append_nil]; exact h, Below.refl _ _, fun _ h => .inl h, fun _ _ _ => rfl⟩
theorem Adds.trans {w w1 w2 : World} {B : Nat} {v v1 v2 : Value} {l m n : List UInt8} (h1 : Adds w B v l m w1 v1) (h2 : Adds w1 B v1 (l ++ m) n w2 v2) : Adds w B v l (m ++ n) w2 v2 := by
  obtain ⟨a1, a2, a3, a4⟩ := h1
  obtain ⟨b1, b2, b3, b4⟩ := h2
  have hs := a2.size
  refine ⟨by rw [← List.append_assoc]; exact b1, a2.trans b2, fun g hg => ?_, fun k hk hv => ?_⟩
  · rcases b3 g hg with h | h
    · exact a3 g h
    · exact .inr (by omega)
  · rw [b4 k (by omega) (fun e => ?_), a4 k hk hv]
    rcases a3 k e with h | h
    · exact hv h
    · omega
theorem Adds.then {w w1 w2 : World} {B : Nat} {v v1 : Value} {l m : List UInt8} (h : Adds w B v l m w1 v1) (hB : B ≤ w.heap.size) (hb : Below w1.heap.size w1 w2) : Adds w B v l m w2 v1 := by
  obtain ⟨a1, a2, a3, a4⟩ := h
  have hs := a2.size
  exact ⟨a1.on hb, a2.trans (hb.mono (by omega)), a3, fun k hk hv => (hb.block k (by omega)).trans (a4 k hk hv)⟩
theorem Adds.ahead {w w1 w2 : World} {B : Nat} {v v2 : Value} {l m : List UInt8} (hb : Below w.heap.size w w1) (hB : B ≤ w.heap.size) (h : Adds w1 B v l m w2 v2) : Adds w B v l m w2 v2 := by
  obtain ⟨a1, a2, a3, a4⟩ := h
  have hs := hb.size
  refine ⟨a1, (hb.mono hB).trans a2, fun g hg => ?_, fun k hk hv => (a4 k (by omega) hv).trans (hb.block k hk)⟩
  rcases a3 g hg with h | h
  · exact .inl h
  · exact .inr (by omega)
theorem Adds.gives {w w' : World} {B : Nat} {v v' : Value} {l m : List UInt8} (h : Adds w B v l m w' v') : Gives B (l ++ m) w (.returned v') w' := ⟨v', rfl, h.1, h.2.1⟩

/-- where the loop of Int stands -/
def IntAs (B : Nat) (v0 : Value) (l : List UInt8) (m0 : Nat) (w : World) (v mv : Value) (wr : World) : Prop :=
  ∃ (m : Nat) (p : List UInt8), mv = .int .u64 (m : Int) ∧ m < 18446744073709551616 ∧ p ++ enc m = enc m0 ∧ Adds w B v0 l p wr v

set_option maxRecDepth 10000 in
set_option maxHeartbeats 400000 in
theorem int_adds (n : Int) (w : World) (B : Nat) (v : Value) (l : List UInt8) (h1 : -9223372036854775808 ≤ n) (h2 : n ≤ 9223372036854775807) (hr : Room w B v l) (hB : B ≤ w.heap.size) (hl : l.length ≤ 549755813888) :
    Calls Try.prog 71 #[v, .int .i64 n] w fun e w' => ∃ v', e = .returned v' ∧ Adds w B v l (wint n) w' v' := by
  obtain ⟨i0, hi0, hz0, hz1, hz2⟩ := info_parts byte_info
  have hz := zig_lt h1 h2
  have hle := enc_le _ hz
  have hE : Hid (wint n = enc (zig n)) := rfl
  have F := Lib.hid (fun w => fold_any n w h1 h2)
  generalize zig n = m0 at hz hle hE F
  have hz' : m0 < 18446744073709551616 := hz
  clear hz
  go_enter Try.func71, Try.ntmps71
  go_wp2_with (go_at_call 77; (with_reducible refine (F.out _).mono ?_); rintro e w' ⟨rfl, rfl⟩)
  go_loopw [0, 5] (IntAs B v l m0 w) (fun _ mv _ => (intOf mv).toNat)
  case atStart => exact ⟨m0, [], rfl, hz', rfl, Adds.refl hr⟩
  case round =>
    obtain ⟨m, p, rfl, hm, hp, hr'⟩ := hrel
    have hpl : (l ++ p).length + 1 ≤ 1099511627776 := by
      have := congrArg List.length hp
      rw [List.length_append] at this ⊢
      omega
    have HP := Lib.hid hp
    have HB := Lib.hid (Nat.le_trans hB hr'.2.1.size)
    clear hp
    by_cases hlt : m < 128
    · have hin : IntKind.u8.wrap (m : Int) = ((by_ m).toNat : Int) := low8 m hlt
      go_wp2_with (at_builtin; refine wpList_append8k (B := B) (l := l ++ p) (m := [by_ m]) rfl (.tmp 18) (.tmp 21) 22 22 rfl 5 i0 Try.underlying22 hi0 hz0 hz1 hz2 (hr'.1.on (bal _ _)) (Nat.le_trans HB.out (bal _ _).size) (src_one _ (by_ m) Try.underlying22) hpl rfl rfl ?_; intro v' w' h1 h2 h3 h4; have hg2 := hr'.trans (Adds.ahead (bal _ _) HB.out ⟨h1, h2, h3, h4⟩))
      go_ret
      refine ⟨v', rfl, ?_⟩
      rw [hE.out, ← HP.out, enc_small hlt]
      exact hg2
    · have hin := or128m m
      go_wp2_with (at_builtin; refine wpList_append8k (B := B) (l := l ++ p) (m := [by_ (m % 128 + 128)]) rfl (.tmp 10) (.tmp 14) 22 22 rfl 5 i0 Try.underlying22 hi0 hz0 hz1 hz2 (hr'.1.on (bal _ _)) (Nat.le_trans HB.out (bal _ _).size) (src_one _ (by_ (m % 128 + 128)) Try.underlying22) hpl rfl rfl ?_; intro v' w' h1 h2 h3 h4; have hg2 := hr'.trans (Adds.ahead (bal _ _) HB.out ⟨h1, h2, h3, h4⟩))
      go_roundw
      case rel =>
        refine ⟨m / 128, p ++ [by_ (m % 128 + 128)], by go_num, by omega, ?_, hg2⟩
        rw [← HP.out, enc_big hlt, List.append_assoc]
        rfl
      case measure => simp [intOf]; omega

set_option maxRecDepth 10000 in
theorem bool_adds (is : Bool) (w : World) (B : Nat) (v : Value) (l : List UInt8) (hr : Room w B v l) (hB : B ≤ w.heap.size) (hl : l.length ≤ 549755813888) :
    Calls Try.prog 44 #[v, .bool is] w fun e w' => ∃ v', e = .returned v' ∧ Adds w B v l [bit is] w' v' := by
  obtain ⟨i0, hi0, hz0, hz1, hz2⟩ := info_parts byte_info
  have hpl : l.length + 1 ≤ 1099511627776 := by omega
  cases is
  · go_enter Try.func44, Try.ntmps44
    go_wp2_with (at_builtin; refine wpList_append8k (B := B) (l := l) (m := [0]) rfl (.tmp 9) (.tmp 10) 22 22 rfl 5 i0 Try.underlying22 hi0 hz0 hz1 hz2 (hr.on (bal _ _)) (Nat.le_trans hB (bal _ _).size) (src_one _ 0 Try.underlying22) hpl rfl rfl ?_; intro v' w' h1 h2 h3 h4; have hg2 := (Adds.ahead (bal _ _) hB ⟨h1, h2, h3, h4⟩))
    go_ret
    exact ⟨v', rfl, hg2⟩
  · go_enter Try.func44, Try.ntmps44
    go_wp2_with (at_builtin; refine wpList_append8k (B := B) (l := l) (m := [1]) rfl (.tmp 6) (.tmp 7) 22 22 rfl 5 i0 Try.underlying22 hi0 hz0 hz1 hz2 (hr.on (bal _ _)) (Nat.le_trans hB (bal _ _).size) (src_one _ 1 Try.underlying22) hpl rfl rfl ?_; intro v' w' h1 h2 h3 h4; have hg2 := (Adds.ahead (bal _ _) hB ⟨h1, h2, h3, h4⟩))
    go_ret
    exact ⟨v', rfl, hg2⟩

set_option maxRecDepth 10000 in
theorem text_adds (s : ByteArray) (w : World) (B : Nat) (v : Value) (l : List UInt8) (hr : Room w B v l) (hB : B ≤ w.heap.size) (hl : l.length ≤ 274877906944) (hs : s.size ≤ 274877906944) :
    Calls Try.prog 45 #[v, .string s] w fun e w' => ∃ v', e = .returned v' ∧ Adds w B v l (wint s.size ++ s.data.toList) w' v' := by
  obtain ⟨i0, hi0, hz0, hz1, hz2⟩ := info_parts byte_info
  have hle := wint_le (n := (s.size : Int)) (by omega) (by omega)
  have hpl : (l ++ wint s.size).length + s.data.toList.length ≤ 1099511627776 := by
    rw [List.length_append]
    have : s.data.toList.length = s.size := by simp
    omega
  have R := Lib.hid (int_adds (s.size : Int) w B v l (by omega) (by omega) hr hB (by omega))
  go_enter Try.func45, Try.ntmps45
  go_wp2_with (first
    | (go_at_call 71; (with_reducible refine R.out.mono ?_); rintro e w1 ⟨v1, rfl, ha1⟩)
    | (at_builtin; refine wpList_append8k (B := B) (l := l ++ wint s.size) (m := s.data.toList) rfl (.tmp 8) (.tmp 9) 22 9 rfl 5 i0 Try.underlying22 hi0 hz0 hz1 hz2 ha1.1 (Nat.le_trans hB ha1.2.1.size) (src_string _ Try.underlying9 s) hpl rfl rfl ?_; intro v' w' h1 h2 h3 h4; have hg2 := ha1.trans ⟨h1, h2, h3, h4⟩))
  go_ret
  exact ⟨v', rfl, hg2⟩

set_option maxRecDepth 10000 in
theorem wver_adds (a b : Int) (w : World) (B : Nat) (v : Value) (l : List UInt8) (hr : Room w B v l) (hB : B ≤ w.heap.size) (hl : l.length ≤ 274877906944) (ha : In a) (hb : In b) :
    Calls Try.prog 46 #[v, ver a b] w fun e w' => ∃ v', e = .returned v' ∧ Adds w B v l (wint a ++ wint b) w' v' := by
  have ha' := ha
  have hb' := hb
  unfold In at ha' hb'
  have hle := wint_le (n := a) (by omega) (by omega)
  have R := Lib.hid (int_adds a w B v l (by omega) (by omega) hr hB (by omega))
  have R2 := Lib.hid (fun w' v' (h : Room w' B v' (l ++ wint a)) (h' : B ≤ w'.heap.size) => int_adds b w' B v' (l ++ wint a) (by omega) (by omega) h h' (by rw [List.length_append]; omega))
  go_enter Try.func46, Try.ntmps46
  go_wp2_with (first
    | (go_at_call 72; (with_reducible refine (epoch_any a b _ ha).mono ?_); rintro e w1 ⟨rfl, rfl⟩)
    | (go_at_call 73; (with_reducible refine (num_any a b _ hb).mono ?_); rintro e w1 ⟨rfl, rfl⟩)
    | (go_at_call 71; (with_reducible refine R.out.mono ?_); rintro e w1 ⟨v1, rfl, ha1⟩; have hr1 : Room w1 B v1 (l ++ wint a) := ha1.1; have hs1 : B ≤ w1.heap.size := Nat.le_trans hB ha1.2.1.size)
    | (go_at_call 71; (with_reducible refine (R2.out _ _ hr1 hs1).mono ?_); rintro e w2 ⟨v2, rfl, ha2⟩))
  go_ret
  exact ⟨v2, rfl, ha1.trans ha2⟩

end Go.Proofs.Ytfikailgjmgnbaa

namespace Go.Proofs.Ytfikailgjmgnbaa
open Go.RowKit Flo
attribute [local go_sem ↓] Go.wp_at_zero Go.wp_at_succ

/-- the first k fields are written; the box of all of them stands -/
def Step (B : Nat) (v : Value) (l : List UInt8) (g : Nat) (vs : List Value) (w1 : World) (k : Nat) (M : List UInt8) (W : World) (u : Value) : Prop :=
  Adds w1 B v l M W u ∧ Held g vs W ∧ u.ownBlock ≠ some g ∧ (l ++ M).length ≤ 200000000000 + 1000000 * k ∧ B ≤ W.heap.size
theorem Step.cells {B : Nat} {v : Value} {l : List UInt8} {g : Nat} {vs : List Value} {w1 : World} {k : Nat} {M : List UInt8} {W : World} {u : Value} (h : Step B v l g vs w1 k M W u) : cellsAre g W 0 vs := h.2.1.all
theorem Step.start {B : Nat} {v : Value} {l : List UInt8} {w : World} (vs : List Value) (T : TypeId) (hr : Room w B v l) (hB : B ≤ w.heap.size) (hl : l.length ≤ 200000000000) :
    Step B v l w.heap.size vs (w.alloc (.cells vs.toArray T)) 0 [] (w.alloc (.cells vs.toArray T)) v :=
  ⟨Adds.refl (hr.al _), held_made w vs T, fun e => absurd (hr.own_lt _ e) (Nat.lt_irrefl _), by rw [List.append_nil]; omega, Nat.le_trans hB (bal w _).size⟩
theorem Step.next {B : Nat} {v : Value} {l : List UInt8} {g : Nat} {vs : List Value} {w1 : World} {k : Nat} {M : List UInt8} {W W' : World} {u u' : Value} {f : Fld} (hf : f.right) (h : Step B v l g vs w1 k M W u) (ha : Adds W B u (l ++ M) f.bytes W' u') : Step B v l g vs w1 (k + 1) (M ++ f.bytes) W' u' := by
  obtain ⟨h1, h2, h3, h4, h5⟩ := h
  have hbl := bit_len f hf
  have hs := ha.2.1.size
  refine ⟨h1.trans ha, ⟨Nat.lt_of_lt_of_le h2.1 hs, fun i hi => (World.cell?_of_block (a := ⟨g, i, none⟩) (ha.2.2.2 g h2.1 h3)).trans (h2.2 i hi)⟩, fun e => ?_, ?_, Nat.le_trans h5 hs⟩
  · rcases ha.2.2.1 g e with h | h
    · exact h3 h
    · exact absurd h2.1 (by omega)
  · rw [← List.append_assoc, List.length_append]; omega
def Steps (B : Nat) (v : Value) (l : List UInt8) (g : Nat) (vs : List Value) (w1 : World) (k : Nat) (M : List UInt8) (e : Ending) (W' : World) : Prop := ∃ u', e = .returned u' ∧ Step B v l g vs w1 k M W' u'
section
variable {B : Nat} {v : Value} {l : List UInt8} {g : Nat} {vs : List Value} {w1 : World} {k : Nat} {M : List UInt8} {W : World} {u : Value} (h : Step B v l g vs w1 k M W u) (hk : k ≤ 100)
include h hk
theorem step_int {n : Int} (hf : (Fld.int n).right) : Calls Try.prog 71 #[u, .int .i64 n] W (Steps B v l g vs w1 (k + 1) (M ++ (Fld.int n).bytes)) :=
  (int_adds n W B u (l ++ M) hf.1 hf.2 h.1.1 h.2.2.2.2 (by have := h.2.2.2.1; omega)).mono fun _ _ ⟨v', he, ha⟩ => ⟨v', he, h.next hf ha⟩
theorem step_text {s : ByteArray} (hf : (Fld.text s).right) : Calls Try.prog 45 #[u, .string s] W (Steps B v l g vs w1 (k + 1) (M ++ (Fld.text s).bytes)) :=
  (text_adds s W B u (l ++ M) h.1.1 h.2.2.2.2 (by have := h.2.2.2.1; omega) (by have : s.size ≤ 65536 := hf; omega)).mono fun _ _ ⟨v', he, ha⟩ => ⟨v', he, h.next hf ha⟩
theorem step_truth {b : Bool} : Calls Try.prog 44 #[u, .bool b] W (Steps B v l g vs w1 (k + 1) (M ++ (Fld.truth b).bytes)) :=
  (bool_adds b W B u (l ++ M) h.1.1 h.2.2.2.2 (by have := h.2.2.2.1; omega)).mono fun _ _ ⟨v', he, ha⟩ => ⟨v', he, h.next (f := .truth b) trivial ha⟩
theorem step_ver {a b : Int} (hf : (Fld.ver a b).right) : Calls Try.prog 46 #[u, ver a b] W (Steps B v l g vs w1 (k + 1) (M ++ (Fld.ver a b).bytes)) :=
  (wver_adds a b W B u (l ++ M) h.1.1 h.2.2.2.2 (by have := h.2.2.2.1; omega) (in_of hf.1) (in_of hf.2)).mono fun _ _ ⟨v', he, ha⟩ => ⟨v', he, h.next hf ha⟩
end

set_option maxRecDepth 100000 in
set_option maxHeartbeats 1000000 in
theorem putop_any (kd : Int) (key : ByteArray) (val : ByteArray) (old : ByteArray) (has : Bool) (w : World) (B : Nat) (v : Value) (l : List UInt8) (hroom : Room w B v l) (hB : B ≤ w.heap.size) (hl : l.length ≤ 200000000000) (h1 : (Fld.int kd).right) (h2 : (Fld.text key).right) (h3 : (Fld.text val).right) (h4 : (Fld.text old).right) :
    Calls Try.prog 47 #[v, .agg #[.int .i64 kd, .string key, .string val, .string old, .bool has]] w fun e w' => ∃ v', e = .returned v' ∧ Adds w B v l (bytesOf [Fld.int kd, Fld.text key, Fld.text val, Fld.text old, Fld.truth has]) w' v' := by
  have S0 := Step.start [.int .i64 kd, .string key, .string val, .string old, .bool has] 27 hroom hB hl
  have C0 := S0.cells
  simp only [cellsAre] at C0
  have HB := Lib.hid hB
  have R1 := Lib.hid (fun (W : World) (u : Value) (M : List UInt8) (h : Step B v l w.heap.size [.int .i64 kd, .string key, .string val, .string old, .bool has] (w.alloc (.cells #[.int .i64 kd, .string key, .string val, .string old, .bool has] 27)) 0 M W u) => step_int h (by omega) h1)
  have R2 := Lib.hid (fun (W : World) (u : Value) (M : List UInt8) (h : Step B v l w.heap.size [.int .i64 kd, .string key, .string val, .string old, .bool has] (w.alloc (.cells #[.int .i64 kd, .string key, .string val, .string old, .bool has] 27)) 1 M W u) => step_text h (by omega) h2)
  have R3 := Lib.hid (fun (W : World) (u : Value) (M : List UInt8) (h : Step B v l w.heap.size [.int .i64 kd, .string key, .string val, .string old, .bool has] (w.alloc (.cells #[.int .i64 kd, .string key, .string val, .string old, .bool has] 27)) 2 M W u) => step_text h (by omega) h3)
  have R4 := Lib.hid (fun (W : World) (u : Value) (M : List UInt8) (h : Step B v l w.heap.size [.int .i64 kd, .string key, .string val, .string old, .bool has] (w.alloc (.cells #[.int .i64 kd, .string key, .string val, .string old, .bool has] 27)) 3 M W u) => step_text h (by omega) h4)
  have R5 := Lib.hid (fun (W : World) (u : Value) (M : List UInt8) (h : Step B v l w.heap.size [.int .i64 kd, .string key, .string val, .string old, .bool has] (w.alloc (.cells #[.int .i64 kd, .string key, .string val, .string old, .bool has] 27)) 4 M W u) => step_truth (b := has) h (by omega))
  clear hroom hB hl h1 h2 h3 h4
  go_enter Try.func47, Try.ntmps47
  go_wp2_with (first
    | (go_at_call 71; (with_reducible refine (R1.out _ _ _ S0).mono ?_); rintro e w1 ⟨v1, rfl, S1⟩; have C1 := S1.cells; simp only [cellsAre] at C1; clear C0)
    | (go_at_call 45; (with_reducible refine (R2.out _ _ _ S1).mono ?_); rintro e w2 ⟨v2, rfl, S2⟩; have C2 := S2.cells; simp only [cellsAre] at C2; clear C1)
    | (go_at_call 45; (with_reducible refine (R3.out _ _ _ S2).mono ?_); rintro e w3 ⟨v3, rfl, S3⟩; have C3 := S3.cells; simp only [cellsAre] at C3; clear C2)
    | (go_at_call 45; (with_reducible refine (R4.out _ _ _ S3).mono ?_); rintro e w4 ⟨v4, rfl, S4⟩; have C4 := S4.cells; simp only [cellsAre] at C4; clear C3)
    | (go_at_call 44; (with_reducible refine (R5.out _ _ _ S4).mono ?_); rintro e w5 ⟨v5, rfl, S5⟩))
  go_ret
  refine ⟨v5, rfl, ?_⟩
  have h := Adds.ahead (bal w _) HB.out S5.1
  simp only [List.nil_append, List.append_assoc] at h
  simp only [bytesOf, List.append_nil]
  exact h

set_option maxRecDepth 100000 in
set_option maxHeartbeats 1000000 in
theorem putentry_any (vr : Int × Int) (kd : Int) (key : ByteArray) (val : ByteArray) (wr : Bool) (dl : Bool) (se : Int) (nu : Int) (co : Int) (rs : ByteArray) (hr : Bool) (w : World) (B : Nat) (v : Value) (l : List UInt8) (hroom : Room w B v l) (hB : B ≤ w.heap.size) (hl : l.length ≤ 200000000000) (h1 : (Fld.ver vr.1 vr.2).right) (h2 : (Fld.int kd).right) (h3 : (Fld.text key).right) (h4 : (Fld.text val).right) (h7 : (Fld.int se).right) (h8 : (Fld.int nu).right) (h9 : (Fld.int co).right) (h10 : (Fld.text rs).right) :
    Calls Try.prog 49 #[v, .agg #[ver vr.1 vr.2, .int .i64 kd, .string key, .string val, .bool wr, .bool dl, .int .i64 se, .int .i64 nu, .int .i64 co, .string rs, .bool hr]] w fun e w' => ∃ v', e = .returned v' ∧ Adds w B v l (bytesOf [Fld.ver vr.1 vr.2, Fld.int kd, Fld.text key, Fld.text val, Fld.truth wr, Fld.truth dl, Fld.int se, Fld.int nu, Fld.int co, Fld.text rs, Fld.truth hr]) w' v' := by
  have S0 := Step.start [ver vr.1 vr.2, .int .i64 kd, .string key, .string val, .bool wr, .bool dl, .int .i64 se, .int .i64 nu, .int .i64 co, .string rs, .bool hr] 68 hroom hB hl
  have C0 := S0.cells
  simp only [cellsAre] at C0
  have HB := Lib.hid hB
  have R1 := Lib.hid (fun (W : World) (u : Value) (M : List UInt8) (h : Step B v l w.heap.size [ver vr.1 vr.2, .int .i64 kd, .string key, .string val, .bool wr, .bool dl, .int .i64 se, .int .i64 nu, .int .i64 co, .string rs, .bool hr] (w.alloc (.cells #[ver vr.1 vr.2, .int .i64 kd, .string key, .string val, .bool wr, .bool dl, .int .i64 se, .int .i64 nu, .int .i64 co, .string rs, .bool hr] 68)) 0 M W u) => step_ver h (by omega) h1)
  have R2 := Lib.hid (fun (W : World) (u : Value) (M : List UInt8) (h : Step B v l w.heap.size [ver vr.1 vr.2, .int .i64 kd, .string key, .string val, .bool wr, .bool dl, .int .i64 se, .int .i64 nu, .int .i64 co, .string rs, .bool hr] (w.alloc (.cells #[ver vr.1 vr.2, .int .i64 kd, .string key, .string val, .bool wr, .bool dl, .int .i64 se, .int .i64 nu, .int .i64 co, .string rs, .bool hr] 68)) 1 M W u) => step_int h (by omega) h2)
  have R3 := Lib.hid (fun (W : World) (u : Value) (M : List UInt8) (h : Step B v l w.heap.size [ver vr.1 vr.2, .int .i64 kd, .string key, .string val, .bool wr, .bool dl, .int .i64 se, .int .i64 nu, .int .i64 co, .string rs, .bool hr] (w.alloc (.cells #[ver vr.1 vr.2, .int .i64 kd, .string key, .string val, .bool wr, .bool dl, .int .i64 se, .int .i64 nu, .int .i64 co, .string rs, .bool hr] 68)) 2 M W u) => step_text h (by omega) h3)
  have R4 := Lib.hid (fun (W : World) (u : Value) (M : List UInt8) (h : Step B v l w.heap.size [ver vr.1 vr.2, .int .i64 kd, .string key, .string val, .bool wr, .bool dl, .int .i64 se, .int .i64 nu, .int .i64 co, .string rs, .bool hr] (w.alloc (.cells #[ver vr.1 vr.2, .int .i64 kd, .string key, .string val, .bool wr, .bool dl, .int .i64 se, .int .i64 nu, .int .i64 co, .string rs, .bool hr] 68)) 3 M W u) => step_text h (by omega) h4)
  have R5 := Lib.hid (fun (W : World) (u : Value) (M : List UInt8) (h : Step B v l w.heap.size [ver vr.1 vr.2, .int .i64 kd, .string key, .string val, .bool wr, .bool dl, .int .i64 se, .int .i64 nu, .int .i64 co, .string rs, .bool hr] (w.alloc (.cells #[ver vr.1 vr.2, .int .i64 kd, .string key, .string val, .bool wr, .bool dl, .int .i64 se, .int .i64 nu, .int .i64 co, .string rs, .bool hr] 68)) 4 M W u) => step_truth (b := wr) h (by omega))
  have R6 := Lib.hid (fun (W : World) (u : Value) (M : List UInt8) (h : Step B v l w.heap.size [ver vr.1 vr.2, .int .i64 kd, .string key, .string val, .bool wr, .bool dl, .int .i64 se, .int .i64 nu, .int .i64 co, .string rs, .bool hr] (w.alloc (.cells #[ver vr.1 vr.2, .int .i64 kd, .string key, .string val, .bool wr, .bool dl, .int .i64 se, .int .i64 nu, .int .i64 co, .string rs, .bool hr] 68)) 5 M W u) => step_truth (b := dl) h (by omega))
  have R7 := Lib.hid (fun (W : World) (u : Value) (M : List UInt8) (h : Step B v l w.heap.size [ver vr.1 vr.2, .int .i64 kd, .string key, .string val, .bool wr, .bool dl, .int .i64 se, .int .i64 nu, .int .i64 co, .string rs, .bool hr] (w.alloc (.cells #[ver vr.1 vr.2, .int .i64 kd, .string key, .string val, .bool wr, .bool dl, .int .i64 se, .int .i64 nu, .int .i64 co, .string rs, .bool hr] 68)) 6 M W u) => step_int h (by omega) h7)
  have R8 := Lib.hid (fun (W : World) (u : Value) (M : List UInt8) (h : Step B v l w.heap.size [ver vr.1 vr.2, .int .i64 kd, .string key, .string val, .bool wr, .bool dl, .int .i64 se, .int .i64 nu, .int .i64 co, .string rs, .bool hr] (w.alloc (.cells #[ver vr.1 vr.2, .int .i64 kd, .string key, .string val, .bool wr, .bool dl, .int .i64 se, .int .i64 nu, .int .i64 co, .string rs, .bool hr] 68)) 7 M W u) => step_int h (by omega) h8)
  have R9 := Lib.hid (fun (W : World) (u : Value) (M : List UInt8) (h : Step B v l w.heap.size [ver vr.1 vr.2, .int .i64 kd, .string key, .string val, .bool wr, .bool dl, .int .i64 se, .int .i64 nu, .int .i64 co, .string rs, .bool hr] (w.alloc (.cells #[ver vr.1 vr.2, .int .i64 kd, .string key, .string val, .bool wr, .bool dl, .int .i64 se, .int .i64 nu, .int .i64 co, .string rs, .bool hr] 68)) 8 M W u) => step_int h (by omega) h9)
  have R10 := Lib.hid (fun (W : World) (u : Value) (M : List UInt8) (h : Step B v l w.heap.size [ver vr.1 vr.2, .int .i64 kd, .string key, .string val, .bool wr, .bool dl, .int .i64 se, .int .i64 nu, .int .i64 co, .string rs, .bool hr] (w.alloc (.cells #[ver vr.1 vr.2, .int .i64 kd, .string key, .string val, .bool wr, .bool dl, .int .i64 se, .int .i64 nu, .int .i64 co, .string rs, .bool hr] 68)) 9 M W u) => step_text h (by omega) h10)
  have R11 := Lib.hid (fun (W : World) (u : Value) (M : List UInt8) (h : Step B v l w.heap.size [ver vr.1 vr.2, .int .i64 kd, .string key, .string val, .bool wr, .bool dl, .int .i64 se, .int .i64 nu, .int .i64 co, .string rs, .bool hr] (w.alloc (.cells #[ver vr.1 vr.2, .int .i64 kd, .string key, .string val, .bool wr, .bool dl, .int .i64 se, .int .i64 nu, .int .i64 co, .string rs, .bool hr] 68)) 10 M W u) => step_truth (b := hr) h (by omega))
  clear hroom hB hl h1 h2 h3 h4 h7 h8 h9 h10
  go_enter Try.func49, Try.ntmps49
  go_wp2_with (first
    | (go_at_call 46; (with_reducible refine (R1.out _ _ _ S0).mono ?_); rintro e w1 ⟨v1, rfl, S1⟩; have C1 := S1.cells; simp only [cellsAre] at C1; clear C0)
    | (go_at_call 71; (with_reducible refine (R2.out _ _ _ S1).mono ?_); rintro e w2 ⟨v2, rfl, S2⟩; have C2 := S2.cells; simp only [cellsAre] at C2; clear C1)
    | (go_at_call 45; (with_reducible refine (R3.out _ _ _ S2).mono ?_); rintro e w3 ⟨v3, rfl, S3⟩; have C3 := S3.cells; simp only [cellsAre] at C3; clear C2)
    | (go_at_call 45; (with_reducible refine (R4.out _ _ _ S3).mono ?_); rintro e w4 ⟨v4, rfl, S4⟩; have C4 := S4.cells; simp only [cellsAre] at C4; clear C3)
    | (go_at_call 44; (with_reducible refine (R5.out _ _ _ S4).mono ?_); rintro e w5 ⟨v5, rfl, S5⟩; have C5 := S5.cells; simp only [cellsAre] at C5; clear C4)
    | (go_at_call 44; (with_reducible refine (R6.out _ _ _ S5).mono ?_); rintro e w6 ⟨v6, rfl, S6⟩; have C6 := S6.cells; simp only [cellsAre] at C6; clear C5)
    | (go_at_call 71; (with_reducible refine (R7.out _ _ _ S6).mono ?_); rintro e w7 ⟨v7, rfl, S7⟩; have C7 := S7.cells; simp only [cellsAre] at C7; clear C6)
    | (go_at_call 71; (with_reducible refine (R8.out _ _ _ S7).mono ?_); rintro e w8 ⟨v8, rfl, S8⟩; have C8 := S8.cells; simp only [cellsAre] at C8; clear C7)
    | (go_at_call 71; (with_reducible refine (R9.out _ _ _ S8).mono ?_); rintro e w9 ⟨v9, rfl, S9⟩; have C9 := S9.cells; simp only [cellsAre] at C9; clear C8)
    | (go_at_call 45; (with_reducible refine (R10.out _ _ _ S9).mono ?_); rintro e w10 ⟨v10, rfl, S10⟩; have C10 := S10.cells; simp only [cellsAre] at C10; clear C9)
    | (go_at_call 44; (with_reducible refine (R11.out _ _ _ S10).mono ?_); rintro e w11 ⟨v11, rfl, S11⟩))
  go_ret
  refine ⟨v11, rfl, ?_⟩
  have h := Adds.ahead (bal w _) HB.out S11.1
  simp only [List.nil_append, List.append_assoc] at h
  simp only [bytesOf, List.append_nil]
  exact h

theorem put_writesO : ∀ (w : World) (B : Nat) (v : Value) (l : List UInt8) (fs : List Fld), kinds fs = KO → (∀ f ∈ fs, f.right) → Room w B v l → B ≤ w.heap.size → l.length ≤ 200000000000 → Calls Try.prog 47 #[v, .agg (fs.map Fld.val).toArray] w fun e w' => ∃ v', e = .returned v' ∧ Adds w B v l (bytesOf fs) w' v' := by
  intro w B v l fs hk hf hr hB hl
  obtain ⟨kd, key, val, old, has, rfl⟩ := kinds_op hk
  exact putop_any kd key val old has w B v l hr hB hl (hf _ (by simp)) (hf _ (by simp)) (hf _ (by simp)) (hf _ (by simp))
theorem put_writesE : ∀ (w : World) (B : Nat) (v : Value) (l : List UInt8) (fs : List Fld), kinds fs = KE → (∀ f ∈ fs, f.right) → Room w B v l → B ≤ w.heap.size → l.length ≤ 200000000000 → Calls Try.prog 49 #[v, .agg (fs.map Fld.val).toArray] w fun e w' => ∃ v', e = .returned v' ∧ Adds w B v l (bytesOf fs) w' v' := by
  intro w B v l fs hk hf hr hB hl
  obtain ⟨vr, kd, key, val, wr, dl, se, nu, co, rs, hr', rfl⟩ := kinds_en hk
  exact putentry_any vr kd key val wr dl se nu co rs hr' w B v l hr hB hl (hf _ (by simp)) (hf _ (by simp)) (hf _ (by simp)) (hf _ (by simp)) (hf _ (by simp)) (hf _ (by simp)) (hf _ (by simp)) (hf _ (by simp))

end Go.Proofs.Ytfikailgjmgnbaa
