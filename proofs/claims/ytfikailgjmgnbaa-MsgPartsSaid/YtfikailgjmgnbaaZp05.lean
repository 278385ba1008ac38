/-
  Fields as bytes: numbers, texts, truths, versions, one behind the other: what is written, what is read; and the program's readers of wire, said of fields.
  What the document's own functions answer: numbers and texts as bytes, sameness, beginnings.
  What the document's own functions answer: texts as bytes.
  The document's own functions of entries: bytes one behind the other; a truth's byte; a version's bytes.
  The document's own bytes of a version, of an operation, of an entry.
-/
import Derived.Test.YtfikailgjmgnbaaZp03
import Derived.Test.YtfikailgjmgnbaaZp04
import Derived.Test.YtfikailgjmgnbaaZp02
import Derived.Deep.RegionHeld3
import Derived.Deep.DrawnRows

namespace Go.Proofs.Ytfikailgjmgnbaa
open Go.RowKit Flo

/-- a field -/
inductive Fld where
  | int (n : Int)
  | text (s : ByteArray)
  | truth (b : Bool)
  | ver (e n : Int)
/-- a field's kind -/
inductive Knd where
  | I
  | T
  | B
  | V
def Fld.knd : Fld → Knd
  | .int _ => .I
  | .text _ => .T
  | .truth _ => .B
  | .ver _ _ => .V
def Fld.val : Fld → Value
  | .int n => .int .i64 n
  | .text s => .string s
  | .truth b => .bool b
  | .ver e n => Proofs.Ytfikailgjmgnbaa.ver e n
def Knd.zero : Knd → Value
  | .I => .int .i64 0
  | .T => .string ⟨#[]⟩
  | .B => .bool false
  | .V => .complex .f64 0 0
def Fld.bytes : Fld → List UInt8
  | .int n => wint n
  | .text s => wint (s.size : Int) ++ s.data.toList
  | .truth b => [bit b]
  | .ver e n => wint e ++ wint n
/-- what may be written -/
def Fld.right : Fld → Prop
  | .int n => -9223372036854775808 ≤ n ∧ n ≤ 9223372036854775807
  | .text s => s.size ≤ 65536
  | .truth _ => True
  | .ver e n => (0 ≤ e ∧ e ≤ M40) ∧ (0 ≤ n ∧ n ≤ M40)
def fgetI (R : List UInt8) : Option (Fld × Nat) := (geti R).map fun x => (.int x.1, x.2)
def fgetT (R : List UInt8) : Option (Fld × Nat) := match upTo 65536 R with
  | some (n, k) => if k + n.toNat ≤ R.length then some (.text ⟨((R.drop k).take n.toNat).toArray⟩, k + n.toNat) else none
  | none => none
def fgetB (R : List UInt8) : Option (Fld × Nat) := match R with
  | [] => none
  | c :: _ => if c.toNat ≤ 1 then some (.truth (decide (c.toNat = 1)), 1) else none
def fgetV (R : List UInt8) : Option (Fld × Nat) := match upTo M40 R with
  | some (a, j) => match upTo M40 (R.drop j) with
    | some (b, k) => some (.ver a b, j + k)
    | none => none
  | none => none
def fget : Knd → List UInt8 → Option (Fld × Nat)
  | .I => fgetI
  | .T => fgetT
  | .B => fgetB
  | .V => fgetV
def gets : List Knd → List UInt8 → Option (List Fld × Nat)
  | [], _ => some ([], 0)
  | K :: ks, R => match fget K R with
    | none => none
    | some (f, k) => match gets ks (R.drop k) with
      | none => none
      | some (fs, j) => some (f :: fs, k + j)
def bytesOf : List Fld → List UInt8
  | [] => []
  | f :: fs => f.bytes ++ bytesOf fs
def kinds (fs : List Fld) : List Knd := fs.map Fld.knd

theorem upTo_geti {most : Int} {R : List UInt8} {n : Int} {k : Nat} (h : geti R = some (n, k)) (hb : 0 ≤ n ∧ n ≤ most) : upTo most R = some (n, k) := by
  unfold upTo; rw [h]; exact if_pos hb
theorem upTo_wint {most : Int} {n : Int} (h0 : 0 ≤ n) (h1 : n ≤ most) (h2 : n ≤ 9223372036854775807) (x : List UInt8) : upTo most (wint n ++ x) = some (n, (wint n).length) :=
  upTo_geti (geti_wint (by omega) h2 x) ⟨h0, h1⟩

theorem fget_is {K : Knd} {R : List UInt8} {f : Fld} {k : Nat} (h : fget K R = some (f, k)) : R.take k = f.bytes ∧ 0 < k ∧ k ≤ R.length ∧ f.knd = K ∧ f.right := by
  cases K with
  | I =>
    obtain ⟨⟨n, j⟩, hg, he⟩ := Option.map_eq_some_iff.1 (show (geti R).map _ = _ from h)
    simp only [Prod.mk.injEq] at he
    obtain ⟨rfl, rfl⟩ := he
    obtain ⟨a1, a2, a3, _, a5, a6⟩ := geti_is hg
    exact ⟨a1, a2, a3, rfl, a5, a6⟩
  | T =>
    replace h : fgetT R = some (f, k) := h
    unfold fgetT at h
    split at h
    · rename_i n j hu
      split at h
      · rename_i hl
        obtain ⟨rfl, rfl⟩ := Prod.mk.inj (Option.some.inj h)
        obtain ⟨hg, h0, h1⟩ := upTo_is hu
        obtain ⟨a1, a2, a3, _, a5, a6⟩ := geti_is hg
        have hlen : ((R.drop j).take n.toNat).length = n.toNat := by rw [List.length_take, List.length_drop]; omega
        have hsz : (⟨((R.drop j).take n.toNat).toArray⟩ : ByteArray).size = n.toNat := hlen
        refine ⟨?_, by omega, hl, rfl, ?_⟩
        · show _ = wint _ ++ _
          rw [hsz, List.take_add, a1, show ((n.toNat : Nat) : Int) = n by omega]
        · show _ ≤ 65536
          rw [hsz]; omega
      · cases h
    · cases h
  | B =>
    replace h : fgetB R = some (f, k) := h
    unfold fgetB at h
    split at h
    · cases h
    · rename_i c t
      split at h
      · rename_i hc
        obtain ⟨rfl, rfl⟩ := Prod.mk.inj (Option.some.inj h)
        refine ⟨?_, by omega, by simp, rfl, trivial⟩
        show [c] = [bit _]
        unfold bit
        by_cases h1 : c.toNat = 1
        · rw [if_pos (decide_eq_true h1)]
          congr 1
          exact UInt8.toNat_inj.1 h1
        · rw [if_neg (by simp [h1])]
          congr 1
          exact UInt8.toNat_inj.1 (by show c.toNat = 0; omega)
      · cases h
  | V =>
    replace h : fgetV R = some (f, k) := h
    unfold fgetV at h
    split at h
    · rename_i a j hu
      split at h
      · rename_i b k' hu2
        obtain ⟨rfl, rfl⟩ := Prod.mk.inj (Option.some.inj h)
        obtain ⟨hg, h0, h1⟩ := upTo_is hu
        obtain ⟨hg2, h3, h4⟩ := upTo_is hu2
        obtain ⟨a1, a2, a3, _⟩ := geti_is hg
        obtain ⟨b1, b2, b3, _⟩ := geti_is hg2
        rw [List.length_drop] at b3
        exact ⟨by show _ = wint _ ++ wint _; rw [List.take_add, a1, b1], by omega, by omega, rfl, ⟨h0, h1⟩, h3, h4⟩
      · cases h
    · cases h
theorem take_left_len {α : Type _} (l m : List α) (n : Nat) (h : n = l.length) : (l ++ m).drop n = m := by subst h; simp
theorem fget_bytes {f : Fld} (hr : f.right) (x : List UInt8) : fget f.knd (f.bytes ++ x) = some (f, f.bytes.length) := by
  cases f with
  | int n => show (geti (wint n ++ x)).map _ = _; rw [geti_wint hr.1 hr.2]; rfl
  | text s =>
    have hs : s.size ≤ 65536 := hr
    have hl : s.data.toList.length = s.size := by simp
    show (match upTo 65536 ((wint (s.size : Int) ++ s.data.toList) ++ x) with
      | some (n, k) => if k + n.toNat ≤ ((wint (s.size : Int) ++ s.data.toList) ++ x).length then some (Fld.text ⟨((((wint (s.size : Int) ++ s.data.toList) ++ x).drop k).take n.toNat).toArray⟩, k + n.toNat) else none
      | none => none) = _
    rw [List.append_assoc, upTo_wint (by omega) (by omega) (by omega)]
    simp only
    rw [if_pos (by rw [List.length_append, List.length_append, hl]; omega), take_left_len _ _ _ rfl, Int.toNat_natCast, ← hl, List.take_left, hl]
    show some (Fld.text ⟨s.data.toList.toArray⟩, _) = some (Fld.text s, (wint (s.size : Int) ++ s.data.toList).length)
    rw [List.length_append, hl]
  | truth b => cases b <;> rfl
  | ver e n =>
    obtain ⟨⟨h0, h1⟩, h2, h3⟩ := hr
    have hm : M40 ≤ 9223372036854775807 := by unfold M40; omega
    show (match upTo M40 ((wint e ++ wint n) ++ x) with
      | some (a, j) => match upTo M40 (((wint e ++ wint n) ++ x).drop j) with
        | some (b, k) => some (Fld.ver a b, j + k)
        | none => none
      | none => none) = _
    rw [List.append_assoc, upTo_wint h0 h1 (by omega)]
    simp only
    rw [take_left_len _ _ _ rfl, upTo_wint h2 h3 (by omega)]
    show some (Fld.ver e n, _) = some (Fld.ver e n, (wint e ++ wint n).length)
    rw [List.length_append]

theorem gets_is : ∀ {ks : List Knd} {R : List UInt8} {fs : List Fld} {k : Nat}, gets ks R = some (fs, k) → R.take k = bytesOf fs ∧ k ≤ R.length ∧ kinds fs = ks ∧ ∀ f ∈ fs, f.right
  | [], R, fs, k, h => by
    obtain ⟨rfl, rfl⟩ := Prod.mk.inj (Option.some.inj (show some ([], 0) = _ from h))
    exact ⟨by simp [bytesOf], Nat.zero_le _, rfl, fun _ h => by cases h⟩
  | K :: ks, R, fs, k, h => by
    unfold gets at h
    split at h
    · cases h
    · rename_i f j hf
      split at h
      · cases h
      · rename_i fs' j' hg
        obtain ⟨rfl, rfl⟩ := Prod.mk.inj (Option.some.inj h)
        obtain ⟨a1, _, a3, a4, a5⟩ := fget_is hf
        obtain ⟨b1, b2, b3, b4⟩ := gets_is hg
        rw [List.length_drop] at b2
        refine ⟨by rw [List.take_add, a1, b1]; rfl, by omega, by show f.knd :: kinds fs' = _; rw [a4, b3], fun g hgm => ?_⟩
        rcases List.mem_cons.1 hgm with rfl | hgm
        · exact a5
        · exact b4 g hgm
theorem gets_bytes : ∀ (fs : List Fld) (x : List UInt8), (∀ f ∈ fs, f.right) → gets (kinds fs) (bytesOf fs ++ x) = some (fs, (bytesOf fs).length)
  | [], x, _ => by simp [kinds, gets, bytesOf]
  | f :: fs, x, h => by
    show (match fget f.knd ((f.bytes ++ bytesOf fs) ++ x) with
      | none => none
      | some (f, k) => match gets (kinds fs) (((Fld.bytes _ ++ bytesOf fs) ++ x).drop k) with
        | none => none
        | some (fs, j) => some (f :: fs, k + j)) = _
    rw [List.append_assoc, fget_bytes (h f (by simp))]
    simp only
    rw [take_left_len _ _ _ rfl, gets_bytes fs x fun g hg => h g (by simp [hg])]
    show some (f :: fs, _) = some (f :: fs, (f.bytes ++ bytesOf fs).length)
    rw [List.length_append]

/-- what a reading of one field comes to -/
def got (K : Knd) (l : List UInt8) (p : Nat) : Value := match fget K (l.drop p) with
  | some (f, k) => .tuple #[f.val, .int .i64 ((p + k : Nat) : Int), .bool true]
  | none => .tuple #[K.zero, .int .i64 0, .bool false]

theorem got_some {K : Knd} {l : List UInt8} {p k : Nat} {f : Fld} (h : fget K (l.drop p) = some (f, k)) : got K l p = .tuple #[f.val, .int .i64 ((p + k : Nat) : Int), .bool true] := by unfold got; rw [h]
theorem got_none {K : Knd} {l : List UInt8} {p : Nat} (h : fget K (l.drop p) = none) : got K l p = .tuple #[K.zero, .int .i64 0, .bool false] := by unfold got; rw [h]
theorem fgetI_no {R : List UInt8} (h : geti R = none) : fget .I R = none := by show fgetI R = none; unfold fgetI; rw [h]; rfl
theorem fgetI_is {R : List UInt8} {x : Int × Nat} (h : geti R = some x) : fget .I R = some (.int x.1, x.2) := by show fgetI R = _; unfold fgetI; rw [h]; rfl
theorem fgetT_no {R : List UInt8} (h : upTo 65536 R = none) : fget .T R = none := by show fgetT R = none; unfold fgetT; rw [h]
theorem fgetT_if {R : List UInt8} {m k : Nat} (h : upTo 65536 R = some ((m : Int), k)) : fget .T R = if k + m ≤ R.length then some (.text ⟨((R.drop k).take m).toArray⟩, k + m) else none := by
  show fgetT R = _; unfold fgetT; rw [h]; rfl
theorem fgetV_no {R : List UInt8} (h : upTo M40 R = none) : fget .V R = none := by show fgetV R = none; unfold fgetV; rw [h]
theorem fgetV_no2 {R : List UInt8} {a : Int} {j : Nat} (h : upTo M40 R = some (a, j)) (h2 : upTo M40 (R.drop j) = none) : fget .V R = none := by
  show fgetV R = none; unfold fgetV; rw [h]; show (match upTo M40 (R.drop j) with | some (b, k) => some (Fld.ver a b, j + k) | none => none) = none; rw [h2]
theorem fgetV_is {R : List UInt8} {a b : Int} {j k : Nat} (h : upTo M40 R = some (a, j)) (h2 : upTo M40 (R.drop j) = some (b, k)) : fget .V R = some (.ver a b, j + k) := by
  show fgetV R = _; unfold fgetV; rw [h]; show (match upTo M40 (R.drop j) with | some (b, k) => some (Fld.ver a b, j + k) | none => none) = _; rw [h2]

section
variable {v : Value} {l : List UInt8} {B p : Nat} (w : World) (h : Seen w B v l) (hp : p ≤ 4611686018427387904)
include h hp

theorem rd_int : Calls Try.prog 56 #[v, .int .i64 p] w fun e w' => e = .returned (got .I l p) ∧ w = w' := by
  cases hg : geti (l.drop p) with
  | none =>
    rw [got_none (fgetI_no hg)]
    exact getint_none w h hp hg
  | some x =>
    rw [got_some (fgetI_is hg)]
    exact getint_some (n := x.1) (k := x.2) w h hp hg
theorem rd_text : Calls Try.prog 19 #[v, .int .i64 p] w fun e w' => e = .returned (got .T l p) ∧ w = w' := by
  cases hg : upTo 65536 (l.drop p) with
  | none =>
    rw [got_none (fgetT_no hg)]
    exact gettext_none w h hp (.inl hg)
  | some x =>
    obtain ⟨n, k⟩ := x
    have hu := upTo_is hg
    have hgi := geti_is hu.1
    have hk := hgi.2.2.1
    rw [List.length_drop] at hk
    obtain ⟨m, rfl⟩ : ∃ m : Nat, n = (m : Int) := ⟨n.toNat, by have := hu.2.1; omega⟩
    have hif := fgetT_if hg
    by_cases hl : k + m ≤ (l.drop p).length
    · rw [if_pos hl] at hif
      rw [got_some hif]
      rw [List.length_drop] at hl
      have hgp := hgi.2.1
      have := gettext_some (n := m) w h hp hg (by omega)
      unfold cutS at this
      rw [← List.drop_drop, Nat.add_assoc] at this
      exact this
    · rw [if_neg hl] at hif
      rw [got_none hif]
      rw [List.length_drop] at hl
      exact gettext_none w h hp (.inr ⟨m, k, hg, by have := hgi.2.1; omega⟩)
omit hp in
theorem rd_truth : Calls Try.prog 17 #[v, .int .i64 p] w fun e w' => e = .returned (got .B l p) ∧ w = w' := by
  by_cases hpl : p < l.length
  · have hd := List.drop_eq_getElem_cons hpl
    have hf : fget .B (l.drop p) = if l[p].toNat ≤ 1 then some (.truth (decide (l[p].toNat = 1)), 1) else none := by
      rw [hd]; rfl
    by_cases hc : l[p].toNat ≤ 1
    · rw [if_pos hc] at hf
      rw [got_some hf]
      exact getbool_some w h hpl hc
    · rw [if_neg hc] at hf
      rw [got_none hf]
      exact getbool_none w h fun _ => by omega
  · rw [got_none (by rw [List.drop_of_length_le (by omega)]; rfl)]
    exact getbool_none w h fun h' => absurd h' hpl
theorem rd_ver (hl : l.length ≤ 4611686018427387904) : Calls Try.prog 21 #[v, .int .i64 p] w fun e w' => e = .returned (got .V l p) ∧ w = w' := by
  cases hg : upTo M40 (l.drop p) with
  | none =>
    rw [got_none (fgetV_no hg)]
    exact getver_none w h hp hl (.inl hg)
  | some x =>
    obtain ⟨a, j⟩ := x
    cases hg2 : upTo M40 (l.drop (p + j)) with
    | none =>
      rw [got_none (fgetV_no2 hg (by rw [List.drop_drop]; exact hg2))]
      exact getver_none w h hp hl (.inr ⟨a, j, hg, hg2⟩)
    | some y =>
      obtain ⟨b, k⟩ := y
      rw [got_some (fgetV_is hg (by rw [List.drop_drop]; exact hg2))]
      have := getver_some w h hp hl hg hg2
      rw [Nat.add_assoc] at this
      exact this
end

end Go.Proofs.Ytfikailgjmgnbaa

namespace Go.Proofs.Ytfikailgjmgnbaa
open Go.RowKit

theorem sum8 (m : Nat) : 128 + (m : Int) % 128 = ((by_ (m % 128 + 128)).toNat : Int) := by rw [by_nat _ (by omega)]; omega

set_option maxRecDepth 10000 in
set_option maxHeartbeats 400000 in
theorem refint_any (n : Int) (w : World) (h1 : -9223372036854775808 ≤ n) (h2 : n ≤ 9223372036854775807) :
    Calls Try.prog 41 #[.int .i64 n] w (Gives w.heap.size (wint n) w) := by
  obtain ⟨i0, hi0, hz0, hz1, hz2⟩ := info_parts byte_info
  have hz := zig_lt h1 h2
  have hle := enc_le _ hz
  have hE : Hid (wint n = enc (zig n)) := rfl
  have hm0 : (0 ≤ n → 2 * n = (zig n : Nat)) ∧ (n < 0 → 2 * (-(n + 1)) + 1 = (zig n : Nat)) := by
    unfold zig; split <;> omega
  generalize zig n = m0 at hz hle hE hm0
  have hz' : m0 < 18446744073709551616 := hz
  clear hz
  by_cases h0 : n < 0
  all_goals
    go_enter Try.func41, Try.ntmps41
    go_wp2_with fail
    go_loopw [3, 4] (fun mv v wr => IntAt w.heap.size [] m0 w v mv wr) (fun mv _ _ => (intOf mv).toNat)
    case atStart =>
      exact ⟨m0, [], by first | rw [← hm0.1 (by omega)] | rw [← hm0.2 (by omega)], hz', rfl, Room.nil, Below.refl _ _, Nat.le_refl _⟩
    case round =>
      obtain ⟨m, p, rfl, hm, hp, hr', hb', hB'⟩ := hrel
      have hpl : ([] ++ p).length + 1 ≤ 1099511627776 := by
        have := congrArg List.length hp
        rw [List.length_append] at this ⊢
        simp only [List.length_nil]
        omega
      have HP := Lib.hid hp
      clear hp hm0
      by_cases hlt : m < 128
      · have hin : IntKind.u8.wrap (m : Int) = ((by_ m).toNat : Int) := low8 m hlt
        go_wp2_with (at_builtin; refine wpList_append8 (B := w.heap.size) (l := [] ++ p) (m := [by_ m]) rfl (.tmp 27) (.tmp 30) 22 22 rfl 5 i0 Try.underlying22 hi0 hz0 hz1 hz2 (hr'.on (Below.alloc (Below.refl _ _) (Nat.le_refl _) _)) (by simp; omega) (src_one _ (by_ m) Try.underlying22) hpl rfl rfl ?_; intro v' w' hr2 hb2)
        go_ret
        refine ⟨v', rfl, ?_, hb'.trans ((Below.alloc (Below.refl _ _) hB' _).trans hb2)⟩
        rw [hE.out, ← HP.out, enc_small hlt]
        exact hr2
      · have hin := sum8 m
        go_wp2_with (at_builtin; refine wpList_append8 (B := w.heap.size) (l := [] ++ p) (m := [by_ (m % 128 + 128)]) rfl (.tmp 18) (.tmp 23) 22 22 rfl 5 i0 Try.underlying22 hi0 hz0 hz1 hz2 (hr'.on (Below.alloc (Below.refl _ _) (Nat.le_refl _) _)) (by simp; omega) (src_one _ (by_ (m % 128 + 128)) Try.underlying22) hpl rfl rfl ?_; intro v' w' hr2 hb2)
        go_roundw
        case rel =>
          refine ⟨m / 128, p ++ [by_ (m % 128 + 128)], by go_num, by omega, ?_, by rw [← List.append_assoc]; exact hr2, hb'.trans ((Below.alloc (Below.refl _ _) hB' _).trans hb2), Nat.le_trans hB' (Nat.le_trans (by simp) hb2.size)⟩
          rw [← HP.out, enc_big hlt, List.append_assoc]
          rfl
        case measure => simp [intOf]; omega

end Go.Proofs.Ytfikailgjmgnbaa

namespace Go.Proofs.Ytfikailgjmgnbaa
open Go.RowKit

theorem take_str (s : ByteArray) (k : Nat) (h : k < s.size) : s.data.toList.take (k + 1) = s.data.toList.take k ++ [s[k]] := by
  rw [List.take_succ_eq_append_getElem (by simpa using h)]; rfl

set_option maxRecDepth 10000 in
set_option maxHeartbeats 400000 in
theorem reftext_any (s : ByteArray) (w : World) (hs : s.size ≤ 549755813888) :
    Calls Try.prog 33 #[.string s] w (Gives w.heap.size (wint s.size ++ s.data.toList) w) := by
  obtain ⟨i0, hi0, hz0, hz1, hz2⟩ := info_parts byte_info
  have hle := wint_le (n := (s.size : Int)) (by omega) (by omega)
  have R := Lib.hid (fun w => refint_any (s.size : Int) w (by omega) (by omega))
  go_enter Try.func33, Try.ntmps33
  go_wp2_with (go_at_call 41; (with_reducible refine (R.out _).mono ?_); rintro e w' ⟨v1, rfl, hr1, hb1⟩)
  go_loopw [3, 4] (fun v i wr => ∃ k : Nat, k ≤ s.size ∧ i = .int .i64 k ∧ Room wr w.heap.size v (wint s.size ++ s.data.toList.take k) ∧ Below w.heap.size w wr) (fun _ i _ => s.size - (intOf i).toNat)
  case atStart => exact ⟨0, Nat.zero_le _, rfl, by rw [List.take_zero, List.append_nil]; exact hr1, hb1⟩
  case round =>
    obtain ⟨k, hk, rfl, hr', hb'⟩ := hrel
    have hlen : s.data.toList.length = s.size := by simp
    by_cases hlt : k < s.size
    · have hpl : (wint s.size ++ s.data.toList.take k).length + 1 ≤ 1099511627776 := by
        rw [List.length_append, List.length_take]
        omega
      have ht := Lib.hid (take_str s k hlt)
      clear hlen
      go_wp2_with (at_builtin; refine wpList_append8 (B := w.heap.size) (l := wint s.size ++ s.data.toList.take k) (m := [s[k]]) rfl (.tmp 14) (.tmp 18) 22 22 rfl 5 i0 Try.underlying22 hi0 hz0 hz1 hz2 (hr'.on (Below.alloc (Below.refl _ _) (Nat.le_refl _) _)) (by have := hb'.size; simp; omega) (src_one _ s[k] Try.underlying22) hpl rfl rfl ?_; intro v' w' hr2 hb2)
      go_roundw
      case rel =>
        refine ⟨k + 1, by omega, by go_num, ?_, hb'.trans ((Below.alloc (Below.refl _ _) hb'.size _).trans hb2)⟩
        rw [ht.out, ← List.append_assoc]
        exact hr2
      case measure => simp [intOf]; omega
    · have hk' : Hid (s.data.toList.take k = s.data.toList) := List.take_of_length_le (by omega)
      clear hlen
      go_wp2
      go_ret
      exact ⟨_, rfl, by rw [hk'.out] at hr'; exact hr', hb'⟩

end Go.Proofs.Ytfikailgjmgnbaa

namespace Go.Proofs.Ytfikailgjmgnbaa
open Go.RowKit Flo

def flat : List (List UInt8) → List UInt8
  | [] => []
  | r :: t => r ++ flat t
theorem flat_snoc (l : List (List UInt8)) (r : List UInt8) : flat (l ++ [r]) = flat l ++ r := by
  induction l with
  | nil => simp [flat]
  | cons x t ih => rw [List.cons_append, flat, flat, ih, List.append_assoc]
theorem takeM (l : List (List UInt8)) (k : Nat) (h : k < l.length) : l.take (k + 1) = l.take k ++ [l[k]] := List.take_succ_eq_append_getElem h
theorem flat_bytes (fs : List Fld) : flat (fs.map Fld.bytes) = bytesOf fs := by
  induction fs with
  | nil => rfl
  | cons f t ih => rw [List.map_cons, flat, ih]; rfl

set_option maxRecDepth 10000 in
set_option maxHeartbeats 400000 in
theorem cat_any (v : Value) (ls : List (List UInt8)) (w : World) (hv : Many w v ls) (hf : ls.length ≤ 1000) (hl : ∀ r ∈ ls, r.length ≤ 1000000) :
    Calls Try.prog 65 #[v] w (Gives w.heap.size (flat ls) w) := by
  obtain ⟨i0, hi0, hz0, hz1, hz2⟩ := info_parts byte_info
  have HM := Lib.hid hv
  obtain ⟨A, c, rfl, hA⟩ := hv
  have HA := Lib.hid hA
  have HLR := Lib.hid hl
  clear hA hl
  go_enter Try.func65, Try.ntmps65
  go_wp2
  go_loopw [3, 4] (fun o i wr => ∃ k : Nat, k ≤ ls.length ∧ i = .int .i64 (k : Int) ∧ Room wr w.heap.size o (flat (ls.take k)) ∧ (flat (ls.take k)).length ≤ 1000000 * k ∧ Below w.heap.size w wr) (fun _ i _ => ls.length - (intOf i).toNat)
  case atStart => exact ⟨0, Nat.zero_le _, rfl, Room.nil, by simp [flat], Below.refl _ _⟩
  case round =>
    obtain ⟨k, hk, rfl, hr, hlen, hb⟩ := hrel
    by_cases hlt : k < ls.length
    · obtain ⟨b, off, u, rfl, hbw, hcell, hsee⟩ := (HA.out.on hb).at_ k hlt
      have HT := Lib.hid (show flat (ls.take (k + 1)) = flat (ls.take k) ++ ls[k] by rw [takeM ls k hlt, flat_snoc])
      have hrk := HLR.out _ (List.getElem_mem hlt)
      have P1 : (flat (ls.take k)).length + ls[k].length ≤ 1099511627776 := by omega
      have i0' : (0 : Int) ≤ (k : Int) := by omega
      have i1 : (k : Int) < (ls.length : Int) := by omega
      have HS := Lib.hid hsee
      clear hsee
      go_wp2_with (at_builtin; refine wpList_append8 (B := w.heap.size) (l := flat (ls.take k)) (m := ls[k]) rfl (.tmp 11) (.tmp 15) 22 22 rfl 5 i0 Try.underlying22 hi0 hz0 hz1 hz2 hr hb.size (HS.out.src Try.underlying22) P1 rfl rfl ?_; intro v2 w2 hr2 hb2)
      go_roundw
      case rel => exact ⟨k + 1, by omega, by go_num, by rw [HT.out]; exact hr2, by rw [HT.out, List.length_append]; omega, hb.trans hb2⟩
      case measure => simp [intOf]; omega
    · have hkl : Hid (ls.take k = ls) := List.take_of_length_le (by omega)
      go_wp2
      go_ret
      exact ⟨_, rfl, by rw [hkl.out] at hr; exact hr, hb⟩

theorem rbit_any (b : Bool) (w : World) : Calls Try.prog 68 #[.bool b] w (Gives w.heap.size [bit b] w) := by
  cases b
  · have h := Lib.hid (Room.made w [0] 5 (by decide))
    go_enter Try.func68, Try.ntmps68
    go_wp2
    go_ret
    exact ⟨_, rfl, h.out, bal w _⟩
  · have h := Lib.hid (Room.made w [1] 5 (by decide))
    go_enter Try.func68, Try.ntmps68
    go_wp2
    go_ret
    exact ⟨_, rfl, h.out, bal w _⟩

end Go.Proofs.Ytfikailgjmgnbaa

namespace Go.Proofs.Ytfikailgjmgnbaa
open Go.RowKit Flo
attribute [local go_sem ↓] Go.wp_at_zero Go.wp_at_succ

theorem many_made (w : World) (vs : List Value) (ls : List (List UInt8)) (e : TypeId) (h : vs.length = ls.length) (hm : vs.length ≤ maxLen) (hs : ∀ i (h : i < ls.length) (h' : i < vs.length), Seen w w.heap.size vs[i] ls[i]) :
    Many (w.alloc (.cells vs.toArray e)) (.slice (some ⟨w.heap.size, 0, none⟩) vs.length vs.length) ls := by
  refine ⟨_, vs.length, by rw [h], by omega, hm, vs, h, .inr ⟨w.heap.size, 0, rfl, by simp, fun j hj => ?_⟩, fun i hi hi' => (hs i hi hi').al _⟩
  rw [World.cell?_alloc_new, Nat.zero_add, List.getElem?_toArray]
  exact List.getElem?_eq_getElem hj
/-- what a call that tells bytes comes to, its slice written out -/
def Tells (l : List UInt8) (w : World) (e : Ending) (w' : World) : Prop := ∃ A c, e = .returned (.slice A l.length c) ∧ Seen w' w'.heap.size (.slice A l.length c) l ∧ Below w.heap.size w w'
theorem Gives.tells {l : List UInt8} {w : World} {e : Ending} {w' : World} (h : Gives w.heap.size l w e w') : Tells l w e w' := by
  obtain ⟨v, rfl, hr, hb⟩ := h
  obtain ⟨A, c, rfl, _⟩ := hr.cut
  exact ⟨A, c, rfl, hr.seen, hb⟩
theorem tells {f : FuncId} {args : Array Value} {l : List UInt8} {w : World} (h : Calls Try.prog f args w (Gives w.heap.size l w)) : Calls Try.prog f args w (Tells l w) := h.mono fun _ _ h => h.tells
theorem two {w : World} {v u : Value} {l m : List UInt8} (h1 : Seen w w.heap.size v l) (h2 : Seen w w.heap.size u m) : ∀ i (_ : i < [l, m].length) (_ : i < [v, u].length), Seen w w.heap.size [v, u][i] [l, m][i] := by
  intro i _ _
  match i with
  | 0 => exact h1
  | 1 => exact h2
theorem rint_r {n : Int} (w : World) (h : (Fld.int n).right) : Calls Try.prog 41 #[.int .i64 n] w (Tells (Fld.int n).bytes w) := tells (refint_any n w h.1 h.2)
theorem rtext_r {s : ByteArray} (w : World) (h : (Fld.text s).right) : Calls Try.prog 33 #[.string s] w (Tells (Fld.text s).bytes w) := tells (reftext_any s w (by have : s.size ≤ 65536 := h; omega))
theorem rtruth_r {b : Bool} (w : World) : Calls Try.prog 68 #[.bool b] w (Tells (Fld.truth b).bytes w) := tells (rbit_any b w)

set_option maxRecDepth 10000 in
set_option maxHeartbeats 400000 in
theorem rver_r {a b : Int} (w : World) (h : (Fld.ver a b).right) : Calls Try.prog 34 #[ver a b] w (Tells (Fld.ver a b).bytes w) := by
  have ha := in_of h.1
  have hb := in_of h.2
  have ha' := ha
  have hb' := hb
  unfold In at ha' hb'
  have hle := wint_le (n := a) (by omega) (by omega)
  have hle2 := wint_le (n := b) (by omega) (by omega)
  have R1 := Lib.hid (fun w => tells (refint_any a w (by omega) (by omega)))
  have R2 := Lib.hid (fun w => tells (refint_any b w (by omega) (by omega)))
  have HB := Lib.hid (show (Fld.ver a b).bytes = flat [wint a, wint b] by show _ = wint a ++ (wint b ++ []); rw [List.append_nil]; rfl)
  have HL := Lib.hid (show ∀ r ∈ [wint a, wint b], r.length ≤ 1000000 by intro r hr; simp at hr; rcases hr with rfl | rfl <;> omega)
  clear h
  go_enter Try.func34, Try.ntmps34
  go_wp2_with (first
    | (go_at_call 66; (with_reducible refine (repoch_any a b _ ha).mono ?_); rintro e w1 ⟨rfl, rfl⟩)
    | (go_at_call 67; (with_reducible refine (rnum_any a b _ hb).mono ?_); rintro e w1 ⟨rfl, rfl⟩)
    | (go_at_call 41; (with_reducible refine (R1.out _).mono ?_); rintro e w1 ⟨A1, c1, rfl, hs1, hb1⟩)
    | (go_at_call 41; (with_reducible refine (R2.out _).mono ?_); rintro e w2 ⟨A2, c2, rfl, hs2, hb2⟩; have C1 := Lib.hid (tells (cat_any (.slice (some ⟨w2.heap.size, 0, none⟩) 2 2) [wint a, wint b] _ (many_made w2 [.slice A1 (wint a).length c1, .slice A2 (wint b).length c2] [wint a, wint b] 22 rfl (show 2 ≤ maxLen by decide) (two (hs1.on hb2) hs2)) (show 2 ≤ 1000 by decide) HL.out)))
    | (go_at_call 65; (with_reducible refine (C1.out).mono ?_); rintro e w3 ⟨A3, c3, rfl, hs3, hb3⟩))
  go_ret
  exact ⟨A3, c3, by rw [HB.out]; rfl, by rw [HB.out]; exact hs3, bt hb1 (bt hb2 (bt (bal w2 _) hb3))⟩

end Go.Proofs.Ytfikailgjmgnbaa
