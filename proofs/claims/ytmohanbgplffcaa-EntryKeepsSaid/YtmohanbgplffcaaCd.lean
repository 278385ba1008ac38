/-
  Fields as bytes: numbers, texts, truths, versions, one behind the other: what is written, what is read; and the program's readers of wire, said of fields.
-/
import Derived.Test.YtmohanbgplffcaaPut2
import Derived.Test.YtmohanbgplffcaaTxt
import Derived.Test.YtmohanbgplffcaaGv
namespace Go.Proofs.Ytmohanbgplffcaa
open Go.RowKit Flo

/-- a field -/
inductive Fld where
  | int (n : Int)
  | text (s : ByteArray)
  | truth (b : Bool)
  | ver (e n : Int)
/-- a field's kind -/
inductive Knd where
  | I
  | T
  | B
  | V
def Fld.knd : Fld → Knd
  | .int _ => .I
  | .text _ => .T
  | .truth _ => .B
  | .ver _ _ => .V
def Fld.val : Fld → Value
  | .int n => .int .i64 n
  | .text s => .string s
  | .truth b => .bool b
  | .ver e n => Proofs.Ytmohanbgplffcaa.ver e n
def Knd.zero : Knd → Value
  | .I => .int .i64 0
  | .T => .string ⟨#[]⟩
  | .B => .bool false
  | .V => .complex .f64 0 0
def Fld.bytes : Fld → List UInt8
  | .int n => wint n
  | .text s => wint (s.size : Int) ++ s.data.toList
  | .truth b => [bit b]
  | .ver e n => wint e ++ wint n
/-- what may be written -/
def Fld.right : Fld → Prop
  | .int n => -9223372036854775808 ≤ n ∧ n ≤ 9223372036854775807
  | .text s => s.size ≤ 65536
  | .truth _ => True
  | .ver e n => (0 ≤ e ∧ e ≤ M40) ∧ (0 ≤ n ∧ n ≤ M40)
def fgetI (R : List UInt8) : Option (Fld × Nat) := (geti R).map fun x => (.int x.1, x.2)
def fgetT (R : List UInt8) : Option (Fld × Nat) := match upTo 65536 R with
  | some (n, k) => if k + n.toNat ≤ R.length then some (.text ⟨((R.drop k).take n.toNat).toArray⟩, k + n.toNat) else none
  | none => none
def fgetB (R : List UInt8) : Option (Fld × Nat) := match R with
  | [] => none
  | c :: _ => if c.toNat ≤ 1 then some (.truth (decide (c.toNat = 1)), 1) else none
def fgetV (R : List UInt8) : Option (Fld × Nat) := match upTo M40 R with
  | some (a, j) => match upTo M40 (R.drop j) with
    | some (b, k) => some (.ver a b, j + k)
    | none => none
  | none => none
def fget : Knd → List UInt8 → Option (Fld × Nat)
  | .I => fgetI
  | .T => fgetT
  | .B => fgetB
  | .V => fgetV
def gets : List Knd → List UInt8 → Option (List Fld × Nat)
  | [], _ => some ([], 0)
  | K :: ks, R => match fget K R with
    | none => none
    | some (f, k) => match gets ks (R.drop k) with
      | none => none
      | some (fs, j) => some (f :: fs, k + j)
def bytesOf : List Fld → List UInt8
  | [] => []
  | f :: fs => f.bytes ++ bytesOf fs
def kinds (fs : List Fld) : List Knd := fs.map Fld.knd

theorem upTo_geti {most : Int} {R : List UInt8} {n : Int} {k : Nat} (h : geti R = some (n, k)) (hb : 0 ≤ n ∧ n ≤ most) : upTo most R = some (n, k) := by
  unfold upTo; rw [h]; exact if_pos hb
theorem upTo_wint {most : Int} {n : Int} (h0 : 0 ≤ n) (h1 : n ≤ most) (h2 : n ≤ 9223372036854775807) (x : List UInt8) : upTo most (wint n ++ x) = some (n, (wint n).length) :=
  upTo_geti (geti_wint (by omega) h2 x) ⟨h0, h1⟩

theorem fget_is {K : Knd} {R : List UInt8} {f : Fld} {k : Nat} (h : fget K R = some (f, k)) : R.take k = f.bytes ∧ 0 < k ∧ k ≤ R.length ∧ f.knd = K ∧ f.right := by
  cases K with
  | I =>
    obtain ⟨⟨n, j⟩, hg, he⟩ := Option.map_eq_some_iff.1 (show (geti R).map _ = _ from h)
    simp only [Prod.mk.injEq] at he
    obtain ⟨rfl, rfl⟩ := he
    obtain ⟨a1, a2, a3, _, a5, a6⟩ := geti_is hg
    exact ⟨a1, a2, a3, rfl, a5, a6⟩
  | T =>
    replace h : fgetT R = some (f, k) := h
    unfold fgetT at h
    split at h
    · rename_i n j hu
      split at h
      · rename_i hl
        obtain ⟨rfl, rfl⟩ := Prod.mk.inj (Option.some.inj h)
        obtain ⟨hg, h0, h1⟩ := upTo_is hu
        obtain ⟨a1, a2, a3, _, a5, a6⟩ := geti_is hg
        have hlen : ((R.drop j).take n.toNat).length = n.toNat := by rw [List.length_take, List.length_drop]; omega
        have hsz : (⟨((R.drop j).take n.toNat).toArray⟩ : ByteArray).size = n.toNat := hlen
        refine ⟨?_, by omega, hl, rfl, ?_⟩
        · show _ = wint _ ++ _
          rw [hsz, List.take_add, a1, show ((n.toNat : Nat) : Int) = n by omega]
        · show _ ≤ 65536
          rw [hsz]; omega
      · cases h
    · cases h
  | B =>
    replace h : fgetB R = some (f, k) := h
    unfold fgetB at h
    split at h
    · cases h
    · rename_i c t
      split at h
      · rename_i hc
        obtain ⟨rfl, rfl⟩ := Prod.mk.inj (Option.some.inj h)
        refine ⟨?_, by omega, by simp, rfl, trivial⟩
        show [c] = [bit _]
        unfold bit
        by_cases h1 : c.toNat = 1
        · rw [if_pos (decide_eq_true h1)]
          congr 1
          exact UInt8.toNat_inj.1 h1
        · rw [if_neg (by simp [h1])]
          congr 1
          exact UInt8.toNat_inj.1 (by show c.toNat = 0; omega)
      · cases h
  | V =>
    replace h : fgetV R = some (f, k) := h
    unfold fgetV at h
    split at h
    · rename_i a j hu
      split at h
      · rename_i b k' hu2
        obtain ⟨rfl, rfl⟩ := Prod.mk.inj (Option.some.inj h)
        obtain ⟨hg, h0, h1⟩ := upTo_is hu
        obtain ⟨hg2, h3, h4⟩ := upTo_is hu2
        obtain ⟨a1, a2, a3, _⟩ := geti_is hg
        obtain ⟨b1, b2, b3, _⟩ := geti_is hg2
        rw [List.length_drop] at b3
        exact ⟨by show _ = wint _ ++ wint _; rw [List.take_add, a1, b1], by omega, by omega, rfl, ⟨h0, h1⟩, h3, h4⟩
      · cases h
    · cases h
theorem take_left_len {α : Type _} (l m : List α) (n : Nat) (h : n = l.length) : (l ++ m).drop n = m := by subst h; simp
theorem fget_bytes {f : Fld} (hr : f.right) (x : List UInt8) : fget f.knd (f.bytes ++ x) = some (f, f.bytes.length) := by
  cases f with
  | int n => show (geti (wint n ++ x)).map _ = _; rw [geti_wint hr.1 hr.2]; rfl
  | text s =>
    have hs : s.size ≤ 65536 := hr
    have hl : s.data.toList.length = s.size := by simp
    show (match upTo 65536 ((wint (s.size : Int) ++ s.data.toList) ++ x) with
      | some (n, k) => if k + n.toNat ≤ ((wint (s.size : Int) ++ s.data.toList) ++ x).length then some (Fld.text ⟨((((wint (s.size : Int) ++ s.data.toList) ++ x).drop k).take n.toNat).toArray⟩, k + n.toNat) else none
      | none => none) = _
    rw [List.append_assoc, upTo_wint (by omega) (by omega) (by omega)]
    simp only
    rw [if_pos (by rw [List.length_append, List.length_append, hl]; omega), take_left_len _ _ _ rfl, Int.toNat_natCast, ← hl, List.take_left, hl]
    show some (Fld.text ⟨s.data.toList.toArray⟩, _) = some (Fld.text s, (wint (s.size : Int) ++ s.data.toList).length)
    rw [List.length_append, hl]
  | truth b => cases b <;> rfl
  | ver e n =>
    obtain ⟨⟨h0, h1⟩, h2, h3⟩ := hr
    have hm : M40 ≤ 9223372036854775807 := by unfold M40; omega
    show (match upTo M40 ((wint e ++ wint n) ++ x) with
      | some (a, j) => match upTo M40 (((wint e ++ wint n) ++ x).drop j) with
        | some (b, k) => some (Fld.ver a b, j + k)
        | none => none
      | none => none) = _
    rw [List.append_assoc, upTo_wint h0 h1 (by omega)]
    simp only
    rw [take_left_len _ _ _ rfl, upTo_wint h2 h3 (by omega)]
    show some (Fld.ver e n, _) = some (Fld.ver e n, (wint e ++ wint n).length)
    rw [List.length_append]

theorem gets_is : ∀ {ks : List Knd} {R : List UInt8} {fs : List Fld} {k : Nat}, gets ks R = some (fs, k) → R.take k = bytesOf fs ∧ k ≤ R.length ∧ kinds fs = ks ∧ ∀ f ∈ fs, f.right
  | [], R, fs, k, h => by
    obtain ⟨rfl, rfl⟩ := Prod.mk.inj (Option.some.inj (show some ([], 0) = _ from h))
    exact ⟨by simp [bytesOf], Nat.zero_le _, rfl, fun _ h => by cases h⟩
  | K :: ks, R, fs, k, h => by
    unfold gets at h
    split at h
    · cases h
    · rename_i f j hf
      split at h
      · cases h
      · rename_i fs' j' hg
        obtain ⟨rfl, rfl⟩ := Prod.mk.inj (Option.some.inj h)
        obtain ⟨a1, _, a3, a4, a5⟩ := fget_is hf
        obtain ⟨b1, b2, b3, b4⟩ := gets_is hg
        rw [List.length_drop] at b2
        refine ⟨by rw [List.take_add, a1, b1]; rfl, by omega, by show f.knd :: kinds fs' = _; rw [a4, b3], fun g hgm => ?_⟩
        rcases List.mem_cons.1 hgm with rfl | hgm
        · exact a5
        · exact b4 g hgm
theorem gets_bytes : ∀ (fs : List Fld) (x : List UInt8), (∀ f ∈ fs, f.right) → gets (kinds fs) (bytesOf fs ++ x) = some (fs, (bytesOf fs).length)
  | [], x, _ => by simp [kinds, gets, bytesOf]
  | f :: fs, x, h => by
    show (match fget f.knd ((f.bytes ++ bytesOf fs) ++ x) with
      | none => none
      | some (f, k) => match gets (kinds fs) (((Fld.bytes _ ++ bytesOf fs) ++ x).drop k) with
        | none => none
        | some (fs, j) => some (f :: fs, k + j)) = _
    rw [List.append_assoc, fget_bytes (h f (by simp))]
    simp only
    rw [take_left_len _ _ _ rfl, gets_bytes fs x fun g hg => h g (by simp [hg])]
    show some (f :: fs, _) = some (f :: fs, (f.bytes ++ bytesOf fs).length)
    rw [List.length_append]

/-- what a reading of one field comes to -/
def got (K : Knd) (l : List UInt8) (p : Nat) : Value := match fget K (l.drop p) with
  | some (f, k) => .tuple #[f.val, .int .i64 ((p + k : Nat) : Int), .bool true]
  | none => .tuple #[K.zero, .int .i64 0, .bool false]

theorem got_some {K : Knd} {l : List UInt8} {p k : Nat} {f : Fld} (h : fget K (l.drop p) = some (f, k)) : got K l p = .tuple #[f.val, .int .i64 ((p + k : Nat) : Int), .bool true] := by unfold got; rw [h]
theorem got_none {K : Knd} {l : List UInt8} {p : Nat} (h : fget K (l.drop p) = none) : got K l p = .tuple #[K.zero, .int .i64 0, .bool false] := by unfold got; rw [h]
theorem fgetI_no {R : List UInt8} (h : geti R = none) : fget .I R = none := by show fgetI R = none; unfold fgetI; rw [h]; rfl
theorem fgetI_is {R : List UInt8} {x : Int × Nat} (h : geti R = some x) : fget .I R = some (.int x.1, x.2) := by show fgetI R = _; unfold fgetI; rw [h]; rfl
theorem fgetT_no {R : List UInt8} (h : upTo 65536 R = none) : fget .T R = none := by show fgetT R = none; unfold fgetT; rw [h]
theorem fgetT_if {R : List UInt8} {m k : Nat} (h : upTo 65536 R = some ((m : Int), k)) : fget .T R = if k + m ≤ R.length then some (.text ⟨((R.drop k).take m).toArray⟩, k + m) else none := by
  show fgetT R = _; unfold fgetT; rw [h]; rfl
theorem fgetV_no {R : List UInt8} (h : upTo M40 R = none) : fget .V R = none := by show fgetV R = none; unfold fgetV; rw [h]
theorem fgetV_no2 {R : List UInt8} {a : Int} {j : Nat} (h : upTo M40 R = some (a, j)) (h2 : upTo M40 (R.drop j) = none) : fget .V R = none := by
  show fgetV R = none; unfold fgetV; rw [h]; show (match upTo M40 (R.drop j) with | some (b, k) => some (Fld.ver a b, j + k) | none => none) = none; rw [h2]
theorem fgetV_is {R : List UInt8} {a b : Int} {j k : Nat} (h : upTo M40 R = some (a, j)) (h2 : upTo M40 (R.drop j) = some (b, k)) : fget .V R = some (.ver a b, j + k) := by
  show fgetV R = _; unfold fgetV; rw [h]; show (match upTo M40 (R.drop j) with | some (b, k) => some (Fld.ver a b, j + k) | none => none) = _; rw [h2]

section
variable {v : Value} {l : List UInt8} {B p : Nat} (w : World) (h : Seen w B v l) (hp : p ≤ 4611686018427387904)
include h hp

theorem rd_int : Calls Try.prog 17 #[v, .int .i64 p] w fun e w' => e = .returned (got .I l p) ∧ w = w' := by
  cases hg : geti (l.drop p) with
  | none =>
    rw [got_none (fgetI_no hg)]
    exact getint_none w h hp hg
  | some x =>
    rw [got_some (fgetI_is hg)]
    exact getint_some (n := x.1) (k := x.2) w h hp hg
theorem rd_text : Calls Try.prog 19 #[v, .int .i64 p] w fun e w' => e = .returned (got .T l p) ∧ w = w' := by
  cases hg : upTo 65536 (l.drop p) with
  | none =>
    rw [got_none (fgetT_no hg)]
    exact gettext_none w h hp (.inl hg)
  | some x =>
    obtain ⟨n, k⟩ := x
    have hu := upTo_is hg
    have hgi := geti_is hu.1
    have hk := hgi.2.2.1
    rw [List.length_drop] at hk
    obtain ⟨m, rfl⟩ : ∃ m : Nat, n = (m : Int) := ⟨n.toNat, by have := hu.2.1; omega⟩
    have hif := fgetT_if hg
    by_cases hl : k + m ≤ (l.drop p).length
    · rw [if_pos hl] at hif
      rw [got_some hif]
      rw [List.length_drop] at hl
      have hgp := hgi.2.1
      have := gettext_some (n := m) w h hp hg (by omega)
      unfold cutS at this
      rw [← List.drop_drop, Nat.add_assoc] at this
      exact this
    · rw [if_neg hl] at hif
      rw [got_none hif]
      rw [List.length_drop] at hl
      exact gettext_none w h hp (.inr ⟨m, k, hg, by have := hgi.2.1; omega⟩)
omit hp in
theorem rd_truth : Calls Try.prog 21 #[v, .int .i64 p] w fun e w' => e = .returned (got .B l p) ∧ w = w' := by
  by_cases hpl : p < l.length
  · have hd := List.drop_eq_getElem_cons hpl
    have hf : fget .B (l.drop p) = if l[p].toNat ≤ 1 then some (.truth (decide (l[p].toNat = 1)), 1) else none := by
      rw [hd]; rfl
    by_cases hc : l[p].toNat ≤ 1
    · rw [if_pos hc] at hf
      rw [got_some hf]
      exact getbool_some w h hpl hc
    · rw [if_neg hc] at hf
      rw [got_none hf]
      exact getbool_none w h fun _ => by omega
  · rw [got_none (by rw [List.drop_of_length_le (by omega)]; rfl)]
    exact getbool_none w h fun h' => absurd h' hpl
theorem rd_ver (hl : l.length ≤ 4611686018427387904) : Calls Try.prog 15 #[v, .int .i64 p] w fun e w' => e = .returned (got .V l p) ∧ w = w' := by
  cases hg : upTo M40 (l.drop p) with
  | none =>
    rw [got_none (fgetV_no hg)]
    exact getver_none w h hp hl (.inl hg)
  | some x =>
    obtain ⟨a, j⟩ := x
    cases hg2 : upTo M40 (l.drop (p + j)) with
    | none =>
      rw [got_none (fgetV_no2 hg (by rw [List.drop_drop]; exact hg2))]
      exact getver_none w h hp hl (.inr ⟨a, j, hg, hg2⟩)
    | some y =>
      obtain ⟨b, k⟩ := y
      rw [got_some (fgetV_is hg (by rw [List.drop_drop]; exact hg2))]
      have := getver_some w h hp hl hg hg2
      rw [Nat.add_assoc] at this
      exact this
end

end Go.Proofs.Ytmohanbgplffcaa
