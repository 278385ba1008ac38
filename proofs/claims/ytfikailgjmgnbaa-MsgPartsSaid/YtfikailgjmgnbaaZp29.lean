/-
  MsgParts of every input.
  MsgParts, of every input.
-/
import Derived.Test.YtfikailgjmgnbaaZp28
import Derived.Test.YtfikailgjmgnbaaZp26

namespace Go.Proofs.Ytfikailgjmgnbaa
open Go.RowKit Flo
attribute [local go_sem ↓] Go.wp_at_zero Go.wp_at_succ

set_option maxRecDepth 100000 in
theorem parts_early (AW : AwakeOk) (A : Option Addr) (n c : Nat) (a : Int) (w : World) (h : 5000 < n ∨ a < 0 ∨ 6000 < a) :
    Calls Try.prog 4 #[.slice A n c, .int .i64 a] w fun e w' => e = .returned (.bool true) ∧ Below w.heap.size w w' := by
  have HAW := Lib.hid AW
  clear AW
  by_cases h1 : 5000 < n
  · have h1' : (5000 : Int) < (n : Int) := by omega
    clear h
    go_enter Try.func4, Try.ntmps4
    go_wp2_with fail
    (go_at_call 5; refine (HAW.out _).mono ?_; rintro e w0 ⟨rfl, hb0⟩)
    go_wp2_with fail
    (go_at_call 5; refine (HAW.out _).mono ?_; rintro e w1 ⟨rfl, hb1⟩)
    go_wp2_with fail
    go_ret
    exact ⟨rfl, bt hb0 hb1⟩
  · have h1' : (n : Int) ≤ 5000 := by omega
    by_cases h2 : a < 0
    · clear h
      go_enter Try.func4, Try.ntmps4
      go_wp2_with fail
      (go_at_call 5; refine (HAW.out _).mono ?_; rintro e w0 ⟨rfl, hb0⟩)
      go_wp2_with fail
      (go_at_call 5; refine (HAW.out _).mono ?_; rintro e w1 ⟨rfl, hb1⟩)
      go_wp2_with fail
      go_ret
      exact ⟨rfl, bt hb0 hb1⟩
    · have h2' : 0 ≤ a := by omega
      have h3 : 6000 < a := by omega
      clear h
      go_enter Try.func4, Try.ntmps4
      go_wp2_with fail
      (go_at_call 5; refine (HAW.out _).mono ?_; rintro e w0 ⟨rfl, hb0⟩)
      go_wp2_with fail
      (go_at_call 5; refine (HAW.out _).mono ?_; rintro e w1 ⟨rfl, hb1⟩)
      go_wp2_with fail
      go_ret
      exact ⟨rfl, bt hb0 hb1⟩

theorem parts_law (AW : AwakeOk) (GE : ImageOk) (GO : ViewsOk) (v : Value) (l : List UInt8) (a : Int) (w : World) (hv : Seen w w.heap.size v l) :
    Calls Try.prog 4 #[v, .int .i64 a] w fun e w' => e = .returned (.bool true) ∧ Below w.heap.size w w' := by
  by_cases h : 5000 < l.length ∨ a < 0 ∨ 6000 < a
  · obtain ⟨A, c, rfl, _⟩ := hv
    exact parts_early AW A l.length c a w h
  · obtain ⟨p, rfl⟩ : ∃ p : Nat, a = (p : Int) := ⟨a.toNat, by omega⟩
    exact parts_walk AW GE GO v l p w hv (by omega) (by omega)

end Go.Proofs.Ytfikailgjmgnbaa

namespace Go.Proofs.Ytfikailgjmgnbaa
open Go.RowKit Flo

theorem image_ok : ImageOk := fun w v l p hv hl hp => (getter_Gz w v l p hv (by omega) (by omega)).mono fun e w' ⟨vs, q, ok, hs, he, hb, ho, hz⟩ => by
  refine ⟨hb, ?_⟩
  rcases ho with ⟨t, r, ht, hd, hli, rfl, rfl⟩ | ⟨_, rfl⟩
  · cases t with
    | img x =>
      obtain ⟨lv, sv, rfl, h1, h2⟩ := hli
      have hlen := congrArg List.length hd
      rw [List.length_drop, List.length_append] at hlen
      have hpos : 0 < (Th.img x).bytes.length := by
        show 0 < (Img.bytes x).length
        unfold Img.bytes
        rw [List.length_append]
        have : 0 < (Fld.ver x.fl.1 x.fl.2).bytes.length := by
          show 0 < (wint _ ++ wint _).length
          rw [List.length_append]
          have : 0 < (wint x.fl.1).length := enc_pos _
          omega
        omega
      exact .inl ⟨x, lv, sv, (Th.img x).bytes.length, ht, by rw [hd, List.take_left]; rfl, hpos, by omega, h1.all, h2.all, he⟩
    | _ => exact ht.elim
  · obtain ⟨rfl, rfl⟩ := hz rfl
    exact .inr he
theorem views_ok : ViewsOk := fun w v l p hv hl hp => (getviews_any w v l p hv (by omega) (by omega)).mono fun e w' ⟨vs, q, ok, hs, he, hb, ho, hz⟩ => by
  refine ⟨hb, ?_⟩
  rcases ho with ⟨t, r, ht, hd, hli, rfl, rfl⟩ | ⟨_, rfl⟩
  · cases t with
    | views xs =>
      obtain ⟨vv, rfl, h1⟩ := hli
      have hlen := congrArg List.length hd
      rw [List.length_drop, List.length_append] at hlen
      have hpos : 0 < (Th.views xs).bytes.length := by
        show 0 < (wint _ ++ viewsB xs).length
        rw [List.length_append]
        have : 0 < (wint (xs.length : Int)).length := enc_pos _
        omega
      exact .inl ⟨xs, vv, (Th.views xs).bytes.length, ht.1, ht.2, by rw [hd, List.take_left]; rfl, hpos, by omega, h1.all, he⟩
    | _ => exact ht.elim
  · obtain ⟨rfl, rfl⟩ := hz rfl
    exact .inr he
theorem parts_all (v : Value) (l : List UInt8) (a : Int) (w : World) (hv : Seen w w.heap.size v l) :
    Calls Try.prog 4 #[v, .int .i64 a] w fun e w' => e = .returned (.bool true) ∧ Below w.heap.size w w' := parts_law awake_ok image_ok views_ok v l a w hv

end Go.Proofs.Ytfikailgjmgnbaa
