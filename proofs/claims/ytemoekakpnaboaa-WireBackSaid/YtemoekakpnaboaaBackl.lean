/-
  WireBack: the law.
-/
import Derived.Test.YtemoekakpnaboaaBack
namespace Go.Proofs.Ytemoekakpnaboaa
open Go.RowKit

set_option maxRecDepth 100000 in
theorem back_law (v : Value) (o : List UInt8) (n : Int) (s : ByteArray) (v3 : Value) (m : List UInt8) (w : World) (hv : Seen w w.heap.size v o) (hn : (Lit.int .i64 n).wf = true) (hs : s.size ≤ maxLen) (hv3 : Seen w w.heap.size v3 m) :
    Calls Try.prog 5 #[v, .int .i64 n, .string s, v3] w fun e w' => e = .returned (.bool true) ∧ Below w.heap.size w w' := by
  have hn' : -9223372036854775808 ≤ n ∧ n ≤ 9223372036854775807 := by
    simp [Lit.wf, IntKind.min, IntKind.max, IntKind.signed, IntKind.bits] at hn
    omega
  have hlm := hv.len
  have hlm3 := hv3.len
  unfold maxLen at hlm hlm3 hs
  clear hn
  by_cases h1 : s.size ≤ 5000
  · by_cases h2 : o.length ≤ 5000
    · by_cases h3 : m.length ≤ 5000
      · exact back_walk v v3 o m n s w hv hv3 hn'.1 hn'.2 h2 h3 h1
      · have h3' : 5000 < m.length := by omega
        obtain ⟨A, c, rfl, hA⟩ := hv
        obtain ⟨A', c', rfl, hA'⟩ := hv3
        clear hA hA' h3
        go_enter Try.func5, Try.ntmps5
        go_wp2_with (go_at_call 9; refine (awake_true _).mono ?_; rintro e w0 ⟨rfl, hb0⟩)
        go_ret
        exact ⟨rfl, hb0⟩
    · have h2' : 5000 < o.length := by omega
      obtain ⟨A, c, rfl, hA⟩ := hv
      clear hA h2
      go_enter Try.func5, Try.ntmps5
      go_wp2_with (go_at_call 9; refine (awake_true _).mono ?_; rintro e w0 ⟨rfl, hb0⟩)
      go_ret
      exact ⟨rfl, hb0⟩
  · have h1' : 5000 < s.size := by omega
    clear h1
    go_enter Try.func5, Try.ntmps5
    go_wp2_with (go_at_call 9; refine (awake_true _).mono ?_; rintro e w0 ⟨rfl, hb0⟩)
    go_ret
    exact ⟨rfl, hb0⟩

end Go.Proofs.Ytemoekakpnaboaa
