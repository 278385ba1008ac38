/-
  The program's calls, of whatever disk, with what it holds and where it lies.
-/
import Derived.Test.YtoggdpkpfdilnaaCx
import Derived.Test.YtoggdpkpfdilnaaCn
namespace Go.Proofs.Ytoggdpkpfdilnaa
open Go.RowKit

theorem crash_disk (keep torn : Int) (w : World) (B g : Nat) (s : Dsk) (F : Nat → Prop) (h : Disk w B g s F) (hm : s.mass ≤ 900000) :
    Calls Try.prog 23 #[.pointer (some ⟨g, 0, none⟩), .int .i64 keep, .int .i64 torn] w fun e w' => e = .returned (.tuple #[]) ∧ Turned B g (s.crash keep torn) F w w' := by
  have hB := h.base
  obtain ⟨p0, p1, q0, q1, lv, h1, h2, _, _⟩ := h
  refine (crashAt_any keep torn w B g s p0 p1 q0 q1 lv h1 hB hm).mono ?_
  rintro e w' ⟨rfl, v0, v1, u0, u1, hst⟩
  exact ⟨rfl, hst.turned h2 rfl⟩
theorem read_disk (area : Int) (w : World) (B g : Nat) (s : Dsk) (F : Nat → Prop) (h : Disk w B g s F) (hm : s.mass ≤ 900000) :
    Calls Try.prog 14 #[.pointer (some ⟨g, 0, none⟩), .int .i64 area] w (ReadTo B w (s.reads area) (s.refuses area)) := by
  have hB := h.base
  obtain ⟨p0, p1, q0, q1, lv, h1, _, _, h4⟩ := h
  exact read_any w B g s p0 p1 q0 q1 lv area h1 hB h4 (by omega)
theorem first_disk (w : World) (B g : Nat) (s : Dsk) (F : Nat → Prop) (h : Disk w B g s F) :
    Calls Try.prog 13 #[.pointer (some ⟨g, 0, none⟩)] w fun e w' => e = .returned (.tuple (if s.down = true then #[.int .i64 0, .int .i64 4] else #[.int .i64 s.now.front, .int .i64 0])) ∧ w = w' := by
  obtain ⟨p0, p1, q0, q1, lv, h1, _⟩ := h
  exact dfirst_any w B g s p0 p1 q0 q1 lv h1
theorem down_disk (w : World) (B g : Nat) (s : Dsk) (F : Nat → Prop) (h : Disk w B g s F) :
    Calls Try.prog 30 #[.pointer (some ⟨g, 0, none⟩)] w fun e w' => e = .returned (.bool s.down) ∧ w = w' := by
  obtain ⟨p0, p1, q0, q1, lv, h1, _⟩ := h
  exact down_any w B g s p0 p1 q0 q1 lv h1
theorem loose_disk (w : World) (B g : Nat) (s : Dsk) (F : Nat → Prop) (h : Disk w B g s F) :
    Calls Try.prog 34 #[.pointer (some ⟨g, 0, none⟩)] w fun e w' => e = .returned (.int .i64 (s.loose.length : Int)) ∧ w = w' := by
  obtain ⟨p0, p1, q0, q1, lv, h1, _⟩ := h
  exact loose_any w B g s p0 p1 q0 q1 lv h1
theorem clone_disk (w : World) (B g : Nat) (s : Dsk) (F : Nat → Prop) (h : Disk w B g s F) (hm : s.mass ≤ 900000) :
    Calls Try.prog 33 #[.pointer (some ⟨g, 0, none⟩)] w fun e w' => ∃ g' F', e = .returned (.pointer (some ⟨g', 0, none⟩)) ∧ Disk w' B g' s F' ∧ (∀ k, F' k → w.heap.size ≤ k) ∧ Below w.heap.size w w' := by
  have hB := h.base
  obtain ⟨p0, p1, q0, q1, lv, h1, _, _, h4⟩ := h
  refine (clone_any w B g s p0 p1 q0 q1 lv h1 hB h4 hm).mono ?_
  rintro e w' ⟨g', a0, a1, b0, b1, lv', rfl, c1, c2, c3⟩
  exact ⟨g', fun k => some k ∈ owns g' a0 a1 b0 b1 lv', rfl, ⟨_, _, _, _, _, c1, fun _ hk => hk, fun k hk => c1.own k hk, h4⟩, c2, c3⟩
theorem Disk.less {w : World} {B g : Nat} {s : Dsk} {F : Nat → Prop} (h : Disk w B g s F) : ∀ k, F k → B ≤ k ∧ k < w.heap.size := by
  obtain ⟨_, _, _, _, _, _, _, h3, _⟩ := h
  exact h3
/-- a disk apart from the one that is changed -/
theorem Disk.apart {w w' : World} {B g : Nat} {s : Dsk} {F G : Nat → Prop} (h : Disk w B g s F) (hd : ∀ k, F k → ¬ G k) (hk : ∀ k, k < w.heap.size → ¬ G k → w'.heap[k]? = w.heap[k]?) (hs : w.heap.size ≤ w'.heap.size) : Disk w' B g s F :=
  h.kept (fun k hf => hk k (h.less k hf).2 (hd k hf)) hs

theorem append_is {area : Int} {v : Value} {l : List UInt8} {B0 : Nat} {w : World} {B g : Nat} {s : Dsk} {F : Nat → Prop} {r : Dsk × Int} (h : Disk w B g s F) (hv : Seen w B0 v l) (hm : s.mass + l.length + 1 ≤ 900000) (hr : s.chg 0 area l = r) :
    Calls Try.prog 36 #[.pointer (some ⟨g, 0, none⟩), .int .i64 area, v] w (Does B g F w r) := by rw [← hr]; exact append_any area v l B0 w B g s F h hv hm
theorem wipe_is {area : Int} {w : World} {B g : Nat} {s : Dsk} {F : Nat → Prop} {r : Dsk × Int} (h : Disk w B g s F) (hm : s.mass + 1 ≤ 900000) (hr : s.chg 1 area [] = r) :
    Calls Try.prog 46 #[.pointer (some ⟨g, 0, none⟩), .int .i64 area] w (Does B g F w r) := by rw [← hr]; exact wipe_any area w B g s F h hm
theorem front_is {area : Int} {w : World} {B g : Nat} {s : Dsk} {F : Nat → Prop} {r : Dsk × Int} (h : Disk w B g s F) (hm : s.mass + 1 ≤ 900000) (hr : s.chg 2 area [] = r) :
    Calls Try.prog 49 #[.pointer (some ⟨g, 0, none⟩), .int .i64 area] w (Does B g F w r) := by rw [← hr]; exact front_any area w B g s F h hm
theorem sync_is {w : World} {B g : Nat} {s : Dsk} {F : Nat → Prop} {r : Dsk × Int} (h : Disk w B g s F) (hm : s.mass ≤ 900000) (hr : s.sync = r) :
    Calls Try.prog 37 #[.pointer (some ⟨g, 0, none⟩)] w (Does B g F w r) := by rw [← hr]; exact sync_any w B g s F h hm
theorem crash_is {keep torn : Int} {w : World} {B g : Nat} {s s' : Dsk} {F : Nat → Prop} (h : Disk w B g s F) (hm : s.mass ≤ 900000) (hr : s.crash keep torn = s') :
    Calls Try.prog 23 #[.pointer (some ⟨g, 0, none⟩), .int .i64 keep, .int .i64 torn] w fun e w' => e = .returned (.tuple #[]) ∧ Turned B g s' F w w' := by rw [← hr]; exact crash_disk keep torn w B g s F h hm
theorem read_is {area : Int} {w : World} {B g : Nat} {s : Dsk} {F : Nat → Prop} {l : List UInt8} {why : Int} (h : Disk w B g s F) (hm : s.mass ≤ 900000) (h1 : s.reads area = l) (h2 : s.refuses area = why) :
    Calls Try.prog 14 #[.pointer (some ⟨g, 0, none⟩), .int .i64 area] w (ReadTo B w l why) := by rw [← h1, ← h2]; exact read_disk area w B g s F h hm
theorem first_of {w : World} {B g : Nat} {s : Dsk} {F : Nat → Prop} {n : Int} (h : Disk w B g s F) (h1 : s.down = false) (h2 : s.now.front = n) :
    Calls Try.prog 13 #[.pointer (some ⟨g, 0, none⟩)] w fun e w' => e = .returned (.tuple #[.int .i64 n, .int .i64 0]) ∧ w = w' := by
  refine (first_disk w B g s F h).mono ?_
  rintro e w' ⟨rfl, rfl⟩
  rw [h1, h2]
  exact ⟨rfl, rfl⟩
theorem bytes_const (w : World) (l : List UInt8) (e : TypeId) (q : Nat × Nat) (hl : l.length ≤ maxLen) : Seen (w.alloc (.cells (c8 l).toArray e q)) (w.alloc (.cells (c8 l).toArray e q)).heap.size (.slice (some ⟨w.heap.size, 0, none⟩) l.length l.length) l := by
  have hs : w.heap.size < (w.alloc (.cells (c8 l).toArray e q)).heap.size := by simp
  refine ⟨_, _, rfl, Nat.le_refl _, hl, .inr ⟨_, _, rfl, hs, hs, fun j hj => ?_⟩⟩
  have h1 : (w.alloc (.cells (c8 l).toArray e q)).heap[w.heap.size]? = some (.cells (c8 l).toArray e q) := by
    show (w.heap.push _)[w.heap.size]? = _
    simp
  have h2 := c8_get l j hj
  simp only [World.cell?, h1, Nat.zero_add]
  simpa using h2

end Go.Proofs.Ytoggdpkpfdilnaa
