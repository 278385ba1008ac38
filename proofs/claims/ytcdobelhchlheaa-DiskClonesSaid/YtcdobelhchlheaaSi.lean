/-
  What the program's disk holds is what the document's disk says (no program).
-/
import Derived.Test.YtcdobelhchlheaaMa
namespace Go.Proofs.Ytcdobelhchlheaa
open Go.RowKit

def chgA (a : Actd) : Chg := ⟨a.kind.toNat, a.area.toNat, ⟨(if a.kind.toNat = 0 then a.b else []).toArray⟩⟩
def contA (l : List Actd) : Cont := ⟨(bytesA 0 l).1, (bytesA 1 l).1, (bytesA 0 l).2⟩
def Actd.plain (a : Actd) : Prop := a.kind.toNat < 3 ∧ (a.area = 0 ∨ a.area = 1) ∧ a.right
theorem front_same : ∀ (l : List Actd) (x y : List UInt8 × Int), x.2 = y.2 → (l.foldl (stepA 0) x).2 = (l.foldl (stepA 1) y).2
  | [], _, _, h => h
  | a :: l, x, y, h => by
    refine front_same l _ _ ?_
    unfold stepA
    split
    · rfl
    · split <;> split <;> (try split) <;> (try split) <;> first | exact h | rfl
theorem bytesA_front (l : List Actd) : (bytesA 1 l).2 = (bytesA 0 l).2 := (front_same l _ _ rfl).symm
theorem contA_snoc (l : List Actd) (a : Actd) (h : a.plain) : contA (l ++ [a]) = (contA l).does (chgA a) := by
  obtain ⟨hk, har, _⟩ := h
  unfold contA
  rw [bytesA_snoc, bytesA_snoc]
  unfold stepA Cont.does chgA Chg.bytes
  have hk' : a.kind.toNat = 0 ∨ a.kind.toNat = 1 ∨ a.kind.toNat = 2 := by omega
  rcases hk' with hk | hk | hk <;> rcases har with h | h <;> simp [hk, h]
theorem contA_append (m : List Actd) : ∀ (l : List Actd), (∀ a ∈ m, a.plain) → contA (l ++ m) = (contA l).all (m.map chgA) := by
  induction m with
  | nil => intro l _; rw [List.append_nil]; rfl
  | cons a m ih =>
    intro l h
    have h1 := ih (l ++ [a]) fun x hx => h x (by simp [hx])
    rw [List.append_assoc] at h1
    rw [show a :: m = [a] ++ m from rfl, h1, contA_snoc l a (h a (by simp))]
    rfl

structure Sim (s : Dsk) (d : Dskd) : Prop where
  last : s.last = contA d.safe
  loose : s.loose = d.loose.map chgA
  armed : s.armed = d.armed
  left : d.armed = true → s.left = d.left
  down : s.down = d.down
  right : s.right
  ok1 : ∀ a ∈ d.safe, a.plain
  ok2 : ∀ a ∈ d.loose, a.plain
theorem Sim.now {s : Dsk} {d : Dskd} (h : Sim s d) : s.now = contA (d.safe ++ d.loose) := by
  rw [contA_append _ _ h.ok2, ← h.last, ← h.loose]
  exact h.right
theorem sim_fresh : Sim Dsk.fresh ⟨[], [], 0, false, false⟩ := ⟨rfl, rfl, rfl, (fun h => by cases h), rfl, rfl, (fun _ h => by cases h), (fun _ h => by cases h)⟩

theorem crashA_eq (keep torn : Int) : ∀ (l : List Actd) (i : Nat), crashA keep torn i l = l.take (keep - i).toNat ++ (match l[(keep - i).toNat]? with | some a => if a.kind.toNat = 0 ∧ 0 < torn then [{ a with b := a.b.take torn.toNat }] else [] | none => [])
  | [], i => by simp [crashA]
  | a :: l, i => by
    rw [crashA_cons]
    by_cases h : keep ≤ (i : Int)
    · have h0 : (keep - i).toNat = 0 := by omega
      rw [if_pos h, h0]
      rfl
    · have h1 : (keep - i).toNat = (keep - ((i + 1 : Nat) : Int)).toNat + 1 := by omega
      rw [if_neg h, h1, crashA_eq keep torn l (i + 1)]
      rfl
theorem plain_take {a : Actd} (h : a.plain) (t : Nat) : ({ a with b := a.b.take t } : Actd).plain := by
  obtain ⟨h1, h2, h3, h4, h5, h6⟩ := h
  refine ⟨h1, h2, h3, h4, h5, ?_⟩
  show (a.b.take t).length ≤ _
  rw [List.length_take]
  omega
theorem crashA_plain {l : List Actd} (h : ∀ a ∈ l, a.plain) (keep torn : Int) (i : Nat) : ∀ a ∈ crashA keep torn i l, a.plain := by
  intro a ha
  rw [crashA_eq] at ha
  rcases List.mem_append.1 ha with q | q
  · exact h a (List.mem_of_mem_take q)
  · split at q
    · rename_i c hc
      split at q
      · obtain rfl := List.mem_singleton.1 q
        exact plain_take (h c (List.mem_of_getElem? hc)) _
      · cases q
    · cases q
theorem does_nothing (x : Cont) (c : Chg) (h0 : c.does = 0) (h : c.bytes = []) : x.does c = x := by
  unfold Cont.does
  rw [if_pos h0, h]
  split <;> simp
theorem fallen_is {s : Dsk} {d : Dskd} (h : Sim s d) (keep torn : Int) : s.fallen keep torn = contA (d.safe ++ crashA keep torn 0 d.loose) := by
  rw [contA_append _ _ (crashA_plain h.ok2 keep torn 0), ← h.last, crashA_eq]
  unfold Dsk.fallen
  rw [h.loose, List.length_map]
  have hk0 : (keep - ((0 : Nat) : Int)).toNat = keep.toNat := by omega
  rw [hk0]
  by_cases hk : keep.toNat < d.loose.length
  · have hw : within keep d.loose.length = keep.toNat := by unfold within; omega
    obtain ⟨a, ha⟩ : ∃ a, d.loose[keep.toNat]? = some a := ⟨_, List.getElem?_eq_getElem hk⟩
    have hp := h.ok2 a (List.mem_of_getElem? ha)
    rw [hw, List.getElem?_map, ha]
    show (if (chgA a).does = 0 then _ else _) = _
    rw [← List.map_take]
    dsimp only
    by_cases h0 : a.kind.toNat = 0
    · rw [if_pos (show (chgA a).does = 0 from h0)]
      have hb : (chgA a).text = ⟨a.b.toArray⟩ := by unfold chgA; simp [h0]
      have hbl : ((⟨a.b.toArray⟩ : ByteArray)).size = a.b.length := rfl
      by_cases ht : 0 < torn
      · rw [if_pos ⟨h0, ht⟩, List.map_append]
        show _ = (s.last.all _)
        rw [show ([{ a with b := a.b.take torn.toNat }] : List Actd).map chgA = [chgA { a with b := a.b.take torn.toNat }] from rfl, Cont.all_snoc]
        have hc : ({ chgA a with text := cut torn (chgA a).text } : Chg).bytes = (chgA { a with b := a.b.take torn.toNat }).bytes := by
          show (cut torn (chgA a).text).data.toList = (if a.kind.toNat = 0 then a.b.take torn.toNat else [])
          rw [if_pos h0, hb]
          unfold cut
          rw [extract_bytes, hbl]
          show a.b.take (within torn a.b.length) = _
          unfold within
          rw [← List.take_take, List.take_length]
        have he : ∀ (x : Cont) (c e : Chg), c.does = e.does → c.area = e.area → c.bytes = e.bytes → x.does c = x.does e := by
          intro x c e h1 h2 h3
          unfold Cont.does
          rw [h1, h2, h3]
        exact he _ _ _ rfl rfl hc
      · rw [if_neg (fun q => ht q.2), List.append_nil]
        refine does_nothing _ _ h0 ?_
        show (cut torn (chgA a).text).data.toList = []
        unfold cut
        rw [extract_bytes]
        have : within torn (chgA a).text.size = 0 := by unfold within; omega
        rw [this, List.take_zero]
    · rw [if_neg (show ¬ (chgA a).does = 0 from h0), if_neg (fun q => h0 q.1), List.append_nil]
  · have hw : within keep d.loose.length = d.loose.length := by unfold within; omega
    rw [hw, List.getElem?_eq_none (by simp), List.getElem?_eq_none (by omega)]
    dsimp only
    show s.last.all ((d.loose.map chgA).take d.loose.length) = _
    rw [List.append_nil, List.take_of_length_le (by simp), List.take_of_length_le (by omega)]

theorem sim_tick {s : Dsk} {d : Dskd} (h : Sim s d) (hd : d.down = false) : Sim s.tick d.tick := by
  have hup : s.down = false := by rw [h.down]; exact hd
  unfold Dsk.tick Dskd.tick
  by_cases ha : d.armed = true
  · have hsa : s.armed = true := by rw [h.armed]; exact ha
    have hl := h.left ha
    rw [if_pos hsa, if_pos ha]
    by_cases hz : d.left - 1 = 0
    · rw [if_pos hz]
      refine ⟨h.last, h.loose, h.armed, fun _ => by show s.left - 1 = d.left - 1; omega, ?_, h.right, h.ok1, h.ok2⟩
      show (s.armed && decide (s.left - 1 = 0)) = true
      rw [hsa, decide_eq_true (show s.left - 1 = 0 by omega)]
      rfl
    · rw [if_neg hz]
      refine ⟨h.last, h.loose, h.armed, fun _ => by show s.left - 1 = d.left - 1; omega, ?_, h.right, h.ok1, h.ok2⟩
      show (s.armed && decide (s.left - 1 = 0)) = d.down
      rw [hd, decide_eq_false (show ¬ s.left - 1 = 0 by omega), Bool.and_false]
  · rw [if_neg ha, if_neg (by rw [h.armed]; exact ha)]
    exact h
theorem sim_change {s : Dsk} {d : Dskd} (h : Sim s d) (hd : d.down = false) (a : Actd) (ha : a.right) (k : Nat) (hk : k < 3) (har : a.area = 0 ∨ a.area = 1) (l : List UInt8) (hl : l = if k = 0 then a.b else []) :
    Sim (s.chg k a.area l).1 (Dskd.tick { d with loose := d.loose ++ [{ a with kind := UInt8.ofNat k }] }) ∧ (s.chg k a.area l).2 = 0 := by
  have hr : s.refuses a.area = 0 := by
    unfold Dsk.refuses
    rw [if_pos har, if_neg (by rw [h.down, hd]; simp)]
  have hkk : (UInt8.ofNat k).toNat = k := by rw [UInt8.toNat_ofNat']; omega
  have hc : chgA { a with kind := UInt8.ofNat k } = ⟨k, a.area.toNat, ⟨l.toArray⟩⟩ := by
    unfold chgA
    simp only [hkk, hl]
  have hp : ({ a with kind := UInt8.ofNat k } : Actd).plain := ⟨by show (UInt8.ofNat k).toNat < 3; omega, har, ha⟩
  unfold Dsk.chg
  rw [if_pos hr]
  refine ⟨sim_tick ⟨h.last, ?_, h.armed, h.left, h.down, ?_, h.ok1, ?_⟩ hd, rfl⟩
  · show s.loose ++ [_] = (d.loose ++ [_]).map chgA
    rw [List.map_append, h.loose, ← hc]
    rfl
  · show s.now.does _ = s.last.all (s.loose ++ [_])
    rw [Cont.all_snoc, ← h.right]
  · intro x hx
    rcases List.mem_append.1 hx with q | q
    · exact h.ok2 x q
    · rw [List.mem_singleton.1 q]; exact hp
theorem sim_act {s : Dsk} {d : Dskd} (h : Sim s d) (a : Actd) (ha : a.right) : Sim (s.act a).1 (d.act a).1 ∧ (s.act a).2 = (d.act a).2 := by
  have h6 : a.kind.toNat % 6 < 6 := Nat.mod_lt _ (by omega)
  by_cases k4 : a.kind.toNat % 6 = 4
  · have hS : s.act a = (s.arm a.n, 0) := by
      unfold Dsk.act
      rw [if_neg (by omega), if_neg (by omega), if_neg (by omega), if_neg (by omega), if_pos k4]
    have hD : d.act a = ((if d.down = true then d else { d with armed := decide (0 ≤ a.n), left := a.n, down := decide (a.n = 0) }), 0) := by
      unfold Dskd.act
      dsimp only
      rw [if_pos k4]
    rw [hS, hD]
    refine ⟨?_, rfl⟩
    show Sim (s.arm a.n) (if d.down = true then d else _)
    unfold Dsk.arm
    by_cases hd : d.down = true
    · rw [if_pos hd, if_pos (by rw [h.down]; exact hd)]
      exact h
    · rw [if_neg hd, if_neg (by rw [h.down]; exact hd)]
      refine ⟨h.last, h.loose, rfl, fun q => ?_, ?_, h.right, h.ok1, h.ok2⟩
      · have : 0 ≤ a.n := of_decide_eq_true q
        show max a.n 0 = a.n
        omega
      · show (decide (0 ≤ a.n) && decide (max a.n 0 = 0)) = decide (a.n = 0)
        by_cases hn : 0 ≤ a.n
        · rw [decide_eq_true hn, Bool.true_and, show max a.n 0 = a.n by omega]
        · rw [decide_eq_false hn, Bool.false_and, decide_eq_false (by omega)]
  by_cases k5 : a.kind.toNat % 6 = 5
  · have hS : s.act a = (s.crash a.n a.m, 0) := by
      unfold Dsk.act
      rw [if_neg (by omega), if_neg (by omega), if_neg (by omega), if_neg (by omega), if_neg k4]
    have hD : d.act a = (d.crash a.n a.m, 0) := by
      unfold Dskd.act
      dsimp only
      rw [if_neg k4, if_pos k5]
    rw [hS, hD]
    refine ⟨⟨fallen_is h a.n a.m, rfl, rfl, (fun q => by cases q), rfl, rfl, ?_, (fun _ q => by cases q)⟩, rfl⟩
    intro x hx
    rcases List.mem_append.1 hx with q | q
    · exact h.ok1 x q
    · exact crashA_plain h.ok2 a.n a.m 0 x q
  by_cases k3 : a.kind.toNat % 6 = 3
  · have hS : s.act a = s.sync := by
      unfold Dsk.act
      rw [if_neg (by omega), if_neg (by omega), if_neg (by omega), if_pos k3]
    rw [hS]
    by_cases hd : d.down = true
    · have hD : d.act a = (d, 4) := by
        unfold Dskd.act
        dsimp only
        rw [if_neg k4, if_neg k5, if_neg (by omega), if_pos hd]
      rw [hD, sync_down (by rw [h.down]; exact hd)]
      exact ⟨h, rfl⟩
    · have hdf : d.down = false := by simpa using hd
      have hD : d.act a = (Dskd.tick { d with safe := d.safe ++ d.loose, loose := [] }, 0) := by
        unfold Dskd.act
        dsimp only
        rw [if_neg k4, if_neg k5, if_neg (by omega), if_neg hd, if_pos k3]
      have hr : s.refuses 0 = 0 := by
        unfold Dsk.refuses
        rw [if_pos (.inl rfl), if_neg (by rw [h.down]; exact hd)]
      rw [hD]
      unfold Dsk.sync
      rw [if_pos hr]
      refine ⟨sim_tick ⟨?_, rfl, h.armed, h.left, h.down, ?_, ?_, (fun _ q => by cases q)⟩ hdf, rfl⟩
      · show s.last.all s.loose = contA (d.safe ++ d.loose)
        rw [contA_append _ _ h.ok2, ← h.last, ← h.loose]
      · exact h.right
      · intro x hx
        rcases List.mem_append.1 hx with q | q
        · exact h.ok1 x q
        · exact h.ok2 x q
  have hk : a.kind.toNat % 6 < 3 := by omega
  have key : ∀ (k : Nat) (l : List UInt8), k = a.kind.toNat % 6 → (l = if k = 0 then a.b else []) → Sim (s.chg k a.area l).1 (d.act a).1 ∧ (s.chg k a.area l).2 = (d.act a).2 := by
    intro k l hkk hl
    by_cases har : a.area = 0 ∨ a.area = 1
    · by_cases hd : d.down = true
      · have hD : d.act a = (d, 4) := by
          unfold Dskd.act
          dsimp only
          rw [if_neg k4, if_neg k5, if_neg (fun q => har.elim q.2.1 q.2.2), if_pos hd]
        have hr : s.refuses a.area = 4 := by
          unfold Dsk.refuses
          rw [if_pos har, if_pos (by rw [h.down]; exact hd)]
        rw [hD]
        unfold Dsk.chg
        rw [hr]
        exact ⟨h, rfl⟩
      · have hdf : d.down = false := by simpa using hd
        have hD : d.act a = (Dskd.tick { d with loose := d.loose ++ [{ a with kind := UInt8.ofNat k }] }, 0) := by
          unfold Dskd.act
          dsimp only
          rw [if_neg k4, if_neg k5, if_neg (fun q => har.elim q.2.1 q.2.2), if_neg hd, if_neg k3, hkk]
        rw [hD]
        exact sim_change h hdf a ha k (by omega) har l hl
    · have hD : d.act a = (d, 1) := by
        unfold Dskd.act
        dsimp only
        rw [if_neg k4, if_neg k5, if_pos ⟨hk, fun q => har (.inl q), fun q => har (.inr q)⟩]
      have hr : s.refuses a.area = 1 := by
        unfold Dsk.refuses
        rw [if_neg har]
      rw [hD]
      unfold Dsk.chg
      rw [hr]
      exact ⟨h, rfl⟩
  by_cases k0 : a.kind.toNat % 6 = 0
  · have hS : s.act a = s.chg 0 a.area a.b := by
      unfold Dsk.act
      rw [if_pos k0]
    rw [hS]
    exact key 0 a.b k0.symm rfl
  by_cases k1 : a.kind.toNat % 6 = 1
  · have hS : s.act a = s.chg 1 a.area [] := by
      unfold Dsk.act
      rw [if_neg k0, if_pos k1]
    rw [hS]
    exact key 1 [] k1.symm rfl
  have k2 : a.kind.toNat % 6 = 2 := by omega
  have hS : s.act a = s.chg 2 a.area [] := by
    unfold Dsk.act
    rw [if_neg k0, if_neg k1, if_pos k2]
  rw [hS]
  exact key 2 [] k2.symm rfl

end Go.Proofs.Ytcdobelhchlheaa
