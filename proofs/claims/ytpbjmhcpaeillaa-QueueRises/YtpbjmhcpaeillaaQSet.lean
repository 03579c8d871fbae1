/- Queues: an entry comes to its place; what is held. -/
import Derived.Test.YtpbjmhcpaeillaaQSink
namespace Go.Proofs.Ytpbjmhcpaeillaa
open Go.RowKit
set_option linter.unusedVariables false

/-- What settle answers. -/
def SetP (w : World) (hb mb B g n cap : Nat) (l : List Wq.Wr) (i : Nat) (en : Ending) (w' : World) : Prop := ∃ (l' : List Wq.Wr) (F' : List (Wpl.Cl × Int)), en = .returned (.tuple #[]) ∧ HW w w' hb mb B g n cap l l' F' ∧ (Wq.Up Wq.ltW n (fnW l) i → Wq.Heap Wq.ltW n 0 (fnW l'))
set_option maxHeartbeats 4000000 in
theorem settle_any (hb mb B g n cap : Nat) (l : List Wq.Wr) (F : List (Wpl.Cl × Int)) (i : Nat) (w : World) (h : HQ w hb mb B (.slice (some ⟨g, 0, none⟩) n cap) l F) (hf : WF l F) (hn : l.length = n) (hi : i < n) (hN : True → n ≤ 1000000000) :
    Calls Try.prog 43 #[.pointer (some ⟨hb, 0, none⟩), .int .i64 (i : Int)] w (SetP w hb mb B g n cap l i) := by
  have RI := rise_any hb mb B g n cap l F i w h hf hn hi hN
  have HSK : Hid (∀ (W : World) (l1 : List Wq.Wr) (F1 : List (Wpl.Cl × Int)) (j : Nat), HQ W hb mb B (.slice (some ⟨g, 0, none⟩) n cap) l1 F1 → WF l1 F1 → l1.length = n → j < n → Calls Try.prog 46 #[.pointer (some ⟨hb, 0, none⟩), .int .i64 (j : Int)] W (SnkP W hb mb B g n cap l1 j)) := fun W l1 F1 j h1 h2 h3 h4 => sink_any hb mb B g n cap l1 F1 j W h1 h2 h3 h4 hN
  clear h hf hn hi hN
  go_enter Try.func43, Try.ntmps43
  go_wp2_with fail
  refine RI.mono ?_
  rintro en w1 ⟨j, l1, F1, rfl, hj, h1, hu⟩
  have SK := HSK.out w1 l1 F1 j h1.q h1.f h1.len hj
  have H1 : Hid (HW w w1 hb mb B g n cap l l1 F1 ∧ (Wq.Up Wq.ltW n (fnW l) i → Wq.Dn Wq.ltW n 0 (fnW l1) j)) := ⟨h1, hu⟩
  clear RI HSK h1 hu hj
  go_wp2_with fail
  refine SK.mono ?_
  rintro en w2 ⟨l2, F2, rfl, h2, hd⟩
  have H2 : Hid (HW w w2 hb mb B g n cap l l2 F2 ∧ (Wq.Up Wq.ltW n (fnW l) i → Wq.Heap Wq.ltW n 0 (fnW l2))) := ⟨⟨h2.q, h2.f, h2.p.trans H1.out.1.p, h2.len, Fr.trans H1.out.1.fr h2.fr⟩, fun z => hd 0 (Nat.zero_le _) (H1.out.2 z)⟩
  clear SK H1 h2 hd
  go_wp2
  go_end0
  exact ⟨l2, F2, rfl, H2.out.1, H2.out.2⟩
/-- A row with a cell's entry laid anew; with it taken off. -/
def offW (x : Wpl.Cl) (l : List Wq.Wr) : List Wq.Wr := l.filter (fun a => !eqCl (clW a) x)
theorem offW_none {x : Wpl.Cl} {l : List Wq.Wr} (h : ∀ a ∈ l, clW a ≠ x) : offW x l = l := by
  unfold offW
  rw [List.filter_eq_self]
  intro a ha
  cases q : eqCl (clW a) x with
  | false => rfl
  | true => exact absurd (eqCl_iff.1 q) (h a ha)
/-- One of the row is of the cell: the others. -/
theorem offW_erase {F : List (Wpl.Cl × Int)} {l : List Wq.Wr} (h : WF l F) {i : Nat} {a : Wq.Wr} (ha : l[i]? = some a) : offW (clW a) l = l.eraseIdx i := by
  obtain ⟨hi, ea⟩ := List.getElem?_eq_some_iff.1 ha
  have e1 : l = l.take i ++ a :: l.drop (i + 1) := by rw [← ea, ← List.drop_eq_getElem_cons hi, List.take_append_drop]
  have n1 : ∀ b ∈ l.take i, clW b ≠ clW a := fun b hb e => by
    obtain ⟨j, hj⟩ := List.mem_iff_getElem?.1 hb
    rw [List.getElem?_take] at hj
    by_cases c : j < i
    · rw [if_pos c] at hj
      have := h.one hj ha e
      omega
    · rw [if_neg c] at hj
      cases hj
  have n2 : ∀ b ∈ l.drop (i + 1), clW b ≠ clW a := fun b hb e => by
    obtain ⟨j, hj⟩ := List.mem_iff_getElem?.1 hb
    rw [List.getElem?_drop] at hj
    have := h.one hj ha e
    omega
  have o1 := offW_none n1
  have o2 := offW_none n2
  unfold offW at *
  conv => lhs; rw [e1]
  rw [List.filter_append, o1, List.filter_cons, if_neg (by simp [eqCl_iff.2]), o2, List.eraseIdx_eq_take_drop_succ]
theorem set_perm {l : List Wq.Wr} {i : Nat} (hi : i < l.length) (e : Wq.Wr) : (l.set i e).Perm (e :: l.eraseIdx i) := by
  rw [List.set_eq_take_append_cons_drop, if_pos hi, List.eraseIdx_eq_take_drop_succ]
  exact List.perm_middle
/-- An entry is laid in the place of its cell's. -/
theorem WF.lay {l : List Wq.Wr} {F : List (Wpl.Cl × Int)} (h : WF l F) {i : Nat} {a e : Wq.Wr} (ha : l[i]? = some a) (he : clW a = clW e) : WF (l.set i e) (putF (clW e) (i : Int) F) := by
  obtain ⟨hi, _⟩ := List.getElem?_eq_some_iff.1 ha
  obtain ⟨k1, m1⟩ := h.1.put (clW e) (i : Int)
  refine ⟨k1, fun x v => ?_⟩
  rw [m1]
  constructor
  · rintro (⟨rfl, rfl⟩ | ⟨n1, hm⟩)
    · exact ⟨i, rfl, e, by rw [List.getElem?_set_self hi], rfl⟩
    · obtain ⟨j, rfl, y, hy, rfl⟩ := (h.2 x v).1 hm
      have j1 : i ≠ j := fun z => by subst z; rw [ha] at hy; cases hy; exact n1 he
      exact ⟨j, rfl, y, by rw [List.getElem?_set_ne j1]; exact hy, rfl⟩
  · rintro ⟨j, rfl, y, hy, rfl⟩
    by_cases c : i = j
    · subst c
      rw [List.getElem?_set_self hi] at hy
      cases hy
      exact Or.inl ⟨rfl, rfl⟩
    · rw [List.getElem?_set_ne c] at hy
      exact Or.inr ⟨fun z => c (h.one ha hy (he.trans z.symm)), (h.2 _ _).2 ⟨j, rfl, y, hy, rfl⟩⟩
/-- An entry is laid behind. -/
theorem WF.more {l : List Wq.Wr} {F : List (Wpl.Cl × Int)} (h : WF l F) {e : Wq.Wr} (hn : ∀ v, (clW e, v) ∉ F) : WF (l ++ [e]) (putF (clW e) (l.length : Int) F) := by
  obtain ⟨k1, m1⟩ := h.1.put (clW e) (l.length : Int)
  refine ⟨k1, fun x v => ?_⟩
  rw [m1]
  constructor
  · rintro (⟨rfl, rfl⟩ | ⟨n1, hm⟩)
    · exact ⟨l.length, rfl, e, by simp, rfl⟩
    · obtain ⟨j, rfl, y, hy, rfl⟩ := (h.2 x v).1 hm
      exact ⟨j, rfl, y, by rw [List.getElem?_append_left (List.getElem?_eq_some_iff.1 hy).1]; exact hy, rfl⟩
  · rintro ⟨j, rfl, y, hy, rfl⟩
    by_cases c : j < l.length
    · rw [List.getElem?_append_left c] at hy
      exact Or.inr ⟨fun z => hn j (by rw [← z]; exact (h.2 _ _).2 ⟨j, rfl, y, hy, rfl⟩), (h.2 _ _).2 ⟨j, rfl, y, hy, rfl⟩⟩
    · rw [List.getElem?_append_right (by omega)] at hy
      have e0 : j - l.length = 0 := by
        have := (List.getElem?_eq_some_iff.1 hy).1
        simp at this
        omega
      rw [e0] at hy
      simp at hy
      exact Or.inl ⟨by rw [← hy], by have : j = l.length := by omega
                                     rw [this]⟩
theorem WF.miss {l : List Wq.Wr} {F : List (Wpl.Cl × Int)} (h : WF l F) {x : Wpl.Cl} (hn : gtB x F = false) : (∀ v, (x, v) ∉ F) ∧ ∀ a ∈ l, clW a ≠ x := by
  have h1 : ∀ v, (x, v) ∉ F := fun v hm => by
    have := (h.1.look.2 hm).1
    rw [hn] at this
    cases this
  refine ⟨h1, fun a ha e => ?_⟩
  obtain ⟨j, hj⟩ := List.mem_iff_getElem?.1 ha
  exact h1 j ((h.2 _ _).2 ⟨j, rfl, a, hj, e⟩)
theorem WF.hit {l : List Wq.Wr} {F : List (Wpl.Cl × Int)} (h : WF l F) {x : Wpl.Cl} (hn : gtB x F = true) : ∃ (i : Nat) (a : Wq.Wr), gtI x F = (i : Int) ∧ l[i]? = some a ∧ clW a = x := by
  have hm := h.1.look.1 ⟨hn, rfl⟩
  obtain ⟨i, e, a, ha, hx⟩ := (h.2 _ _).1 hm
  exact ⟨i, a, e, ha, hx⟩
end Go.Proofs.Ytpbjmhcpaeillaa
