/- Queues, plain: the row and the map of a heap say the same. -/
import Derived.Test.YtpbjmhcpaeillaaQSw
namespace Go.Proofs.Ytpbjmhcpaeillaa
open Go.RowKit
set_option linter.unusedVariables false

/-- The cell that waits. -/
abbrev clW (a : Wq.Wr) : Wpl.Cl := ⟨a.s, a.r, a.c⟩
/-- The map tells where in the row each cell stands. -/
def WF (l : List Wq.Wr) (F : List (Wpl.Cl × Int)) : Prop := KN F ∧ ∀ (x : Wpl.Cl) (v : Int), (x, v) ∈ F ↔ ∃ i : Nat, v = (i : Int) ∧ ∃ a, l[i]? = some a ∧ clW a = x
theorem WF.one {l : List Wq.Wr} {F : List (Wpl.Cl × Int)} (h : WF l F) {i k : Nat} {a b : Wq.Wr} (ha : l[i]? = some a) (hb : l[k]? = some b) (e : clW a = clW b) : i = k := by
  have h1 := (h.2 (clW a) i).2 ⟨i, rfl, a, ha, rfl⟩
  have h2 := (h.2 (clW a) k).2 ⟨k, rfl, b, hb, e.symm⟩
  have := h.1.one h1 h2
  omega
theorem get_swap {l : List Wq.Wr} {i k : Nat} {a b : Wq.Wr} (ha : l[i]? = some a) (hb : l[k]? = some b) (j : Nat) : ((l.set i b).set k a)[j]? = if j = k then some a else if j = i then some b else l[j]? := by
  obtain ⟨hi, _⟩ := List.getElem?_eq_some_iff.1 ha
  obtain ⟨hk, _⟩ := List.getElem?_eq_some_iff.1 hb
  rw [List.getElem?_set, List.length_set]
  by_cases c : j = k
  · subst c
    rw [if_pos rfl, if_pos rfl, if_pos hk]
  · rw [if_neg (fun e => c e.symm), if_neg c, List.getElem?_set]
    by_cases d : j = i
    · subst d
      rw [if_pos rfl, if_pos rfl, if_pos hi]
    · rw [if_neg (fun e => d e.symm), if_neg d]
theorem WF.swap {l : List Wq.Wr} {F : List (Wpl.Cl × Int)} (h : WF l F) {i k : Nat} (hik : i ≠ k) {a b : Wq.Wr} (ha : l[i]? = some a) (hb : l[k]? = some b) : WF ((l.set i b).set k a) (putF (clW a) (k : Int) (putF (clW b) (i : Int) F)) := by
  have hab : clW a ≠ clW b := fun e => hik (h.one ha hb e)
  obtain ⟨k1, m1⟩ := h.1.put (clW b) (i : Int)
  obtain ⟨k2, m2⟩ := k1.put (clW a) (k : Int)
  refine ⟨k2, fun x v => ?_⟩
  rw [m2, m1]
  constructor
  · rintro (⟨rfl, rfl⟩ | ⟨n1, ⟨rfl, rfl⟩ | ⟨n2, hm⟩⟩)
    · exact ⟨k, rfl, a, by rw [get_swap ha hb, if_pos rfl], rfl⟩
    · exact ⟨i, rfl, b, by rw [get_swap ha hb, if_neg hik, if_pos rfl], rfl⟩
    · obtain ⟨j, rfl, y, hy, rfl⟩ := (h.2 x v).1 hm
      have j1 : j ≠ i := fun e => by subst e; rw [ha] at hy; cases hy; exact n1 rfl
      have j2 : j ≠ k := fun e => by subst e; rw [hb] at hy; cases hy; exact n2 rfl
      exact ⟨j, rfl, y, by rw [get_swap ha hb, if_neg j2, if_neg j1]; exact hy, rfl⟩
  · rintro ⟨j, rfl, y, hy, rfl⟩
    rw [get_swap ha hb] at hy
    by_cases c : j = k
    · rw [if_pos c] at hy
      cases hy
      exact Or.inl ⟨rfl, by rw [c]⟩
    · rw [if_neg c] at hy
      by_cases d : j = i
      · rw [if_pos d] at hy
        cases hy
        exact Or.inr ⟨fun e => hab e.symm, Or.inl ⟨rfl, by rw [d]⟩⟩
      · rw [if_neg d] at hy
        exact Or.inr ⟨fun e => d (h.one hy ha e), Or.inr ⟨fun e => c (h.one hy hb e), (h.2 _ _).2 ⟨j, rfl, y, hy, rfl⟩⟩⟩
/-- The row as a function. -/
def fnW (l : List Wq.Wr) (j : Nat) : Wq.Wr := (l[j]?).getD ⟨0, 0, 0, 0, 0⟩
theorem fnW_at {l : List Wq.Wr} {j : Nat} {a : Wq.Wr} (h : l[j]? = some a) : fnW l j = a := by
  unfold fnW
  rw [h]
  rfl
theorem fnW_swap {l : List Wq.Wr} {i k : Nat} {a b : Wq.Wr} (ha : l[i]? = some a) (hb : l[k]? = some b) : fnW ((l.set i b).set k a) = Wq.swp (fnW l) i k := by
  funext j
  unfold Wq.swp
  by_cases c : j = i
  · rw [if_pos c]
    by_cases d : j = k
    · have : a = b := by
        rw [← c, d, hb] at ha
        simpa using ha.symm
      rw [fnW_at (a := a) (by rw [get_swap ha hb, if_pos d]), fnW_at hb, this]
    · rw [fnW_at (a := b) (by rw [get_swap ha hb, if_neg d, if_pos c]), fnW_at hb]
  · rw [if_neg c]
    by_cases d : j = k
    · rw [if_pos d, fnW_at (a := a) (by rw [get_swap ha hb, if_pos d]), fnW_at ha]
    · rw [if_neg d]
      unfold fnW
      rw [get_swap ha hb, if_neg d, if_neg c]
theorem swap_perm {l : List Wq.Wr} {i k : Nat} {a b : Wq.Wr} (ha : l[i]? = some a) (hb : l[k]? = some b) : ((l.set i b).set k a).Perm l := by
  obtain ⟨hi, rfl⟩ := List.getElem?_eq_some_iff.1 ha
  obtain ⟨hk, rfl⟩ := List.getElem?_eq_some_iff.1 hb
  exact List.set_set_perm hi hk
theorem swap_len {l : List Wq.Wr} {i k : Nat} {a b : Wq.Wr} : ((l.set i b).set k a).length = l.length := by simp
end Go.Proofs.Ytpbjmhcpaeillaa
