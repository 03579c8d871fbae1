/- Queues, plain: cells that wait, their order; rows in order. -/
import Derived.Test.YtpbjmhcpaeillaaQPlain
namespace Wq

/-- A cell that waits. -/
structure Wr where
  s : Int
  r : Int
  c : Int
  ln : Int
  lv : Int
/-- Does one go ahead of another one? -/
def ltW (a b : Wr) : Bool := decide (a.ln < b.ln ∨ a.ln = b.ln ∧ (a.lv < b.lv ∨ a.lv = b.lv ∧ (a.s < b.s ∨ a.s = b.s ∧ (a.r < b.r ∨ a.r = b.r ∧ a.c < b.c))))
theorem ord_W : Ord ltW := by
  refine ⟨fun a b h => ?_, fun a b c h1 h2 => ?_⟩
  · unfold ltW at *
    rw [decide_eq_true_eq] at h
    rw [decide_eq_false_iff_not]
    omega
  · unfold ltW at *
    rw [decide_eq_false_iff_not] at *
    omega
theorem ltW_eq {a b : Wr} (h1 : ltW a b = false) (h2 : ltW b a = false) : a = b := by
  unfold ltW at *
  rw [decide_eq_false_iff_not] at *
  obtain ⟨s, r, c, ln, lv⟩ := a
  obtain ⟨s', r', c', ln', lv'⟩ := b
  simp only at h1 h2
  have e1 : ln = ln' := by omega
  have e2 : lv = lv' := by omega
  have e3 : s = s' := by omega
  have e4 : r = r' := by omega
  have e5 : c = c' := by omega
  rw [e1, e2, e3, e4, e5]
/-- Rows in order that hold the same are one row. -/
theorem rows_one {l m : List Wr} (h : l.Perm m) (hl : l.Pairwise (fun a b => ltW b a = false)) (hm : m.Pairwise (fun a b => ltW b a = false)) : l = m :=
  h.eq_of_pairwise (fun _ _ _ _ h1 h2 => ltW_eq h2 h1) hl hm
end Wq
