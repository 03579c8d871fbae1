/- Make of any ints; the reference's Sub. -/
import Derived.Test.YtfilmomndhlmbabDoorWalkI
import Derived.Test.YtfilmomndhlmbabDoorWalkH
import Derived.Test.YtfilmomndhlmbabDoorPlainC
namespace Go.Proofs.YtfilmomndhlmbabDoor
open Go.RowKit
set_option linter.unusedVariables false

theorem even_facts {d : Int} (h : d % 2 = 0) : d.tdiv 2 = d / 2 ∧ d.tmod 2 = 0 := by
  have hd : (2 : Int) ∣ d := Int.dvd_of_emod_eq_zero h
  exact ⟨Int.tdiv_eq_ediv_of_dvd hd, Int.tmod_eq_zero_of_dvd hd⟩

theorem make_any (n d : Int) (w : World) (h1 : -9223372036854775808 ≤ n) (h2 : n ≤ 9223372036854775807) (h3 : -9223372036854775808 ≤ d) (h4 : d ≤ 9223372036854775807) :
    Calls Tryd.prog 25 #[.int .i64 n, .int .i64 d] w fun e w' => e = .returned (.tuple #[.agg #[.int .i64 (Wnum.oN (Wnum.mk n d)), .int .i64 (Wnum.oD (Wnum.mk n d))], .bool (Wnum.oB (Wnum.mk n d))]) ∧ Below w.heap.size w w' := by
  by_cases c1 : n = -9223372036854775808
  · have tn : (n == -9223372036854775808) = true := beq_iff_eq.2 c1
    by_cases c2 : d % 2 = 0
    · have en : n % 2 = 0 := by omega
      obtain ⟨e1, e5⟩ := even_facts en
      obtain ⟨e3, e7⟩ := even_facts c2
      rw [← Wnum.mk_half en c2]
      rcases Int.lt_trichotomy (d / 2) 0 with h | h | h
      · rw [Wnum.mk_pos (show d / 2 ≠ 0 by omega), ← Rat.neg_divInt_neg]
        exact make_h2 n d (n / 2) (d / 2) (-(n / 2)) (-(d / 2)) w tn h1 h2 h3 h4 e1 rfl e3 rfl e5 en e7 c2 (rfl : -(n / 2) = -(n / 2)) (rfl : -(d / 2) = -(d / 2)) (by omega) (by omega) (by omega) (by omega) (by omega) (by omega) (by omega) (by omega)
      · have e9 := make_h3 n d (n / 2) (d / 2) w tn h1 h2 h3 h4 e1 rfl e3 rfl e5 en e7 c2 (by omega) (by omega) (beq_iff_eq.2 h)
        rw [h, Wnum.mk_zero]
        exact e9
      · rw [Wnum.mk_pos (show d / 2 ≠ 0 by omega)]
        exact make_h1 n d (n / 2) (d / 2) w tn h1 h2 h3 h4 e1 rfl e3 rfl e5 en e7 c2 (by omega) (by omega) (by omega) (by omega)
    · exact make_odd_right n d w tn h3 h4 c2
  · have tn : (n == -9223372036854775808) = false := beq_eq_false_iff_ne.2 c1
    by_cases c3 : d = -9223372036854775808
    · have td : (d == -9223372036854775808) = true := beq_iff_eq.2 c3
      by_cases c2 : n % 2 = 0
      · have en : d % 2 = 0 := by omega
        obtain ⟨e1, e5⟩ := even_facts c2
        obtain ⟨e3, e7⟩ := even_facts en
        rw [← Wnum.mk_half c2 en, Wnum.mk_pos (show d / 2 ≠ 0 by omega), ← Rat.neg_divInt_neg]
        exact make_h4 n d (n / 2) (d / 2) (-(n / 2)) (-(d / 2)) w tn td h1 h2 h3 h4 e1 rfl e3 rfl e5 c2 e7 en (rfl : -(n / 2) = -(n / 2)) (rfl : -(d / 2) = -(d / 2)) (by omega) (by omega) (by omega) (by omega) (by omega) (by omega) (by omega) (by omega)
      · exact make_odd_left n d w h1 h2 tn td c2
    · exact make_most n d w (by omega) h2 (by omega) h4

theorem keep4_far {W : World} {k j i o : Nat} {a b c d v : Value} (hk : i ≠ k) (hj : i ≠ j) (h : W.cell? ⟨k, 0, none⟩ = some a ∧ W.cell? ⟨k, 1, none⟩ = some b ∧ W.cell? ⟨j, 0, none⟩ = some c ∧ W.cell? ⟨j, 1, none⟩ = some d) :
    (W.setCell ⟨i, o, none⟩ v).cell? ⟨k, 0, none⟩ = some a ∧ (W.setCell ⟨i, o, none⟩ v).cell? ⟨k, 1, none⟩ = some b ∧ (W.setCell ⟨i, o, none⟩ v).cell? ⟨j, 0, none⟩ = some c ∧ (W.setCell ⟨i, o, none⟩ v).cell? ⟨j, 1, none⟩ = some d := by
  obtain ⟨h1, h2, h3, h4⟩ := h
  refine ⟨?_, ?_, ?_, ?_⟩
  · rw [World.cell?_setCell_far _ _ _ _ (by simpa using hk)]; exact h1
  · rw [World.cell?_setCell_far _ _ _ _ (by simpa using hk)]; exact h2
  · rw [World.cell?_setCell_far _ _ _ _ (by simpa using hj)]; exact h3
  · rw [World.cell?_setCell_far _ _ _ _ (by simpa using hj)]; exact h4

end Go.Proofs.YtfilmomndhlmbabDoor