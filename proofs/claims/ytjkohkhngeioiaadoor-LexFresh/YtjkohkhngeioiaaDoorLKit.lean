/- A range over a string; the kinds of bytes. -/
import Derived.Test.YtjkohkhngeioiaaDoorPKit
import Derived.Test.YtjkohkhngeioiaaDoorLPlain
import Derived.Lib.OthersKept
namespace Go.Proofs.YtjkohkhngeioiaaDoor
open Go.RowKit
set_option linter.unusedVariables false

theorem byte_bd (c : UInt8) : (0 : Int) ≤ (c.toNat : Int) ∧ (c.toNat : Int) ≤ 255 := by have := c.toNat_lt; omega

theorem isDigit_any (r : Int) (w : World) : Calls Tryd.prog 41 #[.int .i32 r] w fun e w' => e = .returned (.bool (decide (48 ≤ r) && decide (r ≤ 57))) ∧ w = w' := by
  go_enter Tryd.func41, Tryd.ntmps41
  by_cases a : 48 ≤ r
  · go_wp2
    go_ret
    exact ⟨ret_bool (by simp [a]), rfl⟩
  · go_wp2
    go_ret
    exact ⟨ret_bool (by rw [decide_eq_false (by omega)]; rfl), rfl⟩
theorem isPrintable_any (r : Int) (w : World) : Calls Tryd.prog 20 #[.int .i32 r] w fun e w' => e = .returned (.bool (decide (32 ≤ r) && decide (r ≤ 126))) ∧ w = w' := by
  go_enter Tryd.func20, Tryd.ntmps20
  by_cases a : 32 ≤ r
  · go_wp2
    go_ret
    exact ⟨ret_bool (by simp [a]), rfl⟩
  · go_wp2
    go_ret
    exact ⟨ret_bool (by rw [decide_eq_false (by omega)]; rfl), rfl⟩
theorem isOfWord_any (r : Int) (w : World) : Calls Tryd.prog 30 #[.int .i32 r] w fun e w' => e = .returned (.bool ((decide (65 ≤ r) && decide (r ≤ 90)) || (decide (97 ≤ r) && decide (r ≤ 122)) || decide (r = 36) || (decide (48 ≤ r) && decide (r ≤ 57)))) ∧ w = w' := by
  have hU : undef = Value.tuple #[] := rfl
  go_enter Tryd.func30, Tryd.ntmps30
  by_cases a : 65 ≤ r ∧ r ≤ 90
  · obtain ⟨a1, a2⟩ := a
    go_wp2
    go_ret
    exact ⟨ret_bool (by simp [a1, a2]), rfl⟩
  · by_cases b : 97 ≤ r ∧ r ≤ 122
    · obtain ⟨a1, a2⟩ := b
      have a3 : 65 ≤ r := by omega
      have a4 : ¬ r ≤ 90 := by omega
      go_wp2
      go_ret
      exact ⟨ret_bool (by simp), rfl⟩
    · by_cases c : r = 36
      · subst c
        go_wp2
        go_ret
        exact ⟨rfl, rfl⟩
      · have E : Hid (((decide (65 ≤ r) && decide (r ≤ 90)) || (decide (97 ≤ r) && decide (r ≤ 122)) || decide (r = 36) || (decide (48 ≤ r) && decide (r ≤ 57))) = (decide (48 ≤ r) && decide (r ≤ 57))) := by
          show _ = _
          have e1 : (decide (65 ≤ r) && decide (r ≤ 90)) = false := by simp; omega
          have e2 : (decide (97 ≤ r) && decide (r ≤ 122)) = false := by simp; omega
          rw [e1, e2, decide_eq_false c]
          rfl
        have fin : ∀ w', w = w' → Calls Tryd.prog 41 #[.int .i32 r] w' fun e w' => e = .returned (.bool (decide (48 ≤ r) && decide (r ≤ 57))) ∧ w = w' := fun w' h => by rw [← h]; exact isDigit_any r w
        rw [E.out]
        generalize (decide (48 ≤ r) && decide (r ≤ 57)) = bb at fin
        clear E
        by_cases d : 65 ≤ r
        · have d2 : ¬ r ≤ 90 := by omega
          by_cases f : 97 ≤ r
          · have f2 : ¬ r ≤ 122 := by omega
            go_wp2_with fail
            refine (fin _ rfl).mono ?_
            rintro e w1 ⟨rfl, rfl⟩
            go_wp2
            go_ret
            exact ⟨ret_bool (by simp [c]), rfl⟩
          · go_wp2_with fail
            refine (fin _ rfl).mono ?_
            rintro e w1 ⟨rfl, rfl⟩
            go_wp2
            go_ret
            exact ⟨ret_bool (by simp [c]), rfl⟩
        · have f : ¬ 97 ≤ r := by omega
          go_wp2_with fail
          refine (fin _ rfl).mono ?_
          rintro e w1 ⟨rfl, rfl⟩
          go_wp2
          go_ret
          exact ⟨ret_bool (by simp [c]), rfl⟩
end Go.Proofs.YtjkohkhngeioiaaDoor
