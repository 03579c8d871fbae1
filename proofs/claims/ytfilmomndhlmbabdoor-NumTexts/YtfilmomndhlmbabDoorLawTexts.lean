/- NumTexts answers true, whatever it is asked. -/
import Derived.Test.YtfilmomndhlmbabDoorWalkE
import Derived.Test.YtfilmomndhlmbabDoorWalkTy
import Derived.Deep.RegionHeld3
namespace Go.Proofs.YtfilmomndhlmbabDoor
open Go.RowKit
set_option linter.unusedVariables false

set_option maxHeartbeats 1600000 in
theorem texts_walk (a b : Int) (w : World) (h1 : -9223372036854775808 ≤ a) (h2 : a ≤ 9223372036854775807) (h3 : -9223372036854775808 ≤ b) (h4 : b ≤ 9223372036854775807) (htab : Lib.TabIs Tryd.prog w "internal/strconv.uint64pow10" .u64 Lib.pow10Tab) :
    Calls Tryd.prog 3 #[.agg #[.int .i64 a, .int .i64 b]] w fun e w' => e = .returned (.bool true) ∧ Below w.heap.size w w' := by
  have TB := Lib.tabBelow_of_tabIs htab
  obtain ⟨l, HL⟩ : ∃ l, Hid (Wnum.txt (Wnum.cN a b) (Wnum.cD a b).toNat = l) := ⟨_, (rfl : Wnum.txt (Wnum.cN a b) (Wnum.cD a b).toNat = _)⟩
  go_enter Tryd.func3, Tryd.ntmps3
  go_wp2_with fail
  go_region_held3 (fun W => W.cell? ⟨w.heap.size, 0, none⟩ = some (.int .i64 a) ∧ W.cell? ⟨w.heap.size, 1, none⟩ = some (.int .i64 b)) (first | (simp [go_sem]; done) | exact keep2 hb (by assumption))
    (first
      | (go_at_call 6; refine (able_any _).mono ?_; rintro e w1 ⟨rfl, hb⟩)
      | (go_at_call 7; refine (text_any _ _ _ (by assumption) (by assumption) (by assumption) (by assumption) (TB.on (by with_reducible repeat (first | exact Below.refl _ _ | refine below_drewN ?_ _ | refine Below.setCell ?_ (by first | (simp; done) | (simp; omega) | omega) _ | refine Below.drew ?_ | refine below_end ?_ (by assumption) | refine ball ?_ _))).here).mono ?_; rintro e w1 ⟨rfl, hb⟩; rw [HL.out])
      | (go_at_call 8; refine (rtext_any _ _ _ (by assumption) (by assumption) (by assumption) (by assumption)).mono ?_; rintro e w1 ⟨rfl, hb⟩; rw [HL.out]))
  all_goals
    go_wp2
    go_ret
    exact ⟨rfl, by with_reducible repeat (first | exact Below.refl _ _ | refine below_drewN ?_ _ | refine Below.setCell ?_ (by first | (simp; done) | (simp; omega) | omega) _ | refine Below.drew ?_ | refine below_end ?_ (by assumption) | refine ball ?_ _)⟩
end Go.Proofs.YtfilmomndhlmbabDoor
