/- Plain facts on sums of lists. -/
import Derived.Test.YtfilmomndhlmbaaDoorPlainG
namespace Go.Proofs.YtfilmomndhlmbaaDoor.Wnum

/-- One behind the other, as long as each sum fits. -/
def sumQ (acc : Rat) : List Rat → Option Rat
  | [] => some acc
  | q :: l => if okQ (acc + q) = true then sumQ (acc + q) l else none
def els (f g : Nat → Int) (len : Nat) : List Rat := (List.range len).map fun i => qu (f i) (g i)
theorem els_length (f g : Nat → Int) (len : Nat) : (els f g len).length = len := by unfold els; simp
theorem els_drop {f g : Nat → Int} {len j : Nat} (h : j < len) : (els f g len).drop j = qu (f j) (g j) :: (els f g len).drop (j + 1) := by
  rw [List.drop_eq_getElem_cons (by rw [els_length]; exact h)]
  congr 1
  unfold els
  simp
theorem sumQ_in {T q : Rat} {l : List Rat} (h : okQ (T + q) = true) : sumQ T (q :: l) = sumQ (T + q) l := if_pos h
theorem sumQ_out {T q : Rat} {l : List Rat} (h : okQ (T + q) = false) : sumQ T (q :: l) = none := by
  show (if okQ (T + q) = true then sumQ (T + q) l else none) = none
  rw [h]; rfl
theorem sumQ_end {f g : Nat → Int} {T : Rat} {len : Nat} : sumQ T ((els f g len).drop len) = some T := by
  rw [List.drop_of_length_le (by rw [els_length]; exact Nat.le_refl _)]; rfl
theorem zero_ok : okQ 0 = true := by decide +kernel
end Go.Proofs.YtfilmomndhlmbaaDoor.Wnum
