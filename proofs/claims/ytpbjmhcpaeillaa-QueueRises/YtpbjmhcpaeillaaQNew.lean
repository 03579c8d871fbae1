/- Queues: a new heap. -/
import Derived.Test.YtpbjmhcpaeillaaQDrop
namespace Go.Proofs.Ytpbjmhcpaeillaa
open Go.RowKit
set_option linter.unusedVariables false

theorem mkMapQ (w : World) : (Instr.makeMap 74 none).run Try.prog w = .ok (.map (some w.heap.size)) (w.alloc (.map #[] 0)) := by kernel_rfl
theorem cm_new (w : World) : CM (w.alloc (.map #[] 0)) w.heap.size [] := ⟨#[], 0, (Go.MapKept.heap_alloc w _).1, rfl⟩
theorem newHeap_any (w : World) : Calls Try.prog 26 #[] w fun en w' => en = .returned (.pointer (some ⟨w.heap.size + 1, 0, none⟩)) ∧ QH w' (w.heap.size + 1) w.heap.size w.heap.size (.slice none 0 0) [] [] ∧ Below w.heap.size w w' ∧ w'.heap.size = w.heap.size + 2 := by
  have mm := mkMapQ w
  have hb1 := ball (Below.refl _ w) (.map #[] 0)
  have hb2 := ball hb1 (.cells #[.slice none 0 0, .map (some w.heap.size)] 76)
  have HE : Hid (QH ((w.alloc (.map #[] 0)).alloc (.cells #[.slice none 0 0, .map (some w.heap.size)] 76)) (w.heap.size + 1) w.heap.size w.heap.size (.slice none 0 0) [] [] ∧ Below w.heap.size w ((w.alloc (.map #[] 0)).alloc (.cells #[.slice none 0 0, .map (some w.heap.size)] 76)) ∧ ((w.alloc (.map #[] 0)).alloc (.cells #[.slice none 0 0, .map (some w.heap.size)] 76)).heap.size = w.heap.size + 2) := by
    refine ⟨⟨⟨AtL.new1 w (.map #[] 0) 76 [.slice none 0 0, .map (some w.heap.size)], ⟨rfl, Or.inl ⟨rfl, rfl⟩⟩, ?_, (fun g e => by cases e), (by omega)⟩, ⟨(by simp [KN]), (fun x v => by simp)⟩, (fun j h0 hj => by simp at hj)⟩, hb2, by simp⟩
    have fr : Fr [] (w.alloc (.map #[] 0)) ((w.alloc (.map #[] 0)).alloc (.cells #[.slice none 0 0, .map (some w.heap.size)] 76)) := Fr.of_below _ (ball (Below.refl _ _) _)
    exact (cm_new w).fr fr (by simp)
  clear hb1 hb2
  go_enter Try.func26, Try.ntmps26
  go_wp2
  go_ret
  exact ⟨rfl, HE.out⟩
end Go.Proofs.Ytpbjmhcpaeillaa
