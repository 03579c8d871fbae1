/- size: the token of a kind that a text begins with. -/
import Derived.Test.YtjkohkhngeioiaaDoorLQuo
namespace Go.Proofs.YtjkohkhngeioiaaDoor
open Go.RowKit
set_option linter.unusedVariables false

def strs (ns : List (List UInt8)) : List Value := ns.map fun n => .string ⟨n.toArray⟩
theorem nameSize_new (b : ByteArray) (ns : List (List UInt8)) (n : Nat) (w W : World) (t : TypeId) (o : Obj) (hW : W = w.alloc o) (ho : o = .cells (strs ns).toArray t) (hs : b.size ≤ 9223372036854775807) (hn : n = ns.length) (hn2 : ns.length ≤ 100) (hns : ∀ x ∈ ns, x.length ≤ 100) :
    Calls Tryd.prog 31 #[.string b, .slice (some ⟨w.heap.size, 0, none⟩) n n] W fun e w' => e = .returned (.int .i64 (Wlx.nameSz b.data.toList ns : Nat)) ∧ Below w.heap.size w w' := by
  subst hW ho
  refine (nameSize_any b w.heap.size ns n _ hs hn hn2 hns (fun i h => ?_)).mono ?_
  · exact (AtL.new0 w t (strs ns)).2.1 i _ (by unfold strs; simp [h])
  · rintro e w1 ⟨rfl, rfl⟩
    exact ⟨rfl, (Below.refl _ w).alloc (Nat.le_refl _) _⟩

set_option maxHeartbeats 1600000 in
theorem size_any (k : Nat) (b : ByteArray) (w : World) (hs : b.size ≤ 9223372036854775806) (hk : 1 ≤ k) (hk2 : k ≤ 5) : Calls Tryd.prog 18 #[.int .i64 k, .string b] w fun e w' => e = .returned (.int .i64 (Wlx.sz k b.data.toList : Nat)) ∧ Below w.heap.size w w' := by
  have : k = 1 ∨ k = 2 ∨ k = 3 ∨ k = 4 ∨ k = 5 := by omega
  rcases this with rfl | rfl | rfl | rfl | rfl
  · go_enter Tryd.func18, Tryd.ntmps18
    go_wp2_with fail
    refine (numberSize_any _ _ hs).mono ?_
    rintro e w1 ⟨rfl, hb⟩
    go_wp2
    go_ret
    exact ⟨rfl, hb⟩
  · go_enter Tryd.func18, Tryd.ntmps18
    go_wp2_with fail
    refine (textSize_any _ _ hs).mono ?_
    rintro e w1 ⟨rfl, hb⟩
    go_wp2
    go_ret
    exact ⟨rfl, hb⟩
  · go_enter Tryd.func18, Tryd.ntmps18
    go_wp2_with fail
    refine (run_word _ _ (by omega)).mono ?_
    rintro e w1 ⟨rfl, hb⟩
    go_wp2
    go_ret
    exact ⟨rfl, hb⟩
  · go_enter Tryd.func18, Tryd.ntmps18
    go_wp2_with fail
    refine (nameSize_new _ Wlx.faults 8 _ _ 9 _ rfl rfl (by omega) rfl (by decide) (by decide)).mono ?_
    rintro e w1 ⟨rfl, hb⟩
    go_wp2
    go_ret
    exact ⟨rfl, hb⟩
  · go_enter Tryd.func18, Tryd.ntmps18
    go_wp2_with fail
    refine (nameSize_new _ Wlx.marks 18 _ _ 9 _ rfl rfl (by omega) rfl (by decide) (by decide)).mono ?_
    rintro e w1 ⟨rfl, hb⟩
    go_wp2
    go_ret
    exact ⟨rfl, hb⟩
end Go.Proofs.YtjkohkhngeioiaaDoor
