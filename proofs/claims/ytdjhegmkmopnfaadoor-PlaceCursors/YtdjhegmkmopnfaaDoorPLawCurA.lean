/- PlaceCursors: a cursor over any area, in any steps, against the document's own. -/
import Derived.Test.YtdjhegmkmopnfaaDoorPWalkP
import Derived.Test.YtdjhegmkmopnfaaDoorPWalkF
import Derived.Test.YtdjhegmkmopnfaaDoorPLawWalkKit
namespace Go.Proofs.YtdjhegmkmopnfaaDoor
open Go.RowKit
set_option linter.unusedVariables false

/-- What a cursor's cells are to an area: as long as some are left, it tells the area's cells. -/
def Tells (o0 o1 o2 o3 o4 s t l b r z : Int) : Prop := z = Wpl.sizeA s t l b r ∧ ∀ k, 0 ≤ k → k < z → Wpl.atOk o0 o1 o2 o3 o4 k = true ∧ Wpl.num o0 o1 o2 o4 k = Wpl.num s t l r k ∧ Wpl.atOk s t l b r k = true
theorem Tells.cur {o0 o1 o2 o3 o4 s t l b r z : Int} (h : Tells o0 o1 o2 o3 o4 s t l b r z) {n : Int} (h0 : 0 ≤ n) (h1 : n ≤ z) :
    Wpl.atOk s t l b r n = decide (n < z) ∧ Wpl.atV s t l b r n = curV o0 o1 o2 o4 n z ∧ rnextN s t l b r n = nextN n z := by
  by_cases hlt : n < z
  · obtain ⟨_, e2, e3⟩ := h.2 n h0 hlt
    refine ⟨by rw [e3, decide_eq_true hlt], ?_, ?_⟩
    · unfold Wpl.atV curV; rw [e3, if_pos hlt, if_pos rfl, e2]
    · unfold rnextN nextN; rw [e3, if_pos hlt, if_pos rfl]
  · have e : Wpl.atOk s t l b r n = false := Wpl.inB_not.2 (by rw [← h.1]; omega)
    refine ⟨by rw [e, decide_eq_false hlt], ?_, ?_⟩
    · unfold Wpl.atV curV; rw [e, if_neg hlt]; rfl
    · unfold rnextN nextN; rw [e, if_neg hlt]; rfl

set_option maxHeartbeats 1600000 in
theorem looks_any (kc kd : Nat) (o0 o1 o2 o3 o4 s t l b r n z : Int) (w : World) (HT : Hid (Tells o0 o1 o2 o3 o4 s t l b r z)) (h0 : 0 ≤ n) (h1 : n ≤ z) (h2 : z ≤ 16777216) (pc : AtL w kc [.int .i64 o0, .int .i64 o1, .int .i64 o2, .int .i64 o3, .int .i64 o4, .int .i64 n, .int .i64 z]) (pd : AtL w kd [.int .i64 s, .int .i64 t, .int .i64 l, .int .i64 b, .int .i64 r, .int .i64 n]) :
    Calls Tryd.prog 48 #[.pointer (some ⟨kc, 0, none⟩), .pointer (some ⟨kd, 0, none⟩)] w fun e w' => e = .returned (.bool true) ∧ Below w.heap.size w w' := by
  have C1 := fun w h => peek_any kc o0 o1 o2 o3 o4 n z w h h0 h1 h2 (fun hlt => (HT.out.2 n h0 hlt).1)
  have C2 := fun w h => rpeek_any kd s t l b r n w h
  have C3 := fun w h => passed_any kc o0 o1 o2 o3 o4 n z w h
  have C4 := fun w h => rpassed_any kd s t l b r n w h
  have C5 := fun w h => left_any kc o0 o1 o2 o3 o4 n z w h h0 h1 h2
  have C6 := fun w h => rleft_any kd s t l b r n w h h0 (by rw [← HT.out.1]; exact h1)
  obtain ⟨q1, q2, q3⟩ := HT.out.cur h0 h1
  rw [q1, q2] at C2
  rw [← HT.out.1] at C6
  clear q1 q2 q3 HT
  generalize curV o0 o1 o2 o4 n z = V at *
  generalize decide (n < z) = ok at *
  obtain ⟨v0, v1, v2⟩ := V
  have hB : Below w.heap.size w w := Below.refl _ _
  go_enter Tryd.func48, Tryd.ntmps48
  go_wp2_with fail
  refine (C1 _ pc).mono ?_
  rintro e w1 ⟨rfl, hb1⟩
  replace pc := AtL.below hb1 pc
  replace pd := AtL.below hb1 pd
  have hB1 := x3_below_end hB hb1
  clear hb1 hB
  go_wp2_with fail
  refine (C2 _ (AtL.alloc pd _)).mono ?_
  rintro e w2 ⟨rfl, hb2⟩
  replace pc := AtL.below hb2 (AtL.alloc pc _)
  replace pd := AtL.below hb2 (AtL.alloc pd _)
  have px : AtL w2 w1.heap.size [.int .i64 v0, .int .i64 v1, .int .i64 v2] := AtL.below hb2 (AtL.new0 w1 _ _)
  have hB2 := x3_below_end (x3_ball hB1 _) hb2
  clear hb2 hB1
  generalize w1.heap.size = kx at *
  obtain ⟨x0, x1, x2⟩ := px.f3
  have lx := px.lt
  go_wp2_with fail
  refine (C3 _ (AtL.alloc pc _)).mono ?_
  rintro e w3 ⟨rfl, hb3⟩
  replace pc := AtL.below hb3 (AtL.alloc pc _)
  replace pd := AtL.below hb3 (AtL.alloc pd _)
  have hB3 := x3_below_end (x3_ball hB2 _) hb3
  clear hb3 hB2 x0 x1 x2 lx px
  go_wp2_with fail
  refine (C4 _ pd).mono ?_
  rintro e w4 ⟨rfl, hb4⟩
  replace pc := AtL.below hb4 pc
  replace pd := AtL.below hb4 pd
  have hB4 := x3_below_end hB3 hb4
  clear hb4 hB3
  go_wp2_with fail
  refine (C5 _ pc).mono ?_
  rintro e w5 ⟨rfl, hb5⟩
  replace pd := AtL.below hb5 pd
  have hB5 := x3_below_end hB4 hb5
  clear hb5 hB4
  go_wp2_with fail
  refine (C6 _ pd).mono ?_
  rintro e w6 ⟨rfl, hb6⟩
  have hB6 := x3_below_end hB5 hb6
  go_wp2
  go_ret
  exact ⟨by simp, hB6⟩
end Go.Proofs.YtdjhegmkmopnfaaDoor
