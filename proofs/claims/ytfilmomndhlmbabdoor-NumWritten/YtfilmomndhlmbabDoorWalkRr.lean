/- The contracts of Read and of the reference's Read. -/
import Derived.Test.YtfilmomndhlmbabDoorWalkRf
import Derived.Test.YtfilmomndhlmbabDoorWalkPc
import Derived.Test.YtfilmomndhlmbabDoorWalkI
import Derived.Test.YtfilmomndhlmbabDoorWalkM
import Derived.Test.YtfilmomndhlmbabDoorPlainU
namespace Go.Proofs.YtfilmomndhlmbabDoor
open Go.RowKit
set_option linter.unusedVariables false

theorem pre_iff (s : ByteArray) (h : 0 < s.size) : ((s.extract 0 1).toList == [(45 : UInt8)]) = decide (Wnum.bt s 0 = 45) := by
  rw [ByteArray.toList_eq]
  obtain ⟨⟨l⟩⟩ := s
  cases l with
  | nil => exact absurd h (Nat.lt_irrefl 0)
  | cons b l =>
    have e : ((ByteArray.mk ⟨b :: l⟩).extract 0 1).data.toList = [b] := by simp
    rw [e]
    have e2 : Wnum.bt (ByteArray.mk ⟨b :: l⟩) 0 = (b.toNat : Int) := rfl
    rw [e2]
    by_cases hb : b = 45
    · subst hb; rfl
    · have h1 : ([b] == [(45 : UInt8)]) = false := by simp [hb]
      have h2 : ¬ ((b.toNat : Nat) : Int) = 45 := fun x => hb (UInt8.toNat_inj.1 (by have : b.toNat = 45 := by omega
                                                                                     rw [this]; rfl))
      rw [h1, decide_eq_false h2]

theorem cut_any (s : ByteArray) (w : World) (hs : s.size ≤ 9223372036854775807) :
    Calls Tryd.prog 23 #[.string s, .string ⟨#[45]⟩] w fun e w' => e = .returned (.tuple #[.string (Wnum.body s), .bool (Wnum.minusB s)]) ∧ w = w' := by
  by_cases h0 : 0 < s.size
  · have hx := pre_iff s h0
    by_cases hc : Wnum.bt s 0 = 45
    · have m : Wnum.minusB s = true := decide_eq_true ⟨h0, hc⟩
      have e : Wnum.body s = s.extract 1 s.size := by unfold Wnum.body; rw [m]; rfl
      rw [m, e]
      rw [decide_eq_true hc] at hx
      have h1 : (1 : Int) ≤ (s.size : Int) := by omega
      clear m e hc
      go_enter Tryd.func23, Tryd.ntmps23
      go_wp2
      go_ret2
      exact ⟨rfl, rfl⟩
    · have m : Wnum.minusB s = false := decide_eq_false (fun x => hc x.2)
      have e : Wnum.body s = s := by unfold Wnum.body; rw [m]; rfl
      rw [m, e]
      rw [decide_eq_false hc] at hx
      have h1 : (1 : Int) ≤ (s.size : Int) := by omega
      clear m e hc
      go_enter Tryd.func23, Tryd.ntmps23
      go_wp2
      go_ret2
      exact ⟨rfl, rfl⟩
  · have m : Wnum.minusB s = false := decide_eq_false (fun x => h0 x.1)
    have e : Wnum.body s = s := by unfold Wnum.body; rw [m]; rfl
    rw [m, e]
    have h1 : decide ((1 : Int) ≤ (s.size : Int)) = false := decide_eq_false (by omega)
    clear m e
    go_enter Tryd.func23, Tryd.ntmps23
    go_wp2
    go_ret2
    exact ⟨rfl, rfl⟩

set_option maxHeartbeats 400000 in
theorem read_any (s : ByteArray) (w : World) (hs : s.size ≤ 9223372036854775807) :
    Calls Tryd.prog 9 #[.string s] w fun e w' => e = .returned (.tuple #[.agg #[.int .i64 (Wnum.oN (Wnum.rdO s)), .int .i64 (Wnum.oD (Wnum.rdO s))], .bool (Wnum.oB (Wnum.rdO s))]) ∧ Below w.heap.size w w' := by
  have C := fun w => cut_any s w hs
  have hbs : (Wnum.body s).size ≤ 9223372036854775807 := by have := (Wnum.body_facts s).1; omega
  have R := fun w => readFraction_any (Wnum.body s) w hbs
  obtain ⟨b1, b2, b3, b4⟩ := Wnum.f_bd (Wnum.body s)
  cases hf : Wnum.fB (Wnum.body s) with
  | false =>
    have e : Wnum.rdO s = none := by unfold Wnum.rdO; rw [hf]; rfl
    rw [e]
    rw [hf, (Wnum.f_false hf).1, (Wnum.f_false hf).2] at R
    clear e hf b1 b2 b3 b4 hbs
    generalize Wnum.body s = t at *
    generalize Wnum.minusB s = m at *
    go_enter Tryd.func9, Tryd.ntmps9
    go_wp2_with fail
    refine (C _).mono ?_
    rintro e w1 ⟨rfl, rfl⟩
    go_wp2_with fail
    refine (R _).mono ?_
    rintro e w1 ⟨rfl, k1, rfl⟩
    go_wp2
    refine bodyPost_ret (v := .tuple #[.agg #[.int .i64 0, .int .i64 0], .bool false]) (by simp [results, Tryd.results9, go_sem]) rfl ⟨rfl, ?_⟩
    exact (by with_reducible repeat (first | exact Below.refl _ _ | refine below_drewN ?_ _ | refine Below.setCell ?_ (by first | (simp; done) | (simp; omega) | omega) _ | refine Below.drew ?_ | refine below_end ?_ (by assumption) | refine ball ?_ _))
  | true =>
    have e : Wnum.rdO s = Wnum.mk (Wnum.sgnd (Wnum.minusB s) (Wnum.fN (Wnum.body s))) (Wnum.fD (Wnum.body s)) := by unfold Wnum.rdO; rw [hf]; rfl
    rw [e]
    rw [hf] at R
    clear e hf hbs
    generalize Wnum.fN (Wnum.body s) = n at *
    generalize Wnum.fD (Wnum.body s) = d at *
    generalize Wnum.body s = t at *
    cases hm : Wnum.minusB s with
    | false =>
      rw [hm] at C
      have M := fun w => make_most n d w (by omega) (by omega) (by omega) (by omega)
      rw [show Wnum.sgnd false n = n from rfl]
      generalize Wnum.mk n d = o at *
      clear hm
      go_enter Tryd.func9, Tryd.ntmps9
      go_wp2_with fail
      refine (C _).mono ?_
      rintro e w1 ⟨rfl, rfl⟩
      go_wp2_with fail
      refine (R _).mono ?_
      rintro e w1 ⟨rfl, k1, rfl⟩
      go_wp2_with fail
      refine (M _).mono ?_
      rintro e w2 ⟨rfl, hb2⟩
      have pC : At w2 w.heap.size (.int .i64 0) (.int .i64 0) := At.below hb2 (At.drewN (At.new w _ rfl _ _) _)
      have hB : Below w.heap.size w w2 := below_end (below_drewN ((Below.refl _ w).alloc (Nat.le_refl _) _) _) hb2
      obtain ⟨c1, c2, c3, c4⟩ := pC
      go_wp2
      refine bodyPost_ret (v := .tuple #[.agg #[.int .i64 (Wnum.oN o), .int .i64 (Wnum.oD o)], .bool (Wnum.oB o)]) (by simp [results, Tryd.results9, go_sem, c1, c2]) rfl ⟨rfl, ?_⟩
      exact put_below hB (by omega) _ _
    | true =>
      rw [hm] at C
      have M := fun w => make_most (-n) d w (by omega) (by omega) (by omega) (by omega)
      rw [show Wnum.sgnd true n = -n from rfl]
      generalize Wnum.mk (-n) d = o at *
      clear hm
      go_enter Tryd.func9, Tryd.ntmps9
      go_wp2_with fail
      refine (C _).mono ?_
      rintro e w1 ⟨rfl, rfl⟩
      go_wp2_with fail
      refine (R _).mono ?_
      rintro e w1 ⟨rfl, k1, rfl⟩
      go_wp2_with fail
      refine (M _).mono ?_
      rintro e w2 ⟨rfl, hb2⟩
      have pC : At w2 w.heap.size (.int .i64 0) (.int .i64 0) := At.below hb2 (At.drewN (At.new w _ rfl _ _) _)
      have hB : Below w.heap.size w w2 := below_end (below_drewN ((Below.refl _ w).alloc (Nat.le_refl _) _) _) hb2
      obtain ⟨c1, c2, c3, c4⟩ := pC
      go_wp2
      refine bodyPost_ret (v := .tuple #[.agg #[.int .i64 (Wnum.oN o), .int .i64 (Wnum.oD o)], .bool (Wnum.oB o)]) (by simp [results, Tryd.results9, go_sem, c1, c2]) rfl ⟨rfl, ?_⟩
      exact put_below hB (by omega) _ _
end Go.Proofs.YtfilmomndhlmbabDoor
