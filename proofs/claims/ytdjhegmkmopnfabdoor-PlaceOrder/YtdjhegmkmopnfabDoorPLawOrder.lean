/- PlaceOrder: Before is an order of cells. -/
import Derived.Test.YtdjhegmkmopnfabDoorPWalkC
import Derived.Test.YtdjhegmkmopnfabDoorPWalkF
namespace Go.Proofs.YtdjhegmkmopnfabDoor
open Go.RowKit
set_option linter.unusedVariables false

theorem before_self (s r c : Int) : Wpl.before s r c s r c = false := by simp [Wpl.before]
theorem before_both (s r c s' r' c' : Int) : (Wpl.before s r c s' r' c' && Wpl.before s' r' c' s r c) = false := by
  unfold Wpl.before
  by_cases h : s = s'
  · by_cases k : r = r'
    · subst h k; simp; omega
    · subst h; have k' : ¬ r' = r := fun e => k e.symm; simp [k, k']; omega
  · have h' : ¬ s' = s := fun e => h e.symm
    simp [h, h']; omega
theorem before_none (s r c s' r' c' : Int) (h1 : Wpl.before s r c s' r' c' = false) (h2 : Wpl.before s' r' c' s r c = false) : s = s' ∧ r = r' ∧ c = c' := by
  unfold Wpl.before at h1 h2
  by_cases h : s = s'
  · by_cases k : r = r'
    · subst h k; simp at h1 h2; omega
    · subst h; have k' : ¬ r' = r := fun e => k e.symm; simp [k, k'] at h1 h2; omega
  · have h' : ¬ s' = s := fun e => h e.symm
    simp [h, h'] at h1 h2; omega
theorem before_iff {s r c s' r' c' : Int} : Wpl.before s r c s' r' c' = true ↔ s < s' ∨ s = s' ∧ (r < r' ∨ r = r' ∧ c < c') := by
  unfold Wpl.before
  by_cases h : s = s'
  · by_cases k : r = r'
    · subst h k; simp
    · subst h; simp [k]
  · simp [h]
theorem before_trans {s r c s' r' c' s2 r2 c2 : Int} (h1 : Wpl.before s r c s' r' c' = true) (h2 : Wpl.before s' r' c' s2 r2 c2 = true) : Wpl.before s r c s2 r2 c2 = true := by
  rw [before_iff] at *; omega

set_option maxHeartbeats 800000 in
theorem x3_order_main (s0 r0 c0 s1 r1 c1 s2 r2 c2 : Int) (w : World) :
    Calls Tryd.prog 7 #[.agg #[.int .i64 s0, .int .i64 r0, .int .i64 c0], .agg #[.int .i64 s1, .int .i64 r1, .int .i64 c1], .agg #[.int .i64 s2, .int .i64 r2, .int .i64 c2]] w fun e w' => e = .returned (.bool true) ∧ Below w.heap.size w w' := by
  have AA := fun w => before_any s0 r0 c0 s0 r0 c0 w
  rw [before_self] at AA
  have AB := fun w => before_any s0 r0 c0 s1 r1 c1 w
  have BA := fun w => before_any s1 r1 c1 s0 r0 c0 w
  have BC := fun w => before_any s1 r1 c1 s2 r2 c2 w
  have AC := fun w => before_any s0 r0 c0 s2 r2 c2 w
  cases x : Wpl.before s0 r0 c0 s1 r1 c1 with
  | true =>
    have y : Wpl.before s1 r1 c1 s0 r0 c0 = false := by have := before_both s0 r0 c0 s1 r1 c1; rw [x] at this; simpa using this
    rw [x] at AB; rw [y] at BA
    cases z : Wpl.before s1 r1 c1 s2 r2 c2 with
    | true =>
      rw [z] at BC; rw [before_trans x z] at AC
      clear x y z
      go_enter Tryd.func7, Tryd.ntmps7
      go_wp2_with fail
      refine (x3_able_any _).mono ?_
      rintro e w1 ⟨rfl, hb1⟩
      have pa : AtL w1 (w.heap.size) [.int .i64 s0, .int .i64 r0, .int .i64 c0] := AtL.below hb1 (((AtL.new0 w 23 _).alloc _).alloc _)
      have pb : AtL w1 (w.heap.size + 1) [.int .i64 s1, .int .i64 r1, .int .i64 c1] := AtL.below hb1 ((AtL.new1 w _ 23 _).alloc _)
      have pc : AtL w1 (w.heap.size + 2) [.int .i64 s2, .int .i64 r2, .int .i64 c2] := AtL.below hb1 (AtL.new ((w.alloc _).alloc _) 23 (by simp only [World.size_alloc]) _)
      have hB1 : Below w.heap.size w w1 := by with_reducible repeat (first | exact Below.refl _ _ | refine x3_below_drewN ?_ _ | refine Below.setCell ?_ (by first | (simp; done) | (simp; omega) | omega) _ | refine Below.drew ?_ | refine x3_below_end ?_ (by assumption) | refine x3_ball ?_ _)
      clear hb1
      obtain ⟨pac0, pac1, pac2, _, _, _⟩ := pa.three
      obtain ⟨pbc0, pbc1, pbc2, _, _, _⟩ := pb.three
      obtain ⟨pcc0, pcc1, pcc2, _, _, _⟩ := pc.three
      go_wp2_with fail
      refine (AA _).mono ?_
      rintro e w2 ⟨rfl, hb2⟩
      replace pa := AtL.below hb2 pa
      replace pb := AtL.below hb2 pb
      replace pc := AtL.below hb2 pc
      have hB2 := x3_below_end hB1 hb2
      clear pac0 pac1 pac2 pbc0 pbc1 pbc2 pcc0 pcc1 pcc2
      clear hb2 hB1
      obtain ⟨pac0, pac1, pac2, _, _, _⟩ := pa.three
      obtain ⟨pbc0, pbc1, pbc2, _, _, _⟩ := pb.three
      obtain ⟨pcc0, pcc1, pcc2, _, _, _⟩ := pc.three
      go_wp2_with fail
      refine (AB _).mono ?_
      rintro e w3 ⟨rfl, hb3⟩
      replace pa := AtL.below hb3 pa
      replace pb := AtL.below hb3 pb
      replace pc := AtL.below hb3 pc
      have hB3 := x3_below_end hB2 hb3
      clear pac0 pac1 pac2 pbc0 pbc1 pbc2 pcc0 pcc1 pcc2
      clear hb3 hB2
      obtain ⟨pac0, pac1, pac2, _, _, _⟩ := pa.three
      obtain ⟨pbc0, pbc1, pbc2, _, _, _⟩ := pb.three
      obtain ⟨pcc0, pcc1, pcc2, _, _, _⟩ := pc.three
      go_wp2_with fail
      refine (BA _).mono ?_
      rintro e w4 ⟨rfl, hb4⟩
      replace pa := AtL.below hb4 pa
      replace pb := AtL.below hb4 pb
      replace pc := AtL.below hb4 pc
      have hB4 := x3_below_end hB3 hb4
      clear pac0 pac1 pac2 pbc0 pbc1 pbc2 pcc0 pcc1 pcc2
      clear hb4 hB3
      obtain ⟨pac0, pac1, pac2, _, _, _⟩ := pa.three
      obtain ⟨pbc0, pbc1, pbc2, _, _, _⟩ := pb.three
      obtain ⟨pcc0, pcc1, pcc2, _, _, _⟩ := pc.three
      go_wp2_with fail
      refine (AB _).mono ?_
      rintro e w5 ⟨rfl, hb5⟩
      replace pa := AtL.below hb5 pa
      replace pb := AtL.below hb5 pb
      replace pc := AtL.below hb5 pc
      have hB5 := x3_below_end hB4 hb5
      clear pac0 pac1 pac2 pbc0 pbc1 pbc2 pcc0 pcc1 pcc2
      clear hb5 hB4
      obtain ⟨pac0, pac1, pac2, _, _, _⟩ := pa.three
      obtain ⟨pbc0, pbc1, pbc2, _, _, _⟩ := pb.three
      obtain ⟨pcc0, pcc1, pcc2, _, _, _⟩ := pc.three
      go_wp2_with fail
      refine (AB _).mono ?_
      rintro e w6 ⟨rfl, hb6⟩
      replace pa := AtL.below hb6 pa
      replace pb := AtL.below hb6 pb
      replace pc := AtL.below hb6 pc
      have hB6 := x3_below_end hB5 hb6
      clear pac0 pac1 pac2 pbc0 pbc1 pbc2 pcc0 pcc1 pcc2
      clear hb6 hB5
      obtain ⟨pac0, pac1, pac2, _, _, _⟩ := pa.three
      obtain ⟨pbc0, pbc1, pbc2, _, _, _⟩ := pb.three
      obtain ⟨pcc0, pcc1, pcc2, _, _, _⟩ := pc.three
      go_wp2_with fail
      refine (BC _).mono ?_
      rintro e w7 ⟨rfl, hb7⟩
      replace pa := AtL.below hb7 pa
      replace pb := AtL.below hb7 pb
      replace pc := AtL.below hb7 pc
      have hB7 := x3_below_end hB6 hb7
      clear pac0 pac1 pac2 pbc0 pbc1 pbc2 pcc0 pcc1 pcc2
      clear hb7 hB6
      obtain ⟨pac0, pac1, pac2, _, _, _⟩ := pa.three
      obtain ⟨pbc0, pbc1, pbc2, _, _, _⟩ := pb.three
      obtain ⟨pcc0, pcc1, pcc2, _, _, _⟩ := pc.three
      go_wp2_with fail
      refine (AC _).mono ?_
      rintro e w8 ⟨rfl, hb8⟩
      replace pa := AtL.below hb8 pa
      replace pb := AtL.below hb8 pb
      replace pc := AtL.below hb8 pc
      have hB8 := x3_below_end hB7 hb8
      clear pac0 pac1 pac2 pbc0 pbc1 pbc2 pcc0 pcc1 pcc2
      clear hb8 hB7
      obtain ⟨pac0, pac1, pac2, _, _, _⟩ := pa.three
      obtain ⟨pbc0, pbc1, pbc2, _, _, _⟩ := pb.three
      obtain ⟨pcc0, pcc1, pcc2, _, _, _⟩ := pc.three
      go_wp2
      go_ret
      exact ⟨rfl, by with_reducible repeat (first | exact Below.refl _ _ | refine x3_below_drewN ?_ _ | refine Below.setCell ?_ (by first | (simp; done) | (simp; omega) | omega) _ | refine Below.drew ?_ | refine x3_below_end ?_ (by assumption) | refine x3_ball ?_ _)⟩
    | false =>
      rw [z] at BC
      clear x y z AC
      go_enter Tryd.func7, Tryd.ntmps7
      go_wp2_with fail
      refine (x3_able_any _).mono ?_
      rintro e w1 ⟨rfl, hb1⟩
      have pa : AtL w1 (w.heap.size) [.int .i64 s0, .int .i64 r0, .int .i64 c0] := AtL.below hb1 (((AtL.new0 w 23 _).alloc _).alloc _)
      have pb : AtL w1 (w.heap.size + 1) [.int .i64 s1, .int .i64 r1, .int .i64 c1] := AtL.below hb1 ((AtL.new1 w _ 23 _).alloc _)
      have pc : AtL w1 (w.heap.size + 2) [.int .i64 s2, .int .i64 r2, .int .i64 c2] := AtL.below hb1 (AtL.new ((w.alloc _).alloc _) 23 (by simp only [World.size_alloc]) _)
      have hB1 : Below w.heap.size w w1 := by with_reducible repeat (first | exact Below.refl _ _ | refine x3_below_drewN ?_ _ | refine Below.setCell ?_ (by first | (simp; done) | (simp; omega) | omega) _ | refine Below.drew ?_ | refine x3_below_end ?_ (by assumption) | refine x3_ball ?_ _)
      clear hb1
      obtain ⟨pac0, pac1, pac2, _, _, _⟩ := pa.three
      obtain ⟨pbc0, pbc1, pbc2, _, _, _⟩ := pb.three
      obtain ⟨pcc0, pcc1, pcc2, _, _, _⟩ := pc.three
      go_wp2_with fail
      refine (AA _).mono ?_
      rintro e w2 ⟨rfl, hb2⟩
      replace pa := AtL.below hb2 pa
      replace pb := AtL.below hb2 pb
      replace pc := AtL.below hb2 pc
      have hB2 := x3_below_end hB1 hb2
      clear pac0 pac1 pac2 pbc0 pbc1 pbc2 pcc0 pcc1 pcc2
      clear hb2 hB1
      obtain ⟨pac0, pac1, pac2, _, _, _⟩ := pa.three
      obtain ⟨pbc0, pbc1, pbc2, _, _, _⟩ := pb.three
      obtain ⟨pcc0, pcc1, pcc2, _, _, _⟩ := pc.three
      go_wp2_with fail
      refine (AB _).mono ?_
      rintro e w3 ⟨rfl, hb3⟩
      replace pa := AtL.below hb3 pa
      replace pb := AtL.below hb3 pb
      replace pc := AtL.below hb3 pc
      have hB3 := x3_below_end hB2 hb3
      clear pac0 pac1 pac2 pbc0 pbc1 pbc2 pcc0 pcc1 pcc2
      clear hb3 hB2
      obtain ⟨pac0, pac1, pac2, _, _, _⟩ := pa.three
      obtain ⟨pbc0, pbc1, pbc2, _, _, _⟩ := pb.three
      obtain ⟨pcc0, pcc1, pcc2, _, _, _⟩ := pc.three
      go_wp2_with fail
      refine (BA _).mono ?_
      rintro e w4 ⟨rfl, hb4⟩
      replace pa := AtL.below hb4 pa
      replace pb := AtL.below hb4 pb
      replace pc := AtL.below hb4 pc
      have hB4 := x3_below_end hB3 hb4
      clear pac0 pac1 pac2 pbc0 pbc1 pbc2 pcc0 pcc1 pcc2
      clear hb4 hB3
      obtain ⟨pac0, pac1, pac2, _, _, _⟩ := pa.three
      obtain ⟨pbc0, pbc1, pbc2, _, _, _⟩ := pb.three
      obtain ⟨pcc0, pcc1, pcc2, _, _, _⟩ := pc.three
      go_wp2_with fail
      refine (AB _).mono ?_
      rintro e w5 ⟨rfl, hb5⟩
      replace pa := AtL.below hb5 pa
      replace pb := AtL.below hb5 pb
      replace pc := AtL.below hb5 pc
      have hB5 := x3_below_end hB4 hb5
      clear pac0 pac1 pac2 pbc0 pbc1 pbc2 pcc0 pcc1 pcc2
      clear hb5 hB4
      obtain ⟨pac0, pac1, pac2, _, _, _⟩ := pa.three
      obtain ⟨pbc0, pbc1, pbc2, _, _, _⟩ := pb.three
      obtain ⟨pcc0, pcc1, pcc2, _, _, _⟩ := pc.three
      go_wp2_with fail
      refine (AB _).mono ?_
      rintro e w6 ⟨rfl, hb6⟩
      replace pa := AtL.below hb6 pa
      replace pb := AtL.below hb6 pb
      replace pc := AtL.below hb6 pc
      have hB6 := x3_below_end hB5 hb6
      clear pac0 pac1 pac2 pbc0 pbc1 pbc2 pcc0 pcc1 pcc2
      clear hb6 hB5
      obtain ⟨pac0, pac1, pac2, _, _, _⟩ := pa.three
      obtain ⟨pbc0, pbc1, pbc2, _, _, _⟩ := pb.three
      obtain ⟨pcc0, pcc1, pcc2, _, _, _⟩ := pc.three
      go_wp2_with fail
      refine (BC _).mono ?_
      rintro e w7 ⟨rfl, hb7⟩
      replace pa := AtL.below hb7 pa
      replace pb := AtL.below hb7 pb
      replace pc := AtL.below hb7 pc
      have hB7 := x3_below_end hB6 hb7
      clear pac0 pac1 pac2 pbc0 pbc1 pbc2 pcc0 pcc1 pcc2
      clear hb7 hB6
      obtain ⟨pac0, pac1, pac2, _, _, _⟩ := pa.three
      obtain ⟨pbc0, pbc1, pbc2, _, _, _⟩ := pb.three
      obtain ⟨pcc0, pcc1, pcc2, _, _, _⟩ := pc.three
      go_wp2
      go_ret
      exact ⟨rfl, by with_reducible repeat (first | exact Below.refl _ _ | refine x3_below_drewN ?_ _ | refine Below.setCell ?_ (by first | (simp; done) | (simp; omega) | omega) _ | refine Below.drew ?_ | refine x3_below_end ?_ (by assumption) | refine x3_ball ?_ _)⟩
  | false =>
    rw [x] at AB
    cases y : Wpl.before s1 r1 c1 s0 r0 c0 with
    | true =>
      rw [y] at BA
      clear x y BC AC
      go_enter Tryd.func7, Tryd.ntmps7
      go_wp2_with fail
      refine (x3_able_any _).mono ?_
      rintro e w1 ⟨rfl, hb1⟩
      have pa : AtL w1 (w.heap.size) [.int .i64 s0, .int .i64 r0, .int .i64 c0] := AtL.below hb1 (((AtL.new0 w 23 _).alloc _).alloc _)
      have pb : AtL w1 (w.heap.size + 1) [.int .i64 s1, .int .i64 r1, .int .i64 c1] := AtL.below hb1 ((AtL.new1 w _ 23 _).alloc _)
      have pc : AtL w1 (w.heap.size + 2) [.int .i64 s2, .int .i64 r2, .int .i64 c2] := AtL.below hb1 (AtL.new ((w.alloc _).alloc _) 23 (by simp only [World.size_alloc]) _)
      have hB1 : Below w.heap.size w w1 := by with_reducible repeat (first | exact Below.refl _ _ | refine x3_below_drewN ?_ _ | refine Below.setCell ?_ (by first | (simp; done) | (simp; omega) | omega) _ | refine Below.drew ?_ | refine x3_below_end ?_ (by assumption) | refine x3_ball ?_ _)
      clear hb1
      obtain ⟨pac0, pac1, pac2, _, _, _⟩ := pa.three
      obtain ⟨pbc0, pbc1, pbc2, _, _, _⟩ := pb.three
      obtain ⟨pcc0, pcc1, pcc2, _, _, _⟩ := pc.three
      go_wp2_with fail
      refine (AA _).mono ?_
      rintro e w2 ⟨rfl, hb2⟩
      replace pa := AtL.below hb2 pa
      replace pb := AtL.below hb2 pb
      replace pc := AtL.below hb2 pc
      have hB2 := x3_below_end hB1 hb2
      clear pac0 pac1 pac2 pbc0 pbc1 pbc2 pcc0 pcc1 pcc2
      clear hb2 hB1
      obtain ⟨pac0, pac1, pac2, _, _, _⟩ := pa.three
      obtain ⟨pbc0, pbc1, pbc2, _, _, _⟩ := pb.three
      obtain ⟨pcc0, pcc1, pcc2, _, _, _⟩ := pc.three
      go_wp2_with fail
      refine (AB _).mono ?_
      rintro e w3 ⟨rfl, hb3⟩
      replace pa := AtL.below hb3 pa
      replace pb := AtL.below hb3 pb
      replace pc := AtL.below hb3 pc
      have hB3 := x3_below_end hB2 hb3
      clear pac0 pac1 pac2 pbc0 pbc1 pbc2 pcc0 pcc1 pcc2
      clear hb3 hB2
      obtain ⟨pac0, pac1, pac2, _, _, _⟩ := pa.three
      obtain ⟨pbc0, pbc1, pbc2, _, _, _⟩ := pb.three
      obtain ⟨pcc0, pcc1, pcc2, _, _, _⟩ := pc.three
      go_wp2_with fail
      refine (AB _).mono ?_
      rintro e w4 ⟨rfl, hb4⟩
      replace pa := AtL.below hb4 pa
      replace pb := AtL.below hb4 pb
      replace pc := AtL.below hb4 pc
      have hB4 := x3_below_end hB3 hb4
      clear pac0 pac1 pac2 pbc0 pbc1 pbc2 pcc0 pcc1 pcc2
      clear hb4 hB3
      obtain ⟨pac0, pac1, pac2, _, _, _⟩ := pa.three
      obtain ⟨pbc0, pbc1, pbc2, _, _, _⟩ := pb.three
      obtain ⟨pcc0, pcc1, pcc2, _, _, _⟩ := pc.three
      go_wp2_with fail
      refine (BA _).mono ?_
      rintro e w5 ⟨rfl, hb5⟩
      replace pa := AtL.below hb5 pa
      replace pb := AtL.below hb5 pb
      replace pc := AtL.below hb5 pc
      have hB5 := x3_below_end hB4 hb5
      clear pac0 pac1 pac2 pbc0 pbc1 pbc2 pcc0 pcc1 pcc2
      clear hb5 hB4
      obtain ⟨pac0, pac1, pac2, _, _, _⟩ := pa.three
      obtain ⟨pbc0, pbc1, pbc2, _, _, _⟩ := pb.three
      obtain ⟨pcc0, pcc1, pcc2, _, _, _⟩ := pc.three
      go_wp2_with fail
      refine (AB _).mono ?_
      rintro e w6 ⟨rfl, hb6⟩
      replace pa := AtL.below hb6 pa
      replace pb := AtL.below hb6 pb
      replace pc := AtL.below hb6 pc
      have hB6 := x3_below_end hB5 hb6
      clear pac0 pac1 pac2 pbc0 pbc1 pbc2 pcc0 pcc1 pcc2
      clear hb6 hB5
      obtain ⟨pac0, pac1, pac2, _, _, _⟩ := pa.three
      obtain ⟨pbc0, pbc1, pbc2, _, _, _⟩ := pb.three
      obtain ⟨pcc0, pcc1, pcc2, _, _, _⟩ := pc.three
      go_wp2
      go_ret
      exact ⟨rfl, by with_reducible repeat (first | exact Below.refl _ _ | refine x3_below_drewN ?_ _ | refine Below.setCell ?_ (by first | (simp; done) | (simp; omega) | omega) _ | refine Below.drew ?_ | refine x3_below_end ?_ (by assumption) | refine x3_ball ?_ _)⟩
    | false =>
      rw [y] at BA
      obtain ⟨rfl, rfl, rfl⟩ := before_none _ _ _ _ _ _ x y
      clear x y BC AC
      go_enter Tryd.func7, Tryd.ntmps7
      go_wp2_with fail
      refine (x3_able_any _).mono ?_
      rintro e w1 ⟨rfl, hb1⟩
      have pa : AtL w1 (w.heap.size) [.int .i64 s0, .int .i64 r0, .int .i64 c0] := AtL.below hb1 (((AtL.new0 w 23 _).alloc _).alloc _)
      have pb : AtL w1 (w.heap.size + 1) [.int .i64 s0, .int .i64 r0, .int .i64 c0] := AtL.below hb1 ((AtL.new1 w _ 23 _).alloc _)
      have pc : AtL w1 (w.heap.size + 2) [.int .i64 s2, .int .i64 r2, .int .i64 c2] := AtL.below hb1 (AtL.new ((w.alloc _).alloc _) 23 (by simp only [World.size_alloc]) _)
      have hB1 : Below w.heap.size w w1 := by with_reducible repeat (first | exact Below.refl _ _ | refine x3_below_drewN ?_ _ | refine Below.setCell ?_ (by first | (simp; done) | (simp; omega) | omega) _ | refine Below.drew ?_ | refine x3_below_end ?_ (by assumption) | refine x3_ball ?_ _)
      clear hb1
      obtain ⟨pac0, pac1, pac2, _, _, _⟩ := pa.three
      obtain ⟨pbc0, pbc1, pbc2, _, _, _⟩ := pb.three
      obtain ⟨pcc0, pcc1, pcc2, _, _, _⟩ := pc.three
      go_wp2_with fail
      refine (AA _).mono ?_
      rintro e w2 ⟨rfl, hb2⟩
      replace pa := AtL.below hb2 pa
      replace pb := AtL.below hb2 pb
      replace pc := AtL.below hb2 pc
      have hB2 := x3_below_end hB1 hb2
      clear pac0 pac1 pac2 pbc0 pbc1 pbc2 pcc0 pcc1 pcc2
      clear hb2 hB1
      obtain ⟨pac0, pac1, pac2, _, _, _⟩ := pa.three
      obtain ⟨pbc0, pbc1, pbc2, _, _, _⟩ := pb.three
      obtain ⟨pcc0, pcc1, pcc2, _, _, _⟩ := pc.three
      go_wp2_with fail
      refine (AB _).mono ?_
      rintro e w3 ⟨rfl, hb3⟩
      replace pa := AtL.below hb3 pa
      replace pb := AtL.below hb3 pb
      replace pc := AtL.below hb3 pc
      have hB3 := x3_below_end hB2 hb3
      clear pac0 pac1 pac2 pbc0 pbc1 pbc2 pcc0 pcc1 pcc2
      clear hb3 hB2
      obtain ⟨pac0, pac1, pac2, _, _, _⟩ := pa.three
      obtain ⟨pbc0, pbc1, pbc2, _, _, _⟩ := pb.three
      obtain ⟨pcc0, pcc1, pcc2, _, _, _⟩ := pc.three
      go_wp2_with fail
      refine (AB _).mono ?_
      rintro e w4 ⟨rfl, hb4⟩
      replace pa := AtL.below hb4 pa
      replace pb := AtL.below hb4 pb
      replace pc := AtL.below hb4 pc
      have hB4 := x3_below_end hB3 hb4
      clear pac0 pac1 pac2 pbc0 pbc1 pbc2 pcc0 pcc1 pcc2
      clear hb4 hB3
      obtain ⟨pac0, pac1, pac2, _, _, _⟩ := pa.three
      obtain ⟨pbc0, pbc1, pbc2, _, _, _⟩ := pb.three
      obtain ⟨pcc0, pcc1, pcc2, _, _, _⟩ := pc.three
      go_wp2_with fail
      refine (BA _).mono ?_
      rintro e w5 ⟨rfl, hb5⟩
      replace pa := AtL.below hb5 pa
      replace pb := AtL.below hb5 pb
      replace pc := AtL.below hb5 pc
      have hB5 := x3_below_end hB4 hb5
      clear pac0 pac1 pac2 pbc0 pbc1 pbc2 pcc0 pcc1 pcc2
      clear hb5 hB4
      obtain ⟨pac0, pac1, pac2, _, _, _⟩ := pa.three
      obtain ⟨pbc0, pbc1, pbc2, _, _, _⟩ := pb.three
      obtain ⟨pcc0, pcc1, pcc2, _, _, _⟩ := pc.three
      go_wp2_with fail
      refine (AB _).mono ?_
      rintro e w6 ⟨rfl, hb6⟩
      replace pa := AtL.below hb6 pa
      replace pb := AtL.below hb6 pb
      replace pc := AtL.below hb6 pc
      have hB6 := x3_below_end hB5 hb6
      clear pac0 pac1 pac2 pbc0 pbc1 pbc2 pcc0 pcc1 pcc2
      clear hb6 hB5
      obtain ⟨pac0, pac1, pac2, _, _, _⟩ := pa.three
      obtain ⟨pbc0, pbc1, pbc2, _, _, _⟩ := pb.three
      obtain ⟨pcc0, pcc1, pcc2, _, _, _⟩ := pc.three
      go_wp2
      go_ret
      exact ⟨rfl, by with_reducible repeat (first | exact Below.refl _ _ | refine x3_below_drewN ?_ _ | refine Below.setCell ?_ (by first | (simp; done) | (simp; omega) | omega) _ | refine Below.drew ?_ | refine x3_below_end ?_ (by assumption) | refine x3_ball ?_ _)⟩
end Go.Proofs.YtdjhegmkmopnfabDoor
