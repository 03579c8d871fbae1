/- The contract of the reference's Read. -/
import Derived.Test.YtfilmomndhlmbabDoorWalkRr
import Derived.Deep.DeepCutAuto
namespace Go.Proofs.YtfilmomndhlmbabDoor
open Go.RowKit
set_option linter.unusedVariables false

theorem made_is (m : Bool) {n d : Int} (hn : 0 ≤ n) (hd : 1 ≤ d) : some (Rat.divInt (if (m && decide (0 < n)) = true then -n else n) d) = Wnum.mk (Wnum.sgnd m n) d := by
  rw [Wnum.mk_pos (by omega)]
  unfold Wnum.sgnd
  cases m with
  | false => rfl
  | true =>
    by_cases h : 0 < n
    · rw [decide_eq_true h]; rfl
    · have : n = 0 := by omega
      subst this; rfl

set_option maxRecDepth 100000 in
set_option maxHeartbeats 3200000 in
theorem rread_any (s : ByteArray) (w : World) (hs : s.size ≤ 9223372036854775807) :
    Calls Tryd.prog 10 #[.string s] w fun e w' => e = .returned (.tuple #[.agg #[.int .i64 (Wnum.oN (Wnum.rdO s)), .int .i64 (Wnum.oD (Wnum.rdO s))], .bool (Wnum.oB (Wnum.rdO s))]) ∧ Below w.heap.size w w' := by
  obtain ⟨o, O⟩ : ∃ o, Hid (Wnum.rdO s = o) := ⟨_, (rfl : Wnum.rdO s = _)⟩
  obtain ⟨m, HM⟩ : ∃ m, Hid (Wnum.minusB s = m) := ⟨_, (rfl : Wnum.minusB s = _)⟩
  obtain ⟨p, HP⟩ : ∃ p, Hid (Wnum.aOf s = p) := ⟨_, (rfl : Wnum.aOf s = _)⟩
  have hp : p ≤ s.size := by rw [← HP.out]; exact (Wnum.body_facts s).2.2
  rw [O.out]
  go_enter Tryd.func10, Tryd.ntmps10
  go_upto_region 2 with fail
  go_cut [5] (fun s5 wx => s5 = .bool m ∧ wx = w.alloc (.cells #[.int .i64 0, .int .i64 0] 23))
  case first =>
    by_cases h0 : 0 < s.size
    · have eb := Wnum.bt_get h0
      have h0' : (0 : Int) < (s.size : Int) := by omega
      by_cases hc : Wnum.bt s 0 = 45
      · have e : m = true := by rw [← HM.out]; exact decide_eq_true ⟨h0, hc⟩
        subst e
        rw [hc] at eb
        go_wp2
        go_meet
        case rel => exact ⟨rfl, rfl⟩
      · have e : m = false := by rw [← HM.out]; exact decide_eq_false (fun x => hc x.2)
        subst e
        have hc' : (Wnum.bt s 0 == 45) = false := beq_eq_false_iff_ne.2 hc
        go_wp2
        go_meet
        case rel => exact ⟨rfl, rfl⟩
    · have e : m = false := by rw [← HM.out]; exact decide_eq_false (fun x => h0 x.1)
      subst e
      have h0' : decide ((0 : Int) < (s.size : Int)) = false := decide_eq_false (by omega)
      go_wp2
      go_meet
      case rel => exact ⟨rfl, rfl⟩
  case rest =>
    obtain ⟨h5, rfl⟩ := hcut
    subst h5
    go_upto_if 21 with fail
    go_cut [4] (fun s4 wx => s4 = .int .i64 (p : Int) ∧ wx = w.alloc (.cells #[.int .i64 0, .int .i64 0] 23))
    case first =>
      cases m with
      | true =>
        have e : p = 1 := by rw [← HP.out]; unfold Wnum.aOf; rw [HM.out]; rfl
        subst e
        go_wp2
        go_meet
        case rel => exact ⟨rfl, rfl⟩
      | false =>
        have e : p = 0 := by rw [← HP.out]; unfold Wnum.aOf; rw [HM.out]; rfl
        subst e
        go_wp2
        go_meet
        case rel => exact ⟨rfl, rfl⟩
    case rest =>
      obtain ⟨h4, rfl⟩ := hcut
      subst h4
      have P := fun w => piece_any s p w hs hp
      cases hb : Wnum.dB s p with
      | false =>
        have e : o = none := by rw [← O.out]; exact Wnum.r_none (by rw [HP.out]; exact hb)
        subst e
        rw [hb] at P
        clear hb
        generalize Wnum.pcN s p = x1 at *
        generalize Wnum.pcI s p = x2 at *
        go_wp2_with fail
        refine (P _).mono ?_
        rintro e w1 ⟨rfl, rfl⟩
        go_wp2
        refine bodyPost_ret (v := .tuple #[.agg #[.int .i64 0, .int .i64 0], .bool false]) (by simp [results, Tryd.results10, go_sem]) rfl ⟨rfl, ?_⟩
        exact (by with_reducible repeat (first | exact Below.refl _ _ | refine below_drewN ?_ _ | refine Below.setCell ?_ (by first | (simp; done) | (simp; omega) | omega) _ | refine Below.drew ?_ | refine below_end ?_ (by assumption) | refine ball ?_ _))
      | true =>
        obtain ⟨b1, b2, b3⟩ := Wnum.dB_bd hb
        have hk := Wnum.dk_le s p
        have eN : Wnum.pcN s p = Wnum.dv s p := if_pos b3
        have eI : Wnum.pcI s p = ((p + Wnum.dk s p : Nat) : Int) := if_pos b3
        rw [hb, eN, eI] at P
        have hb' : Wnum.dB s (Wnum.aOf s) = true := by rw [HP.out]; exact hb
        by_cases ce : p + Wnum.dk s p = s.size
        · have HO : Hid (Wnum.mk (Wnum.sgnd m (Wnum.dv s p)) 1 = o) := by
            show _ = _
            rw [← O.out, Wnum.r_whole hb' (by rw [HP.out]; exact ce), HM.out, HP.out]
          rw [ce] at P
          generalize Wnum.dv s p = n at *
          clear hb hb' ce eN eI hk b1
          have sz : ((s.size : Int) == (s.size : Int)) = true := beq_self_eq_true _
          cases m with
          | false =>
            have M := fun w => made_any (false && decide (0 < n)) n 1 w (by omega) (by omega) (by omega) (by omega)
            rw [made_is _ (by omega) (by omega), HO.out] at M
            rw [Bool.false_and] at M
            go_wp2_with fail
            refine (P _).mono ?_
            rintro e w1 ⟨rfl, rfl⟩
            go_wp2_with fail
            refine (M _).mono ?_
            rintro e w3 ⟨rfl, hb3⟩
            obtain ⟨k1, k2, k3, k4⟩ := At.below hb3 (At.new w 23 rfl (.int .i64 0) (.int .i64 0))
            have qE := below_end ((Below.refl _ w).alloc (Nat.le_refl _) (.cells #[.int .i64 0, .int .i64 0] 23)) hb3
            go_wp2
            refine bodyPost_ret (v := .tuple #[.agg #[.int .i64 (Wnum.oN o), .int .i64 (Wnum.oD o)], .bool (Wnum.oB o)]) (by simp [results, Tryd.results10, go_sem, k1, k2]) rfl ⟨rfl, ?_⟩
            exact put_below qE (by omega) _ _
          | true =>
            by_cases hn : 0 < n
            · have M := fun w => made_any (true && decide (0 < n)) n 1 w (by omega) (by omega) (by omega) (by omega)
              rw [made_is _ (by omega) (by omega), HO.out] at M
              rw [Bool.true_and, decide_eq_true hn] at M
              go_wp2_with fail
              refine (P _).mono ?_
              rintro e w1 ⟨rfl, rfl⟩
              go_wp2_with fail
              refine (M _).mono ?_
              rintro e w3 ⟨rfl, hb3⟩
              obtain ⟨k1, k2, k3, k4⟩ := At.below hb3 (At.new w 23 rfl (.int .i64 0) (.int .i64 0))
              have qE := below_end ((Below.refl _ w).alloc (Nat.le_refl _) (.cells #[.int .i64 0, .int .i64 0] 23)) hb3
              go_wp2
              refine bodyPost_ret (v := .tuple #[.agg #[.int .i64 (Wnum.oN o), .int .i64 (Wnum.oD o)], .bool (Wnum.oB o)]) (by simp [results, Tryd.results10, go_sem, k1, k2]) rfl ⟨rfl, ?_⟩
              exact put_below qE (by omega) _ _
            · have M := fun w => made_any (true && decide (0 < n)) n 1 w (by omega) (by omega) (by omega) (by omega)
              rw [made_is _ (by omega) (by omega), HO.out] at M
              rw [Bool.true_and, decide_eq_false hn] at M
              have hn' : decide (0 < n) = false := decide_eq_false hn
              go_wp2_with fail
              refine (P _).mono ?_
              rintro e w1 ⟨rfl, rfl⟩
              go_wp2_with fail
              refine (M _).mono ?_
              rintro e w3 ⟨rfl, hb3⟩
              obtain ⟨k1, k2, k3, k4⟩ := At.below hb3 (At.new w 23 rfl (.int .i64 0) (.int .i64 0))
              have qE := below_end ((Below.refl _ w).alloc (Nat.le_refl _) (.cells #[.int .i64 0, .int .i64 0] 23)) hb3
              go_wp2
              refine bodyPost_ret (v := .tuple #[.agg #[.int .i64 (Wnum.oN o), .int .i64 (Wnum.oD o)], .bool (Wnum.oB o)]) (by simp [results, Tryd.results10, go_sem, k1, k2]) rfl ⟨rfl, ?_⟩
              exact put_below qE (by omega) _ _
        · have hlt : p + Wnum.dk s p < s.size := by omega
          obtain ⟨r0, r1⟩ := Wnum.r_more hb' (by rw [HP.out]; exact hlt)
          rw [HP.out] at r0
          rw [HP.out, HM.out] at r1
          have R0 : Hid _ := r0
          have R1 : Hid _ := r1
          clear r0 r1 hb hb' eN eI hk b1 ce
          generalize Wnum.dv s p = n at *
          generalize p + Wnum.dk s p = i at *
          have Q := fun w => piece_any s (i + 1) w hs (by omega)
          have ei : ((i + 1 : Nat) : Int) = (i : Int) + 1 := by omega
          rw [ei] at Q
          have ne : ((i : Int) == (s.size : Int)) = false := beq_eq_false_iff_ne.2 (by omega)
          have k2 := Wnum.dk_le s (i + 1)
          have eb := Wnum.bt_get hlt
          cases hg : Wnum.dB s (i + 1) with
          | false =>
            have e : o = none := by rw [← O.out]; exact R0.out (fun x => by rw [hg] at x; cases x.1)
            subst e
            rw [hg] at Q
            clear hg R0 R1 eb
            generalize Wnum.pcN s (i + 1) = x1 at *
            generalize Wnum.pcI s (i + 1) = x2 at *
            go_wp2_with fail
            refine (P _).mono ?_
            rintro e w1 ⟨rfl, rfl⟩
            go_wp2_with fail
            refine (Q _).mono ?_
            rintro e w1 ⟨rfl, rfl⟩
            go_wp2
            refine bodyPost_ret (v := .tuple #[.agg #[.int .i64 0, .int .i64 0], .bool false]) (by simp [results, Tryd.results10, go_sem]) rfl ⟨rfl, ?_⟩
            exact (by with_reducible repeat (first | exact Below.refl _ _ | refine below_drewN ?_ _ | refine Below.setCell ?_ (by first | (simp; done) | (simp; omega) | omega) _ | refine Below.drew ?_ | refine below_end ?_ (by assumption) | refine ball ?_ _))
          | true =>
            obtain ⟨g1, g2, g3⟩ := Wnum.dB_bd hg
            have eN2 : Wnum.pcN s (i + 1) = Wnum.dv s (i + 1) := if_pos g3
            have eI2 : Wnum.pcI s (i + 1) = ((i + 1 + Wnum.dk s (i + 1) : Nat) : Int) := if_pos g3
            rw [hg, eN2, eI2] at Q
            by_cases ce : i + 1 + Wnum.dk s (i + 1) = s.size
            · obtain ⟨q1, q2, q3, q4⟩ := R1.out hg ce
              have Q1 : Hid _ := q1
              have Q2 : Hid _ := q2
              have Q3 : Hid _ := q3
              have Q4 : Hid _ := q4
              rw [ce] at Q
              clear q1 q2 q3 q4 R0 R1 hg eN2 eI2
              have K : Hid (Wnum.dk s (i + 1) = s.size - (i + 1)) := (by omega : Wnum.dk s (i + 1) = s.size - (i + 1))
              clear ce k2 g1
              generalize Wnum.dv s (i + 1) = v at *
              generalize Wnum.bt s i = c at *
              have ne2 : ((s.size : Int) != (s.size : Int)) = false := by simp
              by_cases c47 : c = 47
              · subst c47
                by_cases hv : v = 0
                · subst hv
                  have e : o = none := by rw [← O.out, Q1.out rfl]; exact Wnum.mk_zero _
                  subst e
                  clear Q1 Q2 Q3 Q4
                  go_wp2_with fail
                  refine (P _).mono ?_
                  rintro e w1 ⟨rfl, rfl⟩
                  go_wp2_with fail
                  refine (Q _).mono ?_
                  rintro e w1 ⟨rfl, rfl⟩
                  go_wp2
                  refine bodyPost_ret (v := .tuple #[.agg #[.int .i64 0, .int .i64 0], .bool false]) (by simp [results, Tryd.results10, go_sem]) rfl ⟨rfl, ?_⟩
                  exact (by with_reducible repeat (first | exact Below.refl _ _ | refine below_drewN ?_ _ | refine Below.setCell ?_ (by first | (simp; done) | (simp; omega) | omega) _ | refine Below.drew ?_ | refine below_end ?_ (by assumption) | refine ball ?_ _))
                · have HO : Hid (Wnum.mk (Wnum.sgnd m n) v = o) := by show _ = _; rw [← O.out, Q1.out rfl]
                  have hv' : (v == 0) = false := beq_eq_false_iff_ne.2 hv
                  clear Q1 Q2 Q3 Q4
                  cases m with
                  | false =>
                    have M := fun w => made_any (false && decide (0 < n)) n v w (by omega) (by omega) (by omega) (by omega)
                    rw [made_is _ (by omega) (by omega), HO.out] at M
                    rw [Bool.false_and] at M
                    go_wp2_with fail
                    refine (P _).mono ?_
                    rintro e w1 ⟨rfl, rfl⟩
                    go_wp2_with fail
                    refine (Q _).mono ?_
                    rintro e w1 ⟨rfl, rfl⟩
                    go_wp2_with fail
                    refine (M _).mono ?_
                    rintro e w3 ⟨rfl, hb3⟩
                    obtain ⟨k1, k2, k3, k4⟩ := At.below hb3 (At.new w 23 rfl (.int .i64 0) (.int .i64 0))
                    have qE := below_end ((Below.refl _ w).alloc (Nat.le_refl _) (.cells #[.int .i64 0, .int .i64 0] 23)) hb3
                    go_wp2
                    refine bodyPost_ret (v := .tuple #[.agg #[.int .i64 (Wnum.oN o), .int .i64 (Wnum.oD o)], .bool (Wnum.oB o)]) (by simp [results, Tryd.results10, go_sem, k1, k2]) rfl ⟨rfl, ?_⟩
                    exact put_below qE (by omega) _ _
                  | true =>
                    by_cases hn : 0 < n
                    · have M := fun w => made_any (true && decide (0 < n)) n v w (by omega) (by omega) (by omega) (by omega)
                      rw [made_is _ (by omega) (by omega), HO.out] at M
                      rw [Bool.true_and, decide_eq_true hn] at M
                      go_wp2_with fail
                      refine (P _).mono ?_
                      rintro e w1 ⟨rfl, rfl⟩
                      go_wp2_with fail
                      refine (Q _).mono ?_
                      rintro e w1 ⟨rfl, rfl⟩
                      go_wp2_with fail
                      refine (M _).mono ?_
                      rintro e w3 ⟨rfl, hb3⟩
                      obtain ⟨k1, k2, k3, k4⟩ := At.below hb3 (At.new w 23 rfl (.int .i64 0) (.int .i64 0))
                      have qE := below_end ((Below.refl _ w).alloc (Nat.le_refl _) (.cells #[.int .i64 0, .int .i64 0] 23)) hb3
                      go_wp2
                      refine bodyPost_ret (v := .tuple #[.agg #[.int .i64 (Wnum.oN o), .int .i64 (Wnum.oD o)], .bool (Wnum.oB o)]) (by simp [results, Tryd.results10, go_sem, k1, k2]) rfl ⟨rfl, ?_⟩
                      exact put_below qE (by omega) _ _
                    · have M := fun w => made_any (true && decide (0 < n)) n v w (by omega) (by omega) (by omega) (by omega)
                      rw [made_is _ (by omega) (by omega), HO.out] at M
                      rw [Bool.true_and, decide_eq_false hn] at M
                      have hn' : decide (0 < n) = false := decide_eq_false hn
                      go_wp2_with fail
                      refine (P _).mono ?_
                      rintro e w1 ⟨rfl, rfl⟩
                      go_wp2_with fail
                      refine (Q _).mono ?_
                      rintro e w1 ⟨rfl, rfl⟩
                      go_wp2_with fail
                      refine (M _).mono ?_
                      rintro e w3 ⟨rfl, hb3⟩
                      obtain ⟨k1, k2, k3, k4⟩ := At.below hb3 (At.new w 23 rfl (.int .i64 0) (.int .i64 0))
                      have qE := below_end ((Below.refl _ w).alloc (Nat.le_refl _) (.cells #[.int .i64 0, .int .i64 0] 23)) hb3
                      go_wp2
                      refine bodyPost_ret (v := .tuple #[.agg #[.int .i64 (Wnum.oN o), .int .i64 (Wnum.oD o)], .bool (Wnum.oB o)]) (by simp [results, Tryd.results10, go_sem, k1, k2]) rfl ⟨rfl, ?_⟩
                      exact put_below qE (by omega) _ _
              · have c47' : (c == 47) = false := beq_eq_false_iff_ne.2 c47
                by_cases c46 : c = 46
                · subst c46
                  by_cases w6 : 6 < s.size - (i + 1)
                  · have e : o = none := by rw [← O.out]; exact Q3.out rfl (Or.inl (by rw [K.out]; exact w6))
                    subst e
                    have w6' : (6 : Int) < (s.size : Int) - (i : Int) - 1 := by omega
                    clear Q1 Q2 Q3 Q4 w6
                    go_wp2_with fail
                    refine (P _).mono ?_
                    rintro e w1 ⟨rfl, rfl⟩
                    go_wp2_with fail
                    refine (Q _).mono ?_
                    rintro e w1 ⟨rfl, rfl⟩
                    go_wp2
                    refine bodyPost_ret (v := .tuple #[.agg #[.int .i64 0, .int .i64 0], .bool false]) (by simp [results, Tryd.results10, go_sem]) rfl ⟨rfl, ?_⟩
                    exact (by with_reducible repeat (first | exact Below.refl _ _ | refine below_drewN ?_ _ | refine Below.setCell ?_ (by first | (simp; done) | (simp; omega) | omega) _ | refine Below.drew ?_ | refine below_end ?_ (by assumption) | refine ball ?_ _))
                  · have w6' : decide ((6 : Int) < (s.size : Int) - (i : Int) - 1) = false := decide_eq_false (by omega)
                    by_cases wn : 1000000000000 < n
                    · have e : o = none := by rw [← O.out]; exact Q3.out rfl (Or.inr wn)
                      subst e
                      clear Q1 Q2 Q3 Q4
                      go_wp2_with fail
                      refine (P _).mono ?_
                      rintro e w1 ⟨rfl, rfl⟩
                      go_wp2_with fail
                      refine (Q _).mono ?_
                      rintro e w1 ⟨rfl, rfl⟩
                      go_wp2
                      refine bodyPost_ret (v := .tuple #[.agg #[.int .i64 0, .int .i64 0], .bool false]) (by simp [results, Tryd.results10, go_sem]) rfl ⟨rfl, ?_⟩
                      exact (by with_reducible repeat (first | exact Below.refl _ _ | refine below_drewN ?_ _ | refine Below.setCell ?_ (by first | (simp; done) | (simp; omega) | omega) _ | refine Below.drew ?_ | refine below_end ?_ (by assumption) | refine ball ?_ _))
                    · have wn' : decide (1000000000000 < n) = false := decide_eq_false wn
                      have q4 := Q4.out rfl (by rw [K.out]; omega) (by omega)
                      rw [K.out] at q4
                      have t1 := Wnum.tenP_le6 (k := s.size - (i + 1)) (by omega)
                      have t2 := Wnum.tenP_pos (s.size - (i + 1))
                      have T := fun w => rten_any ((s.size : Int) - (i : Int) - 1) w (by omega) (by omega)
                      rw [show ((s.size : Int) - (i : Int) - 1).toNat = s.size - (i + 1) by omega] at T
                      generalize Wnum.tenP (s.size - (i + 1)) = ten at *
                      have HO : Hid (Wnum.mk (Wnum.sgnd m (n * ten + v)) ten = o) := by show _ = _; rw [← O.out, q4]
                      have m1 : 0 ≤ n * ten := Int.mul_nonneg b2 (by omega)
                      have m2 : n * ten ≤ 1000000000000 * 1000000 := Int.mul_le_mul (by omega) t1 (by omega) (by omega)
                      have z1 : IntKind.u64.wrap (n * ten) = n * ten := IntWalk.u64_in _ (by omega)
                      have z2 : IntKind.u64.wrap (n * ten + v) = n * ten + v := IntWalk.u64_in _ (by omega)
                      clear Q1 Q2 Q3 Q4 q4
                      cases m with
                      | false =>
                        have M := fun w => made_any (false && decide (0 < (n * ten + v))) (n * ten + v) ten w (by omega) (by omega) (by omega) (by omega)
                        rw [made_is _ (by omega) (by omega), HO.out] at M
                        rw [Bool.false_and] at M
                        go_wp2_with fail
                        refine (P _).mono ?_
                        rintro e w1 ⟨rfl, rfl⟩
                        go_wp2_with fail
                        refine (Q _).mono ?_
                        rintro e w1 ⟨rfl, rfl⟩
                        go_wp2_with fail
                        refine (T _).mono ?_
                        rintro e w1 ⟨rfl, rfl⟩
                        go_wp2_with fail
                        refine (M _).mono ?_
                        rintro e w3 ⟨rfl, hb3⟩
                        obtain ⟨k1, k2, k3, k4⟩ := At.below hb3 (At.new w 23 rfl (.int .i64 0) (.int .i64 0))
                        have qE := below_end ((Below.refl _ w).alloc (Nat.le_refl _) (.cells #[.int .i64 0, .int .i64 0] 23)) hb3
                        go_wp2
                        refine bodyPost_ret (v := .tuple #[.agg #[.int .i64 (Wnum.oN o), .int .i64 (Wnum.oD o)], .bool (Wnum.oB o)]) (by simp [results, Tryd.results10, go_sem, k1, k2]) rfl ⟨rfl, ?_⟩
                        exact put_below qE (by omega) _ _
                      | true =>
                        by_cases hn : 0 < (n * ten + v)
                        · have M := fun w => made_any (true && decide (0 < (n * ten + v))) (n * ten + v) ten w (by omega) (by omega) (by omega) (by omega)
                          rw [made_is _ (by omega) (by omega), HO.out] at M
                          rw [Bool.true_and, decide_eq_true hn] at M
                          go_wp2_with fail
                          refine (P _).mono ?_
                          rintro e w1 ⟨rfl, rfl⟩
                          go_wp2_with fail
                          refine (Q _).mono ?_
                          rintro e w1 ⟨rfl, rfl⟩
                          go_wp2_with fail
                          refine (T _).mono ?_
                          rintro e w1 ⟨rfl, rfl⟩
                          go_wp2_with fail
                          refine (M _).mono ?_
                          rintro e w3 ⟨rfl, hb3⟩
                          obtain ⟨k1, k2, k3, k4⟩ := At.below hb3 (At.new w 23 rfl (.int .i64 0) (.int .i64 0))
                          have qE := below_end ((Below.refl _ w).alloc (Nat.le_refl _) (.cells #[.int .i64 0, .int .i64 0] 23)) hb3
                          go_wp2
                          refine bodyPost_ret (v := .tuple #[.agg #[.int .i64 (Wnum.oN o), .int .i64 (Wnum.oD o)], .bool (Wnum.oB o)]) (by simp [results, Tryd.results10, go_sem, k1, k2]) rfl ⟨rfl, ?_⟩
                          exact put_below qE (by omega) _ _
                        · have M := fun w => made_any (true && decide (0 < (n * ten + v))) (n * ten + v) ten w (by omega) (by omega) (by omega) (by omega)
                          rw [made_is _ (by omega) (by omega), HO.out] at M
                          rw [Bool.true_and, decide_eq_false hn] at M
                          have hn' : decide (0 < (n * ten + v)) = false := decide_eq_false hn
                          go_wp2_with fail
                          refine (P _).mono ?_
                          rintro e w1 ⟨rfl, rfl⟩
                          go_wp2_with fail
                          refine (Q _).mono ?_
                          rintro e w1 ⟨rfl, rfl⟩
                          go_wp2_with fail
                          refine (T _).mono ?_
                          rintro e w1 ⟨rfl, rfl⟩
                          go_wp2_with fail
                          refine (M _).mono ?_
                          rintro e w3 ⟨rfl, hb3⟩
                          obtain ⟨k1, k2, k3, k4⟩ := At.below hb3 (At.new w 23 rfl (.int .i64 0) (.int .i64 0))
                          have qE := below_end ((Below.refl _ w).alloc (Nat.le_refl _) (.cells #[.int .i64 0, .int .i64 0] 23)) hb3
                          go_wp2
                          refine bodyPost_ret (v := .tuple #[.agg #[.int .i64 (Wnum.oN o), .int .i64 (Wnum.oD o)], .bool (Wnum.oB o)]) (by simp [results, Tryd.results10, go_sem, k1, k2]) rfl ⟨rfl, ?_⟩
                          exact put_below qE (by omega) _ _
                · have c46' : (c != 46) = true := bne_iff_ne.2 c46
                  have e : o = none := by rw [← O.out]; exact Q2.out c47 c46
                  subst e
                  clear Q1 Q2 Q3 Q4 c46 c47
                  go_wp2_with fail
                  refine (P _).mono ?_
                  rintro e w1 ⟨rfl, rfl⟩
                  go_wp2_with fail
                  refine (Q _).mono ?_
                  rintro e w1 ⟨rfl, rfl⟩
                  go_wp2
                  refine bodyPost_ret (v := .tuple #[.agg #[.int .i64 0, .int .i64 0], .bool false]) (by simp [results, Tryd.results10, go_sem]) rfl ⟨rfl, ?_⟩
                  exact (by with_reducible repeat (first | exact Below.refl _ _ | refine below_drewN ?_ _ | refine Below.setCell ?_ (by first | (simp; done) | (simp; omega) | omega) _ | refine Below.drew ?_ | refine below_end ?_ (by assumption) | refine ball ?_ _))
            · have e : o = none := by rw [← O.out]; exact R0.out (fun x => ce x.2)
              subst e
              have ne2 : (((i + 1 + Wnum.dk s (i + 1) : Nat) : Int) != (s.size : Int)) = true := bne_iff_ne.2 (by omega)
              clear R0 R1 hg eN2 eI2 eb
              generalize Wnum.dv s (i + 1) = v at *
              generalize ((i + 1 + Wnum.dk s (i + 1) : Nat) : Int) = x2 at *
              go_wp2_with fail
              refine (P _).mono ?_
              rintro e w1 ⟨rfl, rfl⟩
              go_wp2_with fail
              refine (Q _).mono ?_
              rintro e w1 ⟨rfl, rfl⟩
              go_wp2
              refine bodyPost_ret (v := .tuple #[.agg #[.int .i64 0, .int .i64 0], .bool false]) (by simp [results, Tryd.results10, go_sem]) rfl ⟨rfl, ?_⟩
              exact (by with_reducible repeat (first | exact Below.refl _ _ | refine below_drewN ?_ _ | refine Below.setCell ?_ (by first | (simp; done) | (simp; omega) | omega) _ | refine Below.drew ?_ | refine below_end ?_ (by assumption) | refine ball ?_ _))
end Go.Proofs.YtfilmomndhlmbabDoor
