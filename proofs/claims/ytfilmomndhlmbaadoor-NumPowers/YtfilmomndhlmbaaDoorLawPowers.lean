/- NumPowers answers true, whatever it is asked. -/
import Derived.Test.YtfilmomndhlmbaaDoorWalkV
import Derived.Test.YtfilmomndhlmbaaDoorWalkYb
import Derived.Test.YtfilmomndhlmbaaDoorPlainM
import Derived.Deep.DeepCutAuto
import Derived.Deep.CutBlock
namespace Go.Proofs.YtfilmomndhlmbaaDoor
open Go.RowKit
set_option linter.unusedVariables false

theorem and63 (k : Int) : ∃ m : Nat, bits .and .i64 k 63 = (m : Int) ∧ m ≤ 63 := by
  have hx : (BitVec.ofInt 64 k).toNat &&& (63 : Nat) ≤ 63 := Nat.and_le_right
  refine ⟨(BitVec.ofInt 64 k).toNat &&& 63, ?_, hx⟩
  show IntKind.i64.wrap ((BitVec.ofInt 64 k &&& BitVec.ofInt 64 63).toNat : Int) = _
  rw [BitVec.toNat_and, show (BitVec.ofInt 64 63).toNat = 63 by decide]
  exact IntWalk.i64_in _ (by omega)

set_option maxRecDepth 100000 in
set_option maxHeartbeats 6400000 in
theorem powers_main (a b k nx dx nz dz : Int) (K : Nat) (bx bz : Bool) (w : World) (h1 : -9223372036854775808 ≤ a) (h2 : a ≤ 9223372036854775807) (h3 : -9223372036854775808 ≤ b) (h4 : b ≤ 9223372036854775807)
    (hK : K ≤ 63) (EK : Hid (bits .and .i64 k 63 = (K : Int))) (RA : Hid (Wnum.rightB a b = true))
    (EX1 : Hid (Wnum.oN (some ((Wnum.qu a b) ^ K)) = nx)) (EX2 : Hid (Wnum.oD (some ((Wnum.qu a b) ^ K)) = dx)) (EX3 : Hid (Wnum.oB (some ((Wnum.qu a b) ^ K)) = bx))
    (EZ1 : Hid (Wnum.oN (Wnum.powO (Wnum.qu a b) (-(K : Int))) = nz)) (EZ2 : Hid (Wnum.oD (Wnum.powO (Wnum.qu a b) (-(K : Int))) = dz)) (EZ3 : Hid (Wnum.oB (Wnum.powO (Wnum.qu a b) (-(K : Int))) = bz))
    (F0 : Hid (bx = false → (a != 0) = true ∧ ((K : Int) == 0) = false)) (F1 : Hid (bx = true → a = 0 → ((K : Int) == 0) = true ∨ ((K : Int) == 0) = false ∧ bz = false))
    (F2 : Hid (bx = true → a ≠ 0 → Wnum.mk (Wnum.cN 1 1 * Wnum.cD nx dx) (Wnum.cN nx dx * Wnum.cD 1 1) = Wnum.powO (Wnum.qu a b) (-(K : Int)))) :
    Calls Tryd.prog 4 #[.agg #[.int .i64 a, .int .i64 b], .int .i64 k] w fun e w' => e = .returned (.bool true) ∧ Below w.heap.size w w' := by
  obtain ⟨b1, b2, b3, b4⟩ : -1000000000000 ≤ nx ∧ nx ≤ 1000000000000 ∧ 0 ≤ dx ∧ dx ≤ 1000000 := by rw [← EX1.out, ← EX2.out]; exact Wnum.oN_bd _
  go_enter Tryd.func4, Tryd.ntmps4
  go_wp2_with fail
  refine (able_any _).mono ?_
  rintro e w1 ⟨rfl, hb1⟩
  have pA1 : At w1 w.heap.size (.int .i64 a) (.int .i64 b) := At.below hb1 (At.new w _ rfl _ _)
  have hB1 : Below w.heap.size w w1 := by with_reducible repeat (first | exact Below.refl _ _ | refine below_drewN ?_ _ | refine Below.setCell ?_ (by first | (simp; done) | (simp; omega) | omega) _ | refine Below.drew ?_ | refine below_end ?_ (by assumption) | refine ball ?_ _)
  clear hb1
  have tA := pA1
  obtain ⟨a1, a2, a3, a4⟩ := tA
  go_wp2_with fail
  refine (lright_any a b _ h1 h2 h3 h4).mono ?_
  rintro e w2 ⟨rfl, hb2⟩
  rw [RA.out]
  have pA2 := At.below hb2 pA1
  have hB2 := below_end hB1 hb2
  clear hb2 pA1 hB1 a1 a2 a3 a4
  go_wp2_with fail
  rw [EK.out]
  refine (one_any _).mono ?_
  rintro e w3 ⟨rfl, hb3⟩
  have pA3 := At.below hb3 pA2
  have hB3 := below_end hB2 hb3
  clear hb3 pA2 hB2
  have pA4 := pA3.alloc (.cells #[.int .i64 1, .int .i64 1] 23)
  have pX4 := At.new w3 23 rfl (.int .i64 1) (.int .i64 1)
  have hB4 := ball hB3 (.cells #[.int .i64 1, .int .i64 1] 23)
  have l4 : w.heap.size < w3.heap.size := pA3.lt
  go_upto_region 5 with fail
  clear pA3 hB3
  generalize w3.heap.size = X at *
  generalize w3.alloc (.cells #[.int .i64 1, .int .i64 1] 23) = w4 at *
  clear w3
  go_upto_block 0 with fail
  go_cut [6] (fun s6 wx => s6 = .bool bx ∧ Below w.heap.size w wx ∧ At wx w.heap.size (.int .i64 a) (.int .i64 b) ∧ At wx X (.int .i64 nx) (.int .i64 dx))
  case first =>
    go_wp2_with fail
    go_loopw [6, 7] (fun f i wr => ∃ j : Nat, j ≤ K ∧ i = .int .i64 j ∧ f = .bool (Wnum.oB (some ((Wnum.qu a b) ^ j))) ∧ Below w.heap.size w wr ∧ At wr w.heap.size (.int .i64 a) (.int .i64 b) ∧ At wr X (.int .i64 (Wnum.oN (some ((Wnum.qu a b) ^ j)))) (.int .i64 (Wnum.oD (some ((Wnum.qu a b) ^ j))))) (fun _ i _ => K - (intOf i).toNat)
    case atStart =>
      refine ⟨0, Nat.zero_le _, rfl, ?_, hB4, pA4, ?_⟩
      · rw [Rat.pow_zero, Wnum.o_one.2.2]
      · rw [Rat.pow_zero, Wnum.o_one.1, Wnum.o_one.2.1]; exact pX4
    case round =>
      obtain ⟨j, hj, rfl, rfl, qB, qA, qX⟩ := hrel
      clear pA4 pX4 hB4
      by_cases hlt : j < K
      · cases hb : Wnum.oB (some ((Wnum.qu a b) ^ j)) with
        | false =>
          obtain ⟨e1, e2, e3⟩ := Wnum.pow_same (q := Wnum.qu a b) hj hb
          rw [hb, EX3.out] at e3
          rw [e1, e2, EX1.out, EX2.out] at qX
          clear e1 e2 hb
          subst e3
          go_wp2_with fail
          go_meet
          case rel => exact ⟨rfl, qB, qA, qX⟩
        | true =>
          obtain ⟨o1, o2, o3, o4⟩ := Wnum.oN_bd (some ((Wnum.qu a b) ^ j))
          have E := Wnum.pow_step (a := a) (b := b) (q := Wnum.qu a b) rfl hb
          have M := fun w => mul_any (Wnum.oN (some ((Wnum.qu a b) ^ j))) (Wnum.oD (some ((Wnum.qu a b) ^ j))) a b w (by omega) (by omega) (by omega) (by omega) h1 h2 h3 h4
          rw [E] at M
          clear E hb
          generalize Wnum.oN (some ((Wnum.qu a b) ^ j)) = xn at *
          generalize Wnum.oD (some ((Wnum.qu a b) ^ j)) = xd at *
          have tA := qA
          have tX := qX
          obtain ⟨a1, a2, a3, a4⟩ := tA
          obtain ⟨x1, x2, x3, x4⟩ := tX
          go_wp2_with fail
          refine (M _).mono ?_
          rintro e w5 ⟨rfl, hb5⟩
          have rA := At.below hb5 qA
          have rX := At.below hb5 qX
          have rB := below_end qB hb5
          clear qA qX qB hb5 a1 a2 a3 a4 x1 x2 x3 x4
          have tX := rX
          obtain ⟨x1, x2, x3, x4⟩ := tX
          go_wp2_with fail
          go_roundw
          case rel => exact ⟨j + 1, by omega, by go_num, rfl, put_below rB (by omega) _ _, rA.far2 (by omega) _ _, rX.put _ _⟩
          case measure => simp [intOf]; omega
      · have hj' : j = K := by omega
        subst hj'
        rw [EX1.out, EX2.out] at qX
        rw [EX3.out]
        go_wp2_with fail
        go_meet
        case rel => exact ⟨rfl, qB, qA, qX⟩
  case rest =>
    clear pA4 pX4 hB4
    obtain ⟨h6, hB5, pA5, pX5⟩ := hcut
    subst h6
    generalize wc = w5 at *
    have lx : X < w5.heap.size := pX5.lt
    have P1 := fun w => pow_any a b (K : Int) w h1 h2 h3 h4 (by omega) (by omega)
    have P2 := fun w => pow_any a b (-(K : Int)) w h1 h2 h3 h4 (by omega) (by omega)
    rw [Wnum.powO_nat, EX1.out, EX2.out, EX3.out] at P1
    rw [EZ1.out, EZ2.out, EZ3.out] at P2
    have zk : IntKind.i64.wrap (-(K : Int)) = -(K : Int) := IntWalk.i64_in _ (by omega)
    have tA := pA5
    obtain ⟨a1, a2, a3, a4⟩ := tA
    go_wp2_with fail
    refine (P1 _).mono ?_
    rintro e w6 ⟨rfl, hb6⟩
    have pA6 := At.below hb6 pA5
    have pX6 := At.below hb6 pX5
    have hB6 := below_end hB5 hb6
    clear hb6 pA5 pX5 hB5 a1 a2 a3 a4
    have pA7 := pA6.alloc (.cells #[.int .i64 nx, .int .i64 dx] 23)
    have pX7 := pX6.alloc (.cells #[.int .i64 nx, .int .i64 dx] 23)
    have pY7 := At.new w6 23 rfl (.int .i64 nx) (.int .i64 dx)
    have hB7 := ball hB6 (.cells #[.int .i64 nx, .int .i64 dx] 23)
    go_upto_region 10 with fail
    clear pA6 pX6 hB6
    generalize w6.heap.size = Y at *
    generalize w6.alloc (.cells #[.int .i64 nx, .int .i64 dx] 23) = w7 at *
    clear w6
    have tX := pX7
    have tY := pY7
    obtain ⟨x1, x2, x3, x4⟩ := tX
    obtain ⟨y1, y2, y3, y4⟩ := tY
    cases bx with
    | false =>
      have G0 : Hid ((a != 0) = true ∧ ((K : Int) == 0) = false) := F0.out rfl
      clear F0 F1 F2
      obtain ⟨a1, a2, a3, a4⟩ := pA7
      go_wp2_with fail
      refine (P2 _).mono ?_
      rintro e w8 ⟨rfl, hb8⟩
      have pA8 := At.below hb8 (⟨a1, a2, a3, a4⟩ : At w7 w.heap.size (.int .i64 a) (.int .i64 b))
      have pX8 := At.below hb8 pX7
      have hB8 := below_end hB7 hb8
      clear hb8 pX7 hB7 pY7 a1 a2 a3 a4 x1 x2 x3 x4 y1 y2 y3 y4
      have pA9 := pA8.alloc (.cells #[.int .i64 nz, .int .i64 dz] 23)
      have pX9 := pX8.alloc (.cells #[.int .i64 nz, .int .i64 dz] 23)
      have pZ9 := At.new w8 23 rfl (.int .i64 nz) (.int .i64 dz)
      have hB9 := ball hB8 (.cells #[.int .i64 nz, .int .i64 dz] 23)
      go_upto_region 13 with fail
      clear pA8 pX8 hB8
      generalize w8.heap.size = Z at *
      generalize w8.alloc (.cells #[.int .i64 nz, .int .i64 dz] 23) = w9 at *
      clear w8
      have tA := pA9
      obtain ⟨a1, a2, a3, a4⟩ := tA
      obtain ⟨f1, f2⟩ := G0.out
      cases bz with
      | false =>
        go_wp2
        go_ret
        exact ⟨rfl, hB9⟩
      | true =>
        go_wp2
        go_ret
        exact ⟨rfl, hB9⟩
    | true =>
      have G1 : Hid (a = 0 → ((K : Int) == 0) = true ∨ ((K : Int) == 0) = false ∧ bz = false) := F1.out rfl
      have G2 : Hid (a ≠ 0 → Wnum.mk (Wnum.cN 1 1 * Wnum.cD nx dx) (Wnum.cN nx dx * Wnum.cD 1 1) = Wnum.powO (Wnum.qu a b) (-(K : Int))) := F2.out rfl
      clear F0 F1 F2
      obtain ⟨a1, a2, a3, a4⟩ := pA7
      go_wp2_with fail
      refine (P2 _).mono ?_
      rintro e w8 ⟨rfl, hb8⟩
      have pA8 := At.below hb8 (⟨a1, a2, a3, a4⟩ : At w7 w.heap.size (.int .i64 a) (.int .i64 b))
      have pX8 := At.below hb8 pX7
      have hB8 := below_end hB7 hb8
      clear hb8 pX7 hB7 pY7 a1 a2 a3 a4 x1 x2 x3 x4 y1 y2 y3 y4
      have pA9 := pA8.alloc (.cells #[.int .i64 nz, .int .i64 dz] 23)
      have pX9 := pX8.alloc (.cells #[.int .i64 nz, .int .i64 dz] 23)
      have pZ9 := At.new w8 23 rfl (.int .i64 nz) (.int .i64 dz)
      have hB9 := ball hB8 (.cells #[.int .i64 nz, .int .i64 dz] 23)
      go_upto_region 13 with fail
      clear pA8 pX8 hB8
      generalize w8.heap.size = Z at *
      generalize w8.alloc (.cells #[.int .i64 nz, .int .i64 dz] 23) = w9 at *
      clear w8
      have tA := pA9
      obtain ⟨a1, a2, a3, a4⟩ := tA
      by_cases ha : a = 0
      · have ha' : (a == 0) = true := beq_iff_eq.2 ha
        rcases G1.out ha with f1 | ⟨f1, f2⟩
        · clear ha
          cases bz with
          | false =>
            go_wp2
            go_ret
            exact ⟨rfl, hB9⟩
          | true =>
            go_wp2
            go_ret
            exact ⟨rfl, hB9⟩
        · subst f2
          clear ha
          go_wp2
          go_ret
          exact ⟨rfl, hB9⟩
      · have ha' : (a == 0) = false := beq_eq_false_iff_ne.2 ha
        have E := G2.out ha
        have D := fun w => div_any 1 1 nx dx w (by omega) (by omega) (by omega) (by omega) (by omega) (by omega) (by omega) (by omega)
        rw [E, EZ1.out, EZ2.out, EZ3.out] at D
        clear E ha
        go_upto_region 15 with fail
        go_cut [12, 13] (fun sp so wx => ∃ V, sp = .pointer (some ⟨V, 0, none⟩) ∧ so = .bool bz ∧ Below w.heap.size w wx ∧ At wx w.heap.size (.int .i64 a) (.int .i64 b) ∧ At wx Z (.int .i64 nz) (.int .i64 dz) ∧ At wx V (.int .i64 nz) (.int .i64 dz))
        case first =>
          have lk0 : w.heap.size < w9.heap.size := pA9.lt
          have lk1 : Z < w9.heap.size := pZ9.lt
          have tl0 := pX9
          obtain ⟨q01, q02, q03, q04⟩ := tl0
          have tm0 := pX9.alloc (.cells #[.int .i64 0, .int .i64 0] 23)
          obtain ⟨r01, r02, r03, r04⟩ := tm0
          go_region_with (first
            | (go_at_call 13; refine (one_any _).mono ?_; rintro e wz ⟨rfl, hbz⟩; first | (have cc0 := At.below hbz pX9.drew; have cd0 := cc0.alloc (.cells #[.int .i64 0, .int .i64 0] 23); obtain ⟨c01, c02, c03, c04⟩ := cc0; obtain ⟨d01, d02, d03, d04⟩ := cd0) | (have cc0 := At.below hbz (pX9.alloc (.cells #[.int .i64 0, .int .i64 0] 23)).drew; obtain ⟨c01, c02, c03, c04⟩ := cc0; have nn := At.below hbz (At.new w9 23 rfl (.int .i64 0) (.int .i64 0)).drew; have nm := nn; obtain ⟨m1, m2, m3, m4⟩ := nm))
            | (go_at_call 15; refine (D _).mono ?_; rintro e wy ⟨rfl, hby⟩; first | (have n2 := At.below hby nn; have nq := n2; obtain ⟨p1, p2, p3, p4⟩ := nq) | (have n3 := At.below hby (At.new wz 23 rfl (.int .i64 0) (.int .i64 0)); have nq := n3; obtain ⟨p1, p2, p3, p4⟩ := nq) | skip))
          all_goals
            go_wp2_with fail
            go_meet
            case rel =>
              first
              | exact ⟨_, rfl, rfl, ball (below_end (below_end hB9.drew hbz) hby) _, (At.below hby (At.below hbz pA9.drew)).alloc _, (At.below hby (At.below hbz pZ9.drew)).alloc _, At.new wy _ rfl _ _⟩
              | exact ⟨_, rfl, rfl, put_below (below_end (below_end (ball hB9 _).drew hbz) hby) (by omega) _ _, (At.below hby (At.below hbz (pA9.alloc _).drew)).far2 (by omega) _ _, (At.below hby (At.below hbz (pZ9.alloc _).drew)).far2 (by omega) _ _, n2.put _ _⟩
              | exact ⟨_, rfl, rfl, put_below (below_end (ball (below_end hB9.drew hbz) _) hby) (by have := (At.below hbz pA9.drew).lt; omega) _ _, (At.below hby ((At.below hbz pA9.drew).alloc _)).far2 (by have := (At.below hbz pA9.drew).lt; omega) _ _, (At.below hby ((At.below hbz pZ9.drew).alloc _)).far2 (by have := (At.below hbz pZ9.drew).lt; omega) _ _, n3.put _ _⟩
        case rest =>
          clear pA9 pX9 pZ9 hB9
          obtain ⟨V, rfl, rfl, hB10, pA10, pZ10, pV10⟩ := hcut
          obtain ⟨z1, z2, z3, z4⟩ := pZ10
          obtain ⟨v1, v2, v3, v4⟩ := pV10
          cases bz with
          | false =>
            go_wp2
            go_ret
            exact ⟨rfl, hB10⟩
          | true =>
            go_wp2
            go_ret
            exact ⟨rfl, hB10⟩

theorem powers_walk (a b k : Int) (w : World) (h1 : -9223372036854775808 ≤ a) (h2 : a ≤ 9223372036854775807) (h3 : -9223372036854775808 ≤ b) (h4 : b ≤ 9223372036854775807) (kb1 : -9223372036854775808 ≤ k) (kb2 : k ≤ 9223372036854775807) :
    Calls Tryd.prog 4 #[.agg #[.int .i64 a, .int .i64 b], .int .i64 k] w fun e w' => e = .returned (.bool true) ∧ Below w.heap.size w w' := by
  cases ra : Wnum.rightB a b with
  | false =>
    have RA : Hid (Wnum.rightB a b = false) := ra
    clear ra
    go_enter Tryd.func4, Tryd.ntmps4
    go_wp2_with fail
    refine (able_any _).mono ?_
    rintro e w1 ⟨rfl, hb1⟩
    have pA1 : At w1 w.heap.size (.int .i64 a) (.int .i64 b) := At.below hb1 (At.new w _ rfl _ _)
    have hB1 : Below w.heap.size w w1 := by with_reducible repeat (first | exact Below.refl _ _ | refine below_drewN ?_ _ | refine Below.setCell ?_ (by first | (simp; done) | (simp; omega) | omega) _ | refine Below.drew ?_ | refine below_end ?_ (by assumption) | refine ball ?_ _)
    clear hb1
    obtain ⟨a1, a2, a3, a4⟩ := pA1
    go_wp2_with fail
    refine (lright_any a b _ h1 h2 h3 h4).mono ?_
    rintro e w2 ⟨rfl, hb2⟩
    rw [RA.out]
    have hB2 := below_end hB1 hb2
    clear hb2 hB1 a1 a2 a3 a4
    go_wp2_with fail
    refine (able_any _).mono ?_
    rintro e w3 ⟨rfl, hb3⟩
    have hB3 := below_end hB2 hb3
    go_wp2
    go_ret
    exact ⟨rfl, hB3⟩
  | true =>
    obtain ⟨K, eK, hK⟩ := and63 k
    have cn := Wnum.cN_right ra
    refine powers_main a b k _ _ _ _ K _ _ w h1 h2 h3 h4 hK eK ra (rfl : Wnum.oN (some ((Wnum.qu a b) ^ K)) = _) (rfl : Wnum.oD (some ((Wnum.qu a b) ^ K)) = _) (rfl : Wnum.oB (some ((Wnum.qu a b) ^ K)) = _) (rfl : Wnum.oN (Wnum.powO (Wnum.qu a b) (-(K : Int))) = _) (rfl : Wnum.oD (Wnum.powO (Wnum.qu a b) (-(K : Int))) = _) (rfl : Wnum.oB (Wnum.powO (Wnum.qu a b) (-(K : Int))) = _) ?_ ?_ ?_
    · show _ → _
      intro hb
      refine ⟨?_, ?_⟩
      · rw [bne_iff_ne]
        intro e
        have : Wnum.qu a b = 0 := Wnum.qu_eq_zero.2 (by rw [cn]; exact e)
        rw [this] at hb
        have h0 := Wnum.null_pow K
        have hb' : Wnum.okQ ((0 : Rat) ^ K) = false := hb
        rw [h0] at hb'; cases hb'
      · rw [beq_eq_false_iff_ne]
        intro e
        have e' : K = 0 := by omega
        subst e'
        have h0 := Wnum.pow_ok_zero (Wnum.qu a b)
        have hb' : Wnum.okQ ((Wnum.qu a b) ^ 0) = false := hb
        rw [h0] at hb'; cases hb'
    · show _ → _
      intro hb ha
      by_cases e : K = 0
      · left; rw [beq_iff_eq]; omega
      · right
        refine ⟨by rw [beq_eq_false_iff_ne]; omega, ?_⟩
        have : Wnum.qu a b = 0 := Wnum.qu_eq_zero.2 (by rw [cn]; exact ha)
        rw [this, Wnum.powO_none (by omega)]
        rfl
    · show _ → _
      intro hb ha
      exact Wnum.one_over (Wnum.qu_ne (by rw [cn]; exact ha)) hb
end Go.Proofs.YtfilmomndhlmbaaDoor
