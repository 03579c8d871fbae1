/- PlaceWalk: a cursor tells what At does, from the first cell to the last; of a skip it passes as many. -/
import Derived.Test.YtdjhegmkmopnfacDoorPWalkK
import Derived.Test.YtdjhegmkmopnfacDoorPWalkF
import Derived.Laws.BitsLemmas
namespace Go.Proofs.YtdjhegmkmopnfacDoor
open Go.RowKit
set_option linter.unusedVariables false

theorem and24 (n : Int) : bits .and .i64 n 16777215 = n % 16777216 := by
  have h : (BitVec.ofInt 64 16777215).toNat = 2 ^ 24 - 1 := by decide
  have key : (BitVec.ofInt 64 n &&& BitVec.ofInt 64 16777215).toNat = (n % ((2 ^ 64 : Nat) : Int)).toNat % 2 ^ 24 := by
    rw [BitVec.toNat_and, BitVec.toNat_ofInt, h, Nat.and_two_pow_sub_one_eq_mod]
  show IntKind.i64.wrap ((BitVec.ofInt 64 n &&& BitVec.ofInt 64 16777215).toNat : Nat) = n % 16777216
  rw [key, IntKind.wrap_i64]
  omega
theorem and8 (n : Int) : bits .and .i64 n 255 = n % 256 := by
  have h : (BitVec.ofInt 64 255).toNat = 2 ^ 8 - 1 := by decide
  have key : (BitVec.ofInt 64 n &&& BitVec.ofInt 64 255).toNat = (n % ((2 ^ 64 : Nat) : Int)).toNat % 2 ^ 8 := by
    rw [BitVec.toNat_and, BitVec.toNat_ofInt, h, Nat.and_two_pow_sub_one_eq_mod]
  show IntKind.i64.wrap ((BitVec.ofInt 64 n &&& BitVec.ofInt 64 255).toNat : Nat) = n % 256
  rw [key, IntKind.wrap_i64]
  omega
/-- What a cursor over an area holds: of an area that is none nothing is left. -/
theorem over_is (s t l b r : Int) : ∃ o0 o1 o2 o3 o4 : Int, overV s t l b r = [.int .i64 o0, .int .i64 o1, .int .i64 o2, .int .i64 o3, .int .i64 o4, .int .i64 0, .int .i64 (Wpl.sizeA s t l b r)] ∧
    (∀ k, 0 ≤ k → k < Wpl.sizeA s t l b r → Wpl.atOk o0 o1 o2 o3 o4 k = true ∧ Wpl.num o0 o1 o2 o4 k = Wpl.num s t l r k ∧ Wpl.atOk s t l b r k = true) := by
  cases h : Wpl.rightA s t l b r with
  | true =>
    refine ⟨s, t, l, b, r, by unfold overV; rw [h]; rfl, fun k h0 h1 => ?_⟩
    have e : Wpl.atOk s t l b r k = true := Wpl.inB_iff.2 ⟨h0, h1⟩
    exact ⟨e, rfl, e⟩
  | false =>
    have e := Wpl.sizeA_neg h
    refine ⟨0, 0, 0, 0, 0, by unfold overV; rw [h, e]; rfl, fun k h0 h1 => ?_⟩
    omega
theorem AtL.belowSet {W W' : World} {p : Addr} {v : Value} (hb : Below W.heap.size (W.setCell p v) W') {k : Nat} {vs : List Value} (h : AtL (W.setCell p v) k vs) : AtL W' k vs :=
  AtL.below (by rw [World.size_setCell]; exact hb) h
theorem below_endSet {w W w1 : World} {p : Addr} {v : Value} (h0 : Below w.heap.size w (W.setCell p v)) (hb : Below W.heap.size (W.setCell p v) w1) : Below w.heap.size w w1 :=
  x3_below_end h0 (by rw [World.size_setCell]; exact hb)
abbrev WaS (ka kc : Nat) (s t l b r o0 o1 o2 o3 o4 n z : Int) (W : World) : Prop :=
  W.cell? ⟨ka, 0, none⟩ = some (.int .i64 s) ∧ W.cell? ⟨ka, 1, none⟩ = some (.int .i64 t) ∧ W.cell? ⟨ka, 2, none⟩ = some (.int .i64 l) ∧ W.cell? ⟨ka, 3, none⟩ = some (.int .i64 b) ∧ W.cell? ⟨ka, 4, none⟩ = some (.int .i64 r) ∧ W.cell? ⟨kc, 0, none⟩ = some (.int .i64 o0) ∧ W.cell? ⟨kc, 1, none⟩ = some (.int .i64 o1) ∧ W.cell? ⟨kc, 2, none⟩ = some (.int .i64 o2) ∧ W.cell? ⟨kc, 3, none⟩ = some (.int .i64 o3) ∧ W.cell? ⟨kc, 4, none⟩ = some (.int .i64 o4) ∧ W.cell? ⟨kc, 5, none⟩ = some (.int .i64 n) ∧ W.cell? ⟨kc, 6, none⟩ = some (.int .i64 z)
theorem WaS_below {ka kc : Nat} {s t l b r o0 o1 o2 o3 o4 n z : Int} {W W' : World} (hb : Below W.heap.size W W') (h : WaS ka kc  s t l b r o0 o1 o2 o3 o4 n z  W) : WaS ka kc  s t l b r o0 o1 o2 o3 o4 n z  W' :=
  ⟨cell_below hb (h.1), cell_below hb (h.2.1), cell_below hb (h.2.2.1), cell_below hb (h.2.2.2.1), cell_below hb (h.2.2.2.2.1), cell_below hb (h.2.2.2.2.2.1), cell_below hb (h.2.2.2.2.2.2.1), cell_below hb (h.2.2.2.2.2.2.2.1), cell_below hb (h.2.2.2.2.2.2.2.2.1), cell_below hb (h.2.2.2.2.2.2.2.2.2.1), cell_below hb (h.2.2.2.2.2.2.2.2.2.2.1), cell_below hb (h.2.2.2.2.2.2.2.2.2.2.2)⟩
theorem WaS_drew {ka kc : Nat} {s t l b r o0 o1 o2 o3 o4 n z : Int} {W : World} (h : WaS ka kc  s t l b r o0 o1 o2 o3 o4 n z  W) : WaS ka kc  s t l b r o0 o1 o2 o3 o4 n z  W.drew := WaS_below (Below.refl _ _).drew h
theorem WaS_alloc {ka kc : Nat} {s t l b r o0 o1 o2 o3 o4 n z : Int} {W : World} (h : WaS ka kc  s t l b r o0 o1 o2 o3 o4 n z  W) (o : Obj) : WaS ka kc  s t l b r o0 o1 o2 o3 o4 n z  (W.alloc o) := WaS_below ((Below.refl _ _).alloc (Nat.le_refl _) _) h
theorem WaS_mk {ka kc : Nat} {s t l b r o0 o1 o2 o3 o4 n z : Int} {W : World} (h0 : AtL W (ka) [.int .i64 s, .int .i64 t, .int .i64 l, .int .i64 b, .int .i64 r]) (h1 : AtL W (kc) [.int .i64 o0, .int .i64 o1, .int .i64 o2, .int .i64 o3, .int .i64 o4, .int .i64 n, .int .i64 z]) : WaS ka kc  s t l b r o0 o1 o2 o3 o4 n z  W :=
  ⟨h0.2.1 0 _ rfl, h0.2.1 1 _ rfl, h0.2.1 2 _ rfl, h0.2.1 3 _ rfl, h0.2.1 4 _ rfl, h1.2.1 0 _ rfl, h1.2.1 1 _ rfl, h1.2.1 2 _ rfl, h1.2.1 3 _ rfl, h1.2.1 4 _ rfl, h1.2.1 5 _ rfl, h1.2.1 6 _ rfl⟩

set_option maxRecDepth 100000 in
set_option maxHeartbeats 3200000 in
theorem walk_main (s t l b r x m : Int) (w : World) :
    Calls Tryd.prog 3 #[.agg #[.int .i64 s, .int .i64 t, .int .i64 l, .int .i64 b, .int .i64 r], .int .i64 x, .int .i64 m] w fun e w' => e = .returned (.bool true) ∧ Below w.heap.size w w' := by
  have O := fun w => over_any s t l b r w
  obtain ⟨o0, o1, o2, o3, o4, e1, HO⟩ := over_is s t l b r
  rw [e1] at O
  clear e1
  have hz := Wpl.sizeA_le s t l b r
  have SZ := fun w => x3_size_any s t l b r w
  have AT := fun k w => at_any s t l b r k w
  have AF : Hid (∀ k, Wpl.sizeA s t l b r ≤ k → Wpl.atOk s t l b r k = false ∧ Wpl.atV s t l b r k = ⟨0, 0, 0⟩) := fun k hk => by
    have e : Wpl.atOk s t l b r k = false := Wpl.inB_not.2 (by omega)
    exact ⟨e, by unfold Wpl.atV; rw [e]; rfl⟩
  have HOh : Hid (∀ k, 0 ≤ k → k < Wpl.sizeA s t l b r → Wpl.atOk o0 o1 o2 o3 o4 k = true ∧ Wpl.num o0 o1 o2 o4 k = Wpl.num s t l r k ∧ Wpl.atOk s t l b r k = true) := HO
  clear HO
  have x24 := and24 x
  have m8 := and8 m
  generalize Wpl.sizeA s t l b r = z at *
  have xb : 0 ≤ x % 16777216 ∧ x % 16777216 < 16777216 := by omega
  have mb : 0 ≤ m % 256 ∧ m % 256 < 256 := by omega
  generalize x % 16777216 = X at *
  generalize m % 256 = M at *
  go_enter Tryd.func3, Tryd.ntmps3
  go_wp2_with fail
  refine (x3_able_any _).mono ?_
  rintro e w1 ⟨rfl, hb1⟩
  have pa : AtL w1 w.heap.size [.int .i64 s, .int .i64 t, .int .i64 l, .int .i64 b, .int .i64 r] := AtL.below hb1 (AtL.new0 w _ _)
  have hB1 : Below w.heap.size w w1 := by with_reducible repeat (first | exact Below.refl _ _ | refine x3_below_drewN ?_ _ | refine Below.setCell ?_ (by first | (simp; done) | (simp; omega) | omega) _ | refine Below.drew ?_ | refine x3_below_end ?_ (by assumption) | refine x3_ball ?_ _)
  clear hb1
  obtain ⟨a0, a1, a2, a3, a4⟩ := pa.f5
  go_wp2_with fail
  refine (O _).mono ?_
  rintro e w2 ⟨rfl, hb2⟩
  replace pa := AtL.below hb2 pa
  have hB2 := x3_below_end hB1 hb2
  clear hb2 hB1 a0 a1 a2 a3 a4 O
  go_wp2_with fail
  have hlt := pa.lt
  have pc := AtL.new0 w2 28 [.int .i64 o0, .int .i64 o1, .int .i64 o2, .int .i64 o3, .int .i64 o4, .int .i64 0, .int .i64 z]
  replace pa := AtL.alloc pa (.cells #[.int .i64 o0, .int .i64 o1, .int .i64 o2, .int .i64 o3, .int .i64 o4, .int .i64 0, .int .i64 z] 28)
  have hB3 := x3_ball hB2 (.cells #[.int .i64 o0, .int .i64 o1, .int .i64 o2, .int .i64 o3, .int .i64 o4, .int .i64 0, .int .i64 z] 28)
  have hkc : w.heap.size ≤ w2.heap.size := hB2.size
  have hne : w2.heap.size ≠ w.heap.size := by omega
  clear hB2 hlt
  generalize w2.heap.size = kc at *
  generalize w2.alloc (.cells #[.int .i64 o0, .int .i64 o1, .int .i64 o2, .int .i64 o3, .int .i64 o4, .int .i64 0, .int .i64 z] 28) = w3 at *
  generalize hN : skipN X 0 z = N
  have SK := skip_any kc X o0 o1 o2 o3 o4 0 z w3 pc (by omega) (by omega) (by omega)
  rw [hN, Int.zero_add] at SK
  have EN : Hid (N = min X z) := by show _ = _; rw [← hN]; unfold skipN; omega
  have hN0 : 0 ≤ N ∧ N ≤ z := by rw [EN.out]; omega
  clear hN
  refine SK.mono ?_
  rintro e w4 ⟨rfl, hb4⟩
  replace pa := AtL.belowSet hb4 (AtL.far pa hne 5 (.int .i64 N))
  replace pc := AtL.belowSet hb4 (AtL.set pc 5 (.int .i64 N))
  have hB4 := below_endSet (hB3.setCell (p := ⟨kc, 5, none⟩) hkc (.int .i64 N)) hb4
  clear hb4 SK hB3
  change AtL w4 kc [.int .i64 o0, .int .i64 o1, .int .i64 o2, .int .i64 o3, .int .i64 o4, .int .i64 N, .int .i64 z] at pc
  go_upto_region 6 with fail
  go_cut [44] (fun sc wx => sc = .bool false ∧ Below w.heap.size w wx ∧ AtL wx w.heap.size [.int .i64 s, .int .i64 t, .int .i64 l, .int .i64 b, .int .i64 r] ∧ AtL wx kc [.int .i64 o0, .int .i64 o1, .int .i64 o2, .int .i64 o3, .int .i64 o4, .int .i64 N, .int .i64 z])
  case first =>
    have hS := WaS_mk pa pc
    have LF := fun w h => left_any kc o0 o1 o2 o3 o4 N z w h hN0.1 hN0.2 (by omega)
    have PS := fun w h => passed_any kc o0 o1 o2 o3 o4 N z w h
    have hX : N = if z < X then z else X := by rw [EN.out]; split <;> omega
    clear EN
    by_cases hc : z < X
    · rw [if_pos hc] at hX
      subst hX
      have hw : IntKind.i64.wrap 0 = 0 := IntWalk.i64_in _ (by omega)
      go_region_held3 (WaS w.heap.size kc s t l b r o0 o1 o2 o3 o4 N N)
        (with_reducible first | exact hS | assumption | exact WaS_drew hS | exact WaS_below hb (by assumption))
        (first
        | (go_at_call 7; refine (SZ _).mono ?_; rintro e w5 ⟨rfl, hb⟩; (with_reducible first | replace pc := AtL.below hb pc | replace pc := AtL.below hb (AtL.drew pc)); (with_reducible first | replace pa := AtL.below hb pa | replace pa := AtL.below hb (AtL.drew pa)); (with_reducible first | replace hB4 := x3_below_end hB4 hb | replace hB4 := x3_below_end hB4.drew hb))
        | (go_at_call 8; refine (PS _ (by with_reducible exact pc)).mono ?_; rintro e w5 ⟨rfl, hb⟩; replace pc := AtL.below hb pc; replace pa := AtL.below hb pa; replace hB4 := x3_below_end hB4 hb)
        | (go_at_call 9; refine (LF _ (by with_reducible exact pc)).mono ?_; rintro e w5 ⟨rfl, hb⟩; replace pc := AtL.below hb pc; replace pa := AtL.below hb pa; replace hB4 := x3_below_end hB4 hb))
      all_goals
        go_wp2_with fail
        go_meet
        case rel => exact ⟨by simp, hB4, pa, pc⟩
    · rw [if_neg hc] at hX
      subst hX
      have hif : (if z < N then z else N) = N := if_neg hc
      have hw : IntKind.i64.wrap (z - N) = z - N := IntWalk.i64_in _ (by omega)
      go_region_held3 (WaS w.heap.size kc s t l b r o0 o1 o2 o3 o4 N z)
        (with_reducible first | exact hS | assumption | exact WaS_drew hS | exact WaS_below hb (by assumption))
        (first
        | (go_at_call 7; refine (SZ _).mono ?_; rintro e w5 ⟨rfl, hb⟩; (with_reducible first | replace pc := AtL.below hb pc | replace pc := AtL.below hb (AtL.drew pc)); (with_reducible first | replace pa := AtL.below hb pa | replace pa := AtL.below hb (AtL.drew pa)); (with_reducible first | replace hB4 := x3_below_end hB4 hb | replace hB4 := x3_below_end hB4.drew hb))
        | (go_at_call 8; refine (PS _ (by with_reducible exact pc)).mono ?_; rintro e w5 ⟨rfl, hb⟩; replace pc := AtL.below hb pc; replace pa := AtL.below hb pa; replace hB4 := x3_below_end hB4 hb)
        | (go_at_call 9; refine (LF _ (by with_reducible exact pc)).mono ?_; rintro e w5 ⟨rfl, hb⟩; replace pc := AtL.below hb pc; replace pa := AtL.below hb pa; replace hB4 := x3_below_end hB4 hb))
      all_goals
        go_wp2_with fail
        go_meet
        case rel => exact ⟨by simp, hB4, pa, pc⟩
  case rest =>
    clear pa pc hB4 SZ
    obtain ⟨rfl, hB, pa, pc⟩ := hcut
    go_wp2_with fail
    go_loopw [9] (fun i wr => ∃ j : Nat, i = .int .i64 j ∧ (j : Int) ≤ M ∧ N + j ≤ z ∧ Below w.heap.size w wr ∧ AtL wr w.heap.size [.int .i64 s, .int .i64 t, .int .i64 l, .int .i64 b, .int .i64 r] ∧ AtL wr kc [.int .i64 o0, .int .i64 o1, .int .i64 o2, .int .i64 o3, .int .i64 o4, .int .i64 (N + j), .int .i64 z]) (fun i _ => (M - intOf i).toNat)
    case atStart => exact ⟨0, rfl, by simp; omega, by simp; omega, hB, pa, by simpa using pc⟩
    case round =>
      clear pa pc hB
      obtain ⟨j, rfl, hj, hjz, hB, pa, pc⟩ := hrel
      by_cases hjM : (j : Int) < M
      · obtain ⟨a0, a1, a2, a3, a4⟩ := pa.f5
        by_cases hlt : N + j < z
        · obtain ⟨h1, h2, h3⟩ := HOh.out (N + j) (by omega) hlt
          have C1 := fun w => AT (N + j) w
          rw [h3, show Wpl.atV s t l b r (N + j) = Wpl.num s t l r (N + j) by unfold Wpl.atV; rw [h3]; rfl] at C1
          have C2 := fun w h => peek_any kc o0 o1 o2 o3 o4 (N + j) z w h (by omega) (by omega) (by omega) (fun _ => h1)
          have C3 := fun w h => next_any kc o0 o1 o2 o3 o4 (N + j) z w h (by omega) (by omega) (by omega) (fun _ => h1)
          have eV : curV o0 o1 o2 o4 (N + j) z = Wpl.num s t l r (N + j) := by unfold curV; rw [if_pos hlt, h2]
          have eN : nextN (N + j) z = N + ((j + 1 : Nat) : Int) := by unfold nextN; rw [if_pos hlt]; omega
          rw [decide_eq_true hlt, eV] at C2
          rw [decide_eq_true hlt, eV, eN] at C3
          clear eV eN h1 h2 h3
          generalize Wpl.num s t l r (N + j) = U at *
          obtain ⟨u0, u1, u2⟩ := U
          go_wp2_with fail
          refine (C1 _).mono ?_
          rintro e w6 ⟨rfl, hb6⟩
          replace pa := AtL.below hb6 pa
          replace pc := AtL.below hb6 pc
          have hB6 := x3_below_end hB hb6
          clear hb6 hB a0 a1 a2 a3 a4
          go_wp2_with fail
          refine (C2 _ (AtL.alloc pc _)).mono ?_
          rintro e w7 ⟨rfl, hb7⟩
          have l6 := pc.lt
          replace pa := AtL.below hb7 (AtL.alloc pa _)
          replace pc := AtL.below hb7 (AtL.alloc pc _)
          have px : AtL w7 w6.heap.size [.int .i64 u0, .int .i64 u1, .int .i64 u2] := AtL.below hb7 (AtL.new0 w6 _ _)
          have hB7 := x3_below_end (x3_ball hB6 _) hb7
          have q6 := hB6.size
          clear hb7 hB6
          generalize w6.heap.size = kx at *
          go_wp2_with fail
          refine (C3 _ (AtL.alloc pc _)).mono ?_
          rintro e w8 ⟨rfl, hb8⟩
          have l7 := pc.lt
          replace pa := AtL.belowSet hb8 (AtL.far (AtL.alloc pa _) hne 5 _)
          replace pc := AtL.belowSet hb8 (AtL.set (AtL.alloc pc _) 5 _)
          replace px := AtL.belowSet hb8 (AtL.far (AtL.alloc px _) (show kc ≠ kx by omega) 5 _)
          have pp : AtL w8 w7.heap.size [.int .i64 u0, .int .i64 u1, .int .i64 u2] := AtL.belowSet hb8 (AtL.far (AtL.new0 w7 _ _) (show kc ≠ w7.heap.size by omega) 5 _)
          have hB8 := below_endSet ((x3_ball hB7 _).setCell (p := ⟨kc, 5, none⟩) hkc _) hb8
          change AtL w8 kc [.int .i64 o0, .int .i64 o1, .int .i64 o2, .int .i64 o3, .int .i64 o4, .int .i64 (N + ((j + 1 : Nat) : Int)), .int .i64 z] at pc
          clear hb8 hB7
          generalize w7.heap.size = kp at *
          obtain ⟨x0, x1, x2⟩ := px.f3
          obtain ⟨p0, p1, p2⟩ := pp.f3
          have lx := px.lt
          have lp := pp.lt
          go_wp2_with fail
          go_roundw
          case rel => exact ⟨j + 1, by go_num, by omega, by omega, x3_ball hB8 _, AtL.alloc pa _, AtL.alloc pc _⟩
          case measure => simp [intOf]; omega
        · have C1 := fun w => AT (N + j) w
          have hf := AF.out (N + j) (by omega)
          rw [hf.1, hf.2] at C1
          have C2 := fun w h => peek_any kc o0 o1 o2 o3 o4 (N + j) z w h (by omega) (by omega) (by omega) (fun h => absurd h hlt)
          have C3 := fun w h => next_any kc o0 o1 o2 o3 o4 (N + j) z w h (by omega) (by omega) (by omega) (fun h => absurd h hlt)
          have eV : curV o0 o1 o2 o4 (N + j) z = ⟨0, 0, 0⟩ := by unfold curV; rw [if_neg hlt]; rfl
          have eN : nextN (N + j) z = N + j := by unfold nextN; rw [if_neg hlt]
          rw [decide_eq_false hlt, eV] at C2
          rw [decide_eq_false hlt, eV, eN] at C3
          clear eV eN hf
          go_wp2_with fail
          refine (C1 _).mono ?_
          rintro e w6 ⟨rfl, hb6⟩
          replace pc := AtL.below hb6 pc
          have hB6 := x3_below_end hB hb6
          clear hb6 hB a0 a1 a2 a3 a4
          go_wp2_with fail
          refine (C2 _ (AtL.alloc pc _)).mono ?_
          rintro e w7 ⟨rfl, hb7⟩
          have l6 := pc.lt
          replace pc := AtL.below hb7 (AtL.alloc pc _)
          have px : AtL w7 w6.heap.size [.int .i64 0, .int .i64 0, .int .i64 0] := AtL.below hb7 (AtL.new0 w6 _ _)
          have hB7 := x3_below_end (x3_ball hB6 _) hb7
          clear hb7 hB6
          generalize w6.heap.size = kx at *
          go_wp2_with fail
          refine (C3 _ (AtL.alloc pc _)).mono ?_
          rintro e w8 ⟨rfl, hb8⟩
          have l7 := pc.lt
          replace px := AtL.belowSet hb8 (AtL.far (AtL.alloc px _) (show kc ≠ kx by omega) 5 _)
          have pp : AtL w8 w7.heap.size [.int .i64 0, .int .i64 0, .int .i64 0] := AtL.belowSet hb8 (AtL.far (AtL.new0 w7 _ _) (show kc ≠ w7.heap.size by omega) 5 _)
          have hB8 := below_endSet ((x3_ball hB7 _).setCell (p := ⟨kc, 5, none⟩) hkc _) hb8
          clear hb8 hB7
          generalize w7.heap.size = kp at *
          obtain ⟨x0, x1, x2⟩ := px.f3
          obtain ⟨p0, p1, p2⟩ := pp.f3
          have lx := px.lt
          have lp := pp.lt
          go_wp2
          go_ret
          exact ⟨rfl, x3_ball hB8 _⟩
      · have hj' : ¬ (j : Int) < M := hjM
        go_wp2
        go_ret
        exact ⟨rfl, hB⟩
end Go.Proofs.YtdjhegmkmopnfacDoor
