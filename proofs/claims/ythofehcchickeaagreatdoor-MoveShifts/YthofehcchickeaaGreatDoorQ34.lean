/- MRefB. -/
import Derived.Test.YthofehcchickeaaGreatDoorQ33
namespace Go.Proofs.YthofehcchickeaaGreatDoor
open Go.RowKit Go.Shelf
set_option linter.unusedVariables false
set_option maxRecDepth 100000 in
theorem rshift_not (av : Option Addr) (cap : Nat) (L : List Wt.Nd) (x y : Int) (w : World) (hL : L.length ≤ 9223372036854775807) (hF : ∀ n ∈ L, Wt.FitN n) (hr : RdN w av L) (hc : ¬ Wt.check L = 0) :
    Calls Tryz.prog 7 #[.slice av L.length cap, .int .i64 x, .int .i64 y] w fun e w' => e = .returned (.tuple #[.slice none 0 0, .int .i64 (Wt.check L)]) ∧ Below w.heap.size w w' := by
  have CK := rcheck_any av cap L w hL hF hr
  generalize Wt.check L = c at *
  have hci : (c != 0) = true := by simp [hc]
  go_enter Tryz.func7, Tryz.ntmps7
  go_wp2_with fail
  refine CK.mono ?_
  rintro e w1 ⟨rfl, hb⟩
  go_wp2
  go_ret2
  exact ⟨rfl, hb⟩
theorem blost (w : World) : (Instr.build 30 #[(0, .int .i64 1), (1, .agg #[.int .i64 4, .int .i64 0, .int .i64 0, .string ⟨#[]⟩, .bool false, .int .i64 3])]).run Tryz.prog w = .ok (.agg (nd20 lostN).toArray) w := by kernel_rfl
theorem wp_blost {op : Oper} {a : Act} {w : World} {K : Act → World → Prop} {Q : Exit → Act → World → Prop} (y z : Operand) (ho : op.op = .build 30 #[(0, y), (1, z)]) (hy : a.eval y = .int .i64 1) (hz : a.eval z = .agg #[.int .i64 4, .int .i64 0, .int .i64 0, .string ⟨#[]⟩, .bool false, .int .i64 3])
    (h : K (a.put op.dst (.agg (nd20 lostN).toArray)) w) : op.wp Tryz.prog a w K Q := by
  unfold Oper.wp execOp
  simp only [ho, List.map_toArray, List.map_cons, List.map_nil, hy, hz, Sem.run_bind, Sem.run_pure, Result.andThen_ok, blost]
  exact h
theorem wpList_blost {ops : Array Oper} {rest : List Oper} {op : Oper} {a : Act} {w : World} {Q : Exit → Act → World → Prop} (hgd : op.guard = none) (y z : Operand) (ho : op.op = .build 30 #[(0, y), (1, z)]) (hy : a.eval y = .int .i64 1) (hz : a.eval z = .agg #[.int .i64 4, .int .i64 0, .int .i64 0, .string ⟨#[]⟩, .bool false, .int .i64 3])
    (h : wpList Tryz.prog ops Q rest (a.put op.dst (.agg (nd20 lostN).toArray)) w) : wpList Tryz.prog ops Q (op :: rest) a w :=
  wpList_plain hgd fun _ hK => wp_blost y z ho hy hz (hK _ _ h)
set_option maxRecDepth 100000 in
set_option maxHeartbeats 8000000 in
theorem rshift_ok (av : Option Addr) (cap : Nat) (L : List Wt.Nd) (x y : Int) (w : World) (hF : ∀ n ∈ L, Wt.FitN n) (hr : RdN w av L) (hc : Wt.check L = 0) (hx : -9223372036854775808 ≤ x ∧ x ≤ 9223372036854775807) (hy : -9223372036854775808 ≤ y ∧ y ≤ 9223372036854775807) :
    Calls Tryz.prog 7 #[.slice av L.length cap, .int .i64 x, .int .i64 y] w fun e w' => (∃ v, e = .returned (.tuple #[v, .int .i64 0]) ∧ OwnN w' w.heap.size v (L.map (mvN x y))) ∧ Below w.heap.size w w' := by
  obtain ⟨h256, d, hone, -⟩ := check_zero hc
  have hpos : 0 < L.length := by have := one_loc _ _ _ _ hone; omega
  obtain ⟨bb, off, rfl, -⟩ := hr 0 hpos
  have CK := rcheck_any (some ⟨bb, off, none⟩) cap L w (by omega) hF hr
  rw [hc] at CK
  have HR : Hid (RdN w (some ⟨bb, off, none⟩) L) := hr
  have HRT : Hid (∀ i (hi : i < L.length), Wt.right L[i] = true) := check_right hc
  have H256 : True → L.length ≤ 256 := fun _ => h256
  have HX : Hid (∀ (a : Wt.Rf) (w : World), Wt.rfOk a = true → Calls Tryz.prog 17 #[.agg (rf5 a).toArray, .int .i64 x, .int .i64 y] w fun e w' => e = .returned (.tuple #[.agg (rf5 (rmvR x y a)).toArray, .bool (rokR x y a)]) ∧ Below w.heap.size w w') := fun a w h => rref_any x y a w h hx hy
  clear hone hc hF hr h256 hx hy
  go_enter Tryz.func7, Tryz.ntmps7
  go_wp2_with fail
  refine CK.mono ?_
  rintro e w1 ⟨rfl, hb1⟩
  have pZ : AtL (w1.alloc (.cells zC 30)) w1.heap.size (nd20 zeroN) := AtL.new0 w1 _ _
  have tZ : (w1.alloc (.cells zC 30)).there w1.heap.size 0 (nd20 lostN).toArray.size := pZ.there
  have pL : AtL ((w1.alloc (.cells zC 30)).setCells w1.heap.size 0 (nd20 lostN)) w1.heap.size (nd20 lostN) := pZ.setAll rfl
  have hbl : Below w1.heap.size w1 ((w1.alloc (.cells zC 30)).setCells w1.heap.size 0 (nd20 lostN)) := bset (ball (Below.refl _ w1) _) (Nat.le_refl _) _ 0
  have hB2 := below_end hb1 hbl
  clear pZ CK
  go_upto_region 5 with (first
    | (with_reducible refine wpList_blost (by rfl) (.const (.int .i64 1)) (.tmp 20) (by rfl) (by rfl) (by rfl) ?_)
    | ((with_reducible refine wpList_store_mid ?_ 30 (.tmp 9) (.tmp 21) ?_ (w1.heap.size) 0 (nd20 lostN).toArray ?_ ?_ ?_ ?_ ?_ ?_); rfl; rfl; rfl; rfl; exact tZ; kernel_rfl; exact one20 _))
  generalize (w1.alloc (.cells zC 30)).setCells w1.heap.size 0 (nd20 lostN).toArray.toList = W2 at *
  obtain ⟨kl, hkl⟩ : ∃ kl, w1.heap.size = kl := ⟨_, rfl⟩
  rw [hkl] at pL ⊢
  clear tZ hbl hb1 hkl
  have HL0 : Hid (AtL W2 kl (nd20 lostN)) := pL
  have HR2 : Hid (RdN W2 (some ⟨bb, off, none⟩) L) := HR.out.below hB2
  clear pL HR
  go_wp2_with fail
  go_loopg [10, 11] (L.length) (fun gk a b wr => ∃ i : Nat, b = .int .i64 i ∧ gk = L.length - i ∧ i ≤ L.length ∧ Hid (OwnN wr W2.heap.size a ((L.take i).map (mvN x y))) ∧ Below W2.heap.size W2 wr)
  case atStart => exact ⟨0, rfl, rfl, Nat.zero_le _, World.ownsRow_nil _ _ _ _, Below.refl _ _⟩
  case round =>
    obtain ⟨i, rfl, hg, hi, HO, hB⟩ := hrel
    by_cases hlt : i < L.length
    · have hli : (i : Int) < (L.length : Int) := by omega
      have hx0 := (HR2.out.below hB).at i hlt
      have hrt := HRT.out i hlt
      have HTK : Hid ((L.take (i + 1)).map (mvN x y) = (L.take i).map (mvN x y) ++ [mvN x y L[i]]) := by show _ = _; rw [List.take_succ_eq_append_getElem hlt, List.map_append]; rfl
      generalize L[i] = q at *
      have HAL : True → ((L.take i).map (mvN x y)).length + 1 ≤ 799644820179 := fun _ => by have := H256 trivial; simp; omega
      generalize (L.take i).map (mvN x y) = A at *
      have hi256 : (i : Int) ≤ 256 := by have := H256 trivial; omega
      have pZ : AtL (wr.alloc (.cells zC 30)) wr.heap.size (nd20 zeroN) := AtL.new0 wr _ _
      have tZ : (wr.alloc (.cells zC 30)).there wr.heap.size 0 (nd20 q).toArray.size := pZ.there
      have pN : AtL ((wr.alloc (.cells zC 30)).setCells wr.heap.size 0 (nd20 q)) wr.heap.size (nd20 q) := pZ.setAll rfl
      have hbr : Below wr.heap.size wr ((wr.alloc (.cells zC 30)).setCells wr.heap.size 0 (nd20 q)) := bset (ball (Below.refl _ wr) _) (Nat.le_refl _) _ 0
      clear pZ HR2 HRT
      obtain ⟨n2, hn2⟩ : ∃ n2, mvN x y q = n2 := ⟨_, rfl⟩
      rw [hn2] at HTK
      have HN2 : Hid (mvN x y q = n2) := hn2
      clear hn2
      by_cases hk2 : q.k = 2
      · have hk := hk2
        have hA := (right_cell hrt hk2).1
        have E1 := rokR_eq (x := x) (y := y) hA
        cases hq : okR x y q.a with
        | true =>
          have HM : Hid ((⟨q.k, q.v, q.op, q.nm, q.ar, rmvR x y q.a, q.b⟩ : Wt.Nd) = n2) := by show _ = _; rw [← HN2.out, rmvR_eq hA hq]; unfold mvN; rw [if_pos hk2, hq]; rfl
          rw [hq] at E1
          go_upto_region 12 with (first
            | ((with_reducible refine wpList_load_mid (cs := nd20 q) ?_ 30 (.tmp 30) ?_ (bb) (off + i * 20) ?_ _ ?_ Tryz.underlying30 ?_ ?_ ?_); rfl; rfl; rfl; exact hx0; rfl; kernel_rfl)
            | ((with_reducible refine wpList_store_mid ?_ 30 (.tmp 12) (.tmp 31) ?_ (wr.heap.size) 0 (nd20 q).toArray ?_ ?_ ?_ ?_ ?_ ?_); rfl; rfl; rfl; rfl; exact tZ; kernel_rfl; exact one20 _))
          generalize (wr.alloc (.cells zC 30)).setCells wr.heap.size 0 (nd20 q).toArray.toList = W3 at *
          clear tZ hx0
          have n0 : W3.cell? ⟨wr.heap.size, 0, none⟩ = some (.int .i64 2) := by first | exact pN.2.1 0 _ rfl | (rw [← hk]; exact pN.2.1 0 _ rfl)
          go_upto_region 13 with fail
          have rA := nd_a pN
          go_wp2_with ((with_reducible refine wpList_load_mid (cs := rf5 q.a) ?_ 28 (.tmp 41) ?_ (wr.heap.size) 10 ?_ _ ?_ Tryz.underlying28 ?_ ?_ ?_); rfl; rfl; rfl; exact rA; rfl; kernel_rfl)
          have CX := fun w => HX.out q.a w hA
          rw [E1] at CX
          refine (CX _).mono ?_
          rintro e vW4 ⟨rfl, hb⟩
          replace hbr := below_end hbr hb
          replace pN := AtL.below hb pN
          generalize rmvR x y q.a = a2 at *
          have sT : vW4.there wr.heap.size 10 (rf5 a2).toArray.size := pN.thereSub 10 5 (by show 10 + 5 ≤ 20; omega)
          replace pN := nd_setA pN a2
          replace hbr := bset hbr (Nat.le_refl _) (rf5 a2) 10
          clear hb rA CX E1
          go_upto_region 14 with ((with_reducible refine wpList_store_mid ?_ 28 (.tmp 48) (.tmp 46) ?_ (wr.heap.size) 10 (rf5 a2).toArray ?_ ?_ ?_ ?_ ?_ ?_); rfl; rfl; rfl; rfl; exact sT; kernel_rfl; exact one5 _)
          generalize vW4.setCells wr.heap.size 10 (rf5 a2).toArray.toList = W4 at *
          clear sT
          rw [HM.out] at pN
          have n2k : n2.k = 2 := by rw [← HM.out]; exact hk2
          have n0' : W4.cell? ⟨wr.heap.size, 0, none⟩ = some (.int .i64 2) := by rw [← n2k]; exact pN.2.1 0 _ rfl
          clear n0
          go_upto_region 18 with fail
          clear n0'
          have rN := AtL.range pN
          have own := HO.out.below hbr
          have hBW := below_end hB hbr
          clear pN HO hbr hB
          go_wp2_with (first
            | ((with_reducible refine wpList_load_mid (cs := nd20 n2) ?_ 30 (.tmp 12) ?_ (wr.heap.size) 0 ?_ _ ?_ Tryz.underlying30 ?_ ?_ ?_); rfl; rfl; rfl; exact rN; rfl; kernel_rfl)
            | ((with_reducible refine wpList_bs1n ?_ (.tmp 69) ?_ n2 ?_ ?_); rfl; rfl; rfl)
            | (at_builtin; refine wpList_appN (by rfl) (.tmp 68) (.tmp 70) (by rfl) W2 (W4.alloc (.cells (nd20 n2).toArray 30)) (ball hBW _) _ A (by rfl) (own.below ((Below.refl _ _).alloc (Nat.le_refl _) _)) (some ⟨W4.heap.size, 0, none⟩) [n2] 1 (by rfl) (own_one W4 n2).rd Nat.one_pos HAL ?_))
          intro v9 w9 own9 hb9
          have HO9 : Hid (OwnN w9 W2.heap.size v9 ((L.take (i + 1)).map (mvN x y))) := by show OwnN _ _ _ _; rw [HTK.out]; exact own9
          clear own9 own
          go_wp2_with fail
          go_roundg (L.length - (i + 1))
          case rel => exact ⟨i + 1, by simp, rfl, hlt, HO9, hb9⟩
          case measure => omega
        | false =>
          have HM : Hid (lostN = n2) := by show _ = _; rw [← HN2.out]; unfold mvN; rw [if_pos hk2, hq]; rfl
          rw [hq] at E1
          go_upto_region 12 with (first
            | ((with_reducible refine wpList_load_mid (cs := nd20 q) ?_ 30 (.tmp 30) ?_ (bb) (off + i * 20) ?_ _ ?_ Tryz.underlying30 ?_ ?_ ?_); rfl; rfl; rfl; exact hx0; rfl; kernel_rfl)
            | ((with_reducible refine wpList_store_mid ?_ 30 (.tmp 12) (.tmp 31) ?_ (wr.heap.size) 0 (nd20 q).toArray ?_ ?_ ?_ ?_ ?_ ?_); rfl; rfl; rfl; rfl; exact tZ; kernel_rfl; exact one20 _))
          generalize (wr.alloc (.cells zC 30)).setCells wr.heap.size 0 (nd20 q).toArray.toList = W3 at *
          clear tZ hx0
          have n0 : W3.cell? ⟨wr.heap.size, 0, none⟩ = some (.int .i64 2) := by first | exact pN.2.1 0 _ rfl | (rw [← hk]; exact pN.2.1 0 _ rfl)
          go_upto_region 13 with fail
          have rA := nd_a pN
          go_wp2_with ((with_reducible refine wpList_load_mid (cs := rf5 q.a) ?_ 28 (.tmp 41) ?_ (wr.heap.size) 10 ?_ _ ?_ Tryz.underlying28 ?_ ?_ ?_); rfl; rfl; rfl; exact rA; rfl; kernel_rfl)
          have CX := fun w => HX.out q.a w hA
          rw [E1] at CX
          refine (CX _).mono ?_
          rintro e vW4 ⟨rfl, hb⟩
          replace hbr := below_end hbr hb
          replace pN := AtL.below hb pN
          generalize rmvR x y q.a = a2 at *
          have sT : vW4.there wr.heap.size 10 (rf5 a2).toArray.size := pN.thereSub 10 5 (by show 10 + 5 ≤ 20; omega)
          replace pN := nd_setA pN a2
          replace hbr := bset hbr (Nat.le_refl _) (rf5 a2) 10
          clear hb rA CX E1
          go_upto_region 14 with ((with_reducible refine wpList_store_mid ?_ 28 (.tmp 48) (.tmp 46) ?_ (wr.heap.size) 10 (rf5 a2).toArray ?_ ?_ ?_ ?_ ?_ ?_); rfl; rfl; rfl; rfl; exact sT; kernel_rfl; exact one5 _)
          generalize vW4.setCells wr.heap.size 10 (rf5 a2).toArray.toList = W4 at *
          clear sT
          have n0' : W4.cell? ⟨wr.heap.size, 0, none⟩ = some (.int .i64 2) := by rw [← hk2]; exact pN.2.1 0 _ rfl
          clear n0
          have pLL := HL0.out.below (below_end hB hbr)
          have rL := AtL.range pLL
          have tN : W4.there wr.heap.size 0 (nd20 lostN).toArray.size := pN.there
          replace pN := pN.setAll (vs := nd20 lostN) rfl
          replace hbr := bset hbr (Nat.le_refl _) (nd20 lostN) 0
          go_upto_region 18 with (first
            | ((with_reducible refine wpList_load_mid (cs := nd20 lostN) ?_ 30 (.tmp 9) ?_ (kl) 0 ?_ _ ?_ Tryz.underlying30 ?_ ?_ ?_); rfl; rfl; rfl; exact rL; rfl; kernel_rfl)
            | ((with_reducible refine wpList_store_mid ?_ 30 (.tmp 12) (.tmp 67) ?_ (wr.heap.size) 0 (nd20 lostN).toArray ?_ ?_ ?_ ?_ ?_ ?_); rfl; rfl; rfl; rfl; exact tN; kernel_rfl; exact one20 _))
          generalize W4.setCells wr.heap.size 0 (nd20 lostN).toArray.toList = W6 at *
          clear tN rL pLL
          rw [HM.out] at pN
          clear n0'
          have rN := AtL.range pN
          have own := HO.out.below hbr
          have hBW := below_end hB hbr
          clear pN HO hbr hB
          go_wp2_with (first
            | ((with_reducible refine wpList_load_mid (cs := nd20 n2) ?_ 30 (.tmp 12) ?_ (wr.heap.size) 0 ?_ _ ?_ Tryz.underlying30 ?_ ?_ ?_); rfl; rfl; rfl; exact rN; rfl; kernel_rfl)
            | ((with_reducible refine wpList_bs1n ?_ (.tmp 69) ?_ n2 ?_ ?_); rfl; rfl; rfl)
            | (at_builtin; refine wpList_appN (by rfl) (.tmp 68) (.tmp 70) (by rfl) W2 (W6.alloc (.cells (nd20 n2).toArray 30)) (ball hBW _) _ A (by rfl) (own.below ((Below.refl _ _).alloc (Nat.le_refl _) _)) (some ⟨W6.heap.size, 0, none⟩) [n2] 1 (by rfl) (own_one W6 n2).rd Nat.one_pos HAL ?_))
          intro v9 w9 own9 hb9
          have HO9 : Hid (OwnN w9 W2.heap.size v9 ((L.take (i + 1)).map (mvN x y))) := by show OwnN _ _ _ _; rw [HTK.out]; exact own9
          clear own9 own
          go_wp2_with fail
          go_roundg (L.length - (i + 1))
          case rel => exact ⟨i + 1, by simp, rfl, hlt, HO9, hb9⟩
          case measure => omega
      by_cases hk3 : q.k = 3
      · have hk := hk3
        obtain ⟨hA, hBk, -⟩ := right_area hrt hk3
        have E1 := rokR_eq (x := x) (y := y) hA
        have E2 := rokR_eq (x := x) (y := y) hBk
        cases hqa : okR x y q.a with
        | true =>
          cases hqb : okR x y q.b with
          | true =>
            have HM : Hid ((⟨q.k, q.v, q.op, q.nm, q.ar, rmvR x y q.a, rmvR x y q.b⟩ : Wt.Nd) = n2) := by show _ = _; rw [← HN2.out, rmvR_eq hA hqa, rmvR_eq hBk hqb]; unfold mvN; rw [if_neg hk2, if_pos hk3, hqa, hqb]; rfl
            rw [hqa] at E1
            rw [hqb] at E2
            go_upto_region 12 with (first
              | ((with_reducible refine wpList_load_mid (cs := nd20 q) ?_ 30 (.tmp 30) ?_ (bb) (off + i * 20) ?_ _ ?_ Tryz.underlying30 ?_ ?_ ?_); rfl; rfl; rfl; exact hx0; rfl; kernel_rfl)
              | ((with_reducible refine wpList_store_mid ?_ 30 (.tmp 12) (.tmp 31) ?_ (wr.heap.size) 0 (nd20 q).toArray ?_ ?_ ?_ ?_ ?_ ?_); rfl; rfl; rfl; rfl; exact tZ; kernel_rfl; exact one20 _))
            generalize (wr.alloc (.cells zC 30)).setCells wr.heap.size 0 (nd20 q).toArray.toList = W3 at *
            clear tZ hx0
            have n0 : W3.cell? ⟨wr.heap.size, 0, none⟩ = some (.int .i64 3) := by first | exact pN.2.1 0 _ rfl | (rw [← hk]; exact pN.2.1 0 _ rfl)
            go_upto_region 13 with fail
            have rA := nd_a pN
            go_wp2_with ((with_reducible refine wpList_load_mid (cs := rf5 q.a) ?_ 28 (.tmp 41) ?_ (wr.heap.size) 10 ?_ _ ?_ Tryz.underlying28 ?_ ?_ ?_); rfl; rfl; rfl; exact rA; rfl; kernel_rfl)
            have CX := fun w => HX.out q.a w hA
            rw [E1] at CX
            refine (CX _).mono ?_
            rintro e vW4 ⟨rfl, hb⟩
            replace hbr := below_end hbr hb
            replace pN := AtL.below hb pN
            generalize rmvR x y q.a = a2 at *
            have sT : vW4.there wr.heap.size 10 (rf5 a2).toArray.size := pN.thereSub 10 5 (by show 10 + 5 ≤ 20; omega)
            replace pN := nd_setA pN a2
            replace hbr := bset hbr (Nat.le_refl _) (rf5 a2) 10
            clear hb rA CX E1
            go_upto_region 14 with ((with_reducible refine wpList_store_mid ?_ 28 (.tmp 48) (.tmp 46) ?_ (wr.heap.size) 10 (rf5 a2).toArray ?_ ?_ ?_ ?_ ?_ ?_); rfl; rfl; rfl; rfl; exact sT; kernel_rfl; exact one5 _)
            generalize vW4.setCells wr.heap.size 10 (rf5 a2).toArray.toList = W4 at *
            clear sT
            have n0' : W4.cell? ⟨wr.heap.size, 0, none⟩ = some (.int .i64 3) := by rw [← hk3]; exact pN.2.1 0 _ rfl
            clear n0
            go_upto_region 15 with fail
            have rA := nd_b pN
            go_wp2_with ((with_reducible refine wpList_load_mid (cs := rf5 q.b) ?_ 28 (.tmp 53) ?_ (wr.heap.size) 15 ?_ _ ?_ Tryz.underlying28 ?_ ?_ ?_); rfl; rfl; rfl; exact rA; rfl; kernel_rfl)
            have CX := fun w => HX.out q.b w hBk
            rw [E2] at CX
            refine (CX _).mono ?_
            rintro e vW5 ⟨rfl, hb⟩
            replace hbr := below_end hbr hb
            replace pN := AtL.below hb pN
            generalize rmvR x y q.b = b2 at *
            have sT : vW5.there wr.heap.size 15 (rf5 b2).toArray.size := pN.thereSub 15 5 (by show 15 + 5 ≤ 20; omega)
            replace pN := nd_setB pN b2
            replace hbr := bset hbr (Nat.le_refl _) (rf5 b2) 15
            clear hb rA CX E2
            go_upto_region 16 with ((with_reducible refine wpList_store_mid ?_ 28 (.tmp 60) (.tmp 58) ?_ (wr.heap.size) 15 (rf5 b2).toArray ?_ ?_ ?_ ?_ ?_ ?_); rfl; rfl; rfl; rfl; exact sT; kernel_rfl; exact one5 _)
            generalize vW5.setCells wr.heap.size 15 (rf5 b2).toArray.toList = W5 at *
            clear sT
            clear n0'
            go_upto_region 18 with fail
            rw [HM.out] at pN
            have rN := AtL.range pN
            have own := HO.out.below hbr
            have hBW := below_end hB hbr
            clear pN HO hbr hB
            go_wp2_with (first
              | ((with_reducible refine wpList_load_mid (cs := nd20 n2) ?_ 30 (.tmp 12) ?_ (wr.heap.size) 0 ?_ _ ?_ Tryz.underlying30 ?_ ?_ ?_); rfl; rfl; rfl; exact rN; rfl; kernel_rfl)
              | ((with_reducible refine wpList_bs1n ?_ (.tmp 69) ?_ n2 ?_ ?_); rfl; rfl; rfl)
              | (at_builtin; refine wpList_appN (by rfl) (.tmp 68) (.tmp 70) (by rfl) W2 (W5.alloc (.cells (nd20 n2).toArray 30)) (ball hBW _) _ A (by rfl) (own.below ((Below.refl _ _).alloc (Nat.le_refl _) _)) (some ⟨W5.heap.size, 0, none⟩) [n2] 1 (by rfl) (own_one W5 n2).rd Nat.one_pos HAL ?_))
            intro v9 w9 own9 hb9
            have HO9 : Hid (OwnN w9 W2.heap.size v9 ((L.take (i + 1)).map (mvN x y))) := by show OwnN _ _ _ _; rw [HTK.out]; exact own9
            clear own9 own
            go_wp2_with fail
            go_roundg (L.length - (i + 1))
            case rel => exact ⟨i + 1, by simp, rfl, hlt, HO9, hb9⟩
            case measure => omega
          | false =>
            have HM : Hid (lostN = n2) := by show _ = _; rw [← HN2.out]; unfold mvN; rw [if_neg hk2, if_pos hk3, hqa, hqb]; rfl
            rw [hqa] at E1
            rw [hqb] at E2
            go_upto_region 12 with (first
              | ((with_reducible refine wpList_load_mid (cs := nd20 q) ?_ 30 (.tmp 30) ?_ (bb) (off + i * 20) ?_ _ ?_ Tryz.underlying30 ?_ ?_ ?_); rfl; rfl; rfl; exact hx0; rfl; kernel_rfl)
              | ((with_reducible refine wpList_store_mid ?_ 30 (.tmp 12) (.tmp 31) ?_ (wr.heap.size) 0 (nd20 q).toArray ?_ ?_ ?_ ?_ ?_ ?_); rfl; rfl; rfl; rfl; exact tZ; kernel_rfl; exact one20 _))
            generalize (wr.alloc (.cells zC 30)).setCells wr.heap.size 0 (nd20 q).toArray.toList = W3 at *
            clear tZ hx0
            have n0 : W3.cell? ⟨wr.heap.size, 0, none⟩ = some (.int .i64 3) := by first | exact pN.2.1 0 _ rfl | (rw [← hk]; exact pN.2.1 0 _ rfl)
            go_upto_region 13 with fail
            have rA := nd_a pN
            go_wp2_with ((with_reducible refine wpList_load_mid (cs := rf5 q.a) ?_ 28 (.tmp 41) ?_ (wr.heap.size) 10 ?_ _ ?_ Tryz.underlying28 ?_ ?_ ?_); rfl; rfl; rfl; exact rA; rfl; kernel_rfl)
            have CX := fun w => HX.out q.a w hA
            rw [E1] at CX
            refine (CX _).mono ?_
            rintro e vW4 ⟨rfl, hb⟩
            replace hbr := below_end hbr hb
            replace pN := AtL.below hb pN
            generalize rmvR x y q.a = a2 at *
            have sT : vW4.there wr.heap.size 10 (rf5 a2).toArray.size := pN.thereSub 10 5 (by show 10 + 5 ≤ 20; omega)
            replace pN := nd_setA pN a2
            replace hbr := bset hbr (Nat.le_refl _) (rf5 a2) 10
            clear hb rA CX E1
            go_upto_region 14 with ((with_reducible refine wpList_store_mid ?_ 28 (.tmp 48) (.tmp 46) ?_ (wr.heap.size) 10 (rf5 a2).toArray ?_ ?_ ?_ ?_ ?_ ?_); rfl; rfl; rfl; rfl; exact sT; kernel_rfl; exact one5 _)
            generalize vW4.setCells wr.heap.size 10 (rf5 a2).toArray.toList = W4 at *
            clear sT
            have n0' : W4.cell? ⟨wr.heap.size, 0, none⟩ = some (.int .i64 3) := by rw [← hk3]; exact pN.2.1 0 _ rfl
            clear n0
            go_upto_region 15 with fail
            have rA := nd_b pN
            go_wp2_with ((with_reducible refine wpList_load_mid (cs := rf5 q.b) ?_ 28 (.tmp 53) ?_ (wr.heap.size) 15 ?_ _ ?_ Tryz.underlying28 ?_ ?_ ?_); rfl; rfl; rfl; exact rA; rfl; kernel_rfl)
            have CX := fun w => HX.out q.b w hBk
            rw [E2] at CX
            refine (CX _).mono ?_
            rintro e vW5 ⟨rfl, hb⟩
            replace hbr := below_end hbr hb
            replace pN := AtL.below hb pN
            generalize rmvR x y q.b = b2 at *
            have sT : vW5.there wr.heap.size 15 (rf5 b2).toArray.size := pN.thereSub 15 5 (by show 15 + 5 ≤ 20; omega)
            replace pN := nd_setB pN b2
            replace hbr := bset hbr (Nat.le_refl _) (rf5 b2) 15
            clear hb rA CX E2
            go_upto_region 16 with ((with_reducible refine wpList_store_mid ?_ 28 (.tmp 60) (.tmp 58) ?_ (wr.heap.size) 15 (rf5 b2).toArray ?_ ?_ ?_ ?_ ?_ ?_); rfl; rfl; rfl; rfl; exact sT; kernel_rfl; exact one5 _)
            generalize vW5.setCells wr.heap.size 15 (rf5 b2).toArray.toList = W5 at *
            clear sT
            clear n0'
            have pLL := HL0.out.below (below_end hB hbr)
            have rL := AtL.range pLL
            have tN : W5.there wr.heap.size 0 (nd20 lostN).toArray.size := pN.there
            replace pN := pN.setAll (vs := nd20 lostN) rfl
            replace hbr := bset hbr (Nat.le_refl _) (nd20 lostN) 0
            go_upto_region 18 with (first
              | ((with_reducible refine wpList_load_mid (cs := nd20 lostN) ?_ 30 (.tmp 9) ?_ (kl) 0 ?_ _ ?_ Tryz.underlying30 ?_ ?_ ?_); rfl; rfl; rfl; exact rL; rfl; kernel_rfl)
              | ((with_reducible refine wpList_store_mid ?_ 30 (.tmp 12) (.tmp 67) ?_ (wr.heap.size) 0 (nd20 lostN).toArray ?_ ?_ ?_ ?_ ?_ ?_); rfl; rfl; rfl; rfl; exact tN; kernel_rfl; exact one20 _))
            generalize W5.setCells wr.heap.size 0 (nd20 lostN).toArray.toList = W6 at *
            clear tN rL pLL
            rw [HM.out] at pN
            have rN := AtL.range pN
            have own := HO.out.below hbr
            have hBW := below_end hB hbr
            clear pN HO hbr hB
            go_wp2_with (first
              | ((with_reducible refine wpList_load_mid (cs := nd20 n2) ?_ 30 (.tmp 12) ?_ (wr.heap.size) 0 ?_ _ ?_ Tryz.underlying30 ?_ ?_ ?_); rfl; rfl; rfl; exact rN; rfl; kernel_rfl)
              | ((with_reducible refine wpList_bs1n ?_ (.tmp 69) ?_ n2 ?_ ?_); rfl; rfl; rfl)
              | (at_builtin; refine wpList_appN (by rfl) (.tmp 68) (.tmp 70) (by rfl) W2 (W6.alloc (.cells (nd20 n2).toArray 30)) (ball hBW _) _ A (by rfl) (own.below ((Below.refl _ _).alloc (Nat.le_refl _) _)) (some ⟨W6.heap.size, 0, none⟩) [n2] 1 (by rfl) (own_one W6 n2).rd Nat.one_pos HAL ?_))
            intro v9 w9 own9 hb9
            have HO9 : Hid (OwnN w9 W2.heap.size v9 ((L.take (i + 1)).map (mvN x y))) := by show OwnN _ _ _ _; rw [HTK.out]; exact own9
            clear own9 own
            go_wp2_with fail
            go_roundg (L.length - (i + 1))
            case rel => exact ⟨i + 1, by simp, rfl, hlt, HO9, hb9⟩
            case measure => omega
        | false =>
          obtain ⟨qb, hqb⟩ : ∃ qb, okR x y q.b = qb := ⟨_, rfl⟩
          have HM : Hid (lostN = n2) := by show _ = _; rw [← HN2.out]; unfold mvN; rw [if_neg hk2, if_pos hk3, hqa]; rfl
          rw [hqa] at E1
          rw [hqb] at E2
          go_upto_region 12 with (first
            | ((with_reducible refine wpList_load_mid (cs := nd20 q) ?_ 30 (.tmp 30) ?_ (bb) (off + i * 20) ?_ _ ?_ Tryz.underlying30 ?_ ?_ ?_); rfl; rfl; rfl; exact hx0; rfl; kernel_rfl)
            | ((with_reducible refine wpList_store_mid ?_ 30 (.tmp 12) (.tmp 31) ?_ (wr.heap.size) 0 (nd20 q).toArray ?_ ?_ ?_ ?_ ?_ ?_); rfl; rfl; rfl; rfl; exact tZ; kernel_rfl; exact one20 _))
          generalize (wr.alloc (.cells zC 30)).setCells wr.heap.size 0 (nd20 q).toArray.toList = W3 at *
          clear tZ hx0
          have n0 : W3.cell? ⟨wr.heap.size, 0, none⟩ = some (.int .i64 3) := by first | exact pN.2.1 0 _ rfl | (rw [← hk]; exact pN.2.1 0 _ rfl)
          go_upto_region 13 with fail
          have rA := nd_a pN
          go_wp2_with ((with_reducible refine wpList_load_mid (cs := rf5 q.a) ?_ 28 (.tmp 41) ?_ (wr.heap.size) 10 ?_ _ ?_ Tryz.underlying28 ?_ ?_ ?_); rfl; rfl; rfl; exact rA; rfl; kernel_rfl)
          have CX := fun w => HX.out q.a w hA
          rw [E1] at CX
          refine (CX _).mono ?_
          rintro e vW4 ⟨rfl, hb⟩
          replace hbr := below_end hbr hb
          replace pN := AtL.below hb pN
          generalize rmvR x y q.a = a2 at *
          have sT : vW4.there wr.heap.size 10 (rf5 a2).toArray.size := pN.thereSub 10 5 (by show 10 + 5 ≤ 20; omega)
          replace pN := nd_setA pN a2
          replace hbr := bset hbr (Nat.le_refl _) (rf5 a2) 10
          clear hb rA CX E1
          go_upto_region 14 with ((with_reducible refine wpList_store_mid ?_ 28 (.tmp 48) (.tmp 46) ?_ (wr.heap.size) 10 (rf5 a2).toArray ?_ ?_ ?_ ?_ ?_ ?_); rfl; rfl; rfl; rfl; exact sT; kernel_rfl; exact one5 _)
          generalize vW4.setCells wr.heap.size 10 (rf5 a2).toArray.toList = W4 at *
          clear sT
          have n0' : W4.cell? ⟨wr.heap.size, 0, none⟩ = some (.int .i64 3) := by rw [← hk3]; exact pN.2.1 0 _ rfl
          clear n0
          go_upto_region 15 with fail
          have rA := nd_b pN
          go_wp2_with ((with_reducible refine wpList_load_mid (cs := rf5 q.b) ?_ 28 (.tmp 53) ?_ (wr.heap.size) 15 ?_ _ ?_ Tryz.underlying28 ?_ ?_ ?_); rfl; rfl; rfl; exact rA; rfl; kernel_rfl)
          have CX := fun w => HX.out q.b w hBk
          rw [E2] at CX
          refine (CX _).mono ?_
          rintro e vW5 ⟨rfl, hb⟩
          replace hbr := below_end hbr hb
          replace pN := AtL.below hb pN
          generalize rmvR x y q.b = b2 at *
          have sT : vW5.there wr.heap.size 15 (rf5 b2).toArray.size := pN.thereSub 15 5 (by show 15 + 5 ≤ 20; omega)
          replace pN := nd_setB pN b2
          replace hbr := bset hbr (Nat.le_refl _) (rf5 b2) 15
          clear hb rA CX E2
          go_upto_region 16 with ((with_reducible refine wpList_store_mid ?_ 28 (.tmp 60) (.tmp 58) ?_ (wr.heap.size) 15 (rf5 b2).toArray ?_ ?_ ?_ ?_ ?_ ?_); rfl; rfl; rfl; rfl; exact sT; kernel_rfl; exact one5 _)
          generalize vW5.setCells wr.heap.size 15 (rf5 b2).toArray.toList = W5 at *
          clear sT
          clear n0'
          have pLL := HL0.out.below (below_end hB hbr)
          have rL := AtL.range pLL
          have tN : W5.there wr.heap.size 0 (nd20 lostN).toArray.size := pN.there
          replace pN := pN.setAll (vs := nd20 lostN) rfl
          replace hbr := bset hbr (Nat.le_refl _) (nd20 lostN) 0
          go_upto_region 18 with (first
            | ((with_reducible refine wpList_load_mid (cs := nd20 lostN) ?_ 30 (.tmp 9) ?_ (kl) 0 ?_ _ ?_ Tryz.underlying30 ?_ ?_ ?_); rfl; rfl; rfl; exact rL; rfl; kernel_rfl)
            | ((with_reducible refine wpList_store_mid ?_ 30 (.tmp 12) (.tmp 67) ?_ (wr.heap.size) 0 (nd20 lostN).toArray ?_ ?_ ?_ ?_ ?_ ?_); rfl; rfl; rfl; rfl; exact tN; kernel_rfl; exact one20 _))
          generalize W5.setCells wr.heap.size 0 (nd20 lostN).toArray.toList = W6 at *
          clear tN rL pLL
          rw [HM.out] at pN
          have rN := AtL.range pN
          have own := HO.out.below hbr
          have hBW := below_end hB hbr
          clear pN HO hbr hB
          go_wp2_with (first
            | ((with_reducible refine wpList_load_mid (cs := nd20 n2) ?_ 30 (.tmp 12) ?_ (wr.heap.size) 0 ?_ _ ?_ Tryz.underlying30 ?_ ?_ ?_); rfl; rfl; rfl; exact rN; rfl; kernel_rfl)
            | ((with_reducible refine wpList_bs1n ?_ (.tmp 69) ?_ n2 ?_ ?_); rfl; rfl; rfl)
            | (at_builtin; refine wpList_appN (by rfl) (.tmp 68) (.tmp 70) (by rfl) W2 (W6.alloc (.cells (nd20 n2).toArray 30)) (ball hBW _) _ A (by rfl) (own.below ((Below.refl _ _).alloc (Nat.le_refl _) _)) (some ⟨W6.heap.size, 0, none⟩) [n2] 1 (by rfl) (own_one W6 n2).rd Nat.one_pos HAL ?_))
          intro v9 w9 own9 hb9
          have HO9 : Hid (OwnN w9 W2.heap.size v9 ((L.take (i + 1)).map (mvN x y))) := by show OwnN _ _ _ _; rw [HTK.out]; exact own9
          clear own9 own
          go_wp2_with fail
          go_roundg (L.length - (i + 1))
          case rel => exact ⟨i + 1, by simp, rfl, hlt, HO9, hb9⟩
          case measure => omega
      · have hkb2 : (q.k == 2) = false := by simp [hk2]
        have hkb3 : (q.k == 3) = false := by simp [hk3]
        have HM : Hid (q = n2) := by show _ = _; rw [← HN2.out]; unfold mvN; rw [if_neg hk2, if_neg hk3]
        go_upto_region 12 with (first
          | ((with_reducible refine wpList_load_mid (cs := nd20 q) ?_ 30 (.tmp 30) ?_ (bb) (off + i * 20) ?_ _ ?_ Tryz.underlying30 ?_ ?_ ?_); rfl; rfl; rfl; exact hx0; rfl; kernel_rfl)
          | ((with_reducible refine wpList_store_mid ?_ 30 (.tmp 12) (.tmp 31) ?_ (wr.heap.size) 0 (nd20 q).toArray ?_ ?_ ?_ ?_ ?_ ?_); rfl; rfl; rfl; rfl; exact tZ; kernel_rfl; exact one20 _))
        generalize (wr.alloc (.cells zC 30)).setCells wr.heap.size 0 (nd20 q).toArray.toList = W3 at *
        clear tZ hx0
        have n0 : W3.cell? ⟨wr.heap.size, 0, none⟩ = some (.int .i64 q.k) := by first | exact pN.2.1 0 _ rfl | (rw [← hk]; exact pN.2.1 0 _ rfl)
        go_upto_region 18 with fail
        clear n0
        rw [HM.out] at pN
        have rN := AtL.range pN
        have own := HO.out.below hbr
        have hBW := below_end hB hbr
        clear pN HO hbr hB
        go_wp2_with (first
          | ((with_reducible refine wpList_load_mid (cs := nd20 n2) ?_ 30 (.tmp 12) ?_ (wr.heap.size) 0 ?_ _ ?_ Tryz.underlying30 ?_ ?_ ?_); rfl; rfl; rfl; exact rN; rfl; kernel_rfl)
          | ((with_reducible refine wpList_bs1n ?_ (.tmp 69) ?_ n2 ?_ ?_); rfl; rfl; rfl)
          | (at_builtin; refine wpList_appN (by rfl) (.tmp 68) (.tmp 70) (by rfl) W2 (W3.alloc (.cells (nd20 n2).toArray 30)) (ball hBW _) _ A (by rfl) (own.below ((Below.refl _ _).alloc (Nat.le_refl _) _)) (some ⟨W3.heap.size, 0, none⟩) [n2] 1 (by rfl) (own_one W3 n2).rd Nat.one_pos HAL ?_))
        intro v9 w9 own9 hb9
        have HO9 : Hid (OwnN w9 W2.heap.size v9 ((L.take (i + 1)).map (mvN x y))) := by show OwnN _ _ _ _; rw [HTK.out]; exact own9
        clear own9 own
        go_wp2_with fail
        go_roundg (L.length - (i + 1))
        case rel => exact ⟨i + 1, by simp, rfl, hlt, HO9, hb9⟩
        case measure => omega
    · have hli : ¬ (i : Int) < (L.length : Int) := by omega
      have hF := HO.out
      rw [List.take_of_length_le (by omega)] at hF
      have hBB := below_end hB2 hB
      have hsz := hB2.size
      clear HO
      go_wp2
      go_ret2
      exact ⟨⟨_, rfl, ⟨hF.1, hF.2.imp id fun ⟨g, cap, cur, a, b, c⟩ => ⟨g, cap, cur, a, Nat.le_trans hsz b, c⟩⟩⟩, hBB⟩
end Go.Proofs.YthofehcchickeaaGreatDoor
