/- LexBlanks, walked. -/
import Derived.Test.YtjkohkhngeioiaaDoorLLawBack
import Derived.Laws.BitsLemmas
namespace Wlx
theorem put_get {ts : List Tok} {j b : Nat} (i : Nat) (h1 : i < ts.length) (h2 : i < (ts.take j ++ (ts.drop j).map (shift b)).length) : ((ts.take j ++ (ts.drop j).map (shift b))[i]).k = (ts[i]).k ∧ ((ts.take j ++ (ts.drop j).map (shift b))[i]).t = (ts[i]).t ∧ ((ts.take j ++ (ts.drop j).map (shift b))[i]).p = (ts[i]).p + (if j ≤ i then b else 0) := by
  by_cases hj : j ≤ i
  · have hl : (ts.take j).length = j := by rw [List.length_take]; omega
    rw [List.getElem_append_right (by omega)]
    simp only [List.getElem_map, List.getElem_drop, hl]
    have e : j + (i - j) = i := by omega
    simp only [e]
    rw [if_pos hj]
    exact ⟨rfl, rfl, rfl⟩
  · have hl : i < (ts.take j).length := by rw [List.length_take]; omega
    rw [List.getElem_append_left hl, List.getElem_take, if_neg hj]
    exact ⟨rfl, rfl, rfl⟩
theorem place_le {p : Nat} {l : List UInt8} {ts : List Tok} (h : Ok p l ts) (i : Nat) : place p l ts i ≤ l.length := by
  unfold place
  split
  · rename_i hl
    have := (h.count.2 (ts[i]) (List.getElem_mem hl)).2.1
    omega
  · exact Nat.le_refl _
end Wlx
namespace Go.Proofs.YtjkohkhngeioiaaDoor
open Go.Shelf Go.RowKit
set_option linter.unusedVariables false

theorem and7 (n : Int) : ∃ m : Nat, m ≤ 7 ∧ bits .and .i64 n 7 = (m : Int) := by
  have e : bits .and .i64 n 7 = IntKind.i64.wrap ((BitVec.ofInt 64 n &&& BitVec.ofInt 64 7).toNat : Nat) := rfl
  have h : (BitVec.ofInt 64 n &&& BitVec.ofInt 64 7).toNat < 2 ^ 3 := by
    rw [BitVec.toNat_and]
    exact Nat.and_lt_two_pow _ (by decide)
  generalize (BitVec.ofInt 64 n &&& BitVec.ofInt 64 7).toNat = m at e h
  refine ⟨m, by omega, ?_⟩
  rw [e, IntKind.wrap_i64]
  omega
theorem which (k : Int) (N : Nat) : ∃ j : Nat, j ≤ N ∧ ∃ i0 : Int, k.tmod ((N : Int) + 1) = i0 ∧ - (N : Int) ≤ i0 ∧ i0 ≤ (N : Int) ∧ (i0 < 0 ∧ i0 + (N : Int) + 1 = (j : Int) ∨ ¬ i0 < 0 ∧ i0 = (j : Int)) := by
  have h1 : (k.tmod ((N : Int) + 1)).natAbs < N + 1 := by
    rw [Int.natAbs_tmod]
    have e : ((N : Int) + 1).natAbs = N + 1 := by omega
    rw [e]
    exact Nat.mod_lt _ (by omega)
  generalize k.tmod ((N : Int) + 1) = i0 at h1
  by_cases h : i0 < 0
  · exact ⟨(i0 + (N : Int) + 1).toNat, by omega, i0, rfl, by omega, by omega, Or.inl ⟨h, by omega⟩⟩
  · exact ⟨i0.toNat, by omega, i0, rfl, by omega, by omega, Or.inr ⟨h, by omega⟩⟩

set_option maxRecDepth 100000 in
set_option maxHeartbeats 4000000 in
theorem blanks_main (b : ByteArray) (k n : Int) (w : World) (hm : MaxAt w) (hs : b.size ≤ 9223372036854775807) (hk0 : -9223372036854775808 ≤ k) (hk1 : k ≤ 9223372036854775807) : Calls Tryd.prog 7 #[.string b, .int .i64 k, .int .i64 n] w fun e w' => e = .returned (.bool true) ∧ Below w.heap.size w w' := by
  have A := able_any w hm
  have S := fun w hm => scan_any b w hm hs
  rcases scanAll_cases b.data.toList with ⟨ts, e, hok, hl⟩ | ⟨c, p, e, hc⟩
  · rw [e] at S
    by_cases h0 : 0 < ts.length
    · obtain ⟨m, hm7, hbits⟩ := and7 n
      obtain ⟨j, hjN, i0, hr, hi0, hi1, hj⟩ := which k ts.length
      have hcount := hok.count
      have hput := hok.put (m + 1) (by omega) j hjN
      have hple := Wlx.place_le hok j
      have hpj : Hid (∀ h : j < ts.length, (ts[j]).p = Wlx.place 0 b.data.toList ts j) := fun h => by unfold Wlx.place; rw [dif_pos h]; rfl
      have hpj2 : Hid (¬ j < ts.length → Wlx.place 0 b.data.toList ts j = b.size) := fun h => by unfold Wlx.place; rw [dif_neg h]; rfl
      obtain ⟨a, ha⟩ : ∃ a, Wlx.place 0 b.data.toList ts j = a := ⟨_, rfl⟩
      rw [ha] at hput hple hpj hpj2
      have hbl : b.data.toList.length = b.size := rfl
      rw [hbl] at hple hl
      obtain ⟨ts', hts'⟩ : ∃ ts', ts.take j ++ (ts.drop j).map (Wlx.shift (m + 1)) = ts' := ⟨_, rfl⟩
      have hlen' : ts'.length = ts.length := by rw [← hts']; simp; omega
      have HG : Hid (∀ i (h1 : i < ts.length) (h2 : i < ts'.length), (ts'[i]).k = (ts[i]).k ∧ (ts'[i]).t = (ts[i]).t ∧ (ts'[i]).p = (ts[i]).p + (if j ≤ i then m + 1 else 0)) := by
        subst hts'
        exact fun i h1 h2 => Wlx.put_get i h1 h2
      rw [hts'] at hput
      have HP : Hid (Wlx.Ok 0 (b.data.toList.take a ++ (List.replicate (m + 1) 32 ++ b.data.toList.drop a)) ts') := hput
      have hN : ts.length ≤ 1024 := by omega
      have HB : Hid (∀ i (h : i < ts.length), (ts[i]).p ≤ 1024) := fun i h => by have := (hcount.2 (ts[i]) (List.getElem_mem h)).2.1; rw [hbl] at this; omega
      clear hput hts' ha hok e hcount hbl
      go_enter Tryd.func7, Tryd.ntmps7
      go_wp2_with fail
      refine A.mono ?_
      rintro e w1 ⟨rfl, hb1⟩
      have hm1 := MaxAt.below hm hb1
      go_wp2_with fail
      refine (S _ hm1).mono ?_
      rintro e w2 ⟨⟨v, rfl, hown⟩, hb2⟩
      have hm2 := MaxAt.below hm1 hb2
      have hB2 : Below w.heap.size w w2 := hb1.trans (hb2.mono hb1.size)
      have hrd := ReadV.own hown
      obtain ⟨g, cap, rfl, hc⟩ := own_slice hown h0
      have hl0 : ((ts.length : Int) == 0) = false := beq_eq_false_iff_ne.2 (by omega)
      have hd : ¬ (ts.length : Int) + 1 = 0 := by omega
      have HC : Hid (∀ h : j < ts.length, w2.cell? ⟨g, j * 3 + 2, none⟩ = some (.int .i64 a)) := fun h => by
        rw [hc _ (by omega), (rowT_get ts j h).2.2, hpj.out h]
      have HR : Hid (ReadV w2 (.slice (some ⟨g, 0, none⟩) ts.length cap) (ts.map Wlx.tv)) := hrd
      clear hown hc S A hb1 hb2 hm1 hrd
      go_upto_if 40 with fail
      go_cut [10] (fun x wx => x = .int .i64 (j : Int) ∧ Below w.heap.size w wx ∧ MaxAt wx ∧ Hid (ReadV wx (.slice (some ⟨g, 0, none⟩) ts.length cap) (ts.map Wlx.tv)) ∧ Hid (∀ h : j < ts.length, wx.cell? ⟨g, j * 3 + 2, none⟩ = some (.int .i64 a)))
      case first =>
        rcases hj with ⟨hneg, hij⟩ | ⟨hneg, rfl⟩
        · go_wp2_with fail
          go_meet
          case rel => exact ⟨rfl, hB2, hm2, HR, HC⟩
        · go_wp2_with fail
          go_meet
          case rel => exact ⟨rfl, hB2, hm2, HR, HC⟩
      case rest =>
        clear hB2 hm2 HR HC
        obtain ⟨rfl, hB2, hm2, HR, HC⟩ := hcut
        go_upto_if 51 with fail
        go_cut [11] (fun y wx => y = .int .i64 (a : Int) ∧ Below w.heap.size w wx ∧ MaxAt wx ∧ Hid (ReadV wx (.slice (some ⟨g, 0, none⟩) ts.length cap) (ts.map Wlx.tv)))
        case first =>
          by_cases hjl : j < ts.length
          · have hjli : (j : Int) < (ts.length : Int) := by omega
            have cj := HC.out hjl
            clear HC
            go_wp2_with fail
            go_meet
            case rel => exact ⟨rfl, hB2, hm2, HR⟩
          · have hjli : ¬ (j : Int) < (ts.length : Int) := by omega
            obtain rfl := hpj2.out hjl
            clear HC
            go_wp2_with fail
            go_meet
            case rel => exact ⟨rfl, hB2, hm2, HR⟩
        case rest =>
          clear hB2 hm2 HR HC
          obtain ⟨rfl, hB2, hm2, HR⟩ := hcut
          have ai : (a : Int) ≤ (b.size : Int) := by omega
          have ai0 : (0 : Int) ≤ (a : Int) := by omega
          have Hx : Hid ((b.extract 0 a).data.toList = b.data.toList.take a ++ List.replicate 0 32) := by
            show _ = _
            rw [Lib.extract_data]; simp
          have hxs : (b.extract 0 a).size = a + 0 := by rw [ByteArray.size_extract]; omega
          go_wp2_with fail
          go_loopg [12, 13] (m + 1) (fun gk x y wr => ∃ (X : ByteArray) (c : Nat), x = .string X ∧ y = .int .i64 c ∧ gk = m + 1 - c ∧ c ≤ m + 1 ∧ Hid (X.data.toList = b.data.toList.take a ++ List.replicate c 32) ∧ X.size = a + c ∧ Below w.heap.size w wr ∧ MaxAt wr ∧ Hid (ReadV wr (.slice (some ⟨g, 0, none⟩) ts.length cap) (ts.map Wlx.tv)))
          case atStart => exact ⟨_, 0, rfl, rfl, rfl, by omega, Hx, hxs, hB2, hm2, HR⟩
          case round =>
            clear Hx hxs hB2 hm2 HR
            obtain ⟨X, c, rfl, rfl, hg, hc, HX, hxs, hB2, hm2, HR⟩ := hrel
            by_cases hcm : c ≤ m
            · have hci : (c : Int) ≤ (m : Int) := by omega
              have HX2 : Hid ((X ++ ⟨#[32]⟩ : ByteArray).data.toList = b.data.toList.take a ++ List.replicate (c + 1) 32) := by
                show _ = _
                rw [List.replicate_succ', ← List.append_assoc, ← HX.out]
                simp
              have hxs2 : (X ++ ⟨#[32]⟩ : ByteArray).size = a + (c + 1) := by
                rw [ByteArray.size_append, hxs]; show a + c + 1 = _; omega
              have l1 : ¬ 9223372036854775807 < X.size + 1 := by omega
              clear HX
              go_wp2_with fail
              go_roundg (m + 1 - (c + 1))
              case rel => exact ⟨_, c + 1, rfl, by simp, rfl, by omega, HX2, hxs2, hB2, hm2, HR⟩
              case measure => omega
            · obtain rfl : c = m + 1 := by omega
              have hci : ¬ ((m + 1 : Nat) : Int) ≤ (m : Int) := by omega
              have l2 : ¬ 9223372036854775807 < X.size + (b.size - a) := by omega
              obtain ⟨Y, hY⟩ : ∃ Y, X ++ b.extract a b.size = Y := ⟨_, rfl⟩
              have HY : Hid (Y.data.toList = b.data.toList.take a ++ (List.replicate (m + 1) 32 ++ b.data.toList.drop a)) := by
                show _ = _
                rw [← hY, ← List.append_assoc, ← HX.out, ← ext_drop b a]
                simp
              have hYs : Y.size = b.size + (m + 1) := by
                rw [← hY, ByteArray.size_append, hxs, ByteArray.size_extract]; omega
              have S2 := fun w hm => scan_any Y w hm (by omega)
              rw [HY.out] at S2
              clear HX hxs
              by_cases hY2 : 1024 < Y.size
              · have hYi : (1024 : Int) < (Y.size : Int) := by omega
                have ee : scanAll (b.data.toList.take a ++ (List.replicate (m + 1) 32 ++ b.data.toList.drop a)) = Wlx.Res.err 2 0 := by
                  unfold scanAll
                  rw [← HY.out, if_pos (by exact hY2)]
                rw [ee] at S2
                clear ee HY HP HG
                go_wp2_with fail
                refine (S2 _ hm2).mono ?_
                rintro e w3 ⟨rfl, hb3⟩
                go_wp2
                go_ret
                exact ⟨rfl, hB2.trans (hb3.mono hB2.size)⟩
              · have hYi : ¬ (1024 : Int) < (Y.size : Int) := by omega
                have ee : scanAll (b.data.toList.take a ++ (List.replicate (m + 1) 32 ++ b.data.toList.drop a)) = Wlx.Res.ok ts' := scanAll_ok HP.out (by rw [← HY.out]; exact hY2)
                rw [ee] at S2
                clear ee HY HP
                have HM : Hid (∀ i (h1 : i < (ts.map Wlx.tv).length) (h2 : i < (ts'.map Wlx.tv).length), ((ts.map Wlx.tv)[i]).k = ((ts'.map Wlx.tv)[i]).k ∧ ((ts.map Wlx.tv)[i]).t = ((ts'.map Wlx.tv)[i]).t) := by
                  intro i h1 h2
                  rw [List.length_map] at h1 h2
                  have g := HG.out i h1 h2
                  simp only [List.getElem_map, Wlx.tv]
                  exact ⟨by rw [g.1], g.2.1.symm⟩
                go_wp2_with fail
                refine (S2 _ hm2).mono ?_
                rintro e w3 ⟨⟨v2, rfl, hown2⟩, hb3⟩
                have hr3 := HR.out.below (Nat.le_refl _) hb3
                have hq3 := ReadV.own hown2
                have hB3 := hB2.trans (hb3.mono hB2.size)
                obtain ⟨g2, cap2, rfl, hc2⟩ := own_slice hown2 (by omega)
                rw [hlen'] at hq3
                clear hown2 hc2 HR hm2 S2 hB2 hb3
                go_wp2_with fail
                refine (alike_true _ _ _ _ _ hr3 hq3 (by simp only [List.length_map]; exact hlen') (by simp only [List.length_map]; omega) HM.out).mono ?_
                rintro e w4 ⟨rfl, hb4⟩
                have hB4 := hB3.trans (hb4.mono hB3.size)
                obtain ⟨av, cp, ev, hr4⟩ := hr3.below (Nat.le_refl _) hb4
                obtain ⟨av2, cp2, ev2, hq4⟩ := hq3.below (Nat.le_refl _) hb4
                simp only [Value.slice.injEq] at ev ev2
                obtain ⟨rfl, -, rfl⟩ := ev
                obtain ⟨rfl, -, rfl⟩ := ev2
                have H1 : Hid (∀ i (h : i < ts.length), w4.cell? ⟨g, i * 3, none⟩ = some (.int .i64 (ts[i]).k) ∧ w4.cell? ⟨g, i * 3 + 1, none⟩ = some (.string ⟨(ts[i]).t.toArray⟩) ∧ w4.cell? ⟨g, i * 3 + 2, none⟩ = some (.int .i64 (ts[i]).p) ∧ g < w4.heap.size) := fun i h => by
                  obtain ⟨bb, off, e1, e2, c0, c1, c2⟩ := hr4 i (by simpa using h)
                  cases e1
                  simp only [List.getElem_map, Wlx.tv, Nat.zero_add] at c0 c1 c2
                  exact ⟨c0, c1, c2, e2⟩
                have H2 : Hid (∀ i (h : i < ts'.length), w4.cell? ⟨g2, i * 3, none⟩ = some (.int .i64 (ts'[i]).k) ∧ w4.cell? ⟨g2, i * 3 + 1, none⟩ = some (.string ⟨(ts'[i]).t.toArray⟩) ∧ w4.cell? ⟨g2, i * 3 + 2, none⟩ = some (.int .i64 (ts'[i]).p) ∧ g2 < w4.heap.size) := fun i h => by
                  obtain ⟨bb, off, e1, e2, c0, c1, c2⟩ := hq4 i (by simpa using h)
                  cases e1
                  simp only [List.getElem_map, Wlx.tv, Nat.zero_add] at c0 c1 c2
                  exact ⟨c0, c1, c2, e2⟩
                clear hr4 hq4 hr3 hq3 hb4 hB3 HM
                go_wp2_with fail
                go_loopg [17] (ts.length) (fun gk x wr => ∃ i : Nat, x = .int .i64 i ∧ gk = ts.length - i ∧ i ≤ ts.length ∧ Below w.heap.size w wr ∧ Below w4.heap.size w4 wr)
                case atStart => exact ⟨0, rfl, rfl, Nat.zero_le _, hB4, Below.refl _ _⟩
                case round =>
                  clear hB4
                  obtain ⟨i, rfl, hg, hi, hB4, hb5⟩ := hrel
                  by_cases hlt : i < ts.length
                  · have hli : (i : Int) < (ts.length : Int) := by omega
                    have h2 : i < ts'.length := by omega
                    obtain ⟨c0, c1, c2, gl⟩ := H1.out i hlt
                    obtain ⟨d0, d1, d2, gl2⟩ := H2.out i h2
                    obtain ⟨-, -, ep⟩ := HG.out i hlt h2
                    have hbd := HB.out i hlt
                    have c0 := (hb5.cell (p := ⟨g, i * 3, none⟩) gl).trans c0
                    have c1 := (hb5.cell (p := ⟨g, i * 3 + 1, none⟩) gl).trans c1
                    have c2 := (hb5.cell (p := ⟨g, i * 3 + 2, none⟩) gl).trans c2
                    have d0 := (hb5.cell (p := ⟨g2, i * 3, none⟩) gl2).trans d0
                    have d1 := (hb5.cell (p := ⟨g2, i * 3 + 1, none⟩) gl2).trans d1
                    have d2 := (hb5.cell (p := ⟨g2, i * 3 + 2, none⟩) gl2).trans d2
                    rw [ep] at d2
                    generalize (ts[i]).p = pp at c2 d2 hbd
                    by_cases hji : j ≤ i
                    · have hjii : (j : Int) ≤ (i : Int) := by omega
                      rw [if_pos hji, show ((pp + (m + 1) : Nat) : Int) = (pp : Int) + ((m : Int) + 1) by omega] at d2
                      have hS : TokS g (i * 3) g2 (i * 3) (ts[i]).k pp (ts'[i]).k ((pp : Int) + ((m : Int) + 1)) ⟨(ts[i]).t.toArray⟩ ⟨(ts'[i]).t.toArray⟩ wr := ⟨c0, c1, c2, d0, d1, d2⟩
                      generalize (ts[i]).k = k1 at hS
                      generalize (ts'[i]).k = k2 at hS
                      generalize (⟨(ts[i]).t.toArray⟩ : ByteArray) = s1 at hS
                      generalize (⟨(ts'[i]).t.toArray⟩ : ByteArray) = s2 at hS
                      clear c0 c1 c2 d0 d1 d2 ep
                      have wr1 : IntKind.i64.wrap ((pp : Int) + ((m : Int) + 1)) = (pp : Int) + ((m : Int) + 1) := by rw [IntKind.wrap_i64]; omega
                      go_wp2_with fail
                      go_region_held3 (TokS g (i * 3) g2 (i * 3) k1 pp k2 ((pp : Int) + ((m : Int) + 1)) s1 s2)
                        (with_reducible first | exact hS | assumption | exact tokS_drew hS)
                        (first | (go_at_call 999999; fail))
                      all_goals
                        go_wp2_with fail
                        go_roundg (ts.length - (i + 1))
                        case rel => exact ⟨i + 1, by simp, rfl, hlt, hB4.drew, hb5.drew⟩
                        case measure => omega
                    · have hjii : ¬ (j : Int) ≤ (i : Int) := by omega
                      rw [if_neg hji, Nat.add_zero] at d2
                      have hS : TokS g (i * 3) g2 (i * 3) (ts[i]).k pp (ts'[i]).k pp ⟨(ts[i]).t.toArray⟩ ⟨(ts'[i]).t.toArray⟩ wr := ⟨c0, c1, c2, d0, d1, d2⟩
                      generalize (ts[i]).k = k1 at hS
                      generalize (ts'[i]).k = k2 at hS
                      generalize (⟨(ts[i]).t.toArray⟩ : ByteArray) = s1 at hS
                      generalize (⟨(ts'[i]).t.toArray⟩ : ByteArray) = s2 at hS
                      clear c0 c1 c2 d0 d1 d2 ep
                      have wr1 : IntKind.i64.wrap (pp : Int) = (pp : Int) := by rw [IntKind.wrap_i64]; omega
                      go_wp2_with fail
                      go_region_held3 (TokS g (i * 3) g2 (i * 3) k1 pp k2 pp s1 s2)
                        (with_reducible first | exact hS | assumption | exact tokS_drew hS)
                        (first | (go_at_call 999999; fail))
                      all_goals
                        go_wp2_with fail
                        go_roundg (ts.length - (i + 1))
                        case rel => exact ⟨i + 1, by simp, rfl, hlt, hB4.drew, hb5.drew⟩
                        case measure => omega
                  · have hli : ¬ (i : Int) < (ts.length : Int) := by omega
                    go_wp2
                    go_ret
                    exact ⟨rfl, hB4⟩
    · obtain rfl : ts = [] := List.eq_nil_of_length_eq_zero (by omega)
      clear e hok
      go_enter Tryd.func7, Tryd.ntmps7
      go_wp2_with fail
      refine A.mono ?_
      rintro e w1 ⟨rfl, hb1⟩
      have hm1 := MaxAt.below hm hb1
      go_wp2_with fail
      refine (S _ hm1).mono ?_
      rintro e w2 ⟨⟨v, rfl, hown⟩, hb2⟩
      obtain ⟨av, cp, rfl, -⟩ := ReadV.own hown
      clear hown
      go_wp2
      go_ret
      exact ⟨rfl, hb1.trans (hb2.mono hb1.size)⟩
  · rw [e] at S
    have hc0 : ((c : Int) != 0) = true := by
      have : ¬ c = 0 := by
        rcases hc with ⟨rfl, _⟩ | ⟨_, h⟩
        · omega
        · have := h.cut.2.2.1; omega
      simp; omega
    clear e hc
    go_enter Tryd.func7, Tryd.ntmps7
    go_wp2_with fail
    refine A.mono ?_
    rintro e w1 ⟨rfl, hb1⟩
    have hm1 := MaxAt.below hm hb1
    go_wp2_with fail
    refine (S _ hm1).mono ?_
    rintro e w2 ⟨rfl, hb2⟩
    go_wp2
    go_ret
    exact ⟨rfl, hb1.trans (hb2.mono hb1.size)⟩
end Go.Proofs.YtjkohkhngeioiaaDoor
