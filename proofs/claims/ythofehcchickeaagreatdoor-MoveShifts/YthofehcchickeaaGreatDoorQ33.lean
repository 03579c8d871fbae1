/- TRefF, TAppN. -/
import Derived.Test.YthofehcchickeaaGreatDoorQ32
namespace Go.Proofs.YthofehcchickeaaGreatDoor
open Go.RowKit
set_option linter.unusedVariables false
theorem opK_none {o : Int} (h21 : ¬ o = 21) (h22 : ¬ o = 22) (h23 : ¬ o = 23) (h24 : ¬ o = 24) (h25 : ¬ o = 25) (h26 : ¬ o = 26) (h16 : ¬ o = 16) (h11 : ¬ o = 11) (h12 : ¬ o = 12) (h13 : ¬ o = 13) (h14 : ¬ o = 14) (h15 : ¬ o = 15) (h1 : ¬ o = 1) (h2 : ¬ o = 2) (h3 : ¬ o = 3) : opK o = 0 := by
  have e : Wt.opOf o = none := by
    unfold Wt.opOf
    rw [List.find?_eq_none]
    intro x hx
    simp only [Wt.opsT, List.mem_cons, List.not_mem_nil, or_false] at hx
    rcases hx with rfl | rfl | rfl | rfl | rfl | rfl | rfl | rfl | rfl | rfl | rfl | rfl | rfl | rfl | rfl <;> simp only [beq_iff_eq] <;> omega
  unfold opK
  rw [e]
theorem opK_un (o : Int) : (opK o == 4) = isUnB o := by
  by_cases h21 : o = 21
  · subst h21; rfl
  by_cases h22 : o = 22
  · subst h22; rfl
  by_cases h23 : o = 23
  · subst h23; rfl
  by_cases h24 : o = 24
  · subst h24; rfl
  by_cases h25 : o = 25
  · subst h25; rfl
  by_cases h26 : o = 26
  · subst h26; rfl
  by_cases h16 : o = 16
  · subst h16; rfl
  by_cases h11 : o = 11
  · subst h11; rfl
  by_cases h12 : o = 12
  · subst h12; rfl
  by_cases h13 : o = 13
  · subst h13; rfl
  by_cases h14 : o = 14
  · subst h14; rfl
  by_cases h15 : o = 15
  · subst h15; rfl
  by_cases h1 : o = 1
  · subst h1; rfl
  by_cases h2 : o = 2
  · subst h2; rfl
  by_cases h3 : o = 3
  · subst h3; rfl
  rw [opK_none h21 h22 h23 h24 h25 h26 h16 h11 h12 h13 h14 h15 h1 h2 h3]
  simp [isUnB, h1, h2, h3]
theorem opK_bin (o : Int) : (opK o == 5) = Wt.isBin o := by
  by_cases h21 : o = 21
  · subst h21; rfl
  by_cases h22 : o = 22
  · subst h22; rfl
  by_cases h23 : o = 23
  · subst h23; rfl
  by_cases h24 : o = 24
  · subst h24; rfl
  by_cases h25 : o = 25
  · subst h25; rfl
  by_cases h26 : o = 26
  · subst h26; rfl
  by_cases h16 : o = 16
  · subst h16; rfl
  by_cases h11 : o = 11
  · subst h11; rfl
  by_cases h12 : o = 12
  · subst h12; rfl
  by_cases h13 : o = 13
  · subst h13; rfl
  by_cases h14 : o = 14
  · subst h14; rfl
  by_cases h15 : o = 15
  · subst h15; rfl
  by_cases h1 : o = 1
  · subst h1; rfl
  by_cases h2 : o = 2
  · subst h2; rfl
  by_cases h3 : o = 3
  · subst h3; rfl
  rw [opK_none h21 h22 h23 h24 h25 h26 h16 h11 h12 h13 h14 h15 h1 h2 h3]
  unfold Wt.isBin
  have e1 : (decide (11 ≤ o) && decide (o ≤ 16)) = false := by
    rw [Bool.and_eq_false_iff, decide_eq_false_iff_not, decide_eq_false_iff_not]; omega
  have e2 : (decide (21 ≤ o) && decide (o ≤ 26)) = false := by
    rw [Bool.and_eq_false_iff, decide_eq_false_iff_not, decide_eq_false_iff_not]; omega
  rw [e1, e2]
  rfl
set_option maxHeartbeats 1600000 in
theorem rnode_n (x : Wt.Nd) (w : World) (h1 : (x.k == 1) = false) (h2 : (x.k == 2) = false) (h3 : (x.k == 3) = false) (h4 : (x.k == 4) = false) (h5 : (x.k == 5) = false) (h6 : (x.k == 6) = false) :
    Calls Tryz.prog 48 #[ndV x] w fun e w' => e = .returned (.tuple #[.int .i64 0, .bool false]) ∧ Below w.heap.size w w' := by
  obtain ⟨k, hk⟩ : ∃ k, x.k = k := ⟨_, rfl⟩
  rw [hk] at h1 h2 h3 h4 h5 h6
  have pA : AtL (w.alloc (.cells (nd20 x).toArray 30)) w.heap.size (nd20 x) := AtL.new0 w _ _
  have hBa : Below w.heap.size w (w.alloc (.cells (nd20 x).toArray 30)) := ball (Below.refl _ w) _
  show Calls _ _ #[.agg (nd20 x).toArray] _ _
  go_enter Tryz.func48, Tryz.ntmps48
  go_upto_region 1 with fail
  generalize (w.alloc (.cells (nd20 x).toArray 30)) = W0 at *
  have a0 : W0.cell? ⟨w.heap.size, 0, none⟩ = some (.int .i64 k) := by rw [← hk]; exact pA.2.1 0 _ rfl
  go_wp2
  go_ret2
  exact ⟨rfl, hBa⟩
theorem rnode_any (x : Wt.Nd) (w : World) (hf : Wt.FitN x) : Calls Tryz.prog 48 #[ndV x] w fun e w' => e = .returned (.tuple #[.int .i64 (nps x), .bool (Wt.right x)]) ∧ Below w.heap.size w w' := by
  obtain ⟨f1, f6, f7, f8⟩ := hf
  unfold Wt.right nps
  by_cases h1 : x.k = 1
  · rw [if_pos h1, if_neg (by omega), if_neg (by omega), if_neg (by omega)]; exact rnode_1 x w h1 f1
  rw [if_neg h1]
  by_cases h2 : x.k = 2
  · rw [if_pos h2, if_neg (by omega), if_neg (by omega), if_neg (by omega)]; exact rnode_2 x w h2 f7
  rw [if_neg h2]
  by_cases h3 : x.k = 3
  · rw [if_pos h3, if_neg (by omega), if_neg (by omega), if_neg (by omega)]; exact rnode_3 x w h3 f7 f8
  rw [if_neg h3]
  by_cases h4 : x.k = 4
  · rw [if_pos h4, if_pos h4, opK_un]; exact rnode_4 x w h4
  rw [if_neg h4, if_neg h4]
  by_cases h5 : x.k = 5
  · rw [if_pos h5, if_pos h5, opK_bin]; exact rnode_5 x w h5
  rw [if_neg h5, if_neg h5]
  by_cases h6 : x.k = 6
  · rw [if_pos h6, if_pos h6]; exact rnode_6 x w h6 f6
  rw [if_neg h6, if_neg h6]
  exact rnode_n x w (by simp [h1]) (by simp [h2]) (by simp [h3]) (by simp [h4]) (by simp [h5]) (by simp [h6])
set_option maxHeartbeats 4000000 in
set_option maxRecDepth 100000 in
theorem rend_any (av : Option Addr) (cap : Nat) (L : List Wt.Nd) (hL : L.length ≤ 256) (hF : ∀ x ∈ L, Wt.FitN x) (f : Nat) : f ≤ 1000 → ∀ (p : Nat) (w : World), L.length < f + p → p ≤ 256 → RdN w av L →
    Calls Tryz.prog 30 #[.slice av L.length cap, .int .i64 p] w fun e w' => e = .returned (MP (Wt.one f (L.drop p)) p) ∧ Below w.heap.size w w' := by
  have past : ∀ (f p : Nat) (w : World), ¬ p < L.length → p ≤ 256 → Calls Tryz.prog 30 #[.slice av L.length cap, .int .i64 p] w fun e w' => e = .returned (MP (Wt.one f (L.drop p)) p) ∧ Below w.heap.size w w' := by
    intro f p w hlt hp
    have hd : L.drop p = [] := List.drop_eq_nil_of_le (by omega)
    have E : Hid (Wt.one f (L.drop p) = none) := by
      show _ = _
      rw [hd]
      cases f <;> rfl
    rw [E.out]
    clear E hd
    have hli : (L.length : Int) ≤ (p : Int) := by omega
    go_enter Tryz.func30, Tryz.ntmps30
    go_wp2
    go_ret3
    exact ⟨rfl, Below.refl _ _⟩
  induction f with
  | zero => intro _ p w hf hp hr; exact past 0 p w (by omega) hp
  | succ f ih =>
    intro hf1 p w hf hp hr
    by_cases hlt : p < L.length
    · clear past
      replace ih := ih (by omega)
      obtain ⟨bb, off, rfl, hx⟩ := hr p hlt
      have hd := List.drop_eq_getElem_cons hlt
      have hfit := hF _ (List.getElem_mem hlt)
      have HR : Hid (RdN w (some ⟨bb, off, none⟩) L) := hr
      clear hr
      rw [hd]
      generalize L[p] = x at *
      have C := rnode_any x w hfit
      have hple := @Wt.parts_le x
      have hnp := @nps_parts x
      have hli : ¬ (L.length : Int) ≤ (p : Int) := by omega
      cases hq : Wt.right x with
      | false =>
        rw [hq] at C
        rw [one_not hq]
        generalize nps x = np at *
        clear ih hnp hple
        go_enter Tryz.func30, Tryz.ntmps30
        go_wp2_with ((with_reducible refine wpList_load_want ?_ 30 (.tmp 21) ?_ bb (off + p * 20) ?_ (nd20 x) _ ?_ Tryz.underlying30 ?_ ?_ ?_); rfl; rfl; rfl; exact hx; rfl; kernel_rfl)
        refine C.mono ?_
        rintro e w1 ⟨rfl, hb⟩
        go_wp2
        go_ret3
        exact ⟨rfl, hb⟩
      | true =>
        rw [hq] at C
        obtain ⟨hk0, hk1⟩ := hple hq
        rw [MP_left hq]
        rw [hnp hq] at C
        clear hple hq hnp
        obtain ⟨k, hk⟩ : ∃ k : Nat, (Wt.parts x).toNat = k := ⟨_, rfl⟩
        have hkk : Wt.parts x = (k : Int) := by omega
        rw [hk]
        rw [hkk] at C
        have hk2 : k ≤ 30 := by omega
        clear hk0 hk1 hk hkk
        obtain ⟨R, hR⟩ : ∃ R, left f k L (p + 1) 0 = R := ⟨_, rfl⟩
        have E0 : Hid (R = left f (k - 0) L (p + 1) 0) := hR.symm
        rw [hR]
        clear hR
        have IH : Hid (∀ (p : Nat) (w : World), L.length < f + p → p ≤ 256 → RdN w (some ⟨bb, off, none⟩) L → Calls Tryz.prog 30 #[.slice (some ⟨bb, off, none⟩) L.length cap, .int .i64 p] w fun e w' => e = .returned (MP (Wt.one f (L.drop p)) p) ∧ Below w.heap.size w w') := ih
        clear ih
        go_enter Tryz.func30, Tryz.ntmps30
        go_wp2_with ((with_reducible refine wpList_load_want ?_ 30 (.tmp 21) ?_ bb (off + p * 20) ?_ (nd20 x) _ ?_ Tryz.underlying30 ?_ ?_ ?_); rfl; rfl; rfl; exact hx; rfl; kernel_rfl)
        refine C.mono ?_
        rintro e w2 ⟨rfl, hB2⟩
        have HR2 : Hid (RdN w2 (some ⟨bb, off, none⟩) L) := HR.out.below hB2
        clear C hx HR hfit
        go_wp2_with fail
        go_loopg [1, 9, 10] k (fun gk a b c wr => ∃ j e d : Nat, a = .int .i64 e ∧ b = .int .i64 d ∧ c = .int .i64 j ∧ gk = k - j ∧ j ≤ k ∧ p + 1 ≤ e ∧ e ≤ L.length ∧ d ≤ f ∧ Hid (R = left f (k - j) L e d) ∧ Below w.heap.size w wr ∧ Hid (RdN wr (some ⟨bb, off, none⟩) L))
        case atStart => exact ⟨0, p + 1, 0, by simp, rfl, rfl, rfl, Nat.zero_le _, Nat.le_refl _, hlt, Nat.zero_le _, E0, hB2, HR2⟩
        case round =>
          obtain ⟨j, e, d, rfl, rfl, rfl, hg, hj, he1, he2, hdd, HE, hB, HR3⟩ := hrel
          by_cases hjk : j < k
          · have hji : (j : Int) < (k : Int) := by omega
            have M := IH.out e wr (by omega) (by omega) HR3.out
            have hkj : k - j = (k - (j + 1)) + 1 := by omega
            rw [hkj] at HE
            cases hone : Wt.one f (L.drop e) with
            | none =>
              have E : Hid (R = none) := by show _ = _; rw [HE.out, left_none hone]
              rw [hone] at M
              clear HE hone IH
              go_wp2_with fail
              refine M.mono ?_
              rintro e9 w3 ⟨rfl, hb⟩
              have hB3 := below_end hB hb
              simp only [MP]
              go_wp2
              go_ret3
              exact ⟨by rw [E.out]; rfl, hB3⟩
            | some q =>
              obtain ⟨s, d'⟩ := q
              have h1 := one_le _ _ _ _ hone
              have h2 := one_deep _ _ _ _ hone
              rw [List.length_drop] at h1
              have E : Hid (R = left f (k - (j + 1)) L (e + s) (max d d')) := by show _ = _; rw [HE.out, left_some hone]
              rw [hone] at M
              clear HE hone IH
              go_wp2_with fail
              refine M.mono ?_
              rintro e9 w3 ⟨rfl, hb⟩
              have hB3 := below_end hB hb
              have HR4 : Hid (RdN w3 (some ⟨bb, off, none⟩) L) := HR3.out.below hb
              simp only [MP]
              go_wp2_with fail
              all_goals
                go_roundg (k - (j + 1))
                case rel => exact ⟨j + 1, e + s, max d d', by simp, by first | (simp; done) | (simp; omega), by simp, rfl, hjk, by omega, by omega, by omega, E, hB3, HR4⟩
                case measure => omega
          · have hji : ¬ (j : Int) < (k : Int) := by omega
            have E : Hid (R = some (e, d)) := by show _ = _; rw [HE.out, show k - j = 0 by omega, left_zero]
            clear HE IH
            go_wp2
            go_ret3
            exact ⟨by rw [E.out]; rfl, hB⟩
    · exact past (f + 1) p w hlt hp
set_option maxRecDepth 100000 in
theorem rcheck_any (av : Option Addr) (cap : Nat) (L : List Wt.Nd) (w : World) (hL : L.length ≤ 9223372036854775807) (hF : ∀ x ∈ L, Wt.FitN x) (hr : RdN w av L) :
    Calls Tryz.prog 16 #[.slice av L.length cap] w fun e w' => e = .returned (.int .i64 (Wt.check L)) ∧ Below w.heap.size w w' := by
  unfold Wt.check
  by_cases h : 256 < L.length
  · rw [if_pos h]
    have hi : (256 : Int) < (L.length : Int) := by omega
    go_enter Tryz.func16, Tryz.ntmps16
    go_wp2
    go_ret
    exact ⟨rfl, Below.refl _ _⟩
  rw [if_neg h]
  have hi : ¬ (256 : Int) < (L.length : Int) := by omega
  have M := rend_any av cap L (by omega) hF (L.length + 1) (by omega) 0 w (by omega) (by omega) hr
  rw [List.drop_zero] at M
  have h1 := one_le (L.length + 1) L
  cases hone : Wt.one (L.length + 1) L with
  | none =>
    rw [hone] at M
    clear h1
    go_enter Tryz.func16, Tryz.ntmps16
    go_wp2_with fail
    refine M.mono ?_
    rintro e w1 ⟨rfl, hb⟩
    simp only [MP]
    go_wp2
    go_ret
    exact ⟨rfl, hb⟩
  | some q =>
    obtain ⟨s, d⟩ := q
    rw [hone] at M
    have h2 := one_deep _ _ _ _ hone
    replace h1 := h1 s d hone
    simp only [MP, Nat.zero_add] at M
    simp only
    by_cases hs : s = L.length
    · rw [if_neg (by omega)]
      have hsi : ((s : Int) == (L.length : Int)) = true := by rw [beq_iff_eq]; omega
      have hsi2 : (s : Int) = (L.length : Int) := by omega
      by_cases hd : 32 < d
      · rw [if_pos hd]
        have hdi : (32 : Int) < (d : Int) := by omega
        go_enter Tryz.func16, Tryz.ntmps16
        go_wp2_with fail
        refine M.mono ?_
        rintro e w1 ⟨rfl, hb⟩
        go_wp2
        go_ret
        exact ⟨rfl, hb⟩
      · rw [if_neg hd]
        have hdi : ¬ (32 : Int) < (d : Int) := by omega
        go_enter Tryz.func16, Tryz.ntmps16
        go_wp2_with fail
        refine M.mono ?_
        rintro e w1 ⟨rfl, hb⟩
        go_wp2
        go_ret
        exact ⟨rfl, hb⟩
    · rw [if_pos hs]
      have hsi : ((s : Int) == (L.length : Int)) = false := by rw [beq_eq_false_iff_ne]; omega
      have hsi2 : ¬ (s : Int) = (L.length : Int) := by omega
      go_enter Tryz.func16, Tryz.ntmps16
      go_wp2_with fail
      refine M.mono ?_
      rintro e w1 ⟨rfl, hb⟩
      go_wp2
      go_ret
      exact ⟨rfl, hb⟩
theorem RdN.at {w : World} {bb off : Nat} {L : List Wt.Nd} (h : RdN w (some ⟨bb, off, none⟩) L) (i : Nat) (hi : i < L.length) : w.rangeAt bb (off + i * 20) (nd20 L[i]) := by
  obtain ⟨b2, o2, e, hx⟩ := h i hi
  simp only [Option.some.injEq, Addr.mk.injEq] at e
  obtain ⟨rfl, rfl, -⟩ := e
  exact hx
theorem check_right {L : List Wt.Nd} (hc : Wt.check L = 0) (i : Nat) (hi : i < L.length) : Wt.right L[i] = true := by
  obtain ⟨h256, d, hone, hd⟩ := check_zero hc
  obtain ⟨s', d', hs, hle, hdl⟩ := one_subs _ _ _ _ hone i hi
  rw [List.drop_eq_getElem_cons hi] at hs
  exact (one_node hs).1
open Go.RowKit Go.Shelf
theorem ndRow_cat (a b : List Wt.Nd) : ndRow (a ++ b) = ndRow a ++ ndRow b := by simp [ndRow]
theorem wpList_appN {ops : Array Oper} {rest : List Oper} {o : Oper} {a : Act} {Q : Exit → Act → World → Prop} (hw : Region.wanted o (yielded ops a.tmps) = true) (s x : Operand) (ho : o.op = .call { callee := .builtin .append, args := #[s, x], argTypes := #[22, 22] })
    (w0 w : World) (hB : Below w0.heap.size w0 w) (v : Value) (A : List Wt.Nd) (hs : a.eval s = v) (hown : OwnN w w0.heap.size v A) (av : Option Addr) (L : List Wt.Nd) (cap : Nat) (hx : a.eval x = .slice av L.length cap) (hr : RdN w av L) (hpos : 0 < L.length) (hl : True → A.length + L.length ≤ 799644820179)
    (h : ∀ v' w', OwnN w' w0.heap.size v' (A ++ L) → Below w0.heap.size w0 w' → wpList Tryz.prog ops Q rest (a.put o.dst v') w') : wpList Tryz.prog ops Q (o :: rest) a w := by
  obtain ⟨i0, hi0, hz0, hz1, hz2⟩ := info_parts nodeInfo
  have hl := hl trivial
  obtain ⟨bb, off, rfl, -⟩ := hr 0 hpos
  refine BigFrame.wpList_want hw fun _ hK => ?_
  refine wp_append_own _ s x 22 ho w0.heap.size 30 i0 _ 20 176 Tryz.underlying22 hi0 hz0 hz1 hz2 rfl (by decide) v A.length (ndRow A) hs hown ⟨bb, off, none⟩ L.length cap (ndRow L) hx (ndRow_length L) (hr.flat _ rfl) (ndRow_all L) (by unfold maxLen; omega) (by omega) hB.size ?_
  intro v' w' own hg _
  refine hK _ _ (h v' w' ?_ ?_)
  · unfold OwnN
    rw [List.length_append, ndRow_cat]
    exact own
  · refine hB.grown hg hB.size (fun k e => ?_)
    rcases hown.2 with ⟨e2, _⟩ | ⟨g, cap', cur, e2, hg', _⟩
    · rw [e2] at e; simp [Value.ownBlock] at e
    · rw [e2] at e
      simp [Value.ownBlock] at e
      omega
theorem own_one (w : World) (x : Wt.Nd) : OwnN (w.alloc (.cells (nd20 x).toArray 30)) w.heap.size (.slice (some ⟨w.heap.size, 0, none⟩) 1 1) [x] := by
  refine ⟨rfl, .inr ⟨w.heap.size, 1, (nd20 x).toArray, rfl, Nat.le_refl _, heap_alloc_new w _, Nat.le_refl _, by unfold maxLen; omega, rfl, ?_⟩⟩
  simp [ndRow]
  rfl
end Go.Proofs.YthofehcchickeaaGreatDoor
