/- TRefF, TRefG, LBytes, TRefH. -/
import Derived.Test.YtlggnpohhahdlaaGreatDoorQ38
import Derived.Laws.IdiomStrings
import Derived.Lib.AppendStr
import Derived.Laws.BytesArg
import Derived.OwnWalk
import Derived.Laws.OwnMore
namespace Go.Proofs.YtlggnpohhahdlaaGreatDoor
open Go.RowKit
set_option linter.unusedVariables false
theorem opK_none {o : Int} (h21 : ¬ o = 21) (h22 : ¬ o = 22) (h23 : ¬ o = 23) (h24 : ¬ o = 24) (h25 : ¬ o = 25) (h26 : ¬ o = 26) (h16 : ¬ o = 16) (h11 : ¬ o = 11) (h12 : ¬ o = 12) (h13 : ¬ o = 13) (h14 : ¬ o = 14) (h15 : ¬ o = 15) (h1 : ¬ o = 1) (h2 : ¬ o = 2) (h3 : ¬ o = 3) : opK o = 0 := by
  have e : Wt.opOf o = none := by
    unfold Wt.opOf
    rw [List.find?_eq_none]
    intro x hx
    simp only [Wt.opsT, List.mem_cons, List.not_mem_nil, or_false] at hx
    rcases hx with rfl | rfl | rfl | rfl | rfl | rfl | rfl | rfl | rfl | rfl | rfl | rfl | rfl | rfl | rfl <;> simp only [beq_iff_eq] <;> omega
  unfold opK
  rw [e]
theorem opK_un (o : Int) : (opK o == 4) = isUnB o := by
  by_cases h21 : o = 21
  · subst h21; rfl
  by_cases h22 : o = 22
  · subst h22; rfl
  by_cases h23 : o = 23
  · subst h23; rfl
  by_cases h24 : o = 24
  · subst h24; rfl
  by_cases h25 : o = 25
  · subst h25; rfl
  by_cases h26 : o = 26
  · subst h26; rfl
  by_cases h16 : o = 16
  · subst h16; rfl
  by_cases h11 : o = 11
  · subst h11; rfl
  by_cases h12 : o = 12
  · subst h12; rfl
  by_cases h13 : o = 13
  · subst h13; rfl
  by_cases h14 : o = 14
  · subst h14; rfl
  by_cases h15 : o = 15
  · subst h15; rfl
  by_cases h1 : o = 1
  · subst h1; rfl
  by_cases h2 : o = 2
  · subst h2; rfl
  by_cases h3 : o = 3
  · subst h3; rfl
  rw [opK_none h21 h22 h23 h24 h25 h26 h16 h11 h12 h13 h14 h15 h1 h2 h3]
  simp [isUnB, h1, h2, h3]
theorem opK_bin (o : Int) : (opK o == 5) = Wt.isBin o := by
  by_cases h21 : o = 21
  · subst h21; rfl
  by_cases h22 : o = 22
  · subst h22; rfl
  by_cases h23 : o = 23
  · subst h23; rfl
  by_cases h24 : o = 24
  · subst h24; rfl
  by_cases h25 : o = 25
  · subst h25; rfl
  by_cases h26 : o = 26
  · subst h26; rfl
  by_cases h16 : o = 16
  · subst h16; rfl
  by_cases h11 : o = 11
  · subst h11; rfl
  by_cases h12 : o = 12
  · subst h12; rfl
  by_cases h13 : o = 13
  · subst h13; rfl
  by_cases h14 : o = 14
  · subst h14; rfl
  by_cases h15 : o = 15
  · subst h15; rfl
  by_cases h1 : o = 1
  · subst h1; rfl
  by_cases h2 : o = 2
  · subst h2; rfl
  by_cases h3 : o = 3
  · subst h3; rfl
  rw [opK_none h21 h22 h23 h24 h25 h26 h16 h11 h12 h13 h14 h15 h1 h2 h3]
  unfold Wt.isBin
  have e1 : (decide (11 ≤ o) && decide (o ≤ 16)) = false := by
    rw [Bool.and_eq_false_iff, decide_eq_false_iff_not, decide_eq_false_iff_not]; omega
  have e2 : (decide (21 ≤ o) && decide (o ≤ 26)) = false := by
    rw [Bool.and_eq_false_iff, decide_eq_false_iff_not, decide_eq_false_iff_not]; omega
  rw [e1, e2]
  rfl
set_option maxHeartbeats 1600000 in
theorem rnode_n (x : Wt.Nd) (w : World) (h1 : (x.k == 1) = false) (h2 : (x.k == 2) = false) (h3 : (x.k == 3) = false) (h4 : (x.k == 4) = false) (h5 : (x.k == 5) = false) (h6 : (x.k == 6) = false) :
    Calls Tryz.prog 54 #[ndV x] w fun e w' => e = .returned (.tuple #[.int .i64 0, .bool false]) ∧ Below w.heap.size w w' := by
  obtain ⟨k, hk⟩ : ∃ k, x.k = k := ⟨_, rfl⟩
  rw [hk] at h1 h2 h3 h4 h5 h6
  have pA : AtL (w.alloc (.cells (nd20 x).toArray 45)) w.heap.size (nd20 x) := AtL.new0 w _ _
  have hBa : Below w.heap.size w (w.alloc (.cells (nd20 x).toArray 45)) := ball (Below.refl _ w) _
  show Calls _ _ #[.agg (nd20 x).toArray] _ _
  go_enter Tryz.func54, Tryz.ntmps54
  go_upto_region 1 with fail
  generalize (w.alloc (.cells (nd20 x).toArray 45)) = W0 at *
  have a0 : W0.cell? ⟨w.heap.size, 0, none⟩ = some (.int .i64 k) := by rw [← hk]; exact pA.2.1 0 _ rfl
  go_wp2
  go_ret2
  exact ⟨rfl, hBa⟩
theorem rnode_any (x : Wt.Nd) (w : World) (hf : Wt.FitN x) : Calls Tryz.prog 54 #[ndV x] w fun e w' => e = .returned (.tuple #[.int .i64 (nps x), .bool (Wt.right x)]) ∧ Below w.heap.size w w' := by
  obtain ⟨f1, f6, f7, f8⟩ := hf
  unfold Wt.right nps
  by_cases h1 : x.k = 1
  · rw [if_pos h1, if_neg (by omega), if_neg (by omega), if_neg (by omega)]; exact rnode_1 x w h1 f1
  rw [if_neg h1]
  by_cases h2 : x.k = 2
  · rw [if_pos h2, if_neg (by omega), if_neg (by omega), if_neg (by omega)]; exact rnode_2 x w h2 f7
  rw [if_neg h2]
  by_cases h3 : x.k = 3
  · rw [if_pos h3, if_neg (by omega), if_neg (by omega), if_neg (by omega)]; exact rnode_3 x w h3 f7 f8
  rw [if_neg h3]
  by_cases h4 : x.k = 4
  · rw [if_pos h4, if_pos h4, opK_un]; exact rnode_4 x w h4
  rw [if_neg h4, if_neg h4]
  by_cases h5 : x.k = 5
  · rw [if_pos h5, if_pos h5, opK_bin]; exact rnode_5 x w h5
  rw [if_neg h5, if_neg h5]
  by_cases h6 : x.k = 6
  · rw [if_pos h6, if_pos h6]; exact rnode_6 x w h6 f6
  rw [if_neg h6, if_neg h6]
  exact rnode_n x w (by simp [h1]) (by simp [h2]) (by simp [h3]) (by simp [h4]) (by simp [h5]) (by simp [h6])
set_option maxHeartbeats 4000000 in
set_option maxRecDepth 100000 in
theorem rend_any (av : Option Addr) (cap : Nat) (L : List Wt.Nd) (hL : L.length ≤ 256) (hF : ∀ x ∈ L, Wt.FitN x) (f : Nat) : f ≤ 1000 → ∀ (p : Nat) (w : World), L.length < f + p → p ≤ 256 → RdN w av L →
    Calls Tryz.prog 31 #[.slice av L.length cap, .int .i64 p] w fun e w' => e = .returned (MP (Wt.one f (L.drop p)) p) ∧ Below w.heap.size w w' := by
  have past : ∀ (f p : Nat) (w : World), ¬ p < L.length → p ≤ 256 → Calls Tryz.prog 31 #[.slice av L.length cap, .int .i64 p] w fun e w' => e = .returned (MP (Wt.one f (L.drop p)) p) ∧ Below w.heap.size w w' := by
    intro f p w hlt hp
    have hd : L.drop p = [] := List.drop_eq_nil_of_le (by omega)
    have E : Hid (Wt.one f (L.drop p) = none) := by
      show _ = _
      rw [hd]
      cases f <;> rfl
    rw [E.out]
    clear E hd
    have hli : (L.length : Int) ≤ (p : Int) := by omega
    go_enter Tryz.func31, Tryz.ntmps31
    go_wp2
    go_ret3
    exact ⟨rfl, Below.refl _ _⟩
  induction f with
  | zero => intro _ p w hf hp hr; exact past 0 p w (by omega) hp
  | succ f ih =>
    intro hf1 p w hf hp hr
    by_cases hlt : p < L.length
    · clear past
      replace ih := ih (by omega)
      obtain ⟨bb, off, rfl, hx⟩ := hr p hlt
      have hd := List.drop_eq_getElem_cons hlt
      have hfit := hF _ (List.getElem_mem hlt)
      have HR : Hid (RdN w (some ⟨bb, off, none⟩) L) := hr
      clear hr
      rw [hd]
      generalize L[p] = x at *
      have C := rnode_any x w hfit
      have hple := @Wt.parts_le x
      have hnp := @nps_parts x
      have hli : ¬ (L.length : Int) ≤ (p : Int) := by omega
      cases hq : Wt.right x with
      | false =>
        rw [hq] at C
        rw [one_not hq]
        generalize nps x = np at *
        clear ih hnp hple
        go_enter Tryz.func31, Tryz.ntmps31
        go_wp2_with ((with_reducible refine wpList_load_want ?_ 45 (.tmp 21) ?_ bb (off + p * 20) ?_ (nd20 x) _ ?_ Tryz.underlying45 ?_ ?_ ?_); rfl; rfl; rfl; exact hx; rfl; kernel_rfl)
        refine C.mono ?_
        rintro e w1 ⟨rfl, hb⟩
        go_wp2
        go_ret3
        exact ⟨rfl, hb⟩
      | true =>
        rw [hq] at C
        obtain ⟨hk0, hk1⟩ := hple hq
        rw [MP_left hq]
        rw [hnp hq] at C
        clear hple hq hnp
        obtain ⟨k, hk⟩ : ∃ k : Nat, (Wt.parts x).toNat = k := ⟨_, rfl⟩
        have hkk : Wt.parts x = (k : Int) := by omega
        rw [hk]
        rw [hkk] at C
        have hk2 : k ≤ 30 := by omega
        clear hk0 hk1 hk hkk
        obtain ⟨R, hR⟩ : ∃ R, left f k L (p + 1) 0 = R := ⟨_, rfl⟩
        have E0 : Hid (R = left f (k - 0) L (p + 1) 0) := hR.symm
        rw [hR]
        clear hR
        have IH : Hid (∀ (p : Nat) (w : World), L.length < f + p → p ≤ 256 → RdN w (some ⟨bb, off, none⟩) L → Calls Tryz.prog 31 #[.slice (some ⟨bb, off, none⟩) L.length cap, .int .i64 p] w fun e w' => e = .returned (MP (Wt.one f (L.drop p)) p) ∧ Below w.heap.size w w') := ih
        clear ih
        go_enter Tryz.func31, Tryz.ntmps31
        go_wp2_with ((with_reducible refine wpList_load_want ?_ 45 (.tmp 21) ?_ bb (off + p * 20) ?_ (nd20 x) _ ?_ Tryz.underlying45 ?_ ?_ ?_); rfl; rfl; rfl; exact hx; rfl; kernel_rfl)
        refine C.mono ?_
        rintro e w2 ⟨rfl, hB2⟩
        have HR2 : Hid (RdN w2 (some ⟨bb, off, none⟩) L) := HR.out.below hB2
        clear C hx HR hfit
        go_wp2_with fail
        go_loopg [1, 9, 10] k (fun gk a b c wr => ∃ j e d : Nat, a = .int .i64 e ∧ b = .int .i64 d ∧ c = .int .i64 j ∧ gk = k - j ∧ j ≤ k ∧ p + 1 ≤ e ∧ e ≤ L.length ∧ d ≤ f ∧ Hid (R = left f (k - j) L e d) ∧ Below w.heap.size w wr ∧ Hid (RdN wr (some ⟨bb, off, none⟩) L))
        case atStart => exact ⟨0, p + 1, 0, by simp, rfl, rfl, rfl, Nat.zero_le _, Nat.le_refl _, hlt, Nat.zero_le _, E0, hB2, HR2⟩
        case round =>
          obtain ⟨j, e, d, rfl, rfl, rfl, hg, hj, he1, he2, hdd, HE, hB, HR3⟩ := hrel
          by_cases hjk : j < k
          · have hji : (j : Int) < (k : Int) := by omega
            have M := IH.out e wr (by omega) (by omega) HR3.out
            have hkj : k - j = (k - (j + 1)) + 1 := by omega
            rw [hkj] at HE
            cases hone : Wt.one f (L.drop e) with
            | none =>
              have E : Hid (R = none) := by show _ = _; rw [HE.out, left_none hone]
              rw [hone] at M
              clear HE hone IH
              go_wp2_with fail
              refine M.mono ?_
              rintro e9 w3 ⟨rfl, hb⟩
              have hB3 := below_end hB hb
              simp only [MP]
              go_wp2
              go_ret3
              exact ⟨by rw [E.out]; rfl, hB3⟩
            | some q =>
              obtain ⟨s, d'⟩ := q
              have h1 := one_le _ _ _ _ hone
              have h2 := one_deep _ _ _ _ hone
              rw [List.length_drop] at h1
              have E : Hid (R = left f (k - (j + 1)) L (e + s) (max d d')) := by show _ = _; rw [HE.out, left_some hone]
              rw [hone] at M
              clear HE hone IH
              go_wp2_with fail
              refine M.mono ?_
              rintro e9 w3 ⟨rfl, hb⟩
              have hB3 := below_end hB hb
              have HR4 : Hid (RdN w3 (some ⟨bb, off, none⟩) L) := HR3.out.below hb
              simp only [MP]
              go_wp2_with fail
              all_goals
                go_roundg (k - (j + 1))
                case rel => exact ⟨j + 1, e + s, max d d', by simp, by first | (simp; done) | (simp; omega), by simp, rfl, hjk, by omega, by omega, by omega, E, hB3, HR4⟩
                case measure => omega
          · have hji : ¬ (j : Int) < (k : Int) := by omega
            have E : Hid (R = some (e, d)) := by show _ = _; rw [HE.out, show k - j = 0 by omega, left_zero]
            clear HE IH
            go_wp2
            go_ret3
            exact ⟨by rw [E.out]; rfl, hB⟩
    · exact past (f + 1) p w hlt hp
set_option maxRecDepth 100000 in
theorem rcheck_any (av : Option Addr) (cap : Nat) (L : List Wt.Nd) (w : World) (hL : L.length ≤ 9223372036854775807) (hF : ∀ x ∈ L, Wt.FitN x) (hr : RdN w av L) :
    Calls Tryz.prog 15 #[.slice av L.length cap] w fun e w' => e = .returned (.int .i64 (Wt.check L)) ∧ Below w.heap.size w w' := by
  unfold Wt.check
  by_cases h : 256 < L.length
  · rw [if_pos h]
    have hi : (256 : Int) < (L.length : Int) := by omega
    go_enter Tryz.func15, Tryz.ntmps15
    go_wp2
    go_ret
    exact ⟨rfl, Below.refl _ _⟩
  rw [if_neg h]
  have hi : ¬ (256 : Int) < (L.length : Int) := by omega
  have M := rend_any av cap L (by omega) hF (L.length + 1) (by omega) 0 w (by omega) (by omega) hr
  rw [List.drop_zero] at M
  have h1 := one_le (L.length + 1) L
  cases hone : Wt.one (L.length + 1) L with
  | none =>
    rw [hone] at M
    clear h1
    go_enter Tryz.func15, Tryz.ntmps15
    go_wp2_with fail
    refine M.mono ?_
    rintro e w1 ⟨rfl, hb⟩
    simp only [MP]
    go_wp2
    go_ret
    exact ⟨rfl, hb⟩
  | some q =>
    obtain ⟨s, d⟩ := q
    rw [hone] at M
    have h2 := one_deep _ _ _ _ hone
    replace h1 := h1 s d hone
    simp only [MP, Nat.zero_add] at M
    simp only
    by_cases hs : s = L.length
    · rw [if_neg (by omega)]
      have hsi : ((s : Int) == (L.length : Int)) = true := by rw [beq_iff_eq]; omega
      have hsi2 : (s : Int) = (L.length : Int) := by omega
      by_cases hd : 32 < d
      · rw [if_pos hd]
        have hdi : (32 : Int) < (d : Int) := by omega
        go_enter Tryz.func15, Tryz.ntmps15
        go_wp2_with fail
        refine M.mono ?_
        rintro e w1 ⟨rfl, hb⟩
        go_wp2
        go_ret
        exact ⟨rfl, hb⟩
      · rw [if_neg hd]
        have hdi : ¬ (32 : Int) < (d : Int) := by omega
        go_enter Tryz.func15, Tryz.ntmps15
        go_wp2_with fail
        refine M.mono ?_
        rintro e w1 ⟨rfl, hb⟩
        go_wp2
        go_ret
        exact ⟨rfl, hb⟩
    · rw [if_pos hs]
      have hsi : ((s : Int) == (L.length : Int)) = false := by rw [beq_eq_false_iff_ne]; omega
      have hsi2 : ¬ (s : Int) = (L.length : Int) := by omega
      go_enter Tryz.func15, Tryz.ntmps15
      go_wp2_with fail
      refine M.mono ?_
      rintro e w1 ⟨rfl, hb⟩
      go_wp2
      go_ret
      exact ⟨rfl, hb⟩
theorem RdN.at {w : World} {bb off : Nat} {L : List Wt.Nd} (h : RdN w (some ⟨bb, off, none⟩) L) (i : Nat) (hi : i < L.length) : w.rangeAt bb (off + i * 20) (nd20 L[i]) := by
  obtain ⟨b2, o2, e, hx⟩ := h i hi
  simp only [Option.some.injEq, Addr.mk.injEq] at e
  obtain ⟨rfl, rfl, -⟩ := e
  exact hx
theorem check_right {L : List Wt.Nd} (hc : Wt.check L = 0) (i : Nat) (hi : i < L.length) : Wt.right L[i] = true := by
  obtain ⟨h256, d, hone, hd⟩ := check_zero hc
  obtain ⟨s', d', hs, hle, hdl⟩ := one_subs _ _ _ _ hone i hi
  rw [List.drop_eq_getElem_cons hi] at hs
  exact (one_node hs).1
set_option maxRecDepth 100000 in
set_option maxHeartbeats 4000000 in
theorem rstarts_any (av : Option Addr) (cap : Nat) (L : List Wt.Nd) (i : Nat) (w : World) (hF : ∀ x ∈ L, Wt.FitN x) (hr : RdN w av L) (hi : i < L.length) (hc : Wt.check L = 0) :
    Calls Tryz.prog 33 #[.slice av L.length cap, .int .i64 i] w fun e w' => ∃ v, e = .returned v ∧ OwnI w' w.heap.size v (kidsP L i) ∧ Below w.heap.size w w' := by
  obtain ⟨h256, d, hone, hd⟩ := check_zero hc
  have hdr := List.drop_eq_getElem_cons hi
  obtain ⟨s', d', hs, hle, hdl⟩ := one_subs _ _ _ _ hone i hi
  rw [hdr] at hs
  obtain ⟨hxr, a, b, hm, rfl, rfl⟩ := one_node hs
  obtain ⟨hp0, hp30⟩ := Wt.parts_le hxr
  unfold kidsP
  rw [hdr]
  simp only
  obtain ⟨bb, off, rfl, hx⟩ := hr i hi
  have D := fun w => rnode_any (L[i]) w (hF _ (List.getElem_mem hi))
  have hnp := nps_parts hxr
  generalize L[i] = x at *
  obtain ⟨n, hn⟩ : ∃ n : Nat, (Wt.parts x).toNat = n := ⟨_, rfl⟩
  have hnn : Wt.parts x = (n : Int) := by omega
  rw [hn] at hm ⊢
  rw [hnp, hnn, hxr] at D
  have hn30 : n ≤ 30 := by omega
  have M := fun p w hp hr => rend_any (some ⟨bb, off, none⟩) cap L h256 hF (L.length + 1) (by omega) p w (by omega) hp hr
  obtain ⟨KS, hKS⟩ : ∃ KS, KS = starts (L.length + 1) n (i + 1) (L.drop (i + 1)) := ⟨_, rfl⟩
  rw [← hKS]
  have HK : Hid (KS = [] ++ starts (L.length + 1) (n - 0) (i + 1) (L.drop (i + 1))) := hKS
  have HR : Hid (RdN w (some ⟨bb, off, none⟩) L) := hr
  have hi0 : ¬ (i : Int) < 0 := by omega
  have hi1 : ¬ (L.length : Int) ≤ (i : Int) := by omega
  obtain ⟨i0, hii, hz0, hz1, hz2⟩ := info_parts intInfo
  clear hr hKS hdr hs hone hc hxr hp0 hp30 hn hnn hnp
  go_enter Tryz.func33, Tryz.ntmps33
  go_wp2_with ((with_reducible refine wpList_load_mid (cs := nd20 x) ?_ 45 (.tmp 13) ?_ bb (off + i * 20) ?_ _ ?_ Tryz.underlying45 ?_ ?_ ?_); rfl; rfl; rfl; exact hx; rfl; kernel_rfl)
  refine (D _).mono ?_
  rintro e w2 ⟨rfl, hB2⟩
  clear D hx
  go_wp2_with fail
  go_loopg [5, 8, 9] n (fun gk x y z wr => ∃ (j p c d : Nat) (dn : List Nat), z = .int .i64 j ∧ y = .int .i64 p ∧ gk = n - j ∧ j ≤ n ∧ dn.length = j ∧ Hid (KS = dn ++ starts (L.length + 1) (n - j) p (L.drop p)) ∧ Hid (OwnI wr w.heap.size x dn) ∧ Hid (Wt.many (Wt.one (L.length + 1)) (n - j) (L.drop p) = some (c, d)) ∧ p + c ≤ L.length ∧ Below w.heap.size w wr)
  case atStart =>
    exact ⟨0, i + 1, a, b, [], rfl, by simp, rfl, Nat.zero_le _, rfl, HK, World.ownsRow_nil _ _ _ _, hm, by omega, hB2⟩
  case round =>
    obtain ⟨j, p, c, d1, dn, rfl, rfl, hg, hj, hdn, H1, H2, H3, hpc, hB⟩ := hrel
    clear HK hB2 hm
    by_cases hlt : j < n
    · have hli : (j : Int) < (n : Int) := by omega
      obtain ⟨m, hmn⟩ : ∃ m, n - j = m + 1 := ⟨n - j - 1, by omega⟩
      have hm' : n - (j + 1) = m := by omega
      rw [hmn] at H1 H3
      have H3' := H3.out
      simp only [Wt.many] at H3'
      cases h1 : Wt.one (L.length + 1) (L.drop p) with
      | none => rw [h1] at H3'; cases H3'
      | some q =>
        obtain ⟨a1, b1⟩ := q
        rw [h1] at H3'
        simp only at H3'
        cases h2 : Wt.many (Wt.one (L.length + 1)) m ((L.drop p).drop a1) with
        | none => rw [h2] at H3'; cases H3'
        | some q2 =>
          obtain ⟨a2, b2⟩ := q2
          rw [h2] at H3'
          simp only [Option.some.injEq, Prod.mk.injEq] at H3'
          obtain ⟨rfl, rfl⟩ := H3'
          have H1' := H1.out
          simp only [starts, h1] at H1'
          have E : Hid (KS = (dn ++ [p]) ++ starts (L.length + 1) (n - (j + 1)) (p + a1) (L.drop (p + a1))) := by
            show KS = _
            rw [H1', hm', List.drop_drop]; simp
          rw [List.drop_drop] at h2
          have own := H2.out
          have hsz := hB.size
          have news : ∀ jj u, [Value.int .i64 (p : Int)][jj]? = some u → (wr.alloc (.cells #[.int .i64 (p : Int)] 3)).cell? ((⟨wr.heap.size, 0, none⟩ : Addr).add jj) = some u := by
            intro jj u hj
            cases jj with
            | zero => simp at hj; subst hj; simp [Addr.add, go_sem]
            | succ jj => simp at hj
          have hic : (intC dn).length = dn.length := by simp [intC]
          go_wp2_with (at_builtin; refine wpList_append_own _ rfl _ _ 34 rfl w.heap.size 3 i0 (.int .i64 0) 1 8 Tryz.underlying34 hii hz0 hz1 hz2 rfl (by decide) _ _ _ rfl (World.ownsRow.alloc own _) ⟨wr.heap.size, 0, none⟩ 1 1 [.int .i64 (p : Int)] rfl rfl news (by intro u hu; simp at hu; subst hu; rfl) (by unfold maxLen; omega) (by omega) (by simp; omega) ?_)
          intro v2 w2 own2 hgrow _
          have hB2 : Below w.heap.size w w2 := (ball hB (.cells #[.int .i64 (p : Int)] 3)).grown hgrow (by simp only [World.size_alloc]; omega) (fun k hk => (own.lt k hk).1)
          have own2' : OwnI w2 w.heap.size v2 (dn ++ [p]) := by
            unfold OwnI
            have e : intC (dn ++ [p]) = intC dn ++ [.int .i64 (p : Int)] := by simp [intC]
            rw [e, List.length_append, hdn]; exact own2
          have MM := M p w2 (by omega) (HR.out.below hB2)
          rw [h1] at MM
          simp only [MP] at MM
          clear own2 own H1 H1' H2 H3 news
          go_wp2_with fail
          refine MM.mono ?_
          rintro e w3 ⟨rfl, hb3⟩
          have own3 : OwnI w3 w.heap.size v2 (dn ++ [p]) := own2'.below hb3
          have hB3 := below_end hB2 hb3
          clear MM hb3 own2' hB2
          go_wp2_with fail
          go_roundg (n - (j + 1))
          case rel => exact ⟨j + 1, p + a1, a2, b2, dn ++ [p], by simp, rfl, rfl, hlt, by simp [hdn], E, own3, by show _ = _; rw [hm']; exact h2, by omega, hB3⟩
          case measure => omega
    · have hli : ¬ (j : Int) < (n : Int) := by omega
      have hjn : n - j = 0 := by omega
      rw [hjn] at H1
      have H1' := H1.out
      simp only [starts, List.append_nil] at H1'
      go_wp2
      go_ret
      exact ⟨_, rfl, by first | exact H2.out | (rw [H1']; exact H2.out), hB⟩
open Go.Shelf Go.RowKit
abbrev OwnB (w : World) (base : Nat) (v : Value) (l : List UInt8) : Prop := w.ownsRow base 5 1 v l.length (Lib.byteCells l)
theorem x4_byteInfo : (Tryz.prog.info? 5).map (fun i => (i.zero, i.size, i.bytes)) = some (some (.int .u8 0), 1, 1) := by kernel_rfl
theorem ownB_snoc {w : World} {B : Nat} {v : Value} {l : List UInt8} {c : UInt8} {n : Nat} (h : w.ownsRow B 5 1 v (l.length + 1) (Lib.byteCells l ++ [.int .u8 ((c.toNat : Nat) : Int)])) : OwnB w B v (l ++ [c]) := by
  show w.ownsRow B 5 1 v (l ++ [c]).length (Lib.byteCells (l ++ [c]))
  rw [List.length_append, Lib.byteCells_append]
  exact h
theorem ownB_text {w : World} {B : Nat} {v : Value} {l : List UInt8} (h : OwnB w B v l) : (convert 63 9 v).run Tryz.prog w = .ok (.string ⟨l.toArray⟩) w := by
  rcases h.2 with ⟨rfl, hn⟩ | ⟨g, cap, cur, rfl, _⟩
  · obtain rfl := List.eq_nil_of_length_eq_zero hn
    exact run_convert_bytes_nil (P := Tryz.prog) w 63 5 Tryz.underlying63 Tryz.underlying5 0 0 9 Tryz.underlying9
  · exact run_convert_bytes_back (P := Tryz.prog) w 63 9 5 ⟨g, 0, none⟩ cap l Tryz.underlying63 Tryz.underlying5 Tryz.underlying9 (fun j hj => by
      have := h.cells (g := g) rfl j (.int .u8 ((l[j]).toNat : Nat)) (by simp [Lib.byteCells, hj])
      exact this)
theorem cell_one_new (w : World) (a : Value) (t : TypeId) : ∀ j u, [a][j]? = some u → (w.alloc (.cells #[a] t)).cell? ((⟨w.heap.size, 0, none⟩ : Addr).add j) = some u := by
  intro j u hj
  match j, hj with
  | 0, hj => simp at hj; subst hj; simp [Addr.add]
  | j + 1, hj => simp at hj
theorem grown_below {w W w' : World} {B : Nat} {v : Value} {n : Nat} {xs : List Value} {o : Obj} (hb : Below B w W) (hB : B ≤ W.heap.size) (hown : W.ownsRow B 5 1 v n xs) (hg : (W.alloc o).grownBy w' v.ownBlock) : Below B w w' :=
  (hb.alloc hB o).grown hg (by simp; omega) (fun k hk => (hown.lt k hk).1)
set_option maxHeartbeats 1600000 in
theorem quote_any (b : ByteArray) (w : World) (hs : b.size ≤ 1048576) : Calls Tryz.prog 47 #[.string b] w fun e w' => e = .returned (.string ⟨(34 :: (Wlx.dbl b.data.toList ++ [34])).toArray⟩) ∧ Below w.heap.size w w' := by
  obtain ⟨i0, hi, hz0, hz1, hz2⟩ := info_parts x4_byteInfo
  have hbl : Hid (b.data.toList.length = b.size) := (rfl : b.data.toList.length = b.size)
  have own0 : OwnB w w.heap.size (.slice none 0 0) [] := World.ownsRow_nil _ _ _ _
  go_enter Tryz.func47, Tryz.ntmps47
  go_wp2_with (at_builtin; refine wpList_append_own _ rfl _ _ 63 rfl w.heap.size 5 i0 (.int .u8 0) 1 1 Tryz.underlying63 hi hz0 hz1 hz2 rfl (by decide) _ _ _ rfl (own0.alloc _) ⟨w.heap.size, 0, none⟩ 1 1 [.int .u8 34] rfl rfl (cell_one_new _ _ _) (by intro u hu; simp at hu; subst hu; rfl) (by unfold maxLen; simp) (by simp) (by simp) ?_)
  intro v1 w1 hown1 hgrow1 _
  have hb1 := grown_below (Below.refl _ w) (Nat.le_refl _) own0 hgrow1
  have own1 : OwnB w1 w.heap.size v1 ([] ++ [34]) := ownB_snoc (n := 0) hown1
  have HO1 : Hid (OwnB w1 w.heap.size v1 (34 :: Wlx.dbl (b.data.toList.take 0))) := own1
  clear hown1 hgrow1 own1 own0
  go_wp2_with fail
  go_loopg [3, 4] (b.size) (fun gk x y wr => ∃ i : Nat, y = .int .i64 i ∧ gk = b.size - i ∧ i ≤ b.size ∧ Hid (OwnB wr w.heap.size x (34 :: Wlx.dbl (b.data.toList.take i))) ∧ Below w.heap.size w wr)
  case atStart => exact ⟨0, rfl, rfl, Nat.zero_le _, HO1, hb1⟩
  case round =>
    clear HO1 hb1
    obtain ⟨i, rfl, hg, hi1, HO, hb⟩ := hrel
    have sw := hb.size
    by_cases hlt : i < b.size
    · have hli : (i : Int) < (b.size : Int) := by omega
      have hil : i < b.data.toList.length := hlt
      have etk : b.data.toList.take (i + 1) = b.data.toList.take i ++ [b[i]] := List.take_succ_eq_append_getElem hil
      have hdl : (Wlx.dbl (b.data.toList.take i)).length ≤ 2097152 := by
        have := Wlx.dbl_length (b.data.toList.take i)
        rw [List.length_take] at this
        have := hbl.out
        omega
      obtain ⟨d, hd⟩ : ∃ d, Wlx.dbl (b.data.toList.take i) = d := ⟨_, rfl⟩
      have own := HO.out
      rw [hd] at own hdl
      obtain ⟨c, hc⟩ : ∃ c, b[i] = c := ⟨_, rfl⟩
      by_cases h34 : c = 34
      · have HD : Hid (Wlx.dbl (b.data.toList.take (i + 1)) = d ++ [34] ++ [34]) := by
          show _ = _
          rw [etk, Wlx.dbl_app, hd, hc, h34]; simp [Wlx.dbl]
        have eb : (((b[i]).toNat : Nat) : Int) = 34 := by rw [hc, h34]; rfl
        clear HO hd etk hc h34
        go_wp2_with (at_builtin; refine wpList_append_own _ rfl _ _ 63 rfl w.heap.size 5 i0 (.int .u8 0) 1 1 Tryz.underlying63 hi hz0 hz1 hz2 rfl (by decide) _ _ _ rfl (own.alloc _) ⟨wr.heap.size, 0, none⟩ 1 1 [.int .u8 34] rfl rfl (cell_one_new _ _ _) (by intro u hu; simp at hu; subst hu; rfl) (by unfold maxLen; simp; omega) (by simp; omega) (by simp; omega) ?_)
        intro v2 w2 hown2 hgrow2 _
        have hb2 := grown_below hb sw own hgrow2
        have own2 : OwnB w2 w.heap.size v2 (34 :: d ++ [34]) := ownB_snoc (n := 0) hown2
        have sw2 := hb2.size
        clear hown2 hgrow2 own
        have hl2 : (34 :: d ++ [34]).length ≤ 2097160 := by simp; omega
        obtain ⟨e2, he2⟩ : ∃ e2, 34 :: d ++ [34] = e2 := ⟨_, rfl⟩
        rw [he2] at own2 hl2
        have HD2 : Hid (34 :: Wlx.dbl (b.data.toList.take (i + 1)) = e2 ++ [34]) := by show _ = _; rw [HD.out, ← he2]; simp
        clear he2 HD
        go_wp2_with (at_builtin; refine wpList_append_own _ rfl _ _ 63 rfl w.heap.size 5 i0 (.int .u8 0) 1 1 Tryz.underlying63 hi hz0 hz1 hz2 rfl (by decide) _ _ _ rfl (own2.alloc _) ⟨w2.heap.size, 0, none⟩ 1 1 [.int .u8 34] rfl rfl (cell_one_new _ _ _) (by intro u hu; simp at hu; subst hu; rfl) (by unfold maxLen; simp; omega) (by simp; omega) (by simp; omega) ?_)
        intro v3 w3 hown3 hgrow3 _
        have hb3 := grown_below hb2 sw2 own2 hgrow3
        have HO3 : Hid (OwnB w3 w.heap.size v3 (34 :: Wlx.dbl (b.data.toList.take (i + 1)))) := by
          show OwnB _ _ _ _
          rw [HD2.out]; exact ownB_snoc (n := 0) hown3
        clear hown3 hgrow3 own2
        go_wp2_with fail
        go_roundg (b.size - (i + 1))
        case rel => exact ⟨i + 1, by simp, rfl, hlt, HO3, hb3⟩
        case measure => omega
      · have HD2 : Hid (34 :: Wlx.dbl (b.data.toList.take (i + 1)) = (34 :: d) ++ [c]) := by
          show _ = _
          have : Wlx.dbl [c] = [c] := by
            show (if c = 34 then 34 :: 34 :: Wlx.dbl [] else c :: Wlx.dbl []) = _
            rw [if_neg h34]; rfl
          rw [etk, Wlx.dbl_app, hd, hc, this]; rfl
        have eb0 : (((b[i]).toNat : Nat) : Int) = ((c.toNat : Nat) : Int) := by rw [hc]
        have eb : (((c.toNat : Nat) : Int) == 34) = false := by
          refine beq_eq_false_iff_ne.2 (fun e => h34 ?_)
          have : c.toNat = 34 := by omega
          exact UInt8.toNat_inj.1 this
        clear HO hd etk hc h34
        go_wp2_with (at_builtin; refine wpList_append_own _ rfl _ _ 63 rfl w.heap.size 5 i0 (.int .u8 0) 1 1 Tryz.underlying63 hi hz0 hz1 hz2 rfl (by decide) _ _ _ rfl (own.alloc _) ⟨wr.heap.size, 0, none⟩ 1 1 [.int .u8 ((c.toNat : Nat) : Int)] rfl rfl (cell_one_new _ _ _) (by intro u hu; simp at hu; subst hu; rfl) (by unfold maxLen; simp; omega) (by simp; omega) (by simp; omega) ?_)
        intro v3 w3 hown3 hgrow3 _
        have hb3 := grown_below hb sw own hgrow3
        have HO3 : Hid (OwnB w3 w.heap.size v3 (34 :: Wlx.dbl (b.data.toList.take (i + 1)))) := by
          show OwnB _ _ _ _
          rw [HD2.out]; exact ownB_snoc (n := 0) hown3
        clear hown3 hgrow3 own
        go_wp2_with fail
        go_roundg (b.size - (i + 1))
        case rel => exact ⟨i + 1, by simp, rfl, hlt, HO3, hb3⟩
        case measure => omega
    · have hli : ¬ (i : Int) < (b.size : Int) := by omega
      have own := HO.out
      rw [List.take_of_length_le (by have := hbl.out; omega)] at own
      have hdl : (Wlx.dbl b.data.toList).length ≤ 2097152 := by
        have := Wlx.dbl_length b.data.toList
        have := hbl.out
        omega
      obtain ⟨d, hd⟩ : ∃ d, Wlx.dbl b.data.toList = d := ⟨_, rfl⟩
      have HD : Hid (Wlx.dbl b.data.toList = d) := hd
      rw [hd] at own hdl
      clear HO hd
      go_wp2_with (at_builtin; refine wpList_append_own _ rfl _ _ 63 rfl w.heap.size 5 i0 (.int .u8 0) 1 1 Tryz.underlying63 hi hz0 hz1 hz2 rfl (by decide) _ _ _ rfl (own.alloc _) ⟨wr.heap.size, 0, none⟩ 1 1 [.int .u8 34] rfl rfl (cell_one_new _ _ _) (by intro u hu; simp at hu; subst hu; rfl) (by unfold maxLen; simp; omega) (by simp; omega) (by simp; omega) ?_)
      intro v2 w2 hown2 hgrow2 _
      have hb2 := grown_below hb sw own hgrow2
      have own2 : OwnB w2 w.heap.size v2 (34 :: d ++ [34]) := ownB_snoc (n := 0) hown2
      have hcv := ownB_text own2
      clear hown2 hgrow2 own own2
      go_wp2
      go_ret
      exact ⟨by rw [HD.out]; rfl, hb2⟩
open Go.RowKit Go.Shelf
theorem right_ops {x : Wt.Nd} (h : Wt.right x = true) : (¬ x.k = 4 ∧ ¬ x.k = 5 ∧ tgh x = 7) ∨ (x.k = 4 ∧ (x.op = 1 ∨ x.op = 2 ∨ x.op = 3)) ∨ (x.k = 5 ∧ (x.op = 11 ∨ x.op = 12 ∨ x.op = 13 ∨ x.op = 14 ∨ x.op = 15 ∨ x.op = 16 ∨ x.op = 21 ∨ x.op = 22 ∨ x.op = 23 ∨ x.op = 24 ∨ x.op = 25 ∨ x.op = 26)) := by
  by_cases h4 : x.k = 4
  · refine Or.inr (Or.inl ⟨h4, ?_⟩)
    unfold Wt.right at h
    rw [if_neg (by omega), if_neg (by omega), if_neg (by omega), if_pos h4, Bool.and_eq_true, opK_un] at h
    have := h.1
    unfold isUnB at this
    simp only [Bool.or_eq_true, decide_eq_true_eq] at this
    omega
  by_cases h5 : x.k = 5
  · refine Or.inr (Or.inr ⟨h5, ?_⟩)
    unfold Wt.right at h
    rw [if_neg (by omega), if_neg (by omega), if_neg (by omega), if_neg (by omega), if_pos h5, Bool.and_eq_true, opK_bin] at h
    have := h.1
    unfold Wt.isBin at this
    simp only [Bool.or_eq_true, Bool.and_eq_true, decide_eq_true_eq] at this
    omega
  · refine Or.inl ⟨h4, h5, ?_⟩
    apply tgh_zero
    unfold Wt.right at h
    by_cases k1 : x.k = 1
    · rw [if_pos k1, Bool.and_eq_true, eqN_iff] at h; exact congrArg Wt.Nd.op h.2
    rw [if_neg k1] at h
    by_cases k2 : x.k = 2
    · rw [if_pos k2, Bool.and_eq_true, eqN_iff] at h; exact congrArg Wt.Nd.op h.2
    rw [if_neg k2] at h
    by_cases k3 : x.k = 3
    · rw [if_pos k3, Bool.and_eq_true, eqN_iff] at h; exact congrArg Wt.Nd.op h.2
    rw [if_neg k3, if_neg h4, if_neg h5] at h
    by_cases k6 : x.k = 6
    · rw [if_pos k6, Bool.and_eq_true, eqN_iff] at h; exact congrArg Wt.Nd.op h.2
    rw [if_neg k6] at h
    cases h
set_option maxHeartbeats 1600000 in
theorem rbinds_any (x : Wt.Nd) (w : World) (h : Wt.right x = true) : Calls Tryz.prog 52 #[.agg (nd20 x).toArray] w fun e w' => e = .returned (.int .i64 (tgh x + 1)) ∧ Below w.heap.size w w' := by
  have pA : AtL (w.alloc (.cells (nd20 x).toArray 45)) w.heap.size (nd20 x) := AtL.new0 w _ _
  have hBa : Below w.heap.size w (w.alloc (.cells (nd20 x).toArray 45)) := ball (Below.refl _ w) _
  have a0 := pA.2.1 0 _ rfl
  have a7 := pA.2.1 7 _ rfl
  rcases right_ops h with ⟨h4, h5, h7⟩ | ⟨h4, ho⟩ | ⟨h5, ho⟩
  · rw [h7]
    have h4b : (x.k == 4) = false := by simp [h4]
    have h5b : (x.k != 5) = true := by simp [h5]
    clear h h7 h4 h5
    generalize x.k = k at *
    go_enter Tryz.func52, Tryz.ntmps52
    go_upto_region 1 with fail
    generalize w.alloc (.cells (nd20 x).toArray 45) = W0 at *
    go_wp2
    go_ret
    exact ⟨rfl, hBa⟩
  · rw [h4] at a0
    rcases ho with ho | ho | ho
    all_goals
      rw [ho] at a7
      have ht : Hid (tgh x = (if x.op = 3 then 6 else 5)) := by show _ = _; unfold tgh; rw [ho]; rfl
      rw [ht.out, ho]
      clear ht h
      go_enter Tryz.func52, Tryz.ntmps52
      go_upto_region 1 with fail
      generalize w.alloc (.cells (nd20 x).toArray 45) = W0 at *
      go_wp2
      go_ret
      exact ⟨rfl, hBa⟩
  · rw [h5] at a0
    rcases ho with ho | ho | ho | ho | ho | ho | ho | ho | ho | ho | ho | ho
    all_goals
      rw [ho] at a7
      have ht : Hid (tgh x = (if x.op = 16 then 1 else if x.op ≤ 12 then 2 else if x.op ≤ 14 then 3 else if x.op = 15 then 4 else 0)) := by show _ = _; unfold tgh; rw [ho]; rfl
      rw [ht.out, ho]
      clear ht h
      go_enter Tryz.func52, Tryz.ntmps52
      go_upto_region 1 with fail
      generalize w.alloc (.cells (nd20 x).toArray 45) = W0 at *
      go_wp2
      go_ret
      exact ⟨rfl, hBa⟩
end Go.Proofs.YtlggnpohhahdlaaGreatDoor
