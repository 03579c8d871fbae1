/- TRefF, TRefG, TLawKids, TLaid. -/
import Derived.Test.YtlggnpohhahdlaaGreatDoorQ40
import Derived.Lib.LaidTab
import Derived.Deep.Strs
import Derived.Stop.LaidErr
namespace Go.Proofs.YtlggnpohhahdlaaGreatDoor
open Go.RowKit
set_option linter.unusedVariables false
theorem opK_none {o : Int} (h21 : ¬ o = 21) (h22 : ¬ o = 22) (h23 : ¬ o = 23) (h24 : ¬ o = 24) (h25 : ¬ o = 25) (h26 : ¬ o = 26) (h16 : ¬ o = 16) (h11 : ¬ o = 11) (h12 : ¬ o = 12) (h13 : ¬ o = 13) (h14 : ¬ o = 14) (h15 : ¬ o = 15) (h1 : ¬ o = 1) (h2 : ¬ o = 2) (h3 : ¬ o = 3) : opK o = 0 := by
  have e : Wt.opOf o = none := by
    unfold Wt.opOf
    rw [List.find?_eq_none]
    intro x hx
    simp only [Wt.opsT, List.mem_cons, List.not_mem_nil, or_false] at hx
    rcases hx with rfl | rfl | rfl | rfl | rfl | rfl | rfl | rfl | rfl | rfl | rfl | rfl | rfl | rfl | rfl <;> simp only [beq_iff_eq] <;> omega
  unfold opK
  rw [e]
theorem opK_un (o : Int) : (opK o == 4) = isUnB o := by
  by_cases h21 : o = 21
  · subst h21; rfl
  by_cases h22 : o = 22
  · subst h22; rfl
  by_cases h23 : o = 23
  · subst h23; rfl
  by_cases h24 : o = 24
  · subst h24; rfl
  by_cases h25 : o = 25
  · subst h25; rfl
  by_cases h26 : o = 26
  · subst h26; rfl
  by_cases h16 : o = 16
  · subst h16; rfl
  by_cases h11 : o = 11
  · subst h11; rfl
  by_cases h12 : o = 12
  · subst h12; rfl
  by_cases h13 : o = 13
  · subst h13; rfl
  by_cases h14 : o = 14
  · subst h14; rfl
  by_cases h15 : o = 15
  · subst h15; rfl
  by_cases h1 : o = 1
  · subst h1; rfl
  by_cases h2 : o = 2
  · subst h2; rfl
  by_cases h3 : o = 3
  · subst h3; rfl
  rw [opK_none h21 h22 h23 h24 h25 h26 h16 h11 h12 h13 h14 h15 h1 h2 h3]
  simp [isUnB, h1, h2, h3]
theorem opK_bin (o : Int) : (opK o == 5) = Wt.isBin o := by
  by_cases h21 : o = 21
  · subst h21; rfl
  by_cases h22 : o = 22
  · subst h22; rfl
  by_cases h23 : o = 23
  · subst h23; rfl
  by_cases h24 : o = 24
  · subst h24; rfl
  by_cases h25 : o = 25
  · subst h25; rfl
  by_cases h26 : o = 26
  · subst h26; rfl
  by_cases h16 : o = 16
  · subst h16; rfl
  by_cases h11 : o = 11
  · subst h11; rfl
  by_cases h12 : o = 12
  · subst h12; rfl
  by_cases h13 : o = 13
  · subst h13; rfl
  by_cases h14 : o = 14
  · subst h14; rfl
  by_cases h15 : o = 15
  · subst h15; rfl
  by_cases h1 : o = 1
  · subst h1; rfl
  by_cases h2 : o = 2
  · subst h2; rfl
  by_cases h3 : o = 3
  · subst h3; rfl
  rw [opK_none h21 h22 h23 h24 h25 h26 h16 h11 h12 h13 h14 h15 h1 h2 h3]
  unfold Wt.isBin
  have e1 : (decide (11 ≤ o) && decide (o ≤ 16)) = false := by
    rw [Bool.and_eq_false_iff, decide_eq_false_iff_not, decide_eq_false_iff_not]; omega
  have e2 : (decide (21 ≤ o) && decide (o ≤ 26)) = false := by
    rw [Bool.and_eq_false_iff, decide_eq_false_iff_not, decide_eq_false_iff_not]; omega
  rw [e1, e2]
  rfl
set_option maxHeartbeats 1600000 in
theorem rnode_n (x : Wt.Nd) (w : World) (h1 : (x.k == 1) = false) (h2 : (x.k == 2) = false) (h3 : (x.k == 3) = false) (h4 : (x.k == 4) = false) (h5 : (x.k == 5) = false) (h6 : (x.k == 6) = false) :
    Calls Tryz.prog 54 #[ndV x] w fun e w' => e = .returned (.tuple #[.int .i64 0, .bool false]) ∧ Below w.heap.size w w' := by
  obtain ⟨k, hk⟩ : ∃ k, x.k = k := ⟨_, rfl⟩
  rw [hk] at h1 h2 h3 h4 h5 h6
  have pA : AtL (w.alloc (.cells (nd20 x).toArray 45)) w.heap.size (nd20 x) := AtL.new0 w _ _
  have hBa : Below w.heap.size w (w.alloc (.cells (nd20 x).toArray 45)) := ball (Below.refl _ w) _
  show Calls _ _ #[.agg (nd20 x).toArray] _ _
  go_enter Tryz.func54, Tryz.ntmps54
  go_upto_region 1 with fail
  generalize (w.alloc (.cells (nd20 x).toArray 45)) = W0 at *
  have a0 : W0.cell? ⟨w.heap.size, 0, none⟩ = some (.int .i64 k) := by rw [← hk]; exact pA.2.1 0 _ rfl
  go_wp2
  go_ret2
  exact ⟨rfl, hBa⟩
theorem rnode_any (x : Wt.Nd) (w : World) (hf : Wt.FitN x) : Calls Tryz.prog 54 #[ndV x] w fun e w' => e = .returned (.tuple #[.int .i64 (nps x), .bool (Wt.right x)]) ∧ Below w.heap.size w w' := by
  obtain ⟨f1, f6, f7, f8⟩ := hf
  unfold Wt.right nps
  by_cases h1 : x.k = 1
  · rw [if_pos h1, if_neg (by omega), if_neg (by omega), if_neg (by omega)]; exact rnode_1 x w h1 f1
  rw [if_neg h1]
  by_cases h2 : x.k = 2
  · rw [if_pos h2, if_neg (by omega), if_neg (by omega), if_neg (by omega)]; exact rnode_2 x w h2 f7
  rw [if_neg h2]
  by_cases h3 : x.k = 3
  · rw [if_pos h3, if_neg (by omega), if_neg (by omega), if_neg (by omega)]; exact rnode_3 x w h3 f7 f8
  rw [if_neg h3]
  by_cases h4 : x.k = 4
  · rw [if_pos h4, if_pos h4, opK_un]; exact rnode_4 x w h4
  rw [if_neg h4, if_neg h4]
  by_cases h5 : x.k = 5
  · rw [if_pos h5, if_pos h5, opK_bin]; exact rnode_5 x w h5
  rw [if_neg h5, if_neg h5]
  by_cases h6 : x.k = 6
  · rw [if_pos h6, if_pos h6]; exact rnode_6 x w h6 f6
  rw [if_neg h6, if_neg h6]
  exact rnode_n x w (by simp [h1]) (by simp [h2]) (by simp [h3]) (by simp [h4]) (by simp [h5]) (by simp [h6])
set_option maxHeartbeats 4000000 in
set_option maxRecDepth 100000 in
theorem rend_any (av : Option Addr) (cap : Nat) (L : List Wt.Nd) (hL : L.length ≤ 256) (hF : ∀ x ∈ L, Wt.FitN x) (f : Nat) : f ≤ 1000 → ∀ (p : Nat) (w : World), L.length < f + p → p ≤ 256 → RdN w av L →
    Calls Tryz.prog 31 #[.slice av L.length cap, .int .i64 p] w fun e w' => e = .returned (MP (Wt.one f (L.drop p)) p) ∧ Below w.heap.size w w' := by
  have past : ∀ (f p : Nat) (w : World), ¬ p < L.length → p ≤ 256 → Calls Tryz.prog 31 #[.slice av L.length cap, .int .i64 p] w fun e w' => e = .returned (MP (Wt.one f (L.drop p)) p) ∧ Below w.heap.size w w' := by
    intro f p w hlt hp
    have hd : L.drop p = [] := List.drop_eq_nil_of_le (by omega)
    have E : Hid (Wt.one f (L.drop p) = none) := by
      show _ = _
      rw [hd]
      cases f <;> rfl
    rw [E.out]
    clear E hd
    have hli : (L.length : Int) ≤ (p : Int) := by omega
    go_enter Tryz.func31, Tryz.ntmps31
    go_wp2
    go_ret3
    exact ⟨rfl, Below.refl _ _⟩
  induction f with
  | zero => intro _ p w hf hp hr; exact past 0 p w (by omega) hp
  | succ f ih =>
    intro hf1 p w hf hp hr
    by_cases hlt : p < L.length
    · clear past
      replace ih := ih (by omega)
      obtain ⟨bb, off, rfl, hx⟩ := hr p hlt
      have hd := List.drop_eq_getElem_cons hlt
      have hfit := hF _ (List.getElem_mem hlt)
      have HR : Hid (RdN w (some ⟨bb, off, none⟩) L) := hr
      clear hr
      rw [hd]
      generalize L[p] = x at *
      have C := rnode_any x w hfit
      have hple := @Wt.parts_le x
      have hnp := @nps_parts x
      have hli : ¬ (L.length : Int) ≤ (p : Int) := by omega
      cases hq : Wt.right x with
      | false =>
        rw [hq] at C
        rw [one_not hq]
        generalize nps x = np at *
        clear ih hnp hple
        go_enter Tryz.func31, Tryz.ntmps31
        go_wp2_with ((with_reducible refine wpList_load_want ?_ 45 (.tmp 21) ?_ bb (off + p * 20) ?_ (nd20 x) _ ?_ Tryz.underlying45 ?_ ?_ ?_); rfl; rfl; rfl; exact hx; rfl; kernel_rfl)
        refine C.mono ?_
        rintro e w1 ⟨rfl, hb⟩
        go_wp2
        go_ret3
        exact ⟨rfl, hb⟩
      | true =>
        rw [hq] at C
        obtain ⟨hk0, hk1⟩ := hple hq
        rw [MP_left hq]
        rw [hnp hq] at C
        clear hple hq hnp
        obtain ⟨k, hk⟩ : ∃ k : Nat, (Wt.parts x).toNat = k := ⟨_, rfl⟩
        have hkk : Wt.parts x = (k : Int) := by omega
        rw [hk]
        rw [hkk] at C
        have hk2 : k ≤ 30 := by omega
        clear hk0 hk1 hk hkk
        obtain ⟨R, hR⟩ : ∃ R, left f k L (p + 1) 0 = R := ⟨_, rfl⟩
        have E0 : Hid (R = left f (k - 0) L (p + 1) 0) := hR.symm
        rw [hR]
        clear hR
        have IH : Hid (∀ (p : Nat) (w : World), L.length < f + p → p ≤ 256 → RdN w (some ⟨bb, off, none⟩) L → Calls Tryz.prog 31 #[.slice (some ⟨bb, off, none⟩) L.length cap, .int .i64 p] w fun e w' => e = .returned (MP (Wt.one f (L.drop p)) p) ∧ Below w.heap.size w w') := ih
        clear ih
        go_enter Tryz.func31, Tryz.ntmps31
        go_wp2_with ((with_reducible refine wpList_load_want ?_ 45 (.tmp 21) ?_ bb (off + p * 20) ?_ (nd20 x) _ ?_ Tryz.underlying45 ?_ ?_ ?_); rfl; rfl; rfl; exact hx; rfl; kernel_rfl)
        refine C.mono ?_
        rintro e w2 ⟨rfl, hB2⟩
        have HR2 : Hid (RdN w2 (some ⟨bb, off, none⟩) L) := HR.out.below hB2
        clear C hx HR hfit
        go_wp2_with fail
        go_loopg [1, 9, 10] k (fun gk a b c wr => ∃ j e d : Nat, a = .int .i64 e ∧ b = .int .i64 d ∧ c = .int .i64 j ∧ gk = k - j ∧ j ≤ k ∧ p + 1 ≤ e ∧ e ≤ L.length ∧ d ≤ f ∧ Hid (R = left f (k - j) L e d) ∧ Below w.heap.size w wr ∧ Hid (RdN wr (some ⟨bb, off, none⟩) L))
        case atStart => exact ⟨0, p + 1, 0, by simp, rfl, rfl, rfl, Nat.zero_le _, Nat.le_refl _, hlt, Nat.zero_le _, E0, hB2, HR2⟩
        case round =>
          obtain ⟨j, e, d, rfl, rfl, rfl, hg, hj, he1, he2, hdd, HE, hB, HR3⟩ := hrel
          by_cases hjk : j < k
          · have hji : (j : Int) < (k : Int) := by omega
            have M := IH.out e wr (by omega) (by omega) HR3.out
            have hkj : k - j = (k - (j + 1)) + 1 := by omega
            rw [hkj] at HE
            cases hone : Wt.one f (L.drop e) with
            | none =>
              have E : Hid (R = none) := by show _ = _; rw [HE.out, left_none hone]
              rw [hone] at M
              clear HE hone IH
              go_wp2_with fail
              refine M.mono ?_
              rintro e9 w3 ⟨rfl, hb⟩
              have hB3 := below_end hB hb
              simp only [MP]
              go_wp2
              go_ret3
              exact ⟨by rw [E.out]; rfl, hB3⟩
            | some q =>
              obtain ⟨s, d'⟩ := q
              have h1 := one_le _ _ _ _ hone
              have h2 := one_deep _ _ _ _ hone
              rw [List.length_drop] at h1
              have E : Hid (R = left f (k - (j + 1)) L (e + s) (max d d')) := by show _ = _; rw [HE.out, left_some hone]
              rw [hone] at M
              clear HE hone IH
              go_wp2_with fail
              refine M.mono ?_
              rintro e9 w3 ⟨rfl, hb⟩
              have hB3 := below_end hB hb
              have HR4 : Hid (RdN w3 (some ⟨bb, off, none⟩) L) := HR3.out.below hb
              simp only [MP]
              go_wp2_with fail
              all_goals
                go_roundg (k - (j + 1))
                case rel => exact ⟨j + 1, e + s, max d d', by simp, by first | (simp; done) | (simp; omega), by simp, rfl, hjk, by omega, by omega, by omega, E, hB3, HR4⟩
                case measure => omega
          · have hji : ¬ (j : Int) < (k : Int) := by omega
            have E : Hid (R = some (e, d)) := by show _ = _; rw [HE.out, show k - j = 0 by omega, left_zero]
            clear HE IH
            go_wp2
            go_ret3
            exact ⟨by rw [E.out]; rfl, hB⟩
    · exact past (f + 1) p w hlt hp
set_option maxRecDepth 100000 in
theorem rcheck_any (av : Option Addr) (cap : Nat) (L : List Wt.Nd) (w : World) (hL : L.length ≤ 9223372036854775807) (hF : ∀ x ∈ L, Wt.FitN x) (hr : RdN w av L) :
    Calls Tryz.prog 15 #[.slice av L.length cap] w fun e w' => e = .returned (.int .i64 (Wt.check L)) ∧ Below w.heap.size w w' := by
  unfold Wt.check
  by_cases h : 256 < L.length
  · rw [if_pos h]
    have hi : (256 : Int) < (L.length : Int) := by omega
    go_enter Tryz.func15, Tryz.ntmps15
    go_wp2
    go_ret
    exact ⟨rfl, Below.refl _ _⟩
  rw [if_neg h]
  have hi : ¬ (256 : Int) < (L.length : Int) := by omega
  have M := rend_any av cap L (by omega) hF (L.length + 1) (by omega) 0 w (by omega) (by omega) hr
  rw [List.drop_zero] at M
  have h1 := one_le (L.length + 1) L
  cases hone : Wt.one (L.length + 1) L with
  | none =>
    rw [hone] at M
    clear h1
    go_enter Tryz.func15, Tryz.ntmps15
    go_wp2_with fail
    refine M.mono ?_
    rintro e w1 ⟨rfl, hb⟩
    simp only [MP]
    go_wp2
    go_ret
    exact ⟨rfl, hb⟩
  | some q =>
    obtain ⟨s, d⟩ := q
    rw [hone] at M
    have h2 := one_deep _ _ _ _ hone
    replace h1 := h1 s d hone
    simp only [MP, Nat.zero_add] at M
    simp only
    by_cases hs : s = L.length
    · rw [if_neg (by omega)]
      have hsi : ((s : Int) == (L.length : Int)) = true := by rw [beq_iff_eq]; omega
      have hsi2 : (s : Int) = (L.length : Int) := by omega
      by_cases hd : 32 < d
      · rw [if_pos hd]
        have hdi : (32 : Int) < (d : Int) := by omega
        go_enter Tryz.func15, Tryz.ntmps15
        go_wp2_with fail
        refine M.mono ?_
        rintro e w1 ⟨rfl, hb⟩
        go_wp2
        go_ret
        exact ⟨rfl, hb⟩
      · rw [if_neg hd]
        have hdi : ¬ (32 : Int) < (d : Int) := by omega
        go_enter Tryz.func15, Tryz.ntmps15
        go_wp2_with fail
        refine M.mono ?_
        rintro e w1 ⟨rfl, hb⟩
        go_wp2
        go_ret
        exact ⟨rfl, hb⟩
    · rw [if_pos hs]
      have hsi : ((s : Int) == (L.length : Int)) = false := by rw [beq_eq_false_iff_ne]; omega
      have hsi2 : ¬ (s : Int) = (L.length : Int) := by omega
      go_enter Tryz.func15, Tryz.ntmps15
      go_wp2_with fail
      refine M.mono ?_
      rintro e w1 ⟨rfl, hb⟩
      go_wp2
      go_ret
      exact ⟨rfl, hb⟩
set_option maxRecDepth 100000 in
set_option maxHeartbeats 4000000 in
theorem rstarts_any (av : Option Addr) (cap : Nat) (L : List Wt.Nd) (i : Nat) (w : World) (hF : ∀ x ∈ L, Wt.FitN x) (hr : RdN w av L) (hi : i < L.length) (hc : Wt.check L = 0) :
    Calls Tryz.prog 33 #[.slice av L.length cap, .int .i64 i] w fun e w' => ∃ v, e = .returned v ∧ OwnI w' w.heap.size v (kidsP L i) ∧ Below w.heap.size w w' := by
  obtain ⟨h256, d, hone, hd⟩ := check_zero hc
  have hdr := List.drop_eq_getElem_cons hi
  obtain ⟨s', d', hs, hle, hdl⟩ := one_subs _ _ _ _ hone i hi
  rw [hdr] at hs
  obtain ⟨hxr, a, b, hm, rfl, rfl⟩ := one_node hs
  obtain ⟨hp0, hp30⟩ := Wt.parts_le hxr
  unfold kidsP
  rw [hdr]
  simp only
  obtain ⟨bb, off, rfl, hx⟩ := hr i hi
  have D := fun w => rnode_any (L[i]) w (hF _ (List.getElem_mem hi))
  have hnp := nps_parts hxr
  generalize L[i] = x at *
  obtain ⟨n, hn⟩ : ∃ n : Nat, (Wt.parts x).toNat = n := ⟨_, rfl⟩
  have hnn : Wt.parts x = (n : Int) := by omega
  rw [hn] at hm ⊢
  rw [hnp, hnn, hxr] at D
  have hn30 : n ≤ 30 := by omega
  have M := fun p w hp hr => rend_any (some ⟨bb, off, none⟩) cap L h256 hF (L.length + 1) (by omega) p w (by omega) hp hr
  obtain ⟨KS, hKS⟩ : ∃ KS, KS = starts (L.length + 1) n (i + 1) (L.drop (i + 1)) := ⟨_, rfl⟩
  rw [← hKS]
  have HK : Hid (KS = [] ++ starts (L.length + 1) (n - 0) (i + 1) (L.drop (i + 1))) := hKS
  have HR : Hid (RdN w (some ⟨bb, off, none⟩) L) := hr
  have hi0 : ¬ (i : Int) < 0 := by omega
  have hi1 : ¬ (L.length : Int) ≤ (i : Int) := by omega
  obtain ⟨i0, hii, hz0, hz1, hz2⟩ := info_parts intInfo
  clear hr hKS hdr hs hone hc hxr hp0 hp30 hn hnn hnp
  go_enter Tryz.func33, Tryz.ntmps33
  go_wp2_with ((with_reducible refine wpList_load_mid (cs := nd20 x) ?_ 45 (.tmp 13) ?_ bb (off + i * 20) ?_ _ ?_ Tryz.underlying45 ?_ ?_ ?_); rfl; rfl; rfl; exact hx; rfl; kernel_rfl)
  refine (D _).mono ?_
  rintro e w2 ⟨rfl, hB2⟩
  clear D hx
  go_wp2_with fail
  go_loopg [5, 8, 9] n (fun gk x y z wr => ∃ (j p c d : Nat) (dn : List Nat), z = .int .i64 j ∧ y = .int .i64 p ∧ gk = n - j ∧ j ≤ n ∧ dn.length = j ∧ Hid (KS = dn ++ starts (L.length + 1) (n - j) p (L.drop p)) ∧ Hid (OwnI wr w.heap.size x dn) ∧ Hid (Wt.many (Wt.one (L.length + 1)) (n - j) (L.drop p) = some (c, d)) ∧ p + c ≤ L.length ∧ Below w.heap.size w wr)
  case atStart =>
    exact ⟨0, i + 1, a, b, [], rfl, by simp, rfl, Nat.zero_le _, rfl, HK, World.ownsRow_nil _ _ _ _, hm, by omega, hB2⟩
  case round =>
    obtain ⟨j, p, c, d1, dn, rfl, rfl, hg, hj, hdn, H1, H2, H3, hpc, hB⟩ := hrel
    clear HK hB2 hm
    by_cases hlt : j < n
    · have hli : (j : Int) < (n : Int) := by omega
      obtain ⟨m, hmn⟩ : ∃ m, n - j = m + 1 := ⟨n - j - 1, by omega⟩
      have hm' : n - (j + 1) = m := by omega
      rw [hmn] at H1 H3
      have H3' := H3.out
      simp only [Wt.many] at H3'
      cases h1 : Wt.one (L.length + 1) (L.drop p) with
      | none => rw [h1] at H3'; cases H3'
      | some q =>
        obtain ⟨a1, b1⟩ := q
        rw [h1] at H3'
        simp only at H3'
        cases h2 : Wt.many (Wt.one (L.length + 1)) m ((L.drop p).drop a1) with
        | none => rw [h2] at H3'; cases H3'
        | some q2 =>
          obtain ⟨a2, b2⟩ := q2
          rw [h2] at H3'
          simp only [Option.some.injEq, Prod.mk.injEq] at H3'
          obtain ⟨rfl, rfl⟩ := H3'
          have H1' := H1.out
          simp only [starts, h1] at H1'
          have E : Hid (KS = (dn ++ [p]) ++ starts (L.length + 1) (n - (j + 1)) (p + a1) (L.drop (p + a1))) := by
            show KS = _
            rw [H1', hm', List.drop_drop]; simp
          rw [List.drop_drop] at h2
          have own := H2.out
          have hsz := hB.size
          have news : ∀ jj u, [Value.int .i64 (p : Int)][jj]? = some u → (wr.alloc (.cells #[.int .i64 (p : Int)] 3)).cell? ((⟨wr.heap.size, 0, none⟩ : Addr).add jj) = some u := by
            intro jj u hj
            cases jj with
            | zero => simp at hj; subst hj; simp [Addr.add, go_sem]
            | succ jj => simp at hj
          have hic : (intC dn).length = dn.length := by simp [intC]
          go_wp2_with (at_builtin; refine wpList_append_own _ rfl _ _ 34 rfl w.heap.size 3 i0 (.int .i64 0) 1 8 Tryz.underlying34 hii hz0 hz1 hz2 rfl (by decide) _ _ _ rfl (World.ownsRow.alloc own _) ⟨wr.heap.size, 0, none⟩ 1 1 [.int .i64 (p : Int)] rfl rfl news (by intro u hu; simp at hu; subst hu; rfl) (by unfold maxLen; omega) (by omega) (by simp; omega) ?_)
          intro v2 w2 own2 hgrow _
          have hB2 : Below w.heap.size w w2 := (ball hB (.cells #[.int .i64 (p : Int)] 3)).grown hgrow (by simp only [World.size_alloc]; omega) (fun k hk => (own.lt k hk).1)
          have own2' : OwnI w2 w.heap.size v2 (dn ++ [p]) := by
            unfold OwnI
            have e : intC (dn ++ [p]) = intC dn ++ [.int .i64 (p : Int)] := by simp [intC]
            rw [e, List.length_append, hdn]; exact own2
          have MM := M p w2 (by omega) (HR.out.below hB2)
          rw [h1] at MM
          simp only [MP] at MM
          clear own2 own H1 H1' H2 H3 news
          go_wp2_with fail
          refine MM.mono ?_
          rintro e w3 ⟨rfl, hb3⟩
          have own3 : OwnI w3 w.heap.size v2 (dn ++ [p]) := own2'.below hb3
          have hB3 := below_end hB2 hb3
          clear MM hb3 own2' hB2
          go_wp2_with fail
          go_roundg (n - (j + 1))
          case rel => exact ⟨j + 1, p + a1, a2, b2, dn ++ [p], by simp, rfl, rfl, hlt, by simp [hdn], E, own3, by show _ = _; rw [hm']; exact h2, by omega, hB3⟩
          case measure => omega
    · have hli : ¬ (j : Int) < (n : Int) := by omega
      have hjn : n - j = 0 := by omega
      rw [hjn] at H1
      have H1' := H1.out
      simp only [starts, List.append_nil] at H1'
      go_wp2
      go_ret
      exact ⟨_, rfl, by first | exact H2.out | (rw [H1']; exact H2.out), hB⟩
set_option maxRecDepth 100000 in
theorem rkids_none (av : Option Addr) (cap : Nat) (L : List Wt.Nd) (i : Int) (w : World) (hL : L.length ≤ 9223372036854775807) (hF : ∀ x ∈ L, Wt.FitN x) (hr : RdN w av L) (h : ¬ (0 ≤ i ∧ i < L.length ∧ Wt.check L = 0)) :
    Calls Tryz.prog 19 #[.slice av L.length cap, .int .i64 i] w fun e w' => e = .returned (.slice none 0 0) ∧ Below w.heap.size w w' := by
  have CK := rcheck_any av cap L w hL hF hr
  by_cases h2 : Wt.check L = 0
  · rw [h2] at CK
    by_cases h0 : i < 0
    · go_enter Tryz.func19, Tryz.ntmps19
      go_wp2_with fail
      refine CK.mono ?_
      rintro e w1 ⟨rfl, hb⟩
      go_wp2
      go_ret
      exact ⟨rfl, hb⟩
    · have h1 : (L.length : Int) ≤ i := by
        by_cases hh : (L.length : Int) ≤ i
        · exact hh
        · exact absurd ⟨by omega, by omega, h2⟩ h
      go_enter Tryz.func19, Tryz.ntmps19
      go_wp2_with fail
      refine CK.mono ?_
      rintro e w1 ⟨rfl, hb⟩
      go_wp2
      go_ret
      exact ⟨rfl, hb⟩
  · generalize Wt.check L = ck at *
    have hci : (ck != 0) = true := by simp [h2]
    go_enter Tryz.func19, Tryz.ntmps19
    go_wp2_with fail
    refine CK.mono ?_
    rintro e w1 ⟨rfl, hb⟩
    go_wp2
    go_ret
    exact ⟨rfl, hb⟩
set_option maxRecDepth 100000 in
theorem rkids_some (av : Option Addr) (cap : Nat) (L : List Wt.Nd) (i : Nat) (w : World) (hF : ∀ x ∈ L, Wt.FitN x) (hr : RdN w av L) (hi : i < L.length) (hc : Wt.check L = 0) :
    Calls Tryz.prog 19 #[.slice av L.length cap, .int .i64 i] w fun e w' => ∃ v, e = .returned v ∧ OwnI w' w.heap.size v (kidsP L i) ∧ Below w.heap.size w w' := by
  have h256 := (check_zero hc).1
  have CK := rcheck_any av cap L w (by omega) hF hr
  rw [hc] at CK
  have ST := fun w1 hr => rstarts_any av cap L i w1 hF hr hi hc
  have hi0 : ¬ (i : Int) < 0 := by omega
  have hi1 : ¬ (L.length : Int) ≤ (i : Int) := by omega
  have HR : Hid (RdN w av L) := hr
  generalize kidsP L i = ks at *
  clear hr hc hF h256
  go_enter Tryz.func19, Tryz.ntmps19
  go_wp2_with fail
  refine CK.mono ?_
  rintro e w1 ⟨rfl, hb⟩
  have S1 := ST w1 (HR.out.below hb)
  have hsz := hb.size
  clear CK ST HR
  go_wp2_with fail
  refine S1.mono ?_
  rintro e w2 ⟨v, rfl, own, hb2⟩
  have hB2 := below_end hb hb2
  have own2 : OwnI w2 w.heap.size v ks := ⟨own.1, own.2.imp id fun ⟨g, cap, cur, a, b, c⟩ => ⟨g, cap, cur, a, Nat.le_trans hsz b, c⟩⟩
  go_wp2
  go_ret
  exact ⟨_, rfl, own2, hB2⟩
open Go.RowKit Go.Shelf
set_option maxRecDepth 100000 in
set_option maxHeartbeats 1600000 in
theorem tkids_main (L : List Wt.Nd) (av : Option Addr) (cap : Nat) (i : Int) (w : World) (hE : Env w) (hk8 : 8 ≤ w.heap.size) (hr : RdN w av L) (hf : ∀ x ∈ L, Wt.FitN x) (hno : av = none → L.length = 0 ∧ cap = 0) (hl : True → L.length ≤ 799644820177) :
    Calls Tryz.prog 5 #[.slice av L.length cap, .int .i64 i] w fun e w' => e = .returned (.bool true) ∧ Below w.heap.size w w' := by
  have A := fun w hE hk => table_any w hE hk
  have LE := lent_any L av cap w hr hno hl
  have HE : Hid (Env w) := hE
  have HR : Hid (RdN w av L) := hr
  have HKA : Hid (∃ ks : List Nat, ks.length ≤ 1000 ∧ (∀ (av : Option Addr) (cap : Nat) (w : World), OpsAt w → RdN w av L → Calls Tryz.prog 17 #[.slice av L.length cap, .int .i64 i] w fun e w' => ∃ v, e = .returned v ∧ OwnI w' w.heap.size v ks ∧ Below w.heap.size w w') ∧
      (∀ (av : Option Addr) (cap : Nat) (w : World), RdN w av L → Calls Tryz.prog 19 #[.slice av L.length cap, .int .i64 i] w fun e w' => ∃ v, e = .returned v ∧ OwnI w' w.heap.size v ks ∧ Below w.heap.size w w')) := by
    show ∃ _, _
    have hL : L.length ≤ 9223372036854775807 := by have := hl trivial; omega
    by_cases h : 0 ≤ i ∧ i < L.length ∧ Wt.check L = 0
    · obtain ⟨h0, h1, hc⟩ := h
      obtain ⟨j, rfl⟩ : ∃ j : Nat, i = j := ⟨i.toNat, by omega⟩
      have hj : j < L.length := by omega
      exact ⟨kidsP L j, by have := kidsP_len hj hc; omega, fun av cap w hO hr => kids_some av cap L j w hf hO hr hj hc, fun av cap w hr => rkids_some av cap L j w hf hr hj hc⟩
    · refine ⟨[], by simp, fun av cap w hO hr => (kids_none av cap L i w hL hf hO hr h).mono ?_, fun av cap w hr => (rkids_none av cap L i w hL hf hr h).mono ?_⟩
      · rintro e w1 ⟨rfl, hb⟩
        exact ⟨_, rfl, World.ownsRow_nil _ _ _ _, hb⟩
      · rintro e w1 ⟨rfl, hb⟩
        exact ⟨_, rfl, World.ownsRow_nil _ _ _ _, hb⟩
  obtain ⟨ks, hks, K1, K2⟩ := HKA.out
  clear HKA hr hE hno
  go_enter Tryz.func5, Tryz.ntmps5
  go_wp2_with fail
  refine LE.mono ?_
  rintro e w1 ⟨v1, rfl, hle, hb1⟩
  obtain ⟨av1, cap1, rfl, -, hr1⟩ := hle.rd
  have HL1 : Hid (Lent w1 w.heap.size (.slice av1 L.length cap1) L) := hle
  have Q1 := K1 av1 cap1 w1 (HE.out.below hb1).1 hr1
  clear LE hle K1 hr1
  go_wp2_with fail
  refine Q1.mono ?_
  rintro e w2 ⟨v2, rfl, own2, hb2⟩
  obtain ⟨av2, cap2, rfl, hr2⟩ := own2.form
  have hB2 := below_end hb1 hb2
  have HI2 : Hid (RdI w2 av2 ks) := hr2
  have HL2 : Hid (Lent w2 w.heap.size (.slice av1 L.length cap1) L) := HL1.out.below hb2
  have A2 := A w2 (HE.out.below hB2) (Nat.le_trans hk8 hB2.size)
  clear Q1 own2 hr2 HL1 A
  go_wp2_with fail
  refine A2.mono ?_
  rintro e w3 ⟨rfl, hb3⟩
  have hB3 := below_end hB2 hb3
  have Q3 := K2 av cap w3 (HR.out.below hB3)
  have HI3 : Hid (RdI w3 av2 ks) := HI2.out.below hb3
  have HL3 : Hid (Lent w3 w.heap.size (.slice av1 L.length cap1) L) := HL2.out.below hb3
  clear A2 HI2 HL2 K2
  go_wp2_with fail
  refine Q3.mono ?_
  rintro e w4 ⟨v4, rfl, own4, hb4⟩
  obtain ⟨av4, cap4, rfl, hr4⟩ := own4.form
  have hB4 := below_end hB3 hb4
  have I4 := ints_true ks av2 av4 cap2 cap4 w4 (HI3.out.below hb4) hr4 hks
  have HL4 : Hid (Lent w4 w.heap.size (.slice av1 L.length cap1) L) := HL3.out.below hb4
  clear Q3 own4 hr4 HI3 HL3
  go_wp2_with fail
  refine I4.mono ?_
  rintro e w5 ⟨rfl, hb5⟩
  have hB5 := below_end hB4 hb5
  have W5 := whole_any L _ _ av cap w5 (HR.out.below hB5) (HL4.out.below hb5) hl
  clear I4 HL4
  go_wp2_with fail
  refine W5.mono ?_
  rintro e w6 ⟨rfl, hb6⟩
  have hB6 := below_end hB5 hb6
  go_wp2
  go_ret
  exact ⟨rfl, hB6⟩
theorem array_each {H : Type} {enc : TypeId × Value → H} {P : Program} {w : World} {base : Nat} {sp : Nat → Bool} {held : Bool} {fuel : Nat} {t e : TypeId} {n c : Nat} {cs : List Value} {ds : List (DataW H)} {p : List MemPlace}
    (ht : P.underlying t = some (.array n e)) (hce : P.cellsOf e = c) (hct : P.cellsOf t = n * c)
    (h : DataW.trod enc P w base sp held fuel t cs = some (.agg ds, p)) : cs.length = n * c ∧ ds.length = n ∧ ∀ i d, ds[i]? = some d → ∃ fuel' p', DataW.trod enc P w base sp held fuel' e ((cs.drop (i * c)).take c) = some (d, p') := by
  cases fuel with
  | zero => simp [DataW.trod] at h
  | succ fuel =>
    simp only [DataW.trod, ht, hce, hct] at h
    split at h
    · rename_i hl
      obtain ⟨xs, hm, hx⟩ := Option.map_eq_some_iff.1 h
      have hxs : xs.map (·.1) = ds := by
        have := congrArg Prod.fst hx
        simpa using this
      have hxl : xs.length = n := by simpa using Lib.mapM_length hm
      refine ⟨by simpa using hl, by rw [← hxs]; simpa using hxl, fun i d hd => ?_⟩
      have hi : i < n := by
        have := (List.getElem?_eq_some_iff.1 hd).1
        rw [← hxs, List.length_map] at this; omega
      obtain ⟨b, hb, hf⟩ := Lib.mapM_at hm i i (by simp [hi])
      have : (xs.map (·.1))[i]? = some b.1 := by simp [hb]
      rw [hxs, hd] at this
      obtain rfl := Option.some.inj this
      exact ⟨fuel, b.2, hf⟩
    · cases h
theorem ba_of {s : ByteArray} {l : List UInt8} (h : s.data.toList = l) : s = ⟨l.toArray⟩ := by
  apply ByteArray.ext
  apply Array.ext'
  rw [h]
theorem flt_of {W : World} {rest : List (String × DataW Unit)} (h : laidMet Tryz.prog (("whittle/value.faultNames", .agg (fNames.map fun x => .lit (.string x))) :: rest) W) : FltAt W := by
  obtain ⟨ps, ⟨g', t', cs, fuel, p, q, hg', ht', hvar, hd, _, _⟩, _⟩ := h
  have hg : Tryz.prog.globalNamed "whittle/value.faultNames" = some 1 := by kernel_rfl
  have hty : (Tryz.prog.globals[1]?).map (·.type) = some 168 := by kernel_rfl
  obtain rfl := Option.some.inj (hg.symm.trans hg')
  obtain rfl := Option.some.inj (hty.symm.trans ht')
  obtain ⟨h1, h2, h3⟩ := array_each (n := 9) (c := 1) (e := 9) Tryz.underlying168 (by kernel_rfl) (by kernel_rfl) hd
  intro j v hv
  unfold fltR at hv
  rw [List.getElem?_map] at hv
  obtain ⟨x, hx, rfl⟩ := Option.map_eq_some_iff.1 hv
  obtain ⟨fu, p', ht⟩ := h3 j (.lit (.string x)) (by rw [List.getElem?_map, hx]; rfl)
  obtain ⟨s, e1, e2, _⟩ := DataW.trod_string Tryz.underlying9 ht
  simp only [Prod.mk.injEq, DataW.lit.injEq, Lit.string.injEq] at e2
  rw [Nat.zero_add, World.var?_cell hg hvar j]
  have : cs.toList[j]? = some (.string s) := by
    have := congrArg (·[0]?) e1
    simpa [List.getElem?_take, List.getElem?_drop] using this
  rw [Array.getElem?_toList] at this
  rw [this, ba_of e2.1.symm]
theorem flat3 {α β : Type} (f : α → List β) (hf : ∀ x, (f x).length = 3) : ∀ (l : List α) (i : Nat) (hi : i < l.length) (r : Nat), r < 3 → (l.flatMap f)[i * 3 + r]? = (f l[i])[r]?
  | [], i, hi, r, hr => absurd hi (Nat.not_lt_zero _)
  | x :: l, 0, hi, r, hr => by
    rw [List.flatMap_cons, List.getElem?_append_left (by rw [hf]; omega)]; simp
  | x :: l, i + 1, hi, r, hr => by
    rw [List.flatMap_cons, List.getElem?_append_right (by rw [hf]; omega), hf, show (i + 1) * 3 + r - 3 = i * 3 + r by omega]
    rw [flat3 f hf l i (by simpa using hi) r hr]; simp
theorem ops_of {W : World} {rest : List (String × DataW Unit)} (h : laidMet Tryz.prog (("whittle/tree.operators", .agg (Wt.opsT.map fun x => .agg [.lit (.int .i64 x.1), .lit (.string x.2.1), .lit (.int .i64 x.2.2)])) :: rest) W) : OpsAt W := by
  obtain ⟨ps, ⟨g', t', cs, fuel, p, q, hg', ht', hvar, hd, _, _⟩, _⟩ := h
  have hg : Tryz.prog.globalNamed "whittle/tree.operators" = some 0 := by kernel_rfl
  have hty : (Tryz.prog.globals[0]?).map (·.type) = some 137 := by kernel_rfl
  obtain rfl := Option.some.inj (hg.symm.trans hg')
  obtain rfl := Option.some.inj (hty.symm.trans ht')
  obtain ⟨h1, h2, h3⟩ := array_each (n := 15) (c := 3) (e := 118) Tryz.underlying137 (by kernel_rfl) (by kernel_rfl) hd
  have c3 : Tryz.prog.cellsOf 3 = 1 := by kernel_rfl
  have c9 : Tryz.prog.cellsOf 9 = 1 := by kernel_rfl
  have key : ∀ i x, Wt.opsT[i]? = some x → cs.toList[i * 3]? = some (.int .i64 x.1) ∧ cs.toList[i * 3 + 1]? = some (.string ⟨x.2.1.toArray⟩) ∧ cs.toList[i * 3 + 2]? = some (.int .i64 x.2.2) := by
    intro i x hx
    obtain ⟨fu, p', ht⟩ := h3 i _ (by rw [List.getElem?_map, hx]; rfl)
    obtain ⟨y0, y1, y2, n, e, -, t0, t1, t2⟩ := Deep.trod_struct3 Tryz.underlying118 ht
    simp only [Prod.mk.injEq, DataW.agg.injEq, List.cons.injEq, and_true] at e
    obtain ⟨z0, f0, g0, _⟩ := DataW.trod_int Tryz.underlying3 t0
    obtain ⟨z1, f1, g1, _⟩ := DataW.trod_string Tryz.underlying9 t1
    obtain ⟨z2, f2, g2, _⟩ := DataW.trod_int Tryz.underlying3 t2
    subst g0 g1 g2
    simp only [DataW.lit.injEq, Lit.int.injEq, Lit.string.injEq, true_and] at e
    obtain ⟨⟨rfl, e1, rfl⟩, -⟩ := e
    simp only [c3] at f0 f2
    simp only [c9] at f1
    have q0 := congrArg (·[0]?) f0
    have q1 := congrArg (·[0]?) f1
    have q2 := congrArg (·[0]?) f2
    simp [List.getElem?_drop] at q0 q1 q2
    refine ⟨?_, ?_, ?_⟩
    · rw [Array.getElem?_toList]; exact q0
    · rw [Array.getElem?_toList, q1, ba_of e1.symm]
    · rw [Array.getElem?_toList]; exact q2
  intro j v hv
  rw [Nat.zero_add, World.var?_cell hg hvar j]
  have hj : j < 45 := by
    have := (List.getElem?_eq_some_iff.1 hv).1
    have e : opsR.length = 45 := rfl
    omega
  have hi : j / 3 < Wt.opsT.length := by show j / 3 < 15; omega
  obtain ⟨k0, k1, k2⟩ := key (j / 3) _ (List.getElem?_eq_getElem hi)
  have hf := flat3 (fun x : Int × List UInt8 × Int => ([.int .i64 x.1, .string ⟨x.2.1.toArray⟩, .int .i64 x.2.2] : List Value)) (fun _ => rfl) Wt.opsT (j / 3) hi
  have hm : j % 3 = 0 ∨ j % 3 = 1 ∨ j % 3 = 2 := by omega
  rcases hm with hm | hm | hm
  · have e : j = j / 3 * 3 + 0 := by omega
    have := hf 0 (by decide)
    rw [← e] at this
    rw [show opsR[j]? = _ from this] at hv
    rw [show j = j / 3 * 3 by omega, ← Array.getElem?_toList, k0]; exact hv
  · have e : j = j / 3 * 3 + 1 := by omega
    have := hf 1 (by decide)
    rw [← e] at this
    rw [show opsR[j]? = _ from this] at hv
    rw [e, ← Array.getElem?_toList, k1]; exact hv
  · have e : j = j / 3 * 3 + 2 := by omega
    have := hf 2 (by decide)
    rw [← e] at this
    rw [show opsR[j]? = _ from this] at hv
    rw [e, ← Array.getElem?_toList, k2]; exact hv
end Go.Proofs.YtlggnpohhahdlaaGreatDoor
