/- QueueLast: the steps don't matter but for what waits in the end, and what is seen. -/
import Derived.Test.YtpbjmhcpaeillaaQStD
import Derived.Test.YtpbjmhcpaeillaaQLawFre
namespace Go.Proofs.Ytpbjmhcpaeillaa
open Go.RowKit
set_option linter.unusedVariables false

theorem nn_new (w : World) : Calls Try.prog 10 #[] w fun en w' => en = .returned (.pointer (some ⟨w.heap.size + 2, 0, none⟩)) ∧ (∃ S, Qn w.heap.size w' (w.heap.size + 2) [] [] S []) ∧ Below w.heap.size w w' := by
  refine (new_any w).mono ?_
  rintro en w' ⟨he, hq, hb, hs⟩
  exact ⟨he, ⟨_, _, _, _, _, _, none, _, _, rfl, rfl, hq, List.Perm.refl _, hb.size, by omega, by omega, by omega⟩, hb⟩
theorem reW_re (A C : List Wpl.Ar) (a : Wq.Wr) : reW C (reW A a) = reW C a := rfl
theorem lnQ_nil (x : Wpl.Cl) : lnQ [] x = 1 := rfl
/-- What is put, from behind. -/
theorem put_back {ls : List Wq.Wr} (hn : (ls.map clW).Nodup) {j : Nat} {a : Wq.Wr} (h : ls[j]? = some a) (u : Int) :
    (⟨a.s, a.r, a.c, 1, a.lv⟩ :: offW (clW a) (⟨a.s, a.r, a.c, 1, u⟩ :: offW (clW a) ((ls.drop (j + 1)).map (reW [])))) = (ls.drop j).map (reW []) := by
  have h2 := drop_nd hn h
  have h3 : offW (clW a) ((ls.drop (j + 1)).map (reW [])) = (ls.drop (j + 1)).map (reW []) := offW_none (fun b hb => by
    obtain ⟨c, hc, rfl⟩ := List.mem_map.1 hb
    exact h2 c hc)
  rw [h3, drop_at h, List.map_cons]
  have h4 : offW (clW a) (⟨a.s, a.r, a.c, 1, u⟩ :: (ls.drop (j + 1)).map (reW [])) = (ls.drop (j + 1)).map (reW []) := by
    unfold offW at *
    rw [List.filter_cons, eqCl_iff.2 rfl]
    exact h3
  rw [h4]
  rfl
set_option maxRecDepth 100000 in
set_option maxHeartbeats 16000000 in
theorem law_last (T : List Ac) (av : Option Addr) (tn cap : Nat) (C : List Wpl.Ar) (bv : Option Addr) (m bcap : Nat) (w : World) (h : RdS w av T) (hn : T.length = tn) (hB : True → tn ≤ 1000000000000000) (hA : True → ∀ a ∈ T, a.A.length ≤ 1000000000000000) (hr : RdQ w bv C) (hm : C.length = m) (hz : bv = none → m = 0 ∧ bcap = 0) (hM : True → m ≤ 1000000000000000) :
    Calls Try.prog 6 #[.slice av tn cap, .slice bv m bcap] w fun en w' => en = .returned (.bool true) ∧ Below w.heap.size w w' := by
  have HAR0 : Hid (RdQ w bv C ∧ C.length = m ∧ (bv = none → m = 0 ∧ bcap = 0)) := ⟨hr, hm, hz⟩
  clear hr hm hz
  have AB := able_any w
  have HS : Hid (RdS w av T ∧ T.length = tn) := ⟨h, hn⟩
  clear h hn
  go_enter Try.func6, Try.ntmps6
  go_wp2_with fail
  refine AB.mono ?_
  rintro en w1 ⟨rfl, hb1⟩
  have HB1 : Hid (Below w.heap.size w w1) := hb1
  have MU := much_any T av tn cap w1 (HS.out.1.below hb1) HS.out.2 hB hA
  clear AB hb1 hB hA
  go_wp2_with fail
  refine MU.mono ?_
  rintro en w1' ⟨⟨q, rfl, hq⟩, hw⟩
  obtain rfl : w1 = w1' := hw.symm
  have HT : Hid (q = false → tot T ≤ 400) := hq
  clear MU hq
  cases q with
  | true =>
    go_wp2
    go_ret
    exact ⟨rfl, HB1.out⟩
  | false =>
    by_cases hm4 : 400 < m
    · have hmi : (m : Int) > 400 := by omega
      go_wp2
      go_ret
      exact ⟨rfl, HB1.out⟩
    have hmi : ¬ (m : Int) > 400 := by omega
    have HAR : Hid (RdQ w bv C ∧ C.length = m ∧ (bv = none → m = 0 ∧ bcap = 0) ∧ m ≤ 400) := ⟨HAR0.out.1, HAR0.out.2.1, HAR0.out.2.2, by omega⟩
    clear HAR0 hm4
    have HT4 : Hid (tot T ≤ 400) := HT.out rfl
    clear HT
    have MA := made_any T av tn cap w1 (HS.out.1.below HB1.out) HS.out.2 HT4.out
    have HN : Hid ((plQ T).1.length ≤ 400 ∧ (plQ T).2.length ≤ 400) := by
      have h1 := plQ_len T
      have h2 := HT4.out
      exact ⟨by omega, by omega⟩
    clear HT4
    go_wp2_with fail
    refine MA.mono ?_
    rintro en w2 ⟨qb, rfl, h2⟩
    obtain ⟨Sq, hSq⟩ := h2.opn
    obtain ⟨U0, hU0⟩ := hSq.nn
    have HQ2 : Hid (Qn w1.heap.size w2 qb (plQ T).1 (plQ T).2 Sq U0) := hU0
    have HB2 : Hid (Below w1.heap.size w1 w2) := h2.bl
    have NW := nn_new w2
    obtain ⟨pb, hpb⟩ : ∃ pb, w2.heap.size + 2 = pb := ⟨_, rfl⟩
    rw [hpb] at NW
    clear MA h2 hSq hU0 hpb hmi
    go_wp2_with fail
    refine NW.mono ?_
    rintro en w3 ⟨rfl, ⟨Sp, hp3⟩, hb3⟩
    have HP3 : Hid (Qn w2.heap.size w3 pb [] [] Sp []) := hp3
    have HQ3 : Hid (Qn w1.heap.size w3 qb (plQ T).1 (plQ T).2 Sq U0) := HQ2.out.below hb3
    have HB3 : Hid (Below w2.heap.size w2 w3) := hb3
    have HBW : Hid (Below w1.heap.size w1 w3) := below_end HB2.out hb3
    have HSP : Hid (∀ k ∈ Sp, k ∉ Sq) := fun k hk hq => by
      have h1 := hp3.ge k hk
      have h2 := HQ2.out.lt k hq
      omega
    have HGQ : Hid (∀ k ∈ Sq, w1.heap.size ≤ k) := HQ2.out.ge
    clear NW hp3 hb3 HQ2
    go_upto_region 6 with fail
    have ba := ball (Below.refl _ w3) (.cells #[] 39)
    have oE := own_emp w3 39 5
    have hs0 : w3.heap.size ≤ (w3.alloc (.cells #[] 39)).heap.size := ba.size
    have HBA : Hid (Below w3.heap.size w3 (w3.alloc (.cells #[] 39))) := ba
    have HRC : Hid (RdQ (w3.alloc (.cells #[] 39)) bv C) := ((HAR.out.1.below HB1.out).below HBW.out).below ba
    clear ba
    go_wp2_with (at_builtin; refine wpList_copA rfl (.tmp 24) (.tmp 25) rfl (w3.alloc (.cells #[] 39)) w3.heap.size hs0 (.slice (some ⟨w3.heap.size, 0, none⟩) 0 0) (by rfl) oE bv m bcap C HAR.out.2.1 (by rfl) HRC.out HAR.out.2.2.1 (by have := HAR.out.2.2.2; omega) ?_; intro v4 w4 o4 hg4)
    obtain ⟨cv4, cc4, e4, hrc4, hzc4, hspc4, _⟩ := RdQ.of_ownV o4 HAR.out.2.1
    subst e4
    have HBK4 : Hid (Below w3.heap.size w3 w4) := HBA.out.grown hg4 HBA.out.size (fun k e => by
      have : some w3.heap.size = some k := e
      simp at this
      omega)
    clear o4 hg4 oE hs0 HBA HRC
    have HQ4 : Hid (Qn w1.heap.size w4 qb (plQ T).1 (plQ T).2 Sq U0) := HQ3.out.below HBK4.out
    have HP4 : Hid (Qn w2.heap.size w4 pb [] [] Sp []) := HP3.out.below HBK4.out
    have HB4 : Hid (Below w1.heap.size w1 w4) := below_end HBW.out HBK4.out
    have SE := nn_see HQ4.out cv4 m cc4 C (fun _ => by have := HN.out; omega) hrc4 HAR.out.2.1 hzc4 hspc4 (fun _ => by have := HAR.out.2.2.2; omega)
    clear hrc4 hzc4 hspc4 HQ3 HP3 HBW HB3 HBK4
    go_wp2_with fail
    refine SE.mono ?_
    rintro en w5 ⟨rfl, Uq, hq5, fr5, hu5⟩
    have HP5 : Hid (Qn w2.heap.size w5 pb [] [] Sp []) := HP4.out.kept fr5 (fun k hk => by
      rcases hk with q | q
      · exact HSP.out k q
      · cases q)
    have HQ5 : Hid (Qn w1.heap.size w5 qb ((plQ T).1.map (reW C)) C Sq Uq) := hq5
    have HB5 : Hid (Below w1.heap.size w1 w5) := Below.of_fr HB4.out fr5 HGQ.out HB4.out.size
    have HU5 : Hid (∀ k, (k ∈ Sq ∨ k ∈ Uq) → As Sp w5 k) := fun k hk => by
      rcases hk with q | q
      · exact ⟨hq5.lt k q, fun z => HSP.out k z q⟩
      · refine ⟨(hu5 k q).2, fun z => ?_⟩
        have h1 := HP4.out.lt k z
        have h2 := (hu5 k q).1
        omega
    clear SE hq5 fr5 hu5 HQ4 HP4 HB4 HSP
    obtain ⟨L, hL⟩ : ∃ L, (plQ T).1.map (reW C) = L := ⟨_, rfl⟩
    have HRE : Hid (∀ a ∈ L, reW C a = a) := fun a ha => by
      rw [← hL] at ha
      obtain ⟨b, _, rfl⟩ := List.mem_map.1 ha
      rfl
    have HLL : Hid (L.length ≤ 400) := by have := HN.out; show _ ≤ _; rw [← hL, List.length_map]; omega
    rw [hL] at HQ5
    clear hL
    obtain ⟨ls, hls⟩ : ∃ ls, Wq.srt L = ls := ⟨_, rfl⟩
    obtain ⟨D, hD⟩ : ∃ D, ls.map clW = D := ⟨_, rfl⟩
    obtain ⟨n, hnD⟩ : ∃ n, D.length = n := ⟨_, rfl⟩
    have HD : Hid (ls.map clW = D ∧ D.length = n) := ⟨hD, hnD⟩
    have HL : Hid (ls.length = n ∧ n ≤ 400) := ⟨by rw [← hnD, ← hD, List.length_map], by
      have := HLL.out
      rw [← hnD, ← hD, List.length_map, ← hls, Wq.srt_len]
      omega⟩
    have HPW : Hid (ls.Pairwise (fun a b => Wq.ltW b a = false) ∧ (ls.map clW).Nodup ∧ ls.Perm L) := ⟨by rw [← hls]; exact Wq.srt_pw _, by
      rw [← hls]
      exact (((Wq.srt_perm _).map clW).nodup_iff).2 HQ5.out.nd, by rw [← hls]; exact Wq.srt_perm _⟩
    have C1 := nn_cells HQ5.out (fun _ => by have := HLL.out; omega)
    rw [hls, hD] at C1
    clear hls hD hnD
    go_wp2_with fail
    refine C1.mono ?_
    rintro en w6 ⟨⟨v1, rfl, ho1⟩, hb6⟩
    rw [HD.out.2] at ho1
    obtain ⟨a1, c1, e1, r1, z1⟩ := RdX.of_own ho1 HD.out.2
    subst e1
    have HQ6 : Hid (Qn w1.heap.size w6 qb L C Sq Uq) := HQ5.out.below hb6
    have HP6 : Hid (Qn w2.heap.size w6 pb ((ls.drop n).map (reW [])) [] Sp []) := by
      rw [List.drop_eq_nil_of_le (by rw [HL.out.1]; exact Nat.le_refl _)]
      exact HP5.out.below hb6
    have HX6 : Hid (RdX w6 a1 D) := r1
    have HA6 : Hid (∀ k, (k ∈ Sq ∨ k ∈ Uq ∨ ∃ off, a1 = some ⟨k, off, none⟩) → As Sp w6 k) := fun k hk => by
      rcases hk with q | q | ⟨off, q⟩
      · exact (HU5.out k (Or.inl q)).below hb6
      · exact (HU5.out k (Or.inr q)).below hb6
      · have h1 := own_blk ho1 (z1 k off q)
        exact ⟨h1.2, fun z => by have := HP5.out.lt k z; omega⟩
    have HB6 : Hid (Below w1.heap.size w1 w6 ∧ w1.heap.size ≤ w2.heap.size) := ⟨below_end HB5.out hb6, HB2.out.size⟩
    have hwn : IntKind.i64.wrap ((n : Int) - 1) = (n : Int) - 1 := by have := HL.out; rw [IntKind.wrap_i64]; omega
    clear C1 ho1 hb6 r1 z1 HQ5 HP5 HU5 HB5
    go_upto_region 9 with fail
    go_loopg [8] n (fun gk x wr => ∃ (j : Nat) (z : Int) (S' U' : List Nat), x = .int .i64 z ∧ gk = j ∧ z + 1 = (j : Int) ∧ Hid (j ≤ n) ∧ Hid (Qn w1.heap.size wr qb L C Sq Uq) ∧ Hid (Qn w2.heap.size wr pb ((ls.drop j).map (reW [])) [] S' U') ∧ Hid (RdX wr a1 D) ∧ Hid (∀ k, (k ∈ Sq ∨ k ∈ Uq ∨ ∃ off, a1 = some ⟨k, off, none⟩) → As S' wr k) ∧ Hid (Below w1.heap.size w1 wr))
    case atStart => exact ⟨n, (n : Int) - 1, Sp, [], by simp, rfl, by omega, Nat.le_refl _, HQ6, HP6, HX6, HA6, HB6.out.1⟩
    case round =>
      clear HQ6 HP6 HX6 HA6 hwn
      obtain ⟨j, z, S', U', rfl, hg, hz, HJ, HQ, HP, HX, HA, HB⟩ := hrel
      generalize hw9 : wr = W at *
      clear hw9
      cases j with
      | succ q =>
        have hz0 : z ≥ 0 := by omega
        have hzq : z = (q : Int) := by omega
        subst hzq
        have hwz : IntKind.i64.wrap ((q : Int) - 1) = (q : Int) - 1 := by have := HL.out; have := HJ.out; rw [IntKind.wrap_i64]; omega
        have hqn : (q : Int) < (n : Int) := by have := HJ.out; omega
        have hqz : (0 : Int) ≤ (q : Int) := by omega
        obtain ⟨a, ha⟩ : ∃ a, ls[q]? = some a := ⟨ls[q]'(by rw [HL.out.1]; have := HJ.out; omega), List.getElem?_eq_getElem _⟩
        have HAA : Hid (ls[q]? = some a) := ha
        have HDI : Hid (D[q]? = some (clW a)) := by show _ = _; rw [← HD.out.1, List.getElem?_map, ha]; rfl
        obtain ⟨bb, off, e, k0, k1, k2⟩ := HX.out.at HDI.out
        subst e
        have LV := nn_level HQ.out (clW a)
        rw [atW_of HQ.out.nd (HPW.out.2.2.mem_iff.1 (List.mem_of_getElem? ha)) rfl] at LV
        generalize hasW (clW a) L = hq at LV
        obtain ⟨u, hu⟩ : ∃ u, IntKind.i64.wrap (a.lv + 1) = u := ⟨_, rfl⟩
        clear ha
        go_wp2_with fail
        refine LV.mono ?_
        rintro en w7 ⟨rfl, hb7⟩
        have HQ7 : Hid (Qn w1.heap.size w7 qb L C Sq Uq) := HQ.out.below hb7
        have HP7 : Hid (Qn w2.heap.size w7 pb ((ls.drop (q + 1)).map (reW [])) [] S' U') := HP.out.below hb7
        have HX7 : Hid (RdX w7 (some ⟨bb, off, none⟩) D) := HX.out.below hb7
        have HA7 : Hid (∀ k, (k ∈ Sq ∨ k ∈ Uq ∨ ∃ o, some (⟨bb, off, none⟩ : Addr) = some ⟨k, o, none⟩) → As S' w7 k) := fun k hk => (HA.out k hk).below hb7
        have HB7 : Hid (Below w1.heap.size w1 w7) := below_end HB.out hb7
        replace k0 := cell_below hb7 k0
        replace k1 := cell_below hb7 k1
        replace k2 := cell_below hb7 k2
        have P1 := nn_put HP7.out (clW a) u (fun _ => by have := HL.out; simp only [List.length_map, List.length_drop]; omega) (fun _ => by simp)
        clear LV hb7 HQ HP HX HA HB
        go_wp2_with fail
        refine P1.mono ?_
        rintro en w8 ⟨rfl, S8, U8, hp8, fr8, hs8⟩
        have HGE : Hid (∀ k ∈ S', w1.heap.size ≤ k) := fun k hk => by have := HP7.out.ge k hk; have := HB6.out.2; omega
        have HQ8 : Hid (Qn w1.heap.size w8 qb L C Sq Uq) := HQ7.out.kept fr8 (fun k hk => (HA7.out k (by rcases hk with q | q; exact Or.inl q; exact Or.inr (Or.inl q))).2)
        have HX8 : Hid (RdX w8 (some ⟨bb, off, none⟩) D) := HX7.out.as fr8 (fun b2 o2 e => HA7.out b2 (Or.inr (Or.inr ⟨o2, e⟩)))
        have HA8 : Hid (∀ k, (k ∈ Sq ∨ k ∈ Uq ∨ ∃ o, some (⟨bb, off, none⟩ : Addr) = some ⟨k, o, none⟩) → As S8 w8 k) := fun k hk => (HA7.out k hk).next fr8 hs8
        have HB8 : Hid (Below w1.heap.size w1 w8) := Below.of_fr HB7.out fr8 HGE.out HB7.out.size
        have HP8 : Hid (Qn w2.heap.size w8 pb (⟨a.s, a.r, a.c, 1, u⟩ :: offW (clW a) ((ls.drop (q + 1)).map (reW []))) [] S8 U8) := hp8
        clear k0 k1 k2
        obtain ⟨b9, o9, e9, k0, k1, k2⟩ := HX8.out.at HDI.out
        obtain ⟨rfl, rfl⟩ : bb = b9 ∧ off = o9 := by simpa using e9
        have P2 := nn_put HP8.out (clW a) a.lv (fun _ => by
          have := HL.out
          have h1 : (offW (clW a) ((ls.drop (q + 1)).map (reW []))).length ≤ ((ls.drop (q + 1)).map (reW [])).length := List.length_filter_le _ _
          rw [List.length_map, List.length_drop] at h1
          simp only [List.length_cons]
          omega) (fun _ => by simp)
        clear P1 hp8 fr8 hs8 HQ7 HP7 HX7 HA7 HB7 HGE e9 hu
        go_wp2_with fail
        refine P2.mono ?_
        rintro en w9 ⟨rfl, S9, U9, hp9, fr9, hs9⟩
        have HGE : Hid (∀ k ∈ S8, w1.heap.size ≤ k) := fun k hk => by have := HP8.out.ge k hk; have := HB6.out.2; omega
        have HQ9 : Hid (Qn w1.heap.size w9 qb L C Sq Uq) := HQ8.out.kept fr9 (fun k hk => (HA8.out k (by rcases hk with q | q; exact Or.inl q; exact Or.inr (Or.inl q))).2)
        have HX9 : Hid (RdX w9 (some ⟨bb, off, none⟩) D) := HX8.out.as fr9 (fun b2 o2 e => HA8.out b2 (Or.inr (Or.inr ⟨o2, e⟩)))
        have HA9 : Hid (∀ k, (k ∈ Sq ∨ k ∈ Uq ∨ ∃ o, some (⟨bb, off, none⟩ : Addr) = some ⟨k, o, none⟩) → As S9 w9 k) := fun k hk => (HA8.out k hk).next fr9 hs9
        have HB9 : Hid (Below w1.heap.size w1 w9) := Below.of_fr HB8.out fr9 HGE.out HB8.out.size
        have HP9 : Hid (Qn w2.heap.size w9 pb ((ls.drop q).map (reW [])) [] S9 U9) := by
          have := hp9
          have e := put_back HPW.out.2.1 HAA.out u
          have e2 : (⟨(clW a).s, (clW a).r, (clW a).c, lnQ [] (clW a), a.lv⟩ :: offW (clW a) (⟨a.s, a.r, a.c, 1, u⟩ :: offW (clW a) ((ls.drop (q + 1)).map (reW []))) : List Wq.Wr) = (ls.drop q).map (reW []) := e
          rw [e2] at this
          exact this
        have HJ9 : Hid (q ≤ n) := by have := HJ.out; show _ ≤ _; omega
        clear P2 hp9 fr9 hs9 HQ8 HP8 HX8 HA8 HB8 HGE k0 k1 k2 HJ
        go_wp2_with fail
        go_roundg q
        case rel => exact ⟨q, (q : Int) - 1, S9, U9, by simp, rfl, by omega, HJ9, HQ9, HP9, HX9, HA9, HB9⟩
        case measure => omega
      | zero =>
        have hz0 : ¬ (z ≥ 0) := by omega
        have HGE : Hid (∀ k ∈ S', w1.heap.size ≤ k) := fun k hk => by have := HP.out.ge k hk; have := HB6.out.2; omega
        clear HJ
        go_upto_region 14 with fail
        have ba := ball (Below.refl _ W) (.cells #[] 39)
        have oE := own_emp W 39 5
        have hs0 : W.heap.size ≤ (W.alloc (.cells #[] 39)).heap.size := ba.size
        have HBA : Hid (Below W.heap.size W (W.alloc (.cells #[] 39))) := ba
        have HRC : Hid (RdQ (W.alloc (.cells #[] 39)) bv C) := ((HAR.out.1.below HB1.out).below HB.out).below ba
        clear ba
        go_wp2_with (at_builtin; refine wpList_copA rfl (.tmp 62) (.tmp 63) rfl (W.alloc (.cells #[] 39)) W.heap.size hs0 (.slice (some ⟨W.heap.size, 0, none⟩) 0 0) (by rfl) oE bv m bcap C HAR.out.2.1 (by rfl) HRC.out HAR.out.2.2.1 (by have := HAR.out.2.2.2; omega) ?_; intro v8 w8 o8 hg8)
        obtain ⟨cv8, cc8, e8, hrc8, hzc8, hspc8, _⟩ := RdQ.of_ownV o8 HAR.out.2.1
        subst e8
        have HBK8 : Hid (Below W.heap.size W w8) := HBA.out.grown hg8 HBA.out.size (fun k e => by
          have : some W.heap.size = some k := e
          simp at this
          omega)
        clear o8 hg8 oE hs0 HBA HRC
        have HP8 : Hid (Qn w2.heap.size w8 pb ((ls.drop 0).map (reW [])) [] S' U') := HP.out.below HBK8.out
        have HX8 : Hid (RdX w8 a1 D) := HX.out.below HBK8.out
        have HA8 : Hid (∀ k off, a1 = some ⟨k, off, none⟩ → As S' w8 k) := fun k off e => (HA.out k (Or.inr (Or.inr ⟨off, e⟩))).below HBK8.out
        have HB8 : Hid (Below w1.heap.size w1 w8) := below_end HB.out HBK8.out
        have SE := nn_see HP8.out cv8 m cc8 C (fun _ => by have := HL.out; simp only [List.length_map, List.length_drop]; omega) hrc8 HAR.out.2.1 hzc8 hspc8 (fun _ => by have := HAR.out.2.2.2; omega)
        clear hrc8 hzc8 hspc8 HQ HP HX HA HB HBK8
        go_wp2_with fail
        refine SE.mono ?_
        rintro en w9 ⟨rfl, U9, hp9, fr9, _⟩
        have HP9 : Hid (Qn w2.heap.size w9 pb ls C S' U9) := by
          have := hp9
          have e : ((ls.drop 0).map (reW [])).map (reW C) = ls := by
            rw [List.drop_zero, List.map_map]
            have : ∀ a ∈ ls, (reW C ∘ reW []) a = a := fun a ha => HRE.out a (HPW.out.2.2.mem_iff.1 ha)
            rw [List.map_congr_left this]
            simp
          rw [e] at this
          exact this
        have HX9 : Hid (RdX w9 a1 D) := HX8.out.as fr9 (fun bb off e => HA8.out bb off e)
        have HB9 : Hid (Below w1.heap.size w1 w9) := Below.of_fr HB8.out fr9 HGE.out HB8.out.size
        have C2 := nn_cells HP9.out (fun _ => by have := HL.out; omega)
        have es : Wq.srt ls = ls := Wq.srt_of (List.Perm.refl _) HPW.out.1
        rw [es, HD.out.1] at C2
        clear SE hp9 fr9 HP8 HX8 HA8 HB8 es
        go_wp2_with fail
        refine C2.mono ?_
        rintro en w10 ⟨⟨v2, rfl, ho2⟩, hb10⟩
        rw [HD.out.2] at ho2
        obtain ⟨a2, c2, e2, r2, _⟩ := RdX.of_own ho2 HD.out.2
        subst e2
        have CC := cells_any D a2 a1 n c2 c1 w10 r2 (HX9.out.below hb10) HD.out.2 (fun _ => by have := HL.out; omega)
        have HE : Hid (Below w.heap.size w w10) := below_end HB1.out (below_end HB9.out hb10)
        clear C2 ho2 hb10 r2
        go_wp2_with fail
        refine CC.mono ?_
        rintro en w11 ⟨rfl, hb11⟩
        have HE2 : Hid (Below w.heap.size w w11) := below_end HE.out hb11
        clear CC hb11
        go_wp2
        go_ret
        exact ⟨rfl, HE2.out⟩
end Go.Proofs.Ytpbjmhcpaeillaa
