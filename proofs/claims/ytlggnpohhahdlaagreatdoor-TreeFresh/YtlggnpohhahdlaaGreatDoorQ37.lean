/- TLawFresh. -/
import Derived.Test.YtlggnpohhahdlaaGreatDoorQ36
import Derived.Deep.LoopGhost
namespace Go.Proofs.YtlggnpohhahdlaaGreatDoor
open Go.RowKit Go.Shelf
set_option linter.unusedVariables false
theorem parse_both (b : ByteArray) (hs : b.size ≤ 9223372036854775807) : ∃ (R : List Wt.Nd) (c p : Int), R.length ≤ 256 ∧ (∀ x ∈ R, Wt.FitN x) ∧ (0 < R.length → Wt.check R = 0) ∧ ∀ w, Env w → 8 ≤ w.heap.size → Calls Tryz.prog 7 #[.string b] w fun e w' => (∃ v, e = .returned (.tuple #[v, .int .i64 c, .int .i64 p]) ∧ OwnN w' w.heap.size v R) ∧ Below w.heap.size w w' := by
  have P := fun w hE hk => parse_any b w hE hs hk
  cases hr : prsR b.data.toList with
  | inl row =>
    obtain ⟨hf, hc⟩ := prsR_row hr
    refine ⟨row, 0, 0, (check_zero hc).1, hf, fun _ => hc, fun w hE hk => (P w hE hk).mono ?_⟩
    rintro e w' ⟨hp, hb⟩
    rw [hr] at hp
    exact ⟨hp, hb⟩
  | inr q =>
    obtain ⟨c, p⟩ := q
    refine ⟨[], c, p, by simp, by simp, by simp, fun w hE hk => (P w hE hk).mono ?_⟩
    rintro e w' ⟨hp, hb⟩
    rw [hr] at hp
    exact ⟨⟨_, hp, World.ownsRow_nil _ _ _ _⟩, hb⟩
theorem kids_both (R : List Wt.Nd) (h256 : R.length ≤ 256) (hF : ∀ x ∈ R, Wt.FitN x) (hc : 0 < R.length → Wt.check R = 0) : ∃ ks : List Nat, ks.length ≤ 30 ∧ ∀ (av : Option Addr) (cap : Nat) (w : World), OpsAt w → RdN w av R → Calls Tryz.prog 17 #[.slice av R.length cap, .int .i64 0] w fun e w' => ∃ v, e = .returned v ∧ OwnI w' w.heap.size v ks ∧ Below w.heap.size w w' := by
  by_cases h0 : 0 < R.length
  · exact ⟨kidsP R 0, kidsP_len h0 (hc h0), fun av cap w hO hr => kids_some av cap R 0 w hF hO hr h0 (hc h0)⟩
  · refine ⟨[], by simp, fun av cap w hO hr => (kids_none av cap R 0 w (by omega) hF hO hr (fun h => h0 (by omega))).mono ?_⟩
    rintro e w1 ⟨rfl, hb⟩
    exact ⟨_, rfl, World.ownsRow_nil _ _ _ _, hb⟩
theorem news20 (w : World) (x : Wt.Nd) : ∀ j u, (nd20 x)[j]? = some u → (w.alloc (.cells (nd20 x).toArray 45)).cell? ((⟨w.heap.size, 0, none⟩ : Addr).add j) = some u := fun j u hu => nd_new w x j u hu
theorem news1 (w : World) (z : Int) : ∀ j u, [Value.int .i64 z][j]? = some u → (w.alloc (.cells #[.int .i64 z] 3)).cell? ((⟨w.heap.size, 0, none⟩ : Addr).add j) = some u := by
  intro j u hj
  cases j with
  | zero => simp at hj; subst hj; simp [Addr.add, go_sem]
  | succ j => simp at hj
theorem ownN_app {w : World} {B : Nat} {v : Value} {L : List Wt.Nd} {x : Wt.Nd} {n : Nat} (hn : n = L.length) (h : w.ownsRow B 45 20 v (n + 1) (ndRow L ++ nd20 x)) : OwnN w B v (L ++ [x]) := by
  subst hn
  unfold OwnN
  have e : ndRow (L ++ [x]) = ndRow L ++ nd20 x := by simp [ndRow]
  rw [e, List.length_append]; exact h
theorem ownZ_app {w : World} {B : Nat} {v : Value} {L : List Int} {x : Int} {n : Nat} (hn : n = L.length) (h : w.ownsRow B 3 1 v (n + 1) (intZ L ++ [.int .i64 x])) : OwnZ w B v (L ++ [x]) := by
  subst hn
  have e : intZ (L ++ [x]) = intZ L ++ [.int .i64 x] := by simp [intZ]
  show w.ownsRow B 3 1 v (L ++ [x]).length (intZ (L ++ [x]))
  rw [e, List.length_append]; exact h
theorem ownr_below {w w' : World} {B n sz : Nat} {e : TypeId} {v : Value} {xs : List Value} (h : w.ownsRow B e sz v n xs) (hb : Below w.heap.size w w') : w'.ownsRow B e sz v n xs :=
  h.kept (row := none) ⟨hb.os, hb.tape, hb.output, hb.size, fun k hk _ => hb.block k hk⟩ (by cases v.ownBlock <;> simp)
theorem mkL_ar0 (c : Int) (n i : Nat) (h : i < (mkL c n).length) : ((mkL c n)[i]).ar = c + (i : Int) := by simp [mkL, mkN]
theorem mkI_at0 (c : Int) (n i : Nat) (h : i < (mkI c n).length) : (mkI c n)[i] = c + (i : Int) := by simp [mkI]
theorem n4_below {w w' : World} {B : Nat} {v1 v2 v3 v4 : Value} {c1 c2 : List Wt.Nd} {c3 c4 : List Int} (h : N4 w B v1 v2 v3 v4 c1 c2 c3 c4) (hb : Below w.heap.size w w') : N4 w' B v1 v2 v3 v4 c1 c2 c3 c4 :=
  ⟨h.1.below hb, h.2.1.below hb, ownr_below h.2.2.1 hb, ownr_below h.2.2.2 hb⟩
set_option maxRecDepth 100000 in
set_option maxHeartbeats 16000000 in
theorem tfresh_main (b : ByteArray) (w : World) (hE : Env w) (hk8 : 8 ≤ w.heap.size) (hs : b.size ≤ 9223372036854775807) : Calls Tryz.prog 6 #[.string b] w fun e w' => e = .returned (.bool true) ∧ Below w.heap.size w w' := by
  have A := table_any w hE hk8
  obtain ⟨R, cc, pp, h256, hF, hc, S⟩ := parse_both b hs
  obtain ⟨ks, hks, K⟩ := kids_both R h256 hF hc
  have HE : Hid (Env w) := hE
  obtain ⟨i0, hi, hz0, hz1, hz2⟩ := info_parts nodeInfo
  obtain ⟨j0, hj, hy0, hy1, hy2⟩ := info_parts intInfo
  have hl8 : True → R.length ≤ 799644820177 := fun _ => by omega
  have h256i : (R.length : Int) ≤ 256 := by omega
  have hksi : (ks.length : Int) ≤ 30 := by omega
  clear hE hF hc
  go_enter Tryz.func6, Tryz.ntmps6
  go_wp2_with fail
  refine A.mono ?_
  rintro e w1 ⟨rfl, hb1⟩
  have S1 := S w1 (HE.out.below hb1) (Nat.le_trans hk8 hb1.size)
  clear A
  go_wp2_with fail
  refine S1.mono ?_
  rintro e w2 ⟨⟨v1, rfl, own1⟩, hb2⟩
  have hB2 := below_end hb1 hb2
  have S2 := S w2 (HE.out.below hB2) (Nat.le_trans hk8 hB2.size)
  clear S1 S
  go_wp2_with fail
  refine S2.mono ?_
  rintro e w3 ⟨⟨v2, rfl, own2⟩, hb3⟩
  have hB3 := below_end hB2 hb3
  have l1 := own1.lt
  have l2 := own2.lt
  have own1 := own1.below hb3
  obtain ⟨a1, c1, rfl, -⟩ := own1.formX
  obtain ⟨a2, c2, rfl, -⟩ := own2.formX
  have hr1 := own1.rd
  have HR1 : Hid (RdN w3 a1 R) := hr1
  have hno1 : a1 = none → R.length = 0 ∧ c1 = 0 := by
    intro e
    rcases own1.2 with ⟨h, h0⟩ | ⟨g, _, _, h, _⟩
    · simp only [Value.slice.injEq] at h; exact ⟨h0, h.2.2⟩
    · simp only [Value.slice.injEq] at h; rw [h.1] at e; cases e
  have HO1 : Hid (OwnN w3 w1.heap.size (.slice a1 R.length c1) R) := own1
  have HO2 : Hid (OwnN w3 w2.heap.size (.slice a2 R.length c2) R) := own2
  clear S2 own1 own2
  go_wp2_with (at_builtin; refine wpList_copyN rfl _ _ rfl w3 rfl a1 R c1 rfl hr1 hno1 hl8 ?_)
  intro v5 w5 own5 hb5
  obtain ⟨a5, c5, rfl, hr5⟩ := own5.form
  have hB5 := below_end hB3 hb5
  have Q5 := K a5 c5 w5 (HE.out.below hB5).1 hr5
  clear own5 hr5
  go_wp2_with fail
  refine Q5.mono ?_
  rintro e w6 ⟨v3, rfl, own3, hb6⟩
  have hB6 := below_end hB5 hb6
  have hr6 : RdN w6 a1 R := HR1.out.below (below_end hb5 hb6)
  have l3 := own3.lt
  obtain ⟨a3, c3, rfl, -⟩ := own3.form
  have HO3 : Hid (OwnI w6 w5.heap.size (.slice a3 ks.length c3) ks) := own3
  clear Q5 own3 hr1
  go_wp2_with (at_builtin; refine wpList_copyN rfl _ _ rfl w6 rfl a1 R c1 rfl hr6 hno1 hl8 ?_)
  intro v7 w7 own7 hb7
  obtain ⟨a7, c7, rfl, hr7⟩ := own7.form
  have hB7 := below_end hB6 hb7
  have Q7 := K a7 c7 w7 (HE.out.below hB7).1 hr7
  clear own7 hr7 hr6 K
  go_wp2_with fail
  refine Q7.mono ?_
  rintro e w8 ⟨v4, rfl, own4, hb8⟩
  have hB8 := below_end hB7 hb8
  have l4 := own4.lt
  obtain ⟨a4, c4, rfl, -⟩ := own4.form
  have z1 := hb1.size
  have z2 := hb2.size
  have z3 := hb3.size
  have z5 := hb5.size
  have z6 := hb6.size
  have z7 := hb7.size
  have z8 := hb8.size
  have hb68 := below_end hb7 hb8
  have hb38 : Below w3.heap.size w3 w8 := below_end (below_end hb5 hb6) hb68
  have SP : Hid (Sep (.slice a1 R.length c1) (.slice a2 R.length c2) (.slice a3 ks.length c3) (.slice a4 ks.length c4)) :=
    ⟨nb_lt (fun g e => (l1 g e).2) (fun g e => (l2 g e).1) (Nat.le_refl _), nb_lt (fun g e => (l1 g e).2) (fun g e => (l3 g e).1) (by omega), nb_lt (fun g e => (l1 g e).2) (fun g e => (l4 g e).1) (by omega), nb_lt (fun g e => (l2 g e).2) (fun g e => (l3 g e).1) (by omega), nb_lt (fun g e => (l2 g e).2) (fun g e => (l4 g e).1) (by omega), nb_lt (fun g e => (l3 g e).2) (fun g e => (l4 g e).1) (by omega)⟩
  have HN0 : Hid (N4 w8 w.heap.size (.slice a1 R.length c1) (.slice a2 R.length c2) (.slice a3 ks.length c3) (.slice a4 ks.length c4) R R (ks.map fun (k : Nat) => (k : Int)) (ks.map fun (k : Nat) => (k : Int))) :=
    ⟨own_leX (HO1.out.below hb38) z1, own_leX (HO2.out.below hb38) (by omega), own_leX (OwnZ.of (HO3.out.below hb68)) (by omega), own_leX (OwnZ.of own4) (by omega)⟩
  have hrA : RdN w8 a1 R := (HO1.out.below hb38).rd
  have hrB : RdN w8 a2 R := (HO2.out.below hb38).rd
  have SA := nsame_true a1 a2 c1 c2 R w8 hrA hrB (by omega)
  have HI3 : Hid (RdI w8 a3 ks) := by
    obtain ⟨a, c, e, h⟩ := (HO3.out.below hb68).form
    simp only [Value.slice.injEq] at e
    rw [e.1]; exact h
  have HI4 : Hid (RdI w8 a4 ks) := by
    obtain ⟨a, c, e, h⟩ := own4.form
    simp only [Value.slice.injEq] at e
    rw [e.1]; exact h
  clear Q7 own4 HO1 HO2 HO3 HR1 l1 l2 l3 l4 hb1 hb2 hb3 hb5 hb6 hb7 hb8 hb68 hb38 z1 z2 z3 z5 z6 z7 z8 hB2 hB3 hB5 hB6 hB7 hrA hrB hno1 hl8
  go_wp2_with fail
  refine SA.mono ?_
  rintro e w9 ⟨rfl, hb9⟩
  have hB9 := below_end hB8 hb9
  have IA := ints_true ks a3 a4 c3 c4 w9 (HI3.out.below hb9) (HI4.out.below hb9) (by omega)
  have HN9 : Hid (N4 w9 w.heap.size (.slice a1 R.length c1) (.slice a2 R.length c2) (.slice a3 ks.length c3) (.slice a4 ks.length c4) R R (ks.map fun (k : Nat) => (k : Int)) (ks.map fun (k : Nat) => (k : Int))) := n4_below HN0.out hb9
  clear SA HI3 HI4 HN0 hB8
  go_wp2_with fail
  refine IA.mono ?_
  rintro e w10 ⟨rfl, hb10⟩
  have hB := below_end hB9 hb10
  have HN : Hid (N4 w10 w.heap.size (.slice a1 R.length c1) (.slice a2 R.length c2) (.slice a3 ks.length c3) (.slice a4 ks.length c4) (mkL 1000 0 ++ R.drop 0) R (ks.map fun (k : Nat) => (k : Int)) (ks.map fun (k : Nat) => (k : Int))) := n4_below HN9.out hb10
  clear IA HN9 hB9 hb9 hb10
  obtain ⟨K3, hK3⟩ : ∃ K3 : List Int, (ks.map fun (k : Nat) => (k : Int)) = K3 := ⟨_, rfl⟩
  have hK3l : Hid (K3.length = ks.length) := by show _ = _; rw [← hK3]; simp
  rw [hK3] at HN
  clear hK3
  have F1 : Hid (0 < R.length → ∃ g, a1 = some ⟨g, 0, none⟩) := fun h0 => by
    obtain ⟨a, c, e, f⟩ := OwnN.formX HN.out.1
    simp only [Value.slice.injEq] at e
    obtain ⟨g, hg, -⟩ := f (by first | exact h0 | (rw [← e.2.1]; exact h0))
    exact ⟨g, by rw [e.1, hg]⟩
  have F2 : Hid (0 < R.length → ∃ g, a2 = some ⟨g, 0, none⟩) := fun h0 => by
    obtain ⟨a, c, e, f⟩ := OwnN.formX HN.out.2.1
    simp only [Value.slice.injEq] at e
    obtain ⟨g, hg, -⟩ := f (by first | exact h0 | (rw [← e.2.1]; exact h0))
    exact ⟨g, by rw [e.1, hg]⟩
  have F3 : Hid (0 < ks.length → ∃ g, a3 = some ⟨g, 0, none⟩) := fun h0 => by
    obtain ⟨a, c, e, f⟩ := OwnZ.form HN.out.2.2.1
    simp only [Value.slice.injEq] at e
    obtain ⟨g, hg, -⟩ := f (by first | exact h0 | (rw [← e.2.1]; exact h0))
    exact ⟨g, by rw [e.1, hg]⟩
  have F4 : Hid (0 < ks.length → ∃ g, a4 = some ⟨g, 0, none⟩) := fun h0 => by
    obtain ⟨a, c, e, f⟩ := OwnZ.form HN.out.2.2.2
    simp only [Value.slice.injEq] at e
    obtain ⟨g, hg, -⟩ := f (by first | exact h0 | (rw [← e.2.1]; exact h0))
    exact ⟨g, by rw [e.1, hg]⟩
  go_wp2_with fail
  go_loopg [12] (R.length) (fun gk x wr => ∃ i : Nat, x = .int .i64 i ∧ gk = R.length - i ∧ i ≤ R.length ∧ Hid (N4 wr w.heap.size (.slice a1 R.length c1) (.slice a2 R.length c2) (.slice a3 ks.length c3) (.slice a4 ks.length c4) (mkL 1000 i ++ R.drop i) (R) (K3) (K3)) ∧ Below w.heap.size w wr)
  case atStart => exact ⟨0, rfl, rfl, Nat.zero_le _, HN, hB⟩
  case round =>
    clear HN hB
    obtain ⟨i, rfl, hg, hi1, HO, hB⟩ := hrel
    by_cases hlt : i < R.length
    · have hli : (i : Int) < (R.length : Int) := by omega
      have own := HO.out.1
      obtain ⟨g1, e1, hgb⟩ : ∃ g1, a1 = some ⟨g1, 0, none⟩ ∧ w.heap.size ≤ g1 := by
        rcases own.2 with ⟨_, h0⟩ | ⟨g, _, _, e, hb, _⟩
        · exfalso; rw [List.length_append, mkL_length, List.length_drop] at h0; omega
        · simp only [Value.slice.injEq] at e
          exact ⟨g, e.1, hb⟩
      subst e1
      have hd := List.drop_eq_getElem_cons (l := R) hlt
      rw [hd] at own
      have hll : R.length = (mkL 1000 i ++ R[i]'hlt :: R.drop (i + 1)).length := by rw [← hd, List.length_append, mkL_length, List.length_drop]; omega
      have hth := (own.at hll i (by rw [← hll]; exact hlt)).2
      have HN5 : Hid (N4 (wr.setCells g1 (i * 20) (nd20 (mkN (1000 + (i : Int))))) w.heap.size (.slice (some ⟨g1, 0, none⟩) R.length c1) (.slice a2 R.length c2) (.slice a3 ks.length c3) (.slice a4 ks.length c4) (mkL 1000 (i + 1) ++ R.drop (i + 1)) (R) (K3) (K3)) := by
        have o5 := own.put hll i (by rw [mkL_length]) (mkN (1000 + (i : Int)))
        refine HO.out.grow1 SP.out (setAll_grown wr g1 _ _) ?_
        rw [mkL_succ, List.append_assoc]
        exact o5
      have hB5 : Below w.heap.size w (wr.setCells g1 (i * 20) (nd20 (mkN (1000 + (i : Int))))) := bset hB hgb _ _
      have hcw : IntKind.i64.wrap (1000 + (i : Int)) = 1000 + (i : Int) := IntWalk.i64_in _ (by omega)
      clear own HO hd hll hB
      go_wp2_with (first
        | ((with_reducible refine wpList_bldN ?_ (.tmp 66) ?_ (1000 + (i : Int)) ?_ ?_); rfl; rfl; first | rfl | simp)
        | ((with_reducible refine wpList_store_mid ?_ 45 (.tmp 68) (.tmp 67) ?_ (g1) (i * 20) (nd20 (mkN (1000 + (i : Int)))).toArray ?_ ?_ ?_ ?_ ?_ ?_); rfl; rfl; rfl; rfl; exact hth; kernel_rfl; exact one20 _))
      go_roundg (R.length - (i + 1))
      case rel => exact ⟨i + 1, by simp, rfl, hlt, HN5, hB5⟩
      case measure => omega
    · have hli : ¬ (i : Int) < (R.length : Int) := by omega
      have hie : i = R.length := by omega
      have HN : Hid (N4 wr w.heap.size (.slice a1 R.length c1) (.slice a2 R.length c2) (.slice a3 ks.length c3) (.slice a4 ks.length c4) (mkL 1000 R.length) (mkL 2000 0 ++ R.drop 0) (K3) (K3)) := by
        have h := HO.out
        rw [hie, List.drop_eq_nil_of_le (Nat.le_refl _), List.append_nil] at h
        exact h
      clear HO hie
      go_wp2_with fail
      go_loopg [13] (R.length) (fun gk x wr => ∃ i : Nat, x = .int .i64 i ∧ gk = R.length - i ∧ i ≤ R.length ∧ Hid (N4 wr w.heap.size (.slice a1 R.length c1) (.slice a2 R.length c2) (.slice a3 ks.length c3) (.slice a4 ks.length c4) (mkL 1000 R.length) (mkL 2000 i ++ R.drop i) (K3) (K3)) ∧ Below w.heap.size w wr)
      case atStart => exact ⟨0, rfl, rfl, Nat.zero_le _, HN, hB⟩
      case round =>
        clear HN hB
        obtain ⟨i, rfl, hg, hi1, HO, hB⟩ := hrel
        by_cases hlt : i < R.length
        · have hli : (i : Int) < (R.length : Int) := by omega
          have own := HO.out.2.1
          obtain ⟨g1, e1, hgb⟩ : ∃ g1, a2 = some ⟨g1, 0, none⟩ ∧ w.heap.size ≤ g1 := by
            rcases own.2 with ⟨_, h0⟩ | ⟨g, _, _, e, hb, _⟩
            · exfalso; rw [List.length_append, mkL_length, List.length_drop] at h0; omega
            · simp only [Value.slice.injEq] at e
              exact ⟨g, e.1, hb⟩
          subst e1
          have hd := List.drop_eq_getElem_cons (l := R) hlt
          rw [hd] at own
          have hll : R.length = (mkL 2000 i ++ R[i]'hlt :: R.drop (i + 1)).length := by rw [← hd, List.length_append, mkL_length, List.length_drop]; omega
          have hth := (own.at hll i (by rw [← hll]; exact hlt)).2
          have HN5 : Hid (N4 (wr.setCells g1 (i * 20) (nd20 (mkN (2000 + (i : Int))))) w.heap.size (.slice a1 R.length c1) (.slice (some ⟨g1, 0, none⟩) R.length c2) (.slice a3 ks.length c3) (.slice a4 ks.length c4) (mkL 1000 R.length) (mkL 2000 (i + 1) ++ R.drop (i + 1)) (K3) (K3)) := by
            have o5 := own.put hll i (by rw [mkL_length]) (mkN (2000 + (i : Int)))
            refine HO.out.grow2 SP.out (setAll_grown wr g1 _ _) ?_
            rw [mkL_succ, List.append_assoc]
            exact o5
          have hB5 : Below w.heap.size w (wr.setCells g1 (i * 20) (nd20 (mkN (2000 + (i : Int))))) := bset hB hgb _ _
          have hcw : IntKind.i64.wrap (2000 + (i : Int)) = 2000 + (i : Int) := IntWalk.i64_in _ (by omega)
          clear own HO hd hll hB
          go_wp2_with (first
            | ((with_reducible refine wpList_bldN ?_ (.tmp 77) ?_ (2000 + (i : Int)) ?_ ?_); rfl; rfl; first | rfl | simp)
            | ((with_reducible refine wpList_store_mid ?_ 45 (.tmp 79) (.tmp 78) ?_ (g1) (i * 20) (nd20 (mkN (2000 + (i : Int)))).toArray ?_ ?_ ?_ ?_ ?_ ?_); rfl; rfl; rfl; rfl; exact hth; kernel_rfl; exact one20 _))
          go_roundg (R.length - (i + 1))
          case rel => exact ⟨i + 1, by simp, rfl, hlt, HN5, hB5⟩
          case measure => omega
        · have hli : ¬ (i : Int) < (R.length : Int) := by omega
          have hie : i = R.length := by omega
          have HN : Hid (N4 wr w.heap.size (.slice a1 R.length c1) (.slice a2 R.length c2) (.slice a3 ks.length c3) (.slice a4 ks.length c4) (mkL 1000 R.length) (mkL 2000 R.length) (mkI 5000 0 ++ K3.drop 0) (K3)) := by
            have h := HO.out
            rw [hie, List.drop_eq_nil_of_le (Nat.le_refl _), List.append_nil] at h
            exact h
          clear HO hie
          go_wp2_with fail
          go_loopg [14] (ks.length) (fun gk x wr => ∃ i : Nat, x = .int .i64 i ∧ gk = ks.length - i ∧ i ≤ ks.length ∧ Hid (N4 wr w.heap.size (.slice a1 R.length c1) (.slice a2 R.length c2) (.slice a3 ks.length c3) (.slice a4 ks.length c4) (mkL 1000 R.length) (mkL 2000 R.length) (mkI 5000 i ++ K3.drop i) (K3)) ∧ Below w.heap.size w wr)
          case atStart => exact ⟨0, rfl, rfl, Nat.zero_le _, HN, hB⟩
          case round =>
            clear HN hB
            obtain ⟨i, rfl, hg, hi1, HO, hB⟩ := hrel
            by_cases hlt : i < ks.length
            · have hli : (i : Int) < (ks.length : Int) := by omega
              have own := HO.out.2.2.1
              obtain ⟨g1, e1, hgb⟩ : ∃ g1, a3 = some ⟨g1, 0, none⟩ ∧ w.heap.size ≤ g1 := by
                rcases own.2 with ⟨_, h0⟩ | ⟨g, _, _, e, hb, _⟩
                · exfalso; have := hK3l.out; rw [List.length_append, mkI_length, List.length_drop] at h0; omega
                · simp only [Value.slice.injEq] at e
                  exact ⟨g, e.1, hb⟩
              subst e1
              have hd := List.drop_eq_getElem_cons (l := K3) (show i < K3.length by have := hK3l.out; omega)
              rw [hd] at own
              have hll : ks.length = (mkI 5000 i ++ K3[i]'(show i < K3.length by have := hK3l.out; omega) :: K3.drop (i + 1)).length := by rw [← hd, List.length_append, mkI_length, List.length_drop]; have := hK3l.out; omega
              obtain ⟨zq, hcl⟩ : ∃ zq, wr.cell? ⟨g1, i, none⟩ = some (.int .i64 zq) := ⟨_, (own.at hll i (by rw [← hll]; exact hlt)).1⟩
              have hfz := (own.at hll i (by rw [← hll]; exact hlt)).2
              have HN5 : Hid (N4 (wr.setCell ⟨g1, i, none⟩ (.int .i64 (5000 + (i : Int)))) w.heap.size (.slice a1 R.length c1) (.slice a2 R.length c2) (.slice (some ⟨g1, 0, none⟩) ks.length c3) (.slice a4 ks.length c4) (mkL 1000 R.length) (mkL 2000 R.length) (mkI 5000 (i + 1) ++ K3.drop (i + 1)) (K3)) := by
                have o5 := own.put hll i (by rw [mkI_length]) (5000 + (i : Int))
                refine HO.out.grow3 SP.out (set_grown wr g1 _ _) ?_
                rw [mkI_succ, List.append_assoc]
                exact o5
              have hB5 : Below w.heap.size w (wr.setCell ⟨g1, i, none⟩ (.int .i64 (5000 + (i : Int)))) := hB.setCell (p := ⟨g1, _, none⟩) hgb _
              clear own HO hd hll hB
              go_wp2_with fail
              go_roundg (ks.length - (i + 1))
              case rel => exact ⟨i + 1, by simp, rfl, hlt, HN5, hB5⟩
              case measure => omega
            · have hli : ¬ (i : Int) < (ks.length : Int) := by omega
              have hie : i = ks.length := by omega
              have HN : Hid (N4 wr w.heap.size (.slice a1 R.length c1) (.slice a2 R.length c2) (.slice a3 ks.length c3) (.slice a4 ks.length c4) (mkL 1000 R.length) (mkL 2000 R.length) (mkI 5000 ks.length) (mkI 6000 0 ++ K3.drop 0)) := by
                have h := HO.out
                rw [hie, List.drop_eq_nil_of_le (by have := hK3l.out; omega), List.append_nil] at h
                exact h
              clear HO hie
              go_wp2_with fail
              go_loopg [15] (ks.length) (fun gk x wr => ∃ i : Nat, x = .int .i64 i ∧ gk = ks.length - i ∧ i ≤ ks.length ∧ Hid (N4 wr w.heap.size (.slice a1 R.length c1) (.slice a2 R.length c2) (.slice a3 ks.length c3) (.slice a4 ks.length c4) (mkL 1000 R.length) (mkL 2000 R.length) (mkI 5000 ks.length) (mkI 6000 i ++ K3.drop i)) ∧ Below w.heap.size w wr)
              case atStart => exact ⟨0, rfl, rfl, Nat.zero_le _, HN, hB⟩
              case round =>
                clear HN hB
                obtain ⟨i, rfl, hg, hi1, HO, hB⟩ := hrel
                by_cases hlt : i < ks.length
                · have hli : (i : Int) < (ks.length : Int) := by omega
                  have own := HO.out.2.2.2
                  obtain ⟨g1, e1, hgb⟩ : ∃ g1, a4 = some ⟨g1, 0, none⟩ ∧ w.heap.size ≤ g1 := by
                    rcases own.2 with ⟨_, h0⟩ | ⟨g, _, _, e, hb, _⟩
                    · exfalso; have := hK3l.out; rw [List.length_append, mkI_length, List.length_drop] at h0; omega
                    · simp only [Value.slice.injEq] at e
                      exact ⟨g, e.1, hb⟩
                  subst e1
                  have hd := List.drop_eq_getElem_cons (l := K3) (show i < K3.length by have := hK3l.out; omega)
                  rw [hd] at own
                  have hll : ks.length = (mkI 6000 i ++ K3[i]'(show i < K3.length by have := hK3l.out; omega) :: K3.drop (i + 1)).length := by rw [← hd, List.length_append, mkI_length, List.length_drop]; have := hK3l.out; omega
                  obtain ⟨zq, hcl⟩ : ∃ zq, wr.cell? ⟨g1, i, none⟩ = some (.int .i64 zq) := ⟨_, (own.at hll i (by rw [← hll]; exact hlt)).1⟩
                  have hfz := (own.at hll i (by rw [← hll]; exact hlt)).2
                  have HN5 : Hid (N4 (wr.setCell ⟨g1, i, none⟩ (.int .i64 (6000 + (i : Int)))) w.heap.size (.slice a1 R.length c1) (.slice a2 R.length c2) (.slice a3 ks.length c3) (.slice (some ⟨g1, 0, none⟩) ks.length c4) (mkL 1000 R.length) (mkL 2000 R.length) (mkI 5000 ks.length) (mkI 6000 (i + 1) ++ K3.drop (i + 1))) := by
                    have o5 := own.put hll i (by rw [mkI_length]) (6000 + (i : Int))
                    refine HO.out.grow4 SP.out (set_grown wr g1 _ _) ?_
                    rw [mkI_succ, List.append_assoc]
                    exact o5
                  have hB5 : Below w.heap.size w (wr.setCell ⟨g1, i, none⟩ (.int .i64 (6000 + (i : Int)))) := hB.setCell (p := ⟨g1, _, none⟩) hgb _
                  clear own HO hd hll hB
                  go_wp2_with fail
                  go_roundg (ks.length - (i + 1))
                  case rel => exact ⟨i + 1, by simp, rfl, hlt, HN5, hB5⟩
                  case measure => omega
                · have hli : ¬ (i : Int) < (ks.length : Int) := by omega
                  have hie : i = ks.length := by omega
                  have HN : Hid (N4 wr w.heap.size (.slice a1 R.length c1) (.slice a2 R.length c2) (.slice a3 ks.length c3) (.slice a4 ks.length c4) (mkL 1000 R.length) (mkL 2000 R.length) (mkI 5000 ks.length) (mkI 6000 ks.length)) := by
                    have h := HO.out
                    rw [hie, List.drop_eq_nil_of_le (by have := hK3l.out; omega), List.append_nil] at h
                    exact h
                  clear HO hie
                  have RR0 : Hid (RdC wr (.slice a1 R.length c1) (ndRow (mkL 1000 R.length))) := rdc_own HN.out.1
                  have RR1 : Hid (RdC wr (.slice a3 ks.length c3) (intZ (mkI 5000 ks.length))) := rdc_own HN.out.2.2.1
                  have NBn : Hid (NB (.slice a1 R.length c1) (.slice a3 ks.length c3) ∧ NB (.slice a3 ks.length c3) (.slice a1 R.length c1)) := ⟨SP.out.2.1, SP.out.2.1.symm⟩
                  have SPn := SP
                  have HN : Hid (N4 wr w.heap.size (.slice a1 R.length c1) (.slice a2 R.length c2) (.slice a3 ks.length c3) (.slice a4 ks.length c4) (mkL 1000 R.length ++ List.replicate 0 (mkN (-1))) (mkL 2000 R.length) (mkI 5000 ks.length ++ List.replicate 0 (-1)) (mkI 6000 ks.length)) := by
                    show N4 _ _ _ _ _ _ _ _ _ _
                    rw [List.replicate_zero, List.replicate_zero, List.append_nil, List.append_nil]
                    exact HN.out
                  go_wp2_with fail
                  go_loopg [16, 18, 20] 40 (fun gk x y z wr => ∃ i : Nat, z = .int .i64 i ∧ gk = 40 - i ∧ i ≤ 40 ∧ Hid (N4 wr w.heap.size x (.slice a2 R.length c2) y (.slice a4 ks.length c4) (mkL 1000 R.length ++ List.replicate i (mkN (-1))) (mkL 2000 R.length) (mkI 5000 ks.length ++ List.replicate i (-1)) (mkI 6000 ks.length)) ∧ Hid (Sep x (.slice a2 R.length c2) y (.slice a4 ks.length c4)) ∧ Hid (RdC wr (.slice a1 R.length c1) (ndRow (mkL 1000 R.length))) ∧ Hid (RdC wr (.slice a3 ks.length c3) (intZ (mkI 5000 ks.length))) ∧ Hid (NB (.slice a1 R.length c1) y ∧ NB (.slice a3 ks.length c3) x) ∧ Below w.heap.size w wr)
                  case atStart => exact ⟨0, rfl, rfl, by omega, HN, SPn, RR0, RR1, NBn, hB⟩
                  case round =>
                    clear HN SPn NBn hB RR0 RR1
                    obtain ⟨i, rfl, hg, hi1, HO, SQ, RR0, RR1, NQ, hB⟩ := hrel
                    have sw := hB.size
                    by_cases hlt : i < 40
                    · have hli : (i : Int) < 40 := by omega
                      have own := HO.out.1
                      have hl : (mkL 1000 R.length ++ List.replicate i (mkN (-1))).length = R.length + i := by rw [List.length_append, mkL_length, List.length_replicate]
                      have hAl := HO.out.alloc (.cells (nd20 (mkN (-1))).toArray 45)
                      go_wp2_with (first
                        | ((with_reducible refine wpList_bldN ?_ (.const (.int .i64 (-1))) ?_ (-1) ?_ ?_); rfl; rfl; rfl)
                        | ((with_reducible refine wpList_bs1n ?_ (.tmp 111) ?_ (mkN (-1)) ?_ ?_); rfl; rfl; rfl)
                        | (at_builtin; refine wpList_append_keep _ rfl (.tmp 110) (.tmp 112) 22 (by rfl) w.heap.size 45 i0 (.agg #[.int .i64 0, .int .i64 0, .int .i64 0, .int .i64 0, .string ⟨#[]⟩, .bool false, .int .i64 0, .int .i64 0, .string ⟨#[]⟩, .int .i64 0, .string ⟨#[]⟩, .int .i64 0, .int .i64 0, .bool false, .bool false, .string ⟨#[]⟩, .int .i64 0, .int .i64 0, .bool false, .bool false]) 20 176 Tryz.underlying22 hi hz0 hz1 hz2 rfl (by decide) _ _ _ (by rfl) (own.alloc (.cells (nd20 (mkN (-1))).toArray 45)) ⟨wr.heap.size, 0, none⟩ 1 1 (nd20 (mkN (-1))) (by rfl) rfl (news20 wr (mkN (-1))) (fun u hu => nd_one _ u hu) (by unfold maxLen; omega) (by omega) (by simp only [World.size_alloc]; omega) ?_))
                      intro va wa owna hga hata hkpa
                      have hBa : Below w.heap.size w wa := (hB.alloc sw _).grown hga (by simp only [World.size_alloc]; omega) (fun k hk => (own.lt k hk).1)
                      have NAa : Hid (N4 wa w.heap.size va (.slice a2 R.length c2) u18 (.slice a4 ks.length c4) (mkL 1000 R.length ++ List.replicate (i + 1) (mkN (-1))) (mkL 2000 R.length) (mkI 5000 ks.length ++ List.replicate i (-1)) (mkI 6000 ks.length)) := by
                        refine hAl.grow1 SQ.out hga ?_
                        rw [rep_app]
                        exact ownN_app hl.symm owna
                      have SQa : Hid (Sep va (.slice a2 R.length c2) u18 (.slice a4 ks.length c4)) := Sep.new1 SQ.out hAl hata (by simp)
                      have Ra0 : Hid (RdC wa (.slice a1 R.length c1) (ndRow (mkL 1000 R.length))) := RdC.keep (RR0.out.alloc _) hga hkpa (by rw [ndRow_length, mkL_length]; omega)
                      have Ra1 : Hid (RdC wa (.slice a3 ks.length c3) (intZ (mkI 5000 ks.length))) := RdC.kept (RR1.out.alloc _) hga NQ.out.2
                      have NQa : Hid (NB (.slice a1 R.length c1) u18 ∧ NB (.slice a3 ks.length c3) va) := ⟨NQ.out.1, (nb_new (NB.symm NQ.out.2) hata (fun g e => Nat.lt_succ_of_lt (RR1.out.lt g e))).symm⟩
                      have ownz := NAa.out.2.2.1
                      have hl3 : (mkI 5000 ks.length ++ List.replicate i (-1)).length = ks.length + i := by rw [List.length_append, mkI_length, List.length_replicate]
                      have hBl := NAa.out.alloc (.cells #[.int .i64 (-1)] 3)
                      have swa := hBa.size
                      clear own owna hga hata hkpa hAl HO SQ NQ hB RR0 RR1 hl
                      go_wp2_with (at_builtin; refine wpList_append_keep _ rfl (.tmp 114) (.tmp 115) 34 (by rfl) w.heap.size 3 j0 (.int .i64 0) 1 8 Tryz.underlying34 hj hy0 hy1 hy2 rfl (by decide) _ _ _ (by rfl) (World.ownsRow.alloc ownz _) ⟨wa.heap.size, 0, none⟩ 1 1 [.int .i64 (-1)] (by rfl) rfl (news1 wa (-1)) (by intro u hu; simp at hu; subst hu; rfl) (by unfold maxLen; omega) (by omega) (by simp only [World.size_alloc]; omega) ?_)
                      intro vb wb ownb hgb hatb hkpb
                      have hBb : Below w.heap.size w wb := (hBa.alloc swa _).grown hgb (by simp only [World.size_alloc]; omega) (fun k hk => (ownz.lt k hk).1)
                      have NAb : Hid (N4 wb w.heap.size va (.slice a2 R.length c2) vb (.slice a4 ks.length c4) (mkL 1000 R.length ++ List.replicate (i + 1) (mkN (-1))) (mkL 2000 R.length) (mkI 5000 ks.length ++ List.replicate (i + 1) (-1)) (mkI 6000 ks.length)) := by
                        refine hBl.grow3 SQa.out hgb ?_
                        rw [rep_app]
                        exact ownZ_app hl3.symm ownb
                      have SQb : Hid (Sep va (.slice a2 R.length c2) vb (.slice a4 ks.length c4)) := Sep.new3 SQa.out hBl hatb (by simp)
                      have Rb0 : Hid (RdC wb (.slice a1 R.length c1) (ndRow (mkL 1000 R.length))) := RdC.kept (Ra0.out.alloc _) hgb NQa.out.1
                      have Rb1 : Hid (RdC wb (.slice a3 ks.length c3) (intZ (mkI 5000 ks.length))) := RdC.keep (Ra1.out.alloc _) hgb hkpb (by rw [intZ_length, mkI_length]; omega)
                      have NQb : Hid (NB (.slice a1 R.length c1) vb ∧ NB (.slice a3 ks.length c3) va) := ⟨(nb_new (NB.symm NQa.out.1) hatb (fun g e => Nat.lt_succ_of_lt (Ra0.out.lt g e))).symm, NQa.out.2⟩
                      clear ownz ownb hgb hatb hkpb hBl NAa SQa NQa hBa Ra0 Ra1 hl3
                      go_wp2_with fail
                      go_roundg (40 - (i + 1))
                      case rel => exact ⟨i + 1, by simp, rfl, by omega, NAb, SQb, Rb0, Rb1, NQb, hBb⟩
                      case measure => omega
                    · have hli : ¬ (i : Int) < 40 := by omega
                      have hie : i = 40 := by omega
                      have HN := HO.out
                      rw [hie] at HN
                      have RR4 := RR1
                      have RR1 : Hid (RdC wr (.slice a2 R.length c2) (ndRow (mkL 2000 R.length))) := rdc_own HN.2.1
                      have RR2 := RR4
                      have RR3 : Hid (RdC wr (.slice a4 ks.length c4) (intZ (mkI 6000 ks.length))) := rdc_own HN.2.2.2
                      have NBn : Hid (NB (.slice a1 R.length c1) (.slice a2 R.length c2) ∧ NB (.slice a3 ks.length c3) (.slice a2 R.length c2) ∧ NB (.slice a4 ks.length c4) (.slice a2 R.length c2) ∧ NB (.slice a1 R.length c1) (.slice a4 ks.length c4) ∧ NB (.slice a2 R.length c2) (.slice a4 ks.length c4) ∧ NB (.slice a3 ks.length c3) (.slice a4 ks.length c4)) := ⟨SP.out.1, SP.out.2.2.2.1.symm, SP.out.2.2.2.2.1.symm, SP.out.2.2.1, SP.out.2.2.2.2.1, SP.out.2.2.2.2.2⟩
                      have SPn : Hid (Sep u16 (.slice a2 R.length c2) u18 (.slice a4 ks.length c4)) := SQ.out
                      have HN : Hid (N4 wr w.heap.size u16 (.slice a2 R.length c2) u18 (.slice a4 ks.length c4) (mkL 1000 R.length ++ List.replicate 40 (mkN (-1))) (mkL 2000 R.length ++ List.replicate 0 (mkN (-2))) (mkI 5000 ks.length ++ List.replicate 40 (-1)) (mkI 6000 ks.length ++ List.replicate 0 (-2))) := by
                        show N4 _ _ _ _ _ _ _ _ _ _
                        rw [List.replicate_zero, List.replicate_zero, List.append_nil, List.append_nil]
                        exact HN
                      clear HO SQ NQ RR4 hie
                      go_wp2_with fail
                      go_loopg [17, 19, 21] 40 (fun gk x y z wr => ∃ i : Nat, z = .int .i64 i ∧ gk = 40 - i ∧ i ≤ 40 ∧ Hid (N4 wr w.heap.size u16 x u18 y (mkL 1000 R.length ++ List.replicate 40 (mkN (-1))) (mkL 2000 R.length ++ List.replicate i (mkN (-2))) (mkI 5000 ks.length ++ List.replicate 40 (-1)) (mkI 6000 ks.length ++ List.replicate i (-2))) ∧ Hid (Sep u16 x u18 y) ∧ Hid (RdC wr (.slice a1 R.length c1) (ndRow (mkL 1000 R.length))) ∧ Hid (RdC wr (.slice a2 R.length c2) (ndRow (mkL 2000 R.length))) ∧ Hid (RdC wr (.slice a3 ks.length c3) (intZ (mkI 5000 ks.length))) ∧ Hid (RdC wr (.slice a4 ks.length c4) (intZ (mkI 6000 ks.length))) ∧ Hid (NB (.slice a1 R.length c1) x ∧ NB (.slice a3 ks.length c3) x ∧ NB (.slice a4 ks.length c4) x ∧ NB (.slice a1 R.length c1) y ∧ NB (.slice a2 R.length c2) y ∧ NB (.slice a3 ks.length c3) y) ∧ Below w.heap.size w wr)
                      case atStart => exact ⟨0, rfl, rfl, by omega, HN, SPn, RR0, RR1, RR2, RR3, NBn, hB⟩
                      case round =>
                        clear HN SPn NBn hB RR0 RR1 RR2 RR3
                        obtain ⟨i, rfl, hg, hi1, HO, SQ, RR0, RR1, RR2, RR3, NQ, hB⟩ := hrel
                        have sw := hB.size
                        by_cases hlt : i < 40
                        · have hli : (i : Int) < 40 := by omega
                          have own := HO.out.2.1
                          have hl : (mkL 2000 R.length ++ List.replicate i (mkN (-2))).length = R.length + i := by rw [List.length_append, mkL_length, List.length_replicate]
                          have hAl := HO.out.alloc (.cells (nd20 (mkN (-2))).toArray 45)
                          go_wp2_with (first
                            | ((with_reducible refine wpList_bldN ?_ (.const (.int .i64 (-2))) ?_ (-2) ?_ ?_); rfl; rfl; rfl)
                            | ((with_reducible refine wpList_bs1n ?_ (.tmp 122) ?_ (mkN (-2)) ?_ ?_); rfl; rfl; rfl)
                            | (at_builtin; refine wpList_append_keep _ rfl (.tmp 121) (.tmp 123) 22 (by rfl) w.heap.size 45 i0 (.agg #[.int .i64 0, .int .i64 0, .int .i64 0, .int .i64 0, .string ⟨#[]⟩, .bool false, .int .i64 0, .int .i64 0, .string ⟨#[]⟩, .int .i64 0, .string ⟨#[]⟩, .int .i64 0, .int .i64 0, .bool false, .bool false, .string ⟨#[]⟩, .int .i64 0, .int .i64 0, .bool false, .bool false]) 20 176 Tryz.underlying22 hi hz0 hz1 hz2 rfl (by decide) _ _ _ (by rfl) (own.alloc (.cells (nd20 (mkN (-2))).toArray 45)) ⟨wr.heap.size, 0, none⟩ 1 1 (nd20 (mkN (-2))) (by rfl) rfl (news20 wr (mkN (-2))) (fun u hu => nd_one _ u hu) (by unfold maxLen; omega) (by omega) (by simp only [World.size_alloc]; omega) ?_))
                          intro va wa owna hga hata hkpa
                          have hBa : Below w.heap.size w wa := (hB.alloc sw _).grown hga (by simp only [World.size_alloc]; omega) (fun k hk => (own.lt k hk).1)
                          have NAa : Hid (N4 wa w.heap.size u16 va u18 u19 (mkL 1000 R.length ++ List.replicate 40 (mkN (-1))) (mkL 2000 R.length ++ List.replicate (i + 1) (mkN (-2))) (mkI 5000 ks.length ++ List.replicate 40 (-1)) (mkI 6000 ks.length ++ List.replicate i (-2))) := by
                            refine hAl.grow2 SQ.out hga ?_
                            rw [rep_app]
                            exact ownN_app hl.symm owna
                          have SQa : Hid (Sep u16 va u18 u19) := Sep.new2 SQ.out hAl hata (by simp)
                          have Ra0 : Hid (RdC wa (.slice a1 R.length c1) (ndRow (mkL 1000 R.length))) := RdC.kept (RR0.out.alloc _) hga NQ.out.1
                          have Ra1 : Hid (RdC wa (.slice a2 R.length c2) (ndRow (mkL 2000 R.length))) := RdC.keep (RR1.out.alloc _) hga hkpa (by rw [ndRow_length, mkL_length]; omega)
                          have Ra2 : Hid (RdC wa (.slice a3 ks.length c3) (intZ (mkI 5000 ks.length))) := RdC.kept (RR2.out.alloc _) hga NQ.out.2.1
                          have Ra3 : Hid (RdC wa (.slice a4 ks.length c4) (intZ (mkI 6000 ks.length))) := RdC.kept (RR3.out.alloc _) hga NQ.out.2.2.1
                          have NQa : Hid (NB (.slice a1 R.length c1) va ∧ NB (.slice a3 ks.length c3) va ∧ NB (.slice a4 ks.length c4) va ∧ NB (.slice a1 R.length c1) u19 ∧ NB (.slice a2 R.length c2) u19 ∧ NB (.slice a3 ks.length c3) u19) := ⟨(nb_new (NB.symm NQ.out.1) hata (fun g e => Nat.lt_succ_of_lt (RR0.out.lt g e))).symm, (nb_new (NB.symm NQ.out.2.1) hata (fun g e => Nat.lt_succ_of_lt (RR2.out.lt g e))).symm, (nb_new (NB.symm NQ.out.2.2.1) hata (fun g e => Nat.lt_succ_of_lt (RR3.out.lt g e))).symm, NQ.out.2.2.2.1, NQ.out.2.2.2.2.1, NQ.out.2.2.2.2.2⟩
                          have ownz := NAa.out.2.2.2
                          have hl3 : (mkI 6000 ks.length ++ List.replicate i (-2)).length = ks.length + i := by rw [List.length_append, mkI_length, List.length_replicate]
                          have hBl := NAa.out.alloc (.cells #[.int .i64 (-2)] 3)
                          have swa := hBa.size
                          clear own owna hga hata hkpa hAl HO SQ NQ hB RR0 RR1 RR2 RR3 hl
                          go_wp2_with (at_builtin; refine wpList_append_keep _ rfl (.tmp 125) (.tmp 126) 34 (by rfl) w.heap.size 3 j0 (.int .i64 0) 1 8 Tryz.underlying34 hj hy0 hy1 hy2 rfl (by decide) _ _ _ (by rfl) (World.ownsRow.alloc ownz _) ⟨wa.heap.size, 0, none⟩ 1 1 [.int .i64 (-2)] (by rfl) rfl (news1 wa (-2)) (by intro u hu; simp at hu; subst hu; rfl) (by unfold maxLen; omega) (by omega) (by simp only [World.size_alloc]; omega) ?_)
                          intro vb wb ownb hgb hatb hkpb
                          have hBb : Below w.heap.size w wb := (hBa.alloc swa _).grown hgb (by simp only [World.size_alloc]; omega) (fun k hk => (ownz.lt k hk).1)
                          have NAb : Hid (N4 wb w.heap.size u16 va u18 vb (mkL 1000 R.length ++ List.replicate 40 (mkN (-1))) (mkL 2000 R.length ++ List.replicate (i + 1) (mkN (-2))) (mkI 5000 ks.length ++ List.replicate 40 (-1)) (mkI 6000 ks.length ++ List.replicate (i + 1) (-2))) := by
                            refine hBl.grow4 SQa.out hgb ?_
                            rw [rep_app]
                            exact ownZ_app hl3.symm ownb
                          have SQb : Hid (Sep u16 va u18 vb) := Sep.new4 SQa.out hBl hatb (by simp)
                          have Rb0 : Hid (RdC wb (.slice a1 R.length c1) (ndRow (mkL 1000 R.length))) := RdC.kept (Ra0.out.alloc _) hgb NQa.out.2.2.2.1
                          have Rb1 : Hid (RdC wb (.slice a2 R.length c2) (ndRow (mkL 2000 R.length))) := RdC.kept (Ra1.out.alloc _) hgb NQa.out.2.2.2.2.1
                          have Rb2 : Hid (RdC wb (.slice a3 ks.length c3) (intZ (mkI 5000 ks.length))) := RdC.kept (Ra2.out.alloc _) hgb NQa.out.2.2.2.2.2
                          have Rb3 : Hid (RdC wb (.slice a4 ks.length c4) (intZ (mkI 6000 ks.length))) := RdC.keep (Ra3.out.alloc _) hgb hkpb (by rw [intZ_length, mkI_length]; omega)
                          have NQb : Hid (NB (.slice a1 R.length c1) va ∧ NB (.slice a3 ks.length c3) va ∧ NB (.slice a4 ks.length c4) va ∧ NB (.slice a1 R.length c1) vb ∧ NB (.slice a2 R.length c2) vb ∧ NB (.slice a3 ks.length c3) vb) := ⟨NQa.out.1, NQa.out.2.1, NQa.out.2.2.1, (nb_new (NB.symm NQa.out.2.2.2.1) hatb (fun g e => Nat.lt_succ_of_lt (Ra0.out.lt g e))).symm, (nb_new (NB.symm NQa.out.2.2.2.2.1) hatb (fun g e => Nat.lt_succ_of_lt (Ra1.out.lt g e))).symm, (nb_new (NB.symm NQa.out.2.2.2.2.2) hatb (fun g e => Nat.lt_succ_of_lt (Ra2.out.lt g e))).symm⟩
                          clear ownz ownb hgb hatb hkpb hBl NAa SQa NQa hBa Ra0 Ra1 Ra2 Ra3 hl3
                          go_wp2_with fail
                          go_roundg (40 - (i + 1))
                          case rel => exact ⟨i + 1, by simp, rfl, by omega, NAb, SQb, Rb0, Rb1, Rb2, Rb3, NQb, hBb⟩
                          case measure => omega
                        · have hli : ¬ (i : Int) < 40 := by omega
                          have hie : i = 40 := by omega
                          have HN := HO.out
                          rw [hie] at HN
                          clear HO SQ NQ hie
                          obtain ⟨W, hW⟩ : ∃ W, W = wr := ⟨_, rfl⟩
                          subst hW
                          obtain ⟨aG, cG, eG, fG⟩ := OwnN.formX HN.1
                          have lG : (mkL 1000 R.length ++ List.replicate 40 (mkN (-1))).length = R.length + 40 := by rw [List.length_append, mkL_length, List.length_replicate]
                          obtain ⟨gG, hG, -⟩ := fG (by omega)
                          rw [lG, hG] at eG
                          have RG : Hid (RdC W u16 (ndRow (mkL 1000 R.length ++ List.replicate 40 (mkN (-1))))) := rdc_own HN.1
                          clear fG hG
                          obtain ⟨aH, cH, eH, fH⟩ := OwnN.formX HN.2.1
                          have lH : (mkL 2000 R.length ++ List.replicate 40 (mkN (-2))).length = R.length + 40 := by rw [List.length_append, mkL_length, List.length_replicate]
                          obtain ⟨gH, hH, -⟩ := fH (by omega)
                          rw [lH, hH] at eH
                          have RH : Hid (RdC W u17 (ndRow (mkL 2000 R.length ++ List.replicate 40 (mkN (-2))))) := rdc_own HN.2.1
                          clear fH hH
                          obtain ⟨aU, cU, eU, fU⟩ := OwnZ.form HN.2.2.1
                          have lU : (mkI 5000 ks.length ++ List.replicate 40 (-1)).length = ks.length + 40 := by rw [List.length_append, mkI_length, List.length_replicate]
                          obtain ⟨gU, hU, -⟩ := fU (by omega)
                          rw [lU, hU] at eU
                          have RU : Hid (RdC W u18 (intZ (mkI 5000 ks.length ++ List.replicate 40 (-1)))) := rdc_own HN.2.2.1
                          clear fU hU
                          obtain ⟨aV, cV, eV, fV⟩ := OwnZ.form HN.2.2.2
                          have lV : (mkI 6000 ks.length ++ List.replicate 40 (-2)).length = ks.length + 40 := by rw [List.length_append, mkI_length, List.length_replicate]
                          obtain ⟨gV, hV, -⟩ := fV (by omega)
                          rw [lV, hV] at eV
                          have RV : Hid (RdC W u19 (intZ (mkI 6000 ks.length ++ List.replicate 40 (-2)))) := rdc_own HN.2.2.2
                          clear fV hV
                          subst eG eH eU eV
                          clear HN
                          go_wp2_with fail
                          go_loopg [22] (R.length + 40) (fun gk x wr => ∃ i : Nat, x = .int .i64 i ∧ gk = R.length + 40 - i ∧ i ≤ R.length + 40 ∧ W = wr)
                          case atStart => exact ⟨0, rfl, rfl, Nat.zero_le _, rfl⟩
                          case round =>
                            obtain ⟨i, rfl, hg, hi1, rfl⟩ := hrel
                            by_cases hlt : i < R.length
                            · have hli : (i : Int) < (R.length : Int) := by omega
                              have hli2 : (i : Int) < (R.length : Int) + 40 := by omega
                              obtain ⟨g1, e1⟩ := F1.out (by omega)
                              obtain ⟨g2, e2⟩ := F2.out (by omega)
                              subst e1 e2
                              have y1 := rdn_arg RR0.out (g := g1) rfl i (by rw [mkL_length]; exact hlt)
                              have y2 := rdn_arg RR1.out (g := g2) rfl i (by rw [mkL_length]; exact hlt)
                              have y3 := rdn_arg RG.out (g := gG) rfl i (by omega)
                              have y4 := rdn_arg RH.out (g := gH) rfl i (by omega)
                              rw [mkL_ar0] at y1 y2
                              rw [mkL_ar, if_pos hlt] at y3 y4
                              go_wp2_with fail
                              go_roundg (R.length + 40 - (i + 1))
                              case rel => exact ⟨i + 1, by simp, rfl, by omega, rfl⟩
                              case measure => omega
                            · by_cases hlt2 : i < R.length + 40
                              · have hli : ¬ (i : Int) < (R.length : Int) := by omega
                                have hli2 : (i : Int) < (R.length : Int) + 40 := by omega
                                have hge : (R.length : Int) ≤ (i : Int) := by omega
                                have hdl : decide ((i : Int) < (R.length : Int)) = false := by simp; omega
                                have y3 := rdn_arg RG.out (g := gG) rfl i (by omega)
                                have y4 := rdn_arg RH.out (g := gH) rfl i (by omega)
                                rw [mkL_ar, if_neg hlt] at y3 y4
                                go_wp2_with fail
                                go_roundg (R.length + 40 - (i + 1))
                                case rel => exact ⟨i + 1, by simp, rfl, by omega, rfl⟩
                                case measure => omega
                              · have hli2 : ¬ (i : Int) < (R.length : Int) + 40 := by omega
                                go_wp2_with fail
                                go_loopg [23] (ks.length + 40) (fun gk x wr => ∃ i : Nat, x = .int .i64 i ∧ gk = ks.length + 40 - i ∧ i ≤ ks.length + 40 ∧ W = wr)
                                case atStart => exact ⟨0, rfl, rfl, Nat.zero_le _, rfl⟩
                                case round =>
                                  obtain ⟨i, rfl, hg, hi1, rfl⟩ := hrel
                                  by_cases hlt : i < ks.length
                                  · have hli : (i : Int) < (ks.length : Int) := by omega
                                    have hli2 : (i : Int) < (ks.length : Int) + 40 := by omega
                                    obtain ⟨g3, e3⟩ := F3.out (by omega)
                                    obtain ⟨g4, e4⟩ := F4.out (by omega)
                                    subst e3 e4
                                    have y1 := rdz_at RR2.out (g := g3) rfl i (by rw [mkI_length]; exact hlt)
                                    have y2 := rdz_at RR3.out (g := g4) rfl i (by rw [mkI_length]; exact hlt)
                                    have y3 := rdz_at RU.out (g := gU) rfl i (by omega)
                                    have y4 := rdz_at RV.out (g := gV) rfl i (by omega)
                                    rw [mkI_at0] at y1 y2
                                    rw [mkI_at, if_pos hlt] at y3 y4
                                    go_wp2_with fail
                                    go_roundg (ks.length + 40 - (i + 1))
                                    case rel => exact ⟨i + 1, by simp, rfl, by omega, rfl⟩
                                    case measure => omega
                                  · by_cases hlt2 : i < ks.length + 40
                                    · have hli : ¬ (i : Int) < (ks.length : Int) := by omega
                                      have hli2 : (i : Int) < (ks.length : Int) + 40 := by omega
                                      have hge : (ks.length : Int) ≤ (i : Int) := by omega
                                      have hdl : decide ((i : Int) < (ks.length : Int)) = false := by simp; omega
                                      have y3 := rdz_at RU.out (g := gU) rfl i (by omega)
                                      have y4 := rdz_at RV.out (g := gV) rfl i (by omega)
                                      rw [mkI_at, if_neg hlt] at y3 y4
                                      go_wp2_with fail
                                      go_roundg (ks.length + 40 - (i + 1))
                                      case rel => exact ⟨i + 1, by simp, rfl, by omega, rfl⟩
                                      case measure => omega
                                    · have hli2 : ¬ (i : Int) < (ks.length : Int) + 40 := by omega
                                      go_wp2
                                      go_ret
                                      exact ⟨rfl, hB⟩
end Go.Proofs.YtlggnpohhahdlaaGreatDoor
