/- TLawJoinE, TLawJoin. -/
import Derived.Test.YtifdemakjphfcaaGreatDoorQ44
namespace Go.Proofs.YtifdemakjphfcaaGreatDoor
open Go.RowKit Go.Shelf
set_option linter.unusedVariables false
set_option maxRecDepth 100000 in
set_option maxHeartbeats 16000000 in
theorem join_p0 (b c : ByteArray) (k : Int) (i : Nat) (hi : i < 12) (hki : k.tmod 12 = (i : Int)) (w : World) (hE : Env w) (hk8 : 8 ≤ w.heap.size) {l m : List Wt.Nd} (hr : prsR b.data.toList = .inl l) (hr2 : prsR c.data.toList = .inl m) (hlen : b.size + c.size ≤ 1000) (hbig : True → ¬ 256 < l.length + m.length + 1) {o : Int × List UInt8 × Int} (ho : jOps[i]? = some o) {dl dm : Nat} (HDl : Hid (dep l 0 = dl)) (HDm : Hid (dep m 0 = dm)) (hd32 : dl ≤ 32) (he32 : dm ≤ 32) (hd1 : ¬ 31 < dl) (hd2 : ¬ 31 < dm)
    (HW : Hid (Wt.check (opN 5 o.1 :: (l ++ m)) = 0)) (HCa : Hid (Wt.check (callN ⟨#[70, 78]⟩ 2 :: (l ++ m)) = 0)) :
    Calls Tryz.prog 7 #[.string b, .string c, .int .i64 k] w fun e w' => e = .returned (.bool true) ∧ Below w.heap.size w w' := by
  have A := table_any w hE hk8
  have S1 := fun w hE hk8 => parse_any b w hE (by omega) hk8
  have S2 := fun w hE hk8 => parse_any c w hE (by omega) hk8
  rw [hr] at S1
  rw [hr2] at S2
  simp only [PaPost] at S1 S2
  obtain ⟨hfl, hcl⟩ := prsR_row hr
  obtain ⟨hfm, hcm⟩ := prsR_row hr2
  obtain ⟨jo, jt, jr, jl⟩ := jOps_in o (List.mem_of_getElem? ho)
  have X1 := join_op hr hr2 jo jt (show b.data.toList.length + c.data.toList.length ≤ 1000 from hlen)
  have X2 := join_call hr hr2 (show b.data.toList.length + c.data.toList.length ≤ 1000 from hlen)
  obtain ⟨u1, hu1, hul1⟩ := jtxt (b := b) (c := c) jl hlen
  obtain ⟨u2, hu2, hul2⟩ := jtxt2 (b := b) (c := c) hlen
  have hcat := jcat b c o.2.1
  have hcat2 := jcat2 b c
  rw [hu1] at X1 hcat
  rw [hu2] at X2 hcat2
  have P1 := fun w hE hk8 => parse_any ⟨u1.toArray⟩ w hE (by show u1.length ≤ _; omega) hk8
  have P2 := fun w hE hk8 => parse_any ⟨u2.toArray⟩ w hE (by show u2.length ≤ _; omega) hk8
  have e1 : (⟨u1.toArray⟩ : ByteArray).data.toList = u1 := by simp
  have e2 : (⟨u2.toArray⟩ : ByteArray).data.toList = u2 := by simp
  rw [e1, X1] at P1
  rw [e2, X2] at P2
  clear e1 e2 hu1 hu2 hul1 hul2
  rw [HW.out] at P1
  rw [HCa.out] at P2
  rw [if_pos rfl] at P1 P2
  simp only [PaPost] at P1 P2
  have HFl : Hid (∀ x ∈ l, Wt.FitN x) := hfl
  have HFm : Hid (∀ x ∈ m, Wt.FitN x) := hfm
  have HCl : Hid (Wt.check l = 0) := hcl
  have HCm : Hid (Wt.check m = 0) := hcm
  obtain ⟨h256l, dl', honel', hdl32⟩ := check_zero hcl
  obtain ⟨h256m, dm', honem', hdm32⟩ := check_zero hcm
  have hpl : 0 < l.length := by have := one_loc _ _ _ _ honel'; omega
  have hpm : 0 < m.length := by have := one_loc _ _ _ _ honem'; omega
  have HL : True → l.length ≤ 256 ∧ m.length ≤ 256 := fun _ => ⟨h256l, h256m⟩
  have HBS : True → b.size + c.size ≤ 1000 := fun _ => hlen
  have jl2 : True → o.2.1.length ≤ 2 := fun _ => jl
  have hbi : (b.size : Int) + (c.size : Int) ≤ 1000 := by omega
  have hbi2 : ¬ (1000 : Int) < (b.size : Int) + (c.size : Int) := by omega
  have hbw : IntKind.i64.wrap ((b.size : Int) + (c.size : Int)) = (b.size : Int) + (c.size : Int) := by rw [IntKind.wrap_i64]; omega
  have S1Q : True → ¬ 9223372036854775807 < 1 + b.size := fun _ => by omega
  have S2Q : True → ¬ 9223372036854775807 < 1 + b.size + 1 := fun _ => by omega
  have S3Q : True → ¬ 9223372036854775807 < 1 + b.size + 1 + o.2.1.length := fun _ => by omega
  have S4Q : True → ¬ 9223372036854775807 < 1 + b.size + 1 + o.2.1.length + 1 := fun _ => by omega
  have S5Q : True → ¬ 9223372036854775807 < 1 + b.size + 1 + o.2.1.length + 1 + c.size := fun _ => by omega
  have S6Q : True → ¬ 9223372036854775807 < 1 + b.size + 1 + o.2.1.length + 1 + c.size + 1 := fun _ => by omega
  have Z1Q : True → ¬ 9223372036854775807 < 3 + b.size := fun _ => by omega
  have Z2Q : True → ¬ 9223372036854775807 < 3 + b.size + 1 := fun _ => by omega
  have Z3Q : True → ¬ 9223372036854775807 < 3 + b.size + 1 + c.size := fun _ => by omega
  have Z4Q : True → ¬ 9223372036854775807 < 3 + b.size + 1 + c.size + 1 := fun _ => by omega
  have hi0 : (0 : Int) ≤ (i : Int) := by omega
  have hi12 : (i : Int) < 12 := by omega
  clear X1 X2 hr hr2 hfl hfm hcl hcm h256l h256m honel' honem' hdl32 hdm32 hlen jl
  go_enter Tryz.func7, Tryz.ntmps7
  go_wp2_with fail
  refine A.mono ?_
  rintro e w1 ⟨rfl, hb1⟩
  go_wp2_with fail
  refine (S1 w1 (hE.below hb1) (Nat.le_trans hk8 hb1.size)).mono ?_
  rintro e w2 ⟨⟨v, rfl, hown⟩, hb2⟩
  have hB2 := below_end hb1 hb2
  obtain ⟨av, cap, rfl, hrd⟩ := hown.form
  clear A S1 hown hb1 hb2
  go_wp2_with fail
  refine (S2 w2 (hE.below hB2) (Nat.le_trans hk8 hB2.size)).mono ?_
  rintro e w3 ⟨⟨v2, rfl, hown2⟩, hb3⟩
  have hB3 := below_end hB2 hb3
  obtain ⟨av2, cap2, rfl, hrd2⟩ := hown2.form
  have hrl3 := hrd.below hb3
  clear S2 hown2 hb3 hrd hB2
  go_upto_region 9 with fail
  obtain ⟨c1, c2⟩ := jcell w3 i hi ho
  have hBa := ball (ball (Below.refl _ w3) (.cells #[.int .i64 11, .int .i64 12, .int .i64 13, .int .i64 14, .int .i64 15, .int .i64 16, .int .i64 21, .int .i64 22, .int .i64 23, .int .i64 24, .int .i64 25, .int .i64 26] 3)) (.cells #[.string ⟨#[43]⟩, .string ⟨#[45]⟩, .string ⟨#[42]⟩, .string ⟨#[47]⟩, .string ⟨#[94]⟩, .string ⟨#[38]⟩, .string ⟨#[61]⟩, .string ⟨#[60, 62]⟩, .string ⟨#[60]⟩, .string ⟨#[60, 61]⟩, .string ⟨#[62]⟩, .string ⟨#[62, 61]⟩] 9)
  generalize ((w3.alloc (.cells #[.int .i64 11, .int .i64 12, .int .i64 13, .int .i64 14, .int .i64 15, .int .i64 16, .int .i64 21, .int .i64 22, .int .i64 23, .int .i64 24, .int .i64 25, .int .i64 26] 3)).alloc (.cells #[.string ⟨#[43]⟩, .string ⟨#[45]⟩, .string ⟨#[42]⟩, .string ⟨#[47]⟩, .string ⟨#[94]⟩, .string ⟨#[38]⟩, .string ⟨#[61]⟩, .string ⟨#[60, 62]⟩, .string ⟨#[60]⟩, .string ⟨#[60, 61]⟩, .string ⟨#[62]⟩, .string ⟨#[62, 61]⟩] 9)) = W at *
  have hBW := below_end hB3 hBa
  have hrlW := hrl3.below hBa
  have hrmW := hrd2.below hBa
  clear hBa hB3 hrl3 hrd2
  have hk0 : ¬ (i : Int) < 0 := by omega
  go_wp2_with (at_builtin; refine wpList_appN (by rfl) (.tmp 65) (.tmp 66) (by rfl) W _ (ball (Below.refl _ W) _) _ [opN 5 o.1] (by rfl) (own_one W (opN 5 o.1)) av l cap (by rfl) (hrlW.below (ball (Below.refl _ W) _)) hpl (fun _ => by have := HL trivial; simp only [List.length_cons, List.length_nil]; omega) ?_)
  intro v5 w5 own5 hb5
  go_wp2_with (at_builtin; refine wpList_appN (by rfl) (.tmp 67) (.tmp 68) (by rfl) W w5 hb5 v5 ([opN 5 o.1] ++ l) (by rfl) own5 av2 m cap2 (by rfl) (hrmW.below hb5) hpm (fun _ => by have := HL trivial; simp only [List.length_append, List.length_cons, List.length_nil]; omega) ?_)
  intro v6 w6 own6 hb6
  have own6' : OwnN w6 W.heap.size v6 (opN 5 o.1 :: (l ++ m)) := own6
  obtain ⟨av6, cap6, rfl, hrd6⟩ := own6'.form
  have hBW6 := below_end hBW hb6
  have hrl6 := hrlW.below hb6
  have hrm6 := hrmW.below hb6
  have c26 := cell_below hb6 c2
  obtain ⟨n, hn⟩ : ∃ n, (opN 5 o.1 :: (l ++ m)).length = n := ⟨_, rfl⟩
  have hn1 : True → l.length + m.length + 1 = n := fun _ => by rw [← hn]; simp
  rw [hn]
  clear hn
  clear own5 hb5 own6 own6' c1 c2 hrlW hrmW hBW hb6
  go_wp2_with (at_builtin; refine wpList_appN (by rfl) (.tmp 71) (.tmp 72) (by rfl) w6 _ (ball (Below.refl _ w6) _) _ [callN ⟨#[70, 78]⟩ 2] (by rfl) (own_one w6 (callN ⟨#[70, 78]⟩ 2)) av l cap (by rfl) (hrl6.below (ball (Below.refl _ w6) _)) hpl (fun _ => by have := HL trivial; simp only [List.length_cons, List.length_nil]; omega) ?_)
  intro v7 w7 own7 hb7
  go_wp2_with (at_builtin; refine wpList_appN (by rfl) (.tmp 73) (.tmp 74) (by rfl) w6 w7 hb7 v7 ([callN ⟨#[70, 78]⟩ 2] ++ l) (by rfl) own7 av2 m cap2 (by rfl) (hrm6.below hb7) hpm (fun _ => by have := HL trivial; simp only [List.length_append, List.length_cons, List.length_nil]; omega) ?_)
  intro v8 w8 own8 hb8
  have own8' : OwnN w8 w6.heap.size v8 (callN ⟨#[70, 78]⟩ 2 :: (l ++ m)) := own8
  obtain ⟨av8, cap8, rfl, hrd8⟩ := own8'.form
  have hB8 := below_end hBW6 hb8
  have hr68 := hrd6.below hb8
  have hrl8 := hrl6.below hb8
  have hrm8 := hrm6.below hb8
  have c28 := cell_below hb8 c26
  obtain ⟨n2, hn2⟩ : ∃ n, (callN ⟨#[70, 78]⟩ 2 :: (l ++ m)).length = n := ⟨_, rfl⟩
  rw [hn2]
  have hn2 : Hid ((callN ⟨#[70, 78]⟩ 2 :: (l ++ m)).length = n2) := hn2
  clear own7 hb7 own8 own8' c26 hrl6 hrm6 hBW6 hb8 hrd6
  have s1 := S1Q trivial
  have s2 := S2Q trivial
  have s3 := S3Q trivial
  have s4 := S4Q trivial
  have s5 := S5Q trivial
  have s6 := S6Q trivial
  go_wp2_with fail
  refine (P1 w8 (hE.below hB8) (Nat.le_trans hk8 hB8.size)).mono ?_
  rintro e w9 ⟨⟨v9, rfl, hown9⟩, hb9⟩
  obtain ⟨av9, cap9, rfl, hrd9⟩ := hown9.form
  have HN1 : Hid ((opN 5 o.1 :: (l ++ m)).length = n) := by have := hn1 trivial; show _ = _; simp only [List.length_cons, List.length_append]; omega
  rw [HN1.out]
  have hB9 := below_end hB8 hb9
  clear s1 s2 s3 s4 s5 s6
  have z1 := Z1Q trivial
  have z2 := Z2Q trivial
  have z3 := Z3Q trivial
  have z4 := Z4Q trivial
  go_wp2_with fail
  refine (P2 w9 (hE.below hB9) (Nat.le_trans hk8 hB9.size)).mono ?_
  rintro e w10 ⟨⟨v10, rfl, hown10⟩, hb10⟩
  obtain ⟨av10, cap10, rfl, hrd10⟩ := hown10.form
  have HN2 : Hid ((callN ⟨#[70, 78]⟩ 2 :: (l ++ m)).length = n2) := hn2
  rw [HN2.out]
  have hB10 := below_end hB9 hb10
  have hni : ¬ (256 : Int) < (n : Int) := by have := hbig trivial; have := hn1 trivial; omega
  have hrlT := (hrl8.below hb9).below hb10
  have hrmT := (hrm8.below hb9).below hb10
  have D1 := depth_any av cap l HFl.out HCl.out 32 0 hpl (by rw [HDl.out]; omega) w10 (hE.below hB10).1 hrlT
  have D2 := fun w hO hr => depth_any av2 cap2 m HFm.out HCm.out 32 0 hpm (by rw [HDm.out]; omega) w hO hr
  rw [HDl.out] at D1
  rw [HDm.out] at D2
  go_wp2_with fail
  refine D1.mono ?_
  rintro e w11 ⟨rfl, hb11⟩
  have hB11 := below_end hB10 hb11
  have hdi : ¬ (31 : Int) < (dl : Int) := by omega
  go_wp2_with fail
  refine (D2 w11 (hE.below hB11).1 (hrmT.below hb11)).mono ?_
  rintro e w12 ⟨rfl, hb12⟩
  have hB12 := below_end hB11 hb12
  clear D1 D2
  have hdj : ¬ (31 : Int) < (dm : Int) := by omega
  have g1 := ((hrd9.below hb10).below hb11).below hb12
  have g2 := (((hr68.below hb9).below hb10).below hb11).below hb12
  have g3 := (hrd10.below hb11).below hb12
  have g4 := (((hrd8.below hb9).below hb10).below hb11).below hb12
  have M1 := nsame_true av9 av6 cap9 cap6 _ w12 g1 g2 (by have := HL trivial; simp only [List.length_cons, List.length_append]; omega)
  rw [HN1.out] at M1
  go_wp2_with fail
  refine M1.mono ?_
  rintro e w13 ⟨rfl, hb13⟩
  have hB13 := below_end hB12 hb13
  have M2 := nsame_true av10 av8 cap10 cap8 _ w13 (g3.below hb13) (g4.below hb13) (by have := HL trivial; simp only [List.length_cons, List.length_append]; omega)
  rw [HN2.out] at M2
  go_wp2_with fail
  refine M2.mono ?_
  rintro e w14 ⟨rfl, hb14⟩
  have hB14 := below_end hB13 hb14
  go_wp2
  go_ret
  exact ⟨by simp, hB14⟩
set_option maxRecDepth 100000 in
set_option maxHeartbeats 16000000 in
theorem join_n0 (b c : ByteArray) (k : Int) (i : Nat) (hi : i < 12) (hki : k.tmod 12 < 0 ∧ k.tmod 12 + 12 = (i : Int)) (w : World) (hE : Env w) (hk8 : 8 ≤ w.heap.size) {l m : List Wt.Nd} (hr : prsR b.data.toList = .inl l) (hr2 : prsR c.data.toList = .inl m) (hlen : b.size + c.size ≤ 1000) (hbig : True → ¬ 256 < l.length + m.length + 1) {o : Int × List UInt8 × Int} (ho : jOps[i]? = some o) {dl dm : Nat} (HDl : Hid (dep l 0 = dl)) (HDm : Hid (dep m 0 = dm)) (hd32 : dl ≤ 32) (he32 : dm ≤ 32) (hd1 : ¬ 31 < dl) (hd2 : ¬ 31 < dm)
    (HW : Hid (Wt.check (opN 5 o.1 :: (l ++ m)) = 0)) (HCa : Hid (Wt.check (callN ⟨#[70, 78]⟩ 2 :: (l ++ m)) = 0)) :
    Calls Tryz.prog 7 #[.string b, .string c, .int .i64 k] w fun e w' => e = .returned (.bool true) ∧ Below w.heap.size w w' := by
  have A := table_any w hE hk8
  have S1 := fun w hE hk8 => parse_any b w hE (by omega) hk8
  have S2 := fun w hE hk8 => parse_any c w hE (by omega) hk8
  rw [hr] at S1
  rw [hr2] at S2
  simp only [PaPost] at S1 S2
  obtain ⟨hfl, hcl⟩ := prsR_row hr
  obtain ⟨hfm, hcm⟩ := prsR_row hr2
  obtain ⟨jo, jt, jr, jl⟩ := jOps_in o (List.mem_of_getElem? ho)
  have X1 := join_op hr hr2 jo jt (show b.data.toList.length + c.data.toList.length ≤ 1000 from hlen)
  have X2 := join_call hr hr2 (show b.data.toList.length + c.data.toList.length ≤ 1000 from hlen)
  obtain ⟨u1, hu1, hul1⟩ := jtxt (b := b) (c := c) jl hlen
  obtain ⟨u2, hu2, hul2⟩ := jtxt2 (b := b) (c := c) hlen
  have hcat := jcat b c o.2.1
  have hcat2 := jcat2 b c
  rw [hu1] at X1 hcat
  rw [hu2] at X2 hcat2
  have P1 := fun w hE hk8 => parse_any ⟨u1.toArray⟩ w hE (by show u1.length ≤ _; omega) hk8
  have P2 := fun w hE hk8 => parse_any ⟨u2.toArray⟩ w hE (by show u2.length ≤ _; omega) hk8
  have e1 : (⟨u1.toArray⟩ : ByteArray).data.toList = u1 := by simp
  have e2 : (⟨u2.toArray⟩ : ByteArray).data.toList = u2 := by simp
  rw [e1, X1] at P1
  rw [e2, X2] at P2
  clear e1 e2 hu1 hu2 hul1 hul2
  rw [HW.out] at P1
  rw [HCa.out] at P2
  rw [if_pos rfl] at P1 P2
  simp only [PaPost] at P1 P2
  have HFl : Hid (∀ x ∈ l, Wt.FitN x) := hfl
  have HFm : Hid (∀ x ∈ m, Wt.FitN x) := hfm
  have HCl : Hid (Wt.check l = 0) := hcl
  have HCm : Hid (Wt.check m = 0) := hcm
  obtain ⟨h256l, dl', honel', hdl32⟩ := check_zero hcl
  obtain ⟨h256m, dm', honem', hdm32⟩ := check_zero hcm
  have hpl : 0 < l.length := by have := one_loc _ _ _ _ honel'; omega
  have hpm : 0 < m.length := by have := one_loc _ _ _ _ honem'; omega
  have HL : True → l.length ≤ 256 ∧ m.length ≤ 256 := fun _ => ⟨h256l, h256m⟩
  have HBS : True → b.size + c.size ≤ 1000 := fun _ => hlen
  have jl2 : True → o.2.1.length ≤ 2 := fun _ => jl
  have hbi : (b.size : Int) + (c.size : Int) ≤ 1000 := by omega
  have hbi2 : ¬ (1000 : Int) < (b.size : Int) + (c.size : Int) := by omega
  have hbw : IntKind.i64.wrap ((b.size : Int) + (c.size : Int)) = (b.size : Int) + (c.size : Int) := by rw [IntKind.wrap_i64]; omega
  have S1Q : True → ¬ 9223372036854775807 < 1 + b.size := fun _ => by omega
  have S2Q : True → ¬ 9223372036854775807 < 1 + b.size + 1 := fun _ => by omega
  have S3Q : True → ¬ 9223372036854775807 < 1 + b.size + 1 + o.2.1.length := fun _ => by omega
  have S4Q : True → ¬ 9223372036854775807 < 1 + b.size + 1 + o.2.1.length + 1 := fun _ => by omega
  have S5Q : True → ¬ 9223372036854775807 < 1 + b.size + 1 + o.2.1.length + 1 + c.size := fun _ => by omega
  have S6Q : True → ¬ 9223372036854775807 < 1 + b.size + 1 + o.2.1.length + 1 + c.size + 1 := fun _ => by omega
  have Z1Q : True → ¬ 9223372036854775807 < 3 + b.size := fun _ => by omega
  have Z2Q : True → ¬ 9223372036854775807 < 3 + b.size + 1 := fun _ => by omega
  have Z3Q : True → ¬ 9223372036854775807 < 3 + b.size + 1 + c.size := fun _ => by omega
  have Z4Q : True → ¬ 9223372036854775807 < 3 + b.size + 1 + c.size + 1 := fun _ => by omega
  have hi0 : (0 : Int) ≤ (i : Int) := by omega
  have hi12 : (i : Int) < 12 := by omega
  clear X1 X2 hr hr2 hfl hfm hcl hcm h256l h256m honel' honem' hdl32 hdm32 hlen jl
  go_enter Tryz.func7, Tryz.ntmps7
  go_wp2_with fail
  refine A.mono ?_
  rintro e w1 ⟨rfl, hb1⟩
  go_wp2_with fail
  refine (S1 w1 (hE.below hb1) (Nat.le_trans hk8 hb1.size)).mono ?_
  rintro e w2 ⟨⟨v, rfl, hown⟩, hb2⟩
  have hB2 := below_end hb1 hb2
  obtain ⟨av, cap, rfl, hrd⟩ := hown.form
  clear A S1 hown hb1 hb2
  go_wp2_with fail
  refine (S2 w2 (hE.below hB2) (Nat.le_trans hk8 hB2.size)).mono ?_
  rintro e w3 ⟨⟨v2, rfl, hown2⟩, hb3⟩
  have hB3 := below_end hB2 hb3
  obtain ⟨av2, cap2, rfl, hrd2⟩ := hown2.form
  have hrl3 := hrd.below hb3
  clear S2 hown2 hb3 hrd hB2
  go_upto_region 9 with fail
  obtain ⟨c1, c2⟩ := jcell w3 i hi ho
  have hBa := ball (ball (Below.refl _ w3) (.cells #[.int .i64 11, .int .i64 12, .int .i64 13, .int .i64 14, .int .i64 15, .int .i64 16, .int .i64 21, .int .i64 22, .int .i64 23, .int .i64 24, .int .i64 25, .int .i64 26] 3)) (.cells #[.string ⟨#[43]⟩, .string ⟨#[45]⟩, .string ⟨#[42]⟩, .string ⟨#[47]⟩, .string ⟨#[94]⟩, .string ⟨#[38]⟩, .string ⟨#[61]⟩, .string ⟨#[60, 62]⟩, .string ⟨#[60]⟩, .string ⟨#[60, 61]⟩, .string ⟨#[62]⟩, .string ⟨#[62, 61]⟩] 9)
  generalize ((w3.alloc (.cells #[.int .i64 11, .int .i64 12, .int .i64 13, .int .i64 14, .int .i64 15, .int .i64 16, .int .i64 21, .int .i64 22, .int .i64 23, .int .i64 24, .int .i64 25, .int .i64 26] 3)).alloc (.cells #[.string ⟨#[43]⟩, .string ⟨#[45]⟩, .string ⟨#[42]⟩, .string ⟨#[47]⟩, .string ⟨#[94]⟩, .string ⟨#[38]⟩, .string ⟨#[61]⟩, .string ⟨#[60, 62]⟩, .string ⟨#[60]⟩, .string ⟨#[60, 61]⟩, .string ⟨#[62]⟩, .string ⟨#[62, 61]⟩] 9)) = W at *
  have hBW := below_end hB3 hBa
  have hrlW := hrl3.below hBa
  have hrmW := hrd2.below hBa
  clear hBa hB3 hrl3 hrd2
  obtain ⟨hk0, hki⟩ := hki
  have hkw : IntKind.i64.wrap (k.tmod 12 + 12) = (i : Int) := by rw [hki, IntKind.wrap_i64]; omega
  go_wp2_with (at_builtin; refine wpList_appN (by rfl) (.tmp 65) (.tmp 66) (by rfl) W _ (ball (Below.refl _ W) _) _ [opN 5 o.1] (by rfl) (own_one W (opN 5 o.1)) av l cap (by rfl) (hrlW.below (ball (Below.refl _ W) _)) hpl (fun _ => by have := HL trivial; simp only [List.length_cons, List.length_nil]; omega) ?_)
  intro v5 w5 own5 hb5
  go_wp2_with (at_builtin; refine wpList_appN (by rfl) (.tmp 67) (.tmp 68) (by rfl) W w5 hb5 v5 ([opN 5 o.1] ++ l) (by rfl) own5 av2 m cap2 (by rfl) (hrmW.below hb5) hpm (fun _ => by have := HL trivial; simp only [List.length_append, List.length_cons, List.length_nil]; omega) ?_)
  intro v6 w6 own6 hb6
  have own6' : OwnN w6 W.heap.size v6 (opN 5 o.1 :: (l ++ m)) := own6
  obtain ⟨av6, cap6, rfl, hrd6⟩ := own6'.form
  have hBW6 := below_end hBW hb6
  have hrl6 := hrlW.below hb6
  have hrm6 := hrmW.below hb6
  have c26 := cell_below hb6 c2
  obtain ⟨n, hn⟩ : ∃ n, (opN 5 o.1 :: (l ++ m)).length = n := ⟨_, rfl⟩
  have hn1 : True → l.length + m.length + 1 = n := fun _ => by rw [← hn]; simp
  rw [hn]
  clear hn
  clear own5 hb5 own6 own6' c1 c2 hrlW hrmW hBW hb6
  go_wp2_with (at_builtin; refine wpList_appN (by rfl) (.tmp 71) (.tmp 72) (by rfl) w6 _ (ball (Below.refl _ w6) _) _ [callN ⟨#[70, 78]⟩ 2] (by rfl) (own_one w6 (callN ⟨#[70, 78]⟩ 2)) av l cap (by rfl) (hrl6.below (ball (Below.refl _ w6) _)) hpl (fun _ => by have := HL trivial; simp only [List.length_cons, List.length_nil]; omega) ?_)
  intro v7 w7 own7 hb7
  go_wp2_with (at_builtin; refine wpList_appN (by rfl) (.tmp 73) (.tmp 74) (by rfl) w6 w7 hb7 v7 ([callN ⟨#[70, 78]⟩ 2] ++ l) (by rfl) own7 av2 m cap2 (by rfl) (hrm6.below hb7) hpm (fun _ => by have := HL trivial; simp only [List.length_append, List.length_cons, List.length_nil]; omega) ?_)
  intro v8 w8 own8 hb8
  have own8' : OwnN w8 w6.heap.size v8 (callN ⟨#[70, 78]⟩ 2 :: (l ++ m)) := own8
  obtain ⟨av8, cap8, rfl, hrd8⟩ := own8'.form
  have hB8 := below_end hBW6 hb8
  have hr68 := hrd6.below hb8
  have hrl8 := hrl6.below hb8
  have hrm8 := hrm6.below hb8
  have c28 := cell_below hb8 c26
  obtain ⟨n2, hn2⟩ : ∃ n, (callN ⟨#[70, 78]⟩ 2 :: (l ++ m)).length = n := ⟨_, rfl⟩
  rw [hn2]
  have hn2 : Hid ((callN ⟨#[70, 78]⟩ 2 :: (l ++ m)).length = n2) := hn2
  clear own7 hb7 own8 own8' c26 hrl6 hrm6 hBW6 hb8 hrd6
  have s1 := S1Q trivial
  have s2 := S2Q trivial
  have s3 := S3Q trivial
  have s4 := S4Q trivial
  have s5 := S5Q trivial
  have s6 := S6Q trivial
  go_wp2_with fail
  refine (P1 w8 (hE.below hB8) (Nat.le_trans hk8 hB8.size)).mono ?_
  rintro e w9 ⟨⟨v9, rfl, hown9⟩, hb9⟩
  obtain ⟨av9, cap9, rfl, hrd9⟩ := hown9.form
  have HN1 : Hid ((opN 5 o.1 :: (l ++ m)).length = n) := by have := hn1 trivial; show _ = _; simp only [List.length_cons, List.length_append]; omega
  rw [HN1.out]
  have hB9 := below_end hB8 hb9
  clear s1 s2 s3 s4 s5 s6
  have z1 := Z1Q trivial
  have z2 := Z2Q trivial
  have z3 := Z3Q trivial
  have z4 := Z4Q trivial
  go_wp2_with fail
  refine (P2 w9 (hE.below hB9) (Nat.le_trans hk8 hB9.size)).mono ?_
  rintro e w10 ⟨⟨v10, rfl, hown10⟩, hb10⟩
  obtain ⟨av10, cap10, rfl, hrd10⟩ := hown10.form
  have HN2 : Hid ((callN ⟨#[70, 78]⟩ 2 :: (l ++ m)).length = n2) := hn2
  rw [HN2.out]
  have hB10 := below_end hB9 hb10
  have hni : ¬ (256 : Int) < (n : Int) := by have := hbig trivial; have := hn1 trivial; omega
  have hrlT := (hrl8.below hb9).below hb10
  have hrmT := (hrm8.below hb9).below hb10
  have D1 := depth_any av cap l HFl.out HCl.out 32 0 hpl (by rw [HDl.out]; omega) w10 (hE.below hB10).1 hrlT
  have D2 := fun w hO hr => depth_any av2 cap2 m HFm.out HCm.out 32 0 hpm (by rw [HDm.out]; omega) w hO hr
  rw [HDl.out] at D1
  rw [HDm.out] at D2
  go_wp2_with fail
  refine D1.mono ?_
  rintro e w11 ⟨rfl, hb11⟩
  have hB11 := below_end hB10 hb11
  have hdi : ¬ (31 : Int) < (dl : Int) := by omega
  go_wp2_with fail
  refine (D2 w11 (hE.below hB11).1 (hrmT.below hb11)).mono ?_
  rintro e w12 ⟨rfl, hb12⟩
  have hB12 := below_end hB11 hb12
  clear D1 D2
  have hdj : ¬ (31 : Int) < (dm : Int) := by omega
  have g1 := ((hrd9.below hb10).below hb11).below hb12
  have g2 := (((hr68.below hb9).below hb10).below hb11).below hb12
  have g3 := (hrd10.below hb11).below hb12
  have g4 := (((hrd8.below hb9).below hb10).below hb11).below hb12
  have M1 := nsame_true av9 av6 cap9 cap6 _ w12 g1 g2 (by have := HL trivial; simp only [List.length_cons, List.length_append]; omega)
  rw [HN1.out] at M1
  go_wp2_with fail
  refine M1.mono ?_
  rintro e w13 ⟨rfl, hb13⟩
  have hB13 := below_end hB12 hb13
  have M2 := nsame_true av10 av8 cap10 cap8 _ w13 (g3.below hb13) (g4.below hb13) (by have := HL trivial; simp only [List.length_cons, List.length_append]; omega)
  rw [HN2.out] at M2
  go_wp2_with fail
  refine M2.mono ?_
  rintro e w14 ⟨rfl, hb14⟩
  have hB14 := below_end hB13 hb14
  go_wp2
  go_ret
  exact ⟨by simp, hB14⟩
theorem PaPost.gen {B : Nat} {r : List Wt.Nd ⊕ (Int × Int)} {e : Ending} {w : World} (h : PaPost B r e w) : ∃ (v : Value) (c p : Int), e = .returned (.tuple #[v, .int .i64 c, .int .i64 p]) := by
  cases r with
  | inl row => obtain ⟨v, h, -⟩ := h; exact ⟨v, 0, 0, h⟩
  | inr q => obtain ⟨c, p⟩ := q; exact ⟨_, c, p, h⟩
set_option maxRecDepth 100000 in
set_option maxHeartbeats 8000000 in
theorem joined_err1 (b c : ByteArray) (k : Int) (w : World) (hE : Env w) (hk8 : 8 ≤ w.heap.size) (hs : b.size ≤ 9223372036854775807) (hs2 : c.size ≤ 9223372036854775807) {q : Int × Int} (hr : prsR b.data.toList = .inr q) :
    Calls Tryz.prog 7 #[.string b, .string c, .int .i64 k] w fun e w' => e = .returned (.bool true) ∧ Below w.heap.size w w' := by
  have A := table_any w hE hk8
  have S1 := fun w hE hk8 => parse_any b w hE hs hk8
  have S2 := fun w hE hk8 => parse_any c w hE hs2 hk8
  obtain ⟨c1, p1⟩ := q
  rw [hr] at S1
  simp only [PaPost] at S1
  have hc := prsR_code hr
  have hci : (c1 != 0) = true := by simp [hc]
  clear hr
  go_enter Tryz.func7, Tryz.ntmps7
  go_wp2_with fail
  refine A.mono ?_
  rintro e w1 ⟨rfl, hb1⟩
  go_wp2_with fail
  refine (S1 w1 (hE.below hb1) (Nat.le_trans hk8 hb1.size)).mono ?_
  rintro e w2 ⟨rfl, hb2⟩
  have hB2 := below_end hb1 hb2
  go_wp2_with fail
  refine (S2 w2 (hE.below hB2) (Nat.le_trans hk8 hB2.size)).mono ?_
  rintro e w3 ⟨hp, hb3⟩
  have hB3 := below_end hB2 hb3
  obtain ⟨v, c2, p2, rfl⟩ := hp.gen
  clear hp S1 S2 A
  go_wp2
  go_ret
  exact ⟨rfl, hB3⟩
set_option maxRecDepth 100000 in
set_option maxHeartbeats 8000000 in
theorem joined_err2 (b c : ByteArray) (k : Int) (w : World) (hE : Env w) (hk8 : 8 ≤ w.heap.size) (hs : b.size ≤ 9223372036854775807) (hs2 : c.size ≤ 9223372036854775807) {l : List Wt.Nd} {q : Int × Int} (hr : prsR b.data.toList = .inl l) (hr2 : prsR c.data.toList = .inr q) :
    Calls Tryz.prog 7 #[.string b, .string c, .int .i64 k] w fun e w' => e = .returned (.bool true) ∧ Below w.heap.size w w' := by
  have A := table_any w hE hk8
  have S1 := fun w hE hk8 => parse_any b w hE hs hk8
  have S2 := fun w hE hk8 => parse_any c w hE hs2 hk8
  obtain ⟨c1, p1⟩ := q
  rw [hr] at S1
  rw [hr2] at S2
  simp only [PaPost] at S1 S2
  have hc := prsR_code hr2
  have hci : (c1 != 0) = true := by simp [hc]
  clear hr hr2
  go_enter Tryz.func7, Tryz.ntmps7
  go_wp2_with fail
  refine A.mono ?_
  rintro e w1 ⟨rfl, hb1⟩
  go_wp2_with fail
  refine (S1 w1 (hE.below hb1) (Nat.le_trans hk8 hb1.size)).mono ?_
  rintro e w2 ⟨⟨v, rfl, hown⟩, hb2⟩
  have hB2 := below_end hb1 hb2
  clear hown
  go_wp2_with fail
  refine (S2 w2 (hE.below hB2) (Nat.le_trans hk8 hB2.size)).mono ?_
  rintro e w3 ⟨rfl, hb3⟩
  have hB3 := below_end hB2 hb3
  clear S1 S2 A
  go_wp2
  go_ret
  exact ⟨rfl, hB3⟩
set_option maxRecDepth 100000 in
set_option maxHeartbeats 8000000 in
theorem joined_long (b c : ByteArray) (k : Int) (w : World) (hE : Env w) (hk8 : 8 ≤ w.heap.size) {l m : List Wt.Nd} (hr : prsR b.data.toList = .inl l) (hr2 : prsR c.data.toList = .inl m) (hlen : 1000 < b.size + c.size) :
    Calls Tryz.prog 7 #[.string b, .string c, .int .i64 k] w fun e w' => e = .returned (.bool true) ∧ Below w.heap.size w w' := by
  have A := table_any w hE hk8
  have hb0 : b.size ≤ 1024 := (prsR_inl hr).1
  have hc0 : c.size ≤ 1024 := (prsR_inl hr2).1
  have S1 := fun w hE hk8 => parse_any b w hE (by omega) hk8
  have S2 := fun w hE hk8 => parse_any c w hE (by omega) hk8
  rw [hr] at S1
  rw [hr2] at S2
  simp only [PaPost] at S1 S2
  have hbi2 : (1000 : Int) < (b.size : Int) + (c.size : Int) := by omega
  have hbw : IntKind.i64.wrap ((b.size : Int) + (c.size : Int)) = (b.size : Int) + (c.size : Int) := by rw [IntKind.wrap_i64]; omega
  clear hr hr2 hb0 hc0 hlen
  go_enter Tryz.func7, Tryz.ntmps7
  go_wp2_with fail
  refine A.mono ?_
  rintro e w1 ⟨rfl, hb1⟩
  go_wp2_with fail
  refine (S1 w1 (hE.below hb1) (Nat.le_trans hk8 hb1.size)).mono ?_
  rintro e w2 ⟨⟨v, rfl, hown⟩, hb2⟩
  have hB2 := below_end hb1 hb2
  clear hown
  go_wp2_with fail
  refine (S2 w2 (hE.below hB2) (Nat.le_trans hk8 hB2.size)).mono ?_
  rintro e w3 ⟨⟨v2, rfl, hown2⟩, hb3⟩
  have hB3 := below_end hB2 hb3
  clear S1 S2 A hown2
  go_wp2
  go_ret
  exact ⟨rfl, hB3⟩
theorem joined_main (b c : ByteArray) (k : Int) (w : World) (hE : Env w) (hk8 : 8 ≤ w.heap.size) (hs : b.size ≤ 9223372036854775807) (hs2 : c.size ≤ 9223372036854775807) :
    Calls Tryz.prog 7 #[.string b, .string c, .int .i64 k] w fun e w' => e = .returned (.bool true) ∧ Below w.heap.size w w' := by
  cases hr : prsR b.data.toList with
  | inr q => exact joined_err1 b c k w hE hk8 hs hs2 hr
  | inl l =>
    cases hr2 : prsR c.data.toList with
    | inr q => exact joined_err2 b c k w hE hk8 hs hs2 hr hr2
    | inl m =>
      by_cases hlen : 1000 < b.size + c.size
      · exact joined_long b c k w hE hk8 hr hr2 hlen
      have hlen : b.size + c.size ≤ 1000 := by omega
      obtain ⟨-, hcl⟩ := prsR_row hr
      obtain ⟨-, hcm⟩ := prsR_row hr2
      obtain ⟨h256l, dl, honel, hdl⟩ := check_zero hcl
      obtain ⟨h256m, dm, honem, hdm⟩ := check_zero hcm
      have HDl : Hid (dep l 0 = dl) := dep_of (s := l.length) (by rw [List.drop_zero]; exact honel)
      have HDm : Hid (dep m 0 = dm) := dep_of (s := m.length) (by rw [List.drop_zero]; exact honem)
      have hkb := Int.tmod_lt_of_pos k (show (0 : Int) < 12 by decide)
      have hkn : -12 < k.tmod 12 := by
        have := Int.neg_tmod (a := k) (b := 12)
        have h2 := Int.tmod_lt_of_pos (-k) (show (0 : Int) < 12 by decide)
        omega
      have hi : ∃ i : Nat, i < 12 ∧ ((k.tmod 12 < 0 ∧ k.tmod 12 + 12 = (i : Int)) ∨ k.tmod 12 = (i : Int)) := by
        by_cases hn : k.tmod 12 < 0
        · exact ⟨(k.tmod 12 + 12).toNat, by omega, Or.inl ⟨hn, by omega⟩⟩
        · exact ⟨(k.tmod 12).toNat, by omega, Or.inr (by omega)⟩
      obtain ⟨i, hi, hki⟩ := hi
      obtain ⟨o, ho⟩ : ∃ o, jOps[i]? = some o := ⟨_, List.getElem?_eq_getElem (show i < jOps.length from hi)⟩
      obtain ⟨jo, jt, jr, jl⟩ := jOps_in o (List.mem_of_getElem? ho)
      have W1 := check_two (x := opN 5 o.1) jr rfl honel honem
      have W2 := check_two (x := callN ⟨#[70, 78]⟩ 2) (by decide +kernel) rfl honel honem
      have e1 : (opN 5 o.1 :: (l ++ m)).length = l.length + m.length + 1 := by simp
      have e2 : (callN ⟨#[70, 78]⟩ 2 :: (l ++ m)).length = l.length + m.length + 1 := by simp
      rw [e1] at W1
      rw [e2] at W2
      by_cases hbig : 256 < l.length + m.length + 1
      · rw [if_pos hbig] at W1 W2
        rcases hki with hki | hki
        · exact join_n52 b c k i hi hki w hE hk8 hr hr2 hlen (fun _ => hbig) ho HDl HDm hdl hdm W1 W2
        · exact join_p52 b c k i hi hki w hE hk8 hr hr2 hlen (fun _ => hbig) ho HDl HDm hdl hdm W1 W2
      rw [if_neg hbig] at W1 W2
      by_cases h1 : 31 < dl
      · rw [if_pos (by omega)] at W1 W2
        rcases hki with hki | hki
        · exact join_n51a b c k i hi hki w hE hk8 hr hr2 hlen (fun _ => hbig) ho HDl HDm hdl hdm h1 W1 W2
        · exact join_p51a b c k i hi hki w hE hk8 hr hr2 hlen (fun _ => hbig) ho HDl HDm hdl hdm h1 W1 W2
      by_cases h2 : 31 < dm
      · rw [if_pos (by omega)] at W1 W2
        rcases hki with hki | hki
        · exact join_n51b b c k i hi hki w hE hk8 hr hr2 hlen (fun _ => hbig) ho HDl HDm hdl hdm h1 h2 W1 W2
        · exact join_p51b b c k i hi hki w hE hk8 hr hr2 hlen (fun _ => hbig) ho HDl HDm hdl hdm h1 h2 W1 W2
      rw [if_neg (by omega)] at W1 W2
      rcases hki with hki | hki
      · exact join_n0 b c k i hi hki w hE hk8 hr hr2 hlen (fun _ => hbig) ho HDl HDm hdl hdm h1 h2 W1 W2
      · exact join_p0 b c k i hi hki w hE hk8 hr hr2 hlen (fun _ => hbig) ho HDl HDm hdl hdm h1 h2 W1 W2
end Go.Proofs.YtifdemakjphfcaaGreatDoor
