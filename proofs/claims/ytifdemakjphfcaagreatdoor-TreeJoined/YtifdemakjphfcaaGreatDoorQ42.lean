/- TLawJoinA, TLawJoinB. -/
import Derived.Test.YtifdemakjphfcaaGreatDoorQ41
namespace Go.Proofs.YtifdemakjphfcaaGreatDoor
open Go.RowKit Go.Shelf
set_option linter.unusedVariables false
def jOps : List (Int × List UInt8 × Int) := [(11, [43], 2), (12, [45], 2), (13, [42], 3), (14, [47], 3), (15, [94], 4), (16, [38], 1), (21, [61], 0), (22, [60, 62], 0), (23, [60], 0), (24, [60, 61], 0), (25, [62], 0), (26, [62, 61], 0)]
theorem jOps_in : ∀ o ∈ jOps, o ∈ Wt.opsT ∧ o.2.2 < 5 ∧ Wt.right (opN 5 o.1) = true ∧ o.2.1.length ≤ 2 := by
  intro o ho
  simp only [jOps, List.mem_cons, List.not_mem_nil, or_false] at ho
  rcases ho with rfl | rfl | rfl | rfl | rfl | rfl | rfl | rfl | rfl | rfl | rfl | rfl <;> exact ⟨by simp [Wt.opsT], by decide, by decide +kernel, by decide⟩
theorem jcell (w : World) (i : Nat) (h : i < 12) {o : Int × List UInt8 × Int} (ho : jOps[i]? = some o) :
    ((w.alloc (.cells #[.int .i64 11, .int .i64 12, .int .i64 13, .int .i64 14, .int .i64 15, .int .i64 16, .int .i64 21, .int .i64 22, .int .i64 23, .int .i64 24, .int .i64 25, .int .i64 26] 3)).alloc (.cells #[.string ⟨#[43]⟩, .string ⟨#[45]⟩, .string ⟨#[42]⟩, .string ⟨#[47]⟩, .string ⟨#[94]⟩, .string ⟨#[38]⟩, .string ⟨#[61]⟩, .string ⟨#[60, 62]⟩, .string ⟨#[60]⟩, .string ⟨#[60, 61]⟩, .string ⟨#[62]⟩, .string ⟨#[62, 61]⟩] 9)).cell? ⟨w.heap.size, i, none⟩ = some (.int .i64 o.1) ∧ ((w.alloc (.cells #[.int .i64 11, .int .i64 12, .int .i64 13, .int .i64 14, .int .i64 15, .int .i64 16, .int .i64 21, .int .i64 22, .int .i64 23, .int .i64 24, .int .i64 25, .int .i64 26] 3)).alloc (.cells #[.string ⟨#[43]⟩, .string ⟨#[45]⟩, .string ⟨#[42]⟩, .string ⟨#[47]⟩, .string ⟨#[94]⟩, .string ⟨#[38]⟩, .string ⟨#[61]⟩, .string ⟨#[60, 62]⟩, .string ⟨#[60]⟩, .string ⟨#[60, 61]⟩, .string ⟨#[62]⟩, .string ⟨#[62, 61]⟩] 9)).cell? ⟨w.heap.size + 1, i, none⟩ = some (.string ⟨o.2.1.toArray⟩) := by
  have h1 : (w.alloc (.cells #[.int .i64 11, .int .i64 12, .int .i64 13, .int .i64 14, .int .i64 15, .int .i64 16, .int .i64 21, .int .i64 22, .int .i64 23, .int .i64 24, .int .i64 25, .int .i64 26] 3)).heap.size = w.heap.size + 1 := by simp
  match i, h with
  | 0, _ => simp only [jOps] at ho; obtain rfl := Option.some.inj ho.symm; exact ⟨by simp [World.cell?_alloc_lt, go_sem], by simp [go_sem]⟩
  | 1, _ => simp only [jOps] at ho; obtain rfl := Option.some.inj ho.symm; exact ⟨by simp [World.cell?_alloc_lt, go_sem], by simp [go_sem]⟩
  | 2, _ => simp only [jOps] at ho; obtain rfl := Option.some.inj ho.symm; exact ⟨by simp [World.cell?_alloc_lt, go_sem], by simp [go_sem]⟩
  | 3, _ => simp only [jOps] at ho; obtain rfl := Option.some.inj ho.symm; exact ⟨by simp [World.cell?_alloc_lt, go_sem], by simp [go_sem]⟩
  | 4, _ => simp only [jOps] at ho; obtain rfl := Option.some.inj ho.symm; exact ⟨by simp [World.cell?_alloc_lt, go_sem], by simp [go_sem]⟩
  | 5, _ => simp only [jOps] at ho; obtain rfl := Option.some.inj ho.symm; exact ⟨by simp [World.cell?_alloc_lt, go_sem], by simp [go_sem]⟩
  | 6, _ => simp only [jOps] at ho; obtain rfl := Option.some.inj ho.symm; exact ⟨by simp [World.cell?_alloc_lt, go_sem], by simp [go_sem]⟩
  | 7, _ => simp only [jOps] at ho; obtain rfl := Option.some.inj ho.symm; exact ⟨by simp [World.cell?_alloc_lt, go_sem], by simp [go_sem]⟩
  | 8, _ => simp only [jOps] at ho; obtain rfl := Option.some.inj ho.symm; exact ⟨by simp [World.cell?_alloc_lt, go_sem], by simp [go_sem]⟩
  | 9, _ => simp only [jOps] at ho; obtain rfl := Option.some.inj ho.symm; exact ⟨by simp [World.cell?_alloc_lt, go_sem], by simp [go_sem]⟩
  | 10, _ => simp only [jOps] at ho; obtain rfl := Option.some.inj ho.symm; exact ⟨by simp [World.cell?_alloc_lt, go_sem], by simp [go_sem]⟩
  | 11, _ => simp only [jOps] at ho; obtain rfl := Option.some.inj ho.symm; exact ⟨by simp [World.cell?_alloc_lt, go_sem], by simp [go_sem]⟩
theorem jcat (b c : ByteArray) (m : List UInt8) : (((((⟨#[40]⟩ : ByteArray) ++ b) ++ ⟨#[41]⟩) ++ ⟨m.toArray⟩) ++ ⟨#[40]⟩) ++ c ++ ⟨#[41]⟩ = ⟨(40 :: (b.data.toList ++ [41]) ++ m ++ 40 :: (c.data.toList ++ [41])).toArray⟩ := by
  apply ByteArray.ext
  simp only [ByteArray.data_append]
  apply Array.ext'
  simp
theorem jcat2 (b c : ByteArray) : ((((⟨#[70, 78, 40]⟩ : ByteArray) ++ b) ++ ⟨#[44]⟩) ++ c) ++ ⟨#[41]⟩ = ⟨([70, 78, 40] ++ b.data.toList ++ [44] ++ c.data.toList ++ [41]).toArray⟩ := by
  apply ByteArray.ext
  simp only [ByteArray.data_append]
  apply Array.ext'
  simp
theorem jtxt {b c : ByteArray} {m : List UInt8} (hm : m.length ≤ 2) (hl : b.size + c.size ≤ 1000) : ∃ u : List UInt8, 40 :: (b.data.toList ++ [41]) ++ m ++ 40 :: (c.data.toList ++ [41]) = u ∧ u.length ≤ 1024 := by
  refine ⟨_, rfl, ?_⟩
  have e1 : b.data.toList.length = b.size := rfl
  have e2 : c.data.toList.length = c.size := rfl
  simp only [List.length_append, List.length_cons, List.length_nil]; omega
theorem jtxt2 {b c : ByteArray} (hl : b.size + c.size ≤ 1000) : ∃ u : List UInt8, [70, 78, 40] ++ b.data.toList ++ [44] ++ c.data.toList ++ [41] = u ∧ u.length ≤ 1024 := by
  refine ⟨_, rfl, ?_⟩
  have e1 : b.data.toList.length = b.size := rfl
  have e2 : c.data.toList.length = c.size := rfl
  simp only [List.length_append, List.length_cons, List.length_nil]; omega
set_option maxRecDepth 100000 in
set_option maxHeartbeats 16000000 in
theorem join_p52 (b c : ByteArray) (k : Int) (i : Nat) (hi : i < 12) (hki : k.tmod 12 = (i : Int)) (w : World) (hE : Env w) (hk8 : 8 ≤ w.heap.size) {l m : List Wt.Nd} (hr : prsR b.data.toList = .inl l) (hr2 : prsR c.data.toList = .inl m) (hlen : b.size + c.size ≤ 1000) (hbig : True → 256 < l.length + m.length + 1) {o : Int × List UInt8 × Int} (ho : jOps[i]? = some o) {dl dm : Nat} (HDl : Hid (dep l 0 = dl)) (HDm : Hid (dep m 0 = dm)) (hd32 : dl ≤ 32) (he32 : dm ≤ 32)
    (HW : Hid (Wt.check (opN 5 o.1 :: (l ++ m)) = 52)) (HCa : Hid (Wt.check (callN ⟨#[70, 78]⟩ 2 :: (l ++ m)) = 52)) :
    Calls Tryz.prog 7 #[.string b, .string c, .int .i64 k] w fun e w' => e = .returned (.bool true) ∧ Below w.heap.size w w' := by
  have A := table_any w hE hk8
  have S1 := fun w hE hk8 => parse_any b w hE (by omega) hk8
  have S2 := fun w hE hk8 => parse_any c w hE (by omega) hk8
  rw [hr] at S1
  rw [hr2] at S2
  simp only [PaPost] at S1 S2
  obtain ⟨hfl, hcl⟩ := prsR_row hr
  obtain ⟨hfm, hcm⟩ := prsR_row hr2
  obtain ⟨jo, jt, jr, jl⟩ := jOps_in o (List.mem_of_getElem? ho)
  have X1 := join_op hr hr2 jo jt (show b.data.toList.length + c.data.toList.length ≤ 1000 from hlen)
  have X2 := join_call hr hr2 (show b.data.toList.length + c.data.toList.length ≤ 1000 from hlen)
  obtain ⟨u1, hu1, hul1⟩ := jtxt (b := b) (c := c) jl hlen
  obtain ⟨u2, hu2, hul2⟩ := jtxt2 (b := b) (c := c) hlen
  have hcat := jcat b c o.2.1
  have hcat2 := jcat2 b c
  rw [hu1] at X1 hcat
  rw [hu2] at X2 hcat2
  have P1 := fun w hE hk8 => parse_any ⟨u1.toArray⟩ w hE (by show u1.length ≤ _; omega) hk8
  have P2 := fun w hE hk8 => parse_any ⟨u2.toArray⟩ w hE (by show u2.length ≤ _; omega) hk8
  have e1 : (⟨u1.toArray⟩ : ByteArray).data.toList = u1 := by simp
  have e2 : (⟨u2.toArray⟩ : ByteArray).data.toList = u2 := by simp
  rw [e1, X1] at P1
  rw [e2, X2] at P2
  clear e1 e2 hu1 hu2 hul1 hul2
  rw [HW.out] at P1
  rw [HCa.out] at P2
  rw [if_neg (by decide)] at P1 P2
  simp only [PaPost] at P1 P2
  have HFl : Hid (∀ x ∈ l, Wt.FitN x) := hfl
  have HFm : Hid (∀ x ∈ m, Wt.FitN x) := hfm
  have HCl : Hid (Wt.check l = 0) := hcl
  have HCm : Hid (Wt.check m = 0) := hcm
  obtain ⟨h256l, dl', honel', hdl32⟩ := check_zero hcl
  obtain ⟨h256m, dm', honem', hdm32⟩ := check_zero hcm
  have hpl : 0 < l.length := by have := one_loc _ _ _ _ honel'; omega
  have hpm : 0 < m.length := by have := one_loc _ _ _ _ honem'; omega
  have HL : True → l.length ≤ 256 ∧ m.length ≤ 256 := fun _ => ⟨h256l, h256m⟩
  have HBS : True → b.size + c.size ≤ 1000 := fun _ => hlen
  have jl2 : True → o.2.1.length ≤ 2 := fun _ => jl
  have hbi : (b.size : Int) + (c.size : Int) ≤ 1000 := by omega
  have hbi2 : ¬ (1000 : Int) < (b.size : Int) + (c.size : Int) := by omega
  have hbw : IntKind.i64.wrap ((b.size : Int) + (c.size : Int)) = (b.size : Int) + (c.size : Int) := by rw [IntKind.wrap_i64]; omega
  have S1Q : True → ¬ 9223372036854775807 < 1 + b.size := fun _ => by omega
  have S2Q : True → ¬ 9223372036854775807 < 1 + b.size + 1 := fun _ => by omega
  have S3Q : True → ¬ 9223372036854775807 < 1 + b.size + 1 + o.2.1.length := fun _ => by omega
  have S4Q : True → ¬ 9223372036854775807 < 1 + b.size + 1 + o.2.1.length + 1 := fun _ => by omega
  have S5Q : True → ¬ 9223372036854775807 < 1 + b.size + 1 + o.2.1.length + 1 + c.size := fun _ => by omega
  have S6Q : True → ¬ 9223372036854775807 < 1 + b.size + 1 + o.2.1.length + 1 + c.size + 1 := fun _ => by omega
  have Z1Q : True → ¬ 9223372036854775807 < 3 + b.size := fun _ => by omega
  have Z2Q : True → ¬ 9223372036854775807 < 3 + b.size + 1 := fun _ => by omega
  have Z3Q : True → ¬ 9223372036854775807 < 3 + b.size + 1 + c.size := fun _ => by omega
  have Z4Q : True → ¬ 9223372036854775807 < 3 + b.size + 1 + c.size + 1 := fun _ => by omega
  have hi0 : (0 : Int) ≤ (i : Int) := by omega
  have hi12 : (i : Int) < 12 := by omega
  clear X1 X2 hr hr2 hfl hfm hcl hcm h256l h256m honel' honem' hdl32 hdm32 hlen jl
  go_enter Tryz.func7, Tryz.ntmps7
  go_wp2_with fail
  refine A.mono ?_
  rintro e w1 ⟨rfl, hb1⟩
  go_wp2_with fail
  refine (S1 w1 (hE.below hb1) (Nat.le_trans hk8 hb1.size)).mono ?_
  rintro e w2 ⟨⟨v, rfl, hown⟩, hb2⟩
  have hB2 := below_end hb1 hb2
  obtain ⟨av, cap, rfl, hrd⟩ := hown.form
  clear A S1 hown hb1 hb2
  go_wp2_with fail
  refine (S2 w2 (hE.below hB2) (Nat.le_trans hk8 hB2.size)).mono ?_
  rintro e w3 ⟨⟨v2, rfl, hown2⟩, hb3⟩
  have hB3 := below_end hB2 hb3
  obtain ⟨av2, cap2, rfl, hrd2⟩ := hown2.form
  have hrl3 := hrd.below hb3
  clear S2 hown2 hb3 hrd hB2
  go_upto_region 9 with fail
  obtain ⟨c1, c2⟩ := jcell w3 i hi ho
  have hBa := ball (ball (Below.refl _ w3) (.cells #[.int .i64 11, .int .i64 12, .int .i64 13, .int .i64 14, .int .i64 15, .int .i64 16, .int .i64 21, .int .i64 22, .int .i64 23, .int .i64 24, .int .i64 25, .int .i64 26] 3)) (.cells #[.string ⟨#[43]⟩, .string ⟨#[45]⟩, .string ⟨#[42]⟩, .string ⟨#[47]⟩, .string ⟨#[94]⟩, .string ⟨#[38]⟩, .string ⟨#[61]⟩, .string ⟨#[60, 62]⟩, .string ⟨#[60]⟩, .string ⟨#[60, 61]⟩, .string ⟨#[62]⟩, .string ⟨#[62, 61]⟩] 9)
  generalize ((w3.alloc (.cells #[.int .i64 11, .int .i64 12, .int .i64 13, .int .i64 14, .int .i64 15, .int .i64 16, .int .i64 21, .int .i64 22, .int .i64 23, .int .i64 24, .int .i64 25, .int .i64 26] 3)).alloc (.cells #[.string ⟨#[43]⟩, .string ⟨#[45]⟩, .string ⟨#[42]⟩, .string ⟨#[47]⟩, .string ⟨#[94]⟩, .string ⟨#[38]⟩, .string ⟨#[61]⟩, .string ⟨#[60, 62]⟩, .string ⟨#[60]⟩, .string ⟨#[60, 61]⟩, .string ⟨#[62]⟩, .string ⟨#[62, 61]⟩] 9)) = W at *
  have hBW := below_end hB3 hBa
  have hrlW := hrl3.below hBa
  have hrmW := hrd2.below hBa
  clear hBa hB3 hrl3 hrd2
  have hk0 : ¬ (i : Int) < 0 := by omega
  go_wp2_with (at_builtin; refine wpList_appN (by rfl) (.tmp 65) (.tmp 66) (by rfl) W _ (ball (Below.refl _ W) _) _ [opN 5 o.1] (by rfl) (own_one W (opN 5 o.1)) av l cap (by rfl) (hrlW.below (ball (Below.refl _ W) _)) hpl (fun _ => by have := HL trivial; simp only [List.length_cons, List.length_nil]; omega) ?_)
  intro v5 w5 own5 hb5
  go_wp2_with (at_builtin; refine wpList_appN (by rfl) (.tmp 67) (.tmp 68) (by rfl) W w5 hb5 v5 ([opN 5 o.1] ++ l) (by rfl) own5 av2 m cap2 (by rfl) (hrmW.below hb5) hpm (fun _ => by have := HL trivial; simp only [List.length_append, List.length_cons, List.length_nil]; omega) ?_)
  intro v6 w6 own6 hb6
  have own6' : OwnN w6 W.heap.size v6 (opN 5 o.1 :: (l ++ m)) := own6
  obtain ⟨av6, cap6, rfl, hrd6⟩ := own6'.form
  have hBW6 := below_end hBW hb6
  have hrl6 := hrlW.below hb6
  have hrm6 := hrmW.below hb6
  have c26 := cell_below hb6 c2
  obtain ⟨n, hn⟩ : ∃ n, (opN 5 o.1 :: (l ++ m)).length = n := ⟨_, rfl⟩
  have hn1 : True → l.length + m.length + 1 = n := fun _ => by rw [← hn]; simp
  rw [hn]
  clear hn
  clear own5 hb5 own6 own6' c1 c2 hrlW hrmW hBW hb6
  go_wp2_with (at_builtin; refine wpList_appN (by rfl) (.tmp 71) (.tmp 72) (by rfl) w6 _ (ball (Below.refl _ w6) _) _ [callN ⟨#[70, 78]⟩ 2] (by rfl) (own_one w6 (callN ⟨#[70, 78]⟩ 2)) av l cap (by rfl) (hrl6.below (ball (Below.refl _ w6) _)) hpl (fun _ => by have := HL trivial; simp only [List.length_cons, List.length_nil]; omega) ?_)
  intro v7 w7 own7 hb7
  go_wp2_with (at_builtin; refine wpList_appN (by rfl) (.tmp 73) (.tmp 74) (by rfl) w6 w7 hb7 v7 ([callN ⟨#[70, 78]⟩ 2] ++ l) (by rfl) own7 av2 m cap2 (by rfl) (hrm6.below hb7) hpm (fun _ => by have := HL trivial; simp only [List.length_append, List.length_cons, List.length_nil]; omega) ?_)
  intro v8 w8 own8 hb8
  have own8' : OwnN w8 w6.heap.size v8 (callN ⟨#[70, 78]⟩ 2 :: (l ++ m)) := own8
  obtain ⟨av8, cap8, rfl, hrd8⟩ := own8'.form
  have hB8 := below_end hBW6 hb8
  have hr68 := hrd6.below hb8
  have hrl8 := hrl6.below hb8
  have hrm8 := hrm6.below hb8
  have c28 := cell_below hb8 c26
  obtain ⟨n2, hn2⟩ : ∃ n, (callN ⟨#[70, 78]⟩ 2 :: (l ++ m)).length = n := ⟨_, rfl⟩
  rw [hn2]
  have hn2 : Hid ((callN ⟨#[70, 78]⟩ 2 :: (l ++ m)).length = n2) := hn2
  clear own7 hb7 own8 own8' c26 hrl6 hrm6 hBW6 hb8 hrd6
  have s1 := S1Q trivial
  have s2 := S2Q trivial
  have s3 := S3Q trivial
  have s4 := S4Q trivial
  have s5 := S5Q trivial
  have s6 := S6Q trivial
  go_wp2_with fail
  refine (P1 w8 (hE.below hB8) (Nat.le_trans hk8 hB8.size)).mono ?_
  rintro e w9 ⟨rfl, hb9⟩
  have hB9 := below_end hB8 hb9
  clear s1 s2 s3 s4 s5 s6
  have z1 := Z1Q trivial
  have z2 := Z2Q trivial
  have z3 := Z3Q trivial
  have z4 := Z4Q trivial
  go_wp2_with fail
  refine (P2 w9 (hE.below hB9) (Nat.le_trans hk8 hB9.size)).mono ?_
  rintro e w10 ⟨rfl, hb10⟩
  have hB10 := below_end hB9 hb10
  have hni : (256 : Int) < (n : Int) := by have := hbig trivial; have := hn1 trivial; omega
  go_wp2
  go_ret
  exact ⟨by simp, hB10⟩
set_option maxRecDepth 100000 in
set_option maxHeartbeats 16000000 in
theorem join_n52 (b c : ByteArray) (k : Int) (i : Nat) (hi : i < 12) (hki : k.tmod 12 < 0 ∧ k.tmod 12 + 12 = (i : Int)) (w : World) (hE : Env w) (hk8 : 8 ≤ w.heap.size) {l m : List Wt.Nd} (hr : prsR b.data.toList = .inl l) (hr2 : prsR c.data.toList = .inl m) (hlen : b.size + c.size ≤ 1000) (hbig : True → 256 < l.length + m.length + 1) {o : Int × List UInt8 × Int} (ho : jOps[i]? = some o) {dl dm : Nat} (HDl : Hid (dep l 0 = dl)) (HDm : Hid (dep m 0 = dm)) (hd32 : dl ≤ 32) (he32 : dm ≤ 32)
    (HW : Hid (Wt.check (opN 5 o.1 :: (l ++ m)) = 52)) (HCa : Hid (Wt.check (callN ⟨#[70, 78]⟩ 2 :: (l ++ m)) = 52)) :
    Calls Tryz.prog 7 #[.string b, .string c, .int .i64 k] w fun e w' => e = .returned (.bool true) ∧ Below w.heap.size w w' := by
  have A := table_any w hE hk8
  have S1 := fun w hE hk8 => parse_any b w hE (by omega) hk8
  have S2 := fun w hE hk8 => parse_any c w hE (by omega) hk8
  rw [hr] at S1
  rw [hr2] at S2
  simp only [PaPost] at S1 S2
  obtain ⟨hfl, hcl⟩ := prsR_row hr
  obtain ⟨hfm, hcm⟩ := prsR_row hr2
  obtain ⟨jo, jt, jr, jl⟩ := jOps_in o (List.mem_of_getElem? ho)
  have X1 := join_op hr hr2 jo jt (show b.data.toList.length + c.data.toList.length ≤ 1000 from hlen)
  have X2 := join_call hr hr2 (show b.data.toList.length + c.data.toList.length ≤ 1000 from hlen)
  obtain ⟨u1, hu1, hul1⟩ := jtxt (b := b) (c := c) jl hlen
  obtain ⟨u2, hu2, hul2⟩ := jtxt2 (b := b) (c := c) hlen
  have hcat := jcat b c o.2.1
  have hcat2 := jcat2 b c
  rw [hu1] at X1 hcat
  rw [hu2] at X2 hcat2
  have P1 := fun w hE hk8 => parse_any ⟨u1.toArray⟩ w hE (by show u1.length ≤ _; omega) hk8
  have P2 := fun w hE hk8 => parse_any ⟨u2.toArray⟩ w hE (by show u2.length ≤ _; omega) hk8
  have e1 : (⟨u1.toArray⟩ : ByteArray).data.toList = u1 := by simp
  have e2 : (⟨u2.toArray⟩ : ByteArray).data.toList = u2 := by simp
  rw [e1, X1] at P1
  rw [e2, X2] at P2
  clear e1 e2 hu1 hu2 hul1 hul2
  rw [HW.out] at P1
  rw [HCa.out] at P2
  rw [if_neg (by decide)] at P1 P2
  simp only [PaPost] at P1 P2
  have HFl : Hid (∀ x ∈ l, Wt.FitN x) := hfl
  have HFm : Hid (∀ x ∈ m, Wt.FitN x) := hfm
  have HCl : Hid (Wt.check l = 0) := hcl
  have HCm : Hid (Wt.check m = 0) := hcm
  obtain ⟨h256l, dl', honel', hdl32⟩ := check_zero hcl
  obtain ⟨h256m, dm', honem', hdm32⟩ := check_zero hcm
  have hpl : 0 < l.length := by have := one_loc _ _ _ _ honel'; omega
  have hpm : 0 < m.length := by have := one_loc _ _ _ _ honem'; omega
  have HL : True → l.length ≤ 256 ∧ m.length ≤ 256 := fun _ => ⟨h256l, h256m⟩
  have HBS : True → b.size + c.size ≤ 1000 := fun _ => hlen
  have jl2 : True → o.2.1.length ≤ 2 := fun _ => jl
  have hbi : (b.size : Int) + (c.size : Int) ≤ 1000 := by omega
  have hbi2 : ¬ (1000 : Int) < (b.size : Int) + (c.size : Int) := by omega
  have hbw : IntKind.i64.wrap ((b.size : Int) + (c.size : Int)) = (b.size : Int) + (c.size : Int) := by rw [IntKind.wrap_i64]; omega
  have S1Q : True → ¬ 9223372036854775807 < 1 + b.size := fun _ => by omega
  have S2Q : True → ¬ 9223372036854775807 < 1 + b.size + 1 := fun _ => by omega
  have S3Q : True → ¬ 9223372036854775807 < 1 + b.size + 1 + o.2.1.length := fun _ => by omega
  have S4Q : True → ¬ 9223372036854775807 < 1 + b.size + 1 + o.2.1.length + 1 := fun _ => by omega
  have S5Q : True → ¬ 9223372036854775807 < 1 + b.size + 1 + o.2.1.length + 1 + c.size := fun _ => by omega
  have S6Q : True → ¬ 9223372036854775807 < 1 + b.size + 1 + o.2.1.length + 1 + c.size + 1 := fun _ => by omega
  have Z1Q : True → ¬ 9223372036854775807 < 3 + b.size := fun _ => by omega
  have Z2Q : True → ¬ 9223372036854775807 < 3 + b.size + 1 := fun _ => by omega
  have Z3Q : True → ¬ 9223372036854775807 < 3 + b.size + 1 + c.size := fun _ => by omega
  have Z4Q : True → ¬ 9223372036854775807 < 3 + b.size + 1 + c.size + 1 := fun _ => by omega
  have hi0 : (0 : Int) ≤ (i : Int) := by omega
  have hi12 : (i : Int) < 12 := by omega
  clear X1 X2 hr hr2 hfl hfm hcl hcm h256l h256m honel' honem' hdl32 hdm32 hlen jl
  go_enter Tryz.func7, Tryz.ntmps7
  go_wp2_with fail
  refine A.mono ?_
  rintro e w1 ⟨rfl, hb1⟩
  go_wp2_with fail
  refine (S1 w1 (hE.below hb1) (Nat.le_trans hk8 hb1.size)).mono ?_
  rintro e w2 ⟨⟨v, rfl, hown⟩, hb2⟩
  have hB2 := below_end hb1 hb2
  obtain ⟨av, cap, rfl, hrd⟩ := hown.form
  clear A S1 hown hb1 hb2
  go_wp2_with fail
  refine (S2 w2 (hE.below hB2) (Nat.le_trans hk8 hB2.size)).mono ?_
  rintro e w3 ⟨⟨v2, rfl, hown2⟩, hb3⟩
  have hB3 := below_end hB2 hb3
  obtain ⟨av2, cap2, rfl, hrd2⟩ := hown2.form
  have hrl3 := hrd.below hb3
  clear S2 hown2 hb3 hrd hB2
  go_upto_region 9 with fail
  obtain ⟨c1, c2⟩ := jcell w3 i hi ho
  have hBa := ball (ball (Below.refl _ w3) (.cells #[.int .i64 11, .int .i64 12, .int .i64 13, .int .i64 14, .int .i64 15, .int .i64 16, .int .i64 21, .int .i64 22, .int .i64 23, .int .i64 24, .int .i64 25, .int .i64 26] 3)) (.cells #[.string ⟨#[43]⟩, .string ⟨#[45]⟩, .string ⟨#[42]⟩, .string ⟨#[47]⟩, .string ⟨#[94]⟩, .string ⟨#[38]⟩, .string ⟨#[61]⟩, .string ⟨#[60, 62]⟩, .string ⟨#[60]⟩, .string ⟨#[60, 61]⟩, .string ⟨#[62]⟩, .string ⟨#[62, 61]⟩] 9)
  generalize ((w3.alloc (.cells #[.int .i64 11, .int .i64 12, .int .i64 13, .int .i64 14, .int .i64 15, .int .i64 16, .int .i64 21, .int .i64 22, .int .i64 23, .int .i64 24, .int .i64 25, .int .i64 26] 3)).alloc (.cells #[.string ⟨#[43]⟩, .string ⟨#[45]⟩, .string ⟨#[42]⟩, .string ⟨#[47]⟩, .string ⟨#[94]⟩, .string ⟨#[38]⟩, .string ⟨#[61]⟩, .string ⟨#[60, 62]⟩, .string ⟨#[60]⟩, .string ⟨#[60, 61]⟩, .string ⟨#[62]⟩, .string ⟨#[62, 61]⟩] 9)) = W at *
  have hBW := below_end hB3 hBa
  have hrlW := hrl3.below hBa
  have hrmW := hrd2.below hBa
  clear hBa hB3 hrl3 hrd2
  obtain ⟨hk0, hki⟩ := hki
  have hkw : IntKind.i64.wrap (k.tmod 12 + 12) = (i : Int) := by rw [hki, IntKind.wrap_i64]; omega
  go_wp2_with (at_builtin; refine wpList_appN (by rfl) (.tmp 65) (.tmp 66) (by rfl) W _ (ball (Below.refl _ W) _) _ [opN 5 o.1] (by rfl) (own_one W (opN 5 o.1)) av l cap (by rfl) (hrlW.below (ball (Below.refl _ W) _)) hpl (fun _ => by have := HL trivial; simp only [List.length_cons, List.length_nil]; omega) ?_)
  intro v5 w5 own5 hb5
  go_wp2_with (at_builtin; refine wpList_appN (by rfl) (.tmp 67) (.tmp 68) (by rfl) W w5 hb5 v5 ([opN 5 o.1] ++ l) (by rfl) own5 av2 m cap2 (by rfl) (hrmW.below hb5) hpm (fun _ => by have := HL trivial; simp only [List.length_append, List.length_cons, List.length_nil]; omega) ?_)
  intro v6 w6 own6 hb6
  have own6' : OwnN w6 W.heap.size v6 (opN 5 o.1 :: (l ++ m)) := own6
  obtain ⟨av6, cap6, rfl, hrd6⟩ := own6'.form
  have hBW6 := below_end hBW hb6
  have hrl6 := hrlW.below hb6
  have hrm6 := hrmW.below hb6
  have c26 := cell_below hb6 c2
  obtain ⟨n, hn⟩ : ∃ n, (opN 5 o.1 :: (l ++ m)).length = n := ⟨_, rfl⟩
  have hn1 : True → l.length + m.length + 1 = n := fun _ => by rw [← hn]; simp
  rw [hn]
  clear hn
  clear own5 hb5 own6 own6' c1 c2 hrlW hrmW hBW hb6
  go_wp2_with (at_builtin; refine wpList_appN (by rfl) (.tmp 71) (.tmp 72) (by rfl) w6 _ (ball (Below.refl _ w6) _) _ [callN ⟨#[70, 78]⟩ 2] (by rfl) (own_one w6 (callN ⟨#[70, 78]⟩ 2)) av l cap (by rfl) (hrl6.below (ball (Below.refl _ w6) _)) hpl (fun _ => by have := HL trivial; simp only [List.length_cons, List.length_nil]; omega) ?_)
  intro v7 w7 own7 hb7
  go_wp2_with (at_builtin; refine wpList_appN (by rfl) (.tmp 73) (.tmp 74) (by rfl) w6 w7 hb7 v7 ([callN ⟨#[70, 78]⟩ 2] ++ l) (by rfl) own7 av2 m cap2 (by rfl) (hrm6.below hb7) hpm (fun _ => by have := HL trivial; simp only [List.length_append, List.length_cons, List.length_nil]; omega) ?_)
  intro v8 w8 own8 hb8
  have own8' : OwnN w8 w6.heap.size v8 (callN ⟨#[70, 78]⟩ 2 :: (l ++ m)) := own8
  obtain ⟨av8, cap8, rfl, hrd8⟩ := own8'.form
  have hB8 := below_end hBW6 hb8
  have hr68 := hrd6.below hb8
  have hrl8 := hrl6.below hb8
  have hrm8 := hrm6.below hb8
  have c28 := cell_below hb8 c26
  obtain ⟨n2, hn2⟩ : ∃ n, (callN ⟨#[70, 78]⟩ 2 :: (l ++ m)).length = n := ⟨_, rfl⟩
  rw [hn2]
  have hn2 : Hid ((callN ⟨#[70, 78]⟩ 2 :: (l ++ m)).length = n2) := hn2
  clear own7 hb7 own8 own8' c26 hrl6 hrm6 hBW6 hb8 hrd6
  have s1 := S1Q trivial
  have s2 := S2Q trivial
  have s3 := S3Q trivial
  have s4 := S4Q trivial
  have s5 := S5Q trivial
  have s6 := S6Q trivial
  go_wp2_with fail
  refine (P1 w8 (hE.below hB8) (Nat.le_trans hk8 hB8.size)).mono ?_
  rintro e w9 ⟨rfl, hb9⟩
  have hB9 := below_end hB8 hb9
  clear s1 s2 s3 s4 s5 s6
  have z1 := Z1Q trivial
  have z2 := Z2Q trivial
  have z3 := Z3Q trivial
  have z4 := Z4Q trivial
  go_wp2_with fail
  refine (P2 w9 (hE.below hB9) (Nat.le_trans hk8 hB9.size)).mono ?_
  rintro e w10 ⟨rfl, hb10⟩
  have hB10 := below_end hB9 hb10
  have hni : (256 : Int) < (n : Int) := by have := hbig trivial; have := hn1 trivial; omega
  go_wp2
  go_ret
  exact ⟨by simp, hB10⟩
end Go.Proofs.YtifdemakjphfcaaGreatDoor
