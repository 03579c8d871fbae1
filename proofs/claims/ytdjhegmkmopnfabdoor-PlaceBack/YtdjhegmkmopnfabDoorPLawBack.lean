/- PlaceBack: a right cell's name is read as it, an area's likewise, from any two of its corners. -/
import Derived.Test.YtdjhegmkmopnfabDoorNWalkL
import Derived.Test.YtdjhegmkmopnfabDoorNWalkD
import Derived.Test.YtdjhegmkmopnfabDoorNPlainF
import Derived.Test.YtdjhegmkmopnfabDoorPWalkF
namespace Go.Proofs.YtdjhegmkmopnfabDoor
open Go.RowKit
set_option linter.unusedVariables false

abbrev BkS (kc ka : Nat) (cs cr cc s t l b r : Int) (W : World) : Prop :=
  W.cell? ⟨kc, 0, none⟩ = some (.int .i64 cs) ∧ W.cell? ⟨kc, 1, none⟩ = some (.int .i64 cr) ∧ W.cell? ⟨kc, 2, none⟩ = some (.int .i64 cc) ∧ W.cell? ⟨ka, 0, none⟩ = some (.int .i64 s) ∧ W.cell? ⟨ka, 1, none⟩ = some (.int .i64 t) ∧ W.cell? ⟨ka, 2, none⟩ = some (.int .i64 l) ∧ W.cell? ⟨ka, 3, none⟩ = some (.int .i64 b) ∧ W.cell? ⟨ka, 4, none⟩ = some (.int .i64 r)
theorem BkS_below {kc ka : Nat} {cs cr cc s t l b r : Int} {W W' : World} (hb : Below W.heap.size W W') (h : BkS kc ka  cs cr cc s t l b r  W) : BkS kc ka  cs cr cc s t l b r  W' :=
  ⟨cell_below hb (h.1), cell_below hb (h.2.1), cell_below hb (h.2.2.1), cell_below hb (h.2.2.2.1), cell_below hb (h.2.2.2.2.1), cell_below hb (h.2.2.2.2.2.1), cell_below hb (h.2.2.2.2.2.2.1), cell_below hb (h.2.2.2.2.2.2.2)⟩
theorem BkS_drew {kc ka : Nat} {cs cr cc s t l b r : Int} {W : World} (h : BkS kc ka  cs cr cc s t l b r  W) : BkS kc ka  cs cr cc s t l b r  W.drew := BkS_below (Below.refl _ _).drew h
theorem BkS_alloc {kc ka : Nat} {cs cr cc s t l b r : Int} {W : World} (h : BkS kc ka  cs cr cc s t l b r  W) (o : Obj) : BkS kc ka  cs cr cc s t l b r  (W.alloc o) := BkS_below ((Below.refl _ _).alloc (Nat.le_refl _) _) h
theorem BkS_mk {kc ka : Nat} {cs cr cc s t l b r : Int} {W : World} (h0 : AtL W (kc) [.int .i64 cs, .int .i64 cr, .int .i64 cc]) (h1 : AtL W (ka) [.int .i64 s, .int .i64 t, .int .i64 l, .int .i64 b, .int .i64 r]) : BkS kc ka  cs cr cc s t l b r  W :=
  ⟨h0.2.1 0 _ rfl, h0.2.1 1 _ rfl, h0.2.1 2 _ rfl, h1.2.1 0 _ rfl, h1.2.1 1 _ rfl, h1.2.1 2 _ rfl, h1.2.1 3 _ rfl, h1.2.1 4 _ rfl⟩

theorem read_name {r c : Int} (r0 : 0 ≤ r) (r1 : r < 65536) (c0 : 0 ≤ c) (c1 : c < 256) (w : World) :
    Calls Tryd.prog 11 #[.string ⟨(Wpl.txtC r c).toArray⟩] w fun e w' => e = .returned (.tuple #[.int .i64 r, .int .i64 c, .bool true]) ∧ Below w.heap.size w w' := by
  have h := x3_read_any (Wpl.txtC r c) w (by have := Wpl.txtC_len (c := c) r0 r1; omega)
  obtain ⟨k1, k2, k3⟩ := Wpl.txt_reads r0 r1 c0 c1
  rw [k1, k2, k3] at h
  exact h
theorem read_two {r c r' c' : Int} (r0 : 0 ≤ r) (r1 : r < 65536) (c0 : 0 ≤ c) (c1 : c < 256) (r0' : 0 ≤ r') (r1' : r' < 65536) (c0' : 0 ≤ c') (c1' : c' < 256) (w : World) :
    Calls Tryd.prog 17 #[.string ⟨(Wpl.txtC r c ++ 58 :: Wpl.txtC r' c').toArray⟩] w fun e w' => e = .returned (.tuple #[.int .i64 (min r r'), .int .i64 (min c c'), .int .i64 (max r r'), .int .i64 (max c c'), .bool true]) ∧ Below w.heap.size w w' := by
  have l1 := Wpl.txtC_len (c := c) r0 r1
  have l2 := Wpl.txtC_len (c := c') r0' r1'
  have h := readArea_any (Wpl.txtC r c ++ 58 :: Wpl.txtC r' c') w (by simp; omega)
  obtain ⟨k1, k2, k3⟩ := Wpl.txt_reads r0 r1 c0 c1
  obtain ⟨m1, m2, m3⟩ := Wpl.txt_reads r0' r1' c0' c1'
  rw [RA_yes (Wpl.spl_app _ _ (Wpl.txt_no58 r c)) k1 m1, k2, k3, m2, m3] at h
  exact h

set_option maxRecDepth 100000 in
set_option maxHeartbeats 3200000 in
theorem back_nn (cs cr cc s t l b r : Int) (w : World) (htab : Lib.TabIs Tryd.prog w "internal/strconv.uint64pow10" .u64 Lib.pow10Tab) (hc : Wpl.rightC cs cr cc = false) (ha : Wpl.rightA s t l b r = false) :
    Calls Tryd.prog 3 #[.agg #[.int .i64 cs, .int .i64 cr, .int .i64 cc], .agg #[.int .i64 s, .int .i64 t, .int .i64 l, .int .i64 b, .int .i64 r]] w fun e w' => e = .returned (.bool true) ∧ Below w.heap.size w w' := by
  have TB := Lib.tabBelow_of_tabIs htab
  clear htab
  have R1 := fun w => x3_right_any cs cr cc w
  have R2 := fun w => rightArea_any s t l b r w
  rw [hc] at R1
  rw [ha] at R2
  have NA := fun w ht => nameArea_any s t l b r w ht
  rw [show Wpl.nameA s t l b r = [] by unfold Wpl.nameA; rw [ha]; rfl] at NA
  have SZ := fun w => x3_size_any s t l b r w
  rw [show Wpl.sizeA s t l b r = 0 by unfold Wpl.sizeA; rw [ha]; rfl] at SZ
  clear hc ha
  go_enter Tryd.func3, Tryd.ntmps3
  go_wp2_with fail
  refine (x3_able_any _).mono ?_
  rintro e w1 ⟨rfl, hb⟩
  have pc : AtL w1 w.heap.size [.int .i64 cs, .int .i64 cr, .int .i64 cc] := AtL.below hb ((AtL.new0 w _ _).alloc _)
  have pa : AtL w1 (w.heap.size + 1) [.int .i64 s, .int .i64 t, .int .i64 l, .int .i64 b, .int .i64 r] := AtL.below hb (AtL.new1 w _ _ _)
  have hB : Below w.heap.size w w1 := by with_reducible exact x3_below_end (x3_ball (x3_ball (Below.refl _ _) _) _) hb
  clear hb
  generalize w.heap.size + 1 = ka at *
  obtain ⟨c0, c1, c2⟩ := pc.f3
  go_wp2_with fail
  refine (R1 _).mono ?_
  rintro e w2 ⟨rfl, hb⟩
  replace pc := AtL.below hb pc
  replace pa := AtL.below hb pa
  replace hB := x3_below_end hB hb
  clear hb c0 c1 c2 R1
  obtain ⟨a0, a1, a2, a3', a4⟩ := pa.f5
  go_wp2_with fail
  refine (R2 _).mono ?_
  rintro e w6 ⟨rfl, hb⟩
  replace pa := AtL.below hb pa
  replace hB := x3_below_end hB hb
  clear hb a0 a1 a2 a3' a4 R2
  obtain ⟨a0, a1, a2, a3', a4⟩ := pa.f5
  go_wp2_with fail
  refine (NA _ ((TB.on hB).here)).mono ?_
  rintro e w7 ⟨rfl, hb⟩
  replace pa := AtL.below hb pa
  replace hB := x3_below_end hB hb
  clear hb a0 a1 a2 a3' a4 NA
  obtain ⟨a0, a1, a2, a3', a4⟩ := pa.f5
  go_wp2_with fail
  refine (SZ _).mono ?_
  rintro e w8 ⟨rfl, hb⟩
  replace hB := x3_below_end hB hb
  go_wp2
  go_ret
  exact ⟨by simp, hB⟩

set_option maxRecDepth 100000 in
set_option maxHeartbeats 3200000 in
theorem back_ny (cs cr cc s t l b r : Int) (w : World) (htab : Lib.TabIs Tryd.prog w "internal/strconv.uint64pow10" .u64 Lib.pow10Tab) (hc : Wpl.rightC cs cr cc = false) (ha : Wpl.rightA s t l b r = true) :
    Calls Tryd.prog 3 #[.agg #[.int .i64 cs, .int .i64 cr, .int .i64 cc], .agg #[.int .i64 s, .int .i64 t, .int .i64 l, .int .i64 b, .int .i64 r]] w fun e w' => e = .returned (.bool true) ∧ Below w.heap.size w w' := by
  have TB := Lib.tabBelow_of_tabIs htab
  clear htab
  have R1 := fun w => x3_right_any cs cr cc w
  have R2 := fun w => rightArea_any s t l b r w
  rw [hc] at R1
  rw [ha] at R2
  have ba := Wpl.rightA_iff.1 ha
  have NA := fun w ht => nameArea_any s t l b r w ht
  rw [show Wpl.nameA s t l b r = Wpl.txtC t l ++ 58 :: Wpl.txtC b r by unfold Wpl.nameA; rw [ha]; rfl] at NA
  have T1 := fun w => read_two (r := t) (c := l) (r' := b) (c' := r) (by omega) (by omega) (by omega) (by omega) (by omega) (by omega) (by omega) (by omega) w
  have T2 := fun w => read_two (r := b) (c := l) (r' := t) (c' := r) (by omega) (by omega) (by omega) (by omega) (by omega) (by omega) (by omega) (by omega) w
  rw [show min t b = t by omega, show min l r = l by omega, show max t b = b by omega, show max l r = r by omega] at T1
  rw [show min b t = t by omega, show min l r = l by omega, show max b t = b by omega, show max l r = r by omega] at T2
  have M1 := fun w ht => name_any 0 b l w ht
  have M2 := fun w ht => name_any 0 t r w ht
  rw [Wpl.nameS_pos (Wpl.rightC_iff.2 (by omega))] at M1 M2
  have l1 := Wpl.txtC_len (c := l) (show 0 ≤ b by omega) (by omega)
  have l2 := Wpl.txtC_len (c := r) (show 0 ≤ t by omega) (by omega)
  generalize Wpl.txtC t l ++ 58 :: Wpl.txtC b r = Z1 at *
  have a3 := app_three (Wpl.txtC b l) (Wpl.txtC t r)
  generalize Wpl.txtC b l = U1 at *
  generalize Wpl.txtC t r = U2 at *
  have lu : ¬ 9223372036854775807 < U1.length + 1 := by omega
  have lv : ¬ 9223372036854775807 < U1.length + 1 + U2.length := by omega
  clear hc ha
  go_enter Tryd.func3, Tryd.ntmps3
  go_wp2_with fail
  refine (x3_able_any _).mono ?_
  rintro e w1 ⟨rfl, hb⟩
  have pc : AtL w1 w.heap.size [.int .i64 cs, .int .i64 cr, .int .i64 cc] := AtL.below hb ((AtL.new0 w _ _).alloc _)
  have pa : AtL w1 (w.heap.size + 1) [.int .i64 s, .int .i64 t, .int .i64 l, .int .i64 b, .int .i64 r] := AtL.below hb (AtL.new1 w _ _ _)
  have hB : Below w.heap.size w w1 := by with_reducible exact x3_below_end (x3_ball (x3_ball (Below.refl _ _) _) _) hb
  clear hb
  generalize w.heap.size + 1 = ka at *
  obtain ⟨c0, c1, c2⟩ := pc.f3
  go_wp2_with fail
  refine (R1 _).mono ?_
  rintro e w2 ⟨rfl, hb⟩
  replace pc := AtL.below hb pc
  replace pa := AtL.below hb pa
  replace hB := x3_below_end hB hb
  clear hb c0 c1 c2 R1
  obtain ⟨a0, a1, a2, a3', a4⟩ := pa.f5
  go_wp2_with fail
  refine (R2 _).mono ?_
  rintro e w6 ⟨rfl, hb⟩
  replace pa := AtL.below hb pa
  replace hB := x3_below_end hB hb
  clear hb a0 a1 a2 a3' a4 R2
  obtain ⟨a0, a1, a2, a3', a4⟩ := pa.f5
  go_wp2_with fail
  refine (NA _ ((TB.on hB).here)).mono ?_
  rintro e w7 ⟨rfl, hb⟩
  replace pa := AtL.below hb pa
  replace hB := x3_below_end hB hb
  clear hb a0 a1 a2 a3' a4 NA
  go_wp2_with fail
  refine (T1 _).mono ?_
  rintro e w8 ⟨rfl, hb⟩
  replace pa := AtL.below hb pa
  replace hB := x3_below_end hB hb
  clear hb T1
  go_upto_region 10 with fail
  go_cut [13, 14, 15, 16, 17] (fun s1 s2 s3 s4 s5 wx => s1 = .int .i64 t ∧ s2 = .int .i64 l ∧ s3 = .int .i64 b ∧ s4 = .int .i64 r ∧ s5 = .bool true ∧ Below w.heap.size w wx ∧ AtL wx ka [.int .i64 s, .int .i64 t, .int .i64 l, .int .i64 b, .int .i64 r])
  case first =>
    have hS : Five w8 ka (.int .i64 s) (.int .i64 t) (.int .i64 l) (.int .i64 b) (.int .i64 r) := pa.f5
    go_region_held3 (fun W => W.cell? ⟨ka, 0, none⟩ = some (.int .i64 s) ∧ W.cell? ⟨ka, 1, none⟩ = some (.int .i64 t) ∧ W.cell? ⟨ka, 2, none⟩ = some (.int .i64 l) ∧ W.cell? ⟨ka, 3, none⟩ = some (.int .i64 b) ∧ W.cell? ⟨ka, 4, none⟩ = some (.int .i64 r))
      (with_reducible first | exact hS | assumption | exact five_drew hS | exact five_below hb (by assumption))
      (first
      | (go_at_call_of 12 b; refine (M1 _ ((TB.on (by with_reducible first | exact hB | exact hB.drew)).here)).mono ?_; rintro e w9 ⟨rfl, hb⟩; (with_reducible first | replace pa := AtL.below hb pa | replace pa := AtL.below hb (AtL.drew pa)); (with_reducible first | replace hB := x3_below_end hB.drew hb | replace hB := x3_below_end hB hb))
      | (go_at_call_of 12 t; refine (M2 _ ((TB.on (by with_reducible first | exact hB | exact hB.drew)).here)).mono ?_; rintro e w9 ⟨rfl, hb⟩; (with_reducible first | replace pa := AtL.below hb pa | replace pa := AtL.below hb (AtL.drew pa)); (with_reducible first | replace hB := x3_below_end hB.drew hb | replace hB := x3_below_end hB hb))
      | (go_at_call 17; refine (T2 _).mono ?_; rintro e w9 ⟨rfl, hb⟩; (with_reducible first | replace pa := AtL.below hb pa | replace pa := AtL.below hb (AtL.drew pa)); (with_reducible first | replace hB := x3_below_end hB.drew hb | replace hB := x3_below_end hB hb)))
    all_goals
      go_wp2_with fail
      go_meet
      case rel => exact ⟨rfl, rfl, rfl, rfl, rfl, hB, pa⟩
  case rest =>
    clear pa hB
    obtain ⟨rfl, rfl, rfl, rfl, rfl, hB, pa⟩ := hcut
    obtain ⟨a0, a1, a2, a3', a4⟩ := pa.f5
    go_wp2
    go_ret
    exact ⟨by simp, hB⟩

end Go.Proofs.YtdjhegmkmopnfabDoor
