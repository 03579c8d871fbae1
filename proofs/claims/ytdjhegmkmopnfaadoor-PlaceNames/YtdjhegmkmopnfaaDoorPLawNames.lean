/- PlaceNames: every name, and which are right, against the document's own. -/
import Derived.Test.YtdjhegmkmopnfaaDoorNWalkD
import Derived.Test.YtdjhegmkmopnfaaDoorPWalkF
namespace Go.Proofs.YtdjhegmkmopnfaaDoor
open Go.RowKit
set_option linter.unusedVariables false

abbrev NaS (kc ka : Nat) (cs cr cc s t l b r : Int) (W : World) : Prop :=
  W.cell? ⟨kc, 0, none⟩ = some (.int .i64 cs) ∧ W.cell? ⟨kc, 1, none⟩ = some (.int .i64 cr) ∧ W.cell? ⟨kc, 2, none⟩ = some (.int .i64 cc) ∧ W.cell? ⟨ka, 0, none⟩ = some (.int .i64 s) ∧ W.cell? ⟨ka, 1, none⟩ = some (.int .i64 t) ∧ W.cell? ⟨ka, 2, none⟩ = some (.int .i64 l) ∧ W.cell? ⟨ka, 3, none⟩ = some (.int .i64 b) ∧ W.cell? ⟨ka, 4, none⟩ = some (.int .i64 r)
theorem NaS_below {kc ka : Nat} {cs cr cc s t l b r : Int} {W W' : World} (hb : Below W.heap.size W W') (h : NaS kc ka  cs cr cc s t l b r  W) : NaS kc ka  cs cr cc s t l b r  W' :=
  ⟨cell_below hb (h.1), cell_below hb (h.2.1), cell_below hb (h.2.2.1), cell_below hb (h.2.2.2.1), cell_below hb (h.2.2.2.2.1), cell_below hb (h.2.2.2.2.2.1), cell_below hb (h.2.2.2.2.2.2.1), cell_below hb (h.2.2.2.2.2.2.2)⟩
theorem NaS_drew {kc ka : Nat} {cs cr cc s t l b r : Int} {W : World} (h : NaS kc ka  cs cr cc s t l b r  W) : NaS kc ka  cs cr cc s t l b r  W.drew := NaS_below (Below.refl _ _).drew h
theorem NaS_alloc {kc ka : Nat} {cs cr cc s t l b r : Int} {W : World} (h : NaS kc ka  cs cr cc s t l b r  W) (o : Obj) : NaS kc ka  cs cr cc s t l b r  (W.alloc o) := NaS_below ((Below.refl _ _).alloc (Nat.le_refl _) _) h
theorem NaS_mk {kc ka : Nat} {cs cr cc s t l b r : Int} {W : World} (h0 : AtL W (kc) [.int .i64 cs, .int .i64 cr, .int .i64 cc]) (h1 : AtL W (ka) [.int .i64 s, .int .i64 t, .int .i64 l, .int .i64 b, .int .i64 r]) : NaS kc ka  cs cr cc s t l b r  W :=
  ⟨h0.2.1 0 _ rfl, h0.2.1 1 _ rfl, h0.2.1 2 _ rfl, h1.2.1 0 _ rfl, h1.2.1 1 _ rfl, h1.2.1 2 _ rfl, h1.2.1 3 _ rfl, h1.2.1 4 _ rfl⟩

set_option maxRecDepth 100000 in
set_option maxHeartbeats 3200000 in
theorem names_main (cs cr cc s t l b r n : Int) (w : World) (htab : Lib.TabIs Tryd.prog w "internal/strconv.uint64pow10" .u64 Lib.pow10Tab) :
    Calls Tryd.prog 3 #[.agg #[.int .i64 cs, .int .i64 cr, .int .i64 cc], .agg #[.int .i64 s, .int .i64 t, .int .i64 l, .int .i64 b, .int .i64 r], .int .i64 n] w fun e w' => e = .returned (.bool true) ∧ Below w.heap.size w w' := by
  have TB := Lib.tabBelow_of_tabIs htab
  clear htab
  have R1 := fun w => x3_right_any cs cr cc w
  have R2 := fun w => x3_rright_any cs cr cc w
  have R3 := fun w => rightArea_any s t l b r w
  have R4 := fun w => rrightArea_any s t l b r w
  have N1 := fun w ht => name_any cs cr cc w ht
  have N2 := fun w => rname_any cs cr cc w
  have N3 := fun w ht => nameArea_any s t l b r w ht
  have N4 := fun w => rnameArea_any s t l b r w
  have C1 := fun w => col_any n w
  have C2 := fun w => rcol_any n w
  generalize Wpl.rightC cs cr cc = o1 at *
  generalize Wpl.rightA s t l b r = o2 at *
  generalize Wpl.nameS cs cr cc = x1 at *
  generalize Wpl.nameA s t l b r = x2 at *
  generalize Wpl.colS n = x3 at *
  have pc := AtL.new0 w 23 [.int .i64 cs, .int .i64 cr, .int .i64 cc]
  replace pc := AtL.alloc pc (.cells #[.int .i64 s, .int .i64 t, .int .i64 l, .int .i64 b, .int .i64 r] 25)
  have pa := AtL.new1 w (.cells #[.int .i64 cs, .int .i64 cr, .int .i64 cc] 23) 25 [.int .i64 s, .int .i64 t, .int .i64 l, .int .i64 b, .int .i64 r]
  have hB := x3_ball (x3_ball (Below.refl w.heap.size w) (.cells #[.int .i64 cs, .int .i64 cr, .int .i64 cc] 23)) (.cells #[.int .i64 s, .int .i64 t, .int .i64 l, .int .i64 b, .int .i64 r] 25)
  have hS := NaS_mk pc pa
  clear pc pa
  go_enter Tryd.func3, Tryd.ntmps3
  go_wp2_with fail
  generalize (w.alloc (.cells #[.int .i64 cs, .int .i64 cr, .int .i64 cc] 23)).alloc (.cells #[.int .i64 s, .int .i64 t, .int .i64 l, .int .i64 b, .int .i64 r] 25) = W at *
  generalize w.heap.size + 1 = ka at *
  go_region_held3 (NaS w.heap.size ka cs cr cc s t l b r)
    (with_reducible first | exact hS | assumption | exact NaS_drew hS | exact NaS_below hb (by assumption))
    (first
  | (go_at_call 9; refine (x3_able_any _).mono ?_; rintro e w4 ⟨rfl, hb⟩; replace hB := x3_below_end hB.drew hb)
  | (go_at_call 10; refine (R1 _).mono ?_; rintro e w4 ⟨rfl, hb⟩; replace hB := x3_below_end hB hb)
  | (go_at_call 11; refine (R2 _).mono ?_; rintro e w4 ⟨rfl, hb⟩; replace hB := x3_below_end hB hb)
  | (go_at_call 12; refine (R3 _).mono ?_; rintro e w4 ⟨rfl, hb⟩; replace hB := x3_below_end hB hb)
  | (go_at_call 13; refine (R4 _).mono ?_; rintro e w4 ⟨rfl, hb⟩; replace hB := x3_below_end hB hb)
  | (go_at_call 14; refine (N1 _ ((TB.on hB).here)).mono ?_; rintro e w4 ⟨rfl, hb⟩; replace hB := x3_below_end hB hb)
  | (go_at_call 15; refine (N2 _).mono ?_; rintro e w4 ⟨rfl, hb⟩; replace hB := x3_below_end hB hb)
  | (go_at_call 16; refine (N3 _ ((TB.on hB).here)).mono ?_; rintro e w4 ⟨rfl, hb⟩; replace hB := x3_below_end hB hb)
  | (go_at_call 17; refine (N4 _).mono ?_; rintro e w4 ⟨rfl, hb⟩; replace hB := x3_below_end hB hb)
  | (go_at_call 18; refine (C1 _).mono ?_; rintro e w4 ⟨rfl, hb⟩; replace hB := x3_below_end hB hb)
  | (go_at_call 19; refine (C2 _).mono ?_; rintro e w4 ⟨rfl, hb⟩; replace hB := x3_below_end hB hb))
  all_goals
    go_wp2
    go_ret
    exact ⟨by simp, hB⟩
end Go.Proofs.YtdjhegmkmopnfaaDoor
