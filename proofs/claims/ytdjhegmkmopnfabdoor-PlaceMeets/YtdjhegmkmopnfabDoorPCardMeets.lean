/- For every input PlaceMeets answers true, and its arguments read afterwards as they read before; no condition but those of the row (the listed package variables read as the program's text lays them, which the card ties to the text). -/
import Derived.Test.YtdjhegmkmopnfabDoorCards
import Derived.Test.YtdjhegmkmopnfabDoorTie
import Derived.Test.YtdjhegmkmopnfabDoorPAgg
import Derived.Test.YtdjhegmkmopnfabDoorPLawMeets
import Derived.WalkKit
import Derived.ProofKit
import Derived.OpenShut
import Derived.Deep.DeepHandedRow
import Derived.Lib.LaidTab
import Derived.Lib.SmallJoins
namespace Go.Proofs.YtdjhegmkmopnfabDoor.placeMeets
open Go.ChangeShapes Go.WideShapes Go.ChangeAt Go.RowKit Go.Joins

theorem own : ownKnob Tryd.prog.godebug = none := by kernel_rfl
theorem cellsC : Tryd.prog.cellsOf 23 = 3 := by kernel_rfl
theorem cellsA : Tryd.prog.cellsOf 25 = 5 := by kernel_rfl

set_option maxRecDepth 100000 in
/-- What the walk gives, for every argument and every world. -/
theorem contract (H : Type) (enc : TypeId × Value → H) (W : World) (base : Nat) (args : Array Value) (ds gs : List (DataW H)) (before : List MemPlace)
    (hval : ∀ (j : Nat) t v, Tryd.f5.params[j]? = some t → args[j]? = some v → Value.okWide Tryd.prog W .any base t v)
    (hW : DataW.Whole enc Tryd.prog Tryd.f5.params.toList Rows.placeMeetsSpec.vars false W args.toList ds gs before) :
    Calls Tryd.prog 5 args W fun e W' => ∃ v, e = .returned v ∧ Rows.placeMeetsSpec.post enc Tryd.prog Tryd.f5 false true false false W args v W' := by
  have hW' := hW
  obtain ⟨p, q, hA0, hV, rfl, hfz, hnd⟩ := hW
  have hA : DataW.TrodAll enc Tryd.prog W 0 (fun _ => true) true Tryd.f5.params.toList args.toList ds p := hA0
  rw [Tryd.params5] at hA hval
  obtain ⟨v0, vs0, d0, ds0, p0, q0, hargs, rfl, rfl, h0, r0⟩ := trodAll_cons hA
  obtain ⟨v1, vs1, d1, ds1, p1, q1, rfl, rfl, rfl, h1, r1⟩ := trodAll_cons r0
  obtain ⟨v2, vs2, d2, ds2, p2, q2, rfl, rfl, rfl, h2, r2⟩ := trodAll_cons r1
  obtain ⟨v3, vs3, d3, ds3, p3, q3, rfl, rfl, rfl, h3, r3⟩ := trodAll_cons r2
  obtain ⟨rfl, rfl, rfl⟩ := trodAll_nil r3
  obtain rfl : args = #[v0, v1, v2, v3] := by cases args; simp_all
  obtain ⟨rfl, rfl⟩ := trodVars_none hV
  obtain ⟨c00, c01, c02, c03, c04, y00, y01, y02, y03, y04, m0, rfl, rfl, rfl, hy00, hy01, hy02, hy03, hy04⟩ := open_five Tryd.underlying25 (by kernel_rfl) cellsA (hval 0 25 v0 rfl rfl) h0
  obtain ⟨a_s, e00, rfl, wa_s⟩ := DataW.trod_int Tryd.underlying3 hy00
  obtain ⟨a_t, e01, rfl, wa_t⟩ := DataW.trod_int Tryd.underlying3 hy01
  obtain ⟨a_l, e02, rfl, wa_l⟩ := DataW.trod_int Tryd.underlying3 hy02
  obtain ⟨a_b, e03, rfl, wa_b⟩ := DataW.trod_int Tryd.underlying3 hy03
  obtain ⟨a_r, e04, rfl, wa_r⟩ := DataW.trod_int Tryd.underlying3 hy04
  simp at e00 e01 e02 e03 e04
  subst e00 e01 e02 e03 e04
  obtain ⟨c10, c11, c12, c13, c14, y10, y11, y12, y13, y14, m1, rfl, rfl, rfl, hy10, hy11, hy12, hy13, hy14⟩ := open_five Tryd.underlying25 (by kernel_rfl) cellsA (hval 1 25 v1 rfl rfl) h1
  obtain ⟨b_s, e10, rfl, wb_s⟩ := DataW.trod_int Tryd.underlying3 hy10
  obtain ⟨b_t, e11, rfl, wb_t⟩ := DataW.trod_int Tryd.underlying3 hy11
  obtain ⟨b_l, e12, rfl, wb_l⟩ := DataW.trod_int Tryd.underlying3 hy12
  obtain ⟨b_b, e13, rfl, wb_b⟩ := DataW.trod_int Tryd.underlying3 hy13
  obtain ⟨b_r, e14, rfl, wb_r⟩ := DataW.trod_int Tryd.underlying3 hy14
  simp at e10 e11 e12 e13 e14
  subst e10 e11 e12 e13 e14
  obtain ⟨c20, c21, c22, c23, c24, y20, y21, y22, y23, y24, m2, rfl, rfl, rfl, hy20, hy21, hy22, hy23, hy24⟩ := open_five Tryd.underlying25 (by kernel_rfl) cellsA (hval 2 25 v2 rfl rfl) h2
  obtain ⟨d_s, e20, rfl, wd_s⟩ := DataW.trod_int Tryd.underlying3 hy20
  obtain ⟨d_t, e21, rfl, wd_t⟩ := DataW.trod_int Tryd.underlying3 hy21
  obtain ⟨d_l, e22, rfl, wd_l⟩ := DataW.trod_int Tryd.underlying3 hy22
  obtain ⟨d_b, e23, rfl, wd_b⟩ := DataW.trod_int Tryd.underlying3 hy23
  obtain ⟨d_r, e24, rfl, wd_r⟩ := DataW.trod_int Tryd.underlying3 hy24
  simp at e20 e21 e22 e23 e24
  subst e20 e21 e22 e23 e24
  obtain ⟨c30, c31, c32, y30, y31, y32, m3, rfl, rfl, rfl, hy30, hy31, hy32⟩ := open_agg3 Tryd.underlying23 (by kernel_rfl) cellsC (hval 3 23 v3 rfl rfl) h3
  obtain ⟨c_s, e30, rfl, wc_s⟩ := DataW.trod_int Tryd.underlying3 hy30
  obtain ⟨c_r, e31, rfl, wc_r⟩ := DataW.trod_int Tryd.underlying3 hy31
  obtain ⟨c_c, e32, rfl, wc_c⟩ := DataW.trod_int Tryd.underlying3 hy32
  simp at e30 e31 e32
  subst e30 e31 e32
  clear hA0
  simp only [List.append_nil] at hW'
  have ba_s := bounds_i64 wa_s
  have ba_t := bounds_i64 wa_t
  have ba_l := bounds_i64 wa_l
  have ba_b := bounds_i64 wa_b
  have ba_r := bounds_i64 wa_r
  have bb_s := bounds_i64 wb_s
  have bb_t := bounds_i64 wb_t
  have bb_l := bounds_i64 wb_l
  have bb_b := bounds_i64 wb_b
  have bb_r := bounds_i64 wb_r
  have bd_s := bounds_i64 wd_s
  have bd_t := bounds_i64 wd_t
  have bd_l := bounds_i64 wd_l
  have bd_b := bounds_i64 wd_b
  have bd_r := bounds_i64 wd_r
  have bc_s := bounds_i64 wc_s
  have bc_r := bounds_i64 wc_r
  have bc_c := bounds_i64 wc_c
  refine (meets_main a_s a_t a_l a_b a_r b_s b_t b_l b_b b_r d_s d_t d_l d_b d_r c_s c_r c_c W).mono fun e W' ⟨he, hb⟩ => ?_
  subst he
  exact ⟨_, rfl, _, _, _, [], [], [], hW', (trodAll_cons_mk (shut_bool Tryd.underlying4 _) trodAll_mk0), (trodAll_cons_mk (shut_five (y0 := (.lit (.int .i64 a_s), [])) (y1 := (.lit (.int .i64 a_t), [])) (y2 := (.lit (.int .i64 a_l), [])) (y3 := (.lit (.int .i64 a_b), [])) (y4 := (.lit (.int .i64 a_r), [])) Tryd.underlying25 (by kernel_rfl) cellsA ⟨1, by simp [DataW.trod, Tryd.underlying3, wa_s]⟩ ⟨1, by simp [DataW.trod, Tryd.underlying3, wa_t]⟩ ⟨1, by simp [DataW.trod, Tryd.underlying3, wa_l]⟩ ⟨1, by simp [DataW.trod, Tryd.underlying3, wa_b]⟩ ⟨1, by simp [DataW.trod, Tryd.underlying3, wa_r]⟩) (trodAll_cons_mk (shut_five (y0 := (.lit (.int .i64 b_s), [])) (y1 := (.lit (.int .i64 b_t), [])) (y2 := (.lit (.int .i64 b_l), [])) (y3 := (.lit (.int .i64 b_b), [])) (y4 := (.lit (.int .i64 b_r), [])) Tryd.underlying25 (by kernel_rfl) cellsA ⟨1, by simp [DataW.trod, Tryd.underlying3, wb_s]⟩ ⟨1, by simp [DataW.trod, Tryd.underlying3, wb_t]⟩ ⟨1, by simp [DataW.trod, Tryd.underlying3, wb_l]⟩ ⟨1, by simp [DataW.trod, Tryd.underlying3, wb_b]⟩ ⟨1, by simp [DataW.trod, Tryd.underlying3, wb_r]⟩) (trodAll_cons_mk (shut_five (y0 := (.lit (.int .i64 d_s), [])) (y1 := (.lit (.int .i64 d_t), [])) (y2 := (.lit (.int .i64 d_l), [])) (y3 := (.lit (.int .i64 d_b), [])) (y4 := (.lit (.int .i64 d_r), [])) Tryd.underlying25 (by kernel_rfl) cellsA ⟨1, by simp [DataW.trod, Tryd.underlying3, wd_s]⟩ ⟨1, by simp [DataW.trod, Tryd.underlying3, wd_t]⟩ ⟨1, by simp [DataW.trod, Tryd.underlying3, wd_l]⟩ ⟨1, by simp [DataW.trod, Tryd.underlying3, wd_b]⟩ ⟨1, by simp [DataW.trod, Tryd.underlying3, wd_r]⟩) (trodAll_cons_mk (shut_agg3 (y0 := (.lit (.int .i64 c_s), [])) (y1 := (.lit (.int .i64 c_r), [])) (y2 := (.lit (.int .i64 c_c), [])) Tryd.underlying23 (by kernel_rfl) cellsC ⟨1, by simp [DataW.trod, Tryd.underlying3, wc_s]⟩ ⟨1, by simp [DataW.trod, Tryd.underlying3, wc_r]⟩ ⟨1, by simp [DataW.trod, Tryd.underlying3, wc_c]⟩) trodAll_mk0)))), rfl, hb.frame _, fun h => by cases h⟩

/-- A world for the witness: the settled one, the listed variables as their initialisers lay them. -/
noncomputable def laidWorld (os : Os) : World :=
  { World.holding Tryd.prog os ⟨#[], #[], []⟩ with heap := ((((World.holding Tryd.prog os ⟨#[], #[], []⟩).heap.modify 1 fun
      | .cells _ t frozen => .cells #[.int .u64 1, .int .u64 10, .int .u64 100, .int .u64 1000, .int .u64 10000, .int .u64 100000, .int .u64 1000000, .int .u64 10000000, .int .u64 100000000, .int .u64 1000000000, .int .u64 10000000000, .int .u64 100000000000, .int .u64 1000000000000, .int .u64 10000000000000, .int .u64 100000000000000, .int .u64 1000000000000000, .int .u64 10000000000000000, .int .u64 100000000000000000, .int .u64 1000000000000000000, .int .u64 10000000000000000000] t frozen
      | o => o).modify 2 fun
      | .cells _ t frozen => .cells #[.int .u8 0, .int .u8 1, .int .u8 28, .int .u8 2, .int .u8 29, .int .u8 14, .int .u8 24, .int .u8 3, .int .u8 30, .int .u8 22, .int .u8 20, .int .u8 15, .int .u8 25, .int .u8 17, .int .u8 4, .int .u8 8, .int .u8 31, .int .u8 27, .int .u8 13, .int .u8 23, .int .u8 21, .int .u8 19, .int .u8 16, .int .u8 7, .int .u8 26, .int .u8 12, .int .u8 18, .int .u8 6, .int .u8 11, .int .u8 5, .int .u8 10, .int .u8 9] t frozen
      | o => o).modify 3 fun
      | .cells _ t frozen => .cells #[.int .u8 0, .int .u8 1, .int .u8 56, .int .u8 2, .int .u8 57, .int .u8 49, .int .u8 28, .int .u8 3, .int .u8 61, .int .u8 58, .int .u8 42, .int .u8 50, .int .u8 38, .int .u8 29, .int .u8 17, .int .u8 4, .int .u8 62, .int .u8 47, .int .u8 59, .int .u8 36, .int .u8 45, .int .u8 43, .int .u8 51, .int .u8 22, .int .u8 53, .int .u8 39, .int .u8 33, .int .u8 30, .int .u8 24, .int .u8 18, .int .u8 12, .int .u8 5, .int .u8 63, .int .u8 55, .int .u8 48, .int .u8 27, .int .u8 60, .int .u8 41, .int .u8 37, .int .u8 16, .int .u8 46, .int .u8 35, .int .u8 44, .int .u8 21, .int .u8 52, .int .u8 32, .int .u8 23, .int .u8 11, .int .u8 54, .int .u8 26, .int .u8 40, .int .u8 15, .int .u8 34, .int .u8 20, .int .u8 31, .int .u8 10, .int .u8 25, .int .u8 14, .int .u8 19, .int .u8 9, .int .u8 13, .int .u8 8, .int .u8 7, .int .u8 6] t frozen
      | o => o) }
theorem laid_met (os : Os) : laidMet Tryd.prog Rows.placeMeetsRow.laid ((laidWorld os).forCall (fun _ _ => 0) ⟨#[], #[.agg #[.int .i64 0, .int .i64 0, .int .i64 0, .int .i64 0, .int .i64 0], .agg #[.int .i64 0, .int .i64 0, .int .i64 0, .int .i64 0, .int .i64 0], .agg #[.int .i64 0, .int .i64 0, .int .i64 0, .int .i64 0, .int .i64 0], .agg #[.int .i64 0, .int .i64 0, .int .i64 0]], []⟩).memory :=
  laidMet_of_run' 8 (by kernel_rfl) (by kernel_rfl)
theorem reads (os : Os) {H : Type} (enc : TypeId × Value → H) : ∃ places, DataW.whole enc Tryd.prog ((laidWorld os).forCall (fun _ _ => 0) ⟨#[], #[.agg #[.int .i64 0, .int .i64 0, .int .i64 0, .int .i64 0, .int .i64 0], .agg #[.int .i64 0, .int .i64 0, .int .i64 0, .int .i64 0, .int .i64 0], .agg #[.int .i64 0, .int .i64 0, .int .i64 0, .int .i64 0, .int .i64 0], .agg #[.int .i64 0, .int .i64 0, .int .i64 0]], []⟩).memory Tryd.f5.params.toList Rows.placeMeetsSpec.vars false (#[.agg #[.int .i64 0, .int .i64 0, .int .i64 0, .int .i64 0, .int .i64 0], .agg #[.int .i64 0, .int .i64 0, .int .i64 0, .int .i64 0, .int .i64 0], .agg #[.int .i64 0, .int .i64 0, .int .i64 0, .int .i64 0, .int .i64 0], .agg #[.int .i64 0, .int .i64 0, .int .i64 0]] : Array Value).toList 8 = some ([.agg [.lit (.int .i64 0), .lit (.int .i64 0), .lit (.int .i64 0), .lit (.int .i64 0), .lit (.int .i64 0)], .agg [.lit (.int .i64 0), .lit (.int .i64 0), .lit (.int .i64 0), .lit (.int .i64 0), .lit (.int .i64 0)], .agg [.lit (.int .i64 0), .lit (.int .i64 0), .lit (.int .i64 0), .lit (.int .i64 0), .lit (.int .i64 0)], .agg [.lit (.int .i64 0), .lit (.int .i64 0), .lit (.int .i64 0)]], [], places) :=
  ⟨[], by kernel_rfl⟩

set_option maxRecDepth 100000 in
theorem lifted (os : Os) (started : os.Started) (H : Type) (enc : TypeId × Value → H) (F : Stop.Interp) :
    ReturnsInHanded {} Tryd.checked os 5 .any ((OpenSpec.ofChange Rows.placeMeetsSpec).preRow enc Tryd.prog Tryd.f5 Rows.placeMeetsRow.domain false Rows.placeMeetsRow.laid) (((OpenSpec.ofChange Rows.placeMeetsSpec).at F).post enc Tryd.prog Tryd.f5 false true false false) := by
  obtain ⟨places, hx⟩ := reads os enc
  refine returnsInHanded_of_row (C := Tryd.checked) (s := OpenSpec.ofChange Rows.placeMeetsSpec) own started (by kernel_rfl) Tryd.func5
    (witness_row_at (enc := enc) (C := Tryd.checked) false (laidWorld os) #[.agg #[.int .i64 0, .int .i64 0, .int .i64 0, .int .i64 0, .int .i64 0], .agg #[.int .i64 0, .int .i64 0, .int .i64 0, .int .i64 0, .int .i64 0], .agg #[.int .i64 0, .int .i64 0, .int .i64 0, .int .i64 0, .int .i64 0], .agg #[.int .i64 0, .int .i64 0, .int .i64 0]] rfl (by kernel_rfl) (by kernel_rfl) (by kernel_rfl)
      (OpenSpec.preRow_of_cond 8 hx (by kernel_rfl) (fun k hk => by cases hk) (by kernel_rfl) (laid_met os))) ?_
  intro W base args ds gs before hval hW _ _ _ _ _ _
  exact contract H enc W base args ds gs before hval hW

theorem said : Rows.PlaceMeetsSaid :=
  OpenClaim.holds_of_cond 5 Tryd.f5 rfl rfl rfl rfl rfl rfl rfl ⟨rfl, rfl, rfl, rfl, rfl⟩ rfl rfl rfl rfl rfl (by kernel_rfl) Tryd.func5 (by kernel_rfl)
    (of_decide_eq_true (by kernel_rfl)) (by unfold Func.isWrapper; first | (rw [if_pos (by decide +kernel)]; kernel_rfl) | (rw [if_neg (by decide +kernel)]; exact ⟨rfl, rfl⟩))
    (fun os started H enc _ F => by rw [OpenClaim.pre_eq_preRow]; exact lifted os started H enc F)

theorem plain (f : FuncId) (fn : Func) (hf : Tryd.pinned.checked.prog.funcNamed "whittle/whittlelaw3.PlaceMeets" = some f) (hfn : Tryd.pinned.checked.prog.funcs[f]? = some fn) :
    false = Tryd.pinned.checked.prog.looks [] ∧ ∀ (j : Nat) t, fn.params[j]? = some t → Tryd.pinned.checked.prog.wantsStandIn t = false := by
  obtain rfl : f = 5 := Option.some.inj ((show Tryd.prog.funcNamed "whittle/whittlelaw3.PlaceMeets" = some 5 by kernel_rfl).symm.trans hf) |>.symm
  obtain rfl : fn = Tryd.f5 := (Option.some.inj (Tryd.func5.symm.trans hfn)).symm
  refine ⟨by kernel_rfl, fun j t ht => ?_⟩
  rw [Tryd.params5] at ht
  have hm : t = 25 ∨ t = 25 ∨ t = 25 ∨ t = 23 := by simpa using Array.mem_of_getElem? ht
  rcases hm with rfl | rfl | rfl | rfl
  · exact (show Tryd.prog.wantsStandIn 25 = false by kernel_rfl)
  · exact (show Tryd.prog.wantsStandIn 25 = false by kernel_rfl)
  · exact (show Tryd.prog.wantsStandIn 25 = false by kernel_rfl)
  · exact (show Tryd.prog.wantsStandIn 23 = false by kernel_rfl)

theorem card : Rows.PlaceMeetsCardSaid :=
  Claim7.holds_tied_plain_at .later [] _ _ _ _ said (fun _ h => by cases h) (by kernel_rfl) (fun _ h => by cases h) placeMeets_row_tie rfl ⟨rfl, rfl⟩ (by kernel_rfl) rfl plain (by kernel_rfl)
#print axioms card
end Go.Proofs.YtdjhegmkmopnfabDoor.placeMeets
