/- For every input NumSums answers true, and its arguments read afterwards as they read before; no condition but those of the row (the listed package variables read as the program's text lays them, which the card ties to the text). -/
import Derived.Test.YtfilmomndhlmbaaDoorCards
import Derived.Test.YtfilmomndhlmbaaDoorTie
import Derived.Test.YtfilmomndhlmbaaDoorLawSums
import Derived.WalkKit
import Derived.ProofKit
import Derived.OpenShut
import Derived.Deep.DeepHandedRow
import Derived.Lib.LaidTab
import Derived.Lib.SmallJoins
import Derived.Deep.SlicePairs
import Derived.SizedLaws
namespace Go.Proofs.YtfilmomndhlmbaaDoor.numSums
open Go.ChangeShapes Go.WideShapes Go.ChangeAt Go.RowKit Go.Joins Go.Deep

theorem own : ownKnob Tryd.prog.godebug = none := by kernel_rfl

theorem cellsN : Tryd.prog.cellsOf 23 = 2 := by kernel_rfl
theorem cells3 : Tryd.prog.cellsOf 3 = 1 := by kernel_rfl
theorem bytesN : Tryd.prog.bytesOf 23 = 16 := by kernel_rfl
def numOfV : Value → Int
  | .int _ n => n
  | _ => 0

/-- What the walk gives, for every argument and every world. -/
theorem contract (H : Type) (enc : TypeId × Value → H) (W : World) (base : Nat) (args : Array Value) (ds gs : List (DataW H)) (before : List MemPlace)
    (hval : ∀ (j : Nat) t v, Tryd.f5.params[j]? = some t → args[j]? = some v → Value.okWide Tryd.prog W .any base t v)
    (hW : DataW.Whole enc Tryd.prog Tryd.f5.params.toList Rows.numSumsSpec.vars false W args.toList ds gs before)
    (hsz0 : (DataW.weightsEach Tryd.prog (Tryd.f5.params.toList ++ (OpenSpec.ofChange Rows.numSumsSpec).bare.plain.varTypes Tryd.prog) (ds ++ gs)).all (· ≤ reachBytes) = true) :
    Calls Tryd.prog 5 args W fun e W' => ∃ v, e = .returned v ∧ Rows.numSumsSpec.post enc Tryd.prog Tryd.f5 false true false false W args v W' := by
  have hW' := hW
  obtain ⟨p, q, hA0, hV, rfl, hfz, hnd⟩ := hW
  have hA : DataW.TrodAll enc Tryd.prog W 0 (fun _ => true) true Tryd.f5.params.toList args.toList ds p := hA0
  have hsz := hsz0
  rw [Tryd.params5] at hA hval hsz
  obtain ⟨v0, vs0, d0, ds0, p0, q0, hargs, rfl, rfl, h0, r0⟩ := trodAll_cons hA
  obtain ⟨rfl, rfl, rfl⟩ := trodAll_nil r0
  obtain rfl : args = #[v0] := by cases args; simp_all
  obtain ⟨rfl, rfl⟩ := trodVars_none hV
  obtain ⟨a0, len, cap, rfl⟩ := okWide_slice Tryd.underlying31 (hval 0 31 v0 rfl rfl)
  obtain ⟨fuel, hf⟩ := h0
  clear hA0
  simp only [List.append_nil] at hW'
  rcases open_slice_pairs Tryd.underlying31 Tryd.underlying23 cellsN rfl rfl cells3 cells3 hf with ⟨hcs, hx⟩ | ⟨a, len', cap', m, n, V0, V1, D0, D1, P0, P1, hcs, hbb, hl, hm, hmm, hx, hall⟩
  · simp [Value.cells] at hcs
    obtain ⟨rfl, rfl, rfl⟩ := hcs
    simp only [Prod.mk.injEq] at hx
    obtain ⟨rfl, rfl⟩ := hx
    refine (sums_n 0 0 0 0 (fun _ => 0) (fun _ => 0) (rfl : 0 = 0) (rfl : Wnum.els (fun _ => 0) (fun _ => 0) 0 = _) W (by omega) (fun h => absurd h (Nat.lt_irrefl _)) (fun i h => absurd h (Nat.not_lt_zero _)) (fun i h => absurd h (Nat.not_lt_zero _)) (fun i h => absurd h (Nat.not_lt_zero _)) (fun i h => absurd h (Nat.not_lt_zero _))).mono fun e W' ⟨he, hb⟩ => ?_
    subst he
    exact ⟨_, rfl, _, _, _, [], _, [], hW', (trodAll_cons_mk (shut_bool Tryd.underlying4 _) trodAll_mk0), (trodAll_cons_mk (shut_slice_nil Tryd.underlying31) trodAll_mk0), rfl, hb.frame _, fun h => by cases h⟩
  · simp [Value.cells] at hcs
    obtain ⟨rfl, rfl, rfl⟩ := hcs
    simp only [if_true] at hmm
    subst hmm
    simp only [Prod.mk.injEq] at hx
    obtain ⟨rfl, rfl⟩ := hx
    have hint0 : ∀ i, i < m → V0 i = .int .i64 (numOfV (V0 i)) ∧ D0 i = .lit (.int .i64 (numOfV (V0 i))) ∧ P0 i = [] ∧ (Lit.int .i64 (numOfV (V0 i))).wf = true := fun i hi => by
      obtain ⟨k, h1, h2, h3⟩ := DataW.trod_int Tryd.underlying3 (hall i hi).2.2.1
      simp only [List.cons.injEq, and_true] at h1
      simp only [Prod.mk.injEq] at h2
      rw [h1]
      exact ⟨rfl, h2.1, h2.2, h3⟩
    have hint1 : ∀ i, i < m → V1 i = .int .i64 (numOfV (V1 i)) ∧ D1 i = .lit (.int .i64 (numOfV (V1 i))) ∧ P1 i = [] ∧ (Lit.int .i64 (numOfV (V1 i))).wf = true := fun i hi => by
      obtain ⟨k, h1, h2, h3⟩ := DataW.trod_int Tryd.underlying3 (hall i hi).2.2.2
      simp only [List.cons.injEq, and_true] at h1
      simp only [Prod.mk.injEq] at h2
      rw [h1]
      exact ⟨rfl, h2.1, h2.2, h3⟩
    have room : m ≤ 8796093021952 := by
      have := sized_slice hsz (j := 0) (t := 31) (e := 23) rfl rfl Tryd.underlying31
      rw [bytesN] at this
      simp only [List.length_map, List.length_range, reachBytes] at this
      omega
    have again : ∀ (W' : World), Below W.heap.size W W' → ∃ pa, DataW.TrodAll enc Tryd.prog W' 0 (fun b => decide (b < W.heap.size)) true [31] [.slice (some a) len m] [.slice ((List.range len).map fun i => .agg [D0 i, D1 i]) ((List.range (m - len)).map fun j => .agg [D0 (len + j), D1 (len + j)])] pa := by
      intro W' hb
      by_cases hz : m = 0
      · subst hz
        obtain rfl : len = 0 := by omega
        cases hd : decide (a.block < W.heap.size) with
        | true => exact ⟨_, trodAll_cons_mk (shut_slice_whole_cells (D := fun i => .agg [D0 i, D1 i]) (Pl := fun i => P0 i ++ P1 i) Tryd.underlying31 (Nat.zero_le _) (Nat.le_refl _) hm hd (fun i hi => absurd hi (Nat.not_lt_zero _))) trodAll_mk0⟩
        | false => exact ⟨_, trodAll_cons_mk (shut_slice_cells (D := fun i => .agg [D0 i, D1 i]) (Pl := fun i => P0 i ++ P1 i) Tryd.underlying31 (Nat.zero_le _) (Nat.le_refl _) hm hd (fun i hi => absurd hi (Nat.not_lt_zero _))) trodAll_mk0⟩
      · have c00 := (hall 0 (by omega)).1
        have sp : a.spot = none := World.cell?_spot c00
        have hlt : a.block < W.heap.size := World.block_lt_of_cell? W a c00
        obtain ⟨b, off, spot⟩ := a
        have sp' : spot = none := sp
        subst sp'
        have ad : ∀ k, (⟨b, off, none⟩ : Addr).add k = ⟨b, off + k, none⟩ := fun k => by
          unfold Addr.add
          by_cases h0 : k = 0
          · rw [if_pos h0, h0]; rfl
          · rw [if_neg h0]
        exact ⟨_, trodAll_cons_mk (shut_slice_pairs_whole Tryd.underlying31 Tryd.underlying23 cellsN rfl rfl cells3 cells3 (Nat.zero_le _) hl hm (decide_eq_true hlt) V0 V1 D0 D1 P0 P1
          (fun i hi => by have := (hall i hi).1; rw [ad] at this; exact (hb.cell (p := ⟨b, off + i * 2, none⟩) hlt).trans this)
          (fun i hi => by have := (hall i hi).2.1; rw [ad] at this; exact (hb.cell (p := ⟨b, off + i * 2 + 1, none⟩) hlt).trans this)
          (fun i hi => by rw [(hint0 i hi).1, (hint0 i hi).2.1, (hint0 i hi).2.2.1]; exact ⟨1, by simp [DataW.trod, Tryd.underlying3, (hint0 i hi).2.2.2]⟩)
          (fun i hi => by rw [(hint1 i hi).1, (hint1 i hi).2.1, (hint1 i hi).2.2.1]; exact ⟨1, by simp [DataW.trod, Tryd.underlying3, (hint1 i hi).2.2.2]⟩)) trodAll_mk0⟩
    have fin : ∀ (W' : World), Below W.heap.size W W' → ∃ v, Ending.returned (Value.bool true) = .returned v ∧ Rows.numSumsSpec.post enc Tryd.prog Tryd.f5 false true false false W #[.slice (some a) len m] v W' := by
      intro W' hb
      obtain ⟨pa, ha⟩ := again W' hb
      exact ⟨_, rfl, _, _, _, [], pa, [], hW', (trodAll_cons_mk (shut_bool Tryd.underlying4 _) trodAll_mk0), ha, rfl, hb.frame _, fun h => by cases h⟩
    by_cases hz : len = 0
    · refine (sums_e 0 0 len m (fun _ => 0) (fun _ => 0) a hz W (by omega) (fun h => absurd hz (by omega)) (fun i h => absurd hz (by omega)) (fun i h => absurd hz (by omega)) (fun i h => absurd hz (by omega)) (fun i h => absurd hz (by omega))).mono fun e W' ⟨he, hb⟩ => ?_
      subst he
      exact fin W' hb
    · have c00 := (hall 0 (by omega)).1
      have sp : a.spot = none := World.cell?_spot c00
      have hlt : a.block < W.heap.size := World.block_lt_of_cell? W a c00
      obtain ⟨b, off, spot⟩ := a
      have sp' : spot = none := sp
      subst sp'
      have ad : ∀ k, (⟨b, off, none⟩ : Addr).add k = ⟨b, off + k, none⟩ := fun k => by
        unfold Addr.add
        by_cases h0 : k = 0
        · rw [if_pos h0, h0]; rfl
        · rw [if_neg h0]
      refine (sums_p b off len m (fun i => numOfV (V0 i)) (fun i => numOfV (V1 i)) W (by omega) (fun _ => hlt)
        (fun i hi => by have := (hall i (by omega)).1; rw [ad, (hint0 i (by omega)).1] at this; exact this)
        (fun i hi => by have := (hall i (by omega)).2.1; rw [ad, (hint1 i (by omega)).1] at this; exact this)
        (fun i hi => bounds_i64 (hint0 i (by omega)).2.2.2) (fun i hi => bounds_i64 (hint1 i (by omega)).2.2.2)).mono fun e W' ⟨he, hb⟩ => ?_
      subst he
      exact fin W' hb

/-- A world for the witness: the settled one, the listed variables as their initialisers lay them. -/
noncomputable def laidWorld (os : Os) : World :=
  { World.holding Tryd.prog os ⟨#[], #[], []⟩ with heap := ((((World.holding Tryd.prog os ⟨#[], #[], []⟩).heap.modify 0 fun
      | .cells _ t frozen => .cells #[.int .u64 1, .int .u64 10, .int .u64 100, .int .u64 1000, .int .u64 10000, .int .u64 100000, .int .u64 1000000, .int .u64 10000000, .int .u64 100000000, .int .u64 1000000000, .int .u64 10000000000, .int .u64 100000000000, .int .u64 1000000000000, .int .u64 10000000000000, .int .u64 100000000000000, .int .u64 1000000000000000, .int .u64 10000000000000000, .int .u64 100000000000000000, .int .u64 1000000000000000000, .int .u64 10000000000000000000] t frozen
      | o => o).modify 1 fun
      | .cells _ t frozen => .cells #[.int .u8 0, .int .u8 1, .int .u8 28, .int .u8 2, .int .u8 29, .int .u8 14, .int .u8 24, .int .u8 3, .int .u8 30, .int .u8 22, .int .u8 20, .int .u8 15, .int .u8 25, .int .u8 17, .int .u8 4, .int .u8 8, .int .u8 31, .int .u8 27, .int .u8 13, .int .u8 23, .int .u8 21, .int .u8 19, .int .u8 16, .int .u8 7, .int .u8 26, .int .u8 12, .int .u8 18, .int .u8 6, .int .u8 11, .int .u8 5, .int .u8 10, .int .u8 9] t frozen
      | o => o).modify 2 fun
      | .cells _ t frozen => .cells #[.int .u8 0, .int .u8 1, .int .u8 56, .int .u8 2, .int .u8 57, .int .u8 49, .int .u8 28, .int .u8 3, .int .u8 61, .int .u8 58, .int .u8 42, .int .u8 50, .int .u8 38, .int .u8 29, .int .u8 17, .int .u8 4, .int .u8 62, .int .u8 47, .int .u8 59, .int .u8 36, .int .u8 45, .int .u8 43, .int .u8 51, .int .u8 22, .int .u8 53, .int .u8 39, .int .u8 33, .int .u8 30, .int .u8 24, .int .u8 18, .int .u8 12, .int .u8 5, .int .u8 63, .int .u8 55, .int .u8 48, .int .u8 27, .int .u8 60, .int .u8 41, .int .u8 37, .int .u8 16, .int .u8 46, .int .u8 35, .int .u8 44, .int .u8 21, .int .u8 52, .int .u8 32, .int .u8 23, .int .u8 11, .int .u8 54, .int .u8 26, .int .u8 40, .int .u8 15, .int .u8 34, .int .u8 20, .int .u8 31, .int .u8 10, .int .u8 25, .int .u8 14, .int .u8 19, .int .u8 9, .int .u8 13, .int .u8 8, .int .u8 7, .int .u8 6] t frozen
      | o => o) }
theorem laid_met (os : Os) : laidMet Tryd.prog Rows.numSumsRow.laid ((laidWorld os).forCall (fun _ _ => 0) ⟨#[], #[.slice none 0 0], []⟩).memory :=
  laidMet_of_run' 8 (by kernel_rfl) (by kernel_rfl)
theorem reads (os : Os) {H : Type} (enc : TypeId × Value → H) : ∃ places, DataW.whole enc Tryd.prog ((laidWorld os).forCall (fun _ _ => 0) ⟨#[], #[.slice none 0 0], []⟩).memory Tryd.f5.params.toList Rows.numSumsSpec.vars false (#[.slice none 0 0] : Array Value).toList 8 = some ([.nil], [], places) :=
  ⟨[], by kernel_rfl⟩

set_option maxRecDepth 100000 in
theorem lifted (os : Os) (started : os.Started) (H : Type) (enc : TypeId × Value → H) (F : Stop.Interp) :
    ReturnsInHanded {} Tryd.checked os 5 .any ((OpenSpec.ofChange Rows.numSumsSpec).preRow enc Tryd.prog Tryd.f5 Rows.numSumsRow.domain false Rows.numSumsRow.laid) (((OpenSpec.ofChange Rows.numSumsSpec).at F).post enc Tryd.prog Tryd.f5 false true false false) := by
  obtain ⟨places, hx⟩ := reads os enc
  refine returnsInHanded_of_row (C := Tryd.checked) (s := OpenSpec.ofChange Rows.numSumsSpec) own started (by kernel_rfl) Tryd.func5
    (witness_row_at (enc := enc) (C := Tryd.checked) false (laidWorld os) #[.slice none 0 0] rfl (by kernel_rfl) (by kernel_rfl) (by kernel_rfl)
      (OpenSpec.preRow_of_cond 8 hx (by kernel_rfl) (fun k hk => by cases hk) (by kernel_rfl) (laid_met os))) ?_
  intro W base args ds gs before hval hW _ _ hsz _ _ _
  exact contract H enc W base args ds gs before hval hW hsz

theorem said : Rows.NumSumsSaid :=
  OpenClaim.holds_of_cond 5 Tryd.f5 rfl rfl rfl rfl rfl rfl rfl ⟨rfl, rfl, rfl, rfl, rfl⟩ rfl rfl rfl rfl rfl (by kernel_rfl) Tryd.func5 (by kernel_rfl)
    (of_decide_eq_true (by kernel_rfl)) (by unfold Func.isWrapper; first | (rw [if_pos (by decide +kernel)]; kernel_rfl) | (rw [if_neg (by decide +kernel)]; exact ⟨rfl, rfl⟩))
    (fun os started H enc _ F => by rw [OpenClaim.pre_eq_preRow]; exact lifted os started H enc F)

theorem plain (f : FuncId) (fn : Func) (hf : Tryd.pinned.checked.prog.funcNamed "whittle/whittlelaw1.NumSums" = some f) (hfn : Tryd.pinned.checked.prog.funcs[f]? = some fn) :
    false = Tryd.pinned.checked.prog.looks [] ∧ ∀ (j : Nat) t, fn.params[j]? = some t → Tryd.pinned.checked.prog.wantsStandIn t = false := by
  obtain rfl : f = 5 := Option.some.inj ((show Tryd.prog.funcNamed "whittle/whittlelaw1.NumSums" = some 5 by kernel_rfl).symm.trans hf) |>.symm
  obtain rfl : fn = Tryd.f5 := (Option.some.inj (Tryd.func5.symm.trans hfn)).symm
  refine ⟨by kernel_rfl, fun j t ht => ?_⟩
  rw [Tryd.params5] at ht
  obtain rfl : t = 31 := by simpa using Array.mem_of_getElem? ht
  exact (show Tryd.prog.wantsStandIn 31 = false by kernel_rfl)

theorem card : Rows.NumSumsCardSaid :=
  Claim7.holds_tied_plain_at .later [] _ _ _ _ said (fun _ h => by cases h) (by kernel_rfl) (fun _ h => by cases h) numSums_row_tie rfl ⟨rfl, rfl⟩ (by kernel_rfl) rfl plain (by kernel_rfl)
#print axioms card
end Go.Proofs.YtfilmomndhlmbaaDoor.numSums
