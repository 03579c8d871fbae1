/- TLawPrints, TLaid, TNArg. -/
import Derived.Test.YtlggnpohhahdlaaGreatDoorQ42
import Derived.Lib.LaidTab
import Derived.Deep.Strs
import Derived.Stop.LaidErr
import Derived.Deep.Slices
import Derived.Lib.SmallJoins
import Derived.SizedLaws
import Derived.Carry
import Derived.WalkKit
import Derived.ProofKit
namespace Go.Proofs.YtlggnpohhahdlaaGreatDoor
open Go.RowKit Go.Shelf
set_option linter.unusedVariables false
set_option maxRecDepth 100000 in
set_option maxHeartbeats 1600000 in
theorem tprints_main (L : List Wt.Nd) (av : Option Addr) (cap : Nat) (w : World) (hE : Env w) (hk8 : 8 ≤ w.heap.size) (hr : RdN w av L) (hf : ∀ x ∈ L, Wt.FitN x) (hno : av = none → L.length = 0 ∧ cap = 0) (hl : True → L.length ≤ 799644820177) :
    Calls Tryz.prog 4 #[.slice av L.length cap] w fun e w' => e = .returned (.bool true) ∧ Below w.heap.size w w' := by
  have A := fun w hE hk => table_any w hE hk
  have LE := lent_any L av cap w hr hno hl
  have HE : Hid (Env w) := hE
  have HR : Hid (RdN w av L) := hr
  have hL : True → L.length ≤ 9223372036854775807 := fun _ => by have := hl trivial; omega
  have K1 := fun av cap w hE hr hcap hk8 => print_any av cap L w (hL trivial) hf hE hr hcap hk8
  have K2 := fun w hr => rprint_any av cap L w (hL trivial) hf hr
  have C1 := fun av cap w hO hr => check_any av cap L w (hL trivial) hf hO hr
  have C2 := fun w hr => rcheck_any av cap L w (hL trivial) hf hr
  generalize (⟨(prnt L).toArray⟩ : ByteArray) = tx at *
  generalize Wt.check L = ck at *
  clear hr hE hno
  go_enter Tryz.func4, Tryz.ntmps4
  go_wp2_with fail
  refine LE.mono ?_
  rintro e w1 ⟨v1, rfl, hle, hb1⟩
  obtain ⟨av1, cap1, rfl, hcap1, hr1⟩ := hle.rd
  have HL1 : Hid (Lent w1 w.heap.size (.slice av1 L.length cap1) L) := hle
  have Q1 := K1 av1 cap1 w1 (HE.out.below hb1) hr1 hcap1 (Nat.le_trans hk8 hb1.size)
  have HR1 : Hid (RdN w1 av1 L) := hr1
  clear LE hle K1 hr1 hcap1
  go_wp2_with fail
  refine Q1.mono ?_
  rintro e w2 ⟨rfl, hb2⟩
  have hB2 := below_end hb1 hb2
  have HL2 : Hid (Lent w2 w.heap.size (.slice av1 L.length cap1) L) := HL1.out.below hb2
  have HR2 : Hid (RdN w2 av1 L) := HR1.out.below hb2
  have Q2 := K2 w2 (HR.out.below hB2)
  clear Q1 HL1 HR1 K2
  go_wp2_with fail
  refine Q2.mono ?_
  rintro e w3 ⟨rfl, hb3⟩
  have hB3 := below_end hB2 hb3
  have HL3 : Hid (Lent w3 w.heap.size (.slice av1 L.length cap1) L) := HL2.out.below hb3
  have HR3 : Hid (RdN w3 av1 L) := HR2.out.below hb3
  have A2 := A w3 (HE.out.below hB3) (Nat.le_trans hk8 hB3.size)
  clear Q2 HL2 HR2 A
  go_wp2_with fail
  refine A2.mono ?_
  rintro e w4 ⟨rfl, hb4⟩
  have hB4 := below_end hB3 hb4
  have HL4 : Hid (Lent w4 w.heap.size (.slice av1 L.length cap1) L) := HL3.out.below hb4
  have Q4 := C1 av1 cap1 w4 (HE.out.below hB4).1 (HR3.out.below hb4)
  clear A2 HL3 HR3 C1
  go_wp2_with fail
  refine Q4.mono ?_
  rintro e w5 ⟨rfl, hb5⟩
  have hB5 := below_end hB4 hb5
  have HL5 : Hid (Lent w5 w.heap.size (.slice av1 L.length cap1) L) := HL4.out.below hb5
  have Q5 := C2 w5 (HR.out.below hB5)
  clear Q4 HL4 C2
  go_wp2_with fail
  refine Q5.mono ?_
  rintro e w6 ⟨rfl, hb6⟩
  have hB6 := below_end hB5 hb6
  have W5 := whole_any L _ _ av cap w6 (HR.out.below hB6) (HL5.out.below hb6) hl
  clear Q5 HL5
  go_wp2_with fail
  refine W5.mono ?_
  rintro e w7 ⟨rfl, hb7⟩
  have hB7 := below_end hB6 hb7
  go_wp2
  go_ret
  exact ⟨rfl, hB7⟩
open Go.RowKit
theorem array_each {H : Type} {enc : TypeId × Value → H} {P : Program} {w : World} {base : Nat} {sp : Nat → Bool} {held : Bool} {fuel : Nat} {t e : TypeId} {n c : Nat} {cs : List Value} {ds : List (DataW H)} {p : List MemPlace}
    (ht : P.underlying t = some (.array n e)) (hce : P.cellsOf e = c) (hct : P.cellsOf t = n * c)
    (h : DataW.trod enc P w base sp held fuel t cs = some (.agg ds, p)) : cs.length = n * c ∧ ds.length = n ∧ ∀ i d, ds[i]? = some d → ∃ fuel' p', DataW.trod enc P w base sp held fuel' e ((cs.drop (i * c)).take c) = some (d, p') := by
  cases fuel with
  | zero => simp [DataW.trod] at h
  | succ fuel =>
    simp only [DataW.trod, ht, hce, hct] at h
    split at h
    · rename_i hl
      obtain ⟨xs, hm, hx⟩ := Option.map_eq_some_iff.1 h
      have hxs : xs.map (·.1) = ds := by
        have := congrArg Prod.fst hx
        simpa using this
      have hxl : xs.length = n := by simpa using Lib.mapM_length hm
      refine ⟨by simpa using hl, by rw [← hxs]; simpa using hxl, fun i d hd => ?_⟩
      have hi : i < n := by
        have := (List.getElem?_eq_some_iff.1 hd).1
        rw [← hxs, List.length_map] at this; omega
      obtain ⟨b, hb, hf⟩ := Lib.mapM_at hm i i (by simp [hi])
      have : (xs.map (·.1))[i]? = some b.1 := by simp [hb]
      rw [hxs, hd] at this
      obtain rfl := Option.some.inj this
      exact ⟨fuel, b.2, hf⟩
    · cases h
theorem ba_of {s : ByteArray} {l : List UInt8} (h : s.data.toList = l) : s = ⟨l.toArray⟩ := by
  apply ByteArray.ext
  apply Array.ext'
  rw [h]
theorem flt_of {W : World} {rest : List (String × DataW Unit)} (h : laidMet Tryz.prog (("whittle/value.faultNames", .agg (fNames.map fun x => .lit (.string x))) :: rest) W) : FltAt W := by
  obtain ⟨ps, ⟨g', t', cs, fuel, p, q, hg', ht', hvar, hd, _, _⟩, _⟩ := h
  have hg : Tryz.prog.globalNamed "whittle/value.faultNames" = some 1 := by kernel_rfl
  have hty : (Tryz.prog.globals[1]?).map (·.type) = some 168 := by kernel_rfl
  obtain rfl := Option.some.inj (hg.symm.trans hg')
  obtain rfl := Option.some.inj (hty.symm.trans ht')
  obtain ⟨h1, h2, h3⟩ := array_each (n := 9) (c := 1) (e := 9) Tryz.underlying168 (by kernel_rfl) (by kernel_rfl) hd
  intro j v hv
  unfold fltR at hv
  rw [List.getElem?_map] at hv
  obtain ⟨x, hx, rfl⟩ := Option.map_eq_some_iff.1 hv
  obtain ⟨fu, p', ht⟩ := h3 j (.lit (.string x)) (by rw [List.getElem?_map, hx]; rfl)
  obtain ⟨s, e1, e2, _⟩ := DataW.trod_string Tryz.underlying9 ht
  simp only [Prod.mk.injEq, DataW.lit.injEq, Lit.string.injEq] at e2
  rw [Nat.zero_add, World.var?_cell hg hvar j]
  have : cs.toList[j]? = some (.string s) := by
    have := congrArg (·[0]?) e1
    simpa [List.getElem?_take, List.getElem?_drop] using this
  rw [Array.getElem?_toList] at this
  rw [this, ba_of e2.1.symm]
theorem flat3 {α β : Type} (f : α → List β) (hf : ∀ x, (f x).length = 3) : ∀ (l : List α) (i : Nat) (hi : i < l.length) (r : Nat), r < 3 → (l.flatMap f)[i * 3 + r]? = (f l[i])[r]?
  | [], i, hi, r, hr => absurd hi (Nat.not_lt_zero _)
  | x :: l, 0, hi, r, hr => by
    rw [List.flatMap_cons, List.getElem?_append_left (by rw [hf]; omega)]; simp
  | x :: l, i + 1, hi, r, hr => by
    rw [List.flatMap_cons, List.getElem?_append_right (by rw [hf]; omega), hf, show (i + 1) * 3 + r - 3 = i * 3 + r by omega]
    rw [flat3 f hf l i (by simpa using hi) r hr]; simp
theorem ops_of {W : World} {rest : List (String × DataW Unit)} (h : laidMet Tryz.prog (("whittle/tree.operators", .agg (Wt.opsT.map fun x => .agg [.lit (.int .i64 x.1), .lit (.string x.2.1), .lit (.int .i64 x.2.2)])) :: rest) W) : OpsAt W := by
  obtain ⟨ps, ⟨g', t', cs, fuel, p, q, hg', ht', hvar, hd, _, _⟩, _⟩ := h
  have hg : Tryz.prog.globalNamed "whittle/tree.operators" = some 0 := by kernel_rfl
  have hty : (Tryz.prog.globals[0]?).map (·.type) = some 137 := by kernel_rfl
  obtain rfl := Option.some.inj (hg.symm.trans hg')
  obtain rfl := Option.some.inj (hty.symm.trans ht')
  obtain ⟨h1, h2, h3⟩ := array_each (n := 15) (c := 3) (e := 118) Tryz.underlying137 (by kernel_rfl) (by kernel_rfl) hd
  have c3 : Tryz.prog.cellsOf 3 = 1 := by kernel_rfl
  have c9 : Tryz.prog.cellsOf 9 = 1 := by kernel_rfl
  have key : ∀ i x, Wt.opsT[i]? = some x → cs.toList[i * 3]? = some (.int .i64 x.1) ∧ cs.toList[i * 3 + 1]? = some (.string ⟨x.2.1.toArray⟩) ∧ cs.toList[i * 3 + 2]? = some (.int .i64 x.2.2) := by
    intro i x hx
    obtain ⟨fu, p', ht⟩ := h3 i _ (by rw [List.getElem?_map, hx]; rfl)
    obtain ⟨y0, y1, y2, n, e, -, t0, t1, t2⟩ := Deep.trod_struct3 Tryz.underlying118 ht
    simp only [Prod.mk.injEq, DataW.agg.injEq, List.cons.injEq, and_true] at e
    obtain ⟨z0, f0, g0, _⟩ := DataW.trod_int Tryz.underlying3 t0
    obtain ⟨z1, f1, g1, _⟩ := DataW.trod_string Tryz.underlying9 t1
    obtain ⟨z2, f2, g2, _⟩ := DataW.trod_int Tryz.underlying3 t2
    subst g0 g1 g2
    simp only [DataW.lit.injEq, Lit.int.injEq, Lit.string.injEq, true_and] at e
    obtain ⟨⟨rfl, e1, rfl⟩, -⟩ := e
    simp only [c3] at f0 f2
    simp only [c9] at f1
    have q0 := congrArg (·[0]?) f0
    have q1 := congrArg (·[0]?) f1
    have q2 := congrArg (·[0]?) f2
    simp [List.getElem?_drop] at q0 q1 q2
    refine ⟨?_, ?_, ?_⟩
    · rw [Array.getElem?_toList]; exact q0
    · rw [Array.getElem?_toList, q1, ba_of e1.symm]
    · rw [Array.getElem?_toList]; exact q2
  intro j v hv
  rw [Nat.zero_add, World.var?_cell hg hvar j]
  have hj : j < 45 := by
    have := (List.getElem?_eq_some_iff.1 hv).1
    have e : opsR.length = 45 := rfl
    omega
  have hi : j / 3 < Wt.opsT.length := by show j / 3 < 15; omega
  obtain ⟨k0, k1, k2⟩ := key (j / 3) _ (List.getElem?_eq_getElem hi)
  have hf := flat3 (fun x : Int × List UInt8 × Int => ([.int .i64 x.1, .string ⟨x.2.1.toArray⟩, .int .i64 x.2.2] : List Value)) (fun _ => rfl) Wt.opsT (j / 3) hi
  have hm : j % 3 = 0 ∨ j % 3 = 1 ∨ j % 3 = 2 := by omega
  rcases hm with hm | hm | hm
  · have e : j = j / 3 * 3 + 0 := by omega
    have := hf 0 (by decide)
    rw [← e] at this
    rw [show opsR[j]? = _ from this] at hv
    rw [show j = j / 3 * 3 by omega, ← Array.getElem?_toList, k0]; exact hv
  · have e : j = j / 3 * 3 + 1 := by omega
    have := hf 1 (by decide)
    rw [← e] at this
    rw [show opsR[j]? = _ from this] at hv
    rw [e, ← Array.getElem?_toList, k1]; exact hv
  · have e : j = j / 3 * 3 + 2 := by omega
    have := hf 2 (by decide)
    rw [← e] at this
    rw [show opsR[j]? = _ from this] at hv
    rw [e, ← Array.getElem?_toList, k2]; exact hv
open Go.ChangeShapes Go.WideShapes Go.ChangeAt Go.RowKit Go.Joins Go.Deep
theorem cVal : Tryz.prog.cellsOf 41 = 6 := by kernel_rfl
theorem cRef : Tryz.prog.cellsOf 43 = 5 := by kernel_rfl
theorem cNum : Tryz.prog.cellsOf 39 = 2 := by kernel_rfl
theorem cNode : Tryz.prog.cellsOf 45 = 20 := by kernel_rfl
theorem bNode : Tryz.prog.bytesOf 45 = 176 := by kernel_rfl
theorem cInt : Tryz.prog.cellsOf 3 = 1 := by kernel_rfl
theorem cBool : Tryz.prog.cellsOf 4 = 1 := by kernel_rfl
theorem cStr : Tryz.prog.cellsOf 9 = 1 := by kernel_rfl
section
variable {H : Type} {enc : TypeId × Value → H} {w : World} {base : Nat} {spare : Nat → Bool} {held : Bool}
theorem i64_of {n : Int} (h : (Lit.int .i64 n).wf = true) : -9223372036854775808 ≤ n ∧ n ≤ 9223372036854775807 := bounds_i64 h
theorem trod_num {f0 f1 : Field} (he : Tryz.prog.underlying 39 = some (.struct #[f0, f1])) (o0 : f0.offset = 0) (t0 : f0.type = 3) (o1 : f1.offset = 1) (t1 : f1.type = 3) {fuel : Nat} {c0 c1 : Value} {x : DataW H × List MemPlace} (h : DataW.trod enc Tryz.prog w base spare held fuel 39 [c0, c1] = some x) : ∃ n d : Int, c0 = .int .i64 n ∧ c1 = .int .i64 d ∧ (-9223372036854775808 ≤ n ∧ n ≤ 9223372036854775807) ∧ (-9223372036854775808 ≤ d ∧ d ≤ 9223372036854775807) := by
  obtain ⟨xs, q, _, hD, _, hxl, hg⟩ := DataW.trod_struct he h
  have hxl : xs.length = 2 := hxl
  have g0 := hg 0 f0 rfl
  rw [o0, t0, cInt] at g0
  have g1 := hg 1 f1 rfl
  rw [o1, t1, cInt] at g1
  match xs, hxl with
  | [x0, x1], _ =>
    simp only [List.drop_zero, List.take_succ_cons, List.take_zero, List.drop_succ_cons, List.getElem?_cons_zero, List.getElem?_cons_succ] at g0 g1
    obtain ⟨n, e1, _, k1⟩ := DataW.trod_int Tryz.underlying3 g0
    obtain ⟨d, e2, _, k2⟩ := DataW.trod_int Tryz.underlying3 g1
    simp only [List.cons.injEq, and_true] at e1 e2
    exact ⟨n, d, e1, e2, i64_of k1, i64_of k2⟩
theorem trod_vl {f0 f1 f2 f3 f4 : Field} (he : Tryz.prog.underlying 41 = some (.struct #[f0, f1, f2, f3, f4])) (o0 : f0.offset = 0) (t0 : f0.type = 3) (o1 : f1.offset = 1) (t1 : f1.type = 39) (o2 : f2.offset = 3) (t2 : f2.type = 9) (o3 : f3.offset = 4) (t3 : f3.type = 4) (o4 : f4.offset = 5) (t4 : f4.type = 3) {fuel : Nat} {c0 c1 c2 c3 c4 c5 : Value} {x : DataW H × List MemPlace} (h : DataW.trod enc Tryz.prog w base spare held fuel 41 [c0, c1, c2, c3, c4, c5] = some x) : ∃ v : Wt.Vl, [c0, c1, c2, c3, c4, c5] = vl6 v ∧ Wt.FitV v := by
  obtain ⟨xs, q, _, hD, _, hxl, hg⟩ := DataW.trod_struct he h
  have hxl : xs.length = 5 := hxl
  have g0 := hg 0 f0 rfl
  rw [o0, t0, cInt] at g0
  have g1 := hg 1 f1 rfl
  rw [o1, t1, cNum] at g1
  have g2 := hg 2 f2 rfl
  rw [o2, t2, cStr] at g2
  have g3 := hg 3 f3 rfl
  rw [o3, t3, cBool] at g3
  have g4 := hg 4 f4 rfl
  rw [o4, t4, cInt] at g4
  match xs, hxl with
  | [x0, x1, x2, x3, x4], _ =>
    simp only [List.drop_zero, List.take_succ_cons, List.take_zero, List.drop_succ_cons, List.getElem?_cons_zero, List.getElem?_cons_succ] at g0 g1 g2 g3 g4
    obtain ⟨k, e0, _, _⟩ := DataW.trod_int Tryz.underlying3 g0
    obtain ⟨n, d, e1, e2, k1, k2⟩ := trod_num Tryz.underlying39 rfl rfl rfl rfl g1
    obtain ⟨s, e3, _, k3⟩ := DataW.trod_string Tryz.underlying9 g2
    obtain ⟨b, e4, _⟩ := DataW.trod_bool Tryz.underlying4 g3
    obtain ⟨f, e5, _, _⟩ := DataW.trod_int Tryz.underlying3 g4
    simp only [List.cons.injEq, and_true] at e0 e3 e4 e5
    refine ⟨⟨k, n, d, s, b, f⟩, by rw [e0, e1, e2, e3, e4, e5]; rfl, k1, k2, ?_⟩
    unfold maxLen at k3
    show s.size ≤ _
    omega
theorem trod_rf {f0 f1 f2 f3 f4 : Field} (he : Tryz.prog.underlying 43 = some (.struct #[f0, f1, f2, f3, f4])) (o0 : f0.offset = 0) (t0 : f0.type = 9) (o1 : f1.offset = 1) (t1 : f1.type = 3) (o2 : f2.offset = 2) (t2 : f2.type = 3) (o3 : f3.offset = 3) (t3 : f3.type = 4) (o4 : f4.offset = 4) (t4 : f4.type = 4) {fuel : Nat} {c0 c1 c2 c3 c4 : Value} {x : DataW H × List MemPlace} (h : DataW.trod enc Tryz.prog w base spare held fuel 43 [c0, c1, c2, c3, c4] = some x) : ∃ a : Wt.Rf, [c0, c1, c2, c3, c4] = rf5 a ∧ a.s.size ≤ 9223372036854775807 := by
  obtain ⟨xs, q, _, hD, _, hxl, hg⟩ := DataW.trod_struct he h
  have hxl : xs.length = 5 := hxl
  have g0 := hg 0 f0 rfl
  rw [o0, t0, cStr] at g0
  have g1 := hg 1 f1 rfl
  rw [o1, t1, cInt] at g1
  have g2 := hg 2 f2 rfl
  rw [o2, t2, cInt] at g2
  have g3 := hg 3 f3 rfl
  rw [o3, t3, cBool] at g3
  have g4 := hg 4 f4 rfl
  rw [o4, t4, cBool] at g4
  match xs, hxl with
  | [x0, x1, x2, x3, x4], _ =>
    simp only [List.drop_zero, List.take_succ_cons, List.take_zero, List.drop_succ_cons, List.getElem?_cons_zero, List.getElem?_cons_succ] at g0 g1 g2 g3 g4
    obtain ⟨s, e0, _, k3⟩ := DataW.trod_string Tryz.underlying9 g0
    obtain ⟨r, e1, _, _⟩ := DataW.trod_int Tryz.underlying3 g1
    obtain ⟨c, e2, _, _⟩ := DataW.trod_int Tryz.underlying3 g2
    obtain ⟨fr, e3, _⟩ := DataW.trod_bool Tryz.underlying4 g3
    obtain ⟨fc, e4, _⟩ := DataW.trod_bool Tryz.underlying4 g4
    simp only [List.cons.injEq, and_true] at e0 e1 e2 e3 e4
    refine ⟨⟨s, r, c, fr, fc⟩, by rw [e0, e1, e2, e3, e4]; rfl, ?_⟩
    unfold maxLen at k3
    show s.size ≤ _
    omega
theorem trod_nd {f0 f1 f2 f3 f4 f5 f6 : Field} (he : Tryz.prog.underlying 45 = some (.struct #[f0, f1, f2, f3, f4, f5, f6])) (o0 : f0.offset = 0) (t0 : f0.type = 3) (o1 : f1.offset = 1) (t1 : f1.type = 41) (o2 : f2.offset = 7) (t2 : f2.type = 3) (o3 : f3.offset = 8) (t3 : f3.type = 9) (o4 : f4.offset = 9) (t4 : f4.type = 3) (o5 : f5.offset = 10) (t5 : f5.type = 43) (o6 : f6.offset = 15) (t6 : f6.type = 43) {fuel : Nat} {cs : List Value} {x : DataW H × List MemPlace} (hl : cs.length = 20) (h : DataW.trod enc Tryz.prog w base spare held fuel 45 cs = some x) : ∃ y : Wt.Nd, cs = nd20 y ∧ Wt.FitN y := by
  match cs, hl with
  | [a0, a1, a2, a3, a4, a5, a6, a7, a8, a9, b0, b1, b2, b3, b4, b5, b6, b7, b8, b9], _ =>
    obtain ⟨xs, q, _, hD, _, hxl, hg⟩ := DataW.trod_struct he h
    have hxl : xs.length = 7 := hxl
    have g0 := hg 0 f0 rfl
    rw [o0, t0, cInt] at g0
    have g1 := hg 1 f1 rfl
    rw [o1, t1, cVal] at g1
    have g2 := hg 2 f2 rfl
    rw [o2, t2, cInt] at g2
    have g3 := hg 3 f3 rfl
    rw [o3, t3, cStr] at g3
    have g4 := hg 4 f4 rfl
    rw [o4, t4, cInt] at g4
    have g5 := hg 5 f5 rfl
    rw [o5, t5, cRef] at g5
    have g6 := hg 6 f6 rfl
    rw [o6, t6, cRef] at g6
    match xs, hxl with
    | [x0, x1, x2, x3, x4, x5, x6], _ =>
      simp only [List.drop_zero, List.take_succ_cons, List.take_zero, List.drop_succ_cons, List.getElem?_cons_zero, List.getElem?_cons_succ] at g0 g1 g2 g3 g4 g5 g6
      obtain ⟨k, e0, _, _⟩ := DataW.trod_int Tryz.underlying3 g0
      obtain ⟨v, e1, hv⟩ := trod_vl Tryz.underlying41 rfl rfl rfl rfl rfl rfl rfl rfl rfl rfl g1
      obtain ⟨op, e2, _, _⟩ := DataW.trod_int Tryz.underlying3 g2
      obtain ⟨nm, e3, _, k3⟩ := DataW.trod_string Tryz.underlying9 g3
      obtain ⟨ar, e4, _, _⟩ := DataW.trod_int Tryz.underlying3 g4
      obtain ⟨a, e5, ha⟩ := trod_rf Tryz.underlying43 rfl rfl rfl rfl rfl rfl rfl rfl rfl rfl g5
      obtain ⟨b, e6, hb⟩ := trod_rf Tryz.underlying43 rfl rfl rfl rfl rfl rfl rfl rfl rfl rfl g6
      unfold vl6 at e1
      unfold rf5 at e5 e6
      simp only [List.cons.injEq, and_true] at e0 e1 e2 e3 e4 e5 e6
      obtain ⟨v0, v1, v2, v3, v4, v5⟩ := e1
      obtain ⟨p0, p1, p2, p3, p4⟩ := e5
      obtain ⟨q0, q1, q2, q3, q4⟩ := e6
      refine ⟨⟨k, v, op, nm, ar, a, b⟩, by rw [e0, v0, v1, v2, v3, v4, v5, e2, e3, e4, p0, p1, p2, p3, p4, q0, q1, q2, q3, q4]; rfl, hv, ?_, ha, hb⟩
      unfold maxLen at k3
      show nm.size ≤ _
      omega
theorem pick_nd {m : Nat} {p : Nat → Wt.Nd → Prop} (h : ∀ i, i < m → ∃ v, p i v) : ∃ G : Nat → Wt.Nd, ∀ i, i < m → p i (G i) := by
  classical
  refine ⟨fun i => if hi : i < m then Classical.choose (h i hi) else ⟨0, Wt.v0, 0, ⟨#[]⟩, 0, Wt.r0, Wt.r0⟩, fun i hi => ?_⟩
  dsimp only
  rw [dif_pos hi]
  exact Classical.choose_spec (h i hi)
set_option maxRecDepth 100000 in
theorem nodes_arg {W : World} {r : Reach} {b0 : Nat} {v : Value} {d : DataW H} {p : List MemPlace}
    (hv : Value.okWide Tryz.prog W r b0 22 v) (h : DataW.Trod enc Tryz.prog W 0 (fun _ => true) true 22 v d p) :
    ∃ (L : List Wt.Nd) (av : Option Addr) (cap : Nat), v = .slice av L.length cap ∧ RdN W av L ∧ (∀ x ∈ L, Wt.FitN x) ∧ (av = none → L.length = 0 ∧ cap = 0) ∧ L.length ≤ cap ∧ (∀ ad, av = some ad → 0 < L.length → ad.block < W.heap.size) ∧
      ∀ (ts0 : List TypeId) (ds : List (DataW H)) (j : Nat), (DataW.weightsEach Tryz.prog ts0 ds).all (· ≤ reachBytes) = true → ts0[j]? = some 22 → ds[j]? = some d → L.length * 176 ≤ reachBytes := by
  obtain ⟨a0, len, cap, rfl⟩ := okWide_slice Tryz.underlying22 hv
  obtain ⟨fuel, hg⟩ := h
  rcases open_slice Tryz.underlying22 hg with ⟨hcs, hx⟩ | ⟨a, len', cap', m, n, D, Pl, hcs, hb, hl, hm, hmm, hx, hall⟩
  · simp [Value.cells] at hcs
    obtain ⟨rfl, rfl, rfl⟩ := hcs
    exact ⟨[], none, 0, rfl, fun i hi => absurd hi (Nat.not_lt_zero _), (fun x hx => by cases hx), fun _ => ⟨rfl, rfl⟩, Nat.le_refl _, (fun _ e => by cases e), (fun _ _ _ _ _ _ => by simp)⟩
  · simp [Value.cells] at hcs
    obtain ⟨rfl, rfl, rfl⟩ := hcs
    simp only [if_true] at hmm
    subst hmm
    have each : ∀ i, i < m → ∃ y : Wt.Nd, (∀ j u, (nd20 y)[j]? = some u → W.cell? (a.add (i * 20 + j)) = some u) ∧ Wt.FitN y := by
      intro i hi
      obtain ⟨cs', h1, h2⟩ := hall i hi
      rw [cNode] at h1
      obtain ⟨_, hlen, hcell⟩ := World.cells?_some h1
      obtain ⟨y, rfl, hy⟩ := trod_nd Tryz.underlying45 rfl rfl rfl rfl rfl rfl rfl rfl rfl rfl rfl rfl rfl rfl hlen h2
      refine ⟨y, fun j u hu => ?_, hy⟩
      have hj : j < 20 := by
        have := (List.getElem?_eq_some_iff.1 hu).1
        rw [hlen] at this; exact this
      have := hcell j hj
      rw [add_add] at this
      rw [this, hu]
    obtain ⟨G, hG⟩ := pick_nd each
    have hlen : ((List.range len).map G).length = len := by simp
    have hsp : 0 < len → ∃ b off, a = ⟨b, off, none⟩ ∧ b < W.heap.size := by
      intro h0
      have h1 := (hG 0 (by omega)).1 0 _ rfl
      rw [Nat.zero_mul, Nat.zero_add] at h1
      have s1 : (a.add 0).spot = none := World.cell?_spot h1
      have l1 : (a.add 0).block < W.heap.size := World.block_lt_of_cell? W _ h1
      obtain ⟨b, off, spot⟩ := a
      obtain rfl : spot = none := s1
      exact ⟨b, off, rfl, l1⟩
    refine ⟨(List.range len).map G, some a, m, by rw [hlen], fun i hi => ?_, fun x hx => ?_, (fun h => by cases h), by rw [hlen]; exact hl, fun ad e h0 => ?_, fun ts0 ds j hz h1 h2 => ?_⟩
    · rw [hlen] at hi
      obtain ⟨b, off, rfl, hbw⟩ := hsp (by omega)
      refine ⟨b, off, rfl, fun j u hu => ?_⟩
      have eG : ((List.range len).map G)[i]'(by rw [hlen]; exact hi) = G i := by simp
      rw [eG] at hu
      have := (hG i (by omega)).1 j u hu
      rw [add_plain] at this
      rw [Nat.add_assoc]; exact this
    · obtain ⟨i, hi, rfl⟩ := List.mem_map.1 hx
      exact (hG i (by have := List.mem_range.1 hi; omega)).2
    · rw [hlen] at h0
      obtain ⟨b, off, rfl, hbw⟩ := hsp h0
      obtain rfl := Option.some.inj e
      exact hbw
    · have q := sized_slice hz h1 (by rw [h2]; exact congrArg some (congrArg Prod.fst hx)) Tryz.underlying22
      rw [bNode] at q
      simp only [List.length_map, List.length_range] at q
      rw [hlen]
      exact Nat.le_trans (Nat.mul_le_mul_right _ (by omega)) q
end
end Go.Proofs.YtlggnpohhahdlaaGreatDoor
