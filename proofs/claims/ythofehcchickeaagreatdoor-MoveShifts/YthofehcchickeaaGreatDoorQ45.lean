/- TNArg. -/
import Derived.Test.YthofehcchickeaaGreatDoorQ44
import Derived.Deep.Slices
import Derived.Lib.SmallJoins
import Derived.SizedLaws
import Derived.Carry
import Derived.WalkKit
import Derived.ProofKit
namespace Go.Proofs.YthofehcchickeaaGreatDoor
open Go.ChangeShapes Go.WideShapes Go.ChangeAt Go.RowKit Go.Joins Go.Deep
set_option linter.unusedVariables false
theorem cVal : Tryz.prog.cellsOf 26 = 6 := by kernel_rfl
theorem cRef : Tryz.prog.cellsOf 28 = 5 := by kernel_rfl
theorem cNum : Tryz.prog.cellsOf 24 = 2 := by kernel_rfl
theorem cNode : Tryz.prog.cellsOf 30 = 20 := by kernel_rfl
theorem bNode : Tryz.prog.bytesOf 30 = 176 := by kernel_rfl
theorem cInt : Tryz.prog.cellsOf 3 = 1 := by kernel_rfl
theorem cBool : Tryz.prog.cellsOf 4 = 1 := by kernel_rfl
theorem cStr : Tryz.prog.cellsOf 9 = 1 := by kernel_rfl
section
variable {H : Type} {enc : TypeId × Value → H} {w : World} {base : Nat} {spare : Nat → Bool} {held : Bool}
theorem i64_of {n : Int} (h : (Lit.int .i64 n).wf = true) : -9223372036854775808 ≤ n ∧ n ≤ 9223372036854775807 := bounds_i64 h
theorem trod_num {f0 f1 : Field} (he : Tryz.prog.underlying 24 = some (.struct #[f0, f1])) (o0 : f0.offset = 0) (t0 : f0.type = 3) (o1 : f1.offset = 1) (t1 : f1.type = 3) {fuel : Nat} {c0 c1 : Value} {x : DataW H × List MemPlace} (h : DataW.trod enc Tryz.prog w base spare held fuel 24 [c0, c1] = some x) : ∃ n d : Int, c0 = .int .i64 n ∧ c1 = .int .i64 d ∧ (-9223372036854775808 ≤ n ∧ n ≤ 9223372036854775807) ∧ (-9223372036854775808 ≤ d ∧ d ≤ 9223372036854775807) := by
  obtain ⟨xs, q, _, hD, _, hxl, hg⟩ := DataW.trod_struct he h
  have hxl : xs.length = 2 := hxl
  have g0 := hg 0 f0 rfl
  rw [o0, t0, cInt] at g0
  have g1 := hg 1 f1 rfl
  rw [o1, t1, cInt] at g1
  match xs, hxl with
  | [x0, x1], _ =>
    simp only [List.drop_zero, List.take_succ_cons, List.take_zero, List.drop_succ_cons, List.getElem?_cons_zero, List.getElem?_cons_succ] at g0 g1
    obtain ⟨n, e1, _, k1⟩ := DataW.trod_int Tryz.underlying3 g0
    obtain ⟨d, e2, _, k2⟩ := DataW.trod_int Tryz.underlying3 g1
    simp only [List.cons.injEq, and_true] at e1 e2
    exact ⟨n, d, e1, e2, i64_of k1, i64_of k2⟩
theorem trod_vl {f0 f1 f2 f3 f4 : Field} (he : Tryz.prog.underlying 26 = some (.struct #[f0, f1, f2, f3, f4])) (o0 : f0.offset = 0) (t0 : f0.type = 3) (o1 : f1.offset = 1) (t1 : f1.type = 24) (o2 : f2.offset = 3) (t2 : f2.type = 9) (o3 : f3.offset = 4) (t3 : f3.type = 4) (o4 : f4.offset = 5) (t4 : f4.type = 3) {fuel : Nat} {c0 c1 c2 c3 c4 c5 : Value} {x : DataW H × List MemPlace} (h : DataW.trod enc Tryz.prog w base spare held fuel 26 [c0, c1, c2, c3, c4, c5] = some x) : ∃ v : Wt.Vl, [c0, c1, c2, c3, c4, c5] = vl6 v ∧ Wt.FitV v := by
  obtain ⟨xs, q, _, hD, _, hxl, hg⟩ := DataW.trod_struct he h
  have hxl : xs.length = 5 := hxl
  have g0 := hg 0 f0 rfl
  rw [o0, t0, cInt] at g0
  have g1 := hg 1 f1 rfl
  rw [o1, t1, cNum] at g1
  have g2 := hg 2 f2 rfl
  rw [o2, t2, cStr] at g2
  have g3 := hg 3 f3 rfl
  rw [o3, t3, cBool] at g3
  have g4 := hg 4 f4 rfl
  rw [o4, t4, cInt] at g4
  match xs, hxl with
  | [x0, x1, x2, x3, x4], _ =>
    simp only [List.drop_zero, List.take_succ_cons, List.take_zero, List.drop_succ_cons, List.getElem?_cons_zero, List.getElem?_cons_succ] at g0 g1 g2 g3 g4
    obtain ⟨k, e0, _, _⟩ := DataW.trod_int Tryz.underlying3 g0
    obtain ⟨n, d, e1, e2, k1, k2⟩ := trod_num Tryz.underlying24 rfl rfl rfl rfl g1
    obtain ⟨s, e3, _, k3⟩ := DataW.trod_string Tryz.underlying9 g2
    obtain ⟨b, e4, _⟩ := DataW.trod_bool Tryz.underlying4 g3
    obtain ⟨f, e5, _, _⟩ := DataW.trod_int Tryz.underlying3 g4
    simp only [List.cons.injEq, and_true] at e0 e3 e4 e5
    refine ⟨⟨k, n, d, s, b, f⟩, by rw [e0, e1, e2, e3, e4, e5]; rfl, k1, k2, ?_⟩
    unfold maxLen at k3
    show s.size ≤ _
    omega
theorem trod_rf {f0 f1 f2 f3 f4 : Field} (he : Tryz.prog.underlying 28 = some (.struct #[f0, f1, f2, f3, f4])) (o0 : f0.offset = 0) (t0 : f0.type = 9) (o1 : f1.offset = 1) (t1 : f1.type = 3) (o2 : f2.offset = 2) (t2 : f2.type = 3) (o3 : f3.offset = 3) (t3 : f3.type = 4) (o4 : f4.offset = 4) (t4 : f4.type = 4) {fuel : Nat} {c0 c1 c2 c3 c4 : Value} {x : DataW H × List MemPlace} (h : DataW.trod enc Tryz.prog w base spare held fuel 28 [c0, c1, c2, c3, c4] = some x) : ∃ a : Wt.Rf, [c0, c1, c2, c3, c4] = rf5 a ∧ a.s.size ≤ 9223372036854775807 := by
  obtain ⟨xs, q, _, hD, _, hxl, hg⟩ := DataW.trod_struct he h
  have hxl : xs.length = 5 := hxl
  have g0 := hg 0 f0 rfl
  rw [o0, t0, cStr] at g0
  have g1 := hg 1 f1 rfl
  rw [o1, t1, cInt] at g1
  have g2 := hg 2 f2 rfl
  rw [o2, t2, cInt] at g2
  have g3 := hg 3 f3 rfl
  rw [o3, t3, cBool] at g3
  have g4 := hg 4 f4 rfl
  rw [o4, t4, cBool] at g4
  match xs, hxl with
  | [x0, x1, x2, x3, x4], _ =>
    simp only [List.drop_zero, List.take_succ_cons, List.take_zero, List.drop_succ_cons, List.getElem?_cons_zero, List.getElem?_cons_succ] at g0 g1 g2 g3 g4
    obtain ⟨s, e0, _, k3⟩ := DataW.trod_string Tryz.underlying9 g0
    obtain ⟨r, e1, _, _⟩ := DataW.trod_int Tryz.underlying3 g1
    obtain ⟨c, e2, _, _⟩ := DataW.trod_int Tryz.underlying3 g2
    obtain ⟨fr, e3, _⟩ := DataW.trod_bool Tryz.underlying4 g3
    obtain ⟨fc, e4, _⟩ := DataW.trod_bool Tryz.underlying4 g4
    simp only [List.cons.injEq, and_true] at e0 e1 e2 e3 e4
    refine ⟨⟨s, r, c, fr, fc⟩, by rw [e0, e1, e2, e3, e4]; rfl, ?_⟩
    unfold maxLen at k3
    show s.size ≤ _
    omega
theorem trod_nd {f0 f1 f2 f3 f4 f5 f6 : Field} (he : Tryz.prog.underlying 30 = some (.struct #[f0, f1, f2, f3, f4, f5, f6])) (o0 : f0.offset = 0) (t0 : f0.type = 3) (o1 : f1.offset = 1) (t1 : f1.type = 26) (o2 : f2.offset = 7) (t2 : f2.type = 3) (o3 : f3.offset = 8) (t3 : f3.type = 9) (o4 : f4.offset = 9) (t4 : f4.type = 3) (o5 : f5.offset = 10) (t5 : f5.type = 28) (o6 : f6.offset = 15) (t6 : f6.type = 28) {fuel : Nat} {cs : List Value} {x : DataW H × List MemPlace} (hl : cs.length = 20) (h : DataW.trod enc Tryz.prog w base spare held fuel 30 cs = some x) : ∃ y : Wt.Nd, cs = nd20 y ∧ Wt.FitN y := by
  match cs, hl with
  | [a0, a1, a2, a3, a4, a5, a6, a7, a8, a9, b0, b1, b2, b3, b4, b5, b6, b7, b8, b9], _ =>
    obtain ⟨xs, q, _, hD, _, hxl, hg⟩ := DataW.trod_struct he h
    have hxl : xs.length = 7 := hxl
    have g0 := hg 0 f0 rfl
    rw [o0, t0, cInt] at g0
    have g1 := hg 1 f1 rfl
    rw [o1, t1, cVal] at g1
    have g2 := hg 2 f2 rfl
    rw [o2, t2, cInt] at g2
    have g3 := hg 3 f3 rfl
    rw [o3, t3, cStr] at g3
    have g4 := hg 4 f4 rfl
    rw [o4, t4, cInt] at g4
    have g5 := hg 5 f5 rfl
    rw [o5, t5, cRef] at g5
    have g6 := hg 6 f6 rfl
    rw [o6, t6, cRef] at g6
    match xs, hxl with
    | [x0, x1, x2, x3, x4, x5, x6], _ =>
      simp only [List.drop_zero, List.take_succ_cons, List.take_zero, List.drop_succ_cons, List.getElem?_cons_zero, List.getElem?_cons_succ] at g0 g1 g2 g3 g4 g5 g6
      obtain ⟨k, e0, _, _⟩ := DataW.trod_int Tryz.underlying3 g0
      obtain ⟨v, e1, hv⟩ := trod_vl Tryz.underlying26 rfl rfl rfl rfl rfl rfl rfl rfl rfl rfl g1
      obtain ⟨op, e2, _, _⟩ := DataW.trod_int Tryz.underlying3 g2
      obtain ⟨nm, e3, _, k3⟩ := DataW.trod_string Tryz.underlying9 g3
      obtain ⟨ar, e4, _, _⟩ := DataW.trod_int Tryz.underlying3 g4
      obtain ⟨a, e5, ha⟩ := trod_rf Tryz.underlying28 rfl rfl rfl rfl rfl rfl rfl rfl rfl rfl g5
      obtain ⟨b, e6, hb⟩ := trod_rf Tryz.underlying28 rfl rfl rfl rfl rfl rfl rfl rfl rfl rfl g6
      unfold vl6 at e1
      unfold rf5 at e5 e6
      simp only [List.cons.injEq, and_true] at e0 e1 e2 e3 e4 e5 e6
      obtain ⟨v0, v1, v2, v3, v4, v5⟩ := e1
      obtain ⟨p0, p1, p2, p3, p4⟩ := e5
      obtain ⟨q0, q1, q2, q3, q4⟩ := e6
      refine ⟨⟨k, v, op, nm, ar, a, b⟩, by rw [e0, v0, v1, v2, v3, v4, v5, e2, e3, e4, p0, p1, p2, p3, p4, q0, q1, q2, q3, q4]; rfl, hv, ?_, ha, hb⟩
      unfold maxLen at k3
      show nm.size ≤ _
      omega
theorem pick_nd {m : Nat} {p : Nat → Wt.Nd → Prop} (h : ∀ i, i < m → ∃ v, p i v) : ∃ G : Nat → Wt.Nd, ∀ i, i < m → p i (G i) := by
  classical
  refine ⟨fun i => if hi : i < m then Classical.choose (h i hi) else ⟨0, Wt.v0, 0, ⟨#[]⟩, 0, Wt.r0, Wt.r0⟩, fun i hi => ?_⟩
  dsimp only
  rw [dif_pos hi]
  exact Classical.choose_spec (h i hi)
set_option maxRecDepth 100000 in
theorem nodes_arg {W : World} {r : Reach} {b0 : Nat} {v : Value} {d : DataW H} {p : List MemPlace}
    (hv : Value.okWide Tryz.prog W r b0 22 v) (h : DataW.Trod enc Tryz.prog W 0 (fun _ => true) true 22 v d p) :
    ∃ (L : List Wt.Nd) (av : Option Addr) (cap : Nat), v = .slice av L.length cap ∧ RdN W av L ∧ (∀ x ∈ L, Wt.FitN x) ∧ (av = none → L.length = 0 ∧ cap = 0) ∧ L.length ≤ cap ∧ (∀ ad, av = some ad → 0 < L.length → ad.block < W.heap.size) ∧
      ∀ (ts0 : List TypeId) (ds : List (DataW H)) (j : Nat), (DataW.weightsEach Tryz.prog ts0 ds).all (· ≤ reachBytes) = true → ts0[j]? = some 22 → ds[j]? = some d → L.length * 176 ≤ reachBytes := by
  obtain ⟨a0, len, cap, rfl⟩ := okWide_slice Tryz.underlying22 hv
  obtain ⟨fuel, hg⟩ := h
  rcases open_slice Tryz.underlying22 hg with ⟨hcs, hx⟩ | ⟨a, len', cap', m, n, D, Pl, hcs, hb, hl, hm, hmm, hx, hall⟩
  · simp [Value.cells] at hcs
    obtain ⟨rfl, rfl, rfl⟩ := hcs
    exact ⟨[], none, 0, rfl, fun i hi => absurd hi (Nat.not_lt_zero _), (fun x hx => by cases hx), fun _ => ⟨rfl, rfl⟩, Nat.le_refl _, (fun _ e => by cases e), (fun _ _ _ _ _ _ => by simp)⟩
  · simp [Value.cells] at hcs
    obtain ⟨rfl, rfl, rfl⟩ := hcs
    simp only [if_true] at hmm
    subst hmm
    have each : ∀ i, i < m → ∃ y : Wt.Nd, (∀ j u, (nd20 y)[j]? = some u → W.cell? (a.add (i * 20 + j)) = some u) ∧ Wt.FitN y := by
      intro i hi
      obtain ⟨cs', h1, h2⟩ := hall i hi
      rw [cNode] at h1
      obtain ⟨_, hlen, hcell⟩ := World.cells?_some h1
      obtain ⟨y, rfl, hy⟩ := trod_nd Tryz.underlying30 rfl rfl rfl rfl rfl rfl rfl rfl rfl rfl rfl rfl rfl rfl hlen h2
      refine ⟨y, fun j u hu => ?_, hy⟩
      have hj : j < 20 := by
        have := (List.getElem?_eq_some_iff.1 hu).1
        rw [hlen] at this; exact this
      have := hcell j hj
      rw [add_add] at this
      rw [this, hu]
    obtain ⟨G, hG⟩ := pick_nd each
    have hlen : ((List.range len).map G).length = len := by simp
    have hsp : 0 < len → ∃ b off, a = ⟨b, off, none⟩ ∧ b < W.heap.size := by
      intro h0
      have h1 := (hG 0 (by omega)).1 0 _ rfl
      rw [Nat.zero_mul, Nat.zero_add] at h1
      have s1 : (a.add 0).spot = none := World.cell?_spot h1
      have l1 : (a.add 0).block < W.heap.size := World.block_lt_of_cell? W _ h1
      obtain ⟨b, off, spot⟩ := a
      obtain rfl : spot = none := s1
      exact ⟨b, off, rfl, l1⟩
    refine ⟨(List.range len).map G, some a, m, by rw [hlen], fun i hi => ?_, fun x hx => ?_, (fun h => by cases h), by rw [hlen]; exact hl, fun ad e h0 => ?_, fun ts0 ds j hz h1 h2 => ?_⟩
    · rw [hlen] at hi
      obtain ⟨b, off, rfl, hbw⟩ := hsp (by omega)
      refine ⟨b, off, rfl, fun j u hu => ?_⟩
      have eG : ((List.range len).map G)[i]'(by rw [hlen]; exact hi) = G i := by simp
      rw [eG] at hu
      have := (hG i (by omega)).1 j u hu
      rw [add_plain] at this
      rw [Nat.add_assoc]; exact this
    · obtain ⟨i, hi, rfl⟩ := List.mem_map.1 hx
      exact (hG i (by have := List.mem_range.1 hi; omega)).2
    · rw [hlen] at h0
      obtain ⟨b, off, rfl, hbw⟩ := hsp h0
      obtain rfl := Option.some.inj e
      exact hbw
    · have q := sized_slice hz h1 (by rw [h2]; exact congrArg some (congrArg Prod.fst hx)) Tryz.underlying22
      rw [bNode] at q
      simp only [List.length_map, List.length_range] at q
      rw [hlen]
      exact Nat.le_trans (Nat.mul_le_mul_right _ (by omega)) q
end
end Go.Proofs.YthofehcchickeaaGreatDoor
