/- Queues: a script, and a row of areas, that came in. -/
import Derived.Test.YtpbjmhcpaeillaaQActs
import Derived.Deep.Slices
import Derived.Lib.SmallJoins
import Derived.SizedLaws
import Derived.Carry
import Derived.WalkKit
import Derived.ProofKit
namespace Go.Proofs.Ytpbjmhcpaeillaa
open Go.ChangeShapes Go.WideShapes Go.ChangeAt Go.RowKit Go.Joins Go.Deep
set_option linter.unusedVariables false

theorem kCell : Try.prog.cellsOf 33 = 3 := by kernel_rfl
theorem kArea : Try.prog.cellsOf 39 = 5 := by kernel_rfl
theorem kAreas : Try.prog.cellsOf 29 = 1 := by kernel_rfl
theorem kAct : Try.prog.cellsOf 35 = 6 := by kernel_rfl
theorem byAct : Try.prog.bytesOf 35 = 64 := by kernel_rfl
theorem byArea : Try.prog.bytesOf 39 = 40 := by kernel_rfl
theorem kInt : Try.prog.cellsOf 3 = 1 := by kernel_rfl
section
variable {H : Type} {enc : TypeId × Value → H} {w : World} {base : Nat} {spare : Nat → Bool} {held : Bool}

theorem trodQ_cl {f0 f1 f2 : Field} (he : Try.prog.underlying 33 = some (.struct #[f0, f1, f2])) (o0 : f0.offset = 0) (t0 : f0.type = 3) (o1 : f1.offset = 1) (t1 : f1.type = 3) (o2 : f2.offset = 2) (t2 : f2.type = 3) {fuel : Nat} {c0 c1 c2 : Value} {x : DataW H × List MemPlace}
    (h : DataW.trod enc Try.prog w base spare held fuel 33 [c0, c1, c2] = some x) : ∃ y : Wpl.Cl, [c0, c1, c2] = [Value.int .i64 y.s, .int .i64 y.r, .int .i64 y.c] := by
  obtain ⟨xs, q, _, hD, _, hxl, hg⟩ := DataW.trod_struct he h
  have hxl : xs.length = 3 := hxl
  have g0 := hg 0 f0 rfl
  rw [o0, t0, kInt] at g0
  have g1 := hg 1 f1 rfl
  rw [o1, t1, kInt] at g1
  have g2 := hg 2 f2 rfl
  rw [o2, t2, kInt] at g2
  match xs, hxl with
  | [x0, x1, x2], _ =>
    simp only [List.drop_zero, List.take_succ_cons, List.take_zero, List.drop_succ_cons, List.getElem?_cons_zero, List.getElem?_cons_succ] at g0 g1 g2
    obtain ⟨n0, e0, _, _⟩ := DataW.trod_int Try.underlying3 g0
    obtain ⟨n1, e1, _, _⟩ := DataW.trod_int Try.underlying3 g1
    obtain ⟨n2, e2, _, _⟩ := DataW.trod_int Try.underlying3 g2
    simp only [List.cons.injEq, and_true] at e0 e1 e2
    exact ⟨⟨n0, n1, n2⟩, by rw [e0, e1, e2]⟩
theorem trodQ_ar {f0 f1 f2 f3 f4 : Field} (he : Try.prog.underlying 39 = some (.struct #[f0, f1, f2, f3, f4])) (o0 : f0.offset = 0) (t0 : f0.type = 3) (o1 : f1.offset = 1) (t1 : f1.type = 3) (o2 : f2.offset = 2) (t2 : f2.type = 3) (o3 : f3.offset = 3) (t3 : f3.type = 3) (o4 : f4.offset = 4) (t4 : f4.type = 3) {fuel : Nat} {cs : List Value} (hl : cs.length = 5) {x : DataW H × List MemPlace}
    (h : DataW.trod enc Try.prog w base spare held fuel 39 cs = some x) : ∃ y : Wpl.Ar, cs = arQ y := by
  match cs, hl with
  | [c0, c1, c2, c3, c4], _ =>
    obtain ⟨xs, q, _, hD, _, hxl, hg⟩ := DataW.trod_struct he h
    have hxl : xs.length = 5 := hxl
    have g0 := hg 0 f0 rfl
    rw [o0, t0, kInt] at g0
    have g1 := hg 1 f1 rfl
    rw [o1, t1, kInt] at g1
    have g2 := hg 2 f2 rfl
    rw [o2, t2, kInt] at g2
    have g3 := hg 3 f3 rfl
    rw [o3, t3, kInt] at g3
    have g4 := hg 4 f4 rfl
    rw [o4, t4, kInt] at g4
    match xs, hxl with
    | [x0, x1, x2, x3, x4], _ =>
      simp only [List.drop_zero, List.take_succ_cons, List.take_zero, List.drop_succ_cons, List.getElem?_cons_zero, List.getElem?_cons_succ] at g0 g1 g2 g3 g4
      obtain ⟨n0, e0, _, _⟩ := DataW.trod_int Try.underlying3 g0
      obtain ⟨n1, e1, _, _⟩ := DataW.trod_int Try.underlying3 g1
      obtain ⟨n2, e2, _, _⟩ := DataW.trod_int Try.underlying3 g2
      obtain ⟨n3, e3, _, _⟩ := DataW.trod_int Try.underlying3 g3
      obtain ⟨n4, e4, _, _⟩ := DataW.trod_int Try.underlying3 g4
      simp only [List.cons.injEq, and_true] at e0 e1 e2 e3 e4
      exact ⟨⟨n0, n1, n2, n3, n4⟩, by rw [e0, e1, e2, e3, e4]; rfl⟩
theorem pick_ar {m : Nat} {p : Nat → Wpl.Ar → Prop} (h : ∀ i, i < m → ∃ v, p i v) : ∃ G : Nat → Wpl.Ar, ∀ i, i < m → p i (G i) := by
  classical
  refine ⟨fun i => if hi : i < m then Classical.choose (h i hi) else ⟨0, 0, 0, 0, 0⟩, fun i hi => ?_⟩
  dsimp only
  rw [dif_pos hi]
  exact Classical.choose_spec (h i hi)
theorem pick_ac {m : Nat} {p : Nat → Ac → Prop} (h : ∀ i, i < m → ∃ v, p i v) : ∃ G : Nat → Ac, ∀ i, i < m → p i (G i) := by
  classical
  refine ⟨fun i => if hi : i < m then Classical.choose (h i hi) else ⟨0, ⟨0, 0, 0⟩, 0, []⟩, fun i hi => ?_⟩
  dsimp only
  rw [dif_pos hi]
  exact Classical.choose_spec (h i hi)
/-- A row of areas, whatever it is. -/
theorem trodQ_areas {fuel : Nat} {c : Value} {x : DataW H × List MemPlace} (h : DataW.trod enc Try.prog w 0 (fun _ => true) true fuel 29 [c] = some x) :
    ∃ (p : Option Addr) (m k : Nat) (L : List Wpl.Ar), c = .slice p m k ∧ L.length = m ∧ RdQ w p L ∧ (p = none → m = 0 ∧ k = 0) ∧ (m = 0 ∨ ∃ n ∈ x.1.weights Try.prog 29, m ≤ n) := by
  rcases open_slice Try.underlying29 h with ⟨hcs, hx⟩ | ⟨a, len, cap, m, n, D, Pl, hcs, hb, hl, hm, hmm, hx, hall⟩
  · simp only [List.cons.injEq, and_true] at hcs
    exact ⟨none, 0, 0, [], hcs, rfl, (fun i a ha => by simp at ha), fun _ => ⟨rfl, rfl⟩, Or.inl rfl⟩
  · simp only [List.cons.injEq, and_true] at hcs
    simp only [if_true] at hmm
    subst hmm
    have each : ∀ i, i < m → ∃ y : Wpl.Ar, ∀ j u, (arQ y)[j]? = some u → w.cell? (a.add (i * 5 + j)) = some u := by
      intro i hi
      obtain ⟨cs', h1, h2⟩ := hall i hi
      rw [kArea] at h1
      obtain ⟨_, hlen, hcell⟩ := World.cells?_some h1
      obtain ⟨y, rfl⟩ := trodQ_ar Try.underlying39 rfl rfl rfl rfl rfl rfl rfl rfl rfl rfl hlen h2
      refine ⟨y, fun j u hu => ?_⟩
      have hj : j < 5 := by
        have := (List.getElem?_eq_some_iff.1 hu).1
        rw [hlen] at this; exact this
      have := hcell j hj
      rw [add_add] at this
      rw [this, hu]
    obtain ⟨G, hG⟩ := pick_ar each
    have hlen : ((List.range len).map G).length = len := by simp
    refine ⟨some a, len, m, (List.range len).map G, hcs, hlen, fun i y hy => ?_, (fun e => by cases e), Or.inr ⟨(len + (m - len)) * 40, ?_, by omega⟩⟩
    · obtain ⟨hi, e⟩ := List.getElem?_eq_some_iff.1 hy
      rw [hlen] at hi
      have eG : G i = y := by simpa using e
      have s1 : (a.add 0).spot = none := World.cell?_spot (hG 0 (by omega) 0 _ rfl)
      obtain ⟨b, off, spot⟩ := a
      obtain rfl : spot = none := s1
      refine ⟨b, off, rfl, fun j u hu => ?_⟩
      have := hG i (by omega) j u (by rw [eG]; exact hu)
      rw [add_plain] at this
      rw [Nat.add_assoc]; exact this
    · rw [hx]
      simp [DataW.weights, Try.underlying29, byArea]
/-- An act, as memory has it. -/
def acL (y : Ac) (v : Value) : List Value := [.int .i64 y.k, .int .i64 y.x.s, .int .i64 y.x.r, .int .i64 y.x.c, .int .i64 y.n, v]
theorem trodQ_act {f0 f1 f2 f3 : Field} (he : Try.prog.underlying 35 = some (.struct #[f0, f1, f2, f3])) (o0 : f0.offset = 0) (t0 : f0.type = 3) (o1 : f1.offset = 1) (t1 : f1.type = 33) (o2 : f2.offset = 4) (t2 : f2.type = 3) (o3 : f3.offset = 5) (t3 : f3.type = 29) {fuel : Nat} {cs : List Value} {x : DataW H × List MemPlace} (hl : cs.length = 6)
    (h : DataW.trod enc Try.prog w 0 (fun _ => true) true fuel 35 cs = some x) : ∃ (y : Ac) (p : Option Addr) (m k : Nat), cs = acL y (.slice p m k) ∧ RdQ w p y.A ∧ y.A.length = m ∧ (p = none → m = 0 ∧ k = 0) ∧ (m = 0 ∨ ∃ n ∈ x.1.weights Try.prog 35, m ≤ n) := by
  match cs, hl with
  | [a0, a1, a2, a3, a4, a5], _ =>
    obtain ⟨xs, q, _, hD, _, hxl, hg⟩ := DataW.trod_struct he h
    have hxl : xs.length = 4 := hxl
    have g0 := hg 0 f0 rfl
    rw [o0, t0, kInt] at g0
    have g1 := hg 1 f1 rfl
    rw [o1, t1, kCell] at g1
    have g2 := hg 2 f2 rfl
    rw [o2, t2, kInt] at g2
    have g3 := hg 3 f3 rfl
    rw [o3, t3, kAreas] at g3
    match xs, hxl with
    | [x0, x1, x2, x3], _ =>
      simp only [List.drop_zero, List.take_succ_cons, List.take_zero, List.drop_succ_cons, List.getElem?_cons_zero, List.getElem?_cons_succ] at g0 g1 g2 g3
      obtain ⟨n0, e0, _, _⟩ := DataW.trod_int Try.underlying3 g0
      obtain ⟨ce, e1⟩ := trodQ_cl Try.underlying33 rfl rfl rfl rfl rfl rfl g1
      obtain ⟨n2, e2, _, _⟩ := DataW.trod_int Try.underlying3 g2
      obtain ⟨p, m, k, L, e3, hL, hr, hz, hn⟩ := trodQ_areas g3
      simp only [List.cons.injEq, and_true] at e0 e1 e2
      obtain ⟨p0, p1, p2⟩ := e1
      refine ⟨⟨n0, ce, n2, L⟩, p, m, k, by rw [e0, p0, p1, p2, e2, e3]; rfl, hr, hL, hz, ?_⟩
      rcases hn with hn | ⟨n, hn, hle⟩
      · exact Or.inl hn
      · refine Or.inr ⟨n, ?_, hle⟩
        rw [hD]
        simp only [List.map_cons, List.map_nil, DataW.weights, he, DataW.weightsEach, List.mem_append, t3]
        exact Or.inr (Or.inr (Or.inr (Or.inl hn)))
theorem weights_all (e : TypeId) : ∀ (l : List (DataW H)) (x : DataW H), x ∈ l → ∀ n ∈ x.weights Try.prog e, n ∈ DataW.weightsAll Try.prog e l := by
  intro l
  induction l with
  | nil => intro x hx; cases hx
  | cons y r ih =>
    intro x hx n hn
    simp only [DataW.weightsAll, List.mem_append]
    rcases List.mem_cons.1 hx with rfl | hx
    · exact Or.inl hn
    · exact Or.inr (ih x hx n hn)
set_option maxRecDepth 100000 in
/-- A script that came in, whatever it is. -/
theorem acts_arg {W : World} {r : Reach} {b0 : Nat} {v : Value} {d : DataW H} {p : List MemPlace}
    (hv : Value.okWide Try.prog W r b0 22 v) (h : DataW.Trod enc Try.prog W 0 (fun _ => true) true 22 v d p) :
    ∃ (T : List Ac) (av : Option Addr) (n cap : Nat), v = .slice av n cap ∧ RdS W av T ∧ T.length = n ∧
      ∀ (ts0 : List TypeId) (ds : List (DataW H)) (j : Nat), (DataW.weightsEach Try.prog ts0 ds).all (· ≤ reachBytes) = true → ts0[j]? = some 22 → ds[j]? = some d → n ≤ reachBytes ∧ ∀ x ∈ T, x.A.length ≤ reachBytes := by
  obtain ⟨a0, len, cap, rfl⟩ := okWide_slice Try.underlying22 hv
  obtain ⟨fuel, hg⟩ := h
  rcases open_slice Try.underlying22 hg with ⟨hcs, hx⟩ | ⟨a, len', cap', m, n, D, Pl, hcs, hb, hl, hm, hmm, hx, hall⟩
  · simp [Value.cells] at hcs
    obtain ⟨rfl, rfl, rfl⟩ := hcs
    exact ⟨[], none, 0, 0, rfl, (fun i a ha => by simp at ha), rfl, fun _ _ _ _ _ _ => ⟨by simp, fun x hx => by cases hx⟩⟩
  · simp [Value.cells] at hcs
    obtain ⟨rfl, rfl, rfl⟩ := hcs
    simp only [if_true] at hmm
    subst hmm
    have each : ∀ i, i < m → ∃ y : Ac, (∃ p mm k, (∀ j u, (acL y (.slice p mm k))[j]? = some u → W.cell? (a.add (i * 6 + j)) = some u) ∧ RdQ W p y.A ∧ y.A.length = mm ∧ (p = none → mm = 0 ∧ k = 0)) ∧ (y.A.length = 0 ∨ ∃ n ∈ (D i).weights Try.prog 35, y.A.length ≤ n) := by
      intro i hi
      obtain ⟨cs', h1, h2⟩ := hall i hi
      rw [kAct] at h1
      obtain ⟨_, hlen, hcell⟩ := World.cells?_some h1
      obtain ⟨y, p, mm, k, rfl, hr, hL, hz, hn⟩ := trodQ_act Try.underlying35 rfl rfl rfl rfl rfl rfl rfl rfl hlen h2
      refine ⟨y, ⟨p, mm, k, fun j u hu => ?_, hr, hL, hz⟩, by rw [hL]; exact hn⟩
      have hj : j < 6 := by
        have := (List.getElem?_eq_some_iff.1 hu).1
        rw [hlen] at this; exact this
      have := hcell j hj
      rw [add_add] at this
      rw [this, hu]
    obtain ⟨G, hG⟩ := pick_ac each
    have hlen : ((List.range len).map G).length = len := by simp
    have hsp : 0 < len → ∃ b off, a = ⟨b, off, none⟩ := by
      intro h0
      obtain ⟨⟨p, mm, k, h1, _⟩, _⟩ := hG 0 (by omega)
      have h1 := h1 0 _ rfl
      rw [Nat.zero_mul, Nat.zero_add] at h1
      have s1 : (a.add 0).spot = none := World.cell?_spot h1
      obtain ⟨b, off, spot⟩ := a
      obtain rfl : spot = none := s1
      exact ⟨b, off, rfl⟩
    refine ⟨(List.range len).map G, some a, len, m, rfl, fun i y hy => ?_, hlen, fun ts0 ds j hz h1 h2 => ?_⟩
    · obtain ⟨hi, e⟩ := List.getElem?_eq_some_iff.1 hy
      rw [hlen] at hi
      have eG : G i = y := by simpa using e
      obtain ⟨b, off, rfl⟩ := hsp (by omega)
      obtain ⟨⟨p, mm, k, q1, q2, q3, q4⟩, _⟩ := hG i (by omega)
      rw [eG] at q1 q2 q3
      refine ⟨b, off, rfl, p, mm, k, fun j u hu => ?_, q2, q3, q4⟩
      have := q1 j u hu
      rw [add_plain] at this
      rw [Nat.add_assoc]; exact this
    · have h3 : ds[j]? = some (.slice ((List.range len).map D) ((List.range (m - len)).map fun j => D (len + j))) := by rw [h2]; exact congrArg some (congrArg Prod.fst hx)
      have q := sized_slice hz h1 h3 Try.underlying22
      rw [byAct] at q
      simp only [List.length_map, List.length_range] at q
      refine ⟨by omega, fun x hx => ?_⟩
      obtain ⟨i, hi, rfl⟩ := List.mem_map.1 hx
      have hi := List.mem_range.1 hi
      obtain ⟨_, hn⟩ := hG i (by omega)
      have key : ∀ n ∈ (D i).weights Try.prog 35, n ≤ reachBytes := by
        intro n hn
        have hm : n ∈ (DataW.slice ((List.range len).map D) ((List.range (m - len)).map fun j => D (len + j)) : DataW H).weights Try.prog 22 := by
          simp only [DataW.weights, Try.underlying22, List.mem_cons, List.mem_append]
          exact Or.inr (Or.inl (weights_all _ _ (D i) (List.mem_map.2 ⟨i, by simpa using hi, rfl⟩) _ hn))
        have := List.all_eq_true.1 hz _ (DataW.weights_mem_each h1 h3 _ hm)
        simpa using this
      rcases hn with hn | ⟨n, hn, hle⟩
      · rw [hn]; exact Nat.zero_le _
      · exact Nat.le_trans hle (key n hn)
set_option maxRecDepth 100000 in
/-- A row of areas that came in, whatever it is. -/
theorem areas_arg {W : World} {r : Reach} {b0 : Nat} {v : Value} {d : DataW H} {p : List MemPlace}
    (hv : Value.okWide Try.prog W r b0 29 v) (h : DataW.Trod enc Try.prog W 0 (fun _ => true) true 29 v d p) :
    ∃ (L : List Wpl.Ar) (av : Option Addr) (n cap : Nat), v = .slice av n cap ∧ RdQ W av L ∧ L.length = n ∧ (av = none → n = 0 ∧ cap = 0) ∧
      ∀ (ts0 : List TypeId) (ds : List (DataW H)) (j : Nat), (DataW.weightsEach Try.prog ts0 ds).all (· ≤ reachBytes) = true → ts0[j]? = some 29 → ds[j]? = some d → n ≤ reachBytes := by
  obtain ⟨a0, len, cap, rfl⟩ := okWide_slice Try.underlying29 hv
  obtain ⟨fuel, hg⟩ := h
  have hg' : DataW.trod enc Try.prog W 0 (fun _ => true) true fuel 29 [.slice a0 len cap] = some (d, p) := hg
  obtain ⟨p', m, k, L, e, hL, hr, hz, hn⟩ := trodQ_areas hg'
  simp only [Value.slice.injEq] at e
  obtain ⟨rfl, rfl, rfl⟩ := e
  refine ⟨L, a0, len, cap, rfl, hr, hL, hz, fun ts0 ds j hz h1 h2 => ?_⟩
  rcases hn with hn | ⟨n, hn, hle⟩
  · rw [hn]; exact Nat.zero_le _
  · have := List.all_eq_true.1 hz _ (DataW.weights_mem_each h1 h2 _ hn)
    exact Nat.le_trans hle (by simpa using this)
end
end Go.Proofs.Ytpbjmhcpaeillaa
