/- A slice of tokens that came in. -/
import Derived.Test.YtjkohkhngeioiaaDoorLText
import Derived.Deep.Slices
import Derived.Lib.SmallJoins
import Derived.SizedLaws
import Derived.Carry
namespace Go.Proofs.YtjkohkhngeioiaaDoor
open Go.ChangeShapes Go.WideShapes Go.Deep

section
variable {H : Type} {enc : TypeId × Value → H} {P : Program} {w : World} {base : Nat} {spare : Nat → Bool} {held : Bool}

/-- A token's data. -/
def tokD (H : Type) (g : Wlx.TV) : DataW H := .agg [.lit (.int .i64 g.k), .lit (.string g.t), .lit (.int .i64 g.p)]
theorem pick_lt {m : Nat} {p : Nat → Wlx.TV → Prop} (h : ∀ i, i < m → ∃ v, p i v) : ∃ G : Nat → Wlx.TV, ∀ i, i < m → p i (G i) := by
  classical
  refine ⟨fun i => if hi : i < m then Classical.choose (h i hi) else ⟨0, [], 0⟩, fun i hi => ?_⟩
  dsimp only
  rw [dif_pos hi]
  exact Classical.choose_spec (h i hi)
theorem open_toks {t e : TypeId} {f0 f1 f2 : Field} {fuel : Nat} {cs : List Value} {x : DataW H × List MemPlace} (ht : P.underlying t = some (.slice e)) (he : P.underlying e = some (.struct #[f0, f1, f2])) (ck : P.cellsOf e = 3)
    (o0 : f0.offset = 0) (o1 : f1.offset = 1) (o2 : f2.offset = 2) (c0 : P.cellsOf f0.type = 1) (c1 : P.cellsOf f1.type = 1) (c2 : P.cellsOf f2.type = 1)
    (u0 : P.underlying f0.type = some (.int .i64)) (u1 : P.underlying f1.type = some .string) (u2 : P.underlying f2.type = some (.int .i64)) (h : DataW.trod enc P w base spare held fuel t cs = some x) :
    (cs = [.slice none 0 0] ∧ x = (.nil, [])) ∨
    ∃ (a : Addr) (len cap m : Nat) (G : Nat → Wlx.TV) (D : Nat → DataW H), cs = [.slice (some a) len cap] ∧ len ≤ cap ∧ cap ≤ maxLen ∧ m = (if spare a.block then cap else len) ∧
      x.1 = .slice ((List.range len).map D) ((List.range (m - len)).map fun j => D (len + j)) ∧
      ∀ i, i < m → w.cell? (a.add (i * 3)) = some (.int .i64 (G i).k) ∧ w.cell? (a.add (i * 3 + 1)) = some (.string ⟨(G i).t.toArray⟩) ∧ w.cell? (a.add (i * 3 + 2)) = some (.int .i64 (G i).p) ∧ D i = tokD H (G i) := by
  rcases open_slice ht h with h0 | ⟨a, len, cap, m, n, D, Pl, rfl, hb, hl, hm, hmm, rfl, hx⟩
  · exact Or.inl h0
  right
  have each : ∀ i, i < m → ∃ g : Wlx.TV, w.cell? (a.add (i * 3)) = some (.int .i64 g.k) ∧ w.cell? (a.add (i * 3 + 1)) = some (.string ⟨g.t.toArray⟩) ∧ w.cell? (a.add (i * 3 + 2)) = some (.int .i64 g.p) ∧ D i = tokD H g := by
    intro i hi
    obtain ⟨cs', h1, h2⟩ := hx i hi
    rw [ck] at h1
    obtain ⟨_, hlen, hcell⟩ := World.cells?_some h1
    obtain ⟨xs, q, _, hD, _, hxl, hg⟩ := DataW.trod_struct he h2
    have hxl3 : xs.length = 3 := hxl
    have g0 := hg 0 f0 rfl
    have g1 := hg 1 f1 rfl
    have g2 := hg 2 f2 rfl
    rw [o0, c0] at g0
    rw [o1, c1] at g1
    rw [o2, c2] at g2
    match cs', hlen with
    | [a0, a1, a2], _ =>
      match xs, hxl3 with
      | [x0, x1, x2], _ =>
        simp only [List.drop_zero, List.take_succ_cons, List.take_zero, List.drop_succ_cons, List.getElem?_cons_zero, List.getElem?_cons_succ] at g0 g1 g2
        obtain ⟨k, e1, e1', _⟩ := DataW.trod_int u0 g0
        obtain ⟨s, e2, e2', _⟩ := DataW.trod_string u1 g1
        obtain ⟨p, e3, e3', _⟩ := DataW.trod_int u2 g2
        simp only [List.cons.injEq, and_true] at e1 e2 e3
        have k0 := hcell 0 (by omega)
        have k1 := hcell 1 (by omega)
        have k2 := hcell 2 (by omega)
        rw [add_add] at k0 k1 k2
        refine ⟨⟨k, s.data.toList, p⟩, ?_, ?_, ?_, ?_⟩
        · rw [Nat.add_zero] at k0; rw [k0, e1]; rfl
        · rw [k1, e2]; rfl
        · rw [k2, e3]; rfl
        · have := congrArg Prod.fst hD
          simp only at this
          rw [this]
          simp only [List.map_cons, List.map_nil, e1', e2', e3', tokD]
  obtain ⟨G, hG⟩ := pick_lt each
  exact ⟨a, len, cap, m, G, D, rfl, hl, hm, hmm, rfl, hG⟩

/-- A slice of tokens that came in, whatever it is. -/
theorem toks_arg {W : World} {r : Reach} {b0 : Nat} {t e : TypeId} {f0 f1 f2 : Field} {v : Value} {d : DataW H} {p : List MemPlace} (ht : P.underlying t = some (.slice e)) (he : P.underlying e = some (.struct #[f0, f1, f2])) (ck : P.cellsOf e = 3)
    (o0 : f0.offset = 0) (o1 : f1.offset = 1) (o2 : f2.offset = 2) (c0 : P.cellsOf f0.type = 1) (c1 : P.cellsOf f1.type = 1) (c2 : P.cellsOf f2.type = 1)
    (u0 : P.underlying f0.type = some (.int .i64)) (u1 : P.underlying f1.type = some .string) (u2 : P.underlying f2.type = some (.int .i64))
    (hv : Value.okWide P W r b0 t v) (h : DataW.Trod enc P W 0 (fun _ => true) true t v d p) :
    ∃ (ts : List Wlx.TV) (D : Nat → DataW H) (sp : List (DataW H)), ReadV W v ts ∧ (d = .nil ∧ ts = [] ∧ v = .slice none 0 0 ∨ d = .slice ((List.range ts.length).map D) sp ∧ ∃ a c, v = .slice (some a) ts.length c) ∧ ∀ i (hi : i < ts.length), D i = tokD H (ts[i]) := by
  obtain ⟨a0, len, cap, rfl⟩ := okWide_slice ht hv
  obtain ⟨fuel, hg⟩ := h
  rcases open_toks ht he ck o0 o1 o2 c0 c1 c2 u0 u1 u2 hg with ⟨hcs, hx⟩ | ⟨a, len', cap', m, G, D, hcs, hl, hm, hmm, hx, hall⟩
  · simp [Value.cells] at hcs
    obtain ⟨rfl, rfl, rfl⟩ := hcs
    simp only [Prod.mk.injEq] at hx
    exact ⟨[], fun _ => .nil, [], ⟨none, 0, rfl, fun i hi => absurd hi (Nat.not_lt_zero _)⟩, Or.inl ⟨hx.1, rfl, rfl⟩, fun i hi => absurd hi (Nat.not_lt_zero _)⟩
  · simp [Value.cells] at hcs
    obtain ⟨rfl, rfl, rfl⟩ := hcs
    simp only [if_true] at hmm
    subst hmm
    have hlen : ((List.range len).map G).length = len := by simp
    refine ⟨(List.range len).map G, D, _, ⟨some a, m, by rw [hlen], fun i hi => ?_⟩, Or.inr ⟨by rw [hlen]; exact hx, a, m, by rw [hlen]⟩, fun i hi => ?_⟩
    · rw [hlen] at hi
      obtain ⟨q0, q1, q2, _⟩ := hall i (by omega)
      have eG : ((List.range len).map G)[i]'(by rw [hlen]; exact hi) = G i := by simp
      have sp : (a.add (i * 3)).spot = none := World.cell?_spot q0
      have hlt : (a.add (i * 3)).block < W.heap.size := World.block_lt_of_cell? W _ q0
      obtain ⟨b, off, spot⟩ := a
      have hsp : spot = none ∧ b < W.heap.size := by
        unfold Addr.add at sp hlt
        by_cases h0 : i * 3 = 0
        · rw [if_pos h0] at sp hlt; exact ⟨sp, hlt⟩
        · have h1 := (hall 0 (by omega)).1
          have s1 : ((⟨b, off, spot⟩ : Addr).add (0 * 3)).spot = none := World.cell?_spot h1
          have l1 : ((⟨b, off, spot⟩ : Addr).add (0 * 3)).block < W.heap.size := World.block_lt_of_cell? W _ h1
          rw [Nat.zero_mul] at s1 l1
          exact ⟨s1, l1⟩
      obtain ⟨rfl, hbw⟩ := hsp
      rw [add_plain] at q0 q1 q2
      refine ⟨b, off, rfl, hbw, ?_, ?_, ?_⟩
      · rw [eG]; exact q0
      · rw [eG, Nat.add_assoc]; exact q1
      · rw [eG, Nat.add_assoc]; exact q2
    · rw [hlen] at hi
      have eG : ((List.range len).map G)[i]'(by rw [hlen]; exact hi) = G i := by simp
      rw [eG]
      exact (hall i (by omega)).2.2.2
/-- What the form's reach says of the texts. -/
theorem toks_sized {ts0 : List TypeId} {ds : List (DataW H)} (h : (DataW.weightsEach P ts0 ds).all (· ≤ reachBytes) = true) {j : Nat} {t e : TypeId} {f0 f1 f2 : Field} {ts : List Wlx.TV} {D : Nat → DataW H} {sp : List (DataW H)} (ht : ts0[j]? = some t) (hd : ds[j]? = some (.slice ((List.range ts.length).map D) sp)) (hu : P.underlying t = some (.slice e)) (he : P.underlying e = some (.struct #[f0, f1, f2]))
    (hD : ∀ i (hi : i < ts.length), D i = tokD H (ts[i])) : ∀ i (hi : i < ts.length), (ts[i]).t.length ≤ reachBytes := by
  intro i hi
  have hall : ∀ (l : List (DataW H)) (x : DataW H), x ∈ l → ∀ n ∈ x.weights P e, n ∈ DataW.weightsAll P e l := by
    intro l
    induction l with
    | nil => intro x hx; cases hx
    | cons y r ih =>
      intro x hx n hn
      simp only [DataW.weightsAll, List.mem_append]
      rcases List.mem_cons.1 hx with rfl | hx
      · exact Or.inl hn
      · exact Or.inr (ih x hx n hn)
  have hm : (ts[i]).t.length ∈ (DataW.slice ((List.range ts.length).map D) sp).weights P t := by
    simp only [DataW.weights, hu, List.mem_cons, List.mem_append]
    refine Or.inr (Or.inl (hall _ (D i) (List.mem_map.2 ⟨i, by simpa using hi, rfl⟩) _ ?_))
    rw [hD i hi]
    simp [tokD, DataW.weights, he, DataW.weightsEach]
  have := List.all_eq_true.1 h _ (DataW.weights_mem_each ht hd _ hm)
  simpa using this
/-- The same, the slice written out. -/
theorem toks_arg2 {W : World} {r : Reach} {b0 : Nat} {t e : TypeId} {f0 f1 f2 : Field} {v : Value} {d : DataW H} {p : List MemPlace} (ht : P.underlying t = some (.slice e)) (he : P.underlying e = some (.struct #[f0, f1, f2])) (ck : P.cellsOf e = 3)
    (o0 : f0.offset = 0) (o1 : f1.offset = 1) (o2 : f2.offset = 2) (c0 : P.cellsOf f0.type = 1) (c1 : P.cellsOf f1.type = 1) (c2 : P.cellsOf f2.type = 1)
    (u0 : P.underlying f0.type = some (.int .i64)) (u1 : P.underlying f1.type = some .string) (u2 : P.underlying f2.type = some (.int .i64))
    (hv : Value.okWide P W r b0 t v) (h : DataW.Trod enc P W 0 (fun _ => true) true t v d p) :
    ∃ (ts : List Wlx.TV) (av : Option Addr) (cap : Nat), v = .slice av ts.length cap ∧ ReadV W (.slice av ts.length cap) ts ∧ (av = none → ts.length = 0 ∧ cap = 0) ∧
      ∀ (ts0 : List TypeId) (ds : List (DataW H)) (j : Nat), (DataW.weightsEach P ts0 ds).all (· ≤ reachBytes) = true → ts0[j]? = some t → ds[j]? = some d → ts.length * P.bytesOf e ≤ reachBytes ∧ ∀ i (hi : i < ts.length), (ts[i]).t.length ≤ reachBytes := by
  obtain ⟨ts, D, sp, hr, hd, hD⟩ := toks_arg ht he ck o0 o1 o2 c0 c1 c2 u0 u1 u2 hv h
  rcases hd with ⟨rfl, rfl, rfl⟩ | ⟨rfl, a, c, rfl⟩
  · exact ⟨[], none, 0, rfl, hr, fun _ => ⟨rfl, rfl⟩, fun _ _ _ _ _ _ => ⟨by simp, fun i hi => absurd hi (Nat.not_lt_zero _)⟩⟩
  · refine ⟨ts, some a, c, rfl, hr, (fun h => by cases h), fun ts0 ds j hz h1 h2 => ⟨?_, toks_sized hz h1 h2 ht he hD⟩⟩
    have := sized_slice hz h1 h2 ht
    rw [List.length_map, List.length_range] at this
    exact Nat.le_trans (Nat.mul_le_mul_right _ (by omega)) this
end
end Go.Proofs.YtjkohkhngeioiaaDoor
