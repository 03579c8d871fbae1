/- A slice of structs whose fields are ints: opened at every index. -/
import Derived.Deep.Slices
import Derived.Lib.SmallJoins
import Derived.SizedLaws
import Derived.Carry
namespace Go.Proofs.YtdjhegmkmopnfabDoor
open Go.ChangeShapes Go.WideShapes Go.Deep

section
variable {H : Type} {enc : TypeId × Value → H} {P : Program} {w : World} {base : Nat} {spare : Nat → Bool} {held : Bool}

theorem open_rows {t e : TypeId} {fs : Array Field} {fuel : Nat} {cs : List Value} {x : DataW H × List MemPlace} (k : Nat) (ht : P.underlying t = some (.slice e)) (he : P.underlying e = some (.struct fs)) (ck : P.cellsOf e = k)
    (hf : ∀ c, c < k → ∃ f, fs[c]? = some f ∧ f.offset = c ∧ P.cellsOf f.type = 1 ∧ P.underlying f.type = some (.int .i64)) (h : DataW.trod enc P w base spare held fuel t cs = some x) :
    (cs = [.slice none 0 0] ∧ x = (.nil, [])) ∨
    ∃ (a : Addr) (len cap m : Nat) (D : Nat → DataW H) (G : Nat → Nat → Int), cs = [.slice (some a) len cap] ∧ len ≤ cap ∧ cap ≤ maxLen ∧ m = (if spare a.block then cap else len) ∧
      x.1 = .slice ((List.range len).map D) ((List.range (m - len)).map fun j => D (len + j)) ∧
      ∀ i c, i < m → c < k → w.cell? (a.add (i * k + c)) = some (.int .i64 (G i c)) ∧ (Lit.int .i64 (G i c)).wf = true := by
  rcases open_slice ht h with h0 | ⟨a, len, cap, m, n, D, Pl, rfl, hb, hl, hm, hmm, rfl, hx⟩
  · exact Or.inl h0
  right
  have each : ∀ i, i < m → ∃ g : Nat → Int, ∀ c, c < k → w.cell? (a.add (i * k + c)) = some (.int .i64 (g c)) ∧ (Lit.int .i64 (g c)).wf = true := by
    intro i hi
    obtain ⟨cs', h1, h2⟩ := hx i hi
    rw [ck] at h1
    obtain ⟨_, hlen, hcell⟩ := World.cells?_some h1
    obtain ⟨xs, q, _, _, _, hxl, hg⟩ := DataW.trod_struct he h2
    refine choose_lt (p := fun c v => w.cell? (a.add (i * k + c)) = some (.int .i64 v) ∧ (Lit.int .i64 v).wf = true) fun c hc => ?_
    obtain ⟨f, f1, f2, f3, f4⟩ := hf c hc
    have g1 := hg c f f1
    rw [f2, f3] at g1
    have hc' : c < cs'.length := by omega
    rw [List.drop_eq_getElem_cons hc', List.take_succ_cons, List.take_zero] at g1
    have hxc : c < xs.length := by rw [hxl]; exact (Array.getElem?_eq_some_iff.1 f1).1
    rw [List.getElem?_eq_getElem hxc] at g1
    obtain ⟨v, e1, _, e3⟩ := DataW.trod_int f4 g1
    simp only [List.cons.injEq, and_true] at e1
    have e2 := hcell c (by omega)
    rw [add_add] at e2
    refine ⟨v, ?_, e3⟩
    rw [e2, List.getElem?_eq_getElem hc', e1]
  obtain ⟨G, hG⟩ := choose_lt each
  exact ⟨a, len, cap, m, D, G, rfl, hl, hm, hmm, rfl, fun i c hi hc => hG i hi c hc⟩

/-- A slice that came in, whatever it is: nil, empty, or cells of old memory. -/
theorem rows_arg {W : World} {r : Reach} {b0 : Nat} {t e : TypeId} {fs : Array Field} {v : Value} {d : DataW H} {p : List MemPlace} (k : Nat) (hk : 0 < k) (ht : P.underlying t = some (.slice e)) (he : P.underlying e = some (.struct fs)) (ck : P.cellsOf e = k)
    (hf : ∀ c, c < k → ∃ f, fs[c]? = some f ∧ f.offset = c ∧ P.cellsOf f.type = 1 ∧ P.underlying f.type = some (.int .i64)) (hv : Value.okWide P W r b0 t v) (h : DataW.Trod enc P W 0 (fun _ => true) true t v d p) :
    ∃ (av : Option Addr) (len cap : Nat) (G : Nat → Nat → Int), v = .slice av len cap ∧ (d = .nil ∧ av = none ∧ len = 0 ∧ cap = 0 ∨ ∃ el sp a, d = .slice el sp ∧ el.length + sp.length = cap ∧ len ≤ cap ∧ av = some a) ∧
      ∀ i, i < len → ∃ bb off, av = some ⟨bb, off, none⟩ ∧ bb < W.heap.size ∧ ∀ c, c < k → W.cell? ⟨bb, off + i * k + c, none⟩ = some (.int .i64 (G i c)) ∧ (Lit.int .i64 (G i c)).wf = true := by
  obtain ⟨a0, len, cap, rfl⟩ := okWide_slice ht hv
  obtain ⟨fuel, hg⟩ := h
  rcases open_rows k ht he ck hf hg with ⟨hcs, hx⟩ | ⟨a, len', cap', m, D, G, hcs, hl, hm, hmm, hx, hall⟩
  · simp [Value.cells] at hcs
    obtain ⟨rfl, rfl, rfl⟩ := hcs
    simp only [Prod.mk.injEq] at hx
    exact ⟨none, 0, 0, fun _ _ => 0, rfl, Or.inl ⟨hx.1, rfl, rfl, rfl⟩, fun i hi => absurd hi (Nat.not_lt_zero _)⟩
  · simp [Value.cells] at hcs
    obtain ⟨rfl, rfl, rfl⟩ := hcs
    simp only [if_true] at hmm
    subst hmm
    refine ⟨some a, len, m, G, rfl, Or.inr ⟨_, _, a, hx, by simp; omega, hl, rfl⟩, fun i hi => ?_⟩
    have c00 := (hall i 0 (by omega) hk).1
    have sp : (a.add (i * k + 0)).spot = none := World.cell?_spot c00
    have hlt : (a.add (i * k + 0)).block < W.heap.size := World.block_lt_of_cell? W _ c00
    obtain ⟨b, off, spot⟩ := a
    have hsp : spot = none ∧ b < W.heap.size := by
      unfold Addr.add at sp hlt
      by_cases h0 : i * k + 0 = 0
      · rw [if_pos h0] at sp hlt; exact ⟨sp, hlt⟩
      · have h1 := (hall 0 0 (by omega) hk).1
        have s1 : ((⟨b, off, spot⟩ : Addr).add (0 * k + 0)).spot = none := World.cell?_spot h1
        have l1 : ((⟨b, off, spot⟩ : Addr).add (0 * k + 0)).block < W.heap.size := World.block_lt_of_cell? W _ h1
        rw [Nat.zero_mul] at s1 l1
        exact ⟨s1, l1⟩
    obtain ⟨rfl, hbw⟩ := hsp
    refine ⟨b, off, rfl, hbw, fun c hc => ?_⟩
    have q := hall i c (by omega) hc
    rw [add_plain] at q
    rw [Nat.add_assoc]
    exact q
end
end Go.Proofs.YtdjhegmkmopnfabDoor
