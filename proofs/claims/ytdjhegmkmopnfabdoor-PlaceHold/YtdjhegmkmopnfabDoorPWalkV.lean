/- Rows of cells: what Hull and the document's Hull come to. -/
import Derived.Test.YtdjhegmkmopnfabDoorPWalkH
import Derived.Test.YtdjhegmkmopnfabDoorPWalkO
namespace Go.Proofs.YtdjhegmkmopnfabDoor
open Go.RowKit
set_option linter.unusedVariables false

/-- A slice of cells, whatever it is: empty, or cells of memory that is there. -/
def Row3 (w : World) (av : Option Addr) (n : Nat) (F : Nat → Wpl.Cl) : Prop := n = 0 ∨ ∃ bb off, av = some ⟨bb, off, none⟩ ∧ bb < w.heap.size ∧ Cells w bb off n F
theorem Row3.below {W W' : World} {av : Option Addr} {n : Nat} {F : Nat → Wpl.Cl} (h : Row3 W av n F) (hB : Below W.heap.size W W') : Row3 W' av n F := by
  rcases h with h | ⟨bb, off, e, hb, hc⟩
  · exact Or.inl h
  · exact Or.inr ⟨bb, off, e, Nat.lt_of_lt_of_le hb hB.size, hc.below hb hB⟩

theorem row3_of {W : World} {av : Option Addr} {n : Nat} {G : Nat → Nat → Int} (h : ∀ i, i < n → ∃ bb off, av = some ⟨bb, off, none⟩ ∧ bb < W.heap.size ∧ ∀ c, c < 3 → W.cell? ⟨bb, off + i * 3 + c, none⟩ = some (.int .i64 (G i c)) ∧ (Lit.int .i64 (G i c)).wf = true) :
    Row3 W av n (fun i => ⟨G i 0, G i 1, G i 2⟩) := by
  by_cases h0 : n = 0
  · exact Or.inl h0
  · obtain ⟨bb, off, e, hl, _⟩ := h 0 (by omega)
    refine Or.inr ⟨bb, off, e, hl, fun i hi => ?_⟩
    obtain ⟨b2, o2, e2, _, g⟩ := h i hi
    obtain ⟨rfl, rfl⟩ : bb = b2 ∧ off = o2 := by have := e.symm.trans e2; simpa using this
    exact ⟨(g 0 (by omega)).1, (g 1 (by omega)).1, (g 2 (by omega)).1⟩
theorem hull_zero (av : Option Addr) (cap : Nat) (F : Nat → Wpl.Cl) (w : World) :
    Calls Tryd.prog 23 #[.slice av 0 cap] w fun e w' => e = .returned (.tuple #[.agg #[.int .i64 0, .int .i64 0, .int .i64 0, .int .i64 0, .int .i64 0], .bool false]) ∧ Below w.heap.size w w' := by
  go_enter Tryd.func23, Tryd.ntmps23
  go_wp2
  refine bodyPost_ret (v := .tuple #[.agg #[.int .i64 0, .int .i64 0, .int .i64 0, .int .i64 0, .int .i64 0], .bool false]) (by simp [results, Tryd.results23, go_sem]) rfl ⟨rfl, ?_⟩
  exact by with_reducible repeat (first | exact Below.refl _ _ | refine x3_below_drewN ?_ _ | refine Below.setCell ?_ (by first | (simp; done) | (simp; omega) | omega) _ | refine Below.drew ?_ | refine x3_below_end ?_ (by assumption) | refine x3_ball ?_ _)
theorem hull_row (av : Option Addr) (n cap : Nat) (F : Nat → Wpl.Cl) (w : World) (hn : n ≤ 1000000000000000) (hcap : n ≤ cap) (hcap2 : cap ≤ 9223372036854775807) (h : Row3 w av n F) :
    Calls Tryd.prog 23 #[.slice av n cap] w fun e w' => e = .returned (.tuple #[.agg #[.int .i64 (Wpl.hullV F n).s, .int .i64 (Wpl.hullV F n).t, .int .i64 (Wpl.hullV F n).l, .int .i64 (Wpl.hullV F n).b, .int .i64 (Wpl.hullV F n).r], .bool (Wpl.hullOk F n)]) ∧ Below w.heap.size w w' := by
  by_cases h0 : n = 0
  · subst h0
    exact hull_zero av cap F w
  · rcases h with h | ⟨bb, off, rfl, hb, hc⟩
    · omega
    · exact hull_any bb off n cap F w (by omega) hn hcap hcap2 hb hc

/-- The hull of the first j cells; zeros of none. -/
def hullW (F : Nat → Wpl.Cl) (j : Nat) : Wpl.Ar := if j = 0 then Wpl.nullA else Wpl.hullU F (j - 1)
theorem grow_one (c : Wpl.Cl) : Wpl.grow (Wpl.oneA c) c = Wpl.oneA c := by unfold Wpl.grow Wpl.oneA; simp

end Go.Proofs.YtdjhegmkmopnfabDoor