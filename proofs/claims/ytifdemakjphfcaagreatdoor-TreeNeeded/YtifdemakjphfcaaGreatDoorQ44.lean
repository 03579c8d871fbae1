/- TDepth, TCopy, LJoin. -/
import Derived.Test.YtifdemakjphfcaaGreatDoorQ43
import Derived.Deep.LoopGhost
import Derived.Laws.AppendOwn
import Derived.Laws.AppendOwnNone
import Derived.BigFrame
namespace Go.Proofs.YtifdemakjphfcaaGreatDoor
open Go.RowKit
set_option linter.unusedVariables false
theorem OwnI.at {w : World} {B n cap : Nat} {av : Option Addr} {ks : List Nat} (h : OwnI w B (.slice av n cap) ks) (hk : 0 < ks.length) : ∃ g, av = some ⟨g, 0, none⟩ ∧ ∀ (j q : Nat), ks[j]? = some q → w.cell? ⟨g, j, none⟩ = some (.int .i64 (q : Int)) := by
  rcases h.2 with ⟨e, h0⟩ | ⟨g, cap', cur, e, hg, hc, h1, _⟩
  · omega
  · simp only [Value.slice.injEq] at e
    obtain ⟨rfl, rfl, rfl⟩ := e
    refine ⟨g, rfl, fun j q hq => ?_⟩
    have hj := (List.getElem?_eq_some_iff.1 hq).1
    rw [World.ownsRow.cellAt h j (by omega)]
    unfold intC
    rw [List.getElem?_map, hq]; rfl
theorem OwnI.shape {w : World} {B : Nat} {v : Value} {ks : List Nat} (h : OwnI w B v ks) : ∃ av cap, v = .slice av ks.length cap := by
  rcases h.2 with ⟨rfl, h0⟩ | ⟨g, cap, cur, rfl, _⟩
  · exact ⟨none, 0, by rw [h0]⟩
  · exact ⟨_, cap, rfl⟩
open Go.RowKit Go.Shelf
theorem RdN.flat {w : World} {av : Option Addr} {L : List Wt.Nd} (h : RdN w av L) : ∀ ad, av = some ad → ∀ j u, (ndRow L)[j]? = some u → w.cell? (ad.add j) = some u := by
  intro ad had j u hu
  have hj : j < L.length * 20 := by
    have := (List.getElem?_eq_some_iff.1 hu).1
    rw [ndRow_length] at this; exact this
  have hd : j / 20 < L.length := by omega
  obtain ⟨bb, off, e, hc⟩ := h (j / 20) hd
  rw [had] at e
  obtain rfl := Option.some.inj e
  have h1 := ndRow_get L (j / 20) hd (j % 20) (Nat.mod_lt _ (by omega))
  rw [show j / 20 * 20 + j % 20 = j by omega, hu] at h1
  have h2 := hc (j % 20) u h1.symm
  rw [show off + j / 20 * 20 + j % 20 = off + j by omega] at h2
  rw [Addr.add_mid]; exact h2
theorem ndRow_all (l : List Wt.Nd) : ∀ u ∈ ndRow l, u.oneCell' = true := by
  intro u hu
  unfold ndRow at hu
  obtain ⟨x, _, hu⟩ := List.mem_flatMap.1 hu
  exact nd_one x u hu
theorem wp_copyN {o : Oper} {a : Act} {K : Act → World → Prop} {Q : Exit → Act → World → Prop} (s x : Operand) (ho : o.op = .call { callee := .builtin .append, args := #[s, x], argTypes := #[22, 22] })
    (w : World) (hs : a.eval s = .slice (some ⟨w.heap.size, 0, none⟩) 0 0) (av : Option Addr) (L : List Wt.Nd) (cap : Nat) (hx : a.eval x = .slice av L.length cap) (hr : RdN w av L) (hno : av = none → L.length = 0 ∧ cap = 0) (hl : True → L.length ≤ 799644820177)
    (h : ∀ v' w', OwnN w' w.heap.size v' L → Below w.heap.size w w' → K (a.put o.dst v') w') : o.wp Tryz.prog a (w.alloc (.cells #[] 45)) K Q := by
  obtain ⟨i0, hi0, hz0, hz1, hz2⟩ := info_parts nodeInfo
  have hl := hl trivial
  have hBa := ball (Below.refl _ w) (.cells #[] 45)
  have hown : (w.alloc (.cells #[] 45)).ownsRow w.heap.size 45 20 (.slice (some ⟨w.heap.size, 0, none⟩) 0 0) 0 [] := ⟨rfl, .inr ⟨w.heap.size, 0, #[], rfl, Nat.le_refl _, heap_alloc_new w _, Nat.le_refl _, by unfold maxLen; omega, rfl, rfl⟩⟩
  cases av with
  | some ad =>
    refine wp_append_own _ s x 22 ho w.heap.size 45 i0 _ 20 176 Tryz.underlying22 hi0 hz0 hz1 hz2 rfl (by decide) _ 0 [] hs hown ad L.length cap (ndRow L) hx (ndRow_length L) ((hr.below hBa).flat ad rfl) (ndRow_all L) (by unfold maxLen; omega) (by omega) (by simp only [World.size_alloc]; omega) ?_
    intro v' w' own hg _
    rw [Nat.zero_add, List.nil_append] at own
    refine h v' w' own (hBa.grown hg (by simp only [World.size_alloc]; omega) (fun k e => by simp [Value.ownBlock] at e; omega))
  | none =>
    obtain ⟨h0, rfl⟩ := hno rfl
    have hL : L = [] := List.eq_nil_of_length_eq_zero h0
    subst hL
    have hrun := run_append_owned_none (P := Tryz.prog) (w := w.alloc (.cells #[] 45)) w.heap.size 22 o.type 45 i0 20 Tryz.underlying22 hi0 _ 0 [] hown
    have hx : a.eval x = .slice none 0 0 := hx
    unfold Oper.wp
    simp only [execOp, ho, resolve, invoke, builtin, Sem.run_bind, Sem.run_pure, Result.andThen_ok, List.map_toArray, List.map_cons, List.map_nil, hs, hx, hrun]
    exact h _ _ hown hBa
theorem wpList_copyN {ops : Array Oper} {rest : List Oper} {o : Oper} {a : Act} {Q : Exit → Act → World → Prop} (hw : Region.wanted o (yielded ops a.tmps) = true) (s x : Operand) (ho : o.op = .call { callee := .builtin .append, args := #[s, x], argTypes := #[22, 22] })
    (w : World) (hs : a.eval s = .slice (some ⟨w.heap.size, 0, none⟩) 0 0) (av : Option Addr) (L : List Wt.Nd) (cap : Nat) (hx : a.eval x = .slice av L.length cap) (hr : RdN w av L) (hno : av = none → L.length = 0 ∧ cap = 0) (hl : True → L.length ≤ 799644820177)
    (h : ∀ v' w', OwnN w' w.heap.size v' L → Below w.heap.size w w' → wpList Tryz.prog ops Q rest (a.put o.dst v') w') : wpList Tryz.prog ops Q (o :: rest) a (w.alloc (.cells #[] 45)) :=
  BigFrame.wpList_want hw fun _ hK => wp_copyN s x ho w hs av L cap hx hr hno hl fun v' w' h1 h2 => hK _ _ (h v' w' h1 h2)
end Go.Proofs.YtifdemakjphfcaaGreatDoor
namespace Wlx
theorem undbl_len (l : List UInt8) : (undbl l).length ≤ l.length := by
  fun_induction undbl l with
  | case1 => exact Nat.le_refl _
  | case2 => exact Nat.le_refl _
  | case3 c d t hcd ih => simp only [List.length_cons]; omega
  | case4 c d t hcd ih => simp only [List.length_cons] at *; omega
theorem Ok.wgt {p : Nat} {l : List UInt8} {ts : List Tok} (h : Ok p l ts) : Wlx.wgt (ts.map tv) ≤ 2 * l.length := by
  induction h using Ok.ind with
  | nil p => exact Nat.zero_le _
  | blank h ih => simp only [List.length_cons]; omega
  | @tok p k u r ts ha hp h ih =>
    have h0 := ha.pos
    rw [List.map_cons, wgt_cons, List.length_append]
    have h1 : (said k u).length ≤ u.length := by
      unfold said
      split
      · have := undbl_len ((u.drop 1).take (u.length - 2))
        rw [List.length_take, List.length_drop] at this
        omega
      · exact Nat.le_refl _
    show (said k u).length + 1 + _ ≤ _
    omega
end Wlx
