/- Queues: a row is copied. -/
import Derived.Test.YtpbjmhcpaeillaaQQd
namespace Go.Proofs.Ytpbjmhcpaeillaa
open Go.RowKit
set_option linter.unusedVariables false

theorem oneF : ∀ (l : List Wq.Wr), ∀ u ∈ flatW l, u.oneCell' = true
  | [], u, hu => by cases hu
  | y :: r, u, hu => by
    rcases List.mem_append.1 hu with q | q
    · exact oneWl y u q
    · exact oneF r u q
/-- A row is laid behind another one. -/
theorem wpList_apR {ops : Array Oper} {rest : List Oper} {o : Oper} {a : Act} {Q : Exit → Act → World → Prop} (hgd : o.guard = none) (sl x : Operand) (ho : o.op = .call { callee := .builtin .append, args := #[sl, x], argTypes := #[68, 68] })
    (w : World) (B : Nat) (hB : B ≤ w.heap.size) (v : Value) (n : Nat) (xs : List Value) (hs : a.eval sl = v) (hown : w.ownsRow B 58 5 v n xs) (k m c : Nat) (l : List Wq.Wr) (hm : l.length = m) (hx : a.eval x = .slice (some ⟨k, 0, none⟩) m c) (hat : ∀ j u, (flatW l)[j]? = some u → w.cell? ⟨k, j, none⟩ = some u) (hn : n + m ≤ 2000000000)
    (h : ∀ v' w', w'.ownsRow B 58 5 v' (n + m) (xs ++ flatW l) → w.grownBy w' v.ownBlock → wpList Try.prog ops Q rest (a.put o.dst v') w') : wpList Try.prog ops Q (o :: rest) a w := by
  refine wpList_plain hgd fun K hK => ?_
  obtain ⟨i0, hi0, hz0, hz1, hz2⟩ := info_partsQ wrInfo
  obtain ⟨v', w', hr, h2, h3, _, h5⟩ := run_append_own_at (P := Try.prog) w B 68 o.type 58 i0 _ 5 40 undWrs hi0 hz0 hz1 hz2 rfl (by decide) v n xs hown ⟨k, 0, none⟩ m c (flatW l) (by rw [flatW_len, hm]) (fun j z hj => by
      have := hat j z hj
      rw [show (⟨k, 0, none⟩ : Addr).add j = ⟨k, j, none⟩ from by
        simp [Addr.add]
        try (intro h0; omega)]
      exact this) (oneF l) (by unfold maxLen; omega) (by omega) hB
  unfold Oper.wp execOp
  simp only [ho, resolve, invoke, builtin, Sem.run_bind, Sem.run_pure, Result.andThen_ok, List.map_toArray, List.map_cons, List.map_nil, hs, hx, hr]
  exact hK _ _ (h v' w' h2 h3)
theorem eqNil1 (g n c : Nat) (w : World) : (binOp .eql 68 (.slice (some ⟨g, 0, none⟩) n c) (.slice none 0 0)).run Try.prog w = .ok (.bool false) w := by kernel_rfl
theorem eqNil0 (w : World) : (binOp .eql 68 (.slice none 0 0) (.slice none 0 0)).run Try.prog w = .ok (.bool true) w := by kernel_rfl
/-- What Clone answers. -/
def CloP (l : List Wq.Wr) (w : World) (en : Ending) (w' : World) : Prop := (∃ v, en = .returned v ∧ w'.ownsRow w.heap.size 58 5 v l.length (flatW l)) ∧ Below w.heap.size w w'
set_option maxRecDepth 100000 in
set_option maxHeartbeats 4000000 in
theorem clone_any (rv : Value) (l : List Wq.Wr) (B : Nat) (w : World) (h : w.ownsRow B 58 5 rv l.length (flatW l)) (hN : True → l.length ≤ 1000000000) :
    Calls Try.prog 48 #[rv] w (CloP l w) := by
  rcases h.2 with ⟨e, h0⟩ | ⟨g, cap, cur, e, hbg, hg, h1, h2, h3, h4⟩
  · subst e
    have hl : l = [] := List.eq_nil_of_length_eq_zero h0
    subst hl
    clear h
    have en := fun w => eqNil0 w
    go_enter Try.func48, Try.ntmps48
    go_wp2
    go_ret
    exact ⟨⟨_, rfl, rfl, Or.inl ⟨rfl, rfl⟩⟩, Below.refl _ _⟩
  · subst e
    obtain ⟨n, hn⟩ : ∃ n, l.length = n := ⟨_, rfl⟩
    have HC : Hid (∀ j u, (flatW l)[j]? = some u → w.cell? ⟨g, j, none⟩ = some u) := fun j u hu => by
      have hc := h.cells (g := g) rfl j u hu
      rwa [show (⟨g, 0, none⟩ : Addr).add j = ⟨g, j, none⟩ from by simp [Addr.add]; intro h; exact h.symm] at hc
    have HL : Hid (l.length = n ∧ (True → n ≤ 1000000000)) := ⟨hn, fun _ => by have := hN trivial; omega⟩
    have ba := ball (Below.refl _ w) (.cells #[] 58)
    have oE : (w.alloc (.cells #[] 58)).ownsRow w.heap.size 58 5 (.slice (some ⟨w.heap.size, 0, none⟩) 0 0) 0 [] := ⟨rfl, Or.inr ⟨w.heap.size, 0, #[], rfl, Nat.le_refl _, (Go.MapKept.heap_alloc w _).1, Nat.le_refl _, by unfold maxLen; omega, rfl, rfl⟩⟩
    have HB0 : Hid (Below w.heap.size w (w.alloc (.cells #[] 58))) := ba
    have hs0 : w.heap.size ≤ (w.alloc (.cells #[] 58)).heap.size := ba.size
    rw [hn]
    clear h h1 h2 h3 h4 hg hbg hN hn ba
    have en := fun w => eqNil1 g n cap w
    go_enter Try.func48, Try.ntmps48
    go_wp2_with (at_builtin; refine wpList_apR rfl (.tmp 5) (.tmp 6) rfl (w.alloc (.cells #[] 58)) w.heap.size hs0 (.slice (some ⟨w.heap.size, 0, none⟩) 0 0) 0 [] rfl oE g n cap l HL.out.1 rfl (fun j u hu => cell_below HB0.out (HC.out j u hu)) (by have := HL.out.2 trivial; omega) ?_; intro v2 w2 o2 hg2)
    have HE : Hid (CloP l w (.returned v2) w2) := by
      refine ⟨⟨v2, rfl, by rw [HL.out.1]; simpa using o2⟩, HB0.out.grown hg2 HB0.out.size (fun k e => ?_)⟩
      have : some w.heap.size = some k := e
      simp at this
      omega
    clear o2 hg2
    go_wp2_with fail
    go_ret
    exact HE.out
end Go.Proofs.Ytpbjmhcpaeillaa
