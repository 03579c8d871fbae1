/- Queues: how many wait, and who goes ahead. -/

import Derived.Test.YtpbjmhcpaeillaaQPut
namespace Go.Proofs.Ytpbjmhcpaeillaa
open Go.RowKit
set_option linter.unusedVariables false

theorem size_any (hb mb B : Nat) (rv : Value) (l : List Wq.Wr) (F : List (Wpl.Cl × Int)) (w : World) (h : HQ w hb mb B rv l F) :
    Calls Try.prog 39 #[.pointer (some ⟨hb, 0, none⟩)] w fun en w' => en = .returned (.int .i64 (l.length : Int)) ∧ Below w.heap.size w w' := by
  obtain ⟨ra, rc, erv, _, _⟩ := own_open h.own
  obtain ⟨n, hn⟩ : ∃ n, l.length = n := ⟨_, rfl⟩
  rw [hn] at erv
  subst erv
  obtain ⟨c0, _, _, _⟩ := h.hd.two
  rw [hn]
  clear h hn
  go_enter Try.func39, Try.ntmps39
  go_wp2
  go_ret
  exact ⟨rfl, Below.refl _ _⟩
/-- No entry. -/
abbrev zeW : Wq.Wr := ⟨0, 0, 0, 0, 0⟩
theorem first_none (hb mb B : Nat) (rv : Value) (F : List (Wpl.Cl × Int)) (w : World) (h : HQ w hb mb B rv [] F) :
    Calls Try.prog 38 #[.pointer (some ⟨hb, 0, none⟩)] w fun en w' => en = .returned (.tuple #[.agg (wrV zeW).toArray, .bool false]) ∧ Below w.heap.size w w' := by
  obtain ⟨ra, rc, erv, _, _⟩ := own_open h.own
  have erv' : rv = .slice ra 0 rc := erv
  subst erv'
  have hb0 := ball (Below.refl _ w) (.cells #[.int .i64 0, .int .i64 0, .int .i64 0, .int .i64 0, .int .i64 0] 58)
  have p := AtL.new0 w 58 [.int .i64 0, .int .i64 0, .int .i64 0, .int .i64 0, .int .i64 0]
  obtain ⟨c0, _, _, _⟩ := (h.below hb0).hd.two
  obtain ⟨d0, d1, d2, d3, d4, z⟩ := AtL.five p
  have hb1 := put5_below hb0 (Nat.le_refl _) (.int .i64 0) (.int .i64 0) (.int .i64 0) (.int .i64 0) (.int .i64 0)
  clear h
  go_enter Try.func38, Try.ntmps38
  go_wp2
  refine bodyPost_ret (v := .tuple #[.agg #[.int .i64 0, .int .i64 0, .int .i64 0, .int .i64 0, .int .i64 0], .bool false]) (by simp [results, Try.results38, go_sem]) rfl ⟨rfl, ?_⟩
  exact by with_reducible repeat (first | exact Below.refl _ _ | refine below_drewN ?_ _ | refine Below.setCell ?_ (by first | (simp; done) | (simp; omega) | omega) _ | refine Below.drew ?_ | refine below_end ?_ (by assumption) | refine ball ?_ _)
theorem first_some (hb mb B : Nat) (rv : Value) (a : Wq.Wr) (l : List Wq.Wr) (F : List (Wpl.Cl × Int)) (w : World) (h : HQ w hb mb B rv (a :: l) F) :
    Calls Try.prog 38 #[.pointer (some ⟨hb, 0, none⟩)] w fun en w' => en = .returned (.tuple #[.agg (wrV a).toArray, .bool true]) ∧ Below w.heap.size w w' := by
  obtain ⟨ra, rc, erv, _, hr⟩ := own_open h.own
  obtain ⟨g, eg, _⟩ := hr (by simp)
  obtain ⟨n, hn⟩ : ∃ n, (a :: l).length = n := ⟨_, rfl⟩
  have hn0 : 0 < n := by rw [← hn]; simp
  rw [hn, eg] at erv
  subst erv
  have hb0 := ball (Below.refl _ w) (.cells #[.int .i64 0, .int .i64 0, .int .i64 0, .int .i64 0, .int .i64 0] 58)
  have p := AtL.new0 w 58 [.int .i64 0, .int .i64 0, .int .i64 0, .int .i64 0, .int .i64 0]
  have h0 := h.below hb0
  obtain ⟨c0, _, _, _⟩ := h0.hd.two
  have r0 := h0.row hn hn0 (a := a) rfl
  rw [Nat.zero_mul] at r0
  have hth : (w.alloc (.cells #[.int .i64 0, .int .i64 0, .int .i64 0, .int .i64 0, .int .i64 0] 58)).there w.heap.size 0 5 := p.there
  have pS : AtL ((w.alloc (.cells #[.int .i64 0, .int .i64 0, .int .i64 0, .int .i64 0, .int .i64 0] 58)).setCells w.heap.size 0 (wrV a)) w.heap.size (wrV a) := p.setAll rfl
  have HB1 : Hid (Below w.heap.size w ((w.alloc (.cells #[.int .i64 0, .int .i64 0, .int .i64 0, .int .i64 0, .int .i64 0] 58)).setCells w.heap.size 0 (wrV a))) := bset hb0 (Nat.le_refl _) _ _
  have hni : ¬ (n : Int) = 0 := by omega
  have hn0i : (0 : Int) < (n : Int) := by omega
  obtain ⟨⟨a0, a1⟩, ⟨a2, a3⟩, a4⟩ := r0
  clear h h0 hn hn0 eg hr hb0 p
  go_enter Try.func38, Try.ntmps38
  go_upto_region 1 with fail
  generalize w.alloc (.cells #[.int .i64 0, .int .i64 0, .int .i64 0, .int .i64 0, .int .i64 0] 58) = W0 at *
  go_wp2_with ((with_reducible refine wpList_store_mid ?_ 58 (.tmp 2) (.tmp 16) ?_ w.heap.size 0 (wrV a).toArray ?_ ?_ ?_ ?_ ?_ ?_); rfl; rfl; rfl; rfl; exact hth; kernel_rfl; exact oneW a)
  generalize W0.setCells w.heap.size 0 (wrV a) = W1 at *
  obtain ⟨d0, d1, d2, d3, d4, _⟩ := AtL.five pS
  refine bodyPost_ret (v := .tuple #[.agg #[.int .i64 a.s, .int .i64 a.r, .int .i64 a.c, .int .i64 a.ln, .int .i64 a.lv], .bool true]) (by simp [results, Try.results38, go_sem, d0, d1, d2, d3, d4]) rfl ⟨rfl, HB1.out⟩
end Go.Proofs.Ytpbjmhcpaeillaa
