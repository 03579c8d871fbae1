/- append, and that the old row stays; rows of tokens that are written and grown. -/
import Derived.Test.YtjkohkhngeioiaaDoorLAppend
import Derived.Maps.AppendAt
import Derived.Laws.Tables
namespace Go.Proofs.YtjkohkhngeioiaaDoor
open Go.RowKit
set_option linter.unusedVariables false

theorem run_append_keep {P : Program} (w : World) (base : Nat) (t ty e : TypeId) (i : TypeInfo) (z : Value) (size bytes : Nat) (ht : P.underlying t = some (.slice e)) (hi : P.info? e = some i) (hz : i.zero = some z)
    (hsize : i.size = size) (hby : i.bytes = bytes) (hzs : z.cells.size = size) (hsz : 0 < size)
    (v : Value) (n : Nat) (xs : List Value) (hown : w.ownsRow base e size v n xs)
    (a : Addr) (m c : Nat) (news : List Value) (hl : news.length = m * size) (hnews : ∀ j u, news[j]? = some u → w.cell? (a.add j) = some u) (h1 : ∀ u ∈ news, u.oneCell' = true)
    (h63 : n + m ≤ maxLen) (hbytes : (n + m) * bytes ≤ 140737488355328) (hbase : base ≤ w.heap.size) :
    ∃ v' w', (Builtin.append_ #[t, t] ty #[v, .slice (some a) m c]).run P w = .ok v' w' ∧ w'.ownsRow base e size v' (n + m) (xs ++ news) ∧ w.grownBy w' v.ownBlock ∧
      (v'.ownBlock = v.ownBlock ∨ v'.ownBlock = some w.heap.size) ∧ (∀ g j, v.ownBlock = some g → j < n * size → w'.cell? ⟨g, j, none⟩ = w.cell? ⟨g, j, none⟩) := by
  obtain ⟨v', w', hr, h2, h3, _, h5⟩ := run_append_own_at (P := P) w base t ty e i z size bytes ht hi hz hsize hby hzs hsz v n xs hown a m c news hl hnews h1 h63 hbytes hbase
  refine ⟨v', w', hr, h2, h3, h5, ?_⟩
  intro g j hg hj
  subst hsize hby
  have hsmall : n + m ≤ 9223372036854775807 := by simp only [maxLen] at h63; omega
  rcases hown.2 with ⟨rfl, rfl⟩ | ⟨g', cap, cur, rfl, hbg, hgg, hnc, hcm, hcs, htake⟩
  · simp [Value.ownBlock] at hg
  · obtain rfl : g' = g := by simpa [Value.ownBlock] using hg
    have hjc : j < cur.size := by
      rw [hcs]
      exact Nat.lt_of_lt_of_le hj (Nat.mul_le_mul_right _ hnc)
    by_cases hroom : n + m ≤ cap
    · have hfit : n * i.size + news.length ≤ cur.size := by rw [hl, hcs, ← Nat.add_mul]; exact Nat.mul_le_mul_right _ hroom
      have hr2 := run_append_room (P := P) w t ty e i ht hi g' n cap cur hgg a m c news hl hnews h1 hroom hfit
      rw [hr2] at hr
      simp only [Result.ok.injEq] at hr
      obtain ⟨_, rfl⟩ := hr
      rw [cell_of_row _ g' j _ e (0, 0) (setRow_heap w g' cur _ e _ hgg), cell_of_row w g' j cur e (0, 0) hgg]
      simp only [List.getElem?_toArray]
      rw [List.append_assoc, List.getElem?_append_left (by rw [List.length_take, Array.length_toList]; omega), List.getElem?_take, if_pos hj]
      simp
    · have holds : ∀ j u, xs[j]? = some u → w.cell? ((⟨g', 0, none⟩ : Addr).add j) = some u := hown.cells (g := g') rfl
      have hr2 := run_append_grow (P := P) w t ty e i z ht hi hz ⟨g', 0, none⟩ n cap xs hown.1 holds a m c news hl hnews (by omega) (by omega) (growslice_fits (by omega) hbytes)
      rw [hr2] at hr
      simp only [Result.ok.injEq] at hr
      obtain ⟨_, rfl⟩ := hr
      have hlt : g' < w.heap.size := (Array.getElem?_eq_some_iff.1 hgg).1
      exact World.cell?_of_block (heap_alloc_old w.drew _ hlt)
theorem wpList_append_keep {P : Program} (w : World) {ops : Array Oper} {rest : List Oper} {o : Oper} {a : Act} {Q : Exit → Act → World → Prop} (hgd : o.guard = none) (s x : Operand) (t : TypeId)
    (ho : o.op = .call { callee := .builtin .append, args := #[s, x], argTypes := #[t, t] })
    (base : Nat) (e : TypeId) (i : TypeInfo) (z : Value) (size bytes : Nat) (ht : P.underlying t = some (.slice e)) (hi : P.info? e = some i) (hz : i.zero = some z)
    (hsize : i.size = size) (hby : i.bytes = bytes) (hzs : z.cells.size = size) (hsz : 0 < size)
    (v : Value) (n : Nat) (xs : List Value) (hs : a.eval s = v) (hown : w.ownsRow base e size v n xs)
    (ad : Addr) (m c : Nat) (news : List Value) (hx : a.eval x = .slice (some ad) m c) (hl : news.length = m * size) (hnews : ∀ j u, news[j]? = some u → w.cell? (ad.add j) = some u) (h1 : ∀ u ∈ news, u.oneCell' = true)
    (h63 : n + m ≤ maxLen) (hbytes : (n + m) * bytes ≤ 140737488355328) (hbase : base ≤ w.heap.size)
    (h : ∀ v' w', w'.ownsRow base e size v' (n + m) (xs ++ news) → w.grownBy w' v.ownBlock → (v'.ownBlock = v.ownBlock ∨ v'.ownBlock = some w.heap.size) → (∀ g j, v.ownBlock = some g → j < n * size → w'.cell? ⟨g, j, none⟩ = w.cell? ⟨g, j, none⟩) → wpList P ops Q rest (a.put o.dst v') w') : wpList P ops Q (o :: rest) a w := by
  refine wpList_plain hgd fun K hK => ?_
  obtain ⟨v', w', hr, h2, h3, h4, h5⟩ := run_append_keep (P := P) w base t o.type e i z size bytes ht hi hz hsize hby hzs hsz v n xs hown ad m c news hl hnews h1 h63 hbytes hbase
  unfold Oper.wp execOp
  simp only [ho, resolve, invoke, builtin, Sem.run_bind, Sem.run_pure, Result.andThen_ok, List.map_toArray, List.map_cons, List.map_nil, hs, hx, hr]
  exact hK _ _ (h v' w' h2 h3 h4 h5)

/-- Tokens that a call has made, as memory has them. -/
abbrev OwnV (w : World) (base : Nat) (v : Value) (ts : List Wlx.TV) : Prop := w.ownsRow base 31 3 v ts.length (rowV ts)
theorem OwnV.of {w : World} {B : Nat} {v : Value} {ts : List Wlx.Tok} (h : OwnT w B v ts) : OwnV w B v (ts.map Wlx.tv) := by
  show w.ownsRow B _ 3 v (ts.map Wlx.tv).length (rowV (ts.map Wlx.tv))
  rw [List.length_map, rowV_tv]; exact h
theorem OwnV.form {w : World} {B : Nat} {v : Value} {ts : List Wlx.TV} (h : OwnV w B v ts) : ∃ a c, v = .slice a ts.length c ∧ (0 < ts.length → ∃ g, a = some ⟨g, 0, none⟩ ∧ B ≤ g ∧ g < w.heap.size) := by
  rcases h.2 with ⟨e, h0⟩ | ⟨g, cap, cur, e, hg, hc, _⟩
  · exact ⟨none, 0, by rw [e, h0], fun h => by omega⟩
  · exact ⟨some ⟨g, 0, none⟩, cap, e, fun _ => ⟨g, rfl, hg, (Array.getElem?_eq_some_iff.1 hc).1⟩⟩
theorem OwnV.below {B : Nat} {v : Value} {ts : List Wlx.TV} {w w' : World} (h : OwnV w B v ts) (hb : Below w.heap.size w w') : OwnV w' B v ts :=
  h.kept (row := none) ⟨hb.os, hb.tape, hb.output, hb.size, fun k hk _ => hb.block k hk⟩ (by cases v.ownBlock <;> simp)
/-- What a slice's cells are, whoever owns them. -/
def RdV (w : World) (a : Option Addr) (ts : List Wlx.TV) : Prop :=
  ∀ i (h : i < ts.length), ∃ g, a = some ⟨g, 0, none⟩ ∧ g < w.heap.size ∧ w.cell? ⟨g, i * 3, none⟩ = some (.int .i64 (ts[i]).k) ∧ w.cell? ⟨g, i * 3 + 1, none⟩ = some (.string ⟨(ts[i]).t.toArray⟩) ∧ w.cell? ⟨g, i * 3 + 2, none⟩ = some (.int .i64 (ts[i]).p)
theorem RdV.own {w : World} {B n c : Nat} {a : Option Addr} {ts : List Wlx.TV} (h : OwnV w B (.slice a n c) ts) : RdV w a ts := by
  intro i hi
  rcases h.2 with ⟨_, h0⟩ | ⟨g, cap, cur, e, hg, hc, _⟩
  · omega
  · simp only [Value.slice.injEq] at e
    obtain ⟨rfl, rfl, rfl⟩ := e
    obtain ⟨r0, r1, r2⟩ := rowV_get ts i hi
    refine ⟨g, rfl, (Array.getElem?_eq_some_iff.1 hc).1, ?_, ?_, ?_⟩
    · rw [World.ownsRow.cellAt h _ (by omega), r0]
    · rw [World.ownsRow.cellAt h _ (by omega), r1]
    · rw [World.ownsRow.cellAt h _ (by omega), r2]
theorem RdV.grown {w w' : World} {row : Option Nat} {a : Option Addr} {ts : List Wlx.TV} (h : RdV w a ts) (hg : w.grownBy w' row) (hk : 0 < ts.length → ∀ g, a = some ⟨g, 0, none⟩ → some g ≠ row ∨ ∀ j, j < ts.length * 3 → w'.cell? ⟨g, j, none⟩ = w.cell? ⟨g, j, none⟩) : RdV w' a ts := by
  intro i hi
  obtain ⟨g, e, hlt, c0, c1, c2⟩ := h i hi
  have hs := hg.size
  refine ⟨g, e, by omega, ?_, ?_, ?_⟩
  all_goals
    rcases hk (by omega) g e with hn | hn
    · rw [World.cell?_of_block (hg.block g hlt hn)]; assumption
    · rw [hn _ (by omega)]; assumption
theorem RdV.alloc {w : World} {a : Option Addr} {ts : List Wlx.TV} (h : RdV w a ts) (o : Obj) : RdV (w.alloc o) a ts := by
  intro i hi
  obtain ⟨g, e, hlt, c0, c1, c2⟩ := h i hi
  refine ⟨g, e, by simp; omega, ?_, ?_, ?_⟩
  · rw [World.cell?_alloc_past _ _ _ hlt]; exact c0
  · rw [World.cell?_alloc_past _ _ _ hlt]; exact c1
  · rw [World.cell?_alloc_past _ _ _ hlt]; exact c2

/-- A row whose first tokens bear marks of their own. -/
def mks (c : Int) (n : Nat) : List Wlx.TV := (List.range n).map fun (i : Nat) => ⟨0, [], c + (i : Int)⟩
theorem mks_length (c : Int) (n : Nat) : (mks c n).length = n := by simp [mks]
theorem mks_succ (c : Int) (n : Nat) : mks c (n + 1) = mks c n ++ [⟨0, [], c + (n : Int)⟩] := by simp [mks, List.range_succ]
theorem mks_get (c : Int) (n i : Nat) (h : i < (mks c n).length) : ((mks c n)[i]).p = c + (i : Int) := by simp [mks]
theorem set_mid (A : List Value) (x y z : Value) (r : List Value) (a b c : Value) : (((A ++ x :: y :: z :: r).set A.length a).set (A.length + 1) b).set (A.length + 2) c = A ++ a :: b :: c :: r := by
  induction A with
  | nil => rfl
  | cons h t ih => simp only [List.cons_append, List.length_cons, List.set_cons_succ, ih]
theorem rowV_put (a : List Wlx.TV) (t x : Wlx.TV) (r : List Wlx.TV) (k : Nat) (hk : k = a.length * 3) : (((rowV (a ++ t :: r)).set k (.int .i64 x.k)).set (k + 1) (.string ⟨x.t.toArray⟩)).set (k + 2) (.int .i64 x.p) = rowV (a ++ [x] ++ r) := by
  subst hk
  rw [← rowV_length, rowV_app]
  show (((rowV a ++ (.int .i64 t.k :: .string ⟨t.t.toArray⟩ :: .int .i64 t.p :: rowV r)).set _ _).set _ _).set _ _ = _
  rw [set_mid, rowV_app, rowV_app, List.append_assoc]
  rfl
/-- A token is written into a row of one's own. -/
theorem OwnV.put {w : World} {B g n cap : Nat} {a : List Wlx.TV} {t : Wlx.TV} {r : List Wlx.TV} (h : OwnV w B (.slice (some ⟨g, 0, none⟩) n cap) (a ++ t :: r)) (x : Wlx.TV) (k : Nat) (hk : k = a.length * 3) (hn : n = (a ++ t :: r).length) :
    OwnV (((w.setCell ⟨g, k, none⟩ (.int .i64 x.k)).setCell ⟨g, k + 1, none⟩ (.string ⟨x.t.toArray⟩)).setCell ⟨g, k + 2, none⟩ (.int .i64 x.p)) B (.slice (some ⟨g, 0, none⟩) n cap) (a ++ [x] ++ r) := by
  subst hn
  have h3 := (((World.ownsRow.stored h k (.int .i64 x.k)).1.stored (k + 1) (.string ⟨x.t.toArray⟩)).1.stored (k + 2) (.int .i64 x.p)).1
  rw [rowV_put a t x r k hk] at h3
  show World.ownsRow _ B _ 3 _ (a ++ [x] ++ r).length (rowV (a ++ [x] ++ r))
  have hl : (a ++ [x] ++ r).length = (a ++ t :: r).length := by simp
  rw [hl]
  exact h3
theorem OwnV.far {w : World} {B n c : Nat} {a : Option Addr} {ts : List Wlx.TV} (h : OwnV w B (.slice a n c) ts) {g : Nat} (hg : ∀ g', a = some ⟨g', 0, none⟩ → g' ≠ g) (k : Nat) (u : Value) : OwnV (w.setCell ⟨g, k, none⟩ u) B (.slice a n c) ts := by
  obtain ⟨h1, h2⟩ := h
  refine ⟨h1, ?_⟩
  rcases h2 with h2 | ⟨g', cap, cur, hv, hb, hh, r⟩
  · exact Or.inl h2
  · have e := hv
    simp only [Value.slice.injEq] at e
    exact Or.inr ⟨g', cap, cur, hv, hb, by rw [Below.heap_setCell _ _ _ _ (hg g' e.1)]; exact hh, r⟩
end Go.Proofs.YtjkohkhngeioiaaDoor
