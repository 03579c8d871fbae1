/- append of any slice to a slice of one's own; rows of tokens. -/
import Derived.Test.YtjkohkhngeioiaaDoorLScan
import Derived.Test.YtjkohkhngeioiaaDoorLText
import Derived.OwnWalk
import Derived.Laws.AppendOwnNone
import Derived.Laws.OwnMore
namespace Go.Proofs.YtjkohkhngeioiaaDoor
open Go.RowKit
set_option linter.unusedVariables false

theorem wpList_append_any {P : Program} {w : World} {ops : Array Oper} {rest : List Oper} {o : Oper} {a : Act} {Q : Exit → Act → World → Prop} (hgd : o.guard = none) (s x : Operand) (t : TypeId)
    (ho : o.op = .call { callee := .builtin .append, args := #[s, x], argTypes := #[t, t] })
    (base : Nat) (e : TypeId) (i : TypeInfo) (z : Value) (size bytes : Nat) (ht : P.underlying t = some (.slice e)) (hi : P.info? e = some i) (hz : i.zero = some z)
    (hsize : i.size = size) (hby : i.bytes = bytes) (hzs : z.cells.size = size) (hsz : 0 < size)
    (v : Value) (n : Nat) (xs : List Value) (hs : a.eval s = v) (hown : w.ownsRow base e size v n xs)
    (av : Option Addr) (m c : Nat) (news : List Value) (hx : a.eval x = .slice av m c) (hno : av = none → m = 0 ∧ c = 0) (hl : news.length = m * size) (hnews : ∀ ad, av = some ad → ∀ j u, news[j]? = some u → w.cell? (ad.add j) = some u) (h1 : ∀ u ∈ news, u.oneCell' = true)
    (h63 : n + m ≤ maxLen) (hbytes : (n + m) * bytes ≤ 140737488355328) (hbase : base ≤ w.heap.size)
    (h : ∀ v' w', w'.ownsRow base e size v' (n + m) (xs ++ news) → w.grownBy w' v.ownBlock → wpList P ops Q rest (a.put o.dst v') w') : wpList P ops Q (o :: rest) a w := by
  cases av with
  | some ad => exact wpList_append_own w hgd s x t ho base e i z size bytes ht hi hz hsize hby hzs hsz v n xs hs hown ad m c news hx hl (hnews ad rfl) h1 h63 hbytes hbase fun v' w' h2 h3 _ => h v' w' h2 h3
  | none =>
    obtain ⟨rfl, rfl⟩ := hno rfl
    have hnil : news = [] := List.eq_nil_of_length_eq_zero (by rw [hl]; simp)
    subst hnil
    refine wpList_append_own_none hgd s x t ho base e i size ht hi v n xs hs hown hx ?_
    refine h v w ?_ (World.grownBy.refl _ _)
    rw [List.append_nil, Nat.add_zero]
    exact hown

theorem wpList_append_full {P : Program} {w : World} {ops : Array Oper} {rest : List Oper} {o : Oper} {a : Act} {Q : Exit → Act → World → Prop} (hgd : o.guard = none) (s x : Operand) (t : TypeId)
    (ho : o.op = .call { callee := .builtin .append, args := #[s, x], argTypes := #[t, t] })
    (base : Nat) (e : TypeId) (i : TypeInfo) (z : Value) (size bytes : Nat) (ht : P.underlying t = some (.slice e)) (hi : P.info? e = some i) (hz : i.zero = some z)
    (hsize : i.size = size) (hby : i.bytes = bytes) (hzs : z.cells.size = size) (hsz : 0 < size)
    (v : Value) (n : Nat) (xs : List Value) (hs : a.eval s = v) (hv : v ≠ .slice none 0 0) (hown : w.ownsRow base e size v n xs)
    (av : Option Addr) (m c : Nat) (news : List Value) (hx : a.eval x = .slice av m c) (hno : av = none → m = 0 ∧ c = 0) (hl : news.length = m * size) (hnews : ∀ ad, av = some ad → ∀ j u, news[j]? = some u → w.cell? (ad.add j) = some u) (h1 : ∀ u ∈ news, u.oneCell' = true)
    (h63 : n + m ≤ maxLen) (hbytes : (n + m) * bytes ≤ 140737488355328) (hbase : base ≤ w.heap.size)
    (h : ∀ v' w', w'.ownsRow base e size v' (n + m) (xs ++ news) → v' ≠ .slice none 0 0 → w.grownBy w' v.ownBlock → wpList P ops Q rest (a.put o.dst v') w') : wpList P ops Q (o :: rest) a w := by
  cases av with
  | some ad => exact wpList_append_own w hgd s x t ho base e i z size bytes ht hi hz hsize hby hzs hsz v n xs hs hown ad m c news hx hl (hnews ad rfl) h1 h63 hbytes hbase fun v' w' h2 h3 h4 => h v' w' h2 (fun e => hv (h4.1 e).1) h3
  | none =>
    obtain ⟨rfl, rfl⟩ := hno rfl
    have hnil : news = [] := List.eq_nil_of_length_eq_zero (by rw [hl]; simp)
    subst hnil
    refine wpList_append_own_none hgd s x t ho base e i size ht hi v n xs hs hown hx ?_
    refine h v w ?_ hv (World.grownBy.refl _ _)
    rw [List.append_nil, Nat.add_zero]
    exact hown

/-- The cells of a row of tokens. -/
def tv3 (t : Wlx.TV) : List Value := [.int .i64 t.k, .string ⟨t.t.toArray⟩, .int .i64 t.p]
def rowV (ts : List Wlx.TV) : List Value := ts.flatMap tv3
theorem rowV_app (a b : List Wlx.TV) : rowV (a ++ b) = rowV a ++ rowV b := by simp [rowV]
theorem rowV_length (ts : List Wlx.TV) : (rowV ts).length = ts.length * 3 := by
  induction ts with
  | nil => rfl
  | cons t r ih =>
    show (tv3 t ++ rowV r).length = _
    rw [List.length_append, ih, List.length_cons]
    show 3 + _ = _
    omega
theorem rowV_one (ts : List Wlx.TV) : ∀ u ∈ rowV ts, u.oneCell' = true := by
  intro u hu
  unfold rowV at hu
  obtain ⟨t, _, hu⟩ := List.mem_flatMap.1 hu
  simp only [tv3, List.mem_cons, List.not_mem_nil, or_false] at hu
  rcases hu with rfl | rfl | rfl <;> rfl
theorem rowV_get : ∀ (ts : List Wlx.TV) (i : Nat) (h : i < ts.length), (rowV ts)[i * 3]? = some (.int .i64 (ts[i]).k) ∧ (rowV ts)[i * 3 + 1]? = some (.string ⟨(ts[i]).t.toArray⟩) ∧ (rowV ts)[i * 3 + 2]? = some (.int .i64 (ts[i]).p)
  | [], i, h => by simp at h
  | t :: r, 0, _ => ⟨rfl, rfl, rfl⟩
  | t :: r, i + 1, h => by
    obtain ⟨h0, h1, h2⟩ := rowV_get r i (by simpa using h)
    have e : ∀ j, (rowV (t :: r))[j + 3]? = (rowV r)[j]? := fun j => rfl
    rw [show (i + 1) * 3 = i * 3 + 3 by omega, show i * 3 + 3 + 1 = i * 3 + 1 + 3 by omega, show i * 3 + 3 + 2 = i * 3 + 2 + 3 by omega, e, e, e]
    exact ⟨h0, h1, h2⟩
theorem rowV_tv (ts : List Wlx.Tok) : rowV (ts.map Wlx.tv) = rowT ts := by
  induction ts with
  | nil => rfl
  | cons t r ih =>
    show tv3 (Wlx.tv t) ++ rowV (r.map Wlx.tv) = tok3 t ++ rowT r
    rw [ih]; rfl
/-- A slice's cells, one behind the other. -/
theorem ReadV.flat {w : World} {av : Option Addr} {len cap : Nat} {ts : List Wlx.TV} (h : ReadV w (.slice av len cap) ts) : ∀ ad, av = some ad → ∀ j u, (rowV ts)[j]? = some u → w.cell? (ad.add j) = some u := by
  obtain ⟨av', cap', e, h⟩ := h
  simp only [Value.slice.injEq] at e
  obtain ⟨rfl, rfl, rfl⟩ := e
  intro ad had j u hu
  have hj : j < ts.length * 3 := by
    have := (List.getElem?_eq_some_iff.1 hu).1
    rw [rowV_length] at this; exact this
  obtain ⟨bb, off, e1, hb, c0, c1, c2⟩ := h (j / 3) (by omega)
  obtain ⟨r0, r1, r2⟩ := rowV_get ts (j / 3) (by omega)
  rw [had] at e1
  obtain rfl := Option.some.inj e1
  have ea : (⟨bb, off, none⟩ : Addr).add j = ⟨bb, off + j, none⟩ := by
    unfold Addr.add
    by_cases h0 : j = 0
    · rw [if_pos h0, h0]; rfl
    · rw [if_neg h0]
  rw [ea]
  have hm : j % 3 = 0 ∨ j % 3 = 1 ∨ j % 3 = 2 := by omega
  rcases hm with hm | hm | hm
  · rw [show j / 3 * 3 = j by omega] at r0
    rw [r0] at hu
    rw [show off + j = off + j / 3 * 3 by omega, c0]; exact hu
  · rw [show j / 3 * 3 + 1 = j by omega] at r1
    rw [r1] at hu
    rw [show off + j = off + j / 3 * 3 + 1 by omega, c1]; exact hu
  · rw [show j / 3 * 3 + 2 = j by omega] at r2
    rw [r2] at hu
    rw [show off + j = off + j / 3 * 3 + 2 by omega, c2]; exact hu
/-- A row of one's own, read from its beginning. -/
theorem own_reads {w : World} {base g n cap m c : Nat} {ts rest : List Wlx.TV} (h : w.ownsRow base 31 3 (.slice (some ⟨g, 0, none⟩) n cap) n (rowV (ts ++ rest))) (hm : m = ts.length) : ReadV w (.slice (some ⟨g, 0, none⟩) m c) ts := by
  subst hm
  have hn : n * 3 = (ts ++ rest).length * 3 := by rw [← rowV_length]; exact h.1.symm
  rw [List.length_append] at hn
  refine ⟨some ⟨g, 0, none⟩, c, rfl, fun i hi => ?_⟩
  have hlt := (h.lt g rfl).2
  obtain ⟨r0, r1, r2⟩ := rowV_get (ts ++ rest) i (by rw [List.length_append]; omega)
  rw [List.getElem_append_left hi] at r0 r1 r2
  refine ⟨g, 0, rfl, hlt, ?_, ?_, ?_⟩
  · rw [Nat.zero_add, World.ownsRow.cellAt h _ (by omega), r0]
  · rw [Nat.zero_add, World.ownsRow.cellAt h _ (by omega), r1]
  · rw [Nat.zero_add, World.ownsRow.cellAt h _ (by omega), r2]
end Go.Proofs.YtjkohkhngeioiaaDoor
