/- append of any slice to a slice of one's own; rows of cells as lists. -/
import Derived.Test.YtdjhegmkmopnfabDoorPWalkB
import Derived.OwnWalk
import Derived.Laws.AppendOwnNone
import Derived.Laws.OwnMore
namespace Go.Proofs.YtdjhegmkmopnfabDoor
open Go.RowKit
set_option linter.unusedVariables false

theorem wpList_append_any {P : Program} {w : World} {ops : Array Oper} {rest : List Oper} {o : Oper} {a : Act} {Q : Exit → Act → World → Prop} (hgd : o.guard = none) (s x : Operand) (t : TypeId)
    (ho : o.op = .call { callee := .builtin .append, args := #[s, x], argTypes := #[t, t] })
    (base : Nat) (e : TypeId) (i : TypeInfo) (z : Value) (size bytes : Nat) (ht : P.underlying t = some (.slice e)) (hi : P.info? e = some i) (hz : i.zero = some z)
    (hsize : i.size = size) (hby : i.bytes = bytes) (hzs : z.cells.size = size) (hsz : 0 < size)
    (v : Value) (n : Nat) (xs : List Value) (hs : a.eval s = v) (hown : w.ownsRow base e size v n xs)
    (av : Option Addr) (m c : Nat) (news : List Value) (hx : a.eval x = .slice av m c) (hno : av = none → m = 0 ∧ c = 0) (hl : news.length = m * size) (hnews : ∀ ad, av = some ad → ∀ j u, news[j]? = some u → w.cell? (ad.add j) = some u) (h1 : ∀ u ∈ news, u.oneCell' = true)
    (h63 : n + m ≤ maxLen) (hbytes : (n + m) * bytes ≤ 140737488355328) (hbase : base ≤ w.heap.size)
    (h : ∀ v' w', w'.ownsRow base e size v' (n + m) (xs ++ news) → w.grownBy w' v.ownBlock → wpList P ops Q rest (a.put o.dst v') w') : wpList P ops Q (o :: rest) a w := by
  cases av with
  | some ad => exact wpList_append_own w hgd s x t ho base e i z size bytes ht hi hz hsize hby hzs hsz v n xs hs hown ad m c news hx hl (hnews ad rfl) h1 h63 hbytes hbase fun v' w' h2 h3 _ => h v' w' h2 h3
  | none =>
    obtain ⟨rfl, rfl⟩ := hno rfl
    have hnil : news = [] := List.eq_nil_of_length_eq_zero (by rw [hl]; simp)
    subst hnil
    refine wpList_append_own_none hgd s x t ho base e i size ht hi v n xs hs hown hx ?_
    refine h v w ?_ (World.grownBy.refl _ _)
    rw [List.append_nil, Nat.add_zero]
    exact hown

/-- One of a cell's three numbers. -/
def comp (c : Wpl.Cl) (k : Nat) : Int := if k = 0 then c.s else if k = 1 then c.r else c.c
/-- The cells of a row of cells. -/
def rowC (F : Nat → Wpl.Cl) (n : Nat) : List Value := (List.range (n * 3)).map fun j => .int .i64 (comp (F (j / 3)) (j % 3))
theorem rowC_length (F : Nat → Wpl.Cl) (n : Nat) : (rowC F n).length = n * 3 := by unfold rowC; simp
theorem rowC_get {F : Nat → Wpl.Cl} {n j : Nat} (hj : j < n * 3) : (rowC F n)[j]? = some (.int .i64 (comp (F (j / 3)) (j % 3))) := by
  unfold rowC
  rw [List.getElem?_map, List.getElem?_range hj]
  rfl
theorem rowC_one {F : Nat → Wpl.Cl} {n : Nat} : ∀ u ∈ rowC F n, u.oneCell' = true := by
  intro u hu
  unfold rowC at hu
  obtain ⟨j, _, rfl⟩ := List.mem_map.1 hu
  rfl
theorem rowC_cells {F : Nat → Wpl.Cl} {n b off : Nat} {w : World} (hc : Cells w b off n F) : ∀ j u, (rowC F n)[j]? = some u → w.cell? ((⟨b, off, none⟩ : Addr).add j) = some u := by
  intro j u h
  have hj : j < n * 3 := by
    have := (List.getElem?_eq_some_iff.1 h).1
    rw [rowC_length] at this; exact this
  rw [rowC_get hj] at h
  obtain rfl := Option.some.inj h
  have e : (⟨b, off, none⟩ : Addr).add j = ⟨b, off + j, none⟩ := by
    unfold Addr.add
    by_cases h0 : j = 0
    · rw [if_pos h0, h0]; rfl
    · rw [if_neg h0]
  rw [e]
  obtain ⟨h0, h1, h2⟩ := hc (j / 3) (by omega)
  unfold comp
  by_cases e0 : j % 3 = 0
  · rw [if_pos e0, show off + j = off + j / 3 * 3 by omega]; exact h0
  · rw [if_neg e0]
    by_cases e1 : j % 3 = 1
    · rw [if_pos e1, show off + j = off + j / 3 * 3 + 1 by omega]; exact h1
    · rw [if_neg e1, show off + j = off + j / 3 * 3 + 2 by omega]; exact h2
theorem rowC_of {F : Nat → Wpl.Cl} {n k : Nat} {ts : List Value} {w : World} (h : ∀ j, j < n * 3 → w.cell? ⟨k, j, none⟩ = (rowC F n ++ ts)[j]?) : Cells w k 0 n F := by
  have L := rowC_length F n
  intro i hi
  have g : ∀ c, c < 3 → w.cell? ⟨k, i * 3 + c, none⟩ = some (.int .i64 (comp (F i) c)) := fun c hc => by
    rw [h _ (by omega), List.getElem?_append_left (by omega), rowC_get (by omega), show (i * 3 + c) / 3 = i by omega, show (i * 3 + c) % 3 = c by omega]
  rw [Nat.zero_add]
  exact ⟨g 0 (by omega), g 1 (by omega), g 2 (by omega)⟩
end Go.Proofs.YtdjhegmkmopnfabDoor
