/- Queues: a map of cells to numbers, as memory has it. -/
import Derived.Test.YtpbjmhcpaeillaaQCmp
import Derived.Maps.OwnSet
import Derived.Laws.AppendOwn
namespace Go.Proofs.Ytpbjmhcpaeillaa
open Go.RowKit
set_option linter.unusedVariables false

abbrev clV (x : Wpl.Cl) : Value := .agg #[.int .i64 x.s, .int .i64 x.r, .int .i64 x.c]
def eqCl (x y : Wpl.Cl) : Bool := decide (x.s = y.s ∧ x.r = y.r ∧ x.c = y.c)
theorem eqCl_iff {x y : Wpl.Cl} : eqCl x y = true ↔ x = y := by
  unfold eqCl
  rw [decide_eq_true_eq]
  constructor
  · intro h
    cases x
    cases y
    simp at h
    simp [h]
  · rintro rfl
    simp
theorem eqCl_comm (x y : Wpl.Cl) : eqCl x y = eqCl y x := by
  rw [Bool.eq_iff_iff, eqCl_iff, eqCl_iff]
  exact ⟨fun h => h.symm, fun h => h.symm⟩
theorem chkC (em : Bool) (x : Wpl.Cl) (w : World) : (Instr.checkKey em 10000 33 (clV x)).run Try.prog w = .ok () w := by kernel_rfl
theorem eqC_run (x y : Wpl.Cl) (w : World) : (Op.equal 33 (clV x) (clV y)).run Try.prog w = .ok (eqCl x y) w := by
  show (Op.equalIn (9998 + 2) 33 _ _).run _ _ = _
  unfold eqCl
  by_cases h1 : x.s = y.s
  · by_cases h2 : x.r = y.r
    · by_cases h3 : x.c = y.c
      · simp [go_sem, h1, h2, h3]
      · simp [go_sem, h1, h2, h3]
    · simp [go_sem, h1, h2]
  · simp [go_sem, h1]
/-- The place and the number of a cell. -/
def fnd (x : Wpl.Cl) : List (Wpl.Cl × Int) → Nat → Option (Nat × Int)
  | [], _ => none
  | p :: r, i => if eqCl p.1 x then some (i, p.2) else fnd x r (i + 1)
/-- The entries of a map, by cells and numbers. -/
def enC (E : List MapEntry) (F : List (Wpl.Cl × Int)) : Prop := E.map (fun e => (e.key, e.val)) = F.map (fun p => (clV p.1, Value.int .i64 p.2))
theorem enC.cons {e : MapEntry} {E : List MapEntry} {F : List (Wpl.Cl × Int)} (h : enC (e :: E) F) : ∃ p r, F = p :: r ∧ e.key = clV p.1 ∧ e.val = .int .i64 p.2 ∧ enC E r := by
  cases F with
  | nil => simp [enC] at h
  | cons p r =>
    simp only [enC, List.map_cons, List.cons.injEq, Prod.mk.injEq] at h
    exact ⟨p, r, rfl, h.1.1, h.1.2, h.2⟩
theorem findC (x : Wpl.Cl) (w : World) : ∀ (E : List MapEntry) (F : List (Wpl.Cl × Int)) (i : Nat), enC E F → (Instr.findAsking 33 (clV x) E i).run Try.prog w = .ok ((fnd x F i).map fun q => (q.1, Value.int .i64 q.2)) w
  | [], F, i, h => by
    have : F = [] := by
      cases F with
      | nil => rfl
      | cons p r => simp [enC] at h
    subst this
    rfl
  | e :: E, F, i, h => by
    obtain ⟨p, r, rfl, h1, h2, h3⟩ := h.cons
    have hr := findC x w E r (i + 1) h3
    have ee := eqC_run x p.1 w
    rw [eqCl_comm] at ee
    unfold fnd
    cases hq : eqCl p.1 x with
    | true =>
      rw [hq] at ee
      simp [Instr.findAsking, h1, h2, ee, Result.andThen]
    | false =>
      rw [hq] at ee
      simp [Instr.findAsking, h1, ee, Result.andThen, hr]
theorem keyC (x : Wpl.Cl) {E : List MapEntry} {F : List (Wpl.Cl × Int)} (h : enC E F) (w : World) : (Instr.findKey 33 (clV x) E).run Try.prog w = .ok ((fnd x F 0).map fun q => (q.1, Value.int .i64 q.2)) w := by
  have hf := findC x w E F 0 h
  cases E with
  | nil =>
    have : F = [] := by
      cases F with
      | nil => rfl
      | cons p r => simp [enC] at h
    subst this
    simp [Instr.findKey, go_sem, Instr.findNow, fnd]
  | cons e r =>
    obtain ⟨p, r', rfl, h1, h2, h3⟩ := h.cons
    have hs : ∀ d : TypeDesc, Instr.sameNow d (clV x) e.key = none := fun d => by rw [h1]; cases d <;> rfl
    simp [Instr.findKey, go_sem, Instr.findNow, hs]
    simpa using hf
/-- A map of cells to numbers in a block. -/
def CM (w : World) (b : Nat) (F : List (Wpl.Cl × Int)) : Prop := ∃ (es : Array MapEntry) (ck : Nat), w.heap[b]? = some (.map es ck) ∧ enC es.toList F
theorem CM.lt {w : World} {b : Nat} {F : List (Wpl.Cl × Int)} (h : CM w b F) : b < w.heap.size := by
  obtain ⟨es, ck, h1, _⟩ := h
  exact (Array.getElem?_eq_some_iff.1 h1).1
theorem undQ : Try.prog.underlying 74 = some (.map 33 3) := by kernel_rfl
theorem look_hitQ {P : Program} {w : World} {b : Nat} {es : Array MapEntry} {ck : Nat} {t k e : TypeId} (ht : P.underlying t = some (.map k e)) (hb : w.heap[b]? = some (.map es ck)) {key v : Value} {j : Nat}
    (hc : (Instr.checkKey es.isEmpty 10000 k key).run P w = .ok () w) (hf : (Instr.findKey k key es.toList).run P w = .ok (some (j, v)) w) :
    (Instr.lookup t (.map (some b)) key true).run P w = .ok (.tuple #[v, .bool true]) w := by
  simp [Instr.lookup, run_underlying ht, MapKept.run_getObj_map hb, hc, hf, Result.andThen]
theorem look_missQ {P : Program} {w : World} {b : Nat} {es : Array MapEntry} {ck : Nat} {t k e : TypeId} (ht : P.underlying t = some (.map k e)) (hb : w.heap[b]? = some (.map es ck)) {key z : Value}
    (hc : (Instr.checkKey es.isEmpty 10000 k key).run P w = .ok () w) (hf : (Instr.findKey k key es.toList).run P w = .ok none w) (hz : (zeroValue e).run P w = .ok z w) :
    (Instr.lookup t (.map (some b)) key true).run P w = .ok (.tuple #[z, .bool false]) w := by
  simp [Instr.lookup, run_underlying ht, MapKept.run_getObj_map hb, hc, hf, hz, Result.andThen]
/-- What a look tells. -/
def gtI (x : Wpl.Cl) (F : List (Wpl.Cl × Int)) : Int := ((fnd x F 0).map (fun q => q.2)).getD 0
def gtB (x : Wpl.Cl) (F : List (Wpl.Cl × Int)) : Bool := (fnd x F 0).isSome
theorem lookC {w : World} {b : Nat} {F : List (Wpl.Cl × Int)} (h : CM w b F) (x : Wpl.Cl) : (Instr.lookup 74 (.map (some b)) (clV x) true).run Try.prog w = .ok (.tuple #[.int .i64 (gtI x F), .bool (gtB x F)]) w := by
  obtain ⟨es, ck, h1, h2⟩ := h
  have hk := keyC x h2 w
  unfold gtI gtB
  cases hq : fnd x F 0 with
  | none =>
    rw [hq] at hk
    exact look_missQ undQ h1 (chkC _ _ _) hk (by kernel_rfl)
  | some q =>
    rw [hq] at hk
    exact look_hitQ undQ h1 (chkC _ _ _) hk
/-- A map with a cell laid into it, and with one taken off. -/
def putF (x : Wpl.Cl) (v : Int) (F : List (Wpl.Cl × Int)) : List (Wpl.Cl × Int) :=
  match fnd x F 0 with
  | some q => F.set q.1 (x, v)
  | none => F ++ [(x, v)]
def delF (x : Wpl.Cl) (F : List (Wpl.Cl × Int)) : List (Wpl.Cl × Int) :=
  match fnd x F 0 with
  | some q => F.eraseIdx q.1
  | none => F
theorem fnd_at (x : Wpl.Cl) : ∀ (F : List (Wpl.Cl × Int)) (i : Nat) (q : Nat × Int), fnd x F i = some q → ∃ j, q.1 = i + j ∧ F[j]? = some (x, q.2)
  | [], i, q, h => by simp [fnd] at h
  | p :: r, i, q, h => by
    unfold fnd at h
    cases hq : eqCl p.1 x with
    | true =>
      rw [hq] at h
      simp only [if_true, Option.some.injEq] at h
      subst h
      refine ⟨0, rfl, ?_⟩
      rw [← eqCl_iff.1 hq]
      rfl
    | false =>
      rw [hq] at h
      obtain ⟨j, h1, h2⟩ := fnd_at x r (i + 1) q (by simpa using h)
      exact ⟨j + 1, by omega, by simpa using h2⟩
theorem fnd_none (x : Wpl.Cl) : ∀ (F : List (Wpl.Cl × Int)) (i : Nat), fnd x F i = none → ∀ p ∈ F, p.1 ≠ x
  | [], i, _, p, hp => by cases hp
  | p :: r, i, h, y, hy => by
    unfold fnd at h
    cases hq : eqCl p.1 x with
    | true =>
      rw [hq] at h
      simp at h
    | false =>
      rw [hq] at h
      rcases List.mem_cons.1 hy with e | e
      · subst e
        intro z
        rw [eqCl_iff.2 z] at hq
        cases hq
      · exact fnd_none x r (i + 1) (by simpa using h) y e
/-- One cell has one number. -/
def KN (F : List (Wpl.Cl × Int)) : Prop := (F.map (fun p => p.1)).Nodup
theorem KN.one {F : List (Wpl.Cl × Int)} (h : KN F) {x : Wpl.Cl} {a b : Int} (ha : (x, a) ∈ F) (hb : (x, b) ∈ F) : a = b := by
  unfold KN at h
  induction F with
  | nil => cases ha
  | cons p r ih =>
    rw [List.map_cons, List.nodup_cons] at h
    rcases List.mem_cons.1 ha with e | e
    · rcases List.mem_cons.1 hb with e2 | e2
      · rw [← e] at e2
        simpa using e2.symm
      · exact absurd (List.mem_map.2 ⟨_, e2, rfl⟩) (by rw [← e] at h; exact h.1)
    · rcases List.mem_cons.1 hb with e2 | e2
      · exact absurd (List.mem_map.2 ⟨_, e, rfl⟩) (by rw [← e2] at h; exact h.1)
      · exact ih h.2 e e2
/-- What the map tells of a cell, of one's own. -/
theorem KN.look {F : List (Wpl.Cl × Int)} (h : KN F) {x : Wpl.Cl} {a : Int} : (gtB x F = true ∧ gtI x F = a) ↔ (x, a) ∈ F := by
  unfold gtB gtI
  cases hq : fnd x F 0 with
  | none =>
    refine ⟨fun z => by simp at z, fun z => absurd rfl (fnd_none x F 0 hq _ z)⟩
  | some q =>
    obtain ⟨j, h1, h2⟩ := fnd_at x F 0 q hq
    have hm : (x, q.2) ∈ F := List.mem_of_getElem? h2
    refine ⟨fun z => ?_, fun z => ⟨rfl, ?_⟩⟩
    · rw [← z.2]
      exact hm
    · exact h.one hm z
end Go.Proofs.Ytpbjmhcpaeillaa
