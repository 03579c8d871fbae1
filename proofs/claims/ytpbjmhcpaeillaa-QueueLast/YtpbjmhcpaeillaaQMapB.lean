/- Queues: a cell is laid into the map, and taken off. -/
import Derived.Test.YtpbjmhcpaeillaaQMap
namespace Go.Proofs.Ytpbjmhcpaeillaa
open Go.RowKit
open Go.ChangeMaps (setBlock heap_setBlock_same heap_setBlock_other)
open Go.ChangeShapes Go.WideShapes Go.MapKept
set_option linter.unusedVariables false

theorem grown_setQ {w : World} {b : Nat} {es : Array MapEntry} {ck : Nat} (hb : w.heap[b]? = some (.map es ck)) (o : Obj) : w.grownBy (setBlock w b o) (some b) :=
  ⟨rfl, rfl, rfl, by simp [setBlock], fun i _ hi => heap_setBlock_other hb _ (fun e => hi (by rw [e]))⟩
theorem upd_newQ {P : Program} {w : World} {b : Nat} {es : Array MapEntry} {ck : Nat} {t k e : TypeId} (ht : P.underlying t = some (.map k e)) (hb : w.heap[b]? = some (.map es ck)) {key : Value} (val : Value)
    (hc : (Instr.checkKey false 10000 k key).run P w = .ok () w) (hf : (Instr.findKey k key es.toList).run P w = .ok none w) :
    (Instr.mapUpdate t (.map (some b)) key val).run P w = .ok () (setBlock w b (.map (es.push ⟨key, val, ck⟩) (ck + 1))) := by
  simp [Instr.mapUpdate, run_underlying ht, MapKept.run_getObj_map hb, hc, hf, MapKept.run_setObj_map _ hb, Result.andThen, setBlock]
theorem upd_oldQ {P : Program} {w : World} {b : Nat} {es : Array MapEntry} {ck : Nat} {t k e : TypeId} (ht : P.underlying t = some (.map k e)) (hb : w.heap[b]? = some (.map es ck)) {key : Value} (val : Value) {j : Nat} {v : Value}
    (hc : (Instr.checkKey false 10000 k key).run P w = .ok () w) (hf : (Instr.findKey k key es.toList).run P w = .ok (some (j, v)) w) (hk : (es[j]?).map (·.key) = some key) (hs : Instr.sameBits 10000 key key = true) :
    (Instr.mapUpdate t (.map (some b)) key val).run P w = .ok () (setBlock w b (.map (es.modify j fun e => { e with key := key, val := val }) ck)) := by
  simp [Instr.mapUpdate, Instr.keyThatStays, run_underlying ht, MapKept.run_getObj_map hb, hc, hf, hk, hs, MapKept.run_setObj_map _ hb, Result.andThen, setBlock]
theorem bitsC (x : Wpl.Cl) : Instr.sameBits 10000 (clV x) (clV x) = true := by
  show Instr.sameBits (9998 + 1 + 1) _ _ = true
  simp [Instr.sameBits]
theorem enC.at {E : List MapEntry} {F : List (Wpl.Cl × Int)} (h : enC E F) {i : Nat} {p : Wpl.Cl × Int} (hp : F[i]? = some p) : ∃ e, E[i]? = some e ∧ e.key = clV p.1 ∧ e.val = .int .i64 p.2 := by
  have : (E.map (fun e => (e.key, e.val)))[i]? = some (clV p.1, Value.int .i64 p.2) := by
    rw [h, List.getElem?_map, hp]
    rfl
  rw [List.getElem?_map] at this
  obtain ⟨e, h1, h2⟩ := Option.map_eq_some_iff.1 this
  simp only [Prod.mk.injEq] at h2
  exact ⟨e, h1, h2.1, h2.2⟩
theorem updC {w : World} {b : Nat} {F : List (Wpl.Cl × Int)} (h : CM w b F) (x : Wpl.Cl) (v : Int) : ∃ w', (Instr.mapUpdate 74 (.map (some b)) (clV x) (.int .i64 v)).run Try.prog w = .ok () w' ∧ CM w' b (putF x v F) ∧ w.grownBy w' (some b) := by
  obtain ⟨es, ck, h1, h2⟩ := h
  have hk := keyC x h2 w
  unfold putF
  cases hq : fnd x F 0 with
  | none =>
    rw [hq] at hk
    refine ⟨_, upd_newQ undQ h1 _ (chkC _ _ _) hk, ⟨es.push ⟨clV x, .int .i64 v, ck⟩, ck + 1, heap_setBlock_same h1 _, ?_⟩, grown_setQ h1 _⟩
    unfold enC at *
    rw [Array.toList_push, List.map_append, h2, List.map_append]
    rfl
  | some q =>
    rw [hq] at hk
    obtain ⟨j, e1, e2⟩ := fnd_at x F 0 q hq
    have e3 : q.1 = j := by omega
    obtain ⟨e, g1, g2, g3⟩ := h2.at e2
    have hkey : (es[q.1]?).map (·.key) = some (clV x) := by
      rw [e3, ← Array.getElem?_toList, g1]
      simp [g2]
    refine ⟨_, upd_oldQ undQ h1 _ (chkC _ _ _) hk hkey (bitsC x), ⟨_, ck, heap_setBlock_same h1 _, ?_⟩, grown_setQ h1 _⟩
    unfold enC at *
    rw [Array.toList_modify]
    refine List.ext_getElem? (fun i => ?_)
    have h3 := congrArg (fun l => l[i]?) h2
    simp only [List.getElem?_map] at h3
    rw [List.getElem?_map, List.getElem?_map, List.getElem?_modify, List.getElem?_set]
    by_cases c : q.1 = i
    · subst c
      have hlt : q.1 < F.length := by
        rw [e3]
        exact (List.getElem?_eq_some_iff.1 e2).1
      rw [if_pos rfl, if_pos hlt, e3, g1]
      simp
    · rw [if_neg c]
      simp only [c, if_false]
      simpa using h3
/-- The entries with one taken off. -/
def ersQ (r : Option (Nat × Value)) (es : Array MapEntry) : Array MapEntry :=
  match r with
  | some q => es.eraseIdxIfInBounds q.1
  | none => es
theorem map_ers {α β : Type} (f : α → β) (l : List α) (i : Nat) : (l.eraseIdx i).map f = (l.map f).eraseIdx i := by simp [List.eraseIdx_eq_take_drop_succ]
theorem del_runQ {P : Program} {w : World} {b : Nat} {es : Array MapEntry} {ck : Nat} {t k e ty : TypeId} (ht : P.underlying t = some (.map k e)) (hb : w.heap[b]? = some (.map es ck)) {key : Value} {r : Option (Nat × Value)}
    (hc : (Instr.checkKey es.isEmpty 10000 k key).run P w = .ok () w) (hf : (Instr.findKey k key es.toList).run P w = .ok r w) :
    (Builtin.delete_ #[t, k] ty #[.map (some b), key]).run P w = .ok (.tuple #[]) (setBlock w b (.map (ersQ r es) ck)) := by
  cases r with
  | none => simp [Builtin.delete_, run_underlying ht, MapKept.run_getObj_map hb, hc, hf, MapKept.run_setObj_map _ hb, Result.andThen, setBlock, ersQ]
  | some q => simp [Builtin.delete_, run_underlying ht, MapKept.run_getObj_map hb, hc, hf, MapKept.run_setObj_map _ hb, Result.andThen, setBlock, ersQ]
theorem delC {w : World} {b : Nat} {F : List (Wpl.Cl × Int)} (h : CM w b F) (x : Wpl.Cl) (ty : TypeId) : ∃ w', (Builtin.delete_ #[74, 33] ty #[.map (some b), clV x]).run Try.prog w = .ok (.tuple #[]) w' ∧ CM w' b (delF x F) ∧ w.grownBy w' (some b) := by
  obtain ⟨es, ck, h1, h2⟩ := h
  have hk := keyC x h2 w
  refine ⟨_, del_runQ undQ h1 (chkC _ _ _) hk, ⟨_, ck, heap_setBlock_same h1 _, ?_⟩, grown_setQ h1 _⟩
  unfold delF
  cases hq : fnd x F 0 with
  | none => exact h2
  | some q =>
    obtain ⟨j, e1, e2⟩ := fnd_at x F 0 q hq
    have e3 : q.1 = j := by omega
    have hlt : q.1 < es.size := by
      obtain ⟨e, g1, _⟩ := h2.at e2
      rw [e3]
      simpa using (List.getElem?_eq_some_iff.1 g1).1
    show enC (es.eraseIdxIfInBounds q.1).toList (F.eraseIdx q.1)
    unfold enC at *
    unfold Array.eraseIdxIfInBounds
    rw [dif_pos hlt, Array.toList_eraseIdx, map_ers, h2, ← map_ers]
theorem KN.put {F : List (Wpl.Cl × Int)} (h : KN F) (x : Wpl.Cl) (v : Int) : KN (putF x v F) ∧ ∀ y a, (y, a) ∈ putF x v F ↔ (y = x ∧ a = v) ∨ (y ≠ x ∧ (y, a) ∈ F) := by
  unfold putF
  cases hq : fnd x F 0 with
  | none =>
    have hn := fnd_none x F 0 hq
    refine ⟨?_, fun y a => ?_⟩
    · show (List.map _ (F ++ [(x, v)])).Nodup
      rw [List.map_append, List.nodup_append]
      refine ⟨h, by simp, fun a ha b hb e => ?_⟩
      obtain ⟨p, hp, rfl⟩ := List.mem_map.1 ha
      simp at hb
      exact hn p hp (by rw [e, hb])
    · simp only [List.mem_append, List.mem_singleton, Prod.mk.injEq]
      constructor
      · rintro (q | q)
        · exact Or.inr ⟨hn _ q, q⟩
        · exact Or.inl q
      · rintro (q | q)
        · exact Or.inr q
        · exact Or.inl q.2
  | some q =>
    obtain ⟨j, e1, e2⟩ := fnd_at x F 0 q hq
    have e3 : q.1 = j := by omega
    obtain ⟨hlt, e4⟩ := List.getElem?_eq_some_iff.1 e2
    have hmap : (F.set q.1 (x, v)).map (fun p => p.1) = F.map (fun p => p.1) := by
      rw [List.map_set, e3]
      refine List.ext_getElem? (fun i => ?_)
      rw [List.getElem?_set]
      by_cases c : j = i
      · subst c
        rw [if_pos rfl, if_pos (by simpa using hlt), List.getElem?_map, e2]
        rfl
      · rw [if_neg c]
    refine ⟨by show (List.map _ _).Nodup; rw [hmap]; exact h, fun y a => ?_⟩
    show (y, a) ∈ F.set q.1 (x, v) ↔ _
    rw [e3]
    have hset : ∀ z, z ∈ F.set j (x, v) ↔ ∃ i, (i = j ∧ z = (x, v)) ∨ (i ≠ j ∧ F[i]? = some z) := fun z => by
      rw [List.mem_iff_getElem?]
      constructor
      · rintro ⟨i, hi⟩
        rw [List.getElem?_set] at hi
        by_cases c : j = i
        · rw [if_pos c] at hi
          refine ⟨i, Or.inl ⟨c.symm, ?_⟩⟩
          by_cases d : j < F.length
          · rw [if_pos d] at hi
            simpa using hi.symm
          · rw [if_neg d] at hi
            cases hi
        · rw [if_neg c] at hi
          exact ⟨i, Or.inr ⟨fun e => c e.symm, hi⟩⟩
      · rintro ⟨i, q | q⟩
        · exact ⟨i, by rw [List.getElem?_set, if_pos q.1.symm, if_pos hlt, q.2]⟩
        · exact ⟨i, by rw [List.getElem?_set, if_neg (fun e => q.1 e.symm)]; exact q.2⟩
    rw [hset]
    constructor
    · rintro ⟨i, c | c⟩
      · simp only [Prod.mk.injEq] at c
        exact Or.inl c.2
      · refine Or.inr ⟨fun e => ?_, List.mem_of_getElem? c.2⟩
        subst e
        have k1 : (F.map (fun p => p.1))[i]? = some y := by rw [List.getElem?_map, c.2]; rfl
        have k2 : (F.map (fun p => p.1))[j]? = some y := by rw [List.getElem?_map, e2]; rfl
        exact c.1 ((List.getElem?_inj (List.getElem?_eq_some_iff.1 k1).1 h).1 (k1.trans k2.symm))
    · rintro (c | c)
      · exact ⟨j, Or.inl ⟨rfl, by rw [c.1, c.2]⟩⟩
      · obtain ⟨i, hi⟩ := List.mem_iff_getElem?.1 c.2
        refine ⟨i, Or.inr ⟨fun e => ?_, hi⟩⟩
        subst e
        rw [e2] at hi
        simp only [Option.some.injEq, Prod.mk.injEq] at hi
        exact c.1 hi.1.symm
theorem KN.del {F : List (Wpl.Cl × Int)} (h : KN F) (x : Wpl.Cl) : KN (delF x F) ∧ ∀ y a, (y, a) ∈ delF x F ↔ y ≠ x ∧ (y, a) ∈ F := by
  unfold delF
  cases hq : fnd x F 0 with
  | none =>
    have hn := fnd_none x F 0 hq
    exact ⟨h, fun y a => ⟨fun q => ⟨hn _ q, q⟩, fun q => q.2⟩⟩
  | some q =>
    obtain ⟨j, e1, e2⟩ := fnd_at x F 0 q hq
    have e3 : q.1 = j := by omega
    refine ⟨?_, fun y a => ?_⟩
    · show (List.map _ (F.eraseIdx q.1)).Nodup
      rw [map_ers]
      exact (List.eraseIdx_sublist _ _).nodup h
    · show (y, a) ∈ F.eraseIdx q.1 ↔ _
      rw [e3, List.mem_eraseIdx_iff_getElem?]
      constructor
      · rintro ⟨i, c1, c2⟩
        refine ⟨fun e => ?_, List.mem_of_getElem? c2⟩
        subst e
        have k1 : (F.map (fun p => p.1))[i]? = some y := by rw [List.getElem?_map, c2]; rfl
        have k2 : (F.map (fun p => p.1))[j]? = some y := by rw [List.getElem?_map, e2]; rfl
        exact c1 ((List.getElem?_inj (List.getElem?_eq_some_iff.1 k1).1 h).1 (k1.trans k2.symm))
      · rintro ⟨c1, c2⟩
        obtain ⟨i, hi⟩ := List.mem_iff_getElem?.1 c2
        refine ⟨i, fun e => ?_, hi⟩
        subst e
        rw [e2] at hi
        simp only [Option.some.injEq, Prod.mk.injEq] at hi
        exact c1 hi.1.symm
end Go.Proofs.Ytpbjmhcpaeillaa
