/- Queues: frames, rows of one's own. -/
import Derived.Test.YtpbjmhcpaeillaaQMapB
import Derived.Deep.MidRow
namespace Go.Proofs.Ytpbjmhcpaeillaa
open Go.RowKit
set_option linter.unusedVariables false

/-- Nothing old is turned but these blocks. -/
structure Fr (S : List Nat) (w w' : World) : Prop where
  os : w'.os = w.os
  tape : w'.tape = w.tape
  output : w'.output = w.output
  size : w.heap.size ≤ w'.heap.size
  block : ∀ k : Nat, k < w.heap.size → k ∉ S → w'.heap[k]? = w.heap[k]?
theorem Fr.refl (S : List Nat) (w : World) : Fr S w w := ⟨rfl, rfl, rfl, Nat.le_refl _, fun _ _ _ => rfl⟩
theorem Fr.of_below (S : List Nat) {w w' : World} (h : Below w.heap.size w w') : Fr S w w' := ⟨h.os, h.tape, h.output, h.size, fun k hk _ => h.block k hk⟩
theorem Fr.of_grown {S : List Nat} {w w' : World} {row : Option Nat} (h : w.grownBy w' row) (hr : ∀ k, row = some k → k ∈ S) : Fr S w w' :=
  ⟨h.os, h.tape, h.output, h.size, fun k hk hn => h.block k hk (fun e => hn (hr k e.symm))⟩
theorem Fr.trans {S : List Nat} {w w' w'' : World} (h : Fr S w w') (h' : Fr S w' w'') : Fr S w w'' :=
  ⟨h'.os.trans h.os, h'.tape.trans h.tape, h'.output.trans h.output, Nat.le_trans h.size h'.size, fun k hk hn => (h'.block k (Nat.lt_of_lt_of_le hk h.size) hn).trans (h.block k hk hn)⟩
theorem Fr.mono {S T : List Nat} {w w' : World} (h : Fr S w w') (hs : ∀ k ∈ S, k ∈ T) : Fr T w w' := ⟨h.os, h.tape, h.output, h.size, fun k hk hn => h.block k hk (fun e => hn (hs k e))⟩
/-- Blocks that are new may be turned. -/
theorem Fr.new {S T : List Nat} {w w' w'' : World} (h : Fr S w w') (h' : Fr T w' w'') (hs : ∀ k ∈ T, k ∈ S ∨ w.heap.size ≤ k) : Fr S w w'' :=
  ⟨h'.os.trans h.os, h'.tape.trans h.tape, h'.output.trans h.output, Nat.le_trans h.size h'.size, fun k hk hn => (h'.block k (Nat.lt_of_lt_of_le hk h.size) (fun e => (hs k e).elim hn (fun g => absurd hk (Nat.not_lt.2 g)))).trans (h.block k hk hn)⟩
theorem Fr.to_below {S : List Nat} {w w' : World} (h : Fr S w w') (hs : ∀ k ∈ S, w.heap.size ≤ k) : Below w.heap.size w w' :=
  ⟨h.os, h.tape, h.output, h.size, fun k hk => h.block k hk (fun e => absurd hk (Nat.not_lt.2 (hs k e)))⟩
theorem cell_lt {w : World} {b o : Nat} {v : Value} (h : w.cell? ⟨b, o, none⟩ = some v) : b < w.heap.size := by
  rcases Nat.lt_or_ge b w.heap.size with g | g
  · exact g
  · unfold World.cell? at h
    simp only [Array.getElem?_eq_none g] at h
    cases h
theorem Fr.cell {S : List Nat} {w w' : World} (h : Fr S w w') {b o : Nat} {v : Value} (hc : w.cell? ⟨b, o, none⟩ = some v) (hn : b ∉ S) : w'.cell? ⟨b, o, none⟩ = some v := by
  rw [← hc]
  unfold World.cell?
  rw [h.block b (cell_lt hc) hn]
theorem Fr.frozen {S : List Nat} {w w' : World} (h : Fr S w w') {b o : Nat} (hb : b < w.heap.size) (hn : b ∉ S) : w'.frozen? ⟨b, o, none⟩ = w.frozen? ⟨b, o, none⟩ := by
  unfold World.frozen?
  rw [h.block b hb hn]
theorem Fr.range {S : List Nat} {w w' : World} (h : Fr S w w') {b o : Nat} {l : List Value} (hr : w.rangeAt b o l) (hn : b ∉ S) : w'.rangeAt b o l := fun j v hv => h.cell (hr j v hv) hn
theorem own_blk {w : World} {B : Nat} {T : TypeId} {k : Nat} {v : Value} {n : Nat} {xs : List Value} (h : w.ownsRow B T k v n xs) {g : Nat} (e : v.ownBlock = some g) : B ≤ g ∧ g < w.heap.size := by
  rcases h.2 with ⟨rfl, _⟩ | ⟨g', cap, cur, rfl, hb, hg, _⟩
  · cases e
  · have e2 : g' = g := by simpa [Value.ownBlock] using e
    subst e2
    refine ⟨hb, ?_⟩
    rcases Nat.lt_or_ge g' w.heap.size with q | q
    · exact q
    · rw [Array.getElem?_eq_none q] at hg
      cases hg
theorem own_fr {S : List Nat} {w w' : World} (h : Fr S w w') {B : Nat} {T : TypeId} {k : Nat} {v : Value} {n : Nat} {xs : List Value} (ho : w.ownsRow B T k v n xs) (hn : ∀ g, v.ownBlock = some g → g ∉ S) : w'.ownsRow B T k v n xs := by
  have hb := fun {g} (e : v.ownBlock = some g) => own_blk ho e
  refine ⟨ho.1, ?_⟩
  rcases ho.2 with q | ⟨g, cap, cur, rfl, hb1, hg, r1, r2, r3, r4⟩
  · exact Or.inl q
  · exact Or.inr ⟨g, cap, cur, rfl, hb1, by rw [h.block g (hb rfl).2 (hn g rfl)]; exact hg, r1, r2, r3, r4⟩
/-- A row of one's own, opened. -/
theorem own_open {w : World} {B s n : Nat} {T : TypeId} {v : Value} {xs : List Value} (h : w.ownsRow B T s v n xs) : ∃ a c, v = .slice a n c ∧ n ≤ c ∧ (0 < n → ∃ g, a = some ⟨g, 0, none⟩ ∧ (∀ i, i < n → w.there g (i * s) s) ∧ ∀ j (hj : j < xs.length), w.cell? ⟨g, j, none⟩ = some xs[j]) := by
  rcases h.2 with ⟨e, h0⟩ | ⟨g, cap, cur, e, hb, hg, h1, h2, h3, h4⟩
  · exact ⟨none, 0, by rw [e, h0], by omega, fun z => by omega⟩
  · refine ⟨some ⟨g, 0, none⟩, cap, e, h1, fun _ => ⟨g, rfl, fun i hi j hj => ⟨?_, ?_⟩, fun j hj => ?_⟩⟩
    · rw [cell_of_row w g (i * s + j) cur T (0, 0) hg]
      have : (i + 1) * s ≤ cap * s := Nat.mul_le_mul_right _ (by omega)
      rw [Nat.add_mul, Nat.one_mul] at this
      rw [Array.getElem?_eq_getElem (by rw [h3]; omega)]
      rfl
    · simp [World.frozen?, hg]
    · have hc := h.cells (g := g) (by rw [e]; rfl) j (xs[j]) (List.getElem?_eq_getElem hj)
      rwa [show (⟨g, 0, none⟩ : Addr).add j = ⟨g, j, none⟩ from by simp [Addr.add]; intro h; exact h.symm] at hc
/-- Cells that are written from a place on. -/
def setL : List Value → Nat → List Value → List Value
  | xs, _, [] => xs
  | xs, o, v :: r => setL (xs.set o v) (o + 1) r
theorem setL_app : ∀ (vs A X R : List Value), vs.length = X.length → setL (A ++ X ++ R) A.length vs = A ++ vs ++ R
  | [], A, [], R, _ => by simp [setL]
  | [], A, x :: X, R, h => by simp at h
  | v :: r, A, [], R, h => by simp at h
  | v :: r, A, x :: X, R, h => by
    have e : (A ++ (x :: X) ++ R).set A.length v = (A ++ [v]) ++ X ++ R := by
      rw [List.append_assoc, List.set_append_right _ _ (Nat.le_refl _), Nat.sub_self]
      simp
    show setL ((A ++ (x :: X) ++ R).set A.length v) (A.length + 1) r = _
    rw [e]
    have := setL_app r (A ++ [v]) X R (by simpa using h)
    rw [List.length_append] at this
    rw [show A.length + 1 = A.length + [v].length from rfl, this]
    simp
/-- A row whose cells are written from a place on. -/
theorem own_setAll {T : TypeId} {s : Nat} {B g n cap : Nat} : ∀ (vs : List Value) (o : Nat) (w : World) (xs : List Value), w.ownsRow B T s (.slice (some ⟨g, 0, none⟩) n cap) n xs → (w.setCells g o vs).ownsRow B T s (.slice (some ⟨g, 0, none⟩) n cap) n (setL xs o vs) ∧ w.grownBy (w.setCells g o vs) (some g)
  | [], o, w, xs, h => ⟨h, ⟨rfl, rfl, rfl, Nat.le_refl _, fun k _ _ => rfl⟩⟩
  | v :: r, o, w, xs, h => by
    obtain ⟨a, b⟩ := World.ownsRow.stored h o v
    obtain ⟨c, d⟩ := own_setAll r (o + 1) _ _ a
    refine ⟨c, d.os.trans b.os, d.tape.trans b.tape, d.output.trans b.output, Nat.le_trans b.size d.size, fun k hk hne => ?_⟩
    exact (d.block k (Nat.lt_of_lt_of_le hk b.size) hne).trans (b.block k hk hne)
/-- A block written whole. -/
theorem AtL.there {W : World} {k : Nat} {us : List Value} (h : AtL W k us) : W.there k 0 us.length := fun j hj =>
  ⟨by rw [Nat.zero_add, h.2.1 j us[j] (List.getElem?_eq_getElem hj)]; rfl, by rw [Nat.zero_add]; exact h.2.2 j hj⟩
theorem AtL.range {W : World} {k : Nat} {us : List Value} (h : AtL W k us) : W.rangeAt k 0 us := fun j v hv => by rw [Nat.zero_add]; exact h.2.1 j v hv
theorem size_setCells (k : Nat) : ∀ (vs : List Value) (o : Nat) (W : World), (W.setCells k o vs).heap.size = W.heap.size
  | [], _, _ => rfl
  | v :: r, o, W => by rw [World.setCells, size_setCells k r]; simp [go_sem]
theorem AtL.setAll {W : World} {k : Nat} {us vs : List Value} (h : AtL W k us) (hl : vs.length = us.length) : AtL (W.setCells k 0 vs) k vs := by
  refine ⟨by rw [size_setCells]; exact h.1, fun i v hv => ?_, fun i hi => ?_⟩
  · have := World.rangeAt_setCells_same W k 0 vs (by rw [hl]; exact h.there) i v hv
    rw [Nat.zero_add] at this; exact this
  · rw [World.frozen?_setCells]; exact h.2.2 i (by omega)
theorem AtL.farAll {W : World} {k b : Nat} {us : List Value} (h : AtL W k us) (hb : b ≠ k) (o : Nat) (vs : List Value) : AtL (W.setCells b o vs) k us := by
  refine ⟨by rw [size_setCells]; exact h.1, fun i v hv => ?_, fun i hi => ?_⟩
  · rw [World.cell?_setCells_out b vs o W _ (fun h1 => absurd h1.symm hb)]; exact h.2.1 i v hv
  · rw [World.frozen?_setCells]; exact h.2.2 i hi
theorem bset {w W : World} {k : Nat} (hb : Below w.heap.size w W) (hk : w.heap.size ≤ k) : ∀ (vs : List Value) (o : Nat), Below w.heap.size w (W.setCells k o vs) := by
  intro vs
  induction vs generalizing W with
  | nil => intro o; exact hb
  | cons v r ih => intro o; rw [World.setCells]; exact ih (hb.setCell (p := ⟨k, o, none⟩) hk v) (o + 1)
theorem AtL.fr {S : List Nat} {w w' : World} {k : Nat} {us : List Value} (h : AtL w k us) (hf : Fr S w w') (hn : k ∉ S) : AtL w' k us :=
  ⟨Nat.lt_of_lt_of_le h.1 hf.size, fun i v hv => hf.cell (h.2.1 i v hv) hn, fun i hi => by rw [hf.frozen h.1 hn]; exact h.2.2 i hi⟩
theorem CM.fr {S : List Nat} {w w' : World} {b : Nat} {F : List (Wpl.Cl × Int)} (h : CM w b F) (hf : Fr S w w') (hn : b ∉ S) : CM w' b F := by
  have hl := h.lt
  obtain ⟨es, ck, h1, h2⟩ := h
  exact ⟨es, ck, by rw [hf.block b hl hn]; exact h1, h2⟩
/-- A row of cells that wait, as memory has it. -/
def flatW : List Wq.Wr → List Value
  | [] => []
  | x :: r => wrV x ++ flatW r
theorem flatW_len : ∀ A : List Wq.Wr, (flatW A).length = A.length * 5
  | [] => rfl
  | x :: r => by simp [flatW, flatW_len r, wrV]; omega
theorem flatW_app : ∀ (A C : List Wq.Wr), flatW (A ++ C) = flatW A ++ flatW C
  | [], C => rfl
  | x :: r, C => by simp [flatW, flatW_app r C]
theorem flatW_gt : ∀ (A : List Wq.Wr) (i : Nat) (h : i < A.length) (c : Nat), c < 5 → (flatW A)[i * 5 + c]? = (wrV (A[i]))[c]?
  | [], i, h, c, hc => absurd h (Nat.not_lt_zero _)
  | x :: r, 0, h, c, hc => by
    show (wrV x ++ flatW r)[0 * 5 + c]? = _
    rw [Nat.zero_mul, Nat.zero_add, List.getElem?_append_left (by simpa [wrV] using hc)]
    rfl
  | x :: r, i + 1, h, c, hc => by
    show (wrV x ++ flatW r)[(i + 1) * 5 + c]? = _
    rw [List.getElem?_append_right (by simp [wrV]; omega), show (i + 1) * 5 + c - (wrV x).length = i * 5 + c from by simp [wrV]; omega, flatW_gt r i (by simpa using h) c hc]
    rfl
theorem flatW_set (U : List Wq.Wr) (i : Nat) (hi : i < U.length) (p : Wq.Wr) : setL (flatW U) (i * 5) (wrV p) = flatW (U.set i p) := by
  have e1 : U = U.take i ++ U[i] :: U.drop (i + 1) := by rw [← List.drop_eq_getElem_cons hi, List.take_append_drop]
  have e2 : U.set i p = U.take i ++ p :: U.drop (i + 1) := List.set_eq_take_append_cons_drop.trans (if_pos hi)
  have hl : (flatW (U.take i)).length = i * 5 := by rw [flatW_len, List.length_take, Nat.min_eq_left (by omega)]
  rw [e2]
  conv => lhs; rw [e1]
  rw [flatW_app, flatW_app]
  show setL (flatW (U.take i) ++ (wrV U[i] ++ flatW (U.drop (i + 1)))) (i * 5) (wrV p) = flatW (U.take i) ++ (wrV p ++ flatW (U.drop (i + 1)))
  rw [← List.append_assoc, ← hl, setL_app (wrV p) _ (wrV U[i]) _ rfl, List.append_assoc]
end Go.Proofs.Ytpbjmhcpaeillaa
