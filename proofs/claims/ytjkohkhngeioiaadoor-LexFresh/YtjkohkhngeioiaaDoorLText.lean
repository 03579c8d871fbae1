/- Text. -/
import Derived.Test.YtjkohkhngeioiaaDoorLScan
import Derived.Shelf.Strings.BuilderK
import Derived.Deep.LoopGhost
namespace Wlx
theorem dbl_app (a b : List UInt8) : dbl (a ++ b) = dbl a ++ dbl b := by
  induction a with
  | nil => rfl
  | cons c t ih =>
    show (if c = 34 then 34 :: 34 :: dbl (t ++ b) else c :: dbl (t ++ b)) = (if c = 34 then 34 :: 34 :: dbl t else c :: dbl t) ++ dbl b
    rw [ih]
    split <;> rfl
/-- A token as memory has it. -/
structure TV where
  k : Int
  t : List UInt8
  p : Int
def tv (t : Tok) : TV := ⟨t.k, t.t, t.p⟩
/-- A token as it stands. -/
def wv (t : TV) : List UInt8 := if t.k = 2 then 34 :: (dbl t.t ++ [34]) else t.t
/-- Tokens with a blank ahead of each but the first. -/
def joinF : Bool → List TV → List UInt8
  | _, [] => []
  | f, t :: r => (if f then [] else [32]) ++ wv t ++ joinF false r
def textV (ts : List TV) : List UInt8 := joinF true ts
/-- How much there is. -/
def wgt (ts : List TV) : Nat := (ts.map fun t => t.t.length + 1).sum
end Wlx
namespace Go.Proofs.YtjkohkhngeioiaaDoor
open Go.Shelf Go.RowKit
set_option linter.unusedVariables false

/-- A slice that holds these tokens. -/
def ReadV (w : World) (v : Value) (ts : List Wlx.TV) : Prop :=
  ∃ (av : Option Addr) (cap : Nat), v = .slice av ts.length cap ∧ ∀ i (h : i < ts.length), ∃ bb off, av = some ⟨bb, off, none⟩ ∧ bb < w.heap.size ∧
    w.cell? ⟨bb, off + i * 3, none⟩ = some (.int .i64 (ts[i]).k) ∧ w.cell? ⟨bb, off + i * 3 + 1, none⟩ = some (.string ⟨(ts[i]).t.toArray⟩) ∧ w.cell? ⟨bb, off + i * 3 + 2, none⟩ = some (.int .i64 (ts[i]).p)
theorem ReadV.below {w w' : World} {v : Value} {ts : List Wlx.TV} (h : ReadV w v ts) {B : Nat} (hB : w.heap.size ≤ B) (hb : Below B w w') : ReadV w' v ts := by
  obtain ⟨av, cap, e, h⟩ := h
  refine ⟨av, cap, e, fun i hi => ?_⟩
  obtain ⟨bb, off, e1, e2, c0, c1, c2⟩ := h i hi
  have hs := hb.size
  exact ⟨bb, off, e1, by omega, (hb.cell (p := ⟨bb, _, none⟩) (by show bb < B; omega)).trans c0, (hb.cell (p := ⟨bb, _, none⟩) (by show bb < B; omega)).trans c1, (hb.cell (p := ⟨bb, _, none⟩) (by show bb < B; omega)).trans c2⟩
theorem rowT_get : ∀ (ts : List Wlx.Tok) (i : Nat) (h : i < ts.length), (rowT ts)[i * 3]? = some (.int .i64 (ts[i]).k) ∧ (rowT ts)[i * 3 + 1]? = some (.string ⟨(ts[i]).t.toArray⟩) ∧ (rowT ts)[i * 3 + 2]? = some (.int .i64 (ts[i]).p)
  | [], i, h => by simp at h
  | t :: r, 0, _ => ⟨rfl, rfl, rfl⟩
  | t :: r, i + 1, h => by
    obtain ⟨h0, h1, h2⟩ := rowT_get r i (by simpa using h)
    have e : ∀ j, (rowT (t :: r))[j + 3]? = (rowT r)[j]? := fun j => rfl
    rw [show (i + 1) * 3 = i * 3 + 3 by omega, show i * 3 + 3 + 1 = i * 3 + 1 + 3 by omega, show i * 3 + 3 + 2 = i * 3 + 2 + 3 by omega, e, e, e]
    exact ⟨h0, h1, h2⟩
theorem ReadV.own {w : World} {B : Nat} {v : Value} {ts : List Wlx.Tok} (h : OwnT w B v ts) : ReadV w v (ts.map Wlx.tv) := by
  rcases h.2 with ⟨e, hn⟩ | ⟨g, cap, cur, e, hg, hc, _⟩
  · refine ⟨none, 0, by rw [e, List.length_map, hn], fun i hi => ?_⟩
    rw [List.length_map] at hi; omega
  · refine ⟨some ⟨g, 0, none⟩, cap, by rw [e, List.length_map], fun i hi => ?_⟩
    rw [List.length_map] at hi
    have hlt : g < w.heap.size := (Array.getElem?_eq_some_iff.1 hc).1
    obtain ⟨h0, h1, h2⟩ := rowT_get ts i hi
    subst e
    refine ⟨g, 0, rfl, hlt, ?_, ?_, ?_⟩
    · rw [Nat.zero_add, World.ownsRow.cellAt h _ (by omega), h0]; simp [Wlx.tv]
    · rw [Nat.zero_add, World.ownsRow.cellAt h _ (by omega), h1]; simp [Wlx.tv]
    · rw [Nat.zero_add, World.ownsRow.cellAt h _ (by omega), h2]; simp [Wlx.tv]

theorem isF_below {T e : TypeId} {B b : Nat} {bs : List Value} {w w' : World} (h : Lib.IsBuilderF T e B b bs w) (hb : Below w.heap.size w w') : Lib.IsBuilderF T e B b bs w' := by
  have g : ∀ p, Lib.BuilderAtF T e B b p bs w → Lib.BuilderAtF T e B b p bs w' := by
    rintro p ⟨h1, v, h2, ⟨h3, h4⟩, h5⟩
    refine ⟨h1, v, (hb.block b (Array.getElem?_eq_some_iff.1 h2).1).trans h2, ⟨h3, ?_⟩, h5⟩
    rcases h4 with h4 | ⟨g, cap, cur, fz, a1, a2, a3, a4⟩
    · exact Or.inl h4
    · exact Or.inr ⟨g, cap, cur, fz, a1, a2, (hb.block g (Array.getElem?_eq_some_iff.1 a3).1).trans a3, a4⟩
  exact h.elim (fun x => .inl (g _ x)) (fun x => .inr (g _ x))
theorem wstrk (B b : Nat) (l : List UInt8) (s : ByteArray) (w : World) (h : Lib.IsBuilderF 47 5 B b (Lib.byteCells l) w) (hlen : l.length + s.size ≤ 140737488355328) (hBw : B ≤ w.heap.size) :
    Calls Tryd.prog 24 #[.pointer (some ⟨b, 0, none⟩), .string s] w fun e w' => e = .returned (.tuple #[.int .i64 s.size, .nilIface]) ∧ Lib.IsBuilderF 47 5 B b (Lib.byteCells (l ++ s.data.toList)) w' ∧ Below B w w' ∧ Lib.OthersKept 5 (some b) w w' := by
  refine (Any.Builder_WriteString_k { lays155 with } extra155 B b (Lib.byteCells l) s w h (by rw [Lib.byteCells_length]; exact hlen) hBw).mono ?_
  rintro e w' ⟨rfl, h1, h2⟩
  rw [Lib.strCells_eq, ← Lib.byteCells_append] at h1
  exact ⟨rfl, Or.inr h1, h2⟩
theorem bstrk (B b : Nat) (l : List UInt8) (w : World) (h : Lib.IsBuilderF 47 5 B b (Lib.byteCells l) w) (hBw : B ≤ w.heap.size) :
    Calls Tryd.prog 26 #[.pointer (some ⟨b, 0, none⟩)] w fun e w' => e = .returned (.string ⟨l.toArray⟩) ∧ Below B w w' :=
  (Any.Builder_String_any_k { lays155 with } extra155 B b l w h hBw).mono fun e w' ⟨a, b, c, d⟩ => ⟨a, c⟩
theorem put3_heap (W : World) (t : TypeId) (a b c x y z : Value) : ((((W.alloc (.cells #[a, b, c] t)).setCell ⟨W.heap.size, 0, none⟩ x).setCell ⟨W.heap.size, 1, none⟩ y).setCell ⟨W.heap.size, 2, none⟩ z).heap[W.heap.size]? = some (.cells #[x, y, z] t (0, 0)) := by
  have h0 : (W.alloc (.cells #[a, b, c] t)).heap[W.heap.size]? = some (.cells #[a, b, c] t (0, 0)) := by
    show (W.heap.push _)[W.heap.size]? = _
    simp
  have g : ∀ (w : World) (cs : Array Value) (i : Nat) (v : Value), w.heap[W.heap.size]? = some (.cells cs t (0, 0)) → (w.setCell ⟨W.heap.size, i, none⟩ v).heap[W.heap.size]? = some (.cells (cs.setIfInBounds i v) t (0, 0)) := by
    intro w cs i v h
    unfold World.setCell
    rw [Array.getElem?_modify, if_pos rfl, h]
    rfl
  exact g _ _ 2 z (g _ _ 1 y (g _ _ 0 x h0))

theorem cat3 (l : List UInt8) : (⟨#[34]⟩ : ByteArray) ++ ⟨l.toArray⟩ ++ ⟨#[34]⟩ = ⟨(34 :: (l ++ [34])).toArray⟩ := by
  apply ByteArray.ext
  apply Array.ext'
  simp
theorem written_any (k p : Int) (s : List UInt8) (w : World) (hm : MaxAt w) (hs : s.length ≤ 1048576) : Calls Tryd.prog 25 #[.agg #[.int .i64 k, .string ⟨s.toArray⟩, .int .i64 p]] w fun e w' => e = .returned (.string ⟨(Wlx.wv ⟨k, s, p⟩).toArray⟩) ∧ Below w.heap.size w w' := by
  by_cases hk : k = 2
  · subst hk
    have R := fun w hm => replace_one ⟨s.toArray⟩ w hm (by simpa [ByteArray.size] using hs)
    have e0 : (⟨s.toArray⟩ : ByteArray).data.toList = s := rfl
    rw [e0] at R
    have E : Hid (Wlx.wv ⟨2, s, p⟩ = 34 :: (Wlx.dbl s ++ [34])) := by show _ = _; unfold Wlx.wv; exact if_pos rfl
    have hd := Wlx.dbl_length s
    obtain ⟨d, hdd⟩ : ∃ d, Wlx.dbl s = d := ⟨_, rfl⟩
    rw [hdd] at R E hd
    clear hdd
    have l1 : ¬ 9223372036854775807 < d.length + 1 := by omega
    have l2 : ¬ 9223372036854775807 < d.length + 1 + 1 := by omega
    go_enter Tryd.func25, Tryd.ntmps25
    go_wp2_with fail
    refine (R _ (MaxAt.below hm ((Below.refl _ w).alloc (Nat.le_refl _) _))).mono ?_
    rintro e w1 ⟨rfl, hb⟩
    go_wp2
    go_ret
    exact ⟨by rw [E.out, ← cat3]; rfl, ((Below.refl _ w).alloc (Nat.le_refl _) _).trans (hb.mono (by simp))⟩
  · have hk2 : (k != 2) = true := by simpa using hk
    have E : Hid (Wlx.wv ⟨k, s, p⟩ = s) := by show _ = _; unfold Wlx.wv; exact if_neg hk
    clear hk
    go_enter Tryd.func25, Tryd.ntmps25
    go_wp2
    go_ret
    exact ⟨by rw [E.out]; rfl, (Below.refl _ w).alloc (Nat.le_refl _) _⟩
end Go.Proofs.YtjkohkhngeioiaaDoor
