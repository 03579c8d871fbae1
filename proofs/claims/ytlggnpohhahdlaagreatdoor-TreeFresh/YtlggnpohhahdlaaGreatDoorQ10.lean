/- LText, TState, TStateB, TStateC, TParA. -/
import Derived.Test.YtlggnpohhahdlaaGreatDoorQ09
import Derived.Shelf.Strings.BuilderK
import Derived.Deep.LoopGhost
import Derived.Laws.AppendOwn
import Derived.Laws.Slices
import Derived.WalkSmall
import Derived.Defers
import Derived.Recover
namespace Wlx
theorem dbl_app (a b : List UInt8) : dbl (a ++ b) = dbl a ++ dbl b := by
  induction a with
  | nil => rfl
  | cons c t ih =>
    show (if c = 34 then 34 :: 34 :: dbl (t ++ b) else c :: dbl (t ++ b)) = (if c = 34 then 34 :: 34 :: dbl t else c :: dbl t) ++ dbl b
    rw [ih]
    split <;> rfl
structure TV where
  k : Int
  t : List UInt8
  p : Int
def tv (t : Tok) : TV := ⟨t.k, t.t, t.p⟩
def wv (t : TV) : List UInt8 := if t.k = 2 then 34 :: (dbl t.t ++ [34]) else t.t
def joinF : Bool → List TV → List UInt8
  | _, [] => []
  | f, t :: r => (if f then [] else [32]) ++ wv t ++ joinF false r
def textV (ts : List TV) : List UInt8 := joinF true ts
def wgt (ts : List TV) : Nat := (ts.map fun t => t.t.length + 1).sum
end Wlx
namespace Go.Proofs.YtlggnpohhahdlaaGreatDoor
open Go.Shelf Go.RowKit
set_option linter.unusedVariables false
def ReadV (w : World) (v : Value) (ts : List Wlx.TV) : Prop :=
  ∃ (av : Option Addr) (cap : Nat), v = .slice av ts.length cap ∧ ∀ i (h : i < ts.length), ∃ bb off, av = some ⟨bb, off, none⟩ ∧ bb < w.heap.size ∧
    w.cell? ⟨bb, off + i * 3, none⟩ = some (.int .i64 (ts[i]).k) ∧ w.cell? ⟨bb, off + i * 3 + 1, none⟩ = some (.string ⟨(ts[i]).t.toArray⟩) ∧ w.cell? ⟨bb, off + i * 3 + 2, none⟩ = some (.int .i64 (ts[i]).p)
theorem ReadV.below {w w' : World} {v : Value} {ts : List Wlx.TV} (h : ReadV w v ts) {B : Nat} (hB : w.heap.size ≤ B) (hb : Below B w w') : ReadV w' v ts := by
  obtain ⟨av, cap, e, h⟩ := h
  refine ⟨av, cap, e, fun i hi => ?_⟩
  obtain ⟨bb, off, e1, e2, c0, c1, c2⟩ := h i hi
  have hs := hb.size
  exact ⟨bb, off, e1, by omega, (hb.cell (p := ⟨bb, _, none⟩) (by show bb < B; omega)).trans c0, (hb.cell (p := ⟨bb, _, none⟩) (by show bb < B; omega)).trans c1, (hb.cell (p := ⟨bb, _, none⟩) (by show bb < B; omega)).trans c2⟩
theorem rowT_get : ∀ (ts : List Wlx.Tok) (i : Nat) (h : i < ts.length), (rowT ts)[i * 3]? = some (.int .i64 (ts[i]).k) ∧ (rowT ts)[i * 3 + 1]? = some (.string ⟨(ts[i]).t.toArray⟩) ∧ (rowT ts)[i * 3 + 2]? = some (.int .i64 (ts[i]).p)
  | [], i, h => by simp at h
  | t :: r, 0, _ => ⟨rfl, rfl, rfl⟩
  | t :: r, i + 1, h => by
    obtain ⟨h0, h1, h2⟩ := rowT_get r i (by simpa using h)
    have e : ∀ j, (rowT (t :: r))[j + 3]? = (rowT r)[j]? := fun j => rfl
    rw [show (i + 1) * 3 = i * 3 + 3 by omega, show i * 3 + 3 + 1 = i * 3 + 1 + 3 by omega, show i * 3 + 3 + 2 = i * 3 + 2 + 3 by omega, e, e, e]
    exact ⟨h0, h1, h2⟩
theorem ReadV.own {w : World} {B : Nat} {v : Value} {ts : List Wlx.Tok} (h : OwnT w B v ts) : ReadV w v (ts.map Wlx.tv) := by
  rcases h.2 with ⟨e, hn⟩ | ⟨g, cap, cur, e, hg, hc, _⟩
  · refine ⟨none, 0, by rw [e, List.length_map, hn], fun i hi => ?_⟩
    rw [List.length_map] at hi; omega
  · refine ⟨some ⟨g, 0, none⟩, cap, by rw [e, List.length_map], fun i hi => ?_⟩
    rw [List.length_map] at hi
    have hlt : g < w.heap.size := (Array.getElem?_eq_some_iff.1 hc).1
    obtain ⟨h0, h1, h2⟩ := rowT_get ts i hi
    subst e
    refine ⟨g, 0, rfl, hlt, ?_, ?_, ?_⟩
    · rw [Nat.zero_add, World.ownsRow.cellAt h _ (by omega), h0]; simp [Wlx.tv]
    · rw [Nat.zero_add, World.ownsRow.cellAt h _ (by omega), h1]; simp [Wlx.tv]
    · rw [Nat.zero_add, World.ownsRow.cellAt h _ (by omega), h2]; simp [Wlx.tv]
theorem isF_below {T e : TypeId} {B b : Nat} {bs : List Value} {w w' : World} (h : Lib.IsBuilderF T e B b bs w) (hb : Below w.heap.size w w') : Lib.IsBuilderF T e B b bs w' := by
  have g : ∀ p, Lib.BuilderAtF T e B b p bs w → Lib.BuilderAtF T e B b p bs w' := by
    rintro p ⟨h1, v, h2, ⟨h3, h4⟩, h5⟩
    refine ⟨h1, v, (hb.block b (Array.getElem?_eq_some_iff.1 h2).1).trans h2, ⟨h3, ?_⟩, h5⟩
    rcases h4 with h4 | ⟨g, cap, cur, fz, a1, a2, a3, a4⟩
    · exact Or.inl h4
    · exact Or.inr ⟨g, cap, cur, fz, a1, a2, (hb.block g (Array.getElem?_eq_some_iff.1 a3).1).trans a3, a4⟩
  exact h.elim (fun x => .inl (g _ x)) (fun x => .inr (g _ x))
theorem wstrk (B b : Nat) (l : List UInt8) (s : ByteArray) (w : World) (h : Lib.IsBuilderF 65 5 B b (Lib.byteCells l) w) (hlen : l.length + s.size ≤ 140737488355328) (hBw : B ≤ w.heap.size) :
    Calls Tryz.prog 46 #[.pointer (some ⟨b, 0, none⟩), .string s] w fun e w' => e = .returned (.tuple #[.int .i64 s.size, .nilIface]) ∧ Lib.IsBuilderF 65 5 B b (Lib.byteCells (l ++ s.data.toList)) w' ∧ Below B w w' ∧ Lib.OthersKept 5 (some b) w w' := by
  refine (Any.Builder_WriteString_k { lays155 with } extra155 B b (Lib.byteCells l) s w h (by rw [Lib.byteCells_length]; exact hlen) hBw).mono ?_
  rintro e w' ⟨rfl, h1, h2⟩
  rw [Lib.strCells_eq, ← Lib.byteCells_append] at h1
  exact ⟨rfl, Or.inr h1, h2⟩
theorem bstrk (B b : Nat) (l : List UInt8) (w : World) (h : Lib.IsBuilderF 65 5 B b (Lib.byteCells l) w) (hBw : B ≤ w.heap.size) :
    Calls Tryz.prog 28 #[.pointer (some ⟨b, 0, none⟩)] w fun e w' => e = .returned (.string ⟨l.toArray⟩) ∧ Below B w w' :=
  (Any.Builder_String_any_k { lays155 with } extra155 B b l w h hBw).mono fun e w' ⟨a, b, c, d⟩ => ⟨a, c⟩
theorem cat3 (l : List UInt8) : (⟨#[34]⟩ : ByteArray) ++ ⟨l.toArray⟩ ++ ⟨#[34]⟩ = ⟨(34 :: (l ++ [34])).toArray⟩ := by
  apply ByteArray.ext
  apply Array.ext'
  simp
theorem written_any (k p : Int) (s : List UInt8) (w : World) (hm : MaxAt w) (hs : s.length ≤ 1048576) : Calls Tryz.prog 153 #[.agg #[.int .i64 k, .string ⟨s.toArray⟩, .int .i64 p]] w fun e w' => e = .returned (.string ⟨(Wlx.wv ⟨k, s, p⟩).toArray⟩) ∧ Below w.heap.size w w' := by
  by_cases hk : k = 2
  · subst hk
    have R := fun w hm => replace_one ⟨s.toArray⟩ w hm (by simpa [ByteArray.size] using hs)
    have e0 : (⟨s.toArray⟩ : ByteArray).data.toList = s := rfl
    rw [e0] at R
    have E : Hid (Wlx.wv ⟨2, s, p⟩ = 34 :: (Wlx.dbl s ++ [34])) := by show _ = _; unfold Wlx.wv; exact if_pos rfl
    have hd := Wlx.dbl_length s
    obtain ⟨d, hdd⟩ : ∃ d, Wlx.dbl s = d := ⟨_, rfl⟩
    rw [hdd] at R E hd
    clear hdd
    have l1 : ¬ 9223372036854775807 < d.length + 1 := by omega
    have l2 : ¬ 9223372036854775807 < d.length + 1 + 1 := by omega
    go_enter Tryz.func153, Tryz.ntmps153
    go_wp2_with fail
    refine (R _ (MaxAt.below hm ((Below.refl _ w).alloc (Nat.le_refl _) _))).mono ?_
    rintro e w1 ⟨rfl, hb⟩
    go_wp2
    go_ret
    exact ⟨by rw [E.out, ← cat3]; rfl, ((Below.refl _ w).alloc (Nat.le_refl _) _).trans (hb.mono (by simp))⟩
  · have hk2 : (k != 2) = true := by simpa using hk
    have E : Hid (Wlx.wv ⟨k, s, p⟩ = s) := by show _ = _; unfold Wlx.wv; exact if_neg hk
    clear hk
    go_enter Tryz.func153, Tryz.ntmps153
    go_wp2
    go_ret
    exact ⟨by rw [E.out]; rfl, (Below.refl _ w).alloc (Nat.le_refl _) _⟩
open Go.RowKit
def PSt (w : World) (kp : Nat) (ts : List Wlx.TV) (en : Int) : Prop :=
  ∃ (av : Option Addr) (cap : Nat), ts.length ≤ cap ∧ AtL w kp [.slice av ts.length cap, .int .i64 en] ∧
    ∀ i (h : i < ts.length), ∃ bb off, av = some ⟨bb, off, none⟩ ∧ bb < kp ∧ w.cell? ⟨bb, off + i * 3, none⟩ = some (.int .i64 (ts[i]).k) ∧ w.cell? ⟨bb, off + i * 3 + 1, none⟩ = some (.string ⟨(ts[i]).t.toArray⟩) ∧ w.cell? ⟨bb, off + i * 3 + 2, none⟩ = some (.int .i64 (ts[i]).p)
theorem PSt.below {w w' : World} {kp : Nat} {ts : List Wlx.TV} {en : Int} (h : PSt w kp ts en) (hb : Below w.heap.size w w') : PSt w' kp ts en := by
  obtain ⟨av, cap, h1, h2, h3⟩ := h
  refine ⟨av, cap, h1, h2.below hb, fun i hi => ?_⟩
  obtain ⟨bb, off, e, hn, c0, c1, c2⟩ := h3 i hi
  exact ⟨bb, off, e, hn, cell_below hb c0, cell_below hb c1, cell_below hb c2⟩
theorem below_grown {w w' : World} (hb : Below w.heap.size w w') (row : Option Nat) : w.grownBy w' row := ⟨hb.os, hb.tape, hb.output, hb.size, fun k hk _ => hb.block k hk⟩
theorem grown_trans {w w1 w2 : World} {row : Option Nat} (h1 : w.grownBy w1 row) (h2 : w1.grownBy w2 row) : w.grownBy w2 row :=
  ⟨h2.os.trans h1.os, h2.tape.trans h1.tape, h2.output.trans h1.output, Nat.le_trans h1.size h2.size, fun k hk hn => (h2.block k (Nat.lt_of_lt_of_le hk h1.size) hn).trans (h1.block k hk hn)⟩
def hd (ts : List Wlx.TV) (en : Int) : Wlx.TV := match ts with
  | [] => ⟨0, [], en⟩
  | t :: _ => t
def tkV (t : Wlx.TV) : Value := .agg #[.int .i64 t.k, .string ⟨t.t.toArray⟩, .int .i64 t.p]
set_option maxRecDepth 100000 in
theorem next_any (kp : Nat) (ts : List Wlx.TV) (en : Int) (w : World) (h : PSt w kp ts en) : Calls Tryz.prog 95 #[.pointer (some ⟨kp, 0, none⟩)] w fun e w' => e = .returned (tkV (hd ts en)) ∧ Below w.heap.size w w' := by
  obtain ⟨av, cap, h1, h2, h3⟩ := h
  have hlt := h2.lt
  obtain ⟨c0, c1, f0, f1⟩ := h2.two
  have hne : ¬ kp = w.heap.size := by omega
  cases ts with
  | nil =>
    simp only [List.length_nil] at c0
    go_enter Tryz.func95, Tryz.ntmps95
    go_wp2
    refine bodyPost_ret (v := .agg #[.int .i64 0, .string ⟨#[]⟩, .int .i64 en]) (by simp [results, Tryz.results95, go_sem, *]) rfl ⟨rfl, ?_⟩
    exact by with_reducible repeat (first | exact Below.refl _ _ | refine below_drewN ?_ _ | refine Below.setCell ?_ (by first | (simp; done) | (simp; omega) | omega) _ | refine Below.drew ?_ | refine below_end ?_ (by assumption) | refine ball ?_ _)
  | cons t r =>
    obtain ⟨bb, off, e, hn, d0, d1, d2⟩ := h3 0 (by simp)
    subst e
    have hlb := World.block_lt_of_cell? _ _ d0
    have hnb : ¬ bb = w.heap.size := by simp only at hlb; omega
    simp only [List.getElem_cons_zero, Nat.zero_mul, Nat.add_zero] at d0 d1 d2
    obtain ⟨m, hm⟩ : ∃ m, r.length + 1 = m := ⟨_, rfl⟩
    simp only [List.length_cons, hm] at c0
    have hm0 : ((m : Int) == 0) = false := by rw [beq_eq_false_iff_ne]; omega
    have hm1 : (0 : Int) < (m : Int) := by omega
    go_enter Tryz.func95, Tryz.ntmps95
    go_wp2
    refine bodyPost_ret (v := tkV t) (by simp [results, Tryz.results95, go_sem, tkV, *]) rfl ⟨rfl, ?_⟩
    exact by with_reducible repeat (first | exact Below.refl _ _ | refine below_drewN ?_ _ | refine Below.setCell ?_ (by first | (simp; done) | (simp; omega) | omega) _ | refine Below.drew ?_ | refine below_end ?_ (by assumption) | refine ball ?_ _)
def isMk (t : Wlx.TV) (m : List UInt8) : Bool := (t.k == 5) && (t.t == m)
theorem isMark_any (t : Wlx.TV) (m : List UInt8) (w : World) : Calls Tryz.prog 194 #[tkV t, .string ⟨m.toArray⟩] w fun e w' => e = .returned (.bool (isMk t m)) ∧ Below w.heap.size w w' := by
  obtain ⟨k, x, p⟩ := t
  unfold isMk
  show Calls _ _ #[.agg #[.int .i64 k, .string ⟨x.toArray⟩, .int .i64 p], .string ⟨m.toArray⟩] _ _
  simp only
  by_cases hk : k = 5
  · subst hk
    go_enter Tryz.func194, Tryz.ntmps194
    go_wp2
    go_ret
    exact ⟨ret_bool (by simp), by with_reducible repeat (first | exact Below.refl _ _ | refine below_drewN ?_ _ | refine Below.setCell ?_ (by first | (simp; done) | (simp; omega) | omega) _ | refine Below.drew ?_ | refine below_end ?_ (by assumption) | refine ball ?_ _)⟩
  · have hk' : (k == 5) = false := by simp [hk]
    rw [hk']
    go_enter Tryz.func194, Tryz.ntmps194
    go_wp2
    go_ret
    exact ⟨rfl, by with_reducible repeat (first | exact Below.refl _ _ | refine below_drewN ?_ _ | refine Below.setCell ?_ (by first | (simp; done) | (simp; omega) | omega) _ | refine Below.drew ?_ | refine below_end ?_ (by assumption) | refine ball ?_ _)⟩
def fol (ts : List Wlx.TV) (m : List UInt8) : Bool := match ts with
  | _ :: t :: _ => isMk t m
  | _ => false
set_option maxRecDepth 100000 in
theorem follows_any (kp : Nat) (ts : List Wlx.TV) (en : Int) (m : List UInt8) (w : World) (h : PSt w kp ts en) (hts : ts.length ≤ 1024) : Calls Tryz.prog 184 #[.pointer (some ⟨kp, 0, none⟩), .string ⟨m.toArray⟩] w fun e w' => e = .returned (.bool (fol ts m)) ∧ Below w.heap.size w w' := by
  obtain ⟨av, cap, h1, h2, h3⟩ := h
  obtain ⟨c0, c1, f0, f1⟩ := h2.two
  by_cases hl : 1 < ts.length
  · obtain ⟨bb, off, e, hn, d0, d1, d2⟩ := h3 1 hl
    subst e
    have C := isMark_any (ts[1]) m w
    have hf : fol ts m = isMk (ts[1]) m := by
      match ts, hl with
      | _ :: t :: _, _ => rfl
    rw [hf]
    clear hf h3 h2
    have hli : (1 : Int) < (ts.length : Int) := by omega
    generalize isMk (ts[1]) m = q at *
    unfold tkV at C
    go_enter Tryz.func184, Tryz.ntmps184
    go_wp2_with fail
    refine C.mono ?_
    rintro e w1 ⟨rfl, hb⟩
    go_wp2
    go_ret
    exact ⟨rfl, hb⟩
  · have hf : fol ts m = false := by
      match ts, hl with
      | [], _ => rfl
      | [_], _ => rfl
      | _ :: _ :: _, h => exact absurd (by simp) h
    rw [hf]
    have hli : ¬ (1 : Int) < (ts.length : Int) := by omega
    go_enter Tryz.func184, Tryz.ntmps184
    go_wp2
    go_ret
    exact ⟨rfl, Below.refl _ _⟩
theorem set_grown (w : World) (kp o : Nat) (v : Value) : w.grownBy (w.setCell ⟨kp, o, none⟩ v) (some kp) := by
  have hb := (Below.refl kp w).setCell (p := ⟨kp, o, none⟩) (Nat.le_refl _) v
  refine ⟨hb.os, hb.tape, hb.output, hb.size, fun k hk hn => ?_⟩
  exact Below.heap_setCell _ _ _ _ (fun e => hn (by rw [e]))
theorem PSt.far {w : World} {kp : Nat} {ts : List Wlx.TV} {en : Int} (h : PSt w kp ts en) {b : Nat} (hb : kp < b) (o : Nat) (v : Value) : PSt (w.setCell ⟨b, o, none⟩ v) kp ts en := by
  obtain ⟨av, cap, h1, h2, h3⟩ := h
  refine ⟨av, cap, h1, h2.far (by omega) o v, fun i hi => ?_⟩
  obtain ⟨bb, off, e, hn, c0, c1, c2⟩ := h3 i hi
  refine ⟨bb, off, e, hn, ?_, ?_, ?_⟩ <;> rw [World.cell?_setCell_far _ _ _ _ (by simp; omega)] <;> assumption
theorem grown_set {w W : World} {row : Option Nat} (h : w.grownBy W row) {b : Nat} (hb : w.heap.size ≤ b) (o : Nat) (v : Value) : w.grownBy (W.setCell ⟨b, o, none⟩ v) row := by
  have q := (Below.refl b W).setCell (p := ⟨b, o, none⟩) (Nat.le_refl _) v
  exact ⟨q.os.trans h.os, q.tape.trans h.tape, q.output.trans h.output, Nat.le_trans h.size q.size, fun k hk hn => (q.block k (by omega)).trans (h.block k hk hn)⟩
theorem PSt.lt {w : World} {kp : Nat} {ts : List Wlx.TV} {en : Int} (h : PSt w kp ts en) : kp < w.heap.size := by
  obtain ⟨av, cap, h1, h2, h3⟩ := h
  exact h2.lt
theorem PSt.moved {w : World} {kp n cap : Nat} {av av' : Option Addr} {a r : List Wlx.TV} {en : Int} (hn : a.length = n) (hcap : n + r.length ≤ cap) (h2 : AtL w kp [.slice av (a ++ r).length cap, .int .i64 en])
    (h3 : ∀ i (h : i < (a ++ r).length), ∃ bb off, av = some ⟨bb, off, none⟩ ∧ bb < kp ∧ w.cell? ⟨bb, off + i * 3, none⟩ = some (.int .i64 ((a ++ r)[i]).k) ∧ w.cell? ⟨bb, off + i * 3 + 1, none⟩ = some (.string ⟨((a ++ r)[i]).t.toArray⟩) ∧ w.cell? ⟨bb, off + i * 3 + 2, none⟩ = some (.int .i64 ((a ++ r)[i]).p))
    (hav : 0 < r.length → av' = av.map (·.add (n * 3))) : PSt (w.setCell ⟨kp, 0, none⟩ (.slice av' r.length (cap - n))) kp r en := by
  refine ⟨av', cap - n, by omega, h2.set 0 _, fun i hi => ?_⟩
  obtain ⟨bb, off, e, hne, d0, d1, d2⟩ := h3 (i + n) (by rw [List.length_append]; omega)
  have hg : (a ++ r)[i + n]'(by rw [List.length_append]; omega) = r[i] := by
    rw [List.getElem_append_right (by omega)]
    congr 1
    omega
  rw [hg] at d0 d1 d2
  refine ⟨bb, off + n * 3, ?_, hne, ?_, ?_, ?_⟩
  · rw [hav (by omega), e]
    show some ((⟨bb, off, none⟩ : Addr).add (n * 3)) = _
    rw [Addr.add_mid]
  · rw [World.cell?_setCell_far _ _ _ _ (by simp; omega), show off + n * 3 + i * 3 = off + (i + n) * 3 by omega]; exact d0
  · rw [World.cell?_setCell_far _ _ _ _ (by simp; omega), show off + n * 3 + i * 3 + 1 = off + (i + n) * 3 + 1 by omega]; exact d1
  · rw [World.cell?_setCell_far _ _ _ _ (by simp; omega), show off + n * 3 + i * 3 + 2 = off + (i + n) * 3 + 2 by omega]; exact d2
set_option maxRecDepth 100000 in
theorem pass_any (n : Nat) (kp : Nat) (a r : List Wlx.TV) (en : Int) (w : World) (h : PSt w kp (a ++ r) en) (hn : a.length = n) (hn2 : n ≤ 2) (hts : (a ++ r).length ≤ 1024) : Calls Tryz.prog 123 #[.pointer (some ⟨kp, 0, none⟩), .int .i64 n] w fun e w' => e = .returned (.tuple #[]) ∧ PSt w' kp r en ∧ w.grownBy w' (some kp) := by
  obtain ⟨av, cap, h1, h2, h3⟩ := h
  obtain ⟨c0, c1, f0, f1⟩ := h2.two
  have hl : (a ++ r).length = n + r.length := by rw [List.length_append, hn]
  rw [hl] at h1 hts
  simp only [hl] at c0
  have e1 : (0 : Int) ≤ (n : Int) := by omega
  have e2 : (n : Int) ≤ ((n + r.length : Nat) : Int) := by omega
  go_enter Tryz.func123, Tryz.ntmps123
  go_wp2
  · go_end0
    refine ⟨rfl, ?_, set_grown _ _ _ _⟩
    have q := PSt.moved (av' := av) hn h1 h2 h3 (fun q => by omega)
    rw [show cap - n = 0 by omega] at q
    exact q
  · go_end0
    exact ⟨rfl, PSt.moved hn h1 h2 h3 (fun h => rfl), set_grown _ _ _ _⟩
def pos (ts : List Wlx.TV) (en : Int) : Int := (hd ts en).p
def stop (c p : Int) : Ending := .panicked [{ v := .iface 50 (.agg #[.int .i64 c, .int .i64 p]), recovered := false }]
theorem tok_at (k : Int) (x : ByteArray) (p : Int) (w : World) : (Instr.field 79 (.agg #[.int .i64 k, .string x, .int .i64 p]) 2).run Tryz.prog w = .ok (.int .i64 p) w := by kernel_rfl
theorem tok_kind (k : Int) (x : ByteArray) (p : Int) (w : World) : (Instr.field 79 (.agg #[.int .i64 k, .string x, .int .i64 p]) 0).run Tryz.prog w = .ok (.int .i64 k) w := by kernel_rfl
theorem tok_text (k : Int) (x : ByteArray) (p : Int) (w : World) : (Instr.field 79 (.agg #[.int .i64 k, .string x, .int .i64 p]) 1).run Tryz.prog w = .ok (.string x) w := by kernel_rfl
set_option maxRecDepth 100000 in
theorem refuse_any (kp : Nat) (ts : List Wlx.TV) (en c : Int) (w : World) (h : PSt w kp ts en) : Calls Tryz.prog 62 #[.pointer (some ⟨kp, 0, none⟩), .int .i64 c] w fun e w' => e = stop c (pos ts en) ∧ Below w.heap.size w w' := by
  have N := next_any kp ts en w h
  unfold pos
  generalize hd ts en = t at *
  obtain ⟨k, x, p⟩ := t
  unfold tkV at N
  simp only at N ⊢
  have hfl := tok_at
  go_enter Tryz.func62, Tryz.ntmps62
  go_wp2_with fail
  refine N.mono ?_
  rintro e w1 ⟨rfl, hb⟩
  go_wp2
  exact ⟨rfl, rfl, hb⟩
theorem must_true (kp : Nat) (w : World) : Calls Tryz.prog 40 #[.pointer (some ⟨kp, 0, none⟩), .bool true] w fun e w' => e = .returned (.tuple #[]) ∧ w = w' := by
  go_enter Tryz.func40, Tryz.ntmps40
  go_wp2
  go_end0
  exact ⟨rfl, rfl⟩
theorem must_false (kp : Nat) (ts : List Wlx.TV) (en : Int) (w : World) (h : PSt w kp ts en) : Calls Tryz.prog 40 #[.pointer (some ⟨kp, 0, none⟩), .bool false] w fun e w' => e = stop 50 (pos ts en) ∧ Below w.heap.size w w' := by
  have N := refuse_any kp ts en 50 w h
  unfold stop at N ⊢
  go_enter Tryz.func40, Tryz.ntmps40
  go_wp2_with fail
  refine N.mono ?_
  rintro e w1 ⟨rfl, hb⟩
  go_wp2
  exact ⟨rfl, rfl, hb⟩
def tk (ts : List Wlx.TV) (m : List UInt8) : Option (List Wlx.TV) := match ts with
  | [] => none
  | t :: r => if isMk t m then some r else none
set_option maxRecDepth 100000 in
theorem take_any (kp : Nat) (ts : List Wlx.TV) (en : Int) (m : List UInt8) (w : World) (h : PSt w kp ts en) (hts : ts.length ≤ 1024) : Calls Tryz.prog 188 #[.pointer (some ⟨kp, 0, none⟩), .string ⟨m.toArray⟩] w fun e w' =>
    match tk ts m with
    | some r => e = .returned (.bool true) ∧ PSt w' kp r en ∧ w.grownBy w' (some kp)
    | none => e = .returned (.bool false) ∧ PSt w' kp ts en ∧ w.grownBy w' (some kp) := by
  have N := next_any kp ts en w h
  have M := fun w => isMark_any (hd ts en) m w
  cases ts with
  | nil =>
    have e0 : isMk (hd [] en) m = false := rfl
    rw [e0] at M
    generalize hd [] en = t at *
    simp only [tk]
    go_enter Tryz.func188, Tryz.ntmps188
    go_wp2_with fail
    refine N.mono ?_
    rintro e w1 ⟨rfl, hb1⟩
    go_wp2_with fail
    refine (M _).mono ?_
    rintro e w2 ⟨rfl, hb2⟩
    have hb := below_end hb1 hb2
    go_wp2
    go_ret
    exact ⟨rfl, h.below hb, below_grown hb _⟩
  | cons t r =>
    have e0 : hd (t :: r) en = t := rfl
    rw [e0] at M N
    simp only [tk]
    cases hq : isMk t m with
    | false =>
      rw [hq] at M
      rw [if_neg (by decide)]
      go_enter Tryz.func188, Tryz.ntmps188
      go_wp2_with fail
      refine N.mono ?_
      rintro e w1 ⟨rfl, hb1⟩
      go_wp2_with fail
      refine (M _).mono ?_
      rintro e w2 ⟨rfl, hb2⟩
      have hb := below_end hb1 hb2
      go_wp2
      go_ret
      exact ⟨rfl, h.below hb, below_grown hb _⟩
    | true =>
      rw [hq] at M
      rw [if_pos rfl]
      go_enter Tryz.func188, Tryz.ntmps188
      go_wp2_with fail
      refine N.mono ?_
      rintro e w1 ⟨rfl, hb1⟩
      go_wp2_with fail
      refine (M _).mono ?_
      rintro e w2 ⟨rfl, hb2⟩
      have hb := below_end hb1 hb2
      have P := pass_any 1 kp [t] r en w2 (h.below hb) rfl (by decide) hts
      go_wp2_with fail
      refine P.mono ?_
      rintro e w3 ⟨rfl, hp, hg⟩
      go_wp2
      go_ret
      exact ⟨rfl, hp, grown_trans (below_grown hb _) hg⟩
theorem AtL.grown {W W' : World} {k : Nat} {vs : List Value} {row : Option Nat} (h : AtL W k vs) (hg : W.grownBy W' row) (hne : some k ≠ row) : AtL W' k vs := by
  obtain ⟨h1, h2, h3⟩ := h
  have hbk := hg.block k h1 hne
  refine ⟨Nat.lt_of_lt_of_le h1 hg.size, fun i v hi => ?_, fun i hi => ?_⟩
  · exact (World.cell?_of_block (a := ⟨k, i, none⟩) hbk).trans (h2 i v hi)
  · rw [← h3 i hi]
    unfold World.frozen?
    simp only [hbk]
def tkOp (k : Int) (ts : List Wlx.TV) : Option ((Int × List UInt8 × Int) × List Wlx.TV) := match ts with
  | [] => none
  | t :: r => if t.k = 5 then (Wt.opAs t.t k).map fun o => (o, r) else none
def TkPost (kp : Nat) (en : Int) (ts : List Wlx.TV) (r : Option ((Int × List UInt8 × Int) × List Wlx.TV)) (w : World) (e : Ending) (w' : World) : Prop := match r with
  | some ((o, m, t), r) => e = .returned (.tuple #[.agg #[.int .i64 o, .string ⟨m.toArray⟩, .int .i64 t], .bool true]) ∧ PSt w' kp r en ∧ w.grownBy w' (some kp)
  | none => e = .returned (.tuple #[.agg #[.int .i64 0, .string ⟨#[]⟩, .int .i64 0], .bool false]) ∧ PSt w' kp ts en ∧ w.grownBy w' (some kp)
set_option maxHeartbeats 2000000 in
set_option maxRecDepth 100000 in
theorem takeOp_any (kp : Nat) (ts : List Wlx.TV) (en k : Int) (w : World) (h : PSt w kp ts en) (hts : ts.length ≤ 1024) (hO : OpsAt w) : Calls Tryz.prog 93 #[.pointer (some ⟨kp, 0, none⟩), .int .i64 k] w fun e w' => TkPost kp en ts (tkOp k ts) w e w' := by
  have h' : PSt (w.alloc (.cells #[.int .i64 0, .string ⟨#[]⟩, .int .i64 0] 118)) kp ts en := h.below ((Below.refl _ _).alloc (Nat.le_refl _) _)
  have N := next_any kp ts en _ h'
  clear h'
  have hO0 := hO.alloc (.cells #[.int .i64 0, .string ⟨#[]⟩, .int .i64 0] 118)
  have pR := AtL.new0 w 118 [.int .i64 0, .string ⟨#[]⟩, .int .i64 0]
  have hB0 := ball (Below.refl _ w) (.cells #[.int .i64 0, .string ⟨#[]⟩, .int .i64 0] 118)
  obtain ⟨t, ht⟩ : ∃ t, hd ts en = t := ⟨_, rfl⟩
  have A := fun w h => topAs_any ⟨t.t.toArray⟩ k w h
  have e1 : (⟨t.t.toArray⟩ : ByteArray).data.toList = t.t := rfl
  rw [e1] at A
  clear e1
  rw [ht] at N
  have hko : tkOp k ts = if t.k = 5 then (Wt.opAs t.t k).map fun o => (o, ts.tail) else none := by
    cases ts with
    | nil => subst ht; rfl
    | cons a r => subst ht; rfl
  have hne : t.k = 5 → ∃ r, ts = t :: r := by
    intro h5
    cases ts with
    | nil => subst ht; exact absurd h5 (by show ¬ (0 : Int) = 5; decide)
    | cons a r => subst ht; exact ⟨r, rfl⟩
  rw [hko]
  clear ht hko
  obtain ⟨tk, tx, tp⟩ := t
  simp only at A hne ⊢
  unfold tkV at N
  simp only at N
  cases ha : Wt.opAs tx k with
  | none =>
    rw [ha] at A
    have e2 : (if tk = 5 then Option.map (fun o => (o, ts.tail)) (none : Option (Int × List UInt8 × Int)) else none) = none := by split <;> rfl
    rw [e2]
    simp only [TkPost]
    simp only [opV] at A
    go_enter Tryz.func93, Tryz.ntmps93
    go_wp2_with fail
    refine N.mono ?_
    rintro e w1 ⟨rfl, hb1⟩
    have pR1 := AtL.below hb1 pR
    have hB1 := below_end hB0 hb1
    have hO1 := hO0.below hb1
    have hA := A _ (hO1.alloc (.cells #[.int .i64 tk, .string ⟨tx.toArray⟩, .int .i64 tp] 79))
    have pR2 := AtL.alloc pR1 (.cells #[.int .i64 tk, .string ⟨tx.toArray⟩, .int .i64 tp] 79)
    have hB2 := ball hB1 (.cells #[.int .i64 tk, .string ⟨tx.toArray⟩, .int .i64 tp] 79)
    clear pR hB0 hO0 N hb1 pR1 hB1 hO1 A
    go_wp2_with fail
    refine hA.mono ?_
    rintro e w2 ⟨rfl, hb2⟩
    have pR3 := AtL.below hb2 pR2
    have hB3 := below_end hB2 hb2
    have hlt := pR3.lt
    have hx : ¬ w.heap.size = w2.heap.size := by omega
    have hx2 : ¬ w2.heap.size = w.heap.size := by omega
    obtain ⟨c0, c1, c2, f0, f1, f2⟩ := pR3.three
    clear hA pR2 hB2 hb2
    go_wp2
    refine bodyPost_ret (v := .tuple #[.agg #[.int .i64 0, .string ⟨#[]⟩, .int .i64 0], .bool false]) (by simp [results, Tryz.results93, go_sem, *]) rfl ?_
    have hf : ∀ W : World, Below w.heap.size w W → (Ending.returned (.tuple #[.agg #[.int .i64 0, .string ⟨#[]⟩, .int .i64 0], .bool false]) = Ending.returned (.tuple #[.agg #[.int .i64 0, .string ⟨#[]⟩, .int .i64 0], .bool false]) ∧ PSt W kp ts en ∧ w.grownBy W (some kp)) := fun W hW => ⟨rfl, h.below hW, below_grown hW _⟩
    exact hf _ (by with_reducible repeat (first | exact hB3 | refine ball ?_ _ | refine Below.setCell ?_ (by first | (simp; done) | (simp; omega) | omega) _ | refine Below.drew ?_ | refine below_drewN ?_ _))
  | some q =>
    obtain ⟨o, m, t2⟩ := q
    rw [ha] at A
    simp only [opV] at A
    by_cases h5 : tk = 5
    · rw [if_pos h5]
      obtain ⟨r, hr⟩ := hne h5
      subst hr
      simp only [Option.map_some, List.tail_cons, TkPost]
      subst h5
      go_enter Tryz.func93, Tryz.ntmps93
      go_wp2_with fail
      refine N.mono ?_
      rintro e w1 ⟨rfl, hb1⟩
      have pR1 := AtL.below hb1 pR
      have hB1 := below_end hB0 hb1
      have hO1 := hO0.below hb1
      have hA := A _ (hO1.alloc (.cells #[.int .i64 5, .string ⟨tx.toArray⟩, .int .i64 tp] 79))
      have pR2 := AtL.alloc pR1 (.cells #[.int .i64 5, .string ⟨tx.toArray⟩, .int .i64 tp] 79)
      have hB2 := ball hB1 (.cells #[.int .i64 5, .string ⟨tx.toArray⟩, .int .i64 tp] 79)
      clear pR hB0 hO0 N hb1 pR1 hB1 hO1 A
      go_wp2_with fail
      refine hA.mono ?_
      rintro e w2 ⟨rfl, hb2⟩
      have hb2x := hb2
      have pR3 := AtL.below hb2 pR2
      have hB3 := below_end hB2 hb2
      have hlt := pR3.lt
      have hx : ¬ w.heap.size = w2.heap.size := by omega
      have hx2 : ¬ w2.heap.size = w.heap.size := by omega
      obtain ⟨c0, c1, c2, f0, f1, f2⟩ := pR3.three
      clear hA pR2 hB2 hb2
      have pT := AtL.below hb2x (AtL.new0 w1 79 [.int .i64 5, .string ⟨tx.toArray⟩, .int .i64 tp])
      obtain ⟨u0, u1, u2⟩ := pT.f3
      have hltT := pT.lt
      have pO2 := AtL.new0 w2 118 [.int .i64 o, .string ⟨m.toArray⟩, .int .i64 t2]
      have P := pass_any 1 kp [⟨5, tx, tp⟩] r en (w2.alloc (.cells #[.int .i64 o, .string ⟨m.toArray⟩, .int .i64 t2] 118)) (h.below (ball hB3 _)) rfl (by decide) hts
      have hB4 := ball hB3 (.cells #[.int .i64 o, .string ⟨m.toArray⟩, .int .i64 t2] 118)
      have hkp := h.lt
      go_wp2_with fail
      refine P.mono ?_
      rintro e w3 ⟨rfl, hp, hg⟩
      have pR4 : AtL w3 w.heap.size [.int .i64 0, .string ⟨#[]⟩, .int .i64 0] := AtL.grown (AtL.alloc pR3 _) hg (by intro e; have := Option.some.inj e; omega)
      have pO4 : AtL w3 w2.heap.size [.int .i64 o, .string ⟨m.toArray⟩, .int .i64 t2] := AtL.grown pO2 hg (by intro e; have := Option.some.inj e; omega)
      have hG := grown_trans (below_grown hB4 (some kp)) hg
      obtain ⟨c0, c1, c2, f0, f1, f2⟩ := pR4.three
      obtain ⟨d0, d1, d2, g0, g1, g2⟩ := pO4.three
      go_wp2
      refine bodyPost_ret (v := .tuple #[.agg #[.int .i64 o, .string ⟨m.toArray⟩, .int .i64 t2], .bool true]) (by simp [results, Tryz.results93, go_sem, *]) rfl ?_
      exact ⟨rfl, ((hp.far hkp _ _).far hkp _ _).far hkp _ _, grown_set (grown_set (grown_set hG (Nat.le_refl _) _ _) (Nat.le_refl _) _ _) (Nat.le_refl _) _ _⟩
    · rw [if_neg h5]
      have h5' : (tk == 5) = false := by simp [h5]
      simp only [TkPost]
      go_enter Tryz.func93, Tryz.ntmps93
      go_wp2_with fail
      refine N.mono ?_
      rintro e w1 ⟨rfl, hb1⟩
      have pR1 := AtL.below hb1 pR
      have hB1 := below_end hB0 hb1
      have hO1 := hO0.below hb1
      have hA := A _ (hO1.alloc (.cells #[.int .i64 tk, .string ⟨tx.toArray⟩, .int .i64 tp] 79))
      have pR2 := AtL.alloc pR1 (.cells #[.int .i64 tk, .string ⟨tx.toArray⟩, .int .i64 tp] 79)
      have hB2 := ball hB1 (.cells #[.int .i64 tk, .string ⟨tx.toArray⟩, .int .i64 tp] 79)
      clear pR hB0 hO0 N hb1 pR1 hB1 hO1 A
      go_wp2_with fail
      refine hA.mono ?_
      rintro e w2 ⟨rfl, hb2⟩
      have hb2x := hb2
      have pR3 := AtL.below hb2 pR2
      have hB3 := below_end hB2 hb2
      have hlt := pR3.lt
      have hx : ¬ w.heap.size = w2.heap.size := by omega
      have hx2 : ¬ w2.heap.size = w.heap.size := by omega
      obtain ⟨c0, c1, c2, f0, f1, f2⟩ := pR3.three
      clear hA pR2 hB2 hb2
      have pT := AtL.below hb2x (AtL.new0 w1 79 [.int .i64 tk, .string ⟨tx.toArray⟩, .int .i64 tp])
      obtain ⟨u0, u1, u2⟩ := pT.f3
      have hltT := pT.lt
      have hy : ¬ w1.heap.size = w2.heap.size := by omega
      go_wp2
      refine bodyPost_ret (v := .tuple #[.agg #[.int .i64 0, .string ⟨#[]⟩, .int .i64 0], .bool false]) (by simp [results, Tryz.results93, go_sem, *]) rfl ?_
      have hf : ∀ W : World, Below w.heap.size w W → (Ending.returned (.tuple #[.agg #[.int .i64 0, .string ⟨#[]⟩, .int .i64 0], .bool false]) = Ending.returned (.tuple #[.agg #[.int .i64 0, .string ⟨#[]⟩, .int .i64 0], .bool false]) ∧ PSt W kp ts en ∧ w.grownBy W (some kp)) := fun W hW => ⟨rfl, h.below hW, below_grown hW _⟩
      exact hf _ (by with_reducible repeat (first | exact hB3 | refine ball ?_ _ | refine Below.setCell ?_ (by first | (simp; done) | (simp; omega) | omega) _ | refine Below.drew ?_ | refine below_drewN ?_ _))
open Go.RowKit Go.Shelf
theorem assert_hit (v : Value) (w : World) : (Instr.typeAssert (.iface 50 v) 20 50 true).run Tryz.prog w = .ok (.tuple #[v, .bool true]) w := by kernel_rfl
theorem assert_nil (w : World) : (Instr.typeAssert .nilIface 20 50 true).run Tryz.prog w = .ok (.tuple #[.agg #[.int .i64 0, .int .i64 0], .bool false]) w := by kernel_rfl
set_option maxRecDepth 100000 in
set_option maxHeartbeats 4000000 in
theorem catch_panics (a b c : Nat) (cd at' : Int) (x y z : Value) (older : List PanicEntry) (w : World) (ha : AtL w a [x]) (hb : AtL w b [y]) (hc : AtL w c [z]) (hab : a ≠ b) (hac : a ≠ c) (hbc : b ≠ c) :
    CallsD Tryz.prog 21 #[.pointer (some ⟨a, 0, none⟩), .pointer (some ⟨b, 0, none⟩), .pointer (some ⟨c, 0, none⟩)] (.panicking ({ v := .iface 50 (.agg #[.int .i64 cd, .int .i64 at']), recovered := false } :: older)) w fun e u' w' =>
      e = .returned (.tuple #[]) ∧ u' = .panicking ({ v := .iface 50 (.agg #[.int .i64 cd, .int .i64 at']), recovered := true } :: older) ∧ AtL w' a [.slice none 0 0] ∧ AtL w' b [.int .i64 cd] ∧ AtL w' c [.int .i64 at'] ∧ ∀ lo, lo ≤ a → lo ≤ b → lo ≤ c → Below lo w w' := by
  have la := ha.1
  have lb := hb.1
  have lc := hc.1
  have na : a ≠ w.heap.size := by omega
  have nb : b ≠ w.heap.size := by omega
  have nc : c ≠ w.heap.size := by omega
  have hW : ∃ W, W = w.alloc (.cells #[.int .i64 cd, .int .i64 at'] 50) := ⟨_, rfl⟩
  obtain ⟨W, hW⟩ := hW
  have pR : AtL W w.heap.size [.int .i64 cd, .int .i64 at'] := by
    rw [hW]; exact AtL.new0 w 50 [.int .i64 cd, .int .i64 at']
  have pa : AtL W a [x] := by rw [hW]; exact ha.alloc _
  have pb : AtL W b [y] := by rw [hW]; exact hb.alloc _
  have pc : AtL W c [z] := by rw [hW]; exact hc.alloc _
  have hB : Below w.heap.size w W := by rw [hW]; exact ball (Below.refl _ w) _
  refine callsD_of_wpS Tryz.func21 rfl fun c₀ cs hu => ?_
  apply wpS_seq
  apply wpS_region
  simp [wpOpsS, go_sem, recoverD, hu, Tryz.ntmps21, Exit.thenS, assert_hit, Array.replicate, List.replicate]
  rw [← hW]
  apply wpS_seq
  apply wpS_region
  simp [wpOpsS, go_sem, Exit.thenS]
  refine wpS_cond (t := true) (by simp [Act.eval]) ?_
  simp only [if_true]
  refine wpS_of_wp ?_
  clear hW
  obtain ⟨r0, r1, q0, q1⟩ := pR.two
  have a0 := pa.2.1 0 _ rfl
  have b0 := pb.2.1 0 _ rfl
  have c0 := pc.2.1 0 _ rfl
  have fa := pa.2.2 0 (by simp)
  have fb := pb.2.2 0 (by simp)
  have fc := pc.2.2 0 (by simp)
  go_region
  have E : AtL (((W.setCell ⟨a, 0, none⟩ (Value.slice none 0 0)).setCell ⟨b, 0, none⟩ (Value.int IntKind.i64 cd)).setCell ⟨c, 0, none⟩ (Value.int IntKind.i64 at')).drew a [.slice none 0 0] ∧ AtL (((W.setCell ⟨a, 0, none⟩ (Value.slice none 0 0)).setCell ⟨b, 0, none⟩ (Value.int IntKind.i64 cd)).setCell ⟨c, 0, none⟩ (Value.int IntKind.i64 at')).drew b [.int .i64 cd] ∧ AtL (((W.setCell ⟨a, 0, none⟩ (Value.slice none 0 0)).setCell ⟨b, 0, none⟩ (Value.int IntKind.i64 cd)).setCell ⟨c, 0, none⟩ (Value.int IntKind.i64 at')).drew c [.int .i64 at'] ∧ ∀ lo, lo ≤ a → lo ≤ b → lo ≤ c → Below lo w (((W.setCell ⟨a, 0, none⟩ (Value.slice none 0 0)).setCell ⟨b, 0, none⟩ (Value.int IntKind.i64 cd)).setCell ⟨c, 0, none⟩ (Value.int IntKind.i64 at')).drew := by
    refine ⟨(((pa.set 0 _).far (Ne.symm hab) 0 _).far (Ne.symm hac) 0 _).drew, (((pb.far hab 0 _).set 0 _).far (Ne.symm hbc) 0 _).drew, (((pc.far hac 0 _).far hbc 0 _).set 0 _).drew, fun lo l1 l2 l3 => ?_⟩
    exact ((((hB.mono (by omega)).setCell (p := ⟨a, 0, none⟩) l1 _).setCell (p := ⟨b, 0, none⟩) l2 _).setCell (p := ⟨c, 0, none⟩) l3 _).drew
  simpa [bodyPostS, results, Tryz.results21] using E
set_option maxRecDepth 100000 in
set_option maxHeartbeats 4000000 in
theorem catch_idles (a b c : Nat) (w : World) :
    CallsD Tryz.prog 21 #[.pointer (some ⟨a, 0, none⟩), .pointer (some ⟨b, 0, none⟩), .pointer (some ⟨c, 0, none⟩)] .returning w fun e u' w' => e = .returned (.tuple #[]) ∧ u' = .returning ∧ Below w.heap.size w w' := by
  refine callsD_of_wpS Tryz.func21 rfl fun c₀ cs hu => ?_
  apply wpS_seq
  apply wpS_region
  simp [wpOpsS, go_sem, recoverD, hu, Tryz.ntmps21, Exit.thenS, assert_nil, Array.replicate, List.replicate]
  apply wpS_seq
  apply wpS_region
  simp [wpOpsS, go_sem, Exit.thenS]
  refine wpS_cond (t := false) (by simp [Act.eval]) ?_
  simp only [Bool.false_eq_true, if_false]
  refine wpS_of_wp (wp_skip ?_)
  have hB := ball (Below.refl _ w) (.cells #[.int .i64 0, .int .i64 0] 50)
  cases c₀
  simp_all [bodyPostS, results, Tryz.results21]
end Go.Proofs.YtlggnpohhahdlaaGreatDoor
