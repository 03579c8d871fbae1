/- WalkDc, TWr, TTree, TPrLen. -/
import Derived.Test.YtifdemakjphfcaaGreatDoorQ29
import Derived.Lib.Builder
import Derived.Laws.Externs
import Derived.OwnWalk
import Derived.Laws.OwnMore
import Derived.BigCall
import Derived.Lib.AppendStr
import Derived.Lib.OthersKept
import Derived.Lib.UnsafeStr
import Derived.Lib.FrozenHead
namespace Go.Proofs.YtifdemakjphfcaaGreatDoor
open Go.RowKit
set_option linter.unusedVariables false
theorem liesB : liesAt Tryz.prog Tryz.prog.depth 70 (2 / Tryz.prog.cellsOf 70) 0 70 1 = true := by kernel_rfl
theorem infoB : (Tryz.prog.info? 70).map (fun i => i.size) = some 2 := by kernel_rfl
set_option maxHeartbeats 800000 in
theorem ccheck1 {B b : Nat} {bs : List Value} {w : World} (h : Lib.BuilderAt 70 5 B b (.pointer none) bs w) :
    Calls Tryz.prog 76 #[.pointer (some ⟨b, 0, none⟩)] w fun e w' => e = .returned (.tuple #[]) ∧ w' = w.setCell ⟨b, 0, none⟩ (.pointer (some ⟨b, 0, none⟩)) := by
  have c0 := h.cell0
  have f0 := h.frozen0
  have hsh := h.shape
  obtain ⟨j, hj, hjs⟩ := Option.map_eq_some_iff.1 infoB
  have k1 := Lib.run_to_unsafe (P := Tryz.prog) w ⟨b, 0, none⟩ Tryz.underlying67 Tryz.underlying140 hj (by rw [hjs]; decide) hsh (Nat.zero_lt_succ 1)
  have k2 := Lib.run_from_unsafe (P := Tryz.prog) w ⟨b, 0, none⟩ Tryz.underlying140 Tryz.underlying67 hj hsh liesB
  have k3 : (callFunc 103 #[.pointer (some ⟨b, 0, none⟩)]).run Tryz.prog w = .ok (.value (.pointer (some ⟨b, 0, none⟩))) w := by
    rw [run_callFunc_extern Tryz.func103 (by kernel_rfl) (by kernel_rfl) (by kernel_rfl) (e := Extern.AbiNoEscape.same) (by kernel_rfl), Lib.run_noEscape]
    rfl
  go_enter Tryz.func76, Tryz.ntmps76
  go_wp2
  go_end0
  exact ⟨rfl, rfl⟩
set_option maxHeartbeats 800000 in
theorem ccheck2 {B b : Nat} {bs : List Value} {w : World} (h : Lib.BuilderAt 70 5 B b (.pointer (some ⟨b, 0, none⟩)) bs w) :
    Calls Tryz.prog 76 #[.pointer (some ⟨b, 0, none⟩)] w fun e w' => e = .returned (.tuple #[]) ∧ w' = w := by
  have c0 := h.cell0
  obtain ⟨j, hj, hjs⟩ := Option.map_eq_some_iff.1 infoB
  have k1 := Lib.run_neq_ptr_same (P := Tryz.prog) w ⟨b, 0, none⟩ Tryz.underlying67 hj
  go_enter Tryz.func76, Tryz.ntmps76
  go_wp2
  go_end0
  exact ⟨rfl, rfl⟩
theorem byteInfo : (Tryz.prog.info? 5).map (fun i => (i.zero, i.size, i.bytes)) = some (some (.int .u8 0), 1, 1) := by kernel_rfl
set_option maxHeartbeats 1600000 in
theorem wbyte {B b : Nat} {bs : List Value} (c : Int) (w : World) (h : Lib.IsBuilder 70 5 B b bs w) (hlen : bs.length ≤ 1000) (hBw : B ≤ w.heap.size) :
    Calls Tryz.prog 174 #[.pointer (some ⟨b, 0, none⟩), .int .u8 c] w fun e w' => e = .returned .nilIface ∧ Lib.IsBuilder 70 5 B b (bs ++ [.int .u8 c]) w' ∧ Below B w w' := by
  have CC : Calls Tryz.prog 76 #[.pointer (some ⟨b, 0, none⟩)] w fun e w' => e = .returned (.tuple #[]) ∧ Lib.BuilderAt 70 5 B b (.pointer (some ⟨b, 0, none⟩)) bs w' ∧ Below B w w' := by
    rcases h with h | h
    · exact (ccheck1 h).mono fun e w' ⟨he, hw⟩ => ⟨he, by rw [hw]; exact h.used _, by rw [hw]; exact (Below.refl B w).setCell (p := ⟨b, 0, none⟩) h.1 _⟩
    · exact (ccheck2 h).mono fun e w' ⟨he, hw⟩ => ⟨he, by rw [hw]; exact h, by rw [hw]; exact Below.refl B w⟩
  obtain ⟨i0, hi, hz0, hz1, hz2⟩ := info_parts byteInfo
  go_enter Tryz.func174, Tryz.ntmps174
  go_wp2_with (go_at_call 76; refine CC.mono ?_)
  rintro e w1 ⟨rfl, hat, hb1⟩
  have hlt := hat.lt
  obtain ⟨hB, v, hbk, hown, hne⟩ := hat
  have s1 := hb1.size
  have x1 : w1.cell? ⟨b, 1, none⟩ = some v := by rw [Lib.cell_of_heap hbk]; rfl
  have news : ∀ j u, [Value.int .u8 c][j]? = some u → (w1.alloc (.cells #[.int .u8 c] 5)).cell? ((⟨w1.heap.size, 0, none⟩ : Addr).add j) = some u := by
    intro j u hj
    cases j with
    | zero => simp at hj; subst hj; simp [Addr.add, go_sem]
    | succ j => simp at hj
  go_wp2_with (at_builtin; refine wpList_append_own _ rfl _ _ 68 rfl B 5 i0 (.int .u8 0) 1 1 Tryz.underlying68 hi hz0 hz1 hz2 rfl (by decide) _ _ _ rfl (hown.alloc _) ⟨w1.heap.size, 0, none⟩ 1 1 [.int .u8 c] rfl rfl news (by intro u hu; simp at hu; subst hu; rfl) (by unfold maxLen; omega) (by omega) (by simp; omega) ?_)
  intro v2 w2 hown2 hgrow _
  have hk2 : w2.heap[b]? = some (.cells #[.pointer (some ⟨b, 0, none⟩), v] 70 (0, 0)) := by
    rw [hgrow.block b (by simp; omega) (fun e => hne e.symm), Lib.alloc_old w1 _ b hlt]
    exact hbk
  have y0 : w2.cell? ⟨b, 0, none⟩ = some (.pointer (some ⟨b, 0, none⟩)) := by rw [Lib.cell_of_heap hk2]; rfl
  have y1 : w2.cell? ⟨b, 1, none⟩ = some v := by rw [Lib.cell_of_heap hk2]; rfl
  have y2 : w2.frozen? ⟨b, 1, none⟩ = false := Lib.frozen_of_heap hk2 1
  have hB2 := (hb1.alloc (by omega) (.cells #[.int .u8 c] 5)).grown hgrow (by simp; omega) (fun k hk => (hown.lt k hk).1)
  obtain ⟨g, cap, rfl⟩ : ∃ g cap, v2 = .slice (some ⟨g, 0, none⟩) (bs.length + 1) cap := by
    rcases hown2.2 with ⟨_, h0⟩ | ⟨g, cap, cur, hv, _⟩
    · omega
    · exact ⟨g, cap, hv⟩
  go_wp2
  go_ret
  exact ⟨rfl, Or.inr (Lib.BuilderAt.put hB hk2 (bs' := bs ++ [.int .u8 c]) (by simpa using hown2) (by decide)), hB2.setCell (p := ⟨b, 1, none⟩) hB _⟩
open Go.RowKit Go.Shelf
theorem liesW : liesAt Tryz.prog Tryz.prog.depth 72 (3 / Tryz.prog.cellsOf 72) 0 70 1 = true := by kernel_rfl
def WrAt (B b : Nat) (p : Value) (bs : List Value) (lf : Value) (w : World) : Prop :=
  B ≤ b ∧ ∃ v, w.heap[b]? = some (.cells #[p, v, lf] 72 (0, 0)) ∧ w.ownsRow B 5 1 v bs.length bs ∧ v.ownBlock ≠ some b
def IsWr (B b : Nat) (bs : List Value) (lf : Value) (w : World) : Prop := WrAt B b (.pointer none) bs lf w ∨ WrAt B b (.pointer (some ⟨b, 0, none⟩)) bs lf w
theorem WrAt.lt {B b : Nat} {p : Value} {bs : List Value} {lf : Value} {w : World} (h : WrAt B b p bs lf w) : b < w.heap.size := by
  obtain ⟨_, v, hb, _⟩ := h
  exact (Array.getElem?_eq_some_iff.1 hb).1
theorem WrAt.set0 {B b : Nat} {p : Value} {bs : List Value} {lf : Value} {w : World} (h : WrAt B b p bs lf w) (q : Value) : WrAt B b q bs lf (w.setCell ⟨b, 0, none⟩ q) := by
  obtain ⟨hB, v, hb, hown, hne⟩ := h
  refine ⟨hB, v, by simp [World.setCell, Array.getElem?_modify, hb], ?_, hne⟩
  exact hown.kept (row := some b) ⟨rfl, rfl, rfl, by simp [World.setCell], fun k _ hk => Below.heap_setCell _ _ _ _ (fun e => hk (by simp [e]))⟩ (Or.inr hne)
theorem WrAt.set2 {B b : Nat} {p : Value} {bs : List Value} {lf : Value} {w : World} (h : WrAt B b p bs lf w) (q : Value) : WrAt B b p bs q (w.setCell ⟨b, 2, none⟩ q) := by
  obtain ⟨hB, v, hb, hown, hne⟩ := h
  refine ⟨hB, v, by simp [World.setCell, Array.getElem?_modify, hb], ?_, hne⟩
  exact hown.kept (row := some b) ⟨rfl, rfl, rfl, by simp [World.setCell], fun k _ hk => Below.heap_setCell _ _ _ _ (fun e => hk (by simp [e]))⟩ (Or.inr hne)
theorem WrAt.put {B b : Nat} {p v v' lf : Value} {bs' : List Value} {w : World} (hB : B ≤ b) (hb : w.heap[b]? = some (.cells #[p, v, lf] 72 (0, 0))) (hown : w.ownsRow B 5 1 v' bs'.length bs') :
    WrAt B b p bs' lf (w.setCell ⟨b, 1, none⟩ v') := by
  have hne := Lib.ownBlock_ne hown hb (by decide)
  refine ⟨hB, v', by simp [World.setCell, Array.getElem?_modify, hb], ?_, hne⟩
  exact hown.kept (row := some b) ⟨rfl, rfl, rfl, by simp [World.setCell], fun k _ hk => Below.heap_setCell _ _ _ _ (fun e => hk (by simp [e]))⟩ (Or.inr hne)
theorem WrAt.below {B b : Nat} {p : Value} {bs : List Value} {lf : Value} {w w' : World} (h : WrAt B b p bs lf w) (hb : Below w.heap.size w w') : WrAt B b p bs lf w' := by
  obtain ⟨hB, v, hk, hown, hne⟩ := h
  exact ⟨hB, v, (hb.block b (Array.getElem?_eq_some_iff.1 hk).1).trans hk, hown.kept (row := none) ⟨hb.os, hb.tape, hb.output, hb.size, fun k hk _ => hb.block k hk⟩ (by cases v.ownBlock <;> simp), hne⟩
theorem IsWr.below {B b : Nat} {bs : List Value} {lf : Value} {w w' : World} (h : IsWr B b bs lf w) (hb : Below w.heap.size w w') : IsWr B b bs lf w' := h.elim (fun x => .inl (x.below hb)) (fun x => .inr (x.below hb))
theorem IsWr.set2 {B b : Nat} {bs : List Value} {lf : Value} {w : World} (h : IsWr B b bs lf w) (q : Value) : IsWr B b bs q (w.setCell ⟨b, 2, none⟩ q) := h.elim (fun x => .inl (x.set2 q)) (fun x => .inr (x.set2 q))
theorem IsWr.lt {B b : Nat} {bs : List Value} {lf : Value} {w : World} (h : IsWr B b bs lf w) : b < w.heap.size := h.elim (fun x => x.lt) (fun x => x.lt)
theorem IsWr.le {B b : Nat} {bs : List Value} {lf : Value} {w : World} (h : IsWr B b bs lf w) : B ≤ b := h.elim (fun x => x.1) (fun x => x.1)
theorem IsWr.left {B b : Nat} {bs : List Value} {lf : Value} {w : World} (h : IsWr B b bs lf w) : w.cell? ⟨b, 2, none⟩ = some lf ∧ w.frozen? ⟨b, 2, none⟩ = false := by
  rcases h with ⟨_, v, hk, _⟩ | ⟨_, v, hk, _⟩ <;> exact ⟨by rw [Lib.cell_of_heap hk]; rfl, Lib.frozen_of_heap hk 2⟩
theorem kept_below {B : Nat} {b : Option Nat} {w w' : World} (hb : Below w.heap.size w w') : Lib.OthersKept 5 b w w' := fun k o hk _ _ => (hb.block k (Array.getElem?_eq_some_iff.1 hk).1).trans hk
theorem own_kind {w : World} {B : Nat} {e : TypeId} {v : Value} {n : Nat} {xs : List Value} (h : w.ownsRow B e 1 v n xs) : ∀ g, v.ownBlock = some g → ∃ c fz, w.heap[g]? = some (.cells c e fz) := by
  intro g hg
  rcases h.2 with ⟨rfl, _⟩ | ⟨g', cap, cur, rfl, _, hgg, _⟩
  · simp [Value.ownBlock] at hg
  · simp [Value.ownBlock] at hg
    subst hg
    exact ⟨cur, _, hgg⟩
set_option maxHeartbeats 800000 in
theorem ccw1 {B b : Nat} {bs : List Value} {lf : Value} {w : World} (h : WrAt B b (.pointer none) bs lf w) :
    Calls Tryz.prog 76 #[.pointer (some ⟨b, 0, none⟩)] w fun e w' => e = .returned (.tuple #[]) ∧ w' = w.setCell ⟨b, 0, none⟩ (.pointer (some ⟨b, 0, none⟩)) := by
  obtain ⟨hB, v, hbk, hown, hne⟩ := h
  have c0 : w.cell? ⟨b, 0, none⟩ = some (.pointer none) := by rw [Lib.cell_of_heap hbk]; rfl
  have f0 : w.frozen? ⟨b, 0, none⟩ = false := Lib.frozen_of_heap hbk 0
  have hsh : w.shape? b = some (72, 3) := by simp [World.shape?, hbk]
  obtain ⟨j, hj, hjs⟩ := Option.map_eq_some_iff.1 infoB
  have k1 := Lib.run_to_unsafe (P := Tryz.prog) w ⟨b, 0, none⟩ Tryz.underlying67 Tryz.underlying140 hj (by rw [hjs]; decide) hsh (Nat.zero_lt_succ 2)
  have k2 := Lib.run_from_unsafe (P := Tryz.prog) w ⟨b, 0, none⟩ Tryz.underlying140 Tryz.underlying67 hj hsh liesW
  have k3 : (callFunc 103 #[.pointer (some ⟨b, 0, none⟩)]).run Tryz.prog w = .ok (.value (.pointer (some ⟨b, 0, none⟩))) w := by
    rw [run_callFunc_extern Tryz.func103 (by kernel_rfl) (by kernel_rfl) (by kernel_rfl) (e := Extern.AbiNoEscape.same) (by kernel_rfl), Lib.run_noEscape]
    rfl
  go_enter Tryz.func76, Tryz.ntmps76
  go_wp2
  go_end0
  exact ⟨rfl, rfl⟩
set_option maxHeartbeats 800000 in
theorem ccw2 {B b : Nat} {bs : List Value} {lf : Value} {w : World} (h : WrAt B b (.pointer (some ⟨b, 0, none⟩)) bs lf w) :
    Calls Tryz.prog 76 #[.pointer (some ⟨b, 0, none⟩)] w fun e w' => e = .returned (.tuple #[]) ∧ w' = w := by
  obtain ⟨hB, v, hbk, hown, hne⟩ := h
  have c0 : w.cell? ⟨b, 0, none⟩ = some (.pointer (some ⟨b, 0, none⟩)) := by rw [Lib.cell_of_heap hbk]; rfl
  obtain ⟨j, hj, hjs⟩ := Option.map_eq_some_iff.1 infoB
  have k1 := Lib.run_neq_ptr_same (P := Tryz.prog) w ⟨b, 0, none⟩ Tryz.underlying67 hj
  go_enter Tryz.func76, Tryz.ntmps76
  go_wp2
  go_end0
  exact ⟨rfl, rfl⟩
set_option maxHeartbeats 1600000 in
theorem wrs_any (B b : Nat) (l : List UInt8) (lf : Value) (s : List UInt8) (w : World) (h : IsWr B b (Lib.byteCells l) lf w) (hlen : l.length + s.length ≤ 10000000) :
    Calls Tryz.prog 49 #[.pointer (some ⟨b, 0, none⟩), .string ⟨s.toArray⟩] w fun e w' => e = .returned (.tuple #[.int .i64 s.length, .nilIface]) ∧ IsWr B b (Lib.byteCells (l ++ s)) lf w' ∧ Below B w w' ∧ Lib.OthersKept 5 (some b) w w' := by
  have hBw : B ≤ w.heap.size := Nat.le_of_lt (Nat.lt_of_le_of_lt h.le h.lt)
  have CC : Calls Tryz.prog 76 #[.pointer (some ⟨b, 0, none⟩)] w fun e w' => e = .returned (.tuple #[]) ∧ WrAt B b (.pointer (some ⟨b, 0, none⟩)) (Lib.byteCells l) lf w' ∧ Below B w w' ∧ Lib.OthersKept 5 (some b) w w' := by
    rcases h with h | h
    · exact (ccw1 h).mono fun e w' ⟨he, hw⟩ => ⟨he, by rw [hw]; exact h.set0 _, by rw [hw]; exact (Below.refl B w).setCell (p := ⟨b, 0, none⟩) h.1 _, by rw [hw]; exact (Lib.OthersKept.refl _ _ w).setCell ⟨b, 0, none⟩ rfl _⟩
    · exact (ccw2 h).mono fun e w' ⟨he, hw⟩ => ⟨he, by rw [hw]; exact h, by rw [hw]; exact Below.refl B w, by rw [hw]; exact Lib.OthersKept.refl _ _ w⟩
  obtain ⟨i0, hi, hz0, hz1, hz2⟩ := info_parts byteInfo
  have hls : (⟨s.toArray⟩ : ByteArray).size = s.length := by simp [ByteArray.size]
  go_enter Tryz.func49, Tryz.ntmps49
  go_wp2_with (go_at_call 76; refine CC.mono ?_)
  rintro e w1 ⟨rfl, hat, hb1, hk1⟩
  have hlt := hat.lt
  obtain ⟨hB, v, hbk, hown, hne⟩ := hat
  have s1 := hb1.size
  have hll : (Lib.byteCells l).length = l.length := Lib.byteCells_length l
  have x1 : w1.cell? ⟨b, 1, none⟩ = some v := by rw [Lib.cell_of_heap hbk]; rfl
  go_wp2_with (at_builtin; refine Lib.wpList_append_own_string _ rfl _ _ 68 9 rfl B 5 i0 Tryz.underlying68 Tryz.underlying9 hi hz0 hz1 hz2 _ _ _ rfl hown ⟨s.toArray⟩ rfl (by rw [hls, hll]; unfold maxLen; omega) (by rw [hls, hll]; omega) (by omega) ?_)
  intro v2 w2 hown2 hgrow _
  have hk2 : w2.heap[b]? = some (.cells #[.pointer (some ⟨b, 0, none⟩), v, lf] 72 (0, 0)) := by
    rw [hgrow.block b hlt (fun e => hne e.symm)]
    exact hbk
  have y0 : w2.cell? ⟨b, 0, none⟩ = some (.pointer (some ⟨b, 0, none⟩)) := by rw [Lib.cell_of_heap hk2]; rfl
  have y1 : w2.cell? ⟨b, 1, none⟩ = some v := by rw [Lib.cell_of_heap hk2]; rfl
  have y2 : w2.frozen? ⟨b, 1, none⟩ = false := Lib.frozen_of_heap hk2 1
  have hB2 := hb1.grown hgrow (by omega) (fun k hk => (hown.lt k hk).1)
  have hK2 := (hk1.grown hgrow (own_kind hown)).setCell ⟨b, 1, none⟩ rfl v2
  have hown3 : w2.ownsRow B 5 1 v2 (Lib.byteCells (l ++ s)).length (Lib.byteCells (l ++ s)) := by
    have e1 : Lib.byteCells (l ++ s) = Lib.byteCells l ++ Lib.strCells ⟨s.toArray⟩ := by rw [Lib.strCells_eq, ← Lib.byteCells_append]
    have e2 : (Lib.byteCells (l ++ s)).length = l.length + s.length := by rw [Lib.byteCells_length, List.length_append]
    rw [e2, e1]; exact hown2
  obtain ⟨ao, n', cap, rfl⟩ : ∃ ao n' cap, v2 = .slice ao n' cap := by
    rcases hown2.2 with ⟨hv, _⟩ | ⟨g, cap, cur, hv, _⟩
    · exact ⟨_, _, _, hv⟩
    · exact ⟨_, _, _, hv⟩
  go_wp2
  go_ret2
  exact ⟨by simp, Or.inr (WrAt.put hB hk2 hown3), hB2.setCell (p := ⟨b, 1, none⟩) hB _, hK2⟩
set_option maxHeartbeats 2000000 in
set_option maxRecDepth 100000 in
theorem wstr_any (B b : Nat) (l : List UInt8) (lf : Value) (w : World) (h : IsWr B b (Lib.byteCells l) lf w) (h0 : l ≠ []) :
    Calls Tryz.prog 31 #[.pointer (some ⟨b, 0, none⟩)] w fun e w' => e = .returned (.string ⟨l.toArray⟩) ∧ Below B w w' := by
  obtain ⟨p, hAt⟩ : ∃ p, WrAt B b p (Lib.byteCells l) lf w := by
    rcases h with h | h
    · exact ⟨_, h⟩
    · exact ⟨_, h⟩
  obtain ⟨hB, v, hbk, hown, hne⟩ := hAt
  have hl0 : l.length ≠ 0 := by simpa using h0
  rw [Lib.byteCells_length] at hown
  obtain ⟨g, cap, cur, rfl, hbg, hg, hnc, hcm, hcs, htake⟩ : ∃ g cap cur, v = .slice (some ⟨g, 0, none⟩) l.length cap ∧ B ≤ g ∧ w.heap[g]? = some (.cells cur 5 (0, 0)) ∧ l.length ≤ cap ∧ cap ≤ maxLen ∧ cur.size = cap * 1 ∧ cur.toList.take (l.length * 1) = Lib.byteCells l := by
    rcases hown.2 with ⟨_, hz⟩ | ⟨g, cap, cur, hv, r⟩
    · exact absurd hz hl0
    · exact ⟨g, cap, cur, hv, r⟩
  have c1 : w.drew.cell? ⟨b, 1, none⟩ = some (.slice (some ⟨g, 0, none⟩) l.length cap) := by
    have : w.drew.heap[b]? = some (.cells #[p, .slice (some ⟨g, 0, none⟩) l.length cap, lf] 72 (0, 0)) := hbk
    rw [Lib.cell_of_heap this]; rfl
  have hSD : (Builtin.unsafeSliceData_ #[68] 95 #[.slice (some ⟨g, 0, none⟩) l.length cap]).run Tryz.prog w.drew = .ok (.pointer (some ⟨g, 0, none⟩)) w.drew :=
    Lib.run_unsafeSliceData_row _ _ _ _ _ _ (by omega)
  have hUS : (Builtin.unsafeString_ #[95, 3] 9 #[.pointer (some ⟨g, 0, none⟩), .int .i64 l.length]).run Tryz.prog w.drew = .ok (.string ⟨l.toArray⟩) (w.drew.freeze ⟨g, 0, none⟩ l.length) := by
    refine Lib.run_unsafeString_row w.drew 95 3 9 5 Tryz.underlying95 (by kernel_rfl) g cur.size (by have hg' : w.drew.heap[g]? = some (.cells cur 5 (0, 0)) := hg; simp [World.shape?, hg']) l h0 (by omega) (by unfold maxLen at hcm; omega) ?_
    intro j x hx
    have := hown.cells (g := g) rfl j (.int .u8 x.toNat) (by simp [Lib.byteCells, hx])
    exact this
  have hBl : Below B w (w.drew.freeze ⟨g, 0, none⟩ l.length) := Lib.below_freeze (Below.drew (Below.refl B w)) (p := ⟨g, 0, none⟩) hbg _
  go_enter Tryz.func31, Tryz.ntmps31
  have mixed : Tryz.prog.follows Departure.mixedOrders = true := by kernel_rfl
  go_wp2
  go_region_o
  all_goals (go_wp2; go_ret; exact ⟨rfl, hBl⟩)
theorem take_less {α : Type} {m l : List α} {s a : Nat} (h : m.take s = l.take s) (ha : a ≤ s) : m.take a = l.take a := by
  have := congrArg (List.take a) h
  rwa [List.take_take, List.take_take, Nat.min_eq_left ha] at this
theorem take_behind {α : Type} {m l : List α} {a b : Nat} (h : m.take (a + b) = l.take (a + b)) : (m.drop a).take b = (l.drop a).take b := by
  have := congrArg (List.drop a) h
  rwa [List.drop_take, List.drop_take, Nat.add_sub_cancel_left] at this
def Loc (f : Nat) : Prop := ∀ (l : List Wt.Nd) (s d : Nat), Wt.one f l = some (s, d) → 1 ≤ d ∧ d ≤ s ∧ ∀ g m, d ≤ g → m.take s = l.take s → Wt.one g m = some (s, d)
theorem many_loc {f : Nat} (ih : Loc f) : ∀ (k : Nat) (l : List Wt.Nd) (s d : Nat), Wt.many (Wt.one f) k l = some (s, d) → d ≤ s ∧ ∀ g m, d ≤ g → m.take s = l.take s → Wt.many (Wt.one g) k m = some (s, d) := by
  intro k
  induction k with
  | zero => intro l s d h; simp only [Wt.many, Option.some.injEq, Prod.mk.injEq] at h; obtain ⟨rfl, rfl⟩ := h; exact ⟨Nat.le_refl _, fun g m _ _ => rfl⟩
  | succ k ihk =>
    intro l s d h
    simp only [Wt.many] at h
    cases h1 : Wt.one f l with
    | none => rw [h1] at h; cases h
    | some q =>
      obtain ⟨a, b⟩ := q
      rw [h1] at h
      simp only at h
      cases h2 : Wt.many (Wt.one f) k (l.drop a) with
      | none => rw [h2] at h; cases h
      | some q2 =>
        obtain ⟨a2, b2⟩ := q2
        rw [h2] at h
        simp only [Option.some.injEq, Prod.mk.injEq] at h
        obtain ⟨rfl, rfl⟩ := h
        obtain ⟨i0, i1, i2⟩ := ih l a b h1
        obtain ⟨j1, j2⟩ := ihk _ a2 b2 h2
        refine ⟨by omega, fun g m hg hm => ?_⟩
        have e1 := i2 g m (by omega) (take_less hm (by omega))
        have e2 := j2 g (m.drop a) (by omega) (take_behind hm)
        simp only [Wt.many, e1, e2]
theorem one_loc : ∀ (f : Nat), Loc f
  | 0, l, s, d, h => by simp [Wt.one] at h
  | f + 1, [], s, d, h => by simp [Wt.one] at h
  | f + 1, x :: r, s, d, h => by
    unfold Wt.one at h
    split at h
    · rename_i hx
      cases h1 : Wt.many (Wt.one f) (Wt.parts x).toNat r with
      | none => rw [h1] at h; cases h
      | some q =>
        obtain ⟨a, b⟩ := q
        rw [h1] at h
        simp only [Option.some.injEq, Prod.mk.injEq] at h
        obtain ⟨rfl, rfl⟩ := h
        obtain ⟨j1, j2⟩ := many_loc (one_loc f) _ _ _ _ h1
        refine ⟨by omega, by omega, fun g m hg hm => ?_⟩
        cases m with
        | nil => simp at hm
        | cons y t =>
          obtain ⟨g, rfl⟩ : ∃ g', g = g' + 1 := ⟨g - 1, by omega⟩
          simp only [List.take_succ_cons, List.cons.injEq] at hm
          obtain ⟨rfl, hm⟩ := hm
          unfold Wt.one
          rw [if_pos hx, j2 g t (by omega) hm]
    · cases h
theorem one_same {f g : Nat} {l m : List Wt.Nd} {s d : Nat} (h : Wt.one f l = some (s, d)) (hg : d ≤ g) (hm : m.take s = l.take s) : Wt.one g m = some (s, d) := (one_loc f l s d h).2.2 g m hg hm
def Subs (f : Nat) : Prop := ∀ (l : List Wt.Nd) (s d : Nat), Wt.one f l = some (s, d) → ∀ j, j < s → ∃ s' d', Wt.one f (l.drop j) = some (s', d') ∧ j + s' ≤ s ∧ d' ≤ d
theorem many_subs {f : Nat} (ih : Subs f) : ∀ (k : Nat) (l : List Wt.Nd) (s d : Nat), Wt.many (Wt.one f) k l = some (s, d) → ∀ j, j < s → ∃ s' d', Wt.one f (l.drop j) = some (s', d') ∧ j + s' ≤ s ∧ d' ≤ d := by
  intro k
  induction k with
  | zero => intro l s d h j hj; simp only [Wt.many, Option.some.injEq, Prod.mk.injEq] at h; omega
  | succ k ihk =>
    intro l s d h j hj
    simp only [Wt.many] at h
    cases h1 : Wt.one f l with
    | none => rw [h1] at h; cases h
    | some q =>
      obtain ⟨a, b⟩ := q
      rw [h1] at h
      simp only at h
      cases h2 : Wt.many (Wt.one f) k (l.drop a) with
      | none => rw [h2] at h; cases h
      | some q2 =>
        obtain ⟨a2, b2⟩ := q2
        rw [h2] at h
        simp only [Option.some.injEq, Prod.mk.injEq] at h
        obtain ⟨rfl, rfl⟩ := h
        rcases Nat.lt_or_ge j a with hja | hja
        · obtain ⟨s', d', e1, e2, e3⟩ := ih l a b h1 j hja
          exact ⟨s', d', e1, by omega, by omega⟩
        · obtain ⟨s', d', e1, e2, e3⟩ := ihk _ a2 b2 h2 (j - a) (by omega)
          rw [List.drop_drop, show a + (j - a) = j by omega] at e1
          exact ⟨s', d', e1, by omega, by omega⟩
theorem one_subs : ∀ (f : Nat), Subs f
  | 0, l, s, d, h => by simp [Wt.one] at h
  | f + 1, [], s, d, h => by simp [Wt.one] at h
  | f + 1, x :: r, s, d, h => fun j hj => by
    cases j with
    | zero => exact ⟨s, d, h, by omega, Nat.le_refl _⟩
    | succ j =>
      unfold Wt.one at h
      split at h
      · rename_i hx
        cases h1 : Wt.many (Wt.one f) (Wt.parts x).toNat r with
        | none => rw [h1] at h; cases h
        | some q =>
          obtain ⟨a, b⟩ := q
          rw [h1] at h
          simp only [Option.some.injEq, Prod.mk.injEq] at h
          obtain ⟨rfl, rfl⟩ := h
          obtain ⟨s', d', e1, e2, e3⟩ := many_subs (one_subs f) _ _ _ _ h1 j (by omega)
          have l1 := (one_loc f _ _ _ e1)
          have l2 := one_deep _ _ _ _ e1
          exact ⟨s', d', one_same e1 (by omega) rfl, by omega, by omega⟩
      · cases h
theorem one_node {f : Nat} {x : Wt.Nd} {r : List Wt.Nd} {s d : Nat} (h : Wt.one f (x :: r) = some (s, d)) : Wt.right x = true ∧ ∃ a b, Wt.many (Wt.one f) (Wt.parts x).toNat r = some (a, b) ∧ s = a + 1 ∧ d = b + 1 := by
  cases f with
  | zero => simp [Wt.one] at h
  | succ f =>
    unfold Wt.one at h
    split at h
    · rename_i hx
      cases h1 : Wt.many (Wt.one f) (Wt.parts x).toNat r with
      | none => rw [h1] at h; cases h
      | some q =>
        obtain ⟨a, b⟩ := q
        rw [h1] at h
        simp only [Option.some.injEq, Prod.mk.injEq] at h
        have l1 := one_deep (f + 1) (x :: r) s d (by unfold Wt.one; rw [if_pos hx, h1]; simp [h])
        exact ⟨hx, a, b, (many_loc (one_loc f) _ _ _ _ h1).2 (f + 1) r (by omega) rfl, by omega, by omega⟩
    · cases h
theorem check_zero {L : List Wt.Nd} (h : Wt.check L = 0) : L.length ≤ 256 ∧ ∃ d, Wt.one (L.length + 1) L = some (L.length, d) ∧ d ≤ 32 := by
  unfold Wt.check at h
  split at h
  · omega
  rename_i h1
  split at h
  · omega
  rename_i s d h2
  split at h
  · omega
  rename_i h3
  split at h
  · omega
  rename_i h4
  have : s = L.length := by omega
  subst this
  exact ⟨by omega, d, h2, by omega⟩
theorem zero_check {L : List Wt.Nd} {f d : Nat} (h0 : L.length ≤ 256) (h : Wt.one f L = some (L.length, d)) (hd : d ≤ 32) : Wt.check L = 0 := by
  have hl := one_loc f _ _ _ h
  have h2 := one_same (g := L.length + 1) (m := L) h (by omega) rfl
  unfold Wt.check
  rw [if_neg (by omega), h2]
  simp only [ne_eq, not_true_eq_false, if_false]
  rw [if_neg (by omega)]
theorem fName_len : ∀ i, (fNames.getD i []).length ≤ 8
  | 0 => by decide
  | 1 => by decide
  | 2 => by decide
  | 3 => by decide
  | 4 => by decide
  | 5 => by decide
  | 6 => by decide
  | 7 => by decide
  | 8 => by decide
  | i + 9 => by
    have : fNames.getD (i + 9) [] = [] := by
      unfold List.getD
      rw [List.getElem?_eq_none (by show 9 ≤ i + 9; omega)]; rfl
    rw [this]; simp
theorem sgnT_len (N : Int) : (Wnum.sgnT N).length ≤ 1 := by unfold Wnum.sgnT; split <;> simp
theorem txt_len {N : Int} {D : Nat} (h : N.natAbs ≤ 9223372036854775807) (hD : D ≤ 9223372036854775807) : (Wnum.txt N D).length ≤ 50 := by
  have h1 := sgnT_len N
  unfold Wnum.txt
  rw [List.length_append]
  split
  · have := Wpl.dd_len N.natAbs h
    have := Wpl.dd_len D hD
    simp only [List.length_append, List.length_cons]; omega
  have hq : N.natAbs / D ≤ 9223372036854775807 := Nat.le_trans (Nat.div_le_self _ _) h
  have := Wpl.dd_len (N.natAbs / D) hq
  split
  · omega
  · have := Wnum.decs_length D 6 (N.natAbs % D)
    simp only [List.length_append, List.length_cons]; omega
theorem litT_len {v : Wt.Vl} (h : Wt.vlOk v = true) : (litT v).length ≤ 600 := by
  unfold litT
  split
  · obtain ⟨n1, n2⟩ := Wnum.cN_bd v.n v.d
    obtain ⟨n3, n4⟩ := Wnum.cD_bd v.n v.d
    have := txt_len (N := Wnum.cN v.n v.d) (D := (Wnum.cD v.n v.d).toNat) (by omega) (by omega)
    omega
  split
  · rename_i h1 h2
    unfold Wt.vlOk at h
    rw [if_neg (by omega), if_neg h1] at h
    unfold Wv.right at h
    rw [if_neg (by omega), if_neg h1, if_pos h2] at h
    simp only [Bool.and_eq_true, decide_eq_true_eq] at h
    have hs := h.1.1.1.1.1
    have hd := Wlx.dbl_length v.t.data.toList
    have e : v.t.data.toList.length = v.t.size := by rw [Array.length_toList]; rfl
    simp only [List.length_cons, List.length_append, List.length_nil]; omega
  split
  · split <;> decide
  · have := fName_len v.f.toNat; omega
theorem cw_len (a : Wt.Rf) (h0 : 0 ≤ a.r) (h1 : a.r < 65536) : (cw a).length ≤ 40 := by
  unfold cw
  have := fx_len a.fc
  have := fx_len a.fr
  have := Wpl.colS_len a.c
  have := Wpl.dd_len (a.r + 1).toNat (by omega)
  simp only [List.length_append]; omega
theorem rfOk_in {a : Wt.Rf} (h : Wt.rfOk a = true) : (0 ≤ a.r ∧ a.r < 65536) ∧ (a.s = ⟨#[]⟩ ∨ Wt.shNm a.s = true) := by
  unfold Wt.rfOk Wt.inR at h
  simp only [Bool.and_eq_true, decide_eq_true_eq, Bool.or_eq_true] at h
  exact ⟨⟨h.1.1.1, h.1.1.2⟩, h.2⟩
theorem isNm_len {p : UInt8 → Bool} {l : List UInt8} (h : Wt.isNm p l = true) : 1 ≤ l.length ∧ l.length ≤ 16 := by
  unfold Wt.isNm at h
  simp only [Bool.and_eq_true, decide_eq_true_eq] at h
  exact ⟨h.1.1.1, h.1.1.2⟩
theorem celT_len {a : Wt.Rf} (h : Wt.rfOk a = true) : (celT a).length ≤ 60 := by
  obtain ⟨⟨h0, h1⟩, h2⟩ := rfOk_in h
  have := cw_len a h0 h1
  unfold celT
  split
  · omega
  · rename_i hn
    have := (isNm_len (h2.resolve_left hn)).2
    simp only [List.length_append, List.length_cons]; omega
def PrOk (f : Nat) : Prop := ∀ (l : List Wt.Nd) (s d : Nat), Wt.one f l = some (s, d) → ∀ least, (pr f least l).2 = l.drop s ∧ (pr f least l).1.length ≤ 1000 * s
theorem prA_ok {f : Nat} (ih : PrOk f) : ∀ (k : Nat) (first : Bool) (l : List Wt.Nd) (s d : Nat), Wt.many (Wt.one f) k l = some (s, d) → (prA (pr f) k first l).2 = l.drop s ∧ (prA (pr f) k first l).1.length ≤ 1000 * s + k := by
  intro k
  induction k with
  | zero => intro first l s d h; simp only [Wt.many, Option.some.injEq, Prod.mk.injEq] at h; obtain ⟨rfl, rfl⟩ := h; exact ⟨rfl, Nat.zero_le _⟩
  | succ k ihk =>
    intro first l s d h
    simp only [Wt.many] at h
    cases h1 : Wt.one f l with
    | none => rw [h1] at h; cases h
    | some q =>
      obtain ⟨a, b⟩ := q
      rw [h1] at h
      simp only at h
      cases h2 : Wt.many (Wt.one f) k (l.drop a) with
      | none => rw [h2] at h; cases h
      | some q2 =>
        obtain ⟨a2, b2⟩ := q2
        rw [h2] at h
        simp only [Option.some.injEq, Prod.mk.injEq] at h
        obtain ⟨rfl, rfl⟩ := h
        obtain ⟨i1, i2⟩ := ih l a b h1 0
        obtain ⟨j1, j2⟩ := ihk false _ a2 b2 h2
        simp only [prA]
        rw [i1]
        refine ⟨by rw [j1, List.drop_drop], ?_⟩
        have hf : (if first = true then ([] : List UInt8) else [44]).length ≤ 1 := by split <;> simp
        simp only [List.length_append]; omega
theorem mrk_len (x : Wt.Nd) : (mrk x).length ≤ 2 := by
  unfold mrk
  cases h : Wt.opOf x.op with
  | none => simp
  | some o =>
    have := List.mem_of_find?_eq_some h
    simp only [Wt.opsT, List.mem_cons, List.not_mem_nil, or_false] at this
    rcases this with rfl | rfl | rfl | rfl | rfl | rfl | rfl | rfl | rfl | rfl | rfl | rfl | rfl | rfl | rfl <;> decide
theorem opOf_tgh {x : Wt.Nd} {o : Int × List UInt8 × Int} (h : Wt.opOf x.op = some o) : tgh x = o.2.2 ∧ 0 ≤ o.2.2 ∧ o.2.2 ≤ 6 := by
  refine ⟨by unfold tgh; rw [h], ?_⟩
  have := List.mem_of_find?_eq_some h
  simp only [Wt.opsT, List.mem_cons, List.not_mem_nil, or_false] at this
  rcases this with rfl | rfl | rfl | rfl | rfl | rfl | rfl | rfl | rfl | rfl | rfl | rfl | rfl | rfl | rfl <;> decide
end Go.Proofs.YtifdemakjphfcaaGreatDoor
