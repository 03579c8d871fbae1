/- TWr, VWalkF, WalkIt, WalkDs. -/
import Derived.Test.YthofehcchickeaaGreatDoorQ39
import Derived.Lib.AppendStr
import Derived.Lib.OthersKept
import Derived.Lib.UnsafeStr
import Derived.Lib.FrozenHead
import Derived.Test.YthofehcchickeaaGreatDoorChecked
import Derived.Shelf.Strconv.Itoa3
import Derived.Lib.AppendIntMem
import Derived.Ground.NamesProg
import Derived.Shelf.Strings.Builder1
namespace Go.Proofs.YthofehcchickeaaGreatDoor
open Go.RowKit Go.Shelf
set_option linter.unusedVariables false
theorem liesW : liesAt Tryz.prog Tryz.prog.depth 86 (3 / Tryz.prog.cellsOf 86) 0 84 1 = true := by kernel_rfl
def WrAt (B b : Nat) (p : Value) (bs : List Value) (lf : Value) (w : World) : Prop :=
  B ≤ b ∧ ∃ v, w.heap[b]? = some (.cells #[p, v, lf] 86 (0, 0)) ∧ w.ownsRow B 5 1 v bs.length bs ∧ v.ownBlock ≠ some b
def IsWr (B b : Nat) (bs : List Value) (lf : Value) (w : World) : Prop := WrAt B b (.pointer none) bs lf w ∨ WrAt B b (.pointer (some ⟨b, 0, none⟩)) bs lf w
theorem WrAt.lt {B b : Nat} {p : Value} {bs : List Value} {lf : Value} {w : World} (h : WrAt B b p bs lf w) : b < w.heap.size := by
  obtain ⟨_, v, hb, _⟩ := h
  exact (Array.getElem?_eq_some_iff.1 hb).1
theorem WrAt.set0 {B b : Nat} {p : Value} {bs : List Value} {lf : Value} {w : World} (h : WrAt B b p bs lf w) (q : Value) : WrAt B b q bs lf (w.setCell ⟨b, 0, none⟩ q) := by
  obtain ⟨hB, v, hb, hown, hne⟩ := h
  refine ⟨hB, v, by simp [World.setCell, Array.getElem?_modify, hb], ?_, hne⟩
  exact hown.kept (row := some b) ⟨rfl, rfl, rfl, by simp [World.setCell], fun k _ hk => Below.heap_setCell _ _ _ _ (fun e => hk (by simp [e]))⟩ (Or.inr hne)
theorem WrAt.set2 {B b : Nat} {p : Value} {bs : List Value} {lf : Value} {w : World} (h : WrAt B b p bs lf w) (q : Value) : WrAt B b p bs q (w.setCell ⟨b, 2, none⟩ q) := by
  obtain ⟨hB, v, hb, hown, hne⟩ := h
  refine ⟨hB, v, by simp [World.setCell, Array.getElem?_modify, hb], ?_, hne⟩
  exact hown.kept (row := some b) ⟨rfl, rfl, rfl, by simp [World.setCell], fun k _ hk => Below.heap_setCell _ _ _ _ (fun e => hk (by simp [e]))⟩ (Or.inr hne)
theorem WrAt.put {B b : Nat} {p v v' lf : Value} {bs' : List Value} {w : World} (hB : B ≤ b) (hb : w.heap[b]? = some (.cells #[p, v, lf] 86 (0, 0))) (hown : w.ownsRow B 5 1 v' bs'.length bs') :
    WrAt B b p bs' lf (w.setCell ⟨b, 1, none⟩ v') := by
  have hne := Lib.ownBlock_ne hown hb (by decide)
  refine ⟨hB, v', by simp [World.setCell, Array.getElem?_modify, hb], ?_, hne⟩
  exact hown.kept (row := some b) ⟨rfl, rfl, rfl, by simp [World.setCell], fun k _ hk => Below.heap_setCell _ _ _ _ (fun e => hk (by simp [e]))⟩ (Or.inr hne)
theorem WrAt.below {B b : Nat} {p : Value} {bs : List Value} {lf : Value} {w w' : World} (h : WrAt B b p bs lf w) (hb : Below w.heap.size w w') : WrAt B b p bs lf w' := by
  obtain ⟨hB, v, hk, hown, hne⟩ := h
  exact ⟨hB, v, (hb.block b (Array.getElem?_eq_some_iff.1 hk).1).trans hk, hown.kept (row := none) ⟨hb.os, hb.tape, hb.output, hb.size, fun k hk _ => hb.block k hk⟩ (by cases v.ownBlock <;> simp), hne⟩
theorem IsWr.below {B b : Nat} {bs : List Value} {lf : Value} {w w' : World} (h : IsWr B b bs lf w) (hb : Below w.heap.size w w') : IsWr B b bs lf w' := h.elim (fun x => .inl (x.below hb)) (fun x => .inr (x.below hb))
theorem IsWr.set2 {B b : Nat} {bs : List Value} {lf : Value} {w : World} (h : IsWr B b bs lf w) (q : Value) : IsWr B b bs q (w.setCell ⟨b, 2, none⟩ q) := h.elim (fun x => .inl (x.set2 q)) (fun x => .inr (x.set2 q))
theorem IsWr.lt {B b : Nat} {bs : List Value} {lf : Value} {w : World} (h : IsWr B b bs lf w) : b < w.heap.size := h.elim (fun x => x.lt) (fun x => x.lt)
theorem IsWr.le {B b : Nat} {bs : List Value} {lf : Value} {w : World} (h : IsWr B b bs lf w) : B ≤ b := h.elim (fun x => x.1) (fun x => x.1)
theorem IsWr.left {B b : Nat} {bs : List Value} {lf : Value} {w : World} (h : IsWr B b bs lf w) : w.cell? ⟨b, 2, none⟩ = some lf ∧ w.frozen? ⟨b, 2, none⟩ = false := by
  rcases h with ⟨_, v, hk, _⟩ | ⟨_, v, hk, _⟩ <;> exact ⟨by rw [Lib.cell_of_heap hk]; rfl, Lib.frozen_of_heap hk 2⟩
theorem kept_below {B : Nat} {b : Option Nat} {w w' : World} (hb : Below w.heap.size w w') : Lib.OthersKept 5 b w w' := fun k o hk _ _ => (hb.block k (Array.getElem?_eq_some_iff.1 hk).1).trans hk
theorem own_kind {w : World} {B : Nat} {e : TypeId} {v : Value} {n : Nat} {xs : List Value} (h : w.ownsRow B e 1 v n xs) : ∀ g, v.ownBlock = some g → ∃ c fz, w.heap[g]? = some (.cells c e fz) := by
  intro g hg
  rcases h.2 with ⟨rfl, _⟩ | ⟨g', cap, cur, rfl, _, hgg, _⟩
  · simp [Value.ownBlock] at hg
  · simp [Value.ownBlock] at hg
    subst hg
    exact ⟨cur, _, hgg⟩
set_option maxHeartbeats 800000 in
theorem ccw1 {B b : Nat} {bs : List Value} {lf : Value} {w : World} (h : WrAt B b (.pointer none) bs lf w) :
    Calls Tryz.prog 89 #[.pointer (some ⟨b, 0, none⟩)] w fun e w' => e = .returned (.tuple #[]) ∧ w' = w.setCell ⟨b, 0, none⟩ (.pointer (some ⟨b, 0, none⟩)) := by
  obtain ⟨hB, v, hbk, hown, hne⟩ := h
  have c0 : w.cell? ⟨b, 0, none⟩ = some (.pointer none) := by rw [Lib.cell_of_heap hbk]; rfl
  have f0 : w.frozen? ⟨b, 0, none⟩ = false := Lib.frozen_of_heap hbk 0
  have hsh : w.shape? b = some (86, 3) := by simp [World.shape?, hbk]
  obtain ⟨j, hj, hjs⟩ := Option.map_eq_some_iff.1 infoB
  have k1 := Lib.run_to_unsafe (P := Tryz.prog) w ⟨b, 0, none⟩ Tryz.underlying81 Tryz.underlying163 hj (by rw [hjs]; decide) hsh (Nat.zero_lt_succ 2)
  have k2 := Lib.run_from_unsafe (P := Tryz.prog) w ⟨b, 0, none⟩ Tryz.underlying163 Tryz.underlying81 hj hsh liesW
  have k3 : (callFunc 119 #[.pointer (some ⟨b, 0, none⟩)]).run Tryz.prog w = .ok (.value (.pointer (some ⟨b, 0, none⟩))) w := by
    rw [run_callFunc_extern Tryz.func119 (by kernel_rfl) (by kernel_rfl) (by kernel_rfl) (e := Extern.AbiNoEscape.same) (by kernel_rfl), Lib.run_noEscape]
    rfl
  go_enter Tryz.func89, Tryz.ntmps89
  go_wp2
  go_end0
  exact ⟨rfl, rfl⟩
set_option maxHeartbeats 800000 in
theorem ccw2 {B b : Nat} {bs : List Value} {lf : Value} {w : World} (h : WrAt B b (.pointer (some ⟨b, 0, none⟩)) bs lf w) :
    Calls Tryz.prog 89 #[.pointer (some ⟨b, 0, none⟩)] w fun e w' => e = .returned (.tuple #[]) ∧ w' = w := by
  obtain ⟨hB, v, hbk, hown, hne⟩ := h
  have c0 : w.cell? ⟨b, 0, none⟩ = some (.pointer (some ⟨b, 0, none⟩)) := by rw [Lib.cell_of_heap hbk]; rfl
  obtain ⟨j, hj, hjs⟩ := Option.map_eq_some_iff.1 infoB
  have k1 := Lib.run_neq_ptr_same (P := Tryz.prog) w ⟨b, 0, none⟩ Tryz.underlying81 hj
  go_enter Tryz.func89, Tryz.ntmps89
  go_wp2
  go_end0
  exact ⟨rfl, rfl⟩
set_option maxHeartbeats 1600000 in
theorem wrs_any (B b : Nat) (l : List UInt8) (lf : Value) (s : List UInt8) (w : World) (h : IsWr B b (Lib.byteCells l) lf w) (hlen : l.length + s.length ≤ 10000000) :
    Calls Tryz.prog 59 #[.pointer (some ⟨b, 0, none⟩), .string ⟨s.toArray⟩] w fun e w' => e = .returned (.tuple #[.int .i64 s.length, .nilIface]) ∧ IsWr B b (Lib.byteCells (l ++ s)) lf w' ∧ Below B w w' ∧ Lib.OthersKept 5 (some b) w w' := by
  have hBw : B ≤ w.heap.size := Nat.le_of_lt (Nat.lt_of_le_of_lt h.le h.lt)
  have CC : Calls Tryz.prog 89 #[.pointer (some ⟨b, 0, none⟩)] w fun e w' => e = .returned (.tuple #[]) ∧ WrAt B b (.pointer (some ⟨b, 0, none⟩)) (Lib.byteCells l) lf w' ∧ Below B w w' ∧ Lib.OthersKept 5 (some b) w w' := by
    rcases h with h | h
    · exact (ccw1 h).mono fun e w' ⟨he, hw⟩ => ⟨he, by rw [hw]; exact h.set0 _, by rw [hw]; exact (Below.refl B w).setCell (p := ⟨b, 0, none⟩) h.1 _, by rw [hw]; exact (Lib.OthersKept.refl _ _ w).setCell ⟨b, 0, none⟩ rfl _⟩
    · exact (ccw2 h).mono fun e w' ⟨he, hw⟩ => ⟨he, by rw [hw]; exact h, by rw [hw]; exact Below.refl B w, by rw [hw]; exact Lib.OthersKept.refl _ _ w⟩
  obtain ⟨i0, hi, hz0, hz1, hz2⟩ := info_parts byteInfo
  have hls : (⟨s.toArray⟩ : ByteArray).size = s.length := by simp [ByteArray.size]
  go_enter Tryz.func59, Tryz.ntmps59
  go_wp2_with (go_at_call 89; refine CC.mono ?_)
  rintro e w1 ⟨rfl, hat, hb1, hk1⟩
  have hlt := hat.lt
  obtain ⟨hB, v, hbk, hown, hne⟩ := hat
  have s1 := hb1.size
  have hll : (Lib.byteCells l).length = l.length := Lib.byteCells_length l
  have x1 : w1.cell? ⟨b, 1, none⟩ = some v := by rw [Lib.cell_of_heap hbk]; rfl
  go_wp2_with (at_builtin; refine Lib.wpList_append_own_string _ rfl _ _ 82 9 rfl B 5 i0 Tryz.underlying82 Tryz.underlying9 hi hz0 hz1 hz2 _ _ _ rfl hown ⟨s.toArray⟩ rfl (by rw [hls, hll]; unfold maxLen; omega) (by rw [hls, hll]; omega) (by omega) ?_)
  intro v2 w2 hown2 hgrow _
  have hk2 : w2.heap[b]? = some (.cells #[.pointer (some ⟨b, 0, none⟩), v, lf] 86 (0, 0)) := by
    rw [hgrow.block b hlt (fun e => hne e.symm)]
    exact hbk
  have y0 : w2.cell? ⟨b, 0, none⟩ = some (.pointer (some ⟨b, 0, none⟩)) := by rw [Lib.cell_of_heap hk2]; rfl
  have y1 : w2.cell? ⟨b, 1, none⟩ = some v := by rw [Lib.cell_of_heap hk2]; rfl
  have y2 : w2.frozen? ⟨b, 1, none⟩ = false := Lib.frozen_of_heap hk2 1
  have hB2 := hb1.grown hgrow (by omega) (fun k hk => (hown.lt k hk).1)
  have hK2 := (hk1.grown hgrow (own_kind hown)).setCell ⟨b, 1, none⟩ rfl v2
  have hown3 : w2.ownsRow B 5 1 v2 (Lib.byteCells (l ++ s)).length (Lib.byteCells (l ++ s)) := by
    have e1 : Lib.byteCells (l ++ s) = Lib.byteCells l ++ Lib.strCells ⟨s.toArray⟩ := by rw [Lib.strCells_eq, ← Lib.byteCells_append]
    have e2 : (Lib.byteCells (l ++ s)).length = l.length + s.length := by rw [Lib.byteCells_length, List.length_append]
    rw [e2, e1]; exact hown2
  obtain ⟨ao, n', cap, rfl⟩ : ∃ ao n' cap, v2 = .slice ao n' cap := by
    rcases hown2.2 with ⟨hv, _⟩ | ⟨g, cap, cur, hv, _⟩
    · exact ⟨_, _, _, hv⟩
    · exact ⟨_, _, _, hv⟩
  go_wp2
  go_ret2
  exact ⟨by simp, Or.inr (WrAt.put hB hk2 hown3), hB2.setCell (p := ⟨b, 1, none⟩) hB _, hK2⟩
set_option maxHeartbeats 2000000 in
set_option maxRecDepth 100000 in
theorem wstr_any (B b : Nat) (l : List UInt8) (lf : Value) (w : World) (h : IsWr B b (Lib.byteCells l) lf w) (h0 : l ≠ []) :
    Calls Tryz.prog 38 #[.pointer (some ⟨b, 0, none⟩)] w fun e w' => e = .returned (.string ⟨l.toArray⟩) ∧ Below B w w' := by
  obtain ⟨p, hAt⟩ : ∃ p, WrAt B b p (Lib.byteCells l) lf w := by
    rcases h with h | h
    · exact ⟨_, h⟩
    · exact ⟨_, h⟩
  obtain ⟨hB, v, hbk, hown, hne⟩ := hAt
  have hl0 : l.length ≠ 0 := by simpa using h0
  rw [Lib.byteCells_length] at hown
  obtain ⟨g, cap, cur, rfl, hbg, hg, hnc, hcm, hcs, htake⟩ : ∃ g cap cur, v = .slice (some ⟨g, 0, none⟩) l.length cap ∧ B ≤ g ∧ w.heap[g]? = some (.cells cur 5 (0, 0)) ∧ l.length ≤ cap ∧ cap ≤ maxLen ∧ cur.size = cap * 1 ∧ cur.toList.take (l.length * 1) = Lib.byteCells l := by
    rcases hown.2 with ⟨_, hz⟩ | ⟨g, cap, cur, hv, r⟩
    · exact absurd hz hl0
    · exact ⟨g, cap, cur, hv, r⟩
  have c1 : w.drew.cell? ⟨b, 1, none⟩ = some (.slice (some ⟨g, 0, none⟩) l.length cap) := by
    have : w.drew.heap[b]? = some (.cells #[p, .slice (some ⟨g, 0, none⟩) l.length cap, lf] 86 (0, 0)) := hbk
    rw [Lib.cell_of_heap this]; rfl
  have hSD : (Builtin.unsafeSliceData_ #[82] 117 #[.slice (some ⟨g, 0, none⟩) l.length cap]).run Tryz.prog w.drew = .ok (.pointer (some ⟨g, 0, none⟩)) w.drew :=
    Lib.run_unsafeSliceData_row _ _ _ _ _ _ (by omega)
  have hUS : (Builtin.unsafeString_ #[117, 3] 9 #[.pointer (some ⟨g, 0, none⟩), .int .i64 l.length]).run Tryz.prog w.drew = .ok (.string ⟨l.toArray⟩) (w.drew.freeze ⟨g, 0, none⟩ l.length) := by
    refine Lib.run_unsafeString_row w.drew 117 3 9 5 Tryz.underlying117 (by kernel_rfl) g cur.size (by have hg' : w.drew.heap[g]? = some (.cells cur 5 (0, 0)) := hg; simp [World.shape?, hg']) l h0 (by omega) (by unfold maxLen at hcm; omega) ?_
    intro j x hx
    have := hown.cells (g := g) rfl j (.int .u8 x.toNat) (by simp [Lib.byteCells, hx])
    exact this
  have hBl : Below B w (w.drew.freeze ⟨g, 0, none⟩ l.length) := Lib.below_freeze (Below.drew (Below.refl B w)) (p := ⟨g, 0, none⟩) hbg _
  go_enter Tryz.func38, Tryz.ntmps38
  have mixed : Tryz.prog.follows Departure.mixedOrders = true := by kernel_rfl
  go_wp2
  go_region_o
  all_goals (go_wp2; go_ret; exact ⟨rfl, hBl⟩)
open Go.RowKit
set_option maxRecDepth 100000 in
set_option maxHeartbeats 1600000 in
theorem vcount_any (k n d : Int) (t : ByteArray) (b : Bool) (f : Int) (w : World) (hr : Wv.right k n d t b f = true) (C : ∀ w, Calls Tryz.prog 105 #[vlV ⟨k, n, d, t, b, f⟩] w fun e w' => e = .returned (.bool (Wv.right k n d t b f)) ∧ Below w.heap.size w w') :
    Calls Tryz.prog 165 #[vlV ⟨k, n, d, t, b, f⟩] w fun e w' => e = .returned (vlV ⟨k, n, d, t, b, f⟩) ∧ Below w.heap.size w w' := by
  simp only [hr] at C
  simp only [vlV, vl6] at C ⊢
  have pA := (AtL.new0 w 26 [.int .i64 k, .int .i64 n, .int .i64 d, .string t, .bool b, .int .i64 f]).alloc (.cells #[.int .i64 0, .int .i64 0, .int .i64 0, .string ⟨#[]⟩, .bool false, .int .i64 0] 26)
  have pR := vlz (w.alloc (.cells #[.int .i64 k, .int .i64 n, .int .i64 d, .string t, .bool b, .int .i64 f] 26))
  simp only [World.size_alloc] at pR
  have hB0 := ball (ball (Below.refl _ w) (.cells #[.int .i64 k, .int .i64 n, .int .i64 d, .string t, .bool b, .int .i64 f] 26)) (.cells #[.int .i64 0, .int .i64 0, .int .i64 0, .string ⟨#[]⟩, .bool false, .int .i64 0] 26)
  go_enter Tryz.func165, Tryz.ntmps165
  go_wp2_with fail
  refine (C _).mono ?_
  rintro e w1 ⟨rfl, hb⟩
  have pA1 := AtL.below hb pA
  have pR1 := AtL.below hb pR
  obtain ⟨a0, a1, a2, a3, a4, a5⟩ := pA1.f6
  obtain ⟨c0, c1, c2, c3, c4, c5⟩ := pR1.f6
  have g0 := pR1.2.2 0 (by decide)
  have g1 := pR1.2.2 1 (by decide)
  have g2 := pR1.2.2 2 (by decide)
  have g3 := pR1.2.2 3 (by decide)
  have g4 := pR1.2.2 4 (by decide)
  have g5 := pR1.2.2 5 (by decide)
  have hB1 := below_end hB0 hb
  go_wp2
  refine bodyPost_ret (v := vlV ⟨k, n, d, t, b, f⟩) (by simp [results, Tryz.results165, go_sem, vlV, vl6, *]) rfl ⟨rfl, ?_⟩
  exact by with_reducible repeat (first | exact hB1 | refine ball ?_ _ | refine Below.setCell ?_ (by first | (simp; done) | (simp; omega) | omega) _ | refine Below.drew ?_ | refine below_drewN ?_ _)
theorem truthText_any (b : Bool) (w : World) : Calls Tryz.prog 189 #[.bool b] w fun e w' => e = .returned (.string ⟨(if b then [84, 82, 85, 69] else [70, 65, 76, 83, 69] : List UInt8).toArray⟩) ∧ w = w' := by
  cases b with
  | true =>
    go_enter Tryz.func189, Tryz.ntmps189
    go_wp2
    go_ret
    exact ⟨rfl, rfl⟩
  | false =>
    go_enter Tryz.func189, Tryz.ntmps189
    go_wp2
    go_ret
    exact ⟨rfl, rfl⟩
set_option maxRecDepth 100000 in
theorem blank_any (w : World) : Calls Tryz.prog 182 #[] w fun e w' => e = .returned (vlV Wt.v0) ∧ Below w.heap.size w w' := by
  go_enter Tryz.func182, Tryz.ntmps182
  go_wp2
  refine bodyPost_ret (v := vlV Wt.v0) (by simp [results, Tryz.results182, go_sem, vlV, vl6, Wt.v0]) rfl ⟨rfl, ?_⟩
  exact by with_reducible repeat (first | exact Below.refl _ _ | refine below_drewN ?_ _ | refine Below.setCell ?_ (by first | (simp; done) | (simp; omega) | omega) _ | refine Below.drew ?_ | refine below_end ?_ (by assumption) | refine ball ?_ _)
set_option maxRecDepth 100000 in
set_option maxHeartbeats 1600000 in
theorem asText_truth (b : Bool) (w : World) : Calls Tryz.prog 167 #[vlV (vTruth b)] w fun e w' => e = .returned (.tuple #[.string ⟨(if b then [84, 82, 85, 69] else [70, 65, 76, 83, 69] : List UInt8).toArray⟩, vlV Wt.v0]) ∧ Below w.heap.size w w' := by
  have C := fun w => vcount_any 3 0 0 ⟨#[]⟩ b 0 w (by cases b <;> decide) (fun w => vright_3 0 0 ⟨#[]⟩ b 0 w)
  have T := fun w => truthText_any b w
  have Bl := fun w => blank_any w
  revert T
  generalize (⟨(if b then [84, 82, 85, 69] else [70, 65, 76, 83, 69] : List UInt8).toArray⟩ : ByteArray) = tx
  intro T
  simp only [vlV, vl6, vTruth, Wt.v0] at C Bl ⊢
  have pA := (AtL.new0 w 26 [.int .i64 3, .int .i64 0, .int .i64 0, .string ⟨#[]⟩, .bool b, .int .i64 0]).alloc (.cells #[.int .i64 0, .int .i64 0, .int .i64 0, .string ⟨#[]⟩, .bool false, .int .i64 0] 26)
  have pR := vlz (w.alloc (.cells #[.int .i64 3, .int .i64 0, .int .i64 0, .string ⟨#[]⟩, .bool b, .int .i64 0] 26))
  simp only [World.size_alloc] at pR
  have hB0 := ball (ball (Below.refl _ w) (.cells #[.int .i64 3, .int .i64 0, .int .i64 0, .string ⟨#[]⟩, .bool b, .int .i64 0] 26)) (.cells #[.int .i64 0, .int .i64 0, .int .i64 0, .string ⟨#[]⟩, .bool false, .int .i64 0] 26)
  go_enter Tryz.func167, Tryz.ntmps167
  go_wp2_with fail
  refine (C _).mono ?_
  rintro e w1 ⟨rfl, hb⟩
  have pA1 := AtL.below hb pA
  have pR1 := AtL.below hb pR
  obtain ⟨a0, a1, a2, a3, a4, a5⟩ := pA1.f6
  have f0 := pA1.2.2 0 (by simp)
  have f1 := pA1.2.2 1 (by simp)
  have f2 := pA1.2.2 2 (by simp)
  have f3 := pA1.2.2 3 (by simp)
  have f4 := pA1.2.2 4 (by simp)
  have f5 := pA1.2.2 5 (by simp)
  have hB1 := below_end hB0 hb
  clear hb
  have hne : w.heap.size ≠ w.heap.size + 1 := by omega
  go_wp2_with fail
  refine (T _).mono ?_
  rintro e w2 ⟨rfl, rfl⟩
  go_wp2_with fail
  refine (Bl _).mono ?_
  rintro e w3 ⟨rfl, hb3⟩
  have pR2 := AtL.below hb3 (((((pR1.far hne 0 _).far hne 1 _).far hne 2 _).far hne 3 _).far hne 4 _ |>.far hne 5 _)
  obtain ⟨c0, c1, c2, c3, c4, c5⟩ := pR2.f6
  have g0 := pR2.2.2 0 (by decide)
  have g1 := pR2.2.2 1 (by decide)
  have g2 := pR2.2.2 2 (by decide)
  have g3 := pR2.2.2 3 (by decide)
  have g4 := pR2.2.2 4 (by decide)
  have g5 := pR2.2.2 5 (by decide)
  have hB3 : Below w.heap.size w w3 := by
    refine below_end ?_ hb3
    exact by with_reducible repeat (first | exact hB1 | refine ball ?_ _ | refine Below.setCell ?_ (by first | (simp; done) | (simp; omega) | omega) _ | refine Below.drew ?_ | refine below_drewN ?_ _)
  go_wp2
  refine bodyPost_ret (v := .tuple #[.string tx, vlV Wt.v0]) (by simp [results, Tryz.results167, go_sem, vlV, vl6, Wt.v0, *]) rfl ⟨rfl, ?_⟩
  exact by with_reducible repeat (first | exact hB3 | refine ball ?_ _ | refine Below.setCell ?_ (by first | (simp; done) | (simp; omega) | omega) _ | refine Below.drew ?_ | refine below_drewN ?_ _)
set_option maxRecDepth 100000 in
set_option maxHeartbeats 1600000 in
theorem show_truth (b : Bool) (w : World) : Calls Tryz.prog 145 #[vlV (vTruth b)] w fun e w' => e = .returned (.string ⟨(if b then [84, 82, 85, 69] else [70, 65, 76, 83, 69] : List UInt8).toArray⟩) ∧ Below w.heap.size w w' := by
  have C := fun w => vcount_any 3 0 0 ⟨#[]⟩ b 0 w (by cases b <;> decide) (fun w => vright_3 0 0 ⟨#[]⟩ b 0 w)
  have T := fun w => asText_truth b w
  generalize (⟨(if b then [84, 82, 85, 69] else [70, 65, 76, 83, 69] : List UInt8).toArray⟩ : ByteArray) = tx at *
  simp only [vlV, vl6, vTruth, Wt.v0] at C T ⊢
  have pA := AtL.new0 w 26 [.int .i64 3, .int .i64 0, .int .i64 0, .string ⟨#[]⟩, .bool b, .int .i64 0]
  have hB0 := ball (Below.refl _ w) (.cells #[.int .i64 3, .int .i64 0, .int .i64 0, .string ⟨#[]⟩, .bool b, .int .i64 0] 26)
  go_enter Tryz.func145, Tryz.ntmps145
  go_wp2_with fail
  refine (C _).mono ?_
  rintro e w1 ⟨rfl, hb⟩
  have pA1 := AtL.below hb pA
  obtain ⟨a0, a1, a2, a3, a4, a5⟩ := pA1.f6
  have f0 := pA1.2.2 0 (by simp)
  have f1 := pA1.2.2 1 (by simp)
  have f2 := pA1.2.2 2 (by simp)
  have f3 := pA1.2.2 3 (by simp)
  have f4 := pA1.2.2 4 (by simp)
  have f5 := pA1.2.2 5 (by simp)
  have hB1 := below_end hB0 hb
  clear hb
  go_wp2_with fail
  refine (T _).mono ?_
  rintro e w2 ⟨rfl, hb2⟩
  have hB2 : Below w.heap.size w w2 := by
    refine below_end ?_ hb2
    exact by with_reducible repeat (first | exact hB1 | refine ball ?_ _ | refine Below.setCell ?_ (by first | (simp; done) | (simp; omega) | omega) _ | refine Below.drew ?_ | refine below_drewN ?_ _)
  clear hb2
  go_wp2
  go_ret
  exact ⟨rfl, by with_reducible repeat (first | exact hB2 | refine ball ?_ _ | refine Below.setCell ?_ (by first | (simp; done) | (simp; omega) | omega) _ | refine Below.drew ?_ | refine below_drewN ?_ _)⟩
set_option maxRecDepth 100000 in
set_option maxHeartbeats 1600000 in
theorem show_fault (f : Nat) (h1 : 1 ≤ f) (h8 : f ≤ 8) (w : World) (hF : FltAt w) : Calls Tryz.prog 145 #[vlV ⟨4, 0, 0, ⟨#[]⟩, false, f⟩] w fun e w' => e = .returned (.string ⟨(fNames.getD f []).toArray⟩) ∧ Below w.heap.size w w' := by
  have hfl : Wv.flt (f : Int) = true := by unfold Wv.flt; simp; omega
  have hlt : f < fNames.length := by show f < 9; omega
  have hfv : fltR[f]? = some (.string ⟨(fNames.getD f []).toArray⟩) := by unfold fltR; rw [List.getElem?_map, List.getElem?_eq_getElem hlt]; simp [List.getD, List.getElem?_eq_getElem hlt]
  have h9 : 1 < w.heap.size := World.block_lt_of_cell? _ _ (hF 0 _ rfl)
  generalize fNames.getD f [] = nm at *
  have C := fun w => vcount_any 4 0 0 ⟨#[]⟩ false f w (by unfold Wv.right; simp [hfl]) (fun w => vright_4 0 0 ⟨#[]⟩ false f w)
  simp only [vlV, vl6] at C ⊢
  have pA := AtL.new0 w 26 [.int .i64 4, .int .i64 0, .int .i64 0, .string ⟨#[]⟩, .bool false, .int .i64 f]
  have hB0 := ball (Below.refl _ w) (.cells #[.int .i64 4, .int .i64 0, .int .i64 0, .string ⟨#[]⟩, .bool false, .int .i64 f] 26)
  have hF0 := hF.below hB0
  go_enter Tryz.func145, Tryz.ntmps145
  go_wp2_with fail
  refine (C _).mono ?_
  rintro e w1 ⟨rfl, hb⟩
  have pA1 := AtL.below hb pA
  have hF1 := hF0.below hb
  obtain ⟨a0, a1, a2, a3, a4, a5⟩ := pA1.f6
  have f0 := pA1.2.2 0 (by simp)
  have f1 := pA1.2.2 1 (by simp)
  have f2 := pA1.2.2 2 (by simp)
  have f3 := pA1.2.2 3 (by simp)
  have f4 := pA1.2.2 4 (by simp)
  have f5 := pA1.2.2 5 (by simp)
  have hB1 := below_end hB0 hb
  clear hb
  have g : w1.cell? ⟨1, f, none⟩ = some (.string ⟨nm.toArray⟩) := by
    have := hF1 f _ hfv
    rw [Nat.zero_add] at this; exact this
  have hne : ¬ w.heap.size = 1 := by omega
  have hi1 : ¬ (f : Int) < 0 := by omega
  have hi2 : (f : Int) < 9 := by omega
  go_wp2
  go_ret
  exact ⟨rfl, by with_reducible repeat (first | exact hB1 | refine ball ?_ _ | refine Below.setCell ?_ (by first | (simp; done) | (simp; omega) | omega) _ | refine Below.drew ?_ | refine below_drewN ?_ _)⟩
open Go.Shelf Go.RowKit
def laysItoa_ren : Go.Shelf.Ren := ⟨fun | 171 => 161 | 243 => 180 | 246 => 199 | 283 => 205 | 284 => 206 | 285 => 207 | 286 => 208 | 129 => 214 | 317 => 213 | 318 => 215 | 319 => 216 | 320 => 217 | 337 => 222 | 338 => 223 | n => n, fun | 3 => 3 | 9 => 9 | 2 => 2 | 4 => 4 | 171 => 216 | 0 => 0 | 53 => 166 | 37 => 82 | 5 => 5 | 173 => 219 | 212 => 226 | 51 => 205 | 20 => 20 | 213 => 227 | 46 => 195 | 232 => 233 | 233 => 234 | n => n, fun | 17 => 5 | 18 => 6 | 19 => 7 | n => n⟩
theorem laysItoa : Go.Proofs.LaysM.n171 Tryz.prog laysItoa_ren := {
  mixed := by kernel_rfl
  f129 := Tryz.func214.trans (congrArg some (by kernel_rfl))
  f171 := Tryz.func161.trans (congrArg some (by kernel_rfl))
  f243 := Tryz.func180.trans (congrArg some (by kernel_rfl))
  f246 := Tryz.func199.trans (congrArg some (by kernel_rfl))
  f283 := Tryz.func205.trans (congrArg some (by kernel_rfl))
  f284 := Tryz.func206.trans (congrArg some (by kernel_rfl))
  f285 := Tryz.func207.trans (congrArg some (by kernel_rfl))
  f286 := Tryz.func208.trans (congrArg some (by kernel_rfl))
  f317 := Tryz.func213.trans (congrArg some (by kernel_rfl))
  f318 := Tryz.func215.trans (congrArg some (by kernel_rfl))
  f319 := Tryz.func216.trans (congrArg some (by kernel_rfl))
  f320 := Tryz.func217.trans (congrArg some (by kernel_rfl))
  f337 := Tryz.func222.trans (congrArg some (by kernel_rfl))
  f338 := Tryz.func223.trans (congrArg some (by kernel_rfl))
  t0 := Tryz.underlying0
  a0 := Tryz.isAgg0
  z0 := Tryz.sizeOf0
  v0 := Tryz.zeroValue0
  t2 := Tryz.underlying2
  a2 := Tryz.isAgg2
  z2 := Tryz.sizeOf2
  v2 := Tryz.zeroValue2
  t3 := Tryz.underlying3
  a3 := Tryz.isAgg3
  z3 := Tryz.sizeOf3
  v3 := Tryz.zeroValue3
  t4 := Tryz.underlying4
  a4 := Tryz.isAgg4
  z4 := Tryz.sizeOf4
  v4 := Tryz.zeroValue4
  t5 := Tryz.underlying5
  a5 := Tryz.isAgg5
  z5 := Tryz.sizeOf5
  v5 := Tryz.zeroValue5
  t9 := Tryz.underlying9
  a9 := Tryz.isAgg9
  z9 := Tryz.sizeOf9
  v9 := Tryz.zeroValue9
  t20 := Tryz.underlying20
  a20 := Tryz.isAgg20
  z20 := Tryz.sizeOf20
  v20 := Tryz.zeroValue20
  t37 := Tryz.underlying82
  a37 := Tryz.isAgg82
  z37 := Tryz.sizeOf82
  v37 := Tryz.zeroValue82
  t46 := Tryz.underlying195
  a46 := Tryz.isAgg195
  z46 := Tryz.sizeOf195
  v46 := Tryz.zeroValue195
  t51 := Tryz.underlying205
  a51 := Tryz.isAgg205
  z51 := Tryz.sizeOf205
  v51 := Tryz.zeroValue205
  t53 := Tryz.underlying166
  a53 := Tryz.isAgg166
  z53 := Tryz.sizeOf166
  v53 := Tryz.zeroValue166
  t171 := Tryz.underlying216
  a171 := Tryz.isAgg216
  z171 := Tryz.sizeOf216
  v171 := Tryz.zeroValue216
  t173 := Tryz.underlying219
  a173 := Tryz.isAgg219
  z173 := Tryz.sizeOf219
  v173 := Tryz.zeroValue219
  t212 := Tryz.underlying226
  a212 := Tryz.isAgg226
  z212 := Tryz.sizeOf226
  v212 := Tryz.zeroValue226
  t213 := Tryz.underlying227
  a213 := Tryz.isAgg227
  z213 := Tryz.sizeOf227
  t232 := Tryz.underlying233
  a232 := Tryz.isAgg233
  z232 := Tryz.sizeOf233
  v232 := Tryz.zeroValue233
  t233 := Tryz.underlying234
  a233 := Tryz.isAgg234
  z233 := Tryz.sizeOf234
  v233 := Tryz.zeroValue234
  g17 := by kernel_rfl
  g18 := by kernel_rfl
  g19 := by kernel_rfl
  i0 := by kernel_rfl
  i2 := by kernel_rfl
  i3 := by kernel_rfl
  i4 := by kernel_rfl
  i5 := by kernel_rfl
  i9 := by kernel_rfl
  i20 := by kernel_rfl
  i37 := by kernel_rfl
  i46 := by kernel_rfl
  i51 := by kernel_rfl
  i53 := by kernel_rfl
  i171 := by kernel_rfl
  i173 := by kernel_rfl
  i212 := by kernel_rfl
  i232 := by kernel_rfl
  i233 := by kernel_rfl
  m17 := by kernel_rfl
  m18 := by kernel_rfl
  m19 := by kernel_rfl }
theorem itoa_any (n : Int) (h0 : -9223372036854775808 ≤ n) (h1 : n ≤ 9223372036854775807) (w : World) (htab : Lib.TabIs Tryz.prog w "internal/strconv.uint64pow10" .u64 Lib.pow10Tab) :
    Calls Tryz.prog 161 #[.int .i64 n] w fun e w' => e = .returned (.string ⟨(Lib.itoa n).toArray⟩) ∧ ∃ k os, w' = Sort.grow (w.drewN k) os := Any.strconv_Itoa laysItoa n h0 h1 w htab
def lays169_ren : Go.Shelf.Ren := ⟨fun | 169 => 38 | n => n, fun | 70 => 81 | 9 => 9 | 0 => 0 | 72 => 84 | 37 => 82 | 127 => 117 | 3 => 3 | 5 => 5 | n => n, fun | n => n⟩
theorem lays169 : Go.Proofs.Lays.n169 Tryz.prog lays169_ren := {
  mixed := by kernel_rfl
  f169 := Tryz.func38.trans (congrArg some (by kernel_rfl))
  t0 := Tryz.underlying0
  a0 := Tryz.isAgg0
  z0 := Tryz.sizeOf0
  v0 := Tryz.zeroValue0
  t3 := Tryz.underlying3
  a3 := Tryz.isAgg3
  z3 := Tryz.sizeOf3
  v3 := Tryz.zeroValue3
  t9 := Tryz.underlying9
  a9 := Tryz.isAgg9
  z9 := Tryz.sizeOf9
  v9 := Tryz.zeroValue9
  t37 := Tryz.underlying82
  a37 := Tryz.isAgg82
  z37 := Tryz.sizeOf82
  v37 := Tryz.zeroValue82
  t70 := Tryz.underlying81
  a70 := Tryz.isAgg81
  z70 := Tryz.sizeOf81
  v70 := Tryz.zeroValue81
  t72 := Tryz.underlying84
  a72 := Tryz.isAgg84
  z72 := Tryz.sizeOf84
  v72 := Tryz.zeroValue84
  t127 := Tryz.underlying117
  a127 := Tryz.isAgg117
  z127 := Tryz.sizeOf117
  v127 := Tryz.zeroValue117 }
theorem extra169 : Builder.Extra Tryz.prog lays169_ren := {
  sizeBuilder := by kernel_rfl
  liesBuilder := by kernel_rfl
  t5 := Tryz.underlying5
  a5 := Tryz.isAgg5
  z5 := Tryz.sizeOf5
  v5 := Tryz.zeroValue5
  infoByte := by kernel_rfl
  cellsByte := by kernel_rfl
  sizeByte := by kernel_rfl
  neB5 := by decide }
theorem bstring (B b : Nat) (l : List UInt8) (w : World) (h : Lib.IsBuilder 84 5 B b (Lib.byteCells l) w) (hBw : B ≤ w.heap.size) :
    Calls Tryz.prog 38 #[.pointer (some ⟨b, 0, none⟩)] w fun e w' => e = .returned (.string ⟨l.toArray⟩) ∧ Below B w w' := Any.Builder_String_any lays169 extra169 B b l w h hBw
theorem q_byte {q : Nat} (h : q ≤ 9) : (((UInt8.ofNat (48 + q)).toNat : Nat) : Int) = 48 + (q : Int) := by
  have e : (UInt8.ofNat (48 + q)).toNat = 48 + q := by
    rw [UInt8.toNat_ofNat']
    exact Nat.mod_eq_of_lt (by omega)
  rw [e]; omega
set_option maxHeartbeats 1600000 in
theorem decimals_any (r d : Nat) (w : World) (hd : 0 < d) (hd2 : d ≤ 1000000) (hr : r < d) (hm : 1000000 % d = 0) :
    Calls Tryz.prog 163 #[.int .i64 (r : Int), .int .i64 (d : Int)] w fun e w' => e = .returned (.string ⟨(Wnum.decs d 6 r).toArray⟩) ∧ Below w.heap.size w w' := by
  have d0 : ¬ (d : Int) = 0 := by omega
  have EM : Hid (r * 10 ^ 6 % d = 0) := Wnum.ends_six hm
  clear hm
  go_enter Tryz.func163, Tryz.ntmps163
  go_wp2_with fail
  go_loopw [0] (fun x wr => ∃ (k r1 : Nat) (l : List UInt8), x = .int .i64 (r1 : Int) ∧ r1 < d ∧ k ≤ 6 ∧ Hid (r1 * 10 ^ k % d = 0) ∧ Hid (Wnum.decs d 6 r = l ++ Wnum.decs d k r1) ∧ l.length + k ≤ 6 ∧ Lib.IsBuilder 84 5 w.heap.size w.heap.size (Lib.byteCells l) wr ∧ Below w.heap.size w wr) (fun x _ => Wnum.fu d 6 (intOf x).toNat)
  case atStart => exact ⟨6, r, [], rfl, hr, Nat.le_refl _, EM, (rfl : Wnum.decs d 6 r = [] ++ Wnum.decs d 6 r), by simp, Lib.fresh_isBuilder 84 5 w, (Below.refl _ w).alloc (Nat.le_refl _) _⟩
  case round =>
    obtain ⟨k, r1, l, rfl, h1, hk, HE, HD, hl, hI, qB⟩ := hrel
    have s1 := qB.size
    by_cases h0 : r1 = 0
    · have E : Hid (Wnum.decs d 6 r = l) := by show _ = _; rw [HD.out, h0, Wnum.decs_zero, List.append_nil]
      have r0 : ((r1 : Int) != 0) = false := by simp [h0]
      clear h0
      go_wp2_with fail
      refine (bstring _ _ l _ hI s1).mono ?_
      rintro e w2 ⟨rfl, hb2⟩
      go_wp2
      go_ret
      exact ⟨by rw [E.out]; rfl, qB.trans hb2⟩
    · obtain ⟨k', rfl⟩ : ∃ k', k = k' + 1 := by
        cases k with
        | zero => exact absurd (Wnum.ends_zero h1 HE.out) h0
        | succ k' => exact ⟨k', rfl⟩
      have hq : r1 * 10 / d ≤ 9 := by
        have : r1 * 10 / d < 10 := (Nat.div_lt_iff_lt_mul hd).2 (by omega)
        omega
      have e1 : (r1 : Int) * 10 / (d : Int) = ((r1 * 10 / d : Nat) : Int) := by rw [Int.natCast_ediv, Int.natCast_mul]; rfl
      have e2 : (r1 : Int) * 10 % (d : Int) = ((r1 * 10 % d : Nat) : Int) := by rw [Int.natCast_emod, Int.natCast_mul]; rfl
      have L : Hid (Wnum.fu d 6 (r1 * 10 % d) < Wnum.fu d 6 r1) := Wnum.fu_less hd h1 h0 hk HE.out
      have HE2 : Hid (r1 * 10 % d * 10 ^ k' % d = 0) := Wnum.ends_step HE.out
      have lt2 : r1 * 10 % d < d := Nat.mod_lt _ hd
      have HD2 : Hid (Wnum.decs d 6 r = (l ++ [UInt8.ofNat (48 + r1 * 10 / d)]) ++ Wnum.decs d k' (r1 * 10 % d)) := by
        show _ = _
        rw [HD.out, Wnum.decs_more h0, List.append_assoc]; rfl
      have hb := q_byte hq
      have r0 : ((r1 : Int) != 0) = true := by rw [bne_iff_ne]; omega
      generalize r1 * 10 / d = q at *
      generalize hr2 : r1 * 10 % d = r2 at *
      clear hr2 HE HD
      have ec : Lib.byteCells l ++ [Value.int .u8 (48 + (q : Int))] = Lib.byteCells (l ++ [UInt8.ofNat (48 + q)]) := by
        rw [Lib.byteCells_append]
        show _ = Lib.byteCells l ++ [Value.int .u8 (((UInt8.ofNat (48 + q)).toNat : Nat) : Int)]
        rw [hb]
      have WB := wbyte (48 + (q : Int)) wr hI (by rw [Lib.byteCells_length]; omega) s1
      rw [ec] at WB
      clear hb ec
      go_wp2_with fail
      refine WB.mono ?_
      rintro e w2 ⟨rfl, hI2, hb2⟩
      go_wp2_with fail
      go_roundw
      case rel => exact ⟨k', r2, l ++ [UInt8.ofNat (48 + q)], by rw [e2], lt2, by omega, HE2, HD2, by rw [List.length_append, List.length_singleton]; omega, hI2, qB.trans hb2⟩
      case measure => simpa [intOf, e2] using L.out
end Go.Proofs.YthofehcchickeaaGreatDoor
