/- Queues: the functions that are handed on. -/
import Derived.Test.YtpbjmhcpaeillaaQClone
namespace Go.Proofs.Ytpbjmhcpaeillaa
open Go.RowKit
set_option linter.unusedVariables false

set_option maxRecDepth 100000 in
/-- What the sort asks. -/
theorem sorted1_any (a b : Wq.Wr) (w : World) : Calls Try.prog 50 #[.agg (wrV a).toArray, .agg (wrV b).toArray] w fun en w' => en = .returned (.int .i64 (Wq.cmpW a b)) ∧ Below w.heap.size w w' := by
  have p1 := (AtL.new0 w 58 [.int .i64 a.s, .int .i64 a.r, .int .i64 a.c, .int .i64 a.ln, .int .i64 a.lv]).alloc (.cells #[.int .i64 b.s, .int .i64 b.r, .int .i64 b.c, .int .i64 b.ln, .int .i64 b.lv] 58)
  have p2 := AtL.new1 w (.cells #[.int .i64 a.s, .int .i64 a.r, .int .i64 a.c, .int .i64 a.ln, .int .i64 a.lv] 58) 58 [.int .i64 b.s, .int .i64 b.r, .int .i64 b.c, .int .i64 b.ln, .int .i64 b.lv]
  have f1 := AtL.f5 p1
  have f2 := AtL.f5 p2
  have hb0 := ball (ball (Below.refl _ w) (.cells #[.int .i64 a.s, .int .i64 a.r, .int .i64 a.c, .int .i64 a.ln, .int .i64 a.lv] 58)) (.cells #[.int .i64 b.s, .int .i64 b.r, .int .i64 b.c, .int .i64 b.ln, .int .i64 b.lv] 58)
  clear p1 p2
  show Calls _ _ #[.agg #[.int .i64 a.s, .int .i64 a.r, .int .i64 a.c, .int .i64 a.ln, .int .i64 a.lv], .agg #[.int .i64 b.s, .int .i64 b.r, .int .i64 b.c, .int .i64 b.ln, .int .i64 b.lv]] _ _
  go_enter Try.func50, Try.ntmps50
  go_upto_region 1 with fail
  generalize (w.alloc (.cells #[.int .i64 a.s, .int .i64 a.r, .int .i64 a.c, .int .i64 a.ln, .int .i64 a.lv] 58)).alloc (.cells #[.int .i64 b.s, .int .i64 b.r, .int .i64 b.c, .int .i64 b.ln, .int .i64 b.lv] 58) = W0 at *
  obtain ⟨a0, a1, a2, a3, a4⟩ := f1
  obtain ⟨b0, b1, b2, b3, b4⟩ := f2
  go_wp2_with fail
  refine (compare_any a b _).mono ?_
  rintro en w1 ⟨rfl, hb1⟩
  go_wp2
  go_ret
  exact ⟨rfl, below_end hb0 hb1⟩
/-- An entry with the lane that its cell has now. -/
def reW (A : List Wpl.Ar) (a : Wq.Wr) : Wq.Wr := ⟨a.s, a.r, a.c, lnQ A (clW a), a.lv⟩
set_option maxHeartbeats 4000000 in
theorem see1_any (pb qb : Nat) (pw : Value) (A : List Wpl.Ar) (a : Wq.Wr) (av : Option Addr) (n cap : Nat) (w : World) (hp : AtL w pb [.pointer (some ⟨qb, 0, none⟩)]) (h : AtL w qb [pw, .slice av n cap]) (hr : RdQ w av A) (hn : A.length = n) (hN : True → n ≤ 1000000000) :
    Calls Try.prog 33 #[.agg (wrV a).toArray, .pointer (some ⟨pb, 0, none⟩)] w fun en w' => en = .returned (.agg (wrV (reW A a)).toArray) ∧ Below w.heap.size w w' := by
  have hb0 := ball (ball (Below.refl _ w) (.cells #[.int .i64 a.s, .int .i64 a.r, .int .i64 a.c, .int .i64 a.ln, .int .i64 a.lv] 58)) (.cells #[.int .i64 0, .int .i64 0, .int .i64 0, .int .i64 0, .int .i64 0] 58)
  have p1 := (AtL.new0 w 58 [.int .i64 a.s, .int .i64 a.r, .int .i64 a.c, .int .i64 a.ln, .int .i64 a.lv]).alloc (.cells #[.int .i64 0, .int .i64 0, .int .i64 0, .int .i64 0, .int .i64 0] 58)
  have p2 := AtL.new1 w (.cells #[.int .i64 a.s, .int .i64 a.r, .int .i64 a.c, .int .i64 a.ln, .int .i64 a.lv] 58) 58 [.int .i64 0, .int .i64 0, .int .i64 0, .int .i64 0, .int .i64 0]
  have c0 := (AtL.below hb0 hp).2.1 0 _ rfl
  have LN := lane_any qb pw A (clW a) av n cap ((w.alloc (.cells #[.int .i64 a.s, .int .i64 a.r, .int .i64 a.c, .int .i64 a.ln, .int .i64 a.lv] 58)).alloc (.cells #[.int .i64 0, .int .i64 0, .int .i64 0, .int .i64 0, .int .i64 0] 58)) (AtL.below hb0 h) (hr.below hb0) hn hN
  have HW : Hid (w.heap.size ≠ w.heap.size + 1) := by show _ ≠ _; omega
  obtain ⟨L, hL⟩ : ∃ L, lnQ A (clW a) = L := ⟨_, rfl⟩
  have HL : Hid (reW A a = ⟨a.s, a.r, a.c, L, a.lv⟩) := by show _ = _; unfold reW; rw [hL]
  rw [hL] at LN
  have HB0 : Hid (Below w.heap.size w ((w.alloc (.cells #[.int .i64 a.s, .int .i64 a.r, .int .i64 a.c, .int .i64 a.ln, .int .i64 a.lv] 58)).alloc (.cells #[.int .i64 0, .int .i64 0, .int .i64 0, .int .i64 0, .int .i64 0] 58))) := hb0
  clear hp h hr hn hN hL hb0
  show Calls _ _ #[.agg #[.int .i64 a.s, .int .i64 a.r, .int .i64 a.c, .int .i64 a.ln, .int .i64 a.lv], .pointer (some ⟨pb, 0, none⟩)] _ _
  go_enter Try.func33, Try.ntmps33
  go_upto_region 1 with fail
  generalize (w.alloc (.cells #[.int .i64 a.s, .int .i64 a.r, .int .i64 a.c, .int .i64 a.ln, .int .i64 a.lv] 58)).alloc (.cells #[.int .i64 0, .int .i64 0, .int .i64 0, .int .i64 0, .int .i64 0] 58) = W0 at *
  obtain ⟨a0, a1, a2, a3, a4⟩ := AtL.f5 p1
  go_wp2_with fail
  refine LN.mono ?_
  rintro en w1 ⟨rfl, hb1⟩
  have q1 := AtL.below hb1 p1
  have q2 := AtL.below hb1 p2
  have HB1 : Hid (Below w.heap.size w w1) := below_end HB0.out hb1
  clear LN hb1 p1 p2 a0 a1 a2 a3 a4 c0 HB0
  have r1 : AtL (w1.setCell ⟨w.heap.size, 3, none⟩ (.int .i64 L)) w.heap.size (wrV ⟨a.s, a.r, a.c, L, a.lv⟩) := q1.set 3 _
  have r2 := q2.far HW.out 3 (.int .i64 L)
  have HB2 : Hid (Below w.heap.size w (w1.setCell ⟨w.heap.size, 3, none⟩ (.int .i64 L))) := bset HB1.out (Nat.le_refl _) [_] 3
  obtain ⟨_, _, _, a3, _, z⟩ := AtL.five q1
  go_upto_region 2 with fail
  clear q1 q2 HB1 a3 z
  generalize w1.setCell ⟨w.heap.size, 3, none⟩ (.int .i64 L) = w2 at *
  obtain ⟨d0, d1, d2, d3, d4, _⟩ := AtL.five r1
  have hth : w2.there (w.heap.size + 1) 0 5 := r2.there
  have s2 : AtL (w2.setCells (w.heap.size + 1) 0 (wrV ⟨a.s, a.r, a.c, L, a.lv⟩)) (w.heap.size + 1) (wrV ⟨a.s, a.r, a.c, L, a.lv⟩) := r2.setAll rfl
  have HB3 : Hid (Below w.heap.size w (w2.setCells (w.heap.size + 1) 0 (wrV ⟨a.s, a.r, a.c, L, a.lv⟩))) := bset HB2.out (Nat.le_succ _) _ _
  go_wp2_with ((with_reducible refine wpList_store_mid ?_ 58 (.tmp 3) (.tmp 9) ?_ (w.heap.size + 1) 0 (wrV ⟨a.s, a.r, a.c, L, a.lv⟩).toArray ?_ ?_ ?_ ?_ ?_ ?_); rfl; rfl; rfl; rfl; exact hth; kernel_rfl; exact oneW _)
  generalize w2.setCells (w.heap.size + 1) 0 (wrV ⟨a.s, a.r, a.c, L, a.lv⟩) = w3 at *
  obtain ⟨e0, e1, e2, e3, e4, _⟩ := AtL.five s2
  refine bodyPost_ret (v := .agg #[.int .i64 a.s, .int .i64 a.r, .int .i64 a.c, .int .i64 L, .int .i64 a.lv]) (by simp [results, Try.results33, go_sem, e0, e1, e2, e3, e4]) rfl ⟨by rw [HL.out]; rfl, HB3.out⟩
end Go.Proofs.Ytpbjmhcpaeillaa
