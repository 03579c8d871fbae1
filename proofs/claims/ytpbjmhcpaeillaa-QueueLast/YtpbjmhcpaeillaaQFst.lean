/- Queues: First. -/
import Derived.Test.YtpbjmhcpaeillaaQSee
namespace Go.Proofs.Ytpbjmhcpaeillaa
open Go.RowKit
set_option linter.unusedVariables false

/-- The first entry of a row; is there one? -/
def hdW : List Wq.Wr → Wq.Wr
  | [] => zeW
  | a :: _ => a
def neQ : List Wq.Wr → Bool
  | [] => false
  | _ :: _ => true
theorem firstH_any (hb mb B : Nat) (rv : Value) (l : List Wq.Wr) (F : List (Wpl.Cl × Int)) (w : World) (h : HQ w hb mb B rv l F) :
    Calls Try.prog 38 #[.pointer (some ⟨hb, 0, none⟩)] w fun en w' => en = .returned (.tuple #[.agg (wrV (hdW l)).toArray, .bool (neQ l)]) ∧ Below w.heap.size w w' := by
  cases l with
  | nil => exact first_none hb mb B rv F w h
  | cons a r => exact first_some hb mb B rv a r F w h
theorem oneC3 (x : Wpl.Cl) : ([.int .i64 x.s, .int .i64 x.r, .int .i64 x.c] : List Value).toArray.all (·.oneCell') = true := all_oneCell_toArray (fun u h => by
  simp at h
  rcases h with h | h | h <;> (subst h; rfl))
set_option maxRecDepth 100000 in
set_option maxHeartbeats 4000000 in
theorem qfirst_any (qb hb mb B : Nat) (rv : Value) (l : List Wq.Wr) (F : List (Wpl.Cl × Int)) (av : Option Addr) (n cap : Nat) (A : List Wpl.Ar) (w : World) (h : QQ w qb hb mb B rv l F av n cap A) :
    Calls Try.prog 20 #[.pointer (some ⟨qb, 0, none⟩)] w fun en w' => en = .returned (.tuple #[.agg #[.int .i64 (hdW l).s, .int .i64 (hdW l).r, .int .i64 (hdW l).c], .bool (neQ l)]) ∧ Below w.heap.size w w' := by
  have hb0 := ball (Below.refl _ w) (.cells #[.int .i64 0, .int .i64 0, .int .i64 0] 33)
  have p := AtL.new0 w 33 [.int .i64 0, .int .i64 0, .int .i64 0]
  have h0 := h.below hb0
  obtain ⟨c0, _, _, _⟩ := h0.hd.two
  have FH := firstH_any hb mb B rv l F _ h0.h.q
  have HB0 : Hid (Below w.heap.size w (w.alloc (.cells #[.int .i64 0, .int .i64 0, .int .i64 0] 33))) := hb0
  generalize hdW l = a at *
  generalize neQ l = q at *
  clear h h0 hb0
  go_enter Try.func20, Try.ntmps20
  go_upto_region 1 with fail
  generalize w.alloc (.cells #[.int .i64 0, .int .i64 0, .int .i64 0] 33) = W0 at *
  go_wp2_with fail
  refine FH.mono ?_
  rintro en w1 ⟨rfl, hb1⟩
  have HB1 : Hid (Below w.heap.size w w1) := below_end HB0.out hb1
  have p1 := AtL.below hb1 p
  have p2 := p1.alloc (.cells #[.int .i64 a.s, .int .i64 a.r, .int .i64 a.c, .int .i64 a.ln, .int .i64 a.lv] 58)
  have q2 := AtL.new0 w1 58 [.int .i64 a.s, .int .i64 a.r, .int .i64 a.c, .int .i64 a.ln, .int .i64 a.lv]
  have HB2 : Hid (Below w.heap.size w (w1.alloc (.cells #[.int .i64 a.s, .int .i64 a.r, .int .i64 a.c, .int .i64 a.ln, .int .i64 a.lv] 58))) := ball HB1.out _
  clear FH hb1 HB0 HB1 p p1 c0
  have ev : (wrV a).toArray = #[.int .i64 a.s, .int .i64 a.r, .int .i64 a.c, .int .i64 a.ln, .int .i64 a.lv] := rfl
  rw [ev]
  clear ev
  go_upto_region 2 with fail
  generalize w1.alloc (.cells #[.int .i64 a.s, .int .i64 a.r, .int .i64 a.c, .int .i64 a.ln, .int .i64 a.lv] 58) = W2 at *
  obtain ⟨d0, d1, d2, d3, d4, _⟩ := AtL.five q2
  have hth : W2.there w.heap.size 0 3 := p2.there
  have p3 : AtL (W2.setCells w.heap.size 0 [.int .i64 a.s, .int .i64 a.r, .int .i64 a.c]) w.heap.size [.int .i64 a.s, .int .i64 a.r, .int .i64 a.c] := p2.setAll rfl
  have HB3 : Hid (Below w.heap.size w (W2.setCells w.heap.size 0 [.int .i64 a.s, .int .i64 a.r, .int .i64 a.c])) := bset HB2.out (Nat.le_refl _) _ _
  clear p2 q2 HB2
  go_wp2_with ((with_reducible refine wpList_store_mid ?_ 33 (.tmp 2) (.tmp 15) ?_ w.heap.size 0 ([.int .i64 a.s, .int .i64 a.r, .int .i64 a.c] : List Value).toArray ?_ ?_ ?_ ?_ ?_ ?_); rfl; rfl; rfl; rfl; exact hth; kernel_rfl; exact oneC3 (clW a))
  generalize W2.setCells w.heap.size 0 [.int .i64 a.s, .int .i64 a.r, .int .i64 a.c] = W3 at *
  obtain ⟨e0, e1, e2, _⟩ := p3.three
  refine bodyPost_ret (v := .tuple #[.agg #[.int .i64 a.s, .int .i64 a.r, .int .i64 a.c], .bool q]) (by simp [results, Try.results20, go_sem, e0, e1, e2]) rfl ⟨rfl, HB3.out⟩
end Go.Proofs.Ytpbjmhcpaeillaa
