/- The contract of Sum. -/
import Derived.Test.YtfilmomndhlmbaaDoorAtKit
import Derived.Test.YtfilmomndhlmbaaDoorWalkI
import Derived.Test.YtfilmomndhlmbaaDoorPlainN
namespace Go.Proofs.YtfilmomndhlmbaaDoor
open Go.RowKit
set_option linter.unusedVariables false

set_option maxHeartbeats 1600000 in
theorem sum_any (blk off len cap : Nat) (f g : Nat → Int) (w : World) (hlen : len ≤ 1000000000000000) (hbl : 0 < len → blk < w.heap.size)
    (hc0 : ∀ i, i < len → w.cell? ⟨blk, off + i * 2, none⟩ = some (.int .i64 (f i))) (hc1 : ∀ i, i < len → w.cell? ⟨blk, off + i * 2 + 1, none⟩ = some (.int .i64 (g i)))
    (hf : ∀ i, i < len → -9223372036854775808 ≤ f i ∧ f i ≤ 9223372036854775807) (hg : ∀ i, i < len → -9223372036854775808 ≤ g i ∧ g i ≤ 9223372036854775807) :
    Calls Tryd.prog 16 #[.slice (some ⟨blk, off, none⟩) len cap] w fun e w' => e = .returned (.tuple #[.agg #[.int .i64 (Wnum.oN (Wnum.sumQ 0 (Wnum.els f g len))), .int .i64 (Wnum.oD (Wnum.sumQ 0 (Wnum.els f g len)))], .bool (Wnum.oB (Wnum.sumQ 0 (Wnum.els f g len)))]) ∧ Below w.heap.size w w' := by
  go_enter Tryd.func16, Tryd.ntmps16
  go_wp2_with fail
  go_loopw [5, 7, 11] (fun s5 _ i wr => s5 = .bool true ∧ ∃ (j : Nat) (T : Rat) (tn td : Int), j ≤ len ∧ i = .int .i64 j ∧ Hid (Wnum.okQ T = true) ∧ Hid (T.num = tn) ∧ Hid ((T.den : Int) = td) ∧ Hid (Wnum.sumQ 0 (Wnum.els f g len) = Wnum.sumQ T ((Wnum.els f g len).drop j)) ∧ Below w.heap.size w wr ∧ At wr w.heap.size (.int .i64 0) (.int .i64 0) ∧ At wr (w.heap.size + 1) (.int .i64 tn) (.int .i64 td)) (fun _ _ i _ => len - (intOf i).toNat)
  case atStart =>
    refine ⟨rfl, 0, 0, 0, 1, Nat.zero_le _, rfl, Wnum.zero_ok, (rfl : (0 : Rat).num = 0), (rfl : ((0 : Rat).den : Int) = 1), (rfl : Wnum.sumQ 0 (Wnum.els f g len) = Wnum.sumQ 0 ((Wnum.els f g len).drop 0)), by with_reducible repeat (first | exact Below.refl _ _ | refine below_drewN ?_ _ | refine Below.setCell ?_ (by first | (simp; done) | (simp; omega) | omega) _ | refine Below.drew ?_ | refine below_end ?_ (by assumption) | refine ball ?_ _), ?_, ?_⟩
    · exact (At.new w _ rfl _ _).alloc _
    · exact At.new (w.alloc _) _ (by simp) _ _
  case round =>
    obtain ⟨rfl, j, T, tn, td, hj, rfl, ok, en, ed, es, qB, qR, qT⟩ := hrel
    by_cases hlt : j < len
    · have hb := hbl (by omega)
      have x0 : wr.cell? ⟨blk, off + j * 2, none⟩ = some (.int .i64 (f j)) := (qB.cell (p := ⟨blk, off + j * 2, none⟩) hb).trans (hc0 j hlt)
      have x1 : wr.cell? ⟨blk, off + j * 2 + 1, none⟩ = some (.int .i64 (g j)) := (qB.cell (p := ⟨blk, off + j * 2 + 1, none⟩) hb).trans (hc1 j hlt)
      obtain ⟨f1, f2⟩ := hf j hlt
      obtain ⟨g1, g2⟩ := hg j hlt
      have hd := Wnum.els_drop (f := f) (g := g) hlt
      have Q := Wnum.qu_rat ok.out
      rw [en.out, ed.out] at Q
      obtain ⟨o1, o2, o3⟩ := Wnum.ok_iff.1 ok.out
      rw [en.out] at o1 o2
      rw [ed.out] at o3
      have o4 : 0 ≤ td := by rw [← ed.out]; omega
      have AD := fun w => add_any tn td (f j) (g j) w (by omega) (by omega) (by omega) (by omega) f1 f2 g1 g2
      rw [Q] at AD
      have HD : Hid (Wnum.sumQ 0 (Wnum.els f g len) = Wnum.sumQ T (Wnum.qu (f j) (g j) :: (Wnum.els f g len).drop (j + 1))) := by show _ = _; rw [es.out, hd]
      clear es hd Q
      generalize f j = fj at *
      generalize g j = gj at *
      have tT := qT.alloc (.cells #[.int .i64 fj, .int .i64 gj] 23)
      have tE := At.new wr 23 rfl (.int .i64 fj) (.int .i64 gj)
      obtain ⟨t1, t2, t3, t4⟩ := tT
      obtain ⟨e1, e2, e3, e4⟩ := tE
      go_wp2_with fail
      refine (AD _).mono ?_
      rintro e w2 ⟨rfl, hb2⟩
      have rR := At.below hb2 (qR.alloc (.cells #[.int .i64 fj, .int .i64 gj] 23))
      have rT := At.below hb2 (qT.alloc (.cells #[.int .i64 fj, .int .i64 gj] 23))
      have rB := below_end (ball qB (.cells #[.int .i64 fj, .int .i64 gj] 23)) hb2
      clear hb2 qR qT qB t1 t2 t3 t4 e1 e2 e3 e4 x0 x1
      cases hk : Wnum.okQ (T + Wnum.qu fj gj) with
      | true =>
        obtain ⟨y1, y2, y3⟩ := Wnum.oNs hk
        have HS : Hid (Wnum.sumQ 0 (Wnum.els f g len) = Wnum.sumQ (T + Wnum.qu fj gj) ((Wnum.els f g len).drop (j + 1))) := by show _ = _; rw [HD.out, Wnum.sumQ_in hk]
        rw [y1, y2, y3]
        clear y1 y2 y3 HD AD
        generalize T + Wnum.qu fj gj = T2 at *
        have tT := rT
        obtain ⟨t1, t2, t3, t4⟩ := tT
        go_wp2_with fail
        go_roundw
        case rel => exact ⟨rfl, j + 1, T2, _, _, by omega, by go_num, hk, (rfl : T2.num = _), (rfl : (T2.den : Int) = _), HS, put_below rB (by omega) _ _, rR.far2 (by omega) _ _, rT.put _ _⟩
        case measure => simp [intOf]; omega
      | false =>
        obtain ⟨y1, y2, y3⟩ := Wnum.oNn hk
        have HS : Hid (Wnum.sumQ 0 (Wnum.els f g len) = none) := by show _ = _; rw [HD.out, Wnum.sumQ_out hk]
        rw [y1, y2, y3]
        clear y1 y2 y3 HD AD
        have sT := rT.put (.int .i64 0) (.int .i64 0)
        have sR := rR.far2 (j := w.heap.size + 1) (by omega) (.int .i64 0) (.int .i64 0)
        have sB := put_below rB (k := w.heap.size + 1) (by omega) (.int .i64 0) (.int .i64 0)
        obtain ⟨t1, t2, t3, t4⟩ := rT
        go_upto_region 6 with fail
        clear rR rB t1 t2 t3 t4
        generalize (w2.setCell ⟨w.heap.size + 1, 0, none⟩ (.int .i64 0)).setCell ⟨w.heap.size + 1, 1, none⟩ (.int .i64 0) = w3 at *
        obtain ⟨r1, r2, r3, r4⟩ := sR
        go_wp2
        refine bodyPost_ret (v := .tuple #[.agg #[.int .i64 0, .int .i64 0], .bool false]) (by simp [results, Tryd.results16, go_sem, r1, r2]) rfl ⟨by rw [HS.out]; rfl, ?_⟩
        exact put_below sB (by omega) _ _
    · have hj' : j = len := by omega
      subst hj'
      have HS : Hid (Wnum.sumQ 0 (Wnum.els f g j) = some T) := by show _ = _; rw [es.out, Wnum.sumQ_end]
      obtain ⟨y1, y2, y3⟩ := Wnum.oNs ok.out
      rw [en.out] at y1
      rw [ed.out] at y2
      have Y1 : Hid (Wnum.oN (some T) = tn) := y1
      have Y2 : Hid (Wnum.oD (some T) = td) := y2
      have Y3 : Hid (Wnum.oB (some T) = true) := y3
      clear y1 y2 y3
      have tT := qT
      obtain ⟨t1, t2, t3, t4⟩ := tT
      obtain ⟨r1, r2, r3, r4⟩ := qR
      go_wp2
      refine bodyPost_ret (v := .tuple #[.agg #[.int .i64 tn, .int .i64 td], .bool true]) (by simp [results, Tryd.results16, go_sem, r1, r2]) rfl ⟨by rw [HS.out, Y1.out, Y2.out, Y3.out], ?_⟩
      exact put_below qB (by omega) _ _
end Go.Proofs.YtfilmomndhlmbaaDoor
