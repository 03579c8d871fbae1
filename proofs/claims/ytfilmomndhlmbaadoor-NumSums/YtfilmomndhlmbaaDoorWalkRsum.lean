/- The contract of the reference's Sum. -/
import Derived.Test.YtfilmomndhlmbaaDoorWalkH
import Derived.Test.YtfilmomndhlmbaaDoorPlainN
import Derived.Deep.DeepCutAuto
namespace Go.Proofs.YtfilmomndhlmbaaDoor
open Go.RowKit
set_option linter.unusedVariables false

theorem rsum_empty (a0 : Option Addr) (cap : Nat) (w : World) :
    Calls Tryd.prog 17 #[.slice a0 0 cap] w fun e w' => e = .returned (.tuple #[.agg #[.int .i64 0, .int .i64 1], .bool true]) ∧ Below w.heap.size w w' := by
  go_enter Tryd.func17, Tryd.ntmps17
  go_wp2_with fail
  go_loopw [5, 6, 7] (fun i _ _ wr => i = .int .i64 0 ∧ Below w.heap.size w wr ∧ At wr w.heap.size (.int .i64 0) (.int .i64 0) ∧ At wr (w.heap.size + 1) (.int .i64 0) (.int .i64 1)) (fun _ _ _ _ => 0)
  case atStart =>
    refine ⟨rfl, by with_reducible repeat (first | exact Below.refl _ _ | refine below_drewN ?_ _ | refine Below.setCell ?_ (by first | (simp; done) | (simp; omega) | omega) _ | refine Below.drew ?_ | refine below_end ?_ (by assumption) | refine ball ?_ _), ?_, ?_⟩
    · exact (At.new w _ rfl _ _).alloc _
    · exact At.new (w.alloc _) _ (by simp) _ _
  case round =>
    obtain ⟨rfl, qB, qR, qT⟩ := hrel
    obtain ⟨t1, t2, t3, t4⟩ := qT
    obtain ⟨r1, r2, r3, r4⟩ := qR
    go_wp2
    refine bodyPost_ret (v := .tuple #[.agg #[.int .i64 0, .int .i64 1], .bool true]) (by simp [results, Tryd.results17, go_sem, r1, r2]) rfl ⟨rfl, ?_⟩
    exact put_below qB (by omega) _ _

theorem keepS {w W W' : World} {k j : Nat} {x y u v : Value} (hb : Below W.heap.size W W') (h : W.cell? ⟨k, j, none⟩ = some x ∧ W.cell? ⟨k, j + 1, none⟩ = some y ∧ W.cell? ⟨w.heap.size + 1, 0, none⟩ = some u ∧ W.cell? ⟨w.heap.size + 1, 1, none⟩ = some v) :
    W'.cell? ⟨k, j, none⟩ = some x ∧ W'.cell? ⟨k, j + 1, none⟩ = some y ∧ W'.cell? ⟨w.heap.size + 1, 0, none⟩ = some u ∧ W'.cell? ⟨w.heap.size + 1, 1, none⟩ = some v := by
  obtain ⟨h1, h2, h3, h4⟩ := h
  exact ⟨(hb.cell (p := ⟨k, j, none⟩) (World.block_lt_of_cell? W _ h1)).trans h1, (hb.cell (p := ⟨k, j + 1, none⟩) (World.block_lt_of_cell? W _ h2)).trans h2, (hb.cell (p := ⟨w.heap.size + 1, 0, none⟩) (World.block_lt_of_cell? W _ h3)).trans h3, (hb.cell (p := ⟨w.heap.size + 1, 1, none⟩) (World.block_lt_of_cell? W _ h4)).trans h4⟩

set_option maxHeartbeats 3200000 in
theorem rsum_any (blk off len cap : Nat) (f g : Nat → Int) (w : World) (hlen : len ≤ 1000000000000000) (hbl : 0 < len → blk < w.heap.size)
    (hc0 : ∀ i, i < len → w.cell? ⟨blk, off + i * 2, none⟩ = some (.int .i64 (f i))) (hc1 : ∀ i, i < len → w.cell? ⟨blk, off + i * 2 + 1, none⟩ = some (.int .i64 (g i)))
    (hf : ∀ i, i < len → -9223372036854775808 ≤ f i ∧ f i ≤ 9223372036854775807) (hg : ∀ i, i < len → -9223372036854775808 ≤ g i ∧ g i ≤ 9223372036854775807) :
    Calls Tryd.prog 17 #[.slice (some ⟨blk, off, none⟩) len cap] w fun e w' => e = .returned (.tuple #[.agg #[.int .i64 (Wnum.oN (Wnum.sumQ 0 (Wnum.els f g len))), .int .i64 (Wnum.oD (Wnum.sumQ 0 (Wnum.els f g len)))], .bool (Wnum.oB (Wnum.sumQ 0 (Wnum.els f g len)))]) ∧ Below w.heap.size w w' := by
  go_enter Tryd.func17, Tryd.ntmps17
  go_wp2_with fail
  go_loopw [5, 6, 7] (fun i _ _ wr => ∃ (j : Nat) (T : Rat) (tn td : Int), j ≤ len ∧ i = .int .i64 j ∧ Hid (Wnum.okQ T = true) ∧ Hid (T.num = tn) ∧ Hid ((T.den : Int) = td) ∧ Hid (Wnum.sumQ 0 (Wnum.els f g len) = Wnum.sumQ T ((Wnum.els f g len).drop j)) ∧ Below w.heap.size w wr ∧ At wr w.heap.size (.int .i64 0) (.int .i64 0) ∧ At wr (w.heap.size + 1) (.int .i64 tn) (.int .i64 td)) (fun i _ _ _ => len - (intOf i).toNat)
  case atStart =>
    refine ⟨0, 0, 0, 1, Nat.zero_le _, rfl, Wnum.zero_ok, (rfl : (0 : Rat).num = 0), (rfl : ((0 : Rat).den : Int) = 1), (rfl : Wnum.sumQ 0 (Wnum.els f g len) = Wnum.sumQ 0 ((Wnum.els f g len).drop 0)), by with_reducible repeat (first | exact Below.refl _ _ | refine below_drewN ?_ _ | refine Below.setCell ?_ (by first | (simp; done) | (simp; omega) | omega) _ | refine Below.drew ?_ | refine below_end ?_ (by assumption) | refine ball ?_ _), ?_, ?_⟩
    · exact (At.new w _ rfl _ _).alloc _
    · exact At.new (w.alloc _) _ (by simp) _ _
  case round =>
    obtain ⟨j, T, tn, td, hj, rfl, ok, en, ed, es, qB, qR, qT⟩ := hrel
    by_cases hlt : j < len
    · have hb := hbl (by omega)
      have x0 : wr.cell? ⟨blk, off + j * 2, none⟩ = some (.int .i64 (f j)) := (qB.cell (p := ⟨blk, off + j * 2, none⟩) hb).trans (hc0 j hlt)
      have x1 : wr.cell? ⟨blk, off + j * 2 + 1, none⟩ = some (.int .i64 (g j)) := (qB.cell (p := ⟨blk, off + j * 2 + 1, none⟩) hb).trans (hc1 j hlt)
      obtain ⟨f1, f2⟩ := hf j hlt
      obtain ⟨g1, g2⟩ := hg j hlt
      have hd := Wnum.els_drop (f := f) (g := g) hlt
      have Q := Wnum.qu_rat ok.out
      rw [en.out, ed.out] at Q
      obtain ⟨o1, o2, o3⟩ := Wnum.ok_iff.1 ok.out
      rw [en.out] at o1 o2
      rw [ed.out] at o3
      have o4 : 0 ≤ td := by rw [← ed.out]; omega
      have AD := fun w => radd_any tn td (f j) (g j) w (by omega) (by omega) (by omega) (by omega) f1 f2 g1 g2
      rw [Q] at AD
      have HD : Hid (Wnum.sumQ 0 (Wnum.els f g len) = Wnum.sumQ T (Wnum.qu (f j) (g j) :: (Wnum.els f g len).drop (j + 1))) := by show _ = _; rw [es.out, hd]
      clear es hd Q
      generalize f j = fj at *
      generalize g j = gj at *
      have lB : w.heap.size + 1 < wr.heap.size := qT.lt
      have LB : blk < wr.heap.size := World.block_lt_of_cell? wr _ x0
      have tT := qT
      obtain ⟨t1, t2, t3, t4⟩ := tT
      go_upto_region 5 with fail
      go_cut [6, 7] (fun sp so wx => ∃ V, sp = .pointer (some ⟨V, 0, none⟩) ∧ so = .bool (Wnum.oB (some (T + Wnum.qu fj gj))) ∧ w.heap.size + 1 < V ∧ Below w.heap.size w wx ∧ At wx w.heap.size (.int .i64 0) (.int .i64 0) ∧ At wx (w.heap.size + 1) (.int .i64 tn) (.int .i64 td) ∧ At wx V (.int .i64 (Wnum.oN (some (T + Wnum.qu fj gj)))) (.int .i64 (Wnum.oD (some (T + Wnum.qu fj gj)))))
      case first =>
        have y0 : (wr.alloc (.cells #[.int .i64 0, .int .i64 0] 23)).cell? ⟨blk, off + j * 2, none⟩ = some (.int .i64 fj) := (World.cell?_alloc_past _ _ _ LB).trans x0
        have y1 : (wr.alloc (.cells #[.int .i64 0, .int .i64 0] 23)).cell? ⟨blk, off + j * 2 + 1, none⟩ = some (.int .i64 gj) := (World.cell?_alloc_past _ _ _ LB).trans x1
        have tU := qT.alloc (.cells #[.int .i64 0, .int .i64 0] 23)
        obtain ⟨u1, u2, u3, u4⟩ := tU
        go_region_with (first
          | (go_at_call 43; refine (AD _).mono ?_; rintro e wy ⟨rfl, hby⟩; first | (have n2 := At.below hby (At.new wr 23 rfl (.int .i64 0) (.int .i64 0)).drew; have nq := n2; obtain ⟨p1, p2, p3, p4⟩ := nq) | skip))
        all_goals
          go_wp2_with fail
          go_meet
          case rel =>
            first
            | exact ⟨_, rfl, rfl, (At.below hby qT.drew).lt, ball (below_end qB.drew hby) _, (At.below hby qR.drew).alloc _, (At.below hby qT.drew).alloc _, At.new wy _ rfl _ _⟩
            | exact ⟨_, rfl, rfl, lB, put_below (below_end (ball qB _).drew hby) (by omega) _ _, (At.below hby (qR.alloc _).drew).far2 (by omega) _ _, (At.below hby (qT.alloc _).drew).far2 (by omega) _ _, n2.put _ _⟩
      case rest =>
        clear qB qR qT t1 t2 t3 t4 x0 x1 lB LB
        obtain ⟨V, rfl, rfl, lV, rB, rR, rT, rV⟩ := hcut
        generalize wc = w2 at *
        cases hk : Wnum.okQ (T + Wnum.qu fj gj) with
        | true =>
          obtain ⟨y1, y2, y3⟩ := Wnum.oNs hk
          have HS : Hid (Wnum.sumQ 0 (Wnum.els f g len) = Wnum.sumQ (T + Wnum.qu fj gj) ((Wnum.els f g len).drop (j + 1))) := by show _ = _; rw [HD.out, Wnum.sumQ_in hk]
          rw [y3]
          rw [y1, y2] at rV
          clear y1 y2 y3 HD AD
          generalize T + Wnum.qu fj gj = T2 at *
          have tT := rT
          have tV := rV
          obtain ⟨t1, t2, t3, t4⟩ := tT
          obtain ⟨v1, v2, v3, v4⟩ := tV
          go_wp2_with fail
          go_roundw
          case rel => exact ⟨j + 1, T2, _, _, by omega, by go_num, hk, (rfl : T2.num = _), (rfl : (T2.den : Int) = _), HS, put_below rB (by omega) _ _, rR.far2 (by omega) _ _, rT.put _ _⟩
          case measure => simp [intOf]; omega
        | false =>
          obtain ⟨y1, y2, y3⟩ := Wnum.oNn hk
          have HS : Hid (Wnum.sumQ 0 (Wnum.els f g len) = none) := by show _ = _; rw [HD.out, Wnum.sumQ_out hk]
          rw [y3]
          clear y1 y2 y3 HD AD
          obtain ⟨r1, r2, r3, r4⟩ := rR
          go_wp2
          refine bodyPost_ret (v := .tuple #[.agg #[.int .i64 0, .int .i64 0], .bool false]) (by simp [results, Tryd.results17, go_sem, r1, r2]) rfl ⟨by rw [HS.out]; rfl, ?_⟩
          exact put_below rB (by omega) _ _
    · have hj' : j = len := by omega
      subst hj'
      have HS : Hid (Wnum.sumQ 0 (Wnum.els f g j) = some T) := by show _ = _; rw [es.out, Wnum.sumQ_end]
      obtain ⟨y1, y2, y3⟩ := Wnum.oNs ok.out
      rw [en.out] at y1
      rw [ed.out] at y2
      have Y1 : Hid (Wnum.oN (some T) = tn) := y1
      have Y2 : Hid (Wnum.oD (some T) = td) := y2
      have Y3 : Hid (Wnum.oB (some T) = true) := y3
      clear y1 y2 y3
      have tT := qT
      obtain ⟨t1, t2, t3, t4⟩ := tT
      obtain ⟨r1, r2, r3, r4⟩ := qR
      go_wp2
      refine bodyPost_ret (v := .tuple #[.agg #[.int .i64 tn, .int .i64 td], .bool true]) (by simp [results, Tryd.results17, go_sem, r1, r2]) rfl ⟨by rw [HS.out, Y1.out, Y2.out, Y3.out], ?_⟩
      exact put_below qB (by omega) _ _
end Go.Proofs.YtfilmomndhlmbaaDoor
