/- The reference's one: texts, words. -/
import Derived.Test.YtjkohkhngeioiaaDoorLRefD
namespace Go.Proofs.YtjkohkhngeioiaaDoor
open Go.Shelf Go.RowKit
set_option linter.unusedVariables false

theorem hit_quote {t : List UInt8} (h : Wlx.txtSz (34 :: t) = 0) : Wlx.hit (34 :: t) = 6 := by
  refine Wlx.hit_none fun j a b => ?_
  have : j = 1 ∨ j = 2 ∨ j = 3 ∨ j = 4 ∨ j = 5 := by omega
  rcases this with rfl | rfl | rfl | rfl | rfl
  · have : ¬ 0 < Wlx.numSz (34 :: t) := fun h => absurd (Wlx.numSz_pos.1 h) (by decide)
    rw [Wlx.sz1]; omega
  · exact h
  · have : ¬ 0 < Wlx.runP Wlx.wrd (34 :: t) := fun h => absurd (Wlx.wrdSz_pos.1 h) (by decide)
    rw [Wlx.sz3]; omega
  · have : ¬ 0 < Wlx.nameSz (34 :: t) Wlx.faults := fun h => absurd (Wlx.faultSz_pos h) (by decide)
    rw [Wlx.sz4]; omega
  · have : ¬ 0 < Wlx.nameSz (34 :: t) Wlx.marks := fun h => absurd (Wlx.markSz_pos h) (by decide)
    rw [Wlx.sz5]; omega

set_option maxRecDepth 100000 in
set_option maxHeartbeats 1600000 in
theorem one_text (b : ByteArray) (q : Nat) (t : List UInt8) (w : World) (hs : b.size ≤ 1024) (hq : q < b.size) (hd : b.data.toList.drop q = 34 :: t) : Calls Tryd.prog 23 #[.string b, .int .i64 q] w fun e w' => OnePost q (34 :: t) e ∧ Below w.heap.size w w' := by
  obtain ⟨_, hbq⟩ := byte_of (x := []) (y := t) (c := 34) hd
  have hbq : b[q] = 34 := hbq
  have eb : (((b[q]).toNat : Nat) : Int) = 34 := by rw [hbq]; rfl
  have D0 := fun w => rdigit_any 34 w
  have e34 : ((((34 : UInt8).toNat : Nat) : Int)) = 34 := rfl
  have ed : Wlx.dig 34 = false := rfl
  rw [e34, ed] at D0
  have hqi : (q : Int) < (b.size : Int) := by omega
  have T := fun w => rtext_walk b q t w hs hq (by rw [← List.drop_drop, hd]; rfl)
  have hn1 : ¬ (w.heap.size = w.heap.size + 1) := by omega
  clear hbq hd e34 ed
  go_enter Tryd.func23, Tryd.ntmps23
  go_wp2_with fail
  refine (D0 _).mono ?_
  rintro e w1 ⟨rfl, rfl⟩
  go_wp2_with fail
  refine (T _).mono ?_
  rintro e w1 ⟨hT, hb1⟩
  have p4 : AtL w1 w.heap.size [.int .i64 0, .string ⟨#[]⟩, .int .i64 0] := AtL.below hb1 ((AtL.new0 w 31 [.int .i64 0, .string ⟨#[]⟩, .int .i64 0]).alloc _)
  have p9 : AtL w1 (w.heap.size + 1) [.int .i64 0, .string ⟨#[]⟩, .int .i64 q] := AtL.below hb1 (AtL.new1 w _ 31 [.int .i64 0, .string ⟨#[]⟩, .int .i64 q])
  have hB : Below w.heap.size w w1 := (((Below.refl _ w).alloc (Nat.le_refl _) _).alloc (by simp) _).trans (hb1.mono (by simp; omega))
  obtain ⟨a0, a1, a2, a3, a4, a5⟩ := p4.three
  obtain ⟨c0, c1, c2, c3, c4, c5⟩ := p9.three
  clear hb1 p4 p9 T D0
  have ksz := hB.size
  generalize hk4 : w.heap.size = k4 at *
  rcases hT with ⟨hz, rfl⟩ | ⟨hz, hbad, rfl⟩ | ⟨hz, hbad, rfl⟩
  · have HP : Hid (OnePost q (34 :: t) (.returned (.tuple #[.agg #[.int .i64 0, .string ⟨#[]⟩, .int .i64 q], .int .i64 0, .int .i64 41, .int .i64 q]))) := Or.inl ⟨hit_quote hz, 0, ⟨#[]⟩, rfl⟩
    clear hz
    go_wp2
    refine bodyPost_ret (v := .tuple #[.agg #[.int .i64 0, .string ⟨#[]⟩, .int .i64 q], .int .i64 0, .int .i64 41, .int .i64 q]) (by simp [results, Tryd.results23, go_sem, *]) rfl ⟨HP.out, ?_⟩
    rw [hk4]
    exact put3_below (k := k4) hB (Nat.le_refl _) _ _ _
  · have hh : Wlx.hit (34 :: t) = 2 := Wlx.hit_of (Or.inr (Or.inl ⟨rfl, rfl⟩)) hz
    obtain ⟨pl, hpl⟩ : ∃ pl, q + Wlx.runP Wlx.prt ((34 :: t).take (Wlx.txtSz (34 :: t))) = pl := ⟨_, rfl⟩
    have HP : Hid (OnePost q (34 :: t) (.returned (.tuple #[.agg #[.int .i64 0, .string ⟨#[]⟩, .int .i64 q], .int .i64 0, .int .i64 40, .int .i64 pl]))) := by
      refine Or.inr (Or.inl ⟨by omega, ?_, 0, ⟨#[]⟩, ?_⟩)
      · rw [hh]; exact hbad
      · rw [hh, ← hpl]; rfl
    rw [hpl]
    clear hz hbad hh hpl
    go_wp2
    refine bodyPost_ret (v := .tuple #[.agg #[.int .i64 0, .string ⟨#[]⟩, .int .i64 q], .int .i64 0, .int .i64 40, .int .i64 pl]) (by simp [results, Tryd.results23, go_sem, *]) rfl ⟨HP.out, ?_⟩
    rw [hk4]
    exact put3_below (k := k4) hB (Nat.le_refl _) _ _ _
  · have hh : Wlx.hit (34 :: t) = 2 := Wlx.hit_of (Or.inr (Or.inl ⟨rfl, rfl⟩)) hz
    obtain ⟨pl, hpl⟩ : ∃ pl, q + Wlx.txtSz (34 :: t) = pl := ⟨_, rfl⟩
    obtain ⟨S, hS⟩ : ∃ S : ByteArray, ⟨(Wlx.said 2 ((34 :: t).take (Wlx.txtSz (34 :: t)))).toArray⟩ = S := ⟨_, rfl⟩
    have HP : Hid (OnePost q (34 :: t) (.returned (.tuple #[.agg #[.int .i64 2, .string S, .int .i64 q], .int .i64 pl, .int .i64 0, .int .i64 0]))) := by
      refine Or.inr (Or.inr ⟨by omega, ?_, ?_⟩)
      · rw [hh]; exact hbad
      · rw [hh, ← hpl, ← hS]; rfl
    rw [hpl, hS]
    clear hz hbad hh hpl hS
    go_wp2
    refine bodyPost_ret (v := .tuple #[.agg #[.int .i64 2, .string S, .int .i64 q], .int .i64 pl, .int .i64 0, .int .i64 0]) (by simp [results, Tryd.results23, go_sem, *]) rfl ⟨HP.out, ?_⟩
    rw [hk4]
    exact put3_below (k := k4) ((hB.setCell (p := ⟨k4 + 1, 0, none⟩) (by show k4 ≤ k4 + 1; omega) _).setCell (p := ⟨k4 + 1, 1, none⟩) (by show k4 ≤ k4 + 1; omega) _) (Nat.le_refl _) _ _ _
end Go.Proofs.YtjkohkhngeioiaaDoor
