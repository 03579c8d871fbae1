/- The reference's text, walked. -/
import Derived.Test.YtjkohkhngeioiaaDoorLRefB
namespace Go.Proofs.YtjkohkhngeioiaaDoor
open Go.Shelf Go.RowKit
set_option linter.unusedVariables false

theorem results_tmp4 {fn : Func} {t u v x : Tmp} (h : fn.results = #[.tmp t, .tmp u, .tmp v, .tmp x]) (tmps : Array Value) (P : Program) (w : World) :
    (results fn tmps).run P w = .ok (.tuple #[tmps.getD t undef, tmps.getD u undef, tmps.getD v undef, tmps.getD x undef]) w := by
  simp [results, h]

set_option maxRecDepth 100000 in
set_option maxHeartbeats 1600000 in
theorem rtext_walk (b : ByteArray) (q : Nat) (a : List UInt8) (w : World) (hs : b.size ≤ 1024) (hq : q < b.size) (hd : b.data.toList.drop (q + 1) = a) : Calls Tryd.prog 36 #[.string b, .int .i64 q] w fun e w' => TextPost q (34 :: a) e ∧ Below w.heap.size w w' := by
  obtain ⟨i0, hi, hz0, hz1, hz2⟩ := info_parts byteInfo
  have hsz := size_of hq hd
  have HD : Hid (b.data.toList.drop (q + 1) = a) := hd
  have own0 : Hid (OwnB w w.heap.size (.slice none 0 0) []) := World.ownsRow_nil _ _ _ _
  have hal : a.length ≤ 1024 := by omega
  clear hd
  go_enter Tryd.func36, Tryd.ntmps36
  go_wp2_with fail
  go_loopg [8, 9, 10] (b.size - (q + 1)) (fun gk y z t wr => ∃ (x r acc : List UInt8) (I : Nat) (bd : Int), t = .int .i64 I ∧ z = .int .i64 bd ∧ gk = b.size - I ∧ I ≤ b.size ∧ Hid (I = q + 1 + x.length) ∧ Hid (a = x ++ r) ∧ Hid (∀ z, Wlx.undbl (x ++ z) = acc ++ Wlx.undbl z) ∧ Hid (Wlx.quo true 1 a = Wlx.quo true (1 + x.length) r) ∧ Hid (bd = Wlx.badV q x) ∧ Hid (OwnB wr w.heap.size y acc) ∧ acc.length ≤ x.length ∧ Below w.heap.size w wr)
  case atStart => exact ⟨[], a, [], q + 1, -1, by simp, rfl, rfl, hq, (rfl : q + 1 = q + 1 + ([] : List UInt8).length), (rfl : a = [] ++ a), (fun z => rfl : ∀ z, Wlx.undbl ([] ++ z) = [] ++ Wlx.undbl z), (rfl : Wlx.quo true 1 a = Wlx.quo true (1 + ([] : List UInt8).length) a), (rfl : (-1 : Int) = Wlx.badV q []), own0, Nat.le_refl _, Below.refl _ _⟩
  case round =>
    obtain ⟨x, r, acc, I, bd, rfl, rfl, hg, hIs, HI, HA, HU, HQ, HB, HO, hac, hb⟩ := hrel
    have sw := hb.size
    have hxl : x.length ≤ 1024 := by have := congrArg List.length HA.out; rw [List.length_append] at this; omega
    have bb1 : bd ≤ 4096 ∧ -1 ≤ bd := by
      rw [HB.out]; unfold Wlx.badV
      have := Wlx.runP_le Wlx.prt x
      split <;> omega
    obtain ⟨bb1, bb2⟩ := bb1
    cases r with
    | nil =>
      have hIe : I = b.size := by have h1 := HI.out; have h2 := congrArg List.length HA.out; rw [List.append_nil] at h2; omega
      have hIi : ¬ (I : Int) < (b.size : Int) := by omega
      have hIj : (b.size : Int) ≤ (I : Int) := by omega
      have HT : Hid (TextPost q (34 :: a) (.returned (.tuple #[.string ⟨#[]⟩, .int .i64 0, .int .i64 41, .int .i64 q]))) := Or.inl ⟨by show Wlx.quo true 1 a = 0; rw [HQ.out]; rfl, rfl⟩
      clear HQ HU HB HA HI HO hIe
      go_wp2
      try simp only [Exit.inBlock, Exit.then]
      refine bodyPost_ret (results_tmp4 rfl _ _ _) rfl ?_
      exact ⟨HT.out, hb⟩
    | cons c r =>
      obtain ⟨hIlt, hbc⟩ := byte_of (HD.out.trans HA.out)
      have hIl : I < b.size := by have h1 := HI.out; omega
      have hIi : (I : Int) < (b.size : Int) := by omega
      have hbI : b[I] = c := by have h1 := HI.out; simp only [h1]; exact hbc
      have eb : (((b[I]).toNat : Nat) : Int) = ((c.toNat : Nat) : Int) := by rw [hbI]
      have own := HO.out
      have cb := byte_bd c
      clear hbc HO hIlt hbI
      by_cases hc : c = 34
      · subst hc
        have e34 : ((((34 : UInt8).toNat : Nat) : Int)) = 34 := rfl
        rw [e34] at eb
        have fin : ∀ y, Hid (a = x ++ 34 :: y) → ¬ y.head? = some 34 → Hid (∀ e, ((Wlx.badV q x < 0 ∧ e = .returned (.tuple #[.string ⟨acc.toArray⟩, .int .i64 ((q + 1 + x.length + 1 : Nat) : Int), .int .i64 0, .int .i64 0])) ∨ (¬ Wlx.badV q x < 0 ∧ e = .returned (.tuple #[.string ⟨#[]⟩, .int .i64 0, .int .i64 40, .int .i64 (Wlx.badV q x)]))) → TextPost q (34 :: a) e) := by
          intro y hy hh e he
          rw [hy.out]
          refine text_end HU.out ?_ he
          rw [← hy.out, HQ.out]
          have hr : r = y := by
            have := HA.out.symm.trans hy.out
            have := List.append_cancel_left this
            exact (List.cons.inj this).2
          rw [hr, Wlx.quo_hit]
          show Wlx.quo false (1 + x.length + 1) y = _
          cases y with
          | nil => show 1 + x.length + 1 = _; omega
          | cons d y' => rw [Wlx.quo_out (fun e => hh (by rw [e]; rfl))]; omega
        by_cases hr34 : r.head? = some 34
        · obtain ⟨r', rfl⟩ : ∃ r', r = 34 :: r' := by
            cases r with
            | nil => cases hr34
            | cons d r' => exact ⟨r', by rw [Option.some.inj hr34]⟩
          have hI1 : I + 1 < b.size := by
            have h1 := HI.out
            have h2 := congrArg List.length HA.out
            simp only [List.length_append, List.length_cons] at h2
            omega
          have hI1i : (I : Int) + 1 < (b.size : Int) := by omega
          have hA1 : b.data.toList.drop (q + 1) = (x ++ [34]) ++ 34 :: r' := by rw [HD.out, HA.out]; simp
          obtain ⟨_, hb1⟩ := byte_of hA1
          have eb1 : (((b[I + 1]).toNat : Nat) : Int) = 34 := by
            have h1 := HI.out
            have : b[I + 1] = 34 := by
              simp only [h1]
              simp only [List.length_append, List.length_cons, List.length_nil] at hb1
              have e1 : q + 1 + (x.length + (0 + 1)) = q + 1 + x.length + 1 := by omega
              simp only [e1] at hb1
              exact hb1
            rw [this]; rfl
          have HI2 : Hid (I + 1 + 1 = q + 1 + (x ++ [34, 34]).length) := by show _ = _; rw [HI.out, List.length_append]; simp; omega
          have HA2 : Hid (a = (x ++ [34, 34]) ++ r') := by show _ = _; rw [HA.out]; simp
          have HU2 : Hid (∀ z, Wlx.undbl ((x ++ [34, 34]) ++ z) = (acc ++ [34]) ++ Wlx.undbl z) := by
            intro z
            rw [List.append_assoc, HU.out]
            show acc ++ Wlx.undbl (34 :: 34 :: z) = _
            rw [Wlx.undbl_two]; simp
          have HQ2 : Hid (Wlx.quo true 1 a = Wlx.quo true (1 + (x ++ [34, 34]).length) r') := by
            show _ = _
            rw [HQ.out, Wlx.quo_hit, Wlx.quo_hit, List.length_append]; rfl
          have HB2 : Hid (bd = Wlx.badV q (x ++ [34, 34])) := by
            show _ = _
            rw [HB.out, show x ++ [34, 34] = (x ++ [34]) ++ [34] by simp, Wlx.badV_good (by decide), Wlx.badV_good (by decide)]
          clear fin hr34 hA1 hb1 HI HA HU HQ HB
          by_cases hbd : bd < 0
          · go_wp2_with (at_builtin; refine wpList_append_own _ rfl _ _ 45 rfl w.heap.size 5 i0 (.int .u8 0) 1 1 Tryd.underlying45 hi hz0 hz1 hz2 rfl (by decide) _ _ _ rfl (own.alloc _) ⟨wr.heap.size, 0, none⟩ 1 1 [.int .u8 34] rfl rfl (cell_one_new _ _ _) (by intro u hu; simp at hu; subst hu; rfl) (by unfold maxLen; omega) (by omega) (by simp; omega) ?_)
            intro v3 w3 hown3 hgrow3 _
            have hb3 := grown_below hb sw own hgrow3
            have HO3 : Hid (OwnB w3 w.heap.size v3 (acc ++ [34])) := ownB_snoc (n := 0) hown3
            clear hown3 hgrow3 own
            go_wp2_with fail
            go_roundg (b.size - (I + 1 + 1))
            case rel => exact ⟨x ++ [34, 34], r', acc ++ [34], I + 1 + 1, bd, by simp, rfl, rfl, by omega, HI2, HA2, HU2, HQ2, HB2, HO3, by rw [List.length_append, List.length_append]; simp only [List.length_cons, List.length_nil]; omega, hb3⟩
            case measure => omega
          · go_wp2_with (at_builtin; refine wpList_append_own _ rfl _ _ 45 rfl w.heap.size 5 i0 (.int .u8 0) 1 1 Tryd.underlying45 hi hz0 hz1 hz2 rfl (by decide) _ _ _ rfl (own.alloc _) ⟨wr.heap.size, 0, none⟩ 1 1 [.int .u8 34] rfl rfl (cell_one_new _ _ _) (by intro u hu; simp at hu; subst hu; rfl) (by unfold maxLen; omega) (by omega) (by simp; omega) ?_)
            intro v3 w3 hown3 hgrow3 _
            have hb3 := grown_below hb sw own hgrow3
            have HO3 : Hid (OwnB w3 w.heap.size v3 (acc ++ [34])) := ownB_snoc (n := 0) hown3
            clear hown3 hgrow3 own
            go_wp2_with fail
            go_roundg (b.size - (I + 1 + 1))
            case rel => exact ⟨x ++ [34, 34], r', acc ++ [34], I + 1 + 1, bd, by simp, rfl, rfl, by omega, HI2, HA2, HU2, HQ2, HB2, HO3, by rw [List.length_append, List.length_append]; simp only [List.length_cons, List.length_nil]; omega, hb3⟩
            case measure => omega
        · have HF := fin r HA hr34
          have hnx : ∀ h : I + 1 < b.size, ¬ b[I + 1] = 34 := by
            intro h h34
            apply hr34
            have h1 := HI.out
            have h2 := congrArg List.length HA.out
            simp only [List.length_append, List.length_cons] at h2
            cases r with
            | nil => simp only [List.length_nil] at h2; omega
            | cons d r' =>
              have hA1 : b.data.toList.drop (q + 1) = (x ++ [34]) ++ d :: r' := by rw [HD.out, HA.out]; simp
              obtain ⟨_, hb1⟩ := byte_of hA1
              simp only [List.length_append, List.length_cons, List.length_nil] at hb1
              have e1 : q + 1 + (x.length + (0 + 1)) = q + 1 + x.length + 1 := by omega
              simp only [e1] at hb1
              simp only [h1] at h34
              rw [← hb1, h34]; rfl
          have hIge : ¬ (b.size : Int) ≤ (I : Int) := by omega
          have hcv := ownB_text own
          have HZ : Hid ((I : Int) + 1 = ((q + 1 + x.length + 1 : Nat) : Int)) := by show _ = _; have := HI.out; omega
          have HBv := HB
          clear fin HA HU HQ hr34
          by_cases hI1 : I + 1 < b.size
          · have hI1i : (I : Int) + 1 < (b.size : Int) := by omega
            have eb1 : ((((b[I + 1]).toNat : Nat) : Int) == 34) = false := by
              refine beq_eq_false_iff_ne.2 (fun e => hnx hI1 ?_)
              have : (b[I + 1]).toNat = 34 := by omega
              exact UInt8.toNat_inj.1 this
            clear hnx
            by_cases hbd : bd < 0
            · have hbd2 : ¬ (0 : Int) ≤ bd := by omega
              go_wp2
              try simp only [Exit.inBlock, Exit.then]
              refine bodyPost_ret (results_tmp4 rfl _ _ _) rfl ?_
              exact ⟨HF.out _ (Or.inl ⟨by rw [← HB.out]; exact hbd, congrArg (fun z => Ending.returned (.tuple #[.string ⟨acc.toArray⟩, .int .i64 z, .int .i64 0, .int .i64 0])) HZ.out⟩), hb⟩
            · have hbd2 : (0 : Int) ≤ bd := by omega
              go_wp2
              try simp only [Exit.inBlock, Exit.then]
              refine bodyPost_ret (results_tmp4 rfl _ _ _) rfl ?_
              exact ⟨HF.out _ (Or.inr ⟨by rw [← HB.out]; exact hbd, by rw [← HB.out]; rfl⟩), hb⟩
          · have hI1i : ¬ (I : Int) + 1 < (b.size : Int) := by omega
            clear hnx
            by_cases hbd : bd < 0
            · have hbd2 : ¬ (0 : Int) ≤ bd := by omega
              go_wp2
              try simp only [Exit.inBlock, Exit.then]
              refine bodyPost_ret (results_tmp4 rfl _ _ _) rfl ?_
              exact ⟨HF.out _ (Or.inl ⟨by rw [← HB.out]; exact hbd, congrArg (fun z => Ending.returned (.tuple #[.string ⟨acc.toArray⟩, .int .i64 z, .int .i64 0, .int .i64 0])) HZ.out⟩), hb⟩
            · have hbd2 : (0 : Int) ≤ bd := by omega
              go_wp2
              try simp only [Exit.inBlock, Exit.then]
              refine bodyPost_ret (results_tmp4 rfl _ _ _) rfl ?_
              exact ⟨HF.out _ (Or.inr ⟨by rw [← HB.out]; exact hbd, by rw [← HB.out]; rfl⟩), hb⟩
      · have hc34 : (((c.toNat : Nat) : Int) == 34) = false := by
          refine beq_eq_false_iff_ne.2 (fun e => hc ?_)
          have : c.toNat = 34 := by omega
          exact UInt8.toNat_inj.1 this
        have HI2 : Hid (I + 1 = q + 1 + (x ++ [c]).length) := by show _ = _; rw [HI.out, List.length_append]; rfl
        have HA2 : Hid (a = (x ++ [c]) ++ r) := by show _ = _; rw [HA.out]; simp
        have HU2 : Hid (∀ z, Wlx.undbl ((x ++ [c]) ++ z) = (acc ++ [c]) ++ Wlx.undbl z) := by
          intro z
          rw [List.append_assoc, HU.out]
          show acc ++ Wlx.undbl (c :: z) = _
          rw [Wlx.undbl_other hc]; simp
        have HQ2 : Hid (Wlx.quo true 1 a = Wlx.quo true (1 + (x ++ [c]).length) r) := by
          show _ = _
          rw [HQ.out, Wlx.quo_in hc, List.length_append]; rfl
        by_cases hbd : bd < 0
        · by_cases hlo : ((c.toNat : Nat) : Int) < 32
          · have HB2 : Hid ((I : Int) = Wlx.badV q (x ++ [c])) := by
              show _ = _
              rw [Wlx.badV_bad (by unfold Wlx.prt; simp; omega) (by rw [← HB.out]; exact hbd), HI.out]
            clear HI HA HU HQ HB hc
            go_wp2_with (at_builtin; refine wpList_append_own _ rfl _ _ 45 rfl w.heap.size 5 i0 (.int .u8 0) 1 1 Tryd.underlying45 hi hz0 hz1 hz2 rfl (by decide) _ _ _ rfl (own.alloc _) ⟨wr.heap.size, 0, none⟩ 1 1 [.int .u8 ((c.toNat : Nat) : Int)] rfl rfl (cell_one_new _ _ _) (by intro u hu; simp at hu; subst hu; rfl) (by unfold maxLen; omega) (by omega) (by simp; omega) ?_)
            intro v3 w3 hown3 hgrow3 _
            have hb3 := grown_below hb sw own hgrow3
            have HO3 : Hid (OwnB w3 w.heap.size v3 (acc ++ [c])) := ownB_snoc (n := 0) hown3
            clear hown3 hgrow3 own
            go_wp2_with fail
            go_roundg (b.size - (I + 1))
            case rel => exact ⟨x ++ [c], r, acc ++ [c], I + 1, (I : Int), by simp, rfl, rfl, by omega, HI2, HA2, HU2, HQ2, HB2, HO3, by rw [List.length_append, List.length_append]; simp only [List.length_cons, List.length_nil]; omega, hb3⟩
            case measure => omega
          · by_cases hhi : (126 : Int) < ((c.toNat : Nat) : Int)
            · have HB2 : Hid ((I : Int) = Wlx.badV q (x ++ [c])) := by
                show _ = _
                rw [Wlx.badV_bad (by unfold Wlx.prt; simp; omega) (by rw [← HB.out]; exact hbd), HI.out]
              clear HI HA HU HQ HB hc
              go_wp2_with (at_builtin; refine wpList_append_own _ rfl _ _ 45 rfl w.heap.size 5 i0 (.int .u8 0) 1 1 Tryd.underlying45 hi hz0 hz1 hz2 rfl (by decide) _ _ _ rfl (own.alloc _) ⟨wr.heap.size, 0, none⟩ 1 1 [.int .u8 ((c.toNat : Nat) : Int)] rfl rfl (cell_one_new _ _ _) (by intro u hu; simp at hu; subst hu; rfl) (by unfold maxLen; omega) (by omega) (by simp; omega) ?_)
              intro v3 w3 hown3 hgrow3 _
              have hb3 := grown_below hb sw own hgrow3
              have HO3 : Hid (OwnB w3 w.heap.size v3 (acc ++ [c])) := ownB_snoc (n := 0) hown3
              clear hown3 hgrow3 own
              go_wp2_with fail
              go_roundg (b.size - (I + 1))
              case rel => exact ⟨x ++ [c], r, acc ++ [c], I + 1, (I : Int), by simp, rfl, rfl, by omega, HI2, HA2, HU2, HQ2, HB2, HO3, by rw [List.length_append, List.length_append]; simp only [List.length_cons, List.length_nil]; omega, hb3⟩
              case measure => omega
            · have HB2 : Hid (bd = Wlx.badV q (x ++ [c])) := by
                show _ = _
                rw [Wlx.badV_good (by unfold Wlx.prt; simp; omega), HB.out]
              clear HI HA HU HQ HB hc
              go_wp2_with (at_builtin; refine wpList_append_own _ rfl _ _ 45 rfl w.heap.size 5 i0 (.int .u8 0) 1 1 Tryd.underlying45 hi hz0 hz1 hz2 rfl (by decide) _ _ _ rfl (own.alloc _) ⟨wr.heap.size, 0, none⟩ 1 1 [.int .u8 ((c.toNat : Nat) : Int)] rfl rfl (cell_one_new _ _ _) (by intro u hu; simp at hu; subst hu; rfl) (by unfold maxLen; omega) (by omega) (by simp; omega) ?_)
              intro v3 w3 hown3 hgrow3 _
              have hb3 := grown_below hb sw own hgrow3
              have HO3 : Hid (OwnB w3 w.heap.size v3 (acc ++ [c])) := ownB_snoc (n := 0) hown3
              clear hown3 hgrow3 own
              go_wp2_with fail
              go_roundg (b.size - (I + 1))
              case rel => exact ⟨x ++ [c], r, acc ++ [c], I + 1, bd, by simp, rfl, rfl, by omega, HI2, HA2, HU2, HQ2, HB2, HO3, by rw [List.length_append, List.length_append]; simp only [List.length_cons, List.length_nil]; omega, hb3⟩
              case measure => omega
        · have HB2 : Hid (bd = Wlx.badV q (x ++ [c])) := by
            show _ = _
            rw [Wlx.badV_old (by rw [← HB.out]; exact hbd), HB.out]
          clear HI HA HU HQ HB hc
          go_wp2_with (at_builtin; refine wpList_append_own _ rfl _ _ 45 rfl w.heap.size 5 i0 (.int .u8 0) 1 1 Tryd.underlying45 hi hz0 hz1 hz2 rfl (by decide) _ _ _ rfl (own.alloc _) ⟨wr.heap.size, 0, none⟩ 1 1 [.int .u8 ((c.toNat : Nat) : Int)] rfl rfl (cell_one_new _ _ _) (by intro u hu; simp at hu; subst hu; rfl) (by unfold maxLen; omega) (by omega) (by simp; omega) ?_)
          intro v3 w3 hown3 hgrow3 _
          have hb3 := grown_below hb sw own hgrow3
          have HO3 : Hid (OwnB w3 w.heap.size v3 (acc ++ [c])) := ownB_snoc (n := 0) hown3
          clear hown3 hgrow3 own
          go_wp2_with fail
          go_roundg (b.size - (I + 1))
          case rel => exact ⟨x ++ [c], r, acc ++ [c], I + 1, bd, by simp, rfl, rfl, by omega, HI2, HA2, HU2, HQ2, HB2, HO3, by rw [List.length_append, List.length_append]; simp only [List.length_cons, List.length_nil]; omega, hb3⟩
          case measure => omega
end Go.Proofs.YtjkohkhngeioiaaDoor
