/- The reference's Scan. -/
import Derived.Test.YtjkohkhngeioiaaDoorLRefH
import Derived.Test.YtjkohkhngeioiaaDoorLScanB
namespace Go.Proofs.YtjkohkhngeioiaaDoor
open Go.Shelf Go.RowKit
set_option linter.unusedVariables false

theorem one_any (b : ByteArray) (q : Nat) (c : UInt8) (t : List UInt8) (w : World) (hs : b.size ≤ 1024) (hq : q < b.size) (hd : b.data.toList.drop q = c :: t) (h32 : ¬ c = 32) : Calls Tryd.prog 23 #[.string b, .int .i64 q] w fun e w' => OnePost q (c :: t) e ∧ Below w.heap.size w w' := by
  cases hdg : Wlx.dig c with
  | true => exact one_num b q c t w hs hq hd hdg
  | false =>
    by_cases h34 : c = 34
    · subst h34; exact one_text b q t w hs hq hd
    · cases hw : Wlx.wrd c with
      | true => exact one_word b q c t w hs hq hd hw hdg
      | false =>
        by_cases h35 : c = 35
        · subst h35; exact one_fault b q t w hs hq hd
        · exact one_mark b q c t w hs hq hd hw h34 h35 h32

set_option maxRecDepth 100000 in
set_option maxHeartbeats 3200000 in
theorem rscan_any (b : ByteArray) (w : World) (hs : b.size ≤ 9223372036854775807) : Calls Tryd.prog 10 #[.string b] w fun e w' => ScanPost w.heap.size (scanAll b.data.toList) e w' ∧ Below w.heap.size w w' := by
  by_cases hL : 1024 < b.size
  · have E : Hid (scanAll b.data.toList = Wlx.Res.err 2 0) := by
      show _ = _; unfold scanAll; rw [if_pos (by exact hL)]
    have hLi : (1024 : Int) < (b.size : Int) := by omega
    go_enter Tryd.func10, Tryd.ntmps10
    go_wp2
    go_ret3
    refine ⟨?_, Below.refl _ _⟩
    rw [E.out]
    rfl
  · have E0 : Hid (scanAll b.data.toList = Wlx.scan 0 (b.data.toList.drop 0)) := by
      show _ = _; unfold scanAll; rw [if_neg (by exact hL)]; rfl
    have hLi : ¬ (1024 : Int) < (b.size : Int) := by omega
    have hL2 : b.size ≤ 1024 := by omega
    obtain ⟨R, hR⟩ : ∃ R, scanAll b.data.toList = R := ⟨_, rfl⟩
    rw [hR] at E0 ⊢
    clear hR
    obtain ⟨i0, hi, hz0, hz1, hz2⟩ := info_parts tokInfo
    have HO0 : Hid (OwnT w w.heap.size (.slice none 0 0) []) := World.ownsRow_nil _ _ _ _
    go_enter Tryd.func10, Tryd.ntmps10
    go_wp2_with fail
    go_loopg [5, 6] (b.size) (fun gk x y wr => ∃ (pos : Nat) (acc : List Wlx.Tok), y = .int .i64 pos ∧ gk = b.size - pos ∧ pos ≤ b.size ∧ Hid (R = Wlx.Res.pre acc (Wlx.scan pos (b.data.toList.drop pos))) ∧ Hid (OwnT wr w.heap.size x acc) ∧ acc.length ≤ pos ∧ Below w.heap.size w wr)
    case atStart => exact ⟨0, [], rfl, rfl, Nat.zero_le _, E0, HO0, Nat.le_refl _, Below.refl _ _⟩
    case round =>
      clear HO0 E0
      obtain ⟨q, acc, rfl, hg, hq, HR, HO, hac, hb⟩ := hrel
      have sw := hb.size
      by_cases hlt : q < b.size
      · have hli : (q : Int) < (b.size : Int) := by omega
        have hd := drop_at b q hlt
        obtain ⟨c, hc⟩ : ∃ c, b[q] = c := ⟨_, rfl⟩
        obtain ⟨t, ht⟩ : ∃ t, b.data.toList.drop (q + 1) = t := ⟨_, rfl⟩
        rw [hc, ht] at hd
        have eb : (((b[q]).toNat : Nat) : Int) = ((c.toNat : Nat) : Int) := by rw [hc]
        have hsz := size_of hq hd
        simp only [List.length_cons] at hsz
        by_cases h32 : c = 32
        · have E : Hid (R = Wlx.Res.pre acc (Wlx.scan (q + 1) (b.data.toList.drop (q + 1)))) := by
            show _ = _; rw [HR.out, hd, h32, Wlx.scan_blank, ht]
          have e32 : (((c.toNat : Nat) : Int) == 32) = true := by rw [h32]; rfl
          clear HR hd hc ht h32
          go_wp2_with fail
          go_roundg (b.size - (q + 1))
          case rel => exact ⟨q + 1, acc, by simp, rfl, hlt, E, HO, by omega, hb⟩
          case measure => omega
        · have e32 : (((c.toNat : Nat) : Int) == 32) = false := by
            refine beq_eq_false_iff_ne.2 (fun e => h32 ?_)
            have : c.toNat = 32 := by omega
            exact UInt8.toNat_inj.1 this
          have ON := fun w => one_any b q c t w hL2 hlt hd h32
          have Hd : Hid (b.data.toList.drop q = c :: t) := hd
          have H32 : Hid (¬ c = 32) := h32
          clear hd hc ht h32
          go_wp2_with fail
          refine (ON _).mono ?_
          rintro e w1 ⟨hp, hb1⟩
          have hB1 : Below w.heap.size w w1 := hb.trans (hb1.mono sw)
          have own1 : OwnT w1 w.heap.size u5 acc := own_below HO.out hb1
          clear HO ON hb1
          rcases hp with ⟨h6, k0, s0, rfl⟩ | ⟨h6, hbad, k0, s0, rfl⟩ | ⟨h6, hbad, rfl⟩
          · have E : Hid (R = Wlx.Res.err (if (c :: t).head? = some 34 then 41 else 40) q) := by
              show _ = _
              rw [HR.out, Hd.out, Wlx.scan_none H32.out h6, Wlx.Res.pre_err]
              simp only [List.head?_cons, Option.some.injEq]
            have hcn : (((if (c :: t).head? = some 34 then 41 else 40 : Nat) : Int) != 0) = true := by split <;> rfl
            generalize (if (c :: t).head? = some 34 then 41 else 40 : Nat) = er at *
            clear HR h6 own1 Hd H32
            go_wp2
            go_ret3
            refine ⟨by rw [E.out]; rfl, hB1.alloc hB1.size _⟩
          · have E : Hid (R = Wlx.Res.err 40 (q + Wlx.runP Wlx.prt ((c :: t).take (Wlx.sz (Wlx.hit (c :: t)) (c :: t))))) := by
              show _ = _
              rw [HR.out, Hd.out, Wlx.scan_bad H32.out rfl h6 rfl hbad, Wlx.Res.pre_err]
            generalize q + Wlx.runP Wlx.prt ((c :: t).take (Wlx.sz (Wlx.hit (c :: t)) (c :: t))) = er at *
            clear HR h6 own1 Hd H32 hbad
            go_wp2
            go_ret3
            refine ⟨by rw [E.out]; rfl, hB1.alloc hB1.size _⟩
          · obtain ⟨k, hk⟩ : ∃ k, Wlx.hit (c :: t) = k := ⟨_, rfl⟩
            obtain ⟨n, hn⟩ : ∃ n, Wlx.sz k (c :: t) = n := ⟨_, rfl⟩
            rw [hk] at h6 hbad ⊢
            rw [hn] at hbad ⊢
            obtain ⟨tx, htx⟩ : ∃ tx, Wlx.said k ((c :: t).take n) = tx := ⟨_, rfl⟩
            rw [htx]
            have hnp : 0 < n := by rw [← hn, ← hk]; exact Wlx.hit_pos (by rw [hk]; exact h6)
            have hnl : n ≤ t.length + 1 := by rw [← hn]; exact Wlx.sz_le _ _
            have E : Hid (R = Wlx.Res.pre (acc ++ [⟨k, tx, q⟩]) (Wlx.scan (q + n) (b.data.toList.drop (q + n)))) := by
              show _ = _
              rw [HR.out, Hd.out, Wlx.scan_tok H32.out hk h6 hn hbad, Wlx.Res.pre_snoc, htx, ← Hd.out, List.drop_drop]
            clear HR h6 Hd H32 hbad hk hn htx
            have s1 := hB1.size
            go_wp2_with (at_builtin; refine wpList_append_own _ rfl _ _ 22 rfl w.heap.size 31 i0 (.agg #[.int .i64 0, .string ⟨#[]⟩, .int .i64 0]) 3 32 Tryd.underlying22 hi hz0 hz1 hz2 rfl (by decide) _ _ _ rfl ((own1.alloc _).alloc _) ⟨w1.heap.size + 1, 0, none⟩ 1 1 [.int .i64 k, .string ⟨tx.toArray⟩, .int .i64 q] rfl rfl ?c1 ?c2 (by unfold maxLen; omega) (by omega) (by simp; omega) ?_)
            case c1 =>
              have := cell_three_new (w1.alloc (.cells #[.int .i64 k, .string ⟨tx.toArray⟩, .int .i64 q] 31)) (.int .i64 k) (.string ⟨tx.toArray⟩) (.int .i64 q) 31
              simpa using this
            case c2 => intro u hu; simp at hu; rcases hu with rfl | rfl | rfl <;> rfl
            intro v2 w5 hown2 hgrow _
            have hb5 : Below w.heap.size w w5 := ((hB1.alloc hB1.size _).alloc (by simp; omega) _).grown hgrow (by simp; omega) (fun k hk => (own1.lt k hk).1)
            have HO5 : Hid (OwnT w5 w.heap.size v2 (acc ++ [⟨k, tx, q⟩])) := by
              show w5.ownsRow _ _ 3 v2 (acc ++ [_]).length (rowT (acc ++ [_]))
              rw [List.length_append, rowT_snoc]
              exact hown2
            clear hown2 hgrow own1
            go_wp2_with fail
            go_roundg (b.size - (q + n))
            case rel => exact ⟨q + n, acc ++ [⟨k, tx, q⟩], by simp, rfl, by omega, E, HO5, by simp; omega, hb5⟩
            case measure => omega
      · have hli : ¬ (q : Int) < (b.size : Int) := by omega
        have E : Hid (R = Wlx.Res.ok acc) := by
          show _ = _
          rw [HR.out, drop_end b q hlt, Wlx.scan_nil, Wlx.Res.pre_ok, List.append_nil]
        clear HR
        go_wp2
        go_ret3
        refine ⟨?_, hb⟩
        rw [E.out]
        exact ⟨_, rfl, HO.out⟩
end Go.Proofs.YtjkohkhngeioiaaDoor
