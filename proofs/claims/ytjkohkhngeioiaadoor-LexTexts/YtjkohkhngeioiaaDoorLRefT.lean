/- The reference's Text. -/
import Derived.Test.YtjkohkhngeioiaaDoorLBytes
import Derived.Test.YtjkohkhngeioiaaDoorLTextB
namespace Go.Proofs.YtjkohkhngeioiaaDoor
open Go.Shelf Go.RowKit
set_option linter.unusedVariables false

theorem ownB_app {w : World} {B : Nat} {v : Value} {l : List UInt8} {s : ByteArray} (h : w.ownsRow B 5 1 v (l.length + s.size) (Lib.byteCells l ++ Lib.strCells s)) : OwnB w B v (l ++ s.data.toList) := by
  show w.ownsRow B 5 1 v (l ++ s.data.toList).length (Lib.byteCells (l ++ s.data.toList))
  rw [List.length_append, Lib.byteCells_append]
  exact h

set_option maxRecDepth 100000 in
set_option maxHeartbeats 1600000 in
theorem rtext_any (v : Value) (ts : List Wlx.TV) (w : World) (hr : ReadV w v ts) (hw : Wlx.wgt ts ≤ 1048576) : Calls Tryd.prog 15 #[v] w fun e w' => e = .returned (.string ⟨(Wlx.textV ts).toArray⟩) ∧ Below w.heap.size w w' := by
  obtain ⟨av, cap, rfl, hr⟩ := hr
  have hlen : ts.length ≤ 1048576 := by
    have : ts.length ≤ Wlx.wgt ts := by
      clear hr hw
      induction ts with
      | nil => exact Nat.zero_le _
      | cons t r ih => rw [Wlx.wgt_cons]; simp only [List.length_cons]; omega
    omega
  have hjl := Wlx.joinF_length ts true
  have HT : Hid (∀ i (h : i < ts.length), (ts[i]).t.length ≤ 1048576) := fun i h => by have := Wlx.wgt_mem ts i h; omega
  have HC : Hid (∀ i (h : i < ts.length), ∃ bb off, av = some ⟨bb, off, none⟩ ∧ bb < w.heap.size ∧
    w.cell? ⟨bb, off + i * 3, none⟩ = some (.int .i64 (ts[i]).k) ∧ w.cell? ⟨bb, off + i * 3 + 1, none⟩ = some (.string ⟨(ts[i]).t.toArray⟩) ∧ w.cell? ⟨bb, off + i * 3 + 2, none⟩ = some (.int .i64 (ts[i]).p)) := hr
  obtain ⟨R, hR⟩ : ∃ R, Wlx.textV ts = R := ⟨_, rfl⟩
  have E0 : Hid (R = [] ++ Wlx.joinF true (ts.drop 0)) := hR.symm
  have hRl : R.length ≤ 3145728 := by rw [← hR]; unfold Wlx.textV; omega
  rw [hR]
  obtain ⟨i0, hi, hz0, hz1, hz2⟩ := info_parts byteInfo
  have own0 : Hid (OwnB w w.heap.size (.slice none 0 0) []) := World.ownsRow_nil _ _ _ _
  clear hr hjl hR hw
  go_enter Tryd.func15, Tryd.ntmps15
  go_wp2_with fail
  go_loopg [3, 4] (ts.length) (fun gk y x wr => ∃ (i : Nat) (acc : List UInt8), x = .int .i64 i ∧ gk = ts.length - i ∧ i ≤ ts.length ∧ Hid (R = acc ++ Wlx.joinF (decide (i = 0)) (ts.drop i)) ∧ Hid (OwnB wr w.heap.size y acc) ∧ Below w.heap.size w wr)
  case atStart => exact ⟨0, [], rfl, rfl, Nat.zero_le _, E0, own0, Below.refl _ _⟩
  case round =>
    obtain ⟨i, acc, rfl, hg, hi1, HR, HO, hb⟩ := hrel
    have sw := hb.size
    have hal : acc.length ≤ 3145728 := by
      have h1 := congrArg List.length HR.out
      rw [List.length_append] at h1
      omega
    by_cases hlt : i < ts.length
    · have hli : (i : Int) < (ts.length : Int) := by omega
      obtain ⟨bb, off, rfl, hbb, c0, c1, c2⟩ := HC.out i hlt
      have htl := HT.out i hlt
      have hd : ts.drop i = ts[i] :: ts.drop (i + 1) := List.drop_eq_getElem_cons hlt
      obtain ⟨x, hx⟩ : ∃ x, ts[i] = x := ⟨_, rfl⟩
      rw [hx] at c0 c1 htl hd
      have hml : (Wlx.wv x).length ≤ 2097154 := by have h2 := Wlx.wv_length x; omega
      obtain ⟨pre, hpre⟩ : ∃ pre : List UInt8, (if i = 0 then [] else [32]) = pre := ⟨_, rfl⟩
      have hpl : pre.length ≤ 1 := by rw [← hpre]; split <;> simp
      have E : Hid (R = acc ++ pre ++ Wlx.wv x ++ Wlx.joinF (decide (i + 1 = 0)) (ts.drop (i + 1))) := by
        show _ = _
        rw [HR.out, hd, decide_eq_false (show ¬ i + 1 = 0 by omega), ← hpre]
        show acc ++ ((if decide (i = 0) = true then [] else [32]) ++ Wlx.wv x ++ Wlx.joinF false (ts.drop (i + 1))) = _
        by_cases h : i = 0
        · rw [if_pos (decide_eq_true h), if_pos h]; simp
        · rw [if_neg (by simpa using h), if_neg h]; simp
      have HP : Hid ((if i = 0 then [] else [32]) = pre) := hpre
      obtain ⟨k, s, p⟩ := x
      clear HR hx hd hpre c2
      simp only at c0 c1 htl
      go_upto_if 13 with fail
      go_cut [3] (fun y wx => Hid (OwnB wx w.heap.size y (acc ++ pre)) ∧ Below w.heap.size w wx)
      case first =>
        by_cases h0 : i = 0
        · have hii : ¬ (0 : Int) < (i : Int) := by omega
          have ep := HP.out
          rw [if_pos h0] at ep
          subst ep
          have HO2 : Hid (OwnB wr w.heap.size u3 (acc ++ [])) := by show OwnB _ _ _ _; rw [List.append_nil]; exact HO.out
          clear HP HO h0
          go_wp2_with fail
          go_meet
          case rel => exact ⟨HO2, hb⟩
        · have hii : (0 : Int) < (i : Int) := by omega
          have ep := HP.out
          rw [if_neg h0] at ep
          subst ep
          have own := HO.out
          clear HP HO h0
          go_wp2_with (at_builtin; refine wpList_append_own _ rfl _ _ 45 rfl w.heap.size 5 i0 (.int .u8 0) 1 1 Tryd.underlying45 hi hz0 hz1 hz2 rfl (by decide) _ _ _ rfl (own.alloc _) ⟨wr.heap.size, 0, none⟩ 1 1 [.int .u8 32] rfl rfl (cell_one_new _ _ _) (by intro u hu; simp at hu; subst hu; rfl) (by unfold maxLen; omega) (by omega) (by simp; omega) ?_)
          intro v3 w3 hown3 hgrow3 _
          have hb3 := grown_below hb sw own hgrow3
          have HO3 : Hid (OwnB w3 w.heap.size v3 (acc ++ [32])) := ownB_snoc (n := 0) hown3
          clear hown3 hgrow3 own
          go_wp2_with fail
          go_meet
          case rel => exact ⟨HO3, hb3⟩
      case rest =>
        clear HO hb sw HP
        obtain ⟨HO, hb⟩ := hcut
        have sw := hb.size
        have hbl : (acc ++ pre).length ≤ 3145729 := by rw [List.length_append]; omega
        generalize acc ++ pre = ac2 at *
        have c0 := (hb.cell (p := ⟨bb, off + i * 3, none⟩) hbb).trans c0
        have c1 := (hb.cell (p := ⟨bb, off + i * 3 + 1, none⟩) hbb).trans c1
        go_upto_if 27 with fail
        go_cut [5] (fun x wx => x = .string ⟨(Wlx.wv ⟨k, s, p⟩).toArray⟩ ∧ Hid (OwnB wx w.heap.size u3 ac2) ∧ Below w.heap.size w wx)
        case first =>
          by_cases hk : k = 2
          · subst hk
            have HW : Hid (Wlx.wv ⟨2, s, p⟩ = 34 :: (Wlx.dbl s ++ [34])) := by show _ = _; unfold Wlx.wv; exact if_pos rfl
            have Q := quote_any ⟨s.toArray⟩ wc (by show s.length ≤ _; exact htl)
            have e0 : (⟨s.toArray⟩ : ByteArray).data.toList = s := rfl
            rw [e0, ← HW.out] at Q
            generalize Wlx.wv ⟨2, s, p⟩ = wv1 at *
            clear HW e0
            go_wp2_with fail
            refine Q.mono ?_
            rintro e w3 ⟨rfl, hb3⟩
            have HO3 : Hid (OwnB w3 w.heap.size u3 ac2) := ownB_below HO.out hb3
            go_wp2_with fail
            go_meet
            case rel => exact ⟨rfl, HO3, hb.trans (hb3.mono sw)⟩
          · have hki : (k == 2) = false := beq_eq_false_iff_ne.2 hk
            have HW : Hid (Wlx.wv ⟨k, s, p⟩ = s) := by show _ = _; unfold Wlx.wv; exact if_neg hk
            clear hk
            go_wp2_with fail
            go_meet
            case rel => exact ⟨by rw [HW.out], HO, hb⟩
        case rest =>
          clear HO hb sw c0 c1
          obtain ⟨rfl, HO, hb⟩ := hcut
          have sw := hb.size
          have own := HO.out
          clear HO
          obtain ⟨S, hS⟩ : ∃ S : ByteArray, ⟨(Wlx.wv ⟨k, s, p⟩).toArray⟩ = S := ⟨_, rfl⟩
          have hSl : S.size ≤ 2097154 := by rw [← hS]; exact hml
          have HS : Hid (Wlx.wv ⟨k, s, p⟩ = S.data.toList) := by show _ = _; rw [← hS]
          rw [hS]
          clear hS hml
          go_wp2_with (at_builtin; refine Lib.wpList_append_own_string _ rfl _ _ 45 9 rfl w.heap.size 5 i0 Tryd.underlying45 Tryd.underlying9 hi hz0 hz1 hz2 _ _ _ rfl own S rfl (by unfold maxLen; omega) (by omega) sw ?_)
          intro v3 w3 hown3 hgrow3 _
          have hb3 : Below w.heap.size w w3 := hb.grown hgrow3 sw (fun k hk => (own.lt k hk).1)
          have HO3 : Hid (OwnB w3 w.heap.size v3 (ac2 ++ S.data.toList)) := ownB_app hown3
          clear hown3 hgrow3 own
          go_wp2_with fail
          go_roundg (ts.length - (i + 1))
          case rel => exact ⟨i + 1, ac2 ++ S.data.toList, by simp, rfl, hlt, by rw [← HS.out]; exact E, HO3, hb3⟩
          case measure => omega
    · have hli : ¬ (i : Int) < (ts.length : Int) := by omega
      have E : Hid (R = acc) := by
        show _ = _; rw [HR.out, List.drop_eq_nil_of_le (by omega)]; unfold Wlx.joinF; rw [List.append_nil]
      have hcv := ownB_text HO.out
      clear HR HO
      go_wp2
      go_ret
      exact ⟨by rw [E.out]; rfl, hb⟩
end Go.Proofs.YtjkohkhngeioiaaDoor
