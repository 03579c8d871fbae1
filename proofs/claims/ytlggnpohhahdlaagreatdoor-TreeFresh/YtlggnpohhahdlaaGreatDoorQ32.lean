/- LTextB, TLitT, TCelT, TTight, TWrB. -/
import Derived.Test.YtlggnpohhahdlaaGreatDoorQ31
namespace Wlx
theorem wgt_cons (t : TV) (r : List TV) : wgt (t :: r) = t.t.length + 1 + wgt r := by simp [wgt]
theorem wgt_mem : ∀ (ts : List TV) (i : Nat) (h : i < ts.length), (ts[i]).t.length + 1 ≤ wgt ts
  | [], i, h => by simp at h
  | t :: r, 0, _ => by rw [wgt_cons]; show t.t.length + 1 ≤ _; omega
  | t :: r, i + 1, h => by
    have h2 : i < r.length := by simpa using h
    have := wgt_mem r i h2
    rw [wgt_cons, List.getElem_cons_succ]; omega
theorem wv_length (t : TV) : (wv t).length ≤ 2 * t.t.length + 2 := by
  unfold wv
  split
  · have := dbl_length t.t; simp; omega
  · omega
theorem joinF_length (ts : List TV) : ∀ f, (joinF f ts).length ≤ 3 * wgt ts := by
  induction ts with
  | nil => intro f; exact Nat.zero_le _
  | cons t r ih =>
    intro f
    have h1 := ih false
    have h2 := wv_length t
    have h3 : (if f then ([] : List UInt8) else [32]).length ≤ 1 := by cases f <;> simp
    rw [wgt_cons]
    show ((if f then ([] : List UInt8) else [32]) ++ wv t ++ joinF false r).length ≤ _
    rw [List.length_append, List.length_append]
    omega
end Wlx
namespace Go.Proofs.YtlggnpohhahdlaaGreatDoor
open Go.Shelf Go.RowKit
set_option linter.unusedVariables false
theorem new_heap (w : World) (o : Obj) : (w.alloc o).heap[w.heap.size]? = some o := by
  show (w.heap.push o)[w.heap.size]? = _
  simp
set_option maxHeartbeats 1600000 in
theorem x4_text_any (v : Value) (ts : List Wlx.TV) (w : World) (hr : ReadV w v ts) (hm : MaxAt w) (hw : Wlx.wgt ts ≤ 1048576) : Calls Tryz.prog 127 #[v] w fun e w' => e = .returned (.string ⟨(Wlx.textV ts).toArray⟩) ∧ Below w.heap.size w w' := by
  obtain ⟨av, cap, rfl, hr⟩ := hr
  have hlen : ts.length ≤ 1048576 := by
    have : ts.length ≤ Wlx.wgt ts := by
      clear hr hw
      induction ts with
      | nil => exact Nat.zero_le _
      | cons t r ih => rw [Wlx.wgt_cons]; simp only [List.length_cons]; omega
    omega
  have hjl := Wlx.joinF_length ts true
  have HT : Hid (∀ i (h : i < ts.length), (ts[i]).t.length ≤ 1048576) := fun i h => by have := Wlx.wgt_mem ts i h; omega
  have HC : Hid (∀ i (h : i < ts.length), ∃ bb off, av = some ⟨bb, off, none⟩ ∧ bb < w.heap.size ∧
    w.cell? ⟨bb, off + i * 3, none⟩ = some (.int .i64 (ts[i]).k) ∧ w.cell? ⟨bb, off + i * 3 + 1, none⟩ = some (.string ⟨(ts[i]).t.toArray⟩) ∧ w.cell? ⟨bb, off + i * 3 + 2, none⟩ = some (.int .i64 (ts[i]).p)) := hr
  obtain ⟨R, hR⟩ : ∃ R, Wlx.textV ts = R := ⟨_, rfl⟩
  have E0 : Hid (R = [] ++ Wlx.joinF true (ts.drop 0)) := hR.symm
  have hRl : R.length ≤ 3145728 := by rw [← hR]; unfold Wlx.textV; omega
  rw [hR]
  clear hr hjl hR hw
  go_enter Tryz.func127, Tryz.ntmps127
  go_wp2_with fail
  go_loopg [8] (ts.length) (fun gk x wr => ∃ (i : Nat) (acc : List UInt8), x = .int .i64 i ∧ gk = ts.length - i ∧ i ≤ ts.length ∧ Hid (R = acc ++ Wlx.joinF (decide (i = 0)) (ts.drop i)) ∧ Hid (Lib.IsBuilderF 65 5 w.heap.size w.heap.size (Lib.byteCells acc) wr) ∧ Below w.heap.size w wr)
  case atStart => exact ⟨0, [], rfl, rfl, Nat.zero_le _, E0, Lib.IsBuilderF.of (Lib.fresh_isBuilder 65 5 w), (Below.refl _ w).alloc (Nat.le_refl _) _⟩
  case round =>
    obtain ⟨i, acc, rfl, hg, hi, HR, HB, hb⟩ := hrel
    have sw := hb.size
    by_cases hlt : i < ts.length
    · have hli : (i : Int) < (ts.length : Int) := by omega
      obtain ⟨bb, off, rfl, hbb, c0, c1, c2⟩ := HC.out i hlt
      have htl := HT.out i hlt
      have hd : ts.drop i = ts[i] :: ts.drop (i + 1) := List.drop_eq_getElem_cons hlt
      obtain ⟨x, hx⟩ : ∃ x, ts[i] = x := ⟨_, rfl⟩
      rw [hx] at c0 c1 c2 htl hd
      have c0 := (hb.cell (p := ⟨bb, off + i * 3, none⟩) hbb).trans c0
      have c1 := (hb.cell (p := ⟨bb, off + i * 3 + 1, none⟩) hbb).trans c1
      have c2 := (hb.cell (p := ⟨bb, off + i * 3 + 2, none⟩) hbb).trans c2
      have hbw : bb < wr.heap.size := by omega
      have hne : ¬ wr.heap.size = w.heap.size := by
        obtain ⟨_, _, h2, _⟩ | ⟨_, _, h2, _⟩ := HB.out <;> have := (Array.getElem?_eq_some_iff.1 h2).1 <;> omega
      have hml : acc.length + (Wlx.wv x).length + 1 ≤ 9437184 := by
        have h1 := congrArg List.length HR.out
        have h2 := Wlx.wv_length x
        rw [List.length_append] at h1
        omega
      have E : Hid (R = acc ++ (if i = 0 then [] else [32]) ++ Wlx.wv x ++ Wlx.joinF (decide (i + 1 = 0)) (ts.drop (i + 1))) := by
        show _ = _
        rw [HR.out, hd, decide_eq_false (show ¬ i + 1 = 0 by omega)]
        show acc ++ ((if decide (i = 0) = true then [] else [32]) ++ Wlx.wv x ++ Wlx.joinF false (ts.drop (i + 1))) = _
        by_cases h : i = 0
        · rw [if_pos (decide_eq_true h), if_pos h]; simp
        · rw [if_neg (by simpa using h), if_neg h]; simp
      have hmr : MaxAt wr := MaxAt.below hm hb
      obtain ⟨k, s, p⟩ := x
      clear HR hx hd
      by_cases h0 : i = 0
      · have E2 : Hid (R = acc ++ Wlx.wv ⟨k, s, p⟩ ++ Wlx.joinF (decide (i + 1 = 0)) (ts.drop (i + 1))) := by show _ = _; rw [E.out, if_pos h0, List.append_nil]
        have hii : ¬ (0 : Int) < (i : Int) := by omega
        clear E h0
        go_wp2_with fail
        refine (written_any k p s _ (MaxAt.below hmr ((Below.refl _ wr).alloc (Nat.le_refl _) _)) htl).mono ?_
        rintro e w1 ⟨rfl, hb1⟩
        have hb01 : Below wr.heap.size wr w1 := ((Below.refl _ wr).alloc (Nat.le_refl _) _).trans (hb1.mono (by simp))
        have HB1 : Hid (Lib.IsBuilderF 65 5 w.heap.size w.heap.size (Lib.byteCells acc) w1) := isF_below HB.out hb01
        clear hb1
        go_wp2_with fail
        refine (wstrk _ _ acc _ _ HB1.out (by show acc.length + (Wlx.wv ⟨k, s, p⟩).length ≤ _; omega) (by have := hb01.size; omega)).mono ?_
        rintro e w2 ⟨rfl, hB2, hb2, _⟩
        have HB2 : Hid (Lib.IsBuilderF 65 5 w.heap.size w.heap.size (Lib.byteCells (acc ++ Wlx.wv ⟨k, s, p⟩)) w2) := hB2
        clear hB2
        go_wp2_with fail
        go_roundg (ts.length - (i + 1))
        case rel => exact ⟨i + 1, acc ++ Wlx.wv ⟨k, s, p⟩, by simp, rfl, hlt, E2, HB2, hb.trans ((hb01.mono sw).trans hb2)⟩
        case measure => omega
      · have E2 : Hid (R = acc ++ [32] ++ Wlx.wv ⟨k, s, p⟩ ++ Wlx.joinF (decide (i + 1 = 0)) (ts.drop (i + 1))) := by show _ = _; rw [E.out, if_neg h0]
        have hii : (0 : Int) < (i : Int) := by omega
        clear E h0
        go_wp2_with fail
        refine (wstrk _ _ acc ⟨#[32]⟩ _ (isF_below HB.out ((Below.refl _ wr).alloc (Nat.le_refl _) _)) (by show acc.length + 1 ≤ _; omega) (by simp; omega)).mono ?_
        rintro e w1 ⟨rfl, hB1, hb1, ho1⟩
        have hk1 := ho1 _ _ (new_heap wr (.cells #[.int .i64 k, .string ⟨s.toArray⟩, .int .i64 p] 79)) (fun h => hne (Option.some.inj h)) (fun c fz h => by cases h)
        have x0 : w1.cell? ⟨wr.heap.size, 0, none⟩ = some (.int .i64 k) := by rw [Lib.cell_of_heap hk1]; rfl
        have x1 : w1.cell? ⟨wr.heap.size, 1, none⟩ = some (.string ⟨s.toArray⟩) := by rw [Lib.cell_of_heap hk1]; rfl
        have x2 : w1.cell? ⟨wr.heap.size, 2, none⟩ = some (.int .i64 p) := by rw [Lib.cell_of_heap hk1]; rfl
        have hb01 : Below w.heap.size w w1 := hb.trans (((Below.refl _ wr).alloc (Nat.le_refl _) _).mono sw |>.trans hb1)
        have HB1 : Hid (Lib.IsBuilderF 65 5 w.heap.size w.heap.size (Lib.byteCells (acc ++ [32])) w1) := hB1
        clear hb1 ho1 hk1 hB1 hmr HB
        have hm1 : MaxAt w1 := MaxAt.below hm hb01
        go_wp2_with fail
        refine (written_any k p s _ hm1 htl).mono ?_
        rintro e w2 ⟨rfl, hb2⟩
        have hb02 : Below w.heap.size w w2 := hb01.trans (hb2.mono hb01.size)
        have HB2 : Hid (Lib.IsBuilderF 65 5 w.heap.size w.heap.size (Lib.byteCells (acc ++ [32])) w2) := isF_below HB1.out hb2
        clear hb2 HB1
        go_wp2_with fail
        refine (wstrk _ _ (acc ++ [32]) _ _ HB2.out (by rw [List.length_append]; show acc.length + 1 + (Wlx.wv ⟨k, s, p⟩).length ≤ _; omega) hb02.size).mono ?_
        rintro e w3 ⟨rfl, hB3, hb3, _⟩
        have HB3 : Hid (Lib.IsBuilderF 65 5 w.heap.size w.heap.size (Lib.byteCells (acc ++ [32] ++ Wlx.wv ⟨k, s, p⟩)) w3) := hB3
        clear hB3
        go_wp2_with fail
        go_roundg (ts.length - (i + 1))
        case rel => exact ⟨i + 1, acc ++ [32] ++ Wlx.wv ⟨k, s, p⟩, by simp, rfl, hlt, E2, HB3, hb02.trans hb3⟩
        case measure => omega
    · have hli : ¬ (i : Int) < (ts.length : Int) := by omega
      have E : Hid (R = acc) := by
        show _ = _; rw [HR.out, List.drop_eq_nil_of_le (by omega)]; unfold Wlx.joinF; rw [List.append_nil]
      clear HR
      go_wp2_with fail
      refine (bstrk _ _ acc _ HB.out sw).mono ?_
      rintro e w1 ⟨rfl, hb1⟩
      go_wp2
      go_ret
      exact ⟨by rw [E.out]; rfl, hb.trans hb1⟩
open Go.RowKit Go.Shelf
theorem textV_one (l : List UInt8) : Wlx.textV [⟨2, l, 0⟩] = 34 :: (Wlx.dbl l ++ [34]) := by
  simp [Wlx.textV, Wlx.joinF, Wlx.wv]
set_option maxRecDepth 100000 in
set_option maxHeartbeats 1600000 in
theorem lit_any (v : Wt.Vl) (w : World) (hv : Wt.vlOk v = true) (hf : Wt.FitV v) (hE : Env w) : Calls Tryz.prog 97 #[vlV v] w fun e w' => e = .returned (.string ⟨(litT v).toArray⟩) ∧ Below w.heap.size w w' := by
  obtain ⟨k, n, d, t, b, f⟩ := v
  have hB0 := ball (Below.refl _ w) (.cells #[.int .i64 k, .int .i64 n, .int .i64 d, .string t, .bool b, .int .i64 f] 41)
  unfold Wt.vlOk at hv
  unfold Wt.FitV at hf
  unfold litT
  simp only [vlV, vl6] at *
  by_cases h1 : k = 1
  · subst h1
    have T := text_any n d _ hf.1.1 hf.1.2 hf.2.1.1 hf.2.1.2 (hE.below hB0).2.2.2
    rw [if_pos rfl]
    go_enter Tryz.func97, Tryz.ntmps97
    go_wp2_with fail
    refine T.mono ?_
    rintro e w1 ⟨rfl, hb⟩
    have hB1 := below_end hB0 hb
    go_wp2
    go_ret
    exact ⟨rfl, by with_reducible repeat (first | exact hB1 | refine ball ?_ _ | refine Below.setCell ?_ (by first | (simp; done) | (simp; omega) | omega) _ | refine Below.drew ?_ | refine below_drewN ?_ _)⟩
  rw [if_neg h1]
  by_cases h2 : k = 2
  · subst h2
    rw [if_pos rfl]
    rw [if_neg (by decide), if_neg (by decide)] at hv
    unfold Wv.right at hv
    rw [if_neg (by decide), if_neg (by decide), if_pos rfl] at hv
    simp only [Bool.and_eq_true, decide_eq_true_eq, Bool.not_eq_true'] at hv
    obtain ⟨⟨⟨⟨⟨hs, -⟩, rfl⟩, rfl⟩, rfl⟩, rfl⟩ := hv
    have hB2 := ball hB0 (.cells #[.int .i64 2, .string t, .int .i64 0] 79)
    have e : t.data.toList.length = t.size := by rw [Array.length_toList]; rfl
    have pT := AtL.new1 w (.cells #[.int .i64 2, .int .i64 0, .int .i64 0, .string t, .bool false, .int .i64 0] 41) 79 [.int .i64 2, .string t, .int .i64 0]
    have hR : ReadV ((w.alloc (.cells #[.int .i64 2, .int .i64 0, .int .i64 0, .string t, .bool false, .int .i64 0] 41)).alloc (.cells #[.int .i64 2, .string t, .int .i64 0] 79)) (.slice (some ⟨w.heap.size + 1, 0, none⟩) 1 1) [⟨2, t.data.toList, 0⟩] := by
      refine ⟨_, 1, rfl, fun i hi => ?_⟩
      obtain rfl : i = 0 := by simpa using hi
      exact ⟨_, 0, rfl, pT.1, pT.2.1 0 _ rfl, pT.2.1 1 _ rfl, pT.2.1 2 _ rfl⟩
    have T := x4_text_any _ _ _ hR (hE.below hB2).2.2.1 (by simp only [Wlx.wgt, List.map_cons, List.map_nil, List.sum_cons, List.sum_nil]; omega)
    rw [textV_one] at T
    generalize (34 :: (Wlx.dbl t.data.toList ++ [34]) : List UInt8) = tx at *
    clear hR pT e
    go_enter Tryz.func97, Tryz.ntmps97
    go_wp2_with fail
    refine T.mono ?_
    rintro e w1 ⟨rfl, hb⟩
    have hB1 := below_end hB2 hb
    go_wp2
    go_ret
    exact ⟨rfl, by with_reducible repeat (first | exact hB1 | refine ball ?_ _ | refine Below.setCell ?_ (by first | (simp; done) | (simp; omega) | omega) _ | refine Below.drew ?_ | refine below_drewN ?_ _)⟩
  rw [if_neg h2]
  by_cases h3 : k = 3
  · subst h3
    rw [if_pos rfl]
    rw [if_neg (by decide), if_neg (by decide)] at hv
    unfold Wv.right at hv
    rw [if_neg (by decide), if_neg (by decide), if_neg (by decide), if_pos rfl] at hv
    simp only [Bool.and_eq_true, decide_eq_true_eq] at hv
    obtain ⟨⟨⟨rfl, rfl⟩, rfl⟩, rfl⟩ := hv
    have T := fun w => show_truth b w
    generalize (⟨(if b then [84, 82, 85, 69] else [70, 65, 76, 83, 69] : List UInt8).toArray⟩ : ByteArray) = tx at *
    simp only [vlV, vl6, vTruth] at T
    go_enter Tryz.func97, Tryz.ntmps97
    go_wp2_with fail
    refine (T _).mono ?_
    rintro e w1 ⟨rfl, hb⟩
    have hB1 := below_end hB0 hb
    go_wp2
    go_ret
    exact ⟨rfl, by with_reducible repeat (first | exact hB1 | refine ball ?_ _ | refine Below.setCell ?_ (by first | (simp; done) | (simp; omega) | omega) _ | refine Below.drew ?_ | refine below_drewN ?_ _)⟩
  rw [if_neg h3]
  split at hv
  · cases hv
  unfold Wv.right at hv
  rw [if_neg (by assumption), if_neg h1, if_neg h2, if_neg h3] at hv
  split at hv
  · rename_i h0 h4
    subst h4
    simp only [Bool.and_eq_true, decide_eq_true_eq, Bool.not_eq_true'] at hv
    obtain ⟨⟨⟨⟨hfl, rfl⟩, rfl⟩, rfl⟩, rfl⟩ := hv
    unfold Wv.flt at hfl
    simp only [Bool.and_eq_true, decide_eq_true_eq] at hfl
    obtain ⟨g, rfl⟩ : ∃ g : Nat, f = g := ⟨f.toNat, by omega⟩
    have T := show_fault g (by omega) (by omega) _ (hE.below hB0).2.1
    rw [Int.toNat_natCast]
    generalize fNames.getD g [] = tx at *
    simp only [vlV, vl6] at T
    go_enter Tryz.func97, Tryz.ntmps97
    go_wp2_with fail
    refine T.mono ?_
    rintro e w1 ⟨rfl, hb⟩
    have hB1 := below_end hB0 hb
    go_wp2
    go_ret
    exact ⟨rfl, by with_reducible repeat (first | exact hB1 | refine ball ?_ _ | refine Below.setCell ?_ (by first | (simp; done) | (simp; omega) | omega) _ | refine Below.drew ?_ | refine below_drewN ?_ _)⟩
  · cases hv
theorem Env.drew {w : World} (h : Env w) : Env w.drew := h.below (Below.refl _ _).drew
theorem cat33 (a l : List UInt8) : (⟨a.toArray⟩ : ByteArray) ++ ⟨#[33]⟩ ++ ⟨l.toArray⟩ = ⟨(a ++ (33 :: l)).toArray⟩ := by
  apply ByteArray.ext
  apply Array.ext'
  simp
set_option maxRecDepth 100000 in
set_option maxHeartbeats 1600000 in
theorem cel_any (a : Wt.Rf) (w : World) (ha : Wt.rfOk a = true) (hE : Env w) : Calls Tryz.prog 98 #[rfV a] w fun e w' => e = .returned (.string ⟨(celT a).toArray⟩) ∧ Below w.heap.size w w' := by
  obtain ⟨⟨h0, h1⟩, h2⟩ := rfOk_in ha
  have hB0 := ball (Below.refl _ w) (.cells (rf5 a).toArray 43)
  have hE0 := hE.below hB0
  have pA := AtL.new0 w 43 (rf5 a)
  have C := fun w (hE : Env w) => cellWord_any a w h0 h1 hE.2.2.2
  have hl := cw_len a h0 h1
  have hsz : a.s.size ≤ 16 := by
    rcases h2 with h | h
    · rw [h]; decide
    · have := (isNm_len h).2; rw [Array.length_toList] at this; exact this
  clear h2 ha
  unfold celT
  by_cases hs : a.s = ⟨#[]⟩
  · rw [if_pos hs]
    generalize cw a = tx at *
    obtain ⟨s, r, c, fr, fc⟩ := a
    simp only [rfV, rf5] at *
    subst hs
    go_enter Tryz.func98, Tryz.ntmps98
    go_wp2_with fail
    refine (C _ hE0).mono ?_
    rintro e w1 ⟨rfl, hb⟩
    have hB1 := below_end hB0 hb
    go_wp2
    go_ret
    exact ⟨rfl, by with_reducible repeat (first | exact hB1 | refine ball ?_ _ | refine Below.setCell ?_ (by first | (simp; done) | (simp; omega) | omega) _ | refine Below.drew ?_ | refine below_drewN ?_ _)⟩
  · rw [if_neg hs]
    have E : (⟨(a.s.data.toList ++ 33 :: cw a).toArray⟩ : ByteArray) = a.s ++ ⟨#[33]⟩ ++ ⟨(cw a).toArray⟩ := by
      rw [← cat33]
    rw [E]
    clear E
    generalize cw a = tx at *
    obtain ⟨s, r, c, fr, fc⟩ := a
    simp only [rfV, rf5] at *
    have hs' : s.toList.isEmpty = false := by
      cases h : s.toList with
      | nil => exact absurd (ByteArray.ext (Array.ext' (by rw [← ByteArray.toList_eq]; exact h))) hs
      | cons a l => rfl
    have hs2 : (s.toList == []) = false := by rw [← hs']; cases s.toList <;> rfl
    have lx1 : ¬ 9223372036854775807 < s.size + 1 := by omega
    have lx2 : ¬ 9223372036854775807 < s.size + 1 + tx.length := by omega
    go_enter Tryz.func98, Tryz.ntmps98
    go_upto_region 3 with fail
    refine wp_region_held_drew (S := fun W => Five W w.heap.size (.string s) (.int .i64 r) (.int .i64 c) (.bool fr) (.bool fc)) (by kernel_rfl) pA.drew.f5 (fun hHeld => ?_)
    refine tkQ 0 { dst := some 8, op := .fieldAddr 43 (.tmp 1) 0, type := 0, pos := "print.go:109", after := #[], guard := none } ?_; try simp only [Act.put, lA, lZ, lS]
    refine tkQ 1 { dst := some 9, op := .load 9 (.tmp 8), type := 9, pos := "print.go:109", after := #[⟨0, .data⟩], guard := none } ?_; try simp only [Act.put, lA, lZ, lS]
    refine tkQ 2 { dst := some 10, op := .binOp BinOp.add 9 (.tmp 9) (Operand.const (Value.string { data := #[33] })) 9, type := 9, pos := "print.go:109", after := #[⟨1, .data⟩], guard := none } ?_; try simp only [Act.put, lA, lZ, lS]
    refine tkQ 3 { dst := some 11, op := .load 43 (.tmp 1), type := 43, pos := "print.go:109", after := #[], guard := none } ?_; try simp only [Act.put, lA, lZ, lS]
    refine wpAnyH_ready (rs := [4]) (by kernel_rfl) (by simp) ?_
    refine AllReadyH.cons (o := { dst := some 12, op := .call { callee := Callee.value (Operand.func 129), args := #[.tmp 11], argTypes := #[43] }, type := 9, pos := "print.go:109", after := #[⟨3, .data⟩], guard := none }) rfl (fun K hK => ?_) AllReadyH.nil
    go_simp
    refine (C _ (hE0.drew)).mono ?_
    rintro e w1 ⟨rfl, hb⟩
    have pA1 := AtL.below hb (AtL.drew pA)
    have hB1 := below_end hB0.drew hb
    clear hb
    go_wp2_with fail
    refine hK.out _ _ (pA1.f5) (fun hHeld => ?_)
    clear hK K
    try simp only [Act.put, lA, lZ, lS]
    refine tkQ 5 { dst := some 13, op := .binOp BinOp.add 9 (.tmp 10) (.tmp 12) 9, type := 9, pos := "print.go:109", after := #[⟨2, .data⟩, ⟨4, .data⟩], guard := none } ?_; try simp only [Act.put, lA, lZ, lS]
    refine wpAnyH_ready (rs := [6]) (by kernel_rfl) (by simp) ?_
    refine AllReadyH.cons (o := { dst := some 2, op := .assign (.tmp 13), type := 9, pos := "print.go:109", after := #[⟨5, .data⟩, ⟨4, .chain⟩, ⟨0, .phase⟩, ⟨1, .phase⟩, ⟨2, .phase⟩, ⟨3, .phase⟩, ⟨4, .phase⟩, ⟨5, .phase⟩], guard := none }) rfl (fun K hK => ?_) AllReadyH.nil
    go_simp
    refine hK.out _ _ (pA1.f5) (fun hHeld => ?_)
    clear hK K
    try simp only [Act.put, lA, lZ, lS]
    refine wpAnyH_done (by kernel_rfl) ?_ _
    go_wp2
    go_ret
    exact ⟨rfl, by with_reducible repeat (first | exact hB1 | refine ball ?_ _ | refine Below.setCell ?_ (by first | (simp; done) | (simp; omega) | omega) _ | refine Below.drew ?_ | refine below_drewN ?_ _)⟩
set_option maxRecDepth 100000 in
set_option maxHeartbeats 1600000 in
theorem tight_any (x : Wt.Nd) (w : World) (hO : OpsAt w) : Calls Tryz.prog 44 #[ndV x] w fun e w' => e = .returned (.int .i64 (tgh x)) ∧ Below w.heap.size w w' := by
  have C := fun w hO => topOf_any x.op w hO
  have hO2 := hO.alloc (.cells (nd20 x).toArray 45)
  unfold tgh
  have hB0 := ball (Below.refl _ w) (.cells (nd20 x).toArray 45)
  obtain ⟨k, ⟨vk, vn, vd, vt, vb, vf⟩, op, nm, ar, ⟨sa, ra, ca, fra, fca⟩, ⟨sb, rb, cb, frb, fcb⟩⟩ := x
  simp only [ndV, nd20] at *
  cases ho : Wt.opOf op with
  | none =>
    rw [ho] at C
    go_enter Tryz.func44, Tryz.ntmps44
    go_wp2_with fail
    refine (C _ hO2).mono ?_
    rintro e w1 ⟨rfl, hb⟩
    have hB1 := below_end hB0 hb
    clear hb
    simp only [opV]
    go_wp2
    go_ret
    exact ⟨rfl, by with_reducible repeat (first | exact hB1 | refine ball ?_ _ | refine Below.setCell ?_ (by first | (simp; done) | (simp; omega) | omega) _ | refine Below.drew ?_ | refine below_drewN ?_ _)⟩
  | some q =>
    obtain ⟨o, m, t⟩ := q
    rw [ho] at C
    go_enter Tryz.func44, Tryz.ntmps44
    go_wp2_with fail
    refine (C _ hO2).mono ?_
    rintro e w1 ⟨rfl, hb⟩
    have hB1 := below_end hB0 hb
    clear hb
    simp only [opV]
    go_wp2
    go_ret
    exact ⟨rfl, by with_reducible repeat (first | exact hB1 | refine ball ?_ _ | refine Below.setCell ?_ (by first | (simp; done) | (simp; omega) | omega) _ | refine Below.drew ?_ | refine below_drewN ?_ _)⟩
def WSt (w : World) (kw : Nat) (acc : List UInt8) (l : List Wt.Nd) : Prop := ∃ (av : Option Addr) (cap : Nat), l.length ≤ cap ∧ IsWr kw kw (Lib.byteCells acc) (.slice av l.length cap) w ∧
  ∀ i (h : i < l.length), ∃ bb off, av = some ⟨bb, off, none⟩ ∧ bb < kw ∧ w.rangeAt bb (off + i * 20) (nd20 (l[i]))
def WF (kw : Nat) (w w' : World) : Prop := Below kw w w' ∧ Lib.OthersKept 5 (some kw) w w'
theorem WF.refl (kw : Nat) (w : World) : WF kw w w := ⟨Below.refl _ _, Lib.OthersKept.refl _ _ _⟩
theorem WF.trans {kw : Nat} {w w1 w2 : World} (h : WF kw w w1) (k : WF kw w1 w2) : WF kw w w2 := ⟨h.1.trans k.1, h.2.trans k.2⟩
theorem WF.of {kw : Nat} {w w' : World} (hb : Below w.heap.size w w') (hk : kw ≤ w.heap.size) : WF kw w w' := ⟨hb.mono hk, kept_below (B := kw) hb⟩
theorem WSt.lt {w : World} {kw : Nat} {acc : List UInt8} {l : List Wt.Nd} (h : WSt w kw acc l) : kw < w.heap.size := by
  obtain ⟨av, cap, _, h, _⟩ := h
  exact h.lt
theorem WSt.below {w w' : World} {kw : Nat} {acc : List UInt8} {l : List Wt.Nd} (h : WSt w kw acc l) (hb : Below w.heap.size w w') : WSt w' kw acc l := by
  obtain ⟨av, cap, h1, h2, h3⟩ := h
  refine ⟨av, cap, h1, h2.below hb, fun i hi => ?_⟩
  obtain ⟨bb, off, e, hn, hr⟩ := h3 i hi
  exact ⟨bb, off, e, hn, fun j v hv => cell_below hb (hr j v hv)⟩
def Bx (w : World) (k : Nat) (vs : List Value) (T : TypeId) : Prop := w.heap[k]? = some (.cells vs.toArray T (0, 0))
theorem Bx.new (w : World) (vs : List Value) (T : TypeId) : Bx (w.alloc (.cells vs.toArray T)) w.heap.size vs T := heap_alloc_new w _
theorem Bx.below {w w' : World} {k : Nat} {vs : List Value} {T : TypeId} (h : Bx w k vs T) (hb : Below w.heap.size w w') : Bx w' k vs T := (hb.block k (Array.getElem?_eq_some_iff.1 h).1).trans h
theorem Bx.kept {w w' : World} {k kw : Nat} {vs : List Value} {T : TypeId} (h : Bx w k vs T) (hf : WF kw w w') (hk : k ≠ kw) (hT : T ≠ 5) : Bx w' k vs T :=
  hf.2 k _ h (fun e => hk (Option.some.inj e)) (fun c fz e => by simp only [Obj.cells.injEq] at e; exact hT e.2.1)
theorem Bx.atl {w : World} {k : Nat} {vs : List Value} {T : TypeId} (h : Bx w k vs T) : AtL w k vs := by
  refine ⟨(Array.getElem?_eq_some_iff.1 h).1, fun i v hv => ?_, fun i hi => Lib.frozen_of_heap h i⟩
  rw [Lib.cell_of_heap h]; simpa using hv
theorem heap_setCells_app (k : Nat) (T : TypeId) : ∀ (vs us pre : List Value) (w : World), w.heap[k]? = some (.cells (pre ++ us).toArray T (0, 0)) → us.length = vs.length → (w.setCells k pre.length vs).heap[k]? = some (.cells (pre ++ vs).toArray T (0, 0)) := by
  intro vs
  induction vs with
  | nil => intro us pre w h hl; obtain rfl := List.eq_nil_of_length_eq_zero (by simpa using hl); exact h
  | cons v vs ih =>
    intro us pre w h hl
    cases us with
    | nil => simp at hl
    | cons u us =>
      rw [World.setCells]
      have h1 : (w.setCell ⟨k, pre.length, none⟩ v).heap[k]? = some (.cells ((pre ++ [v]) ++ us).toArray T (0, 0)) := by
        unfold World.setCell
        rw [Array.getElem?_modify, if_pos rfl, h]
        simp
      have := ih us (pre ++ [v]) _ h1 (by simpa using hl)
      simpa using this
theorem Bx.setAll {w : World} {k : Nat} {us vs : List Value} {T : TypeId} (h : Bx w k us T) (hl : us.length = vs.length) : Bx (w.setCells k 0 vs) k vs T := heap_setCells_app k T vs us [] w h hl
theorem Bx.there {w : World} {k : Nat} {us : List Value} {T : TypeId} (h : Bx w k us T) : w.there k 0 us.length := h.atl.there
theorem WSt.write {kw : Nat} {acc : List UInt8} {l : List Wt.Nd} (s : List UInt8) (w : World) (h : WSt w kw acc l) (hlen : acc.length + s.length ≤ 10000000) :
    Calls Tryz.prog 46 #[.pointer (some ⟨kw, 0, none⟩), .string ⟨s.toArray⟩] w fun e w' => e = .returned (.tuple #[.int .i64 s.length, .nilIface]) ∧ WSt w' kw (acc ++ s) l ∧ WF kw w w' := by
  obtain ⟨av, cap, h1, h2, h3⟩ := h
  refine (wrs_any kw kw acc _ s w h2 hlen).mono ?_
  rintro e w' ⟨rfl, hi, hb, hk⟩
  refine ⟨rfl, ⟨av, cap, h1, hi, fun i hi => ?_⟩, hb, hk⟩
  obtain ⟨bb, off, e, hn, hr⟩ := h3 i hi
  exact ⟨bb, off, e, hn, fun j v hv => (World.cell?_of_block (a := ⟨bb, off + i * 20 + j, none⟩) (hb.block bb hn)).trans (hr j v hv)⟩
def NodeOk (kw f : Nat) : Prop := ∀ (x : Wt.Nd) (r : List Wt.Nd) (acc : List UInt8) (w : World) (a b : Nat), Knd x → Wt.FitN x → (∀ y ∈ r, Wt.FitN y) → Wt.many (Wt.one f) (Wt.parts x).toNat r = some (a, b) → WSt w kw acc r → Env w → 8 ≤ kw → acc.length + 1000 * a + 950 ≤ 1000000 →
  Calls Tryz.prog 45 #[.pointer (some ⟨kw, 0, none⟩), ndV x, .int .i64 (tgh x)] w fun e w' => e = .returned (.tuple #[]) ∧ WSt w' kw (acc ++ (prN (pr f) x r).1) (r.drop a) ∧ WF kw w w'
def PartOk (kw f : Nat) : Prop := ∀ (least : Int) (l : List Wt.Nd) (acc : List UInt8) (w : World) (s d : Nat), (∀ y ∈ l, Wt.FitN y) → Wt.one f l = some (s, d) → WSt w kw acc l → Env w → 8 ≤ kw → acc.length + 1000 * s ≤ 1000000 →
  Calls Tryz.prog 27 #[.pointer (some ⟨kw, 0, none⟩), .int .i64 least] w fun e w' => e = .returned (.tuple #[]) ∧ WSt w' kw (acc ++ (pr f least l).1) (l.drop s) ∧ WF kw w w'
theorem Env.keep {w w' : World} (h : Env w) (hk : ∀ g, g < 8 → w'.heap[g]? = w.heap[g]?) : Env w' := by
  obtain ⟨h1, h2, ⟨m, h3⟩, h4⟩ := h
  refine ⟨fun j v hv => (World.cell?_of_block (a := ⟨0, 0 + j, none⟩) (hk _ (by show 0 < 8; decide))).trans (h1 j v hv), fun j v hv => (World.cell?_of_block (a := ⟨1, 0 + j, none⟩) (hk _ (by show 1 < 8; decide))).trans (h2 j v hv), ⟨m, (World.cell?_of_block (hk _ (by decide))).trans h3⟩, ?_⟩
  have e : Tryz.prog.globalNamed "internal/strconv.uint64pow10" = some 5 := by kernel_rfl
  unfold Lib.TabIs World.var? at h4 ⊢
  rw [e] at h4 ⊢
  simp only [Option.bind_some] at h4 ⊢
  rw [hk 5 (by decide)]
  exact h4
theorem Env.wf {w w' : World} {kw : Nat} (h : Env w) (hf : WF kw w w') (hk : 8 ≤ kw) : Env w' := h.keep fun g hg => hf.1.block g (by omega)
end Go.Proofs.YtlggnpohhahdlaaGreatDoor
