/- Text, walked. -/
import Derived.Test.YtjkohkhngeioiaaDoorLText
namespace Wlx
theorem wgt_cons (t : TV) (r : List TV) : wgt (t :: r) = t.t.length + 1 + wgt r := by simp [wgt]
theorem wgt_mem : ∀ (ts : List TV) (i : Nat) (h : i < ts.length), (ts[i]).t.length + 1 ≤ wgt ts
  | [], i, h => by simp at h
  | t :: r, 0, _ => by rw [wgt_cons]; show t.t.length + 1 ≤ _; omega
  | t :: r, i + 1, h => by
    have h2 : i < r.length := by simpa using h
    have := wgt_mem r i h2
    rw [wgt_cons, List.getElem_cons_succ]; omega
theorem wv_length (t : TV) : (wv t).length ≤ 2 * t.t.length + 2 := by
  unfold wv
  split
  · have := dbl_length t.t; simp; omega
  · omega
theorem joinF_length (ts : List TV) : ∀ f, (joinF f ts).length ≤ 3 * wgt ts := by
  induction ts with
  | nil => intro f; exact Nat.zero_le _
  | cons t r ih =>
    intro f
    have h1 := ih false
    have h2 := wv_length t
    have h3 : (if f then ([] : List UInt8) else [32]).length ≤ 1 := by cases f <;> simp
    rw [wgt_cons]
    show ((if f then ([] : List UInt8) else [32]) ++ wv t ++ joinF false r).length ≤ _
    rw [List.length_append, List.length_append]
    omega
end Wlx
namespace Go.Proofs.YtjkohkhngeioiaaDoor
open Go.Shelf Go.RowKit
set_option linter.unusedVariables false

theorem new_heap (w : World) (o : Obj) : (w.alloc o).heap[w.heap.size]? = some o := by
  show (w.heap.push o)[w.heap.size]? = _
  simp
set_option maxHeartbeats 1600000 in
theorem text_any (v : Value) (ts : List Wlx.TV) (w : World) (hr : ReadV w v ts) (hm : MaxAt w) (hw : Wlx.wgt ts ≤ 1048576) : Calls Tryd.prog 14 #[v] w fun e w' => e = .returned (.string ⟨(Wlx.textV ts).toArray⟩) ∧ Below w.heap.size w w' := by
  obtain ⟨av, cap, rfl, hr⟩ := hr
  have hlen : ts.length ≤ 1048576 := by
    have : ts.length ≤ Wlx.wgt ts := by
      clear hr hw
      induction ts with
      | nil => exact Nat.zero_le _
      | cons t r ih => rw [Wlx.wgt_cons]; simp only [List.length_cons]; omega
    omega
  have hjl := Wlx.joinF_length ts true
  have HT : Hid (∀ i (h : i < ts.length), (ts[i]).t.length ≤ 1048576) := fun i h => by have := Wlx.wgt_mem ts i h; omega
  have HC : Hid (∀ i (h : i < ts.length), ∃ bb off, av = some ⟨bb, off, none⟩ ∧ bb < w.heap.size ∧
    w.cell? ⟨bb, off + i * 3, none⟩ = some (.int .i64 (ts[i]).k) ∧ w.cell? ⟨bb, off + i * 3 + 1, none⟩ = some (.string ⟨(ts[i]).t.toArray⟩) ∧ w.cell? ⟨bb, off + i * 3 + 2, none⟩ = some (.int .i64 (ts[i]).p)) := hr
  obtain ⟨R, hR⟩ : ∃ R, Wlx.textV ts = R := ⟨_, rfl⟩
  have E0 : Hid (R = [] ++ Wlx.joinF true (ts.drop 0)) := hR.symm
  have hRl : R.length ≤ 3145728 := by rw [← hR]; unfold Wlx.textV; omega
  rw [hR]
  clear hr hjl hR hw
  go_enter Tryd.func14, Tryd.ntmps14
  go_wp2_with fail
  go_loopg [8] (ts.length) (fun gk x wr => ∃ (i : Nat) (acc : List UInt8), x = .int .i64 i ∧ gk = ts.length - i ∧ i ≤ ts.length ∧ Hid (R = acc ++ Wlx.joinF (decide (i = 0)) (ts.drop i)) ∧ Hid (Lib.IsBuilderF 47 5 w.heap.size w.heap.size (Lib.byteCells acc) wr) ∧ Below w.heap.size w wr)
  case atStart => exact ⟨0, [], rfl, rfl, Nat.zero_le _, E0, Lib.IsBuilderF.of (Lib.fresh_isBuilder 47 5 w), (Below.refl _ w).alloc (Nat.le_refl _) _⟩
  case round =>
    obtain ⟨i, acc, rfl, hg, hi, HR, HB, hb⟩ := hrel
    have sw := hb.size
    by_cases hlt : i < ts.length
    · have hli : (i : Int) < (ts.length : Int) := by omega
      obtain ⟨bb, off, rfl, hbb, c0, c1, c2⟩ := HC.out i hlt
      have htl := HT.out i hlt
      have hd : ts.drop i = ts[i] :: ts.drop (i + 1) := List.drop_eq_getElem_cons hlt
      obtain ⟨x, hx⟩ : ∃ x, ts[i] = x := ⟨_, rfl⟩
      rw [hx] at c0 c1 c2 htl hd
      have c0 := (hb.cell (p := ⟨bb, off + i * 3, none⟩) hbb).trans c0
      have c1 := (hb.cell (p := ⟨bb, off + i * 3 + 1, none⟩) hbb).trans c1
      have c2 := (hb.cell (p := ⟨bb, off + i * 3 + 2, none⟩) hbb).trans c2
      have hbw : bb < wr.heap.size := by omega
      have hne : ¬ wr.heap.size = w.heap.size := by
        obtain ⟨_, _, h2, _⟩ | ⟨_, _, h2, _⟩ := HB.out <;> have := (Array.getElem?_eq_some_iff.1 h2).1 <;> omega
      have hml : acc.length + (Wlx.wv x).length + 1 ≤ 9437184 := by
        have h1 := congrArg List.length HR.out
        have h2 := Wlx.wv_length x
        rw [List.length_append] at h1
        omega
      have E : Hid (R = acc ++ (if i = 0 then [] else [32]) ++ Wlx.wv x ++ Wlx.joinF (decide (i + 1 = 0)) (ts.drop (i + 1))) := by
        show _ = _
        rw [HR.out, hd, decide_eq_false (show ¬ i + 1 = 0 by omega)]
        show acc ++ ((if decide (i = 0) = true then [] else [32]) ++ Wlx.wv x ++ Wlx.joinF false (ts.drop (i + 1))) = _
        by_cases h : i = 0
        · rw [if_pos (decide_eq_true h), if_pos h]; simp
        · rw [if_neg (by simpa using h), if_neg h]; simp
      have hmr : MaxAt wr := MaxAt.below hm hb
      obtain ⟨k, s, p⟩ := x
      clear HR hx hd
      by_cases h0 : i = 0
      · have E2 : Hid (R = acc ++ Wlx.wv ⟨k, s, p⟩ ++ Wlx.joinF (decide (i + 1 = 0)) (ts.drop (i + 1))) := by show _ = _; rw [E.out, if_pos h0, List.append_nil]
        have hii : ¬ (0 : Int) < (i : Int) := by omega
        clear E h0
        go_wp2_with fail
        refine (written_any k p s _ (MaxAt.below hmr ((Below.refl _ wr).alloc (Nat.le_refl _) _)) htl).mono ?_
        rintro e w1 ⟨rfl, hb1⟩
        have hb01 : Below wr.heap.size wr w1 := ((Below.refl _ wr).alloc (Nat.le_refl _) _).trans (hb1.mono (by simp))
        have HB1 : Hid (Lib.IsBuilderF 47 5 w.heap.size w.heap.size (Lib.byteCells acc) w1) := isF_below HB.out hb01
        clear hb1
        go_wp2_with fail
        refine (wstrk _ _ acc _ _ HB1.out (by show acc.length + (Wlx.wv ⟨k, s, p⟩).length ≤ _; omega) (by have := hb01.size; omega)).mono ?_
        rintro e w2 ⟨rfl, hB2, hb2, _⟩
        have HB2 : Hid (Lib.IsBuilderF 47 5 w.heap.size w.heap.size (Lib.byteCells (acc ++ Wlx.wv ⟨k, s, p⟩)) w2) := hB2
        clear hB2
        go_wp2_with fail
        go_roundg (ts.length - (i + 1))
        case rel => exact ⟨i + 1, acc ++ Wlx.wv ⟨k, s, p⟩, by simp, rfl, hlt, E2, HB2, hb.trans ((hb01.mono sw).trans hb2)⟩
        case measure => omega
      · have E2 : Hid (R = acc ++ [32] ++ Wlx.wv ⟨k, s, p⟩ ++ Wlx.joinF (decide (i + 1 = 0)) (ts.drop (i + 1))) := by show _ = _; rw [E.out, if_neg h0]
        have hii : (0 : Int) < (i : Int) := by omega
        clear E h0
        go_wp2_with fail
        refine (wstrk _ _ acc ⟨#[32]⟩ _ (isF_below HB.out ((Below.refl _ wr).alloc (Nat.le_refl _) _)) (by show acc.length + 1 ≤ _; omega) (by simp; omega)).mono ?_
        rintro e w1 ⟨rfl, hB1, hb1, ho1⟩
        have hk1 := ho1 _ _ (new_heap wr (.cells #[.int .i64 k, .string ⟨s.toArray⟩, .int .i64 p] 31)) (fun h => hne (Option.some.inj h)) (fun c fz h => by cases h)
        have x0 : w1.cell? ⟨wr.heap.size, 0, none⟩ = some (.int .i64 k) := by rw [Lib.cell_of_heap hk1]; rfl
        have x1 : w1.cell? ⟨wr.heap.size, 1, none⟩ = some (.string ⟨s.toArray⟩) := by rw [Lib.cell_of_heap hk1]; rfl
        have x2 : w1.cell? ⟨wr.heap.size, 2, none⟩ = some (.int .i64 p) := by rw [Lib.cell_of_heap hk1]; rfl
        have hb01 : Below w.heap.size w w1 := hb.trans (((Below.refl _ wr).alloc (Nat.le_refl _) _).mono sw |>.trans hb1)
        have HB1 : Hid (Lib.IsBuilderF 47 5 w.heap.size w.heap.size (Lib.byteCells (acc ++ [32])) w1) := hB1
        clear hb1 ho1 hk1 hB1 hmr HB
        have hm1 : MaxAt w1 := MaxAt.below hm hb01
        go_wp2_with fail
        refine (written_any k p s _ hm1 htl).mono ?_
        rintro e w2 ⟨rfl, hb2⟩
        have hb02 : Below w.heap.size w w2 := hb01.trans (hb2.mono hb01.size)
        have HB2 : Hid (Lib.IsBuilderF 47 5 w.heap.size w.heap.size (Lib.byteCells (acc ++ [32])) w2) := isF_below HB1.out hb2
        clear hb2 HB1
        go_wp2_with fail
        refine (wstrk _ _ (acc ++ [32]) _ _ HB2.out (by rw [List.length_append]; show acc.length + 1 + (Wlx.wv ⟨k, s, p⟩).length ≤ _; omega) hb02.size).mono ?_
        rintro e w3 ⟨rfl, hB3, hb3, _⟩
        have HB3 : Hid (Lib.IsBuilderF 47 5 w.heap.size w.heap.size (Lib.byteCells (acc ++ [32] ++ Wlx.wv ⟨k, s, p⟩)) w3) := hB3
        clear hB3
        go_wp2_with fail
        go_roundg (ts.length - (i + 1))
        case rel => exact ⟨i + 1, acc ++ [32] ++ Wlx.wv ⟨k, s, p⟩, by simp, rfl, hlt, E2, HB3, hb02.trans hb3⟩
        case measure => omega
    · have hli : ¬ (i : Int) < (ts.length : Int) := by omega
      have E : Hid (R = acc) := by
        show _ = _; rw [HR.out, List.drop_eq_nil_of_le (by omega)]; unfold Wlx.joinF; rw [List.append_nil]
      clear HR
      go_wp2_with fail
      refine (bstrk _ _ acc _ HB.out sw).mono ?_
      rintro e w1 ⟨rfl, hb1⟩
      go_wp2
      go_ret
      exact ⟨by rw [E.out]; rfl, hb.trans hb1⟩
end Go.Proofs.YtjkohkhngeioiaaDoor
