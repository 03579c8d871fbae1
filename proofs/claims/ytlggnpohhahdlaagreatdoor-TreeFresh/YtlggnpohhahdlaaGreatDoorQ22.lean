/- TWd, TCall, LAppend. -/
import Derived.Test.YtlggnpohhahdlaaGreatDoorQ21
import Derived.OwnWalk
import Derived.Laws.AppendOwnNone
import Derived.Laws.OwnMore
namespace Go.Proofs.YtlggnpohhahdlaaGreatDoor
open Go.RowKit Go.Shelf
set_option linter.unusedVariables false
theorem fol_cons {ts : List Wlx.TV} {m : List UInt8} (h : fol ts m = true) : ∃ a b r, ts = a :: b :: r := by
  match ts, h with
  | a :: b :: r, _ => exact ⟨a, b, r, rfl⟩
def CallOk (kp : Nat) (en : Int) (sub : List UInt8 → List Wlx.TV → PR) (n : Nat) : Prop :=
  ∀ (nm : List UInt8) (ts : List Wlx.TV) (w : World), PSt w kp ts en → ts.length ≤ n → ts.length ≤ 1024 → (∀ t ∈ ts, TokOk t) → (hd ts en).t = nm → fol ts [40] = true → Env w → Calls Tryz.prog 185 #[.pointer (some ⟨kp, 0, none⟩), .string ⟨nm.toArray⟩] w fun e w' => PPost kp en (sub nm ts) w e w'
def pwd (subC : List UInt8 → List Wlx.TV → PR) (en : Int) (ts : List Wlx.TV) : PR :=
  if fol ts [40] then subC (hd ts en).t ts
  else if fol ts [33] then (if Wt.shNm ⟨(hd ts en).t.toArray⟩ then pcs ⟨(hd ts en).t.toArray⟩ (ts.drop 2) en else .inr (50, pos ts en))
  else if (hd ts en).t = [84, 82, 85, 69] then .inl ([leafN (vTruth true)], ts.drop 1)
  else if (hd ts en).t = [70, 65, 76, 83, 69] then .inl ([leafN (vTruth false)], ts.drop 1)
  else pcs ⟨#[]⟩ ts en
set_option maxHeartbeats 8000000 in
set_option maxRecDepth 100000 in
theorem word_any (kp : Nat) (en : Int) (subC : List UInt8 → List Wlx.TV → PR) (n : Nat) (HC : CallOk kp en subC n) (ts : List Wlx.TV) (w : World) (h : PSt w kp ts en) (hn : ts.length ≤ n) (hts : ts.length ≤ 1024) (hok : ∀ t ∈ ts, TokOk t) (hw3 : (hd ts en).k = 3) (hE : Env w) (hk8 : 8 ≤ kp) :
    Calls Tryz.prog 166 #[.pointer (some ⟨kp, 0, none⟩)] w fun e w' => PPost kp en (pwd subC en ts) w e w' := by
  have hB0 := ball (Below.refl _ w) (.cells #[.int .i64 0, .int .i64 0, .int .i64 0, .int .i64 0, .string ⟨#[]⟩, .bool false, .int .i64 0, .int .i64 0, .string ⟨#[]⟩, .int .i64 0, .string ⟨#[]⟩, .int .i64 0, .int .i64 0, .bool false, .bool false, .string ⟨#[]⟩, .int .i64 0, .int .i64 0, .bool false, .bool false, .slice none 0 0] 56)
  have pZ : AtL (w.alloc (.cells #[.int .i64 0, .int .i64 0, .int .i64 0, .int .i64 0, .string ⟨#[]⟩, .bool false, .int .i64 0, .int .i64 0, .string ⟨#[]⟩, .int .i64 0, .string ⟨#[]⟩, .int .i64 0, .int .i64 0, .bool false, .bool false, .string ⟨#[]⟩, .int .i64 0, .int .i64 0, .bool false, .bool false, .slice none 0 0] 56)) w.heap.size (pt21 (bare 0) (.slice none 0 0)) := AtL.new0 w _ _
  have h0 := h.below hB0
  have hE0 := hE.below hB0
  have hkp := h.lt
  have N := fun w h => next_any kp ts en w h
  have F1 := fun w h => follows_any kp ts en [40] w h hts
  have F2 := fun w h => follows_any kp ts en [33] w h hts
  have hfl := tok_text
  have hlen : (hd ts en).t.length ≤ 1024 := (tokOk_hd en hok).1
  have SN := fun w => tsh_any ⟨(hd ts en).t.toArray⟩ w (by show (hd ts en).t.length ≤ _; omega)
  have HC := fun w h hf hE => HC (hd ts en).t ts w h hn hts hok rfl hf hE
  have M0 := fun w h => must_false kp ts en w h
  obtain ⟨r0, hr0⟩ : ∃ r, ts = hd ts en :: r := by
    cases ts with
    | nil => exact absurd hw3 (by show ¬ (0 : Int) = 3; decide)
    | cons a r => exact ⟨r, rfl⟩
  unfold pwd
  unfold pos stop at M0
  unfold pos
  obtain ⟨t, ht⟩ : ∃ t, hd ts en = t := ⟨_, rfl⟩
  rw [ht] at N SN HC M0 hr0 ⊢
  clear ht hlen hw3
  obtain ⟨k, x, p⟩ := t
  unfold tkV at N
  simp only at N SN HC M0 ⊢
  cases hf1 : fol ts [40] with
  | true =>
    rw [hf1] at F1
    replace HC := fun w h hE => HC w h hf1 hE
    rw [if_pos rfl]
    clear hr0
    cases hs : subC x ts with
    | inr q =>
      obtain ⟨c, pq⟩ := q
      simp only [PPost]
      go_enter Tryz.func166, Tryz.ntmps166
      go_wp2_with fail
      generalize w.alloc (.cells #[.int .i64 0, .int .i64 0, .int .i64 0, .int .i64 0, .string ⟨#[]⟩, .bool false, .int .i64 0, .int .i64 0, .string ⟨#[]⟩, .int .i64 0, .string ⟨#[]⟩, .int .i64 0, .int .i64 0, .bool false, .bool false, .string ⟨#[]⟩, .int .i64 0, .int .i64 0, .bool false, .bool false, .slice none 0 0] 56) = wa at *
      refine (N _ h0).mono ?_
      rintro e wb ⟨rfl, hb⟩
      replace pZ := AtL.below hb pZ
      replace h0 := h0.below hb
      replace hE0 := hE0.below hb
      replace hB0 := below_end hB0 hb
      clear hb
      go_wp2_with fail
      refine (F1 _ h0).mono ?_
      rintro e w1 ⟨rfl, hb⟩
      have pZ1 := AtL.below hb pZ
      have h1 := h0.below hb
      have hE1 := hE0.below hb
      have hB1 := below_end hB0 hb
      have hG1 := below_grown hB1 (some kp)
      clear hb pZ h0 hB0 hE0 N F1
      go_wp2_with fail
      refine (HC _ h1 hE1).mono ?_
      rintro e w3 hc
      rw [hs] at hc
      simp only [PPost] at hc
      obtain ⟨rfl, hg⟩ := hc
      unfold stop
      go_wp2
      exact ⟨rfl, rfl, grown_trans hG1 hg⟩
    | inl q =>
      obtain ⟨row, r2⟩ := q
      simp only [PPost]
      go_enter Tryz.func166, Tryz.ntmps166
      go_wp2_with fail
      generalize w.alloc (.cells #[.int .i64 0, .int .i64 0, .int .i64 0, .int .i64 0, .string ⟨#[]⟩, .bool false, .int .i64 0, .int .i64 0, .string ⟨#[]⟩, .int .i64 0, .string ⟨#[]⟩, .int .i64 0, .int .i64 0, .bool false, .bool false, .string ⟨#[]⟩, .int .i64 0, .int .i64 0, .bool false, .bool false, .slice none 0 0] 56) = wa at *
      refine (N _ h0).mono ?_
      rintro e wb ⟨rfl, hb⟩
      replace pZ := AtL.below hb pZ
      replace h0 := h0.below hb
      replace hE0 := hE0.below hb
      replace hB0 := below_end hB0 hb
      clear hb
      go_wp2_with fail
      refine (F1 _ h0).mono ?_
      rintro e w1 ⟨rfl, hb⟩
      have pZ1 := AtL.below hb pZ
      have h1 := h0.below hb
      have hE1 := hE0.below hb
      have hB1 := below_end hB0 hb
      have hG1 := below_grown hB1 (some kp)
      clear hb pZ h0 hB0 hE0 N F1
      have hz1 := pZ1.lt
      go_wp2_with fail
      refine (HC _ h1 hE1).mono ?_
      rintro e w3 hc
      rw [hs] at hc
      simp only [PPost] at hc
      obtain ⟨v, rfl, hP, h3, hg⟩ := hc
      have pZ3 := pZ1.grown hg (by intro e; have := Option.some.inj e; omega)
      have hG3 := grown_trans hG1 hg
      obtain ⟨nn, x, sl, rfl, hp⟩ := hP
      obtain ⟨av, len, cap, rfl⟩ := hp.one
      have hth : World.there w3 w.heap.size 0 (pt21 x (.slice av len cap)).toArray.size := pZ3.there
      clear pZ1 hG1 hE1 h1 hg
      unfold ptV
      go_wp2_with ((with_reducible refine wpList_store_mid ?_ 56 (.tmp 2) (.tmp 12) ?_ (w.heap.size) 0 (pt21 x (.slice av len cap)).toArray ?_ ?_ ?_ ?_ ?_ ?_); rfl; rfl; rfl; rfl; exact hth; kernel_rfl; exact one21 _ _ rfl)
      have pZ9 : AtL (w3.setCells w.heap.size 0 (pt21 x (.slice av len cap))) w.heap.size (pt21 x (.slice av len cap)) := pZ3.setAll rfl
      refine bodyPost_ret (results_cell rfl _ _ w.heap.size (pt21 x (.slice av len cap)) _ rfl pZ9.range Tryz.underlying56 rfl (by kernel_rfl)) rfl ?_
      exact ⟨_, rfl, (Pt.far (show Pt w3 _ (ptV x (.slice av len cap)) row from ⟨nn, x, _, rfl, hp⟩) (by omega) 0 _).mono (by omega), h3.farAll hkp _ 0, grown_setAll hG3 (Nat.le_refl _) _ 0⟩
  | false =>
    rw [hf1] at F1
    rw [if_neg (by decide)]
    clear HC
    cases hf2 : fol ts [33] with
    | true =>
      rw [hf2] at F2
      rw [if_pos rfl]
      obtain ⟨a, b, r, hr⟩ := fol_cons hf2
      have hab : a = ⟨k, x, p⟩ := by rw [hr] at hr0; exact (List.cons.inj hr0).1
      subst hab
      cases hsn : Wt.shNm ⟨x.toArray⟩ with
      | false =>
        rw [hsn] at SN
        rw [if_neg (by decide)]
        simp only [PPost]
        unfold stop
        go_enter Tryz.func166, Tryz.ntmps166
        go_wp2_with fail
        generalize w.alloc (.cells #[.int .i64 0, .int .i64 0, .int .i64 0, .int .i64 0, .string ⟨#[]⟩, .bool false, .int .i64 0, .int .i64 0, .string ⟨#[]⟩, .int .i64 0, .string ⟨#[]⟩, .int .i64 0, .int .i64 0, .bool false, .bool false, .string ⟨#[]⟩, .int .i64 0, .int .i64 0, .bool false, .bool false, .slice none 0 0] 56) = wa at *
        refine (N _ h0).mono ?_
        rintro e wb ⟨rfl, hb⟩
        replace pZ := AtL.below hb pZ
        replace h0 := h0.below hb
        replace hE0 := hE0.below hb
        replace hB0 := below_end hB0 hb
        clear hb
        go_wp2_with fail
        refine (F1 _ h0).mono ?_
        rintro e w1 ⟨rfl, hb⟩
        have pZ1 := AtL.below hb pZ
        have h1 := h0.below hb
        have hE1 := hE0.below hb
        have hB1 := below_end hB0 hb
        have hG1 := below_grown hB1 (some kp)
        clear hb pZ h0 hB0 hE0 N F1
        go_wp2_with fail
        refine (F2 _ h1).mono ?_
        rintro e w2 ⟨rfl, hb⟩
        replace pZ1 := AtL.below hb pZ1
        replace h1 := h1.below hb
        replace hE1 := hE1.below hb
        replace hB1 := below_end hB1 hb
        clear hG1
        have hG1 := below_grown hB1 (some kp)
        clear hb F2
        go_wp2_with fail
        refine (SN _).mono ?_
        rintro e w4 ⟨rfl, rfl⟩
        go_wp2_with fail
        refine (M0 _ h1).mono ?_
        rintro e w5 ⟨rfl, hb⟩
        go_wp2
        exact ⟨rfl, rfl, grown_trans hG1 (below_grown hb (some kp))⟩
      | true =>
        rw [hsn] at SN
        rw [if_pos rfl]
        subst hr
        clear hr0 hf1 hf2
        simp only [List.drop_succ_cons, List.drop_zero]
        cases hs : pcs ⟨x.toArray⟩ r en with
        | inr q =>
          obtain ⟨c, pq⟩ := q
          simp only [PPost]
          go_enter Tryz.func166, Tryz.ntmps166
          go_wp2_with fail
          generalize w.alloc (.cells #[.int .i64 0, .int .i64 0, .int .i64 0, .int .i64 0, .string ⟨#[]⟩, .bool false, .int .i64 0, .int .i64 0, .string ⟨#[]⟩, .int .i64 0, .string ⟨#[]⟩, .int .i64 0, .int .i64 0, .bool false, .bool false, .string ⟨#[]⟩, .int .i64 0, .int .i64 0, .bool false, .bool false, .slice none 0 0] 56) = wa at *
          refine (N _ h0).mono ?_
          rintro e wb ⟨rfl, hb⟩
          replace pZ := AtL.below hb pZ
          replace h0 := h0.below hb
          replace hE0 := hE0.below hb
          replace hB0 := below_end hB0 hb
          clear hb
          go_wp2_with fail
          refine (F1 _ h0).mono ?_
          rintro e w1 ⟨rfl, hb⟩
          have pZ1 := AtL.below hb pZ
          have h1 := h0.below hb
          have hE1 := hE0.below hb
          have hB1 := below_end hB0 hb
          have hG1 := below_grown hB1 (some kp)
          clear hb pZ h0 hB0 hE0 N F1
          go_wp2_with fail
          refine (F2 _ h1).mono ?_
          rintro e w2 ⟨rfl, hb⟩
          replace pZ1 := AtL.below hb pZ1
          replace h1 := h1.below hb
          replace hE1 := hE1.below hb
          replace hB1 := below_end hB1 hb
          clear hG1
          have hG1 := below_grown hB1 (some kp)
          clear hb F2
          go_wp2_with fail
          refine (SN _).mono ?_
          rintro e w4 ⟨rfl, rfl⟩
          go_wp2_with fail
          refine (must_true kp _).mono ?_
          rintro e w4 ⟨rfl, rfl⟩
          have P := pass_any 2 kp [⟨k, x, p⟩, b] r en _ h1 rfl (by decide) hts
          go_wp2_with fail
          refine P.mono ?_
          rintro e w4 ⟨rfl, h4, hg4⟩
          have hz4 := pZ1.lt
          replace pZ1 := pZ1.grown hg4 (by intro e; have := Option.some.inj e; omega)
          replace hG1 := grown_trans hG1 hg4
          replace hE1 := hE1.grown hg4 hk8
          clear h1 P hg4
          have h1 := h4
          clear h4
          go_wp2_with fail
          refine (cells_any kp ⟨x.toArray⟩ r en _ h1 (by simp at hts; omega) (fun t ht => hok t (by simp [ht])) hE1 hk8).mono ?_
          rintro e w3 hc
          rw [hs] at hc
          simp only [PPost] at hc
          obtain ⟨rfl, hg⟩ := hc
          unfold stop
          go_wp2
          exact ⟨rfl, rfl, grown_trans hG1 hg⟩
        | inl q =>
          obtain ⟨row, r2⟩ := q
          simp only [PPost]
          go_enter Tryz.func166, Tryz.ntmps166
          go_wp2_with fail
          generalize w.alloc (.cells #[.int .i64 0, .int .i64 0, .int .i64 0, .int .i64 0, .string ⟨#[]⟩, .bool false, .int .i64 0, .int .i64 0, .string ⟨#[]⟩, .int .i64 0, .string ⟨#[]⟩, .int .i64 0, .int .i64 0, .bool false, .bool false, .string ⟨#[]⟩, .int .i64 0, .int .i64 0, .bool false, .bool false, .slice none 0 0] 56) = wa at *
          refine (N _ h0).mono ?_
          rintro e wb ⟨rfl, hb⟩
          replace pZ := AtL.below hb pZ
          replace h0 := h0.below hb
          replace hE0 := hE0.below hb
          replace hB0 := below_end hB0 hb
          clear hb
          go_wp2_with fail
          refine (F1 _ h0).mono ?_
          rintro e w1 ⟨rfl, hb⟩
          have pZ1 := AtL.below hb pZ
          have h1 := h0.below hb
          have hE1 := hE0.below hb
          have hB1 := below_end hB0 hb
          have hG1 := below_grown hB1 (some kp)
          clear hb pZ h0 hB0 hE0 N F1
          go_wp2_with fail
          refine (F2 _ h1).mono ?_
          rintro e w2 ⟨rfl, hb⟩
          replace pZ1 := AtL.below hb pZ1
          replace h1 := h1.below hb
          replace hE1 := hE1.below hb
          replace hB1 := below_end hB1 hb
          clear hG1
          have hG1 := below_grown hB1 (some kp)
          clear hb F2
          go_wp2_with fail
          refine (SN _).mono ?_
          rintro e w4 ⟨rfl, rfl⟩
          go_wp2_with fail
          refine (must_true kp _).mono ?_
          rintro e w4 ⟨rfl, rfl⟩
          have P := pass_any 2 kp [⟨k, x, p⟩, b] r en _ h1 rfl (by decide) hts
          go_wp2_with fail
          refine P.mono ?_
          rintro e w4 ⟨rfl, h4, hg4⟩
          have hz4 := pZ1.lt
          replace pZ1 := pZ1.grown hg4 (by intro e; have := Option.some.inj e; omega)
          replace hG1 := grown_trans hG1 hg4
          replace hE1 := hE1.grown hg4 hk8
          clear h1 P hg4
          have h1 := h4
          clear h4
          have hz1 := pZ1.lt
          go_wp2_with fail
          refine (cells_any kp ⟨x.toArray⟩ r en _ h1 (by simp at hts; omega) (fun t ht => hok t (by simp [ht])) hE1 hk8).mono ?_
          rintro e w3 hc
          rw [hs] at hc
          simp only [PPost] at hc
          obtain ⟨v, rfl, hP, h3, hg⟩ := hc
          have pZ3 := pZ1.grown hg (by intro e; have := Option.some.inj e; omega)
          have hG3 := grown_trans hG1 hg
          obtain ⟨nn, x, sl, rfl, hp⟩ := hP
          obtain ⟨av, len, cap, rfl⟩ := hp.one
          have hth : World.there w3 w.heap.size 0 (pt21 x (.slice av len cap)).toArray.size := pZ3.there
          clear pZ1 hG1 hE1 h1 hg
          unfold ptV
          go_wp2_with ((with_reducible refine wpList_store_mid ?_ 56 (.tmp 2) (.tmp 24) ?_ (w.heap.size) 0 (pt21 x (.slice av len cap)).toArray ?_ ?_ ?_ ?_ ?_ ?_); rfl; rfl; rfl; rfl; exact hth; kernel_rfl; exact one21 _ _ rfl)
          have pZ9 : AtL (w3.setCells w.heap.size 0 (pt21 x (.slice av len cap))) w.heap.size (pt21 x (.slice av len cap)) := pZ3.setAll rfl
          refine bodyPost_ret (results_cell rfl _ _ w.heap.size (pt21 x (.slice av len cap)) _ rfl pZ9.range Tryz.underlying56 rfl (by kernel_rfl)) rfl ?_
          exact ⟨_, rfl, (Pt.far (show Pt w3 _ (ptV x (.slice av len cap)) row from ⟨nn, x, _, rfl, hp⟩) (by omega) 0 _).mono (by omega), h3.farAll hkp _ 0, grown_setAll hG3 (Nat.le_refl _) _ 0⟩
    | false =>
      rw [hf2] at F2
      rw [if_neg (by decide)]
      by_cases hT : x = [84, 82, 85, 69]
      · rw [if_pos hT]
        subst hr0
        generalize r0 = r at *
        subst hT
        clear hf1 hf2
        simp only [List.drop_succ_cons, List.drop_zero, PPost]
        go_enter Tryz.func166, Tryz.ntmps166
        go_wp2_with fail
        generalize w.alloc (.cells #[.int .i64 0, .int .i64 0, .int .i64 0, .int .i64 0, .string ⟨#[]⟩, .bool false, .int .i64 0, .int .i64 0, .string ⟨#[]⟩, .int .i64 0, .string ⟨#[]⟩, .int .i64 0, .int .i64 0, .bool false, .bool false, .string ⟨#[]⟩, .int .i64 0, .int .i64 0, .bool false, .bool false, .slice none 0 0] 56) = wa at *
        refine (N _ h0).mono ?_
        rintro e wb ⟨rfl, hb⟩
        replace pZ := AtL.below hb pZ
        replace h0 := h0.below hb
        replace hE0 := hE0.below hb
        replace hB0 := below_end hB0 hb
        clear hb
        go_wp2_with fail
        refine (F1 _ h0).mono ?_
        rintro e w1 ⟨rfl, hb⟩
        have pZ1 := AtL.below hb pZ
        have h1 := h0.below hb
        have hE1 := hE0.below hb
        have hB1 := below_end hB0 hb
        have hG1 := below_grown hB1 (some kp)
        clear hb pZ h0 hB0 hE0 N F1
        go_wp2_with fail
        refine (F2 _ h1).mono ?_
        rintro e w2 ⟨rfl, hb⟩
        replace pZ1 := AtL.below hb pZ1
        replace h1 := h1.below hb
        replace hE1 := hE1.below hb
        replace hB1 := below_end hB1 hb
        clear hG1
        have hG1 := below_grown hB1 (some kp)
        clear hb F2
        have P := pass_any 1 kp [_] r en _ h1 rfl (by decide) hts
        go_wp2_with fail
        refine P.mono ?_
        rintro e w4 ⟨rfl, h4, hg4⟩
        have hz4 := pZ1.lt
        have pZ4 := pZ1.grown hg4 (by intro e; have := Option.some.inj e; omega)
        have hG4 := grown_trans hG1 hg4
        clear h1 P hg4 pZ1 hG1 hE1
        have V1 := fun w => vTruth_any true w
        have K1 := fun w => const_any (vTruth true) w
        simp only [vlV, vl6, vTruth] at V1 K1
        go_wp2_with fail
        refine (V1 _).mono ?_
        rintro e w5 ⟨rfl, hb5⟩
        go_wp2_with fail
        refine (K1 _).mono ?_
        rintro e w6 ⟨rfl, hb6⟩
        have hb := below_end hb5 hb6
        have pZ6 := AtL.below hb pZ4
        have h6 := h4.below hb
        have hG6 := grown_trans hG4 (below_grown hb (some kp))
        have hth : World.there w6 w.heap.size 0 (pt21 (leafN (vTruth true)) (.slice none 0 0)).toArray.size := pZ6.there
        clear hb5 hb6 hb pZ4 h4 hG4
        unfold ptV
        go_wp2_with ((with_reducible refine wpList_store_mid ?_ 56 (.tmp 2) (.tmp 37) ?_ (w.heap.size) 0 (pt21 (leafN (vTruth true)) (.slice none 0 0)).toArray ?_ ?_ ?_ ?_ ?_ ?_); rfl; rfl; rfl; rfl; exact hth; kernel_rfl; exact one21 _ _ rfl)
        have pZ9 : AtL (w6.setCells w.heap.size 0 (pt21 (leafN (vTruth true)) (.slice none 0 0))) w.heap.size (pt21 (leafN (vTruth true)) (.slice none 0 0)) := pZ6.setAll rfl
        refine bodyPost_ret (results_cell rfl _ _ w.heap.size (pt21 (leafN (vTruth true)) (.slice none 0 0)) _ rfl pZ9.range Tryz.underlying56 rfl (by kernel_rfl)) rfl ?_
        exact ⟨_, rfl, ⟨1, _, _, rfl, PtIs.leaf _ _ _⟩, h6.farAll hkp _ 0, grown_setAll hG6 (Nat.le_refl _) _ 0⟩
      rw [if_neg hT]
      have hT1 : (x == [84, 82, 85, 69]) = false := by simp [hT]
      by_cases hU : x = [70, 65, 76, 83, 69]
      · rw [if_pos hU]
        subst hr0
        generalize r0 = r at *
        subst hU
        clear hf1 hf2
        simp only [List.drop_succ_cons, List.drop_zero, PPost]
        go_enter Tryz.func166, Tryz.ntmps166
        go_wp2_with fail
        generalize w.alloc (.cells #[.int .i64 0, .int .i64 0, .int .i64 0, .int .i64 0, .string ⟨#[]⟩, .bool false, .int .i64 0, .int .i64 0, .string ⟨#[]⟩, .int .i64 0, .string ⟨#[]⟩, .int .i64 0, .int .i64 0, .bool false, .bool false, .string ⟨#[]⟩, .int .i64 0, .int .i64 0, .bool false, .bool false, .slice none 0 0] 56) = wa at *
        refine (N _ h0).mono ?_
        rintro e wb ⟨rfl, hb⟩
        replace pZ := AtL.below hb pZ
        replace h0 := h0.below hb
        replace hE0 := hE0.below hb
        replace hB0 := below_end hB0 hb
        clear hb
        go_wp2_with fail
        refine (F1 _ h0).mono ?_
        rintro e w1 ⟨rfl, hb⟩
        have pZ1 := AtL.below hb pZ
        have h1 := h0.below hb
        have hE1 := hE0.below hb
        have hB1 := below_end hB0 hb
        have hG1 := below_grown hB1 (some kp)
        clear hb pZ h0 hB0 hE0 N F1
        go_wp2_with fail
        refine (F2 _ h1).mono ?_
        rintro e w2 ⟨rfl, hb⟩
        replace pZ1 := AtL.below hb pZ1
        replace h1 := h1.below hb
        replace hE1 := hE1.below hb
        replace hB1 := below_end hB1 hb
        clear hG1
        have hG1 := below_grown hB1 (some kp)
        clear hb F2
        have P := pass_any 1 kp [_] r en _ h1 rfl (by decide) hts
        go_wp2_with fail
        refine P.mono ?_
        rintro e w4 ⟨rfl, h4, hg4⟩
        have hz4 := pZ1.lt
        have pZ4 := pZ1.grown hg4 (by intro e; have := Option.some.inj e; omega)
        have hG4 := grown_trans hG1 hg4
        clear h1 P hg4 pZ1 hG1 hE1
        have V1 := fun w => vTruth_any false w
        have K1 := fun w => const_any (vTruth false) w
        simp only [vlV, vl6, vTruth] at V1 K1
        go_wp2_with fail
        refine (V1 _).mono ?_
        rintro e w5 ⟨rfl, hb5⟩
        go_wp2_with fail
        refine (K1 _).mono ?_
        rintro e w6 ⟨rfl, hb6⟩
        have hb := below_end hb5 hb6
        have pZ6 := AtL.below hb pZ4
        have h6 := h4.below hb
        have hG6 := grown_trans hG4 (below_grown hb (some kp))
        have hth : World.there w6 w.heap.size 0 (pt21 (leafN (vTruth false)) (.slice none 0 0)).toArray.size := pZ6.there
        clear hb5 hb6 hb pZ4 h4 hG4
        unfold ptV
        go_wp2_with ((with_reducible refine wpList_store_mid ?_ 56 (.tmp 2) (.tmp 37) ?_ (w.heap.size) 0 (pt21 (leafN (vTruth false)) (.slice none 0 0)).toArray ?_ ?_ ?_ ?_ ?_ ?_); rfl; rfl; rfl; rfl; exact hth; kernel_rfl; exact one21 _ _ rfl)
        have pZ9 : AtL (w6.setCells w.heap.size 0 (pt21 (leafN (vTruth false)) (.slice none 0 0))) w.heap.size (pt21 (leafN (vTruth false)) (.slice none 0 0)) := pZ6.setAll rfl
        refine bodyPost_ret (results_cell rfl _ _ w.heap.size (pt21 (leafN (vTruth false)) (.slice none 0 0)) _ rfl pZ9.range Tryz.underlying56 rfl (by kernel_rfl)) rfl ?_
        exact ⟨_, rfl, ⟨1, _, _, rfl, PtIs.leaf _ _ _⟩, h6.farAll hkp _ 0, grown_setAll hG6 (Nat.le_refl _) _ 0⟩
      rw [if_neg hU]
      have hU1 : (x == [70, 65, 76, 83, 69]) = false := by simp [hU]
      clear hr0
      cases hs : pcs ⟨#[]⟩ ts en with
      | inr q =>
        obtain ⟨c, pq⟩ := q
        simp only [PPost]
        go_enter Tryz.func166, Tryz.ntmps166
        go_wp2_with fail
        generalize w.alloc (.cells #[.int .i64 0, .int .i64 0, .int .i64 0, .int .i64 0, .string ⟨#[]⟩, .bool false, .int .i64 0, .int .i64 0, .string ⟨#[]⟩, .int .i64 0, .string ⟨#[]⟩, .int .i64 0, .int .i64 0, .bool false, .bool false, .string ⟨#[]⟩, .int .i64 0, .int .i64 0, .bool false, .bool false, .slice none 0 0] 56) = wa at *
        refine (N _ h0).mono ?_
        rintro e wb ⟨rfl, hb⟩
        replace pZ := AtL.below hb pZ
        replace h0 := h0.below hb
        replace hE0 := hE0.below hb
        replace hB0 := below_end hB0 hb
        clear hb
        go_wp2_with fail
        refine (F1 _ h0).mono ?_
        rintro e w1 ⟨rfl, hb⟩
        have pZ1 := AtL.below hb pZ
        have h1 := h0.below hb
        have hE1 := hE0.below hb
        have hB1 := below_end hB0 hb
        have hG1 := below_grown hB1 (some kp)
        clear hb pZ h0 hB0 hE0 N F1
        go_wp2_with fail
        refine (F2 _ h1).mono ?_
        rintro e w2 ⟨rfl, hb⟩
        replace pZ1 := AtL.below hb pZ1
        replace h1 := h1.below hb
        replace hE1 := hE1.below hb
        replace hB1 := below_end hB1 hb
        clear hG1
        have hG1 := below_grown hB1 (some kp)
        clear hb F2
        go_wp2_with fail
        refine (cells_any kp ⟨#[]⟩ ts en _ h1 hts hok hE1 hk8).mono ?_
        rintro e w3 hc
        rw [hs] at hc
        simp only [PPost] at hc
        obtain ⟨rfl, hg⟩ := hc
        unfold stop
        go_wp2
        exact ⟨rfl, rfl, grown_trans hG1 hg⟩
      | inl q =>
        obtain ⟨row, r2⟩ := q
        simp only [PPost]
        go_enter Tryz.func166, Tryz.ntmps166
        go_wp2_with fail
        generalize w.alloc (.cells #[.int .i64 0, .int .i64 0, .int .i64 0, .int .i64 0, .string ⟨#[]⟩, .bool false, .int .i64 0, .int .i64 0, .string ⟨#[]⟩, .int .i64 0, .string ⟨#[]⟩, .int .i64 0, .int .i64 0, .bool false, .bool false, .string ⟨#[]⟩, .int .i64 0, .int .i64 0, .bool false, .bool false, .slice none 0 0] 56) = wa at *
        refine (N _ h0).mono ?_
        rintro e wb ⟨rfl, hb⟩
        replace pZ := AtL.below hb pZ
        replace h0 := h0.below hb
        replace hE0 := hE0.below hb
        replace hB0 := below_end hB0 hb
        clear hb
        go_wp2_with fail
        refine (F1 _ h0).mono ?_
        rintro e w1 ⟨rfl, hb⟩
        have pZ1 := AtL.below hb pZ
        have h1 := h0.below hb
        have hE1 := hE0.below hb
        have hB1 := below_end hB0 hb
        have hG1 := below_grown hB1 (some kp)
        clear hb pZ h0 hB0 hE0 N F1
        go_wp2_with fail
        refine (F2 _ h1).mono ?_
        rintro e w2 ⟨rfl, hb⟩
        replace pZ1 := AtL.below hb pZ1
        replace h1 := h1.below hb
        replace hE1 := hE1.below hb
        replace hB1 := below_end hB1 hb
        clear hG1
        have hG1 := below_grown hB1 (some kp)
        clear hb F2
        have hz1 := pZ1.lt
        go_wp2_with fail
        refine (cells_any kp ⟨#[]⟩ ts en _ h1 hts hok hE1 hk8).mono ?_
        rintro e w3 hc
        rw [hs] at hc
        simp only [PPost] at hc
        obtain ⟨v, rfl, hP, h3, hg⟩ := hc
        have pZ3 := pZ1.grown hg (by intro e; have := Option.some.inj e; omega)
        have hG3 := grown_trans hG1 hg
        obtain ⟨nn, x, sl, rfl, hp⟩ := hP
        obtain ⟨av, len, cap, rfl⟩ := hp.one
        have hth : World.there w3 w.heap.size 0 (pt21 x (.slice av len cap)).toArray.size := pZ3.there
        clear pZ1 hG1 hE1 h1 hg
        unfold ptV
        go_wp2_with ((with_reducible refine wpList_store_mid ?_ 56 (.tmp 2) (.tmp 39) ?_ (w.heap.size) 0 (pt21 x (.slice av len cap)).toArray ?_ ?_ ?_ ?_ ?_ ?_); rfl; rfl; rfl; rfl; exact hth; kernel_rfl; exact one21 _ _ rfl)
        have pZ9 : AtL (w3.setCells w.heap.size 0 (pt21 x (.slice av len cap))) w.heap.size (pt21 x (.slice av len cap)) := pZ3.setAll rfl
        refine bodyPost_ret (results_cell rfl _ _ w.heap.size (pt21 x (.slice av len cap)) _ rfl pZ9.range Tryz.underlying56 rfl (by kernel_rfl)) rfl ?_
        exact ⟨_, rfl, (Pt.far (show Pt w3 _ (ptV x (.slice av len cap)) row from ⟨nn, x, _, rfl, hp⟩) (by omega) 0 _).mono (by omega), h3.farAll hkp _ 0, grown_setAll hG3 (Nat.le_refl _) _ 0⟩
def Pts (w : World) (lo : Nat) (sl : Value) (c : Nat) (rows : List Wt.Nd) : Prop :=
  ∃ (n : Nat) (av : Option Addr) (cap : Nat) (ps : List (Wt.Nd × Value)) (rws : List (List Wt.Nd)), sl = .slice av c cap ∧ ps.length = c ∧ rws.length = c ∧ rows = rws.flatten ∧
    ∀ i (h : i < ps.length) (h' : i < rws.length), ∃ bb, av = some ⟨bb, 0, none⟩ ∧ lo ≤ bb ∧ w.rangeAt bb (i * 21) (pt21 (ps[i]).1 (ps[i]).2) ∧ PtIs w (fun b => lo ≤ b) n (ps[i]).1 (ps[i]).2 (rws[i])
theorem Pts.node {w : World} {lo : Nat} {sl : Value} {c : Nat} {rows : List Wt.Nd} (h : Pts w lo sl c rows) (x : Wt.Nd) : ∃ n, PtIs w (fun b => lo ≤ b) n x sl (x :: rows) := by
  obtain ⟨n, av, cap, ps, rws, rfl, h1, h2, rfl, h3⟩ := h
  exact ⟨n + 1, av, cap, ps, rws, by rw [h1], by rw [h1, h2], rfl, h3⟩
abbrev AR : Type := (Nat × List Wt.Nd × List Wlx.TV) ⊕ (Int × Int)
def APost (kp : Nat) (en : Int) (r : AR) (w : World) (e : Ending) (w' : World) : Prop := match r with
  | .inl (c, rows, rest) => ∃ sl, e = .returned sl ∧ Pts w' w.heap.size sl c rows ∧ PSt w' kp rest en ∧ w.grownBy w' (some kp)
  | .inr (c, p) => e = stop c p ∧ w.grownBy w' (some kp)
def ArgOk (kp : Nat) (en : Int) (sub : List Wlx.TV → AR) (n : Nat) : Prop :=
  ∀ (ts : List Wlx.TV) (w : World), PSt w kp ts en → ts.length ≤ n → ts.length ≤ 1024 → (∀ t ∈ ts, TokOk t) → Env w → Calls Tryz.prog 195 #[.pointer (some ⟨kp, 0, none⟩)] w fun e w' => APost kp en (sub ts) w e w'
def pca (suba : List Wlx.TV → AR) (en : Int) (nm : List UInt8) (ts : List Wlx.TV) : PR :=
  if Wt.fnNm ⟨nm.toArray⟩ then (match suba (ts.drop 2) with
    | .inr e => .inr e
    | .inl (c, rows, r) => .inl (callN ⟨nm.toArray⟩ c :: rows, r))
  else .inr (50, pos ts en)
set_option maxHeartbeats 8000000 in
set_option maxRecDepth 100000 in
theorem call_any (kp : Nat) (en : Int) (suba : List Wlx.TV → AR) (n : Nat) (HA : ArgOk kp en suba n) (hk8 : 8 ≤ kp) : CallOk kp en (pca suba en) (n + 2) := by
  intro nm ts w h hn hts hok hnm hfo hE
  have hB0 := ball (Below.refl _ w) (.cells #[.int .i64 0, .int .i64 0, .int .i64 0, .int .i64 0, .string ⟨#[]⟩, .bool false, .int .i64 0, .int .i64 0, .string ⟨#[]⟩, .int .i64 0, .string ⟨#[]⟩, .int .i64 0, .int .i64 0, .bool false, .bool false, .string ⟨#[]⟩, .int .i64 0, .int .i64 0, .bool false, .bool false, .slice none 0 0] 56)
  have pZ : AtL (w.alloc (.cells #[.int .i64 0, .int .i64 0, .int .i64 0, .int .i64 0, .string ⟨#[]⟩, .bool false, .int .i64 0, .int .i64 0, .string ⟨#[]⟩, .int .i64 0, .string ⟨#[]⟩, .int .i64 0, .int .i64 0, .bool false, .bool false, .string ⟨#[]⟩, .int .i64 0, .int .i64 0, .bool false, .bool false, .slice none 0 0] 56)) w.heap.size (pt21 (bare 0) (.slice none 0 0)) := AtL.new0 w _ _
  have h0 := h.below hB0
  have hE0 := hE.below hB0
  have hkp := h.lt
  obtain ⟨a, b, r, hr⟩ := fol_cons hfo
  have hlen : nm.length ≤ 1024 := by rw [← hnm]; exact (tokOk_hd en hok).1
  have FN := fun w => tfn_any ⟨nm.toArray⟩ w (by show nm.length ≤ _; omega)
  have M0 := fun w h => must_false kp ts en w h
  unfold pca
  clear hnm hfo
  cases hq : Wt.fnNm ⟨nm.toArray⟩ with
  | false =>
    rw [hq] at FN
    rw [if_neg (by decide)]
    simp only [PPost]
    unfold stop at M0 ⊢
    clear hr
    go_enter Tryz.func185, Tryz.ntmps185
    go_wp2_with fail
    generalize w.alloc (.cells #[.int .i64 0, .int .i64 0, .int .i64 0, .int .i64 0, .string ⟨#[]⟩, .bool false, .int .i64 0, .int .i64 0, .string ⟨#[]⟩, .int .i64 0, .string ⟨#[]⟩, .int .i64 0, .int .i64 0, .bool false, .bool false, .string ⟨#[]⟩, .int .i64 0, .int .i64 0, .bool false, .bool false, .slice none 0 0] 56) = wa at *
    refine (FN _).mono ?_
    rintro e wb ⟨rfl, rfl⟩
    go_wp2_with fail
    refine (M0 _ h0).mono ?_
    rintro e w5 ⟨rfl, hb⟩
    go_wp2
    exact ⟨rfl, rfl, grown_trans (below_grown hB0 (some kp)) (below_grown hb (some kp))⟩
  | true =>
    rw [hq] at FN
    rw [if_pos rfl]
    subst hr
    simp only [List.drop_succ_cons, List.drop_zero]
    cases hs : suba r with
    | inr q =>
      obtain ⟨c, p⟩ := q
      simp only [PPost]
      go_enter Tryz.func185, Tryz.ntmps185
      go_wp2_with fail
      generalize w.alloc (.cells #[.int .i64 0, .int .i64 0, .int .i64 0, .int .i64 0, .string ⟨#[]⟩, .bool false, .int .i64 0, .int .i64 0, .string ⟨#[]⟩, .int .i64 0, .string ⟨#[]⟩, .int .i64 0, .int .i64 0, .bool false, .bool false, .string ⟨#[]⟩, .int .i64 0, .int .i64 0, .bool false, .bool false, .slice none 0 0] 56) = wa at *
      refine (FN _).mono ?_
      rintro e wb ⟨rfl, rfl⟩
      go_wp2_with fail
      refine (must_true kp _).mono ?_
      rintro e w4 ⟨rfl, rfl⟩
      have P := pass_any 2 kp [a, b] r en _ h0 rfl (by decide) hts
      go_wp2_with fail
      refine P.mono ?_
      rintro e w1 ⟨rfl, h1, hg1⟩
      have hz := pZ.lt
      have pZ1 := pZ.grown hg1 (by intro e; have := Option.some.inj e; omega)
      have hG1 := grown_trans (below_grown hB0 (some kp)) hg1
      have hE1 := hE0.grown hg1 hk8
      have hs1 := hg1.size
      clear pZ h0 hB0 hE0 P hg1
      go_wp2_with fail
      refine (HA r _ h1 (by simp at hn; omega) (by simp at hts; omega) (fun t ht => hok t (by simp [ht])) hE1).mono ?_
      rintro e w2 hc
      rw [hs] at hc
      simp only [APost] at hc
      obtain ⟨rfl, hg⟩ := hc
      unfold stop
      go_wp2
      exact ⟨rfl, rfl, grown_trans hG1 hg⟩
    | inl q =>
      obtain ⟨c, rows, r2⟩ := q
      simp only [PPost]
      go_enter Tryz.func185, Tryz.ntmps185
      go_wp2_with fail
      generalize w.alloc (.cells #[.int .i64 0, .int .i64 0, .int .i64 0, .int .i64 0, .string ⟨#[]⟩, .bool false, .int .i64 0, .int .i64 0, .string ⟨#[]⟩, .int .i64 0, .string ⟨#[]⟩, .int .i64 0, .int .i64 0, .bool false, .bool false, .string ⟨#[]⟩, .int .i64 0, .int .i64 0, .bool false, .bool false, .slice none 0 0] 56) = wa at *
      refine (FN _).mono ?_
      rintro e wb ⟨rfl, rfl⟩
      go_wp2_with fail
      refine (must_true kp _).mono ?_
      rintro e w4 ⟨rfl, rfl⟩
      have P := pass_any 2 kp [a, b] r en _ h0 rfl (by decide) hts
      go_wp2_with fail
      refine P.mono ?_
      rintro e w1 ⟨rfl, h1, hg1⟩
      have hz := pZ.lt
      have pZ1 := pZ.grown hg1 (by intro e; have := Option.some.inj e; omega)
      have hG1 := grown_trans (below_grown hB0 (some kp)) hg1
      have hE1 := hE0.grown hg1 hk8
      have hs1 := hg1.size
      clear pZ h0 hB0 hE0 P hg1
      go_wp2_with fail
      refine (HA r _ h1 (by simp at hn; omega) (by simp at hts; omega) (fun t ht => hok t (by simp [ht])) hE1).mono ?_
      rintro e w2 hc
      rw [hs] at hc
      simp only [APost] at hc
      obtain ⟨sl, rfl, hP, h2, hg⟩ := hc
      obtain ⟨nn, hp⟩ := hP.node (callN ⟨nm.toArray⟩ c)
      obtain ⟨_, av, cap, _, _, rfl, _⟩ := hP
      have hz1 := pZ1.lt
      have pZ2 := pZ1.grown hg (by intro e; have := Option.some.inj e; omega)
      have hG2 := grown_trans hG1 hg
      have hth : World.there w2 w.heap.size 0 (pt21 (callN ⟨nm.toArray⟩ c) (.slice av c cap)).toArray.size := pZ2.there
      clear pZ1 hG1 hE1 h1 hg
      go_wp2_with ((with_reducible refine wpList_store_mid ?_ 56 (.tmp 4) (.tmp 19) ?_ (w.heap.size) 0 (pt21 (callN ⟨nm.toArray⟩ c) (.slice av c cap)).toArray ?_ ?_ ?_ ?_ ?_ ?_); rfl; rfl; rfl; rfl; exact hth; kernel_rfl; exact one21 _ _ rfl)
      have pZ9 : AtL (w2.setCells w.heap.size 0 (pt21 (callN ⟨nm.toArray⟩ c) (.slice av c cap))) w.heap.size (pt21 (callN ⟨nm.toArray⟩ c) (.slice av c cap)) := pZ2.setAll rfl
      refine bodyPost_ret (results_cell rfl _ _ w.heap.size (pt21 (callN ⟨nm.toArray⟩ c) (.slice av c cap)) _ rfl pZ9.range Tryz.underlying56 rfl (by kernel_rfl)) rfl ?_
      exact ⟨_, rfl, (Pt.far (show Pt w2 _ (ptV (callN ⟨nm.toArray⟩ c) (.slice av c cap)) _ from ⟨nn, _, _, rfl, hp⟩) (by omega) 0 _).mono (by omega), h2.farAll hkp _ 0, grown_setAll hG2 (Nat.le_refl _) _ 0⟩
open Go.RowKit
def tv3 (t : Wlx.TV) : List Value := [.int .i64 t.k, .string ⟨t.t.toArray⟩, .int .i64 t.p]
def rowV (ts : List Wlx.TV) : List Value := ts.flatMap tv3
theorem rowV_app (a b : List Wlx.TV) : rowV (a ++ b) = rowV a ++ rowV b := by simp [rowV]
theorem rowV_length (ts : List Wlx.TV) : (rowV ts).length = ts.length * 3 := by
  induction ts with
  | nil => rfl
  | cons t r ih =>
    show (tv3 t ++ rowV r).length = _
    rw [List.length_append, ih, List.length_cons]
    show 3 + _ = _
    omega
theorem rowV_get : ∀ (ts : List Wlx.TV) (i : Nat) (h : i < ts.length), (rowV ts)[i * 3]? = some (.int .i64 (ts[i]).k) ∧ (rowV ts)[i * 3 + 1]? = some (.string ⟨(ts[i]).t.toArray⟩) ∧ (rowV ts)[i * 3 + 2]? = some (.int .i64 (ts[i]).p)
  | [], i, h => by simp at h
  | t :: r, 0, _ => ⟨rfl, rfl, rfl⟩
  | t :: r, i + 1, h => by
    obtain ⟨h0, h1, h2⟩ := rowV_get r i (by simpa using h)
    have e : ∀ j, (rowV (t :: r))[j + 3]? = (rowV r)[j]? := fun j => rfl
    rw [show (i + 1) * 3 = i * 3 + 3 by omega, show i * 3 + 3 + 1 = i * 3 + 1 + 3 by omega, show i * 3 + 3 + 2 = i * 3 + 2 + 3 by omega, e, e, e]
    exact ⟨h0, h1, h2⟩
theorem rowV_tv (ts : List Wlx.Tok) : rowV (ts.map Wlx.tv) = rowT ts := by
  induction ts with
  | nil => rfl
  | cons t r ih =>
    show tv3 (Wlx.tv t) ++ rowV (r.map Wlx.tv) = tok3 t ++ rowT r
    rw [ih]; rfl
theorem ReadV.flat {w : World} {av : Option Addr} {len cap : Nat} {ts : List Wlx.TV} (h : ReadV w (.slice av len cap) ts) : ∀ ad, av = some ad → ∀ j u, (rowV ts)[j]? = some u → w.cell? (ad.add j) = some u := by
  obtain ⟨av', cap', e, h⟩ := h
  simp only [Value.slice.injEq] at e
  obtain ⟨rfl, rfl, rfl⟩ := e
  intro ad had j u hu
  have hj : j < ts.length * 3 := by
    have := (List.getElem?_eq_some_iff.1 hu).1
    rw [rowV_length] at this; exact this
  obtain ⟨bb, off, e1, hb, c0, c1, c2⟩ := h (j / 3) (by omega)
  obtain ⟨r0, r1, r2⟩ := rowV_get ts (j / 3) (by omega)
  rw [had] at e1
  obtain rfl := Option.some.inj e1
  have ea : (⟨bb, off, none⟩ : Addr).add j = ⟨bb, off + j, none⟩ := by
    unfold Addr.add
    by_cases h0 : j = 0
    · rw [if_pos h0, h0]; rfl
    · rw [if_neg h0]
  rw [ea]
  have hm : j % 3 = 0 ∨ j % 3 = 1 ∨ j % 3 = 2 := by omega
  rcases hm with hm | hm | hm
  · rw [show j / 3 * 3 = j by omega] at r0
    rw [r0] at hu
    rw [show off + j = off + j / 3 * 3 by omega, c0]; exact hu
  · rw [show j / 3 * 3 + 1 = j by omega] at r1
    rw [r1] at hu
    rw [show off + j = off + j / 3 * 3 + 1 by omega, c1]; exact hu
  · rw [show j / 3 * 3 + 2 = j by omega] at r2
    rw [r2] at hu
    rw [show off + j = off + j / 3 * 3 + 2 by omega, c2]; exact hu
end Go.Proofs.YtlggnpohhahdlaaGreatDoor
