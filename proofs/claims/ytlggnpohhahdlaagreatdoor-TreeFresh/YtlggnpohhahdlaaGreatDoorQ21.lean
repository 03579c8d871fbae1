/- TAll. -/
import Derived.Test.YtlggnpohhahdlaaGreatDoorQ20
namespace Go.Proofs.YtlggnpohhahdlaaGreatDoor
open Go.RowKit Go.Shelf
set_option linter.unusedVariables false
set_option maxHeartbeats 8000000 in
set_option maxRecDepth 100000 in
theorem between_five (kp : Nat) (en : Int) (sub : List Wlx.TV → PR) (n : Nat) (HS : FnOk kp en 92 sub n) : BetOk kp en 5 sub n := by
  intro ts w h hn hts hok hE
  have hB0 := ball (Below.refl _ w) (.cells #[.int .i64 0, .int .i64 0, .int .i64 0, .int .i64 0, .string ⟨#[]⟩, .bool false, .int .i64 0, .int .i64 0, .string ⟨#[]⟩, .int .i64 0, .string ⟨#[]⟩, .int .i64 0, .int .i64 0, .bool false, .bool false, .string ⟨#[]⟩, .int .i64 0, .int .i64 0, .bool false, .bool false, .slice none 0 0] 56)
  have pZ : AtL (w.alloc (.cells #[.int .i64 0, .int .i64 0, .int .i64 0, .int .i64 0, .string ⟨#[]⟩, .bool false, .int .i64 0, .int .i64 0, .string ⟨#[]⟩, .int .i64 0, .string ⟨#[]⟩, .int .i64 0, .int .i64 0, .bool false, .bool false, .string ⟨#[]⟩, .int .i64 0, .int .i64 0, .bool false, .bool false, .slice none 0 0] 56)) w.heap.size (pt21 (bare 0) (.slice none 0 0)) := AtL.new0 w _ _
  have h0 := h.below hB0
  have hE0 := hE.below hB0
  have hkp := h.lt
  cases hs : sub ts with
  | inr q =>
    obtain ⟨c, p⟩ := q
    simp only [PPost]
    go_enter Tryz.func61, Tryz.ntmps61
    have pZ1 := pZ
    have h1 := h0
    have hE1 := hE0
    have hG1 := below_grown hB0 (some kp)
    clear pZ h0 hB0 hE0
    go_wp2_with fail
    refine (HS ts _ h1 hn hts hok hE1).mono ?_
    rintro e w3 hc
    rw [hs] at hc
    simp only [PPost] at hc
    obtain ⟨rfl, hg⟩ := hc
    unfold stop
    go_wp2
    exact ⟨rfl, rfl, grown_trans hG1 hg⟩
  | inl q =>
    obtain ⟨row, r2⟩ := q
    simp only [PPost]
    go_enter Tryz.func61, Tryz.ntmps61
    have pZ1 := pZ
    have h1 := h0
    have hE1 := hE0
    have hG1 := below_grown hB0 (some kp)
    clear pZ h0 hB0 hE0
    have hz1 := pZ1.lt
    go_wp2_with fail
    refine (HS ts _ h1 hn hts hok hE1).mono ?_
    rintro e w3 hc
    rw [hs] at hc
    simp only [PPost] at hc
    obtain ⟨v, rfl, hP, h3, hg⟩ := hc
    have pZ3 := pZ1.grown hg (by intro e; have := Option.some.inj e; omega)
    have hG3 := grown_trans hG1 hg
    obtain ⟨nn, x, sl, rfl, hp⟩ := hP
    obtain ⟨av, len, cap, rfl⟩ := hp.one
    have hth : World.there w3 w.heap.size 0 (pt21 x (.slice av len cap)).toArray.size := pZ3.there
    clear pZ1 hG1 hE1 h1 hg
    unfold ptV
    go_wp2_with ((with_reducible refine wpList_store_mid ?_ 56 (.tmp 4) (.tmp 11) ?_ (w.heap.size) 0 (pt21 x (.slice av len cap)).toArray ?_ ?_ ?_ ?_ ?_ ?_); rfl; rfl; rfl; rfl; exact hth; kernel_rfl; exact one21 _ _ rfl)
    have pZ9 : AtL (w3.setCells w.heap.size 0 (pt21 x (.slice av len cap))) w.heap.size (pt21 x (.slice av len cap)) := pZ3.setAll rfl
    refine bodyPost_ret (results_cell rfl _ _ w.heap.size (pt21 x (.slice av len cap)) _ rfl pZ9.range Tryz.underlying56 rfl (by kernel_rfl)) rfl ?_
    exact ⟨_, rfl, (Pt.far (show Pt w3 _ (ptV x (.slice av len cap)) row from ⟨nn, x, _, rfl, hp⟩) (by omega) 0 _).mono (by omega), h3.farAll hkp _ 0, grown_setAll hG3 (Nat.le_refl _) _ 0⟩
def pall (sub : List Wlx.TV → PR) (en : Int) (ts : List Wlx.TV) : PR := match sub ts with
  | .inr e => .inr e
  | .inl (row, []) => .inl (row, [])
  | .inl (_, t :: r) => .inr (50, pos (t :: r) en)
set_option maxHeartbeats 8000000 in
set_option maxRecDepth 100000 in
theorem all_any (kp : Nat) (en : Int) (sub : List Wlx.TV → PR) (n : Nat) (HF : FormOk kp en sub n) (hsub : ∀ ts row r, sub ts = .inl (row, r) → r <:+ ts) (ts : List Wlx.TV) (w : World) (h : PSt w kp ts en) (hn : ts.length ≤ n) (hts : ts.length ≤ 1024) (hok : ∀ t ∈ ts, TokOk t) (hE : Env w) :
    Calls Tryz.prog 22 #[.pointer (some ⟨kp, 0, none⟩)] w fun e w' => PPost kp en (pall sub en ts) w e w' := by
  have hB0 := ball (Below.refl _ w) (.cells #[.int .i64 0, .int .i64 0, .int .i64 0, .int .i64 0, .string ⟨#[]⟩, .bool false, .int .i64 0, .int .i64 0, .string ⟨#[]⟩, .int .i64 0, .string ⟨#[]⟩, .int .i64 0, .int .i64 0, .bool false, .bool false, .string ⟨#[]⟩, .int .i64 0, .int .i64 0, .bool false, .bool false, .slice none 0 0] 56)
  have pZ : AtL (w.alloc (.cells #[.int .i64 0, .int .i64 0, .int .i64 0, .int .i64 0, .string ⟨#[]⟩, .bool false, .int .i64 0, .int .i64 0, .string ⟨#[]⟩, .int .i64 0, .string ⟨#[]⟩, .int .i64 0, .int .i64 0, .bool false, .bool false, .string ⟨#[]⟩, .int .i64 0, .int .i64 0, .bool false, .bool false, .slice none 0 0] 56)) w.heap.size (pt21 (bare 0) (.slice none 0 0)) := AtL.new0 w _ _
  have h0 := h.below hB0
  have hE0 := hE.below hB0
  have hkp := h.lt
  unfold pall
  cases hs : sub ts with
  | inr q =>
    obtain ⟨c, p⟩ := q
    simp only [PPost]
    go_enter Tryz.func22, Tryz.ntmps22
    go_wp2_with fail
    generalize w.alloc (.cells #[.int .i64 0, .int .i64 0, .int .i64 0, .int .i64 0, .string ⟨#[]⟩, .bool false, .int .i64 0, .int .i64 0, .string ⟨#[]⟩, .int .i64 0, .string ⟨#[]⟩, .int .i64 0, .int .i64 0, .bool false, .bool false, .string ⟨#[]⟩, .int .i64 0, .int .i64 0, .bool false, .bool false, .slice none 0 0] 56) = wa at *
    refine (HF ts _ h0 hn hts hok hE0).mono ?_
    rintro e w2 hc
    rw [hs] at hc
    simp only [PPost] at hc
    obtain ⟨rfl, hg⟩ := hc
    unfold stop
    go_wp2
    exact ⟨rfl, rfl, grown_trans (below_grown hB0 (some kp)) hg⟩
  | inl q =>
    obtain ⟨row, r⟩ := q
    have hl := (hsub _ _ _ hs).length_le
    cases r with
    | cons t r =>
      simp only [PPost]
      have M0 := fun w h => must_false kp (t :: r) en w h
      unfold stop at M0 ⊢
      go_enter Tryz.func22, Tryz.ntmps22
      go_wp2_with fail
      generalize w.alloc (.cells #[.int .i64 0, .int .i64 0, .int .i64 0, .int .i64 0, .string ⟨#[]⟩, .bool false, .int .i64 0, .int .i64 0, .string ⟨#[]⟩, .int .i64 0, .string ⟨#[]⟩, .int .i64 0, .int .i64 0, .bool false, .bool false, .string ⟨#[]⟩, .int .i64 0, .int .i64 0, .bool false, .bool false, .slice none 0 0] 56) = wa at *
      refine (HF ts _ h0 hn hts hok hE0).mono ?_
      rintro e w2 hc
      rw [hs] at hc
      simp only [PPost] at hc
      obtain ⟨v, rfl, hP, h2, hg2⟩ := hc
      have hza := pZ.lt
      have pZ2 := pZ.grown hg2 (by intro e; have := Option.some.inj e; omega)
      have hG2 := grown_trans (below_grown hB0 (some kp)) hg2
      obtain ⟨nn, x, sl, rfl, hp⟩ := hP
      obtain ⟨av, len, cap, rfl⟩ := hp.one
      clear pZ hB0 hE0 h0
      unfold ptV
      have pX0 : AtL (w2.alloc (.cells #[.int .i64 0, .int .i64 0, .int .i64 0, .int .i64 0, .string ⟨#[]⟩, .bool false, .int .i64 0, .int .i64 0, .string ⟨#[]⟩, .int .i64 0, .string ⟨#[]⟩, .int .i64 0, .int .i64 0, .bool false, .bool false, .string ⟨#[]⟩, .int .i64 0, .int .i64 0, .bool false, .bool false, .slice none 0 0] 56)) w2.heap.size (pt21 (bare 0) (.slice none 0 0)) := AtL.new0 w2 _ _
      have hthX : World.there (w2.alloc (.cells #[.int .i64 0, .int .i64 0, .int .i64 0, .int .i64 0, .string ⟨#[]⟩, .bool false, .int .i64 0, .int .i64 0, .string ⟨#[]⟩, .int .i64 0, .string ⟨#[]⟩, .int .i64 0, .int .i64 0, .bool false, .bool false, .string ⟨#[]⟩, .int .i64 0, .int .i64 0, .bool false, .bool false, .slice none 0 0] 56)) w2.heap.size 0 (pt21 x (.slice av len cap)).toArray.size := pX0.there
      go_upto_region 2 with ((with_reducible refine wpList_store_mid ?_ 56 (.tmp 3) (.tmp 5) ?_ (w2.heap.size) 0 (pt21 x (.slice av len cap)).toArray ?_ ?_ ?_ ?_ ?_ ?_); rfl; rfl; rfl; rfl; exact hthX; kernel_rfl; exact one21 _ _ rfl)
      have hbX := bset (ball (Below.refl _ w2) (.cells #[.int .i64 0, .int .i64 0, .int .i64 0, .int .i64 0, .string ⟨#[]⟩, .bool false, .int .i64 0, .int .i64 0, .string ⟨#[]⟩, .int .i64 0, .string ⟨#[]⟩, .int .i64 0, .int .i64 0, .bool false, .bool false, .string ⟨#[]⟩, .int .i64 0, .int .i64 0, .bool false, .bool false, .slice none 0 0] 56)) (Nat.le_refl w2.heap.size) (pt21 x (.slice av len cap)) 0
      have pX : AtL ((w2.alloc (.cells #[.int .i64 0, .int .i64 0, .int .i64 0, .int .i64 0, .string ⟨#[]⟩, .bool false, .int .i64 0, .int .i64 0, .string ⟨#[]⟩, .int .i64 0, .string ⟨#[]⟩, .int .i64 0, .int .i64 0, .bool false, .bool false, .string ⟨#[]⟩, .int .i64 0, .int .i64 0, .bool false, .bool false, .slice none 0 0] 56)).setCells w2.heap.size 0 (pt21 x (.slice av len cap))) w2.heap.size (pt21 x (.slice av len cap)) := pX0.setAll rfl
      have pZ3 := AtL.below hbX pZ2
      have h3 := h2.below hbX
      have hG3 := grown_trans hG2 (below_grown hbX (some kp))
      have hP3 := Pt.below (v := ptV x (.slice av len cap)) ⟨nn, x, _, rfl, hp⟩ hbX
      have hkx : kp < w2.heap.size := h2.lt
      have hzx := pZ2.lt
      clear pX0 hthX hbX pZ2 h2 hG2 hp
      generalize (w2.alloc (.cells #[.int .i64 0, .int .i64 0, .int .i64 0, .int .i64 0, .string ⟨#[]⟩, .bool false, .int .i64 0, .int .i64 0, .string ⟨#[]⟩, .int .i64 0, .string ⟨#[]⟩, .int .i64 0, .int .i64 0, .bool false, .bool false, .string ⟨#[]⟩, .int .i64 0, .int .i64 0, .bool false, .bool false, .slice none 0 0] 56)).setCells w2.heap.size 0 (pt21 x (.slice av len cap)) = w3 at *
      generalize w2.heap.size = kx at *
      have h3s := h3
      obtain ⟨tv, tc, q1, q2, q3⟩ := h3s
      obtain ⟨c0, c1, f0, f1⟩ := q2.two
      have hm0 : (((t :: r).length : Int) == 0) = false := by rw [beq_eq_false_iff_ne]; simp; omega
      clear q1 q2 q3 h
      generalize (t :: r).length = ln at *
      go_wp2_with fail
      refine (M0 _ h3).mono ?_
      rintro e w5 ⟨rfl, hb⟩
      go_wp2
      exact ⟨rfl, rfl, grown_trans hG3 (below_grown hb (some kp))⟩
    | nil =>
      simp only [PPost]
      go_enter Tryz.func22, Tryz.ntmps22
      go_wp2_with fail
      generalize w.alloc (.cells #[.int .i64 0, .int .i64 0, .int .i64 0, .int .i64 0, .string ⟨#[]⟩, .bool false, .int .i64 0, .int .i64 0, .string ⟨#[]⟩, .int .i64 0, .string ⟨#[]⟩, .int .i64 0, .int .i64 0, .bool false, .bool false, .string ⟨#[]⟩, .int .i64 0, .int .i64 0, .bool false, .bool false, .slice none 0 0] 56) = wa at *
      refine (HF ts _ h0 hn hts hok hE0).mono ?_
      rintro e w2 hc
      rw [hs] at hc
      simp only [PPost] at hc
      obtain ⟨v, rfl, hP, h2, hg2⟩ := hc
      have hza := pZ.lt
      have pZ2 := pZ.grown hg2 (by intro e; have := Option.some.inj e; omega)
      have hG2 := grown_trans (below_grown hB0 (some kp)) hg2
      obtain ⟨nn, x, sl, rfl, hp⟩ := hP
      obtain ⟨av, len, cap, rfl⟩ := hp.one
      clear pZ hB0 hE0 h0
      unfold ptV
      have pX0 : AtL (w2.alloc (.cells #[.int .i64 0, .int .i64 0, .int .i64 0, .int .i64 0, .string ⟨#[]⟩, .bool false, .int .i64 0, .int .i64 0, .string ⟨#[]⟩, .int .i64 0, .string ⟨#[]⟩, .int .i64 0, .int .i64 0, .bool false, .bool false, .string ⟨#[]⟩, .int .i64 0, .int .i64 0, .bool false, .bool false, .slice none 0 0] 56)) w2.heap.size (pt21 (bare 0) (.slice none 0 0)) := AtL.new0 w2 _ _
      have hthX : World.there (w2.alloc (.cells #[.int .i64 0, .int .i64 0, .int .i64 0, .int .i64 0, .string ⟨#[]⟩, .bool false, .int .i64 0, .int .i64 0, .string ⟨#[]⟩, .int .i64 0, .string ⟨#[]⟩, .int .i64 0, .int .i64 0, .bool false, .bool false, .string ⟨#[]⟩, .int .i64 0, .int .i64 0, .bool false, .bool false, .slice none 0 0] 56)) w2.heap.size 0 (pt21 x (.slice av len cap)).toArray.size := pX0.there
      go_upto_region 2 with ((with_reducible refine wpList_store_mid ?_ 56 (.tmp 3) (.tmp 5) ?_ (w2.heap.size) 0 (pt21 x (.slice av len cap)).toArray ?_ ?_ ?_ ?_ ?_ ?_); rfl; rfl; rfl; rfl; exact hthX; kernel_rfl; exact one21 _ _ rfl)
      have hbX := bset (ball (Below.refl _ w2) (.cells #[.int .i64 0, .int .i64 0, .int .i64 0, .int .i64 0, .string ⟨#[]⟩, .bool false, .int .i64 0, .int .i64 0, .string ⟨#[]⟩, .int .i64 0, .string ⟨#[]⟩, .int .i64 0, .int .i64 0, .bool false, .bool false, .string ⟨#[]⟩, .int .i64 0, .int .i64 0, .bool false, .bool false, .slice none 0 0] 56)) (Nat.le_refl w2.heap.size) (pt21 x (.slice av len cap)) 0
      have pX : AtL ((w2.alloc (.cells #[.int .i64 0, .int .i64 0, .int .i64 0, .int .i64 0, .string ⟨#[]⟩, .bool false, .int .i64 0, .int .i64 0, .string ⟨#[]⟩, .int .i64 0, .string ⟨#[]⟩, .int .i64 0, .int .i64 0, .bool false, .bool false, .string ⟨#[]⟩, .int .i64 0, .int .i64 0, .bool false, .bool false, .slice none 0 0] 56)).setCells w2.heap.size 0 (pt21 x (.slice av len cap))) w2.heap.size (pt21 x (.slice av len cap)) := pX0.setAll rfl
      have pZ3 := AtL.below hbX pZ2
      have h3 := h2.below hbX
      have hG3 := grown_trans hG2 (below_grown hbX (some kp))
      have hP3 := Pt.below (v := ptV x (.slice av len cap)) ⟨nn, x, _, rfl, hp⟩ hbX
      have hkx : kp < w2.heap.size := h2.lt
      have hzx := pZ2.lt
      clear pX0 hthX hbX pZ2 h2 hG2 hp
      generalize (w2.alloc (.cells #[.int .i64 0, .int .i64 0, .int .i64 0, .int .i64 0, .string ⟨#[]⟩, .bool false, .int .i64 0, .int .i64 0, .string ⟨#[]⟩, .int .i64 0, .string ⟨#[]⟩, .int .i64 0, .int .i64 0, .bool false, .bool false, .string ⟨#[]⟩, .int .i64 0, .int .i64 0, .bool false, .bool false, .slice none 0 0] 56)).setCells w2.heap.size 0 (pt21 x (.slice av len cap)) = w3 at *
      generalize w2.heap.size = kx at *
      have h3s := h3
      obtain ⟨tv, tc, q1, q2, q3⟩ := h3s
      obtain ⟨c0, c1, f0, f1⟩ := q2.two
      simp only [List.length_nil] at c0
      go_wp2_with fail
      refine (must_true kp _).mono ?_
      rintro e w5 ⟨rfl, rfl⟩
      have rX := pX.range
      have hth : World.there w3 w.heap.size 0 (pt21 x (.slice av len cap)).toArray.size := pZ3.there
      go_wp2_with (first | ((with_reducible refine wpList_load_mid (cs := pt21 x (.slice av len cap)) ?_ 56 (.tmp 3) ?_ kx 0 ?_ _ ?_ Tryz.underlying56 ?_ ?_ ?_); rfl; rfl; rfl; exact rX; rfl; kernel_rfl) | ((with_reducible refine wpList_store_mid ?_ 56 (.tmp 2) (.tmp 14) ?_ (w.heap.size) 0 (pt21 x (.slice av len cap)).toArray ?_ ?_ ?_ ?_ ?_ ?_); rfl; rfl; rfl; rfl; exact hth; kernel_rfl; exact one21 _ _ rfl))
      have pZ9 : AtL (w3.setCells w.heap.size 0 (pt21 x (.slice av len cap))) w.heap.size (pt21 x (.slice av len cap)) := pZ3.setAll rfl
      refine bodyPost_ret (results_cell rfl _ _ w.heap.size (pt21 x (.slice av len cap)) _ rfl pZ9.range Tryz.underlying56 rfl (by kernel_rfl)) rfl ?_
      exact ⟨_, rfl, (hP3.far (by omega) 0 _).mono (by omega), h3.farAll hkp _ 0, grown_setAll hG3 (Nat.le_refl _) _ 0⟩
end Go.Proofs.YtlggnpohhahdlaaGreatDoor
