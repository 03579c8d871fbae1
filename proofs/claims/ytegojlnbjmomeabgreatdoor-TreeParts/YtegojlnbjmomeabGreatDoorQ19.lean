/- TLitP. -/
import Derived.Test.YtegojlnbjmomeabGreatDoorQ18
/- A literal, read off the tokens. -/
namespace Go.Proofs.YtegojlnbjmomeabGreatDoor
open Go.RowKit Go.Shelf
set_option linter.unusedVariables false

/-- What a reading comes to: a row and the tokens that are left, or an error and its place. -/
abbrev PR : Type := (List Wt.Nd × List Wlx.TV) ⊕ (Int × Int)
def PPost (kp : Nat) (en : Int) (r : PR) (w : World) (e : Ending) (w' : World) : Prop := match r with
  | .inl (row, rest) => ∃ v, e = .returned v ∧ Pt w' w.heap.size v row ∧ PSt w' kp rest en ∧ w.grownBy w' (some kp)
  | .inr (c, p) => e = stop c p ∧ w.grownBy w' (some kp)
theorem PSt.farAll {w : World} {kp : Nat} {ts : List Wlx.TV} {en : Int} (h : PSt w kp ts en) {b : Nat} (hb : kp < b) : ∀ (vs : List Value) (o : Nat), PSt (w.setCells b o vs) kp ts en := by
  intro vs
  induction vs generalizing w with
  | nil => intro o; exact h
  | cons v r ih => intro o; rw [World.setCells]; exact ih (h.far hb o v) (o + 1)
theorem grown_setAll {w W : World} {row : Option Nat} (h : w.grownBy W row) {b : Nat} (hb : w.heap.size ≤ b) : ∀ (vs : List Value) (o : Nat), w.grownBy (W.setCells b o vs) row := by
  intro vs
  induction vs generalizing W with
  | nil => intro o; exact h
  | cons v r ih => intro o; rw [World.setCells]; exact ih (grown_set h hb o v) (o + 1)
/-- A literal that comes next. -/
def pl (ts : List Wlx.TV) (en : Int) : PR := match litV (hd ts en) with
  | some v => .inl ([leafN v], ts.tail)
  | none => .inr (50, pos ts en)
theorem litV_cons {ts : List Wlx.TV} {en : Int} {v : Wt.Vl} (h : litV (hd ts en) = some v) : ∃ r, ts = hd ts en :: r := by
  cases ts with
  | nil => exact absurd h (by simp [litV, hd])
  | cons t r => exact ⟨r, rfl⟩
theorem tokOk_hd {ts : List Wlx.TV} (en : Int) (h : ∀ t ∈ ts, TokOk t) : TokOk (hd ts en) := by
  cases ts with
  | nil => exact ⟨by show 0 ≤ 1024; omega, fun h => absurd h (by show ¬ (0 : Int) = 4; decide)⟩
  | cons t r => exact h t (by simp)
set_option maxHeartbeats 8000000 in
set_option maxRecDepth 100000 in
theorem literal_any (kp : Nat) (ts : List Wlx.TV) (en : Int) (w : World) (h : PSt w kp ts en) (hts : ts.length ≤ 1024) (hok : ∀ t ∈ ts, TokOk t) (hE : Env w) (hk8 : 8 ≤ kp) : Calls Tryz.prog 105 #[.pointer (some ⟨kp, 0, none⟩)] w fun e w' => PPost kp en (pl ts en) w e w' := by
  have hB0 := ball (Below.refl _ w) (.cells #[.int .i64 0, .int .i64 0, .int .i64 0, .int .i64 0, .string ⟨#[]⟩, .bool false, .int .i64 0, .int .i64 0, .string ⟨#[]⟩, .int .i64 0, .string ⟨#[]⟩, .int .i64 0, .int .i64 0, .bool false, .bool false, .string ⟨#[]⟩, .int .i64 0, .int .i64 0, .bool false, .bool false, .slice none 0 0] 60)
  have pZ : AtL (w.alloc (.cells #[.int .i64 0, .int .i64 0, .int .i64 0, .int .i64 0, .string ⟨#[]⟩, .bool false, .int .i64 0, .int .i64 0, .string ⟨#[]⟩, .int .i64 0, .string ⟨#[]⟩, .int .i64 0, .int .i64 0, .bool false, .bool false, .string ⟨#[]⟩, .int .i64 0, .int .i64 0, .bool false, .bool false, .slice none 0 0] 60)) w.heap.size (pt21 (bare 0) (.slice none 0 0)) := AtL.new0 w _ _
  have h0 := h.below hB0
  have hE0 := hE.below hB0
  have N := fun w h => next_any kp ts en w h
  have LV := fun w h => litv_any (hd ts en) w h (tokOk_hd en hok)
  have M0 := fun w h => must_false kp ts en w h
  have LC := fun v => @litV_cons ts en v
  unfold pl
  unfold pos at M0 ⊢
  obtain ⟨t, ht⟩ : ∃ t, hd ts en = t := ⟨_, rfl⟩
  rw [ht] at N M0 LV LC ⊢
  clear ht
  cases hl : litV t with
  | none =>
    simp only
    unfold stop at M0
    go_enter Tryz.func105, Tryz.ntmps105
    go_wp2_with fail
    generalize w.alloc (.cells #[.int .i64 0, .int .i64 0, .int .i64 0, .int .i64 0, .string ⟨#[]⟩, .bool false, .int .i64 0, .int .i64 0, .string ⟨#[]⟩, .int .i64 0, .string ⟨#[]⟩, .int .i64 0, .int .i64 0, .bool false, .bool false, .string ⟨#[]⟩, .int .i64 0, .int .i64 0, .bool false, .bool false, .slice none 0 0] 60) = wa at *
    refine (N _ h0).mono ?_
    rintro e w1 ⟨rfl, hb⟩
    have h1 := h0.below hb
    have hB1 := below_end hB0 hb
    have hE1 := hE0.below hb
    clear hb h0 hB0 hE0
    go_wp2_with fail
    refine (LV _ hE1.2.1).mono ?_
    rintro e w2 ⟨⟨v, ok, rfl, hv⟩, hb⟩
    rw [hl] at hv
    have hk : ok = false := by
      cases ok with
      | false => rfl
      | true => exact absurd hv (by simp)
    subst hk
    obtain ⟨v1, v2, v3, v4, v5, v6⟩ := v
    simp only [vlV, vl6]
    have h2 := (h1.below hb).below (ball (Below.refl _ w2) (.cells #[.int .i64 v1, .int .i64 v2, .int .i64 v3, .string v4, .bool v5, .int .i64 v6] 38))
    have hB2 := ball (below_end hB1 hb) (.cells #[.int .i64 v1, .int .i64 v2, .int .i64 v3, .string v4, .bool v5, .int .i64 v6] 38)
    clear hb h1 hB1
    go_wp2_with fail
    refine (M0 _ h2).mono ?_
    rintro e w3 ⟨rfl, hb⟩
    have hB3 := below_end hB2 hb
    go_wp2
    exact ⟨rfl, rfl, below_grown hB3 _⟩
  | some v =>
    simp only
    obtain ⟨r, hr⟩ := LC v hl
    have hkp := h.lt
    have KC := fun w => const_any v w
    go_enter Tryz.func105, Tryz.ntmps105
    go_wp2_with fail
    generalize w.alloc (.cells #[.int .i64 0, .int .i64 0, .int .i64 0, .int .i64 0, .string ⟨#[]⟩, .bool false, .int .i64 0, .int .i64 0, .string ⟨#[]⟩, .int .i64 0, .string ⟨#[]⟩, .int .i64 0, .int .i64 0, .bool false, .bool false, .string ⟨#[]⟩, .int .i64 0, .int .i64 0, .bool false, .bool false, .slice none 0 0] 60) = wa at *
    refine (N _ h0).mono ?_
    rintro e w1 ⟨rfl, hb⟩
    have h1 := h0.below hb
    have hB1 := below_end hB0 hb
    have hE1 := hE0.below hb
    have pZ1 := AtL.below hb pZ
    clear hb h0 hB0 hE0 pZ
    go_wp2_with fail
    refine (LV _ hE1.2.1).mono ?_
    rintro e w2 ⟨⟨v', ok, rfl, hv⟩, hb⟩
    rw [hl] at hv
    have hk : ok = true ∧ v = v' := by
      cases ok with
      | false => exact absurd hv (by simp)
      | true => exact ⟨rfl, by simpa using hv⟩
    obtain ⟨rfl, rfl⟩ := hk
    obtain ⟨v1, v2, v3, v4, v5, v6⟩ := v
    simp only [vlV, vl6] at KC ⊢
    have h2 := (h1.below hb).below (ball (Below.refl _ w2) (.cells #[.int .i64 v1, .int .i64 v2, .int .i64 v3, .string v4, .bool v5, .int .i64 v6] 38))
    have hB2 := ball (below_end hB1 hb) (.cells #[.int .i64 v1, .int .i64 v2, .int .i64 v3, .string v4, .bool v5, .int .i64 v6] 38)
    have pZ2 := (AtL.below hb pZ1).alloc (.cells #[.int .i64 v1, .int .i64 v2, .int .i64 v3, .string v4, .bool v5, .int .i64 v6] 38)
    have pY2 := AtL.new0 w2 38 [.int .i64 v1, .int .i64 v2, .int .i64 v3, .string v4, .bool v5, .int .i64 v6]
    have hlt2 := (AtL.below hb pZ1).lt
    clear hb h1 hB1 pZ1 hl hv LC M0
    subst hr
    have P := pass_any 1 kp [t] r en _ h2 rfl (by decide) hts
    go_wp2_with fail
    refine (must_true kp _).mono ?_
    rintro e w3 ⟨rfl, rfl⟩
    go_wp2_with fail
    refine P.mono ?_
    rintro e w3 ⟨rfl, hp, hg⟩
    have pZ3 := pZ2.grown hg (by intro e; have := Option.some.inj e; omega)
    have pY3 := pY2.grown hg (by intro e; have := Option.some.inj e; omega)
    have hG := grown_trans (below_grown hB2 (some kp)) hg
    clear P h2 hB2 pZ2 pY2 hg
    obtain ⟨y0, y1, y2, y3, y4, y5⟩ := pY3.f6
    go_wp2_with fail
    refine (KC _).mono ?_
    rintro e w4 ⟨rfl, hb⟩
    have pZ4 := AtL.below hb pZ3
    have hp4 := hp.below hb
    have hG4 := grown_trans hG (below_grown hb (some kp))
    have hth : World.there w4 w.heap.size 0 (pt21 (leafN ⟨v1, v2, v3, v4, v5, v6⟩) (.slice none 0 0)).toArray.size := pZ4.there
    clear pZ3 hp hG hb y0 y1 y2 y3 y4 y5 pY3
    unfold ptV
    go_wp2_with ((with_reducible refine wpList_store_mid ?_ 60 (.tmp 2) (.tmp 17) ?_ (w.heap.size) 0 (pt21 (leafN ⟨v1, v2, v3, v4, v5, v6⟩) (.slice none 0 0)).toArray ?_ ?_ ?_ ?_ ?_ ?_); rfl; rfl; rfl; rfl; exact hth; kernel_rfl; exact one21 _ _ rfl)
    have pZ5 : AtL (w4.setCells w.heap.size 0 (pt21 (leafN ⟨v1, v2, v3, v4, v5, v6⟩) (.slice none 0 0))) w.heap.size (pt21 (leafN ⟨v1, v2, v3, v4, v5, v6⟩) (.slice none 0 0)) := pZ4.setAll rfl
    refine bodyPost_ret (results_cell rfl _ _ w.heap.size (pt21 (leafN ⟨v1, v2, v3, v4, v5, v6⟩) (.slice none 0 0)) _ rfl pZ5.range Tryz.underlying60 rfl (by kernel_rfl)) rfl ?_
    exact ⟨_, rfl, ⟨1, _, _, rfl, PtIs.leaf _ _ _⟩, hp4.farAll hkp _ 0, grown_setAll hG4 (Nat.le_refl _) _ 0⟩
end Go.Proofs.YtegojlnbjmomeabGreatDoor
