/- TPartB, TPartC, TCell, TLitP. -/
import Derived.Test.YtlggnpohhahdlaaGreatDoorQ15
namespace Go.Proofs.YtlggnpohhahdlaaGreatDoor
open Go.RowKit Go.Shelf
set_option linter.unusedVariables false
theorem one21 (x : Wt.Nd) (sl : Value) (h : sl.oneCell' = true) : (pt21 x sl).toArray.all (·.oneCell') = true := all_oneCell_toArray (fun v hv => by
  unfold pt21 at hv
  rcases List.mem_append.1 hv with h1 | h1
  · exact one20l x v h1
  · simp only [List.mem_cons, List.not_mem_nil, or_false] at h1
    rw [h1]; exact h)
def leafN (v : Wt.Vl) : Wt.Nd := ⟨1, v, 0, ⟨#[]⟩, 0, Wt.r0, Wt.r0⟩
set_option maxHeartbeats 2000000 in
set_option maxRecDepth 100000 in
theorem const_any (v : Wt.Vl) (w : World) : Calls Tryz.prog 187 #[vlV v] w fun e w' => e = .returned (ptV (leafN v) (.slice none 0 0)) ∧ Below w.heap.size w w' := by
  obtain ⟨vk, vn, vd, vt, vb, vf⟩ := v
  show Calls _ _ #[.agg #[.int .i64 vk, .int .i64 vn, .int .i64 vd, .string vt, .bool vb, .int .i64 vf]] _ _
  have pR : AtL ((w.alloc (.cells #[.int .i64 vk, .int .i64 vn, .int .i64 vd, .string vt, .bool vb, .int .i64 vf] 41)).alloc (.cells #[.int .i64 0, .int .i64 0, .int .i64 0, .int .i64 0, .string ⟨#[]⟩, .bool false, .int .i64 0, .int .i64 0, .string ⟨#[]⟩, .int .i64 0, .string ⟨#[]⟩, .int .i64 0, .int .i64 0, .bool false, .bool false, .string ⟨#[]⟩, .int .i64 0, .int .i64 0, .bool false, .bool false, .slice none 0 0] 56)) (w.heap.size + 1) (pt21 (bare 0) (.slice none 0 0)) := AtL.new1 w _ _ _
  have hth : World.there ((w.alloc (.cells #[.int .i64 vk, .int .i64 vn, .int .i64 vd, .string vt, .bool vb, .int .i64 vf] 41)).alloc (.cells #[.int .i64 0, .int .i64 0, .int .i64 0, .int .i64 0, .string ⟨#[]⟩, .bool false, .int .i64 0, .int .i64 0, .string ⟨#[]⟩, .int .i64 0, .string ⟨#[]⟩, .int .i64 0, .int .i64 0, .bool false, .bool false, .string ⟨#[]⟩, .int .i64 0, .int .i64 0, .bool false, .bool false, .slice none 0 0] 56)) (w.heap.size + 1) 0 (pt21 ⟨1, ⟨vk, vn, vd, vt, vb, vf⟩, 0, ⟨#[]⟩, 0, Wt.r0, Wt.r0⟩ (.slice none 0 0)).toArray.size := pR.there
  have pR2 : AtL (((w.alloc (.cells #[.int .i64 vk, .int .i64 vn, .int .i64 vd, .string vt, .bool vb, .int .i64 vf] 41)).alloc (.cells #[.int .i64 0, .int .i64 0, .int .i64 0, .int .i64 0, .string ⟨#[]⟩, .bool false, .int .i64 0, .int .i64 0, .string ⟨#[]⟩, .int .i64 0, .string ⟨#[]⟩, .int .i64 0, .int .i64 0, .bool false, .bool false, .string ⟨#[]⟩, .int .i64 0, .int .i64 0, .bool false, .bool false, .slice none 0 0] 56)).setCells (w.heap.size + 1) 0 (pt21 ⟨1, ⟨vk, vn, vd, vt, vb, vf⟩, 0, ⟨#[]⟩, 0, Wt.r0, Wt.r0⟩ (.slice none 0 0))) (w.heap.size + 1) (pt21 ⟨1, ⟨vk, vn, vd, vt, vb, vf⟩, 0, ⟨#[]⟩, 0, Wt.r0, Wt.r0⟩ (.slice none 0 0)) := pR.setAll rfl
  have hB := bset (ball (ball (Below.refl _ w) (.cells #[.int .i64 vk, .int .i64 vn, .int .i64 vd, .string vt, .bool vb, .int .i64 vf] 41)) (.cells #[.int .i64 0, .int .i64 0, .int .i64 0, .int .i64 0, .string ⟨#[]⟩, .bool false, .int .i64 0, .int .i64 0, .string ⟨#[]⟩, .int .i64 0, .string ⟨#[]⟩, .int .i64 0, .int .i64 0, .bool false, .bool false, .string ⟨#[]⟩, .int .i64 0, .int .i64 0, .bool false, .bool false, .slice none 0 0] 56)) (Nat.le_succ w.heap.size) (pt21 ⟨1, ⟨vk, vn, vd, vt, vb, vf⟩, 0, ⟨#[]⟩, 0, Wt.r0, Wt.r0⟩ (.slice none 0 0)) 0
  go_enter Tryz.func187, Tryz.ntmps187
  go_upto_region 1 with fail
  go_wp2_with ((with_reducible refine wpList_store_mid ?_ 56 (.tmp 2) (.tmp 5) ?_ (w.heap.size + 1) 0 (pt21 ⟨1, ⟨vk, vn, vd, vt, vb, vf⟩, 0, ⟨#[]⟩, 0, Wt.r0, Wt.r0⟩ (.slice none 0 0)).toArray ?_ ?_ ?_ ?_ ?_ ?_); rfl; rfl; rfl; rfl; exact hth; kernel_rfl; exact one21 _ _ rfl)
  refine bodyPost_ret (results_cell rfl _ _ (w.heap.size + 1) (pt21 ⟨1, ⟨vk, vn, vd, vt, vb, vf⟩, 0, ⟨#[]⟩, 0, Wt.r0, Wt.r0⟩ (.slice none 0 0)) _ rfl pR2.range Tryz.underlying56 rfl (by kernel_rfl)) rfl ⟨rfl, hB⟩
abbrev OpS (ka kb : Nat) (o : Int) (m : ByteArray) (t : Int) (W : World) : Prop :=
  W.cell? ⟨ka, 0, none⟩ = some (.int .i64 o) ∧ W.cell? ⟨ka, 1, none⟩ = some (.string m) ∧ W.cell? ⟨ka, 2, none⟩ = some (.int .i64 t)
theorem OpS_mk {ka kb : Nat} {o : Int} {m : ByteArray} {t : Int} {W : World} (h : AtL W ka [.int .i64 o, .string m, .int .i64 t]) : OpS ka kb o m t W := h.f3
def opN (k o : Int) : Wt.Nd := ⟨k, Wt.v0, o, ⟨#[]⟩, 0, Wt.r0, Wt.r0⟩
def opKd (t : Int) : Int := if t < 5 then 5 else 4
set_option maxHeartbeats 4000000 in
set_option maxRecDepth 100000 in
theorem operation_any (o : Int) (m : ByteArray) (t : Int) (av : Option Addr) (len cap : Nat) (w : World) : Calls Tryz.prog 94 #[.agg #[.int .i64 o, .string m, .int .i64 t], .slice av len cap] w fun e w' => e = .returned (ptV (opN (opKd t) o) (.slice av len cap)) ∧ Below w.heap.size w w' := by
  have C := fun w => tkind_any o m t w
  have pA := (AtL.new0 w 118 [.int .i64 o, .string m, .int .i64 t]).alloc (.cells #[.int .i64 0, .int .i64 0, .int .i64 0, .int .i64 0, .string ⟨#[]⟩, .bool false, .int .i64 0, .int .i64 0, .string ⟨#[]⟩, .int .i64 0, .string ⟨#[]⟩, .int .i64 0, .int .i64 0, .bool false, .bool false, .string ⟨#[]⟩, .int .i64 0, .int .i64 0, .bool false, .bool false, .slice none 0 0] 56)
  have pR : AtL ((w.alloc (.cells #[.int .i64 o, .string m, .int .i64 t] 118)).alloc (.cells #[.int .i64 0, .int .i64 0, .int .i64 0, .int .i64 0, .string ⟨#[]⟩, .bool false, .int .i64 0, .int .i64 0, .string ⟨#[]⟩, .int .i64 0, .string ⟨#[]⟩, .int .i64 0, .int .i64 0, .bool false, .bool false, .string ⟨#[]⟩, .int .i64 0, .int .i64 0, .bool false, .bool false, .slice none 0 0] 56)) (w.heap.size + 1) (pt21 (bare 0) (.slice none 0 0)) := AtL.new1 w _ _ _
  have hB0 := ball (ball (Below.refl _ w) (.cells #[.int .i64 o, .string m, .int .i64 t] 118)) (.cells #[.int .i64 0, .int .i64 0, .int .i64 0, .int .i64 0, .string ⟨#[]⟩, .bool false, .int .i64 0, .int .i64 0, .string ⟨#[]⟩, .int .i64 0, .string ⟨#[]⟩, .int .i64 0, .int .i64 0, .bool false, .bool false, .string ⟨#[]⟩, .int .i64 0, .int .i64 0, .bool false, .bool false, .slice none 0 0] 56)
  unfold opKd
  generalize (if t < 5 then (5 : Int) else 4) = kd at *
  go_enter Tryz.func94, Tryz.ntmps94
  go_upto_region 1 with fail
  refine wp_region_held_drew (S := OpS w.heap.size (w.heap.size + 1) o m t) (by kernel_rfl) (OpS_mk (AtL.drew pA)) (fun hHeld => ?_)
  refine tkQ 0 { dst := some 5, op := .load 118 (.tmp 2), type := 118, pos := "parse.go:51", after := #[], guard := none } ?_; try simp only [Act.put, lA, lZ, lS]
  refine tkQ 2 { dst := some 7, op := .fieldAddr 118 (.tmp 2) 0, type := 0, pos := "parse.go:51", after := #[], guard := none } ?_; try simp only [Act.put, lA, lZ, lS]
  refine tkQ 3 { dst := some 8, op := .load 3 (.tmp 7), type := 3, pos := "parse.go:51", after := #[⟨2, .data⟩], guard := none } ?_; try simp only [Act.put, lA, lZ, lS]
  refine tkQ 5 { dst := some 10, op := .move (.tmp 1), type := 54, pos := "parse.go:51", after := #[], guard := none } ?_; try simp only [Act.put, lA, lZ, lS]
  refine wpAnyH_ready (rs := [1]) (by kernel_rfl) (by simp) ?_
  refine AllReadyH.cons (o := { dst := some 6, op := .call { callee := Callee.value (Operand.func 83), args := #[.tmp 5], argTypes := #[118] }, type := 3, pos := "parse.go:51", after := #[⟨0, .data⟩], guard := none }) rfl (fun K hK => ?_) AllReadyH.nil
  go_simp
  refine (C _).mono ?_
  rintro e w1 ⟨rfl, hb⟩
  have pA1 := AtL.below hb (AtL.drew pA)
  have pR1 := AtL.below hb (AtL.drew pR)
  have hB1 := below_end hB0.drew hb
  clear hb
  go_wp2_with fail
  refine hK.out _ _ (OpS_mk pA1) (fun hHeld => ?_)
  clear hK K
  try simp only [Act.put, lA, lZ, lS]
  refine tkQ 4 { dst := some 9, op := .build 45 #[(0, .tmp 6), (2, .tmp 8)], type := 45, pos := "parse.go:51", after := #[⟨1, .data⟩, ⟨3, .data⟩], guard := none } ?_; try simp only [Act.put, lA, lZ, lS]
  refine tkQ 6 { dst := some 11, op := .build 56 #[(0, .tmp 9), (1, .tmp 10)], type := 56, pos := "parse.go:51", after := #[⟨4, .data⟩, ⟨5, .data⟩], guard := none } ?_; try simp only [Act.put, lA, lZ, lS]
  refine wpAnyH_ready (rs := [7]) (by kernel_rfl) (by simp) ?_
  refine AllReadyH.cons (o := { dst := none, op := .store 56 (.tmp 4) (.tmp 11), type := 0, pos := "parse.go:51", after := #[⟨6, .data⟩, ⟨1, .chain⟩, ⟨0, .phase⟩, ⟨1, .phase⟩, ⟨2, .phase⟩, ⟨3, .phase⟩, ⟨4, .phase⟩, ⟨5, .phase⟩, ⟨6, .phase⟩], guard := none }) rfl (fun K hK => ?_) AllReadyH.nil
  refine wp_store_mid 56 (.tmp 4) (.tmp 11) rfl (w.heap.size + 1) 0 (pt21 (opN kd o) (.slice av len cap)).toArray rfl rfl pR1.there (by kernel_rfl) (one21 _ _ rfl) ?_
  have pR2 : AtL (w1.setCells (w.heap.size + 1) 0 (pt21 (opN kd o) (.slice av len cap))) (w.heap.size + 1) (pt21 (opN kd o) (.slice av len cap)) := pR1.setAll rfl
  have hB2 : Below w.heap.size w (w1.setCells (w.heap.size + 1) 0 (pt21 (opN kd o) (.slice av len cap))) := bset hB1 (Nat.le_succ _) _ 0
  refine hK.out _ _ (OpS_mk (pA1.farAll (by omega) 0 _)) (fun hHeld => ?_)
  clear hK K
  try simp only [Act.put]
  refine wpAnyH_done (by kernel_rfl) ?_ _
  go_wp2_with fail
  refine bodyPost_ret (results_cell rfl _ _ (w.heap.size + 1) (pt21 (opN kd o) (.slice av len cap)) _ rfl pR2.range Tryz.underlying56 rfl (by kernel_rfl)) rfl ⟨rfl, hB2⟩
def pc (ts : List Wlx.TV) (en : Int) : (Wt.Rf × List Wlx.TV) ⊕ (Int × Int) :=
  if (hd ts en).k = 3 then (if fol ts [40] then .inr (50, pos ts en) else if fol ts [33] then .inr (50, pos ts en) else (match rw1 (hd ts en).t with | some a => .inl (a, ts.tail) | none => .inr (50, pos ts en))) else .inr (50, pos ts en)
def CPost (kp : Nat) (en : Int) (r : (Wt.Rf × List Wlx.TV) ⊕ (Int × Int)) (w : World) (e : Ending) (w' : World) : Prop := match r with
  | .inl (a, rest) => e = .returned (rfV a) ∧ PSt w' kp rest en ∧ w.grownBy w' (some kp)
  | .inr (c, p) => e = stop c p ∧ w.grownBy w' (some kp)
set_option maxHeartbeats 8000000 in
set_option maxRecDepth 100000 in
theorem cell_any (kp : Nat) (ts : List Wlx.TV) (en : Int) (w : World) (h : PSt w kp ts en) (hts : ts.length ≤ 1024) (hok : ∀ t ∈ ts, TokOk t) (hE : Env w) (hk8 : 8 ≤ kp) : Calls Tryz.prog 196 #[.pointer (some ⟨kp, 0, none⟩)] w fun e w' => CPost kp en (pc ts en) w e w' := by
  have hB0 := ball (Below.refl _ w) (.cells #[.string ⟨#[]⟩, .int .i64 0, .int .i64 0, .bool false, .bool false] 43)
  have pZ := AtL.new0 w 43 [.string ⟨#[]⟩, .int .i64 0, .int .i64 0, .bool false, .bool false]
  have h0 := h.below hB0
  have hE0 := hE.below hB0
  have N := fun w h => next_any kp ts en w h
  have F1 := fun w h => follows_any kp ts en [40] w h hts
  have F2 := fun w h => follows_any kp ts en [33] w h hts
  have hfl := tok_kind
  have hfl2 := tok_text
  unfold pc pos
  have hne : (hd ts en).k = 3 → ∃ r, ts = hd ts en :: r := by
    intro h3
    cases ts with
    | nil => exact absurd h3 (by show ¬ (0 : Int) = 3; decide)
    | cons a r => exact ⟨r, rfl⟩
  have M0 := fun w h => must_false kp ts en w h
  unfold pos stop at M0
  have hto : (hd ts en).k = 3 → (hd ts en).t.length ≤ 1024 := by
    intro h3
    obtain ⟨r, hr⟩ := hne h3
    exact (hok (hd ts en) (by rw [hr]; simp [hd])).1
  obtain ⟨t, ht⟩ : ∃ t, hd ts en = t := ⟨_, rfl⟩
  rw [ht] at N M0 hne hto ⊢
  clear ht
  obtain ⟨k, x, p⟩ := t
  unfold tkV at N
  simp only at N M0 hto hne ⊢
  have bad : ∀ (w1 : World) (e : Ending), e = .panicked [{ v := .iface 50 (.agg #[.int .i64 50, .int .i64 p]), recovered := false }] → Below w.heap.size w w1 → CPost kp en (.inr (50, p)) w e w1 := fun w1 e he hb => ⟨he, below_grown hb _⟩
  by_cases hk3 : k = 3
  · subst hk3
    rw [if_pos rfl]
    cases hf1 : fol ts [40] with
    | true =>
      rw [hf1] at F1
      rw [if_pos rfl]
      clear F2
      go_enter Tryz.func196, Tryz.ntmps196
      go_wp2_with fail
      refine (N _ h0).mono ?_
      rintro e w1 ⟨rfl, hb⟩
      have h1 := h0.below hb
      have hB1 := below_end hB0 hb
      clear hb h0 hB0
      go_wp2_with fail
      refine (F1 _ h1).mono ?_
      rintro e w2 ⟨rfl, hb⟩
      have h2 := h1.below hb
      have hB2 := below_end hB1 hb
      clear hb h1 hB1
      go_wp2_with fail
      refine (M0 _ h2).mono ?_
      rintro e w3 ⟨rfl, hb⟩
      have hB3 := below_end hB2 hb
      go_wp2
      exact ⟨rfl, bad _ _ rfl hB3⟩
    | false =>
      rw [hf1] at F1
      rw [if_neg (by decide)]
      cases hf2 : fol ts [33] with
      | true =>
        rw [hf2] at F2
        rw [if_pos rfl]
        go_enter Tryz.func196, Tryz.ntmps196
        go_wp2_with fail
        refine (N _ h0).mono ?_
        rintro e w1 ⟨rfl, hb⟩
        have h1 := h0.below hb
        have hB1 := below_end hB0 hb
        clear hb h0 hB0
        go_wp2_with fail
        refine (F1 _ h1).mono ?_
        rintro e w2 ⟨rfl, hb⟩
        have h2 := h1.below hb
        have hB2 := below_end hB1 hb
        clear hb h1 hB1
        go_wp2_with fail
        refine (F2 _ h2).mono ?_
        rintro e w3 ⟨rfl, hb⟩
        have h3 := h2.below hb
        have hB3 := below_end hB2 hb
        clear hb h2 hB2
        go_wp2_with fail
        refine (M0 _ h3).mono ?_
        rintro e w4 ⟨rfl, hb⟩
        have hB4 := below_end hB3 hb
        go_wp2
        exact ⟨rfl, bad _ _ rfl hB4⟩
      | false =>
        rw [hf2] at F2
        rw [if_neg (by decide)]
        have RW := fun w hm ht => readWord_any x w hm ht (hto rfl)
        obtain ⟨r, hr⟩ := hne rfl
        cases hrw : rw1 x with
        | none =>
          rw [hrw] at RW
          simp only [RwV, rfV, rf5, Wt.r0] at RW
          go_enter Tryz.func196, Tryz.ntmps196
          go_wp2_with fail
          refine (N _ h0).mono ?_
          rintro e w1 ⟨rfl, hb⟩
          have h1 := h0.below hb
          have hB1 := below_end hB0 hb
          have pZ1 := AtL.below hb pZ
          have hE1 := hE0.below hb
          clear hb h0 hB0 pZ hE0
          go_wp2_with fail
          refine (F1 _ h1).mono ?_
          rintro e w2 ⟨rfl, hb⟩
          have h2 := h1.below hb
          have hB2 := below_end hB1 hb
          have pZ2 := AtL.below hb pZ1
          have hE2 := hE1.below hb
          clear hb h1 hB1 pZ1 hE1
          go_wp2_with fail
          refine (F2 _ h2).mono ?_
          rintro e w3 ⟨rfl, hb⟩
          have h3 := h2.below hb
          have hB3 := below_end hB2 hb
          have pZ3 := AtL.below hb pZ2
          have hE3 := hE2.below hb
          clear hb h2 hB2 pZ2 hE2
          go_wp2_with fail
          refine (must_true kp _).mono ?_
          rintro e w4 ⟨rfl, rfl⟩
          go_wp2_with fail
          refine (N _ h3).mono ?_
          rintro e w4 ⟨rfl, hb⟩
          have h4 := h3.below hb
          have hB4 := below_end hB3 hb
          have pZ4 := AtL.below hb pZ3
          have hE4 := hE3.below hb
          clear hb h3 hB3 pZ3 hE3
          go_wp2_with fail
          refine (RW _ hE4.2.2.1 hE4.2.2.2).mono ?_
          rintro e w5 ⟨rfl, hb⟩
          have h5 := h4.below hb
          have hB5 := below_end hB4 hb
          have pZ5 := AtL.below hb pZ4
          clear hb h4 hB4 pZ4 hE4 N F1 F2 RW
          have h6 := h5.below (ball (Below.refl _ w5) (.cells #[.string ⟨#[]⟩, .int .i64 0, .int .i64 0, .bool false, .bool false] 43))
          have hB6 := ball hB5 (.cells #[.string ⟨#[]⟩, .int .i64 0, .int .i64 0, .bool false, .bool false] 43)
          go_wp2_with fail
          refine (M0 _ h6).mono ?_
          rintro e w7 ⟨rfl, hb⟩
          have hB7 := below_end hB6 hb
          go_wp2
          exact ⟨rfl, bad _ _ rfl hB7⟩
        | some a =>
          obtain ⟨as1, ar, ac, afr, afc⟩ := a
          rw [hrw] at RW
          simp only [RwV, rfV, rf5] at RW
          subst hr
          go_enter Tryz.func196, Tryz.ntmps196
          go_wp2_with fail
          refine (N _ h0).mono ?_
          rintro e w1 ⟨rfl, hb⟩
          have h1 := h0.below hb
          have hB1 := below_end hB0 hb
          have pZ1 := AtL.below hb pZ
          have hE1 := hE0.below hb
          clear hb h0 hB0 pZ hE0
          go_wp2_with fail
          refine (F1 _ h1).mono ?_
          rintro e w2 ⟨rfl, hb⟩
          have h2 := h1.below hb
          have hB2 := below_end hB1 hb
          have pZ2 := AtL.below hb pZ1
          have hE2 := hE1.below hb
          clear hb h1 hB1 pZ1 hE1
          go_wp2_with fail
          refine (F2 _ h2).mono ?_
          rintro e w3 ⟨rfl, hb⟩
          have h3 := h2.below hb
          have hB3 := below_end hB2 hb
          have pZ3 := AtL.below hb pZ2
          have hE3 := hE2.below hb
          clear hb h2 hB2 pZ2 hE2
          go_wp2_with fail
          refine (must_true kp _).mono ?_
          rintro e w4 ⟨rfl, rfl⟩
          go_wp2_with fail
          refine (N _ h3).mono ?_
          rintro e w4 ⟨rfl, hb⟩
          have h4 := h3.below hb
          have hB4 := below_end hB3 hb
          have pZ4 := AtL.below hb pZ3
          have hE4 := hE3.below hb
          clear hb h3 hB3 pZ3 hE3
          go_wp2_with fail
          refine (RW _ hE4.2.2.1 hE4.2.2.2).mono ?_
          rintro e w5 ⟨rfl, hb⟩
          have h5 := h4.below hb
          have hB5 := below_end hB4 hb
          have pZ5 := AtL.below hb pZ4
          clear hb h4 hB4 pZ4 hE4 N F1 F2 RW
          have h6 := h5.below (ball (Below.refl _ w5) (.cells #[.string as1, .int .i64 ar, .int .i64 ac, .bool afr, .bool afc] 43))
          have hB6 := ball hB5 (.cells #[.string as1, .int .i64 ar, .int .i64 ac, .bool afr, .bool afc] 43)
          have pZ6 := AtL.alloc pZ5 (.cells #[.string as1, .int .i64 ar, .int .i64 ac, .bool afr, .bool afc] 43)
          have pY6 := AtL.new0 w5 43 [.string as1, .int .i64 ar, .int .i64 ac, .bool afr, .bool afc]
          have hw5 := hB5.size
          have hlt5 := pZ5.lt
          have hkp := h.lt
          clear h5 hB5 pZ5
          go_wp2_with fail
          refine (must_true kp _).mono ?_
          rintro e w6 ⟨rfl, rfl⟩
          have P := pass_any 1 kp [⟨3, x, p⟩] r en _ h6 rfl (by decide) hts
          go_wp2_with fail
          refine P.mono ?_
          rintro e w7 ⟨rfl, hp, hg⟩
          have pZ7 := pZ6.grown hg (by intro e; have := Option.some.inj e; omega)
          have pY7 := pY6.grown hg (by intro e; have := Option.some.inj e; omega)
          have hG := grown_trans (below_grown hB6 (some kp)) hg
          clear P h6 hB6 pZ6 pY6 hg
          obtain ⟨y0, y1, y2, y3, y4⟩ := pY7.f5
          obtain ⟨z0, z1, z2, z3, z4, g0, g1, g2, g3, g4⟩ := pZ7.five
          go_wp2
          have pZ8 := ((((pZ7.set 0 (.string as1)).set 1 (.int .i64 ar)).set 2 (.int .i64 ac)).set 3 (.bool afr)).set 4 (.bool afc)
          refine bodyPost_ret (results_cell rfl _ _ w.heap.size [.string as1, .int .i64 ar, .int .i64 ac, .bool afr, .bool afc] _ rfl pZ8.range Tryz.underlying43 rfl (by kernel_rfl)) rfl ?_
          exact ⟨rfl, ((((hp.far hkp _ _).far hkp _ _).far hkp _ _).far hkp _ _).far hkp _ _, grown_set (grown_set (grown_set (grown_set (grown_set hG (Nat.le_refl _) _ _) (Nat.le_refl _) _ _) (Nat.le_refl _) _ _) (Nat.le_refl _) _ _) (Nat.le_refl _) _ _⟩
  · rw [if_neg hk3]
    have hk' : (k == 3) = false := by simp [hk3]
    clear F1 F2
    go_enter Tryz.func196, Tryz.ntmps196
    go_wp2_with fail
    refine (N _ h0).mono ?_
    rintro e w1 ⟨rfl, hb⟩
    have h1 := h0.below hb
    have hB1 := below_end hB0 hb
    clear hb h0 hB0
    go_wp2_with fail
    refine (M0 _ h1).mono ?_
    rintro e w2 ⟨rfl, hb⟩
    have hB2 := below_end hB1 hb
    go_wp2
    exact ⟨rfl, bad _ _ rfl hB2⟩
abbrev PR : Type := (List Wt.Nd × List Wlx.TV) ⊕ (Int × Int)
def PPost (kp : Nat) (en : Int) (r : PR) (w : World) (e : Ending) (w' : World) : Prop := match r with
  | .inl (row, rest) => ∃ v, e = .returned v ∧ Pt w' w.heap.size v row ∧ PSt w' kp rest en ∧ w.grownBy w' (some kp)
  | .inr (c, p) => e = stop c p ∧ w.grownBy w' (some kp)
theorem PSt.farAll {w : World} {kp : Nat} {ts : List Wlx.TV} {en : Int} (h : PSt w kp ts en) {b : Nat} (hb : kp < b) : ∀ (vs : List Value) (o : Nat), PSt (w.setCells b o vs) kp ts en := by
  intro vs
  induction vs generalizing w with
  | nil => intro o; exact h
  | cons v r ih => intro o; rw [World.setCells]; exact ih (h.far hb o v) (o + 1)
theorem grown_setAll {w W : World} {row : Option Nat} (h : w.grownBy W row) {b : Nat} (hb : w.heap.size ≤ b) : ∀ (vs : List Value) (o : Nat), w.grownBy (W.setCells b o vs) row := by
  intro vs
  induction vs generalizing W with
  | nil => intro o; exact h
  | cons v r ih => intro o; rw [World.setCells]; exact ih (grown_set h hb o v) (o + 1)
def pl (ts : List Wlx.TV) (en : Int) : PR := match litV (hd ts en) with
  | some v => .inl ([leafN v], ts.tail)
  | none => .inr (50, pos ts en)
theorem litV_cons {ts : List Wlx.TV} {en : Int} {v : Wt.Vl} (h : litV (hd ts en) = some v) : ∃ r, ts = hd ts en :: r := by
  cases ts with
  | nil => exact absurd h (by simp [litV, hd])
  | cons t r => exact ⟨r, rfl⟩
theorem tokOk_hd {ts : List Wlx.TV} (en : Int) (h : ∀ t ∈ ts, TokOk t) : TokOk (hd ts en) := by
  cases ts with
  | nil => exact ⟨by show 0 ≤ 1024; omega, fun h => absurd h (by show ¬ (0 : Int) = 4; decide)⟩
  | cons t r => exact h t (by simp)
set_option maxHeartbeats 8000000 in
set_option maxRecDepth 100000 in
theorem literal_any (kp : Nat) (ts : List Wlx.TV) (en : Int) (w : World) (h : PSt w kp ts en) (hts : ts.length ≤ 1024) (hok : ∀ t ∈ ts, TokOk t) (hE : Env w) (hk8 : 8 ≤ kp) : Calls Tryz.prog 168 #[.pointer (some ⟨kp, 0, none⟩)] w fun e w' => PPost kp en (pl ts en) w e w' := by
  have hB0 := ball (Below.refl _ w) (.cells #[.int .i64 0, .int .i64 0, .int .i64 0, .int .i64 0, .string ⟨#[]⟩, .bool false, .int .i64 0, .int .i64 0, .string ⟨#[]⟩, .int .i64 0, .string ⟨#[]⟩, .int .i64 0, .int .i64 0, .bool false, .bool false, .string ⟨#[]⟩, .int .i64 0, .int .i64 0, .bool false, .bool false, .slice none 0 0] 56)
  have pZ : AtL (w.alloc (.cells #[.int .i64 0, .int .i64 0, .int .i64 0, .int .i64 0, .string ⟨#[]⟩, .bool false, .int .i64 0, .int .i64 0, .string ⟨#[]⟩, .int .i64 0, .string ⟨#[]⟩, .int .i64 0, .int .i64 0, .bool false, .bool false, .string ⟨#[]⟩, .int .i64 0, .int .i64 0, .bool false, .bool false, .slice none 0 0] 56)) w.heap.size (pt21 (bare 0) (.slice none 0 0)) := AtL.new0 w _ _
  have h0 := h.below hB0
  have hE0 := hE.below hB0
  have N := fun w h => next_any kp ts en w h
  have LV := fun w h => litv_any (hd ts en) w h (tokOk_hd en hok)
  have M0 := fun w h => must_false kp ts en w h
  have LC := fun v => @litV_cons ts en v
  unfold pl
  unfold pos at M0 ⊢
  obtain ⟨t, ht⟩ : ∃ t, hd ts en = t := ⟨_, rfl⟩
  rw [ht] at N M0 LV LC ⊢
  clear ht
  cases hl : litV t with
  | none =>
    simp only
    unfold stop at M0
    go_enter Tryz.func168, Tryz.ntmps168
    go_wp2_with fail
    generalize w.alloc (.cells #[.int .i64 0, .int .i64 0, .int .i64 0, .int .i64 0, .string ⟨#[]⟩, .bool false, .int .i64 0, .int .i64 0, .string ⟨#[]⟩, .int .i64 0, .string ⟨#[]⟩, .int .i64 0, .int .i64 0, .bool false, .bool false, .string ⟨#[]⟩, .int .i64 0, .int .i64 0, .bool false, .bool false, .slice none 0 0] 56) = wa at *
    refine (N _ h0).mono ?_
    rintro e w1 ⟨rfl, hb⟩
    have h1 := h0.below hb
    have hB1 := below_end hB0 hb
    have hE1 := hE0.below hb
    clear hb h0 hB0 hE0
    go_wp2_with fail
    refine (LV _ hE1.2.1).mono ?_
    rintro e w2 ⟨⟨v, ok, rfl, hv⟩, hb⟩
    rw [hl] at hv
    have hk : ok = false := by
      cases ok with
      | false => rfl
      | true => exact absurd hv (by simp)
    subst hk
    obtain ⟨v1, v2, v3, v4, v5, v6⟩ := v
    simp only [vlV, vl6]
    have h2 := (h1.below hb).below (ball (Below.refl _ w2) (.cells #[.int .i64 v1, .int .i64 v2, .int .i64 v3, .string v4, .bool v5, .int .i64 v6] 41))
    have hB2 := ball (below_end hB1 hb) (.cells #[.int .i64 v1, .int .i64 v2, .int .i64 v3, .string v4, .bool v5, .int .i64 v6] 41)
    clear hb h1 hB1
    go_wp2_with fail
    refine (M0 _ h2).mono ?_
    rintro e w3 ⟨rfl, hb⟩
    have hB3 := below_end hB2 hb
    go_wp2
    exact ⟨rfl, rfl, below_grown hB3 _⟩
  | some v =>
    simp only
    obtain ⟨r, hr⟩ := LC v hl
    have hkp := h.lt
    have KC := fun w => const_any v w
    go_enter Tryz.func168, Tryz.ntmps168
    go_wp2_with fail
    generalize w.alloc (.cells #[.int .i64 0, .int .i64 0, .int .i64 0, .int .i64 0, .string ⟨#[]⟩, .bool false, .int .i64 0, .int .i64 0, .string ⟨#[]⟩, .int .i64 0, .string ⟨#[]⟩, .int .i64 0, .int .i64 0, .bool false, .bool false, .string ⟨#[]⟩, .int .i64 0, .int .i64 0, .bool false, .bool false, .slice none 0 0] 56) = wa at *
    refine (N _ h0).mono ?_
    rintro e w1 ⟨rfl, hb⟩
    have h1 := h0.below hb
    have hB1 := below_end hB0 hb
    have hE1 := hE0.below hb
    have pZ1 := AtL.below hb pZ
    clear hb h0 hB0 hE0 pZ
    go_wp2_with fail
    refine (LV _ hE1.2.1).mono ?_
    rintro e w2 ⟨⟨v', ok, rfl, hv⟩, hb⟩
    rw [hl] at hv
    have hk : ok = true ∧ v = v' := by
      cases ok with
      | false => exact absurd hv (by simp)
      | true => exact ⟨rfl, by simpa using hv⟩
    obtain ⟨rfl, rfl⟩ := hk
    obtain ⟨v1, v2, v3, v4, v5, v6⟩ := v
    simp only [vlV, vl6] at KC ⊢
    have h2 := (h1.below hb).below (ball (Below.refl _ w2) (.cells #[.int .i64 v1, .int .i64 v2, .int .i64 v3, .string v4, .bool v5, .int .i64 v6] 41))
    have hB2 := ball (below_end hB1 hb) (.cells #[.int .i64 v1, .int .i64 v2, .int .i64 v3, .string v4, .bool v5, .int .i64 v6] 41)
    have pZ2 := (AtL.below hb pZ1).alloc (.cells #[.int .i64 v1, .int .i64 v2, .int .i64 v3, .string v4, .bool v5, .int .i64 v6] 41)
    have pY2 := AtL.new0 w2 41 [.int .i64 v1, .int .i64 v2, .int .i64 v3, .string v4, .bool v5, .int .i64 v6]
    have hlt2 := (AtL.below hb pZ1).lt
    clear hb h1 hB1 pZ1 hl hv LC M0
    subst hr
    have P := pass_any 1 kp [t] r en _ h2 rfl (by decide) hts
    go_wp2_with fail
    refine (must_true kp _).mono ?_
    rintro e w3 ⟨rfl, rfl⟩
    go_wp2_with fail
    refine P.mono ?_
    rintro e w3 ⟨rfl, hp, hg⟩
    have pZ3 := pZ2.grown hg (by intro e; have := Option.some.inj e; omega)
    have pY3 := pY2.grown hg (by intro e; have := Option.some.inj e; omega)
    have hG := grown_trans (below_grown hB2 (some kp)) hg
    clear P h2 hB2 pZ2 pY2 hg
    obtain ⟨y0, y1, y2, y3, y4, y5⟩ := pY3.f6
    go_wp2_with fail
    refine (KC _).mono ?_
    rintro e w4 ⟨rfl, hb⟩
    have pZ4 := AtL.below hb pZ3
    have hp4 := hp.below hb
    have hG4 := grown_trans hG (below_grown hb (some kp))
    have hth : World.there w4 w.heap.size 0 (pt21 (leafN ⟨v1, v2, v3, v4, v5, v6⟩) (.slice none 0 0)).toArray.size := pZ4.there
    clear pZ3 hp hG hb y0 y1 y2 y3 y4 y5 pY3
    unfold ptV
    go_wp2_with ((with_reducible refine wpList_store_mid ?_ 56 (.tmp 2) (.tmp 17) ?_ (w.heap.size) 0 (pt21 (leafN ⟨v1, v2, v3, v4, v5, v6⟩) (.slice none 0 0)).toArray ?_ ?_ ?_ ?_ ?_ ?_); rfl; rfl; rfl; rfl; exact hth; kernel_rfl; exact one21 _ _ rfl)
    have pZ5 : AtL (w4.setCells w.heap.size 0 (pt21 (leafN ⟨v1, v2, v3, v4, v5, v6⟩) (.slice none 0 0))) w.heap.size (pt21 (leafN ⟨v1, v2, v3, v4, v5, v6⟩) (.slice none 0 0)) := pZ4.setAll rfl
    refine bodyPost_ret (results_cell rfl _ _ w.heap.size (pt21 (leafN ⟨v1, v2, v3, v4, v5, v6⟩) (.slice none 0 0)) _ rfl pZ5.range Tryz.underlying56 rfl (by kernel_rfl)) rfl ?_
    exact ⟨_, rfl, ⟨1, _, _, rfl, PtIs.leaf _ _ _⟩, hp4.farAll hkp _ 0, grown_setAll hG4 (Nat.le_refl _) _ 0⟩
end Go.Proofs.YtlggnpohhahdlaaGreatDoor
