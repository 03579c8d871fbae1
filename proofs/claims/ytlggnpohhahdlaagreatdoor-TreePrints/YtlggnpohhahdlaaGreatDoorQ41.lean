/- TRefLP, TRefL. -/
import Derived.Test.YtlggnpohhahdlaaGreatDoorQ40
namespace Go.Proofs.YtlggnpohhahdlaaGreatDoor
open Go.RowKit Go.Shelf
set_option linter.unusedVariables false
theorem starts_same (F : Nat) : ∀ (k : Nat) (f p : Nat) (l : List Wt.Nd) (a b : Nat), Wt.many (Wt.one f) k l = some (a, b) → a ≤ F → starts F k p l = starts f k p l := by
  intro k
  induction k with
  | zero => intro f p l a b h hF; rfl
  | succ k ih =>
    intro f p l a b h hF
    simp only [Wt.many] at h
    cases h1 : Wt.one f l with
    | none => rw [h1] at h; cases h
    | some q =>
      obtain ⟨s1, d1⟩ := q
      rw [h1] at h
      simp only at h
      cases h2 : Wt.many (Wt.one f) k (l.drop s1) with
      | none => rw [h2] at h; cases h
      | some q2 =>
        obtain ⟨a2, b2⟩ := q2
        rw [h2] at h
        simp only [Option.some.injEq, Prod.mk.injEq] at h
        obtain ⟨rfl, rfl⟩ := h
        have hd := (one_loc f l s1 d1 h1).2.1
        have hF1 : Wt.one F l = some (s1, d1) := one_same h1 (by omega) rfl
        simp only [starts, h1, hF1]
        rw [ih f (p + s1) (l.drop s1) a2 b2 h2 (by omega)]
def joinT (f : Nat) (L : List Wt.Nd) : Bool → List Nat → List UInt8
  | _, [] => []
  | first, q :: r => (if first then [] else [44]) ++ (pr f 0 (L.drop q)).1 ++ joinT f L false r
theorem joinT_snoc (f : Nat) (L : List Wt.Nd) : ∀ (ks : List Nat) (first : Bool) (q : Nat), joinT f L first (ks ++ [q]) = joinT f L first ks ++ (if first && ks.isEmpty then [] else [44]) ++ (pr f 0 (L.drop q)).1 := by
  intro ks
  induction ks with
  | nil => intro first q; cases first <;> simp [joinT]
  | cons k r ih => intro first q; simp only [List.cons_append, joinT, ih]; cases first <;> simp
theorem prA_join (L : List Wt.Nd) (f : Nat) : ∀ (k : Nat) (first : Bool) (p a b : Nat), Wt.many (Wt.one f) k (L.drop p) = some (a, b) → (prA (pr f) k first (L.drop p)).1 = joinT f L first (starts f k p (L.drop p)) := by
  intro k
  induction k with
  | zero => intro first p a b h; rfl
  | succ k ih =>
    intro first p a b h
    simp only [Wt.many] at h
    cases h1 : Wt.one f (L.drop p) with
    | none => rw [h1] at h; cases h
    | some q =>
      obtain ⟨s1, d1⟩ := q
      rw [h1] at h
      simp only at h
      cases h2 : Wt.many (Wt.one f) k ((L.drop p).drop s1) with
      | none => rw [h2] at h; cases h
      | some q2 =>
        obtain ⟨a2, b2⟩ := q2
        have hp := (pr_ok f _ _ _ h1 0).1
        rw [List.drop_drop] at h2 hp
        simp only [prA, starts, h1, joinT, hp, List.drop_drop]
        rw [ih false (p + s1) a2 b2 h2]
theorem starts_ones (f : Nat) : ∀ (k p : Nat) (L : List Wt.Nd) (a b : Nat), Wt.many (Wt.one f) k (L.drop p) = some (a, b) → (starts f k p (L.drop p)).length = k ∧ ∀ q ∈ starts f k p (L.drop p), ∃ s d, Wt.one f (L.drop q) = some (s, d) := by
  intro k
  induction k with
  | zero => intro p L a b h; exact ⟨rfl, fun q hq => by simp [starts] at hq⟩
  | succ k ih =>
    intro p L a b h
    simp only [Wt.many] at h
    cases h1 : Wt.one f (L.drop p) with
    | none => rw [h1] at h; cases h
    | some q =>
      obtain ⟨s1, d1⟩ := q
      rw [h1] at h
      simp only at h
      cases h2 : Wt.many (Wt.one f) k ((L.drop p).drop s1) with
      | none => rw [h2] at h; cases h
      | some q2 =>
        obtain ⟨a2, b2⟩ := q2
        rw [List.drop_drop] at h2
        obtain ⟨i1, i2⟩ := ih (p + s1) L a2 b2 h2
        simp only [starts, h1, List.drop_drop]
        refine ⟨by rw [List.length_cons, i1], fun q hq => ?_⟩
        rcases List.mem_cons.1 hq with rfl | hq
        · exact ⟨s1, d1, h1⟩
        · exact i2 q hq
theorem kids_starts {L : List Wt.Nd} {p f n a b : Nat} (hp : p < L.length) (hn : (Wt.parts L[p]).toNat = n) (hm : Wt.many (Wt.one f) n (L.drop (p + 1)) = some (a, b)) (ha : a ≤ L.length + 1) : kidsP L p = starts f n (p + 1) (L.drop (p + 1)) := by
  unfold kidsP
  rw [List.drop_eq_getElem_cons hp]
  simp only
  rw [hn]
  exact starts_same _ _ _ _ _ _ _ hm ha
theorem nd_v {W : World} {k : Nat} {x : Wt.Nd} (h : AtL W k (nd20 x)) : W.rangeAt k 1 (vl6 x.v) := h.sub 1 _ (fun j v hv => by
  match j, hv with
  | 0, hv => exact hv
  | 1, hv => exact hv
  | 2, hv => exact hv
  | 3, hv => exact hv
  | 4, hv => exact hv
  | 5, hv => exact hv
  | j + 6, hv => simp [vl6] at hv)
theorem vlOk_right {v : Wt.Vl} (h : Wt.vlOk v = true) : ¬ v.k = 0 ∧ Wv.right v.k v.n v.d v.t v.b v.f = true := by
  unfold Wt.vlOk at h
  split at h
  · cases h
  · split at h
    · simp only [Bool.and_eq_true] at h; exact ⟨by assumption, h.1.1⟩
    · exact ⟨by assumption, h⟩
theorem rshow_any (v : Wt.Vl) (w : World) (hv : Wt.vlOk v = true) (hf : Wt.FitV v) (h2 : ¬ v.k = 2) : Calls Tryz.prog 48 #[.agg (vl6 v).toArray] w fun e w' => e = .returned (.string ⟨(litT v).toArray⟩) ∧ Below w.heap.size w w' := by
  obtain ⟨hk0, hr⟩ := vlOk_right hv
  have C := fun w => r2right_any v w hf
  obtain ⟨k, n, d, t, b, f⟩ := v
  obtain ⟨⟨a1, a2⟩, ⟨a3, a4⟩, -⟩ := hf
  unfold litT
  simp only [vl6] at *
  by_cases h1 : k = 1
  · subst h1; rw [if_pos rfl]; exact r2show_1 n d t b f w hr a1 a2 a3 a4 C
  by_cases h3 : k = 3
  · subst h3; rw [if_neg (by decide), if_neg (by decide), if_pos rfl]; exact r2show_3 n d t b f w hr C
  by_cases h4 : k = 4
  · subst h4
    rw [if_neg (by decide), if_neg (by decide), if_neg (by decide)]
    have hf : 1 ≤ f ∧ f ≤ 8 := by
      unfold Wv.right at hr
      rw [if_neg (by decide), if_neg (by decide), if_neg (by decide), if_neg (by decide), if_pos rfl] at hr
      unfold Wv.flt at hr
      simp only [Bool.and_eq_true, decide_eq_true_eq] at hr
      exact hr.1.1.1.1
    exact r2show_4 n d t b f w hr hf.1 hf.2 C
  · unfold Wv.right at hr
    rw [if_neg hk0, if_neg h1, if_neg h2, if_neg h3, if_neg h4] at hr
    cases hr
theorem text_size {v : Wt.Vl} (hv : Wt.vlOk v = true) (h2 : v.k = 2) : v.t.size ≤ 256 := by
  have hr := (vlOk_right hv).2
  unfold Wv.right at hr
  rw [if_neg (by omega), if_neg (by omega), if_pos h2] at hr
  simp only [Bool.and_eq_true, decide_eq_true_eq] at hr
  exact hr.1.1.1.1.1
theorem litT_text {v : Wt.Vl} (h2 : v.k = 2) : litT v = 34 :: (Wlx.dbl v.t.data.toList ++ [34]) := by
  unfold litT
  rw [if_neg (by omega), if_pos h2]
set_option maxRecDepth 100000 in
set_option maxHeartbeats 3200000 in
theorem rtext_1a (bb off cap : Nat) (L : List Wt.Nd) (p : Nat) (x : Wt.Nd) (w : World) (hF : ∀ y ∈ L, Wt.FitN y) (hr : RdN w (some ⟨bb, off, none⟩) L) (hp : p < L.length) (hxe : L[p] = x) (hc : Wt.check L = 0) (hk : x.k = 1) (hv : Wt.vlOk x.v = true) (h2 : x.v.k = 2) :
    Calls Tryz.prog 29 #[.slice (some ⟨bb, off, none⟩) L.length cap, .int .i64 p] w fun e w' => e = .returned (.string ⟨(litT x.v).toArray⟩) ∧ Below w.heap.size w w' := by
  rw [litT_text h2]
  have QQ := fun w => quote_any x.v.t w (by have := text_size hv h2; omega)
  have HR : Hid (RdN w (some ⟨bb, off, none⟩) L) := hr
  have hx0 := hr.at p hp
  have S := fun w hr => rstarts_any (some ⟨bb, off, none⟩) cap L p w hF hr hp hc
  rw [hxe] at hx0
  have pZ : AtL (w.alloc (.cells #[.int .i64 0, .int .i64 0, .int .i64 0, .int .i64 0, .string ⟨#[]⟩, .bool false, .int .i64 0, .int .i64 0, .string ⟨#[]⟩, .int .i64 0, .string ⟨#[]⟩, .int .i64 0, .int .i64 0, .bool false, .bool false, .string ⟨#[]⟩, .int .i64 0, .int .i64 0, .bool false, .bool false] 45)) w.heap.size (nd20 ⟨0, Wt.v0, 0, ⟨#[]⟩, 0, Wt.r0, Wt.r0⟩) := AtL.new0 w _ _
  have tZ : (w.alloc (.cells #[.int .i64 0, .int .i64 0, .int .i64 0, .int .i64 0, .string ⟨#[]⟩, .bool false, .int .i64 0, .int .i64 0, .string ⟨#[]⟩, .int .i64 0, .string ⟨#[]⟩, .int .i64 0, .int .i64 0, .bool false, .bool false, .string ⟨#[]⟩, .int .i64 0, .int .i64 0, .bool false, .bool false] 45)).there w.heap.size 0 (nd20 x).toArray.size := pZ.there
  have pN : AtL ((w.alloc (.cells #[.int .i64 0, .int .i64 0, .int .i64 0, .int .i64 0, .string ⟨#[]⟩, .bool false, .int .i64 0, .int .i64 0, .string ⟨#[]⟩, .int .i64 0, .string ⟨#[]⟩, .int .i64 0, .int .i64 0, .bool false, .bool false, .string ⟨#[]⟩, .int .i64 0, .int .i64 0, .bool false, .bool false] 45)).setCells w.heap.size 0 (nd20 x)) w.heap.size (nd20 x) := pZ.setAll rfl
  have hB0 : Below w.heap.size w ((w.alloc (.cells #[.int .i64 0, .int .i64 0, .int .i64 0, .int .i64 0, .string ⟨#[]⟩, .bool false, .int .i64 0, .int .i64 0, .string ⟨#[]⟩, .int .i64 0, .string ⟨#[]⟩, .int .i64 0, .int .i64 0, .bool false, .bool false, .string ⟨#[]⟩, .int .i64 0, .int .i64 0, .bool false, .bool false] 45)).setCells w.heap.size 0 (nd20 x)) := bset (ball (Below.refl _ w) _) (Nat.le_refl _) _ 0
  have hpi : (p : Int) < (L.length : Int) := by omega
  clear pZ hr hc hF hxe
  go_enter Tryz.func29, Tryz.ntmps29
  go_upto_region 2 with (first
    | ((with_reducible refine wpList_load_mid (cs := nd20 x) ?_ 45 (.tmp 13) ?_ (bb) (off + p * 20) ?_ _ ?_ Tryz.underlying45 ?_ ?_ ?_); rfl; rfl; rfl; exact hx0; rfl; kernel_rfl)
    | ((with_reducible refine wpList_store_mid ?_ 45 (.tmp 5) (.tmp 14) ?_ (w.heap.size) 0 (nd20 x).toArray ?_ ?_ ?_ ?_ ?_ ?_); rfl; rfl; rfl; rfl; exact tZ; kernel_rfl; exact one20 _))
  generalize (w.alloc (.cells #[.int .i64 0, .int .i64 0, .int .i64 0, .int .i64 0, .string ⟨#[]⟩, .bool false, .int .i64 0, .int .i64 0, .string ⟨#[]⟩, .int .i64 0, .string ⟨#[]⟩, .int .i64 0, .int .i64 0, .bool false, .bool false, .string ⟨#[]⟩, .int .i64 0, .int .i64 0, .bool false, .bool false] 45)).setCells w.heap.size 0 (nd20 x).toArray.toList = W0 at *
  have S0 := S W0 (HR.out.below hB0)
  clear tZ hx0 S
  go_wp2_with fail
  refine S0.mono ?_
  rintro e w1 ⟨v1, rfl, own1, hb1⟩
  obtain ⟨av1, cap1, rfl, hr1⟩ := own1.form
  have hB1 := below_end hB0 hb1
  have pN1 := AtL.below hb1 pN
  clear S0 pN hB0 hb1 own1
  have n0 : w1.cell? ⟨w.heap.size, 0, none⟩ = some (.int .i64 1) := by rw [← hk]; exact pN1.2.1 0 _ rfl
  have n1 : w1.cell? ⟨w.heap.size, 1, none⟩ = some (.int .i64 2) := by rw [← h2]; exact pN1.2.1 1 _ rfl
  have n4 := pN1.2.1 4 _ rfl
  go_wp2_with fail
  refine (QQ _).mono ?_
  rintro e w2 ⟨rfl, hb2⟩
  have hB2 := below_end hB1 hb2
  go_wp2
  go_ret
  exact ⟨rfl, hB2⟩
set_option maxRecDepth 100000 in
set_option maxHeartbeats 3200000 in
theorem rtext_1b (bb off cap : Nat) (L : List Wt.Nd) (p : Nat) (x : Wt.Nd) (w : World) (hF : ∀ y ∈ L, Wt.FitN y) (hr : RdN w (some ⟨bb, off, none⟩) L) (hp : p < L.length) (hxe : L[p] = x) (hc : Wt.check L = 0) (hk : x.k = 1) (hv : Wt.vlOk x.v = true) (hfx : Wt.FitV x.v) (h2 : ¬ x.v.k = 2) :
    Calls Tryz.prog 29 #[.slice (some ⟨bb, off, none⟩) L.length cap, .int .i64 p] w fun e w' => e = .returned (.string ⟨(litT x.v).toArray⟩) ∧ Below w.heap.size w w' := by
  have QQ := fun w => rshow_any x.v w hv hfx h2
  have hn2 : (x.v.k == 2) = false := by simp [h2]
  generalize litT x.v = lt at *
  have HR : Hid (RdN w (some ⟨bb, off, none⟩) L) := hr
  have hx0 := hr.at p hp
  have S := fun w hr => rstarts_any (some ⟨bb, off, none⟩) cap L p w hF hr hp hc
  rw [hxe] at hx0
  have pZ : AtL (w.alloc (.cells #[.int .i64 0, .int .i64 0, .int .i64 0, .int .i64 0, .string ⟨#[]⟩, .bool false, .int .i64 0, .int .i64 0, .string ⟨#[]⟩, .int .i64 0, .string ⟨#[]⟩, .int .i64 0, .int .i64 0, .bool false, .bool false, .string ⟨#[]⟩, .int .i64 0, .int .i64 0, .bool false, .bool false] 45)) w.heap.size (nd20 ⟨0, Wt.v0, 0, ⟨#[]⟩, 0, Wt.r0, Wt.r0⟩) := AtL.new0 w _ _
  have tZ : (w.alloc (.cells #[.int .i64 0, .int .i64 0, .int .i64 0, .int .i64 0, .string ⟨#[]⟩, .bool false, .int .i64 0, .int .i64 0, .string ⟨#[]⟩, .int .i64 0, .string ⟨#[]⟩, .int .i64 0, .int .i64 0, .bool false, .bool false, .string ⟨#[]⟩, .int .i64 0, .int .i64 0, .bool false, .bool false] 45)).there w.heap.size 0 (nd20 x).toArray.size := pZ.there
  have pN : AtL ((w.alloc (.cells #[.int .i64 0, .int .i64 0, .int .i64 0, .int .i64 0, .string ⟨#[]⟩, .bool false, .int .i64 0, .int .i64 0, .string ⟨#[]⟩, .int .i64 0, .string ⟨#[]⟩, .int .i64 0, .int .i64 0, .bool false, .bool false, .string ⟨#[]⟩, .int .i64 0, .int .i64 0, .bool false, .bool false] 45)).setCells w.heap.size 0 (nd20 x)) w.heap.size (nd20 x) := pZ.setAll rfl
  have hB0 : Below w.heap.size w ((w.alloc (.cells #[.int .i64 0, .int .i64 0, .int .i64 0, .int .i64 0, .string ⟨#[]⟩, .bool false, .int .i64 0, .int .i64 0, .string ⟨#[]⟩, .int .i64 0, .string ⟨#[]⟩, .int .i64 0, .int .i64 0, .bool false, .bool false, .string ⟨#[]⟩, .int .i64 0, .int .i64 0, .bool false, .bool false] 45)).setCells w.heap.size 0 (nd20 x)) := bset (ball (Below.refl _ w) _) (Nat.le_refl _) _ 0
  have hpi : (p : Int) < (L.length : Int) := by omega
  clear pZ hr hc hF hxe
  go_enter Tryz.func29, Tryz.ntmps29
  go_upto_region 2 with (first
    | ((with_reducible refine wpList_load_mid (cs := nd20 x) ?_ 45 (.tmp 13) ?_ (bb) (off + p * 20) ?_ _ ?_ Tryz.underlying45 ?_ ?_ ?_); rfl; rfl; rfl; exact hx0; rfl; kernel_rfl)
    | ((with_reducible refine wpList_store_mid ?_ 45 (.tmp 5) (.tmp 14) ?_ (w.heap.size) 0 (nd20 x).toArray ?_ ?_ ?_ ?_ ?_ ?_); rfl; rfl; rfl; rfl; exact tZ; kernel_rfl; exact one20 _))
  generalize (w.alloc (.cells #[.int .i64 0, .int .i64 0, .int .i64 0, .int .i64 0, .string ⟨#[]⟩, .bool false, .int .i64 0, .int .i64 0, .string ⟨#[]⟩, .int .i64 0, .string ⟨#[]⟩, .int .i64 0, .int .i64 0, .bool false, .bool false, .string ⟨#[]⟩, .int .i64 0, .int .i64 0, .bool false, .bool false] 45)).setCells w.heap.size 0 (nd20 x).toArray.toList = W0 at *
  have S0 := S W0 (HR.out.below hB0)
  clear tZ hx0 S
  go_wp2_with fail
  refine S0.mono ?_
  rintro e w1 ⟨v1, rfl, own1, hb1⟩
  obtain ⟨av1, cap1, rfl, hr1⟩ := own1.form
  have hB1 := below_end hB0 hb1
  have pN1 := AtL.below hb1 pN
  clear S0 pN hB0 hb1 own1
  have n0 : w1.cell? ⟨w.heap.size, 0, none⟩ = some (.int .i64 1) := by rw [← hk]; exact pN1.2.1 0 _ rfl
  have n1 := pN1.2.1 1 _ rfl
  have rV := nd_v pN1
  go_wp2_with ((with_reducible refine wpList_load_mid (cs := vl6 x.v) ?_ 41 (.tmp 30) ?_ (w.heap.size) 1 ?_ _ ?_ Tryz.underlying41 ?_ ?_ ?_); rfl; rfl; rfl; exact rV; rfl; kernel_rfl)
  refine (QQ _).mono ?_
  rintro e w2 ⟨rfl, hb2⟩
  have hB2 := below_end hB1 hb2
  go_wp2
  go_ret
  exact ⟨rfl, hB2⟩
set_option maxRecDepth 100000 in
set_option maxHeartbeats 3200000 in
theorem rtext_2a (bb off cap : Nat) (L : List Wt.Nd) (p : Nat) (x : Wt.Nd) (w : World) (hF : ∀ y ∈ L, Wt.FitN y) (hr : RdN w (some ⟨bb, off, none⟩) L) (hp : p < L.length) (hxe : L[p] = x) (hc : Wt.check L = 0) (hk : x.k = 2) (ha : Wt.rfOk x.a = true) (hs : x.a.s = ⟨#[]⟩) :
    Calls Tryz.prog 29 #[.slice (some ⟨bb, off, none⟩) L.length cap, .int .i64 p] w fun e w' => e = .returned (.string ⟨(celT x.a).toArray⟩) ∧ Below w.heap.size w w' := by
  have CA := fun w => rcelw_any x.a w (rfOk_in ha).1.1 (rfOk_in ha).1.2
  have la := cw_len x.a (rfOk_in ha).1.1 (rfOk_in ha).1.2
  have E1 : celT x.a = cw x.a := by unfold celT; rw [if_pos hs]
  rw [E1]
  generalize cw x.a = ca at *
  obtain ⟨ua, hua⟩ : ∃ u : ByteArray, (⟨ca.toArray⟩ : ByteArray) = u := ⟨_, rfl⟩
  have sa : (ua.size : Int) ≤ 40 := by rw [← hua]; show ((ca.toArray.size : Nat) : Int) ≤ 40; simp; omega
  have HA : Hid (ua = ⟨ca.toArray⟩) := hua.symm
  rw [hua] at CA
  clear hua la E1 ha
  have HR : Hid (RdN w (some ⟨bb, off, none⟩) L) := hr
  have hx0 := hr.at p hp
  have S := fun w hr => rstarts_any (some ⟨bb, off, none⟩) cap L p w hF hr hp hc
  rw [hxe] at hx0
  have pZ : AtL (w.alloc (.cells #[.int .i64 0, .int .i64 0, .int .i64 0, .int .i64 0, .string ⟨#[]⟩, .bool false, .int .i64 0, .int .i64 0, .string ⟨#[]⟩, .int .i64 0, .string ⟨#[]⟩, .int .i64 0, .int .i64 0, .bool false, .bool false, .string ⟨#[]⟩, .int .i64 0, .int .i64 0, .bool false, .bool false] 45)) w.heap.size (nd20 ⟨0, Wt.v0, 0, ⟨#[]⟩, 0, Wt.r0, Wt.r0⟩) := AtL.new0 w _ _
  have tZ : (w.alloc (.cells #[.int .i64 0, .int .i64 0, .int .i64 0, .int .i64 0, .string ⟨#[]⟩, .bool false, .int .i64 0, .int .i64 0, .string ⟨#[]⟩, .int .i64 0, .string ⟨#[]⟩, .int .i64 0, .int .i64 0, .bool false, .bool false, .string ⟨#[]⟩, .int .i64 0, .int .i64 0, .bool false, .bool false] 45)).there w.heap.size 0 (nd20 x).toArray.size := pZ.there
  have pN : AtL ((w.alloc (.cells #[.int .i64 0, .int .i64 0, .int .i64 0, .int .i64 0, .string ⟨#[]⟩, .bool false, .int .i64 0, .int .i64 0, .string ⟨#[]⟩, .int .i64 0, .string ⟨#[]⟩, .int .i64 0, .int .i64 0, .bool false, .bool false, .string ⟨#[]⟩, .int .i64 0, .int .i64 0, .bool false, .bool false] 45)).setCells w.heap.size 0 (nd20 x)) w.heap.size (nd20 x) := pZ.setAll rfl
  have hB0 : Below w.heap.size w ((w.alloc (.cells #[.int .i64 0, .int .i64 0, .int .i64 0, .int .i64 0, .string ⟨#[]⟩, .bool false, .int .i64 0, .int .i64 0, .string ⟨#[]⟩, .int .i64 0, .string ⟨#[]⟩, .int .i64 0, .int .i64 0, .bool false, .bool false, .string ⟨#[]⟩, .int .i64 0, .int .i64 0, .bool false, .bool false] 45)).setCells w.heap.size 0 (nd20 x)) := bset (ball (Below.refl _ w) _) (Nat.le_refl _) _ 0
  have hpi : (p : Int) < (L.length : Int) := by omega
  clear pZ hr hc hF hxe
  go_enter Tryz.func29, Tryz.ntmps29
  go_upto_region 2 with (first
    | ((with_reducible refine wpList_load_mid (cs := nd20 x) ?_ 45 (.tmp 13) ?_ (bb) (off + p * 20) ?_ _ ?_ Tryz.underlying45 ?_ ?_ ?_); rfl; rfl; rfl; exact hx0; rfl; kernel_rfl)
    | ((with_reducible refine wpList_store_mid ?_ 45 (.tmp 5) (.tmp 14) ?_ (w.heap.size) 0 (nd20 x).toArray ?_ ?_ ?_ ?_ ?_ ?_); rfl; rfl; rfl; rfl; exact tZ; kernel_rfl; exact one20 _))
  generalize (w.alloc (.cells #[.int .i64 0, .int .i64 0, .int .i64 0, .int .i64 0, .string ⟨#[]⟩, .bool false, .int .i64 0, .int .i64 0, .string ⟨#[]⟩, .int .i64 0, .string ⟨#[]⟩, .int .i64 0, .int .i64 0, .bool false, .bool false, .string ⟨#[]⟩, .int .i64 0, .int .i64 0, .bool false, .bool false] 45)).setCells w.heap.size 0 (nd20 x).toArray.toList = W0 at *
  have S0 := S W0 (HR.out.below hB0)
  clear tZ hx0 S
  go_wp2_with fail
  refine S0.mono ?_
  rintro e w1 ⟨v1, rfl, own1, hb1⟩
  obtain ⟨av1, cap1, rfl, hr1⟩ := own1.form
  have hB1 := below_end hB0 hb1
  have pN1 := AtL.below hb1 pN
  clear S0 pN hB0 hb1 own1
  have n0 : w1.cell? ⟨w.heap.size, 0, none⟩ = some (.int .i64 2) := by rw [← hk]; exact pN1.2.1 0 _ rfl
  have rA := nd_a pN1
  go_wp2_with ((with_reducible refine wpList_load_mid (cs := rf5 x.a) ?_ 43 (.tmp 36) ?_ (w.heap.size) 10 ?_ _ ?_ Tryz.underlying43 ?_ ?_ ?_); rfl; rfl; rfl; exact rA; rfl; kernel_rfl)
  refine (CA _).mono ?_
  rintro e w2 ⟨rfl, hb2⟩
  have hB2 := below_end hB1 hb2
  have pN2 := AtL.below hb2 pN1
  clear n0 rA pN1 hB1 hb2 CA
  have n0 : w2.cell? ⟨w.heap.size, 0, none⟩ = some (.int .i64 2) := by rw [← hk]; exact pN2.2.1 0 _ rfl
  have n10 : w2.cell? ⟨w.heap.size, 10, none⟩ = some (.string ⟨#[]⟩) := by rw [← hs]; exact pN2.2.1 10 _ rfl
  go_wp2
  go_ret
  refine ⟨congrArg (fun x => Ending.returned (Value.string x)) ?_, hB2⟩
  rw [HA.out]
set_option maxRecDepth 100000 in
set_option maxHeartbeats 3200000 in
theorem rtext_2b (bb off cap : Nat) (L : List Wt.Nd) (p : Nat) (x : Wt.Nd) (w : World) (hF : ∀ y ∈ L, Wt.FitN y) (hr : RdN w (some ⟨bb, off, none⟩) L) (hp : p < L.length) (hxe : L[p] = x) (hc : Wt.check L = 0) (hk : x.k = 2) (ha : Wt.rfOk x.a = true) (hs : ¬ x.a.s = ⟨#[]⟩) :
    Calls Tryz.prog 29 #[.slice (some ⟨bb, off, none⟩) L.length cap, .int .i64 p] w fun e w' => e = .returned (.string ⟨(celT x.a).toArray⟩) ∧ Below w.heap.size w w' := by
  have CA := fun w => rcelw_any x.a w (rfOk_in ha).1.1 (rfOk_in ha).1.2
  have la := cw_len x.a (rfOk_in ha).1.1 (rfOk_in ha).1.2
  have E1 : celT x.a = x.a.s.data.toList ++ (33 :: cw x.a) := by unfold celT; rw [if_neg hs]
  rw [E1]
  have ls : (x.a.s.size : Int) ≤ 16 := by
    rcases (rfOk_in ha).2 with h | h
    · exact absurd h hs
    · have h1 := (isNm_len h).2
      rw [Array.length_toList] at h1
      show ((x.a.s.data.size : Nat) : Int) ≤ 16
      omega
  have hs' : x.a.s.toList.isEmpty = false := by
    rw [ByteArray.toList_eq]
    cases h : x.a.s.data.toList with
    | nil => exact absurd (by rw [ba_mk x.a.s, h]) hs
    | cons a r => rfl
  have hs2 : (x.a.s.toList == []) = false := by rw [← hs']; cases x.a.s.toList <;> rfl
  generalize cw x.a = ca at *
  obtain ⟨ua, hua⟩ : ∃ u : ByteArray, (⟨ca.toArray⟩ : ByteArray) = u := ⟨_, rfl⟩
  have sa : (ua.size : Int) ≤ 40 := by rw [← hua]; show ((ca.toArray.size : Nat) : Int) ≤ 40; simp; omega
  have HA : Hid (ua = ⟨ca.toArray⟩) := hua.symm
  rw [hua] at CA
  clear hua la E1 ha
  have HR : Hid (RdN w (some ⟨bb, off, none⟩) L) := hr
  have hx0 := hr.at p hp
  have S := fun w hr => rstarts_any (some ⟨bb, off, none⟩) cap L p w hF hr hp hc
  rw [hxe] at hx0
  have pZ : AtL (w.alloc (.cells #[.int .i64 0, .int .i64 0, .int .i64 0, .int .i64 0, .string ⟨#[]⟩, .bool false, .int .i64 0, .int .i64 0, .string ⟨#[]⟩, .int .i64 0, .string ⟨#[]⟩, .int .i64 0, .int .i64 0, .bool false, .bool false, .string ⟨#[]⟩, .int .i64 0, .int .i64 0, .bool false, .bool false] 45)) w.heap.size (nd20 ⟨0, Wt.v0, 0, ⟨#[]⟩, 0, Wt.r0, Wt.r0⟩) := AtL.new0 w _ _
  have tZ : (w.alloc (.cells #[.int .i64 0, .int .i64 0, .int .i64 0, .int .i64 0, .string ⟨#[]⟩, .bool false, .int .i64 0, .int .i64 0, .string ⟨#[]⟩, .int .i64 0, .string ⟨#[]⟩, .int .i64 0, .int .i64 0, .bool false, .bool false, .string ⟨#[]⟩, .int .i64 0, .int .i64 0, .bool false, .bool false] 45)).there w.heap.size 0 (nd20 x).toArray.size := pZ.there
  have pN : AtL ((w.alloc (.cells #[.int .i64 0, .int .i64 0, .int .i64 0, .int .i64 0, .string ⟨#[]⟩, .bool false, .int .i64 0, .int .i64 0, .string ⟨#[]⟩, .int .i64 0, .string ⟨#[]⟩, .int .i64 0, .int .i64 0, .bool false, .bool false, .string ⟨#[]⟩, .int .i64 0, .int .i64 0, .bool false, .bool false] 45)).setCells w.heap.size 0 (nd20 x)) w.heap.size (nd20 x) := pZ.setAll rfl
  have hB0 : Below w.heap.size w ((w.alloc (.cells #[.int .i64 0, .int .i64 0, .int .i64 0, .int .i64 0, .string ⟨#[]⟩, .bool false, .int .i64 0, .int .i64 0, .string ⟨#[]⟩, .int .i64 0, .string ⟨#[]⟩, .int .i64 0, .int .i64 0, .bool false, .bool false, .string ⟨#[]⟩, .int .i64 0, .int .i64 0, .bool false, .bool false] 45)).setCells w.heap.size 0 (nd20 x)) := bset (ball (Below.refl _ w) _) (Nat.le_refl _) _ 0
  have hpi : (p : Int) < (L.length : Int) := by omega
  clear pZ hr hc hF hxe
  go_enter Tryz.func29, Tryz.ntmps29
  go_upto_region 2 with (first
    | ((with_reducible refine wpList_load_mid (cs := nd20 x) ?_ 45 (.tmp 13) ?_ (bb) (off + p * 20) ?_ _ ?_ Tryz.underlying45 ?_ ?_ ?_); rfl; rfl; rfl; exact hx0; rfl; kernel_rfl)
    | ((with_reducible refine wpList_store_mid ?_ 45 (.tmp 5) (.tmp 14) ?_ (w.heap.size) 0 (nd20 x).toArray ?_ ?_ ?_ ?_ ?_ ?_); rfl; rfl; rfl; rfl; exact tZ; kernel_rfl; exact one20 _))
  generalize (w.alloc (.cells #[.int .i64 0, .int .i64 0, .int .i64 0, .int .i64 0, .string ⟨#[]⟩, .bool false, .int .i64 0, .int .i64 0, .string ⟨#[]⟩, .int .i64 0, .string ⟨#[]⟩, .int .i64 0, .int .i64 0, .bool false, .bool false, .string ⟨#[]⟩, .int .i64 0, .int .i64 0, .bool false, .bool false] 45)).setCells w.heap.size 0 (nd20 x).toArray.toList = W0 at *
  have S0 := S W0 (HR.out.below hB0)
  clear tZ hx0 S
  go_wp2_with fail
  refine S0.mono ?_
  rintro e w1 ⟨v1, rfl, own1, hb1⟩
  obtain ⟨av1, cap1, rfl, hr1⟩ := own1.form
  have hB1 := below_end hB0 hb1
  have pN1 := AtL.below hb1 pN
  clear S0 pN hB0 hb1 own1
  have n0 : w1.cell? ⟨w.heap.size, 0, none⟩ = some (.int .i64 2) := by rw [← hk]; exact pN1.2.1 0 _ rfl
  have rA := nd_a pN1
  go_wp2_with ((with_reducible refine wpList_load_mid (cs := rf5 x.a) ?_ 43 (.tmp 36) ?_ (w.heap.size) 10 ?_ _ ?_ Tryz.underlying43 ?_ ?_ ?_); rfl; rfl; rfl; exact rA; rfl; kernel_rfl)
  refine (CA _).mono ?_
  rintro e w2 ⟨rfl, hb2⟩
  have hB2 := below_end hB1 hb2
  have pN2 := AtL.below hb2 pN1
  clear n0 rA pN1 hB1 hb2 CA
  have n0 : w2.cell? ⟨w.heap.size, 0, none⟩ = some (.int .i64 2) := by rw [← hk]; exact pN2.2.1 0 _ rfl
  have n10 := pN2.2.1 10 _ rfl
  go_wp2
  go_ret
  refine ⟨congrArg (fun x => Ending.returned (Value.string x)) ?_, hB2⟩
  rw [HA.out]
  rw [ba_mk x.a.s]
  rw [show (⟨#[33]⟩ : ByteArray) = ⟨[33].toArray⟩ from rfl]
  simp only [ba_cat]
  simp
set_option maxRecDepth 100000 in
set_option maxHeartbeats 3200000 in
theorem rtext_3a (bb off cap : Nat) (L : List Wt.Nd) (p : Nat) (x : Wt.Nd) (w : World) (hF : ∀ y ∈ L, Wt.FitN y) (hr : RdN w (some ⟨bb, off, none⟩) L) (hp : p < L.length) (hxe : L[p] = x) (hc : Wt.check L = 0) (hk : x.k = 3) (ha : Wt.rfOk x.a = true) (hs : x.a.s = ⟨#[]⟩) (hb : Wt.rfOk x.b = true) (hbs : x.b.s = ⟨#[]⟩) :
    Calls Tryz.prog 29 #[.slice (some ⟨bb, off, none⟩) L.length cap, .int .i64 p] w fun e w' => e = .returned (.string ⟨(celT x.a ++ 58 :: celT x.b).toArray⟩) ∧ Below w.heap.size w w' := by
  have CA := fun w => rcelw_any x.a w (rfOk_in ha).1.1 (rfOk_in ha).1.2
  have la := cw_len x.a (rfOk_in ha).1.1 (rfOk_in ha).1.2
  have E1 : celT x.a = cw x.a := by unfold celT; rw [if_pos hs]
  rw [E1]
  have CB := fun w => rcelw_any x.b w (rfOk_in hb).1.1 (rfOk_in hb).1.2
  have lb := cw_len x.b (rfOk_in hb).1.1 (rfOk_in hb).1.2
  have E2 : celT x.b = cw x.b := by unfold celT; rw [if_pos hbs]
  rw [E2]
  clear E2 hb hbs
  generalize cw x.a = ca at *
  obtain ⟨ua, hua⟩ : ∃ u : ByteArray, (⟨ca.toArray⟩ : ByteArray) = u := ⟨_, rfl⟩
  have sa : (ua.size : Int) ≤ 40 := by rw [← hua]; show ((ca.toArray.size : Nat) : Int) ≤ 40; simp; omega
  have HA : Hid (ua = ⟨ca.toArray⟩) := hua.symm
  rw [hua] at CA
  clear hua la E1 ha
  generalize cw x.b = cb at *
  obtain ⟨ub, hub⟩ : ∃ u : ByteArray, (⟨cb.toArray⟩ : ByteArray) = u := ⟨_, rfl⟩
  have sb : (ub.size : Int) ≤ 40 := by rw [← hub]; show ((cb.toArray.size : Nat) : Int) ≤ 40; simp; omega
  have HB : Hid (ub = ⟨cb.toArray⟩) := hub.symm
  rw [hub] at CB
  clear hub lb
  have HR : Hid (RdN w (some ⟨bb, off, none⟩) L) := hr
  have hx0 := hr.at p hp
  have S := fun w hr => rstarts_any (some ⟨bb, off, none⟩) cap L p w hF hr hp hc
  rw [hxe] at hx0
  have pZ : AtL (w.alloc (.cells #[.int .i64 0, .int .i64 0, .int .i64 0, .int .i64 0, .string ⟨#[]⟩, .bool false, .int .i64 0, .int .i64 0, .string ⟨#[]⟩, .int .i64 0, .string ⟨#[]⟩, .int .i64 0, .int .i64 0, .bool false, .bool false, .string ⟨#[]⟩, .int .i64 0, .int .i64 0, .bool false, .bool false] 45)) w.heap.size (nd20 ⟨0, Wt.v0, 0, ⟨#[]⟩, 0, Wt.r0, Wt.r0⟩) := AtL.new0 w _ _
  have tZ : (w.alloc (.cells #[.int .i64 0, .int .i64 0, .int .i64 0, .int .i64 0, .string ⟨#[]⟩, .bool false, .int .i64 0, .int .i64 0, .string ⟨#[]⟩, .int .i64 0, .string ⟨#[]⟩, .int .i64 0, .int .i64 0, .bool false, .bool false, .string ⟨#[]⟩, .int .i64 0, .int .i64 0, .bool false, .bool false] 45)).there w.heap.size 0 (nd20 x).toArray.size := pZ.there
  have pN : AtL ((w.alloc (.cells #[.int .i64 0, .int .i64 0, .int .i64 0, .int .i64 0, .string ⟨#[]⟩, .bool false, .int .i64 0, .int .i64 0, .string ⟨#[]⟩, .int .i64 0, .string ⟨#[]⟩, .int .i64 0, .int .i64 0, .bool false, .bool false, .string ⟨#[]⟩, .int .i64 0, .int .i64 0, .bool false, .bool false] 45)).setCells w.heap.size 0 (nd20 x)) w.heap.size (nd20 x) := pZ.setAll rfl
  have hB0 : Below w.heap.size w ((w.alloc (.cells #[.int .i64 0, .int .i64 0, .int .i64 0, .int .i64 0, .string ⟨#[]⟩, .bool false, .int .i64 0, .int .i64 0, .string ⟨#[]⟩, .int .i64 0, .string ⟨#[]⟩, .int .i64 0, .int .i64 0, .bool false, .bool false, .string ⟨#[]⟩, .int .i64 0, .int .i64 0, .bool false, .bool false] 45)).setCells w.heap.size 0 (nd20 x)) := bset (ball (Below.refl _ w) _) (Nat.le_refl _) _ 0
  have hpi : (p : Int) < (L.length : Int) := by omega
  clear pZ hr hc hF hxe
  go_enter Tryz.func29, Tryz.ntmps29
  go_upto_region 2 with (first
    | ((with_reducible refine wpList_load_mid (cs := nd20 x) ?_ 45 (.tmp 13) ?_ (bb) (off + p * 20) ?_ _ ?_ Tryz.underlying45 ?_ ?_ ?_); rfl; rfl; rfl; exact hx0; rfl; kernel_rfl)
    | ((with_reducible refine wpList_store_mid ?_ 45 (.tmp 5) (.tmp 14) ?_ (w.heap.size) 0 (nd20 x).toArray ?_ ?_ ?_ ?_ ?_ ?_); rfl; rfl; rfl; rfl; exact tZ; kernel_rfl; exact one20 _))
  generalize (w.alloc (.cells #[.int .i64 0, .int .i64 0, .int .i64 0, .int .i64 0, .string ⟨#[]⟩, .bool false, .int .i64 0, .int .i64 0, .string ⟨#[]⟩, .int .i64 0, .string ⟨#[]⟩, .int .i64 0, .int .i64 0, .bool false, .bool false, .string ⟨#[]⟩, .int .i64 0, .int .i64 0, .bool false, .bool false] 45)).setCells w.heap.size 0 (nd20 x).toArray.toList = W0 at *
  have S0 := S W0 (HR.out.below hB0)
  clear tZ hx0 S
  go_wp2_with fail
  refine S0.mono ?_
  rintro e w1 ⟨v1, rfl, own1, hb1⟩
  obtain ⟨av1, cap1, rfl, hr1⟩ := own1.form
  have hB1 := below_end hB0 hb1
  have pN1 := AtL.below hb1 pN
  clear S0 pN hB0 hb1 own1
  have n0 : w1.cell? ⟨w.heap.size, 0, none⟩ = some (.int .i64 3) := by rw [← hk]; exact pN1.2.1 0 _ rfl
  have rA := nd_a pN1
  go_wp2_with ((with_reducible refine wpList_load_mid (cs := rf5 x.a) ?_ 43 (.tmp 36) ?_ (w.heap.size) 10 ?_ _ ?_ Tryz.underlying43 ?_ ?_ ?_); rfl; rfl; rfl; exact rA; rfl; kernel_rfl)
  refine (CA _).mono ?_
  rintro e w2 ⟨rfl, hb2⟩
  have hB2 := below_end hB1 hb2
  have pN2 := AtL.below hb2 pN1
  clear n0 rA pN1 hB1 hb2 CA
  have n0 : w2.cell? ⟨w.heap.size, 0, none⟩ = some (.int .i64 3) := by rw [← hk]; exact pN2.2.1 0 _ rfl
  have n10 : w2.cell? ⟨w.heap.size, 10, none⟩ = some (.string ⟨#[]⟩) := by rw [← hs]; exact pN2.2.1 10 _ rfl
  have rB := nd_b pN2
  go_wp2_with ((with_reducible refine wpList_load_mid (cs := rf5 x.b) ?_ 43 (.tmp 54) ?_ (w.heap.size) 15 ?_ _ ?_ Tryz.underlying43 ?_ ?_ ?_); rfl; rfl; rfl; exact rB; rfl; kernel_rfl)
  refine (CB _).mono ?_
  rintro e w3 ⟨rfl, hb3⟩
  have hB3 := below_end hB2 hb3
  go_wp2
  go_ret
  refine ⟨congrArg (fun x => Ending.returned (Value.string x)) ?_, hB3⟩
  rw [HA.out, HB.out]
  rw [show (⟨#[58]⟩ : ByteArray) = ⟨[58].toArray⟩ from rfl]
  simp only [ba_cat]
  simp
set_option maxRecDepth 100000 in
set_option maxHeartbeats 3200000 in
theorem rtext_3b (bb off cap : Nat) (L : List Wt.Nd) (p : Nat) (x : Wt.Nd) (w : World) (hF : ∀ y ∈ L, Wt.FitN y) (hr : RdN w (some ⟨bb, off, none⟩) L) (hp : p < L.length) (hxe : L[p] = x) (hc : Wt.check L = 0) (hk : x.k = 3) (ha : Wt.rfOk x.a = true) (hs : ¬ x.a.s = ⟨#[]⟩) (hb : Wt.rfOk x.b = true) (hbs : x.b.s = ⟨#[]⟩) :
    Calls Tryz.prog 29 #[.slice (some ⟨bb, off, none⟩) L.length cap, .int .i64 p] w fun e w' => e = .returned (.string ⟨(celT x.a ++ 58 :: celT x.b).toArray⟩) ∧ Below w.heap.size w w' := by
  have CA := fun w => rcelw_any x.a w (rfOk_in ha).1.1 (rfOk_in ha).1.2
  have la := cw_len x.a (rfOk_in ha).1.1 (rfOk_in ha).1.2
  have E1 : celT x.a = x.a.s.data.toList ++ (33 :: cw x.a) := by unfold celT; rw [if_neg hs]
  rw [E1]
  have CB := fun w => rcelw_any x.b w (rfOk_in hb).1.1 (rfOk_in hb).1.2
  have lb := cw_len x.b (rfOk_in hb).1.1 (rfOk_in hb).1.2
  have E2 : celT x.b = cw x.b := by unfold celT; rw [if_pos hbs]
  rw [E2]
  clear E2 hb hbs
  have ls : (x.a.s.size : Int) ≤ 16 := by
    rcases (rfOk_in ha).2 with h | h
    · exact absurd h hs
    · have h1 := (isNm_len h).2
      rw [Array.length_toList] at h1
      show ((x.a.s.data.size : Nat) : Int) ≤ 16
      omega
  have hs' : x.a.s.toList.isEmpty = false := by
    rw [ByteArray.toList_eq]
    cases h : x.a.s.data.toList with
    | nil => exact absurd (by rw [ba_mk x.a.s, h]) hs
    | cons a r => rfl
  have hs2 : (x.a.s.toList == []) = false := by rw [← hs']; cases x.a.s.toList <;> rfl
  generalize cw x.a = ca at *
  obtain ⟨ua, hua⟩ : ∃ u : ByteArray, (⟨ca.toArray⟩ : ByteArray) = u := ⟨_, rfl⟩
  have sa : (ua.size : Int) ≤ 40 := by rw [← hua]; show ((ca.toArray.size : Nat) : Int) ≤ 40; simp; omega
  have HA : Hid (ua = ⟨ca.toArray⟩) := hua.symm
  rw [hua] at CA
  clear hua la E1 ha
  generalize cw x.b = cb at *
  obtain ⟨ub, hub⟩ : ∃ u : ByteArray, (⟨cb.toArray⟩ : ByteArray) = u := ⟨_, rfl⟩
  have sb : (ub.size : Int) ≤ 40 := by rw [← hub]; show ((cb.toArray.size : Nat) : Int) ≤ 40; simp; omega
  have HB : Hid (ub = ⟨cb.toArray⟩) := hub.symm
  rw [hub] at CB
  clear hub lb
  have HR : Hid (RdN w (some ⟨bb, off, none⟩) L) := hr
  have hx0 := hr.at p hp
  have S := fun w hr => rstarts_any (some ⟨bb, off, none⟩) cap L p w hF hr hp hc
  rw [hxe] at hx0
  have pZ : AtL (w.alloc (.cells #[.int .i64 0, .int .i64 0, .int .i64 0, .int .i64 0, .string ⟨#[]⟩, .bool false, .int .i64 0, .int .i64 0, .string ⟨#[]⟩, .int .i64 0, .string ⟨#[]⟩, .int .i64 0, .int .i64 0, .bool false, .bool false, .string ⟨#[]⟩, .int .i64 0, .int .i64 0, .bool false, .bool false] 45)) w.heap.size (nd20 ⟨0, Wt.v0, 0, ⟨#[]⟩, 0, Wt.r0, Wt.r0⟩) := AtL.new0 w _ _
  have tZ : (w.alloc (.cells #[.int .i64 0, .int .i64 0, .int .i64 0, .int .i64 0, .string ⟨#[]⟩, .bool false, .int .i64 0, .int .i64 0, .string ⟨#[]⟩, .int .i64 0, .string ⟨#[]⟩, .int .i64 0, .int .i64 0, .bool false, .bool false, .string ⟨#[]⟩, .int .i64 0, .int .i64 0, .bool false, .bool false] 45)).there w.heap.size 0 (nd20 x).toArray.size := pZ.there
  have pN : AtL ((w.alloc (.cells #[.int .i64 0, .int .i64 0, .int .i64 0, .int .i64 0, .string ⟨#[]⟩, .bool false, .int .i64 0, .int .i64 0, .string ⟨#[]⟩, .int .i64 0, .string ⟨#[]⟩, .int .i64 0, .int .i64 0, .bool false, .bool false, .string ⟨#[]⟩, .int .i64 0, .int .i64 0, .bool false, .bool false] 45)).setCells w.heap.size 0 (nd20 x)) w.heap.size (nd20 x) := pZ.setAll rfl
  have hB0 : Below w.heap.size w ((w.alloc (.cells #[.int .i64 0, .int .i64 0, .int .i64 0, .int .i64 0, .string ⟨#[]⟩, .bool false, .int .i64 0, .int .i64 0, .string ⟨#[]⟩, .int .i64 0, .string ⟨#[]⟩, .int .i64 0, .int .i64 0, .bool false, .bool false, .string ⟨#[]⟩, .int .i64 0, .int .i64 0, .bool false, .bool false] 45)).setCells w.heap.size 0 (nd20 x)) := bset (ball (Below.refl _ w) _) (Nat.le_refl _) _ 0
  have hpi : (p : Int) < (L.length : Int) := by omega
  clear pZ hr hc hF hxe
  go_enter Tryz.func29, Tryz.ntmps29
  go_upto_region 2 with (first
    | ((with_reducible refine wpList_load_mid (cs := nd20 x) ?_ 45 (.tmp 13) ?_ (bb) (off + p * 20) ?_ _ ?_ Tryz.underlying45 ?_ ?_ ?_); rfl; rfl; rfl; exact hx0; rfl; kernel_rfl)
    | ((with_reducible refine wpList_store_mid ?_ 45 (.tmp 5) (.tmp 14) ?_ (w.heap.size) 0 (nd20 x).toArray ?_ ?_ ?_ ?_ ?_ ?_); rfl; rfl; rfl; rfl; exact tZ; kernel_rfl; exact one20 _))
  generalize (w.alloc (.cells #[.int .i64 0, .int .i64 0, .int .i64 0, .int .i64 0, .string ⟨#[]⟩, .bool false, .int .i64 0, .int .i64 0, .string ⟨#[]⟩, .int .i64 0, .string ⟨#[]⟩, .int .i64 0, .int .i64 0, .bool false, .bool false, .string ⟨#[]⟩, .int .i64 0, .int .i64 0, .bool false, .bool false] 45)).setCells w.heap.size 0 (nd20 x).toArray.toList = W0 at *
  have S0 := S W0 (HR.out.below hB0)
  clear tZ hx0 S
  go_wp2_with fail
  refine S0.mono ?_
  rintro e w1 ⟨v1, rfl, own1, hb1⟩
  obtain ⟨av1, cap1, rfl, hr1⟩ := own1.form
  have hB1 := below_end hB0 hb1
  have pN1 := AtL.below hb1 pN
  clear S0 pN hB0 hb1 own1
  have n0 : w1.cell? ⟨w.heap.size, 0, none⟩ = some (.int .i64 3) := by rw [← hk]; exact pN1.2.1 0 _ rfl
  have rA := nd_a pN1
  go_wp2_with ((with_reducible refine wpList_load_mid (cs := rf5 x.a) ?_ 43 (.tmp 36) ?_ (w.heap.size) 10 ?_ _ ?_ Tryz.underlying43 ?_ ?_ ?_); rfl; rfl; rfl; exact rA; rfl; kernel_rfl)
  refine (CA _).mono ?_
  rintro e w2 ⟨rfl, hb2⟩
  have hB2 := below_end hB1 hb2
  have pN2 := AtL.below hb2 pN1
  clear n0 rA pN1 hB1 hb2 CA
  have n0 : w2.cell? ⟨w.heap.size, 0, none⟩ = some (.int .i64 3) := by rw [← hk]; exact pN2.2.1 0 _ rfl
  have n10 := pN2.2.1 10 _ rfl
  have rB := nd_b pN2
  go_wp2_with ((with_reducible refine wpList_load_mid (cs := rf5 x.b) ?_ 43 (.tmp 54) ?_ (w.heap.size) 15 ?_ _ ?_ Tryz.underlying43 ?_ ?_ ?_); rfl; rfl; rfl; exact rB; rfl; kernel_rfl)
  refine (CB _).mono ?_
  rintro e w3 ⟨rfl, hb3⟩
  have hB3 := below_end hB2 hb3
  go_wp2
  go_ret
  refine ⟨congrArg (fun x => Ending.returned (Value.string x)) ?_, hB3⟩
  rw [HA.out, HB.out]
  rw [ba_mk x.a.s]
  rw [show (⟨#[33]⟩ : ByteArray) = ⟨[33].toArray⟩ from rfl]
  rw [show (⟨#[58]⟩ : ByteArray) = ⟨[58].toArray⟩ from rfl]
  simp only [ba_cat]
  simp
end Go.Proofs.YtlggnpohhahdlaaGreatDoor
