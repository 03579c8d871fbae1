/- LPlainC, LPlainD, LPlainE. -/
import Derived.Test.YthofehcchickeaaGreatDoorQ35
namespace Wlx
def mk (c : UInt8) : Bool := marks.any fun n => n.head? == some c
theorem numSz_pos {c : UInt8} {t : List UInt8} : 0 < numSz (c :: t) ↔ dig c = true := by
  unfold numSz
  cases h : dig c with
  | false => rw [runP_neg h, if_pos rfl]; simp
  | true =>
    rw [runP_pos h, if_neg (by omega)]
    have g : ∀ n l, 0 < n → 0 < numTl n l := by
      intro n l hn
      cases l with
      | nil => exact hn
      | cons c t => rw [numTl_cons]; split <;> omega
    simp [g]
theorem txtSz_pos {c : UInt8} {t : List UInt8} (h : 0 < txtSz (c :: t)) : c = 34 := by
  have e : txtSz (c :: t) = if c = 34 then quo true 1 t else 0 := rfl
  rw [e] at h
  by_cases hc : c = 34
  · exact hc
  · rw [if_neg hc] at h; omega
theorem wrdSz_pos {c : UInt8} {t : List UInt8} : 0 < runP wrd (c :: t) ↔ wrd c = true := by
  cases h : wrd c with
  | false => rw [runP_neg h]; simp
  | true => rw [runP_pos h]; simp
theorem nameSz_head {c : UInt8} {t : List UInt8} : ∀ (ns : List (List UInt8)), 0 < nameSz (c :: t) ns → ∃ n ∈ ns, n.head? = some c
  | [], h => by simp [nameSz] at h
  | n :: r, h => by
    unfold nameSz at h
    by_cases hb : begins n (c :: t) = true
    · rw [if_pos hb] at h
      cases n with
      | nil => simp at h
      | cons a p =>
        simp only [begins, Bool.and_eq_true, decide_eq_true_eq] at hb
        exact ⟨a :: p, by simp, by rw [hb.1]; rfl⟩
    · rw [if_neg hb] at h
      obtain ⟨x, hx, hh⟩ := nameSz_head r h
      exact ⟨x, by simp [hx], hh⟩
theorem faultSz_pos {c : UInt8} {t : List UInt8} (h : 0 < nameSz (c :: t) faults) : c = 35 := by
  obtain ⟨n, hn, hh⟩ := nameSz_head faults h
  have : ∀ n ∈ faults, n.head? = some 35 := by decide
  rw [this n hn] at hh
  exact (Option.some.inj hh).symm
theorem markSz_pos {c : UInt8} {t : List UInt8} (h : 0 < nameSz (c :: t) marks) : mk c = true := by
  obtain ⟨n, hn, hh⟩ := nameSz_head marks h
  unfold mk
  exact List.any_eq_true.2 ⟨n, hn, by rw [hh]; simp⟩
theorem sz1 (l : List UInt8) : sz 1 l = numSz l := rfl
theorem sz2 (l : List UInt8) : sz 2 l = txtSz l := rfl
theorem sz3 (l : List UInt8) : sz 3 l = runP wrd l := rfl
theorem sz4 (l : List UInt8) : sz 4 l = nameSz l faults := rfl
theorem sz5 (l : List UInt8) : sz 5 l = nameSz l marks := rfl
theorem cls : ∀ c : UInt8, (wrd c = true → ¬ c = 34 ∧ ¬ c = 35 ∧ mk c = false ∧ ¬ c = 32 ∧ ¬ c = 46) ∧ (dig c = true → wrd c = true) ∧ (mk c = true → ¬ c = 34 ∧ ¬ c = 35 ∧ wrd c = false ∧ ¬ c = 32 ∧ ¬ c = 46) := by
  intro c
  have key : ∀ n : Fin 256, (wrd (UInt8.ofNat n) = true → ¬ UInt8.ofNat n = 34 ∧ ¬ UInt8.ofNat n = 35 ∧ mk (UInt8.ofNat n) = false ∧ ¬ UInt8.ofNat n = 32 ∧ ¬ UInt8.ofNat n = 46) ∧ (dig (UInt8.ofNat n) = true → wrd (UInt8.ofNat n) = true) ∧ (mk (UInt8.ofNat n) = true → ¬ UInt8.ofNat n = 34 ∧ ¬ UInt8.ofNat n = 35 ∧ wrd (UInt8.ofNat n) = false ∧ ¬ UInt8.ofNat n = 32 ∧ ¬ UInt8.ofNat n = 46) := by decide +kernel
  have := key ⟨c.toNat, c.toNat_lt⟩
  simpa using this
theorem kind_of {c : UInt8} {t : List UInt8} {k : Nat} (hk : hit (c :: t) = k) (h6 : ¬ k = 6) :
    (k = 1 ∧ dig c = true ∨ k = 2 ∧ c = 34 ∨ k = 3 ∧ wrd c = true ∧ dig c = false ∨ k = 4 ∧ c = 35 ∨ k = 5 ∧ mk c = true) := by
  have hp := hit_pos (l := c :: t) (by rw [hk]; exact h6)
  have h1 := hit_low (c :: t)
  have h2 := hit_high (c :: t)
  rw [hk] at hp h1 h2
  have : k = 1 ∨ k = 2 ∨ k = 3 ∨ k = 4 ∨ k = 5 := by omega
  rcases this with rfl | rfl | rfl | rfl | rfl
  · exact Or.inl ⟨rfl, numSz_pos.1 hp⟩
  · exact Or.inr (Or.inl ⟨rfl, txtSz_pos hp⟩)
  · refine Or.inr (Or.inr (Or.inl ⟨rfl, wrdSz_pos.1 hp, ?_⟩))
    cases hd : dig c with
    | false => rfl
    | true =>
      have : hit (c :: t) = 1 := hit_first (by omega) (by omega) (numSz_pos.2 hd) (fun j a b => by omega)
      rw [this] at hk; omega
  · exact Or.inr (Or.inr (Or.inr (Or.inl ⟨rfl, faultSz_pos hp⟩)))
  · exact Or.inr (Or.inr (Or.inr (Or.inr ⟨rfl, markSz_pos hp⟩)))
theorem hit_of {c : UInt8} {t : List UInt8} {k : Nat} (h : k = 1 ∧ dig c = true ∨ k = 2 ∧ c = 34 ∨ k = 3 ∧ wrd c = true ∧ dig c = false ∨ k = 4 ∧ c = 35 ∨ k = 5 ∧ mk c = true) (hp : 0 < sz k (c :: t)) : hit (c :: t) = k := by
  obtain ⟨c1, c2, c3⟩ := cls c
  have z1 : dig c = false → sz 1 (c :: t) = 0 := fun hd => by
    have : ¬ 0 < numSz (c :: t) := fun h => by rw [numSz_pos.1 h] at hd; cases hd
    rw [sz1]; omega
  have z2 : ¬ c = 34 → sz 2 (c :: t) = 0 := fun hd => by
    have : ¬ 0 < txtSz (c :: t) := fun h => hd (txtSz_pos h)
    rw [sz2]; omega
  have z3 : wrd c = false → sz 3 (c :: t) = 0 := fun hd => by
    have : ¬ 0 < runP wrd (c :: t) := fun h => by rw [wrdSz_pos.1 h] at hd; cases hd
    rw [sz3]; omega
  have z4 : ¬ c = 35 → sz 4 (c :: t) = 0 := fun hd => by
    have : ¬ 0 < nameSz (c :: t) faults := fun h => hd (faultSz_pos h)
    rw [sz4]; omega
  have nd : wrd c = false → dig c = false := fun h => by
    cases hd : dig c with
    | false => rfl
    | true => rw [c2 hd] at h; cases h
  rcases h with ⟨rfl, hd⟩ | ⟨rfl, rfl⟩ | ⟨rfl, hw, hd⟩ | ⟨rfl, rfl⟩ | ⟨rfl, hm⟩
  · exact hit_first (by omega) (by omega) hp (fun j a b => by omega)
  · exact hit_first (by omega) (by omega) hp (fun j a b => by
      obtain rfl : j = 1 := by omega
      exact z1 (by decide))
  · obtain ⟨a1, a2, a3, a4, a5⟩ := c1 hw
    exact hit_first (by omega) (by omega) hp (fun j a b => by
      have : j = 1 ∨ j = 2 := by omega
      rcases this with rfl | rfl
      · exact z1 hd
      · exact z2 a1)
  · exact hit_first (by omega) (by omega) hp (fun j a b => by
      have : j = 1 ∨ j = 2 ∨ j = 3 := by omega
      rcases this with rfl | rfl | rfl
      · exact z1 (by decide)
      · exact z2 (by decide)
      · exact z3 (by decide))
  · obtain ⟨a1, a2, a3, a4, a5⟩ := c3 hm
    exact hit_first (by omega) (by omega) hp (fun j a b => by
      have : j = 1 ∨ j = 2 ∨ j = 3 ∨ j = 4 := by omega
      rcases this with rfl | rfl | rfl | rfl
      · exact z1 (nd a3)
      · exact z2 a1
      · exact z3 a3
      · exact z4 a2)
end Wlx
namespace Wlx
theorem begins_iff : ∀ (p l : List UInt8), begins p l = true ↔ ∃ s, l = p ++ s
  | [], l => ⟨fun _ => ⟨l, rfl⟩, fun _ => rfl⟩
  | a :: p, [] => ⟨fun h => by simp [begins] at h, fun ⟨s, h⟩ => by simp at h⟩
  | a :: p, b :: t => by
    simp only [begins, Bool.and_eq_true, decide_eq_true_eq, begins_iff p t]
    constructor
    · rintro ⟨rfl, s, rfl⟩; exact ⟨s, rfl⟩
    · rintro ⟨s, h⟩
      simp only [List.cons_append, List.cons.injEq] at h
      exact ⟨h.1.symm, s, h.2⟩
theorem runP_app (p : UInt8 → Bool) (u r : List UInt8) : runP p (u ++ r) = if runP p u < u.length then runP p u else u.length + runP p r := by
  induction u with
  | nil => simp
  | cons c t ih =>
    cases h : p c with
    | false => rw [List.cons_append, runP_neg h, runP_neg h, if_pos (by simp)]
    | true =>
      rw [List.cons_append, runP_pos h, runP_pos h, ih]
      simp only [List.length_cons]
      split <;> split <;> omega
def Nx (k : Nat) (r' r : List UInt8) : Prop := (r.head? = r'.head? ∨ r.head? = none ∨ r.head? = some 32 ∨ ∃ d, r.head? = some d ∧ (d = 40 ∨ d = 41 ∨ d = 44)) ∧ (k = 1 → ¬ r.head? = some 46)
theorem runP_zero {p : UInt8 → Bool} {r : List UInt8} : runP p r = 0 ↔ ∀ c, r.head? = some c → p c = false := by
  cases r with
  | nil => simp [runP]
  | cons c t =>
    cases h : p c with
    | false => rw [runP_neg h]; simp [h]
    | true => rw [runP_pos h]; simp [h]
theorem runP_nx {p : UInt8 → Bool} (h32 : p 32 = false ∧ p 40 = false ∧ p 41 = false ∧ p 44 = false) {k : Nat} {r' r : List UInt8} (h : Nx k r' r) (h0 : runP p r' = 0) : runP p r = 0 := by
  rw [runP_zero] at h0 ⊢
  intro c hc
  rcases h.1 with e | e | e | ⟨d, e, hd⟩
  · exact h0 c (by rw [← e]; exact hc)
  · rw [e] at hc; cases hc
  · rw [e] at hc; cases hc; exact h32.1
  · rw [e] at hc
    cases hc
    rcases hd with rfl | rfl | rfl
    · exact h32.2.1
    · exact h32.2.2.1
    · exact h32.2.2.2
theorem num_ctx {u r' r : List UInt8} (h0 : 0 < u.length) (h : numSz (u ++ r') = u.length) (hx : Nx 1 r' r) : numSz (u ++ r) = u.length := by
  have key : ∀ r, numSz (u ++ r) = if runP dig u < u.length then (if runP dig u = 0 then 0 else numTl (runP dig u) (u.drop (runP dig u) ++ r)) else numTl (u.length + runP dig r) (r.drop (runP dig r)) := by
    intro r
    unfold numSz
    rw [runP_app]
    by_cases ha : runP dig u < u.length
    · rw [if_pos ha, if_pos ha]
      rw [List.drop_append_of_le_length (by omega)]
    · rw [if_neg ha, if_neg ha, if_neg (by omega)]
      congr 1
      rw [List.drop_append, List.drop_eq_nil_of_le (by omega), List.nil_append, Nat.add_sub_cancel_left]
  rw [key] at h ⊢
  have hle := runP_le dig u
  by_cases ha : runP dig u < u.length
  · rw [if_pos ha] at h ⊢
    by_cases hz : runP dig u = 0
    · rw [if_pos hz] at h; omega
    · rw [if_neg hz] at h ⊢
      cases hd : u.drop (runP dig u) with
      | nil =>
        have := congrArg List.length hd
        simp only [List.length_drop, List.length_nil] at this
        omega
      | cons x y =>
        have hy : runP dig u + 1 + y.length = u.length := by
          have := congrArg List.length hd
          simp only [List.length_drop, List.length_cons] at this
          omega
        rw [hd, List.cons_append, numTl_cons] at h
        rw [List.cons_append, numTl_cons]
        by_cases hc : x = 46 ∧ 0 < runP dig (y ++ r')
        · rw [if_pos hc] at h
          have e : runP dig (y ++ r') = y.length := by omega
          rw [runP_app] at e
          have hyl := runP_le dig y
          by_cases hb : runP dig y < y.length
          · rw [if_pos hb] at e; omega
          · rw [if_neg hb] at e
            have e2 : runP dig (y ++ r) = y.length := by rw [runP_app, if_neg hb, runP_nx (by decide) hx (by omega)]; rfl
            have hpos : 0 < y.length := by have := hc.2; rw [runP_app, if_neg hb] at this; omega
            rw [e2, if_pos ⟨hc.1, hpos⟩]
            omega
        · rw [if_neg hc] at h; omega
  · rw [if_neg ha] at h ⊢
    have hr : runP dig r' = 0 := by
      have g : ∀ n l, n ≤ numTl n l := by
        intro n l
        cases l with
        | nil => exact Nat.le_refl _
        | cons c t => rw [numTl_cons]; split <;> omega
      have := g (u.length + runP dig r') (r'.drop (runP dig r'))
      omega
    have hr2 := runP_nx (by decide) hx hr
    rw [hr2]
    show numTl (u.length + 0) r = _
    cases r with
    | nil => rfl
    | cons x y =>
      rw [numTl_cons, if_neg (fun hh => hx.2 rfl (by rw [hh.1]; rfl))]
      rfl
theorem wrd_ctx {u r' r : List UInt8} (h : runP wrd (u ++ r') = u.length) (hx : Nx 3 r' r) : runP wrd (u ++ r) = u.length := by
  rw [runP_app] at h ⊢
  by_cases ha : runP wrd u < u.length
  · rw [if_pos ha] at h; omega
  · rw [if_neg ha] at h ⊢
    rw [runP_nx (by decide) hx (by omega)]; rfl
theorem quo_hit (w : Bool) (i : Nat) (t : List UInt8) : quo w i (34 :: t) = quo (!w) (i + 1) t := by
  conv => lhs; unfold quo
  rw [if_pos rfl]
theorem quo_in {c : UInt8} (h : ¬ c = 34) (i : Nat) (t : List UInt8) : quo true i (c :: t) = quo true (i + 1) t := by
  conv => lhs; unfold quo
  rw [if_neg h, if_pos rfl]
theorem quo_out {c : UInt8} (h : ¬ c = 34) (i : Nat) (t : List UInt8) : quo false i (c :: t) = i := by
  conv => lhs; unfold quo
  rw [if_neg h, if_neg (by decide)]
theorem quo_more : ∀ (l : List UInt8) (i : Nat), (quo true i l = 0 ∨ i + 1 ≤ quo true i l) ∧ (quo false i l = 0 ∨ i ≤ quo false i l) := by
  intro l
  induction l with
  | nil => intro i; exact ⟨Or.inl rfl, Or.inr (Nat.le_refl _)⟩
  | cons c t ih =>
    intro i
    obtain ⟨h1, h2⟩ := ih (i + 1)
    by_cases hc : c = 34
    · subst hc
      rw [quo_hit, quo_hit]
      exact ⟨h2, h1.imp id (fun h => Nat.le_of_succ_le (Nat.le_of_succ_le h))⟩
    · rw [quo_in hc, quo_out hc]
      exact ⟨h1.imp id (fun h => Nat.le_of_succ_le h), Or.inr (Nat.le_refl _)⟩
theorem quo_stop {i : Nat} (hi : 1 ≤ i) {w : Bool} {r : List UInt8} (h : quo w i r = i) : w = false ∧ ¬ r.head? = some 34 := by
  cases w with
  | true => rcases (quo_more r i).1 with h1 | h1 <;> omega
  | false =>
    refine ⟨rfl, fun hh => ?_⟩
    cases r with
    | nil => cases hh
    | cons c t =>
      obtain rfl : c = 34 := Option.some.inj hh
      rw [quo_hit] at h
      rcases (quo_more t (i + 1)).1 with h1 | h1
      · rw [show (!false) = true from rfl, h1] at h; omega
      · rw [show (!false) = true from rfl] at h; omega
theorem quo_ctx : ∀ (a : List UInt8) (w : Bool) (i : Nat) (r' r : List UInt8), 1 ≤ i → quo w i (a ++ r') = i + a.length → Nx 2 r' r → quo w i (a ++ r) = i + a.length
  | [], w, i, r', r, hi, h, hx => by
    obtain ⟨rfl, hh⟩ := quo_stop hi (w := w) (r := r') h
    show quo false i r = i
    cases r with
    | nil => rfl
    | cons c t =>
      refine quo_out (fun e => ?_) i t
      subst e
      rcases hx.1 with e | e | e | ⟨d, e, hd⟩
      · exact hh e.symm
      · cases e
      · exact absurd (Option.some.inj e) (by decide)
      · obtain rfl := Option.some.inj e
        exact absurd hd (by decide)
  | c :: a, w, i, r', r, hi, h, hx => by
    rw [List.cons_append, List.length_cons] at *
    by_cases hc : c = 34
    · subst hc
      rw [quo_hit] at h ⊢
      rw [quo_ctx a (!w) (i + 1) r' r (by omega) (by omega) hx]; omega
    · cases w with
      | true =>
        rw [quo_in hc] at h ⊢
        rw [quo_ctx a true (i + 1) r' r (by omega) (by omega) hx]; omega
      | false => rw [quo_out hc] at h; omega
theorem txt_ctx {u r' r : List UInt8} (h0 : 0 < u.length) (h : txtSz (u ++ r') = u.length) (hx : Nx 2 r' r) : txtSz (u ++ r) = u.length := by
  cases u with
  | nil => simp at h0
  | cons c t =>
    have e : ∀ s, txtSz (c :: t ++ s) = if c = 34 then quo true 1 (t ++ s) else 0 := fun s => rfl
    rw [e] at h ⊢
    by_cases hc : c = 34
    · rw [if_pos hc] at h ⊢
      simp only [List.length_cons] at h ⊢
      rw [quo_ctx t true 1 r' r (by omega) (by omega) hx]; omega
    · rw [if_neg hc] at h; simp at h
theorem name_ctx {u r' r : List UInt8} {k : Nat} (h0 : 0 < u.length) (hx : Nx k r' r) : ∀ (ms : List (List UInt8)), (∀ n ∈ ms, (¬ 32 ∈ n ∧ ∀ x ∈ n.drop 1, ¬ (x = 40 ∨ x = 41 ∨ x = 44)) ∧ (begins u n = true → n.length ≤ u.length + 1)) → nameSz (u ++ r') ms = u.length → nameSz (u ++ r) ms = u.length
  | [], _, h => by simp [nameSz] at h; omega
  | n :: ms, hg, h => by
    unfold nameSz at h ⊢
    cases hb : begins n (u ++ r') with
    | true =>
      rw [hb, if_pos rfl] at h
      obtain ⟨s, hs⟩ := (begins_iff _ _).1 hb
      have hnu : n = u := by
        have := List.append_inj hs h.symm
        exact this.1.symm
      subst hnu
      rw [if_pos ((begins_iff _ _).2 ⟨r, rfl⟩)]
    | false =>
      rw [hb, if_neg (by decide)] at h
      have hf : begins n (u ++ r) = false := by
        cases hq : begins n (u ++ r) with
        | false => rfl
        | true =>
          exfalso
          obtain ⟨s, hs⟩ := (begins_iff _ _).1 hq
          by_cases hl : n.length ≤ u.length
          · have hu : u = n ++ u.drop n.length := by
              have e1 := congrArg (List.take n.length) hs
              rw [List.take_append_of_le_length hl, List.take_left] at e1
              conv => lhs; rw [← List.take_append_drop n.length u, e1]
            have : begins n (u ++ r') = true := (begins_iff _ _).2 ⟨u.drop n.length ++ r', by rw [← List.append_assoc, ← hu]⟩
            rw [this] at hb; cases hb
          · have hu : n = u ++ n.drop u.length := by
              have e1 := congrArg (List.take u.length) hs
              rw [List.take_left, List.take_append_of_le_length (by omega)] at e1
              conv => lhs; rw [← List.take_append_drop u.length n, ← e1]
            obtain ⟨g1, g2⟩ := hg n (by simp)
            have hn1 := g2 ((begins_iff _ _).2 ⟨_, hu⟩)
            cases hd : n.drop u.length with
            | nil =>
              have := congrArg List.length hd
              simp only [List.length_drop, List.length_nil] at this
              omega
            | cons x y =>
              have hy : y = [] := by
                have := congrArg List.length hd
                simp only [List.length_drop, List.length_cons] at this
                exact List.eq_nil_of_length_eq_zero (by omega)
              subst hy
              rw [hd] at hu
              rw [hu, List.append_assoc] at hs
              have hr := List.append_cancel_left hs
              have hrh : r.head? = some x := by rw [hr]; rfl
              have hx32 : ¬ x = 32 := fun e => g1.1 (by rw [hu, e]; simp)
              rcases hx.1 with e | e | e | ⟨d, e, hd⟩
              · rw [hrh] at e
                cases r' with
                | nil => cases e
                | cons x' y' =>
                  obtain rfl : x = x' := Option.some.inj e
                  have : begins n (u ++ x :: y') = true := (begins_iff _ _).2 ⟨y', by rw [hu, List.append_assoc]; rfl⟩
                  rw [this] at hb; cases hb
              · rw [hrh] at e; cases e
              · rw [hrh] at e; exact hx32 (Option.some.inj e)
              · rw [hrh] at e
                obtain rfl := Option.some.inj e
                refine g1.2 x ?_ hd
                rw [hu, List.drop_append_of_le_length (by omega)]
                simp
      rw [hf, if_neg (by decide)]
      exact name_ctx h0 hx ms (fun n hn => hg n (by simp [hn])) h
theorem name_mem {u r' : List UInt8} (h0 : 0 < u.length) : ∀ (ms : List (List UInt8)), nameSz (u ++ r') ms = u.length → u ∈ ms
  | [], h => by simp [nameSz] at h; omega
  | n :: ms, h => by
    unfold nameSz at h
    cases hb : begins n (u ++ r') with
    | true =>
      rw [hb, if_pos rfl] at h
      obtain ⟨s, hs⟩ := (begins_iff _ _).1 hb
      rw [(List.append_inj hs h.symm).1]
      simp
    | false =>
      rw [hb, if_neg (by decide)] at h
      exact List.mem_cons_of_mem _ (name_mem h0 ms h)
theorem faults_good : ∀ u ∈ faults, ∀ n ∈ faults, (¬ 32 ∈ n ∧ ∀ x ∈ n.drop 1, ¬ (x = 40 ∨ x = 41 ∨ x = 44)) ∧ (begins u n = true → n.length ≤ u.length + 1) := by decide
theorem marks_good : ∀ u ∈ marks, ∀ n ∈ marks, (¬ 32 ∈ n ∧ ∀ x ∈ n.drop 1, ¬ (x = 40 ∨ x = 41 ∨ x = 44)) ∧ (begins u n = true → n.length ≤ u.length + 1) := by decide
theorem ctx {u r' r : List UInt8} {k : Nat} (hk : hit (u ++ r') = k) (h6 : ¬ k = 6) (hn : sz k (u ++ r') = u.length) (hx : Nx k r' r) : hit (u ++ r) = k ∧ sz k (u ++ r) = u.length := by
  have hp := hit_pos (l := u ++ r') (by rw [hk]; exact h6)
  rw [hk, hn] at hp
  have hs : sz k (u ++ r) = u.length := by
    have h1 := hit_low (u ++ r')
    have h2 := hit_high (u ++ r')
    rw [hk] at h1 h2
    have : k = 1 ∨ k = 2 ∨ k = 3 ∨ k = 4 ∨ k = 5 := by omega
    rcases this with rfl | rfl | rfl | rfl | rfl
    · exact num_ctx hp hn hx
    · exact txt_ctx hp hn hx
    · exact wrd_ctx hn hx
    · exact name_ctx hp hx faults (faults_good u (name_mem hp faults hn)) hn
    · exact name_ctx hp hx marks (marks_good u (name_mem hp marks hn)) hn
  refine ⟨?_, hs⟩
  cases u with
  | nil => simp at hp
  | cons c t => exact hit_of (kind_of hk h6) (Nat.lt_of_lt_of_eq hp hs.symm)
end Wlx
namespace Wlx
set_option linter.unusedVariables false
structure At (k : Nat) (u r : List UInt8) : Prop where
  hk : hit (u ++ r) = k
  h6 : ¬ k = 6
  hn : sz k (u ++ r) = u.length
  h32 : ¬ (u ++ r).head? = some 32
theorem At.pos {k : Nat} {u r : List UInt8} (h : At k u r) : 0 < u.length := by
  have := hit_pos (l := u ++ r) (by rw [h.hk]; exact h.h6)
  rw [h.hk, h.hn] at this; exact this
theorem At.cons {k : Nat} {u r : List UInt8} (h : At k u r) : ∃ c t, u = c :: t := by
  have := h.pos
  cases u with
  | nil => simp at this
  | cons c t => exact ⟨c, t, rfl⟩
theorem At.ctx {k : Nat} {u r' r : List UInt8} (h : At k u r') (hx : Nx k r' r) : At k u r := by
  obtain ⟨h1, h2⟩ := Wlx.ctx h.hk h.h6 h.hn hx
  obtain ⟨c, t, rfl⟩ := h.cons
  exact ⟨h1, h.h6, h2, h.h32⟩
def Ok (p : Nat) (l : List UInt8) (ts : List Tok) : Prop := scan p l = Res.ok ts
def Er (p : Nat) (l : List UInt8) (c q : Nat) : Prop := scan p l = Res.err c q
theorem at_of {c : UInt8} {t : List UInt8} (h : ¬ c = 32) (h6 : ¬ hit (c :: t) = 6) : At (hit (c :: t)) ((c :: t).take (sz (hit (c :: t)) (c :: t))) ((c :: t).drop (sz (hit (c :: t)) (c :: t))) := by
  have hl : ((c :: t).take (sz (hit (c :: t)) (c :: t))).length = sz (hit (c :: t)) (c :: t) := by
    rw [List.length_take]; exact Nat.min_eq_left (sz_le _ _)
  refine ⟨by rw [List.take_append_drop], h6, by rw [List.take_append_drop, hl], ?_⟩
  rw [List.take_append_drop]
  exact fun e => h (Option.some.inj e)
theorem scan_at {p k : Nat} {u r : List UInt8} (ha : At k u r) : scan p (u ++ r) = if runP prt u < u.length then Res.err 40 (p + runP prt u) else Res.cons ⟨k, said k u, p⟩ (scan (p + u.length) r) := by
  obtain ⟨c, t, rfl⟩ := ha.cons
  have e1 : (c :: t ++ r).take (c :: t).length = c :: t := List.take_left
  have e2 : (c :: t ++ r).drop (c :: t).length = r := List.drop_left
  have hc : ¬ c = 32 := fun e => ha.h32 (by rw [e]; rfl)
  by_cases hb : runP prt (c :: t) < (c :: t).length
  · rw [if_pos hb]
    have := scan_bad (p := p) hc (c := c) (t := t ++ r) (n := (c :: t).length) ha.hk ha.h6 ha.hn (by have := e1; rw [List.cons_append] at this; rw [this]; exact hb)
    rw [List.cons_append] at e1
    rw [e1] at this
    exact this
  · rw [if_neg hb]
    rw [List.cons_append] at e1 e2
    have := scan_tok (p := p) hc (c := c) (t := t ++ r) (n := (c :: t).length) ha.hk ha.h6 ha.hn (by rw [e1]; exact hb)
    rw [e1, e2] at this
    exact this
theorem Ok.nil (p : Nat) : Ok p [] [] := scan_nil p
theorem Ok.blank {p : Nat} {t : List UInt8} {ts : List Tok} (h : Ok (p + 1) t ts) : Ok p (32 :: t) ts := by unfold Ok; rw [scan_blank]; exact h
theorem Ok.tok {p k : Nat} {u r : List UInt8} {ts : List Tok} (ha : At k u r) (hp : ¬ runP prt u < u.length) (h : Ok (p + u.length) r ts) : Ok p (u ++ r) (⟨k, said k u, p⟩ :: ts) := by
  unfold Ok at *; rw [scan_at ha, if_neg hp, h]; rfl
theorem Er.blank {p : Nat} {t : List UInt8} {c q : Nat} (h : Er (p + 1) t c q) : Er p (32 :: t) c q := by unfold Er; rw [scan_blank]; exact h
theorem Er.none {p : Nat} {c : UInt8} {t : List UInt8} (h : ¬ c = 32) (h6 : hit (c :: t) = 6) : Er p (c :: t) (if c = 34 then 41 else 40) p := scan_none h h6
theorem Er.bad {p k : Nat} {u r : List UInt8} (ha : At k u r) (hp : runP prt u < u.length) : Er p (u ++ r) 40 (p + runP prt u) := by
  unfold Er; rw [scan_at ha, if_pos hp]
theorem Er.tok {p k : Nat} {u r : List UInt8} {c q : Nat} (ha : At k u r) (hp : ¬ runP prt u < u.length) (h : Er (p + u.length) r c q) : Er p (u ++ r) c q := by
  unfold Er at *; rw [scan_at ha, if_neg hp, h]; rfl
theorem ok_inj {a b : List Tok} (h : Res.ok a = Res.ok b) : a = b := Sum.inl.inj h
theorem err_inj {a b c d : Nat} (h : Res.err a b = Res.err c d) : a = c ∧ b = d := by
  have := Sum.inr.inj h
  exact ⟨(Prod.mk.inj this).1, (Prod.mk.inj this).2⟩
theorem view (p : Nat) (l : List UInt8) : l = [] ∨ (∃ t, l = 32 :: t) ∨ (∃ c t, l = c :: t ∧ ¬ c = 32 ∧ hit (c :: t) = 6) ∨ ∃ k u r, l = u ++ r ∧ At k u r := by
  cases l with
  | nil => exact Or.inl rfl
  | cons c t =>
    by_cases hc : c = 32
    · exact Or.inr (Or.inl ⟨t, by rw [hc]⟩)
    · by_cases h6 : hit (c :: t) = 6
      · exact Or.inr (Or.inr (Or.inl ⟨c, t, rfl, hc, h6⟩))
      · exact Or.inr (Or.inr (Or.inr ⟨_, _, _, (List.take_append_drop _ _).symm, at_of hc h6⟩))
theorem ok_steps {motive : Nat → List UInt8 → List Tok → Prop} (nil : ∀ p, motive p [] []) (blank : ∀ p t ts, Ok (p + 1) t ts → motive (p + 1) t ts → motive p (32 :: t) ts)
    (tok : ∀ p k u r ts, At k u r → ¬ runP prt u < u.length → Ok (p + u.length) r ts → motive (p + u.length) r ts → motive p (u ++ r) (⟨k, said k u, p⟩ :: ts)) :
    ∀ (n p : Nat) (l : List UInt8) (ts : List Tok), l.length ≤ n → Ok p l ts → motive p l ts := by
  intro n
  induction n with
  | zero =>
    intro p l ts hl h
    obtain rfl := List.eq_nil_of_length_eq_zero (Nat.le_zero.1 hl)
    obtain rfl := ok_inj ((scan_nil p).symm.trans h)
    exact nil p
  | succ n ih =>
    intro p l ts hl h
    rcases view p l with rfl | ⟨t, rfl⟩ | ⟨c, t, rfl, hc, h6⟩ | ⟨k, u, r, rfl, ha⟩
    · obtain rfl := ok_inj ((scan_nil p).symm.trans h)
      exact nil p
    · simp only [List.length_cons] at hl
      have h2 : Ok (p + 1) t ts := by unfold Ok at *; rw [scan_blank] at h; exact h
      exact blank p t ts h2 (ih _ _ _ (by omega) h2)
    · unfold Ok at h
      rw [scan_none hc h6] at h
      cases h
    · have hpos := ha.pos
      rw [List.length_append] at hl
      unfold Ok at h
      rw [scan_at ha] at h
      by_cases hb : runP prt u < u.length
      · rw [if_pos hb] at h; cases h
      · rw [if_neg hb] at h
        cases hs : scan (p + u.length) r with
        | inl ts' =>
          rw [hs] at h
          obtain rfl := ok_inj h
          exact tok p k u r ts' ha hb hs (ih _ _ _ (by omega) hs)
        | inr x => rw [hs] at h; cases h
theorem er_steps {motive : Nat → List UInt8 → Nat → Nat → Prop} (blank : ∀ p t c q, Er (p + 1) t c q → motive (p + 1) t c q → motive p (32 :: t) c q)
    (none : ∀ p c t, ¬ c = 32 → hit (c :: t) = 6 → motive p (c :: t) (if c = 34 then 41 else 40) p) (bad : ∀ p k u r, At k u r → runP prt u < u.length → motive p (u ++ r) 40 (p + runP prt u))
    (tok : ∀ p k u r c q, At k u r → ¬ runP prt u < u.length → Er (p + u.length) r c q → motive (p + u.length) r c q → motive p (u ++ r) c q) :
    ∀ (n p : Nat) (l : List UInt8) (c q : Nat), l.length ≤ n → Er p l c q → motive p l c q := by
  intro n
  induction n with
  | zero =>
    intro p l c q hl h
    obtain rfl := List.eq_nil_of_length_eq_zero (Nat.le_zero.1 hl)
    unfold Er at h
    rw [scan_nil] at h
    cases h
  | succ n ih =>
    intro p l c q hl h
    rcases view p l with rfl | ⟨t, rfl⟩ | ⟨c', t, rfl, hc, h6⟩ | ⟨k, u, r, rfl, ha⟩
    · unfold Er at h
      rw [scan_nil] at h
      cases h
    · simp only [List.length_cons] at hl
      have h2 : Er (p + 1) t c q := by unfold Er at *; rw [scan_blank] at h; exact h
      exact blank p t c q h2 (ih _ _ _ _ (by omega) h2)
    · unfold Er at h
      rw [scan_none hc h6] at h
      obtain ⟨rfl, rfl⟩ := err_inj h
      exact none p c' t hc h6
    · have hpos := ha.pos
      rw [List.length_append] at hl
      unfold Er at h
      rw [scan_at ha] at h
      by_cases hb : runP prt u < u.length
      · rw [if_pos hb] at h
        obtain ⟨rfl, rfl⟩ := err_inj h
        exact bad p k u r ha hb
      · rw [if_neg hb] at h
        cases hs : scan (p + u.length) r with
        | inl ts' => rw [hs] at h; cases h
        | inr x =>
          obtain ⟨c', q'⟩ := x
          rw [hs] at h
          obtain ⟨rfl, rfl⟩ := err_inj h
          exact tok p k u r c' q' ha hb hs (ih _ _ _ _ (by omega) hs)
theorem Ok.ind {motive : ∀ p l ts, Ok p l ts → Prop} (nil : ∀ p, motive p [] [] (Ok.nil p)) (blank : ∀ {p : Nat} {t : List UInt8} {ts : List Tok} (h : Ok (p + 1) t ts), motive (p + 1) t ts h → motive p (32 :: t) ts (Ok.blank h))
    (tok : ∀ {p k : Nat} {u r : List UInt8} {ts : List Tok} (ha : At k u r) (hp : ¬ runP prt u < u.length) (h : Ok (p + u.length) r ts), motive (p + u.length) r ts h → motive p (u ++ r) (⟨k, said k u, p⟩ :: ts) (Ok.tok ha hp h))
    {p : Nat} {l : List UInt8} {ts : List Tok} (h : Ok p l ts) : motive p l ts h :=
  ok_steps (motive := fun p l ts => ∀ h : Ok p l ts, motive p l ts h) (fun p _ => nil p) (fun p t ts h ih _ => blank h (ih h)) (fun p k u r ts ha hp h ih _ => tok ha hp h (ih h)) l.length p l ts (Nat.le_refl _) h h
theorem Er.ind {motive : ∀ p l c q, Er p l c q → Prop} (blank : ∀ {p : Nat} {t : List UInt8} {c q : Nat} (h : Er (p + 1) t c q), motive (p + 1) t c q h → motive p (32 :: t) c q (Er.blank h))
    (none : ∀ {p : Nat} {c : UInt8} {t : List UInt8} (h : ¬ c = 32) (h6 : hit (c :: t) = 6), motive p (c :: t) (if c = 34 then 41 else 40) p (Er.none h h6)) (bad : ∀ {p k : Nat} {u r : List UInt8} (ha : At k u r) (hp : runP prt u < u.length), motive p (u ++ r) 40 (p + runP prt u) (Er.bad ha hp))
    (tok : ∀ {p k : Nat} {u r : List UInt8} {c q : Nat} (ha : At k u r) (hp : ¬ runP prt u < u.length) (h : Er (p + u.length) r c q), motive (p + u.length) r c q h → motive p (u ++ r) c q (Er.tok ha hp h))
    {p : Nat} {l : List UInt8} {c q : Nat} (h : Er p l c q) : motive p l c q h :=
  er_steps (motive := fun p l c q => ∀ h : Er p l c q, motive p l c q h) (fun p t c q h ih _ => blank h (ih h)) (fun p c t h h6 _ => none h h6) (fun p k u r ha hp _ => bad ha hp) (fun p k u r c q ha hp h ih _ => tok ha hp h (ih h)) l.length p l c q (Nat.le_refl _) h h
theorem Ok.scan {p : Nat} {l : List UInt8} {ts : List Tok} (h : Ok p l ts) : scan p l = Res.ok ts := h
theorem Er.scan {p : Nat} {l : List UInt8} {c q : Nat} (h : Er p l c q) : scan p l = Res.err c q := h
theorem hit_point (t : List UInt8) : hit (46 :: t) = 6 := by
  by_cases h : hit (46 :: t) = 6
  · exact h
  · rcases kind_of rfl h with h | h | h | h | h <;> exact absurd h.2 (by decide)
theorem Ok.head {p : Nat} {l : List UInt8} {ts : List Tok} (h : Ok p l ts) : ¬ l.head? = some 46 := by
  induction h using Ok.ind with
  | nil => simp
  | blank h => simp
  | tok ha hp h =>
    obtain ⟨c, t, rfl⟩ := ha.cons
    intro e
    obtain rfl : c = 46 := Option.some.inj e
    have := ha.hk
    rw [List.cons_append, hit_point] at this
    exact ha.h6 this.symm
theorem Ok.count {p : Nat} {l : List UInt8} {ts : List Tok} (h : Ok p l ts) : ts.length ≤ l.length ∧ ∀ t ∈ ts, p ≤ t.p ∧ t.p < p + l.length ∧ 1 ≤ t.k ∧ t.k ≤ 5 ∧ t.t.length ≤ l.length := by
  induction h using Ok.ind with
  | nil p => simp
  | blank h ih =>
    refine ⟨by simp only [List.length_cons]; omega, fun t ht => ?_⟩
    have := ih.2 t ht
    simp only [List.length_cons]; omega
  | @tok p k u r ts ha hp h ih =>
    have h0 := ha.pos
    rw [List.length_append]
    refine ⟨by simp only [List.length_cons]; omega, fun t ht => ?_⟩
    rcases List.mem_cons.1 ht with rfl | ht
    · have h1 := hit_low (u ++ r)
      have h2 := hit_high (u ++ r)
      have h6 := ha.h6
      rw [ha.hk] at h1 h2
      refine ⟨Nat.le_refl _, by show p < _; omega, h1, by show k ≤ 5; omega, ?_⟩
      show (said k u).length ≤ _
      have hu : ∀ l : List UInt8, (undbl l).length ≤ l.length := by
        intro l
        fun_induction undbl l with
        | case1 => exact Nat.le_refl _
        | case2 => exact Nat.le_refl _
        | case3 c d t hcd ih => simp only [List.length_cons]; omega
        | case4 c d t hcd ih => simp only [List.length_cons] at *; omega
      unfold said
      split
      · have := hu ((u.drop 1).take (u.length - 2))
        rw [List.length_take, List.length_drop] at this
        omega
      · omega
    · have := ih.2 t ht
      omega
end Wlx
