/- The same token, whatever stands behind: the lemma of contexts. -/
import Derived.Test.YtjkohkhngeioiaaDoorLPlainC
namespace Wlx

theorem begins_iff : ∀ (p l : List UInt8), begins p l = true ↔ ∃ s, l = p ++ s
  | [], l => ⟨fun _ => ⟨l, rfl⟩, fun _ => rfl⟩
  | a :: p, [] => ⟨fun h => by simp [begins] at h, fun ⟨s, h⟩ => by simp at h⟩
  | a :: p, b :: t => by
    simp only [begins, Bool.and_eq_true, decide_eq_true_eq, begins_iff p t]
    constructor
    · rintro ⟨rfl, s, rfl⟩; exact ⟨s, rfl⟩
    · rintro ⟨s, h⟩
      simp only [List.cons_append, List.cons.injEq] at h
      exact ⟨h.1.symm, s, h.2⟩
theorem runP_app (p : UInt8 → Bool) (u r : List UInt8) : runP p (u ++ r) = if runP p u < u.length then runP p u else u.length + runP p r := by
  induction u with
  | nil => simp
  | cons c t ih =>
    cases h : p c with
    | false => rw [List.cons_append, runP_neg h, runP_neg h, if_pos (by simp)]
    | true =>
      rw [List.cons_append, runP_pos h, runP_pos h, ih]
      simp only [List.length_cons]
      split <;> split <;> omega

/-- What may stand behind a token in another text. -/
def Nx (k : Nat) (r' r : List UInt8) : Prop := (r.head? = r'.head? ∨ r.head? = none ∨ r.head? = some 32) ∧ (k = 1 → ¬ r.head? = some 46)
theorem runP_zero {p : UInt8 → Bool} {r : List UInt8} : runP p r = 0 ↔ ∀ c, r.head? = some c → p c = false := by
  cases r with
  | nil => simp [runP]
  | cons c t =>
    cases h : p c with
    | false => rw [runP_neg h]; simp [h]
    | true => rw [runP_pos h]; simp [h]
theorem runP_nx {p : UInt8 → Bool} (h32 : p 32 = false) {k : Nat} {r' r : List UInt8} (h : Nx k r' r) (h0 : runP p r' = 0) : runP p r = 0 := by
  rw [runP_zero] at h0 ⊢
  intro c hc
  rcases h.1 with e | e | e
  · exact h0 c (by rw [← e]; exact hc)
  · rw [e] at hc; cases hc
  · rw [e] at hc; cases hc; exact h32
theorem num_ctx {u r' r : List UInt8} (h0 : 0 < u.length) (h : numSz (u ++ r') = u.length) (hx : Nx 1 r' r) : numSz (u ++ r) = u.length := by
  have key : ∀ r, numSz (u ++ r) = if runP dig u < u.length then (if runP dig u = 0 then 0 else numTl (runP dig u) (u.drop (runP dig u) ++ r)) else numTl (u.length + runP dig r) (r.drop (runP dig r)) := by
    intro r
    unfold numSz
    rw [runP_app]
    by_cases ha : runP dig u < u.length
    · rw [if_pos ha, if_pos ha]
      rw [List.drop_append_of_le_length (by omega)]
    · rw [if_neg ha, if_neg ha, if_neg (by omega)]
      congr 1
      rw [List.drop_append, List.drop_eq_nil_of_le (by omega), List.nil_append, Nat.add_sub_cancel_left]
  rw [key] at h ⊢
  have hle := runP_le dig u
  by_cases ha : runP dig u < u.length
  · rw [if_pos ha] at h ⊢
    by_cases hz : runP dig u = 0
    · rw [if_pos hz] at h; omega
    · rw [if_neg hz] at h ⊢
      cases hd : u.drop (runP dig u) with
      | nil =>
        have := congrArg List.length hd
        simp only [List.length_drop, List.length_nil] at this
        omega
      | cons x y =>
        have hy : runP dig u + 1 + y.length = u.length := by
          have := congrArg List.length hd
          simp only [List.length_drop, List.length_cons] at this
          omega
        rw [hd, List.cons_append, numTl_cons] at h
        rw [List.cons_append, numTl_cons]
        by_cases hc : x = 46 ∧ 0 < runP dig (y ++ r')
        · rw [if_pos hc] at h
          have e : runP dig (y ++ r') = y.length := by omega
          rw [runP_app] at e
          have hyl := runP_le dig y
          by_cases hb : runP dig y < y.length
          · rw [if_pos hb] at e; omega
          · rw [if_neg hb] at e
            have e2 : runP dig (y ++ r) = y.length := by rw [runP_app, if_neg hb, runP_nx (by decide) hx (by omega)]; rfl
            have hpos : 0 < y.length := by have := hc.2; rw [runP_app, if_neg hb] at this; omega
            rw [e2, if_pos ⟨hc.1, hpos⟩]
            omega
        · rw [if_neg hc] at h; omega
  · rw [if_neg ha] at h ⊢
    have hr : runP dig r' = 0 := by
      have g : ∀ n l, n ≤ numTl n l := by
        intro n l
        cases l with
        | nil => exact Nat.le_refl _
        | cons c t => rw [numTl_cons]; split <;> omega
      have := g (u.length + runP dig r') (r'.drop (runP dig r'))
      omega
    have hr2 := runP_nx (by decide) hx hr
    rw [hr2]
    show numTl (u.length + 0) r = _
    cases r with
    | nil => rfl
    | cons x y =>
      rw [numTl_cons, if_neg (fun hh => hx.2 rfl (by rw [hh.1]; rfl))]
      rfl
theorem wrd_ctx {u r' r : List UInt8} (h : runP wrd (u ++ r') = u.length) (hx : Nx 3 r' r) : runP wrd (u ++ r) = u.length := by
  rw [runP_app] at h ⊢
  by_cases ha : runP wrd u < u.length
  · rw [if_pos ha] at h; omega
  · rw [if_neg ha] at h ⊢
    rw [runP_nx (by decide) hx (by omega)]; rfl
theorem quo_hit (w : Bool) (i : Nat) (t : List UInt8) : quo w i (34 :: t) = quo (!w) (i + 1) t := by
  conv => lhs; unfold quo
  rw [if_pos rfl]
theorem quo_in {c : UInt8} (h : ¬ c = 34) (i : Nat) (t : List UInt8) : quo true i (c :: t) = quo true (i + 1) t := by
  conv => lhs; unfold quo
  rw [if_neg h, if_pos rfl]
theorem quo_out {c : UInt8} (h : ¬ c = 34) (i : Nat) (t : List UInt8) : quo false i (c :: t) = i := by
  conv => lhs; unfold quo
  rw [if_neg h, if_neg (by decide)]
theorem quo_more : ∀ (l : List UInt8) (i : Nat), (quo true i l = 0 ∨ i + 1 ≤ quo true i l) ∧ (quo false i l = 0 ∨ i ≤ quo false i l) := by
  intro l
  induction l with
  | nil => intro i; exact ⟨Or.inl rfl, Or.inr (Nat.le_refl _)⟩
  | cons c t ih =>
    intro i
    obtain ⟨h1, h2⟩ := ih (i + 1)
    by_cases hc : c = 34
    · subst hc
      rw [quo_hit, quo_hit]
      exact ⟨h2, h1.imp id (fun h => Nat.le_of_succ_le (Nat.le_of_succ_le h))⟩
    · rw [quo_in hc, quo_out hc]
      exact ⟨h1.imp id (fun h => Nat.le_of_succ_le h), Or.inr (Nat.le_refl _)⟩
theorem quo_stop {i : Nat} (hi : 1 ≤ i) {w : Bool} {r : List UInt8} (h : quo w i r = i) : w = false ∧ ¬ r.head? = some 34 := by
  cases w with
  | true => rcases (quo_more r i).1 with h1 | h1 <;> omega
  | false =>
    refine ⟨rfl, fun hh => ?_⟩
    cases r with
    | nil => cases hh
    | cons c t =>
      obtain rfl : c = 34 := Option.some.inj hh
      rw [quo_hit] at h
      rcases (quo_more t (i + 1)).1 with h1 | h1
      · rw [show (!false) = true from rfl, h1] at h; omega
      · rw [show (!false) = true from rfl] at h; omega
theorem quo_ctx : ∀ (a : List UInt8) (w : Bool) (i : Nat) (r' r : List UInt8), 1 ≤ i → quo w i (a ++ r') = i + a.length → Nx 2 r' r → quo w i (a ++ r) = i + a.length
  | [], w, i, r', r, hi, h, hx => by
    obtain ⟨rfl, hh⟩ := quo_stop hi (w := w) (r := r') h
    show quo false i r = i
    cases r with
    | nil => rfl
    | cons c t =>
      refine quo_out (fun e => ?_) i t
      subst e
      rcases hx.1 with e | e | e
      · exact hh e.symm
      · cases e
      · exact absurd (Option.some.inj e) (by decide)
  | c :: a, w, i, r', r, hi, h, hx => by
    rw [List.cons_append, List.length_cons] at *
    by_cases hc : c = 34
    · subst hc
      rw [quo_hit] at h ⊢
      rw [quo_ctx a (!w) (i + 1) r' r (by omega) (by omega) hx]; omega
    · cases w with
      | true =>
        rw [quo_in hc] at h ⊢
        rw [quo_ctx a true (i + 1) r' r (by omega) (by omega) hx]; omega
      | false => rw [quo_out hc] at h; omega
theorem txt_ctx {u r' r : List UInt8} (h0 : 0 < u.length) (h : txtSz (u ++ r') = u.length) (hx : Nx 2 r' r) : txtSz (u ++ r) = u.length := by
  cases u with
  | nil => simp at h0
  | cons c t =>
    have e : ∀ s, txtSz (c :: t ++ s) = if c = 34 then quo true 1 (t ++ s) else 0 := fun s => rfl
    rw [e] at h ⊢
    by_cases hc : c = 34
    · rw [if_pos hc] at h ⊢
      simp only [List.length_cons] at h ⊢
      rw [quo_ctx t true 1 r' r (by omega) (by omega) hx]; omega
    · rw [if_neg hc] at h; simp at h
theorem name_ctx {u r' r : List UInt8} {k : Nat} (h0 : 0 < u.length) (hx : Nx k r' r) : ∀ (ms : List (List UInt8)), (∀ n ∈ ms, ¬ 32 ∈ n ∧ (begins u n = true → n.length ≤ u.length + 1)) → nameSz (u ++ r') ms = u.length → nameSz (u ++ r) ms = u.length
  | [], _, h => by simp [nameSz] at h; omega
  | n :: ms, hg, h => by
    unfold nameSz at h ⊢
    cases hb : begins n (u ++ r') with
    | true =>
      rw [hb, if_pos rfl] at h
      obtain ⟨s, hs⟩ := (begins_iff _ _).1 hb
      have hnu : n = u := by
        have := List.append_inj hs h.symm
        exact this.1.symm
      subst hnu
      rw [if_pos ((begins_iff _ _).2 ⟨r, rfl⟩)]
    | false =>
      rw [hb, if_neg (by decide)] at h
      have hf : begins n (u ++ r) = false := by
        cases hq : begins n (u ++ r) with
        | false => rfl
        | true =>
          exfalso
          obtain ⟨s, hs⟩ := (begins_iff _ _).1 hq
          by_cases hl : n.length ≤ u.length
          · have hu : u = n ++ u.drop n.length := by
              have e1 := congrArg (List.take n.length) hs
              rw [List.take_append_of_le_length hl, List.take_left] at e1
              conv => lhs; rw [← List.take_append_drop n.length u, e1]
            have : begins n (u ++ r') = true := (begins_iff _ _).2 ⟨u.drop n.length ++ r', by rw [← List.append_assoc, ← hu]⟩
            rw [this] at hb; cases hb
          · have hu : n = u ++ n.drop u.length := by
              have e1 := congrArg (List.take u.length) hs
              rw [List.take_left, List.take_append_of_le_length (by omega)] at e1
              conv => lhs; rw [← List.take_append_drop u.length n, ← e1]
            obtain ⟨g1, g2⟩ := hg n (by simp)
            have hn1 := g2 ((begins_iff _ _).2 ⟨_, hu⟩)
            cases hd : n.drop u.length with
            | nil =>
              have := congrArg List.length hd
              simp only [List.length_drop, List.length_nil] at this
              omega
            | cons x y =>
              have hy : y = [] := by
                have := congrArg List.length hd
                simp only [List.length_drop, List.length_cons] at this
                exact List.eq_nil_of_length_eq_zero (by omega)
              subst hy
              rw [hd] at hu
              rw [hu, List.append_assoc] at hs
              have hr := List.append_cancel_left hs
              have hrh : r.head? = some x := by rw [hr]; rfl
              have hx32 : ¬ x = 32 := fun e => g1 (by rw [hu, e]; simp)
              rcases hx.1 with e | e | e
              · rw [hrh] at e
                cases r' with
                | nil => cases e
                | cons x' y' =>
                  obtain rfl : x = x' := Option.some.inj e
                  have : begins n (u ++ x :: y') = true := (begins_iff _ _).2 ⟨y', by rw [hu, List.append_assoc]; rfl⟩
                  rw [this] at hb; cases hb
              · rw [hrh] at e; cases e
              · rw [hrh] at e; exact hx32 (Option.some.inj e)
      rw [hf, if_neg (by decide)]
      exact name_ctx h0 hx ms (fun n hn => hg n (by simp [hn])) h
theorem name_mem {u r' : List UInt8} (h0 : 0 < u.length) : ∀ (ms : List (List UInt8)), nameSz (u ++ r') ms = u.length → u ∈ ms
  | [], h => by simp [nameSz] at h; omega
  | n :: ms, h => by
    unfold nameSz at h
    cases hb : begins n (u ++ r') with
    | true =>
      rw [hb, if_pos rfl] at h
      obtain ⟨s, hs⟩ := (begins_iff _ _).1 hb
      rw [(List.append_inj hs h.symm).1]
      simp
    | false =>
      rw [hb, if_neg (by decide)] at h
      exact List.mem_cons_of_mem _ (name_mem h0 ms h)
theorem faults_good : ∀ u ∈ faults, ∀ n ∈ faults, ¬ 32 ∈ n ∧ (begins u n = true → n.length ≤ u.length + 1) := by decide
theorem marks_good : ∀ u ∈ marks, ∀ n ∈ marks, ¬ 32 ∈ n ∧ (begins u n = true → n.length ≤ u.length + 1) := by decide

/-- The same token ahead of another text. -/
theorem ctx {u r' r : List UInt8} {k : Nat} (hk : hit (u ++ r') = k) (h6 : ¬ k = 6) (hn : sz k (u ++ r') = u.length) (hx : Nx k r' r) : hit (u ++ r) = k ∧ sz k (u ++ r) = u.length := by
  have hp := hit_pos (l := u ++ r') (by rw [hk]; exact h6)
  rw [hk, hn] at hp
  have hs : sz k (u ++ r) = u.length := by
    have h1 := hit_low (u ++ r')
    have h2 := hit_high (u ++ r')
    rw [hk] at h1 h2
    have : k = 1 ∨ k = 2 ∨ k = 3 ∨ k = 4 ∨ k = 5 := by omega
    rcases this with rfl | rfl | rfl | rfl | rfl
    · exact num_ctx hp hn hx
    · exact txt_ctx hp hn hx
    · exact wrd_ctx hn hx
    · exact name_ctx hp hx faults (faults_good u (name_mem hp faults hn)) hn
    · exact name_ctx hp hx marks (marks_good u (name_mem hp marks hn)) hn
  refine ⟨?_, hs⟩
  cases u with
  | nil => simp at hp
  | cons c t => exact hit_of (kind_of hk h6) (Nat.lt_of_lt_of_eq hp hs.symm)
end Wlx
