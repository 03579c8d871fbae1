/- What Scan tells, step by step: tokens, or an error. -/
import Derived.Test.YtjkohkhngeioiaaDoorLPlainD
namespace Wlx

/-- A token stands at the beginning of u ++ r. -/
structure At (k : Nat) (u r : List UInt8) : Prop where
  hk : hit (u ++ r) = k
  h6 : ¬ k = 6
  hn : sz k (u ++ r) = u.length
  h32 : ¬ (u ++ r).head? = some 32
theorem At.pos {k : Nat} {u r : List UInt8} (h : At k u r) : 0 < u.length := by
  have := hit_pos (l := u ++ r) (by rw [h.hk]; exact h.h6)
  rw [h.hk, h.hn] at this; exact this
theorem At.cons {k : Nat} {u r : List UInt8} (h : At k u r) : ∃ c t, u = c :: t := by
  have := h.pos
  cases u with
  | nil => simp at this
  | cons c t => exact ⟨c, t, rfl⟩
theorem At.ctx {k : Nat} {u r' r : List UInt8} (h : At k u r') (hx : Nx k r' r) : At k u r := by
  obtain ⟨h1, h2⟩ := Wlx.ctx h.hk h.h6 h.hn hx
  obtain ⟨c, t, rfl⟩ := h.cons
  exact ⟨h1, h.h6, h2, h.h32⟩

inductive Ok : Nat → List UInt8 → List Tok → Prop
  | nil (p : Nat) : Ok p [] []
  | blank {p : Nat} {t : List UInt8} {ts : List Tok} (h : Ok (p + 1) t ts) : Ok p (32 :: t) ts
  | tok {p k : Nat} {u r : List UInt8} {ts : List Tok} (ha : At k u r) (hp : ¬ runP prt u < u.length) (h : Ok (p + u.length) r ts) : Ok p (u ++ r) (⟨k, said k u, p⟩ :: ts)
inductive Er : Nat → List UInt8 → Nat → Nat → Prop
  | blank {p : Nat} {t : List UInt8} {c q : Nat} (h : Er (p + 1) t c q) : Er p (32 :: t) c q
  | none {p : Nat} {c : UInt8} {t : List UInt8} (h : ¬ c = 32) (h6 : hit (c :: t) = 6) : Er p (c :: t) (if c = 34 then 41 else 40) p
  | bad {p k : Nat} {u r : List UInt8} (ha : At k u r) (hp : runP prt u < u.length) : Er p (u ++ r) 40 (p + runP prt u)
  | tok {p k : Nat} {u r : List UInt8} {c q : Nat} (ha : At k u r) (hp : ¬ runP prt u < u.length) (h : Er (p + u.length) r c q) : Er p (u ++ r) c q

theorem at_of {c : UInt8} {t : List UInt8} (h : ¬ c = 32) (h6 : ¬ hit (c :: t) = 6) : At (hit (c :: t)) ((c :: t).take (sz (hit (c :: t)) (c :: t))) ((c :: t).drop (sz (hit (c :: t)) (c :: t))) := by
  have hl : ((c :: t).take (sz (hit (c :: t)) (c :: t))).length = sz (hit (c :: t)) (c :: t) := by
    rw [List.length_take]; exact Nat.min_eq_left (sz_le _ _)
  refine ⟨by rw [List.take_append_drop], h6, by rw [List.take_append_drop, hl], ?_⟩
  rw [List.take_append_drop]
  exact fun e => h (Option.some.inj e)
theorem scan_at {p k : Nat} {u r : List UInt8} (ha : At k u r) : scan p (u ++ r) = if runP prt u < u.length then .err 40 (p + runP prt u) else Res.cons ⟨k, said k u, p⟩ (scan (p + u.length) r) := by
  obtain ⟨c, t, rfl⟩ := ha.cons
  have e1 : (c :: t ++ r).take (c :: t).length = c :: t := List.take_left
  have e2 : (c :: t ++ r).drop (c :: t).length = r := List.drop_left
  have hc : ¬ c = 32 := fun e => ha.h32 (by rw [e]; rfl)
  by_cases hb : runP prt (c :: t) < (c :: t).length
  · rw [if_pos hb]
    have := scan_bad (p := p) hc (c := c) (t := t ++ r) (n := (c :: t).length) ha.hk ha.h6 ha.hn (by have := e1; rw [List.cons_append] at this; rw [this]; exact hb)
    rw [List.cons_append] at e1
    rw [e1] at this
    exact this
  · rw [if_neg hb]
    rw [List.cons_append] at e1 e2
    have := scan_tok (p := p) hc (c := c) (t := t ++ r) (n := (c :: t).length) ha.hk ha.h6 ha.hn (by rw [e1]; exact hb)
    rw [e1, e2] at this
    exact this
theorem scan_cases : ∀ (n : Nat) (p : Nat) (l : List UInt8), l.length ≤ n → (∃ ts, scan p l = .ok ts ∧ Ok p l ts) ∨ (∃ c q, scan p l = .err c q ∧ Er p l c q) := by
  intro n
  induction n with
  | zero =>
    intro p l hl
    obtain rfl := List.eq_nil_of_length_eq_zero (Nat.le_zero.1 hl)
    exact Or.inl ⟨[], scan_nil p, Ok.nil p⟩
  | succ n ih =>
    intro p l hl
    cases l with
    | nil => exact Or.inl ⟨[], scan_nil p, Ok.nil p⟩
    | cons c t =>
      simp only [List.length_cons] at hl
      by_cases hc : c = 32
      · subst hc
        rw [scan_blank]
        rcases ih (p + 1) t (by omega) with ⟨ts, h1, h2⟩ | ⟨c, q, h1, h2⟩
        · exact Or.inl ⟨ts, h1, Ok.blank h2⟩
        · exact Or.inr ⟨c, q, h1, Er.blank h2⟩
      · by_cases h6 : hit (c :: t) = 6
        · exact Or.inr ⟨_, _, scan_none hc h6, Er.none hc h6⟩
        · have ha := at_of hc h6
          have hl2 := congrArg List.length (List.take_append_drop (sz (hit (c :: t)) (c :: t)) (c :: t))
          have hs := scan_at (p := p) ha
          have hpos := ha.pos
          have ht := List.take_append_drop (sz (hit (c :: t)) (c :: t)) (c :: t)
          generalize (c :: t).take (sz (hit (c :: t)) (c :: t)) = u at ha hl2 hs hpos ht
          generalize (c :: t).drop (sz (hit (c :: t)) (c :: t)) = r at ha hl2 hs ht
          rw [← ht, hs]
          rw [List.length_append] at hl2
          simp only [List.length_cons] at hl2
          by_cases hb : runP prt u < u.length
          · rw [if_pos hb]
            exact Or.inr ⟨_, _, rfl, Er.bad ha hb⟩
          · rw [if_neg hb]
            rcases ih (p + u.length) r (by omega) with ⟨ts, h1, h2⟩ | ⟨c, q, h1, h2⟩
            · rw [h1]; exact Or.inl ⟨_, rfl, Ok.tok ha hb h2⟩
            · rw [h1]; exact Or.inr ⟨_, _, rfl, Er.tok ha hb h2⟩
theorem ok_of {p : Nat} {l : List UInt8} {ts : List Tok} (h : scan p l = .ok ts) : Ok p l ts := by
  rcases scan_cases _ p l (Nat.le_refl _) with ⟨ts', h1, h2⟩ | ⟨c, q, h1, h2⟩
  · rw [h] at h1; cases h1; exact h2
  · rw [h] at h1; cases h1
theorem er_of {p : Nat} {l : List UInt8} {c q : Nat} (h : scan p l = .err c q) : Er p l c q := by
  rcases scan_cases _ p l (Nat.le_refl _) with ⟨ts', h1, h2⟩ | ⟨c, q, h1, h2⟩
  · rw [h] at h1; cases h1
  · rw [h] at h1; cases h1; exact h2
theorem Ok.scan {p : Nat} {l : List UInt8} {ts : List Tok} (h : Ok p l ts) : scan p l = .ok ts := by
  induction h with
  | nil p => exact scan_nil p
  | blank h ih => rw [scan_blank]; exact ih
  | tok ha hp h ih => rw [scan_at ha, if_neg hp, ih]; rfl
theorem Er.scan {p : Nat} {l : List UInt8} {c q : Nat} (h : Er p l c q) : scan p l = .err c q := by
  induction h with
  | blank h ih => rw [scan_blank]; exact ih
  | none h h6 => exact scan_none h h6
  | bad ha hp => rw [scan_at ha, if_pos hp]
  | tok ha hp h ih => rw [scan_at ha, if_neg hp, ih]; rfl

/-- No token begins with a point. -/
theorem hit_point (t : List UInt8) : hit (46 :: t) = 6 := by
  by_cases h : hit (46 :: t) = 6
  · exact h
  · rcases kind_of rfl h with h | h | h | h | h <;> exact absurd h.2 (by decide)
theorem Ok.head {p : Nat} {l : List UInt8} {ts : List Tok} (h : Ok p l ts) : ¬ l.head? = some 46 := by
  cases h with
  | nil => simp
  | blank h => simp
  | tok ha hp h =>
    obtain ⟨c, t, rfl⟩ := ha.cons
    intro e
    obtain rfl : c = 46 := Option.some.inj e
    have := ha.hk
    rw [List.cons_append, hit_point] at this
    exact ha.h6 this.symm
/-- How many tokens, and where. -/
theorem Ok.count {p : Nat} {l : List UInt8} {ts : List Tok} (h : Ok p l ts) : ts.length ≤ l.length ∧ ∀ t ∈ ts, p ≤ t.p ∧ t.p < p + l.length ∧ 1 ≤ t.k ∧ t.k ≤ 5 ∧ t.t.length ≤ l.length := by
  induction h with
  | nil p => simp
  | blank h ih =>
    refine ⟨by simp only [List.length_cons]; omega, fun t ht => ?_⟩
    have := ih.2 t ht
    simp only [List.length_cons]; omega
  | @tok p k u r ts ha hp h ih =>
    have h0 := ha.pos
    rw [List.length_append]
    refine ⟨by simp only [List.length_cons]; omega, fun t ht => ?_⟩
    rcases List.mem_cons.1 ht with rfl | ht
    · have h1 := hit_low (u ++ r)
      have h2 := hit_high (u ++ r)
      have h6 := ha.h6
      rw [ha.hk] at h1 h2
      refine ⟨Nat.le_refl _, by show p < _; omega, h1, by show k ≤ 5; omega, ?_⟩
      show (said k u).length ≤ _
      have hu : ∀ l : List UInt8, (undbl l).length ≤ l.length := by
        intro l
        fun_induction undbl l with
        | case1 => exact Nat.le_refl _
        | case2 => exact Nat.le_refl _
        | case3 c d t hcd ih => simp only [List.length_cons]; omega
        | case4 c d t hcd ih => simp only [List.length_cons] at *; omega
      unfold said
      split
      · have := hu ((u.drop 1).take (u.length - 2))
        rw [List.length_take, List.length_drop] at this
        omega
      · omega
    · have := ih.2 t ht
      omega
end Wlx
