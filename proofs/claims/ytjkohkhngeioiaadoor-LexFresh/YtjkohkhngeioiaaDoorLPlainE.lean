/- What Scan tells, step by step: tokens, or an error. -/
import Derived.Test.YtjkohkhngeioiaaDoorLPlainD
namespace Wlx
set_option linter.unusedVariables false

/-- A token stands at the beginning of u ++ r. -/
structure At (k : Nat) (u r : List UInt8) : Prop where
  hk : hit (u ++ r) = k
  h6 : ¬ k = 6
  hn : sz k (u ++ r) = u.length
  h32 : ¬ (u ++ r).head? = some 32
theorem At.pos {k : Nat} {u r : List UInt8} (h : At k u r) : 0 < u.length := by
  have := hit_pos (l := u ++ r) (by rw [h.hk]; exact h.h6)
  rw [h.hk, h.hn] at this; exact this
theorem At.cons {k : Nat} {u r : List UInt8} (h : At k u r) : ∃ c t, u = c :: t := by
  have := h.pos
  cases u with
  | nil => simp at this
  | cons c t => exact ⟨c, t, rfl⟩
theorem At.ctx {k : Nat} {u r' r : List UInt8} (h : At k u r') (hx : Nx k r' r) : At k u r := by
  obtain ⟨h1, h2⟩ := Wlx.ctx h.hk h.h6 h.hn hx
  obtain ⟨c, t, rfl⟩ := h.cons
  exact ⟨h1, h.h6, h2, h.h32⟩

/-- The tokens of l are ts. -/
def Ok (p : Nat) (l : List UInt8) (ts : List Tok) : Prop := scan p l = Res.ok ts
/-- l is refused with c at q. -/
def Er (p : Nat) (l : List UInt8) (c q : Nat) : Prop := scan p l = Res.err c q
theorem at_of {c : UInt8} {t : List UInt8} (h : ¬ c = 32) (h6 : ¬ hit (c :: t) = 6) : At (hit (c :: t)) ((c :: t).take (sz (hit (c :: t)) (c :: t))) ((c :: t).drop (sz (hit (c :: t)) (c :: t))) := by
  have hl : ((c :: t).take (sz (hit (c :: t)) (c :: t))).length = sz (hit (c :: t)) (c :: t) := by
    rw [List.length_take]; exact Nat.min_eq_left (sz_le _ _)
  refine ⟨by rw [List.take_append_drop], h6, by rw [List.take_append_drop, hl], ?_⟩
  rw [List.take_append_drop]
  exact fun e => h (Option.some.inj e)
theorem scan_at {p k : Nat} {u r : List UInt8} (ha : At k u r) : scan p (u ++ r) = if runP prt u < u.length then Res.err 40 (p + runP prt u) else Res.cons ⟨k, said k u, p⟩ (scan (p + u.length) r) := by
  obtain ⟨c, t, rfl⟩ := ha.cons
  have e1 : (c :: t ++ r).take (c :: t).length = c :: t := List.take_left
  have e2 : (c :: t ++ r).drop (c :: t).length = r := List.drop_left
  have hc : ¬ c = 32 := fun e => ha.h32 (by rw [e]; rfl)
  by_cases hb : runP prt (c :: t) < (c :: t).length
  · rw [if_pos hb]
    have := scan_bad (p := p) hc (c := c) (t := t ++ r) (n := (c :: t).length) ha.hk ha.h6 ha.hn (by have := e1; rw [List.cons_append] at this; rw [this]; exact hb)
    rw [List.cons_append] at e1
    rw [e1] at this
    exact this
  · rw [if_neg hb]
    rw [List.cons_append] at e1 e2
    have := scan_tok (p := p) hc (c := c) (t := t ++ r) (n := (c :: t).length) ha.hk ha.h6 ha.hn (by rw [e1]; exact hb)
    rw [e1, e2] at this
    exact this
theorem Ok.nil (p : Nat) : Ok p [] [] := scan_nil p
theorem Ok.blank {p : Nat} {t : List UInt8} {ts : List Tok} (h : Ok (p + 1) t ts) : Ok p (32 :: t) ts := by unfold Ok; rw [scan_blank]; exact h
theorem Ok.tok {p k : Nat} {u r : List UInt8} {ts : List Tok} (ha : At k u r) (hp : ¬ runP prt u < u.length) (h : Ok (p + u.length) r ts) : Ok p (u ++ r) (⟨k, said k u, p⟩ :: ts) := by
  unfold Ok at *; rw [scan_at ha, if_neg hp, h]; rfl
theorem Er.blank {p : Nat} {t : List UInt8} {c q : Nat} (h : Er (p + 1) t c q) : Er p (32 :: t) c q := by unfold Er; rw [scan_blank]; exact h
theorem Er.none {p : Nat} {c : UInt8} {t : List UInt8} (h : ¬ c = 32) (h6 : hit (c :: t) = 6) : Er p (c :: t) (if c = 34 then 41 else 40) p := scan_none h h6
theorem Er.bad {p k : Nat} {u r : List UInt8} (ha : At k u r) (hp : runP prt u < u.length) : Er p (u ++ r) 40 (p + runP prt u) := by
  unfold Er; rw [scan_at ha, if_pos hp]
theorem Er.tok {p k : Nat} {u r : List UInt8} {c q : Nat} (ha : At k u r) (hp : ¬ runP prt u < u.length) (h : Er (p + u.length) r c q) : Er p (u ++ r) c q := by
  unfold Er at *; rw [scan_at ha, if_neg hp, h]; rfl
theorem ok_inj {a b : List Tok} (h : Res.ok a = Res.ok b) : a = b := Sum.inl.inj h
theorem err_inj {a b c d : Nat} (h : Res.err a b = Res.err c d) : a = c ∧ b = d := by
  have := Sum.inr.inj h
  exact ⟨(Prod.mk.inj this).1, (Prod.mk.inj this).2⟩
/-- How l begins. -/
theorem view (p : Nat) (l : List UInt8) : l = [] ∨ (∃ t, l = 32 :: t) ∨ (∃ c t, l = c :: t ∧ ¬ c = 32 ∧ hit (c :: t) = 6) ∨ ∃ k u r, l = u ++ r ∧ At k u r := by
  cases l with
  | nil => exact Or.inl rfl
  | cons c t =>
    by_cases hc : c = 32
    · exact Or.inr (Or.inl ⟨t, by rw [hc]⟩)
    · by_cases h6 : hit (c :: t) = 6
      · exact Or.inr (Or.inr (Or.inl ⟨c, t, rfl, hc, h6⟩))
      · exact Or.inr (Or.inr (Or.inr ⟨_, _, _, (List.take_append_drop _ _).symm, at_of hc h6⟩))
theorem ok_steps {motive : Nat → List UInt8 → List Tok → Prop} (nil : ∀ p, motive p [] []) (blank : ∀ p t ts, Ok (p + 1) t ts → motive (p + 1) t ts → motive p (32 :: t) ts)
    (tok : ∀ p k u r ts, At k u r → ¬ runP prt u < u.length → Ok (p + u.length) r ts → motive (p + u.length) r ts → motive p (u ++ r) (⟨k, said k u, p⟩ :: ts)) :
    ∀ (n p : Nat) (l : List UInt8) (ts : List Tok), l.length ≤ n → Ok p l ts → motive p l ts := by
  intro n
  induction n with
  | zero =>
    intro p l ts hl h
    obtain rfl := List.eq_nil_of_length_eq_zero (Nat.le_zero.1 hl)
    obtain rfl := ok_inj ((scan_nil p).symm.trans h)
    exact nil p
  | succ n ih =>
    intro p l ts hl h
    rcases view p l with rfl | ⟨t, rfl⟩ | ⟨c, t, rfl, hc, h6⟩ | ⟨k, u, r, rfl, ha⟩
    · obtain rfl := ok_inj ((scan_nil p).symm.trans h)
      exact nil p
    · simp only [List.length_cons] at hl
      have h2 : Ok (p + 1) t ts := by unfold Ok at *; rw [scan_blank] at h; exact h
      exact blank p t ts h2 (ih _ _ _ (by omega) h2)
    · unfold Ok at h
      rw [scan_none hc h6] at h
      cases h
    · have hpos := ha.pos
      rw [List.length_append] at hl
      unfold Ok at h
      rw [scan_at ha] at h
      by_cases hb : runP prt u < u.length
      · rw [if_pos hb] at h; cases h
      · rw [if_neg hb] at h
        cases hs : scan (p + u.length) r with
        | inl ts' =>
          rw [hs] at h
          obtain rfl := ok_inj h
          exact tok p k u r ts' ha hb hs (ih _ _ _ (by omega) hs)
        | inr x => rw [hs] at h; cases h
theorem er_steps {motive : Nat → List UInt8 → Nat → Nat → Prop} (blank : ∀ p t c q, Er (p + 1) t c q → motive (p + 1) t c q → motive p (32 :: t) c q)
    (none : ∀ p c t, ¬ c = 32 → hit (c :: t) = 6 → motive p (c :: t) (if c = 34 then 41 else 40) p) (bad : ∀ p k u r, At k u r → runP prt u < u.length → motive p (u ++ r) 40 (p + runP prt u))
    (tok : ∀ p k u r c q, At k u r → ¬ runP prt u < u.length → Er (p + u.length) r c q → motive (p + u.length) r c q → motive p (u ++ r) c q) :
    ∀ (n p : Nat) (l : List UInt8) (c q : Nat), l.length ≤ n → Er p l c q → motive p l c q := by
  intro n
  induction n with
  | zero =>
    intro p l c q hl h
    obtain rfl := List.eq_nil_of_length_eq_zero (Nat.le_zero.1 hl)
    unfold Er at h
    rw [scan_nil] at h
    cases h
  | succ n ih =>
    intro p l c q hl h
    rcases view p l with rfl | ⟨t, rfl⟩ | ⟨c', t, rfl, hc, h6⟩ | ⟨k, u, r, rfl, ha⟩
    · unfold Er at h
      rw [scan_nil] at h
      cases h
    · simp only [List.length_cons] at hl
      have h2 : Er (p + 1) t c q := by unfold Er at *; rw [scan_blank] at h; exact h
      exact blank p t c q h2 (ih _ _ _ _ (by omega) h2)
    · unfold Er at h
      rw [scan_none hc h6] at h
      obtain ⟨rfl, rfl⟩ := err_inj h
      exact none p c' t hc h6
    · have hpos := ha.pos
      rw [List.length_append] at hl
      unfold Er at h
      rw [scan_at ha] at h
      by_cases hb : runP prt u < u.length
      · rw [if_pos hb] at h
        obtain ⟨rfl, rfl⟩ := err_inj h
        exact bad p k u r ha hb
      · rw [if_neg hb] at h
        cases hs : scan (p + u.length) r with
        | inl ts' => rw [hs] at h; cases h
        | inr x =>
          obtain ⟨c', q'⟩ := x
          rw [hs] at h
          obtain ⟨rfl, rfl⟩ := err_inj h
          exact tok p k u r c' q' ha hb hs (ih _ _ _ _ (by omega) hs)
theorem Ok.ind {motive : ∀ p l ts, Ok p l ts → Prop} (nil : ∀ p, motive p [] [] (Ok.nil p)) (blank : ∀ {p : Nat} {t : List UInt8} {ts : List Tok} (h : Ok (p + 1) t ts), motive (p + 1) t ts h → motive p (32 :: t) ts (Ok.blank h))
    (tok : ∀ {p k : Nat} {u r : List UInt8} {ts : List Tok} (ha : At k u r) (hp : ¬ runP prt u < u.length) (h : Ok (p + u.length) r ts), motive (p + u.length) r ts h → motive p (u ++ r) (⟨k, said k u, p⟩ :: ts) (Ok.tok ha hp h))
    {p : Nat} {l : List UInt8} {ts : List Tok} (h : Ok p l ts) : motive p l ts h :=
  ok_steps (motive := fun p l ts => ∀ h : Ok p l ts, motive p l ts h) (fun p _ => nil p) (fun p t ts h ih _ => blank h (ih h)) (fun p k u r ts ha hp h ih _ => tok ha hp h (ih h)) l.length p l ts (Nat.le_refl _) h h
theorem Er.ind {motive : ∀ p l c q, Er p l c q → Prop} (blank : ∀ {p : Nat} {t : List UInt8} {c q : Nat} (h : Er (p + 1) t c q), motive (p + 1) t c q h → motive p (32 :: t) c q (Er.blank h))
    (none : ∀ {p : Nat} {c : UInt8} {t : List UInt8} (h : ¬ c = 32) (h6 : hit (c :: t) = 6), motive p (c :: t) (if c = 34 then 41 else 40) p (Er.none h h6)) (bad : ∀ {p k : Nat} {u r : List UInt8} (ha : At k u r) (hp : runP prt u < u.length), motive p (u ++ r) 40 (p + runP prt u) (Er.bad ha hp))
    (tok : ∀ {p k : Nat} {u r : List UInt8} {c q : Nat} (ha : At k u r) (hp : ¬ runP prt u < u.length) (h : Er (p + u.length) r c q), motive (p + u.length) r c q h → motive p (u ++ r) c q (Er.tok ha hp h))
    {p : Nat} {l : List UInt8} {c q : Nat} (h : Er p l c q) : motive p l c q h :=
  er_steps (motive := fun p l c q => ∀ h : Er p l c q, motive p l c q h) (fun p t c q h ih _ => blank h (ih h)) (fun p c t h h6 _ => none h h6) (fun p k u r ha hp _ => bad ha hp) (fun p k u r c q ha hp h ih _ => tok ha hp h (ih h)) l.length p l c q (Nat.le_refl _) h h
theorem scan_cases (p : Nat) (l : List UInt8) : (∃ ts, scan p l = Res.ok ts ∧ Ok p l ts) ∨ (∃ c q, scan p l = Res.err c q ∧ Er p l c q) := by
  cases hs : scan p l with
  | inl ts => exact Or.inl ⟨ts, rfl, hs⟩
  | inr x => exact Or.inr ⟨x.1, x.2, rfl, hs⟩
theorem Ok.scan {p : Nat} {l : List UInt8} {ts : List Tok} (h : Ok p l ts) : scan p l = Res.ok ts := h
theorem Er.scan {p : Nat} {l : List UInt8} {c q : Nat} (h : Er p l c q) : scan p l = Res.err c q := h

/-- No token begins with a point. -/
theorem hit_point (t : List UInt8) : hit (46 :: t) = 6 := by
  by_cases h : hit (46 :: t) = 6
  · exact h
  · rcases kind_of rfl h with h | h | h | h | h <;> exact absurd h.2 (by decide)
theorem Ok.head {p : Nat} {l : List UInt8} {ts : List Tok} (h : Ok p l ts) : ¬ l.head? = some 46 := by
  induction h using Ok.ind with
  | nil => simp
  | blank h => simp
  | tok ha hp h =>
    obtain ⟨c, t, rfl⟩ := ha.cons
    intro e
    obtain rfl : c = 46 := Option.some.inj e
    have := ha.hk
    rw [List.cons_append, hit_point] at this
    exact ha.h6 this.symm
/-- How many tokens, and where. -/
theorem Ok.count {p : Nat} {l : List UInt8} {ts : List Tok} (h : Ok p l ts) : ts.length ≤ l.length ∧ ∀ t ∈ ts, p ≤ t.p ∧ t.p < p + l.length ∧ 1 ≤ t.k ∧ t.k ≤ 5 ∧ t.t.length ≤ l.length := by
  induction h using Ok.ind with
  | nil p => simp
  | blank h ih =>
    refine ⟨by simp only [List.length_cons]; omega, fun t ht => ?_⟩
    have := ih.2 t ht
    simp only [List.length_cons]; omega
  | @tok p k u r ts ha hp h ih =>
    have h0 := ha.pos
    rw [List.length_append]
    refine ⟨by simp only [List.length_cons]; omega, fun t ht => ?_⟩
    rcases List.mem_cons.1 ht with rfl | ht
    · have h1 := hit_low (u ++ r)
      have h2 := hit_high (u ++ r)
      have h6 := ha.h6
      rw [ha.hk] at h1 h2
      refine ⟨Nat.le_refl _, by show p < _; omega, h1, by show k ≤ 5; omega, ?_⟩
      show (said k u).length ≤ _
      have hu : ∀ l : List UInt8, (undbl l).length ≤ l.length := by
        intro l
        fun_induction undbl l with
        | case1 => exact Nat.le_refl _
        | case2 => exact Nat.le_refl _
        | case3 c d t hcd ih => simp only [List.length_cons]; omega
        | case4 c d t hcd ih => simp only [List.length_cons] at *; omega
      unfold said
      split
      · have := hu ((u.drop 1).take (u.length - 2))
        rw [List.length_take, List.length_drop] at this
        omega
      · omega
    · have := ih.2 t ht
      omega
end Wlx
