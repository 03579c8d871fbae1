/- LPlainF, LPlainG, LPlainH, NPlainD, NPlainF, TRtA, TBrkP. -/
import Derived.Test.YtifdemakjphfcaaGreatDoorQ38
namespace Wlx
theorem undbl_other {c : UInt8} (h : ¬ c = 34) (m : List UInt8) : undbl (c :: m) = c :: undbl m := by
  cases m with
  | nil => rfl
  | cons d t =>
    conv => lhs; unfold undbl
    rw [if_neg (fun e => h e.1)]
theorem undbl_two (m : List UInt8) : undbl (34 :: 34 :: m) = 34 :: undbl m := by
  conv => lhs; unfold undbl
  rw [if_pos ⟨rfl, rfl⟩]
theorem dbl_other {c : UInt8} (h : ¬ c = 34) (m : List UInt8) : dbl (c :: m) = c :: dbl m := by
  show (if c = 34 then 34 :: 34 :: dbl m else c :: dbl m) = _
  rw [if_neg h]
theorem dbl_quote (m : List UInt8) : dbl (34 :: m) = 34 :: 34 :: dbl m := rfl
theorem text_form : ∀ (n : Nat) (a : List UInt8) (i : Nat) (r : List UInt8), a.length ≤ n → 1 ≤ i → quo true i (a ++ r) = i + a.length → ∃ mid, a = mid ++ [34] ∧ dbl (undbl mid) = mid := by
  intro n
  induction n with
  | zero =>
    intro a i r hl hi h
    obtain rfl := List.eq_nil_of_length_eq_zero (Nat.le_zero.1 hl)
    have := (quo_stop hi h).1
    cases this
  | succ n ih =>
    intro a i r hl hi h
    cases a with
    | nil => have := (quo_stop hi h).1; cases this
    | cons c a =>
      simp only [List.length_cons] at hl h
      rw [List.cons_append] at h
      by_cases hc : c = 34
      · subst hc
        rw [quo_hit] at h
        cases a with
        | nil => exact ⟨[], rfl, rfl⟩
        | cons d a =>
          simp only [List.length_cons] at hl h
          rw [List.cons_append] at h
          by_cases hd : d = 34
          · subst hd
            rw [quo_hit] at h
            obtain ⟨mid, rfl, hm⟩ := ih a (i + 1 + 1) r (by omega) (by omega) (by have : (!!true) = true := rfl; rw [this] at h; omega)
            exact ⟨34 :: 34 :: mid, rfl, by rw [undbl_two, dbl_quote, hm]⟩
          · rw [show (!true) = false from rfl, quo_out hd] at h; omega
      · rw [quo_in hc] at h
        obtain ⟨mid, rfl, hm⟩ := ih a (i + 1) r (by omega) (by omega) (by omega)
        exact ⟨c :: mid, rfl, by rw [undbl_other hc, dbl_other hc, hm]⟩
theorem At.writ {k : Nat} {u r : List UInt8} (h : At k u r) : writ k (said k u) = u := by
  by_cases hk : k = 2
  · subst hk
    obtain ⟨c, t, rfl⟩ := h.cons
    have hn : txtSz (c :: (t ++ r)) = (c :: t).length := h.hn
    have hc : c = 34 := txtSz_pos (by rw [hn]; exact h.pos)
    subst hc
    have e : txtSz (34 :: (t ++ r)) = quo true 1 (t ++ r) := rfl
    rw [e] at hn
    simp only [List.length_cons] at hn
    obtain ⟨mid, rfl, hm⟩ := text_form _ t 1 r (Nat.le_refl _) (Nat.le_refl _) (by omega)
    unfold Wlx.writ said
    rw [if_pos rfl, if_pos rfl]
    have e2 : (((34 :: (mid ++ [34])).drop 1).take ((34 :: (mid ++ [34])).length - 2)) = mid := by
      have : (34 :: (mid ++ [34])).length - 2 = mid.length := by simp
      rw [this]
      exact List.take_left
    rw [e2, hm]
  · unfold Wlx.writ said
    rw [if_neg hk, if_neg hk]
def joinT : Bool → List Tok → List UInt8
  | _, [] => []
  | f, t :: r => (if f then [] else [32]) ++ writ t.k t.t ++ joinT false r
theorem joinT_nx (k : Nat) (r' : List UInt8) (ts : List Tok) : Nx k r' (joinT false ts) := by
  cases ts with
  | nil => exact ⟨Or.inr (Or.inl rfl), fun _ h => by cases h⟩
  | cons t r => exact ⟨Or.inr (Or.inr (Or.inl rfl)), fun _ h => absurd (Option.some.inj h) (by decide)⟩
theorem Ok.back {p : Nat} {l : List UInt8} {ts : List Tok} (h : Ok p l ts) : ∀ (q : Nat) (f : Bool), ∃ ts', Ok q (joinT f ts) ts' ∧ ts'.map (fun t => (t.k, t.t)) = ts.map (fun t => (t.k, t.t)) := by
  induction h using Ok.ind with
  | nil p => intro q f; exact ⟨[], Ok.nil q, rfl⟩
  | blank h ih => exact ih
  | @tok p k u r ts ha hp h ih =>
    intro q f
    have hw : ∀ q, ∃ ts', Ok q (u ++ joinT false ts) ts' ∧ ts'.map (fun t => (t.k, t.t)) = (⟨k, said k u, p⟩ :: ts : List Tok).map (fun t => (t.k, t.t)) := by
      intro q
      obtain ⟨ts', h1, h2⟩ := ih (q + u.length) false
      exact ⟨⟨k, said k u, q⟩ :: ts', Ok.tok (ha.ctx (joinT_nx k r ts)) hp h1, by simp [h2]⟩
    have e : joinT f (⟨k, said k u, p⟩ :: ts) = (if f then [] else [32]) ++ u ++ joinT false ts := by
      show (if f then [] else [32]) ++ Wlx.writ k (said k u) ++ joinT false ts = _
      rw [ha.writ]
    rw [e]
    cases f with
    | true => exact hw q
    | false =>
      obtain ⟨ts', h1, h2⟩ := hw (q + 1)
      exact ⟨ts', Ok.blank h1, h2⟩
def shift (b : Nat) (t : Tok) : Tok := ⟨t.k, t.t, t.p + b⟩
theorem Ok.shift {p : Nat} {l : List UInt8} {ts : List Tok} (h : Ok p l ts) (b : Nat) : Ok (p + b) l (ts.map (shift b)) := by
  induction h using Ok.ind with
  | nil p => exact Ok.nil _
  | blank h ih => exact Ok.blank (by rw [Nat.add_right_comm]; exact ih)
  | tok ha hp h ih => exact Ok.tok ha hp (by rw [Nat.add_right_comm]; exact ih)
theorem Ok.blanks {l : List UInt8} {ts : List Tok} : ∀ (b p : Nat), Ok (p + b) l ts → Ok p (List.replicate b 32 ++ l) ts
  | 0, p, h => h
  | b + 1, p, h => by
    rw [List.replicate_succ, List.cons_append]
    exact Ok.blank (Ok.blanks b (p + 1) (by rw [Nat.add_right_comm, Nat.add_assoc]; exact h))
def place (p : Nat) (l : List UInt8) (ts : List Tok) (i : Nat) : Nat := if h : i < ts.length then (ts[i]).p - p else l.length
theorem Ok.put {p : Nat} {l : List UInt8} {ts : List Tok} (h : Ok p l ts) (b : Nat) (hb : 0 < b) : ∀ i, i ≤ ts.length → Ok p (l.take (place p l ts i) ++ (List.replicate b 32 ++ l.drop (place p l ts i))) (ts.take i ++ (ts.drop i).map (Wlx.shift b)) := by
  induction h using Ok.ind with
  | nil p =>
    intro i hi
    have e : place p [] [] i = 0 := by unfold place; rw [dif_neg (by simp)]; rfl
    rw [e]
    have := Ok.blanks b p (Ok.nil (p + b))
    simpa using this
  | @blank p t ts h ih =>
    intro i hi
    have e : place p (32 :: t) ts i = place (p + 1) t ts i + 1 := by
      unfold place
      by_cases hl : i < ts.length
      · rw [dif_pos hl, dif_pos hl]
        have := (h.count.2 (ts[i]) (List.getElem_mem hl)).1
        omega
      · rw [dif_neg hl, dif_neg hl]; rfl
    rw [e]
    exact Ok.blank (ih i hi)
  | @tok p k u r ts ha hp h ih =>
    intro i hi
    cases i with
    | zero =>
      have e : place p (u ++ r) (⟨k, said k u, p⟩ :: ts) 0 = 0 := by unfold place; rw [dif_pos (by simp)]; exact Nat.sub_self p
      rw [e]
      exact Ok.blanks b p ((Ok.tok ha hp h).shift b)
    | succ i =>
      simp only [List.length_cons] at hi
      have e : place p (u ++ r) (⟨k, said k u, p⟩ :: ts) (i + 1) = u.length + place (p + u.length) r ts i := by
        unfold place
        by_cases hl : i < ts.length
        · rw [dif_pos hl, dif_pos (by simpa using hl), List.getElem_cons_succ]
          have := (h.count.2 (ts[i]) (List.getElem_mem hl)).1
          omega
        · rw [dif_neg hl, dif_neg (by simpa using hl), List.length_append]
      have hi2 := ih i (by omega)
      generalize place (p + u.length) r ts i = A at e hi2
      rw [e, List.take_append, List.drop_append, Nat.add_sub_cancel_left, List.take_of_length_le (by omega), List.drop_eq_nil_of_le (by omega), List.nil_append, List.append_assoc]
      have hx : Nx k r (r.take A ++ (List.replicate b 32 ++ r.drop A)) := by
        obtain ⟨b', rfl⟩ : ∃ b', b = b' + 1 := ⟨b - 1, by omega⟩
        cases r with
        | nil => exact ⟨Or.inr (Or.inr (Or.inl (by simp [List.replicate_succ]))), fun _ h => by simp [List.replicate_succ] at h⟩
        | cons x y =>
          cases A with
          | zero => exact ⟨Or.inr (Or.inr (Or.inl (by simp [List.replicate_succ]))), fun _ h => by simp [List.replicate_succ] at h⟩
          | succ A => exact ⟨Or.inl rfl, fun _ h2 => h.head h2⟩
      exact Ok.tok (ha.ctx hx) hp hi2
theorem Ok.next {p : Nat} {l : List UInt8} {t : Tok} {ts : List Tok} (h : Ok p l (t :: ts)) : ∃ (b : Nat) (u r : List UInt8), l = List.replicate b 32 ++ (u ++ r) ∧ t = ⟨t.k, said t.k u, p + b⟩ ∧ At t.k u r ∧ Ok (p + b + u.length) r ts := by
  generalize hx : t :: ts = xs at h
  induction h using Ok.ind with
  | nil p => cases hx
  | blank h ih =>
    obtain ⟨b, u, r, rfl, h2, h3, h4⟩ := ih hx
    refine ⟨b + 1, u, r, rfl, ?_, h3, ?_⟩
    · rw [show ∀ p : Nat, p + (b + 1) = p + 1 + b by intro p; omega]; exact h2
    · rw [show ∀ p : Nat, p + (b + 1) + u.length = p + 1 + b + u.length by intro p; omega]; exact h4
  | tok ha hp h ih =>
    cases hx
    exact ⟨0, _, _, rfl, rfl, ha, h⟩
theorem runP_full {p : UInt8 → Bool} : ∀ (u : List UInt8), (∀ c ∈ u, p c = true) → runP p u = u.length
  | [], _ => rfl
  | c :: t, h => by rw [runP_pos (h c (by simp)), runP_full t (fun x hx => h x (by simp [hx]))]; rfl
theorem runP_mem {p : UInt8 → Bool} : ∀ (u : List UInt8), ¬ runP p u < u.length → ∀ c ∈ u, p c = true
  | [], _, c, hc => by cases hc
  | d :: t, h, c, hc => by
    cases hd : p d with
    | false => rw [runP_neg hd] at h; simp at h
    | true =>
      rw [runP_pos hd] at h
      simp only [List.length_cons] at h
      rcases List.mem_cons.1 hc with rfl | hc
      · exact hd
      · exact runP_mem t (by omega) c hc
end Wlx
namespace Wlx
theorem Ok.app {p : Nat} {l : List UInt8} {ts : List Tok} (h : Ok p l ts) {d : UInt8} (hd : d = 40 ∨ d = 41 ∨ d = 44) {r : List UInt8} : ∀ {ts2 : List Tok}, Ok (p + l.length) (d :: r) ts2 → Ok p (l ++ d :: r) (ts ++ ts2) := by
  induction h using Ok.ind with
  | nil p => intro ts2 h2; exact h2
  | @blank p t ts h ih =>
    intro ts2 h2
    refine Ok.blank (ih ?_)
    rw [show p + 1 + t.length = p + (32 :: t).length by simp only [List.length_cons]; omega]
    exact h2
  | @tok p k u r0 ts ha hp h ih =>
    intro ts2 h2
    rw [List.append_assoc]
    have hx : Nx k r0 (r0 ++ d :: r) := by
      cases r0 with
      | nil => exact ⟨Or.inr (Or.inr (Or.inr ⟨d, rfl, hd⟩)), fun _ e => by
          obtain rfl := Option.some.inj e
          exact absurd hd (by decide)⟩
      | cons x y => exact ⟨Or.inl rfl, fun _ e => h.head e⟩
    refine Ok.tok (ha.ctx hx) hp (ih ?_)
    rw [show p + u.length + r0.length = p + (u ++ r0).length by rw [List.length_append]; omega]
    exact h2
theorem at_one (d : UInt8) (hd : d = 40 ∨ d = 41 ∨ d = 44) (r : List UInt8) : At 5 [d] r := by
  have hs : sz 5 ([d] ++ r) = 1 := by
    rw [sz5]
    rcases hd with rfl | rfl | rfl <;> simp [marks, nameSz, begins]
  refine ⟨hit_of ?_ (by show 0 < sz 5 ([d] ++ r); omega), by decide, hs, ?_⟩
  · rcases hd with rfl | rfl | rfl <;> exact Or.inr (Or.inr (Or.inr (Or.inr ⟨rfl, by decide⟩)))
  · rcases hd with rfl | rfl | rfl <;> simp
theorem Ok.one {p : Nat} {d : UInt8} (hd : d = 40 ∨ d = 41 ∨ d = 44) {r : List UInt8} {ts : List Tok} (h : Ok (p + 1) r ts) : Ok p (d :: r) (⟨5, [d], p⟩ :: ts) := by
  have := Ok.tok (u := [d]) (at_one d hd r) (by rcases hd with rfl | rfl | rfl <;> decide) h
  exact this
end Wlx
namespace Wlx
def Aft (r : List UInt8) : Prop := ∀ c, r.head? = some c → mk c = true
theorem Aft.nil : Aft [] := fun c h => by cases h
theorem Aft.cons {c : UInt8} {r : List UInt8} (h : mk c = true) : Aft (c :: r) := fun d hd => by
  obtain rfl := Option.some.inj hd
  exact h
theorem Aft.app {u r : List UInt8} (h0 : u ≠ []) (hu : Aft u) : Aft (u ++ r) := by
  cases u with
  | nil => exact absurd rfl h0
  | cons c t => exact fun d hd => hu d hd
theorem Aft.no {r : List UInt8} (h : Aft r) : (∀ c, r.head? = some c → wrd c = false ∧ dig c = false ∧ ¬ c = 34 ∧ ¬ c = 46) := by
  intro c hc
  obtain ⟨c1, c2, c3⟩ := cls c
  obtain ⟨a1, a2, a3, a4, a5⟩ := c3 (h c hc)
  refine ⟨a3, ?_, a1, a5⟩
  cases hd : dig c with
  | false => rfl
  | true => rw [c2 hd] at a3; cases a3
theorem runP_all {p : UInt8 → Bool} {u r : List UInt8} (hu : ∀ c ∈ u, p c = true) (hr : ∀ c, r.head? = some c → p c = false) : runP p (u ++ r) = u.length := by
  rw [runP_app, if_neg (by rw [runP_full u hu]; omega), runP_zero.2 hr]; rfl
theorem at_word {c : UInt8} {t r : List UInt8} (hw : ∀ x ∈ c :: t, wrd x = true) (hd : dig c = false) (hr : Aft r) : At 3 (c :: t) r := by
  have hs : sz 3 (c :: t ++ r) = (c :: t).length := by
    rw [sz3]; exact runP_all hw (fun c hc => (hr.no c hc).1)
  refine ⟨hit_of (Or.inr (Or.inr (Or.inl ⟨rfl, hw c (by simp), hd⟩))) ?_, by decide, hs, ?_⟩
  · show 0 < sz 3 (c :: t ++ r); rw [hs]; simp
  · intro e
    obtain rfl : c = 32 := Option.some.inj e
    exact absurd (hw 32 (by simp)) (by decide)
theorem undbl_dbl : ∀ (t : List UInt8), undbl (dbl t) = t
  | [] => rfl
  | c :: t => by
    by_cases hc : c = 34
    · subst hc; rw [dbl_quote, undbl_two, undbl_dbl t]
    · rw [dbl_other hc, undbl_other hc, undbl_dbl t]
theorem said_text (t : List UInt8) : said 2 (34 :: (dbl t ++ [34])) = t := by
  unfold said
  rw [if_pos rfl]
  have e2 : (((34 :: (dbl t ++ [34])).drop 1).take ((34 :: (dbl t ++ [34])).length - 2)) = dbl t := by
    have : (34 :: (dbl t ++ [34])).length - 2 = (dbl t).length := by simp
    rw [this]
    exact List.take_left
  rw [e2, undbl_dbl]
theorem said_other {k : Nat} (h : ¬ k = 2) (u : List UInt8) : said k u = u := by unfold said; rw [if_neg h]
theorem nameSz_of {u r : List UInt8} : ∀ (ms : List (List UInt8)), u ∈ ms → (∀ n ∈ ms, begins n (u ++ r) = true → n = u) → nameSz (u ++ r) ms = u.length
  | [], h, _ => by cases h
  | n :: ms, h, hg => by
    unfold nameSz
    cases hb : begins n (u ++ r) with
    | true => rw [if_pos rfl, hg n (by simp) hb]
    | false =>
      rw [if_neg (by decide)]
      rcases List.mem_cons.1 h with rfl | h
      · rw [(begins_iff _ _).2 ⟨r, rfl⟩] at hb; cases hb
      · exact nameSz_of ms h (fun m hm => hg m (by simp [hm]))
theorem begins_split {n u r : List UInt8} (h : begins n (u ++ r) = true) : begins n u = true ∨ ∃ x y, n = u ++ x :: y ∧ r.head? = some x := by
  obtain ⟨s, hs⟩ := (begins_iff _ _).1 h
  by_cases hl : n.length ≤ u.length
  · left
    refine (begins_iff _ _).2 ⟨u.drop n.length, ?_⟩
    have e1 := congrArg (List.take n.length) hs
    rw [List.take_append_of_le_length hl, List.take_left] at e1
    conv => lhs; rw [← List.take_append_drop n.length u, e1]
  · right
    have hu : n = u ++ n.drop u.length := by
      have e1 := congrArg (List.take u.length) hs
      rw [List.take_left, List.take_append_of_le_length (by omega)] at e1
      conv => lhs; rw [← List.take_append_drop u.length n, ← e1]
    cases hd : n.drop u.length with
    | nil =>
      have := congrArg List.length hd
      simp only [List.length_drop, List.length_nil] at this
      omega
    | cons x y =>
      rw [hd] at hu
      refine ⟨x, y, hu, ?_⟩
      rw [hu, List.append_assoc] at hs
      rw [List.append_cancel_left hs]; rfl
theorem marks_one : ∀ u ∈ marks, ∀ n ∈ marks, (begins n u = true → n = u ∨ u.length = 2) ∧ (∀ x ∈ n.drop 1, x = 61 ∨ x = 62) := by decide
theorem at_mark {u r : List UInt8} (h : u ∈ marks) (hr : ∀ c, r.head? = some c → ¬ c = 61 ∧ ¬ c = 62) : At 5 u r := by
  have h0 : ∀ u ∈ marks, 0 < u.length ∧ u.length ≤ 2 := by decide
  have hs : sz 5 (u ++ r) = u.length := by
    rw [sz5]
    by_cases h2 : u.length = 2
    · have g : ∀ u ∈ marks, u.length = 2 → u = [60, 62] ∨ u = [60, 61] ∨ u = [62, 61] := by decide
      rcases g u h h2 with rfl | rfl | rfl <;> simp [marks, nameSz, begins]
    · refine nameSz_of marks h (fun n hn hb => ?_)
      rcases begins_split hb with hb | ⟨x, y, e, hx⟩
      · exact ((marks_one u h n hn).1 hb).resolve_right h2
      · exfalso
        have hx1 := (marks_one u h n hn).2 x (by
          rw [e]
          have := (h0 u h).1
          rw [List.drop_append_of_le_length (by omega)]
          simp)
        have := hr x hx
        rcases hx1 with e | e
        · exact this.1 e
        · exact this.2 e
  cases u with
  | nil => exact absurd (h0 [] h).1 (by decide)
  | cons c t =>
    have hm : mk c = true := by unfold mk; exact List.any_eq_true.2 ⟨c :: t, h, by simp⟩
    refine ⟨hit_of (Or.inr (Or.inr (Or.inr (Or.inr ⟨rfl, hm⟩)))) ?_, by decide, hs, ?_⟩
    · show 0 < sz 5 (c :: t ++ r); rw [hs]; simp
    · intro e
      obtain rfl := Option.some.inj e
      exact absurd hm (by decide)
theorem marks_still : ∀ u ∈ marks, ¬ u = [60] → ¬ u = [62] → ∀ n ∈ marks, (begins u n = true → n = u) := by decide
theorem at_still {u r : List UInt8} (h : u ∈ marks) (h1 : ¬ u = [60]) (h2 : ¬ u = [62]) : At 5 u r := by
  have h0 : ∀ u ∈ marks, 0 < u.length ∧ u.length ≤ 2 := by decide
  have hs : sz 5 (u ++ r) = u.length := by
    rw [sz5]
    by_cases h2 : u.length = 2
    · have g : ∀ u ∈ marks, u.length = 2 → u = [60, 62] ∨ u = [60, 61] ∨ u = [62, 61] := by decide
      rcases g u h h2 with rfl | rfl | rfl <;> simp [marks, nameSz, begins]
    · refine nameSz_of marks h (fun n hn hb => ?_)
      rcases begins_split hb with hb | ⟨x, y, e, hx⟩
      · exact ((marks_one u h n hn).1 hb).resolve_right h2
      · exact marks_still u h h1 (by assumption) n hn ((begins_iff _ _).2 ⟨_, e⟩)
  cases u with
  | nil => exact absurd (h0 [] h).1 (by decide)
  | cons c t =>
    have hm : mk c = true := by unfold mk; exact List.any_eq_true.2 ⟨c :: t, h, by simp⟩
    refine ⟨hit_of (Or.inr (Or.inr (Or.inr (Or.inr ⟨rfl, hm⟩)))) ?_, by decide, hs, ?_⟩
    · show 0 < sz 5 (c :: t ++ r); rw [hs]; simp
    · intro e
      obtain rfl := Option.some.inj e
      exact absurd hm (by decide)
theorem mark_prt : ∀ u ∈ marks, ¬ runP prt u < u.length := by decide
theorem full_prt {u : List UInt8} (h : ∀ c ∈ u, prt c = true) : ¬ runP prt u < u.length := by rw [runP_full u h]; omega
def kx (t : Tok) : Nat × List UInt8 := (t.k, t.t)
def Wr (u : List UInt8) (T : List (Nat × List UInt8)) : Prop := ∀ (p : Nat) (r : List UInt8) (ts2 : List Tok), Aft r → Ok (p + u.length) r ts2 → ∃ ts, Ok p (u ++ r) (ts ++ ts2) ∧ ts.map kx = T
def Hdk (u : List UInt8) : Prop := ∃ c t, u = c :: t ∧ ¬ c = 61 ∧ ¬ c = 62
theorem Wr.one {k : Nat} {u : List UInt8} (ha : ∀ r, Aft r → At k u r) (hp : ∀ c ∈ u, prt c = true) : Wr u [(k, said k u)] := by
  intro p r ts2 hr h
  exact ⟨[⟨k, said k u, p⟩], Ok.tok (ha r hr) (full_prt hp) h, rfl⟩
theorem Wr.pre {k : Nat} {m u : List UInt8} {T : List (Nat × List UInt8)} (ha : ∀ r, At k m (u ++ r)) (hp : ¬ runP prt m < m.length) (h : Wr u T) : Wr (m ++ u) ((k, said k m) :: T) := by
  intro p r ts2 hr h2
  obtain ⟨ts, h3, h4⟩ := h (p + m.length) r ts2 hr (by rw [List.length_append] at h2; rw [Nat.add_assoc]; exact h2)
  refine ⟨⟨k, said k m, p⟩ :: ts, ?_, by rw [List.map_cons, h4]; rfl⟩
  rw [List.append_assoc]
  exact Ok.tok (ha r) hp h3
theorem Wr.app {u v : List UInt8} {T S : List (Nat × List UInt8)} (h : Wr u T) (hv : Wr v S) (h0 : v ≠ []) (ha : Aft v) : Wr (u ++ v) (T ++ S) := by
  intro p r ts2 hr h2
  obtain ⟨ss, h3, h4⟩ := hv (p + u.length) r ts2 hr (by rw [List.length_append] at h2; rw [Nat.add_assoc]; exact h2)
  obtain ⟨ts, h5, h6⟩ := h p (v ++ r) (ss ++ ts2) (ha.app h0) h3
  refine ⟨ts ++ ss, ?_, by rw [List.map_append, h4, h6]⟩
  rw [List.append_assoc, List.append_assoc]
  exact h5
theorem mark_aft {m : List UInt8} (h : m ∈ marks) (r : List UInt8) : Aft (m ++ r) := by
  have h0 : ∀ u ∈ marks, 0 < u.length := by decide
  cases m with
  | nil => exact absurd (h0 [] h) (by decide)
  | cons c t => exact Aft.cons (by unfold mk; exact List.any_eq_true.2 ⟨c :: t, h, by simp⟩)
theorem said_mark {m : List UInt8} : said 5 m = m := said_other (by decide) m
theorem Wr.mark {m u : List UInt8} {T : List (Nat × List UInt8)} (hm : m ∈ marks) (hu : Hdk u) (h : Wr u T) : Wr (m ++ u) ((5, m) :: T) := by
  have := Wr.pre (k := 5) (fun r => at_mark hm (fun c hc => by
    obtain ⟨d, t, rfl, h1, h2⟩ := hu
    obtain rfl := Option.some.inj hc
    exact ⟨h1, h2⟩)) (mark_prt m hm) h
  rw [said_mark] at this
  exact this
theorem Wr.still {m : List UInt8} (hm : m ∈ marks) (h1 : ¬ m = [60]) (h2 : ¬ m = [62]) : Wr m [(5, m)] := by
  have := Wr.one (k := 5) (u := m) (fun r _ => at_still hm h1 h2) (runP_mem m (mark_prt m hm))
  rw [said_mark] at this
  exact this
end Wlx
namespace Wpl
theorem fv_snoc (k : Nat) (l : List UInt8) (c : UInt8) : fv k (l ++ [c]) = fv k l * 10 + (c.toNat - 48) := by unfold fv; rw [List.foldl_append]; rfl
end Wpl
namespace Wpl
theorem dig_toNat {q : Nat} (h : q ≤ 9) : (UInt8.ofNat (48 + q)).toNat = 48 + q := by
  rw [UInt8.toNat_ofNat']
  exact Nat.mod_eq_of_lt (by omega)
theorem let_toNat {q : Nat} (h : q ≤ 25) : (UInt8.ofNat (65 + q)).toNat = 65 + q := by
  rw [UInt8.toNat_ofNat']
  exact Nat.mod_eq_of_lt (by omega)
theorem dd_le {u : Nat} (h : u < 10) : Go.Lib.decDigits u = [UInt8.ofNat (48 + u)] := by
  unfold Go.Lib.decDigits
  rw [dif_pos h]
theorem dd_gt {u : Nat} (h : ¬ u < 10) : Go.Lib.decDigits u = Go.Lib.decDigits (u / 10) ++ [UInt8.ofNat (48 + u % 10)] := by
  conv => lhs; unfold Go.Lib.decDigits
  rw [dif_neg h]
theorem dd_is (u : Nat) : allG (Go.Lib.decDigits u) = true ∧ fv 0 (Go.Lib.decDigits u) = u ∧ (1 ≤ u → ∃ d t, Go.Lib.decDigits u = d :: t ∧ d.toNat ≠ 48) := by
  induction u using Nat.strongRecOn with
  | _ u ih =>
    by_cases h : u < 10
    · rw [dd_le h]
      have hd := dig_toNat (q := u) (by omega)
      refine ⟨?_, ?_, fun h1 => ⟨_, _, rfl, by rw [hd]; omega⟩⟩
      · simp only [allG, List.all_cons, List.all_nil, Bool.and_true, isG, hd]
        simp; omega
      · unfold fv
        simp only [List.foldl_cons, List.foldl_nil, hd]
        omega
    · obtain ⟨i1, i2, i3⟩ := ih (u / 10) (by omega)
      rw [dd_gt h]
      have hd := dig_toNat (q := u % 10) (by omega)
      refine ⟨?_, ?_, fun _ => ?_⟩
      · simp only [allG, List.all_append, List.all_cons, List.all_nil, Bool.and_true, Bool.and_eq_true]
        refine ⟨i1, ?_⟩
        simp only [isG, hd]
        simp; omega
      · rw [fv_snoc, i2, hd]
        omega
      · obtain ⟨d, t, e1, e2⟩ := i3 (by omega)
        exact ⟨d, t ++ [UInt8.ofNat (48 + u % 10)], by rw [e1]; rfl, e2⟩
theorem dg_dd {u : Nat} (h1 : 1 ≤ u) (h2 : u ≤ 65536) : dgOk (Go.Lib.decDigits u) = true ∧ (rr (Go.Lib.decDigits u)).1 = u ∧ noL (Go.Lib.decDigits u) = true := by
  obtain ⟨a, b, c⟩ := dd_is u
  obtain ⟨d, t, e, hd⟩ := c h1
  rw [e] at a b ⊢
  have hne : d ≠ 48 := fun x => hd (by rw [x]; rfl)
  have ha := a
  simp only [allG, List.all_cons, Bool.and_eq_true] at ha
  have hg := ha.1
  simp only [isG, decide_eq_true_eq] at hg
  have hlen : t.length < 5 := by
    have := fv_ge t (0 * 10 + (d.toNat - 48))
    rw [fv_cons] at b
    apply Classical.byContradiction
    intro hn
    have h4 : 1 * 10 ^ 5 ≤ (0 * 10 + (d.toNat - 48)) * 10 ^ t.length := Nat.mul_le_mul (by omega) (Nat.pow_le_pow_right (by omega) (by omega))
    omega
  obtain ⟨g1, g2, _⟩ := dg_in hne a hlen
  refine ⟨by rw [g1, b]; simpa using h2, by rw [g2, b], ?_⟩
  simp [noL, isL]; omega
theorem letter_is {q : Nat} (h : q ≤ 25) : isL (UInt8.ofNat (65 + q)) = true ∧ vl (UInt8.ofNat (65 + q)) = q + 1 := by
  have e := let_toNat h
  constructor
  · simp only [isL, e]; simp; omega
  · unfold vl; rw [e]; omega
theorem txt_reads {r c : Int} (r0 : 0 ≤ r) (r1 : r < 65536) (c0 : 0 ≤ c) (c1 : c < 256) : rdOk (txtC r c) = true ∧ rdR (txtC r c) = r ∧ rdC (txtC r c) = c := by
  obtain ⟨g1, g2, g3⟩ := dg_dd (u := (r + 1).toNat) (by omega) (by omega)
  have hc : colS c = colT c.toNat := by unfold colS; rw [inB_iff.2 ⟨c0, c1⟩]; rfl
  have key : rdOk (txtC r c) = true ∧ rc 0 (txtC r c) = (c.toNat + 1, Go.Lib.decDigits (r + 1).toNat) := by
    unfold txtC
    rw [hc]
    unfold colT
    by_cases h : c.toNat < 26
    · rw [if_pos h]
      obtain ⟨l1, l2⟩ := letter_is (q := c.toNat) (by omega)
      obtain ⟨k1, k2⟩ := rd_one l1 g3
      rw [List.cons_append, List.nil_append]
      exact ⟨by rw [k1, g1], by rw [k2, l2]⟩
    · rw [if_neg h]
      obtain ⟨l1, l2⟩ := letter_is (q := c.toNat / 26 - 1) (by omega)
      obtain ⟨m1, m2⟩ := letter_is (q := c.toNat % 26) (by omega)
      obtain ⟨k1, k2⟩ := rd_two l1 m1 g3
      rw [List.cons_append, List.cons_append, List.nil_append]
      refine ⟨?_, ?_⟩
      · rw [k1, g1, l2, m2, decide_eq_true (by omega)]
        rfl
      · rw [k2, l2, m2]
        congr 1
        omega
  obtain ⟨k1, k2⟩ := key
  refine ⟨k1, ?_, ?_⟩
  · unfold rdR; rw [k1, k2]; simp only [if_true, g2]; omega
  · unfold rdC; rw [k1, k2]; simp only [if_true]; omega
end Wpl
namespace Go.Proofs.YtifdemakjphfcaaGreatDoor
open Go.RowKit Go.Shelf
set_option linter.unusedVariables false
def tvT (q : Nat × List UInt8) : Int × List UInt8 := ((q.1 : Int), q.2)
def Rep (us : List Wlx.TV) (T : List (Nat × List UInt8)) : Prop := us.map kt = T.map tvT
theorem Rep.nil {us : List Wlx.TV} (h : Rep us []) : us = [] := by
  cases us with
  | nil => rfl
  | cons u q => simp [Rep] at h
theorem Rep.cons {us : List Wlx.TV} {k : Nat} {t : List UInt8} {T : List (Nat × List UInt8)} (h : Rep us ((k, t) :: T)) : ∃ p q, us = ⟨(k : Int), t, p⟩ :: q ∧ Rep q T := by
  cases us with
  | nil => simp [Rep] at h
  | cons u q =>
    simp only [Rep, List.map_cons, List.cons.injEq, kt, tvT, Prod.mk.injEq] at h
    obtain ⟨uk, ut, up⟩ := u
    simp only at h
    exact ⟨up, q, by rw [h.1.1, h.1.2], h.2⟩
theorem Rep.app {us : List Wlx.TV} {T S : List (Nat × List UInt8)} (h : Rep us (T ++ S)) : ∃ a b, us = a ++ b ∧ Rep a T ∧ Rep b S := by
  unfold Rep at *
  rw [List.map_append] at h
  obtain ⟨a, b, e, h1, h2⟩ := List.map_eq_append_iff.1 h
  exact ⟨a, b, e, h1, h2⟩
theorem Rep.len {us : List Wlx.TV} {T : List (Nat × List UInt8)} (h : Rep us T) : us.length = T.length := by
  have := congrArg List.length h
  simpa using this
def Fol (tl : List Wlx.TV) : Prop := ∀ c q, tl = c :: q → isMk c [40] = false ∧ isMk c [33] = false ∧ isMk c [58] = false
def NoSg (T : List (Nat × List UInt8)) : Prop := ∃ k t q, T = (k, t) :: q ∧ (¬ k = 5 ∨ t = [40])
def Par7 (T : List (Nat × List UInt8)) (row : List Wt.Nd) : Prop := NoSg T ∧ ∀ (en : Int) (f : Nat) (us tl : List Wlx.TV), Rep us T → Fol tl → 10 * T.length + 2 ≤ f → lv en f 7 (us ++ tl) = .inl (row, tl)
theorem prsR_inl {l : List UInt8} {row : List Wt.Nd} (h : prsR l = .inl row) : l.length ≤ 1024 ∧ ∃ ts, Wlx.Ok 0 l ts ∧ lv (l.length : Int) (10 * (ts.map Wlx.tv).length + 9) 0 (ts.map Wlx.tv) = .inl (row, []) ∧ Wt.check row = 0 := by
  unfold prsR at h
  cases hr : scanAll l with
  | inr q => obtain ⟨c', p'⟩ := q; rw [hr] at h; cases h
  | inl ts =>
    rw [hr] at h
    simp only at h
    unfold scanAll at hr
    split at hr
    · cases hr
    rename_i hl
    refine ⟨by omega, ts, hr, ?_⟩
    unfold prsT at h
    cases hp : pall (lv (l.length : Int) (10 * (ts.map Wlx.tv).length + 9) 0) (l.length : Int) (ts.map Wlx.tv) with
    | inr q => rw [hp] at h; cases h
    | inl q =>
      obtain ⟨row', rr⟩ := q
      rw [hp] at h
      simp only at h
      split at h
      · rename_i hc
        simp only [Sum.inl.injEq] at h
        subst h
        refine ⟨?_, hc⟩
        unfold pall at hp
        split at hp
        · cases hp
        · rename_i row'' he
          simp only [Sum.inl.injEq, Prod.mk.injEq] at hp
          rw [← hp.1]; exact he
        · cases hp
      · cases h
theorem prsR_of {l : List UInt8} {row : List Wt.Nd} (hl : l.length ≤ 1024) {ts : List Wlx.Tok} (hok : Wlx.Ok 0 l ts) (h : lv (l.length : Int) (10 * (ts.map Wlx.tv).length + 9) 0 (ts.map Wlx.tv) = .inl (row, [])) : prsR l = if Wt.check row = 0 then .inl row else .inr (Wt.check row, 0) := by
  unfold prsR scanAll
  rw [if_neg (by omega), hok.scan]
  show prsT _ _ = _
  unfold prsT pall
  rw [h]
theorem map_same (ts : List Wlx.Tok) (us : List Wlx.Tok) (h : us.map (fun t => (t.k, t.t)) = ts.map (fun t => (t.k, t.t))) : Same (us.map Wlx.tv) (ts.map Wlx.tv) := by
  unfold Same
  rw [List.map_map, List.map_map]
  have e : kt ∘ Wlx.tv = (fun q : Nat × List UInt8 => ((q.1 : Int), q.2)) ∘ (fun t : Wlx.Tok => (t.k, t.t)) := rfl
  rw [e, ← List.map_map, ← List.map_map, h]
theorem shift_same (ts : List Wlx.Tok) (b : Nat) : Same ((ts.map (Wlx.shift b)).map Wlx.tv) (ts.map Wlx.tv) := by
  refine map_same _ _ ?_
  rw [List.map_map]; rfl
theorem lv_down (en : Int) (f : Nat) {ts : List Wlx.TV} {row : List Wt.Nd} {r : List Wlx.TV} (h : lv en f 7 ts = .inl (row, r)) (hop : ∀ k, tkOp k r = none) (hsg : tkOp 5 ts = none) : lv en (f + 7) 0 ts = .inl (row, r) := by
  have h6 : lv en (f + 1) 6 ts = .inl (row, r) := by
    rw [lv_pc]; unfold ppc; rw [h]; simp only
    cases r.length with
    | zero => rfl
    | succ n => simp only [pct, hop]
  have h5 : lv en (f + 2) 5 ts = .inl (row, r) := by rw [lv_sg]; unfold psg; rw [hsg]; exact h6
  have step : ∀ (g k : Nat), k < 5 → lv en g (k + 1) ts = .inl (row, r) → lv en (g + 1) k ts = .inl (row, r) := by
    intro g k hk hg
    rw [lv_bt _ _ _ hk]; unfold pbt; rw [hg]; simp only
    exact more_not' (hop k)
  exact step _ 0 (by omega) (step _ 1 (by omega) (step _ 2 (by omega) (step _ 3 (by omega) (step _ 4 (by omega) h5))))
theorem lv_brack {en en' : Int} {f g : Nat} (hfg : f ≤ g) {ts us : List Wlx.TV} {row : List Wt.Nd} (h : lv en f 0 ts = .inl (row, [])) (hs : Same us ts) (p q : Int) (r : List Wlx.TV) : lv en' (g + 1) 7 (⟨5, [40], p⟩ :: (us ++ ⟨5, [41], q⟩ :: r)) = .inl (row, r) := by
  obtain ⟨r', e, s⟩ := lv_ext en en' f g hfg 0 ts row [] h us (⟨5, [41], q⟩ :: r) hs (Or.inr ⟨_, _, rfl, rfl, Or.inl rfl⟩)
  have := s.nil
  subst this
  rw [lv_si]; unfold psi
  rw [if_neg (by simp [hd]), if_pos (by simp [hd])]
  unfold pbrack
  have e1 : tk (⟨5, [40], p⟩ :: (us ++ ⟨5, [41], q⟩ :: r)) [40] = some (us ++ ⟨5, [41], q⟩ :: r) := by simp [tk, isMk]
  rw [e1]
  simp only
  rw [e]
  simp only [List.nil_append]
  have e2 : tk (⟨5, [41], q⟩ :: r) [41] = some r := by simp [tk, isMk]
  rw [e2]
end Go.Proofs.YtifdemakjphfcaaGreatDoor
