/- LPlainF, LPlainG, LPlainH, PlainW, NPlainD. -/
import Derived.Test.YthofehcchickeaaGreatDoorQ36
namespace Wlx
theorem undbl_other {c : UInt8} (h : ¬ c = 34) (m : List UInt8) : undbl (c :: m) = c :: undbl m := by
  cases m with
  | nil => rfl
  | cons d t =>
    conv => lhs; unfold undbl
    rw [if_neg (fun e => h e.1)]
theorem undbl_two (m : List UInt8) : undbl (34 :: 34 :: m) = 34 :: undbl m := by
  conv => lhs; unfold undbl
  rw [if_pos ⟨rfl, rfl⟩]
theorem dbl_other {c : UInt8} (h : ¬ c = 34) (m : List UInt8) : dbl (c :: m) = c :: dbl m := by
  show (if c = 34 then 34 :: 34 :: dbl m else c :: dbl m) = _
  rw [if_neg h]
theorem dbl_quote (m : List UInt8) : dbl (34 :: m) = 34 :: 34 :: dbl m := rfl
theorem text_form : ∀ (n : Nat) (a : List UInt8) (i : Nat) (r : List UInt8), a.length ≤ n → 1 ≤ i → quo true i (a ++ r) = i + a.length → ∃ mid, a = mid ++ [34] ∧ dbl (undbl mid) = mid := by
  intro n
  induction n with
  | zero =>
    intro a i r hl hi h
    obtain rfl := List.eq_nil_of_length_eq_zero (Nat.le_zero.1 hl)
    have := (quo_stop hi h).1
    cases this
  | succ n ih =>
    intro a i r hl hi h
    cases a with
    | nil => have := (quo_stop hi h).1; cases this
    | cons c a =>
      simp only [List.length_cons] at hl h
      rw [List.cons_append] at h
      by_cases hc : c = 34
      · subst hc
        rw [quo_hit] at h
        cases a with
        | nil => exact ⟨[], rfl, rfl⟩
        | cons d a =>
          simp only [List.length_cons] at hl h
          rw [List.cons_append] at h
          by_cases hd : d = 34
          · subst hd
            rw [quo_hit] at h
            obtain ⟨mid, rfl, hm⟩ := ih a (i + 1 + 1) r (by omega) (by omega) (by have : (!!true) = true := rfl; rw [this] at h; omega)
            exact ⟨34 :: 34 :: mid, rfl, by rw [undbl_two, dbl_quote, hm]⟩
          · rw [show (!true) = false from rfl, quo_out hd] at h; omega
      · rw [quo_in hc] at h
        obtain ⟨mid, rfl, hm⟩ := ih a (i + 1) r (by omega) (by omega) (by omega)
        exact ⟨c :: mid, rfl, by rw [undbl_other hc, dbl_other hc, hm]⟩
theorem At.writ {k : Nat} {u r : List UInt8} (h : At k u r) : writ k (said k u) = u := by
  by_cases hk : k = 2
  · subst hk
    obtain ⟨c, t, rfl⟩ := h.cons
    have hn : txtSz (c :: (t ++ r)) = (c :: t).length := h.hn
    have hc : c = 34 := txtSz_pos (by rw [hn]; exact h.pos)
    subst hc
    have e : txtSz (34 :: (t ++ r)) = quo true 1 (t ++ r) := rfl
    rw [e] at hn
    simp only [List.length_cons] at hn
    obtain ⟨mid, rfl, hm⟩ := text_form _ t 1 r (Nat.le_refl _) (Nat.le_refl _) (by omega)
    unfold Wlx.writ said
    rw [if_pos rfl, if_pos rfl]
    have e2 : (((34 :: (mid ++ [34])).drop 1).take ((34 :: (mid ++ [34])).length - 2)) = mid := by
      have : (34 :: (mid ++ [34])).length - 2 = mid.length := by simp
      rw [this]
      exact List.take_left
    rw [e2, hm]
  · unfold Wlx.writ said
    rw [if_neg hk, if_neg hk]
def joinT : Bool → List Tok → List UInt8
  | _, [] => []
  | f, t :: r => (if f then [] else [32]) ++ writ t.k t.t ++ joinT false r
theorem joinT_nx (k : Nat) (r' : List UInt8) (ts : List Tok) : Nx k r' (joinT false ts) := by
  cases ts with
  | nil => exact ⟨Or.inr (Or.inl rfl), fun _ h => by cases h⟩
  | cons t r => exact ⟨Or.inr (Or.inr (Or.inl rfl)), fun _ h => absurd (Option.some.inj h) (by decide)⟩
theorem Ok.back {p : Nat} {l : List UInt8} {ts : List Tok} (h : Ok p l ts) : ∀ (q : Nat) (f : Bool), ∃ ts', Ok q (joinT f ts) ts' ∧ ts'.map (fun t => (t.k, t.t)) = ts.map (fun t => (t.k, t.t)) := by
  induction h using Ok.ind with
  | nil p => intro q f; exact ⟨[], Ok.nil q, rfl⟩
  | blank h ih => exact ih
  | @tok p k u r ts ha hp h ih =>
    intro q f
    have hw : ∀ q, ∃ ts', Ok q (u ++ joinT false ts) ts' ∧ ts'.map (fun t => (t.k, t.t)) = (⟨k, said k u, p⟩ :: ts : List Tok).map (fun t => (t.k, t.t)) := by
      intro q
      obtain ⟨ts', h1, h2⟩ := ih (q + u.length) false
      exact ⟨⟨k, said k u, q⟩ :: ts', Ok.tok (ha.ctx (joinT_nx k r ts)) hp h1, by simp [h2]⟩
    have e : joinT f (⟨k, said k u, p⟩ :: ts) = (if f then [] else [32]) ++ u ++ joinT false ts := by
      show (if f then [] else [32]) ++ Wlx.writ k (said k u) ++ joinT false ts = _
      rw [ha.writ]
    rw [e]
    cases f with
    | true => exact hw q
    | false =>
      obtain ⟨ts', h1, h2⟩ := hw (q + 1)
      exact ⟨ts', Ok.blank h1, h2⟩
def shift (b : Nat) (t : Tok) : Tok := ⟨t.k, t.t, t.p + b⟩
theorem Ok.shift {p : Nat} {l : List UInt8} {ts : List Tok} (h : Ok p l ts) (b : Nat) : Ok (p + b) l (ts.map (shift b)) := by
  induction h using Ok.ind with
  | nil p => exact Ok.nil _
  | blank h ih => exact Ok.blank (by rw [Nat.add_right_comm]; exact ih)
  | tok ha hp h ih => exact Ok.tok ha hp (by rw [Nat.add_right_comm]; exact ih)
theorem Ok.blanks {l : List UInt8} {ts : List Tok} : ∀ (b p : Nat), Ok (p + b) l ts → Ok p (List.replicate b 32 ++ l) ts
  | 0, p, h => h
  | b + 1, p, h => by
    rw [List.replicate_succ, List.cons_append]
    exact Ok.blank (Ok.blanks b (p + 1) (by rw [Nat.add_right_comm, Nat.add_assoc]; exact h))
def place (p : Nat) (l : List UInt8) (ts : List Tok) (i : Nat) : Nat := if h : i < ts.length then (ts[i]).p - p else l.length
theorem Ok.put {p : Nat} {l : List UInt8} {ts : List Tok} (h : Ok p l ts) (b : Nat) (hb : 0 < b) : ∀ i, i ≤ ts.length → Ok p (l.take (place p l ts i) ++ (List.replicate b 32 ++ l.drop (place p l ts i))) (ts.take i ++ (ts.drop i).map (Wlx.shift b)) := by
  induction h using Ok.ind with
  | nil p =>
    intro i hi
    have e : place p [] [] i = 0 := by unfold place; rw [dif_neg (by simp)]; rfl
    rw [e]
    have := Ok.blanks b p (Ok.nil (p + b))
    simpa using this
  | @blank p t ts h ih =>
    intro i hi
    have e : place p (32 :: t) ts i = place (p + 1) t ts i + 1 := by
      unfold place
      by_cases hl : i < ts.length
      · rw [dif_pos hl, dif_pos hl]
        have := (h.count.2 (ts[i]) (List.getElem_mem hl)).1
        omega
      · rw [dif_neg hl, dif_neg hl]; rfl
    rw [e]
    exact Ok.blank (ih i hi)
  | @tok p k u r ts ha hp h ih =>
    intro i hi
    cases i with
    | zero =>
      have e : place p (u ++ r) (⟨k, said k u, p⟩ :: ts) 0 = 0 := by unfold place; rw [dif_pos (by simp)]; exact Nat.sub_self p
      rw [e]
      exact Ok.blanks b p ((Ok.tok ha hp h).shift b)
    | succ i =>
      simp only [List.length_cons] at hi
      have e : place p (u ++ r) (⟨k, said k u, p⟩ :: ts) (i + 1) = u.length + place (p + u.length) r ts i := by
        unfold place
        by_cases hl : i < ts.length
        · rw [dif_pos hl, dif_pos (by simpa using hl), List.getElem_cons_succ]
          have := (h.count.2 (ts[i]) (List.getElem_mem hl)).1
          omega
        · rw [dif_neg hl, dif_neg (by simpa using hl), List.length_append]
      have hi2 := ih i (by omega)
      generalize place (p + u.length) r ts i = A at e hi2
      rw [e, List.take_append, List.drop_append, Nat.add_sub_cancel_left, List.take_of_length_le (by omega), List.drop_eq_nil_of_le (by omega), List.nil_append, List.append_assoc]
      have hx : Nx k r (r.take A ++ (List.replicate b 32 ++ r.drop A)) := by
        obtain ⟨b', rfl⟩ : ∃ b', b = b' + 1 := ⟨b - 1, by omega⟩
        cases r with
        | nil => exact ⟨Or.inr (Or.inr (Or.inl (by simp [List.replicate_succ]))), fun _ h => by simp [List.replicate_succ] at h⟩
        | cons x y =>
          cases A with
          | zero => exact ⟨Or.inr (Or.inr (Or.inl (by simp [List.replicate_succ]))), fun _ h => by simp [List.replicate_succ] at h⟩
          | succ A => exact ⟨Or.inl rfl, fun _ h2 => h.head h2⟩
      exact Ok.tok (ha.ctx hx) hp hi2
theorem Ok.next {p : Nat} {l : List UInt8} {t : Tok} {ts : List Tok} (h : Ok p l (t :: ts)) : ∃ (b : Nat) (u r : List UInt8), l = List.replicate b 32 ++ (u ++ r) ∧ t = ⟨t.k, said t.k u, p + b⟩ ∧ At t.k u r ∧ Ok (p + b + u.length) r ts := by
  generalize hx : t :: ts = xs at h
  induction h using Ok.ind with
  | nil p => cases hx
  | blank h ih =>
    obtain ⟨b, u, r, rfl, h2, h3, h4⟩ := ih hx
    refine ⟨b + 1, u, r, rfl, ?_, h3, ?_⟩
    · rw [show ∀ p : Nat, p + (b + 1) = p + 1 + b by intro p; omega]; exact h2
    · rw [show ∀ p : Nat, p + (b + 1) + u.length = p + 1 + b + u.length by intro p; omega]; exact h4
  | tok ha hp h ih =>
    cases hx
    exact ⟨0, _, _, rfl, rfl, ha, h⟩
theorem prt_wrd : ∀ c : UInt8, (wrd c = true → prt c = true) ∧ (dig c = true → prt c = true) ∧ prt 34 = true ∧ prt 46 = true := by
  intro c
  have key : ∀ n : Fin 256, (wrd (UInt8.ofNat n) = true → prt (UInt8.ofNat n) = true) ∧ (dig (UInt8.ofNat n) = true → prt (UInt8.ofNat n) = true) ∧ prt 34 = true ∧ prt 46 = true := by decide +kernel
  have := key ⟨c.toNat, c.toNat_lt⟩
  simpa using this
theorem runP_full {p : UInt8 → Bool} : ∀ (u : List UInt8), (∀ c ∈ u, p c = true) → runP p u = u.length
  | [], _ => rfl
  | c :: t, h => by rw [runP_pos (h c (by simp)), runP_full t (fun x hx => h x (by simp [hx]))]; rfl
theorem runP_mem {p : UInt8 → Bool} : ∀ (u : List UInt8), ¬ runP p u < u.length → ∀ c ∈ u, p c = true
  | [], _, c, hc => by cases hc
  | d :: t, h, c, hc => by
    cases hd : p d with
    | false => rw [runP_neg hd] at h; simp at h
    | true =>
      rw [runP_pos hd] at h
      simp only [List.length_cons] at h
      rcases List.mem_cons.1 hc with rfl | hc
      · exact hd
      · exact runP_mem t (by omega) c hc
end Wlx
namespace Wlx
theorem Ok.app {p : Nat} {l : List UInt8} {ts : List Tok} (h : Ok p l ts) {d : UInt8} (hd : d = 40 ∨ d = 41 ∨ d = 44) {r : List UInt8} : ∀ {ts2 : List Tok}, Ok (p + l.length) (d :: r) ts2 → Ok p (l ++ d :: r) (ts ++ ts2) := by
  induction h using Ok.ind with
  | nil p => intro ts2 h2; exact h2
  | @blank p t ts h ih =>
    intro ts2 h2
    refine Ok.blank (ih ?_)
    rw [show p + 1 + t.length = p + (32 :: t).length by simp only [List.length_cons]; omega]
    exact h2
  | @tok p k u r0 ts ha hp h ih =>
    intro ts2 h2
    rw [List.append_assoc]
    have hx : Nx k r0 (r0 ++ d :: r) := by
      cases r0 with
      | nil => exact ⟨Or.inr (Or.inr (Or.inr ⟨d, rfl, hd⟩)), fun _ e => by
          obtain rfl := Option.some.inj e
          exact absurd hd (by decide)⟩
      | cons x y => exact ⟨Or.inl rfl, fun _ e => h.head e⟩
    refine Ok.tok (ha.ctx hx) hp (ih ?_)
    rw [show p + u.length + r0.length = p + (u ++ r0).length by rw [List.length_append]; omega]
    exact h2
theorem at_one (d : UInt8) (hd : d = 40 ∨ d = 41 ∨ d = 44) (r : List UInt8) : At 5 [d] r := by
  have hs : sz 5 ([d] ++ r) = 1 := by
    rw [sz5]
    rcases hd with rfl | rfl | rfl <;> simp [marks, nameSz, begins]
  refine ⟨hit_of ?_ (by show 0 < sz 5 ([d] ++ r); omega), by decide, hs, ?_⟩
  · rcases hd with rfl | rfl | rfl <;> exact Or.inr (Or.inr (Or.inr (Or.inr ⟨rfl, by decide⟩)))
  · rcases hd with rfl | rfl | rfl <;> simp
theorem Ok.one {p : Nat} {d : UInt8} (hd : d = 40 ∨ d = 41 ∨ d = 44) {r : List UInt8} {ts : List Tok} (h : Ok (p + 1) r ts) : Ok p (d :: r) (⟨5, [d], p⟩ :: ts) := by
  have := Ok.tok (u := [d]) (at_one d hd r) (by rcases hd with rfl | rfl | rfl <;> decide) h
  exact this
end Wlx
namespace Wlx
def Aft (r : List UInt8) : Prop := ∀ c, r.head? = some c → mk c = true
theorem Aft.nil : Aft [] := fun c h => by cases h
theorem Aft.cons {c : UInt8} {r : List UInt8} (h : mk c = true) : Aft (c :: r) := fun d hd => by
  obtain rfl := Option.some.inj hd
  exact h
theorem Aft.app {u r : List UInt8} (h0 : u ≠ []) (hu : Aft u) : Aft (u ++ r) := by
  cases u with
  | nil => exact absurd rfl h0
  | cons c t => exact fun d hd => hu d hd
theorem Aft.no {r : List UInt8} (h : Aft r) : (∀ c, r.head? = some c → wrd c = false ∧ dig c = false ∧ ¬ c = 34 ∧ ¬ c = 46) := by
  intro c hc
  obtain ⟨c1, c2, c3⟩ := cls c
  obtain ⟨a1, a2, a3, a4, a5⟩ := c3 (h c hc)
  refine ⟨a3, ?_, a1, a5⟩
  cases hd : dig c with
  | false => rfl
  | true => rw [c2 hd] at a3; cases a3
theorem runP_all {p : UInt8 → Bool} {u r : List UInt8} (hu : ∀ c ∈ u, p c = true) (hr : ∀ c, r.head? = some c → p c = false) : runP p (u ++ r) = u.length := by
  rw [runP_app, if_neg (by rw [runP_full u hu]; omega), runP_zero.2 hr]; rfl
theorem at_word {c : UInt8} {t r : List UInt8} (hw : ∀ x ∈ c :: t, wrd x = true) (hd : dig c = false) (hr : Aft r) : At 3 (c :: t) r := by
  have hs : sz 3 (c :: t ++ r) = (c :: t).length := by
    rw [sz3]; exact runP_all hw (fun c hc => (hr.no c hc).1)
  refine ⟨hit_of (Or.inr (Or.inr (Or.inl ⟨rfl, hw c (by simp), hd⟩))) ?_, by decide, hs, ?_⟩
  · show 0 < sz 3 (c :: t ++ r); rw [hs]; simp
  · intro e
    obtain rfl : c = 32 := Option.some.inj e
    exact absurd (hw 32 (by simp)) (by decide)
theorem dig_head {c : UInt8} (h : dig c = true) : ¬ c = 32 := fun e => by rw [e] at h; exact absurd h (by decide)
theorem at_whole {u r : List UInt8} (h0 : u ≠ []) (hu : ∀ c ∈ u, dig c = true) (hr : Aft r) : At 1 u r := by
  have hs : sz 1 (u ++ r) = u.length := by
    rw [sz1]
    unfold numSz
    have e := runP_all (p := dig) (r := r) hu (fun c hc => (hr.no c hc).2.1)
    have hp : 0 < u.length := List.length_pos_iff.2 h0
    rw [e, if_neg (by omega), List.drop_left]
    cases r with
    | nil => rfl
    | cons x y =>
      rw [numTl_cons, if_neg (fun hh => (hr.no x rfl).2.2.2 hh.1)]
  cases u with
  | nil => exact absurd rfl h0
  | cons c t =>
    refine ⟨hit_of (Or.inl ⟨rfl, hu c (by simp)⟩) ?_, by decide, hs, ?_⟩
    · show 0 < sz 1 (c :: t ++ r); rw [hs]; simp
    · intro e; exact dig_head (hu c (by simp)) (Option.some.inj e)
theorem at_point {u v r : List UInt8} (h0 : u ≠ []) (h1 : v ≠ []) (hu : ∀ c ∈ u, dig c = true) (hv : ∀ c ∈ v, dig c = true) (hr : Aft r) : At 1 (u ++ 46 :: v) r := by
  have hs : sz 1 (u ++ 46 :: v ++ r) = (u ++ 46 :: v).length := by
    rw [sz1, List.append_assoc, List.cons_append]
    unfold numSz
    have e := runP_all (p := dig) (r := 46 :: (v ++ r)) hu (fun c hc => by
      obtain rfl := Option.some.inj hc; decide)
    have e2 := runP_all (p := dig) (r := r) hv (fun c hc => (hr.no c hc).2.1)
    have hp : 0 < u.length := List.length_pos_iff.2 h0
    have hq : 0 < v.length := List.length_pos_iff.2 h1
    rw [e, if_neg (by omega), List.drop_left, numTl_cons, e2, if_pos ⟨rfl, hq⟩, List.length_append, List.length_cons]
    omega
  cases u with
  | nil => exact absurd rfl h0
  | cons c t =>
    refine ⟨hit_of (Or.inl ⟨rfl, hu c (by simp)⟩) ?_, by decide, hs, ?_⟩
    · show 0 < sz 1 (c :: t ++ 46 :: v ++ r); rw [hs]; simp
    · intro e; exact dig_head (hu c (by simp)) (Option.some.inj e)
theorem quo_dbl : ∀ (t : List UInt8) (i : Nat) (r : List UInt8), (¬ r.head? = some 34) → quo true i (dbl t ++ 34 :: r) = i + (dbl t).length + 1
  | [], i, r, h => by
    show quo true i (34 :: r) = _
    rw [quo_hit]
    show quo false (i + 1) r = _
    cases r with
    | nil => rfl
    | cons c t => rw [quo_out (fun e => h (by rw [e]; rfl))]; rfl
  | c :: t, i, r, h => by
    by_cases hc : c = 34
    · subst hc
      rw [dbl_quote, List.cons_append, List.cons_append, quo_hit, quo_hit]
      show quo true (i + 1 + 1) _ = _
      rw [quo_dbl t (i + 1 + 1) r h]
      simp only [List.length_cons]; omega
    · rw [dbl_other hc, List.cons_append, quo_in hc, quo_dbl t (i + 1) r h]
      simp only [List.length_cons]; omega
theorem undbl_dbl : ∀ (t : List UInt8), undbl (dbl t) = t
  | [] => rfl
  | c :: t => by
    by_cases hc : c = 34
    · subst hc; rw [dbl_quote, undbl_two, undbl_dbl t]
    · rw [dbl_other hc, undbl_other hc, undbl_dbl t]
theorem at_text (t : List UInt8) {r : List UInt8} (hr : Aft r) : At 2 (34 :: (dbl t ++ [34])) r := by
  have hs : sz 2 (34 :: (dbl t ++ [34]) ++ r) = (34 :: (dbl t ++ [34])).length := by
    rw [sz2, List.cons_append, List.append_assoc]
    show quo true 1 (dbl t ++ 34 :: r) = _
    rw [quo_dbl t 1 r (fun e => (hr.no 34 e).2.2.1 rfl)]
    simp only [List.length_cons, List.length_append, List.length_nil]; omega
  refine ⟨hit_of (Or.inr (Or.inl ⟨rfl, rfl⟩)) ?_, by decide, hs, by simp⟩
  show 0 < sz 2 (34 :: (dbl t ++ [34]) ++ r)
  rw [hs]; simp
theorem said_text (t : List UInt8) : said 2 (34 :: (dbl t ++ [34])) = t := by
  unfold said
  rw [if_pos rfl]
  have e2 : (((34 :: (dbl t ++ [34])).drop 1).take ((34 :: (dbl t ++ [34])).length - 2)) = dbl t := by
    have : (34 :: (dbl t ++ [34])).length - 2 = (dbl t).length := by simp
    rw [this]
    exact List.take_left
  rw [e2, undbl_dbl]
theorem said_other {k : Nat} (h : ¬ k = 2) (u : List UInt8) : said k u = u := by unfold said; rw [if_neg h]
theorem dbl_prt {t : List UInt8} (h : ∀ c ∈ t, prt c = true) : ∀ c ∈ 34 :: (dbl t ++ [34]), prt c = true := by
  have g : ∀ (t : List UInt8), (∀ c ∈ t, prt c = true) → ∀ c ∈ dbl t, prt c = true := by
    intro t
    induction t with
    | nil => intro _ c hc; cases hc
    | cons x y ih =>
      intro h c hc
      by_cases hx : x = 34
      · subst hx
        rw [dbl_quote] at hc
        rcases List.mem_cons.1 hc with rfl | hc
        · decide
        · rcases List.mem_cons.1 hc with rfl | hc
          · decide
          · exact ih (fun c hc => h c (by simp [hc])) c hc
      · rw [dbl_other hx] at hc
        rcases List.mem_cons.1 hc with rfl | hc
        · exact h c (by simp)
        · exact ih (fun c hc => h c (by simp [hc])) c hc
  intro c hc
  rcases List.mem_cons.1 hc with rfl | hc
  · decide
  · rcases List.mem_append.1 hc with hc | hc
    · exact g t h c hc
    · simp only [List.mem_singleton] at hc; subst hc; decide
theorem nameSz_of {u r : List UInt8} : ∀ (ms : List (List UInt8)), u ∈ ms → (∀ n ∈ ms, begins n (u ++ r) = true → n = u) → nameSz (u ++ r) ms = u.length
  | [], h, _ => by cases h
  | n :: ms, h, hg => by
    unfold nameSz
    cases hb : begins n (u ++ r) with
    | true => rw [if_pos rfl, hg n (by simp) hb]
    | false =>
      rw [if_neg (by decide)]
      rcases List.mem_cons.1 h with rfl | h
      · rw [(begins_iff _ _).2 ⟨r, rfl⟩] at hb; cases hb
      · exact nameSz_of ms h (fun m hm => hg m (by simp [hm]))
theorem begins_split {n u r : List UInt8} (h : begins n (u ++ r) = true) : begins n u = true ∨ ∃ x y, n = u ++ x :: y ∧ r.head? = some x := by
  obtain ⟨s, hs⟩ := (begins_iff _ _).1 h
  by_cases hl : n.length ≤ u.length
  · left
    refine (begins_iff _ _).2 ⟨u.drop n.length, ?_⟩
    have e1 := congrArg (List.take n.length) hs
    rw [List.take_append_of_le_length hl, List.take_left] at e1
    conv => lhs; rw [← List.take_append_drop n.length u, e1]
  · right
    have hu : n = u ++ n.drop u.length := by
      have e1 := congrArg (List.take u.length) hs
      rw [List.take_left, List.take_append_of_le_length (by omega)] at e1
      conv => lhs; rw [← List.take_append_drop u.length n, ← e1]
    cases hd : n.drop u.length with
    | nil =>
      have := congrArg List.length hd
      simp only [List.length_drop, List.length_nil] at this
      omega
    | cons x y =>
      rw [hd] at hu
      refine ⟨x, y, hu, ?_⟩
      rw [hu, List.append_assoc] at hs
      rw [List.append_cancel_left hs]; rfl
theorem faults_one : ∀ u ∈ faults, ∀ n ∈ faults, (begins n u = true → n = u) ∧ (begins u n = true → n = u) := by decide
theorem at_fault {u r : List UInt8} (h : u ∈ faults) : At 4 u r := by
  have hs : sz 4 (u ++ r) = u.length := by
    rw [sz4]
    refine nameSz_of faults h (fun n hn hb => ?_)
    rcases begins_split hb with hb | ⟨x, y, e, -⟩
    · exact (faults_one u h n hn).1 hb
    · exact (faults_one u h n hn).2 ((begins_iff _ _).2 ⟨_, e⟩)
  have g : ∀ u ∈ faults, u.head? = some 35 := by decide
  have hh := g u h
  cases u with
  | nil => cases hh
  | cons c t =>
    obtain rfl := Option.some.inj hh
    refine ⟨hit_of (Or.inr (Or.inr (Or.inr (Or.inl ⟨rfl, rfl⟩)))) ?_, by decide, hs, by simp⟩
    show 0 < sz 4 (35 :: t ++ r)
    rw [hs]; simp
theorem marks_one : ∀ u ∈ marks, ∀ n ∈ marks, (begins n u = true → n = u ∨ u.length = 2) ∧ (∀ x ∈ n.drop 1, x = 61 ∨ x = 62) := by decide
theorem at_mark {u r : List UInt8} (h : u ∈ marks) (hr : ∀ c, r.head? = some c → ¬ c = 61 ∧ ¬ c = 62) : At 5 u r := by
  have h0 : ∀ u ∈ marks, 0 < u.length ∧ u.length ≤ 2 := by decide
  have hs : sz 5 (u ++ r) = u.length := by
    rw [sz5]
    by_cases h2 : u.length = 2
    · have g : ∀ u ∈ marks, u.length = 2 → u = [60, 62] ∨ u = [60, 61] ∨ u = [62, 61] := by decide
      rcases g u h h2 with rfl | rfl | rfl <;> simp [marks, nameSz, begins]
    · refine nameSz_of marks h (fun n hn hb => ?_)
      rcases begins_split hb with hb | ⟨x, y, e, hx⟩
      · exact ((marks_one u h n hn).1 hb).resolve_right h2
      · exfalso
        have hx1 := (marks_one u h n hn).2 x (by
          rw [e]
          have := (h0 u h).1
          rw [List.drop_append_of_le_length (by omega)]
          simp)
        have := hr x hx
        rcases hx1 with e | e
        · exact this.1 e
        · exact this.2 e
  cases u with
  | nil => exact absurd (h0 [] h).1 (by decide)
  | cons c t =>
    have hm : mk c = true := by unfold mk; exact List.any_eq_true.2 ⟨c :: t, h, by simp⟩
    refine ⟨hit_of (Or.inr (Or.inr (Or.inr (Or.inr ⟨rfl, hm⟩)))) ?_, by decide, hs, ?_⟩
    · show 0 < sz 5 (c :: t ++ r); rw [hs]; simp
    · intro e
      obtain rfl := Option.some.inj e
      exact absurd hm (by decide)
theorem marks_still : ∀ u ∈ marks, ¬ u = [60] → ¬ u = [62] → ∀ n ∈ marks, (begins u n = true → n = u) := by decide
theorem at_still {u r : List UInt8} (h : u ∈ marks) (h1 : ¬ u = [60]) (h2 : ¬ u = [62]) : At 5 u r := by
  have h0 : ∀ u ∈ marks, 0 < u.length ∧ u.length ≤ 2 := by decide
  have hs : sz 5 (u ++ r) = u.length := by
    rw [sz5]
    by_cases h2 : u.length = 2
    · have g : ∀ u ∈ marks, u.length = 2 → u = [60, 62] ∨ u = [60, 61] ∨ u = [62, 61] := by decide
      rcases g u h h2 with rfl | rfl | rfl <;> simp [marks, nameSz, begins]
    · refine nameSz_of marks h (fun n hn hb => ?_)
      rcases begins_split hb with hb | ⟨x, y, e, hx⟩
      · exact ((marks_one u h n hn).1 hb).resolve_right h2
      · exact marks_still u h h1 (by assumption) n hn ((begins_iff _ _).2 ⟨_, e⟩)
  cases u with
  | nil => exact absurd (h0 [] h).1 (by decide)
  | cons c t =>
    have hm : mk c = true := by unfold mk; exact List.any_eq_true.2 ⟨c :: t, h, by simp⟩
    refine ⟨hit_of (Or.inr (Or.inr (Or.inr (Or.inr ⟨rfl, hm⟩)))) ?_, by decide, hs, ?_⟩
    · show 0 < sz 5 (c :: t ++ r); rw [hs]; simp
    · intro e
      obtain rfl := Option.some.inj e
      exact absurd hm (by decide)
theorem mark_prt : ∀ u ∈ marks, ¬ runP prt u < u.length := by decide
theorem fault_prt : ∀ u ∈ faults, ¬ runP prt u < u.length := by decide
theorem full_prt {u : List UInt8} (h : ∀ c ∈ u, prt c = true) : ¬ runP prt u < u.length := by rw [runP_full u h]; omega
def kx (t : Tok) : Nat × List UInt8 := (t.k, t.t)
def Wr (u : List UInt8) (T : List (Nat × List UInt8)) : Prop := ∀ (p : Nat) (r : List UInt8) (ts2 : List Tok), Aft r → Ok (p + u.length) r ts2 → ∃ ts, Ok p (u ++ r) (ts ++ ts2) ∧ ts.map kx = T
def Hdk (u : List UInt8) : Prop := ∃ c t, u = c :: t ∧ ¬ c = 61 ∧ ¬ c = 62
theorem Wr.one {k : Nat} {u : List UInt8} (ha : ∀ r, Aft r → At k u r) (hp : ∀ c ∈ u, prt c = true) : Wr u [(k, said k u)] := by
  intro p r ts2 hr h
  exact ⟨[⟨k, said k u, p⟩], Ok.tok (ha r hr) (full_prt hp) h, rfl⟩
theorem Wr.pre {k : Nat} {m u : List UInt8} {T : List (Nat × List UInt8)} (ha : ∀ r, At k m (u ++ r)) (hp : ¬ runP prt m < m.length) (h : Wr u T) : Wr (m ++ u) ((k, said k m) :: T) := by
  intro p r ts2 hr h2
  obtain ⟨ts, h3, h4⟩ := h (p + m.length) r ts2 hr (by rw [List.length_append] at h2; rw [Nat.add_assoc]; exact h2)
  refine ⟨⟨k, said k m, p⟩ :: ts, ?_, by rw [List.map_cons, h4]; rfl⟩
  rw [List.append_assoc]
  exact Ok.tok (ha r) hp h3
theorem Wr.app {u v : List UInt8} {T S : List (Nat × List UInt8)} (h : Wr u T) (hv : Wr v S) (h0 : v ≠ []) (ha : Aft v) : Wr (u ++ v) (T ++ S) := by
  intro p r ts2 hr h2
  obtain ⟨ss, h3, h4⟩ := hv (p + u.length) r ts2 hr (by rw [List.length_append] at h2; rw [Nat.add_assoc]; exact h2)
  obtain ⟨ts, h5, h6⟩ := h p (v ++ r) (ss ++ ts2) (ha.app h0) h3
  refine ⟨ts ++ ss, ?_, by rw [List.map_append, h4, h6]⟩
  rw [List.append_assoc, List.append_assoc]
  exact h5
theorem mark_aft {m : List UInt8} (h : m ∈ marks) (r : List UInt8) : Aft (m ++ r) := by
  have h0 : ∀ u ∈ marks, 0 < u.length := by decide
  cases m with
  | nil => exact absurd (h0 [] h) (by decide)
  | cons c t => exact Aft.cons (by unfold mk; exact List.any_eq_true.2 ⟨c :: t, h, by simp⟩)
theorem said_mark {m : List UInt8} : said 5 m = m := said_other (by decide) m
theorem Wr.mark {m u : List UInt8} {T : List (Nat × List UInt8)} (hm : m ∈ marks) (hu : Hdk u) (h : Wr u T) : Wr (m ++ u) ((5, m) :: T) := by
  have := Wr.pre (k := 5) (fun r => at_mark hm (fun c hc => by
    obtain ⟨d, t, rfl, h1, h2⟩ := hu
    obtain rfl := Option.some.inj hc
    exact ⟨h1, h2⟩)) (mark_prt m hm) h
  rw [said_mark] at this
  exact this
theorem Wr.still {m : List UInt8} (hm : m ∈ marks) (h1 : ¬ m = [60]) (h2 : ¬ m = [62]) : Wr m [(5, m)] := by
  have := Wr.one (k := 5) (u := m) (fun r _ => at_still hm h1 h2) (runP_mem m (mark_prt m hm))
  rw [said_mark] at this
  exact this
theorem Wr.brack {u : List UInt8} {T : List (Nat × List UInt8)} (h : Wr u T) : Wr (40 :: (u ++ [41])) ((5, [40]) :: (T ++ [(5, [41])])) := by
  have h1 := h.app (Wr.still (m := [41]) (by decide) (by decide) (by decide)) (by decide) (Aft.cons (by decide))
  have := Wr.pre (k := 5) (m := [40]) (fun r => at_still (by decide) (by decide) (by decide)) (by decide) h1
  exact this
end Wlx
namespace Go.Proofs.YthofehcchickeaaGreatDoor.Wnum
def allD (l : List UInt8) : Prop := ∀ c ∈ l, 48 ≤ c.toNat ∧ c.toNat ≤ 57
def val (l : List UInt8) : Nat := l.foldl (fun n c => n * 10 + (c.toNat - 48)) 0
theorem val_snoc (l : List UInt8) (c : UInt8) : val (l ++ [c]) = val l * 10 + (c.toNat - 48) := by unfold val; rw [List.foldl_append]; rfl
theorem val_from : ∀ (l : List UInt8) (n : Nat), l.foldl (fun n c => n * 10 + (c.toNat - 48)) n = n * 10 ^ l.length + val l := by
  intro l
  induction l with
  | nil => intro n; simp [val]
  | cons c t ih =>
    intro n
    have h1 : (c :: t).foldl (fun n c => n * 10 + (c.toNat - 48)) n = t.foldl (fun n c => n * 10 + (c.toNat - 48)) (n * 10 + (c.toNat - 48)) := rfl
    have h2 : val (c :: t) = t.foldl (fun n c => n * 10 + (c.toNat - 48)) (0 * 10 + (c.toNat - 48)) := rfl
    rw [h1, h2, ih, ih, List.length_cons, Nat.pow_succ, Nat.zero_mul, Nat.zero_add, Nat.add_mul, Nat.mul_assoc, Nat.mul_comm 10, Nat.add_assoc]
theorem val_cons (c : UInt8) (t : List UInt8) : val (c :: t) = (c.toNat - 48) * 10 ^ t.length + val t := by
  have h2 : val (c :: t) = t.foldl (fun n c => n * 10 + (c.toNat - 48)) (0 * 10 + (c.toNat - 48)) := rfl
  rw [h2, val_from, Nat.zero_mul, Nat.zero_add]
theorem byte_of {q : Nat} (h : q ≤ 9) : (UInt8.ofNat (48 + q)).toNat = 48 + q := by
  rw [UInt8.toNat_ofNat']
  exact Nat.mod_eq_of_lt (by omega)
theorem allD_snoc {l : List UInt8} {q : Nat} (h : allD l) (hq : q ≤ 9) : allD (l ++ [UInt8.ofNat (48 + q)]) := by
  intro c hc
  rw [List.mem_append, List.mem_singleton] at hc
  rcases hc with hc | rfl
  · exact h c hc
  · rw [byte_of hq]; omega
theorem dd_facts (u : Nat) : allD (Lib.decDigits u) ∧ val (Lib.decDigits u) = u ∧ Lib.decDigits u ≠ [] := by
  induction u using Nat.strongRecOn with
  | ind u ih =>
    unfold Lib.decDigits
    by_cases h : u < 10
    · rw [dif_pos h]
      refine ⟨?_, ?_, by simp⟩
      · have := allD_snoc (l := []) (q := u) (fun c hc => by cases hc) (by omega)
        exact this
      · have := val_snoc [] (UInt8.ofNat (48 + u))
        rw [byte_of (by omega)] at this
        rw [show [UInt8.ofNat (48 + u)] = [] ++ [UInt8.ofNat (48 + u)] from rfl, this]
        show 0 * 10 + (48 + u - 48) = u
        omega
    · rw [dif_neg h]
      obtain ⟨h1, h2, h3⟩ := ih (u / 10) (by omega)
      refine ⟨allD_snoc h1 (by omega), ?_, by simp⟩
      rw [val_snoc, h2, byte_of (by omega)]
      omega
theorem decs_facts {d : Nat} (hd : 0 < d) : ∀ k r, r < d → r * 10 ^ k % d = 0 → allD (decs d k r) ∧ val (decs d k r) * d = r * 10 ^ (decs d k r).length := by
  intro k
  induction k with
  | zero =>
    intro r hr h
    rw [ends_zero hr h]
    exact ⟨fun c hc => (by cases hc), (by rw [decs_zero, Nat.zero_mul]; exact Nat.zero_mul _)⟩
  | succ k ih =>
    intro r hr h
    by_cases h0 : r = 0
    · rw [h0, decs_zero]; exact ⟨fun c hc => (by cases hc), (by rw [Nat.zero_mul]; exact Nat.zero_mul _)⟩
    · rw [decs_more h0]
      obtain ⟨i1, i2⟩ := ih (r * 10 % d) (Nat.mod_lt _ hd) (ends_step h)
      have hq : r * 10 / d ≤ 9 := by
        have : r * 10 / d < 10 := (Nat.div_lt_iff_lt_mul hd).2 (by omega)
        omega
      constructor
      · intro c hc
        rw [List.mem_cons] at hc
        rcases hc with rfl | hc
        · rw [byte_of hq]
          exact ⟨Nat.le_add_right _ _, Nat.add_le_add_left hq 48⟩
        · exact i1 c hc
      · rw [val_cons, byte_of hq, List.length_cons, Nat.add_sub_cancel_left, Nat.add_mul, i2, Nat.mul_right_comm, ← Nat.add_mul, Nat.mul_comm (r * 10 / d) d, Nat.div_add_mod, Nat.pow_succ, Nat.mul_assoc, Nat.mul_comm 10]
theorem decs_some {d k r : Nat} (h : r ≠ 0) : 0 < (decs d (k + 1) r).length := by rw [decs_more h, List.length_cons]; omega
theorem bt_in (pre l : List UInt8) (m : Nat) : bt ⟨(pre ++ l).toArray⟩ (pre.length + m) = ((l.getD m 0).toNat : Int) := by
  unfold bt
  show ((((pre ++ l).getD (pre.length + m) 0).toNat : Nat) : Int) = _
  rw [List.getD_eq_getElem?_getD, List.getD_eq_getElem?_getD, List.getElem?_append_right (by omega), Nat.add_sub_cancel_left]
theorem dig_at (pre l suf : List UInt8) (hd : allD l) (he : suf = [] ∨ ¬ isD ((suf.getD 0 0).toNat : Int)) :
    dk ⟨(pre ++ (l ++ suf)).toArray⟩ pre.length = l.length ∧ dv ⟨(pre ++ (l ++ suf)).toArray⟩ pre.length = (val l : Int) := by
  have hin : ∀ m, (h : m < l.length) → bt ⟨(pre ++ (l ++ suf)).toArray⟩ (pre.length + m) = ((l[m]).toNat : Int) := fun m h => by
    rw [bt_in, List.getD_eq_getElem?_getD, List.getElem?_append_left h, List.getElem?_eq_getElem h]; rfl
  have hsz : (ByteArray.mk (pre ++ (l ++ suf)).toArray).size = pre.length + (l.length + suf.length) := by
    show (pre ++ (l ++ suf)).toArray.size = _
    simp
  have hk : dk ⟨(pre ++ (l ++ suf)).toArray⟩ pre.length = l.length := by
    unfold dk
    refine cnt_is (by omega) (fun m hm => ?_) (fun hlt => ?_)
    · rw [hin m hm]
      have := hd _ (List.getElem_mem hm)
      unfold isD; omega
    · rcases he with he | he
      · subst he; rw [hsz, List.length_nil] at hlt; omega
      · rw [bt_in, List.getD_eq_getElem?_getD, List.getElem?_append_right (by omega), Nat.sub_self, ← List.getD_eq_getElem?_getD]; exact he
  refine ⟨hk, ?_⟩
  have hs : ∀ k, k ≤ l.length → say ⟨(pre ++ (l ++ suf)).toArray⟩ pre.length k = (val (l.take k) : Int) := by
    intro k
    induction k with
    | zero => intro _; rfl
    | succ k ih =>
      intro h
      have h' : k < l.length := by omega
      rw [say_succ, ih (by omega), hin k h', List.take_succ_eq_append_getElem h', val_snoc]
      have := (hd _ (List.getElem_mem h')).1
      omega
  unfold dv
  rw [hk, hs _ (Nat.le_refl _), List.take_length]
def pf (m : Bool) : List UInt8 := if m = true then [45] else []
theorem minus_is (m : Bool) {l suf : List UInt8} (h : allD l) (h0 : l ≠ []) : minusB ⟨(pf m ++ (l ++ suf)).toArray⟩ = m ∧ aOf ⟨(pf m ++ (l ++ suf)).toArray⟩ = (pf m).length := by
  have h1 : minusB ⟨(pf m ++ (l ++ suf)).toArray⟩ = m := by
    cases m with
    | true => exact decide_eq_true ⟨by show 0 < ([45] ++ (l ++ suf)).toArray.size; simp, rfl⟩
    | false =>
      refine decide_eq_false (fun x => ?_)
      cases l with
      | nil => exact h0 rfl
      | cons c t =>
        have hc := (h c List.mem_cons_self).1
        have h2 := x.2
        have h3 : bt ⟨(pf false ++ (c :: t ++ suf)).toArray⟩ 0 = (c.toNat : Int) := rfl
        rw [h3] at h2
        omega
  refine ⟨h1, ?_⟩
  unfold aOf
  rw [h1]
  cases m <;> rfl
theorem two_at (m : Bool) (l1 l2 : List UInt8) (c : UInt8) (hc : ¬ isD (c.toNat : Int)) (hd1 : allD l1) (hd2 : allD l2) (h0 : l1 ≠ []) (s : ByteArray) (hs : s = ⟨(pf m ++ (l1 ++ c :: l2)).toArray⟩) :
    minusB s = m ∧ dk s (aOf s) = l1.length ∧ dv s (aOf s) = (val l1 : Int) ∧ bt s (aOf s + dk s (aOf s)) = (c.toNat : Int) ∧ dk s (aOf s + dk s (aOf s) + 1) = l2.length ∧ dv s (aOf s + dk s (aOf s) + 1) = (val l2 : Int) ∧ aOf s + dk s (aOf s) + 1 + l2.length = s.size := by
  obtain ⟨b1, b2⟩ := minus_is m (suf := c :: l2) hd1 h0
  obtain ⟨c1, c2⟩ := dig_at (pf m) l1 (c :: l2) hd1 (Or.inr hc)
  rw [← hs] at b1 b2 c1 c2
  rw [b2, c1, c2]
  have e1 : bt s ((pf m).length + l1.length) = (c.toNat : Int) := by
    rw [hs, show pf m ++ (l1 ++ c :: l2) = (pf m ++ l1) ++ (c :: l2) by simp]
    have := bt_in (pf m ++ l1) (c :: l2) 0
    rw [List.length_append, Nat.add_zero] at this
    exact this
  have e2 : s = ⟨((pf m ++ (l1 ++ [c])) ++ (l2 ++ [])).toArray⟩ := by rw [hs]; simp
  obtain ⟨f1, f2⟩ := dig_at (pf m ++ (l1 ++ [c])) l2 [] hd2 (Or.inl rfl)
  rw [← e2, show (pf m ++ (l1 ++ [c])).length = (pf m).length + l1.length + 1 by simp; omega] at f1 f2
  refine ⟨b1, rfl, rfl, e1, f1, f2, ?_⟩
  rw [hs]
  show _ = (pf m ++ (l1 ++ c :: l2)).toArray.size
  simp; omega
theorem tenP_nat (k : Nat) : tenP k = ((10 ^ k : Nat) : Int) := by unfold tenP; rw [Int.natCast_pow]; rfl
theorem txt_reads {N : Int} {D : Nat} (h1 : -1000000000000 ≤ N) (h2 : N ≤ 1000000000000) (h3 : 1 ≤ D) (h4 : D ≤ 1000000) (hg : Int.gcd N (D : Int) = 1) : rdO ⟨(txt N D).toArray⟩ = some (Rat.divInt N (D : Int)) := by
  have D0 : (D : Int) ≠ 0 := by omega
  rw [← mk_pos D0]
  obtain ⟨m, hm⟩ : ∃ m, m = decide (N < 0) := ⟨_, rfl⟩
  have hs : sgnT N = pf m := by
    unfold sgnT pf
    by_cases h : N < 0
    · rw [if_pos h, hm, decide_eq_true h]; rfl
    · rw [if_neg h, hm, decide_eq_false h]; rfl
  have hv : ∀ n : Int, n = (N.natAbs : Int) → sgnd m n = N := by
    intro n hn
    unfold sgnd
    by_cases h : N < 0
    · rw [hm, decide_eq_true h, if_pos rfl]; omega
    · rw [hm, decide_eq_false h, if_neg (by decide)]; omega
  by_cases hd : 1000000 % D = 0
  · by_cases hr : N.natAbs % D = 0
    · have d1 : D = 1 := by
        have : D ∣ Nat.gcd N.natAbs D := Nat.dvd_gcd (Nat.dvd_of_mod_eq_zero hr) (Nat.dvd_refl _)
        rw [show Nat.gcd N.natAbs D = 1 from hg] at this
        exact Nat.dvd_one.1 this
      rw [txt_whole hd hr, hs, d1, Nat.div_one]
      obtain ⟨a1, a2, a3⟩ := dd_facts N.natAbs
      have q := List.append_nil (Lib.decDigits N.natAbs)
      rw [← q]
      obtain ⟨b1, b2⟩ := minus_is m (suf := []) a1 a3
      obtain ⟨c1, c2⟩ := dig_at (pf m) _ [] a1 (Or.inl rfl)
      have hB : dB ⟨(pf m ++ (Lib.decDigits N.natAbs ++ [])).toArray⟩ (aOf ⟨(pf m ++ (Lib.decDigits N.natAbs ++ [])).toArray⟩) = true := by
        rw [b2]; unfold dB; rw [c1, c2, a2]
        exact decide_eq_true ⟨List.length_pos_iff.2 a3, by omega⟩
      rw [r_whole hB (by rw [b2, c1]; show _ = (pf m ++ (Lib.decDigits N.natAbs ++ [])).toArray.size; simp), b1, b2, c2, a2, hv _ rfl]
      rfl
    · rw [txt_point hd hr, hs]
      have hR : N.natAbs % D < D := Nat.mod_lt _ (by omega)
      obtain ⟨a1, a2, a3⟩ := dd_facts (N.natAbs / D)
      obtain ⟨d1, d2⟩ := decs_facts (d := D) (by omega) 6 (N.natAbs % D) hR (ends_six hd)
      have d3 := decs_length D 6 (N.natAbs % D)
      have d4 : 0 < (decs D 6 (N.natAbs % D)).length := decs_some hr
      generalize decs D 6 (N.natAbs % D) = l2 at *
      obtain ⟨s, es⟩ : ∃ s, s = ByteArray.mk (pf m ++ (Lib.decDigits (N.natAbs / D) ++ 46 :: l2)).toArray := ⟨_, rfl⟩
      rw [← es]
      obtain ⟨t1, t2, t3, t4, t5, t6, t7⟩ := two_at m _ l2 46 (by decide) a1 d1 a3 s es
      have hq := Nat.div_le_self N.natAbs D
      have vl : val l2 < 10 ^ l2.length := by
        apply Nat.lt_of_mul_lt_mul_right (a := D)
        rw [d2, Nat.mul_comm]
        exact Nat.mul_lt_mul_of_pos_left hR (Nat.pow_pos (by omega))
      have vp : 10 ^ l2.length ≤ 10 ^ 6 := Nat.pow_le_pow_right (by omega) d3
      rw [a2] at t3
      have hB : dB s (aOf s) = true := by
        unfold dB; rw [t2, t3]
        exact decide_eq_true ⟨List.length_pos_iff.2 a3, by omega⟩
      have hB2 : dB s (aOf s + dk s (aOf s) + 1) = true := by
        unfold dB; rw [t5, t6]
        exact decide_eq_true ⟨d4, by omega⟩
      have r := (((r_more hB (by omega)).2 hB2 (by rw [t5]; exact t7)).2.2.2 t4 (by rw [t5]; exact d3) (by rw [t3]; omega))
      rw [r, t5, t6, t3, t1, tenP_nat]
      have key : ((N.natAbs / D * 10 ^ l2.length + val l2) * D : Nat) = N.natAbs * 10 ^ l2.length := by
        rw [Nat.add_mul, d2, Nat.mul_right_comm, ← Nat.add_mul, Nat.mul_comm (N.natAbs / D) D, Nat.div_add_mod]
      rw [← mk_mul (k := (D : Int)) D0, ← mk_mul (n := N) (k := ((10 ^ l2.length : Nat) : Int)) (by have : 0 < 10 ^ l2.length := Nat.pow_pos (by omega); omega), Int.mul_comm (D : Int) ((10 ^ l2.length : Nat) : Int)]
      have key2 : (((N.natAbs / D : Nat) : Int) * ((10 ^ l2.length : Nat) : Int) + (val l2 : Int)) * (D : Int) = (N.natAbs : Int) * ((10 ^ l2.length : Nat) : Int) := by
        rw [← Int.natCast_mul, ← Int.natCast_add, ← Int.natCast_mul, key, Int.natCast_mul]
      congr 1
      unfold sgnd
      by_cases h : N < 0
      · rw [hm, decide_eq_true h, if_pos rfl, Int.mul_neg, Int.mul_comm (D : Int), key2, ← Int.neg_mul, Int.mul_comm]
        congr 1; omega
      · rw [hm, decide_eq_false h, if_neg (by decide), Int.mul_comm (D : Int), key2, Int.mul_comm]
        congr 1; omega
  · rw [txt_frac hd, hs]
    obtain ⟨a1, a2, a3⟩ := dd_facts N.natAbs
    obtain ⟨d1, d2, d3⟩ := dd_facts D
    obtain ⟨s, es⟩ : ∃ s, s = ByteArray.mk (pf m ++ (Lib.decDigits N.natAbs ++ 47 :: Lib.decDigits D)).toArray := ⟨_, rfl⟩
    rw [← es]
    obtain ⟨t1, t2, t3, t4, t5, t6, t7⟩ := two_at m _ _ 47 (by decide) a1 d1 a3 s es
    rw [a2] at t3
    rw [d2] at t6
    have hB : dB s (aOf s) = true := by
      unfold dB; rw [t2, t3]
      exact decide_eq_true ⟨List.length_pos_iff.2 a3, by omega⟩
    have hB2 : dB s (aOf s + dk s (aOf s) + 1) = true := by
      unfold dB; rw [t5, t6]
      exact decide_eq_true ⟨List.length_pos_iff.2 d3, by omega⟩
    have r := ((r_more hB (by omega)).2 hB2 (by rw [t5]; exact t7)).1 t4
    rw [r, t6, t3, t1, hv _ rfl]
end Go.Proofs.YthofehcchickeaaGreatDoor.Wnum
namespace Wpl
theorem fv_snoc (k : Nat) (l : List UInt8) (c : UInt8) : fv k (l ++ [c]) = fv k l * 10 + (c.toNat - 48) := by unfold fv; rw [List.foldl_append]; rfl
end Wpl
