/- LPlainF, LPlainG, LPlainH. -/
import Derived.Test.YtalkiggclckcdaaGreatDoorQ36
namespace Wlx
theorem undbl_other {c : UInt8} (h : ¬ c = 34) (m : List UInt8) : undbl (c :: m) = c :: undbl m := by
  cases m with
  | nil => rfl
  | cons d t =>
    conv => lhs; unfold undbl
    rw [if_neg (fun e => h e.1)]
theorem undbl_two (m : List UInt8) : undbl (34 :: 34 :: m) = 34 :: undbl m := by
  conv => lhs; unfold undbl
  rw [if_pos ⟨rfl, rfl⟩]
theorem dbl_other {c : UInt8} (h : ¬ c = 34) (m : List UInt8) : dbl (c :: m) = c :: dbl m := by
  show (if c = 34 then 34 :: 34 :: dbl m else c :: dbl m) = _
  rw [if_neg h]
theorem dbl_quote (m : List UInt8) : dbl (34 :: m) = 34 :: 34 :: dbl m := rfl
theorem text_form : ∀ (n : Nat) (a : List UInt8) (i : Nat) (r : List UInt8), a.length ≤ n → 1 ≤ i → quo true i (a ++ r) = i + a.length → ∃ mid, a = mid ++ [34] ∧ dbl (undbl mid) = mid := by
  intro n
  induction n with
  | zero =>
    intro a i r hl hi h
    obtain rfl := List.eq_nil_of_length_eq_zero (Nat.le_zero.1 hl)
    have := (quo_stop hi h).1
    cases this
  | succ n ih =>
    intro a i r hl hi h
    cases a with
    | nil => have := (quo_stop hi h).1; cases this
    | cons c a =>
      simp only [List.length_cons] at hl h
      rw [List.cons_append] at h
      by_cases hc : c = 34
      · subst hc
        rw [quo_hit] at h
        cases a with
        | nil => exact ⟨[], rfl, rfl⟩
        | cons d a =>
          simp only [List.length_cons] at hl h
          rw [List.cons_append] at h
          by_cases hd : d = 34
          · subst hd
            rw [quo_hit] at h
            obtain ⟨mid, rfl, hm⟩ := ih a (i + 1 + 1) r (by omega) (by omega) (by have : (!!true) = true := rfl; rw [this] at h; omega)
            exact ⟨34 :: 34 :: mid, rfl, by rw [undbl_two, dbl_quote, hm]⟩
          · rw [show (!true) = false from rfl, quo_out hd] at h; omega
      · rw [quo_in hc] at h
        obtain ⟨mid, rfl, hm⟩ := ih a (i + 1) r (by omega) (by omega) (by omega)
        exact ⟨c :: mid, rfl, by rw [undbl_other hc, dbl_other hc, hm]⟩
theorem At.writ {k : Nat} {u r : List UInt8} (h : At k u r) : writ k (said k u) = u := by
  by_cases hk : k = 2
  · subst hk
    obtain ⟨c, t, rfl⟩ := h.cons
    have hn : txtSz (c :: (t ++ r)) = (c :: t).length := h.hn
    have hc : c = 34 := txtSz_pos (by rw [hn]; exact h.pos)
    subst hc
    have e : txtSz (34 :: (t ++ r)) = quo true 1 (t ++ r) := rfl
    rw [e] at hn
    simp only [List.length_cons] at hn
    obtain ⟨mid, rfl, hm⟩ := text_form _ t 1 r (Nat.le_refl _) (Nat.le_refl _) (by omega)
    unfold Wlx.writ said
    rw [if_pos rfl, if_pos rfl]
    have e2 : (((34 :: (mid ++ [34])).drop 1).take ((34 :: (mid ++ [34])).length - 2)) = mid := by
      have : (34 :: (mid ++ [34])).length - 2 = mid.length := by simp
      rw [this]
      exact List.take_left
    rw [e2, hm]
  · unfold Wlx.writ said
    rw [if_neg hk, if_neg hk]
def joinT : Bool → List Tok → List UInt8
  | _, [] => []
  | f, t :: r => (if f then [] else [32]) ++ writ t.k t.t ++ joinT false r
theorem joinT_nx (k : Nat) (r' : List UInt8) (ts : List Tok) : Nx k r' (joinT false ts) := by
  cases ts with
  | nil => exact ⟨Or.inr (Or.inl rfl), fun _ h => by cases h⟩
  | cons t r => exact ⟨Or.inr (Or.inr (Or.inl rfl)), fun _ h => absurd (Option.some.inj h) (by decide)⟩
theorem Ok.back {p : Nat} {l : List UInt8} {ts : List Tok} (h : Ok p l ts) : ∀ (q : Nat) (f : Bool), ∃ ts', Ok q (joinT f ts) ts' ∧ ts'.map (fun t => (t.k, t.t)) = ts.map (fun t => (t.k, t.t)) := by
  induction h using Ok.ind with
  | nil p => intro q f; exact ⟨[], Ok.nil q, rfl⟩
  | blank h ih => exact ih
  | @tok p k u r ts ha hp h ih =>
    intro q f
    have hw : ∀ q, ∃ ts', Ok q (u ++ joinT false ts) ts' ∧ ts'.map (fun t => (t.k, t.t)) = (⟨k, said k u, p⟩ :: ts : List Tok).map (fun t => (t.k, t.t)) := by
      intro q
      obtain ⟨ts', h1, h2⟩ := ih (q + u.length) false
      exact ⟨⟨k, said k u, q⟩ :: ts', Ok.tok (ha.ctx (joinT_nx k r ts)) hp h1, by simp [h2]⟩
    have e : joinT f (⟨k, said k u, p⟩ :: ts) = (if f then [] else [32]) ++ u ++ joinT false ts := by
      show (if f then [] else [32]) ++ Wlx.writ k (said k u) ++ joinT false ts = _
      rw [ha.writ]
    rw [e]
    cases f with
    | true => exact hw q
    | false =>
      obtain ⟨ts', h1, h2⟩ := hw (q + 1)
      exact ⟨ts', Ok.blank h1, h2⟩
def shift (b : Nat) (t : Tok) : Tok := ⟨t.k, t.t, t.p + b⟩
theorem Ok.shift {p : Nat} {l : List UInt8} {ts : List Tok} (h : Ok p l ts) (b : Nat) : Ok (p + b) l (ts.map (shift b)) := by
  induction h using Ok.ind with
  | nil p => exact Ok.nil _
  | blank h ih => exact Ok.blank (by rw [Nat.add_right_comm]; exact ih)
  | tok ha hp h ih => exact Ok.tok ha hp (by rw [Nat.add_right_comm]; exact ih)
theorem Ok.blanks {l : List UInt8} {ts : List Tok} : ∀ (b p : Nat), Ok (p + b) l ts → Ok p (List.replicate b 32 ++ l) ts
  | 0, p, h => h
  | b + 1, p, h => by
    rw [List.replicate_succ, List.cons_append]
    exact Ok.blank (Ok.blanks b (p + 1) (by rw [Nat.add_right_comm, Nat.add_assoc]; exact h))
def place (p : Nat) (l : List UInt8) (ts : List Tok) (i : Nat) : Nat := if h : i < ts.length then (ts[i]).p - p else l.length
theorem Ok.put {p : Nat} {l : List UInt8} {ts : List Tok} (h : Ok p l ts) (b : Nat) (hb : 0 < b) : ∀ i, i ≤ ts.length → Ok p (l.take (place p l ts i) ++ (List.replicate b 32 ++ l.drop (place p l ts i))) (ts.take i ++ (ts.drop i).map (Wlx.shift b)) := by
  induction h using Ok.ind with
  | nil p =>
    intro i hi
    have e : place p [] [] i = 0 := by unfold place; rw [dif_neg (by simp)]; rfl
    rw [e]
    have := Ok.blanks b p (Ok.nil (p + b))
    simpa using this
  | @blank p t ts h ih =>
    intro i hi
    have e : place p (32 :: t) ts i = place (p + 1) t ts i + 1 := by
      unfold place
      by_cases hl : i < ts.length
      · rw [dif_pos hl, dif_pos hl]
        have := (h.count.2 (ts[i]) (List.getElem_mem hl)).1
        omega
      · rw [dif_neg hl, dif_neg hl]; rfl
    rw [e]
    exact Ok.blank (ih i hi)
  | @tok p k u r ts ha hp h ih =>
    intro i hi
    cases i with
    | zero =>
      have e : place p (u ++ r) (⟨k, said k u, p⟩ :: ts) 0 = 0 := by unfold place; rw [dif_pos (by simp)]; exact Nat.sub_self p
      rw [e]
      exact Ok.blanks b p ((Ok.tok ha hp h).shift b)
    | succ i =>
      simp only [List.length_cons] at hi
      have e : place p (u ++ r) (⟨k, said k u, p⟩ :: ts) (i + 1) = u.length + place (p + u.length) r ts i := by
        unfold place
        by_cases hl : i < ts.length
        · rw [dif_pos hl, dif_pos (by simpa using hl), List.getElem_cons_succ]
          have := (h.count.2 (ts[i]) (List.getElem_mem hl)).1
          omega
        · rw [dif_neg hl, dif_neg (by simpa using hl), List.length_append]
      have hi2 := ih i (by omega)
      generalize place (p + u.length) r ts i = A at e hi2
      rw [e, List.take_append, List.drop_append, Nat.add_sub_cancel_left, List.take_of_length_le (by omega), List.drop_eq_nil_of_le (by omega), List.nil_append, List.append_assoc]
      have hx : Nx k r (r.take A ++ (List.replicate b 32 ++ r.drop A)) := by
        obtain ⟨b', rfl⟩ : ∃ b', b = b' + 1 := ⟨b - 1, by omega⟩
        cases r with
        | nil => exact ⟨Or.inr (Or.inr (Or.inl (by simp [List.replicate_succ]))), fun _ h => by simp [List.replicate_succ] at h⟩
        | cons x y =>
          cases A with
          | zero => exact ⟨Or.inr (Or.inr (Or.inl (by simp [List.replicate_succ]))), fun _ h => by simp [List.replicate_succ] at h⟩
          | succ A => exact ⟨Or.inl rfl, fun _ h2 => h.head h2⟩
      exact Ok.tok (ha.ctx hx) hp hi2
theorem Ok.next {p : Nat} {l : List UInt8} {t : Tok} {ts : List Tok} (h : Ok p l (t :: ts)) : ∃ (b : Nat) (u r : List UInt8), l = List.replicate b 32 ++ (u ++ r) ∧ t = ⟨t.k, said t.k u, p + b⟩ ∧ At t.k u r ∧ Ok (p + b + u.length) r ts := by
  generalize hx : t :: ts = xs at h
  induction h using Ok.ind with
  | nil p => cases hx
  | blank h ih =>
    obtain ⟨b, u, r, rfl, h2, h3, h4⟩ := ih hx
    refine ⟨b + 1, u, r, rfl, ?_, h3, ?_⟩
    · rw [show ∀ p : Nat, p + (b + 1) = p + 1 + b by intro p; omega]; exact h2
    · rw [show ∀ p : Nat, p + (b + 1) + u.length = p + 1 + b + u.length by intro p; omega]; exact h4
  | tok ha hp h ih =>
    cases hx
    exact ⟨0, _, _, rfl, rfl, ha, h⟩
theorem prt_wrd : ∀ c : UInt8, (wrd c = true → prt c = true) ∧ (dig c = true → prt c = true) ∧ prt 34 = true ∧ prt 46 = true := by
  intro c
  have key : ∀ n : Fin 256, (wrd (UInt8.ofNat n) = true → prt (UInt8.ofNat n) = true) ∧ (dig (UInt8.ofNat n) = true → prt (UInt8.ofNat n) = true) ∧ prt 34 = true ∧ prt 46 = true := by decide +kernel
  have := key ⟨c.toNat, c.toNat_lt⟩
  simpa using this
theorem runP_full {p : UInt8 → Bool} : ∀ (u : List UInt8), (∀ c ∈ u, p c = true) → runP p u = u.length
  | [], _ => rfl
  | c :: t, h => by rw [runP_pos (h c (by simp)), runP_full t (fun x hx => h x (by simp [hx]))]; rfl
theorem runP_mem {p : UInt8 → Bool} : ∀ (u : List UInt8), ¬ runP p u < u.length → ∀ c ∈ u, p c = true
  | [], _, c, hc => by cases hc
  | d :: t, h, c, hc => by
    cases hd : p d with
    | false => rw [runP_neg hd] at h; simp at h
    | true =>
      rw [runP_pos hd] at h
      simp only [List.length_cons] at h
      rcases List.mem_cons.1 hc with rfl | hc
      · exact hd
      · exact runP_mem t (by omega) c hc
end Wlx
namespace Wlx
theorem Ok.app {p : Nat} {l : List UInt8} {ts : List Tok} (h : Ok p l ts) {d : UInt8} (hd : d = 40 ∨ d = 41 ∨ d = 44) {r : List UInt8} : ∀ {ts2 : List Tok}, Ok (p + l.length) (d :: r) ts2 → Ok p (l ++ d :: r) (ts ++ ts2) := by
  induction h using Ok.ind with
  | nil p => intro ts2 h2; exact h2
  | @blank p t ts h ih =>
    intro ts2 h2
    refine Ok.blank (ih ?_)
    rw [show p + 1 + t.length = p + (32 :: t).length by simp only [List.length_cons]; omega]
    exact h2
  | @tok p k u r0 ts ha hp h ih =>
    intro ts2 h2
    rw [List.append_assoc]
    have hx : Nx k r0 (r0 ++ d :: r) := by
      cases r0 with
      | nil => exact ⟨Or.inr (Or.inr (Or.inr ⟨d, rfl, hd⟩)), fun _ e => by
          obtain rfl := Option.some.inj e
          exact absurd hd (by decide)⟩
      | cons x y => exact ⟨Or.inl rfl, fun _ e => h.head e⟩
    refine Ok.tok (ha.ctx hx) hp (ih ?_)
    rw [show p + u.length + r0.length = p + (u ++ r0).length by rw [List.length_append]; omega]
    exact h2
theorem at_one (d : UInt8) (hd : d = 40 ∨ d = 41 ∨ d = 44) (r : List UInt8) : At 5 [d] r := by
  have hs : sz 5 ([d] ++ r) = 1 := by
    rw [sz5]
    rcases hd with rfl | rfl | rfl <;> simp [marks, nameSz, begins]
  refine ⟨hit_of ?_ (by show 0 < sz 5 ([d] ++ r); omega), by decide, hs, ?_⟩
  · rcases hd with rfl | rfl | rfl <;> exact Or.inr (Or.inr (Or.inr (Or.inr ⟨rfl, by decide⟩)))
  · rcases hd with rfl | rfl | rfl <;> simp
theorem Ok.one {p : Nat} {d : UInt8} (hd : d = 40 ∨ d = 41 ∨ d = 44) {r : List UInt8} {ts : List Tok} (h : Ok (p + 1) r ts) : Ok p (d :: r) (⟨5, [d], p⟩ :: ts) := by
  have := Ok.tok (u := [d]) (at_one d hd r) (by rcases hd with rfl | rfl | rfl <;> decide) h
  exact this
end Wlx
namespace Wlx
def Aft (r : List UInt8) : Prop := ∀ c, r.head? = some c → mk c = true
theorem Aft.nil : Aft [] := fun c h => by cases h
theorem Aft.cons {c : UInt8} {r : List UInt8} (h : mk c = true) : Aft (c :: r) := fun d hd => by
  obtain rfl := Option.some.inj hd
  exact h
theorem Aft.app {u r : List UInt8} (h0 : u ≠ []) (hu : Aft u) : Aft (u ++ r) := by
  cases u with
  | nil => exact absurd rfl h0
  | cons c t => exact fun d hd => hu d hd
theorem Aft.no {r : List UInt8} (h : Aft r) : (∀ c, r.head? = some c → wrd c = false ∧ dig c = false ∧ ¬ c = 34 ∧ ¬ c = 46) := by
  intro c hc
  obtain ⟨c1, c2, c3⟩ := cls c
  obtain ⟨a1, a2, a3, a4, a5⟩ := c3 (h c hc)
  refine ⟨a3, ?_, a1, a5⟩
  cases hd : dig c with
  | false => rfl
  | true => rw [c2 hd] at a3; cases a3
theorem runP_all {p : UInt8 → Bool} {u r : List UInt8} (hu : ∀ c ∈ u, p c = true) (hr : ∀ c, r.head? = some c → p c = false) : runP p (u ++ r) = u.length := by
  rw [runP_app, if_neg (by rw [runP_full u hu]; omega), runP_zero.2 hr]; rfl
theorem at_word {c : UInt8} {t r : List UInt8} (hw : ∀ x ∈ c :: t, wrd x = true) (hd : dig c = false) (hr : Aft r) : At 3 (c :: t) r := by
  have hs : sz 3 (c :: t ++ r) = (c :: t).length := by
    rw [sz3]; exact runP_all hw (fun c hc => (hr.no c hc).1)
  refine ⟨hit_of (Or.inr (Or.inr (Or.inl ⟨rfl, hw c (by simp), hd⟩))) ?_, by decide, hs, ?_⟩
  · show 0 < sz 3 (c :: t ++ r); rw [hs]; simp
  · intro e
    obtain rfl : c = 32 := Option.some.inj e
    exact absurd (hw 32 (by simp)) (by decide)
theorem dig_head {c : UInt8} (h : dig c = true) : ¬ c = 32 := fun e => by rw [e] at h; exact absurd h (by decide)
theorem at_whole {u r : List UInt8} (h0 : u ≠ []) (hu : ∀ c ∈ u, dig c = true) (hr : Aft r) : At 1 u r := by
  have hs : sz 1 (u ++ r) = u.length := by
    rw [sz1]
    unfold numSz
    have e := runP_all (p := dig) (r := r) hu (fun c hc => (hr.no c hc).2.1)
    have hp : 0 < u.length := List.length_pos_iff.2 h0
    rw [e, if_neg (by omega), List.drop_left]
    cases r with
    | nil => rfl
    | cons x y =>
      rw [numTl_cons, if_neg (fun hh => (hr.no x rfl).2.2.2 hh.1)]
  cases u with
  | nil => exact absurd rfl h0
  | cons c t =>
    refine ⟨hit_of (Or.inl ⟨rfl, hu c (by simp)⟩) ?_, by decide, hs, ?_⟩
    · show 0 < sz 1 (c :: t ++ r); rw [hs]; simp
    · intro e; exact dig_head (hu c (by simp)) (Option.some.inj e)
theorem at_point {u v r : List UInt8} (h0 : u ≠ []) (h1 : v ≠ []) (hu : ∀ c ∈ u, dig c = true) (hv : ∀ c ∈ v, dig c = true) (hr : Aft r) : At 1 (u ++ 46 :: v) r := by
  have hs : sz 1 (u ++ 46 :: v ++ r) = (u ++ 46 :: v).length := by
    rw [sz1, List.append_assoc, List.cons_append]
    unfold numSz
    have e := runP_all (p := dig) (r := 46 :: (v ++ r)) hu (fun c hc => by
      obtain rfl := Option.some.inj hc; decide)
    have e2 := runP_all (p := dig) (r := r) hv (fun c hc => (hr.no c hc).2.1)
    have hp : 0 < u.length := List.length_pos_iff.2 h0
    have hq : 0 < v.length := List.length_pos_iff.2 h1
    rw [e, if_neg (by omega), List.drop_left, numTl_cons, e2, if_pos ⟨rfl, hq⟩, List.length_append, List.length_cons]
    omega
  cases u with
  | nil => exact absurd rfl h0
  | cons c t =>
    refine ⟨hit_of (Or.inl ⟨rfl, hu c (by simp)⟩) ?_, by decide, hs, ?_⟩
    · show 0 < sz 1 (c :: t ++ 46 :: v ++ r); rw [hs]; simp
    · intro e; exact dig_head (hu c (by simp)) (Option.some.inj e)
theorem quo_dbl : ∀ (t : List UInt8) (i : Nat) (r : List UInt8), (¬ r.head? = some 34) → quo true i (dbl t ++ 34 :: r) = i + (dbl t).length + 1
  | [], i, r, h => by
    show quo true i (34 :: r) = _
    rw [quo_hit]
    show quo false (i + 1) r = _
    cases r with
    | nil => rfl
    | cons c t => rw [quo_out (fun e => h (by rw [e]; rfl))]; rfl
  | c :: t, i, r, h => by
    by_cases hc : c = 34
    · subst hc
      rw [dbl_quote, List.cons_append, List.cons_append, quo_hit, quo_hit]
      show quo true (i + 1 + 1) _ = _
      rw [quo_dbl t (i + 1 + 1) r h]
      simp only [List.length_cons]; omega
    · rw [dbl_other hc, List.cons_append, quo_in hc, quo_dbl t (i + 1) r h]
      simp only [List.length_cons]; omega
theorem undbl_dbl : ∀ (t : List UInt8), undbl (dbl t) = t
  | [] => rfl
  | c :: t => by
    by_cases hc : c = 34
    · subst hc; rw [dbl_quote, undbl_two, undbl_dbl t]
    · rw [dbl_other hc, undbl_other hc, undbl_dbl t]
theorem at_text (t : List UInt8) {r : List UInt8} (hr : Aft r) : At 2 (34 :: (dbl t ++ [34])) r := by
  have hs : sz 2 (34 :: (dbl t ++ [34]) ++ r) = (34 :: (dbl t ++ [34])).length := by
    rw [sz2, List.cons_append, List.append_assoc]
    show quo true 1 (dbl t ++ 34 :: r) = _
    rw [quo_dbl t 1 r (fun e => (hr.no 34 e).2.2.1 rfl)]
    simp only [List.length_cons, List.length_append, List.length_nil]; omega
  refine ⟨hit_of (Or.inr (Or.inl ⟨rfl, rfl⟩)) ?_, by decide, hs, by simp⟩
  show 0 < sz 2 (34 :: (dbl t ++ [34]) ++ r)
  rw [hs]; simp
theorem said_text (t : List UInt8) : said 2 (34 :: (dbl t ++ [34])) = t := by
  unfold said
  rw [if_pos rfl]
  have e2 : (((34 :: (dbl t ++ [34])).drop 1).take ((34 :: (dbl t ++ [34])).length - 2)) = dbl t := by
    have : (34 :: (dbl t ++ [34])).length - 2 = (dbl t).length := by simp
    rw [this]
    exact List.take_left
  rw [e2, undbl_dbl]
theorem said_other {k : Nat} (h : ¬ k = 2) (u : List UInt8) : said k u = u := by unfold said; rw [if_neg h]
theorem dbl_prt {t : List UInt8} (h : ∀ c ∈ t, prt c = true) : ∀ c ∈ 34 :: (dbl t ++ [34]), prt c = true := by
  have g : ∀ (t : List UInt8), (∀ c ∈ t, prt c = true) → ∀ c ∈ dbl t, prt c = true := by
    intro t
    induction t with
    | nil => intro _ c hc; cases hc
    | cons x y ih =>
      intro h c hc
      by_cases hx : x = 34
      · subst hx
        rw [dbl_quote] at hc
        rcases List.mem_cons.1 hc with rfl | hc
        · decide
        · rcases List.mem_cons.1 hc with rfl | hc
          · decide
          · exact ih (fun c hc => h c (by simp [hc])) c hc
      · rw [dbl_other hx] at hc
        rcases List.mem_cons.1 hc with rfl | hc
        · exact h c (by simp)
        · exact ih (fun c hc => h c (by simp [hc])) c hc
  intro c hc
  rcases List.mem_cons.1 hc with rfl | hc
  · decide
  · rcases List.mem_append.1 hc with hc | hc
    · exact g t h c hc
    · simp only [List.mem_singleton] at hc; subst hc; decide
theorem nameSz_of {u r : List UInt8} : ∀ (ms : List (List UInt8)), u ∈ ms → (∀ n ∈ ms, begins n (u ++ r) = true → n = u) → nameSz (u ++ r) ms = u.length
  | [], h, _ => by cases h
  | n :: ms, h, hg => by
    unfold nameSz
    cases hb : begins n (u ++ r) with
    | true => rw [if_pos rfl, hg n (by simp) hb]
    | false =>
      rw [if_neg (by decide)]
      rcases List.mem_cons.1 h with rfl | h
      · rw [(begins_iff _ _).2 ⟨r, rfl⟩] at hb; cases hb
      · exact nameSz_of ms h (fun m hm => hg m (by simp [hm]))
theorem begins_split {n u r : List UInt8} (h : begins n (u ++ r) = true) : begins n u = true ∨ ∃ x y, n = u ++ x :: y ∧ r.head? = some x := by
  obtain ⟨s, hs⟩ := (begins_iff _ _).1 h
  by_cases hl : n.length ≤ u.length
  · left
    refine (begins_iff _ _).2 ⟨u.drop n.length, ?_⟩
    have e1 := congrArg (List.take n.length) hs
    rw [List.take_append_of_le_length hl, List.take_left] at e1
    conv => lhs; rw [← List.take_append_drop n.length u, e1]
  · right
    have hu : n = u ++ n.drop u.length := by
      have e1 := congrArg (List.take u.length) hs
      rw [List.take_left, List.take_append_of_le_length (by omega)] at e1
      conv => lhs; rw [← List.take_append_drop u.length n, ← e1]
    cases hd : n.drop u.length with
    | nil =>
      have := congrArg List.length hd
      simp only [List.length_drop, List.length_nil] at this
      omega
    | cons x y =>
      rw [hd] at hu
      refine ⟨x, y, hu, ?_⟩
      rw [hu, List.append_assoc] at hs
      rw [List.append_cancel_left hs]; rfl
theorem faults_one : ∀ u ∈ faults, ∀ n ∈ faults, (begins n u = true → n = u) ∧ (begins u n = true → n = u) := by decide
theorem at_fault {u r : List UInt8} (h : u ∈ faults) : At 4 u r := by
  have hs : sz 4 (u ++ r) = u.length := by
    rw [sz4]
    refine nameSz_of faults h (fun n hn hb => ?_)
    rcases begins_split hb with hb | ⟨x, y, e, -⟩
    · exact (faults_one u h n hn).1 hb
    · exact (faults_one u h n hn).2 ((begins_iff _ _).2 ⟨_, e⟩)
  have g : ∀ u ∈ faults, u.head? = some 35 := by decide
  have hh := g u h
  cases u with
  | nil => cases hh
  | cons c t =>
    obtain rfl := Option.some.inj hh
    refine ⟨hit_of (Or.inr (Or.inr (Or.inr (Or.inl ⟨rfl, rfl⟩)))) ?_, by decide, hs, by simp⟩
    show 0 < sz 4 (35 :: t ++ r)
    rw [hs]; simp
theorem marks_one : ∀ u ∈ marks, ∀ n ∈ marks, (begins n u = true → n = u ∨ u.length = 2) ∧ (∀ x ∈ n.drop 1, x = 61 ∨ x = 62) := by decide
theorem at_mark {u r : List UInt8} (h : u ∈ marks) (hr : ∀ c, r.head? = some c → ¬ c = 61 ∧ ¬ c = 62) : At 5 u r := by
  have h0 : ∀ u ∈ marks, 0 < u.length ∧ u.length ≤ 2 := by decide
  have hs : sz 5 (u ++ r) = u.length := by
    rw [sz5]
    by_cases h2 : u.length = 2
    · have g : ∀ u ∈ marks, u.length = 2 → u = [60, 62] ∨ u = [60, 61] ∨ u = [62, 61] := by decide
      rcases g u h h2 with rfl | rfl | rfl <;> simp [marks, nameSz, begins]
    · refine nameSz_of marks h (fun n hn hb => ?_)
      rcases begins_split hb with hb | ⟨x, y, e, hx⟩
      · exact ((marks_one u h n hn).1 hb).resolve_right h2
      · exfalso
        have hx1 := (marks_one u h n hn).2 x (by
          rw [e]
          have := (h0 u h).1
          rw [List.drop_append_of_le_length (by omega)]
          simp)
        have := hr x hx
        rcases hx1 with e | e
        · exact this.1 e
        · exact this.2 e
  cases u with
  | nil => exact absurd (h0 [] h).1 (by decide)
  | cons c t =>
    have hm : mk c = true := by unfold mk; exact List.any_eq_true.2 ⟨c :: t, h, by simp⟩
    refine ⟨hit_of (Or.inr (Or.inr (Or.inr (Or.inr ⟨rfl, hm⟩)))) ?_, by decide, hs, ?_⟩
    · show 0 < sz 5 (c :: t ++ r); rw [hs]; simp
    · intro e
      obtain rfl := Option.some.inj e
      exact absurd hm (by decide)
theorem marks_still : ∀ u ∈ marks, ¬ u = [60] → ¬ u = [62] → ∀ n ∈ marks, (begins u n = true → n = u) := by decide
theorem at_still {u r : List UInt8} (h : u ∈ marks) (h1 : ¬ u = [60]) (h2 : ¬ u = [62]) : At 5 u r := by
  have h0 : ∀ u ∈ marks, 0 < u.length ∧ u.length ≤ 2 := by decide
  have hs : sz 5 (u ++ r) = u.length := by
    rw [sz5]
    by_cases h2 : u.length = 2
    · have g : ∀ u ∈ marks, u.length = 2 → u = [60, 62] ∨ u = [60, 61] ∨ u = [62, 61] := by decide
      rcases g u h h2 with rfl | rfl | rfl <;> simp [marks, nameSz, begins]
    · refine nameSz_of marks h (fun n hn hb => ?_)
      rcases begins_split hb with hb | ⟨x, y, e, hx⟩
      · exact ((marks_one u h n hn).1 hb).resolve_right h2
      · exact marks_still u h h1 (by assumption) n hn ((begins_iff _ _).2 ⟨_, e⟩)
  cases u with
  | nil => exact absurd (h0 [] h).1 (by decide)
  | cons c t =>
    have hm : mk c = true := by unfold mk; exact List.any_eq_true.2 ⟨c :: t, h, by simp⟩
    refine ⟨hit_of (Or.inr (Or.inr (Or.inr (Or.inr ⟨rfl, hm⟩)))) ?_, by decide, hs, ?_⟩
    · show 0 < sz 5 (c :: t ++ r); rw [hs]; simp
    · intro e
      obtain rfl := Option.some.inj e
      exact absurd hm (by decide)
theorem mark_prt : ∀ u ∈ marks, ¬ runP prt u < u.length := by decide
theorem fault_prt : ∀ u ∈ faults, ¬ runP prt u < u.length := by decide
theorem full_prt {u : List UInt8} (h : ∀ c ∈ u, prt c = true) : ¬ runP prt u < u.length := by rw [runP_full u h]; omega
def kx (t : Tok) : Nat × List UInt8 := (t.k, t.t)
def Wr (u : List UInt8) (T : List (Nat × List UInt8)) : Prop := ∀ (p : Nat) (r : List UInt8) (ts2 : List Tok), Aft r → Ok (p + u.length) r ts2 → ∃ ts, Ok p (u ++ r) (ts ++ ts2) ∧ ts.map kx = T
def Hdk (u : List UInt8) : Prop := ∃ c t, u = c :: t ∧ ¬ c = 61 ∧ ¬ c = 62
theorem Wr.one {k : Nat} {u : List UInt8} (ha : ∀ r, Aft r → At k u r) (hp : ∀ c ∈ u, prt c = true) : Wr u [(k, said k u)] := by
  intro p r ts2 hr h
  exact ⟨[⟨k, said k u, p⟩], Ok.tok (ha r hr) (full_prt hp) h, rfl⟩
theorem Wr.pre {k : Nat} {m u : List UInt8} {T : List (Nat × List UInt8)} (ha : ∀ r, At k m (u ++ r)) (hp : ¬ runP prt m < m.length) (h : Wr u T) : Wr (m ++ u) ((k, said k m) :: T) := by
  intro p r ts2 hr h2
  obtain ⟨ts, h3, h4⟩ := h (p + m.length) r ts2 hr (by rw [List.length_append] at h2; rw [Nat.add_assoc]; exact h2)
  refine ⟨⟨k, said k m, p⟩ :: ts, ?_, by rw [List.map_cons, h4]; rfl⟩
  rw [List.append_assoc]
  exact Ok.tok (ha r) hp h3
theorem Wr.app {u v : List UInt8} {T S : List (Nat × List UInt8)} (h : Wr u T) (hv : Wr v S) (h0 : v ≠ []) (ha : Aft v) : Wr (u ++ v) (T ++ S) := by
  intro p r ts2 hr h2
  obtain ⟨ss, h3, h4⟩ := hv (p + u.length) r ts2 hr (by rw [List.length_append] at h2; rw [Nat.add_assoc]; exact h2)
  obtain ⟨ts, h5, h6⟩ := h p (v ++ r) (ss ++ ts2) (ha.app h0) h3
  refine ⟨ts ++ ss, ?_, by rw [List.map_append, h4, h6]⟩
  rw [List.append_assoc, List.append_assoc]
  exact h5
theorem mark_aft {m : List UInt8} (h : m ∈ marks) (r : List UInt8) : Aft (m ++ r) := by
  have h0 : ∀ u ∈ marks, 0 < u.length := by decide
  cases m with
  | nil => exact absurd (h0 [] h) (by decide)
  | cons c t => exact Aft.cons (by unfold mk; exact List.any_eq_true.2 ⟨c :: t, h, by simp⟩)
theorem said_mark {m : List UInt8} : said 5 m = m := said_other (by decide) m
theorem Wr.mark {m u : List UInt8} {T : List (Nat × List UInt8)} (hm : m ∈ marks) (hu : Hdk u) (h : Wr u T) : Wr (m ++ u) ((5, m) :: T) := by
  have := Wr.pre (k := 5) (fun r => at_mark hm (fun c hc => by
    obtain ⟨d, t, rfl, h1, h2⟩ := hu
    obtain rfl := Option.some.inj hc
    exact ⟨h1, h2⟩)) (mark_prt m hm) h
  rw [said_mark] at this
  exact this
theorem Wr.still {m : List UInt8} (hm : m ∈ marks) (h1 : ¬ m = [60]) (h2 : ¬ m = [62]) : Wr m [(5, m)] := by
  have := Wr.one (k := 5) (u := m) (fun r _ => at_still hm h1 h2) (runP_mem m (mark_prt m hm))
  rw [said_mark] at this
  exact this
theorem Wr.brack {u : List UInt8} {T : List (Nat × List UInt8)} (h : Wr u T) : Wr (40 :: (u ++ [41])) ((5, [40]) :: (T ++ [(5, [41])])) := by
  have h1 := h.app (Wr.still (m := [41]) (by decide) (by decide) (by decide)) (by decide) (Aft.cons (by decide))
  have := Wr.pre (k := 5) (m := [40]) (fun r => at_still (by decide) (by decide) (by decide)) (by decide) h1
  exact this
end Wlx
