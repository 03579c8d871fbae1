/- LPlainF, LPlainG. -/
import Derived.Test.YtjkchneffcppmaaGreatDoorQ42
/- What follows of it: there and back, blanks, what is covered, where it is refused. -/
namespace Wlx

theorem undbl_other {c : UInt8} (h : ¬ c = 34) (m : List UInt8) : undbl (c :: m) = c :: undbl m := by
  cases m with
  | nil => rfl
  | cons d t =>
    conv => lhs; unfold undbl
    rw [if_neg (fun e => h e.1)]
theorem undbl_two (m : List UInt8) : undbl (34 :: 34 :: m) = 34 :: undbl m := by
  conv => lhs; unfold undbl
  rw [if_pos ⟨rfl, rfl⟩]
theorem dbl_other {c : UInt8} (h : ¬ c = 34) (m : List UInt8) : dbl (c :: m) = c :: dbl m := by
  show (if c = 34 then 34 :: 34 :: dbl m else c :: dbl m) = _
  rw [if_neg h]
theorem dbl_quote (m : List UInt8) : dbl (34 :: m) = 34 :: 34 :: dbl m := rfl
/-- A text's bytes behind its first quote. -/
theorem text_form : ∀ (n : Nat) (a : List UInt8) (i : Nat) (r : List UInt8), a.length ≤ n → 1 ≤ i → quo true i (a ++ r) = i + a.length → ∃ mid, a = mid ++ [34] ∧ dbl (undbl mid) = mid := by
  intro n
  induction n with
  | zero =>
    intro a i r hl hi h
    obtain rfl := List.eq_nil_of_length_eq_zero (Nat.le_zero.1 hl)
    have := (quo_stop hi h).1
    cases this
  | succ n ih =>
    intro a i r hl hi h
    cases a with
    | nil => have := (quo_stop hi h).1; cases this
    | cons c a =>
      simp only [List.length_cons] at hl h
      rw [List.cons_append] at h
      by_cases hc : c = 34
      · subst hc
        rw [quo_hit] at h
        cases a with
        | nil => exact ⟨[], rfl, rfl⟩
        | cons d a =>
          simp only [List.length_cons] at hl h
          rw [List.cons_append] at h
          by_cases hd : d = 34
          · subst hd
            rw [quo_hit] at h
            obtain ⟨mid, rfl, hm⟩ := ih a (i + 1 + 1) r (by omega) (by omega) (by have : (!!true) = true := rfl; rw [this] at h; omega)
            exact ⟨34 :: 34 :: mid, rfl, by rw [undbl_two, dbl_quote, hm]⟩
          · rw [show (!true) = false from rfl, quo_out hd] at h; omega
      · rw [quo_in hc] at h
        obtain ⟨mid, rfl, hm⟩ := ih a (i + 1) r (by omega) (by omega) (by omega)
        exact ⟨c :: mid, rfl, by rw [undbl_other hc, dbl_other hc, hm]⟩
/-- A token is written as it stood. -/
theorem At.writ {k : Nat} {u r : List UInt8} (h : At k u r) : writ k (said k u) = u := by
  by_cases hk : k = 2
  · subst hk
    obtain ⟨c, t, rfl⟩ := h.cons
    have hn : txtSz (c :: (t ++ r)) = (c :: t).length := h.hn
    have hc : c = 34 := txtSz_pos (by rw [hn]; exact h.pos)
    subst hc
    have e : txtSz (34 :: (t ++ r)) = quo true 1 (t ++ r) := rfl
    rw [e] at hn
    simp only [List.length_cons] at hn
    obtain ⟨mid, rfl, hm⟩ := text_form _ t 1 r (Nat.le_refl _) (Nat.le_refl _) (by omega)
    unfold Wlx.writ said
    rw [if_pos rfl, if_pos rfl]
    have e2 : (((34 :: (mid ++ [34])).drop 1).take ((34 :: (mid ++ [34])).length - 2)) = mid := by
      have : (34 :: (mid ++ [34])).length - 2 = mid.length := by simp
      rw [this]
      exact List.take_left
    rw [e2, hm]
  · unfold Wlx.writ said
    rw [if_neg hk, if_neg hk]

/-- Tokens written, with a blank ahead of each but the first. -/
def joinT : Bool → List Tok → List UInt8
  | _, [] => []
  | f, t :: r => (if f then [] else [32]) ++ writ t.k t.t ++ joinT false r
theorem joinT_nx (k : Nat) (r' : List UInt8) (ts : List Tok) : Nx k r' (joinT false ts) := by
  cases ts with
  | nil => exact ⟨Or.inr (Or.inl rfl), fun _ h => by cases h⟩
  | cons t r => exact ⟨Or.inr (Or.inr (Or.inl rfl)), fun _ h => absurd (Option.some.inj h) (by decide)⟩
/-- What is written of tokens is scanned as them. -/
theorem Ok.back {p : Nat} {l : List UInt8} {ts : List Tok} (h : Ok p l ts) : ∀ (q : Nat) (f : Bool), ∃ ts', Ok q (joinT f ts) ts' ∧ ts'.map (fun t => (t.k, t.t)) = ts.map (fun t => (t.k, t.t)) := by
  induction h using Ok.ind with
  | nil p => intro q f; exact ⟨[], Ok.nil q, rfl⟩
  | blank h ih => exact ih
  | @tok p k u r ts ha hp h ih =>
    intro q f
    have hw : ∀ q, ∃ ts', Ok q (u ++ joinT false ts) ts' ∧ ts'.map (fun t => (t.k, t.t)) = (⟨k, said k u, p⟩ :: ts : List Tok).map (fun t => (t.k, t.t)) := by
      intro q
      obtain ⟨ts', h1, h2⟩ := ih (q + u.length) false
      exact ⟨⟨k, said k u, q⟩ :: ts', Ok.tok (ha.ctx (joinT_nx k r ts)) hp h1, by simp [h2]⟩
    have e : joinT f (⟨k, said k u, p⟩ :: ts) = (if f then [] else [32]) ++ u ++ joinT false ts := by
      show (if f then [] else [32]) ++ Wlx.writ k (said k u) ++ joinT false ts = _
      rw [ha.writ]
    rw [e]
    cases f with
    | true => exact hw q
    | false =>
      obtain ⟨ts', h1, h2⟩ := hw (q + 1)
      exact ⟨ts', Ok.blank h1, h2⟩

def shift (b : Nat) (t : Tok) : Tok := ⟨t.k, t.t, t.p + b⟩
theorem Ok.shift {p : Nat} {l : List UInt8} {ts : List Tok} (h : Ok p l ts) (b : Nat) : Ok (p + b) l (ts.map (shift b)) := by
  induction h using Ok.ind with
  | nil p => exact Ok.nil _
  | blank h ih => exact Ok.blank (by rw [Nat.add_right_comm]; exact ih)
  | tok ha hp h ih => exact Ok.tok ha hp (by rw [Nat.add_right_comm]; exact ih)
theorem Ok.blanks {l : List UInt8} {ts : List Tok} : ∀ (b p : Nat), Ok (p + b) l ts → Ok p (List.replicate b 32 ++ l) ts
  | 0, p, h => h
  | b + 1, p, h => by
    rw [List.replicate_succ, List.cons_append]
    exact Ok.blank (Ok.blanks b (p + 1) (by rw [Nat.add_right_comm, Nat.add_assoc]; exact h))
/-- Where the i-th token of l stands, or l ends. -/
def place (p : Nat) (l : List UInt8) (ts : List Tok) (i : Nat) : Nat := if h : i < ts.length then (ts[i]).p - p else l.length
/-- Blanks ahead of the i-th token. -/
theorem Ok.put {p : Nat} {l : List UInt8} {ts : List Tok} (h : Ok p l ts) (b : Nat) (hb : 0 < b) : ∀ i, i ≤ ts.length → Ok p (l.take (place p l ts i) ++ (List.replicate b 32 ++ l.drop (place p l ts i))) (ts.take i ++ (ts.drop i).map (Wlx.shift b)) := by
  induction h using Ok.ind with
  | nil p =>
    intro i hi
    have e : place p [] [] i = 0 := by unfold place; rw [dif_neg (by simp)]; rfl
    rw [e]
    have := Ok.blanks b p (Ok.nil (p + b))
    simpa using this
  | @blank p t ts h ih =>
    intro i hi
    have e : place p (32 :: t) ts i = place (p + 1) t ts i + 1 := by
      unfold place
      by_cases hl : i < ts.length
      · rw [dif_pos hl, dif_pos hl]
        have := (h.count.2 (ts[i]) (List.getElem_mem hl)).1
        omega
      · rw [dif_neg hl, dif_neg hl]; rfl
    rw [e]
    exact Ok.blank (ih i hi)
  | @tok p k u r ts ha hp h ih =>
    intro i hi
    cases i with
    | zero =>
      have e : place p (u ++ r) (⟨k, said k u, p⟩ :: ts) 0 = 0 := by unfold place; rw [dif_pos (by simp)]; exact Nat.sub_self p
      rw [e]
      exact Ok.blanks b p ((Ok.tok ha hp h).shift b)
    | succ i =>
      simp only [List.length_cons] at hi
      have e : place p (u ++ r) (⟨k, said k u, p⟩ :: ts) (i + 1) = u.length + place (p + u.length) r ts i := by
        unfold place
        by_cases hl : i < ts.length
        · rw [dif_pos hl, dif_pos (by simpa using hl), List.getElem_cons_succ]
          have := (h.count.2 (ts[i]) (List.getElem_mem hl)).1
          omega
        · rw [dif_neg hl, dif_neg (by simpa using hl), List.length_append]
      have hi2 := ih i (by omega)
      generalize place (p + u.length) r ts i = A at e hi2
      rw [e, List.take_append, List.drop_append, Nat.add_sub_cancel_left, List.take_of_length_le (by omega), List.drop_eq_nil_of_le (by omega), List.nil_append, List.append_assoc]
      have hx : Nx k r (r.take A ++ (List.replicate b 32 ++ r.drop A)) := by
        obtain ⟨b', rfl⟩ : ∃ b', b = b' + 1 := ⟨b - 1, by omega⟩
        cases r with
        | nil => exact ⟨Or.inr (Or.inr (Or.inl (by simp [List.replicate_succ]))), fun _ h => by simp [List.replicate_succ] at h⟩
        | cons x y =>
          cases A with
          | zero => exact ⟨Or.inr (Or.inr (Or.inl (by simp [List.replicate_succ]))), fun _ h => by simp [List.replicate_succ] at h⟩
          | succ A => exact ⟨Or.inl rfl, fun _ h2 => h.head h2⟩
      exact Ok.tok (ha.ctx hx) hp hi2
/-- The next token. -/
theorem Ok.next {p : Nat} {l : List UInt8} {t : Tok} {ts : List Tok} (h : Ok p l (t :: ts)) : ∃ (b : Nat) (u r : List UInt8), l = List.replicate b 32 ++ (u ++ r) ∧ t = ⟨t.k, said t.k u, p + b⟩ ∧ At t.k u r ∧ Ok (p + b + u.length) r ts := by
  generalize hx : t :: ts = xs at h
  induction h using Ok.ind with
  | nil p => cases hx
  | blank h ih =>
    obtain ⟨b, u, r, rfl, h2, h3, h4⟩ := ih hx
    refine ⟨b + 1, u, r, rfl, ?_, h3, ?_⟩
    · rw [show ∀ p : Nat, p + (b + 1) = p + 1 + b by intro p; omega]; exact h2
    · rw [show ∀ p : Nat, p + (b + 1) + u.length = p + 1 + b + u.length by intro p; omega]; exact h4
  | tok ha hp h ih =>
    cases hx
    exact ⟨0, _, _, rfl, rfl, ha, h⟩
/-- A text that is cut ahead of a byte of its own has no end. -/
theorem quo_cut : ∀ (x : List UInt8) (w : Bool) (i : Nat) (c : UInt8) (y : List UInt8), ¬ c = 34 → i + x.length < quo w i (x ++ c :: y) → quo w i x = 0
  | [], w, i, c, y, hc, h => by
    cases w with
    | true => rfl
    | false => rw [List.nil_append, quo_out hc] at h; simp at h
  | d :: x, w, i, c, y, hc, h => by
    rw [List.cons_append, List.length_cons] at h
    by_cases hd : d = 34
    · subst hd
      rw [quo_hit] at h ⊢
      exact quo_cut x (!w) (i + 1) c y hc (by omega)
    · cases w with
      | true => rw [quo_in hd] at h ⊢; exact quo_cut x true (i + 1) c y hc (by omega)
      | false => rw [quo_out hd] at h; omega
theorem prt_wrd : ∀ c : UInt8, (wrd c = true → prt c = true) ∧ (dig c = true → prt c = true) ∧ prt 34 = true ∧ prt 46 = true := by
  intro c
  have key : ∀ n : Fin 256, (wrd (UInt8.ofNat n) = true → prt (UInt8.ofNat n) = true) ∧ (dig (UInt8.ofNat n) = true → prt (UInt8.ofNat n) = true) ∧ prt 34 = true ∧ prt 46 = true := by decide +kernel
  have := key ⟨c.toNat, c.toNat_lt⟩
  simpa using this
theorem runP_full {p : UInt8 → Bool} : ∀ (u : List UInt8), (∀ c ∈ u, p c = true) → runP p u = u.length
  | [], _ => rfl
  | c :: t, h => by rw [runP_pos (h c (by simp)), runP_full t (fun x hx => h x (by simp [hx]))]; rfl
theorem runP_mem {p : UInt8 → Bool} : ∀ (u : List UInt8), ¬ runP p u < u.length → ∀ c ∈ u, p c = true
  | [], _, c, hc => by cases hc
  | d :: t, h, c, hc => by
    cases hd : p d with
    | false => rw [runP_neg hd] at h; simp at h
    | true =>
      rw [runP_pos hd] at h
      simp only [List.length_cons] at h
      rcases List.mem_cons.1 hc with rfl | hc
      · exact hd
      · exact runP_mem t (by omega) c hc
/-- A byte that may not be stands in a text alone. -/
theorem bad_text {k : Nat} {u r : List UInt8} (ha : At k u r) (hp : runP prt u < u.length) : k = 2 := by
  have h0 := ha.pos
  have hn := ha.hn
  have h1 := hit_low (u ++ r)
  have h2 := hit_high (u ++ r)
  rw [ha.hk] at h1 h2
  have h6 := ha.h6
  have : k = 1 ∨ k = 2 ∨ k = 3 ∨ k = 4 ∨ k = 5 := by omega
  rcases this with rfl | rfl | rfl | rfl | rfl
  · exfalso
    have hn : numSz (u ++ r) = u.length := hn
    have hall : ∀ c ∈ u, prt c = true := by
      unfold numSz at hn
      by_cases hz : runP dig (u ++ r) = 0
      · rw [if_pos hz] at hn; omega
      · rw [if_neg hz, runP_app] at hn
        by_cases hd : runP dig u < u.length
        · rw [if_pos hd, List.drop_append_of_le_length (by omega)] at hn
          have hu : u = u.take (runP dig u) ++ u.drop (runP dig u) := (List.take_append_drop _ _).symm
          have htk : ∀ (l : List UInt8), ∀ c ∈ l.take (runP dig l), dig c = true := by
            intro l
            induction l with
            | nil => intro c hc; simp [runP] at hc
            | cons a b ih =>
              intro c hc
              cases hda : dig a with
              | false => rw [runP_neg hda] at hc; simp at hc
              | true =>
                rw [runP_pos hda, List.take_succ_cons] at hc
                rcases List.mem_cons.1 hc with rfl | hc
                · exact hda
                · exact ih c hc
          cases hdd : u.drop (runP dig u) with
          | nil =>
            have := congrArg List.length hdd
            simp only [List.length_drop, List.length_nil] at this
            omega
          | cons x y =>
            have hy : runP dig u + 1 + y.length = u.length := by
              have := congrArg List.length hdd
              simp only [List.length_drop, List.length_cons] at this
              omega
            rw [hdd, List.cons_append, numTl_cons] at hn
            by_cases hc : x = 46 ∧ 0 < runP dig (y ++ r)
            · rw [if_pos hc] at hn
              have e : runP dig (y ++ r) = y.length := by omega
              rw [runP_app] at e
              have hyl := runP_le dig y
              have hb : ¬ runP dig y < y.length := fun hb => by rw [if_pos hb] at e; omega
              intro c hc2
              rw [hu, hdd] at hc2
              rcases List.mem_append.1 hc2 with h | h
              · exact (prt_wrd c).2.1 (htk u c h)
              · rcases List.mem_cons.1 h with rfl | h
                · rw [hc.1]; decide
                · exact (prt_wrd c).2.1 (runP_mem y hb c h)
            · rw [if_neg hc] at hn; omega
        · exact fun c hc => (prt_wrd c).2.1 (runP_mem u hd c hc)
    rw [runP_full u hall] at hp; omega
  · rfl
  · exfalso
    have hn : runP wrd (u ++ r) = u.length := hn
    rw [runP_app] at hn
    have hd : ¬ runP wrd u < u.length := fun hd => by rw [if_pos hd] at hn; omega
    rw [runP_full u (fun c hc => (prt_wrd c).1 (runP_mem u hd c hc))] at hp; omega
  · exfalso
    have := name_mem h0 faults hn
    have g : ∀ n ∈ faults, runP prt n = n.length := by decide
    rw [g u this] at hp; omega
  · exfalso
    have := name_mem h0 marks hn
    have g : ∀ n ∈ marks, runP prt n = n.length := by decide
    rw [g u this] at hp; omega
theorem runP_at {p : UInt8 → Bool} : ∀ (u : List UInt8), runP p u < u.length → ∃ c y, u = u.take (runP p u) ++ c :: y ∧ p c = false
  | [], h => by simp at h
  | d :: t, h => by
    cases hd : p d with
    | false => rw [runP_neg hd]; exact ⟨d, t, rfl, hd⟩
    | true =>
      rw [runP_pos hd] at h ⊢
      simp only [List.length_cons] at h
      obtain ⟨c, y, h1, h2⟩ := runP_at (p := p) t (by omega)
      refine ⟨c, y, ?_, h2⟩
      rw [List.take_succ_cons, List.cons_append, ← h1]
/-- Where it is refused, and what stands ahead of that. -/
theorem Er.cut {p : Nat} {l : List UInt8} {c q : Nat} (h : Er p l c q) : p ≤ q ∧ q < p + l.length ∧ (c = 40 ∨ c = 41) ∧ (c = 40 → (∃ ts, Ok p (l.take (q - p)) ts) ∨ ∃ q', Er p (l.take (q - p)) 41 q') := by
  induction h using Er.ind with
  | @blank p t c q h ih =>
    obtain ⟨h1, h2, h3, h4⟩ := ih
    refine ⟨by omega, by simp only [List.length_cons]; omega, h3, fun hc => ?_⟩
    have e : q - p = (q - (p + 1)) + 1 := by omega
    rw [e, List.take_succ_cons]
    rcases h4 hc with ⟨ts, h⟩ | ⟨q', h⟩
    · exact Or.inl ⟨ts, Ok.blank h⟩
    · exact Or.inr ⟨q', Er.blank h⟩
  | @none p c t h h6 =>
    refine ⟨Nat.le_refl _, by simp, by split <;> simp, fun _ => Or.inl ⟨[], ?_⟩⟩
    rw [Nat.sub_self]
    exact Ok.nil p
  | @bad p k u r ha hp =>
    refine ⟨by omega, by rw [List.length_append]; omega, Or.inl rfl, fun _ => Or.inr ⟨p, ?_⟩⟩
    obtain rfl := bad_text ha hp
    obtain ⟨d, t, rfl⟩ := ha.cons
    have hn : txtSz (d :: (t ++ r)) = (d :: t).length := ha.hn
    have hd : d = 34 := txtSz_pos (by rw [hn]; exact ha.pos)
    subst hd
    have e : txtSz (34 :: (t ++ r)) = quo true 1 (t ++ r) := rfl
    rw [e] at hn
    rw [runP_pos (by decide)] at hp ⊢
    simp only [List.length_cons] at hp hn
    obtain ⟨c, y, h1, h2⟩ := runP_at (p := prt) t (by omega)
    have hc : ¬ c = 34 := fun e => by rw [e] at h2; exact absurd h2 (by decide)
    rw [Nat.add_sub_cancel_left, List.cons_append, List.take_succ_cons, List.take_append_of_le_length (by omega)]
    have hl : (t.take (runP prt t)).length = runP prt t := by rw [List.length_take]; omega
    have hz : quo true 1 (t.take (runP prt t)) = 0 := by
      refine quo_cut _ true 1 c (y ++ r) hc ?_
      have e3 : t.take (runP prt t) ++ c :: (y ++ r) = t ++ r := by
        conv => rhs; rw [h1]
        rw [List.append_assoc]; rfl
      rw [e3, hn, hl]
      omega
    have h6 : hit (34 :: t.take (runP prt t)) = 6 := by
      refine hit_none fun j a b => ?_
      have : j = 1 ∨ j = 2 ∨ j = 3 ∨ j = 4 ∨ j = 5 := by omega
      rcases this with rfl | rfl | rfl | rfl | rfl
      · have : ¬ 0 < numSz (34 :: t.take (runP prt t)) := fun h => absurd (numSz_pos.1 h) (by decide)
        rw [sz1]; omega
      · exact hz
      · have : ¬ 0 < runP wrd (34 :: t.take (runP prt t)) := fun h => absurd (wrdSz_pos.1 h) (by decide)
        rw [sz3]; omega
      · have : ¬ 0 < nameSz (34 :: t.take (runP prt t)) faults := fun h => absurd (faultSz_pos h) (by decide)
        rw [sz4]; omega
      · have : ¬ 0 < nameSz (34 :: t.take (runP prt t)) marks := fun h => absurd (markSz_pos h) (by decide)
        rw [sz5]; omega
    have := Er.none (p := p) (c := 34) (t := t.take (runP prt t)) (by decide) h6
    rw [if_pos rfl] at this
    exact this
  | @tok p k u r c q ha hp h ih =>
    obtain ⟨h1, h2, h3, h4⟩ := ih
    refine ⟨by omega, by rw [List.length_append]; omega, h3, fun hc => ?_⟩
    have e : q - p = u.length + (q - (p + u.length)) := by omega
    have e2 : (u ++ r).take (q - p) = u ++ r.take (q - (p + u.length)) := by
      rw [e, List.take_append, Nat.add_sub_cancel_left, List.take_of_length_le (by omega)]
    have hx : Nx k r (r.take (q - (p + u.length))) := by
      by_cases hz : q - (p + u.length) = 0
      · rw [hz]; exact ⟨Or.inr (Or.inl rfl), fun _ h => by cases h⟩
      · obtain ⟨m, hm⟩ : ∃ m, q - (p + u.length) = m + 1 := ⟨q - (p + u.length) - 1, by omega⟩
        rw [hm]
        cases r with
        | nil => exact ⟨Or.inl rfl, fun _ h => by cases h⟩
        | cons x y =>
          refine ⟨Or.inl rfl, fun _ hh => ?_⟩
          obtain rfl : x = 46 := Option.some.inj hh
          have e1 := h.scan
          rw [scan_none (by decide) (hit_point y)] at e1
          have := (err_inj e1).2
          omega
    rw [e2]
    rcases h4 hc with ⟨ts, h⟩ | ⟨q', h⟩
    · exact Or.inl ⟨_, Ok.tok (ha.ctx hx) hp h⟩
    · exact Or.inr ⟨q', Er.tok (ha.ctx hx) hp h⟩
end Wlx
/- Tokens of two texts, one behind the other. -/
namespace Wlx

/-- What stands behind begins with a bracket or a comma: the tokens of both. -/
theorem Ok.app {p : Nat} {l : List UInt8} {ts : List Tok} (h : Ok p l ts) {d : UInt8} (hd : d = 40 ∨ d = 41 ∨ d = 44) {r : List UInt8} : ∀ {ts2 : List Tok}, Ok (p + l.length) (d :: r) ts2 → Ok p (l ++ d :: r) (ts ++ ts2) := by
  induction h using Ok.ind with
  | nil p => intro ts2 h2; exact h2
  | @blank p t ts h ih =>
    intro ts2 h2
    refine Ok.blank (ih ?_)
    rw [show p + 1 + t.length = p + (32 :: t).length by simp only [List.length_cons]; omega]
    exact h2
  | @tok p k u r0 ts ha hp h ih =>
    intro ts2 h2
    rw [List.append_assoc]
    have hx : Nx k r0 (r0 ++ d :: r) := by
      cases r0 with
      | nil => exact ⟨Or.inr (Or.inr (Or.inr ⟨d, rfl, hd⟩)), fun _ e => by
          obtain rfl := Option.some.inj e
          exact absurd hd (by decide)⟩
      | cons x y => exact ⟨Or.inl rfl, fun _ e => h.head e⟩
    refine Ok.tok (ha.ctx hx) hp (ih ?_)
    rw [show p + u.length + r0.length = p + (u ++ r0).length by rw [List.length_append]; omega]
    exact h2
/-- A mark of one byte that begins no other one. -/
theorem at_one (d : UInt8) (hd : d = 40 ∨ d = 41 ∨ d = 44) (r : List UInt8) : At 5 [d] r := by
  have hs : sz 5 ([d] ++ r) = 1 := by
    rw [sz5]
    rcases hd with rfl | rfl | rfl <;> simp [marks, nameSz, begins]
  refine ⟨hit_of ?_ (by show 0 < sz 5 ([d] ++ r); omega), by decide, hs, ?_⟩
  · rcases hd with rfl | rfl | rfl <;> exact Or.inr (Or.inr (Or.inr (Or.inr ⟨rfl, by decide⟩)))
  · rcases hd with rfl | rfl | rfl <;> simp
theorem Ok.one {p : Nat} {d : UInt8} (hd : d = 40 ∨ d = 41 ∨ d = 44) {r : List UInt8} {ts : List Tok} (h : Ok (p + 1) r ts) : Ok p (d :: r) (⟨5, [d], p⟩ :: ts) := by
  have := Ok.tok (u := [d]) (at_one d hd r) (by rcases hd with rfl | rfl | rfl <;> decide) h
  exact this
end Wlx
