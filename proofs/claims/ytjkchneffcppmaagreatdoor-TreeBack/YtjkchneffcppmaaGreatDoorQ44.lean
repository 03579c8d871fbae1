/- LPlainH, NPlainD, NPlainF. -/
import Derived.Test.YtjkchneffcppmaaGreatDoorQ43
/- Tokens as they are written, one behind the other without blanks. -/
namespace Wlx

/-- What stands behind a part of a formula: nothing, or a mark. -/
def Aft (r : List UInt8) : Prop := ∀ c, r.head? = some c → mk c = true
theorem Aft.nil : Aft [] := fun c h => by cases h
theorem Aft.cons {c : UInt8} {r : List UInt8} (h : mk c = true) : Aft (c :: r) := fun d hd => by
  obtain rfl := Option.some.inj hd
  exact h
theorem Aft.app {u r : List UInt8} (h0 : u ≠ []) (hu : Aft u) : Aft (u ++ r) := by
  cases u with
  | nil => exact absurd rfl h0
  | cons c t => exact fun d hd => hu d hd
theorem Aft.no {r : List UInt8} (h : Aft r) : (∀ c, r.head? = some c → wrd c = false ∧ dig c = false ∧ ¬ c = 34 ∧ ¬ c = 46) := by
  intro c hc
  obtain ⟨c1, c2, c3⟩ := cls c
  obtain ⟨a1, a2, a3, a4, a5⟩ := c3 (h c hc)
  refine ⟨a3, ?_, a1, a5⟩
  cases hd : dig c with
  | false => rfl
  | true => rw [c2 hd] at a3; cases a3
theorem runP_all {p : UInt8 → Bool} {u r : List UInt8} (hu : ∀ c ∈ u, p c = true) (hr : ∀ c, r.head? = some c → p c = false) : runP p (u ++ r) = u.length := by
  rw [runP_app, if_neg (by rw [runP_full u hu]; omega), runP_zero.2 hr]; rfl
/-- A word. -/
theorem at_word {c : UInt8} {t r : List UInt8} (hw : ∀ x ∈ c :: t, wrd x = true) (hd : dig c = false) (hr : Aft r) : At 3 (c :: t) r := by
  have hs : sz 3 (c :: t ++ r) = (c :: t).length := by
    rw [sz3]; exact runP_all hw (fun c hc => (hr.no c hc).1)
  refine ⟨hit_of (Or.inr (Or.inr (Or.inl ⟨rfl, hw c (by simp), hd⟩))) ?_, by decide, hs, ?_⟩
  · show 0 < sz 3 (c :: t ++ r); rw [hs]; simp
  · intro e
    obtain rfl : c = 32 := Option.some.inj e
    exact absurd (hw 32 (by simp)) (by decide)
theorem dig_head {c : UInt8} (h : dig c = true) : ¬ c = 32 := fun e => by rw [e] at h; exact absurd h (by decide)
/-- A whole number. -/
theorem at_whole {u r : List UInt8} (h0 : u ≠ []) (hu : ∀ c ∈ u, dig c = true) (hr : Aft r) : At 1 u r := by
  have hs : sz 1 (u ++ r) = u.length := by
    rw [sz1]
    unfold numSz
    have e := runP_all (p := dig) (r := r) hu (fun c hc => (hr.no c hc).2.1)
    have hp : 0 < u.length := List.length_pos_iff.2 h0
    rw [e, if_neg (by omega), List.drop_left]
    cases r with
    | nil => rfl
    | cons x y =>
      rw [numTl_cons, if_neg (fun hh => (hr.no x rfl).2.2.2 hh.1)]
  cases u with
  | nil => exact absurd rfl h0
  | cons c t =>
    refine ⟨hit_of (Or.inl ⟨rfl, hu c (by simp)⟩) ?_, by decide, hs, ?_⟩
    · show 0 < sz 1 (c :: t ++ r); rw [hs]; simp
    · intro e; exact dig_head (hu c (by simp)) (Option.some.inj e)
/-- A number with a point. -/
theorem at_point {u v r : List UInt8} (h0 : u ≠ []) (h1 : v ≠ []) (hu : ∀ c ∈ u, dig c = true) (hv : ∀ c ∈ v, dig c = true) (hr : Aft r) : At 1 (u ++ 46 :: v) r := by
  have hs : sz 1 (u ++ 46 :: v ++ r) = (u ++ 46 :: v).length := by
    rw [sz1, List.append_assoc, List.cons_append]
    unfold numSz
    have e := runP_all (p := dig) (r := 46 :: (v ++ r)) hu (fun c hc => by
      obtain rfl := Option.some.inj hc; decide)
    have e2 := runP_all (p := dig) (r := r) hv (fun c hc => (hr.no c hc).2.1)
    have hp : 0 < u.length := List.length_pos_iff.2 h0
    have hq : 0 < v.length := List.length_pos_iff.2 h1
    rw [e, if_neg (by omega), List.drop_left, numTl_cons, e2, if_pos ⟨rfl, hq⟩, List.length_append, List.length_cons]
    omega
  cases u with
  | nil => exact absurd rfl h0
  | cons c t =>
    refine ⟨hit_of (Or.inl ⟨rfl, hu c (by simp)⟩) ?_, by decide, hs, ?_⟩
    · show 0 < sz 1 (c :: t ++ 46 :: v ++ r); rw [hs]; simp
    · intro e; exact dig_head (hu c (by simp)) (Option.some.inj e)
theorem quo_dbl : ∀ (t : List UInt8) (i : Nat) (r : List UInt8), (¬ r.head? = some 34) → quo true i (dbl t ++ 34 :: r) = i + (dbl t).length + 1
  | [], i, r, h => by
    show quo true i (34 :: r) = _
    rw [quo_hit]
    show quo false (i + 1) r = _
    cases r with
    | nil => rfl
    | cons c t => rw [quo_out (fun e => h (by rw [e]; rfl))]; rfl
  | c :: t, i, r, h => by
    by_cases hc : c = 34
    · subst hc
      rw [dbl_quote, List.cons_append, List.cons_append, quo_hit, quo_hit]
      show quo true (i + 1 + 1) _ = _
      rw [quo_dbl t (i + 1 + 1) r h]
      simp only [List.length_cons]; omega
    · rw [dbl_other hc, List.cons_append, quo_in hc, quo_dbl t (i + 1) r h]
      simp only [List.length_cons]; omega
theorem undbl_dbl : ∀ (t : List UInt8), undbl (dbl t) = t
  | [] => rfl
  | c :: t => by
    by_cases hc : c = 34
    · subst hc; rw [dbl_quote, undbl_two, undbl_dbl t]
    · rw [dbl_other hc, undbl_other hc, undbl_dbl t]
/-- A text. -/
theorem at_text (t : List UInt8) {r : List UInt8} (hr : Aft r) : At 2 (34 :: (dbl t ++ [34])) r := by
  have hs : sz 2 (34 :: (dbl t ++ [34]) ++ r) = (34 :: (dbl t ++ [34])).length := by
    rw [sz2, List.cons_append, List.append_assoc]
    show quo true 1 (dbl t ++ 34 :: r) = _
    rw [quo_dbl t 1 r (fun e => (hr.no 34 e).2.2.1 rfl)]
    simp only [List.length_cons, List.length_append, List.length_nil]; omega
  refine ⟨hit_of (Or.inr (Or.inl ⟨rfl, rfl⟩)) ?_, by decide, hs, by simp⟩
  show 0 < sz 2 (34 :: (dbl t ++ [34]) ++ r)
  rw [hs]; simp
theorem said_text (t : List UInt8) : said 2 (34 :: (dbl t ++ [34])) = t := by
  unfold said
  rw [if_pos rfl]
  have e2 : (((34 :: (dbl t ++ [34])).drop 1).take ((34 :: (dbl t ++ [34])).length - 2)) = dbl t := by
    have : (34 :: (dbl t ++ [34])).length - 2 = (dbl t).length := by simp
    rw [this]
    exact List.take_left
  rw [e2, undbl_dbl]
theorem said_other {k : Nat} (h : ¬ k = 2) (u : List UInt8) : said k u = u := by unfold said; rw [if_neg h]
theorem dbl_prt {t : List UInt8} (h : ∀ c ∈ t, prt c = true) : ∀ c ∈ 34 :: (dbl t ++ [34]), prt c = true := by
  have g : ∀ (t : List UInt8), (∀ c ∈ t, prt c = true) → ∀ c ∈ dbl t, prt c = true := by
    intro t
    induction t with
    | nil => intro _ c hc; cases hc
    | cons x y ih =>
      intro h c hc
      by_cases hx : x = 34
      · subst hx
        rw [dbl_quote] at hc
        rcases List.mem_cons.1 hc with rfl | hc
        · decide
        · rcases List.mem_cons.1 hc with rfl | hc
          · decide
          · exact ih (fun c hc => h c (by simp [hc])) c hc
      · rw [dbl_other hx] at hc
        rcases List.mem_cons.1 hc with rfl | hc
        · exact h c (by simp)
        · exact ih (fun c hc => h c (by simp [hc])) c hc
  intro c hc
  rcases List.mem_cons.1 hc with rfl | hc
  · decide
  · rcases List.mem_append.1 hc with hc | hc
    · exact g t h c hc
    · simp only [List.mem_singleton] at hc; subst hc; decide
/-- A name of a list none of which begins another one of it, but for what stands behind. -/
theorem nameSz_of {u r : List UInt8} : ∀ (ms : List (List UInt8)), u ∈ ms → (∀ n ∈ ms, begins n (u ++ r) = true → n = u) → nameSz (u ++ r) ms = u.length
  | [], h, _ => by cases h
  | n :: ms, h, hg => by
    unfold nameSz
    cases hb : begins n (u ++ r) with
    | true => rw [if_pos rfl, hg n (by simp) hb]
    | false =>
      rw [if_neg (by decide)]
      rcases List.mem_cons.1 h with rfl | h
      · rw [(begins_iff _ _).2 ⟨r, rfl⟩] at hb; cases hb
      · exact nameSz_of ms h (fun m hm => hg m (by simp [hm]))
/-- What begins a text either is begun by its first part, or begins it. -/
theorem begins_split {n u r : List UInt8} (h : begins n (u ++ r) = true) : begins n u = true ∨ ∃ x y, n = u ++ x :: y ∧ r.head? = some x := by
  obtain ⟨s, hs⟩ := (begins_iff _ _).1 h
  by_cases hl : n.length ≤ u.length
  · left
    refine (begins_iff _ _).2 ⟨u.drop n.length, ?_⟩
    have e1 := congrArg (List.take n.length) hs
    rw [List.take_append_of_le_length hl, List.take_left] at e1
    conv => lhs; rw [← List.take_append_drop n.length u, e1]
  · right
    have hu : n = u ++ n.drop u.length := by
      have e1 := congrArg (List.take u.length) hs
      rw [List.take_left, List.take_append_of_le_length (by omega)] at e1
      conv => lhs; rw [← List.take_append_drop u.length n, ← e1]
    cases hd : n.drop u.length with
    | nil =>
      have := congrArg List.length hd
      simp only [List.length_drop, List.length_nil] at this
      omega
    | cons x y =>
      rw [hd] at hu
      refine ⟨x, y, hu, ?_⟩
      rw [hu, List.append_assoc] at hs
      rw [List.append_cancel_left hs]; rfl
theorem faults_one : ∀ u ∈ faults, ∀ n ∈ faults, (begins n u = true → n = u) ∧ (begins u n = true → n = u) := by decide
/-- A fault. -/
theorem at_fault {u r : List UInt8} (h : u ∈ faults) : At 4 u r := by
  have hs : sz 4 (u ++ r) = u.length := by
    rw [sz4]
    refine nameSz_of faults h (fun n hn hb => ?_)
    rcases begins_split hb with hb | ⟨x, y, e, -⟩
    · exact (faults_one u h n hn).1 hb
    · exact (faults_one u h n hn).2 ((begins_iff _ _).2 ⟨_, e⟩)
  have g : ∀ u ∈ faults, u.head? = some 35 := by decide
  have hh := g u h
  cases u with
  | nil => cases hh
  | cons c t =>
    obtain rfl := Option.some.inj hh
    refine ⟨hit_of (Or.inr (Or.inr (Or.inr (Or.inl ⟨rfl, rfl⟩)))) ?_, by decide, hs, by simp⟩
    show 0 < sz 4 (35 :: t ++ r)
    rw [hs]; simp
theorem marks_one : ∀ u ∈ marks, ∀ n ∈ marks, (begins n u = true → n = u ∨ u.length = 2) ∧ (∀ x ∈ n.drop 1, x = 61 ∨ x = 62) := by decide
/-- A mark. -/
theorem at_mark {u r : List UInt8} (h : u ∈ marks) (hr : ∀ c, r.head? = some c → ¬ c = 61 ∧ ¬ c = 62) : At 5 u r := by
  have h0 : ∀ u ∈ marks, 0 < u.length ∧ u.length ≤ 2 := by decide
  have hs : sz 5 (u ++ r) = u.length := by
    rw [sz5]
    by_cases h2 : u.length = 2
    · have g : ∀ u ∈ marks, u.length = 2 → u = [60, 62] ∨ u = [60, 61] ∨ u = [62, 61] := by decide
      rcases g u h h2 with rfl | rfl | rfl <;> simp [marks, nameSz, begins]
    · refine nameSz_of marks h (fun n hn hb => ?_)
      rcases begins_split hb with hb | ⟨x, y, e, hx⟩
      · exact ((marks_one u h n hn).1 hb).resolve_right h2
      · exfalso
        have hx1 := (marks_one u h n hn).2 x (by
          rw [e]
          have := (h0 u h).1
          rw [List.drop_append_of_le_length (by omega)]
          simp)
        have := hr x hx
        rcases hx1 with e | e
        · exact this.1 e
        · exact this.2 e
  cases u with
  | nil => exact absurd (h0 [] h).1 (by decide)
  | cons c t =>
    have hm : mk c = true := by unfold mk; exact List.any_eq_true.2 ⟨c :: t, h, by simp⟩
    refine ⟨hit_of (Or.inr (Or.inr (Or.inr (Or.inr ⟨rfl, hm⟩)))) ?_, by decide, hs, ?_⟩
    · show 0 < sz 5 (c :: t ++ r); rw [hs]; simp
    · intro e
      obtain rfl := Option.some.inj e
      exact absurd hm (by decide)
theorem marks_still : ∀ u ∈ marks, ¬ u = [60] → ¬ u = [62] → ∀ n ∈ marks, (begins u n = true → n = u) := by decide
/-- A mark that no byte makes another one. -/
theorem at_still {u r : List UInt8} (h : u ∈ marks) (h1 : ¬ u = [60]) (h2 : ¬ u = [62]) : At 5 u r := by
  have h0 : ∀ u ∈ marks, 0 < u.length ∧ u.length ≤ 2 := by decide
  have hs : sz 5 (u ++ r) = u.length := by
    rw [sz5]
    by_cases h2 : u.length = 2
    · have g : ∀ u ∈ marks, u.length = 2 → u = [60, 62] ∨ u = [60, 61] ∨ u = [62, 61] := by decide
      rcases g u h h2 with rfl | rfl | rfl <;> simp [marks, nameSz, begins]
    · refine nameSz_of marks h (fun n hn hb => ?_)
      rcases begins_split hb with hb | ⟨x, y, e, hx⟩
      · exact ((marks_one u h n hn).1 hb).resolve_right h2
      · exact marks_still u h h1 (by assumption) n hn ((begins_iff _ _).2 ⟨_, e⟩)
  cases u with
  | nil => exact absurd (h0 [] h).1 (by decide)
  | cons c t =>
    have hm : mk c = true := by unfold mk; exact List.any_eq_true.2 ⟨c :: t, h, by simp⟩
    refine ⟨hit_of (Or.inr (Or.inr (Or.inr (Or.inr ⟨rfl, hm⟩)))) ?_, by decide, hs, ?_⟩
    · show 0 < sz 5 (c :: t ++ r); rw [hs]; simp
    · intro e
      obtain rfl := Option.some.inj e
      exact absurd hm (by decide)
theorem mark_prt : ∀ u ∈ marks, ¬ runP prt u < u.length := by decide
theorem fault_prt : ∀ u ∈ faults, ¬ runP prt u < u.length := by decide
theorem full_prt {u : List UInt8} (h : ∀ c ∈ u, prt c = true) : ¬ runP prt u < u.length := by rw [runP_full u h]; omega

def kx (t : Tok) : Nat × List UInt8 := (t.k, t.t)
/-- u is read as the tokens T, whatever may stand behind. -/
def Wr (u : List UInt8) (T : List (Nat × List UInt8)) : Prop := ∀ (p : Nat) (r : List UInt8) (ts2 : List Tok), Aft r → Ok (p + u.length) r ts2 → ∃ ts, Ok p (u ++ r) (ts ++ ts2) ∧ ts.map kx = T
/-- A part's text begins with no byte that makes another mark of one ahead. -/
def Hdk (u : List UInt8) : Prop := ∃ c t, u = c :: t ∧ ¬ c = 61 ∧ ¬ c = 62
theorem Wr.one {k : Nat} {u : List UInt8} (ha : ∀ r, Aft r → At k u r) (hp : ∀ c ∈ u, prt c = true) : Wr u [(k, said k u)] := by
  intro p r ts2 hr h
  exact ⟨[⟨k, said k u, p⟩], Ok.tok (ha r hr) (full_prt hp) h, rfl⟩
/-- A token ahead, which hangs on what stands behind no further than it begins. -/
theorem Wr.pre {k : Nat} {m u : List UInt8} {T : List (Nat × List UInt8)} (ha : ∀ r, At k m (u ++ r)) (hp : ¬ runP prt m < m.length) (h : Wr u T) : Wr (m ++ u) ((k, said k m) :: T) := by
  intro p r ts2 hr h2
  obtain ⟨ts, h3, h4⟩ := h (p + m.length) r ts2 hr (by rw [List.length_append] at h2; rw [Nat.add_assoc]; exact h2)
  refine ⟨⟨k, said k m, p⟩ :: ts, ?_, by rw [List.map_cons, h4]; rfl⟩
  rw [List.append_assoc]
  exact Ok.tok (ha r) hp h3
/-- One behind the other, where the second one begins with a mark. -/
theorem Wr.app {u v : List UInt8} {T S : List (Nat × List UInt8)} (h : Wr u T) (hv : Wr v S) (h0 : v ≠ []) (ha : Aft v) : Wr (u ++ v) (T ++ S) := by
  intro p r ts2 hr h2
  obtain ⟨ss, h3, h4⟩ := hv (p + u.length) r ts2 hr (by rw [List.length_append] at h2; rw [Nat.add_assoc]; exact h2)
  obtain ⟨ts, h5, h6⟩ := h p (v ++ r) (ss ++ ts2) (ha.app h0) h3
  refine ⟨ts ++ ss, ?_, by rw [List.map_append, h4, h6]⟩
  rw [List.append_assoc, List.append_assoc]
  exact h5
theorem mark_aft {m : List UInt8} (h : m ∈ marks) (r : List UInt8) : Aft (m ++ r) := by
  have h0 : ∀ u ∈ marks, 0 < u.length := by decide
  cases m with
  | nil => exact absurd (h0 [] h) (by decide)
  | cons c t => exact Aft.cons (by unfold mk; exact List.any_eq_true.2 ⟨c :: t, h, by simp⟩)
theorem said_mark {m : List UInt8} : said 5 m = m := said_other (by decide) m
/-- A mark ahead of a part. -/
theorem Wr.mark {m u : List UInt8} {T : List (Nat × List UInt8)} (hm : m ∈ marks) (hu : Hdk u) (h : Wr u T) : Wr (m ++ u) ((5, m) :: T) := by
  have := Wr.pre (k := 5) (fun r => at_mark hm (fun c hc => by
    obtain ⟨d, t, rfl, h1, h2⟩ := hu
    obtain rfl := Option.some.inj hc
    exact ⟨h1, h2⟩)) (mark_prt m hm) h
  rw [said_mark] at this
  exact this
/-- A mark that no byte makes another one, behind a part. -/
theorem Wr.still {m : List UInt8} (hm : m ∈ marks) (h1 : ¬ m = [60]) (h2 : ¬ m = [62]) : Wr m [(5, m)] := by
  have := Wr.one (k := 5) (u := m) (fun r _ => at_still hm h1 h2) (runP_mem m (mark_prt m hm))
  rw [said_mark] at this
  exact this
theorem Wr.brack {u : List UInt8} {T : List (Nat × List UInt8)} (h : Wr u T) : Wr (40 :: (u ++ [41])) ((5, [40]) :: (T ++ [(5, [41])])) := by
  have h1 := h.app (Wr.still (m := [41]) (by decide) (by decide) (by decide)) (by decide) (Aft.cons (by decide))
  have := Wr.pre (k := 5) (m := [40]) (fun r => at_still (by decide) (by decide) (by decide)) (by decide) h1
  exact this
end Wlx
/- The number that the first digits say. -/
namespace Wpl

theorem fv_snoc (k : Nat) (l : List UInt8) (c : UInt8) : fv k (l ++ [c]) = fv k l * 10 + (c.toNat - 48) := by unfold fv; rw [List.foldl_append]; rfl
end Wpl
/- What is written of a cell is read as it. -/
namespace Wpl

theorem dig_toNat {q : Nat} (h : q ≤ 9) : (UInt8.ofNat (48 + q)).toNat = 48 + q := by
  rw [UInt8.toNat_ofNat']
  exact Nat.mod_eq_of_lt (by omega)
theorem let_toNat {q : Nat} (h : q ≤ 25) : (UInt8.ofNat (65 + q)).toNat = 65 + q := by
  rw [UInt8.toNat_ofNat']
  exact Nat.mod_eq_of_lt (by omega)
theorem dd_le {u : Nat} (h : u < 10) : Go.Lib.decDigits u = [UInt8.ofNat (48 + u)] := by
  unfold Go.Lib.decDigits
  rw [dif_pos h]
theorem dd_gt {u : Nat} (h : ¬ u < 10) : Go.Lib.decDigits u = Go.Lib.decDigits (u / 10) ++ [UInt8.ofNat (48 + u % 10)] := by
  conv => lhs; unfold Go.Lib.decDigits
  rw [dif_neg h]
/-- Digits: all of them are, they say the number, and begin with no nought. -/
theorem dd_is (u : Nat) : allG (Go.Lib.decDigits u) = true ∧ fv 0 (Go.Lib.decDigits u) = u ∧ (1 ≤ u → ∃ d t, Go.Lib.decDigits u = d :: t ∧ d.toNat ≠ 48) := by
  induction u using Nat.strongRecOn with
  | _ u ih =>
    by_cases h : u < 10
    · rw [dd_le h]
      have hd := dig_toNat (q := u) (by omega)
      refine ⟨?_, ?_, fun h1 => ⟨_, _, rfl, by rw [hd]; omega⟩⟩
      · simp only [allG, List.all_cons, List.all_nil, Bool.and_true, isG, hd]
        simp; omega
      · unfold fv
        simp only [List.foldl_cons, List.foldl_nil, hd]
        omega
    · obtain ⟨i1, i2, i3⟩ := ih (u / 10) (by omega)
      rw [dd_gt h]
      have hd := dig_toNat (q := u % 10) (by omega)
      refine ⟨?_, ?_, fun _ => ?_⟩
      · simp only [allG, List.all_append, List.all_cons, List.all_nil, Bool.and_true, Bool.and_eq_true]
        refine ⟨i1, ?_⟩
        simp only [isG, hd]
        simp; omega
      · rw [fv_snoc, i2, hd]
        omega
      · obtain ⟨d, t, e1, e2⟩ := i3 (by omega)
        exact ⟨d, t ++ [UInt8.ofNat (48 + u % 10)], by rw [e1]; rfl, e2⟩
theorem dg_dd {u : Nat} (h1 : 1 ≤ u) (h2 : u ≤ 65536) : dgOk (Go.Lib.decDigits u) = true ∧ (rr (Go.Lib.decDigits u)).1 = u ∧ noL (Go.Lib.decDigits u) = true := by
  obtain ⟨a, b, c⟩ := dd_is u
  obtain ⟨d, t, e, hd⟩ := c h1
  rw [e] at a b ⊢
  have hne : d ≠ 48 := fun x => hd (by rw [x]; rfl)
  have ha := a
  simp only [allG, List.all_cons, Bool.and_eq_true] at ha
  have hg := ha.1
  simp only [isG, decide_eq_true_eq] at hg
  have hlen : t.length < 5 := by
    have := fv_ge t (0 * 10 + (d.toNat - 48))
    rw [fv_cons] at b
    apply Classical.byContradiction
    intro hn
    have h4 : 1 * 10 ^ 5 ≤ (0 * 10 + (d.toNat - 48)) * 10 ^ t.length := Nat.mul_le_mul (by omega) (Nat.pow_le_pow_right (by omega) (by omega))
    omega
  obtain ⟨g1, g2, _⟩ := dg_in hne a hlen
  refine ⟨by rw [g1, b]; simpa using h2, by rw [g2, b], ?_⟩
  simp [noL, isL]; omega
theorem letter_is {q : Nat} (h : q ≤ 25) : isL (UInt8.ofNat (65 + q)) = true ∧ vl (UInt8.ofNat (65 + q)) = q + 1 := by
  have e := let_toNat h
  constructor
  · simp only [isL, e]; simp; omega
  · unfold vl; rw [e]; omega
/-- A name is read as the cell that it names. -/
theorem txt_reads {r c : Int} (r0 : 0 ≤ r) (r1 : r < 65536) (c0 : 0 ≤ c) (c1 : c < 256) : rdOk (txtC r c) = true ∧ rdR (txtC r c) = r ∧ rdC (txtC r c) = c := by
  obtain ⟨g1, g2, g3⟩ := dg_dd (u := (r + 1).toNat) (by omega) (by omega)
  have hc : colS c = colT c.toNat := by unfold colS; rw [inB_iff.2 ⟨c0, c1⟩]; rfl
  have key : rdOk (txtC r c) = true ∧ rc 0 (txtC r c) = (c.toNat + 1, Go.Lib.decDigits (r + 1).toNat) := by
    unfold txtC
    rw [hc]
    unfold colT
    by_cases h : c.toNat < 26
    · rw [if_pos h]
      obtain ⟨l1, l2⟩ := letter_is (q := c.toNat) (by omega)
      obtain ⟨k1, k2⟩ := rd_one l1 g3
      rw [List.cons_append, List.nil_append]
      exact ⟨by rw [k1, g1], by rw [k2, l2]⟩
    · rw [if_neg h]
      obtain ⟨l1, l2⟩ := letter_is (q := c.toNat / 26 - 1) (by omega)
      obtain ⟨m1, m2⟩ := letter_is (q := c.toNat % 26) (by omega)
      obtain ⟨k1, k2⟩ := rd_two l1 m1 g3
      rw [List.cons_append, List.cons_append, List.nil_append]
      refine ⟨?_, ?_⟩
      · rw [k1, g1, l2, m2, decide_eq_true (by omega)]
        rfl
      · rw [k2, l2, m2]
        congr 1
        omega
  obtain ⟨k1, k2⟩ := key
  refine ⟨k1, ?_, ?_⟩
  · unfold rdR; rw [k1, k2]; simp only [if_true, g2]; omega
  · unfold rdC; rw [k1, k2]; simp only [if_true]; omega
end Wpl
