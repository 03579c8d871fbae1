/- LPlainF, LPlainG, TBrkP, TSame, LJoin. -/
import Derived.Test.YtjkchneffcppmabGreatDoorQ43
import Derived.Deep.LoopGhost
import Derived.Deep.MidRow
/- What follows of it: there and back, blanks, what is covered, where it is refused. -/
namespace Wlx

theorem undbl_other {c : UInt8} (h : ¬ c = 34) (m : List UInt8) : undbl (c :: m) = c :: undbl m := by
  cases m with
  | nil => rfl
  | cons d t =>
    conv => lhs; unfold undbl
    rw [if_neg (fun e => h e.1)]
theorem undbl_two (m : List UInt8) : undbl (34 :: 34 :: m) = 34 :: undbl m := by
  conv => lhs; unfold undbl
  rw [if_pos ⟨rfl, rfl⟩]
theorem dbl_other {c : UInt8} (h : ¬ c = 34) (m : List UInt8) : dbl (c :: m) = c :: dbl m := by
  show (if c = 34 then 34 :: 34 :: dbl m else c :: dbl m) = _
  rw [if_neg h]
theorem dbl_quote (m : List UInt8) : dbl (34 :: m) = 34 :: 34 :: dbl m := rfl
/-- A text's bytes behind its first quote. -/
theorem text_form : ∀ (n : Nat) (a : List UInt8) (i : Nat) (r : List UInt8), a.length ≤ n → 1 ≤ i → quo true i (a ++ r) = i + a.length → ∃ mid, a = mid ++ [34] ∧ dbl (undbl mid) = mid := by
  intro n
  induction n with
  | zero =>
    intro a i r hl hi h
    obtain rfl := List.eq_nil_of_length_eq_zero (Nat.le_zero.1 hl)
    have := (quo_stop hi h).1
    cases this
  | succ n ih =>
    intro a i r hl hi h
    cases a with
    | nil => have := (quo_stop hi h).1; cases this
    | cons c a =>
      simp only [List.length_cons] at hl h
      rw [List.cons_append] at h
      by_cases hc : c = 34
      · subst hc
        rw [quo_hit] at h
        cases a with
        | nil => exact ⟨[], rfl, rfl⟩
        | cons d a =>
          simp only [List.length_cons] at hl h
          rw [List.cons_append] at h
          by_cases hd : d = 34
          · subst hd
            rw [quo_hit] at h
            obtain ⟨mid, rfl, hm⟩ := ih a (i + 1 + 1) r (by omega) (by omega) (by have : (!!true) = true := rfl; rw [this] at h; omega)
            exact ⟨34 :: 34 :: mid, rfl, by rw [undbl_two, dbl_quote, hm]⟩
          · rw [show (!true) = false from rfl, quo_out hd] at h; omega
      · rw [quo_in hc] at h
        obtain ⟨mid, rfl, hm⟩ := ih a (i + 1) r (by omega) (by omega) (by omega)
        exact ⟨c :: mid, rfl, by rw [undbl_other hc, dbl_other hc, hm]⟩
/-- A token is written as it stood. -/
theorem At.writ {k : Nat} {u r : List UInt8} (h : At k u r) : writ k (said k u) = u := by
  by_cases hk : k = 2
  · subst hk
    obtain ⟨c, t, rfl⟩ := h.cons
    have hn : txtSz (c :: (t ++ r)) = (c :: t).length := h.hn
    have hc : c = 34 := txtSz_pos (by rw [hn]; exact h.pos)
    subst hc
    have e : txtSz (34 :: (t ++ r)) = quo true 1 (t ++ r) := rfl
    rw [e] at hn
    simp only [List.length_cons] at hn
    obtain ⟨mid, rfl, hm⟩ := text_form _ t 1 r (Nat.le_refl _) (Nat.le_refl _) (by omega)
    unfold Wlx.writ said
    rw [if_pos rfl, if_pos rfl]
    have e2 : (((34 :: (mid ++ [34])).drop 1).take ((34 :: (mid ++ [34])).length - 2)) = mid := by
      have : (34 :: (mid ++ [34])).length - 2 = mid.length := by simp
      rw [this]
      exact List.take_left
    rw [e2, hm]
  · unfold Wlx.writ said
    rw [if_neg hk, if_neg hk]

/-- Tokens written, with a blank ahead of each but the first. -/
def joinT : Bool → List Tok → List UInt8
  | _, [] => []
  | f, t :: r => (if f then [] else [32]) ++ writ t.k t.t ++ joinT false r
theorem joinT_nx (k : Nat) (r' : List UInt8) (ts : List Tok) : Nx k r' (joinT false ts) := by
  cases ts with
  | nil => exact ⟨Or.inr (Or.inl rfl), fun _ h => by cases h⟩
  | cons t r => exact ⟨Or.inr (Or.inr (Or.inl rfl)), fun _ h => absurd (Option.some.inj h) (by decide)⟩
/-- What is written of tokens is scanned as them. -/
theorem Ok.back {p : Nat} {l : List UInt8} {ts : List Tok} (h : Ok p l ts) : ∀ (q : Nat) (f : Bool), ∃ ts', Ok q (joinT f ts) ts' ∧ ts'.map (fun t => (t.k, t.t)) = ts.map (fun t => (t.k, t.t)) := by
  induction h using Ok.ind with
  | nil p => intro q f; exact ⟨[], Ok.nil q, rfl⟩
  | blank h ih => exact ih
  | @tok p k u r ts ha hp h ih =>
    intro q f
    have hw : ∀ q, ∃ ts', Ok q (u ++ joinT false ts) ts' ∧ ts'.map (fun t => (t.k, t.t)) = (⟨k, said k u, p⟩ :: ts : List Tok).map (fun t => (t.k, t.t)) := by
      intro q
      obtain ⟨ts', h1, h2⟩ := ih (q + u.length) false
      exact ⟨⟨k, said k u, q⟩ :: ts', Ok.tok (ha.ctx (joinT_nx k r ts)) hp h1, by simp [h2]⟩
    have e : joinT f (⟨k, said k u, p⟩ :: ts) = (if f then [] else [32]) ++ u ++ joinT false ts := by
      show (if f then [] else [32]) ++ Wlx.writ k (said k u) ++ joinT false ts = _
      rw [ha.writ]
    rw [e]
    cases f with
    | true => exact hw q
    | false =>
      obtain ⟨ts', h1, h2⟩ := hw (q + 1)
      exact ⟨ts', Ok.blank h1, h2⟩

def shift (b : Nat) (t : Tok) : Tok := ⟨t.k, t.t, t.p + b⟩
theorem Ok.shift {p : Nat} {l : List UInt8} {ts : List Tok} (h : Ok p l ts) (b : Nat) : Ok (p + b) l (ts.map (shift b)) := by
  induction h using Ok.ind with
  | nil p => exact Ok.nil _
  | blank h ih => exact Ok.blank (by rw [Nat.add_right_comm]; exact ih)
  | tok ha hp h ih => exact Ok.tok ha hp (by rw [Nat.add_right_comm]; exact ih)
theorem Ok.blanks {l : List UInt8} {ts : List Tok} : ∀ (b p : Nat), Ok (p + b) l ts → Ok p (List.replicate b 32 ++ l) ts
  | 0, p, h => h
  | b + 1, p, h => by
    rw [List.replicate_succ, List.cons_append]
    exact Ok.blank (Ok.blanks b (p + 1) (by rw [Nat.add_right_comm, Nat.add_assoc]; exact h))
/-- Where the i-th token of l stands, or l ends. -/
def place (p : Nat) (l : List UInt8) (ts : List Tok) (i : Nat) : Nat := if h : i < ts.length then (ts[i]).p - p else l.length
/-- Blanks ahead of the i-th token. -/
theorem Ok.put {p : Nat} {l : List UInt8} {ts : List Tok} (h : Ok p l ts) (b : Nat) (hb : 0 < b) : ∀ i, i ≤ ts.length → Ok p (l.take (place p l ts i) ++ (List.replicate b 32 ++ l.drop (place p l ts i))) (ts.take i ++ (ts.drop i).map (Wlx.shift b)) := by
  induction h using Ok.ind with
  | nil p =>
    intro i hi
    have e : place p [] [] i = 0 := by unfold place; rw [dif_neg (by simp)]; rfl
    rw [e]
    have := Ok.blanks b p (Ok.nil (p + b))
    simpa using this
  | @blank p t ts h ih =>
    intro i hi
    have e : place p (32 :: t) ts i = place (p + 1) t ts i + 1 := by
      unfold place
      by_cases hl : i < ts.length
      · rw [dif_pos hl, dif_pos hl]
        have := (h.count.2 (ts[i]) (List.getElem_mem hl)).1
        omega
      · rw [dif_neg hl, dif_neg hl]; rfl
    rw [e]
    exact Ok.blank (ih i hi)
  | @tok p k u r ts ha hp h ih =>
    intro i hi
    cases i with
    | zero =>
      have e : place p (u ++ r) (⟨k, said k u, p⟩ :: ts) 0 = 0 := by unfold place; rw [dif_pos (by simp)]; exact Nat.sub_self p
      rw [e]
      exact Ok.blanks b p ((Ok.tok ha hp h).shift b)
    | succ i =>
      simp only [List.length_cons] at hi
      have e : place p (u ++ r) (⟨k, said k u, p⟩ :: ts) (i + 1) = u.length + place (p + u.length) r ts i := by
        unfold place
        by_cases hl : i < ts.length
        · rw [dif_pos hl, dif_pos (by simpa using hl), List.getElem_cons_succ]
          have := (h.count.2 (ts[i]) (List.getElem_mem hl)).1
          omega
        · rw [dif_neg hl, dif_neg (by simpa using hl), List.length_append]
      have hi2 := ih i (by omega)
      generalize place (p + u.length) r ts i = A at e hi2
      rw [e, List.take_append, List.drop_append, Nat.add_sub_cancel_left, List.take_of_length_le (by omega), List.drop_eq_nil_of_le (by omega), List.nil_append, List.append_assoc]
      have hx : Nx k r (r.take A ++ (List.replicate b 32 ++ r.drop A)) := by
        obtain ⟨b', rfl⟩ : ∃ b', b = b' + 1 := ⟨b - 1, by omega⟩
        cases r with
        | nil => exact ⟨Or.inr (Or.inr (Or.inl (by simp [List.replicate_succ]))), fun _ h => by simp [List.replicate_succ] at h⟩
        | cons x y =>
          cases A with
          | zero => exact ⟨Or.inr (Or.inr (Or.inl (by simp [List.replicate_succ]))), fun _ h => by simp [List.replicate_succ] at h⟩
          | succ A => exact ⟨Or.inl rfl, fun _ h2 => h.head h2⟩
      exact Ok.tok (ha.ctx hx) hp hi2
/-- The next token. -/
theorem Ok.next {p : Nat} {l : List UInt8} {t : Tok} {ts : List Tok} (h : Ok p l (t :: ts)) : ∃ (b : Nat) (u r : List UInt8), l = List.replicate b 32 ++ (u ++ r) ∧ t = ⟨t.k, said t.k u, p + b⟩ ∧ At t.k u r ∧ Ok (p + b + u.length) r ts := by
  generalize hx : t :: ts = xs at h
  induction h using Ok.ind with
  | nil p => cases hx
  | blank h ih =>
    obtain ⟨b, u, r, rfl, h2, h3, h4⟩ := ih hx
    refine ⟨b + 1, u, r, rfl, ?_, h3, ?_⟩
    · rw [show ∀ p : Nat, p + (b + 1) = p + 1 + b by intro p; omega]; exact h2
    · rw [show ∀ p : Nat, p + (b + 1) + u.length = p + 1 + b + u.length by intro p; omega]; exact h4
  | tok ha hp h ih =>
    cases hx
    exact ⟨0, _, _, rfl, rfl, ha, h⟩
end Wlx
/- Tokens of two texts, one behind the other. -/
namespace Wlx

/-- What stands behind begins with a bracket or a comma: the tokens of both. -/
theorem Ok.app {p : Nat} {l : List UInt8} {ts : List Tok} (h : Ok p l ts) {d : UInt8} (hd : d = 40 ∨ d = 41 ∨ d = 44) {r : List UInt8} : ∀ {ts2 : List Tok}, Ok (p + l.length) (d :: r) ts2 → Ok p (l ++ d :: r) (ts ++ ts2) := by
  induction h using Ok.ind with
  | nil p => intro ts2 h2; exact h2
  | @blank p t ts h ih =>
    intro ts2 h2
    refine Ok.blank (ih ?_)
    rw [show p + 1 + t.length = p + (32 :: t).length by simp only [List.length_cons]; omega]
    exact h2
  | @tok p k u r0 ts ha hp h ih =>
    intro ts2 h2
    rw [List.append_assoc]
    have hx : Nx k r0 (r0 ++ d :: r) := by
      cases r0 with
      | nil => exact ⟨Or.inr (Or.inr (Or.inr ⟨d, rfl, hd⟩)), fun _ e => by
          obtain rfl := Option.some.inj e
          exact absurd hd (by decide)⟩
      | cons x y => exact ⟨Or.inl rfl, fun _ e => h.head e⟩
    refine Ok.tok (ha.ctx hx) hp (ih ?_)
    rw [show p + u.length + r0.length = p + (u ++ r0).length by rw [List.length_append]; omega]
    exact h2
/-- A mark of one byte that begins no other one. -/
theorem at_one (d : UInt8) (hd : d = 40 ∨ d = 41 ∨ d = 44) (r : List UInt8) : At 5 [d] r := by
  have hs : sz 5 ([d] ++ r) = 1 := by
    rw [sz5]
    rcases hd with rfl | rfl | rfl <;> simp [marks, nameSz, begins]
  refine ⟨hit_of ?_ (by show 0 < sz 5 ([d] ++ r); omega), by decide, hs, ?_⟩
  · rcases hd with rfl | rfl | rfl <;> exact Or.inr (Or.inr (Or.inr (Or.inr ⟨rfl, by decide⟩)))
  · rcases hd with rfl | rfl | rfl <;> simp
theorem Ok.one {p : Nat} {d : UInt8} (hd : d = 40 ∨ d = 41 ∨ d = 44) {r : List UInt8} {ts : List Tok} (h : Ok (p + 1) r ts) : Ok p (d :: r) (⟨5, [d], p⟩ :: ts) := by
  have := Ok.tok (u := [d]) (at_one d hd r) (by rcases hd with rfl | rfl | rfl <;> decide) h
  exact this
end Wlx
/- Brackets around a formula, blanks between its tokens: plain. -/
namespace Go.Proofs.YtjkchneffcppmabGreatDoor
open Go.RowKit Go.Shelf
set_option linter.unusedVariables false

/-- What prsR says of a tree. -/
theorem prsR_inl {l : List UInt8} {row : List Wt.Nd} (h : prsR l = .inl row) : l.length ≤ 1024 ∧ ∃ ts, Wlx.Ok 0 l ts ∧ lv (l.length : Int) (10 * (ts.map Wlx.tv).length + 9) 0 (ts.map Wlx.tv) = .inl (row, []) ∧ Wt.check row = 0 := by
  unfold prsR at h
  cases hr : scanAll l with
  | inr q => obtain ⟨c', p'⟩ := q; rw [hr] at h; cases h
  | inl ts =>
    rw [hr] at h
    simp only at h
    unfold scanAll at hr
    split at hr
    · cases hr
    rename_i hl
    refine ⟨by omega, ts, hr, ?_⟩
    unfold prsT at h
    cases hp : pall (lv (l.length : Int) (10 * (ts.map Wlx.tv).length + 9) 0) (l.length : Int) (ts.map Wlx.tv) with
    | inr q => rw [hp] at h; cases h
    | inl q =>
      obtain ⟨row', rr⟩ := q
      rw [hp] at h
      simp only at h
      split at h
      · rename_i hc
        simp only [Sum.inl.injEq] at h
        subst h
        refine ⟨?_, hc⟩
        unfold pall at hp
        split at hp
        · cases hp
        · rename_i row'' he
          simp only [Sum.inl.injEq, Prod.mk.injEq] at hp
          rw [← hp.1]; exact he
        · cases hp
      · cases h
theorem prsR_of {l : List UInt8} {row : List Wt.Nd} (hl : l.length ≤ 1024) {ts : List Wlx.Tok} (hok : Wlx.Ok 0 l ts) (h : lv (l.length : Int) (10 * (ts.map Wlx.tv).length + 9) 0 (ts.map Wlx.tv) = .inl (row, [])) : prsR l = if Wt.check row = 0 then .inl row else .inr (Wt.check row, 0) := by
  unfold prsR scanAll
  rw [if_neg (by omega), hok.scan]
  show prsT _ _ = _
  unfold prsT pall
  rw [h]
theorem map_same (ts : List Wlx.Tok) (us : List Wlx.Tok) (h : us.map (fun t => (t.k, t.t)) = ts.map (fun t => (t.k, t.t))) : Same (us.map Wlx.tv) (ts.map Wlx.tv) := by
  unfold Same
  rw [List.map_map, List.map_map]
  have e : kt ∘ Wlx.tv = (fun q : Nat × List UInt8 => ((q.1 : Int), q.2)) ∘ (fun t : Wlx.Tok => (t.k, t.t)) := rfl
  rw [e, ← List.map_map, ← List.map_map, h]
theorem shift_same (ts : List Wlx.Tok) (b : Nat) : Same ((ts.map (Wlx.shift b)).map Wlx.tv) (ts.map Wlx.tv) := by
  refine map_same _ _ ?_
  rw [List.map_map]; rfl
/-- A row of the grammar hands on what the next one reads, where no operator follows. -/
theorem lv_down (en : Int) (f : Nat) {ts : List Wlx.TV} {row : List Wt.Nd} {r : List Wlx.TV} (h : lv en f 7 ts = .inl (row, r)) (hop : ∀ k, tkOp k r = none) (hsg : tkOp 5 ts = none) : lv en (f + 7) 0 ts = .inl (row, r) := by
  have h6 : lv en (f + 1) 6 ts = .inl (row, r) := by
    rw [lv_pc]; unfold ppc; rw [h]; simp only
    cases r.length with
    | zero => rfl
    | succ n => simp only [pct, hop]
  have h5 : lv en (f + 2) 5 ts = .inl (row, r) := by rw [lv_sg]; unfold psg; rw [hsg]; exact h6
  have step : ∀ (g k : Nat), k < 5 → lv en g (k + 1) ts = .inl (row, r) → lv en (g + 1) k ts = .inl (row, r) := by
    intro g k hk hg
    rw [lv_bt _ _ _ hk]; unfold pbt; rw [hg]; simp only
    exact more_not' (hop k)
  exact step _ 0 (by omega) (step _ 1 (by omega) (step _ 2 (by omega) (step _ 3 (by omega) (step _ 4 (by omega) h5))))
theorem tkOp_40 (k : Int) (p : Int) (r : List Wlx.TV) : tkOp k (⟨5, [40], p⟩ :: r) = none := by
  have : Wt.opAs [40] k = none := by
    unfold Wt.opAs
    rw [List.find?_eq_none]
    intro x hx
    simp only [Wt.opsT, List.mem_cons, List.not_mem_nil, or_false] at hx
    rcases hx with rfl | rfl | rfl | rfl | rfl | rfl | rfl | rfl | rfl | rfl | rfl | rfl | rfl | rfl | rfl <;> simp
  simp only [tkOp, this]; simp
/-- Brackets around tokens, with anything behind. -/
theorem lv_brack {en en' : Int} {f g : Nat} (hfg : f ≤ g) {ts us : List Wlx.TV} {row : List Wt.Nd} (h : lv en f 0 ts = .inl (row, [])) (hs : Same us ts) (p q : Int) (r : List Wlx.TV) : lv en' (g + 1) 7 (⟨5, [40], p⟩ :: (us ++ ⟨5, [41], q⟩ :: r)) = .inl (row, r) := by
  obtain ⟨r', e, s⟩ := lv_ext en en' f g hfg 0 ts row [] h us (⟨5, [41], q⟩ :: r) hs (Or.inr ⟨_, _, rfl, rfl, Or.inl rfl⟩)
  have := s.nil
  subst this
  rw [lv_si]; unfold psi
  rw [if_neg (by simp [hd]), if_pos (by simp [hd])]
  unfold pbrack
  have e1 : tk (⟨5, [40], p⟩ :: (us ++ ⟨5, [41], q⟩ :: r)) [40] = some (us ++ ⟨5, [41], q⟩ :: r) := by simp [tk, isMk]
  rw [e1]
  simp only
  rw [e]
  simp only [List.nil_append]
  have e2 : tk (⟨5, [41], q⟩ :: r) [41] = some r := by simp [tk, isMk]
  rw [e2]
/-- Brackets around a formula turn nothing. -/
theorem prsR_brack {l : List UInt8} {row : List Wt.Nd} (h : prsR l = .inl row) (hl : l.length ≤ 1022) : prsR (40 :: (l ++ [41])) = .inl row := by
  obtain ⟨-, ts, hok, hlv, hc⟩ := prsR_inl h
  have hk2 : Wlx.Ok 0 (40 :: (l ++ [41])) (⟨5, [40], 0⟩ :: (ts.map (Wlx.shift 1) ++ [⟨5, [41], 0 + 1 + l.length⟩])) := by
    refine Wlx.Ok.one (Or.inl rfl) ?_
    exact (hok.shift 1).app (Or.inr (Or.inl rfl)) (Wlx.Ok.one (Or.inr (Or.inl rfl)) (Wlx.Ok.nil _))
  have e : ((⟨5, [40], 0⟩ :: (ts.map (Wlx.shift 1) ++ [⟨5, [41], 0 + 1 + l.length⟩]) : List Wlx.Tok)).map Wlx.tv = (⟨5, [40], 0⟩ : Wlx.TV) :: ((ts.map (Wlx.shift 1)).map Wlx.tv ++ [⟨5, [41], ((0 + 1 + l.length : Nat) : Int)⟩]) := by
    rw [List.map_cons, List.map_append]; rfl
  have hlv2 : lv ((40 :: (l ++ [41])).length : Int) (10 * (((⟨5, [40], 0⟩ :: (ts.map (Wlx.shift 1) ++ [⟨5, [41], 0 + 1 + l.length⟩]) : List Wlx.Tok)).map Wlx.tv).length + 9) 0 (((⟨5, [40], 0⟩ :: (ts.map (Wlx.shift 1) ++ [⟨5, [41], 0 + 1 + l.length⟩]) : List Wlx.Tok)).map Wlx.tv) = .inl (row, []) := by
    have hf : 10 * (((⟨5, [40], 0⟩ :: (ts.map (Wlx.shift 1) ++ [⟨5, [41], 0 + 1 + l.length⟩]) : List Wlx.Tok)).map Wlx.tv).length + 9 = (10 * (ts.map Wlx.tv).length + 21 + 1) + 7 := by
      simp only [List.length_map, List.length_cons, List.length_append, List.length_nil]; omega
    rw [hf, e]
    exact lv_down _ _ (lv_brack (by omega) hlv (shift_same ts 1) 0 _ []) (fun k => rfl) (tkOp_40 5 0 _)
  have hlen : (40 :: (l ++ [41])).length ≤ 1024 := by simp only [List.length_cons, List.length_append, List.length_nil]; omega
  rw [prsR_of hlen hk2 hlv2, if_pos hc]
/-- Blanks between tokens turn nothing. -/
theorem prsR_text {l : List UInt8} {row : List Wt.Nd} {ts : List Wlx.Tok} (h : prsR l = .inl row) (hok : Wlx.Ok 0 l ts) (hl : (Wlx.joinT true ts).length ≤ 1024) : prsR (Wlx.joinT true ts) = .inl row := by
  obtain ⟨-, ts', hok', hlv, hc⟩ := prsR_inl h
  obtain rfl : ts' = ts := Wlx.ok_inj (hok'.symm.trans hok)
  obtain ⟨us, hu, hm⟩ := hok.back 0 true
  rw [prsR_of (row := row) hl hu ?_, if_pos hc]
  have hs := map_same _ _ hm
  obtain ⟨r', e, s⟩ := lv_ext (l.length : Int) ((Wlx.joinT true ts').length : Int) _ (10 * (us.map Wlx.tv).length + 9) (by rw [hs.len]; exact Nat.le_refl _) 0 _ _ _ hlv (us.map Wlx.tv) [] hs (Or.inl rfl)
  rw [List.append_nil] at e
  rw [e, s.nil]; rfl
end Go.Proofs.YtjkchneffcppmabGreatDoor
/- Rows of nodes, held against each other. -/
namespace Go.Proofs.YtjkchneffcppmabGreatDoor
open Go.RowKit
set_option linter.unusedVariables false

theorem neqN_run (x : Wt.Nd) (w : World) : (binOp .neq 42 (ndV x) (ndV x)).run Tryz.prog w = .ok (.bool false) w := by
  have h := eqN_run x x w
  have e : eqN x x = true := (eqN_iff x x).2 rfl
  rw [e] at h
  unfold ndV at h ⊢
  rw [run_eql_struct] at h
  rw [run_neq_struct]
  revert h
  generalize (Op.equalIn 10000 42 (.agg (nd20 x).toArray) (.agg (nd20 x).toArray)).run Tryz.prog w = r
  intro h
  cases r <;> simp_all [Result.andThen]
theorem neqN_exec (x : Wt.Nd) (w : World) {a : Operand → Value} {ex ey : Operand} (h1 : a ex = .agg (nd20 x).toArray) (h2 : a ey = .agg (nd20 x).toArray) {d : Option Nat} {ty : TypeId} {p : String} {af : Array Edge} {g : Option (Nat × Bool)} :
    (execOp a { dst := d, op := Op.binOp BinOp.neq 42 ex ey 42, type := ty, pos := p, after := af, guard := g }).run Tryz.prog w = .ok (.value (.bool false)) w := by
  unfold execOp
  simp only [h1, h2]
  have h3 := neqN_run x w
  unfold ndV at h3
  have h4 : (eqGuard .neq 42 ex ey (.agg (nd20 x).toArray) (.agg (nd20 x).toArray)).run Tryz.prog w = .ok () w := by kernel_rfl
  simp only [Sem.run_bind, h3, h4, Result.andThen_ok, Sem.run_pure]
set_option maxRecDepth 100000 in
set_option maxHeartbeats 4000000 in
theorem nsame_true (av1 av2 : Option Addr) (cap1 cap2 : Nat) (L : List Wt.Nd) (w : World) (h1 : RdN w av1 L) (h2 : RdN w av2 L) (hl : L.length ≤ 4000000) :
    Calls Tryz.prog 9 #[.slice av1 L.length cap1, .slice av2 L.length cap2] w fun e w' => e = .returned (.bool true) ∧ Below w.heap.size w w' := by
  have H1 : Hid (RdN w av1 L) := h1
  have H2 : Hid (RdN w av2 L) := h2
  obtain ⟨n, hn⟩ : ∃ n, L.length = n := ⟨_, rfl⟩
  rw [hn] at hl ⊢
  clear h1 h2
  go_enter Tryz.func9, Tryz.ntmps9
  go_wp2_with fail
  go_loopg [5] n (fun gk x wr => ∃ i : Nat, x = .int .i64 i ∧ gk = n - i ∧ i ≤ n ∧ Below w.heap.size w wr)
  case atStart => exact ⟨0, rfl, rfl, Nat.zero_le _, Below.refl _ _⟩
  case round =>
    obtain ⟨i, rfl, hg, hi, hb⟩ := hrel
    by_cases hlt : i < n
    · have hli : (i : Int) < (n : Int) := by omega
      have hi0 : (0 : Int) ≤ (i : Int) := by omega
      have hwi : IntKind.i64.wrap ((i : Int) + 1) = (i : Int) + 1 := by rw [IntKind.wrap_i64]; omega
      obtain ⟨b1, o1, rfl, c1⟩ := RdN.below H1.out hb i (by omega)
      obtain ⟨b2, o2, rfl, c2⟩ := RdN.below H2.out hb i (by omega)
      generalize L[i] = x at c1 c2
      go_upto_region 6 with fail
      refine wp_region_held_drew (S := fun W => W.rangeAt b1 (o1 + i * 20) (nd20 x) ∧ W.rangeAt b2 (o2 + i * 20) (nd20 x)) (by kernel_rfl) ⟨c1, c2⟩ (fun hHeld => ?_)
      refine wpAnyH_take (i := 0) (oi := { dst := Option.some 17, op := Op.move (Operand.tmp 0), type := 23, pos := "law.go:22", after := #[], guard := Option.none }) (v := ?_) rfl (by kernel_rfl) (by kernel_rfl) (by kernel_rfl) (fun _ _ _ h => h) (Or.inl ⟨by rfl, ?_⟩) (by assumption) ?_
      rotate_left
      · intro w hSw
        (try dsimp only at hSw)
        go_simp
        try with_reducible rfl
      try simp only [Act.put, List.setIfInBounds_toArray, List.set_cons_zero, List.set_cons_succ]
      refine wpAnyH_take (i := 1) (oi := { dst := Option.some 18, op := Op.move (Operand.tmp 5), type := 3, pos := "law.go:22", after := #[], guard := Option.none }) (v := ?_) rfl (by kernel_rfl) (by kernel_rfl) (by kernel_rfl) (fun _ _ _ h => h) (Or.inl ⟨by rfl, ?_⟩) (by assumption) ?_
      rotate_left
      · intro w hSw
        (try dsimp only at hSw)
        go_simp
        try with_reducible rfl
      try simp only [Act.put, List.setIfInBounds_toArray, List.set_cons_zero, List.set_cons_succ]
      refine wpAnyH_take (i := 2) (oi := { dst := Option.some 19, op := Op.indexAddr 23 (Operand.tmp 17) (Operand.tmp 18), type := 0, pos := "law.go:22", after := #[{ on := 0, ground := Ground.data }, { on := 1, ground := Ground.data }], guard := Option.none }) (v := ?_) rfl (by kernel_rfl) (by kernel_rfl) (by kernel_rfl) (fun _ _ _ h => h) (Or.inl ⟨by rfl, ?_⟩) (by assumption) ?_
      rotate_left
      · intro w hSw
        (try dsimp only at hSw)
        go_simp
        try with_reducible rfl
      try simp only [Act.put, List.setIfInBounds_toArray, List.set_cons_zero, List.set_cons_succ]
      refine wpAnyH_take (i := 3) (oi := { dst := Option.some 20, op := Op.load 42 (Operand.tmp 19), type := 42, pos := "law.go:22", after := #[{ on := 2, ground := Ground.data }], guard := Option.none }) (v := .agg (nd20 x).toArray) rfl (by kernel_rfl) (by kernel_rfl) (by kernel_rfl) (fun _ _ _ h => h) (yieldsIf_load_mid (by rfl) 42 (.tmp 19) rfl b1 (o1 + i * 20) rfl (nd20 x) _ (fun _ h => h.1) Tryz.underlying42 rfl (by kernel_rfl)) (by assumption) ?_
      try simp only [Act.put, List.setIfInBounds_toArray, List.set_cons_zero, List.set_cons_succ]
      refine wpAnyH_take (i := 4) (oi := { dst := Option.some 21, op := Op.move (Operand.tmp 1), type := 23, pos := "law.go:22", after := #[], guard := Option.none }) (v := ?_) rfl (by kernel_rfl) (by kernel_rfl) (by kernel_rfl) (fun _ _ _ h => h) (Or.inl ⟨by rfl, ?_⟩) (by assumption) ?_
      rotate_left
      · intro w hSw
        (try dsimp only at hSw)
        go_simp
        try with_reducible rfl
      try simp only [Act.put, List.setIfInBounds_toArray, List.set_cons_zero, List.set_cons_succ]
      refine wpAnyH_take (i := 5) (oi := { dst := Option.some 22, op := Op.move (Operand.tmp 5), type := 3, pos := "law.go:22", after := #[], guard := Option.none }) (v := ?_) rfl (by kernel_rfl) (by kernel_rfl) (by kernel_rfl) (fun _ _ _ h => h) (Or.inl ⟨by rfl, ?_⟩) (by assumption) ?_
      rotate_left
      · intro w hSw
        (try dsimp only at hSw)
        go_simp
        try with_reducible rfl
      try simp only [Act.put, List.setIfInBounds_toArray, List.set_cons_zero, List.set_cons_succ]
      refine wpAnyH_take (i := 6) (oi := { dst := Option.some 23, op := Op.indexAddr 23 (Operand.tmp 21) (Operand.tmp 22), type := 0, pos := "law.go:22", after := #[{ on := 4, ground := Ground.data }, { on := 5, ground := Ground.data }], guard := Option.none }) (v := ?_) rfl (by kernel_rfl) (by kernel_rfl) (by kernel_rfl) (fun _ _ _ h => h) (Or.inl ⟨by rfl, ?_⟩) (by assumption) ?_
      rotate_left
      · intro w hSw
        (try dsimp only at hSw)
        go_simp
        try with_reducible rfl
      try simp only [Act.put, List.setIfInBounds_toArray, List.set_cons_zero, List.set_cons_succ]
      refine wpAnyH_take (i := 7) (oi := { dst := Option.some 24, op := Op.load 42 (Operand.tmp 23), type := 42, pos := "law.go:22", after := #[{ on := 6, ground := Ground.data }], guard := Option.none }) (v := .agg (nd20 x).toArray) rfl (by kernel_rfl) (by kernel_rfl) (by kernel_rfl) (fun _ _ _ h => h) (yieldsIf_load_mid (by rfl) 42 (.tmp 23) rfl b2 (o2 + i * 20) rfl (nd20 x) _ (fun _ h => h.2) Tryz.underlying42 rfl (by kernel_rfl)) (by assumption) ?_
      try simp only [Act.put, List.setIfInBounds_toArray, List.set_cons_zero, List.set_cons_succ]
      refine wpAnyH_take (i := 8) (oi := { dst := Option.some 25, op := Op.binOp BinOp.neq 42 (Operand.tmp 20) (Operand.tmp 24) 42, type := 4, pos := "law.go:22", after := #[{ on := 3, ground := Ground.data }, { on := 7, ground := Ground.data }], guard := Option.none }) (v := .bool false) rfl (by kernel_rfl) (by kernel_rfl) (by kernel_rfl) (fun _ _ _ h => h) (Or.inl ⟨by rfl, fun w _ => neqN_exec x w rfl rfl⟩) (by assumption) ?_
      try simp only [Act.put, List.setIfInBounds_toArray, List.set_cons_zero, List.set_cons_succ]
      refine wpAnyH_done (by kernel_rfl) ?_ _
      clear hHeld c1 c2
      have hbd := hb.drew
      go_wp2_with fail
      go_roundg (n - (i + 1))
      case rel => exact ⟨i + 1, by simp, rfl, by omega, hbd⟩
      case measure => omega
    · have hli : ¬ (i : Int) < (n : Int) := by omega
      go_wp2
      go_ret
      exact ⟨rfl, hb⟩
end Go.Proofs.YtjkchneffcppmabGreatDoor
/- What is written of tokens that were scanned. -/
namespace Wlx
theorem wv_tw (t : Tok) : wv (tv t) = writ t.k t.t := by
  unfold wv tv writ
  by_cases h : t.k = 2
  · rw [if_pos (by simp [h]), if_pos h]
  · rw [if_neg (by simp; omega), if_neg h]
theorem joinF_tw (ts : List Tok) : ∀ f, joinF f (ts.map tv) = joinT f ts := by
  induction ts with
  | nil => intro f; rfl
  | cons t r ih =>
    intro f
    show (if f then [] else [32]) ++ wv (tv t) ++ joinF false (r.map tv) = _
    rw [wv_tw, ih]; rfl
theorem undbl_len (l : List UInt8) : (undbl l).length ≤ l.length := by
  fun_induction undbl l with
  | case1 => exact Nat.le_refl _
  | case2 => exact Nat.le_refl _
  | case3 c d t hcd ih => simp only [List.length_cons]; omega
  | case4 c d t hcd ih => simp only [List.length_cons] at *; omega
theorem Ok.wgt {p : Nat} {l : List UInt8} {ts : List Tok} (h : Ok p l ts) : Wlx.wgt (ts.map tv) ≤ 2 * l.length := by
  induction h using Ok.ind with
  | nil p => exact Nat.zero_le _
  | blank h ih => simp only [List.length_cons]; omega
  | @tok p k u r ts ha hp h ih =>
    have h0 := ha.pos
    rw [List.map_cons, wgt_cons, List.length_append]
    have h1 : (said k u).length ≤ u.length := by
      unfold said
      split
      · have := undbl_len ((u.drop 1).take (u.length - 2))
        rw [List.length_take, List.length_drop] at this
        omega
      · exact Nat.le_refl _
    show (said k u).length + 1 + _ ≤ _
    omega
end Wlx
