/- Scanning, as a plain function. -/
import Derived.Test.YtjkohkhngeioiaaDoorLPlain
namespace Wlx

theorem begins_length : ∀ (p l : List UInt8), begins p l = true → p.length ≤ l.length
  | [], _, _ => Nat.zero_le _
  | _ :: _, [], h => by simp [begins] at h
  | a :: p, b :: t, h => by
    simp only [begins, Bool.and_eq_true] at h
    have := begins_length p t h.2
    simp only [List.length_cons]; omega
theorem nameSz_le (l : List UInt8) (ns : List (List UInt8)) : nameSz l ns ≤ l.length := by
  induction ns with
  | nil => exact Nat.zero_le _
  | cons n r ih =>
    unfold nameSz
    split
    · rename_i h; exact begins_length n l h
    · exact ih
theorem quo_le : ∀ (l : List UInt8) (w : Bool) (i : Nat), quo w i l ≤ i + l.length
  | [], w, i => by unfold quo; split <;> simp
  | c :: t, w, i => by
    unfold quo
    split
    · have := quo_le t (!w) (i + 1); simp only [List.length_cons]; omega
    · split
      · have := quo_le t w (i + 1); simp only [List.length_cons]; omega
      · omega
theorem numTl_le (n : Nat) (l : List UInt8) : numTl n l ≤ n + l.length := by
  cases l with
  | nil => exact Nat.le_refl _
  | cons c t =>
    rw [numTl_cons]
    have := runP_le dig t
    split <;> simp only [List.length_cons] <;> omega
theorem numSz_le (l : List UInt8) : numSz l ≤ l.length := by
  unfold numSz
  split
  · exact Nat.zero_le _
  · have h1 := numTl_le (runP dig l) (l.drop (runP dig l))
    have h2 := runP_le dig l
    rw [List.length_drop] at h1
    omega
theorem txtSz_le (l : List UInt8) : txtSz l ≤ l.length := by
  cases l with
  | nil => exact Nat.zero_le _
  | cons c t =>
    show (if c = 34 then quo true 1 t else 0) ≤ _
    split
    · have := quo_le t true 1; simp only [List.length_cons]; omega
    · exact Nat.zero_le _
theorem sz_le (k : Nat) (l : List UInt8) : sz k l ≤ l.length := by
  unfold sz
  split
  · exact numSz_le l
  split
  · exact txtSz_le l
  split
  · exact runP_le _ l
  split
  · exact nameSz_le l _
  split
  · exact nameSz_le l _
  exact Nat.zero_le _

/-- The first kind of which l begins with a token; 6, if there is none. -/
def hit (l : List UInt8) : Nat :=
  if 0 < sz 1 l then 1 else if 0 < sz 2 l then 2 else if 0 < sz 3 l then 3 else if 0 < sz 4 l then 4 else if 0 < sz 5 l then 5 else 6
theorem hit_pos {l : List UInt8} (h : ¬ hit l = 6) : 0 < sz (hit l) l := by
  unfold hit at *
  repeat' split
  all_goals first | assumption | (exfalso; apply h; simp_all)
theorem hit_low (l : List UInt8) : 1 ≤ hit l := by unfold hit; (repeat' split) <;> omega
theorem hit_high (l : List UInt8) : hit l ≤ 6 := by unfold hit; (repeat' split) <;> omega
theorem hit_first {l : List UInt8} {k : Nat} (h0 : 1 ≤ k) (h5 : k ≤ 5) (h : 0 < sz k l) (hb : ∀ j, 1 ≤ j → j < k → sz j l = 0) : hit l = k := by
  have : k = 1 ∨ k = 2 ∨ k = 3 ∨ k = 4 ∨ k = 5 := by omega
  unfold hit
  rcases this with rfl | rfl | rfl | rfl | rfl
  · rw [if_pos h]
  · rw [hb 1 (by omega) (by omega), if_neg (by omega), if_pos h]
  · rw [hb 1 (by omega) (by omega), if_neg (by omega), hb 2 (by omega) (by omega), if_neg (by omega), if_pos h]
  · rw [hb 1 (by omega) (by omega), if_neg (by omega), hb 2 (by omega) (by omega), if_neg (by omega), hb 3 (by omega) (by omega), if_neg (by omega), if_pos h]
  · rw [hb 1 (by omega) (by omega), if_neg (by omega), hb 2 (by omega) (by omega), if_neg (by omega), hb 3 (by omega) (by omega), if_neg (by omega), hb 4 (by omega) (by omega), if_neg (by omega), if_pos h]
theorem hit_none {l : List UInt8} (hb : ∀ j, 1 ≤ j → j ≤ 5 → sz j l = 0) : hit l = 6 := by
  unfold hit
  rw [hb 1 (by omega) (by omega), if_neg (by omega), hb 2 (by omega) (by omega), if_neg (by omega), hb 3 (by omega) (by omega), if_neg (by omega), hb 4 (by omega) (by omega), if_neg (by omega), hb 5 (by omega) (by omega), if_neg (by omega)]

structure Tok where
  k : Nat
  t : List UInt8
  p : Nat
/-- Tokens; or an error, and its place. -/
abbrev Res := Sum (List Tok) (Nat × Nat)
abbrev Res.ok (ts : List Tok) : Res := .inl ts
abbrev Res.err (e p : Nat) : Res := .inr (e, p)
def Res.cons (t : Tok) : Res → Res
  | .inl ts => .inl (t :: ts)
  | .inr x => .inr x
def Res.pre : List Tok → Res → Res
  | [], r => r
  | t :: a, r => Res.cons t (Res.pre a r)
theorem Res.pre_snoc (a : List Tok) (t : Tok) (r : Res) : Res.pre (a ++ [t]) r = Res.pre a (Res.cons t r) := by
  induction a with
  | nil => rfl
  | cons x a ih => exact congrArg (Res.cons x) ih
theorem Res.pre_ok (a b : List Tok) : Res.pre a (Res.ok b) = Res.ok (a ++ b) := by
  induction a with
  | nil => rfl
  | cons x a ih => show Res.cons x _ = _; rw [ih]; rfl
theorem Res.pre_err (a : List Tok) (e p : Nat) : Res.pre a (Res.err e p) = Res.err e p := by
  induction a with
  | nil => rfl
  | cons x a ih => show Res.cons x _ = _; rw [ih]; rfl

/-- The tokens of l, which stands at place p; f: no fewer than there are bytes. -/
def scanF : Nat → Nat → List UInt8 → Res
  | 0, _, _ => Res.ok []
  | _ + 1, _, [] => Res.ok []
  | f + 1, p, c :: t =>
    if c = 32 then scanF f (p + 1) t
    else if hit (c :: t) = 6 then Res.err (if c = 34 then 41 else 40) p
    else if runP prt ((c :: t).take (sz (hit (c :: t)) (c :: t))) < sz (hit (c :: t)) (c :: t) then Res.err 40 (p + runP prt ((c :: t).take (sz (hit (c :: t)) (c :: t))))
    else Res.cons ⟨hit (c :: t), said (hit (c :: t)) ((c :: t).take (sz (hit (c :: t)) (c :: t))), p⟩ (scanF f (p + sz (hit (c :: t)) (c :: t)) ((c :: t).drop (sz (hit (c :: t)) (c :: t))))
theorem scanF_cons (f p : Nat) (c : UInt8) (t : List UInt8) : scanF (f + 1) p (c :: t) = if c = 32 then scanF f (p + 1) t
    else if hit (c :: t) = 6 then Res.err (if c = 34 then 41 else 40) p
    else if runP prt ((c :: t).take (sz (hit (c :: t)) (c :: t))) < sz (hit (c :: t)) (c :: t) then Res.err 40 (p + runP prt ((c :: t).take (sz (hit (c :: t)) (c :: t))))
    else Res.cons ⟨hit (c :: t), said (hit (c :: t)) ((c :: t).take (sz (hit (c :: t)) (c :: t))), p⟩ (scanF f (p + sz (hit (c :: t)) (c :: t)) ((c :: t).drop (sz (hit (c :: t)) (c :: t)))) := rfl
theorem scanF_nil (f p : Nat) : scanF f p [] = Res.ok [] := by cases f <;> rfl
theorem scanF_any : ∀ (f g p : Nat) (l : List UInt8), l.length ≤ f → l.length ≤ g → scanF f p l = scanF g p l := by
  intro f
  induction f with
  | zero =>
    intro g p l h1 h2
    obtain rfl := List.eq_nil_of_length_eq_zero (Nat.le_zero.1 h1)
    rw [scanF_nil, scanF_nil]
  | succ f ih =>
    intro g p l h1 h2
    cases l with
    | nil => rw [scanF_nil, scanF_nil]
    | cons c t =>
      simp only [List.length_cons] at h1 h2
      obtain ⟨g, rfl⟩ : ∃ g', g = g' + 1 := ⟨g - 1, by omega⟩
      rw [scanF_cons, scanF_cons, ih g (p + 1) t (by omega) (by omega)]
      by_cases h6 : hit (c :: t) = 6
      · rw [if_pos h6, if_pos h6]
      · have := hit_pos h6
        have hl : ((c :: t).drop (sz (hit (c :: t)) (c :: t))).length ≤ t.length := by
          rw [List.length_drop]; simp only [List.length_cons]; omega
        rw [ih g (p + sz (hit (c :: t)) (c :: t)) ((c :: t).drop (sz (hit (c :: t)) (c :: t))) (by omega) (by omega)]
/-- The tokens of l, which stands at place p. -/
def scan (p : Nat) (l : List UInt8) : Res := scanF l.length p l
theorem scan_cons (p : Nat) (c : UInt8) (t : List UInt8) : scan p (c :: t) = if c = 32 then scan (p + 1) t
    else if hit (c :: t) = 6 then Res.err (if c = 34 then 41 else 40) p
    else if runP prt ((c :: t).take (sz (hit (c :: t)) (c :: t))) < sz (hit (c :: t)) (c :: t) then Res.err 40 (p + runP prt ((c :: t).take (sz (hit (c :: t)) (c :: t))))
    else Res.cons ⟨hit (c :: t), said (hit (c :: t)) ((c :: t).take (sz (hit (c :: t)) (c :: t))), p⟩ (scan (p + sz (hit (c :: t)) (c :: t)) ((c :: t).drop (sz (hit (c :: t)) (c :: t)))) := by
  unfold scan
  rw [List.length_cons, scanF_cons]
  by_cases h6 : hit (c :: t) = 6
  · rw [if_pos h6, if_pos h6]
  · have := hit_pos h6
    have hl : ((c :: t).drop (sz (hit (c :: t)) (c :: t))).length ≤ t.length := by
      rw [List.length_drop]; simp only [List.length_cons]; omega
    rw [scanF_any t.length _ (p + sz (hit (c :: t)) (c :: t)) ((c :: t).drop (sz (hit (c :: t)) (c :: t))) hl (Nat.le_refl _)]
theorem scan_nil (p : Nat) : scan p [] = Res.ok [] := rfl
theorem scan_blank (p : Nat) (t : List UInt8) : scan p (32 :: t) = scan (p + 1) t := by
  rw [scan_cons, if_pos rfl]
theorem scan_none {p : Nat} {c : UInt8} {t : List UInt8} (h : ¬ c = 32) (h6 : hit (c :: t) = 6) : scan p (c :: t) = Res.err (if c = 34 then 41 else 40) p := by
  rw [scan_cons, if_neg h, if_pos h6]
theorem scan_bad {p : Nat} {c : UInt8} {t : List UInt8} (h : ¬ c = 32) {k n : Nat} (hk : hit (c :: t) = k) (h6 : ¬ k = 6) (hn : sz k (c :: t) = n) (hb : runP prt ((c :: t).take n) < n) : scan p (c :: t) = Res.err 40 (p + runP prt ((c :: t).take n)) := by
  subst hk hn
  rw [scan_cons, if_neg h, if_neg h6, if_pos hb]
theorem scan_tok {p : Nat} {c : UInt8} {t : List UInt8} (h : ¬ c = 32) {k n : Nat} (hk : hit (c :: t) = k) (h6 : ¬ k = 6) (hn : sz k (c :: t) = n) (hb : ¬ runP prt ((c :: t).take n) < n) :
    scan p (c :: t) = Res.cons ⟨k, said k ((c :: t).take n), p⟩ (scan (p + n) ((c :: t).drop n)) := by
  subst hk hn
  rw [scan_cons, if_neg h, if_neg h6, if_neg hb]
end Wlx
