/- What a token is does not hang on what stands behind the byte behind it. -/
import Derived.Test.YtjkohkhngeioiaaDoorLPlainB
namespace Wlx

/-- The bytes that begin a mark. -/
def mk (c : UInt8) : Bool := marks.any fun n => n.head? == some c
theorem numSz_pos {c : UInt8} {t : List UInt8} : 0 < numSz (c :: t) ↔ dig c = true := by
  unfold numSz
  cases h : dig c with
  | false => rw [runP_neg h, if_pos rfl]; simp
  | true =>
    rw [runP_pos h, if_neg (by omega)]
    have g : ∀ n l, 0 < n → 0 < numTl n l := by
      intro n l hn
      cases l with
      | nil => exact hn
      | cons c t => rw [numTl_cons]; split <;> omega
    simp [g]
theorem txtSz_pos {c : UInt8} {t : List UInt8} (h : 0 < txtSz (c :: t)) : c = 34 := by
  have e : txtSz (c :: t) = if c = 34 then quo true 1 t else 0 := rfl
  rw [e] at h
  by_cases hc : c = 34
  · exact hc
  · rw [if_neg hc] at h; omega
theorem wrdSz_pos {c : UInt8} {t : List UInt8} : 0 < runP wrd (c :: t) ↔ wrd c = true := by
  cases h : wrd c with
  | false => rw [runP_neg h]; simp
  | true => rw [runP_pos h]; simp
theorem nameSz_head {c : UInt8} {t : List UInt8} : ∀ (ns : List (List UInt8)), 0 < nameSz (c :: t) ns → ∃ n ∈ ns, n.head? = some c
  | [], h => by simp [nameSz] at h
  | n :: r, h => by
    unfold nameSz at h
    by_cases hb : begins n (c :: t) = true
    · rw [if_pos hb] at h
      cases n with
      | nil => simp at h
      | cons a p =>
        simp only [begins, Bool.and_eq_true, decide_eq_true_eq] at hb
        exact ⟨a :: p, by simp, by rw [hb.1]; rfl⟩
    · rw [if_neg hb] at h
      obtain ⟨x, hx, hh⟩ := nameSz_head r h
      exact ⟨x, by simp [hx], hh⟩
theorem faultSz_pos {c : UInt8} {t : List UInt8} (h : 0 < nameSz (c :: t) faults) : c = 35 := by
  obtain ⟨n, hn, hh⟩ := nameSz_head faults h
  have : ∀ n ∈ faults, n.head? = some 35 := by decide
  rw [this n hn] at hh
  exact (Option.some.inj hh).symm
theorem markSz_pos {c : UInt8} {t : List UInt8} (h : 0 < nameSz (c :: t) marks) : mk c = true := by
  obtain ⟨n, hn, hh⟩ := nameSz_head marks h
  unfold mk
  exact List.any_eq_true.2 ⟨n, hn, by rw [hh]; simp⟩
theorem sz1 (l : List UInt8) : sz 1 l = numSz l := rfl
theorem sz2 (l : List UInt8) : sz 2 l = txtSz l := rfl
theorem sz3 (l : List UInt8) : sz 3 l = runP wrd l := rfl
theorem sz4 (l : List UInt8) : sz 4 l = nameSz l faults := rfl
theorem sz5 (l : List UInt8) : sz 5 l = nameSz l marks := rfl
theorem cls : ∀ c : UInt8, (wrd c = true → ¬ c = 34 ∧ ¬ c = 35 ∧ mk c = false ∧ ¬ c = 32 ∧ ¬ c = 46) ∧ (dig c = true → wrd c = true) ∧ (mk c = true → ¬ c = 34 ∧ ¬ c = 35 ∧ wrd c = false ∧ ¬ c = 32 ∧ ¬ c = 46) := by
  intro c
  have key : ∀ n : Fin 256, (wrd (UInt8.ofNat n) = true → ¬ UInt8.ofNat n = 34 ∧ ¬ UInt8.ofNat n = 35 ∧ mk (UInt8.ofNat n) = false ∧ ¬ UInt8.ofNat n = 32 ∧ ¬ UInt8.ofNat n = 46) ∧ (dig (UInt8.ofNat n) = true → wrd (UInt8.ofNat n) = true) ∧ (mk (UInt8.ofNat n) = true → ¬ UInt8.ofNat n = 34 ∧ ¬ UInt8.ofNat n = 35 ∧ wrd (UInt8.ofNat n) = false ∧ ¬ UInt8.ofNat n = 32 ∧ ¬ UInt8.ofNat n = 46) := by decide +kernel
  have := key ⟨c.toNat, c.toNat_lt⟩
  simpa using this
/-- What the first byte tells of the kind, and the other way around. -/
theorem kind_of {c : UInt8} {t : List UInt8} {k : Nat} (hk : hit (c :: t) = k) (h6 : ¬ k = 6) :
    (k = 1 ∧ dig c = true ∨ k = 2 ∧ c = 34 ∨ k = 3 ∧ wrd c = true ∧ dig c = false ∨ k = 4 ∧ c = 35 ∨ k = 5 ∧ mk c = true) := by
  have hp := hit_pos (l := c :: t) (by rw [hk]; exact h6)
  have h1 := hit_low (c :: t)
  have h2 := hit_high (c :: t)
  rw [hk] at hp h1 h2
  have : k = 1 ∨ k = 2 ∨ k = 3 ∨ k = 4 ∨ k = 5 := by omega
  rcases this with rfl | rfl | rfl | rfl | rfl
  · exact Or.inl ⟨rfl, numSz_pos.1 hp⟩
  · exact Or.inr (Or.inl ⟨rfl, txtSz_pos hp⟩)
  · refine Or.inr (Or.inr (Or.inl ⟨rfl, wrdSz_pos.1 hp, ?_⟩))
    cases hd : dig c with
    | false => rfl
    | true =>
      have : hit (c :: t) = 1 := hit_first (by omega) (by omega) (numSz_pos.2 hd) (fun j a b => by omega)
      rw [this] at hk; omega
  · exact Or.inr (Or.inr (Or.inr (Or.inl ⟨rfl, faultSz_pos hp⟩)))
  · exact Or.inr (Or.inr (Or.inr (Or.inr ⟨rfl, markSz_pos hp⟩)))
/-- The kind by the first byte, where a token of it stands. -/
theorem hit_of {c : UInt8} {t : List UInt8} {k : Nat} (h : k = 1 ∧ dig c = true ∨ k = 2 ∧ c = 34 ∨ k = 3 ∧ wrd c = true ∧ dig c = false ∨ k = 4 ∧ c = 35 ∨ k = 5 ∧ mk c = true) (hp : 0 < sz k (c :: t)) : hit (c :: t) = k := by
  obtain ⟨c1, c2, c3⟩ := cls c
  have z1 : dig c = false → sz 1 (c :: t) = 0 := fun hd => by
    have : ¬ 0 < numSz (c :: t) := fun h => by rw [numSz_pos.1 h] at hd; cases hd
    rw [sz1]; omega
  have z2 : ¬ c = 34 → sz 2 (c :: t) = 0 := fun hd => by
    have : ¬ 0 < txtSz (c :: t) := fun h => hd (txtSz_pos h)
    rw [sz2]; omega
  have z3 : wrd c = false → sz 3 (c :: t) = 0 := fun hd => by
    have : ¬ 0 < runP wrd (c :: t) := fun h => by rw [wrdSz_pos.1 h] at hd; cases hd
    rw [sz3]; omega
  have z4 : ¬ c = 35 → sz 4 (c :: t) = 0 := fun hd => by
    have : ¬ 0 < nameSz (c :: t) faults := fun h => hd (faultSz_pos h)
    rw [sz4]; omega
  have nd : wrd c = false → dig c = false := fun h => by
    cases hd : dig c with
    | false => rfl
    | true => rw [c2 hd] at h; cases h
  rcases h with ⟨rfl, hd⟩ | ⟨rfl, rfl⟩ | ⟨rfl, hw, hd⟩ | ⟨rfl, rfl⟩ | ⟨rfl, hm⟩
  · exact hit_first (by omega) (by omega) hp (fun j a b => by omega)
  · exact hit_first (by omega) (by omega) hp (fun j a b => by
      obtain rfl : j = 1 := by omega
      exact z1 (by decide))
  · obtain ⟨a1, a2, a3, a4, a5⟩ := c1 hw
    exact hit_first (by omega) (by omega) hp (fun j a b => by
      have : j = 1 ∨ j = 2 := by omega
      rcases this with rfl | rfl
      · exact z1 hd
      · exact z2 a1)
  · exact hit_first (by omega) (by omega) hp (fun j a b => by
      have : j = 1 ∨ j = 2 ∨ j = 3 := by omega
      rcases this with rfl | rfl | rfl
      · exact z1 (by decide)
      · exact z2 (by decide)
      · exact z3 (by decide))
  · obtain ⟨a1, a2, a3, a4, a5⟩ := c3 hm
    exact hit_first (by omega) (by omega) hp (fun j a b => by
      have : j = 1 ∨ j = 2 ∨ j = 3 ∨ j = 4 := by omega
      rcases this with rfl | rfl | rfl | rfl
      · exact z1 (nd a3)
      · exact z2 a1
      · exact z3 a3
      · exact z4 a2)
end Wlx
