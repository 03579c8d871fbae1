/- Cells and areas as plain numbers: numbers of cells, what two areas have. -/
import Derived.Test.YtpbjmhcpaeillaaPPlain
namespace Wpl

theorem sizeA_pos {s t l b r : Int} (h : rightA s t l b r = true) : sizeA s t l b r = (b - t + 1) * (r - l + 1) := by unfold sizeA; rw [h]; rfl
theorem sizeA_neg {s t l b r : Int} (h : rightA s t l b r = false) : sizeA s t l b r = 0 := by unfold sizeA; rw [h]; rfl
theorem sizeA_le (s t l b r : Int) : 0 ≤ sizeA s t l b r ∧ sizeA s t l b r ≤ 16777216 := by
  cases h : rightA s t l b r with
  | false => rw [sizeA_neg h]; omega
  | true =>
    rw [sizeA_pos h]
    have hh := rightA_iff.1 h
    have m0 : 0 ≤ (b - t + 1) * (r - l + 1) := Int.mul_nonneg (by omega) (by omega)
    have m1 : (b - t + 1) * (r - l + 1) ≤ 65536 * 256 := Int.mul_le_mul (by omega) (by omega) (by omega) (by omega)
    omega
/-- Is there a cell number k? -/
def atOk (s t l b r k : Int) : Bool := inB k (sizeA s t l b r)
/-- The cell number k of an area that has so many. -/
def num (s t l r k : Int) : Cl := ⟨s, t + k / (r - l + 1), l + k % (r - l + 1)⟩
def atV (s t l b r k : Int) : Cl := if atOk s t l b r k then num s t l r k else nullC
theorem atOk_right {s t l b r k : Int} (h : atOk s t l b r k = true) : rightA s t l b r = true := by
  cases e : rightA s t l b r with
  | true => rfl
  | false =>
    unfold atOk at h; rw [inB_iff, sizeA_neg e] at h; omega
theorem num_in {s t l b r k : Int} (h : atOk s t l b r k = true) :
    0 ≤ k ∧ k < (b - t + 1) * (r - l + 1) ∧ 0 ≤ k / (r - l + 1) ∧ k / (r - l + 1) < b - t + 1 ∧ 0 ≤ k % (r - l + 1) ∧ k % (r - l + 1) < r - l + 1 := by
  have hr := rightA_iff.1 (atOk_right h)
  have h' := h
  unfold atOk at h'; rw [inB_iff, sizeA_pos (atOk_right h)] at h'
  have hp : 0 < r - l + 1 := by omega
  refine ⟨h'.1, h'.2, Int.ediv_nonneg h'.1 (by omega), ?_, Int.emod_nonneg _ (by omega), Int.emod_lt_of_pos _ hp⟩
  exact Int.ediv_lt_of_lt_mul hp h'.2
def indexV (s t l b r cs cr cc : Int) : Int := if hasA s t l b r cs cr cc then (cr - t) * (r - l + 1) + cc - l else 0
theorem hasA_iff {s t l b r cs cr cc : Int} : hasA s t l b r cs cr cc = true ↔ rightA s t l b r = true ∧ cs = s ∧ t ≤ cr ∧ cr ≤ b ∧ l ≤ cc ∧ cc ≤ r := by
  simp [hasA]
theorem index_in {s t l b r cs cr cc : Int} (h : hasA s t l b r cs cr cc = true) : 0 ≤ (cr - t) * (r - l + 1) ∧ (cr - t) * (r - l + 1) ≤ 16777216 ∧ 0 ≤ (cr - t) * (r - l + 1) + cc - l ∧ (cr - t) * (r - l + 1) + cc - l < sizeA s t l b r := by
  obtain ⟨ha, hs, h1, h2, h3, h4⟩ := hasA_iff.1 h
  have hr := rightA_iff.1 ha
  rw [sizeA_pos ha]
  have m0 : 0 ≤ (cr - t) * (r - l + 1) := Int.mul_nonneg (by omega) (by omega)
  have m1 : (cr - t) * (r - l + 1) ≤ 65536 * 256 := Int.mul_le_mul (by omega) (by omega) (by omega) (by omega)
  have m2 : (cr - t) * (r - l + 1) ≤ (b - t) * (r - l + 1) := Int.mul_le_mul_of_nonneg_right (by omega) (by omega)
  have m3 : (b - t + 1) * (r - l + 1) = (b - t) * (r - l + 1) + (r - l + 1) := by rw [Int.add_mul, Int.one_mul]
  omega
/-- At behind Index. -/
theorem at_index {s t l b r cs cr cc : Int} (h : hasA s t l b r cs cr cc = true) : atOk s t l b r (indexV s t l b r cs cr cc) = true ∧ atV s t l b r (indexV s t l b r cs cr cc) = ⟨cs, cr, cc⟩ := by
  have hi := index_in h
  obtain ⟨ha, hs, h1, h2, h3, h4⟩ := hasA_iff.1 h
  have e : indexV s t l b r cs cr cc = (cr - t) * (r - l + 1) + cc - l := by unfold indexV; rw [h]; rfl
  have ok : atOk s t l b r (indexV s t l b r cs cr cc) = true := by rw [e]; unfold atOk; rw [inB_iff]; omega
  refine ⟨ok, ?_⟩
  have hp : 0 < r - l + 1 := by omega
  unfold atV; rw [ok, e]
  show num s t l r _ = _
  unfold num
  have e1 : (cr - t) * (r - l + 1) + cc - l = (cc - l) + (r - l + 1) * (cr - t) := by rw [Int.mul_comm]; omega
  have e2 : ((cc - l) + (r - l + 1) * (cr - t)) / (r - l + 1) = cr - t := by
    rw [Int.add_mul_ediv_left _ _ (by omega), Int.ediv_eq_zero_of_lt (by omega) (by omega)]; omega
  have e3 : ((cc - l) + (r - l + 1) * (cr - t)) % (r - l + 1) = cc - l := by
    rw [Int.add_mul_emod_self_left, Int.emod_eq_of_lt (by omega) (by omega)]
  rw [e1, e2, e3, hs]
  rw [show t + (cr - t) = cr by omega, show l + (cc - l) = cc by omega]
/-- Index behind At. -/
theorem index_at {s t l b r k : Int} (h : atOk s t l b r k = true) : atV s t l b r k = num s t l r k ∧ hasA s t l b r (num s t l r k).s (num s t l r k).r (num s t l r k).c = true ∧ indexV s t l b r (num s t l r k).s (num s t l r k).r (num s t l r k).c = k := by
  have hk := num_in h
  have ha := atOk_right h
  have hr := rightA_iff.1 ha
  have h1 : hasA s t l b r (num s t l r k).s (num s t l r k).r (num s t l r k).c = true := by
    rw [hasA_iff]; refine ⟨ha, rfl, ?_⟩; show t ≤ t + k / (r - l + 1) ∧ t + k / (r - l + 1) ≤ b ∧ l ≤ l + k % (r - l + 1) ∧ l + k % (r - l + 1) ≤ r; omega
  refine ⟨by unfold atV; rw [h]; rfl, h1, ?_⟩
  unfold indexV; rw [h1]
  show (t + k / (r - l + 1) - t) * (r - l + 1) + (l + k % (r - l + 1)) - l = k
  have := Int.emod_add_mul_ediv k (r - l + 1)
  rw [show t + k / (r - l + 1) - t = k / (r - l + 1) by omega, Int.mul_comm]
  omega
theorem num_right {s t l b r k : Int} (h : atOk s t l b r k = true) : rightC (num s t l r k).s (num s t l r k).r (num s t l r k).c = true := by
  have hk := num_in h
  have hr := rightA_iff.1 (atOk_right h)
  rw [rightC_iff]; show 0 ≤ s ∧ s < 16 ∧ 0 ≤ t + k / (r - l + 1) ∧ t + k / (r - l + 1) < 65536 ∧ 0 ≤ l + k % (r - l + 1) ∧ l + k % (r - l + 1) < 256; omega
/-- What comes next stands behind. -/
theorem num_next {s t l b r k : Int} (h : atOk s t l b r k = true) (h' : atOk s t l b r (k + 1) = true) :
    before (num s t l r k).s (num s t l r k).r (num s t l r k).c (num s t l r (k + 1)).s (num s t l r (k + 1)).r (num s t l r (k + 1)).c = true := by
  have hk := num_in h
  have hk' := num_in h'
  have hr := rightA_iff.1 (atOk_right h)
  unfold before num; simp only [ne_eq, not_true_eq_false, if_false]
  have d1 := Int.emod_add_mul_ediv k (r - l + 1)
  have d2 := Int.emod_add_mul_ediv (k + 1) (r - l + 1)
  have hp : 0 < r - l + 1 := by omega
  have hle : k / (r - l + 1) ≤ (k + 1) / (r - l + 1) := Int.ediv_le_ediv hp (by omega)
  by_cases e : k / (r - l + 1) = (k + 1) / (r - l + 1)
  · rw [e] at d1 ⊢
    simp
    omega
  · rw [if_pos (by omega)]
    simp; omega

/-- What two areas have in common. -/
def bothA (s t l b r t' l' b' r' : Int) : Ar := ⟨s, max t t', max l l', min b b', min r r'⟩
def meetOk (x y : Ar) : Bool := rightA x.s x.t x.l x.b x.r && rightA y.s y.t y.l y.b y.r && decide (x.s = y.s) && rightA x.s (max x.t y.t) (max x.l y.l) (min x.b y.b) (min x.r y.r)
def meetV (x y : Ar) : Ar := if meetOk x y then ⟨x.s, max x.t y.t, max x.l y.l, min x.b y.b, min x.r y.r⟩ else nullA
end Wpl
