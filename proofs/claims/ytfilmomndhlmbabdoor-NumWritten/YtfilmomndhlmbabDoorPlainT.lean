/- Plain facts on pieces of texts. -/
import Derived.Test.YtfilmomndhlmbabDoorPlainS
namespace Go.Proofs.YtfilmomndhlmbabDoor.Wnum

theorem sub_facts {t : ByteArray} {p : Nat} (h : p ≤ t.size) : (t.extract p t.size).size = t.size - p ∧ ∀ i, bt (t.extract p t.size) i = bt t (p + i) := by
  constructor
  · rw [ByteArray.size_extract]; omega
  · intro i
    obtain ⟨⟨l⟩⟩ := t
    have hl : (ByteArray.mk ⟨l⟩).size = l.length := rfl
    have e : ((ByteArray.mk ⟨l⟩).extract p (ByteArray.mk ⟨l⟩).size).data.toList = l.drop p := by
      rw [hl]
      simp
      exact List.take_of_length_le (by simp)
    unfold bt
    rw [e]
    show (((l.drop p).getD i 0).toNat : Int) = ((l.getD (p + i) 0).toNat : Int)
    simp [List.getD, List.getElem?_drop]
theorem same_from {t u : ByteArray} {p : Nat} (hsz : u.size = t.size - p) (hbt : ∀ i, bt u i = bt t (p + i)) (i : Nat) : dk u i = dk t (p + i) ∧ dv u i = dv t (p + i) ∧ dB u i = dB t (p + i) := by
  have hc : ∀ k j, cnt u j k = cnt t (p + j) k := by
    intro k
    induction k with
    | zero => intro j; rfl
    | succ k ih =>
      intro j
      show (if isD (bt u j) then cnt u (j + 1) k + 1 else 0) = (if isD (bt t (p + j)) then cnt t (p + j + 1) k + 1 else 0)
      rw [hbt, ih, show p + (j + 1) = p + j + 1 by omega]
  have hsay : ∀ k j, say u j k = say t (p + j) k := by
    intro k
    induction k with
    | zero => intro j; rfl
    | succ k ih =>
      intro j
      show say u j k * 10 + (bt u (j + k) - 48) = say t (p + j) k * 10 + (bt t (p + j + k) - 48)
      rw [ih, hbt, show p + (j + k) = p + j + k by omega]
  have h1 : dk u i = dk t (p + i) := by
    unfold dk
    rw [hc, hsz, show t.size - p - i = t.size - (p + i) by omega]
  have h2 : dv u i = dv t (p + i) := by unfold dv; rw [hsay, h1]
  exact ⟨h1, h2, by unfold dB; rw [h1, h2]⟩
/-- What readPlaces tells. -/
def plB (t : ByteArray) (n : Int) : Bool := decide (t.size ≤ 6) && decide (n ≤ 1000000000000) && dB t 0 && decide (dk t 0 = t.size)
def plN (t : ByteArray) (n : Int) : Int := if plB t n = true then n * tenP t.size + dv t 0 else 0
def plD (t : ByteArray) (n : Int) : Int := if plB t n = true then tenP t.size else 0
theorem pl_false {t : ByteArray} {n : Int} (h : plB t n = false) : plN t n = 0 ∧ plD t n = 0 := by unfold plN plD; rw [h]; exact ⟨rfl, rfl⟩
theorem pl_true {t : ByteArray} {n : Int} (h : plB t n = true) : plN t n = n * tenP t.size + dv t 0 ∧ plD t n = tenP t.size := by unfold plN plD; rw [h]; exact ⟨rfl, rfl⟩
/-- What readFraction tells: of the byte behind the first digits. -/
def fC (t : ByteArray) : Int := bt t (dk t 0)
def fS (t : ByteArray) : ByteArray := (t.extract (dk t 0) t.size).extract 1 (t.extract (dk t 0) t.size).size
def fB (t : ByteArray) : Bool :=
  if dB t 0 = false then false else if dk t 0 = t.size then true else if fC t = 46 then plB (fS t) (dv t 0) else if fC t = 47 then dB (fS t) 0 && decide (dk (fS t) 0 = (fS t).size) else false
def fN (t : ByteArray) : Int :=
  if fB t = false then 0 else if dk t 0 = t.size then dv t 0 else if fC t = 46 then plN (fS t) (dv t 0) else dv t 0
def fD (t : ByteArray) : Int :=
  if fB t = false then 0 else if dk t 0 = t.size then 1 else if fC t = 46 then plD (fS t) (dv t 0) else dv (fS t) 0
theorem f_false {t : ByteArray} (h : fB t = false) : fN t = 0 ∧ fD t = 0 := ⟨if_pos h, if_pos h⟩
theorem f_none {t : ByteArray} (h : dB t 0 = false) : fB t = false := if_pos h
theorem f_whole {t : ByteArray} (h : dB t 0 = true) (e : dk t 0 = t.size) : fB t = true ∧ fN t = dv t 0 ∧ fD t = 1 := by
  have h1 : fB t = true := by unfold fB; rw [if_neg (by rw [h]; decide), if_pos e]
  exact ⟨h1, by unfold fN; rw [if_neg (by rw [h1]; decide), if_pos e], by unfold fD; rw [if_neg (by rw [h1]; decide), if_pos e]⟩
theorem f_point {t : ByteArray} (h : dB t 0 = true) (e : ¬ dk t 0 = t.size) (c : fC t = 46) : fB t = plB (fS t) (dv t 0) ∧ fN t = plN (fS t) (dv t 0) ∧ fD t = plD (fS t) (dv t 0) := by
  have h1 : fB t = plB (fS t) (dv t 0) := by unfold fB; rw [if_neg (by rw [h]; decide), if_neg e, if_pos c]
  refine ⟨h1, ?_, ?_⟩
  · cases hb : plB (fS t) (dv t 0) with
    | false => rw [(f_false (h1.trans hb)).1, (pl_false hb).1]
    | true => unfold fN; rw [if_neg (by rw [h1, hb]; decide), if_neg e, if_pos c]
  · cases hb : plB (fS t) (dv t 0) with
    | false => rw [(f_false (h1.trans hb)).2, (pl_false hb).2]
    | true => unfold fD; rw [if_neg (by rw [h1, hb]; decide), if_neg e, if_pos c]
theorem f_over {t : ByteArray} (h : dB t 0 = true) (e : ¬ dk t 0 = t.size) (c : fC t = 47) : fB t = (dB (fS t) 0 && decide (dk (fS t) 0 = (fS t).size)) ∧ (fB t = true → fN t = dv t 0 ∧ fD t = dv (fS t) 0) := by
  have n46 : ¬ fC t = 46 := by omega
  have h1 : fB t = (dB (fS t) 0 && decide (dk (fS t) 0 = (fS t).size)) := by unfold fB; rw [if_neg (by rw [h]; decide), if_neg e, if_neg n46, if_pos c]
  refine ⟨h1, fun hb => ⟨?_, ?_⟩⟩
  · unfold fN; rw [if_neg (by rw [hb]; decide), if_neg e, if_neg n46]
  · unfold fD; rw [if_neg (by rw [hb]; decide), if_neg e, if_neg n46]
theorem f_other {t : ByteArray} (h : dB t 0 = true) (e : ¬ dk t 0 = t.size) (c : ¬ fC t = 46) (c' : ¬ fC t = 47) : fB t = false := by
  unfold fB; rw [if_neg (by rw [h]; decide), if_neg e, if_neg c, if_neg c']
theorem dB_bd {t : ByteArray} {i : Nat} (h : dB t i = true) : 0 < dk t i ∧ 0 ≤ dv t i ∧ dv t i ≤ 1000000000000000000 := by
  have := of_decide_eq_true h
  exact ⟨this.1, dv_nonneg t i, this.2⟩
theorem say_small {s : ByteArray} {i : Nat} : ∀ k, (∀ m, m < k → isD (bt s (i + m))) → say s i k < tenP k := by
  intro k
  induction k with
  | zero => intro _; exact (by decide : (0 : Int) < 1)
  | succ k ih =>
    intro h
    have h1 := ih (fun m hm => h m (by omega))
    have h2 := (h k (by omega)).2
    rw [say_succ, tenP_succ]
    omega
end Go.Proofs.YtfilmomndhlmbabDoor.Wnum
