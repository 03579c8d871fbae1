/- Plain facts on what a text reads as. -/
import Derived.Test.YtfilmomndhlmbabDoorPlainT
namespace Go.Proofs.YtfilmomndhlmbabDoor.Wnum

def minusB (s : ByteArray) : Bool := decide (0 < s.size ∧ bt s 0 = 45)
def body (s : ByteArray) : ByteArray := if minusB s = true then s.extract 1 s.size else s
def sgnd (b : Bool) (n : Int) : Int := if b = true then -n else n
/-- What a text reads as. -/
def rdO (s : ByteArray) : Option Rat := if fB (body s) = true then mk (sgnd (minusB s) (fN (body s))) (fD (body s)) else none
/-- Where its first digits begin. -/
def aOf (s : ByteArray) : Nat := if minusB s = true then 1 else 0
theorem body_facts (s : ByteArray) : (body s).size = s.size - aOf s ∧ (∀ i, bt (body s) i = bt s (aOf s + i)) ∧ aOf s ≤ s.size := by
  unfold body aOf
  cases h : minusB s with
  | true =>
    have := (of_decide_eq_true h).1
    obtain ⟨h1, h2⟩ := sub_facts (t := s) (p := 1) (by omega)
    exact ⟨h1, h2, by show 1 ≤ s.size; omega⟩
  | false => exact ⟨rfl, fun i => by show bt s i = bt s (0 + i); rw [Nat.zero_add], Nat.zero_le _⟩
theorem fS_facts {t : ByteArray} (h : dk t 0 < t.size) : (fS t).size = t.size - (dk t 0 + 1) ∧ ∀ i, bt (fS t) i = bt t (dk t 0 + 1 + i) := by
  obtain ⟨h1, h2⟩ := sub_facts (t := t) (p := dk t 0) (by omega)
  obtain ⟨h3, h4⟩ := sub_facts (t := t.extract (dk t 0) t.size) (p := 1) (by omega)
  refine ⟨?_, fun i => ?_⟩
  · show ((t.extract (dk t 0) t.size).extract 1 (t.extract (dk t 0) t.size).size).size = _
    rw [h3, h1]; omega
  · show bt ((t.extract (dk t 0) t.size).extract 1 (t.extract (dk t 0) t.size).size) i = _
    rw [h4, h2, show dk t 0 + (1 + i) = dk t 0 + 1 + i by omega]
theorem f_bd (t : ByteArray) : 0 ≤ fN t ∧ fN t ≤ 1000000000001000000 ∧ 0 ≤ fD t ∧ fD t ≤ 1000000000000000000 := by
  cases hf : fB t with
  | false => rw [(f_false hf).1, (f_false hf).2]; omega
  | true =>
    cases hb : dB t 0 with
    | false => rw [f_none hb] at hf; cases hf
    | true =>
      obtain ⟨b1, b2, b3⟩ := dB_bd hb
      by_cases e : dk t 0 = t.size
      · rw [(f_whole hb e).2.1, (f_whole hb e).2.2]; omega
      · by_cases c : fC t = 46
        · obtain ⟨g0, g1, g2⟩ := f_point hb e c
          rw [g0] at hf
          have hp := hf
          unfold plB at hp
          simp only [Bool.and_eq_true, decide_eq_true_iff] at hp
          obtain ⟨⟨⟨p1, p2⟩, p3⟩, p4⟩ := hp
          have sm := say_small (s := fS t) (i := 0) (dk (fS t) 0) (dk_all (fS t) 0)
          have t1 := tenP_le6 (k := (fS t).size) p1
          have t2 := tenP_pos (fS t).size
          have sv : dv (fS t) 0 < tenP (fS t).size := by unfold dv; rw [p4] at sm ⊢; exact sm
          have s0 := dv_nonneg (fS t) 0
          rw [g1, g2, (pl_true hf).1, (pl_true hf).2]
          have m1 : 0 ≤ dv t 0 * tenP (fS t).size := Int.mul_nonneg b2 (by omega)
          have m2 : dv t 0 * tenP (fS t).size ≤ 1000000000000 * 1000000 := Int.mul_le_mul p2 t1 (by omega) (by omega)
          omega
        · by_cases c' : fC t = 47
          · obtain ⟨g0, g1⟩ := f_over hb e c'
            have hd : dB (fS t) 0 = true := by rw [g0, Bool.and_eq_true] at hf; exact hf.1
            obtain ⟨d1, d2, d3⟩ := dB_bd hd
            rw [(g1 hf).1, (g1 hf).2]; omega
          · rw [f_other hb e c c'] at hf; cases hf
/-- The same told by places of the whole text. -/
theorem r_none {s : ByteArray} (h : dB s (aOf s) = false) : rdO s = none := by
  obtain ⟨h1, h2, h3⟩ := body_facts s
  have e := (same_from h1 h2 0).2.2
  rw [Nat.add_zero, h] at e
  unfold rdO
  rw [f_none e]; rfl
theorem r_whole {s : ByteArray} (h : dB s (aOf s) = true) (e : aOf s + dk s (aOf s) = s.size) : rdO s = mk (sgnd (minusB s) (dv s (aOf s))) 1 := by
  obtain ⟨h1, h2, h3⟩ := body_facts s
  obtain ⟨k1, k2, k3⟩ := same_from h1 h2 0
  rw [Nat.add_zero] at k1 k2 k3
  obtain ⟨f0, f1, f2⟩ := f_whole (t := body s) (by rw [k3, h]) (by rw [k1, h1]; omega)
  unfold rdO
  rw [f0, f1, f2, k2]; rfl
/-- Behind the first digits. -/
theorem r_more {s : ByteArray} (h : dB s (aOf s) = true) (e : aOf s + dk s (aOf s) < s.size) :
    (¬ (dB s (aOf s + dk s (aOf s) + 1) = true ∧ aOf s + dk s (aOf s) + 1 + dk s (aOf s + dk s (aOf s) + 1) = s.size) → rdO s = none) ∧
    (dB s (aOf s + dk s (aOf s) + 1) = true → aOf s + dk s (aOf s) + 1 + dk s (aOf s + dk s (aOf s) + 1) = s.size →
      (bt s (aOf s + dk s (aOf s)) = 47 → rdO s = mk (sgnd (minusB s) (dv s (aOf s))) (dv s (aOf s + dk s (aOf s) + 1))) ∧
      (¬ bt s (aOf s + dk s (aOf s)) = 47 → ¬ bt s (aOf s + dk s (aOf s)) = 46 → rdO s = none) ∧
      (bt s (aOf s + dk s (aOf s)) = 46 → (6 < dk s (aOf s + dk s (aOf s) + 1) ∨ 1000000000000 < dv s (aOf s)) → rdO s = none) ∧
      (bt s (aOf s + dk s (aOf s)) = 46 → dk s (aOf s + dk s (aOf s) + 1) ≤ 6 → dv s (aOf s) ≤ 1000000000000 →
        rdO s = mk (sgnd (minusB s) (dv s (aOf s) * tenP (dk s (aOf s + dk s (aOf s) + 1)) + dv s (aOf s + dk s (aOf s) + 1))) (tenP (dk s (aOf s + dk s (aOf s) + 1))))) := by
  obtain ⟨h1, h2, h3⟩ := body_facts s
  obtain ⟨k1, k2, k3⟩ := same_from h1 h2 0
  rw [Nat.add_zero] at k1 k2 k3
  have hb : dB (body s) 0 = true := by rw [k3, h]
  have hlt : dk (body s) 0 < (body s).size := by rw [k1, h1]; omega
  have hne : ¬ dk (body s) 0 = (body s).size := by omega
  obtain ⟨g1, g2⟩ := fS_facts hlt
  have hC : fC (body s) = bt s (aOf s + dk s (aOf s)) := by unfold fC; rw [h2, k1]
  have hS : (fS (body s)).size = s.size - (aOf s + dk s (aOf s) + 1) := by rw [g1, h1, k1]; omega
  have hT : ∀ i, bt (fS (body s)) i = bt s (aOf s + dk s (aOf s) + 1 + i) := fun i => by
    rw [g2, h2, k1, show aOf s + (dk s (aOf s) + 1 + i) = aOf s + dk s (aOf s) + 1 + i by omega]
  obtain ⟨l1, l2, l3⟩ := same_from hS hT 0
  rw [Nat.add_zero] at l1 l2 l3
  generalize hi : aOf s + dk s (aOf s) + 1 = i1 at *
  have lk := dk_le s i1
  have sz : (fS (body s)).size = dk s i1 ↔ i1 + dk s i1 = s.size := by rw [hS]; omega
  have hpl : plB (fS (body s)) (dv (body s) 0) = (decide ((fS (body s)).size ≤ 6) && decide (dv s (aOf s) ≤ 1000000000000) && dB s i1 && decide (dk s i1 = (fS (body s)).size)) := by unfold plB; rw [k2, l3, l1]
  constructor
  · intro hn
    have hf : fB (body s) = false := by
      by_cases c : fC (body s) = 46
      · rw [(f_point hb hne c).1, hpl]
        by_cases g : dB s i1 = true
        · have : ¬ dk s i1 = (fS (body s)).size := fun x => hn ⟨g, sz.1 x.symm⟩
          rw [decide_eq_false this, Bool.and_false]
        · rw [Bool.not_eq_true] at g; rw [g, Bool.and_false, Bool.false_and]
      · by_cases c' : fC (body s) = 47
        · rw [(f_over hb hne c').1, l3, l1]
          by_cases g : dB s i1 = true
          · have : ¬ dk s i1 = (fS (body s)).size := fun x => hn ⟨g, sz.1 x.symm⟩
            rw [decide_eq_false this, Bool.and_false]
          · rw [Bool.not_eq_true] at g; rw [g, Bool.false_and]
        · exact f_other hb hne c c'
    unfold rdO; rw [hf]; rfl
  · intro hd he
    have es := sz.2 he
    have esd : decide (dk s i1 = (fS (body s)).size) = true := decide_eq_true es.symm
    refine ⟨fun c => ?_, fun c c' => ?_, fun c hw => ?_, fun c w1 w2 => ?_⟩
    · obtain ⟨f0, f1⟩ := f_over hb hne (hC.trans c)
      have hf : fB (body s) = true := by rw [f0, l3, l1, hd, esd]; rfl
      unfold rdO
      rw [hf, (f1 hf).1, (f1 hf).2, k2, l2]; rfl
    · have hf := f_other hb hne (by rw [hC]; exact c') (by rw [hC]; exact c)
      unfold rdO; rw [hf]; rfl
    · have hf : fB (body s) = false := by
        rw [(f_point hb hne (hC.trans c)).1, hpl]
        rcases hw with hw | hw
        · rw [decide_eq_false (p := (fS (body s)).size ≤ 6) (by omega)]; rfl
        · rw [decide_eq_false (p := dv s (aOf s) ≤ 1000000000000) (by omega), Bool.and_false]; rfl
      unfold rdO; rw [hf]; rfl
    · obtain ⟨f0, f1, f2⟩ := f_point hb hne (hC.trans c)
      have hp : plB (fS (body s)) (dv (body s) 0) = true := by rw [hpl, hd, esd, decide_eq_true (show (fS (body s)).size ≤ 6 by omega), decide_eq_true w2]; rfl
      unfold rdO
      rw [f0, hp, f1, f2, (pl_true hp).1, (pl_true hp).2, k2, l2, es]; rfl
end Go.Proofs.YtfilmomndhlmbabDoor.Wnum
