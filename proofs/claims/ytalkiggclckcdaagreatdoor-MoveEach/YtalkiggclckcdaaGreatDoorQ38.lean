/- PlainW, NPlainD, NPlainF. -/
import Derived.Test.YtalkiggclckcdaaGreatDoorQ37
namespace Go.Proofs.YtalkiggclckcdaaGreatDoor.Wnum
def allD (l : List UInt8) : Prop := ∀ c ∈ l, 48 ≤ c.toNat ∧ c.toNat ≤ 57
def val (l : List UInt8) : Nat := l.foldl (fun n c => n * 10 + (c.toNat - 48)) 0
theorem val_snoc (l : List UInt8) (c : UInt8) : val (l ++ [c]) = val l * 10 + (c.toNat - 48) := by unfold val; rw [List.foldl_append]; rfl
theorem val_from : ∀ (l : List UInt8) (n : Nat), l.foldl (fun n c => n * 10 + (c.toNat - 48)) n = n * 10 ^ l.length + val l := by
  intro l
  induction l with
  | nil => intro n; simp [val]
  | cons c t ih =>
    intro n
    have h1 : (c :: t).foldl (fun n c => n * 10 + (c.toNat - 48)) n = t.foldl (fun n c => n * 10 + (c.toNat - 48)) (n * 10 + (c.toNat - 48)) := rfl
    have h2 : val (c :: t) = t.foldl (fun n c => n * 10 + (c.toNat - 48)) (0 * 10 + (c.toNat - 48)) := rfl
    rw [h1, h2, ih, ih, List.length_cons, Nat.pow_succ, Nat.zero_mul, Nat.zero_add, Nat.add_mul, Nat.mul_assoc, Nat.mul_comm 10, Nat.add_assoc]
theorem val_cons (c : UInt8) (t : List UInt8) : val (c :: t) = (c.toNat - 48) * 10 ^ t.length + val t := by
  have h2 : val (c :: t) = t.foldl (fun n c => n * 10 + (c.toNat - 48)) (0 * 10 + (c.toNat - 48)) := rfl
  rw [h2, val_from, Nat.zero_mul, Nat.zero_add]
theorem byte_of {q : Nat} (h : q ≤ 9) : (UInt8.ofNat (48 + q)).toNat = 48 + q := by
  rw [UInt8.toNat_ofNat']
  exact Nat.mod_eq_of_lt (by omega)
theorem allD_snoc {l : List UInt8} {q : Nat} (h : allD l) (hq : q ≤ 9) : allD (l ++ [UInt8.ofNat (48 + q)]) := by
  intro c hc
  rw [List.mem_append, List.mem_singleton] at hc
  rcases hc with hc | rfl
  · exact h c hc
  · rw [byte_of hq]; omega
theorem dd_facts (u : Nat) : allD (Lib.decDigits u) ∧ val (Lib.decDigits u) = u ∧ Lib.decDigits u ≠ [] := by
  induction u using Nat.strongRecOn with
  | ind u ih =>
    unfold Lib.decDigits
    by_cases h : u < 10
    · rw [dif_pos h]
      refine ⟨?_, ?_, by simp⟩
      · have := allD_snoc (l := []) (q := u) (fun c hc => by cases hc) (by omega)
        exact this
      · have := val_snoc [] (UInt8.ofNat (48 + u))
        rw [byte_of (by omega)] at this
        rw [show [UInt8.ofNat (48 + u)] = [] ++ [UInt8.ofNat (48 + u)] from rfl, this]
        show 0 * 10 + (48 + u - 48) = u
        omega
    · rw [dif_neg h]
      obtain ⟨h1, h2, h3⟩ := ih (u / 10) (by omega)
      refine ⟨allD_snoc h1 (by omega), ?_, by simp⟩
      rw [val_snoc, h2, byte_of (by omega)]
      omega
theorem decs_facts {d : Nat} (hd : 0 < d) : ∀ k r, r < d → r * 10 ^ k % d = 0 → allD (decs d k r) ∧ val (decs d k r) * d = r * 10 ^ (decs d k r).length := by
  intro k
  induction k with
  | zero =>
    intro r hr h
    rw [ends_zero hr h]
    exact ⟨fun c hc => (by cases hc), (by rw [decs_zero, Nat.zero_mul]; exact Nat.zero_mul _)⟩
  | succ k ih =>
    intro r hr h
    by_cases h0 : r = 0
    · rw [h0, decs_zero]; exact ⟨fun c hc => (by cases hc), (by rw [Nat.zero_mul]; exact Nat.zero_mul _)⟩
    · rw [decs_more h0]
      obtain ⟨i1, i2⟩ := ih (r * 10 % d) (Nat.mod_lt _ hd) (ends_step h)
      have hq : r * 10 / d ≤ 9 := by
        have : r * 10 / d < 10 := (Nat.div_lt_iff_lt_mul hd).2 (by omega)
        omega
      constructor
      · intro c hc
        rw [List.mem_cons] at hc
        rcases hc with rfl | hc
        · rw [byte_of hq]
          exact ⟨Nat.le_add_right _ _, Nat.add_le_add_left hq 48⟩
        · exact i1 c hc
      · rw [val_cons, byte_of hq, List.length_cons, Nat.add_sub_cancel_left, Nat.add_mul, i2, Nat.mul_right_comm, ← Nat.add_mul, Nat.mul_comm (r * 10 / d) d, Nat.div_add_mod, Nat.pow_succ, Nat.mul_assoc, Nat.mul_comm 10]
theorem decs_some {d k r : Nat} (h : r ≠ 0) : 0 < (decs d (k + 1) r).length := by rw [decs_more h, List.length_cons]; omega
theorem bt_in (pre l : List UInt8) (m : Nat) : bt ⟨(pre ++ l).toArray⟩ (pre.length + m) = ((l.getD m 0).toNat : Int) := by
  unfold bt
  show ((((pre ++ l).getD (pre.length + m) 0).toNat : Nat) : Int) = _
  rw [List.getD_eq_getElem?_getD, List.getD_eq_getElem?_getD, List.getElem?_append_right (by omega), Nat.add_sub_cancel_left]
theorem dig_at (pre l suf : List UInt8) (hd : allD l) (he : suf = [] ∨ ¬ isD ((suf.getD 0 0).toNat : Int)) :
    dk ⟨(pre ++ (l ++ suf)).toArray⟩ pre.length = l.length ∧ dv ⟨(pre ++ (l ++ suf)).toArray⟩ pre.length = (val l : Int) := by
  have hin : ∀ m, (h : m < l.length) → bt ⟨(pre ++ (l ++ suf)).toArray⟩ (pre.length + m) = ((l[m]).toNat : Int) := fun m h => by
    rw [bt_in, List.getD_eq_getElem?_getD, List.getElem?_append_left h, List.getElem?_eq_getElem h]; rfl
  have hsz : (ByteArray.mk (pre ++ (l ++ suf)).toArray).size = pre.length + (l.length + suf.length) := by
    show (pre ++ (l ++ suf)).toArray.size = _
    simp
  have hk : dk ⟨(pre ++ (l ++ suf)).toArray⟩ pre.length = l.length := by
    unfold dk
    refine cnt_is (by omega) (fun m hm => ?_) (fun hlt => ?_)
    · rw [hin m hm]
      have := hd _ (List.getElem_mem hm)
      unfold isD; omega
    · rcases he with he | he
      · subst he; rw [hsz, List.length_nil] at hlt; omega
      · rw [bt_in, List.getD_eq_getElem?_getD, List.getElem?_append_right (by omega), Nat.sub_self, ← List.getD_eq_getElem?_getD]; exact he
  refine ⟨hk, ?_⟩
  have hs : ∀ k, k ≤ l.length → say ⟨(pre ++ (l ++ suf)).toArray⟩ pre.length k = (val (l.take k) : Int) := by
    intro k
    induction k with
    | zero => intro _; rfl
    | succ k ih =>
      intro h
      have h' : k < l.length := by omega
      rw [say_succ, ih (by omega), hin k h', List.take_succ_eq_append_getElem h', val_snoc]
      have := (hd _ (List.getElem_mem h')).1
      omega
  unfold dv
  rw [hk, hs _ (Nat.le_refl _), List.take_length]
def pf (m : Bool) : List UInt8 := if m = true then [45] else []
theorem minus_is (m : Bool) {l suf : List UInt8} (h : allD l) (h0 : l ≠ []) : minusB ⟨(pf m ++ (l ++ suf)).toArray⟩ = m ∧ aOf ⟨(pf m ++ (l ++ suf)).toArray⟩ = (pf m).length := by
  have h1 : minusB ⟨(pf m ++ (l ++ suf)).toArray⟩ = m := by
    cases m with
    | true => exact decide_eq_true ⟨by show 0 < ([45] ++ (l ++ suf)).toArray.size; simp, rfl⟩
    | false =>
      refine decide_eq_false (fun x => ?_)
      cases l with
      | nil => exact h0 rfl
      | cons c t =>
        have hc := (h c List.mem_cons_self).1
        have h2 := x.2
        have h3 : bt ⟨(pf false ++ (c :: t ++ suf)).toArray⟩ 0 = (c.toNat : Int) := rfl
        rw [h3] at h2
        omega
  refine ⟨h1, ?_⟩
  unfold aOf
  rw [h1]
  cases m <;> rfl
theorem two_at (m : Bool) (l1 l2 : List UInt8) (c : UInt8) (hc : ¬ isD (c.toNat : Int)) (hd1 : allD l1) (hd2 : allD l2) (h0 : l1 ≠ []) (s : ByteArray) (hs : s = ⟨(pf m ++ (l1 ++ c :: l2)).toArray⟩) :
    minusB s = m ∧ dk s (aOf s) = l1.length ∧ dv s (aOf s) = (val l1 : Int) ∧ bt s (aOf s + dk s (aOf s)) = (c.toNat : Int) ∧ dk s (aOf s + dk s (aOf s) + 1) = l2.length ∧ dv s (aOf s + dk s (aOf s) + 1) = (val l2 : Int) ∧ aOf s + dk s (aOf s) + 1 + l2.length = s.size := by
  obtain ⟨b1, b2⟩ := minus_is m (suf := c :: l2) hd1 h0
  obtain ⟨c1, c2⟩ := dig_at (pf m) l1 (c :: l2) hd1 (Or.inr hc)
  rw [← hs] at b1 b2 c1 c2
  rw [b2, c1, c2]
  have e1 : bt s ((pf m).length + l1.length) = (c.toNat : Int) := by
    rw [hs, show pf m ++ (l1 ++ c :: l2) = (pf m ++ l1) ++ (c :: l2) by simp]
    have := bt_in (pf m ++ l1) (c :: l2) 0
    rw [List.length_append, Nat.add_zero] at this
    exact this
  have e2 : s = ⟨((pf m ++ (l1 ++ [c])) ++ (l2 ++ [])).toArray⟩ := by rw [hs]; simp
  obtain ⟨f1, f2⟩ := dig_at (pf m ++ (l1 ++ [c])) l2 [] hd2 (Or.inl rfl)
  rw [← e2, show (pf m ++ (l1 ++ [c])).length = (pf m).length + l1.length + 1 by simp; omega] at f1 f2
  refine ⟨b1, rfl, rfl, e1, f1, f2, ?_⟩
  rw [hs]
  show _ = (pf m ++ (l1 ++ c :: l2)).toArray.size
  simp; omega
theorem tenP_nat (k : Nat) : tenP k = ((10 ^ k : Nat) : Int) := by unfold tenP; rw [Int.natCast_pow]; rfl
theorem txt_reads {N : Int} {D : Nat} (h1 : -1000000000000 ≤ N) (h2 : N ≤ 1000000000000) (h3 : 1 ≤ D) (h4 : D ≤ 1000000) (hg : Int.gcd N (D : Int) = 1) : rdO ⟨(txt N D).toArray⟩ = some (Rat.divInt N (D : Int)) := by
  have D0 : (D : Int) ≠ 0 := by omega
  rw [← mk_pos D0]
  obtain ⟨m, hm⟩ : ∃ m, m = decide (N < 0) := ⟨_, rfl⟩
  have hs : sgnT N = pf m := by
    unfold sgnT pf
    by_cases h : N < 0
    · rw [if_pos h, hm, decide_eq_true h]; rfl
    · rw [if_neg h, hm, decide_eq_false h]; rfl
  have hv : ∀ n : Int, n = (N.natAbs : Int) → sgnd m n = N := by
    intro n hn
    unfold sgnd
    by_cases h : N < 0
    · rw [hm, decide_eq_true h, if_pos rfl]; omega
    · rw [hm, decide_eq_false h, if_neg (by decide)]; omega
  by_cases hd : 1000000 % D = 0
  · by_cases hr : N.natAbs % D = 0
    · have d1 : D = 1 := by
        have : D ∣ Nat.gcd N.natAbs D := Nat.dvd_gcd (Nat.dvd_of_mod_eq_zero hr) (Nat.dvd_refl _)
        rw [show Nat.gcd N.natAbs D = 1 from hg] at this
        exact Nat.dvd_one.1 this
      rw [txt_whole hd hr, hs, d1, Nat.div_one]
      obtain ⟨a1, a2, a3⟩ := dd_facts N.natAbs
      have q := List.append_nil (Lib.decDigits N.natAbs)
      rw [← q]
      obtain ⟨b1, b2⟩ := minus_is m (suf := []) a1 a3
      obtain ⟨c1, c2⟩ := dig_at (pf m) _ [] a1 (Or.inl rfl)
      have hB : dB ⟨(pf m ++ (Lib.decDigits N.natAbs ++ [])).toArray⟩ (aOf ⟨(pf m ++ (Lib.decDigits N.natAbs ++ [])).toArray⟩) = true := by
        rw [b2]; unfold dB; rw [c1, c2, a2]
        exact decide_eq_true ⟨List.length_pos_iff.2 a3, by omega⟩
      rw [r_whole hB (by rw [b2, c1]; show _ = (pf m ++ (Lib.decDigits N.natAbs ++ [])).toArray.size; simp), b1, b2, c2, a2, hv _ rfl]
      rfl
    · rw [txt_point hd hr, hs]
      have hR : N.natAbs % D < D := Nat.mod_lt _ (by omega)
      obtain ⟨a1, a2, a3⟩ := dd_facts (N.natAbs / D)
      obtain ⟨d1, d2⟩ := decs_facts (d := D) (by omega) 6 (N.natAbs % D) hR (ends_six hd)
      have d3 := decs_length D 6 (N.natAbs % D)
      have d4 : 0 < (decs D 6 (N.natAbs % D)).length := decs_some hr
      generalize decs D 6 (N.natAbs % D) = l2 at *
      obtain ⟨s, es⟩ : ∃ s, s = ByteArray.mk (pf m ++ (Lib.decDigits (N.natAbs / D) ++ 46 :: l2)).toArray := ⟨_, rfl⟩
      rw [← es]
      obtain ⟨t1, t2, t3, t4, t5, t6, t7⟩ := two_at m _ l2 46 (by decide) a1 d1 a3 s es
      have hq := Nat.div_le_self N.natAbs D
      have vl : val l2 < 10 ^ l2.length := by
        apply Nat.lt_of_mul_lt_mul_right (a := D)
        rw [d2, Nat.mul_comm]
        exact Nat.mul_lt_mul_of_pos_left hR (Nat.pow_pos (by omega))
      have vp : 10 ^ l2.length ≤ 10 ^ 6 := Nat.pow_le_pow_right (by omega) d3
      rw [a2] at t3
      have hB : dB s (aOf s) = true := by
        unfold dB; rw [t2, t3]
        exact decide_eq_true ⟨List.length_pos_iff.2 a3, by omega⟩
      have hB2 : dB s (aOf s + dk s (aOf s) + 1) = true := by
        unfold dB; rw [t5, t6]
        exact decide_eq_true ⟨d4, by omega⟩
      have r := (((r_more hB (by omega)).2 hB2 (by rw [t5]; exact t7)).2.2.2 t4 (by rw [t5]; exact d3) (by rw [t3]; omega))
      rw [r, t5, t6, t3, t1, tenP_nat]
      have key : ((N.natAbs / D * 10 ^ l2.length + val l2) * D : Nat) = N.natAbs * 10 ^ l2.length := by
        rw [Nat.add_mul, d2, Nat.mul_right_comm, ← Nat.add_mul, Nat.mul_comm (N.natAbs / D) D, Nat.div_add_mod]
      rw [← mk_mul (k := (D : Int)) D0, ← mk_mul (n := N) (k := ((10 ^ l2.length : Nat) : Int)) (by have : 0 < 10 ^ l2.length := Nat.pow_pos (by omega); omega), Int.mul_comm (D : Int) ((10 ^ l2.length : Nat) : Int)]
      have key2 : (((N.natAbs / D : Nat) : Int) * ((10 ^ l2.length : Nat) : Int) + (val l2 : Int)) * (D : Int) = (N.natAbs : Int) * ((10 ^ l2.length : Nat) : Int) := by
        rw [← Int.natCast_mul, ← Int.natCast_add, ← Int.natCast_mul, key, Int.natCast_mul]
      congr 1
      unfold sgnd
      by_cases h : N < 0
      · rw [hm, decide_eq_true h, if_pos rfl, Int.mul_neg, Int.mul_comm (D : Int), key2, ← Int.neg_mul, Int.mul_comm]
        congr 1; omega
      · rw [hm, decide_eq_false h, if_neg (by decide), Int.mul_comm (D : Int), key2, Int.mul_comm]
        congr 1; omega
  · rw [txt_frac hd, hs]
    obtain ⟨a1, a2, a3⟩ := dd_facts N.natAbs
    obtain ⟨d1, d2, d3⟩ := dd_facts D
    obtain ⟨s, es⟩ : ∃ s, s = ByteArray.mk (pf m ++ (Lib.decDigits N.natAbs ++ 47 :: Lib.decDigits D)).toArray := ⟨_, rfl⟩
    rw [← es]
    obtain ⟨t1, t2, t3, t4, t5, t6, t7⟩ := two_at m _ _ 47 (by decide) a1 d1 a3 s es
    rw [a2] at t3
    rw [d2] at t6
    have hB : dB s (aOf s) = true := by
      unfold dB; rw [t2, t3]
      exact decide_eq_true ⟨List.length_pos_iff.2 a3, by omega⟩
    have hB2 : dB s (aOf s + dk s (aOf s) + 1) = true := by
      unfold dB; rw [t5, t6]
      exact decide_eq_true ⟨List.length_pos_iff.2 d3, by omega⟩
    have r := ((r_more hB (by omega)).2 hB2 (by rw [t5]; exact t7)).1 t4
    rw [r, t6, t3, t1, hv _ rfl]
end Go.Proofs.YtalkiggclckcdaaGreatDoor.Wnum
namespace Wpl
theorem fv_snoc (k : Nat) (l : List UInt8) (c : UInt8) : fv k (l ++ [c]) = fv k l * 10 + (c.toNat - 48) := by unfold fv; rw [List.foldl_append]; rfl
end Wpl
namespace Wpl
theorem dig_toNat {q : Nat} (h : q ≤ 9) : (UInt8.ofNat (48 + q)).toNat = 48 + q := by
  rw [UInt8.toNat_ofNat']
  exact Nat.mod_eq_of_lt (by omega)
theorem let_toNat {q : Nat} (h : q ≤ 25) : (UInt8.ofNat (65 + q)).toNat = 65 + q := by
  rw [UInt8.toNat_ofNat']
  exact Nat.mod_eq_of_lt (by omega)
theorem dd_le {u : Nat} (h : u < 10) : Go.Lib.decDigits u = [UInt8.ofNat (48 + u)] := by
  unfold Go.Lib.decDigits
  rw [dif_pos h]
theorem dd_gt {u : Nat} (h : ¬ u < 10) : Go.Lib.decDigits u = Go.Lib.decDigits (u / 10) ++ [UInt8.ofNat (48 + u % 10)] := by
  conv => lhs; unfold Go.Lib.decDigits
  rw [dif_neg h]
theorem dd_is (u : Nat) : allG (Go.Lib.decDigits u) = true ∧ fv 0 (Go.Lib.decDigits u) = u ∧ (1 ≤ u → ∃ d t, Go.Lib.decDigits u = d :: t ∧ d.toNat ≠ 48) := by
  induction u using Nat.strongRecOn with
  | _ u ih =>
    by_cases h : u < 10
    · rw [dd_le h]
      have hd := dig_toNat (q := u) (by omega)
      refine ⟨?_, ?_, fun h1 => ⟨_, _, rfl, by rw [hd]; omega⟩⟩
      · simp only [allG, List.all_cons, List.all_nil, Bool.and_true, isG, hd]
        simp; omega
      · unfold fv
        simp only [List.foldl_cons, List.foldl_nil, hd]
        omega
    · obtain ⟨i1, i2, i3⟩ := ih (u / 10) (by omega)
      rw [dd_gt h]
      have hd := dig_toNat (q := u % 10) (by omega)
      refine ⟨?_, ?_, fun _ => ?_⟩
      · simp only [allG, List.all_append, List.all_cons, List.all_nil, Bool.and_true, Bool.and_eq_true]
        refine ⟨i1, ?_⟩
        simp only [isG, hd]
        simp; omega
      · rw [fv_snoc, i2, hd]
        omega
      · obtain ⟨d, t, e1, e2⟩ := i3 (by omega)
        exact ⟨d, t ++ [UInt8.ofNat (48 + u % 10)], by rw [e1]; rfl, e2⟩
theorem dg_dd {u : Nat} (h1 : 1 ≤ u) (h2 : u ≤ 65536) : dgOk (Go.Lib.decDigits u) = true ∧ (rr (Go.Lib.decDigits u)).1 = u ∧ noL (Go.Lib.decDigits u) = true := by
  obtain ⟨a, b, c⟩ := dd_is u
  obtain ⟨d, t, e, hd⟩ := c h1
  rw [e] at a b ⊢
  have hne : d ≠ 48 := fun x => hd (by rw [x]; rfl)
  have ha := a
  simp only [allG, List.all_cons, Bool.and_eq_true] at ha
  have hg := ha.1
  simp only [isG, decide_eq_true_eq] at hg
  have hlen : t.length < 5 := by
    have := fv_ge t (0 * 10 + (d.toNat - 48))
    rw [fv_cons] at b
    apply Classical.byContradiction
    intro hn
    have h4 : 1 * 10 ^ 5 ≤ (0 * 10 + (d.toNat - 48)) * 10 ^ t.length := Nat.mul_le_mul (by omega) (Nat.pow_le_pow_right (by omega) (by omega))
    omega
  obtain ⟨g1, g2, _⟩ := dg_in hne a hlen
  refine ⟨by rw [g1, b]; simpa using h2, by rw [g2, b], ?_⟩
  simp [noL, isL]; omega
theorem letter_is {q : Nat} (h : q ≤ 25) : isL (UInt8.ofNat (65 + q)) = true ∧ vl (UInt8.ofNat (65 + q)) = q + 1 := by
  have e := let_toNat h
  constructor
  · simp only [isL, e]; simp; omega
  · unfold vl; rw [e]; omega
theorem txt_reads {r c : Int} (r0 : 0 ≤ r) (r1 : r < 65536) (c0 : 0 ≤ c) (c1 : c < 256) : rdOk (txtC r c) = true ∧ rdR (txtC r c) = r ∧ rdC (txtC r c) = c := by
  obtain ⟨g1, g2, g3⟩ := dg_dd (u := (r + 1).toNat) (by omega) (by omega)
  have hc : colS c = colT c.toNat := by unfold colS; rw [inB_iff.2 ⟨c0, c1⟩]; rfl
  have key : rdOk (txtC r c) = true ∧ rc 0 (txtC r c) = (c.toNat + 1, Go.Lib.decDigits (r + 1).toNat) := by
    unfold txtC
    rw [hc]
    unfold colT
    by_cases h : c.toNat < 26
    · rw [if_pos h]
      obtain ⟨l1, l2⟩ := letter_is (q := c.toNat) (by omega)
      obtain ⟨k1, k2⟩ := rd_one l1 g3
      rw [List.cons_append, List.nil_append]
      exact ⟨by rw [k1, g1], by rw [k2, l2]⟩
    · rw [if_neg h]
      obtain ⟨l1, l2⟩ := letter_is (q := c.toNat / 26 - 1) (by omega)
      obtain ⟨m1, m2⟩ := letter_is (q := c.toNat % 26) (by omega)
      obtain ⟨k1, k2⟩ := rd_two l1 m1 g3
      rw [List.cons_append, List.cons_append, List.nil_append]
      refine ⟨?_, ?_⟩
      · rw [k1, g1, l2, m2, decide_eq_true (by omega)]
        rfl
      · rw [k2, l2, m2]
        congr 1
        omega
  obtain ⟨k1, k2⟩ := key
  refine ⟨k1, ?_, ?_⟩
  · unfold rdR; rw [k1, k2]; simp only [if_true, g2]; omega
  · unfold rdC; rw [k1, k2]; simp only [if_true]; omega
end Wpl
