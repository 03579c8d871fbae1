/- TPrint, PlainW, TAblP, TAble, TKids, TLent. -/
import Derived.Test.YtlggnpohhahdlaaGreatDoorQ34
import Derived.OwnWalk
import Derived.Laws.OwnMore
import Derived.Deep.LoopGhost
import Derived.BigQuiet
namespace Go.Proofs.YtlggnpohhahdlaaGreatDoor
open Go.RowKit Go.Shelf
set_option linter.unusedVariables false
theorem dd_pos (n : Nat) : 0 < (Lib.decDigits n).length := by
  rw [Lib.decDigits]
  split
  · simp
  · simp
theorem txt_pos (N : Int) (D : Nat) : 0 < (Wnum.txt N D).length := by
  unfold Wnum.txt
  rw [List.length_append]
  split
  · simp only [List.length_append, List.length_cons]; omega
  split
  · have := dd_pos (N.natAbs / D); omega
  · simp only [List.length_append, List.length_cons]; omega
theorem litT_pos {v : Wt.Vl} (h : Wt.vlOk v = true) : 0 < (litT v).length := by
  unfold litT
  split
  · exact txt_pos _ _
  split
  · simp
  split
  · split <;> decide
  rename_i h1 h2 h3
  unfold Wt.vlOk at h
  split at h
  · cases h
  unfold Wv.right at h
  rw [if_neg (by assumption), if_neg h1, if_neg h2, if_neg h3] at h
  split at h
  · simp only [Bool.and_eq_true, decide_eq_true_eq, Wv.flt] at h
    have hf := h.1.1.1.1
    obtain ⟨g, hg⟩ : ∃ g : Nat, v.f = g := ⟨v.f.toNat, by omega⟩
    rw [hg, Int.toNat_natCast]
    have : g = 1 ∨ g = 2 ∨ g = 3 ∨ g = 4 ∨ g = 5 ∨ g = 6 ∨ g = 7 ∨ g = 8 := by omega
    rcases this with rfl | rfl | rfl | rfl | rfl | rfl | rfl | rfl <;> decide
  · cases h
theorem celT_pos (a : Wt.Rf) : 0 < (celT a).length := by
  have : 0 < (cw a).length := by
    unfold cw
    have := dd_pos (a.r + 1).toNat
    simp only [List.length_append]; omega
  unfold celT
  split
  · exact this
  · simp only [List.length_append, List.length_cons]; omega
theorem mrk_pos {x : Wt.Nd} {o : Int × List UInt8 × Int} (h : Wt.opOf x.op = some o) : 0 < (mrk x).length := by
  unfold mrk
  rw [h]
  have := List.mem_of_find?_eq_some h
  simp only [Wt.opsT, List.mem_cons, List.not_mem_nil, or_false] at this
  rcases this with rfl | rfl | rfl | rfl | rfl | rfl | rfl | rfl | rfl | rfl | rfl | rfl | rfl | rfl | rfl <;> decide
theorem pr_pos {f : Nat} {l : List Wt.Nd} {s d : Nat} (h : Wt.one f l = some (s, d)) (least : Int) : 0 < (pr f least l).1.length := by
  cases f with
  | zero => simp [Wt.one] at h
  | succ f =>
    cases l with
    | nil => simp [Wt.one] at h
    | cons x r =>
      obtain ⟨hx, a, b, hm, rfl, rfl⟩ := one_unf h
      have hK := right_knd hx
      have : 0 < (prN (pr f) x r).1.length := by
        unfold prN
        rcases knd_tgh hK with ⟨h7, -, hk⟩ | ⟨h56, hp, o, ho⟩ | ⟨h04, hp, o, ho⟩
        · rw [if_pos h7]
          unfold prS
          rcases hK with ⟨h, h1, e⟩ | ⟨h, h1, e⟩ | ⟨h, h1, h2, h3, e⟩ | ⟨h, h2, -⟩ | ⟨h, h2, -⟩ | ⟨h, h1, h2, h3, e⟩
          · rw [if_pos h]; exact litT_pos h1
          · rw [if_neg (by omega), if_pos h]; exact celT_pos _
          · rw [if_neg (by omega), if_neg (by omega), if_pos h]; simp only [List.length_append, List.length_cons]; omega
          · omega
          · omega
          · rw [if_neg (by omega), if_neg (by omega), if_neg (by omega)]; simp only [List.length_append, List.length_cons]; omega
        · have := mrk_pos ho
          rw [if_neg (by omega)]
          split
          · simp only [List.length_append]; omega
          split
          · simp only [List.length_append]; omega
          · simp only [List.length_append]; omega
        · have := mrk_pos ho
          rw [if_neg (by omega), if_neg (by omega), if_neg (by omega)]
          simp only [List.length_append]; omega
      simp only [pr]
      split
      · exact this
      · simp
def prnt (L : List Wt.Nd) : List UInt8 := if Wt.check L = 0 then (pr (L.length + 1) 0 L).1 else []
set_option maxRecDepth 100000 in
set_option maxHeartbeats 4000000 in
theorem print_any (av : Option Addr) (cap : Nat) (L : List Wt.Nd) (w : World) (hL : L.length ≤ 9223372036854775807) (hF : ∀ x ∈ L, Wt.FitN x) (hE : Env w) (hr : RdN w av L) (hcap : L.length ≤ cap) (hk8 : 8 ≤ w.heap.size) :
    Calls Tryz.prog 12 #[.slice av L.length cap] w fun e w' => e = .returned (.tuple #[.string ⟨(prnt L).toArray⟩, .int .i64 (Wt.check L)]) ∧ Below w.heap.size w w' := by
  have CK := check_any av cap L w hL hF hE.1 hr
  unfold prnt
  by_cases hc : Wt.check L = 0
  · rw [if_pos hc]
    rw [hc] at CK ⊢
    obtain ⟨h256, d, hone, hd⟩ := check_zero hc
    have hpos := pr_pos hone 0
    have hlen := (pr_ok _ _ _ _ hone 0).2
    have PP := fun kw => part_any kw (L.length + 1) 0 L
    clear hc
    generalize (pr (L.length + 1) 0 L).1 = tx at *
    go_enter Tryz.func12, Tryz.ntmps12
    go_wp2_with fail
    refine CK.mono ?_
    rintro e w1 ⟨rfl, hb⟩
    have hE1 := hE.below hb
    have hr1 := hr.below hb
    have hs1 := hb.size
    have hB2 := ball hb (.cells #[.pointer none, .slice none 0 0, .slice av L.length cap] 67)
    have hS2 : WSt (w1.alloc (.cells #[.pointer none, .slice none 0 0, .slice av L.length cap] 67)) w1.heap.size [] L := by
      refine ⟨av, cap, hcap, Or.inl ⟨Nat.le_refl _, .slice none 0 0, heap_alloc_new w1 _, World.ownsRow_nil _ _ _ _, by simp [Value.ownBlock]⟩, fun i hi => ?_⟩
      obtain ⟨bb, off, e, hx⟩ := hr1 i hi
      have hlt : bb < w1.heap.size := World.block_lt_of_cell? _ _ (hx 0 _ rfl)
      exact ⟨bb, off, e, hlt, fun j v hv => cell_below (ball (Below.refl _ w1) _) (hx j v hv)⟩
    have hE2 := hE.below hB2
    go_wp2_with fail
    refine (PP w1.heap.size [] _ L.length d hF hone hS2 hE2 (by omega) (by simp only [List.length_nil]; omega)).mono ?_
    rintro e w3 ⟨rfl, hS3, hF3⟩
    obtain ⟨av', cap', -, hI, -⟩ := hS3
    rw [List.nil_append] at hI
    have ST := wstr_any _ _ _ _ w3 hI (fun e => by rw [e] at hpos; simp at hpos)
    have hB3 : Below w.heap.size w w3 := hB2.trans (hF3.1.mono hs1)
    go_wp2_with fail
    refine ST.mono ?_
    rintro e w4 ⟨rfl, hb4⟩
    go_wp2
    go_ret2
    exact ⟨rfl, hB3.trans (hb4.mono hs1)⟩
  · rw [if_neg hc]
    generalize Wt.check L = ck at *
    have hci : (ck != 0) = true := by simp [hc]
    go_enter Tryz.func12, Tryz.ntmps12
    go_wp2_with fail
    refine CK.mono ?_
    rintro e w1 ⟨rfl, hb⟩
    go_wp2
    go_ret2
    exact ⟨rfl, hb⟩
end Go.Proofs.YtlggnpohhahdlaaGreatDoor
namespace Go.Proofs.YtlggnpohhahdlaaGreatDoor.Wnum
def allD (l : List UInt8) : Prop := ∀ c ∈ l, 48 ≤ c.toNat ∧ c.toNat ≤ 57
def val (l : List UInt8) : Nat := l.foldl (fun n c => n * 10 + (c.toNat - 48)) 0
theorem val_snoc (l : List UInt8) (c : UInt8) : val (l ++ [c]) = val l * 10 + (c.toNat - 48) := by unfold val; rw [List.foldl_append]; rfl
theorem val_from : ∀ (l : List UInt8) (n : Nat), l.foldl (fun n c => n * 10 + (c.toNat - 48)) n = n * 10 ^ l.length + val l := by
  intro l
  induction l with
  | nil => intro n; simp [val]
  | cons c t ih =>
    intro n
    have h1 : (c :: t).foldl (fun n c => n * 10 + (c.toNat - 48)) n = t.foldl (fun n c => n * 10 + (c.toNat - 48)) (n * 10 + (c.toNat - 48)) := rfl
    have h2 : val (c :: t) = t.foldl (fun n c => n * 10 + (c.toNat - 48)) (0 * 10 + (c.toNat - 48)) := rfl
    rw [h1, h2, ih, ih, List.length_cons, Nat.pow_succ, Nat.zero_mul, Nat.zero_add, Nat.add_mul, Nat.mul_assoc, Nat.mul_comm 10, Nat.add_assoc]
theorem val_cons (c : UInt8) (t : List UInt8) : val (c :: t) = (c.toNat - 48) * 10 ^ t.length + val t := by
  have h2 : val (c :: t) = t.foldl (fun n c => n * 10 + (c.toNat - 48)) (0 * 10 + (c.toNat - 48)) := rfl
  rw [h2, val_from, Nat.zero_mul, Nat.zero_add]
theorem byte_of {q : Nat} (h : q ≤ 9) : (UInt8.ofNat (48 + q)).toNat = 48 + q := by
  rw [UInt8.toNat_ofNat']
  exact Nat.mod_eq_of_lt (by omega)
theorem allD_snoc {l : List UInt8} {q : Nat} (h : allD l) (hq : q ≤ 9) : allD (l ++ [UInt8.ofNat (48 + q)]) := by
  intro c hc
  rw [List.mem_append, List.mem_singleton] at hc
  rcases hc with hc | rfl
  · exact h c hc
  · rw [byte_of hq]; omega
theorem dd_facts (u : Nat) : allD (Lib.decDigits u) ∧ val (Lib.decDigits u) = u ∧ Lib.decDigits u ≠ [] := by
  induction u using Nat.strongRecOn with
  | ind u ih =>
    unfold Lib.decDigits
    by_cases h : u < 10
    · rw [dif_pos h]
      refine ⟨?_, ?_, by simp⟩
      · have := allD_snoc (l := []) (q := u) (fun c hc => by cases hc) (by omega)
        exact this
      · have := val_snoc [] (UInt8.ofNat (48 + u))
        rw [byte_of (by omega)] at this
        rw [show [UInt8.ofNat (48 + u)] = [] ++ [UInt8.ofNat (48 + u)] from rfl, this]
        show 0 * 10 + (48 + u - 48) = u
        omega
    · rw [dif_neg h]
      obtain ⟨h1, h2, h3⟩ := ih (u / 10) (by omega)
      refine ⟨allD_snoc h1 (by omega), ?_, by simp⟩
      rw [val_snoc, h2, byte_of (by omega)]
      omega
theorem decs_facts {d : Nat} (hd : 0 < d) : ∀ k r, r < d → r * 10 ^ k % d = 0 → allD (decs d k r) ∧ val (decs d k r) * d = r * 10 ^ (decs d k r).length := by
  intro k
  induction k with
  | zero =>
    intro r hr h
    rw [ends_zero hr h]
    exact ⟨fun c hc => (by cases hc), (by rw [decs_zero, Nat.zero_mul]; exact Nat.zero_mul _)⟩
  | succ k ih =>
    intro r hr h
    by_cases h0 : r = 0
    · rw [h0, decs_zero]; exact ⟨fun c hc => (by cases hc), (by rw [Nat.zero_mul]; exact Nat.zero_mul _)⟩
    · rw [decs_more h0]
      obtain ⟨i1, i2⟩ := ih (r * 10 % d) (Nat.mod_lt _ hd) (ends_step h)
      have hq : r * 10 / d ≤ 9 := by
        have : r * 10 / d < 10 := (Nat.div_lt_iff_lt_mul hd).2 (by omega)
        omega
      constructor
      · intro c hc
        rw [List.mem_cons] at hc
        rcases hc with rfl | hc
        · rw [byte_of hq]
          exact ⟨Nat.le_add_right _ _, Nat.add_le_add_left hq 48⟩
        · exact i1 c hc
      · rw [val_cons, byte_of hq, List.length_cons, Nat.add_sub_cancel_left, Nat.add_mul, i2, Nat.mul_right_comm, ← Nat.add_mul, Nat.mul_comm (r * 10 / d) d, Nat.div_add_mod, Nat.pow_succ, Nat.mul_assoc, Nat.mul_comm 10]
theorem decs_some {d k r : Nat} (h : r ≠ 0) : 0 < (decs d (k + 1) r).length := by rw [decs_more h, List.length_cons]; omega
theorem bt_in (pre l : List UInt8) (m : Nat) : bt ⟨(pre ++ l).toArray⟩ (pre.length + m) = ((l.getD m 0).toNat : Int) := by
  unfold bt
  show ((((pre ++ l).getD (pre.length + m) 0).toNat : Nat) : Int) = _
  rw [List.getD_eq_getElem?_getD, List.getD_eq_getElem?_getD, List.getElem?_append_right (by omega), Nat.add_sub_cancel_left]
theorem dig_at (pre l suf : List UInt8) (hd : allD l) (he : suf = [] ∨ ¬ isD ((suf.getD 0 0).toNat : Int)) :
    dk ⟨(pre ++ (l ++ suf)).toArray⟩ pre.length = l.length ∧ dv ⟨(pre ++ (l ++ suf)).toArray⟩ pre.length = (val l : Int) := by
  have hin : ∀ m, (h : m < l.length) → bt ⟨(pre ++ (l ++ suf)).toArray⟩ (pre.length + m) = ((l[m]).toNat : Int) := fun m h => by
    rw [bt_in, List.getD_eq_getElem?_getD, List.getElem?_append_left h, List.getElem?_eq_getElem h]; rfl
  have hsz : (ByteArray.mk (pre ++ (l ++ suf)).toArray).size = pre.length + (l.length + suf.length) := by
    show (pre ++ (l ++ suf)).toArray.size = _
    simp
  have hk : dk ⟨(pre ++ (l ++ suf)).toArray⟩ pre.length = l.length := by
    unfold dk
    refine cnt_is (by omega) (fun m hm => ?_) (fun hlt => ?_)
    · rw [hin m hm]
      have := hd _ (List.getElem_mem hm)
      unfold isD; omega
    · rcases he with he | he
      · subst he; rw [hsz, List.length_nil] at hlt; omega
      · rw [bt_in, List.getD_eq_getElem?_getD, List.getElem?_append_right (by omega), Nat.sub_self, ← List.getD_eq_getElem?_getD]; exact he
  refine ⟨hk, ?_⟩
  have hs : ∀ k, k ≤ l.length → say ⟨(pre ++ (l ++ suf)).toArray⟩ pre.length k = (val (l.take k) : Int) := by
    intro k
    induction k with
    | zero => intro _; rfl
    | succ k ih =>
      intro h
      have h' : k < l.length := by omega
      rw [say_succ, ih (by omega), hin k h', List.take_succ_eq_append_getElem h', val_snoc]
      have := (hd _ (List.getElem_mem h')).1
      omega
  unfold dv
  rw [hk, hs _ (Nat.le_refl _), List.take_length]
def pf (m : Bool) : List UInt8 := if m = true then [45] else []
theorem minus_is (m : Bool) {l suf : List UInt8} (h : allD l) (h0 : l ≠ []) : minusB ⟨(pf m ++ (l ++ suf)).toArray⟩ = m ∧ aOf ⟨(pf m ++ (l ++ suf)).toArray⟩ = (pf m).length := by
  have h1 : minusB ⟨(pf m ++ (l ++ suf)).toArray⟩ = m := by
    cases m with
    | true => exact decide_eq_true ⟨by show 0 < ([45] ++ (l ++ suf)).toArray.size; simp, rfl⟩
    | false =>
      refine decide_eq_false (fun x => ?_)
      cases l with
      | nil => exact h0 rfl
      | cons c t =>
        have hc := (h c List.mem_cons_self).1
        have h2 := x.2
        have h3 : bt ⟨(pf false ++ (c :: t ++ suf)).toArray⟩ 0 = (c.toNat : Int) := rfl
        rw [h3] at h2
        omega
  refine ⟨h1, ?_⟩
  unfold aOf
  rw [h1]
  cases m <;> rfl
theorem two_at (m : Bool) (l1 l2 : List UInt8) (c : UInt8) (hc : ¬ isD (c.toNat : Int)) (hd1 : allD l1) (hd2 : allD l2) (h0 : l1 ≠ []) (s : ByteArray) (hs : s = ⟨(pf m ++ (l1 ++ c :: l2)).toArray⟩) :
    minusB s = m ∧ dk s (aOf s) = l1.length ∧ dv s (aOf s) = (val l1 : Int) ∧ bt s (aOf s + dk s (aOf s)) = (c.toNat : Int) ∧ dk s (aOf s + dk s (aOf s) + 1) = l2.length ∧ dv s (aOf s + dk s (aOf s) + 1) = (val l2 : Int) ∧ aOf s + dk s (aOf s) + 1 + l2.length = s.size := by
  obtain ⟨b1, b2⟩ := minus_is m (suf := c :: l2) hd1 h0
  obtain ⟨c1, c2⟩ := dig_at (pf m) l1 (c :: l2) hd1 (Or.inr hc)
  rw [← hs] at b1 b2 c1 c2
  rw [b2, c1, c2]
  have e1 : bt s ((pf m).length + l1.length) = (c.toNat : Int) := by
    rw [hs, show pf m ++ (l1 ++ c :: l2) = (pf m ++ l1) ++ (c :: l2) by simp]
    have := bt_in (pf m ++ l1) (c :: l2) 0
    rw [List.length_append, Nat.add_zero] at this
    exact this
  have e2 : s = ⟨((pf m ++ (l1 ++ [c])) ++ (l2 ++ [])).toArray⟩ := by rw [hs]; simp
  obtain ⟨f1, f2⟩ := dig_at (pf m ++ (l1 ++ [c])) l2 [] hd2 (Or.inl rfl)
  rw [← e2, show (pf m ++ (l1 ++ [c])).length = (pf m).length + l1.length + 1 by simp; omega] at f1 f2
  refine ⟨b1, rfl, rfl, e1, f1, f2, ?_⟩
  rw [hs]
  show _ = (pf m ++ (l1 ++ c :: l2)).toArray.size
  simp; omega
theorem tenP_nat (k : Nat) : tenP k = ((10 ^ k : Nat) : Int) := by unfold tenP; rw [Int.natCast_pow]; rfl
theorem txt_reads {N : Int} {D : Nat} (h1 : -1000000000000 ≤ N) (h2 : N ≤ 1000000000000) (h3 : 1 ≤ D) (h4 : D ≤ 1000000) (hg : Int.gcd N (D : Int) = 1) : rdO ⟨(txt N D).toArray⟩ = some (Rat.divInt N (D : Int)) := by
  have D0 : (D : Int) ≠ 0 := by omega
  rw [← mk_pos D0]
  obtain ⟨m, hm⟩ : ∃ m, m = decide (N < 0) := ⟨_, rfl⟩
  have hs : sgnT N = pf m := by
    unfold sgnT pf
    by_cases h : N < 0
    · rw [if_pos h, hm, decide_eq_true h]; rfl
    · rw [if_neg h, hm, decide_eq_false h]; rfl
  have hv : ∀ n : Int, n = (N.natAbs : Int) → sgnd m n = N := by
    intro n hn
    unfold sgnd
    by_cases h : N < 0
    · rw [hm, decide_eq_true h, if_pos rfl]; omega
    · rw [hm, decide_eq_false h, if_neg (by decide)]; omega
  by_cases hd : 1000000 % D = 0
  · by_cases hr : N.natAbs % D = 0
    · have d1 : D = 1 := by
        have : D ∣ Nat.gcd N.natAbs D := Nat.dvd_gcd (Nat.dvd_of_mod_eq_zero hr) (Nat.dvd_refl _)
        rw [show Nat.gcd N.natAbs D = 1 from hg] at this
        exact Nat.dvd_one.1 this
      rw [txt_whole hd hr, hs, d1, Nat.div_one]
      obtain ⟨a1, a2, a3⟩ := dd_facts N.natAbs
      have q := List.append_nil (Lib.decDigits N.natAbs)
      rw [← q]
      obtain ⟨b1, b2⟩ := minus_is m (suf := []) a1 a3
      obtain ⟨c1, c2⟩ := dig_at (pf m) _ [] a1 (Or.inl rfl)
      have hB : dB ⟨(pf m ++ (Lib.decDigits N.natAbs ++ [])).toArray⟩ (aOf ⟨(pf m ++ (Lib.decDigits N.natAbs ++ [])).toArray⟩) = true := by
        rw [b2]; unfold dB; rw [c1, c2, a2]
        exact decide_eq_true ⟨List.length_pos_iff.2 a3, by omega⟩
      rw [r_whole hB (by rw [b2, c1]; show _ = (pf m ++ (Lib.decDigits N.natAbs ++ [])).toArray.size; simp), b1, b2, c2, a2, hv _ rfl]
      rfl
    · rw [txt_point hd hr, hs]
      have hR : N.natAbs % D < D := Nat.mod_lt _ (by omega)
      obtain ⟨a1, a2, a3⟩ := dd_facts (N.natAbs / D)
      obtain ⟨d1, d2⟩ := decs_facts (d := D) (by omega) 6 (N.natAbs % D) hR (ends_six hd)
      have d3 := decs_length D 6 (N.natAbs % D)
      have d4 : 0 < (decs D 6 (N.natAbs % D)).length := decs_some hr
      generalize decs D 6 (N.natAbs % D) = l2 at *
      obtain ⟨s, es⟩ : ∃ s, s = ByteArray.mk (pf m ++ (Lib.decDigits (N.natAbs / D) ++ 46 :: l2)).toArray := ⟨_, rfl⟩
      rw [← es]
      obtain ⟨t1, t2, t3, t4, t5, t6, t7⟩ := two_at m _ l2 46 (by decide) a1 d1 a3 s es
      have hq := Nat.div_le_self N.natAbs D
      have vl : val l2 < 10 ^ l2.length := by
        apply Nat.lt_of_mul_lt_mul_right (a := D)
        rw [d2, Nat.mul_comm]
        exact Nat.mul_lt_mul_of_pos_left hR (Nat.pow_pos (by omega))
      have vp : 10 ^ l2.length ≤ 10 ^ 6 := Nat.pow_le_pow_right (by omega) d3
      rw [a2] at t3
      have hB : dB s (aOf s) = true := by
        unfold dB; rw [t2, t3]
        exact decide_eq_true ⟨List.length_pos_iff.2 a3, by omega⟩
      have hB2 : dB s (aOf s + dk s (aOf s) + 1) = true := by
        unfold dB; rw [t5, t6]
        exact decide_eq_true ⟨d4, by omega⟩
      have r := (((r_more hB (by omega)).2 hB2 (by rw [t5]; exact t7)).2.2.2 t4 (by rw [t5]; exact d3) (by rw [t3]; omega))
      rw [r, t5, t6, t3, t1, tenP_nat]
      have key : ((N.natAbs / D * 10 ^ l2.length + val l2) * D : Nat) = N.natAbs * 10 ^ l2.length := by
        rw [Nat.add_mul, d2, Nat.mul_right_comm, ← Nat.add_mul, Nat.mul_comm (N.natAbs / D) D, Nat.div_add_mod]
      rw [← mk_mul (k := (D : Int)) D0, ← mk_mul (n := N) (k := ((10 ^ l2.length : Nat) : Int)) (by have : 0 < 10 ^ l2.length := Nat.pow_pos (by omega); omega), Int.mul_comm (D : Int) ((10 ^ l2.length : Nat) : Int)]
      have key2 : (((N.natAbs / D : Nat) : Int) * ((10 ^ l2.length : Nat) : Int) + (val l2 : Int)) * (D : Int) = (N.natAbs : Int) * ((10 ^ l2.length : Nat) : Int) := by
        rw [← Int.natCast_mul, ← Int.natCast_add, ← Int.natCast_mul, key, Int.natCast_mul]
      congr 1
      unfold sgnd
      by_cases h : N < 0
      · rw [hm, decide_eq_true h, if_pos rfl, Int.mul_neg, Int.mul_comm (D : Int), key2, ← Int.neg_mul, Int.mul_comm]
        congr 1; omega
      · rw [hm, decide_eq_false h, if_neg (by decide), Int.mul_comm (D : Int), key2, Int.mul_comm]
        congr 1; omega
  · rw [txt_frac hd, hs]
    obtain ⟨a1, a2, a3⟩ := dd_facts N.natAbs
    obtain ⟨d1, d2, d3⟩ := dd_facts D
    obtain ⟨s, es⟩ : ∃ s, s = ByteArray.mk (pf m ++ (Lib.decDigits N.natAbs ++ 47 :: Lib.decDigits D)).toArray := ⟨_, rfl⟩
    rw [← es]
    obtain ⟨t1, t2, t3, t4, t5, t6, t7⟩ := two_at m _ _ 47 (by decide) a1 d1 a3 s es
    rw [a2] at t3
    rw [d2] at t6
    have hB : dB s (aOf s) = true := by
      unfold dB; rw [t2, t3]
      exact decide_eq_true ⟨List.length_pos_iff.2 a3, by omega⟩
    have hB2 : dB s (aOf s + dk s (aOf s) + 1) = true := by
      unfold dB; rw [t5, t6]
      exact decide_eq_true ⟨List.length_pos_iff.2 d3, by omega⟩
    have r := ((r_more hB (by omega)).2 hB2 (by rw [t5]; exact t7)).1 t4
    rw [r, t6, t3, t1, hv _ rfl]
end Go.Proofs.YtlggnpohhahdlaaGreatDoor.Wnum
namespace Go.Proofs.YtlggnpohhahdlaaGreatDoor
open Go.RowKit Go.Shelf
set_option linter.unusedVariables false
def abToks : List Wlx.Tok := [⟨1, [49], 0⟩, ⟨5, [43], 1⟩, ⟨3, [65, 49], 2⟩]
theorem ab_scan : scanAll [49, 43, 65, 49] = Wlx.Res.ok abToks := by
  unfold scanAll
  rw [if_neg (by decide)]
  rw [Wlx.scan_tok (k := 1) (n := 1) (by decide) (by decide) (by decide) (by decide) (by decide)]
  show Wlx.Res.cons _ (Wlx.scan 1 [43, 65, 49]) = _
  rw [Wlx.scan_tok (k := 5) (n := 1) (by decide) (by decide) (by decide) (by decide) (by decide)]
  show Wlx.Res.cons _ (Wlx.Res.cons _ (Wlx.scan 2 [65, 49])) = _
  rw [Wlx.scan_tok (k := 3) (n := 2) (by decide) (by decide) (by decide) (by decide) (by decide)]
  show Wlx.Res.cons _ (Wlx.Res.cons _ (Wlx.Res.cons _ (Wlx.scan 4 []))) = _
  rw [Wlx.scan_nil]
  rfl
def abV : Wt.Vl := ⟨1, 1, 1, ⟨#[]⟩, false, 0⟩
def abR : Wt.Rf := ⟨⟨#[]⟩, 0, 0, false, false⟩
def abRow : List Wt.Nd := [opN 5 11, leafN abV, ⟨2, Wt.v0, 0, ⟨#[]⟩, 0, abR, Wt.r0⟩]
theorem dd_1 : Lib.decDigits 1 = [49] := by rw [Lib.decDigits_one (by decide)]; rfl
theorem txt_1 : Wnum.txt 1 1 = [49] := by
  rw [Wnum.txt_whole (by decide) (by decide)]
  show Wnum.sgnT 1 ++ Lib.decDigits 1 = _
  rw [dd_1]; rfl
theorem rd_1 : Wnum.rdO ⟨#[49]⟩ = some 1 := by
  have := Wnum.txt_reads (N := 1) (D := 1) (by decide) (by decide) (by decide) (by decide) (by decide)
  rw [txt_1] at this
  rw [show (⟨#[49]⟩ : ByteArray) = ⟨([49] : List UInt8).toArray⟩ from rfl, this]
  decide +kernel
theorem lit_1 : litV ⟨1, [49], 0⟩ = some abV := by
  unfold litV
  rw [if_pos rfl]
  show (if Wnum.oB (Wnum.rdO ⟨#[49]⟩) = true then some (vNum (Wnum.oN (Wnum.rdO ⟨#[49]⟩)) (Wnum.oD (Wnum.rdO ⟨#[49]⟩))) else none) = _
  rw [rd_1]
  have h1 : Wnum.oB (some (1 : Rat)) = true := by decide +kernel
  have h2 : Wnum.oN (some (1 : Rat)) = 1 := by decide +kernel
  have h3 : Wnum.oD (some (1 : Rat)) = 1 := by decide +kernel
  rw [if_pos h1, h2, h3]
  have h4 : Wnum.cN 1 1 = 1 := by decide +kernel
  have h5 : Wnum.cD 1 1 = 1 := by decide +kernel
  unfold vNum
  rw [h4, h5]; rfl
theorem rf_A1 : rfOf [65, 49] = abR := by
  unfold rfOf abR
  have h1 : Wpl.rdR (undol [65, 49]) = 0 := by decide
  have h2 : Wpl.rdC (undol [65, 49]) = 0 := by decide
  rw [h1, h2]; rfl
theorem cw_A1 : cw abR = [65, 49] := by
  unfold cw
  show fx false ++ Wpl.colS 0 ++ fx false ++ Lib.decDigits 1 = _
  rw [dd_1]; decide
theorem rw_A1 : rw1 [65, 49] = some abR := by
  unfold rw1
  rw [if_pos (by decide), rf_A1, cw_A1, if_pos rfl]
def t1 : Wlx.TV := ⟨1, [49], 0⟩
def t2 : Wlx.TV := ⟨5, [43], 1⟩
def t3 : Wlx.TV := ⟨3, [65, 49], 2⟩
theorem more_nil (sub : List Wlx.TV → PR) (k : Int) (n : Nat) (row : List Wt.Nd) : more sub k n row [] = .inl (row, []) := by cases n <;> rfl
theorem more_not {sub : List Wlx.TV → PR} {k : Int} {n : Nat} {row : List Wt.Nd} {ts : List Wlx.TV} (h : tkOp k ts = none) : more sub k n row ts = .inl (row, ts) := by cases n with
  | zero => rfl
  | succ n => simp only [more, h]
theorem pct_not {n : Nat} {row : List Wt.Nd} {ts : List Wlx.TV} (h : tkOp 6 ts = none) : pct n row ts = .inl (row, ts) := by cases n with
  | zero => rfl
  | succ n => simp only [pct, h]
theorem up {en : Int} {f k : Nat} {ts r : List Wlx.TV} {row : List Wt.Nd} (hk : k < 5) (h : lv en f (k + 1) ts = .inl (row, r)) (hn : tkOp k r = none) : lv en (f + 1) k ts = .inl (row, r) := by
  rw [lv_bt _ _ _ hk]; unfold pbt; rw [h]; exact more_not hn
theorem up6 {en : Int} {f : Nat} {ts r : List Wlx.TV} {row : List Wt.Nd} (h : lv en f 7 ts = .inl (row, r)) (hn : tkOp 6 r = none) : lv en (f + 1) 6 ts = .inl (row, r) := by
  rw [lv_pc]; unfold ppc; rw [h]; exact pct_not hn
theorem up5 {en : Int} {f : Nat} {ts : List Wlx.TV} {q : PR} (hn : tkOp 5 ts = none) (h : lv en f 6 ts = q) : lv en (f + 1) 5 ts = q := by
  rw [lv_sg]; unfold psg; rw [hn]; exact h
theorem lv_1 (f : Nat) : lv 4 (f + 5) 3 [t1, t2, t3] = .inl ([leafN abV], [t2, t3]) := by
  refine up (by decide) (up (by decide) (up5 (by decide) (up6 ?_ (by decide))) (by decide)) (by decide)
  rw [lv_si]
  unfold psi
  rw [if_neg (by decide), if_neg (by decide)]
  unfold pl
  rw [show hd [t1, t2, t3] 4 = ⟨1, [49], 0⟩ from rfl, lit_1]
  rfl
theorem lv_3 (f : Nat) : lv 4 (f + 5) 3 [t3] = .inl ([⟨2, Wt.v0, 0, ⟨#[]⟩, 0, abR, Wt.r0⟩], []) := by
  refine up (by decide) (up (by decide) (up5 (by decide) (up6 ?_ (by decide))) (by decide)) (by decide)
  rw [lv_si]
  unfold psi
  rw [if_pos (by decide)]
  unfold pword
  rw [if_neg (by decide), if_neg (by decide), if_neg (by decide), if_neg (by decide)]
  unfold pcs pc
  rw [if_pos (by decide), if_neg (by decide), if_neg (by decide)]
  rw [show (hd [t3] 4).t = [65, 49] from rfl, rw_A1]
  rfl
theorem ab_prs : prsR [49, 43, 65, 49] = .inl abRow := by
  have hc : Wt.check abRow = 0 := by decide +kernel
  unfold prsR
  rw [ab_scan]
  show prsT 4 [t1, t2, t3] = _
  unfold prsT
  show (match pall (lv 4 39 0) 4 [t1, t2, t3] with | .inr e => _ | .inl (row, _) => _) = _
  have h2 : lv 4 37 2 [t1, t2, t3] = .inl (abRow, []) := by
    rw [lv_bt _ _ _ (by decide)]
    unfold pbt
    rw [lv_1 31]
    show more (lv 4 36 3) ((2 : Nat) : Int) 2 [leafN abV] [t2, t3] = _
    rw [more, show tkOp ((2 : Nat) : Int) [t2, t3] = some ((11, [43], 2), [t3]) from rfl]
    simp only
    rw [lv_3 31]
    simp only
    rw [more_nil]
    rfl
  have h0 : lv 4 39 0 [t1, t2, t3] = .inl (abRow, []) := up (by decide) (up (by decide) h2 (by decide)) (by decide)
  unfold pall
  rw [h0]
  simp only
  rw [if_pos hc]
theorem ab_prnt : prnt abRow = [49, 43, 65, 49] := by
  have hc : Wt.check abRow = 0 := by decide +kernel
  unfold prnt
  rw [if_pos hc]
  have e1 : litT abV = [49] := by
    unfold litT
    rw [if_pos (show abV.k = 1 from rfl)]
    have h4 : Wnum.cN 1 1 = 1 := by decide +kernel
    have h5 : Wnum.cD 1 1 = 1 := by decide +kernel
    show Wnum.txt (Wnum.cN 1 1) (Wnum.cD 1 1).toNat = _
    rw [h4, h5]
    exact txt_1
  have e2 : celT abR = [65, 49] := by
    unfold celT
    rw [if_pos (show abR.s = ⟨#[]⟩ from rfl), cw_A1]
  have e3 : (pr 4 0 abRow).1 = litT abV ++ [43] ++ celT abR := by rfl
  show (pr 4 0 abRow).1 = _
  rw [e3, e1, e2]; rfl
theorem abEq (w : World) : (binOp .eql 45 (.agg (nd20 (opN 5 11)).toArray) (.agg #[.int .i64 5, .int .i64 0, .int .i64 0, .int .i64 0, .string ⟨#[]⟩, .bool false, .int .i64 0, .int .i64 11, .string ⟨#[]⟩, .int .i64 0, .string ⟨#[]⟩, .int .i64 0, .int .i64 0, .bool false, .bool false, .string ⟨#[]⟩, .int .i64 0, .int .i64 0, .bool false, .bool false])).run Tryz.prog w = .ok (.bool true) w := by kernel_rfl
theorem abFit : ∀ x ∈ abRow, Wt.FitN x := by
  intro x hx
  simp only [abRow, List.mem_cons, List.not_mem_nil, or_false] at hx
  rcases hx with rfl | rfl | rfl
  · exact fit_op _ _
  · exact fit_leaf ⟨by decide, by decide, by decide⟩
  · exact fit_cell 2 (s := ⟨#[]⟩) (by decide) abR Wt.r0 rfl
theorem OwnN.cap {w : World} {B n cap : Nat} {av : Option Addr} {row : List Wt.Nd} (h : OwnN w B (.slice av n cap) row) : row.length ≤ cap := by
  rcases h.2 with ⟨e, h0⟩ | ⟨g, cap', cur, e, hg, hc, h1, _⟩
  · omega
  · simp only [Value.slice.injEq] at e
    omega
set_option maxHeartbeats 4000000 in
set_option maxRecDepth 100000 in
theorem table_any (w : World) (hE : Env w) (hk8 : 8 ≤ w.heap.size) : Calls Tryz.prog 9 #[] w fun e w' => e = .returned (.bool true) ∧ Below w.heap.size w w' := by
  have S := parse_any ⟨#[49, 43, 65, 49]⟩ w hE (by decide) hk8
  have e0 : (⟨#[49, 43, 65, 49]⟩ : ByteArray).data.toList = [49, 43, 65, 49] := rfl
  rw [e0, ab_prs] at S
  simp only [PaPost] at S
  clear e0
  go_enter Tryz.func9, Tryz.ntmps9
  go_wp2_with fail
  refine S.mono ?_
  rintro e w1 ⟨⟨v, rfl, hown⟩, hb1⟩
  obtain ⟨av, cap, rfl, hrd⟩ := hown.form
  have hcap := hown.cap
  have hs1 := hb1.size
  have T := print_any av cap abRow w1 (by decide) abFit (hE.below hb1) hrd hcap (by omega)
  have hc : Wt.check abRow = 0 := by decide +kernel
  rw [ab_prnt, hc] at T
  obtain ⟨bb, off, rfl, r0⟩ := hrd 0 (by decide)
  obtain ⟨bb', off', e, r2⟩ := hrd 2 (by decide)
  simp only [Option.some.injEq, Addr.mk.injEq, and_true] at e
  obtain ⟨rfl, rfl⟩ := e
  have hl : abRow.length = 3 := rfl
  rw [hl] at T hcap ⊢
  clear hown S hc hrd
  go_wp2_with fail
  refine T.mono ?_
  rintro e w2 ⟨rfl, hb2⟩
  have q0 : w2.rangeAt bb off (nd20 (opN 5 11)) := fun j v hv => cell_below hb2 (by have := r0 j v hv; simpa using this)
  have q2 : w2.cell? ⟨bb, off + 40, none⟩ = some (.int .i64 2) := cell_below hb2 (r2 0 _ rfl)
  have hB2 := hb1.trans (hb2.mono hs1)
  clear r0 r2 hb1 hb2 T hl
  have hEq := abEq
  go_wp2_with ((with_reducible refine wpList_load_want ?_ 45 (.tmp 29) ?_ bb off ?_ (nd20 (opN 5 11)) _ ?_ Tryz.underlying45 ?_ ?_ ?_); rfl; rfl; rfl; exact q0; rfl; kernel_rfl)
  go_ret
  exact ⟨rfl, hB2⟩
open Go.RowKit
def starts (f : Nat) : Nat → Nat → List Wt.Nd → List Nat
  | 0, _, _ => []
  | k + 1, p, l => p :: (match Wt.one f l with | some (s, _) => starts f k (p + s) (l.drop s) | none => [])
def kidsP (L : List Wt.Nd) (i : Nat) : List Nat := match L.drop i with
  | [] => []
  | x :: r => starts (L.length + 1) (Wt.parts x).toNat (i + 1) r
def intC (ks : List Nat) : List Value := ks.map fun (k : Nat) => .int .i64 (k : Int)
def OwnI (w : World) (B : Nat) (v : Value) (ks : List Nat) : Prop := w.ownsRow B 3 1 v ks.length (intC ks)
theorem OwnI.below {w w' : World} {B : Nat} {v : Value} {ks : List Nat} (h : OwnI w B v ks) (hb : Below w.heap.size w w') : OwnI w' B v ks :=
  World.ownsRow.kept h (row := none) ⟨hb.os, hb.tape, hb.output, hb.size, fun k hk _ => hb.block k hk⟩ (by cases v.ownBlock <;> simp)
theorem intInfo : (Tryz.prog.info? 3).map (fun i => (i.zero, i.size, i.bytes)) = some (some (.int .i64 0), 1, 8) := by kernel_rfl
set_option maxRecDepth 100000 in
set_option maxHeartbeats 1600000 in
theorem lent_any (L : List Wt.Nd) (av : Option Addr) (cap : Nat) (w : World) (hr : RdN w av L) (hno : av = none → L.length = 0 ∧ cap = 0) (hl : True → L.length ≤ 799644820177) :
    Calls Tryz.prog 11 #[.slice av L.length cap] w fun e w' => ∃ v, e = .returned v ∧ Lent w' w.heap.size v L ∧ Below w.heap.size w w' := by
  go_enter Tryz.func11, Tryz.ntmps11
  go_wp2_with (at_builtin; refine wpList_copyN (by rfl) (.tmp 4) (.tmp 5) (by rfl) w (by rfl) av L cap (by rfl) hr hno hl ?_)
  intro v1 w1 own1 hb1
  go_wp2_with (first
    | (with_reducible refine wpList_bldN (by rfl) (.const (.int .i64 77)) (by rfl) 77 (by rfl) ?_)
    | (with_reducible refine wpList_bldN (by rfl) (.const (.int .i64 78)) (by rfl) 78 (by rfl) ?_)
    | (with_reducible refine wpList_bs2n (by rfl) (.tmp 7) (.tmp 8) (by rfl) (mkN 77) (mkN 78) (by rfl) (by rfl) ?_)
    | (at_builtin; refine wpList_appN (by rfl) (.tmp 6) (.tmp 9) (by rfl) w (w1.alloc (.cells (nd20 (mkN 77) ++ nd20 (mkN 78)).toArray 45)) (ball hb1 _) v1 L (by rfl) (own1.below ((Below.refl _ _).alloc (Nat.le_refl _) _)) (some ⟨w1.heap.size, 0, none⟩) [mkN 77, mkN 78] 2 (by rfl) (rd_two w1 (mkN 77) (mkN 78)) (by decide) (fun _ => by have := hl trivial; show L.length + 2 ≤ _; omega) ?_))
  intro v2 w2 own2 hb2
  have hex : ∃ g cap3, v2 = .slice (some ⟨g, 0, none⟩) (L.length + 2) cap3 ∧ L.length + 2 ≤ cap3 ∧ cap3 ≤ maxLen := by
    have e2 : (L ++ [mkN 77, mkN 78]).length = L.length + 2 := by simp
    rcases own2.2 with ⟨_, h0⟩ | ⟨g, cap3, cur, e, _, _, h1, h2, _⟩
    · omega
    · rw [e2] at e h1
      exact ⟨g, cap3, e, h1, h2⟩
  obtain ⟨g, cap3, rfl, hc3, hc4⟩ := hex
  unfold maxLen at hc4
  have k1 : (L.length : Int) ≤ (cap3 : Int) := by omega
  have k2 : (cap3 : Int) ≤ 9223372036854775807 := by omega
  have HL : Hid (Lent w2 w.heap.size (.slice (some ⟨g, 0, none⟩) L.length cap3) L) := ⟨g, cap3, rfl, hc3, k2, own2⟩
  clear own2 own1 hl hno hr hc3 hc4
  go_wp2
  go_ret
  exact ⟨_, rfl, HL.out, hb2⟩
set_option maxRecDepth 100000 in
set_option maxHeartbeats 1600000 in
theorem whole_any (L : List Wt.Nd) (v : Value) (B : Nat) (av : Option Addr) (cap : Nat) (w : World) (hr : RdN w av L) (hv : Lent w B v L) (hl : True → L.length ≤ 799644820177) :
    Calls Tryz.prog 16 #[v, .slice av L.length cap] w fun e w' => e = .returned (.bool true) ∧ Below w.heap.size w w' := by
  obtain ⟨g, cap3, rfl, h1, h2, own⟩ := hv
  have SM := nsame_wide (some ⟨g, 0, none⟩) av cap3 cap L w (rd_app own.rd) hr (fun _ => by have := hl trivial; omega)
  have e2 : (L ++ [mkN 77, mkN 78]).length = L.length + 2 := by simp
  have c77 : w.cell? ⟨g, L.length * 20 + 9, none⟩ = some (.int .i64 77) := by
    have h := own.arg e2.symm L.length (by rw [e2]; omega)
    rw [List.getElem_append_right (Nat.le_refl _)] at h
    simp only [Nat.sub_self, List.getElem_cons_zero] at h
    exact h
  have c78 : w.cell? ⟨g, (L.length + 1) * 20 + 9, none⟩ = some (.int .i64 78) := by
    have h := own.arg e2.symm (L.length + 1) (by rw [e2]; omega)
    have e : (L ++ [mkN 77, mkN 78])[L.length + 1]'(by rw [e2]; omega) = mkN 78 := by
      rw [List.getElem_append_right (Nat.le_succ _)]
      simp
    rw [e] at h
    exact h
  have k1 : (L.length : Int) + 2 ≤ (cap3 : Int) := by omega
  have k2 : ((L.length : Int) + 2).toNat = L.length + 2 := by omega
  have k3 : ((L.length : Int) + 1).toNat = L.length + 1 := by omega
  clear own hr e2 hl h1
  go_enter Tryz.func16, Tryz.ntmps16
  go_wp2_with fail
  refine SM.mono ?_
  rintro e w1 ⟨rfl, hb⟩
  replace c77 := cell_below hb c77
  replace c78 := cell_below hb c78
  clear SM
  go_wp2
  go_ret
  exact ⟨rfl, hb⟩
def RdI (w : World) (av : Option Addr) (ks : List Nat) : Prop := ∀ i (h : i < ks.length), ∃ bb off, av = some ⟨bb, off, none⟩ ∧ w.cell? ⟨bb, off + i, none⟩ = some (.int .i64 (ks[i] : Int))
theorem RdI.below {w w' : World} {av : Option Addr} {ks : List Nat} (h : RdI w av ks) (hb : Below w.heap.size w w') : RdI w' av ks := fun i hi => by
  obtain ⟨bb, off, e, hx⟩ := h i hi
  exact ⟨bb, off, e, cell_below hb hx⟩
theorem OwnI.form {w : World} {B : Nat} {v : Value} {ks : List Nat} (h : OwnI w B v ks) : ∃ av cap, v = .slice av ks.length cap ∧ RdI w av ks := by
  rcases h.2 with ⟨e, h0⟩ | ⟨g, cap, cur, e, -, hcur, -, -, hlen, htk⟩
  · have hk : ks.length = 0 := by omega
    exact ⟨none, 0, by rw [hk]; exact e, fun i hi => absurd hi (by omega)⟩
  · refine ⟨some ⟨g, 0, none⟩, cap, e, fun i hi => ⟨g, 0, rfl, ?_⟩⟩
    have hg := World.ownsRow.cellAt (e ▸ h) i (by omega)
    rw [Nat.zero_add, hg]
    simp [intC, hi]
end Go.Proofs.YtlggnpohhahdlaaGreatDoor
