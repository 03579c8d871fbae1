/- VWalkD, PlainF, PlainS, WalkRd, WalkC, AtKit. -/
import Derived.Test.YtlggnpohhahdlaaGreatDoorQ10
namespace Go.Proofs.YtlggnpohhahdlaaGreatDoor
open Go.RowKit
set_option linter.unusedVariables false
theorem vlz (w : World) : AtL (w.alloc (.cells #[.int .i64 0, .int .i64 0, .int .i64 0, .string ⟨#[]⟩, .bool false, .int .i64 0] 41)) w.heap.size [.int .i64 0, .int .i64 0, .int .i64 0, .string ⟨#[]⟩, .bool false, .int .i64 0] := AtL.new0 w _ _
def vFault (c : Int) : Wt.Vl := ⟨4, 0, 0, ⟨#[]⟩, false, if Wv.flt c then c else 2⟩
set_option maxRecDepth 100000 in
theorem vFault_any (c : Int) (w : World) : Calls Tryz.prog 172 #[.int .i64 c] w fun e w' => e = .returned (vlV (vFault c)) ∧ Below w.heap.size w w' := by
  have C := fun w => vfault_any c w
  unfold vFault
  cases hq : Wv.flt c with
  | false =>
    rw [hq] at C
    go_enter Tryz.func172, Tryz.ntmps172
    go_wp2_with fail
    refine (C _).mono ?_
    rintro e w1 ⟨rfl, rfl⟩
    go_wp2
    refine bodyPost_ret (v := vlV ⟨4, 0, 0, ⟨#[]⟩, false, 2⟩) (by simp [results, Tryz.results172, go_sem, vlV, vl6]) rfl ⟨rfl, ?_⟩
    exact by with_reducible repeat (first | exact Below.refl _ _ | refine below_drewN ?_ _ | refine Below.setCell ?_ (by first | (simp; done) | (simp; omega) | omega) _ | refine Below.drew ?_ | refine below_end ?_ (by assumption) | refine ball ?_ _)
  | true =>
    rw [hq] at C
    go_enter Tryz.func172, Tryz.ntmps172
    go_wp2_with fail
    refine (C _).mono ?_
    rintro e w1 ⟨rfl, rfl⟩
    go_wp2
    refine bodyPost_ret (v := vlV ⟨4, 0, 0, ⟨#[]⟩, false, c⟩) (by simp [results, Tryz.results172, go_sem, vlV, vl6]) rfl ⟨rfl, ?_⟩
    exact by with_reducible repeat (first | exact Below.refl _ _ | refine below_drewN ?_ _ | refine Below.setCell ?_ (by first | (simp; done) | (simp; omega) | omega) _ | refine Below.drew ?_ | refine below_end ?_ (by assumption) | refine ball ?_ _)
def vTruth (b : Bool) : Wt.Vl := ⟨3, 0, 0, ⟨#[]⟩, b, 0⟩
set_option maxRecDepth 100000 in
theorem vTruth_any (b : Bool) (w : World) : Calls Tryz.prog 179 #[.bool b] w fun e w' => e = .returned (vlV (vTruth b)) ∧ Below w.heap.size w w' := by
  go_enter Tryz.func179, Tryz.ntmps179
  go_wp2
  refine bodyPost_ret (v := vlV (vTruth b)) (by simp [results, Tryz.results179, go_sem, vlV, vl6, vTruth]) rfl ⟨rfl, ?_⟩
  exact by with_reducible repeat (first | exact Below.refl _ _ | refine below_drewN ?_ _ | refine Below.setCell ?_ (by first | (simp; done) | (simp; omega) | omega) _ | refine Below.drew ?_ | refine below_end ?_ (by assumption) | refine ball ?_ _)
def vNum (n d : Int) : Wt.Vl := ⟨1, Wnum.cN n d, Wnum.cD n d, ⟨#[]⟩, false, 0⟩
set_option maxRecDepth 100000 in
theorem vNum_any (n d : Int) (w : World) (h1 : -9223372036854775808 ≤ n) (h2 : n ≤ 9223372036854775807) (h3 : -9223372036854775808 ≤ d) (h4 : d ≤ 9223372036854775807) :
    Calls Tryz.prog 177 #[.agg #[.int .i64 n, .int .i64 d]] w fun e w' => e = .returned (vlV (vNum n d)) ∧ Below w.heap.size w w' := by
  have C := fun w => right_any n d w h1 h2 h3 h4
  unfold vNum Wnum.cN Wnum.cD
  have pA := (AtL.new0 w 39 [.int .i64 n, .int .i64 d]).alloc (.cells #[.int .i64 0, .int .i64 0, .int .i64 0, .string ⟨#[]⟩, .bool false, .int .i64 0] 41)
  have pR := vlz (w.alloc (.cells #[.int .i64 n, .int .i64 d] 39))
  simp only [World.size_alloc] at pR
  have hB0 := ball (ball (Below.refl _ w) (.cells #[.int .i64 n, .int .i64 d] 39)) (.cells #[.int .i64 0, .int .i64 0, .int .i64 0, .string ⟨#[]⟩, .bool false, .int .i64 0] 41)
  cases hq : Wnum.rightB n d with
  | false =>
    rw [hq] at C
    go_enter Tryz.func177, Tryz.ntmps177
    go_wp2_with fail
    refine (C _).mono ?_
    rintro e w1 ⟨rfl, hb⟩
    have pA1 := AtL.below hb pA
    have pR1 := AtL.below hb pR
    obtain ⟨a0, a1, f0, f1⟩ := pA1.two
    obtain ⟨c0, c1, c2, c3, c4, c5⟩ := pR1.f6
    have g0 := pR1.2.2 0 (by decide)
    have g1 := pR1.2.2 1 (by decide)
    have g2 := pR1.2.2 2 (by decide)
    have g3 := pR1.2.2 3 (by decide)
    have g4 := pR1.2.2 4 (by decide)
    have g5 := pR1.2.2 5 (by decide)
    have hB1 := below_end hB0 hb
    go_wp2
    refine bodyPost_ret (v := vlV ⟨1, 0, 1, ⟨#[]⟩, false, 0⟩) (by simp [results, Tryz.results177, go_sem, vlV, vl6, *]) rfl ⟨rfl, ?_⟩
    exact by with_reducible repeat (first | exact hB1 | refine ball ?_ _ | refine Below.setCell ?_ (by first | (simp; done) | (simp; omega) | omega) _ | refine Below.drew ?_ | refine below_drewN ?_ _)
  | true =>
    rw [hq] at C
    go_enter Tryz.func177, Tryz.ntmps177
    go_wp2_with fail
    refine (C _).mono ?_
    rintro e w1 ⟨rfl, hb⟩
    have pA1 := AtL.below hb pA
    have pR1 := AtL.below hb pR
    obtain ⟨a0, a1, f0, f1⟩ := pA1.two
    obtain ⟨c0, c1, c2, c3, c4, c5⟩ := pR1.f6
    have g0 := pR1.2.2 0 (by decide)
    have g1 := pR1.2.2 1 (by decide)
    have g2 := pR1.2.2 2 (by decide)
    have g3 := pR1.2.2 3 (by decide)
    have g4 := pR1.2.2 4 (by decide)
    have g5 := pR1.2.2 5 (by decide)
    have hB1 := below_end hB0 hb
    go_wp2
    refine bodyPost_ret (v := vlV ⟨1, n, d, ⟨#[]⟩, false, 0⟩) (by simp [results, Tryz.results177, go_sem, vlV, vl6, *]) rfl ⟨rfl, ?_⟩
    exact by with_reducible repeat (first | exact hB1 | refine ball ?_ _ | refine Below.setCell ?_ (by first | (simp; done) | (simp; omega) | omega) _ | refine Below.drew ?_ | refine below_drewN ?_ _)
def vText (s : ByteArray) : Wt.Vl := if Wv.prts s.data.toList then (if 256 < s.size then ⟨4, 0, 0, ⟨#[]⟩, false, 7⟩ else ⟨2, 0, 0, s, false, 0⟩) else ⟨4, 0, 0, ⟨#[]⟩, false, 2⟩
set_option maxRecDepth 100000 in
theorem vText_any (s : ByteArray) (w : World) (hs : s.size ≤ 9223372036854775807) : Calls Tryz.prog 175 #[.string s] w fun e w' => e = .returned (vlV (vText s)) ∧ Below w.heap.size w w' := by
  have C := fun w => vprt_any s w hs
  have F2 := fun w => vFault_any 2 w
  have F7 := fun w => vFault_any 7 w
  have e2 : vFault 2 = ⟨4, 0, 0, ⟨#[]⟩, false, 2⟩ := rfl
  have e7 : vFault 7 = ⟨4, 0, 0, ⟨#[]⟩, false, 7⟩ := rfl
  rw [e2] at F2
  rw [e7] at F7
  simp only [vlV, vl6] at F2 F7
  have pR := vlz w
  have hB0 := ball (Below.refl _ w) (.cells #[.int .i64 0, .int .i64 0, .int .i64 0, .string ⟨#[]⟩, .bool false, .int .i64 0] 41)
  unfold vText
  cases hq : Wv.prts s.data.toList with
  | false =>
    rw [hq] at C
    rw [if_neg (by decide)]
    go_enter Tryz.func175, Tryz.ntmps175
    go_wp2_with fail
    refine (C _).mono ?_
    rintro e w1 ⟨rfl, rfl⟩
    go_wp2_with fail
    refine (F2 _).mono ?_
    rintro e w2 ⟨rfl, hb⟩
    have pR1 := AtL.below hb pR
    obtain ⟨c0, c1, c2, c3, c4, c5⟩ := pR1.f6
    have g0 := pR1.2.2 0 (by decide)
    have g1 := pR1.2.2 1 (by decide)
    have g2 := pR1.2.2 2 (by decide)
    have g3 := pR1.2.2 3 (by decide)
    have g4 := pR1.2.2 4 (by decide)
    have g5 := pR1.2.2 5 (by decide)
    have hB1 := below_end hB0 hb
    go_wp2
    refine bodyPost_ret (v := vlV ⟨4, 0, 0, ⟨#[]⟩, false, 2⟩) (by simp [results, Tryz.results175, go_sem, vlV, vl6, *]) rfl ⟨rfl, ?_⟩
    exact by with_reducible repeat (first | exact hB1 | refine ball ?_ _ | refine Below.setCell ?_ (by first | (simp; done) | (simp; omega) | omega) _ | refine Below.drew ?_ | refine below_drewN ?_ _)
  | true =>
    rw [hq] at C
    rw [if_pos rfl]
    by_cases hl : 256 < s.size
    · have hli : (256 : Int) < (s.size : Int) := by omega
      rw [if_pos hl]
      go_enter Tryz.func175, Tryz.ntmps175
      go_wp2_with fail
      refine (C _).mono ?_
      rintro e w1 ⟨rfl, rfl⟩
      go_wp2_with fail
      refine (F7 _).mono ?_
      rintro e w2 ⟨rfl, hb⟩
      have pR1 := AtL.below hb pR
      obtain ⟨c0, c1, c2, c3, c4, c5⟩ := pR1.f6
      have g0 := pR1.2.2 0 (by decide)
      have g1 := pR1.2.2 1 (by decide)
      have g2 := pR1.2.2 2 (by decide)
      have g3 := pR1.2.2 3 (by decide)
      have g4 := pR1.2.2 4 (by decide)
      have g5 := pR1.2.2 5 (by decide)
      have hB1 := below_end hB0 hb
      go_wp2
      refine bodyPost_ret (v := vlV ⟨4, 0, 0, ⟨#[]⟩, false, 7⟩) (by simp [results, Tryz.results175, go_sem, vlV, vl6, *]) rfl ⟨rfl, ?_⟩
      exact by with_reducible repeat (first | exact hB1 | refine ball ?_ _ | refine Below.setCell ?_ (by first | (simp; done) | (simp; omega) | omega) _ | refine Below.drew ?_ | refine below_drewN ?_ _)
    · have hli : ¬ (256 : Int) < (s.size : Int) := by omega
      rw [if_neg hl]
      go_enter Tryz.func175, Tryz.ntmps175
      go_wp2_with fail
      refine (C _).mono ?_
      rintro e w1 ⟨rfl, rfl⟩
      go_wp2
      refine bodyPost_ret (v := vlV ⟨2, 0, 0, s, false, 0⟩) (by simp [results, Tryz.results175, go_sem, vlV, vl6, *]) rfl ⟨rfl, ?_⟩
      exact by with_reducible repeat (first | exact Below.refl _ _ | refine below_drewN ?_ _ | refine Below.setCell ?_ (by first | (simp; done) | (simp; omega) | omega) _ | refine Below.drew ?_ | refine below_end ?_ (by assumption) | refine ball ?_ _)
end Go.Proofs.YtlggnpohhahdlaaGreatDoor
namespace Go.Proofs.YtlggnpohhahdlaaGreatDoor.Wnum
def tenP (k : Nat) : Int := 10 ^ k
theorem tenP_succ (k : Nat) : tenP (k + 1) = tenP k * 10 := by unfold tenP; exact Int.pow_succ 10 k
theorem tenP_pos (k : Nat) : 1 ≤ tenP k := by
  induction k with
  | zero => exact Int.le_refl _
  | succ k ih => rw [tenP_succ]; omega
theorem tenP_mono (k n : Nat) : tenP k ≤ tenP (k + n) := by
  induction n with
  | zero => exact Int.le_refl _
  | succ n ih => rw [← Nat.add_assoc, tenP_succ]; have := tenP_pos (k + n); omega
theorem tenP_twelve : tenP 12 = 1000000000000 := by decide
theorem tenP_six : tenP 6 = 1000000 := by decide
theorem tenP_le12 {k : Nat} (h : k ≤ 12) : tenP k ≤ 1000000000000 := by
  have := tenP_mono k (12 - k)
  rw [show k + (12 - k) = 12 by omega, tenP_twelve] at this
  exact this
theorem tenP_le6 {k : Nat} (h : k ≤ 6) : tenP k ≤ 1000000 := by
  have := tenP_mono k (6 - k)
  rw [show k + (6 - k) = 6 by omega, tenP_six] at this
  exact this
end Go.Proofs.YtlggnpohhahdlaaGreatDoor.Wnum
namespace Go.Proofs.YtlggnpohhahdlaaGreatDoor.Wnum
def bt (s : ByteArray) (i : Nat) : Int := ((s.data.toList.getD i 0).toNat : Int)
abbrev isD (b : Int) : Prop := 48 ≤ b ∧ b ≤ 57
def cnt (s : ByteArray) : Nat → Nat → Nat
  | _, 0 => 0
  | i, k + 1 => if isD (bt s i) then cnt s (i + 1) k + 1 else 0
def say (s : ByteArray) (i : Nat) : Nat → Int
  | 0 => 0
  | k + 1 => say s i k * 10 + (bt s (i + k) - 48)
theorem bt_bd (s : ByteArray) (i : Nat) : 0 ≤ bt s i ∧ bt s i ≤ 255 := by
  unfold bt
  have := (s.data.toList.getD i 0).toNat_lt
  omega
theorem bt_get {s : ByteArray} {i : Nat} (h : i < s.size) : (((s[i]'h).toNat : Nat) : Int) = bt s i := by
  unfold bt
  obtain ⟨⟨l⟩⟩ := s
  have hl : i < l.length := h
  have e : (ByteArray.mk ⟨l⟩)[i]'h = l.getD i 0 := by
    simp only [List.getD, List.getElem?_eq_getElem hl, Option.getD_some]
    rfl
  rw [e]
theorem cnt_le (s : ByteArray) : ∀ k i, cnt s i k ≤ k := by
  intro k
  induction k with
  | zero => intro i; exact Nat.le_refl _
  | succ k ih =>
    intro i
    show (if isD (bt s i) then cnt s (i + 1) k + 1 else 0) ≤ k + 1
    split
    · have := ih (i + 1); omega
    · omega
theorem cnt_all (s : ByteArray) : ∀ k i j, j < cnt s i k → isD (bt s (i + j)) := by
  intro k
  induction k with
  | zero => intro i j h; exact absurd h (Nat.not_lt_zero _)
  | succ k ih =>
    intro i j h
    have e : cnt s i (k + 1) = if isD (bt s i) then cnt s (i + 1) k + 1 else 0 := rfl
    rw [e] at h
    by_cases c : isD (bt s i)
    · rw [if_pos c] at h
      cases j with
      | zero => exact c
      | succ j =>
        have := ih (i + 1) j (by omega)
        rw [show i + 1 + j = i + (j + 1) by omega] at this
        exact this
    · rw [if_neg c] at h; omega
theorem cnt_end (s : ByteArray) : ∀ k i, cnt s i k < k → ¬ isD (bt s (i + cnt s i k)) := by
  intro k
  induction k with
  | zero => intro i h; omega
  | succ k ih =>
    intro i h
    have e : cnt s i (k + 1) = if isD (bt s i) then cnt s (i + 1) k + 1 else 0 := rfl
    rw [e] at h ⊢
    by_cases c : isD (bt s i)
    · rw [if_pos c] at h ⊢
      have := ih (i + 1) (by omega)
      rw [show i + 1 + cnt s (i + 1) k = i + (cnt s (i + 1) k + 1) by omega] at this
      exact this
    · rw [if_neg c]; exact c
theorem cnt_is {s : ByteArray} {i k j : Nat} (hj : j ≤ k) (h1 : ∀ m, m < j → isD (bt s (i + m))) (h2 : j < k → ¬ isD (bt s (i + j))) : cnt s i k = j := by
  rcases Nat.lt_trichotomy (cnt s i k) j with h | h | h
  · exact absurd (h1 _ h) (cnt_end s k i (by omega))
  · exact h
  · exact absurd (cnt_all s k i j h) (h2 (by have := cnt_le s k i; omega))
theorem say_nonneg {s : ByteArray} {i : Nat} : ∀ k, (∀ m, m < k → isD (bt s (i + m))) → 0 ≤ say s i k := by
  intro k
  induction k with
  | zero => intro _; exact Int.le_refl _
  | succ k ih =>
    intro h
    have h1 := ih (fun m hm => h m (by omega))
    have h2 := (h k (by omega)).1
    show 0 ≤ say s i k * 10 + (bt s (i + k) - 48)
    omega
theorem say_mono {s : ByteArray} {i : Nat} : ∀ n k, (∀ m, m < k + n → isD (bt s (i + m))) → say s i k ≤ say s i (k + n) := by
  intro n
  induction n with
  | zero => intro k _; exact Int.le_refl _
  | succ n ih =>
    intro k h
    have h1 := ih k (fun m hm => h m (by omega))
    have h2 := (h (k + n) (by omega)).1
    have h3 := say_nonneg (s := s) (i := i) (k + n) (fun m hm => h m (by omega))
    show say s i k ≤ say s i (k + n) * 10 + (bt s (i + (k + n)) - 48)
    omega
def dk (s : ByteArray) (i : Nat) : Nat := cnt s i (s.size - i)
def dv (s : ByteArray) (i : Nat) : Int := say s i (dk s i)
def dB (s : ByteArray) (i : Nat) : Bool := decide (0 < dk s i ∧ dv s i ≤ 1000000000000000000)
theorem dk_le (s : ByteArray) (i : Nat) : dk s i ≤ s.size - i := cnt_le s _ i
theorem dk_all (s : ByteArray) (i : Nat) : ∀ m, m < dk s i → isD (bt s (i + m)) := fun m h => cnt_all s _ i m h
theorem dk_end {s : ByteArray} {i : Nat} (h : i + dk s i < s.size) : ¬ isD (bt s (i + dk s i)) := cnt_end s _ i (by unfold dk at *; omega)
theorem dv_nonneg (s : ByteArray) (i : Nat) : 0 ≤ dv s i := say_nonneg _ (dk_all s i)
theorem over_before {s : ByteArray} {i j : Nat} (hj : j ≤ dk s i) (h : 1000000000000000000 < say s i j) : dB s i = false := by
  have := say_mono (s := s) (i := i) (dk s i - j) j (by rw [show j + (dk s i - j) = dk s i by omega]; exact dk_all s i)
  rw [show j + (dk s i - j) = dk s i by omega] at this
  unfold dB dv
  rw [decide_eq_false_iff_not]
  omega
theorem ten_step {a d : Int} : (1000000000000000000 - d) / 10 < a ↔ 1000000000000000000 < a * 10 + d := by omega
def rdV (s : ByteArray) : Int := if dB s 0 = true then dv s 0 else 0
def rdS (s : ByteArray) : ByteArray := if dB s 0 = true then s.extract (dk s 0) s.size else ⟨#[]⟩
theorem rd_false {s : ByteArray} (h : dB s 0 = false) : rdV s = 0 ∧ rdS s = ⟨#[]⟩ := by unfold rdV rdS; rw [h]; exact ⟨rfl, rfl⟩
theorem rd_true {s : ByteArray} (h : dB s 0 = true) : rdV s = dv s 0 ∧ rdS s = s.extract (dk s 0) s.size := by unfold rdV rdS; rw [h]; exact ⟨rfl, rfl⟩
theorem dk_more {s : ByteArray} {i j : Nat} (hj : j ≤ dk s i) (h1 : i + j < s.size) (h2 : isD (bt s (i + j))) : j < dk s i := by
  rcases Nat.lt_or_ge j (dk s i) with h | h
  · exact h
  · have e : j = dk s i := by omega
    exact absurd (e ▸ h2) (dk_end (by omega))
theorem dk_stop {s : ByteArray} {i j : Nat} (hj : j ≤ dk s i) (h : s.size ≤ i + j ∨ ¬ isD (bt s (i + j))) : dk s i = j := by
  rcases Nat.lt_or_ge j (dk s i) with c | c
  · rcases h with h | h
    · have := dk_le s i; omega
    · exact absurd (dk_all s i j c) h
  · omega
theorem dB_stop {s : ByteArray} {i j : Nat} (e : dk s i = j) (hb : say s i j ≤ 1000000000000000000) : dv s i = say s i j ∧ dB s i = decide (0 < j) := by
  have h1 : dv s i = say s i j := by unfold dv; rw [e]
  refine ⟨h1, ?_⟩
  unfold dB
  rw [h1, e]
  by_cases h : 0 < j
  · rw [decide_eq_true h, decide_eq_true ⟨h, hb⟩]
  · rw [decide_eq_false h, decide_eq_false (fun x => h x.1)]
theorem say_succ (s : ByteArray) (i k : Nat) : say s i (k + 1) = say s i k * 10 + (bt s (i + k) - 48) := rfl
end Go.Proofs.YtlggnpohhahdlaaGreatDoor.Wnum
namespace Go.Proofs.YtlggnpohhahdlaaGreatDoor
open Go.RowKit
set_option linter.unusedVariables false
set_option maxHeartbeats 800000 in
theorem readDigits_any (s : ByteArray) (w : World) (hs : s.size ≤ 9223372036854775807) :
    Calls Tryz.prog 201 #[.string s] w fun e w' => e = .returned (.tuple #[.int .i64 (Wnum.rdV s), .string (Wnum.rdS s), .bool (Wnum.dB s 0)]) ∧ ∃ n, w' = w.drewN n := by
  go_enter Tryz.func201, Tryz.ntmps201
  go_wp2
  go_loop [2, 5, 6] (fun x i _ => ∃ j : Nat, ∃ a : Int, j ≤ Wnum.dk s 0 ∧ x = .int .i64 a ∧ i = .int .i64 j ∧ 0 ≤ a ∧ a ≤ 1000000000000000000 ∧ Hid (Wnum.say s 0 j = a)) (fun _ i _ => s.size - (intOf i).toNat)
  case atStart => exact ⟨0, 0, Nat.zero_le _, rfl, rfl, by omega, by omega, (rfl : Wnum.say s 0 0 = 0)⟩
  case round =>
    obtain ⟨j, a, hj, rfl, rfl, ha, hb, ea⟩ := hrel
    have hds : Wnum.dk s 0 ≤ s.size := by have := Wnum.dk_le s 0; omega
    have HJ : Hid (j ≤ Wnum.dk s 0) := hj
    have HS : Hid (Wnum.dk s 0 ≤ s.size) := hds
    clear hj hds
    by_cases hlt : j < s.size
    · have eb := Wnum.bt_get hlt
      obtain ⟨c0, c1⟩ := Wnum.bt_bd s j
      obtain ⟨c, ec⟩ : ∃ c, c = Wnum.bt s j := ⟨_, rfl⟩
      have EC : Hid (Wnum.bt s (0 + j) = c) := by show _ = _; rw [Nat.zero_add, ec]
      rw [← ec] at eb c0 c1
      clear ec
      by_cases d1 : 48 ≤ c
      · by_cases d2 : c ≤ 57
        · have lt := Wnum.dk_more HJ.out (by omega) (by rw [EC.out]; exact ⟨d1, d2⟩)
          have LT : Hid (j < Wnum.dk s 0) := lt
          have SS : Hid (Wnum.say s 0 (j + 1) = a * 10 + (c - 48)) := by show _ = _; rw [Wnum.say_succ, ea.out, EC.out]
          clear lt
          by_cases ov : (1000000000000000000 - (c - 48)) / 10 < a
          · have f0 := Wnum.over_before (j := j + 1) LT.out (by rw [SS.out]; exact Wnum.ten_step.1 ov)
            obtain ⟨f1, f2⟩ := Wnum.rd_false f0
            have F0 : Hid (Wnum.dB s 0 = false) := f0
            have F1 : Hid (Wnum.rdV s = 0) := f1
            have F2 : Hid (Wnum.rdS s = ⟨#[]⟩) := f2
            clear f0 f1 f2
            go_wp2
            go_ret3
            exact ⟨by rw [F0.out, F1.out, F2.out]; rfl, 0, rfl⟩
          · have nv : a * 10 + (c - 48) ≤ 1000000000000000000 := by
              have : ¬ 1000000000000000000 < a * 10 + (c - 48) := fun h => ov (Wnum.ten_step.2 h)
              omega
            have n0 : 0 ≤ a * 10 + (c - 48) := by omega
            go_wp2
            go_round
            case rel => exact ⟨j + 1, a * 10 + (c - 48), LT.out, by go_num, by go_num, n0, nv, SS⟩
            case measure => simp [intOf]; omega
        · have ek := Wnum.dk_stop HJ.out (Or.inr (by rw [EC.out]; intro h; exact d2 h.2))
          have d2' : decide (c ≤ 57) = false := decide_eq_false d2
          obtain ⟨g1, g2⟩ := Wnum.dB_stop ek (by rw [ea.out]; exact hb)
          rw [ea.out] at g1
          by_cases hz : j = 0
          · have f0 : Wnum.dB s 0 = false := by rw [g2]; exact decide_eq_false (by omega)
            have hz' : ((j : Int) == 0) = true := by rw [beq_iff_eq]; omega
            obtain ⟨f1, f2⟩ := Wnum.rd_false f0
            have F0 : Hid (Wnum.dB s 0 = false) := f0
            have F1 : Hid (Wnum.rdV s = 0) := f1
            have F2 : Hid (Wnum.rdS s = ⟨#[]⟩) := f2
            clear f0 f1 f2 g1 g2 ek hz
            go_wp2
            go_ret3
            exact ⟨by rw [F0.out, F1.out, F2.out]; rfl, 0, rfl⟩
          · have f0 : Wnum.dB s 0 = true := by rw [g2]; exact decide_eq_true (by omega)
            obtain ⟨f1, f2⟩ := Wnum.rd_true f0
            rw [g1] at f1
            rw [ek] at f2
            have F0 : Hid (Wnum.dB s 0 = true) := f0
            have F1 : Hid (Wnum.rdV s = a) := f1
            have F2 : Hid (Wnum.rdS s = s.extract j s.size) := f2
            clear f0 f1 f2 g1 g2 ek
            have hz' : ((j : Int) == 0) = false := by rw [beq_eq_false_iff_ne]; omega
            go_wp2
            go_quiet (fail)
            go_wp2
            go_ret3
            exact ⟨by rw [F0.out, F1.out, F2.out]; rfl, _, rfl⟩
      · have ek := Wnum.dk_stop HJ.out (Or.inr (by rw [EC.out]; intro h; exact d1 h.1))
        have d1' : decide (48 ≤ c) = false := decide_eq_false d1
        obtain ⟨g1, g2⟩ := Wnum.dB_stop ek (by rw [ea.out]; exact hb)
        rw [ea.out] at g1
        by_cases hz : j = 0
        · have f0 : Wnum.dB s 0 = false := by rw [g2]; exact decide_eq_false (by omega)
          have hz' : ((j : Int) == 0) = true := by rw [beq_iff_eq]; omega
          obtain ⟨f1, f2⟩ := Wnum.rd_false f0
          have F0 : Hid (Wnum.dB s 0 = false) := f0
          have F1 : Hid (Wnum.rdV s = 0) := f1
          have F2 : Hid (Wnum.rdS s = ⟨#[]⟩) := f2
          clear f0 f1 f2 g1 g2 ek hz
          go_wp2
          go_ret3
          exact ⟨by rw [F0.out, F1.out, F2.out]; rfl, 0, rfl⟩
        · have f0 : Wnum.dB s 0 = true := by rw [g2]; exact decide_eq_true (by omega)
          obtain ⟨f1, f2⟩ := Wnum.rd_true f0
          rw [g1] at f1
          rw [ek] at f2
          have F0 : Hid (Wnum.dB s 0 = true) := f0
          have F1 : Hid (Wnum.rdV s = a) := f1
          have F2 : Hid (Wnum.rdS s = s.extract j s.size) := f2
          clear f0 f1 f2 g1 g2 ek
          have hz' : ((j : Int) == 0) = false := by rw [beq_eq_false_iff_ne]; omega
          go_wp2
          go_quiet (fail)
          go_wp2
          go_ret3
          exact ⟨by rw [F0.out, F1.out, F2.out]; rfl, _, rfl⟩
    · have ek := Wnum.dk_stop HJ.out (Or.inl (by omega))
      have ej : j = s.size := by have := HJ.out; have := HS.out; omega
      obtain ⟨g1, g2⟩ := Wnum.dB_stop ek (by rw [ea.out]; exact hb)
      rw [ea.out] at g1
      by_cases hz : j = 0
      · have f0 : Wnum.dB s 0 = false := by rw [g2]; exact decide_eq_false (by omega)
        have hz' : ((j : Int) == 0) = true := by rw [beq_iff_eq]; omega
        obtain ⟨f1, f2⟩ := Wnum.rd_false f0
        have F0 : Hid (Wnum.dB s 0 = false) := f0
        have F1 : Hid (Wnum.rdV s = 0) := f1
        have F2 : Hid (Wnum.rdS s = ⟨#[]⟩) := f2
        clear f0 f1 f2 g1 g2 ek ej hz
        go_wp2
        go_ret3
        exact ⟨by rw [F0.out, F1.out, F2.out]; rfl, 0, rfl⟩
      · have f0 : Wnum.dB s 0 = true := by rw [g2]; exact decide_eq_true (by omega)
        obtain ⟨f1, f2⟩ := Wnum.rd_true f0
        rw [g1] at f1
        rw [ek] at f2
        have F0 : Hid (Wnum.dB s 0 = true) := f0
        have F1 : Hid (Wnum.rdV s = a) := f1
        have F2 : Hid (Wnum.rdS s = s.extract j s.size) := f2
        have jl : j ≤ s.size := by omega
        clear f0 f1 f2 g1 g2 ek ej
        have hz' : ((j : Int) == 0) = false := by rw [beq_eq_false_iff_ne]; omega
        go_wp2
        go_quiet (fail)
        go_wp2
        go_ret3
        exact ⟨by rw [F0.out, F1.out, F2.out]; rfl, _, rfl⟩
set_option maxHeartbeats 400000 in
theorem make_pos (n d : Int) (w : World) (h1 : -9223372036854775807 ≤ n) (h2 : n ≤ 9223372036854775807) (h3 : 1 ≤ d) (h4 : d ≤ 9223372036854775807) :
    Calls Tryz.prog 193 #[.int .i64 n, .int .i64 d] w fun e w' => e = .returned (.tuple #[.agg #[.int .i64 (Wnum.oN (some (Rat.divInt n d))), .int .i64 (Wnum.oD (some (Rat.divInt n d)))], .bool (Wnum.oB (some (Rat.divInt n d)))]) ∧ Below w.heap.size w w' := by
  obtain ⟨g1, g2, g3, g4, g5⟩ := Wnum.mk_tdiv h3 h1 h2
  have k1 : Hid ((Rat.divInt n d).num = n.tdiv ((Int.gcd n d : Nat) : Int)) := g4
  have g8 : d.tdiv ((Int.gcd n d : Nat) : Int) = d / ((Int.gcd n d : Nat) : Int) := Int.tdiv_eq_ediv_of_nonneg (by omega)
  have k2 : Hid ((((Rat.divInt n d).den : Nat) : Int) = d.tdiv ((Int.gcd n d : Nat) : Int)) := g5.trans g8.symm
  have g6 : 0 ≤ d / ((Int.gcd n d : Nat) : Int) := Int.ediv_nonneg (by omega) (by omega)
  have g7 : d / ((Int.gcd n d : Nat) : Int) ≤ d := Int.ediv_le_self _ (by omega)
  rw [← g8] at g6 g7
  have g9 : d.tdiv ((Int.gcd n d : Nat) : Int) ≤ 9223372036854775807 := by omega
  have g10 : -9223372036854775807 ≤ d.tdiv ((Int.gcd n d : Nat) : Int) := by omega
  have hw : IntKind.i64.wrap (d.tdiv ((Int.gcd n d : Nat) : Int)) = d.tdiv ((Int.gcd n d : Nat) : Int) := IntWalk.i64_in _ (by omega)
  have hwn : IntKind.i64.wrap (n.tdiv ((Int.gcd n d : Nat) : Int)) = n.tdiv ((Int.gcd n d : Nat) : Int) := IntWalk.i64_in _ (by omega)
  clear g4 g5 g8 g7 g6
  have t0 : (n == -9223372036854775808) = false := beq_eq_false_iff_ne.2 (by omega)
  have t1 : (d == -9223372036854775808) = false := beq_eq_false_iff_ne.2 (by omega)
  have t2 : (d == 0) = false := beq_eq_false_iff_ne.2 (by omega)
  have t3 : decide (d < 0) = false := by simp; omega
  generalize Rat.divInt n d = r at *
  go_enter Tryz.func193, Tryz.ntmps193
  go_wp2_with (go_at_call 160; refine (divisor_any _ _ _ (by omega) (by omega) (by omega) (by omega)).mono ?_; rintro e w1 ⟨rfl, nq, rfl⟩)
  clear t0 t1 t2 t3
  go_region_with ((go_at_call 203; refine (fitting_any _ _ r _ g2 g3 k1 k2).mono ?_; rintro e w1 ⟨rfl, hb⟩; obtain ⟨hc, hf⟩ := bcell hb; have hz := bsz (k := w.heap.size) hb (by simp)))
  all_goals
    go_wp2
    refine bodyPost_ret (v := .tuple #[.agg #[.int .i64 (Wnum.oN (some r)), .int .i64 (Wnum.oD (some r))], .bool (Wnum.oB (some r))]) (by simp [results, Tryz.results193, go_sem, hc]) rfl ⟨rfl, ?_⟩
    exact (by with_reducible repeat (first | exact Below.refl _ _ | refine below_drewN ?_ _ | refine Below.setCell ?_ (by first | (simp; done) | (simp; omega) | omega) _ | refine Below.drew ?_ | refine below_end ?_ (by assumption) | refine ball ?_ _))
def At (W : World) (k : Nat) (v0 v1 : Value) : Prop :=
  W.cell? ⟨k, 0, none⟩ = some v0 ∧ W.cell? ⟨k, 1, none⟩ = some v1 ∧ W.frozen? ⟨k, 0, none⟩ = false ∧ W.frozen? ⟨k, 1, none⟩ = false
theorem At.lt {W : World} {k : Nat} {v0 v1 : Value} (h : At W k v0 v1) : k < W.heap.size := World.block_lt_of_cell? W ⟨k, 0, none⟩ h.1
theorem At.new (W : World) (t : TypeId) {k : Nat} (hk : k = W.heap.size) (v0 v1 : Value) : At (W.alloc (.cells #[v0, v1] t)) k v0 v1 := by
  subst hk
  exact ⟨by simp [go_sem], by simp [go_sem], by simp [go_sem], by simp [go_sem]⟩
theorem At.alloc {W : World} {k : Nat} {v0 v1 : Value} (h : At W k v0 v1) (o : Obj) : At (W.alloc o) k v0 v1 := by
  have hl := h.lt
  obtain ⟨h1, h2, h3, h4⟩ := h
  refine ⟨?_, ?_, ?_, ?_⟩
  · rw [World.cell?_alloc_past _ _ _ hl]; exact h1
  · rw [World.cell?_alloc_past _ _ _ hl]; exact h2
  · rw [World.frozen?_alloc_old _ _ _ (by simp; omega)]; exact h3
  · rw [World.frozen?_alloc_old _ _ _ (by simp; omega)]; exact h4
theorem At.below {W W' : World} (hb : Below W.heap.size W W') {k : Nat} {v0 v1 : Value} (h : At W k v0 v1) : At W' k v0 v1 := by
  have hl := h.lt
  obtain ⟨h1, h2, h3, h4⟩ := h
  exact ⟨(hb.cell (p := ⟨k, 0, none⟩) hl).trans h1, (hb.cell (p := ⟨k, 1, none⟩) hl).trans h2, (hb.frozen (p := ⟨k, 0, none⟩) hl).trans h3, (hb.frozen (p := ⟨k, 1, none⟩) hl).trans h4⟩
theorem At.drewN {W : World} {k : Nat} {v0 v1 : Value} (h : At W k v0 v1) (n : Nat) : At (W.drewN n) k v0 v1 := At.below (below_drewN (Below.refl _ _) n) h
theorem At.drew {W : World} {k : Nat} {v0 v1 : Value} (h : At W k v0 v1) : At W.drew k v0 v1 := At.below (Below.refl _ _).drew h
theorem At.far {W : World} {k : Nat} {v0 v1 : Value} (h : At W k v0 v1) (j o : Nat) (v : Value) (hj : j ≠ k) : At (W.setCell ⟨j, o, none⟩ v) k v0 v1 := by
  obtain ⟨h1, h2, h3, h4⟩ := h
  refine ⟨?_, ?_, ?_, ?_⟩
  · rw [World.cell?_setCell_far _ _ _ _ (by simpa using hj)]; exact h1
  · rw [World.cell?_setCell_far _ _ _ _ (by simpa using hj)]; exact h2
  · rw [World.frozen?_setCell]; exact h3
  · rw [World.frozen?_setCell]; exact h4
theorem At.set0 {W : World} {k : Nat} {v0 v1 : Value} (h : At W k v0 v1) (u : Value) : At (W.setCell ⟨k, 0, none⟩ u) k u v1 := by
  obtain ⟨h1, h2, h3, h4⟩ := h
  refine ⟨World.cell?_setCell_same _ _ _ h1, ?_, ?_, ?_⟩
  · rw [World.cell?_setCell_other _ _ _ _ (by simp)]; exact h2
  · rw [World.frozen?_setCell]; exact h3
  · rw [World.frozen?_setCell]; exact h4
theorem At.set1 {W : World} {k : Nat} {v0 v1 : Value} (h : At W k v0 v1) (u : Value) : At (W.setCell ⟨k, 1, none⟩ u) k v0 u := by
  obtain ⟨h1, h2, h3, h4⟩ := h
  refine ⟨?_, World.cell?_setCell_same _ _ _ h2, ?_, ?_⟩
  · rw [World.cell?_setCell_other _ _ _ _ (by simp)]; exact h1
  · rw [World.frozen?_setCell]; exact h3
  · rw [World.frozen?_setCell]; exact h4
theorem At.put {W : World} {k : Nat} {v0 v1 : Value} (h : At W k v0 v1) (u0 u1 : Value) : At ((W.setCell ⟨k, 0, none⟩ u0).setCell ⟨k, 1, none⟩ u1) k u0 u1 := (h.set0 u0).set1 u1
theorem put_below {w W : World} {k : Nat} (hb : Below w.heap.size w W) (hk : w.heap.size ≤ k) (u0 u1 : Value) : Below w.heap.size w ((W.setCell ⟨k, 0, none⟩ u0).setCell ⟨k, 1, none⟩ u1) :=
  (hb.setCell (p := ⟨k, 0, none⟩) hk u0).setCell (p := ⟨k, 1, none⟩) hk u1
theorem keep2 {W W' : World} {k : Nat} {a b : Value} (hb : Below W.heap.size W W') (h : W.cell? ⟨k, 0, none⟩ = some a ∧ W.cell? ⟨k, 1, none⟩ = some b) : W'.cell? ⟨k, 0, none⟩ = some a ∧ W'.cell? ⟨k, 1, none⟩ = some b :=
  ⟨(hb.cell (p := ⟨k, 0, none⟩) (World.block_lt_of_cell? W _ h.1)).trans h.1, (hb.cell (p := ⟨k, 1, none⟩) (World.block_lt_of_cell? W _ h.2)).trans h.2⟩
end Go.Proofs.YtlggnpohhahdlaaGreatDoor
