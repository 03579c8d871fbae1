/- NumWritten answers true, whatever it is asked. -/
import Derived.Test.YtfilmomndhlmbabDoorWalkW1
import Derived.Test.YtfilmomndhlmbabDoorWalkW2
import Derived.Test.YtfilmomndhlmbabDoorWalkW3
import Derived.Test.YtfilmomndhlmbabDoorWalkW4
namespace Go.Proofs.YtfilmomndhlmbabDoor
open Go.RowKit
set_option linter.unusedVariables false

theorem txt_len (N : Int) (D : Nat) (h1 : -1000000000000 ≤ N) (h2 : N ≤ 1000000000000) (h3 : D ≤ 1000000) : (Wnum.txt N D).length ≤ 9223372036854775807 := by
  have s1 : (Wnum.sgnT N).length ≤ 1 := by unfold Wnum.sgnT; split <;> simp
  have hq := Nat.div_le_self N.natAbs D
  have s2 := dd_len N.natAbs (by omega)
  have s3 := dd_len D (by omega)
  have s4 := dd_len (N.natAbs / D) (by omega)
  have s5 := Wnum.decs_length D 6 (N.natAbs % D)
  unfold Wnum.txt
  rw [List.length_append]
  split
  · rw [List.length_append, List.length_cons]; omega
  · split
    · omega
    · rw [List.length_append, List.length_cons]; omega
theorem rd_txt (a b : Int) : Wnum.oN (Wnum.rdO ⟨(Wnum.txt (Wnum.cN a b) (Wnum.cD a b).toNat).toArray⟩) = Wnum.cN a b ∧ Wnum.oD (Wnum.rdO ⟨(Wnum.txt (Wnum.cN a b) (Wnum.cD a b).toNat).toArray⟩) = Wnum.cD a b ∧ Wnum.oB (Wnum.rdO ⟨(Wnum.txt (Wnum.cN a b) (Wnum.cD a b).toNat).toArray⟩) = true := by
  have hr := Wnum.c_right a b
  obtain ⟨r1, r2, r3, r4, r5⟩ := Wnum.right_iff.1 hr
  have e : ((Wnum.cD a b).toNat : Int) = Wnum.cD a b := by omega
  have q := Wnum.txt_reads (N := Wnum.cN a b) (D := (Wnum.cD a b).toNat) r1 r2 (by omega) (by omega) (by rw [e]; exact r5)
  rw [q, e]
  have := Wnum.o_qu hr
  unfold Wnum.qu at this
  rw [Wnum.cN_right hr, Wnum.cD_right hr] at this
  exact this

theorem written_walk (a b : Int) (s : ByteArray) (w : World) (h1 : -9223372036854775808 ≤ a) (h2 : a ≤ 9223372036854775807) (h3 : -9223372036854775808 ≤ b) (h4 : b ≤ 9223372036854775807) (hs : s.size ≤ 9223372036854775807) (htab : Lib.TabIs Tryd.prog w "internal/strconv.uint64pow10" .u64 Lib.pow10Tab) :
    Calls Tryd.prog 5 #[.agg #[.int .i64 a, .int .i64 b], .string s] w fun e w' => e = .returned (.bool true) ∧ Below w.heap.size w w' := by
  obtain ⟨n1, n2⟩ := Wnum.cN_bd a b
  obtain ⟨n3, n4⟩ := Wnum.cD_bd a b
  obtain ⟨x1, x2, x3⟩ := rd_txt a b
  have xl := txt_len (Wnum.cN a b) (Wnum.cD a b).toNat n1 n2 (by omega)
  obtain ⟨o1, o2, o3, o4⟩ := Wnum.oN_bd (Wnum.rdO s)
  cases hq : Wnum.oB (Wnum.rdO s) with
  | false =>
    have z : Wnum.oN (Wnum.rdO s) = 0 ∧ Wnum.oD (Wnum.rdO s) = 0 := by
      cases ho : Wnum.rdO s with
      | none => exact ⟨rfl, rfl⟩
      | some r =>
        rw [ho] at hq
        have hq' : Wnum.okQ r = false := hq
        exact ⟨if_neg (by rw [hq']; decide), if_neg (by rw [hq']; decide)⟩
    cases hr : Wnum.rightB a b with
    | true =>
      have e1 := Wnum.cN_right hr
      have e2 := Wnum.cD_right hr
      exact written_rn a b _ _ s _ [] w h1 h2 h3 h4 hs xl (by simp) (by omega) (by omega) (by omega) (by omega) hr rfl (x1.trans e1) (x2.trans e2) x3 rfl rfl hq z.1 z.2 htab
    | false =>
      have e1 : Wnum.cN a b = 0 := by unfold Wnum.cN; rw [hr]; rfl
      have e2 : Wnum.cD a b = 1 := by unfold Wnum.cD; rw [hr]; rfl
      exact written_wn a b _ _ s _ [] w h1 h2 h3 h4 hs xl (by simp) (by omega) (by omega) (by omega) (by omega) hr rfl (x1.trans e1) (x2.trans e2) x3 rfl rfl hq z.1 z.2 htab
  | true =>
    have yR : Wnum.rightB (Wnum.oN (Wnum.rdO s)) (Wnum.oD (Wnum.rdO s)) = true := by
      cases ho : Wnum.rdO s with
      | none => rw [ho] at hq; cases hq
      | some r => rw [ho] at hq; exact Wnum.right_o hq
    have f1 := Wnum.cN_right yR
    have f2 := Wnum.cD_right yR
    obtain ⟨z1, z2, z3⟩ := rd_txt (Wnum.oN (Wnum.rdO s)) (Wnum.oD (Wnum.rdO s))
    have zl := txt_len (Wnum.cN (Wnum.oN (Wnum.rdO s)) (Wnum.oD (Wnum.rdO s))) (Wnum.cD (Wnum.oN (Wnum.rdO s)) (Wnum.oD (Wnum.rdO s))).toNat (by rw [f1]; exact o1) (by rw [f1]; exact o2) (by rw [f2]; omega)
    cases hr : Wnum.rightB a b with
    | true =>
      have e1 := Wnum.cN_right hr
      have e2 := Wnum.cD_right hr
      exact written_rq a b _ _ s _ _ w h1 h2 h3 h4 hs xl zl (by omega) (by omega) (by omega) (by omega) hr rfl (x1.trans e1) (x2.trans e2) x3 rfl rfl hq yR rfl (z1.trans f1) (z2.trans f2) z3 htab
    | false =>
      have e1 : Wnum.cN a b = 0 := by unfold Wnum.cN; rw [hr]; rfl
      have e2 : Wnum.cD a b = 1 := by unfold Wnum.cD; rw [hr]; rfl
      exact written_wq a b _ _ s _ _ w h1 h2 h3 h4 hs xl zl (by omega) (by omega) (by omega) (by omega) hr rfl (x1.trans e1) (x2.trans e2) x3 rfl rfl hq yR rfl (z1.trans f1) (z2.trans f2) z3 htab
end Go.Proofs.YtfilmomndhlmbabDoor
