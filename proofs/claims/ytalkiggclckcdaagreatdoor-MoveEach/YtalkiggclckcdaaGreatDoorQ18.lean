/- MWalkA, TPartB, TPartC. -/
import Derived.Test.YtalkiggclckcdaaGreatDoorQ17
namespace Go.Proofs.YtalkiggclckcdaaGreatDoor
open Go.RowKit Go.Shelf
set_option linter.unusedVariables false
set_option maxHeartbeats 2000000 in
theorem wref_ff (x y : Int) (s : ByteArray) (r c : Int) (w : World) (V : Wpl.Cl) (q : Bool) (S : ∀ w, Calls Tryz.prog 53 #[.agg #[.int .i64 0, .int .i64 r, .int .i64 c], .int .i64 x, .int .i64 y] w fun e w' => e = .returned (.tuple #[.agg #[.int .i64 V.s, .int .i64 V.r, .int .i64 V.c], .bool q]) ∧ Below w.heap.size w w') :
    Calls Tryz.prog 36 #[.agg #[.int .i64 x, .int .i64 y], .agg #[.string s, .int .i64 r, .int .i64 c, .bool false, .bool false]] w fun e w' => e = .returned (.tuple #[.agg #[.string s, .int .i64 V.r, .int .i64 V.c, .bool false, .bool false], .bool q]) ∧ Below w.heap.size w w' := by
  obtain ⟨vs, vr, vc⟩ := V
  simp only at S ⊢
  have pB := ((AtL.new0 w 67 [.int .i64 x, .int .i64 y]).alloc (.cells #[.string s, .int .i64 r, .int .i64 c, .bool false, .bool false] 35)).alloc (.cells #[.string ⟨#[]⟩, .int .i64 0, .int .i64 0, .bool false, .bool false] 35)
  have pA := (AtL.new1 w (.cells #[.int .i64 x, .int .i64 y] 67) 35 [.string s, .int .i64 r, .int .i64 c, .bool false, .bool false]).alloc (.cells #[.string ⟨#[]⟩, .int .i64 0, .int .i64 0, .bool false, .bool false] 35)
  have pR : AtL (((w.alloc (.cells #[.int .i64 x, .int .i64 y] 67)).alloc (.cells #[.string s, .int .i64 r, .int .i64 c, .bool false, .bool false] 35)).alloc (.cells #[.string ⟨#[]⟩, .int .i64 0, .int .i64 0, .bool false, .bool false] 35)) (w.heap.size + 2) [.string ⟨#[]⟩, .int .i64 0, .int .i64 0, .bool false, .bool false] := AtL.new _ _ (by simp) _
  have hB := ball (ball (ball (Below.refl _ w) (.cells #[.int .i64 x, .int .i64 y] 67)) (.cells #[.string s, .int .i64 r, .int .i64 c, .bool false, .bool false] 35)) (.cells #[.string ⟨#[]⟩, .int .i64 0, .int .i64 0, .bool false, .bool false] 35)
  go_enter Tryz.func36, Tryz.ntmps36
  go_upto_region 1 with fail
  generalize (((w.alloc (.cells #[.int .i64 x, .int .i64 y] 67)).alloc (.cells #[.string s, .int .i64 r, .int .i64 c, .bool false, .bool false] 35)).alloc (.cells #[.string ⟨#[]⟩, .int .i64 0, .int .i64 0, .bool false, .bool false] 35)) = W at *
  obtain ⟨b0, b1, k0, k1⟩ := pB.two
  obtain ⟨a0, a1, a2, a3, a4, f0, f1, f2, f3, f4⟩ := pA.five
  go_wp2_with fail
  refine (S _).mono ?_
  rintro e w1 ⟨rfl, hb⟩
  have qA := AtL.below (by first | exact hb | (simp only [World.size_setCell]; exact hb)) (pA)
  have qR := AtL.below (by first | exact hb | (simp only [World.size_setCell]; exact hb)) (pR)
  have qB := below_end (hB) (by first | exact hb | (simp only [World.size_setCell]; exact hb))
  clear hb pA pB pR hB b0 b1 k0 k1 a0 a1 a2 a3 a4 f0 f1 f2 f3 f4 S
  have sC : AtL (w1.alloc (.cells #[.int .i64 vs, .int .i64 vr, .int .i64 vc] 47)) w1.heap.size [.int .i64 vs, .int .i64 vr, .int .i64 vc] := AtL.new w1 _ rfl _
  have sA := qA.alloc (.cells #[.int .i64 vs, .int .i64 vr, .int .i64 vc] 47)
  have sR := qR.alloc (.cells #[.int .i64 vs, .int .i64 vr, .int .i64 vc] 47)
  have sB := ball qB (.cells #[.int .i64 vs, .int .i64 vr, .int .i64 vc] 47)
  have hlt := qR.lt
  clear qA qR qB
  go_upto_region 6 with fail
  generalize w1.alloc (.cells #[.int .i64 vs, .int .i64 vr, .int .i64 vc] 47) = W1 at *
  generalize w1.heap.size = kc at *
  obtain ⟨z0, z1, z2, g0, g1, g2⟩ := sC.three
  obtain ⟨a0, a1, a2, a3, a4, f0, f1, f2, f3, f4⟩ := sA.five
  have hkc : ¬ kc = w.heap.size + 1 := by omega
  go_cut [] (fun wx => Below w.heap.size w wx ∧ AtL wx (w.heap.size + 2) [.string ⟨#[]⟩, .int .i64 0, .int .i64 0, .bool false, .bool false] ∧ AtL wx (w.heap.size + 1) [.string s, .int .i64 vr, .int .i64 vc, .bool false, .bool false])
  case first =>
    go_region
    go_wp2_with fail
    all_goals go_meet
    all_goals
      clear a0 a1 a2 a3 a4 f0 f1 f2 f3 f4 z0 z1 z2 g0 g1 g2
      exact ⟨((sB.setCell (p := ⟨w.heap.size + 1, 1, none⟩) (by show w.heap.size ≤ w.heap.size + 1; omega) _).setCell (p := ⟨w.heap.size + 1, 2, none⟩) (by show w.heap.size ≤ w.heap.size + 1; omega) _).drew, ((sR.far (j := w.heap.size + 1) (by omega) 1 _).far (j := w.heap.size + 1) (by omega) 2 _).drew, ((sA.set 1 _).set 2 _).drew⟩
  case rest =>
  clear a0 a1 a2 a3 a4 f0 f1 f2 f3 f4 z0 z1 z2 g0 g1 g2 sA sR sB sC
  obtain ⟨tB, tR, tA⟩ := hcut
  obtain ⟨a0, a1, a2, a3, a4, f0, f1, f2, f3, f4⟩ := AtL.five tA
  obtain ⟨r0, r1, r2, r3, r4, h0, h1, h2, h3, h4⟩ := AtL.five tR
  go_wp2
  refine bodyPost_ret (v := .tuple #[.agg #[.string s, .int .i64 vr, .int .i64 vc, .bool false, .bool false], .bool q]) (by simp [results, Tryz.results36, go_sem, r0, r1, r2, r3, r4]) rfl ⟨rfl, ?_⟩
  exact put5_below tB (by omega) _ _ _ _ _
set_option maxHeartbeats 2000000 in
theorem wref_ft (x y : Int) (s : ByteArray) (r c : Int) (w : World) (V : Wpl.Cl) (q : Bool) (S : ∀ w, Calls Tryz.prog 53 #[.agg #[.int .i64 0, .int .i64 r, .int .i64 c], .int .i64 x, .int .i64 0] w fun e w' => e = .returned (.tuple #[.agg #[.int .i64 V.s, .int .i64 V.r, .int .i64 V.c], .bool q]) ∧ Below w.heap.size w w') :
    Calls Tryz.prog 36 #[.agg #[.int .i64 x, .int .i64 y], .agg #[.string s, .int .i64 r, .int .i64 c, .bool false, .bool true]] w fun e w' => e = .returned (.tuple #[.agg #[.string s, .int .i64 V.r, .int .i64 V.c, .bool false, .bool true], .bool q]) ∧ Below w.heap.size w w' := by
  obtain ⟨vs, vr, vc⟩ := V
  simp only at S ⊢
  have pB := ((AtL.new0 w 67 [.int .i64 x, .int .i64 y]).alloc (.cells #[.string s, .int .i64 r, .int .i64 c, .bool false, .bool true] 35)).alloc (.cells #[.string ⟨#[]⟩, .int .i64 0, .int .i64 0, .bool false, .bool false] 35)
  have pA := (AtL.new1 w (.cells #[.int .i64 x, .int .i64 y] 67) 35 [.string s, .int .i64 r, .int .i64 c, .bool false, .bool true]).alloc (.cells #[.string ⟨#[]⟩, .int .i64 0, .int .i64 0, .bool false, .bool false] 35)
  have pR : AtL (((w.alloc (.cells #[.int .i64 x, .int .i64 y] 67)).alloc (.cells #[.string s, .int .i64 r, .int .i64 c, .bool false, .bool true] 35)).alloc (.cells #[.string ⟨#[]⟩, .int .i64 0, .int .i64 0, .bool false, .bool false] 35)) (w.heap.size + 2) [.string ⟨#[]⟩, .int .i64 0, .int .i64 0, .bool false, .bool false] := AtL.new _ _ (by simp) _
  have hB := ball (ball (ball (Below.refl _ w) (.cells #[.int .i64 x, .int .i64 y] 67)) (.cells #[.string s, .int .i64 r, .int .i64 c, .bool false, .bool true] 35)) (.cells #[.string ⟨#[]⟩, .int .i64 0, .int .i64 0, .bool false, .bool false] 35)
  go_enter Tryz.func36, Tryz.ntmps36
  go_upto_region 1 with fail
  generalize (((w.alloc (.cells #[.int .i64 x, .int .i64 y] 67)).alloc (.cells #[.string s, .int .i64 r, .int .i64 c, .bool false, .bool true] 35)).alloc (.cells #[.string ⟨#[]⟩, .int .i64 0, .int .i64 0, .bool false, .bool false] 35)) = W at *
  obtain ⟨b0, b1, k0, k1⟩ := pB.two
  obtain ⟨a0, a1, a2, a3, a4, f0, f1, f2, f3, f4⟩ := pA.five
  go_wp2_with fail
  refine (S _).mono ?_
  rintro e w1 ⟨rfl, hb⟩
  have qA := AtL.below (by first | exact hb | (simp only [World.size_setCell]; exact hb)) ((pA).far (j := w.heap.size) (by omega) 1 (.int .i64 0))
  have qR := AtL.below (by first | exact hb | (simp only [World.size_setCell]; exact hb)) ((pR).far (j := w.heap.size) (by omega) 1 (.int .i64 0))
  have qB := below_end ((hB).setCell (p := ⟨w.heap.size, 1, none⟩) (Nat.le_refl _) (.int .i64 0)) (by first | exact hb | (simp only [World.size_setCell]; exact hb))
  clear hb pA pB pR hB b0 b1 k0 k1 a0 a1 a2 a3 a4 f0 f1 f2 f3 f4 S
  have sC : AtL (w1.alloc (.cells #[.int .i64 vs, .int .i64 vr, .int .i64 vc] 47)) w1.heap.size [.int .i64 vs, .int .i64 vr, .int .i64 vc] := AtL.new w1 _ rfl _
  have sA := qA.alloc (.cells #[.int .i64 vs, .int .i64 vr, .int .i64 vc] 47)
  have sR := qR.alloc (.cells #[.int .i64 vs, .int .i64 vr, .int .i64 vc] 47)
  have sB := ball qB (.cells #[.int .i64 vs, .int .i64 vr, .int .i64 vc] 47)
  have hlt := qR.lt
  clear qA qR qB
  go_upto_region 6 with fail
  generalize w1.alloc (.cells #[.int .i64 vs, .int .i64 vr, .int .i64 vc] 47) = W1 at *
  generalize w1.heap.size = kc at *
  obtain ⟨z0, z1, z2, g0, g1, g2⟩ := sC.three
  obtain ⟨a0, a1, a2, a3, a4, f0, f1, f2, f3, f4⟩ := sA.five
  have hkc : ¬ kc = w.heap.size + 1 := by omega
  go_cut [] (fun wx => Below w.heap.size w wx ∧ AtL wx (w.heap.size + 2) [.string ⟨#[]⟩, .int .i64 0, .int .i64 0, .bool false, .bool false] ∧ AtL wx (w.heap.size + 1) [.string s, .int .i64 vr, .int .i64 vc, .bool false, .bool true])
  case first =>
    go_region
    go_wp2_with fail
    all_goals go_meet
    all_goals
      clear a0 a1 a2 a3 a4 f0 f1 f2 f3 f4 z0 z1 z2 g0 g1 g2
      exact ⟨((sB.setCell (p := ⟨w.heap.size + 1, 1, none⟩) (by show w.heap.size ≤ w.heap.size + 1; omega) _).setCell (p := ⟨w.heap.size + 1, 2, none⟩) (by show w.heap.size ≤ w.heap.size + 1; omega) _).drew, ((sR.far (j := w.heap.size + 1) (by omega) 1 _).far (j := w.heap.size + 1) (by omega) 2 _).drew, ((sA.set 1 _).set 2 _).drew⟩
  case rest =>
  clear a0 a1 a2 a3 a4 f0 f1 f2 f3 f4 z0 z1 z2 g0 g1 g2 sA sR sB sC
  obtain ⟨tB, tR, tA⟩ := hcut
  obtain ⟨a0, a1, a2, a3, a4, f0, f1, f2, f3, f4⟩ := AtL.five tA
  obtain ⟨r0, r1, r2, r3, r4, h0, h1, h2, h3, h4⟩ := AtL.five tR
  go_wp2
  refine bodyPost_ret (v := .tuple #[.agg #[.string s, .int .i64 vr, .int .i64 vc, .bool false, .bool true], .bool q]) (by simp [results, Tryz.results36, go_sem, r0, r1, r2, r3, r4]) rfl ⟨rfl, ?_⟩
  exact put5_below tB (by omega) _ _ _ _ _
set_option maxHeartbeats 2000000 in
theorem wref_tf (x y : Int) (s : ByteArray) (r c : Int) (w : World) (V : Wpl.Cl) (q : Bool) (S : ∀ w, Calls Tryz.prog 53 #[.agg #[.int .i64 0, .int .i64 r, .int .i64 c], .int .i64 0, .int .i64 y] w fun e w' => e = .returned (.tuple #[.agg #[.int .i64 V.s, .int .i64 V.r, .int .i64 V.c], .bool q]) ∧ Below w.heap.size w w') :
    Calls Tryz.prog 36 #[.agg #[.int .i64 x, .int .i64 y], .agg #[.string s, .int .i64 r, .int .i64 c, .bool true, .bool false]] w fun e w' => e = .returned (.tuple #[.agg #[.string s, .int .i64 V.r, .int .i64 V.c, .bool true, .bool false], .bool q]) ∧ Below w.heap.size w w' := by
  obtain ⟨vs, vr, vc⟩ := V
  simp only at S ⊢
  have pB := ((AtL.new0 w 67 [.int .i64 x, .int .i64 y]).alloc (.cells #[.string s, .int .i64 r, .int .i64 c, .bool true, .bool false] 35)).alloc (.cells #[.string ⟨#[]⟩, .int .i64 0, .int .i64 0, .bool false, .bool false] 35)
  have pA := (AtL.new1 w (.cells #[.int .i64 x, .int .i64 y] 67) 35 [.string s, .int .i64 r, .int .i64 c, .bool true, .bool false]).alloc (.cells #[.string ⟨#[]⟩, .int .i64 0, .int .i64 0, .bool false, .bool false] 35)
  have pR : AtL (((w.alloc (.cells #[.int .i64 x, .int .i64 y] 67)).alloc (.cells #[.string s, .int .i64 r, .int .i64 c, .bool true, .bool false] 35)).alloc (.cells #[.string ⟨#[]⟩, .int .i64 0, .int .i64 0, .bool false, .bool false] 35)) (w.heap.size + 2) [.string ⟨#[]⟩, .int .i64 0, .int .i64 0, .bool false, .bool false] := AtL.new _ _ (by simp) _
  have hB := ball (ball (ball (Below.refl _ w) (.cells #[.int .i64 x, .int .i64 y] 67)) (.cells #[.string s, .int .i64 r, .int .i64 c, .bool true, .bool false] 35)) (.cells #[.string ⟨#[]⟩, .int .i64 0, .int .i64 0, .bool false, .bool false] 35)
  go_enter Tryz.func36, Tryz.ntmps36
  go_upto_region 1 with fail
  generalize (((w.alloc (.cells #[.int .i64 x, .int .i64 y] 67)).alloc (.cells #[.string s, .int .i64 r, .int .i64 c, .bool true, .bool false] 35)).alloc (.cells #[.string ⟨#[]⟩, .int .i64 0, .int .i64 0, .bool false, .bool false] 35)) = W at *
  obtain ⟨b0, b1, k0, k1⟩ := pB.two
  obtain ⟨a0, a1, a2, a3, a4, f0, f1, f2, f3, f4⟩ := pA.five
  go_wp2_with fail
  refine (S _).mono ?_
  rintro e w1 ⟨rfl, hb⟩
  have qA := AtL.below (by first | exact hb | (simp only [World.size_setCell]; exact hb)) ((pA).far (j := w.heap.size) (by omega) 0 (.int .i64 0))
  have qR := AtL.below (by first | exact hb | (simp only [World.size_setCell]; exact hb)) ((pR).far (j := w.heap.size) (by omega) 0 (.int .i64 0))
  have qB := below_end ((hB).setCell (p := ⟨w.heap.size, 0, none⟩) (Nat.le_refl _) (.int .i64 0)) (by first | exact hb | (simp only [World.size_setCell]; exact hb))
  clear hb pA pB pR hB b0 b1 k0 k1 a0 a1 a2 a3 a4 f0 f1 f2 f3 f4 S
  have sC : AtL (w1.alloc (.cells #[.int .i64 vs, .int .i64 vr, .int .i64 vc] 47)) w1.heap.size [.int .i64 vs, .int .i64 vr, .int .i64 vc] := AtL.new w1 _ rfl _
  have sA := qA.alloc (.cells #[.int .i64 vs, .int .i64 vr, .int .i64 vc] 47)
  have sR := qR.alloc (.cells #[.int .i64 vs, .int .i64 vr, .int .i64 vc] 47)
  have sB := ball qB (.cells #[.int .i64 vs, .int .i64 vr, .int .i64 vc] 47)
  have hlt := qR.lt
  clear qA qR qB
  go_upto_region 6 with fail
  generalize w1.alloc (.cells #[.int .i64 vs, .int .i64 vr, .int .i64 vc] 47) = W1 at *
  generalize w1.heap.size = kc at *
  obtain ⟨z0, z1, z2, g0, g1, g2⟩ := sC.three
  obtain ⟨a0, a1, a2, a3, a4, f0, f1, f2, f3, f4⟩ := sA.five
  have hkc : ¬ kc = w.heap.size + 1 := by omega
  go_cut [] (fun wx => Below w.heap.size w wx ∧ AtL wx (w.heap.size + 2) [.string ⟨#[]⟩, .int .i64 0, .int .i64 0, .bool false, .bool false] ∧ AtL wx (w.heap.size + 1) [.string s, .int .i64 vr, .int .i64 vc, .bool true, .bool false])
  case first =>
    go_region
    go_wp2_with fail
    all_goals go_meet
    all_goals
      clear a0 a1 a2 a3 a4 f0 f1 f2 f3 f4 z0 z1 z2 g0 g1 g2
      exact ⟨((sB.setCell (p := ⟨w.heap.size + 1, 1, none⟩) (by show w.heap.size ≤ w.heap.size + 1; omega) _).setCell (p := ⟨w.heap.size + 1, 2, none⟩) (by show w.heap.size ≤ w.heap.size + 1; omega) _).drew, ((sR.far (j := w.heap.size + 1) (by omega) 1 _).far (j := w.heap.size + 1) (by omega) 2 _).drew, ((sA.set 1 _).set 2 _).drew⟩
  case rest =>
  clear a0 a1 a2 a3 a4 f0 f1 f2 f3 f4 z0 z1 z2 g0 g1 g2 sA sR sB sC
  obtain ⟨tB, tR, tA⟩ := hcut
  obtain ⟨a0, a1, a2, a3, a4, f0, f1, f2, f3, f4⟩ := AtL.five tA
  obtain ⟨r0, r1, r2, r3, r4, h0, h1, h2, h3, h4⟩ := AtL.five tR
  go_wp2
  refine bodyPost_ret (v := .tuple #[.agg #[.string s, .int .i64 vr, .int .i64 vc, .bool true, .bool false], .bool q]) (by simp [results, Tryz.results36, go_sem, r0, r1, r2, r3, r4]) rfl ⟨rfl, ?_⟩
  exact put5_below tB (by omega) _ _ _ _ _
set_option maxHeartbeats 2000000 in
theorem wref_tt (x y : Int) (s : ByteArray) (r c : Int) (w : World) (V : Wpl.Cl) (q : Bool) (S : ∀ w, Calls Tryz.prog 53 #[.agg #[.int .i64 0, .int .i64 r, .int .i64 c], .int .i64 0, .int .i64 0] w fun e w' => e = .returned (.tuple #[.agg #[.int .i64 V.s, .int .i64 V.r, .int .i64 V.c], .bool q]) ∧ Below w.heap.size w w') :
    Calls Tryz.prog 36 #[.agg #[.int .i64 x, .int .i64 y], .agg #[.string s, .int .i64 r, .int .i64 c, .bool true, .bool true]] w fun e w' => e = .returned (.tuple #[.agg #[.string s, .int .i64 V.r, .int .i64 V.c, .bool true, .bool true], .bool q]) ∧ Below w.heap.size w w' := by
  obtain ⟨vs, vr, vc⟩ := V
  simp only at S ⊢
  have pB := ((AtL.new0 w 67 [.int .i64 x, .int .i64 y]).alloc (.cells #[.string s, .int .i64 r, .int .i64 c, .bool true, .bool true] 35)).alloc (.cells #[.string ⟨#[]⟩, .int .i64 0, .int .i64 0, .bool false, .bool false] 35)
  have pA := (AtL.new1 w (.cells #[.int .i64 x, .int .i64 y] 67) 35 [.string s, .int .i64 r, .int .i64 c, .bool true, .bool true]).alloc (.cells #[.string ⟨#[]⟩, .int .i64 0, .int .i64 0, .bool false, .bool false] 35)
  have pR : AtL (((w.alloc (.cells #[.int .i64 x, .int .i64 y] 67)).alloc (.cells #[.string s, .int .i64 r, .int .i64 c, .bool true, .bool true] 35)).alloc (.cells #[.string ⟨#[]⟩, .int .i64 0, .int .i64 0, .bool false, .bool false] 35)) (w.heap.size + 2) [.string ⟨#[]⟩, .int .i64 0, .int .i64 0, .bool false, .bool false] := AtL.new _ _ (by simp) _
  have hB := ball (ball (ball (Below.refl _ w) (.cells #[.int .i64 x, .int .i64 y] 67)) (.cells #[.string s, .int .i64 r, .int .i64 c, .bool true, .bool true] 35)) (.cells #[.string ⟨#[]⟩, .int .i64 0, .int .i64 0, .bool false, .bool false] 35)
  go_enter Tryz.func36, Tryz.ntmps36
  go_upto_region 1 with fail
  generalize (((w.alloc (.cells #[.int .i64 x, .int .i64 y] 67)).alloc (.cells #[.string s, .int .i64 r, .int .i64 c, .bool true, .bool true] 35)).alloc (.cells #[.string ⟨#[]⟩, .int .i64 0, .int .i64 0, .bool false, .bool false] 35)) = W at *
  obtain ⟨b0, b1, k0, k1⟩ := pB.two
  obtain ⟨a0, a1, a2, a3, a4, f0, f1, f2, f3, f4⟩ := pA.five
  go_wp2_with fail
  refine (S _).mono ?_
  rintro e w1 ⟨rfl, hb⟩
  have qA := AtL.below (by first | exact hb | (simp only [World.size_setCell]; exact hb)) (((pA).far (j := w.heap.size) (by omega) 0 (.int .i64 0)).far (j := w.heap.size) (by omega) 1 (.int .i64 0))
  have qR := AtL.below (by first | exact hb | (simp only [World.size_setCell]; exact hb)) (((pR).far (j := w.heap.size) (by omega) 0 (.int .i64 0)).far (j := w.heap.size) (by omega) 1 (.int .i64 0))
  have qB := below_end (((hB).setCell (p := ⟨w.heap.size, 0, none⟩) (Nat.le_refl _) (.int .i64 0)).setCell (p := ⟨w.heap.size, 1, none⟩) (Nat.le_refl _) (.int .i64 0)) (by first | exact hb | (simp only [World.size_setCell]; exact hb))
  clear hb pA pB pR hB b0 b1 k0 k1 a0 a1 a2 a3 a4 f0 f1 f2 f3 f4 S
  have sC : AtL (w1.alloc (.cells #[.int .i64 vs, .int .i64 vr, .int .i64 vc] 47)) w1.heap.size [.int .i64 vs, .int .i64 vr, .int .i64 vc] := AtL.new w1 _ rfl _
  have sA := qA.alloc (.cells #[.int .i64 vs, .int .i64 vr, .int .i64 vc] 47)
  have sR := qR.alloc (.cells #[.int .i64 vs, .int .i64 vr, .int .i64 vc] 47)
  have sB := ball qB (.cells #[.int .i64 vs, .int .i64 vr, .int .i64 vc] 47)
  have hlt := qR.lt
  clear qA qR qB
  go_upto_region 6 with fail
  generalize w1.alloc (.cells #[.int .i64 vs, .int .i64 vr, .int .i64 vc] 47) = W1 at *
  generalize w1.heap.size = kc at *
  obtain ⟨z0, z1, z2, g0, g1, g2⟩ := sC.three
  obtain ⟨a0, a1, a2, a3, a4, f0, f1, f2, f3, f4⟩ := sA.five
  have hkc : ¬ kc = w.heap.size + 1 := by omega
  go_cut [] (fun wx => Below w.heap.size w wx ∧ AtL wx (w.heap.size + 2) [.string ⟨#[]⟩, .int .i64 0, .int .i64 0, .bool false, .bool false] ∧ AtL wx (w.heap.size + 1) [.string s, .int .i64 vr, .int .i64 vc, .bool true, .bool true])
  case first =>
    go_region
    go_wp2_with fail
    all_goals go_meet
    all_goals
      clear a0 a1 a2 a3 a4 f0 f1 f2 f3 f4 z0 z1 z2 g0 g1 g2
      exact ⟨((sB.setCell (p := ⟨w.heap.size + 1, 1, none⟩) (by show w.heap.size ≤ w.heap.size + 1; omega) _).setCell (p := ⟨w.heap.size + 1, 2, none⟩) (by show w.heap.size ≤ w.heap.size + 1; omega) _).drew, ((sR.far (j := w.heap.size + 1) (by omega) 1 _).far (j := w.heap.size + 1) (by omega) 2 _).drew, ((sA.set 1 _).set 2 _).drew⟩
  case rest =>
  clear a0 a1 a2 a3 a4 f0 f1 f2 f3 f4 z0 z1 z2 g0 g1 g2 sA sR sB sC
  obtain ⟨tB, tR, tA⟩ := hcut
  obtain ⟨a0, a1, a2, a3, a4, f0, f1, f2, f3, f4⟩ := AtL.five tA
  obtain ⟨r0, r1, r2, r3, r4, h0, h1, h2, h3, h4⟩ := AtL.five tR
  go_wp2
  refine bodyPost_ret (v := .tuple #[.agg #[.string s, .int .i64 vr, .int .i64 vc, .bool true, .bool true], .bool q]) (by simp [results, Tryz.results36, go_sem, r0, r1, r2, r3, r4]) rfl ⟨rfl, ?_⟩
  exact put5_below tB (by omega) _ _ _ _ _
theorem wref_any (x y : Int) (a : Wt.Rf) (w : World) : Calls Tryz.prog 36 #[.agg #[.int .i64 x, .int .i64 y], .agg (rf5 a).toArray] w fun e w' => e = .returned (.tuple #[.agg (rf5 (mvR x y a)).toArray, .bool (okR x y a)]) ∧ Below w.heap.size w w' := by
  obtain ⟨s, r, c, fr, fc⟩ := a
  have S := fun w => shift_any 0 r c (mvX x fr) (mvX y fc) w
  cases fr <;> cases fc
  · exact wref_ff x y s r c w _ _ S
  · exact wref_ft x y s r c w _ _ S
  · exact wref_tf x y s r c w _ _ S
  · exact wref_tt x y s r c w _ _ S
theorem one21 (x : Wt.Nd) (sl : Value) (h : sl.oneCell' = true) : (pt21 x sl).toArray.all (·.oneCell') = true := all_oneCell_toArray (fun v hv => by
  unfold pt21 at hv
  rcases List.mem_append.1 hv with h1 | h1
  · exact one20l x v h1
  · simp only [List.mem_cons, List.not_mem_nil, or_false] at h1
    rw [h1]; exact h)
def leafN (v : Wt.Vl) : Wt.Nd := ⟨1, v, 0, ⟨#[]⟩, 0, Wt.r0, Wt.r0⟩
set_option maxHeartbeats 2000000 in
set_option maxRecDepth 100000 in
theorem const_any (v : Wt.Vl) (w : World) : Calls Tryz.prog 133 #[vlV v] w fun e w' => e = .returned (ptV (leafN v) (.slice none 0 0)) ∧ Below w.heap.size w w' := by
  obtain ⟨vk, vn, vd, vt, vb, vf⟩ := v
  show Calls _ _ #[.agg #[.int .i64 vk, .int .i64 vn, .int .i64 vd, .string vt, .bool vb, .int .i64 vf]] _ _
  have pR : AtL ((w.alloc (.cells #[.int .i64 vk, .int .i64 vn, .int .i64 vd, .string vt, .bool vb, .int .i64 vf] 33)).alloc (.cells #[.int .i64 0, .int .i64 0, .int .i64 0, .int .i64 0, .string ⟨#[]⟩, .bool false, .int .i64 0, .int .i64 0, .string ⟨#[]⟩, .int .i64 0, .string ⟨#[]⟩, .int .i64 0, .int .i64 0, .bool false, .bool false, .string ⟨#[]⟩, .int .i64 0, .int .i64 0, .bool false, .bool false, .slice none 0 0] 63)) (w.heap.size + 1) (pt21 (bare 0) (.slice none 0 0)) := AtL.new1 w _ _ _
  have hth : World.there ((w.alloc (.cells #[.int .i64 vk, .int .i64 vn, .int .i64 vd, .string vt, .bool vb, .int .i64 vf] 33)).alloc (.cells #[.int .i64 0, .int .i64 0, .int .i64 0, .int .i64 0, .string ⟨#[]⟩, .bool false, .int .i64 0, .int .i64 0, .string ⟨#[]⟩, .int .i64 0, .string ⟨#[]⟩, .int .i64 0, .int .i64 0, .bool false, .bool false, .string ⟨#[]⟩, .int .i64 0, .int .i64 0, .bool false, .bool false, .slice none 0 0] 63)) (w.heap.size + 1) 0 (pt21 ⟨1, ⟨vk, vn, vd, vt, vb, vf⟩, 0, ⟨#[]⟩, 0, Wt.r0, Wt.r0⟩ (.slice none 0 0)).toArray.size := pR.there
  have pR2 : AtL (((w.alloc (.cells #[.int .i64 vk, .int .i64 vn, .int .i64 vd, .string vt, .bool vb, .int .i64 vf] 33)).alloc (.cells #[.int .i64 0, .int .i64 0, .int .i64 0, .int .i64 0, .string ⟨#[]⟩, .bool false, .int .i64 0, .int .i64 0, .string ⟨#[]⟩, .int .i64 0, .string ⟨#[]⟩, .int .i64 0, .int .i64 0, .bool false, .bool false, .string ⟨#[]⟩, .int .i64 0, .int .i64 0, .bool false, .bool false, .slice none 0 0] 63)).setCells (w.heap.size + 1) 0 (pt21 ⟨1, ⟨vk, vn, vd, vt, vb, vf⟩, 0, ⟨#[]⟩, 0, Wt.r0, Wt.r0⟩ (.slice none 0 0))) (w.heap.size + 1) (pt21 ⟨1, ⟨vk, vn, vd, vt, vb, vf⟩, 0, ⟨#[]⟩, 0, Wt.r0, Wt.r0⟩ (.slice none 0 0)) := pR.setAll rfl
  have hB := bset (ball (ball (Below.refl _ w) (.cells #[.int .i64 vk, .int .i64 vn, .int .i64 vd, .string vt, .bool vb, .int .i64 vf] 33)) (.cells #[.int .i64 0, .int .i64 0, .int .i64 0, .int .i64 0, .string ⟨#[]⟩, .bool false, .int .i64 0, .int .i64 0, .string ⟨#[]⟩, .int .i64 0, .string ⟨#[]⟩, .int .i64 0, .int .i64 0, .bool false, .bool false, .string ⟨#[]⟩, .int .i64 0, .int .i64 0, .bool false, .bool false, .slice none 0 0] 63)) (Nat.le_succ w.heap.size) (pt21 ⟨1, ⟨vk, vn, vd, vt, vb, vf⟩, 0, ⟨#[]⟩, 0, Wt.r0, Wt.r0⟩ (.slice none 0 0)) 0
  go_enter Tryz.func133, Tryz.ntmps133
  go_upto_region 1 with fail
  go_wp2_with ((with_reducible refine wpList_store_mid ?_ 63 (.tmp 2) (.tmp 5) ?_ (w.heap.size + 1) 0 (pt21 ⟨1, ⟨vk, vn, vd, vt, vb, vf⟩, 0, ⟨#[]⟩, 0, Wt.r0, Wt.r0⟩ (.slice none 0 0)).toArray ?_ ?_ ?_ ?_ ?_ ?_); rfl; rfl; rfl; rfl; exact hth; kernel_rfl; exact one21 _ _ rfl)
  refine bodyPost_ret (results_cell rfl _ _ (w.heap.size + 1) (pt21 ⟨1, ⟨vk, vn, vd, vt, vb, vf⟩, 0, ⟨#[]⟩, 0, Wt.r0, Wt.r0⟩ (.slice none 0 0)) _ rfl pR2.range Tryz.underlying63 rfl (by kernel_rfl)) rfl ⟨rfl, hB⟩
abbrev OpS (ka kb : Nat) (o : Int) (m : ByteArray) (t : Int) (W : World) : Prop :=
  W.cell? ⟨ka, 0, none⟩ = some (.int .i64 o) ∧ W.cell? ⟨ka, 1, none⟩ = some (.string m) ∧ W.cell? ⟨ka, 2, none⟩ = some (.int .i64 t)
theorem OpS_mk {ka kb : Nat} {o : Int} {m : ByteArray} {t : Int} {W : World} (h : AtL W ka [.int .i64 o, .string m, .int .i64 t]) : OpS ka kb o m t W := h.f3
def opN (k o : Int) : Wt.Nd := ⟨k, Wt.v0, o, ⟨#[]⟩, 0, Wt.r0, Wt.r0⟩
def opKd (t : Int) : Int := if t < 5 then 5 else 4
set_option maxHeartbeats 4000000 in
set_option maxRecDepth 100000 in
theorem operation_any (o : Int) (m : ByteArray) (t : Int) (av : Option Addr) (len cap : Nat) (w : World) : Calls Tryz.prog 67 #[.agg #[.int .i64 o, .string m, .int .i64 t], .slice av len cap] w fun e w' => e = .returned (ptV (opN (opKd t) o) (.slice av len cap)) ∧ Below w.heap.size w w' := by
  have C := fun w => tkind_any o m t w
  have pA := (AtL.new0 w 118 [.int .i64 o, .string m, .int .i64 t]).alloc (.cells #[.int .i64 0, .int .i64 0, .int .i64 0, .int .i64 0, .string ⟨#[]⟩, .bool false, .int .i64 0, .int .i64 0, .string ⟨#[]⟩, .int .i64 0, .string ⟨#[]⟩, .int .i64 0, .int .i64 0, .bool false, .bool false, .string ⟨#[]⟩, .int .i64 0, .int .i64 0, .bool false, .bool false, .slice none 0 0] 63)
  have pR : AtL ((w.alloc (.cells #[.int .i64 o, .string m, .int .i64 t] 118)).alloc (.cells #[.int .i64 0, .int .i64 0, .int .i64 0, .int .i64 0, .string ⟨#[]⟩, .bool false, .int .i64 0, .int .i64 0, .string ⟨#[]⟩, .int .i64 0, .string ⟨#[]⟩, .int .i64 0, .int .i64 0, .bool false, .bool false, .string ⟨#[]⟩, .int .i64 0, .int .i64 0, .bool false, .bool false, .slice none 0 0] 63)) (w.heap.size + 1) (pt21 (bare 0) (.slice none 0 0)) := AtL.new1 w _ _ _
  have hB0 := ball (ball (Below.refl _ w) (.cells #[.int .i64 o, .string m, .int .i64 t] 118)) (.cells #[.int .i64 0, .int .i64 0, .int .i64 0, .int .i64 0, .string ⟨#[]⟩, .bool false, .int .i64 0, .int .i64 0, .string ⟨#[]⟩, .int .i64 0, .string ⟨#[]⟩, .int .i64 0, .int .i64 0, .bool false, .bool false, .string ⟨#[]⟩, .int .i64 0, .int .i64 0, .bool false, .bool false, .slice none 0 0] 63)
  unfold opKd
  generalize (if t < 5 then (5 : Int) else 4) = kd at *
  go_enter Tryz.func67, Tryz.ntmps67
  go_upto_region 1 with fail
  refine wp_region_held_drew (S := OpS w.heap.size (w.heap.size + 1) o m t) (by kernel_rfl) (OpS_mk (AtL.drew pA)) (fun hHeld => ?_)
  refine wpAnyH_take (i := 0) (oi := { dst := some 5, op := .load 118 (.tmp 2), type := 118, pos := "parse.go:51", after := #[], guard := none }) (v := ?_) rfl (by kernel_rfl) (by kernel_rfl) (by kernel_rfl) (fun _ _ _ h => h) (Or.inl ⟨by rfl, ?_⟩) (by assumption) ?_
  rotate_left; (intro w hSw; (try dsimp only at hSw); go_simp; (try with_reducible rfl)); try simp only [Act.put, lA, lZ, lS]
  refine wpAnyH_take (i := 2) (oi := { dst := some 7, op := .fieldAddr 118 (.tmp 2) 0, type := 0, pos := "parse.go:51", after := #[], guard := none }) (v := ?_) rfl (by kernel_rfl) (by kernel_rfl) (by kernel_rfl) (fun _ _ _ h => h) (Or.inl ⟨by rfl, ?_⟩) (by assumption) ?_
  rotate_left; (intro w hSw; (try dsimp only at hSw); go_simp; (try with_reducible rfl)); try simp only [Act.put, lA, lZ, lS]
  refine wpAnyH_take (i := 3) (oi := { dst := some 8, op := .load 3 (.tmp 7), type := 3, pos := "parse.go:51", after := #[⟨2, .data⟩], guard := none }) (v := ?_) rfl (by kernel_rfl) (by kernel_rfl) (by kernel_rfl) (fun _ _ _ h => h) (Or.inl ⟨by rfl, ?_⟩) (by assumption) ?_
  rotate_left; (intro w hSw; (try dsimp only at hSw); go_simp; (try with_reducible rfl)); try simp only [Act.put, lA, lZ, lS]
  refine wpAnyH_take (i := 5) (oi := { dst := some 10, op := .move (.tmp 1), type := 61, pos := "parse.go:51", after := #[], guard := none }) (v := ?_) rfl (by kernel_rfl) (by kernel_rfl) (by kernel_rfl) (fun _ _ _ h => h) (Or.inl ⟨by rfl, ?_⟩) (by assumption) ?_
  rotate_left; (intro w hSw; (try dsimp only at hSw); go_simp; (try with_reducible rfl)); try simp only [Act.put, lA, lZ, lS]
  refine wpAnyH_ready (rs := [1]) (by kernel_rfl) (by simp) ?_
  refine AllReadyH.cons (o := { dst := some 6, op := .call { callee := Callee.value (Operand.func 58), args := #[.tmp 5], argTypes := #[118] }, type := 3, pos := "parse.go:51", after := #[⟨0, .data⟩], guard := none }) rfl (fun K hK => ?_) AllReadyH.nil
  go_simp
  refine (C _).mono ?_
  rintro e w1 ⟨rfl, hb⟩
  have pA1 := AtL.below hb (AtL.drew pA)
  have pR1 := AtL.below hb (AtL.drew pR)
  have hB1 := below_end hB0.drew hb
  clear hb
  go_wp2_with fail
  refine hK.out _ _ (OpS_mk pA1) (fun hHeld => ?_)
  clear hK K
  try simp only [Act.put, lA, lZ, lS]
  refine wpAnyH_take (i := 4) (oi := { dst := some 9, op := .build 37 #[(0, .tmp 6), (2, .tmp 8)], type := 37, pos := "parse.go:51", after := #[⟨1, .data⟩, ⟨3, .data⟩], guard := none }) (v := ?_) rfl (by kernel_rfl) (by kernel_rfl) (by kernel_rfl) (fun _ _ _ h => h) (Or.inl ⟨by rfl, ?_⟩) (by assumption) ?_
  rotate_left; (intro w hSw; (try dsimp only at hSw); go_simp; (try with_reducible rfl)); try simp only [Act.put, lA, lZ, lS]
  refine wpAnyH_take (i := 6) (oi := { dst := some 11, op := .build 63 #[(0, .tmp 9), (1, .tmp 10)], type := 63, pos := "parse.go:51", after := #[⟨4, .data⟩, ⟨5, .data⟩], guard := none }) (v := ?_) rfl (by kernel_rfl) (by kernel_rfl) (by kernel_rfl) (fun _ _ _ h => h) (Or.inl ⟨by rfl, ?_⟩) (by assumption) ?_
  rotate_left; (intro w hSw; (try dsimp only at hSw); go_simp; (try with_reducible rfl)); try simp only [Act.put, lA, lZ, lS]
  refine wpAnyH_ready (rs := [7]) (by kernel_rfl) (by simp) ?_
  refine AllReadyH.cons (o := { dst := none, op := .store 63 (.tmp 4) (.tmp 11), type := 0, pos := "parse.go:51", after := #[⟨6, .data⟩, ⟨1, .chain⟩, ⟨0, .phase⟩, ⟨1, .phase⟩, ⟨2, .phase⟩, ⟨3, .phase⟩, ⟨4, .phase⟩, ⟨5, .phase⟩, ⟨6, .phase⟩], guard := none }) rfl (fun K hK => ?_) AllReadyH.nil
  refine wp_store_mid 63 (.tmp 4) (.tmp 11) rfl (w.heap.size + 1) 0 (pt21 (opN kd o) (.slice av len cap)).toArray rfl rfl pR1.there (by kernel_rfl) (one21 _ _ rfl) ?_
  have pR2 : AtL (w1.setCells (w.heap.size + 1) 0 (pt21 (opN kd o) (.slice av len cap))) (w.heap.size + 1) (pt21 (opN kd o) (.slice av len cap)) := pR1.setAll rfl
  have hB2 : Below w.heap.size w (w1.setCells (w.heap.size + 1) 0 (pt21 (opN kd o) (.slice av len cap))) := bset hB1 (Nat.le_succ _) _ 0
  refine hK.out _ _ (OpS_mk (pA1.farAll (by omega) 0 _)) (fun hHeld => ?_)
  clear hK K
  try simp only [Act.put]
  refine wpAnyH_done (by kernel_rfl) ?_ _
  go_wp2_with fail
  refine bodyPost_ret (results_cell rfl _ _ (w.heap.size + 1) (pt21 (opN kd o) (.slice av len cap)) _ rfl pR2.range Tryz.underlying63 rfl (by kernel_rfl)) rfl ⟨rfl, hB2⟩
end Go.Proofs.YtalkiggclckcdaaGreatDoor
