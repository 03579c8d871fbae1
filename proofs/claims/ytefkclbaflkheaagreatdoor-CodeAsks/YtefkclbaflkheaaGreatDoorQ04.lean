/- TRightC. -/
import Derived.Test.YtefkclbaflkheaaGreatDoorQ03
set_option maxHeartbeats 8000000
set_option maxRecDepth 100000
namespace Go.Proofs.YtefkclbaflkheaaGreatDoor
open Tryz
variable {ka kb:Nat} {x:Wt.Nd} {W:World}
open Go.RowKit
set_option linter.unusedVariables false
abbrev zMC (ka kb:Nat) (x:Wt.Nd) (W:World):Prop :=
 W.cell? ⟨ka,8,none⟩=some (.string x.nm)/\W.cell? ⟨ka,9,none⟩=some (.int .i64 x.ar)/\W.frozen? ⟨kb,8,none⟩=false/\W.frozen? ⟨kb,9,none⟩=false
theorem zBR {y:Wt.Nd} (h0:AtL W ka (zAN x)) (h1:AtL W kb (zAN y)):zMC ka kb x W :=
 ⟨h0.2.1 8 _ rfl,h0.2.1 9 _ rfl,h1.2.2 8 (by show 8<20;decide),h1.2.2 9 (by show 9<20;decide)⟩
theorem zAw (h:zMC ka kb x W) (hne:kb ≠ ka) (j:Nat) (u:Value):zMC ka kb x (W.setCell ⟨kb,j,none⟩ u):=by
 obtain ⟨h8,h9,g8,g9⟩:=h;refine ⟨?_,?_,?_,?_⟩;any_goals rw [World.cell?_setCell_far _ _ _ _ (by simpa using hne)];assumption
 all_goals rw [World.frozen?_setCell];assumption
theorem zHn (x:Wt.Nd) (w:World) (hk:x.k=6) (hs:x.nm.size<=9223372036854775807) :
  CR 75 #[ndV x] w (.bool ((Wt.fnNm x.nm && decide (0<=x.ar) && decide (x.ar<=30)) && eqN x ⟨6,Wt.v0,0,x.nm,x.ar,Wt.r0,Wt.r0⟩)):=by
 have C:∀ w:World,CR 113 #[.string x.nm] w (.bool (Wt.fnNm x.nm)):=λw=>(zJ9 x.nm w hs).mono λe w' h=>⟨h.1,h.2 ▸ Below.refl _ _⟩
 have hq:∀ w:World,(binOp .eql 35 (.agg (zAN x).toArray) (.agg (zAN ⟨6,Wt.v0,0,x.nm,x.ar,Wt.r0,Wt.r0⟩).toArray)).run prog w=.ok (.bool (eqN x ⟨6,Wt.v0,0,x.nm,x.ar,Wt.r0,Wt.r0⟩)) w:=λw=>zCA x ⟨6,Wt.v0,0,x.nm,x.ar,Wt.r0,Wt.r0⟩ w
 generalize eqN x ⟨6,Wt.v0,0,x.nm,x.ar,Wt.r0,Wt.r0⟩=R at *;generalize Wt.fnNm x.nm=q at *;have pA0:AtL (two w x) w.heap.size (zAN x):=(AtL.new0 w _ _).alloc _;have pO0:AtL (two w x) (w.heap.size+1) (zAN (bare 0)):=AtL.new1 w _ _ _;have hth:World.there (two w x) (w.heap.size+1) 0 (zAN (bare 6)).toArray.size:=pO0.there;have hne:w.heap.size+1 ≠ w.heap.size:=by omega
 have pA:=pA0.farAll hne 0 (zAN (bare 6));have pO:AtL ((two w x).setCells (w.heap.size+1) 0 (zAN (bare 6))) (w.heap.size+1) (zAN (bare 6)):=pO0.setAll rfl;have hBa:Below w.heap.size w ((two w x).setCells (w.heap.size+1) 0 (zAN (bare 6))):=zAa (zAK (zAK (Below.refl _ w) _) _) (Nat.le_succ _) _ 0;clear pA0 pO0;have n0:(zAN x)[0]? = some (.int .i64 6):=by rw [<-hk];rfl
 have a0:World.cell? ((two w x).setCells (w.heap.size+1) 0 (zAN (bare 6))) ⟨w.heap.size,0,none⟩=some (.int .i64 6):=pA.2.1 0 _ n0;show Calls _ _ #[.agg (zAN x).toArray] _ _
 go_enter func75,ntmps75;go_upto_region 1 with fail
 go_upto_region 2 with ((with_reducible refine wpList_store_mid ?_ 35 (.tmp 3) (.tmp 9) ?_ (w.heap.size+1) 0 (zAN (bare 6)).toArray ?_ ?_ ?_ ?_ ?_ ?_);rfl;rfl;rfl;rfl;exact hth;kernel_rfl;exact zCZ _)
 generalize (two w x).setCells (w.heap.size+1) 0 (zAN (bare 6))=W0 at *;clear hth;go_upto_region 14 with fail
 refine wp_region_held_drew (S:=zMC w.heap.size (w.heap.size+1) x) (by kernel_rfl) (zBR (AtL.drew pA) (AtL.drew pO)) (λhHeld=>?_);refine tkQ 0 ?_
 refine tkQ 1 ?_
 refine tkQ 2 ?_
 refine tkQ 3 ?_
 refine tkQ 4 ?_
 refine tkQ 5 ?_
 refine tkQ 17 ?_
 refine rdQ 6 (λK hK=>?_);go_simp
 refine (C _).mono ?_;rintro e w1 ⟨rfl,hb⟩;have pA1:=AtL.below hb (AtL.drew pA);have pO1:=AtL.below hb (AtL.drew pO);have hB1:=zAB hBa.drew hb;clear hb;go_wp2_with fail
 refine hkQ hK (zBR pA1 pO1) (λhHeld=>?_);clear hK K
 refine tkQ 7 ?_
 cases q
 ·refine tnQ 8 ?_
  refine tnQ 9 ?_
  refine tnQ 10 ?_
  refine tkQ 11 ?_
  refine tkQ 12 ?_
  refine tnQ 13 ?_
  refine tnQ 14 ?_
  refine tnQ 15 ?_
  refine tkQ 16 ?_
  refine rdQ 18 (λK hK=>?_);have o8:=pO1.2.1 8 _ rfl;have o9:=pO1.2.1 9 _ rfl;obtain ⟨_,_,g8,g9⟩:=hHeld;go_simp
  refine hkQ hK ((zAw (zBR pA1 pO1) (by omega) _ _)) (λhHeld=>?_);clear hK K
  refine tkQ 19 ?_
  refine rdQ 20 (λK hK=>?_);clear o8 o9 g8 g9;have o8:=(pO1.set 8 (.string x.nm)).2.1 8 _ rfl;have o9:=(pO1.set 8 (.string x.nm)).2.1 9 _ rfl;obtain ⟨_,_,g8,g9⟩:=hHeld;go_simp
  refine hkQ hK ((zAw (zAw (zBR pA1 pO1) (by omega) _ _) (by omega) _ _)) (λhHeld=>?_);clear hK K
  refine rdQ 21 (λK hK=>?_);go_simp
  refine hkQ hK (by assumption) (λhHeld=>?_);clear hK K
  refine wpAnyH_done (by kernel_rfl) ?_ _;clear o8 o9 g8 g9;have pA2:AtL ((w1.setCell ⟨w.heap.size+1,8,none⟩ (.string x.nm)).setCell ⟨w.heap.size+1,9,none⟩ (.int .i64 x.ar)) w.heap.size (zAN x):=((pA1.far hne 8 (.string x.nm)).far hne 9 (.int .i64 x.ar))
  have pO2:AtL ((w1.setCell ⟨w.heap.size+1,8,none⟩ (.string x.nm)).setCell ⟨w.heap.size+1,9,none⟩ (.int .i64 x.ar)) (w.heap.size+1) (zAN ⟨6,Wt.v0,0,x.nm,x.ar,Wt.r0,Wt.r0⟩):=((pO1.set 8 (.string x.nm)).set 9 (.int .i64 x.ar))
  have hB2:Below w.heap.size w ((w1.setCell ⟨w.heap.size+1,8,none⟩ (.string x.nm)).setCell ⟨w.heap.size+1,9,none⟩ (.int .i64 x.ar)):=(clB hB1)
  clear pA1 pO1 hB1;generalize ((w1.setCell ⟨w.heap.size+1,8,none⟩ (.string x.nm)).setCell ⟨w.heap.size+1,9,none⟩ (.int .i64 x.ar))=W2 at *;have rA:=pA2.range;have rO:=pO2.range;clear pA2 pO2;go_wp2_with (first | ((with_reducible refine zAA ?_ 35 (.tmp 1) ?_ w.heap.size 0 ?_ (zAN x) _ ?_ underlying35 ?_ ?_ ?_);rfl;rfl;rfl;exact rA;rfl;kernel_rfl) | ((with_reducible refine zAA ?_ 35 (.tmp 3) ?_ (w.heap.size+1) 0 ?_ (zAN ⟨6,Wt.v0,0,x.nm,x.ar,Wt.r0,Wt.r0⟩) _ ?_ underlying35 ?_ ?_ ?_);rfl;rfl;rfl;exact rO;rfl;kernel_rfl))
  go_wp2;go_ret;exact ⟨by simp,hB2⟩
 refine tkQ 8 ?_
 refine tkQ 9 ?_
 refine tkQ 10 ?_
 by_cases h0:0<=x.ar
 ·by_cases h3:x.ar<=30
  all_goals
   refine tkQ 11 ?_
   refine tkQ 12 ?_
   refine tkQ 13 ?_
   refine tkQ 14 ?_
   refine tkQ 15 ?_
   refine tkQ 16 ?_
   refine rdQ 18 (λK hK=>?_);have o8:=pO1.2.1 8 _ rfl;have o9:=pO1.2.1 9 _ rfl;obtain ⟨_,_,g8,g9⟩:=hHeld;go_simp
   refine hkQ hK ((zAw (zBR pA1 pO1) (by omega) _ _)) (λhHeld=>?_);clear hK K
   refine tkQ 19 ?_
   refine rdQ 20 (λK hK=>?_);clear o8 o9 g8 g9;have o8:=(pO1.set 8 (.string x.nm)).2.1 8 _ rfl;have o9:=(pO1.set 8 (.string x.nm)).2.1 9 _ rfl;obtain ⟨_,_,g8,g9⟩:=hHeld;go_simp
   refine hkQ hK ((zAw (zAw (zBR pA1 pO1) (by omega) _ _) (by omega) _ _)) (λhHeld=>?_);clear hK K
   refine rdQ 21 (λK hK=>?_);go_simp
   refine hkQ hK (by assumption) (λhHeld=>?_);clear hK K
   refine wpAnyH_done (by kernel_rfl) ?_ _;clear o8 o9 g8 g9;have pA2:AtL ((w1.setCell ⟨w.heap.size+1,8,none⟩ (.string x.nm)).setCell ⟨w.heap.size+1,9,none⟩ (.int .i64 x.ar)) w.heap.size (zAN x):=((pA1.far hne 8 (.string x.nm)).far hne 9 (.int .i64 x.ar))
   have pO2:AtL ((w1.setCell ⟨w.heap.size+1,8,none⟩ (.string x.nm)).setCell ⟨w.heap.size+1,9,none⟩ (.int .i64 x.ar)) (w.heap.size+1) (zAN ⟨6,Wt.v0,0,x.nm,x.ar,Wt.r0,Wt.r0⟩):=((pO1.set 8 (.string x.nm)).set 9 (.int .i64 x.ar))
   have hB2:Below w.heap.size w ((w1.setCell ⟨w.heap.size+1,8,none⟩ (.string x.nm)).setCell ⟨w.heap.size+1,9,none⟩ (.int .i64 x.ar)):=(clB hB1)
   clear pA1 pO1 hB1;generalize ((w1.setCell ⟨w.heap.size+1,8,none⟩ (.string x.nm)).setCell ⟨w.heap.size+1,9,none⟩ (.int .i64 x.ar))=W2 at *;have rA:=pA2.range;have rO:=pO2.range;clear pA2 pO2;go_wp2_with (first | ((with_reducible refine zAA ?_ 35 (.tmp 1) ?_ w.heap.size 0 ?_ (zAN x) _ ?_ underlying35 ?_ ?_ ?_);rfl;rfl;rfl;exact rA;rfl;kernel_rfl) | ((with_reducible refine zAA ?_ 35 (.tmp 3) ?_ (w.heap.size+1) 0 ?_ (zAN ⟨6,Wt.v0,0,x.nm,x.ar,Wt.r0,Wt.r0⟩) _ ?_ underlying35 ?_ ?_ ?_);rfl;rfl;rfl;exact rO;rfl;kernel_rfl))
   go_wp2;go_ret;exact ⟨by first | (simp;done) | (simp;omega) | (simp [h0,h3];done) | (simp [h0];omega),hB2⟩
 ·have hd0:decide (0<=x.ar)=false:=decide_eq_false h0;refine tkQ 11 ?_
  refine tkQ 12 ?_
  refine tnQ 13 ?_
  refine tnQ 14 ?_
  refine tnQ 15 ?_
  refine tkQ 16 ?_
  refine rdQ 18 (λK hK=>?_);have o8:=pO1.2.1 8 _ rfl;have o9:=pO1.2.1 9 _ rfl;obtain ⟨_,_,g8,g9⟩:=hHeld;go_simp
  refine hkQ hK ((zAw (zBR pA1 pO1) (by omega) _ _)) (λhHeld=>?_);clear hK K
  refine tkQ 19 ?_
  refine rdQ 20 (λK hK=>?_);clear o8 o9 g8 g9;have o8:=(pO1.set 8 (.string x.nm)).2.1 8 _ rfl;have o9:=(pO1.set 8 (.string x.nm)).2.1 9 _ rfl;obtain ⟨_,_,g8,g9⟩:=hHeld;go_simp
  refine hkQ hK ((zAw (zAw (zBR pA1 pO1) (by omega) _ _) (by omega) _ _)) (λhHeld=>?_);clear hK K
  refine rdQ 21 (λK hK=>?_);go_simp
  refine hkQ hK (by assumption) (λhHeld=>?_);clear hK K
  refine wpAnyH_done (by kernel_rfl) ?_ _;clear o8 o9 g8 g9;have pA2:AtL ((w1.setCell ⟨w.heap.size+1,8,none⟩ (.string x.nm)).setCell ⟨w.heap.size+1,9,none⟩ (.int .i64 x.ar)) w.heap.size (zAN x):=((pA1.far hne 8 (.string x.nm)).far hne 9 (.int .i64 x.ar))
  have pO2:AtL ((w1.setCell ⟨w.heap.size+1,8,none⟩ (.string x.nm)).setCell ⟨w.heap.size+1,9,none⟩ (.int .i64 x.ar)) (w.heap.size+1) (zAN ⟨6,Wt.v0,0,x.nm,x.ar,Wt.r0,Wt.r0⟩):=((pO1.set 8 (.string x.nm)).set 9 (.int .i64 x.ar))
  have hB2:Below w.heap.size w ((w1.setCell ⟨w.heap.size+1,8,none⟩ (.string x.nm)).setCell ⟨w.heap.size+1,9,none⟩ (.int .i64 x.ar)):=(clB hB1)
  clear pA1 pO1 hB1;generalize ((w1.setCell ⟨w.heap.size+1,8,none⟩ (.string x.nm)).setCell ⟨w.heap.size+1,9,none⟩ (.int .i64 x.ar))=W2 at *;have rA:=pA2.range;have rO:=pO2.range;clear pA2 pO2;go_wp2_with (first | ((with_reducible refine zAA ?_ 35 (.tmp 1) ?_ w.heap.size 0 ?_ (zAN x) _ ?_ underlying35 ?_ ?_ ?_);rfl;rfl;rfl;exact rA;rfl;kernel_rfl) | ((with_reducible refine zAA ?_ 35 (.tmp 3) ?_ (w.heap.size+1) 0 ?_ (zAN ⟨6,Wt.v0,0,x.nm,x.ar,Wt.r0,Wt.r0⟩) _ ?_ underlying35 ?_ ?_ ?_);rfl;rfl;rfl;exact rO;rfl;kernel_rfl))
  go_wp2;go_ret;exact ⟨by simp,hB2⟩
