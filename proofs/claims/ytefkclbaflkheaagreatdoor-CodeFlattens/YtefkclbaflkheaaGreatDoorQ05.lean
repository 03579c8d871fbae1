/- Lemmas. -/
import Derived.Test.YtefkclbaflkheaaGreatDoorQ04
set_option maxHeartbeats 8000000
set_option maxRecDepth 100000
namespace Go.Proofs.YtefkclbaflkheaaGreatDoor
open Tryz
variable {ka kb:Nat} {x:Wt.Nd} {W:World}
open Go.RowKit
set_option linter.unusedVariables false
abbrev zO9 (ka kb:Nat) (x:Wt.Nd) (W:World):Prop :=
 W.cell? ⟨ka,10,none⟩=some (.string x.a.s)/\W.cell? ⟨ka,11,none⟩=some (.int .i64 x.a.r)/\W.cell? ⟨ka,12,none⟩=some (.int .i64 x.a.c)/\W.cell? ⟨ka,13,none⟩=some (.bool x.a.fr)/\W.cell? ⟨ka,14,none⟩=some (.bool x.a.fc)/\W.cell? ⟨ka,15,none⟩=some (.string x.b.s)/\W.cell? ⟨ka,16,none⟩=some (.int .i64 x.b.r)/\W.cell? ⟨ka,17,none⟩=some (.int .i64 x.b.c)/\W.cell? ⟨ka,18,none⟩=some (.bool x.b.fr)/\W.cell? ⟨ka,19,none⟩=some (.bool x.b.fc)/\W.frozen? ⟨kb,10,none⟩=false/\W.frozen? ⟨kb,11,none⟩=false/\W.frozen? ⟨kb,12,none⟩=false/\W.frozen? ⟨kb,13,none⟩=false/\W.frozen? ⟨kb,14,none⟩=false/\W.frozen? ⟨kb,15,none⟩=false/\W.frozen? ⟨kb,16,none⟩=false/\W.frozen? ⟨kb,17,none⟩=false/\W.frozen? ⟨kb,18,none⟩=false/\W.frozen? ⟨kb,19,none⟩=false
theorem zB8 {y:Wt.Nd} (h0:AtL W ka (zAG x)) (h1:AtL W kb (zAG y)):zO9 ka kb x W :=
 ⟨h0.2.1 10 _ rfl,h0.2.1 11 _ rfl,h0.2.1 12 _ rfl,h0.2.1 13 _ rfl,h0.2.1 14 _ rfl,h0.2.1 15 _ rfl,h0.2.1 16 _ rfl,h0.2.1 17 _ rfl,h0.2.1 18 _ rfl,h0.2.1 19 _ rfl,h1.2.2 10 (by show 10<20;decide),h1.2.2 11 (by show 11<20;decide),h1.2.2 12 (by show 12<20;decide),h1.2.2 13 (by show 13<20;decide),h1.2.2 14 (by show 14<20;decide),h1.2.2 15 (by show 15<20;decide),h1.2.2 16 (by show 16<20;decide),h1.2.2 17 (by show 17<20;decide),h1.2.2 18 (by show 18<20;decide),h1.2.2 19 (by show 19<20;decide)⟩
theorem zAT (h:zO9 ka kb x W) (hne:kb ≠ ka) (j:Nat) (u:Value):zO9 ka kb x (W.setCell ⟨kb,j,none⟩ u):=by
 obtain ⟨h10,h11,h12,h13,h14,h15,h16,h17,h18,h19,g10,g11,g12,g13,g14,g15,g16,g17,g18,g19⟩:=h;refine ⟨?_,?_,?_,?_,?_,?_,?_,?_,?_,?_,?_,?_,?_,?_,?_,?_,?_,?_,?_,?_⟩;any_goals rw [World.cell?_setCell_far _ _ _ _ (by simpa using hne)];assumption
 all_goals rw [World.frozen?_setCell];assumption
theorem zJb (x:Wt.Nd) (w:World) (hk:x.k=3) (hs:x.a.s.size<=9223372036854775807) (hsb:x.b.s.size<=9223372036854775807) :
  CR 75 #[ndV x] w (.bool ((Wt.rfOk x.a && Wt.rfOk x.b && x.b.s.toList.isEmpty) && eqN x ⟨3,Wt.v0,0,⟨#[]⟩,0,x.a,x.b⟩)):=by
 have CA:=(λw=>zEe x.a w hs:∀ w:World,CR 110 #[.agg #[.string x.a.s,.int .i64 x.a.r,.int .i64 x.a.c,.bool x.a.fr,.bool x.a.fc]] w (.bool (Wt.rfOk x.a)))
 have CB:=(λw=>zEe x.b w hsb:∀ w:World,CR 110 #[.agg #[.string x.b.s,.int .i64 x.b.r,.int .i64 x.b.c,.bool x.b.fr,.bool x.b.fc]] w (.bool (Wt.rfOk x.b)))
 have hq:∀ w:World,(binOp .eql 35 (.agg (zAG x).toArray) (.agg (zAG ⟨3,Wt.v0,0,⟨#[]⟩,0,x.a,x.b⟩).toArray)).run prog w=.ok (.bool (eqN x ⟨3,Wt.v0,0,⟨#[]⟩,0,x.a,x.b⟩)) w:=λw=>zBC x ⟨3,Wt.v0,0,⟨#[]⟩,0,x.a,x.b⟩ w
 generalize eqN x ⟨3,Wt.v0,0,⟨#[]⟩,0,x.a,x.b⟩=R at *;generalize Wt.rfOk x.a=qa at *;generalize Wt.rfOk x.b=qb at *;have pA0:AtL (two w x) w.heap.size (zAG x):=(AtL.new0 w _ _).alloc _;have pO0:AtL (two w x) (w.heap.size+1) (zAG (bare 0)):=AtL.new1 w _ _ _;have hth:World.there (two w x) (w.heap.size+1) 0 (zAG (bare 3)).toArray.size:=pO0.there;have hne:w.heap.size+1 ≠ w.heap.size:=by omega
 have pA:=pA0.farAll hne 0 (zAG (bare 3));have pO:AtL ((two w x).setCells (w.heap.size+1) 0 (zAG (bare 3))) (w.heap.size+1) (zAG (bare 3)):=pO0.setAll rfl;have hBa:Below w.heap.size w ((two w x).setCells (w.heap.size+1) 0 (zAG (bare 3))):=zAv (zAM (zAM (Below.refl _ w) _) _) (Nat.le_succ _) _ 0;clear pA0 pO0;have n0:(zAG x)[0]? = some (.int .i64 3):=by rw [<-hk];rfl
 have a0:World.cell? ((two w x).setCells (w.heap.size+1) 0 (zAG (bare 3))) ⟨w.heap.size,0,none⟩=some (.int .i64 3):=pA.2.1 0 _ n0;show Calls _ _ #[.agg (zAG x).toArray] _ _
 go_enter func75,ntmps75;go_upto_region 1 with fail
 go_upto_region 2 with ((with_reducible refine wpList_store_mid ?_ 35 (.tmp 3) (.tmp 9) ?_ (w.heap.size+1) 0 (zAG (bare 3)).toArray ?_ ?_ ?_ ?_ ?_ ?_);rfl;rfl;rfl;rfl;exact hth;kernel_rfl;exact zC6 _)
 generalize (two w x).setCells (w.heap.size+1) 0 (zAG (bare 3))=W0 at *;clear hth;go_upto_region 8 with fail
 refine wp_region_held_drew (S:=zO9 w.heap.size (w.heap.size+1) x) (by kernel_rfl) (zB8 (AtL.drew pA) (AtL.drew pO)) (λhHeld=>?_);refine tkQ 0 ?_
 refine tkQ 1 ?_
 refine tkQ 2 ?_
 refine tkQ 3 ?_
 refine tkQ 4 ?_
 refine tkQ 5 ?_
 refine tkQ 18 ?_
 refine rdQ 6 (λK hK=>?_);go_simp
 refine (CA _).mono ?_;rintro e w1 ⟨rfl,hb⟩;have pA1:=AtL.below hb (AtL.drew pA);have pO1:=AtL.below hb (AtL.drew pO);have hB1:=zAB hBa.drew hb;clear hb;go_wp2_with fail
 refine hkQ hK (zB8 pA1 pO1) (λhHeld=>?_);clear hK K
 refine tkQ 7 ?_
 cases qa
 ·clear CB;refine tnQ 8 ?_
  refine tnQ 9 ?_
  refine tnQ 10 ?_
  refine tkQ 11 ?_
  refine tkQ 12 ?_
  refine tnQ 13 ?_
  refine tnQ 14 ?_
  refine tnQ 15 ?_
  refine tnQ 16 ?_
  refine tkQ 17 ?_
  refine rdQ 19 (λK hK=>?_);have o10:=pO1.2.1 10 _ rfl;have o11:=pO1.2.1 11 _ rfl;have o12:=pO1.2.1 12 _ rfl;have o13:=pO1.2.1 13 _ rfl;have o14:=pO1.2.1 14 _ rfl;have o15:=pO1.2.1 15 _ rfl;have o16:=pO1.2.1 16 _ rfl;have o17:=pO1.2.1 17 _ rfl;have o18:=pO1.2.1 18 _ rfl;have o19:=pO1.2.1 19 _ rfl;obtain ⟨_,_,_,_,_,_,_,_,_,_,g10,g11,g12,g13,g14,g15,g16,g17,g18,g19⟩:=hHeld;go_simp
  refine hkQ hK ((zAT (zAT (zAT (zAT (zAT (zB8 pA1 pO1) (by omega) _ _) (by omega) _ _) (by omega) _ _) (by omega) _ _) (by omega) _ _)) (λhHeld=>?_);clear hK K
  refine tkQ 20 ?_
  refine rdQ 21 (λK hK=>?_);have pA3:AtL (((((w1.setCell ⟨w.heap.size+1,10,none⟩ (.string x.a.s)).setCell ⟨w.heap.size+1,11,none⟩ (.int .i64 x.a.r)).setCell ⟨w.heap.size+1,12,none⟩ (.int .i64 x.a.c)).setCell ⟨w.heap.size+1,13,none⟩ (.bool x.a.fr)).setCell ⟨w.heap.size+1,14,none⟩ (.bool x.a.fc)) w.heap.size (zAG x):=(((((pA1.far hne 10 (.string x.a.s)).far hne 11 (.int .i64 x.a.r)).far hne 12 (.int .i64 x.a.c)).far hne 13 (.bool x.a.fr)).far hne 14 (.bool x.a.fc))
  have pO3:AtL (((((w1.setCell ⟨w.heap.size+1,10,none⟩ (.string x.a.s)).setCell ⟨w.heap.size+1,11,none⟩ (.int .i64 x.a.r)).setCell ⟨w.heap.size+1,12,none⟩ (.int .i64 x.a.c)).setCell ⟨w.heap.size+1,13,none⟩ (.bool x.a.fr)).setCell ⟨w.heap.size+1,14,none⟩ (.bool x.a.fc)) (w.heap.size+1) (zAG ⟨3,Wt.v0,0,⟨#[]⟩,0,x.a,Wt.r0⟩):=(((((pO1.set 10 (.string x.a.s)).set 11 (.int .i64 x.a.r)).set 12 (.int .i64 x.a.c)).set 13 (.bool x.a.fr)).set 14 (.bool x.a.fc))
  have hB3:Below w.heap.size w (((((w1.setCell ⟨w.heap.size+1,10,none⟩ (.string x.a.s)).setCell ⟨w.heap.size+1,11,none⟩ (.int .i64 x.a.r)).setCell ⟨w.heap.size+1,12,none⟩ (.int .i64 x.a.c)).setCell ⟨w.heap.size+1,13,none⟩ (.bool x.a.fr)).setCell ⟨w.heap.size+1,14,none⟩ (.bool x.a.fc)):=(clB hB1)
  clear pA1 pO1 hB1 o10 o11 o12 o13 o14 o15 o16 o17 o18 o19 g10 g11 g12 g13 g14 g15 g16 g17 g18 g19;generalize (((((w1.setCell ⟨w.heap.size+1,10,none⟩ (.string x.a.s)).setCell ⟨w.heap.size+1,11,none⟩ (.int .i64 x.a.r)).setCell ⟨w.heap.size+1,12,none⟩ (.int .i64 x.a.c)).setCell ⟨w.heap.size+1,13,none⟩ (.bool x.a.fr)).setCell ⟨w.heap.size+1,14,none⟩ (.bool x.a.fc))=w9 at *;have o10:=pO3.2.1 10 _ rfl;have o11:=pO3.2.1 11 _ rfl;have o12:=pO3.2.1 12 _ rfl;have o13:=pO3.2.1 13 _ rfl;have o14:=pO3.2.1 14 _ rfl;have o15:=pO3.2.1 15 _ rfl;have o16:=pO3.2.1 16 _ rfl;have o17:=pO3.2.1 17 _ rfl;have o18:=pO3.2.1 18 _ rfl;have o19:=pO3.2.1 19 _ rfl;obtain ⟨_,_,_,_,_,_,_,_,_,_,g10,g11,g12,g13,g14,g15,g16,g17,g18,g19⟩:=hHeld;go_simp
  refine hkQ hK ((zAT (zAT (zAT (zAT (zAT (zB8 pA3 pO3) (by omega) _ _) (by omega) _ _) (by omega) _ _) (by omega) _ _) (by omega) _ _)) (λhHeld=>?_);clear hK K
  refine rdQ 22 (λK hK=>?_);go_simp
  refine hkQ hK (by assumption) (λhHeld=>?_);clear hK K
  refine wpAnyH_done (by kernel_rfl) ?_ _;have pA2:AtL (((((w9.setCell ⟨w.heap.size+1,15,none⟩ (.string x.b.s)).setCell ⟨w.heap.size+1,16,none⟩ (.int .i64 x.b.r)).setCell ⟨w.heap.size+1,17,none⟩ (.int .i64 x.b.c)).setCell ⟨w.heap.size+1,18,none⟩ (.bool x.b.fr)).setCell ⟨w.heap.size+1,19,none⟩ (.bool x.b.fc)) w.heap.size (zAG x):=(((((pA3.far hne 15 (.string x.b.s)).far hne 16 (.int .i64 x.b.r)).far hne 17 (.int .i64 x.b.c)).far hne 18 (.bool x.b.fr)).far hne 19 (.bool x.b.fc))
  have pO2:AtL (((((w9.setCell ⟨w.heap.size+1,15,none⟩ (.string x.b.s)).setCell ⟨w.heap.size+1,16,none⟩ (.int .i64 x.b.r)).setCell ⟨w.heap.size+1,17,none⟩ (.int .i64 x.b.c)).setCell ⟨w.heap.size+1,18,none⟩ (.bool x.b.fr)).setCell ⟨w.heap.size+1,19,none⟩ (.bool x.b.fc)) (w.heap.size+1) (zAG ⟨3,Wt.v0,0,⟨#[]⟩,0,x.a,x.b⟩):=(((((pO3.set 15 (.string x.b.s)).set 16 (.int .i64 x.b.r)).set 17 (.int .i64 x.b.c)).set 18 (.bool x.b.fr)).set 19 (.bool x.b.fc))
  have hB2:Below w.heap.size w (((((w9.setCell ⟨w.heap.size+1,15,none⟩ (.string x.b.s)).setCell ⟨w.heap.size+1,16,none⟩ (.int .i64 x.b.r)).setCell ⟨w.heap.size+1,17,none⟩ (.int .i64 x.b.c)).setCell ⟨w.heap.size+1,18,none⟩ (.bool x.b.fr)).setCell ⟨w.heap.size+1,19,none⟩ (.bool x.b.fc)):=(clB hB3)
  clear pA3 pO3 hB3 o10 o11 o12 o13 o14 o15 o16 o17 o18 o19 g10 g11 g12 g13 g14 g15 g16 g17 g18 g19;generalize (((((w9.setCell ⟨w.heap.size+1,15,none⟩ (.string x.b.s)).setCell ⟨w.heap.size+1,16,none⟩ (.int .i64 x.b.r)).setCell ⟨w.heap.size+1,17,none⟩ (.int .i64 x.b.c)).setCell ⟨w.heap.size+1,18,none⟩ (.bool x.b.fr)).setCell ⟨w.heap.size+1,19,none⟩ (.bool x.b.fc))=W2 at *;have rA:=pA2.range;have rO:=pO2.range;clear pA2 pO2;go_wp2_with (first | ((with_reducible refine zAA ?_ 35 (.tmp 1) ?_ w.heap.size 0 ?_ (zAG x) _ ?_ underlying35 ?_ ?_ ?_);rfl;rfl;rfl;exact rA;rfl;kernel_rfl) | ((with_reducible refine zAA ?_ 35 (.tmp 3) ?_ (w.heap.size+1) 0 ?_ (zAG ⟨3,Wt.v0,0,⟨#[]⟩,0,x.a,x.b⟩) _ ?_ underlying35 ?_ ?_ ?_);rfl;rfl;rfl;exact rO;rfl;kernel_rfl))
  go_wp2;go_ret;exact ⟨by simp,hB2⟩
 refine tkQ 8 ?_
 refine tkQ 9 ?_
 refine rdQ 10 (λK hK=>?_);go_simp
 refine (CB _).mono ?_;rintro e w2 ⟨rfl,hb⟩;replace pA1:=AtL.below hb pA1
 replace pO1:=AtL.below hb pO1
 replace hB1:=zAB hB1 hb
 clear hb;go_wp2_with fail
 refine hkQ hK (zB8 pA1 pO1) (λhHeld=>?_);clear hK K
 refine tkQ 11 ?_
 refine tkQ 12 ?_
 cases qb
 ·refine tnQ 13 ?_
  refine tnQ 14 ?_
  refine tnQ 15 ?_
  refine tnQ 16 ?_
  refine tkQ 17 ?_
  refine rdQ 19 (λK hK=>?_);have o10:=pO1.2.1 10 _ rfl;have o11:=pO1.2.1 11 _ rfl;have o12:=pO1.2.1 12 _ rfl;have o13:=pO1.2.1 13 _ rfl;have o14:=pO1.2.1 14 _ rfl;have o15:=pO1.2.1 15 _ rfl;have o16:=pO1.2.1 16 _ rfl;have o17:=pO1.2.1 17 _ rfl;have o18:=pO1.2.1 18 _ rfl;have o19:=pO1.2.1 19 _ rfl;obtain ⟨_,_,_,_,_,_,_,_,_,_,g10,g11,g12,g13,g14,g15,g16,g17,g18,g19⟩:=hHeld;go_simp
  refine hkQ hK ((zAT (zAT (zAT (zAT (zAT (zB8 pA1 pO1) (by omega) _ _) (by omega) _ _) (by omega) _ _) (by omega) _ _) (by omega) _ _)) (λhHeld=>?_);clear hK K
  refine tkQ 20 ?_
  refine rdQ 21 (λK hK=>?_);have pA3:AtL (((((w2.setCell ⟨w.heap.size+1,10,none⟩ (.string x.a.s)).setCell ⟨w.heap.size+1,11,none⟩ (.int .i64 x.a.r)).setCell ⟨w.heap.size+1,12,none⟩ (.int .i64 x.a.c)).setCell ⟨w.heap.size+1,13,none⟩ (.bool x.a.fr)).setCell ⟨w.heap.size+1,14,none⟩ (.bool x.a.fc)) w.heap.size (zAG x):=(((((pA1.far hne 10 (.string x.a.s)).far hne 11 (.int .i64 x.a.r)).far hne 12 (.int .i64 x.a.c)).far hne 13 (.bool x.a.fr)).far hne 14 (.bool x.a.fc))
  have pO3:AtL (((((w2.setCell ⟨w.heap.size+1,10,none⟩ (.string x.a.s)).setCell ⟨w.heap.size+1,11,none⟩ (.int .i64 x.a.r)).setCell ⟨w.heap.size+1,12,none⟩ (.int .i64 x.a.c)).setCell ⟨w.heap.size+1,13,none⟩ (.bool x.a.fr)).setCell ⟨w.heap.size+1,14,none⟩ (.bool x.a.fc)) (w.heap.size+1) (zAG ⟨3,Wt.v0,0,⟨#[]⟩,0,x.a,Wt.r0⟩):=(((((pO1.set 10 (.string x.a.s)).set 11 (.int .i64 x.a.r)).set 12 (.int .i64 x.a.c)).set 13 (.bool x.a.fr)).set 14 (.bool x.a.fc))
  have hB3:Below w.heap.size w (((((w2.setCell ⟨w.heap.size+1,10,none⟩ (.string x.a.s)).setCell ⟨w.heap.size+1,11,none⟩ (.int .i64 x.a.r)).setCell ⟨w.heap.size+1,12,none⟩ (.int .i64 x.a.c)).setCell ⟨w.heap.size+1,13,none⟩ (.bool x.a.fr)).setCell ⟨w.heap.size+1,14,none⟩ (.bool x.a.fc)):=(clB hB1)
  clear pA1 pO1 hB1 o10 o11 o12 o13 o14 o15 o16 o17 o18 o19 g10 g11 g12 g13 g14 g15 g16 g17 g18 g19;generalize (((((w2.setCell ⟨w.heap.size+1,10,none⟩ (.string x.a.s)).setCell ⟨w.heap.size+1,11,none⟩ (.int .i64 x.a.r)).setCell ⟨w.heap.size+1,12,none⟩ (.int .i64 x.a.c)).setCell ⟨w.heap.size+1,13,none⟩ (.bool x.a.fr)).setCell ⟨w.heap.size+1,14,none⟩ (.bool x.a.fc))=w9 at *;have o10:=pO3.2.1 10 _ rfl;have o11:=pO3.2.1 11 _ rfl;have o12:=pO3.2.1 12 _ rfl;have o13:=pO3.2.1 13 _ rfl;have o14:=pO3.2.1 14 _ rfl;have o15:=pO3.2.1 15 _ rfl;have o16:=pO3.2.1 16 _ rfl;have o17:=pO3.2.1 17 _ rfl;have o18:=pO3.2.1 18 _ rfl;have o19:=pO3.2.1 19 _ rfl;obtain ⟨_,_,_,_,_,_,_,_,_,_,g10,g11,g12,g13,g14,g15,g16,g17,g18,g19⟩:=hHeld;go_simp
  refine hkQ hK ((zAT (zAT (zAT (zAT (zAT (zB8 pA3 pO3) (by omega) _ _) (by omega) _ _) (by omega) _ _) (by omega) _ _) (by omega) _ _)) (λhHeld=>?_);clear hK K
  refine rdQ 22 (λK hK=>?_);go_simp
  refine hkQ hK (by assumption) (λhHeld=>?_);clear hK K
  refine wpAnyH_done (by kernel_rfl) ?_ _;have pA2:AtL (((((w9.setCell ⟨w.heap.size+1,15,none⟩ (.string x.b.s)).setCell ⟨w.heap.size+1,16,none⟩ (.int .i64 x.b.r)).setCell ⟨w.heap.size+1,17,none⟩ (.int .i64 x.b.c)).setCell ⟨w.heap.size+1,18,none⟩ (.bool x.b.fr)).setCell ⟨w.heap.size+1,19,none⟩ (.bool x.b.fc)) w.heap.size (zAG x):=(((((pA3.far hne 15 (.string x.b.s)).far hne 16 (.int .i64 x.b.r)).far hne 17 (.int .i64 x.b.c)).far hne 18 (.bool x.b.fr)).far hne 19 (.bool x.b.fc))
  have pO2:AtL (((((w9.setCell ⟨w.heap.size+1,15,none⟩ (.string x.b.s)).setCell ⟨w.heap.size+1,16,none⟩ (.int .i64 x.b.r)).setCell ⟨w.heap.size+1,17,none⟩ (.int .i64 x.b.c)).setCell ⟨w.heap.size+1,18,none⟩ (.bool x.b.fr)).setCell ⟨w.heap.size+1,19,none⟩ (.bool x.b.fc)) (w.heap.size+1) (zAG ⟨3,Wt.v0,0,⟨#[]⟩,0,x.a,x.b⟩):=(((((pO3.set 15 (.string x.b.s)).set 16 (.int .i64 x.b.r)).set 17 (.int .i64 x.b.c)).set 18 (.bool x.b.fr)).set 19 (.bool x.b.fc))
  have hB2:Below w.heap.size w (((((w9.setCell ⟨w.heap.size+1,15,none⟩ (.string x.b.s)).setCell ⟨w.heap.size+1,16,none⟩ (.int .i64 x.b.r)).setCell ⟨w.heap.size+1,17,none⟩ (.int .i64 x.b.c)).setCell ⟨w.heap.size+1,18,none⟩ (.bool x.b.fr)).setCell ⟨w.heap.size+1,19,none⟩ (.bool x.b.fc)):=(clB hB3)
  clear pA3 pO3 hB3 o10 o11 o12 o13 o14 o15 o16 o17 o18 o19 g10 g11 g12 g13 g14 g15 g16 g17 g18 g19;generalize (((((w9.setCell ⟨w.heap.size+1,15,none⟩ (.string x.b.s)).setCell ⟨w.heap.size+1,16,none⟩ (.int .i64 x.b.r)).setCell ⟨w.heap.size+1,17,none⟩ (.int .i64 x.b.c)).setCell ⟨w.heap.size+1,18,none⟩ (.bool x.b.fr)).setCell ⟨w.heap.size+1,19,none⟩ (.bool x.b.fc))=W2 at *;have rA:=pA2.range;have rO:=pO2.range;clear pA2 pO2;go_wp2_with (first | ((with_reducible refine zAA ?_ 35 (.tmp 1) ?_ w.heap.size 0 ?_ (zAG x) _ ?_ underlying35 ?_ ?_ ?_);rfl;rfl;rfl;exact rA;rfl;kernel_rfl) | ((with_reducible refine zAA ?_ 35 (.tmp 3) ?_ (w.heap.size+1) 0 ?_ (zAG ⟨3,Wt.v0,0,⟨#[]⟩,0,x.a,x.b⟩) _ ?_ underlying35 ?_ ?_ ?_);rfl;rfl;rfl;exact rO;rfl;kernel_rfl))
  go_wp2;go_ret;exact ⟨by simp,hB2⟩
 cases he:x.b.s.toList.isEmpty
 all_goals
  refine tkQ 13 ?_
  refine tkQ 14 ?_
  refine tkQ 15 ?_
  refine tkQ 16 ?_
  refine tkQ 17 ?_
  refine rdQ 19 (λK hK=>?_);have o10:=pO1.2.1 10 _ rfl;have o11:=pO1.2.1 11 _ rfl;have o12:=pO1.2.1 12 _ rfl;have o13:=pO1.2.1 13 _ rfl;have o14:=pO1.2.1 14 _ rfl;have o15:=pO1.2.1 15 _ rfl;have o16:=pO1.2.1 16 _ rfl;have o17:=pO1.2.1 17 _ rfl;have o18:=pO1.2.1 18 _ rfl;have o19:=pO1.2.1 19 _ rfl;obtain ⟨_,_,_,_,_,_,_,_,_,_,g10,g11,g12,g13,g14,g15,g16,g17,g18,g19⟩:=hHeld;go_simp
  refine hkQ hK ((zAT (zAT (zAT (zAT (zAT (zB8 pA1 pO1) (by omega) _ _) (by omega) _ _) (by omega) _ _) (by omega) _ _) (by omega) _ _)) (λhHeld=>?_);clear hK K
  refine tkQ 20 ?_
  refine rdQ 21 (λK hK=>?_);have pA3:AtL (((((w2.setCell ⟨w.heap.size+1,10,none⟩ (.string x.a.s)).setCell ⟨w.heap.size+1,11,none⟩ (.int .i64 x.a.r)).setCell ⟨w.heap.size+1,12,none⟩ (.int .i64 x.a.c)).setCell ⟨w.heap.size+1,13,none⟩ (.bool x.a.fr)).setCell ⟨w.heap.size+1,14,none⟩ (.bool x.a.fc)) w.heap.size (zAG x):=(((((pA1.far hne 10 (.string x.a.s)).far hne 11 (.int .i64 x.a.r)).far hne 12 (.int .i64 x.a.c)).far hne 13 (.bool x.a.fr)).far hne 14 (.bool x.a.fc))
  have pO3:AtL (((((w2.setCell ⟨w.heap.size+1,10,none⟩ (.string x.a.s)).setCell ⟨w.heap.size+1,11,none⟩ (.int .i64 x.a.r)).setCell ⟨w.heap.size+1,12,none⟩ (.int .i64 x.a.c)).setCell ⟨w.heap.size+1,13,none⟩ (.bool x.a.fr)).setCell ⟨w.heap.size+1,14,none⟩ (.bool x.a.fc)) (w.heap.size+1) (zAG ⟨3,Wt.v0,0,⟨#[]⟩,0,x.a,Wt.r0⟩):=(((((pO1.set 10 (.string x.a.s)).set 11 (.int .i64 x.a.r)).set 12 (.int .i64 x.a.c)).set 13 (.bool x.a.fr)).set 14 (.bool x.a.fc))
  have hB3:Below w.heap.size w (((((w2.setCell ⟨w.heap.size+1,10,none⟩ (.string x.a.s)).setCell ⟨w.heap.size+1,11,none⟩ (.int .i64 x.a.r)).setCell ⟨w.heap.size+1,12,none⟩ (.int .i64 x.a.c)).setCell ⟨w.heap.size+1,13,none⟩ (.bool x.a.fr)).setCell ⟨w.heap.size+1,14,none⟩ (.bool x.a.fc)):=(clB hB1)
  clear pA1 pO1 hB1 o10 o11 o12 o13 o14 o15 o16 o17 o18 o19 g10 g11 g12 g13 g14 g15 g16 g17 g18 g19;generalize (((((w2.setCell ⟨w.heap.size+1,10,none⟩ (.string x.a.s)).setCell ⟨w.heap.size+1,11,none⟩ (.int .i64 x.a.r)).setCell ⟨w.heap.size+1,12,none⟩ (.int .i64 x.a.c)).setCell ⟨w.heap.size+1,13,none⟩ (.bool x.a.fr)).setCell ⟨w.heap.size+1,14,none⟩ (.bool x.a.fc))=w9 at *;have o10:=pO3.2.1 10 _ rfl;have o11:=pO3.2.1 11 _ rfl;have o12:=pO3.2.1 12 _ rfl;have o13:=pO3.2.1 13 _ rfl;have o14:=pO3.2.1 14 _ rfl;have o15:=pO3.2.1 15 _ rfl;have o16:=pO3.2.1 16 _ rfl;have o17:=pO3.2.1 17 _ rfl;have o18:=pO3.2.1 18 _ rfl;have o19:=pO3.2.1 19 _ rfl;obtain ⟨_,_,_,_,_,_,_,_,_,_,g10,g11,g12,g13,g14,g15,g16,g17,g18,g19⟩:=hHeld;go_simp
  refine hkQ hK ((zAT (zAT (zAT (zAT (zAT (zB8 pA3 pO3) (by omega) _ _) (by omega) _ _) (by omega) _ _) (by omega) _ _) (by omega) _ _)) (λhHeld=>?_);clear hK K
  refine rdQ 22 (λK hK=>?_);go_simp
  refine hkQ hK (by assumption) (λhHeld=>?_);clear hK K
  refine wpAnyH_done (by kernel_rfl) ?_ _;have pA2:AtL (((((w9.setCell ⟨w.heap.size+1,15,none⟩ (.string x.b.s)).setCell ⟨w.heap.size+1,16,none⟩ (.int .i64 x.b.r)).setCell ⟨w.heap.size+1,17,none⟩ (.int .i64 x.b.c)).setCell ⟨w.heap.size+1,18,none⟩ (.bool x.b.fr)).setCell ⟨w.heap.size+1,19,none⟩ (.bool x.b.fc)) w.heap.size (zAG x):=(((((pA3.far hne 15 (.string x.b.s)).far hne 16 (.int .i64 x.b.r)).far hne 17 (.int .i64 x.b.c)).far hne 18 (.bool x.b.fr)).far hne 19 (.bool x.b.fc))
  have pO2:AtL (((((w9.setCell ⟨w.heap.size+1,15,none⟩ (.string x.b.s)).setCell ⟨w.heap.size+1,16,none⟩ (.int .i64 x.b.r)).setCell ⟨w.heap.size+1,17,none⟩ (.int .i64 x.b.c)).setCell ⟨w.heap.size+1,18,none⟩ (.bool x.b.fr)).setCell ⟨w.heap.size+1,19,none⟩ (.bool x.b.fc)) (w.heap.size+1) (zAG ⟨3,Wt.v0,0,⟨#[]⟩,0,x.a,x.b⟩):=(((((pO3.set 15 (.string x.b.s)).set 16 (.int .i64 x.b.r)).set 17 (.int .i64 x.b.c)).set 18 (.bool x.b.fr)).set 19 (.bool x.b.fc))
  have hB2:Below w.heap.size w (((((w9.setCell ⟨w.heap.size+1,15,none⟩ (.string x.b.s)).setCell ⟨w.heap.size+1,16,none⟩ (.int .i64 x.b.r)).setCell ⟨w.heap.size+1,17,none⟩ (.int .i64 x.b.c)).setCell ⟨w.heap.size+1,18,none⟩ (.bool x.b.fr)).setCell ⟨w.heap.size+1,19,none⟩ (.bool x.b.fc)):=(clB hB3)
  clear pA3 pO3 hB3 o10 o11 o12 o13 o14 o15 o16 o17 o18 o19 g10 g11 g12 g13 g14 g15 g16 g17 g18 g19;generalize (((((w9.setCell ⟨w.heap.size+1,15,none⟩ (.string x.b.s)).setCell ⟨w.heap.size+1,16,none⟩ (.int .i64 x.b.r)).setCell ⟨w.heap.size+1,17,none⟩ (.int .i64 x.b.c)).setCell ⟨w.heap.size+1,18,none⟩ (.bool x.b.fr)).setCell ⟨w.heap.size+1,19,none⟩ (.bool x.b.fc))=W2 at *;have rA:=pA2.range;have rO:=pO2.range;clear pA2 pO2;go_wp2_with (first | ((with_reducible refine zAA ?_ 35 (.tmp 1) ?_ w.heap.size 0 ?_ (zAG x) _ ?_ underlying35 ?_ ?_ ?_);rfl;rfl;rfl;exact rA;rfl;kernel_rfl) | ((with_reducible refine zAA ?_ 35 (.tmp 3) ?_ (w.heap.size+1) 0 ?_ (zAG ⟨3,Wt.v0,0,⟨#[]⟩,0,x.a,x.b⟩) _ ?_ underlying35 ?_ ?_ ?_);rfl;rfl;rfl;exact rO;rfl;kernel_rfl))
  go_wp2;go_ret;have he2:=he;simp only [List.isEmpty_iff,List.isEmpty_eq_false_iff] at he2;exact ⟨by simp [he2],hB2⟩
