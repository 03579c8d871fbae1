/- TRightC. -/
import Derived.Test.YtoddeobfajlafaaGreatDoorQ03
set_option maxHeartbeats 8000000
set_option maxRecDepth 100000
namespace Go.Proofs.YtoddeobfajlafaaGreatDoor
open Tryz
variable {ka kb:Nat} {x:Wt.Nd} {W:World}
abbrev zRM:Oper:=⟨some 80,.fieldAddr 35 (.tmp 1) 4,0,"tree.go:80",#[⟨7,.guard⟩],some (7,Bool.true)⟩
abbrev zRP:Oper:=⟨some 81,.load 3 (.tmp 80),3,"tree.go:80",#[⟨8,.data⟩,⟨7,.guard⟩],some (7,Bool.true)⟩
abbrev zRH:Oper:=⟨some 82,.binOp BinOp.geq 3 (.tmp 81) (Operand.const (Value.int IntKind.i64 0)) 3,4,"tree.go:80",#[⟨9,.data⟩,⟨7,.guard⟩],some (7,Bool.true)⟩
abbrev zQM:Oper:=⟨some 83,.pick (.tmp 79) (.tmp 82) (Operand.const (Value.bool Bool.false)),4,"tree.go:80",#[⟨7,.data⟩,⟨10,.data⟩],none⟩
abbrev zQL:Oper:=⟨some 84,.move (.tmp 83),4,"tree.go:80",#[⟨11,.data⟩,⟨7,.chain⟩],none⟩
abbrev zQb:Oper:=⟨some 85,.fieldAddr 35 (.tmp 1) 4,0,"tree.go:80",#[⟨12,.guard⟩,⟨20,.gcOnly .lateStores⟩],some (12,Bool.true)⟩
abbrev zQa:Oper:=⟨some 86,.load 3 (.tmp 85),3,"tree.go:80",#[⟨13,.data⟩,⟨12,.guard⟩,⟨20,.gcOnly .lateStores⟩],some (12,Bool.true)⟩
abbrev zQJ:Oper:=⟨some 87,.binOp BinOp.leq 3 (.tmp 86) (Operand.const (Value.int IntKind.i64 30)) 3,4,"tree.go:80",#[⟨14,.data⟩,⟨12,.guard⟩,⟨20,.gcOnly .lateStores⟩],some (12,Bool.true)⟩
abbrev zQV:Oper:=⟨some 88,.pick (.tmp 84) (.tmp 87) (Operand.const (Value.bool Bool.false)),4,"tree.go:80",#[⟨12,.data⟩,⟨15,.data⟩,⟨20,.gcOnly .lateStores⟩],none⟩
abbrev zQQ:Oper:=⟨none,.store 9 (.tmp 89) (.tmp 73),0,"tree.go:80",#[⟨17,.data⟩,⟨1,.data⟩,⟨12,.chain⟩,⟨0,.phase⟩,⟨1,.phase⟩,⟨2,.textOnly .lateStores⟩,⟨3,.textOnly .lateStores⟩,⟨4,.textOnly .lateStores⟩,⟨5,.textOnly .lateStores⟩,⟨6,.textOnly .lateStoresUnsure⟩,⟨7,.textOnly .lateStores⟩,⟨8,.textOnly .lateStores⟩,⟨9,.textOnly .lateStores⟩,⟨10,.textOnly .lateStores⟩,⟨11,.textOnly .lateStores⟩,⟨12,.textOnly .lateStores⟩,⟨13,.textOnly .lateStores⟩,⟨14,.textOnly .lateStores⟩,⟨15,.textOnly .lateStores⟩,⟨16,.textOnly .lateStores⟩],none⟩
abbrev zOJ:Oper:=⟨some 90,.fieldAddr 35 (.tmp 3) 4,0,"tree.go:80",#[⟨0,.phase⟩,⟨1,.phase⟩,⟨2,.phase⟩,⟨3,.phase⟩,⟨4,.textOnly .lateStores⟩,⟨5,.textOnly .lateStores⟩,⟨6,.textOnly .lateStoresUnsure⟩,⟨7,.textOnly .lateStores⟩,⟨8,.textOnly .lateStores⟩,⟨9,.textOnly .lateStores⟩,⟨10,.textOnly .lateStores⟩,⟨11,.textOnly .lateStores⟩,⟨12,.textOnly .lateStores⟩,⟨13,.textOnly .lateStores⟩,⟨14,.textOnly .lateStores⟩,⟨15,.textOnly .lateStores⟩,⟨16,.textOnly .lateStores⟩,⟨17,.phase⟩,⟨18,.phase⟩],none⟩
abbrev zNs:Oper:=⟨none,.store 3 (.tmp 90) (.tmp 75),0,"tree.go:80",#[⟨19,.data⟩,⟨3,.data⟩,⟨18,.chain⟩,⟨0,.phase⟩,⟨1,.phase⟩,⟨2,.phase⟩,⟨3,.phase⟩,⟨4,.textOnly .lateStores⟩,⟨5,.textOnly .lateStores⟩,⟨6,.textOnly .lateStoresUnsure⟩,⟨7,.textOnly .lateStores⟩,⟨8,.textOnly .lateStores⟩,⟨9,.textOnly .lateStores⟩,⟨10,.textOnly .lateStores⟩,⟨11,.textOnly .lateStores⟩,⟨12,.textOnly .lateStores⟩,⟨13,.textOnly .lateStores⟩,⟨14,.textOnly .lateStores⟩,⟨15,.textOnly .lateStores⟩,⟨16,.textOnly .lateStores⟩,⟨17,.phase⟩,⟨18,.phase⟩],none⟩
abbrev zOE:Oper:=⟨some 4,.assign (.tmp 88),4,"tree.go:80",#[⟨16,.data⟩,⟨20,.chain⟩,⟨0,.phase⟩,⟨1,.phase⟩,⟨2,.phase⟩,⟨3,.phase⟩,⟨4,.phase⟩,⟨5,.phase⟩,⟨6,.phase⟩,⟨7,.phase⟩,⟨8,.phase⟩,⟨9,.phase⟩,⟨10,.phase⟩,⟨11,.phase⟩,⟨12,.phase⟩,⟨13,.phase⟩,⟨14,.phase⟩,⟨15,.phase⟩,⟨16,.phase⟩,⟨17,.phase⟩,⟨18,.phase⟩,⟨19,.phase⟩,⟨20,.phase⟩],none⟩
open Go.RowKit
set_option linter.unusedVariables false
abbrev zPw (ka kb:Nat) (x:Wt.Nd) (W:World):Prop :=
 W.cell? ⟨ka,8,none⟩=some (.string x.nm)/\W.cell? ⟨ka,9,none⟩=some (.int .i64 x.ar)/\W.frozen? ⟨kb,8,none⟩=false/\W.frozen? ⟨kb,9,none⟩=false
theorem zBa {y:Wt.Nd} (h0:AtL W ka (zAO x)) (h1:AtL W kb (zAO y)):zPw ka kb x W :=
 ⟨h0.2.1 8 _ rfl,h0.2.1 9 _ rfl,h1.2.2 8 (by show 8<20;decide),h1.2.2 9 (by show 9<20;decide)⟩
theorem zAx (h:zPw ka kb x W) (hne:kb ≠ ka) (j:Nat) (u:Value):zPw ka kb x (W.setCell ⟨kb,j,none⟩ u):=by
 obtain ⟨h8,h9,g8,g9⟩:=h;refine ⟨?_,?_,?_,?_⟩;any_goals rw [World.cell?_setCell_far _ _ _ _ (by simpa using hne)];assumption
 all_goals rw [World.frozen?_setCell];assumption
theorem zKC (x:Wt.Nd) (w:World) (hk:x.k=6) (hs:x.nm.size<=9223372036854775807) :
  CR 75 #[ndV x] w (.bool ((Wt.fnNm x.nm && decide (0<=x.ar) && decide (x.ar<=30)) && eqN x ⟨6,Wt.v0,0,x.nm,x.ar,Wt.r0,Wt.r0⟩)):=by
 have C:∀ w:World,CR 113 #[.string x.nm] w (.bool (Wt.fnNm x.nm)):=λw=>(zMV x.nm w hs).mono λe w' h=>⟨h.1,h.2 ▸ Below.refl _ _⟩
 have hq:∀ w:World,(binOp .eql 35 (.agg (zAO x).toArray) (.agg (zAO ⟨6,Wt.v0,0,x.nm,x.ar,Wt.r0,Wt.r0⟩).toArray)).run prog w=.ok (.bool (eqN x ⟨6,Wt.v0,0,x.nm,x.ar,Wt.r0,Wt.r0⟩)) w:=λw=>zCg x ⟨6,Wt.v0,0,x.nm,x.ar,Wt.r0,Wt.r0⟩ w
 generalize eqN x ⟨6,Wt.v0,0,x.nm,x.ar,Wt.r0,Wt.r0⟩=R at *;generalize Wt.fnNm x.nm=q at *;have pA0:AtL (two w x) w.heap.size (zAO x):=(AtL.new0 w _ _).alloc _;have pO0:AtL (two w x) (w.heap.size+1) (zAO (bare 0)):=AtL.new1 w _ _ _;have hth:World.there (two w x) (w.heap.size+1) 0 (zAO (bare 6)).toArray.size:=pO0.there;have hne:w.heap.size+1 ≠ w.heap.size:=by omega
 have pA:=pA0.farAll hne 0 (zAO (bare 6));have pO:AtL ((two w x).setCells (w.heap.size+1) 0 (zAO (bare 6))) (w.heap.size+1) (zAO (bare 6)):=pO0.setAll rfl;have hBa:Below w.heap.size w ((two w x).setCells (w.heap.size+1) 0 (zAO (bare 6))):=zAb (zAJ (zAJ (Below.refl _ w) _) _) (Nat.le_succ _) _ 0;clear pA0 pO0;have n0:(zAO x)[0]? = some (.int .i64 6):=by rw [<-hk];rfl
 have a0:World.cell? ((two w x).setCells (w.heap.size+1) 0 (zAO (bare 6))) ⟨w.heap.size,0,none⟩=some (.int .i64 6):=pA.2.1 0 _ n0;show Calls _ _ #[.agg (zAO x).toArray] _ _
 go_enter func75,ntmps75;go_upto_region 1 with fail
 go_upto_region 2 with ((with_reducible refine wpList_store_mid ?_ 35 (.tmp 3) (.tmp 9) ?_ (w.heap.size+1) 0 (zAO (bare 6)).toArray ?_ ?_ ?_ ?_ ?_ ?_);rfl;rfl;rfl;rfl;exact hth;kernel_rfl;exact zDR _)
 generalize (two w x).setCells (w.heap.size+1) 0 (zAO (bare 6))=W0 at *;clear hth;go_upto_region 14 with fail
 refine wp_region_held_drew (S:=zPw w.heap.size (w.heap.size+1) x) (by kernel_rfl) (zBa (AtL.drew pA) (AtL.drew pO)) (λhHeld=>?_);refine tkQ 0 ⟨some 72,.fieldAddr 35 (.tmp 1) 3,0,"tree.go:80",#[],none⟩ ?_
 refine tkQ 1 ⟨some 73,.load 9 (.tmp 72),9,"tree.go:80",#[⟨0,.data⟩],none⟩ ?_
 refine tkQ 2 ⟨some 74,.fieldAddr 35 (.tmp 1) 4,0,"tree.go:80",#[⟨18,.gcOnly .lateStores⟩],none⟩ ?_
 refine tkQ 3 ⟨some 75,.load 3 (.tmp 74),3,"tree.go:80",#[⟨2,.data⟩,⟨18,.gcOnly .lateStores⟩],none⟩ ?_
 refine tkQ 4 ⟨some 76,.fieldAddr 35 (.tmp 1) 3,0,"tree.go:80",#[],none⟩ ?_
 refine tkQ 5 ⟨some 77,.load 9 (.tmp 76),9,"tree.go:80",#[⟨4,.data⟩],none⟩ ?_
 refine tkQ 17 ⟨some 89,.fieldAddr 35 (.tmp 3) 3,0,"tree.go:80",#[⟨0,.phase⟩,⟨1,.phase⟩,⟨2,.textOnly .lateStores⟩,⟨3,.textOnly .lateStores⟩,⟨4,.textOnly .lateStores⟩,⟨5,.textOnly .lateStores⟩,⟨6,.textOnly .lateStoresUnsure⟩,⟨7,.textOnly .lateStores⟩,⟨8,.textOnly .lateStores⟩,⟨9,.textOnly .lateStores⟩,⟨10,.textOnly .lateStores⟩,⟨11,.textOnly .lateStores⟩,⟨12,.textOnly .lateStores⟩,⟨13,.textOnly .lateStores⟩,⟨14,.textOnly .lateStores⟩,⟨15,.textOnly .lateStores⟩,⟨16,.textOnly .lateStores⟩],none⟩ ?_
 refine rdQ 6 ⟨some 78,.call {callee:=Callee.value (Operand.func 113),args:=#[.tmp 77],argTypes:=#[9]},4,"tree.go:80",#[⟨5,.data⟩],none⟩ (λK hK=>?_);go_simp
 refine (C _).mono ?_;rintro e w1 ⟨rfl,hb⟩;have pA1:=AtL.below hb (AtL.drew pA);have pO1:=AtL.below hb (AtL.drew pO);have hB1:=zAB hBa.drew hb;clear hb;go_wp2_with fail
 refine hkQ hK (zBa pA1 pO1) (λhHeld=>?_);clear hK K
 refine tkQ 7 ⟨some 79,.move (.tmp 78),4,"tree.go:80",#[⟨6,.data⟩,⟨6,.chain⟩],none⟩ ?_
 cases q
 ·refine tnQ 8 zRM ?_
  refine tnQ 9 zRP ?_
  refine tnQ 10 zRH ?_
  refine tkQ 11 zQM ?_
  refine tkQ 12 zQL ?_
  refine tnQ 13 zQb ?_
  refine tnQ 14 zQa ?_
  refine tnQ 15 zQJ ?_
  refine tkQ 16 zQV ?_
  refine rdQ 18 zQQ (λK hK=>?_);have o8:=pO1.2.1 8 _ rfl;have o9:=pO1.2.1 9 _ rfl;obtain ⟨_,_,g8,g9⟩:=hHeld;go_simp
  refine hkQ hK ((zAx (zBa pA1 pO1) (by omega) _ _)) (λhHeld=>?_);clear hK K
  refine tkQ 19 zOJ ?_
  refine rdQ 20 zNs (λK hK=>?_);clear o8 o9 g8 g9;have o8:=(pO1.set 8 (.string x.nm)).2.1 8 _ rfl;have o9:=(pO1.set 8 (.string x.nm)).2.1 9 _ rfl;obtain ⟨_,_,g8,g9⟩:=hHeld;go_simp
  refine hkQ hK ((zAx (zAx (zBa pA1 pO1) (by omega) _ _) (by omega) _ _)) (λhHeld=>?_);clear hK K
  refine rdQ 21 zOE (λK hK=>?_);go_simp
  refine hkQ hK (by assumption) (λhHeld=>?_);clear hK K
  refine wpAnyH_done (by kernel_rfl) ?_ _;clear o8 o9 g8 g9;have pA2:AtL ((w1.setCell ⟨w.heap.size+1,8,none⟩ (.string x.nm)).setCell ⟨w.heap.size+1,9,none⟩ (.int .i64 x.ar)) w.heap.size (zAO x):=((pA1.far hne 8 (.string x.nm)).far hne 9 (.int .i64 x.ar))
  have pO2:AtL ((w1.setCell ⟨w.heap.size+1,8,none⟩ (.string x.nm)).setCell ⟨w.heap.size+1,9,none⟩ (.int .i64 x.ar)) (w.heap.size+1) (zAO ⟨6,Wt.v0,0,x.nm,x.ar,Wt.r0,Wt.r0⟩):=((pO1.set 8 (.string x.nm)).set 9 (.int .i64 x.ar))
  have hB2:Below w.heap.size w ((w1.setCell ⟨w.heap.size+1,8,none⟩ (.string x.nm)).setCell ⟨w.heap.size+1,9,none⟩ (.int .i64 x.ar)):=(clB hB1)
  clear pA1 pO1 hB1;generalize ((w1.setCell ⟨w.heap.size+1,8,none⟩ (.string x.nm)).setCell ⟨w.heap.size+1,9,none⟩ (.int .i64 x.ar))=W2 at *;have rA:=pA2.range;have rO:=pO2.range;clear pA2 pO2;go_wp2_with (first | ((with_reducible refine zAA ?_ 35 (.tmp 1) ?_ w.heap.size 0 ?_ (zAO x) _ ?_ underlying35 ?_ ?_ ?_);rfl;rfl;rfl;exact rA;rfl;kernel_rfl) | ((with_reducible refine zAA ?_ 35 (.tmp 3) ?_ (w.heap.size+1) 0 ?_ (zAO ⟨6,Wt.v0,0,x.nm,x.ar,Wt.r0,Wt.r0⟩) _ ?_ underlying35 ?_ ?_ ?_);rfl;rfl;rfl;exact rO;rfl;kernel_rfl))
  go_wp2;go_ret;exact ⟨by simp,hB2⟩
 refine tkQ 8 zRM ?_
 refine tkQ 9 zRP ?_
 refine tkQ 10 zRH ?_
 by_cases h0:0<=x.ar
 ·by_cases h3:x.ar<=30
  all_goals
   refine tkQ 11 zQM ?_
   refine tkQ 12 zQL ?_
   refine tkQ 13 zQb ?_
   refine tkQ 14 zQa ?_
   refine tkQ 15 zQJ ?_
   refine tkQ 16 zQV ?_
   refine rdQ 18 zQQ (λK hK=>?_);have o8:=pO1.2.1 8 _ rfl;have o9:=pO1.2.1 9 _ rfl;obtain ⟨_,_,g8,g9⟩:=hHeld;go_simp
   refine hkQ hK ((zAx (zBa pA1 pO1) (by omega) _ _)) (λhHeld=>?_);clear hK K
   refine tkQ 19 zOJ ?_
   refine rdQ 20 zNs (λK hK=>?_);clear o8 o9 g8 g9;have o8:=(pO1.set 8 (.string x.nm)).2.1 8 _ rfl;have o9:=(pO1.set 8 (.string x.nm)).2.1 9 _ rfl;obtain ⟨_,_,g8,g9⟩:=hHeld;go_simp
   refine hkQ hK ((zAx (zAx (zBa pA1 pO1) (by omega) _ _) (by omega) _ _)) (λhHeld=>?_);clear hK K
   refine rdQ 21 zOE (λK hK=>?_);go_simp
   refine hkQ hK (by assumption) (λhHeld=>?_);clear hK K
   refine wpAnyH_done (by kernel_rfl) ?_ _;clear o8 o9 g8 g9;have pA2:AtL ((w1.setCell ⟨w.heap.size+1,8,none⟩ (.string x.nm)).setCell ⟨w.heap.size+1,9,none⟩ (.int .i64 x.ar)) w.heap.size (zAO x):=((pA1.far hne 8 (.string x.nm)).far hne 9 (.int .i64 x.ar))
   have pO2:AtL ((w1.setCell ⟨w.heap.size+1,8,none⟩ (.string x.nm)).setCell ⟨w.heap.size+1,9,none⟩ (.int .i64 x.ar)) (w.heap.size+1) (zAO ⟨6,Wt.v0,0,x.nm,x.ar,Wt.r0,Wt.r0⟩):=((pO1.set 8 (.string x.nm)).set 9 (.int .i64 x.ar))
   have hB2:Below w.heap.size w ((w1.setCell ⟨w.heap.size+1,8,none⟩ (.string x.nm)).setCell ⟨w.heap.size+1,9,none⟩ (.int .i64 x.ar)):=(clB hB1)
   clear pA1 pO1 hB1;generalize ((w1.setCell ⟨w.heap.size+1,8,none⟩ (.string x.nm)).setCell ⟨w.heap.size+1,9,none⟩ (.int .i64 x.ar))=W2 at *;have rA:=pA2.range;have rO:=pO2.range;clear pA2 pO2;go_wp2_with (first | ((with_reducible refine zAA ?_ 35 (.tmp 1) ?_ w.heap.size 0 ?_ (zAO x) _ ?_ underlying35 ?_ ?_ ?_);rfl;rfl;rfl;exact rA;rfl;kernel_rfl) | ((with_reducible refine zAA ?_ 35 (.tmp 3) ?_ (w.heap.size+1) 0 ?_ (zAO ⟨6,Wt.v0,0,x.nm,x.ar,Wt.r0,Wt.r0⟩) _ ?_ underlying35 ?_ ?_ ?_);rfl;rfl;rfl;exact rO;rfl;kernel_rfl))
   go_wp2;go_ret;exact ⟨by first | (simp;done) | (simp;omega) | (simp [h0,h3];done) | (simp [h0];omega),hB2⟩
 ·have hd0:decide (0<=x.ar)=false:=decide_eq_false h0;refine tkQ 11 zQM ?_
  refine tkQ 12 zQL ?_
  refine tnQ 13 zQb ?_
  refine tnQ 14 zQa ?_
  refine tnQ 15 zQJ ?_
  refine tkQ 16 zQV ?_
  refine rdQ 18 zQQ (λK hK=>?_);have o8:=pO1.2.1 8 _ rfl;have o9:=pO1.2.1 9 _ rfl;obtain ⟨_,_,g8,g9⟩:=hHeld;go_simp
  refine hkQ hK ((zAx (zBa pA1 pO1) (by omega) _ _)) (λhHeld=>?_);clear hK K
  refine tkQ 19 zOJ ?_
  refine rdQ 20 zNs (λK hK=>?_);clear o8 o9 g8 g9;have o8:=(pO1.set 8 (.string x.nm)).2.1 8 _ rfl;have o9:=(pO1.set 8 (.string x.nm)).2.1 9 _ rfl;obtain ⟨_,_,g8,g9⟩:=hHeld;go_simp
  refine hkQ hK ((zAx (zAx (zBa pA1 pO1) (by omega) _ _) (by omega) _ _)) (λhHeld=>?_);clear hK K
  refine rdQ 21 zOE (λK hK=>?_);go_simp
  refine hkQ hK (by assumption) (λhHeld=>?_);clear hK K
  refine wpAnyH_done (by kernel_rfl) ?_ _;clear o8 o9 g8 g9;have pA2:AtL ((w1.setCell ⟨w.heap.size+1,8,none⟩ (.string x.nm)).setCell ⟨w.heap.size+1,9,none⟩ (.int .i64 x.ar)) w.heap.size (zAO x):=((pA1.far hne 8 (.string x.nm)).far hne 9 (.int .i64 x.ar))
  have pO2:AtL ((w1.setCell ⟨w.heap.size+1,8,none⟩ (.string x.nm)).setCell ⟨w.heap.size+1,9,none⟩ (.int .i64 x.ar)) (w.heap.size+1) (zAO ⟨6,Wt.v0,0,x.nm,x.ar,Wt.r0,Wt.r0⟩):=((pO1.set 8 (.string x.nm)).set 9 (.int .i64 x.ar))
  have hB2:Below w.heap.size w ((w1.setCell ⟨w.heap.size+1,8,none⟩ (.string x.nm)).setCell ⟨w.heap.size+1,9,none⟩ (.int .i64 x.ar)):=(clB hB1)
  clear pA1 pO1 hB1;generalize ((w1.setCell ⟨w.heap.size+1,8,none⟩ (.string x.nm)).setCell ⟨w.heap.size+1,9,none⟩ (.int .i64 x.ar))=W2 at *;have rA:=pA2.range;have rO:=pO2.range;clear pA2 pO2;go_wp2_with (first | ((with_reducible refine zAA ?_ 35 (.tmp 1) ?_ w.heap.size 0 ?_ (zAO x) _ ?_ underlying35 ?_ ?_ ?_);rfl;rfl;rfl;exact rA;rfl;kernel_rfl) | ((with_reducible refine zAA ?_ 35 (.tmp 3) ?_ (w.heap.size+1) 0 ?_ (zAO ⟨6,Wt.v0,0,x.nm,x.ar,Wt.r0,Wt.r0⟩) _ ?_ underlying35 ?_ ?_ ?_);rfl;rfl;rfl;exact rO;rfl;kernel_rfl))
  go_wp2;go_ret;exact ⟨by simp,hB2⟩
