/- KWalkT. -/
import Derived.Test.YtoddeobfajlafaaGreatDoorQ17
set_option maxHeartbeats 4000000
set_option maxRecDepth 100000
namespace Go.Proofs.YtoddeobfajlafaaGreatDoor
open Tryz
variable {ka kb:Nat} {x y:Wc.In} {tv tu:Value} {W:World}
abbrev zN3:Oper:=⟨some 28,.fieldAddr 56 (.tmp 1) 1,0,"right.go:37",#[],none⟩
abbrev zN7:Oper:=⟨some 29,.load 3 (.tmp 28),3,"right.go:37",#[⟨0,.data⟩],none⟩
abbrev zNc:Oper:=⟨some 30,.fieldAddr 56 (.tmp 1) 1,0,"right.go:37",#[],none⟩
abbrev zNC:Oper:=⟨some 31,.load 3 (.tmp 30),3,"right.go:37",#[⟨2,.data⟩],none⟩
abbrev zNZ:Oper:=⟨some 32,.binOp BinOp.geq 3 (.tmp 31) (Operand.const (Value.int IntKind.i64 1)) 3,4,"right.go:37",#[⟨3,.data⟩],none⟩
abbrev zNl:Oper:=⟨some 33,.move (.tmp 32),4,"right.go:37",#[⟨4,.data⟩],none⟩
abbrev zMa:Oper:=⟨some 34,.fieldAddr 56 (.tmp 1) 1,0,"right.go:37",#[⟨5,.guard⟩,⟨11,.gcOnly .lateStores⟩],some (5,Bool.true)⟩
abbrev zNF:Oper:=⟨some 35,.load 3 (.tmp 34),3,"right.go:37",#[⟨6,.data⟩,⟨5,.guard⟩,⟨11,.gcOnly .lateStores⟩],some (5,Bool.true)⟩
abbrev zMB:Oper:=⟨some 36,.binOp BinOp.leq 3 (.tmp 35) (Operand.const (Value.int IntKind.i64 3)) 3,4,"right.go:37",#[⟨7,.data⟩,⟨5,.guard⟩,⟨11,.gcOnly .lateStores⟩],some (5,Bool.true)⟩
abbrev zMj:Oper:=⟨some 37,.pick (.tmp 33) (.tmp 36) (Operand.const (Value.bool Bool.false)),4,"right.go:37",#[⟨5,.data⟩,⟨8,.data⟩,⟨11,.gcOnly .lateStores⟩],none⟩
abbrev zHR:Oper:=⟨some 38,.fieldAddr 56 (.tmp 3) 1,0,"right.go:37",#[⟨0,.phase⟩,⟨1,.phase⟩,⟨2,.textOnly .lateStores⟩,⟨3,.textOnly .lateStores⟩,⟨4,.textOnly .lateStores⟩,⟨5,.textOnly .lateStores⟩,⟨6,.textOnly .lateStores⟩,⟨7,.textOnly .lateStores⟩,⟨8,.textOnly .lateStores⟩,⟨9,.textOnly .lateStores⟩],none⟩
abbrev zIS:Oper:=⟨none,.store 3 (.tmp 38) (.tmp 29),0,"right.go:37",#[⟨10,.data⟩,⟨1,.data⟩,⟨5,.chain⟩,⟨0,.phase⟩,⟨1,.phase⟩,⟨2,.textOnly .lateStores⟩,⟨3,.textOnly .lateStores⟩,⟨4,.textOnly .lateStores⟩,⟨5,.textOnly .lateStores⟩,⟨6,.textOnly .lateStores⟩,⟨7,.textOnly .lateStores⟩,⟨8,.textOnly .lateStores⟩,⟨9,.textOnly .lateStores⟩],none⟩
abbrev zIX:Oper:=⟨some 4,.assign (.tmp 37),4,"right.go:37",#[⟨9,.data⟩,⟨11,.chain⟩,⟨0,.phase⟩,⟨1,.phase⟩,⟨2,.phase⟩,⟨3,.phase⟩,⟨4,.phase⟩,⟨5,.phase⟩,⟨6,.phase⟩,⟨7,.phase⟩,⟨8,.phase⟩,⟨9,.phase⟩,⟨10,.phase⟩,⟨11,.phase⟩],none⟩
abbrev zDX:Oper:=⟨some 41,.fieldAddr 56 (.tmp 1) 1,0,"right.go:39",#[],none⟩
abbrev zDx:Oper:=⟨some 42,.load 3 (.tmp 41),3,"right.go:39",#[⟨0,.data⟩],none⟩
abbrev zDi:Oper:=⟨some 43,.fieldAddr 56 (.tmp 1) 1,0,"right.go:39",#[],none⟩
abbrev zD4:Oper:=⟨some 44,.load 3 (.tmp 43),3,"right.go:39",#[⟨2,.data⟩],none⟩
abbrev zEG:Oper:=⟨some 45,.binOp BinOp.geq 3 (.tmp 44) (Operand.const (Value.int IntKind.i64 11)) 3,4,"right.go:39",#[⟨3,.data⟩],none⟩
abbrev zDY:Oper:=⟨some 46,.move (.tmp 45),4,"right.go:39",#[⟨4,.data⟩],none⟩
abbrev zDh:Oper:=⟨some 47,.fieldAddr 56 (.tmp 1) 1,0,"right.go:39",#[⟨5,.guard⟩],some (5,Bool.true)⟩
abbrev zDy:Oper:=⟨some 48,.load 3 (.tmp 47),3,"right.go:39",#[⟨6,.data⟩,⟨5,.guard⟩],some (5,Bool.true)⟩
abbrev zDn:Oper:=⟨some 49,.binOp BinOp.leq 3 (.tmp 48) (Operand.const (Value.int IntKind.i64 16)) 3,4,"right.go:39",#[⟨7,.data⟩,⟨5,.guard⟩],some (5,Bool.true)⟩
abbrev zEJ:Oper:=⟨some 50,.pick (.tmp 46) (.tmp 49) (Operand.const (Value.bool Bool.false)),4,"right.go:39",#[⟨5,.data⟩,⟨8,.data⟩],none⟩
abbrev zDq:Oper:=⟨some 51,.move (.tmp 50),4,"right.go:39",#[⟨9,.data⟩,⟨5,.chain⟩],none⟩
abbrev zED:Oper:=⟨some 52,.fieldAddr 56 (.tmp 1) 1,0,"right.go:39",#[⟨10,.guard⟩],some (10,Bool.false)⟩
abbrev zEC:Oper:=⟨some 53,.load 3 (.tmp 52),3,"right.go:39",#[⟨11,.data⟩,⟨10,.guard⟩],some (10,Bool.false)⟩
abbrev zEA:Oper:=⟨some 54,.binOp BinOp.geq 3 (.tmp 53) (Operand.const (Value.int IntKind.i64 21)) 3,4,"right.go:39",#[⟨12,.data⟩,⟨10,.guard⟩],some (10,Bool.false)⟩
abbrev zEQ:Oper:=⟨some 55,.move (.tmp 54),4,"right.go:39",#[⟨13,.data⟩,⟨10,.chain⟩,⟨10,.guard⟩],some (10,Bool.false)⟩
abbrev zEM:Oper:=⟨some 56,.fieldAddr 56 (.tmp 1) 1,0,"right.go:39",#[⟨14,.guard⟩,⟨21,.gcOnly .lateStores⟩],some (14,Bool.true)⟩
abbrev zDv:Oper:=⟨some 57,.load 3 (.tmp 56),3,"right.go:39",#[⟨15,.data⟩,⟨14,.guard⟩,⟨21,.gcOnly .lateStores⟩],some (14,Bool.true)⟩
abbrev zEL:Oper:=⟨some 58,.binOp BinOp.leq 3 (.tmp 57) (Operand.const (Value.int IntKind.i64 26)) 3,4,"right.go:39",#[⟨16,.data⟩,⟨14,.guard⟩,⟨21,.gcOnly .lateStores⟩],some (14,Bool.true)⟩
abbrev zDr:Oper:=⟨some 59,.pick (.tmp 55) (.tmp 58) (Operand.const (Value.bool Bool.false)),4,"right.go:39",#[⟨14,.data⟩,⟨17,.data⟩,⟨10,.guard⟩,⟨21,.gcOnly .lateStores⟩],some (10,Bool.false)⟩
abbrev zD8:Oper:=⟨some 60,.pick (.tmp 51) (Operand.const (Value.bool Bool.true)) (.tmp 59),4,"right.go:39",#[⟨10,.data⟩,⟨18,.data⟩,⟨21,.gcOnly .lateStores⟩],none⟩
abbrev zDe:Oper:=⟨some 61,.fieldAddr 56 (.tmp 3) 1,0,"right.go:39",#[⟨0,.phase⟩,⟨1,.phase⟩,⟨2,.textOnly .lateStores⟩,⟨3,.textOnly .lateStores⟩,⟨4,.textOnly .lateStores⟩,⟨5,.textOnly .lateStores⟩,⟨6,.textOnly .lateStores⟩,⟨7,.textOnly .lateStores⟩,⟨8,.textOnly .lateStores⟩,⟨9,.textOnly .lateStores⟩,⟨10,.textOnly .lateStores⟩,⟨11,.textOnly .lateStores⟩,⟨12,.textOnly .lateStores⟩,⟨13,.textOnly .lateStores⟩,⟨14,.textOnly .lateStores⟩,⟨15,.textOnly .lateStores⟩,⟨16,.textOnly .lateStores⟩,⟨17,.textOnly .lateStores⟩,⟨18,.textOnly .lateStores⟩,⟨19,.textOnly .lateStores⟩],none⟩
abbrev zDw:Oper:=⟨none,.store 3 (.tmp 61) (.tmp 42),0,"right.go:39",#[⟨20,.data⟩,⟨1,.data⟩,⟨14,.chain⟩,⟨0,.phase⟩,⟨1,.phase⟩,⟨2,.textOnly .lateStores⟩,⟨3,.textOnly .lateStores⟩,⟨4,.textOnly .lateStores⟩,⟨5,.textOnly .lateStores⟩,⟨6,.textOnly .lateStores⟩,⟨7,.textOnly .lateStores⟩,⟨8,.textOnly .lateStores⟩,⟨9,.textOnly .lateStores⟩,⟨10,.textOnly .lateStores⟩,⟨11,.textOnly .lateStores⟩,⟨12,.textOnly .lateStores⟩,⟨13,.textOnly .lateStores⟩,⟨14,.textOnly .lateStores⟩,⟨15,.textOnly .lateStores⟩,⟨16,.textOnly .lateStores⟩,⟨17,.textOnly .lateStores⟩,⟨18,.textOnly .lateStores⟩,⟨19,.textOnly .lateStores⟩],none⟩
abbrev zER:Oper:=⟨some 4,.assign (.tmp 60),4,"right.go:39",#[⟨19,.data⟩,⟨21,.chain⟩,⟨0,.phase⟩,⟨1,.phase⟩,⟨2,.phase⟩,⟨3,.phase⟩,⟨4,.phase⟩,⟨5,.phase⟩,⟨6,.phase⟩,⟨7,.phase⟩,⟨8,.phase⟩,⟨9,.phase⟩,⟨10,.phase⟩,⟨11,.phase⟩,⟨12,.phase⟩,⟨13,.phase⟩,⟨14,.phase⟩,⟨15,.phase⟩,⟨16,.phase⟩,⟨17,.phase⟩,⟨18,.phase⟩,⟨19,.phase⟩,⟨20,.phase⟩,⟨21,.phase⟩],none⟩
open Go.RowKit
set_option linter.unusedVariables false
abbrev zMw (ka kb:Nat) (x:Wc.In) (tv:Value) (W:World):Prop :=
 W.cell? ⟨ka,1,none⟩=some (.int .i64 x.a)/\W.frozen? ⟨kb,1,none⟩=false
theorem zBo (h0:AtL W ka (zAD x tv)) (h1:AtL W kb (zAD y tu)):zMw ka kb x tv W :=
 ⟨h0.2.1 1 _ rfl,h1.2.2 1 (by show 1<23;decide)⟩
theorem zDP (h:zMw ka kb x tv W) (hne:kb ≠ ka) (j:Nat) (u:Value):zMw ka kb x tv (W.setCell ⟨kb,j,none⟩ u):=by
 obtain ⟨h1,g1⟩:=h;refine ⟨?_,?_⟩;any_goals rw [World.cell?_setCell_far _ _ _ _ (by simpa using hne)];assumption
 all_goals rw [World.frozen?_setCell];assumption
theorem zJ4 (x:Wc.In) (av:Option Addr) (n c:Nat) (tl:List Int) (w:World) (hk:x.op=3) (hz:RdZ w (.slice av n c) tl) (hl:tl.length<=1000000) :
  CR 61 #[inV x (.slice av n c)] w (.bool ((decide (1<=x.a) && decide (x.a<=3)) && (smI x ⟨3,x.a,0,v0I,c0I,a0I,a0I⟩ && decide (tl=[])))):=by
 have CS:∀ w',Below w.heap.size w w'->Calls prog 97 #[.agg (zAD x (.slice av n c)).toArray,.agg (zAD ⟨3,x.a,0,v0I,c0I,a0I,a0I⟩ zAG).toArray] w' λe w''=>e=.returned (.bool (smI x ⟨3,x.a,0,v0I,c0I,a0I,a0I⟩ && decide (tl=[])))/\Below w'.heap.size w' w'':=λw' hb=>zA3 x ⟨3,x.a,0,v0I,c0I,a0I,a0I⟩ _ _ tl [] w' (hz.below hb) (RdZ.nil _) hl (by first | exact hl | simp)
 generalize (smI x ⟨3,x.a,0,v0I,c0I,a0I,a0I⟩ && decide (tl=[]))=R at *;obtain ⟨tv,htv⟩:∃ tv,Value.slice av n c=tv:=⟨_,rfl⟩
 rw [htv] at CS ⊢;have pA0:AtL (zAK w x tv) w.heap.size (zAD x tv):=(AtL.new0 w _ _).alloc _;have pO0:AtL (zAK w x tv) (w.heap.size+1) (zAD (zAE 0) zAG):=AtL.new1 w _ _ _;have hth:World.there (zAK w x tv) (w.heap.size+1) 0 (zAD (zAE 3) zAG).toArray.size:=pO0.there;have hne:w.heap.size+1 ≠ w.heap.size:=by omega
 have pA:=pA0.farAll hne 0 (zAD (zAE 3) zAG);have pO:AtL ((zAK w x tv).setCells (w.heap.size+1) 0 (zAD (zAE 3) zAG)) (w.heap.size+1) (zAD (zAE 3) zAG):=pO0.setAll rfl;have hBa:Below w.heap.size w ((zAK w x tv).setCells (w.heap.size+1) 0 (zAD (zAE 3) zAG)):=zAb (zAJ (zAJ (Below.refl _ w) _) _) (Nat.le_succ _) _ 0;clear pA0 pO0;have n0:(zAD x tv)[0]? = some (.int .i64 3):=by rw [<-hk];rfl
 have a0:World.cell? ((zAK w x tv).setCells (w.heap.size+1) 0 (zAD (zAE 3) zAG)) ⟨w.heap.size,0,none⟩=some (.int .i64 3):=pA.2.1 0 _ n0;show Calls _ _ #[.agg (zAD x tv).toArray] _ _
 have hS:zMw w.heap.size (w.heap.size+1) x tv ((zAK w x tv).setCells (w.heap.size+1) 0 (zAD (zAE 3) zAG)):=zBo pA pO;clear hz hl htv;by_cases g1:1<=x.a
 ·have g1n:¬ x.a<1:=by omega
  by_cases g2:x.a<=3
  ·have g2n:¬ 3<x.a:=by omega
   have hc:(decide (1<=x.a) && decide (x.a<=3))=true:=by simp [g1,g2]
   rw [hc];go_enter func61,ntmps61;go_upto_region 1 with fail
   go_upto_region 2 with ((with_reducible refine wpList_store_mid ?_ 56 (.tmp 3) (.tmp 7) ?_ (w.heap.size+1) 0 (zAD (zAE 3) zAG).toArray ?_ ?_ ?_ ?_ ?_ ?_);rfl;rfl;rfl;rfl;exact hth;kernel_rfl;exact zA1 _ _ _ _)
   generalize (zAK w x tv).setCells (w.heap.size+1) 0 (zAD (zAE 3) zAG)=W0 at *;clear hth;go_upto_region 8 with fail
   have pA1:=AtL.drew pA;have pO1:=AtL.drew pO;have hB1:=hBa.drew;clear pA pO hBa hS;refine wp_region_held_drew (S:=zMw w.heap.size (w.heap.size+1) x tv) (by kernel_rfl) (zBo pA1 pO1) (λhHeld=>?_);generalize W0.drew=wd at *;refine tkQ 0 zN3 ?_
   refine tkQ 1 zN7 ?_
   refine tkQ 2 zNc ?_
   refine tkQ 3 zNC ?_
   refine tkQ 4 zNZ ?_
   refine tkQ 5 zNl ?_
   refine tkQ 6 zMa ?_
   refine tkQ 7 zNF ?_
   refine tkQ 8 zMB ?_
   refine tkQ 9 zMj ?_
   refine tkQ 10 zHR ?_
   refine rdQ 11 zIS (λK hK=>?_);have o1:=pO1.2.1 1 _ rfl;obtain ⟨_,g1⟩:=hHeld;go_simp
   refine hkQ hK ((zDP (zBo pA1 pO1) (by omega) _ _)) (λhHeld=>?_);clear hK K o1 g1
   have pA2:AtL (wd.setCell ⟨w.heap.size+1,1,none⟩ (.int .i64 x.a)) w.heap.size (zAD x tv):=(pA1.far hne 1 (.int .i64 x.a))
   have pO2:AtL (wd.setCell ⟨w.heap.size+1,1,none⟩ (.int .i64 x.a)) (w.heap.size+1) (zAD ⟨3,x.a,0,v0I,c0I,a0I,a0I⟩ zAG):=(pO1.set 1 (.int .i64 x.a))
   have hB2:Below w.heap.size w (wd.setCell ⟨w.heap.size+1,1,none⟩ (.int .i64 x.a)):=(clB hB1)
   clear pA1 pO1 hB1;generalize (wd.setCell ⟨w.heap.size+1,1,none⟩ (.int .i64 x.a))=ws1 at *;have pA1:=pA2;have pO1:=pO2;have hB1:=hB2;clear pA2 pO2 hB2;refine rdQ 12 zIX (λK hK=>?_);go_simp
   refine hkQ hK (by assumption) (λhHeld=>?_);clear hK K
   refine wpAnyH_done (by kernel_rfl) ?_ _;clear hHeld;have rA:=pA1.range;have rO:=pO1.range;have hB2:=hB1;clear pA1 pO1 hB1;go_wp2_with (first | ((with_reducible refine zAA ?_ 56 (.tmp 1) ?_ w.heap.size 0 ?_ (zAD x tv) _ ?_ underlying56 ?_ ?_ ?_);rfl;rfl;rfl;exact rA;rfl;kernel_rfl) | ((with_reducible refine zAA ?_ 56 (.tmp 3) ?_ (w.heap.size+1) 0 ?_ (zAD ⟨3,x.a,0,v0I,c0I,a0I,a0I⟩ zAG) _ ?_ underlying56 ?_ ?_ ?_);rfl;rfl;rfl;exact rO;rfl;kernel_rfl) | (go_at_call 97;refine (CS _ hB2).mono ?_;rintro e w3 ⟨rfl,hb3⟩;have hB3:=zAB hB2 hb3))
   go_wp2;go_ret;first
   | exact ⟨by simp,hB2⟩
   | exact ⟨by simp,hB3⟩
  ·have g2n:3<x.a:=by omega
   have hc:(decide (1<=x.a) && decide (x.a<=3))=false:=by simp [g2]
   rw [hc];go_enter func61,ntmps61;go_upto_region 1 with fail
   go_upto_region 2 with ((with_reducible refine wpList_store_mid ?_ 56 (.tmp 3) (.tmp 7) ?_ (w.heap.size+1) 0 (zAD (zAE 3) zAG).toArray ?_ ?_ ?_ ?_ ?_ ?_);rfl;rfl;rfl;rfl;exact hth;kernel_rfl;exact zA1 _ _ _ _)
   generalize (zAK w x tv).setCells (w.heap.size+1) 0 (zAD (zAE 3) zAG)=W0 at *;clear hth;go_upto_region 8 with fail
   have pA1:=AtL.drew pA;have pO1:=AtL.drew pO;have hB1:=hBa.drew;clear pA pO hBa hS;refine wp_region_held_drew (S:=zMw w.heap.size (w.heap.size+1) x tv) (by kernel_rfl) (zBo pA1 pO1) (λhHeld=>?_);generalize W0.drew=wd at *;refine tkQ 0 zN3 ?_
   refine tkQ 1 zN7 ?_
   refine tkQ 2 zNc ?_
   refine tkQ 3 zNC ?_
   refine tkQ 4 zNZ ?_
   refine tkQ 5 zNl ?_
   refine tkQ 6 zMa ?_
   refine tkQ 7 zNF ?_
   refine tkQ 8 zMB ?_
   refine tkQ 9 zMj ?_
   refine tkQ 10 zHR ?_
   refine rdQ 11 zIS (λK hK=>?_);have o1:=pO1.2.1 1 _ rfl;obtain ⟨_,g1⟩:=hHeld;go_simp
   refine hkQ hK ((zDP (zBo pA1 pO1) (by omega) _ _)) (λhHeld=>?_);clear hK K o1 g1
   have pA2:AtL (wd.setCell ⟨w.heap.size+1,1,none⟩ (.int .i64 x.a)) w.heap.size (zAD x tv):=(pA1.far hne 1 (.int .i64 x.a))
   have pO2:AtL (wd.setCell ⟨w.heap.size+1,1,none⟩ (.int .i64 x.a)) (w.heap.size+1) (zAD ⟨3,x.a,0,v0I,c0I,a0I,a0I⟩ zAG):=(pO1.set 1 (.int .i64 x.a))
   have hB2:Below w.heap.size w (wd.setCell ⟨w.heap.size+1,1,none⟩ (.int .i64 x.a)):=(clB hB1)
   clear pA1 pO1 hB1;generalize (wd.setCell ⟨w.heap.size+1,1,none⟩ (.int .i64 x.a))=ws1 at *;have pA1:=pA2;have pO1:=pO2;have hB1:=hB2;clear pA2 pO2 hB2;refine rdQ 12 zIX (λK hK=>?_);go_simp
   refine hkQ hK (by assumption) (λhHeld=>?_);clear hK K
   refine wpAnyH_done (by kernel_rfl) ?_ _;clear hHeld;have rA:=pA1.range;have rO:=pO1.range;have hB2:=hB1;clear pA1 pO1 hB1;go_wp2_with (first | ((with_reducible refine zAA ?_ 56 (.tmp 1) ?_ w.heap.size 0 ?_ (zAD x tv) _ ?_ underlying56 ?_ ?_ ?_);rfl;rfl;rfl;exact rA;rfl;kernel_rfl) | ((with_reducible refine zAA ?_ 56 (.tmp 3) ?_ (w.heap.size+1) 0 ?_ (zAD ⟨3,x.a,0,v0I,c0I,a0I,a0I⟩ zAG) _ ?_ underlying56 ?_ ?_ ?_);rfl;rfl;rfl;exact rO;rfl;kernel_rfl) | (go_at_call 97;refine (CS _ hB2).mono ?_;rintro e w3 ⟨rfl,hb3⟩;have hB3:=zAB hB2 hb3))
   go_wp2;go_ret;first
   | exact ⟨by simp,hB2⟩
   | exact ⟨by simp,hB3⟩
 ·have g1n:x.a<1:=by omega
  have hc:(decide (1<=x.a) && decide (x.a<=3))=false:=by simp [g1]
  rw [hc];go_enter func61,ntmps61;go_upto_region 1 with fail
  go_upto_region 2 with ((with_reducible refine wpList_store_mid ?_ 56 (.tmp 3) (.tmp 7) ?_ (w.heap.size+1) 0 (zAD (zAE 3) zAG).toArray ?_ ?_ ?_ ?_ ?_ ?_);rfl;rfl;rfl;rfl;exact hth;kernel_rfl;exact zA1 _ _ _ _)
  generalize (zAK w x tv).setCells (w.heap.size+1) 0 (zAD (zAE 3) zAG)=W0 at *;clear hth;go_upto_region 8 with fail
  have pA1:=AtL.drew pA;have pO1:=AtL.drew pO;have hB1:=hBa.drew;clear pA pO hBa hS;refine wp_region_held_drew (S:=zMw w.heap.size (w.heap.size+1) x tv) (by kernel_rfl) (zBo pA1 pO1) (λhHeld=>?_);generalize W0.drew=wd at *;refine tkQ 0 zN3 ?_
  refine tkQ 1 zN7 ?_
  refine tkQ 2 zNc ?_
  refine tkQ 3 zNC ?_
  refine tkQ 4 zNZ ?_
  refine tkQ 5 zNl ?_
  refine tnQ 6 zMa ?_
  refine tnQ 7 zNF ?_
  refine tnQ 8 zMB ?_
  refine tkQ 9 zMj ?_
  refine tkQ 10 zHR ?_
  refine rdQ 11 zIS (λK hK=>?_);have o1:=pO1.2.1 1 _ rfl;obtain ⟨_,g1⟩:=hHeld;go_simp
  refine hkQ hK ((zDP (zBo pA1 pO1) (by omega) _ _)) (λhHeld=>?_);clear hK K o1 g1
  have pA2:AtL (wd.setCell ⟨w.heap.size+1,1,none⟩ (.int .i64 x.a)) w.heap.size (zAD x tv):=(pA1.far hne 1 (.int .i64 x.a))
  have pO2:AtL (wd.setCell ⟨w.heap.size+1,1,none⟩ (.int .i64 x.a)) (w.heap.size+1) (zAD ⟨3,x.a,0,v0I,c0I,a0I,a0I⟩ zAG):=(pO1.set 1 (.int .i64 x.a))
  have hB2:Below w.heap.size w (wd.setCell ⟨w.heap.size+1,1,none⟩ (.int .i64 x.a)):=(clB hB1)
  clear pA1 pO1 hB1;generalize (wd.setCell ⟨w.heap.size+1,1,none⟩ (.int .i64 x.a))=ws1 at *;have pA1:=pA2;have pO1:=pO2;have hB1:=hB2;clear pA2 pO2 hB2;refine rdQ 12 zIX (λK hK=>?_);go_simp
  refine hkQ hK (by assumption) (λhHeld=>?_);clear hK K
  refine wpAnyH_done (by kernel_rfl) ?_ _;clear hHeld;have rA:=pA1.range;have rO:=pO1.range;have hB2:=hB1;clear pA1 pO1 hB1;go_wp2_with (first | ((with_reducible refine zAA ?_ 56 (.tmp 1) ?_ w.heap.size 0 ?_ (zAD x tv) _ ?_ underlying56 ?_ ?_ ?_);rfl;rfl;rfl;exact rA;rfl;kernel_rfl) | ((with_reducible refine zAA ?_ 56 (.tmp 3) ?_ (w.heap.size+1) 0 ?_ (zAD ⟨3,x.a,0,v0I,c0I,a0I,a0I⟩ zAG) _ ?_ underlying56 ?_ ?_ ?_);rfl;rfl;rfl;exact rO;rfl;kernel_rfl) | (go_at_call 97;refine (CS _ hB2).mono ?_;rintro e w3 ⟨rfl,hb3⟩;have hB3:=zAB hB2 hb3))
  go_wp2;go_ret;first
  | exact ⟨by simp,hB2⟩
  | exact ⟨by simp,hB3⟩
abbrev zJy (ka kb:Nat) (x:Wc.In) (tv:Value) (W:World):Prop :=
 W.cell? ⟨ka,1,none⟩=some (.int .i64 x.a)/\W.frozen? ⟨kb,1,none⟩=false
theorem zBD (h0:AtL W ka (zAD x tv)) (h1:AtL W kb (zAD y tu)):zJy ka kb x tv W :=
 ⟨h0.2.1 1 _ rfl,h1.2.2 1 (by show 1<23;decide)⟩
theorem zCA (h:zJy ka kb x tv W) (hne:kb ≠ ka) (j:Nat) (u:Value):zJy ka kb x tv (W.setCell ⟨kb,j,none⟩ u):=by
 obtain ⟨h1,g1⟩:=h;refine ⟨?_,?_⟩;any_goals rw [World.cell?_setCell_far _ _ _ _ (by simpa using hne)];assumption
 all_goals rw [World.frozen?_setCell];assumption
theorem zKU (x:Wc.In) (av:Option Addr) (n c:Nat) (tl:List Int) (w:World) (hk:x.op=4) (hz:RdZ w (.slice av n c) tl) (hl:tl.length<=1000000) :
  CR 61 #[inV x (.slice av n c)] w (.bool (Wt.isBin x.a && (smI x ⟨4,x.a,0,v0I,c0I,a0I,a0I⟩ && decide (tl=[])))):=by
 have CS:∀ w',Below w.heap.size w w'->Calls prog 97 #[.agg (zAD x (.slice av n c)).toArray,.agg (zAD ⟨4,x.a,0,v0I,c0I,a0I,a0I⟩ zAG).toArray] w' λe w''=>e=.returned (.bool (smI x ⟨4,x.a,0,v0I,c0I,a0I,a0I⟩ && decide (tl=[])))/\Below w'.heap.size w' w'':=λw' hb=>zA3 x ⟨4,x.a,0,v0I,c0I,a0I,a0I⟩ _ _ tl [] w' (hz.below hb) (RdZ.nil _) hl (by first | exact hl | simp)
 generalize (smI x ⟨4,x.a,0,v0I,c0I,a0I,a0I⟩ && decide (tl=[]))=R at *;obtain ⟨tv,htv⟩:∃ tv,Value.slice av n c=tv:=⟨_,rfl⟩
 rw [htv] at CS ⊢;have pA0:AtL (zAK w x tv) w.heap.size (zAD x tv):=(AtL.new0 w _ _).alloc _;have pO0:AtL (zAK w x tv) (w.heap.size+1) (zAD (zAE 0) zAG):=AtL.new1 w _ _ _;have hth:World.there (zAK w x tv) (w.heap.size+1) 0 (zAD (zAE 4) zAG).toArray.size:=pO0.there;have hne:w.heap.size+1 ≠ w.heap.size:=by omega
 have pA:=pA0.farAll hne 0 (zAD (zAE 4) zAG);have pO:AtL ((zAK w x tv).setCells (w.heap.size+1) 0 (zAD (zAE 4) zAG)) (w.heap.size+1) (zAD (zAE 4) zAG):=pO0.setAll rfl;have hBa:Below w.heap.size w ((zAK w x tv).setCells (w.heap.size+1) 0 (zAD (zAE 4) zAG)):=zAb (zAJ (zAJ (Below.refl _ w) _) _) (Nat.le_succ _) _ 0;clear pA0 pO0;have n0:(zAD x tv)[0]? = some (.int .i64 4):=by rw [<-hk];rfl
 have a0:World.cell? ((zAK w x tv).setCells (w.heap.size+1) 0 (zAD (zAE 4) zAG)) ⟨w.heap.size,0,none⟩=some (.int .i64 4):=pA.2.1 0 _ n0;show Calls _ _ #[.agg (zAD x tv).toArray] _ _
 have hS:zJy w.heap.size (w.heap.size+1) x tv ((zAK w x tv).setCells (w.heap.size+1) 0 (zAD (zAE 4) zAG)):=zBD pA pO;clear hz hl htv;by_cases g1:11<=x.a
 ·have g1n:¬ x.a<11:=by omega
  by_cases g2:x.a<=16
  ·have g2n:¬ 16<x.a:=by omega
   have hc:Wt.isBin x.a=true:=by simp only [Wt.isBin];simp;omega
   rw [hc];go_enter func61,ntmps61;go_upto_region 1 with fail
   go_upto_region 2 with ((with_reducible refine wpList_store_mid ?_ 56 (.tmp 3) (.tmp 7) ?_ (w.heap.size+1) 0 (zAD (zAE 4) zAG).toArray ?_ ?_ ?_ ?_ ?_ ?_);rfl;rfl;rfl;rfl;exact hth;kernel_rfl;exact zA1 _ _ _ _)
   generalize (zAK w x tv).setCells (w.heap.size+1) 0 (zAD (zAE 4) zAG)=W0 at *;clear hth;go_upto_region 10 with fail
   have pA1:=AtL.drew pA;have pO1:=AtL.drew pO;have hB1:=hBa.drew;clear pA pO hBa hS;refine wp_region_held_drew (S:=zJy w.heap.size (w.heap.size+1) x tv) (by kernel_rfl) (zBD pA1 pO1) (λhHeld=>?_);generalize W0.drew=wd at *;refine tkQ 0 zDX ?_
   refine tkQ 1 zDx ?_
   refine tkQ 2 zDi ?_
   refine tkQ 3 zD4 ?_
   refine tkQ 4 zEG ?_
   refine tkQ 5 zDY ?_
   refine tkQ 6 zDh ?_
   refine tkQ 7 zDy ?_
   refine tkQ 8 zDn ?_
   refine tkQ 9 zEJ ?_
   refine tkQ 10 zDq ?_
   refine tnQ 11 zED ?_
   refine tnQ 12 zEC ?_
   refine tnQ 13 zEA ?_
   refine tnQ 14 zEQ ?_
   refine tnQ 15 zEM ?_
   refine tnQ 16 zDv ?_
   refine tnQ 17 zEL ?_
   refine tnQ 18 zDr ?_
   refine tkQ 19 zD8 ?_
   refine tkQ 20 zDe ?_
   refine rdQ 21 zDw (λK hK=>?_);have o1:=pO1.2.1 1 _ rfl;obtain ⟨_,g1⟩:=hHeld;go_simp
   refine hkQ hK ((zCA (zBD pA1 pO1) (by omega) _ _)) (λhHeld=>?_);clear hK K o1 g1
   have pA2:AtL (wd.setCell ⟨w.heap.size+1,1,none⟩ (.int .i64 x.a)) w.heap.size (zAD x tv):=(pA1.far hne 1 (.int .i64 x.a))
   have pO2:AtL (wd.setCell ⟨w.heap.size+1,1,none⟩ (.int .i64 x.a)) (w.heap.size+1) (zAD ⟨4,x.a,0,v0I,c0I,a0I,a0I⟩ zAG):=(pO1.set 1 (.int .i64 x.a))
   have hB2:Below w.heap.size w (wd.setCell ⟨w.heap.size+1,1,none⟩ (.int .i64 x.a)):=(clB hB1)
   clear pA1 pO1 hB1;generalize (wd.setCell ⟨w.heap.size+1,1,none⟩ (.int .i64 x.a))=ws1 at *;have pA1:=pA2;have pO1:=pO2;have hB1:=hB2;clear pA2 pO2 hB2;refine rdQ 22 zER (λK hK=>?_);go_simp
   refine hkQ hK (by assumption) (λhHeld=>?_);clear hK K
   refine wpAnyH_done (by kernel_rfl) ?_ _;clear hHeld;have rA:=pA1.range;have rO:=pO1.range;have hB2:=hB1;clear pA1 pO1 hB1;go_wp2_with (first | ((with_reducible refine zAA ?_ 56 (.tmp 1) ?_ w.heap.size 0 ?_ (zAD x tv) _ ?_ underlying56 ?_ ?_ ?_);rfl;rfl;rfl;exact rA;rfl;kernel_rfl) | ((with_reducible refine zAA ?_ 56 (.tmp 3) ?_ (w.heap.size+1) 0 ?_ (zAD ⟨4,x.a,0,v0I,c0I,a0I,a0I⟩ zAG) _ ?_ underlying56 ?_ ?_ ?_);rfl;rfl;rfl;exact rO;rfl;kernel_rfl) | (go_at_call 97;refine (CS _ hB2).mono ?_;rintro e w3 ⟨rfl,hb3⟩;have hB3:=zAB hB2 hb3))
   go_wp2;go_ret;first
   | exact ⟨by simp,hB2⟩
   | exact ⟨by simp,hB3⟩
  ·have g2n:16<x.a:=by omega
   by_cases g3:21<=x.a
   ·have g3n:¬ x.a<21:=by omega
    by_cases g4:x.a<=26
    ·have g4n:¬ 26<x.a:=by omega
     have hc:Wt.isBin x.a=true:=by simp only [Wt.isBin];simp;omega
     rw [hc];go_enter func61,ntmps61;go_upto_region 1 with fail
     go_upto_region 2 with ((with_reducible refine wpList_store_mid ?_ 56 (.tmp 3) (.tmp 7) ?_ (w.heap.size+1) 0 (zAD (zAE 4) zAG).toArray ?_ ?_ ?_ ?_ ?_ ?_);rfl;rfl;rfl;rfl;exact hth;kernel_rfl;exact zA1 _ _ _ _)
     generalize (zAK w x tv).setCells (w.heap.size+1) 0 (zAD (zAE 4) zAG)=W0 at *;clear hth;go_upto_region 10 with fail
     have pA1:=AtL.drew pA;have pO1:=AtL.drew pO;have hB1:=hBa.drew;clear pA pO hBa hS;refine wp_region_held_drew (S:=zJy w.heap.size (w.heap.size+1) x tv) (by kernel_rfl) (zBD pA1 pO1) (λhHeld=>?_);generalize W0.drew=wd at *;refine tkQ 0 zDX ?_
     refine tkQ 1 zDx ?_
     refine tkQ 2 zDi ?_
     refine tkQ 3 zD4 ?_
     refine tkQ 4 zEG ?_
     refine tkQ 5 zDY ?_
     refine tkQ 6 zDh ?_
     refine tkQ 7 zDy ?_
     refine tkQ 8 zDn ?_
     refine tkQ 9 zEJ ?_
     refine tkQ 10 zDq ?_
     refine tkQ 11 zED ?_
     refine tkQ 12 zEC ?_
     refine tkQ 13 zEA ?_
     refine tkQ 14 zEQ ?_
     refine tkQ 15 zEM ?_
     refine tkQ 16 zDv ?_
     refine tkQ 17 zEL ?_
     refine tkQ 18 zDr ?_
     refine tkQ 19 zD8 ?_
     refine tkQ 20 zDe ?_
     refine rdQ 21 zDw (λK hK=>?_);have o1:=pO1.2.1 1 _ rfl;obtain ⟨_,g1⟩:=hHeld;go_simp
     refine hkQ hK ((zCA (zBD pA1 pO1) (by omega) _ _)) (λhHeld=>?_);clear hK K o1 g1
     have pA2:AtL (wd.setCell ⟨w.heap.size+1,1,none⟩ (.int .i64 x.a)) w.heap.size (zAD x tv):=(pA1.far hne 1 (.int .i64 x.a))
     have pO2:AtL (wd.setCell ⟨w.heap.size+1,1,none⟩ (.int .i64 x.a)) (w.heap.size+1) (zAD ⟨4,x.a,0,v0I,c0I,a0I,a0I⟩ zAG):=(pO1.set 1 (.int .i64 x.a))
     have hB2:Below w.heap.size w (wd.setCell ⟨w.heap.size+1,1,none⟩ (.int .i64 x.a)):=(clB hB1)
     clear pA1 pO1 hB1;generalize (wd.setCell ⟨w.heap.size+1,1,none⟩ (.int .i64 x.a))=ws1 at *;have pA1:=pA2;have pO1:=pO2;have hB1:=hB2;clear pA2 pO2 hB2;refine rdQ 22 zER (λK hK=>?_);go_simp
     refine hkQ hK (by assumption) (λhHeld=>?_);clear hK K
     refine wpAnyH_done (by kernel_rfl) ?_ _;clear hHeld;have rA:=pA1.range;have rO:=pO1.range;have hB2:=hB1;clear pA1 pO1 hB1;go_wp2_with (first | ((with_reducible refine zAA ?_ 56 (.tmp 1) ?_ w.heap.size 0 ?_ (zAD x tv) _ ?_ underlying56 ?_ ?_ ?_);rfl;rfl;rfl;exact rA;rfl;kernel_rfl) | ((with_reducible refine zAA ?_ 56 (.tmp 3) ?_ (w.heap.size+1) 0 ?_ (zAD ⟨4,x.a,0,v0I,c0I,a0I,a0I⟩ zAG) _ ?_ underlying56 ?_ ?_ ?_);rfl;rfl;rfl;exact rO;rfl;kernel_rfl) | (go_at_call 97;refine (CS _ hB2).mono ?_;rintro e w3 ⟨rfl,hb3⟩;have hB3:=zAB hB2 hb3))
     go_wp2;go_ret;first
     | exact ⟨by simp,hB2⟩
     | exact ⟨by simp,hB3⟩
    ·have g4n:26<x.a:=by omega
     have hc:Wt.isBin x.a=false:=by simp only [Wt.isBin];simp;omega
     rw [hc];go_enter func61,ntmps61;go_upto_region 1 with fail
     go_upto_region 2 with ((with_reducible refine wpList_store_mid ?_ 56 (.tmp 3) (.tmp 7) ?_ (w.heap.size+1) 0 (zAD (zAE 4) zAG).toArray ?_ ?_ ?_ ?_ ?_ ?_);rfl;rfl;rfl;rfl;exact hth;kernel_rfl;exact zA1 _ _ _ _)
     generalize (zAK w x tv).setCells (w.heap.size+1) 0 (zAD (zAE 4) zAG)=W0 at *;clear hth;go_upto_region 10 with fail
     have pA1:=AtL.drew pA;have pO1:=AtL.drew pO;have hB1:=hBa.drew;clear pA pO hBa hS;refine wp_region_held_drew (S:=zJy w.heap.size (w.heap.size+1) x tv) (by kernel_rfl) (zBD pA1 pO1) (λhHeld=>?_);generalize W0.drew=wd at *;refine tkQ 0 zDX ?_
     refine tkQ 1 zDx ?_
     refine tkQ 2 zDi ?_
     refine tkQ 3 zD4 ?_
     refine tkQ 4 zEG ?_
     refine tkQ 5 zDY ?_
     refine tkQ 6 zDh ?_
     refine tkQ 7 zDy ?_
     refine tkQ 8 zDn ?_
     refine tkQ 9 zEJ ?_
     refine tkQ 10 zDq ?_
     refine tkQ 11 zED ?_
     refine tkQ 12 zEC ?_
     refine tkQ 13 zEA ?_
     refine tkQ 14 zEQ ?_
     refine tkQ 15 zEM ?_
     refine tkQ 16 zDv ?_
     refine tkQ 17 zEL ?_
     refine tkQ 18 zDr ?_
     refine tkQ 19 zD8 ?_
     refine tkQ 20 zDe ?_
     refine rdQ 21 zDw (λK hK=>?_);have o1:=pO1.2.1 1 _ rfl;obtain ⟨_,g1⟩:=hHeld;go_simp
     refine hkQ hK ((zCA (zBD pA1 pO1) (by omega) _ _)) (λhHeld=>?_);clear hK K o1 g1
     have pA2:AtL (wd.setCell ⟨w.heap.size+1,1,none⟩ (.int .i64 x.a)) w.heap.size (zAD x tv):=(pA1.far hne 1 (.int .i64 x.a))
     have pO2:AtL (wd.setCell ⟨w.heap.size+1,1,none⟩ (.int .i64 x.a)) (w.heap.size+1) (zAD ⟨4,x.a,0,v0I,c0I,a0I,a0I⟩ zAG):=(pO1.set 1 (.int .i64 x.a))
     have hB2:Below w.heap.size w (wd.setCell ⟨w.heap.size+1,1,none⟩ (.int .i64 x.a)):=(clB hB1)
     clear pA1 pO1 hB1;generalize (wd.setCell ⟨w.heap.size+1,1,none⟩ (.int .i64 x.a))=ws1 at *;have pA1:=pA2;have pO1:=pO2;have hB1:=hB2;clear pA2 pO2 hB2;refine rdQ 22 zER (λK hK=>?_);go_simp
     refine hkQ hK (by assumption) (λhHeld=>?_);clear hK K
     refine wpAnyH_done (by kernel_rfl) ?_ _;clear hHeld;have rA:=pA1.range;have rO:=pO1.range;have hB2:=hB1;clear pA1 pO1 hB1;go_wp2_with (first | ((with_reducible refine zAA ?_ 56 (.tmp 1) ?_ w.heap.size 0 ?_ (zAD x tv) _ ?_ underlying56 ?_ ?_ ?_);rfl;rfl;rfl;exact rA;rfl;kernel_rfl) | ((with_reducible refine zAA ?_ 56 (.tmp 3) ?_ (w.heap.size+1) 0 ?_ (zAD ⟨4,x.a,0,v0I,c0I,a0I,a0I⟩ zAG) _ ?_ underlying56 ?_ ?_ ?_);rfl;rfl;rfl;exact rO;rfl;kernel_rfl) | (go_at_call 97;refine (CS _ hB2).mono ?_;rintro e w3 ⟨rfl,hb3⟩;have hB3:=zAB hB2 hb3))
     go_wp2;go_ret;first
     | exact ⟨by simp,hB2⟩
     | exact ⟨by simp,hB3⟩
   ·have g3n:x.a<21:=by omega
    have hc:Wt.isBin x.a=false:=by simp only [Wt.isBin];simp;omega
    rw [hc];go_enter func61,ntmps61;go_upto_region 1 with fail
    go_upto_region 2 with ((with_reducible refine wpList_store_mid ?_ 56 (.tmp 3) (.tmp 7) ?_ (w.heap.size+1) 0 (zAD (zAE 4) zAG).toArray ?_ ?_ ?_ ?_ ?_ ?_);rfl;rfl;rfl;rfl;exact hth;kernel_rfl;exact zA1 _ _ _ _)
    generalize (zAK w x tv).setCells (w.heap.size+1) 0 (zAD (zAE 4) zAG)=W0 at *;clear hth;go_upto_region 10 with fail
    have pA1:=AtL.drew pA;have pO1:=AtL.drew pO;have hB1:=hBa.drew;clear pA pO hBa hS;refine wp_region_held_drew (S:=zJy w.heap.size (w.heap.size+1) x tv) (by kernel_rfl) (zBD pA1 pO1) (λhHeld=>?_);generalize W0.drew=wd at *;refine tkQ 0 zDX ?_
    refine tkQ 1 zDx ?_
    refine tkQ 2 zDi ?_
    refine tkQ 3 zD4 ?_
    refine tkQ 4 zEG ?_
    refine tkQ 5 zDY ?_
    refine tkQ 6 zDh ?_
    refine tkQ 7 zDy ?_
    refine tkQ 8 zDn ?_
    refine tkQ 9 zEJ ?_
    refine tkQ 10 zDq ?_
    refine tkQ 11 zED ?_
    refine tkQ 12 zEC ?_
    refine tkQ 13 zEA ?_
    refine tkQ 14 zEQ ?_
    refine tnQ 15 zEM ?_
    refine tnQ 16 zDv ?_
    refine tnQ 17 zEL ?_
    refine tkQ 18 zDr ?_
    refine tkQ 19 zD8 ?_
    refine tkQ 20 zDe ?_
    refine rdQ 21 zDw (λK hK=>?_);have o1:=pO1.2.1 1 _ rfl;obtain ⟨_,g1⟩:=hHeld;go_simp
    refine hkQ hK ((zCA (zBD pA1 pO1) (by omega) _ _)) (λhHeld=>?_);clear hK K o1 g1
    have pA2:AtL (wd.setCell ⟨w.heap.size+1,1,none⟩ (.int .i64 x.a)) w.heap.size (zAD x tv):=(pA1.far hne 1 (.int .i64 x.a))
    have pO2:AtL (wd.setCell ⟨w.heap.size+1,1,none⟩ (.int .i64 x.a)) (w.heap.size+1) (zAD ⟨4,x.a,0,v0I,c0I,a0I,a0I⟩ zAG):=(pO1.set 1 (.int .i64 x.a))
    have hB2:Below w.heap.size w (wd.setCell ⟨w.heap.size+1,1,none⟩ (.int .i64 x.a)):=(clB hB1)
    clear pA1 pO1 hB1;generalize (wd.setCell ⟨w.heap.size+1,1,none⟩ (.int .i64 x.a))=ws1 at *;have pA1:=pA2;have pO1:=pO2;have hB1:=hB2;clear pA2 pO2 hB2;refine rdQ 22 zER (λK hK=>?_);go_simp
    refine hkQ hK (by assumption) (λhHeld=>?_);clear hK K
    refine wpAnyH_done (by kernel_rfl) ?_ _;clear hHeld;have rA:=pA1.range;have rO:=pO1.range;have hB2:=hB1;clear pA1 pO1 hB1;go_wp2_with (first | ((with_reducible refine zAA ?_ 56 (.tmp 1) ?_ w.heap.size 0 ?_ (zAD x tv) _ ?_ underlying56 ?_ ?_ ?_);rfl;rfl;rfl;exact rA;rfl;kernel_rfl) | ((with_reducible refine zAA ?_ 56 (.tmp 3) ?_ (w.heap.size+1) 0 ?_ (zAD ⟨4,x.a,0,v0I,c0I,a0I,a0I⟩ zAG) _ ?_ underlying56 ?_ ?_ ?_);rfl;rfl;rfl;exact rO;rfl;kernel_rfl) | (go_at_call 97;refine (CS _ hB2).mono ?_;rintro e w3 ⟨rfl,hb3⟩;have hB3:=zAB hB2 hb3))
    go_wp2;go_ret;first
    | exact ⟨by simp,hB2⟩
    | exact ⟨by simp,hB3⟩
 ·have g1n:x.a<11:=by omega
  have g3:¬ 21<=x.a:=by omega
  have g3n:x.a<21:=by omega
  have hc:Wt.isBin x.a=false:=by simp only [Wt.isBin];simp;omega
  rw [hc];go_enter func61,ntmps61;go_upto_region 1 with fail
  go_upto_region 2 with ((with_reducible refine wpList_store_mid ?_ 56 (.tmp 3) (.tmp 7) ?_ (w.heap.size+1) 0 (zAD (zAE 4) zAG).toArray ?_ ?_ ?_ ?_ ?_ ?_);rfl;rfl;rfl;rfl;exact hth;kernel_rfl;exact zA1 _ _ _ _)
  generalize (zAK w x tv).setCells (w.heap.size+1) 0 (zAD (zAE 4) zAG)=W0 at *;clear hth;go_upto_region 10 with fail
  have pA1:=AtL.drew pA;have pO1:=AtL.drew pO;have hB1:=hBa.drew;clear pA pO hBa hS;refine wp_region_held_drew (S:=zJy w.heap.size (w.heap.size+1) x tv) (by kernel_rfl) (zBD pA1 pO1) (λhHeld=>?_);generalize W0.drew=wd at *;refine tkQ 0 zDX ?_
  refine tkQ 1 zDx ?_
  refine tkQ 2 zDi ?_
  refine tkQ 3 zD4 ?_
  refine tkQ 4 zEG ?_
  refine tkQ 5 zDY ?_
  refine tnQ 6 zDh ?_
  refine tnQ 7 zDy ?_
  refine tnQ 8 zDn ?_
  refine tkQ 9 zEJ ?_
  refine tkQ 10 zDq ?_
  refine tkQ 11 zED ?_
  refine tkQ 12 zEC ?_
  refine tkQ 13 zEA ?_
  refine tkQ 14 zEQ ?_
  refine tnQ 15 zEM ?_
  refine tnQ 16 zDv ?_
  refine tnQ 17 zEL ?_
  refine tkQ 18 zDr ?_
  refine tkQ 19 zD8 ?_
  refine tkQ 20 zDe ?_
  refine rdQ 21 zDw (λK hK=>?_);have o1:=pO1.2.1 1 _ rfl;obtain ⟨_,g1⟩:=hHeld;go_simp
  refine hkQ hK ((zCA (zBD pA1 pO1) (by omega) _ _)) (λhHeld=>?_);clear hK K o1 g1
  have pA2:AtL (wd.setCell ⟨w.heap.size+1,1,none⟩ (.int .i64 x.a)) w.heap.size (zAD x tv):=(pA1.far hne 1 (.int .i64 x.a))
  have pO2:AtL (wd.setCell ⟨w.heap.size+1,1,none⟩ (.int .i64 x.a)) (w.heap.size+1) (zAD ⟨4,x.a,0,v0I,c0I,a0I,a0I⟩ zAG):=(pO1.set 1 (.int .i64 x.a))
  have hB2:Below w.heap.size w (wd.setCell ⟨w.heap.size+1,1,none⟩ (.int .i64 x.a)):=(clB hB1)
  clear pA1 pO1 hB1;generalize (wd.setCell ⟨w.heap.size+1,1,none⟩ (.int .i64 x.a))=ws1 at *;have pA1:=pA2;have pO1:=pO2;have hB1:=hB2;clear pA2 pO2 hB2;refine rdQ 22 zER (λK hK=>?_);go_simp
  refine hkQ hK (by assumption) (λhHeld=>?_);clear hK K
  refine wpAnyH_done (by kernel_rfl) ?_ _;clear hHeld;have rA:=pA1.range;have rO:=pO1.range;have hB2:=hB1;clear pA1 pO1 hB1;go_wp2_with (first | ((with_reducible refine zAA ?_ 56 (.tmp 1) ?_ w.heap.size 0 ?_ (zAD x tv) _ ?_ underlying56 ?_ ?_ ?_);rfl;rfl;rfl;exact rA;rfl;kernel_rfl) | ((with_reducible refine zAA ?_ 56 (.tmp 3) ?_ (w.heap.size+1) 0 ?_ (zAD ⟨4,x.a,0,v0I,c0I,a0I,a0I⟩ zAG) _ ?_ underlying56 ?_ ?_ ?_);rfl;rfl;rfl;exact rO;rfl;kernel_rfl) | (go_at_call 97;refine (CS _ hB2).mono ?_;rintro e w3 ⟨rfl,hb3⟩;have hB3:=zAB hB2 hb3))
  go_wp2;go_ret;first
  | exact ⟨by simp,hB2⟩
  | exact ⟨by simp,hB3⟩
