/- KWalkD, KWalkE, KWalkF, KWalkG. -/
import Derived.Test.YtnloiaoogofklaaGreatDoorQ06
set_option maxHeartbeats 4000000
set_option maxRecDepth 100000
namespace Go.Proofs.YtnloiaoogofklaaGreatDoor
open Tryz
abbrev zR8:Oper:=⟨some 9,.binOp BinOp.eql 3 (.tmp 6) (.tmp 8) 3,4,"formula.go:13",#[⟨1,.data⟩,⟨3,.data⟩],none⟩
abbrev zRn:Oper:=⟨some 10,.move (.tmp 9),4,"formula.go:13",#[⟨4,.data⟩,⟨3,.chain⟩],none⟩
abbrev zR6:Oper:=⟨some 11,.load 45 (.tmp 2),45,"formula.go:13",#[⟨5,.guard⟩],some (5,Bool.true)⟩
abbrev zRy:Oper:=⟨some 12,.call {callee:=Callee.value (Operand.func 96),args:=#[.tmp 11],argTypes:=#[45]},3,"formula.go:13",#[⟨6,.data⟩,⟨5,.chain⟩,⟨5,.guard⟩],some (5,Bool.true)⟩
abbrev zR1:Oper:=⟨some 13,.load 45 (.tmp 3),45,"formula.go:13",#[⟨5,.guard⟩],some (5,Bool.true)⟩
abbrev zRf:Oper:=⟨some 14,.call {callee:=Callee.value (Operand.func 96),args:=#[.tmp 13],argTypes:=#[45]},3,"formula.go:13",#[⟨8,.data⟩,⟨7,.chain⟩,⟨5,.guard⟩],some (5,Bool.true)⟩
abbrev zRd:Oper:=⟨some 15,.binOp BinOp.eql 3 (.tmp 12) (.tmp 14) 3,4,"formula.go:13",#[⟨7,.data⟩,⟨9,.data⟩,⟨5,.guard⟩],some (5,Bool.true)⟩
abbrev zRj:Oper:=⟨some 16,.pick (.tmp 10) (.tmp 15) (Operand.const (Value.bool Bool.false)),4,"formula.go:13",#[⟨5,.data⟩,⟨10,.data⟩],none⟩
abbrev zRt:Oper:=⟨some 4,.assign (.tmp 16),4,"formula.go:13",#[⟨11,.data⟩,⟨9,.chain⟩,⟨0,.phase⟩,⟨1,.phase⟩,⟨2,.phase⟩,⟨3,.phase⟩,⟨4,.phase⟩,⟨5,.phase⟩,⟨6,.phase⟩,⟨7,.phase⟩,⟨8,.phase⟩,⟨9,.phase⟩,⟨10,.phase⟩,⟨11,.phase⟩],none⟩
open Go.RowKit
set_option linter.unusedVariables false
theorem zCG (a b:Wpl.Ar) (w:World) (h:SmA a) (g:SmA b):CR 73 #[.agg (ar5 a).toArray,.agg (ar5 b).toArray] w (.bool (shp a b)):=by
 have pA:=(AtL.new0 w 45 (ar5 a)).alloc (.cells (ar5 b).toArray 45);have pB:=AtL.new1 w (.cells (ar5 a).toArray 45) 45 (ar5 b);have hB:=zAL (zAL (Below.refl _ w) (.cells (ar5 a).toArray 45)) (.cells (ar5 b).toArray 45);have RA:=λw=>zCx a w h
 have RB:=λw=>zCx b w g
 have CA:=λw=>zCt a w h
 have CB:=λw=>zCt b w g
 have e1:(a.b - a.t+1 == b.b - b.t+1)=(a.b - a.t == b.b - b.t):=by rw [Bool.eq_iff_iff];simp
 have e2:(a.r - a.l+1 == b.r - b.l+1)=(a.r - a.l == b.r - b.l):=by rw [Bool.eq_iff_iff];simp
 unfold shp;rw [<-e1,<-e2];clear e1 e2 h g;generalize a.b - a.t+1=x1 at *;generalize b.b - b.t+1=x2 at *;generalize a.r - a.l+1=y1 at *;generalize b.r - b.l+1=y2 at *;go_enter func73,ntmps73;go_upto_region 1 with fail
 generalize (w.alloc (.cells (ar5 a).toArray 45)).alloc (.cells (ar5 b).toArray 45)=W at *;have pA0:=AtL.drew pA;have pB0:=AtL.drew pB;have hB0:=hB.drew;clear pA pB hB;refine wp_region_held_drew (S:=λW=>W.rangeAt w.heap.size 0 (ar5 a)/\W.rangeAt (w.heap.size+1) 0 (ar5 b)) (by kernel_rfl) ⟨pA0.range,pB0.range⟩ (λhHeld=>?_);generalize W.drew=WD at *;refine wpAnyH_take (i:=0) (oi:=⟨some 5,.load 45 (.tmp 2),45,"formula.go:13",#[],none⟩) (v:=.agg (ar5 a).toArray) rfl (by kernel_rfl) (by kernel_rfl) (by kernel_rfl) (λ_ _ _ h=>h) (yieldsIf_load_mid (by rfl) 45 (.tmp 2) rfl (w.heap.size) 0 rfl (ar5 a) _ (λ_ h=>h.1) underlying45 rfl (by kernel_rfl)) (by assumption) ?_;try simp only [Act.put,lA,lZ,lS]
 refine wpAnyH_take (i:=2) (oi:=⟨some 7,.load 45 (.tmp 3),45,"formula.go:13",#[],none⟩) (v:=.agg (ar5 b).toArray) rfl (by kernel_rfl) (by kernel_rfl) (by kernel_rfl) (λ_ _ _ h=>h) (yieldsIf_load_mid (by rfl) 45 (.tmp 3) rfl (w.heap.size+1) 0 rfl (ar5 b) _ (λ_ h=>h.2) underlying45 rfl (by kernel_rfl)) (by assumption) ?_;try simp only [Act.put,lA,lZ,lS]
 refine rdQ 1 ⟨some 6,.call {callee:=Callee.value (Operand.func 95),args:=#[.tmp 5],argTypes:=#[45]},3,"formula.go:13",#[⟨0,.data⟩],none⟩ (λK hK=>?_);go_simp
 refine (RA _).mono ?_;rintro e w1 ⟨rfl,hb1⟩;have pA1:=AtL.below hb1 pA0;have pB1:=AtL.below hb1 pB0;have hB1:=zAB hB0 hb1;go_wp2_with fail
 refine hkQ hK ⟨pA1.range,pB1.range⟩ (λhHeld=>?_);clear hK K
 refine rdQ 3 ⟨some 8,.call {callee:=Callee.value (Operand.func 95),args:=#[.tmp 7],argTypes:=#[45]},3,"formula.go:13",#[⟨2,.data⟩,⟨1,.chain⟩],none⟩ (λK hK=>?_);go_simp
 refine (RB _).mono ?_;rintro e w2 ⟨rfl,hb2⟩;have pA2:=AtL.below hb2 pA1;have pB2:=AtL.below hb2 pB1;have hB2:=zAB hB1 hb2;go_wp2_with fail
 refine hkQ hK ⟨pA2.range,pB2.range⟩ (λhHeld=>?_);clear hK K
 cases hq:(x1 == x2) with
 | false =>
  refine tkQ 4 zR8 ?_
  refine tkQ 5 zRn ?_
  refine tnQ 6 zR6 ?_
  refine tnQ 7 zRy ?_
  refine tnQ 8 zR1 ?_
  refine tnQ 9 zRf ?_
  refine tnQ 10 zRd ?_
  refine tkQ 11 zRj ?_
  refine rdQ 12 zRt (λK hK=>?_);go_simp
  refine hkQ hK ⟨pA2.range,pB2.range⟩ (λhHeld=>?_);clear hK K
  refine wpAnyH_done (by kernel_rfl) ?_ _;go_wp2;go_ret;have hq2:=hq;simp only [beq_eq_false_iff_ne,ne_eq] at hq2;exact ⟨by simp [hq2],hB2⟩
 | true =>
  refine tkQ 4 zR8 ?_
  refine tkQ 5 zRn ?_
  refine wpAnyH_take (i:=6) (oi:=zR6) (v:=.agg (ar5 a).toArray) rfl (by kernel_rfl) (by kernel_rfl) (by kernel_rfl) (λ_ _ _ h=>h) (yieldsIf_load_mid (by rfl) 45 (.tmp 2) rfl (w.heap.size) 0 rfl (ar5 a) _ (λ_ h=>h.1) underlying45 rfl (by kernel_rfl)) (by assumption) ?_;try simp only [Act.put,lA,lZ,lS]
  refine wpAnyH_take (i:=8) (oi:=zR1) (v:=.agg (ar5 b).toArray) rfl (by kernel_rfl) (by kernel_rfl) (by kernel_rfl) (λ_ _ _ h=>h) (yieldsIf_load_mid (by rfl) 45 (.tmp 3) rfl (w.heap.size+1) 0 rfl (ar5 b) _ (λ_ h=>h.2) underlying45 rfl (by kernel_rfl)) (by assumption) ?_;try simp only [Act.put,lA,lZ,lS]
  refine rdQ 7 zRy (λK hK=>?_);go_simp
  refine (CA _).mono ?_;rintro e w3 ⟨rfl,hb3⟩;have pA3:=AtL.below hb3 pA2;have pB3:=AtL.below hb3 pB2;have hB3:=zAB hB2 hb3;go_wp2_with fail
  refine hkQ hK ⟨pA3.range,pB3.range⟩ (λhHeld=>?_);clear hK K
  refine rdQ 9 zRf (λK hK=>?_);go_simp
  refine (CB _).mono ?_;rintro e w4 ⟨rfl,hb4⟩;have pA4:=AtL.below hb4 pA3;have pB4:=AtL.below hb4 pB3;have hB4:=zAB hB3 hb4;go_wp2_with fail
  refine hkQ hK ⟨pA4.range,pB4.range⟩ (λhHeld=>?_);clear hK K
  refine tkQ 10 zRd ?_
  refine tkQ 11 zRj ?_
  refine rdQ 12 zRt (λK hK=>?_);go_simp
  refine hkQ hK ⟨pA4.range,pB4.range⟩ (λhHeld=>?_);clear hK K
  refine wpAnyH_done (by kernel_rfl) ?_ _;go_wp2;go_ret;have hq2:=hq;simp only [beq_iff_eq] at hq2;exact ⟨by simp [hq2],hB4⟩
abbrev sg6 (id c:Int) (nm:ByteArray) (l m:Int) (ps:ByteArray):List Value:=[.int .i64 id,.int .i64 c,.string nm,.int .i64 l,.int .i64 m,.string ps]
theorem at6 {W:World} {k:Nat} {a b c d e f:Value} (h:AtL W k [a,b,c,d,e,f]) :
  W.cell? ⟨k,0,none⟩=some a/\W.cell? ⟨k,1,none⟩=some b/\W.cell? ⟨k,2,none⟩=some c/\W.cell? ⟨k,3,none⟩=some d/\W.cell? ⟨k,4,none⟩=some e/\W.cell? ⟨k,5,none⟩=some f/\W.frozen? ⟨k,0,none⟩=false/\W.frozen? ⟨k,1,none⟩=false/\W.frozen? ⟨k,2,none⟩=false/\W.frozen? ⟨k,3,none⟩=false/\W.frozen? ⟨k,4,none⟩=false/\W.frozen? ⟨k,5,none⟩=false :=
 ⟨h.2.1 0 a rfl,h.2.1 1 b rfl,h.2.1 2 c rfl,h.2.1 3 d rfl,h.2.1 4 e rfl,h.2.1 5 f rfl,h.2.2 0 (by simp),h.2.2 1 (by simp),h.2.2 2 (by simp),h.2.2 3 (by simp),h.2.2 4 (by simp),h.2.2 5 (by simp)⟩
theorem zA2 (c l m:Int) (ps:ByteArray) (w:World):CR 83 #[.int .i64 c,.int .i64 l,.int .i64 m,.string ps] w (.agg (sg6 0 c ⟨#[]⟩ l m ps).toArray):=by
 have hB:=zAL (Below.refl _ w) (.cells (sg6 0 0 ⟨#[]⟩ 0 0 ⟨#[]⟩).toArray 66);go_enter func83,ntmps83;go_wp2;refine bodyPost_ret (v:=.agg (sg6 0 c ⟨#[]⟩ l m ps).toArray) (by simp [results,results83,go_sem]) rfl ⟨rfl,clA⟩
def zG0 (id:Int):List Value :=
 if id=30 then sg6 0 3 ⟨#[]⟩ 2 3 ⟨#[118]⟩ else if id=31 then sg6 0 3 ⟨#[]⟩ 2 2 ⟨#[118]⟩ else sg6 0 3 ⟨#[]⟩ 2 30 ⟨#[118]⟩
theorem zH8 (id:Int) (w:World):CR 85 #[.int .i64 id] w (.agg (zG0 id).toArray):=by
 have pZ:=AtL.new0 w 66 (sg6 0 0 ⟨#[]⟩ 0 0 ⟨#[]⟩);have hB:=zAL (Below.refl _ w) (.cells (sg6 0 0 ⟨#[]⟩ 0 0 ⟨#[]⟩).toArray 66);unfold zG0;by_cases h30:id=30
 ·subst h30;have AK:=λw=>zA2 3 2 3 ⟨#[118]⟩ w
  go_enter func85,ntmps85;go_wp2_with fail
  refine (AK _).mono ?_;rintro e w1 ⟨rfl,hb1⟩;obtain ⟨b0,b1,b2,b3,b4,b5,k0,k1,k2,k3,k4,k5⟩:=at6 (AtL.below hb1 pZ);have hB1:=zAB hB hb1;go_wp2;refine bodyPost_ret (v:=.agg (sg6 0 3 ⟨#[]⟩ 2 3 ⟨#[118]⟩).toArray) (by simp [results,results85,go_sem,b0,b1,b2,b3,b4,b5]) rfl ⟨rfl,(clB hB1)⟩
 by_cases h31:id=31
 ·subst h31;have AK:=λw=>zA2 3 2 2 ⟨#[118]⟩ w
  go_enter func85,ntmps85;go_wp2_with fail
  refine (AK _).mono ?_;rintro e w1 ⟨rfl,hb1⟩;obtain ⟨b0,b1,b2,b3,b4,b5,k0,k1,k2,k3,k4,k5⟩:=at6 (AtL.below hb1 pZ);have hB1:=zAB hB hb1;go_wp2;refine bodyPost_ret (v:=.agg (sg6 0 3 ⟨#[]⟩ 2 2 ⟨#[118]⟩).toArray) (by simp [results,results85,go_sem,b0,b1,b2,b3,b4,b5]) rfl ⟨rfl,(clB hB1)⟩
 have n30:(id == 30)=false:=by simp [h30]
 have n31:(id == 31)=false:=by simp [h31]
 rw [if_neg (by simp [h30]),if_neg (by simp [h31])];clear h30 h31;have AK:=λw=>zA2 3 2 30 ⟨#[118]⟩ w
 go_enter func85,ntmps85;go_wp2_with fail
 refine (AK _).mono ?_;rintro e w1 ⟨rfl,hb1⟩;obtain ⟨b0,b1,b2,b3,b4,b5,k0,k1,k2,k3,k4,k5⟩:=at6 (AtL.below hb1 pZ);have hB1:=zAB hB hb1;go_wp2;refine bodyPost_ret (v:=.agg (sg6 0 3 ⟨#[]⟩ 2 30 ⟨#[118]⟩).toArray) (by simp [results,results85,go_sem,b0,b1,b2,b3,b4,b5]) rfl ⟨rfl,(clB hB1)⟩
def zG5 (id:Int):List Value :=
 if id=20 then sg6 0 2 ⟨#[]⟩ 2 2 ⟨#[118,97]⟩ else if id=21 then sg6 0 2 ⟨#[]⟩ 2 2 ⟨#[97,118]⟩ else if id=22 then sg6 0 2 ⟨#[]⟩ 2 3 ⟨#[97,118,97]⟩ else if id=23 then sg6 0 2 ⟨#[]⟩ 3 3 ⟨#[118,97,97]⟩ else if id=24 then sg6 0 2 ⟨#[]⟩ 2 2 ⟨#[97]⟩ else if id=25 then sg6 0 2 ⟨#[]⟩ 2 3 ⟨#[97,118]⟩ else sg6 0 2 ⟨#[]⟩ 1 1 ⟨#[97]⟩
theorem zIo (id:Int) (w:World):CR 84 #[.int .i64 id] w (.agg (zG5 id).toArray):=by
 have pZ:=AtL.new0 w 66 (sg6 0 0 ⟨#[]⟩ 0 0 ⟨#[]⟩);have hB:=zAL (Below.refl _ w) (.cells (sg6 0 0 ⟨#[]⟩ 0 0 ⟨#[]⟩).toArray 66);unfold zG5;by_cases h20:id=20
 ·subst h20;have AK:=λw=>zA2 2 2 2 ⟨#[118,97]⟩ w
  go_enter func84,ntmps84;go_wp2_with fail
  refine (AK _).mono ?_;rintro e w1 ⟨rfl,hb1⟩;obtain ⟨b0,b1,b2,b3,b4,b5,k0,k1,k2,k3,k4,k5⟩:=at6 (AtL.below hb1 pZ);have hB1:=zAB hB hb1;go_wp2;refine bodyPost_ret (v:=.agg (sg6 0 2 ⟨#[]⟩ 2 2 ⟨#[118,97]⟩).toArray) (by simp [results,results84,go_sem,b0,b1,b2,b3,b4,b5]) rfl ⟨rfl,(clB hB1)⟩
 by_cases h21:id=21
 ·subst h21;have AK:=λw=>zA2 2 2 2 ⟨#[97,118]⟩ w
  go_enter func84,ntmps84;go_wp2_with fail
  refine (AK _).mono ?_;rintro e w1 ⟨rfl,hb1⟩;obtain ⟨b0,b1,b2,b3,b4,b5,k0,k1,k2,k3,k4,k5⟩:=at6 (AtL.below hb1 pZ);have hB1:=zAB hB hb1;go_wp2;refine bodyPost_ret (v:=.agg (sg6 0 2 ⟨#[]⟩ 2 2 ⟨#[97,118]⟩).toArray) (by simp [results,results84,go_sem,b0,b1,b2,b3,b4,b5]) rfl ⟨rfl,(clB hB1)⟩
 by_cases h22:id=22
 ·subst h22;have AK:=λw=>zA2 2 2 3 ⟨#[97,118,97]⟩ w
  go_enter func84,ntmps84;go_wp2_with fail
  refine (AK _).mono ?_;rintro e w1 ⟨rfl,hb1⟩;obtain ⟨b0,b1,b2,b3,b4,b5,k0,k1,k2,k3,k4,k5⟩:=at6 (AtL.below hb1 pZ);have hB1:=zAB hB hb1;go_wp2;refine bodyPost_ret (v:=.agg (sg6 0 2 ⟨#[]⟩ 2 3 ⟨#[97,118,97]⟩).toArray) (by simp [results,results84,go_sem,b0,b1,b2,b3,b4,b5]) rfl ⟨rfl,(clB hB1)⟩
 by_cases h23:id=23
 ·subst h23;have AK:=λw=>zA2 2 3 3 ⟨#[118,97,97]⟩ w
  go_enter func84,ntmps84;go_wp2_with fail
  refine (AK _).mono ?_;rintro e w1 ⟨rfl,hb1⟩;obtain ⟨b0,b1,b2,b3,b4,b5,k0,k1,k2,k3,k4,k5⟩:=at6 (AtL.below hb1 pZ);have hB1:=zAB hB hb1;go_wp2;refine bodyPost_ret (v:=.agg (sg6 0 2 ⟨#[]⟩ 3 3 ⟨#[118,97,97]⟩).toArray) (by simp [results,results84,go_sem,b0,b1,b2,b3,b4,b5]) rfl ⟨rfl,(clB hB1)⟩
 by_cases h24:id=24
 ·subst h24;have AK:=λw=>zA2 2 2 2 ⟨#[97]⟩ w
  go_enter func84,ntmps84;go_wp2_with fail
  refine (AK _).mono ?_;rintro e w1 ⟨rfl,hb1⟩;obtain ⟨b0,b1,b2,b3,b4,b5,k0,k1,k2,k3,k4,k5⟩:=at6 (AtL.below hb1 pZ);have hB1:=zAB hB hb1;go_wp2;refine bodyPost_ret (v:=.agg (sg6 0 2 ⟨#[]⟩ 2 2 ⟨#[97]⟩).toArray) (by simp [results,results84,go_sem,b0,b1,b2,b3,b4,b5]) rfl ⟨rfl,(clB hB1)⟩
 by_cases h25:id=25
 ·subst h25;have AK:=λw=>zA2 2 2 3 ⟨#[97,118]⟩ w
  go_enter func84,ntmps84;go_wp2_with fail
  refine (AK _).mono ?_;rintro e w1 ⟨rfl,hb1⟩;obtain ⟨b0,b1,b2,b3,b4,b5,k0,k1,k2,k3,k4,k5⟩:=at6 (AtL.below hb1 pZ);have hB1:=zAB hB hb1;go_wp2;refine bodyPost_ret (v:=.agg (sg6 0 2 ⟨#[]⟩ 2 3 ⟨#[97,118]⟩).toArray) (by simp [results,results84,go_sem,b0,b1,b2,b3,b4,b5]) rfl ⟨rfl,(clB hB1)⟩
 have n20:(id == 20)=false:=by simp [h20]
 have n21:(id == 21)=false:=by simp [h21]
 have n22:(id == 22)=false:=by simp [h22]
 have n23:(id == 23)=false:=by simp [h23]
 have n24:(id == 24)=false:=by simp [h24]
 have n25:(id == 25)=false:=by simp [h25]
 rw [if_neg (by simp [h20]),if_neg (by simp [h21]),if_neg (by simp [h22]),if_neg (by simp [h23]),if_neg (by simp [h24]),if_neg (by simp [h25])];clear h20 h21 h22 h23 h24 h25;have AK:=λw=>zA2 2 1 1 ⟨#[97]⟩ w
 go_enter func84,ntmps84;go_wp2_with fail
 refine (AK _).mono ?_;rintro e w1 ⟨rfl,hb1⟩;obtain ⟨b0,b1,b2,b3,b4,b5,k0,k1,k2,k3,k4,k5⟩:=at6 (AtL.below hb1 pZ);have hB1:=zAB hB hb1;go_wp2;refine bodyPost_ret (v:=.agg (sg6 0 2 ⟨#[]⟩ 1 1 ⟨#[97]⟩).toArray) (by simp [results,results84,go_sem,b0,b1,b2,b3,b4,b5]) rfl ⟨rfl,(clB hB1)⟩
def zFw (id:Int):List Value :=
 if id=62 then sg6 0 4 ⟨#[]⟩ 0 0 ⟨#[118]⟩ else if id=43 \/ id=49 \/ id=50 then sg6 0 4 ⟨#[]⟩ 1 2 ⟨#[118]⟩ else if id=44 \/ id=45 \/ id=46 \/ id=52 \/ id=53 then sg6 0 4 ⟨#[]⟩ 2 2 ⟨#[118]⟩ else if id=51 then sg6 0 4 ⟨#[]⟩ 3 3 ⟨#[118]⟩ else sg6 0 4 ⟨#[]⟩ 1 1 ⟨#[118]⟩
theorem zHJ (id:Int) (w:World):CR 86 #[.int .i64 id] w (.agg (zFw id).toArray):=by
 have pZ:=AtL.new0 w 66 (sg6 0 0 ⟨#[]⟩ 0 0 ⟨#[]⟩);have hB:=zAL (Below.refl _ w) (.cells (sg6 0 0 ⟨#[]⟩ 0 0 ⟨#[]⟩).toArray 66);unfold zFw;by_cases h62:id=62
 ·subst h62;have AK:=λw=>zA2 4 0 0 ⟨#[118]⟩ w
  go_enter func86,ntmps86;go_wp2_with fail
  refine (AK _).mono ?_;rintro e w1 ⟨rfl,hb1⟩;obtain ⟨b0,b1,b2,b3,b4,b5,k0,k1,k2,k3,k4,k5⟩:=at6 (AtL.below hb1 pZ);have hB1:=zAB hB hb1;go_wp2;refine bodyPost_ret (v:=.agg (sg6 0 4 ⟨#[]⟩ 0 0 ⟨#[118]⟩).toArray) (by simp [results,results86,go_sem,b0,b1,b2,b3,b4,b5]) rfl ⟨rfl,(clB hB1)⟩
 by_cases h43:id=43
 ·subst h43;have AK:=λw=>zA2 4 1 2 ⟨#[118]⟩ w
  go_enter func86,ntmps86;go_wp2_with fail
  refine (AK _).mono ?_;rintro e w1 ⟨rfl,hb1⟩;obtain ⟨b0,b1,b2,b3,b4,b5,k0,k1,k2,k3,k4,k5⟩:=at6 (AtL.below hb1 pZ);have hB1:=zAB hB hb1;go_wp2;refine bodyPost_ret (v:=.agg (sg6 0 4 ⟨#[]⟩ 1 2 ⟨#[118]⟩).toArray) (by simp [results,results86,go_sem,b0,b1,b2,b3,b4,b5]) rfl ⟨rfl,(clB hB1)⟩
 by_cases h49:id=49
 ·subst h49;have AK:=λw=>zA2 4 1 2 ⟨#[118]⟩ w
  go_enter func86,ntmps86;go_wp2_with fail
  refine (AK _).mono ?_;rintro e w1 ⟨rfl,hb1⟩;obtain ⟨b0,b1,b2,b3,b4,b5,k0,k1,k2,k3,k4,k5⟩:=at6 (AtL.below hb1 pZ);have hB1:=zAB hB hb1;go_wp2;refine bodyPost_ret (v:=.agg (sg6 0 4 ⟨#[]⟩ 1 2 ⟨#[118]⟩).toArray) (by simp [results,results86,go_sem,b0,b1,b2,b3,b4,b5]) rfl ⟨rfl,(clB hB1)⟩
 by_cases h50:id=50
 ·subst h50;have AK:=λw=>zA2 4 1 2 ⟨#[118]⟩ w
  go_enter func86,ntmps86;go_wp2_with fail
  refine (AK _).mono ?_;rintro e w1 ⟨rfl,hb1⟩;obtain ⟨b0,b1,b2,b3,b4,b5,k0,k1,k2,k3,k4,k5⟩:=at6 (AtL.below hb1 pZ);have hB1:=zAB hB hb1;go_wp2;refine bodyPost_ret (v:=.agg (sg6 0 4 ⟨#[]⟩ 1 2 ⟨#[118]⟩).toArray) (by simp [results,results86,go_sem,b0,b1,b2,b3,b4,b5]) rfl ⟨rfl,(clB hB1)⟩
 by_cases h44:id=44
 ·subst h44;have AK:=λw=>zA2 4 2 2 ⟨#[118]⟩ w
  go_enter func86,ntmps86;go_wp2_with fail
  refine (AK _).mono ?_;rintro e w1 ⟨rfl,hb1⟩;obtain ⟨b0,b1,b2,b3,b4,b5,k0,k1,k2,k3,k4,k5⟩:=at6 (AtL.below hb1 pZ);have hB1:=zAB hB hb1;go_wp2;refine bodyPost_ret (v:=.agg (sg6 0 4 ⟨#[]⟩ 2 2 ⟨#[118]⟩).toArray) (by simp [results,results86,go_sem,b0,b1,b2,b3,b4,b5]) rfl ⟨rfl,(clB hB1)⟩
 by_cases h45:id=45
 ·subst h45;have AK:=λw=>zA2 4 2 2 ⟨#[118]⟩ w
  go_enter func86,ntmps86;go_wp2_with fail
  refine (AK _).mono ?_;rintro e w1 ⟨rfl,hb1⟩;obtain ⟨b0,b1,b2,b3,b4,b5,k0,k1,k2,k3,k4,k5⟩:=at6 (AtL.below hb1 pZ);have hB1:=zAB hB hb1;go_wp2;refine bodyPost_ret (v:=.agg (sg6 0 4 ⟨#[]⟩ 2 2 ⟨#[118]⟩).toArray) (by simp [results,results86,go_sem,b0,b1,b2,b3,b4,b5]) rfl ⟨rfl,(clB hB1)⟩
 by_cases h46:id=46
 ·subst h46;have AK:=λw=>zA2 4 2 2 ⟨#[118]⟩ w
  go_enter func86,ntmps86;go_wp2_with fail
  refine (AK _).mono ?_;rintro e w1 ⟨rfl,hb1⟩;obtain ⟨b0,b1,b2,b3,b4,b5,k0,k1,k2,k3,k4,k5⟩:=at6 (AtL.below hb1 pZ);have hB1:=zAB hB hb1;go_wp2;refine bodyPost_ret (v:=.agg (sg6 0 4 ⟨#[]⟩ 2 2 ⟨#[118]⟩).toArray) (by simp [results,results86,go_sem,b0,b1,b2,b3,b4,b5]) rfl ⟨rfl,(clB hB1)⟩
 by_cases h52:id=52
 ·subst h52;have AK:=λw=>zA2 4 2 2 ⟨#[118]⟩ w
  go_enter func86,ntmps86;go_wp2_with fail
  refine (AK _).mono ?_;rintro e w1 ⟨rfl,hb1⟩;obtain ⟨b0,b1,b2,b3,b4,b5,k0,k1,k2,k3,k4,k5⟩:=at6 (AtL.below hb1 pZ);have hB1:=zAB hB hb1;go_wp2;refine bodyPost_ret (v:=.agg (sg6 0 4 ⟨#[]⟩ 2 2 ⟨#[118]⟩).toArray) (by simp [results,results86,go_sem,b0,b1,b2,b3,b4,b5]) rfl ⟨rfl,(clB hB1)⟩
 by_cases h53:id=53
 ·subst h53;have AK:=λw=>zA2 4 2 2 ⟨#[118]⟩ w
  go_enter func86,ntmps86;go_wp2_with fail
  refine (AK _).mono ?_;rintro e w1 ⟨rfl,hb1⟩;obtain ⟨b0,b1,b2,b3,b4,b5,k0,k1,k2,k3,k4,k5⟩:=at6 (AtL.below hb1 pZ);have hB1:=zAB hB hb1;go_wp2;refine bodyPost_ret (v:=.agg (sg6 0 4 ⟨#[]⟩ 2 2 ⟨#[118]⟩).toArray) (by simp [results,results86,go_sem,b0,b1,b2,b3,b4,b5]) rfl ⟨rfl,(clB hB1)⟩
 by_cases h51:id=51
 ·subst h51;have AK:=λw=>zA2 4 3 3 ⟨#[118]⟩ w
  go_enter func86,ntmps86;go_wp2_with fail
  refine (AK _).mono ?_;rintro e w1 ⟨rfl,hb1⟩;obtain ⟨b0,b1,b2,b3,b4,b5,k0,k1,k2,k3,k4,k5⟩:=at6 (AtL.below hb1 pZ);have hB1:=zAB hB hb1;go_wp2;refine bodyPost_ret (v:=.agg (sg6 0 4 ⟨#[]⟩ 3 3 ⟨#[118]⟩).toArray) (by simp [results,results86,go_sem,b0,b1,b2,b3,b4,b5]) rfl ⟨rfl,(clB hB1)⟩
 have n62:(id == 62)=false:=by simp [h62]
 have n43:(id == 43)=false:=by simp [h43]
 have n49:(id == 49)=false:=by simp [h49]
 have n50:(id == 50)=false:=by simp [h50]
 have n44:(id == 44)=false:=by simp [h44]
 have n45:(id == 45)=false:=by simp [h45]
 have n46:(id == 46)=false:=by simp [h46]
 have n52:(id == 52)=false:=by simp [h52]
 have n53:(id == 53)=false:=by simp [h53]
 have n51:(id == 51)=false:=by simp [h51]
 rw [if_neg (by simp [h62]),if_neg (by simp [h43,h49,h50]),if_neg (by simp [h44,h45,h46,h52,h53]),if_neg (by simp [h51])];clear h62 h43 h49 h50 h44 h45 h46 h52 h53 h51;have AK:=λw=>zA2 4 1 1 ⟨#[118]⟩ w
 go_enter func86,ntmps86;go_wp2_with fail
 refine (AK _).mono ?_;rintro e w1 ⟨rfl,hb1⟩;obtain ⟨b0,b1,b2,b3,b4,b5,k0,k1,k2,k3,k4,k5⟩:=at6 (AtL.below hb1 pZ);have hB1:=zAB hB hb1;go_wp2;refine bodyPost_ret (v:=.agg (sg6 0 4 ⟨#[]⟩ 1 1 ⟨#[118]⟩).toArray) (by simp [results,results86,go_sem,b0,b1,b2,b3,b4,b5]) rfl ⟨rfl,(clB hB1)⟩
structure Sh where
 c:Int
 l:Int
 m:Int
 p:ByteArray
def sh6 (s:Sh):List Value:=sg6 0 s.c ⟨#[]⟩ s.l s.m s.p
def zJ4 (id:Int):Sh:=if id=30 then ⟨3,2,3,⟨#[118]⟩⟩ else if id=31 then ⟨3,2,2,⟨#[118]⟩⟩ else ⟨3,2,30,⟨#[118]⟩⟩
def zJB (id:Int):Sh:=if id=20 then ⟨2,2,2,⟨#[118,97]⟩⟩ else if id=21 then ⟨2,2,2,⟨#[97,118]⟩⟩ else if id=22 then ⟨2,2,3,⟨#[97,118,97]⟩⟩ else if id=23 then ⟨2,3,3,⟨#[118,97,97]⟩⟩ else if id=24 then ⟨2,2,2,⟨#[97]⟩⟩ else if id=25 then ⟨2,2,3,⟨#[97,118]⟩⟩ else ⟨2,1,1,⟨#[97]⟩⟩
def zIg (id:Int):Sh:=if id=62 then ⟨4,0,0,⟨#[118]⟩⟩ else if id=43 \/ id=49 \/ id=50 then ⟨4,1,2,⟨#[118]⟩⟩ else if id=44 \/ id=45 \/ id=46 \/ id=52 \/ id=53 then ⟨4,2,2,⟨#[118]⟩⟩ else if id=51 then ⟨4,3,3,⟨#[118]⟩⟩ else ⟨4,1,1,⟨#[118]⟩⟩
def zAO (id:Int):Sh:=if id<=15 then ⟨1,1,30,⟨#[120]⟩⟩ else if id<=27 then zJB id else if id<=32 then zJ4 id else zIg id
theorem zLC (id:Int):zG0 id=sh6 (zJ4 id):=by
 unfold zG0 zJ4;split
 ·rfl
 ·split <;> rfl
theorem zKo (id:Int):zG5 id=sh6 (zJB id):=by
 unfold zG5 zJB;repeat (split;rfl)
 rfl
theorem zJx (id:Int):zFw id=sh6 (zIg id):=by
 unfold zFw zIg;repeat (split;rfl)
 rfl
theorem zIs (id:Int) (w:World):CR 58 #[.int .i64 id] w (.agg (sh6 (zAO id)).toArray):=by
 have pZ:=AtL.new0 w 66 (sg6 0 0 ⟨#[]⟩ 0 0 ⟨#[]⟩);have hB:=zAL (Below.refl _ w) (.cells (sg6 0 0 ⟨#[]⟩ 0 0 ⟨#[]⟩).toArray 66);have AK:=λw=>zA2 1 1 30 ⟨#[120]⟩ w
 have SK:=λw=>zIo id w
 have LK:=λw=>zH8 id w
 have CK:=λw=>zHJ id w
 rw [zKo] at SK;rw [zLC] at LK;rw [zJx] at CK;unfold zAO;by_cases h1:id<=15
 ·rw [if_pos h1];clear SK LK CK;go_enter func58,ntmps58;go_wp2_with fail
  refine (AK _).mono ?_;rintro e w1 ⟨rfl,hb1⟩;obtain ⟨b0,b1,b2,b3,b4,b5,k0,k1,k2,k3,k4,k5⟩:=at6 (AtL.below hb1 pZ);have hB1:=zAB hB hb1;go_wp2;refine bodyPost_ret (v:=.agg (sg6 0 1 ⟨#[]⟩ 1 30 ⟨#[120]⟩).toArray) (by simp [results,results58,go_sem,b0,b1,b2,b3,b4,b5]) rfl ⟨rfl,(clB hB1)⟩
 rw [if_neg h1];by_cases h2:id<=27
 ·rw [if_pos h2];clear AK LK CK;generalize zJB id=s at *;unfold sh6 at *;go_enter func58,ntmps58;go_wp2_with fail
  refine (SK _).mono ?_;rintro e w1 ⟨rfl,hb1⟩;obtain ⟨b0,b1,b2,b3,b4,b5,k0,k1,k2,k3,k4,k5⟩:=at6 (AtL.below hb1 pZ);have hB1:=zAB hB hb1;go_wp2;refine bodyPost_ret (v:=.agg (sg6 0 s.c ⟨#[]⟩ s.l s.m s.p).toArray) (by simp [results,results58,go_sem,b0,b1,b2,b3,b4,b5]) rfl ⟨rfl,(clB hB1)⟩
 rw [if_neg h2];by_cases h3:id<=32
 ·rw [if_pos h3];clear AK SK CK;generalize zJ4 id=s at *;unfold sh6 at *;go_enter func58,ntmps58;go_wp2_with fail
  refine (LK _).mono ?_;rintro e w1 ⟨rfl,hb1⟩;obtain ⟨b0,b1,b2,b3,b4,b5,k0,k1,k2,k3,k4,k5⟩:=at6 (AtL.below hb1 pZ);have hB1:=zAB hB hb1;go_wp2;refine bodyPost_ret (v:=.agg (sg6 0 s.c ⟨#[]⟩ s.l s.m s.p).toArray) (by simp [results,results58,go_sem,b0,b1,b2,b3,b4,b5]) rfl ⟨rfl,(clB hB1)⟩
 rw [if_neg h3];clear AK SK LK;generalize zIg id=s at *;unfold sh6 at *;go_enter func58,ntmps58;go_wp2_with fail
 refine (CK _).mono ?_;rintro e w1 ⟨rfl,hb1⟩;obtain ⟨b0,b1,b2,b3,b4,b5,k0,k1,k2,k3,k4,k5⟩:=at6 (AtL.below hb1 pZ);have hB1:=zAB hB hb1;go_wp2;refine bodyPost_ret (v:=.agg (sg6 0 s.c ⟨#[]⟩ s.l s.m s.p).toArray) (by simp [results,results58,go_sem,b0,b1,b2,b3,b4,b5]) rfl ⟨rfl,(clB hB1)⟩
def fnN:List (List UInt8):=[[],[83,85,77],[80,82,79,68,85,67,84],[67,79,85,78,84],[67,79,85,78,84,65],[77,73,78],[77,65,88],[65,86,69,82,65,71,69],[65,78,68],[79,82],[88,79,82],[67,79,78,67,65,84],[83,85,77,83,81],[71,67,68],[70,73,82,83,84],[76,65,83,84],[],[],[],[],[77,65,84,67,72],[67,79,85,78,84,73,70],[83,85,77,73,70],[76,79,79,75,85,80],[83,85,77,80,82,79,68,85,67,84],[73,78,68,69,88],[82,79,87,83],[67,79,76,85,77,78,83],[],[],[73,70],[73,70,69,82,82,79,82],[67,72,79,79,83,69],[],[],[],[],[],[],[],[65,66,83],[83,73,71,78],[73,78,84],[82,79,85,78,68],[77,79,68],[81,85,79,84,73,69,78,84],[80,79,87,69,82],[78,79,84],[76,69,78],[76,69,70,84],[82,73,71,72,84],[77,73,68],[82,69,80,84],[70,73,78,68],[85,80,80,69,82],[76,79,87,69,82],[84,82,73,77],[86,65,76,85,69],[73,83,78,85,77,66,69,82],[73,83,84,69,88,84],[73,83,66,76,65,78,75],[73,83,69,82,82,79,82],[78,65]]
def nmR:List Value:=fnN.map λl=>.string ⟨l.toArray⟩
def NmAt (w:World):Prop:=w.rangeAt 0 0 nmR
theorem NmAt.below {w w':World} (h:NmAt w) (hb:Below w.heap.size w w'):NmAt w':=λj v hv=>zAC hb (h j v hv)
def zEm (id:Int):List UInt8:=fnN.getD id.toNat []
def zAx (id:Int):Bool:=decide (0<=id) && (decide (id<63) && !(zEm id).isEmpty)
theorem NmAt.cell {w:World} (h:NmAt w) {id:Int} (h0:0<=id) (h1:id<63):w.cell? ⟨0,id.toNat,none⟩=some (.string ⟨(zEm id).toArray⟩):=by
 have hl:id.toNat<fnN.length:=by show id.toNat<63;omega
 have:=h id.toNat (.string ⟨(zEm id).toArray⟩) (by unfold nmR zEm;rw [List.getElem?_map,List.getElem?_eq_getElem hl,List.getD_eq_getElem?_getD,List.getElem?_eq_getElem hl];rfl);rw [Nat.zero_add] at this;exact this
def zero6:List Value:=sg6 0 0 ⟨#[]⟩ 0 0 ⟨#[]⟩
def zDE (id:Int):List Value:=if zAx id=true then sg6 id (zAO id).c ⟨(zEm id).toArray⟩ (zAO id).l (zAO id).m (zAO id).p else zero6
theorem zK4 (id:Int) (w:World) (hN:NmAt w) (h:id<0):CR 37 #[.int .i64 id] w (.tuple #[.agg zero6.toArray,.bool false]):=by
 have pZ:=AtL.new0 w 66 (sg6 0 0 ⟨#[]⟩ 0 0 ⟨#[]⟩);have hB:=zAL (Below.refl _ w) (.cells (sg6 0 0 ⟨#[]⟩ 0 0 ⟨#[]⟩).toArray 66);obtain ⟨b0,b1,b2,b3,b4,b5,k0,k1,k2,k3,k4,k5⟩:=at6 pZ;clear pZ hN;go_enter func37,ntmps37;go_upto_region 1 with fail
 generalize (w.alloc (.cells (sg6 0 0 ⟨#[]⟩ 0 0 ⟨#[]⟩).toArray 66))=W at *;go_wp2;refine bodyPost_ret (v:=.tuple #[.agg (sg6 0 0 ⟨#[]⟩ 0 0 ⟨#[]⟩).toArray,.bool false]) (by simp [results,results37,go_sem,b0,b1,b2,b3,b4,b5]) rfl ⟨rfl,(clB hB)⟩
theorem zKt (id:Int) (w:World) (hN:NmAt w) (h:63<=id):CR 37 #[.int .i64 id] w (.tuple #[.agg zero6.toArray,.bool false]):=by
 have pZ:=AtL.new0 w 66 (sg6 0 0 ⟨#[]⟩ 0 0 ⟨#[]⟩);have hB:=zAL (Below.refl _ w) (.cells (sg6 0 0 ⟨#[]⟩ 0 0 ⟨#[]⟩).toArray 66);have h0:¬ id<0:=by omega
 obtain ⟨b0,b1,b2,b3,b4,b5,k0,k1,k2,k3,k4,k5⟩:=at6 pZ;clear pZ hN;go_enter func37,ntmps37;go_upto_region 1 with fail
 generalize (w.alloc (.cells (sg6 0 0 ⟨#[]⟩ 0 0 ⟨#[]⟩).toArray 66))=W at *;go_wp2;refine bodyPost_ret (v:=.tuple #[.agg (sg6 0 0 ⟨#[]⟩ 0 0 ⟨#[]⟩).toArray,.bool false]) (by simp [results,results37,go_sem,b0,b1,b2,b3,b4,b5]) rfl ⟨rfl,(clB hB)⟩
theorem zKG (id:Int) (w:World) (hN:NmAt w) (h0:0<=id) (h1:id<63) (he:zEm id=[]):CR 37 #[.int .i64 id] w (.tuple #[.agg zero6.toArray,.bool false]):=by
 have pZ:=AtL.new0 w 66 (sg6 0 0 ⟨#[]⟩ 0 0 ⟨#[]⟩);have hB:=zAL (Below.refl _ w) (.cells (sg6 0 0 ⟨#[]⟩ 0 0 ⟨#[]⟩).toArray 66);have hc:=(hN.below hB).cell h0 h1;rw [he] at hc;have h0n:¬ id<0:=by omega
 have h1n:¬ 63<=id:=by omega
 clear he;obtain ⟨b0,b1,b2,b3,b4,b5,k0,k1,k2,k3,k4,k5⟩:=at6 pZ;clear pZ hN;go_enter func37,ntmps37;go_upto_region 1 with fail
 generalize (w.alloc (.cells (sg6 0 0 ⟨#[]⟩ 0 0 ⟨#[]⟩).toArray 66))=W at *;go_wp2;refine bodyPost_ret (v:=.tuple #[.agg (sg6 0 0 ⟨#[]⟩ 0 0 ⟨#[]⟩).toArray,.bool false]) (by simp [results,results37,go_sem,b0,b1,b2,b3,b4,b5]) rfl ⟨rfl,(clB hB)⟩
theorem zO4 (id c l m:Int) (nm ps:ByteArray):(sg6 id c nm l m ps).toArray.all (·.oneCell')=true:=by simp [Value.oneCell']
theorem zNh (id:Int) (w:World) (hN:NmAt w) (h0:0<=id) (h1:id<63) (he:zEm id ≠ []):CR 37 #[.int .i64 id] w (.tuple #[.agg (sg6 id (zAO id).c ⟨(zEm id).toArray⟩ (zAO id).l (zAO id).m (zAO id).p).toArray,.bool true]):=by
 have pZ:=AtL.new0 w 66 (sg6 0 0 ⟨#[]⟩ 0 0 ⟨#[]⟩);have hB:=zAL (Below.refl _ w) (.cells (sg6 0 0 ⟨#[]⟩ 0 0 ⟨#[]⟩).toArray 66);have hN0:=hN.below hB;have hc:=hN0.cell h0 h1;have SH:=λw=>zIs id w
 unfold sh6 at SH;have hq:((zEm id).toArray.toList == ([]:List UInt8))=false:=by
  cases hx:zEm id with
  | nil=>exact absurd hx he
  | cons a t=>rfl
 obtain ⟨nm,hnm⟩:∃ nm:ByteArray,(⟨(zEm id).toArray⟩:ByteArray)=nm:=⟨_,rfl⟩
 have hq2:(nm.toList == [])=false:=by
  rw [<-hnm,ByteArray.toList_eq];exact hq
 rw [hnm] at hc ⊢;have HC:Hid (∀ W,NmAt W->W.cell? ⟨0,id.toNat,none⟩=some (.string nm)):=λW h=>by rw [<-hnm];exact h.cell h0 h1
 have HN0:Hid (NmAt (w.alloc (.cells (sg6 0 0 ⟨#[]⟩ 0 0 ⟨#[]⟩).toArray 66))):=hN0;have HNw:Hid (NmAt w):=hN;have h0n:¬ id<0:=by omega
 have h1n:¬ 63<=id:=by omega
 generalize zAO id=s at *;clear hN he hq hnm hN0;go_enter func37,ntmps37;go_upto_region 1 with fail
 generalize (w.alloc (.cells (sg6 0 0 ⟨#[]⟩ 0 0 ⟨#[]⟩).toArray 66))=W at *;go_wp2_with fail
 refine (SH _).mono ?_;rintro e w1 ⟨rfl,hb1⟩;have pZ1:=AtL.below hb1 pZ;have hB1:=zAB hB hb1;have HN1:Hid (NmAt w1):=HN0.out.below hb1;have pS:=AtL.new0 w1 66 (sg6 0 0 ⟨#[]⟩ 0 0 ⟨#[]⟩);have pZ2:=pZ1.alloc (.cells (sg6 0 0 ⟨#[]⟩ 0 0 ⟨#[]⟩).toArray 66);have hB2:=zAL hB1 (.cells (sg6 0 0 ⟨#[]⟩ 0 0 ⟨#[]⟩).toArray 66);have HN2:Hid (NmAt (w1.alloc (.cells (sg6 0 0 ⟨#[]⟩ 0 0 ⟨#[]⟩).toArray 66))):=HN1.out.below (zAL (Below.refl _ _) _);have hth:World.there (w1.alloc (.cells (sg6 0 0 ⟨#[]⟩ 0 0 ⟨#[]⟩).toArray 66)) w1.heap.size 0 (sg6 0 s.c ⟨#[]⟩ s.l s.m s.p).toArray.size:=pS.there;have hlt:=pZ1.lt;clear SH hc pZ pZ1 hB hB1 HN0 HN1 hb1;go_upto_region 4 with ((with_reducible refine wpList_store_mid ?_ 66 (.tmp 4) (.tmp 19) ?_ (w1.heap.size) 0 (sg6 0 s.c ⟨#[]⟩ s.l s.m s.p).toArray ?_ ?_ ?_ ?_ ?_ ?_);rfl;rfl;rfl;rfl;exact hth;kernel_rfl;exact zO4 _ _ _ _ _ _)
 have pS4:AtL ((w1.alloc (.cells (sg6 0 0 ⟨#[]⟩ 0 0 ⟨#[]⟩).toArray 66)).setCells w1.heap.size 0 (sg6 0 s.c ⟨#[]⟩ s.l s.m s.p)) w1.heap.size (sg6 0 s.c ⟨#[]⟩ s.l s.m s.p):=pS.setAll rfl;have pZ4:=pZ2.farAll (b:=w1.heap.size) (by omega) 0 (sg6 0 s.c ⟨#[]⟩ s.l s.m s.p);have hB4:Below w.heap.size w ((w1.alloc (.cells (sg6 0 0 ⟨#[]⟩ 0 0 ⟨#[]⟩).toArray 66)).setCells w1.heap.size 0 (sg6 0 s.c ⟨#[]⟩ s.l s.m s.p)):=zAs hB2 (by omega) _ 0;have pS5:=AtL.drew pS4;have pZ5:=AtL.drew pZ4;have hB5:=hB4.drew;clear pS pZ2 hB2 HN2 hth pS4 pZ4 hB4;have hc5:=HC.out _ (HNw.out.below hB5);have hne:w1.heap.size ≠ 0:=by omega
 refine wp_region_held_drew (S:=λW=>W.cell? ⟨0,id.toNat,none⟩=some (.string nm)) (by kernel_rfl) hc5 (λhHeld=>?_);generalize (World.setCells (w1.alloc (.cells (sg6 0 0 ⟨#[]⟩ 0 0 ⟨#[]⟩).toArray 66)) w1.heap.size 0 (sg6 0 s.c ⟨#[]⟩ s.l s.m s.p)).drew=WD at *;have s0:=pS5.2.1 0 _ rfl;have f0:=pS5.2.2 0 (by simp);refine tkQ 0 ⟨some 20,.move (.tmp 0),3,"funcs.go:41",#[],none⟩ ?_
 refine tkQ 1 ⟨some 21,.move (.tmp 0),3,"funcs.go:41",#[⟨5,.gcOnly .lateStores⟩],none⟩ ?_
 refine tkQ 2 ⟨some 22,.indexAddr 100 (Operand.global 0) (.tmp 21),0,"funcs.go:41",#[⟨1,.data⟩,⟨5,.gcOnly .lateStores⟩],none⟩ ?_
 refine tkQ 3 ⟨some 23,.load 9 (.tmp 22),9,"funcs.go:41",#[⟨2,.data⟩,⟨5,.gcOnly .lateStores⟩],none⟩ ?_
 refine tkQ 4 ⟨some 24,.fieldAddr 66 (.tmp 4) 0,0,"funcs.go:41",#[⟨0,.phase⟩,⟨1,.textOnly .lateStores⟩,⟨2,.textOnly .lateStores⟩,⟨3,.textOnly .lateStores⟩],none⟩ ?_
 refine rdQ 5 ⟨none,.store 3 (.tmp 24) (.tmp 20),0,"funcs.go:41",#[⟨4,.data⟩,⟨0,.data⟩,⟨0,.phase⟩,⟨1,.textOnly .lateStores⟩,⟨2,.textOnly .lateStores⟩,⟨3,.textOnly .lateStores⟩],none⟩ (λK hK=>?_);go_simp
 refine hkQ hK (by rw [World.cell?_setCell_far _ _ _ _ (by simpa using hne)];exact hc5) (λhHeld=>?_);clear hK K
 have pS6:=pS5.set 0 (.int .i64 id);have pZ6:=pZ5.far (j:=w1.heap.size) (by omega) 0 (.int .i64 id);have hB6:Below w.heap.size w (WD.setCell ⟨w1.heap.size,0,none⟩ (.int .i64 id)):=hB5.setCell (p:=⟨w1.heap.size,0,none⟩) (show w.heap.size<=w1.heap.size by omega) _;have s2:=pS6.2.1 2 _ rfl;have f2:=pS6.2.2 2 (by simp);refine tkQ 6 ⟨some 25,.fieldAddr 66 (.tmp 4) 2,0,"funcs.go:41",#[⟨0,.phase⟩,⟨1,.phase⟩,⟨2,.phase⟩,⟨3,.phase⟩,⟨4,.phase⟩,⟨5,.phase⟩],none⟩ ?_
 refine rdQ 7 ⟨none,.store 9 (.tmp 25) (.tmp 23),0,"funcs.go:41",#[⟨6,.data⟩,⟨3,.data⟩,⟨5,.chain⟩,⟨0,.phase⟩,⟨1,.phase⟩,⟨2,.phase⟩,⟨3,.phase⟩,⟨4,.phase⟩,⟨5,.phase⟩],none⟩ (λK hK=>?_);go_simp
 refine hkQ hK (by rw [World.cell?_setCell_far _ _ _ _ (by simpa using hne)];exact hHeld) (λhHeld=>?_);clear hK K
 refine wpAnyH_done (by kernel_rfl) ?_ _;have pS8:AtL ((WD.setCell ⟨w1.heap.size,0,none⟩ (.int .i64 id)).setCell ⟨w1.heap.size,2,none⟩ (.string nm)) w1.heap.size (sg6 id s.c nm s.l s.m s.p):=pS6.set 2 (.string nm);have pZ8:=pZ6.far (j:=w1.heap.size) (by omega) 2 (.string nm);have hB8:Below w.heap.size w ((WD.setCell ⟨w1.heap.size,0,none⟩ (.int .i64 id)).setCell ⟨w1.heap.size,2,none⟩ (.string nm)):=hB6.setCell (p:=⟨w1.heap.size,2,none⟩) (show w.heap.size<=w1.heap.size by omega) _;clear pS5 pZ5 hB5 hc5 hHeld pS6 pZ6 hB6 s0 f0 s2 f2;generalize (WD.setCell ⟨w1.heap.size,0,none⟩ (.int .i64 id)).setCell ⟨w1.heap.size,2,none⟩ (.string nm)=W8 at *;have rS:=pS8.range;have hth:W8.there w.heap.size 0 (sg6 id s.c nm s.l s.m s.p).toArray.size:=pZ8.there;go_wp2_with (first
  | ((with_reducible refine wpList_load_mid (cs:=sg6 id s.c nm s.l s.m s.p) ?_ 66 (.tmp 4) ?_ (w1.heap.size) 0 ?_ _ ?_ underlying66 ?_ ?_ ?_);rfl;rfl;rfl;exact rS;rfl;kernel_rfl)
  | ((with_reducible refine wpList_store_mid ?_ 66 (.tmp 2) (.tmp 26) ?_ (w.heap.size) 0 (sg6 id s.c nm s.l s.m s.p).toArray ?_ ?_ ?_ ?_ ?_ ?_);rfl;rfl;rfl;rfl;exact hth;kernel_rfl;exact zO4 _ _ _ _ _ _))
 have pZ9:AtL (W8.setCells w.heap.size 0 (sg6 id s.c nm s.l s.m s.p)) w.heap.size (sg6 id s.c nm s.l s.m s.p):=pZ8.setAll rfl;have hB9:Below w.heap.size w (W8.setCells w.heap.size 0 (sg6 id s.c nm s.l s.m s.p)):=zAs hB8 (Nat.le_refl _) _ 0;obtain ⟨b0,b1,b2,b3,b4,b5,k0,k1,k2,k3,k4,k5⟩:=at6 pZ9;refine bodyPost_ret (v:=.tuple #[.agg (sg6 id s.c nm s.l s.m s.p).toArray,.bool true]) (by simp [results,results37,go_sem,b0,b1,b2,b3,b4,b5]) rfl ⟨rfl,hB9⟩
