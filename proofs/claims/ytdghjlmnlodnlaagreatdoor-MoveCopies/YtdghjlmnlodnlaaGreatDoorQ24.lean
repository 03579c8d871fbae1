/- TRefE, TRefF, TAppN. -/
import Derived.Test.YtdghjlmnlodnlaaGreatDoorQ23
set_option maxHeartbeats 4000000
set_option maxRecDepth 100000
namespace Go.Proofs.YtdghjlmnlodnlaaGreatDoor
open Tryz
open Go.RowKit
set_option linter.unusedVariables false
variable {L:List Wt.Nd}
abbrev zRp (k:Nat) (x:Wt.Nd) (W:World):Prop :=
 W.rangeAt k 0 (zAD x)/\W.cell? ⟨k,0,none⟩=some (.int .i64 3)/\W.cell? ⟨k,10,none⟩=some (.string x.a.s)/\W.cell? ⟨k,11,none⟩=some (.int .i64 x.a.r)/\W.cell? ⟨k,12,none⟩=some (.int .i64 x.a.c)/\W.cell? ⟨k,13,none⟩=some (.bool x.a.fr)/\W.cell? ⟨k,14,none⟩=some (.bool x.a.fc)/\W.cell? ⟨k,15,none⟩=some (.string x.b.s)/\W.cell? ⟨k,16,none⟩=some (.int .i64 x.b.r)/\W.cell? ⟨k,17,none⟩=some (.int .i64 x.b.c)/\W.cell? ⟨k,18,none⟩=some (.bool x.b.fr)/\W.cell? ⟨k,19,none⟩=some (.bool x.b.fc)
theorem zGj {k:Nat} {x:Wt.Nd} {W:World} (hk:x.k=3) (h:AtL W k (zAD x)):zRp k x W :=
 ⟨h.range,by rw [<-hk];exact h.2.1 0 _ rfl,h.2.1 10 _ rfl,h.2.1 11 _ rfl,h.2.1 12 _ rfl,h.2.1 13 _ rfl,h.2.1 14 _ rfl,h.2.1 15 _ rfl,h.2.1 16 _ rfl,h.2.1 17 _ rfl,h.2.1 18 _ rfl,h.2.1 19 _ rfl⟩
abbrev qe0:Oper:=⟨some 36,.load 30 (.tmp 1),30,"tree.go:72",#[],none⟩
abbrev qe1:Oper:=⟨some 37,.fieldAddr 30 (.tmp 1) 0,0,"tree.go:72",#[],none⟩
abbrev qe2:Oper:=⟨some 38,.load 3 (.tmp 37),3,"tree.go:72",#[⟨1,.data⟩],none⟩
abbrev qe3:Oper:=⟨some 39,.fieldAddr 30 (.tmp 1) 5,0,"tree.go:72",#[],none⟩
abbrev qe4:Oper:=⟨some 40,.load 28 (.tmp 39),28,"tree.go:72",#[⟨3,.data⟩],none⟩
abbrev qe5:Oper:=⟨some 41,.fieldAddr 30 (.tmp 1) 6,0,"tree.go:72",#[],none⟩
abbrev qe6:Oper:=⟨some 42,.load 28 (.tmp 41),28,"tree.go:72",#[⟨5,.data⟩],none⟩
abbrev qe7:Oper:=⟨some 43,.build 30 #[(0,.tmp 38),(5,.tmp 40),(6,.tmp 42)],30,"tree.go:72",#[⟨2,.data⟩,⟨4,.data⟩,⟨6,.data⟩],none⟩
abbrev qe8:Oper:=⟨some 44,.binOp BinOp.eql 30 (.tmp 36) (.tmp 43) 30,4,"tree.go:72",#[⟨0,.data⟩,⟨7,.data⟩],none⟩
abbrev qe9:Oper:=⟨some 45,.move (.tmp 44),4,"tree.go:72",#[⟨8,.data⟩],none⟩
abbrev zSA:Oper:=⟨some 46,.fieldAddr 30 (.tmp 1) 5,0,"tree.go:72",#[⟨9,.guard⟩],some (9,Bool.true)⟩
abbrev zRu:Oper:=⟨some 47,.load 28 (.tmp 46),28,"tree.go:72",#[⟨10,.data⟩,⟨9,.guard⟩],some (9,Bool.true)⟩
abbrev zRi:Oper:=⟨some 48,.call {callee:=Callee.value (Operand.func 77),args:=#[.tmp 47],argTypes:=#[28]},4,"tree.go:72",#[⟨11,.data⟩,⟨9,.chain⟩,⟨9,.guard⟩],some (9,Bool.true)⟩
abbrev zRw:Oper:=⟨some 49,.pick (.tmp 45) (.tmp 48) (Operand.const (Value.bool Bool.false)),4,"tree.go:72",#[⟨9,.data⟩,⟨12,.data⟩],none⟩
abbrev zRt:Oper:=⟨some 50,.move (.tmp 49),4,"tree.go:72",#[⟨13,.data⟩,⟨12,.chain⟩],none⟩
abbrev zR2:Oper:=⟨some 51,.fieldAddr 30 (.tmp 1) 6,0,"tree.go:72",#[⟨14,.guard⟩],some (14,Bool.true)⟩
abbrev zQz:Oper:=⟨some 52,.load 28 (.tmp 51),28,"tree.go:72",#[⟨15,.data⟩,⟨14,.guard⟩],some (14,Bool.true)⟩
abbrev zQw:Oper:=⟨some 53,.call {callee:=Callee.value (Operand.func 77),args:=#[.tmp 52],argTypes:=#[28]},4,"tree.go:72",#[⟨16,.data⟩,⟨14,.chain⟩,⟨14,.guard⟩],some (14,Bool.true)⟩
abbrev zRb:Oper:=⟨some 54,.pick (.tmp 50) (.tmp 53) (Operand.const (Value.bool Bool.false)),4,"tree.go:72",#[⟨14,.data⟩,⟨17,.data⟩],none⟩
abbrev zR7:Oper:=⟨some 55,.move (.tmp 54),4,"tree.go:72",#[⟨18,.data⟩,⟨17,.chain⟩],none⟩
abbrev zQ3:Oper:=⟨some 56,.fieldAddr 30 (.tmp 1) 6,0,"tree.go:72",#[⟨19,.guard⟩,⟨25,.gcOnly .lateStores⟩],some (19,Bool.true)⟩
abbrev zQK:Oper:=⟨some 57,.fieldAddr 28 (.tmp 56) 0,0,"tree.go:72",#[⟨20,.data⟩,⟨19,.guard⟩,⟨25,.gcOnly .lateStores⟩],some (19,Bool.true)⟩
abbrev zQ6:Oper:=⟨some 58,.load 9 (.tmp 57),9,"tree.go:72",#[⟨21,.data⟩,⟨19,.guard⟩,⟨25,.gcOnly .lateStores⟩],some (19,Bool.true)⟩
abbrev zQk:Oper:=⟨some 59,.binOp BinOp.eql 9 (.tmp 58) (Operand.const (Value.string {data:=#[]})) 9,4,"tree.go:72",#[⟨22,.data⟩,⟨19,.guard⟩,⟨25,.gcOnly .lateStores⟩],some (19,Bool.true)⟩
abbrev zQf:Oper:=⟨some 60,.pick (.tmp 55) (.tmp 59) (Operand.const (Value.bool Bool.false)),4,"tree.go:72",#[⟨19,.data⟩,⟨23,.data⟩,⟨25,.gcOnly .lateStores⟩],none⟩
abbrev zQa:Oper:=⟨some 2,.assign (Operand.const (Value.int IntKind.i64 0)),3,"tree.go:72",#[⟨19,.chain⟩,⟨0,.textOnly .lateStores⟩,⟨1,.textOnly .lateStores⟩,⟨2,.textOnly .lateStores⟩,⟨3,.textOnly .lateStores⟩,⟨4,.textOnly .lateStores⟩,⟨5,.textOnly .lateStores⟩,⟨6,.textOnly .lateStores⟩,⟨7,.textOnly .lateStores⟩,⟨8,.textOnly .lateStores⟩,⟨9,.textOnly .lateStores⟩,⟨10,.textOnly .lateStores⟩,⟨11,.textOnly .lateStores⟩,⟨12,.textOnly .lateStoresUnsure⟩,⟨13,.textOnly .lateStores⟩,⟨14,.textOnly .lateStores⟩,⟨15,.textOnly .lateStores⟩,⟨16,.textOnly .lateStores⟩,⟨17,.textOnly .lateStoresUnsure⟩,⟨18,.textOnly .lateStores⟩,⟨19,.textOnly .lateStores⟩,⟨20,.textOnly .lateStores⟩,⟨21,.textOnly .lateStores⟩,⟨22,.textOnly .lateStores⟩,⟨23,.textOnly .lateStores⟩,⟨24,.textOnly .lateStores⟩],none⟩
abbrev zQS:Oper:=⟨some 3,.assign (.tmp 60),4,"tree.go:72",#[⟨24,.data⟩,⟨25,.chain⟩,⟨0,.phase⟩,⟨1,.phase⟩,⟨2,.phase⟩,⟨3,.phase⟩,⟨4,.phase⟩,⟨5,.phase⟩,⟨6,.phase⟩,⟨7,.phase⟩,⟨8,.phase⟩,⟨9,.phase⟩,⟨10,.phase⟩,⟨11,.phase⟩,⟨12,.phase⟩,⟨13,.phase⟩,⟨14,.phase⟩,⟨15,.phase⟩,⟨16,.phase⟩,⟨17,.phase⟩,⟨18,.phase⟩,⟨19,.phase⟩,⟨20,.phase⟩,⟨21,.phase⟩,⟨22,.phase⟩,⟨23,.phase⟩,⟨24,.phase⟩,⟨25,.phase⟩],none⟩
theorem zOH (x:Wt.Nd) (w:World) (hk:x.k=3) (hs:x.a.s.size<=9223372036854775807) (hsb:x.b.s.size<=9223372036854775807) :
  CR 48 #[ndV x] w (.tuple #[.int .i64 0,.bool ((Wt.rfOk x.a && Wt.rfOk x.b && x.b.s.toList.isEmpty) && eqN x ⟨3,Wt.v0,0,⟨#[]⟩,0,x.a,x.b⟩)]):=by
 have hq:∀ w:World,(binOp .eql 30 (.agg (zAD x).toArray) (.agg #[.int .i64 3,.int .i64 0,.int .i64 0,.int .i64 0,.string ⟨#[]⟩,.bool false,.int .i64 0,.int .i64 0,.string ⟨#[]⟩,.int .i64 0,.string x.a.s,.int .i64 x.a.r,.int .i64 x.a.c,.bool x.a.fr,.bool x.a.fc,.string x.b.s,.int .i64 x.b.r,.int .i64 x.b.c,.bool x.b.fr,.bool x.b.fc])).run prog w=.ok (.bool (eqN x ⟨3,Wt.v0,0,⟨#[]⟩,0,x.a,x.b⟩)) w:=λw=>zBI x ⟨3,Wt.v0,0,⟨#[]⟩,0,x.a,x.b⟩ w
 generalize eqN x ⟨3,Wt.v0,0,⟨#[]⟩,0,x.a,x.b⟩=R at *;have CA:=λw=>zGb x.a w hs
 have CB:=λw=>zGb x.b w hsb
 generalize Wt.rfOk x.a=qa at *;generalize Wt.rfOk x.b=qb at *;have pA:AtL (w.alloc (.cells (zAD x).toArray 30)) w.heap.size (zAD x):=AtL.new0 w _ _;have hBa:Below w.heap.size w (w.alloc (.cells (zAD x).toArray 30)):=zAI (Below.refl _ w) _;show Calls _ _ #[.agg (zAD x).toArray] _ _
 go_enter func48,ntmps48;go_upto_region 1 with fail
 generalize (w.alloc (.cells (zAD x).toArray 30))=W0 at *;have a0:W0.cell? ⟨w.heap.size,0,none⟩=some (.int .i64 3):=by rw [<-hk];exact pA.2.1 0 _ rfl
 go_upto_region 7 with fail
 clear a0;refine wp_region_held_drew (S:=zRp w.heap.size x) (by kernel_rfl) (zGj hk (AtL.drew pA)) (λhHeld=>?_);refine wpAnyH_take (i:=0) (oi:=qe0) (v:=.agg (zAD x).toArray) rfl (by kernel_rfl) (by kernel_rfl) (by kernel_rfl) (λ_ _ _ h=>h) (yieldsIf_load_mid (by rfl) 30 (.tmp 1) rfl w.heap.size 0 rfl (zAD x) _ (λw h=>h.1) underlying30 rfl (by kernel_rfl)) (by assumption) ?_;try simp only [Act.put,lA,lZ,lS]
 refine tkQ 1 qe1 ?_
 refine tkQ 2 qe2 ?_
 refine tkQ 3 qe3 ?_
 refine tkQ 4 qe4 ?_
 refine tkQ 5 qe5 ?_
 refine tkQ 6 qe6 ?_
 refine tkQ 7 qe7 ?_
 refine tkQ 8 qe8 ?_
 refine tkQ 9 qe9 ?_
 cases R
 ·clear CA CB;refine tnQ 10 zSA ?_
  refine tnQ 11 zRu ?_
  refine tnQ 12 zRi ?_
  refine tkQ 13 zRw ?_
  refine tkQ 14 zRt ?_
  refine tnQ 15 zR2 ?_
  refine tnQ 16 zQz ?_
  refine tnQ 17 zQw ?_
  refine tkQ 18 zRb ?_
  refine tkQ 19 zR7 ?_
  refine tnQ 20 zQ3 ?_
  refine tnQ 21 zQK ?_
  refine tnQ 22 zQ6 ?_
  refine tnQ 23 zQk ?_
  refine tkQ 24 zQf ?_
  refine rdQ 25 zQa (λK hK=>?_);go_simp
  refine hkQ hK (by assumption) (λhHeld=>?_);clear hK K
  refine rdQ 26 zQS (λK hK=>?_);go_simp
  refine hkQ hK (by assumption) (λhHeld=>?_);clear hK K
  refine wpAnyH_done (by kernel_rfl) ?_ _;go_wp2;go_ret2
  exact ⟨by simp,hBa.drew⟩
 refine tkQ 10 zSA ?_
 refine tkQ 11 zRu ?_
 refine rdQ 12 zRi (λK hK=>?_);go_simp
 refine (CA _).mono ?_;rintro e w1 ⟨rfl,hb⟩;have pA1:=AtL.below hb (AtL.drew pA);have hB1:=zAA hBa.drew hb;clear hb;go_wp2_with fail
 refine hkQ hK (zGj hk pA1) (λhHeld=>?_);clear hK K
 refine tkQ 13 zRw ?_
 refine tkQ 14 zRt ?_
 cases qa
 ·clear CB;refine tnQ 15 zR2 ?_
  refine tnQ 16 zQz ?_
  refine tnQ 17 zQw ?_
  refine tkQ 18 zRb ?_
  refine tkQ 19 zR7 ?_
  refine tnQ 20 zQ3 ?_
  refine tnQ 21 zQK ?_
  refine tnQ 22 zQ6 ?_
  refine tnQ 23 zQk ?_
  refine tkQ 24 zQf ?_
  refine rdQ 25 zQa (λK hK=>?_);go_simp
  refine hkQ hK (by assumption) (λhHeld=>?_);clear hK K
  refine rdQ 26 zQS (λK hK=>?_);go_simp
  refine hkQ hK (by assumption) (λhHeld=>?_);clear hK K
  refine wpAnyH_done (by kernel_rfl) ?_ _;go_wp2;go_ret2
  exact ⟨by simp,hB1⟩
 refine tkQ 15 zR2 ?_
 refine tkQ 16 zQz ?_
 refine rdQ 17 zQw (λK hK=>?_);go_simp
 refine (CB _).mono ?_;rintro e w2 ⟨rfl,hb⟩;replace pA1:=AtL.below hb pA1
 replace hB1:=zAA hB1 hb
 clear hb;go_wp2_with fail
 refine hkQ hK (zGj hk pA1) (λhHeld=>?_);clear hK K
 refine tkQ 18 zRb ?_
 refine tkQ 19 zR7 ?_
 cases qb
 ·refine tnQ 20 zQ3 ?_
  refine tnQ 21 zQK ?_
  refine tnQ 22 zQ6 ?_
  refine tnQ 23 zQk ?_
  refine tkQ 24 zQf ?_
  refine rdQ 25 zQa (λK hK=>?_);go_simp
  refine hkQ hK (by assumption) (λhHeld=>?_);clear hK K
  refine rdQ 26 zQS (λK hK=>?_);go_simp
  refine hkQ hK (by assumption) (λhHeld=>?_);clear hK K
  refine wpAnyH_done (by kernel_rfl) ?_ _;go_wp2;go_ret2
  exact ⟨by simp,hB1⟩
 cases he:x.b.s.toList.isEmpty
 all_goals
  refine tkQ 20 zQ3 ?_
  refine tkQ 21 zQK ?_
  refine tkQ 22 zQ6 ?_
  refine tkQ 23 zQk ?_
  refine tkQ 24 zQf ?_
  refine rdQ 25 zQa (λK hK=>?_);go_simp
  refine hkQ hK (by assumption) (λhHeld=>?_);clear hK K
  refine rdQ 26 zQS (λK hK=>?_);go_simp
  refine hkQ hK (by assumption) (λhHeld=>?_);clear hK K
  refine wpAnyH_done (by kernel_rfl) ?_ _;go_wp2;go_ret2
  have he2:=he;simp only [List.isEmpty_iff,List.isEmpty_eq_false_iff] at he2;exact ⟨by simp [he2],hB1⟩
theorem zH8 {o:Int} (h21:¬ o=21) (h22:¬ o=22) (h23:¬ o=23) (h24:¬ o=24) (h25:¬ o=25) (h26:¬ o=26) (h16:¬ o=16) (h11:¬ o=11) (h12:¬ o=12) (h13:¬ o=13) (h14:¬ o=14) (h15:¬ o=15) (h1:¬ o=1) (h2:¬ o=2) (h3:¬ o=3):opK o=0:=by
 have e:Wt.opOf o=none:=by
  unfold Wt.opOf;rw [List.find?_eq_none];intro x hx;simp only [Wt.opsT,List.mem_cons,List.not_mem_nil,or_false] at hx;rcases hx with rfl | rfl | rfl | rfl | rfl | rfl | rfl | rfl | rfl | rfl | rfl | rfl | rfl | rfl | rfl <;> simp only [beq_iff_eq] <;> omega
 unfold opK;rw [e]
theorem zMu (o:Int):(opK o == 4)=zEG o:=by
 by_cases h21:o=21
 ·subst h21;rfl
 by_cases h22:o=22
 ·subst h22;rfl
 by_cases h23:o=23
 ·subst h23;rfl
 by_cases h24:o=24
 ·subst h24;rfl
 by_cases h25:o=25
 ·subst h25;rfl
 by_cases h26:o=26
 ·subst h26;rfl
 by_cases h16:o=16
 ·subst h16;rfl
 by_cases h11:o=11
 ·subst h11;rfl
 by_cases h12:o=12
 ·subst h12;rfl
 by_cases h13:o=13
 ·subst h13;rfl
 by_cases h14:o=14
 ·subst h14;rfl
 by_cases h15:o=15
 ·subst h15;rfl
 by_cases h1:o=1
 ·subst h1;rfl
 by_cases h2:o=2
 ·subst h2;rfl
 by_cases h3:o=3
 ·subst h3;rfl
 rw [zH8 h21 h22 h23 h24 h25 h26 h16 h11 h12 h13 h14 h15 h1 h2 h3];simp [zEG,h1,h2,h3]
theorem zIc (o:Int):(opK o == 5)=Wt.isBin o:=by
 by_cases h21:o=21
 ·subst h21;rfl
 by_cases h22:o=22
 ·subst h22;rfl
 by_cases h23:o=23
 ·subst h23;rfl
 by_cases h24:o=24
 ·subst h24;rfl
 by_cases h25:o=25
 ·subst h25;rfl
 by_cases h26:o=26
 ·subst h26;rfl
 by_cases h16:o=16
 ·subst h16;rfl
 by_cases h11:o=11
 ·subst h11;rfl
 by_cases h12:o=12
 ·subst h12;rfl
 by_cases h13:o=13
 ·subst h13;rfl
 by_cases h14:o=14
 ·subst h14;rfl
 by_cases h15:o=15
 ·subst h15;rfl
 by_cases h1:o=1
 ·subst h1;rfl
 by_cases h2:o=2
 ·subst h2;rfl
 by_cases h3:o=3
 ·subst h3;rfl
 rw [zH8 h21 h22 h23 h24 h25 h26 h16 h11 h12 h13 h14 h15 h1 h2 h3];unfold Wt.isBin;have e1:(decide (11<=o) && decide (o<=16))=false:=by
  rw [Bool.and_eq_false_iff,decide_eq_false_iff_not,decide_eq_false_iff_not];omega
 have e2:(decide (21<=o) && decide (o<=26))=false:=by
  rw [Bool.and_eq_false_iff,decide_eq_false_iff_not,decide_eq_false_iff_not];omega
 rw [e1,e2];rfl
theorem zNM (x:Wt.Nd) (w:World) (h1:(x.k == 1)=false) (h2:(x.k == 2)=false) (h3:(x.k == 3)=false) (h4:(x.k == 4)=false) (h5:(x.k == 5)=false) (h6:(x.k == 6)=false) :
  CR 48 #[ndV x] w (.tuple #[.int .i64 0,.bool false]):=by
 obtain ⟨k,hk⟩:∃ k,x.k=k:=⟨_,rfl⟩
 rw [hk] at h1 h2 h3 h4 h5 h6;have pA:AtL (w.alloc (.cells (zAD x).toArray 30)) w.heap.size (zAD x):=AtL.new0 w _ _;have hBa:Below w.heap.size w (w.alloc (.cells (zAD x).toArray 30)):=zAI (Below.refl _ w) _;show Calls _ _ #[.agg (zAD x).toArray] _ _
 go_enter func48,ntmps48;go_upto_region 1 with fail
 generalize (w.alloc (.cells (zAD x).toArray 30))=W0 at *;have a0:W0.cell? ⟨w.heap.size,0,none⟩=some (.int .i64 k):=by rw [<-hk];exact pA.2.1 0 _ rfl
 go_wp2;go_ret2
 exact ⟨rfl,hBa⟩
theorem zFm (x:Wt.Nd) (w:World) (hf:Wt.FitN x):CR 48 #[ndV x] w (.tuple #[.int .i64 (nps x),.bool (Wt.right x)]):=by
 obtain ⟨f1,f6,f7,f8⟩:=hf;unfold Wt.right nps;by_cases h1:x.k=1
 ·rw [if_pos h1,if_neg (by omega),if_neg (by omega),if_neg (by omega)];exact zN2 x w h1 f1
 rw [if_neg h1];by_cases h2:x.k=2
 ·rw [if_pos h2,if_neg (by omega),if_neg (by omega),if_neg (by omega)];exact zN3 x w h2 f7
 rw [if_neg h2];by_cases h3:x.k=3
 ·rw [if_pos h3,if_neg (by omega),if_neg (by omega),if_neg (by omega)];exact zOH x w h3 f7 f8
 rw [if_neg h3];by_cases h4:x.k=4
 ·rw [if_pos h4,if_pos h4,zMu];exact zO7 x w h4
 rw [if_neg h4,if_neg h4];by_cases h5:x.k=5
 ·rw [if_pos h5,if_pos h5,zIc];exact zNY x w h5
 rw [if_neg h5,if_neg h5];by_cases h6:x.k=6
 ·rw [if_pos h6,if_pos h6];exact zNR x w h6 f6
 rw [if_neg h6,if_neg h6];exact zNM x w (by simp [h1]) (by simp [h2]) (by simp [h3]) (by simp [h4]) (by simp [h5]) (by simp [h6])
theorem zGs (av:Option Addr) (cap:Nat) (L:List Wt.Nd) (hL:L.length<=256) (hF:∀ x ∈ L,Wt.FitN x) (f:Nat):f<=1000->∀ (p:Nat) (w:World),L.length<f+p->p<=256->RdN w av L ->
  CR 30 #[.slice av L.length cap,.int .i64 p] w (MP (Wt.one f (L.drop p)) p):=by
 have past:∀ (f p:Nat) (w:World),¬ p<L.length->p<=256->CR 30 #[.slice av L.length cap,.int .i64 p] w (MP (Wt.one f (L.drop p)) p):=by
  intro f p w hlt hp;have hd:L.drop p=[]:=List.drop_eq_nil_of_le (by omega);have E:Hid (Wt.one f (L.drop p)=none):=by
   show _=_
   rw [hd];cases f <;> rfl
  rw [E.out];clear E hd;have hli:(L.length:Int)<=(p:Int):=by omega
  go_enter func30,ntmps30;go_wp2;go_ret3
  exact ⟨rfl,Below.refl _ _⟩
 induction f with
 | zero=>intro _ p w hf hp hr;exact past 0 p w (by omega) hp
 | succ f ih =>
  intro hf1 p w hf hp hr;by_cases hlt:p<L.length
  ·clear past;replace ih:=ih (by omega)
   obtain ⟨bb,off,rfl,hx⟩:=hr p hlt;have hd:=List.drop_eq_getElem_cons hlt;have hfit:=hF _ (List.getElem_mem hlt);have HR:Hid (RdN w (some ⟨bb,off,none⟩) L):=hr;clear hr;rw [hd];generalize L[p]=x at *;have C:=zFm x w hfit;have hple:=@Wt.parts_le x;have hnp:=@zFY x;have hli:¬ (L.length:Int)<=(p:Int):=by omega
   cases hq:Wt.right x with
   | false =>
    rw [hq] at C;rw [zIw hq];generalize nps x=np at *;clear ih hnp hple;go_enter func30,ntmps30;go_wp2_with ((with_reducible refine zAE ?_ 30 (.tmp 21) ?_ bb (off+p * 20) ?_ (zAD x) _ ?_ underlying30 ?_ ?_ ?_);rfl;rfl;rfl;exact hx;rfl;kernel_rfl)
    refine C.mono ?_;rintro e w1 ⟨rfl,hb⟩;go_wp2;go_ret3
    exact ⟨rfl,hb⟩
   | true =>
    rw [hq] at C;obtain ⟨hk0,hk1⟩:=hple hq;rw [zKl hq];rw [hnp hq] at C;clear hple hq hnp;obtain ⟨k,hk⟩:∃ k:Nat,(Wt.parts x).toNat=k:=⟨_,rfl⟩
    have hkk:Wt.parts x=(k:Int):=by omega
    rw [hk];rw [hkk] at C;have hk2:k<=30:=by omega
    clear hk0 hk1 hk hkk;obtain ⟨R,hR⟩:∃ R,left f k L (p+1) 0=R:=⟨_,rfl⟩
    have E0:Hid (R=left f (k - 0) L (p+1) 0):=hR.symm;rw [hR];clear hR;have IH:Hid (∀ (p:Nat) (w:World),L.length<f+p->p<=256->RdN w (some ⟨bb,off,none⟩) L->CR 30 #[.slice (some ⟨bb,off,none⟩) L.length cap,.int .i64 p] w (MP (Wt.one f (L.drop p)) p)):=ih;clear ih;go_enter func30,ntmps30;go_wp2_with ((with_reducible refine zAE ?_ 30 (.tmp 21) ?_ bb (off+p * 20) ?_ (zAD x) _ ?_ underlying30 ?_ ?_ ?_);rfl;rfl;rfl;exact hx;rfl;kernel_rfl)
    refine C.mono ?_;rintro e w2 ⟨rfl,hB2⟩;have HR2:Hid (RdN w2 (some ⟨bb,off,none⟩) L):=HR.out.below hB2;clear C hx HR hfit;go_wp2_with fail
    go_loopg [1,9,10] k (λgk a b c wr=>∃ j e d:Nat,a=.int .i64 e/\b=.int .i64 d/\c=.int .i64 j/\gk=k - j/\j<=k/\p+1<=e/\e<=L.length/\d<=f/\Hid (R=left f (k - j) L e d)/\Below w.heap.size w wr/\Hid (RdN wr (some ⟨bb,off,none⟩) L))
    case atStart=>exact ⟨0,p+1,0,by simp,rfl,rfl,rfl,Nat.zero_le _,Nat.le_refl _,hlt,Nat.zero_le _,E0,hB2,HR2⟩
    case round =>
     obtain ⟨j,e,d,rfl,rfl,rfl,hg,hj,he1,he2,hdd,HE,hB,HR3⟩:=hrel;by_cases hjk:j<k
     ·have hji:(j:Int)<(k:Int):=by omega
      have M:=IH.out e wr (by omega) (by omega) HR3.out;have hkj:k - j=(k - (j+1))+1:=by omega
      rw [hkj] at HE;cases hone:Wt.one f (L.drop e) with
      | none =>
       have E:Hid (R=none):=by show _=_;rw [HE.out,zF5 hone]
       rw [hone] at M;clear HE hone IH;go_wp2_with fail
       refine M.mono ?_;rintro e9 w3 ⟨rfl,hb⟩;have hB3:=zAA hB hb;simp only [MP];go_wp2;go_ret3
       exact ⟨by rw [E.out];rfl,hB3⟩
      | some q =>
       obtain ⟨s,d'⟩:=q;have h1:=zD4 _ _ _ _ hone;have h2:=zBk _ _ _ _ hone;rw [List.length_drop] at h1;have E:Hid (R=left f (k - (j+1)) L (e+s) (max d d')):=by show _=_;rw [HE.out,zFH hone]
       rw [hone] at M;clear HE hone IH;go_wp2_with fail
       refine M.mono ?_;rintro e9 w3 ⟨rfl,hb⟩;have hB3:=zAA hB hb;have HR4:Hid (RdN w3 (some ⟨bb,off,none⟩) L):=HR3.out.below hb;simp only [MP];go_wp2_with fail
       all_goals
        go_roundg (k - (j+1))
        case rel=>exact ⟨j+1,e+s,max d d',by simp,by first | (simp;done) | (simp;omega),by simp,rfl,hjk,by omega,by omega,by omega,E,hB3,HR4⟩
        case measure=>omega
     ·have hji:¬ (j:Int)<(k:Int):=by omega
      have E:Hid (R=some (e,d)):=by show _=_;rw [HE.out,show k - j=0 by omega,zFj]
      clear HE IH;go_wp2;go_ret3
      exact ⟨by rw [E.out];rfl,hB⟩
  ·exact past (f+1) p w hlt hp
theorem zCt (av:Option Addr) (cap:Nat) (L:List Wt.Nd) (w:World) (hL:L.length<=9223372036854775807) (hF:∀ x ∈ L,Wt.FitN x) (hr:RdN w av L) :
  CR 16 #[.slice av L.length cap] w (.int .i64 (Wt.check L)):=by
 unfold Wt.check;by_cases h:256<L.length
 ·rw [if_pos h];have hi:(256:Int)<(L.length:Int):=by omega
  go_enter func16,ntmps16;go_wp2;go_ret;exact ⟨rfl,Below.refl _ _⟩
 rw [if_neg h];have hi:¬ (256:Int)<(L.length:Int):=by omega
 have M:=zGs av cap L (by omega) hF (L.length+1) (by omega) 0 w (by omega) (by omega) hr;rw [List.drop_zero] at M;have h1:=zD4 (L.length+1) L;cases hone:Wt.one (L.length+1) L with
 | none =>
  rw [hone] at M;clear h1;go_enter func16,ntmps16;go_wp2_with fail
  refine M.mono ?_;rintro e w1 ⟨rfl,hb⟩;simp only [MP];go_wp2;go_ret;exact ⟨rfl,hb⟩
 | some q =>
  obtain ⟨s,d⟩:=q;rw [hone] at M;have h2:=zBk _ _ _ _ hone;replace h1:=h1 s d hone
  simp only [MP,Nat.zero_add] at M;simp only;by_cases hs:s=L.length
  ·rw [if_neg (by omega)];have hsi:((s:Int) == (L.length:Int))=true:=by rw [beq_iff_eq];omega
   have hsi2:(s:Int)=(L.length:Int):=by omega
   by_cases hd:32<d
   ·rw [if_pos hd];have hdi:(32:Int)<(d:Int):=by omega
    go_enter func16,ntmps16;go_wp2_with fail
    refine M.mono ?_;rintro e w1 ⟨rfl,hb⟩;go_wp2;go_ret;exact ⟨rfl,hb⟩
   ·rw [if_neg hd];have hdi:¬ (32:Int)<(d:Int):=by omega
    go_enter func16,ntmps16;go_wp2_with fail
    refine M.mono ?_;rintro e w1 ⟨rfl,hb⟩;go_wp2;go_ret;exact ⟨rfl,hb⟩
  ·rw [if_pos hs];have hsi:((s:Int) == (L.length:Int))=false:=by rw [beq_eq_false_iff_ne];omega
   have hsi2:¬ (s:Int)=(L.length:Int):=by omega
   go_enter func16,ntmps16;go_wp2_with fail
   refine M.mono ?_;rintro e w1 ⟨rfl,hb⟩;go_wp2;go_ret;exact ⟨rfl,hb⟩
theorem RdN.at {w:World} {bb off:Nat} (h:RdN w (some ⟨bb,off,none⟩) L) (i:Nat) (hi:i<L.length):w.rangeAt bb (off+i * 20) (zAD L[i]):=by
 obtain ⟨b2,o2,e,hx⟩:=h i hi;simp only [Option.some.injEq,Addr.mk.injEq] at e;obtain ⟨rfl,rfl,-⟩:=e;exact hx
theorem zCR (hc:Wt.check L=0) (i:Nat) (hi:i<L.length):Wt.right L[i]=true:=by
 obtain ⟨h256,d,hone,hd⟩:=zA8 hc;obtain ⟨s',d',hs,hle,hdl⟩:=zEi _ _ _ _ hone i hi;rw [List.drop_eq_getElem_cons hi] at hs;exact (zH6 hs).1
open Go.RowKit Go.Shelf
theorem zFa (a b:List Wt.Nd):zA5 (a++b)=zA5 a++zA5 b:=by simp [zA5]
theorem zBA {ops:Array Oper} {rest:List Oper} {o:Oper} {a:Act} {Q:Exit->Act->World->Prop} (hw:Region.wanted o (yielded ops a.tmps)=true) (s x:Operand) (ho:o.op=.call {callee:=.builtin .append,args:=#[s,x],argTypes:=#[22,22]})
  (w0 w:World) (hB:Below w0.heap.size w0 w) (v:Value) (A:List Wt.Nd) (hs:a.eval s=v) (hown:OwnN w w0.heap.size v A) (av:Option Addr) (L:List Wt.Nd) (cap:Nat) (hx:a.eval x=.slice av L.length cap) (hr:RdN w av L) (hpos:0<L.length) (hl:True->A.length+L.length<=799644820179)
  (h:∀ v' w',OwnN w' w0.heap.size v' (A++L)->Below w0.heap.size w0 w'->wpList prog ops Q rest (a.put o.dst v') w'):wpList prog ops Q (o::rest) a w:=by
 obtain ⟨i0,hi0,hz0,hz1,hz2⟩:=info_parts zC6;have hl:=hl trivial;obtain ⟨bb,off,rfl,-⟩:=hr 0 hpos;refine BigFrame.wpList_want hw λ_ hK=>?_
 refine wp_append_own _ s x 22 ho w0.heap.size 30 i0 _ 20 176 underlying22 hi0 hz0 hz1 hz2 rfl (by decide) v A.length (zA5 A) hs hown ⟨bb,off,none⟩ L.length cap (zA5 L) hx (zA4 L) (hr.flat _ rfl) (zDc L) (by unfold maxLen;omega) (by omega) hB.size ?_;intro v' w' own hg _;refine hK _ _ (h v' w' ?_ ?_)
 ·unfold OwnN;rw [List.length_append,zFa];exact own
 ·refine hB.grown hg hB.size (λk e=>?_);rcases hown.2 with ⟨e2,_⟩ | ⟨g,cap',cur,e2,hg',_⟩
  ·rw [e2] at e;simp [Value.ownBlock] at e
  ·rw [e2] at e;simp [Value.ownBlock] at e;omega
theorem zAf (w:World) (x:Wt.Nd):OwnN (w.alloc (.cells (zAD x).toArray 30)) w.heap.size (.slice (some ⟨w.heap.size,0,none⟩) 1 1) [x]:=by
 refine ⟨rfl,.inr ⟨w.heap.size,1,(zAD x).toArray,rfl,Nat.le_refl _,heap_alloc_new w _,Nat.le_refl _,by unfold maxLen;omega,rfl,?_⟩⟩;simp [zA5];rfl
