/- TRefE. -/
import Derived.Test.YtdghjlmnlodnlaaGreatDoorQ25
set_option maxHeartbeats 4000000
set_option maxRecDepth 100000
namespace Go.Proofs.YtdghjlmnlodnlaaGreatDoor
open Go.RowKit Tryz
set_option linter.unusedVariables false
abbrev zQQ (k:Nat) (x:Wt.Nd) (W:World):Prop :=
 W.rangeAt k 0 (zAE x)/\W.cell? ⟨k,0,none⟩=some (.int .i64 3)/\W.cell? ⟨k,10,none⟩=some (.string x.a.s)/\W.cell? ⟨k,11,none⟩=some (.int .i64 x.a.r)/\W.cell? ⟨k,12,none⟩=some (.int .i64 x.a.c)/\W.cell? ⟨k,13,none⟩=some (.bool x.a.fr)/\W.cell? ⟨k,14,none⟩=some (.bool x.a.fc)/\W.cell? ⟨k,15,none⟩=some (.string x.b.s)/\W.cell? ⟨k,16,none⟩=some (.int .i64 x.b.r)/\W.cell? ⟨k,17,none⟩=some (.int .i64 x.b.c)/\W.cell? ⟨k,18,none⟩=some (.bool x.b.fr)/\W.cell? ⟨k,19,none⟩=some (.bool x.b.fc)
theorem zBn {k:Nat} {x:Wt.Nd} {W:World} (hk:x.k=3) (h:AtL W k (zAE x)):zQQ k x W :=
 ⟨h.range,by rw [<-hk];exact h.2.1 0 _ rfl,h.2.1 10 _ rfl,h.2.1 11 _ rfl,h.2.1 12 _ rfl,h.2.1 13 _ rfl,h.2.1 14 _ rfl,h.2.1 15 _ rfl,h.2.1 16 _ rfl,h.2.1 17 _ rfl,h.2.1 18 _ rfl,h.2.1 19 _ rfl⟩
abbrev qe0:Oper:=⟨some 36,.load 30 (.tmp 1),30,"tree.go:72",#[],none⟩
abbrev qe1:Oper:=⟨some 37,.fieldAddr 30 (.tmp 1) 0,0,"tree.go:72",#[],none⟩
abbrev qe2:Oper:=⟨some 38,.load 3 (.tmp 37),3,"tree.go:72",#[⟨1,.data⟩],none⟩
abbrev qe3:Oper:=⟨some 39,.fieldAddr 30 (.tmp 1) 5,0,"tree.go:72",#[],none⟩
abbrev qe4:Oper:=⟨some 40,.load 28 (.tmp 39),28,"tree.go:72",#[⟨3,.data⟩],none⟩
abbrev qe5:Oper:=⟨some 41,.fieldAddr 30 (.tmp 1) 6,0,"tree.go:72",#[],none⟩
abbrev qe6:Oper:=⟨some 42,.load 28 (.tmp 41),28,"tree.go:72",#[⟨5,.data⟩],none⟩
abbrev qe7:Oper:=⟨some 43,.build 30 #[(0,.tmp 38),(5,.tmp 40),(6,.tmp 42)],30,"tree.go:72",#[⟨2,.data⟩,⟨4,.data⟩,⟨6,.data⟩],none⟩
abbrev qe8:Oper:=⟨some 44,.binOp BinOp.eql 30 (.tmp 36) (.tmp 43) 30,4,"tree.go:72",#[⟨0,.data⟩,⟨7,.data⟩],none⟩
abbrev qe9:Oper:=⟨some 45,.move (.tmp 44),4,"tree.go:72",#[⟨8,.data⟩],none⟩
abbrev zRM:Oper:=⟨some 46,.fieldAddr 30 (.tmp 1) 5,0,"tree.go:72",#[⟨9,.guard⟩],some (9,Bool.true)⟩
abbrev zRN:Oper:=⟨some 47,.load 28 (.tmp 46),28,"tree.go:72",#[⟨10,.data⟩,⟨9,.guard⟩],some (9,Bool.true)⟩
abbrev zQm:Oper:=⟨some 48,.call {callee:=Callee.value (Operand.func 77),args:=#[.tmp 47],argTypes:=#[28]},4,"tree.go:72",#[⟨11,.data⟩,⟨9,.chain⟩,⟨9,.guard⟩],some (9,Bool.true)⟩
abbrev zQv:Oper:=⟨some 49,.pick (.tmp 45) (.tmp 48) (Operand.const (Value.bool Bool.false)),4,"tree.go:72",#[⟨9,.data⟩,⟨12,.data⟩],none⟩
abbrev zR7:Oper:=⟨some 50,.move (.tmp 49),4,"tree.go:72",#[⟨13,.data⟩,⟨12,.chain⟩],none⟩
abbrev zQu:Oper:=⟨some 51,.fieldAddr 30 (.tmp 1) 6,0,"tree.go:72",#[⟨14,.guard⟩],some (14,Bool.true)⟩
abbrev zRP:Oper:=⟨some 52,.load 28 (.tmp 51),28,"tree.go:72",#[⟨15,.data⟩,⟨14,.guard⟩],some (14,Bool.true)⟩
abbrev zRd:Oper:=⟨some 53,.call {callee:=Callee.value (Operand.func 77),args:=#[.tmp 52],argTypes:=#[28]},4,"tree.go:72",#[⟨16,.data⟩,⟨14,.chain⟩,⟨14,.guard⟩],some (14,Bool.true)⟩
abbrev zR3:Oper:=⟨some 54,.pick (.tmp 50) (.tmp 53) (Operand.const (Value.bool Bool.false)),4,"tree.go:72",#[⟨14,.data⟩,⟨17,.data⟩],none⟩
abbrev zRU:Oper:=⟨some 55,.move (.tmp 54),4,"tree.go:72",#[⟨18,.data⟩,⟨17,.chain⟩],none⟩
abbrev zRR:Oper:=⟨some 56,.fieldAddr 30 (.tmp 1) 6,0,"tree.go:72",#[⟨19,.guard⟩,⟨25,.gcOnly .lateStores⟩],some (19,Bool.true)⟩
abbrev zQs:Oper:=⟨some 57,.fieldAddr 28 (.tmp 56) 0,0,"tree.go:72",#[⟨20,.data⟩,⟨19,.guard⟩,⟨25,.gcOnly .lateStores⟩],some (19,Bool.true)⟩
abbrev zR6:Oper:=⟨some 58,.load 9 (.tmp 57),9,"tree.go:72",#[⟨21,.data⟩,⟨19,.guard⟩,⟨25,.gcOnly .lateStores⟩],some (19,Bool.true)⟩
abbrev zQx:Oper:=⟨some 59,.binOp BinOp.eql 9 (.tmp 58) (Operand.const (Value.string {data:=#[]})) 9,4,"tree.go:72",#[⟨22,.data⟩,⟨19,.guard⟩,⟨25,.gcOnly .lateStores⟩],some (19,Bool.true)⟩
abbrev zRZ:Oper:=⟨some 60,.pick (.tmp 55) (.tmp 59) (Operand.const (Value.bool Bool.false)),4,"tree.go:72",#[⟨19,.data⟩,⟨23,.data⟩,⟨25,.gcOnly .lateStores⟩],none⟩
abbrev zRI:Oper:=⟨some 2,.assign (Operand.const (Value.int IntKind.i64 0)),3,"tree.go:72",#[⟨19,.chain⟩,⟨0,.textOnly .lateStores⟩,⟨1,.textOnly .lateStores⟩,⟨2,.textOnly .lateStores⟩,⟨3,.textOnly .lateStores⟩,⟨4,.textOnly .lateStores⟩,⟨5,.textOnly .lateStores⟩,⟨6,.textOnly .lateStores⟩,⟨7,.textOnly .lateStores⟩,⟨8,.textOnly .lateStores⟩,⟨9,.textOnly .lateStores⟩,⟨10,.textOnly .lateStores⟩,⟨11,.textOnly .lateStores⟩,⟨12,.textOnly .lateStoresUnsure⟩,⟨13,.textOnly .lateStores⟩,⟨14,.textOnly .lateStores⟩,⟨15,.textOnly .lateStores⟩,⟨16,.textOnly .lateStores⟩,⟨17,.textOnly .lateStoresUnsure⟩,⟨18,.textOnly .lateStores⟩,⟨19,.textOnly .lateStores⟩,⟨20,.textOnly .lateStores⟩,⟨21,.textOnly .lateStores⟩,⟨22,.textOnly .lateStores⟩,⟨23,.textOnly .lateStores⟩,⟨24,.textOnly .lateStores⟩],none⟩
abbrev zRB:Oper:=⟨some 3,.assign (.tmp 60),4,"tree.go:72",#[⟨24,.data⟩,⟨25,.chain⟩,⟨0,.phase⟩,⟨1,.phase⟩,⟨2,.phase⟩,⟨3,.phase⟩,⟨4,.phase⟩,⟨5,.phase⟩,⟨6,.phase⟩,⟨7,.phase⟩,⟨8,.phase⟩,⟨9,.phase⟩,⟨10,.phase⟩,⟨11,.phase⟩,⟨12,.phase⟩,⟨13,.phase⟩,⟨14,.phase⟩,⟨15,.phase⟩,⟨16,.phase⟩,⟨17,.phase⟩,⟨18,.phase⟩,⟨19,.phase⟩,⟨20,.phase⟩,⟨21,.phase⟩,⟨22,.phase⟩,⟨23,.phase⟩,⟨24,.phase⟩,⟨25,.phase⟩],none⟩
theorem zN6 (x:Wt.Nd) (w:World) (hk:x.k=3) (hs:x.a.s.size<=9223372036854775807) (hsb:x.b.s.size<=9223372036854775807) :
  CR 48 #[ndV x] w (.tuple #[.int .i64 0,.bool ((Wt.rfOk x.a && Wt.rfOk x.b && x.b.s.toList.isEmpty) && eqN x ⟨3,Wt.v0,0,⟨#[]⟩,0,x.a,x.b⟩)]):=by
 have hq:∀ w:World,(binOp .eql 30 (.agg (zAE x).toArray) (.agg #[.int .i64 3,.int .i64 0,.int .i64 0,.int .i64 0,.string ⟨#[]⟩,.bool false,.int .i64 0,.int .i64 0,.string ⟨#[]⟩,.int .i64 0,.string x.a.s,.int .i64 x.a.r,.int .i64 x.a.c,.bool x.a.fr,.bool x.a.fc,.string x.b.s,.int .i64 x.b.r,.int .i64 x.b.c,.bool x.b.fr,.bool x.b.fc])).run prog w=.ok (.bool (eqN x ⟨3,Wt.v0,0,⟨#[]⟩,0,x.a,x.b⟩)) w:=λw=>zBK x ⟨3,Wt.v0,0,⟨#[]⟩,0,x.a,x.b⟩ w
 generalize eqN x ⟨3,Wt.v0,0,⟨#[]⟩,0,x.a,x.b⟩=R at *;have CA:=λw=>zGX x.a w hs
 have CB:=λw=>zGX x.b w hsb
 generalize Wt.rfOk x.a=qa at *;generalize Wt.rfOk x.b=qb at *;have pA:AtL (w.alloc (.cells (zAE x).toArray 30)) w.heap.size (zAE x):=AtL.new0 w _ _;have hBa:Below w.heap.size w (w.alloc (.cells (zAE x).toArray 30)):=zAI (Below.refl _ w) _;show Calls _ _ #[.agg (zAE x).toArray] _ _
 cases R
 ·clear CA CB;go_enter func48,ntmps48;go_upto_region 1 with fail
  generalize (w.alloc (.cells (zAE x).toArray 30))=W0 at *;have a0:W0.cell? ⟨w.heap.size,0,none⟩=some (.int .i64 3):=by rw [<-hk];exact pA.2.1 0 _ rfl
  go_upto_region 7 with fail
  clear a0;refine wp_region_held_drew (S:=zQQ w.heap.size x) (by kernel_rfl) (zBn hk (AtL.drew pA)) (λhHeld=>?_);refine wpAnyH_take (i:=0) (oi:=qe0) (v:=.agg (zAE x).toArray) rfl (by kernel_rfl) (by kernel_rfl) (by kernel_rfl) (λ_ _ _ h=>h) (yieldsIf_load_mid (by rfl) 30 (.tmp 1) rfl w.heap.size 0 rfl (zAE x) _ (λw h=>h.1) underlying30 rfl (by kernel_rfl)) (by assumption) ?_;try simp only [Act.put,lA,lZ,lS]
  refine tkQ 1 qe1 ?_
  refine tkQ 2 qe2 ?_
  refine tkQ 3 qe3 ?_
  refine tkQ 4 qe4 ?_
  refine tkQ 5 qe5 ?_
  refine tkQ 6 qe6 ?_
  refine tkQ 7 qe7 ?_
  refine tkQ 8 qe8 ?_
  refine tkQ 9 qe9 ?_
  refine tnQ 10 zRM ?_
  refine tnQ 11 zRN ?_
  refine tnQ 12 zQm ?_
  refine tkQ 13 zQv ?_
  refine tkQ 14 zR7 ?_
  refine tnQ 15 zQu ?_
  refine tnQ 16 zRP ?_
  refine tnQ 17 zRd ?_
  refine tkQ 18 zR3 ?_
  refine tkQ 19 zRU ?_
  refine tnQ 20 zRR ?_
  refine tnQ 21 zQs ?_
  refine tnQ 22 zR6 ?_
  refine tnQ 23 zQx ?_
  refine tkQ 24 zRZ ?_
  refine rdQ 25 zRI (λK hK=>?_);go_simp
  refine hK.out _ _ (by assumption) (λhHeld=>?_);clear hK K;try simp only [Act.put,lA,lZ,lS]
  refine rdQ 26 zRB (λK hK=>?_);go_simp
  refine hK.out _ _ (by assumption) (λhHeld=>?_);clear hK K;try simp only [Act.put,lA,lZ,lS]
  refine wpAnyH_done (by kernel_rfl) ?_ _;go_wp2;go_ret2
  exact ⟨by simp,hBa.drew⟩
 cases qa
 ·clear CB;go_enter func48,ntmps48;go_upto_region 1 with fail
  generalize (w.alloc (.cells (zAE x).toArray 30))=W0 at *;have a0:W0.cell? ⟨w.heap.size,0,none⟩=some (.int .i64 3):=by rw [<-hk];exact pA.2.1 0 _ rfl
  go_upto_region 7 with fail
  clear a0;refine wp_region_held_drew (S:=zQQ w.heap.size x) (by kernel_rfl) (zBn hk (AtL.drew pA)) (λhHeld=>?_);refine wpAnyH_take (i:=0) (oi:=qe0) (v:=.agg (zAE x).toArray) rfl (by kernel_rfl) (by kernel_rfl) (by kernel_rfl) (λ_ _ _ h=>h) (yieldsIf_load_mid (by rfl) 30 (.tmp 1) rfl w.heap.size 0 rfl (zAE x) _ (λw h=>h.1) underlying30 rfl (by kernel_rfl)) (by assumption) ?_;try simp only [Act.put,lA,lZ,lS]
  refine tkQ 1 qe1 ?_
  refine tkQ 2 qe2 ?_
  refine tkQ 3 qe3 ?_
  refine tkQ 4 qe4 ?_
  refine tkQ 5 qe5 ?_
  refine tkQ 6 qe6 ?_
  refine tkQ 7 qe7 ?_
  refine tkQ 8 qe8 ?_
  refine tkQ 9 qe9 ?_
  refine tkQ 10 zRM ?_
  refine tkQ 11 zRN ?_
  refine rdQ 12 zQm (λK hK=>?_);go_simp
  refine (CA _).mono ?_;rintro e w1 ⟨rfl,hb⟩;have pA1:=AtL.below hb (AtL.drew pA);have hB1:=zAA hBa.drew hb;clear hb;go_wp2_with fail
  refine hK.out _ _ (zBn hk pA1) (λhHeld=>?_);clear hK K;try simp only [Act.put,lA,lZ,lS]
  refine tkQ 13 zQv ?_
  refine tkQ 14 zR7 ?_
  refine tnQ 15 zQu ?_
  refine tnQ 16 zRP ?_
  refine tnQ 17 zRd ?_
  refine tkQ 18 zR3 ?_
  refine tkQ 19 zRU ?_
  refine tnQ 20 zRR ?_
  refine tnQ 21 zQs ?_
  refine tnQ 22 zR6 ?_
  refine tnQ 23 zQx ?_
  refine tkQ 24 zRZ ?_
  refine rdQ 25 zRI (λK hK=>?_);go_simp
  refine hK.out _ _ (by assumption) (λhHeld=>?_);clear hK K;try simp only [Act.put,lA,lZ,lS]
  refine rdQ 26 zRB (λK hK=>?_);go_simp
  refine hK.out _ _ (by assumption) (λhHeld=>?_);clear hK K;try simp only [Act.put,lA,lZ,lS]
  refine wpAnyH_done (by kernel_rfl) ?_ _;go_wp2;go_ret2
  exact ⟨by simp,hB1⟩
 cases qb
 ·skip
  go_enter func48,ntmps48;go_upto_region 1 with fail
  generalize (w.alloc (.cells (zAE x).toArray 30))=W0 at *;have a0:W0.cell? ⟨w.heap.size,0,none⟩=some (.int .i64 3):=by rw [<-hk];exact pA.2.1 0 _ rfl
  go_upto_region 7 with fail
  clear a0;refine wp_region_held_drew (S:=zQQ w.heap.size x) (by kernel_rfl) (zBn hk (AtL.drew pA)) (λhHeld=>?_);refine wpAnyH_take (i:=0) (oi:=qe0) (v:=.agg (zAE x).toArray) rfl (by kernel_rfl) (by kernel_rfl) (by kernel_rfl) (λ_ _ _ h=>h) (yieldsIf_load_mid (by rfl) 30 (.tmp 1) rfl w.heap.size 0 rfl (zAE x) _ (λw h=>h.1) underlying30 rfl (by kernel_rfl)) (by assumption) ?_;try simp only [Act.put,lA,lZ,lS]
  refine tkQ 1 qe1 ?_
  refine tkQ 2 qe2 ?_
  refine tkQ 3 qe3 ?_
  refine tkQ 4 qe4 ?_
  refine tkQ 5 qe5 ?_
  refine tkQ 6 qe6 ?_
  refine tkQ 7 qe7 ?_
  refine tkQ 8 qe8 ?_
  refine tkQ 9 qe9 ?_
  refine tkQ 10 zRM ?_
  refine tkQ 11 zRN ?_
  refine rdQ 12 zQm (λK hK=>?_);go_simp
  refine (CA _).mono ?_;rintro e w1 ⟨rfl,hb⟩;have pA1:=AtL.below hb (AtL.drew pA);have hB1:=zAA hBa.drew hb;clear hb;go_wp2_with fail
  refine hK.out _ _ (zBn hk pA1) (λhHeld=>?_);clear hK K;try simp only [Act.put,lA,lZ,lS]
  refine tkQ 13 zQv ?_
  refine tkQ 14 zR7 ?_
  refine tkQ 15 zQu ?_
  refine tkQ 16 zRP ?_
  refine rdQ 17 zRd (λK hK=>?_);go_simp
  refine (CB _).mono ?_;rintro e w2 ⟨rfl,hb⟩;replace pA1:=AtL.below hb pA1
  replace hB1:=zAA hB1 hb
  clear hb;go_wp2_with fail
  refine hK.out _ _ (zBn hk pA1) (λhHeld=>?_);clear hK K;try simp only [Act.put,lA,lZ,lS]
  refine tkQ 18 zR3 ?_
  refine tkQ 19 zRU ?_
  refine tnQ 20 zRR ?_
  refine tnQ 21 zQs ?_
  refine tnQ 22 zR6 ?_
  refine tnQ 23 zQx ?_
  refine tkQ 24 zRZ ?_
  refine rdQ 25 zRI (λK hK=>?_);go_simp
  refine hK.out _ _ (by assumption) (λhHeld=>?_);clear hK K;try simp only [Act.put,lA,lZ,lS]
  refine rdQ 26 zRB (λK hK=>?_);go_simp
  refine hK.out _ _ (by assumption) (λhHeld=>?_);clear hK K;try simp only [Act.put,lA,lZ,lS]
  refine wpAnyH_done (by kernel_rfl) ?_ _;go_wp2;go_ret2
  exact ⟨by simp,hB1⟩
 cases he:x.b.s.toList.isEmpty
 all_goals
  skip
  go_enter func48,ntmps48;go_upto_region 1 with fail
  generalize (w.alloc (.cells (zAE x).toArray 30))=W0 at *;have a0:W0.cell? ⟨w.heap.size,0,none⟩=some (.int .i64 3):=by rw [<-hk];exact pA.2.1 0 _ rfl
  go_upto_region 7 with fail
  clear a0;refine wp_region_held_drew (S:=zQQ w.heap.size x) (by kernel_rfl) (zBn hk (AtL.drew pA)) (λhHeld=>?_);refine wpAnyH_take (i:=0) (oi:=qe0) (v:=.agg (zAE x).toArray) rfl (by kernel_rfl) (by kernel_rfl) (by kernel_rfl) (λ_ _ _ h=>h) (yieldsIf_load_mid (by rfl) 30 (.tmp 1) rfl w.heap.size 0 rfl (zAE x) _ (λw h=>h.1) underlying30 rfl (by kernel_rfl)) (by assumption) ?_;try simp only [Act.put,lA,lZ,lS]
  refine tkQ 1 qe1 ?_
  refine tkQ 2 qe2 ?_
  refine tkQ 3 qe3 ?_
  refine tkQ 4 qe4 ?_
  refine tkQ 5 qe5 ?_
  refine tkQ 6 qe6 ?_
  refine tkQ 7 qe7 ?_
  refine tkQ 8 qe8 ?_
  refine tkQ 9 qe9 ?_
  refine tkQ 10 zRM ?_
  refine tkQ 11 zRN ?_
  refine rdQ 12 zQm (λK hK=>?_);go_simp
  refine (CA _).mono ?_;rintro e w1 ⟨rfl,hb⟩;have pA1:=AtL.below hb (AtL.drew pA);have hB1:=zAA hBa.drew hb;clear hb;go_wp2_with fail
  refine hK.out _ _ (zBn hk pA1) (λhHeld=>?_);clear hK K;try simp only [Act.put,lA,lZ,lS]
  refine tkQ 13 zQv ?_
  refine tkQ 14 zR7 ?_
  refine tkQ 15 zQu ?_
  refine tkQ 16 zRP ?_
  refine rdQ 17 zRd (λK hK=>?_);go_simp
  refine (CB _).mono ?_;rintro e w2 ⟨rfl,hb⟩;replace pA1:=AtL.below hb pA1
  replace hB1:=zAA hB1 hb
  clear hb;go_wp2_with fail
  refine hK.out _ _ (zBn hk pA1) (λhHeld=>?_);clear hK K;try simp only [Act.put,lA,lZ,lS]
  refine tkQ 18 zR3 ?_
  refine tkQ 19 zRU ?_
  refine tkQ 20 zRR ?_
  refine tkQ 21 zQs ?_
  refine tkQ 22 zR6 ?_
  refine tkQ 23 zQx ?_
  refine tkQ 24 zRZ ?_
  refine rdQ 25 zRI (λK hK=>?_);go_simp
  refine hK.out _ _ (by assumption) (λhHeld=>?_);clear hK K;try simp only [Act.put,lA,lZ,lS]
  refine rdQ 26 zRB (λK hK=>?_);go_simp
  refine hK.out _ _ (by assumption) (λhHeld=>?_);clear hK K;try simp only [Act.put,lA,lZ,lS]
  refine wpAnyH_done (by kernel_rfl) ?_ _;go_wp2;go_ret2
  exact ⟨by simp,hB1⟩
end Go.Proofs.YtdghjlmnlodnlaaGreatDoor
