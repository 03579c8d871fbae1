/- TRefD. -/
import Derived.Test.YtdghjlmnlodnlaaGreatDoorQ22
set_option maxHeartbeats 4000000
set_option maxRecDepth 100000
namespace Go.Proofs.YtdghjlmnlodnlaaGreatDoor
open Tryz
open Go.RowKit
set_option linter.unusedVariables false
variable {k:Nat} {x:Wt.Nd} {W:World}
def zEG (o:Int):Bool:=decide (o=1) || decide (o=2) || decide (o=3)
abbrev zRm (k:Nat) (x:Wt.Nd) (W:World):Prop :=
 W.rangeAt k 0 (zAD x)/\W.cell? ⟨k,0,none⟩=some (.int .i64 4)/\W.cell? ⟨k,7,none⟩=some (.int .i64 x.op)
theorem zNb (hk:x.k=4) (h:AtL W k (zAD x)):zRm k x W :=
 ⟨h.range,by rw [<-hk];exact h.2.1 0 _ rfl,h.2.1 7 _ rfl⟩
abbrev zSE (k:Nat) (x:Wt.Nd) (W:World):Prop :=
 W.rangeAt k 0 (zAD x)/\W.cell? ⟨k,0,none⟩=some (.int .i64 6)/\W.cell? ⟨k,8,none⟩=some (.string x.nm)/\W.cell? ⟨k,9,none⟩=some (.int .i64 x.ar)
theorem zNi (hk:x.k=6) (h:AtL W k (zAD x)):zSE k x W :=
 ⟨h.range,by rw [<-hk];exact h.2.1 0 _ rfl,h.2.1 8 _ rfl,h.2.1 9 _ rfl⟩
abbrev qd0:Oper:=⟨some 63,.load 30 (.tmp 1),30,"tree.go:74",#[],none⟩
abbrev qd1:Oper:=⟨some 64,.fieldAddr 30 (.tmp 1) 0,0,"tree.go:74",#[],none⟩
abbrev qd2:Oper:=⟨some 65,.load 3 (.tmp 64),3,"tree.go:74",#[⟨1,.data⟩],none⟩
abbrev qd3:Oper:=⟨some 66,.fieldAddr 30 (.tmp 1) 2,0,"tree.go:74",#[],none⟩
abbrev qd4:Oper:=⟨some 67,.load 3 (.tmp 66),3,"tree.go:74",#[⟨3,.data⟩],none⟩
abbrev qd5:Oper:=⟨some 68,.build 30 #[(0,.tmp 65),(2,.tmp 67)],30,"tree.go:74",#[⟨2,.data⟩,⟨4,.data⟩],none⟩
abbrev qd6:Oper:=⟨some 69,.binOp BinOp.eql 30 (.tmp 63) (.tmp 68) 30,4,"tree.go:74",#[⟨0,.data⟩,⟨5,.data⟩],none⟩
abbrev qd7:Oper:=⟨some 70,.move (.tmp 69),4,"tree.go:74",#[⟨6,.data⟩],none⟩
abbrev qd8:Oper:=⟨some 71,.fieldAddr 30 (.tmp 1) 2,0,"tree.go:74",#[⟨7,.guard⟩],some (7,Bool.true)⟩
abbrev qd9:Oper:=⟨some 72,.load 3 (.tmp 71),3,"tree.go:74",#[⟨8,.data⟩,⟨7,.guard⟩],some (7,Bool.true)⟩
abbrev zQP:Oper:=⟨some 73,.binOp BinOp.eql 3 (.tmp 72) (Operand.const (Value.int IntKind.i64 1)) 3,4,"tree.go:74",#[⟨9,.data⟩,⟨7,.guard⟩],some (7,Bool.true)⟩
abbrev zQU:Oper:=⟨some 74,.move (.tmp 73),4,"tree.go:74",#[⟨10,.data⟩,⟨7,.chain⟩,⟨7,.guard⟩],some (7,Bool.true)⟩
abbrev zQO:Oper:=⟨some 75,.fieldAddr 30 (.tmp 1) 2,0,"tree.go:74",#[⟨11,.guard⟩],some (11,Bool.false)⟩
abbrev zQF:Oper:=⟨some 76,.load 3 (.tmp 75),3,"tree.go:74",#[⟨12,.data⟩,⟨11,.guard⟩],some (11,Bool.false)⟩
abbrev zQ2:Oper:=⟨some 77,.binOp BinOp.eql 3 (.tmp 76) (Operand.const (Value.int IntKind.i64 2)) 3,4,"tree.go:74",#[⟨13,.data⟩,⟨11,.guard⟩],some (11,Bool.false)⟩
abbrev zQb:Oper:=⟨some 78,.pick (.tmp 74) (Operand.const (Value.bool Bool.true)) (.tmp 77),4,"tree.go:74",#[⟨11,.data⟩,⟨14,.data⟩,⟨7,.guard⟩],some (7,Bool.true)⟩
abbrev zQg:Oper:=⟨some 79,.move (.tmp 78),4,"tree.go:74",#[⟨15,.data⟩,⟨11,.chain⟩,⟨7,.guard⟩],some (7,Bool.true)⟩
abbrev zQH:Oper:=⟨some 80,.fieldAddr 30 (.tmp 1) 2,0,"tree.go:74",#[⟨16,.guard⟩,⟨22,.gcOnly .lateStores⟩],some (16,Bool.false)⟩
abbrev zQe:Oper:=⟨some 81,.load 3 (.tmp 80),3,"tree.go:74",#[⟨17,.data⟩,⟨16,.guard⟩,⟨22,.gcOnly .lateStores⟩],some (16,Bool.false)⟩
abbrev zQM:Oper:=⟨some 82,.binOp BinOp.eql 3 (.tmp 81) (Operand.const (Value.int IntKind.i64 3)) 3,4,"tree.go:74",#[⟨18,.data⟩,⟨16,.guard⟩,⟨22,.gcOnly .lateStores⟩],some (16,Bool.false)⟩
abbrev zQl:Oper:=⟨some 83,.pick (.tmp 79) (Operand.const (Value.bool Bool.true)) (.tmp 82),4,"tree.go:74",#[⟨16,.data⟩,⟨19,.data⟩,⟨7,.guard⟩,⟨22,.gcOnly .lateStores⟩],some (7,Bool.true)⟩
abbrev zQ1:Oper:=⟨some 84,.pick (.tmp 70) (.tmp 83) (Operand.const (Value.bool Bool.false)),4,"tree.go:74",#[⟨7,.data⟩,⟨20,.data⟩,⟨22,.gcOnly .lateStores⟩],none⟩
abbrev zQh:Oper:=⟨some 2,.assign (Operand.const (Value.int IntKind.i64 1)),3,"tree.go:74",#[⟨16,.chain⟩,⟨0,.textOnly .lateStores⟩,⟨1,.textOnly .lateStores⟩,⟨2,.textOnly .lateStores⟩,⟨3,.textOnly .lateStores⟩,⟨4,.textOnly .lateStores⟩,⟨5,.textOnly .lateStores⟩,⟨6,.textOnly .lateStores⟩,⟨7,.textOnly .lateStores⟩,⟨8,.textOnly .lateStores⟩,⟨9,.textOnly .lateStores⟩,⟨10,.textOnly .lateStores⟩,⟨11,.textOnly .lateStores⟩,⟨12,.textOnly .lateStores⟩,⟨13,.textOnly .lateStores⟩,⟨14,.textOnly .lateStores⟩,⟨15,.textOnly .lateStores⟩,⟨16,.textOnly .lateStores⟩,⟨17,.textOnly .lateStores⟩,⟨18,.textOnly .lateStores⟩,⟨19,.textOnly .lateStores⟩,⟨20,.textOnly .lateStores⟩,⟨21,.textOnly .lateStores⟩],none⟩
abbrev zQZ:Oper:=⟨some 3,.assign (.tmp 84),4,"tree.go:74",#[⟨21,.data⟩,⟨22,.chain⟩,⟨0,.phase⟩,⟨1,.phase⟩,⟨2,.phase⟩,⟨3,.phase⟩,⟨4,.phase⟩,⟨5,.phase⟩,⟨6,.phase⟩,⟨7,.phase⟩,⟨8,.phase⟩,⟨9,.phase⟩,⟨10,.phase⟩,⟨11,.phase⟩,⟨12,.phase⟩,⟨13,.phase⟩,⟨14,.phase⟩,⟨15,.phase⟩,⟨16,.phase⟩,⟨17,.phase⟩,⟨18,.phase⟩,⟨19,.phase⟩,⟨20,.phase⟩,⟨21,.phase⟩,⟨22,.phase⟩],none⟩
abbrev zSQ:Oper:=⟨some 101,.fieldAddr 30 (.tmp 1) 4,0,"tree.go:78",#[],none⟩
abbrev zS1:Oper:=⟨some 102,.load 3 (.tmp 101),3,"tree.go:78",#[⟨0,.data⟩],none⟩
abbrev zSS:Oper:=⟨some 103,.load 30 (.tmp 1),30,"tree.go:78",#[],none⟩
abbrev zSP:Oper:=⟨some 104,.fieldAddr 30 (.tmp 1) 0,0,"tree.go:78",#[],none⟩
abbrev zSR:Oper:=⟨some 105,.load 3 (.tmp 104),3,"tree.go:78",#[⟨3,.data⟩],none⟩
abbrev zSI:Oper:=⟨some 106,.fieldAddr 30 (.tmp 1) 3,0,"tree.go:78",#[],none⟩
abbrev zSJ:Oper:=⟨some 107,.load 9 (.tmp 106),9,"tree.go:78",#[⟨5,.data⟩],none⟩
abbrev zSH:Oper:=⟨some 108,.fieldAddr 30 (.tmp 1) 4,0,"tree.go:78",#[],none⟩
abbrev zSG:Oper:=⟨some 109,.load 3 (.tmp 108),3,"tree.go:78",#[⟨7,.data⟩],none⟩
abbrev zSU:Oper:=⟨some 110,.build 30 #[(0,.tmp 105),(3,.tmp 107),(4,.tmp 109)],30,"tree.go:78",#[⟨4,.data⟩,⟨6,.data⟩,⟨8,.data⟩],none⟩
abbrev zS3:Oper:=⟨some 111,.binOp BinOp.eql 30 (.tmp 103) (.tmp 110) 30,4,"tree.go:78",#[⟨2,.data⟩,⟨9,.data⟩],none⟩
abbrev zSM:Oper:=⟨some 112,.move (.tmp 111),4,"tree.go:78",#[⟨10,.data⟩],none⟩
abbrev zSC:Oper:=⟨some 113,.fieldAddr 30 (.tmp 1) 3,0,"tree.go:78",#[⟨11,.guard⟩],some (11,Bool.true)⟩
abbrev zRn:Oper:=⟨some 114,.load 9 (.tmp 113),9,"tree.go:78",#[⟨12,.data⟩,⟨11,.guard⟩],some (11,Bool.true)⟩
abbrev zSD:Oper:=⟨some 115,.call {callee:=Callee.value (Operand.func 79),args:=#[.tmp 114,Operand.const (Value.bool Bool.false)],argTypes:=#[9,4]},4,"tree.go:78",#[⟨13,.data⟩,⟨11,.chain⟩,⟨11,.guard⟩],some (11,Bool.true)⟩
abbrev zRg:Oper:=⟨some 116,.pick (.tmp 112) (.tmp 115) (Operand.const (Value.bool Bool.false)),4,"tree.go:78",#[⟨11,.data⟩,⟨14,.data⟩],none⟩
abbrev zRl:Oper:=⟨some 117,.move (.tmp 116),4,"tree.go:78",#[⟨15,.data⟩,⟨14,.chain⟩],none⟩
abbrev zRK:Oper:=⟨some 118,.fieldAddr 30 (.tmp 1) 4,0,"tree.go:78",#[⟨16,.guard⟩],some (16,Bool.true)⟩
abbrev zRQ:Oper:=⟨some 119,.load 3 (.tmp 118),3,"tree.go:78",#[⟨17,.data⟩,⟨16,.guard⟩],some (16,Bool.true)⟩
abbrev zRL:Oper:=⟨some 120,.binOp BinOp.geq 3 (.tmp 119) (Operand.const (Value.int IntKind.i64 0)) 3,4,"tree.go:78",#[⟨18,.data⟩,⟨16,.guard⟩],some (16,Bool.true)⟩
abbrev zQc:Oper:=⟨some 121,.pick (.tmp 117) (.tmp 120) (Operand.const (Value.bool Bool.false)),4,"tree.go:78",#[⟨16,.data⟩,⟨19,.data⟩],none⟩
abbrev zQQ:Oper:=⟨some 122,.move (.tmp 121),4,"tree.go:78",#[⟨20,.data⟩,⟨16,.chain⟩],none⟩
abbrev zQm:Oper:=⟨some 123,.fieldAddr 30 (.tmp 1) 4,0,"tree.go:78",#[⟨21,.guard⟩,⟨26,.gcOnly .lateStores⟩],some (21,Bool.true)⟩
abbrev zQW:Oper:=⟨some 124,.load 3 (.tmp 123),3,"tree.go:78",#[⟨22,.data⟩,⟨21,.guard⟩,⟨26,.gcOnly .lateStores⟩],some (21,Bool.true)⟩
abbrev zQY:Oper:=⟨some 125,.binOp BinOp.leq 3 (.tmp 124) (Operand.const (Value.int IntKind.i64 30)) 3,4,"tree.go:78",#[⟨23,.data⟩,⟨21,.guard⟩,⟨26,.gcOnly .lateStores⟩],some (21,Bool.true)⟩
abbrev zQ9:Oper:=⟨some 126,.pick (.tmp 122) (.tmp 125) (Operand.const (Value.bool Bool.false)),4,"tree.go:78",#[⟨21,.data⟩,⟨24,.data⟩,⟨26,.gcOnly .lateStores⟩],none⟩
abbrev zQj:Oper:=⟨some 2,.assign (.tmp 102),3,"tree.go:78",#[⟨1,.data⟩,⟨21,.chain⟩,⟨0,.phase⟩,⟨1,.phase⟩,⟨2,.textOnly .lateStores⟩,⟨3,.textOnly .lateStores⟩,⟨4,.textOnly .lateStores⟩,⟨5,.textOnly .lateStores⟩,⟨6,.textOnly .lateStores⟩,⟨7,.textOnly .lateStores⟩,⟨8,.textOnly .lateStores⟩,⟨9,.textOnly .lateStores⟩,⟨10,.textOnly .lateStores⟩,⟨11,.textOnly .lateStores⟩,⟨12,.textOnly .lateStores⟩,⟨13,.textOnly .lateStores⟩,⟨14,.textOnly .lateStoresUnsure⟩,⟨15,.textOnly .lateStores⟩,⟨16,.textOnly .lateStores⟩,⟨17,.textOnly .lateStores⟩,⟨18,.textOnly .lateStores⟩,⟨19,.textOnly .lateStores⟩,⟨20,.textOnly .lateStores⟩,⟨21,.textOnly .lateStores⟩,⟨22,.textOnly .lateStores⟩,⟨23,.textOnly .lateStores⟩,⟨24,.textOnly .lateStores⟩,⟨25,.textOnly .lateStores⟩],none⟩
abbrev zQR:Oper:=⟨some 3,.assign (.tmp 126),4,"tree.go:78",#[⟨25,.data⟩,⟨26,.chain⟩,⟨0,.phase⟩,⟨1,.phase⟩,⟨2,.phase⟩,⟨3,.phase⟩,⟨4,.phase⟩,⟨5,.phase⟩,⟨6,.phase⟩,⟨7,.phase⟩,⟨8,.phase⟩,⟨9,.phase⟩,⟨10,.phase⟩,⟨11,.phase⟩,⟨12,.phase⟩,⟨13,.phase⟩,⟨14,.phase⟩,⟨15,.phase⟩,⟨16,.phase⟩,⟨17,.phase⟩,⟨18,.phase⟩,⟨19,.phase⟩,⟨20,.phase⟩,⟨21,.phase⟩,⟨22,.phase⟩,⟨23,.phase⟩,⟨24,.phase⟩,⟨25,.phase⟩,⟨26,.phase⟩],none⟩
theorem zO7 (x:Wt.Nd) (w:World) (hk:x.k=4) :
  CR 48 #[ndV x] w (.tuple #[.int .i64 1,.bool (zEG x.op && eqN x ⟨4,Wt.v0,x.op,⟨#[]⟩,0,Wt.r0,Wt.r0⟩)]):=by
 have hq:∀ w:World,(binOp .eql 30 (.agg (zAD x).toArray) (.agg #[.int .i64 4,.int .i64 0,.int .i64 0,.int .i64 0,.string ⟨#[]⟩,.bool false,.int .i64 0,.int .i64 x.op,.string ⟨#[]⟩,.int .i64 0,.string ⟨#[]⟩,.int .i64 0,.int .i64 0,.bool false,.bool false,.string ⟨#[]⟩,.int .i64 0,.int .i64 0,.bool false,.bool false])).run prog w=.ok (.bool (eqN x ⟨4,Wt.v0,x.op,⟨#[]⟩,0,Wt.r0,Wt.r0⟩)) w:=λw=>zBI x ⟨4,Wt.v0,x.op,⟨#[]⟩,0,Wt.r0,Wt.r0⟩ w
 generalize eqN x ⟨4,Wt.v0,x.op,⟨#[]⟩,0,Wt.r0,Wt.r0⟩=R at *;have O:(∃ h1:(x.op == 1)=true,zEG x.op=true) \/ (∃ h1:(x.op == 1)=false,∃ h2:(x.op == 2)=true,zEG x.op=true) \/ (∃ h1:(x.op == 1)=false,∃ h2:(x.op == 2)=false,∃ h3:(x.op == 3)=true,zEG x.op=true) \/ (∃ h1:(x.op == 1)=false,∃ h2:(x.op == 2)=false,∃ h3:(x.op == 3)=false,zEG x.op=false):=by
  unfold zEG;by_cases h1:x.op=1
  ·exact Or.inl ⟨by simp [h1],by simp [h1]⟩
  by_cases h2:x.op=2
  ·exact Or.inr (Or.inl ⟨by simp [h1],by simp [h2],by simp [h2]⟩)
  by_cases h3:x.op=3
  ·exact Or.inr (Or.inr (Or.inl ⟨by simp [h1],by simp [h2],by simp [h3],by simp [h3]⟩))
  ·exact Or.inr (Or.inr (Or.inr ⟨by simp [h1],by simp [h2],by simp [h3],by simp [h1,h2,h3]⟩))
 generalize zEG x.op=q at *;have pA:AtL (w.alloc (.cells (zAD x).toArray 30)) w.heap.size (zAD x):=AtL.new0 w _ _;have hBa:Below w.heap.size w (w.alloc (.cells (zAD x).toArray 30)):=zAI (Below.refl _ w) _;show Calls _ _ #[.agg (zAD x).toArray] _ _
 go_enter func48,ntmps48;go_upto_region 1 with fail
 generalize (w.alloc (.cells (zAD x).toArray 30))=W0 at *;have a0:W0.cell? ⟨w.heap.size,0,none⟩=some (.int .i64 4):=by rw [<-hk];exact pA.2.1 0 _ rfl
 go_upto_region 9 with fail
 clear a0;refine wp_region_held_drew (S:=zRm w.heap.size x) (by kernel_rfl) (zNb hk (AtL.drew pA)) (λhHeld=>?_);refine wpAnyH_take (i:=0) (oi:=qd0) (v:=.agg (zAD x).toArray) rfl (by kernel_rfl) (by kernel_rfl) (by kernel_rfl) (λ_ _ _ h=>h) (yieldsIf_load_mid (by rfl) 30 (.tmp 1) rfl w.heap.size 0 rfl (zAD x) _ (λw h=>h.1) underlying30 rfl (by kernel_rfl)) (by assumption) ?_;try simp only [Act.put,lA,lZ,lS]
 refine tkQ 1 qd1 ?_
 refine tkQ 2 qd2 ?_
 refine tkQ 3 qd3 ?_
 refine tkQ 4 qd4 ?_
 refine tkQ 5 qd5 ?_
 refine tkQ 6 qd6 ?_
 refine tkQ 7 qd7 ?_
 cases R
 ·clear O;refine tnQ 8 qd8 ?_
  refine tnQ 9 qd9 ?_
  refine tnQ 10 zQP ?_
  refine tnQ 11 zQU ?_
  refine tnQ 12 zQO ?_
  refine tnQ 13 zQF ?_
  refine tnQ 14 zQ2 ?_
  refine tnQ 15 zQb ?_
  refine tnQ 16 zQg ?_
  refine tnQ 17 zQH ?_
  refine tnQ 18 zQe ?_
  refine tnQ 19 zQM ?_
  refine tnQ 20 zQl ?_
  refine tkQ 21 zQ1 ?_
  refine rdQ 22 zQh (λK hK=>?_);go_simp
  refine hkQ hK (by assumption) (λhHeld=>?_);clear hK K
  refine rdQ 23 zQZ (λK hK=>?_);go_simp
  refine hkQ hK (by assumption) (λhHeld=>?_);clear hK K
  refine wpAnyH_done (by kernel_rfl) ?_ _;go_wp2;go_ret2
  exact ⟨by simp,hBa.drew⟩
 refine tkQ 8 qd8 ?_
 refine tkQ 9 qd9 ?_
 rcases O with ⟨h1,rfl⟩ | ⟨h1,h2,rfl⟩ | ⟨h1,h2,h3,rfl⟩ | ⟨h1,h2,h3,rfl⟩
 ·refine tkQ 10 zQP ?_
  refine tkQ 11 zQU ?_
  refine tnQ 12 zQO ?_
  refine tnQ 13 zQF ?_
  refine tnQ 14 zQ2 ?_
  refine tkQ 15 zQb ?_
  refine tkQ 16 zQg ?_
  refine tnQ 17 zQH ?_
  refine tnQ 18 zQe ?_
  refine tnQ 19 zQM ?_
  refine tkQ 20 zQl ?_
  refine tkQ 21 zQ1 ?_
  refine rdQ 22 zQh (λK hK=>?_);go_simp
  refine hkQ hK (by assumption) (λhHeld=>?_);clear hK K
  refine rdQ 23 zQZ (λK hK=>?_);go_simp
  refine hkQ hK (by assumption) (λhHeld=>?_);clear hK K
  refine wpAnyH_done (by kernel_rfl) ?_ _;go_wp2;go_ret2
  exact ⟨by simp,hBa.drew⟩
 ·refine tkQ 10 zQP ?_
  refine tkQ 11 zQU ?_
  refine tkQ 12 zQO ?_
  refine tkQ 13 zQF ?_
  refine tkQ 14 zQ2 ?_
  refine tkQ 15 zQb ?_
  refine tkQ 16 zQg ?_
  refine tnQ 17 zQH ?_
  refine tnQ 18 zQe ?_
  refine tnQ 19 zQM ?_
  refine tkQ 20 zQl ?_
  refine tkQ 21 zQ1 ?_
  refine rdQ 22 zQh (λK hK=>?_);go_simp
  refine hkQ hK (by assumption) (λhHeld=>?_);clear hK K
  refine rdQ 23 zQZ (λK hK=>?_);go_simp
  refine hkQ hK (by assumption) (λhHeld=>?_);clear hK K
  refine wpAnyH_done (by kernel_rfl) ?_ _;go_wp2;go_ret2
  exact ⟨by simp,hBa.drew⟩
 all_goals
  refine tkQ 10 zQP ?_
  refine tkQ 11 zQU ?_
  refine tkQ 12 zQO ?_
  refine tkQ 13 zQF ?_
  refine tkQ 14 zQ2 ?_
  refine tkQ 15 zQb ?_
  refine tkQ 16 zQg ?_
  refine tkQ 17 zQH ?_
  refine tkQ 18 zQe ?_
  refine tkQ 19 zQM ?_
  refine tkQ 20 zQl ?_
  refine tkQ 21 zQ1 ?_
  refine rdQ 22 zQh (λK hK=>?_);go_simp
  refine hkQ hK (by assumption) (λhHeld=>?_);clear hK K
  refine rdQ 23 zQZ (λK hK=>?_);go_simp
  refine hkQ hK (by assumption) (λhHeld=>?_);clear hK K
  refine wpAnyH_done (by kernel_rfl) ?_ _;go_wp2;go_ret2
  exact ⟨by simp,hBa.drew⟩
theorem zNR (x:Wt.Nd) (w:World) (hk:x.k=6) (hs:x.nm.size<=9223372036854775807) :
  CR 48 #[ndV x] w (.tuple #[.int .i64 x.ar,.bool ((Wt.fnNm x.nm && decide (0<=x.ar) && decide (x.ar<=30)) && eqN x ⟨6,Wt.v0,0,x.nm,x.ar,Wt.r0,Wt.r0⟩)]):=by
 have hq:∀ w:World,(binOp .eql 30 (.agg (zAD x).toArray) (.agg #[.int .i64 6,.int .i64 0,.int .i64 0,.int .i64 0,.string ⟨#[]⟩,.bool false,.int .i64 0,.int .i64 0,.string x.nm,.int .i64 x.ar,.string ⟨#[]⟩,.int .i64 0,.int .i64 0,.bool false,.bool false,.string ⟨#[]⟩,.int .i64 0,.int .i64 0,.bool false,.bool false])).run prog w=.ok (.bool (eqN x ⟨6,Wt.v0,0,x.nm,x.ar,Wt.r0,Wt.r0⟩)) w:=λw=>zBI x ⟨6,Wt.v0,0,x.nm,x.ar,Wt.r0,Wt.r0⟩ w
 generalize eqN x ⟨6,Wt.v0,0,x.nm,x.ar,Wt.r0,Wt.r0⟩=R at *;have C:=λw=>zEz x.nm w hs
 generalize Wt.fnNm x.nm=q at *;have pA:AtL (w.alloc (.cells (zAD x).toArray 30)) w.heap.size (zAD x):=AtL.new0 w _ _;have hBa:Below w.heap.size w (w.alloc (.cells (zAD x).toArray 30)):=zAI (Below.refl _ w) _;show Calls _ _ #[.agg (zAD x).toArray] _ _
 go_enter func48,ntmps48;go_upto_region 1 with fail
 generalize (w.alloc (.cells (zAD x).toArray 30))=W0 at *;have a0:W0.cell? ⟨w.heap.size,0,none⟩=some (.int .i64 6):=by rw [<-hk];exact pA.2.1 0 _ rfl
 go_upto_region 13 with fail
 clear a0;refine wp_region_held_drew (S:=zSE w.heap.size x) (by kernel_rfl) (zNi hk (AtL.drew pA)) (λhHeld=>?_);refine tkQ 0 zSQ ?_
 refine tkQ 1 zS1 ?_
 refine wpAnyH_take (i:=2) (oi:=zSS) (v:=.agg (zAD x).toArray) rfl (by kernel_rfl) (by kernel_rfl) (by kernel_rfl) (λ_ _ _ h=>h) (yieldsIf_load_mid (by rfl) 30 (.tmp 1) rfl w.heap.size 0 rfl (zAD x) _ (λw h=>h.1) underlying30 rfl (by kernel_rfl)) (by assumption) ?_;try simp only [Act.put,lA,lZ,lS]
 refine tkQ 3 zSP ?_
 refine tkQ 4 zSR ?_
 refine tkQ 5 zSI ?_
 refine tkQ 6 zSJ ?_
 refine tkQ 7 zSH ?_
 refine tkQ 8 zSG ?_
 refine tkQ 9 zSU ?_
 refine tkQ 10 zS3 ?_
 refine tkQ 11 zSM ?_
 cases R
 ·clear C;refine tnQ 12 zSC ?_
  refine tnQ 13 zRn ?_
  refine tnQ 14 zSD ?_
  refine tkQ 15 zRg ?_
  refine tkQ 16 zRl ?_
  refine tnQ 17 zRK ?_
  refine tnQ 18 zRQ ?_
  refine tnQ 19 zRL ?_
  refine tkQ 20 zQc ?_
  refine tkQ 21 zQQ ?_
  refine tnQ 22 zQm ?_
  refine tnQ 23 zQW ?_
  refine tnQ 24 zQY ?_
  refine tkQ 25 zQ9 ?_
  refine rdQ 26 zQj (λK hK=>?_);go_simp
  refine hkQ hK (by assumption) (λhHeld=>?_);clear hK K
  refine rdQ 27 zQR (λK hK=>?_);go_simp
  refine hkQ hK (by assumption) (λhHeld=>?_);clear hK K
  refine wpAnyH_done (by kernel_rfl) ?_ _;go_wp2;go_ret2
  exact ⟨by simp,hBa.drew⟩
 refine tkQ 12 zSC ?_
 refine tkQ 13 zRn ?_
 refine rdQ 14 zSD (λK hK=>?_);go_simp
 refine (C _).mono ?_;rintro e w1 ⟨rfl,rfl⟩;go_wp2_with fail
 refine hkQ hK (by assumption) (λhHeld=>?_);clear hK K
 refine tkQ 15 zRg ?_
 refine tkQ 16 zRl ?_
 cases q
 ·refine tnQ 17 zRK ?_
  refine tnQ 18 zRQ ?_
  refine tnQ 19 zRL ?_
  refine tkQ 20 zQc ?_
  refine tkQ 21 zQQ ?_
  refine tnQ 22 zQm ?_
  refine tnQ 23 zQW ?_
  refine tnQ 24 zQY ?_
  refine tkQ 25 zQ9 ?_
  refine rdQ 26 zQj (λK hK=>?_);go_simp
  refine hkQ hK (by assumption) (λhHeld=>?_);clear hK K
  refine rdQ 27 zQR (λK hK=>?_);go_simp
  refine hkQ hK (by assumption) (λhHeld=>?_);clear hK K
  refine wpAnyH_done (by kernel_rfl) ?_ _;go_wp2;go_ret2
  exact ⟨by simp,hBa.drew⟩
 refine tkQ 17 zRK ?_
 refine tkQ 18 zRQ ?_
 refine tkQ 19 zRL ?_
 by_cases g0:0<=x.ar
 ·by_cases g1:x.ar<=30
  all_goals
   refine tkQ 20 zQc ?_
   refine tkQ 21 zQQ ?_
   refine tkQ 22 zQm ?_
   refine tkQ 23 zQW ?_
   refine tkQ 24 zQY ?_
   refine tkQ 25 zQ9 ?_
   refine rdQ 26 zQj (λK hK=>?_);go_simp
   refine hkQ hK (by assumption) (λhHeld=>?_);clear hK K
   refine rdQ 27 zQR (λK hK=>?_);go_simp
   refine hkQ hK (by assumption) (λhHeld=>?_);clear hK K
   refine wpAnyH_done (by kernel_rfl) ?_ _;go_wp2;go_ret2
   exact ⟨by first | (simp [g0];done) | (simp [g0,g1];done),hBa.drew⟩
 ·have g0d:decide (0<=x.ar)=false:=decide_eq_false g0;refine tkQ 20 zQc ?_
  refine tkQ 21 zQQ ?_
  refine tnQ 22 zQm ?_
  refine tnQ 23 zQW ?_
  refine tnQ 24 zQY ?_
  refine tkQ 25 zQ9 ?_
  refine rdQ 26 zQj (λK hK=>?_);go_simp
  refine hkQ hK (by assumption) (λhHeld=>?_);clear hK K
  refine rdQ 27 zQR (λK hK=>?_);go_simp
  refine hkQ hK (by assumption) (λhHeld=>?_);clear hK K
  refine wpAnyH_done (by kernel_rfl) ?_ _;go_wp2;go_ret2
  exact ⟨by simp,hBa.drew⟩
