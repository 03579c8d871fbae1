/- TRefD. -/
import Derived.Test.YtdghjlmnlodnlaaGreatDoorQ24
set_option maxHeartbeats 4000000
set_option maxRecDepth 100000
namespace Go.Proofs.YtdghjlmnlodnlaaGreatDoor
open Go.RowKit Tryz
set_option linter.unusedVariables false
variable {k:Nat} {x:Wt.Nd} {W:World}
def zEF (o:Int):Bool:=decide (o=1) || decide (o=2) || decide (o=3)
abbrev zQH (k:Nat) (x:Wt.Nd) (W:World):Prop :=
 W.rangeAt k 0 (zAE x)/\W.cell? ⟨k,0,none⟩=some (.int .i64 4)/\W.cell? ⟨k,7,none⟩=some (.int .i64 x.op)
theorem zEr (hk:x.k=4) (h:AtL W k (zAE x)):zQH k x W :=
 ⟨h.range,by rw [<-hk];exact h.2.1 0 _ rfl,h.2.1 7 _ rfl⟩
abbrev zQj (k:Nat) (x:Wt.Nd) (W:World):Prop :=
 W.rangeAt k 0 (zAE x)/\W.cell? ⟨k,0,none⟩=some (.int .i64 6)/\W.cell? ⟨k,8,none⟩=some (.string x.nm)/\W.cell? ⟨k,9,none⟩=some (.int .i64 x.ar)
theorem zEf (hk:x.k=6) (h:AtL W k (zAE x)):zQj k x W :=
 ⟨h.range,by rw [<-hk];exact h.2.1 0 _ rfl,h.2.1 8 _ rfl,h.2.1 9 _ rfl⟩
abbrev qd0:Oper:=⟨some 63,.load 30 (.tmp 1),30,"tree.go:74",#[],none⟩
abbrev qd1:Oper:=⟨some 64,.fieldAddr 30 (.tmp 1) 0,0,"tree.go:74",#[],none⟩
abbrev qd2:Oper:=⟨some 65,.load 3 (.tmp 64),3,"tree.go:74",#[⟨1,.data⟩],none⟩
abbrev qd3:Oper:=⟨some 66,.fieldAddr 30 (.tmp 1) 2,0,"tree.go:74",#[],none⟩
abbrev qd4:Oper:=⟨some 67,.load 3 (.tmp 66),3,"tree.go:74",#[⟨3,.data⟩],none⟩
abbrev qd5:Oper:=⟨some 68,.build 30 #[(0,.tmp 65),(2,.tmp 67)],30,"tree.go:74",#[⟨2,.data⟩,⟨4,.data⟩],none⟩
abbrev qd6:Oper:=⟨some 69,.binOp BinOp.eql 30 (.tmp 63) (.tmp 68) 30,4,"tree.go:74",#[⟨0,.data⟩,⟨5,.data⟩],none⟩
abbrev qd7:Oper:=⟨some 70,.move (.tmp 69),4,"tree.go:74",#[⟨6,.data⟩],none⟩
abbrev qd8:Oper:=⟨some 71,.fieldAddr 30 (.tmp 1) 2,0,"tree.go:74",#[⟨7,.guard⟩],some (7,Bool.true)⟩
abbrev qd9:Oper:=⟨some 72,.load 3 (.tmp 71),3,"tree.go:74",#[⟨8,.data⟩,⟨7,.guard⟩],some (7,Bool.true)⟩
abbrev zRO:Oper:=⟨some 73,.binOp BinOp.eql 3 (.tmp 72) (Operand.const (Value.int IntKind.i64 1)) 3,4,"tree.go:74",#[⟨9,.data⟩,⟨7,.guard⟩],some (7,Bool.true)⟩
abbrev zRg:Oper:=⟨some 74,.move (.tmp 73),4,"tree.go:74",#[⟨10,.data⟩,⟨7,.chain⟩,⟨7,.guard⟩],some (7,Bool.true)⟩
abbrev zRH:Oper:=⟨some 75,.fieldAddr 30 (.tmp 1) 2,0,"tree.go:74",#[⟨11,.guard⟩],some (11,Bool.false)⟩
abbrev zR8:Oper:=⟨some 76,.load 3 (.tmp 75),3,"tree.go:74",#[⟨12,.data⟩,⟨11,.guard⟩],some (11,Bool.false)⟩
abbrev zQy:Oper:=⟨some 77,.binOp BinOp.eql 3 (.tmp 76) (Operand.const (Value.int IntKind.i64 2)) 3,4,"tree.go:74",#[⟨13,.data⟩,⟨11,.guard⟩],some (11,Bool.false)⟩
abbrev zRY:Oper:=⟨some 78,.pick (.tmp 74) (Operand.const (Value.bool Bool.true)) (.tmp 77),4,"tree.go:74",#[⟨11,.data⟩,⟨14,.data⟩,⟨7,.guard⟩],some (7,Bool.true)⟩
abbrev zRa:Oper:=⟨some 79,.move (.tmp 78),4,"tree.go:74",#[⟨15,.data⟩,⟨11,.chain⟩,⟨7,.guard⟩],some (7,Bool.true)⟩
abbrev zRS:Oper:=⟨some 80,.fieldAddr 30 (.tmp 1) 2,0,"tree.go:74",#[⟨16,.guard⟩,⟨22,.gcOnly .lateStores⟩],some (16,Bool.false)⟩
abbrev zQo:Oper:=⟨some 81,.load 3 (.tmp 80),3,"tree.go:74",#[⟨17,.data⟩,⟨16,.guard⟩,⟨22,.gcOnly .lateStores⟩],some (16,Bool.false)⟩
abbrev zQq:Oper:=⟨some 82,.binOp BinOp.eql 3 (.tmp 81) (Operand.const (Value.int IntKind.i64 3)) 3,4,"tree.go:74",#[⟨18,.data⟩,⟨16,.guard⟩,⟨22,.gcOnly .lateStores⟩],some (16,Bool.false)⟩
abbrev zQp:Oper:=⟨some 83,.pick (.tmp 79) (Operand.const (Value.bool Bool.true)) (.tmp 82),4,"tree.go:74",#[⟨16,.data⟩,⟨19,.data⟩,⟨7,.guard⟩,⟨22,.gcOnly .lateStores⟩],some (7,Bool.true)⟩
abbrev zRA:Oper:=⟨some 84,.pick (.tmp 70) (.tmp 83) (Operand.const (Value.bool Bool.false)),4,"tree.go:74",#[⟨7,.data⟩,⟨20,.data⟩,⟨22,.gcOnly .lateStores⟩],none⟩
abbrev zQt:Oper:=⟨some 2,.assign (Operand.const (Value.int IntKind.i64 1)),3,"tree.go:74",#[⟨16,.chain⟩,⟨0,.textOnly .lateStores⟩,⟨1,.textOnly .lateStores⟩,⟨2,.textOnly .lateStores⟩,⟨3,.textOnly .lateStores⟩,⟨4,.textOnly .lateStores⟩,⟨5,.textOnly .lateStores⟩,⟨6,.textOnly .lateStores⟩,⟨7,.textOnly .lateStores⟩,⟨8,.textOnly .lateStores⟩,⟨9,.textOnly .lateStores⟩,⟨10,.textOnly .lateStores⟩,⟨11,.textOnly .lateStores⟩,⟨12,.textOnly .lateStores⟩,⟨13,.textOnly .lateStores⟩,⟨14,.textOnly .lateStores⟩,⟨15,.textOnly .lateStores⟩,⟨16,.textOnly .lateStores⟩,⟨17,.textOnly .lateStores⟩,⟨18,.textOnly .lateStores⟩,⟨19,.textOnly .lateStores⟩,⟨20,.textOnly .lateStores⟩,⟨21,.textOnly .lateStores⟩],none⟩
abbrev zRT:Oper:=⟨some 3,.assign (.tmp 84),4,"tree.go:74",#[⟨21,.data⟩,⟨22,.chain⟩,⟨0,.phase⟩,⟨1,.phase⟩,⟨2,.phase⟩,⟨3,.phase⟩,⟨4,.phase⟩,⟨5,.phase⟩,⟨6,.phase⟩,⟨7,.phase⟩,⟨8,.phase⟩,⟨9,.phase⟩,⟨10,.phase⟩,⟨11,.phase⟩,⟨12,.phase⟩,⟨13,.phase⟩,⟨14,.phase⟩,⟨15,.phase⟩,⟨16,.phase⟩,⟨17,.phase⟩,⟨18,.phase⟩,⟨19,.phase⟩,⟨20,.phase⟩,⟨21,.phase⟩,⟨22,.phase⟩],none⟩
abbrev zR2:Oper:=⟨some 101,.fieldAddr 30 (.tmp 1) 4,0,"tree.go:78",#[],none⟩
abbrev zR9:Oper:=⟨some 102,.load 3 (.tmp 101),3,"tree.go:78",#[⟨0,.data⟩],none⟩
abbrev zRe:Oper:=⟨some 103,.load 30 (.tmp 1),30,"tree.go:78",#[],none⟩
abbrev zRh:Oper:=⟨some 104,.fieldAddr 30 (.tmp 1) 0,0,"tree.go:78",#[],none⟩
abbrev zRj:Oper:=⟨some 105,.load 3 (.tmp 104),3,"tree.go:78",#[⟨3,.data⟩],none⟩
abbrev zRl:Oper:=⟨some 106,.fieldAddr 30 (.tmp 1) 3,0,"tree.go:78",#[],none⟩
abbrev zRX:Oper:=⟨some 107,.load 9 (.tmp 106),9,"tree.go:78",#[⟨5,.data⟩],none⟩
abbrev zRG:Oper:=⟨some 108,.fieldAddr 30 (.tmp 1) 4,0,"tree.go:78",#[],none⟩
abbrev zRV:Oper:=⟨some 109,.load 3 (.tmp 108),3,"tree.go:78",#[⟨7,.data⟩],none⟩
abbrev zR1:Oper:=⟨some 110,.build 30 #[(0,.tmp 105),(3,.tmp 107),(4,.tmp 109)],30,"tree.go:78",#[⟨4,.data⟩,⟨6,.data⟩,⟨8,.data⟩],none⟩
abbrev zRK:Oper:=⟨some 111,.binOp BinOp.eql 30 (.tmp 103) (.tmp 110) 30,4,"tree.go:78",#[⟨2,.data⟩,⟨9,.data⟩],none⟩
abbrev zRJ:Oper:=⟨some 112,.move (.tmp 111),4,"tree.go:78",#[⟨10,.data⟩],none⟩
abbrev zRW:Oper:=⟨some 113,.fieldAddr 30 (.tmp 1) 3,0,"tree.go:78",#[⟨11,.guard⟩],some (11,Bool.true)⟩
abbrev zRC:Oper:=⟨some 114,.load 9 (.tmp 113),9,"tree.go:78",#[⟨12,.data⟩,⟨11,.guard⟩],some (11,Bool.true)⟩
abbrev zRm:Oper:=⟨some 115,.call {callee:=Callee.value (Operand.func 79),args:=#[.tmp 114,Operand.const (Value.bool Bool.false)],argTypes:=#[9,4]},4,"tree.go:78",#[⟨13,.data⟩,⟨11,.chain⟩,⟨11,.guard⟩],some (11,Bool.true)⟩
abbrev zR4:Oper:=⟨some 116,.pick (.tmp 112) (.tmp 115) (Operand.const (Value.bool Bool.false)),4,"tree.go:78",#[⟨11,.data⟩,⟨14,.data⟩],none⟩
abbrev zQz:Oper:=⟨some 117,.move (.tmp 116),4,"tree.go:78",#[⟨15,.data⟩,⟨14,.chain⟩],none⟩
abbrev zQn:Oper:=⟨some 118,.fieldAddr 30 (.tmp 1) 4,0,"tree.go:78",#[⟨16,.guard⟩],some (16,Bool.true)⟩
abbrev zRb:Oper:=⟨some 119,.load 3 (.tmp 118),3,"tree.go:78",#[⟨17,.data⟩,⟨16,.guard⟩],some (16,Bool.true)⟩
abbrev zRL:Oper:=⟨some 120,.binOp BinOp.geq 3 (.tmp 119) (Operand.const (Value.int IntKind.i64 0)) 3,4,"tree.go:78",#[⟨18,.data⟩,⟨16,.guard⟩],some (16,Bool.true)⟩
abbrev zR5:Oper:=⟨some 121,.pick (.tmp 117) (.tmp 120) (Operand.const (Value.bool Bool.false)),4,"tree.go:78",#[⟨16,.data⟩,⟨19,.data⟩],none⟩
abbrev zRF:Oper:=⟨some 122,.move (.tmp 121),4,"tree.go:78",#[⟨20,.data⟩,⟨16,.chain⟩],none⟩
abbrev zQw:Oper:=⟨some 123,.fieldAddr 30 (.tmp 1) 4,0,"tree.go:78",#[⟨21,.guard⟩,⟨26,.gcOnly .lateStores⟩],some (21,Bool.true)⟩
abbrev zRQ:Oper:=⟨some 124,.load 3 (.tmp 123),3,"tree.go:78",#[⟨22,.data⟩,⟨21,.guard⟩,⟨26,.gcOnly .lateStores⟩],some (21,Bool.true)⟩
abbrev zRk:Oper:=⟨some 125,.binOp BinOp.leq 3 (.tmp 124) (Operand.const (Value.int IntKind.i64 30)) 3,4,"tree.go:78",#[⟨23,.data⟩,⟨21,.guard⟩,⟨26,.gcOnly .lateStores⟩],some (21,Bool.true)⟩
abbrev zRE:Oper:=⟨some 126,.pick (.tmp 122) (.tmp 125) (Operand.const (Value.bool Bool.false)),4,"tree.go:78",#[⟨21,.data⟩,⟨24,.data⟩,⟨26,.gcOnly .lateStores⟩],none⟩
abbrev zRi:Oper:=⟨some 2,.assign (.tmp 102),3,"tree.go:78",#[⟨1,.data⟩,⟨21,.chain⟩,⟨0,.phase⟩,⟨1,.phase⟩,⟨2,.textOnly .lateStores⟩,⟨3,.textOnly .lateStores⟩,⟨4,.textOnly .lateStores⟩,⟨5,.textOnly .lateStores⟩,⟨6,.textOnly .lateStores⟩,⟨7,.textOnly .lateStores⟩,⟨8,.textOnly .lateStores⟩,⟨9,.textOnly .lateStores⟩,⟨10,.textOnly .lateStores⟩,⟨11,.textOnly .lateStores⟩,⟨12,.textOnly .lateStores⟩,⟨13,.textOnly .lateStores⟩,⟨14,.textOnly .lateStoresUnsure⟩,⟨15,.textOnly .lateStores⟩,⟨16,.textOnly .lateStores⟩,⟨17,.textOnly .lateStores⟩,⟨18,.textOnly .lateStores⟩,⟨19,.textOnly .lateStores⟩,⟨20,.textOnly .lateStores⟩,⟨21,.textOnly .lateStores⟩,⟨22,.textOnly .lateStores⟩,⟨23,.textOnly .lateStores⟩,⟨24,.textOnly .lateStores⟩,⟨25,.textOnly .lateStores⟩],none⟩
abbrev zQr:Oper:=⟨some 3,.assign (.tmp 126),4,"tree.go:78",#[⟨25,.data⟩,⟨26,.chain⟩,⟨0,.phase⟩,⟨1,.phase⟩,⟨2,.phase⟩,⟨3,.phase⟩,⟨4,.phase⟩,⟨5,.phase⟩,⟨6,.phase⟩,⟨7,.phase⟩,⟨8,.phase⟩,⟨9,.phase⟩,⟨10,.phase⟩,⟨11,.phase⟩,⟨12,.phase⟩,⟨13,.phase⟩,⟨14,.phase⟩,⟨15,.phase⟩,⟨16,.phase⟩,⟨17,.phase⟩,⟨18,.phase⟩,⟨19,.phase⟩,⟨20,.phase⟩,⟨21,.phase⟩,⟨22,.phase⟩,⟨23,.phase⟩,⟨24,.phase⟩,⟨25,.phase⟩,⟨26,.phase⟩],none⟩
theorem zOW (x:Wt.Nd) (w:World) (hk:x.k=4) :
  CR 48 #[ndV x] w (.tuple #[.int .i64 1,.bool (zEF x.op && eqN x ⟨4,Wt.v0,x.op,⟨#[]⟩,0,Wt.r0,Wt.r0⟩)]):=by
 have hq:∀ w:World,(binOp .eql 30 (.agg (zAE x).toArray) (.agg #[.int .i64 4,.int .i64 0,.int .i64 0,.int .i64 0,.string ⟨#[]⟩,.bool false,.int .i64 0,.int .i64 x.op,.string ⟨#[]⟩,.int .i64 0,.string ⟨#[]⟩,.int .i64 0,.int .i64 0,.bool false,.bool false,.string ⟨#[]⟩,.int .i64 0,.int .i64 0,.bool false,.bool false])).run prog w=.ok (.bool (eqN x ⟨4,Wt.v0,x.op,⟨#[]⟩,0,Wt.r0,Wt.r0⟩)) w:=λw=>zBK x ⟨4,Wt.v0,x.op,⟨#[]⟩,0,Wt.r0,Wt.r0⟩ w
 generalize eqN x ⟨4,Wt.v0,x.op,⟨#[]⟩,0,Wt.r0,Wt.r0⟩=R at *;have O:(∃ h1:(x.op == 1)=true,zEF x.op=true) \/ (∃ h1:(x.op == 1)=false,∃ h2:(x.op == 2)=true,zEF x.op=true) \/ (∃ h1:(x.op == 1)=false,∃ h2:(x.op == 2)=false,∃ h3:(x.op == 3)=true,zEF x.op=true) \/ (∃ h1:(x.op == 1)=false,∃ h2:(x.op == 2)=false,∃ h3:(x.op == 3)=false,zEF x.op=false):=by
  unfold zEF;by_cases h1:x.op=1
  ·exact Or.inl ⟨by simp [h1],by simp [h1]⟩
  by_cases h2:x.op=2
  ·exact Or.inr (Or.inl ⟨by simp [h1],by simp [h2],by simp [h2]⟩)
  by_cases h3:x.op=3
  ·exact Or.inr (Or.inr (Or.inl ⟨by simp [h1],by simp [h2],by simp [h3],by simp [h3]⟩))
  ·exact Or.inr (Or.inr (Or.inr ⟨by simp [h1],by simp [h2],by simp [h3],by simp [h1,h2,h3]⟩))
 generalize zEF x.op=q at *;have pA:AtL (w.alloc (.cells (zAE x).toArray 30)) w.heap.size (zAE x):=AtL.new0 w _ _;have hBa:Below w.heap.size w (w.alloc (.cells (zAE x).toArray 30)):=zAI (Below.refl _ w) _;show Calls _ _ #[.agg (zAE x).toArray] _ _
 cases R
 ·clear O;go_enter func48,ntmps48;go_upto_region 1 with fail
  generalize (w.alloc (.cells (zAE x).toArray 30))=W0 at *;have a0:W0.cell? ⟨w.heap.size,0,none⟩=some (.int .i64 4):=by rw [<-hk];exact pA.2.1 0 _ rfl
  go_upto_region 9 with fail
  clear a0;refine wp_region_held_drew (S:=zQH w.heap.size x) (by kernel_rfl) (zEr hk (AtL.drew pA)) (λhHeld=>?_);refine wpAnyH_take (i:=0) (oi:=qd0) (v:=.agg (zAE x).toArray) rfl (by kernel_rfl) (by kernel_rfl) (by kernel_rfl) (λ_ _ _ h=>h) (yieldsIf_load_mid (by rfl) 30 (.tmp 1) rfl w.heap.size 0 rfl (zAE x) _ (λw h=>h.1) underlying30 rfl (by kernel_rfl)) (by assumption) ?_;try simp only [Act.put,lA,lZ,lS]
  refine tkQ 1 qd1 ?_
  refine tkQ 2 qd2 ?_
  refine tkQ 3 qd3 ?_
  refine tkQ 4 qd4 ?_
  refine tkQ 5 qd5 ?_
  refine tkQ 6 qd6 ?_
  refine tkQ 7 qd7 ?_
  refine tnQ 8 qd8 ?_
  refine tnQ 9 qd9 ?_
  refine tnQ 10 zRO ?_
  refine tnQ 11 zRg ?_
  refine tnQ 12 zRH ?_
  refine tnQ 13 zR8 ?_
  refine tnQ 14 zQy ?_
  refine tnQ 15 zRY ?_
  refine tnQ 16 zRa ?_
  refine tnQ 17 zRS ?_
  refine tnQ 18 zQo ?_
  refine tnQ 19 zQq ?_
  refine tnQ 20 zQp ?_
  refine tkQ 21 zRA ?_
  refine rdQ 22 zQt (λK hK=>?_);go_simp
  refine hK.out _ _ (by assumption) (λhHeld=>?_);clear hK K;try simp only [Act.put,lA,lZ,lS]
  refine rdQ 23 zRT (λK hK=>?_);go_simp
  refine hK.out _ _ (by assumption) (λhHeld=>?_);clear hK K;try simp only [Act.put,lA,lZ,lS]
  refine wpAnyH_done (by kernel_rfl) ?_ _;go_wp2;go_ret2
  exact ⟨by simp,hBa.drew⟩
 rcases O with ⟨h1,rfl⟩ | ⟨h1,h2,rfl⟩ | ⟨h1,h2,h3,rfl⟩ | ⟨h1,h2,h3,rfl⟩
 ·skip
  go_enter func48,ntmps48;go_upto_region 1 with fail
  generalize (w.alloc (.cells (zAE x).toArray 30))=W0 at *;have a0:W0.cell? ⟨w.heap.size,0,none⟩=some (.int .i64 4):=by rw [<-hk];exact pA.2.1 0 _ rfl
  go_upto_region 9 with fail
  clear a0;refine wp_region_held_drew (S:=zQH w.heap.size x) (by kernel_rfl) (zEr hk (AtL.drew pA)) (λhHeld=>?_);refine wpAnyH_take (i:=0) (oi:=qd0) (v:=.agg (zAE x).toArray) rfl (by kernel_rfl) (by kernel_rfl) (by kernel_rfl) (λ_ _ _ h=>h) (yieldsIf_load_mid (by rfl) 30 (.tmp 1) rfl w.heap.size 0 rfl (zAE x) _ (λw h=>h.1) underlying30 rfl (by kernel_rfl)) (by assumption) ?_;try simp only [Act.put,lA,lZ,lS]
  refine tkQ 1 qd1 ?_
  refine tkQ 2 qd2 ?_
  refine tkQ 3 qd3 ?_
  refine tkQ 4 qd4 ?_
  refine tkQ 5 qd5 ?_
  refine tkQ 6 qd6 ?_
  refine tkQ 7 qd7 ?_
  refine tkQ 8 qd8 ?_
  refine tkQ 9 qd9 ?_
  refine tkQ 10 zRO ?_
  refine tkQ 11 zRg ?_
  refine tnQ 12 zRH ?_
  refine tnQ 13 zR8 ?_
  refine tnQ 14 zQy ?_
  refine tkQ 15 zRY ?_
  refine tkQ 16 zRa ?_
  refine tnQ 17 zRS ?_
  refine tnQ 18 zQo ?_
  refine tnQ 19 zQq ?_
  refine tkQ 20 zQp ?_
  refine tkQ 21 zRA ?_
  refine rdQ 22 zQt (λK hK=>?_);go_simp
  refine hK.out _ _ (by assumption) (λhHeld=>?_);clear hK K;try simp only [Act.put,lA,lZ,lS]
  refine rdQ 23 zRT (λK hK=>?_);go_simp
  refine hK.out _ _ (by assumption) (λhHeld=>?_);clear hK K;try simp only [Act.put,lA,lZ,lS]
  refine wpAnyH_done (by kernel_rfl) ?_ _;go_wp2;go_ret2
  exact ⟨by simp,hBa.drew⟩
 ·skip
  go_enter func48,ntmps48;go_upto_region 1 with fail
  generalize (w.alloc (.cells (zAE x).toArray 30))=W0 at *;have a0:W0.cell? ⟨w.heap.size,0,none⟩=some (.int .i64 4):=by rw [<-hk];exact pA.2.1 0 _ rfl
  go_upto_region 9 with fail
  clear a0;refine wp_region_held_drew (S:=zQH w.heap.size x) (by kernel_rfl) (zEr hk (AtL.drew pA)) (λhHeld=>?_);refine wpAnyH_take (i:=0) (oi:=qd0) (v:=.agg (zAE x).toArray) rfl (by kernel_rfl) (by kernel_rfl) (by kernel_rfl) (λ_ _ _ h=>h) (yieldsIf_load_mid (by rfl) 30 (.tmp 1) rfl w.heap.size 0 rfl (zAE x) _ (λw h=>h.1) underlying30 rfl (by kernel_rfl)) (by assumption) ?_;try simp only [Act.put,lA,lZ,lS]
  refine tkQ 1 qd1 ?_
  refine tkQ 2 qd2 ?_
  refine tkQ 3 qd3 ?_
  refine tkQ 4 qd4 ?_
  refine tkQ 5 qd5 ?_
  refine tkQ 6 qd6 ?_
  refine tkQ 7 qd7 ?_
  refine tkQ 8 qd8 ?_
  refine tkQ 9 qd9 ?_
  refine tkQ 10 zRO ?_
  refine tkQ 11 zRg ?_
  refine tkQ 12 zRH ?_
  refine tkQ 13 zR8 ?_
  refine tkQ 14 zQy ?_
  refine tkQ 15 zRY ?_
  refine tkQ 16 zRa ?_
  refine tnQ 17 zRS ?_
  refine tnQ 18 zQo ?_
  refine tnQ 19 zQq ?_
  refine tkQ 20 zQp ?_
  refine tkQ 21 zRA ?_
  refine rdQ 22 zQt (λK hK=>?_);go_simp
  refine hK.out _ _ (by assumption) (λhHeld=>?_);clear hK K;try simp only [Act.put,lA,lZ,lS]
  refine rdQ 23 zRT (λK hK=>?_);go_simp
  refine hK.out _ _ (by assumption) (λhHeld=>?_);clear hK K;try simp only [Act.put,lA,lZ,lS]
  refine wpAnyH_done (by kernel_rfl) ?_ _;go_wp2;go_ret2
  exact ⟨by simp,hBa.drew⟩
 all_goals
  skip
  go_enter func48,ntmps48;go_upto_region 1 with fail
  generalize (w.alloc (.cells (zAE x).toArray 30))=W0 at *;have a0:W0.cell? ⟨w.heap.size,0,none⟩=some (.int .i64 4):=by rw [<-hk];exact pA.2.1 0 _ rfl
  go_upto_region 9 with fail
  clear a0;refine wp_region_held_drew (S:=zQH w.heap.size x) (by kernel_rfl) (zEr hk (AtL.drew pA)) (λhHeld=>?_);refine wpAnyH_take (i:=0) (oi:=qd0) (v:=.agg (zAE x).toArray) rfl (by kernel_rfl) (by kernel_rfl) (by kernel_rfl) (λ_ _ _ h=>h) (yieldsIf_load_mid (by rfl) 30 (.tmp 1) rfl w.heap.size 0 rfl (zAE x) _ (λw h=>h.1) underlying30 rfl (by kernel_rfl)) (by assumption) ?_;try simp only [Act.put,lA,lZ,lS]
  refine tkQ 1 qd1 ?_
  refine tkQ 2 qd2 ?_
  refine tkQ 3 qd3 ?_
  refine tkQ 4 qd4 ?_
  refine tkQ 5 qd5 ?_
  refine tkQ 6 qd6 ?_
  refine tkQ 7 qd7 ?_
  refine tkQ 8 qd8 ?_
  refine tkQ 9 qd9 ?_
  refine tkQ 10 zRO ?_
  refine tkQ 11 zRg ?_
  refine tkQ 12 zRH ?_
  refine tkQ 13 zR8 ?_
  refine tkQ 14 zQy ?_
  refine tkQ 15 zRY ?_
  refine tkQ 16 zRa ?_
  refine tkQ 17 zRS ?_
  refine tkQ 18 zQo ?_
  refine tkQ 19 zQq ?_
  refine tkQ 20 zQp ?_
  refine tkQ 21 zRA ?_
  refine rdQ 22 zQt (λK hK=>?_);go_simp
  refine hK.out _ _ (by assumption) (λhHeld=>?_);clear hK K;try simp only [Act.put,lA,lZ,lS]
  refine rdQ 23 zRT (λK hK=>?_);go_simp
  refine hK.out _ _ (by assumption) (λhHeld=>?_);clear hK K;try simp only [Act.put,lA,lZ,lS]
  refine wpAnyH_done (by kernel_rfl) ?_ _;go_wp2;go_ret2
  exact ⟨by simp,hBa.drew⟩
theorem zPJ (x:Wt.Nd) (w:World) (hk:x.k=6) (hs:x.nm.size<=9223372036854775807) :
  CR 48 #[ndV x] w (.tuple #[.int .i64 x.ar,.bool ((Wt.fnNm x.nm && decide (0<=x.ar) && decide (x.ar<=30)) && eqN x ⟨6,Wt.v0,0,x.nm,x.ar,Wt.r0,Wt.r0⟩)]):=by
 have hq:∀ w:World,(binOp .eql 30 (.agg (zAE x).toArray) (.agg #[.int .i64 6,.int .i64 0,.int .i64 0,.int .i64 0,.string ⟨#[]⟩,.bool false,.int .i64 0,.int .i64 0,.string x.nm,.int .i64 x.ar,.string ⟨#[]⟩,.int .i64 0,.int .i64 0,.bool false,.bool false,.string ⟨#[]⟩,.int .i64 0,.int .i64 0,.bool false,.bool false])).run prog w=.ok (.bool (eqN x ⟨6,Wt.v0,0,x.nm,x.ar,Wt.r0,Wt.r0⟩)) w:=λw=>zBK x ⟨6,Wt.v0,0,x.nm,x.ar,Wt.r0,Wt.r0⟩ w
 generalize eqN x ⟨6,Wt.v0,0,x.nm,x.ar,Wt.r0,Wt.r0⟩=R at *;have C:=λw=>zEo x.nm w hs
 generalize Wt.fnNm x.nm=q at *;have pA:AtL (w.alloc (.cells (zAE x).toArray 30)) w.heap.size (zAE x):=AtL.new0 w _ _;have hBa:Below w.heap.size w (w.alloc (.cells (zAE x).toArray 30)):=zAI (Below.refl _ w) _;show Calls _ _ #[.agg (zAE x).toArray] _ _
 cases R
 ·clear C;go_enter func48,ntmps48;go_upto_region 1 with fail
  generalize (w.alloc (.cells (zAE x).toArray 30))=W0 at *;have a0:W0.cell? ⟨w.heap.size,0,none⟩=some (.int .i64 6):=by rw [<-hk];exact pA.2.1 0 _ rfl
  go_upto_region 13 with fail
  clear a0;refine wp_region_held_drew (S:=zQj w.heap.size x) (by kernel_rfl) (zEf hk (AtL.drew pA)) (λhHeld=>?_);refine tkQ 0 zR2 ?_
  refine tkQ 1 zR9 ?_
  refine wpAnyH_take (i:=2) (oi:=zRe) (v:=.agg (zAE x).toArray) rfl (by kernel_rfl) (by kernel_rfl) (by kernel_rfl) (λ_ _ _ h=>h) (yieldsIf_load_mid (by rfl) 30 (.tmp 1) rfl w.heap.size 0 rfl (zAE x) _ (λw h=>h.1) underlying30 rfl (by kernel_rfl)) (by assumption) ?_;try simp only [Act.put,lA,lZ,lS]
  refine tkQ 3 zRh ?_
  refine tkQ 4 zRj ?_
  refine tkQ 5 zRl ?_
  refine tkQ 6 zRX ?_
  refine tkQ 7 zRG ?_
  refine tkQ 8 zRV ?_
  refine tkQ 9 zR1 ?_
  refine tkQ 10 zRK ?_
  refine tkQ 11 zRJ ?_
  refine tnQ 12 zRW ?_
  refine tnQ 13 zRC ?_
  refine tnQ 14 zRm ?_
  refine tkQ 15 zR4 ?_
  refine tkQ 16 zQz ?_
  refine tnQ 17 zQn ?_
  refine tnQ 18 zRb ?_
  refine tnQ 19 zRL ?_
  refine tkQ 20 zR5 ?_
  refine tkQ 21 zRF ?_
  refine tnQ 22 zQw ?_
  refine tnQ 23 zRQ ?_
  refine tnQ 24 zRk ?_
  refine tkQ 25 zRE ?_
  refine rdQ 26 zRi (λK hK=>?_);go_simp
  refine hK.out _ _ (by assumption) (λhHeld=>?_);clear hK K;try simp only [Act.put,lA,lZ,lS]
  refine rdQ 27 zQr (λK hK=>?_);go_simp
  refine hK.out _ _ (by assumption) (λhHeld=>?_);clear hK K;try simp only [Act.put,lA,lZ,lS]
  refine wpAnyH_done (by kernel_rfl) ?_ _;go_wp2;go_ret2
  exact ⟨by simp,hBa.drew⟩
 cases q
 ·skip
  go_enter func48,ntmps48;go_upto_region 1 with fail
  generalize (w.alloc (.cells (zAE x).toArray 30))=W0 at *;have a0:W0.cell? ⟨w.heap.size,0,none⟩=some (.int .i64 6):=by rw [<-hk];exact pA.2.1 0 _ rfl
  go_upto_region 13 with fail
  clear a0;refine wp_region_held_drew (S:=zQj w.heap.size x) (by kernel_rfl) (zEf hk (AtL.drew pA)) (λhHeld=>?_);refine tkQ 0 zR2 ?_
  refine tkQ 1 zR9 ?_
  refine wpAnyH_take (i:=2) (oi:=zRe) (v:=.agg (zAE x).toArray) rfl (by kernel_rfl) (by kernel_rfl) (by kernel_rfl) (λ_ _ _ h=>h) (yieldsIf_load_mid (by rfl) 30 (.tmp 1) rfl w.heap.size 0 rfl (zAE x) _ (λw h=>h.1) underlying30 rfl (by kernel_rfl)) (by assumption) ?_;try simp only [Act.put,lA,lZ,lS]
  refine tkQ 3 zRh ?_
  refine tkQ 4 zRj ?_
  refine tkQ 5 zRl ?_
  refine tkQ 6 zRX ?_
  refine tkQ 7 zRG ?_
  refine tkQ 8 zRV ?_
  refine tkQ 9 zR1 ?_
  refine tkQ 10 zRK ?_
  refine tkQ 11 zRJ ?_
  refine tkQ 12 zRW ?_
  refine tkQ 13 zRC ?_
  refine rdQ 14 zRm (λK hK=>?_);go_simp
  refine (C _).mono ?_;rintro e w1 ⟨rfl,rfl⟩;go_wp2_with fail
  refine hK.out _ _ (by assumption) (λhHeld=>?_);clear hK K;try simp only [Act.put,lA,lZ,lS]
  refine tkQ 15 zR4 ?_
  refine tkQ 16 zQz ?_
  refine tnQ 17 zQn ?_
  refine tnQ 18 zRb ?_
  refine tnQ 19 zRL ?_
  refine tkQ 20 zR5 ?_
  refine tkQ 21 zRF ?_
  refine tnQ 22 zQw ?_
  refine tnQ 23 zRQ ?_
  refine tnQ 24 zRk ?_
  refine tkQ 25 zRE ?_
  refine rdQ 26 zRi (λK hK=>?_);go_simp
  refine hK.out _ _ (by assumption) (λhHeld=>?_);clear hK K;try simp only [Act.put,lA,lZ,lS]
  refine rdQ 27 zQr (λK hK=>?_);go_simp
  refine hK.out _ _ (by assumption) (λhHeld=>?_);clear hK K;try simp only [Act.put,lA,lZ,lS]
  refine wpAnyH_done (by kernel_rfl) ?_ _;go_wp2;go_ret2
  exact ⟨by simp,hBa.drew⟩
 by_cases g0:0<=x.ar
 ·by_cases g1:x.ar<=30
  all_goals
   skip
   go_enter func48,ntmps48;go_upto_region 1 with fail
   generalize (w.alloc (.cells (zAE x).toArray 30))=W0 at *;have a0:W0.cell? ⟨w.heap.size,0,none⟩=some (.int .i64 6):=by rw [<-hk];exact pA.2.1 0 _ rfl
   go_upto_region 13 with fail
   clear a0;refine wp_region_held_drew (S:=zQj w.heap.size x) (by kernel_rfl) (zEf hk (AtL.drew pA)) (λhHeld=>?_);refine tkQ 0 zR2 ?_
   refine tkQ 1 zR9 ?_
   refine wpAnyH_take (i:=2) (oi:=zRe) (v:=.agg (zAE x).toArray) rfl (by kernel_rfl) (by kernel_rfl) (by kernel_rfl) (λ_ _ _ h=>h) (yieldsIf_load_mid (by rfl) 30 (.tmp 1) rfl w.heap.size 0 rfl (zAE x) _ (λw h=>h.1) underlying30 rfl (by kernel_rfl)) (by assumption) ?_;try simp only [Act.put,lA,lZ,lS]
   refine tkQ 3 zRh ?_
   refine tkQ 4 zRj ?_
   refine tkQ 5 zRl ?_
   refine tkQ 6 zRX ?_
   refine tkQ 7 zRG ?_
   refine tkQ 8 zRV ?_
   refine tkQ 9 zR1 ?_
   refine tkQ 10 zRK ?_
   refine tkQ 11 zRJ ?_
   refine tkQ 12 zRW ?_
   refine tkQ 13 zRC ?_
   refine rdQ 14 zRm (λK hK=>?_);go_simp
   refine (C _).mono ?_;rintro e w1 ⟨rfl,rfl⟩;go_wp2_with fail
   refine hK.out _ _ (by assumption) (λhHeld=>?_);clear hK K;try simp only [Act.put,lA,lZ,lS]
   refine tkQ 15 zR4 ?_
   refine tkQ 16 zQz ?_
   refine tkQ 17 zQn ?_
   refine tkQ 18 zRb ?_
   refine tkQ 19 zRL ?_
   refine tkQ 20 zR5 ?_
   refine tkQ 21 zRF ?_
   refine tkQ 22 zQw ?_
   refine tkQ 23 zRQ ?_
   refine tkQ 24 zRk ?_
   refine tkQ 25 zRE ?_
   refine rdQ 26 zRi (λK hK=>?_);go_simp
   refine hK.out _ _ (by assumption) (λhHeld=>?_);clear hK K;try simp only [Act.put,lA,lZ,lS]
   refine rdQ 27 zQr (λK hK=>?_);go_simp
   refine hK.out _ _ (by assumption) (λhHeld=>?_);clear hK K;try simp only [Act.put,lA,lZ,lS]
   refine wpAnyH_done (by kernel_rfl) ?_ _;go_wp2;go_ret2
   first | (exact ⟨by simp [g0,g1],hBa.drew⟩) | (exact ⟨by simp [g0],hBa.drew⟩)
 ·have g0d:decide (0<=x.ar)=false:=decide_eq_false g0;go_enter func48,ntmps48;go_upto_region 1 with fail
  generalize (w.alloc (.cells (zAE x).toArray 30))=W0 at *;have a0:W0.cell? ⟨w.heap.size,0,none⟩=some (.int .i64 6):=by rw [<-hk];exact pA.2.1 0 _ rfl
  go_upto_region 13 with fail
  clear a0;refine wp_region_held_drew (S:=zQj w.heap.size x) (by kernel_rfl) (zEf hk (AtL.drew pA)) (λhHeld=>?_);refine tkQ 0 zR2 ?_
  refine tkQ 1 zR9 ?_
  refine wpAnyH_take (i:=2) (oi:=zRe) (v:=.agg (zAE x).toArray) rfl (by kernel_rfl) (by kernel_rfl) (by kernel_rfl) (λ_ _ _ h=>h) (yieldsIf_load_mid (by rfl) 30 (.tmp 1) rfl w.heap.size 0 rfl (zAE x) _ (λw h=>h.1) underlying30 rfl (by kernel_rfl)) (by assumption) ?_;try simp only [Act.put,lA,lZ,lS]
  refine tkQ 3 zRh ?_
  refine tkQ 4 zRj ?_
  refine tkQ 5 zRl ?_
  refine tkQ 6 zRX ?_
  refine tkQ 7 zRG ?_
  refine tkQ 8 zRV ?_
  refine tkQ 9 zR1 ?_
  refine tkQ 10 zRK ?_
  refine tkQ 11 zRJ ?_
  refine tkQ 12 zRW ?_
  refine tkQ 13 zRC ?_
  refine rdQ 14 zRm (λK hK=>?_);go_simp
  refine (C _).mono ?_;rintro e w1 ⟨rfl,rfl⟩;go_wp2_with fail
  refine hK.out _ _ (by assumption) (λhHeld=>?_);clear hK K;try simp only [Act.put,lA,lZ,lS]
  refine tkQ 15 zR4 ?_
  refine tkQ 16 zQz ?_
  refine tkQ 17 zQn ?_
  refine tkQ 18 zRb ?_
  refine tkQ 19 zRL ?_
  refine tkQ 20 zR5 ?_
  refine tkQ 21 zRF ?_
  refine tnQ 22 zQw ?_
  refine tnQ 23 zRQ ?_
  refine tnQ 24 zRk ?_
  refine tkQ 25 zRE ?_
  refine rdQ 26 zRi (λK hK=>?_);go_simp
  refine hK.out _ _ (by assumption) (λhHeld=>?_);clear hK K;try simp only [Act.put,lA,lZ,lS]
  refine rdQ 27 zQr (λK hK=>?_);go_simp
  refine hK.out _ _ (by assumption) (λhHeld=>?_);clear hK K;try simp only [Act.put,lA,lZ,lS]
  refine wpAnyH_done (by kernel_rfl) ?_ _;go_wp2;go_ret2
  exact ⟨by simp;omega,hBa.drew⟩
end Go.Proofs.YtdghjlmnlodnlaaGreatDoor
