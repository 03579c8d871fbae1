/- TRefE. -/
import Derived.Test.YtlggnpohhahdlaaGreatDoorQ31
import Derived.Deep.RegionHeld3
set_option maxHeartbeats 4000000
set_option maxRecDepth 100000
namespace Go.Proofs.YtlggnpohhahdlaaGreatDoor
open Go.RowKit
set_option linter.unusedVariables false
abbrev NdR3 (k:Nat) (x:Wt.Nd) (W:World):Prop :=
 W.rangeAt k 0 (nd20 x)∧W.cell? ⟨k,0,none⟩=some (.int .i64 3)∧W.cell? ⟨k,10,none⟩=some (.string x.a.s)∧W.cell? ⟨k,11,none⟩=some (.int .i64 x.a.r)∧W.cell? ⟨k,12,none⟩=some (.int .i64 x.a.c)∧W.cell? ⟨k,13,none⟩=some (.bool x.a.fr)∧W.cell? ⟨k,14,none⟩=some (.bool x.a.fc)∧W.cell? ⟨k,15,none⟩=some (.string x.b.s)∧W.cell? ⟨k,16,none⟩=some (.int .i64 x.b.r)∧W.cell? ⟨k,17,none⟩=some (.int .i64 x.b.c)∧W.cell? ⟨k,18,none⟩=some (.bool x.b.fr)∧W.cell? ⟨k,19,none⟩=some (.bool x.b.fc)
theorem NdR3_mk {k:Nat} {x:Wt.Nd} {W:World} (hk:x.k=3) (h:AtL W k (nd20 x)):NdR3 k x W :=
 ⟨h.range,by rw [←hk];exact h.2.1 0 _ rfl,h.2.1 10 _ rfl,h.2.1 11 _ rfl,h.2.1 12 _ rfl,h.2.1 13 _ rfl,h.2.1 14 _ rfl,h.2.1 15 _ rfl,h.2.1 16 _ rfl,h.2.1 17 _ rfl,h.2.1 18 _ rfl,h.2.1 19 _ rfl⟩
abbrev qe0:Oper:={dst:=some 36,op:=.load 45 (.tmp 1),type:=45,pos:= "tree.go:72",after:=#[],guard:=none}
abbrev qe1:Oper:={dst:=some 37,op:=.fieldAddr 45 (.tmp 1) 0,type:=0,pos:= "tree.go:72",after:=#[],guard:=none}
abbrev qe2:Oper:={dst:=some 38,op:=.load 3 (.tmp 37),type:=3,pos:= "tree.go:72",after:=#[⟨1,.data⟩],guard:=none}
abbrev qe3:Oper:={dst:=some 39,op:=.fieldAddr 45 (.tmp 1) 5,type:=0,pos:= "tree.go:72",after:=#[],guard:=none}
abbrev qe4:Oper:={dst:=some 40,op:=.load 43 (.tmp 39),type:=43,pos:= "tree.go:72",after:=#[⟨3,.data⟩],guard:=none}
abbrev qe5:Oper:={dst:=some 41,op:=.fieldAddr 45 (.tmp 1) 6,type:=0,pos:= "tree.go:72",after:=#[],guard:=none}
abbrev qe6:Oper:={dst:=some 42,op:=.load 43 (.tmp 41),type:=43,pos:= "tree.go:72",after:=#[⟨5,.data⟩],guard:=none}
abbrev qe7:Oper:={dst:=some 43,op:=.build 45 #[(0,.tmp 38),(5,.tmp 40),(6,.tmp 42)],type:=45,pos:= "tree.go:72",after:=#[⟨2,.data⟩,⟨4,.data⟩,⟨6,.data⟩],guard:=none}
abbrev qe8:Oper:={dst:=some 44,op:=.binOp BinOp.eql 45 (.tmp 36) (.tmp 43) 45,type:=4,pos:= "tree.go:72",after:=#[⟨0,.data⟩,⟨7,.data⟩],guard:=none}
abbrev qe9:Oper:={dst:=some 45,op:=.move (.tmp 44),type:=4,pos:= "tree.go:72",after:=#[⟨8,.data⟩],guard:=none}
abbrev qe10:Oper:={dst:=some 46,op:=.fieldAddr 45 (.tmp 1) 5,type:=0,pos:= "tree.go:72",after:=#[⟨9,.guard⟩],guard:=some (9,Bool.true)}
abbrev qe11:Oper:={dst:=some 47,op:=.load 43 (.tmp 46),type:=43,pos:= "tree.go:72",after:=#[⟨10,.data⟩,⟨9,.guard⟩],guard:=some (9,Bool.true)}
abbrev qe12:Oper:={dst:=some 48,op:=.call {callee:=Callee.value (Operand.func 86),args:=#[.tmp 47],argTypes:=#[43]},type:=4,pos:= "tree.go:72",after:=#[⟨11,.data⟩,⟨9,.chain⟩,⟨9,.guard⟩],guard:=some (9,Bool.true)}
abbrev qe13:Oper:={dst:=some 49,op:=.pick (.tmp 45) (.tmp 48) (Operand.const (Value.bool Bool.false)),type:=4,pos:= "tree.go:72",after:=#[⟨9,.data⟩,⟨12,.data⟩],guard:=none}
abbrev qe14:Oper:={dst:=some 50,op:=.move (.tmp 49),type:=4,pos:= "tree.go:72",after:=#[⟨13,.data⟩,⟨12,.chain⟩],guard:=none}
abbrev qe15:Oper:={dst:=some 51,op:=.fieldAddr 45 (.tmp 1) 6,type:=0,pos:= "tree.go:72",after:=#[⟨14,.guard⟩],guard:=some (14,Bool.true)}
abbrev qe16:Oper:={dst:=some 52,op:=.load 43 (.tmp 51),type:=43,pos:= "tree.go:72",after:=#[⟨15,.data⟩,⟨14,.guard⟩],guard:=some (14,Bool.true)}
abbrev qe17:Oper:={dst:=some 53,op:=.call {callee:=Callee.value (Operand.func 86),args:=#[.tmp 52],argTypes:=#[43]},type:=4,pos:= "tree.go:72",after:=#[⟨16,.data⟩,⟨14,.chain⟩,⟨14,.guard⟩],guard:=some (14,Bool.true)}
abbrev qe18:Oper:={dst:=some 54,op:=.pick (.tmp 50) (.tmp 53) (Operand.const (Value.bool Bool.false)),type:=4,pos:= "tree.go:72",after:=#[⟨14,.data⟩,⟨17,.data⟩],guard:=none}
abbrev qe19:Oper:={dst:=some 55,op:=.move (.tmp 54),type:=4,pos:= "tree.go:72",after:=#[⟨18,.data⟩,⟨17,.chain⟩],guard:=none}
abbrev qe20:Oper:={dst:=some 56,op:=.fieldAddr 45 (.tmp 1) 6,type:=0,pos:= "tree.go:72",after:=#[⟨19,.guard⟩,⟨25,.gcOnly .lateStores⟩],guard:=some (19,Bool.true)}
abbrev qe21:Oper:={dst:=some 57,op:=.fieldAddr 43 (.tmp 56) 0,type:=0,pos:= "tree.go:72",after:=#[⟨20,.data⟩,⟨19,.guard⟩,⟨25,.gcOnly .lateStores⟩],guard:=some (19,Bool.true)}
abbrev qe22:Oper:={dst:=some 58,op:=.load 9 (.tmp 57),type:=9,pos:= "tree.go:72",after:=#[⟨21,.data⟩,⟨19,.guard⟩,⟨25,.gcOnly .lateStores⟩],guard:=some (19,Bool.true)}
abbrev qe23:Oper:={dst:=some 59,op:=.binOp BinOp.eql 9 (.tmp 58) (Operand.const (Value.string {data:=#[]})) 9,type:=4,pos:= "tree.go:72",after:=#[⟨22,.data⟩,⟨19,.guard⟩,⟨25,.gcOnly .lateStores⟩],guard:=some (19,Bool.true)}
abbrev qe24:Oper:={dst:=some 60,op:=.pick (.tmp 55) (.tmp 59) (Operand.const (Value.bool Bool.false)),type:=4,pos:= "tree.go:72",after:=#[⟨19,.data⟩,⟨23,.data⟩,⟨25,.gcOnly .lateStores⟩],guard:=none}
abbrev qe25:Oper:={dst:=some 2,op:=.assign (Operand.const (Value.int IntKind.i64 0)),type:=3,pos:= "tree.go:72",after:=#[⟨19,.chain⟩,⟨0,.textOnly .lateStores⟩,⟨1,.textOnly .lateStores⟩,⟨2,.textOnly .lateStores⟩,⟨3,.textOnly .lateStores⟩,⟨4,.textOnly .lateStores⟩,⟨5,.textOnly .lateStores⟩,⟨6,.textOnly .lateStores⟩,⟨7,.textOnly .lateStores⟩,⟨8,.textOnly .lateStores⟩,⟨9,.textOnly .lateStores⟩,⟨10,.textOnly .lateStores⟩,⟨11,.textOnly .lateStores⟩,⟨12,.textOnly .lateStoresUnsure⟩,⟨13,.textOnly .lateStores⟩,⟨14,.textOnly .lateStores⟩,⟨15,.textOnly .lateStores⟩,⟨16,.textOnly .lateStores⟩,⟨17,.textOnly .lateStoresUnsure⟩,⟨18,.textOnly .lateStores⟩,⟨19,.textOnly .lateStores⟩,⟨20,.textOnly .lateStores⟩,⟨21,.textOnly .lateStores⟩,⟨22,.textOnly .lateStores⟩,⟨23,.textOnly .lateStores⟩,⟨24,.textOnly .lateStores⟩],guard:=none}
abbrev qe26:Oper:={dst:=some 3,op:=.assign (.tmp 60),type:=4,pos:= "tree.go:72",after:=#[⟨24,.data⟩,⟨25,.chain⟩,⟨0,.phase⟩,⟨1,.phase⟩,⟨2,.phase⟩,⟨3,.phase⟩,⟨4,.phase⟩,⟨5,.phase⟩,⟨6,.phase⟩,⟨7,.phase⟩,⟨8,.phase⟩,⟨9,.phase⟩,⟨10,.phase⟩,⟨11,.phase⟩,⟨12,.phase⟩,⟨13,.phase⟩,⟨14,.phase⟩,⟨15,.phase⟩,⟨16,.phase⟩,⟨17,.phase⟩,⟨18,.phase⟩,⟨19,.phase⟩,⟨20,.phase⟩,⟨21,.phase⟩,⟨22,.phase⟩,⟨23,.phase⟩,⟨24,.phase⟩,⟨25,.phase⟩],guard:=none}
theorem rnode_3 (x:Wt.Nd) (w:World) (hk:x.k=3) (hs:x.a.s.size≤9223372036854775807) (hsb:x.b.s.size≤9223372036854775807) :
  Calls Tryz.prog 54 #[ndV x] w fun e w'=>e=.returned (.tuple #[.int .i64 0,.bool ((Wt.rfOk x.a && Wt.rfOk x.b && x.b.s.toList.isEmpty) && eqN x ⟨3,Wt.v0,0,⟨#[]⟩,0,x.a,x.b⟩)])∧Below w.heap.size w w':=by
 have hq:∀ w:World,(binOp .eql 45 (.agg (nd20 x).toArray) (.agg #[.int .i64 3,.int .i64 0,.int .i64 0,.int .i64 0,.string ⟨#[]⟩,.bool false,.int .i64 0,.int .i64 0,.string ⟨#[]⟩,.int .i64 0,.string x.a.s,.int .i64 x.a.r,.int .i64 x.a.c,.bool x.a.fr,.bool x.a.fc,.string x.b.s,.int .i64 x.b.r,.int .i64 x.b.c,.bool x.b.fr,.bool x.b.fc])).run Tryz.prog w=.ok (.bool (eqN x ⟨3,Wt.v0,0,⟨#[]⟩,0,x.a,x.b⟩)) w:=fun w=>eqN_run x ⟨3,Wt.v0,0,⟨#[]⟩,0,x.a,x.b⟩ w
 generalize eqN x ⟨3,Wt.v0,0,⟨#[]⟩,0,x.a,x.b⟩=R at *;have CA:=fun w=>rrf_any x.a w hs
 have CB:=fun w=>rrf_any x.b w hsb
 generalize Wt.rfOk x.a=qa at *;generalize Wt.rfOk x.b=qb at *;have pA:AtL (w.alloc (.cells (nd20 x).toArray 45)) w.heap.size (nd20 x):=AtL.new0 w _ _;have hBa:Below w.heap.size w (w.alloc (.cells (nd20 x).toArray 45)):=ball (Below.refl _ w) _;show Calls _ _ #[.agg (nd20 x).toArray] _ _
 cases R
 ·clear CA CB;go_enter Tryz.func54,Tryz.ntmps54;go_upto_region 1 with fail
  generalize (w.alloc (.cells (nd20 x).toArray 45))=W0 at *;have a0:W0.cell? ⟨w.heap.size,0,none⟩=some (.int .i64 3):=by rw [←hk];exact pA.2.1 0 _ rfl
  go_upto_region 7 with fail
  clear a0;refine wp_region_held_drew (S:=NdR3 w.heap.size x) (by kernel_rfl) (NdR3_mk hk (AtL.drew pA)) (fun hHeld=>?_);refine wpAnyH_take (i:=0) (oi:=qe0) (v:=.agg (nd20 x).toArray) rfl (by kernel_rfl) (by kernel_rfl) (by kernel_rfl) (fun _ _ _ h=>h) (yieldsIf_load_mid (by rfl) 45 (.tmp 1) rfl w.heap.size 0 rfl (nd20 x) _ (fun w h=>h.1) Tryz.underlying45 rfl (by kernel_rfl)) (by assumption) ?_;try simp only [Act.put,lA,lZ,lS]
  refine tkQ 1 qe1 ?_;try simp only [Act.put,lA,lZ,lS]
  refine tkQ 2 qe2 ?_;try simp only [Act.put,lA,lZ,lS]
  refine tkQ 3 qe3 ?_;try simp only [Act.put,lA,lZ,lS]
  refine tkQ 4 qe4 ?_;try simp only [Act.put,lA,lZ,lS]
  refine tkQ 5 qe5 ?_;try simp only [Act.put,lA,lZ,lS]
  refine tkQ 6 qe6 ?_;try simp only [Act.put,lA,lZ,lS]
  refine tkQ 7 qe7 ?_;try simp only [Act.put,lA,lZ,lS]
  refine tkQ 8 qe8 ?_;try simp only [Act.put,lA,lZ,lS]
  refine tkQ 9 qe9 ?_;try simp only [Act.put,lA,lZ,lS]
  refine tnQ 10 qe10 ?_;try simp only [Act.put,lA,lZ,lS]
  refine tnQ 11 qe11 ?_;try simp only [Act.put,lA,lZ,lS]
  refine tnQ 12 qe12 ?_;try simp only [Act.put,lA,lZ,lS]
  refine tkQ 13 qe13 ?_;try simp only [Act.put,lA,lZ,lS]
  refine tkQ 14 qe14 ?_;try simp only [Act.put,lA,lZ,lS]
  refine tnQ 15 qe15 ?_;try simp only [Act.put,lA,lZ,lS]
  refine tnQ 16 qe16 ?_;try simp only [Act.put,lA,lZ,lS]
  refine tnQ 17 qe17 ?_;try simp only [Act.put,lA,lZ,lS]
  refine tkQ 18 qe18 ?_;try simp only [Act.put,lA,lZ,lS]
  refine tkQ 19 qe19 ?_;try simp only [Act.put,lA,lZ,lS]
  refine tnQ 20 qe20 ?_;try simp only [Act.put,lA,lZ,lS]
  refine tnQ 21 qe21 ?_;try simp only [Act.put,lA,lZ,lS]
  refine tnQ 22 qe22 ?_;try simp only [Act.put,lA,lZ,lS]
  refine tnQ 23 qe23 ?_;try simp only [Act.put,lA,lZ,lS]
  refine tkQ 24 qe24 ?_;try simp only [Act.put,lA,lZ,lS]
  refine wpAnyH_ready (rs:=[25]) (by kernel_rfl) (by simp) ?_;refine AllReadyH.cons (o:=qe25) rfl (fun K hK=>?_) AllReadyH.nil;go_simp
  refine hK.out _ _ (by assumption) (fun hHeld=>?_);clear hK K;try simp only [Act.put,lA,lZ,lS]
  refine wpAnyH_ready (rs:=[26]) (by kernel_rfl) (by simp) ?_;refine AllReadyH.cons (o:=qe26) rfl (fun K hK=>?_) AllReadyH.nil;go_simp
  refine hK.out _ _ (by assumption) (fun hHeld=>?_);clear hK K;try simp only [Act.put,lA,lZ,lS]
  refine wpAnyH_done (by kernel_rfl) ?_ _;go_wp2;go_ret2
  exact ⟨by simp,hBa.drew⟩
 cases qa
 ·clear CB;go_enter Tryz.func54,Tryz.ntmps54;go_upto_region 1 with fail
  generalize (w.alloc (.cells (nd20 x).toArray 45))=W0 at *;have a0:W0.cell? ⟨w.heap.size,0,none⟩=some (.int .i64 3):=by rw [←hk];exact pA.2.1 0 _ rfl
  go_upto_region 7 with fail
  clear a0;refine wp_region_held_drew (S:=NdR3 w.heap.size x) (by kernel_rfl) (NdR3_mk hk (AtL.drew pA)) (fun hHeld=>?_);refine wpAnyH_take (i:=0) (oi:=qe0) (v:=.agg (nd20 x).toArray) rfl (by kernel_rfl) (by kernel_rfl) (by kernel_rfl) (fun _ _ _ h=>h) (yieldsIf_load_mid (by rfl) 45 (.tmp 1) rfl w.heap.size 0 rfl (nd20 x) _ (fun w h=>h.1) Tryz.underlying45 rfl (by kernel_rfl)) (by assumption) ?_;try simp only [Act.put,lA,lZ,lS]
  refine tkQ 1 qe1 ?_;try simp only [Act.put,lA,lZ,lS]
  refine tkQ 2 qe2 ?_;try simp only [Act.put,lA,lZ,lS]
  refine tkQ 3 qe3 ?_;try simp only [Act.put,lA,lZ,lS]
  refine tkQ 4 qe4 ?_;try simp only [Act.put,lA,lZ,lS]
  refine tkQ 5 qe5 ?_;try simp only [Act.put,lA,lZ,lS]
  refine tkQ 6 qe6 ?_;try simp only [Act.put,lA,lZ,lS]
  refine tkQ 7 qe7 ?_;try simp only [Act.put,lA,lZ,lS]
  refine tkQ 8 qe8 ?_;try simp only [Act.put,lA,lZ,lS]
  refine tkQ 9 qe9 ?_;try simp only [Act.put,lA,lZ,lS]
  refine tkQ 10 qe10 ?_;try simp only [Act.put,lA,lZ,lS]
  refine tkQ 11 qe11 ?_;try simp only [Act.put,lA,lZ,lS]
  refine wpAnyH_ready (rs:=[12]) (by kernel_rfl) (by simp) ?_;refine AllReadyH.cons (o:=qe12) rfl (fun K hK=>?_) AllReadyH.nil;go_simp
  refine (CA _).mono ?_;rintro e w1 ⟨rfl,hb⟩;have pA1:=AtL.below hb (AtL.drew pA);have hB1:=below_end hBa.drew hb;clear hb;go_wp2_with fail
  refine hK.out _ _ (NdR3_mk hk pA1) (fun hHeld=>?_);clear hK K;try simp only [Act.put,lA,lZ,lS]
  refine tkQ 13 qe13 ?_;try simp only [Act.put,lA,lZ,lS]
  refine tkQ 14 qe14 ?_;try simp only [Act.put,lA,lZ,lS]
  refine tnQ 15 qe15 ?_;try simp only [Act.put,lA,lZ,lS]
  refine tnQ 16 qe16 ?_;try simp only [Act.put,lA,lZ,lS]
  refine tnQ 17 qe17 ?_;try simp only [Act.put,lA,lZ,lS]
  refine tkQ 18 qe18 ?_;try simp only [Act.put,lA,lZ,lS]
  refine tkQ 19 qe19 ?_;try simp only [Act.put,lA,lZ,lS]
  refine tnQ 20 qe20 ?_;try simp only [Act.put,lA,lZ,lS]
  refine tnQ 21 qe21 ?_;try simp only [Act.put,lA,lZ,lS]
  refine tnQ 22 qe22 ?_;try simp only [Act.put,lA,lZ,lS]
  refine tnQ 23 qe23 ?_;try simp only [Act.put,lA,lZ,lS]
  refine tkQ 24 qe24 ?_;try simp only [Act.put,lA,lZ,lS]
  refine wpAnyH_ready (rs:=[25]) (by kernel_rfl) (by simp) ?_;refine AllReadyH.cons (o:=qe25) rfl (fun K hK=>?_) AllReadyH.nil;go_simp
  refine hK.out _ _ (by assumption) (fun hHeld=>?_);clear hK K;try simp only [Act.put,lA,lZ,lS]
  refine wpAnyH_ready (rs:=[26]) (by kernel_rfl) (by simp) ?_;refine AllReadyH.cons (o:=qe26) rfl (fun K hK=>?_) AllReadyH.nil;go_simp
  refine hK.out _ _ (by assumption) (fun hHeld=>?_);clear hK K;try simp only [Act.put,lA,lZ,lS]
  refine wpAnyH_done (by kernel_rfl) ?_ _;go_wp2;go_ret2
  exact ⟨by simp,hB1⟩
 cases qb
 ·skip
  go_enter Tryz.func54,Tryz.ntmps54;go_upto_region 1 with fail
  generalize (w.alloc (.cells (nd20 x).toArray 45))=W0 at *;have a0:W0.cell? ⟨w.heap.size,0,none⟩=some (.int .i64 3):=by rw [←hk];exact pA.2.1 0 _ rfl
  go_upto_region 7 with fail
  clear a0;refine wp_region_held_drew (S:=NdR3 w.heap.size x) (by kernel_rfl) (NdR3_mk hk (AtL.drew pA)) (fun hHeld=>?_);refine wpAnyH_take (i:=0) (oi:=qe0) (v:=.agg (nd20 x).toArray) rfl (by kernel_rfl) (by kernel_rfl) (by kernel_rfl) (fun _ _ _ h=>h) (yieldsIf_load_mid (by rfl) 45 (.tmp 1) rfl w.heap.size 0 rfl (nd20 x) _ (fun w h=>h.1) Tryz.underlying45 rfl (by kernel_rfl)) (by assumption) ?_;try simp only [Act.put,lA,lZ,lS]
  refine tkQ 1 qe1 ?_;try simp only [Act.put,lA,lZ,lS]
  refine tkQ 2 qe2 ?_;try simp only [Act.put,lA,lZ,lS]
  refine tkQ 3 qe3 ?_;try simp only [Act.put,lA,lZ,lS]
  refine tkQ 4 qe4 ?_;try simp only [Act.put,lA,lZ,lS]
  refine tkQ 5 qe5 ?_;try simp only [Act.put,lA,lZ,lS]
  refine tkQ 6 qe6 ?_;try simp only [Act.put,lA,lZ,lS]
  refine tkQ 7 qe7 ?_;try simp only [Act.put,lA,lZ,lS]
  refine tkQ 8 qe8 ?_;try simp only [Act.put,lA,lZ,lS]
  refine tkQ 9 qe9 ?_;try simp only [Act.put,lA,lZ,lS]
  refine tkQ 10 qe10 ?_;try simp only [Act.put,lA,lZ,lS]
  refine tkQ 11 qe11 ?_;try simp only [Act.put,lA,lZ,lS]
  refine wpAnyH_ready (rs:=[12]) (by kernel_rfl) (by simp) ?_;refine AllReadyH.cons (o:=qe12) rfl (fun K hK=>?_) AllReadyH.nil;go_simp
  refine (CA _).mono ?_;rintro e w1 ⟨rfl,hb⟩;have pA1:=AtL.below hb (AtL.drew pA);have hB1:=below_end hBa.drew hb;clear hb;go_wp2_with fail
  refine hK.out _ _ (NdR3_mk hk pA1) (fun hHeld=>?_);clear hK K;try simp only [Act.put,lA,lZ,lS]
  refine tkQ 13 qe13 ?_;try simp only [Act.put,lA,lZ,lS]
  refine tkQ 14 qe14 ?_;try simp only [Act.put,lA,lZ,lS]
  refine tkQ 15 qe15 ?_;try simp only [Act.put,lA,lZ,lS]
  refine tkQ 16 qe16 ?_;try simp only [Act.put,lA,lZ,lS]
  refine wpAnyH_ready (rs:=[17]) (by kernel_rfl) (by simp) ?_;refine AllReadyH.cons (o:=qe17) rfl (fun K hK=>?_) AllReadyH.nil;go_simp
  refine (CB _).mono ?_;rintro e w2 ⟨rfl,hb⟩;replace pA1:=AtL.below hb pA1
  replace hB1:=below_end hB1 hb
  clear hb;go_wp2_with fail
  refine hK.out _ _ (NdR3_mk hk pA1) (fun hHeld=>?_);clear hK K;try simp only [Act.put,lA,lZ,lS]
  refine tkQ 18 qe18 ?_;try simp only [Act.put,lA,lZ,lS]
  refine tkQ 19 qe19 ?_;try simp only [Act.put,lA,lZ,lS]
  refine tnQ 20 qe20 ?_;try simp only [Act.put,lA,lZ,lS]
  refine tnQ 21 qe21 ?_;try simp only [Act.put,lA,lZ,lS]
  refine tnQ 22 qe22 ?_;try simp only [Act.put,lA,lZ,lS]
  refine tnQ 23 qe23 ?_;try simp only [Act.put,lA,lZ,lS]
  refine tkQ 24 qe24 ?_;try simp only [Act.put,lA,lZ,lS]
  refine wpAnyH_ready (rs:=[25]) (by kernel_rfl) (by simp) ?_;refine AllReadyH.cons (o:=qe25) rfl (fun K hK=>?_) AllReadyH.nil;go_simp
  refine hK.out _ _ (by assumption) (fun hHeld=>?_);clear hK K;try simp only [Act.put,lA,lZ,lS]
  refine wpAnyH_ready (rs:=[26]) (by kernel_rfl) (by simp) ?_;refine AllReadyH.cons (o:=qe26) rfl (fun K hK=>?_) AllReadyH.nil;go_simp
  refine hK.out _ _ (by assumption) (fun hHeld=>?_);clear hK K;try simp only [Act.put,lA,lZ,lS]
  refine wpAnyH_done (by kernel_rfl) ?_ _;go_wp2;go_ret2
  exact ⟨by simp,hB1⟩
 cases he:x.b.s.toList.isEmpty
 ·skip
  go_enter Tryz.func54,Tryz.ntmps54;go_upto_region 1 with fail
  generalize (w.alloc (.cells (nd20 x).toArray 45))=W0 at *;have a0:W0.cell? ⟨w.heap.size,0,none⟩=some (.int .i64 3):=by rw [←hk];exact pA.2.1 0 _ rfl
  go_upto_region 7 with fail
  clear a0;refine wp_region_held_drew (S:=NdR3 w.heap.size x) (by kernel_rfl) (NdR3_mk hk (AtL.drew pA)) (fun hHeld=>?_);refine wpAnyH_take (i:=0) (oi:=qe0) (v:=.agg (nd20 x).toArray) rfl (by kernel_rfl) (by kernel_rfl) (by kernel_rfl) (fun _ _ _ h=>h) (yieldsIf_load_mid (by rfl) 45 (.tmp 1) rfl w.heap.size 0 rfl (nd20 x) _ (fun w h=>h.1) Tryz.underlying45 rfl (by kernel_rfl)) (by assumption) ?_;try simp only [Act.put,lA,lZ,lS]
  refine tkQ 1 qe1 ?_;try simp only [Act.put,lA,lZ,lS]
  refine tkQ 2 qe2 ?_;try simp only [Act.put,lA,lZ,lS]
  refine tkQ 3 qe3 ?_;try simp only [Act.put,lA,lZ,lS]
  refine tkQ 4 qe4 ?_;try simp only [Act.put,lA,lZ,lS]
  refine tkQ 5 qe5 ?_;try simp only [Act.put,lA,lZ,lS]
  refine tkQ 6 qe6 ?_;try simp only [Act.put,lA,lZ,lS]
  refine tkQ 7 qe7 ?_;try simp only [Act.put,lA,lZ,lS]
  refine tkQ 8 qe8 ?_;try simp only [Act.put,lA,lZ,lS]
  refine tkQ 9 qe9 ?_;try simp only [Act.put,lA,lZ,lS]
  refine tkQ 10 qe10 ?_;try simp only [Act.put,lA,lZ,lS]
  refine tkQ 11 qe11 ?_;try simp only [Act.put,lA,lZ,lS]
  refine wpAnyH_ready (rs:=[12]) (by kernel_rfl) (by simp) ?_;refine AllReadyH.cons (o:=qe12) rfl (fun K hK=>?_) AllReadyH.nil;go_simp
  refine (CA _).mono ?_;rintro e w1 ⟨rfl,hb⟩;have pA1:=AtL.below hb (AtL.drew pA);have hB1:=below_end hBa.drew hb;clear hb;go_wp2_with fail
  refine hK.out _ _ (NdR3_mk hk pA1) (fun hHeld=>?_);clear hK K;try simp only [Act.put,lA,lZ,lS]
  refine tkQ 13 qe13 ?_;try simp only [Act.put,lA,lZ,lS]
  refine tkQ 14 qe14 ?_;try simp only [Act.put,lA,lZ,lS]
  refine tkQ 15 qe15 ?_;try simp only [Act.put,lA,lZ,lS]
  refine tkQ 16 qe16 ?_;try simp only [Act.put,lA,lZ,lS]
  refine wpAnyH_ready (rs:=[17]) (by kernel_rfl) (by simp) ?_;refine AllReadyH.cons (o:=qe17) rfl (fun K hK=>?_) AllReadyH.nil;go_simp
  refine (CB _).mono ?_;rintro e w2 ⟨rfl,hb⟩;replace pA1:=AtL.below hb pA1
  replace hB1:=below_end hB1 hb
  clear hb;go_wp2_with fail
  refine hK.out _ _ (NdR3_mk hk pA1) (fun hHeld=>?_);clear hK K;try simp only [Act.put,lA,lZ,lS]
  refine tkQ 18 qe18 ?_;try simp only [Act.put,lA,lZ,lS]
  refine tkQ 19 qe19 ?_;try simp only [Act.put,lA,lZ,lS]
  refine tkQ 20 qe20 ?_;try simp only [Act.put,lA,lZ,lS]
  refine tkQ 21 qe21 ?_;try simp only [Act.put,lA,lZ,lS]
  refine tkQ 22 qe22 ?_;try simp only [Act.put,lA,lZ,lS]
  refine tkQ 23 qe23 ?_;try simp only [Act.put,lA,lZ,lS]
  refine tkQ 24 qe24 ?_;try simp only [Act.put,lA,lZ,lS]
  refine wpAnyH_ready (rs:=[25]) (by kernel_rfl) (by simp) ?_;refine AllReadyH.cons (o:=qe25) rfl (fun K hK=>?_) AllReadyH.nil;go_simp
  refine hK.out _ _ (by assumption) (fun hHeld=>?_);clear hK K;try simp only [Act.put,lA,lZ,lS]
  refine wpAnyH_ready (rs:=[26]) (by kernel_rfl) (by simp) ?_;refine AllReadyH.cons (o:=qe26) rfl (fun K hK=>?_) AllReadyH.nil;go_simp
  refine hK.out _ _ (by assumption) (fun hHeld=>?_);clear hK K;try simp only [Act.put,lA,lZ,lS]
  refine wpAnyH_done (by kernel_rfl) ?_ _;go_wp2;go_ret2
  exact ⟨by simp,hB1⟩
 ·skip
  go_enter Tryz.func54,Tryz.ntmps54;go_upto_region 1 with fail
  generalize (w.alloc (.cells (nd20 x).toArray 45))=W0 at *;have a0:W0.cell? ⟨w.heap.size,0,none⟩=some (.int .i64 3):=by rw [←hk];exact pA.2.1 0 _ rfl
  go_upto_region 7 with fail
  clear a0;refine wp_region_held_drew (S:=NdR3 w.heap.size x) (by kernel_rfl) (NdR3_mk hk (AtL.drew pA)) (fun hHeld=>?_);refine wpAnyH_take (i:=0) (oi:=qe0) (v:=.agg (nd20 x).toArray) rfl (by kernel_rfl) (by kernel_rfl) (by kernel_rfl) (fun _ _ _ h=>h) (yieldsIf_load_mid (by rfl) 45 (.tmp 1) rfl w.heap.size 0 rfl (nd20 x) _ (fun w h=>h.1) Tryz.underlying45 rfl (by kernel_rfl)) (by assumption) ?_;try simp only [Act.put,lA,lZ,lS]
  refine tkQ 1 qe1 ?_;try simp only [Act.put,lA,lZ,lS]
  refine tkQ 2 qe2 ?_;try simp only [Act.put,lA,lZ,lS]
  refine tkQ 3 qe3 ?_;try simp only [Act.put,lA,lZ,lS]
  refine tkQ 4 qe4 ?_;try simp only [Act.put,lA,lZ,lS]
  refine tkQ 5 qe5 ?_;try simp only [Act.put,lA,lZ,lS]
  refine tkQ 6 qe6 ?_;try simp only [Act.put,lA,lZ,lS]
  refine tkQ 7 qe7 ?_;try simp only [Act.put,lA,lZ,lS]
  refine tkQ 8 qe8 ?_;try simp only [Act.put,lA,lZ,lS]
  refine tkQ 9 qe9 ?_;try simp only [Act.put,lA,lZ,lS]
  refine tkQ 10 qe10 ?_;try simp only [Act.put,lA,lZ,lS]
  refine tkQ 11 qe11 ?_;try simp only [Act.put,lA,lZ,lS]
  refine wpAnyH_ready (rs:=[12]) (by kernel_rfl) (by simp) ?_;refine AllReadyH.cons (o:=qe12) rfl (fun K hK=>?_) AllReadyH.nil;go_simp
  refine (CA _).mono ?_;rintro e w1 ⟨rfl,hb⟩;have pA1:=AtL.below hb (AtL.drew pA);have hB1:=below_end hBa.drew hb;clear hb;go_wp2_with fail
  refine hK.out _ _ (NdR3_mk hk pA1) (fun hHeld=>?_);clear hK K;try simp only [Act.put,lA,lZ,lS]
  refine tkQ 13 qe13 ?_;try simp only [Act.put,lA,lZ,lS]
  refine tkQ 14 qe14 ?_;try simp only [Act.put,lA,lZ,lS]
  refine tkQ 15 qe15 ?_;try simp only [Act.put,lA,lZ,lS]
  refine tkQ 16 qe16 ?_;try simp only [Act.put,lA,lZ,lS]
  refine wpAnyH_ready (rs:=[17]) (by kernel_rfl) (by simp) ?_;refine AllReadyH.cons (o:=qe17) rfl (fun K hK=>?_) AllReadyH.nil;go_simp
  refine (CB _).mono ?_;rintro e w2 ⟨rfl,hb⟩;replace pA1:=AtL.below hb pA1
  replace hB1:=below_end hB1 hb
  clear hb;go_wp2_with fail
  refine hK.out _ _ (NdR3_mk hk pA1) (fun hHeld=>?_);clear hK K;try simp only [Act.put,lA,lZ,lS]
  refine tkQ 18 qe18 ?_;try simp only [Act.put,lA,lZ,lS]
  refine tkQ 19 qe19 ?_;try simp only [Act.put,lA,lZ,lS]
  refine tkQ 20 qe20 ?_;try simp only [Act.put,lA,lZ,lS]
  refine tkQ 21 qe21 ?_;try simp only [Act.put,lA,lZ,lS]
  refine tkQ 22 qe22 ?_;try simp only [Act.put,lA,lZ,lS]
  refine tkQ 23 qe23 ?_;try simp only [Act.put,lA,lZ,lS]
  refine tkQ 24 qe24 ?_;try simp only [Act.put,lA,lZ,lS]
  refine wpAnyH_ready (rs:=[25]) (by kernel_rfl) (by simp) ?_;refine AllReadyH.cons (o:=qe25) rfl (fun K hK=>?_) AllReadyH.nil;go_simp
  refine hK.out _ _ (by assumption) (fun hHeld=>?_);clear hK K;try simp only [Act.put,lA,lZ,lS]
  refine wpAnyH_ready (rs:=[26]) (by kernel_rfl) (by simp) ?_;refine AllReadyH.cons (o:=qe26) rfl (fun K hK=>?_) AllReadyH.nil;go_simp
  refine hK.out _ _ (by assumption) (fun hHeld=>?_);clear hK K;try simp only [Act.put,lA,lZ,lS]
  refine wpAnyH_done (by kernel_rfl) ?_ _;go_wp2;go_ret2
  exact ⟨by simp,hB1⟩
end Go.Proofs.YtlggnpohhahdlaaGreatDoor
