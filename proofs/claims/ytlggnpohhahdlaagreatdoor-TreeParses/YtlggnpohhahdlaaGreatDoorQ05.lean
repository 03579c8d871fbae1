/- TRightB. -/
import Derived.Test.YtlggnpohhahdlaaGreatDoorQ04
set_option maxHeartbeats 8000000
set_option maxRecDepth 100000
namespace Go.Proofs.YtlggnpohhahdlaaGreatDoor
theorem tkQ {P:Program} {ops:Array Oper} {Q:Exit→Act→World→Prop} {md:Region.Mode} {S:World→Prop} {v:Value} {fuel:Nat} {listed:Array Bool} {a:Act} {w:World} (i:Nat) (oi:Oper) (h:wpAnyH P md ops Q S fuel (listed.setIfInBounds i true) (a.put oi.dst v) w) (hi:ops[i]? = some oi:=by rfl) (hs:Region.noSelect ops=true:=by kernel_rfl) (hf:Region.free md ops listed i=true:=by kernel_rfl) (hr:(Region.ready md ops listed).contains i=true:=by kernel_rfl) (hQ:∀ c a w,Q (.panic c) (a.put oi.dst v) w→Q (.panic c) a w:=by exact fun _ _ _ h=>h) (hw:Region.wanted oi (yielded ops a.tmps)=true:=by rfl) (hy:∀ w,S w→(execOp a.eval oi).run P w=.ok (.value v) w:=by (intro w hSw;(try dsimp only at hSw);go_simp;(try with_reducible rfl))) (hS:S w:=by assumption):wpAnyH P md ops Q S (fuel+1) listed a w:=wpAnyH_take hi hs hf hr hQ (Or.inl ⟨hw,hy⟩) hS h
theorem tnQ {P:Program} {ops:Array Oper} {Q:Exit→Act→World→Prop} {md:Region.Mode} {S:World→Prop} {fuel:Nat} {listed:Array Bool} {a:Act} {w:World} (i:Nat) (oi:Oper) (h:wpAnyH P md ops Q S fuel (listed.setIfInBounds i true) (a.put oi.dst undef) w) (hi:ops[i]? = some oi:=by rfl) (hs:Region.noSelect ops=true:=by kernel_rfl) (hf:Region.free md ops listed i=true:=by kernel_rfl) (hr:(Region.ready md ops listed).contains i=true:=by kernel_rfl) (hQ:∀ c a w,Q (.panic c) (a.put oi.dst undef) w→Q (.panic c) a w:=by exact fun _ _ _ h=>h) (hw:Region.wanted oi (yielded ops a.tmps)=false:=by rfl) (hS:S w:=by assumption):wpAnyH P md ops Q S (fuel+1) listed a w:=wpAnyH_take hi hs hf hr hQ (Or.inr ⟨hw,rfl⟩) hS h
abbrev z4n0:Oper:={dst:=some 30,op:=.fieldAddr 45 (.tmp 1) 5,type:=0,pos:= "tree.go:75",after:=#[],guard:=none}
abbrev z4n1:Oper:={dst:=some 31,op:=.load 43 (.tmp 30),type:=43,pos:= "tree.go:75",after:=#[⟨0,.data⟩],guard:=none}
abbrev z4n2:Oper:={dst:=some 32,op:=.fieldAddr 45 (.tmp 1) 6,type:=0,pos:= "tree.go:75",after:=#[⟨19,.gcOnly .lateStores⟩],guard:=none}
abbrev z4n3:Oper:={dst:=some 33,op:=.load 43 (.tmp 32),type:=43,pos:= "tree.go:75",after:=#[⟨2,.data⟩,⟨19,.gcOnly .lateStores⟩],guard:=none}
abbrev z4n4:Oper:={dst:=some 34,op:=.fieldAddr 45 (.tmp 1) 5,type:=0,pos:= "tree.go:75",after:=#[],guard:=none}
abbrev z4n5:Oper:={dst:=some 35,op:=.load 43 (.tmp 34),type:=43,pos:= "tree.go:75",after:=#[⟨4,.data⟩],guard:=none}
abbrev z4n6:Oper:={dst:=some 48,op:=.fieldAddr 45 (.tmp 3) 5,type:=0,pos:= "tree.go:75",after:=#[⟨0,.phase⟩,⟨1,.phase⟩,⟨2,.textOnly .lateStores⟩,⟨3,.textOnly .lateStores⟩,⟨4,.textOnly .lateStores⟩,⟨5,.textOnly .lateStores⟩,⟨6,.textOnly .lateStoresUnsure⟩,⟨7,.textOnly .lateStores⟩,⟨8,.textOnly .lateStores⟩,⟨9,.textOnly .lateStores⟩,⟨10,.textOnly .lateStoresUnsure⟩,⟨11,.textOnly .lateStores⟩,⟨12,.textOnly .lateStores⟩,⟨13,.textOnly .lateStores⟩,⟨14,.textOnly .lateStores⟩,⟨15,.textOnly .lateStores⟩,⟨16,.textOnly .lateStores⟩,⟨17,.textOnly .lateStores⟩],guard:=none}
abbrev z4n7:Oper:={dst:=some 36,op:=.call {callee:=Callee.value (Operand.func 82),args:=#[.tmp 35],argTypes:=#[43]},type:=4,pos:= "tree.go:75",after:=#[⟨5,.data⟩],guard:=none}
abbrev z4n8:Oper:={dst:=some 37,op:=.move (.tmp 36),type:=4,pos:= "tree.go:75",after:=#[⟨6,.data⟩,⟨6,.chain⟩],guard:=none}
abbrev z4n9:Oper:={dst:=some 38,op:=.fieldAddr 45 (.tmp 1) 6,type:=0,pos:= "tree.go:75",after:=#[⟨7,.guard⟩],guard:=some (7,Bool.true)}
abbrev z4n10:Oper:={dst:=some 39,op:=.load 43 (.tmp 38),type:=43,pos:= "tree.go:75",after:=#[⟨8,.data⟩,⟨7,.guard⟩],guard:=some (7,Bool.true)}
abbrev z4n11:Oper:={dst:=some 40,op:=.call {callee:=Callee.value (Operand.func 82),args:=#[.tmp 39],argTypes:=#[43]},type:=4,pos:= "tree.go:75",after:=#[⟨9,.data⟩,⟨7,.chain⟩,⟨7,.guard⟩],guard:=some (7,Bool.true)}
abbrev z4n12:Oper:={dst:=some 41,op:=.pick (.tmp 37) (.tmp 40) (Operand.const (Value.bool Bool.false)),type:=4,pos:= "tree.go:75",after:=#[⟨7,.data⟩,⟨10,.data⟩],guard:=none}
abbrev z4n13:Oper:={dst:=some 42,op:=.move (.tmp 41),type:=4,pos:= "tree.go:75",after:=#[⟨11,.data⟩,⟨10,.chain⟩],guard:=none}
abbrev z4n14:Oper:={dst:=some 43,op:=.fieldAddr 45 (.tmp 1) 6,type:=0,pos:= "tree.go:75",after:=#[⟨12,.guard⟩,⟨21,.gcOnly .lateStores⟩],guard:=some (12,Bool.true)}
abbrev z4n15:Oper:={dst:=some 44,op:=.fieldAddr 43 (.tmp 43) 0,type:=0,pos:= "tree.go:75",after:=#[⟨13,.data⟩,⟨12,.guard⟩,⟨21,.gcOnly .lateStores⟩],guard:=some (12,Bool.true)}
abbrev z4n16:Oper:={dst:=some 45,op:=.load 9 (.tmp 44),type:=9,pos:= "tree.go:75",after:=#[⟨14,.data⟩,⟨12,.guard⟩,⟨21,.gcOnly .lateStores⟩],guard:=some (12,Bool.true)}
abbrev z4n17:Oper:={dst:=some 46,op:=.binOp BinOp.eql 9 (.tmp 45) (Operand.const (Value.string {data:=#[]})) 9,type:=4,pos:= "tree.go:75",after:=#[⟨15,.data⟩,⟨12,.guard⟩,⟨21,.gcOnly .lateStores⟩],guard:=some (12,Bool.true)}
abbrev z4n18:Oper:={dst:=some 47,op:=.pick (.tmp 42) (.tmp 46) (Operand.const (Value.bool Bool.false)),type:=4,pos:= "tree.go:75",after:=#[⟨12,.data⟩,⟨16,.data⟩,⟨21,.gcOnly .lateStores⟩],guard:=none}
abbrev z4n19:Oper:={dst:=none,op:=.store 43 (.tmp 48) (.tmp 31),type:=0,pos:= "tree.go:75",after:=#[⟨18,.data⟩,⟨1,.data⟩,⟨12,.chain⟩,⟨0,.phase⟩,⟨1,.phase⟩,⟨2,.textOnly .lateStores⟩,⟨3,.textOnly .lateStores⟩,⟨4,.textOnly .lateStores⟩,⟨5,.textOnly .lateStores⟩,⟨6,.textOnly .lateStoresUnsure⟩,⟨7,.textOnly .lateStores⟩,⟨8,.textOnly .lateStores⟩,⟨9,.textOnly .lateStores⟩,⟨10,.textOnly .lateStoresUnsure⟩,⟨11,.textOnly .lateStores⟩,⟨12,.textOnly .lateStores⟩,⟨13,.textOnly .lateStores⟩,⟨14,.textOnly .lateStores⟩,⟨15,.textOnly .lateStores⟩,⟨16,.textOnly .lateStores⟩,⟨17,.textOnly .lateStores⟩],guard:=none}
abbrev z4n20:Oper:={dst:=some 49,op:=.fieldAddr 45 (.tmp 3) 6,type:=0,pos:= "tree.go:75",after:=#[⟨0,.phase⟩,⟨1,.phase⟩,⟨2,.phase⟩,⟨3,.phase⟩,⟨4,.textOnly .lateStores⟩,⟨5,.textOnly .lateStores⟩,⟨6,.textOnly .lateStoresUnsure⟩,⟨7,.textOnly .lateStores⟩,⟨8,.textOnly .lateStores⟩,⟨9,.textOnly .lateStores⟩,⟨10,.textOnly .lateStoresUnsure⟩,⟨11,.textOnly .lateStores⟩,⟨12,.textOnly .lateStores⟩,⟨13,.textOnly .lateStores⟩,⟨14,.textOnly .lateStores⟩,⟨15,.textOnly .lateStores⟩,⟨16,.textOnly .lateStores⟩,⟨17,.textOnly .lateStores⟩,⟨18,.phase⟩,⟨19,.phase⟩],guard:=none}
abbrev z4n21:Oper:={dst:=none,op:=.store 43 (.tmp 49) (.tmp 33),type:=0,pos:= "tree.go:75",after:=#[⟨20,.data⟩,⟨3,.data⟩,⟨19,.chain⟩,⟨0,.phase⟩,⟨1,.phase⟩,⟨2,.phase⟩,⟨3,.phase⟩,⟨4,.textOnly .lateStores⟩,⟨5,.textOnly .lateStores⟩,⟨6,.textOnly .lateStoresUnsure⟩,⟨7,.textOnly .lateStores⟩,⟨8,.textOnly .lateStores⟩,⟨9,.textOnly .lateStores⟩,⟨10,.textOnly .lateStoresUnsure⟩,⟨11,.textOnly .lateStores⟩,⟨12,.textOnly .lateStores⟩,⟨13,.textOnly .lateStores⟩,⟨14,.textOnly .lateStores⟩,⟨15,.textOnly .lateStores⟩,⟨16,.textOnly .lateStores⟩,⟨17,.textOnly .lateStores⟩,⟨18,.phase⟩,⟨19,.phase⟩],guard:=none}
abbrev z4n22:Oper:={dst:=some 4,op:=.assign (.tmp 47),type:=4,pos:= "tree.go:75",after:=#[⟨17,.data⟩,⟨21,.chain⟩,⟨0,.phase⟩,⟨1,.phase⟩,⟨2,.phase⟩,⟨3,.phase⟩,⟨4,.phase⟩,⟨5,.phase⟩,⟨6,.phase⟩,⟨7,.phase⟩,⟨8,.phase⟩,⟨9,.phase⟩,⟨10,.phase⟩,⟨11,.phase⟩,⟨12,.phase⟩,⟨13,.phase⟩,⟨14,.phase⟩,⟨15,.phase⟩,⟨16,.phase⟩,⟨17,.phase⟩,⟨18,.phase⟩,⟨19,.phase⟩,⟨20,.phase⟩,⟨21,.phase⟩],guard:=none}
open Go.RowKit
set_option linter.unusedVariables false
abbrev NdS3 (ka kb:Nat) (x:Wt.Nd) (W:World):Prop :=
 W.cell? ⟨ka,10,none⟩=some (.string x.a.s)∧W.cell? ⟨ka,11,none⟩=some (.int .i64 x.a.r)∧W.cell? ⟨ka,12,none⟩=some (.int .i64 x.a.c)∧W.cell? ⟨ka,13,none⟩=some (.bool x.a.fr)∧W.cell? ⟨ka,14,none⟩=some (.bool x.a.fc)∧W.cell? ⟨ka,15,none⟩=some (.string x.b.s)∧W.cell? ⟨ka,16,none⟩=some (.int .i64 x.b.r)∧W.cell? ⟨ka,17,none⟩=some (.int .i64 x.b.c)∧W.cell? ⟨ka,18,none⟩=some (.bool x.b.fr)∧W.cell? ⟨ka,19,none⟩=some (.bool x.b.fc)∧W.frozen? ⟨kb,10,none⟩=false∧W.frozen? ⟨kb,11,none⟩=false∧W.frozen? ⟨kb,12,none⟩=false∧W.frozen? ⟨kb,13,none⟩=false∧W.frozen? ⟨kb,14,none⟩=false∧W.frozen? ⟨kb,15,none⟩=false∧W.frozen? ⟨kb,16,none⟩=false∧W.frozen? ⟨kb,17,none⟩=false∧W.frozen? ⟨kb,18,none⟩=false∧W.frozen? ⟨kb,19,none⟩=false
theorem NdS3_mk {ka kb:Nat} {x y:Wt.Nd} {W:World} (h0:AtL W ka (nd20 x)) (h1:AtL W kb (nd20 y)):NdS3 ka kb x W :=
 ⟨h0.2.1 10 _ rfl,h0.2.1 11 _ rfl,h0.2.1 12 _ rfl,h0.2.1 13 _ rfl,h0.2.1 14 _ rfl,h0.2.1 15 _ rfl,h0.2.1 16 _ rfl,h0.2.1 17 _ rfl,h0.2.1 18 _ rfl,h0.2.1 19 _ rfl,h1.2.2 10 (by show 10<20;decide),h1.2.2 11 (by show 11<20;decide),h1.2.2 12 (by show 12<20;decide),h1.2.2 13 (by show 13<20;decide),h1.2.2 14 (by show 14<20;decide),h1.2.2 15 (by show 15<20;decide),h1.2.2 16 (by show 16<20;decide),h1.2.2 17 (by show 17<20;decide),h1.2.2 18 (by show 18<20;decide),h1.2.2 19 (by show 19<20;decide)⟩
theorem NdS3_set {ka kb:Nat} {x:Wt.Nd} {W:World} (h:NdS3 ka kb x W) (hne:kb ≠ ka) (j:Nat) (u:Value):NdS3 ka kb x (W.setCell ⟨kb,j,none⟩ u):=by
 obtain ⟨h10,h11,h12,h13,h14,h15,h16,h17,h18,h19,g10,g11,g12,g13,g14,g15,g16,g17,g18,g19⟩:=h;refine ⟨?_,?_,?_,?_,?_,?_,?_,?_,?_,?_,?_,?_,?_,?_,?_,?_,?_,?_,?_,?_⟩;any_goals rw [World.cell?_setCell_far _ _ _ _ (by simpa using hne)];assumption
 all_goals rw [World.frozen?_setCell];assumption
theorem tright_3 (x:Wt.Nd) (w:World) (hk:x.k=3) (hs:x.a.s.size≤9223372036854775807) (hsb:x.b.s.size≤9223372036854775807) :
  Calls Tryz.prog 53 #[ndV x] w fun e w'=>e=.returned (.bool ((Wt.rfOk x.a && Wt.rfOk x.b && x.b.s.toList.isEmpty) && eqN x ⟨3,Wt.v0,0,⟨#[]⟩,0,x.a,x.b⟩))∧Below w.heap.size w w':=by
 have CA:=(fun w=>trf_any x.a w hs:∀ w:World,Calls Tryz.prog 82 #[.agg #[.string x.a.s,.int .i64 x.a.r,.int .i64 x.a.c,.bool x.a.fr,.bool x.a.fc]] w fun e w'=>e=.returned (.bool (Wt.rfOk x.a))∧Below w.heap.size w w')
 have CB:=(fun w=>trf_any x.b w hsb:∀ w:World,Calls Tryz.prog 82 #[.agg #[.string x.b.s,.int .i64 x.b.r,.int .i64 x.b.c,.bool x.b.fr,.bool x.b.fc]] w fun e w'=>e=.returned (.bool (Wt.rfOk x.b))∧Below w.heap.size w w')
 have hq:∀ w:World,(binOp .eql 45 (.agg (nd20 x).toArray) (.agg (nd20 ⟨3,Wt.v0,0,⟨#[]⟩,0,x.a,x.b⟩).toArray)).run Tryz.prog w=.ok (.bool (eqN x ⟨3,Wt.v0,0,⟨#[]⟩,0,x.a,x.b⟩)) w:=fun w=>eqN_run x ⟨3,Wt.v0,0,⟨#[]⟩,0,x.a,x.b⟩ w
 generalize eqN x ⟨3,Wt.v0,0,⟨#[]⟩,0,x.a,x.b⟩=R at *;generalize Wt.rfOk x.a=qa at *;generalize Wt.rfOk x.b=qb at *;have pA0:AtL (two w x) w.heap.size (nd20 x):=(AtL.new0 w _ _).alloc _;have pO0:AtL (two w x) (w.heap.size+1) (nd20 (bare 0)):=AtL.new1 w _ _ _;have hth:World.there (two w x) (w.heap.size+1) 0 (nd20 (bare 3)).toArray.size:=pO0.there;have hne:w.heap.size+1 ≠ w.heap.size:=by omega
 have pA:=pA0.farAll hne 0 (nd20 (bare 3));have pO:AtL ((two w x).setCells (w.heap.size+1) 0 (nd20 (bare 3))) (w.heap.size+1) (nd20 (bare 3)):=pO0.setAll rfl;have hBa:Below w.heap.size w ((two w x).setCells (w.heap.size+1) 0 (nd20 (bare 3))):=bset (ball (ball (Below.refl _ w) _) _) (Nat.le_succ _) _ 0;clear pA0 pO0;have n0:(nd20 x)[0]? = some (.int .i64 3):=by rw [←hk];rfl
 have a0:World.cell? ((two w x).setCells (w.heap.size+1) 0 (nd20 (bare 3))) ⟨w.heap.size,0,none⟩=some (.int .i64 3):=pA.2.1 0 _ n0;show Calls _ _ #[.agg (nd20 x).toArray] _ _
 cases qa
 ·clear CB;go_enter Tryz.func53,Tryz.ntmps53;go_upto_region 1 with fail
  go_upto_region 2 with ((with_reducible refine wpList_store_mid ?_ 45 (.tmp 3) (.tmp 9) ?_ (w.heap.size+1) 0 (nd20 (bare 3)).toArray ?_ ?_ ?_ ?_ ?_ ?_);rfl;rfl;rfl;rfl;exact hth;kernel_rfl;exact one20 _)
  generalize (two w x).setCells (w.heap.size+1) 0 (nd20 (bare 3))=W0 at *;clear hth;go_upto_region 8 with fail
  refine wp_region_held_drew (S:=NdS3 w.heap.size (w.heap.size+1) x) (by kernel_rfl) (NdS3_mk (AtL.drew pA) (AtL.drew pO)) (fun hHeld=>?_);refine tkQ 0 z4n0 ?_;try simp only [Act.put,lA,lZ,lS]
  refine tkQ 1 z4n1 ?_;try simp only [Act.put,lA,lZ,lS]
  refine tkQ 2 z4n2 ?_;try simp only [Act.put,lA,lZ,lS]
  refine tkQ 3 z4n3 ?_;try simp only [Act.put,lA,lZ,lS]
  refine tkQ 4 z4n4 ?_;try simp only [Act.put,lA,lZ,lS]
  refine tkQ 5 z4n5 ?_;try simp only [Act.put,lA,lZ,lS]
  refine tkQ 18 z4n6 ?_;try simp only [Act.put,lA,lZ,lS]
  refine wpAnyH_ready (rs:=[6]) (by kernel_rfl) (by simp) ?_;refine AllReadyH.cons (o:=z4n7) rfl (fun K hK=>?_) AllReadyH.nil;go_simp
  refine (CA _).mono ?_;rintro e w1 ⟨rfl,hb⟩;have pA1:=AtL.below hb (AtL.drew pA);have pO1:=AtL.below hb (AtL.drew pO);have hB1:=below_end hBa.drew hb;clear hb;go_wp2_with fail
  refine hK.out _ _ (NdS3_mk pA1 pO1) (fun hHeld=>?_);clear hK K;try simp only [Act.put,lA,lZ,lS]
  refine tkQ 7 z4n8 ?_;try simp only [Act.put,lA,lZ,lS]
  refine tnQ 8 z4n9 ?_;try simp only [Act.put,lA,lZ,lS]
  refine tnQ 9 z4n10 ?_;try simp only [Act.put,lA,lZ,lS]
  refine tnQ 10 z4n11 ?_;try simp only [Act.put,lA,lZ,lS]
  refine tkQ 11 z4n12 ?_;try simp only [Act.put,lA,lZ,lS]
  refine tkQ 12 z4n13 ?_;try simp only [Act.put,lA,lZ,lS]
  refine tnQ 13 z4n14 ?_;try simp only [Act.put,lA,lZ,lS]
  refine tnQ 14 z4n15 ?_;try simp only [Act.put,lA,lZ,lS]
  refine tnQ 15 z4n16 ?_;try simp only [Act.put,lA,lZ,lS]
  refine tnQ 16 z4n17 ?_;try simp only [Act.put,lA,lZ,lS]
  refine tkQ 17 z4n18 ?_;try simp only [Act.put,lA,lZ,lS]
  refine wpAnyH_ready (rs:=[19]) (by kernel_rfl) (by simp) ?_;refine AllReadyH.cons (o:=z4n19) rfl (fun K hK=>?_) AllReadyH.nil;have o10:=pO1.2.1 10 _ rfl;have o11:=pO1.2.1 11 _ rfl;have o12:=pO1.2.1 12 _ rfl;have o13:=pO1.2.1 13 _ rfl;have o14:=pO1.2.1 14 _ rfl;have o15:=pO1.2.1 15 _ rfl;have o16:=pO1.2.1 16 _ rfl;have o17:=pO1.2.1 17 _ rfl;have o18:=pO1.2.1 18 _ rfl;have o19:=pO1.2.1 19 _ rfl;obtain ⟨_,_,_,_,_,_,_,_,_,_,g10,g11,g12,g13,g14,g15,g16,g17,g18,g19⟩:=hHeld;go_simp
  refine hK.out _ _ ((NdS3_set (NdS3_set (NdS3_set (NdS3_set (NdS3_set (NdS3_mk pA1 pO1) (by omega) _ _) (by omega) _ _) (by omega) _ _) (by omega) _ _) (by omega) _ _)) (fun hHeld=>?_);clear hK K;try simp only [Act.put,lA,lZ,lS]
  refine tkQ 20 z4n20 ?_;try simp only [Act.put,lA,lZ,lS]
  refine wpAnyH_ready (rs:=[21]) (by kernel_rfl) (by simp) ?_;refine AllReadyH.cons (o:=z4n21) rfl (fun K hK=>?_) AllReadyH.nil;have pA3:AtL (((((w1.setCell ⟨w.heap.size+1,10,none⟩ (.string x.a.s)).setCell ⟨w.heap.size+1,11,none⟩ (.int .i64 x.a.r)).setCell ⟨w.heap.size+1,12,none⟩ (.int .i64 x.a.c)).setCell ⟨w.heap.size+1,13,none⟩ (.bool x.a.fr)).setCell ⟨w.heap.size+1,14,none⟩ (.bool x.a.fc)) w.heap.size (nd20 x):=(((((pA1.far hne 10 (.string x.a.s)).far hne 11 (.int .i64 x.a.r)).far hne 12 (.int .i64 x.a.c)).far hne 13 (.bool x.a.fr)).far hne 14 (.bool x.a.fc))
  have pO3:AtL (((((w1.setCell ⟨w.heap.size+1,10,none⟩ (.string x.a.s)).setCell ⟨w.heap.size+1,11,none⟩ (.int .i64 x.a.r)).setCell ⟨w.heap.size+1,12,none⟩ (.int .i64 x.a.c)).setCell ⟨w.heap.size+1,13,none⟩ (.bool x.a.fr)).setCell ⟨w.heap.size+1,14,none⟩ (.bool x.a.fc)) (w.heap.size+1) (nd20 ⟨3,Wt.v0,0,⟨#[]⟩,0,x.a,Wt.r0⟩):=(((((pO1.set 10 (.string x.a.s)).set 11 (.int .i64 x.a.r)).set 12 (.int .i64 x.a.c)).set 13 (.bool x.a.fr)).set 14 (.bool x.a.fc))
  have hB3:Below w.heap.size w (((((w1.setCell ⟨w.heap.size+1,10,none⟩ (.string x.a.s)).setCell ⟨w.heap.size+1,11,none⟩ (.int .i64 x.a.r)).setCell ⟨w.heap.size+1,12,none⟩ (.int .i64 x.a.c)).setCell ⟨w.heap.size+1,13,none⟩ (.bool x.a.fr)).setCell ⟨w.heap.size+1,14,none⟩ (.bool x.a.fc)):=by with_reducible repeat (first | exact hB1 | refine ball ?_ _ | refine Below.setCell ?_ (by first | (simp;done) | (simp;omega) | omega) _ | refine Below.drew ?_ | refine below_drewN ?_ _)
  clear pA1 pO1 hB1 o10 o11 o12 o13 o14 o15 o16 o17 o18 o19 g10 g11 g12 g13 g14 g15 g16 g17 g18 g19;generalize (((((w1.setCell ⟨w.heap.size+1,10,none⟩ (.string x.a.s)).setCell ⟨w.heap.size+1,11,none⟩ (.int .i64 x.a.r)).setCell ⟨w.heap.size+1,12,none⟩ (.int .i64 x.a.c)).setCell ⟨w.heap.size+1,13,none⟩ (.bool x.a.fr)).setCell ⟨w.heap.size+1,14,none⟩ (.bool x.a.fc))=w9 at *;have o10:=pO3.2.1 10 _ rfl;have o11:=pO3.2.1 11 _ rfl;have o12:=pO3.2.1 12 _ rfl;have o13:=pO3.2.1 13 _ rfl;have o14:=pO3.2.1 14 _ rfl;have o15:=pO3.2.1 15 _ rfl;have o16:=pO3.2.1 16 _ rfl;have o17:=pO3.2.1 17 _ rfl;have o18:=pO3.2.1 18 _ rfl;have o19:=pO3.2.1 19 _ rfl;obtain ⟨_,_,_,_,_,_,_,_,_,_,g10,g11,g12,g13,g14,g15,g16,g17,g18,g19⟩:=hHeld;go_simp
  refine hK.out _ _ ((NdS3_set (NdS3_set (NdS3_set (NdS3_set (NdS3_set (NdS3_mk pA3 pO3) (by omega) _ _) (by omega) _ _) (by omega) _ _) (by omega) _ _) (by omega) _ _)) (fun hHeld=>?_);clear hK K;try simp only [Act.put,lA,lZ,lS]
  refine wpAnyH_ready (rs:=[22]) (by kernel_rfl) (by simp) ?_;refine AllReadyH.cons (o:=z4n22) rfl (fun K hK=>?_) AllReadyH.nil;go_simp
  refine hK.out _ _ (by assumption) (fun hHeld=>?_);clear hK K;try simp only [Act.put,lA,lZ,lS]
  refine wpAnyH_done (by kernel_rfl) ?_ _;have pA2:AtL (((((w9.setCell ⟨w.heap.size+1,15,none⟩ (.string x.b.s)).setCell ⟨w.heap.size+1,16,none⟩ (.int .i64 x.b.r)).setCell ⟨w.heap.size+1,17,none⟩ (.int .i64 x.b.c)).setCell ⟨w.heap.size+1,18,none⟩ (.bool x.b.fr)).setCell ⟨w.heap.size+1,19,none⟩ (.bool x.b.fc)) w.heap.size (nd20 x):=(((((pA3.far hne 15 (.string x.b.s)).far hne 16 (.int .i64 x.b.r)).far hne 17 (.int .i64 x.b.c)).far hne 18 (.bool x.b.fr)).far hne 19 (.bool x.b.fc))
  have pO2:AtL (((((w9.setCell ⟨w.heap.size+1,15,none⟩ (.string x.b.s)).setCell ⟨w.heap.size+1,16,none⟩ (.int .i64 x.b.r)).setCell ⟨w.heap.size+1,17,none⟩ (.int .i64 x.b.c)).setCell ⟨w.heap.size+1,18,none⟩ (.bool x.b.fr)).setCell ⟨w.heap.size+1,19,none⟩ (.bool x.b.fc)) (w.heap.size+1) (nd20 ⟨3,Wt.v0,0,⟨#[]⟩,0,x.a,x.b⟩):=(((((pO3.set 15 (.string x.b.s)).set 16 (.int .i64 x.b.r)).set 17 (.int .i64 x.b.c)).set 18 (.bool x.b.fr)).set 19 (.bool x.b.fc))
  have hB2:Below w.heap.size w (((((w9.setCell ⟨w.heap.size+1,15,none⟩ (.string x.b.s)).setCell ⟨w.heap.size+1,16,none⟩ (.int .i64 x.b.r)).setCell ⟨w.heap.size+1,17,none⟩ (.int .i64 x.b.c)).setCell ⟨w.heap.size+1,18,none⟩ (.bool x.b.fr)).setCell ⟨w.heap.size+1,19,none⟩ (.bool x.b.fc)):=by with_reducible repeat (first | exact hB3 | refine ball ?_ _ | refine Below.setCell ?_ (by first | (simp;done) | (simp;omega) | omega) _ | refine Below.drew ?_ | refine below_drewN ?_ _)
  clear pA3 pO3 hB3 o10 o11 o12 o13 o14 o15 o16 o17 o18 o19 g10 g11 g12 g13 g14 g15 g16 g17 g18 g19;generalize (((((w9.setCell ⟨w.heap.size+1,15,none⟩ (.string x.b.s)).setCell ⟨w.heap.size+1,16,none⟩ (.int .i64 x.b.r)).setCell ⟨w.heap.size+1,17,none⟩ (.int .i64 x.b.c)).setCell ⟨w.heap.size+1,18,none⟩ (.bool x.b.fr)).setCell ⟨w.heap.size+1,19,none⟩ (.bool x.b.fc))=W2 at *;have rA:=pA2.range;have rO:=pO2.range;clear pA2 pO2;go_wp2_with (first | ((with_reducible refine wpList_load_want ?_ 45 (.tmp 1) ?_ w.heap.size 0 ?_ (nd20 x) _ ?_ Tryz.underlying45 ?_ ?_ ?_);rfl;rfl;rfl;exact rA;rfl;kernel_rfl) | ((with_reducible refine wpList_load_want ?_ 45 (.tmp 3) ?_ (w.heap.size+1) 0 ?_ (nd20 ⟨3,Wt.v0,0,⟨#[]⟩,0,x.a,x.b⟩) _ ?_ Tryz.underlying45 ?_ ?_ ?_);rfl;rfl;rfl;exact rO;rfl;kernel_rfl))
  go_wp2;go_ret;exact ⟨by simp,hB2⟩
 cases qb
 ·go_enter Tryz.func53,Tryz.ntmps53;go_upto_region 1 with fail
  go_upto_region 2 with ((with_reducible refine wpList_store_mid ?_ 45 (.tmp 3) (.tmp 9) ?_ (w.heap.size+1) 0 (nd20 (bare 3)).toArray ?_ ?_ ?_ ?_ ?_ ?_);rfl;rfl;rfl;rfl;exact hth;kernel_rfl;exact one20 _)
  generalize (two w x).setCells (w.heap.size+1) 0 (nd20 (bare 3))=W0 at *;clear hth;go_upto_region 8 with fail
  refine wp_region_held_drew (S:=NdS3 w.heap.size (w.heap.size+1) x) (by kernel_rfl) (NdS3_mk (AtL.drew pA) (AtL.drew pO)) (fun hHeld=>?_);refine tkQ 0 z4n0 ?_;try simp only [Act.put,lA,lZ,lS]
  refine tkQ 1 z4n1 ?_;try simp only [Act.put,lA,lZ,lS]
  refine tkQ 2 z4n2 ?_;try simp only [Act.put,lA,lZ,lS]
  refine tkQ 3 z4n3 ?_;try simp only [Act.put,lA,lZ,lS]
  refine tkQ 4 z4n4 ?_;try simp only [Act.put,lA,lZ,lS]
  refine tkQ 5 z4n5 ?_;try simp only [Act.put,lA,lZ,lS]
  refine tkQ 18 z4n6 ?_;try simp only [Act.put,lA,lZ,lS]
  refine wpAnyH_ready (rs:=[6]) (by kernel_rfl) (by simp) ?_;refine AllReadyH.cons (o:=z4n7) rfl (fun K hK=>?_) AllReadyH.nil;go_simp
  refine (CA _).mono ?_;rintro e w1 ⟨rfl,hb⟩;have pA1:=AtL.below hb (AtL.drew pA);have pO1:=AtL.below hb (AtL.drew pO);have hB1:=below_end hBa.drew hb;clear hb;go_wp2_with fail
  refine hK.out _ _ (NdS3_mk pA1 pO1) (fun hHeld=>?_);clear hK K;try simp only [Act.put,lA,lZ,lS]
  refine tkQ 7 z4n8 ?_;try simp only [Act.put,lA,lZ,lS]
  refine tkQ 8 z4n9 ?_;try simp only [Act.put,lA,lZ,lS]
  refine tkQ 9 z4n10 ?_;try simp only [Act.put,lA,lZ,lS]
  refine wpAnyH_ready (rs:=[10]) (by kernel_rfl) (by simp) ?_;refine AllReadyH.cons (o:=z4n11) rfl (fun K hK=>?_) AllReadyH.nil;go_simp
  refine (CB _).mono ?_;rintro e w2 ⟨rfl,hb⟩;replace pA1:=AtL.below hb pA1
  replace pO1:=AtL.below hb pO1
  replace hB1:=below_end hB1 hb
  clear hb;go_wp2_with fail
  refine hK.out _ _ (NdS3_mk pA1 pO1) (fun hHeld=>?_);clear hK K;try simp only [Act.put,lA,lZ,lS]
  refine tkQ 11 z4n12 ?_;try simp only [Act.put,lA,lZ,lS]
  refine tkQ 12 z4n13 ?_;try simp only [Act.put,lA,lZ,lS]
  refine tnQ 13 z4n14 ?_;try simp only [Act.put,lA,lZ,lS]
  refine tnQ 14 z4n15 ?_;try simp only [Act.put,lA,lZ,lS]
  refine tnQ 15 z4n16 ?_;try simp only [Act.put,lA,lZ,lS]
  refine tnQ 16 z4n17 ?_;try simp only [Act.put,lA,lZ,lS]
  refine tkQ 17 z4n18 ?_;try simp only [Act.put,lA,lZ,lS]
  refine wpAnyH_ready (rs:=[19]) (by kernel_rfl) (by simp) ?_;refine AllReadyH.cons (o:=z4n19) rfl (fun K hK=>?_) AllReadyH.nil;have o10:=pO1.2.1 10 _ rfl;have o11:=pO1.2.1 11 _ rfl;have o12:=pO1.2.1 12 _ rfl;have o13:=pO1.2.1 13 _ rfl;have o14:=pO1.2.1 14 _ rfl;have o15:=pO1.2.1 15 _ rfl;have o16:=pO1.2.1 16 _ rfl;have o17:=pO1.2.1 17 _ rfl;have o18:=pO1.2.1 18 _ rfl;have o19:=pO1.2.1 19 _ rfl;obtain ⟨_,_,_,_,_,_,_,_,_,_,g10,g11,g12,g13,g14,g15,g16,g17,g18,g19⟩:=hHeld;go_simp
  refine hK.out _ _ ((NdS3_set (NdS3_set (NdS3_set (NdS3_set (NdS3_set (NdS3_mk pA1 pO1) (by omega) _ _) (by omega) _ _) (by omega) _ _) (by omega) _ _) (by omega) _ _)) (fun hHeld=>?_);clear hK K;try simp only [Act.put,lA,lZ,lS]
  refine tkQ 20 z4n20 ?_;try simp only [Act.put,lA,lZ,lS]
  refine wpAnyH_ready (rs:=[21]) (by kernel_rfl) (by simp) ?_;refine AllReadyH.cons (o:=z4n21) rfl (fun K hK=>?_) AllReadyH.nil;have pA3:AtL (((((w2.setCell ⟨w.heap.size+1,10,none⟩ (.string x.a.s)).setCell ⟨w.heap.size+1,11,none⟩ (.int .i64 x.a.r)).setCell ⟨w.heap.size+1,12,none⟩ (.int .i64 x.a.c)).setCell ⟨w.heap.size+1,13,none⟩ (.bool x.a.fr)).setCell ⟨w.heap.size+1,14,none⟩ (.bool x.a.fc)) w.heap.size (nd20 x):=(((((pA1.far hne 10 (.string x.a.s)).far hne 11 (.int .i64 x.a.r)).far hne 12 (.int .i64 x.a.c)).far hne 13 (.bool x.a.fr)).far hne 14 (.bool x.a.fc))
  have pO3:AtL (((((w2.setCell ⟨w.heap.size+1,10,none⟩ (.string x.a.s)).setCell ⟨w.heap.size+1,11,none⟩ (.int .i64 x.a.r)).setCell ⟨w.heap.size+1,12,none⟩ (.int .i64 x.a.c)).setCell ⟨w.heap.size+1,13,none⟩ (.bool x.a.fr)).setCell ⟨w.heap.size+1,14,none⟩ (.bool x.a.fc)) (w.heap.size+1) (nd20 ⟨3,Wt.v0,0,⟨#[]⟩,0,x.a,Wt.r0⟩):=(((((pO1.set 10 (.string x.a.s)).set 11 (.int .i64 x.a.r)).set 12 (.int .i64 x.a.c)).set 13 (.bool x.a.fr)).set 14 (.bool x.a.fc))
  have hB3:Below w.heap.size w (((((w2.setCell ⟨w.heap.size+1,10,none⟩ (.string x.a.s)).setCell ⟨w.heap.size+1,11,none⟩ (.int .i64 x.a.r)).setCell ⟨w.heap.size+1,12,none⟩ (.int .i64 x.a.c)).setCell ⟨w.heap.size+1,13,none⟩ (.bool x.a.fr)).setCell ⟨w.heap.size+1,14,none⟩ (.bool x.a.fc)):=by with_reducible repeat (first | exact hB1 | refine ball ?_ _ | refine Below.setCell ?_ (by first | (simp;done) | (simp;omega) | omega) _ | refine Below.drew ?_ | refine below_drewN ?_ _)
  clear pA1 pO1 hB1 o10 o11 o12 o13 o14 o15 o16 o17 o18 o19 g10 g11 g12 g13 g14 g15 g16 g17 g18 g19;generalize (((((w2.setCell ⟨w.heap.size+1,10,none⟩ (.string x.a.s)).setCell ⟨w.heap.size+1,11,none⟩ (.int .i64 x.a.r)).setCell ⟨w.heap.size+1,12,none⟩ (.int .i64 x.a.c)).setCell ⟨w.heap.size+1,13,none⟩ (.bool x.a.fr)).setCell ⟨w.heap.size+1,14,none⟩ (.bool x.a.fc))=w9 at *;have o10:=pO3.2.1 10 _ rfl;have o11:=pO3.2.1 11 _ rfl;have o12:=pO3.2.1 12 _ rfl;have o13:=pO3.2.1 13 _ rfl;have o14:=pO3.2.1 14 _ rfl;have o15:=pO3.2.1 15 _ rfl;have o16:=pO3.2.1 16 _ rfl;have o17:=pO3.2.1 17 _ rfl;have o18:=pO3.2.1 18 _ rfl;have o19:=pO3.2.1 19 _ rfl;obtain ⟨_,_,_,_,_,_,_,_,_,_,g10,g11,g12,g13,g14,g15,g16,g17,g18,g19⟩:=hHeld;go_simp
  refine hK.out _ _ ((NdS3_set (NdS3_set (NdS3_set (NdS3_set (NdS3_set (NdS3_mk pA3 pO3) (by omega) _ _) (by omega) _ _) (by omega) _ _) (by omega) _ _) (by omega) _ _)) (fun hHeld=>?_);clear hK K;try simp only [Act.put,lA,lZ,lS]
  refine wpAnyH_ready (rs:=[22]) (by kernel_rfl) (by simp) ?_;refine AllReadyH.cons (o:=z4n22) rfl (fun K hK=>?_) AllReadyH.nil;go_simp
  refine hK.out _ _ (by assumption) (fun hHeld=>?_);clear hK K;try simp only [Act.put,lA,lZ,lS]
  refine wpAnyH_done (by kernel_rfl) ?_ _;have pA2:AtL (((((w9.setCell ⟨w.heap.size+1,15,none⟩ (.string x.b.s)).setCell ⟨w.heap.size+1,16,none⟩ (.int .i64 x.b.r)).setCell ⟨w.heap.size+1,17,none⟩ (.int .i64 x.b.c)).setCell ⟨w.heap.size+1,18,none⟩ (.bool x.b.fr)).setCell ⟨w.heap.size+1,19,none⟩ (.bool x.b.fc)) w.heap.size (nd20 x):=(((((pA3.far hne 15 (.string x.b.s)).far hne 16 (.int .i64 x.b.r)).far hne 17 (.int .i64 x.b.c)).far hne 18 (.bool x.b.fr)).far hne 19 (.bool x.b.fc))
  have pO2:AtL (((((w9.setCell ⟨w.heap.size+1,15,none⟩ (.string x.b.s)).setCell ⟨w.heap.size+1,16,none⟩ (.int .i64 x.b.r)).setCell ⟨w.heap.size+1,17,none⟩ (.int .i64 x.b.c)).setCell ⟨w.heap.size+1,18,none⟩ (.bool x.b.fr)).setCell ⟨w.heap.size+1,19,none⟩ (.bool x.b.fc)) (w.heap.size+1) (nd20 ⟨3,Wt.v0,0,⟨#[]⟩,0,x.a,x.b⟩):=(((((pO3.set 15 (.string x.b.s)).set 16 (.int .i64 x.b.r)).set 17 (.int .i64 x.b.c)).set 18 (.bool x.b.fr)).set 19 (.bool x.b.fc))
  have hB2:Below w.heap.size w (((((w9.setCell ⟨w.heap.size+1,15,none⟩ (.string x.b.s)).setCell ⟨w.heap.size+1,16,none⟩ (.int .i64 x.b.r)).setCell ⟨w.heap.size+1,17,none⟩ (.int .i64 x.b.c)).setCell ⟨w.heap.size+1,18,none⟩ (.bool x.b.fr)).setCell ⟨w.heap.size+1,19,none⟩ (.bool x.b.fc)):=by with_reducible repeat (first | exact hB3 | refine ball ?_ _ | refine Below.setCell ?_ (by first | (simp;done) | (simp;omega) | omega) _ | refine Below.drew ?_ | refine below_drewN ?_ _)
  clear pA3 pO3 hB3 o10 o11 o12 o13 o14 o15 o16 o17 o18 o19 g10 g11 g12 g13 g14 g15 g16 g17 g18 g19;generalize (((((w9.setCell ⟨w.heap.size+1,15,none⟩ (.string x.b.s)).setCell ⟨w.heap.size+1,16,none⟩ (.int .i64 x.b.r)).setCell ⟨w.heap.size+1,17,none⟩ (.int .i64 x.b.c)).setCell ⟨w.heap.size+1,18,none⟩ (.bool x.b.fr)).setCell ⟨w.heap.size+1,19,none⟩ (.bool x.b.fc))=W2 at *;have rA:=pA2.range;have rO:=pO2.range;clear pA2 pO2;go_wp2_with (first | ((with_reducible refine wpList_load_want ?_ 45 (.tmp 1) ?_ w.heap.size 0 ?_ (nd20 x) _ ?_ Tryz.underlying45 ?_ ?_ ?_);rfl;rfl;rfl;exact rA;rfl;kernel_rfl) | ((with_reducible refine wpList_load_want ?_ 45 (.tmp 3) ?_ (w.heap.size+1) 0 ?_ (nd20 ⟨3,Wt.v0,0,⟨#[]⟩,0,x.a,x.b⟩) _ ?_ Tryz.underlying45 ?_ ?_ ?_);rfl;rfl;rfl;exact rO;rfl;kernel_rfl))
  go_wp2;go_ret;exact ⟨by simp,hB2⟩
 cases he:x.b.s.toList.isEmpty
 ·go_enter Tryz.func53,Tryz.ntmps53;go_upto_region 1 with fail
  go_upto_region 2 with ((with_reducible refine wpList_store_mid ?_ 45 (.tmp 3) (.tmp 9) ?_ (w.heap.size+1) 0 (nd20 (bare 3)).toArray ?_ ?_ ?_ ?_ ?_ ?_);rfl;rfl;rfl;rfl;exact hth;kernel_rfl;exact one20 _)
  generalize (two w x).setCells (w.heap.size+1) 0 (nd20 (bare 3))=W0 at *;clear hth;go_upto_region 8 with fail
  refine wp_region_held_drew (S:=NdS3 w.heap.size (w.heap.size+1) x) (by kernel_rfl) (NdS3_mk (AtL.drew pA) (AtL.drew pO)) (fun hHeld=>?_);refine tkQ 0 z4n0 ?_;try simp only [Act.put,lA,lZ,lS]
  refine tkQ 1 z4n1 ?_;try simp only [Act.put,lA,lZ,lS]
  refine tkQ 2 z4n2 ?_;try simp only [Act.put,lA,lZ,lS]
  refine tkQ 3 z4n3 ?_;try simp only [Act.put,lA,lZ,lS]
  refine tkQ 4 z4n4 ?_;try simp only [Act.put,lA,lZ,lS]
  refine tkQ 5 z4n5 ?_;try simp only [Act.put,lA,lZ,lS]
  refine tkQ 18 z4n6 ?_;try simp only [Act.put,lA,lZ,lS]
  refine wpAnyH_ready (rs:=[6]) (by kernel_rfl) (by simp) ?_;refine AllReadyH.cons (o:=z4n7) rfl (fun K hK=>?_) AllReadyH.nil;go_simp
  refine (CA _).mono ?_;rintro e w1 ⟨rfl,hb⟩;have pA1:=AtL.below hb (AtL.drew pA);have pO1:=AtL.below hb (AtL.drew pO);have hB1:=below_end hBa.drew hb;clear hb;go_wp2_with fail
  refine hK.out _ _ (NdS3_mk pA1 pO1) (fun hHeld=>?_);clear hK K;try simp only [Act.put,lA,lZ,lS]
  refine tkQ 7 z4n8 ?_;try simp only [Act.put,lA,lZ,lS]
  refine tkQ 8 z4n9 ?_;try simp only [Act.put,lA,lZ,lS]
  refine tkQ 9 z4n10 ?_;try simp only [Act.put,lA,lZ,lS]
  refine wpAnyH_ready (rs:=[10]) (by kernel_rfl) (by simp) ?_;refine AllReadyH.cons (o:=z4n11) rfl (fun K hK=>?_) AllReadyH.nil;go_simp
  refine (CB _).mono ?_;rintro e w2 ⟨rfl,hb⟩;replace pA1:=AtL.below hb pA1
  replace pO1:=AtL.below hb pO1
  replace hB1:=below_end hB1 hb
  clear hb;go_wp2_with fail
  refine hK.out _ _ (NdS3_mk pA1 pO1) (fun hHeld=>?_);clear hK K;try simp only [Act.put,lA,lZ,lS]
  refine tkQ 11 z4n12 ?_;try simp only [Act.put,lA,lZ,lS]
  refine tkQ 12 z4n13 ?_;try simp only [Act.put,lA,lZ,lS]
  refine tkQ 13 z4n14 ?_;try simp only [Act.put,lA,lZ,lS]
  refine tkQ 14 z4n15 ?_;try simp only [Act.put,lA,lZ,lS]
  refine tkQ 15 z4n16 ?_;try simp only [Act.put,lA,lZ,lS]
  refine tkQ 16 z4n17 ?_;try simp only [Act.put,lA,lZ,lS]
  refine tkQ 17 z4n18 ?_;try simp only [Act.put,lA,lZ,lS]
  refine wpAnyH_ready (rs:=[19]) (by kernel_rfl) (by simp) ?_;refine AllReadyH.cons (o:=z4n19) rfl (fun K hK=>?_) AllReadyH.nil;have o10:=pO1.2.1 10 _ rfl;have o11:=pO1.2.1 11 _ rfl;have o12:=pO1.2.1 12 _ rfl;have o13:=pO1.2.1 13 _ rfl;have o14:=pO1.2.1 14 _ rfl;have o15:=pO1.2.1 15 _ rfl;have o16:=pO1.2.1 16 _ rfl;have o17:=pO1.2.1 17 _ rfl;have o18:=pO1.2.1 18 _ rfl;have o19:=pO1.2.1 19 _ rfl;obtain ⟨_,_,_,_,_,_,_,_,_,_,g10,g11,g12,g13,g14,g15,g16,g17,g18,g19⟩:=hHeld;go_simp
  refine hK.out _ _ ((NdS3_set (NdS3_set (NdS3_set (NdS3_set (NdS3_set (NdS3_mk pA1 pO1) (by omega) _ _) (by omega) _ _) (by omega) _ _) (by omega) _ _) (by omega) _ _)) (fun hHeld=>?_);clear hK K;try simp only [Act.put,lA,lZ,lS]
  refine tkQ 20 z4n20 ?_;try simp only [Act.put,lA,lZ,lS]
  refine wpAnyH_ready (rs:=[21]) (by kernel_rfl) (by simp) ?_;refine AllReadyH.cons (o:=z4n21) rfl (fun K hK=>?_) AllReadyH.nil;have pA3:AtL (((((w2.setCell ⟨w.heap.size+1,10,none⟩ (.string x.a.s)).setCell ⟨w.heap.size+1,11,none⟩ (.int .i64 x.a.r)).setCell ⟨w.heap.size+1,12,none⟩ (.int .i64 x.a.c)).setCell ⟨w.heap.size+1,13,none⟩ (.bool x.a.fr)).setCell ⟨w.heap.size+1,14,none⟩ (.bool x.a.fc)) w.heap.size (nd20 x):=(((((pA1.far hne 10 (.string x.a.s)).far hne 11 (.int .i64 x.a.r)).far hne 12 (.int .i64 x.a.c)).far hne 13 (.bool x.a.fr)).far hne 14 (.bool x.a.fc))
  have pO3:AtL (((((w2.setCell ⟨w.heap.size+1,10,none⟩ (.string x.a.s)).setCell ⟨w.heap.size+1,11,none⟩ (.int .i64 x.a.r)).setCell ⟨w.heap.size+1,12,none⟩ (.int .i64 x.a.c)).setCell ⟨w.heap.size+1,13,none⟩ (.bool x.a.fr)).setCell ⟨w.heap.size+1,14,none⟩ (.bool x.a.fc)) (w.heap.size+1) (nd20 ⟨3,Wt.v0,0,⟨#[]⟩,0,x.a,Wt.r0⟩):=(((((pO1.set 10 (.string x.a.s)).set 11 (.int .i64 x.a.r)).set 12 (.int .i64 x.a.c)).set 13 (.bool x.a.fr)).set 14 (.bool x.a.fc))
  have hB3:Below w.heap.size w (((((w2.setCell ⟨w.heap.size+1,10,none⟩ (.string x.a.s)).setCell ⟨w.heap.size+1,11,none⟩ (.int .i64 x.a.r)).setCell ⟨w.heap.size+1,12,none⟩ (.int .i64 x.a.c)).setCell ⟨w.heap.size+1,13,none⟩ (.bool x.a.fr)).setCell ⟨w.heap.size+1,14,none⟩ (.bool x.a.fc)):=by with_reducible repeat (first | exact hB1 | refine ball ?_ _ | refine Below.setCell ?_ (by first | (simp;done) | (simp;omega) | omega) _ | refine Below.drew ?_ | refine below_drewN ?_ _)
  clear pA1 pO1 hB1 o10 o11 o12 o13 o14 o15 o16 o17 o18 o19 g10 g11 g12 g13 g14 g15 g16 g17 g18 g19;generalize (((((w2.setCell ⟨w.heap.size+1,10,none⟩ (.string x.a.s)).setCell ⟨w.heap.size+1,11,none⟩ (.int .i64 x.a.r)).setCell ⟨w.heap.size+1,12,none⟩ (.int .i64 x.a.c)).setCell ⟨w.heap.size+1,13,none⟩ (.bool x.a.fr)).setCell ⟨w.heap.size+1,14,none⟩ (.bool x.a.fc))=w9 at *;have o10:=pO3.2.1 10 _ rfl;have o11:=pO3.2.1 11 _ rfl;have o12:=pO3.2.1 12 _ rfl;have o13:=pO3.2.1 13 _ rfl;have o14:=pO3.2.1 14 _ rfl;have o15:=pO3.2.1 15 _ rfl;have o16:=pO3.2.1 16 _ rfl;have o17:=pO3.2.1 17 _ rfl;have o18:=pO3.2.1 18 _ rfl;have o19:=pO3.2.1 19 _ rfl;obtain ⟨_,_,_,_,_,_,_,_,_,_,g10,g11,g12,g13,g14,g15,g16,g17,g18,g19⟩:=hHeld;go_simp
  refine hK.out _ _ ((NdS3_set (NdS3_set (NdS3_set (NdS3_set (NdS3_set (NdS3_mk pA3 pO3) (by omega) _ _) (by omega) _ _) (by omega) _ _) (by omega) _ _) (by omega) _ _)) (fun hHeld=>?_);clear hK K;try simp only [Act.put,lA,lZ,lS]
  refine wpAnyH_ready (rs:=[22]) (by kernel_rfl) (by simp) ?_;refine AllReadyH.cons (o:=z4n22) rfl (fun K hK=>?_) AllReadyH.nil;go_simp
  refine hK.out _ _ (by assumption) (fun hHeld=>?_);clear hK K;try simp only [Act.put,lA,lZ,lS]
  refine wpAnyH_done (by kernel_rfl) ?_ _;have pA2:AtL (((((w9.setCell ⟨w.heap.size+1,15,none⟩ (.string x.b.s)).setCell ⟨w.heap.size+1,16,none⟩ (.int .i64 x.b.r)).setCell ⟨w.heap.size+1,17,none⟩ (.int .i64 x.b.c)).setCell ⟨w.heap.size+1,18,none⟩ (.bool x.b.fr)).setCell ⟨w.heap.size+1,19,none⟩ (.bool x.b.fc)) w.heap.size (nd20 x):=(((((pA3.far hne 15 (.string x.b.s)).far hne 16 (.int .i64 x.b.r)).far hne 17 (.int .i64 x.b.c)).far hne 18 (.bool x.b.fr)).far hne 19 (.bool x.b.fc))
  have pO2:AtL (((((w9.setCell ⟨w.heap.size+1,15,none⟩ (.string x.b.s)).setCell ⟨w.heap.size+1,16,none⟩ (.int .i64 x.b.r)).setCell ⟨w.heap.size+1,17,none⟩ (.int .i64 x.b.c)).setCell ⟨w.heap.size+1,18,none⟩ (.bool x.b.fr)).setCell ⟨w.heap.size+1,19,none⟩ (.bool x.b.fc)) (w.heap.size+1) (nd20 ⟨3,Wt.v0,0,⟨#[]⟩,0,x.a,x.b⟩):=(((((pO3.set 15 (.string x.b.s)).set 16 (.int .i64 x.b.r)).set 17 (.int .i64 x.b.c)).set 18 (.bool x.b.fr)).set 19 (.bool x.b.fc))
  have hB2:Below w.heap.size w (((((w9.setCell ⟨w.heap.size+1,15,none⟩ (.string x.b.s)).setCell ⟨w.heap.size+1,16,none⟩ (.int .i64 x.b.r)).setCell ⟨w.heap.size+1,17,none⟩ (.int .i64 x.b.c)).setCell ⟨w.heap.size+1,18,none⟩ (.bool x.b.fr)).setCell ⟨w.heap.size+1,19,none⟩ (.bool x.b.fc)):=by with_reducible repeat (first | exact hB3 | refine ball ?_ _ | refine Below.setCell ?_ (by first | (simp;done) | (simp;omega) | omega) _ | refine Below.drew ?_ | refine below_drewN ?_ _)
  clear pA3 pO3 hB3 o10 o11 o12 o13 o14 o15 o16 o17 o18 o19 g10 g11 g12 g13 g14 g15 g16 g17 g18 g19;generalize (((((w9.setCell ⟨w.heap.size+1,15,none⟩ (.string x.b.s)).setCell ⟨w.heap.size+1,16,none⟩ (.int .i64 x.b.r)).setCell ⟨w.heap.size+1,17,none⟩ (.int .i64 x.b.c)).setCell ⟨w.heap.size+1,18,none⟩ (.bool x.b.fr)).setCell ⟨w.heap.size+1,19,none⟩ (.bool x.b.fc))=W2 at *;have rA:=pA2.range;have rO:=pO2.range;clear pA2 pO2;go_wp2_with (first | ((with_reducible refine wpList_load_want ?_ 45 (.tmp 1) ?_ w.heap.size 0 ?_ (nd20 x) _ ?_ Tryz.underlying45 ?_ ?_ ?_);rfl;rfl;rfl;exact rA;rfl;kernel_rfl) | ((with_reducible refine wpList_load_want ?_ 45 (.tmp 3) ?_ (w.heap.size+1) 0 ?_ (nd20 ⟨3,Wt.v0,0,⟨#[]⟩,0,x.a,x.b⟩) _ ?_ Tryz.underlying45 ?_ ?_ ?_);rfl;rfl;rfl;exact rO;rfl;kernel_rfl))
  go_wp2;go_ret;exact ⟨by simp,hB2⟩
 ·go_enter Tryz.func53,Tryz.ntmps53;go_upto_region 1 with fail
  go_upto_region 2 with ((with_reducible refine wpList_store_mid ?_ 45 (.tmp 3) (.tmp 9) ?_ (w.heap.size+1) 0 (nd20 (bare 3)).toArray ?_ ?_ ?_ ?_ ?_ ?_);rfl;rfl;rfl;rfl;exact hth;kernel_rfl;exact one20 _)
  generalize (two w x).setCells (w.heap.size+1) 0 (nd20 (bare 3))=W0 at *;clear hth;go_upto_region 8 with fail
  refine wp_region_held_drew (S:=NdS3 w.heap.size (w.heap.size+1) x) (by kernel_rfl) (NdS3_mk (AtL.drew pA) (AtL.drew pO)) (fun hHeld=>?_);refine tkQ 0 z4n0 ?_;try simp only [Act.put,lA,lZ,lS]
  refine tkQ 1 z4n1 ?_;try simp only [Act.put,lA,lZ,lS]
  refine tkQ 2 z4n2 ?_;try simp only [Act.put,lA,lZ,lS]
  refine tkQ 3 z4n3 ?_;try simp only [Act.put,lA,lZ,lS]
  refine tkQ 4 z4n4 ?_;try simp only [Act.put,lA,lZ,lS]
  refine tkQ 5 z4n5 ?_;try simp only [Act.put,lA,lZ,lS]
  refine tkQ 18 z4n6 ?_;try simp only [Act.put,lA,lZ,lS]
  refine wpAnyH_ready (rs:=[6]) (by kernel_rfl) (by simp) ?_;refine AllReadyH.cons (o:=z4n7) rfl (fun K hK=>?_) AllReadyH.nil;go_simp
  refine (CA _).mono ?_;rintro e w1 ⟨rfl,hb⟩;have pA1:=AtL.below hb (AtL.drew pA);have pO1:=AtL.below hb (AtL.drew pO);have hB1:=below_end hBa.drew hb;clear hb;go_wp2_with fail
  refine hK.out _ _ (NdS3_mk pA1 pO1) (fun hHeld=>?_);clear hK K;try simp only [Act.put,lA,lZ,lS]
  refine tkQ 7 z4n8 ?_;try simp only [Act.put,lA,lZ,lS]
  refine tkQ 8 z4n9 ?_;try simp only [Act.put,lA,lZ,lS]
  refine tkQ 9 z4n10 ?_;try simp only [Act.put,lA,lZ,lS]
  refine wpAnyH_ready (rs:=[10]) (by kernel_rfl) (by simp) ?_;refine AllReadyH.cons (o:=z4n11) rfl (fun K hK=>?_) AllReadyH.nil;go_simp
  refine (CB _).mono ?_;rintro e w2 ⟨rfl,hb⟩;replace pA1:=AtL.below hb pA1
  replace pO1:=AtL.below hb pO1
  replace hB1:=below_end hB1 hb
  clear hb;go_wp2_with fail
  refine hK.out _ _ (NdS3_mk pA1 pO1) (fun hHeld=>?_);clear hK K;try simp only [Act.put,lA,lZ,lS]
  refine tkQ 11 z4n12 ?_;try simp only [Act.put,lA,lZ,lS]
  refine tkQ 12 z4n13 ?_;try simp only [Act.put,lA,lZ,lS]
  refine tkQ 13 z4n14 ?_;try simp only [Act.put,lA,lZ,lS]
  refine tkQ 14 z4n15 ?_;try simp only [Act.put,lA,lZ,lS]
  refine tkQ 15 z4n16 ?_;try simp only [Act.put,lA,lZ,lS]
  refine tkQ 16 z4n17 ?_;try simp only [Act.put,lA,lZ,lS]
  refine tkQ 17 z4n18 ?_;try simp only [Act.put,lA,lZ,lS]
  refine wpAnyH_ready (rs:=[19]) (by kernel_rfl) (by simp) ?_;refine AllReadyH.cons (o:=z4n19) rfl (fun K hK=>?_) AllReadyH.nil;have o10:=pO1.2.1 10 _ rfl;have o11:=pO1.2.1 11 _ rfl;have o12:=pO1.2.1 12 _ rfl;have o13:=pO1.2.1 13 _ rfl;have o14:=pO1.2.1 14 _ rfl;have o15:=pO1.2.1 15 _ rfl;have o16:=pO1.2.1 16 _ rfl;have o17:=pO1.2.1 17 _ rfl;have o18:=pO1.2.1 18 _ rfl;have o19:=pO1.2.1 19 _ rfl;obtain ⟨_,_,_,_,_,_,_,_,_,_,g10,g11,g12,g13,g14,g15,g16,g17,g18,g19⟩:=hHeld;go_simp
  refine hK.out _ _ ((NdS3_set (NdS3_set (NdS3_set (NdS3_set (NdS3_set (NdS3_mk pA1 pO1) (by omega) _ _) (by omega) _ _) (by omega) _ _) (by omega) _ _) (by omega) _ _)) (fun hHeld=>?_);clear hK K;try simp only [Act.put,lA,lZ,lS]
  refine tkQ 20 z4n20 ?_;try simp only [Act.put,lA,lZ,lS]
  refine wpAnyH_ready (rs:=[21]) (by kernel_rfl) (by simp) ?_;refine AllReadyH.cons (o:=z4n21) rfl (fun K hK=>?_) AllReadyH.nil;have pA3:AtL (((((w2.setCell ⟨w.heap.size+1,10,none⟩ (.string x.a.s)).setCell ⟨w.heap.size+1,11,none⟩ (.int .i64 x.a.r)).setCell ⟨w.heap.size+1,12,none⟩ (.int .i64 x.a.c)).setCell ⟨w.heap.size+1,13,none⟩ (.bool x.a.fr)).setCell ⟨w.heap.size+1,14,none⟩ (.bool x.a.fc)) w.heap.size (nd20 x):=(((((pA1.far hne 10 (.string x.a.s)).far hne 11 (.int .i64 x.a.r)).far hne 12 (.int .i64 x.a.c)).far hne 13 (.bool x.a.fr)).far hne 14 (.bool x.a.fc))
  have pO3:AtL (((((w2.setCell ⟨w.heap.size+1,10,none⟩ (.string x.a.s)).setCell ⟨w.heap.size+1,11,none⟩ (.int .i64 x.a.r)).setCell ⟨w.heap.size+1,12,none⟩ (.int .i64 x.a.c)).setCell ⟨w.heap.size+1,13,none⟩ (.bool x.a.fr)).setCell ⟨w.heap.size+1,14,none⟩ (.bool x.a.fc)) (w.heap.size+1) (nd20 ⟨3,Wt.v0,0,⟨#[]⟩,0,x.a,Wt.r0⟩):=(((((pO1.set 10 (.string x.a.s)).set 11 (.int .i64 x.a.r)).set 12 (.int .i64 x.a.c)).set 13 (.bool x.a.fr)).set 14 (.bool x.a.fc))
  have hB3:Below w.heap.size w (((((w2.setCell ⟨w.heap.size+1,10,none⟩ (.string x.a.s)).setCell ⟨w.heap.size+1,11,none⟩ (.int .i64 x.a.r)).setCell ⟨w.heap.size+1,12,none⟩ (.int .i64 x.a.c)).setCell ⟨w.heap.size+1,13,none⟩ (.bool x.a.fr)).setCell ⟨w.heap.size+1,14,none⟩ (.bool x.a.fc)):=by with_reducible repeat (first | exact hB1 | refine ball ?_ _ | refine Below.setCell ?_ (by first | (simp;done) | (simp;omega) | omega) _ | refine Below.drew ?_ | refine below_drewN ?_ _)
  clear pA1 pO1 hB1 o10 o11 o12 o13 o14 o15 o16 o17 o18 o19 g10 g11 g12 g13 g14 g15 g16 g17 g18 g19;generalize (((((w2.setCell ⟨w.heap.size+1,10,none⟩ (.string x.a.s)).setCell ⟨w.heap.size+1,11,none⟩ (.int .i64 x.a.r)).setCell ⟨w.heap.size+1,12,none⟩ (.int .i64 x.a.c)).setCell ⟨w.heap.size+1,13,none⟩ (.bool x.a.fr)).setCell ⟨w.heap.size+1,14,none⟩ (.bool x.a.fc))=w9 at *;have o10:=pO3.2.1 10 _ rfl;have o11:=pO3.2.1 11 _ rfl;have o12:=pO3.2.1 12 _ rfl;have o13:=pO3.2.1 13 _ rfl;have o14:=pO3.2.1 14 _ rfl;have o15:=pO3.2.1 15 _ rfl;have o16:=pO3.2.1 16 _ rfl;have o17:=pO3.2.1 17 _ rfl;have o18:=pO3.2.1 18 _ rfl;have o19:=pO3.2.1 19 _ rfl;obtain ⟨_,_,_,_,_,_,_,_,_,_,g10,g11,g12,g13,g14,g15,g16,g17,g18,g19⟩:=hHeld;go_simp
  refine hK.out _ _ ((NdS3_set (NdS3_set (NdS3_set (NdS3_set (NdS3_set (NdS3_mk pA3 pO3) (by omega) _ _) (by omega) _ _) (by omega) _ _) (by omega) _ _) (by omega) _ _)) (fun hHeld=>?_);clear hK K;try simp only [Act.put,lA,lZ,lS]
  refine wpAnyH_ready (rs:=[22]) (by kernel_rfl) (by simp) ?_;refine AllReadyH.cons (o:=z4n22) rfl (fun K hK=>?_) AllReadyH.nil;go_simp
  refine hK.out _ _ (by assumption) (fun hHeld=>?_);clear hK K;try simp only [Act.put,lA,lZ,lS]
  refine wpAnyH_done (by kernel_rfl) ?_ _;have pA2:AtL (((((w9.setCell ⟨w.heap.size+1,15,none⟩ (.string x.b.s)).setCell ⟨w.heap.size+1,16,none⟩ (.int .i64 x.b.r)).setCell ⟨w.heap.size+1,17,none⟩ (.int .i64 x.b.c)).setCell ⟨w.heap.size+1,18,none⟩ (.bool x.b.fr)).setCell ⟨w.heap.size+1,19,none⟩ (.bool x.b.fc)) w.heap.size (nd20 x):=(((((pA3.far hne 15 (.string x.b.s)).far hne 16 (.int .i64 x.b.r)).far hne 17 (.int .i64 x.b.c)).far hne 18 (.bool x.b.fr)).far hne 19 (.bool x.b.fc))
  have pO2:AtL (((((w9.setCell ⟨w.heap.size+1,15,none⟩ (.string x.b.s)).setCell ⟨w.heap.size+1,16,none⟩ (.int .i64 x.b.r)).setCell ⟨w.heap.size+1,17,none⟩ (.int .i64 x.b.c)).setCell ⟨w.heap.size+1,18,none⟩ (.bool x.b.fr)).setCell ⟨w.heap.size+1,19,none⟩ (.bool x.b.fc)) (w.heap.size+1) (nd20 ⟨3,Wt.v0,0,⟨#[]⟩,0,x.a,x.b⟩):=(((((pO3.set 15 (.string x.b.s)).set 16 (.int .i64 x.b.r)).set 17 (.int .i64 x.b.c)).set 18 (.bool x.b.fr)).set 19 (.bool x.b.fc))
  have hB2:Below w.heap.size w (((((w9.setCell ⟨w.heap.size+1,15,none⟩ (.string x.b.s)).setCell ⟨w.heap.size+1,16,none⟩ (.int .i64 x.b.r)).setCell ⟨w.heap.size+1,17,none⟩ (.int .i64 x.b.c)).setCell ⟨w.heap.size+1,18,none⟩ (.bool x.b.fr)).setCell ⟨w.heap.size+1,19,none⟩ (.bool x.b.fc)):=by with_reducible repeat (first | exact hB3 | refine ball ?_ _ | refine Below.setCell ?_ (by first | (simp;done) | (simp;omega) | omega) _ | refine Below.drew ?_ | refine below_drewN ?_ _)
  clear pA3 pO3 hB3 o10 o11 o12 o13 o14 o15 o16 o17 o18 o19 g10 g11 g12 g13 g14 g15 g16 g17 g18 g19;generalize (((((w9.setCell ⟨w.heap.size+1,15,none⟩ (.string x.b.s)).setCell ⟨w.heap.size+1,16,none⟩ (.int .i64 x.b.r)).setCell ⟨w.heap.size+1,17,none⟩ (.int .i64 x.b.c)).setCell ⟨w.heap.size+1,18,none⟩ (.bool x.b.fr)).setCell ⟨w.heap.size+1,19,none⟩ (.bool x.b.fc))=W2 at *;have rA:=pA2.range;have rO:=pO2.range;clear pA2 pO2;go_wp2_with (first | ((with_reducible refine wpList_load_want ?_ 45 (.tmp 1) ?_ w.heap.size 0 ?_ (nd20 x) _ ?_ Tryz.underlying45 ?_ ?_ ?_);rfl;rfl;rfl;exact rA;rfl;kernel_rfl) | ((with_reducible refine wpList_load_want ?_ 45 (.tmp 3) ?_ (w.heap.size+1) 0 ?_ (nd20 ⟨3,Wt.v0,0,⟨#[]⟩,0,x.a,x.b⟩) _ ?_ Tryz.underlying45 ?_ ?_ ?_);rfl;rfl;rfl;exact rO;rfl;kernel_rfl))
  go_wp2;go_ret;exact ⟨by simp,hB2⟩
end Go.Proofs.YtlggnpohhahdlaaGreatDoor
