/- TRightD. -/
import Derived.Test.YtlggnpohhahdlaaGreatDoorQ06
set_option maxHeartbeats 8000000
set_option maxRecDepth 100000
namespace Go.Proofs.YtlggnpohhahdlaaGreatDoor
abbrev z6n0:Oper:={dst:=some 59,op:=.fieldAddr 45 (.tmp 1) 2,type:=0,pos:= "tree.go:78",after:=#[],guard:=none}
abbrev z6n1:Oper:={dst:=some 60,op:=.load 3 (.tmp 59),type:=3,pos:= "tree.go:78",after:=#[⟨0,.data⟩],guard:=none}
abbrev z6n2:Oper:={dst:=some 61,op:=.move (.tmp 6),type:=4,pos:= "tree.go:78",after:=#[],guard:=none}
abbrev z6n3:Oper:={dst:=some 62,op:=.move (.tmp 61),type:=4,pos:= "tree.go:78",after:=#[⟨2,.data⟩],guard:=none}
abbrev z6n4:Oper:={dst:=some 63,op:=.load 118 (.tmp 5),type:=118,pos:= "tree.go:78",after:=#[⟨3,.guard⟩],guard:=some (3,Bool.true)}
abbrev z6n5:Oper:={dst:=some 65,op:=.fieldAddr 45 (.tmp 1) 0,type:=0,pos:= "tree.go:78",after:=#[⟨3,.guard⟩,⟨11,.gcOnly .lateStores⟩],guard:=some (3,Bool.true)}
abbrev z6n6:Oper:={dst:=some 66,op:=.load 3 (.tmp 65),type:=3,pos:= "tree.go:78",after:=#[⟨6,.data⟩,⟨3,.guard⟩,⟨11,.gcOnly .lateStores⟩],guard:=some (3,Bool.true)}
abbrev z6n7:Oper:={dst:=some 69,op:=.fieldAddr 45 (.tmp 3) 2,type:=0,pos:= "tree.go:78",after:=#[⟨0,.phase⟩,⟨1,.phase⟩,⟨2,.textOnly .lateStores⟩,⟨3,.textOnly .lateStores⟩,⟨4,.textOnly .lateStores⟩,⟨5,.textOnly .lateStoresUnsure⟩,⟨6,.textOnly .lateStores⟩,⟨7,.textOnly .lateStores⟩,⟨8,.textOnly .lateStores⟩,⟨9,.textOnly .lateStores⟩],guard:=none}
abbrev z6n8:Oper:={dst:=some 64,op:=.call {callee:=Callee.value (Operand.func 83),args:=#[.tmp 63],argTypes:=#[118]},type:=3,pos:= "tree.go:78",after:=#[⟨4,.data⟩,⟨3,.chain⟩,⟨3,.guard⟩],guard:=some (3,Bool.true)}
abbrev z6n9:Oper:={dst:=some 67,op:=.binOp BinOp.eql 3 (.tmp 64) (.tmp 66) 3,type:=4,pos:= "tree.go:78",after:=#[⟨5,.data⟩,⟨7,.data⟩,⟨3,.guard⟩,⟨11,.gcOnly .lateStores⟩],guard:=some (3,Bool.true)}
abbrev z6n10:Oper:={dst:=some 68,op:=.pick (.tmp 62) (.tmp 67) (Operand.const (Value.bool Bool.false)),type:=4,pos:= "tree.go:78",after:=#[⟨3,.data⟩,⟨8,.data⟩,⟨11,.gcOnly .lateStores⟩],guard:=none}
abbrev z6n11:Oper:={dst:=none,op:=.store 3 (.tmp 69) (.tmp 60),type:=0,pos:= "tree.go:78",after:=#[⟨10,.data⟩,⟨1,.data⟩,⟨5,.chain⟩,⟨0,.phase⟩,⟨1,.phase⟩,⟨2,.textOnly .lateStores⟩,⟨3,.textOnly .lateStores⟩,⟨4,.textOnly .lateStores⟩,⟨5,.textOnly .lateStoresUnsure⟩,⟨6,.textOnly .lateStores⟩,⟨7,.textOnly .lateStores⟩,⟨8,.textOnly .lateStores⟩,⟨9,.textOnly .lateStores⟩],guard:=none}
abbrev z6n12:Oper:={dst:=some 4,op:=.assign (.tmp 68),type:=4,pos:= "tree.go:78",after:=#[⟨9,.data⟩,⟨11,.chain⟩,⟨0,.phase⟩,⟨1,.phase⟩,⟨2,.phase⟩,⟨3,.phase⟩,⟨4,.phase⟩,⟨5,.phase⟩,⟨6,.phase⟩,⟨7,.phase⟩,⟨8,.phase⟩,⟨9,.phase⟩,⟨10,.phase⟩,⟨11,.phase⟩],guard:=none}
open Go.RowKit
set_option linter.unusedVariables false
def opK (o:Int):Int:=match Wt.opOf o with
 | none=>0
 | some (_,_,t)=>if t<5 then 5 else 4
abbrev NdS4 (ka kb kc:Nat) (x:Wt.Nd) (o:Int) (m:ByteArray) (t:Int) (W:World):Prop :=
 W.cell? ⟨ka,7,none⟩=some (.int .i64 x.op)∧W.cell? ⟨ka,0,none⟩=some (.int .i64 4)∧W.cell? ⟨kc,0,none⟩=some (.int .i64 o)∧W.cell? ⟨kc,1,none⟩=some (.string m)∧W.cell? ⟨kc,2,none⟩=some (.int .i64 t)∧W.frozen? ⟨kb,7,none⟩=false
theorem NdS4_mk {ka kb kc:Nat} {x y:Wt.Nd} {o:Int} {m:ByteArray} {t:Int} {W:World} (hk:x.k=4) (h0:AtL W ka (nd20 x)) (h1:AtL W kb (nd20 y)) (h2:AtL W kc [.int .i64 o,.string m,.int .i64 t]):NdS4 ka kb kc x o m t W :=
 ⟨h0.2.1 7 _ rfl,by rw [←hk];exact h0.2.1 0 _ rfl,h2.2.1 0 _ rfl,h2.2.1 1 _ rfl,h2.2.1 2 _ rfl,h1.2.2 7 (by show 7<20;decide)⟩
theorem NdS4_set {ka kb kc:Nat} {x:Wt.Nd} {o:Int} {m:ByteArray} {t:Int} {W:World} (h:NdS4 ka kb kc x o m t W) (hne:kb ≠ ka) (hne2:kb ≠ kc) (j:Nat) (u:Value):NdS4 ka kb kc x o m t (W.setCell ⟨kb,j,none⟩ u):=by
 obtain ⟨h0,h1,h2,h3,h4,g⟩:=h;refine ⟨?_,?_,?_,?_,?_,?_⟩;any_goals first | (rw [World.cell?_setCell_far _ _ _ _ (by simpa using hne)];assumption) | (rw [World.cell?_setCell_far _ _ _ _ (by simpa using hne2)];assumption)
 rw [World.frozen?_setCell];assumption
theorem tright_4 (x:Wt.Nd) (w:World) (hk:x.k=4) (hO:OpsAt w) :
  Calls Tryz.prog 53 #[ndV x] w fun e w'=>e=.returned (.bool (opK x.op == 4 && eqN x ⟨4,Wt.v0,x.op,⟨#[]⟩,0,Wt.r0,Wt.r0⟩))∧Below w.heap.size w w':=by
 have C:∀ w:World,OpsAt w→Calls Tryz.prog 71 #[.int .i64 x.op] w fun e w'=>e=.returned (opV (Wt.opOf x.op))∧Below w.heap.size w w':=fun w h=>topOf_any x.op w h
 have hq:∀ w:World,(binOp .eql 45 (.agg (nd20 x).toArray) (.agg (nd20 ⟨4,Wt.v0,x.op,⟨#[]⟩,0,Wt.r0,Wt.r0⟩).toArray)).run Tryz.prog w=.ok (.bool (eqN x ⟨4,Wt.v0,x.op,⟨#[]⟩,0,Wt.r0,Wt.r0⟩)) w:=fun w=>eqN_run x ⟨4,Wt.v0,x.op,⟨#[]⟩,0,Wt.r0,Wt.r0⟩ w
 generalize eqN x ⟨4,Wt.v0,x.op,⟨#[]⟩,0,Wt.r0,Wt.r0⟩=R at *;have pA0:AtL (two w x) w.heap.size (nd20 x):=(AtL.new0 w _ _).alloc _;have pO0:AtL (two w x) (w.heap.size+1) (nd20 (bare 0)):=AtL.new1 w _ _ _;have hth:World.there (two w x) (w.heap.size+1) 0 (nd20 (bare 4)).toArray.size:=pO0.there;have hne:w.heap.size+1 ≠ w.heap.size:=by omega
 have pA:=pA0.farAll hne 0 (nd20 (bare 4));have pO:AtL ((two w x).setCells (w.heap.size+1) 0 (nd20 (bare 4))) (w.heap.size+1) (nd20 (bare 4)):=pO0.setAll rfl;have hBa:Below w.heap.size w ((two w x).setCells (w.heap.size+1) 0 (nd20 (bare 4))):=bset (ball (ball (Below.refl _ w) _) _) (Nat.le_succ _) _ 0;clear pA0 pO0;have n0:(nd20 x)[0]? = some (.int .i64 4):=by rw [←hk];rfl
 have a0:World.cell? ((two w x).setCells (w.heap.size+1) 0 (nd20 (bare 4))) ⟨w.heap.size,0,none⟩=some (.int .i64 4):=pA.2.1 0 _ n0;show Calls _ _ #[.agg (nd20 x).toArray] _ _
 have OpW:=hO.below hBa;have c7:World.cell? ((two w x).setCells (w.heap.size+1) 0 (nd20 (bare 4))) ⟨w.heap.size,7,none⟩=some (.int .i64 x.op):=pA.2.1 7 _ rfl;unfold opK;cases hop:Wt.opOf x.op with
 | none =>
  rw [hop] at C;simp only [opV] at C ⊢;go_enter Tryz.func53,Tryz.ntmps53;go_upto_region 1 with fail
  go_upto_region 2 with ((with_reducible refine wpList_store_mid ?_ 45 (.tmp 3) (.tmp 9) ?_ (w.heap.size+1) 0 (nd20 (bare 4)).toArray ?_ ?_ ?_ ?_ ?_ ?_);rfl;rfl;rfl;rfl;exact hth;kernel_rfl;exact one20 _)
  generalize (two w x).setCells (w.heap.size+1) 0 (nd20 (bare 4))=W0 at *;clear hth;go_upto_region 11 with fail
  go_wp2_with fail
  refine (C _ OpW).mono ?_;rintro e w1 ⟨rfl,hb⟩;have pA1:=AtL.below hb pA;have pO1:=AtL.below hb pO;have hB1:=below_end hBa hb;have pOlt:=pO1.lt;clear hb pA pO hBa a0 C OpW;go_upto_region 12 with fail
  replace pA1:=AtL.alloc pA1 (.cells #[.int .i64 0,.string ⟨#[]⟩,.int .i64 0] 118)
  replace pO1:=AtL.alloc pO1 (.cells #[.int .i64 0,.string ⟨#[]⟩,.int .i64 0] 118)
  have pC1:AtL (w1.alloc (.cells #[.int .i64 0,.string ⟨#[]⟩,.int .i64 0] 118)) w1.heap.size [.int .i64 0,.string ⟨#[]⟩,.int .i64 0]:=AtL.new0 w1 _ _;have hnc:w.heap.size+1 ≠ w1.heap.size:=by have:=pOlt;omega
  replace hB1:=ball hB1 (.cells #[.int .i64 0,.string ⟨#[]⟩,.int .i64 0] 118)
  generalize w1.heap.size=kc at *;generalize w1.alloc (.cells #[.int .i64 0,.string ⟨#[]⟩,.int .i64 0] 118)=w3 at *;refine wp_region_held_drew (S:=NdS4 w.heap.size (w.heap.size+1) kc x 0 ⟨#[]⟩ 0) (by kernel_rfl) (NdS4_mk hk (AtL.drew pA1) (AtL.drew pO1) (AtL.drew pC1)) (fun hHeld=>?_);refine tkQ 0 z6n0 ?_;try simp only [Act.put,lA,lZ,lS]
  refine tkQ 1 z6n1 ?_;try simp only [Act.put,lA,lZ,lS]
  refine tkQ 2 z6n2 ?_;try simp only [Act.put,lA,lZ,lS]
  refine tkQ 3 z6n3 ?_;try simp only [Act.put,lA,lZ,lS]
  refine tnQ 4 z6n4 ?_;try simp only [Act.put,lA,lZ,lS]
  refine tnQ 6 z6n5 ?_;try simp only [Act.put,lA,lZ,lS]
  refine tnQ 7 z6n6 ?_;try simp only [Act.put,lA,lZ,lS]
  refine tkQ 10 z6n7 ?_;try simp only [Act.put,lA,lZ,lS]
  refine tnQ 5 z6n8 ?_;try simp only [Act.put,lA,lZ,lS]
  refine tnQ 8 z6n9 ?_;try simp only [Act.put,lA,lZ,lS]
  refine tkQ 9 z6n10 ?_;try simp only [Act.put,lA,lZ,lS]
  refine wpAnyH_ready (rs:=[11]) (by kernel_rfl) (by simp) ?_;refine AllReadyH.cons (o:=z6n11) rfl (fun K hK=>?_) AllReadyH.nil;have o7:=(AtL.drew pO1).2.1 7 _ rfl;obtain ⟨_,_,_,_,_,g7⟩:=hHeld;go_simp
  refine hK.out _ _ (NdS4_set (NdS4_mk hk (AtL.drew pA1) (AtL.drew pO1) (AtL.drew pC1)) hne hnc _ _) (fun hHeld=>?_);clear hK K;try simp only [Act.put,lA,lZ,lS]
  refine wpAnyH_ready (rs:=[12]) (by kernel_rfl) (by simp) ?_;refine AllReadyH.cons (o:=z6n12) rfl (fun K hK=>?_) AllReadyH.nil;go_simp
  refine hK.out _ _ (by assumption) (fun hHeld=>?_);clear hK K;try simp only [Act.put,lA,lZ,lS]
  refine wpAnyH_done (by kernel_rfl) ?_ _;clear o7 g7 pC1;have pA2:AtL (w3.setCell ⟨w.heap.size+1,7,none⟩ (.int .i64 x.op)).drew w.heap.size (nd20 x):=AtL.drew (pA1.far hne 7 (.int .i64 x.op));have pO2:AtL (w3.setCell ⟨w.heap.size+1,7,none⟩ (.int .i64 x.op)).drew (w.heap.size+1) (nd20 ⟨4,Wt.v0,x.op,⟨#[]⟩,0,Wt.r0,Wt.r0⟩):=AtL.drew (pO1.set 7 (.int .i64 x.op));have hB2:Below w.heap.size w (w3.setCell ⟨w.heap.size+1,7,none⟩ (.int .i64 x.op)).drew:=by with_reducible repeat (first | exact hB1 | refine ball ?_ _ | refine Below.setCell ?_ (by first | (simp;done) | (simp;omega) | omega) _ | refine Below.drew ?_ | refine below_drewN ?_ _)
  clear pA1 pO1 hB1;generalize (w3.setCell ⟨w.heap.size+1,7,none⟩ (.int .i64 x.op)).drew=W2 at *;have rA:=pA2.range;have rO:=pO2.range;clear pA2 pO2;go_wp2_with (first | ((with_reducible refine wpList_load_want ?_ 45 (.tmp 1) ?_ w.heap.size 0 ?_ (nd20 x) _ ?_ Tryz.underlying45 ?_ ?_ ?_);rfl;rfl;rfl;exact rA;rfl;kernel_rfl) | ((with_reducible refine wpList_load_want ?_ 45 (.tmp 3) ?_ (w.heap.size+1) 0 ?_ (nd20 ⟨4,Wt.v0,x.op,⟨#[]⟩,0,Wt.r0,Wt.r0⟩) _ ?_ Tryz.underlying45 ?_ ?_ ?_);rfl;rfl;rfl;exact rO;rfl;kernel_rfl))
  go_wp2;go_ret;exact ⟨by simp,hB2⟩
 | some q =>
  obtain ⟨o2,m2,t2⟩:=q;rw [hop] at C;simp only [opV] at C ⊢;by_cases ht:t2<5
  ·rw [if_pos ht];have KK:=fun w=>tkind_any o2 ⟨m2.toArray⟩ t2 w
   rw [if_pos ht] at KK;go_enter Tryz.func53,Tryz.ntmps53;go_upto_region 1 with fail
   go_upto_region 2 with ((with_reducible refine wpList_store_mid ?_ 45 (.tmp 3) (.tmp 9) ?_ (w.heap.size+1) 0 (nd20 (bare 4)).toArray ?_ ?_ ?_ ?_ ?_ ?_);rfl;rfl;rfl;rfl;exact hth;kernel_rfl;exact one20 _)
   generalize (two w x).setCells (w.heap.size+1) 0 (nd20 (bare 4))=W0 at *;clear hth;go_upto_region 11 with fail
   go_wp2_with fail
   refine (C _ OpW).mono ?_;rintro e w1 ⟨rfl,hb⟩;have pA1:=AtL.below hb pA;have pO1:=AtL.below hb pO;have hB1:=below_end hBa hb;have pOlt:=pO1.lt;clear hb pA pO hBa a0 C OpW;go_upto_region 12 with fail
   replace pA1:=AtL.alloc pA1 (.cells #[.int .i64 o2,.string ⟨m2.toArray⟩,.int .i64 t2] 118)
   replace pO1:=AtL.alloc pO1 (.cells #[.int .i64 o2,.string ⟨m2.toArray⟩,.int .i64 t2] 118)
   have pC1:AtL (w1.alloc (.cells #[.int .i64 o2,.string ⟨m2.toArray⟩,.int .i64 t2] 118)) w1.heap.size [.int .i64 o2,.string ⟨m2.toArray⟩,.int .i64 t2]:=AtL.new0 w1 _ _;have hnc:w.heap.size+1 ≠ w1.heap.size:=by have:=pOlt;omega
   replace hB1:=ball hB1 (.cells #[.int .i64 o2,.string ⟨m2.toArray⟩,.int .i64 t2] 118)
   generalize w1.heap.size=kc at *;generalize w1.alloc (.cells #[.int .i64 o2,.string ⟨m2.toArray⟩,.int .i64 t2] 118)=w3 at *;refine wp_region_held_drew (S:=NdS4 w.heap.size (w.heap.size+1) kc x o2 ⟨m2.toArray⟩ t2) (by kernel_rfl) (NdS4_mk hk (AtL.drew pA1) (AtL.drew pO1) (AtL.drew pC1)) (fun hHeld=>?_);replace pA1:=AtL.drew pA1
   replace pO1:=AtL.drew pO1
   replace pC1:=AtL.drew pC1
   replace hB1:=hB1.drew
   refine tkQ 0 z6n0 ?_;try simp only [Act.put,lA,lZ,lS]
   refine tkQ 1 z6n1 ?_;try simp only [Act.put,lA,lZ,lS]
   refine tkQ 2 z6n2 ?_;try simp only [Act.put,lA,lZ,lS]
   refine tkQ 3 z6n3 ?_;try simp only [Act.put,lA,lZ,lS]
   refine tkQ 4 z6n4 ?_;try simp only [Act.put,lA,lZ,lS]
   refine tkQ 6 z6n5 ?_;try simp only [Act.put,lA,lZ,lS]
   refine tkQ 7 z6n6 ?_;try simp only [Act.put,lA,lZ,lS]
   refine tkQ 10 z6n7 ?_;try simp only [Act.put,lA,lZ,lS]
   refine wpAnyH_ready (rs:=[5]) (by kernel_rfl) (by simp) ?_;refine AllReadyH.cons (o:=z6n8) rfl (fun K hK=>?_) AllReadyH.nil;go_simp
   refine (KK _).mono ?_;rintro e w4 ⟨rfl,hb⟩;replace pA1:=AtL.below hb pA1
   replace pO1:=AtL.below hb pO1
   replace pC1:=AtL.below hb pC1
   replace hB1:=below_end hB1 hb
   clear hb;go_wp2_with fail
   refine hK.out _ _ (NdS4_mk hk pA1 pO1 pC1) (fun hHeld=>?_);clear hK K;try simp only [Act.put,lA,lZ,lS]
   refine tkQ 8 z6n9 ?_;try simp only [Act.put,lA,lZ,lS]
   refine tkQ 9 z6n10 ?_;try simp only [Act.put,lA,lZ,lS]
   refine wpAnyH_ready (rs:=[11]) (by kernel_rfl) (by simp) ?_;refine AllReadyH.cons (o:=z6n11) rfl (fun K hK=>?_) AllReadyH.nil;have o7:=pO1.2.1 7 _ rfl;obtain ⟨_,_,_,_,_,g7⟩:=hHeld;go_simp
   refine hK.out _ _ (NdS4_set (NdS4_mk hk pA1 pO1 pC1) hne hnc _ _) (fun hHeld=>?_);clear hK K;try simp only [Act.put,lA,lZ,lS]
   refine wpAnyH_ready (rs:=[12]) (by kernel_rfl) (by simp) ?_;refine AllReadyH.cons (o:=z6n12) rfl (fun K hK=>?_) AllReadyH.nil;go_simp
   refine hK.out _ _ (by assumption) (fun hHeld=>?_);clear hK K;try simp only [Act.put,lA,lZ,lS]
   refine wpAnyH_done (by kernel_rfl) ?_ _;clear o7 g7 pC1;have pA2:AtL (w4.setCell ⟨w.heap.size+1,7,none⟩ (.int .i64 x.op)) w.heap.size (nd20 x):=(pA1.far hne 7 (.int .i64 x.op))
   have pO2:AtL (w4.setCell ⟨w.heap.size+1,7,none⟩ (.int .i64 x.op)) (w.heap.size+1) (nd20 ⟨4,Wt.v0,x.op,⟨#[]⟩,0,Wt.r0,Wt.r0⟩):=(pO1.set 7 (.int .i64 x.op))
   have hB2:Below w.heap.size w (w4.setCell ⟨w.heap.size+1,7,none⟩ (.int .i64 x.op)):=by with_reducible repeat (first | exact hB1 | refine ball ?_ _ | refine Below.setCell ?_ (by first | (simp;done) | (simp;omega) | omega) _ | refine Below.drew ?_ | refine below_drewN ?_ _)
   clear pA1 pO1 hB1;generalize (w4.setCell ⟨w.heap.size+1,7,none⟩ (.int .i64 x.op))=W2 at *;have rA:=pA2.range;have rO:=pO2.range;clear pA2 pO2;go_wp2_with (first | ((with_reducible refine wpList_load_want ?_ 45 (.tmp 1) ?_ w.heap.size 0 ?_ (nd20 x) _ ?_ Tryz.underlying45 ?_ ?_ ?_);rfl;rfl;rfl;exact rA;rfl;kernel_rfl) | ((with_reducible refine wpList_load_want ?_ 45 (.tmp 3) ?_ (w.heap.size+1) 0 ?_ (nd20 ⟨4,Wt.v0,x.op,⟨#[]⟩,0,Wt.r0,Wt.r0⟩) _ ?_ Tryz.underlying45 ?_ ?_ ?_);rfl;rfl;rfl;exact rO;rfl;kernel_rfl))
   go_wp2;go_ret;exact ⟨by simp,hB2⟩
  ·rw [if_neg ht];have KK:=fun w=>tkind_any o2 ⟨m2.toArray⟩ t2 w
   rw [if_neg ht] at KK;go_enter Tryz.func53,Tryz.ntmps53;go_upto_region 1 with fail
   go_upto_region 2 with ((with_reducible refine wpList_store_mid ?_ 45 (.tmp 3) (.tmp 9) ?_ (w.heap.size+1) 0 (nd20 (bare 4)).toArray ?_ ?_ ?_ ?_ ?_ ?_);rfl;rfl;rfl;rfl;exact hth;kernel_rfl;exact one20 _)
   generalize (two w x).setCells (w.heap.size+1) 0 (nd20 (bare 4))=W0 at *;clear hth;go_upto_region 11 with fail
   go_wp2_with fail
   refine (C _ OpW).mono ?_;rintro e w1 ⟨rfl,hb⟩;have pA1:=AtL.below hb pA;have pO1:=AtL.below hb pO;have hB1:=below_end hBa hb;have pOlt:=pO1.lt;clear hb pA pO hBa a0 C OpW;go_upto_region 12 with fail
   replace pA1:=AtL.alloc pA1 (.cells #[.int .i64 o2,.string ⟨m2.toArray⟩,.int .i64 t2] 118)
   replace pO1:=AtL.alloc pO1 (.cells #[.int .i64 o2,.string ⟨m2.toArray⟩,.int .i64 t2] 118)
   have pC1:AtL (w1.alloc (.cells #[.int .i64 o2,.string ⟨m2.toArray⟩,.int .i64 t2] 118)) w1.heap.size [.int .i64 o2,.string ⟨m2.toArray⟩,.int .i64 t2]:=AtL.new0 w1 _ _;have hnc:w.heap.size+1 ≠ w1.heap.size:=by have:=pOlt;omega
   replace hB1:=ball hB1 (.cells #[.int .i64 o2,.string ⟨m2.toArray⟩,.int .i64 t2] 118)
   generalize w1.heap.size=kc at *;generalize w1.alloc (.cells #[.int .i64 o2,.string ⟨m2.toArray⟩,.int .i64 t2] 118)=w3 at *;refine wp_region_held_drew (S:=NdS4 w.heap.size (w.heap.size+1) kc x o2 ⟨m2.toArray⟩ t2) (by kernel_rfl) (NdS4_mk hk (AtL.drew pA1) (AtL.drew pO1) (AtL.drew pC1)) (fun hHeld=>?_);replace pA1:=AtL.drew pA1
   replace pO1:=AtL.drew pO1
   replace pC1:=AtL.drew pC1
   replace hB1:=hB1.drew
   refine tkQ 0 z6n0 ?_;try simp only [Act.put,lA,lZ,lS]
   refine tkQ 1 z6n1 ?_;try simp only [Act.put,lA,lZ,lS]
   refine tkQ 2 z6n2 ?_;try simp only [Act.put,lA,lZ,lS]
   refine tkQ 3 z6n3 ?_;try simp only [Act.put,lA,lZ,lS]
   refine tkQ 4 z6n4 ?_;try simp only [Act.put,lA,lZ,lS]
   refine tkQ 6 z6n5 ?_;try simp only [Act.put,lA,lZ,lS]
   refine tkQ 7 z6n6 ?_;try simp only [Act.put,lA,lZ,lS]
   refine tkQ 10 z6n7 ?_;try simp only [Act.put,lA,lZ,lS]
   refine wpAnyH_ready (rs:=[5]) (by kernel_rfl) (by simp) ?_;refine AllReadyH.cons (o:=z6n8) rfl (fun K hK=>?_) AllReadyH.nil;go_simp
   refine (KK _).mono ?_;rintro e w4 ⟨rfl,hb⟩;replace pA1:=AtL.below hb pA1
   replace pO1:=AtL.below hb pO1
   replace pC1:=AtL.below hb pC1
   replace hB1:=below_end hB1 hb
   clear hb;go_wp2_with fail
   refine hK.out _ _ (NdS4_mk hk pA1 pO1 pC1) (fun hHeld=>?_);clear hK K;try simp only [Act.put,lA,lZ,lS]
   refine tkQ 8 z6n9 ?_;try simp only [Act.put,lA,lZ,lS]
   refine tkQ 9 z6n10 ?_;try simp only [Act.put,lA,lZ,lS]
   refine wpAnyH_ready (rs:=[11]) (by kernel_rfl) (by simp) ?_;refine AllReadyH.cons (o:=z6n11) rfl (fun K hK=>?_) AllReadyH.nil;have o7:=pO1.2.1 7 _ rfl;obtain ⟨_,_,_,_,_,g7⟩:=hHeld;go_simp
   refine hK.out _ _ (NdS4_set (NdS4_mk hk pA1 pO1 pC1) hne hnc _ _) (fun hHeld=>?_);clear hK K;try simp only [Act.put,lA,lZ,lS]
   refine wpAnyH_ready (rs:=[12]) (by kernel_rfl) (by simp) ?_;refine AllReadyH.cons (o:=z6n12) rfl (fun K hK=>?_) AllReadyH.nil;go_simp
   refine hK.out _ _ (by assumption) (fun hHeld=>?_);clear hK K;try simp only [Act.put,lA,lZ,lS]
   refine wpAnyH_done (by kernel_rfl) ?_ _;clear o7 g7 pC1;have pA2:AtL (w4.setCell ⟨w.heap.size+1,7,none⟩ (.int .i64 x.op)) w.heap.size (nd20 x):=(pA1.far hne 7 (.int .i64 x.op))
   have pO2:AtL (w4.setCell ⟨w.heap.size+1,7,none⟩ (.int .i64 x.op)) (w.heap.size+1) (nd20 ⟨4,Wt.v0,x.op,⟨#[]⟩,0,Wt.r0,Wt.r0⟩):=(pO1.set 7 (.int .i64 x.op))
   have hB2:Below w.heap.size w (w4.setCell ⟨w.heap.size+1,7,none⟩ (.int .i64 x.op)):=by with_reducible repeat (first | exact hB1 | refine ball ?_ _ | refine Below.setCell ?_ (by first | (simp;done) | (simp;omega) | omega) _ | refine Below.drew ?_ | refine below_drewN ?_ _)
   clear pA1 pO1 hB1;generalize (w4.setCell ⟨w.heap.size+1,7,none⟩ (.int .i64 x.op))=W2 at *;have rA:=pA2.range;have rO:=pO2.range;clear pA2 pO2;go_wp2_with (first | ((with_reducible refine wpList_load_want ?_ 45 (.tmp 1) ?_ w.heap.size 0 ?_ (nd20 x) _ ?_ Tryz.underlying45 ?_ ?_ ?_);rfl;rfl;rfl;exact rA;rfl;kernel_rfl) | ((with_reducible refine wpList_load_want ?_ 45 (.tmp 3) ?_ (w.heap.size+1) 0 ?_ (nd20 ⟨4,Wt.v0,x.op,⟨#[]⟩,0,Wt.r0,Wt.r0⟩) _ ?_ Tryz.underlying45 ?_ ?_ ?_);rfl;rfl;rfl;exact rO;rfl;kernel_rfl))
   go_wp2;go_ret;exact ⟨by simp,hB2⟩
abbrev NdS5 (ka kb kc:Nat) (x:Wt.Nd) (o:Int) (m:ByteArray) (t:Int) (W:World):Prop :=
 W.cell? ⟨ka,7,none⟩=some (.int .i64 x.op)∧W.cell? ⟨ka,0,none⟩=some (.int .i64 5)∧W.cell? ⟨kc,0,none⟩=some (.int .i64 o)∧W.cell? ⟨kc,1,none⟩=some (.string m)∧W.cell? ⟨kc,2,none⟩=some (.int .i64 t)∧W.frozen? ⟨kb,7,none⟩=false
theorem NdS5_mk {ka kb kc:Nat} {x y:Wt.Nd} {o:Int} {m:ByteArray} {t:Int} {W:World} (hk:x.k=5) (h0:AtL W ka (nd20 x)) (h1:AtL W kb (nd20 y)) (h2:AtL W kc [.int .i64 o,.string m,.int .i64 t]):NdS5 ka kb kc x o m t W :=
 ⟨h0.2.1 7 _ rfl,by rw [←hk];exact h0.2.1 0 _ rfl,h2.2.1 0 _ rfl,h2.2.1 1 _ rfl,h2.2.1 2 _ rfl,h1.2.2 7 (by show 7<20;decide)⟩
theorem NdS5_set {ka kb kc:Nat} {x:Wt.Nd} {o:Int} {m:ByteArray} {t:Int} {W:World} (h:NdS5 ka kb kc x o m t W) (hne:kb ≠ ka) (hne2:kb ≠ kc) (j:Nat) (u:Value):NdS5 ka kb kc x o m t (W.setCell ⟨kb,j,none⟩ u):=by
 obtain ⟨h0,h1,h2,h3,h4,g⟩:=h;refine ⟨?_,?_,?_,?_,?_,?_⟩;any_goals first | (rw [World.cell?_setCell_far _ _ _ _ (by simpa using hne)];assumption) | (rw [World.cell?_setCell_far _ _ _ _ (by simpa using hne2)];assumption)
 rw [World.frozen?_setCell];assumption
theorem tright_5 (x:Wt.Nd) (w:World) (hk:x.k=5) (hO:OpsAt w) :
  Calls Tryz.prog 53 #[ndV x] w fun e w'=>e=.returned (.bool (opK x.op == 5 && eqN x ⟨5,Wt.v0,x.op,⟨#[]⟩,0,Wt.r0,Wt.r0⟩))∧Below w.heap.size w w':=by
 have C:∀ w:World,OpsAt w→Calls Tryz.prog 71 #[.int .i64 x.op] w fun e w'=>e=.returned (opV (Wt.opOf x.op))∧Below w.heap.size w w':=fun w h=>topOf_any x.op w h
 have hq:∀ w:World,(binOp .eql 45 (.agg (nd20 x).toArray) (.agg (nd20 ⟨5,Wt.v0,x.op,⟨#[]⟩,0,Wt.r0,Wt.r0⟩).toArray)).run Tryz.prog w=.ok (.bool (eqN x ⟨5,Wt.v0,x.op,⟨#[]⟩,0,Wt.r0,Wt.r0⟩)) w:=fun w=>eqN_run x ⟨5,Wt.v0,x.op,⟨#[]⟩,0,Wt.r0,Wt.r0⟩ w
 generalize eqN x ⟨5,Wt.v0,x.op,⟨#[]⟩,0,Wt.r0,Wt.r0⟩=R at *;have pA0:AtL (two w x) w.heap.size (nd20 x):=(AtL.new0 w _ _).alloc _;have pO0:AtL (two w x) (w.heap.size+1) (nd20 (bare 0)):=AtL.new1 w _ _ _;have hth:World.there (two w x) (w.heap.size+1) 0 (nd20 (bare 5)).toArray.size:=pO0.there;have hne:w.heap.size+1 ≠ w.heap.size:=by omega
 have pA:=pA0.farAll hne 0 (nd20 (bare 5));have pO:AtL ((two w x).setCells (w.heap.size+1) 0 (nd20 (bare 5))) (w.heap.size+1) (nd20 (bare 5)):=pO0.setAll rfl;have hBa:Below w.heap.size w ((two w x).setCells (w.heap.size+1) 0 (nd20 (bare 5))):=bset (ball (ball (Below.refl _ w) _) _) (Nat.le_succ _) _ 0;clear pA0 pO0;have n0:(nd20 x)[0]? = some (.int .i64 5):=by rw [←hk];rfl
 have a0:World.cell? ((two w x).setCells (w.heap.size+1) 0 (nd20 (bare 5))) ⟨w.heap.size,0,none⟩=some (.int .i64 5):=pA.2.1 0 _ n0;show Calls _ _ #[.agg (nd20 x).toArray] _ _
 have OpW:=hO.below hBa;have c7:World.cell? ((two w x).setCells (w.heap.size+1) 0 (nd20 (bare 5))) ⟨w.heap.size,7,none⟩=some (.int .i64 x.op):=pA.2.1 7 _ rfl;unfold opK;cases hop:Wt.opOf x.op with
 | none =>
  rw [hop] at C;simp only [opV] at C ⊢;go_enter Tryz.func53,Tryz.ntmps53;go_upto_region 1 with fail
  go_upto_region 2 with ((with_reducible refine wpList_store_mid ?_ 45 (.tmp 3) (.tmp 9) ?_ (w.heap.size+1) 0 (nd20 (bare 5)).toArray ?_ ?_ ?_ ?_ ?_ ?_);rfl;rfl;rfl;rfl;exact hth;kernel_rfl;exact one20 _)
  generalize (two w x).setCells (w.heap.size+1) 0 (nd20 (bare 5))=W0 at *;clear hth;go_upto_region 11 with fail
  go_wp2_with fail
  refine (C _ OpW).mono ?_;rintro e w1 ⟨rfl,hb⟩;have pA1:=AtL.below hb pA;have pO1:=AtL.below hb pO;have hB1:=below_end hBa hb;have pOlt:=pO1.lt;clear hb pA pO hBa a0 C OpW;go_upto_region 12 with fail
  replace pA1:=AtL.alloc pA1 (.cells #[.int .i64 0,.string ⟨#[]⟩,.int .i64 0] 118)
  replace pO1:=AtL.alloc pO1 (.cells #[.int .i64 0,.string ⟨#[]⟩,.int .i64 0] 118)
  have pC1:AtL (w1.alloc (.cells #[.int .i64 0,.string ⟨#[]⟩,.int .i64 0] 118)) w1.heap.size [.int .i64 0,.string ⟨#[]⟩,.int .i64 0]:=AtL.new0 w1 _ _;have hnc:w.heap.size+1 ≠ w1.heap.size:=by have:=pOlt;omega
  replace hB1:=ball hB1 (.cells #[.int .i64 0,.string ⟨#[]⟩,.int .i64 0] 118)
  generalize w1.heap.size=kc at *;generalize w1.alloc (.cells #[.int .i64 0,.string ⟨#[]⟩,.int .i64 0] 118)=w3 at *;refine wp_region_held_drew (S:=NdS5 w.heap.size (w.heap.size+1) kc x 0 ⟨#[]⟩ 0) (by kernel_rfl) (NdS5_mk hk (AtL.drew pA1) (AtL.drew pO1) (AtL.drew pC1)) (fun hHeld=>?_);refine tkQ 0 z6n0 ?_;try simp only [Act.put,lA,lZ,lS]
  refine tkQ 1 z6n1 ?_;try simp only [Act.put,lA,lZ,lS]
  refine tkQ 2 z6n2 ?_;try simp only [Act.put,lA,lZ,lS]
  refine tkQ 3 z6n3 ?_;try simp only [Act.put,lA,lZ,lS]
  refine tnQ 4 z6n4 ?_;try simp only [Act.put,lA,lZ,lS]
  refine tnQ 6 z6n5 ?_;try simp only [Act.put,lA,lZ,lS]
  refine tnQ 7 z6n6 ?_;try simp only [Act.put,lA,lZ,lS]
  refine tkQ 10 z6n7 ?_;try simp only [Act.put,lA,lZ,lS]
  refine tnQ 5 z6n8 ?_;try simp only [Act.put,lA,lZ,lS]
  refine tnQ 8 z6n9 ?_;try simp only [Act.put,lA,lZ,lS]
  refine tkQ 9 z6n10 ?_;try simp only [Act.put,lA,lZ,lS]
  refine wpAnyH_ready (rs:=[11]) (by kernel_rfl) (by simp) ?_;refine AllReadyH.cons (o:=z6n11) rfl (fun K hK=>?_) AllReadyH.nil;have o7:=(AtL.drew pO1).2.1 7 _ rfl;obtain ⟨_,_,_,_,_,g7⟩:=hHeld;go_simp
  refine hK.out _ _ (NdS5_set (NdS5_mk hk (AtL.drew pA1) (AtL.drew pO1) (AtL.drew pC1)) hne hnc _ _) (fun hHeld=>?_);clear hK K;try simp only [Act.put,lA,lZ,lS]
  refine wpAnyH_ready (rs:=[12]) (by kernel_rfl) (by simp) ?_;refine AllReadyH.cons (o:=z6n12) rfl (fun K hK=>?_) AllReadyH.nil;go_simp
  refine hK.out _ _ (by assumption) (fun hHeld=>?_);clear hK K;try simp only [Act.put,lA,lZ,lS]
  refine wpAnyH_done (by kernel_rfl) ?_ _;clear o7 g7 pC1;have pA2:AtL (w3.setCell ⟨w.heap.size+1,7,none⟩ (.int .i64 x.op)).drew w.heap.size (nd20 x):=AtL.drew (pA1.far hne 7 (.int .i64 x.op));have pO2:AtL (w3.setCell ⟨w.heap.size+1,7,none⟩ (.int .i64 x.op)).drew (w.heap.size+1) (nd20 ⟨5,Wt.v0,x.op,⟨#[]⟩,0,Wt.r0,Wt.r0⟩):=AtL.drew (pO1.set 7 (.int .i64 x.op));have hB2:Below w.heap.size w (w3.setCell ⟨w.heap.size+1,7,none⟩ (.int .i64 x.op)).drew:=by with_reducible repeat (first | exact hB1 | refine ball ?_ _ | refine Below.setCell ?_ (by first | (simp;done) | (simp;omega) | omega) _ | refine Below.drew ?_ | refine below_drewN ?_ _)
  clear pA1 pO1 hB1;generalize (w3.setCell ⟨w.heap.size+1,7,none⟩ (.int .i64 x.op)).drew=W2 at *;have rA:=pA2.range;have rO:=pO2.range;clear pA2 pO2;go_wp2_with (first | ((with_reducible refine wpList_load_want ?_ 45 (.tmp 1) ?_ w.heap.size 0 ?_ (nd20 x) _ ?_ Tryz.underlying45 ?_ ?_ ?_);rfl;rfl;rfl;exact rA;rfl;kernel_rfl) | ((with_reducible refine wpList_load_want ?_ 45 (.tmp 3) ?_ (w.heap.size+1) 0 ?_ (nd20 ⟨5,Wt.v0,x.op,⟨#[]⟩,0,Wt.r0,Wt.r0⟩) _ ?_ Tryz.underlying45 ?_ ?_ ?_);rfl;rfl;rfl;exact rO;rfl;kernel_rfl))
  go_wp2;go_ret;exact ⟨by simp,hB2⟩
 | some q =>
  obtain ⟨o2,m2,t2⟩:=q;rw [hop] at C;simp only [opV] at C ⊢;by_cases ht:t2<5
  ·rw [if_pos ht];have KK:=fun w=>tkind_any o2 ⟨m2.toArray⟩ t2 w
   rw [if_pos ht] at KK;go_enter Tryz.func53,Tryz.ntmps53;go_upto_region 1 with fail
   go_upto_region 2 with ((with_reducible refine wpList_store_mid ?_ 45 (.tmp 3) (.tmp 9) ?_ (w.heap.size+1) 0 (nd20 (bare 5)).toArray ?_ ?_ ?_ ?_ ?_ ?_);rfl;rfl;rfl;rfl;exact hth;kernel_rfl;exact one20 _)
   generalize (two w x).setCells (w.heap.size+1) 0 (nd20 (bare 5))=W0 at *;clear hth;go_upto_region 11 with fail
   go_wp2_with fail
   refine (C _ OpW).mono ?_;rintro e w1 ⟨rfl,hb⟩;have pA1:=AtL.below hb pA;have pO1:=AtL.below hb pO;have hB1:=below_end hBa hb;have pOlt:=pO1.lt;clear hb pA pO hBa a0 C OpW;go_upto_region 12 with fail
   replace pA1:=AtL.alloc pA1 (.cells #[.int .i64 o2,.string ⟨m2.toArray⟩,.int .i64 t2] 118)
   replace pO1:=AtL.alloc pO1 (.cells #[.int .i64 o2,.string ⟨m2.toArray⟩,.int .i64 t2] 118)
   have pC1:AtL (w1.alloc (.cells #[.int .i64 o2,.string ⟨m2.toArray⟩,.int .i64 t2] 118)) w1.heap.size [.int .i64 o2,.string ⟨m2.toArray⟩,.int .i64 t2]:=AtL.new0 w1 _ _;have hnc:w.heap.size+1 ≠ w1.heap.size:=by have:=pOlt;omega
   replace hB1:=ball hB1 (.cells #[.int .i64 o2,.string ⟨m2.toArray⟩,.int .i64 t2] 118)
   generalize w1.heap.size=kc at *;generalize w1.alloc (.cells #[.int .i64 o2,.string ⟨m2.toArray⟩,.int .i64 t2] 118)=w3 at *;refine wp_region_held_drew (S:=NdS5 w.heap.size (w.heap.size+1) kc x o2 ⟨m2.toArray⟩ t2) (by kernel_rfl) (NdS5_mk hk (AtL.drew pA1) (AtL.drew pO1) (AtL.drew pC1)) (fun hHeld=>?_);replace pA1:=AtL.drew pA1
   replace pO1:=AtL.drew pO1
   replace pC1:=AtL.drew pC1
   replace hB1:=hB1.drew
   refine tkQ 0 z6n0 ?_;try simp only [Act.put,lA,lZ,lS]
   refine tkQ 1 z6n1 ?_;try simp only [Act.put,lA,lZ,lS]
   refine tkQ 2 z6n2 ?_;try simp only [Act.put,lA,lZ,lS]
   refine tkQ 3 z6n3 ?_;try simp only [Act.put,lA,lZ,lS]
   refine tkQ 4 z6n4 ?_;try simp only [Act.put,lA,lZ,lS]
   refine tkQ 6 z6n5 ?_;try simp only [Act.put,lA,lZ,lS]
   refine tkQ 7 z6n6 ?_;try simp only [Act.put,lA,lZ,lS]
   refine tkQ 10 z6n7 ?_;try simp only [Act.put,lA,lZ,lS]
   refine wpAnyH_ready (rs:=[5]) (by kernel_rfl) (by simp) ?_;refine AllReadyH.cons (o:=z6n8) rfl (fun K hK=>?_) AllReadyH.nil;go_simp
   refine (KK _).mono ?_;rintro e w4 ⟨rfl,hb⟩;replace pA1:=AtL.below hb pA1
   replace pO1:=AtL.below hb pO1
   replace pC1:=AtL.below hb pC1
   replace hB1:=below_end hB1 hb
   clear hb;go_wp2_with fail
   refine hK.out _ _ (NdS5_mk hk pA1 pO1 pC1) (fun hHeld=>?_);clear hK K;try simp only [Act.put,lA,lZ,lS]
   refine tkQ 8 z6n9 ?_;try simp only [Act.put,lA,lZ,lS]
   refine tkQ 9 z6n10 ?_;try simp only [Act.put,lA,lZ,lS]
   refine wpAnyH_ready (rs:=[11]) (by kernel_rfl) (by simp) ?_;refine AllReadyH.cons (o:=z6n11) rfl (fun K hK=>?_) AllReadyH.nil;have o7:=pO1.2.1 7 _ rfl;obtain ⟨_,_,_,_,_,g7⟩:=hHeld;go_simp
   refine hK.out _ _ (NdS5_set (NdS5_mk hk pA1 pO1 pC1) hne hnc _ _) (fun hHeld=>?_);clear hK K;try simp only [Act.put,lA,lZ,lS]
   refine wpAnyH_ready (rs:=[12]) (by kernel_rfl) (by simp) ?_;refine AllReadyH.cons (o:=z6n12) rfl (fun K hK=>?_) AllReadyH.nil;go_simp
   refine hK.out _ _ (by assumption) (fun hHeld=>?_);clear hK K;try simp only [Act.put,lA,lZ,lS]
   refine wpAnyH_done (by kernel_rfl) ?_ _;clear o7 g7 pC1;have pA2:AtL (w4.setCell ⟨w.heap.size+1,7,none⟩ (.int .i64 x.op)) w.heap.size (nd20 x):=(pA1.far hne 7 (.int .i64 x.op))
   have pO2:AtL (w4.setCell ⟨w.heap.size+1,7,none⟩ (.int .i64 x.op)) (w.heap.size+1) (nd20 ⟨5,Wt.v0,x.op,⟨#[]⟩,0,Wt.r0,Wt.r0⟩):=(pO1.set 7 (.int .i64 x.op))
   have hB2:Below w.heap.size w (w4.setCell ⟨w.heap.size+1,7,none⟩ (.int .i64 x.op)):=by with_reducible repeat (first | exact hB1 | refine ball ?_ _ | refine Below.setCell ?_ (by first | (simp;done) | (simp;omega) | omega) _ | refine Below.drew ?_ | refine below_drewN ?_ _)
   clear pA1 pO1 hB1;generalize (w4.setCell ⟨w.heap.size+1,7,none⟩ (.int .i64 x.op))=W2 at *;have rA:=pA2.range;have rO:=pO2.range;clear pA2 pO2;go_wp2_with (first | ((with_reducible refine wpList_load_want ?_ 45 (.tmp 1) ?_ w.heap.size 0 ?_ (nd20 x) _ ?_ Tryz.underlying45 ?_ ?_ ?_);rfl;rfl;rfl;exact rA;rfl;kernel_rfl) | ((with_reducible refine wpList_load_want ?_ 45 (.tmp 3) ?_ (w.heap.size+1) 0 ?_ (nd20 ⟨5,Wt.v0,x.op,⟨#[]⟩,0,Wt.r0,Wt.r0⟩) _ ?_ Tryz.underlying45 ?_ ?_ ?_);rfl;rfl;rfl;exact rO;rfl;kernel_rfl))
   go_wp2;go_ret;exact ⟨by simp,hB2⟩
  ·rw [if_neg ht];have KK:=fun w=>tkind_any o2 ⟨m2.toArray⟩ t2 w
   rw [if_neg ht] at KK;go_enter Tryz.func53,Tryz.ntmps53;go_upto_region 1 with fail
   go_upto_region 2 with ((with_reducible refine wpList_store_mid ?_ 45 (.tmp 3) (.tmp 9) ?_ (w.heap.size+1) 0 (nd20 (bare 5)).toArray ?_ ?_ ?_ ?_ ?_ ?_);rfl;rfl;rfl;rfl;exact hth;kernel_rfl;exact one20 _)
   generalize (two w x).setCells (w.heap.size+1) 0 (nd20 (bare 5))=W0 at *;clear hth;go_upto_region 11 with fail
   go_wp2_with fail
   refine (C _ OpW).mono ?_;rintro e w1 ⟨rfl,hb⟩;have pA1:=AtL.below hb pA;have pO1:=AtL.below hb pO;have hB1:=below_end hBa hb;have pOlt:=pO1.lt;clear hb pA pO hBa a0 C OpW;go_upto_region 12 with fail
   replace pA1:=AtL.alloc pA1 (.cells #[.int .i64 o2,.string ⟨m2.toArray⟩,.int .i64 t2] 118)
   replace pO1:=AtL.alloc pO1 (.cells #[.int .i64 o2,.string ⟨m2.toArray⟩,.int .i64 t2] 118)
   have pC1:AtL (w1.alloc (.cells #[.int .i64 o2,.string ⟨m2.toArray⟩,.int .i64 t2] 118)) w1.heap.size [.int .i64 o2,.string ⟨m2.toArray⟩,.int .i64 t2]:=AtL.new0 w1 _ _;have hnc:w.heap.size+1 ≠ w1.heap.size:=by have:=pOlt;omega
   replace hB1:=ball hB1 (.cells #[.int .i64 o2,.string ⟨m2.toArray⟩,.int .i64 t2] 118)
   generalize w1.heap.size=kc at *;generalize w1.alloc (.cells #[.int .i64 o2,.string ⟨m2.toArray⟩,.int .i64 t2] 118)=w3 at *;refine wp_region_held_drew (S:=NdS5 w.heap.size (w.heap.size+1) kc x o2 ⟨m2.toArray⟩ t2) (by kernel_rfl) (NdS5_mk hk (AtL.drew pA1) (AtL.drew pO1) (AtL.drew pC1)) (fun hHeld=>?_);replace pA1:=AtL.drew pA1
   replace pO1:=AtL.drew pO1
   replace pC1:=AtL.drew pC1
   replace hB1:=hB1.drew
   refine tkQ 0 z6n0 ?_;try simp only [Act.put,lA,lZ,lS]
   refine tkQ 1 z6n1 ?_;try simp only [Act.put,lA,lZ,lS]
   refine tkQ 2 z6n2 ?_;try simp only [Act.put,lA,lZ,lS]
   refine tkQ 3 z6n3 ?_;try simp only [Act.put,lA,lZ,lS]
   refine tkQ 4 z6n4 ?_;try simp only [Act.put,lA,lZ,lS]
   refine tkQ 6 z6n5 ?_;try simp only [Act.put,lA,lZ,lS]
   refine tkQ 7 z6n6 ?_;try simp only [Act.put,lA,lZ,lS]
   refine tkQ 10 z6n7 ?_;try simp only [Act.put,lA,lZ,lS]
   refine wpAnyH_ready (rs:=[5]) (by kernel_rfl) (by simp) ?_;refine AllReadyH.cons (o:=z6n8) rfl (fun K hK=>?_) AllReadyH.nil;go_simp
   refine (KK _).mono ?_;rintro e w4 ⟨rfl,hb⟩;replace pA1:=AtL.below hb pA1
   replace pO1:=AtL.below hb pO1
   replace pC1:=AtL.below hb pC1
   replace hB1:=below_end hB1 hb
   clear hb;go_wp2_with fail
   refine hK.out _ _ (NdS5_mk hk pA1 pO1 pC1) (fun hHeld=>?_);clear hK K;try simp only [Act.put,lA,lZ,lS]
   refine tkQ 8 z6n9 ?_;try simp only [Act.put,lA,lZ,lS]
   refine tkQ 9 z6n10 ?_;try simp only [Act.put,lA,lZ,lS]
   refine wpAnyH_ready (rs:=[11]) (by kernel_rfl) (by simp) ?_;refine AllReadyH.cons (o:=z6n11) rfl (fun K hK=>?_) AllReadyH.nil;have o7:=pO1.2.1 7 _ rfl;obtain ⟨_,_,_,_,_,g7⟩:=hHeld;go_simp
   refine hK.out _ _ (NdS5_set (NdS5_mk hk pA1 pO1 pC1) hne hnc _ _) (fun hHeld=>?_);clear hK K;try simp only [Act.put,lA,lZ,lS]
   refine wpAnyH_ready (rs:=[12]) (by kernel_rfl) (by simp) ?_;refine AllReadyH.cons (o:=z6n12) rfl (fun K hK=>?_) AllReadyH.nil;go_simp
   refine hK.out _ _ (by assumption) (fun hHeld=>?_);clear hK K;try simp only [Act.put,lA,lZ,lS]
   refine wpAnyH_done (by kernel_rfl) ?_ _;clear o7 g7 pC1;have pA2:AtL (w4.setCell ⟨w.heap.size+1,7,none⟩ (.int .i64 x.op)) w.heap.size (nd20 x):=(pA1.far hne 7 (.int .i64 x.op))
   have pO2:AtL (w4.setCell ⟨w.heap.size+1,7,none⟩ (.int .i64 x.op)) (w.heap.size+1) (nd20 ⟨5,Wt.v0,x.op,⟨#[]⟩,0,Wt.r0,Wt.r0⟩):=(pO1.set 7 (.int .i64 x.op))
   have hB2:Below w.heap.size w (w4.setCell ⟨w.heap.size+1,7,none⟩ (.int .i64 x.op)):=by with_reducible repeat (first | exact hB1 | refine ball ?_ _ | refine Below.setCell ?_ (by first | (simp;done) | (simp;omega) | omega) _ | refine Below.drew ?_ | refine below_drewN ?_ _)
   clear pA1 pO1 hB1;generalize (w4.setCell ⟨w.heap.size+1,7,none⟩ (.int .i64 x.op))=W2 at *;have rA:=pA2.range;have rO:=pO2.range;clear pA2 pO2;go_wp2_with (first | ((with_reducible refine wpList_load_want ?_ 45 (.tmp 1) ?_ w.heap.size 0 ?_ (nd20 x) _ ?_ Tryz.underlying45 ?_ ?_ ?_);rfl;rfl;rfl;exact rA;rfl;kernel_rfl) | ((with_reducible refine wpList_load_want ?_ 45 (.tmp 3) ?_ (w.heap.size+1) 0 ?_ (nd20 ⟨5,Wt.v0,x.op,⟨#[]⟩,0,Wt.r0,Wt.r0⟩) _ ?_ Tryz.underlying45 ?_ ?_ ?_);rfl;rfl;rfl;exact rO;rfl;kernel_rfl))
   go_wp2;go_ret;exact ⟨by simp,hB2⟩
end Go.Proofs.YtlggnpohhahdlaaGreatDoor
