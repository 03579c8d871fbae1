/- TRightC. -/
import Derived.Test.YtlggnpohhahdlaaGreatDoorQ05
set_option maxHeartbeats 8000000
set_option maxRecDepth 100000
namespace Go.Proofs.YtlggnpohhahdlaaGreatDoor
abbrev z5n0:Oper:={dst:=some 72,op:=.fieldAddr 45 (.tmp 1) 3,type:=0,pos:= "tree.go:80",after:=#[],guard:=none}
abbrev z5n1:Oper:={dst:=some 73,op:=.load 9 (.tmp 72),type:=9,pos:= "tree.go:80",after:=#[⟨0,.data⟩],guard:=none}
abbrev z5n2:Oper:={dst:=some 74,op:=.fieldAddr 45 (.tmp 1) 4,type:=0,pos:= "tree.go:80",after:=#[⟨18,.gcOnly .lateStores⟩],guard:=none}
abbrev z5n3:Oper:={dst:=some 75,op:=.load 3 (.tmp 74),type:=3,pos:= "tree.go:80",after:=#[⟨2,.data⟩,⟨18,.gcOnly .lateStores⟩],guard:=none}
abbrev z5n4:Oper:={dst:=some 76,op:=.fieldAddr 45 (.tmp 1) 3,type:=0,pos:= "tree.go:80",after:=#[],guard:=none}
abbrev z5n5:Oper:={dst:=some 77,op:=.load 9 (.tmp 76),type:=9,pos:= "tree.go:80",after:=#[⟨4,.data⟩],guard:=none}
abbrev z5n6:Oper:={dst:=some 89,op:=.fieldAddr 45 (.tmp 3) 3,type:=0,pos:= "tree.go:80",after:=#[⟨0,.phase⟩,⟨1,.phase⟩,⟨2,.textOnly .lateStores⟩,⟨3,.textOnly .lateStores⟩,⟨4,.textOnly .lateStores⟩,⟨5,.textOnly .lateStores⟩,⟨6,.textOnly .lateStoresUnsure⟩,⟨7,.textOnly .lateStores⟩,⟨8,.textOnly .lateStores⟩,⟨9,.textOnly .lateStores⟩,⟨10,.textOnly .lateStores⟩,⟨11,.textOnly .lateStores⟩,⟨12,.textOnly .lateStores⟩,⟨13,.textOnly .lateStores⟩,⟨14,.textOnly .lateStores⟩,⟨15,.textOnly .lateStores⟩,⟨16,.textOnly .lateStores⟩],guard:=none}
abbrev z5n7:Oper:={dst:=some 78,op:=.call {callee:=Callee.value (Operand.func 84),args:=#[.tmp 77],argTypes:=#[9]},type:=4,pos:= "tree.go:80",after:=#[⟨5,.data⟩],guard:=none}
abbrev z5n8:Oper:={dst:=some 79,op:=.move (.tmp 78),type:=4,pos:= "tree.go:80",after:=#[⟨6,.data⟩,⟨6,.chain⟩],guard:=none}
abbrev z5n9:Oper:={dst:=some 80,op:=.fieldAddr 45 (.tmp 1) 4,type:=0,pos:= "tree.go:80",after:=#[⟨7,.guard⟩],guard:=some (7,Bool.true)}
abbrev z5n10:Oper:={dst:=some 81,op:=.load 3 (.tmp 80),type:=3,pos:= "tree.go:80",after:=#[⟨8,.data⟩,⟨7,.guard⟩],guard:=some (7,Bool.true)}
abbrev z5n11:Oper:={dst:=some 82,op:=.binOp BinOp.geq 3 (.tmp 81) (Operand.const (Value.int IntKind.i64 0)) 3,type:=4,pos:= "tree.go:80",after:=#[⟨9,.data⟩,⟨7,.guard⟩],guard:=some (7,Bool.true)}
abbrev z5n12:Oper:={dst:=some 83,op:=.pick (.tmp 79) (.tmp 82) (Operand.const (Value.bool Bool.false)),type:=4,pos:= "tree.go:80",after:=#[⟨7,.data⟩,⟨10,.data⟩],guard:=none}
abbrev z5n13:Oper:={dst:=some 84,op:=.move (.tmp 83),type:=4,pos:= "tree.go:80",after:=#[⟨11,.data⟩,⟨7,.chain⟩],guard:=none}
abbrev z5n14:Oper:={dst:=some 85,op:=.fieldAddr 45 (.tmp 1) 4,type:=0,pos:= "tree.go:80",after:=#[⟨12,.guard⟩,⟨20,.gcOnly .lateStores⟩],guard:=some (12,Bool.true)}
abbrev z5n15:Oper:={dst:=some 86,op:=.load 3 (.tmp 85),type:=3,pos:= "tree.go:80",after:=#[⟨13,.data⟩,⟨12,.guard⟩,⟨20,.gcOnly .lateStores⟩],guard:=some (12,Bool.true)}
abbrev z5n16:Oper:={dst:=some 87,op:=.binOp BinOp.leq 3 (.tmp 86) (Operand.const (Value.int IntKind.i64 30)) 3,type:=4,pos:= "tree.go:80",after:=#[⟨14,.data⟩,⟨12,.guard⟩,⟨20,.gcOnly .lateStores⟩],guard:=some (12,Bool.true)}
abbrev z5n17:Oper:={dst:=some 88,op:=.pick (.tmp 84) (.tmp 87) (Operand.const (Value.bool Bool.false)),type:=4,pos:= "tree.go:80",after:=#[⟨12,.data⟩,⟨15,.data⟩,⟨20,.gcOnly .lateStores⟩],guard:=none}
abbrev z5n18:Oper:={dst:=none,op:=.store 9 (.tmp 89) (.tmp 73),type:=0,pos:= "tree.go:80",after:=#[⟨17,.data⟩,⟨1,.data⟩,⟨12,.chain⟩,⟨0,.phase⟩,⟨1,.phase⟩,⟨2,.textOnly .lateStores⟩,⟨3,.textOnly .lateStores⟩,⟨4,.textOnly .lateStores⟩,⟨5,.textOnly .lateStores⟩,⟨6,.textOnly .lateStoresUnsure⟩,⟨7,.textOnly .lateStores⟩,⟨8,.textOnly .lateStores⟩,⟨9,.textOnly .lateStores⟩,⟨10,.textOnly .lateStores⟩,⟨11,.textOnly .lateStores⟩,⟨12,.textOnly .lateStores⟩,⟨13,.textOnly .lateStores⟩,⟨14,.textOnly .lateStores⟩,⟨15,.textOnly .lateStores⟩,⟨16,.textOnly .lateStores⟩],guard:=none}
abbrev z5n19:Oper:={dst:=some 90,op:=.fieldAddr 45 (.tmp 3) 4,type:=0,pos:= "tree.go:80",after:=#[⟨0,.phase⟩,⟨1,.phase⟩,⟨2,.phase⟩,⟨3,.phase⟩,⟨4,.textOnly .lateStores⟩,⟨5,.textOnly .lateStores⟩,⟨6,.textOnly .lateStoresUnsure⟩,⟨7,.textOnly .lateStores⟩,⟨8,.textOnly .lateStores⟩,⟨9,.textOnly .lateStores⟩,⟨10,.textOnly .lateStores⟩,⟨11,.textOnly .lateStores⟩,⟨12,.textOnly .lateStores⟩,⟨13,.textOnly .lateStores⟩,⟨14,.textOnly .lateStores⟩,⟨15,.textOnly .lateStores⟩,⟨16,.textOnly .lateStores⟩,⟨17,.phase⟩,⟨18,.phase⟩],guard:=none}
abbrev z5n20:Oper:={dst:=none,op:=.store 3 (.tmp 90) (.tmp 75),type:=0,pos:= "tree.go:80",after:=#[⟨19,.data⟩,⟨3,.data⟩,⟨18,.chain⟩,⟨0,.phase⟩,⟨1,.phase⟩,⟨2,.phase⟩,⟨3,.phase⟩,⟨4,.textOnly .lateStores⟩,⟨5,.textOnly .lateStores⟩,⟨6,.textOnly .lateStoresUnsure⟩,⟨7,.textOnly .lateStores⟩,⟨8,.textOnly .lateStores⟩,⟨9,.textOnly .lateStores⟩,⟨10,.textOnly .lateStores⟩,⟨11,.textOnly .lateStores⟩,⟨12,.textOnly .lateStores⟩,⟨13,.textOnly .lateStores⟩,⟨14,.textOnly .lateStores⟩,⟨15,.textOnly .lateStores⟩,⟨16,.textOnly .lateStores⟩,⟨17,.phase⟩,⟨18,.phase⟩],guard:=none}
abbrev z5n21:Oper:={dst:=some 4,op:=.assign (.tmp 88),type:=4,pos:= "tree.go:80",after:=#[⟨16,.data⟩,⟨20,.chain⟩,⟨0,.phase⟩,⟨1,.phase⟩,⟨2,.phase⟩,⟨3,.phase⟩,⟨4,.phase⟩,⟨5,.phase⟩,⟨6,.phase⟩,⟨7,.phase⟩,⟨8,.phase⟩,⟨9,.phase⟩,⟨10,.phase⟩,⟨11,.phase⟩,⟨12,.phase⟩,⟨13,.phase⟩,⟨14,.phase⟩,⟨15,.phase⟩,⟨16,.phase⟩,⟨17,.phase⟩,⟨18,.phase⟩,⟨19,.phase⟩,⟨20,.phase⟩],guard:=none}
open Go.RowKit
set_option linter.unusedVariables false
abbrev NdS6 (ka kb:Nat) (x:Wt.Nd) (W:World):Prop :=
 W.cell? ⟨ka,8,none⟩=some (.string x.nm)∧W.cell? ⟨ka,9,none⟩=some (.int .i64 x.ar)∧W.frozen? ⟨kb,8,none⟩=false∧W.frozen? ⟨kb,9,none⟩=false
theorem NdS6_mk {ka kb:Nat} {x y:Wt.Nd} {W:World} (h0:AtL W ka (nd20 x)) (h1:AtL W kb (nd20 y)):NdS6 ka kb x W :=
 ⟨h0.2.1 8 _ rfl,h0.2.1 9 _ rfl,h1.2.2 8 (by show 8<20;decide),h1.2.2 9 (by show 9<20;decide)⟩
theorem NdS6_set {ka kb:Nat} {x:Wt.Nd} {W:World} (h:NdS6 ka kb x W) (hne:kb ≠ ka) (j:Nat) (u:Value):NdS6 ka kb x (W.setCell ⟨kb,j,none⟩ u):=by
 obtain ⟨h8,h9,g8,g9⟩:=h;refine ⟨?_,?_,?_,?_⟩;any_goals rw [World.cell?_setCell_far _ _ _ _ (by simpa using hne)];assumption
 all_goals rw [World.frozen?_setCell];assumption
theorem tright_6 (x:Wt.Nd) (w:World) (hk:x.k=6) (hs:x.nm.size≤9223372036854775807) :
  Calls Tryz.prog 53 #[ndV x] w fun e w'=>e=.returned (.bool ((Wt.fnNm x.nm && decide (0≤x.ar) && decide (x.ar≤30)) && eqN x ⟨6,Wt.v0,0,x.nm,x.ar,Wt.r0,Wt.r0⟩))∧Below w.heap.size w w':=by
 have C:∀ w:World,Calls Tryz.prog 84 #[.string x.nm] w fun e w'=>e=.returned (.bool (Wt.fnNm x.nm))∧Below w.heap.size w w':=fun w=>(tfn_any x.nm w hs).mono fun e w' h=>⟨h.1,h.2 ▸ Below.refl _ _⟩
 have hq:∀ w:World,(binOp .eql 45 (.agg (nd20 x).toArray) (.agg (nd20 ⟨6,Wt.v0,0,x.nm,x.ar,Wt.r0,Wt.r0⟩).toArray)).run Tryz.prog w=.ok (.bool (eqN x ⟨6,Wt.v0,0,x.nm,x.ar,Wt.r0,Wt.r0⟩)) w:=fun w=>eqN_run x ⟨6,Wt.v0,0,x.nm,x.ar,Wt.r0,Wt.r0⟩ w
 generalize eqN x ⟨6,Wt.v0,0,x.nm,x.ar,Wt.r0,Wt.r0⟩=R at *;generalize Wt.fnNm x.nm=q at *;have pA0:AtL (two w x) w.heap.size (nd20 x):=(AtL.new0 w _ _).alloc _;have pO0:AtL (two w x) (w.heap.size+1) (nd20 (bare 0)):=AtL.new1 w _ _ _;have hth:World.there (two w x) (w.heap.size+1) 0 (nd20 (bare 6)).toArray.size:=pO0.there;have hne:w.heap.size+1 ≠ w.heap.size:=by omega
 have pA:=pA0.farAll hne 0 (nd20 (bare 6));have pO:AtL ((two w x).setCells (w.heap.size+1) 0 (nd20 (bare 6))) (w.heap.size+1) (nd20 (bare 6)):=pO0.setAll rfl;have hBa:Below w.heap.size w ((two w x).setCells (w.heap.size+1) 0 (nd20 (bare 6))):=bset (ball (ball (Below.refl _ w) _) _) (Nat.le_succ _) _ 0;clear pA0 pO0;have n0:(nd20 x)[0]? = some (.int .i64 6):=by rw [←hk];rfl
 have a0:World.cell? ((two w x).setCells (w.heap.size+1) 0 (nd20 (bare 6))) ⟨w.heap.size,0,none⟩=some (.int .i64 6):=pA.2.1 0 _ n0;show Calls _ _ #[.agg (nd20 x).toArray] _ _
 cases q
 ·go_enter Tryz.func53,Tryz.ntmps53;go_upto_region 1 with fail
  go_upto_region 2 with ((with_reducible refine wpList_store_mid ?_ 45 (.tmp 3) (.tmp 9) ?_ (w.heap.size+1) 0 (nd20 (bare 6)).toArray ?_ ?_ ?_ ?_ ?_ ?_);rfl;rfl;rfl;rfl;exact hth;kernel_rfl;exact one20 _)
  generalize (two w x).setCells (w.heap.size+1) 0 (nd20 (bare 6))=W0 at *;clear hth;go_upto_region 14 with fail
  refine wp_region_held_drew (S:=NdS6 w.heap.size (w.heap.size+1) x) (by kernel_rfl) (NdS6_mk (AtL.drew pA) (AtL.drew pO)) (fun hHeld=>?_);refine tkQ 0 z5n0 ?_;try simp only [Act.put,lA,lZ,lS]
  refine tkQ 1 z5n1 ?_;try simp only [Act.put,lA,lZ,lS]
  refine tkQ 2 z5n2 ?_;try simp only [Act.put,lA,lZ,lS]
  refine tkQ 3 z5n3 ?_;try simp only [Act.put,lA,lZ,lS]
  refine tkQ 4 z5n4 ?_;try simp only [Act.put,lA,lZ,lS]
  refine tkQ 5 z5n5 ?_;try simp only [Act.put,lA,lZ,lS]
  refine tkQ 17 z5n6 ?_;try simp only [Act.put,lA,lZ,lS]
  refine wpAnyH_ready (rs:=[6]) (by kernel_rfl) (by simp) ?_;refine AllReadyH.cons (o:=z5n7) rfl (fun K hK=>?_) AllReadyH.nil;go_simp
  refine (C _).mono ?_;rintro e w1 ⟨rfl,hb⟩;have pA1:=AtL.below hb (AtL.drew pA);have pO1:=AtL.below hb (AtL.drew pO);have hB1:=below_end hBa.drew hb;clear hb;go_wp2_with fail
  refine hK.out _ _ (NdS6_mk pA1 pO1) (fun hHeld=>?_);clear hK K;try simp only [Act.put,lA,lZ,lS]
  refine tkQ 7 z5n8 ?_;try simp only [Act.put,lA,lZ,lS]
  refine tnQ 8 z5n9 ?_;try simp only [Act.put,lA,lZ,lS]
  refine tnQ 9 z5n10 ?_;try simp only [Act.put,lA,lZ,lS]
  refine tnQ 10 z5n11 ?_;try simp only [Act.put,lA,lZ,lS]
  refine tkQ 11 z5n12 ?_;try simp only [Act.put,lA,lZ,lS]
  refine tkQ 12 z5n13 ?_;try simp only [Act.put,lA,lZ,lS]
  refine tnQ 13 z5n14 ?_;try simp only [Act.put,lA,lZ,lS]
  refine tnQ 14 z5n15 ?_;try simp only [Act.put,lA,lZ,lS]
  refine tnQ 15 z5n16 ?_;try simp only [Act.put,lA,lZ,lS]
  refine tkQ 16 z5n17 ?_;try simp only [Act.put,lA,lZ,lS]
  refine wpAnyH_ready (rs:=[18]) (by kernel_rfl) (by simp) ?_;refine AllReadyH.cons (o:=z5n18) rfl (fun K hK=>?_) AllReadyH.nil;have o8:=pO1.2.1 8 _ rfl;have o9:=pO1.2.1 9 _ rfl;obtain ⟨_,_,g8,g9⟩:=hHeld;go_simp
  refine hK.out _ _ ((NdS6_set (NdS6_mk pA1 pO1) (by omega) _ _)) (fun hHeld=>?_);clear hK K;try simp only [Act.put,lA,lZ,lS]
  refine tkQ 19 z5n19 ?_;try simp only [Act.put,lA,lZ,lS]
  refine wpAnyH_ready (rs:=[20]) (by kernel_rfl) (by simp) ?_;refine AllReadyH.cons (o:=z5n20) rfl (fun K hK=>?_) AllReadyH.nil;clear o8 o9 g8 g9;have o8:=(pO1.set 8 (.string x.nm)).2.1 8 _ rfl;have o9:=(pO1.set 8 (.string x.nm)).2.1 9 _ rfl;obtain ⟨_,_,g8,g9⟩:=hHeld;go_simp
  refine hK.out _ _ ((NdS6_set (NdS6_set (NdS6_mk pA1 pO1) (by omega) _ _) (by omega) _ _)) (fun hHeld=>?_);clear hK K;try simp only [Act.put,lA,lZ,lS]
  refine wpAnyH_ready (rs:=[21]) (by kernel_rfl) (by simp) ?_;refine AllReadyH.cons (o:=z5n21) rfl (fun K hK=>?_) AllReadyH.nil;go_simp
  refine hK.out _ _ (by assumption) (fun hHeld=>?_);clear hK K;try simp only [Act.put,lA,lZ,lS]
  refine wpAnyH_done (by kernel_rfl) ?_ _;clear o8 o9 g8 g9;have pA2:AtL ((w1.setCell ⟨w.heap.size+1,8,none⟩ (.string x.nm)).setCell ⟨w.heap.size+1,9,none⟩ (.int .i64 x.ar)) w.heap.size (nd20 x):=((pA1.far hne 8 (.string x.nm)).far hne 9 (.int .i64 x.ar))
  have pO2:AtL ((w1.setCell ⟨w.heap.size+1,8,none⟩ (.string x.nm)).setCell ⟨w.heap.size+1,9,none⟩ (.int .i64 x.ar)) (w.heap.size+1) (nd20 ⟨6,Wt.v0,0,x.nm,x.ar,Wt.r0,Wt.r0⟩):=((pO1.set 8 (.string x.nm)).set 9 (.int .i64 x.ar))
  have hB2:Below w.heap.size w ((w1.setCell ⟨w.heap.size+1,8,none⟩ (.string x.nm)).setCell ⟨w.heap.size+1,9,none⟩ (.int .i64 x.ar)):=by with_reducible repeat (first | exact hB1 | refine ball ?_ _ | refine Below.setCell ?_ (by first | (simp;done) | (simp;omega) | omega) _ | refine Below.drew ?_ | refine below_drewN ?_ _)
  clear pA1 pO1 hB1;generalize ((w1.setCell ⟨w.heap.size+1,8,none⟩ (.string x.nm)).setCell ⟨w.heap.size+1,9,none⟩ (.int .i64 x.ar))=W2 at *;have rA:=pA2.range;have rO:=pO2.range;clear pA2 pO2;go_wp2_with (first | ((with_reducible refine wpList_load_want ?_ 45 (.tmp 1) ?_ w.heap.size 0 ?_ (nd20 x) _ ?_ Tryz.underlying45 ?_ ?_ ?_);rfl;rfl;rfl;exact rA;rfl;kernel_rfl) | ((with_reducible refine wpList_load_want ?_ 45 (.tmp 3) ?_ (w.heap.size+1) 0 ?_ (nd20 ⟨6,Wt.v0,0,x.nm,x.ar,Wt.r0,Wt.r0⟩) _ ?_ Tryz.underlying45 ?_ ?_ ?_);rfl;rfl;rfl;exact rO;rfl;kernel_rfl))
  go_wp2;go_ret;exact ⟨by simp,hB2⟩
 by_cases h0:0≤x.ar
 ·by_cases h3:x.ar≤30
  ·go_enter Tryz.func53,Tryz.ntmps53;go_upto_region 1 with fail
   go_upto_region 2 with ((with_reducible refine wpList_store_mid ?_ 45 (.tmp 3) (.tmp 9) ?_ (w.heap.size+1) 0 (nd20 (bare 6)).toArray ?_ ?_ ?_ ?_ ?_ ?_);rfl;rfl;rfl;rfl;exact hth;kernel_rfl;exact one20 _)
   generalize (two w x).setCells (w.heap.size+1) 0 (nd20 (bare 6))=W0 at *;clear hth;go_upto_region 14 with fail
   refine wp_region_held_drew (S:=NdS6 w.heap.size (w.heap.size+1) x) (by kernel_rfl) (NdS6_mk (AtL.drew pA) (AtL.drew pO)) (fun hHeld=>?_);refine tkQ 0 z5n0 ?_;try simp only [Act.put,lA,lZ,lS]
   refine tkQ 1 z5n1 ?_;try simp only [Act.put,lA,lZ,lS]
   refine tkQ 2 z5n2 ?_;try simp only [Act.put,lA,lZ,lS]
   refine tkQ 3 z5n3 ?_;try simp only [Act.put,lA,lZ,lS]
   refine tkQ 4 z5n4 ?_;try simp only [Act.put,lA,lZ,lS]
   refine tkQ 5 z5n5 ?_;try simp only [Act.put,lA,lZ,lS]
   refine tkQ 17 z5n6 ?_;try simp only [Act.put,lA,lZ,lS]
   refine wpAnyH_ready (rs:=[6]) (by kernel_rfl) (by simp) ?_;refine AllReadyH.cons (o:=z5n7) rfl (fun K hK=>?_) AllReadyH.nil;go_simp
   refine (C _).mono ?_;rintro e w1 ⟨rfl,hb⟩;have pA1:=AtL.below hb (AtL.drew pA);have pO1:=AtL.below hb (AtL.drew pO);have hB1:=below_end hBa.drew hb;clear hb;go_wp2_with fail
   refine hK.out _ _ (NdS6_mk pA1 pO1) (fun hHeld=>?_);clear hK K;try simp only [Act.put,lA,lZ,lS]
   refine tkQ 7 z5n8 ?_;try simp only [Act.put,lA,lZ,lS]
   refine tkQ 8 z5n9 ?_;try simp only [Act.put,lA,lZ,lS]
   refine tkQ 9 z5n10 ?_;try simp only [Act.put,lA,lZ,lS]
   refine tkQ 10 z5n11 ?_;try simp only [Act.put,lA,lZ,lS]
   refine tkQ 11 z5n12 ?_;try simp only [Act.put,lA,lZ,lS]
   refine tkQ 12 z5n13 ?_;try simp only [Act.put,lA,lZ,lS]
   refine tkQ 13 z5n14 ?_;try simp only [Act.put,lA,lZ,lS]
   refine tkQ 14 z5n15 ?_;try simp only [Act.put,lA,lZ,lS]
   refine tkQ 15 z5n16 ?_;try simp only [Act.put,lA,lZ,lS]
   refine tkQ 16 z5n17 ?_;try simp only [Act.put,lA,lZ,lS]
   refine wpAnyH_ready (rs:=[18]) (by kernel_rfl) (by simp) ?_;refine AllReadyH.cons (o:=z5n18) rfl (fun K hK=>?_) AllReadyH.nil;have o8:=pO1.2.1 8 _ rfl;have o9:=pO1.2.1 9 _ rfl;obtain ⟨_,_,g8,g9⟩:=hHeld;go_simp
   refine hK.out _ _ ((NdS6_set (NdS6_mk pA1 pO1) (by omega) _ _)) (fun hHeld=>?_);clear hK K;try simp only [Act.put,lA,lZ,lS]
   refine tkQ 19 z5n19 ?_;try simp only [Act.put,lA,lZ,lS]
   refine wpAnyH_ready (rs:=[20]) (by kernel_rfl) (by simp) ?_;refine AllReadyH.cons (o:=z5n20) rfl (fun K hK=>?_) AllReadyH.nil;clear o8 o9 g8 g9;have o8:=(pO1.set 8 (.string x.nm)).2.1 8 _ rfl;have o9:=(pO1.set 8 (.string x.nm)).2.1 9 _ rfl;obtain ⟨_,_,g8,g9⟩:=hHeld;go_simp
   refine hK.out _ _ ((NdS6_set (NdS6_set (NdS6_mk pA1 pO1) (by omega) _ _) (by omega) _ _)) (fun hHeld=>?_);clear hK K;try simp only [Act.put,lA,lZ,lS]
   refine wpAnyH_ready (rs:=[21]) (by kernel_rfl) (by simp) ?_;refine AllReadyH.cons (o:=z5n21) rfl (fun K hK=>?_) AllReadyH.nil;go_simp
   refine hK.out _ _ (by assumption) (fun hHeld=>?_);clear hK K;try simp only [Act.put,lA,lZ,lS]
   refine wpAnyH_done (by kernel_rfl) ?_ _;clear o8 o9 g8 g9;have pA2:AtL ((w1.setCell ⟨w.heap.size+1,8,none⟩ (.string x.nm)).setCell ⟨w.heap.size+1,9,none⟩ (.int .i64 x.ar)) w.heap.size (nd20 x):=((pA1.far hne 8 (.string x.nm)).far hne 9 (.int .i64 x.ar))
   have pO2:AtL ((w1.setCell ⟨w.heap.size+1,8,none⟩ (.string x.nm)).setCell ⟨w.heap.size+1,9,none⟩ (.int .i64 x.ar)) (w.heap.size+1) (nd20 ⟨6,Wt.v0,0,x.nm,x.ar,Wt.r0,Wt.r0⟩):=((pO1.set 8 (.string x.nm)).set 9 (.int .i64 x.ar))
   have hB2:Below w.heap.size w ((w1.setCell ⟨w.heap.size+1,8,none⟩ (.string x.nm)).setCell ⟨w.heap.size+1,9,none⟩ (.int .i64 x.ar)):=by with_reducible repeat (first | exact hB1 | refine ball ?_ _ | refine Below.setCell ?_ (by first | (simp;done) | (simp;omega) | omega) _ | refine Below.drew ?_ | refine below_drewN ?_ _)
   clear pA1 pO1 hB1;generalize ((w1.setCell ⟨w.heap.size+1,8,none⟩ (.string x.nm)).setCell ⟨w.heap.size+1,9,none⟩ (.int .i64 x.ar))=W2 at *;have rA:=pA2.range;have rO:=pO2.range;clear pA2 pO2;go_wp2_with (first | ((with_reducible refine wpList_load_want ?_ 45 (.tmp 1) ?_ w.heap.size 0 ?_ (nd20 x) _ ?_ Tryz.underlying45 ?_ ?_ ?_);rfl;rfl;rfl;exact rA;rfl;kernel_rfl) | ((with_reducible refine wpList_load_want ?_ 45 (.tmp 3) ?_ (w.heap.size+1) 0 ?_ (nd20 ⟨6,Wt.v0,0,x.nm,x.ar,Wt.r0,Wt.r0⟩) _ ?_ Tryz.underlying45 ?_ ?_ ?_);rfl;rfl;rfl;exact rO;rfl;kernel_rfl))
   go_wp2;go_ret;exact ⟨by first | (simp [h0,h3];done) | (simp [h0];omega),hB2⟩
  ·go_enter Tryz.func53,Tryz.ntmps53;go_upto_region 1 with fail
   go_upto_region 2 with ((with_reducible refine wpList_store_mid ?_ 45 (.tmp 3) (.tmp 9) ?_ (w.heap.size+1) 0 (nd20 (bare 6)).toArray ?_ ?_ ?_ ?_ ?_ ?_);rfl;rfl;rfl;rfl;exact hth;kernel_rfl;exact one20 _)
   generalize (two w x).setCells (w.heap.size+1) 0 (nd20 (bare 6))=W0 at *;clear hth;go_upto_region 14 with fail
   refine wp_region_held_drew (S:=NdS6 w.heap.size (w.heap.size+1) x) (by kernel_rfl) (NdS6_mk (AtL.drew pA) (AtL.drew pO)) (fun hHeld=>?_);refine tkQ 0 z5n0 ?_;try simp only [Act.put,lA,lZ,lS]
   refine tkQ 1 z5n1 ?_;try simp only [Act.put,lA,lZ,lS]
   refine tkQ 2 z5n2 ?_;try simp only [Act.put,lA,lZ,lS]
   refine tkQ 3 z5n3 ?_;try simp only [Act.put,lA,lZ,lS]
   refine tkQ 4 z5n4 ?_;try simp only [Act.put,lA,lZ,lS]
   refine tkQ 5 z5n5 ?_;try simp only [Act.put,lA,lZ,lS]
   refine tkQ 17 z5n6 ?_;try simp only [Act.put,lA,lZ,lS]
   refine wpAnyH_ready (rs:=[6]) (by kernel_rfl) (by simp) ?_;refine AllReadyH.cons (o:=z5n7) rfl (fun K hK=>?_) AllReadyH.nil;go_simp
   refine (C _).mono ?_;rintro e w1 ⟨rfl,hb⟩;have pA1:=AtL.below hb (AtL.drew pA);have pO1:=AtL.below hb (AtL.drew pO);have hB1:=below_end hBa.drew hb;clear hb;go_wp2_with fail
   refine hK.out _ _ (NdS6_mk pA1 pO1) (fun hHeld=>?_);clear hK K;try simp only [Act.put,lA,lZ,lS]
   refine tkQ 7 z5n8 ?_;try simp only [Act.put,lA,lZ,lS]
   refine tkQ 8 z5n9 ?_;try simp only [Act.put,lA,lZ,lS]
   refine tkQ 9 z5n10 ?_;try simp only [Act.put,lA,lZ,lS]
   refine tkQ 10 z5n11 ?_;try simp only [Act.put,lA,lZ,lS]
   refine tkQ 11 z5n12 ?_;try simp only [Act.put,lA,lZ,lS]
   refine tkQ 12 z5n13 ?_;try simp only [Act.put,lA,lZ,lS]
   refine tkQ 13 z5n14 ?_;try simp only [Act.put,lA,lZ,lS]
   refine tkQ 14 z5n15 ?_;try simp only [Act.put,lA,lZ,lS]
   refine tkQ 15 z5n16 ?_;try simp only [Act.put,lA,lZ,lS]
   refine tkQ 16 z5n17 ?_;try simp only [Act.put,lA,lZ,lS]
   refine wpAnyH_ready (rs:=[18]) (by kernel_rfl) (by simp) ?_;refine AllReadyH.cons (o:=z5n18) rfl (fun K hK=>?_) AllReadyH.nil;have o8:=pO1.2.1 8 _ rfl;have o9:=pO1.2.1 9 _ rfl;obtain ⟨_,_,g8,g9⟩:=hHeld;go_simp
   refine hK.out _ _ ((NdS6_set (NdS6_mk pA1 pO1) (by omega) _ _)) (fun hHeld=>?_);clear hK K;try simp only [Act.put,lA,lZ,lS]
   refine tkQ 19 z5n19 ?_;try simp only [Act.put,lA,lZ,lS]
   refine wpAnyH_ready (rs:=[20]) (by kernel_rfl) (by simp) ?_;refine AllReadyH.cons (o:=z5n20) rfl (fun K hK=>?_) AllReadyH.nil;clear o8 o9 g8 g9;have o8:=(pO1.set 8 (.string x.nm)).2.1 8 _ rfl;have o9:=(pO1.set 8 (.string x.nm)).2.1 9 _ rfl;obtain ⟨_,_,g8,g9⟩:=hHeld;go_simp
   refine hK.out _ _ ((NdS6_set (NdS6_set (NdS6_mk pA1 pO1) (by omega) _ _) (by omega) _ _)) (fun hHeld=>?_);clear hK K;try simp only [Act.put,lA,lZ,lS]
   refine wpAnyH_ready (rs:=[21]) (by kernel_rfl) (by simp) ?_;refine AllReadyH.cons (o:=z5n21) rfl (fun K hK=>?_) AllReadyH.nil;go_simp
   refine hK.out _ _ (by assumption) (fun hHeld=>?_);clear hK K;try simp only [Act.put,lA,lZ,lS]
   refine wpAnyH_done (by kernel_rfl) ?_ _;clear o8 o9 g8 g9;have pA2:AtL ((w1.setCell ⟨w.heap.size+1,8,none⟩ (.string x.nm)).setCell ⟨w.heap.size+1,9,none⟩ (.int .i64 x.ar)) w.heap.size (nd20 x):=((pA1.far hne 8 (.string x.nm)).far hne 9 (.int .i64 x.ar))
   have pO2:AtL ((w1.setCell ⟨w.heap.size+1,8,none⟩ (.string x.nm)).setCell ⟨w.heap.size+1,9,none⟩ (.int .i64 x.ar)) (w.heap.size+1) (nd20 ⟨6,Wt.v0,0,x.nm,x.ar,Wt.r0,Wt.r0⟩):=((pO1.set 8 (.string x.nm)).set 9 (.int .i64 x.ar))
   have hB2:Below w.heap.size w ((w1.setCell ⟨w.heap.size+1,8,none⟩ (.string x.nm)).setCell ⟨w.heap.size+1,9,none⟩ (.int .i64 x.ar)):=by with_reducible repeat (first | exact hB1 | refine ball ?_ _ | refine Below.setCell ?_ (by first | (simp;done) | (simp;omega) | omega) _ | refine Below.drew ?_ | refine below_drewN ?_ _)
   clear pA1 pO1 hB1;generalize ((w1.setCell ⟨w.heap.size+1,8,none⟩ (.string x.nm)).setCell ⟨w.heap.size+1,9,none⟩ (.int .i64 x.ar))=W2 at *;have rA:=pA2.range;have rO:=pO2.range;clear pA2 pO2;go_wp2_with (first | ((with_reducible refine wpList_load_want ?_ 45 (.tmp 1) ?_ w.heap.size 0 ?_ (nd20 x) _ ?_ Tryz.underlying45 ?_ ?_ ?_);rfl;rfl;rfl;exact rA;rfl;kernel_rfl) | ((with_reducible refine wpList_load_want ?_ 45 (.tmp 3) ?_ (w.heap.size+1) 0 ?_ (nd20 ⟨6,Wt.v0,0,x.nm,x.ar,Wt.r0,Wt.r0⟩) _ ?_ Tryz.underlying45 ?_ ?_ ?_);rfl;rfl;rfl;exact rO;rfl;kernel_rfl))
   go_wp2;go_ret;exact ⟨by first | (simp;done) | (simp;omega),hB2⟩
 ·have hd0:decide (0≤x.ar)=false:=decide_eq_false h0;go_enter Tryz.func53,Tryz.ntmps53;go_upto_region 1 with fail
  go_upto_region 2 with ((with_reducible refine wpList_store_mid ?_ 45 (.tmp 3) (.tmp 9) ?_ (w.heap.size+1) 0 (nd20 (bare 6)).toArray ?_ ?_ ?_ ?_ ?_ ?_);rfl;rfl;rfl;rfl;exact hth;kernel_rfl;exact one20 _)
  generalize (two w x).setCells (w.heap.size+1) 0 (nd20 (bare 6))=W0 at *;clear hth;go_upto_region 14 with fail
  refine wp_region_held_drew (S:=NdS6 w.heap.size (w.heap.size+1) x) (by kernel_rfl) (NdS6_mk (AtL.drew pA) (AtL.drew pO)) (fun hHeld=>?_);refine tkQ 0 z5n0 ?_;try simp only [Act.put,lA,lZ,lS]
  refine tkQ 1 z5n1 ?_;try simp only [Act.put,lA,lZ,lS]
  refine tkQ 2 z5n2 ?_;try simp only [Act.put,lA,lZ,lS]
  refine tkQ 3 z5n3 ?_;try simp only [Act.put,lA,lZ,lS]
  refine tkQ 4 z5n4 ?_;try simp only [Act.put,lA,lZ,lS]
  refine tkQ 5 z5n5 ?_;try simp only [Act.put,lA,lZ,lS]
  refine tkQ 17 z5n6 ?_;try simp only [Act.put,lA,lZ,lS]
  refine wpAnyH_ready (rs:=[6]) (by kernel_rfl) (by simp) ?_;refine AllReadyH.cons (o:=z5n7) rfl (fun K hK=>?_) AllReadyH.nil;go_simp
  refine (C _).mono ?_;rintro e w1 ⟨rfl,hb⟩;have pA1:=AtL.below hb (AtL.drew pA);have pO1:=AtL.below hb (AtL.drew pO);have hB1:=below_end hBa.drew hb;clear hb;go_wp2_with fail
  refine hK.out _ _ (NdS6_mk pA1 pO1) (fun hHeld=>?_);clear hK K;try simp only [Act.put,lA,lZ,lS]
  refine tkQ 7 z5n8 ?_;try simp only [Act.put,lA,lZ,lS]
  refine tkQ 8 z5n9 ?_;try simp only [Act.put,lA,lZ,lS]
  refine tkQ 9 z5n10 ?_;try simp only [Act.put,lA,lZ,lS]
  refine tkQ 10 z5n11 ?_;try simp only [Act.put,lA,lZ,lS]
  refine tkQ 11 z5n12 ?_;try simp only [Act.put,lA,lZ,lS]
  refine tkQ 12 z5n13 ?_;try simp only [Act.put,lA,lZ,lS]
  refine tnQ 13 z5n14 ?_;try simp only [Act.put,lA,lZ,lS]
  refine tnQ 14 z5n15 ?_;try simp only [Act.put,lA,lZ,lS]
  refine tnQ 15 z5n16 ?_;try simp only [Act.put,lA,lZ,lS]
  refine tkQ 16 z5n17 ?_;try simp only [Act.put,lA,lZ,lS]
  refine wpAnyH_ready (rs:=[18]) (by kernel_rfl) (by simp) ?_;refine AllReadyH.cons (o:=z5n18) rfl (fun K hK=>?_) AllReadyH.nil;have o8:=pO1.2.1 8 _ rfl;have o9:=pO1.2.1 9 _ rfl;obtain ⟨_,_,g8,g9⟩:=hHeld;go_simp
  refine hK.out _ _ ((NdS6_set (NdS6_mk pA1 pO1) (by omega) _ _)) (fun hHeld=>?_);clear hK K;try simp only [Act.put,lA,lZ,lS]
  refine tkQ 19 z5n19 ?_;try simp only [Act.put,lA,lZ,lS]
  refine wpAnyH_ready (rs:=[20]) (by kernel_rfl) (by simp) ?_;refine AllReadyH.cons (o:=z5n20) rfl (fun K hK=>?_) AllReadyH.nil;clear o8 o9 g8 g9;have o8:=(pO1.set 8 (.string x.nm)).2.1 8 _ rfl;have o9:=(pO1.set 8 (.string x.nm)).2.1 9 _ rfl;obtain ⟨_,_,g8,g9⟩:=hHeld;go_simp
  refine hK.out _ _ ((NdS6_set (NdS6_set (NdS6_mk pA1 pO1) (by omega) _ _) (by omega) _ _)) (fun hHeld=>?_);clear hK K;try simp only [Act.put,lA,lZ,lS]
  refine wpAnyH_ready (rs:=[21]) (by kernel_rfl) (by simp) ?_;refine AllReadyH.cons (o:=z5n21) rfl (fun K hK=>?_) AllReadyH.nil;go_simp
  refine hK.out _ _ (by assumption) (fun hHeld=>?_);clear hK K;try simp only [Act.put,lA,lZ,lS]
  refine wpAnyH_done (by kernel_rfl) ?_ _;clear o8 o9 g8 g9;have pA2:AtL ((w1.setCell ⟨w.heap.size+1,8,none⟩ (.string x.nm)).setCell ⟨w.heap.size+1,9,none⟩ (.int .i64 x.ar)) w.heap.size (nd20 x):=((pA1.far hne 8 (.string x.nm)).far hne 9 (.int .i64 x.ar))
  have pO2:AtL ((w1.setCell ⟨w.heap.size+1,8,none⟩ (.string x.nm)).setCell ⟨w.heap.size+1,9,none⟩ (.int .i64 x.ar)) (w.heap.size+1) (nd20 ⟨6,Wt.v0,0,x.nm,x.ar,Wt.r0,Wt.r0⟩):=((pO1.set 8 (.string x.nm)).set 9 (.int .i64 x.ar))
  have hB2:Below w.heap.size w ((w1.setCell ⟨w.heap.size+1,8,none⟩ (.string x.nm)).setCell ⟨w.heap.size+1,9,none⟩ (.int .i64 x.ar)):=by with_reducible repeat (first | exact hB1 | refine ball ?_ _ | refine Below.setCell ?_ (by first | (simp;done) | (simp;omega) | omega) _ | refine Below.drew ?_ | refine below_drewN ?_ _)
  clear pA1 pO1 hB1;generalize ((w1.setCell ⟨w.heap.size+1,8,none⟩ (.string x.nm)).setCell ⟨w.heap.size+1,9,none⟩ (.int .i64 x.ar))=W2 at *;have rA:=pA2.range;have rO:=pO2.range;clear pA2 pO2;go_wp2_with (first | ((with_reducible refine wpList_load_want ?_ 45 (.tmp 1) ?_ w.heap.size 0 ?_ (nd20 x) _ ?_ Tryz.underlying45 ?_ ?_ ?_);rfl;rfl;rfl;exact rA;rfl;kernel_rfl) | ((with_reducible refine wpList_load_want ?_ 45 (.tmp 3) ?_ (w.heap.size+1) 0 ?_ (nd20 ⟨6,Wt.v0,0,x.nm,x.ar,Wt.r0,Wt.r0⟩) _ ?_ Tryz.underlying45 ?_ ?_ ?_);rfl;rfl;rfl;exact rO;rfl;kernel_rfl))
  go_wp2;go_ret;exact ⟨by simp [hd0],hB2⟩
end Go.Proofs.YtlggnpohhahdlaaGreatDoor
