/- TRightA. -/
import Derived.Test.YtedifblompcdkaaGreatDoorQ04
set_option maxHeartbeats 4000000
set_option maxRecDepth 100000
namespace Go.Proofs.YtedifblompcdkaaGreatDoor
open Tryz
open Go.RowKit
set_option linter.unusedVariables false
variable {ka kb:Nat} {x y:Wt.Nd} {W:World}
theorem zAB {P:Program} {ops:Array Oper} {rest:List Oper} {op:Oper} {a:Act} {w:World} {Q:Exit->Act->World->Prop} (hw:Region.wanted op (yielded ops a.tmps)=true) (ty:TypeId) (x:Operand) (ho:op.op=.load ty x)
  (b o:Nat) (hx:a.eval x=.pointer (some ⟨b,o,none⟩)) (cs:List Value) (d:TypeDesc) (hc:w.rangeAt b o cs)
  (hu:P.underlying ty=some d) (hd:d.isRow=true) (hi:(P.info? ty).map (·.size)=some cs.length)
  (h:wpList P ops Q rest (a.put op.dst (.agg cs.toArray)) w):wpList P ops Q (op::rest) a w :=
 BigFrame.wpList_want hw λ_ hK=>wp_load_mid ty x ho b o hx cs d hc hu hd hi (hK _ _ h)
def bare (k:Int):Wt.Nd:=⟨k,Wt.v0,0,⟨#[]⟩,0,Wt.r0,Wt.r0⟩
abbrev two (w:World) (x:Wt.Nd):World:=(w.alloc (.cells (zAK x).toArray 102)).alloc (.cells #[.int .i64 0,.int .i64 0,.int .i64 0,.int .i64 0,.string ⟨#[]⟩,.bool false,.int .i64 0,.int .i64 0,.string ⟨#[]⟩,.int .i64 0,.string ⟨#[]⟩,.int .i64 0,.int .i64 0,.bool false,.bool false,.string ⟨#[]⟩,.int .i64 0,.int .i64 0,.bool false,.bool false] 102)
theorem zKa (x:Wt.Nd):∀ v ∈ zAK x,v.oneCell'=true:=by
 intro v hv;simp only [zAK,List.mem_cons,List.not_mem_nil,or_false] at hv;rcases hv with rfl | rfl | rfl | rfl | rfl | rfl | rfl | rfl | rfl | rfl | rfl | rfl | rfl | rfl | rfl | rfl | rfl | rfl | rfl | rfl <;> rfl
theorem zCT (x:Wt.Nd):(zAK x).toArray.all (·.oneCell')=true:=all_oneCell_toArray (zKa x)
abbrev zQX (ka kb:Nat) (x:Wt.Nd) (W:World):Prop :=
 W.cell? ⟨ka,1,none⟩=some (.int .i64 x.v.k)/\W.cell? ⟨ka,2,none⟩=some (.int .i64 x.v.n)/\W.cell? ⟨ka,3,none⟩=some (.int .i64 x.v.d)/\W.cell? ⟨ka,4,none⟩=some (.string x.v.t)/\W.cell? ⟨ka,5,none⟩=some (.bool x.v.b)/\W.cell? ⟨ka,6,none⟩=some (.int .i64 x.v.f)/\W.frozen? ⟨kb,1,none⟩=false/\W.frozen? ⟨kb,2,none⟩=false/\W.frozen? ⟨kb,3,none⟩=false/\W.frozen? ⟨kb,4,none⟩=false/\W.frozen? ⟨kb,5,none⟩=false/\W.frozen? ⟨kb,6,none⟩=false
theorem zFq (h0:AtL W ka (zAK x)) (h1:AtL W kb (zAK y)):zQX ka kb x W :=
 ⟨h0.2.1 1 _ rfl,h0.2.1 2 _ rfl,h0.2.1 3 _ rfl,h0.2.1 4 _ rfl,h0.2.1 5 _ rfl,h0.2.1 6 _ rfl,h1.2.2 1 (by show 1<20;decide),h1.2.2 2 (by show 2<20;decide),h1.2.2 3 (by show 3<20;decide),h1.2.2 4 (by show 4<20;decide),h1.2.2 5 (by show 5<20;decide),h1.2.2 6 (by show 6<20;decide)⟩
theorem zBc (h:zQX ka kb x W) (hne:kb ≠ ka) (j:Nat) (u:Value):zQX ka kb x (W.setCell ⟨kb,j,none⟩ u):=by
 obtain ⟨h1,h2,h3,h4,h5,h6,g1,g2,g3,g4,g5,g6⟩:=h;refine ⟨?_,?_,?_,?_,?_,?_,?_,?_,?_,?_,?_,?_⟩;any_goals rw [World.cell?_setCell_far _ _ _ _ (by simpa using hne)];assumption
 all_goals rw [World.frozen?_setCell];assumption
theorem zMg (x:Wt.Nd) (w:World) (hk:x.k=1) (h1:-9223372036854775808<=x.v.n) (h2:x.v.n<=9223372036854775807) (h3:-9223372036854775808<=x.v.d) (h4:x.v.d<=9223372036854775807) (hs:x.v.t.size<=9223372036854775807) :
  CR 91 #[ndV x] w (.bool (Wt.vlOk x.v && eqN x ⟨1,x.v,0,⟨#[]⟩,0,Wt.r0,Wt.r0⟩)):=by
 have C:=(λw=>zN6 x.v w h1 h2 h3 h4 hs:∀ w:World,CR 118 #[.agg #[.int .i64 x.v.k,.int .i64 x.v.n,.int .i64 x.v.d,.string x.v.t,.bool x.v.b,.int .i64 x.v.f]] w (.bool (Wt.vlOk x.v)))
 have hq:∀ w:World,(binOp .eql 102 (.agg (zAK x).toArray) (.agg (zAK ⟨1,x.v,0,⟨#[]⟩,0,Wt.r0,Wt.r0⟩).toArray)).run prog w=.ok (.bool (eqN x ⟨1,x.v,0,⟨#[]⟩,0,Wt.r0,Wt.r0⟩)) w:=λw=>zDX x ⟨1,x.v,0,⟨#[]⟩,0,Wt.r0,Wt.r0⟩ w
 generalize eqN x ⟨1,x.v,0,⟨#[]⟩,0,Wt.r0,Wt.r0⟩=R at *;generalize Wt.vlOk x.v=q at *;have pA0:AtL (two w x) w.heap.size (zAK x):=(AtL.new0 w _ _).alloc _;have pO0:AtL (two w x) (w.heap.size+1) (zAK (bare 0)):=AtL.new1 w _ _ _;have hth:World.there (two w x) (w.heap.size+1) 0 (zAK (bare 1)).toArray.size:=pO0.there;have hne:w.heap.size+1 ≠ w.heap.size:=by omega
 have pA:=pA0.farAll hne 0 (zAK (bare 1));have pO:AtL ((two w x).setCells (w.heap.size+1) 0 (zAK (bare 1))) (w.heap.size+1) (zAK (bare 1)):=pO0.setAll rfl;have hBa:Below w.heap.size w ((two w x).setCells (w.heap.size+1) 0 (zAK (bare 1))):=zBJ (zAH (zAH (Below.refl _ w) _) _) (Nat.le_succ _) _ 0;clear pA0 pO0;have n0:(zAK x)[0]? = some (.int .i64 1):=by rw [<-hk];rfl
 have a0:World.cell? ((two w x).setCells (w.heap.size+1) 0 (zAK (bare 1))) ⟨w.heap.size,0,none⟩=some (.int .i64 1):=pA.2.1 0 _ n0;show Calls _ _ #[.agg (zAK x).toArray] _ _
 have hS:zQX w.heap.size (w.heap.size+1) x ((two w x).setCells (w.heap.size+1) 0 (zAK (bare 1))):=zFq pA pO;cases q
 all_goals
  go_enter func91,ntmps91;go_upto_region 1 with fail
  go_upto_region 2 with ((with_reducible refine wpList_store_mid ?_ 102 (.tmp 3) (.tmp 9) ?_ (w.heap.size+1) 0 (zAK (bare 1)).toArray ?_ ?_ ?_ ?_ ?_ ?_);rfl;rfl;rfl;rfl;exact hth;kernel_rfl;exact zCT _)
  generalize (two w x).setCells (w.heap.size+1) 0 (zAK (bare 1))=W0 at *;clear hth;go_upto_region 4 with fail
  go_region_held3 (zQX w.heap.size (w.heap.size+1) x)
   (with_reducible first | exact hS | assumption | exact zFq pA1 pO1 | exact (zBc (zBc (zBc (zBc (zBc (zBc (by assumption) (by omega) _ _) (by omega) _ _) (by omega) _ _) (by omega) _ _) (by omega) _ _) (by omega) _ _) | exact zFq (AtL.drew pA) (AtL.drew pO))
   (first | (go_at_call 118;refine (C _).mono ?_;rintro e w1 ⟨rfl,hb⟩;have pA1:=AtL.below hb (AtL.drew pA);have pO1:=AtL.below hb (AtL.drew pO);have o1:=pO1.2.1 1 _ rfl;have o2:=pO1.2.1 2 _ rfl;have o3:=pO1.2.1 3 _ rfl;have o4:=pO1.2.1 4 _ rfl;have o5:=pO1.2.1 5 _ rfl;have o6:=pO1.2.1 6 _ rfl;have hB1:=zAA hBa.drew hb))
  all_goals
   clear pA pO hS C hBa o1 o2 o3 o4 o5 o6 a0;have pA2:AtL ((((((w1.setCell ⟨w.heap.size+1,1,none⟩ (.int .i64 x.v.k)).setCell ⟨w.heap.size+1,2,none⟩ (.int .i64 x.v.n)).setCell ⟨w.heap.size+1,3,none⟩ (.int .i64 x.v.d)).setCell ⟨w.heap.size+1,4,none⟩ (.string x.v.t)).setCell ⟨w.heap.size+1,5,none⟩ (.bool x.v.b)).setCell ⟨w.heap.size+1,6,none⟩ (.int .i64 x.v.f)) w.heap.size (zAK x):=((((((pA1.far hne 1 (.int .i64 x.v.k)).far hne 2 (.int .i64 x.v.n)).far hne 3 (.int .i64 x.v.d)).far hne 4 (.string x.v.t)).far hne 5 (.bool x.v.b)).far hne 6 (.int .i64 x.v.f))
   have pO2:AtL ((((((w1.setCell ⟨w.heap.size+1,1,none⟩ (.int .i64 x.v.k)).setCell ⟨w.heap.size+1,2,none⟩ (.int .i64 x.v.n)).setCell ⟨w.heap.size+1,3,none⟩ (.int .i64 x.v.d)).setCell ⟨w.heap.size+1,4,none⟩ (.string x.v.t)).setCell ⟨w.heap.size+1,5,none⟩ (.bool x.v.b)).setCell ⟨w.heap.size+1,6,none⟩ (.int .i64 x.v.f)) (w.heap.size+1) (zAK ⟨1,x.v,0,⟨#[]⟩,0,Wt.r0,Wt.r0⟩):=((((((pO1.set 1 (.int .i64 x.v.k)).set 2 (.int .i64 x.v.n)).set 3 (.int .i64 x.v.d)).set 4 (.string x.v.t)).set 5 (.bool x.v.b)).set 6 (.int .i64 x.v.f))
   have hB2:Below w.heap.size w ((((((w1.setCell ⟨w.heap.size+1,1,none⟩ (.int .i64 x.v.k)).setCell ⟨w.heap.size+1,2,none⟩ (.int .i64 x.v.n)).setCell ⟨w.heap.size+1,3,none⟩ (.int .i64 x.v.d)).setCell ⟨w.heap.size+1,4,none⟩ (.string x.v.t)).setCell ⟨w.heap.size+1,5,none⟩ (.bool x.v.b)).setCell ⟨w.heap.size+1,6,none⟩ (.int .i64 x.v.f)):=(clB hB1)
   clear pA1 pO1 hB1;generalize ((((((w1.setCell ⟨w.heap.size+1,1,none⟩ (.int .i64 x.v.k)).setCell ⟨w.heap.size+1,2,none⟩ (.int .i64 x.v.n)).setCell ⟨w.heap.size+1,3,none⟩ (.int .i64 x.v.d)).setCell ⟨w.heap.size+1,4,none⟩ (.string x.v.t)).setCell ⟨w.heap.size+1,5,none⟩ (.bool x.v.b)).setCell ⟨w.heap.size+1,6,none⟩ (.int .i64 x.v.f))=W2 at *;have rA:=pA2.range;have rO:=pO2.range;clear pA2 pO2;go_wp2_with (first | ((with_reducible refine zAB ?_ 102 (.tmp 1) ?_ w.heap.size 0 ?_ (zAK x) _ ?_ underlying102 ?_ ?_ ?_);rfl;rfl;rfl;exact rA;rfl;kernel_rfl) | ((with_reducible refine zAB ?_ 102 (.tmp 3) ?_ (w.heap.size+1) 0 ?_ (zAK ⟨1,x.v,0,⟨#[]⟩,0,Wt.r0,Wt.r0⟩) _ ?_ underlying102 ?_ ?_ ?_);rfl;rfl;rfl;exact rO;rfl;kernel_rfl))
   go_wp2;go_ret;exact ⟨by simp,hB2⟩
abbrev zQ4 (ka kb:Nat) (x:Wt.Nd) (W:World):Prop :=
 W.cell? ⟨ka,10,none⟩=some (.string x.a.s)/\W.cell? ⟨ka,11,none⟩=some (.int .i64 x.a.r)/\W.cell? ⟨ka,12,none⟩=some (.int .i64 x.a.c)/\W.cell? ⟨ka,13,none⟩=some (.bool x.a.fr)/\W.cell? ⟨ka,14,none⟩=some (.bool x.a.fc)/\W.frozen? ⟨kb,10,none⟩=false/\W.frozen? ⟨kb,11,none⟩=false/\W.frozen? ⟨kb,12,none⟩=false/\W.frozen? ⟨kb,13,none⟩=false/\W.frozen? ⟨kb,14,none⟩=false
theorem zGA (h0:AtL W ka (zAK x)) (h1:AtL W kb (zAK y)):zQ4 ka kb x W :=
 ⟨h0.2.1 10 _ rfl,h0.2.1 11 _ rfl,h0.2.1 12 _ rfl,h0.2.1 13 _ rfl,h0.2.1 14 _ rfl,h1.2.2 10 (by show 10<20;decide),h1.2.2 11 (by show 11<20;decide),h1.2.2 12 (by show 12<20;decide),h1.2.2 13 (by show 13<20;decide),h1.2.2 14 (by show 14<20;decide)⟩
theorem zBw (h:zQ4 ka kb x W) (hne:kb ≠ ka) (j:Nat) (u:Value):zQ4 ka kb x (W.setCell ⟨kb,j,none⟩ u):=by
 obtain ⟨h10,h11,h12,h13,h14,g10,g11,g12,g13,g14⟩:=h;refine ⟨?_,?_,?_,?_,?_,?_,?_,?_,?_,?_⟩;any_goals rw [World.cell?_setCell_far _ _ _ _ (by simpa using hne)];assumption
 all_goals rw [World.frozen?_setCell];assumption
theorem zL7 (x:Wt.Nd) (w:World) (hk:x.k=2) (hs:x.a.s.size<=9223372036854775807) :
  CR 91 #[ndV x] w (.bool (Wt.rfOk x.a && eqN x ⟨2,Wt.v0,0,⟨#[]⟩,0,x.a,Wt.r0⟩)):=by
 have C:=(λw=>zF8 x.a w hs:∀ w:World,CR 119 #[.agg #[.string x.a.s,.int .i64 x.a.r,.int .i64 x.a.c,.bool x.a.fr,.bool x.a.fc]] w (.bool (Wt.rfOk x.a)))
 have hq:∀ w:World,(binOp .eql 102 (.agg (zAK x).toArray) (.agg (zAK ⟨2,Wt.v0,0,⟨#[]⟩,0,x.a,Wt.r0⟩).toArray)).run prog w=.ok (.bool (eqN x ⟨2,Wt.v0,0,⟨#[]⟩,0,x.a,Wt.r0⟩)) w:=λw=>zDX x ⟨2,Wt.v0,0,⟨#[]⟩,0,x.a,Wt.r0⟩ w
 generalize eqN x ⟨2,Wt.v0,0,⟨#[]⟩,0,x.a,Wt.r0⟩=R at *;generalize Wt.rfOk x.a=q at *;have pA0:AtL (two w x) w.heap.size (zAK x):=(AtL.new0 w _ _).alloc _;have pO0:AtL (two w x) (w.heap.size+1) (zAK (bare 0)):=AtL.new1 w _ _ _;have hth:World.there (two w x) (w.heap.size+1) 0 (zAK (bare 2)).toArray.size:=pO0.there;have hne:w.heap.size+1 ≠ w.heap.size:=by omega
 have pA:=pA0.farAll hne 0 (zAK (bare 2));have pO:AtL ((two w x).setCells (w.heap.size+1) 0 (zAK (bare 2))) (w.heap.size+1) (zAK (bare 2)):=pO0.setAll rfl;have hBa:Below w.heap.size w ((two w x).setCells (w.heap.size+1) 0 (zAK (bare 2))):=zBJ (zAH (zAH (Below.refl _ w) _) _) (Nat.le_succ _) _ 0;clear pA0 pO0;have n0:(zAK x)[0]? = some (.int .i64 2):=by rw [<-hk];rfl
 have a0:World.cell? ((two w x).setCells (w.heap.size+1) 0 (zAK (bare 2))) ⟨w.heap.size,0,none⟩=some (.int .i64 2):=pA.2.1 0 _ n0;show Calls _ _ #[.agg (zAK x).toArray] _ _
 have hS:zQ4 w.heap.size (w.heap.size+1) x ((two w x).setCells (w.heap.size+1) 0 (zAK (bare 2))):=zGA pA pO;cases q
 all_goals
  go_enter func91,ntmps91;go_upto_region 1 with fail
  go_upto_region 2 with ((with_reducible refine wpList_store_mid ?_ 102 (.tmp 3) (.tmp 9) ?_ (w.heap.size+1) 0 (zAK (bare 2)).toArray ?_ ?_ ?_ ?_ ?_ ?_);rfl;rfl;rfl;rfl;exact hth;kernel_rfl;exact zCT _)
  generalize (two w x).setCells (w.heap.size+1) 0 (zAK (bare 2))=W0 at *;clear hth;go_upto_region 6 with fail
  go_region_held3 (zQ4 w.heap.size (w.heap.size+1) x)
   (with_reducible first | exact hS | assumption | exact zGA pA1 pO1 | exact (zBw (zBw (zBw (zBw (zBw (by assumption) (by omega) _ _) (by omega) _ _) (by omega) _ _) (by omega) _ _) (by omega) _ _) | exact zGA (AtL.drew pA) (AtL.drew pO))
   (first | (go_at_call 119;refine (C _).mono ?_;rintro e w1 ⟨rfl,hb⟩;have pA1:=AtL.below hb (AtL.drew pA);have pO1:=AtL.below hb (AtL.drew pO);have o10:=pO1.2.1 10 _ rfl;have o11:=pO1.2.1 11 _ rfl;have o12:=pO1.2.1 12 _ rfl;have o13:=pO1.2.1 13 _ rfl;have o14:=pO1.2.1 14 _ rfl;have hB1:=zAA hBa.drew hb))
  all_goals
   clear pA pO hS C hBa o10 o11 o12 o13 o14 a0;have pA2:AtL (((((w1.setCell ⟨w.heap.size+1,10,none⟩ (.string x.a.s)).setCell ⟨w.heap.size+1,11,none⟩ (.int .i64 x.a.r)).setCell ⟨w.heap.size+1,12,none⟩ (.int .i64 x.a.c)).setCell ⟨w.heap.size+1,13,none⟩ (.bool x.a.fr)).setCell ⟨w.heap.size+1,14,none⟩ (.bool x.a.fc)) w.heap.size (zAK x):=(((((pA1.far hne 10 (.string x.a.s)).far hne 11 (.int .i64 x.a.r)).far hne 12 (.int .i64 x.a.c)).far hne 13 (.bool x.a.fr)).far hne 14 (.bool x.a.fc))
   have pO2:AtL (((((w1.setCell ⟨w.heap.size+1,10,none⟩ (.string x.a.s)).setCell ⟨w.heap.size+1,11,none⟩ (.int .i64 x.a.r)).setCell ⟨w.heap.size+1,12,none⟩ (.int .i64 x.a.c)).setCell ⟨w.heap.size+1,13,none⟩ (.bool x.a.fr)).setCell ⟨w.heap.size+1,14,none⟩ (.bool x.a.fc)) (w.heap.size+1) (zAK ⟨2,Wt.v0,0,⟨#[]⟩,0,x.a,Wt.r0⟩):=(((((pO1.set 10 (.string x.a.s)).set 11 (.int .i64 x.a.r)).set 12 (.int .i64 x.a.c)).set 13 (.bool x.a.fr)).set 14 (.bool x.a.fc))
   have hB2:Below w.heap.size w (((((w1.setCell ⟨w.heap.size+1,10,none⟩ (.string x.a.s)).setCell ⟨w.heap.size+1,11,none⟩ (.int .i64 x.a.r)).setCell ⟨w.heap.size+1,12,none⟩ (.int .i64 x.a.c)).setCell ⟨w.heap.size+1,13,none⟩ (.bool x.a.fr)).setCell ⟨w.heap.size+1,14,none⟩ (.bool x.a.fc)):=(clB hB1)
   clear pA1 pO1 hB1;generalize (((((w1.setCell ⟨w.heap.size+1,10,none⟩ (.string x.a.s)).setCell ⟨w.heap.size+1,11,none⟩ (.int .i64 x.a.r)).setCell ⟨w.heap.size+1,12,none⟩ (.int .i64 x.a.c)).setCell ⟨w.heap.size+1,13,none⟩ (.bool x.a.fr)).setCell ⟨w.heap.size+1,14,none⟩ (.bool x.a.fc))=W2 at *;have rA:=pA2.range;have rO:=pO2.range;clear pA2 pO2;go_wp2_with (first | ((with_reducible refine zAB ?_ 102 (.tmp 1) ?_ w.heap.size 0 ?_ (zAK x) _ ?_ underlying102 ?_ ?_ ?_);rfl;rfl;rfl;exact rA;rfl;kernel_rfl) | ((with_reducible refine zAB ?_ 102 (.tmp 3) ?_ (w.heap.size+1) 0 ?_ (zAK ⟨2,Wt.v0,0,⟨#[]⟩,0,x.a,Wt.r0⟩) _ ?_ underlying102 ?_ ?_ ?_);rfl;rfl;rfl;exact rO;rfl;kernel_rfl))
   go_wp2;go_ret;exact ⟨by simp,hB2⟩
