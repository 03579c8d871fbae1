/- TRightA, KPlain, KKit, KWalkA, KWalkB. -/
import Derived.Test.YtcddpgfdadpbgaaGreatDoorQ02
import Derived.Laws.AppendOwn
set_option maxHeartbeats 4000000
set_option maxRecDepth 100000
set_option linter.unusedVariables false
namespace Go.Proofs.YtcddpgfdadpbgaaGreatDoor
open Tryz
open Go.RowKit
variable {ka kb:Nat} {x y:Wt.Nd} {W:World}
theorem zAA {P:Program} {ops:Array Oper} {rest:List Oper} {op:Oper} {a:Act} {w:World} {Q:Exit->Act->World->Prop} (hw:Region.wanted op (yielded ops a.tmps)=true) (ty:TypeId) (x:Operand) (ho:op.op=.load ty x)
  (b o:Nat) (hx:a.eval x=.pointer (some ⟨b,o,none⟩)) (cs:List Value) (d:TypeDesc) (hc:w.rangeAt b o cs)
  (hu:P.underlying ty=some d) (hd:d.isRow=true) (hi:(P.info? ty).map (·.size)=some cs.length)
  (h:wpList P ops Q rest (a.put op.dst (.agg cs.toArray)) w):wpList P ops Q (op::rest) a w :=
 BigFrame.wpList_want hw λ_ hK=>wp_load_mid ty x ho b o hx cs d hc hu hd hi (hK _ _ h)
def bare (k:Int):Wt.Nd:=⟨k,Wt.v0,0,⟨#[]⟩,0,Wt.r0,Wt.r0⟩
abbrev two (w:World) (x:Wt.Nd):World:=(w.alloc (.cells (zA3 x).toArray 44)).alloc (.cells #[.int .i64 0,.int .i64 0,.int .i64 0,.int .i64 0,.string ⟨#[]⟩,.bool false,.int .i64 0,.int .i64 0,.string ⟨#[]⟩,.int .i64 0,.string ⟨#[]⟩,.int .i64 0,.int .i64 0,.bool false,.bool false,.string ⟨#[]⟩,.int .i64 0,.int .i64 0,.bool false,.bool false] 44)
theorem zIP (x:Wt.Nd):∀ v ∈ zA3 x,v.oneCell'=true:=by
 intro v hv;simp only [zA3,List.mem_cons,List.not_mem_nil,or_false] at hv;rcases hv with rfl | rfl | rfl | rfl | rfl | rfl | rfl | rfl | rfl | rfl | rfl | rfl | rfl | rfl | rfl | rfl | rfl | rfl | rfl | rfl <;> rfl
theorem zK0 (x:Wt.Nd):(zA3 x).toArray.all (·.oneCell')=true:=all_oneCell_toArray (zIP x)
abbrev zK4 (ka kb:Nat) (x:Wt.Nd) (W:World):Prop :=
 W.cell? ⟨ka,1,none⟩=some (.int .i64 x.v.k)/\W.cell? ⟨ka,2,none⟩=some (.int .i64 x.v.n)/\W.cell? ⟨ka,3,none⟩=some (.int .i64 x.v.d)/\W.cell? ⟨ka,4,none⟩=some (.string x.v.t)/\W.cell? ⟨ka,5,none⟩=some (.bool x.v.b)/\W.cell? ⟨ka,6,none⟩=some (.int .i64 x.v.f)/\W.frozen? ⟨kb,1,none⟩=false/\W.frozen? ⟨kb,2,none⟩=false/\W.frozen? ⟨kb,3,none⟩=false/\W.frozen? ⟨kb,4,none⟩=false/\W.frozen? ⟨kb,5,none⟩=false/\W.frozen? ⟨kb,6,none⟩=false
theorem zD1 (h0:AtL W ka (zA3 x)) (h1:AtL W kb (zA3 y)):zK4 ka kb x W :=
 ⟨h0.2.1 1 _ rfl,h0.2.1 2 _ rfl,h0.2.1 3 _ rfl,h0.2.1 4 _ rfl,h0.2.1 5 _ rfl,h0.2.1 6 _ rfl,h1.2.2 1 (by show 1<20;decide),h1.2.2 2 (by show 2<20;decide),h1.2.2 3 (by show 3<20;decide),h1.2.2 4 (by show 4<20;decide),h1.2.2 5 (by show 5<20;decide),h1.2.2 6 (by show 6<20;decide)⟩
theorem zBT (h:zK4 ka kb x W) (hne:kb ≠ ka) (j:Nat) (u:Value):zK4 ka kb x (W.setCell ⟨kb,j,none⟩ u):=by
 obtain ⟨h1,h2,h3,h4,h5,h6,g1,g2,g3,g4,g5,g6⟩:=h;refine ⟨?_,?_,?_,?_,?_,?_,?_,?_,?_,?_,?_,?_⟩;any_goals rw [World.cell?_setCell_far _ _ _ _ (by simpa using hne)];assumption
 all_goals rw [World.frozen?_setCell];assumption
theorem zLU (x:Wt.Nd) (w:World) (hk:x.k=1) (h1:-9223372036854775808<=x.v.n) (h2:x.v.n<=9223372036854775807) (h3:-9223372036854775808<=x.v.d) (h4:x.v.d<=9223372036854775807) (hs:x.v.t.size<=9223372036854775807) :
  CR 76 #[ndV x] w (.bool (Wt.vlOk x.v && eqN x ⟨1,x.v,0,⟨#[]⟩,0,Wt.r0,Wt.r0⟩)):=by
 have C:=(λw=>zJk x.v w h1 h2 h3 h4 hs:∀ w:World,CR 105 #[.agg #[.int .i64 x.v.k,.int .i64 x.v.n,.int .i64 x.v.d,.string x.v.t,.bool x.v.b,.int .i64 x.v.f]] w (.bool (Wt.vlOk x.v)))
 have hq:∀ w:World,(binOp .eql 44 (.agg (zA3 x).toArray) (.agg (zA3 ⟨1,x.v,0,⟨#[]⟩,0,Wt.r0,Wt.r0⟩).toArray)).run prog w=.ok (.bool (eqN x ⟨1,x.v,0,⟨#[]⟩,0,Wt.r0,Wt.r0⟩)) w:=λw=>zF7 x ⟨1,x.v,0,⟨#[]⟩,0,Wt.r0,Wt.r0⟩ w
 generalize eqN x ⟨1,x.v,0,⟨#[]⟩,0,Wt.r0,Wt.r0⟩=R at *;generalize Wt.vlOk x.v=q at *;have pA0:AtL (two w x) w.heap.size (zA3 x):=(AtL.new0 w _ _).alloc _;have pO0:AtL (two w x) (w.heap.size+1) (zA3 (bare 0)):=AtL.new1 w _ _ _;have hth:World.there (two w x) (w.heap.size+1) 0 (zA3 (bare 1)).toArray.size:=pO0.there;have hne:w.heap.size+1 ≠ w.heap.size:=by omega
 have pA:=pA0.farAll hne 0 (zA3 (bare 1));have pO:AtL ((two w x).setCells (w.heap.size+1) 0 (zA3 (bare 1))) (w.heap.size+1) (zA3 (bare 1)):=pO0.setAll rfl;have hBa:Below w.heap.size w ((two w x).setCells (w.heap.size+1) 0 (zA3 (bare 1))):=zA8 (zAJ (zAJ (Below.refl _ w) _) _) (Nat.le_succ _) _ 0;clear pA0 pO0;have n0:(zA3 x)[0]? = some (.int .i64 1):=by rw [<-hk];rfl
 have a0:World.cell? ((two w x).setCells (w.heap.size+1) 0 (zA3 (bare 1))) ⟨w.heap.size,0,none⟩=some (.int .i64 1):=pA.2.1 0 _ n0;show Calls _ _ #[.agg (zA3 x).toArray] _ _
 have hS:zK4 w.heap.size (w.heap.size+1) x ((two w x).setCells (w.heap.size+1) 0 (zA3 (bare 1))):=zD1 pA pO;cases q
 all_goals
  go_enter func76,ntmps76;go_upto_region 1 with fail
  go_upto_region 2 with ((with_reducible refine wpList_store_mid ?_ 44 (.tmp 3) (.tmp 9) ?_ (w.heap.size+1) 0 (zA3 (bare 1)).toArray ?_ ?_ ?_ ?_ ?_ ?_);rfl;rfl;rfl;rfl;exact hth;kernel_rfl;exact zK0 _)
  generalize (two w x).setCells (w.heap.size+1) 0 (zA3 (bare 1))=W0 at *;clear hth;go_upto_region 4 with fail
  go_region_held3 (zK4 w.heap.size (w.heap.size+1) x)
   (with_reducible first | exact hS | assumption | exact zD1 pA1 pO1 | exact (zBT (zBT (zBT (zBT (zBT (zBT (by assumption) (by omega) _ _) (by omega) _ _) (by omega) _ _) (by omega) _ _) (by omega) _ _) (by omega) _ _) | exact zD1 (AtL.drew pA) (AtL.drew pO))
   (first | (go_at_call 105;refine (C _).mono ?_;rintro e w1 ⟨rfl,hb⟩;have pA1:=AtL.below hb (AtL.drew pA);have pO1:=AtL.below hb (AtL.drew pO);have o1:=pO1.2.1 1 _ rfl;have o2:=pO1.2.1 2 _ rfl;have o3:=pO1.2.1 3 _ rfl;have o4:=pO1.2.1 4 _ rfl;have o5:=pO1.2.1 5 _ rfl;have o6:=pO1.2.1 6 _ rfl;have hB1:=zAB hBa.drew hb))
  all_goals
   clear pA pO hS C hBa o1 o2 o3 o4 o5 o6 a0;have pA2:AtL ((((((w1.setCell ⟨w.heap.size+1,1,none⟩ (.int .i64 x.v.k)).setCell ⟨w.heap.size+1,2,none⟩ (.int .i64 x.v.n)).setCell ⟨w.heap.size+1,3,none⟩ (.int .i64 x.v.d)).setCell ⟨w.heap.size+1,4,none⟩ (.string x.v.t)).setCell ⟨w.heap.size+1,5,none⟩ (.bool x.v.b)).setCell ⟨w.heap.size+1,6,none⟩ (.int .i64 x.v.f)) w.heap.size (zA3 x):=((((((pA1.far hne 1 (.int .i64 x.v.k)).far hne 2 (.int .i64 x.v.n)).far hne 3 (.int .i64 x.v.d)).far hne 4 (.string x.v.t)).far hne 5 (.bool x.v.b)).far hne 6 (.int .i64 x.v.f))
   have pO2:AtL ((((((w1.setCell ⟨w.heap.size+1,1,none⟩ (.int .i64 x.v.k)).setCell ⟨w.heap.size+1,2,none⟩ (.int .i64 x.v.n)).setCell ⟨w.heap.size+1,3,none⟩ (.int .i64 x.v.d)).setCell ⟨w.heap.size+1,4,none⟩ (.string x.v.t)).setCell ⟨w.heap.size+1,5,none⟩ (.bool x.v.b)).setCell ⟨w.heap.size+1,6,none⟩ (.int .i64 x.v.f)) (w.heap.size+1) (zA3 ⟨1,x.v,0,⟨#[]⟩,0,Wt.r0,Wt.r0⟩):=((((((pO1.set 1 (.int .i64 x.v.k)).set 2 (.int .i64 x.v.n)).set 3 (.int .i64 x.v.d)).set 4 (.string x.v.t)).set 5 (.bool x.v.b)).set 6 (.int .i64 x.v.f))
   have hB2:Below w.heap.size w ((((((w1.setCell ⟨w.heap.size+1,1,none⟩ (.int .i64 x.v.k)).setCell ⟨w.heap.size+1,2,none⟩ (.int .i64 x.v.n)).setCell ⟨w.heap.size+1,3,none⟩ (.int .i64 x.v.d)).setCell ⟨w.heap.size+1,4,none⟩ (.string x.v.t)).setCell ⟨w.heap.size+1,5,none⟩ (.bool x.v.b)).setCell ⟨w.heap.size+1,6,none⟩ (.int .i64 x.v.f)):=(clB hB1)
   clear pA1 pO1 hB1;generalize ((((((w1.setCell ⟨w.heap.size+1,1,none⟩ (.int .i64 x.v.k)).setCell ⟨w.heap.size+1,2,none⟩ (.int .i64 x.v.n)).setCell ⟨w.heap.size+1,3,none⟩ (.int .i64 x.v.d)).setCell ⟨w.heap.size+1,4,none⟩ (.string x.v.t)).setCell ⟨w.heap.size+1,5,none⟩ (.bool x.v.b)).setCell ⟨w.heap.size+1,6,none⟩ (.int .i64 x.v.f))=W2 at *;have rA:=pA2.range;have rO:=pO2.range;clear pA2 pO2;go_wp2_with (first | ((with_reducible refine zAA ?_ 44 (.tmp 1) ?_ w.heap.size 0 ?_ (zA3 x) _ ?_ underlying44 ?_ ?_ ?_);rfl;rfl;rfl;exact rA;rfl;kernel_rfl) | ((with_reducible refine zAA ?_ 44 (.tmp 3) ?_ (w.heap.size+1) 0 ?_ (zA3 ⟨1,x.v,0,⟨#[]⟩,0,Wt.r0,Wt.r0⟩) _ ?_ underlying44 ?_ ?_ ?_);rfl;rfl;rfl;exact rO;rfl;kernel_rfl))
   go_wp2;go_ret;exact ⟨by simp,hB2⟩
abbrev zK3 (ka kb:Nat) (x:Wt.Nd) (W:World):Prop :=
 W.cell? ⟨ka,10,none⟩=some (.string x.a.s)/\W.cell? ⟨ka,11,none⟩=some (.int .i64 x.a.r)/\W.cell? ⟨ka,12,none⟩=some (.int .i64 x.a.c)/\W.cell? ⟨ka,13,none⟩=some (.bool x.a.fr)/\W.cell? ⟨ka,14,none⟩=some (.bool x.a.fc)/\W.frozen? ⟨kb,10,none⟩=false/\W.frozen? ⟨kb,11,none⟩=false/\W.frozen? ⟨kb,12,none⟩=false/\W.frozen? ⟨kb,13,none⟩=false/\W.frozen? ⟨kb,14,none⟩=false
theorem zDI (h0:AtL W ka (zA3 x)) (h1:AtL W kb (zA3 y)):zK3 ka kb x W :=
 ⟨h0.2.1 10 _ rfl,h0.2.1 11 _ rfl,h0.2.1 12 _ rfl,h0.2.1 13 _ rfl,h0.2.1 14 _ rfl,h1.2.2 10 (by show 10<20;decide),h1.2.2 11 (by show 11<20;decide),h1.2.2 12 (by show 12<20;decide),h1.2.2 13 (by show 13<20;decide),h1.2.2 14 (by show 14<20;decide)⟩
theorem zB0 (h:zK3 ka kb x W) (hne:kb ≠ ka) (j:Nat) (u:Value):zK3 ka kb x (W.setCell ⟨kb,j,none⟩ u):=by
 obtain ⟨h10,h11,h12,h13,h14,g10,g11,g12,g13,g14⟩:=h;refine ⟨?_,?_,?_,?_,?_,?_,?_,?_,?_,?_⟩;any_goals rw [World.cell?_setCell_far _ _ _ _ (by simpa using hne)];assumption
 all_goals rw [World.frozen?_setCell];assumption
theorem zHm (x:Wt.Nd) (w:World) (hk:x.k=2) (hs:x.a.s.size<=9223372036854775807) :
  CR 76 #[ndV x] w (.bool (Wt.rfOk x.a && eqN x ⟨2,Wt.v0,0,⟨#[]⟩,0,x.a,Wt.r0⟩)):=by
 have C:=(λw=>zJw x.a w hs:∀ w:World,CR 106 #[.agg #[.string x.a.s,.int .i64 x.a.r,.int .i64 x.a.c,.bool x.a.fr,.bool x.a.fc]] w (.bool (Wt.rfOk x.a)))
 have hq:∀ w:World,(binOp .eql 44 (.agg (zA3 x).toArray) (.agg (zA3 ⟨2,Wt.v0,0,⟨#[]⟩,0,x.a,Wt.r0⟩).toArray)).run prog w=.ok (.bool (eqN x ⟨2,Wt.v0,0,⟨#[]⟩,0,x.a,Wt.r0⟩)) w:=λw=>zF7 x ⟨2,Wt.v0,0,⟨#[]⟩,0,x.a,Wt.r0⟩ w
 generalize eqN x ⟨2,Wt.v0,0,⟨#[]⟩,0,x.a,Wt.r0⟩=R at *;generalize Wt.rfOk x.a=q at *;have pA0:AtL (two w x) w.heap.size (zA3 x):=(AtL.new0 w _ _).alloc _;have pO0:AtL (two w x) (w.heap.size+1) (zA3 (bare 0)):=AtL.new1 w _ _ _;have hth:World.there (two w x) (w.heap.size+1) 0 (zA3 (bare 2)).toArray.size:=pO0.there;have hne:w.heap.size+1 ≠ w.heap.size:=by omega
 have pA:=pA0.farAll hne 0 (zA3 (bare 2));have pO:AtL ((two w x).setCells (w.heap.size+1) 0 (zA3 (bare 2))) (w.heap.size+1) (zA3 (bare 2)):=pO0.setAll rfl;have hBa:Below w.heap.size w ((two w x).setCells (w.heap.size+1) 0 (zA3 (bare 2))):=zA8 (zAJ (zAJ (Below.refl _ w) _) _) (Nat.le_succ _) _ 0;clear pA0 pO0;have n0:(zA3 x)[0]? = some (.int .i64 2):=by rw [<-hk];rfl
 have a0:World.cell? ((two w x).setCells (w.heap.size+1) 0 (zA3 (bare 2))) ⟨w.heap.size,0,none⟩=some (.int .i64 2):=pA.2.1 0 _ n0;show Calls _ _ #[.agg (zA3 x).toArray] _ _
 have hS:zK3 w.heap.size (w.heap.size+1) x ((two w x).setCells (w.heap.size+1) 0 (zA3 (bare 2))):=zDI pA pO;cases q
 all_goals
  go_enter func76,ntmps76;go_upto_region 1 with fail
  go_upto_region 2 with ((with_reducible refine wpList_store_mid ?_ 44 (.tmp 3) (.tmp 9) ?_ (w.heap.size+1) 0 (zA3 (bare 2)).toArray ?_ ?_ ?_ ?_ ?_ ?_);rfl;rfl;rfl;rfl;exact hth;kernel_rfl;exact zK0 _)
  generalize (two w x).setCells (w.heap.size+1) 0 (zA3 (bare 2))=W0 at *;clear hth;go_upto_region 6 with fail
  go_region_held3 (zK3 w.heap.size (w.heap.size+1) x)
   (with_reducible first | exact hS | assumption | exact zDI pA1 pO1 | exact (zB0 (zB0 (zB0 (zB0 (zB0 (by assumption) (by omega) _ _) (by omega) _ _) (by omega) _ _) (by omega) _ _) (by omega) _ _) | exact zDI (AtL.drew pA) (AtL.drew pO))
   (first | (go_at_call 106;refine (C _).mono ?_;rintro e w1 ⟨rfl,hb⟩;have pA1:=AtL.below hb (AtL.drew pA);have pO1:=AtL.below hb (AtL.drew pO);have o10:=pO1.2.1 10 _ rfl;have o11:=pO1.2.1 11 _ rfl;have o12:=pO1.2.1 12 _ rfl;have o13:=pO1.2.1 13 _ rfl;have o14:=pO1.2.1 14 _ rfl;have hB1:=zAB hBa.drew hb))
  all_goals
   clear pA pO hS C hBa o10 o11 o12 o13 o14 a0;have pA2:AtL (((((w1.setCell ⟨w.heap.size+1,10,none⟩ (.string x.a.s)).setCell ⟨w.heap.size+1,11,none⟩ (.int .i64 x.a.r)).setCell ⟨w.heap.size+1,12,none⟩ (.int .i64 x.a.c)).setCell ⟨w.heap.size+1,13,none⟩ (.bool x.a.fr)).setCell ⟨w.heap.size+1,14,none⟩ (.bool x.a.fc)) w.heap.size (zA3 x):=(((((pA1.far hne 10 (.string x.a.s)).far hne 11 (.int .i64 x.a.r)).far hne 12 (.int .i64 x.a.c)).far hne 13 (.bool x.a.fr)).far hne 14 (.bool x.a.fc))
   have pO2:AtL (((((w1.setCell ⟨w.heap.size+1,10,none⟩ (.string x.a.s)).setCell ⟨w.heap.size+1,11,none⟩ (.int .i64 x.a.r)).setCell ⟨w.heap.size+1,12,none⟩ (.int .i64 x.a.c)).setCell ⟨w.heap.size+1,13,none⟩ (.bool x.a.fr)).setCell ⟨w.heap.size+1,14,none⟩ (.bool x.a.fc)) (w.heap.size+1) (zA3 ⟨2,Wt.v0,0,⟨#[]⟩,0,x.a,Wt.r0⟩):=(((((pO1.set 10 (.string x.a.s)).set 11 (.int .i64 x.a.r)).set 12 (.int .i64 x.a.c)).set 13 (.bool x.a.fr)).set 14 (.bool x.a.fc))
   have hB2:Below w.heap.size w (((((w1.setCell ⟨w.heap.size+1,10,none⟩ (.string x.a.s)).setCell ⟨w.heap.size+1,11,none⟩ (.int .i64 x.a.r)).setCell ⟨w.heap.size+1,12,none⟩ (.int .i64 x.a.c)).setCell ⟨w.heap.size+1,13,none⟩ (.bool x.a.fr)).setCell ⟨w.heap.size+1,14,none⟩ (.bool x.a.fc)):=(clB hB1)
   clear pA1 pO1 hB1;generalize (((((w1.setCell ⟨w.heap.size+1,10,none⟩ (.string x.a.s)).setCell ⟨w.heap.size+1,11,none⟩ (.int .i64 x.a.r)).setCell ⟨w.heap.size+1,12,none⟩ (.int .i64 x.a.c)).setCell ⟨w.heap.size+1,13,none⟩ (.bool x.a.fr)).setCell ⟨w.heap.size+1,14,none⟩ (.bool x.a.fc))=W2 at *;have rA:=pA2.range;have rO:=pO2.range;clear pA2 pO2;go_wp2_with (first | ((with_reducible refine zAA ?_ 44 (.tmp 1) ?_ w.heap.size 0 ?_ (zA3 x) _ ?_ underlying44 ?_ ?_ ?_);rfl;rfl;rfl;exact rA;rfl;kernel_rfl) | ((with_reducible refine zAA ?_ 44 (.tmp 3) ?_ (w.heap.size+1) 0 ?_ (zA3 ⟨2,Wt.v0,0,⟨#[]⟩,0,x.a,Wt.r0⟩) _ ?_ underlying44 ?_ ?_ ?_);rfl;rfl;rfl;exact rO;rfl;kernel_rfl))
   go_wp2;go_ret;exact ⟨by simp,hB2⟩
end Go.Proofs.YtcddpgfdadpbgaaGreatDoor
namespace Go.Proofs.YtcddpgfdadpbgaaGreatDoor.Wc
structure In where
 op:Int
 a:Int
 b:Int
 v:Wt.Vl
 ce:Wpl.Cl
 ar:Wpl.Ar
 pr:Wpl.Ar
def pairs (id:Int):Bool:=id == 22 || (id == 23 || id == 24)
def swO (o b:Int):Int × Int :=
 if o=1 \/ o=2 \/ o=10 then (0,1) else if o=3 then (1,1) else if o=4 then (2,1) else if o=5 \/ o=11 then (b,1)
 else if o=7 \/ o=12 \/ o=14 \/ o=15 \/ o=16 then (1,0) else (0,0)
def nds (o b:Int):Int × Int × Int :=
 if o=1 \/ o=2 then (0,0,1) else if o=3 then (1,0,0) else if o=4 then (2,0,-1) else if o=5 \/ o=11 then (b,0,1 - b)
 else if o=7 then (1,1,-1) else if o=8 \/ o=9 then (0,1,0) else if o=10 then (0,1,1)
 else if o=12 \/ o=15 \/ o=14 then (1,0,-1) else (0,0,0)
end Go.Proofs.YtcddpgfdadpbgaaGreatDoor.Wc
namespace Go.Proofs.YtcddpgfdadpbgaaGreatDoor
open Tryz
open Go.RowKit
variable {w:World} {b:Nat} {tv:Value} {x:Int}
def zAD (x:Wc.In) (tv:Value):List Value :=
 [.int .i64 x.op,.int .i64 x.a,.int .i64 x.b,.int .i64 x.v.k,.int .i64 x.v.n,.int .i64 x.v.d,.string x.v.t,.bool x.v.b,.int .i64 x.v.f,
  .int .i64 x.ce.s,.int .i64 x.ce.r,.int .i64 x.ce.c,
  .int .i64 x.ar.s,.int .i64 x.ar.t,.int .i64 x.ar.l,.int .i64 x.ar.b,.int .i64 x.ar.r,
  .int .i64 x.pr.s,.int .i64 x.pr.t,.int .i64 x.pr.l,.int .i64 x.pr.b,.int .i64 x.pr.r,tv]
abbrev inV (x:Wc.In) (tv:Value):Value:=.agg (zAD x tv).toArray
theorem zBs (id:Int) (w:World):Calls prog 97 #[.int .i64 id] w λe w'=>e=.returned (.bool (Wc.pairs id))/\w=w':=by
 have e:∀ b,Wc.pairs id=b->Hid (Wc.pairs id=b):=λ_ h=>h
 unfold Wc.pairs;by_cases h1:id=22
 ·subst h1;clear e;go_enter func97,ntmps97;go_wp2;go_ret;exact ⟨by simp,rfl⟩
 by_cases h2:id=23
 ·subst h2;clear e;go_enter func97,ntmps97;go_wp2;go_ret;exact ⟨by simp,rfl⟩
 have q1:(id == 22)=false:=by simp [h1]
 have q2:(id == 23)=false:=by simp [h2]
 rw [q1,q2];clear e h1 h2;go_enter func97,ntmps97;go_wp2;go_ret;exact ⟨by simp,rfl⟩
theorem zD0 (o:Int):o=1 \/ o=2 \/ o=3 \/ o=4 \/ o=5 \/ o=6 \/ o=7 \/ o=8 \/ o=9 \/ o=10 \/ o=11 \/ o=12 \/ o=13 \/ o=14 \/ o=15 \/ o=16 \/ (o<1 \/ 16<o):=by omega
theorem zE5 (x:Wc.In) (tv:Value) (w:World):CR 64 #[inV x tv] w (.tuple #[.int .i64 (Wc.swO x.op x.b).1,.int .i64 (Wc.swO x.op x.b).2]):=by
 have pA:=AtL.new0 w 52 (zAD x tv);have hB:=zAJ (Below.refl _ w) (.cells (zAD x tv).toArray 52);have c0:(w.alloc (.cells (zAD x tv).toArray 52)).cell? ⟨w.heap.size,0,none⟩=some (.int .i64 x.op):=pA.2.1 0 _ rfl;have c2:(w.alloc (.cells (zAD x tv).toArray 52)).cell? ⟨w.heap.size,2,none⟩=some (.int .i64 x.b):=pA.2.1 2 _ rfl;obtain ⟨q,hq⟩:∃ q,Wc.swO x.op x.b=q:=⟨_,rfl⟩
 rw [hq];have HQ:Hid (Wc.swO x.op x.b=q):=hq;clear hq pA;rcases zD0 x.op with h | h | h | h | h | h | h | h | h | h | h | h | h | h | h | h | h
 case inr.inr.inr.inr.inr.inr.inr.inr.inr.inr.inr.inr.inr.inr.inr.inr =>
  have e:q=(0,0):=by
   have:=HQ.out;unfold Wc.swO at this;rw [<-this];repeat rw [if_neg (by omega)]
  have n1:(x.op == 1)=false:=by simp;omega
  have n2:(x.op == 2)=false:=by simp;omega
  have n3:(x.op == 3)=false:=by simp;omega
  have n4:(x.op == 4)=false:=by simp;omega
  have n5:(x.op == 5)=false:=by simp;omega
  have n6:(x.op == 6)=false:=by simp;omega
  have n7:(x.op == 7)=false:=by simp;omega
  have n8:(x.op == 8)=false:=by simp;omega
  have n9:(x.op == 9)=false:=by simp;omega
  have n10:(x.op == 10)=false:=by simp;omega
  have n11:(x.op == 11)=false:=by simp;omega
  have n12:(x.op == 12)=false:=by simp;omega
  have n13:(x.op == 13)=false:=by simp;omega
  have n14:(x.op == 14)=false:=by simp;omega
  have n15:(x.op == 15)=false:=by simp;omega
  have n16:(x.op == 16)=false:=by simp;omega
  clear HQ h;subst e;go_enter func64,ntmps64;go_upto_region 1 with fail
  generalize (w.alloc (.cells (zAD x tv).toArray 52))=W at *;go_wp2;go_ret2
  exact ⟨rfl,hB⟩
 all_goals
  have e:=HQ.out;rw [h] at c0 e;subst e;clear HQ h;go_enter func64,ntmps64;go_upto_region 1 with fail
  generalize (w.alloc (.cells (zAD x tv).toArray 52))=W at *;go_wp2;go_ret2
  exact ⟨rfl,hB⟩
def RdZ (w:World) (v:Value) (l:List Int):Prop:=∃ av cap,v=.slice av l.length cap/\∀ i (h:i<l.length),∃ bb off,av=some ⟨bb,off,none⟩/\w.cell? ⟨bb,off+i,none⟩=some (.int .i64 (l[i]))
theorem RdZ.below {w':World} {v:Value} {l:List Int} (h:RdZ w v l) (hb:Below w.heap.size w w'):RdZ w' v l:=by
 obtain ⟨av,cap,e,h⟩:=h;refine ⟨av,cap,e,λi hi=>?_⟩;obtain ⟨bb,off,e1,h1⟩:=h i hi;exact ⟨bb,off,e1,zAC hb h1⟩
theorem RdZ.nil (w:World):RdZ w (.slice none 0 0) []:=⟨none,0,rfl,λi hi=>absurd hi (Nat.not_lt_zero _)⟩
theorem RdZ.one (h:w.cell? ⟨b,0,none⟩=some (.int .i64 x)):RdZ w (.slice (some ⟨b,0,none⟩) 1 1) [x]:=by
 refine ⟨_,1,rfl,λi hi=>⟨b,0,rfl,?_⟩⟩;have:i=0:=by simp at hi;omega
 subst this;exact h
theorem RdZ.two {y:Int} (h:w.cell? ⟨b,0,none⟩=some (.int .i64 x)) (h2:w.cell? ⟨b,1,none⟩=some (.int .i64 y)):RdZ w (.slice (some ⟨b,0,none⟩) 2 2) [x,y]:=by
 refine ⟨_,2,rfl,λi hi=>⟨b,0,rfl,?_⟩⟩;have:i=0 \/ i=1:=by simp at hi;omega
 rcases this with rfl | rfl
 ·exact h
 ·exact h2
def onw (o a b:Int) (tl:List Int) (at':Int):List Int × List Int :=
 if o=12 then ([at'+1,a],[b]) else if o=13 then ([],[a]) else if o=14 then ([at'+1],[a]) else if o=15 then (tl,[b]) else if o=16 then ([],[]) else ([at'+1],[])
def Bk (w:World) (tv v:Value):Prop:=v=tv \/ ∀ g,v.ownBlock=some g->w.heap.size<=g
theorem Bk.nil:Bk w tv (.slice none 0 0):=Or.inr λg e=>by cases e
theorem Bk.new {n c:Nat} (h:w.heap.size<=b):Bk w tv (.slice (some ⟨b,0,none⟩) n c):=Or.inr λg e=>by
 have e2:b=g:=by simpa [Value.ownBlock] using e
 subst e2;exact h
theorem Bk.own:Bk w tv tv:=Or.inl rfl
def OnP (w:World) (tv:Value) (w':World) (q:List Int × List Int) (e:Ending):Prop:=∃ c k,e=.returned (.tuple #[c,k])/\RdZ w' c q.1/\RdZ w' k q.2/\Bk w tv c/\Bk w tv k
theorem zFG (x:Wc.In) (tv:Value) (at':Int) (w:World) (h:x.op=12) (ha:0<=at'/\at'<=1000000):Calls prog 35 #[inV x tv,.int .i64 at'] w λe w'=>OnP w tv w' ([at'+1,x.a],[x.b]) e/\Below w.heap.size w w':=by
 have pA:=AtL.new0 w 52 (zAD x tv);have hB:=zAJ (Below.refl _ w) (.cells (zAD x tv).toArray 52);have c0:(w.alloc (.cells (zAD x tv).toArray 52)).cell? ⟨w.heap.size,0,none⟩=some (.int .i64 x.op):=pA.2.1 0 _ rfl;have c1:(w.alloc (.cells (zAD x tv).toArray 52)).cell? ⟨w.heap.size,1,none⟩=some (.int .i64 x.a):=pA.2.1 1 _ rfl;have c2:(w.alloc (.cells (zAD x tv).toArray 52)).cell? ⟨w.heap.size,2,none⟩=some (.int .i64 x.b):=pA.2.1 2 _ rfl;have hlt:=pA.lt;have hw:IntKind.i64.wrap (at'+1)=at'+1:=by rw [IntKind.wrap_i64];omega
 rw [h] at c0;clear pA h ha;go_enter func35,ntmps35;go_upto_region 1 with fail
 generalize (w.alloc (.cells (zAD x tv).toArray 52))=W at *;go_upto_region 3 with fail
 go_region
 all_goals
  go_wp2_with fail
  go_ret2
  refine ⟨⟨_,_,rfl,RdZ.two ?_ ?_,RdZ.one ?_,Bk.new ?_,Bk.new ?_⟩,(clB hB)⟩;all_goals first
   | (simp;done)
   | (simp;omega)
   | omega
theorem zFZ (x:Wc.In) (av:Option Addr) (n cap:Nat) (tl:List Int) (at':Int) (w:World) (h:x.op=13) (ha:0<=at'/\at'<=1000000) (hz:RdZ w (.slice av n cap) tl):Calls prog 35 #[inV x (.slice av n cap),.int .i64 at'] w λe w'=>OnP w (.slice av n cap) w' ([],[x.a]) e/\Below w.heap.size w w':=by
 have pA:=AtL.new0 w 52 (zAD x (.slice av n cap));have hB:=zAJ (Below.refl _ w) (.cells (zAD x (.slice av n cap)).toArray 52);have c0:(w.alloc (.cells (zAD x (.slice av n cap)).toArray 52)).cell? ⟨w.heap.size,0,none⟩=some (.int .i64 x.op):=pA.2.1 0 _ rfl;have c1:(w.alloc (.cells (zAD x (.slice av n cap)).toArray 52)).cell? ⟨w.heap.size,1,none⟩=some (.int .i64 x.a):=pA.2.1 1 _ rfl;have c2:(w.alloc (.cells (zAD x (.slice av n cap)).toArray 52)).cell? ⟨w.heap.size,2,none⟩=some (.int .i64 x.b):=pA.2.1 2 _ rfl;have c22:(w.alloc (.cells (zAD x (.slice av n cap)).toArray 52)).cell? ⟨w.heap.size,22,none⟩=some (.slice av n cap):=pA.2.1 22 _ rfl;have hlt:=pA.lt;have hw:IntKind.i64.wrap (at'+1)=at'+1:=by rw [IntKind.wrap_i64];omega
 have HZ:Hid (RdZ w (.slice av n cap) tl):=hz;rw [h] at c0;clear pA h ha hz;go_enter func35,ntmps35;go_upto_region 1 with fail
 generalize (w.alloc (.cells (zAD x (.slice av n cap)).toArray 52))=W at *;go_upto_region 5 with fail
 go_region
 all_goals
  go_wp2_with fail
  go_ret2
  refine ⟨⟨_,_,rfl,RdZ.nil _,RdZ.one ?_,Bk.nil,Bk.new ?_⟩,(clB hB)⟩;all_goals first
   | (simp;done)
   | (simp;omega)
   | omega
theorem zF5 (x:Wc.In) (av:Option Addr) (n cap:Nat) (tl:List Int) (at':Int) (w:World) (h:x.op=14) (ha:0<=at'/\at'<=1000000) (hz:RdZ w (.slice av n cap) tl):Calls prog 35 #[inV x (.slice av n cap),.int .i64 at'] w λe w'=>OnP w (.slice av n cap) w' ([at'+1],[x.a]) e/\Below w.heap.size w w':=by
 have pA:=AtL.new0 w 52 (zAD x (.slice av n cap));have hB:=zAJ (Below.refl _ w) (.cells (zAD x (.slice av n cap)).toArray 52);have c0:(w.alloc (.cells (zAD x (.slice av n cap)).toArray 52)).cell? ⟨w.heap.size,0,none⟩=some (.int .i64 x.op):=pA.2.1 0 _ rfl;have c1:(w.alloc (.cells (zAD x (.slice av n cap)).toArray 52)).cell? ⟨w.heap.size,1,none⟩=some (.int .i64 x.a):=pA.2.1 1 _ rfl;have c2:(w.alloc (.cells (zAD x (.slice av n cap)).toArray 52)).cell? ⟨w.heap.size,2,none⟩=some (.int .i64 x.b):=pA.2.1 2 _ rfl;have c22:(w.alloc (.cells (zAD x (.slice av n cap)).toArray 52)).cell? ⟨w.heap.size,22,none⟩=some (.slice av n cap):=pA.2.1 22 _ rfl;have hlt:=pA.lt;have hw:IntKind.i64.wrap (at'+1)=at'+1:=by rw [IntKind.wrap_i64];omega
 have HZ:Hid (RdZ w (.slice av n cap) tl):=hz;rw [h] at c0;clear pA h ha hz;go_enter func35,ntmps35;go_upto_region 1 with fail
 generalize (w.alloc (.cells (zAD x (.slice av n cap)).toArray 52))=W at *;go_upto_region 7 with fail
 go_region
 all_goals
  go_wp2_with fail
  go_ret2
  refine ⟨⟨_,_,rfl,RdZ.one ?_,RdZ.one ?_,Bk.new ?_,Bk.new ?_⟩,(clB hB)⟩;all_goals first
   | (simp;done)
   | (simp;omega)
   | omega
theorem zFV (x:Wc.In) (av:Option Addr) (n cap:Nat) (tl:List Int) (at':Int) (w:World) (h:x.op=15) (ha:0<=at'/\at'<=1000000) (hz:RdZ w (.slice av n cap) tl):Calls prog 35 #[inV x (.slice av n cap),.int .i64 at'] w λe w'=>OnP w (.slice av n cap) w' (tl,[x.b]) e/\Below w.heap.size w w':=by
 have pA:=AtL.new0 w 52 (zAD x (.slice av n cap));have hB:=zAJ (Below.refl _ w) (.cells (zAD x (.slice av n cap)).toArray 52);have c0:(w.alloc (.cells (zAD x (.slice av n cap)).toArray 52)).cell? ⟨w.heap.size,0,none⟩=some (.int .i64 x.op):=pA.2.1 0 _ rfl;have c1:(w.alloc (.cells (zAD x (.slice av n cap)).toArray 52)).cell? ⟨w.heap.size,1,none⟩=some (.int .i64 x.a):=pA.2.1 1 _ rfl;have c2:(w.alloc (.cells (zAD x (.slice av n cap)).toArray 52)).cell? ⟨w.heap.size,2,none⟩=some (.int .i64 x.b):=pA.2.1 2 _ rfl;have c22:(w.alloc (.cells (zAD x (.slice av n cap)).toArray 52)).cell? ⟨w.heap.size,22,none⟩=some (.slice av n cap):=pA.2.1 22 _ rfl;have hlt:=pA.lt;have hw:IntKind.i64.wrap (at'+1)=at'+1:=by rw [IntKind.wrap_i64];omega
 have HZ:Hid (RdZ w (.slice av n cap) tl):=hz;rw [h] at c0;clear pA h ha hz;go_enter func35,ntmps35;go_upto_region 1 with fail
 generalize (w.alloc (.cells (zAD x (.slice av n cap)).toArray 52))=W at *;go_upto_region 9 with fail
 go_region
 all_goals
  go_wp2_with fail
  go_ret2
  refine ⟨⟨_,_,rfl,HZ.out.below (clB hB),RdZ.one ?_,Bk.own,Bk.new ?_⟩,(clB hB)⟩;all_goals first
   | (simp;done)
   | (simp;omega)
   | omega
theorem zF6 (x:Wc.In) (av:Option Addr) (n cap:Nat) (tl:List Int) (at':Int) (w:World) (h:x.op=16) (ha:0<=at'/\at'<=1000000) (hz:RdZ w (.slice av n cap) tl):Calls prog 35 #[inV x (.slice av n cap),.int .i64 at'] w λe w'=>OnP w (.slice av n cap) w' ([],[]) e/\Below w.heap.size w w':=by
 have pA:=AtL.new0 w 52 (zAD x (.slice av n cap));have hB:=zAJ (Below.refl _ w) (.cells (zAD x (.slice av n cap)).toArray 52);have c0:(w.alloc (.cells (zAD x (.slice av n cap)).toArray 52)).cell? ⟨w.heap.size,0,none⟩=some (.int .i64 x.op):=pA.2.1 0 _ rfl;have c1:(w.alloc (.cells (zAD x (.slice av n cap)).toArray 52)).cell? ⟨w.heap.size,1,none⟩=some (.int .i64 x.a):=pA.2.1 1 _ rfl;have c2:(w.alloc (.cells (zAD x (.slice av n cap)).toArray 52)).cell? ⟨w.heap.size,2,none⟩=some (.int .i64 x.b):=pA.2.1 2 _ rfl;have c22:(w.alloc (.cells (zAD x (.slice av n cap)).toArray 52)).cell? ⟨w.heap.size,22,none⟩=some (.slice av n cap):=pA.2.1 22 _ rfl;have hlt:=pA.lt;have hw:IntKind.i64.wrap (at'+1)=at'+1:=by rw [IntKind.wrap_i64];omega
 have HZ:Hid (RdZ w (.slice av n cap) tl):=hz;rw [h] at c0;clear pA h ha hz;go_enter func35,ntmps35;go_upto_region 1 with fail
 generalize (w.alloc (.cells (zAD x (.slice av n cap)).toArray 52))=W at *;all_goals
  go_wp2;go_ret2
  exact ⟨⟨_,_,rfl,RdZ.nil _,RdZ.nil _,Bk.nil,Bk.nil⟩,hB⟩
theorem zG7 (x:Wc.In) (av:Option Addr) (n cap:Nat) (at':Int) (w:World) (h:¬ (12<=x.op/\x.op<=16)) (ha:0<=at'/\at'<=1000000):Calls prog 35 #[inV x (.slice av n cap),.int .i64 at'] w λe w'=>OnP w (.slice av n cap) w' ([at'+1],[]) e/\Below w.heap.size w w':=by
 have pA:=AtL.new0 w 52 (zAD x (.slice av n cap));have hB:=zAJ (Below.refl _ w) (.cells (zAD x (.slice av n cap)).toArray 52);have c0:(w.alloc (.cells (zAD x (.slice av n cap)).toArray 52)).cell? ⟨w.heap.size,0,none⟩=some (.int .i64 x.op):=pA.2.1 0 _ rfl;have c1:(w.alloc (.cells (zAD x (.slice av n cap)).toArray 52)).cell? ⟨w.heap.size,1,none⟩=some (.int .i64 x.a):=pA.2.1 1 _ rfl;have c2:(w.alloc (.cells (zAD x (.slice av n cap)).toArray 52)).cell? ⟨w.heap.size,2,none⟩=some (.int .i64 x.b):=pA.2.1 2 _ rfl;have c22:(w.alloc (.cells (zAD x (.slice av n cap)).toArray 52)).cell? ⟨w.heap.size,22,none⟩=some (.slice av n cap):=pA.2.1 22 _ rfl;have hlt:=pA.lt;have hw:IntKind.i64.wrap (at'+1)=at'+1:=by rw [IntKind.wrap_i64];omega
 have n12:(x.op == 12)=false:=by simp;omega
 have n13:(x.op == 13)=false:=by simp;omega
 have n14:(x.op == 14)=false:=by simp;omega
 have n15:(x.op == 15)=false:=by simp;omega
 have n16:(x.op == 16)=false:=by simp;omega
 clear pA h ha;go_enter func35,ntmps35;go_upto_region 1 with fail
 generalize (w.alloc (.cells (zAD x (.slice av n cap)).toArray 52))=W at *;go_wp2;go_ret2
 refine ⟨⟨_,_,rfl,RdZ.one ?_,RdZ.nil _,Bk.new ?_,Bk.nil⟩,(clB hB)⟩;all_goals first
  | (simp;done)
  | (simp;omega)
  | omega
theorem zBR (x:Wc.In) (av:Option Addr) (n cap:Nat) (tl:List Int) (at':Int) (w:World) (ha:0<=at'/\at'<=1000000) (hz:RdZ w (.slice av n cap) tl):Calls prog 35 #[inV x (.slice av n cap),.int .i64 at'] w λe w'=>OnP w (.slice av n cap) w' (onw x.op x.a x.b tl at') e/\Below w.heap.size w w':=by
 unfold onw;by_cases h12:x.op=12
 ·rw [if_pos h12];exact zFG x _ at' w h12 ha
 by_cases h13:x.op=13
 ·rw [if_neg h12,if_pos h13];exact zFZ x av n cap tl at' w h13 ha hz
 by_cases h14:x.op=14
 ·rw [if_neg h12,if_neg h13,if_pos h14];exact zF5 x av n cap tl at' w h14 ha hz
 by_cases h15:x.op=15
 ·rw [if_neg h12,if_neg h13,if_neg h14,if_pos h15];exact zFV x av n cap tl at' w h15 ha hz
 by_cases h16:x.op=16
 ·rw [if_neg h12,if_neg h13,if_neg h14,if_neg h15,if_pos h16];exact zF6 x av n cap tl at' w h16 ha hz
 rw [if_neg h12,if_neg h13,if_neg h14,if_neg h15,if_neg h16];exact zG7 x av n cap at' w (by omega) ha
