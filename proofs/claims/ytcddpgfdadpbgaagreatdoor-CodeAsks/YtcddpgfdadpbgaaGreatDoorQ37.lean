/- KFormC, KFormD, KFormE, KFormF, KFormG. -/
import Derived.Test.YtcddpgfdadpbgaaGreatDoorQ36
set_option maxHeartbeats 4000000
set_option maxRecDepth 100000
namespace Go.Proofs.YtcddpgfdadpbgaaGreatDoor
open Tryz
open Go.RowKit
set_option linter.unusedVariables false
theorem zJm (x:Wc.In) (av:Option Addr) (c:Nat) (w:World) (hk:x.op=1) (hf:Wt.FitV x.v) :
  CR 39 #[inV x (.slice av 0 c)] w (.bool (smI x ⟨1,0,0,x.v,c0I,a0I,a0I⟩ && Wv.right x.v.k x.v.n x.v.d x.v.t x.v.b x.v.f)):=by
 have BA:∀ w1:World,Calls prog 66 #[.agg (zAD x (.slice av 0 c)).toArray,.agg (zAD ⟨1,0,0,x.v,c0I,a0I,a0I⟩ zAG).toArray] w1 λe w'=>e=.returned (.bool (smI x ⟨1,0,0,x.v,c0I,a0I,a0I⟩))/\Below w1.heap.size w1 w':=λw1=>by
  have h:=zAY x ⟨1,0,0,x.v,c0I,a0I,a0I⟩ (.slice av 0 c) zAG w1;have e:(x.op == (⟨1,0,0,x.v,c0I,a0I,a0I⟩:Wc.In).op)=true:=by show (x.op == 1)=true;rw [hk];rfl
  rw [e,Bool.true_and] at h;exact h
 have CC:=(λw=>zDU x.v w hf:∀ w:World,CR 67 #[.agg #[.int .i64 x.v.k,.int .i64 x.v.n,.int .i64 x.v.d,.string x.v.t,.bool x.v.b,.int .i64 x.v.f]] w (.bool (Wv.right x.v.k x.v.n x.v.d x.v.t x.v.b x.v.f)))
 obtain ⟨tv,htv⟩:∃ tv,Value.slice av 0 c=tv:=⟨_,rfl⟩
 have T22:(zAD x tv)[22]? = some (.slice av 0 c):=by rw [htv];rfl
 rw [htv] at BA ⊢;generalize smI x ⟨1,0,0,x.v,c0I,a0I,a0I⟩=qb at *;generalize Wv.right x.v.k x.v.n x.v.d x.v.t x.v.b x.v.f=qc at *;have pA0:AtL (zAI w x tv) w.heap.size (zAD x tv):=(AtL.new0 w _ _).alloc _;have pO0:AtL (zAI w x tv) (w.heap.size+1) (zAD (zAE 0) zAG):=AtL.new1 w _ _ _;have hth:World.there (zAI w x tv) (w.heap.size+1) 0 (zAD (zAE 1) zAG).toArray.size:=pO0.there;have hne:w.heap.size+1 ≠ w.heap.size:=by omega
 have pA:=pA0.farAll hne 0 (zAD (zAE 1) zAG);have pO:AtL ((zAI w x tv).setCells (w.heap.size+1) 0 (zAD (zAE 1) zAG)) (w.heap.size+1) (zAD (zAE 1) zAG):=pO0.setAll rfl;have hBa:Below w.heap.size w ((zAI w x tv).setCells (w.heap.size+1) 0 (zAD (zAE 1) zAG)):=zA8 (zAJ (zAJ (Below.refl _ w) _) _) (Nat.le_succ _) _ 0;clear pA0 pO0;have n0:(zAD x tv)[0]? = some (.int .i64 1):=by rw [<-hk];rfl
 have a0:World.cell? ((zAI w x tv).setCells (w.heap.size+1) 0 (zAD (zAE 1) zAG)) ⟨w.heap.size,0,none⟩=some (.int .i64 1):=pA.2.1 0 _ n0;show Calls _ _ #[.agg (zAD x tv).toArray] _ _
 have cA0:(zAI w x tv).cell? ⟨w.heap.size,0,none⟩=some (.int .i64 1):=((AtL.new0 w _ _).alloc _:AtL (zAI w x tv) w.heap.size (zAD x tv)).2.1 0 _ n0;have pX:=AtL.new0 w 52 (zAD x tv);have c0A:=pX.2.1 0 _ n0;have c22:=pX.2.1 22 _ T22;clear htv T22 cA0 pX;go_enter func39,ntmps39;go_upto_region 3 with fail
 go_upto_region 4 with ((with_reducible refine wpList_store_mid ?_ 52 (.tmp 3) (.tmp 19) ?_ (w.heap.size+1) 0 (zAD (zAE 1) zAG).toArray ?_ ?_ ?_ ?_ ?_ ?_);rfl;rfl;rfl;rfl;exact hth;kernel_rfl;exact zAT _ _ _ _)
 generalize (zAI w x tv).setCells (w.heap.size+1) 0 (zAD (zAE 1) zAG)=W0 at *;clear hth c0A c22;have pA1:=pA;have pO1:=pO;have hB1:=hBa;clear pA pO hBa;have a3:=pA1.2.1 3 _ rfl;have o3:=pO1.2.1 3 _ rfl;have f3:=pO1.2.2 3 (by show 3<23;decide);have a4:=pA1.2.1 4 _ rfl;have o4:=pO1.2.1 4 _ rfl;have f4:=pO1.2.2 4 (by show 4<23;decide);have a5:=pA1.2.1 5 _ rfl;have o5:=pO1.2.1 5 _ rfl;have f5:=pO1.2.2 5 (by show 5<23;decide);have a6:=pA1.2.1 6 _ rfl;have o6:=pO1.2.1 6 _ rfl;have f6:=pO1.2.2 6 (by show 6<23;decide);have a7:=pA1.2.1 7 _ rfl;have o7:=pO1.2.1 7 _ rfl;have f7:=pO1.2.2 7 (by show 7<23;decide);have a8:=pA1.2.1 8 _ rfl;have o8:=pO1.2.1 8 _ rfl;have f8:=pO1.2.2 8 (by show 8<23;decide);go_upto_region 7 with fail
 have pA2:AtL ((((((W0.setCell ⟨w.heap.size+1,3,none⟩ (.int .i64 x.v.k)).setCell ⟨w.heap.size+1,4,none⟩ (.int .i64 x.v.n)).setCell ⟨w.heap.size+1,5,none⟩ (.int .i64 x.v.d)).setCell ⟨w.heap.size+1,6,none⟩ (.string x.v.t)).setCell ⟨w.heap.size+1,7,none⟩ (.bool x.v.b)).setCell ⟨w.heap.size+1,8,none⟩ (.int .i64 x.v.f)) w.heap.size (zAD x tv):=((((((pA1.far hne 3 (.int .i64 x.v.k)).far hne 4 (.int .i64 x.v.n)).far hne 5 (.int .i64 x.v.d)).far hne 6 (.string x.v.t)).far hne 7 (.bool x.v.b)).far hne 8 (.int .i64 x.v.f))
 have pO2:=((((((pO1.set 3 (.int .i64 x.v.k)).set 4 (.int .i64 x.v.n)).set 5 (.int .i64 x.v.d)).set 6 (.string x.v.t)).set 7 (.bool x.v.b)).set 8 (.int .i64 x.v.f))
 have hB2:Below w.heap.size w ((((((W0.setCell ⟨w.heap.size+1,3,none⟩ (.int .i64 x.v.k)).setCell ⟨w.heap.size+1,4,none⟩ (.int .i64 x.v.n)).setCell ⟨w.heap.size+1,5,none⟩ (.int .i64 x.v.d)).setCell ⟨w.heap.size+1,6,none⟩ (.string x.v.t)).setCell ⟨w.heap.size+1,7,none⟩ (.bool x.v.b)).setCell ⟨w.heap.size+1,8,none⟩ (.int .i64 x.v.f)):=(clB hB1)
 clear pA1 pO1 hB1 a3 o3 f3 a4 o4 f4 a5 o5 f5 a6 o6 f6 a7 o7 f7 a8 o8 f8;generalize ((((((W0.setCell ⟨w.heap.size+1,3,none⟩ (.int .i64 x.v.k)).setCell ⟨w.heap.size+1,4,none⟩ (.int .i64 x.v.n)).setCell ⟨w.heap.size+1,5,none⟩ (.int .i64 x.v.d)).setCell ⟨w.heap.size+1,6,none⟩ (.string x.v.t)).setCell ⟨w.heap.size+1,7,none⟩ (.bool x.v.b)).setCell ⟨w.heap.size+1,8,none⟩ (.int .i64 x.v.f))=W1 at *;have pA1:=pA2;have pO1:=pO2;have hB1:=hB2;clear pA2 pO2 hB2;have pOY:AtL W1 (w.heap.size+1) (zAD ⟨1,0,0,x.v,c0I,a0I,a0I⟩ zAG):=pO1;have rA:=pA1.range;have rO:=pOY.range;clear pO1 pOY;have e3:=pA1.2.1 3 _ rfl;have e4:=pA1.2.1 4 _ rfl;have e5:=pA1.2.1 5 _ rfl;have e6:=pA1.2.1 6 _ rfl;have e7:=pA1.2.1 7 _ rfl;have e8:=pA1.2.1 8 _ rfl;clear a0;go_wp2_with (first | (refine zAA (by rfl) 52 (.tmp 1) rfl w.heap.size 0 rfl (zAD x tv) _ rA underlying52 rfl (by kernel_rfl) ?_) | (refine zAA (by rfl) 52 (.tmp 3) rfl (w.heap.size+1) 0 rfl (zAD ⟨1,0,0,x.v,c0I,a0I,a0I⟩ zAG) _ rO underlying52 rfl (by kernel_rfl) ?_))
 refine (BA _).mono ?_;rintro e w5 ⟨rfl,hb5⟩;have hB5:=zAB hB1 hb5;clear BA rA rO;cases qb with
 | false =>
  go_wp2;go_ret;exact ⟨by simp,hB5⟩
 | true =>
  replace e3:=zAC hb5 e3
  replace e4:=zAC hb5 e4
  replace e5:=zAC hb5 e5
  replace e6:=zAC hb5 e6
  replace e7:=zAC hb5 e7
  replace e8:=zAC hb5 e8
  go_wp2_with fail
  refine (CC _).mono ?_;rintro e w6 ⟨rfl,hb6⟩;have hB6:=zAB hB5 hb6;cases qc
  ·go_wp2;go_ret;exact ⟨by simp,hB6⟩
  ·go_wp2;go_ret;exact ⟨by simp,hB6⟩
theorem zHx (x:Wc.In) (av:Option Addr) (c:Nat) (w:World) (hk:x.op=13) :
  CR 39 #[inV x (.slice av 0 c)] w (.bool (smI x ⟨13,x.a,0,v0I,c0I,a0I,a0I⟩)):=by
 have BA:∀ w1:World,Calls prog 66 #[.agg (zAD x (.slice av 0 c)).toArray,.agg (zAD ⟨13,x.a,0,v0I,c0I,a0I,a0I⟩ zAG).toArray] w1 λe w'=>e=.returned (.bool (smI x ⟨13,x.a,0,v0I,c0I,a0I,a0I⟩))/\Below w1.heap.size w1 w':=λw1=>by
  have h:=zAY x ⟨13,x.a,0,v0I,c0I,a0I,a0I⟩ (.slice av 0 c) zAG w1;have e:(x.op == (⟨13,x.a,0,v0I,c0I,a0I,a0I⟩:Wc.In).op)=true:=by show (x.op == 13)=true;rw [hk];rfl
  rw [e,Bool.true_and] at h;exact h
 obtain ⟨tv,htv⟩:∃ tv,Value.slice av 0 c=tv:=⟨_,rfl⟩
 have T22:(zAD x tv)[22]? = some (.slice av 0 c):=by rw [htv];rfl
 rw [htv] at BA ⊢;generalize smI x ⟨13,x.a,0,v0I,c0I,a0I,a0I⟩=qb at *;have pA0:AtL (zAI w x tv) w.heap.size (zAD x tv):=(AtL.new0 w _ _).alloc _;have pO0:AtL (zAI w x tv) (w.heap.size+1) (zAD (zAE 0) zAG):=AtL.new1 w _ _ _;have hth:World.there (zAI w x tv) (w.heap.size+1) 0 (zAD (zAE 13) zAG).toArray.size:=pO0.there;have hne:w.heap.size+1 ≠ w.heap.size:=by omega
 have pA:=pA0.farAll hne 0 (zAD (zAE 13) zAG);have pO:AtL ((zAI w x tv).setCells (w.heap.size+1) 0 (zAD (zAE 13) zAG)) (w.heap.size+1) (zAD (zAE 13) zAG):=pO0.setAll rfl;have hBa:Below w.heap.size w ((zAI w x tv).setCells (w.heap.size+1) 0 (zAD (zAE 13) zAG)):=zA8 (zAJ (zAJ (Below.refl _ w) _) _) (Nat.le_succ _) _ 0;clear pA0 pO0;have n0:(zAD x tv)[0]? = some (.int .i64 13):=by rw [<-hk];rfl
 have a0:World.cell? ((zAI w x tv).setCells (w.heap.size+1) 0 (zAD (zAE 13) zAG)) ⟨w.heap.size,0,none⟩=some (.int .i64 13):=pA.2.1 0 _ n0;show Calls _ _ #[.agg (zAD x tv).toArray] _ _
 have cA0:(zAI w x tv).cell? ⟨w.heap.size,0,none⟩=some (.int .i64 13):=((AtL.new0 w _ _).alloc _:AtL (zAI w x tv) w.heap.size (zAD x tv)).2.1 0 _ n0;have pX:=AtL.new0 w 52 (zAD x tv);have c0A:=pX.2.1 0 _ n0;have c22:=pX.2.1 22 _ T22;clear htv T22 cA0 pX;go_enter func39,ntmps39;go_upto_region 3 with fail
 go_upto_region 4 with ((with_reducible refine wpList_store_mid ?_ 52 (.tmp 3) (.tmp 19) ?_ (w.heap.size+1) 0 (zAD (zAE 13) zAG).toArray ?_ ?_ ?_ ?_ ?_ ?_);rfl;rfl;rfl;rfl;exact hth;kernel_rfl;exact zAT _ _ _ _)
 generalize (zAI w x tv).setCells (w.heap.size+1) 0 (zAD (zAE 13) zAG)=W0 at *;clear hth c0A c22;have pA1:=pA;have pO1:=pO;have hB1:=hBa;clear pA pO hBa;have a1:=pA1.2.1 1 _ rfl;have o1:=pO1.2.1 1 _ rfl;have f1:=pO1.2.2 1 (by show 1<23;decide);go_upto_region 48 with fail
 have pA2:AtL (W0.setCell ⟨w.heap.size+1,1,none⟩ (.int .i64 x.a)) w.heap.size (zAD x tv):=(pA1.far hne 1 (.int .i64 x.a))
 have pO2:=(pO1.set 1 (.int .i64 x.a))
 have hB2:Below w.heap.size w (W0.setCell ⟨w.heap.size+1,1,none⟩ (.int .i64 x.a)):=(clB hB1)
 clear pA1 pO1 hB1 a1 o1 f1;generalize (W0.setCell ⟨w.heap.size+1,1,none⟩ (.int .i64 x.a))=W1 at *;have pA1:=pA2;have pO1:=pO2;have hB1:=hB2;clear pA2 pO2 hB2;have pOY:AtL W1 (w.heap.size+1) (zAD ⟨13,x.a,0,v0I,c0I,a0I,a0I⟩ zAG):=pO1;have rA:=pA1.range;have rO:=pOY.range;clear pO1 pOY;clear a0;go_wp2_with (first | (refine zAA (by rfl) 52 (.tmp 1) rfl w.heap.size 0 rfl (zAD x tv) _ rA underlying52 rfl (by kernel_rfl) ?_) | (refine zAA (by rfl) 52 (.tmp 3) rfl (w.heap.size+1) 0 rfl (zAD ⟨13,x.a,0,v0I,c0I,a0I,a0I⟩ zAG) _ rO underlying52 rfl (by kernel_rfl) ?_))
 refine (BA _).mono ?_;rintro e w5 ⟨rfl,hb5⟩;have hB5:=zAB hB1 hb5;clear BA rA rO;go_wp2;go_ret;exact ⟨by simp,hB5⟩
theorem zHL (x:Wc.In) (av:Option Addr) (c:Nat) (w:World) (hk:x.op=14) :
  CR 39 #[inV x (.slice av 0 c)] w (.bool (smI x ⟨14,x.a,0,v0I,c0I,a0I,a0I⟩)):=by
 have BA:∀ w1:World,Calls prog 66 #[.agg (zAD x (.slice av 0 c)).toArray,.agg (zAD ⟨14,x.a,0,v0I,c0I,a0I,a0I⟩ zAG).toArray] w1 λe w'=>e=.returned (.bool (smI x ⟨14,x.a,0,v0I,c0I,a0I,a0I⟩))/\Below w1.heap.size w1 w':=λw1=>by
  have h:=zAY x ⟨14,x.a,0,v0I,c0I,a0I,a0I⟩ (.slice av 0 c) zAG w1;have e:(x.op == (⟨14,x.a,0,v0I,c0I,a0I,a0I⟩:Wc.In).op)=true:=by show (x.op == 14)=true;rw [hk];rfl
  rw [e,Bool.true_and] at h;exact h
 obtain ⟨tv,htv⟩:∃ tv,Value.slice av 0 c=tv:=⟨_,rfl⟩
 have T22:(zAD x tv)[22]? = some (.slice av 0 c):=by rw [htv];rfl
 rw [htv] at BA ⊢;generalize smI x ⟨14,x.a,0,v0I,c0I,a0I,a0I⟩=qb at *;have pA0:AtL (zAI w x tv) w.heap.size (zAD x tv):=(AtL.new0 w _ _).alloc _;have pO0:AtL (zAI w x tv) (w.heap.size+1) (zAD (zAE 0) zAG):=AtL.new1 w _ _ _;have hth:World.there (zAI w x tv) (w.heap.size+1) 0 (zAD (zAE 14) zAG).toArray.size:=pO0.there;have hne:w.heap.size+1 ≠ w.heap.size:=by omega
 have pA:=pA0.farAll hne 0 (zAD (zAE 14) zAG);have pO:AtL ((zAI w x tv).setCells (w.heap.size+1) 0 (zAD (zAE 14) zAG)) (w.heap.size+1) (zAD (zAE 14) zAG):=pO0.setAll rfl;have hBa:Below w.heap.size w ((zAI w x tv).setCells (w.heap.size+1) 0 (zAD (zAE 14) zAG)):=zA8 (zAJ (zAJ (Below.refl _ w) _) _) (Nat.le_succ _) _ 0;clear pA0 pO0;have n0:(zAD x tv)[0]? = some (.int .i64 14):=by rw [<-hk];rfl
 have a0:World.cell? ((zAI w x tv).setCells (w.heap.size+1) 0 (zAD (zAE 14) zAG)) ⟨w.heap.size,0,none⟩=some (.int .i64 14):=pA.2.1 0 _ n0;show Calls _ _ #[.agg (zAD x tv).toArray] _ _
 have cA0:(zAI w x tv).cell? ⟨w.heap.size,0,none⟩=some (.int .i64 14):=((AtL.new0 w _ _).alloc _:AtL (zAI w x tv) w.heap.size (zAD x tv)).2.1 0 _ n0;have pX:=AtL.new0 w 52 (zAD x tv);have c0A:=pX.2.1 0 _ n0;have c22:=pX.2.1 22 _ T22;clear htv T22 cA0 pX;go_enter func39,ntmps39;go_upto_region 3 with fail
 go_upto_region 4 with ((with_reducible refine wpList_store_mid ?_ 52 (.tmp 3) (.tmp 19) ?_ (w.heap.size+1) 0 (zAD (zAE 14) zAG).toArray ?_ ?_ ?_ ?_ ?_ ?_);rfl;rfl;rfl;rfl;exact hth;kernel_rfl;exact zAT _ _ _ _)
 generalize (zAI w x tv).setCells (w.heap.size+1) 0 (zAD (zAE 14) zAG)=W0 at *;clear hth c0A c22;have pA1:=pA;have pO1:=pO;have hB1:=hBa;clear pA pO hBa;have a1:=pA1.2.1 1 _ rfl;have o1:=pO1.2.1 1 _ rfl;have f1:=pO1.2.2 1 (by show 1<23;decide);go_upto_region 48 with fail
 have pA2:AtL (W0.setCell ⟨w.heap.size+1,1,none⟩ (.int .i64 x.a)) w.heap.size (zAD x tv):=(pA1.far hne 1 (.int .i64 x.a))
 have pO2:=(pO1.set 1 (.int .i64 x.a))
 have hB2:Below w.heap.size w (W0.setCell ⟨w.heap.size+1,1,none⟩ (.int .i64 x.a)):=(clB hB1)
 clear pA1 pO1 hB1 a1 o1 f1;generalize (W0.setCell ⟨w.heap.size+1,1,none⟩ (.int .i64 x.a))=W1 at *;have pA1:=pA2;have pO1:=pO2;have hB1:=hB2;clear pA2 pO2 hB2;have pOY:AtL W1 (w.heap.size+1) (zAD ⟨14,x.a,0,v0I,c0I,a0I,a0I⟩ zAG):=pO1;have rA:=pA1.range;have rO:=pOY.range;clear pO1 pOY;clear a0;go_wp2_with (first | (refine zAA (by rfl) 52 (.tmp 1) rfl w.heap.size 0 rfl (zAD x tv) _ rA underlying52 rfl (by kernel_rfl) ?_) | (refine zAA (by rfl) 52 (.tmp 3) rfl (w.heap.size+1) 0 rfl (zAD ⟨14,x.a,0,v0I,c0I,a0I,a0I⟩ zAG) _ rO underlying52 rfl (by kernel_rfl) ?_))
 refine (BA _).mono ?_;rintro e w5 ⟨rfl,hb5⟩;have hB5:=zAB hB1 hb5;clear BA rA rO;go_wp2;go_ret;exact ⟨by simp,hB5⟩
theorem zIx (x:Wc.In) (av:Option Addr) (c:Nat) (w:World) (hk:x.op=2) :
  CR 39 #[inV x (.slice av 0 c)] w (.bool (smI x ⟨2,0,0,v0I,x.ce,a0I,a0I⟩ && Wpl.rightC x.ce.s x.ce.r x.ce.c)):=by
 have BA:∀ w1:World,Calls prog 66 #[.agg (zAD x (.slice av 0 c)).toArray,.agg (zAD ⟨2,0,0,v0I,x.ce,a0I,a0I⟩ zAG).toArray] w1 λe w'=>e=.returned (.bool (smI x ⟨2,0,0,v0I,x.ce,a0I,a0I⟩))/\Below w1.heap.size w1 w':=λw1=>by
  have h:=zAY x ⟨2,0,0,v0I,x.ce,a0I,a0I⟩ (.slice av 0 c) zAG w1;have e:(x.op == (⟨2,0,0,v0I,x.ce,a0I,a0I⟩:Wc.In).op)=true:=by show (x.op == 2)=true;rw [hk];rfl
  rw [e,Bool.true_and] at h;exact h
 have CC:=(λw=>zBy x.ce.s x.ce.r x.ce.c w:∀ w:World,CR 48 #[.agg #[.int .i64 x.ce.s,.int .i64 x.ce.r,.int .i64 x.ce.c]] w (.bool (Wpl.rightC x.ce.s x.ce.r x.ce.c)))
 obtain ⟨tv,htv⟩:∃ tv,Value.slice av 0 c=tv:=⟨_,rfl⟩
 have T22:(zAD x tv)[22]? = some (.slice av 0 c):=by rw [htv];rfl
 rw [htv] at BA ⊢;generalize smI x ⟨2,0,0,v0I,x.ce,a0I,a0I⟩=qb at *;generalize Wpl.rightC x.ce.s x.ce.r x.ce.c=qc at *;have pA0:AtL (zAI w x tv) w.heap.size (zAD x tv):=(AtL.new0 w _ _).alloc _;have pO0:AtL (zAI w x tv) (w.heap.size+1) (zAD (zAE 0) zAG):=AtL.new1 w _ _ _;have hth:World.there (zAI w x tv) (w.heap.size+1) 0 (zAD (zAE 2) zAG).toArray.size:=pO0.there;have hne:w.heap.size+1 ≠ w.heap.size:=by omega
 have pA:=pA0.farAll hne 0 (zAD (zAE 2) zAG);have pO:AtL ((zAI w x tv).setCells (w.heap.size+1) 0 (zAD (zAE 2) zAG)) (w.heap.size+1) (zAD (zAE 2) zAG):=pO0.setAll rfl;have hBa:Below w.heap.size w ((zAI w x tv).setCells (w.heap.size+1) 0 (zAD (zAE 2) zAG)):=zA8 (zAJ (zAJ (Below.refl _ w) _) _) (Nat.le_succ _) _ 0;clear pA0 pO0;have n0:(zAD x tv)[0]? = some (.int .i64 2):=by rw [<-hk];rfl
 have a0:World.cell? ((zAI w x tv).setCells (w.heap.size+1) 0 (zAD (zAE 2) zAG)) ⟨w.heap.size,0,none⟩=some (.int .i64 2):=pA.2.1 0 _ n0;show Calls _ _ #[.agg (zAD x tv).toArray] _ _
 have cA0:(zAI w x tv).cell? ⟨w.heap.size,0,none⟩=some (.int .i64 2):=((AtL.new0 w _ _).alloc _:AtL (zAI w x tv) w.heap.size (zAD x tv)).2.1 0 _ n0;have pX:=AtL.new0 w 52 (zAD x tv);have c0A:=pX.2.1 0 _ n0;have c22:=pX.2.1 22 _ T22;clear htv T22 cA0 pX;go_enter func39,ntmps39;go_upto_region 3 with fail
 go_upto_region 4 with ((with_reducible refine wpList_store_mid ?_ 52 (.tmp 3) (.tmp 19) ?_ (w.heap.size+1) 0 (zAD (zAE 2) zAG).toArray ?_ ?_ ?_ ?_ ?_ ?_);rfl;rfl;rfl;rfl;exact hth;kernel_rfl;exact zAT _ _ _ _)
 generalize (zAI w x tv).setCells (w.heap.size+1) 0 (zAD (zAE 2) zAG)=W0 at *;clear hth c0A c22;have pA1:=pA;have pO1:=pO;have hB1:=hBa;clear pA pO hBa;have a9:=pA1.2.1 9 _ rfl;have o9:=pO1.2.1 9 _ rfl;have f9:=pO1.2.2 9 (by show 9<23;decide);have a10:=pA1.2.1 10 _ rfl;have o10:=pO1.2.1 10 _ rfl;have f10:=pO1.2.2 10 (by show 10<23;decide);have a11:=pA1.2.1 11 _ rfl;have o11:=pO1.2.1 11 _ rfl;have f11:=pO1.2.2 11 (by show 11<23;decide);go_upto_region 10 with fail
 have pA2:AtL (((W0.setCell ⟨w.heap.size+1,9,none⟩ (.int .i64 x.ce.s)).setCell ⟨w.heap.size+1,10,none⟩ (.int .i64 x.ce.r)).setCell ⟨w.heap.size+1,11,none⟩ (.int .i64 x.ce.c)) w.heap.size (zAD x tv):=(((pA1.far hne 9 (.int .i64 x.ce.s)).far hne 10 (.int .i64 x.ce.r)).far hne 11 (.int .i64 x.ce.c))
 have pO2:=(((pO1.set 9 (.int .i64 x.ce.s)).set 10 (.int .i64 x.ce.r)).set 11 (.int .i64 x.ce.c))
 have hB2:Below w.heap.size w (((W0.setCell ⟨w.heap.size+1,9,none⟩ (.int .i64 x.ce.s)).setCell ⟨w.heap.size+1,10,none⟩ (.int .i64 x.ce.r)).setCell ⟨w.heap.size+1,11,none⟩ (.int .i64 x.ce.c)):=(clB hB1)
 clear pA1 pO1 hB1 a9 o9 f9 a10 o10 f10 a11 o11 f11;generalize (((W0.setCell ⟨w.heap.size+1,9,none⟩ (.int .i64 x.ce.s)).setCell ⟨w.heap.size+1,10,none⟩ (.int .i64 x.ce.r)).setCell ⟨w.heap.size+1,11,none⟩ (.int .i64 x.ce.c))=W1 at *;have pA1:=pA2;have pO1:=pO2;have hB1:=hB2;clear pA2 pO2 hB2;have pOY:AtL W1 (w.heap.size+1) (zAD ⟨2,0,0,v0I,x.ce,a0I,a0I⟩ zAG):=pO1;have rA:=pA1.range;have rO:=pOY.range;clear pO1 pOY;have e9:=pA1.2.1 9 _ rfl;have e10:=pA1.2.1 10 _ rfl;have e11:=pA1.2.1 11 _ rfl;clear a0;go_wp2_with (first | (refine zAA (by rfl) 52 (.tmp 1) rfl w.heap.size 0 rfl (zAD x tv) _ rA underlying52 rfl (by kernel_rfl) ?_) | (refine zAA (by rfl) 52 (.tmp 3) rfl (w.heap.size+1) 0 rfl (zAD ⟨2,0,0,v0I,x.ce,a0I,a0I⟩ zAG) _ rO underlying52 rfl (by kernel_rfl) ?_))
 refine (BA _).mono ?_;rintro e w5 ⟨rfl,hb5⟩;have hB5:=zAB hB1 hb5;clear BA rA rO;cases qb with
 | false =>
  go_wp2;go_ret;exact ⟨by simp,hB5⟩
 | true =>
  replace e9:=zAC hb5 e9
  replace e10:=zAC hb5 e10
  replace e11:=zAC hb5 e11
  go_wp2_with fail
  refine (CC _).mono ?_;rintro e w6 ⟨rfl,hb6⟩;have hB6:=zAB hB5 hb6;cases qc
  ·go_wp2;go_ret;exact ⟨by simp,hB6⟩
  ·go_wp2;go_ret;exact ⟨by simp,hB6⟩
theorem zId (x:Wc.In) (av:Option Addr) (c:Nat) (w:World) (hk:x.op=8) :
  CR 39 #[inV x (.slice av 0 c)] w (.bool (smI x ⟨8,0,0,v0I,c0I,x.ar,a0I⟩ && Wpl.rightA x.ar.s x.ar.t x.ar.l x.ar.b x.ar.r)):=by
 have BA:∀ w1:World,Calls prog 66 #[.agg (zAD x (.slice av 0 c)).toArray,.agg (zAD ⟨8,0,0,v0I,c0I,x.ar,a0I⟩ zAG).toArray] w1 λe w'=>e=.returned (.bool (smI x ⟨8,0,0,v0I,c0I,x.ar,a0I⟩))/\Below w1.heap.size w1 w':=λw1=>by
  have h:=zAY x ⟨8,0,0,v0I,c0I,x.ar,a0I⟩ (.slice av 0 c) zAG w1;have e:(x.op == (⟨8,0,0,v0I,c0I,x.ar,a0I⟩:Wc.In).op)=true:=by show (x.op == 8)=true;rw [hk];rfl
  rw [e,Bool.true_and] at h;exact h
 have CC:=(λw=>zAi x.ar.s x.ar.t x.ar.l x.ar.b x.ar.r w:∀ w:World,CR 47 #[.agg #[.int .i64 x.ar.s,.int .i64 x.ar.t,.int .i64 x.ar.l,.int .i64 x.ar.b,.int .i64 x.ar.r]] w (.bool (Wpl.rightA x.ar.s x.ar.t x.ar.l x.ar.b x.ar.r)))
 obtain ⟨tv,htv⟩:∃ tv,Value.slice av 0 c=tv:=⟨_,rfl⟩
 have T22:(zAD x tv)[22]? = some (.slice av 0 c):=by rw [htv];rfl
 rw [htv] at BA ⊢;generalize smI x ⟨8,0,0,v0I,c0I,x.ar,a0I⟩=qb at *;generalize Wpl.rightA x.ar.s x.ar.t x.ar.l x.ar.b x.ar.r=qc at *;have pA0:AtL (zAI w x tv) w.heap.size (zAD x tv):=(AtL.new0 w _ _).alloc _;have pO0:AtL (zAI w x tv) (w.heap.size+1) (zAD (zAE 0) zAG):=AtL.new1 w _ _ _;have hth:World.there (zAI w x tv) (w.heap.size+1) 0 (zAD (zAE 8) zAG).toArray.size:=pO0.there;have hne:w.heap.size+1 ≠ w.heap.size:=by omega
 have pA:=pA0.farAll hne 0 (zAD (zAE 8) zAG);have pO:AtL ((zAI w x tv).setCells (w.heap.size+1) 0 (zAD (zAE 8) zAG)) (w.heap.size+1) (zAD (zAE 8) zAG):=pO0.setAll rfl;have hBa:Below w.heap.size w ((zAI w x tv).setCells (w.heap.size+1) 0 (zAD (zAE 8) zAG)):=zA8 (zAJ (zAJ (Below.refl _ w) _) _) (Nat.le_succ _) _ 0;clear pA0 pO0;have n0:(zAD x tv)[0]? = some (.int .i64 8):=by rw [<-hk];rfl
 have a0:World.cell? ((zAI w x tv).setCells (w.heap.size+1) 0 (zAD (zAE 8) zAG)) ⟨w.heap.size,0,none⟩=some (.int .i64 8):=pA.2.1 0 _ n0;show Calls _ _ #[.agg (zAD x tv).toArray] _ _
 have cA0:(zAI w x tv).cell? ⟨w.heap.size,0,none⟩=some (.int .i64 8):=((AtL.new0 w _ _).alloc _:AtL (zAI w x tv) w.heap.size (zAD x tv)).2.1 0 _ n0;have pX:=AtL.new0 w 52 (zAD x tv);have c0A:=pX.2.1 0 _ n0;have c22:=pX.2.1 22 _ T22;clear htv T22 cA0 pX;go_enter func39,ntmps39;go_upto_region 3 with fail
 go_upto_region 4 with ((with_reducible refine wpList_store_mid ?_ 52 (.tmp 3) (.tmp 19) ?_ (w.heap.size+1) 0 (zAD (zAE 8) zAG).toArray ?_ ?_ ?_ ?_ ?_ ?_);rfl;rfl;rfl;rfl;exact hth;kernel_rfl;exact zAT _ _ _ _)
 generalize (zAI w x tv).setCells (w.heap.size+1) 0 (zAD (zAE 8) zAG)=W0 at *;clear hth c0A c22;have pA1:=pA;have pO1:=pO;have hB1:=hBa;clear pA pO hBa;have a12:=pA1.2.1 12 _ rfl;have o12:=pO1.2.1 12 _ rfl;have f12:=pO1.2.2 12 (by show 12<23;decide);have a13:=pA1.2.1 13 _ rfl;have o13:=pO1.2.1 13 _ rfl;have f13:=pO1.2.2 13 (by show 13<23;decide);have a14:=pA1.2.1 14 _ rfl;have o14:=pO1.2.1 14 _ rfl;have f14:=pO1.2.2 14 (by show 14<23;decide);have a15:=pA1.2.1 15 _ rfl;have o15:=pO1.2.1 15 _ rfl;have f15:=pO1.2.2 15 (by show 15<23;decide);have a16:=pA1.2.1 16 _ rfl;have o16:=pO1.2.1 16 _ rfl;have f16:=pO1.2.2 16 (by show 16<23;decide);go_upto_region 32 with fail
 have pA2:AtL (((((W0.setCell ⟨w.heap.size+1,12,none⟩ (.int .i64 x.ar.s)).setCell ⟨w.heap.size+1,13,none⟩ (.int .i64 x.ar.t)).setCell ⟨w.heap.size+1,14,none⟩ (.int .i64 x.ar.l)).setCell ⟨w.heap.size+1,15,none⟩ (.int .i64 x.ar.b)).setCell ⟨w.heap.size+1,16,none⟩ (.int .i64 x.ar.r)) w.heap.size (zAD x tv):=(((((pA1.far hne 12 (.int .i64 x.ar.s)).far hne 13 (.int .i64 x.ar.t)).far hne 14 (.int .i64 x.ar.l)).far hne 15 (.int .i64 x.ar.b)).far hne 16 (.int .i64 x.ar.r))
 have pO2:=(((((pO1.set 12 (.int .i64 x.ar.s)).set 13 (.int .i64 x.ar.t)).set 14 (.int .i64 x.ar.l)).set 15 (.int .i64 x.ar.b)).set 16 (.int .i64 x.ar.r))
 have hB2:Below w.heap.size w (((((W0.setCell ⟨w.heap.size+1,12,none⟩ (.int .i64 x.ar.s)).setCell ⟨w.heap.size+1,13,none⟩ (.int .i64 x.ar.t)).setCell ⟨w.heap.size+1,14,none⟩ (.int .i64 x.ar.l)).setCell ⟨w.heap.size+1,15,none⟩ (.int .i64 x.ar.b)).setCell ⟨w.heap.size+1,16,none⟩ (.int .i64 x.ar.r)):=(clB hB1)
 clear pA1 pO1 hB1 a12 o12 f12 a13 o13 f13 a14 o14 f14 a15 o15 f15 a16 o16 f16;generalize (((((W0.setCell ⟨w.heap.size+1,12,none⟩ (.int .i64 x.ar.s)).setCell ⟨w.heap.size+1,13,none⟩ (.int .i64 x.ar.t)).setCell ⟨w.heap.size+1,14,none⟩ (.int .i64 x.ar.l)).setCell ⟨w.heap.size+1,15,none⟩ (.int .i64 x.ar.b)).setCell ⟨w.heap.size+1,16,none⟩ (.int .i64 x.ar.r))=W1 at *;have pA1:=pA2;have pO1:=pO2;have hB1:=hB2;clear pA2 pO2 hB2;have pOY:AtL W1 (w.heap.size+1) (zAD ⟨8,0,0,v0I,c0I,x.ar,a0I⟩ zAG):=pO1;have rA:=pA1.range;have rO:=pOY.range;clear pO1 pOY;have e12:=pA1.2.1 12 _ rfl;have e13:=pA1.2.1 13 _ rfl;have e14:=pA1.2.1 14 _ rfl;have e15:=pA1.2.1 15 _ rfl;have e16:=pA1.2.1 16 _ rfl;clear a0;go_wp2_with (first | (refine zAA (by rfl) 52 (.tmp 1) rfl w.heap.size 0 rfl (zAD x tv) _ rA underlying52 rfl (by kernel_rfl) ?_) | (refine zAA (by rfl) 52 (.tmp 3) rfl (w.heap.size+1) 0 rfl (zAD ⟨8,0,0,v0I,c0I,x.ar,a0I⟩ zAG) _ rO underlying52 rfl (by kernel_rfl) ?_))
 refine (BA _).mono ?_;rintro e w5 ⟨rfl,hb5⟩;have hB5:=zAB hB1 hb5;clear BA rA rO;cases qb with
 | false =>
  go_wp2;go_ret;exact ⟨by simp,hB5⟩
 | true =>
  replace e12:=zAC hb5 e12
  replace e13:=zAC hb5 e13
  replace e14:=zAC hb5 e14
  replace e15:=zAC hb5 e15
  replace e16:=zAC hb5 e16
  go_wp2_with fail
  refine (CC _).mono ?_;rintro e w6 ⟨rfl,hb6⟩;have hB6:=zAB hB5 hb6;cases qc
  ·go_wp2;go_ret;exact ⟨by simp,hB6⟩
  ·go_wp2;go_ret;exact ⟨by simp,hB6⟩
theorem zJn (x:Wc.In) (av:Option Addr) (c:Nat) (w:World) (hk:x.op=4) :
  CR 39 #[inV x (.slice av 0 c)] w (.bool (smI x ⟨4,x.a,0,v0I,c0I,a0I,a0I⟩ && Wt.isBin x.a)):=by
 have BA:∀ w1:World,Calls prog 66 #[.agg (zAD x (.slice av 0 c)).toArray,.agg (zAD ⟨4,x.a,0,v0I,c0I,a0I,a0I⟩ zAG).toArray] w1 λe w'=>e=.returned (.bool (smI x ⟨4,x.a,0,v0I,c0I,a0I,a0I⟩))/\Below w1.heap.size w1 w':=λw1=>by
  have h:=zAY x ⟨4,x.a,0,v0I,c0I,a0I,a0I⟩ (.slice av 0 c) zAG w1;have e:(x.op == (⟨4,x.a,0,v0I,c0I,a0I,a0I⟩:Wc.In).op)=true:=by show (x.op == 4)=true;rw [hk];rfl
  rw [e,Bool.true_and] at h;exact h
 have CC:=(λw=>(zGg x.a w).mono λe w' h=>⟨h.1,h.2 ▸ Below.refl _ _⟩:∀ w:World,CR 68 #[.int .i64 x.a] w (.bool (Wt.isBin x.a)))
 obtain ⟨tv,htv⟩:∃ tv,Value.slice av 0 c=tv:=⟨_,rfl⟩
 have T22:(zAD x tv)[22]? = some (.slice av 0 c):=by rw [htv];rfl
 rw [htv] at BA ⊢;generalize smI x ⟨4,x.a,0,v0I,c0I,a0I,a0I⟩=qb at *;generalize Wt.isBin x.a=qc at *;have pA0:AtL (zAI w x tv) w.heap.size (zAD x tv):=(AtL.new0 w _ _).alloc _;have pO0:AtL (zAI w x tv) (w.heap.size+1) (zAD (zAE 0) zAG):=AtL.new1 w _ _ _;have hth:World.there (zAI w x tv) (w.heap.size+1) 0 (zAD (zAE 4) zAG).toArray.size:=pO0.there;have hne:w.heap.size+1 ≠ w.heap.size:=by omega
 have pA:=pA0.farAll hne 0 (zAD (zAE 4) zAG);have pO:AtL ((zAI w x tv).setCells (w.heap.size+1) 0 (zAD (zAE 4) zAG)) (w.heap.size+1) (zAD (zAE 4) zAG):=pO0.setAll rfl;have hBa:Below w.heap.size w ((zAI w x tv).setCells (w.heap.size+1) 0 (zAD (zAE 4) zAG)):=zA8 (zAJ (zAJ (Below.refl _ w) _) _) (Nat.le_succ _) _ 0;clear pA0 pO0;have n0:(zAD x tv)[0]? = some (.int .i64 4):=by rw [<-hk];rfl
 have a0:World.cell? ((zAI w x tv).setCells (w.heap.size+1) 0 (zAD (zAE 4) zAG)) ⟨w.heap.size,0,none⟩=some (.int .i64 4):=pA.2.1 0 _ n0;show Calls _ _ #[.agg (zAD x tv).toArray] _ _
 have cA0:(zAI w x tv).cell? ⟨w.heap.size,0,none⟩=some (.int .i64 4):=((AtL.new0 w _ _).alloc _:AtL (zAI w x tv) w.heap.size (zAD x tv)).2.1 0 _ n0;have pX:=AtL.new0 w 52 (zAD x tv);have c0A:=pX.2.1 0 _ n0;have c22:=pX.2.1 22 _ T22;clear htv T22 cA0 pX;go_enter func39,ntmps39;go_upto_region 3 with fail
 go_upto_region 4 with ((with_reducible refine wpList_store_mid ?_ 52 (.tmp 3) (.tmp 19) ?_ (w.heap.size+1) 0 (zAD (zAE 4) zAG).toArray ?_ ?_ ?_ ?_ ?_ ?_);rfl;rfl;rfl;rfl;exact hth;kernel_rfl;exact zAT _ _ _ _)
 generalize (zAI w x tv).setCells (w.heap.size+1) 0 (zAD (zAE 4) zAG)=W0 at *;clear hth c0A c22;have pA1:=pA;have pO1:=pO;have hB1:=hBa;clear pA pO hBa;have a1:=pA1.2.1 1 _ rfl;have o1:=pO1.2.1 1 _ rfl;have f1:=pO1.2.2 1 (by show 1<23;decide);go_upto_region 16 with fail
 have pA2:AtL (W0.setCell ⟨w.heap.size+1,1,none⟩ (.int .i64 x.a)) w.heap.size (zAD x tv):=(pA1.far hne 1 (.int .i64 x.a))
 have pO2:=(pO1.set 1 (.int .i64 x.a))
 have hB2:Below w.heap.size w (W0.setCell ⟨w.heap.size+1,1,none⟩ (.int .i64 x.a)):=(clB hB1)
 clear pA1 pO1 hB1 a1 o1 f1;generalize (W0.setCell ⟨w.heap.size+1,1,none⟩ (.int .i64 x.a))=W1 at *;have pA1:=pA2;have pO1:=pO2;have hB1:=hB2;clear pA2 pO2 hB2;have pOY:AtL W1 (w.heap.size+1) (zAD ⟨4,x.a,0,v0I,c0I,a0I,a0I⟩ zAG):=pO1;have rA:=pA1.range;have rO:=pOY.range;clear pO1 pOY;have e1:=pA1.2.1 1 _ rfl;clear a0;go_wp2_with (first | (refine zAA (by rfl) 52 (.tmp 1) rfl w.heap.size 0 rfl (zAD x tv) _ rA underlying52 rfl (by kernel_rfl) ?_) | (refine zAA (by rfl) 52 (.tmp 3) rfl (w.heap.size+1) 0 rfl (zAD ⟨4,x.a,0,v0I,c0I,a0I,a0I⟩ zAG) _ rO underlying52 rfl (by kernel_rfl) ?_))
 refine (BA _).mono ?_;rintro e w5 ⟨rfl,hb5⟩;have hB5:=zAB hB1 hb5;clear BA rA rO;cases qb with
 | false =>
  go_wp2;go_ret;exact ⟨by simp,hB5⟩
 | true =>
  replace e1:=zAC hb5 e1
  go_wp2_with fail
  refine (CC _).mono ?_;rintro e w6 ⟨rfl,hb6⟩;have hB6:=zAB hB5 hb6;cases qc
  ·go_wp2;go_ret;exact ⟨by simp,hB6⟩
  ·go_wp2;go_ret;exact ⟨by simp,hB6⟩
