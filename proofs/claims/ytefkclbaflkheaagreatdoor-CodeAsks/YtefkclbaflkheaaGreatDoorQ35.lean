/- KFormD, KFormE, KFormF, KFormG, KFormH, KFormI, KFormJ. -/
import Derived.Test.YtefkclbaflkheaaGreatDoorQ34
set_option maxHeartbeats 4000000
set_option maxRecDepth 100000
namespace Go.Proofs.YtefkclbaflkheaaGreatDoor
open Tryz
open Go.RowKit
set_option linter.unusedVariables false
theorem zIh (x:Wc.In) (av:Option Addr) (c:Nat) (w:World) (hk:x.op=13) :
  CR 67 #[inV x (.slice av 0 c)] w (.bool (smI x ⟨13,x.a,0,v0I,c0I,a0I,a0I⟩)):=by
 have BA:∀ w1:World,Calls prog 101 #[.agg (zAD x (.slice av 0 c)).toArray,.agg (zAD ⟨13,x.a,0,v0I,c0I,a0I,a0I⟩ zAG).toArray] w1 λe w'=>e=.returned (.bool (smI x ⟨13,x.a,0,v0I,c0I,a0I,a0I⟩))/\Below w1.heap.size w1 w':=λw1=>by
  have h:=zA2 x ⟨13,x.a,0,v0I,c0I,a0I,a0I⟩ (.slice av 0 c) zAG w1;have e:(x.op == (⟨13,x.a,0,v0I,c0I,a0I,a0I⟩:Wc.In).op)=true:=by show (x.op == 13)=true;rw [hk];rfl
  rw [e,Bool.true_and] at h;exact h
 obtain ⟨tv,htv⟩:∃ tv,Value.slice av 0 c=tv:=⟨_,rfl⟩
 have T22:(zAD x tv)[22]? = some (.slice av 0 c):=by rw [htv];rfl
 rw [htv] at BA ⊢;generalize smI x ⟨13,x.a,0,v0I,c0I,a0I,a0I⟩=qb at *;have pA0:AtL (zAJ w x tv) w.heap.size (zAD x tv):=(AtL.new0 w _ _).alloc _;have pO0:AtL (zAJ w x tv) (w.heap.size+1) (zAD (zAE 0) zAG):=AtL.new1 w _ _ _;have hth:World.there (zAJ w x tv) (w.heap.size+1) 0 (zAD (zAE 13) zAG).toArray.size:=pO0.there;have hne:w.heap.size+1 ≠ w.heap.size:=by omega
 have pA:=pA0.farAll hne 0 (zAD (zAE 13) zAG);have pO:AtL ((zAJ w x tv).setCells (w.heap.size+1) 0 (zAD (zAE 13) zAG)) (w.heap.size+1) (zAD (zAE 13) zAG):=pO0.setAll rfl;have hBa:Below w.heap.size w ((zAJ w x tv).setCells (w.heap.size+1) 0 (zAD (zAE 13) zAG)):=zAa (zAK (zAK (Below.refl _ w) _) _) (Nat.le_succ _) _ 0;clear pA0 pO0;have n0:(zAD x tv)[0]? = some (.int .i64 13):=by rw [<-hk];rfl
 have a0:World.cell? ((zAJ w x tv).setCells (w.heap.size+1) 0 (zAD (zAE 13) zAG)) ⟨w.heap.size,0,none⟩=some (.int .i64 13):=pA.2.1 0 _ n0;show Calls _ _ #[.agg (zAD x tv).toArray] _ _
 have cA0:(zAJ w x tv).cell? ⟨w.heap.size,0,none⟩=some (.int .i64 13):=((AtL.new0 w _ _).alloc _:AtL (zAJ w x tv) w.heap.size (zAD x tv)).2.1 0 _ n0;have pX:=AtL.new0 w 56 (zAD x tv);have c0A:=pX.2.1 0 _ n0;have c22:=pX.2.1 22 _ T22;clear htv T22 cA0 pX;go_enter func67,ntmps67;go_upto_region 3 with fail
 go_upto_region 4 with ((with_reducible refine wpList_store_mid ?_ 56 (.tmp 3) (.tmp 19) ?_ (w.heap.size+1) 0 (zAD (zAE 13) zAG).toArray ?_ ?_ ?_ ?_ ?_ ?_);rfl;rfl;rfl;rfl;exact hth;kernel_rfl;exact zAZ _ _ _ _)
 generalize (zAJ w x tv).setCells (w.heap.size+1) 0 (zAD (zAE 13) zAG)=W0 at *;clear hth c0A c22;have pA1:=pA;have pO1:=pO;have hB1:=hBa;clear pA pO hBa;have a1:=pA1.2.1 1 _ rfl;have o1:=pO1.2.1 1 _ rfl;have f1:=pO1.2.2 1 (by show 1<23;decide);go_upto_region 48 with fail
 have pA2:AtL (W0.setCell ⟨w.heap.size+1,1,none⟩ (.int .i64 x.a)) w.heap.size (zAD x tv):=(pA1.far hne 1 (.int .i64 x.a))
 have pO2:=(pO1.set 1 (.int .i64 x.a))
 have hB2:Below w.heap.size w (W0.setCell ⟨w.heap.size+1,1,none⟩ (.int .i64 x.a)):=(clB hB1)
 clear pA1 pO1 hB1 a1 o1 f1;generalize (W0.setCell ⟨w.heap.size+1,1,none⟩ (.int .i64 x.a))=W1 at *;have pA1:=pA2;have pO1:=pO2;have hB1:=hB2;clear pA2 pO2 hB2;have pOY:AtL W1 (w.heap.size+1) (zAD ⟨13,x.a,0,v0I,c0I,a0I,a0I⟩ zAG):=pO1;have rA:=pA1.range;have rO:=pOY.range;clear pO1 pOY;clear a0;go_wp2_with (first | (refine zAA (by rfl) 56 (.tmp 1) rfl w.heap.size 0 rfl (zAD x tv) _ rA underlying56 rfl (by kernel_rfl) ?_) | (refine zAA (by rfl) 56 (.tmp 3) rfl (w.heap.size+1) 0 rfl (zAD ⟨13,x.a,0,v0I,c0I,a0I,a0I⟩ zAG) _ rO underlying56 rfl (by kernel_rfl) ?_))
 refine (BA _).mono ?_;rintro e w5 ⟨rfl,hb5⟩;have hB5:=zAB hB1 hb5;clear BA rA rO;go_wp2;go_ret;exact ⟨by simp,hB5⟩
theorem zHe (x:Wc.In) (av:Option Addr) (c:Nat) (w:World) (hk:x.op=14) :
  CR 67 #[inV x (.slice av 0 c)] w (.bool (smI x ⟨14,x.a,0,v0I,c0I,a0I,a0I⟩)):=by
 have BA:∀ w1:World,Calls prog 101 #[.agg (zAD x (.slice av 0 c)).toArray,.agg (zAD ⟨14,x.a,0,v0I,c0I,a0I,a0I⟩ zAG).toArray] w1 λe w'=>e=.returned (.bool (smI x ⟨14,x.a,0,v0I,c0I,a0I,a0I⟩))/\Below w1.heap.size w1 w':=λw1=>by
  have h:=zA2 x ⟨14,x.a,0,v0I,c0I,a0I,a0I⟩ (.slice av 0 c) zAG w1;have e:(x.op == (⟨14,x.a,0,v0I,c0I,a0I,a0I⟩:Wc.In).op)=true:=by show (x.op == 14)=true;rw [hk];rfl
  rw [e,Bool.true_and] at h;exact h
 obtain ⟨tv,htv⟩:∃ tv,Value.slice av 0 c=tv:=⟨_,rfl⟩
 have T22:(zAD x tv)[22]? = some (.slice av 0 c):=by rw [htv];rfl
 rw [htv] at BA ⊢;generalize smI x ⟨14,x.a,0,v0I,c0I,a0I,a0I⟩=qb at *;have pA0:AtL (zAJ w x tv) w.heap.size (zAD x tv):=(AtL.new0 w _ _).alloc _;have pO0:AtL (zAJ w x tv) (w.heap.size+1) (zAD (zAE 0) zAG):=AtL.new1 w _ _ _;have hth:World.there (zAJ w x tv) (w.heap.size+1) 0 (zAD (zAE 14) zAG).toArray.size:=pO0.there;have hne:w.heap.size+1 ≠ w.heap.size:=by omega
 have pA:=pA0.farAll hne 0 (zAD (zAE 14) zAG);have pO:AtL ((zAJ w x tv).setCells (w.heap.size+1) 0 (zAD (zAE 14) zAG)) (w.heap.size+1) (zAD (zAE 14) zAG):=pO0.setAll rfl;have hBa:Below w.heap.size w ((zAJ w x tv).setCells (w.heap.size+1) 0 (zAD (zAE 14) zAG)):=zAa (zAK (zAK (Below.refl _ w) _) _) (Nat.le_succ _) _ 0;clear pA0 pO0;have n0:(zAD x tv)[0]? = some (.int .i64 14):=by rw [<-hk];rfl
 have a0:World.cell? ((zAJ w x tv).setCells (w.heap.size+1) 0 (zAD (zAE 14) zAG)) ⟨w.heap.size,0,none⟩=some (.int .i64 14):=pA.2.1 0 _ n0;show Calls _ _ #[.agg (zAD x tv).toArray] _ _
 have cA0:(zAJ w x tv).cell? ⟨w.heap.size,0,none⟩=some (.int .i64 14):=((AtL.new0 w _ _).alloc _:AtL (zAJ w x tv) w.heap.size (zAD x tv)).2.1 0 _ n0;have pX:=AtL.new0 w 56 (zAD x tv);have c0A:=pX.2.1 0 _ n0;have c22:=pX.2.1 22 _ T22;clear htv T22 cA0 pX;go_enter func67,ntmps67;go_upto_region 3 with fail
 go_upto_region 4 with ((with_reducible refine wpList_store_mid ?_ 56 (.tmp 3) (.tmp 19) ?_ (w.heap.size+1) 0 (zAD (zAE 14) zAG).toArray ?_ ?_ ?_ ?_ ?_ ?_);rfl;rfl;rfl;rfl;exact hth;kernel_rfl;exact zAZ _ _ _ _)
 generalize (zAJ w x tv).setCells (w.heap.size+1) 0 (zAD (zAE 14) zAG)=W0 at *;clear hth c0A c22;have pA1:=pA;have pO1:=pO;have hB1:=hBa;clear pA pO hBa;have a1:=pA1.2.1 1 _ rfl;have o1:=pO1.2.1 1 _ rfl;have f1:=pO1.2.2 1 (by show 1<23;decide);go_upto_region 48 with fail
 have pA2:AtL (W0.setCell ⟨w.heap.size+1,1,none⟩ (.int .i64 x.a)) w.heap.size (zAD x tv):=(pA1.far hne 1 (.int .i64 x.a))
 have pO2:=(pO1.set 1 (.int .i64 x.a))
 have hB2:Below w.heap.size w (W0.setCell ⟨w.heap.size+1,1,none⟩ (.int .i64 x.a)):=(clB hB1)
 clear pA1 pO1 hB1 a1 o1 f1;generalize (W0.setCell ⟨w.heap.size+1,1,none⟩ (.int .i64 x.a))=W1 at *;have pA1:=pA2;have pO1:=pO2;have hB1:=hB2;clear pA2 pO2 hB2;have pOY:AtL W1 (w.heap.size+1) (zAD ⟨14,x.a,0,v0I,c0I,a0I,a0I⟩ zAG):=pO1;have rA:=pA1.range;have rO:=pOY.range;clear pO1 pOY;clear a0;go_wp2_with (first | (refine zAA (by rfl) 56 (.tmp 1) rfl w.heap.size 0 rfl (zAD x tv) _ rA underlying56 rfl (by kernel_rfl) ?_) | (refine zAA (by rfl) 56 (.tmp 3) rfl (w.heap.size+1) 0 rfl (zAD ⟨14,x.a,0,v0I,c0I,a0I,a0I⟩ zAG) _ rO underlying56 rfl (by kernel_rfl) ?_))
 refine (BA _).mono ?_;rintro e w5 ⟨rfl,hb5⟩;have hB5:=zAB hB1 hb5;clear BA rA rO;go_wp2;go_ret;exact ⟨by simp,hB5⟩
theorem zKY (x:Wc.In) (av:Option Addr) (c:Nat) (w:World) (hk:x.op=2) :
  CR 67 #[inV x (.slice av 0 c)] w (.bool (smI x ⟨2,0,0,v0I,x.ce,a0I,a0I⟩ && Wpl.rightC x.ce.s x.ce.r x.ce.c)):=by
 have BA:∀ w1:World,Calls prog 101 #[.agg (zAD x (.slice av 0 c)).toArray,.agg (zAD ⟨2,0,0,v0I,x.ce,a0I,a0I⟩ zAG).toArray] w1 λe w'=>e=.returned (.bool (smI x ⟨2,0,0,v0I,x.ce,a0I,a0I⟩))/\Below w1.heap.size w1 w':=λw1=>by
  have h:=zA2 x ⟨2,0,0,v0I,x.ce,a0I,a0I⟩ (.slice av 0 c) zAG w1;have e:(x.op == (⟨2,0,0,v0I,x.ce,a0I,a0I⟩:Wc.In).op)=true:=by show (x.op == 2)=true;rw [hk];rfl
  rw [e,Bool.true_and] at h;exact h
 have CC:=(λw=>zB7 x.ce.s x.ce.r x.ce.c w:∀ w:World,CR 30 #[.agg #[.int .i64 x.ce.s,.int .i64 x.ce.r,.int .i64 x.ce.c]] w (.bool (Wpl.rightC x.ce.s x.ce.r x.ce.c)))
 obtain ⟨tv,htv⟩:∃ tv,Value.slice av 0 c=tv:=⟨_,rfl⟩
 have T22:(zAD x tv)[22]? = some (.slice av 0 c):=by rw [htv];rfl
 rw [htv] at BA ⊢;generalize smI x ⟨2,0,0,v0I,x.ce,a0I,a0I⟩=qb at *;generalize Wpl.rightC x.ce.s x.ce.r x.ce.c=qc at *;have pA0:AtL (zAJ w x tv) w.heap.size (zAD x tv):=(AtL.new0 w _ _).alloc _;have pO0:AtL (zAJ w x tv) (w.heap.size+1) (zAD (zAE 0) zAG):=AtL.new1 w _ _ _;have hth:World.there (zAJ w x tv) (w.heap.size+1) 0 (zAD (zAE 2) zAG).toArray.size:=pO0.there;have hne:w.heap.size+1 ≠ w.heap.size:=by omega
 have pA:=pA0.farAll hne 0 (zAD (zAE 2) zAG);have pO:AtL ((zAJ w x tv).setCells (w.heap.size+1) 0 (zAD (zAE 2) zAG)) (w.heap.size+1) (zAD (zAE 2) zAG):=pO0.setAll rfl;have hBa:Below w.heap.size w ((zAJ w x tv).setCells (w.heap.size+1) 0 (zAD (zAE 2) zAG)):=zAa (zAK (zAK (Below.refl _ w) _) _) (Nat.le_succ _) _ 0;clear pA0 pO0;have n0:(zAD x tv)[0]? = some (.int .i64 2):=by rw [<-hk];rfl
 have a0:World.cell? ((zAJ w x tv).setCells (w.heap.size+1) 0 (zAD (zAE 2) zAG)) ⟨w.heap.size,0,none⟩=some (.int .i64 2):=pA.2.1 0 _ n0;show Calls _ _ #[.agg (zAD x tv).toArray] _ _
 have cA0:(zAJ w x tv).cell? ⟨w.heap.size,0,none⟩=some (.int .i64 2):=((AtL.new0 w _ _).alloc _:AtL (zAJ w x tv) w.heap.size (zAD x tv)).2.1 0 _ n0;have pX:=AtL.new0 w 56 (zAD x tv);have c0A:=pX.2.1 0 _ n0;have c22:=pX.2.1 22 _ T22;clear htv T22 cA0 pX;go_enter func67,ntmps67;go_upto_region 3 with fail
 go_upto_region 4 with ((with_reducible refine wpList_store_mid ?_ 56 (.tmp 3) (.tmp 19) ?_ (w.heap.size+1) 0 (zAD (zAE 2) zAG).toArray ?_ ?_ ?_ ?_ ?_ ?_);rfl;rfl;rfl;rfl;exact hth;kernel_rfl;exact zAZ _ _ _ _)
 generalize (zAJ w x tv).setCells (w.heap.size+1) 0 (zAD (zAE 2) zAG)=W0 at *;clear hth c0A c22;have pA1:=pA;have pO1:=pO;have hB1:=hBa;clear pA pO hBa;have a9:=pA1.2.1 9 _ rfl;have o9:=pO1.2.1 9 _ rfl;have f9:=pO1.2.2 9 (by show 9<23;decide);have a10:=pA1.2.1 10 _ rfl;have o10:=pO1.2.1 10 _ rfl;have f10:=pO1.2.2 10 (by show 10<23;decide);have a11:=pA1.2.1 11 _ rfl;have o11:=pO1.2.1 11 _ rfl;have f11:=pO1.2.2 11 (by show 11<23;decide);go_upto_region 10 with fail
 have pA2:AtL (((W0.setCell ⟨w.heap.size+1,9,none⟩ (.int .i64 x.ce.s)).setCell ⟨w.heap.size+1,10,none⟩ (.int .i64 x.ce.r)).setCell ⟨w.heap.size+1,11,none⟩ (.int .i64 x.ce.c)) w.heap.size (zAD x tv):=(((pA1.far hne 9 (.int .i64 x.ce.s)).far hne 10 (.int .i64 x.ce.r)).far hne 11 (.int .i64 x.ce.c))
 have pO2:=(((pO1.set 9 (.int .i64 x.ce.s)).set 10 (.int .i64 x.ce.r)).set 11 (.int .i64 x.ce.c))
 have hB2:Below w.heap.size w (((W0.setCell ⟨w.heap.size+1,9,none⟩ (.int .i64 x.ce.s)).setCell ⟨w.heap.size+1,10,none⟩ (.int .i64 x.ce.r)).setCell ⟨w.heap.size+1,11,none⟩ (.int .i64 x.ce.c)):=(clB hB1)
 clear pA1 pO1 hB1 a9 o9 f9 a10 o10 f10 a11 o11 f11;generalize (((W0.setCell ⟨w.heap.size+1,9,none⟩ (.int .i64 x.ce.s)).setCell ⟨w.heap.size+1,10,none⟩ (.int .i64 x.ce.r)).setCell ⟨w.heap.size+1,11,none⟩ (.int .i64 x.ce.c))=W1 at *;have pA1:=pA2;have pO1:=pO2;have hB1:=hB2;clear pA2 pO2 hB2;have pOY:AtL W1 (w.heap.size+1) (zAD ⟨2,0,0,v0I,x.ce,a0I,a0I⟩ zAG):=pO1;have rA:=pA1.range;have rO:=pOY.range;clear pO1 pOY;have e9:=pA1.2.1 9 _ rfl;have e10:=pA1.2.1 10 _ rfl;have e11:=pA1.2.1 11 _ rfl;clear a0;go_wp2_with (first | (refine zAA (by rfl) 56 (.tmp 1) rfl w.heap.size 0 rfl (zAD x tv) _ rA underlying56 rfl (by kernel_rfl) ?_) | (refine zAA (by rfl) 56 (.tmp 3) rfl (w.heap.size+1) 0 rfl (zAD ⟨2,0,0,v0I,x.ce,a0I,a0I⟩ zAG) _ rO underlying56 rfl (by kernel_rfl) ?_))
 refine (BA _).mono ?_;rintro e w5 ⟨rfl,hb5⟩;have hB5:=zAB hB1 hb5;clear BA rA rO;cases qb with
 | false =>
  go_wp2;go_ret;exact ⟨by simp,hB5⟩
 | true =>
  replace e9:=zAC hb5 e9
  replace e10:=zAC hb5 e10
  replace e11:=zAC hb5 e11
  go_wp2_with fail
  refine (CC _).mono ?_;rintro e w6 ⟨rfl,hb6⟩;have hB6:=zAB hB5 hb6;cases qc
  ·go_wp2;go_ret;exact ⟨by simp,hB6⟩
  ·go_wp2;go_ret;exact ⟨by simp,hB6⟩
theorem zKC (x:Wc.In) (av:Option Addr) (c:Nat) (w:World) (hk:x.op=8) :
  CR 67 #[inV x (.slice av 0 c)] w (.bool (smI x ⟨8,0,0,v0I,c0I,x.ar,a0I⟩ && Wpl.rightA x.ar.s x.ar.t x.ar.l x.ar.b x.ar.r)):=by
 have BA:∀ w1:World,Calls prog 101 #[.agg (zAD x (.slice av 0 c)).toArray,.agg (zAD ⟨8,0,0,v0I,c0I,x.ar,a0I⟩ zAG).toArray] w1 λe w'=>e=.returned (.bool (smI x ⟨8,0,0,v0I,c0I,x.ar,a0I⟩))/\Below w1.heap.size w1 w':=λw1=>by
  have h:=zA2 x ⟨8,0,0,v0I,c0I,x.ar,a0I⟩ (.slice av 0 c) zAG w1;have e:(x.op == (⟨8,0,0,v0I,c0I,x.ar,a0I⟩:Wc.In).op)=true:=by show (x.op == 8)=true;rw [hk];rfl
  rw [e,Bool.true_and] at h;exact h
 have CC:=(λw=>zAe x.ar.s x.ar.t x.ar.l x.ar.b x.ar.r w:∀ w:World,CR 74 #[.agg #[.int .i64 x.ar.s,.int .i64 x.ar.t,.int .i64 x.ar.l,.int .i64 x.ar.b,.int .i64 x.ar.r]] w (.bool (Wpl.rightA x.ar.s x.ar.t x.ar.l x.ar.b x.ar.r)))
 obtain ⟨tv,htv⟩:∃ tv,Value.slice av 0 c=tv:=⟨_,rfl⟩
 have T22:(zAD x tv)[22]? = some (.slice av 0 c):=by rw [htv];rfl
 rw [htv] at BA ⊢;generalize smI x ⟨8,0,0,v0I,c0I,x.ar,a0I⟩=qb at *;generalize Wpl.rightA x.ar.s x.ar.t x.ar.l x.ar.b x.ar.r=qc at *;have pA0:AtL (zAJ w x tv) w.heap.size (zAD x tv):=(AtL.new0 w _ _).alloc _;have pO0:AtL (zAJ w x tv) (w.heap.size+1) (zAD (zAE 0) zAG):=AtL.new1 w _ _ _;have hth:World.there (zAJ w x tv) (w.heap.size+1) 0 (zAD (zAE 8) zAG).toArray.size:=pO0.there;have hne:w.heap.size+1 ≠ w.heap.size:=by omega
 have pA:=pA0.farAll hne 0 (zAD (zAE 8) zAG);have pO:AtL ((zAJ w x tv).setCells (w.heap.size+1) 0 (zAD (zAE 8) zAG)) (w.heap.size+1) (zAD (zAE 8) zAG):=pO0.setAll rfl;have hBa:Below w.heap.size w ((zAJ w x tv).setCells (w.heap.size+1) 0 (zAD (zAE 8) zAG)):=zAa (zAK (zAK (Below.refl _ w) _) _) (Nat.le_succ _) _ 0;clear pA0 pO0;have n0:(zAD x tv)[0]? = some (.int .i64 8):=by rw [<-hk];rfl
 have a0:World.cell? ((zAJ w x tv).setCells (w.heap.size+1) 0 (zAD (zAE 8) zAG)) ⟨w.heap.size,0,none⟩=some (.int .i64 8):=pA.2.1 0 _ n0;show Calls _ _ #[.agg (zAD x tv).toArray] _ _
 have cA0:(zAJ w x tv).cell? ⟨w.heap.size,0,none⟩=some (.int .i64 8):=((AtL.new0 w _ _).alloc _:AtL (zAJ w x tv) w.heap.size (zAD x tv)).2.1 0 _ n0;have pX:=AtL.new0 w 56 (zAD x tv);have c0A:=pX.2.1 0 _ n0;have c22:=pX.2.1 22 _ T22;clear htv T22 cA0 pX;go_enter func67,ntmps67;go_upto_region 3 with fail
 go_upto_region 4 with ((with_reducible refine wpList_store_mid ?_ 56 (.tmp 3) (.tmp 19) ?_ (w.heap.size+1) 0 (zAD (zAE 8) zAG).toArray ?_ ?_ ?_ ?_ ?_ ?_);rfl;rfl;rfl;rfl;exact hth;kernel_rfl;exact zAZ _ _ _ _)
 generalize (zAJ w x tv).setCells (w.heap.size+1) 0 (zAD (zAE 8) zAG)=W0 at *;clear hth c0A c22;have pA1:=pA;have pO1:=pO;have hB1:=hBa;clear pA pO hBa;have a12:=pA1.2.1 12 _ rfl;have o12:=pO1.2.1 12 _ rfl;have f12:=pO1.2.2 12 (by show 12<23;decide);have a13:=pA1.2.1 13 _ rfl;have o13:=pO1.2.1 13 _ rfl;have f13:=pO1.2.2 13 (by show 13<23;decide);have a14:=pA1.2.1 14 _ rfl;have o14:=pO1.2.1 14 _ rfl;have f14:=pO1.2.2 14 (by show 14<23;decide);have a15:=pA1.2.1 15 _ rfl;have o15:=pO1.2.1 15 _ rfl;have f15:=pO1.2.2 15 (by show 15<23;decide);have a16:=pA1.2.1 16 _ rfl;have o16:=pO1.2.1 16 _ rfl;have f16:=pO1.2.2 16 (by show 16<23;decide);go_upto_region 32 with fail
 have pA2:AtL (((((W0.setCell ⟨w.heap.size+1,12,none⟩ (.int .i64 x.ar.s)).setCell ⟨w.heap.size+1,13,none⟩ (.int .i64 x.ar.t)).setCell ⟨w.heap.size+1,14,none⟩ (.int .i64 x.ar.l)).setCell ⟨w.heap.size+1,15,none⟩ (.int .i64 x.ar.b)).setCell ⟨w.heap.size+1,16,none⟩ (.int .i64 x.ar.r)) w.heap.size (zAD x tv):=(((((pA1.far hne 12 (.int .i64 x.ar.s)).far hne 13 (.int .i64 x.ar.t)).far hne 14 (.int .i64 x.ar.l)).far hne 15 (.int .i64 x.ar.b)).far hne 16 (.int .i64 x.ar.r))
 have pO2:=(((((pO1.set 12 (.int .i64 x.ar.s)).set 13 (.int .i64 x.ar.t)).set 14 (.int .i64 x.ar.l)).set 15 (.int .i64 x.ar.b)).set 16 (.int .i64 x.ar.r))
 have hB2:Below w.heap.size w (((((W0.setCell ⟨w.heap.size+1,12,none⟩ (.int .i64 x.ar.s)).setCell ⟨w.heap.size+1,13,none⟩ (.int .i64 x.ar.t)).setCell ⟨w.heap.size+1,14,none⟩ (.int .i64 x.ar.l)).setCell ⟨w.heap.size+1,15,none⟩ (.int .i64 x.ar.b)).setCell ⟨w.heap.size+1,16,none⟩ (.int .i64 x.ar.r)):=(clB hB1)
 clear pA1 pO1 hB1 a12 o12 f12 a13 o13 f13 a14 o14 f14 a15 o15 f15 a16 o16 f16;generalize (((((W0.setCell ⟨w.heap.size+1,12,none⟩ (.int .i64 x.ar.s)).setCell ⟨w.heap.size+1,13,none⟩ (.int .i64 x.ar.t)).setCell ⟨w.heap.size+1,14,none⟩ (.int .i64 x.ar.l)).setCell ⟨w.heap.size+1,15,none⟩ (.int .i64 x.ar.b)).setCell ⟨w.heap.size+1,16,none⟩ (.int .i64 x.ar.r))=W1 at *;have pA1:=pA2;have pO1:=pO2;have hB1:=hB2;clear pA2 pO2 hB2;have pOY:AtL W1 (w.heap.size+1) (zAD ⟨8,0,0,v0I,c0I,x.ar,a0I⟩ zAG):=pO1;have rA:=pA1.range;have rO:=pOY.range;clear pO1 pOY;have e12:=pA1.2.1 12 _ rfl;have e13:=pA1.2.1 13 _ rfl;have e14:=pA1.2.1 14 _ rfl;have e15:=pA1.2.1 15 _ rfl;have e16:=pA1.2.1 16 _ rfl;clear a0;go_wp2_with (first | (refine zAA (by rfl) 56 (.tmp 1) rfl w.heap.size 0 rfl (zAD x tv) _ rA underlying56 rfl (by kernel_rfl) ?_) | (refine zAA (by rfl) 56 (.tmp 3) rfl (w.heap.size+1) 0 rfl (zAD ⟨8,0,0,v0I,c0I,x.ar,a0I⟩ zAG) _ rO underlying56 rfl (by kernel_rfl) ?_))
 refine (BA _).mono ?_;rintro e w5 ⟨rfl,hb5⟩;have hB5:=zAB hB1 hb5;clear BA rA rO;cases qb with
 | false =>
  go_wp2;go_ret;exact ⟨by simp,hB5⟩
 | true =>
  replace e12:=zAC hb5 e12
  replace e13:=zAC hb5 e13
  replace e14:=zAC hb5 e14
  replace e15:=zAC hb5 e15
  replace e16:=zAC hb5 e16
  go_wp2_with fail
  refine (CC _).mono ?_;rintro e w6 ⟨rfl,hb6⟩;have hB6:=zAB hB5 hb6;cases qc
  ·go_wp2;go_ret;exact ⟨by simp,hB6⟩
  ·go_wp2;go_ret;exact ⟨by simp,hB6⟩
theorem zJw (x:Wc.In) (av:Option Addr) (c:Nat) (w:World) (hk:x.op=4) :
  CR 67 #[inV x (.slice av 0 c)] w (.bool (smI x ⟨4,x.a,0,v0I,c0I,a0I,a0I⟩ && Wt.isBin x.a)):=by
 have BA:∀ w1:World,Calls prog 101 #[.agg (zAD x (.slice av 0 c)).toArray,.agg (zAD ⟨4,x.a,0,v0I,c0I,a0I,a0I⟩ zAG).toArray] w1 λe w'=>e=.returned (.bool (smI x ⟨4,x.a,0,v0I,c0I,a0I,a0I⟩))/\Below w1.heap.size w1 w':=λw1=>by
  have h:=zA2 x ⟨4,x.a,0,v0I,c0I,a0I,a0I⟩ (.slice av 0 c) zAG w1;have e:(x.op == (⟨4,x.a,0,v0I,c0I,a0I,a0I⟩:Wc.In).op)=true:=by show (x.op == 4)=true;rw [hk];rfl
  rw [e,Bool.true_and] at h;exact h
 have CC:=(λw=>(zHX x.a w).mono λe w' h=>⟨h.1,h.2 ▸ Below.refl _ _⟩:∀ w:World,CR 103 #[.int .i64 x.a] w (.bool (Wt.isBin x.a)))
 obtain ⟨tv,htv⟩:∃ tv,Value.slice av 0 c=tv:=⟨_,rfl⟩
 have T22:(zAD x tv)[22]? = some (.slice av 0 c):=by rw [htv];rfl
 rw [htv] at BA ⊢;generalize smI x ⟨4,x.a,0,v0I,c0I,a0I,a0I⟩=qb at *;generalize Wt.isBin x.a=qc at *;have pA0:AtL (zAJ w x tv) w.heap.size (zAD x tv):=(AtL.new0 w _ _).alloc _;have pO0:AtL (zAJ w x tv) (w.heap.size+1) (zAD (zAE 0) zAG):=AtL.new1 w _ _ _;have hth:World.there (zAJ w x tv) (w.heap.size+1) 0 (zAD (zAE 4) zAG).toArray.size:=pO0.there;have hne:w.heap.size+1 ≠ w.heap.size:=by omega
 have pA:=pA0.farAll hne 0 (zAD (zAE 4) zAG);have pO:AtL ((zAJ w x tv).setCells (w.heap.size+1) 0 (zAD (zAE 4) zAG)) (w.heap.size+1) (zAD (zAE 4) zAG):=pO0.setAll rfl;have hBa:Below w.heap.size w ((zAJ w x tv).setCells (w.heap.size+1) 0 (zAD (zAE 4) zAG)):=zAa (zAK (zAK (Below.refl _ w) _) _) (Nat.le_succ _) _ 0;clear pA0 pO0;have n0:(zAD x tv)[0]? = some (.int .i64 4):=by rw [<-hk];rfl
 have a0:World.cell? ((zAJ w x tv).setCells (w.heap.size+1) 0 (zAD (zAE 4) zAG)) ⟨w.heap.size,0,none⟩=some (.int .i64 4):=pA.2.1 0 _ n0;show Calls _ _ #[.agg (zAD x tv).toArray] _ _
 have cA0:(zAJ w x tv).cell? ⟨w.heap.size,0,none⟩=some (.int .i64 4):=((AtL.new0 w _ _).alloc _:AtL (zAJ w x tv) w.heap.size (zAD x tv)).2.1 0 _ n0;have pX:=AtL.new0 w 56 (zAD x tv);have c0A:=pX.2.1 0 _ n0;have c22:=pX.2.1 22 _ T22;clear htv T22 cA0 pX;go_enter func67,ntmps67;go_upto_region 3 with fail
 go_upto_region 4 with ((with_reducible refine wpList_store_mid ?_ 56 (.tmp 3) (.tmp 19) ?_ (w.heap.size+1) 0 (zAD (zAE 4) zAG).toArray ?_ ?_ ?_ ?_ ?_ ?_);rfl;rfl;rfl;rfl;exact hth;kernel_rfl;exact zAZ _ _ _ _)
 generalize (zAJ w x tv).setCells (w.heap.size+1) 0 (zAD (zAE 4) zAG)=W0 at *;clear hth c0A c22;have pA1:=pA;have pO1:=pO;have hB1:=hBa;clear pA pO hBa;have a1:=pA1.2.1 1 _ rfl;have o1:=pO1.2.1 1 _ rfl;have f1:=pO1.2.2 1 (by show 1<23;decide);go_upto_region 16 with fail
 have pA2:AtL (W0.setCell ⟨w.heap.size+1,1,none⟩ (.int .i64 x.a)) w.heap.size (zAD x tv):=(pA1.far hne 1 (.int .i64 x.a))
 have pO2:=(pO1.set 1 (.int .i64 x.a))
 have hB2:Below w.heap.size w (W0.setCell ⟨w.heap.size+1,1,none⟩ (.int .i64 x.a)):=(clB hB1)
 clear pA1 pO1 hB1 a1 o1 f1;generalize (W0.setCell ⟨w.heap.size+1,1,none⟩ (.int .i64 x.a))=W1 at *;have pA1:=pA2;have pO1:=pO2;have hB1:=hB2;clear pA2 pO2 hB2;have pOY:AtL W1 (w.heap.size+1) (zAD ⟨4,x.a,0,v0I,c0I,a0I,a0I⟩ zAG):=pO1;have rA:=pA1.range;have rO:=pOY.range;clear pO1 pOY;have e1:=pA1.2.1 1 _ rfl;clear a0;go_wp2_with (first | (refine zAA (by rfl) 56 (.tmp 1) rfl w.heap.size 0 rfl (zAD x tv) _ rA underlying56 rfl (by kernel_rfl) ?_) | (refine zAA (by rfl) 56 (.tmp 3) rfl (w.heap.size+1) 0 rfl (zAD ⟨4,x.a,0,v0I,c0I,a0I,a0I⟩ zAG) _ rO underlying56 rfl (by kernel_rfl) ?_))
 refine (BA _).mono ?_;rintro e w5 ⟨rfl,hb5⟩;have hB5:=zAB hB1 hb5;clear BA rA rO;cases qb with
 | false =>
  go_wp2;go_ret;exact ⟨by simp,hB5⟩
 | true =>
  replace e1:=zAC hb5 e1
  go_wp2_with fail
  refine (CC _).mono ?_;rintro e w6 ⟨rfl,hb6⟩;have hB6:=zAB hB5 hb6;cases qc
  ·go_wp2;go_ret;exact ⟨by simp,hB6⟩
  ·go_wp2;go_ret;exact ⟨by simp,hB6⟩
theorem zKF (x:Wc.In) (av:Option Addr) (c:Nat) (w:World) (hk:x.op=3) :
  CR 67 #[inV x (.slice av 0 c)] w (.bool (smI x ⟨3,x.a,0,v0I,c0I,a0I,a0I⟩ && (decide (1<=x.a) && decide (x.a<=3)))):=by
 have BA:∀ w1:World,Calls prog 101 #[.agg (zAD x (.slice av 0 c)).toArray,.agg (zAD ⟨3,x.a,0,v0I,c0I,a0I,a0I⟩ zAG).toArray] w1 λe w'=>e=.returned (.bool (smI x ⟨3,x.a,0,v0I,c0I,a0I,a0I⟩))/\Below w1.heap.size w1 w':=λw1=>by
  have h:=zA2 x ⟨3,x.a,0,v0I,c0I,a0I,a0I⟩ (.slice av 0 c) zAG w1;have e:(x.op == (⟨3,x.a,0,v0I,c0I,a0I,a0I⟩:Wc.In).op)=true:=by show (x.op == 3)=true;rw [hk];rfl
  rw [e,Bool.true_and] at h;exact h
 obtain ⟨tv,htv⟩:∃ tv,Value.slice av 0 c=tv:=⟨_,rfl⟩
 have T22:(zAD x tv)[22]? = some (.slice av 0 c):=by rw [htv];rfl
 rw [htv] at BA ⊢;generalize smI x ⟨3,x.a,0,v0I,c0I,a0I,a0I⟩=qb at *;have pA0:AtL (zAJ w x tv) w.heap.size (zAD x tv):=(AtL.new0 w _ _).alloc _;have pO0:AtL (zAJ w x tv) (w.heap.size+1) (zAD (zAE 0) zAG):=AtL.new1 w _ _ _;have hth:World.there (zAJ w x tv) (w.heap.size+1) 0 (zAD (zAE 3) zAG).toArray.size:=pO0.there;have hne:w.heap.size+1 ≠ w.heap.size:=by omega
 have pA:=pA0.farAll hne 0 (zAD (zAE 3) zAG);have pO:AtL ((zAJ w x tv).setCells (w.heap.size+1) 0 (zAD (zAE 3) zAG)) (w.heap.size+1) (zAD (zAE 3) zAG):=pO0.setAll rfl;have hBa:Below w.heap.size w ((zAJ w x tv).setCells (w.heap.size+1) 0 (zAD (zAE 3) zAG)):=zAa (zAK (zAK (Below.refl _ w) _) _) (Nat.le_succ _) _ 0;clear pA0 pO0;have n0:(zAD x tv)[0]? = some (.int .i64 3):=by rw [<-hk];rfl
 have a0:World.cell? ((zAJ w x tv).setCells (w.heap.size+1) 0 (zAD (zAE 3) zAG)) ⟨w.heap.size,0,none⟩=some (.int .i64 3):=pA.2.1 0 _ n0;show Calls _ _ #[.agg (zAD x tv).toArray] _ _
 have cA0:(zAJ w x tv).cell? ⟨w.heap.size,0,none⟩=some (.int .i64 3):=((AtL.new0 w _ _).alloc _:AtL (zAJ w x tv) w.heap.size (zAD x tv)).2.1 0 _ n0;have pX:=AtL.new0 w 56 (zAD x tv);have c0A:=pX.2.1 0 _ n0;have c22:=pX.2.1 22 _ T22;clear htv T22 cA0 pX;go_enter func67,ntmps67;go_upto_region 3 with fail
 go_upto_region 4 with ((with_reducible refine wpList_store_mid ?_ 56 (.tmp 3) (.tmp 19) ?_ (w.heap.size+1) 0 (zAD (zAE 3) zAG).toArray ?_ ?_ ?_ ?_ ?_ ?_);rfl;rfl;rfl;rfl;exact hth;kernel_rfl;exact zAZ _ _ _ _)
 generalize (zAJ w x tv).setCells (w.heap.size+1) 0 (zAD (zAE 3) zAG)=W0 at *;clear hth c0A c22;have pA1:=pA;have pO1:=pO;have hB1:=hBa;clear pA pO hBa;have a1:=pA1.2.1 1 _ rfl;have o1:=pO1.2.1 1 _ rfl;have f1:=pO1.2.2 1 (by show 1<23;decide);go_upto_region 13 with fail
 have pA2:AtL (W0.setCell ⟨w.heap.size+1,1,none⟩ (.int .i64 x.a)) w.heap.size (zAD x tv):=(pA1.far hne 1 (.int .i64 x.a))
 have pO2:=(pO1.set 1 (.int .i64 x.a))
 have hB2:Below w.heap.size w (W0.setCell ⟨w.heap.size+1,1,none⟩ (.int .i64 x.a)):=(clB hB1)
 clear pA1 pO1 hB1 a1 o1 f1;generalize (W0.setCell ⟨w.heap.size+1,1,none⟩ (.int .i64 x.a))=W1 at *;have pA1:=pA2;have pO1:=pO2;have hB1:=hB2;clear pA2 pO2 hB2;have pOY:AtL W1 (w.heap.size+1) (zAD ⟨3,x.a,0,v0I,c0I,a0I,a0I⟩ zAG):=pO1;have rA:=pA1.range;have rO:=pOY.range;clear pO1 pOY;have e1:=pA1.2.1 1 _ rfl;clear a0;go_wp2_with (first | (refine zAA (by rfl) 56 (.tmp 1) rfl w.heap.size 0 rfl (zAD x tv) _ rA underlying56 rfl (by kernel_rfl) ?_) | (refine zAA (by rfl) 56 (.tmp 3) rfl (w.heap.size+1) 0 rfl (zAD ⟨3,x.a,0,v0I,c0I,a0I,a0I⟩ zAG) _ rO underlying56 rfl (by kernel_rfl) ?_))
 refine (BA _).mono ?_;rintro e w5 ⟨rfl,hb5⟩;have hB5:=zAB hB1 hb5;clear BA rA rO;cases qb with
 | false =>
  go_wp2;go_ret;exact ⟨by simp,hB5⟩
 | true =>
  replace e1:=zAC hb5 e1
  by_cases g1:1<=x.a
  ·have g1n:¬ x.a<1:=by omega
   by_cases g2:x.a<=3
   ·have g2n:¬ 3<x.a:=by omega
    go_wp2;go_ret;exact ⟨by first | (simp [g1,g2];done) | (simp;omega),hB5⟩
   ·have g2n:3<x.a:=by omega
    go_wp2;go_ret;exact ⟨by (simp;omega),hB5⟩
  ·have g1n:x.a<1:=by omega
   go_wp2;go_ret;exact ⟨by (simp;omega),hB5⟩
theorem zIy (x:Wc.In) (av:Option Addr) (c:Nat) (w:World) (hk:x.op=11) :
  CR 67 #[inV x (.slice av 0 c)] w (.bool (smI x ⟨11,0,x.b,v0I,c0I,x.ar,a0I⟩ && (Wpl.rightA x.ar.s x.ar.t x.ar.l x.ar.b x.ar.r && (x.b == 1 || x.b == 2)))):=by
 have BA:∀ w1:World,Calls prog 101 #[.agg (zAD x (.slice av 0 c)).toArray,.agg (zAD ⟨11,0,x.b,v0I,c0I,x.ar,a0I⟩ zAG).toArray] w1 λe w'=>e=.returned (.bool (smI x ⟨11,0,x.b,v0I,c0I,x.ar,a0I⟩))/\Below w1.heap.size w1 w':=λw1=>by
  have h:=zA2 x ⟨11,0,x.b,v0I,c0I,x.ar,a0I⟩ (.slice av 0 c) zAG w1;have e:(x.op == (⟨11,0,x.b,v0I,c0I,x.ar,a0I⟩:Wc.In).op)=true:=by show (x.op == 11)=true;rw [hk];rfl
  rw [e,Bool.true_and] at h;exact h
 have CC:=(λw=>zAe x.ar.s x.ar.t x.ar.l x.ar.b x.ar.r w:∀ w:World,CR 74 #[.agg #[.int .i64 x.ar.s,.int .i64 x.ar.t,.int .i64 x.ar.l,.int .i64 x.ar.b,.int .i64 x.ar.r]] w (.bool (Wpl.rightA x.ar.s x.ar.t x.ar.l x.ar.b x.ar.r)))
 obtain ⟨tv,htv⟩:∃ tv,Value.slice av 0 c=tv:=⟨_,rfl⟩
 have T22:(zAD x tv)[22]? = some (.slice av 0 c):=by rw [htv];rfl
 rw [htv] at BA ⊢;generalize Wpl.rightA x.ar.s x.ar.t x.ar.l x.ar.b x.ar.r=qr at *;generalize smI x ⟨11,0,x.b,v0I,c0I,x.ar,a0I⟩=qb at *;have pA0:AtL (zAJ w x tv) w.heap.size (zAD x tv):=(AtL.new0 w _ _).alloc _;have pO0:AtL (zAJ w x tv) (w.heap.size+1) (zAD (zAE 0) zAG):=AtL.new1 w _ _ _;have hth:World.there (zAJ w x tv) (w.heap.size+1) 0 (zAD (zAE 11) zAG).toArray.size:=pO0.there;have hne:w.heap.size+1 ≠ w.heap.size:=by omega
 have pA:=pA0.farAll hne 0 (zAD (zAE 11) zAG);have pO:AtL ((zAJ w x tv).setCells (w.heap.size+1) 0 (zAD (zAE 11) zAG)) (w.heap.size+1) (zAD (zAE 11) zAG):=pO0.setAll rfl;have hBa:Below w.heap.size w ((zAJ w x tv).setCells (w.heap.size+1) 0 (zAD (zAE 11) zAG)):=zAa (zAK (zAK (Below.refl _ w) _) _) (Nat.le_succ _) _ 0;clear pA0 pO0;have n0:(zAD x tv)[0]? = some (.int .i64 11):=by rw [<-hk];rfl
 have a0:World.cell? ((zAJ w x tv).setCells (w.heap.size+1) 0 (zAD (zAE 11) zAG)) ⟨w.heap.size,0,none⟩=some (.int .i64 11):=pA.2.1 0 _ n0;show Calls _ _ #[.agg (zAD x tv).toArray] _ _
 have cA0:(zAJ w x tv).cell? ⟨w.heap.size,0,none⟩=some (.int .i64 11):=((AtL.new0 w _ _).alloc _:AtL (zAJ w x tv) w.heap.size (zAD x tv)).2.1 0 _ n0;have pX:=AtL.new0 w 56 (zAD x tv);have c0A:=pX.2.1 0 _ n0;have c22:=pX.2.1 22 _ T22;clear htv T22 cA0 pX;go_enter func67,ntmps67;go_upto_region 3 with fail
 go_upto_region 4 with ((with_reducible refine wpList_store_mid ?_ 56 (.tmp 3) (.tmp 19) ?_ (w.heap.size+1) 0 (zAD (zAE 11) zAG).toArray ?_ ?_ ?_ ?_ ?_ ?_);rfl;rfl;rfl;rfl;exact hth;kernel_rfl;exact zAZ _ _ _ _)
 generalize (zAJ w x tv).setCells (w.heap.size+1) 0 (zAD (zAE 11) zAG)=W0 at *;clear hth c0A c22;have pA1:=pA;have pO1:=pO;have hB1:=hBa;clear pA pO hBa;have a12:=pA1.2.1 12 _ rfl;have o12:=pO1.2.1 12 _ rfl;have f12:=pO1.2.2 12 (by show 12<23;decide);have a13:=pA1.2.1 13 _ rfl;have o13:=pO1.2.1 13 _ rfl;have f13:=pO1.2.2 13 (by show 13<23;decide);have a14:=pA1.2.1 14 _ rfl;have o14:=pO1.2.1 14 _ rfl;have f14:=pO1.2.2 14 (by show 14<23;decide);have a15:=pA1.2.1 15 _ rfl;have o15:=pO1.2.1 15 _ rfl;have f15:=pO1.2.2 15 (by show 15<23;decide);have a16:=pA1.2.1 16 _ rfl;have o16:=pO1.2.1 16 _ rfl;have f16:=pO1.2.2 16 (by show 16<23;decide);go_upto_region 39 with fail
 have pA2:AtL (((((W0.setCell ⟨w.heap.size+1,12,none⟩ (.int .i64 x.ar.s)).setCell ⟨w.heap.size+1,13,none⟩ (.int .i64 x.ar.t)).setCell ⟨w.heap.size+1,14,none⟩ (.int .i64 x.ar.l)).setCell ⟨w.heap.size+1,15,none⟩ (.int .i64 x.ar.b)).setCell ⟨w.heap.size+1,16,none⟩ (.int .i64 x.ar.r)) w.heap.size (zAD x tv):=(((((pA1.far hne 12 (.int .i64 x.ar.s)).far hne 13 (.int .i64 x.ar.t)).far hne 14 (.int .i64 x.ar.l)).far hne 15 (.int .i64 x.ar.b)).far hne 16 (.int .i64 x.ar.r))
 have pO2:=(((((pO1.set 12 (.int .i64 x.ar.s)).set 13 (.int .i64 x.ar.t)).set 14 (.int .i64 x.ar.l)).set 15 (.int .i64 x.ar.b)).set 16 (.int .i64 x.ar.r))
 have hB2:Below w.heap.size w (((((W0.setCell ⟨w.heap.size+1,12,none⟩ (.int .i64 x.ar.s)).setCell ⟨w.heap.size+1,13,none⟩ (.int .i64 x.ar.t)).setCell ⟨w.heap.size+1,14,none⟩ (.int .i64 x.ar.l)).setCell ⟨w.heap.size+1,15,none⟩ (.int .i64 x.ar.b)).setCell ⟨w.heap.size+1,16,none⟩ (.int .i64 x.ar.r)):=(clB hB1)
 clear pA1 pO1 hB1 a12 o12 f12 a13 o13 f13 a14 o14 f14 a15 o15 f15 a16 o16 f16;generalize (((((W0.setCell ⟨w.heap.size+1,12,none⟩ (.int .i64 x.ar.s)).setCell ⟨w.heap.size+1,13,none⟩ (.int .i64 x.ar.t)).setCell ⟨w.heap.size+1,14,none⟩ (.int .i64 x.ar.l)).setCell ⟨w.heap.size+1,15,none⟩ (.int .i64 x.ar.b)).setCell ⟨w.heap.size+1,16,none⟩ (.int .i64 x.ar.r))=W1 at *;have pA1:=pA2;have pO1:=pO2;have hB1:=hB2;clear pA2 pO2 hB2;have a2:=pA1.2.1 2 _ rfl;have o2:=pO1.2.1 2 _ rfl;have f2:=pO1.2.2 2 (by show 2<23;decide);go_upto_region 40 with fail
 have pA2:AtL (W1.setCell ⟨w.heap.size+1,2,none⟩ (.int .i64 x.b)) w.heap.size (zAD x tv):=(pA1.far hne 2 (.int .i64 x.b))
 have pO2:=(pO1.set 2 (.int .i64 x.b))
 have hB2:Below w.heap.size w (W1.setCell ⟨w.heap.size+1,2,none⟩ (.int .i64 x.b)):=(clB hB1)
 clear pA1 pO1 hB1 a2 o2 f2;generalize (W1.setCell ⟨w.heap.size+1,2,none⟩ (.int .i64 x.b))=W2 at *;have pA1:=pA2;have pO1:=pO2;have hB1:=hB2;clear pA2 pO2 hB2;have pOY:AtL W2 (w.heap.size+1) (zAD ⟨11,0,x.b,v0I,c0I,x.ar,a0I⟩ zAG):=pO1;have rA:=pA1.range;have rO:=pOY.range;clear pO1 pOY;have e2:=pA1.2.1 2 _ rfl;have e12:=pA1.2.1 12 _ rfl;have e13:=pA1.2.1 13 _ rfl;have e14:=pA1.2.1 14 _ rfl;have e15:=pA1.2.1 15 _ rfl;have e16:=pA1.2.1 16 _ rfl;clear a0;go_wp2_with (first | (refine zAA (by rfl) 56 (.tmp 1) rfl w.heap.size 0 rfl (zAD x tv) _ rA underlying56 rfl (by kernel_rfl) ?_) | (refine zAA (by rfl) 56 (.tmp 3) rfl (w.heap.size+1) 0 rfl (zAD ⟨11,0,x.b,v0I,c0I,x.ar,a0I⟩ zAG) _ rO underlying56 rfl (by kernel_rfl) ?_))
 refine (BA _).mono ?_;rintro e w5 ⟨rfl,hb5⟩;have hB5:=zAB hB1 hb5;clear BA rA rO;cases qb with
 | false =>
  go_wp2;go_ret;exact ⟨by simp,hB5⟩
 | true =>
  replace e2:=zAC hb5 e2
  replace e12:=zAC hb5 e12
  replace e13:=zAC hb5 e13
  replace e14:=zAC hb5 e14
  replace e15:=zAC hb5 e15
  replace e16:=zAC hb5 e16
  go_wp2_with fail
  refine (CC _).mono ?_;rintro e w6 ⟨rfl,hb6⟩;have hB6:=zAB hB5 hb6;replace e2:=zAC hb6 e2
  cases qr with
  | false =>
   go_wp2;go_ret;exact ⟨by simp,hB6⟩
  | true =>
   by_cases b1:x.b=1
   ·have b1e:(x.b == 1)=true:=by simp [b1]
    clear b1;go_wp2;go_ret;exact ⟨by simp [b1e],hB6⟩
   ·have b1e:(x.b == 1)=false:=by simp [b1]
    by_cases b2:x.b=2
    ·have b2e:(x.b == 2)=true:=by simp [b2]
     clear b2;go_wp2;go_ret;exact ⟨by simp [b2e],hB6⟩
    ·have b2e:(x.b == 2)=false:=by simp [b2]
     go_wp2;go_ret;exact ⟨by simp [b1e,b2e],hB6⟩
theorem zKh (x:Wc.In) (av:Option Addr) (c:Nat) (w:World) (hk:x.op=9) :
  CR 67 #[inV x (.slice av 0 c)] w (.bool (smI x ⟨9,0,0,v0I,c0I,x.ar,x.pr⟩ && ((Wpl.rightA x.ar.s x.ar.t x.ar.l x.ar.b x.ar.r && Wpl.rightA x.pr.s x.pr.t x.pr.l x.pr.b x.pr.r) && shp x.ar x.pr))):=by
 have BA:∀ w1:World,Calls prog 101 #[.agg (zAD x (.slice av 0 c)).toArray,.agg (zAD ⟨9,0,0,v0I,c0I,x.ar,x.pr⟩ zAG).toArray] w1 λe w'=>e=.returned (.bool (smI x ⟨9,0,0,v0I,c0I,x.ar,x.pr⟩))/\Below w1.heap.size w1 w':=λw1=>by
  have h:=zA2 x ⟨9,0,0,v0I,c0I,x.ar,x.pr⟩ (.slice av 0 c) zAG w1;have e:(x.op == (⟨9,0,0,v0I,c0I,x.ar,x.pr⟩:Wc.In).op)=true:=by show (x.op == 9)=true;rw [hk];rfl
  rw [e,Bool.true_and] at h;exact h
 have CC:=(λw=>zAe x.ar.s x.ar.t x.ar.l x.ar.b x.ar.r w:∀ w:World,CR 74 #[.agg #[.int .i64 x.ar.s,.int .i64 x.ar.t,.int .i64 x.ar.l,.int .i64 x.ar.b,.int .i64 x.ar.r]] w (.bool (Wpl.rightA x.ar.s x.ar.t x.ar.l x.ar.b x.ar.r)))
 obtain ⟨tv,htv⟩:∃ tv,Value.slice av 0 c=tv:=⟨_,rfl⟩
 have T22:(zAD x tv)[22]? = some (.slice av 0 c):=by rw [htv];rfl
 rw [htv] at BA ⊢;have CD:=(λw=>zAe x.pr.s x.pr.t x.pr.l x.pr.b x.pr.r w:∀ w:World,CR 74 #[.agg #[.int .i64 x.pr.s,.int .i64 x.pr.t,.int .i64 x.pr.l,.int .i64 x.pr.b,.int .i64 x.pr.r]] w (.bool (Wpl.rightA x.pr.s x.pr.t x.pr.l x.pr.b x.pr.r)))
 have CE:∀ w:World,Wpl.rightA x.ar.s x.ar.t x.ar.l x.ar.b x.ar.r=true->Wpl.rightA x.pr.s x.pr.t x.pr.l x.pr.b x.pr.r=true->CR 57 #[.agg #[.int .i64 x.ar.s,.int .i64 x.ar.t,.int .i64 x.ar.l,.int .i64 x.ar.b,.int .i64 x.ar.r],.agg #[.int .i64 x.pr.s,.int .i64 x.pr.t,.int .i64 x.pr.l,.int .i64 x.pr.b,.int .i64 x.pr.r]] w (.bool (shp x.ar x.pr)):=λw h1 h2=>zD8 x.ar x.pr w (zE0 h1) (zE0 h2)
 generalize shp x.ar x.pr=q3 at *;generalize Wpl.rightA x.ar.s x.ar.t x.ar.l x.ar.b x.ar.r=q1 at *;generalize Wpl.rightA x.pr.s x.pr.t x.pr.l x.pr.b x.pr.r=q2 at *;generalize smI x ⟨9,0,0,v0I,c0I,x.ar,x.pr⟩=qb at *;have pA0:AtL (zAJ w x tv) w.heap.size (zAD x tv):=(AtL.new0 w _ _).alloc _;have pO0:AtL (zAJ w x tv) (w.heap.size+1) (zAD (zAE 0) zAG):=AtL.new1 w _ _ _;have hth:World.there (zAJ w x tv) (w.heap.size+1) 0 (zAD (zAE 9) zAG).toArray.size:=pO0.there;have hne:w.heap.size+1 ≠ w.heap.size:=by omega
 have pA:=pA0.farAll hne 0 (zAD (zAE 9) zAG);have pO:AtL ((zAJ w x tv).setCells (w.heap.size+1) 0 (zAD (zAE 9) zAG)) (w.heap.size+1) (zAD (zAE 9) zAG):=pO0.setAll rfl;have hBa:Below w.heap.size w ((zAJ w x tv).setCells (w.heap.size+1) 0 (zAD (zAE 9) zAG)):=zAa (zAK (zAK (Below.refl _ w) _) _) (Nat.le_succ _) _ 0;clear pA0 pO0;have n0:(zAD x tv)[0]? = some (.int .i64 9):=by rw [<-hk];rfl
 have a0:World.cell? ((zAJ w x tv).setCells (w.heap.size+1) 0 (zAD (zAE 9) zAG)) ⟨w.heap.size,0,none⟩=some (.int .i64 9):=pA.2.1 0 _ n0;show Calls _ _ #[.agg (zAD x tv).toArray] _ _
 have cA0:(zAJ w x tv).cell? ⟨w.heap.size,0,none⟩=some (.int .i64 9):=((AtL.new0 w _ _).alloc _:AtL (zAJ w x tv) w.heap.size (zAD x tv)).2.1 0 _ n0;have pX:=AtL.new0 w 56 (zAD x tv);have c0A:=pX.2.1 0 _ n0;have c22:=pX.2.1 22 _ T22;clear htv T22 cA0 pX;go_enter func67,ntmps67;go_upto_region 3 with fail
 go_upto_region 4 with ((with_reducible refine wpList_store_mid ?_ 56 (.tmp 3) (.tmp 19) ?_ (w.heap.size+1) 0 (zAD (zAE 9) zAG).toArray ?_ ?_ ?_ ?_ ?_ ?_);rfl;rfl;rfl;rfl;exact hth;kernel_rfl;exact zAZ _ _ _ _)
 generalize (zAJ w x tv).setCells (w.heap.size+1) 0 (zAD (zAE 9) zAG)=W0 at *;clear hth c0A c22;have pA1:=pA;have pO1:=pO;have hB1:=hBa;clear pA pO hBa;have a12:=pA1.2.1 12 _ rfl;have o12:=pO1.2.1 12 _ rfl;have f12:=pO1.2.2 12 (by show 12<23;decide);have a13:=pA1.2.1 13 _ rfl;have o13:=pO1.2.1 13 _ rfl;have f13:=pO1.2.2 13 (by show 13<23;decide);have a14:=pA1.2.1 14 _ rfl;have o14:=pO1.2.1 14 _ rfl;have f14:=pO1.2.2 14 (by show 14<23;decide);have a15:=pA1.2.1 15 _ rfl;have o15:=pO1.2.1 15 _ rfl;have f15:=pO1.2.2 15 (by show 15<23;decide);have a16:=pA1.2.1 16 _ rfl;have o16:=pO1.2.1 16 _ rfl;have f16:=pO1.2.2 16 (by show 16<23;decide);go_upto_region 35 with fail
 have pA2:AtL (((((W0.setCell ⟨w.heap.size+1,12,none⟩ (.int .i64 x.ar.s)).setCell ⟨w.heap.size+1,13,none⟩ (.int .i64 x.ar.t)).setCell ⟨w.heap.size+1,14,none⟩ (.int .i64 x.ar.l)).setCell ⟨w.heap.size+1,15,none⟩ (.int .i64 x.ar.b)).setCell ⟨w.heap.size+1,16,none⟩ (.int .i64 x.ar.r)) w.heap.size (zAD x tv):=(((((pA1.far hne 12 (.int .i64 x.ar.s)).far hne 13 (.int .i64 x.ar.t)).far hne 14 (.int .i64 x.ar.l)).far hne 15 (.int .i64 x.ar.b)).far hne 16 (.int .i64 x.ar.r))
 have pO2:=(((((pO1.set 12 (.int .i64 x.ar.s)).set 13 (.int .i64 x.ar.t)).set 14 (.int .i64 x.ar.l)).set 15 (.int .i64 x.ar.b)).set 16 (.int .i64 x.ar.r))
 have hB2:Below w.heap.size w (((((W0.setCell ⟨w.heap.size+1,12,none⟩ (.int .i64 x.ar.s)).setCell ⟨w.heap.size+1,13,none⟩ (.int .i64 x.ar.t)).setCell ⟨w.heap.size+1,14,none⟩ (.int .i64 x.ar.l)).setCell ⟨w.heap.size+1,15,none⟩ (.int .i64 x.ar.b)).setCell ⟨w.heap.size+1,16,none⟩ (.int .i64 x.ar.r)):=(clB hB1)
 clear pA1 pO1 hB1 a12 o12 f12 a13 o13 f13 a14 o14 f14 a15 o15 f15 a16 o16 f16;generalize (((((W0.setCell ⟨w.heap.size+1,12,none⟩ (.int .i64 x.ar.s)).setCell ⟨w.heap.size+1,13,none⟩ (.int .i64 x.ar.t)).setCell ⟨w.heap.size+1,14,none⟩ (.int .i64 x.ar.l)).setCell ⟨w.heap.size+1,15,none⟩ (.int .i64 x.ar.b)).setCell ⟨w.heap.size+1,16,none⟩ (.int .i64 x.ar.r))=W1 at *;have pA1:=pA2;have pO1:=pO2;have hB1:=hB2;clear pA2 pO2 hB2;have a17:=pA1.2.1 17 _ rfl;have o17:=pO1.2.1 17 _ rfl;have f17:=pO1.2.2 17 (by show 17<23;decide);have a18:=pA1.2.1 18 _ rfl;have o18:=pO1.2.1 18 _ rfl;have f18:=pO1.2.2 18 (by show 18<23;decide);have a19:=pA1.2.1 19 _ rfl;have o19:=pO1.2.1 19 _ rfl;have f19:=pO1.2.2 19 (by show 19<23;decide);have a20:=pA1.2.1 20 _ rfl;have o20:=pO1.2.1 20 _ rfl;have f20:=pO1.2.2 20 (by show 20<23;decide);have a21:=pA1.2.1 21 _ rfl;have o21:=pO1.2.1 21 _ rfl;have f21:=pO1.2.2 21 (by show 21<23;decide);go_upto_region 36 with fail
 have pA2:AtL (((((W1.setCell ⟨w.heap.size+1,17,none⟩ (.int .i64 x.pr.s)).setCell ⟨w.heap.size+1,18,none⟩ (.int .i64 x.pr.t)).setCell ⟨w.heap.size+1,19,none⟩ (.int .i64 x.pr.l)).setCell ⟨w.heap.size+1,20,none⟩ (.int .i64 x.pr.b)).setCell ⟨w.heap.size+1,21,none⟩ (.int .i64 x.pr.r)) w.heap.size (zAD x tv):=(((((pA1.far hne 17 (.int .i64 x.pr.s)).far hne 18 (.int .i64 x.pr.t)).far hne 19 (.int .i64 x.pr.l)).far hne 20 (.int .i64 x.pr.b)).far hne 21 (.int .i64 x.pr.r))
 have pO2:=(((((pO1.set 17 (.int .i64 x.pr.s)).set 18 (.int .i64 x.pr.t)).set 19 (.int .i64 x.pr.l)).set 20 (.int .i64 x.pr.b)).set 21 (.int .i64 x.pr.r))
 have hB2:Below w.heap.size w (((((W1.setCell ⟨w.heap.size+1,17,none⟩ (.int .i64 x.pr.s)).setCell ⟨w.heap.size+1,18,none⟩ (.int .i64 x.pr.t)).setCell ⟨w.heap.size+1,19,none⟩ (.int .i64 x.pr.l)).setCell ⟨w.heap.size+1,20,none⟩ (.int .i64 x.pr.b)).setCell ⟨w.heap.size+1,21,none⟩ (.int .i64 x.pr.r)):=(clB hB1)
 clear pA1 pO1 hB1 a17 o17 f17 a18 o18 f18 a19 o19 f19 a20 o20 f20 a21 o21 f21;generalize (((((W1.setCell ⟨w.heap.size+1,17,none⟩ (.int .i64 x.pr.s)).setCell ⟨w.heap.size+1,18,none⟩ (.int .i64 x.pr.t)).setCell ⟨w.heap.size+1,19,none⟩ (.int .i64 x.pr.l)).setCell ⟨w.heap.size+1,20,none⟩ (.int .i64 x.pr.b)).setCell ⟨w.heap.size+1,21,none⟩ (.int .i64 x.pr.r))=W2 at *;have pA1:=pA2;have pO1:=pO2;have hB1:=hB2;clear pA2 pO2 hB2;have pOY:AtL W2 (w.heap.size+1) (zAD ⟨9,0,0,v0I,c0I,x.ar,x.pr⟩ zAG):=pO1;have rA:=pA1.range;have rO:=pOY.range;clear pO1 pOY;have e12:=pA1.2.1 12 _ rfl;have e13:=pA1.2.1 13 _ rfl;have e14:=pA1.2.1 14 _ rfl;have e15:=pA1.2.1 15 _ rfl;have e16:=pA1.2.1 16 _ rfl;have e17:=pA1.2.1 17 _ rfl;have e18:=pA1.2.1 18 _ rfl;have e19:=pA1.2.1 19 _ rfl;have e20:=pA1.2.1 20 _ rfl;have e21:=pA1.2.1 21 _ rfl;clear a0;go_wp2_with (first | (refine zAA (by rfl) 56 (.tmp 1) rfl w.heap.size 0 rfl (zAD x tv) _ rA underlying56 rfl (by kernel_rfl) ?_) | (refine zAA (by rfl) 56 (.tmp 3) rfl (w.heap.size+1) 0 rfl (zAD ⟨9,0,0,v0I,c0I,x.ar,x.pr⟩ zAG) _ rO underlying56 rfl (by kernel_rfl) ?_))
 refine (BA _).mono ?_;rintro e w5 ⟨rfl,hb5⟩;have hB5:=zAB hB1 hb5;clear BA rA rO;cases qb with
 | false =>
  go_wp2;go_ret;exact ⟨by simp,hB5⟩
 | true =>
  replace e12:=zAC hb5 e12
  replace e13:=zAC hb5 e13
  replace e14:=zAC hb5 e14
  replace e15:=zAC hb5 e15
  replace e16:=zAC hb5 e16
  replace e17:=zAC hb5 e17
  replace e18:=zAC hb5 e18
  replace e19:=zAC hb5 e19
  replace e20:=zAC hb5 e20
  replace e21:=zAC hb5 e21
  go_wp2_with fail
  refine (CC _).mono ?_;rintro e w6 ⟨rfl,hb6⟩;have hB6:=zAB hB5 hb6;replace e12:=zAC hb6 e12
  replace e13:=zAC hb6 e13
  replace e14:=zAC hb6 e14
  replace e15:=zAC hb6 e15
  replace e16:=zAC hb6 e16
  replace e17:=zAC hb6 e17
  replace e18:=zAC hb6 e18
  replace e19:=zAC hb6 e19
  replace e20:=zAC hb6 e20
  replace e21:=zAC hb6 e21
  cases q1 with
  | false =>
   go_wp2;go_ret;exact ⟨by simp,hB6⟩
  | true =>
   go_wp2_with fail
   refine (CD _).mono ?_;rintro e w7 ⟨rfl,hb7⟩;have hB7:=zAB hB6 hb7;replace e12:=zAC hb7 e12
   replace e13:=zAC hb7 e13
   replace e14:=zAC hb7 e14
   replace e15:=zAC hb7 e15
   replace e16:=zAC hb7 e16
   replace e17:=zAC hb7 e17
   replace e18:=zAC hb7 e18
   replace e19:=zAC hb7 e19
   replace e20:=zAC hb7 e20
   replace e21:=zAC hb7 e21
   cases q2 with
   | false =>
    go_wp2;go_ret;exact ⟨by simp,hB7⟩
   | true =>
    go_wp2_with fail
    refine (CE _ (by first | trivial | rfl) (by first | trivial | rfl)).mono ?_;rintro e w8 ⟨rfl,hb8⟩;have hB8:=zAB hB7 hb8;cases q3
    ·go_wp2;go_ret;exact ⟨by simp,hB8⟩
    ·go_wp2;go_ret;exact ⟨by simp,hB8⟩
