/- KFormK, KFormL, KFormM, KFormN, KFormO, KById, KFormP, KFormed, KRChk, PWalkO. -/
import Derived.Test.YtefkclbaflkheaaGreatDoorQ35
set_option maxHeartbeats 4000000
set_option maxRecDepth 100000
namespace Go.Proofs.YtefkclbaflkheaaGreatDoor
open Tryz
open Go.RowKit
set_option linter.unusedVariables false
variable {w:World} {B:Nat} {A:List Sg}
theorem zH6 (x:Wc.In) (av:Option Addr) (c:Nat) (w:World) (hk:x.op=6) (hq:fld x.a=true) :
  CR 67 #[inV x (.slice av 0 c)] w (.bool (smI x ⟨6,x.a,0,v0I,c0I,a0I,a0I⟩ && true)):=by
 have BA:∀ w1:World,Calls prog 101 #[.agg (zAD x (.slice av 0 c)).toArray,.agg (zAD ⟨6,x.a,0,v0I,c0I,a0I,a0I⟩ zAG).toArray] w1 λe w'=>e=.returned (.bool (smI x ⟨6,x.a,0,v0I,c0I,a0I,a0I⟩))/\Below w1.heap.size w1 w':=λw1=>by
  have h:=zA2 x ⟨6,x.a,0,v0I,c0I,a0I,a0I⟩ (.slice av 0 c) zAG w1;have e:(x.op == (⟨6,x.a,0,v0I,c0I,a0I,a0I⟩:Wc.In).op)=true:=by show (x.op == 6)=true;rw [hk];rfl
  rw [e,Bool.true_and] at h;exact h
 obtain ⟨tv,htv⟩:∃ tv,Value.slice av 0 c=tv:=⟨_,rfl⟩
 have T22:(zAD x tv)[22]? = some (.slice av 0 c):=by rw [htv];rfl
 rw [htv] at BA ⊢;have HQC:Hid (fld x.a=true):=hq;clear hq;generalize smI x ⟨6,x.a,0,v0I,c0I,a0I,a0I⟩=qb at *;have pA0:AtL (zAJ w x tv) w.heap.size (zAD x tv):=(AtL.new0 w _ _).alloc _;have pO0:AtL (zAJ w x tv) (w.heap.size+1) (zAD (zAE 0) zAG):=AtL.new1 w _ _ _;have hth:World.there (zAJ w x tv) (w.heap.size+1) 0 (zAD (zAE 6) zAG).toArray.size:=pO0.there;have hne:w.heap.size+1 ≠ w.heap.size:=by omega
 have pA:=pA0.farAll hne 0 (zAD (zAE 6) zAG);have pO:AtL ((zAJ w x tv).setCells (w.heap.size+1) 0 (zAD (zAE 6) zAG)) (w.heap.size+1) (zAD (zAE 6) zAG):=pO0.setAll rfl;have hBa:Below w.heap.size w ((zAJ w x tv).setCells (w.heap.size+1) 0 (zAD (zAE 6) zAG)):=zAa (zAK (zAK (Below.refl _ w) _) _) (Nat.le_succ _) _ 0;clear pA0 pO0;have n0:(zAD x tv)[0]? = some (.int .i64 6):=by rw [<-hk];rfl
 have a0:World.cell? ((zAJ w x tv).setCells (w.heap.size+1) 0 (zAD (zAE 6) zAG)) ⟨w.heap.size,0,none⟩=some (.int .i64 6):=pA.2.1 0 _ n0;show Calls _ _ #[.agg (zAD x tv).toArray] _ _
 have cA0:(zAJ w x tv).cell? ⟨w.heap.size,0,none⟩=some (.int .i64 6):=((AtL.new0 w _ _).alloc _:AtL (zAJ w x tv) w.heap.size (zAD x tv)).2.1 0 _ n0;have pX:=AtL.new0 w 56 (zAD x tv);have c0A:=pX.2.1 0 _ n0;have c22:=pX.2.1 22 _ T22;clear htv T22 cA0 pX;go_enter func67,ntmps67;go_upto_region 3 with fail
 go_upto_region 4 with ((with_reducible refine wpList_store_mid ?_ 56 (.tmp 3) (.tmp 19) ?_ (w.heap.size+1) 0 (zAD (zAE 6) zAG).toArray ?_ ?_ ?_ ?_ ?_ ?_);rfl;rfl;rfl;rfl;exact hth;kernel_rfl;exact zAZ _ _ _ _)
 generalize (zAJ w x tv).setCells (w.heap.size+1) 0 (zAD (zAE 6) zAG)=W0 at *;clear hth c0A c22;have pA1:=pA;have pO1:=pO;have hB1:=hBa;clear pA pO hBa;have a1:=pA1.2.1 1 _ rfl;have o1:=pO1.2.1 1 _ rfl;have f1:=pO1.2.2 1 (by show 1<23;decide);go_upto_region 24 with fail
 have pA2:AtL (W0.setCell ⟨w.heap.size+1,1,none⟩ (.int .i64 x.a)) w.heap.size (zAD x tv):=(pA1.far hne 1 (.int .i64 x.a))
 have pO2:=(pO1.set 1 (.int .i64 x.a))
 have hB2:Below w.heap.size w (W0.setCell ⟨w.heap.size+1,1,none⟩ (.int .i64 x.a)):=(clB hB1)
 clear pA1 pO1 hB1 a1 o1 f1;generalize (W0.setCell ⟨w.heap.size+1,1,none⟩ (.int .i64 x.a))=W1 at *;have pA1:=pA2;have pO1:=pO2;have hB1:=hB2;clear pA2 pO2 hB2;have pOY:AtL W1 (w.heap.size+1) (zAD ⟨6,x.a,0,v0I,c0I,a0I,a0I⟩ zAG):=pO1;have rA:=pA1.range;have rO:=pOY.range;clear pO1 pOY;have e1:=pA1.2.1 1 _ rfl;have OP:∀ w:World,Calls prog 105 #[.int .i64 x.a] w λe w'=>(∃ v,e=.returned (.tuple #[v,.int .i64 0]))/\Below w.heap.size w w':=λw=>by have h:=zDO x.a w;rw [HQC.out] at h;exact h
 go_wp2_with fail
 refine (OP _).mono ?_;rintro e w4 ⟨⟨vv,rfl⟩,hb4⟩;replace pA1:=AtL.below hb4 pA1
 replace hB1:=zAB hB1 hb4
 clear rA;have rA:=pA1.range;replace rO:=zAI hb4 rO
 clear OP hb4 e1;clear a0;go_wp2_with (first | (refine zAA (by rfl) 56 (.tmp 1) rfl w.heap.size 0 rfl (zAD x tv) _ rA underlying56 rfl (by kernel_rfl) ?_) | (refine zAA (by rfl) 56 (.tmp 3) rfl (w.heap.size+1) 0 rfl (zAD ⟨6,x.a,0,v0I,c0I,a0I,a0I⟩ zAG) _ rO underlying56 rfl (by kernel_rfl) ?_))
 refine (BA _).mono ?_;rintro e w5 ⟨rfl,hb5⟩;have hB5:=zAB hB1 hb5;clear BA rA rO;cases qb with
 | false =>
  go_wp2;go_ret;exact ⟨by simp,hB5⟩
 | true =>
  go_wp2;go_ret;exact ⟨by simp,hB5⟩
theorem zJK (x:Wc.In) (av:Option Addr) (c:Nat) (w:World) (hk:x.op=6) (hq:fld x.a=false) :
  CR 67 #[inV x (.slice av 0 c)] w (.bool (smI x ⟨6,x.a,0,v0I,c0I,a0I,a0I⟩ && false)):=by
 have BA:∀ w1:World,Calls prog 101 #[.agg (zAD x (.slice av 0 c)).toArray,.agg (zAD ⟨6,x.a,0,v0I,c0I,a0I,a0I⟩ zAG).toArray] w1 λe w'=>e=.returned (.bool (smI x ⟨6,x.a,0,v0I,c0I,a0I,a0I⟩))/\Below w1.heap.size w1 w':=λw1=>by
  have h:=zA2 x ⟨6,x.a,0,v0I,c0I,a0I,a0I⟩ (.slice av 0 c) zAG w1;have e:(x.op == (⟨6,x.a,0,v0I,c0I,a0I,a0I⟩:Wc.In).op)=true:=by show (x.op == 6)=true;rw [hk];rfl
  rw [e,Bool.true_and] at h;exact h
 obtain ⟨tv,htv⟩:∃ tv,Value.slice av 0 c=tv:=⟨_,rfl⟩
 have T22:(zAD x tv)[22]? = some (.slice av 0 c):=by rw [htv];rfl
 rw [htv] at BA ⊢;have HQC:Hid (fld x.a=false):=hq;clear hq;generalize smI x ⟨6,x.a,0,v0I,c0I,a0I,a0I⟩=qb at *;have pA0:AtL (zAJ w x tv) w.heap.size (zAD x tv):=(AtL.new0 w _ _).alloc _;have pO0:AtL (zAJ w x tv) (w.heap.size+1) (zAD (zAE 0) zAG):=AtL.new1 w _ _ _;have hth:World.there (zAJ w x tv) (w.heap.size+1) 0 (zAD (zAE 6) zAG).toArray.size:=pO0.there;have hne:w.heap.size+1 ≠ w.heap.size:=by omega
 have pA:=pA0.farAll hne 0 (zAD (zAE 6) zAG);have pO:AtL ((zAJ w x tv).setCells (w.heap.size+1) 0 (zAD (zAE 6) zAG)) (w.heap.size+1) (zAD (zAE 6) zAG):=pO0.setAll rfl;have hBa:Below w.heap.size w ((zAJ w x tv).setCells (w.heap.size+1) 0 (zAD (zAE 6) zAG)):=zAa (zAK (zAK (Below.refl _ w) _) _) (Nat.le_succ _) _ 0;clear pA0 pO0;have n0:(zAD x tv)[0]? = some (.int .i64 6):=by rw [<-hk];rfl
 have a0:World.cell? ((zAJ w x tv).setCells (w.heap.size+1) 0 (zAD (zAE 6) zAG)) ⟨w.heap.size,0,none⟩=some (.int .i64 6):=pA.2.1 0 _ n0;show Calls _ _ #[.agg (zAD x tv).toArray] _ _
 have cA0:(zAJ w x tv).cell? ⟨w.heap.size,0,none⟩=some (.int .i64 6):=((AtL.new0 w _ _).alloc _:AtL (zAJ w x tv) w.heap.size (zAD x tv)).2.1 0 _ n0;have pX:=AtL.new0 w 56 (zAD x tv);have c0A:=pX.2.1 0 _ n0;have c22:=pX.2.1 22 _ T22;clear htv T22 cA0 pX;go_enter func67,ntmps67;go_upto_region 3 with fail
 go_upto_region 4 with ((with_reducible refine wpList_store_mid ?_ 56 (.tmp 3) (.tmp 19) ?_ (w.heap.size+1) 0 (zAD (zAE 6) zAG).toArray ?_ ?_ ?_ ?_ ?_ ?_);rfl;rfl;rfl;rfl;exact hth;kernel_rfl;exact zAZ _ _ _ _)
 generalize (zAJ w x tv).setCells (w.heap.size+1) 0 (zAD (zAE 6) zAG)=W0 at *;clear hth c0A c22;have pA1:=pA;have pO1:=pO;have hB1:=hBa;clear pA pO hBa;have a1:=pA1.2.1 1 _ rfl;have o1:=pO1.2.1 1 _ rfl;have f1:=pO1.2.2 1 (by show 1<23;decide);go_upto_region 24 with fail
 have pA2:AtL (W0.setCell ⟨w.heap.size+1,1,none⟩ (.int .i64 x.a)) w.heap.size (zAD x tv):=(pA1.far hne 1 (.int .i64 x.a))
 have pO2:=(pO1.set 1 (.int .i64 x.a))
 have hB2:Below w.heap.size w (W0.setCell ⟨w.heap.size+1,1,none⟩ (.int .i64 x.a)):=(clB hB1)
 clear pA1 pO1 hB1 a1 o1 f1;generalize (W0.setCell ⟨w.heap.size+1,1,none⟩ (.int .i64 x.a))=W1 at *;have pA1:=pA2;have pO1:=pO2;have hB1:=hB2;clear pA2 pO2 hB2;have pOY:AtL W1 (w.heap.size+1) (zAD ⟨6,x.a,0,v0I,c0I,a0I,a0I⟩ zAG):=pO1;have rA:=pA1.range;have rO:=pOY.range;clear pO1 pOY;have e1:=pA1.2.1 1 _ rfl;have OP:∀ w:World,Calls prog 105 #[.int .i64 x.a] w λe w'=>(∃ v,e=.returned (.tuple #[v,.int .i64 1]))/\Below w.heap.size w w':=λw=>by have h:=zDO x.a w;rw [HQC.out] at h;exact h
 go_wp2_with fail
 refine (OP _).mono ?_;rintro e w4 ⟨⟨vv,rfl⟩,hb4⟩;replace pA1:=AtL.below hb4 pA1
 replace hB1:=zAB hB1 hb4
 clear rA;have rA:=pA1.range;replace rO:=zAI hb4 rO
 clear OP hb4 e1;clear a0;go_wp2_with (first | (refine zAA (by rfl) 56 (.tmp 1) rfl w.heap.size 0 rfl (zAD x tv) _ rA underlying56 rfl (by kernel_rfl) ?_) | (refine zAA (by rfl) 56 (.tmp 3) rfl (w.heap.size+1) 0 rfl (zAD ⟨6,x.a,0,v0I,c0I,a0I,a0I⟩ zAG) _ rO underlying56 rfl (by kernel_rfl) ?_))
 refine (BA _).mono ?_;rintro e w5 ⟨rfl,hb5⟩;have hB5:=zAB hB1 hb5;clear BA rA rO;cases qb with
 | false =>
  go_wp2;go_ret;exact ⟨by simp,hB5⟩
 | true =>
  go_wp2;go_ret;exact ⟨by simp,hB5⟩
theorem zEb (x:Wc.In) (av:Option Addr) (n c:Nat) (w:World) (hn:0<n) (h15:¬ x.op=15) :
  CR 67 #[inV x (.slice av n c)] w (.bool false):=by
 have pX:=AtL.new0 w 56 (zAD x (.slice av n c));have hB:=zAK (Below.refl _ w) (.cells (zAD x (.slice av n c)).toArray 56);have c0:=pX.2.1 0 _ rfl;have c22:=pX.2.1 22 _ rfl;have hz:(0:Int)<(n:Int):=by omega
 have h15b:(x.op == 15)=false:=by simp [h15]
 clear pX;go_enter func67,ntmps67;go_upto_region 1 with fail
 generalize (w.alloc (.cells (zAD x (.slice av n c)).toArray 56))=W at *;go_wp2;go_ret;exact ⟨by simp,hB⟩
theorem zIg (x:Wc.In) (av:Option Addr) (n c:Nat) (w:World) (hk:x.op=15) (hp:0<n) :
  CR 67 #[inV x (.slice av n c)] w (.bool (smI x ⟨15,0,x.b,v0I,c0I,a0I,a0I⟩ && (decide (1<=(n:Int)) && decide ((n:Int)<=30)))):=by
 have BA:∀ w1:World,Calls prog 101 #[.agg (zAD x (.slice av n c)).toArray,.agg (zAD ⟨15,0,x.b,v0I,c0I,a0I,a0I⟩ zAG).toArray] w1 λe w'=>e=.returned (.bool (smI x ⟨15,0,x.b,v0I,c0I,a0I,a0I⟩))/\Below w1.heap.size w1 w':=λw1=>by
  have h:=zA2 x ⟨15,0,x.b,v0I,c0I,a0I,a0I⟩ (.slice av n c) zAG w1;have e:(x.op == (⟨15,0,x.b,v0I,c0I,a0I,a0I⟩:Wc.In).op)=true:=by show (x.op == 15)=true;rw [hk];rfl
  rw [e,Bool.true_and] at h;exact h
 obtain ⟨tv,htv⟩:∃ tv,Value.slice av n c=tv:=⟨_,rfl⟩
 have T22:Hid ((zAD x tv)[22]? = some (.slice av n c)):=by show _=_;rw [htv];rfl
 rw [htv] at BA ⊢;generalize smI x ⟨15,0,x.b,v0I,c0I,a0I,a0I⟩=qb at *;have pA0:AtL (zAJ w x tv) w.heap.size (zAD x tv):=(AtL.new0 w _ _).alloc _;have pO0:AtL (zAJ w x tv) (w.heap.size+1) (zAD (zAE 0) zAG):=AtL.new1 w _ _ _;have hth:World.there (zAJ w x tv) (w.heap.size+1) 0 (zAD (zAE 15) zAG).toArray.size:=pO0.there;have hne:w.heap.size+1 ≠ w.heap.size:=by omega
 have pA:=pA0.farAll hne 0 (zAD (zAE 15) zAG);have pO:AtL ((zAJ w x tv).setCells (w.heap.size+1) 0 (zAD (zAE 15) zAG)) (w.heap.size+1) (zAD (zAE 15) zAG):=pO0.setAll rfl;have hBa:Below w.heap.size w ((zAJ w x tv).setCells (w.heap.size+1) 0 (zAD (zAE 15) zAG)):=zAa (zAK (zAK (Below.refl _ w) _) _) (Nat.le_succ _) _ 0;clear pA0 pO0;have n0:(zAD x tv)[0]? = some (.int .i64 15):=by rw [<-hk];rfl
 have a0:World.cell? ((zAJ w x tv).setCells (w.heap.size+1) 0 (zAD (zAE 15) zAG)) ⟨w.heap.size,0,none⟩=some (.int .i64 15):=pA.2.1 0 _ n0;show Calls _ _ #[.agg (zAD x tv).toArray] _ _
 have cA0:(zAJ w x tv).cell? ⟨w.heap.size,0,none⟩=some (.int .i64 15):=((AtL.new0 w _ _).alloc _:AtL (zAJ w x tv) w.heap.size (zAD x tv)).2.1 0 _ n0;have pX:=AtL.new0 w 56 (zAD x tv);have c0A:=pX.2.1 0 _ n0;have c22:=pX.2.1 22 _ T22.out;clear htv cA0 pX;have hz:(0:Int)<(n:Int):=by omega
 have hzN:(0<n)=True:=by simp;omega
 have hzd:decide ((0:Int)<(n:Int))=true:=by simp;omega
 go_enter func67,ntmps67;go_upto_region 3 with fail
 go_upto_region 4 with ((with_reducible refine wpList_store_mid ?_ 56 (.tmp 3) (.tmp 19) ?_ (w.heap.size+1) 0 (zAD (zAE 15) zAG).toArray ?_ ?_ ?_ ?_ ?_ ?_);rfl;rfl;rfl;rfl;exact hth;kernel_rfl;exact zAZ _ _ _ _)
 generalize (zAJ w x tv).setCells (w.heap.size+1) 0 (zAD (zAE 15) zAG)=W0 at *;clear hth c0A c22;have pA1:=pA;have pO1:=pO;have hB1:=hBa;clear pA pO hBa;have a2:=pA1.2.1 2 _ rfl;have o2:=pO1.2.1 2 _ rfl;have f2:=pO1.2.2 2 (by show 2<23;decide);go_upto_region 51 with fail
 have pA2:AtL (W0.setCell ⟨w.heap.size+1,2,none⟩ (.int .i64 x.b)) w.heap.size (zAD x tv):=(pA1.far hne 2 (.int .i64 x.b))
 have pO2:=(pO1.set 2 (.int .i64 x.b))
 have hB2:Below w.heap.size w (W0.setCell ⟨w.heap.size+1,2,none⟩ (.int .i64 x.b)):=(clB hB1)
 clear pA1 pO1 hB1 a2 o2 f2;generalize (W0.setCell ⟨w.heap.size+1,2,none⟩ (.int .i64 x.b))=W1 at *;have pA1:=pA2;have pO1:=pO2;have hB1:=hB2;clear pA2 pO2 hB2;have pOY:AtL W1 (w.heap.size+1) (zAD ⟨15,0,x.b,v0I,c0I,a0I,a0I⟩ zAG):=pO1;have rA:=pA1.range;have rO:=pOY.range;clear pO1 pOY;have e22:=pA1.2.1 22 _ T22.out;clear a0;go_wp2_with (first | (refine zAA (by rfl) 56 (.tmp 1) rfl w.heap.size 0 rfl (zAD x tv) _ rA underlying56 rfl (by kernel_rfl) ?_) | (refine zAA (by rfl) 56 (.tmp 3) rfl (w.heap.size+1) 0 rfl (zAD ⟨15,0,x.b,v0I,c0I,a0I,a0I⟩ zAG) _ rO underlying56 rfl (by kernel_rfl) ?_))
 refine (BA _).mono ?_;rintro e w5 ⟨rfl,hb5⟩;have hB5:=zAB hB1 hb5;clear BA rA rO;cases qb with
 | false =>
  go_wp2;go_ret;exact ⟨by simp,hB5⟩
 | true =>
  replace e22:=zAC hb5 e22
  have g1:1<=(n:Int):=by omega
  have g1n:¬ (n:Int)<1:=by omega
  by_cases g2:(n:Int)<=30
  ·have g2n:¬ 30<(n:Int):=by omega
   go_wp2;go_ret;exact ⟨by first | (simp [g1,g2];done) | (simp;omega),hB5⟩
  ·have g2n:30<(n:Int):=by omega
   go_wp2;go_ret;exact ⟨by (simp;omega),hB5⟩
theorem zLF (x:Wc.In) (av:Option Addr) (c:Nat) (w:World) (ho:x.op<1 \/ 16<x.op) :
  CR 67 #[inV x (.slice av 0 c)] w (.bool false):=by
 have m1:¬ x.op=1:=by omega
 have m2:¬ x.op=2:=by omega
 have m3:¬ x.op=3:=by omega
 have m4:¬ x.op=4:=by omega
 have m5:¬ x.op=5:=by omega
 have m6:¬ x.op=6:=by omega
 have m7:¬ x.op=7:=by omega
 have m8:¬ x.op=8:=by omega
 have m9:¬ x.op=9:=by omega
 have m10:¬ x.op=10:=by omega
 have m11:¬ x.op=11:=by omega
 have m12:¬ x.op=12:=by omega
 have m13:¬ x.op=13:=by omega
 have m14:¬ x.op=14:=by omega
 have m15:¬ x.op=15:=by omega
 have m16:¬ x.op=16:=by omega
 obtain ⟨tv,htv⟩:∃ tv,Value.slice av 0 c=tv:=⟨_,rfl⟩
 have T22:(zAD x tv)[22]? = some (.slice av 0 c):=by rw [htv];rfl
 rw [htv];have pA0:AtL (zAJ w x tv) w.heap.size (zAD x tv):=(AtL.new0 w _ _).alloc _;have pO0:AtL (zAJ w x tv) (w.heap.size+1) (zAD (zAE 0) zAG):=AtL.new1 w _ _ _;have hth:World.there (zAJ w x tv) (w.heap.size+1) 0 (zAD (zAE (x.op)) zAG).toArray.size:=pO0.there;have hne:w.heap.size+1 ≠ w.heap.size:=by omega
 have pA:=pA0.farAll hne 0 (zAD (zAE (x.op)) zAG);have pO:AtL ((zAJ w x tv).setCells (w.heap.size+1) 0 (zAD (zAE (x.op)) zAG)) (w.heap.size+1) (zAD (zAE (x.op)) zAG):=pO0.setAll rfl;have hBa:Below w.heap.size w ((zAJ w x tv).setCells (w.heap.size+1) 0 (zAD (zAE (x.op)) zAG)):=zAa (zAK (zAK (Below.refl _ w) _) _) (Nat.le_succ _) _ 0;clear pA0 pO0;have n0:(zAD x tv)[0]? = some (.int .i64 (x.op)):=rfl;have a0:World.cell? ((zAJ w x tv).setCells (w.heap.size+1) 0 (zAD (zAE (x.op)) zAG)) ⟨w.heap.size,0,none⟩=some (.int .i64 (x.op)):=pA.2.1 0 _ n0;show Calls _ _ #[.agg (zAD x tv).toArray] _ _
 have cA0:(zAJ w x tv).cell? ⟨w.heap.size,0,none⟩=some (.int .i64 (x.op)):=((AtL.new0 w _ _).alloc _:AtL (zAJ w x tv) w.heap.size (zAD x tv)).2.1 0 _ n0;have pX:=AtL.new0 w 56 (zAD x tv);have c0A:=pX.2.1 0 _ n0;have c22:=pX.2.1 22 _ T22;clear htv T22 cA0 pX;go_enter func67,ntmps67;go_upto_region 3 with fail
 go_upto_region 4 with ((with_reducible refine wpList_store_mid ?_ 56 (.tmp 3) (.tmp 19) ?_ (w.heap.size+1) 0 (zAD (zAE (x.op)) zAG).toArray ?_ ?_ ?_ ?_ ?_ ?_);rfl;rfl;rfl;rfl;exact hth;kernel_rfl;exact zAZ _ _ _ _)
 generalize (zAJ w x tv).setCells (w.heap.size+1) 0 (zAD (zAE (x.op)) zAG)=W0 at *;clear hth c0A c22;go_wp2;go_ret;exact ⟨by simp,hBa⟩
theorem zGF (x:Wc.In) (av:Option Addr) (c:Nat) (w:World) (hk:x.op=15) :
  CR 67 #[inV x (.slice av 0 c)] w (.bool (smI x ⟨15,0,x.b,v0I,c0I,a0I,a0I⟩ && false)):=by
 have BA:∀ w1:World,Calls prog 101 #[.agg (zAD x (.slice av 0 c)).toArray,.agg (zAD ⟨15,0,x.b,v0I,c0I,a0I,a0I⟩ zAG).toArray] w1 λe w'=>e=.returned (.bool (smI x ⟨15,0,x.b,v0I,c0I,a0I,a0I⟩))/\Below w1.heap.size w1 w':=λw1=>by
  have h:=zA2 x ⟨15,0,x.b,v0I,c0I,a0I,a0I⟩ (.slice av 0 c) zAG w1;have e:(x.op == (⟨15,0,x.b,v0I,c0I,a0I,a0I⟩:Wc.In).op)=true:=by show (x.op == 15)=true;rw [hk];rfl
  rw [e,Bool.true_and] at h;exact h
 obtain ⟨tv,htv⟩:∃ tv,Value.slice av 0 c=tv:=⟨_,rfl⟩
 have T22:Hid ((zAD x tv)[22]? = some (.slice av 0 c)):=by show _=_;rw [htv];rfl
 rw [htv] at BA ⊢;generalize smI x ⟨15,0,x.b,v0I,c0I,a0I,a0I⟩=qb at *;have pA0:AtL (zAJ w x tv) w.heap.size (zAD x tv):=(AtL.new0 w _ _).alloc _;have pO0:AtL (zAJ w x tv) (w.heap.size+1) (zAD (zAE 0) zAG):=AtL.new1 w _ _ _;have hth:World.there (zAJ w x tv) (w.heap.size+1) 0 (zAD (zAE 15) zAG).toArray.size:=pO0.there;have hne:w.heap.size+1 ≠ w.heap.size:=by omega
 have pA:=pA0.farAll hne 0 (zAD (zAE 15) zAG);have pO:AtL ((zAJ w x tv).setCells (w.heap.size+1) 0 (zAD (zAE 15) zAG)) (w.heap.size+1) (zAD (zAE 15) zAG):=pO0.setAll rfl;have hBa:Below w.heap.size w ((zAJ w x tv).setCells (w.heap.size+1) 0 (zAD (zAE 15) zAG)):=zAa (zAK (zAK (Below.refl _ w) _) _) (Nat.le_succ _) _ 0;clear pA0 pO0;have n0:(zAD x tv)[0]? = some (.int .i64 15):=by rw [<-hk];rfl
 have a0:World.cell? ((zAJ w x tv).setCells (w.heap.size+1) 0 (zAD (zAE 15) zAG)) ⟨w.heap.size,0,none⟩=some (.int .i64 15):=pA.2.1 0 _ n0;show Calls _ _ #[.agg (zAD x tv).toArray] _ _
 have cA0:(zAJ w x tv).cell? ⟨w.heap.size,0,none⟩=some (.int .i64 15):=((AtL.new0 w _ _).alloc _:AtL (zAJ w x tv) w.heap.size (zAD x tv)).2.1 0 _ n0;have pX:=AtL.new0 w 56 (zAD x tv);have c0A:=pX.2.1 0 _ n0;have c22:=pX.2.1 22 _ T22.out;clear htv cA0 pX;go_enter func67,ntmps67;go_upto_region 3 with fail
 go_upto_region 4 with ((with_reducible refine wpList_store_mid ?_ 56 (.tmp 3) (.tmp 19) ?_ (w.heap.size+1) 0 (zAD (zAE 15) zAG).toArray ?_ ?_ ?_ ?_ ?_ ?_);rfl;rfl;rfl;rfl;exact hth;kernel_rfl;exact zAZ _ _ _ _)
 generalize (zAJ w x tv).setCells (w.heap.size+1) 0 (zAD (zAE 15) zAG)=W0 at *;clear hth c0A c22;have pA1:=pA;have pO1:=pO;have hB1:=hBa;clear pA pO hBa;have a2:=pA1.2.1 2 _ rfl;have o2:=pO1.2.1 2 _ rfl;have f2:=pO1.2.2 2 (by show 2<23;decide);go_upto_region 51 with fail
 have pA2:AtL (W0.setCell ⟨w.heap.size+1,2,none⟩ (.int .i64 x.b)) w.heap.size (zAD x tv):=(pA1.far hne 2 (.int .i64 x.b))
 have pO2:=(pO1.set 2 (.int .i64 x.b))
 have hB2:Below w.heap.size w (W0.setCell ⟨w.heap.size+1,2,none⟩ (.int .i64 x.b)):=(clB hB1)
 clear pA1 pO1 hB1 a2 o2 f2;generalize (W0.setCell ⟨w.heap.size+1,2,none⟩ (.int .i64 x.b))=W1 at *;have pA1:=pA2;have pO1:=pO2;have hB1:=hB2;clear pA2 pO2 hB2;have pOY:AtL W1 (w.heap.size+1) (zAD ⟨15,0,x.b,v0I,c0I,a0I,a0I⟩ zAG):=pO1;have rA:=pA1.range;have rO:=pOY.range;clear pO1 pOY;have e22:=pA1.2.1 22 _ T22.out;clear a0;go_wp2_with (first | (refine zAA (by rfl) 56 (.tmp 1) rfl w.heap.size 0 rfl (zAD x tv) _ rA underlying56 rfl (by kernel_rfl) ?_) | (refine zAA (by rfl) 56 (.tmp 3) rfl (w.heap.size+1) 0 rfl (zAD ⟨15,0,x.b,v0I,c0I,a0I,a0I⟩ zAG) _ rO underlying56 rfl (by kernel_rfl) ?_))
 refine (BA _).mono ?_;rintro e w5 ⟨rfl,hb5⟩;have hB5:=zAB hB1 hb5;clear BA rA rO;cases qb with
 | false =>
  go_wp2;go_ret;exact ⟨by simp,hB5⟩
 | true =>
  replace e22:=zAC hb5 e22
  go_wp2;go_ret;exact ⟨by simp,hB5⟩
theorem zDB:∀ (A:List Sg) (i j:Nat) (h:i<A.length),j<6->(zAk A)[i * 6+j]? = (A[i]).cs[j]?
 | x::r,0,j,_,hj=>by
  show (x.cs++zAk r)[0 * 6+j]? = _
  rw [List.getElem?_append_left (by simp;omega)];simp
 | x::r,i+1,j,h,hj=>by
  have ih:=zDB r i j (by simpa using h) hj;show (x.cs++zAk r)[(i+1) * 6+j]? = _
  rw [List.getElem?_append_right (by simp;omega)];have e:(i+1) * 6+j - x.cs.length=i * 6+j:=by simp;omega
  rw [e,ih];rfl
theorem OwnS.cell {G n cap:Nat} (h:OwnS w B (.slice (some ⟨G,0,none⟩) n cap) A) {i:Nat} (hi:i<A.length) {j:Nat} {v:Value} (hv:(A[i]).cs[j]? = some v):w.cell? ⟨G,i * 6+j,none⟩=some v:=by
 have hj:j<6:=by
  rcases Nat.lt_or_ge j 6 with q | q
  ·exact q
  ·rw [List.getElem?_eq_none (by simpa using q)] at hv;cases hv
 have hc:=h.cells (g:=G) rfl (i * 6+j) v (by rw [zDB A i j hi hj];exact hv);rwa [show (⟨G,0,none⟩:Addr).add (i * 6+j)=⟨G,i * 6+j,none⟩ from by
  simp [Addr.add];try (intro h0;omega)] at hc
theorem OwnS.shape {v:Value} (h:OwnS w B v A) (hne:A.length=49):∃ G cap,v=.slice (some ⟨G,0,none⟩) 49 cap/\B<=G:=by
 rcases h.2 with ⟨_,h0⟩ | ⟨g,cap,cur,e,hb,_⟩
 ·omega
 ·exact ⟨g,cap,by rw [e,hne],hb⟩
theorem zJ3 (ALL:∀ w:World,Calls prog 86 #[] w λe w'=>(∃ r B,e=.returned r/\OwnS w' B r allS/\w.heap.size<=B)/\Below w.heap.size w w') (id:Int) (w:World) :
  Calls prog 104 #[.int .i64 id] w λe w'=>(∃ s:Sg,e=.returned (.tuple #[.agg (sg6 s.id s.c s.nm s.l s.m s.p).toArray,.bool (zAt id)])/\(zAt id=true->s ∈ allS/\s.id=id))/\Below w.heap.size w w':=by
 have pZ:=AtL.new0 w 108 (sg6 0 0 ⟨#[]⟩ 0 0 ⟨#[]⟩);have hB:=zAK (Below.refl _ w) (.cells (sg6 0 0 ⟨#[]⟩ 0 0 ⟨#[]⟩).toArray 108);have HALL:Hid (∀ w:World,Calls prog 86 #[] w λe w'=>(∃ r B,e=.returned r/\OwnS w' B r allS/\w.heap.size<=B)/\Below w.heap.size w w'):=ALL;clear ALL;go_enter func104,ntmps104;go_upto_region 1 with fail
 generalize (w.alloc (.cells (sg6 0 0 ⟨#[]⟩ 0 0 ⟨#[]⟩).toArray 108))=W at *;have AL:=HALL.out W;go_wp2_with fail
 refine AL.mono ?_;rintro e w1 ⟨⟨r,B,rfl,own,hWB⟩,hb1⟩;obtain ⟨G,cap,rfl,hBG⟩:=own.shape zCh;have HO:Hid (OwnS w1 B (.slice (some ⟨G,0,none⟩) 49 cap) allS):=own;have pZ1:=AtL.below hb1 pZ;have HZ:Hid (AtL w1 w.heap.size (sg6 0 0 ⟨#[]⟩ 0 0 ⟨#[]⟩)):=pZ1;have HB:Hid (Below w.heap.size w w1):=zAB hB hb1;have HGN:Hid (G ≠ w.heap.size):=by have:=pZ.1;show G ≠ _;omega
 clear AL HALL own pZ pZ1 hB hb1 hBG hWB;go_wp2_with fail
 go_loopg [5] 49 (λgk x wr=>∃ i:Nat,x=.int .i64 i/\gk=49 - i/\i<=49/\w1=wr/\Hid (∀ (j:Nat) (hj:j<allS.length),j<i->(allS[j]).id ≠ id))
 case atStart=>exact ⟨0,rfl,rfl,Nat.zero_le _,rfl,(λj hj h=>absurd h (Nat.not_lt_zero _):∀ (j:Nat) (hj:j<allS.length),j<0->(allS[j]).id ≠ id)⟩
 case round =>
  obtain ⟨i,rfl,hg,hi,rfl,HP⟩:=hrel;by_cases hlt:i<49
  ·have hli:(i:Int)<49:=by omega
   have hiz:(0:Int)<=(i:Int):=Int.natCast_nonneg _;have hil:i<allS.length:=by rw [zCh];exact hlt
   have hwi:IntKind.i64.wrap ((i:Int)+1)=(i:Int)+1:=by rw [IntKind.wrap_i64];omega
   obtain ⟨s,hs⟩:∃ s,allS[i]=s:=⟨_,rfl⟩
   have e0:=HO.out.cell hil (j:=0) (v:=.int .i64 s.id) (by rw [hs];rfl);have e1:=HO.out.cell hil (j:=1) (v:=.int .i64 s.c) (by rw [hs];rfl);have e2:=HO.out.cell hil (j:=2) (v:=.string s.nm) (by rw [hs];rfl);have e3:=HO.out.cell hil (j:=3) (v:=.int .i64 s.l) (by rw [hs];rfl);have e4:=HO.out.cell hil (j:=4) (v:=.int .i64 s.m) (by rw [hs];rfl);have e5:=HO.out.cell hil (j:=5) (v:=.string s.p) (by rw [hs];rfl);have HS:Hid (s ∈ allS):=by rw [<-hs];exact List.getElem_mem _
   have HSI:Hid (∀ hj:i<allS.length,allS[i]=s):=λ_=>hs
   simp only [Nat.add_zero] at e0;clear hs hil;by_cases hid:s.id=id
   ·subst hid;have HKN:Hid (zAt s.id=true):=(zEZ HS.out).1;obtain ⟨b0,b1,b2,b3,b4,b5,k0,k1,k2,k3,k4,k5⟩:=at6 HZ.out;have hth:World.there w1 w.heap.size 0 (sg6 s.id s.c s.nm s.l s.m s.p).toArray.size:=HZ.out.there;have pF:AtL (w1.setCells w.heap.size 0 (sg6 s.id s.c s.nm s.l s.m s.p)) w.heap.size (sg6 s.id s.c s.nm s.l s.m s.p):=HZ.out.setAll rfl;have hBF:Below w.heap.size w (w1.setCells w.heap.size 0 (sg6 s.id s.c s.nm s.l s.m s.p)):=zAa HB.out (Nat.le_refl _) _ 0;obtain ⟨r0,r1,r2,r3,r4,r5,_,_,_,_,_,_⟩:=at6 pF;have HRR:Hid _:=(⟨r0,r1,r2,r3,r4,r5⟩:_/\_/\_/\_/\_/\_)
    have HBF:Hid _:=hBF;clear b0 b1 b2 b3 b4 b5 k0 k1 k2 k3 k4 k5 pF hBF r0 r1 r2 r3 r4 r5;go_wp2_with (first | ((with_reducible refine wpList_store_mid ?_ 108 (.tmp 2) (.tmp 23) ?_ w.heap.size 0 (sg6 s.id s.c s.nm s.l s.m s.p).toArray ?_ ?_ ?_ ?_ ?_ ?_);rfl;rfl;rfl;rfl;exact hth;kernel_rfl;exact zJM _ _ _ _ _ _))
    refine bodyPost_ret (v:=.tuple #[.agg (sg6 s.id s.c s.nm s.l s.m s.p).toArray,.bool true]) (by obtain ⟨r0,r1,r2,r3,r4,r5⟩:=HRR.out;simp [results,results104,go_sem,r0,r1,r2,r3,r4,r5]) rfl ⟨⟨s,?_,λ_=>⟨HS.out,rfl⟩⟩,HBF.out⟩;rw [HKN.out]
   ·have HP2:Hid (∀ (j:Nat) (hj:j<allS.length),j<i+1->(allS[j]).id ≠ id):=by
     intro j hj hji;by_cases e:j=i
     ·subst e;rw [HSI.out];exact hid
     ·exact HP.out j hj (by omega)
    clear e1 e2 e3 e4 e5;go_wp2_with fail
    go_roundg (49 - (i+1))
    case rel=>exact ⟨i+1,by simp,rfl,hlt,rfl,HP2⟩
    case measure=>omega
  ·have hli:¬ (i:Int)<49:=by omega
   have hi49:i=49:=by omega
   subst hi49;have HKN:Hid (zAt id=false):=by
    show _=false
    cases hk:zAt id with
    | false=>rfl
    | true =>
     obtain ⟨s,hs,he⟩:=zJu hk;obtain ⟨j,hj,rfl⟩:=List.getElem_of_mem hs;exact absurd he (HP.out j hj (by rw [zCh] at hj;exact hj))
   have hth:World.there w1 w.heap.size 0 (sg6 0 0 ⟨#[]⟩ 0 0 ⟨#[]⟩).toArray.size:=HZ.out.there;have pF:AtL (w1.setCells w.heap.size 0 (sg6 0 0 ⟨#[]⟩ 0 0 ⟨#[]⟩)) w.heap.size (sg6 0 0 ⟨#[]⟩ 0 0 ⟨#[]⟩):=HZ.out.setAll rfl;have hBF:Below w.heap.size w (w1.setCells w.heap.size 0 (sg6 0 0 ⟨#[]⟩ 0 0 ⟨#[]⟩)):=zAa HB.out (Nat.le_refl _) _ 0;obtain ⟨r0,r1,r2,r3,r4,r5,_,_,_,_,_,_⟩:=at6 pF;have HRR:Hid _:=(⟨r0,r1,r2,r3,r4,r5⟩:_/\_/\_/\_/\_/\_)
   have HBF:Hid _:=hBF;clear pF hBF r0 r1 r2 r3 r4 r5;go_wp2_with (first | ((with_reducible refine wpList_store_mid ?_ 108 (.tmp 2) (.tmp 24) ?_ w.heap.size 0 (sg6 0 0 ⟨#[]⟩ 0 0 ⟨#[]⟩).toArray ?_ ?_ ?_ ?_ ?_ ?_);rfl;rfl;rfl;rfl;exact hth;kernel_rfl;exact zJM _ _ _ _ _ _))
   refine bodyPost_ret (v:=.tuple #[.agg (sg6 0 0 ⟨#[]⟩ 0 0 ⟨#[]⟩).toArray,.bool false]) (by obtain ⟨r0,r1,r2,r3,r4,r5⟩:=HRR.out;simp [results,results104,go_sem,r0,r1,r2,r3,r4,r5]) rfl ⟨⟨⟨0,0,⟨#[]⟩,0,0,⟨#[]⟩⟩,?_,λh=>?_⟩,HBF.out⟩
   ·rw [HKN.out]
   ·rw [HKN.out] at h;cases h
theorem zJv (x:Wc.In) (av:Option Addr) (c:Nat) (w:World) (hk:x.op=5) (qc kn:Bool) (hq:apl x.a x.b=qc) (hkn:zAt x.a=kn) :
  CR 67 #[inV x (.slice av 0 c)] w (.bool (smI x ⟨5,x.a,x.b,v0I,c0I,a0I,a0I⟩ && qc)):=by
 have BA:∀ w1:World,Calls prog 101 #[.agg (zAD x (.slice av 0 c)).toArray,.agg (zAD ⟨5,x.a,x.b,v0I,c0I,a0I,a0I⟩ zAG).toArray] w1 λe w'=>e=.returned (.bool (smI x ⟨5,x.a,x.b,v0I,c0I,a0I,a0I⟩))/\Below w1.heap.size w1 w':=λw1=>by
  have h:=zA2 x ⟨5,x.a,x.b,v0I,c0I,a0I,a0I⟩ (.slice av 0 c) zAG w1;have e:(x.op == (⟨5,x.a,x.b,v0I,c0I,a0I,a0I⟩:Wc.In).op)=true:=by show (x.op == 5)=true;rw [hk];rfl
  rw [e,Bool.true_and] at h;exact h
 obtain ⟨tv,htv⟩:∃ tv,Value.slice av 0 c=tv:=⟨_,rfl⟩
 have T22:(zAD x tv)[22]? = some (.slice av 0 c):=by rw [htv];rfl
 rw [htv] at BA ⊢;have HQC:Hid (apl x.a x.b=qc):=hq;have HKN:Hid (zAt x.a=kn):=hkn;clear hq hkn;generalize smI x ⟨5,x.a,x.b,v0I,c0I,a0I,a0I⟩=qb at *;have pA0:AtL (zAJ w x tv) w.heap.size (zAD x tv):=(AtL.new0 w _ _).alloc _;have pO0:AtL (zAJ w x tv) (w.heap.size+1) (zAD (zAE 0) zAG):=AtL.new1 w _ _ _;have hth:World.there (zAJ w x tv) (w.heap.size+1) 0 (zAD (zAE 5) zAG).toArray.size:=pO0.there;have hne:w.heap.size+1 ≠ w.heap.size:=by omega
 have pA:=pA0.farAll hne 0 (zAD (zAE 5) zAG);have pO:AtL ((zAJ w x tv).setCells (w.heap.size+1) 0 (zAD (zAE 5) zAG)) (w.heap.size+1) (zAD (zAE 5) zAG):=pO0.setAll rfl;have hBa:Below w.heap.size w ((zAJ w x tv).setCells (w.heap.size+1) 0 (zAD (zAE 5) zAG)):=zAa (zAK (zAK (Below.refl _ w) _) _) (Nat.le_succ _) _ 0;clear pA0 pO0;have n0:(zAD x tv)[0]? = some (.int .i64 5):=by rw [<-hk];rfl
 have a0:World.cell? ((zAJ w x tv).setCells (w.heap.size+1) 0 (zAD (zAE 5) zAG)) ⟨w.heap.size,0,none⟩=some (.int .i64 5):=pA.2.1 0 _ n0;show Calls _ _ #[.agg (zAD x tv).toArray] _ _
 have cA0:(zAJ w x tv).cell? ⟨w.heap.size,0,none⟩=some (.int .i64 5):=((AtL.new0 w _ _).alloc _:AtL (zAJ w x tv) w.heap.size (zAD x tv)).2.1 0 _ n0;have pX:=AtL.new0 w 56 (zAD x tv);have c0A:=pX.2.1 0 _ n0;have c22:=pX.2.1 22 _ T22;clear htv T22 cA0 pX;go_enter func67,ntmps67;go_upto_region 3 with fail
 go_upto_region 4 with ((with_reducible refine wpList_store_mid ?_ 56 (.tmp 3) (.tmp 19) ?_ (w.heap.size+1) 0 (zAD (zAE 5) zAG).toArray ?_ ?_ ?_ ?_ ?_ ?_);rfl;rfl;rfl;rfl;exact hth;kernel_rfl;exact zAZ _ _ _ _)
 generalize (zAJ w x tv).setCells (w.heap.size+1) 0 (zAD (zAE 5) zAG)=W0 at *;clear hth c0A c22;have pA1:=pA;have pO1:=pO;have hB1:=hBa;clear pA pO hBa;have a1:=pA1.2.1 1 _ rfl;have o1:=pO1.2.1 1 _ rfl;have f1:=pO1.2.2 1 (by show 1<23;decide);go_upto_region 19 with fail
 have pA2:AtL (W0.setCell ⟨w.heap.size+1,1,none⟩ (.int .i64 x.a)) w.heap.size (zAD x tv):=(pA1.far hne 1 (.int .i64 x.a))
 have pO2:=(pO1.set 1 (.int .i64 x.a))
 have hB2:Below w.heap.size w (W0.setCell ⟨w.heap.size+1,1,none⟩ (.int .i64 x.a)):=(clB hB1)
 clear pA1 pO1 hB1 a1 o1 f1;generalize (W0.setCell ⟨w.heap.size+1,1,none⟩ (.int .i64 x.a))=W1 at *;have pA1:=pA2;have pO1:=pO2;have hB1:=hB2;clear pA2 pO2 hB2;have a2:=pA1.2.1 2 _ rfl;have o2:=pO1.2.1 2 _ rfl;have f2:=pO1.2.2 2 (by show 2<23;decide);go_upto_region 20 with fail
 have pA2:AtL (W1.setCell ⟨w.heap.size+1,2,none⟩ (.int .i64 x.b)) w.heap.size (zAD x tv):=(pA1.far hne 2 (.int .i64 x.b))
 have pO2:=(pO1.set 2 (.int .i64 x.b))
 have hB2:Below w.heap.size w (W1.setCell ⟨w.heap.size+1,2,none⟩ (.int .i64 x.b)):=(clB hB1)
 clear pA1 pO1 hB1 a2 o2 f2;generalize (W1.setCell ⟨w.heap.size+1,2,none⟩ (.int .i64 x.b))=W2 at *;have pA1:=pA2;have pO1:=pO2;have hB1:=hB2;clear pA2 pO2 hB2;have pOY:AtL W2 (w.heap.size+1) (zAD ⟨5,x.a,x.b,v0I,c0I,a0I,a0I⟩ zAG):=pO1;have rA:=pA1.range;have rO:=pOY.range;clear pO1 pOY;have e1:=pA1.2.1 1 _ rfl;have BY:∀ w:World,Calls prog 104 #[.int .i64 x.a] w λe w'=>(∃ s:Sg,e=.returned (.tuple #[.agg (sg6 s.id s.c s.nm s.l s.m s.p).toArray,.bool kn])/\(kn=true->s ∈ allS/\s.id=x.a))/\Below w.heap.size w w':=λw=>by have h:=zJ3 zFI x.a w;rw [HKN.out] at h;exact h
 go_wp2_with fail
 refine (BY _).mono ?_;rintro e w4 ⟨⟨s,rfl,hs⟩,hb4⟩;replace pA1:=AtL.below hb4 pA1
 replace hB1:=zAB hB1 hb4
 replace rO:=zAI hb4 rO
 have hbq:=zAK (Below.refl _ w4) (.cells (sg6 s.id s.c s.nm s.l s.m s.p).toArray 108);replace pA1:=AtL.below hbq pA1
 replace hB1:=zAB hB1 hbq
 replace rO:=zAI hbq rO
 have pS:AtL (w4.alloc (.cells (sg6 s.id s.c s.nm s.l s.m s.p).toArray 108)) w4.heap.size (sg6 s.id s.c s.nm s.l s.m s.p):=AtL.new0 w4 _ _;have HS:Hid (kn=true->s ∈ allS/\s.id=x.a):=hs;clear rA BY hb4 e1 hbq hs;have rA:=pA1.range;go_upto_region 21 with fail
 generalize (w4.alloc (.cells (sg6 s.id s.c s.nm s.l s.m s.p).toArray 108))=W9 at *;obtain ⟨KX,hKX⟩:∃ k,w4.heap.size=k:=⟨_,rfl⟩
 rw [hKX] at pS;simp only [hKX];have e2:=pA1.2.1 2 _ rfl;obtain ⟨g0,g1,g2,g3,g4,g5,_,_,_,_,_,_⟩:=at6 pS;clear g0 g2 g5 pS hKX;clear a0;go_wp2_with (first | (refine zAA (by rfl) 56 (.tmp 1) rfl w.heap.size 0 rfl (zAD x tv) _ rA underlying56 rfl (by kernel_rfl) ?_) | (refine zAA (by rfl) 56 (.tmp 3) rfl (w.heap.size+1) 0 rfl (zAD ⟨5,x.a,x.b,v0I,c0I,a0I,a0I⟩ zAG) _ rO underlying56 rfl (by kernel_rfl) ?_))
 refine (BA _).mono ?_;rintro e w5 ⟨rfl,hb5⟩;have hB5:=zAB hB1 hb5;clear BA rA rO;cases qb with
 | false =>
  go_wp2;go_ret;exact ⟨by simp,hB5⟩
 | true =>
  replace e2:=zAC hb5 e2
  replace g1:=zAC hb5 g1
  replace g3:=zAC hb5 g3
  replace g4:=zAC hb5 g4
  cases kn with
  | false =>
   have HC:Hid (qc=false):=by show qc=_;rw [<-HQC.out];unfold apl;rw [HKN.out];rfl
   go_wp2;go_ret;exact ⟨by rw [HC.out];rfl,hB5⟩
  | true =>
   obtain ⟨sm,si⟩:=HS.out rfl;obtain ⟨_,a1,a2,a3⟩:=zEZ sm;rw [si] at a1 a2 a3;have HC:Hid (qc=((s.c == 4) && (decide (s.l<=x.b) && decide (x.b<=s.m)))):=by show qc=_;rw [<-HQC.out];unfold apl;rw [HKN.out,a1,a2,a3];rfl
   clear sm si a1 a2 a3 HS HKN HQC;obtain ⟨q4,h4⟩:∃ b,(s.c == 4)=b:=⟨_,rfl⟩
   rw [h4] at HC;cases q4 with
   | false =>
    go_wp2;go_ret;exact ⟨by rw [HC.out];simp,hB5⟩
   | true =>
    by_cases hl:s.l<=x.b
    ·have hln:¬ x.b<s.l:=by omega
     by_cases hm:x.b<=s.m
     ·have hmn:¬ s.m<x.b:=by omega
      go_wp2;go_ret;exact ⟨by rw [HC.out];simp [hl,hm],hB5⟩
     ·have hmn:s.m<x.b:=by omega
      go_wp2;go_ret;exact ⟨by rw [HC.out];simp [hl],hB5⟩
    ·have hln:x.b<s.l:=by omega
     go_wp2;go_ret;exact ⟨by rw [HC.out];(simp;omega),hB5⟩
theorem zA6 {f:Nat} {vs:Array Value} {a b:Bool} (h:Calls prog f vs w λe w'=>e=.returned (.bool a)/\Below w.heap.size w w') (e:a=b):Calls prog f vs w λe w'=>e=.returned (.bool b)/\Below w.heap.size w w':=by
 rw [<-e];exact h
theorem zFF (x:Wc.In) (av:Option Addr) (n c:Nat) (tl:List Int) (w:World) (hz:RdZ w (.slice av n c) tl) (hl:tl.length<=1000000) (hf:Wt.FitV x.v) :
  CR 67 #[inV x (.slice av n c)] w (.bool (rgt x tl)):=by
 have hn:n=tl.length:=by
  obtain ⟨a,cap,e,_⟩:=hz;simp only [Value.slice.injEq] at e;exact e.2.1
 subst hn;cases tl with
 | nil =>
  have d0:decide (([]:List Int)=[])=true:=rfl;rcases zD1 x.op with h | h | h | h | h | h | h | h | h | h | h | h | h | h | h | h | h
  ·exact zA6 (zKZ x av c w h hf) (by rw [zJn h,d0,Bool.and_true,Bool.and_comm])
  ·exact zA6 (zKY x av c w h) (by rw [zKX h,d0,Bool.and_true,Bool.and_comm])
  ·exact zA6 (zKF x av c w h) (by rw [zKt h,d0,Bool.and_true,Bool.and_comm])
  ·exact zA6 (zJw x av c w h) (by rw [zJ7 h,d0,Bool.and_true,Bool.and_comm])
  ·exact zA6 (zJv x av c w h _ _ rfl rfl) (by rw [zIV h,d0,Bool.and_true,Bool.and_comm])
  ·cases hq:fld x.a with
   | true=>exact zA6 (zH6 x av c w h hq) (by rw [zHv h,hq,d0];simp)
   | false=>exact zA6 (zJK x av c w h hq) (by rw [zHv h,hq];simp)
  ·exact zA6 (zKL x av c w h) (by rw [zKA h,d0,Bool.and_true,Bool.true_and])
  ·exact zA6 (zKC x av c w h) (by rw [zJi h,d0,Bool.and_true,Bool.and_comm])
  ·exact zA6 (zKh x av c w h) (by rw [zKr h,d0,Bool.and_true,Bool.and_comm])
  ·exact zA6 (zIq x av c w h) (by rw [zFo h,d0,Bool.and_true,Bool.true_and])
  ·exact zA6 (zIy x av c w h) (by rw [zES h,d0,Bool.and_true,Bool.and_comm])
  ·exact zA6 (zHb x av c w h) (by rw [zGo h,d0,Bool.and_true,Bool.true_and])
  ·exact zA6 (zIh x av c w h) (by rw [zFw h,d0,Bool.and_true,Bool.true_and])
  ·exact zA6 (zHe x av c w h) (by rw [zF1 h,d0,Bool.and_true,Bool.true_and])
  ·exact zA6 (zGF x av c w h) (by rw [zFp h,Bool.and_false];rfl)
  ·exact zA6 (zHV x av c w h) (by rw [zHC h,d0,Bool.and_true,Bool.true_and])
  ·exact zA6 (zLF x av c w h) (by rw [zLE h])
 | cons t r =>
  have d0:decide (t::r=[])=false:=by simp
  rcases zD1 x.op with h | h | h | h | h | h | h | h | h | h | h | h | h | h | h | h | h
  case inr.inr.inr.inr.inr.inr.inr.inr.inr.inr.inr.inr.inr.inr.inl =>
   exact zA6 (zIg x av (t::r).length c w h (by simp)) (by rw [zFp h,Bool.and_comm];simp)
  case inr.inr.inr.inr.inr.inr.inr.inr.inr.inr.inr.inr.inr.inr.inr.inr =>
   exact zA6 (zEb x av (t::r).length c w (by simp) (by omega)) (by rw [zLE h])
  all_goals
   refine zA6 (zEb x av (t::r).length c w (by simp) (by omega)) ?_;first
   | rw [zJn h,d0,Bool.and_false,Bool.and_false]
   | rw [zKX h,d0,Bool.and_false,Bool.and_false]
   | rw [zKt h,d0,Bool.and_false,Bool.and_false]
   | rw [zJ7 h,d0,Bool.and_false,Bool.and_false]
   | rw [zIV h,d0,Bool.and_false,Bool.and_false]
   | rw [zHv h,d0,Bool.and_false,Bool.and_false]
   | rw [zKA h,d0,Bool.and_false,Bool.and_false]
   | rw [zJi h,d0,Bool.and_false,Bool.and_false]
   | rw [zKr h,d0,Bool.and_false,Bool.and_false]
   | rw [zFo h,d0,Bool.and_false,Bool.and_false]
   | rw [zES h,d0,Bool.and_false,Bool.and_false]
   | rw [zGo h,d0,Bool.and_false,Bool.and_false]
   | rw [zFw h,d0,Bool.and_false,Bool.and_false]
   | rw [zF1 h,d0,Bool.and_false,Bool.and_false]
   | rw [zHC h,d0,Bool.and_false,Bool.and_false]
theorem zCU (L:List (Wc.In × List Int)) (v:Value) (w:World) (h:RdC w v L) (hl:L.length<=1000000) (ht:∀ x ∈ L,x.2.length<=1000000/\Wt.FitV x.1.v) :
  CR 14 #[v] w (.int .i64 (if Wc.chkP rgt L=true then 0 else 85)):=by
 have HE:=zGp (λx p m k tl w hz hl hf=>zFF x p m k tl w hz hl hf) L v w h hl ht;rw [<-Wc.chk_eq] at HE;obtain ⟨q,hq⟩:∃ q,Wc.chkP rgt L=q:=⟨_,rfl⟩
 rw [hq] at HE ⊢;clear hq h hl ht;go_enter func14,ntmps14;go_wp2_with fail
 refine HE.mono ?_;rintro e w1 ⟨⟨a,b,rfl⟩,hb1⟩;cases q
 ·go_wp2;go_ret;exact ⟨by simp,hb1⟩
 ·go_wp2;go_ret;exact ⟨by simp,hb1⟩
theorem zHO (s r c:Int) (w:World) :
  CR 42 #[.agg #[.int .i64 s,.int .i64 r,.int .i64 c]] w (.tuple #[.agg #[.int .i64 (zBj s r c).s,.int .i64 (zBj s r c).t,.int .i64 (zBj s r c).l,.int .i64 (zBj s r c).b,.int .i64 (zBj s r c).r],.bool (Wpl.rightC s r c)]):=by
 have R:=λw=>zB7 s r c w
 have E:Hid (zBj s r c=if Wpl.rightC s r c then ⟨s,r,c,r,c⟩ else ⟨0,0,0,0,0⟩):=(rfl:zBj s r c=_)
 generalize zBj s r c=V at *;generalize Wpl.rightC s r c=ok at *;go_enter func42,ntmps42;go_wp2_with fail
 refine (R _).mono ?_;rintro e w1 ⟨rfl,hb1⟩;have pA:AtL w1 w.heap.size [.int .i64 s,.int .i64 r,.int .i64 c]:=AtL.below hb1 ((AtL.new0 w _ _).alloc _);have pR:AtL w1 (w.heap.size+1) [.int .i64 0,.int .i64 0,.int .i64 0,.int .i64 0,.int .i64 0]:=AtL.below hb1 (AtL.new1 w _ _ _);have hB:Below w.heap.size w w1:=clA
 clear hb1;obtain ⟨a0,a1,a2⟩:=pA.f3;obtain ⟨r0,r1,r2,r3,r4,f0,f1,f2,f3,f4⟩:=pR.five;cases ok with
 | false =>
  go_wp2;refine bodyPost_ret (v:=.tuple #[.agg #[.int .i64 0,.int .i64 0,.int .i64 0,.int .i64 0,.int .i64 0],.bool false]) (by simp [results,results42,go_sem,r0,r1,r2,r3,r4]) rfl ⟨by rw [E.out];rfl,?_⟩;exact zAx hB (by omega) _ _ _ _ _
 | true =>
  go_wp2;refine bodyPost_ret (v:=.tuple #[.agg #[.int .i64 s,.int .i64 r,.int .i64 c,.int .i64 r,.int .i64 c],.bool true]) (by simp [results,results42,go_sem,r0,r1,r2,r3,r4]) rfl ⟨by rw [E.out];rfl,?_⟩;exact zAx hB (by omega) _ _ _ _ _
