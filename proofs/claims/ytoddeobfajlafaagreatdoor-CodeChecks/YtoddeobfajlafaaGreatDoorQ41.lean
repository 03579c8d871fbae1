/- KFormN, KFormO, KById, KFormP, KFormed, KRChk, KWholeW, KWalkO, KLawChk, KLaid, KLaidO. -/
import Derived.Test.YtoddeobfajlafaaGreatDoorQ40
import Derived.Lib.LaidTab
import Derived.Deep.Strs
import Derived.Stop.LaidErr
set_option maxHeartbeats 4000000
set_option maxRecDepth 100000
namespace Go.Proofs.YtoddeobfajlafaaGreatDoor
open Tryz
open Go.RowKit
set_option linter.unusedVariables false
variable {w W:World} {B n:Nat} {A:List Sg} {rest:List (String × DataW Unit)}
theorem zNg (x:Wc.In) (av:Option Addr) (c:Nat) (w:World) (ho:x.op<1 \/ 16<x.op) :
  CR 67 #[inV x (.slice av 0 c)] w (.bool false):=by
 have m1:¬ x.op=1:=by omega
 have m2:¬ x.op=2:=by omega
 have m3:¬ x.op=3:=by omega
 have m4:¬ x.op=4:=by omega
 have m5:¬ x.op=5:=by omega
 have m6:¬ x.op=6:=by omega
 have m7:¬ x.op=7:=by omega
 have m8:¬ x.op=8:=by omega
 have m9:¬ x.op=9:=by omega
 have m10:¬ x.op=10:=by omega
 have m11:¬ x.op=11:=by omega
 have m12:¬ x.op=12:=by omega
 have m13:¬ x.op=13:=by omega
 have m14:¬ x.op=14:=by omega
 have m15:¬ x.op=15:=by omega
 have m16:¬ x.op=16:=by omega
 obtain ⟨tv,htv⟩:∃ tv,Value.slice av 0 c=tv:=⟨_,rfl⟩
 have T22:(zAD x tv)[22]? = some (.slice av 0 c):=by rw [htv];rfl
 rw [htv];have pA0:AtL (zAK w x tv) w.heap.size (zAD x tv):=(AtL.new0 w _ _).alloc _;have pO0:AtL (zAK w x tv) (w.heap.size+1) (zAD (zAE 0) zAG):=AtL.new1 w _ _ _;have hth:World.there (zAK w x tv) (w.heap.size+1) 0 (zAD (zAE (x.op)) zAG).toArray.size:=pO0.there;have hne:w.heap.size+1 ≠ w.heap.size:=by omega
 have pA:=pA0.farAll hne 0 (zAD (zAE (x.op)) zAG);have pO:AtL ((zAK w x tv).setCells (w.heap.size+1) 0 (zAD (zAE (x.op)) zAG)) (w.heap.size+1) (zAD (zAE (x.op)) zAG):=pO0.setAll rfl;have hBa:Below w.heap.size w ((zAK w x tv).setCells (w.heap.size+1) 0 (zAD (zAE (x.op)) zAG)):=zAb (zAJ (zAJ (Below.refl _ w) _) _) (Nat.le_succ _) _ 0;clear pA0 pO0;have n0:(zAD x tv)[0]? = some (.int .i64 (x.op)):=rfl;have a0:World.cell? ((zAK w x tv).setCells (w.heap.size+1) 0 (zAD (zAE (x.op)) zAG)) ⟨w.heap.size,0,none⟩=some (.int .i64 (x.op)):=pA.2.1 0 _ n0;show Calls _ _ #[.agg (zAD x tv).toArray] _ _
 have cA0:(zAK w x tv).cell? ⟨w.heap.size,0,none⟩=some (.int .i64 (x.op)):=((AtL.new0 w _ _).alloc _:AtL (zAK w x tv) w.heap.size (zAD x tv)).2.1 0 _ n0;have pX:=AtL.new0 w 56 (zAD x tv);have c0A:=pX.2.1 0 _ n0;have c22:=pX.2.1 22 _ T22;clear htv T22 cA0 pX;go_enter func67,ntmps67;go_upto_region 3 with fail
 go_upto_region 4 with ((with_reducible refine wpList_store_mid ?_ 56 (.tmp 3) (.tmp 19) ?_ (w.heap.size+1) 0 (zAD (zAE (x.op)) zAG).toArray ?_ ?_ ?_ ?_ ?_ ?_);rfl;rfl;rfl;rfl;exact hth;kernel_rfl;exact zA1 _ _ _ _)
 generalize (zAK w x tv).setCells (w.heap.size+1) 0 (zAD (zAE (x.op)) zAG)=W0 at *;clear hth c0A c22;go_wp2;go_ret;exact ⟨by simp,hBa⟩
theorem zJG (x:Wc.In) (av:Option Addr) (c:Nat) (w:World) (hk:x.op=15) :
  CR 67 #[inV x (.slice av 0 c)] w (.bool (smI x ⟨15,0,x.b,v0I,c0I,a0I,a0I⟩ && false)):=by
 have BA:∀ w1:World,Calls prog 101 #[.agg (zAD x (.slice av 0 c)).toArray,.agg (zAD ⟨15,0,x.b,v0I,c0I,a0I,a0I⟩ zAG).toArray] w1 λe w'=>e=.returned (.bool (smI x ⟨15,0,x.b,v0I,c0I,a0I,a0I⟩))/\Below w1.heap.size w1 w':=λw1=>by
  have h:=zA6 x ⟨15,0,x.b,v0I,c0I,a0I,a0I⟩ (.slice av 0 c) zAG w1;have e:(x.op == (⟨15,0,x.b,v0I,c0I,a0I,a0I⟩:Wc.In).op)=true:=by show (x.op == 15)=true;rw [hk];rfl
  rw [e,Bool.true_and] at h;exact h
 obtain ⟨tv,htv⟩:∃ tv,Value.slice av 0 c=tv:=⟨_,rfl⟩
 have T22:Hid ((zAD x tv)[22]? = some (.slice av 0 c)):=by show _=_;rw [htv];rfl
 rw [htv] at BA ⊢;generalize smI x ⟨15,0,x.b,v0I,c0I,a0I,a0I⟩=qb at *;have pA0:AtL (zAK w x tv) w.heap.size (zAD x tv):=(AtL.new0 w _ _).alloc _;have pO0:AtL (zAK w x tv) (w.heap.size+1) (zAD (zAE 0) zAG):=AtL.new1 w _ _ _;have hth:World.there (zAK w x tv) (w.heap.size+1) 0 (zAD (zAE 15) zAG).toArray.size:=pO0.there;have hne:w.heap.size+1 ≠ w.heap.size:=by omega
 have pA:=pA0.farAll hne 0 (zAD (zAE 15) zAG);have pO:AtL ((zAK w x tv).setCells (w.heap.size+1) 0 (zAD (zAE 15) zAG)) (w.heap.size+1) (zAD (zAE 15) zAG):=pO0.setAll rfl;have hBa:Below w.heap.size w ((zAK w x tv).setCells (w.heap.size+1) 0 (zAD (zAE 15) zAG)):=zAb (zAJ (zAJ (Below.refl _ w) _) _) (Nat.le_succ _) _ 0;clear pA0 pO0;have n0:(zAD x tv)[0]? = some (.int .i64 15):=by rw [<-hk];rfl
 have a0:World.cell? ((zAK w x tv).setCells (w.heap.size+1) 0 (zAD (zAE 15) zAG)) ⟨w.heap.size,0,none⟩=some (.int .i64 15):=pA.2.1 0 _ n0;show Calls _ _ #[.agg (zAD x tv).toArray] _ _
 have cA0:(zAK w x tv).cell? ⟨w.heap.size,0,none⟩=some (.int .i64 15):=((AtL.new0 w _ _).alloc _:AtL (zAK w x tv) w.heap.size (zAD x tv)).2.1 0 _ n0;have pX:=AtL.new0 w 56 (zAD x tv);have c0A:=pX.2.1 0 _ n0;have c22:=pX.2.1 22 _ T22.out;clear htv cA0 pX;go_enter func67,ntmps67;go_upto_region 3 with fail
 go_upto_region 4 with ((with_reducible refine wpList_store_mid ?_ 56 (.tmp 3) (.tmp 19) ?_ (w.heap.size+1) 0 (zAD (zAE 15) zAG).toArray ?_ ?_ ?_ ?_ ?_ ?_);rfl;rfl;rfl;rfl;exact hth;kernel_rfl;exact zA1 _ _ _ _)
 generalize (zAK w x tv).setCells (w.heap.size+1) 0 (zAD (zAE 15) zAG)=W0 at *;clear hth c0A c22;have pA1:=pA;have pO1:=pO;have hB1:=hBa;clear pA pO hBa;have a2:=pA1.2.1 2 _ rfl;have o2:=pO1.2.1 2 _ rfl;have f2:=pO1.2.2 2 (by show 2<23;decide);go_upto_region 51 with fail
 have pA2:AtL (W0.setCell ⟨w.heap.size+1,2,none⟩ (.int .i64 x.b)) w.heap.size (zAD x tv):=(pA1.far hne 2 (.int .i64 x.b))
 have pO2:=(pO1.set 2 (.int .i64 x.b))
 have hB2:Below w.heap.size w (W0.setCell ⟨w.heap.size+1,2,none⟩ (.int .i64 x.b)):=(clB hB1)
 clear pA1 pO1 hB1 a2 o2 f2;generalize (W0.setCell ⟨w.heap.size+1,2,none⟩ (.int .i64 x.b))=W1 at *;have pA1:=pA2;have pO1:=pO2;have hB1:=hB2;clear pA2 pO2 hB2;have pOY:AtL W1 (w.heap.size+1) (zAD ⟨15,0,x.b,v0I,c0I,a0I,a0I⟩ zAG):=pO1;have rA:=pA1.range;have rO:=pOY.range;clear pO1 pOY;have e22:=pA1.2.1 22 _ T22.out;clear a0;go_wp2_with (first | (refine zAA (by rfl) 56 (.tmp 1) rfl w.heap.size 0 rfl (zAD x tv) _ rA underlying56 rfl (by kernel_rfl) ?_) | (refine zAA (by rfl) 56 (.tmp 3) rfl (w.heap.size+1) 0 rfl (zAD ⟨15,0,x.b,v0I,c0I,a0I,a0I⟩ zAG) _ rO underlying56 rfl (by kernel_rfl) ?_))
 refine (BA _).mono ?_;rintro e w5 ⟨rfl,hb5⟩;have hB5:=zAB hB1 hb5;clear BA rA rO;cases qb with
 | false =>
  go_wp2;go_ret;exact ⟨by simp,hB5⟩
 | true =>
  replace e22:=zAC hb5 e22
  go_wp2;go_ret;exact ⟨by simp,hB5⟩
theorem zD5:∀ (A:List Sg) (i j:Nat) (h:i<A.length),j<6->(zAm A)[i * 6+j]? = (A[i]).cs[j]?
 | x::r,0,j,_,hj=>by
  show (x.cs++zAm r)[0 * 6+j]? = _
  rw [List.getElem?_append_left (by simp;omega)];simp
 | x::r,i+1,j,h,hj=>by
  have ih:=zD5 r i j (by simpa using h) hj;show (x.cs++zAm r)[(i+1) * 6+j]? = _
  rw [List.getElem?_append_right (by simp;omega)];have e:(i+1) * 6+j - x.cs.length=i * 6+j:=by simp;omega
  rw [e,ih];rfl
theorem OwnS.cell {G cap:Nat} (h:OwnS w B (.slice (some ⟨G,0,none⟩) n cap) A) {i:Nat} (hi:i<A.length) {j:Nat} {v:Value} (hv:(A[i]).cs[j]? = some v):w.cell? ⟨G,i * 6+j,none⟩=some v:=by
 have hj:j<6:=by
  rcases Nat.lt_or_ge j 6 with q | q
  ·exact q
  ·rw [List.getElem?_eq_none (by simpa using q)] at hv;cases hv
 have hc:=h.cells (g:=G) rfl (i * 6+j) v (by rw [zD5 A i j hi hj];exact hv);rwa [show (⟨G,0,none⟩:Addr).add (i * 6+j)=⟨G,i * 6+j,none⟩ from by
  simp [Addr.add];try (intro h0;omega)] at hc
theorem OwnS.shape {v:Value} (h:OwnS w B v A) (hne:A.length=49):∃ G cap,v=.slice (some ⟨G,0,none⟩) 49 cap/\B<=G:=by
 rcases h.2 with ⟨_,h0⟩ | ⟨g,cap,cur,e,hb,_⟩
 ·omega
 ·exact ⟨g,cap,by rw [e,hne],hb⟩
theorem zNm (ALL:∀ w:World,Calls prog 86 #[] w λe w'=>(∃ r B,e=.returned r/\OwnS w' B r allS/\w.heap.size<=B)/\Below w.heap.size w w') (id:Int) (w:World) :
  Calls prog 104 #[.int .i64 id] w λe w'=>(∃ s:Sg,e=.returned (.tuple #[.agg (sg6 s.id s.c s.nm s.l s.m s.p).toArray,.bool (zAf id)])/\(zAf id=true->s ∈ allS/\s.id=id))/\Below w.heap.size w w':=by
 have pZ:=AtL.new0 w 108 (sg6 0 0 ⟨#[]⟩ 0 0 ⟨#[]⟩);have hB:=zAJ (Below.refl _ w) (.cells (sg6 0 0 ⟨#[]⟩ 0 0 ⟨#[]⟩).toArray 108);have HALL:Hid (∀ w:World,Calls prog 86 #[] w λe w'=>(∃ r B,e=.returned r/\OwnS w' B r allS/\w.heap.size<=B)/\Below w.heap.size w w'):=ALL;clear ALL;go_enter func104,ntmps104;go_upto_region 1 with fail
 generalize (w.alloc (.cells (sg6 0 0 ⟨#[]⟩ 0 0 ⟨#[]⟩).toArray 108))=W at *;have AL:=HALL.out W;go_wp2_with fail
 refine AL.mono ?_;rintro e w1 ⟨⟨r,B,rfl,own,hWB⟩,hb1⟩;obtain ⟨G,cap,rfl,hBG⟩:=own.shape zCz;have HO:Hid (OwnS w1 B (.slice (some ⟨G,0,none⟩) 49 cap) allS):=own;have pZ1:=AtL.below hb1 pZ;have HZ:Hid (AtL w1 w.heap.size (sg6 0 0 ⟨#[]⟩ 0 0 ⟨#[]⟩)):=pZ1;have HB:Hid (Below w.heap.size w w1):=zAB hB hb1;have HGN:Hid (G ≠ w.heap.size):=by have:=pZ.1;show G ≠ _;omega
 clear AL HALL own pZ pZ1 hB hb1 hBG hWB;go_wp2_with fail
 go_loopg [5] 49 (λgk x wr=>∃ i:Nat,x=.int .i64 i/\gk=49 - i/\i<=49/\w1=wr/\Hid (∀ (j:Nat) (hj:j<allS.length),j<i->(allS[j]).id ≠ id))
 case atStart=>exact ⟨0,rfl,rfl,Nat.zero_le _,rfl,(λj hj h=>absurd h (Nat.not_lt_zero _):∀ (j:Nat) (hj:j<allS.length),j<0->(allS[j]).id ≠ id)⟩
 case round =>
  obtain ⟨i,rfl,hg,hi,rfl,HP⟩:=hrel;by_cases hlt:i<49
  ·have hli:(i:Int)<49:=by omega
   have hiz:(0:Int)<=(i:Int):=Int.natCast_nonneg _;have hil:i<allS.length:=by rw [zCz];exact hlt
   have hwi:IntKind.i64.wrap ((i:Int)+1)=(i:Int)+1:=by rw [IntKind.wrap_i64];omega
   obtain ⟨s,hs⟩:∃ s,allS[i]=s:=⟨_,rfl⟩
   have e0:=HO.out.cell hil (j:=0) (v:=.int .i64 s.id) (by rw [hs];rfl);have e1:=HO.out.cell hil (j:=1) (v:=.int .i64 s.c) (by rw [hs];rfl);have e2:=HO.out.cell hil (j:=2) (v:=.string s.nm) (by rw [hs];rfl);have e3:=HO.out.cell hil (j:=3) (v:=.int .i64 s.l) (by rw [hs];rfl);have e4:=HO.out.cell hil (j:=4) (v:=.int .i64 s.m) (by rw [hs];rfl);have e5:=HO.out.cell hil (j:=5) (v:=.string s.p) (by rw [hs];rfl);have HS:Hid (s ∈ allS):=by rw [<-hs];exact List.getElem_mem _
   have HSI:Hid (∀ hj:i<allS.length,allS[i]=s):=λ_=>hs
   simp only [Nat.add_zero] at e0;clear hs hil;by_cases hid:s.id=id
   ·subst hid;have HKN:Hid (zAf s.id=true):=(zFf HS.out).1;obtain ⟨b0,b1,b2,b3,b4,b5,k0,k1,k2,k3,k4,k5⟩:=at6 HZ.out;have hth:World.there w1 w.heap.size 0 (sg6 s.id s.c s.nm s.l s.m s.p).toArray.size:=HZ.out.there;have pF:AtL (w1.setCells w.heap.size 0 (sg6 s.id s.c s.nm s.l s.m s.p)) w.heap.size (sg6 s.id s.c s.nm s.l s.m s.p):=HZ.out.setAll rfl;have hBF:Below w.heap.size w (w1.setCells w.heap.size 0 (sg6 s.id s.c s.nm s.l s.m s.p)):=zAb HB.out (Nat.le_refl _) _ 0;obtain ⟨r0,r1,r2,r3,r4,r5,_,_,_,_,_,_⟩:=at6 pF;have HRR:Hid _:=(⟨r0,r1,r2,r3,r4,r5⟩:_/\_/\_/\_/\_/\_)
    have HBF:Hid _:=hBF;clear b0 b1 b2 b3 b4 b5 k0 k1 k2 k3 k4 k5 pF hBF r0 r1 r2 r3 r4 r5;go_wp2_with (first | ((with_reducible refine wpList_store_mid ?_ 108 (.tmp 2) (.tmp 23) ?_ w.heap.size 0 (sg6 s.id s.c s.nm s.l s.m s.p).toArray ?_ ?_ ?_ ?_ ?_ ?_);rfl;rfl;rfl;rfl;exact hth;kernel_rfl;exact zLg _ _ _ _ _ _))
    refine bodyPost_ret (v:=.tuple #[.agg (sg6 s.id s.c s.nm s.l s.m s.p).toArray,.bool true]) (by obtain ⟨r0,r1,r2,r3,r4,r5⟩:=HRR.out;simp [results,results104,go_sem,r0,r1,r2,r3,r4,r5]) rfl ⟨⟨s,?_,λ_=>⟨HS.out,rfl⟩⟩,HBF.out⟩;rw [HKN.out]
   ·have HP2:Hid (∀ (j:Nat) (hj:j<allS.length),j<i+1->(allS[j]).id ≠ id):=by
     intro j hj hji;by_cases e:j=i
     ·subst e;rw [HSI.out];exact hid
     ·exact HP.out j hj (by omega)
    clear e1 e2 e3 e4 e5;go_wp2_with fail
    go_roundg (49 - (i+1))
    case rel=>exact ⟨i+1,by simp,rfl,hlt,rfl,HP2⟩
    case measure=>omega
  ·have hli:¬ (i:Int)<49:=by omega
   have hi49:i=49:=by omega
   subst hi49;have HKN:Hid (zAf id=false):=by
    show _=false
    cases hk:zAf id with
    | false=>rfl
    | true =>
     obtain ⟨s,hs,he⟩:=zNR hk;obtain ⟨j,hj,rfl⟩:=List.getElem_of_mem hs;exact absurd he (HP.out j hj (by rw [zCz] at hj;exact hj))
   have hth:World.there w1 w.heap.size 0 (sg6 0 0 ⟨#[]⟩ 0 0 ⟨#[]⟩).toArray.size:=HZ.out.there;have pF:AtL (w1.setCells w.heap.size 0 (sg6 0 0 ⟨#[]⟩ 0 0 ⟨#[]⟩)) w.heap.size (sg6 0 0 ⟨#[]⟩ 0 0 ⟨#[]⟩):=HZ.out.setAll rfl;have hBF:Below w.heap.size w (w1.setCells w.heap.size 0 (sg6 0 0 ⟨#[]⟩ 0 0 ⟨#[]⟩)):=zAb HB.out (Nat.le_refl _) _ 0;obtain ⟨r0,r1,r2,r3,r4,r5,_,_,_,_,_,_⟩:=at6 pF;have HRR:Hid _:=(⟨r0,r1,r2,r3,r4,r5⟩:_/\_/\_/\_/\_/\_)
   have HBF:Hid _:=hBF;clear pF hBF r0 r1 r2 r3 r4 r5;go_wp2_with (first | ((with_reducible refine wpList_store_mid ?_ 108 (.tmp 2) (.tmp 24) ?_ w.heap.size 0 (sg6 0 0 ⟨#[]⟩ 0 0 ⟨#[]⟩).toArray ?_ ?_ ?_ ?_ ?_ ?_);rfl;rfl;rfl;rfl;exact hth;kernel_rfl;exact zLg _ _ _ _ _ _))
   refine bodyPost_ret (v:=.tuple #[.agg (sg6 0 0 ⟨#[]⟩ 0 0 ⟨#[]⟩).toArray,.bool false]) (by obtain ⟨r0,r1,r2,r3,r4,r5⟩:=HRR.out;simp [results,results104,go_sem,r0,r1,r2,r3,r4,r5]) rfl ⟨⟨⟨0,0,⟨#[]⟩,0,0,⟨#[]⟩⟩,?_,λh=>?_⟩,HBF.out⟩
   ·rw [HKN.out]
   ·rw [HKN.out] at h;cases h
theorem zMM (x:Wc.In) (av:Option Addr) (c:Nat) (w:World) (hk:x.op=5) (qc kn:Bool) (hq:apl x.a x.b=qc) (hkn:zAf x.a=kn) :
  CR 67 #[inV x (.slice av 0 c)] w (.bool (smI x ⟨5,x.a,x.b,v0I,c0I,a0I,a0I⟩ && qc)):=by
 have BA:∀ w1:World,Calls prog 101 #[.agg (zAD x (.slice av 0 c)).toArray,.agg (zAD ⟨5,x.a,x.b,v0I,c0I,a0I,a0I⟩ zAG).toArray] w1 λe w'=>e=.returned (.bool (smI x ⟨5,x.a,x.b,v0I,c0I,a0I,a0I⟩))/\Below w1.heap.size w1 w':=λw1=>by
  have h:=zA6 x ⟨5,x.a,x.b,v0I,c0I,a0I,a0I⟩ (.slice av 0 c) zAG w1;have e:(x.op == (⟨5,x.a,x.b,v0I,c0I,a0I,a0I⟩:Wc.In).op)=true:=by show (x.op == 5)=true;rw [hk];rfl
  rw [e,Bool.true_and] at h;exact h
 obtain ⟨tv,htv⟩:∃ tv,Value.slice av 0 c=tv:=⟨_,rfl⟩
 have T22:(zAD x tv)[22]? = some (.slice av 0 c):=by rw [htv];rfl
 rw [htv] at BA ⊢;have HQC:Hid (apl x.a x.b=qc):=hq;have HKN:Hid (zAf x.a=kn):=hkn;clear hq hkn;generalize smI x ⟨5,x.a,x.b,v0I,c0I,a0I,a0I⟩=qb at *;have pA0:AtL (zAK w x tv) w.heap.size (zAD x tv):=(AtL.new0 w _ _).alloc _;have pO0:AtL (zAK w x tv) (w.heap.size+1) (zAD (zAE 0) zAG):=AtL.new1 w _ _ _;have hth:World.there (zAK w x tv) (w.heap.size+1) 0 (zAD (zAE 5) zAG).toArray.size:=pO0.there;have hne:w.heap.size+1 ≠ w.heap.size:=by omega
 have pA:=pA0.farAll hne 0 (zAD (zAE 5) zAG);have pO:AtL ((zAK w x tv).setCells (w.heap.size+1) 0 (zAD (zAE 5) zAG)) (w.heap.size+1) (zAD (zAE 5) zAG):=pO0.setAll rfl;have hBa:Below w.heap.size w ((zAK w x tv).setCells (w.heap.size+1) 0 (zAD (zAE 5) zAG)):=zAb (zAJ (zAJ (Below.refl _ w) _) _) (Nat.le_succ _) _ 0;clear pA0 pO0;have n0:(zAD x tv)[0]? = some (.int .i64 5):=by rw [<-hk];rfl
 have a0:World.cell? ((zAK w x tv).setCells (w.heap.size+1) 0 (zAD (zAE 5) zAG)) ⟨w.heap.size,0,none⟩=some (.int .i64 5):=pA.2.1 0 _ n0;show Calls _ _ #[.agg (zAD x tv).toArray] _ _
 have cA0:(zAK w x tv).cell? ⟨w.heap.size,0,none⟩=some (.int .i64 5):=((AtL.new0 w _ _).alloc _:AtL (zAK w x tv) w.heap.size (zAD x tv)).2.1 0 _ n0;have pX:=AtL.new0 w 56 (zAD x tv);have c0A:=pX.2.1 0 _ n0;have c22:=pX.2.1 22 _ T22;clear htv T22 cA0 pX;go_enter func67,ntmps67;go_upto_region 3 with fail
 go_upto_region 4 with ((with_reducible refine wpList_store_mid ?_ 56 (.tmp 3) (.tmp 19) ?_ (w.heap.size+1) 0 (zAD (zAE 5) zAG).toArray ?_ ?_ ?_ ?_ ?_ ?_);rfl;rfl;rfl;rfl;exact hth;kernel_rfl;exact zA1 _ _ _ _)
 generalize (zAK w x tv).setCells (w.heap.size+1) 0 (zAD (zAE 5) zAG)=W0 at *;clear hth c0A c22;have pA1:=pA;have pO1:=pO;have hB1:=hBa;clear pA pO hBa;have a1:=pA1.2.1 1 _ rfl;have o1:=pO1.2.1 1 _ rfl;have f1:=pO1.2.2 1 (by show 1<23;decide);go_upto_region 19 with fail
 have pA2:AtL (W0.setCell ⟨w.heap.size+1,1,none⟩ (.int .i64 x.a)) w.heap.size (zAD x tv):=(pA1.far hne 1 (.int .i64 x.a))
 have pO2:=(pO1.set 1 (.int .i64 x.a))
 have hB2:Below w.heap.size w (W0.setCell ⟨w.heap.size+1,1,none⟩ (.int .i64 x.a)):=(clB hB1)
 clear pA1 pO1 hB1 a1 o1 f1;generalize (W0.setCell ⟨w.heap.size+1,1,none⟩ (.int .i64 x.a))=W1 at *;have pA1:=pA2;have pO1:=pO2;have hB1:=hB2;clear pA2 pO2 hB2;have a2:=pA1.2.1 2 _ rfl;have o2:=pO1.2.1 2 _ rfl;have f2:=pO1.2.2 2 (by show 2<23;decide);go_upto_region 20 with fail
 have pA2:AtL (W1.setCell ⟨w.heap.size+1,2,none⟩ (.int .i64 x.b)) w.heap.size (zAD x tv):=(pA1.far hne 2 (.int .i64 x.b))
 have pO2:=(pO1.set 2 (.int .i64 x.b))
 have hB2:Below w.heap.size w (W1.setCell ⟨w.heap.size+1,2,none⟩ (.int .i64 x.b)):=(clB hB1)
 clear pA1 pO1 hB1 a2 o2 f2;generalize (W1.setCell ⟨w.heap.size+1,2,none⟩ (.int .i64 x.b))=W2 at *;have pA1:=pA2;have pO1:=pO2;have hB1:=hB2;clear pA2 pO2 hB2;have pOY:AtL W2 (w.heap.size+1) (zAD ⟨5,x.a,x.b,v0I,c0I,a0I,a0I⟩ zAG):=pO1;have rA:=pA1.range;have rO:=pOY.range;clear pO1 pOY;have e1:=pA1.2.1 1 _ rfl;have BY:∀ w:World,Calls prog 104 #[.int .i64 x.a] w λe w'=>(∃ s:Sg,e=.returned (.tuple #[.agg (sg6 s.id s.c s.nm s.l s.m s.p).toArray,.bool kn])/\(kn=true->s ∈ allS/\s.id=x.a))/\Below w.heap.size w w':=λw=>by have h:=zNm zG0 x.a w;rw [HKN.out] at h;exact h
 go_wp2_with fail
 refine (BY _).mono ?_;rintro e w4 ⟨⟨s,rfl,hs⟩,hb4⟩;replace pA1:=AtL.below hb4 pA1
 replace hB1:=zAB hB1 hb4
 replace rO:=zAH hb4 rO
 have hbq:=zAJ (Below.refl _ w4) (.cells (sg6 s.id s.c s.nm s.l s.m s.p).toArray 108);replace pA1:=AtL.below hbq pA1
 replace hB1:=zAB hB1 hbq
 replace rO:=zAH hbq rO
 have pS:AtL (w4.alloc (.cells (sg6 s.id s.c s.nm s.l s.m s.p).toArray 108)) w4.heap.size (sg6 s.id s.c s.nm s.l s.m s.p):=AtL.new0 w4 _ _;have HS:Hid (kn=true->s ∈ allS/\s.id=x.a):=hs;clear rA BY hb4 e1 hbq hs;have rA:=pA1.range;go_upto_region 21 with fail
 generalize (w4.alloc (.cells (sg6 s.id s.c s.nm s.l s.m s.p).toArray 108))=W9 at *;obtain ⟨KX,hKX⟩:∃ k,w4.heap.size=k:=⟨_,rfl⟩
 rw [hKX] at pS;simp only [hKX];have e2:=pA1.2.1 2 _ rfl;obtain ⟨g0,g1,g2,g3,g4,g5,_,_,_,_,_,_⟩:=at6 pS;clear g0 g2 g5 pS hKX;clear a0;go_wp2_with (first | (refine zAA (by rfl) 56 (.tmp 1) rfl w.heap.size 0 rfl (zAD x tv) _ rA underlying56 rfl (by kernel_rfl) ?_) | (refine zAA (by rfl) 56 (.tmp 3) rfl (w.heap.size+1) 0 rfl (zAD ⟨5,x.a,x.b,v0I,c0I,a0I,a0I⟩ zAG) _ rO underlying56 rfl (by kernel_rfl) ?_))
 refine (BA _).mono ?_;rintro e w5 ⟨rfl,hb5⟩;have hB5:=zAB hB1 hb5;clear BA rA rO;cases qb with
 | false =>
  go_wp2;go_ret;exact ⟨by simp,hB5⟩
 | true =>
  replace e2:=zAC hb5 e2
  replace g1:=zAC hb5 g1
  replace g3:=zAC hb5 g3
  replace g4:=zAC hb5 g4
  cases kn with
  | false =>
   have HC:Hid (qc=false):=by show qc=_;rw [<-HQC.out];unfold apl;rw [HKN.out];rfl
   go_wp2;go_ret;exact ⟨by rw [HC.out];rfl,hB5⟩
  | true =>
   obtain ⟨sm,si⟩:=HS.out rfl;obtain ⟨_,a1,a2,a3⟩:=zFf sm;rw [si] at a1 a2 a3;have HC:Hid (qc=((s.c == 4) && (decide (s.l<=x.b) && decide (x.b<=s.m)))):=by show qc=_;rw [<-HQC.out];unfold apl;rw [HKN.out,a1,a2,a3];rfl
   clear sm si a1 a2 a3 HS HKN HQC;obtain ⟨q4,h4⟩:∃ b,(s.c == 4)=b:=⟨_,rfl⟩
   rw [h4] at HC;cases q4 with
   | false =>
    go_wp2;go_ret;exact ⟨by rw [HC.out];simp,hB5⟩
   | true =>
    by_cases hl:s.l<=x.b
    ·have hln:¬ x.b<s.l:=by omega
     by_cases hm:x.b<=s.m
     ·have hmn:¬ s.m<x.b:=by omega
      go_wp2;go_ret;exact ⟨by rw [HC.out];simp [hl,hm],hB5⟩
     ·have hmn:s.m<x.b:=by omega
      go_wp2;go_ret;exact ⟨by rw [HC.out];simp [hl],hB5⟩
    ·have hln:x.b<s.l:=by omega
     go_wp2;go_ret;exact ⟨by rw [HC.out];(simp;omega),hB5⟩
theorem zAa {f:Nat} {vs:Array Value} {a b:Bool} (h:Calls prog f vs w λe w'=>e=.returned (.bool a)/\Below w.heap.size w w') (e:a=b):Calls prog f vs w λe w'=>e=.returned (.bool b)/\Below w.heap.size w w':=by
 rw [<-e];exact h
theorem zGg (x:Wc.In) (av:Option Addr) (n c:Nat) (tl:List Int) (w:World) (hz:RdZ w (.slice av n c) tl) (hl:tl.length<=1000000) (hf:Wt.FitV x.v) :
  CR 67 #[inV x (.slice av n c)] w (.bool (rgt x tl)):=by
 have hn:n=tl.length:=by
  obtain ⟨a,cap,e,_⟩:=hz;simp only [Value.slice.injEq] at e;exact e.2.1
 subst hn;cases tl with
 | nil =>
  have d0:decide (([]:List Int)=[])=true:=rfl;rcases zEl x.op with h | h | h | h | h | h | h | h | h | h | h | h | h | h | h | h | h
  ·exact zAa (zML x av c w h hf) (by rw [zNN h,d0,Bool.and_true,Bool.and_comm])
  ·exact zAa (zNn x av c w h) (by rw [zOA h,d0,Bool.and_true,Bool.and_comm])
  ·exact zAa (zMr x av c w h) (by rw [zMf h,d0,Bool.and_true,Bool.and_comm])
  ·exact zAa (zMc x av c w h) (by rw [zNI h,d0,Bool.and_true,Bool.and_comm])
  ·exact zAa (zMM x av c w h _ _ rfl rfl) (by rw [zKz h,d0,Bool.and_true,Bool.and_comm])
  ·cases hq:fld x.a with
   | true=>exact zAa (zKw x av c w h hq) (by rw [zLM h,hq,d0];simp)
   | false=>exact zAa (zJx x av c w h hq) (by rw [zLM h,hq];simp)
  ·exact zAa (zM1 x av c w h) (by rw [zNH h,d0,Bool.and_true,Bool.true_and])
  ·exact zAa (zMJ x av c w h) (by rw [zLq h,d0,Bool.and_true,Bool.and_comm])
  ·exact zAa (zM4 x av c w h) (by rw [zMs h,d0,Bool.and_true,Bool.and_comm])
  ·exact zAa (zJ5 x av c w h) (by rw [zI9 h,d0,Bool.and_true,Bool.true_and])
  ·exact zAa (zKN x av c w h) (by rw [zFb h,d0,Bool.and_true,Bool.and_comm])
  ·exact zAa (zJT x av c w h) (by rw [zHm h,d0,Bool.and_true,Bool.true_and])
  ·exact zAa (zJs x av c w h) (by rw [zI1 h,d0,Bool.and_true,Bool.true_and])
  ·exact zAa (zK0 x av c w h) (by rw [zHF h,d0,Bool.and_true,Bool.true_and])
  ·exact zAa (zJG x av c w h) (by rw [zHA h,Bool.and_false];rfl)
  ·exact zAa (zJc x av c w h) (by rw [zHi h,d0,Bool.and_true,Bool.true_and])
  ·exact zAa (zNg x av c w h) (by rw [zOS h])
 | cons t r =>
  have d0:decide (t::r=[])=false:=by simp
  rcases zEl x.op with h | h | h | h | h | h | h | h | h | h | h | h | h | h | h | h | h
  case inr.inr.inr.inr.inr.inr.inr.inr.inr.inr.inr.inr.inr.inr.inl =>
   exact zAa (zKx x av (t::r).length c w h (by simp)) (by rw [zHA h,Bool.and_comm];simp)
  case inr.inr.inr.inr.inr.inr.inr.inr.inr.inr.inr.inr.inr.inr.inr.inr =>
   exact zAa (zFu x av (t::r).length c w (by simp) (by omega)) (by rw [zOS h])
  all_goals
   refine zAa (zFu x av (t::r).length c w (by simp) (by omega)) ?_;first
   | rw [zNN h,d0,Bool.and_false,Bool.and_false]
   | rw [zOA h,d0,Bool.and_false,Bool.and_false]
   | rw [zMf h,d0,Bool.and_false,Bool.and_false]
   | rw [zNI h,d0,Bool.and_false,Bool.and_false]
   | rw [zKz h,d0,Bool.and_false,Bool.and_false]
   | rw [zLM h,d0,Bool.and_false,Bool.and_false]
   | rw [zNH h,d0,Bool.and_false,Bool.and_false]
   | rw [zLq h,d0,Bool.and_false,Bool.and_false]
   | rw [zMs h,d0,Bool.and_false,Bool.and_false]
   | rw [zI9 h,d0,Bool.and_false,Bool.and_false]
   | rw [zFb h,d0,Bool.and_false,Bool.and_false]
   | rw [zHm h,d0,Bool.and_false,Bool.and_false]
   | rw [zI1 h,d0,Bool.and_false,Bool.and_false]
   | rw [zHF h,d0,Bool.and_false,Bool.and_false]
   | rw [zHi h,d0,Bool.and_false,Bool.and_false]
theorem zGj (L:List (Wc.In × List Int)) (v:Value) (w:World) (h:RdC w v L) (hl:L.length<=1000000) (ht:∀ x ∈ L,x.2.length<=1000000/\Wt.FitV x.1.v) :
  CR 14 #[v] w (.int .i64 (if Wc.chkP rgt L=true then 0 else 85)):=by
 have HE:=zGr (λx p m k tl w hz hl hf=>zGg x p m k tl w hz hl hf) L v w h hl ht;rw [<-Wc.chk_eq] at HE;obtain ⟨q,hq⟩:∃ q,Wc.chkP rgt L=q:=⟨_,rfl⟩
 rw [hq] at HE ⊢;clear hq h hl ht;go_enter func14,ntmps14;go_wp2_with fail
 refine HE.mono ?_;rintro e w1 ⟨⟨a,b,rfl⟩,hb1⟩;cases q
 ·go_wp2;go_ret;exact ⟨by simp,hb1⟩
 ·go_wp2;go_ret;exact ⟨by simp,hb1⟩
theorem zFQ {k:Nat} (h:k<=1000000):IntKind.i64.wrap ((k:Int)+2)=((k+2:Nat):Int)/\IntKind.i64.wrap ((k:Int)+1)=((k+1:Nat):Int):=⟨by rw [IntKind.wrap_i64];omega,by rw [IntKind.wrap_i64];omega⟩
theorem zIQ (L:List (Wc.In × List Int)) (B G cap:Nat) (P:List (Wc.In × Value)) (vl:Value) (w:World) (hT:TwS w B G cap P L) (hR:RdC w vl L) (hl:L.length<=1000000) (ht:∀ x ∈ L,x.2.length<=1000000) :
  CR 15 #[.slice (some ⟨G,0,none⟩) L.length cap,vl] w (.bool true):=by
 have SZ:=zO0 L _ vl w hT.rd hR hl ht;obtain ⟨a1,c1,rfl,r1⟩:=hR;have HR:Hid (RdC w (.slice a1 L.length c1) L):=⟨a1,c1,rfl,r1⟩
 have HTS:Hid (TwS w B G cap P L):=hT;have HTL:Hid (∀ x ∈ L,x.2.length<=1000000):=ht;obtain ⟨m1,m2⟩:=hT.marks;have hcp:=hT.cap;obtain ⟨n,hn⟩:∃ n,L.length=n:=⟨_,rfl⟩
 have HL:Hid (L.length=n):=hn;rw [hn] at m1 m2 hcp hl SZ ⊢;have HM1:Hid (w.cell? ⟨G,n * 23,none⟩=some (.int .i64 771)):=m1;have HM2:Hid (w.cell? ⟨G,(n+1) * 23,none⟩=some (.int .i64 772)):=m2;have HN:Hid (n<=1000000):=hl;have w1:IntKind.i64.wrap ((n:Int)+2)=((n+2:Nat):Int):=by rw [IntKind.wrap_i64];omega
 have w2:IntKind.i64.wrap ((n:Int)+1)=((n+1:Nat):Int):=by rw [IntKind.wrap_i64];omega
 have x1:=zA5 (k:=n+2) (by omega);have x2:=zA5 (k:=n+1) (by omega);have x3:=zA5 (k:=n) (by omega);have y1:=x1.1;have y2:=x1.2;have y3:=x2.1;have y4:=x2.2;have y5:=x3.1;have y6:=x3.2;have k1:n+2<=cap:=hcp;have k2:((n+2:Nat):Int)<=(cap:Int):=Int.ofNat_le.2 hcp;have k3:(0:Int)<=((n+2:Nat):Int):=Int.natCast_nonneg _;have k4:(n:Int)<((n+2:Nat):Int):=by omega
 have k5:((n+1:Nat):Int)<((n+2:Nat):Int):=by omega
 have k6:(0:Int)<=(n:Int):=Int.natCast_nonneg _;have k7:(0:Int)<=((n+1:Nat):Int):=Int.natCast_nonneg _;clear r1 hT ht hn m1 m2 hcp hl x1 x2 x3;go_enter func15,ntmps15;go_wp2_with fail
 refine SZ.mono ?_;rintro e w1' ⟨rfl,hb1⟩;have m1:=zAC hb1 HM1.out;have m2:=zAC hb1 HM2.out;have HB1:Hid (Below w.heap.size w w1'):=hb1;clear SZ hb1;go_upto_region 4 with fail
 clear m1 m2 w1 w2 y1 y2 y3 y4 y5 y6 k1 k2 k3 k4 k5 k6 k7 HM1 HM2;go_wp2_with fail
 go_loopg [6] n (λgk x wr=>∃ i:Nat,x=.int .i64 i/\gk=n - i/\i<=n/\Hid (Below w.heap.size w wr))
 case atStart=>exact ⟨0,rfl,rfl,Nat.zero_le _,HB1⟩
 case round =>
  clear HB1;obtain ⟨i,rfl,hg,hi,HB⟩:=hrel;by_cases hlt:i<n
  ·have hli:(i:Int)<(n:Int):=by omega
   have hiz:(0:Int)<=(i:Int):=Int.natCast_nonneg _;have hil:i<L.length:=by rw [HL.out];exact hlt
   have hwi:IntKind.i64.wrap ((i:Int)+1)=(i:Int)+1:=by rw [IntKind.wrap_i64];have:=HN.out;omega
   have H0:=HR.out;rw [HL.out] at H0;obtain ⟨q1,d1,e1,f1⟩:=H0;simp only [Value.slice.injEq] at e1;obtain ⟨ex1,ex2,ex3⟩:=e1;subst ex1;subst ex3;clear ex2;obtain ⟨bb,off,p,mm,kk,rfl,t1,z1,_⟩:=f1 i hil;obtain ⟨g,c,hr,ho⟩:=HTS.out.at' hil;obtain ⟨y,tl,hyt⟩:∃ y tl,L[i]=(y,tl):=⟨_,_,rfl⟩
   have htl:=HTL.out L[i] (List.getElem_mem _);rw [hyt] at t1 z1 hr ho htl;simp only at t1 z1 hr ho htl;have hmm:mm=tl.length:=by
    obtain ⟨_,_,e,_⟩:=z1;simp only [Value.slice.injEq] at e;exact e.2.1
   obtain ⟨c1',c2',hcap⟩:=zGX ho;rw [<-hmm] at c1' c2' hcap htl hr;have b1:=zAC HB.out (t1 22 _ rfl);have b2:=zAC HB.out (hr 22 _ rfl);have HB3:Hid (wr.cell? ⟨g,mm,none⟩=some (.int .i64 771)):=zAC HB.out c1';have HB4:Hid (wr.cell? ⟨g,mm+1,none⟩=some (.int .i64 772)):=zAC HB.out c2';have HTM:Hid (mm<=1000000):=htl;have HCP:Hid (mm+2<=c):=hcap;clear f1 hyt hil htl t1 z1 hr ho hmm c1' c2' hcap;go_upto_region 8 with fail
   clear b1;have k0:mm+2<=c:=HCP.out;have k1:((mm+2:Nat):Int)<=(c:Int):=Int.ofNat_le.2 k0;have k3:(0:Int)<=((mm+2:Nat):Int):=Int.natCast_nonneg _;have y1:=(zA5 (k:=mm+2) (Nat.le_trans (Nat.add_le_add_right HTM.out 2) (by decide))).1;have y2:=(zA5 (k:=mm+2) (Nat.le_trans (Nat.add_le_add_right HTM.out 2) (by decide))).2;have w1:=(zFQ HTM.out).1;go_upto_region 9 with fail
   clear b2 k0 k1 k3 y1 y2 w1;have b3:=HB3.out;have b4:=HB4.out;have k4:(mm:Int)<((mm+2:Nat):Int):=by omega
   have k5:((mm+1:Nat):Int)<((mm+2:Nat):Int):=by omega
   have k6:(0:Int)<=(mm:Int):=Int.natCast_nonneg _;have k7:(0:Int)<=((mm+1:Nat):Int):=Int.natCast_nonneg _;have y3:=(zA5 (k:=mm+1) (Nat.le_trans (Nat.add_le_add_right HTM.out 1) (by decide))).1;have y4:=(zA5 (k:=mm+1) (Nat.le_trans (Nat.add_le_add_right HTM.out 1) (by decide))).2;have y5:=(zA5 (k:=mm) (Nat.le_trans HTM.out (by decide))).1;have y6:=(zA5 (k:=mm) (Nat.le_trans HTM.out (by decide))).2;have w2:=(zFQ HTM.out).2;go_wp2_with fail
   go_roundg (n - (i+1))
   case rel=>exact ⟨i+1,by simp,rfl,hlt,HB⟩
   case measure=>omega
  ·have hli:¬ (i:Int)<(n:Int):=by omega
   go_wp2;go_ret;exact ⟨rfl,HB.out⟩
def wgt:Int->List (Wc.In × List Int)->Int
 | n,[]=>n
 | n,x::r=>if n<=20000 then wgt (n+((x.2.length:Int)+(x.1.v.t.size:Int))) r else n
theorem zGY (L:List (Wc.In × List Int)) (v:Value) (w:World) (h:RdC w v L) (hl:True->L.length<=2000000000000000000) (ht:∀ x ∈ L,x.2.length<=2000000000000000000/\x.1.v.t.size<=2000000000000000000) :
  CR 11 #[v] w (.int .i64 (wgt L.length L)):=by
 obtain ⟨a1,c1,rfl,r1⟩:=h;have H1:Hid (RdC w (.slice a1 L.length c1) L):=⟨a1,c1,rfl,r1⟩
 have HT:Hid (∀ x ∈ L,x.2.length<=2000000000000000000/\x.1.v.t.size<=2000000000000000000):=ht;obtain ⟨q,hq⟩:∃ q,wgt L.length L=q:=⟨_,rfl⟩
 have HQ:Hid (wgt L.length (L.drop 0)=q):=by show _=_;rw [List.drop_zero];exact hq
 rw [hq];obtain ⟨n,hn⟩:∃ n,L.length=n:=⟨_,rfl⟩
 rw [hn] at hl HQ ⊢;clear r1 ht hq;go_enter func11,ntmps11;go_wp2_with fail
 go_loopg [3,4] n (λgk y x wr=>∃ (i:Nat) (m:Int),x=.int .i64 i/\y=.int .i64 m/\gk=n - i/\i<=n/\0<=m/\Hid (wgt m (L.drop i)=q)/\Below w.heap.size w wr)
 case atStart=>exact ⟨0,(n:Int),rfl,rfl,rfl,Nat.zero_le _,by omega,HQ,Below.refl _ _⟩
 case round =>
  clear HQ;obtain ⟨i,m,rfl,rfl,hg,hi,hm0,HM,hb⟩:=hrel;by_cases hlt:i<n
  ·have hli:(i:Int)<(n:Int):=by omega
   have ed:L.drop i=L[i]::L.drop (i+1):=List.drop_eq_getElem_cons (by omega);by_cases hm:m<=20000
   ·have hwi:IntKind.i64.wrap ((i:Int)+1)=(i:Int)+1:=by rw [IntKind.wrap_i64];have:=hl trivial;omega
    obtain ⟨q1,d1,e1,f1⟩:=H1.out.below hb;simp only [Value.slice.injEq,true_and] at e1;obtain ⟨rfl,rfl⟩:=e1;obtain ⟨b1,o1,p1,m1,k1,rfl,t1,y1,_⟩:=f1 i (by omega);obtain ⟨hs1,hs2⟩:=HT.out (L[i]) (List.getElem_mem _);have HM2:Hid (wgt (m+(((L[i]).2.length:Int)+((L[i]).1.v.t.size:Int))) (L.drop (i+1))=q):=by
     have:=HM.out;rw [ed,wgt,if_pos hm] at this;exact this
    obtain ⟨p3,k3,e3,-⟩:=y1;simp only [Value.slice.injEq] at e3;obtain ⟨-,rfl,-⟩:=e3;have x22:wr.cell? ⟨b1,o1+i * 23+22,none⟩=some (.slice p1 (L[i]).2.length k1):=t1 22 _ rfl;have x6:wr.cell? ⟨b1,o1+i * 23+6,none⟩=some (.string (L[i]).1.v.t):=t1 6 _ rfl;have x33:wr.cell? ⟨b1,o1+i * 23+3+3,none⟩=some (.string (L[i]).1.v.t):=x6;generalize (L[i]).2.length=u at *;generalize (L[i]).1.v.t=s at *;have w1:IntKind.i64.wrap ((u:Int)+(s.size:Int))=(u:Int)+(s.size:Int):=by rw [IntKind.wrap_i64];omega
    have w2:IntKind.i64.wrap (m+((u:Int)+(s.size:Int)))=m+((u:Int)+(s.size:Int)):=by rw [IntKind.wrap_i64];omega
    have hp:0<=m+((u:Int)+(s.size:Int)):=by omega
    clear f1 t1 hs1 hs2 HM ed;go_upto_region 5 with fail
    go_quiet (fail)
    go_wp2_with fail
    go_roundg (n - (i+1))
    case rel=>exact ⟨i+1,_,by simp,rfl,rfl,hlt,hp,HM2,(clB hb)⟩
    case measure=>omega
   ·have e:m=q:=by
     have:=HM.out;rw [ed,wgt,if_neg hm] at this;exact this
    subst e;clear HM ed;go_wp2;go_ret;exact ⟨rfl,hb⟩
  ·have hli:¬ (i:Int)<(n:Int):=by omega
   have e:m=q:=by
    have:=HM.out;rw [List.drop_eq_nil_of_le (by omega)] at this;exact this
   subst e;clear HM;go_wp2;go_ret;exact ⟨rfl,hb⟩
theorem zLf:∀ (L:List (Wc.In × List Int)) (n:Int),n<=wgt n L
 | [],n=>Int.le_refl _
 | x::r,n=>by
  unfold wgt;split
  ·have:=zLf r (n+((x.2.length:Int)+(x.1.v.t.size:Int)));omega
  ·exact Int.le_refl _
theorem zLa:∀ (L:List (Wc.In × List Int)) (n:Int),0<=n->wgt n L<=20000->n<=20000/\∀ x ∈ L,x.2.length<=20000
 | [],n,_,h=>⟨h,λx hx=>by cases hx⟩
 | x::r,n,h0,h=>by
  unfold wgt at h;split at h
  ·rename_i hn
   have hg:=zLf r (n+((x.2.length:Int)+(x.1.v.t.size:Int)));obtain ⟨_,h2⟩:=zLa r _ (by omega) h;refine ⟨hn,λz hz=>?_⟩;rcases List.mem_cons.1 hz with rfl | hz
   ·omega
   ·exact h2 z hz
  ·rename_i hn
   exact absurd h hn
theorem zGV (L:List (Wc.In × List Int)) (v:Value) (w:World) (h:RdC w v L) (hl:True->L.length<=2000000000000000000) (ht:∀ x ∈ L,x.2.length<=2000000000000000000/\x.1.v.t.size<=2000000000000000000) (hF:∀ x ∈ L,Wt.FitV x.1.v) (hN:NmAt w) (hO:OpsAt w) :
  CR 4 #[v] w (.bool true):=by
 have AB:=zKg w hN hO;have HWE:Hid (∀ W:World,Below w.heap.size w W->Calls prog 11 #[v] W λe w'=>e=.returned (.int .i64 (wgt L.length L))/\Below W.heap.size W w'):=λW hb=>zGY L v W (h.below hb) hl ht
 have HR:Hid (RdC w v L):=h;have HF:Hid (∀ x ∈ L,Wt.FitV x.1.v):=hF;have HN:Hid (NmAt w):=hN;have HLE:Hid (wgt L.length L<=20000->L.length<=1000000/\∀ x ∈ L,x.2.length<=1000000):=λhw=>by
  obtain ⟨a,b⟩:=zLa L L.length (by omega) hw;exact ⟨by omega,λx hx=>by have:=b x hx;omega⟩
 obtain ⟨q,hq⟩:∃ q,wgt L.length L=q:=⟨_,rfl⟩
 rw [hq] at HWE HLE;clear hq h hl ht hF hN hO;go_enter func4,ntmps4;go_wp2_with fail
 refine AB.mono ?_;rintro e w1 ⟨rfl,hb1⟩;have WE:=HWE.out w1 hb1;clear AB HWE;go_wp2_with fail
 refine WE.mono ?_;rintro e w2 ⟨rfl,hb2⟩;have hB2:=zAB hb1 hb2;clear WE hb1 hb2;by_cases hw:20000<q
 ·have hwb:decide (20000<q)=true:=by simp [hw]
  go_wp2;go_ret;exact ⟨rfl,hB2⟩
 ·have hwb:decide (20000<q)=false:=by simp [hw]
  obtain ⟨hlen,hto⟩:=HLE.out (by omega);have HLN:Hid (L.length<=1000000/\∀ x ∈ L,x.2.length<=1000000):=⟨hlen,hto⟩
  have TW:=zK5 L v w2 (HR.out.below hB2) hlen hto;clear hlen hto HLE;go_wp2_with fail
  refine TW.mono ?_;rintro e w3 ⟨⟨G,cap,B,P,rfl,hBw,own,tw⟩,hb3⟩;have hB3:=zAB hB2 hb3;have HTS:Hid (TwS w3 B G cap P L):=⟨own,tw⟩
  have CK:=zCr L (.slice (some ⟨G,0,none⟩) L.length cap) w3 HTS.out.rd HLN.out.1 (λx hx=>⟨HLN.out.2 x hx,HF.out x hx⟩) (HN.out.below hB3);clear TW own tw hBw hb3 hB2;obtain ⟨c,hc⟩:∃ c:Int,(if Wc.chkP rgt L=true then 0 else 85)=c:=⟨_,rfl⟩
  have HC:Hid ((if Wc.chkP rgt L=true then (0:Int) else 85)=c):=hc;rw [hc] at CK;clear hc;go_wp2_with fail
  refine CK.mono ?_;rintro e w4 ⟨rfl,hb4⟩;have hB4:=zAB hB3 hb4;have HTS4:Hid (TwS w4 B G cap P L):=HTS.out.below hb4;have RC:=zGj L v w4 (HR.out.below hB4) HLN.out.1 (λx hx=>⟨HLN.out.2 x hx,HF.out x hx⟩);rw [HC.out] at RC;clear CK HTS hb4 hB3 HC;go_wp2_with fail
  refine RC.mono ?_;rintro e w5 ⟨rfl,hb5⟩;have hB5:=zAB hB4 hb5;have WH:=zIQ L B G cap P v w5 (HTS4.out.below hb5) (HR.out.below hB5) HLN.out.1 HLN.out.2;have hcc:(c == c)=true:=by simp
  clear RC HTS4 hb5 hB4;go_wp2_with fail
  refine WH.mono ?_;rintro e w6 ⟨rfl,hb6⟩;have hB6:=zAB hB5 hb6;go_wp2;go_ret;exact ⟨rfl,hB6⟩
theorem zC8 {H:Type} {enc:TypeId × Value->H} {P:Program} {base:Nat} {sp:Nat->Bool} {held:Bool} {fuel:Nat} {t e:TypeId} {c:Nat} {cs:List Value} {ds:List (DataW H)} {p:List MemPlace}
  (ht:P.underlying t=some (.array n e)) (hce:P.cellsOf e=c) (hct:P.cellsOf t=n * c)
  (h:DataW.trod enc P w base sp held fuel t cs=some (.agg ds,p)):cs.length=n * c/\ds.length=n/\∀ i d,ds[i]? = some d->∃ fuel' p',DataW.trod enc P w base sp held fuel' e ((cs.drop (i * c)).take c)=some (d,p'):=by
 cases fuel with
 | zero=>simp [DataW.trod] at h
 | succ fuel =>
  simp only [DataW.trod,ht,hce,hct] at h;split at h
  ·rename_i hl
   obtain ⟨xs,hm,hx⟩:=Option.map_eq_some_iff.1 h;have hxs:xs.map (·.1)=ds:=by
    have:=congrArg Prod.fst hx;simpa using this
   have hxl:xs.length=n:=by simpa using Lib.mapM_length hm
   refine ⟨by simpa using hl,by rw [<-hxs];simpa using hxl,λi d hd=>?_⟩;have hi:i<n:=by
    have:=(List.getElem?_eq_some_iff.1 hd).1;rw [<-hxs,List.length_map] at this;omega
   obtain ⟨b,hb,hf⟩:=Lib.mapM_at hm i i (by simp [hi]);have:(xs.map (·.1))[i]? = some b.1:=by simp [hb]
   rw [hxs,hd] at this;obtain rfl:=Option.some.inj this;exact ⟨fuel,b.2,hf⟩
  ·cases h
theorem zQA (h:laidMet prog (("whittle/funcs.names",.agg (fnN.map λx=>.lit (.string x)))::rest) W):NmAt W:=by
 obtain ⟨ps,⟨g',t',cs,fuel,p,q,hg',ht',hvar,hd,_,_⟩,_⟩:=h;have hg:prog.globalNamed "whittle/funcs.names" = some 0:=by kernel_rfl
 have hty:(prog.globals[0]?).map (·.type)=some 178:=by kernel_rfl
 obtain rfl:=Option.some.inj (hg.symm.trans hg');obtain rfl:=Option.some.inj (hty.symm.trans ht');obtain ⟨h1,h2,h3⟩:=zC8 (n:=63) (c:=1) (e:=9) underlying178 (by kernel_rfl) (by kernel_rfl) hd;intro j v hv;unfold nmR at hv;rw [List.getElem?_map] at hv;obtain ⟨x,hx,rfl⟩:=Option.map_eq_some_iff.1 hv;obtain ⟨fu,p',ht⟩:=h3 j (.lit (.string x)) (by rw [List.getElem?_map,hx];rfl);obtain ⟨s,e1,e2,_⟩:=DataW.trod_string underlying9 ht;simp only [Prod.mk.injEq,DataW.lit.injEq,Lit.string.injEq] at e2;rw [Nat.zero_add,World.var?_cell hg hvar j];have:cs.toList[j]? = some (.string s):=by
  have:=congrArg (·[0]?) e1;simpa [List.getElem?_take,List.getElem?_drop] using this
 rw [Array.getElem?_toList] at this;have es:s=⟨x.toArray⟩:=by
  apply ByteArray.ext
  apply Array.ext'
  exact e2.1.symm
 rw [this,es]
theorem zQ6 {s:ByteArray} {l:List UInt8} (h:s.data.toList=l):s=⟨l.toArray⟩:=by
 apply ByteArray.ext
 apply Array.ext'
 rw [h]
theorem zP9 {α β:Type} (f:α->List β) (hf:∀ x,(f x).length=3):∀ (l:List α) (i:Nat) (hi:i<l.length) (r:Nat),r<3->(l.flatMap f)[i * 3+r]? = (f l[i])[r]?
 | [],i,hi,r,hr=>absurd hi (Nat.not_lt_zero _)
 | x::l,0,hi,r,hr=>by
  rw [List.flatMap_cons,List.getElem?_append_left (by rw [hf];omega)];simp
 | x::l,i+1,hi,r,hr=>by
  rw [List.flatMap_cons,List.getElem?_append_right (by rw [hf];omega),hf,show (i+1) * 3+r - 3=i * 3+r by omega];rw [zP9 f hf l i (by simpa using hi) r hr];simp
theorem zPs (h:laidMet prog (("whittle/tree.operators",.agg (Wt.opsT.map λx=>.agg [.lit (.int .i64 x.1),.lit (.string x.2.1),.lit (.int .i64 x.2.2)]))::rest) W):OpsAt W:=by
 obtain ⟨ps,⟨g',t',cs,fuel,p,q,hg',ht',hvar,hd,_,_⟩,_⟩:=h;have hg:prog.globalNamed "whittle/tree.operators" = some 1:=by kernel_rfl
 have hty:(prog.globals[1]?).map (·.type)=some 204:=by kernel_rfl
 obtain rfl:=Option.some.inj (hg.symm.trans hg');obtain rfl:=Option.some.inj (hty.symm.trans ht');obtain ⟨h1,h2,h3⟩:=zC8 (n:=15) (c:=3) (e:=169) underlying204 (by kernel_rfl) (by kernel_rfl) hd;have c3:prog.cellsOf 3=1:=by kernel_rfl
 have c9:prog.cellsOf 9=1:=by kernel_rfl
 have key:∀ i x,Wt.opsT[i]? = some x->cs.toList[i * 3]? = some (.int .i64 x.1)/\cs.toList[i * 3+1]? = some (.string ⟨x.2.1.toArray⟩)/\cs.toList[i * 3+2]? = some (.int .i64 x.2.2):=by
  intro i x hx;obtain ⟨fu,p',ht⟩:=h3 i _ (by rw [List.getElem?_map,hx];rfl);obtain ⟨y0,y1,y2,n,e,-,t0,t1,t2⟩:=Deep.trod_struct3 underlying169 ht;simp only [Prod.mk.injEq,DataW.agg.injEq,List.cons.injEq,and_true] at e;obtain ⟨z0,f0,g0,_⟩:=DataW.trod_int underlying3 t0;obtain ⟨z1,f1,g1,_⟩:=DataW.trod_string underlying9 t1;obtain ⟨z2,f2,g2,_⟩:=DataW.trod_int underlying3 t2;subst g0 g1 g2;simp only [DataW.lit.injEq,Lit.int.injEq,Lit.string.injEq,true_and] at e;obtain ⟨⟨rfl,e1,rfl⟩,-⟩:=e;simp only [c3] at f0 f2;simp only [c9] at f1;have q0:=congrArg (·[0]?) f0;have q1:=congrArg (·[0]?) f1;have q2:=congrArg (·[0]?) f2;simp [List.getElem?_drop] at q0 q1 q2;refine ⟨?_,?_,?_⟩
  ·rw [Array.getElem?_toList];exact q0
  ·rw [Array.getElem?_toList,q1,zQ6 e1.symm]
  ·rw [Array.getElem?_toList];exact q2
 intro j v hv;rw [Nat.zero_add,World.var?_cell hg hvar j];have hj:j<45:=by
  have:=(List.getElem?_eq_some_iff.1 hv).1;have e:opsR.length=45:=rfl;omega
 have hi:j / 3<Wt.opsT.length:=by show j / 3<15;omega
 obtain ⟨k0,k1,k2⟩:=key (j / 3) _ (List.getElem?_eq_getElem hi);have hf:=zP9 (λx:Int × List UInt8 × Int=>([.int .i64 x.1,.string ⟨x.2.1.toArray⟩,.int .i64 x.2.2]:List Value)) (λ_=>rfl) Wt.opsT (j / 3) hi;have hm:j % 3=0 \/ j % 3=1 \/ j % 3=2:=by omega
 rcases hm with hm | hm | hm
 ·have e:j=j / 3 * 3+0:=by omega
  have:=hf 0 (by decide);rw [<-e] at this;rw [show opsR[j]? = _ from this] at hv;rw [show j=j / 3 * 3 by omega,<-Array.getElem?_toList,k0];exact hv
 ·have e:j=j / 3 * 3+1:=by omega
  have:=hf 1 (by decide);rw [<-e] at this;rw [show opsR[j]? = _ from this] at hv;rw [e,<-Array.getElem?_toList,k1];exact hv
 ·have e:j=j / 3 * 3+2:=by omega
  have:=hf 2 (by decide);rw [<-e] at this;rw [show opsR[j]? = _ from this] at hv;rw [e,<-Array.getElem?_toList,k2];exact hv
