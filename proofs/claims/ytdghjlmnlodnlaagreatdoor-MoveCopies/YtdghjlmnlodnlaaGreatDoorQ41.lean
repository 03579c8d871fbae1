/- TRefL, TRefM, TRefN. -/
import Derived.Test.YtdghjlmnlodnlaaGreatDoorQ40
set_option maxHeartbeats 3200000
set_option maxRecDepth 100000
namespace Go.Proofs.YtdghjlmnlodnlaaGreatDoor
open Tryz
open Go.RowKit Go.Shelf
set_option linter.unusedVariables false
variable {w w':World} {k o q k2 o2:Nat} {v v2:Value} {av:Option Addr} {r:List Nat}
theorem rbx (w:World) (x:Wt.Nd):(w.alloc (.cells #[.int .i64 0,.int .i64 0,.int .i64 0,.int .i64 0,.string ⟨#[]⟩,.bool false,.int .i64 0,.int .i64 0,.string ⟨#[]⟩,.int .i64 0,.string ⟨#[]⟩,.int .i64 0,.int .i64 0,.bool false,.bool false,.string ⟨#[]⟩,.int .i64 0,.int .i64 0,.bool false,.bool false] 30)).there w.heap.size 0 (zAD x).toArray.size/\AtL ((w.alloc (.cells #[.int .i64 0,.int .i64 0,.int .i64 0,.int .i64 0,.string ⟨#[]⟩,.bool false,.int .i64 0,.int .i64 0,.string ⟨#[]⟩,.int .i64 0,.string ⟨#[]⟩,.int .i64 0,.int .i64 0,.bool false,.bool false,.string ⟨#[]⟩,.int .i64 0,.int .i64 0,.bool false,.bool false] 30)).setCells w.heap.size 0 (zAD x)) w.heap.size (zAD x)/\Below w.heap.size w ((w.alloc (.cells #[.int .i64 0,.int .i64 0,.int .i64 0,.int .i64 0,.string ⟨#[]⟩,.bool false,.int .i64 0,.int .i64 0,.string ⟨#[]⟩,.int .i64 0,.string ⟨#[]⟩,.int .i64 0,.int .i64 0,.bool false,.bool false,.string ⟨#[]⟩,.int .i64 0,.int .i64 0,.bool false,.bool false] 30)).setCells w.heap.size 0 (zAD x)):=by
 have pZ:AtL (w.alloc (.cells zN0 30)) w.heap.size (zAD ⟨0,Wt.v0,0,⟨#[]⟩,0,Wt.r0,Wt.r0⟩):=AtL.new0 w _ _;exact ⟨pZ.there,pZ.setAll rfl,zAu (zAI (Below.refl _ w) _) (Nat.le_refl _) _ 0⟩
theorem zLh (bb off cap:Nat) (L:List Wt.Nd) (p:Nat) (x:Wt.Nd) (w:World) (hF:∀ y ∈ L,Wt.FitN y) (hr:RdN w (some ⟨bb,off,none⟩) L) (hp:p<L.length) (hxe:L[p]=x) (hc:Wt.check L=0) (hk:x.k=1) (hv:Wt.vlOk x.v=true) (h2:x.v.k=2) :
  CR 42 #[.slice (some ⟨bb,off,none⟩) L.length cap,.int .i64 p] w (.string ⟨(zFx x.v).toArray⟩):=by
 rw [zKQ h2];have QQ:=λw=>zIx x.v.t w (by have:=zKi hv h2;omega)
 have HR:Hid (RdN w (some ⟨bb,off,none⟩) L):=hr;have hx0:=hr.at p hp;have S:=λw hr=>zAa (some ⟨bb,off,none⟩) cap L p w hF hr hp hc
 rw [hxe] at hx0;obtain ⟨tZ,pN,hB0⟩:=rbx w x;have hpi:(p:Int)<(L.length:Int):=by omega
 clear hr hc hF hxe;go_enter func42,ntmps42;go_upto_region 2 with (first
  | ((with_reducible refine wpList_load_mid (cs:=zAD x) ?_ 30 (.tmp 13) ?_ (bb) (off+p * 20) ?_ _ ?_ underlying30 ?_ ?_ ?_);rfl;rfl;rfl;exact hx0;rfl;kernel_rfl)
  | ((with_reducible refine wpList_store_mid ?_ 30 (.tmp 5) (.tmp 14) ?_ (w.heap.size) 0 (zAD x).toArray ?_ ?_ ?_ ?_ ?_ ?_);rfl;rfl;rfl;rfl;exact tZ;kernel_rfl;exact zAc _))
 generalize (w.alloc (.cells zN0 30)).setCells w.heap.size 0 (zAD x).toArray.toList=W0 at *;have S0:=S W0 (HR.out.below hB0);clear tZ hx0 S;go_wp2_with fail
 refine S0.mono ?_;rintro e w1 ⟨v1,rfl,own1,hb1⟩;obtain ⟨av1,cap1,rfl,hr1⟩:=own1.form;have hB1:=zAA hB0 hb1;have pN1:=AtL.below hb1 pN;clear S0 pN hB0 hb1 own1;have n0:w1.cell? ⟨w.heap.size,0,none⟩=some (.int .i64 1):=by rw [<-hk];exact pN1.2.1 0 _ rfl
 have n1:w1.cell? ⟨w.heap.size,1,none⟩=some (.int .i64 2):=by rw [<-h2];exact pN1.2.1 1 _ rfl
 have n4:=pN1.2.1 4 _ rfl;go_wp2_with fail
 refine (QQ _).mono ?_;rintro e w2 ⟨rfl,hb2⟩;have hB2:=zAA hB1 hb2;go_wp2;go_ret;exact ⟨rfl,hB2⟩
theorem zLj (bb off cap:Nat) (L:List Wt.Nd) (p:Nat) (x:Wt.Nd) (w:World) (hF:∀ y ∈ L,Wt.FitN y) (hr:RdN w (some ⟨bb,off,none⟩) L) (hp:p<L.length) (hxe:L[p]=x) (hc:Wt.check L=0) (hk:x.k=1) (hv:Wt.vlOk x.v=true) (hfx:Wt.FitV x.v) (h2:¬ x.v.k=2) :
  CR 42 #[.slice (some ⟨bb,off,none⟩) L.length cap,.int .i64 p] w (.string ⟨(zFx x.v).toArray⟩):=by
 have QQ:=λw=>zJl x.v w hv hfx h2
 have hn2:(x.v.k == 2)=false:=by simp [h2]
 generalize zFx x.v=lt at *;have HR:Hid (RdN w (some ⟨bb,off,none⟩) L):=hr;have hx0:=hr.at p hp;have S:=λw hr=>zAa (some ⟨bb,off,none⟩) cap L p w hF hr hp hc
 rw [hxe] at hx0;obtain ⟨tZ,pN,hB0⟩:=rbx w x;have hpi:(p:Int)<(L.length:Int):=by omega
 clear hr hc hF hxe;go_enter func42,ntmps42;go_upto_region 2 with (first
  | ((with_reducible refine wpList_load_mid (cs:=zAD x) ?_ 30 (.tmp 13) ?_ (bb) (off+p * 20) ?_ _ ?_ underlying30 ?_ ?_ ?_);rfl;rfl;rfl;exact hx0;rfl;kernel_rfl)
  | ((with_reducible refine wpList_store_mid ?_ 30 (.tmp 5) (.tmp 14) ?_ (w.heap.size) 0 (zAD x).toArray ?_ ?_ ?_ ?_ ?_ ?_);rfl;rfl;rfl;rfl;exact tZ;kernel_rfl;exact zAc _))
 generalize (w.alloc (.cells zN0 30)).setCells w.heap.size 0 (zAD x).toArray.toList=W0 at *;have S0:=S W0 (HR.out.below hB0);clear tZ hx0 S;go_wp2_with fail
 refine S0.mono ?_;rintro e w1 ⟨v1,rfl,own1,hb1⟩;obtain ⟨av1,cap1,rfl,hr1⟩:=own1.form;have hB1:=zAA hB0 hb1;have pN1:=AtL.below hb1 pN;clear S0 pN hB0 hb1 own1;have n0:w1.cell? ⟨w.heap.size,0,none⟩=some (.int .i64 1):=by rw [<-hk];exact pN1.2.1 0 _ rfl
 have n1:=pN1.2.1 1 _ rfl;have rV:=zSF pN1;go_wp2_with ((with_reducible refine wpList_load_mid (cs:=vl6 x.v) ?_ 26 (.tmp 30) ?_ (w.heap.size) 1 ?_ _ ?_ underlying26 ?_ ?_ ?_);rfl;rfl;rfl;exact rV;rfl;kernel_rfl)
 refine (QQ _).mono ?_;rintro e w2 ⟨rfl,hb2⟩;have hB2:=zAA hB1 hb2;go_wp2;go_ret;exact ⟨rfl,hB2⟩
theorem zMj (bb off cap:Nat) (L:List Wt.Nd) (p:Nat) (x:Wt.Nd) (w:World) (hF:∀ y ∈ L,Wt.FitN y) (hr:RdN w (some ⟨bb,off,none⟩) L) (hp:p<L.length) (hxe:L[p]=x) (hc:Wt.check L=0) (hk:x.k=2) (ha:Wt.rfOk x.a=true) (hs:x.a.s=⟨#[]⟩) :
  CR 42 #[.slice (some ⟨bb,off,none⟩) L.length cap,.int .i64 p] w (.string ⟨(zCG x.a).toArray⟩):=by
 have CA:=λw=>zBd x.a w (zAZ ha).1.1 (zAZ ha).1.2
 have la:=zCd x.a (zAZ ha).1.1 (zAZ ha).1.2;have E1:zCG x.a=cw x.a:=by unfold zCG;rw [if_pos hs]
 rw [E1];generalize cw x.a=ca at *;obtain ⟨ua,hua⟩:∃ u:ByteArray,(⟨ca.toArray⟩:ByteArray)=u:=⟨_,rfl⟩
 have sa:(ua.size:Int)<=40:=by rw [<-hua];show ((ca.toArray.size:Nat):Int)<=40;simp;omega
 have HA:Hid (ua=⟨ca.toArray⟩):=hua.symm;rw [hua] at CA;clear hua la E1 ha;have HR:Hid (RdN w (some ⟨bb,off,none⟩) L):=hr;have hx0:=hr.at p hp;have S:=λw hr=>zAa (some ⟨bb,off,none⟩) cap L p w hF hr hp hc
 rw [hxe] at hx0;obtain ⟨tZ,pN,hB0⟩:=rbx w x;have hpi:(p:Int)<(L.length:Int):=by omega
 clear hr hc hF hxe;go_enter func42,ntmps42;go_upto_region 2 with (first
  | ((with_reducible refine wpList_load_mid (cs:=zAD x) ?_ 30 (.tmp 13) ?_ (bb) (off+p * 20) ?_ _ ?_ underlying30 ?_ ?_ ?_);rfl;rfl;rfl;exact hx0;rfl;kernel_rfl)
  | ((with_reducible refine wpList_store_mid ?_ 30 (.tmp 5) (.tmp 14) ?_ (w.heap.size) 0 (zAD x).toArray ?_ ?_ ?_ ?_ ?_ ?_);rfl;rfl;rfl;rfl;exact tZ;kernel_rfl;exact zAc _))
 generalize (w.alloc (.cells zN0 30)).setCells w.heap.size 0 (zAD x).toArray.toList=W0 at *;have S0:=S W0 (HR.out.below hB0);clear tZ hx0 S;go_wp2_with fail
 refine S0.mono ?_;rintro e w1 ⟨v1,rfl,own1,hb1⟩;obtain ⟨av1,cap1,rfl,hr1⟩:=own1.form;have hB1:=zAA hB0 hb1;have pN1:=AtL.below hb1 pN;clear S0 pN hB0 hb1 own1;have n0:w1.cell? ⟨w.heap.size,0,none⟩=some (.int .i64 2):=by rw [<-hk];exact pN1.2.1 0 _ rfl
 have rA:=zI7 pN1;go_wp2_with ((with_reducible refine wpList_load_mid (cs:=rf5 x.a) ?_ 28 (.tmp 36) ?_ (w.heap.size) 10 ?_ _ ?_ underlying28 ?_ ?_ ?_);rfl;rfl;rfl;exact rA;rfl;kernel_rfl)
 refine (CA _).mono ?_;rintro e w2 ⟨rfl,hb2⟩;have hB2:=zAA hB1 hb2;have pN2:=AtL.below hb2 pN1;clear n0 rA pN1 hB1 hb2 CA;have n0:w2.cell? ⟨w.heap.size,0,none⟩=some (.int .i64 2):=by rw [<-hk];exact pN2.2.1 0 _ rfl
 have n10:w2.cell? ⟨w.heap.size,10,none⟩=some (.string ⟨#[]⟩):=by rw [<-hs];exact pN2.2.1 10 _ rfl
 go_wp2;go_ret;refine ⟨congrArg (λx=>Ending.returned (Value.string x)) ?_,hB2⟩;rw [HA.out]
theorem zLL (bb off cap:Nat) (L:List Wt.Nd) (p:Nat) (x:Wt.Nd) (w:World) (hF:∀ y ∈ L,Wt.FitN y) (hr:RdN w (some ⟨bb,off,none⟩) L) (hp:p<L.length) (hxe:L[p]=x) (hc:Wt.check L=0) (hk:x.k=2) (ha:Wt.rfOk x.a=true) (hs:¬ x.a.s=⟨#[]⟩) :
  CR 42 #[.slice (some ⟨bb,off,none⟩) L.length cap,.int .i64 p] w (.string ⟨(zCG x.a).toArray⟩):=by
 have CA:=λw=>zBd x.a w (zAZ ha).1.1 (zAZ ha).1.2
 have la:=zCd x.a (zAZ ha).1.1 (zAZ ha).1.2;have E1:zCG x.a=x.a.s.data.toList++(33::cw x.a):=by unfold zCG;rw [if_neg hs]
 rw [E1];have ls:(x.a.s.size:Int)<=16:=by
  rcases (zAZ ha).2 with h | h
  ·exact absurd h hs
  ·have h1:=(zBo h).2;rw [Array.length_toList] at h1;show ((x.a.s.data.size:Nat):Int)<=16
   omega
 have hs':x.a.s.toList.isEmpty=false:=by
  rw [ByteArray.toList_eq];cases h:x.a.s.data.toList with
  | nil=>exact absurd (by rw [zE0 x.a.s,h]) hs
  | cons a r=>rfl
 have hs2:(x.a.s.toList == [])=false:=by rw [<-hs'];cases x.a.s.toList <;> rfl
 generalize cw x.a=ca at *;obtain ⟨ua,hua⟩:∃ u:ByteArray,(⟨ca.toArray⟩:ByteArray)=u:=⟨_,rfl⟩
 have sa:(ua.size:Int)<=40:=by rw [<-hua];show ((ca.toArray.size:Nat):Int)<=40;simp;omega
 have HA:Hid (ua=⟨ca.toArray⟩):=hua.symm;rw [hua] at CA;clear hua la E1 ha;have HR:Hid (RdN w (some ⟨bb,off,none⟩) L):=hr;have hx0:=hr.at p hp;have S:=λw hr=>zAa (some ⟨bb,off,none⟩) cap L p w hF hr hp hc
 rw [hxe] at hx0;obtain ⟨tZ,pN,hB0⟩:=rbx w x;have hpi:(p:Int)<(L.length:Int):=by omega
 clear hr hc hF hxe;go_enter func42,ntmps42;go_upto_region 2 with (first
  | ((with_reducible refine wpList_load_mid (cs:=zAD x) ?_ 30 (.tmp 13) ?_ (bb) (off+p * 20) ?_ _ ?_ underlying30 ?_ ?_ ?_);rfl;rfl;rfl;exact hx0;rfl;kernel_rfl)
  | ((with_reducible refine wpList_store_mid ?_ 30 (.tmp 5) (.tmp 14) ?_ (w.heap.size) 0 (zAD x).toArray ?_ ?_ ?_ ?_ ?_ ?_);rfl;rfl;rfl;rfl;exact tZ;kernel_rfl;exact zAc _))
 generalize (w.alloc (.cells zN0 30)).setCells w.heap.size 0 (zAD x).toArray.toList=W0 at *;have S0:=S W0 (HR.out.below hB0);clear tZ hx0 S;go_wp2_with fail
 refine S0.mono ?_;rintro e w1 ⟨v1,rfl,own1,hb1⟩;obtain ⟨av1,cap1,rfl,hr1⟩:=own1.form;have hB1:=zAA hB0 hb1;have pN1:=AtL.below hb1 pN;clear S0 pN hB0 hb1 own1;have n0:w1.cell? ⟨w.heap.size,0,none⟩=some (.int .i64 2):=by rw [<-hk];exact pN1.2.1 0 _ rfl
 have rA:=zI7 pN1;go_wp2_with ((with_reducible refine wpList_load_mid (cs:=rf5 x.a) ?_ 28 (.tmp 36) ?_ (w.heap.size) 10 ?_ _ ?_ underlying28 ?_ ?_ ?_);rfl;rfl;rfl;exact rA;rfl;kernel_rfl)
 refine (CA _).mono ?_;rintro e w2 ⟨rfl,hb2⟩;have hB2:=zAA hB1 hb2;have pN2:=AtL.below hb2 pN1;clear n0 rA pN1 hB1 hb2 CA;have n0:w2.cell? ⟨w.heap.size,0,none⟩=some (.int .i64 2):=by rw [<-hk];exact pN2.2.1 0 _ rfl
 have n10:=pN2.2.1 10 _ rfl;go_wp2;go_ret;refine ⟨congrArg (λx=>Ending.returned (Value.string x)) ?_,hB2⟩;rw [HA.out];rw [zE0 x.a.s];rw [show (⟨#[33]⟩:ByteArray)=⟨[33].toArray⟩ from rfl];simp only [zBf];simp
theorem zML (bb off cap:Nat) (L:List Wt.Nd) (p:Nat) (x:Wt.Nd) (w:World) (hF:∀ y ∈ L,Wt.FitN y) (hr:RdN w (some ⟨bb,off,none⟩) L) (hp:p<L.length) (hxe:L[p]=x) (hc:Wt.check L=0) (hk:x.k=3) (ha:Wt.rfOk x.a=true) (hs:x.a.s=⟨#[]⟩) (hb:Wt.rfOk x.b=true) (hbs:x.b.s=⟨#[]⟩) :
  CR 42 #[.slice (some ⟨bb,off,none⟩) L.length cap,.int .i64 p] w (.string ⟨(zCG x.a++58::zCG x.b).toArray⟩):=by
 have CA:=λw=>zBd x.a w (zAZ ha).1.1 (zAZ ha).1.2
 have la:=zCd x.a (zAZ ha).1.1 (zAZ ha).1.2;have E1:zCG x.a=cw x.a:=by unfold zCG;rw [if_pos hs]
 rw [E1];have CB:=λw=>zBd x.b w (zAZ hb).1.1 (zAZ hb).1.2
 have lb:=zCd x.b (zAZ hb).1.1 (zAZ hb).1.2;have E2:zCG x.b=cw x.b:=by unfold zCG;rw [if_pos hbs]
 rw [E2];clear E2 hb hbs;generalize cw x.a=ca at *;obtain ⟨ua,hua⟩:∃ u:ByteArray,(⟨ca.toArray⟩:ByteArray)=u:=⟨_,rfl⟩
 have sa:(ua.size:Int)<=40:=by rw [<-hua];show ((ca.toArray.size:Nat):Int)<=40;simp;omega
 have HA:Hid (ua=⟨ca.toArray⟩):=hua.symm;rw [hua] at CA;clear hua la E1 ha;generalize cw x.b=cb at *;obtain ⟨ub,hub⟩:∃ u:ByteArray,(⟨cb.toArray⟩:ByteArray)=u:=⟨_,rfl⟩
 have sb:(ub.size:Int)<=40:=by rw [<-hub];show ((cb.toArray.size:Nat):Int)<=40;simp;omega
 have HB:Hid (ub=⟨cb.toArray⟩):=hub.symm;rw [hub] at CB;clear hub lb;have HR:Hid (RdN w (some ⟨bb,off,none⟩) L):=hr;have hx0:=hr.at p hp;have S:=λw hr=>zAa (some ⟨bb,off,none⟩) cap L p w hF hr hp hc
 rw [hxe] at hx0;obtain ⟨tZ,pN,hB0⟩:=rbx w x;have hpi:(p:Int)<(L.length:Int):=by omega
 clear hr hc hF hxe;go_enter func42,ntmps42;go_upto_region 2 with (first
  | ((with_reducible refine wpList_load_mid (cs:=zAD x) ?_ 30 (.tmp 13) ?_ (bb) (off+p * 20) ?_ _ ?_ underlying30 ?_ ?_ ?_);rfl;rfl;rfl;exact hx0;rfl;kernel_rfl)
  | ((with_reducible refine wpList_store_mid ?_ 30 (.tmp 5) (.tmp 14) ?_ (w.heap.size) 0 (zAD x).toArray ?_ ?_ ?_ ?_ ?_ ?_);rfl;rfl;rfl;rfl;exact tZ;kernel_rfl;exact zAc _))
 generalize (w.alloc (.cells zN0 30)).setCells w.heap.size 0 (zAD x).toArray.toList=W0 at *;have S0:=S W0 (HR.out.below hB0);clear tZ hx0 S;go_wp2_with fail
 refine S0.mono ?_;rintro e w1 ⟨v1,rfl,own1,hb1⟩;obtain ⟨av1,cap1,rfl,hr1⟩:=own1.form;have hB1:=zAA hB0 hb1;have pN1:=AtL.below hb1 pN;clear S0 pN hB0 hb1 own1;have n0:w1.cell? ⟨w.heap.size,0,none⟩=some (.int .i64 3):=by rw [<-hk];exact pN1.2.1 0 _ rfl
 have rA:=zI7 pN1;go_wp2_with ((with_reducible refine wpList_load_mid (cs:=rf5 x.a) ?_ 28 (.tmp 36) ?_ (w.heap.size) 10 ?_ _ ?_ underlying28 ?_ ?_ ?_);rfl;rfl;rfl;exact rA;rfl;kernel_rfl)
 refine (CA _).mono ?_;rintro e w2 ⟨rfl,hb2⟩;have hB2:=zAA hB1 hb2;have pN2:=AtL.below hb2 pN1;clear n0 rA pN1 hB1 hb2 CA;have n0:w2.cell? ⟨w.heap.size,0,none⟩=some (.int .i64 3):=by rw [<-hk];exact pN2.2.1 0 _ rfl
 have n10:w2.cell? ⟨w.heap.size,10,none⟩=some (.string ⟨#[]⟩):=by rw [<-hs];exact pN2.2.1 10 _ rfl
 have rB:=zOf pN2;go_wp2_with ((with_reducible refine wpList_load_mid (cs:=rf5 x.b) ?_ 28 (.tmp 54) ?_ (w.heap.size) 15 ?_ _ ?_ underlying28 ?_ ?_ ?_);rfl;rfl;rfl;exact rB;rfl;kernel_rfl)
 refine (CB _).mono ?_;rintro e w3 ⟨rfl,hb3⟩;have hB3:=zAA hB2 hb3;go_wp2;go_ret;refine ⟨congrArg (λx=>Ending.returned (Value.string x)) ?_,hB3⟩;rw [HA.out,HB.out];rw [show (⟨#[58]⟩:ByteArray)=⟨[58].toArray⟩ from rfl];simp only [zBf];simp
theorem zKx (bb off cap:Nat) (L:List Wt.Nd) (p:Nat) (x:Wt.Nd) (w:World) (hF:∀ y ∈ L,Wt.FitN y) (hr:RdN w (some ⟨bb,off,none⟩) L) (hp:p<L.length) (hxe:L[p]=x) (hc:Wt.check L=0) (hk:x.k=3) (ha:Wt.rfOk x.a=true) (hs:¬ x.a.s=⟨#[]⟩) (hb:Wt.rfOk x.b=true) (hbs:x.b.s=⟨#[]⟩) :
  CR 42 #[.slice (some ⟨bb,off,none⟩) L.length cap,.int .i64 p] w (.string ⟨(zCG x.a++58::zCG x.b).toArray⟩):=by
 have CA:=λw=>zBd x.a w (zAZ ha).1.1 (zAZ ha).1.2
 have la:=zCd x.a (zAZ ha).1.1 (zAZ ha).1.2;have E1:zCG x.a=x.a.s.data.toList++(33::cw x.a):=by unfold zCG;rw [if_neg hs]
 rw [E1];have CB:=λw=>zBd x.b w (zAZ hb).1.1 (zAZ hb).1.2
 have lb:=zCd x.b (zAZ hb).1.1 (zAZ hb).1.2;have E2:zCG x.b=cw x.b:=by unfold zCG;rw [if_pos hbs]
 rw [E2];clear E2 hb hbs;have ls:(x.a.s.size:Int)<=16:=by
  rcases (zAZ ha).2 with h | h
  ·exact absurd h hs
  ·have h1:=(zBo h).2;rw [Array.length_toList] at h1;show ((x.a.s.data.size:Nat):Int)<=16
   omega
 have hs':x.a.s.toList.isEmpty=false:=by
  rw [ByteArray.toList_eq];cases h:x.a.s.data.toList with
  | nil=>exact absurd (by rw [zE0 x.a.s,h]) hs
  | cons a r=>rfl
 have hs2:(x.a.s.toList == [])=false:=by rw [<-hs'];cases x.a.s.toList <;> rfl
 generalize cw x.a=ca at *;obtain ⟨ua,hua⟩:∃ u:ByteArray,(⟨ca.toArray⟩:ByteArray)=u:=⟨_,rfl⟩
 have sa:(ua.size:Int)<=40:=by rw [<-hua];show ((ca.toArray.size:Nat):Int)<=40;simp;omega
 have HA:Hid (ua=⟨ca.toArray⟩):=hua.symm;rw [hua] at CA;clear hua la E1 ha;generalize cw x.b=cb at *;obtain ⟨ub,hub⟩:∃ u:ByteArray,(⟨cb.toArray⟩:ByteArray)=u:=⟨_,rfl⟩
 have sb:(ub.size:Int)<=40:=by rw [<-hub];show ((cb.toArray.size:Nat):Int)<=40;simp;omega
 have HB:Hid (ub=⟨cb.toArray⟩):=hub.symm;rw [hub] at CB;clear hub lb;have HR:Hid (RdN w (some ⟨bb,off,none⟩) L):=hr;have hx0:=hr.at p hp;have S:=λw hr=>zAa (some ⟨bb,off,none⟩) cap L p w hF hr hp hc
 rw [hxe] at hx0;obtain ⟨tZ,pN,hB0⟩:=rbx w x;have hpi:(p:Int)<(L.length:Int):=by omega
 clear hr hc hF hxe;go_enter func42,ntmps42;go_upto_region 2 with (first
  | ((with_reducible refine wpList_load_mid (cs:=zAD x) ?_ 30 (.tmp 13) ?_ (bb) (off+p * 20) ?_ _ ?_ underlying30 ?_ ?_ ?_);rfl;rfl;rfl;exact hx0;rfl;kernel_rfl)
  | ((with_reducible refine wpList_store_mid ?_ 30 (.tmp 5) (.tmp 14) ?_ (w.heap.size) 0 (zAD x).toArray ?_ ?_ ?_ ?_ ?_ ?_);rfl;rfl;rfl;rfl;exact tZ;kernel_rfl;exact zAc _))
 generalize (w.alloc (.cells zN0 30)).setCells w.heap.size 0 (zAD x).toArray.toList=W0 at *;have S0:=S W0 (HR.out.below hB0);clear tZ hx0 S;go_wp2_with fail
 refine S0.mono ?_;rintro e w1 ⟨v1,rfl,own1,hb1⟩;obtain ⟨av1,cap1,rfl,hr1⟩:=own1.form;have hB1:=zAA hB0 hb1;have pN1:=AtL.below hb1 pN;clear S0 pN hB0 hb1 own1;have n0:w1.cell? ⟨w.heap.size,0,none⟩=some (.int .i64 3):=by rw [<-hk];exact pN1.2.1 0 _ rfl
 have rA:=zI7 pN1;go_wp2_with ((with_reducible refine wpList_load_mid (cs:=rf5 x.a) ?_ 28 (.tmp 36) ?_ (w.heap.size) 10 ?_ _ ?_ underlying28 ?_ ?_ ?_);rfl;rfl;rfl;exact rA;rfl;kernel_rfl)
 refine (CA _).mono ?_;rintro e w2 ⟨rfl,hb2⟩;have hB2:=zAA hB1 hb2;have pN2:=AtL.below hb2 pN1;clear n0 rA pN1 hB1 hb2 CA;have n0:w2.cell? ⟨w.heap.size,0,none⟩=some (.int .i64 3):=by rw [<-hk];exact pN2.2.1 0 _ rfl
 have n10:=pN2.2.1 10 _ rfl;have rB:=zOf pN2;go_wp2_with ((with_reducible refine wpList_load_mid (cs:=rf5 x.b) ?_ 28 (.tmp 54) ?_ (w.heap.size) 15 ?_ _ ?_ underlying28 ?_ ?_ ?_);rfl;rfl;rfl;exact rB;rfl;kernel_rfl)
 refine (CB _).mono ?_;rintro e w3 ⟨rfl,hb3⟩;have hB3:=zAA hB2 hb3;go_wp2;go_ret;refine ⟨congrArg (λx=>Ending.returned (Value.string x)) ?_,hB3⟩;rw [HA.out,HB.out];rw [zE0 x.a.s];rw [show (⟨#[33]⟩:ByteArray)=⟨[33].toArray⟩ from rfl];rw [show (⟨#[58]⟩:ByteArray)=⟨[58].toArray⟩ from rfl];simp only [zBf];simp
theorem zRj (h:RdI w av (q::r)):∃ kb ko,av=some ⟨kb,ko,none⟩/\w.cell? ⟨kb,ko,none⟩=some (.int .i64 (q:Int)):=h 0 (by simp)
theorem zSZ {s:Nat} (h:RdI w av (q::s::r)):∃ kb ko,av=some ⟨kb,ko,none⟩/\w.cell? ⟨kb,ko,none⟩=some (.int .i64 (q:Int))/\w.cell? ⟨kb,ko+1,none⟩=some (.int .i64 (s:Int)):=by
 obtain ⟨kb,ko,e,h0⟩:=h 0 (by simp);obtain ⟨kb',ko',e',h1⟩:=h 1 (by simp);rw [e] at e';simp only [Option.some.injEq,Addr.mk.injEq,and_true] at e';obtain ⟨rfl,rfl⟩:=e';exact ⟨kb,ko,e,h0,h1⟩
theorem zBF (h:w.cell? ⟨k,o,none⟩=some v) (hb:Below w.heap.size w w'):w'.cell? ⟨k,o,none⟩=some v:=by
 have hlt:k<w.heap.size:=by
  unfold World.cell? at h;cases hk:w.heap[k]? with
  | none=>simp [hk] at h
  | some o=>exact (Array.getElem?_eq_some_iff.1 hk).1
 rw [World.cell?_of_block (hb.block k hlt)];exact h
theorem zFv (hb:Below w.heap.size w w') (h:w.cell? ⟨k,o,none⟩=some v/\w.cell? ⟨k2,o2,none⟩=some v2):w'.cell? ⟨k,o,none⟩=some v/\w'.cell? ⟨k2,o2,none⟩=some v2:=⟨zBF h.1 hb,zBF h.2 hb⟩
theorem zDI {k3 o3:Nat} {v3:Value} (hb:Below w.heap.size w w') (h:w.cell? ⟨k,o,none⟩=some v/\w.cell? ⟨k2,o2,none⟩=some v2/\w.cell? ⟨k3,o3,none⟩=some v3):w'.cell? ⟨k,o,none⟩=some v/\w'.cell? ⟨k2,o2,none⟩=some v2/\w'.cell? ⟨k3,o3,none⟩=some v3:=⟨zBF h.1 hb,zBF h.2.1 hb,zBF h.2.2 hb⟩
theorem zKz (bb off cap:Nat) (L:List Wt.Nd) (p:Nat) (x:Wt.Nd) (w:World) (hF:∀ y ∈ L,Wt.FitN y) (hr:RdN w (some ⟨bb,off,none⟩) L) (hp:p<L.length) (hxe:L[p]=x) (hc:Wt.check L=0) (hk:x.k=4) (hop:x.op=3) (q:Nat) (lt:List UInt8) (hkid:zF2 L p=[q]) (hlt:lt.length<=256000) (P:∀ w:World,RdN w (some ⟨bb,off,none⟩) L->CR 67 #[.slice (some ⟨bb,off,none⟩) L.length cap,.int .i64 q,.int .i64 7] w (.string ⟨lt.toArray⟩)) :
  CR 42 #[.slice (some ⟨bb,off,none⟩) L.length cap,.int .i64 p] w (.string ⟨(lt++[37]).toArray⟩):=by
 obtain ⟨u,hu⟩:∃ u:ByteArray,(⟨lt.toArray⟩:ByteArray)=u:=⟨_,rfl⟩
 have us:(u.size:Int)<=256000:=by rw [<-hu];show ((lt.toArray.size:Nat):Int)<=256000;simp;omega
 have HU:Hid (u=⟨lt.toArray⟩):=hu.symm;rw [hu] at P;clear hu;have HR:Hid (RdN w (some ⟨bb,off,none⟩) L):=hr;have hx0:=hr.at p hp;have S:=λw hr=>zAa (some ⟨bb,off,none⟩) cap L p w hF hr hp hc
 rw [hxe] at hx0;obtain ⟨tZ,pN,hB0⟩:=rbx w x;have hpi:(p:Int)<(L.length:Int):=by omega
 clear hlt hr hc hF hxe;rw [hkid] at S;clear hkid;go_enter func42,ntmps42;go_upto_region 2 with (first
  | ((with_reducible refine wpList_load_mid (cs:=zAD x) ?_ 30 (.tmp 13) ?_ (bb) (off+p * 20) ?_ _ ?_ underlying30 ?_ ?_ ?_);rfl;rfl;rfl;exact hx0;rfl;kernel_rfl)
  | ((with_reducible refine wpList_store_mid ?_ 30 (.tmp 5) (.tmp 14) ?_ (w.heap.size) 0 (zAD x).toArray ?_ ?_ ?_ ?_ ?_ ?_);rfl;rfl;rfl;rfl;exact tZ;kernel_rfl;exact zAc _))
 generalize (w.alloc (.cells zN0 30)).setCells w.heap.size 0 (zAD x).toArray.toList=W0 at *;have S0:=S W0 (HR.out.below hB0);clear tZ hx0 S;go_wp2_with fail
 refine S0.mono ?_;rintro e w1 ⟨v1,rfl,own1,hb1⟩;obtain ⟨av1,cap1,rfl,hr1⟩:=own1.form;have hB1:=zAA hB0 hb1;have pN1:=AtL.below hb1 pN;clear S0 pN hB0 hb1 own1;have n0:w1.cell? ⟨w.heap.size,0,none⟩=some (.int .i64 4):=by rw [<-hk];exact pN1.2.1 0 _ rfl
 have n7:w1.cell? ⟨w.heap.size,7,none⟩=some (.int .i64 3):=by rw [<-hop];exact pN1.2.1 7 _ rfl
 obtain ⟨kb,ko,rfl,c0⟩:=zRj hr1;have P1:=P w1 (HR.out.below hB1);clear P;go_wp2_with fail
 refine P1.mono ?_;rintro e w2 ⟨rfl,hb2⟩;have hB2:=zAA hB1 hb2;go_wp2;go_ret;refine ⟨congrArg (λx=>Ending.returned (Value.string x)) ?_,hB2⟩;rw [HU.out,show (⟨#[37]⟩:ByteArray)=⟨[37].toArray⟩ from rfl,zBf]
theorem zMk (bb off cap:Nat) (L:List Wt.Nd) (p:Nat) (x:Wt.Nd) (w:World) (hF:∀ y ∈ L,Wt.FitN y) (hr:RdN w (some ⟨bb,off,none⟩) L) (hp:p<L.length) (hxe:L[p]=x) (hc:Wt.check L=0) (hk:x.k=4) (hop:¬ x.op=3) (q:Nat) (lt:List UInt8) (hkid:zF2 L p=[q]) (hlt:lt.length<=256000) (m:ByteArray) (hm:(m.size:Int)<=2) (SG:∀ w:World,CR 68 #[.int .i64 x.op] w (.string m)) (P:∀ w:World,RdN w (some ⟨bb,off,none⟩) L->CR 67 #[.slice (some ⟨bb,off,none⟩) L.length cap,.int .i64 q,.int .i64 6] w (.string ⟨lt.toArray⟩)) :
  CR 42 #[.slice (some ⟨bb,off,none⟩) L.length cap,.int .i64 p] w (.string ⟨(m.data.toList++lt).toArray⟩):=by
 obtain ⟨u,hu⟩:∃ u:ByteArray,(⟨lt.toArray⟩:ByteArray)=u:=⟨_,rfl⟩
 have us:(u.size:Int)<=256000:=by rw [<-hu];show ((lt.toArray.size:Nat):Int)<=256000;simp;omega
 have HU:Hid (u=⟨lt.toArray⟩):=hu.symm;rw [hu] at P;clear hu;have HR:Hid (RdN w (some ⟨bb,off,none⟩) L):=hr;have hx0:=hr.at p hp;have S:=λw hr=>zAa (some ⟨bb,off,none⟩) cap L p w hF hr hp hc
 rw [hxe] at hx0;obtain ⟨tZ,pN,hB0⟩:=rbx w x;have hpi:(p:Int)<(L.length:Int):=by omega
 clear hlt hr hc hF hxe;rw [hkid] at S;clear hkid;go_enter func42,ntmps42;go_upto_region 2 with (first
  | ((with_reducible refine wpList_load_mid (cs:=zAD x) ?_ 30 (.tmp 13) ?_ (bb) (off+p * 20) ?_ _ ?_ underlying30 ?_ ?_ ?_);rfl;rfl;rfl;exact hx0;rfl;kernel_rfl)
  | ((with_reducible refine wpList_store_mid ?_ 30 (.tmp 5) (.tmp 14) ?_ (w.heap.size) 0 (zAD x).toArray ?_ ?_ ?_ ?_ ?_ ?_);rfl;rfl;rfl;rfl;exact tZ;kernel_rfl;exact zAc _))
 generalize (w.alloc (.cells zN0 30)).setCells w.heap.size 0 (zAD x).toArray.toList=W0 at *;have S0:=S W0 (HR.out.below hB0);clear tZ hx0 S;go_wp2_with fail
 refine S0.mono ?_;rintro e w1 ⟨v1,rfl,own1,hb1⟩;obtain ⟨av1,cap1,rfl,hr1⟩:=own1.form;have hB1:=zAA hB0 hb1;have pN1:=AtL.below hb1 pN;clear S0 pN hB0 hb1 own1;have n0:w1.cell? ⟨w.heap.size,0,none⟩=some (.int .i64 4):=by rw [<-hk];exact pN1.2.1 0 _ rfl
 have n7:=pN1.2.1 7 _ rfl;have hopb:(x.op == 3)=false:=by simp [hop]
 have lx:¬ 9223372036854775807<m.size+u.size:=by omega
 generalize x.op=xo at *;obtain ⟨kb,ko,rfl,c0⟩:=zRj hr1;have hS:w1.cell? ⟨w.heap.size,7,none⟩=some (.int .i64 xo)/\w1.cell? ⟨kb,ko,none⟩=some (.int .i64 (q:Int)):=⟨n7,c0⟩
 clear c0 pN1 hr1;have hB:=hB1;clear hB1;go_wp2_with fail
 clear n0 n7;go_region_held3 (λW=>W.cell? ⟨w.heap.size,7,none⟩=some (.int .i64 xo)/\W.cell? ⟨kb,ko,none⟩=some (.int .i64 (q:Int)))
  (with_reducible first | exact hS | assumption | exact zFv (Below.refl _ _).drew hS | exact zFv hb (by assumption))
  (first
  | (go_at_call 68;refine (SG _).mono ?_;rintro e w4 ⟨rfl,hb⟩;(with_reducible first | replace hB:=zAA hB.drew hb | replace hB:=zAA hB hb))
  | (go_at_call 67;refine (P _ (HR.out.below (by with_reducible first | exact hB | exact hB.drew))).mono ?_;rintro e w4 ⟨rfl,hb⟩;(with_reducible first | replace hB:=zAA hB.drew hb | replace hB:=zAA hB hb)))
 all_goals
  go_wp2;go_ret;refine ⟨congrArg (λx=>Ending.returned (Value.string x)) ?_,hB⟩;rw [HU.out,zE0 m,zBf]
theorem zNr (bb off cap:Nat) (L:List Wt.Nd) (p:Nat) (x:Wt.Nd) (w:World) (hF:∀ y ∈ L,Wt.FitN y) (hr:RdN w (some ⟨bb,off,none⟩) L) (hp:p<L.length) (hxe:L[p]=x) (hc:Wt.check L=0) (hk:x.k=5) (hrx:Wt.right x=true) (q q2:Nat) (l1 l2:List UInt8) (hkid:zF2 L p=[q,q2]) (h1:l1.length<=256000) (h2:l2.length<=256000) (m:ByteArray) (hm:(m.size:Int)<=2) (SG:∀ w:World,CR 68 #[.int .i64 x.op] w (.string m)) (P:∀ w:World,RdN w (some ⟨bb,off,none⟩) L->CR 67 #[.slice (some ⟨bb,off,none⟩) L.length cap,.int .i64 q,.int .i64 (tgh x+1)] w (.string ⟨l1.toArray⟩)) (P2:∀ w:World,RdN w (some ⟨bb,off,none⟩) L->CR 67 #[.slice (some ⟨bb,off,none⟩) L.length cap,.int .i64 q2,.int .i64 (tgh x+1+1)] w (.string ⟨l2.toArray⟩)) :
  CR 42 #[.slice (some ⟨bb,off,none⟩) L.length cap,.int .i64 p] w (.string ⟨(l1++m.data.toList++l2).toArray⟩):=by
 obtain ⟨u,hu⟩:∃ u:ByteArray,(⟨l1.toArray⟩:ByteArray)=u:=⟨_,rfl⟩
 have us:(u.size:Int)<=256000:=by rw [<-hu];show ((l1.toArray.size:Nat):Int)<=256000;simp;omega
 have HU:Hid (u=⟨l1.toArray⟩):=hu.symm;rw [hu] at P;clear hu;obtain ⟨v,hv⟩:∃ u:ByteArray,(⟨l2.toArray⟩:ByteArray)=u:=⟨_,rfl⟩
 have vs:(v.size:Int)<=256000:=by rw [<-hv];show ((l2.toArray.size:Nat):Int)<=256000;simp;omega
 have HV:Hid (v=⟨l2.toArray⟩):=hv.symm;rw [hv] at P2;clear hv;have BI:=λw=>zET x w hrx
 have ht:=zGV hrx;have hw:IntKind.i64.wrap (tgh x+1+1)=tgh x+1+1:=IntWalk.i64_in _ (by omega);generalize tgh x+1=tb at *;obtain ⟨tc,htc⟩:∃ tc,tb+1=tc:=⟨_,rfl⟩
 rw [htc] at P2 hw;have hw2:IntKind.i64.wrap (tb+1)=tc:=by rw [htc];exact hw
 clear htc ht hw hrx;have HR:Hid (RdN w (some ⟨bb,off,none⟩) L):=hr;have hx0:=hr.at p hp;have S:=λw hr=>zAa (some ⟨bb,off,none⟩) cap L p w hF hr hp hc
 rw [hxe] at hx0;obtain ⟨tZ,pN,hB0⟩:=rbx w x;have hpi:(p:Int)<(L.length:Int):=by omega
 clear h1 h2 hr hc hF hxe;rw [hkid] at S;clear hkid;go_enter func42,ntmps42;go_upto_region 2 with (first
  | ((with_reducible refine wpList_load_mid (cs:=zAD x) ?_ 30 (.tmp 13) ?_ (bb) (off+p * 20) ?_ _ ?_ underlying30 ?_ ?_ ?_);rfl;rfl;rfl;exact hx0;rfl;kernel_rfl)
  | ((with_reducible refine wpList_store_mid ?_ 30 (.tmp 5) (.tmp 14) ?_ (w.heap.size) 0 (zAD x).toArray ?_ ?_ ?_ ?_ ?_ ?_);rfl;rfl;rfl;rfl;exact tZ;kernel_rfl;exact zAc _))
 generalize (w.alloc (.cells zN0 30)).setCells w.heap.size 0 (zAD x).toArray.toList=W0 at *;have S0:=S W0 (HR.out.below hB0);clear tZ hx0 S;go_wp2_with fail
 refine S0.mono ?_;rintro e w1 ⟨v1,rfl,own1,hb1⟩;obtain ⟨av1,cap1,rfl,hr1⟩:=own1.form;have hB1:=zAA hB0 hb1;have pN1:=AtL.below hb1 pN;clear S0 pN hB0 hb1 own1;have n0:w1.cell? ⟨w.heap.size,0,none⟩=some (.int .i64 5):=by rw [<-hk];exact pN1.2.1 0 _ rfl
 have rN:=AtL.range pN1;obtain ⟨kb,ko,rfl,c0,c1⟩:=zSZ hr1;clear hr1;go_wp2_with ((with_reducible refine wpList_load_mid (cs:=zAD x) ?_ 30 (.tmp 5) ?_ (w.heap.size) 0 ?_ _ ?_ underlying30 ?_ ?_ ?_);rfl;rfl;rfl;exact rN;rfl;kernel_rfl)
 refine (BI _).mono ?_;rintro e w2 ⟨rfl,hb2⟩;have hB:=zAA hB1 hb2;have n7:=(AtL.below hb2 pN1).2.1 7 _ rfl;have hS:w2.cell? ⟨w.heap.size,7,none⟩=some (.int .i64 x.op)/\w2.cell? ⟨kb,ko,none⟩=some (.int .i64 (q:Int))/\w2.cell? ⟨kb,ko+1,none⟩=some (.int .i64 (q2:Int)):=⟨n7,zBF c0 hb2,zBF c1 hb2⟩
 have lx:¬ 9223372036854775807<u.size+m.size:=by omega
 have ly:¬ 9223372036854775807<u.size+m.size+v.size:=by omega
 clear c0 c1 n7 n0 rN pN1 BI hB1 hb2;generalize x.op=xo at *;go_wp2_with fail
 go_region_held3 (λW=>W.cell? ⟨w.heap.size,7,none⟩=some (.int .i64 xo)/\W.cell? ⟨kb,ko,none⟩=some (.int .i64 (q:Int))/\W.cell? ⟨kb,ko+1,none⟩=some (.int .i64 (q2:Int)))
  (with_reducible first | exact hS | assumption | exact zDI (Below.refl _ _).drew hS | exact zDI hb (by assumption))
  (first
  | (go_at_call 68;refine (SG _).mono ?_;rintro e w4 ⟨rfl,hb⟩;(with_reducible first | replace hB:=zAA hB.drew hb | replace hB:=zAA hB hb))
  | (go_at_call_of 67 (Value.int IntKind.i64 (q:Int));refine (P _ (HR.out.below (by with_reducible first | exact hB | exact hB.drew))).mono ?_;rintro e w4 ⟨rfl,hb⟩;(with_reducible first | replace hB:=zAA hB.drew hb | replace hB:=zAA hB hb))
  | (go_at_call_of 67 (Value.int IntKind.i64 (q2:Int));refine (P2 _ (HR.out.below (by with_reducible first | exact hB | exact hB.drew))).mono ?_;rintro e w4 ⟨rfl,hb⟩;(with_reducible first | replace hB:=zAA hB.drew hb | replace hB:=zAA hB hb)))
 all_goals
  go_wp2;go_ret;refine ⟨congrArg (λx=>Ending.returned (Value.string x)) ?_,hB⟩;rw [HU.out,HV.out,zE0 m];simp only [zBf]
theorem zON (bb off cap:Nat) (L:List Wt.Nd) (p:Nat) (x:Wt.Nd) (w:World) (hF:∀ y ∈ L,Wt.FitN y) (hr:RdN w (some ⟨bb,off,none⟩) L) (hp:p<L.length) (hxe:L[p]=x) (hc:Wt.check L=0) (hk:x.k=6) (f:Nat) (ks:List Nat) (hkid:zF2 L p=ks) (hn:ks.length<=30) (hnm:(x.nm.size:Int)<=16) (hl:∀ q ∈ ks,(pr f 0 (L.drop q)).1.length<=256000) (T:∀ q ∈ ks,∀ w:World,RdN w (some ⟨bb,off,none⟩) L->CR 42 #[.slice (some ⟨bb,off,none⟩) L.length cap,.int .i64 (q:Nat)] w (.string ⟨(pr f 0 (L.drop q)).1.toArray⟩)) :
  CR 42 #[.slice (some ⟨bb,off,none⟩) L.length cap,.int .i64 p] w (.string ⟨(x.nm.data.toList++[40]++zBe f L true ks++[41]).toArray⟩):=by
 have HT:Hid (∀ (j:Nat) (hj:j<ks.length) (w:World),RdN w (some ⟨bb,off,none⟩) L->∃ u:ByteArray,(u.size:Int)<=256000/\zBe f L true (ks.take (j+1))=zBe f L true (ks.take j)++(if j=0 then [] else [44])++u.data.toList/\CR 42 #[.slice (some ⟨bb,off,none⟩) L.length cap,.int .i64 (ks[j]:Nat)] w (.string u)):=by
  intro j hj w hr;refine ⟨_,?_,?_,T _ (List.getElem_mem hj) w hr⟩
  ·show (((pr f 0 (L.drop ks[j])).1.toArray.size:Nat):Int)<=256000
   have:=hl _ (List.getElem_mem hj);simp;omega
  ·rw [List.take_succ_eq_append_getElem hj,zI5];simp only [Bool.true_and];congr 2
   cases j with
   | zero=>simp
   | succ j =>
    have:(ks.take (j+1)).isEmpty=false:=by
     cases ks with
     | nil=>simp at hj
     | cons a r=>rfl
    rw [this];simp
 have HR:Hid (RdN w (some ⟨bb,off,none⟩) L):=hr;have hx0:=hr.at p hp;have S:=λw hr=>zAa (some ⟨bb,off,none⟩) cap L p w hF hr hp hc
 rw [hxe] at hx0;obtain ⟨tZ,pN,hB0⟩:=rbx w x;have hpi:(p:Int)<(L.length:Int):=by omega
 clear hl T hr hc hF hxe;rw [hkid] at S;clear hkid;go_enter func42,ntmps42;go_upto_region 2 with (first
  | ((with_reducible refine wpList_load_mid (cs:=zAD x) ?_ 30 (.tmp 13) ?_ (bb) (off+p * 20) ?_ _ ?_ underlying30 ?_ ?_ ?_);rfl;rfl;rfl;exact hx0;rfl;kernel_rfl)
  | ((with_reducible refine wpList_store_mid ?_ 30 (.tmp 5) (.tmp 14) ?_ (w.heap.size) 0 (zAD x).toArray ?_ ?_ ?_ ?_ ?_ ?_);rfl;rfl;rfl;rfl;exact tZ;kernel_rfl;exact zAc _))
 generalize (w.alloc (.cells zN0 30)).setCells w.heap.size 0 (zAD x).toArray.toList=W0 at *;have S0:=S W0 (HR.out.below hB0);clear tZ hx0 S;go_wp2_with fail
 refine S0.mono ?_;rintro e w1 ⟨v1,rfl,own1,hb1⟩;obtain ⟨av1,cap1,rfl,hr1⟩:=own1.form;have hB1:=zAA hB0 hb1;have pN1:=AtL.below hb1 pN;clear S0 pN hB0 hb1 own1;have n0:w1.cell? ⟨w.heap.size,0,none⟩=some (.int .i64 6):=by rw [<-hk];exact pN1.2.1 0 _ rfl
 have n8:=pN1.2.1 8 _ rfl;have HI:Hid (RdI w1 av1 ks):=hr1;have HJ0:Hid (x.nm++⟨#[40]⟩=⟨(x.nm.data.toList++[40]++zBe f L true (ks.take 0)).toArray⟩):=by
  show _=_
  rw [List.take_zero];simp only [zBe,List.append_nil];exact zP7 x.nm
 have s0:((x.nm++⟨#[40]⟩:ByteArray).size:Int)<=17+0 * 256001:=by
  rw [ByteArray.size_append];show ((x.nm.size+1:Nat):Int)<=_;omega
 clear hr1 pN1;go_wp2_with fail
 obtain ⟨u0,hu0⟩:∃ u0,x.nm++⟨#[40]⟩=u0:=⟨_,rfl⟩
 rw [hu0] at HJ0 s0 ⊢;clear hu0 n0 n8;go_loopg [9,10] (ks.length) (λgk a b wr=>∃ (j:Nat) (u:ByteArray),b=.int .i64 j/\a=.string u/\gk=ks.length - j/\j<=ks.length/\Hid (u=⟨(x.nm.data.toList++[40]++zBe f L true (ks.take j)).toArray⟩)/\(u.size:Int)<=17+j * 256001/\Below w1.heap.size w1 wr)
 case atStart=>exact ⟨0,u0,rfl,rfl,rfl,Nat.zero_le _,HJ0,s0,Below.refl _ _⟩
 case round =>
  clear HJ0 s0;obtain ⟨j,u,rfl,rfl,hg,hj,HJ,hs,hb⟩:=hrel;by_cases hlt:j<ks.length
  ·have hli:(j:Int)<(ks.length:Int):=by omega
   have hBj:=zAA hB1 hb;obtain ⟨t,ht,HE,CT⟩:=HT.out j hlt wr (HR.out.below hBj);have HE':Hid (zBe f L true (ks.take (j+1))=zBe f L true (ks.take j)++(if j=0 then [] else [44])++t.data.toList):=HE;obtain ⟨kb,ko,rfl,ck⟩:=HI.out j hlt;have ck1:=zBF ck hb;clear ck HE HT;generalize ks[j]=q at *;by_cases hj0:j=0
   ·subst hj0;rw [Nat.add_zero] at ck1;have HF:Hid (u++t=⟨(x.nm.data.toList++[40]++zBe f L true (ks.take (0+1))).toArray⟩):=by
     show _=_
     rw [HE'.out,HJ.out,zE0 t,zBf];simp
    have hs2:((u++t:ByteArray).size:Int)<=17+((0+1:Nat):Int) * 256001:=by rw [ByteArray.size_append];omega
    clear HJ HE';go_wp2_with fail
    refine CT.mono ?_;rintro e w2 ⟨rfl,hb2⟩;have hb3:=zAA hb hb2;go_wp2_with fail
    go_roundg (ks.length - (0+1))
    case rel=>exact ⟨0+1,_,rfl,rfl,rfl,hlt,HF,hs2,hb3⟩
    case measure=>omega
   ·have hjp:(0:Int)<(j:Int):=by omega
    have hsz:(u.size:Int)<=8000000:=by omega
    have HF:Hid (u++⟨#[44]⟩++t=⟨(x.nm.data.toList++[40]++zBe f L true (ks.take (j+1))).toArray⟩):=by
     show _=_
     rw [HE'.out,HJ.out,zE0 t,show (⟨#[44]⟩:ByteArray)=⟨[44].toArray⟩ from rfl];simp only [zBf];simp [hj0]
    have hs2:((u++⟨#[44]⟩++t:ByteArray).size:Int)<=17+((j+1:Nat):Int) * 256001:=by
     rw [ByteArray.size_append,ByteArray.size_append];show ((u.size+1+t.size:Nat):Int)<=_;omega
    clear HJ HE' hj0;go_wp2_with fail
    refine CT.mono ?_;rintro e w2 ⟨rfl,hb2⟩;have hb3:=zAA hb hb2;go_wp2_with fail
    go_roundg (ks.length - (j+1))
    case rel=>exact ⟨j+1,_,by simp,rfl,rfl,hlt,HF,hs2,hb3⟩
    case measure=>omega
  ·have hli:¬ (j:Int)<(ks.length:Int):=by omega
   have hBj:=zAA hB1 hb;have hsz:(u.size:Int)<=8000000:=by omega
   have HF:Hid (u++⟨#[41]⟩=⟨(x.nm.data.toList++[40]++zBe f L true ks++[41]).toArray⟩):=by
    show _=_
    rw [HJ.out,show (⟨#[41]⟩:ByteArray)=⟨[41].toArray⟩ from rfl,zBf,List.take_of_length_le (by omega)]
   clear HJ HT;go_wp2;go_ret;refine ⟨congrArg (λx=>Ending.returned (Value.string x)) (HF.out.trans ?_),hBj⟩;simp
theorem zHE (x:Wt.Nd):(((⟨(mrk x).toArray⟩:ByteArray).size:Nat):Int)<=2:=by
 have:=zGN x;show (((mrk x).toArray.size:Nat):Int)<=2
 simp;omega
theorem zHW {s:ByteArray} (h:s.toList.isEmpty=true):s=⟨#[]⟩:=by
 have:s.toList=[]:=by simpa using h
 have e:s.data.toList=[]:=by rw [<-this];simp [ByteArray.toList_eq]
 rw [zE0 s,e]
theorem zNO (f:Nat) (x:Wt.Nd) (r:List Wt.Nd) (h:0<=tgh x):(pr (f+1) 0 (x::r)).1=(prN (pr f) x r).1:=by
 show (if (0:Int)<=tgh x then prN (pr f) x r else _).1=_
 rw [if_pos h]
theorem zHx (av:Option Addr) (cap:Nat) (L:List Wt.Nd) (hF:∀ y ∈ L,Wt.FitN y) (hc:Wt.check L=0) (f:Nat) (T:TX av cap L f):TX av cap L (f+1):=by
 intro p s d w h hr;have hp:=zMv h;have hx:=zCR hc p hp;obtain ⟨bb,off,rfl,-⟩:=hr p hp;have P:=zJu (some ⟨bb,off,none⟩) cap L hc f T;have hd:=List.drop_eq_getElem_cons hp;have h256:=(zA8 hc).1;have hfx:=hF _ (List.getElem_mem hp);have hlen:∀ (q s d:Nat) (least:Int),Wt.one f (L.drop q)=some (s,d)->(pr f least (L.drop q)).1.length<=256000:=λq s d least hq=>zNC hq least (by rw [List.length_drop];omega)
 rw [hd] at h ⊢;rw [zNO _ _ _ (zGV hx).1];obtain ⟨-,a,b,hm,rfl,rfl⟩:=zE6 h;have hal:=zJj (zD4 f) _ _ _ _ hm;rw [List.length_drop] at hal;have hK:=zBv hx;have hks:=λn (hn:(Wt.parts L[p]).toNat=n)=>zGX (f:=f) (a:=a) (b:=b) hp hn (by rw [<-hn];exact hm) (by omega)
 unfold prN;rcases hK with ⟨k1,hv,-⟩ | ⟨k2,ha,-⟩ | ⟨k3,ha,hb,hbs,-⟩ | ⟨k4,hop,-⟩ | ⟨k5,hop,-⟩ | ⟨k6,hnm,ha0,ha30,-⟩
 ·have h7:tgh L[p]=7:=by rcases zBD hx with h | h | h <;> first | exact h.2.2 | omega
  rw [if_pos h7];unfold prS;rw [if_pos k1];by_cases h2:(L[p]).v.k=2
  ·exact zLh bb off cap L p _ w hF hr hp rfl hc k1 hv h2
  ·exact zLj bb off cap L p _ w hF hr hp rfl hc k1 hv hfx.1 h2
 ·have h7:tgh L[p]=7:=by rcases zBD hx with h | h | h <;> first | exact h.2.2 | omega
  rw [if_pos h7];unfold prS;rw [if_neg (by omega),if_pos k2];by_cases h2:(L[p]).a.s=⟨#[]⟩
  ·exact zMj bb off cap L p _ w hF hr hp rfl hc k2 ha h2
  ·exact zLL bb off cap L p _ w hF hr hp rfl hc k2 ha h2
 ·have h7:tgh L[p]=7:=by rcases zBD hx with h | h | h <;> first | exact h.2.2 | omega
  rw [if_pos h7];unfold prS;rw [if_neg (by omega),if_neg (by omega),if_pos k3];by_cases h2:(L[p]).a.s=⟨#[]⟩
  ·exact zML bb off cap L p _ w hF hr hp rfl hc k3 ha h2 hb (zHW hbs)
  ·exact zKx bb off cap L p _ w hF hr hp rfl hc k3 ha h2 hb (zHW hbs)
 ·have hpn:(Wt.parts L[p]).toNat=1:=by unfold Wt.parts;rw [if_pos k4];rfl
  have ho:=zEn (by rw [<-hpn];exact hm);have hk1:=hks 1 hpn;simp only [zAy,ho] at hk1;obtain ⟨j,hj⟩:=zIp hx (Or.inl k4);have hun:(L[p]).op=1 \/ (L[p]).op=2 \/ (L[p]).op=3:=by rcases zBD hx with h | h | h <;> first | omega | exact h.2
  by_cases h3:(L[p]).op=3
  ·have e6:tgh L[p]=6:=by unfold tgh;rw [h3];decide
   have em:mrk L[p]=[37]:=by unfold mrk;rw [h3];decide
   rw [if_neg (by omega),if_neg (by omega),if_pos e6,em];exact zKz bb off cap L p _ w hF hr hp rfl hc k4 h3 (p+1) _ hk1 (hlen _ _ _ _ ho) (λw hr=>P (p+1) a b 6 w ho (by omega) (by omega) hr)
  ·have e5:tgh L[p]=5:=by
    rcases hun with h | h | h
    ·unfold tgh;rw [h];decide
    ·unfold tgh;rw [h];decide
    ·exact absurd h h3
   rw [if_neg (by omega),if_pos e5];exact zMk bb off cap L p _ w hF hr hp rfl hc k4 h3 (p+1) _ hk1 (hlen _ _ _ _ ho) ⟨(mrk L[p]).toArray⟩ (zHE _) (λw=>zFJ _ _ j hj w) (λw hr=>P (p+1) a b 5 w ho (by omega) (by omega) hr)
 ·have hpn:(Wt.parts L[p]).toNat=2:=by unfold Wt.parts;rw [if_neg (by omega),if_pos k5];rfl
  obtain ⟨a1,b1,a2,b2,o1,o2,-,-⟩:=zFC (by rw [<-hpn];exact hm);have hk1:=hks 2 hpn;have hpo:=λl=>(zDn f _ _ _ o1 l).1
  rw [List.drop_drop] at o2;simp only [List.drop_drop] at hpo;simp only [zAy,o1,List.drop_drop,o2] at hk1;obtain ⟨j,hj⟩:=zIp hx (Or.inr k5);have ht:0<=tgh L[p]/\tgh L[p] < 5:=by
   rcases zBD hx with h | h | h
   ·exact absurd k5 h.2.1
   ·omega
   ·rcases h.2 with h | h | h | h | h | h | h | h | h | h | h | h <;> (unfold tgh;rw [h];decide)
  rw [if_neg (by omega),if_neg (by omega),if_neg (by omega)];simp only [hpo];exact zNr bb off cap L p _ w hF hr hp rfl hc k5 hx (p+1) (p+1+a1) _ _ hk1 (hlen _ _ _ _ o1) (hlen _ _ _ _ o2) ⟨(mrk L[p]).toArray⟩ (zHE _) (λw=>zFJ _ _ j hj w) (λw hr=>P (p+1) a1 b1 (tgh L[p]) w o1 (by omega) (by omega) hr) (λw hr=>P (p+1+a1) a2 b2 (tgh L[p]+1) w o2 (by omega) (by omega) hr)
 ·have h7:tgh L[p]=7:=by rcases zBD hx with h | h | h <;> first | exact h.2.2 | omega
  rw [if_pos h7];unfold prS;rw [if_neg (by omega),if_neg (by omega),if_neg (by omega)];have hpa:=zCp k6;rw [hpa] at hm;have hks':=hks _ rfl;rw [hpa] at hks';rw [zMX L f _ true (p+1) a b hm,<-hks'];obtain ⟨i1,i2⟩:=zGM f _ _ _ _ _ hm;rw [<-hks'] at i1 i2;exact zON bb off cap L p _ w hF hr hp rfl hc k6 f _ rfl (by omega) (by have:=(zBo hnm).2;rw [Array.length_toList] at this;show (((L[p]).nm.data.size:Nat):Int)<=16;omega)
   (λq hq=>by obtain ⟨s,d,ho⟩:=i2 q hq;exact hlen _ _ _ _ ho) (λq hq w hr=>by obtain ⟨s,d,ho⟩:=i2 q hq;exact T q s d w ho hr)
theorem zHu (av:Option Addr) (cap:Nat) (L:List Wt.Nd) (hF:∀ y ∈ L,Wt.FitN y) (hc:Wt.check L=0):∀ f,TX av cap L f:=by
 intro f;induction f with
 | zero=>intro p s d w h hr;cases h
 | succ f ih=>exact zHx av cap L hF hc f ih
theorem zIG (av:Option Addr) (cap:Nat) (L:List Wt.Nd) (w:World) (hL:L.length<=9223372036854775807) (hF:∀ x ∈ L,Wt.FitN x) (hr:RdN w av L) :
  CR 23 #[.slice av L.length cap] w (.tuple #[.string ⟨(zIO L).toArray⟩,.int .i64 (Wt.check L)]):=by
 have CK:=zCt av cap L w hL hF hr;unfold zIO;by_cases hc:Wt.check L=0
 ·rw [if_pos hc];obtain ⟨h256,d,ho,-⟩:=zA8 hc;have T:=λw hr=>zHu av cap L hF hc (L.length+1) 0 L.length d w ho hr
  rw [hc] at CK ⊢;rw [List.drop_zero] at T;have HR:Hid (RdN w av L):=hr;generalize (pr (L.length+1) 0 L).1=lt at *;clear hr ho h256;go_enter func23,ntmps23;go_wp2_with fail
  refine CK.mono ?_;rintro e w1 ⟨rfl,hb⟩;have T1:=T w1 (HR.out.below hb);go_wp2_with fail
  refine T1.mono ?_;rintro e w2 ⟨rfl,hb2⟩;have hB:=zAA hb hb2;go_wp2;go_ret2
  exact ⟨rfl,hB⟩
 ·rw [if_neg hc];generalize Wt.check L=c at *;have hci:(c != 0)=true:=by simp [hc]
  go_enter func23,ntmps23;go_wp2_with fail
  refine CK.mono ?_;rintro e w1 ⟨rfl,hb⟩;go_wp2;go_ret2
  exact ⟨rfl,hb⟩
