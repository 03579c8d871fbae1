/- TRefM, TRefN, MRefC, MWalkE. -/
import Derived.Test.YtdghjlmnlodnlaaGreatDoorQ45
set_option maxHeartbeats 4000000
set_option maxRecDepth 100000
namespace Go.Proofs.YtdghjlmnlodnlaaGreatDoor
open Go.RowKit Go.Shelf Tryz
set_option linter.unusedVariables false
variable {w w':World} {av:Option Addr} {k o q k2 o2:Nat} {v v2:Value} {r:List Nat}
theorem zSh (h:RdI w av (q::r)):∃ kb ko,av=some ⟨kb,ko,none⟩/\w.cell? ⟨kb,ko,none⟩=some (.int .i64 (q:Int)):=h 0 (by simp)
theorem zSq {s:Nat} (h:RdI w av (q::s::r)):∃ kb ko,av=some ⟨kb,ko,none⟩/\w.cell? ⟨kb,ko,none⟩=some (.int .i64 (q:Int))/\w.cell? ⟨kb,ko+1,none⟩=some (.int .i64 (s:Int)):=by
 obtain ⟨kb,ko,e,h0⟩:=h 0 (by simp);obtain ⟨kb',ko',e',h1⟩:=h 1 (by simp);rw [e] at e';simp only [Option.some.injEq,Addr.mk.injEq,and_true] at e';obtain ⟨rfl,rfl⟩:=e';exact ⟨kb,ko,e,h0,h1⟩
theorem zBH (h:w.cell? ⟨k,o,none⟩=some v) (hb:Below w.heap.size w w'):w'.cell? ⟨k,o,none⟩=some v:=by
 have hlt:k<w.heap.size:=by
  unfold World.cell? at h;cases hk:w.heap[k]? with
  | none=>simp [hk] at h
  | some o=>exact (Array.getElem?_eq_some_iff.1 hk).1
 rw [World.cell?_of_block (hb.block k hlt)];exact h
theorem zGE (hb:Below w.heap.size w w') (h:w.cell? ⟨k,o,none⟩=some v/\w.cell? ⟨k2,o2,none⟩=some v2):w'.cell? ⟨k,o,none⟩=some v/\w'.cell? ⟨k2,o2,none⟩=some v2:=⟨zBH h.1 hb,zBH h.2 hb⟩
theorem zDL {k3 o3:Nat} {v3:Value} (hb:Below w.heap.size w w') (h:w.cell? ⟨k,o,none⟩=some v/\w.cell? ⟨k2,o2,none⟩=some v2/\w.cell? ⟨k3,o3,none⟩=some v3):w'.cell? ⟨k,o,none⟩=some v/\w'.cell? ⟨k2,o2,none⟩=some v2/\w'.cell? ⟨k3,o3,none⟩=some v3:=⟨zBH h.1 hb,zBH h.2.1 hb,zBH h.2.2 hb⟩
theorem zMc (bb off cap:Nat) (L:List Wt.Nd) (p:Nat) (x:Wt.Nd) (w:World) (hF:∀ y ∈ L,Wt.FitN y) (hr:RdN w (some ⟨bb,off,none⟩) L) (hp:p<L.length) (hxe:L[p]=x) (hc:Wt.check L=0) (hk:x.k=4) (hop:x.op=3) (q:Nat) (lt:List UInt8) (hkid:zFK L p=[q]) (hlt:lt.length<=256000) (P:∀ w:World,RdN w (some ⟨bb,off,none⟩) L->CR 67 #[.slice (some ⟨bb,off,none⟩) L.length cap,.int .i64 q,.int .i64 7] w (.string ⟨lt.toArray⟩)) :
  CR 42 #[.slice (some ⟨bb,off,none⟩) L.length cap,.int .i64 p] w (.string ⟨(lt++[37]).toArray⟩):=by
 obtain ⟨u,hu⟩:∃ u:ByteArray,(⟨lt.toArray⟩:ByteArray)=u:=⟨_,rfl⟩
 have us:(u.size:Int)<=256000:=by rw [<-hu];show ((lt.toArray.size:Nat):Int)<=256000;simp;omega
 have HU:Hid (u=⟨lt.toArray⟩):=hu.symm;rw [hu] at P;clear hu;have HR:Hid (RdN w (some ⟨bb,off,none⟩) L):=hr;have hx0:=hr.at p hp;have S:=λw hr=>zAc (some ⟨bb,off,none⟩) cap L p w hF hr hp hc
 rw [hxe] at hx0;have pZ:AtL (w.alloc (.cells zN0 30)) w.heap.size (zAE ⟨0,Wt.v0,0,⟨#[]⟩,0,Wt.r0,Wt.r0⟩):=AtL.new0 w _ _;have tZ:(w.alloc (.cells zN0 30)).there w.heap.size 0 (zAE x).toArray.size:=pZ.there;have pN:AtL ((w.alloc (.cells zN0 30)).setCells w.heap.size 0 (zAE x)) w.heap.size (zAE x):=pZ.setAll rfl;have hB0:Below w.heap.size w ((w.alloc (.cells zN0 30)).setCells w.heap.size 0 (zAE x)):=zAg (zAI (Below.refl _ w) _) (Nat.le_refl _) _ 0;have hpi:(p:Int)<(L.length:Int):=by omega
 clear pZ hlt hr hc hF hxe;rw [hkid] at S;clear hkid;go_enter func42,ntmps42;go_upto_region 2 with (first
  | ((with_reducible refine wpList_load_mid (cs:=zAE x) ?_ 30 (.tmp 13) ?_ (bb) (off+p * 20) ?_ _ ?_ underlying30 ?_ ?_ ?_);rfl;rfl;rfl;exact hx0;rfl;kernel_rfl)
  | ((with_reducible refine wpList_store_mid ?_ 30 (.tmp 5) (.tmp 14) ?_ (w.heap.size) 0 (zAE x).toArray ?_ ?_ ?_ ?_ ?_ ?_);rfl;rfl;rfl;rfl;exact tZ;kernel_rfl;exact zA4 _))
 generalize (w.alloc (.cells zN0 30)).setCells w.heap.size 0 (zAE x).toArray.toList=W0 at *;have S0:=S W0 (HR.out.below hB0);clear tZ hx0 S;go_wp2_with fail
 refine S0.mono ?_;rintro e w1 ⟨v1,rfl,own1,hb1⟩;obtain ⟨av1,cap1,rfl,hr1⟩:=own1.form;have hB1:=zAA hB0 hb1;have pN1:=AtL.below hb1 pN;clear S0 pN hB0 hb1 own1;have n0:w1.cell? ⟨w.heap.size,0,none⟩=some (.int .i64 4):=by rw [<-hk];exact pN1.2.1 0 _ rfl
 have n7:w1.cell? ⟨w.heap.size,7,none⟩=some (.int .i64 3):=by rw [<-hop];exact pN1.2.1 7 _ rfl
 obtain ⟨kb,ko,rfl,c0⟩:=zSh hr1;have P1:=P w1 (HR.out.below hB1);clear P;go_wp2_with fail
 refine P1.mono ?_;rintro e w2 ⟨rfl,hb2⟩;have hB2:=zAA hB1 hb2;go_wp2;go_ret;refine ⟨congrArg (λx=>Ending.returned (Value.string x)) ?_,hB2⟩;rw [HU.out,show (⟨#[37]⟩:ByteArray)=⟨[37].toArray⟩ from rfl,zBg]
theorem zMN (bb off cap:Nat) (L:List Wt.Nd) (p:Nat) (x:Wt.Nd) (w:World) (hF:∀ y ∈ L,Wt.FitN y) (hr:RdN w (some ⟨bb,off,none⟩) L) (hp:p<L.length) (hxe:L[p]=x) (hc:Wt.check L=0) (hk:x.k=4) (hop:¬ x.op=3) (q:Nat) (lt:List UInt8) (hkid:zFK L p=[q]) (hlt:lt.length<=256000) (m:ByteArray) (hm:(m.size:Int)<=2) (SG:∀ w:World,CR 68 #[.int .i64 x.op] w (.string m)) (P:∀ w:World,RdN w (some ⟨bb,off,none⟩) L->CR 67 #[.slice (some ⟨bb,off,none⟩) L.length cap,.int .i64 q,.int .i64 6] w (.string ⟨lt.toArray⟩)) :
  CR 42 #[.slice (some ⟨bb,off,none⟩) L.length cap,.int .i64 p] w (.string ⟨(m.data.toList++lt).toArray⟩):=by
 obtain ⟨u,hu⟩:∃ u:ByteArray,(⟨lt.toArray⟩:ByteArray)=u:=⟨_,rfl⟩
 have us:(u.size:Int)<=256000:=by rw [<-hu];show ((lt.toArray.size:Nat):Int)<=256000;simp;omega
 have HU:Hid (u=⟨lt.toArray⟩):=hu.symm;rw [hu] at P;clear hu;have HR:Hid (RdN w (some ⟨bb,off,none⟩) L):=hr;have hx0:=hr.at p hp;have S:=λw hr=>zAc (some ⟨bb,off,none⟩) cap L p w hF hr hp hc
 rw [hxe] at hx0;have pZ:AtL (w.alloc (.cells zN0 30)) w.heap.size (zAE ⟨0,Wt.v0,0,⟨#[]⟩,0,Wt.r0,Wt.r0⟩):=AtL.new0 w _ _;have tZ:(w.alloc (.cells zN0 30)).there w.heap.size 0 (zAE x).toArray.size:=pZ.there;have pN:AtL ((w.alloc (.cells zN0 30)).setCells w.heap.size 0 (zAE x)) w.heap.size (zAE x):=pZ.setAll rfl;have hB0:Below w.heap.size w ((w.alloc (.cells zN0 30)).setCells w.heap.size 0 (zAE x)):=zAg (zAI (Below.refl _ w) _) (Nat.le_refl _) _ 0;have hpi:(p:Int)<(L.length:Int):=by omega
 clear pZ hlt hr hc hF hxe;rw [hkid] at S;clear hkid;go_enter func42,ntmps42;go_upto_region 2 with (first
  | ((with_reducible refine wpList_load_mid (cs:=zAE x) ?_ 30 (.tmp 13) ?_ (bb) (off+p * 20) ?_ _ ?_ underlying30 ?_ ?_ ?_);rfl;rfl;rfl;exact hx0;rfl;kernel_rfl)
  | ((with_reducible refine wpList_store_mid ?_ 30 (.tmp 5) (.tmp 14) ?_ (w.heap.size) 0 (zAE x).toArray ?_ ?_ ?_ ?_ ?_ ?_);rfl;rfl;rfl;rfl;exact tZ;kernel_rfl;exact zA4 _))
 generalize (w.alloc (.cells zN0 30)).setCells w.heap.size 0 (zAE x).toArray.toList=W0 at *;have S0:=S W0 (HR.out.below hB0);clear tZ hx0 S;go_wp2_with fail
 refine S0.mono ?_;rintro e w1 ⟨v1,rfl,own1,hb1⟩;obtain ⟨av1,cap1,rfl,hr1⟩:=own1.form;have hB1:=zAA hB0 hb1;have pN1:=AtL.below hb1 pN;clear S0 pN hB0 hb1 own1;have n0:w1.cell? ⟨w.heap.size,0,none⟩=some (.int .i64 4):=by rw [<-hk];exact pN1.2.1 0 _ rfl
 have n7:=pN1.2.1 7 _ rfl;have hopb:(x.op == 3)=false:=by simp [hop]
 have lx:¬ 9223372036854775807<m.size+u.size:=by omega
 generalize x.op=xo at *;obtain ⟨kb,ko,rfl,c0⟩:=zSh hr1;have hS:w1.cell? ⟨w.heap.size,7,none⟩=some (.int .i64 xo)/\w1.cell? ⟨kb,ko,none⟩=some (.int .i64 (q:Int)):=⟨n7,c0⟩
 clear c0 pN1 hr1;have hB:=hB1;clear hB1;go_wp2_with fail
 clear n0 n7;go_region_held3 (λW=>W.cell? ⟨w.heap.size,7,none⟩=some (.int .i64 xo)/\W.cell? ⟨kb,ko,none⟩=some (.int .i64 (q:Int)))
  (with_reducible first | exact hS | assumption | exact zGE (Below.refl _ _).drew hS | exact zGE hb (by assumption))
  (first
  | (go_at_call 68;refine (SG _).mono ?_;rintro e w4 ⟨rfl,hb⟩;(with_reducible first | replace hB:=zAA hB.drew hb | replace hB:=zAA hB hb))
  | (go_at_call 67;refine (P _ (HR.out.below (by with_reducible first | exact hB | exact hB.drew))).mono ?_;rintro e w4 ⟨rfl,hb⟩;(with_reducible first | replace hB:=zAA hB.drew hb | replace hB:=zAA hB hb)))
 all_goals
  go_wp2;go_ret;refine ⟨congrArg (λx=>Ending.returned (Value.string x)) ?_,hB⟩;rw [HU.out,zEg m,zBg]
theorem zO9 (bb off cap:Nat) (L:List Wt.Nd) (p:Nat) (x:Wt.Nd) (w:World) (hF:∀ y ∈ L,Wt.FitN y) (hr:RdN w (some ⟨bb,off,none⟩) L) (hp:p<L.length) (hxe:L[p]=x) (hc:Wt.check L=0) (hk:x.k=5) (hrx:Wt.right x=true) (q q2:Nat) (l1 l2:List UInt8) (hkid:zFK L p=[q,q2]) (h1:l1.length<=256000) (h2:l2.length<=256000) (m:ByteArray) (hm:(m.size:Int)<=2) (SG:∀ w:World,CR 68 #[.int .i64 x.op] w (.string m)) (P:∀ w:World,RdN w (some ⟨bb,off,none⟩) L->CR 67 #[.slice (some ⟨bb,off,none⟩) L.length cap,.int .i64 q,.int .i64 (tgh x+1)] w (.string ⟨l1.toArray⟩)) (P2:∀ w:World,RdN w (some ⟨bb,off,none⟩) L->CR 67 #[.slice (some ⟨bb,off,none⟩) L.length cap,.int .i64 q2,.int .i64 (tgh x+1+1)] w (.string ⟨l2.toArray⟩)) :
  CR 42 #[.slice (some ⟨bb,off,none⟩) L.length cap,.int .i64 p] w (.string ⟨(l1++m.data.toList++l2).toArray⟩):=by
 obtain ⟨u,hu⟩:∃ u:ByteArray,(⟨l1.toArray⟩:ByteArray)=u:=⟨_,rfl⟩
 have us:(u.size:Int)<=256000:=by rw [<-hu];show ((l1.toArray.size:Nat):Int)<=256000;simp;omega
 have HU:Hid (u=⟨l1.toArray⟩):=hu.symm;rw [hu] at P;clear hu;obtain ⟨v,hv⟩:∃ u:ByteArray,(⟨l2.toArray⟩:ByteArray)=u:=⟨_,rfl⟩
 have vs:(v.size:Int)<=256000:=by rw [<-hv];show ((l2.toArray.size:Nat):Int)<=256000;simp;omega
 have HV:Hid (v=⟨l2.toArray⟩):=hv.symm;rw [hv] at P2;clear hv;have BI:=λw=>zEY x w hrx
 have ht:=zGt hrx;have hw:IntKind.i64.wrap (tgh x+1+1)=tgh x+1+1:=IntWalk.i64_in _ (by omega);generalize tgh x+1=tb at *;obtain ⟨tc,htc⟩:∃ tc,tb+1=tc:=⟨_,rfl⟩
 rw [htc] at P2 hw;have hw2:IntKind.i64.wrap (tb+1)=tc:=by rw [htc];exact hw
 clear htc ht hw hrx;have HR:Hid (RdN w (some ⟨bb,off,none⟩) L):=hr;have hx0:=hr.at p hp;have S:=λw hr=>zAc (some ⟨bb,off,none⟩) cap L p w hF hr hp hc
 rw [hxe] at hx0;have pZ:AtL (w.alloc (.cells zN0 30)) w.heap.size (zAE ⟨0,Wt.v0,0,⟨#[]⟩,0,Wt.r0,Wt.r0⟩):=AtL.new0 w _ _;have tZ:(w.alloc (.cells zN0 30)).there w.heap.size 0 (zAE x).toArray.size:=pZ.there;have pN:AtL ((w.alloc (.cells zN0 30)).setCells w.heap.size 0 (zAE x)) w.heap.size (zAE x):=pZ.setAll rfl;have hB0:Below w.heap.size w ((w.alloc (.cells zN0 30)).setCells w.heap.size 0 (zAE x)):=zAg (zAI (Below.refl _ w) _) (Nat.le_refl _) _ 0;have hpi:(p:Int)<(L.length:Int):=by omega
 clear pZ h1 h2 hr hc hF hxe;rw [hkid] at S;clear hkid;go_enter func42,ntmps42;go_upto_region 2 with (first
  | ((with_reducible refine wpList_load_mid (cs:=zAE x) ?_ 30 (.tmp 13) ?_ (bb) (off+p * 20) ?_ _ ?_ underlying30 ?_ ?_ ?_);rfl;rfl;rfl;exact hx0;rfl;kernel_rfl)
  | ((with_reducible refine wpList_store_mid ?_ 30 (.tmp 5) (.tmp 14) ?_ (w.heap.size) 0 (zAE x).toArray ?_ ?_ ?_ ?_ ?_ ?_);rfl;rfl;rfl;rfl;exact tZ;kernel_rfl;exact zA4 _))
 generalize (w.alloc (.cells zN0 30)).setCells w.heap.size 0 (zAE x).toArray.toList=W0 at *;have S0:=S W0 (HR.out.below hB0);clear tZ hx0 S;go_wp2_with fail
 refine S0.mono ?_;rintro e w1 ⟨v1,rfl,own1,hb1⟩;obtain ⟨av1,cap1,rfl,hr1⟩:=own1.form;have hB1:=zAA hB0 hb1;have pN1:=AtL.below hb1 pN;clear S0 pN hB0 hb1 own1;have n0:w1.cell? ⟨w.heap.size,0,none⟩=some (.int .i64 5):=by rw [<-hk];exact pN1.2.1 0 _ rfl
 have rN:=AtL.range pN1;obtain ⟨kb,ko,rfl,c0,c1⟩:=zSq hr1;clear hr1;go_wp2_with ((with_reducible refine wpList_load_mid (cs:=zAE x) ?_ 30 (.tmp 5) ?_ (w.heap.size) 0 ?_ _ ?_ underlying30 ?_ ?_ ?_);rfl;rfl;rfl;exact rN;rfl;kernel_rfl)
 refine (BI _).mono ?_;rintro e w2 ⟨rfl,hb2⟩;have hB:=zAA hB1 hb2;have n7:=(AtL.below hb2 pN1).2.1 7 _ rfl;have hS:w2.cell? ⟨w.heap.size,7,none⟩=some (.int .i64 x.op)/\w2.cell? ⟨kb,ko,none⟩=some (.int .i64 (q:Int))/\w2.cell? ⟨kb,ko+1,none⟩=some (.int .i64 (q2:Int)):=⟨n7,zBH c0 hb2,zBH c1 hb2⟩
 have lx:¬ 9223372036854775807<u.size+m.size:=by omega
 have ly:¬ 9223372036854775807<u.size+m.size+v.size:=by omega
 clear c0 c1 n7 n0 rN pN1 BI hB1 hb2;generalize x.op=xo at *;go_wp2_with fail
 go_region_held3 (λW=>W.cell? ⟨w.heap.size,7,none⟩=some (.int .i64 xo)/\W.cell? ⟨kb,ko,none⟩=some (.int .i64 (q:Int))/\W.cell? ⟨kb,ko+1,none⟩=some (.int .i64 (q2:Int)))
  (with_reducible first | exact hS | assumption | exact zDL (Below.refl _ _).drew hS | exact zDL hb (by assumption))
  (first
  | (go_at_call 68;refine (SG _).mono ?_;rintro e w4 ⟨rfl,hb⟩;(with_reducible first | replace hB:=zAA hB.drew hb | replace hB:=zAA hB hb))
  | (go_at_call_of 67 (Value.int IntKind.i64 (q:Int));refine (P _ (HR.out.below (by with_reducible first | exact hB | exact hB.drew))).mono ?_;rintro e w4 ⟨rfl,hb⟩;(with_reducible first | replace hB:=zAA hB.drew hb | replace hB:=zAA hB hb))
  | (go_at_call_of 67 (Value.int IntKind.i64 (q2:Int));refine (P2 _ (HR.out.below (by with_reducible first | exact hB | exact hB.drew))).mono ?_;rintro e w4 ⟨rfl,hb⟩;(with_reducible first | replace hB:=zAA hB.drew hb | replace hB:=zAA hB hb)))
 all_goals
  go_wp2;go_ret;refine ⟨congrArg (λx=>Ending.returned (Value.string x)) ?_,hB⟩;rw [HU.out,HV.out,zEg m];simp only [zBg]
theorem zOx (bb off cap:Nat) (L:List Wt.Nd) (p:Nat) (x:Wt.Nd) (w:World) (hF:∀ y ∈ L,Wt.FitN y) (hr:RdN w (some ⟨bb,off,none⟩) L) (hp:p<L.length) (hxe:L[p]=x) (hc:Wt.check L=0) (hk:x.k=6) (f:Nat) (ks:List Nat) (hkid:zFK L p=ks) (hn:ks.length<=30) (hnm:(x.nm.size:Int)<=16) (hl:∀ q ∈ ks,(pr f 0 (L.drop q)).1.length<=256000) (T:∀ q ∈ ks,∀ w:World,RdN w (some ⟨bb,off,none⟩) L->CR 42 #[.slice (some ⟨bb,off,none⟩) L.length cap,.int .i64 (q:Nat)] w (.string ⟨(pr f 0 (L.drop q)).1.toArray⟩)) :
  CR 42 #[.slice (some ⟨bb,off,none⟩) L.length cap,.int .i64 p] w (.string ⟨(x.nm.data.toList++[40]++zBj f L true ks++[41]).toArray⟩):=by
 have HT:Hid (∀ (j:Nat) (hj:j<ks.length) (w:World),RdN w (some ⟨bb,off,none⟩) L->∃ u:ByteArray,(u.size:Int)<=256000/\zBj f L true (ks.take (j+1))=zBj f L true (ks.take j)++(if j=0 then [] else [44])++u.data.toList/\CR 42 #[.slice (some ⟨bb,off,none⟩) L.length cap,.int .i64 (ks[j]:Nat)] w (.string u)):=by
  intro j hj w hr;refine ⟨_,?_,?_,T _ (List.getElem_mem hj) w hr⟩
  ·show (((pr f 0 (L.drop ks[j])).1.toArray.size:Nat):Int)<=256000
   have:=hl _ (List.getElem_mem hj);simp;omega
  ·rw [List.take_succ_eq_append_getElem hj,zIA];simp only [Bool.true_and];congr 2
   cases j with
   | zero=>simp
   | succ j =>
    have:(ks.take (j+1)).isEmpty=false:=by
     cases ks with
     | nil=>simp at hj
     | cons a r=>rfl
    rw [this];simp
 have HR:Hid (RdN w (some ⟨bb,off,none⟩) L):=hr;have hx0:=hr.at p hp;have S:=λw hr=>zAc (some ⟨bb,off,none⟩) cap L p w hF hr hp hc
 rw [hxe] at hx0;have pZ:AtL (w.alloc (.cells zN0 30)) w.heap.size (zAE ⟨0,Wt.v0,0,⟨#[]⟩,0,Wt.r0,Wt.r0⟩):=AtL.new0 w _ _;have tZ:(w.alloc (.cells zN0 30)).there w.heap.size 0 (zAE x).toArray.size:=pZ.there;have pN:AtL ((w.alloc (.cells zN0 30)).setCells w.heap.size 0 (zAE x)) w.heap.size (zAE x):=pZ.setAll rfl;have hB0:Below w.heap.size w ((w.alloc (.cells zN0 30)).setCells w.heap.size 0 (zAE x)):=zAg (zAI (Below.refl _ w) _) (Nat.le_refl _) _ 0;have hpi:(p:Int)<(L.length:Int):=by omega
 clear pZ hl T hr hc hF hxe;rw [hkid] at S;clear hkid;go_enter func42,ntmps42;go_upto_region 2 with (first
  | ((with_reducible refine wpList_load_mid (cs:=zAE x) ?_ 30 (.tmp 13) ?_ (bb) (off+p * 20) ?_ _ ?_ underlying30 ?_ ?_ ?_);rfl;rfl;rfl;exact hx0;rfl;kernel_rfl)
  | ((with_reducible refine wpList_store_mid ?_ 30 (.tmp 5) (.tmp 14) ?_ (w.heap.size) 0 (zAE x).toArray ?_ ?_ ?_ ?_ ?_ ?_);rfl;rfl;rfl;rfl;exact tZ;kernel_rfl;exact zA4 _))
 generalize (w.alloc (.cells zN0 30)).setCells w.heap.size 0 (zAE x).toArray.toList=W0 at *;have S0:=S W0 (HR.out.below hB0);clear tZ hx0 S;go_wp2_with fail
 refine S0.mono ?_;rintro e w1 ⟨v1,rfl,own1,hb1⟩;obtain ⟨av1,cap1,rfl,hr1⟩:=own1.form;have hB1:=zAA hB0 hb1;have pN1:=AtL.below hb1 pN;clear S0 pN hB0 hb1 own1;have n0:w1.cell? ⟨w.heap.size,0,none⟩=some (.int .i64 6):=by rw [<-hk];exact pN1.2.1 0 _ rfl
 have n8:=pN1.2.1 8 _ rfl;have HI:Hid (RdI w1 av1 ks):=hr1;have HJ0:Hid (x.nm++⟨#[40]⟩=⟨(x.nm.data.toList++[40]++zBj f L true (ks.take 0)).toArray⟩):=by
  show _=_
  rw [List.take_zero];simp only [zBj,List.append_nil];exact zP6 x.nm
 have s0:((x.nm++⟨#[40]⟩:ByteArray).size:Int)<=17+0 * 256001:=by
  rw [ByteArray.size_append];show ((x.nm.size+1:Nat):Int)<=_;omega
 clear hr1 pN1;go_wp2_with fail
 obtain ⟨u0,hu0⟩:∃ u0,x.nm++⟨#[40]⟩=u0:=⟨_,rfl⟩
 rw [hu0] at HJ0 s0 ⊢;clear hu0 n0 n8;go_loopg [9,10] (ks.length) (λgk a b wr=>∃ (j:Nat) (u:ByteArray),b=.int .i64 j/\a=.string u/\gk=ks.length - j/\j<=ks.length/\Hid (u=⟨(x.nm.data.toList++[40]++zBj f L true (ks.take j)).toArray⟩)/\(u.size:Int)<=17+j * 256001/\Below w1.heap.size w1 wr)
 case atStart=>exact ⟨0,u0,rfl,rfl,rfl,Nat.zero_le _,HJ0,s0,Below.refl _ _⟩
 case round =>
  clear HJ0 s0;obtain ⟨j,u,rfl,rfl,hg,hj,HJ,hs,hb⟩:=hrel;by_cases hlt:j<ks.length
  ·have hli:(j:Int)<(ks.length:Int):=by omega
   have hBj:=zAA hB1 hb;obtain ⟨t,ht,HE,CT⟩:=HT.out j hlt wr (HR.out.below hBj);have HE':Hid (zBj f L true (ks.take (j+1))=zBj f L true (ks.take j)++(if j=0 then [] else [44])++t.data.toList):=HE;obtain ⟨kb,ko,rfl,ck⟩:=HI.out j hlt;have ck1:=zBH ck hb;clear ck HE HT;generalize ks[j]=q at *;by_cases hj0:j=0
   ·subst hj0;rw [Nat.add_zero] at ck1;have HF:Hid (u++t=⟨(x.nm.data.toList++[40]++zBj f L true (ks.take (0+1))).toArray⟩):=by
     show _=_
     rw [HE'.out,HJ.out,zEg t,zBg];simp
    have hs2:((u++t:ByteArray).size:Int)<=17+((0+1:Nat):Int) * 256001:=by rw [ByteArray.size_append];omega
    clear HJ HE';go_wp2_with fail
    refine CT.mono ?_;rintro e w2 ⟨rfl,hb2⟩;have hb3:=zAA hb hb2;go_wp2_with fail
    go_roundg (ks.length - (0+1))
    case rel=>exact ⟨0+1,_,rfl,rfl,rfl,hlt,HF,hs2,hb3⟩
    case measure=>omega
   ·have hjp:(0:Int)<(j:Int):=by omega
    have hsz:(u.size:Int)<=8000000:=by omega
    have HF:Hid (u++⟨#[44]⟩++t=⟨(x.nm.data.toList++[40]++zBj f L true (ks.take (j+1))).toArray⟩):=by
     show _=_
     rw [HE'.out,HJ.out,zEg t,show (⟨#[44]⟩:ByteArray)=⟨[44].toArray⟩ from rfl];simp only [zBg];simp [hj0]
    have hs2:((u++⟨#[44]⟩++t:ByteArray).size:Int)<=17+((j+1:Nat):Int) * 256001:=by
     rw [ByteArray.size_append,ByteArray.size_append];show ((u.size+1+t.size:Nat):Int)<=_;omega
    clear HJ HE' hj0;go_wp2_with fail
    refine CT.mono ?_;rintro e w2 ⟨rfl,hb2⟩;have hb3:=zAA hb hb2;go_wp2_with fail
    go_roundg (ks.length - (j+1))
    case rel=>exact ⟨j+1,_,by simp,rfl,rfl,hlt,HF,hs2,hb3⟩
    case measure=>omega
  ·have hli:¬ (j:Int)<(ks.length:Int):=by omega
   have hBj:=zAA hB1 hb;have hsz:(u.size:Int)<=8000000:=by omega
   have HF:Hid (u++⟨#[41]⟩=⟨(x.nm.data.toList++[40]++zBj f L true ks++[41]).toArray⟩):=by
    show _=_
    rw [HJ.out,show (⟨#[41]⟩:ByteArray)=⟨[41].toArray⟩ from rfl,zBg,List.take_of_length_le (by omega)]
   clear HJ HT;go_wp2;go_ret;refine ⟨congrArg (λx=>Ending.returned (Value.string x)) (HF.out.trans ?_),hBj⟩;simp
theorem zHh (x:Wt.Nd):(((⟨(mrk x).toArray⟩:ByteArray).size:Nat):Int)<=2:=by
 have:=zGV x;show (((mrk x).toArray.size:Nat):Int)<=2
 simp;omega
theorem zHS {s:ByteArray} (h:s.toList.isEmpty=true):s=⟨#[]⟩:=by
 have:s.toList=[]:=by simpa using h
 have e:s.data.toList=[]:=by rw [<-this];simp [ByteArray.toList_eq]
 rw [zEg s,e]
theorem zN1 (f:Nat) (x:Wt.Nd) (r:List Wt.Nd) (h:0<=tgh x):(pr (f+1) 0 (x::r)).1=(prN (pr f) x r).1:=by
 show (if (0:Int)<=tgh x then prN (pr f) x r else _).1=_
 rw [if_pos h]
theorem zI3 (av:Option Addr) (cap:Nat) (L:List Wt.Nd) (hF:∀ y ∈ L,Wt.FitN y) (hc:Wt.check L=0) (f:Nat) (T:TX av cap L f):TX av cap L (f+1):=by
 intro p s d w h hr;have hp:=zMz h;have hx:=zC0 hc p hp;obtain ⟨bb,off,rfl,-⟩:=hr p hp;have P:=zKd (some ⟨bb,off,none⟩) cap L hc f T;have hd:=List.drop_eq_getElem_cons hp;have h256:=(zAa hc).1;have hfx:=hF _ (List.getElem_mem hp);have hlen:∀ (q s d:Nat) (least:Int),Wt.one f (L.drop q)=some (s,d)->(pr f least (L.drop q)).1.length<=256000:=λq s d least hq=>zNA hq least (by rw [List.length_drop];omega)
 rw [hd] at h ⊢;rw [zN1 _ _ _ (zGt hx).1];obtain ⟨-,a,b,hm,rfl,rfl⟩:=zEj h;have hal:=zJd (zDs f) _ _ _ _ hm;rw [List.length_drop] at hal;have hK:=zBy hx;have hks:=λn (hn:(Wt.parts L[p]).toNat=n)=>zG0 (f:=f) (a:=a) (b:=b) hp hn (by rw [<-hn];exact hm) (by omega)
 unfold prN;rcases hK with ⟨k1,hv,-⟩ | ⟨k2,ha,-⟩ | ⟨k3,ha,hb,hbs,-⟩ | ⟨k4,hop,-⟩ | ⟨k5,hop,-⟩ | ⟨k6,hnm,ha0,ha30,-⟩
 ·have h7:tgh L[p]=7:=by rcases zBD hx with h | h | h <;> first | exact h.2.2 | omega
  rw [if_pos h7];unfold prS;rw [if_pos k1];by_cases h2:(L[p]).v.k=2
  ·exact zLV bb off cap L p _ w hF hr hp rfl hc k1 hv h2
  ·exact zMk bb off cap L p _ w hF hr hp rfl hc k1 hv hfx.1 h2
 ·have h7:tgh L[p]=7:=by rcases zBD hx with h | h | h <;> first | exact h.2.2 | omega
  rw [if_pos h7];unfold prS;rw [if_neg (by omega),if_pos k2];by_cases h2:(L[p]).a.s=⟨#[]⟩
  ·exact zM3 bb off cap L p _ w hF hr hp rfl hc k2 ha h2
  ·exact zLO bb off cap L p _ w hF hr hp rfl hc k2 ha h2
 ·have h7:tgh L[p]=7:=by rcases zBD hx with h | h | h <;> first | exact h.2.2 | omega
  rw [if_pos h7];unfold prS;rw [if_neg (by omega),if_neg (by omega),if_pos k3];by_cases h2:(L[p]).a.s=⟨#[]⟩
  ·exact zMQ bb off cap L p _ w hF hr hp rfl hc k3 ha h2 hb (zHS hbs)
  ·exact zM1 bb off cap L p _ w hF hr hp rfl hc k3 ha h2 hb (zHS hbs)
 ·have hpn:(Wt.parts L[p]).toNat=1:=by unfold Wt.parts;rw [if_pos k4];rfl
  have ho:=zE7 (by rw [<-hpn];exact hm);have hk1:=hks 1 hpn;simp only [zAy,ho] at hk1;obtain ⟨j,hj⟩:=zJ4 hx (Or.inl k4);have hun:(L[p]).op=1 \/ (L[p]).op=2 \/ (L[p]).op=3:=by rcases zBD hx with h | h | h <;> first | omega | exact h.2
  by_cases h3:(L[p]).op=3
  ·have e6:tgh L[p]=6:=by unfold tgh;rw [h3];decide
   have em:mrk L[p]=[37]:=by unfold mrk;rw [h3];decide
   rw [if_neg (by omega),if_neg (by omega),if_pos e6,em];exact zMc bb off cap L p _ w hF hr hp rfl hc k4 h3 (p+1) _ hk1 (hlen _ _ _ _ ho) (λw hr=>P (p+1) a b 6 w ho (by omega) (by omega) hr)
  ·have e5:tgh L[p]=5:=by
    rcases hun with h | h | h
    ·unfold tgh;rw [h];decide
    ·unfold tgh;rw [h];decide
    ·exact absurd h h3
   rw [if_neg (by omega),if_pos e5];exact zMN bb off cap L p _ w hF hr hp rfl hc k4 h3 (p+1) _ hk1 (hlen _ _ _ _ ho) ⟨(mrk L[p]).toArray⟩ (zHh _) (λw=>zFN _ _ j hj w) (λw hr=>P (p+1) a b 5 w ho (by omega) (by omega) hr)
 ·have hpn:(Wt.parts L[p]).toNat=2:=by unfold Wt.parts;rw [if_neg (by omega),if_pos k5];rfl
  obtain ⟨a1,b1,a2,b2,o1,o2,-,-⟩:=zE3 (by rw [<-hpn];exact hm);have hk1:=hks 2 hpn;have hpo:=λl=>(zDx f _ _ _ o1 l).1
  rw [List.drop_drop] at o2;simp only [List.drop_drop] at hpo;simp only [zAy,o1,List.drop_drop,o2] at hk1;obtain ⟨j,hj⟩:=zJ4 hx (Or.inr k5);have ht:0<=tgh L[p]/\tgh L[p] < 5:=by
   rcases zBD hx with h | h | h
   ·exact absurd k5 h.2.1
   ·omega
   ·rcases h.2 with h | h | h | h | h | h | h | h | h | h | h | h <;> (unfold tgh;rw [h];decide)
  rw [if_neg (by omega),if_neg (by omega),if_neg (by omega)];simp only [hpo];exact zO9 bb off cap L p _ w hF hr hp rfl hc k5 hx (p+1) (p+1+a1) _ _ hk1 (hlen _ _ _ _ o1) (hlen _ _ _ _ o2) ⟨(mrk L[p]).toArray⟩ (zHh _) (λw=>zFN _ _ j hj w) (λw hr=>P (p+1) a1 b1 (tgh L[p]) w o1 (by omega) (by omega) hr) (λw hr=>P (p+1+a1) a2 b2 (tgh L[p]+1) w o2 (by omega) (by omega) hr)
 ·have h7:tgh L[p]=7:=by rcases zBD hx with h | h | h <;> first | exact h.2.2 | omega
  rw [if_pos h7];unfold prS;rw [if_neg (by omega),if_neg (by omega),if_neg (by omega)];have hpa:=zCx k6;rw [hpa] at hm;have hks':=hks _ rfl;rw [hpa] at hks';rw [zL9 L f _ true (p+1) a b hm,<-hks'];obtain ⟨i1,i2⟩:=zGr f _ _ _ _ _ hm;rw [<-hks'] at i1 i2;exact zOx bb off cap L p _ w hF hr hp rfl hc k6 f _ rfl (by omega) (by have:=(zBl hnm).2;rw [Array.length_toList] at this;show (((L[p]).nm.data.size:Nat):Int)<=16;omega)
   (λq hq=>by obtain ⟨s,d,ho⟩:=i2 q hq;exact hlen _ _ _ _ ho) (λq hq w hr=>by obtain ⟨s,d,ho⟩:=i2 q hq;exact T q s d w ho hr)
theorem zHu (av:Option Addr) (cap:Nat) (L:List Wt.Nd) (hF:∀ y ∈ L,Wt.FitN y) (hc:Wt.check L=0):∀ f,TX av cap L f:=by
 intro f;induction f with
 | zero=>intro p s d w h hr;cases h
 | succ f ih=>exact zI3 av cap L hF hc f ih
theorem zId (av:Option Addr) (cap:Nat) (L:List Wt.Nd) (w:World) (hL:L.length<=9223372036854775807) (hF:∀ x ∈ L,Wt.FitN x) (hr:RdN w av L) :
  CR 23 #[.slice av L.length cap] w (.tuple #[.string ⟨(zIO L).toArray⟩,.int .i64 (Wt.check L)]):=by
 have CK:=zDE av cap L w hL hF hr;unfold zIO;by_cases hc:Wt.check L=0
 ·rw [if_pos hc];obtain ⟨h256,d,ho,-⟩:=zAa hc;have T:=λw hr=>zHu av cap L hF hc (L.length+1) 0 L.length d w ho hr
  rw [hc] at CK ⊢;rw [List.drop_zero] at T;have HR:Hid (RdN w av L):=hr;generalize (pr (L.length+1) 0 L).1=lt at *;clear hr ho h256;go_enter func23,ntmps23;go_wp2_with fail
  refine CK.mono ?_;rintro e w1 ⟨rfl,hb⟩;have T1:=T w1 (HR.out.below hb);go_wp2_with fail
  refine T1.mono ?_;rintro e w2 ⟨rfl,hb2⟩;have hB:=zAA hb hb2;go_wp2;go_ret2
  exact ⟨rfl,hB⟩
 ·rw [if_neg hc];generalize Wt.check L=c at *;have hci:(c != 0)=true:=by simp [hc]
  go_enter func23,ntmps23;go_wp2_with fail
  refine CK.mono ?_;rintro e w1 ⟨rfl,hb⟩;go_wp2;go_ret2
  exact ⟨rfl,hb⟩
theorem zMI (c:UInt8) (t:List UInt8):(⟨(c::t).toArray⟩:ByteArray).extract 1 (t.length+1)=⟨t.toArray⟩:=by
 apply ByteArray.ext
 rw [ByteArray.data_extract];simp
theorem zKr (b:ByteArray) (x y:Int) (w:World) (hs:b.size<=9223372036854775807) (hh:¬ b.data.toList.head? = some 61) :
  CR 11 #[.string b,.int .i64 x,.int .i64 y] w (.tuple #[.string b,.int .i64 0]):=by
 cases hq:b.data.toList with
 | nil =>
  have hz:b.size=0:=by
   have:b.data.toList.length=0:=by rw [hq];rfl
   rw [Array.length_toList] at this;exact this
  clear hh hs;go_enter func11,ntmps11;go_wp2;go_ret2
  exact ⟨rfl,Below.refl _ _⟩
 | cons c t =>
  have hb:b=⟨(c::t).toArray⟩:=by
   have:b=⟨b.data.toList.toArray⟩:=by rw [Array.toArray_toList]
   rw [this,hq]
  rw [hq] at hh;have hc:¬ c=61:=λh=>hh (by rw [h];rfl)
  have hc2:¬ (c.toNat:Int)=61:=λh=>hc (UInt8.toNat_inj.1 (show c.toNat=61 by omega))
  subst hb;have hx0:((((⟨(c::t).toArray⟩:ByteArray)[0]'(Nat.succ_pos _)).toNat:Int) != 61)=true:=by
   show ((c.toNat:Int) != 61)=true
   simp [hc2]
  have hz0:((t.length:Int)+1 == 0)=false:=by simp;omega
  have hsz:(⟨(c::t).toArray⟩:ByteArray).size=t.length+1:=rfl;clear hh hq hc hc2;go_enter func11,ntmps11;go_wp2;go_ret2
  exact ⟨rfl,Below.refl _ _⟩
theorem zJv (b:ByteArray) (x y:Int) (w:World) (hs:b.size<=9223372036854775807) (hx:-9223372036854775808<=x/\x<=9223372036854775807) (hy:-9223372036854775808<=y/\y<=9223372036854775807) :
  CR 11 #[.string b,.int .i64 x,.int .i64 y] w (.tuple #[.string ⟨(cpR x y b.data.toList).1.toArray⟩,.int .i64 (cpR x y b.data.toList).2]):=by
 by_cases hh:b.data.toList.head? = some 61
 ·obtain ⟨t,ht⟩:∃ t,b.data.toList=61::t:=by
   cases hq:b.data.toList with
   | nil=>rw [hq] at hh;cases hh
   | cons c t=>rw [hq] at hh;obtain rfl:=Option.some.inj hh;exact ⟨t,rfl⟩
  have hb:b=⟨(61::t).toArray⟩:=by
   have:b=⟨b.data.toList.toArray⟩:=by rw [Array.toArray_toList]
   rw [this,ht]
  have htl:t.length<=9223372036854775806:=by
   have:b.size=t.length+1:=by rw [hb];rfl
   omega
  have S:=λw=>zI4 ⟨t.toArray⟩ w (by show t.length<=_;omega)
  have e0:(⟨t.toArray⟩:ByteArray).data.toList=t:=by simp
  rw [e0] at S;rw [ht,zKP,hb];have EX:=zMI 61 t;have hsz:(⟨(61::t).toArray⟩:ByteArray).size=t.length+1:=rfl;have hx0:((((⟨(61::t).toArray⟩:ByteArray)[0]'(Nat.succ_pos _)).toNat:Int) != 61)=false:=rfl;have hz0:((t.length:Int)+1 == 0)=false:=by simp;omega
  clear hb ht hh hs e0;cases hr:zH7 t with
  | inr q =>
   obtain ⟨c,p⟩:=q;rw [hr] at S;simp only [zCC] at S;have hc:=zFy hr;have hci:(c != 0)=true:=by simp [hc]
   have e:cpF x y (.inr (c,p))=([],c):=rfl;rw [e];clear hr e;go_enter func11,ntmps11;go_wp2_with fail
   refine (S w).mono ?_;rintro e w2 ⟨rfl,hb2⟩;go_wp2;go_ret2
   exact ⟨rfl,hb2⟩
  | inl row =>
   rw [hr] at S;simp only [zCC] at S;obtain ⟨hf,hc⟩:=zHB hr;have hc2:=zHf hc x y;have hpl:=zHM hc2;have hf2:∀ n ∈ row.map (mvN x y),Wt.FitN n:=by
    intro n hn;obtain ⟨m,hm,rfl⟩:=List.mem_map.1 hn;exact zNC (hf m hm) x y
   have h256:=(zAa hc).1;have e:cpF x y (.inl row)=zJn (zIO (row.map (mvN x y))):=rfl;rw [e];have SH:=λav cap w hr=>zJW av cap row x y w hf hr hc hx hy
   have PR:=λav cap w hr=>zId av cap (row.map (mvN x y)) w (by rw [List.length_map];omega) hf2 hr
   rw [hc2] at PR;obtain ⟨m,hm⟩:∃ m,row.map (mvN x y)=m:=⟨_,rfl⟩
   rw [hm] at SH PR hpl ⊢;generalize zIO m=u at *;obtain ⟨q,hq⟩:∃ q,zJn u=q:=⟨_,rfl⟩
   rw [hq];have HQ:Hid (zJn u=q):=hq;clear hr e hf hc hc2 hf2 h256 hm hq;go_enter func11,ntmps11;go_wp2_with fail
   refine (S w).mono ?_;rintro e w2 ⟨⟨v,rfl,hown⟩,hb2⟩;obtain ⟨av,cap,rfl,hrd⟩:=hown.form;clear S hown;go_wp2_with fail
   refine (SH av cap w2 hrd).mono ?_;rintro e w3 ⟨⟨v,rfl,hown⟩,hb3⟩;have hB3:=zAA hb2 hb3;obtain ⟨av3,cap3,rfl,hrd3⟩:=hown.form;clear SH hrd hb3 hown;go_wp2_with fail
   refine (PR av3 cap3 w3 hrd3).mono ?_;rintro e w4 ⟨rfl,hb4⟩;have hB4:=zAA hB3 hb4;have hus:(⟨u.toArray⟩:ByteArray).size=u.length:=rfl;clear PR hrd3;have hq:=HQ.out;unfold zJn at hq;by_cases h:1023<u.length
   ·rw [if_pos h] at hq;subst hq;have hd:decide (1024<(u.length:Int)+1)=true:=by simp;omega
    go_wp2;go_ret2
    exact ⟨rfl,hB4⟩
   ·rw [if_neg h] at hq;subst hq;have hd:decide (1024<(u.length:Int)+1)=false:=by simp;omega
    have CA:(⟨#[61]⟩:ByteArray)++⟨u.toArray⟩=⟨(61::u).toArray⟩:=by
     apply ByteArray.ext
     rw [ByteArray.data_append];simp
    go_wp2;go_ret2
    exact ⟨rfl,hB4⟩
 ·have e:cpR x y b.data.toList=(b.data.toList,0):=if_neg hh;have e2:(⟨b.data.toList.toArray⟩:ByteArray)=b:=by rw [Array.toArray_toList]
  rw [e];simp only;rw [e2];exact zKr b x y w hs hh
theorem zLp {B n cap:Nat} {row:List Wt.Nd} (h:OwnN w B (.slice av n cap) row):row.length<=cap:=by
 rcases h.2 with ⟨e,h0⟩ | ⟨g,cap',cur,e,hg,hc,h1,_⟩
 ·omega
 ·simp only [Value.slice.injEq] at e;omega
theorem zNd (s:ByteArray) (w:World) (hx:¬ s.data.toList.head? = some 61) :
  Calls prog 18 #[.string s,.string ⟨#[61]⟩] w λe w'=>e=.returned (.tuple #[.string s,.bool false])/\w=w':=by
 by_cases h0:0<s.size
 ·have h1:(1:Int)<=(s.size:Int):=by omega
  have hx1:((s.extract 0 1).toList == [61])=false:=by
   rw [beq_eq_false_iff_ne];intro e;apply hx
   rw [ByteArray.toList_eq,ByteArray.data_extract,Array.toList_extract] at e;cases hq:s.data.toList with
   | nil=>rw [hq] at e;simp at e
   | cons c t=>rw [hq] at e;simp [List.extract] at e;rw [e];rfl
  clear hx;go_enter func18,ntmps18;go_wp2;go_ret2
  exact ⟨rfl,rfl⟩
 ·have h1:¬ (1:Int)<=(s.size:Int):=by omega
  clear hx;go_enter func18,ntmps18;go_wp2;go_ret2
  exact ⟨rfl,rfl⟩
theorem zLG (t:List UInt8) (w:World) (ht:t.length<=9223372036854775806) :
  Calls prog 18 #[.string ⟨(61::t).toArray⟩,.string ⟨#[61]⟩] w λe w'=>e=.returned (.tuple #[.string ⟨t.toArray⟩,.bool true])/\w=w':=by
 obtain ⟨s,hs⟩:∃ s:ByteArray,s=⟨(61::t).toArray⟩:=⟨_,rfl⟩
 have h0:s.size=t.length+1:=by rw [hs];rfl
 have hx1:((s.extract 0 1).toList == [61])=true:=by rw [hs];simp [ByteArray.toList_eq,ByteArray.data_extract,List.extract]
 have hx2:s.extract 1 s.size=⟨t.toArray⟩:=by
  rw [h0,hs];apply ByteArray.ext
  rw [ByteArray.data_extract];apply Array.ext'
  simp [List.extract]
 have h1:(1:Int)<=(s.size:Int):=by omega
 rw [<-hs];clear hs h0;go_enter func18,ntmps18;go_wp2;go_ret2
 exact ⟨rfl,rfl⟩
theorem zQI (u:List UInt8):(⟨#[61]⟩:ByteArray)++⟨u.toArray⟩=⟨(61::u).toArray⟩:=by
 apply ByteArray.ext
 rw [ByteArray.data_append];apply Array.ext'
 simp
theorem zLS (u:List UInt8) (w:World) (hu:True->u.length<=1000000) :
  Calls prog 21 #[.string ⟨u.toArray⟩] w λe w'=>e=.returned (.tuple #[.string ⟨(zJn u).1.toArray⟩,.int .i64 (zJn u).2])/\w=w':=by
 have hc:=zQI u;have hl:¬ 9223372036854775807<1+u.length:=by have:=hu trivial;omega
 unfold zJn;by_cases h:1023<u.length
 ·rw [if_pos h];have hi:(1024:Int)<(u.length:Int)+1:=by omega
  clear hu h;go_enter func21,ntmps21;go_wp2;go_ret2
  exact ⟨rfl,rfl⟩
 ·rw [if_neg h];have hi:¬ (1024:Int)<(u.length:Int)+1:=by omega
  clear hu h;go_enter func21,ntmps21;go_wp2;go_ret2
  exact ⟨rfl,rfl⟩
end Go.Proofs.YtdghjlmnlodnlaaGreatDoor
