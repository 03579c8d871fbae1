/- PWalkH, PWalkR, KRect, KRefN, KRefT, KApp. -/
import Derived.Test.YtefkclbaflkheaaGreatDoorQ12
set_option maxHeartbeats 1600000
set_option maxRecDepth 100000
namespace Go.Proofs.YtefkclbaflkheaaGreatDoor
open Tryz
open Go.RowKit
set_option linter.unusedVariables false
variable {w w':World} {B n:Nat} {v:Value} {A:List Int} {o:Oper} {a:Act} {Q:Exit->Act->World->Prop}
theorem zGe (blk off n cap:Nat) (F:Nat->Wpl.Cl) (w:World) (hn0:0<n) (hn:n<=1000000000000000) (hcap:n<=cap) (hcap2:cap<=9223372036854775807) (hb:blk<w.heap.size) (hc:Cells w blk off n F) (hA:Wpl.anyN (F 0).s F n=true) :
  CR 106 #[.slice (some ⟨blk,off,none⟩) n cap] w (.tuple #[.agg #[.int .i64 (Wpl.hullV F n).s,.int .i64 (Wpl.hullV F n).t,.int .i64 (Wpl.hullV F n).l,.int .i64 (Wpl.hullV F n).b,.int .i64 (Wpl.hullV F n).r],.bool (Wpl.hullOk F n)]):=by
 obtain ⟨x0,x1,x2⟩:=hc 0 hn0;simp only [Nat.zero_mul,Nat.add_zero] at x0 x1 x2;have hmf:∀ (fn:Fn) (first cap:Array Value) (w:World),(Instr.makeFunc fn first cap).run prog w=.ok (.func fn first cap) w:=λ_ _ _ _=>rfl
 have C:=λw h1 h2=>zBO (F 0).s blk off n cap F w hn h1 h2
 rw [hA] at C;have HA:Hid (Wpl.anyN (F 0).s F n=true):=hA;clear hA;have E0:Hid (Wpl.hullU F 0=⟨(F 0).s,(F 0).r,(F 0).c,(F 0).r,(F 0).c⟩):=(rfl:Wpl.hullU F 0=⟨(F 0).s,(F 0).r,(F 0).c,(F 0).r,(F 0).c⟩)
 have HO:Hid (Wpl.hullOk F n=false):=by show _=_;unfold Wpl.hullOk;rw [HA.out,decide_eq_true (show n ≠ 0 by omega)];rfl
 have HV:Hid (Wpl.hullV F n=Wpl.nullA):=by show _=_;unfold Wpl.hullV;rw [HO.out];rfl
 clear HA;generalize (F 0).s=s0 at *;generalize (F 0).r=r0 at *;generalize (F 0).c=c0 at *;have hnz:((n:Int) == 0)=false:=by simp;omega
 go_enter func106,ntmps106;go_wp2_with fail
 refine (C _ (by simp [go_sem];omega) (hc.below hb ((Below.refl _ _).alloc (Nat.le_refl _) _))).mono ?_;rintro e w1 ⟨rfl,hb1⟩;have pR:AtL w1 w.heap.size [.int .i64 0,.int .i64 0,.int .i64 0,.int .i64 0,.int .i64 0]:=AtL.below hb1 (AtL.new w _ rfl _);have hB:Below w.heap.size w w1:=clA
 clear hb1;obtain ⟨r0',r1,r2,r3,r4,_,_,_,_,_⟩:=pR.five;go_wp2;refine bodyPost_ret (v:=.tuple #[.agg #[.int .i64 0,.int .i64 0,.int .i64 0,.int .i64 0,.int .i64 0],.bool false]) (by simp [results,results106,go_sem,r0',r1,r2,r3,r4]) rfl ⟨by rw [HV.out,HO.out];rfl,?_⟩;exact zAx hB (Nat.le_refl _) _ _ _ _ _
theorem zIP (blk off n cap:Nat) (F:Nat->Wpl.Cl) (w:World) (hn0:0<n) (hn:n<=1000000000000000) (hcap:n<=cap) (hcap2:cap<=9223372036854775807) (hb:blk<w.heap.size) (hc:Cells w blk off n F) (hA:Wpl.anyN (F 0).s F n=false) (hc1:cap=1) :
  CR 106 #[.slice (some ⟨blk,off,none⟩) n cap] w (.tuple #[.agg #[.int .i64 (Wpl.hullV F n).s,.int .i64 (Wpl.hullV F n).t,.int .i64 (Wpl.hullV F n).l,.int .i64 (Wpl.hullV F n).b,.int .i64 (Wpl.hullV F n).r],.bool (Wpl.hullOk F n)]):=by
 subst hc1;obtain ⟨x0,x1,x2⟩:=hc 0 hn0;simp only [Nat.zero_mul,Nat.add_zero] at x0 x1 x2;have hmf:∀ (fn:Fn) (first cap:Array Value) (w:World),(Instr.makeFunc fn first cap).run prog w=.ok (.func fn first cap) w:=λ_ _ _ _=>rfl
 have C:=λw h1 h2=>zBO (F 0).s blk off n 1 F w hn h1 h2
 rw [hA] at C;have HA:Hid (Wpl.anyN (F 0).s F n=false):=hA;clear hA;have E0:Hid (Wpl.hullU F 0=⟨(F 0).s,(F 0).r,(F 0).c,(F 0).r,(F 0).c⟩):=(rfl:Wpl.hullU F 0=⟨(F 0).s,(F 0).r,(F 0).c,(F 0).r,(F 0).c⟩)
 have HO:Hid (Wpl.hullOk F n=true):=by show _=_;unfold Wpl.hullOk;rw [HA.out,decide_eq_true (show n ≠ 0 by omega)];rfl
 have HV:Hid (Wpl.hullV F n=Wpl.hullU F (n - 1)):=by show _=_;unfold Wpl.hullV;rw [HO.out];rfl
 clear HA;generalize (F 0).s=s0 at *;generalize (F 0).r=r0 at *;generalize (F 0).c=c0 at *;have hnz:((n:Int) == 0)=false:=by simp;omega
 go_enter func106,ntmps106;go_wp2_with fail
 refine (C _ (by simp [go_sem];omega) (hc.below hb ((Below.refl _ _).alloc (Nat.le_refl _) _))).mono ?_;rintro e w1 ⟨rfl,hb1⟩;have pR:AtL w1 w.heap.size [.int .i64 0,.int .i64 0,.int .i64 0,.int .i64 0,.int .i64 0]:=AtL.below hb1 (AtL.new w _ rfl _);have hB:Below w.heap.size w w1:=clA
 have y0:w1.cell? ⟨blk,off,none⟩=some (.int .i64 s0):=(hB.cell (p:=⟨blk,off,none⟩) hb).trans x0;have y1:w1.cell? ⟨blk,off+1,none⟩=some (.int .i64 r0):=(hB.cell (p:=⟨blk,off+1,none⟩) hb).trans x1;have y2:w1.cell? ⟨blk,off+2,none⟩=some (.int .i64 c0):=(hB.cell (p:=⟨blk,off+2,none⟩) hb).trans x2;have hb':blk<w1.heap.size:=Nat.lt_of_lt_of_le hb hB.size;have hz1:=hB.size;clear hb1 x0 x1 x2 C;go_wp2_with fail
 have pA:AtL ((w1.alloc (.cells #[.int .i64 s0,.int .i64 r0,.int .i64 c0] 24)).alloc (.cells #[.int .i64 s0,.int .i64 r0,.int .i64 c0,.int .i64 r0,.int .i64 c0] 53)) (w1.heap.size+1) [.int .i64 s0,.int .i64 r0,.int .i64 c0,.int .i64 r0,.int .i64 c0]:=AtL.new (w1.alloc _) _ (by simp [go_sem]) _;have pR':=(pR.alloc (.cells #[.int .i64 s0,.int .i64 r0,.int .i64 c0] 24)).alloc (.cells #[.int .i64 s0,.int .i64 r0,.int .i64 c0,.int .i64 r0,.int .i64 c0] 53);have pB:=zBf (zBf hB (.cells #[.int .i64 s0,.int .i64 r0,.int .i64 c0] 24)) (.cells #[.int .i64 s0,.int .i64 r0,.int .i64 c0,.int .i64 r0,.int .i64 c0] 53);clear y0 y1 y2 pR hB;generalize hk:w1.heap.size+1=k at *;have hkw:w.heap.size<k:=by omega
 generalize (w1.alloc (.cells #[.int .i64 s0,.int .i64 r0,.int .i64 c0] 24)).alloc (.cells #[.int .i64 s0,.int .i64 r0,.int .i64 c0,.int .i64 r0,.int .i64 c0] 53)=W2 at *;go_loopw [7,38] (λ_ i wr=>∃ (j:Nat) (t l b r:Int),j<=n - 1/\i=.int .i64 j/\Hid (Wpl.hullU F j=⟨s0,t,l,b,r⟩)/\Below w.heap.size w wr/\AtL wr w.heap.size [.int .i64 0,.int .i64 0,.int .i64 0,.int .i64 0,.int .i64 0]/\AtL wr k [.int .i64 s0,.int .i64 t,.int .i64 l,.int .i64 b,.int .i64 r]) (λ_ i _=>n - (intOf i).toNat)
 case atStart=>exact ⟨0,r0,c0,r0,c0,Nat.zero_le _,rfl,E0,pB,pR',pA⟩
 case round =>
  clear pB pR' pA;obtain ⟨j,t,l,b,r,hj,rfl,E,qB,qR,qA⟩:=hrel
  ·have hltz:¬ (j:Int)<((n - 1:Nat):Int):=by omega
   have hj':j=n - 1:=by omega
   have HV':Hid (Wpl.hullV F n=⟨s0,t,l,b,r⟩):=by show _=_;rw [HV.out,<-hj',E.out]
   clear hj' E HV;have sR:=qR.put5 (.int .i64 s0) (.int .i64 t) (.int .i64 l) (.int .i64 b) (.int .i64 r);have sB:=zAx qB (Nat.le_refl w.heap.size) (.int .i64 s0) (.int .i64 t) (.int .i64 l) (.int .i64 b) (.int .i64 r);obtain ⟨a0,a1,a2,a3,a4,f0,f1,f2,f3,f4⟩:=qA.five;obtain ⟨z0,z1,z2,z3,z4,g0,g1,g2,g3,g4⟩:=qR.five;go_wp2;obtain ⟨r0',r1,r2,r3,r4,_,_,_,_,_⟩:=sR.five;refine bodyPost_ret (v:=.tuple #[.agg #[.int .i64 s0,.int .i64 t,.int .i64 l,.int .i64 b,.int .i64 r],.bool true]) (by simp [results,results106,go_sem,z0,z1,z2,z3,z4]) rfl ⟨by rw [HV'.out,HO.out],?_⟩;exact sB
theorem zGP (blk off n cap:Nat) (F:Nat->Wpl.Cl) (w:World) (hn0:0<n) (hn:n<=1000000000000000) (hcap:n<=cap) (hcap2:cap<=9223372036854775807) (hb:blk<w.heap.size) (hc:Cells w blk off n F) (hA:Wpl.anyN (F 0).s F n=false) (hc1:¬ cap=1) :
  CR 106 #[.slice (some ⟨blk,off,none⟩) n cap] w (.tuple #[.agg #[.int .i64 (Wpl.hullV F n).s,.int .i64 (Wpl.hullV F n).t,.int .i64 (Wpl.hullV F n).l,.int .i64 (Wpl.hullV F n).b,.int .i64 (Wpl.hullV F n).r],.bool (Wpl.hullOk F n)]):=by
 obtain ⟨x0,x1,x2⟩:=hc 0 hn0;simp only [Nat.zero_mul,Nat.add_zero] at x0 x1 x2;have hmf:∀ (fn:Fn) (first cap:Array Value) (w:World),(Instr.makeFunc fn first cap).run prog w=.ok (.func fn first cap) w:=λ_ _ _ _=>rfl
 have C:=λw h1 h2=>zBO (F 0).s blk off n cap F w hn h1 h2
 rw [hA] at C;have HA:Hid (Wpl.anyN (F 0).s F n=false):=hA;clear hA;have E0:Hid (Wpl.hullU F 0=⟨(F 0).s,(F 0).r,(F 0).c,(F 0).r,(F 0).c⟩):=(rfl:Wpl.hullU F 0=⟨(F 0).s,(F 0).r,(F 0).c,(F 0).r,(F 0).c⟩)
 have HO:Hid (Wpl.hullOk F n=true):=by show _=_;unfold Wpl.hullOk;rw [HA.out,decide_eq_true (show n ≠ 0 by omega)];rfl
 have HV:Hid (Wpl.hullV F n=Wpl.hullU F (n - 1)):=by show _=_;unfold Wpl.hullV;rw [HO.out];rfl
 clear HA;generalize (F 0).s=s0 at *;generalize (F 0).r=r0 at *;generalize (F 0).c=c0 at *;have hnz:((n:Int) == 0)=false:=by simp;omega
 go_enter func106,ntmps106;go_wp2_with fail
 refine (C _ (by simp [go_sem];omega) (hc.below hb ((Below.refl _ _).alloc (Nat.le_refl _) _))).mono ?_;rintro e w1 ⟨rfl,hb1⟩;have pR:AtL w1 w.heap.size [.int .i64 0,.int .i64 0,.int .i64 0,.int .i64 0,.int .i64 0]:=AtL.below hb1 (AtL.new w _ rfl _);have hB:Below w.heap.size w w1:=clA
 have y0:w1.cell? ⟨blk,off,none⟩=some (.int .i64 s0):=(hB.cell (p:=⟨blk,off,none⟩) hb).trans x0;have y1:w1.cell? ⟨blk,off+1,none⟩=some (.int .i64 r0):=(hB.cell (p:=⟨blk,off+1,none⟩) hb).trans x1;have y2:w1.cell? ⟨blk,off+2,none⟩=some (.int .i64 c0):=(hB.cell (p:=⟨blk,off+2,none⟩) hb).trans x2;have hb':blk<w1.heap.size:=Nat.lt_of_lt_of_le hb hB.size;have hz1:=hB.size;clear hb1 x0 x1 x2 C;go_wp2_with fail
 have pA:AtL ((w1.alloc (.cells #[.int .i64 s0,.int .i64 r0,.int .i64 c0] 24)).alloc (.cells #[.int .i64 s0,.int .i64 r0,.int .i64 c0,.int .i64 r0,.int .i64 c0] 53)) (w1.heap.size+1) [.int .i64 s0,.int .i64 r0,.int .i64 c0,.int .i64 r0,.int .i64 c0]:=AtL.new (w1.alloc _) _ (by simp [go_sem]) _;have pR':=(pR.alloc (.cells #[.int .i64 s0,.int .i64 r0,.int .i64 c0] 24)).alloc (.cells #[.int .i64 s0,.int .i64 r0,.int .i64 c0,.int .i64 r0,.int .i64 c0] 53);have pB:=zBf (zBf hB (.cells #[.int .i64 s0,.int .i64 r0,.int .i64 c0] 24)) (.cells #[.int .i64 s0,.int .i64 r0,.int .i64 c0,.int .i64 r0,.int .i64 c0] 53);clear y0 y1 y2 pR hB;generalize hk:w1.heap.size+1=k at *;have hkw:w.heap.size<k:=by omega
 generalize (w1.alloc (.cells #[.int .i64 s0,.int .i64 r0,.int .i64 c0] 24)).alloc (.cells #[.int .i64 s0,.int .i64 r0,.int .i64 c0,.int .i64 r0,.int .i64 c0] 53)=W2 at *;go_loopw [7,38] (λ_ i wr=>∃ (j:Nat) (t l b r:Int),j<=n - 1/\i=.int .i64 j/\Hid (Wpl.hullU F j=⟨s0,t,l,b,r⟩)/\Below w.heap.size w wr/\AtL wr w.heap.size [.int .i64 0,.int .i64 0,.int .i64 0,.int .i64 0,.int .i64 0]/\AtL wr k [.int .i64 s0,.int .i64 t,.int .i64 l,.int .i64 b,.int .i64 r]) (λ_ i _=>n - (intOf i).toNat)
 case atStart=>exact ⟨0,r0,c0,r0,c0,Nat.zero_le _,rfl,E0,pB,pR',pA⟩
 case round =>
  clear pB pR' pA;obtain ⟨j,t,l,b,r,hj,rfl,E,qB,qR,qA⟩:=hrel;by_cases hlt:j<n - 1
  ·have hltz:(j:Int)<((n - 1:Nat):Int):=by omega
   obtain ⟨x0,x1,x2⟩:=hc (j+1) (by omega);have y0:wr.cell? ⟨blk,off+3+j * 3,none⟩=some (.int .i64 (F (j+1)).s):=by
    have:=(qB.cell (p:=⟨blk,off+(j+1) * 3,none⟩) hb).trans x0;rwa [show off+(j+1) * 3=off+3+j * 3 by omega] at this
   have y1:wr.cell? ⟨blk,off+3+j * 3+1,none⟩=some (.int .i64 (F (j+1)).r):=by
    have:=(qB.cell (p:=⟨blk,off+(j+1) * 3+1,none⟩) hb).trans x1;rwa [show off+(j+1) * 3+1=off+3+j * 3+1 by omega] at this
   have y2:wr.cell? ⟨blk,off+3+j * 3+2,none⟩=some (.int .i64 (F (j+1)).c):=by
    have:=(qB.cell (p:=⟨blk,off+(j+1) * 3+2,none⟩) hb).trans x2;rwa [show off+(j+1) * 3+2=off+3+j * 3+2 by omega] at this
   have E1:Hid (Wpl.hullU F (j+1)=⟨s0,min t (F (j+1)).r,min l (F (j+1)).c,max b (F (j+1)).r,max r (F (j+1)).c⟩):=by show Wpl.grow (Wpl.hullU F j) (F (j+1))=_;rw [E.out];rfl
   clear x0 x1 x2 E;generalize (F (j+1)).s=sj at *;generalize (F (j+1)).r=rj at *;generalize (F (j+1)).c=cj at *;have sA:=qA.alloc (.cells #[.int .i64 sj,.int .i64 rj,.int .i64 cj] 24);have sR:=qR.alloc (.cells #[.int .i64 sj,.int .i64 rj,.int .i64 cj] 24);have sC:AtL (wr.alloc (.cells #[.int .i64 sj,.int .i64 rj,.int .i64 cj] 24)) wr.heap.size [.int .i64 sj,.int .i64 rj,.int .i64 cj]:=AtL.new wr _ rfl _;have sB:=zBf qB (.cells #[.int .i64 sj,.int .i64 rj,.int .i64 cj] 24);have hkr:k<wr.heap.size:=qA.lt;go_upto_region 8 with fail
   clear qA qR qB y0 y1 y2;generalize wr.alloc (.cells #[.int .i64 sj,.int .i64 rj,.int .i64 cj] 24)=W3 at *;generalize wr.heap.size=kc at *;obtain ⟨a0,a1,a2,a3,a4,f0,f1,f2,f3,f4⟩:=sA.five;obtain ⟨z0,z1,z2,g0,g1,g2⟩:=sC.three;have hkc:¬ kc=k:=by omega
   go_cut [] (λwx=>Below w.heap.size w wx/\AtL wx w.heap.size [.int .i64 0,.int .i64 0,.int .i64 0,.int .i64 0,.int .i64 0]/\AtL wx kc [.int .i64 sj,.int .i64 rj,.int .i64 cj]/\∃ t' b':Int,Hid (t'=min t rj)/\Hid (b'=max b rj)/\AtL wx k [.int .i64 s0,.int .i64 t',.int .i64 l,.int .i64 b',.int .i64 r])
   case first =>
    go_region
    go_wp2_with fail
    all_goals go_meet
    all_goals
     clear a0 a1 a2 a3 a4 f0 f1 f2 f3 f4 z0 z1 z2 g0 g1 g2;refine ⟨((sB.setCell (p:=⟨k,1,none⟩) (by show w.heap.size<=k;omega) _).setCell (p:=⟨k,3,none⟩) (by show w.heap.size<=k;omega) _).drew,((sR.far (j:=k) (by omega) 1 _).far (j:=k) (by omega) 3 _).drew,((sC.far (j:=k) (by omega) 1 _).far (j:=k) (by omega) 3 _).drew,_,_,?_,?_,((sA.set 1 _).set 3 _).drew⟩
     ·go_light;show _=_;omega
     ·go_light;show _=_;omega
   case rest =>
   clear sA sR sC sB a0 a1 a2 a3 a4 f0 f1 f2 f3 f4 z0 z1 z2 g0 g1 g2;obtain ⟨tB,tR,tC,t',b',Et,Eb,tA⟩:=hcut;rw [<-Et.out,<-Eb.out] at E1;clear Et Eb;go_upto_region 9 with fail
   obtain ⟨a0,a1,a2,a3,a4,f0,f1,f2,f3,f4⟩:=AtL.five tA;obtain ⟨z0,z1,z2,g0,g1,g2⟩:=tC.three;refine zJq λK9 hK9=>?_
   go_cut [] (λwx=>Below w.heap.size w wx/\AtL wx w.heap.size [.int .i64 0,.int .i64 0,.int .i64 0,.int .i64 0,.int .i64 0]/\∃ l' r':Int,Hid (l'=min l cj)/\Hid (r'=max r cj)/\AtL wx k [.int .i64 s0,.int .i64 t',.int .i64 l',.int .i64 b',.int .i64 r'])
   case first =>
    go_region
    go_wp2_with fail
    all_goals go_meet
    all_goals
     clear a0 a1 a2 a3 a4 f0 f1 f2 f3 f4 z0 z1 z2 g0 g1 g2;refine ⟨((tB.setCell (p:=⟨k,2,none⟩) (by show w.heap.size<=k;omega) _).setCell (p:=⟨k,4,none⟩) (by show w.heap.size<=k;omega) _).drew,((tR.far (j:=k) (by omega) 2 _).far (j:=k) (by omega) 4 _).drew,_,_,?_,?_,((AtL.set tA 2 _).set 4 _).drew⟩
     ·go_light;show _=_;omega
     ·go_light;show _=_;omega
   case rest =>
   obtain ⟨vB,vR,l',r',El,Er,vA⟩:=hcut;rw [<-El.out,<-Er.out] at E1;clear El Er;clear tB tR tA tC a0 a1 a2 a3 a4 f0 f1 f2 f3 f4 z0 z1 z2 g0 g1 g2;refine hK9 _ _ ?_;go_wp2_with fail
   go_roundw
   case rel =>
    exact ⟨j+1,t',l',b',r',by omega,by go_num,E1,vB,vR,vA⟩
   case measure=>simp [intOf];omega
  ·have hltz:¬ (j:Int)<((n - 1:Nat):Int):=by omega
   have hj':j=n - 1:=by omega
   have HV':Hid (Wpl.hullV F n=⟨s0,t,l,b,r⟩):=by show _=_;rw [HV.out,<-hj',E.out]
   clear hj' E HV;have sR:=qR.put5 (.int .i64 s0) (.int .i64 t) (.int .i64 l) (.int .i64 b) (.int .i64 r);have sB:=zAx qB (Nat.le_refl w.heap.size) (.int .i64 s0) (.int .i64 t) (.int .i64 l) (.int .i64 b) (.int .i64 r);obtain ⟨a0,a1,a2,a3,a4,f0,f1,f2,f3,f4⟩:=qA.five;obtain ⟨z0,z1,z2,z3,z4,g0,g1,g2,g3,g4⟩:=qR.five;go_wp2;obtain ⟨r0',r1,r2,r3,r4,_,_,_,_,_⟩:=sR.five;refine bodyPost_ret (v:=.tuple #[.agg #[.int .i64 s0,.int .i64 t,.int .i64 l,.int .i64 b,.int .i64 r],.bool true]) (by simp [results,results106,go_sem,z0,z1,z2,z3,z4]) rfl ⟨by rw [HV'.out,HO.out],?_⟩;exact sB
theorem zHW (blk off n cap:Nat) (F:Nat->Wpl.Cl) (w:World) (hn0:0<n) (hn:n<=1000000000000000) (hcap:n<=cap) (hcap2:cap<=9223372036854775807) (hb:blk<w.heap.size) (hc:Cells w blk off n F) :
  CR 106 #[.slice (some ⟨blk,off,none⟩) n cap] w (.tuple #[.agg #[.int .i64 (Wpl.hullV F n).s,.int .i64 (Wpl.hullV F n).t,.int .i64 (Wpl.hullV F n).l,.int .i64 (Wpl.hullV F n).b,.int .i64 (Wpl.hullV F n).r],.bool (Wpl.hullOk F n)]):=by
 cases hA:Wpl.anyN (F 0).s F n with
 | true=>exact zGe blk off n cap F w hn0 hn hcap hcap2 hb hc hA
 | false =>
  by_cases h1:cap=1
  ·exact zIP blk off n cap F w hn0 hn hcap hcap2 hb hc hA h1
  ·exact zGP blk off n cap F w hn0 hn hcap hcap2 hb hc hA h1
theorem zCN (s t l b r:Int):(Wpl.rightC s t l && (Wpl.rightC s b r && (decide (t<=b) && decide (l<=r))))=Wpl.rightA s t l b r:=by
 rw [Bool.eq_iff_iff];simp only [Bool.and_eq_true,Wpl.rightC_iff,Wpl.rightA_iff,decide_eq_true_eq];omega
theorem zAl (s t l b r:Int) (w:World) :
  CR 95 #[.agg #[.int .i64 s,.int .i64 t,.int .i64 l,.int .i64 b,.int .i64 r]] w (.bool (Wpl.rightA s t l b r)):=by
 have RH:Hid ((Wpl.rightC s t l && (Wpl.rightC s b r && (decide (t<=b) && decide (l<=r))))=Wpl.rightA s t l b r):=zCN s t l b r;have R1:=λw=>zAg s t l w
 have R2:=λw=>zAg s b r w
 have F:=λw=>zF0 s t l b r w
 have L:=λw=>zI4 s t l b r w
 generalize Wpl.rightC s t l=q1 at *;generalize Wpl.rightC s b r=q2 at *;generalize Wpl.rightA s t l b r=A at *;have pA:=AtL.new0 w 53 [.int .i64 s,.int .i64 t,.int .i64 l,.int .i64 b,.int .i64 r];have hB:=zBf (Below.refl _ w) (.cells #[.int .i64 s,.int .i64 t,.int .i64 l,.int .i64 b,.int .i64 r] 53);go_enter func95,ntmps95;go_upto_region 1 with fail
 generalize w.alloc (.cells #[.int .i64 s,.int .i64 t,.int .i64 l,.int .i64 b,.int .i64 r] 53)=W0 at *;obtain ⟨a0,a1,a2,a3,a4,_,_,_,_,_⟩:=pA.five;go_wp2_with fail
 refine (F _).mono ?_;rintro e w1 ⟨rfl,hb1⟩;replace pA:=AtL.below hb1 pA
 replace hB:=zAh hB hb1
 clear a0 a1 a2 a3 a4 hb1 F;go_wp2_with fail
 refine (R1 _).mono ?_;rintro e w2 ⟨rfl,hb2⟩;replace pA:=AtL.below hb2 pA
 replace hB:=zAh hB hb2
 clear hb2 R1;obtain ⟨a0,a1,a2,a3,a4,_,_,_,_,_⟩:=pA.five;cases q1 with
 | false =>
  go_wp2;go_ret;exact ⟨by rw [<-RH.out];rfl,hB⟩
 | true =>
  go_wp2_with fail
  refine (L _).mono ?_;rintro e w3 ⟨rfl,hb3⟩;replace pA:=AtL.below hb3 pA
  replace hB:=zAh hB hb3
  clear a0 a1 a2 a3 a4 hb3 L;go_wp2_with fail
  refine (R2 _).mono ?_;rintro e w4 ⟨rfl,hb4⟩;replace pA:=AtL.below hb4 pA
  replace hB:=zAh hB hb4
  clear hb4 R2;obtain ⟨a0,a1,a2,a3,a4,_,_,_,_,_⟩:=pA.five;cases q2 with
  | false =>
   go_wp2;go_ret;exact ⟨by rw [<-RH.out];rfl,hB⟩
  | true =>
   by_cases h1:t<=b
   ·by_cases h2:l<=r
    ·go_wp2;go_ret;exact ⟨by rw [<-RH.out];simp [h1,h2],hB⟩
    ·go_wp2;go_ret;exact ⟨by rw [<-RH.out];simp [h1],hB⟩
   ·go_wp2;go_ret;exact ⟨by rw [<-RH.out];simp;omega,hB⟩
open Go.RowKit Wf
def RtN (x:Wt.Nd):Prop:=Wt.inR x.a.r x.a.c=true/\Wt.inR x.b.r x.b.c=true
theorem zIA {x:Wt.Nd} (h:Wt.right x=true) (hk:x.k=3):RtN x:=by
 unfold Wt.right at h;rw [if_neg (by omega),if_neg (by omega),if_pos hk] at h;simp only [Bool.and_eq_true,Wt.rfOk] at h;exact ⟨h.1.1.1.1,h.1.1.2.1⟩
theorem zIe (own:Int) (nm:List ByteArray) (av2:Option Addr) (m2 cap2:Nat) (x:Wt.Nd) (L:List (Wt.Nd × Value)) (av:Option Addr) (m cap:Nat) (w:World) (hN:NmAt w) (hS:RdS w av2 nm) (hm2:m2=nm.length) (hl2:nm.length<=16) (hm:m=L.length) (hl:L.length<=30) (hR:RdQ w av L) (hC:x.k=6->∀ W:World,NmAt W->RdQ W av L->Calls prog 80 #[.agg (zAP x (.slice av m cap)).toArray] W λe w'=>e=.returned (.int .i64 (zLT x (L.map (·.1))))/\Below W.heap.size W w') :
  CR 46 #[.agg (zAP x (.slice av m cap)).toArray,zBx own av2 m2 cap2] w (.int .i64 (zJX own nm x (L.map (·.1)))):=by
 have hb:=zAK (zAK (Below.refl _ w) (.cells (zAP x (.slice av m cap)).toArray 64)) (.cells #[.int .i64 own,.slice av2 m2 cap2] 60);have pP:=(AtL.new0 w 64 (zAP x (.slice av m cap))).alloc (.cells #[.int .i64 own,.slice av2 m2 cap2] 60);have pS:=AtL.new1 w (.cells (zAP x (.slice av m cap)).toArray 64) 60 [.int .i64 own,.slice av2 m2 cap2];have c0:=pP.2.1 0 (.int .i64 x.k) rfl;have c10:=pP.2.1 10 (.string x.a.s) rfl;have c20:=pP.2.1 20 (.slice av m cap) rfl;have s0:=pS.2.1 0 _ rfl;have s1:=pS.2.1 1 _ rfl;have rP:=pP.range;have SH:=zCl own nm x.a.s av2 m2 cap2 _ hm2 hl2 (hS.below hb);have CT:=zC2 L av m cap _ hm hl (hR.below hb);have hany:L.any (λp=>isA p.1)=(L.map (·.1)).any isA:=by rw [List.any_map];rfl
 rw [hany] at CT;have HRC:Hid (x.k=6->Calls prog 80 #[.agg (zAP x (.slice av m cap)).toArray] ((w.alloc (.cells (zAP x (.slice av m cap)).toArray 64)).alloc (.cells #[.int .i64 own,.slice av2 m2 cap2] 60)) λe w'=>e=.returned (.int .i64 (zLT x (L.map (·.1))))/\Below ((w.alloc (.cells (zAP x (.slice av m cap)).toArray 64)).alloc (.cells #[.int .i64 own,.slice av2 m2 cap2] 60)).heap.size ((w.alloc (.cells (zAP x (.slice av m cap)).toArray 64)).alloc (.cells #[.int .i64 own,.slice av2 m2 cap2] 60)) w'):=λh6=>hC h6 _ (hN.below hb) (hR.below hb)
 clear hany pP pS hN hS hm2 hl2 hm hl hR hC;unfold zJX;generalize zLT x (L.map (·.1))=rc at *;generalize (L.map (·.1)).any isA=qa at *;generalize shN own nm x.a.s=sn at *;by_cases h2:x.k=2
 ·rw [if_pos (Or.inl h2)];rw [h2] at c0;obtain ⟨z,hz⟩:∃ z:Int,(if sn<0 then 84 else 0)=z:=⟨_,rfl⟩
  rw [hz];have HZ:Hid ((if sn<0 then (84:Int) else 0)=z):=hz;clear hz;clear CT HRC h2;go_enter func46,ntmps46;go_upto_region 1 with fail
  generalize ((w.alloc (.cells (zAP x (.slice av m cap)).toArray 64)).alloc (.cells #[.int .i64 own,.slice av2 m2 cap2] 60))=W at *;go_wp2_with fail
  refine SH.mono ?_;rintro e w1 ⟨rfl,hb1⟩;have hB:=zAB hb hb1;by_cases hs:sn<0
  ·go_wp2;go_ret;exact ⟨congrArg (λz=>Ending.returned (Value.int .i64 z)) (by rw [<-HZ.out,if_pos (by omega)]:(84:Int)=z),hB⟩
  ·go_wp2;go_ret;exact ⟨congrArg (λz=>Ending.returned (Value.int .i64 z)) (by rw [<-HZ.out,if_neg (by omega)]:(0:Int)=z),hB⟩
 by_cases h3:x.k=3
 ·rw [if_pos (Or.inr h3)];rw [h3] at c0;obtain ⟨z,hz⟩:∃ z:Int,(if sn<0 then 84 else 0)=z:=⟨_,rfl⟩
  rw [hz];have HZ:Hid ((if sn<0 then (84:Int) else 0)=z):=hz;clear hz;clear CT HRC h2 h3;go_enter func46,ntmps46;go_upto_region 1 with fail
  generalize ((w.alloc (.cells (zAP x (.slice av m cap)).toArray 64)).alloc (.cells #[.int .i64 own,.slice av2 m2 cap2] 60))=W at *;go_wp2_with fail
  refine SH.mono ?_;rintro e w1 ⟨rfl,hb1⟩;have hB:=zAB hb hb1;by_cases hs:sn<0
  ·go_wp2;go_ret;exact ⟨congrArg (λz=>Ending.returned (Value.int .i64 z)) (by rw [<-HZ.out,if_pos (by omega)]:(84:Int)=z),hB⟩
  ·go_wp2;go_ret;exact ⟨congrArg (λz=>Ending.returned (Value.int .i64 z)) (by rw [<-HZ.out,if_neg (by omega)]:(0:Int)=z),hB⟩
 rw [if_neg (λh=>h.elim h2 h3)];by_cases h4:x.k=4
 ·rw [if_pos (Or.inl h4)];rw [h4] at c0;clear SH HRC h2 h3 h4;go_enter func46,ntmps46;go_upto_region 1 with fail
  generalize ((w.alloc (.cells (zAP x (.slice av m cap)).toArray 64)).alloc (.cells #[.int .i64 own,.slice av2 m2 cap2] 60))=W at *;go_wp2_with fail
  refine CT.mono ?_;rintro e w1 ⟨rfl,hb1⟩;have hB:=zAB hb hb1;cases qa with
  | true =>
   go_wp2;go_ret;exact ⟨rfl,hB⟩
  | false =>
   go_wp2;go_ret;exact ⟨rfl,hB⟩
 by_cases h5:x.k=5
 ·rw [if_pos (Or.inr h5)];rw [h5] at c0;clear SH HRC h2 h3 h4 h5;go_enter func46,ntmps46;go_upto_region 1 with fail
  generalize ((w.alloc (.cells (zAP x (.slice av m cap)).toArray 64)).alloc (.cells #[.int .i64 own,.slice av2 m2 cap2] 60))=W at *;go_wp2_with fail
  refine CT.mono ?_;rintro e w1 ⟨rfl,hb1⟩;have hB:=zAB hb hb1;cases qa with
  | true =>
   go_wp2;go_ret;exact ⟨rfl,hB⟩
  | false =>
   go_wp2;go_ret;exact ⟨rfl,hB⟩
 rw [if_neg (λh=>h.elim h4 h5)];by_cases h6:x.k=6
 ·rw [if_pos h6];have RC:=HRC.out h6;rw [h6] at c0;clear SH CT HRC h2 h3 h4 h5 h6;go_enter func46,ntmps46;go_upto_region 1 with fail
  generalize ((w.alloc (.cells (zAP x (.slice av m cap)).toArray 64)).alloc (.cells #[.int .i64 own,.slice av2 m2 cap2] 60))=W at *;go_wp2_with (first | (refine zAA (by rfl) 64 (.tmp 2) rfl w.heap.size 0 rfl (zAP x (.slice av m cap)) _ rP underlying64 rfl (by kernel_rfl) ?_))
  refine RC.mono ?_;rintro e w1 ⟨rfl,hb1⟩;have hB:=zAB hb hb1;go_wp2;go_ret;exact ⟨rfl,hB⟩
 rw [if_neg h6];clear SH CT HRC;go_enter func46,ntmps46;go_upto_region 1 with fail
 generalize ((w.alloc (.cells (zAP x (.slice av m cap)).toArray 64)).alloc (.cells #[.int .i64 own,.slice av2 m2 cap2] 60))=W at *;go_wp2;go_ret;exact ⟨rfl,hb⟩
def go0 (c:Int) (l:List Int):Int:=if c=0 then zLf l else c
theorem zKz {lo hi:Nat} {ps:List (Tr n × Value)} (h:∀ p ∈ ps,PA n lo hi w p.1 p.2):∀ q ∈ (ps.map λp=>(hd n p.1,p.2)),∃ a b c,q.2=Value.slice a b c:=λq hq=>by
 obtain ⟨p,hp,rfl⟩:=List.mem_map.1 hq;exact (h p hp).slice
theorem zJy:∀ {n:Nat} {t:Tr n},zCi n t->Wt.right (hd n t)=true
 | 0,t,_=>Empty.elim t
 | n+1,t,h=>h.1
theorem zJs {ps:List (Tr n × Value)} (h:∀ p ∈ ps,zCi n p.1):∀ q ∈ (ps.map λp=>(hd n p.1,p.2)),isA q.1=true->RtN q.1:=λq hq ha=>by
 obtain ⟨p,hp,rfl⟩:=List.mem_map.1 hq;exact zIA (zJy (h p hp)) (by simpa [isA] using ha)
def RfC (own:Int) (nm:List ByteArray) (av2:Option Addr) (m2 cap2 n:Nat):Prop:=∀ (t:Tr n) (sl:Value) (lo hi:Nat) (w:World),zCi n t->PA n lo hi w t sl->NmAt w->RdS w av2 nm ->
 CR 25 #[.agg (zAP (hd n t) sl).toArray,zBx own av2 m2 cap2] w (.int .i64 (zCJ own nm n t))
def RfT (own:Int) (nm:List ByteArray) (av2:Option Addr) (m2 cap2 n:Nat) (t:Tr n):Prop:=∀ (sl:Value) (lo hi:Nat) (w:World),zCi n t->PA n lo hi w t sl->NmAt w->RdS w av2 nm ->
 CR 25 #[.agg (zAP (hd n t) sl).toArray,zBx own av2 m2 cap2] w (.int .i64 (zCJ own nm n t))
def RcC (x:Wt.Nd):Prop:=x.k=6->∀ (L:List (Wt.Nd × Value)) (av:Option Addr) (m cap:Nat) (w:World),NmAt w->m=L.length->L.length<=30->x.ar=(L.length:Int)->(∀ q ∈ L,∃ a b c,q.2=.slice a b c)->RdQ w av L->(∀ q ∈ L,isA q.1=true->RtN q.1)->CR 80 #[.agg (zAP x (.slice av m cap)).toArray] w (.int .i64 (zLT x (L.map (·.1))))
theorem zKg (own:Int) (nm:List ByteArray) (av2:Option Addr) (m2 cap2:Nat) (hm2:m2=nm.length) (hl2:nm.length<=16) (n:Nat) (ih:RfC own nm av2 m2 cap2 n) (t:Tr (n+1)) (hC:RcC (hd (n+1) t)):RfT own nm av2 m2 cap2 (n+1) t:=by
 intro sl lo hi w hF hP hN hS;obtain ⟨x,ks⟩:Br (Tr n):=t;obtain ⟨hx,hp,hks⟩:=hF;replace hx:Wt.right x=true:=hx
 replace hp:Wt.parts x=(ks.length:Int):=hp
 replace hks:∀ k ∈ ks,zCi n k:=hks
 obtain ⟨av,cap,ps,q1,rfl,q2c,q3,q4⟩:=hP;replace q1:ps.map (·.1)=ks:=q1
 have hhd:hd (n+1) (⟨x,ks⟩:Br (Tr n))=x:=rfl;rw [hhd];replace hC:RcC x:=hC
 have hlen:ps.length=ks.length:=by rw [<-q1,List.length_map]
 have hl30:ps.length<=30:=by have:=(Wt.parts_le hx).2;omega
 have hfp:∀ p ∈ ps,zCi n p.1:=λp hp=>hks p.1 (by rw [<-q1];exact List.mem_map.2 ⟨p,hp,rfl⟩)
 have har:x.k=6->x.ar=((ps.map λp=>(hd n p.1,p.2)).length:Int):=λh6=>by
  rw [List.length_map,hlen,<-hp];unfold Wt.parts;rw [if_neg (by omega),if_neg (by omega)]
 have hb:=zAK (zAK (Below.refl _ w) (.cells (zAP x (.slice av ps.length cap)).toArray 64)) (.cells #[.int .i64 own,.slice av2 m2 cap2] 60);have pP:=(AtL.new0 w 64 (zAP x (.slice av ps.length cap))).alloc (.cells #[.int .i64 own,.slice av2 m2 cap2] 60);have pS:=AtL.new1 w (.cells (zAP x (.slice av ps.length cap)).toArray 64) 60 [.int .i64 own,.slice av2 m2 cap2];have RN:=zIe own nm av2 m2 cap2 x (ps.map λp=>(hd n p.1,p.2)) av ps.length cap _ (hN.below hb) (hS.below hb) hm2 hl2 (by rw [List.length_map]) (by rw [List.length_map];exact hl30) (q3.q.below hb) λh6 W hNW hRW=>hC h6 (ps.map λp=>(hd n p.1,p.2)) av ps.length cap W hNW (by rw [List.length_map]) (by rw [List.length_map];exact hl30) (har h6) (zKz q4) hRW (zJs hfp)
 have hmap:(ps.map λp=>(hd n p.1,p.2)).map (·.1)=ks.map (hd n):=by rw [<-q1,List.map_map,List.map_map];rfl
 rw [hmap] at RN;have hq:zCJ own nm (n+1) (⟨x,ks⟩:Br (Tr n))=go0 (zJX own nm x (ks.map (hd n))) (ps.map λp=>zCJ own nm n p.1):=by
  have e1:(ps.map λp=>zCJ own nm n p.1)=ks.map (zCJ own nm n):=by rw [<-q1,List.map_map];rfl
  rw [e1];rfl
 rw [hq];generalize zJX own nm x (ks.map (hd n))=r0 at *;obtain ⟨q,hqq⟩:∃ q,go0 r0 (ps.map λp=>zCJ own nm n p.1)=q:=⟨_,rfl⟩
 rw [hqq];have HQ0:Hid (go0 r0 ((ps.drop 0).map λp=>zCJ own nm n p.1)=q):=hqq;have HFP:Hid (∀ p ∈ ps,zCi n p.1):=hfp;have HPA:Hid (∀ p ∈ ps,PA n lo hi w p.1 p.2):=q4;have HRT:Hid (RdT n lo hi w av ps):=q3;have HNS:Hid (NmAt w/\RdS w av2 nm):=⟨hN,hS⟩
 have HIH:Hid (RfC own nm av2 m2 cap2 n):=ih;clear hx hp hks q1 q2c q3 q4 hhd hlen hfp har hmap hq hqq hN hS ih hm2 hl2 hC;have HML:Hid (ps.length<=30):=hl30;clear hl30;have HPS:Hid (∀ (i:Nat) (h:i<ps.length),ps.drop i=ps[i]::ps.drop (i+1)):=λi h=>List.drop_eq_getElem_cons h
 obtain ⟨m,hm⟩:∃ m,ps.length=m:=⟨_,rfl⟩
 have HMM:Hid (ps.length=m):=hm;rw [hm] at pP RN hb pS ⊢;clear hm;have c20':=pP.2.1 20 (.slice av m cap) rfl;have rP:=pP.range;have s0:=pS.2.1 0 _ rfl;have s1:=pS.2.1 1 _ rfl;go_enter func25,ntmps25;go_upto_region 1 with fail
 have HBW:Hid (Below w.heap.size w ((w.alloc (.cells (zAP x (.slice av m cap)).toArray 64)).alloc (.cells [.int .i64 own,.slice av2 m2 cap2].toArray 60))):=hb;clear hb;generalize ((w.alloc (.cells (zAP x (.slice av m cap)).toArray 64)).alloc (.cells [.int .i64 own,.slice av2 m2 cap2].toArray 60))=W at *;go_wp2_with (first | (refine zAA (by rfl) 64 (.tmp 2) rfl w.heap.size 0 rfl (zAP x (.slice av m cap)) _ rP underlying64 rfl (by kernel_rfl) ?_))
 refine RN.mono ?_;rintro e W1 ⟨rfl,hb1⟩;have HC20:Hid (W1.cell? ⟨w.heap.size,20,none⟩=some (.slice av m cap)):=zAC hb1 c20';have HRS:Hid (W1.rangeAt (w.heap.size+1) 0 [.int .i64 own,.slice av2 m2 cap2]):=zAI hb1 pS.range;have HB1:Hid (Below w.heap.size w W1):=zAB HBW.out hb1;clear RN c20' rP s0 s1 pP pS hb1 HBW;go_wp2_with fail
 go_loopg [5,6] m (λgk u5 u6 wr=>∃ (i:Nat) (c:Int),u5=.int .i64 c/\u6=.int .i64 (i:Int)/\gk=m - i/\i<=m/\Hid (go0 c ((ps.drop i).map λp=>zCJ own nm n p.1)=q)/\Hid (Below W1.heap.size W1 wr))
 case atStart=>exact ⟨0,r0,rfl,rfl,rfl,Nat.zero_le _,HQ0,Below.refl _ _⟩
 case round =>
  clear HQ0;obtain ⟨i,c,rfl,rfl,hg,him,HQ,HB⟩:=hrel;have c20:=zAC HB.out HC20.out;by_cases hlt:i<m
  ·have hli:(i:Int)<(m:Int):=by omega
   by_cases hc:c=0
   ·subst hc;have hiz:(0:Int)<=(i:Int):=by omega
    have hwi:IntKind.i64.wrap ((i:Int)+1)=(i:Int)+1:=by have:=HML.out;have:=HMM.out;rw [IntKind.wrap_i64];omega
    have hln:i<ps.length:=by have:=HMM.out;omega
    obtain ⟨bb,off,_,_,rfl,hr⟩:=HRT.out i hln;have hbW:=zAB HB1.out HB.out;have ry:=zAI hbW hr;have rs:=zAI HB.out HRS.out;have hd1:=HPS.out i hln;have KC0:=λ(W2:World) (h:Below W1.heap.size W1 W2)=>HIH.out (ps[i]).1 (ps[i]).2 lo hi W2 (HFP.out _ (List.getElem_mem hln)) (PA.kept (Kept.of_below (zAB HB1.out h)) n _ _ (HPA.out _ (List.getElem_mem hln))) (HNS.out.1.below (zAB HB1.out h)) (HNS.out.2.below (zAB HB1.out h))
    obtain ⟨sa,sb,sc,hsl⟩:=(HPA.out _ (List.getElem_mem hln)).slice;have HQ2:Hid (go0 (zCJ own nm n (ps[i]).1) ((ps.drop (i+1)).map λp=>zCJ own nm n p.1)=q):=by
     show _=_
     rw [<-HQ.out,hd1];rfl
    obtain ⟨rt,hrt⟩:∃ r,zCJ own nm n (ps[i]).1=r:=⟨_,rfl⟩
    obtain ⟨y,hy⟩:∃ y,hd n (ps[i]).1=y:=⟨_,rfl⟩
    rw [hsl,hy] at ry;rw [hrt] at HQ2;have KC:∀ (W2:World),Below W1.heap.size W1 W2->Calls prog 25 #[.agg (zAP y (.slice sa sb sc)).toArray,zBx own av2 m2 cap2] W2 λe w'=>e=.returned (.int .i64 rt)/\Below W2.heap.size W2 w':=by
     intro W2 h;have:=KC0 W2 h;rw [hsl,hy,hrt] at this;exact this
    clear KC0 hsl hy hrt hd1 hr hbW hln HQ;go_upto_region 5 with fail
    have HBD:Hid (Below W1.heap.size W1 wr.drew):=HB.out.drew;replace c20:wr.drew.cell? ⟨w.heap.size,20,none⟩=some (.slice (some ⟨bb,off,none⟩) m cap):=c20
    replace ry:wr.drew.rangeAt bb (off+i * 21) (zAP y (.slice sa sb sc)):=ry
    replace rs:wr.drew.rangeAt (w.heap.size+1) 0 [.int .i64 own,.slice av2 m2 cap2]:=rs
    refine wp_region_held_drew (S:=λW=>W.cell? ⟨w.heap.size,20,none⟩=some (.slice (some ⟨bb,off,none⟩) m cap)/\W.rangeAt bb (off+i * 21) (zAP y (.slice sa sb sc))/\W.rangeAt (w.heap.size+1) 0 [.int .i64 own,.slice av2 m2 cap2]) (by kernel_rfl) ⟨c20,ry,rs⟩ (λhHeld=>?_);generalize wr.drew=WD at *;refine tkQ 0 ?_
    refine tkQ 1 ?_
    refine tkQ 2 ?_
    refine tkQ 3 ?_
    refine wpAnyH_take (i:=4) (v:=.agg (zAP y (.slice sa sb sc)).toArray) (atQ rfl) (by kernel_rfl) (by kernel_rfl) (by kernel_rfl) (λ_ _ _ h=>h) (yieldsIf_load_mid (by rfl) 64 (.tmp 24) rfl (bb) (off+i * 21) rfl (zAP y (.slice sa sb sc)) _ (λ_ h=>h.2.1) underlying64 rfl (by kernel_rfl)) (by assumption) ?_;try simp only [Act.put,lA,lZ,lS]
    refine wpAnyH_take (i:=5) (v:=.agg ([.int .i64 own,.slice av2 m2 cap2]).toArray) (atQ rfl) (by kernel_rfl) (by kernel_rfl) (by kernel_rfl) (λ_ _ _ h=>h) (yieldsIf_load_mid (by rfl) 60 (.tmp 3) rfl (w.heap.size+1) (0) rfl ([.int .i64 own,.slice av2 m2 cap2]) _ (λ_ h=>h.2.2) underlying60 rfl (by kernel_rfl)) (by assumption) ?_;try simp only [Act.put,lA,lZ,lS]
    refine rdQ 6 (λK hK=>?_);go_simp
    refine (KC _ HBD.out).mono ?_;rintro e w2 ⟨rfl,hb2⟩;go_wp2_with fail
    have HB2:Hid (Below W1.heap.size W1 w2):=zAB HBD.out hb2;replace c20:=zAC hb2 c20
    replace ry:=zAI hb2 ry
    replace rs:=zAI hb2 rs
    refine hkQ hK ⟨c20,ry,rs⟩ (λhHeld=>?_);clear hK K
    refine rdQ 7 (λK hK=>?_);go_simp
    refine hkQ hK ⟨c20,ry,rs⟩ (λhHeld=>?_);clear hK K
    refine wpAnyH_done (by kernel_rfl) ?_ _;clear hHeld ry rs c20;go_wp2_with fail
    go_roundg (m - (i+1))
    case rel=>exact ⟨i+1,rt,rfl,by simp,rfl,hlt,HQ2,HB2⟩
    case measure=>omega
   ·have hq:q=c:=by rw [<-HQ.out];unfold go0;rw [if_neg hc]
    subst hq;have hB:=zAB HB1.out HB.out;go_wp2;go_ret;exact ⟨rfl,hB⟩
  ·have hli:¬ (i:Int)<(m:Int):=by omega
   have hq:q=c:=by
    have hie:ps.length<=i:=by have:=HMM.out;omega
    rw [<-HQ.out,List.drop_eq_nil_of_le hie];unfold go0;by_cases h0:c=0
    ·rw [if_pos h0,h0];rfl
    ·rw [if_neg h0]
   subst hq;have hB:=zAB HB1.out HB.out;go_wp2;go_ret;exact ⟨rfl,hB⟩
def Np (v:Value):Prop:=∀ l c,v=.slice none l c->c=0
theorem zAd {a:Addr} {c:Nat}:Np (.slice (some a) n c):=λl c e=>nomatch e
def OwnZ (w:World) (B:Nat) (v:Value) (A:List Int):Prop:=w.ownsRow B 3 1 v A.length (A.map (Value.int .i64))
theorem OwnZ.nil (w:World) (B:Nat):OwnZ w B (.slice none 0 0) []:=⟨rfl,Or.inl ⟨rfl,rfl⟩⟩
theorem OwnZ.rd (h:OwnZ w B v A):RdZ w v A:=by
 rcases h.2 with ⟨e,h0⟩ | ⟨g,cap,cur,e,hb,hg,h1,h2,h3,h4⟩
 ·have hA:A=[]:=List.eq_nil_of_length_eq_zero h0;subst hA;rw [e];exact RdZ.nil w
 ·refine ⟨some ⟨g,0,none⟩,cap,e,λi hi=>⟨g,0,rfl,?_⟩⟩;have hx:(A.map (Value.int .i64))[i]? = some (.int .i64 (A[i])):=by simp [hi]
  rw [<-h4,List.getElem?_take_of_lt (by omega)] at hx;unfold World.cell?;simp only [hg];simpa using hx
theorem OwnZ.np (h:OwnZ w B v A):Np v:=by
 intro l c e;rcases h.2 with ⟨e2,_⟩ | ⟨g,cap,cur,e2,_⟩
 ·rw [e2] at e;cases e;rfl
 ·rw [e2] at e;cases e
theorem OwnZ.blk (h:OwnZ w B v A) {g:Nat} (e:v.ownBlock=some g):B<=g/\g<w.heap.size:=by
 rcases h.2 with ⟨rfl,_⟩ | ⟨g',cap,cur,rfl,hb,hg,_⟩
 ·cases e
 ·have e2:g'=g:=by simpa [Value.ownBlock] using e
  subst e2;refine ⟨hb,?_⟩;rcases Nat.lt_or_ge g' w.heap.size with q | q
  ·exact q
  ·rw [Array.getElem?_eq_none q] at hg;cases hg
theorem OwnZ.below (h:OwnZ w B v A) (hb:Below w.heap.size w w'):OwnZ w' B v A:=by
 have hk:=λ{g} (e:v.ownBlock=some g)=>h.blk e
 refine ⟨h.1,?_⟩;rcases h.2 with q | ⟨g,cap,cur,rfl,h1,hg,r⟩
 ·exact Or.inl q
 ·exact Or.inr ⟨g,cap,cur,rfl,h1,by rw [hb.block g (hk rfl).2];exact hg,r⟩
theorem zC9:(prog.info? 3).map (λi=>(i.zero,i.size,i.bytes))=some (some (.int .i64 0),1,8):=by kernel_rfl
theorem zB3 {a:Act} {K:Act->World->Prop} {Q:Exit->Act->World->Prop} (s x:Operand) (ho:o.op=.call {callee:=.builtin .append,args:=#[s,x],argTypes:=#[54,54]})
  (w:World) (B:Nat) (hB:B<=w.heap.size) (v:Value) (A:List Int) (hs:a.eval s=v) (hown:OwnZ w B v A) (vx:Value) (L:List Int) (hx:a.eval x=vx) (hrd:RdZ w vx L) (hnp:Np vx) (hl:A.length+L.length<=2000000)
  (h:∀ v' w',OwnZ w' B v' (A++L)->w.grownBy w' v.ownBlock->K (a.put o.dst v') w'):o.wp prog a w K Q:=by
 obtain ⟨i0,hi0,hz0,hz1,hz2⟩:=info_parts zC9;obtain ⟨av,cap,rfl,f⟩:=hrd;cases av with
 | none =>
  have hL:L=[]:=by
   cases L with
   | nil=>rfl
   | cons y r=>obtain ⟨bb,off,q,_⟩:=f 0 (by simp);cases q
  subst hL;have hc:=hnp _ _ rfl;subst hc;have hrun:=run_append_owned_none (P:=prog) (w:=w) B 54 o.type 3 i0 1 underlying54 hi0 v A.length (A.map (Value.int .i64)) hown;unfold Oper.wp;simp only [execOp,ho,resolve,invoke,builtin,Sem.run_bind,Sem.run_pure,Result.andThen_ok,List.map_toArray,List.map_cons,List.map_nil,hs,hx,List.length_nil,hrun];exact (h v w (by rw [List.append_nil];exact hown) (World.grownBy.refl _ _))
 | some ad =>
  refine wp_append_own _ s x 54 ho B 3 i0 _ 1 8 underlying54 hi0 hz0 hz1 hz2 rfl (by decide) v A.length (A.map (Value.int .i64)) hs hown ad L.length cap (L.map (Value.int .i64)) hx (by simp) (λj u hj=>?_) (λu hu=>?_) (by unfold maxLen;omega) (by omega) hB ?_
  ·rw [List.getElem?_map] at hj;cases hLj:L[j]? with
   | none=>rw [hLj] at hj;cases hj
   | some z =>
    rw [hLj] at hj;have hjl:j<L.length:=by
     rcases Nat.lt_or_ge j L.length with q | q
     ·exact q
     ·rw [List.getElem?_eq_none q] at hLj;cases hLj
    obtain ⟨bb,off,q1,q2⟩:=f j hjl;cases q1
    have hz:L[j]=z:=by rw [List.getElem?_eq_getElem hjl] at hLj;exact Option.some.inj hLj
    rw [hz] at q2;cases hj
    rw [show (⟨bb,off,none⟩:Addr).add j=⟨bb,off+j,none⟩ from by
     simp [Addr.add];try (intro h0;omega)]
    exact q2
  ·obtain ⟨z,_,rfl⟩:=List.mem_map.1 hu;rfl
  ·intro v' w' own hg _;refine h v' w' ?_ hg;unfold OwnZ;rw [List.length_append,List.map_append];exact own
theorem zA5 {ops:Array Oper} {rest:List Oper} {a:Act} {Q:Exit->Act->World->Prop} (hgd:o.guard=none) (s x:Operand) (ho:o.op=.call {callee:=.builtin .append,args:=#[s,x],argTypes:=#[54,54]})
  (w:World) (B:Nat) (hB:B<=w.heap.size) (v:Value) (A:List Int) (hs:a.eval s=v) (hown:OwnZ w B v A) (vx:Value) (L:List Int) (hx:a.eval x=vx) (hrd:RdZ w vx L) (hnp:Np vx) (hl:A.length+L.length<=2000000)
  (h:∀ v' w',OwnZ w' B v' (A++L)->w.grownBy w' v.ownBlock->wpList prog ops Q rest (a.put o.dst v') w'):wpList prog ops Q (o::rest) a w :=
 wpList_plain hgd λK hK=>zB3 s x ho w B hB v A hs hown vx L hx hrd hnp hl λv' w' h1 h2=>hK _ _ (h v' w' h1 h2)
def HndP (f:List Int) (w:World) (e:Ending) (w':World):Prop:=∃ r,e=.returned r/\RdZ w' r f/\Np r/\(∀ g,r.ownBlock=some g->w.heap.size<=g)
theorem HndP.of {r:Value} {f:List Int} (h:OwnZ w' B r f) (hB:w.heap.size<=B):HndP f w (.returned r) w':=⟨r,rfl,h.rd,h.np,λg e=>Nat.le_trans hB (h.blk e).1⟩
theorem zAr {W:World} (hb:Below w.heap.size w W) (ho:OwnZ W B v A) (hB:w.heap.size<=B) (hg:W.grownBy w' v.ownBlock):Below w.heap.size w w' :=
 hb.grown hg hb.size (λk e=>Nat.le_trans hB (ho.blk e).1)
theorem zDa (x:Wc.In) (tv fv:Value) (f:List Int) (w:World) (hz:RdZ w fv f) (hnp:Np fv) (hl:f.length<=1000000) (h10:x.op=10->f ≠ []) :
  Calls prog 69 #[inV x tv,fv] w λe w'=>HndP (Wc.fldR x.op x.a f) w e w'/\Below w.heap.size w w':=by
 have pA:=AtL.new0 w 56 (zAD x tv);have hB:=zAK (Below.refl _ w) (.cells (zAD x tv).toArray 56);have HZ:Hid (RdZ w fv f):=hz;have HL:Hid (f.length<=1000000):=hl;have HNP:Hid (Np fv):=hnp;have H10:Hid (x.op=10->f ≠ []):=h10;obtain ⟨q,hq⟩:∃ q,Wc.fldR x.op x.a f=q:=⟨_,rfl⟩
 have HQ:Hid (Wc.fldR x.op x.a f=q):=hq;rw [hq];clear hz hl hnp h10 hq;go_enter func69,ntmps69;go_upto_region 1 with fail
 generalize (w.alloc (.cells (zAD x tv).toArray 56))=W at *;have HBW:Hid (w.heap.size<=W.heap.size):=hB.size;go_upto_region 3 with (refine zA5 rfl (.tmp 6) (.tmp 7) rfl W W.heap.size (Nat.le_refl _) (.slice none 0 0) [] rfl (OwnZ.nil _ _) fv f rfl (HZ.out.below hB) HNP.out (by have:=HL.out;simp;omega) ?_;intro v1 w1 own1 hg1)
 rw [List.nil_append] at own1;have hB1:Below w.heap.size w w1:=zAr hB (OwnZ.nil _ W.heap.size) HBW.out hg1;have pA1:AtL w1 w.heap.size (zAD x tv):=⟨Nat.lt_of_lt_of_le pA.1 hg1.size,λi u hu=>by have:=pA.2.1 i u hu;rw [<-this];unfold World.cell?;rw [hg1.block _ pA.1 (by simp [Value.ownBlock])],λi hi=>by have:=pA.2.2 i hi;rw [<-this];unfold World.frozen?;rw [hg1.block _ pA.1 (by simp [Value.ownBlock])]⟩
 have a0:=pA1.2.1 0 _ rfl;have a1:=pA1.2.1 1 _ rfl;have HO1:Hid (OwnZ w1 W.heap.size v1 f):=own1;have HW1S:W.heap.size<=w1.heap.size:=hg1.size;clear hB pA hg1 own1;by_cases h6:x.op=6
 ·have hf:Hid (q=f++[x.a]):=by show _=_;rw [<-HQ.out];simp [Wc.fldR,h6]
  clear H10;have hbs:=zAK (Below.refl _ w1) (.cells #[.int .i64 x.a] 3);have pN:=AtL.new0 w1 3 [.int .i64 x.a];have n0:=pN.2.1 0 _ rfl;have HR:Hid (RdZ (w1.alloc (.cells #[.int .i64 x.a] 3)) (.slice (some ⟨w1.heap.size,0,none⟩) 1 1) [x.a]):=RdZ.one n0;have HO2:Hid (OwnZ (w1.alloc (.cells #[.int .i64 x.a] 3)) W.heap.size v1 f):=HO1.out.below hbs;have HB2:Hid (Below w.heap.size w (w1.alloc (.cells #[.int .i64 x.a] 3))):=zAB hB1 hbs;have HBS:Hid (W.heap.size<=(w1.alloc (.cells #[.int .i64 x.a] 3)).heap.size):=Nat.le_trans HW1S hbs.size;clear hbs pN n0;go_wp2_with (refine zA5 rfl (.tmp 12) (.tmp 15) rfl (w1.alloc (.cells #[.int .i64 x.a] 3)) W.heap.size HBS.out v1 f rfl HO2.out _ [x.a] rfl HR.out (λl c e=>by cases e) (by have:=HL.out;simp;omega) ?_;intro v2 w2 own2 hg2)
  go_ret;exact ⟨by rw [hf.out];exact HndP.of own2 HBW.out,zAr HB2.out HO2.out HBW.out hg2⟩
 ·by_cases hx10:x.op=10
  ·have hf:Hid (q=f.dropLast):=by show _=_;rw [<-HQ.out];simp [Wc.fldR,hx10]
   have hne:=H10.out hx10;obtain ⟨g,cap,ev,hcap⟩:∃ g cap,v1=.slice (some ⟨g,0,none⟩) f.length cap/\f.length<=cap:=by
    rcases HO1.out.2 with ⟨_,h0⟩ | ⟨g,cap,cur,e,_,_,hc,_⟩
    ·exact absurd (List.eq_nil_of_length_eq_zero h0) hne
    ·exact ⟨g,cap,e,hc⟩
   subst ev;have hpos:0<f.length:=List.length_pos_iff.2 hne;have HP:Hid (0<f.length/\f.length<=cap):=⟨hpos,hcap⟩
   obtain ⟨nf,hnf⟩:∃ k,f.length=k+1:=⟨f.length - 1,by omega⟩
   have HNF:Hid (f.length=nf+1):=hnf;have hw1:IntKind.i64.wrap (((nf+1:Nat):Int) - 1)=(nf:Int):=by rw [IntKind.wrap_i64];have:=HL.out;omega
   have hw2:IntKind.i64.wrap ((nf:Int)+1 - 1)=(nf:Int):=by rw [IntKind.wrap_i64];have:=HL.out;omega
   have k1:(nf:Int)<=(cap:Int):=by omega
   have k2:(0:Int)<=(nf:Int):=by omega
   have k3:nf<=cap:=by omega
   have hw3:IntKind.i64.wrap (nf:Int)=(nf:Int):=by rw [IntKind.wrap_i64];have:=HL.out;omega
   have hw4:wrap64 (nf:Int)=(nf:Int):=by have:=HL.out;unfold wrap64;omega
   have HV:Hid (HndP f.dropLast w (.returned (.slice (some ⟨g,0,none⟩) nf cap)) w1):=by
    obtain ⟨av,cp,e1,f1⟩:=HO1.out.rd;simp only [Value.slice.injEq] at e1;refine ⟨.slice (some ⟨g,0,none⟩) nf cap,rfl,⟨some ⟨g,0,none⟩,cap,by simp [HNF.out],λi hi=>?_⟩,zAd,λg' e=>?_⟩
    ·have hi2:i<f.length:=by simp at hi;omega
     obtain ⟨bb,off,q1,q2⟩:=f1 i hi2;rw [<-e1.1] at q1;cases q1
     exact ⟨g,0,rfl,by rw [List.getElem_dropLast];exact q2⟩
    ·have:=(HO1.out.blk (g:=g') (by simpa [Value.ownBlock] using e)).1;exact Nat.le_trans HBW.out this
   rw [hnf];clear hne hpos hcap hnf H10;go_wp2;go_ret;refine ⟨?_,hB1⟩;rw [hf.out];first
   | exact HV.out
   | simpa [hw4] using HV.out
  ·have hf:Hid (q=f):=by show _=_;rw [<-HQ.out];simp [Wc.fldR,h6,hx10]
   go_wp2;go_ret;exact ⟨by rw [hf.out];exact HndP.of HO1.out HBW.out,hB1⟩
