/- Lemmas. -/
import Derived.Test.YtefkclbaflkheaaGreatDoorQ08
set_option maxHeartbeats 4000000
set_option maxRecDepth 100000
namespace Go.Proofs.YtefkclbaflkheaaGreatDoor
open Tryz
open Go.RowKit
set_option linter.unusedVariables false
variable {x:Wt.Nd} {P:Program} {w:World}
theorem zJJ (blk off n cap:Nat) (F:Nat->Wpl.Cl) (w:World) (hn0:0<n) (hn:n<=1000000000000000) (hcap:n<=cap) (hcap2:cap<=9223372036854775807) (hb:blk<w.heap.size) (hc:Cells w blk off n F) (hA:Wpl.anyN (F 0).s F n=true) :
  CR 106 #[.slice (some ⟨blk,off,none⟩) n cap] w (.tuple #[.agg #[.int .i64 (Wpl.hullV F n).s,.int .i64 (Wpl.hullV F n).t,.int .i64 (Wpl.hullV F n).l,.int .i64 (Wpl.hullV F n).b,.int .i64 (Wpl.hullV F n).r],.bool (Wpl.hullOk F n)]):=by
 obtain ⟨x0,x1,x2⟩:=hc 0 hn0;simp only [Nat.zero_mul,Nat.add_zero] at x0 x1 x2;have hmf:∀ (fn:Fn) (first cap:Array Value) (w:World),(Instr.makeFunc fn first cap).run prog w=.ok (.func fn first cap) w:=λ_ _ _ _=>rfl
 have C:=λw h1 h2=>zBg (F 0).s blk off n cap F w hn h1 h2
 rw [hA] at C;have HA:Hid (Wpl.anyN (F 0).s F n=true):=hA;clear hA;have E0:Hid (Wpl.hullU F 0=⟨(F 0).s,(F 0).r,(F 0).c,(F 0).r,(F 0).c⟩):=(rfl:Wpl.hullU F 0=⟨(F 0).s,(F 0).r,(F 0).c,(F 0).r,(F 0).c⟩)
 have HO:Hid (Wpl.hullOk F n=false):=by show _=_;unfold Wpl.hullOk;rw [HA.out,decide_eq_true (show n ≠ 0 by omega)];rfl
 have HV:Hid (Wpl.hullV F n=Wpl.nullA):=by show _=_;unfold Wpl.hullV;rw [HO.out];rfl
 clear HA;generalize (F 0).s=s0 at *;generalize (F 0).r=r0 at *;generalize (F 0).c=c0 at *;have hnz:((n:Int) == 0)=false:=by simp;omega
 go_enter func106,ntmps106;go_wp2_with fail
 refine (C _ (by simp [go_sem];omega) (hc.below hb ((Below.refl _ _).alloc (Nat.le_refl _) _))).mono ?_;rintro e w1 ⟨rfl,hb1⟩;have pR:AtL w1 w.heap.size [.int .i64 0,.int .i64 0,.int .i64 0,.int .i64 0,.int .i64 0]:=AtL.below hb1 (AtL.new w _ rfl _);have hB:Below w.heap.size w w1:=clA
 clear hb1;obtain ⟨r0',r1,r2,r3,r4,_,_,_,_,_⟩:=pR.five;go_wp2;refine bodyPost_ret (v:=.tuple #[.agg #[.int .i64 0,.int .i64 0,.int .i64 0,.int .i64 0,.int .i64 0],.bool false]) (by simp [results,results106,go_sem,r0',r1,r2,r3,r4]) rfl ⟨by rw [HV.out,HO.out];rfl,?_⟩;exact zBt hB (Nat.le_refl _) _ _ _ _ _
theorem zKb (blk off n cap:Nat) (F:Nat->Wpl.Cl) (w:World) (hn0:0<n) (hn:n<=1000000000000000) (hcap:n<=cap) (hcap2:cap<=9223372036854775807) (hb:blk<w.heap.size) (hc:Cells w blk off n F) (hA:Wpl.anyN (F 0).s F n=false) (hc1:cap=1) :
  CR 106 #[.slice (some ⟨blk,off,none⟩) n cap] w (.tuple #[.agg #[.int .i64 (Wpl.hullV F n).s,.int .i64 (Wpl.hullV F n).t,.int .i64 (Wpl.hullV F n).l,.int .i64 (Wpl.hullV F n).b,.int .i64 (Wpl.hullV F n).r],.bool (Wpl.hullOk F n)]):=by
 subst hc1;obtain ⟨x0,x1,x2⟩:=hc 0 hn0;simp only [Nat.zero_mul,Nat.add_zero] at x0 x1 x2;have hmf:∀ (fn:Fn) (first cap:Array Value) (w:World),(Instr.makeFunc fn first cap).run prog w=.ok (.func fn first cap) w:=λ_ _ _ _=>rfl
 have C:=λw h1 h2=>zBg (F 0).s blk off n 1 F w hn h1 h2
 rw [hA] at C;have HA:Hid (Wpl.anyN (F 0).s F n=false):=hA;clear hA;have E0:Hid (Wpl.hullU F 0=⟨(F 0).s,(F 0).r,(F 0).c,(F 0).r,(F 0).c⟩):=(rfl:Wpl.hullU F 0=⟨(F 0).s,(F 0).r,(F 0).c,(F 0).r,(F 0).c⟩)
 have HO:Hid (Wpl.hullOk F n=true):=by show _=_;unfold Wpl.hullOk;rw [HA.out,decide_eq_true (show n ≠ 0 by omega)];rfl
 have HV:Hid (Wpl.hullV F n=Wpl.hullU F (n - 1)):=by show _=_;unfold Wpl.hullV;rw [HO.out];rfl
 clear HA;generalize (F 0).s=s0 at *;generalize (F 0).r=r0 at *;generalize (F 0).c=c0 at *;have hnz:((n:Int) == 0)=false:=by simp;omega
 go_enter func106,ntmps106;go_wp2_with fail
 refine (C _ (by simp [go_sem];omega) (hc.below hb ((Below.refl _ _).alloc (Nat.le_refl _) _))).mono ?_;rintro e w1 ⟨rfl,hb1⟩;have pR:AtL w1 w.heap.size [.int .i64 0,.int .i64 0,.int .i64 0,.int .i64 0,.int .i64 0]:=AtL.below hb1 (AtL.new w _ rfl _);have hB:Below w.heap.size w w1:=clA
 have y0:w1.cell? ⟨blk,off,none⟩=some (.int .i64 s0):=(hB.cell (p:=⟨blk,off,none⟩) hb).trans x0;have y1:w1.cell? ⟨blk,off+1,none⟩=some (.int .i64 r0):=(hB.cell (p:=⟨blk,off+1,none⟩) hb).trans x1;have y2:w1.cell? ⟨blk,off+2,none⟩=some (.int .i64 c0):=(hB.cell (p:=⟨blk,off+2,none⟩) hb).trans x2;have hb':blk<w1.heap.size:=Nat.lt_of_lt_of_le hb hB.size;have hz1:=hB.size;clear hb1 x0 x1 x2 C;go_wp2_with fail
 have pA:AtL ((w1.alloc (.cells #[.int .i64 s0,.int .i64 r0,.int .i64 c0] 24)).alloc (.cells #[.int .i64 s0,.int .i64 r0,.int .i64 c0,.int .i64 r0,.int .i64 c0] 53)) (w1.heap.size+1) [.int .i64 s0,.int .i64 r0,.int .i64 c0,.int .i64 r0,.int .i64 c0]:=AtL.new (w1.alloc _) _ (by simp [go_sem]) _;have pR':=(pR.alloc (.cells #[.int .i64 s0,.int .i64 r0,.int .i64 c0] 24)).alloc (.cells #[.int .i64 s0,.int .i64 r0,.int .i64 c0,.int .i64 r0,.int .i64 c0] 53);have pB:=zCU (zCU hB (.cells #[.int .i64 s0,.int .i64 r0,.int .i64 c0] 24)) (.cells #[.int .i64 s0,.int .i64 r0,.int .i64 c0,.int .i64 r0,.int .i64 c0] 53);clear y0 y1 y2 pR hB;generalize hk:w1.heap.size+1=k at *;have hkw:w.heap.size<k:=by omega
 generalize (w1.alloc (.cells #[.int .i64 s0,.int .i64 r0,.int .i64 c0] 24)).alloc (.cells #[.int .i64 s0,.int .i64 r0,.int .i64 c0,.int .i64 r0,.int .i64 c0] 53)=W2 at *;go_loopw [7,38] (λ_ i wr=>∃ (j:Nat) (t l b r:Int),j<=n - 1/\i=.int .i64 j/\Hid (Wpl.hullU F j=⟨s0,t,l,b,r⟩)/\Below w.heap.size w wr/\AtL wr w.heap.size [.int .i64 0,.int .i64 0,.int .i64 0,.int .i64 0,.int .i64 0]/\AtL wr k [.int .i64 s0,.int .i64 t,.int .i64 l,.int .i64 b,.int .i64 r]) (λ_ i _=>n - (intOf i).toNat)
 case atStart=>exact ⟨0,r0,c0,r0,c0,Nat.zero_le _,rfl,E0,pB,pR',pA⟩
 case round =>
  clear pB pR' pA;obtain ⟨j,t,l,b,r,hj,rfl,E,qB,qR,qA⟩:=hrel
  ·have hltz:¬ (j:Int)<((n - 1:Nat):Int):=by omega
   have hj':j=n - 1:=by omega
   have HV':Hid (Wpl.hullV F n=⟨s0,t,l,b,r⟩):=by show _=_;rw [HV.out,<-hj',E.out]
   clear hj' E HV;have sR:=qR.put5 (.int .i64 s0) (.int .i64 t) (.int .i64 l) (.int .i64 b) (.int .i64 r);have sB:=zBt qB (Nat.le_refl w.heap.size) (.int .i64 s0) (.int .i64 t) (.int .i64 l) (.int .i64 b) (.int .i64 r);obtain ⟨a0,a1,a2,a3,a4,f0,f1,f2,f3,f4⟩:=qA.five;obtain ⟨z0,z1,z2,z3,z4,g0,g1,g2,g3,g4⟩:=qR.five;go_wp2;obtain ⟨r0',r1,r2,r3,r4,_,_,_,_,_⟩:=sR.five;refine bodyPost_ret (v:=.tuple #[.agg #[.int .i64 s0,.int .i64 t,.int .i64 l,.int .i64 b,.int .i64 r],.bool true]) (by simp [results,results106,go_sem,z0,z1,z2,z3,z4]) rfl ⟨by rw [HV'.out,HO.out],?_⟩;exact sB
theorem zIc (blk off n cap:Nat) (F:Nat->Wpl.Cl) (w:World) (hn0:0<n) (hn:n<=1000000000000000) (hcap:n<=cap) (hcap2:cap<=9223372036854775807) (hb:blk<w.heap.size) (hc:Cells w blk off n F) (hA:Wpl.anyN (F 0).s F n=false) (hc1:¬ cap=1) :
  CR 106 #[.slice (some ⟨blk,off,none⟩) n cap] w (.tuple #[.agg #[.int .i64 (Wpl.hullV F n).s,.int .i64 (Wpl.hullV F n).t,.int .i64 (Wpl.hullV F n).l,.int .i64 (Wpl.hullV F n).b,.int .i64 (Wpl.hullV F n).r],.bool (Wpl.hullOk F n)]):=by
 obtain ⟨x0,x1,x2⟩:=hc 0 hn0;simp only [Nat.zero_mul,Nat.add_zero] at x0 x1 x2;have hmf:∀ (fn:Fn) (first cap:Array Value) (w:World),(Instr.makeFunc fn first cap).run prog w=.ok (.func fn first cap) w:=λ_ _ _ _=>rfl
 have C:=λw h1 h2=>zBg (F 0).s blk off n cap F w hn h1 h2
 rw [hA] at C;have HA:Hid (Wpl.anyN (F 0).s F n=false):=hA;clear hA;have E0:Hid (Wpl.hullU F 0=⟨(F 0).s,(F 0).r,(F 0).c,(F 0).r,(F 0).c⟩):=(rfl:Wpl.hullU F 0=⟨(F 0).s,(F 0).r,(F 0).c,(F 0).r,(F 0).c⟩)
 have HO:Hid (Wpl.hullOk F n=true):=by show _=_;unfold Wpl.hullOk;rw [HA.out,decide_eq_true (show n ≠ 0 by omega)];rfl
 have HV:Hid (Wpl.hullV F n=Wpl.hullU F (n - 1)):=by show _=_;unfold Wpl.hullV;rw [HO.out];rfl
 clear HA;generalize (F 0).s=s0 at *;generalize (F 0).r=r0 at *;generalize (F 0).c=c0 at *;have hnz:((n:Int) == 0)=false:=by simp;omega
 go_enter func106,ntmps106;go_wp2_with fail
 refine (C _ (by simp [go_sem];omega) (hc.below hb ((Below.refl _ _).alloc (Nat.le_refl _) _))).mono ?_;rintro e w1 ⟨rfl,hb1⟩;have pR:AtL w1 w.heap.size [.int .i64 0,.int .i64 0,.int .i64 0,.int .i64 0,.int .i64 0]:=AtL.below hb1 (AtL.new w _ rfl _);have hB:Below w.heap.size w w1:=clA
 have y0:w1.cell? ⟨blk,off,none⟩=some (.int .i64 s0):=(hB.cell (p:=⟨blk,off,none⟩) hb).trans x0;have y1:w1.cell? ⟨blk,off+1,none⟩=some (.int .i64 r0):=(hB.cell (p:=⟨blk,off+1,none⟩) hb).trans x1;have y2:w1.cell? ⟨blk,off+2,none⟩=some (.int .i64 c0):=(hB.cell (p:=⟨blk,off+2,none⟩) hb).trans x2;have hb':blk<w1.heap.size:=Nat.lt_of_lt_of_le hb hB.size;have hz1:=hB.size;clear hb1 x0 x1 x2 C;go_wp2_with fail
 have pA:AtL ((w1.alloc (.cells #[.int .i64 s0,.int .i64 r0,.int .i64 c0] 24)).alloc (.cells #[.int .i64 s0,.int .i64 r0,.int .i64 c0,.int .i64 r0,.int .i64 c0] 53)) (w1.heap.size+1) [.int .i64 s0,.int .i64 r0,.int .i64 c0,.int .i64 r0,.int .i64 c0]:=AtL.new (w1.alloc _) _ (by simp [go_sem]) _;have pR':=(pR.alloc (.cells #[.int .i64 s0,.int .i64 r0,.int .i64 c0] 24)).alloc (.cells #[.int .i64 s0,.int .i64 r0,.int .i64 c0,.int .i64 r0,.int .i64 c0] 53);have pB:=zCU (zCU hB (.cells #[.int .i64 s0,.int .i64 r0,.int .i64 c0] 24)) (.cells #[.int .i64 s0,.int .i64 r0,.int .i64 c0,.int .i64 r0,.int .i64 c0] 53);clear y0 y1 y2 pR hB;generalize hk:w1.heap.size+1=k at *;have hkw:w.heap.size<k:=by omega
 generalize (w1.alloc (.cells #[.int .i64 s0,.int .i64 r0,.int .i64 c0] 24)).alloc (.cells #[.int .i64 s0,.int .i64 r0,.int .i64 c0,.int .i64 r0,.int .i64 c0] 53)=W2 at *;go_loopw [7,38] (λ_ i wr=>∃ (j:Nat) (t l b r:Int),j<=n - 1/\i=.int .i64 j/\Hid (Wpl.hullU F j=⟨s0,t,l,b,r⟩)/\Below w.heap.size w wr/\AtL wr w.heap.size [.int .i64 0,.int .i64 0,.int .i64 0,.int .i64 0,.int .i64 0]/\AtL wr k [.int .i64 s0,.int .i64 t,.int .i64 l,.int .i64 b,.int .i64 r]) (λ_ i _=>n - (intOf i).toNat)
 case atStart=>exact ⟨0,r0,c0,r0,c0,Nat.zero_le _,rfl,E0,pB,pR',pA⟩
 case round =>
  clear pB pR' pA;obtain ⟨j,t,l,b,r,hj,rfl,E,qB,qR,qA⟩:=hrel;by_cases hlt:j<n - 1
  ·have hltz:(j:Int)<((n - 1:Nat):Int):=by omega
   obtain ⟨x0,x1,x2⟩:=hc (j+1) (by omega);have y0:wr.cell? ⟨blk,off+3+j * 3,none⟩=some (.int .i64 (F (j+1)).s):=by
    have:=(qB.cell (p:=⟨blk,off+(j+1) * 3,none⟩) hb).trans x0;rwa [show off+(j+1) * 3=off+3+j * 3 by omega] at this
   have y1:wr.cell? ⟨blk,off+3+j * 3+1,none⟩=some (.int .i64 (F (j+1)).r):=by
    have:=(qB.cell (p:=⟨blk,off+(j+1) * 3+1,none⟩) hb).trans x1;rwa [show off+(j+1) * 3+1=off+3+j * 3+1 by omega] at this
   have y2:wr.cell? ⟨blk,off+3+j * 3+2,none⟩=some (.int .i64 (F (j+1)).c):=by
    have:=(qB.cell (p:=⟨blk,off+(j+1) * 3+2,none⟩) hb).trans x2;rwa [show off+(j+1) * 3+2=off+3+j * 3+2 by omega] at this
   have E1:Hid (Wpl.hullU F (j+1)=⟨s0,min t (F (j+1)).r,min l (F (j+1)).c,max b (F (j+1)).r,max r (F (j+1)).c⟩):=by show Wpl.grow (Wpl.hullU F j) (F (j+1))=_;rw [E.out];rfl
   clear x0 x1 x2 E;generalize (F (j+1)).s=sj at *;generalize (F (j+1)).r=rj at *;generalize (F (j+1)).c=cj at *;have sA:=qA.alloc (.cells #[.int .i64 sj,.int .i64 rj,.int .i64 cj] 24);have sR:=qR.alloc (.cells #[.int .i64 sj,.int .i64 rj,.int .i64 cj] 24);have sC:AtL (wr.alloc (.cells #[.int .i64 sj,.int .i64 rj,.int .i64 cj] 24)) wr.heap.size [.int .i64 sj,.int .i64 rj,.int .i64 cj]:=AtL.new wr _ rfl _;have sB:=zCU qB (.cells #[.int .i64 sj,.int .i64 rj,.int .i64 cj] 24);have hkr:k<wr.heap.size:=qA.lt;go_upto_region 8 with fail
   clear qA qR qB y0 y1 y2;generalize wr.alloc (.cells #[.int .i64 sj,.int .i64 rj,.int .i64 cj] 24)=W3 at *;generalize wr.heap.size=kc at *;obtain ⟨a0,a1,a2,a3,a4,f0,f1,f2,f3,f4⟩:=sA.five;obtain ⟨z0,z1,z2,g0,g1,g2⟩:=sC.three;have hkc:¬ kc=k:=by omega
   go_cut [] (λwx=>Below w.heap.size w wx/\AtL wx w.heap.size [.int .i64 0,.int .i64 0,.int .i64 0,.int .i64 0,.int .i64 0]/\AtL wx kc [.int .i64 sj,.int .i64 rj,.int .i64 cj]/\∃ t' b':Int,Hid (t'=min t rj)/\Hid (b'=max b rj)/\AtL wx k [.int .i64 s0,.int .i64 t',.int .i64 l,.int .i64 b',.int .i64 r])
   case first =>
    go_region
    go_wp2_with fail
    all_goals go_meet
    all_goals
     clear a0 a1 a2 a3 a4 f0 f1 f2 f3 f4 z0 z1 z2 g0 g1 g2;refine ⟨((sB.setCell (p:=⟨k,1,none⟩) (by show w.heap.size<=k;omega) _).setCell (p:=⟨k,3,none⟩) (by show w.heap.size<=k;omega) _).drew,((sR.far (j:=k) (by omega) 1 _).far (j:=k) (by omega) 3 _).drew,((sC.far (j:=k) (by omega) 1 _).far (j:=k) (by omega) 3 _).drew,_,_,?_,?_,((sA.set 1 _).set 3 _).drew⟩
     ·go_light;show _=_;omega
     ·go_light;show _=_;omega
   case rest =>
   clear sA sR sC sB a0 a1 a2 a3 a4 f0 f1 f2 f3 f4 z0 z1 z2 g0 g1 g2;obtain ⟨tB,tR,tC,t',b',Et,Eb,tA⟩:=hcut;rw [<-Et.out,<-Eb.out] at E1;clear Et Eb;go_upto_region 9 with fail
   obtain ⟨a0,a1,a2,a3,a4,f0,f1,f2,f3,f4⟩:=AtL.five tA;obtain ⟨z0,z1,z2,g0,g1,g2⟩:=tC.three;refine zMi λK9 hK9=>?_
   go_cut [] (λwx=>Below w.heap.size w wx/\AtL wx w.heap.size [.int .i64 0,.int .i64 0,.int .i64 0,.int .i64 0,.int .i64 0]/\∃ l' r':Int,Hid (l'=min l cj)/\Hid (r'=max r cj)/\AtL wx k [.int .i64 s0,.int .i64 t',.int .i64 l',.int .i64 b',.int .i64 r'])
   case first =>
    go_region
    go_wp2_with fail
    all_goals go_meet
    all_goals
     clear a0 a1 a2 a3 a4 f0 f1 f2 f3 f4 z0 z1 z2 g0 g1 g2;refine ⟨((tB.setCell (p:=⟨k,2,none⟩) (by show w.heap.size<=k;omega) _).setCell (p:=⟨k,4,none⟩) (by show w.heap.size<=k;omega) _).drew,((tR.far (j:=k) (by omega) 2 _).far (j:=k) (by omega) 4 _).drew,_,_,?_,?_,((AtL.set tA 2 _).set 4 _).drew⟩
     ·go_light;show _=_;omega
     ·go_light;show _=_;omega
   case rest =>
   obtain ⟨vB,vR,l',r',El,Er,vA⟩:=hcut;rw [<-El.out,<-Er.out] at E1;clear El Er;clear tB tR tA tC a0 a1 a2 a3 a4 f0 f1 f2 f3 f4 z0 z1 z2 g0 g1 g2;refine hK9 _ _ ?_;go_wp2_with fail
   go_roundw
   case rel =>
    exact ⟨j+1,t',l',b',r',by omega,by go_num,E1,vB,vR,vA⟩
   case measure=>simp [intOf];omega
  ·have hltz:¬ (j:Int)<((n - 1:Nat):Int):=by omega
   have hj':j=n - 1:=by omega
   have HV':Hid (Wpl.hullV F n=⟨s0,t,l,b,r⟩):=by show _=_;rw [HV.out,<-hj',E.out]
   clear hj' E HV;have sR:=qR.put5 (.int .i64 s0) (.int .i64 t) (.int .i64 l) (.int .i64 b) (.int .i64 r);have sB:=zBt qB (Nat.le_refl w.heap.size) (.int .i64 s0) (.int .i64 t) (.int .i64 l) (.int .i64 b) (.int .i64 r);obtain ⟨a0,a1,a2,a3,a4,f0,f1,f2,f3,f4⟩:=qA.five;obtain ⟨z0,z1,z2,z3,z4,g0,g1,g2,g3,g4⟩:=qR.five;go_wp2;obtain ⟨r0',r1,r2,r3,r4,_,_,_,_,_⟩:=sR.five;refine bodyPost_ret (v:=.tuple #[.agg #[.int .i64 s0,.int .i64 t,.int .i64 l,.int .i64 b,.int .i64 r],.bool true]) (by simp [results,results106,go_sem,z0,z1,z2,z3,z4]) rfl ⟨by rw [HV'.out,HO.out],?_⟩;exact sB
theorem zFm (blk off n cap:Nat) (F:Nat->Wpl.Cl) (w:World) (hn0:0<n) (hn:n<=1000000000000000) (hcap:n<=cap) (hcap2:cap<=9223372036854775807) (hb:blk<w.heap.size) (hc:Cells w blk off n F) :
  CR 106 #[.slice (some ⟨blk,off,none⟩) n cap] w (.tuple #[.agg #[.int .i64 (Wpl.hullV F n).s,.int .i64 (Wpl.hullV F n).t,.int .i64 (Wpl.hullV F n).l,.int .i64 (Wpl.hullV F n).b,.int .i64 (Wpl.hullV F n).r],.bool (Wpl.hullOk F n)]):=by
 cases hA:Wpl.anyN (F 0).s F n with
 | true=>exact zJJ blk off n cap F w hn0 hn hcap hcap2 hb hc hA
 | false =>
  by_cases h1:cap=1
  ·exact zKb blk off n cap F w hn0 hn hcap hcap2 hb hc hA h1
  ·exact zIc blk off n cap F w hn0 hn hcap hcap2 hb hc hA h1
theorem zDI (s t l b r:Int):(Wpl.rightC s t l && (Wpl.rightC s b r && (decide (t<=b) && decide (l<=r))))=Wpl.rightA s t l b r:=by
 rw [Bool.eq_iff_iff];simp only [Bool.and_eq_true,Wpl.rightC_iff,Wpl.rightA_iff,decide_eq_true_eq];omega
theorem zBF (s t l b r:Int) (w:World) :
  CR 95 #[.agg #[.int .i64 s,.int .i64 t,.int .i64 l,.int .i64 b,.int .i64 r]] w (.bool (Wpl.rightA s t l b r)):=by
 have RH:Hid ((Wpl.rightC s t l && (Wpl.rightC s b r && (decide (t<=b) && decide (l<=r))))=Wpl.rightA s t l b r):=zDI s t l b r;have R1:=λw=>zAn s t l w
 have R2:=λw=>zAn s b r w
 have F:=λw=>zI2 s t l b r w
 have L:=λw=>zJZ s t l b r w
 generalize Wpl.rightC s t l=q1 at *;generalize Wpl.rightC s b r=q2 at *;generalize Wpl.rightA s t l b r=A at *;have pA:=AtL.new0 w 53 [.int .i64 s,.int .i64 t,.int .i64 l,.int .i64 b,.int .i64 r];have hB:=zCU (Below.refl _ w) (.cells #[.int .i64 s,.int .i64 t,.int .i64 l,.int .i64 b,.int .i64 r] 53);go_enter func95,ntmps95;go_upto_region 1 with fail
 generalize w.alloc (.cells #[.int .i64 s,.int .i64 t,.int .i64 l,.int .i64 b,.int .i64 r] 53)=W0 at *;obtain ⟨a0,a1,a2,a3,a4,_,_,_,_,_⟩:=pA.five;go_wp2_with fail
 refine (F _).mono ?_;rintro e w1 ⟨rfl,hb1⟩;replace pA:=AtL.below hb1 pA
 replace hB:=zAo hB hb1
 clear a0 a1 a2 a3 a4 hb1 F;go_wp2_with fail
 refine (R1 _).mono ?_;rintro e w2 ⟨rfl,hb2⟩;replace pA:=AtL.below hb2 pA
 replace hB:=zAo hB hb2
 clear hb2 R1;obtain ⟨a0,a1,a2,a3,a4,_,_,_,_,_⟩:=pA.five;cases q1 with
 | false =>
  go_wp2;go_ret;exact ⟨by rw [<-RH.out];rfl,hB⟩
 | true =>
  go_wp2_with fail
  refine (L _).mono ?_;rintro e w3 ⟨rfl,hb3⟩;replace pA:=AtL.below hb3 pA
  replace hB:=zAo hB hb3
  clear a0 a1 a2 a3 a4 hb3 L;go_wp2_with fail
  refine (R2 _).mono ?_;rintro e w4 ⟨rfl,hb4⟩;replace pA:=AtL.below hb4 pA
  replace hB:=zAo hB hb4
  clear hb4 R2;obtain ⟨a0,a1,a2,a3,a4,_,_,_,_,_⟩:=pA.five;cases q2 with
  | false =>
   go_wp2;go_ret;exact ⟨by rw [<-RH.out];rfl,hB⟩
  | true =>
   by_cases h1:t<=b
   ·by_cases h2:l<=r
    ·go_wp2;go_ret;exact ⟨by rw [<-RH.out];simp [h1,h2],hB⟩
    ·go_wp2;go_ret;exact ⟨by rw [<-RH.out];simp [h1],hB⟩
   ·go_wp2;go_ret;exact ⟨by rw [<-RH.out];simp;omega,hB⟩
open Go.RowKit Wf
def RtN (x:Wt.Nd):Prop:=Wt.inR x.a.r x.a.c=true/\Wt.inR x.b.r x.b.c=true
theorem zBr (h:Wt.right x=true) (hk:x.k=3):RtN x:=by
 unfold Wt.right at h;rw [if_neg (by omega),if_neg (by omega),if_pos hk] at h;simp only [Bool.and_eq_true,Wt.rfOk] at h;exact ⟨h.1.1.1.1,h.1.1.2.1⟩
theorem zHG (h:RtN x):Wpl.hullV (λi=>if i=0 then ⟨0,x.a.r,x.a.c⟩ else ⟨0,x.b.r,x.b.c⟩) 2=zBR x:=by
 obtain ⟨h1,h2⟩:=h;simp only [Wt.inR,Bool.and_eq_true,decide_eq_true_eq] at h1 h2;have ho:Wpl.hullOk (λi=>if i=0 then ⟨0,x.a.r,x.a.c⟩ else ⟨0,x.b.r,x.b.c⟩) 2=true:=by
  simp [Wpl.hullOk,Wpl.anyN,Wpl.lacks,Wpl.rightC,Wpl.inB];omega
 unfold Wpl.hullV;rw [ho,if_pos rfl];show Wpl.grow (Wpl.oneA ⟨0,x.a.r,x.a.c⟩) ⟨0,x.b.r,x.b.c⟩=zBR x
 simp [Wpl.grow,Wpl.oneA,zBR]
theorem zCx (h:RtN x):SmA (zBR x):=by
 obtain ⟨h1,h2⟩:=h;simp only [Wt.inR,Bool.and_eq_true,decide_eq_true_eq] at h1 h2;simp only [SmA,zBR];omega
theorem zD6 (x:Wt.Nd) (w:World) (hx:RtN x):CR 153 #[.agg (zAG x).toArray] w (.agg (ar5 (zBR x)).toArray):=by
 obtain ⟨r,hrx⟩:∃ r,zBR x=r:=⟨_,rfl⟩
 have hh:=zHG hx;rw [hrx] at hh;rw [hrx];clear hrx;have HH:Hid (Wpl.hullV (λi=>if i=0 then ⟨0,x.a.r,x.a.c⟩ else ⟨0,x.b.r,x.b.c⟩) 2=r):=hh;have hb1:=zAM (zAM (Below.refl _ w) (.cells (zAG x).toArray 35)) (.cells #[.int .i64 0,.int .i64 0,.int .i64 0,.int .i64 0,.int .i64 0] 53);have pN:=(AtL.new0 w 35 (zAG x)).alloc (.cells #[.int .i64 0,.int .i64 0,.int .i64 0,.int .i64 0,.int .i64 0] 53);have pA:=AtL.new1 w (.cells (zAG x).toArray 35) 53 [.int .i64 0,.int .i64 0,.int .i64 0,.int .i64 0,.int .i64 0];have c11:=pN.2.1 11 (.int .i64 x.a.r) rfl;have c12:=pN.2.1 12 (.int .i64 x.a.c) rfl;have c16:=pN.2.1 16 (.int .i64 x.b.r) rfl;have c17:=pN.2.1 17 (.int .i64 x.b.c) rfl;clear pN hx hh;go_enter func153,ntmps153;go_upto_region 1 with fail
 generalize ((w.alloc (.cells (zAG x).toArray 35)).alloc (.cells [.int .i64 0,.int .i64 0,.int .i64 0,.int .i64 0,.int .i64 0].toArray 53))=W at *;have pC:=AtL.new0 W 24 [.int .i64 0,.int .i64 x.a.r,.int .i64 x.a.c,.int .i64 0,.int .i64 x.b.r,.int .i64 x.b.c];have hbC:=zAM (Below.refl _ W) (.cells #[.int .i64 0,.int .i64 x.a.r,.int .i64 x.a.c,.int .i64 0,.int .i64 x.b.r,.int .i64 x.b.c] 24);have hC:Cells (W.alloc (.cells #[.int .i64 0,.int .i64 x.a.r,.int .i64 x.a.c,.int .i64 0,.int .i64 x.b.r,.int .i64 x.b.c] 24)) W.heap.size 0 2 (λi=>if i=0 then ⟨0,x.a.r,x.a.c⟩ else ⟨0,x.b.r,x.b.c⟩):=λj hj=>by
  rcases (show j=0 \/ j=1 by omega) with rfl | rfl
  ·exact ⟨pC.2.1 0 _ rfl,pC.2.1 1 _ rfl,pC.2.1 2 _ rfl⟩
  ·exact ⟨pC.2.1 3 _ rfl,pC.2.1 4 _ rfl,pC.2.1 5 _ rfl⟩
 have HL:=zFm W.heap.size 0 2 2 _ _ (by omega) (by omega) (by omega) (by omega) pC.lt hC;rw [HH.out] at HL;generalize Wpl.hullOk (λi=>if i=0 then (⟨0,x.a.r,x.a.c⟩:Wpl.Cl) else ⟨0,x.b.r,x.b.c⟩) 2=ok at HL;have hB2:=zAB hb1 hbC;have pA2:=AtL.below hbC pA;clear hC pC hbC hb1 pA HH;go_wp2_with fail
 refine HL.mono ?_;rintro e w1 ⟨rfl,hb3⟩;have hB3:=zAB hB2 hb3;have pA3:=AtL.below hb3 pA2;have hb4:=zAM (Below.refl _ w1) (.cells (ar5 r).toArray 53);have pR:=AtL.new0 w1 53 (ar5 r);have hB4:=zAB hB3 hb4;have pA4:=AtL.below hb4 pA3;clear c11 c12 c16 c17 HL hb3 hb4 pA3 pA2 hB2 hB3;go_upto_region 2 with fail
 generalize (w1.alloc (.cells (ar5 r).toArray 53))=W4 at *;obtain ⟨b0,b1,b2,b3,b4,k0,k1,k2,k3,k4⟩:=pA4.five;obtain ⟨r0,r1,r2,r3,r4,_,_,_,_,_⟩:=pR.five;go_wp2;have HLT:=pA4.lt;refine bodyPost_ret (v:=.agg (ar5 r).toArray) (by simp [results,results153,go_sem,b0,b1,b2,b3,b4]) rfl ⟨rfl,(clB hB4)⟩
theorem zJv {s:ByteArray} {l:List ByteArray} {i:Nat} (h:i<l.length):idx s (l.drop i) i=if l[i]=s then (i:Int) else idx s (l.drop (i+1)) (i+1):=by
 rw [List.drop_eq_getElem_cons h];rfl
theorem zB7 (s:ByteArray) (own:Int) (nm:List ByteArray) (av:Option Addr) (m cap:Nat) (w:World) (hm:m=nm.length) (hl:nm.length<=1000000) (hr:RdS w av nm) :
  Calls prog 53 #[.string s,.int .i64 own,.slice av m cap] w λe w'=>e=.returned (.int .i64 (shN own (nm.take 16) s))/\w=w':=by
 unfold shN;by_cases h0:s=⟨#[]⟩
 ·subst h0;rw [if_pos rfl];clear hr hm hl;go_enter func53,ntmps53;go_wp2;go_ret;exact ⟨rfl,rfl⟩
 rw [if_neg h0];obtain ⟨z,hz⟩:∃ z,idx s (nm.take 16) 0=z:=⟨_,rfl⟩
 rw [hz];obtain ⟨M,hM⟩:∃ M,M=(nm.take 16).length:=⟨_,rfl⟩
 have HZ:Hid (idx s ((nm.take 16).drop 0) 0=z):=by show _=_;rw [List.drop_zero];exact hz
 have HR:Hid (RdS w av nm):=hr;have HM:Hid (m=nm.length/\M=min 16 nm.length/\nm.length<=1000000):=⟨hm,by rw [hM,List.length_take],hl⟩
 clear hz hr hM hm hl;have h01:(s.toList == (⟨#[]⟩:ByteArray).toList)=false:=zEL h0;have h02:(s.toList == [])=false:=by
  have:=h01;rwa [show (⟨#[]⟩:ByteArray).toList=[] from by rw [ByteArray.toList_eq]] at this
 clear h01;go_enter func53,ntmps53;go_wp2_with fail
 go_loopg [7] M (λgk x wr=>∃ i:Nat,x=.int .i64 i/\gk=M - i/\i<=M/\w=wr/\Hid (idx s ((nm.take 16).drop i) i=z))
 case atStart=>exact ⟨0,rfl,rfl,Nat.zero_le _,rfl,HZ⟩
 case round =>
  obtain ⟨i,rfl,hg,hi,rfl,HP⟩:=hrel;clear HZ;by_cases hlt:i<M
  ·have hli:(i:Int)<(m:Int):=by have:=HM.out;omega
   have hl6:(i:Int)<16:=by have:=HM.out;omega
   have hiz:(0:Int)<=(i:Int):=by omega
   have hwi:IntKind.i64.wrap ((i:Int)+1)=(i:Int)+1:=by rw [IntKind.wrap_i64];omega
   have hil:i<nm.length:=by have:=HM.out;omega
   obtain ⟨bb,off,rfl,hc⟩:=HR.out i hil;have HST:Hid (z=if nm[i]=s then (i:Int) else idx s ((nm.take 16).drop (i+1)) (i+1)):=by
    show z=_
    rw [<-HP.out,zJv (by rw [List.length_take];omega),List.getElem_take]
   generalize nm[i]=t at *;clear hil;by_cases he:t=s
   ·subst he;have HE:Hid (z=(i:Int)):=by have:=HST.out;rwa [if_pos rfl] at this
    clear HST HP;go_wp2;go_ret;exact ⟨by rw [HE.out];rfl,rfl⟩
   ·have he3:(t.toList == s.toList)=false:=zEL he;have HP2:Hid (idx s ((nm.take 16).drop (i+1)) (i+1)=z):=by have:=HST.out;rw [if_neg he] at this;exact this.symm
    clear HST HP;go_wp2_with fail
    go_roundg (M - (i+1))
    case rel=>exact ⟨i+1,by simp,rfl,hlt,rfl,HP2⟩
    case measure=>omega
  ·have HE:Hid (z = -1):=by
    show z = -1
    rw [<-HP.out,List.drop_eq_nil_of_le (by rw [List.length_take];have:=HM.out;omega)];rfl
   have hor:¬ i<m \/ ¬ i<16:=by have:=HM.out;omega
   clear HP;by_cases hm2:i<m
   ·have hli:(i:Int)<(m:Int):=by omega
    have hl6:¬ (i:Int)<16:=by omega
    clear hor;go_wp2;go_ret;exact ⟨by rw [HE.out];rfl,rfl⟩
   ·have hli:¬ (i:Int)<(m:Int):=by omega
    clear hor;go_wp2;go_ret;exact ⟨by rw [HE.out];rfl,rfl⟩
theorem zCj {P:Program} {ops:Array Oper} {rest:List Oper} {op:Oper} {a:Act} {w:World} {Q:Exit->Act->World->Prop} (hgd:op.guard=none) (x y:Operand) (ts:Array TypeId) (ho:op.op=.call {callee:=.builtin .max,args:=#[x,y],argTypes:=ts}) (i j k:Int) (hx:a.eval x=.int .i64 i) (hy:a.eval y=.int .i64 j) (hk:(if i<j then j else i)=k)
  (h:wpList P ops Q rest (a.put op.dst (.int .i64 k)) w):wpList P ops Q (op::rest) a w:=by
 refine wpList_plain hgd λK hK=>?_
 have hr:=run_max_int2 (P:=P) (w:=w) ts op.type .i64 .i64 i j;rw [hk] at hr;unfold Oper.wp execOp;simp only [ho,resolve,invoke,builtin,Sem.run_bind,Sem.run_pure,Result.andThen_ok,List.map_toArray,List.map_cons,List.map_nil,hx,hy,hr];exact hK _ _ h
theorem zJX (a b:Int):(if b<a then b else a)=min a b:=by split <;> omega
theorem zHK (a b:Int):(if a<b then b else a)=max a b:=by split <;> omega
theorem zCk (x:Wt.Nd) (s:Int) (w:World):CR 58 #[.agg (zAG x).toArray,.int .i64 s] w (.agg (ar5 {zBR x with s:=s}).toArray):=by
 have hb:=zAM (zAM (Below.refl _ w) (.cells (zAG x).toArray 35)) (.cells #[.int .i64 0,.int .i64 0,.int .i64 0,.int .i64 0,.int .i64 0] 53);have pN:=(AtL.new0 w 35 (zAG x)).alloc (.cells #[.int .i64 0,.int .i64 0,.int .i64 0,.int .i64 0,.int .i64 0] 53);have pA:=AtL.new1 w (.cells (zAG x).toArray 35) 53 [.int .i64 0,.int .i64 0,.int .i64 0,.int .i64 0,.int .i64 0];have c11:=pN.2.1 11 (.int .i64 x.a.r) rfl;have c12:=pN.2.1 12 (.int .i64 x.a.c) rfl;have c16:=pN.2.1 16 (.int .i64 x.b.r) rfl;have c17:=pN.2.1 17 (.int .i64 x.b.c) rfl;obtain ⟨b0,b1,b2,b3,b4,k0,k1,k2,k3,k4⟩:=pA.five;have hlt:=pA.lt;clear pN;go_enter func58,ntmps58;go_upto_region 1 with fail
 generalize ((w.alloc (.cells (zAG x).toArray 35)).alloc (.cells [.int .i64 0,.int .i64 0,.int .i64 0,.int .i64 0,.int .i64 0].toArray 53))=W at *;go_wp2_with (first | (refine zBu rfl (.tmp 8) (.tmp 11) _ rfl x.a.r x.b.r (min x.a.r x.b.r) rfl rfl (zJX _ _) ?_) | (refine zBu rfl (.tmp 15) (.tmp 18) _ rfl x.a.c x.b.c (min x.a.c x.b.c) rfl rfl (zJX _ _) ?_) | (refine zCj rfl (.tmp 22) (.tmp 25) _ rfl x.a.r x.b.r (max x.a.r x.b.r) rfl rfl (zHK _ _) ?_) | (refine zCj rfl (.tmp 29) (.tmp 32) _ rfl x.a.c x.b.c (max x.a.c x.b.c) rfl rfl (zHK _ _) ?_))
 have HLT:=hlt;refine bodyPost_ret (v:=.agg (ar5 {zBR x with s:=s}).toArray) (by simp [results,results58,go_sem,b0,b1,b2,b3,b4,zBR]) rfl ⟨rfl,(clB hb)⟩
theorem zL6 (a b:Nat) (w:World) (h1:a<=18446744073709551615) (h2:b<=18446744073709551615) :
  Calls prog 165 #[.int .u64 (a:Int),.int .u64 (b:Int)] w λe w'=>e=.returned (.int .u64 (Nat.gcd a b:Int))/\w=w':=by
 go_enter func165,ntmps165;go_wp2;go_loop [0,1,5] (λx y _=>∃ p q:Nat,x=.int .u64 p/\y=.int .u64 q/\p<=18446744073709551615/\q<=18446744073709551615/\Hid (Nat.gcd p q=Nat.gcd a b)) (λ_ y _=>(intOf y).toNat)
 case atStart=>exact ⟨a,b,rfl,rfl,h1,h2,(rfl:Nat.gcd a b=Nat.gcd a b)⟩
 case round =>
  obtain ⟨p,q,rfl,rfl,hp,hq,hg⟩:=hrel;by_cases hz:q=0
  ·subst hz;go_wp2;go_ret;exact ⟨zCR (by rw [<-hg.out,Nat.gcd_zero_right]),rfl⟩
  ·have hz':((q:Int) != 0)=true:=by simp;omega
   go_wp2;go_round
   case rel=>exact ⟨q,p % q,rfl,by go_num,hq,by have:=Nat.mod_lt p (Nat.pos_of_ne_zero hz);omega,by exact (show Nat.gcd q (p % q)=Nat.gcd a b by rw [<-hg.out,Nat.gcd_comm p q,Nat.gcd_rec q p,Nat.gcd_comm])⟩
   case measure=>simp [intOf];have:=Nat.mod_lt p (Nat.pos_of_ne_zero hz);omega
theorem zLV (a b:Int) (w:World) (h0:0<=a) (h1:a<=18446744073709551615) (h2:0<=b) (h3:b<=18446744073709551615) :
  Calls prog 165 #[.int .u64 a,.int .u64 b] w λe w'=>e=.returned (.int .u64 (Int.gcd a b:Int))/\w=w':=by
 obtain ⟨x,rfl⟩:=Int.eq_ofNat_of_zero_le h0;obtain ⟨y,rfl⟩:=Int.eq_ofNat_of_zero_le h2;exact zL6 x y w (by omega) (by omega)
theorem zLd {f:FuncId} {args:Array Value} {v:Value} (h:Calls P f args w λe w'=>e=.returned v/\w=w'):Calls P f args w λe w'=>e=.returned v/\w'=w :=
 h.mono λ_ _ ⟨a,b⟩=>⟨a,b.symm⟩
theorem zMI (n:Int) (w:World) (h1:-9223372036854775808<=n) (h2:n<=9223372036854775807) :
  Calls prog 166 #[.int .i64 n] w λe w'=>e=.returned (.int .u64 (n.natAbs:Int))/\w=w':=by
 by_cases h:n<0
 ·go_enter func166,ntmps166;go_wp2;go_ret;exact ⟨zCR (by omega),rfl⟩
 ·go_enter func166,ntmps166;go_wp2;go_ret;exact ⟨zCR (by omega),rfl⟩
theorem zCY (n d:Int) (w:World) (h1:-9223372036854775808<=n) (h2:n<=9223372036854775807) (h3:-9223372036854775808<=d) (h4:d<=9223372036854775807) :
  CR 144 #[.agg #[.int .i64 n,.int .i64 d]] w (.bool (Wnum.rightB n d)):=by
 by_cases c3:d<1
 ·have e:Hid (Wnum.rightB n d=false):=by show Wnum.rightB n d=false;unfold Wnum.rightB;rw [decide_eq_false_iff_not];omega
  rw [e.out];clear e;go_enter func144,ntmps144;go_wp2;go_ret;exact ⟨rfl,clA⟩
 by_cases c4:1000000<d
 ·have e:Hid (Wnum.rightB n d=false):=by show Wnum.rightB n d=false;unfold Wnum.rightB;rw [decide_eq_false_iff_not];omega
  rw [e.out];clear e;go_enter func144,ntmps144;go_wp2;go_ret;exact ⟨rfl,clA⟩
 by_cases c1:n < -1000000000000
 ·have e:Hid (Wnum.rightB n d=false):=by show Wnum.rightB n d=false;unfold Wnum.rightB;rw [decide_eq_false_iff_not];omega
  rw [e.out];clear e;go_enter func144,ntmps144;go_wp2;go_ret;exact ⟨rfl,clA⟩
 by_cases c2:1000000000000<n
 ·have e:Hid (Wnum.rightB n d=false):=by show Wnum.rightB n d=false;unfold Wnum.rightB;rw [decide_eq_false_iff_not];omega
  rw [e.out];clear e;go_enter func144,ntmps144;go_wp2;go_ret;exact ⟨rfl,clA⟩
 have e:Hid ((((Int.gcd (n.natAbs:Int) d:Nat):Int) == 1)=Wnum.rightB n d):=by
  show _=_
  have e0:Int.gcd (n.natAbs:Int) d=Int.gcd n d:=by simp [Int.gcd]
  rw [e0];unfold Wnum.rightB;by_cases g:Int.gcd n d=1
  ·rw [g,decide_eq_true (by omega)];rfl
  ·rw [decide_eq_false (by omega),beq_eq_false_iff_ne];omega
 rw [<-e.out];clear e;have hw:IntKind.u64.wrap d=d:=IntWalk.u64_in _ (by omega);have b0:(0:Int)<=(n.natAbs:Int):=by omega
 have b1:(n.natAbs:Int)<=18446744073709551615:=by omega
 have b2:0<=d:=by omega
 have b3:d<=18446744073709551615:=by omega
 go_enter func144,ntmps144;go_wp2;go_quiet (first | (go_at_call 166;exact Calls.quiet_of_same (zLd (zMI _ _ h1 h2))) | (go_at_call 165;exact Calls.quiet_of_same (zLd (zLV _ _ _ b0 b1 b2 b3))))
 go_wp2;go_ret;exact ⟨rfl,clA⟩
theorem zOL (n d:Int) (w:World) (h1:-9223372036854775808<=n) (h2:n<=9223372036854775807) (h3:-9223372036854775808<=d) (h4:d<=9223372036854775807) :
  CR 132 #[.agg #[.int .i64 n,.int .i64 d]] w (.agg #[.int .i64 (Wnum.cN n d),.int .i64 (Wnum.cD n d)]):=by
 cases hr:Wnum.rightB n d with
 | true =>
  have e1:Wnum.cN n d=n:=by unfold Wnum.cN;rw [if_pos hr]
  have e2:Wnum.cD n d=d:=by unfold Wnum.cD;rw [if_pos hr]
  rw [e1,e2];clear e1 e2;have H:Hid (Wnum.rightB n d=true):=hr;clear hr;go_enter func132,ntmps132;go_wp2_with fail
  refine (zCY _ _ _ h1 h2 h3 h4).mono ?_;rintro e w1 ⟨rfl,hb⟩;rw [H.out];obtain ⟨hc,hf⟩:=zNe hb;have hz:=bsz (k:=w.heap.size+1) hb (by simp);go_wp2;refine bodyPost_ret (v:=.agg #[.int .i64 n,.int .i64 d]) (by simp [results,results132,go_sem,hc]) rfl ⟨rfl,?_⟩;exact clA
 | false =>
  have e1:Wnum.cN n d=0:=by unfold Wnum.cN;rw [hr];rfl
  have e2:Wnum.cD n d=1:=by unfold Wnum.cD;rw [hr];rfl
  rw [e1,e2];clear e1 e2;have H:Hid (Wnum.rightB n d=false):=hr;clear hr;go_enter func132,ntmps132;go_wp2_with fail
  refine (zCY _ _ _ h1 h2 h3 h4).mono ?_;rintro e w1 ⟨rfl,hb⟩;rw [H.out];obtain ⟨hc,hf⟩:=zNe hb;have hz:=bsz (k:=w.heap.size+1) hb (by simp);go_wp2;refine bodyPost_ret (v:=.agg #[.int .i64 0,.int .i64 1]) (by simp [results,results132,go_sem,hc]) rfl ⟨rfl,?_⟩;exact clA
theorem zFW (b:ByteArray) (w:World) (hs:b.size<=9223372036854775807):Calls prog 145 #[.string b] w λe w'=>e=.returned (.bool (Wv.prts b.data.toList))/\w=w':=by
 obtain ⟨R,hR⟩:∃ R,Wv.prts b.data.toList=R:=⟨_,rfl⟩
 have E0:Hid (R=Wv.prts (b.data.toList.drop 0)):=hR.symm;rw [hR];clear hR;go_enter func145,ntmps145;go_wp2_with fail
 go_loopg [3] (b.size) (λgk x wr=>∃ j:Nat,x=.int .i64 j/\gk=b.size - j/\j<=b.size/\Hid (R=Wv.prts (b.data.toList.drop j))/\wr=w)
 case atStart=>exact ⟨0,rfl,rfl,Nat.zero_le _,E0,rfl⟩
 case round =>
  obtain ⟨j,rfl,hg,hj,HR,rfl⟩:=hrel;by_cases hlt:j<b.size
  ·have hli:(j:Int)<(b.size:Int):=by omega
   have hd:=zCt b j hlt;have hp:=zIj (b[j]);by_cases c1:((b[j]).toNat:Int)<32
   ·have E:Hid (R=false):=by show _=_;rw [HR.out,hd,Wv.prts_cons,hp,decide_eq_false (by omega)];rfl
    clear HR hd hp;go_wp2;go_ret;exact ⟨by rw [E.out];rfl,rfl⟩
   ·by_cases c2:(126:Int)<((b[j]).toNat:Int)
    ·have E:Hid (R=false):=by show _=_;rw [HR.out,hd,Wv.prts_cons,hp,decide_eq_false (p:=((b[j]).toNat:Int)<=126) (by omega)];simp
     clear HR hd hp;go_wp2;go_ret;exact ⟨by rw [E.out];rfl,rfl⟩
    ·have E:Hid (R=Wv.prts (b.data.toList.drop (j+1))):=by show _=_;rw [HR.out,hd,Wv.prts_cons,hp,decide_eq_true (by omega),decide_eq_true (by omega)];rfl
     clear HR hd hp;go_wp2_with fail
     go_roundg (b.size - (j+1))
     case rel=>exact ⟨j+1,by simp,rfl,hlt,E,by first | trivial | rfl⟩
     case measure=>omega
  ·have hli:¬ (j:Int)<(b.size:Int):=by omega
   have E:Hid (R=true):=by show _=_;rw [HR.out,zCO b j hlt];rfl
   clear HR;go_wp2;go_ret;exact ⟨by rw [E.out];rfl,rfl⟩
theorem zH3 (n d:Int) (t:ByteArray) (b:Bool) (f:Int) (w:World) :
  CR 102 #[.agg #[.int .i64 0,.int .i64 n,.int .i64 d,.string t,.bool b,.int .i64 f]] w (.bool (Wv.right 0 n d t b f)):=by
 rw [<-zOB];have hq:=zBM 0 n d t b f 0 0 0 ⟨#[]⟩ false 0;generalize eqV 0 n d t b f 0 0 0 ⟨#[]⟩ false 0=R at *;go_enter func102,ntmps102;go_wp2;go_ret;exact ⟨rfl,clA⟩
theorem zJC (n d:Int) (t:ByteArray) (b:Bool) (f:Int) (w:World) (h1:-9223372036854775808<=n) (h2:n<=9223372036854775807) (h3:-9223372036854775808<=d) (h4:d<=9223372036854775807) :
  CR 102 #[.agg #[.int .i64 1,.int .i64 n,.int .i64 d,.string t,.bool b,.int .i64 f]] w (.bool (Wv.right 1 n d t b f)):=by
 rw [<-zOJ];have C:=λw=>zCY n d w h1 h2 h3 h4
 have hq:=zBM 1 n d t b f 1 n d ⟨#[]⟩ false 0;generalize eqV 1 n d t b f 1 n d ⟨#[]⟩ false 0=R at *;generalize Wnum.rightB n d=q at *;have pA:AtL (w.alloc (.cells #[.int .i64 1,.int .i64 n,.int .i64 d,.string t,.bool b,.int .i64 f] 31)) w.heap.size [.int .i64 1,.int .i64 n,.int .i64 d,.string t,.bool b,.int .i64 f]:=AtL.new0 w _ _;cases q
 all_goals
  go_enter func102,ntmps102;go_wp2_with fail
  refine (C _).mono ?_;rintro e w1 ⟨rfl,hb⟩;have pA1:=AtL.below hb pA;obtain ⟨a0,a1,a2,a3,a4,a5⟩:=pA1.f6;have hB1:=zAB (zAM (Below.refl _ w) _) hb;go_wp2;go_ret;exact ⟨by simp,hB1⟩
theorem zHp (n d:Int) (t:ByteArray) (b:Bool) (f:Int) (w:World) (hs:t.size<=9223372036854775807) :
  CR 102 #[.agg #[.int .i64 2,.int .i64 n,.int .i64 d,.string t,.bool b,.int .i64 f]] w (.bool (Wv.right 2 n d t b f)):=by
 rw [<-zO6];have C:=λw=>zFW t w hs
 have hq:=zBM 2 n d t b f 2 0 0 t false 0;generalize eqV 2 n d t b f 2 0 0 t false 0=R at *;generalize Wv.prts t.data.toList=q at *;by_cases hl:t.size<=256
 ·have hli:(t.size:Int)<=256:=by omega
  rw [decide_eq_true hl];cases q
  all_goals
   go_enter func102,ntmps102;go_wp2_with fail
   refine (C _).mono ?_;rintro e w1 ⟨rfl,rfl⟩;go_wp2;go_ret;exact ⟨by simp,clA⟩
 ·have hli:¬ (t.size:Int)<=256:=by omega
  rw [decide_eq_false hl];cases q
  all_goals
   go_enter func102,ntmps102;go_wp2_with fail
   refine (C _).mono ?_;rintro e w1 ⟨rfl,rfl⟩;go_wp2;go_ret;exact ⟨by simp,clA⟩
theorem zIK (n d:Int) (t:ByteArray) (b:Bool) (f:Int) (w:World) :
  CR 102 #[.agg #[.int .i64 3,.int .i64 n,.int .i64 d,.string t,.bool b,.int .i64 f]] w (.bool (Wv.right 3 n d t b f)):=by
 rw [<-zNn];have hq:=zBM 3 n d t b f 3 0 0 ⟨#[]⟩ b 0;generalize eqV 3 n d t b f 3 0 0 ⟨#[]⟩ b 0=R at *;go_enter func102,ntmps102;go_wp2;go_ret;exact ⟨rfl,clA⟩
theorem zIp (n d:Int) (t:ByteArray) (b:Bool) (f:Int) (w:World) :
  CR 102 #[.agg #[.int .i64 4,.int .i64 n,.int .i64 d,.string t,.bool b,.int .i64 f]] w (.bool (Wv.right 4 n d t b f)):=by
 rw [<-zO7];have hq:=zBM 4 n d t b f 4 0 0 ⟨#[]⟩ false f;generalize eqV 4 n d t b f 4 0 0 ⟨#[]⟩ false f=R at *;unfold Wv.flt;by_cases h1:1<=f
 ·by_cases h8:f<=8
  ·rw [decide_eq_true h1,decide_eq_true h8];go_enter func102,ntmps102;go_wp2;go_ret;exact ⟨by simp,clA⟩
  ·rw [decide_eq_true h1,decide_eq_false h8];go_enter func102,ntmps102;go_wp2;go_ret;exact ⟨by simp,clA⟩
 ·rw [decide_eq_false h1];go_enter func102,ntmps102;go_wp2;go_ret;exact ⟨by simp,clA⟩
theorem zGz (k n d:Int) (t:ByteArray) (b:Bool) (f:Int) (w:World) (hk:k<0 \/ 4<k) :
  CR 102 #[.agg #[.int .i64 k,.int .i64 n,.int .i64 d,.string t,.bool b,.int .i64 f]] w (.bool (Wv.right k n d t b f)):=by
 have E:Hid (Wv.right k n d t b f=false):=by
  show _=_
  unfold Wv.right;rw [if_neg (by omega),if_neg (by omega),if_neg (by omega),if_neg (by omega),if_neg (by omega)]
 rw [E.out];clear E;have k0:(k == 0)=false:=by rw [beq_eq_false_iff_ne];omega
 have k1:(k == 1)=false:=by rw [beq_eq_false_iff_ne];omega
 have k2:(k == 2)=false:=by rw [beq_eq_false_iff_ne];omega
 have k3:(k == 3)=false:=by rw [beq_eq_false_iff_ne];omega
 have k4:(k == 4)=false:=by rw [beq_eq_false_iff_ne];omega
 clear hk;go_enter func102,ntmps102;go_wp2;go_ret;exact ⟨rfl,clA⟩
theorem zEr (v:Wt.Vl) (w:World) (hf:Wt.FitV v) :
  CR 102 #[.agg #[.int .i64 v.k,.int .i64 v.n,.int .i64 v.d,.string v.t,.bool v.b,.int .i64 v.f]] w (.bool (Wv.right v.k v.n v.d v.t v.b v.f)):=by
 obtain ⟨k,n,d,t,b,f⟩:=v;obtain ⟨⟨h1,h2⟩,⟨h3,h4⟩,hs⟩:=hf;simp only at *;by_cases k0:k=0
 ·subst k0;exact zH3 n d t b f w
 by_cases k1:k=1
 ·subst k1;exact zJC n d t b f w h1 h2 h3 h4
 by_cases k2:k=2
 ·subst k2;exact zHp n d t b f w hs
 by_cases k3:k=3
 ·subst k3;exact zIK n d t b f w
 by_cases k4:k=4
 ·subst k4;exact zIp n d t b f w
 exact zGz k n d t b f w (by omega)
def zE8 (small:Bool) (c:UInt8):Bool:=Wlx.cap c || (small && Wlx.low c)
theorem zNW:zE8 false=Wlx.cap:=by funext c;simp [zE8]
theorem zNE:zE8 true=Wt.ltr:=by funext c;simp [zE8,Wt.ltr]
def zGv (small:Bool) (j:Nat) (l:List UInt8):Bool:=(decide (0<j) || zE8 small (l.headD 0) || l.isEmpty) && l.all (λc=>zE8 small c || Wlx.dig c)
theorem zIx (small:Bool) (j:Nat) (l:List UInt8):zGv small (j+1) l=l.all (λc=>zE8 small c || Wlx.dig c):=by simp [zGv]
theorem zIh (small:Bool) (l:List UInt8) (h0:1<=l.length) (h1:l.length<=16):Wt.isNm (zE8 small) l=zGv small 0 l:=by
 unfold Wt.isNm zGv;cases l with
 | nil=>simp at h0
 | cons c r=>rw [decide_eq_true h0,decide_eq_true h1];simp
theorem zIi (small:Bool) (j:Nat) (c:UInt8) (r:List UInt8):zGv small j (c::r)=((zE8 small c || (decide (0<j) && Wlx.dig c)) && zGv small (j+1) r):=by
 rw [zIx];unfold zGv;simp only [List.headD_cons,List.isEmpty_cons,List.all_cons,Bool.or_false];cases decide (0<j) <;> cases zE8 small c <;> cases Wlx.dig c <;> simp
theorem zEV (small:Bool) (b:ByteArray) (w:World) (hs:b.size<=9223372036854775807) :
  Calls prog 131 #[.string b,.bool small] w λe w'=>e=.returned (.bool (Wt.isNm (zE8 small) b.data.toList))/\w=w':=by
 have hl:b.data.toList.length=b.size:=rfl;by_cases h1:(b.size:Int)<1
 ·have E:Hid (Wt.isNm (zE8 small) b.data.toList=false):=by
   show _=_
   unfold Wt.isNm;rw [hl,decide_eq_false (by omega)];simp
  rw [E.out];clear E;go_enter func131,ntmps131;go_wp2;go_ret;exact ⟨rfl,rfl⟩
 by_cases h16:(16:Int)<(b.size:Int)
 ·have E:Hid (Wt.isNm (zE8 small) b.data.toList=false):=by
   show _=_
   unfold Wt.isNm;rw [hl,decide_eq_false (p:=b.size<=16) (by omega)];simp
  rw [E.out];clear E;go_enter func131,ntmps131;go_wp2;go_ret;exact ⟨rfl,rfl⟩
 obtain ⟨R,hR⟩:∃ R,Wt.isNm (zE8 small) b.data.toList=R:=⟨_,rfl⟩
 have E0:Hid (R=zGv small 0 (b.data.toList.drop 0)):=by
  show _=_
  rw [<-hR,List.drop_zero];exact zIh small _ (by omega) (by omega)
 rw [hR];clear hR;go_enter func131,ntmps131;go_wp2_with fail
 go_loopg [5] (b.size) (λgk x wr=>∃ j:Nat,x=.int .i64 j/\gk=b.size - j/\j<=b.size/\Hid (R=zGv small j (b.data.toList.drop j))/\wr=w)
 case atStart=>exact ⟨0,rfl,rfl,Nat.zero_le _,E0,rfl⟩
 case round =>
  clear E0;obtain ⟨j,rfl,hg,hj,HR,rfl⟩:=hrel;by_cases hlt:j<b.size
  ·have hli:(j:Int)<(b.size:Int):=by omega
   have hd:=zCt b j hlt;have HR2:Hid (R=((zE8 small (b[j]) || (decide (0<j) && Wlx.dig (b[j]))) && zGv small (j+1) (b.data.toList.drop (j+1)))):=by show _=_;rw [HR.out,hd,zIi]
   clear HR hd;obtain ⟨T,hT⟩:∃ T,zGv small (j+1) (b.data.toList.drop (j+1))=T:=⟨_,rfl⟩
   have HT:Hid (T=zGv small (j+1) (b.data.toList.drop (j+1))):=hT.symm;rw [hT] at HR2;clear hT;unfold zE8 Wlx.cap Wlx.low Wlx.dig at HR2;by_cases a1:65<=((b[j]).toNat:Int) <;> by_cases a2:((b[j]).toNat:Int)<=90 <;> by_cases a3:97<=((b[j]).toNat:Int) <;> by_cases a4:((b[j]).toNat:Int)<=122 <;> by_cases a5:48<=((b[j]).toNat:Int) <;> by_cases a6:((b[j]).toNat:Int)<=57
   any_goals (exfalso;omega)
   all_goals by_cases j0:(0:Int)<(j:Int)
   all_goals have j0':decide (0<j)=decide ((0:Int)<(j:Int)):=by rw [decide_eq_decide];omega
   all_goals rw [j0'] at HR2
   all_goals clear j0'
   all_goals cases small
   all_goals first
    | (
      have E:Hid (R=false):=by (show _=_;rw [HR2.out];simp only [a1,a2,a3,a4,a5,a6,j0,decide_true,decide_false,Bool.true_and,Bool.false_and,Bool.and_true,Bool.and_false,Bool.or_false,Bool.or_true])
      clear HR2 HT;go_wp2;go_ret;exact ⟨by rw [E.out];rfl,rfl⟩)
    | (
      have E:Hid (R=T):=by (show _=_;rw [HR2.out];simp only [a1,a2,a3,a4,a5,a6,j0,decide_true,decide_false,Bool.true_and,Bool.and_true,Bool.and_false,Bool.or_false,Bool.or_true])
      clear HR2;go_wp2_with fail
      go_roundg (b.size - (j+1))
      case rel=>exact ⟨j+1,by simp,rfl,hlt,E.out.trans HT.out,by first | trivial | rfl⟩
      case measure=>omega)
  ·have hli:¬ (j:Int)<(b.size:Int):=by omega
   have E:Hid (R=true):=by
    show _=_
    rw [HR.out,zCO b j hlt];simp [zGv]
   clear HR;go_wp2;go_ret;exact ⟨by rw [E.out];rfl,rfl⟩
theorem zKn (b:ByteArray) (w:World) (hs:b.size<=9223372036854775807):Calls prog 131 #[.string b,.bool false] w λe w'=>e=.returned (.bool (Wt.fnNm b))/\w=w':=by
 have h:=zEV false b w hs;rw [zNW] at h;exact h
theorem zKM (b:ByteArray) (w:World) (hs:b.size<=9223372036854775807):Calls prog 131 #[.string b,.bool true] w λe w'=>e=.returned (.bool (Wt.shNm b))/\w=w':=by
 have h:=zEV true b w hs;rw [zNE] at h;exact h
theorem zLM (o:Int) (w:World):Calls prog 103 #[.int .i64 o] w λe w'=>e=.returned (.bool (Wt.isBin o))/\w=w':=by
 unfold Wt.isBin;by_cases a1:11<=o <;> by_cases a2:o<=16 <;> by_cases a3:21<=o <;> by_cases a4:o<=26
 any_goals (exfalso;omega)
 all_goals
  go_enter func103,ntmps103;go_wp2;go_ret;exact ⟨zA8 (by simp [a1,a2,a3,a4]),rfl⟩
theorem zEk (a:Wt.Rf) (w:World) (hs:a.s.size<=9223372036854775807):CR 130 #[.agg #[.string a.s,.int .i64 a.r,.int .i64 a.c,.bool a.fr,.bool a.fc]] w (.bool (Wt.rfOk a)):=by
 obtain ⟨s,r,c,fr,fc⟩:=a;unfold Wt.rfOk Wt.inR;simp only at hs ⊢;have C:=λw=>zKM s w hs
 by_cases r0:r<0
 ·have r0':¬ 0<=r:=by omega
  rw [decide_eq_false r0'];go_enter func130,ntmps130;go_wp2;go_ret;exact ⟨zA8 (by simp),clA⟩
 by_cases r1:65536<=r
 ·rw [decide_eq_false (p:=r<65536) (by omega)];go_enter func130,ntmps130;go_wp2;go_ret;exact ⟨zA8 (by simp),clA⟩
 by_cases c0:c<0
 ·rw [decide_eq_false (p:=0<=c) (by omega)];go_enter func130,ntmps130;go_wp2;go_ret;exact ⟨zA8 (by simp),clA⟩
 by_cases c1:256<=c
 ·rw [decide_eq_false (p:=c<256) (by omega)];go_enter func130,ntmps130;go_wp2;go_ret;exact ⟨zA8 (by simp),clA⟩
 rw [decide_eq_true (p:=0<=r) (by omega),decide_eq_true (p:=r<65536) (by omega),decide_eq_true (p:=0<=c) (by omega),decide_eq_true (p:=c<256) (by omega)];by_cases h0:s=⟨#[]⟩
 ·subst h0;go_enter func130,ntmps130;go_wp2;go_ret;exact ⟨rfl,clA⟩
 ·have hE:=zFv h0;rw [decide_eq_false h0];generalize Wt.shNm s=q at *;go_enter func130,ntmps130;go_wp2_with fail
  refine (C _).mono ?_;rintro e w2 ⟨rfl,rfl⟩;go_wp2;go_ret;exact ⟨by simp,clA⟩
theorem zJe (v:Wt.Vl) (w:World) (hf:Wt.FitV v):CR 129 #[.agg #[.int .i64 v.k,.int .i64 v.n,.int .i64 v.d,.string v.t,.bool v.b,.int .i64 v.f]] w (.bool (Wt.vlOk v)):=by
 have C:=λw=>zEr v w hf
 obtain ⟨k,n,d,t,b,f⟩:=v;obtain ⟨⟨h1,h2⟩,⟨h3,h4⟩,hs⟩:=hf;unfold Wt.vlOk;simp only at h1 h2 h3 h4 hs C ⊢;by_cases e0:k=0
 ·subst e0;rw [if_pos rfl];generalize Wv.right 0 n d t b f=q at *;cases q
  all_goals
   go_enter func129,ntmps129;go_wp2_with fail
   refine (C _).mono ?_;rintro e w1 ⟨rfl,hb⟩;have hB:=zAB (zAM (Below.refl _ w) _) hb;obtain ⟨c0,c1,c2,c3,c4,c5⟩:=(AtL.below hb (AtL.new0 w _ [.int .i64 0,.int .i64 n,.int .i64 d,.string t,.bool b,.int .i64 f])).f6;go_wp2;go_ret;exact ⟨rfl,hB⟩
 rw [if_neg e0];by_cases e1:k=1
 ·subst e1;rw [if_pos rfl];have hr:Wv.right 1 n d t b f=true->1<=d:=by
   unfold Wv.right;rw [if_neg (by decide),if_pos rfl];intro h;simp only [Bool.and_eq_true] at h;have:=h.1.1.1;unfold Wnum.rightB at this;have:=of_decide_eq_true this;omega
  generalize Wv.right 1 n d t b f=q at *;cases q
  ·go_enter func129,ntmps129;go_wp2_with fail
   refine (C _).mono ?_;rintro e w1 ⟨rfl,hb⟩;have hB:=zAB (zAM (Below.refl _ w) _) hb;obtain ⟨c0,c1,c2,c3,c4,c5⟩:=(AtL.below hb (AtL.new0 w _ [.int .i64 1,.int .i64 n,.int .i64 d,.string t,.bool b,.int .i64 f])).f6;go_wp2;go_ret;exact ⟨rfl,hB⟩
  have hd:=hr rfl;clear hr;by_cases hn:0<=n
  ·have hd0:¬ d=0:=by omega
   have hdm:¬ d = -1:=by omega
   rw [decide_eq_true hn];go_enter func129,ntmps129;go_wp2_with fail
   refine (C _).mono ?_;rintro e w1 ⟨rfl,hb⟩;have hB:=zAB (zAM (Below.refl _ w) _) hb;obtain ⟨c0,c1,c2,c3,c4,c5⟩:=(AtL.below hb (AtL.new0 w _ [.int .i64 1,.int .i64 n,.int .i64 d,.string t,.bool b,.int .i64 f])).f6;go_wp2;go_ret;refine ⟨zA8 ?_,hB⟩;rw [Bool.eq_iff_iff];simp
  ·rw [decide_eq_false hn];go_enter func129,ntmps129;go_wp2_with fail
   refine (C _).mono ?_;rintro e w1 ⟨rfl,hb⟩;have hB:=zAB (zAM (Below.refl _ w) _) hb;obtain ⟨c0,c1,c2,c3,c4,c5⟩:=(AtL.below hb (AtL.new0 w _ [.int .i64 1,.int .i64 n,.int .i64 d,.string t,.bool b,.int .i64 f])).f6;go_wp2;go_ret;exact ⟨zA8 (by simp),hB⟩
 rw [if_neg e1];generalize Wv.right k n d t b f=q at *;have e0':(k == 0)=false:=by simp [e0]
 have e1':(k != 1)=true:=by simp [e1]
 cases q
 all_goals
  go_enter func129,ntmps129;go_wp2_with fail
  refine (C _).mono ?_;rintro e w1 ⟨rfl,hb⟩;have hB:=zAB (zAM (Below.refl _ w) _) hb;obtain ⟨c0,c1,c2,c3,c4,c5⟩:=(AtL.below hb (AtL.new0 w _ [.int .i64 k,.int .i64 n,.int .i64 d,.string t,.bool b,.int .i64 f])).f6;go_wp2;go_ret;exact ⟨rfl,hB⟩
def nps (x:Wt.Nd):Int:=if x.k=4 then 1 else if x.k=5 then 2 else if x.k=6 then x.ar else 0
theorem zED (h:Wt.right x=true):nps x=Wt.parts x:=by
 unfold Wt.right at h;unfold Wt.parts nps;by_cases h4:x.k=4
 ·rw [if_pos h4,if_pos h4]
 rw [if_neg h4,if_neg h4];by_cases h5:x.k=5
 ·rw [if_pos h5,if_pos h5]
 rw [if_neg h5,if_neg h5];by_cases h6:x.k=6
 ·rw [if_pos h6]
 rw [if_neg h6];by_cases h1:x.k=1
 ·rw [if_pos h1,Bool.and_eq_true,zBe] at h;have:=congrArg Wt.Nd.ar h.2;simp only at this;omega
 rw [if_neg h1] at h;by_cases h1:x.k=2
 ·rw [if_pos h1,Bool.and_eq_true,zBe] at h;have:=congrArg Wt.Nd.ar h.2;simp only at this;omega
 rw [if_neg h1] at h;by_cases h1:x.k=3
 ·rw [if_pos h1,Bool.and_eq_true,zBe] at h;have:=congrArg Wt.Nd.ar h.2;simp only at this;omega
 rw [if_neg h1,if_neg h4,if_neg h5,if_neg h6] at h;cases h
theorem zIl (o:Int) (w:World):CR 103 #[.int .i64 o] w (.bool (Wt.isBin o)):=(zLM o w).mono λe w' h=>⟨h.1,h.2 ▸ Below.refl _ _⟩
theorem zNJ (x:Wt.Nd) (w:World) (hk:x.k=1) (hf:Wt.FitV x.v) :
  CR 85 #[ndV x] w (.tuple #[.int .i64 0,.bool (Wt.vlOk x.v && eqN x ⟨1,x.v,0,⟨#[]⟩,0,Wt.r0,Wt.r0⟩)]):=by
 have hq:∀ w:World,(binOp .eql 35 (.agg (zAG x).toArray) (.agg #[.int .i64 1,.int .i64 x.v.k,.int .i64 x.v.n,.int .i64 x.v.d,.string x.v.t,.bool x.v.b,.int .i64 x.v.f,.int .i64 0,.string ⟨#[]⟩,.int .i64 0,.string ⟨#[]⟩,.int .i64 0,.int .i64 0,.bool false,.bool false,.string ⟨#[]⟩,.int .i64 0,.int .i64 0,.bool false,.bool false])).run prog w=.ok (.bool (eqN x ⟨1,x.v,0,⟨#[]⟩,0,Wt.r0,Wt.r0⟩)) w:=λw=>zBC x ⟨1,x.v,0,⟨#[]⟩,0,Wt.r0,Wt.r0⟩ w
 generalize eqN x ⟨1,x.v,0,⟨#[]⟩,0,Wt.r0,Wt.r0⟩=R at *;have C:=λw=>zJe x.v w hf
 generalize Wt.vlOk x.v=q at *;have pA:AtL (w.alloc (.cells (zAG x).toArray 35)) w.heap.size (zAG x):=AtL.new0 w _ _;have hBa:Below w.heap.size w (w.alloc (.cells (zAG x).toArray 35)):=zAM (Below.refl _ w) _;show Calls _ _ #[.agg (zAG x).toArray] _ _
 cases R
 ·go_enter func85,ntmps85;go_upto_region 1 with fail
  generalize (w.alloc (.cells (zAG x).toArray 35))=W0 at *;have rA:=pA.range;have a0:W0.cell? ⟨w.heap.size,0,none⟩=some (.int .i64 1):=by rw [<-hk];exact pA.2.1 0 _ rfl
  have a1:=pA.2.1 1 _ rfl;have a2:=pA.2.1 2 _ rfl;have a3:=pA.2.1 3 _ rfl;have a4:=pA.2.1 4 _ rfl;have a5:=pA.2.1 5 _ rfl;have a6:=pA.2.1 6 _ rfl;go_wp2_with ((with_reducible refine zAA ?_ 35 (.tmp 1) ?_ w.heap.size 0 ?_ (zAG x) _ ?_ underlying35 ?_ ?_ ?_);rfl;rfl;rfl;exact rA;rfl;kernel_rfl)
  go_ret2
  exact ⟨by simp,hBa⟩
 ·go_enter func85,ntmps85;go_upto_region 1 with fail
  generalize (w.alloc (.cells (zAG x).toArray 35))=W0 at *;have rA:=pA.range;have a0:W0.cell? ⟨w.heap.size,0,none⟩=some (.int .i64 1):=by rw [<-hk];exact pA.2.1 0 _ rfl
  have a1:=pA.2.1 1 _ rfl;have a2:=pA.2.1 2 _ rfl;have a3:=pA.2.1 3 _ rfl;have a4:=pA.2.1 4 _ rfl;have a5:=pA.2.1 5 _ rfl;have a6:=pA.2.1 6 _ rfl;go_wp2_with ((with_reducible refine zAA ?_ 35 (.tmp 1) ?_ w.heap.size 0 ?_ (zAG x) _ ?_ underlying35 ?_ ?_ ?_);rfl;rfl;rfl;exact rA;rfl;kernel_rfl)
  refine (C _).mono ?_;rintro e w1 ⟨rfl,hb⟩;have hB1:=zAB hBa hb;go_wp2;go_ret2
  exact ⟨by simp,hB1⟩
theorem zM4 (x:Wt.Nd) (w:World) (hk:x.k=2) (hs:x.a.s.size<=9223372036854775807) :
  CR 85 #[ndV x] w (.tuple #[.int .i64 0,.bool (Wt.rfOk x.a && eqN x ⟨2,Wt.v0,0,⟨#[]⟩,0,x.a,Wt.r0⟩)]):=by
 have hq:∀ w:World,(binOp .eql 35 (.agg (zAG x).toArray) (.agg #[.int .i64 2,.int .i64 0,.int .i64 0,.int .i64 0,.string ⟨#[]⟩,.bool false,.int .i64 0,.int .i64 0,.string ⟨#[]⟩,.int .i64 0,.string x.a.s,.int .i64 x.a.r,.int .i64 x.a.c,.bool x.a.fr,.bool x.a.fc,.string ⟨#[]⟩,.int .i64 0,.int .i64 0,.bool false,.bool false])).run prog w=.ok (.bool (eqN x ⟨2,Wt.v0,0,⟨#[]⟩,0,x.a,Wt.r0⟩)) w:=λw=>zBC x ⟨2,Wt.v0,0,⟨#[]⟩,0,x.a,Wt.r0⟩ w
 generalize eqN x ⟨2,Wt.v0,0,⟨#[]⟩,0,x.a,Wt.r0⟩=R at *;have C:=λw=>zEk x.a w hs
 generalize Wt.rfOk x.a=q at *;have pA:AtL (w.alloc (.cells (zAG x).toArray 35)) w.heap.size (zAG x):=AtL.new0 w _ _;have hBa:Below w.heap.size w (w.alloc (.cells (zAG x).toArray 35)):=zAM (Below.refl _ w) _;show Calls _ _ #[.agg (zAG x).toArray] _ _
 cases R
 ·go_enter func85,ntmps85;go_upto_region 1 with fail
  generalize (w.alloc (.cells (zAG x).toArray 35))=W0 at *;have rA:=pA.range;have a0:W0.cell? ⟨w.heap.size,0,none⟩=some (.int .i64 2):=by rw [<-hk];exact pA.2.1 0 _ rfl
  have a10:=pA.2.1 10 _ rfl;have a11:=pA.2.1 11 _ rfl;have a12:=pA.2.1 12 _ rfl;have a13:=pA.2.1 13 _ rfl;have a14:=pA.2.1 14 _ rfl;go_wp2_with ((with_reducible refine zAA ?_ 35 (.tmp 1) ?_ w.heap.size 0 ?_ (zAG x) _ ?_ underlying35 ?_ ?_ ?_);rfl;rfl;rfl;exact rA;rfl;kernel_rfl)
  go_ret2
  exact ⟨by simp,hBa⟩
 ·go_enter func85,ntmps85;go_upto_region 1 with fail
  generalize (w.alloc (.cells (zAG x).toArray 35))=W0 at *;have rA:=pA.range;have a0:W0.cell? ⟨w.heap.size,0,none⟩=some (.int .i64 2):=by rw [<-hk];exact pA.2.1 0 _ rfl
  have a10:=pA.2.1 10 _ rfl;have a11:=pA.2.1 11 _ rfl;have a12:=pA.2.1 12 _ rfl;have a13:=pA.2.1 13 _ rfl;have a14:=pA.2.1 14 _ rfl;go_wp2_with ((with_reducible refine zAA ?_ 35 (.tmp 1) ?_ w.heap.size 0 ?_ (zAG x) _ ?_ underlying35 ?_ ?_ ?_);rfl;rfl;rfl;exact rA;rfl;kernel_rfl)
  refine (C _).mono ?_;rintro e w1 ⟨rfl,hb⟩;have hB1:=zAB hBa hb;go_wp2;go_ret2
  exact ⟨by simp,hB1⟩
theorem zMS (x:Wt.Nd) (w:World) (hk:x.k=5) :
  CR 85 #[ndV x] w (.tuple #[.int .i64 2,.bool (Wt.isBin x.op && eqN x ⟨5,Wt.v0,x.op,⟨#[]⟩,0,Wt.r0,Wt.r0⟩)]):=by
 have hq:∀ w:World,(binOp .eql 35 (.agg (zAG x).toArray) (.agg #[.int .i64 5,.int .i64 0,.int .i64 0,.int .i64 0,.string ⟨#[]⟩,.bool false,.int .i64 0,.int .i64 x.op,.string ⟨#[]⟩,.int .i64 0,.string ⟨#[]⟩,.int .i64 0,.int .i64 0,.bool false,.bool false,.string ⟨#[]⟩,.int .i64 0,.int .i64 0,.bool false,.bool false])).run prog w=.ok (.bool (eqN x ⟨5,Wt.v0,x.op,⟨#[]⟩,0,Wt.r0,Wt.r0⟩)) w:=λw=>zBC x ⟨5,Wt.v0,x.op,⟨#[]⟩,0,Wt.r0,Wt.r0⟩ w
 generalize eqN x ⟨5,Wt.v0,x.op,⟨#[]⟩,0,Wt.r0,Wt.r0⟩=R at *;have C:=λw=>zIl x.op w
 generalize Wt.isBin x.op=q at *;have pA:AtL (w.alloc (.cells (zAG x).toArray 35)) w.heap.size (zAG x):=AtL.new0 w _ _;have hBa:Below w.heap.size w (w.alloc (.cells (zAG x).toArray 35)):=zAM (Below.refl _ w) _;show Calls _ _ #[.agg (zAG x).toArray] _ _
 cases R
 ·go_enter func85,ntmps85;go_upto_region 1 with fail
  generalize (w.alloc (.cells (zAG x).toArray 35))=W0 at *;have rA:=pA.range;have a0:W0.cell? ⟨w.heap.size,0,none⟩=some (.int .i64 5):=by rw [<-hk];exact pA.2.1 0 _ rfl
  have a7:=pA.2.1 7 _ rfl;go_wp2_with ((with_reducible refine zAA ?_ 35 (.tmp 1) ?_ w.heap.size 0 ?_ (zAG x) _ ?_ underlying35 ?_ ?_ ?_);rfl;rfl;rfl;exact rA;rfl;kernel_rfl)
  go_ret2
  exact ⟨by simp,hBa⟩
 ·go_enter func85,ntmps85;go_upto_region 1 with fail
  generalize (w.alloc (.cells (zAG x).toArray 35))=W0 at *;have rA:=pA.range;have a0:W0.cell? ⟨w.heap.size,0,none⟩=some (.int .i64 5):=by rw [<-hk];exact pA.2.1 0 _ rfl
  have a7:=pA.2.1 7 _ rfl;go_wp2_with ((with_reducible refine zAA ?_ 35 (.tmp 1) ?_ w.heap.size 0 ?_ (zAG x) _ ?_ underlying35 ?_ ?_ ?_);rfl;rfl;rfl;exact rA;rfl;kernel_rfl)
  refine (C _).mono ?_;rintro e w1 ⟨rfl,hb⟩;have hB1:=zAB hBa hb;go_wp2;go_ret2
  exact ⟨by simp,hB1⟩
