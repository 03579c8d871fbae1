/- PWalkH, KRect, KApart, KShaped. -/
import Derived.Test.YtedifblompcdkaaGreatDoorQ13
set_option maxHeartbeats 1600000
set_option maxRecDepth 100000
namespace Go.Proofs.YtedifblompcdkaaGreatDoor
open Tryz
open Go.RowKit
set_option linter.unusedVariables false
variable {B:Nat} {w w1:World} {va vb:Value} {LA LB:List (Wt.Nd × Value)} {x:Wt.Nd}
theorem zIa (blk off n cap:Nat) (F:Nat->Wpl.Cl) (w:World) (hn0:0<n) (hn:n<=1000000000000000) (hcap:n<=cap) (hcap2:cap<=9223372036854775807) (hb:blk<w.heap.size) (hc:Cells w blk off n F) (hA:Wpl.anyN (F 0).s F n=true) :
  CR 90 #[.slice (some ⟨blk,off,none⟩) n cap] w (.tuple #[.agg #[.int .i64 (Wpl.hullV F n).s,.int .i64 (Wpl.hullV F n).t,.int .i64 (Wpl.hullV F n).l,.int .i64 (Wpl.hullV F n).b,.int .i64 (Wpl.hullV F n).r],.bool (Wpl.hullOk F n)]):=by
 obtain ⟨x0,x1,x2⟩:=hc 0 hn0;simp only [Nat.zero_mul,Nat.add_zero] at x0 x1 x2;have hmf:∀ (fn:Fn) (first cap:Array Value) (w:World),(Instr.makeFunc fn first cap).run prog w=.ok (.func fn first cap) w:=λ_ _ _ _=>rfl
 have C:=λw h1 h2=>zB4 (F 0).s blk off n cap F w hn h1 h2
 rw [hA] at C;have HA:Hid (Wpl.anyN (F 0).s F n=true):=hA;clear hA;have E0:Hid (Wpl.hullU F 0=⟨(F 0).s,(F 0).r,(F 0).c,(F 0).r,(F 0).c⟩):=(rfl:Wpl.hullU F 0=⟨(F 0).s,(F 0).r,(F 0).c,(F 0).r,(F 0).c⟩)
 have HO:Hid (Wpl.hullOk F n=false):=by show _=_;unfold Wpl.hullOk;rw [HA.out,decide_eq_true (show n ≠ 0 by omega)];rfl
 have HV:Hid (Wpl.hullV F n=Wpl.nullA):=by show _=_;unfold Wpl.hullV;rw [HO.out];rfl
 clear HA;generalize (F 0).s=s0 at *;generalize (F 0).r=r0 at *;generalize (F 0).c=c0 at *;have hnz:((n:Int) == 0)=false:=by simp;omega
 go_enter func90,ntmps90;go_wp2_with fail
 refine (C _ (by simp [go_sem];omega) (hc.below hb ((Below.refl _ _).alloc (Nat.le_refl _) _))).mono ?_;rintro e w1 ⟨rfl,hb1⟩;have pR:AtL w1 w.heap.size [.int .i64 0,.int .i64 0,.int .i64 0,.int .i64 0,.int .i64 0]:=AtL.below hb1 (AtL.new w _ rfl _);have hB:Below w.heap.size w w1:=clA
 clear hb1;obtain ⟨r0',r1,r2,r3,r4,_,_,_,_,_⟩:=pR.five;go_wp2;refine bodyPost_ret (v:=.tuple #[.agg #[.int .i64 0,.int .i64 0,.int .i64 0,.int .i64 0,.int .i64 0],.bool false]) (by simp [results,results90,go_sem,r0',r1,r2,r3,r4]) rfl ⟨by rw [HV.out,HO.out];rfl,?_⟩;exact zBb hB (Nat.le_refl _) _ _ _ _ _
theorem zMW (blk off n cap:Nat) (F:Nat->Wpl.Cl) (w:World) (hn0:0<n) (hn:n<=1000000000000000) (hcap:n<=cap) (hcap2:cap<=9223372036854775807) (hb:blk<w.heap.size) (hc:Cells w blk off n F) (hA:Wpl.anyN (F 0).s F n=false) (hc1:cap=1) :
  CR 90 #[.slice (some ⟨blk,off,none⟩) n cap] w (.tuple #[.agg #[.int .i64 (Wpl.hullV F n).s,.int .i64 (Wpl.hullV F n).t,.int .i64 (Wpl.hullV F n).l,.int .i64 (Wpl.hullV F n).b,.int .i64 (Wpl.hullV F n).r],.bool (Wpl.hullOk F n)]):=by
 subst hc1;obtain ⟨x0,x1,x2⟩:=hc 0 hn0;simp only [Nat.zero_mul,Nat.add_zero] at x0 x1 x2;have hmf:∀ (fn:Fn) (first cap:Array Value) (w:World),(Instr.makeFunc fn first cap).run prog w=.ok (.func fn first cap) w:=λ_ _ _ _=>rfl
 have C:=λw h1 h2=>zB4 (F 0).s blk off n 1 F w hn h1 h2
 rw [hA] at C;have HA:Hid (Wpl.anyN (F 0).s F n=false):=hA;clear hA;have E0:Hid (Wpl.hullU F 0=⟨(F 0).s,(F 0).r,(F 0).c,(F 0).r,(F 0).c⟩):=(rfl:Wpl.hullU F 0=⟨(F 0).s,(F 0).r,(F 0).c,(F 0).r,(F 0).c⟩)
 have HO:Hid (Wpl.hullOk F n=true):=by show _=_;unfold Wpl.hullOk;rw [HA.out,decide_eq_true (show n ≠ 0 by omega)];rfl
 have HV:Hid (Wpl.hullV F n=Wpl.hullU F (n - 1)):=by show _=_;unfold Wpl.hullV;rw [HO.out];rfl
 clear HA;generalize (F 0).s=s0 at *;generalize (F 0).r=r0 at *;generalize (F 0).c=c0 at *;have hnz:((n:Int) == 0)=false:=by simp;omega
 go_enter func90,ntmps90;go_wp2_with fail
 refine (C _ (by simp [go_sem];omega) (hc.below hb ((Below.refl _ _).alloc (Nat.le_refl _) _))).mono ?_;rintro e w1 ⟨rfl,hb1⟩;have pR:AtL w1 w.heap.size [.int .i64 0,.int .i64 0,.int .i64 0,.int .i64 0,.int .i64 0]:=AtL.below hb1 (AtL.new w _ rfl _);have hB:Below w.heap.size w w1:=clA
 have y0:w1.cell? ⟨blk,off,none⟩=some (.int .i64 s0):=(hB.cell (p:=⟨blk,off,none⟩) hb).trans x0;have y1:w1.cell? ⟨blk,off+1,none⟩=some (.int .i64 r0):=(hB.cell (p:=⟨blk,off+1,none⟩) hb).trans x1;have y2:w1.cell? ⟨blk,off+2,none⟩=some (.int .i64 c0):=(hB.cell (p:=⟨blk,off+2,none⟩) hb).trans x2;have hb':blk<w1.heap.size:=Nat.lt_of_lt_of_le hb hB.size;have hz1:=hB.size;clear hb1 x0 x1 x2 C;go_wp2_with fail
 have pA:AtL ((w1.alloc (.cells #[.int .i64 s0,.int .i64 r0,.int .i64 c0] 24)).alloc (.cells #[.int .i64 s0,.int .i64 r0,.int .i64 c0,.int .i64 r0,.int .i64 c0] 64)) (w1.heap.size+1) [.int .i64 s0,.int .i64 r0,.int .i64 c0,.int .i64 r0,.int .i64 c0]:=AtL.new (w1.alloc _) _ (by simp [go_sem]) _;have pR':=(pR.alloc (.cells #[.int .i64 s0,.int .i64 r0,.int .i64 c0] 24)).alloc (.cells #[.int .i64 s0,.int .i64 r0,.int .i64 c0,.int .i64 r0,.int .i64 c0] 64);have pB:=zCt (zCt hB (.cells #[.int .i64 s0,.int .i64 r0,.int .i64 c0] 24)) (.cells #[.int .i64 s0,.int .i64 r0,.int .i64 c0,.int .i64 r0,.int .i64 c0] 64);clear y0 y1 y2 pR hB;generalize hk:w1.heap.size+1=k at *;have hkw:w.heap.size<k:=by omega
 generalize (w1.alloc (.cells #[.int .i64 s0,.int .i64 r0,.int .i64 c0] 24)).alloc (.cells #[.int .i64 s0,.int .i64 r0,.int .i64 c0,.int .i64 r0,.int .i64 c0] 64)=W2 at *;go_loopw [7,38] (λ_ i wr=>∃ (j:Nat) (t l b r:Int),j<=n - 1/\i=.int .i64 j/\Hid (Wpl.hullU F j=⟨s0,t,l,b,r⟩)/\Below w.heap.size w wr/\AtL wr w.heap.size [.int .i64 0,.int .i64 0,.int .i64 0,.int .i64 0,.int .i64 0]/\AtL wr k [.int .i64 s0,.int .i64 t,.int .i64 l,.int .i64 b,.int .i64 r]) (λ_ i _=>n - (intOf i).toNat)
 case atStart=>exact ⟨0,r0,c0,r0,c0,Nat.zero_le _,rfl,E0,pB,pR',pA⟩
 case round =>
  clear pB pR' pA;obtain ⟨j,t,l,b,r,hj,rfl,E,qB,qR,qA⟩:=hrel
  ·have hltz:¬ (j:Int)<((n - 1:Nat):Int):=by omega
   have hj':j=n - 1:=by omega
   have HV':Hid (Wpl.hullV F n=⟨s0,t,l,b,r⟩):=by show _=_;rw [HV.out,<-hj',E.out]
   clear hj' E HV;have sR:=qR.put5 (.int .i64 s0) (.int .i64 t) (.int .i64 l) (.int .i64 b) (.int .i64 r);have sB:=zBb qB (Nat.le_refl w.heap.size) (.int .i64 s0) (.int .i64 t) (.int .i64 l) (.int .i64 b) (.int .i64 r);obtain ⟨a0,a1,a2,a3,a4,f0,f1,f2,f3,f4⟩:=qA.five;obtain ⟨z0,z1,z2,z3,z4,g0,g1,g2,g3,g4⟩:=qR.five;go_wp2;obtain ⟨r0',r1,r2,r3,r4,_,_,_,_,_⟩:=sR.five;refine bodyPost_ret (v:=.tuple #[.agg #[.int .i64 s0,.int .i64 t,.int .i64 l,.int .i64 b,.int .i64 r],.bool true]) (by simp [results,results90,go_sem,z0,z1,z2,z3,z4]) rfl ⟨by rw [HV'.out,HO.out],?_⟩;exact sB
theorem zJL (blk off n cap:Nat) (F:Nat->Wpl.Cl) (w:World) (hn0:0<n) (hn:n<=1000000000000000) (hcap:n<=cap) (hcap2:cap<=9223372036854775807) (hb:blk<w.heap.size) (hc:Cells w blk off n F) (hA:Wpl.anyN (F 0).s F n=false) (hc1:¬ cap=1) :
  CR 90 #[.slice (some ⟨blk,off,none⟩) n cap] w (.tuple #[.agg #[.int .i64 (Wpl.hullV F n).s,.int .i64 (Wpl.hullV F n).t,.int .i64 (Wpl.hullV F n).l,.int .i64 (Wpl.hullV F n).b,.int .i64 (Wpl.hullV F n).r],.bool (Wpl.hullOk F n)]):=by
 obtain ⟨x0,x1,x2⟩:=hc 0 hn0;simp only [Nat.zero_mul,Nat.add_zero] at x0 x1 x2;have hmf:∀ (fn:Fn) (first cap:Array Value) (w:World),(Instr.makeFunc fn first cap).run prog w=.ok (.func fn first cap) w:=λ_ _ _ _=>rfl
 have C:=λw h1 h2=>zB4 (F 0).s blk off n cap F w hn h1 h2
 rw [hA] at C;have HA:Hid (Wpl.anyN (F 0).s F n=false):=hA;clear hA;have E0:Hid (Wpl.hullU F 0=⟨(F 0).s,(F 0).r,(F 0).c,(F 0).r,(F 0).c⟩):=(rfl:Wpl.hullU F 0=⟨(F 0).s,(F 0).r,(F 0).c,(F 0).r,(F 0).c⟩)
 have HO:Hid (Wpl.hullOk F n=true):=by show _=_;unfold Wpl.hullOk;rw [HA.out,decide_eq_true (show n ≠ 0 by omega)];rfl
 have HV:Hid (Wpl.hullV F n=Wpl.hullU F (n - 1)):=by show _=_;unfold Wpl.hullV;rw [HO.out];rfl
 clear HA;generalize (F 0).s=s0 at *;generalize (F 0).r=r0 at *;generalize (F 0).c=c0 at *;have hnz:((n:Int) == 0)=false:=by simp;omega
 go_enter func90,ntmps90;go_wp2_with fail
 refine (C _ (by simp [go_sem];omega) (hc.below hb ((Below.refl _ _).alloc (Nat.le_refl _) _))).mono ?_;rintro e w1 ⟨rfl,hb1⟩;have pR:AtL w1 w.heap.size [.int .i64 0,.int .i64 0,.int .i64 0,.int .i64 0,.int .i64 0]:=AtL.below hb1 (AtL.new w _ rfl _);have hB:Below w.heap.size w w1:=clA
 have y0:w1.cell? ⟨blk,off,none⟩=some (.int .i64 s0):=(hB.cell (p:=⟨blk,off,none⟩) hb).trans x0;have y1:w1.cell? ⟨blk,off+1,none⟩=some (.int .i64 r0):=(hB.cell (p:=⟨blk,off+1,none⟩) hb).trans x1;have y2:w1.cell? ⟨blk,off+2,none⟩=some (.int .i64 c0):=(hB.cell (p:=⟨blk,off+2,none⟩) hb).trans x2;have hb':blk<w1.heap.size:=Nat.lt_of_lt_of_le hb hB.size;have hz1:=hB.size;clear hb1 x0 x1 x2 C;go_wp2_with fail
 have pA:AtL ((w1.alloc (.cells #[.int .i64 s0,.int .i64 r0,.int .i64 c0] 24)).alloc (.cells #[.int .i64 s0,.int .i64 r0,.int .i64 c0,.int .i64 r0,.int .i64 c0] 64)) (w1.heap.size+1) [.int .i64 s0,.int .i64 r0,.int .i64 c0,.int .i64 r0,.int .i64 c0]:=AtL.new (w1.alloc _) _ (by simp [go_sem]) _;have pR':=(pR.alloc (.cells #[.int .i64 s0,.int .i64 r0,.int .i64 c0] 24)).alloc (.cells #[.int .i64 s0,.int .i64 r0,.int .i64 c0,.int .i64 r0,.int .i64 c0] 64);have pB:=zCt (zCt hB (.cells #[.int .i64 s0,.int .i64 r0,.int .i64 c0] 24)) (.cells #[.int .i64 s0,.int .i64 r0,.int .i64 c0,.int .i64 r0,.int .i64 c0] 64);clear y0 y1 y2 pR hB;generalize hk:w1.heap.size+1=k at *;have hkw:w.heap.size<k:=by omega
 generalize (w1.alloc (.cells #[.int .i64 s0,.int .i64 r0,.int .i64 c0] 24)).alloc (.cells #[.int .i64 s0,.int .i64 r0,.int .i64 c0,.int .i64 r0,.int .i64 c0] 64)=W2 at *;go_loopw [7,38] (λ_ i wr=>∃ (j:Nat) (t l b r:Int),j<=n - 1/\i=.int .i64 j/\Hid (Wpl.hullU F j=⟨s0,t,l,b,r⟩)/\Below w.heap.size w wr/\AtL wr w.heap.size [.int .i64 0,.int .i64 0,.int .i64 0,.int .i64 0,.int .i64 0]/\AtL wr k [.int .i64 s0,.int .i64 t,.int .i64 l,.int .i64 b,.int .i64 r]) (λ_ i _=>n - (intOf i).toNat)
 case atStart=>exact ⟨0,r0,c0,r0,c0,Nat.zero_le _,rfl,E0,pB,pR',pA⟩
 case round =>
  clear pB pR' pA;obtain ⟨j,t,l,b,r,hj,rfl,E,qB,qR,qA⟩:=hrel;by_cases hlt:j<n - 1
  ·have hltz:(j:Int)<((n - 1:Nat):Int):=by omega
   obtain ⟨x0,x1,x2⟩:=hc (j+1) (by omega);have y0:wr.cell? ⟨blk,off+3+j * 3,none⟩=some (.int .i64 (F (j+1)).s):=by
    have:=(qB.cell (p:=⟨blk,off+(j+1) * 3,none⟩) hb).trans x0;rwa [show off+(j+1) * 3=off+3+j * 3 by omega] at this
   have y1:wr.cell? ⟨blk,off+3+j * 3+1,none⟩=some (.int .i64 (F (j+1)).r):=by
    have:=(qB.cell (p:=⟨blk,off+(j+1) * 3+1,none⟩) hb).trans x1;rwa [show off+(j+1) * 3+1=off+3+j * 3+1 by omega] at this
   have y2:wr.cell? ⟨blk,off+3+j * 3+2,none⟩=some (.int .i64 (F (j+1)).c):=by
    have:=(qB.cell (p:=⟨blk,off+(j+1) * 3+2,none⟩) hb).trans x2;rwa [show off+(j+1) * 3+2=off+3+j * 3+2 by omega] at this
   have E1:Hid (Wpl.hullU F (j+1)=⟨s0,min t (F (j+1)).r,min l (F (j+1)).c,max b (F (j+1)).r,max r (F (j+1)).c⟩):=by show Wpl.grow (Wpl.hullU F j) (F (j+1))=_;rw [E.out];rfl
   clear x0 x1 x2 E;generalize (F (j+1)).s=sj at *;generalize (F (j+1)).r=rj at *;generalize (F (j+1)).c=cj at *;have sA:=qA.alloc (.cells #[.int .i64 sj,.int .i64 rj,.int .i64 cj] 24);have sR:=qR.alloc (.cells #[.int .i64 sj,.int .i64 rj,.int .i64 cj] 24);have sC:AtL (wr.alloc (.cells #[.int .i64 sj,.int .i64 rj,.int .i64 cj] 24)) wr.heap.size [.int .i64 sj,.int .i64 rj,.int .i64 cj]:=AtL.new wr _ rfl _;have sB:=zCt qB (.cells #[.int .i64 sj,.int .i64 rj,.int .i64 cj] 24);have hkr:k<wr.heap.size:=qA.lt;go_upto_region 8 with fail
   clear qA qR qB y0 y1 y2;generalize wr.alloc (.cells #[.int .i64 sj,.int .i64 rj,.int .i64 cj] 24)=W3 at *;generalize wr.heap.size=kc at *;obtain ⟨a0,a1,a2,a3,a4,f0,f1,f2,f3,f4⟩:=sA.five;obtain ⟨z0,z1,z2,g0,g1,g2⟩:=sC.three;have hkc:¬ kc=k:=by omega
   go_cut [] (λwx=>Below w.heap.size w wx/\AtL wx w.heap.size [.int .i64 0,.int .i64 0,.int .i64 0,.int .i64 0,.int .i64 0]/\AtL wx kc [.int .i64 sj,.int .i64 rj,.int .i64 cj]/\∃ t' b':Int,Hid (t'=min t rj)/\Hid (b'=max b rj)/\AtL wx k [.int .i64 s0,.int .i64 t',.int .i64 l,.int .i64 b',.int .i64 r])
   case first =>
    go_region
    go_wp2_with fail
    all_goals go_meet
    all_goals
     clear a0 a1 a2 a3 a4 f0 f1 f2 f3 f4 z0 z1 z2 g0 g1 g2;refine ⟨((sB.setCell (p:=⟨k,1,none⟩) (by show w.heap.size<=k;omega) _).setCell (p:=⟨k,3,none⟩) (by show w.heap.size<=k;omega) _).drew,((sR.far (j:=k) (by omega) 1 _).far (j:=k) (by omega) 3 _).drew,((sC.far (j:=k) (by omega) 1 _).far (j:=k) (by omega) 3 _).drew,_,_,?_,?_,((sA.set 1 _).set 3 _).drew⟩
     ·go_light;show _=_;omega
     ·go_light;show _=_;omega
   case rest =>
   clear sA sR sC sB a0 a1 a2 a3 a4 f0 f1 f2 f3 f4 z0 z1 z2 g0 g1 g2;obtain ⟨tB,tR,tC,t',b',Et,Eb,tA⟩:=hcut;rw [<-Et.out,<-Eb.out] at E1;clear Et Eb;go_upto_region 9 with fail
   obtain ⟨a0,a1,a2,a3,a4,f0,f1,f2,f3,f4⟩:=AtL.five tA;obtain ⟨z0,z1,z2,g0,g1,g2⟩:=tC.three;refine zOB λK9 hK9=>?_
   go_cut [] (λwx=>Below w.heap.size w wx/\AtL wx w.heap.size [.int .i64 0,.int .i64 0,.int .i64 0,.int .i64 0,.int .i64 0]/\∃ l' r':Int,Hid (l'=min l cj)/\Hid (r'=max r cj)/\AtL wx k [.int .i64 s0,.int .i64 t',.int .i64 l',.int .i64 b',.int .i64 r'])
   case first =>
    go_region
    go_wp2_with fail
    all_goals go_meet
    all_goals
     clear a0 a1 a2 a3 a4 f0 f1 f2 f3 f4 z0 z1 z2 g0 g1 g2;refine ⟨((tB.setCell (p:=⟨k,2,none⟩) (by show w.heap.size<=k;omega) _).setCell (p:=⟨k,4,none⟩) (by show w.heap.size<=k;omega) _).drew,((tR.far (j:=k) (by omega) 2 _).far (j:=k) (by omega) 4 _).drew,_,_,?_,?_,((AtL.set tA 2 _).set 4 _).drew⟩
     ·go_light;show _=_;omega
     ·go_light;show _=_;omega
   case rest =>
   obtain ⟨vB,vR,l',r',El,Er,vA⟩:=hcut;rw [<-El.out,<-Er.out] at E1;clear El Er;clear tB tR tA tC a0 a1 a2 a3 a4 f0 f1 f2 f3 f4 z0 z1 z2 g0 g1 g2;refine hK9 _ _ ?_;go_wp2_with fail
   go_roundw
   case rel =>
    exact ⟨j+1,t',l',b',r',by omega,by go_num,E1,vB,vR,vA⟩
   case measure=>simp [intOf];omega
  ·have hltz:¬ (j:Int)<((n - 1:Nat):Int):=by omega
   have hj':j=n - 1:=by omega
   have HV':Hid (Wpl.hullV F n=⟨s0,t,l,b,r⟩):=by show _=_;rw [HV.out,<-hj',E.out]
   clear hj' E HV;have sR:=qR.put5 (.int .i64 s0) (.int .i64 t) (.int .i64 l) (.int .i64 b) (.int .i64 r);have sB:=zBb qB (Nat.le_refl w.heap.size) (.int .i64 s0) (.int .i64 t) (.int .i64 l) (.int .i64 b) (.int .i64 r);obtain ⟨a0,a1,a2,a3,a4,f0,f1,f2,f3,f4⟩:=qA.five;obtain ⟨z0,z1,z2,z3,z4,g0,g1,g2,g3,g4⟩:=qR.five;go_wp2;obtain ⟨r0',r1,r2,r3,r4,_,_,_,_,_⟩:=sR.five;refine bodyPost_ret (v:=.tuple #[.agg #[.int .i64 s0,.int .i64 t,.int .i64 l,.int .i64 b,.int .i64 r],.bool true]) (by simp [results,results90,go_sem,z0,z1,z2,z3,z4]) rfl ⟨by rw [HV'.out,HO.out],?_⟩;exact sB
theorem zHU (blk off n cap:Nat) (F:Nat->Wpl.Cl) (w:World) (hn0:0<n) (hn:n<=1000000000000000) (hcap:n<=cap) (hcap2:cap<=9223372036854775807) (hb:blk<w.heap.size) (hc:Cells w blk off n F) :
  CR 90 #[.slice (some ⟨blk,off,none⟩) n cap] w (.tuple #[.agg #[.int .i64 (Wpl.hullV F n).s,.int .i64 (Wpl.hullV F n).t,.int .i64 (Wpl.hullV F n).l,.int .i64 (Wpl.hullV F n).b,.int .i64 (Wpl.hullV F n).r],.bool (Wpl.hullOk F n)]):=by
 cases hA:Wpl.anyN (F 0).s F n with
 | true=>exact zIa blk off n cap F w hn0 hn hcap hcap2 hb hc hA
 | false =>
  by_cases h1:cap=1
  ·exact zMW blk off n cap F w hn0 hn hcap hcap2 hb hc hA h1
  ·exact zJL blk off n cap F w hn0 hn hcap hcap2 hb hc hA h1
open Go.RowKit Wf
def RtN (x:Wt.Nd):Prop:=Wt.inR x.a.r x.a.c=true/\Wt.inR x.b.r x.b.c=true
theorem zDv (h:Wt.right x=true) (hk:x.k=3):RtN x:=by
 unfold Wt.right at h;rw [if_neg (by omega),if_neg (by omega),if_pos hk] at h;simp only [Bool.and_eq_true,Wt.rfOk] at h;exact ⟨h.1.1.1.1,h.1.1.2.1⟩
theorem zJv (h:RtN x):Wpl.hullV (λi=>if i=0 then ⟨0,x.a.r,x.a.c⟩ else ⟨0,x.b.r,x.b.c⟩) 2=zCC x:=by
 obtain ⟨h1,h2⟩:=h;simp only [Wt.inR,Bool.and_eq_true,decide_eq_true_eq] at h1 h2;have ho:Wpl.hullOk (λi=>if i=0 then ⟨0,x.a.r,x.a.c⟩ else ⟨0,x.b.r,x.b.c⟩) 2=true:=by
  simp [Wpl.hullOk,Wpl.anyN,Wpl.lacks,Wpl.rightC,Wpl.inB];omega
 unfold Wpl.hullV;rw [ho,if_pos rfl];show Wpl.grow (Wpl.oneA ⟨0,x.a.r,x.a.c⟩) ⟨0,x.b.r,x.b.c⟩=zCC x
 simp [Wpl.grow,Wpl.oneA,zCC]
theorem zGB (h:RtN x):SmA (zCC x):=by
 obtain ⟨h1,h2⟩:=h;simp only [Wt.inR,Bool.and_eq_true,decide_eq_true_eq] at h1 h2;simp only [SmA,zCC];omega
theorem zEL (x:Wt.Nd) (w:World) (hx:RtN x):CR 201 #[.agg (zAK x).toArray] w (.agg (ar5 (zCC x)).toArray):=by
 obtain ⟨r,hrx⟩:∃ r,zCC x=r:=⟨_,rfl⟩
 have hh:=zJv hx;rw [hrx] at hh;rw [hrx];clear hrx;have HH:Hid (Wpl.hullV (λi=>if i=0 then ⟨0,x.a.r,x.a.c⟩ else ⟨0,x.b.r,x.b.c⟩) 2=r):=hh;have hb1:=zAH (zAH (Below.refl _ w) (.cells (zAK x).toArray 102)) (.cells #[.int .i64 0,.int .i64 0,.int .i64 0,.int .i64 0,.int .i64 0] 64);have pN:=(AtL.new0 w 102 (zAK x)).alloc (.cells #[.int .i64 0,.int .i64 0,.int .i64 0,.int .i64 0,.int .i64 0] 64);have pA:=AtL.new1 w (.cells (zAK x).toArray 102) 64 [.int .i64 0,.int .i64 0,.int .i64 0,.int .i64 0,.int .i64 0];have c11:=pN.2.1 11 (.int .i64 x.a.r) rfl;have c12:=pN.2.1 12 (.int .i64 x.a.c) rfl;have c16:=pN.2.1 16 (.int .i64 x.b.r) rfl;have c17:=pN.2.1 17 (.int .i64 x.b.c) rfl;clear pN hx hh;go_enter func201,ntmps201;go_upto_region 1 with fail
 generalize ((w.alloc (.cells (zAK x).toArray 102)).alloc (.cells [.int .i64 0,.int .i64 0,.int .i64 0,.int .i64 0,.int .i64 0].toArray 64))=W at *;have pC:=AtL.new0 W 24 [.int .i64 0,.int .i64 x.a.r,.int .i64 x.a.c,.int .i64 0,.int .i64 x.b.r,.int .i64 x.b.c];have hbC:=zAH (Below.refl _ W) (.cells #[.int .i64 0,.int .i64 x.a.r,.int .i64 x.a.c,.int .i64 0,.int .i64 x.b.r,.int .i64 x.b.c] 24);have hC:Cells (W.alloc (.cells #[.int .i64 0,.int .i64 x.a.r,.int .i64 x.a.c,.int .i64 0,.int .i64 x.b.r,.int .i64 x.b.c] 24)) W.heap.size 0 2 (λi=>if i=0 then ⟨0,x.a.r,x.a.c⟩ else ⟨0,x.b.r,x.b.c⟩):=λj hj=>by
  rcases (show j=0 \/ j=1 by omega) with rfl | rfl
  ·exact ⟨pC.2.1 0 _ rfl,pC.2.1 1 _ rfl,pC.2.1 2 _ rfl⟩
  ·exact ⟨pC.2.1 3 _ rfl,pC.2.1 4 _ rfl,pC.2.1 5 _ rfl⟩
 have HL:=zHU W.heap.size 0 2 2 _ _ (by omega) (by omega) (by omega) (by omega) pC.lt hC;rw [HH.out] at HL;generalize Wpl.hullOk (λi=>if i=0 then (⟨0,x.a.r,x.a.c⟩:Wpl.Cl) else ⟨0,x.b.r,x.b.c⟩) 2=ok at HL;have hB2:=zAA hb1 hbC;have pA2:=AtL.below hbC pA;clear hC pC hbC hb1 pA HH;go_wp2_with fail
 refine HL.mono ?_;rintro e w1 ⟨rfl,hb3⟩;have hB3:=zAA hB2 hb3;have pA3:=AtL.below hb3 pA2;have hb4:=zAH (Below.refl _ w1) (.cells (ar5 r).toArray 64);have pR:=AtL.new0 w1 64 (ar5 r);have hB4:=zAA hB3 hb4;have pA4:=AtL.below hb4 pA3;clear c11 c12 c16 c17 HL hb3 hb4 pA3 pA2 hB2 hB3;go_upto_region 2 with fail
 generalize (w1.alloc (.cells (ar5 r).toArray 64))=W4 at *;obtain ⟨b0,b1,b2,b3,b4,k0,k1,k2,k3,k4⟩:=pA4.five;obtain ⟨r0,r1,r2,r3,r4,_,_,_,_,_⟩:=pR.five;go_wp2;have HLT:=pA4.lt;refine bodyPost_ret (v:=.agg (ar5 r).toArray) (by simp [results,results201,go_sem,b0,b1,b2,b3,b4]) rfl ⟨rfl,(clB hB4)⟩
structure ApS (B:Nat) (w:World) (va vb:Value) (LA LB:List (Wt.Nd × Value)):Prop where
 a:OwnP w B va LA
 b:OwnP w B vb LB
 ne:∀ j,va.ownBlock=some j->¬ vb.ownBlock=some j
theorem ApS.below {w':World} (h:ApS B w va vb LA LB) (hb:Below w.heap.size w w'):ApS B w' va vb LA LB:=⟨h.a.below hb,h.b.below hb,h.ne⟩
theorem ApS.symm (h:ApS B w va vb LA LB):ApS B w vb va LB LA:=⟨h.b,h.a,λj e f=>h.ne j f e⟩
theorem ApS.app {v':Value} {LC:List (Wt.Nd × Value)} (h:ApS B w va vb LA LB) (own:OwnP w1 B v' LC) (hg:w.grownBy w1 va.ownBlock) (hv:v'.ownBlock=va.ownBlock \/ v'.ownBlock=some w.heap.size):ApS B w1 v' vb LC LB:=by
 have f1:Fr va.ownBlock.toList w w1:=Fr.of_grown hg (λj e=>by simp [e]);refine ⟨own,zAZ f1 h.b (λj e hm=>h.ne j (by simpa using hm) e),λj e f=>?_⟩;rcases hv with hv | hv
 ·exact h.ne j (by rw [<-hv];exact e) f
 ·rw [hv] at e;cases e
  have:=(zAL h.b f).2;omega
theorem ApS.fr (h:ApS B w va vb LA LB) (hg:w.grownBy w1 va.ownBlock) {w0:World} (h0:Below w0.heap.size w0 w) (hB:w0.heap.size<=B):Below w0.heap.size w0 w1 :=
 zDL h0 (Fr.of_grown (S:=va.ownBlock.toList) hg (λj e=>by simp [e])) (λj hj=>by have:=(zAL h.a (show va.ownBlock=some j by simpa using hj)).1;omega)
def ApP (L:List (Wt.Nd × Value)) (w:World) (e:Ending) (w':World):Prop:=(∃ va vb,e=.returned (.tuple #[va,vb])/\OwnP w' w.heap.size va (L.filter λp=>isA p.1)/\OwnP w' w.heap.size vb (L.filter λp=>!isA p.1))/\Below w.heap.size w w'
theorem zFI (L:List (Wt.Nd × Value)) (av:Option Addr) (m cap:Nat) (w:World) (hm:m=L.length) (hl:L.length<=30) (hsl:∀ q ∈ L,∃ a b c,q.2=.slice a b c) (hR:RdQ w av L):Calls prog 181 #[.slice av m cap] w (ApP L w):=by
 unfold ApP;have HM:Hid (m=L.length/\L.length<=30):=⟨hm,hl⟩
 have HSL:Hid (∀ q ∈ L,∃ a b c,q.2=.slice a b c):=hsl;have HR:Hid (RdQ w av L):=hR;clear hm hl hsl hR;go_enter func181,ntmps181;go_wp2_with fail
 go_loopg [2,3,5,8] m (λgk u2 u3 u5 x wr=>∃ (i:Nat) (va vb:Value),va=u2/\vb=u3/\x=.int .i64 (i:Int)/\gk=m - i/\i<=m/\Hid (ApS w.heap.size wr va vb ((L.take i).filter λp=>isA p.1) ((L.take i).filter λp=>!isA p.1))/\Hid (Below w.heap.size w wr))
 case atStart=>exact ⟨0,_,_,rfl,rfl,rfl,rfl,Nat.zero_le _,⟨OwnP.nil _ _,OwnP.nil _ _,λj e=>by cases e⟩,Below.refl _ _⟩
 case round =>
  obtain ⟨i,va,vb,rfl,rfl,rfl,hg,hi,HA,HB⟩:=hrel;by_cases hlt:i<m
  ·have hli:(i:Int)<(m:Int):=by omega
   have hiz:(0:Int)<=(i:Int):=by omega
   have hwi:IntKind.i64.wrap ((i:Int)+1)=(i:Int)+1:=by have:=HM.out;rw [IntKind.wrap_i64];omega
   have hln:i<L.length:=by have:=HM.out;omega
   obtain ⟨bb,off,rfl,hr⟩:=(HR.out.below HB.out) i hln;have hs1:=HSL.out L[i] (List.getElem_mem hln);have HT:Hid (L.take (i+1)=L.take i++[L[i]]):=(List.take_succ_eq_append_getElem hln:_=_)
   have HLL:Hid (∀ (f:Wt.Nd × Value->Bool),((L.take i).filter f).length<=1000):=(λf=>by
    have h1:=List.length_filter_le f (L.take i);have h2:(L.take i).length<=L.length:=by rw [List.length_take];omega
    have:=HM.out.2;omega:∀ (f:Wt.Nd × Value->Bool),((L.take i).filter f).length<=1000)
   obtain ⟨x,hx⟩:∃ x,L[i]=x:=⟨_,rfl⟩
   rw [hx] at hr hs1 HT;obtain ⟨x,sl⟩:=x;simp only at hr hs1;obtain ⟨sa,sb,sc,rfl⟩:=hs1;have IA:=λw=>zBW x (.slice sa sb sc) w
   clear hx hln;have hth:World.there (wr.alloc (.cells zeros21 188)) wr.heap.size 0 (zAI x (.slice sa sb sc)).toArray.size:=(AtL.new0 wr _ _:AtL (wr.alloc (.cells zeros21 188)) wr.heap.size zeros21.toList).there;have HPI:Hid (AtL ((wr.alloc (.cells zeros21 188)).setCells wr.heap.size 0 (zAI x (.slice sa sb sc))) wr.heap.size (zAI x (.slice sa sb sc))):=(AtL.new0 wr _ _:AtL (wr.alloc (.cells zeros21 188)) wr.heap.size zeros21.toList).setAll rfl;have HHB:Hid (Below wr.heap.size wr ((wr.alloc (.cells zeros21 188)).setCells wr.heap.size 0 (zAI x (.slice sa sb sc)))):=zBJ (zAH (Below.refl _ wr) _) (Nat.le_refl _) _ 0;go_upto_region 4 with (first | (refine zAB (by rfl) 188 (.tmp 10) rfl bb (off+i * 21) rfl (zAI x (.slice sa sb sc)) _ hr underlying188 rfl (by kernel_rfl) ?_) | ((with_reducible refine wpList_store_mid ?_ 188 (.tmp 5) (.tmp 11) ?_ wr.heap.size 0 (zAI x (.slice sa sb sc)).toArray ?_ ?_ ?_ ?_ ?_ ?_);rfl;rfl;rfl;rfl;exact hth;kernel_rfl;exact zAn _ _ _ _))
   have HB2:Hid (Below w.heap.size w ((wr.alloc (.cells zeros21 188)).setCells wr.heap.size 0 (zAI x (.slice sa sb sc)))):=zAA HB.out HHB.out;have HA2:=HA.out.below HHB.out;have HA3:Hid (ApS w.heap.size ((wr.alloc (.cells zeros21 188)).setCells wr.heap.size 0 (zAI x (.slice sa sb sc))) va vb ((L.take i).filter λp=>isA p.1) ((L.take i).filter λp=>!isA p.1)):=HA2;clear hth hr HHB HA2 HA HB;generalize ((wr.alloc (.cells zeros21 188)).setCells wr.heap.size 0 (zAI x (.slice sa sb sc)))=W2 at *;obtain ⟨ib,hib⟩:∃ k,wr.heap.size=k:=⟨_,rfl⟩
   rw [hib] at HPI;simp only [hib];clear hib;have rI:=HPI.out.range;have IA2:=IA W2;clear IA;cases hb:isA x with
   | true =>
    rw [hb] at IA2;go_wp2_with (first | (refine zAB (by rfl) 188 (.tmp 5) rfl ib 0 rfl (zAI x (.slice sa sb sc)) _ rI underlying188 rfl (by kernel_rfl) ?_))
    refine IA2.mono ?_;rintro e w3 ⟨rfl,hb3⟩;have rI3:=zAF hb3 rI;have hb4:=zAA hb3 (zAH (Below.refl _ w3) (.cells (zAI x (.slice sa sb sc)).toArray 188));have HA4:Hid (ApS w.heap.size (w3.alloc (.cells (zAI x (.slice sa sb sc)).toArray 188)) va vb ((L.take i).filter λp=>isA p.1) ((L.take i).filter λp=>!isA p.1)):=HA3.out.below hb4;have HB4:Hid (Below w.heap.size w (w3.alloc (.cells (zAI x (.slice sa sb sc)).toArray 188))):=zAA HB2.out hb4;have HAT:Hid ((w3.alloc (.cells (zAI x (.slice sa sb sc)).toArray 188)).rangeAt w3.heap.size 0 (zAI x (.slice sa sb sc))):=(AtL.new0 w3 188 (zAI x (.slice sa sb sc))).range;clear hb3 hb4 rI HA3 HB2 HPI IA2;go_wp2_with (first
     | (refine zAB (by rfl) 188 (.tmp 5) rfl ib 0 rfl (zAI x (.slice sa sb sc)) _ rI3 underlying188 rfl (by kernel_rfl) ?_)
     | (refine zBo rfl (.tmp 15) rfl x sa sb sc rfl ?_;clear rI3)
     | (
       refine zBh rfl (.tmp 14) (.tmp 16) rfl (w3.alloc (.cells (zAI x (.slice sa sb sc)).toArray 188)) w.heap.size HB4.out.size va ((L.take i).filter λp=>isA p.1) rfl HA4.out.a w3.heap.size x sa sb sc rfl HAT.out (λ_=>HLL.out _) ?_;intro v7 w7 own7 hg7 hv7;have HA5:Hid (ApS w.heap.size w7 v7 vb ((L.take (i+1)).filter λp=>isA p.1) ((L.take (i+1)).filter λp=>!isA p.1)):=by
        show ApS _ _ _ _ _ _
        rw [HT.out,List.filter_append,List.filter_append,show [(x,Value.slice sa sb sc)].filter (λp=>isA p.1)=[(x,Value.slice sa sb sc)] from by simp [hb],show [(x,Value.slice sa sb sc)].filter (λp=>!isA p.1)=[] from by simp [hb],List.append_nil];exact HA4.out.app own7 hg7 hv7
       have HB5:Hid (Below w.heap.size w w7):=HA4.out.fr hg7 HB4.out (Nat.le_refl _);clear own7 hg7 hv7))
    go_roundg (m - (i+1))
    case rel=>exact ⟨i+1,_,_,rfl,rfl,by simp,rfl,hlt,HA5,HB5⟩
    case measure=>omega
   | false =>
    rw [hb] at IA2;go_wp2_with (first | (refine zAB (by rfl) 188 (.tmp 5) rfl ib 0 rfl (zAI x (.slice sa sb sc)) _ rI underlying188 rfl (by kernel_rfl) ?_))
    refine IA2.mono ?_;rintro e w3 ⟨rfl,hb3⟩;have rI3:=zAF hb3 rI;have hb4:=zAA hb3 (zAH (Below.refl _ w3) (.cells (zAI x (.slice sa sb sc)).toArray 188));have HA4:Hid (ApS w.heap.size (w3.alloc (.cells (zAI x (.slice sa sb sc)).toArray 188)) va vb ((L.take i).filter λp=>isA p.1) ((L.take i).filter λp=>!isA p.1)):=HA3.out.below hb4;have HB4:Hid (Below w.heap.size w (w3.alloc (.cells (zAI x (.slice sa sb sc)).toArray 188))):=zAA HB2.out hb4;have HAT:Hid ((w3.alloc (.cells (zAI x (.slice sa sb sc)).toArray 188)).rangeAt w3.heap.size 0 (zAI x (.slice sa sb sc))):=(AtL.new0 w3 188 (zAI x (.slice sa sb sc))).range;clear hb3 hb4 rI HA3 HB2 HPI IA2;go_wp2_with (first
     | (refine zAB (by rfl) 188 (.tmp 5) rfl ib 0 rfl (zAI x (.slice sa sb sc)) _ rI3 underlying188 rfl (by kernel_rfl) ?_)
     | (refine zBo rfl (.tmp 19) rfl x sa sb sc rfl ?_;clear rI3)
     | (
       refine zBh rfl (.tmp 18) (.tmp 20) rfl (w3.alloc (.cells (zAI x (.slice sa sb sc)).toArray 188)) w.heap.size HB4.out.size vb ((L.take i).filter λp=>!isA p.1) rfl HA4.out.b w3.heap.size x sa sb sc rfl HAT.out (λ_=>HLL.out _) ?_;intro v7 w7 own7 hg7 hv7;have HA5:Hid (ApS w.heap.size w7 va v7 ((L.take (i+1)).filter λp=>isA p.1) ((L.take (i+1)).filter λp=>!isA p.1)):=by
        show ApS _ _ _ _ _ _
        rw [HT.out,List.filter_append,List.filter_append,show [(x,Value.slice sa sb sc)].filter (λp=>isA p.1)=[] from by simp [hb],show [(x,Value.slice sa sb sc)].filter (λp=>!isA p.1)=[(x,Value.slice sa sb sc)] from by simp [hb],List.append_nil];exact (HA4.out.symm.app own7 hg7 hv7).symm
       have HB5:Hid (Below w.heap.size w w7):=HA4.out.symm.fr hg7 HB4.out (Nat.le_refl _);clear own7 hg7 hv7))
    go_roundg (m - (i+1))
    case rel=>exact ⟨i+1,_,_,rfl,rfl,by simp,rfl,hlt,HA5,HB5⟩
    case measure=>omega
  ·have hli:¬ (i:Int)<(m:Int):=by omega
   have HA2:Hid (ApS w.heap.size wr va vb (L.filter λp=>isA p.1) (L.filter λp=>!isA p.1)):=by
    show ApS _ _ _ _ _ _
    have hie:i=L.length:=by have:=HM.out;omega
    have:=HA.out;rw [hie,List.take_length] at this;exact this
   clear HA;go_wp2;go_ret2
   exact ⟨⟨_,_,rfl,HA2.out.a,HA2.out.b⟩,HB.out⟩
theorem zMj (L:List (Wt.Nd × Value)):zBq (L.map (·.1))=(L.filter λp=>isA p.1).map (·.1):=by
 unfold zBq;rw [List.filter_map];rfl
theorem zI9 {L:List (Wt.Nd × Value)} {id:Int} (hp:Wc.pairs id=true) {A:List (Wt.Nd × Value)} (hA:(L.filter λp=>isA p.1)=A) (h0:0<A.length):zB7 id (L.map (·.1))=shp (zCC (A[0]).1) (zCC (A[A.length - 1]).1):=by
 unfold zB7;rw [if_pos hp,zMj,hA];cases A with
 | nil=>cases h0
 | cons a r =>
  have e1:(((a::r).map (·.1)).headD ⟨0,v0I,0,⟨#[]⟩,0,Wt.r0,Wt.r0⟩)=a.1:=rfl;have e2:(((a::r).map (·.1)).getLastD ⟨0,v0I,0,⟨#[]⟩,0,Wt.r0,Wt.r0⟩)=((a::r)[(a::r).length - 1]).1:=by
   rw [List.getLastD_eq_getLast?,List.getLast?_eq_getElem?,List.length_map,List.getElem?_map,List.getElem?_eq_getElem (by simp)];rfl
  simp only [e1,e2];rfl
theorem zHk (id:Int) (L:List (Wt.Nd × Value)) (av:Option Addr) (m cap:Nat) (w:World) (hm:m=L.length) (hl:L.length<=30) (hsl:∀ q ∈ L,∃ a b c,q.2=.slice a b c) (hR:RdQ w av L) (hne:Wc.pairs id=true->0<(L.filter λp=>isA p.1).length) (hrt:∀ q ∈ L,isA q.1=true->RtN q.1) :
  CR 178 #[.int .i64 id,.slice av m cap] w (.bool (zB7 id (L.map (·.1)))):=by
 have PR:=zDo id w;cases hp:Wc.pairs id with
 | false =>
  have hq:zB7 id (L.map (·.1))=true:=by unfold zB7;rw [hp];rfl
  rw [hq];rw [hp] at PR;clear hm hl hsl hR hne hrt hq;go_enter func178,ntmps178;go_wp2_with fail
  refine PR.mono ?_;rintro e w1 ⟨rfl,rfl⟩;go_wp2;go_ret;exact ⟨rfl,Below.refl _ _⟩
 | true =>
  rw [hp] at PR;have AP:=zFI L av m cap w hm hl hsl hR;obtain ⟨A,hA⟩:∃ A,(L.filter λp=>isA p.1)=A:=⟨_,rfl⟩
  have h0:=hne hp;rw [hA] at h0;have HQ:=zI9 hp hA h0;unfold ApP at AP;rw [hA] at AP;have hrt2:∀ q ∈ A,RtN q.1:=λq hq=>by
   rw [<-hA] at hq;exact hrt q (List.mem_filter.1 hq).1 (List.mem_filter.1 hq).2
  have HAL:Hid (A.length<=30):=by
   show A.length<=30
   have:=List.length_filter_le (λp:Wt.Nd × Value=>isA p.1) L;rw [hA] at this;omega
  have RA:=λw=>zEL (A[0]).1 w (hrt2 _ (List.getElem_mem h0))
  have RB:=λw=>zEL (A[A.length - 1]).1 w (hrt2 _ (List.getElem_mem (by omega)))
  have SS:=λw=>zEM (zCC (A[0]).1) (zCC (A[A.length - 1]).1) w (zGB (hrt2 _ (List.getElem_mem h0))) (zGB (hrt2 _ (List.getElem_mem (by omega))))
  rw [HQ];clear HQ hm hl hsl hR hne hrt hrt2 hp;obtain ⟨xa,hxa⟩:∃ x,(A[0]).1=x:=⟨_,rfl⟩
  obtain ⟨xb,hxb⟩:∃ x,(A[A.length - 1]).1=x:=⟨_,rfl⟩
  rw [hxa] at RA;rw [hxb] at RB;rw [hxa,hxb] at SS;rw [hxa,hxb];obtain ⟨q,hq⟩:∃ q,shp (zCC xa) (zCC xb)=q:=⟨_,rfl⟩
  rw [hq] at SS;rw [hq];have HQ:Hid (q=q):=rfl;clear hq;generalize zCC xa=ra1 at *;generalize zCC xb=rb1 at *;have HXA:Hid (∀ h:0<A.length,(A[0]).1=xa):=(λ_=>hxa:∀ h:0<A.length,(A[0]).1=xa)
  have HXB:Hid (∀ h:A.length - 1<A.length,(A[A.length - 1]).1=xb):=(λ_=>hxb:∀ h:A.length - 1<A.length,(A[A.length - 1]).1=xb)
  have H0:Hid (0<A.length):=h0;clear hxa hxb h0;go_enter func178,ntmps178;go_wp2_with fail
  refine PR.mono ?_;rintro e w0 ⟨rfl,rfl⟩;go_wp2_with fail
  refine AP.mono ?_;rintro e w1 ⟨⟨va,vb,rfl,owa,owb⟩,hb1⟩;rcases OwnP.cases owa with ⟨_,e0⟩ | ⟨g,cp,rfl,hg1,hg2,hr⟩
  ·have:=H0.out;rw [e0] at this;cases this
  have ra:w1.rangeAt g 0 (zAK xa):=by
   have:=zCP (hr 0 H0.out);rw [HXA.out H0.out,Nat.zero_mul] at this;exact this
  have rb:w1.rangeAt g ((A.length - 1) * 21) (zAK xb):=by
   have hlt:A.length - 1<A.length:=by have:=H0.out;omega
   have:=zCP (hr _ hlt);rw [HXB.out hlt] at this;exact this
  have hB:=hb1;clear hr owa owb hb1 AP PR HXA HXB hA;have hk0:(0:Int)<(A.length:Int):=by have:=H0.out;omega
  have hk1:IntKind.i64.wrap ((A.length:Int) - 1)=((A.length - 1:Nat):Int):=by have:=H0.out;have:=HAL.out;rw [IntKind.wrap_i64];omega
  generalize A.length=k at *;have hk2:((k - 1:Nat):Int)<(k:Int):=by omega
  have hk3:(0:Int)<=((k - 1:Nat):Int):=by omega
  go_upto_region 4 with fail
  replace hB:=hB.drew
  replace ra:w1.drew.rangeAt g 0 (zAK xa):=ra
  replace rb:w1.drew.rangeAt g ((k - 1) * 21) (zAK xb):=rb
  refine wp_region_held_drew (S:=λW=>W.rangeAt g 0 (zAK xa)/\W.rangeAt g ((k - 1) * 21) (zAK xb)) (by kernel_rfl) ⟨ra,rb⟩ (λhHeld=>?_);generalize w1.drew=WD at *;refine tkQ 0 ?_
  refine wpAnyH_take (i:=1) (v:=?_) (atQ rfl) (by kernel_rfl) (by kernel_rfl) (by kernel_rfl) (λ_ _ _ h=>h) (Or.inl ⟨by rfl,?_⟩) (by assumption) ?_;rotate_left
  ·intro w hSw
   (try dsimp only at hSw)
   go_simp
   rw [if_pos (by have:=H0.out;omega)];try with_reducible rfl
  try simp only [Act.put,lA,lZ,lS]
  refine tkQ 2 ?_
  refine wpAnyH_take (i:=3) (v:=.agg (zAK xa).toArray) (atQ rfl) (by kernel_rfl) (by kernel_rfl) (by kernel_rfl) (λ_ _ _ h=>h) (yieldsIf_load_mid (by rfl) 102 (.tmp 17) rfl (g) (0) rfl (zAK xa) _ (λ_ h=>h.1) underlying102 rfl (by kernel_rfl)) (by assumption) ?_;try simp only [Act.put,lA,lZ,lS]
  refine tkQ 5 ?_
  refine tkQ 6 ?_
  refine tkQ 7 ?_
  refine tkQ 8 ?_
  refine tkQ 9 ?_
  refine tkQ 10 ?_
  refine wpAnyH_take (i:=11) (v:=.agg (zAK xb).toArray) (atQ rfl) (by kernel_rfl) (by kernel_rfl) (by kernel_rfl) (λ_ _ _ h=>h) (yieldsIf_load_mid (by rfl) 102 (.tmp 25) rfl (g) ((k - 1) * 21) rfl (zAK xb) _ (λ_ h=>h.2) underlying102 rfl (by kernel_rfl)) (by assumption) ?_;try simp only [Act.put,lA,lZ,lS]
  refine rdQ 4 (λK hK=>?_);go_simp
  refine (RA _).mono ?_;rintro e w2 ⟨rfl,hb2⟩;go_wp2_with fail
  replace ra:=zAF hb2 ra
  replace rb:=zAF hb2 rb
  replace hB:=zAA hB hb2
  refine hkQ hK ⟨ra,rb⟩ (λhHeld=>?_);clear hK K
  refine rdQ 12 (λK hK=>?_);go_simp
  refine (RB _).mono ?_;rintro e w3 ⟨rfl,hb3⟩;go_wp2_with fail
  replace ra:=zAF hb3 ra
  replace rb:=zAF hb3 rb
  replace hB:=zAA hB hb3
  refine hkQ hK ⟨ra,rb⟩ (λhHeld=>?_);clear hK K
  refine rdQ 13 (λK hK=>?_);go_simp
  refine (SS _).mono ?_;rintro e w4 ⟨rfl,hb4⟩;go_wp2_with fail
  replace ra:=zAF hb4 ra
  replace rb:=zAF hb4 rb
  replace hB:=zAA hB hb4
  refine hkQ hK ⟨ra,rb⟩ (λhHeld=>?_);clear hK K
  refine rdQ 14 (λK hK=>?_);go_simp
  refine hkQ hK ⟨ra,rb⟩ (λhHeld=>?_);clear hK K
  refine wpAnyH_done (by kernel_rfl) ?_ _;clear hHeld ra rb;go_wp2;go_ret;exact ⟨rfl,hB⟩
