/- WalkPc, WalkI, WalkM, PlainU, WalkRr, VWalkE, TLit, TLitB, PWalkB, NPlain. -/
import Derived.Test.YtdghjlmnlodnlaaGreatDoorQ10
import Derived.Lib.ItoaNum
import Derived.Lib.ItoaLen
set_option maxHeartbeats 4000000
set_option maxRecDepth 100000
namespace Go.Proofs.YtdghjlmnlodnlaaGreatDoor
open Go.RowKit Tryz
set_option linter.unusedVariables false
theorem zFw (s:ByteArray) (p:Nat) (w:World) (hs:s.size<=9223372036854775807) (hp:p<=s.size) :
  Calls prog 149 #[.string s,.int .i64 (p:Int)] w λe w'=>e=.returned (.tuple #[.int .u64 (Wnum.pcN s p),.int .i64 (Wnum.pcI s p),.bool (Wnum.dB s p)])/\w=w':=by
 go_enter func149,ntmps149;go_wp2;go_loop [7,8] (λx i=>∃ q:Nat,∃ a:Int,p<=q/\q<=s.size/\x=.int .u64 a/\i=.int .i64 q/\0<=a/\a<=1000000000000000000/\Hid (q - p<=Wnum.dk s p)/\Hid (Wnum.say s p (q - p)=a)) (λ_ i=>s.size - (intOf i).toNat)
 case atStart=>exact ⟨p,0,Nat.le_refl _,hp,rfl,rfl,by omega,by omega,(by omega:p - p<=Wnum.dk s p),(by rw [Nat.sub_self];rfl:Wnum.say s p (p - p)=0)⟩
 case round =>
  obtain ⟨q,a,hq,hqs,rfl,rfl,ha,hb,HJ,ea⟩:=hrel;by_cases hlt:q<s.size
  ·have eb:=Wnum.bt_get hlt;obtain ⟨c0,c1⟩:=Wnum.bt_bd s q;obtain ⟨c,ec⟩:∃ c,c=Wnum.bt s q:=⟨_,rfl⟩
   have EC:Hid (Wnum.bt s (p+(q - p))=c):=by show _=_;rw [show p+(q - p)=q by omega,ec]
   rw [<-ec] at eb c0 c1;clear ec;by_cases d1:48<=c
   ·by_cases d2:c<=57
    ·have lt:=Wnum.dk_more HJ.out (by omega) (by rw [EC.out];exact ⟨d1,d2⟩);have LT:Hid (q - p<Wnum.dk s p):=lt;have SS:Hid (Wnum.say s p (q+1 - p)=a * 10+(c - 48)):=by show _=_;rw [show q+1 - p=q - p+1 by omega,Wnum.say_succ,ea.out,EC.out]
     clear lt;by_cases o1:100000000000000000<a
     ·obtain ⟨f1,f2,f0⟩:=Wnum.pc_over (s:=s) (p:=p) (j:=q+1 - p) (by have:=LT.out;omega) (by rw [SS.out];omega);have F0:Hid (Wnum.dB s p=false):=f0;have F1:Hid (Wnum.pcN s p=0):=f1;have F2:Hid (Wnum.pcI s p=0):=f2;clear f0 f1 f2;go_wp2;go_ret3
      exact ⟨by rw [F0.out,F1.out,F2.out];rfl,rfl⟩
     ·have n0:0<=a * 10+(c - 48):=by omega
      have n1:a * 10+(c - 48)<=1000000000000000009:=by omega
      by_cases o2:1000000000000000000<a * 10+(c - 48)
      ·obtain ⟨f1,f2,f0⟩:=Wnum.pc_over (s:=s) (p:=p) (j:=q+1 - p) (by have:=LT.out;omega) (by rw [SS.out];exact o2);have F0:Hid (Wnum.dB s p=false):=f0;have F1:Hid (Wnum.pcN s p=0):=f1;have F2:Hid (Wnum.pcI s p=0):=f2;clear f0 f1 f2;go_wp2;go_ret3
       exact ⟨by rw [F0.out,F1.out,F2.out];rfl,rfl⟩
      ·go_wp2;go_round
       case rel=>exact ⟨q+1,a * 10+(c - 48),by omega,by omega,by go_num,by go_num,n0,by omega,(by have:=LT.out;omega:q+1 - p<=Wnum.dk s p),SS⟩
       case measure=>simp [intOf];omega
    ·have d2':decide (c<=57)=false:=decide_eq_false d2;obtain ⟨f1,f2,f0⟩:=Wnum.pc_in hq (Wnum.dk_stop HJ.out (Or.inr (by rw [EC.out];intro h;exact d2 h.2))) (by rw [ea.out];exact hb);rw [ea.out] at f1;have F0:Hid (Wnum.dB s p=decide (p<q)):=f0;have F1:Hid (Wnum.pcN s p=a):=f1;have F2:Hid (Wnum.pcI s p=(q:Int)):=f2;clear f0 f1 f2;go_wp2;go_ret3
     exact ⟨by rw [F0.out,F1.out,F2.out];simp,rfl⟩
   ·have d1':decide (48<=c)=false:=decide_eq_false d1;obtain ⟨f1,f2,f0⟩:=Wnum.pc_in hq (Wnum.dk_stop HJ.out (Or.inr (by rw [EC.out];intro h;exact d1 h.1))) (by rw [ea.out];exact hb);rw [ea.out] at f1;have F0:Hid (Wnum.dB s p=decide (p<q)):=f0;have F1:Hid (Wnum.pcN s p=a):=f1;have F2:Hid (Wnum.pcI s p=(q:Int)):=f2;clear f0 f1 f2;go_wp2;go_ret3
    exact ⟨by rw [F0.out,F1.out,F2.out];simp,rfl⟩
  ·obtain ⟨f1,f2,f0⟩:=Wnum.pc_in hq (Wnum.dk_stop HJ.out (Or.inl (by omega))) (by rw [ea.out];exact hb);rw [ea.out] at f1;have F0:Hid (Wnum.dB s p=decide (p<q)):=f0;have F1:Hid (Wnum.pcN s p=a):=f1;have F2:Hid (Wnum.pcI s p=(q:Int)):=f2;clear f0 f1 f2;go_wp2;go_ret3
   exact ⟨by rw [F0.out,F1.out,F2.out];simp,rfl⟩
theorem make_neg' (n d N D:Int) (w:World) (eN:Hid (-n=N)) (eD:Hid (-d=D)) (h1:-9223372036854775807<=n) (h2:n<=9223372036854775807) (h3:-9223372036854775807<=d) (h4:d <= -1)
  (hN1:-9223372036854775807<=N) (hN2:N<=9223372036854775807) (hD:1<=D) (hD2:D<=9223372036854775807) :
  CR 201 #[.int .i64 n,.int .i64 d] w (.tuple #[.agg #[.int .i64 (Wnum.oN (some (Rat.divInt N D))),.int .i64 (Wnum.oD (some (Rat.divInt N D)))],.bool (Wnum.oB (some (Rat.divInt N D)))]):=by
 obtain ⟨g1,g2,g3,g4,g5⟩:=Wnum.mk_tdiv (n:=N) (d:=D) hD hN1 hN2;have k1:Hid ((Rat.divInt (N) (D)).num=Int.tdiv (N) ((Int.gcd (N) (D):Nat):Int)):=g4;have g8:Int.tdiv (D) ((Int.gcd (N) (D):Nat):Int)=(D) / ((Int.gcd (N) (D):Nat):Int):=Int.tdiv_eq_ediv_of_nonneg (by omega);have k2:Hid ((((Rat.divInt (N) (D)).den:Nat):Int)=Int.tdiv (D) ((Int.gcd (N) (D):Nat):Int)):=g5.trans g8.symm;have g6:0<=(D) / ((Int.gcd (N) (D):Nat):Int):=Int.ediv_nonneg (by omega) (by omega);have g7:(D) / ((Int.gcd (N) (D):Nat):Int)<=(D):=Int.ediv_le_self _ (by omega);rw [<-g8] at g6 g7;have g9:Int.tdiv (D) ((Int.gcd (N) (D):Nat):Int)<=9223372036854775807:=by omega
 have g10:-9223372036854775807<=Int.tdiv (D) ((Int.gcd (N) (D):Nat):Int):=by omega
 have hw:IntKind.i64.wrap (Int.tdiv (D) ((Int.gcd (N) (D):Nat):Int))=Int.tdiv (D) ((Int.gcd (N) (D):Nat):Int):=IntWalk.i64_in _ (by omega);have hwn:IntKind.i64.wrap (Int.tdiv (N) ((Int.gcd (N) (D):Nat):Int))=Int.tdiv (N) ((Int.gcd (N) (D):Nat):Int):=IntWalk.i64_in _ (by omega);clear g4 g5 g8 g7 g6;generalize Rat.divInt (N) (D)=r at *;have t0:(n == -9223372036854775808)=false:=beq_eq_false_iff_ne.2 (by omega);have t1:(d == -9223372036854775808)=false:=beq_eq_false_iff_ne.2 (by omega);have t2:(d == 0)=false:=beq_eq_false_iff_ne.2 (by omega);have t3:decide (d<0)=true:=by simp;omega
 go_enter func201,ntmps201;go_wp2_with fail
 rw [eN.out,eD.out];refine (zCS _ _ _ (by omega) (by omega) (by omega) (by omega)).mono ?_;rintro e w1 ⟨rfl,nq,rfl⟩;clear t0 t1 t2 t3;go_wp2_with fail
 go_region_with ((go_at_call 211;refine (zDV _ _ r _ g2 g3 k1 k2).mono ?_;rintro e w1 ⟨rfl,hb⟩;obtain ⟨hc,hf⟩:=zIb hb;have hz:=bsz (k:=w.heap.size) hb (by simp)))
 all_goals
  go_wp2;refine bodyPost_ret (v:=.tuple #[.agg #[.int .i64 (Wnum.oN (some r)),.int .i64 (Wnum.oD (some r))],.bool (Wnum.oB (some r))]) (by simp [results,results201,go_sem,hc]) rfl ⟨rfl,?_⟩;exact clA
theorem zLl (n d:Int) (w:World) (h1:-9223372036854775807<=n) (h2:n<=9223372036854775807) (h3:-9223372036854775807<=d) (h4:d <= -1) :
  CR 201 #[.int .i64 n,.int .i64 d] w (.tuple #[.agg #[.int .i64 (Wnum.oN (some (Rat.divInt (-n) (-d)))),.int .i64 (Wnum.oD (some (Rat.divInt (-n) (-d))))],.bool (Wnum.oB (some (Rat.divInt (-n) (-d))))]) :=
 make_neg' n d (-n) (-d) w (rfl:-n = -n) (rfl:-d = -d) h1 h2 h3 h4 (by omega) (by omega) (by omega) (by omega)
theorem zJq (n:Int) (w:World) (h1:-9223372036854775807<=n) (h2:n<=9223372036854775807) :
  CR 201 #[.int .i64 n,.int .i64 0] w (.tuple #[.agg #[.int .i64 0,.int .i64 0],.bool false]):=by
 have t0:(n == -9223372036854775808)=false:=beq_eq_false_iff_ne.2 (by omega);go_enter func201,ntmps201;go_wp2;refine bodyPost_ret (v:=.tuple #[.agg #[.int .i64 0,.int .i64 0],.bool false]) (by simp [results,results201,go_sem]) rfl ⟨rfl,?_⟩;exact clA
theorem zFO (n d:Int) (w:World) (h1:-9223372036854775807<=n) (h2:n<=9223372036854775807) (h3:-9223372036854775807<=d) (h4:d<=9223372036854775807) :
  CR 201 #[.int .i64 n,.int .i64 d] w (.tuple #[.agg #[.int .i64 (Wnum.oN (Wnum.mk n d)),.int .i64 (Wnum.oD (Wnum.mk n d))],.bool (Wnum.oB (Wnum.mk n d))]):=by
 rcases Int.lt_trichotomy d 0 with h | h | h
 ·rw [Wnum.mk_pos (show d ≠ 0 by omega),<-Rat.neg_divInt_neg];exact zLl n d w h1 h2 h3 (by omega)
 ·subst h;rw [Wnum.mk_zero];exact zJq n w h1 h2
 ·rw [Wnum.mk_pos (show d ≠ 0 by omega)];exact zMp n d w h1 h2 (by omega) h4
theorem zBN (m:Bool) (n d:Int) (w:World) (h1:0<=n) (h2:n<=18446744073709551615) (h3:1<=d) (h4:d<=18446744073709551615) :
  CR 150 #[.bool m,.int .u64 n,.int .u64 d] w (.tuple #[.agg #[.int .i64 (Wnum.oN (some (Rat.divInt (if m=true then -n else n) d))),.int .i64 (Wnum.oD (some (Rat.divInt (if m=true then -n else n) d)))],.bool (Wnum.oB (some (Rat.divInt (if m=true then -n else n) d)))]):=by
 cases m
 ·exact zLm n d w h1 h2 h3 h4
 ·exact zLL n d w h1 h2 h3 h4
end Go.Proofs.YtdghjlmnlodnlaaGreatDoor
namespace Go.Proofs.YtdghjlmnlodnlaaGreatDoor.Wnum
def minusB (s:ByteArray):Bool:=decide (0<s.size/\bt s 0=45)
def body (s:ByteArray):ByteArray:=if minusB s=true then s.extract 1 s.size else s
def sgnd (b:Bool) (n:Int):Int:=if b=true then -n else n
def rdO (s:ByteArray):Option Rat:=if fB (body s)=true then mk (sgnd (minusB s) (fN (body s))) (fD (body s)) else none
def aOf (s:ByteArray):Nat:=if minusB s=true then 1 else 0
theorem body_facts (s:ByteArray):(body s).size=s.size - aOf s/\(∀ i,bt (body s) i=bt s (aOf s+i))/\aOf s<=s.size:=by
 unfold body aOf;cases h:minusB s with
 | true =>
  have:=(of_decide_eq_true h).1;obtain ⟨h1,h2⟩:=sub_facts (t:=s) (p:=1) (by omega);exact ⟨h1,h2,by show 1<=s.size;omega⟩
 | false=>exact ⟨rfl,λi=>by show bt s i=bt s (0+i);rw [Nat.zero_add],Nat.zero_le _⟩
theorem zMT {t:ByteArray} (h:dk t 0<t.size):(fS t).size=t.size - (dk t 0+1)/\∀ i,bt (fS t) i=bt t (dk t 0+1+i):=by
 obtain ⟨h1,h2⟩:=sub_facts (t:=t) (p:=dk t 0) (by omega);obtain ⟨h3,h4⟩:=sub_facts (t:=t.extract (dk t 0) t.size) (p:=1) (by omega);refine ⟨?_,λi=>?_⟩
 ·show ((t.extract (dk t 0) t.size).extract 1 (t.extract (dk t 0) t.size).size).size=_
  rw [h3,h1];omega
 ·show bt ((t.extract (dk t 0) t.size).extract 1 (t.extract (dk t 0) t.size).size) i=_
  rw [h4,h2,show dk t 0+(1+i)=dk t 0+1+i by omega]
theorem f_bd (t:ByteArray):0<=fN t/\fN t<=1000000000001000000/\0<=fD t/\fD t<=1000000000000000000:=by
 cases hf:fB t with
 | false=>rw [(f_false hf).1,(f_false hf).2];omega
 | true =>
  cases hb:dB t 0 with
  | false=>rw [f_none hb] at hf;cases hf
  | true =>
   obtain ⟨b1,b2,b3⟩:=dB_bd hb;by_cases e:dk t 0=t.size
   ·rw [(f_whole hb e).2.1,(f_whole hb e).2.2];omega
   ·by_cases c:fC t=46
    ·obtain ⟨g0,g1,g2⟩:=f_point hb e c;rw [g0] at hf;have hp:=hf;unfold plB at hp;simp only [Bool.and_eq_true,decide_eq_true_iff] at hp;obtain ⟨⟨⟨p1,p2⟩,p3⟩,p4⟩:=hp;have sm:=say_small (s:=fS t) (i:=0) (dk (fS t) 0) (dk_all (fS t) 0);have t1:=tenP_le6 (k:=(fS t).size) p1;have t2:=tenP_pos (fS t).size;have sv:dv (fS t) 0<tenP (fS t).size:=by unfold dv;rw [p4] at sm ⊢;exact sm
     have s0:=zFU (fS t) 0;rw [g1,g2,(pl_true hf).1,(pl_true hf).2];have m1:0<=dv t 0 * tenP (fS t).size:=Int.mul_nonneg b2 (by omega);have m2:dv t 0 * tenP (fS t).size<=1000000000000 * 1000000:=Int.mul_le_mul p2 t1 (by omega) (by omega);omega
    ·by_cases c':fC t=47
     ·obtain ⟨g0,g1⟩:=f_over hb e c';have hd:dB (fS t) 0=true:=by rw [g0,Bool.and_eq_true] at hf;exact hf.1
      obtain ⟨d1,d2,d3⟩:=dB_bd hd;rw [(g1 hf).1,(g1 hf).2];omega
     ·rw [f_other hb e c c'] at hf;cases hf
theorem r_none {s:ByteArray} (h:dB s (aOf s)=false):rdO s=none:=by
 obtain ⟨h1,h2,h3⟩:=body_facts s;have e:=(zC8 h1 h2 0).2.2;rw [Nat.add_zero,h] at e;unfold rdO;rw [f_none e];rfl
theorem r_whole {s:ByteArray} (h:dB s (aOf s)=true) (e:aOf s+dk s (aOf s)=s.size):rdO s=mk (sgnd (minusB s) (dv s (aOf s))) 1:=by
 obtain ⟨h1,h2,h3⟩:=body_facts s;obtain ⟨k1,k2,k3⟩:=zC8 h1 h2 0;rw [Nat.add_zero] at k1 k2 k3;obtain ⟨f0,f1,f2⟩:=f_whole (t:=body s) (by rw [k3,h]) (by rw [k1,h1];omega);unfold rdO;rw [f0,f1,f2,k2];rfl
theorem r_more {s:ByteArray} (h:dB s (aOf s)=true) (e:aOf s+dk s (aOf s)<s.size) :
  (¬ (dB s (aOf s+dk s (aOf s)+1)=true/\aOf s+dk s (aOf s)+1+dk s (aOf s+dk s (aOf s)+1)=s.size)->rdO s=none) /\
  (dB s (aOf s+dk s (aOf s)+1)=true->aOf s+dk s (aOf s)+1+dk s (aOf s+dk s (aOf s)+1)=s.size ->
   (bt s (aOf s+dk s (aOf s))=47->rdO s=mk (sgnd (minusB s) (dv s (aOf s))) (dv s (aOf s+dk s (aOf s)+1))) /\
   (¬ bt s (aOf s+dk s (aOf s))=47->¬ bt s (aOf s+dk s (aOf s))=46->rdO s=none) /\
   (bt s (aOf s+dk s (aOf s))=46->(6<dk s (aOf s+dk s (aOf s)+1) \/ 1000000000000<dv s (aOf s))->rdO s=none) /\
   (bt s (aOf s+dk s (aOf s))=46->dk s (aOf s+dk s (aOf s)+1)<=6->dv s (aOf s)<=1000000000000 ->
    rdO s=mk (sgnd (minusB s) (dv s (aOf s) * tenP (dk s (aOf s+dk s (aOf s)+1))+dv s (aOf s+dk s (aOf s)+1))) (tenP (dk s (aOf s+dk s (aOf s)+1))))):=by
 obtain ⟨h1,h2,h3⟩:=body_facts s;obtain ⟨k1,k2,k3⟩:=zC8 h1 h2 0;rw [Nat.add_zero] at k1 k2 k3;have hb:dB (body s) 0=true:=by rw [k3,h]
 have hlt:dk (body s) 0<(body s).size:=by rw [k1,h1];omega
 have hne:¬ dk (body s) 0=(body s).size:=by omega
 obtain ⟨g1,g2⟩:=zMT hlt;have hC:fC (body s)=bt s (aOf s+dk s (aOf s)):=by unfold fC;rw [h2,k1]
 have hS:(fS (body s)).size=s.size - (aOf s+dk s (aOf s)+1):=by rw [g1,h1,k1];omega
 have hT:∀ i,bt (fS (body s)) i=bt s (aOf s+dk s (aOf s)+1+i):=λi=>by
  rw [g2,h2,k1,show aOf s+(dk s (aOf s)+1+i)=aOf s+dk s (aOf s)+1+i by omega]
 obtain ⟨l1,l2,l3⟩:=zC8 hS hT 0;rw [Nat.add_zero] at l1 l2 l3;generalize hi:aOf s+dk s (aOf s)+1=i1 at *;have lk:=dk_le s i1;have sz:(fS (body s)).size=dk s i1 ↔ i1+dk s i1=s.size:=by rw [hS];omega
 have hpl:plB (fS (body s)) (dv (body s) 0)=(decide ((fS (body s)).size<=6) && decide (dv s (aOf s)<=1000000000000) && dB s i1 && decide (dk s i1=(fS (body s)).size)):=by unfold plB;rw [k2,l3,l1]
 constructor
 ·intro hn;have hf:fB (body s)=false:=by
   by_cases c:fC (body s)=46
   ·rw [(f_point hb hne c).1,hpl];by_cases g:dB s i1=true
    ·have:¬ dk s i1=(fS (body s)).size:=λx=>hn ⟨g,sz.1 x.symm⟩
     rw [decide_eq_false this,Bool.and_false]
    ·rw [Bool.not_eq_true] at g;rw [g,Bool.and_false,Bool.false_and]
   ·by_cases c':fC (body s)=47
    ·rw [(f_over hb hne c').1,l3,l1];by_cases g:dB s i1=true
     ·have:¬ dk s i1=(fS (body s)).size:=λx=>hn ⟨g,sz.1 x.symm⟩
      rw [decide_eq_false this,Bool.and_false]
     ·rw [Bool.not_eq_true] at g;rw [g,Bool.false_and]
    ·exact f_other hb hne c c'
  unfold rdO;rw [hf];rfl
 ·intro hd he;have es:=sz.2 he;have esd:decide (dk s i1=(fS (body s)).size)=true:=decide_eq_true es.symm;refine ⟨λc=>?_,λc c'=>?_,λc hw=>?_,λc w1 w2=>?_⟩
  ·obtain ⟨f0,f1⟩:=f_over hb hne (hC.trans c);have hf:fB (body s)=true:=by rw [f0,l3,l1,hd,esd];rfl
   unfold rdO;rw [hf,(f1 hf).1,(f1 hf).2,k2,l2];rfl
  ·have hf:=f_other hb hne (by rw [hC];exact c') (by rw [hC];exact c);unfold rdO;rw [hf];rfl
  ·have hf:fB (body s)=false:=by
    rw [(f_point hb hne (hC.trans c)).1,hpl];rcases hw with hw | hw
    ·rw [decide_eq_false (p:=(fS (body s)).size<=6) (by omega)];rfl
    ·rw [decide_eq_false (p:=dv s (aOf s)<=1000000000000) (by omega),Bool.and_false];rfl
   unfold rdO;rw [hf];rfl
  ·obtain ⟨f0,f1,f2⟩:=f_point hb hne (hC.trans c);have hp:plB (fS (body s)) (dv (body s) 0)=true:=by rw [hpl,hd,esd,decide_eq_true (show (fS (body s)).size<=6 by omega),decide_eq_true w2];rfl
   unfold rdO;rw [f0,hp,f1,f2,(pl_true hp).1,(pl_true hp).2,k2,l2,es];rfl
end Go.Proofs.YtdghjlmnlodnlaaGreatDoor.Wnum
namespace Go.Proofs.YtdghjlmnlodnlaaGreatDoor
open Go.RowKit Tryz
set_option linter.unusedVariables false
variable {ka kb:Nat} {k p:Int} {x:List UInt8} {W:World}
theorem zOk (s:ByteArray) (h:0<s.size):((s.extract 0 1).toList == [(45:UInt8)])=decide (Wnum.bt s 0=45):=by
 rw [ByteArray.toList_eq];obtain ⟨⟨l⟩⟩:=s;cases l with
 | nil=>exact absurd h (Nat.lt_irrefl 0)
 | cons b l =>
  have e:((ByteArray.mk ⟨b::l⟩).extract 0 1).data.toList=[b]:=by simp
  rw [e];have e2:Wnum.bt (ByteArray.mk ⟨b::l⟩) 0=(b.toNat:Int):=rfl;rw [e2];by_cases hb:b=45
  ·subst hb;rfl
  ·have h1:([b] == [(45:UInt8)])=false:=by simp [hb]
   have h2:¬ ((b.toNat:Nat):Int)=45:=λx=>hb (UInt8.toNat_inj.1 (by
     have:b.toNat=45:=by omega
     rw [this];rfl))
   rw [h1,decide_eq_false h2]
theorem zPD (s:ByteArray) (w:World) (hs:s.size<=9223372036854775807) :
  Calls prog 18 #[.string s,.string ⟨#[45]⟩] w λe w'=>e=.returned (.tuple #[.string (Wnum.body s),.bool (Wnum.minusB s)])/\w=w':=by
 by_cases h0:0<s.size
 ·have hx:=zOk s h0;by_cases hc:Wnum.bt s 0=45
  ·have m:Wnum.minusB s=true:=decide_eq_true ⟨h0,hc⟩;have e:Wnum.body s=s.extract 1 s.size:=by unfold Wnum.body;rw [m];rfl
   rw [m,e];rw [decide_eq_true hc] at hx;have h1:(1:Int)<=(s.size:Int):=by omega
   clear m e hc;go_enter func18,ntmps18;go_wp2;go_ret2
   exact ⟨rfl,rfl⟩
  ·have m:Wnum.minusB s=false:=decide_eq_false (λx=>hc x.2);have e:Wnum.body s=s:=by unfold Wnum.body;rw [m];rfl
   rw [m,e];rw [decide_eq_false hc] at hx;have h1:(1:Int)<=(s.size:Int):=by omega
   clear m e hc;go_enter func18,ntmps18;go_wp2;go_ret2
   exact ⟨rfl,rfl⟩
 ·have m:Wnum.minusB s=false:=decide_eq_false (λx=>h0 x.1);have e:Wnum.body s=s:=by unfold Wnum.body;rw [m];rfl
  rw [m,e];have h1:decide ((1:Int)<=(s.size:Int))=false:=decide_eq_false (by omega);clear m e;go_enter func18,ntmps18;go_wp2;go_ret2
  exact ⟨rfl,rfl⟩
theorem zHW (s:ByteArray) (w:World) (hs:s.size<=9223372036854775807) :
  CR 184 #[.string s] w (.tuple #[.agg #[.int .i64 (Wnum.oN (Wnum.rdO s)),.int .i64 (Wnum.oD (Wnum.rdO s))],.bool (Wnum.oB (Wnum.rdO s))]):=by
 have C:=λw=>zPD s w hs
 have hbs:(Wnum.body s).size<=9223372036854775807:=by have:=(Wnum.body_facts s).1;omega
 have R:=λw=>zDO (Wnum.body s) w hbs
 obtain ⟨b1,b2,b3,b4⟩:=Wnum.f_bd (Wnum.body s);cases hf:Wnum.fB (Wnum.body s) with
 | false =>
  have e:Wnum.rdO s=none:=by unfold Wnum.rdO;rw [hf];rfl
  rw [e];rw [hf,(Wnum.f_false hf).1,(Wnum.f_false hf).2] at R;clear e hf b1 b2 b3 b4 hbs;generalize Wnum.body s=t at *;generalize Wnum.minusB s=m at *;go_enter func184,ntmps184;go_wp2_with fail
  refine (C _).mono ?_;rintro e w1 ⟨rfl,rfl⟩;go_wp2_with fail
  refine (R _).mono ?_;rintro e w1 ⟨rfl,k1,rfl⟩;go_wp2;refine bodyPost_ret (v:=.tuple #[.agg #[.int .i64 0,.int .i64 0],.bool false]) (by simp [results,results184,go_sem]) rfl ⟨rfl,?_⟩;exact clA
 | true =>
  have e:Wnum.rdO s=Wnum.mk (Wnum.sgnd (Wnum.minusB s) (Wnum.fN (Wnum.body s))) (Wnum.fD (Wnum.body s)):=by unfold Wnum.rdO;rw [hf];rfl
  rw [e];rw [hf] at R;clear e hf hbs;generalize Wnum.fN (Wnum.body s)=n at *;generalize Wnum.fD (Wnum.body s)=d at *;generalize Wnum.body s=t at *;cases hm:Wnum.minusB s with
  | false =>
   rw [hm] at C;have M:=λw=>zFO n d w (by omega) (by omega) (by omega) (by omega)
   rw [show Wnum.sgnd false n=n from rfl];generalize Wnum.mk n d=o at *;clear hm;go_enter func184,ntmps184;go_wp2_with fail
   refine (C _).mono ?_;rintro e w1 ⟨rfl,rfl⟩;go_wp2_with fail
   refine (R _).mono ?_;rintro e w1 ⟨rfl,k1,rfl⟩;go_wp2_with fail
   refine (M _).mono ?_;rintro e w2 ⟨rfl,hb2⟩;have pC:At w2 w.heap.size (.int .i64 0) (.int .i64 0):=At.below hb2 (At.drewN (At.new w _ rfl _ _) _);have hB:Below w.heap.size w w2:=zAA (zAH ((Below.refl _ w).alloc (Nat.le_refl _) _) _) hb2;obtain ⟨c1,c2,c3,c4⟩:=pC;go_wp2;refine bodyPost_ret (v:=.tuple #[.agg #[.int .i64 (Wnum.oN o),.int .i64 (Wnum.oD o)],.bool (Wnum.oB o)]) (by simp [results,results184,go_sem,c1,c2]) rfl ⟨rfl,?_⟩;exact zAV hB (by omega) _ _
  | true =>
   rw [hm] at C;have M:=λw=>zFO (-n) d w (by omega) (by omega) (by omega) (by omega)
   rw [show Wnum.sgnd true n = -n from rfl];generalize Wnum.mk (-n) d=o at *;clear hm;go_enter func184,ntmps184;go_wp2_with fail
   refine (C _).mono ?_;rintro e w1 ⟨rfl,rfl⟩;go_wp2_with fail
   refine (R _).mono ?_;rintro e w1 ⟨rfl,k1,rfl⟩;go_wp2_with fail
   refine (M _).mono ?_;rintro e w2 ⟨rfl,hb2⟩;have pC:At w2 w.heap.size (.int .i64 0) (.int .i64 0):=At.below hb2 (At.drewN (At.new w _ rfl _ _) _);have hB:Below w.heap.size w w2:=zAA (zAH ((Below.refl _ w).alloc (Nat.le_refl _) _) _) hb2;obtain ⟨c1,c2,c3,c4⟩:=pC;go_wp2;refine bodyPost_ret (v:=.tuple #[.agg #[.int .i64 (Wnum.oN o),.int .i64 (Wnum.oD o)],.bool (Wnum.oB o)]) (by simp [results,results184,go_sem,c1,c2]) rfl ⟨rfl,?_⟩;exact zAV hB (by omega) _ _
def fNames:List (List UInt8):=[[],[35,68,73,86,47,48,33],[35,86,65,76,85,69,33],[35,82,69,70,33],[35,78,85,77,33],[35,78,47,65],[35,67,73,82,67,76,69,33],[35,76,79,78,71,33],[35,65,82,71,33]]
def fltR:List Value:=fNames.map λx=>.string ⟨x.toArray⟩
def FltAt (w:World):Prop:=w.rangeAt 1 0 fltR
theorem FltAt.below {w w':World} (h:FltAt w) (hb:Below w.heap.size w w'):FltAt w':=λj v hv=>zAD hb (h j v hv)
theorem zJL:∀ (j:Nat) (h:j<fNames.length) (w:World),(Instr.index 190 (.agg fltR.toArray) (.int .i64 (j:Int))).run prog w=.ok (.string ⟨(fNames[j]).toArray⟩) w
 | 0,_,w=>by kernel_rfl
 | 1,_,w=>by kernel_rfl
 | 2,_,w=>by kernel_rfl
 | 3,_,w=>by kernel_rfl
 | 4,_,w=>by kernel_rfl
 | 5,_,w=>by kernel_rfl
 | 6,_,w=>by kernel_rfl
 | 7,_,w=>by kernel_rfl
 | 8,_,w=>by kernel_rfl
 | j+9,h,w=>absurd h (by show ¬ j+9<9;omega)
def fi (s:List UInt8):Nat->List (List UInt8)->Nat
 | _,[]=>0
 | j,n::r=>if n=s then j else fi s (j+1) r
theorem zEs (s:ByteArray) (w:World) (hF:FltAt w):Calls prog 188 #[.string s] w λe w'=>e=.returned (.int .i64 (fi s.toList 0 fNames:Nat))/\w=w':=by
 obtain ⟨R,hR⟩:∃ R,fi s.toList 0 fNames=R:=⟨_,rfl⟩
 have E0:Hid (R=fi s.toList 0 (fNames.drop 0)):=hR.symm;rw [hR];clear hR;have hF2:World.rangeAt w 1 0 fltR:=hF;go_enter func188,ntmps188;go_upto_region 1 with fail
 go_wp2_with ((with_reducible refine wpList_load_mid (cs:=fltR) ?_ 190 (.global 1) ?_ 1 0 ?_ _ hF2 underlying190 ?_ ?_ ?_);rfl;rfl;rfl;rfl;kernel_rfl)
 go_loopg [6] 9 (λgk x wr=>∃ j:Nat,x=.int .i64 j/\gk=9 - j/\j<=9/\Hid (R=fi s.toList j (fNames.drop j))/\wr=w)
 case atStart=>exact ⟨0,rfl,rfl,Nat.zero_le _,E0,rfl⟩
 case round =>
  obtain ⟨j,rfl,hg,hj,HR,rfl⟩:=hrel;by_cases hlt:j<9
  ·have hli:(j:Int)<9:=by omega
   have hix:=zJL j hlt;have hd:=List.drop_eq_getElem_cons (l:=fNames) hlt;generalize fNames[j]=x at *;rw [hd] at HR;clear hd;by_cases hm:x=s.toList
   ·have E:Hid (R=j):=by show _=_;rw [HR.out,fi,if_pos hm]
    subst hm;clear HR;go_wp2;go_ret;exact ⟨by rw [E.out];rfl,rfl⟩
   ·have hm4:(x == s.toList)=false:=by simp [hm]
    have E:Hid (R=fi s.toList (j+1) (fNames.drop (j+1))):=by show _=_;rw [HR.out,fi,if_neg hm]
    clear HR;go_wp2_with fail
    go_roundg (9 - (j+1))
    case rel=>exact ⟨j+1,by simp,rfl,hlt,E,by first | trivial | rfl⟩
    case measure=>omega
  ·have hli:¬ (j:Int)<9:=by omega
   have E:Hid (R=0):=by
    show _=_
    rw [HR.out,List.drop_eq_nil_of_le (by show 9<=j;omega)];rfl
   clear HR;go_wp2;go_ret;exact ⟨by rw [E.out];rfl,rfl⟩
theorem zEE (s:ByteArray) (w:World) (h1:¬ s.toList=[84,82,85,69]) (h2:¬ s.toList=[70,65,76,83,69]):Calls prog 186 #[.string s] w λe w'=>e=.returned (.tuple #[.bool false,.bool false])/\w=w':=by
 have h1':(s.toList == [84,82,85,69])=false:=by simp [h1]
 have h2':(s.toList == [70,65,76,83,69])=false:=by simp [h2]
 go_enter func186,ntmps186;go_wp2;go_ret2
 exact ⟨rfl,rfl⟩
theorem zK7 (s:ByteArray) (w:World) (h0:0<s.size) (hx:((s.extract 0 1).toList == [39])=false) :
  Calls prog 18 #[.string s,.string ⟨#[39]⟩] w λe w'=>e=.returned (.tuple #[.string s,.bool false])/\w=w':=by
 have h1:(1:Int)<=(s.size:Int):=by omega
 go_enter func18,ntmps18;go_wp2;go_ret2
 exact ⟨rfl,rfl⟩
theorem zL6 (s:ByteArray) (c:Nat) (w:World) (hF:FltAt w) (h0:0<s.size) (hs:s.size<=1024) (hx:((s.extract 0 1).toList == [39])=false) (hr:Wnum.rdO s=none) (h1:¬ s.toList=[84,82,85,69]) (h2:¬ s.toList=[70,65,76,83,69]) (hc:fi s.toList 0 fNames=c) (hc1:1<=c) (hc8:c<=8) :
  CR 166 #[.string s] w (vlV ⟨4,0,0,⟨#[]⟩,false,c⟩):=by
 have hne:s.toList.isEmpty=false:=zEa (λe=>by subst e;exact absurd h0 (by decide));have C1:=λw=>zK7 s w h0 hx
 have C2:=λw=>zHW s w (by omega)
 rw [hr] at C2;have C3:=λw=>zEE s w h1 h2
 have C4:=λw h=>zEs s w h
 rw [hc] at C4;have C5:=λw=>zBT (c:Int) w
 have e5:zC5 (c:Int)=⟨4,0,0,⟨#[]⟩,false,c⟩:=by
  unfold zC5 Wv.flt;rw [decide_eq_true (by omega),decide_eq_true (by omega)];rfl
 rw [e5] at C5;clear e5 hx hr hc;simp only [vlV,vl6] at C5;have eo:Wnum.oB (none:Option Rat)=false:=rfl;have en:Wnum.oN (none:Option Rat)=0:=rfl;have ed:Wnum.oD (none:Option Rat)=0:=rfl;rw [eo,en,ed] at C2;have hcn:((c:Int) == 0)=false:=by rw [beq_eq_false_iff_ne];omega
 have pR:=vlz w;have hB0:=zAI (Below.refl _ w) (.cells zV0 26);have hF0:=hF.below hB0;go_enter func166,ntmps166;go_wp2_with fail
 refine (C1 _).mono ?_;rintro e w1 ⟨rfl,rfl⟩;go_wp2_with fail
 refine (C2 _).mono ?_;rintro e w2 ⟨rfl,hb⟩;have pR1:=AtL.below hb pR;have hB1:=zAA hB0 hb;have hF1:=hF0.below hb;clear pR hB0 hF0 hb;go_wp2_with fail
 refine (C3 _).mono ?_;rintro e w3 ⟨rfl,rfl⟩;have hF2:=hF1.below ((Below.refl _ _).alloc (Nat.le_refl _) (.cells #[.int .i64 0,.int .i64 0] 24));go_wp2_with fail
 refine (C4 _ hF2).mono ?_;rintro e w3 ⟨rfl,rfl⟩;go_wp2_with fail
 refine (C5 _).mono ?_;rintro e w4 ⟨rfl,hb⟩;have pR2:=AtL.below hb (AtL.alloc pR1 _);have hB2:=zAA (zAI hB1 _) hb;obtain ⟨c0,c1,c2,c3,c4,c5⟩:=pR2.f6;have g0:=pR2.2.2 0 (by decide);have g1:=pR2.2.2 1 (by decide);have g2:=pR2.2.2 2 (by decide);have g3:=pR2.2.2 3 (by decide);have g4:=pR2.2.2 4 (by decide);have g5:=pR2.2.2 5 (by decide);go_wp2;refine bodyPost_ret (v:=vlV ⟨4,0,0,⟨#[]⟩,false,c⟩) (by simp [results,results166,go_sem,vlV,vl6, *]) rfl ⟨rfl,?_⟩;exact (clB hB2)
def zKG (t:Wlx.TV):Option Wt.Vl :=
 if t.k=1 then (if Wnum.oB (Wnum.rdO ⟨t.t.toArray⟩)=true then some (zII (Wnum.oN (Wnum.rdO ⟨t.t.toArray⟩)) (Wnum.oD (Wnum.rdO ⟨t.t.toArray⟩))) else none)
 else if t.k=2 then (if t.t.length<=256 then some (zCg ⟨t.t.toArray⟩) else none)
 else if t.k=4 then some ⟨4,0,0,⟨#[]⟩,false,(fi t.t 0 fNames:Nat)⟩
 else none
def zAP (t:Wlx.TV):Prop:=t.t.length<=1024/\(t.k=4->∃ i,∃ h:i<9,1<=i/\t.t=fNames[i]'h)
def zDz (t:Wlx.TV) (e:Ending):Prop:=∃ v ok,e=.returned (.tuple #[vlV v,.bool ok])/\zKG t=if ok then some v else none
theorem zCA (b:UInt8) (l:List UInt8) (c:Nat) (w:World) (hF:FltAt w) (hs:l.length<1024) (hb:(b == 39)=false) (hr:Wnum.rdO ⟨(b::l).toArray⟩=none) (h1:¬ b::l=[84,82,85,69]) (h2:¬ b::l=[70,65,76,83,69]) (hc:fi (b::l) 0 fNames=c) (hc1:1<=c) (hc8:c<=8) :
  CR 166 #[.string ⟨(b::l).toArray⟩] w (vlV ⟨4,0,0,⟨#[]⟩,false,((fi (b::l) 0 fNames:Nat):Int)⟩):=by
 have e:(⟨(b::l).toArray⟩:ByteArray).toList=b::l:=by rw [ByteArray.toList_eq]
 have e2:((⟨(b::l).toArray⟩:ByteArray).extract 0 1).toList=[b]:=by rw [ByteArray.toList_eq];simp
 rw [hc];exact zL6 ⟨(b::l).toArray⟩ c w hF (by show 0<(b::l).length;simp) (by show (b::l).length<=1024;simp;omega) (by rw [e2];simpa using hb) hr (by rw [e];exact h1) (by rw [e];exact h2) (by rw [e];exact hc) hc1 hc8
theorem zKI:∀ (i:Nat) (h:i<9),1<=i->∀ (w:World),FltAt w->CR 166 #[.string ⟨(fNames[i]'h).toArray⟩] w (vlV ⟨4,0,0,⟨#[]⟩,false,((fi (fNames[i]'h) 0 fNames:Nat):Int)⟩)
 | 0,_,h,_,_=>absurd h (by decide)
 | 1,_,_,w,hF=>zCA 35 [68,73,86,47,48,33] 1 w hF (by decide) (by decide) (by decide +kernel) (by decide) (by decide) (by decide) (by decide) (by decide)
 | 2,_,_,w,hF=>zCA 35 [86,65,76,85,69,33] 2 w hF (by decide) (by decide) (by decide +kernel) (by decide) (by decide) (by decide) (by decide) (by decide)
 | 3,_,_,w,hF=>zCA 35 [82,69,70,33] 3 w hF (by decide) (by decide) (by decide +kernel) (by decide) (by decide) (by decide) (by decide) (by decide)
 | 4,_,_,w,hF=>zCA 35 [78,85,77,33] 4 w hF (by decide) (by decide) (by decide +kernel) (by decide) (by decide) (by decide) (by decide) (by decide)
 | 5,_,_,w,hF=>zCA 35 [78,47,65] 5 w hF (by decide) (by decide) (by decide +kernel) (by decide) (by decide) (by decide) (by decide) (by decide)
 | 6,_,_,w,hF=>zCA 35 [67,73,82,67,76,69,33] 6 w hF (by decide) (by decide) (by decide +kernel) (by decide) (by decide) (by decide) (by decide) (by decide)
 | 7,_,_,w,hF=>zCA 35 [76,79,78,71,33] 7 w hF (by decide) (by decide) (by decide +kernel) (by decide) (by decide) (by decide) (by decide) (by decide)
 | 8,_,_,w,hF=>zCA 35 [65,82,71,33] 8 w hF (by decide) (by decide) (by decide +kernel) (by decide) (by decide) (by decide) (by decide) (by decide)
 | j+9,h,_,_,_=>absurd h (by omega)
theorem zKh (s:ByteArray):(-9223372036854775808<=Wnum.oN (Wnum.rdO s)/\Wnum.oN (Wnum.rdO s)<=9223372036854775807)/\(-9223372036854775808<=Wnum.oD (Wnum.rdO s)/\Wnum.oD (Wnum.rdO s)<=9223372036854775807):=by
 cases Wnum.rdO s with
 | none=>exact ⟨⟨by decide,by decide⟩,by decide,by decide⟩
 | some r =>
  simp only [Wnum.oN,Wnum.oD];by_cases h:Wnum.okQ r=true
  ·rw [if_pos h,if_pos h];have:=of_decide_eq_true h;omega
  ·rw [if_neg h,if_neg h];omega
abbrev LvS (ka kb:Nat) (k:Int) (x:List UInt8) (p:Int) (W:World):Prop :=
 W.cell? ⟨ka,0,none⟩=some (.int .i64 k)/\W.cell? ⟨ka,1,none⟩=some (.string ⟨x.toArray⟩)/\W.cell? ⟨ka,2,none⟩=some (.int .i64 p)/\W.frozen? ⟨kb,0,none⟩=false/\W.frozen? ⟨kb,1,none⟩=false/\W.frozen? ⟨kb,2,none⟩=false/\W.frozen? ⟨kb,3,none⟩=false/\W.frozen? ⟨kb,4,none⟩=false/\W.frozen? ⟨kb,5,none⟩=false
theorem zKv {us:List Value} (h0:AtL W ka [.int .i64 k,.string ⟨x.toArray⟩,.int .i64 p]) (h1:AtL W kb us) (hl:us.length=6):LvS ka kb k x p W :=
 ⟨h0.2.1 0 _ rfl,h0.2.1 1 _ rfl,h0.2.1 2 _ rfl,h1.2.2 0 (by omega),h1.2.2 1 (by omega),h1.2.2 2 (by omega),h1.2.2 3 (by omega),h1.2.2 4 (by omega),h1.2.2 5 (by omega)⟩
theorem zCr (h:LvS ka kb k x p W) (hne:kb ≠ ka) (j:Nat) (u:Value):LvS ka kb k x p (W.setCell ⟨kb,j,none⟩ u):=by
 obtain ⟨h0,h1,h2,g0,g1,g2,g3,g4,g5⟩:=h;refine ⟨?_,?_,?_,?_,?_,?_,?_,?_,?_⟩;any_goals rw [World.cell?_setCell_far _ _ _ _ (by simpa using hne)];assumption
 all_goals rw [World.frozen?_setCell];assumption
theorem zMJ (t:Wlx.TV) (w:World) (hF:FltAt w) (ht:zAP t):Calls prog 198 #[tkV t] w λe w'=>zDz t e/\Below w.heap.size w w':=by
 obtain ⟨k,x,p⟩:=t;obtain ⟨hx,h4⟩:=ht;simp only at hx h4;have hxs:(⟨x.toArray⟩:ByteArray).size=x.length:=rfl;show Calls _ _ #[.agg #[.int .i64 k,.string ⟨x.toArray⟩,.int .i64 p]] _ _
 have pA:=(AtL.new0 w 107 [.int .i64 k,.string ⟨x.toArray⟩,.int .i64 p]).alloc (.cells zV0 26);have pR:=vlz (w.alloc (.cells #[.int .i64 k,.string ⟨x.toArray⟩,.int .i64 p] 107));simp only [World.size_alloc] at pR;have hB0:=zAI (zAI (Below.refl _ w) (.cells #[.int .i64 k,.string ⟨x.toArray⟩,.int .i64 p] 107)) (.cells zV0 26);have hF0:=hF.below hB0;by_cases h1:k=1
 ·subst h1;have C1:=λw=>zHW ⟨x.toArray⟩ w (by omega)
  have bd:∀ q:Option Rat,q=Wnum.rdO ⟨x.toArray⟩->(-9223372036854775808<=Wnum.oN q/\Wnum.oN q<=9223372036854775807)/\(-9223372036854775808<=Wnum.oD q/\Wnum.oD q<=9223372036854775807):=by
   intro q hq;subst hq;exact zKh _
  obtain ⟨⟨b1,b2⟩,b3,b4⟩:=bd _ rfl;have C2:=λw=>zLr (Wnum.oN (Wnum.rdO ⟨x.toArray⟩)) (Wnum.oD (Wnum.rdO ⟨x.toArray⟩)) w b1 b2 b3 b4
  have hp:zDz ⟨1,x,p⟩ (.returned (.tuple #[vlV (zII (Wnum.oN (Wnum.rdO ⟨x.toArray⟩)) (Wnum.oD (Wnum.rdO ⟨x.toArray⟩))),.bool (Wnum.oB (Wnum.rdO ⟨x.toArray⟩))])):=by
   refine ⟨_,_,rfl,?_⟩;unfold zKG;rw [if_pos rfl]
  generalize zII (Wnum.oN (Wnum.rdO ⟨x.toArray⟩)) (Wnum.oD (Wnum.rdO ⟨x.toArray⟩))=V at *;generalize Wnum.oN (Wnum.rdO ⟨x.toArray⟩)=qn at *;generalize Wnum.oD (Wnum.rdO ⟨x.toArray⟩)=qd at *;generalize Wnum.oB (Wnum.rdO ⟨x.toArray⟩)=qb at *;clear bd b1 b2 b3 b4;obtain ⟨v1,v2,v3,v4,v5,v6⟩:=V;simp only [vlV,vl6] at C2;go_enter func198,ntmps198;go_wp2_with fail
  refine (C1 _).mono ?_;rintro e w1 ⟨rfl,hb⟩;have pR1:=AtL.below hb pR;have hB1:=zAA hB0 hb;clear pA pR hB0 hb;go_wp2_with fail
  refine (C2 _).mono ?_;rintro e w2 ⟨rfl,hb⟩;have pR2:=AtL.below hb (AtL.alloc pR1 _);have hB2:=zAA (zAI hB1 _) hb;clear pR1 hB1 hb;obtain ⟨c0,c1,c2,c3,c4,c5⟩:=pR2.f6;have g0:=pR2.2.2 0 (by decide);have g1:=pR2.2.2 1 (by decide);have g2:=pR2.2.2 2 (by decide);have g3:=pR2.2.2 3 (by decide);have g4:=pR2.2.2 4 (by decide);have g5:=pR2.2.2 5 (by decide);go_wp2;refine bodyPost_ret (v:=.tuple #[vlV ⟨v1,v2,v3,v4,v5,v6⟩,.bool qb]) (by simp [results,results198,go_sem,vlV,vl6,c0,c1,c2,c3,c4,c5]) rfl ⟨hp,?_⟩;exact (clB hB2)
 by_cases h2:k=2
 ·subst h2;have C1:=λw=>zK3 ⟨x.toArray⟩ w (by omega)
  have hp:zDz ⟨2,x,p⟩ (.returned (.tuple #[vlV (zCg ⟨x.toArray⟩),.bool (decide ((x.length:Int)<=256))])):=by
   refine ⟨_,_,rfl,?_⟩;unfold zKG;rw [if_neg h1,if_pos rfl];by_cases hl:x.length<=256
   ·simp only;rw [if_pos hl,decide_eq_true (by omega)];rfl
   ·simp only;rw [if_neg hl,decide_eq_false (by omega)];rfl
  generalize zCg ⟨x.toArray⟩=V at *;obtain ⟨v1,v2,v3,v4,v5,v6⟩:=V;simp only [vlV,vl6] at C1;have hS:=zKv pA pR rfl;go_enter func198,ntmps198;go_upto_region 6 with fail
  go_region_held3 (LvS w.heap.size (w.heap.size+1) 2 x p)
   (with_reducible first | exact hS | assumption | exact zKv pA1 pR1 rfl | exact (zCr (zCr (zCr (zCr (zCr (zCr (by assumption) (by omega) _ _) (by omega) _ _) (by omega) _ _) (by omega) _ _) (by omega) _ _) (by omega) _ _) | exact zKv (AtL.drew pA) (AtL.drew pR) rfl)
   (first | (go_at_call 183;refine (C1 _).mono ?_;rintro e w1 ⟨rfl,hb⟩;have pA1:=AtL.below hb (AtL.drew pA);have pR1:=AtL.below hb (AtL.drew pR);obtain ⟨c0,c1,c2,c3,c4,c5⟩:=pR1.f6;have hB1:=zAA hB0.drew hb))
  all_goals
   have pR2:AtL ((((((w1.setCell ⟨w.heap.size+1,0,none⟩ (.int .i64 v1)).setCell ⟨w.heap.size+1,1,none⟩ (.int .i64 v2)).setCell ⟨w.heap.size+1,2,none⟩ (.int .i64 v3)).setCell ⟨w.heap.size+1,3,none⟩ (.string v4)).setCell ⟨w.heap.size+1,4,none⟩ (.bool v5)).setCell ⟨w.heap.size+1,5,none⟩ (.int .i64 v6)) (w.heap.size+1) [.int .i64 v1,.int .i64 v2,.int .i64 v3,.string v4,.bool v5,.int .i64 v6]:=(((((pR1.set 0 _).set 1 _).set 2 _).set 3 _).set 4 _).set 5 _;have hB2:Below w.heap.size w ((((((w1.setCell ⟨w.heap.size+1,0,none⟩ (.int .i64 v1)).setCell ⟨w.heap.size+1,1,none⟩ (.int .i64 v2)).setCell ⟨w.heap.size+1,2,none⟩ (.int .i64 v3)).setCell ⟨w.heap.size+1,3,none⟩ (.string v4)).setCell ⟨w.heap.size+1,4,none⟩ (.bool v5)).setCell ⟨w.heap.size+1,5,none⟩ (.int .i64 v6)):=(clB hB1)
   generalize ((((((w1.setCell ⟨w.heap.size+1,0,none⟩ (.int .i64 v1)).setCell ⟨w.heap.size+1,1,none⟩ (.int .i64 v2)).setCell ⟨w.heap.size+1,2,none⟩ (.int .i64 v3)).setCell ⟨w.heap.size+1,3,none⟩ (.string v4)).setCell ⟨w.heap.size+1,4,none⟩ (.bool v5)).setCell ⟨w.heap.size+1,5,none⟩ (.int .i64 v6))=W2 at *;clear c0 c1 c2 c3 c4 c5;obtain ⟨c0,c1,c2,c3,c4,c5⟩:=pR2.f6;go_wp2;refine bodyPost_ret (v:=.tuple #[vlV ⟨v1,v2,v3,v4,v5,v6⟩,.bool (decide ((x.length:Int)<=256))]) (by simp [results,results198,go_sem,vlV,vl6,c0,c1,c2,c3,c4,c5]) rfl ⟨hp,hB2⟩
 by_cases h4k:k=4
 ·subst h4k;obtain ⟨i,hi,hi1,hxi⟩:=h4 rfl;have C1:=λw h=>zKI i hi hi1 w h
  rw [<-hxi] at C1;clear hxi h4;have hp:zDz ⟨4,x,p⟩ (.returned (.tuple #[vlV ⟨4,0,0,⟨#[]⟩,false,((fi x 0 fNames:Nat):Int)⟩,.bool true])):=⟨_,_,rfl,rfl⟩
  generalize ((fi x 0 fNames:Nat):Int)=c at *;simp only [vlV,vl6] at C1;go_enter func198,ntmps198;go_wp2_with fail
  refine (C1 _ hF0).mono ?_;rintro e w1 ⟨rfl,hb⟩;have pR2:=AtL.below hb pR;have hB2:=zAA hB0 hb;obtain ⟨c0,c1,c2,c3,c4,c5⟩:=pR2.f6;have g0:=pR2.2.2 0 (by decide);have g1:=pR2.2.2 1 (by decide);have g2:=pR2.2.2 2 (by decide);have g3:=pR2.2.2 3 (by decide);have g4:=pR2.2.2 4 (by decide);have g5:=pR2.2.2 5 (by decide);go_wp2;refine bodyPost_ret (v:=.tuple #[vlV ⟨4,0,0,⟨#[]⟩,false,c⟩,.bool true]) (by simp [results,results198,go_sem,vlV,vl6,c0,c1,c2,c3,c4,c5]) rfl ⟨hp,?_⟩;exact (clB hB2)
 have hp:zDz ⟨k,x,p⟩ (.returned (.tuple #[vlV ⟨0,0,0,⟨#[]⟩,false,0⟩,.bool false])):=by
  refine ⟨_,_,rfl,?_⟩;unfold zKG;rw [if_neg h1,if_neg h2,if_neg h4k];rfl
 have e1:(k == 1)=false:=by simp [h1]
 have e2:(k == 2)=false:=by simp [h2]
 have e4:(k == 4)=false:=by simp [h4k]
 go_enter func198,ntmps198;go_wp2;refine bodyPost_ret (v:=.tuple #[vlV ⟨0,0,0,⟨#[]⟩,false,0⟩,.bool false]) (by simp [results,results198,go_sem,vlV,vl6]) rfl ⟨hp,?_⟩;exact clA
def zSs (w:World) (blk off n:Nat) (F:Nat->Wpl.Cl):Prop :=
 ∀ j,j<n->w.cell? ⟨blk,off+j * 3,none⟩=some (.int .i64 (F j).s)/\w.cell? ⟨blk,off+j * 3+1,none⟩=some (.int .i64 (F j).r)/\w.cell? ⟨blk,off+j * 3+2,none⟩=some (.int .i64 (F j).c)
end Go.Proofs.YtdghjlmnlodnlaaGreatDoor
namespace Wpl
def colT (n:Nat):List UInt8:=if n<26 then [UInt8.ofNat (65+n)] else [UInt8.ofNat (65+(n / 26 - 1)),UInt8.ofNat (65+n % 26)]
def colS (n:Int):List UInt8:=if inB n 256 then colT n.toNat else []
theorem zMo (n:Nat):(colT n).length<=2:=by unfold colT;split <;> simp
theorem colS_len (n:Int):(colS n).length<=2:=by unfold colS;split;exact zMo _;simp
def nameS (s r c:Int):List UInt8:=if rightC s r c then colS c++Go.Lib.decDigits (r+1).toNat else []
theorem dd_len (n:Nat) (h:n<=9223372036854775807):(Go.Lib.decDigits n).length<=21:=by
 have:=Go.Lib.itoa_length_le (n:Int) (by omega) (by omega);unfold Go.Lib.itoa at this;rw [if_neg (by omega),Int.toNat_natCast] at this;exact this
def zSv (r c:Int):List UInt8:=colS c++Go.Lib.decDigits (r+1).toNat
theorem nameS_pos {s r c:Int} (h:rightC s r c=true):nameS s r c=zSv r c:=by unfold nameS;rw [h];rfl
theorem nameS_neg {s r c:Int} (h:rightC s r c=false):nameS s r c=[]:=by unfold nameS;rw [h];rfl
end Wpl
