/- WalkRf, WalkPc, WalkI, WalkM, PlainU, WalkRr, VWalkE. -/
import Derived.Test.YtlggnpohhahdlaaGreatDoorQ11
set_option maxHeartbeats 1000000
set_option maxRecDepth 100000
namespace Go.Proofs.YtlggnpohhahdlaaGreatDoor
open Go.RowKit
set_option linter.unusedVariables false
theorem empty_iff (r:ByteArray):(r.toList == ([]:List UInt8))=decide (r.size=0):=by
 rw [ByteArray.toList_eq];obtain ⟨⟨l⟩⟩:=r;cases l <;> rfl
theorem full_iff (r:ByteArray):r.toList.isEmpty=decide (r.size=0):=by
 rw [ByteArray.toList_eq];obtain ⟨⟨l⟩⟩:=r;cases l <;> rfl
theorem readPlaces_any (n:Int) (t:ByteArray) (w:World) (h1:0≤n) (h2:n≤1000000000000000000) (hs:t.size≤9223372036854775807) :
  Calls Tryz.prog 202 #[.int .i64 n,.string t] w fun e w'=>e=.returned (.tuple #[.int .i64 (Wnum.plN t n),.int .i64 (Wnum.plD t n),.bool (Wnum.plB t n)])∧∃ k,w'=w.drewN k:=by
 by_cases c1:6<t.size
 ·have f0:Wnum.plB t n=false:=by unfold Wnum.plB;rw [decide_eq_false (by omega)];rfl
  rw [(Wnum.pl_false f0).1,(Wnum.pl_false f0).2,f0];clear f0;go_enter Tryz.func202,Tryz.ntmps202;go_wp2;go_ret3
  exact ⟨rfl,0,rfl⟩
 have c1':decide ((6:Int)<(t.size:Int))=false:=decide_eq_false (by omega);by_cases c2:1000000000000<n
 ·have f0:Wnum.plB t n=false:=by unfold Wnum.plB;rw [decide_eq_false (p:=n≤1000000000000) (by omega),Bool.and_false,Bool.false_and];rfl
  rw [(Wnum.pl_false f0).1,(Wnum.pl_false f0).2,f0];clear f0;go_enter Tryz.func202,Tryz.ntmps202;go_wp2;go_ret3
  exact ⟨rfl,0,rfl⟩
 have c2':decide (1000000000000<n)=false:=decide_eq_false c2;have P:=fun w=>readDigits_any t w hs
 cases hb:Wnum.dB t 0 with
 | false =>
  have f0:Wnum.plB t n=false:=by unfold Wnum.plB;rw [hb,Bool.and_false];rfl
  rw [(Wnum.pl_false f0).1,(Wnum.pl_false f0).2,f0];rw [hb,(Wnum.rd_false hb).1,(Wnum.rd_false hb).2] at P;clear f0 hb;go_enter Tryz.func202,Tryz.ntmps202;go_wp2_with fail
  refine (P _).mono ?_;rintro e w1 ⟨rfl,k1,rfl⟩;go_wp2;go_ret3
  exact ⟨rfl,k1,rfl⟩
 | true =>
  obtain ⟨b1,b2,b3⟩:=Wnum.dB_bd hb;have kl:=Wnum.dk_le t 0;have es:=(Wnum.sub_facts (t:=t) (p:=Wnum.dk t 0) (by omega)).1;rw [hb,(Wnum.rd_true hb).1,(Wnum.rd_true hb).2] at P;by_cases c3:Wnum.dk t 0=t.size
  ·have f0:Wnum.plB t n=true:=by unfold Wnum.plB;rw [hb,decide_eq_true c3,decide_eq_true (show t.size≤6 by omega),decide_eq_true (show n≤1000000000000 by omega)];rfl
   have sm:Wnum.dv t 0<Wnum.tenP t.size:=by
    have:=Wnum.say_small (s:=t) (i:=0) (Wnum.dk t 0) (Wnum.dk_all t 0);rw [c3] at this;unfold Wnum.dv;rw [c3];exact this
   rw [(Wnum.pl_true f0).1,(Wnum.pl_true f0).2,f0];have q1:=full_iff (t.extract (Wnum.dk t 0) t.size);rw [es,decide_eq_true (by omega)] at q1;generalize t.extract (Wnum.dk t 0) t.size=r at *;generalize Wnum.dv t 0=v at *;have t1:=Wnum.tenP_le6 (k:=t.size) (by omega);have t2:=Wnum.tenP_pos t.size;have T:=fun w=>tenTo_any (t.size:Int) w (by omega) (by omega)
   rw [Int.toNat_natCast] at T;generalize Wnum.tenP t.size=ten at *;have m1:0≤n * ten:=Int.mul_nonneg h1 (by omega);have m2:n * ten≤1000000000000 * 1000000:=Int.mul_le_mul (by omega) t1 (by omega) (by omega);clear f0 hb es c3 kl b1;go_enter Tryz.func202,Tryz.ntmps202;go_wp2_with fail
   refine (P _).mono ?_;rintro e w1 ⟨rfl,k1,rfl⟩;go_wp2_with fail
   refine (T _).mono ?_;rintro e w2 ⟨rfl,rfl⟩;go_wp2;go_ret3
   exact ⟨rfl,k1,rfl⟩
  ·have f0:Wnum.plB t n=false:=by unfold Wnum.plB;rw [decide_eq_false c3,Bool.and_false]
   rw [(Wnum.pl_false f0).1,(Wnum.pl_false f0).2,f0];have q1:=full_iff (t.extract (Wnum.dk t 0) t.size);rw [es,decide_eq_false (by omega)] at q1;generalize t.extract (Wnum.dk t 0) t.size=r at *;generalize Wnum.dv t 0=v at *;clear f0 hb es c3 kl b1;go_enter Tryz.func202,Tryz.ntmps202;go_wp2_with fail
   refine (P _).mono ?_;rintro e w1 ⟨rfl,k1,rfl⟩;go_wp2;go_ret3
   exact ⟨rfl,k1,rfl⟩
theorem readFraction_any (t:ByteArray) (w:World) (hs:t.size≤9223372036854775807) :
  Calls Tryz.prog 192 #[.string t] w fun e w'=>e=.returned (.tuple #[.int .i64 (Wnum.fN t),.int .i64 (Wnum.fD t),.bool (Wnum.fB t)])∧∃ k,w'=w.drewN k:=by
 have P:=fun w=>readDigits_any t w hs
 cases hb:Wnum.dB t 0 with
 | false =>
  have f0:=Wnum.f_none hb;rw [(Wnum.f_false f0).1,(Wnum.f_false f0).2,f0];rw [hb,(Wnum.rd_false hb).1,(Wnum.rd_false hb).2] at P;clear f0 hb;go_enter Tryz.func192,Tryz.ntmps192;go_wp2_with fail
  refine (P _).mono ?_;rintro e w1 ⟨rfl,k1,rfl⟩;go_wp2;go_ret3
  exact ⟨rfl,k1,rfl⟩
 | true =>
  obtain ⟨b1,b2,b3⟩:=Wnum.dB_bd hb;have kl:=Wnum.dk_le t 0;obtain ⟨es,eb⟩:=Wnum.sub_facts (t:=t) (p:=Wnum.dk t 0) (by omega);rw [hb,(Wnum.rd_true hb).1,(Wnum.rd_true hb).2] at P;by_cases c3:Wnum.dk t 0=t.size
  ·obtain ⟨f0,f1,f2⟩:=Wnum.f_whole hb c3;rw [f0,f1,f2];have q1:=empty_iff (t.extract (Wnum.dk t 0) t.size);rw [es,decide_eq_true (by omega)] at q1;generalize t.extract (Wnum.dk t 0) t.size=r at *;generalize Wnum.dv t 0=v at *;clear f0 f1 f2 hb es eb c3 kl b1;go_enter Tryz.func192,Tryz.ntmps192;go_wp2_with fail
   refine (P _).mono ?_;rintro e w1 ⟨rfl,k1,rfl⟩;go_wp2;go_ret3
   exact ⟨rfl,k1,rfl⟩
  ·have q1:=empty_iff (t.extract (Wnum.dk t 0) t.size);rw [es,decide_eq_false (by omega)] at q1;have r0:0<(t.extract (Wnum.dk t 0) t.size).size:=by rw [es];omega
   have rs:(t.extract (Wnum.dk t 0) t.size).size≤9223372036854775807:=by rw [es];omega
   have ec:=Wnum.bt_get r0;rw [eb 0,Nat.add_zero] at ec;have ec:(((t.extract (Wnum.dk t 0) t.size)[0]'r0).toNat:Int)=Wnum.fC t:=ec;have us:(Wnum.fS t).size≤9223372036854775807:=by
    have:=(Wnum.sub_facts (t:=t.extract (Wnum.dk t 0) t.size) (p:=1) (by omega)).1;show (((t.extract (Wnum.dk t 0) t.size)).extract 1 (t.extract (Wnum.dk t 0) t.size).size).size≤_
    omega
   have U:Hid ((t.extract (Wnum.dk t 0) t.size).extract 1 (t.extract (Wnum.dk t 0) t.size).size=Wnum.fS t):=(rfl:(t.extract (Wnum.dk t 0) t.size).extract 1 (t.extract (Wnum.dk t 0) t.size).size=Wnum.fS t)
   by_cases c46:Wnum.fC t=46
   ·obtain ⟨f0,f1,f2⟩:=Wnum.f_point hb c3 c46;rw [f0,f1,f2];have Q:=fun w=>readPlaces_any (Wnum.dv t 0) (Wnum.fS t) w b2 b3 us
    rw [c46] at ec;clear f0 f1 f2 c46;generalize Wnum.fS t=u at *;generalize Wnum.dv t 0=v at *;clear hb es eb c3 kl b1;generalize t.extract (Wnum.dk t 0) t.size=r at *;go_enter Tryz.func192,Tryz.ntmps192;go_wp2_with fail
    refine (P _).mono ?_;rintro e w1 ⟨rfl,k1,rfl⟩;go_wp2_with fail
    rw [U.out];refine (Q _).mono ?_;rintro e w2 ⟨rfl,k2,rfl⟩;go_wp2;go_ret3
    exact ⟨rfl,_,rfl⟩
   ·by_cases c47:Wnum.fC t=47
    ·obtain ⟨f0,f1⟩:=Wnum.f_over hb c3 c47;have Q:=fun w=>readDigits_any (Wnum.fS t) w us
     rw [c47] at ec;cases hu:Wnum.dB (Wnum.fS t) 0 with
     | false =>
      have f0':Wnum.fB t=false:=by rw [f0,hu];rfl
      rw [(Wnum.f_false f0').1,(Wnum.f_false f0').2,f0'];rw [hu,(Wnum.rd_false hu).1,(Wnum.rd_false hu).2] at Q;clear f0 f1 f0' c46 c47 hu;generalize Wnum.fS t=u at *;generalize Wnum.dv t 0=v at *;clear hb es eb c3 kl b1;generalize t.extract (Wnum.dk t 0) t.size=r at *;go_enter Tryz.func192,Tryz.ntmps192;go_wp2_with fail
      refine (P _).mono ?_;rintro e w1 ⟨rfl,k1,rfl⟩;go_wp2_with fail
      rw [U.out];refine (Q _).mono ?_;rintro e w2 ⟨rfl,k2,rfl⟩;go_wp2;go_ret3
      exact ⟨rfl,_,rfl⟩
     | true =>
      have ul:=Wnum.dk_le (Wnum.fS t) 0;have ues:=(Wnum.sub_facts (t:=Wnum.fS t) (p:=Wnum.dk (Wnum.fS t) 0) (by omega)).1;have q2:=full_iff ((Wnum.fS t).extract (Wnum.dk (Wnum.fS t) 0) (Wnum.fS t).size);rw [ues] at q2;rw [hu,(Wnum.rd_true hu).1,(Wnum.rd_true hu).2] at Q;by_cases c5:Wnum.dk (Wnum.fS t) 0=(Wnum.fS t).size
      ·have f0':Wnum.fB t=true:=by rw [f0,hu,decide_eq_true c5];rfl
       rw [(f1 f0').1,(f1 f0').2,f0'];rw [decide_eq_true (by omega)] at q2;clear f0 f1 f0' c46 c47 hu c5 ul ues;generalize Wnum.dv (Wnum.fS t) 0=v2 at *;generalize (Wnum.fS t).extract (Wnum.dk (Wnum.fS t) 0) (Wnum.fS t).size=r2 at *;generalize Wnum.fS t=u at *;generalize Wnum.dv t 0=v at *;clear hb es eb c3 kl b1;generalize t.extract (Wnum.dk t 0) t.size=r at *;go_enter Tryz.func192,Tryz.ntmps192;go_wp2_with fail
       refine (P _).mono ?_;rintro e w1 ⟨rfl,k1,rfl⟩;go_wp2_with fail
       rw [U.out];refine (Q _).mono ?_;rintro e w2 ⟨rfl,k2,rfl⟩;go_wp2;go_ret3
       exact ⟨rfl,_,rfl⟩
      ·have f0':Wnum.fB t=false:=by rw [f0,decide_eq_false c5,Bool.and_false]
       rw [(Wnum.f_false f0').1,(Wnum.f_false f0').2,f0'];rw [decide_eq_false (by omega)] at q2;clear f0 f1 f0' c46 c47 hu c5 ul ues;generalize Wnum.dv (Wnum.fS t) 0=v2 at *;generalize (Wnum.fS t).extract (Wnum.dk (Wnum.fS t) 0) (Wnum.fS t).size=r2 at *;generalize Wnum.fS t=u at *;generalize Wnum.dv t 0=v at *;clear hb es eb c3 kl b1;generalize t.extract (Wnum.dk t 0) t.size=r at *;go_enter Tryz.func192,Tryz.ntmps192;go_wp2_with fail
       refine (P _).mono ?_;rintro e w1 ⟨rfl,k1,rfl⟩;go_wp2_with fail
       rw [U.out];refine (Q _).mono ?_;rintro e w2 ⟨rfl,k2,rfl⟩;go_wp2;go_ret3
       exact ⟨rfl,_,rfl⟩
    ·have f0:=Wnum.f_other hb c3 c46 c47;rw [(Wnum.f_false f0).1,(Wnum.f_false f0).2,f0];have g1:(Wnum.fC t == 46)=false:=beq_eq_false_iff_ne.2 c46;have g2:(Wnum.fC t == 47)=false:=beq_eq_false_iff_ne.2 c47;clear f0 c46 c47 U us;generalize Wnum.fC t=c at *;generalize Wnum.dv t 0=v at *;clear hb es eb c3 kl b1;generalize t.extract (Wnum.dk t 0) t.size=r at *;go_enter Tryz.func192,Tryz.ntmps192;go_wp2_with fail
     refine (P _).mono ?_;rintro e w1 ⟨rfl,k1,rfl⟩;go_wp2;go_ret3
     exact ⟨rfl,k1,rfl⟩
theorem piece_any (s:ByteArray) (p:Nat) (w:World) (hs:s.size≤9223372036854775807) (hp:p≤s.size) :
  Calls Tryz.prog 132 #[.string s,.int .i64 (p:Int)] w fun e w'=>e=.returned (.tuple #[.int .u64 (Wnum.pcN s p),.int .i64 (Wnum.pcI s p),.bool (Wnum.dB s p)])∧w=w':=by
 go_enter Tryz.func132,Tryz.ntmps132;go_wp2;go_loop [7,8] (fun x i=>∃ q:Nat,∃ a:Int,p≤q∧q≤s.size∧x=.int .u64 a∧i=.int .i64 q∧0≤a∧a≤1000000000000000000∧Hid (q - p≤Wnum.dk s p)∧Hid (Wnum.say s p (q - p)=a)) (fun _ i=>s.size - (intOf i).toNat)
 case atStart=>exact ⟨p,0,Nat.le_refl _,hp,rfl,rfl,by omega,by omega,(by omega:p - p≤Wnum.dk s p),(by rw [Nat.sub_self];rfl:Wnum.say s p (p - p)=0)⟩
 case round =>
  obtain ⟨q,a,hq,hqs,rfl,rfl,ha,hb,HJ,ea⟩:=hrel;by_cases hlt:q<s.size
  ·have eb:=Wnum.bt_get hlt;obtain ⟨c0,c1⟩:=Wnum.bt_bd s q;obtain ⟨c,ec⟩:∃ c,c=Wnum.bt s q:=⟨_,rfl⟩
   have EC:Hid (Wnum.bt s (p+(q - p))=c):=by show _=_;rw [show p+(q - p)=q by omega,ec]
   rw [←ec] at eb c0 c1;clear ec;by_cases d1:48≤c
   ·by_cases d2:c≤57
    ·have lt:=Wnum.dk_more HJ.out (by omega) (by rw [EC.out];exact ⟨d1,d2⟩);have LT:Hid (q - p<Wnum.dk s p):=lt;have SS:Hid (Wnum.say s p (q+1 - p)=a * 10+(c - 48)):=by show _=_;rw [show q+1 - p=q - p+1 by omega,Wnum.say_succ,ea.out,EC.out]
     clear lt;by_cases o1:100000000000000000<a
     ·obtain ⟨f1,f2,f0⟩:=Wnum.pc_over (s:=s) (p:=p) (j:=q+1 - p) (by have:=LT.out;omega) (by rw [SS.out];omega);have F0:Hid (Wnum.dB s p=false):=f0;have F1:Hid (Wnum.pcN s p=0):=f1;have F2:Hid (Wnum.pcI s p=0):=f2;clear f0 f1 f2;go_wp2;go_ret3
      exact ⟨by rw [F0.out,F1.out,F2.out];rfl,rfl⟩
     ·have n0:0≤a * 10+(c - 48):=by omega
      have n1:a * 10+(c - 48)≤1000000000000000009:=by omega
      by_cases o2:1000000000000000000<a * 10+(c - 48)
      ·obtain ⟨f1,f2,f0⟩:=Wnum.pc_over (s:=s) (p:=p) (j:=q+1 - p) (by have:=LT.out;omega) (by rw [SS.out];exact o2);have F0:Hid (Wnum.dB s p=false):=f0;have F1:Hid (Wnum.pcN s p=0):=f1;have F2:Hid (Wnum.pcI s p=0):=f2;clear f0 f1 f2;go_wp2;go_ret3
       exact ⟨by rw [F0.out,F1.out,F2.out];rfl,rfl⟩
      ·go_wp2;go_round
       case rel=>exact ⟨q+1,a * 10+(c - 48),by omega,by omega,by go_num,by go_num,n0,by omega,(by have:=LT.out;omega:q+1 - p≤Wnum.dk s p),SS⟩
       case measure=>simp [intOf];omega
    ·have d2':decide (c≤57)=false:=decide_eq_false d2;obtain ⟨f1,f2,f0⟩:=Wnum.pc_in hq (Wnum.dk_stop HJ.out (Or.inr (by rw [EC.out];intro h;exact d2 h.2))) (by rw [ea.out];exact hb);rw [ea.out] at f1;have F0:Hid (Wnum.dB s p=decide (p<q)):=f0;have F1:Hid (Wnum.pcN s p=a):=f1;have F2:Hid (Wnum.pcI s p=(q:Int)):=f2;clear f0 f1 f2;go_wp2;go_ret3
     exact ⟨by rw [F0.out,F1.out,F2.out];simp,rfl⟩
   ·have d1':decide (48≤c)=false:=decide_eq_false d1;obtain ⟨f1,f2,f0⟩:=Wnum.pc_in hq (Wnum.dk_stop HJ.out (Or.inr (by rw [EC.out];intro h;exact d1 h.1))) (by rw [ea.out];exact hb);rw [ea.out] at f1;have F0:Hid (Wnum.dB s p=decide (p<q)):=f0;have F1:Hid (Wnum.pcN s p=a):=f1;have F2:Hid (Wnum.pcI s p=(q:Int)):=f2;clear f0 f1 f2;go_wp2;go_ret3
    exact ⟨by rw [F0.out,F1.out,F2.out];simp,rfl⟩
  ·obtain ⟨f1,f2,f0⟩:=Wnum.pc_in hq (Wnum.dk_stop HJ.out (Or.inl (by omega))) (by rw [ea.out];exact hb);rw [ea.out] at f1;have F0:Hid (Wnum.dB s p=decide (p<q)):=f0;have F1:Hid (Wnum.pcN s p=a):=f1;have F2:Hid (Wnum.pcI s p=(q:Int)):=f2;clear f0 f1 f2;go_wp2;go_ret3
   exact ⟨by rw [F0.out,F1.out,F2.out];simp,rfl⟩
theorem make_neg' (n d N D:Int) (w:World) (eN:Hid (-n=N)) (eD:Hid (-d=D)) (h1:-9223372036854775807≤n) (h2:n≤9223372036854775807) (h3:-9223372036854775807≤d) (h4:d ≤ -1)
  (hN1:-9223372036854775807≤N) (hN2:N≤9223372036854775807) (hD:1≤D) (hD2:D≤9223372036854775807) :
  Calls Tryz.prog 193 #[.int .i64 n,.int .i64 d] w fun e w'=>e=.returned (.tuple #[.agg #[.int .i64 (Wnum.oN (some (Rat.divInt N D))),.int .i64 (Wnum.oD (some (Rat.divInt N D)))],.bool (Wnum.oB (some (Rat.divInt N D)))])∧Below w.heap.size w w':=by
 obtain ⟨g1,g2,g3,g4,g5⟩:=Wnum.mk_tdiv (n:=N) (d:=D) hD hN1 hN2;have k1:Hid ((Rat.divInt (N) (D)).num=Int.tdiv (N) ((Int.gcd (N) (D):Nat):Int)):=g4;have g8:Int.tdiv (D) ((Int.gcd (N) (D):Nat):Int)=(D) / ((Int.gcd (N) (D):Nat):Int):=Int.tdiv_eq_ediv_of_nonneg (by omega);have k2:Hid ((((Rat.divInt (N) (D)).den:Nat):Int)=Int.tdiv (D) ((Int.gcd (N) (D):Nat):Int)):=g5.trans g8.symm;have g6:0≤(D) / ((Int.gcd (N) (D):Nat):Int):=Int.ediv_nonneg (by omega) (by omega);have g7:(D) / ((Int.gcd (N) (D):Nat):Int)≤(D):=Int.ediv_le_self _ (by omega);rw [←g8] at g6 g7;have g9:Int.tdiv (D) ((Int.gcd (N) (D):Nat):Int)≤9223372036854775807:=by omega
 have g10:-9223372036854775807≤Int.tdiv (D) ((Int.gcd (N) (D):Nat):Int):=by omega
 have hw:IntKind.i64.wrap (Int.tdiv (D) ((Int.gcd (N) (D):Nat):Int))=Int.tdiv (D) ((Int.gcd (N) (D):Nat):Int):=IntWalk.i64_in _ (by omega);have hwn:IntKind.i64.wrap (Int.tdiv (N) ((Int.gcd (N) (D):Nat):Int))=Int.tdiv (N) ((Int.gcd (N) (D):Nat):Int):=IntWalk.i64_in _ (by omega);clear g4 g5 g8 g7 g6;generalize Rat.divInt (N) (D)=r at *;have t0:(n == -9223372036854775808)=false:=beq_eq_false_iff_ne.2 (by omega);have t1:(d == -9223372036854775808)=false:=beq_eq_false_iff_ne.2 (by omega);have t2:(d == 0)=false:=beq_eq_false_iff_ne.2 (by omega);have t3:decide (d<0)=true:=by simp;omega
 go_enter Tryz.func193,Tryz.ntmps193;go_wp2_with fail
 rw [eN.out,eD.out];refine (divisor_any _ _ _ (by omega) (by omega) (by omega) (by omega)).mono ?_;rintro e w1 ⟨rfl,nq,rfl⟩;clear t0 t1 t2 t3;go_wp2_with fail
 go_region_with ((go_at_call 203;refine (fitting_any _ _ r _ g2 g3 k1 k2).mono ?_;rintro e w1 ⟨rfl,hb⟩;obtain ⟨hc,hf⟩:=bcell hb;have hz:=bsz (k:=w.heap.size) hb (by simp)))
 all_goals
  go_wp2;refine bodyPost_ret (v:=.tuple #[.agg #[.int .i64 (Wnum.oN (some r)),.int .i64 (Wnum.oD (some r))],.bool (Wnum.oB (some r))]) (by simp [results,Tryz.results193,go_sem,hc]) rfl ⟨rfl,?_⟩;exact (by with_reducible repeat (first | exact Below.refl _ _ | refine below_drewN ?_ _ | refine Below.setCell ?_ (by first | (simp;done) | (simp;omega) | omega) _ | refine Below.drew ?_ | refine below_end ?_ (by assumption) | refine ball ?_ _))
theorem make_neg (n d:Int) (w:World) (h1:-9223372036854775807≤n) (h2:n≤9223372036854775807) (h3:-9223372036854775807≤d) (h4:d ≤ -1) :
  Calls Tryz.prog 193 #[.int .i64 n,.int .i64 d] w fun e w'=>e=.returned (.tuple #[.agg #[.int .i64 (Wnum.oN (some (Rat.divInt (-n) (-d)))),.int .i64 (Wnum.oD (some (Rat.divInt (-n) (-d))))],.bool (Wnum.oB (some (Rat.divInt (-n) (-d))))])∧Below w.heap.size w w' :=
 make_neg' n d (-n) (-d) w (rfl:-n = -n) (rfl:-d = -d) h1 h2 h3 h4 (by omega) (by omega) (by omega) (by omega)
theorem make_zero (n:Int) (w:World) (h1:-9223372036854775807≤n) (h2:n≤9223372036854775807) :
  Calls Tryz.prog 193 #[.int .i64 n,.int .i64 0] w fun e w'=>e=.returned (.tuple #[.agg #[.int .i64 0,.int .i64 0],.bool false])∧Below w.heap.size w w':=by
 have t0:(n == -9223372036854775808)=false:=beq_eq_false_iff_ne.2 (by omega);go_enter Tryz.func193,Tryz.ntmps193;go_wp2;refine bodyPost_ret (v:=.tuple #[.agg #[.int .i64 0,.int .i64 0],.bool false]) (by simp [results,Tryz.results193,go_sem]) rfl ⟨rfl,?_⟩;exact (by with_reducible repeat (first | exact Below.refl _ _ | refine below_drewN ?_ _ | refine Below.setCell ?_ (by first | (simp;done) | (simp;omega) | omega) _ | refine Below.drew ?_ | refine below_end ?_ (by assumption) | refine ball ?_ _))
theorem make_most (n d:Int) (w:World) (h1:-9223372036854775807≤n) (h2:n≤9223372036854775807) (h3:-9223372036854775807≤d) (h4:d≤9223372036854775807) :
  Calls Tryz.prog 193 #[.int .i64 n,.int .i64 d] w fun e w'=>e=.returned (.tuple #[.agg #[.int .i64 (Wnum.oN (Wnum.mk n d)),.int .i64 (Wnum.oD (Wnum.mk n d))],.bool (Wnum.oB (Wnum.mk n d))])∧Below w.heap.size w w':=by
 rcases Int.lt_trichotomy d 0 with h | h | h
 ·rw [Wnum.mk_pos (show d ≠ 0 by omega),←Rat.neg_divInt_neg];exact make_neg n d w h1 h2 h3 (by omega)
 ·subst h;rw [Wnum.mk_zero];exact make_zero n w h1 h2
 ·rw [Wnum.mk_pos (show d ≠ 0 by omega)];exact make_pos n d w h1 h2 (by omega) h4
theorem made_any (m:Bool) (n d:Int) (w:World) (h1:0≤n) (h2:n≤18446744073709551615) (h3:1≤d) (h4:d≤18446744073709551615) :
  Calls Tryz.prog 133 #[.bool m,.int .u64 n,.int .u64 d] w fun e w'=>e=.returned (.tuple #[.agg #[.int .i64 (Wnum.oN (some (Rat.divInt (if m=true then -n else n) d))),.int .i64 (Wnum.oD (some (Rat.divInt (if m=true then -n else n) d)))],.bool (Wnum.oB (some (Rat.divInt (if m=true then -n else n) d)))])∧Below w.heap.size w w':=by
 cases m
 ·exact made_pos n d w h1 h2 h3 h4
 ·exact made_neg n d w h1 h2 h3 h4
end Go.Proofs.YtlggnpohhahdlaaGreatDoor
namespace Go.Proofs.YtlggnpohhahdlaaGreatDoor.Wnum
def minusB (s:ByteArray):Bool:=decide (0<s.size∧bt s 0=45)
def body (s:ByteArray):ByteArray:=if minusB s=true then s.extract 1 s.size else s
def sgnd (b:Bool) (n:Int):Int:=if b=true then -n else n
def rdO (s:ByteArray):Option Rat:=if fB (body s)=true then mk (sgnd (minusB s) (fN (body s))) (fD (body s)) else none
def aOf (s:ByteArray):Nat:=if minusB s=true then 1 else 0
theorem body_facts (s:ByteArray):(body s).size=s.size - aOf s∧(∀ i,bt (body s) i=bt s (aOf s+i))∧aOf s≤s.size:=by
 unfold body aOf;cases h:minusB s with
 | true =>
  have:=(of_decide_eq_true h).1;obtain ⟨h1,h2⟩:=sub_facts (t:=s) (p:=1) (by omega);exact ⟨h1,h2,by show 1≤s.size;omega⟩
 | false=>exact ⟨rfl,fun i=>by show bt s i=bt s (0+i);rw [Nat.zero_add],Nat.zero_le _⟩
theorem fS_facts {t:ByteArray} (h:dk t 0<t.size):(fS t).size=t.size - (dk t 0+1)∧∀ i,bt (fS t) i=bt t (dk t 0+1+i):=by
 obtain ⟨h1,h2⟩:=sub_facts (t:=t) (p:=dk t 0) (by omega);obtain ⟨h3,h4⟩:=sub_facts (t:=t.extract (dk t 0) t.size) (p:=1) (by omega);refine ⟨?_,fun i=>?_⟩
 ·show ((t.extract (dk t 0) t.size).extract 1 (t.extract (dk t 0) t.size).size).size=_
  rw [h3,h1];omega
 ·show bt ((t.extract (dk t 0) t.size).extract 1 (t.extract (dk t 0) t.size).size) i=_
  rw [h4,h2,show dk t 0+(1+i)=dk t 0+1+i by omega]
theorem f_bd (t:ByteArray):0≤fN t∧fN t≤1000000000001000000∧0≤fD t∧fD t≤1000000000000000000:=by
 cases hf:fB t with
 | false=>rw [(f_false hf).1,(f_false hf).2];omega
 | true =>
  cases hb:dB t 0 with
  | false=>rw [f_none hb] at hf;cases hf
  | true =>
   obtain ⟨b1,b2,b3⟩:=dB_bd hb;by_cases e:dk t 0=t.size
   ·rw [(f_whole hb e).2.1,(f_whole hb e).2.2];omega
   ·by_cases c:fC t=46
    ·obtain ⟨g0,g1,g2⟩:=f_point hb e c;rw [g0] at hf;have hp:=hf;unfold plB at hp;simp only [Bool.and_eq_true,decide_eq_true_iff] at hp;obtain ⟨⟨⟨p1,p2⟩,p3⟩,p4⟩:=hp;have sm:=say_small (s:=fS t) (i:=0) (dk (fS t) 0) (dk_all (fS t) 0);have t1:=tenP_le6 (k:=(fS t).size) p1;have t2:=tenP_pos (fS t).size;have sv:dv (fS t) 0<tenP (fS t).size:=by unfold dv;rw [p4] at sm ⊢;exact sm
     have s0:=dv_nonneg (fS t) 0;rw [g1,g2,(pl_true hf).1,(pl_true hf).2];have m1:0≤dv t 0 * tenP (fS t).size:=Int.mul_nonneg b2 (by omega);have m2:dv t 0 * tenP (fS t).size≤1000000000000 * 1000000:=Int.mul_le_mul p2 t1 (by omega) (by omega);omega
    ·by_cases c':fC t=47
     ·obtain ⟨g0,g1⟩:=f_over hb e c';have hd:dB (fS t) 0=true:=by rw [g0,Bool.and_eq_true] at hf;exact hf.1
      obtain ⟨d1,d2,d3⟩:=dB_bd hd;rw [(g1 hf).1,(g1 hf).2];omega
     ·rw [f_other hb e c c'] at hf;cases hf
theorem r_none {s:ByteArray} (h:dB s (aOf s)=false):rdO s=none:=by
 obtain ⟨h1,h2,h3⟩:=body_facts s;have e:=(same_from h1 h2 0).2.2;rw [Nat.add_zero,h] at e;unfold rdO;rw [f_none e];rfl
theorem r_whole {s:ByteArray} (h:dB s (aOf s)=true) (e:aOf s+dk s (aOf s)=s.size):rdO s=mk (sgnd (minusB s) (dv s (aOf s))) 1:=by
 obtain ⟨h1,h2,h3⟩:=body_facts s;obtain ⟨k1,k2,k3⟩:=same_from h1 h2 0;rw [Nat.add_zero] at k1 k2 k3;obtain ⟨f0,f1,f2⟩:=f_whole (t:=body s) (by rw [k3,h]) (by rw [k1,h1];omega);unfold rdO;rw [f0,f1,f2,k2];rfl
theorem r_more {s:ByteArray} (h:dB s (aOf s)=true) (e:aOf s+dk s (aOf s)<s.size) :
  (¬ (dB s (aOf s+dk s (aOf s)+1)=true∧aOf s+dk s (aOf s)+1+dk s (aOf s+dk s (aOf s)+1)=s.size)→rdO s=none) ∧
  (dB s (aOf s+dk s (aOf s)+1)=true→aOf s+dk s (aOf s)+1+dk s (aOf s+dk s (aOf s)+1)=s.size →
   (bt s (aOf s+dk s (aOf s))=47→rdO s=mk (sgnd (minusB s) (dv s (aOf s))) (dv s (aOf s+dk s (aOf s)+1))) ∧
   (¬ bt s (aOf s+dk s (aOf s))=47→¬ bt s (aOf s+dk s (aOf s))=46→rdO s=none) ∧
   (bt s (aOf s+dk s (aOf s))=46→(6<dk s (aOf s+dk s (aOf s)+1) ∨ 1000000000000<dv s (aOf s))→rdO s=none) ∧
   (bt s (aOf s+dk s (aOf s))=46→dk s (aOf s+dk s (aOf s)+1)≤6→dv s (aOf s)≤1000000000000 →
    rdO s=mk (sgnd (minusB s) (dv s (aOf s) * tenP (dk s (aOf s+dk s (aOf s)+1))+dv s (aOf s+dk s (aOf s)+1))) (tenP (dk s (aOf s+dk s (aOf s)+1))))):=by
 obtain ⟨h1,h2,h3⟩:=body_facts s;obtain ⟨k1,k2,k3⟩:=same_from h1 h2 0;rw [Nat.add_zero] at k1 k2 k3;have hb:dB (body s) 0=true:=by rw [k3,h]
 have hlt:dk (body s) 0<(body s).size:=by rw [k1,h1];omega
 have hne:¬ dk (body s) 0=(body s).size:=by omega
 obtain ⟨g1,g2⟩:=fS_facts hlt;have hC:fC (body s)=bt s (aOf s+dk s (aOf s)):=by unfold fC;rw [h2,k1]
 have hS:(fS (body s)).size=s.size - (aOf s+dk s (aOf s)+1):=by rw [g1,h1,k1];omega
 have hT:∀ i,bt (fS (body s)) i=bt s (aOf s+dk s (aOf s)+1+i):=fun i=>by
  rw [g2,h2,k1,show aOf s+(dk s (aOf s)+1+i)=aOf s+dk s (aOf s)+1+i by omega]
 obtain ⟨l1,l2,l3⟩:=same_from hS hT 0;rw [Nat.add_zero] at l1 l2 l3;generalize hi:aOf s+dk s (aOf s)+1=i1 at *;have lk:=dk_le s i1;have sz:(fS (body s)).size=dk s i1 ↔ i1+dk s i1=s.size:=by rw [hS];omega
 have hpl:plB (fS (body s)) (dv (body s) 0)=(decide ((fS (body s)).size≤6) && decide (dv s (aOf s)≤1000000000000) && dB s i1 && decide (dk s i1=(fS (body s)).size)):=by unfold plB;rw [k2,l3,l1]
 constructor
 ·intro hn;have hf:fB (body s)=false:=by
   by_cases c:fC (body s)=46
   ·rw [(f_point hb hne c).1,hpl];by_cases g:dB s i1=true
    ·have:¬ dk s i1=(fS (body s)).size:=fun x=>hn ⟨g,sz.1 x.symm⟩
     rw [decide_eq_false this,Bool.and_false]
    ·rw [Bool.not_eq_true] at g;rw [g,Bool.and_false,Bool.false_and]
   ·by_cases c':fC (body s)=47
    ·rw [(f_over hb hne c').1,l3,l1];by_cases g:dB s i1=true
     ·have:¬ dk s i1=(fS (body s)).size:=fun x=>hn ⟨g,sz.1 x.symm⟩
      rw [decide_eq_false this,Bool.and_false]
     ·rw [Bool.not_eq_true] at g;rw [g,Bool.false_and]
    ·exact f_other hb hne c c'
  unfold rdO;rw [hf];rfl
 ·intro hd he;have es:=sz.2 he;have esd:decide (dk s i1=(fS (body s)).size)=true:=decide_eq_true es.symm;refine ⟨fun c=>?_,fun c c'=>?_,fun c hw=>?_,fun c w1 w2=>?_⟩
  ·obtain ⟨f0,f1⟩:=f_over hb hne (hC.trans c);have hf:fB (body s)=true:=by rw [f0,l3,l1,hd,esd];rfl
   unfold rdO;rw [hf,(f1 hf).1,(f1 hf).2,k2,l2];rfl
  ·have hf:=f_other hb hne (by rw [hC];exact c') (by rw [hC];exact c);unfold rdO;rw [hf];rfl
  ·have hf:fB (body s)=false:=by
    rw [(f_point hb hne (hC.trans c)).1,hpl];rcases hw with hw | hw
    ·rw [decide_eq_false (p:=(fS (body s)).size≤6) (by omega)];rfl
    ·rw [decide_eq_false (p:=dv s (aOf s)≤1000000000000) (by omega),Bool.and_false];rfl
   unfold rdO;rw [hf];rfl
  ·obtain ⟨f0,f1,f2⟩:=f_point hb hne (hC.trans c);have hp:plB (fS (body s)) (dv (body s) 0)=true:=by rw [hpl,hd,esd,decide_eq_true (show (fS (body s)).size≤6 by omega),decide_eq_true w2];rfl
   unfold rdO;rw [f0,hp,f1,f2,(pl_true hp).1,(pl_true hp).2,k2,l2,es];rfl
end Go.Proofs.YtlggnpohhahdlaaGreatDoor.Wnum
namespace Go.Proofs.YtlggnpohhahdlaaGreatDoor
open Go.RowKit
set_option linter.unusedVariables false
theorem pre_iff (s:ByteArray) (h:0<s.size):((s.extract 0 1).toList == [(45:UInt8)])=decide (Wnum.bt s 0=45):=by
 rw [ByteArray.toList_eq];obtain ⟨⟨l⟩⟩:=s;cases l with
 | nil=>exact absurd h (Nat.lt_irrefl 0)
 | cons b l =>
  have e:((ByteArray.mk ⟨b::l⟩).extract 0 1).data.toList=[b]:=by simp
  rw [e];have e2:Wnum.bt (ByteArray.mk ⟨b::l⟩) 0=(b.toNat:Int):=rfl;rw [e2];by_cases hb:b=45
  ·subst hb;rfl
  ·have h1:([b] == [(45:UInt8)])=false:=by simp [hb]
   have h2:¬ ((b.toNat:Nat):Int)=45:=fun x=>hb (UInt8.toNat_inj.1 (by
     have:b.toNat=45:=by omega
     rw [this];rfl))
   rw [h1,decide_eq_false h2]
theorem cut_any (s:ByteArray) (w:World) (hs:s.size≤9223372036854775807) :
  Calls Tryz.prog 174 #[.string s,.string ⟨#[45]⟩] w fun e w'=>e=.returned (.tuple #[.string (Wnum.body s),.bool (Wnum.minusB s)])∧w=w':=by
 by_cases h0:0<s.size
 ·have hx:=pre_iff s h0;by_cases hc:Wnum.bt s 0=45
  ·have m:Wnum.minusB s=true:=decide_eq_true ⟨h0,hc⟩;have e:Wnum.body s=s.extract 1 s.size:=by unfold Wnum.body;rw [m];rfl
   rw [m,e];rw [decide_eq_true hc] at hx;have h1:(1:Int)≤(s.size:Int):=by omega
   clear m e hc;go_enter Tryz.func174,Tryz.ntmps174;go_wp2;go_ret2
   exact ⟨rfl,rfl⟩
  ·have m:Wnum.minusB s=false:=decide_eq_false (fun x=>hc x.2);have e:Wnum.body s=s:=by unfold Wnum.body;rw [m];rfl
   rw [m,e];rw [decide_eq_false hc] at hx;have h1:(1:Int)≤(s.size:Int):=by omega
   clear m e hc;go_enter Tryz.func174,Tryz.ntmps174;go_wp2;go_ret2
   exact ⟨rfl,rfl⟩
 ·have m:Wnum.minusB s=false:=decide_eq_false (fun x=>h0 x.1);have e:Wnum.body s=s:=by unfold Wnum.body;rw [m];rfl
  rw [m,e];have h1:decide ((1:Int)≤(s.size:Int))=false:=decide_eq_false (by omega);clear m e;go_enter Tryz.func174,Tryz.ntmps174;go_wp2;go_ret2
  exact ⟨rfl,rfl⟩
theorem read_any (s:ByteArray) (w:World) (hs:s.size≤9223372036854775807) :
  Calls Tryz.prog 176 #[.string s] w fun e w'=>e=.returned (.tuple #[.agg #[.int .i64 (Wnum.oN (Wnum.rdO s)),.int .i64 (Wnum.oD (Wnum.rdO s))],.bool (Wnum.oB (Wnum.rdO s))])∧Below w.heap.size w w':=by
 have C:=fun w=>cut_any s w hs
 have hbs:(Wnum.body s).size≤9223372036854775807:=by have:=(Wnum.body_facts s).1;omega
 have R:=fun w=>readFraction_any (Wnum.body s) w hbs
 obtain ⟨b1,b2,b3,b4⟩:=Wnum.f_bd (Wnum.body s);cases hf:Wnum.fB (Wnum.body s) with
 | false =>
  have e:Wnum.rdO s=none:=by unfold Wnum.rdO;rw [hf];rfl
  rw [e];rw [hf,(Wnum.f_false hf).1,(Wnum.f_false hf).2] at R;clear e hf b1 b2 b3 b4 hbs;generalize Wnum.body s=t at *;generalize Wnum.minusB s=m at *;go_enter Tryz.func176,Tryz.ntmps176;go_wp2_with fail
  refine (C _).mono ?_;rintro e w1 ⟨rfl,rfl⟩;go_wp2_with fail
  refine (R _).mono ?_;rintro e w1 ⟨rfl,k1,rfl⟩;go_wp2;refine bodyPost_ret (v:=.tuple #[.agg #[.int .i64 0,.int .i64 0],.bool false]) (by simp [results,Tryz.results176,go_sem]) rfl ⟨rfl,?_⟩;exact (by with_reducible repeat (first | exact Below.refl _ _ | refine below_drewN ?_ _ | refine Below.setCell ?_ (by first | (simp;done) | (simp;omega) | omega) _ | refine Below.drew ?_ | refine below_end ?_ (by assumption) | refine ball ?_ _))
 | true =>
  have e:Wnum.rdO s=Wnum.mk (Wnum.sgnd (Wnum.minusB s) (Wnum.fN (Wnum.body s))) (Wnum.fD (Wnum.body s)):=by unfold Wnum.rdO;rw [hf];rfl
  rw [e];rw [hf] at R;clear e hf hbs;generalize Wnum.fN (Wnum.body s)=n at *;generalize Wnum.fD (Wnum.body s)=d at *;generalize Wnum.body s=t at *;cases hm:Wnum.minusB s with
  | false =>
   rw [hm] at C;have M:=fun w=>make_most n d w (by omega) (by omega) (by omega) (by omega)
   rw [show Wnum.sgnd false n=n from rfl];generalize Wnum.mk n d=o at *;clear hm;go_enter Tryz.func176,Tryz.ntmps176;go_wp2_with fail
   refine (C _).mono ?_;rintro e w1 ⟨rfl,rfl⟩;go_wp2_with fail
   refine (R _).mono ?_;rintro e w1 ⟨rfl,k1,rfl⟩;go_wp2_with fail
   refine (M _).mono ?_;rintro e w2 ⟨rfl,hb2⟩;have pC:At w2 w.heap.size (.int .i64 0) (.int .i64 0):=At.below hb2 (At.drewN (At.new w _ rfl _ _) _);have hB:Below w.heap.size w w2:=below_end (below_drewN ((Below.refl _ w).alloc (Nat.le_refl _) _) _) hb2;obtain ⟨c1,c2,c3,c4⟩:=pC;go_wp2;refine bodyPost_ret (v:=.tuple #[.agg #[.int .i64 (Wnum.oN o),.int .i64 (Wnum.oD o)],.bool (Wnum.oB o)]) (by simp [results,Tryz.results176,go_sem,c1,c2]) rfl ⟨rfl,?_⟩;exact put_below hB (by omega) _ _
  | true =>
   rw [hm] at C;have M:=fun w=>make_most (-n) d w (by omega) (by omega) (by omega) (by omega)
   rw [show Wnum.sgnd true n = -n from rfl];generalize Wnum.mk (-n) d=o at *;clear hm;go_enter Tryz.func176,Tryz.ntmps176;go_wp2_with fail
   refine (C _).mono ?_;rintro e w1 ⟨rfl,rfl⟩;go_wp2_with fail
   refine (R _).mono ?_;rintro e w1 ⟨rfl,k1,rfl⟩;go_wp2_with fail
   refine (M _).mono ?_;rintro e w2 ⟨rfl,hb2⟩;have pC:At w2 w.heap.size (.int .i64 0) (.int .i64 0):=At.below hb2 (At.drewN (At.new w _ rfl _ _) _);have hB:Below w.heap.size w w2:=below_end (below_drewN ((Below.refl _ w).alloc (Nat.le_refl _) _) _) hb2;obtain ⟨c1,c2,c3,c4⟩:=pC;go_wp2;refine bodyPost_ret (v:=.tuple #[.agg #[.int .i64 (Wnum.oN o),.int .i64 (Wnum.oD o)],.bool (Wnum.oB o)]) (by simp [results,Tryz.results176,go_sem,c1,c2]) rfl ⟨rfl,?_⟩;exact put_below hB (by omega) _ _
def fNames:List (List UInt8):=[[],[35,68,73,86,47,48,33],[35,86,65,76,85,69,33],[35,82,69,70,33],[35,78,85,77,33],[35,78,47,65],[35,67,73,82,67,76,69,33],[35,76,79,78,71,33],[35,65,82,71,33]]
def fltR:List Value:=fNames.map fun x=>.string ⟨x.toArray⟩
def FltAt (w:World):Prop:=w.rangeAt 1 0 fltR
theorem FltAt.below {w w':World} (h:FltAt w) (hb:Below w.heap.size w w'):FltAt w':=fun j v hv=>cell_below hb (h j v hv)
theorem flt_index:∀ (j:Nat) (h:j<fNames.length) (w:World),(Instr.index 168 (.agg fltR.toArray) (.int .i64 (j:Int))).run Tryz.prog w=.ok (.string ⟨(fNames[j]).toArray⟩) w
 | 0,_,w=>by kernel_rfl
 | 1,_,w=>by kernel_rfl
 | 2,_,w=>by kernel_rfl
 | 3,_,w=>by kernel_rfl
 | 4,_,w=>by kernel_rfl
 | 5,_,w=>by kernel_rfl
 | 6,_,w=>by kernel_rfl
 | 7,_,w=>by kernel_rfl
 | 8,_,w=>by kernel_rfl
 | j+9,h,w=>absurd h (by show ¬ j+9<9;omega)
def fi (s:List UInt8):Nat→List (List UInt8)→Nat
 | _,[]=>0
 | j,n::r=>if n=s then j else fi s (j+1) r
theorem readFault_any (s:ByteArray) (w:World) (hF:FltAt w):Calls Tryz.prog 180 #[.string s] w fun e w'=>e=.returned (.int .i64 (fi s.toList 0 fNames:Nat))∧w=w':=by
 obtain ⟨R,hR⟩:∃ R,fi s.toList 0 fNames=R:=⟨_,rfl⟩
 have E0:Hid (R=fi s.toList 0 (fNames.drop 0)):=hR.symm;rw [hR];clear hR;have hF2:World.rangeAt w 1 0 fltR:=hF;go_enter Tryz.func180,Tryz.ntmps180;go_upto_region 1 with fail
 go_wp2_with ((with_reducible refine wpList_load_mid (cs:=fltR) ?_ 168 (.global 1) ?_ 1 0 ?_ _ hF2 Tryz.underlying168 ?_ ?_ ?_);rfl;rfl;rfl;rfl;kernel_rfl)
 go_loopg [6] 9 (fun gk x wr=>∃ j:Nat,x=.int .i64 j∧gk=9 - j∧j≤9∧Hid (R=fi s.toList j (fNames.drop j))∧wr=w)
 case atStart=>exact ⟨0,rfl,rfl,Nat.zero_le _,E0,rfl⟩
 case round =>
  obtain ⟨j,rfl,hg,hj,HR,rfl⟩:=hrel;by_cases hlt:j<9
  ·have hli:(j:Int)<9:=by omega
   have hix:=flt_index j hlt;have hd:=List.drop_eq_getElem_cons (l:=fNames) hlt;generalize fNames[j]=x at *;rw [hd] at HR;clear hd;by_cases hm:x=s.toList
   ·have E:Hid (R=j):=by show _=_;rw [HR.out,fi,if_pos hm]
    subst hm;clear HR;go_wp2;go_ret;exact ⟨by rw [E.out];rfl,rfl⟩
   ·have hm4:(x == s.toList)=false:=by simp [hm]
    have E:Hid (R=fi s.toList (j+1) (fNames.drop (j+1))):=by show _=_;rw [HR.out,fi,if_neg hm]
    clear HR;go_wp2_with fail
    go_roundg (9 - (j+1))
    case rel=>exact ⟨j+1,by simp,rfl,hlt,E,by first | trivial | rfl⟩
    case measure=>omega
  ·have hli:¬ (j:Int)<9:=by omega
   have E:Hid (R=0):=by
    show _=_
    rw [HR.out,List.drop_eq_nil_of_le (by show 9≤j;omega)];rfl
   clear HR;go_wp2;go_ret;exact ⟨by rw [E.out];rfl,rfl⟩
theorem readTruth_none (s:ByteArray) (w:World) (h1:¬ s.toList=[84,82,85,69]) (h2:¬ s.toList=[70,65,76,83,69]):Calls Tryz.prog 178 #[.string s] w fun e w'=>e=.returned (.tuple #[.bool false,.bool false])∧w=w':=by
 have h1':(s.toList == [84,82,85,69])=false:=by simp [h1]
 have h2':(s.toList == [70,65,76,83,69])=false:=by simp [h2]
 go_enter Tryz.func178,Tryz.ntmps178;go_wp2;go_ret2
 exact ⟨rfl,rfl⟩
theorem cutq_none (s:ByteArray) (w:World) (h0:0<s.size) (hx:((s.extract 0 1).toList == [39])=false) :
  Calls Tryz.prog 174 #[.string s,.string ⟨#[39]⟩] w fun e w'=>e=.returned (.tuple #[.string s,.bool false])∧w=w':=by
 have h1:(1:Int)≤(s.size:Int):=by omega
 go_enter Tryz.func174,Tryz.ntmps174;go_wp2;go_ret2
 exact ⟨rfl,rfl⟩
theorem vRead_of (s:ByteArray) (c:Nat) (w:World) (hF:FltAt w) (h0:0<s.size) (hs:s.size≤1024) (hx:((s.extract 0 1).toList == [39])=false) (hr:Wnum.rdO s=none) (h1:¬ s.toList=[84,82,85,69]) (h2:¬ s.toList=[70,65,76,83,69]) (hc:fi s.toList 0 fNames=c) (hc1:1≤c) (hc8:c≤8) :
  Calls Tryz.prog 155 #[.string s] w fun e w'=>e=.returned (vlV ⟨4,0,0,⟨#[]⟩,false,c⟩)∧Below w.heap.size w w':=by
 have hne:s.toList.isEmpty=false:=empty_of (fun e=>by subst e;exact absurd h0 (by decide));have C1:=fun w=>cutq_none s w h0 hx
 have C2:=fun w=>read_any s w (by omega)
 rw [hr] at C2;have C3:=fun w=>readTruth_none s w h1 h2
 have C4:=fun w h=>readFault_any s w h
 rw [hc] at C4;have C5:=fun w=>vFault_any (c:Int) w
 have e5:vFault (c:Int)=⟨4,0,0,⟨#[]⟩,false,c⟩:=by
  unfold vFault Wv.flt;rw [decide_eq_true (by omega),decide_eq_true (by omega)];rfl
 rw [e5] at C5;clear e5 hx hr hc;simp only [vlV,vl6] at C5;have eo:Wnum.oB (none:Option Rat)=false:=rfl;have en:Wnum.oN (none:Option Rat)=0:=rfl;have ed:Wnum.oD (none:Option Rat)=0:=rfl;rw [eo,en,ed] at C2;have hcn:((c:Int) == 0)=false:=by rw [beq_eq_false_iff_ne];omega
 have pR:=vlz w;have hB0:=ball (Below.refl _ w) (.cells #[.int .i64 0,.int .i64 0,.int .i64 0,.string ⟨#[]⟩,.bool false,.int .i64 0] 41);have hF0:=hF.below hB0;go_enter Tryz.func155,Tryz.ntmps155;go_wp2_with fail
 refine (C1 _).mono ?_;rintro e w1 ⟨rfl,rfl⟩;go_wp2_with fail
 refine (C2 _).mono ?_;rintro e w2 ⟨rfl,hb⟩;have pR1:=AtL.below hb pR;have hB1:=below_end hB0 hb;have hF1:=hF0.below hb;clear pR hB0 hF0 hb;go_wp2_with fail
 refine (C3 _).mono ?_;rintro e w3 ⟨rfl,rfl⟩;have hF2:=hF1.below ((Below.refl _ _).alloc (Nat.le_refl _) (.cells #[.int .i64 0,.int .i64 0] 39));go_wp2_with fail
 refine (C4 _ hF2).mono ?_;rintro e w3 ⟨rfl,rfl⟩;go_wp2_with fail
 refine (C5 _).mono ?_;rintro e w4 ⟨rfl,hb⟩;have pR2:=AtL.below hb (AtL.alloc pR1 _);have hB2:=below_end (ball hB1 _) hb;obtain ⟨c0,c1,c2,c3,c4,c5⟩:=pR2.f6;have g0:=pR2.2.2 0 (by decide);have g1:=pR2.2.2 1 (by decide);have g2:=pR2.2.2 2 (by decide);have g3:=pR2.2.2 3 (by decide);have g4:=pR2.2.2 4 (by decide);have g5:=pR2.2.2 5 (by decide);go_wp2;refine bodyPost_ret (v:=vlV ⟨4,0,0,⟨#[]⟩,false,c⟩) (by simp [results,Tryz.results155,go_sem,vlV,vl6, *]) rfl ⟨rfl,?_⟩;exact by with_reducible repeat (first | exact hB2 | refine ball ?_ _ | refine Below.setCell ?_ (by first | (simp;done) | (simp;omega) | omega) _ | refine Below.drew ?_ | refine below_drewN ?_ _)
end Go.Proofs.YtlggnpohhahdlaaGreatDoor
