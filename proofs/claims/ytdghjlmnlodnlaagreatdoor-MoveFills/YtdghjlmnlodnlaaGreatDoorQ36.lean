/- WalkRx, TQVal. -/
import Derived.Test.YtdghjlmnlodnlaaGreatDoorQ35
set_option maxHeartbeats 3200000
set_option maxRecDepth 100000
namespace Go.Proofs.YtdghjlmnlodnlaaGreatDoor
open Tryz
open Go.RowKit
set_option linter.unusedVariables false
theorem zBl (m:Bool) {n d:Int} (hn:0<=n) (hd:1<=d):some (Rat.divInt (if (m && decide (0<n))=true then -n else n) d)=Wnum.mk (Wnum.sgnd m n) d:=by
 rw [Wnum.mk_pos (by omega)];unfold Wnum.sgnd;cases m with
 | false=>rfl
 | true =>
  by_cases h:0<n
  ·rw [decide_eq_true h];rfl
  ·have:n=0:=by omega
   subst this;rfl
theorem zDu (s:ByteArray) (w:World) (hs:s.size<=9223372036854775807) :
  CR 125 #[.string s] w (.tuple #[.agg #[.int .i64 (Wnum.oN (Wnum.rdO s)),.int .i64 (Wnum.oD (Wnum.rdO s))],.bool (Wnum.oB (Wnum.rdO s))]):=by
 obtain ⟨o,O⟩:∃ o,Hid (Wnum.rdO s=o):=⟨_,(rfl:Wnum.rdO s=_)⟩
 obtain ⟨m,HM⟩:∃ m,Hid (Wnum.minusB s=m):=⟨_,(rfl:Wnum.minusB s=_)⟩
 obtain ⟨p,HP⟩:∃ p,Hid (Wnum.aOf s=p):=⟨_,(rfl:Wnum.aOf s=_)⟩
 have hp:p<=s.size:=by rw [<-HP.out];exact (Wnum.body_facts s).2.2
 rw [O.out];go_enter func125,ntmps125;go_upto_region 2 with fail
 go_cut [5] (λs5 wx=>s5=.bool m/\wx=w.alloc (.cells #[.int .i64 0,.int .i64 0] 24))
 case first =>
  by_cases h0:0<s.size
  ·have eb:=Wnum.bt_get h0;have h0':(0:Int)<(s.size:Int):=by omega
   by_cases hc:Wnum.bt s 0=45
   ·have e:m=true:=by rw [<-HM.out];exact decide_eq_true ⟨h0,hc⟩
    subst e;rw [hc] at eb;go_wp2;go_meet
    case rel=>exact ⟨rfl,rfl⟩
   ·have e:m=false:=by rw [<-HM.out];exact decide_eq_false (λx=>hc x.2)
    subst e;have hc':(Wnum.bt s 0 == 45)=false:=beq_eq_false_iff_ne.2 hc;go_wp2;go_meet
    case rel=>exact ⟨rfl,rfl⟩
  ·have e:m=false:=by rw [<-HM.out];exact decide_eq_false (λx=>h0 x.1)
   subst e;have h0':decide ((0:Int)<(s.size:Int))=false:=decide_eq_false (by omega);go_wp2;go_meet
   case rel=>exact ⟨rfl,rfl⟩
 case rest =>
  obtain ⟨h5,rfl⟩:=hcut;subst h5;go_upto_if 21 with fail
  go_cut [4] (λs4 wx=>s4=.int .i64 (p:Int)/\wx=w.alloc (.cells #[.int .i64 0,.int .i64 0] 24))
  case first =>
   cases m with
   | true =>
    have e:p=1:=by rw [<-HP.out];unfold Wnum.aOf;rw [HM.out];rfl
    subst e;go_wp2;go_meet
    case rel=>exact ⟨rfl,rfl⟩
   | false =>
    have e:p=0:=by rw [<-HP.out];unfold Wnum.aOf;rw [HM.out];rfl
    subst e;go_wp2;go_meet
    case rel=>exact ⟨rfl,rfl⟩
  case rest =>
   obtain ⟨h4,rfl⟩:=hcut;subst h4;have P:=λw=>zFp s p w hs hp
   cases hb:Wnum.dB s p with
   | false =>
    have e:o=none:=by rw [<-O.out];exact Wnum.r_none (by rw [HP.out];exact hb)
    subst e;rw [hb] at P;clear hb;generalize Wnum.pcN s p=x1 at *;generalize Wnum.pcI s p=x2 at *;go_wp2_with fail
    refine (P _).mono ?_;rintro e w1 ⟨rfl,rfl⟩;go_wp2;refine bodyPost_ret (v:=.tuple #[.agg #[.int .i64 0,.int .i64 0],.bool false]) (by simp [results,results125,go_sem]) rfl ⟨rfl,?_⟩;exact clA
   | true =>
    obtain ⟨b1,b2,b3⟩:=Wnum.dB_bd hb;have hk:=Wnum.dk_le s p;have eN:Wnum.pcN s p=Wnum.dv s p:=if_pos b3;have eI:Wnum.pcI s p=((p+Wnum.dk s p:Nat):Int):=if_pos b3;rw [hb,eN,eI] at P;have hb':Wnum.dB s (Wnum.aOf s)=true:=by rw [HP.out];exact hb
    by_cases ce:p+Wnum.dk s p=s.size
    ·have HO:Hid (Wnum.mk (Wnum.sgnd m (Wnum.dv s p)) 1=o):=by
      show _=_
      rw [<-O.out,Wnum.r_whole hb' (by rw [HP.out];exact ce),HM.out,HP.out]
     rw [ce] at P;generalize Wnum.dv s p=n at *;clear hb hb' ce eN eI hk b1;have sz:((s.size:Int) == (s.size:Int))=true:=beq_self_eq_true _;cases m with
     | false =>
      have M:=λw=>zBM (false && decide (0<n)) n 1 w (by omega) (by omega) (by omega) (by omega)
      rw [zBl _ (by omega) (by omega),HO.out] at M;rw [Bool.false_and] at M;go_wp2_with fail
      refine (P _).mono ?_;rintro e w1 ⟨rfl,rfl⟩;go_wp2_with fail
      refine (M _).mono ?_;rintro e w3 ⟨rfl,hb3⟩;obtain ⟨k1,k2,k3,k4⟩:=At.below hb3 (At.new w 24 rfl (.int .i64 0) (.int .i64 0));have qE:=zAA ((Below.refl _ w).alloc (Nat.le_refl _) (.cells #[.int .i64 0,.int .i64 0] 24)) hb3;go_wp2;refine bodyPost_ret (v:=.tuple #[.agg #[.int .i64 (Wnum.oN o),.int .i64 (Wnum.oD o)],.bool (Wnum.oB o)]) (by simp [results,results125,go_sem,k1,k2]) rfl ⟨rfl,?_⟩;exact zAW qE (by omega) _ _
     | true =>
      by_cases hn:0<n
      ·have M:=λw=>zBM (true && decide (0<n)) n 1 w (by omega) (by omega) (by omega) (by omega)
       rw [zBl _ (by omega) (by omega),HO.out] at M;rw [Bool.true_and,decide_eq_true hn] at M;go_wp2_with fail
       refine (P _).mono ?_;rintro e w1 ⟨rfl,rfl⟩;go_wp2_with fail
       refine (M _).mono ?_;rintro e w3 ⟨rfl,hb3⟩;obtain ⟨k1,k2,k3,k4⟩:=At.below hb3 (At.new w 24 rfl (.int .i64 0) (.int .i64 0));have qE:=zAA ((Below.refl _ w).alloc (Nat.le_refl _) (.cells #[.int .i64 0,.int .i64 0] 24)) hb3;go_wp2;refine bodyPost_ret (v:=.tuple #[.agg #[.int .i64 (Wnum.oN o),.int .i64 (Wnum.oD o)],.bool (Wnum.oB o)]) (by simp [results,results125,go_sem,k1,k2]) rfl ⟨rfl,?_⟩;exact zAW qE (by omega) _ _
      ·have M:=λw=>zBM (true && decide (0<n)) n 1 w (by omega) (by omega) (by omega) (by omega)
       rw [zBl _ (by omega) (by omega),HO.out] at M;rw [Bool.true_and,decide_eq_false hn] at M;have hn':decide (0<n)=false:=decide_eq_false hn;go_wp2_with fail
       refine (P _).mono ?_;rintro e w1 ⟨rfl,rfl⟩;go_wp2_with fail
       refine (M _).mono ?_;rintro e w3 ⟨rfl,hb3⟩;obtain ⟨k1,k2,k3,k4⟩:=At.below hb3 (At.new w 24 rfl (.int .i64 0) (.int .i64 0));have qE:=zAA ((Below.refl _ w).alloc (Nat.le_refl _) (.cells #[.int .i64 0,.int .i64 0] 24)) hb3;go_wp2;refine bodyPost_ret (v:=.tuple #[.agg #[.int .i64 (Wnum.oN o),.int .i64 (Wnum.oD o)],.bool (Wnum.oB o)]) (by simp [results,results125,go_sem,k1,k2]) rfl ⟨rfl,?_⟩;exact zAW qE (by omega) _ _
    ·have hlt:p+Wnum.dk s p<s.size:=by omega
     obtain ⟨r0,r1⟩:=Wnum.r_more hb' (by rw [HP.out];exact hlt);rw [HP.out] at r0;rw [HP.out,HM.out] at r1;have R0:Hid _:=r0;have R1:Hid _:=r1;clear r0 r1 hb hb' eN eI hk b1 ce;generalize Wnum.dv s p=n at *;generalize p+Wnum.dk s p=i at *;have Q:=λw=>zFp s (i+1) w hs (by omega)
     have ei:((i+1:Nat):Int)=(i:Int)+1:=by omega
     rw [ei] at Q;have ne:((i:Int) == (s.size:Int))=false:=beq_eq_false_iff_ne.2 (by omega);have k2:=Wnum.dk_le s (i+1);have eb:=Wnum.bt_get hlt;cases hg:Wnum.dB s (i+1) with
     | false =>
      have e:o=none:=by rw [<-O.out];exact R0.out (λx=>by rw [hg] at x;cases x.1)
      subst e;rw [hg] at Q;clear hg R0 R1 eb;generalize Wnum.pcN s (i+1)=x1 at *;generalize Wnum.pcI s (i+1)=x2 at *;go_wp2_with fail
      refine (P _).mono ?_;rintro e w1 ⟨rfl,rfl⟩;go_wp2_with fail
      refine (Q _).mono ?_;rintro e w1 ⟨rfl,rfl⟩;go_wp2;refine bodyPost_ret (v:=.tuple #[.agg #[.int .i64 0,.int .i64 0],.bool false]) (by simp [results,results125,go_sem]) rfl ⟨rfl,?_⟩;exact clA
     | true =>
      obtain ⟨g1,g2,g3⟩:=Wnum.dB_bd hg;have eN2:Wnum.pcN s (i+1)=Wnum.dv s (i+1):=if_pos g3;have eI2:Wnum.pcI s (i+1)=((i+1+Wnum.dk s (i+1):Nat):Int):=if_pos g3;rw [hg,eN2,eI2] at Q;by_cases ce:i+1+Wnum.dk s (i+1)=s.size
      ·obtain ⟨q1,q2,q3,q4⟩:=R1.out hg ce;have Q1:Hid _:=q1;have Q2:Hid _:=q2;have Q3:Hid _:=q3;have Q4:Hid _:=q4;rw [ce] at Q;clear q1 q2 q3 q4 R0 R1 hg eN2 eI2;have K:Hid (Wnum.dk s (i+1)=s.size - (i+1)):=(by omega:Wnum.dk s (i+1)=s.size - (i+1))
       clear ce k2 g1;generalize Wnum.dv s (i+1)=v at *;generalize Wnum.bt s i=c at *;have ne2:((s.size:Int) != (s.size:Int))=false:=by simp
       by_cases c47:c=47
       ·subst c47;by_cases hv:v=0
        ·subst hv;have e:o=none:=by rw [<-O.out,Q1.out rfl];exact Wnum.mk_zero _
         subst e;clear Q1 Q2 Q3 Q4;go_wp2_with fail
         refine (P _).mono ?_;rintro e w1 ⟨rfl,rfl⟩;go_wp2_with fail
         refine (Q _).mono ?_;rintro e w1 ⟨rfl,rfl⟩;go_wp2;refine bodyPost_ret (v:=.tuple #[.agg #[.int .i64 0,.int .i64 0],.bool false]) (by simp [results,results125,go_sem]) rfl ⟨rfl,?_⟩;exact clA
        ·have HO:Hid (Wnum.mk (Wnum.sgnd m n) v=o):=by show _=_;rw [<-O.out,Q1.out rfl]
         have hv':(v == 0)=false:=beq_eq_false_iff_ne.2 hv;clear Q1 Q2 Q3 Q4;cases m with
         | false =>
          have M:=λw=>zBM (false && decide (0<n)) n v w (by omega) (by omega) (by omega) (by omega)
          rw [zBl _ (by omega) (by omega),HO.out] at M;rw [Bool.false_and] at M;go_wp2_with fail
          refine (P _).mono ?_;rintro e w1 ⟨rfl,rfl⟩;go_wp2_with fail
          refine (Q _).mono ?_;rintro e w1 ⟨rfl,rfl⟩;go_wp2_with fail
          refine (M _).mono ?_;rintro e w3 ⟨rfl,hb3⟩;obtain ⟨k1,k2,k3,k4⟩:=At.below hb3 (At.new w 24 rfl (.int .i64 0) (.int .i64 0));have qE:=zAA ((Below.refl _ w).alloc (Nat.le_refl _) (.cells #[.int .i64 0,.int .i64 0] 24)) hb3;go_wp2;refine bodyPost_ret (v:=.tuple #[.agg #[.int .i64 (Wnum.oN o),.int .i64 (Wnum.oD o)],.bool (Wnum.oB o)]) (by simp [results,results125,go_sem,k1,k2]) rfl ⟨rfl,?_⟩;exact zAW qE (by omega) _ _
         | true =>
          by_cases hn:0<n
          ·have M:=λw=>zBM (true && decide (0<n)) n v w (by omega) (by omega) (by omega) (by omega)
           rw [zBl _ (by omega) (by omega),HO.out] at M;rw [Bool.true_and,decide_eq_true hn] at M;go_wp2_with fail
           refine (P _).mono ?_;rintro e w1 ⟨rfl,rfl⟩;go_wp2_with fail
           refine (Q _).mono ?_;rintro e w1 ⟨rfl,rfl⟩;go_wp2_with fail
           refine (M _).mono ?_;rintro e w3 ⟨rfl,hb3⟩;obtain ⟨k1,k2,k3,k4⟩:=At.below hb3 (At.new w 24 rfl (.int .i64 0) (.int .i64 0));have qE:=zAA ((Below.refl _ w).alloc (Nat.le_refl _) (.cells #[.int .i64 0,.int .i64 0] 24)) hb3;go_wp2;refine bodyPost_ret (v:=.tuple #[.agg #[.int .i64 (Wnum.oN o),.int .i64 (Wnum.oD o)],.bool (Wnum.oB o)]) (by simp [results,results125,go_sem,k1,k2]) rfl ⟨rfl,?_⟩;exact zAW qE (by omega) _ _
          ·have M:=λw=>zBM (true && decide (0<n)) n v w (by omega) (by omega) (by omega) (by omega)
           rw [zBl _ (by omega) (by omega),HO.out] at M;rw [Bool.true_and,decide_eq_false hn] at M;have hn':decide (0<n)=false:=decide_eq_false hn;go_wp2_with fail
           refine (P _).mono ?_;rintro e w1 ⟨rfl,rfl⟩;go_wp2_with fail
           refine (Q _).mono ?_;rintro e w1 ⟨rfl,rfl⟩;go_wp2_with fail
           refine (M _).mono ?_;rintro e w3 ⟨rfl,hb3⟩;obtain ⟨k1,k2,k3,k4⟩:=At.below hb3 (At.new w 24 rfl (.int .i64 0) (.int .i64 0));have qE:=zAA ((Below.refl _ w).alloc (Nat.le_refl _) (.cells #[.int .i64 0,.int .i64 0] 24)) hb3;go_wp2;refine bodyPost_ret (v:=.tuple #[.agg #[.int .i64 (Wnum.oN o),.int .i64 (Wnum.oD o)],.bool (Wnum.oB o)]) (by simp [results,results125,go_sem,k1,k2]) rfl ⟨rfl,?_⟩;exact zAW qE (by omega) _ _
       ·have c47':(c == 47)=false:=beq_eq_false_iff_ne.2 c47;by_cases c46:c=46
        ·subst c46;by_cases w6:6<s.size - (i+1)
         ·have e:o=none:=by rw [<-O.out];exact Q3.out rfl (Or.inl (by rw [K.out];exact w6))
          subst e;have w6':(6:Int)<(s.size:Int) - (i:Int) - 1:=by omega
          clear Q1 Q2 Q3 Q4 w6;go_wp2_with fail
          refine (P _).mono ?_;rintro e w1 ⟨rfl,rfl⟩;go_wp2_with fail
          refine (Q _).mono ?_;rintro e w1 ⟨rfl,rfl⟩;go_wp2;refine bodyPost_ret (v:=.tuple #[.agg #[.int .i64 0,.int .i64 0],.bool false]) (by simp [results,results125,go_sem]) rfl ⟨rfl,?_⟩;exact clA
         ·have w6':decide ((6:Int)<(s.size:Int) - (i:Int) - 1)=false:=decide_eq_false (by omega);by_cases wn:1000000000000<n
          ·have e:o=none:=by rw [<-O.out];exact Q3.out rfl (Or.inr wn)
           subst e;clear Q1 Q2 Q3 Q4;go_wp2_with fail
           refine (P _).mono ?_;rintro e w1 ⟨rfl,rfl⟩;go_wp2_with fail
           refine (Q _).mono ?_;rintro e w1 ⟨rfl,rfl⟩;go_wp2;refine bodyPost_ret (v:=.tuple #[.agg #[.int .i64 0,.int .i64 0],.bool false]) (by simp [results,results125,go_sem]) rfl ⟨rfl,?_⟩;exact clA
          ·have wn':decide (1000000000000<n)=false:=decide_eq_false wn;have q4:=Q4.out rfl (by rw [K.out];omega) (by omega);rw [K.out] at q4;have t1:=Wnum.tenP_le6 (k:=s.size - (i+1)) (by omega);have t2:=Wnum.tenP_pos (s.size - (i+1));have T:=λw=>zMF ((s.size:Int) - (i:Int) - 1) w (by omega) (by omega)
           rw [show ((s.size:Int) - (i:Int) - 1).toNat=s.size - (i+1) by omega] at T;generalize Wnum.tenP (s.size - (i+1))=ten at *;have HO:Hid (Wnum.mk (Wnum.sgnd m (n * ten+v)) ten=o):=by show _=_;rw [<-O.out,q4]
           have m1:0<=n * ten:=Int.mul_nonneg b2 (by omega);have m2:n * ten<=1000000000000 * 1000000:=Int.mul_le_mul (by omega) t1 (by omega) (by omega);have z1:IntKind.u64.wrap (n * ten)=n * ten:=IntWalk.u64_in _ (by omega);have z2:IntKind.u64.wrap (n * ten+v)=n * ten+v:=IntWalk.u64_in _ (by omega);clear Q1 Q2 Q3 Q4 q4;cases m with
           | false =>
            have M:=λw=>zBM (false && decide (0<(n * ten+v))) (n * ten+v) ten w (by omega) (by omega) (by omega) (by omega)
            rw [zBl _ (by omega) (by omega),HO.out] at M;rw [Bool.false_and] at M;go_wp2_with fail
            refine (P _).mono ?_;rintro e w1 ⟨rfl,rfl⟩;go_wp2_with fail
            refine (Q _).mono ?_;rintro e w1 ⟨rfl,rfl⟩;go_wp2_with fail
            refine (T _).mono ?_;rintro e w1 ⟨rfl,rfl⟩;go_wp2_with fail
            refine (M _).mono ?_;rintro e w3 ⟨rfl,hb3⟩;obtain ⟨k1,k2,k3,k4⟩:=At.below hb3 (At.new w 24 rfl (.int .i64 0) (.int .i64 0));have qE:=zAA ((Below.refl _ w).alloc (Nat.le_refl _) (.cells #[.int .i64 0,.int .i64 0] 24)) hb3;go_wp2;refine bodyPost_ret (v:=.tuple #[.agg #[.int .i64 (Wnum.oN o),.int .i64 (Wnum.oD o)],.bool (Wnum.oB o)]) (by simp [results,results125,go_sem,k1,k2]) rfl ⟨rfl,?_⟩;exact zAW qE (by omega) _ _
           | true =>
            by_cases hn:0<(n * ten+v)
            ·have M:=λw=>zBM (true && decide (0<(n * ten+v))) (n * ten+v) ten w (by omega) (by omega) (by omega) (by omega)
             rw [zBl _ (by omega) (by omega),HO.out] at M;rw [Bool.true_and,decide_eq_true hn] at M;go_wp2_with fail
             refine (P _).mono ?_;rintro e w1 ⟨rfl,rfl⟩;go_wp2_with fail
             refine (Q _).mono ?_;rintro e w1 ⟨rfl,rfl⟩;go_wp2_with fail
             refine (T _).mono ?_;rintro e w1 ⟨rfl,rfl⟩;go_wp2_with fail
             refine (M _).mono ?_;rintro e w3 ⟨rfl,hb3⟩;obtain ⟨k1,k2,k3,k4⟩:=At.below hb3 (At.new w 24 rfl (.int .i64 0) (.int .i64 0));have qE:=zAA ((Below.refl _ w).alloc (Nat.le_refl _) (.cells #[.int .i64 0,.int .i64 0] 24)) hb3;go_wp2;refine bodyPost_ret (v:=.tuple #[.agg #[.int .i64 (Wnum.oN o),.int .i64 (Wnum.oD o)],.bool (Wnum.oB o)]) (by simp [results,results125,go_sem,k1,k2]) rfl ⟨rfl,?_⟩;exact zAW qE (by omega) _ _
            ·have M:=λw=>zBM (true && decide (0<(n * ten+v))) (n * ten+v) ten w (by omega) (by omega) (by omega) (by omega)
             rw [zBl _ (by omega) (by omega),HO.out] at M;rw [Bool.true_and,decide_eq_false hn] at M;have hn':decide (0<(n * ten+v))=false:=decide_eq_false hn;go_wp2_with fail
             refine (P _).mono ?_;rintro e w1 ⟨rfl,rfl⟩;go_wp2_with fail
             refine (Q _).mono ?_;rintro e w1 ⟨rfl,rfl⟩;go_wp2_with fail
             refine (T _).mono ?_;rintro e w1 ⟨rfl,rfl⟩;go_wp2_with fail
             refine (M _).mono ?_;rintro e w3 ⟨rfl,hb3⟩;obtain ⟨k1,k2,k3,k4⟩:=At.below hb3 (At.new w 24 rfl (.int .i64 0) (.int .i64 0));have qE:=zAA ((Below.refl _ w).alloc (Nat.le_refl _) (.cells #[.int .i64 0,.int .i64 0] 24)) hb3;go_wp2;refine bodyPost_ret (v:=.tuple #[.agg #[.int .i64 (Wnum.oN o),.int .i64 (Wnum.oD o)],.bool (Wnum.oB o)]) (by simp [results,results125,go_sem,k1,k2]) rfl ⟨rfl,?_⟩;exact zAW qE (by omega) _ _
        ·have c46':(c != 46)=true:=bne_iff_ne.2 c46;have e:o=none:=by rw [<-O.out];exact Q2.out c47 c46
         subst e;clear Q1 Q2 Q3 Q4 c46 c47;go_wp2_with fail
         refine (P _).mono ?_;rintro e w1 ⟨rfl,rfl⟩;go_wp2_with fail
         refine (Q _).mono ?_;rintro e w1 ⟨rfl,rfl⟩;go_wp2;refine bodyPost_ret (v:=.tuple #[.agg #[.int .i64 0,.int .i64 0],.bool false]) (by simp [results,results125,go_sem]) rfl ⟨rfl,?_⟩;exact clA
      ·have e:o=none:=by rw [<-O.out];exact R0.out (λx=>ce x.2)
       subst e;have ne2:(((i+1+Wnum.dk s (i+1):Nat):Int) != (s.size:Int))=true:=bne_iff_ne.2 (by omega);clear R0 R1 hg eN2 eI2 eb;generalize Wnum.dv s (i+1)=v at *;generalize ((i+1+Wnum.dk s (i+1):Nat):Int)=x2 at *;go_wp2_with fail
       refine (P _).mono ?_;rintro e w1 ⟨rfl,rfl⟩;go_wp2_with fail
       refine (Q _).mono ?_;rintro e w1 ⟨rfl,rfl⟩;go_wp2;refine bodyPost_ret (v:=.tuple #[.agg #[.int .i64 0,.int .i64 0],.bool false]) (by simp [results,results125,go_sem]) rfl ⟨rfl,?_⟩;exact clA
open Go.RowKit Go.Shelf
theorem zCN (i:Int) (h1:1<=i) (h8:i<=8) (w:World):CR 128 #[.int .i64 i] w (.agg (vl6 ⟨4,0,0,⟨#[]⟩,false,i⟩).toArray):=by
 have g1:¬ i<1:=by omega
 have g2:¬ 8<i:=by omega
 have g1d:decide (i<1)=false:=by simpa using g1
 have g2d:decide (8<i)=false:=by simpa using g2
 go_enter func128,ntmps128;go_wp2;refine bodyPost_ret (v:=.agg (vl6 ⟨4,0,0,⟨#[]⟩,false,i⟩).toArray) (by simp [results,results128,go_sem,vl6]) rfl ⟨rfl,?_⟩;exact clA
abbrev zV:List Value:=[.int .i64 0,.int .i64 0,.int .i64 0,.string ⟨#[]⟩,.bool false,.int .i64 0]
theorem zEP (s:ByteArray) (w:World) (hs:s.size<=9223372036854775807):CR 124 #[.string s] w (.agg (vl6 (zCZ s)).toArray):=by
 have P:=λw=>zDw s w hs
 have pZ:AtL (w.alloc (.cells zV0 26)) w.heap.size zV:=AtL.new0 w _ _;have hB:=zAI (Below.refl _ w) (.cells zV0 26);have F7:=λw=>zCN 7 (by omega) (by omega) w
 have F2:=λw=>zCN 2 (by omega) (by omega) w
 unfold zCZ;cases hp:Wv.prts s.data.toList with
 | false =>
  rw [hp] at P;simp only [Bool.false_eq_true,if_false];go_enter func124,ntmps124;go_upto_region 1 with fail
  generalize w.alloc (.cells zV0 26)=W at *;go_wp2_with fail
  refine (P _).mono ?_;rintro e w1 ⟨rfl,rfl⟩;go_wp2_with fail
  refine (F2 _).mono ?_;rintro e w2 ⟨rfl,hb⟩;have pZ2:=AtL.below hb pZ;have hB2:=zAA hB hb;have tR:w2.there w.heap.size 0 (vl6 ⟨4,0,0,⟨#[]⟩,false,2⟩).toArray.size:=pZ2.there;go_wp2_with ((with_reducible refine wpList_store_mid ?_ 26 (.tmp 2) (.tmp 8) ?_ (w.heap.size) 0 (vl6 ⟨4,0,0,⟨#[]⟩,false,2⟩).toArray ?_ ?_ ?_ ?_ ?_ ?_);rfl;rfl;rfl;rfl;exact tR;kernel_rfl;exact zKM _)
  have rR2:=AtL.setAll pZ2 (vs:=vl6 ⟨4,0,0,⟨#[]⟩,false,2⟩) rfl;refine bodyPost_ret (v:=.agg (vl6 ⟨4,0,0,⟨#[]⟩,false,2⟩).toArray) (zAF (by rfl) _ _ w.heap.size (vl6 ⟨4,0,0,⟨#[]⟩,false,2⟩) _ (by rfl) rR2.range underlying26 rfl (by kernel_rfl)) rfl ?_;exact ⟨rfl,zAu hB2 (Nat.le_refl _) _ 0⟩
 | true =>
  rw [hp] at P;simp only [if_true];by_cases h256:256<s.size
  ·rw [if_pos h256];have hli:(256:Int)<(s.size:Int):=by omega
   go_enter func124,ntmps124;go_upto_region 1 with fail
   generalize w.alloc (.cells zV0 26)=W at *;go_wp2_with fail
   refine (P _).mono ?_;rintro e w1 ⟨rfl,rfl⟩;go_wp2_with fail
   refine (F7 _).mono ?_;rintro e w2 ⟨rfl,hb⟩;have pZ2:=AtL.below hb pZ;have hB2:=zAA hB hb;have tR:w2.there w.heap.size 0 (vl6 ⟨4,0,0,⟨#[]⟩,false,7⟩).toArray.size:=pZ2.there;go_wp2_with ((with_reducible refine wpList_store_mid ?_ 26 (.tmp 2) (.tmp 12) ?_ (w.heap.size) 0 (vl6 ⟨4,0,0,⟨#[]⟩,false,7⟩).toArray ?_ ?_ ?_ ?_ ?_ ?_);rfl;rfl;rfl;rfl;exact tR;kernel_rfl;exact zKM _)
   have rR2:=AtL.setAll pZ2 (vs:=vl6 ⟨4,0,0,⟨#[]⟩,false,7⟩) rfl;refine bodyPost_ret (v:=.agg (vl6 ⟨4,0,0,⟨#[]⟩,false,7⟩).toArray) (zAF (by rfl) _ _ w.heap.size (vl6 ⟨4,0,0,⟨#[]⟩,false,7⟩) _ (by rfl) rR2.range underlying26 rfl (by kernel_rfl)) rfl ?_;exact ⟨rfl,zAu hB2 (Nat.le_refl _) _ 0⟩
  ·rw [if_neg h256];have hli:¬ (256:Int)<(s.size:Int):=by omega
   go_enter func124,ntmps124;go_upto_region 1 with fail
   generalize w.alloc (.cells zV0 26)=W at *;have tR:W.there w.heap.size 0 (vl6 ⟨2,0,0,s,false,0⟩).toArray.size:=pZ.there;go_wp2_with fail
   refine (P _).mono ?_;rintro e w1 ⟨rfl,rfl⟩;go_wp2_with ((with_reducible refine wpList_store_mid ?_ 26 (.tmp 2) (.tmp 14) ?_ (w.heap.size) 0 (vl6 ⟨2,0,0,s,false,0⟩).toArray ?_ ?_ ?_ ?_ ?_ ?_);rfl;rfl;rfl;rfl;exact tR;kernel_rfl;exact zKM _)
   have rR2:=AtL.setAll pZ (vs:=vl6 ⟨2,0,0,s,false,0⟩) rfl;refine bodyPost_ret (v:=.agg (vl6 ⟨2,0,0,s,false,0⟩).toArray) (zAF (by rfl) _ _ w.heap.size (vl6 ⟨2,0,0,s,false,0⟩) _ (by rfl) rR2.range underlying26 rfl (by kernel_rfl)) rfl ?_;exact ⟨rfl,zAu hB (Nat.le_refl _) _ 0⟩
theorem zCz (n d:Int) (w:World) (h1:-9223372036854775808<=n) (h2:n<=9223372036854775807) (h3:-9223372036854775808<=d) (h4:d<=9223372036854775807) :
  CR 126 #[.agg #[.int .i64 n,.int .i64 d]] w (.agg (vl6 (zIR n d)).toArray):=by
 have C:=λw=>zEA n d w h1 h2 h3 h4
 unfold zIR;generalize Wnum.cN n d=cn at *;generalize Wnum.cD n d=cd at *;have pA:=(AtL.new0 w 24 [.int .i64 n,.int .i64 d]).alloc (.cells zV0 26);have pZ:AtL ((w.alloc (.cells #[.int .i64 n,.int .i64 d] 24)).alloc (.cells zV0 26)) (w.heap.size+1) zV:=AtL.new _ _ (by simp) _;have hB:=zAI (zAI (Below.refl _ w) (.cells #[.int .i64 n,.int .i64 d] 24)) (.cells zV0 26);go_enter func126,ntmps126;go_upto_region 1 with fail
 generalize (w.alloc (.cells #[.int .i64 n,.int .i64 d] 24)).alloc (.cells zV0 26)=W at *;have c0:=pA.2.1 0 _ rfl;have c1:=pA.2.1 1 _ rfl;go_wp2_with fail
 refine (C _).mono ?_;rintro e w1 ⟨rfl,hb⟩;have pZ2:=AtL.below hb pZ;have hB2:=zAA hB hb;have tR:w1.there (w.heap.size+1) 0 (vl6 ⟨1,cn,cd,⟨#[]⟩,false,0⟩).toArray.size:=pZ2.there;clear c0 c1 pA pZ hB hb;go_wp2_with ((with_reducible refine wpList_store_mid ?_ 26 (.tmp 2) (.tmp 5) ?_ (w.heap.size+1) 0 (vl6 ⟨1,cn,cd,⟨#[]⟩,false,0⟩).toArray ?_ ?_ ?_ ?_ ?_ ?_);rfl;rfl;rfl;rfl;exact tR;kernel_rfl;exact zKM _)
 have rR2:=AtL.setAll pZ2 (vs:=vl6 ⟨1,cn,cd,⟨#[]⟩,false,0⟩) rfl;refine bodyPost_ret (v:=.agg (vl6 ⟨1,cn,cd,⟨#[]⟩,false,0⟩).toArray) (zAF (by rfl) _ _ (w.heap.size+1) (vl6 ⟨1,cn,cd,⟨#[]⟩,false,0⟩) _ (by rfl) rR2.range underlying26 rfl (by kernel_rfl)) rfl ?_;exact ⟨rfl,zAu hB2 (by omega) _ 0⟩
theorem zB7 (l:List UInt8) (i:Nat) (h1:1<=i) (h8:i<=8) (w:World) (hl:l.length<=1000) (hr:Wnum.oB (Wnum.rdO ⟨(35::l).toArray⟩)=false) (e1:((35::l:List UInt8) == [84,82,85,69])=false) (e2:((35::l:List UInt8) == [70,65,76,83,69])=false)
  (hat:fltR[i]? = some (.string ⟨(35::l).toArray⟩)) (hlt:∀ j,1<=j->j<i->∃ q:List UInt8,fltR[j]? = some (.string ⟨q.toArray⟩)/\((35::l:List UInt8) == q)=false) :
  CR 102 #[.string ⟨(35::l).toArray⟩] w (.agg (vl6 ⟨4,0,0,⟨#[]⟩,false,(i:Int)⟩).toArray):=by
 have R:=λw=>zDu ⟨(35::l).toArray⟩ w (by show (35::l).length<=_;simp only [List.length_cons];omega)
 rw [hr] at R;have NM:=λw=>zEQ w
 have FA:=λw=>zCN (i:Int) (by omega) (by omega) w
 have pZ:AtL (w.alloc (.cells zV0 26)) w.heap.size zV:=AtL.new0 w _ _;have hB:=zAI (Below.refl _ w) (.cells zV0 26);generalize Wnum.oN (Wnum.rdO ⟨(35::l).toArray⟩)=rn at *;generalize Wnum.oD (Wnum.rdO ⟨(35::l).toArray⟩)=rd at *;have HAT:Hid (fltR[i]? = some (.string ⟨(35::l).toArray⟩)):=hat;have HLT:Hid (∀ j,1<=j->j<i->∃ q:List UInt8,fltR[j]? = some (.string ⟨q.toArray⟩)/\((35::l:List UInt8) == q)=false):=hlt;clear hr hat hlt;go_enter func102,ntmps102;go_upto_region 1 with fail
 generalize w.alloc (.cells zV0 26)=W at *;go_wp2_with fail
 refine (R _).mono ?_;rintro e w1 ⟨rfl,hb1⟩;have pZ2:=(AtL.below hb1 pZ).alloc (.cells #[.int .i64 rn,.int .i64 rd] 24);have hB1:=zAI (zAA hB hb1) (.cells #[.int .i64 rn,.int .i64 rd] 24);clear pZ hB hb1;go_upto_region 6 with fail
 generalize w1.alloc (.cells #[.int .i64 rn,.int .i64 rd] 24)=W2 at *;go_wp2_with fail
 refine (NM _).mono ?_;rintro e w3 ⟨rfl,pF,hb3⟩;have pZ3:=AtL.below hb3 pZ2;have hB3:=zAA hB1 hb3;have HF:Hid (∀ j v,fltR[j]? = some v->w3.cell? ⟨W2.heap.size,j,none⟩=some v):=pF.2.1;clear pZ2 hB1 hb3 pF;go_wp2_with fail
 go_loopg [6] (i - 1) (λgk x wr=>∃ j:Nat,x=.int .i64 j/\gk=i - j/\1<=j/\j<=i/\w3=wr)
 case atStart=>exact ⟨1,rfl,rfl,Nat.le_refl _,h1,rfl⟩
 case round =>
  obtain ⟨j,rfl,hg,hj1,hji,rfl⟩:=hrel;have hj9:(j:Int)<9:=by omega
  by_cases hlt:j<i
  ·obtain ⟨q,hq,hne⟩:=HLT.out j hj1 hlt;have cq:=HF.out j _ hq;go_wp2_with fail
   go_roundg (i - (j+1))
   case rel=>exact ⟨j+1,by simp,rfl,by omega,by omega,rfl⟩
   case measure=>omega
  ·obtain rfl:j=i:=by omega
   have cq:=HF.out j _ HAT.out;go_wp2_with fail
   refine (FA _).mono ?_;rintro e w4 ⟨rfl,hb4⟩;have pZ4:=AtL.below hb4 pZ3;have hB4:=zAA hB3 hb4;have tR:w4.there w.heap.size 0 (vl6 ⟨4,0,0,⟨#[]⟩,false,(j:Int)⟩).toArray.size:=pZ4.there;go_wp2_with ((with_reducible refine wpList_store_mid ?_ 26 (.tmp 2) (.tmp 47) ?_ (w.heap.size) 0 (vl6 ⟨4,0,0,⟨#[]⟩,false,(j:Int)⟩).toArray ?_ ?_ ?_ ?_ ?_ ?_);rfl;rfl;rfl;rfl;exact tR;kernel_rfl;exact zKM _)
   have rR2:=AtL.setAll pZ4 (vs:=vl6 ⟨4,0,0,⟨#[]⟩,false,(j:Int)⟩) rfl;refine bodyPost_ret (v:=.agg (vl6 ⟨4,0,0,⟨#[]⟩,false,(j:Int)⟩).toArray) (zAF (by rfl) _ _ w.heap.size (vl6 ⟨4,0,0,⟨#[]⟩,false,(j:Int)⟩) _ (by rfl) rR2.range underlying26 rfl (by kernel_rfl)) rfl ?_;exact ⟨rfl,zAu hB4 (Nat.le_refl _) _ 0⟩
