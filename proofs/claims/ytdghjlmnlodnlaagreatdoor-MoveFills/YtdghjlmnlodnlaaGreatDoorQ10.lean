/- WalkF, WalkG, WalkR, PlainT, WalkRf, WalkPc, WalkI, WalkM, PlainU. -/
import Derived.Test.YtdghjlmnlodnlaaGreatDoorQ09
set_option maxHeartbeats 800000
set_option maxRecDepth 100000
set_option linter.unusedVariables false
namespace Go.Proofs.YtdghjlmnlodnlaaGreatDoor
open Tryz
open Go.RowKit
theorem zLr (a b:Nat) (w:World) (h1:a<=18446744073709551615) (h2:b<=18446744073709551615) :
  Calls prog 153 #[.int .u64 (a:Int),.int .u64 (b:Int)] w λe w'=>e=.returned (.int .u64 (Nat.gcd a b:Int))/\w=w':=by
 go_enter func153,ntmps153;go_wp2;go_loop [0,1,5] (λx y _=>∃ p q:Nat,x=.int .u64 p/\y=.int .u64 q/\p<=18446744073709551615/\q<=18446744073709551615/\Hid (Nat.gcd p q=Nat.gcd a b)) (λ_ y _=>(intOf y).toNat)
 case atStart=>exact ⟨a,b,rfl,rfl,h1,h2,(rfl:Nat.gcd a b=Nat.gcd a b)⟩
 case round =>
  obtain ⟨p,q,rfl,rfl,hp,hq,hg⟩:=hrel;by_cases hz:q=0
  ·subst hz;go_wp2;go_ret;exact ⟨zCu (by rw [<-hg.out,Nat.gcd_zero_right]),rfl⟩
  ·have hz':((q:Int) != 0)=true:=by simp;omega
   go_wp2;go_round
   case rel=>exact ⟨q,p % q,rfl,by go_num,hq,by have:=Nat.mod_lt p (Nat.pos_of_ne_zero hz);omega,by exact (show Nat.gcd q (p % q)=Nat.gcd a b by rw [<-hg.out,Nat.gcd_comm p q,Nat.gcd_rec q p,Nat.gcd_comm])⟩
   case measure=>simp [intOf];have:=Nat.mod_lt p (Nat.pos_of_ne_zero hz);omega
theorem zBq (a b:Int) (w:World) (h0:0<=a) (h1:a<=18446744073709551615) (h2:0<=b) (h3:b<=18446744073709551615) :
  Calls prog 153 #[.int .u64 a,.int .u64 b] w λe w'=>e=.returned (.int .u64 (Int.gcd a b:Int))/\w=w':=by
 obtain ⟨x,rfl⟩:=Int.eq_ofNat_of_zero_le h0;obtain ⟨y,rfl⟩:=Int.eq_ofNat_of_zero_le h2;exact zLr x y w (by omega) (by omega)
theorem zDE {P:Program} {f:FuncId} {args:Array Value} {w:World} {v:Value} (h:Calls P f args w λe w'=>e=.returned v/\w=w'):Calls P f args w λe w'=>e=.returned v/\w'=w :=
 h.mono λ_ _ ⟨a,b⟩=>⟨a,b.symm⟩
theorem zCO (n:Int) (w:World) (h1:-9223372036854775808<=n) (h2:n<=9223372036854775807) :
  Calls prog 122 #[.int .i64 n] w λe w'=>e=.returned (.int .u64 (n.natAbs:Int))/\w=w':=by
 by_cases h:n<0
 ·go_enter func122,ntmps122;go_wp2;go_ret;exact ⟨zCu (by omega),rfl⟩
 ·go_enter func122,ntmps122;go_wp2;go_ret;exact ⟨zCu (by omega),rfl⟩
theorem zCq (n d:Int) (w:World) (h1:-9223372036854775808<=n) (h2:n<=9223372036854775807) (h3:-9223372036854775808<=d) (h4:d<=9223372036854775807) :
  CR 134 #[.agg #[.int .i64 n,.int .i64 d]] w (.bool (Wnum.rightB n d)):=by
 by_cases c3:d<1
 ·have e:Hid (Wnum.rightB n d=false):=by show Wnum.rightB n d=false;unfold Wnum.rightB;rw [decide_eq_false_iff_not];omega
  rw [e.out];clear e;go_enter func134,ntmps134;go_wp2;go_ret;exact ⟨rfl,clA⟩
 by_cases c4:1000000<d
 ·have e:Hid (Wnum.rightB n d=false):=by show Wnum.rightB n d=false;unfold Wnum.rightB;rw [decide_eq_false_iff_not];omega
  rw [e.out];clear e;go_enter func134,ntmps134;go_wp2;go_ret;exact ⟨rfl,clA⟩
 by_cases c1:n < -1000000000000
 ·have e:Hid (Wnum.rightB n d=false):=by show Wnum.rightB n d=false;unfold Wnum.rightB;rw [decide_eq_false_iff_not];omega
  rw [e.out];clear e;go_enter func134,ntmps134;go_wp2;go_ret;exact ⟨rfl,clA⟩
 by_cases c2:1000000000000<n
 ·have e:Hid (Wnum.rightB n d=false):=by show Wnum.rightB n d=false;unfold Wnum.rightB;rw [decide_eq_false_iff_not];omega
  rw [e.out];clear e;go_enter func134,ntmps134;go_wp2;go_ret;exact ⟨rfl,clA⟩
 have e:Hid ((((Int.gcd (n.natAbs:Int) d:Nat):Int) == 1)=Wnum.rightB n d):=by
  show _=_
  have e0:Int.gcd (n.natAbs:Int) d=Int.gcd n d:=by simp [Int.gcd]
  rw [e0];unfold Wnum.rightB;by_cases g:Int.gcd n d=1
  ·rw [g,decide_eq_true (by omega)];rfl
  ·rw [decide_eq_false (by omega),beq_eq_false_iff_ne];omega
 rw [<-e.out];clear e;have hw:IntKind.u64.wrap d=d:=IntWalk.u64_in _ (by omega);have b0:(0:Int)<=(n.natAbs:Int):=by omega
 have b1:(n.natAbs:Int)<=18446744073709551615:=by omega
 have b2:0<=d:=by omega
 have b3:d<=18446744073709551615:=by omega
 go_enter func134,ntmps134;go_wp2;go_quiet (first | (go_at_call 122;exact Calls.quiet_of_same (zDE (zCO _ _ h1 h2))) | (go_at_call 153;exact Calls.quiet_of_same (zDE (zBq _ _ _ b0 b1 b2 b3))))
 go_wp2;go_ret;exact ⟨rfl,clA⟩
theorem zEA (n d:Int) (w:World) (h1:-9223372036854775808<=n) (h2:n<=9223372036854775807) (h3:-9223372036854775808<=d) (h4:d<=9223372036854775807) :
  CR 121 #[.agg #[.int .i64 n,.int .i64 d]] w (.agg #[.int .i64 (Wnum.cN n d),.int .i64 (Wnum.cD n d)]):=by
 cases hr:Wnum.rightB n d with
 | true =>
  have e1:Wnum.cN n d=n:=by unfold Wnum.cN;rw [if_pos hr]
  have e2:Wnum.cD n d=d:=by unfold Wnum.cD;rw [if_pos hr]
  rw [e1,e2];clear e1 e2;have H:Hid (Wnum.rightB n d=true):=hr;clear hr;go_enter func121,ntmps121;go_wp2_with fail
  refine (zCq _ _ _ h1 h2 h3 h4).mono ?_;rintro e w1 ⟨rfl,hb⟩;rw [H.out];obtain ⟨hc,hf⟩:=zHj hb;have hz:=bsz (k:=w.heap.size+1) hb (by simp);go_wp2;refine bodyPost_ret (v:=.agg #[.int .i64 n,.int .i64 d]) (by simp [results,results121,go_sem,hc]) rfl ⟨rfl,?_⟩;exact clA
 | false =>
  have e1:Wnum.cN n d=0:=by unfold Wnum.cN;rw [hr];rfl
  have e2:Wnum.cD n d=1:=by unfold Wnum.cD;rw [hr];rfl
  rw [e1,e2];clear e1 e2;have H:Hid (Wnum.rightB n d=false):=hr;clear hr;go_enter func121,ntmps121;go_wp2_with fail
  refine (zCq _ _ _ h1 h2 h3 h4).mono ?_;rintro e w1 ⟨rfl,hb⟩;rw [H.out];obtain ⟨hc,hf⟩:=zHj hb;have hz:=bsz (k:=w.heap.size+1) hb (by simp);go_wp2;refine bodyPost_ret (v:=.agg #[.int .i64 0,.int .i64 1]) (by simp [results,results121,go_sem,hc]) rfl ⟨rfl,?_⟩;exact clA
theorem zLp (n d:Int) (w:World) (h1:0<=n) (h2:n<=18446744073709551615) (h3:1<=d) (h4:d<=18446744073709551615) :
  CR 150 #[.bool false,.int .u64 n,.int .u64 d] w (.tuple #[.agg #[.int .i64 (Wnum.oN (some (Rat.divInt (n) d))),.int .i64 (Wnum.oD (some (Rat.divInt (n) d)))],.bool (Wnum.oB (some (Rat.divInt (n) d)))]):=by
 obtain ⟨q1,q2,q3,q4,q5,q6,q7,_,_⟩:=Wnum.made_parts h1 h3;generalize Rat.divInt (n) d=r at *;by_cases c:n / ((Int.gcd n d:Nat):Int)<=1000000000000/\d / ((Int.gcd n d:Nat):Int)<=1000000
 ·obtain ⟨c1,c2⟩:=c;obtain ⟨e1,e2,e3⟩:=Wnum.oNs (r:=r) (Wnum.ok_iff.2 (by omega));rw [e1,e2,e3,q6,q7];clear e1 e2 e3 q6 q7;have t1:decide (1000000000000<n / ((Int.gcd n d:Nat):Int))=false:=by simp;omega
  have t2:decide (1000000<d / ((Int.gcd n d:Nat):Int))=false:=by simp;omega
  go_enter func150,ntmps150;go_wp2_with fail
  refine (zBq _ _ _ h1 h2 (by omega) h4).mono ?_;rintro e w1 ⟨rfl,rfl⟩;go_wp2;refine bodyPost_ret (v:=.tuple #[.agg #[.int .i64 (n / ((Int.gcd n d:Nat):Int)),.int .i64 (d / ((Int.gcd n d:Nat):Int))],.bool true]) (by simp [results,results150,go_sem]) rfl ⟨rfl,?_⟩;exact clA
 ·obtain ⟨e1,e2,e3⟩:=Wnum.oNn (r:=r) (Wnum.ok_not (by omega));rw [e1,e2,e3];clear e1 e2 e3 q6 q7;by_cases c1:n / ((Int.gcd n d:Nat):Int)<=1000000000000
  ·have t1:decide (1000000000000<n / ((Int.gcd n d:Nat):Int))=false:=by simp;omega
   have t2:decide (1000000<d / ((Int.gcd n d:Nat):Int))=true:=by simp;omega
   clear c c1;go_enter func150,ntmps150;go_wp2_with fail
   refine (zBq _ _ _ h1 h2 (by omega) h4).mono ?_;rintro e w1 ⟨rfl,rfl⟩;go_wp2;refine bodyPost_ret (v:=.tuple #[.agg #[.int .i64 0,.int .i64 0],.bool false]) (by simp [results,results150,go_sem]) rfl ⟨rfl,?_⟩;exact clA
  ·have t1:decide (1000000000000<n / ((Int.gcd n d:Nat):Int))=true:=by simp;omega
   clear c c1;go_enter func150,ntmps150;go_wp2_with fail
   refine (zBq _ _ _ h1 h2 (by omega) h4).mono ?_;rintro e w1 ⟨rfl,rfl⟩;go_wp2;refine bodyPost_ret (v:=.tuple #[.agg #[.int .i64 0,.int .i64 0],.bool false]) (by simp [results,results150,go_sem]) rfl ⟨rfl,?_⟩;exact clA
theorem zMg (n d:Int) (w:World) (h1:0<=n) (h2:n<=18446744073709551615) (h3:1<=d) (h4:d<=18446744073709551615) :
  CR 150 #[.bool true,.int .u64 n,.int .u64 d] w (.tuple #[.agg #[.int .i64 (Wnum.oN (some (Rat.divInt (-n) d))),.int .i64 (Wnum.oD (some (Rat.divInt (-n) d)))],.bool (Wnum.oB (some (Rat.divInt (-n) d)))]):=by
 obtain ⟨q1,q2,q3,q4,q5,_,_,q6,q7⟩:=Wnum.made_parts h1 h3;generalize Rat.divInt (-n) d=r at *;by_cases c:n / ((Int.gcd n d:Nat):Int)<=1000000000000/\d / ((Int.gcd n d:Nat):Int)<=1000000
 ·obtain ⟨c1,c2⟩:=c;obtain ⟨e1,e2,e3⟩:=Wnum.oNs (r:=r) (Wnum.ok_iff.2 (by omega));rw [e1,e2,e3,q6,q7];clear e1 e2 e3 q6 q7;have t1:decide (1000000000000<n / ((Int.gcd n d:Nat):Int))=false:=by simp;omega
  have t2:decide (1000000<d / ((Int.gcd n d:Nat):Int))=false:=by simp;omega
  go_enter func150,ntmps150;go_wp2_with fail
  refine (zBq _ _ _ h1 h2 (by omega) h4).mono ?_;rintro e w1 ⟨rfl,rfl⟩;go_wp2;refine bodyPost_ret (v:=.tuple #[.agg #[.int .i64 (-(n / ((Int.gcd n d:Nat):Int))),.int .i64 (d / ((Int.gcd n d:Nat):Int))],.bool true]) (by simp [results,results150,go_sem]) rfl ⟨rfl,?_⟩;exact clA
 ·obtain ⟨e1,e2,e3⟩:=Wnum.oNn (r:=r) (Wnum.ok_not (by omega));rw [e1,e2,e3];clear e1 e2 e3 q6 q7;by_cases c1:n / ((Int.gcd n d:Nat):Int)<=1000000000000
  ·have t1:decide (1000000000000<n / ((Int.gcd n d:Nat):Int))=false:=by simp;omega
   have t2:decide (1000000<d / ((Int.gcd n d:Nat):Int))=true:=by simp;omega
   clear c c1;go_enter func150,ntmps150;go_wp2_with fail
   refine (zBq _ _ _ h1 h2 (by omega) h4).mono ?_;rintro e w1 ⟨rfl,rfl⟩;go_wp2;refine bodyPost_ret (v:=.tuple #[.agg #[.int .i64 0,.int .i64 0],.bool false]) (by simp [results,results150,go_sem]) rfl ⟨rfl,?_⟩;exact clA
  ·have t1:decide (1000000000000<n / ((Int.gcd n d:Nat):Int))=true:=by simp;omega
   clear c c1;go_enter func150,ntmps150;go_wp2_with fail
   refine (zBq _ _ _ h1 h2 (by omega) h4).mono ?_;rintro e w1 ⟨rfl,rfl⟩;go_wp2;refine bodyPost_ret (v:=.tuple #[.agg #[.int .i64 0,.int .i64 0],.bool false]) (by simp [results,results150,go_sem]) rfl ⟨rfl,?_⟩;exact clA
theorem zJD (k:Int) (w:World) (h1:0<=k) (h2:k<=12) :
  Calls prog 218 #[.int .i64 k] w λe w'=>e=.returned (.int .i64 (Wnum.tenP k.toNat))/\w=w':=by
 obtain ⟨K,rfl⟩:=Int.eq_ofNat_of_zero_le h1;rw [Int.toNat_natCast];go_enter func218,ntmps218;go_wp2;go_loop [3,5] (λr i=>∃ j:Nat,j<=K/\r=.int .i64 (Wnum.tenP j)/\i=.int .i64 j) (λ_ i=>K - (intOf i).toNat)
 case atStart=>exact ⟨0,Nat.zero_le _,rfl,rfl⟩
 case round =>
  obtain ⟨j,hj,rfl,rfl⟩:=hrel;have b1:=Wnum.tenP_pos j;have b2:=Wnum.tenP_le12 (k:=j) (by omega);by_cases hlt:j<K
  ·have E:Hid (Wnum.tenP (j+1)=Wnum.tenP j * 10):=Wnum.tenP_succ j;go_wp2;go_round
   case rel=>exact ⟨j+1,by omega,by rw [E.out],by go_num⟩
   case measure=>simp [intOf];omega
  ·have hj':j=K:=by omega
   subst hj';go_wp2;go_ret;exact ⟨rfl,rfl⟩
theorem zMF (k:Int) (w:World) (h1:0<=k) (h2:k<=12) :
  Calls prog 151 #[.int .i64 k] w λe w'=>e=.returned (.int .u64 (Wnum.tenP k.toNat))/\w=w':=by
 obtain ⟨K,rfl⟩:=Int.eq_ofNat_of_zero_le h1;rw [Int.toNat_natCast];go_enter func151,ntmps151;go_wp2;go_loop [3,4] (λr i=>∃ j:Nat,j<=K/\r=.int .u64 (Wnum.tenP j)/\i=.int .i64 j) (λ_ i=>K - (intOf i).toNat)
 case atStart=>exact ⟨0,Nat.zero_le _,rfl,rfl⟩
 case round =>
  obtain ⟨j,hj,rfl,rfl⟩:=hrel;have b1:=Wnum.tenP_pos j;have b2:=Wnum.tenP_le12 (k:=j) (by omega);by_cases hlt:j<K
  ·have E:Hid (Wnum.tenP (j+1)=Wnum.tenP j * 10):=Wnum.tenP_succ j;go_wp2;go_round
   case rel=>exact ⟨j+1,by omega,by rw [E.out],by go_num⟩
   case measure=>simp [intOf];omega
  ·have hj':j=K:=by omega
   subst hj';go_wp2;go_ret;exact ⟨rfl,rfl⟩
end Go.Proofs.YtdghjlmnlodnlaaGreatDoor
namespace Go.Proofs.YtdghjlmnlodnlaaGreatDoor.Wnum
theorem sub_facts {t:ByteArray} {p:Nat} (h:p<=t.size):(t.extract p t.size).size=t.size - p/\∀ i,bt (t.extract p t.size) i=bt t (p+i):=by
 constructor
 ·rw [ByteArray.size_extract];omega
 ·intro i;obtain ⟨⟨l⟩⟩:=t;have hl:(ByteArray.mk ⟨l⟩).size=l.length:=rfl;have e:((ByteArray.mk ⟨l⟩).extract p (ByteArray.mk ⟨l⟩).size).data.toList=l.drop p:=by
   rw [hl];simp;exact List.take_of_length_le (by simp)
  unfold bt;rw [e];show (((l.drop p).getD i 0).toNat:Int)=((l.getD (p+i) 0).toNat:Int)
  simp [List.getD,List.getElem?_drop]
theorem zC3 {t u:ByteArray} {p:Nat} (hsz:u.size=t.size - p) (hbt:∀ i,bt u i=bt t (p+i)) (i:Nat):dk u i=dk t (p+i)/\dv u i=dv t (p+i)/\dB u i=dB t (p+i):=by
 have hc:∀ k j,cnt u j k=cnt t (p+j) k:=by
  intro k;induction k with
  | zero=>intro j;rfl
  | succ k ih =>
   intro j;show (if isD (bt u j) then cnt u (j+1) k+1 else 0)=(if isD (bt t (p+j)) then cnt t (p+j+1) k+1 else 0)
   rw [hbt,ih,show p+(j+1)=p+j+1 by omega]
 have hsay:∀ k j,say u j k=say t (p+j) k:=by
  intro k;induction k with
  | zero=>intro j;rfl
  | succ k ih =>
   intro j;show say u j k * 10+(bt u (j+k) - 48)=say t (p+j) k * 10+(bt t (p+j+k) - 48)
   rw [ih,hbt,show p+(j+k)=p+j+k by omega]
 have h1:dk u i=dk t (p+i):=by
  unfold dk;rw [hc,hsz,show t.size - p - i=t.size - (p+i) by omega]
 have h2:dv u i=dv t (p+i):=by unfold dv;rw [hsay,h1]
 exact ⟨h1,h2,by unfold dB;rw [h1,h2]⟩
def plB (t:ByteArray) (n:Int):Bool:=decide (t.size<=6) && decide (n<=1000000000000) && dB t 0 && decide (dk t 0=t.size)
def plN (t:ByteArray) (n:Int):Int:=if plB t n=true then n * tenP t.size+dv t 0 else 0
def plD (t:ByteArray) (n:Int):Int:=if plB t n=true then tenP t.size else 0
theorem pl_false {t:ByteArray} {n:Int} (h:plB t n=false):plN t n=0/\plD t n=0:=by unfold plN plD;rw [h];exact ⟨rfl,rfl⟩
theorem pl_true {t:ByteArray} {n:Int} (h:plB t n=true):plN t n=n * tenP t.size+dv t 0/\plD t n=tenP t.size:=by unfold plN plD;rw [h];exact ⟨rfl,rfl⟩
def fC (t:ByteArray):Int:=bt t (dk t 0)
def fS (t:ByteArray):ByteArray:=(t.extract (dk t 0) t.size).extract 1 (t.extract (dk t 0) t.size).size
def fB (t:ByteArray):Bool :=
 if dB t 0=false then false else if dk t 0=t.size then true else if fC t=46 then plB (fS t) (dv t 0) else if fC t=47 then dB (fS t) 0 && decide (dk (fS t) 0=(fS t).size) else false
def fN (t:ByteArray):Int :=
 if fB t=false then 0 else if dk t 0=t.size then dv t 0 else if fC t=46 then plN (fS t) (dv t 0) else dv t 0
def fD (t:ByteArray):Int :=
 if fB t=false then 0 else if dk t 0=t.size then 1 else if fC t=46 then plD (fS t) (dv t 0) else dv (fS t) 0
theorem f_false {t:ByteArray} (h:fB t=false):fN t=0/\fD t=0:=⟨if_pos h,if_pos h⟩
theorem f_none {t:ByteArray} (h:dB t 0=false):fB t=false:=if_pos h
theorem f_whole {t:ByteArray} (h:dB t 0=true) (e:dk t 0=t.size):fB t=true/\fN t=dv t 0/\fD t=1:=by
 have h1:fB t=true:=by unfold fB;rw [if_neg (by rw [h];decide),if_pos e]
 exact ⟨h1,by unfold fN;rw [if_neg (by rw [h1];decide),if_pos e],by unfold fD;rw [if_neg (by rw [h1];decide),if_pos e]⟩
theorem f_point {t:ByteArray} (h:dB t 0=true) (e:¬ dk t 0=t.size) (c:fC t=46):fB t=plB (fS t) (dv t 0)/\fN t=plN (fS t) (dv t 0)/\fD t=plD (fS t) (dv t 0):=by
 have h1:fB t=plB (fS t) (dv t 0):=by unfold fB;rw [if_neg (by rw [h];decide),if_neg e,if_pos c]
 refine ⟨h1,?_,?_⟩
 ·cases hb:plB (fS t) (dv t 0) with
  | false=>rw [(f_false (h1.trans hb)).1,(pl_false hb).1]
  | true=>unfold fN;rw [if_neg (by rw [h1,hb];decide),if_neg e,if_pos c]
 ·cases hb:plB (fS t) (dv t 0) with
  | false=>rw [(f_false (h1.trans hb)).2,(pl_false hb).2]
  | true=>unfold fD;rw [if_neg (by rw [h1,hb];decide),if_neg e,if_pos c]
theorem f_over {t:ByteArray} (h:dB t 0=true) (e:¬ dk t 0=t.size) (c:fC t=47):fB t=(dB (fS t) 0 && decide (dk (fS t) 0=(fS t).size))/\(fB t=true->fN t=dv t 0/\fD t=dv (fS t) 0):=by
 have n46:¬ fC t=46:=by omega
 have h1:fB t=(dB (fS t) 0 && decide (dk (fS t) 0=(fS t).size)):=by unfold fB;rw [if_neg (by rw [h];decide),if_neg e,if_neg n46,if_pos c]
 refine ⟨h1,λhb=>⟨?_,?_⟩⟩
 ·unfold fN;rw [if_neg (by rw [hb];decide),if_neg e,if_neg n46]
 ·unfold fD;rw [if_neg (by rw [hb];decide),if_neg e,if_neg n46]
theorem f_other {t:ByteArray} (h:dB t 0=true) (e:¬ dk t 0=t.size) (c:¬ fC t=46) (c':¬ fC t=47):fB t=false:=by
 unfold fB;rw [if_neg (by rw [h];decide),if_neg e,if_neg c,if_neg c']
theorem dB_bd {t:ByteArray} {i:Nat} (h:dB t i=true):0<dk t i/\0<=dv t i/\dv t i<=1000000000000000000:=by
 have:=of_decide_eq_true h;exact ⟨this.1,zFo t i,this.2⟩
theorem say_small {s:ByteArray} {i:Nat}:∀ k,(∀ m,m<k->isD (bt s (i+m)))->say s i k<tenP k:=by
 intro k;induction k with
 | zero=>intro _;exact (by decide:(0:Int)<1)
 | succ k ih =>
  intro h;have h1:=ih (λm hm=>h m (by omega));have h2:=(h k (by omega)).2;rw [say_succ,tenP_succ];omega
end Go.Proofs.YtdghjlmnlodnlaaGreatDoor.Wnum
namespace Go.Proofs.YtdghjlmnlodnlaaGreatDoor
open Tryz
open Go.RowKit
theorem zF8 (r:ByteArray):(r.toList == ([]:List UInt8))=decide (r.size=0):=by
 rw [ByteArray.toList_eq];obtain ⟨⟨l⟩⟩:=r;cases l <;> rfl
theorem zE7 (r:ByteArray):r.toList.isEmpty=decide (r.size=0):=by
 rw [ByteArray.toList_eq];obtain ⟨⟨l⟩⟩:=r;cases l <;> rfl
theorem zED (n:Int) (t:ByteArray) (w:World) (h1:0<=n) (h2:n<=1000000000000000000) (hs:t.size<=9223372036854775807) :
  Calls prog 210 #[.int .i64 n,.string t] w λe w'=>e=.returned (.tuple #[.int .i64 (Wnum.plN t n),.int .i64 (Wnum.plD t n),.bool (Wnum.plB t n)])/\∃ k,w'=w.drewN k:=by
 by_cases c1:6<t.size
 ·have f0:Wnum.plB t n=false:=by unfold Wnum.plB;rw [decide_eq_false (by omega)];rfl
  rw [(Wnum.pl_false f0).1,(Wnum.pl_false f0).2,f0];clear f0;go_enter func210,ntmps210;go_wp2;go_ret3
  exact ⟨rfl,0,rfl⟩
 have c1':decide ((6:Int)<(t.size:Int))=false:=decide_eq_false (by omega);by_cases c2:1000000000000<n
 ·have f0:Wnum.plB t n=false:=by unfold Wnum.plB;rw [decide_eq_false (p:=n<=1000000000000) (by omega),Bool.and_false,Bool.false_and];rfl
  rw [(Wnum.pl_false f0).1,(Wnum.pl_false f0).2,f0];clear f0;go_enter func210,ntmps210;go_wp2;go_ret3
  exact ⟨rfl,0,rfl⟩
 have c2':decide (1000000000000<n)=false:=decide_eq_false c2;have P:=λw=>zB9 t w hs
 cases hb:Wnum.dB t 0 with
 | false =>
  have f0:Wnum.plB t n=false:=by unfold Wnum.plB;rw [hb,Bool.and_false];rfl
  rw [(Wnum.pl_false f0).1,(Wnum.pl_false f0).2,f0];rw [hb,(Wnum.rd_false hb).1,(Wnum.rd_false hb).2] at P;clear f0 hb;go_enter func210,ntmps210;go_wp2_with fail
  refine (P _).mono ?_;rintro e w1 ⟨rfl,k1,rfl⟩;go_wp2;go_ret3
  exact ⟨rfl,k1,rfl⟩
 | true =>
  obtain ⟨b1,b2,b3⟩:=Wnum.dB_bd hb;have kl:=Wnum.dk_le t 0;have es:=(Wnum.sub_facts (t:=t) (p:=Wnum.dk t 0) (by omega)).1;rw [hb,(Wnum.rd_true hb).1,(Wnum.rd_true hb).2] at P;by_cases c3:Wnum.dk t 0=t.size
  ·have f0:Wnum.plB t n=true:=by unfold Wnum.plB;rw [hb,decide_eq_true c3,decide_eq_true (show t.size<=6 by omega),decide_eq_true (show n<=1000000000000 by omega)];rfl
   have sm:Wnum.dv t 0<Wnum.tenP t.size:=by
    have:=Wnum.say_small (s:=t) (i:=0) (Wnum.dk t 0) (Wnum.dk_all t 0);rw [c3] at this;unfold Wnum.dv;rw [c3];exact this
   rw [(Wnum.pl_true f0).1,(Wnum.pl_true f0).2,f0];have q1:=zE7 (t.extract (Wnum.dk t 0) t.size);rw [es,decide_eq_true (by omega)] at q1;generalize t.extract (Wnum.dk t 0) t.size=r at *;generalize Wnum.dv t 0=v at *;have t1:=Wnum.tenP_le6 (k:=t.size) (by omega);have t2:=Wnum.tenP_pos t.size;have T:=λw=>zJD (t.size:Int) w (by omega) (by omega)
   rw [Int.toNat_natCast] at T;generalize Wnum.tenP t.size=ten at *;have m1:0<=n * ten:=Int.mul_nonneg h1 (by omega);have m2:n * ten<=1000000000000 * 1000000:=Int.mul_le_mul (by omega) t1 (by omega) (by omega);clear f0 hb es c3 kl b1;go_enter func210,ntmps210;go_wp2_with fail
   refine (P _).mono ?_;rintro e w1 ⟨rfl,k1,rfl⟩;go_wp2_with fail
   refine (T _).mono ?_;rintro e w2 ⟨rfl,rfl⟩;go_wp2;go_ret3
   exact ⟨rfl,k1,rfl⟩
  ·have f0:Wnum.plB t n=false:=by unfold Wnum.plB;rw [decide_eq_false c3,Bool.and_false]
   rw [(Wnum.pl_false f0).1,(Wnum.pl_false f0).2,f0];have q1:=zE7 (t.extract (Wnum.dk t 0) t.size);rw [es,decide_eq_false (by omega)] at q1;generalize t.extract (Wnum.dk t 0) t.size=r at *;generalize Wnum.dv t 0=v at *;clear f0 hb es c3 kl b1;go_enter func210,ntmps210;go_wp2_with fail
   refine (P _).mono ?_;rintro e w1 ⟨rfl,k1,rfl⟩;go_wp2;go_ret3
   exact ⟨rfl,k1,rfl⟩
theorem zDJ (t:ByteArray) (w:World) (hs:t.size<=9223372036854775807) :
  Calls prog 200 #[.string t] w λe w'=>e=.returned (.tuple #[.int .i64 (Wnum.fN t),.int .i64 (Wnum.fD t),.bool (Wnum.fB t)])/\∃ k,w'=w.drewN k:=by
 have P:=λw=>zB9 t w hs
 cases hb:Wnum.dB t 0 with
 | false =>
  have f0:=Wnum.f_none hb;rw [(Wnum.f_false f0).1,(Wnum.f_false f0).2,f0];rw [hb,(Wnum.rd_false hb).1,(Wnum.rd_false hb).2] at P;clear f0 hb;go_enter func200,ntmps200;go_wp2_with fail
  refine (P _).mono ?_;rintro e w1 ⟨rfl,k1,rfl⟩;go_wp2;go_ret3
  exact ⟨rfl,k1,rfl⟩
 | true =>
  obtain ⟨b1,b2,b3⟩:=Wnum.dB_bd hb;have kl:=Wnum.dk_le t 0;obtain ⟨es,eb⟩:=Wnum.sub_facts (t:=t) (p:=Wnum.dk t 0) (by omega);rw [hb,(Wnum.rd_true hb).1,(Wnum.rd_true hb).2] at P;by_cases c3:Wnum.dk t 0=t.size
  ·obtain ⟨f0,f1,f2⟩:=Wnum.f_whole hb c3;rw [f0,f1,f2];have q1:=zF8 (t.extract (Wnum.dk t 0) t.size);rw [es,decide_eq_true (by omega)] at q1;generalize t.extract (Wnum.dk t 0) t.size=r at *;generalize Wnum.dv t 0=v at *;clear f0 f1 f2 hb es eb c3 kl b1;go_enter func200,ntmps200;go_wp2_with fail
   refine (P _).mono ?_;rintro e w1 ⟨rfl,k1,rfl⟩;go_wp2;go_ret3
   exact ⟨rfl,k1,rfl⟩
  ·have q1:=zF8 (t.extract (Wnum.dk t 0) t.size);rw [es,decide_eq_false (by omega)] at q1;have r0:0<(t.extract (Wnum.dk t 0) t.size).size:=by rw [es];omega
   have rs:(t.extract (Wnum.dk t 0) t.size).size<=9223372036854775807:=by rw [es];omega
   have ec:=Wnum.bt_get r0;rw [eb 0,Nat.add_zero] at ec;have ec:(((t.extract (Wnum.dk t 0) t.size)[0]'r0).toNat:Int)=Wnum.fC t:=ec;have us:(Wnum.fS t).size<=9223372036854775807:=by
    have:=(Wnum.sub_facts (t:=t.extract (Wnum.dk t 0) t.size) (p:=1) (by omega)).1;show (((t.extract (Wnum.dk t 0) t.size)).extract 1 (t.extract (Wnum.dk t 0) t.size).size).size<=_
    omega
   have U:Hid ((t.extract (Wnum.dk t 0) t.size).extract 1 (t.extract (Wnum.dk t 0) t.size).size=Wnum.fS t):=(rfl:(t.extract (Wnum.dk t 0) t.size).extract 1 (t.extract (Wnum.dk t 0) t.size).size=Wnum.fS t)
   by_cases c46:Wnum.fC t=46
   ·obtain ⟨f0,f1,f2⟩:=Wnum.f_point hb c3 c46;rw [f0,f1,f2];have Q:=λw=>zED (Wnum.dv t 0) (Wnum.fS t) w b2 b3 us
    rw [c46] at ec;clear f0 f1 f2 c46;generalize Wnum.fS t=u at *;generalize Wnum.dv t 0=v at *;clear hb es eb c3 kl b1;generalize t.extract (Wnum.dk t 0) t.size=r at *;go_enter func200,ntmps200;go_wp2_with fail
    refine (P _).mono ?_;rintro e w1 ⟨rfl,k1,rfl⟩;go_wp2_with fail
    rw [U.out];refine (Q _).mono ?_;rintro e w2 ⟨rfl,k2,rfl⟩;go_wp2;go_ret3
    exact ⟨rfl,_,rfl⟩
   ·by_cases c47:Wnum.fC t=47
    ·obtain ⟨f0,f1⟩:=Wnum.f_over hb c3 c47;have Q:=λw=>zB9 (Wnum.fS t) w us
     rw [c47] at ec;cases hu:Wnum.dB (Wnum.fS t) 0 with
     | false =>
      have f0':Wnum.fB t=false:=by rw [f0,hu];rfl
      rw [(Wnum.f_false f0').1,(Wnum.f_false f0').2,f0'];rw [hu,(Wnum.rd_false hu).1,(Wnum.rd_false hu).2] at Q;clear f0 f1 f0' c46 c47 hu;generalize Wnum.fS t=u at *;generalize Wnum.dv t 0=v at *;clear hb es eb c3 kl b1;generalize t.extract (Wnum.dk t 0) t.size=r at *;go_enter func200,ntmps200;go_wp2_with fail
      refine (P _).mono ?_;rintro e w1 ⟨rfl,k1,rfl⟩;go_wp2_with fail
      rw [U.out];refine (Q _).mono ?_;rintro e w2 ⟨rfl,k2,rfl⟩;go_wp2;go_ret3
      exact ⟨rfl,_,rfl⟩
     | true =>
      have ul:=Wnum.dk_le (Wnum.fS t) 0;have ues:=(Wnum.sub_facts (t:=Wnum.fS t) (p:=Wnum.dk (Wnum.fS t) 0) (by omega)).1;have q2:=zE7 ((Wnum.fS t).extract (Wnum.dk (Wnum.fS t) 0) (Wnum.fS t).size);rw [ues] at q2;rw [hu,(Wnum.rd_true hu).1,(Wnum.rd_true hu).2] at Q;by_cases c5:Wnum.dk (Wnum.fS t) 0=(Wnum.fS t).size
      ·have f0':Wnum.fB t=true:=by rw [f0,hu,decide_eq_true c5];rfl
       rw [(f1 f0').1,(f1 f0').2,f0'];rw [decide_eq_true (by omega)] at q2;clear f0 f1 f0' c46 c47 hu c5 ul ues;generalize Wnum.dv (Wnum.fS t) 0=v2 at *;generalize (Wnum.fS t).extract (Wnum.dk (Wnum.fS t) 0) (Wnum.fS t).size=r2 at *;generalize Wnum.fS t=u at *;generalize Wnum.dv t 0=v at *;clear hb es eb c3 kl b1;generalize t.extract (Wnum.dk t 0) t.size=r at *;go_enter func200,ntmps200;go_wp2_with fail
       refine (P _).mono ?_;rintro e w1 ⟨rfl,k1,rfl⟩;go_wp2_with fail
       rw [U.out];refine (Q _).mono ?_;rintro e w2 ⟨rfl,k2,rfl⟩;go_wp2;go_ret3
       exact ⟨rfl,_,rfl⟩
      ·have f0':Wnum.fB t=false:=by rw [f0,decide_eq_false c5,Bool.and_false]
       rw [(Wnum.f_false f0').1,(Wnum.f_false f0').2,f0'];rw [decide_eq_false (by omega)] at q2;clear f0 f1 f0' c46 c47 hu c5 ul ues;generalize Wnum.dv (Wnum.fS t) 0=v2 at *;generalize (Wnum.fS t).extract (Wnum.dk (Wnum.fS t) 0) (Wnum.fS t).size=r2 at *;generalize Wnum.fS t=u at *;generalize Wnum.dv t 0=v at *;clear hb es eb c3 kl b1;generalize t.extract (Wnum.dk t 0) t.size=r at *;go_enter func200,ntmps200;go_wp2_with fail
       refine (P _).mono ?_;rintro e w1 ⟨rfl,k1,rfl⟩;go_wp2_with fail
       rw [U.out];refine (Q _).mono ?_;rintro e w2 ⟨rfl,k2,rfl⟩;go_wp2;go_ret3
       exact ⟨rfl,_,rfl⟩
    ·have f0:=Wnum.f_other hb c3 c46 c47;rw [(Wnum.f_false f0).1,(Wnum.f_false f0).2,f0];have g1:(Wnum.fC t == 46)=false:=beq_eq_false_iff_ne.2 c46;have g2:(Wnum.fC t == 47)=false:=beq_eq_false_iff_ne.2 c47;clear f0 c46 c47 U us;generalize Wnum.fC t=c at *;generalize Wnum.dv t 0=v at *;clear hb es eb c3 kl b1;generalize t.extract (Wnum.dk t 0) t.size=r at *;go_enter func200,ntmps200;go_wp2_with fail
     refine (P _).mono ?_;rintro e w1 ⟨rfl,k1,rfl⟩;go_wp2;go_ret3
     exact ⟨rfl,k1,rfl⟩
theorem zFp (s:ByteArray) (p:Nat) (w:World) (hs:s.size<=9223372036854775807) (hp:p<=s.size) :
  Calls prog 149 #[.string s,.int .i64 (p:Int)] w λe w'=>e=.returned (.tuple #[.int .u64 (Wnum.pcN s p),.int .i64 (Wnum.pcI s p),.bool (Wnum.dB s p)])/\w=w':=by
 go_enter func149,ntmps149;go_wp2;go_loop [7,8] (λx i=>∃ q:Nat,∃ a:Int,p<=q/\q<=s.size/\x=.int .u64 a/\i=.int .i64 q/\0<=a/\a<=1000000000000000000/\Hid (q - p<=Wnum.dk s p)/\Hid (Wnum.say s p (q - p)=a)) (λ_ i=>s.size - (intOf i).toNat)
 case atStart=>exact ⟨p,0,Nat.le_refl _,hp,rfl,rfl,by omega,by omega,(by omega:p - p<=Wnum.dk s p),(by rw [Nat.sub_self];rfl:Wnum.say s p (p - p)=0)⟩
 case round =>
  obtain ⟨q,a,hq,hqs,rfl,rfl,ha,hb,HJ,ea⟩:=hrel;by_cases hlt:q<s.size
  ·have eb:=Wnum.bt_get hlt;obtain ⟨c0,c1⟩:=Wnum.bt_bd s q;obtain ⟨c,ec⟩:∃ c,c=Wnum.bt s q:=⟨_,rfl⟩
   have EC:Hid (Wnum.bt s (p+(q - p))=c):=by show _=_;rw [show p+(q - p)=q by omega,ec]
   rw [<-ec] at eb c0 c1;clear ec;by_cases d1:48<=c
   ·by_cases d2:c<=57
    ·have lt:=Wnum.dk_more HJ.out (by omega) (by rw [EC.out];exact ⟨d1,d2⟩);have LT:Hid (q - p<Wnum.dk s p):=lt;have SS:Hid (Wnum.say s p (q+1 - p)=a * 10+(c - 48)):=by show _=_;rw [show q+1 - p=q - p+1 by omega,Wnum.say_succ,ea.out,EC.out]
     clear lt;by_cases o1:100000000000000000<a
     ·obtain ⟨f1,f2,f0⟩:=Wnum.pc_over (s:=s) (p:=p) (j:=q+1 - p) (by have:=LT.out;omega) (by rw [SS.out];omega);have F0:Hid (Wnum.dB s p=false):=f0;have F1:Hid (Wnum.pcN s p=0):=f1;have F2:Hid (Wnum.pcI s p=0):=f2;clear f0 f1 f2;go_wp2;go_ret3
      exact ⟨by rw [F0.out,F1.out,F2.out];rfl,rfl⟩
     ·have n0:0<=a * 10+(c - 48):=by omega
      have n1:a * 10+(c - 48)<=1000000000000000009:=by omega
      by_cases o2:1000000000000000000<a * 10+(c - 48)
      ·obtain ⟨f1,f2,f0⟩:=Wnum.pc_over (s:=s) (p:=p) (j:=q+1 - p) (by have:=LT.out;omega) (by rw [SS.out];exact o2);have F0:Hid (Wnum.dB s p=false):=f0;have F1:Hid (Wnum.pcN s p=0):=f1;have F2:Hid (Wnum.pcI s p=0):=f2;clear f0 f1 f2;go_wp2;go_ret3
       exact ⟨by rw [F0.out,F1.out,F2.out];rfl,rfl⟩
      ·go_wp2;go_round
       case rel=>exact ⟨q+1,a * 10+(c - 48),by omega,by omega,by go_num,by go_num,n0,by omega,(by have:=LT.out;omega:q+1 - p<=Wnum.dk s p),SS⟩
       case measure=>simp [intOf];omega
    ·have d2':decide (c<=57)=false:=decide_eq_false d2;obtain ⟨f1,f2,f0⟩:=Wnum.pc_in hq (Wnum.dk_stop HJ.out (Or.inr (by rw [EC.out];intro h;exact d2 h.2))) (by rw [ea.out];exact hb);rw [ea.out] at f1;have F0:Hid (Wnum.dB s p=decide (p<q)):=f0;have F1:Hid (Wnum.pcN s p=a):=f1;have F2:Hid (Wnum.pcI s p=(q:Int)):=f2;clear f0 f1 f2;go_wp2;go_ret3
     exact ⟨by rw [F0.out,F1.out,F2.out];simp,rfl⟩
   ·have d1':decide (48<=c)=false:=decide_eq_false d1;obtain ⟨f1,f2,f0⟩:=Wnum.pc_in hq (Wnum.dk_stop HJ.out (Or.inr (by rw [EC.out];intro h;exact d1 h.1))) (by rw [ea.out];exact hb);rw [ea.out] at f1;have F0:Hid (Wnum.dB s p=decide (p<q)):=f0;have F1:Hid (Wnum.pcN s p=a):=f1;have F2:Hid (Wnum.pcI s p=(q:Int)):=f2;clear f0 f1 f2;go_wp2;go_ret3
    exact ⟨by rw [F0.out,F1.out,F2.out];simp,rfl⟩
  ·obtain ⟨f1,f2,f0⟩:=Wnum.pc_in hq (Wnum.dk_stop HJ.out (Or.inl (by omega))) (by rw [ea.out];exact hb);rw [ea.out] at f1;have F0:Hid (Wnum.dB s p=decide (p<q)):=f0;have F1:Hid (Wnum.pcN s p=a):=f1;have F2:Hid (Wnum.pcI s p=(q:Int)):=f2;clear f0 f1 f2;go_wp2;go_ret3
   exact ⟨by rw [F0.out,F1.out,F2.out];simp,rfl⟩
theorem make_neg' (n d N D:Int) (w:World) (eN:Hid (-n=N)) (eD:Hid (-d=D)) (h1:-9223372036854775807<=n) (h2:n<=9223372036854775807) (h3:-9223372036854775807<=d) (h4:d <= -1)
  (hN1:-9223372036854775807<=N) (hN2:N<=9223372036854775807) (hD:1<=D) (hD2:D<=9223372036854775807) :
  CR 201 #[.int .i64 n,.int .i64 d] w (.tuple #[.agg #[.int .i64 (Wnum.oN (some (Rat.divInt N D))),.int .i64 (Wnum.oD (some (Rat.divInt N D)))],.bool (Wnum.oB (some (Rat.divInt N D)))]):=by
 obtain ⟨g1,g2,g3,g4,g5⟩:=Wnum.mk_tdiv (n:=N) (d:=D) hD hN1 hN2;have k1:Hid ((Rat.divInt (N) (D)).num=Int.tdiv (N) ((Int.gcd (N) (D):Nat):Int)):=g4;have g8:Int.tdiv (D) ((Int.gcd (N) (D):Nat):Int)=(D) / ((Int.gcd (N) (D):Nat):Int):=Int.tdiv_eq_ediv_of_nonneg (by omega);have k2:Hid ((((Rat.divInt (N) (D)).den:Nat):Int)=Int.tdiv (D) ((Int.gcd (N) (D):Nat):Int)):=g5.trans g8.symm;have g6:0<=(D) / ((Int.gcd (N) (D):Nat):Int):=Int.ediv_nonneg (by omega) (by omega);have g7:(D) / ((Int.gcd (N) (D):Nat):Int)<=(D):=Int.ediv_le_self _ (by omega);rw [<-g8] at g6 g7;have g9:Int.tdiv (D) ((Int.gcd (N) (D):Nat):Int)<=9223372036854775807:=by omega
 have g10:-9223372036854775807<=Int.tdiv (D) ((Int.gcd (N) (D):Nat):Int):=by omega
 have hw:IntKind.i64.wrap (Int.tdiv (D) ((Int.gcd (N) (D):Nat):Int))=Int.tdiv (D) ((Int.gcd (N) (D):Nat):Int):=IntWalk.i64_in _ (by omega);have hwn:IntKind.i64.wrap (Int.tdiv (N) ((Int.gcd (N) (D):Nat):Int))=Int.tdiv (N) ((Int.gcd (N) (D):Nat):Int):=IntWalk.i64_in _ (by omega);clear g4 g5 g8 g7 g6;generalize Rat.divInt (N) (D)=r at *;have t0:(n == -9223372036854775808)=false:=beq_eq_false_iff_ne.2 (by omega);have t1:(d == -9223372036854775808)=false:=beq_eq_false_iff_ne.2 (by omega);have t2:(d == 0)=false:=beq_eq_false_iff_ne.2 (by omega);have t3:decide (d<0)=true:=by simp;omega
 go_enter func201,ntmps201;go_wp2_with fail
 rw [eN.out,eD.out];refine (zCL _ _ _ (by omega) (by omega) (by omega) (by omega)).mono ?_;rintro e w1 ⟨rfl,nq,rfl⟩;clear t0 t1 t2 t3;go_wp2_with fail
 go_region_with ((go_at_call 211;refine (zEB _ _ r _ g2 g3 k1 k2).mono ?_;rintro e w1 ⟨rfl,hb⟩;obtain ⟨hc,hf⟩:=zHj hb;have hz:=bsz (k:=w.heap.size) hb (by simp)))
 all_goals
  go_wp2;refine bodyPost_ret (v:=.tuple #[.agg #[.int .i64 (Wnum.oN (some r)),.int .i64 (Wnum.oD (some r))],.bool (Wnum.oB (some r))]) (by simp [results,results201,go_sem,hc]) rfl ⟨rfl,?_⟩;exact clA
theorem zMD (n d:Int) (w:World) (h1:-9223372036854775807<=n) (h2:n<=9223372036854775807) (h3:-9223372036854775807<=d) (h4:d <= -1) :
  CR 201 #[.int .i64 n,.int .i64 d] w (.tuple #[.agg #[.int .i64 (Wnum.oN (some (Rat.divInt (-n) (-d)))),.int .i64 (Wnum.oD (some (Rat.divInt (-n) (-d))))],.bool (Wnum.oB (some (Rat.divInt (-n) (-d))))]) :=
 make_neg' n d (-n) (-d) w (rfl:-n = -n) (rfl:-d = -d) h1 h2 h3 h4 (by omega) (by omega) (by omega) (by omega)
theorem zJB (n:Int) (w:World) (h1:-9223372036854775807<=n) (h2:n<=9223372036854775807) :
  CR 201 #[.int .i64 n,.int .i64 0] w (.tuple #[.agg #[.int .i64 0,.int .i64 0],.bool false]):=by
 have t0:(n == -9223372036854775808)=false:=beq_eq_false_iff_ne.2 (by omega);go_enter func201,ntmps201;go_wp2;refine bodyPost_ret (v:=.tuple #[.agg #[.int .i64 0,.int .i64 0],.bool false]) (by simp [results,results201,go_sem]) rfl ⟨rfl,?_⟩;exact clA
theorem zFU (n d:Int) (w:World) (h1:-9223372036854775807<=n) (h2:n<=9223372036854775807) (h3:-9223372036854775807<=d) (h4:d<=9223372036854775807) :
  CR 201 #[.int .i64 n,.int .i64 d] w (.tuple #[.agg #[.int .i64 (Wnum.oN (Wnum.mk n d)),.int .i64 (Wnum.oD (Wnum.mk n d))],.bool (Wnum.oB (Wnum.mk n d))]):=by
 rcases Int.lt_trichotomy d 0 with h | h | h
 ·rw [Wnum.mk_pos (show d ≠ 0 by omega),<-Rat.neg_divInt_neg];exact zMD n d w h1 h2 h3 (by omega)
 ·subst h;rw [Wnum.mk_zero];exact zJB n w h1 h2
 ·rw [Wnum.mk_pos (show d ≠ 0 by omega)];exact zLu n d w h1 h2 (by omega) h4
theorem zBM (m:Bool) (n d:Int) (w:World) (h1:0<=n) (h2:n<=18446744073709551615) (h3:1<=d) (h4:d<=18446744073709551615) :
  CR 150 #[.bool m,.int .u64 n,.int .u64 d] w (.tuple #[.agg #[.int .i64 (Wnum.oN (some (Rat.divInt (if m=true then -n else n) d))),.int .i64 (Wnum.oD (some (Rat.divInt (if m=true then -n else n) d)))],.bool (Wnum.oB (some (Rat.divInt (if m=true then -n else n) d)))]):=by
 cases m
 ·exact zLp n d w h1 h2 h3 h4
 ·exact zMg n d w h1 h2 h3 h4
end Go.Proofs.YtdghjlmnlodnlaaGreatDoor
namespace Go.Proofs.YtdghjlmnlodnlaaGreatDoor.Wnum
def minusB (s:ByteArray):Bool:=decide (0<s.size/\bt s 0=45)
def body (s:ByteArray):ByteArray:=if minusB s=true then s.extract 1 s.size else s
def sgnd (b:Bool) (n:Int):Int:=if b=true then -n else n
def rdO (s:ByteArray):Option Rat:=if fB (body s)=true then mk (sgnd (minusB s) (fN (body s))) (fD (body s)) else none
def aOf (s:ByteArray):Nat:=if minusB s=true then 1 else 0
theorem body_facts (s:ByteArray):(body s).size=s.size - aOf s/\(∀ i,bt (body s) i=bt s (aOf s+i))/\aOf s<=s.size:=by
 unfold body aOf;cases h:minusB s with
 | true =>
  have:=(of_decide_eq_true h).1;obtain ⟨h1,h2⟩:=sub_facts (t:=s) (p:=1) (by omega);exact ⟨h1,h2,by show 1<=s.size;omega⟩
 | false=>exact ⟨rfl,λi=>by show bt s i=bt s (0+i);rw [Nat.zero_add],Nat.zero_le _⟩
theorem zM5 {t:ByteArray} (h:dk t 0<t.size):(fS t).size=t.size - (dk t 0+1)/\∀ i,bt (fS t) i=bt t (dk t 0+1+i):=by
 obtain ⟨h1,h2⟩:=sub_facts (t:=t) (p:=dk t 0) (by omega);obtain ⟨h3,h4⟩:=sub_facts (t:=t.extract (dk t 0) t.size) (p:=1) (by omega);refine ⟨?_,λi=>?_⟩
 ·show ((t.extract (dk t 0) t.size).extract 1 (t.extract (dk t 0) t.size).size).size=_
  rw [h3,h1];omega
 ·show bt ((t.extract (dk t 0) t.size).extract 1 (t.extract (dk t 0) t.size).size) i=_
  rw [h4,h2,show dk t 0+(1+i)=dk t 0+1+i by omega]
theorem f_bd (t:ByteArray):0<=fN t/\fN t<=1000000000001000000/\0<=fD t/\fD t<=1000000000000000000:=by
 cases hf:fB t with
 | false=>rw [(f_false hf).1,(f_false hf).2];omega
 | true =>
  cases hb:dB t 0 with
  | false=>rw [f_none hb] at hf;cases hf
  | true =>
   obtain ⟨b1,b2,b3⟩:=dB_bd hb;by_cases e:dk t 0=t.size
   ·rw [(f_whole hb e).2.1,(f_whole hb e).2.2];omega
   ·by_cases c:fC t=46
    ·obtain ⟨g0,g1,g2⟩:=f_point hb e c;rw [g0] at hf;have hp:=hf;unfold plB at hp;simp only [Bool.and_eq_true,decide_eq_true_iff] at hp;obtain ⟨⟨⟨p1,p2⟩,p3⟩,p4⟩:=hp;have sm:=say_small (s:=fS t) (i:=0) (dk (fS t) 0) (dk_all (fS t) 0);have t1:=tenP_le6 (k:=(fS t).size) p1;have t2:=tenP_pos (fS t).size;have sv:dv (fS t) 0<tenP (fS t).size:=by unfold dv;rw [p4] at sm ⊢;exact sm
     have s0:=zFo (fS t) 0;rw [g1,g2,(pl_true hf).1,(pl_true hf).2];have m1:0<=dv t 0 * tenP (fS t).size:=Int.mul_nonneg b2 (by omega);have m2:dv t 0 * tenP (fS t).size<=1000000000000 * 1000000:=Int.mul_le_mul p2 t1 (by omega) (by omega);omega
    ·by_cases c':fC t=47
     ·obtain ⟨g0,g1⟩:=f_over hb e c';have hd:dB (fS t) 0=true:=by rw [g0,Bool.and_eq_true] at hf;exact hf.1
      obtain ⟨d1,d2,d3⟩:=dB_bd hd;rw [(g1 hf).1,(g1 hf).2];omega
     ·rw [f_other hb e c c'] at hf;cases hf
theorem r_none {s:ByteArray} (h:dB s (aOf s)=false):rdO s=none:=by
 obtain ⟨h1,h2,h3⟩:=body_facts s;have e:=(zC3 h1 h2 0).2.2;rw [Nat.add_zero,h] at e;unfold rdO;rw [f_none e];rfl
theorem r_whole {s:ByteArray} (h:dB s (aOf s)=true) (e:aOf s+dk s (aOf s)=s.size):rdO s=mk (sgnd (minusB s) (dv s (aOf s))) 1:=by
 obtain ⟨h1,h2,h3⟩:=body_facts s;obtain ⟨k1,k2,k3⟩:=zC3 h1 h2 0;rw [Nat.add_zero] at k1 k2 k3;obtain ⟨f0,f1,f2⟩:=f_whole (t:=body s) (by rw [k3,h]) (by rw [k1,h1];omega);unfold rdO;rw [f0,f1,f2,k2];rfl
theorem r_more {s:ByteArray} (h:dB s (aOf s)=true) (e:aOf s+dk s (aOf s)<s.size) :
  (¬ (dB s (aOf s+dk s (aOf s)+1)=true/\aOf s+dk s (aOf s)+1+dk s (aOf s+dk s (aOf s)+1)=s.size)->rdO s=none) /\
  (dB s (aOf s+dk s (aOf s)+1)=true->aOf s+dk s (aOf s)+1+dk s (aOf s+dk s (aOf s)+1)=s.size ->
   (bt s (aOf s+dk s (aOf s))=47->rdO s=mk (sgnd (minusB s) (dv s (aOf s))) (dv s (aOf s+dk s (aOf s)+1))) /\
   (¬ bt s (aOf s+dk s (aOf s))=47->¬ bt s (aOf s+dk s (aOf s))=46->rdO s=none) /\
   (bt s (aOf s+dk s (aOf s))=46->(6<dk s (aOf s+dk s (aOf s)+1) \/ 1000000000000<dv s (aOf s))->rdO s=none) /\
   (bt s (aOf s+dk s (aOf s))=46->dk s (aOf s+dk s (aOf s)+1)<=6->dv s (aOf s)<=1000000000000 ->
    rdO s=mk (sgnd (minusB s) (dv s (aOf s) * tenP (dk s (aOf s+dk s (aOf s)+1))+dv s (aOf s+dk s (aOf s)+1))) (tenP (dk s (aOf s+dk s (aOf s)+1))))):=by
 obtain ⟨h1,h2,h3⟩:=body_facts s;obtain ⟨k1,k2,k3⟩:=zC3 h1 h2 0;rw [Nat.add_zero] at k1 k2 k3;have hb:dB (body s) 0=true:=by rw [k3,h]
 have hlt:dk (body s) 0<(body s).size:=by rw [k1,h1];omega
 have hne:¬ dk (body s) 0=(body s).size:=by omega
 obtain ⟨g1,g2⟩:=zM5 hlt;have hC:fC (body s)=bt s (aOf s+dk s (aOf s)):=by unfold fC;rw [h2,k1]
 have hS:(fS (body s)).size=s.size - (aOf s+dk s (aOf s)+1):=by rw [g1,h1,k1];omega
 have hT:∀ i,bt (fS (body s)) i=bt s (aOf s+dk s (aOf s)+1+i):=λi=>by
  rw [g2,h2,k1,show aOf s+(dk s (aOf s)+1+i)=aOf s+dk s (aOf s)+1+i by omega]
 obtain ⟨l1,l2,l3⟩:=zC3 hS hT 0;rw [Nat.add_zero] at l1 l2 l3;generalize hi:aOf s+dk s (aOf s)+1=i1 at *;have lk:=dk_le s i1;have sz:(fS (body s)).size=dk s i1 ↔ i1+dk s i1=s.size:=by rw [hS];omega
 have hpl:plB (fS (body s)) (dv (body s) 0)=(decide ((fS (body s)).size<=6) && decide (dv s (aOf s)<=1000000000000) && dB s i1 && decide (dk s i1=(fS (body s)).size)):=by unfold plB;rw [k2,l3,l1]
 constructor
 ·intro hn;have hf:fB (body s)=false:=by
   by_cases c:fC (body s)=46
   ·rw [(f_point hb hne c).1,hpl];by_cases g:dB s i1=true
    ·have:¬ dk s i1=(fS (body s)).size:=λx=>hn ⟨g,sz.1 x.symm⟩
     rw [decide_eq_false this,Bool.and_false]
    ·rw [Bool.not_eq_true] at g;rw [g,Bool.and_false,Bool.false_and]
   ·by_cases c':fC (body s)=47
    ·rw [(f_over hb hne c').1,l3,l1];by_cases g:dB s i1=true
     ·have:¬ dk s i1=(fS (body s)).size:=λx=>hn ⟨g,sz.1 x.symm⟩
      rw [decide_eq_false this,Bool.and_false]
     ·rw [Bool.not_eq_true] at g;rw [g,Bool.false_and]
    ·exact f_other hb hne c c'
  unfold rdO;rw [hf];rfl
 ·intro hd he;have es:=sz.2 he;have esd:decide (dk s i1=(fS (body s)).size)=true:=decide_eq_true es.symm;refine ⟨λc=>?_,λc c'=>?_,λc hw=>?_,λc w1 w2=>?_⟩
  ·obtain ⟨f0,f1⟩:=f_over hb hne (hC.trans c);have hf:fB (body s)=true:=by rw [f0,l3,l1,hd,esd];rfl
   unfold rdO;rw [hf,(f1 hf).1,(f1 hf).2,k2,l2];rfl
  ·have hf:=f_other hb hne (by rw [hC];exact c') (by rw [hC];exact c);unfold rdO;rw [hf];rfl
  ·have hf:fB (body s)=false:=by
    rw [(f_point hb hne (hC.trans c)).1,hpl];rcases hw with hw | hw
    ·rw [decide_eq_false (p:=(fS (body s)).size<=6) (by omega)];rfl
    ·rw [decide_eq_false (p:=dv s (aOf s)<=1000000000000) (by omega),Bool.and_false];rfl
   unfold rdO;rw [hf];rfl
  ·obtain ⟨f0,f1,f2⟩:=f_point hb hne (hC.trans c);have hp:plB (fS (body s)) (dv (body s) 0)=true:=by rw [hpl,hd,esd,decide_eq_true (show (fS (body s)).size<=6 by omega),decide_eq_true w2];rfl
   unfold rdO;rw [f0,hp,f1,f2,(pl_true hp).1,(pl_true hp).2,k2,l2,es];rfl
end Go.Proofs.YtdghjlmnlodnlaaGreatDoor.Wnum
