/- Lemmas. -/
import Derived.Test.YtloponhikiddmaaGreatDoorQ12
import Derived.Lib.ItoaNum
import Derived.Lib.ItoaLen
import Derived.Lib.Slices
import Derived.Laws.IdiomStrings
import Derived.Shelf.Strconv.Itoa3
import Derived.Lib.AppendIntMem
import Derived.Shelf.Strings.Search1
set_option maxHeartbeats 8000000
set_option maxRecDepth 100000
set_option linter.unusedVariables false
open Go.RowKit.Below renaming refl->aZ
open Nat renaming le_refl->bZ,lt_or_ge->rZ
open Int renaming toNat_natCast->cZ,gcd->fZ,tdiv->hZ,eq_ofNat_of_zero_le->jZ,mul_nonneg->nZ,mul_le_mul->oZ
open ByteArray renaming extract->dZ,data_extract->eZ,ext->iZ,size->kZ,mk->qZ
open Bool renaming and_false->gZ,and_eq_true->mZ
open Go renaming World->wW,Value->vW,Calls->cW
open Go.RowKit renaming Hid->hH
open Go.Value renaming int->O,slice->U,string->V,bool->Y,pointer->pX,agg->gX,tuple->uX
open Go.IntKind renaming i64->J
open Go.Obj renaming cells->Z
open Go.Ending renaming returned->rX
open Go.Operand renaming tmp->mX
namespace Go.Proofs.YtloponhikiddmaaGreatDoor
open Tryz
open Go.RowKit
theorem zDS (r:ByteArray):(r.toList == ([]:List UInt8))=decide (r.size=0):=by
 rw [ByteArray.toList_eq];obtain ⟨⟨l⟩⟩:=r;cases l <;> rfl
theorem zCW (r:ByteArray):r.toList.isEmpty=decide (r.size=0):=by
 rw [ByteArray.toList_eq];obtain ⟨⟨l⟩⟩:=r;cases l <;> rfl
theorem zBy (n:Int) (t:ByteArray) (w:wW) (y:0<=n) (C:n<=1000000000000000000) (z:t.size<=9223372036854775807) :
  cW prog 122 #[O J n,V t] w λe w'=>e=rX (uX #[O J (Wnum.plN t n),O J (Wnum.plD t n),Y (Wnum.plB t n)])/\∃ k,w'=w.drewN k:=by
 by_cases B:6<t.size
 ·have a:Wnum.plB t n=false:=by unfold Wnum.plB;rw [decide_eq_false oM];rfl
  rw [(Wnum.pl_false a).1,(Wnum.pl_false a).2,a];clear a;go_enter func122,ntmps122;go_wp2;go_ret3
  exact ⟨rfl,0,rfl⟩
 have o:=decide_eq_false oM;by_cases q:1000000000000<n
 ·have a:Wnum.plB t n=false:=by unfold Wnum.plB;rw [decide_eq_false (p:=n<=1000000000000) oM,gZ,Bool.false_and];rfl
  rw [(Wnum.pl_false a).1,(Wnum.pl_false a).2,a];clear a;go_enter func122,ntmps122;go_wp2;go_ret3
  exact ⟨rfl,0,rfl⟩
 have u:=decide_eq_false q;have P:=λw=>zAN t w z
 cases b:Wnum.dB t 0 with
 | false =>
  have a:Wnum.plB t n=false:=by unfold Wnum.plB;rw [b,gZ];rfl
  rw [(Wnum.pl_false a).1,(Wnum.pl_false a).2,a];rw [b,(Wnum.rd_false b).1,(Wnum.rd_false b).2] at P;clear a b;go_enter func122,ntmps122;go_wp2_with fail
  refine (P _).mono ?_;rintro e m ⟨rfl,d,rfl⟩;go_wp2;go_ret3
  exact ⟨rfl,d,rfl⟩
 | true =>
  obtain ⟨b1,b2,b3⟩:=Wnum.dB_bd b;have l:=Wnum.dk_le t 0;have g:=(Wnum.sub_facts (t:=t) (p:=Wnum.dk t 0) oM).1;rw [b,(Wnum.rd_true b).1,(Wnum.rd_true b).2] at P;by_cases c:Wnum.dk t 0=t.size
  ·have a:Wnum.plB t n=true:=by unfold Wnum.plB;rw [b,decide_eq_true c,decide_eq_true (show t.size<=6 by omega),decide_eq_true (show n<=1000000000000 by omega)];rfl
   have F:Wnum.dv t 0<Wnum.tenP t.size:=by
    have:=Wnum.say_small (s:=t) (i:=0) (Wnum.dk t 0) (Wnum.dk_all t 0);rw [c] at this;unfold Wnum.dv;rw [c];exact this
   rw [(Wnum.pl_true a).1,(Wnum.pl_true a).2,a];have j:=zCW (t.extract (Wnum.dk t 0) t.size);rw [g,decide_eq_true oM] at j;generalize t.extract (Wnum.dk t 0) t.size=r at *;generalize Wnum.dv t 0=v at *;have A:=Wnum.tenP_le6 (k:=t.size) oM;have H:=Wnum.tenP_pos t.size;have T:=λw=>zJV (t.size:Int) w oM oM
   rw [cZ] at T;generalize Wnum.tenP t.size=f at *;have D:0<=n * f:=nZ y oM;have E:n * f<=1000000000000 * 1000000:=oZ oM A oM oM;clear a b g c l b1;go_enter func122,ntmps122;go_wp2_with fail
   refine (P _).mono ?_;rintro e m ⟨rfl,d,rfl⟩;go_wp2_with fail
   refine (T _).mono ?_;rintro e I ⟨rfl,rfl⟩;go_wp2;go_ret3
   exact ⟨rfl,d,rfl⟩
  ·have a:Wnum.plB t n=false:=by unfold Wnum.plB;rw [decide_eq_false c,gZ]
   rw [(Wnum.pl_false a).1,(Wnum.pl_false a).2,a];have j:=zCW (t.extract (Wnum.dk t 0) t.size);rw [g,decide_eq_false oM] at j;generalize t.extract (Wnum.dk t 0) t.size=r at *;generalize Wnum.dv t 0=v at *;clear a b g c l b1;go_enter func122,ntmps122;go_wp2_with fail
   refine (P _).mono ?_;rintro e m ⟨rfl,d,rfl⟩;go_wp2;go_ret3
   exact ⟨rfl,d,rfl⟩
theorem zBM (t:ByteArray) (w:wW) (M:t.size<=9223372036854775807) :
  cW prog 90 #[V t] w λe w'=>e=rX (uX #[O J (Wnum.fN t),O J (Wnum.fD t),Y (Wnum.fB t)])/\∃ k,w'=w.drewN k:=by
 have P:=λw=>zAN t w M
 cases f:Wnum.dB t 0 with
 | false =>
  have b:=Wnum.f_none f;rw [(Wnum.f_false b).1,(Wnum.f_false b).2,b];rw [f,(Wnum.rd_false f).1,(Wnum.rd_false f).2] at P;clear b f;go_enter func90,ntmps90;go_wp2_with fail
  refine (P _).mono ?_;rintro e A ⟨rfl,q,rfl⟩;go_wp2;go_ret3
  exact ⟨rfl,q,rfl⟩
 | true =>
  obtain ⟨b1,b2,b3⟩:=Wnum.dB_bd f;have z:=Wnum.dk_le t 0;obtain ⟨o,s⟩:=Wnum.sub_facts (t:=t) (p:=Wnum.dk t 0) oM;rw [f,(Wnum.rd_true f).1,(Wnum.rd_true f).2] at P;by_cases m:Wnum.dk t 0=t.size
  ·obtain ⟨b,j,C⟩:=Wnum.f_whole f m;rw [b,j,C];have F:=zDS (t.extract (Wnum.dk t 0) t.size);rw [o,decide_eq_true oM] at F;generalize t.extract (Wnum.dk t 0) t.size=r at *;generalize Wnum.dv t 0=v at *;clear b j C f o s m z b1;go_enter func90,ntmps90;go_wp2_with fail
   refine (P _).mono ?_;rintro e A ⟨rfl,q,rfl⟩;go_wp2;go_ret3
   exact ⟨rfl,q,rfl⟩
  ·have F:=zDS (t.extract (Wnum.dk t 0) t.size);rw [o,decide_eq_false oM] at F;have r0:0<(t.extract (Wnum.dk t 0) t.size).size:=by rw [o];omega
   have rs:(t.extract (Wnum.dk t 0) t.size).size<=9223372036854775807:=by rw [o];omega
   have B:=Wnum.bt_get r0;rw [s 0,Nat.add_zero] at B;have B:(((t.extract (Wnum.dk t 0) t.size)[0]'r0).toNat:Int)=Wnum.fC t:=B;have I:(Wnum.fS t).size<=9223372036854775807:=by
    have:=(Wnum.sub_facts (t:=t.extract (Wnum.dk t 0) t.size) (p:=1) oM).1;show (((t.extract (Wnum.dk t 0) t.size)).extract 1 (t.extract (Wnum.dk t 0) t.size).size).size<=_
    omega
   have i:hH ((t.extract (Wnum.dk t 0) t.size).extract 1 (t.extract (Wnum.dk t 0) t.size).size=Wnum.fS t):=(rfl:(t.extract (Wnum.dk t 0) t.size).extract 1 (t.extract (Wnum.dk t 0) t.size).size=Wnum.fS t)
   by_cases d:Wnum.fC t=46
   ·obtain ⟨b,j,C⟩:=Wnum.f_point f m d;rw [b,j,C];have Q:=λw=>zBy (Wnum.dv t 0) (Wnum.fS t) w b2 b3 I
    rw [d] at B;clear b j C d;generalize Wnum.fS t=u at *;generalize Wnum.dv t 0=v at *;clear f o s m z b1;generalize t.extract (Wnum.dk t 0) t.size=r at *;go_enter func90,ntmps90;go_wp2_with fail
    refine (P _).mono ?_;rintro e A ⟨rfl,q,rfl⟩;go_wp2_with fail
    rw [i.out];refine (Q _).mono ?_;rintro e K ⟨rfl,E,rfl⟩;go_wp2;go_ret3
    exact ⟨rfl,_,rfl⟩
   ·by_cases g:Wnum.fC t=47
    ·obtain ⟨b,j⟩:=Wnum.f_over f m g;have Q:=λw=>zAN (Wnum.fS t) w I
     rw [g] at B;cases l:Wnum.dB (Wnum.fS t) 0 with
     | false =>
      have a:Wnum.fB t=false:=by rw [b,l];rfl
      rw [(Wnum.f_false a).1,(Wnum.f_false a).2,a];rw [l,(Wnum.rd_false l).1,(Wnum.rd_false l).2] at Q;clear b j a d g l;generalize Wnum.fS t=u at *;generalize Wnum.dv t 0=v at *;clear f o s m z b1;generalize t.extract (Wnum.dk t 0) t.size=r at *;go_enter func90,ntmps90;go_wp2_with fail
      refine (P _).mono ?_;rintro e A ⟨rfl,q,rfl⟩;go_wp2_with fail
      rw [i.out];refine (Q _).mono ?_;rintro e K ⟨rfl,E,rfl⟩;go_wp2;go_ret3
      exact ⟨rfl,_,rfl⟩
     | true =>
      have L:=Wnum.dk_le (Wnum.fS t) 0;have y:=(Wnum.sub_facts (t:=Wnum.fS t) (p:=Wnum.dk (Wnum.fS t) 0) oM).1;have H:=zCW ((Wnum.fS t).extract (Wnum.dk (Wnum.fS t) 0) (Wnum.fS t).size);rw [y] at H;rw [l,(Wnum.rd_true l).1,(Wnum.rd_true l).2] at Q;by_cases D:Wnum.dk (Wnum.fS t) 0=(Wnum.fS t).size
      ·have a:Wnum.fB t=true:=by rw [b,l,decide_eq_true D];rfl
       rw [(j a).1,(j a).2,a];rw [decide_eq_true oM] at H;clear b j a d g l D L y;generalize Wnum.dv (Wnum.fS t) 0=R at *;generalize (Wnum.fS t).extract (Wnum.dk (Wnum.fS t) 0) (Wnum.fS t).size=N at *;generalize Wnum.fS t=u at *;generalize Wnum.dv t 0=v at *;clear f o s m z b1;generalize t.extract (Wnum.dk t 0) t.size=r at *;go_enter func90,ntmps90;go_wp2_with fail
       refine (P _).mono ?_;rintro e A ⟨rfl,q,rfl⟩;go_wp2_with fail
       rw [i.out];refine (Q _).mono ?_;rintro e K ⟨rfl,E,rfl⟩;go_wp2;go_ret3
       exact ⟨rfl,_,rfl⟩
      ·have a:Wnum.fB t=false:=by rw [b,decide_eq_false D,gZ]
       rw [(Wnum.f_false a).1,(Wnum.f_false a).2,a];rw [decide_eq_false oM] at H;clear b j a d g l D L y;generalize Wnum.dv (Wnum.fS t) 0=R at *;generalize (Wnum.fS t).extract (Wnum.dk (Wnum.fS t) 0) (Wnum.fS t).size=N at *;generalize Wnum.fS t=u at *;generalize Wnum.dv t 0=v at *;clear f o s m z b1;generalize t.extract (Wnum.dk t 0) t.size=r at *;go_enter func90,ntmps90;go_wp2_with fail
       refine (P _).mono ?_;rintro e A ⟨rfl,q,rfl⟩;go_wp2_with fail
       rw [i.out];refine (Q _).mono ?_;rintro e K ⟨rfl,E,rfl⟩;go_wp2;go_ret3
       exact ⟨rfl,_,rfl⟩
    ·have b:=Wnum.f_other f m d g;rw [(Wnum.f_false b).1,(Wnum.f_false b).2,b];have S:=beq_eq_false_iff_ne.2 d;have T:(Wnum.fC t == 47)=false:=beq_eq_false_iff_ne.2 g;clear b d g i I;generalize Wnum.fC t=c at *;generalize Wnum.dv t 0=v at *;clear f o s m z b1;generalize t.extract (Wnum.dk t 0) t.size=r at *;go_enter func90,ntmps90;go_wp2_with fail
     refine (P _).mono ?_;rintro e A ⟨rfl,q,rfl⟩;go_wp2;go_ret3
     exact ⟨rfl,q,rfl⟩
theorem make_neg' (n d N D:Int) (w:wW) (o:hH (-n=N)) (m:hH (-d=D)) (P:-9223372036854775807<=n) (Q:n<=9223372036854775807) (R:-9223372036854775807<=d) (S:d <= -1)
  (b:-9223372036854775807<=N) (c:N<=9223372036854775807) (u:1<=D) (y:D<=9223372036854775807) :
  CR 91 #[O J n,O J d] w (uX #[gX #[O J (Wnum.oN (some (Rat.divInt N D))),O J (Wnum.oD (some (Rat.divInt N D)))],Y (Wnum.oB (some (Rat.divInt N D)))]):=by
 obtain ⟨L,s,t,f,g⟩:=Wnum.mk_tdiv (n:=N) (d:=D) u b c;have B:=hid f;have a:hZ (D) ((fZ (N) (D):Nat):Int)=(D) / ((fZ (N) (D):Nat):Int):=Int.tdiv_eq_ediv_of_nonneg oM;have C:=hid (g.trans a.symm);have i:0<=(D) / ((fZ (N) (D):Nat):Int):=Int.ediv_nonneg oM oM;have j:(D) / ((fZ (N) (D):Nat):Int)<=(D):=Int.ediv_le_self _ oM;rw [<-a] at i j;have M:hZ (D) ((fZ (N) (D):Nat):Int)<=9223372036854775807:=oM;have q:-9223372036854775807<=hZ (D) ((fZ (N) (D):Nat):Int):=oM;have X:J.wrap (hZ (D) ((fZ (N) (D):Nat):Int))=hZ (D) ((fZ (N) (D):Nat):Int):=IntWalk.i64_in _ oM;have A:J.wrap (hZ (N) ((fZ (N) (D):Nat):Int))=hZ (N) ((fZ (N) (D):Nat):Int):=IntWalk.i64_in _ oM;clear f g a j i;generalize Rat.divInt (N) (D)=r at *;have E:(n == -9223372036854775808)=false:=beq_eq_false_iff_ne.2 oM;have F:(d == -9223372036854775808)=false:=beq_eq_false_iff_ne.2 oM;have H:(d == 0)=false:=beq_eq_false_iff_ne.2 oM;have I:decide (d<0)=true:=by simp;omega
 go_enter func91,ntmps91;go_wp2_with fail
 rw [o.out,m.out];refine (zA7 _ _ _ oM oM oM oM).mono ?_;rintro e K ⟨rfl,nq,rfl⟩;clear E F H I;go_wp2_with fail
 go_region_with ((go_at_call 124;refine (zB1 _ _ r _ s t B C).mono ?_;rintro e K ⟨rfl,l⟩;obtain ⟨z,T⟩:=zOf l;have hz:=bsz (k:=w.heap.size) l sM))
 all_goals
  go_wp2;refine bodyPost_ret (v:=uX #[gX #[O J (Wnum.oN (some r)),O J (Wnum.oD (some r))],Y (Wnum.oB (some r))]) (by simp [results,results91,go_sem,z]) rfl ⟨rfl,?_⟩;exact clA
theorem zLb (n d:Int) (w:wW) (a:-9223372036854775807<=n) (b:n<=9223372036854775807) (c:-9223372036854775807<=d) (e:d <= -1) :
  CR 91 #[O J n,O J d] w (uX #[gX #[O J (Wnum.oN (some (Rat.divInt (-n) (-d)))),O J (Wnum.oD (some (Rat.divInt (-n) (-d))))],Y (Wnum.oB (some (Rat.divInt (-n) (-d))))]) :=
 make_neg' n d (-n) (-d) w (rfl:-n = -n) (rfl:-d = -d) a b c e oM oM oM oM
theorem zHr (n:Int) (w:wW) (a:-9223372036854775807<=n) (b:n<=9223372036854775807) :
  CR 91 #[O J n,O J 0] w (uX #[gX #[O J 0,O J 0],Y false]):=by
 have c:(n == -9223372036854775808)=false:=beq_eq_false_iff_ne.2 oM;go_enter func91,ntmps91;go_wp2;refine bodyPost_ret (v:=uX #[gX #[O J 0,O J 0],Y false]) (by simp [results,results91,go_sem]) rfl ⟨rfl,?_⟩;exact clA
theorem zDu (n d:Int) (w:wW) (a:-9223372036854775807<=n) (b:n<=9223372036854775807) (c:-9223372036854775807<=d) (e:d<=9223372036854775807) :
  CR 91 #[O J n,O J d] w (uX #[gX #[O J (Wnum.oN (Wnum.mk n d)),O J (Wnum.oD (Wnum.mk n d))],Y (Wnum.oB (Wnum.mk n d))]):=by
 rcases Int.lt_trichotomy d 0 with h | h | h
 ·rw [Wnum.mk_pos (show d ≠ 0 by omega),<-Rat.neg_divInt_neg];exact zLb n d w a b c oM
 ·subst h;rw [Wnum.mk_zero];exact zHr n w a b
 ·rw [Wnum.mk_pos (show d ≠ 0 by omega)];exact zLJ n d w a b oM e
end Go.Proofs.YtloponhikiddmaaGreatDoor
namespace Go.Proofs.YtloponhikiddmaaGreatDoor.Wnum
def minusB (s:ByteArray):Bool:=decide (0<s.size/\bt s 0=45)
def body (s:ByteArray):ByteArray:=if minusB s=true then s.extract 1 s.size else s
def sgnd (b:Bool) (n:Int):Int:=if b=true then -n else n
def rdO (s:ByteArray):Option Rat:=if fB (body s)=true then mk (sgnd (minusB s) (fN (body s))) (fD (body s)) else none
def aOf (s:ByteArray):Nat:=if minusB s=true then 1 else 0
theorem body_facts (s:ByteArray):(body s).size=s.size - aOf s/\(∀ i,bt (body s) i=bt s (aOf s+i))/\aOf s<=s.size:=by
 unfold body aOf;cases h:minusB s with
 | true =>
  have:=(of_decide_eq_true h).1;obtain ⟨a,b⟩:=sub_facts (t:=s) (p:=1) oM;exact ⟨a,b,by show 1<=s.size;omega⟩
 | false=>exact ⟨rfl,λi=>by show bt s i=bt s (0+i);rw [Nat.zero_add],Nat.zero_le _⟩
theorem f_bd (t:ByteArray):0<=fN t/\fN t<=1000000000001000000/\0<=fD t/\fD t<=1000000000000000000:=by
 cases a:fB t with
 | false=>rw [(f_false a).1,(f_false a).2];omega
 | true =>
  cases b:dB t 0 with
  | false=>rw [f_none b] at a;cases a
  | true =>
   obtain ⟨b1,b2,b3⟩:=dB_bd b;by_cases e:dk t 0=t.size
   ·rw [(f_whole b e).2.1,(f_whole b e).2.2];omega
   ·by_cases c:fC t=46
    ·obtain ⟨f,d,m⟩:=f_point b e c;rw [f] at a;have g:=a;unfold plB at g;simp only [mZ,decide_eq_true_iff] at g;obtain ⟨⟨⟨o,q⟩,D⟩,r⟩:=g;have l:=say_small (s:=fS t) (i:=0) (dk (fS t) 0) (dk_all (fS t) 0);have u:=tenP_le6 (k:=(fS t).size) o;have H:=tenP_pos (fS t).size;have F:dv (fS t) 0<tenP (fS t).size:=by unfold dv;rw [r] at l ⊢;exact l
     have E:=zD4 (fS t) 0;rw [d,m,(pl_true a).1,(pl_true a).2];have B:0<=dv t 0 * tenP (fS t).size:=nZ b2 oM;have C:dv t 0 * tenP (fS t).size<=1000000000000 * 1000000:=oZ q u oM oM;omega
    ·by_cases j:fC t=47
     ·obtain ⟨f,d⟩:=f_over b e j;have hd:dB (fS t) 0=true:=by rw [f,mZ] at a;exact a.1
      obtain ⟨y,z,A⟩:=dB_bd hd;rw [(d a).1,(d a).2];omega
     ·rw [f_other b e c j] at a;cases a
end Go.Proofs.YtloponhikiddmaaGreatDoor.Wnum
namespace Go.Proofs.YtloponhikiddmaaGreatDoor
open Tryz
open Go.RowKit
variable {ka kb:Nat} {k p:Int} {x:List UInt8} {W:wW}
theorem zMo (s:ByteArray) (h:0<s.size):((s.extract 0 1).toList == [(45:UInt8)])=decide (Wnum.bt s 0=45):=by
 rw [ByteArray.toList_eq];obtain ⟨⟨l⟩⟩:=s;cases l with
 | nil=>exact absurd h (Nat.lt_irrefl 0)
 | cons b l =>
  have e:((qZ ⟨b::l⟩).extract 0 1).data.toList=[b]:=sM;rw [e];have c:Wnum.bt (qZ ⟨b::l⟩) 0=(b.toNat:Int):=rfl;rw [c];by_cases a:b=45
  ·subst a;rfl
  ·have d:([b] == [(45:UInt8)])=false:=by simp [a]
   have f:¬ ((b.toNat:Nat):Int)=45:=λx=>a (UInt8.toNat_inj.1 (by
     have:b.toNat=45:=oM;rw [this];rfl))
   rw [d,decide_eq_false f]
theorem zON (s:ByteArray) (w:wW) (f:s.size<=9223372036854775807) :
  cW prog 52 #[V s,V ⟨#[45]⟩] w λe w'=>e=rX (uX #[V (Wnum.body s),Y (Wnum.minusB s)])/\w=w':=by
 by_cases b:0<s.size
 ·have d:=zMo s b;by_cases a:Wnum.bt s 0=45
  ·have m:Wnum.minusB s=true:=decide_eq_true ⟨b,a⟩;have e:Wnum.body s=s.extract 1 s.size:=by unfold Wnum.body;rw [m];rfl
   rw [m,e];rw [decide_eq_true a] at d;have c:(1:Int)<=(s.size:Int):=oM;clear m e a;go_enter func52,ntmps52;go_wp2;go_ret2
   exact ⟨rfl,rfl⟩
  ·have m:Wnum.minusB s=false:=decide_eq_false (λx=>a x.2);have e:Wnum.body s=s:=by unfold Wnum.body;rw [m];rfl
   rw [m,e];rw [decide_eq_false a] at d;have c:(1:Int)<=(s.size:Int):=oM;clear m e a;go_enter func52,ntmps52;go_wp2;go_ret2
   exact ⟨rfl,rfl⟩
 ·have m:Wnum.minusB s=false:=decide_eq_false (λx=>b x.1);have e:Wnum.body s=s:=by unfold Wnum.body;rw [m];rfl
  rw [m,e];have c:decide ((1:Int)<=(s.size:Int))=false:=decide_eq_false oM;clear m e;go_enter func52,ntmps52;go_wp2;go_ret2
  exact ⟨rfl,rfl⟩
theorem zCZ (s:ByteArray) (w:wW) (B:s.size<=9223372036854775807) :
  CR 56 #[V s] w (uX #[gX #[O J (Wnum.oN (Wnum.rdO s)),O J (Wnum.oD (Wnum.rdO s))],Y (Wnum.oB (Wnum.rdO s))]):=by
 have C:=λw=>zON s w B
 have c:(Wnum.body s).size<=9223372036854775807:=by have:=(Wnum.body_facts s).1;omega
 have R:=λw=>zBM (Wnum.body s) w c
 obtain ⟨b1,b2,b3,y⟩:=Wnum.f_bd (Wnum.body s);cases b:Wnum.fB (Wnum.body s) with
 | false =>
  have e:Wnum.rdO s=none:=by unfold Wnum.rdO;rw [b];rfl
  rw [e];rw [b,(Wnum.f_false b).1,(Wnum.f_false b).2] at R;clear e b b1 b2 b3 y c;generalize Wnum.body s=t at *;generalize Wnum.minusB s=m at *;go_enter func56,ntmps56;go_wp2_with fail
  refine (C _).mono ?_;rintro e f ⟨rfl,rfl⟩;go_wp2_with fail
  refine (R _).mono ?_;rintro e f ⟨rfl,u,rfl⟩;go_wp2;refine bodyPost_ret (v:=uX #[gX #[O J 0,O J 0],Y false]) (by simp [results,results56,go_sem]) rfl ⟨rfl,?_⟩;exact clA
 | true =>
  have e:Wnum.rdO s=Wnum.mk (Wnum.sgnd (Wnum.minusB s) (Wnum.fN (Wnum.body s))) (Wnum.fD (Wnum.body s)):=by unfold Wnum.rdO;rw [b];rfl
  rw [e];rw [b] at R;clear e b c;generalize Wnum.fN (Wnum.body s)=n at *;generalize Wnum.fD (Wnum.body s)=d at *;generalize Wnum.body s=t at *;cases i:Wnum.minusB s with
  | false =>
   rw [i] at C;have M:=λw=>zDu n d w oM oM oM oM
   rw [show Wnum.sgnd false n=n from rfl];generalize Wnum.mk n d=o at *;clear i;go_enter func56,ntmps56;go_wp2_with fail
   refine (C _).mono ?_;rintro e f ⟨rfl,rfl⟩;go_wp2_with fail
   refine (R _).mono ?_;rintro e f ⟨rfl,u,rfl⟩;go_wp2_with fail
   refine (M _).mono ?_;rintro e g ⟨rfl,a⟩;have r:At g w.heap.size (O J 0) (O J 0):=At.below a (At.drewN (At.new w _ rfl _ _) _);have q:bL w g:=QA (Ql ((aZ _ w).alloc (bZ _) _) _) a;obtain ⟨j,l,z,A⟩:=r;go_wp2;refine bodyPost_ret (v:=uX #[gX #[O J (Wnum.oN o),O J (Wnum.oD o)],Y (Wnum.oB o)]) (by simp [results,results56,go_sem,j,l]) rfl ⟨rfl,?_⟩;exact zDw q oM _ _
  | true =>
   rw [i] at C;have M:=λw=>zDu (-n) d w oM oM oM oM
   rw [show Wnum.sgnd true n = -n from rfl];generalize Wnum.mk (-n) d=o at *;clear i;go_enter func56,ntmps56;go_wp2_with fail
   refine (C _).mono ?_;rintro e f ⟨rfl,rfl⟩;go_wp2_with fail
   refine (R _).mono ?_;rintro e f ⟨rfl,u,rfl⟩;go_wp2_with fail
   refine (M _).mono ?_;rintro e g ⟨rfl,a⟩;have r:At g w.heap.size (O J 0) (O J 0):=At.below a (At.drewN (At.new w _ rfl _ _) _);have q:bL w g:=QA (Ql ((aZ _ w).alloc (bZ _) _) _) a;obtain ⟨j,l,z,A⟩:=r;go_wp2;refine bodyPost_ret (v:=uX #[gX #[O J (Wnum.oN o),O J (Wnum.oD o)],Y (Wnum.oB o)]) (by simp [results,results56,go_sem,j,l]) rfl ⟨rfl,?_⟩;exact zDw q oM _ _
def fNames:List (List UInt8):=[[],[35,68,73,86,47,48,33],[35,86,65,76,85,69,33],[35,82,69,70,33],[35,78,85,77,33],[35,78,47,65],[35,67,73,82,67,76,69,33],[35,76,79,78,71,33],[35,65,82,71,33]]
def fltR:List vW:=fNames.map λx=>V ⟨x.toArray⟩
def FltAt (w:wW):Prop:=w.rangeAt 0 0 fltR
theorem FltAt.below {w w':wW} (h:FltAt w) (a:bL w w'):FltAt w':=λj v b=>QC a (h j v b)
theorem zIN:∀ (j:Nat) (h:j<fNames.length) (w:wW),(Instr.index 169 (gX fltR.toArray) (O J (j:Int))).run prog w=.ok (V ⟨(fNames[j]).toArray⟩) w
 | 0,_,w=>by kernel_rfl
 | 1,_,w=>by kernel_rfl
 | 2,_,w=>by kernel_rfl
 | 3,_,w=>by kernel_rfl
 | 4,_,w=>by kernel_rfl
 | 5,_,w=>by kernel_rfl
 | 6,_,w=>by kernel_rfl
 | 7,_,w=>by kernel_rfl
 | 8,_,w=>by kernel_rfl
 | j+9,h,w=>absurd h (by show ¬ j+9<9;omega)
def fi (s:List UInt8):Nat->List (List UInt8)->Nat
 | _,[]=>0
 | j,n::r=>if n=s then j else fi s (j+1) r
theorem zAk (s:ByteArray) (w:wW) (m:FltAt w):cW prog 60 #[V s] w λe w'=>e=rX (O J (fi s.toList 0 fNames:Nat))/\w=w':=by
 obtain ⟨R,f⟩:=xV (fi s.toList 0 fNames)
 have i:hH (R=fi s.toList 0 (fNames.drop 0)):=f.symm;rw [f];clear f;have d:World.rangeAt w 0 0 fltR:=m;go_enter func60,ntmps60;go_upto_region 1 with fail
 go_wp2_with ((with_reducible refine wpList_load_mid (cs:=fltR) ?_ 169 (.global 0) ?_ 0 0 ?_ _ d underlying169 ?_ ?_ ?_);rfl;rfl;rfl;rfl;kernel_rfl)
 go_loopg [6] 9 (λgk x wr=>∃ j:Nat,x=O J j/\gk=9 - j/\j<=9/\hH (R=fi s.toList j (fNames.drop j))/\wr=w)
 case atStart=>exact ⟨0,rfl,rfl,Nat.zero_le _,i,rfl⟩
 case round =>
  obtain ⟨j,rfl,r,t,a,rfl⟩:=hrel;by_cases b:j<9
  ·have g:(j:Int)<9:=oM;have o:=zIN j b;have hd:=List.drop_eq_getElem_cons (l:=fNames) b;generalize fNames[j]=x at *;rw [hd] at a;clear hd;by_cases c:x=s.toList
   ·have E:hH (R=j):=by show _=_;rw [a.out,fi,if_pos c]
    subst c;clear a;go_wp2;go_ret;exact ⟨by rw [E.out];rfl,rfl⟩
   ·have q:(x == s.toList)=false:=by simp [c]
    have E:hH (R=fi s.toList (j+1) (fNames.drop (j+1))):=by show _=_;rw [a.out,fi,if_neg c]
    clear a;go_wp2_with fail
    go_roundg (9 - (j+1))
    case rel=>exact ⟨j+1,sM,rfl,b,E,by first | trivial | rfl⟩
    case measure=>omega
  ·have g:¬ (j:Int)<9:=oM;have E:hH (R=0):=by
    show _=_
    rw [a.out,List.drop_eq_nil_of_le (by show 9<=j;omega)];rfl
   clear a;go_wp2;go_ret;exact ⟨by rw [E.out];rfl,rfl⟩
theorem zA6 (s:ByteArray) (w:wW) (a:¬ s.toList=[84,82,85,69]) (c:¬ s.toList=[70,65,76,83,69]):cW prog 58 #[V s] w λe w'=>e=rX (uX #[Y false,Y false])/\w=w':=by
 have b:(s.toList == [84,82,85,69])=false:=by simp [a]
 have d:(s.toList == [70,65,76,83,69])=false:=by simp [c]
 go_enter func58,ntmps58;go_wp2;go_ret2
 exact ⟨rfl,rfl⟩
theorem zD0 (s:ByteArray) (w:wW) (a:0<s.size) (c:((s.extract 0 1).toList == [39])=false) :
  cW prog 52 #[V s,V ⟨#[39]⟩] w λe w'=>e=rX (uX #[V s,Y false])/\w=w':=by
 have b:(1:Int)<=(s.size:Int):=oM;go_enter func52,ntmps52;go_wp2;go_ret2
 exact ⟨rfl,rfl⟩
theorem zKq (s:ByteArray) (c:Nat) (w:wW) (K:FltAt w) (u:0<s.size) (hs:s.size<=1024) (A:((s.extract 0 1).toList == [39])=false) (z:Wnum.rdO s=none) (H:¬ s.toList=[84,82,85,69]) (I:¬ s.toList=[70,65,76,83,69]) (y:fi s.toList 0 fNames=c) (L:1<=c) (M:c<=8) :
  CR 39 #[V s] w (vlV ⟨4,0,0,⟨#[]⟩,false,c⟩):=by
 have P:s.toList.isEmpty=false:=zC1 (λe=>by subst e;exact absurd u dM);have C:=λw=>zD0 s w u A
 have g:=λw=>zCZ s w oM
 rw [z] at g;have D:=λw=>zA6 s w H I
 have r:=λw h=>zAk s w h
 rw [y] at r;have i:=λw=>zA1 (c:Int) w
 have t:Jp (c:Int)=⟨4,0,0,⟨#[]⟩,false,c⟩:=by
  unfold Jp Wv.flt;rw [decide_eq_true oM,decide_eq_true oM];rfl
 rw [t] at i;clear t A z y;simp only [vlV,vl6] at i;have F:Wnum.oB (none:Option Rat)=false:=rfl;have en:Wnum.oN (none:Option Rat)=0:=rfl;have E:Wnum.oD (none:Option Rat)=0:=rfl;rw [F,en,E] at g;have N:((c:Int) == 0)=false:=by rw [beq_eq_false_iff_ne];omega
 have B:=vlz w;have b:=QJ (aZ _ w) (Z zV0 65);have f:=K.below b;go_enter func39,ntmps39;go_wp2_with fail
 refine (C _).mono ?_;rintro e w1 ⟨rfl,rfl⟩;go_wp2_with fail
 refine (g _).mono ?_;rintro e w2 ⟨rfl,d⟩;have q:=AtL.below d B;have j:=QA b d;have m:=f.below d;clear B b f d;go_wp2_with fail
 refine (D _).mono ?_;rintro e Q ⟨rfl,rfl⟩;have o:=m.below ((aZ _ _).alloc (bZ _) (Z #[O J 0,O J 0] 63));go_wp2_with fail
 refine (r _ o).mono ?_;rintro e Q ⟨rfl,rfl⟩;go_wp2_with fail
 refine (i _).mono ?_;rintro e w4 ⟨rfl,d⟩;have a:=AtL.below d (AtL.alloc q _);have l:=QA (QJ j _) d;obtain ⟨R,S,T,X,c4,c5⟩:=a.f6;have g0:=a.2.2 0 dM;have g1:=a.2.2 1 dM;have g2:=a.2.2 2 dM;have g3:=a.2.2 3 dM;have g4:=a.2.2 4 dM;have g5:=a.2.2 5 dM;go_wp2;refine bodyPost_ret (v:=vlV ⟨4,0,0,⟨#[]⟩,false,c⟩) (by simp [results,results39,go_sem,vlV,vl6, *]) rfl ⟨rfl,?_⟩;exact (clB l)
def Vj (t:Wlx.TV):Option Wt.Vl :=
 if t.k=1 then (if Wnum.oB (Wnum.rdO ⟨t.t.toArray⟩)=true then some (Vs (Wnum.oN (Wnum.rdO ⟨t.t.toArray⟩)) (Wnum.oD (Wnum.rdO ⟨t.t.toArray⟩))) else none)
 else if t.k=2 then (if t.t.length<=256 then some (VN ⟨t.t.toArray⟩) else none)
 else if t.k=4 then some ⟨4,0,0,⟨#[]⟩,false,(fi t.t 0 fNames:Nat)⟩
 else none
def Qd (t:Wlx.TV):Prop:=t.t.length<=1024/\(t.k=4->∃ i,∃ h:i<9,1<=i/\t.t=fNames[i]'h)
def zBY (t:Wlx.TV) (e:Ending):Prop:=∃ v ok,e=rX (uX #[vlV v,Y ok])/\Vj t=if ok then some v else none
theorem J1 (b:UInt8) (l:List UInt8) (c:Nat) (w:wW) (m:FltAt w) (r:l.length<1024) (o:(b == 39)=false) (q:Wnum.rdO ⟨(b::l).toArray⟩=none) (i:¬ b::l=[84,82,85,69]) (j:¬ b::l=[70,65,76,83,69]) (f:fi (b::l) 0 fNames=c) (a:1<=c) (d:c<=8) :
  CR 39 #[V ⟨(b::l).toArray⟩] w (vlV ⟨4,0,0,⟨#[]⟩,false,((fi (b::l) 0 fNames:Nat):Int)⟩):=by
 have e:(⟨(b::l).toArray⟩:ByteArray).toList=b::l:=by rw [ByteArray.toList_eq]
 have g:((⟨(b::l).toArray⟩:ByteArray).extract 0 1).toList=[b]:=by rw [ByteArray.toList_eq];simp
 rw [f];exact zKq ⟨(b::l).toArray⟩ c w m (by show 0<(b::l).length;simp) (by show (b::l).length<=1024;simp;omega) (by rw [g];simpa using o) q (by rw [e];exact i) (by rw [e];exact j) (by rw [e];exact f) a d
theorem zHZ:∀ (i:Nat) (h:i<9),1<=i->∀ (w:wW),FltAt w->CR 39 #[V ⟨(fNames[i]'h).toArray⟩] w (vlV ⟨4,0,0,⟨#[]⟩,false,((fi (fNames[i]'h) 0 fNames:Nat):Int)⟩)
 | 0,_,h,_,_=>absurd h dM
 | 1,_,_,w,hF=>J1 35 [68,73,86,47,48,33] 1 w hF dM dM (by decide +kernel) dM dM dM dM dM
 | 2,_,_,w,hF=>J1 35 [86,65,76,85,69,33] 2 w hF dM dM (by decide +kernel) dM dM dM dM dM
 | 3,_,_,w,hF=>J1 35 [82,69,70,33] 3 w hF dM dM (by decide +kernel) dM dM dM dM dM
 | 4,_,_,w,hF=>J1 35 [78,85,77,33] 4 w hF dM dM (by decide +kernel) dM dM dM dM dM
 | 5,_,_,w,hF=>J1 35 [78,47,65] 5 w hF dM dM (by decide +kernel) dM dM dM dM dM
 | 6,_,_,w,hF=>J1 35 [67,73,82,67,76,69,33] 6 w hF dM dM (by decide +kernel) dM dM dM dM dM
 | 7,_,_,w,hF=>J1 35 [76,79,78,71,33] 7 w hF dM dM (by decide +kernel) dM dM dM dM dM
 | 8,_,_,w,hF=>J1 35 [65,82,71,33] 8 w hF dM dM (by decide +kernel) dM dM dM dM dM
 | j+9,h,_,_,_=>absurd h oM
theorem zMS (s:ByteArray):(-9223372036854775808<=Wnum.oN (Wnum.rdO s)/\Wnum.oN (Wnum.rdO s)<=9223372036854775807)/\(-9223372036854775808<=Wnum.oD (Wnum.rdO s)/\Wnum.oD (Wnum.rdO s)<=9223372036854775807):=by
 cases Wnum.rdO s with
 | none=>exact ⟨⟨dM,dM⟩,dM,dM⟩
 | some r =>
  simp only [Wnum.oN,Wnum.oD];by_cases h:Wnum.okQ r=true
  ·rw [if_pos h,if_pos h];have:=of_decide_eq_true h;omega
  ·rw [if_neg h,if_neg h];omega
abbrev LvS (ka kb:Nat) (k:Int) (x:List UInt8) (p:Int) (W:wW):Prop :=
 W.cell? ⟨ka,0,none⟩=some (O J k)/\W.cell? ⟨ka,1,none⟩=some (V ⟨x.toArray⟩)/\W.cell? ⟨ka,2,none⟩=some (O J p)/\W.frozen? ⟨kb,0,none⟩=false/\W.frozen? ⟨kb,1,none⟩=false/\W.frozen? ⟨kb,2,none⟩=false/\W.frozen? ⟨kb,3,none⟩=false/\W.frozen? ⟨kb,4,none⟩=false/\W.frozen? ⟨kb,5,none⟩=false
theorem zHg {c:List vW} (b:AtL W ka [O J k,V ⟨x.toArray⟩,O J p]) (a:AtL W kb c) (d:c.length=6):LvS ka kb k x p W :=
 ⟨b.2.1 0 _ rfl,b.2.1 1 _ rfl,b.2.1 2 _ rfl,a.2.2 0 oM,a.2.2 1 oM,a.2.2 2 oM,a.2.2 3 oM,a.2.2 4 oM,a.2.2 5 oM⟩
theorem zAu (h:LvS ka kb k x p W) (a:kb ≠ ka) (j:Nat) (u:vW):LvS ka kb k x p (W.setCell ⟨kb,j,none⟩ u):=by
 obtain ⟨i,l,m,b,c,d,e,f,g⟩:=h;refine ⟨?_,?_,?_,?_,?_,?_,?_,?_,?_⟩;any_goals rw [World.cell?_setCell_far _ _ _ _ (by simpa using a)];assumption
 all_goals rw [World.frozen?_setCell];assumption
theorem zLf (t:Wlx.TV) (w:wW) (hF:FltAt w) (ht:Qd t):cW prog 259 #[tkV t] w λe w'=>zBY t e/\bL w w':=by
 obtain ⟨k,x,p⟩:=t;obtain ⟨hx,Q⟩:=ht;simp only at hx Q;have aa:(⟨x.toArray⟩:ByteArray).size=x.length:=rfl;show cW _ _ #[gX #[O J k,V ⟨x.toArray⟩,O J p]] _ _
 have pA:=(AtL.new0 w 203 [O J k,V ⟨x.toArray⟩,O J p]).alloc (Z zV0 65);have C:=vlz (w.alloc (Z #[O J k,V ⟨x.toArray⟩,O J p] 203));simp only [World.size_alloc] at C;have f:=QJ (QJ (aZ _ w) (Z #[O J k,V ⟨x.toArray⟩,O J p] 203)) (Z zV0 65);have R:=hF.below f;by_cases N:k=1
 ·subst N;have l:=λw=>zCZ ⟨x.toArray⟩ w oM
  have bd:∀ q:Option Rat,q=Wnum.rdO ⟨x.toArray⟩->(-9223372036854775808<=Wnum.oN q/\Wnum.oN q<=9223372036854775807)/\(-9223372036854775808<=Wnum.oD q/\Wnum.oD q<=9223372036854775807):=by
   intro q hq;subst hq;exact zMS _
  obtain ⟨⟨b1,b2⟩,b3,b4⟩:=bd _ rfl;have X:=λw=>zCv (Wnum.oN (Wnum.rdO ⟨x.toArray⟩)) (Wnum.oD (Wnum.rdO ⟨x.toArray⟩)) w b1 b2 b3 b4
  have B:zBY ⟨1,x,p⟩ (rX (uX #[vlV (Vs (Wnum.oN (Wnum.rdO ⟨x.toArray⟩)) (Wnum.oD (Wnum.rdO ⟨x.toArray⟩))),Y (Wnum.oB (Wnum.rdO ⟨x.toArray⟩))])):=by
   refine ⟨_,_,rfl,?_⟩;unfold Vj;rw [if_pos rfl]
  generalize Vs (Wnum.oN (Wnum.rdO ⟨x.toArray⟩)) (Wnum.oD (Wnum.rdO ⟨x.toArray⟩))=m at *;generalize Wnum.oN (Wnum.rdO ⟨x.toArray⟩)=qn at *;generalize Wnum.oD (Wnum.rdO ⟨x.toArray⟩)=qd at *;generalize Wnum.oB (Wnum.rdO ⟨x.toArray⟩)=qb at *;clear bd b1 b2 b3 b4;obtain ⟨D,E,F,H,I,K⟩:=m;simp only [vlV,vl6] at X;go_enter func259,ntmps259;go_wp2_with fail
  refine (l _).mono ?_;rintro e M ⟨rfl,b⟩;have d:=AtL.below b C;have j:=QA f b;clear pA C f b;go_wp2_with fail
  refine (X _).mono ?_;rintro e w2 ⟨rfl,b⟩;have a:=AtL.below b (AtL.alloc d _);have g:=QA (QJ j _) b;clear d j b;obtain ⟨o,r,s,u,y,z⟩:=a.f6;have g0:=a.2.2 0 dM;have g1:=a.2.2 1 dM;have g2:=a.2.2 2 dM;have g3:=a.2.2 3 dM;have g4:=a.2.2 4 dM;have g5:=a.2.2 5 dM;go_wp2;refine bodyPost_ret (v:=uX #[vlV ⟨D,E,F,H,I,K⟩,Y qb]) (by simp [results,results259,go_sem,vlV,vl6,o,r,s,u,y,z]) rfl ⟨B,?_⟩;exact (clB g)
 by_cases P:k=2
 ·subst P;have l:=λw=>zAr ⟨x.toArray⟩ w oM
  have B:zBY ⟨2,x,p⟩ (rX (uX #[vlV (VN ⟨x.toArray⟩),Y (decide ((x.length:Int)<=256))])):=by
   refine ⟨_,_,rfl,?_⟩;unfold Vj;rw [if_neg N,if_pos rfl];by_cases hl:x.length<=256
   ·simp only;rw [if_pos hl,decide_eq_true oM];rfl
   ·simp only;rw [if_neg hl,decide_eq_false oM];rfl
  generalize VN ⟨x.toArray⟩=m at *;obtain ⟨D,E,F,H,I,K⟩:=m;simp only [vlV,vl6] at l;have hS:=zHg pA C rfl;go_enter func259,ntmps259;go_upto_region 6 with fail
  go_region_held3 (LvS w.heap.size (w.heap.size+1) 2 x p)
   (with_reducible first | exact hS | assumption | exact zHg T d rfl | exact (zAu (zAu (zAu (zAu (zAu (zAu (by assumption) oM _ _) oM _ _) oM _ _) oM _ _) oM _ _) oM _ _) | exact zHg (AtL.drew pA) (AtL.drew C) rfl)
   (first | (go_at_call 55;refine (l _).mono ?_;rintro e M ⟨rfl,b⟩;have T:=AtL.below b (AtL.drew pA);have d:=AtL.below b (AtL.drew C);obtain ⟨o,r,s,u,y,z⟩:=d.f6;have j:=QA f.drew b))
  all_goals
   have a:AtL ((((((M.setCell ⟨w.heap.size+1,0,none⟩ (O J D)).setCell ⟨w.heap.size+1,1,none⟩ (O J E)).setCell ⟨w.heap.size+1,2,none⟩ (O J F)).setCell ⟨w.heap.size+1,3,none⟩ (V H)).setCell ⟨w.heap.size+1,4,none⟩ (Y I)).setCell ⟨w.heap.size+1,5,none⟩ (O J K)) (w.heap.size+1) [O J D,O J E,O J F,V H,Y I,O J K]:=(((((d.set 0 _).set 1 _).set 2 _).set 3 _).set 4 _).set 5 _;have g:bL w ((((((M.setCell ⟨w.heap.size+1,0,none⟩ (O J D)).setCell ⟨w.heap.size+1,1,none⟩ (O J E)).setCell ⟨w.heap.size+1,2,none⟩ (O J F)).setCell ⟨w.heap.size+1,3,none⟩ (V H)).setCell ⟨w.heap.size+1,4,none⟩ (Y I)).setCell ⟨w.heap.size+1,5,none⟩ (O J K)):=(clB j)
   generalize ((((((M.setCell ⟨w.heap.size+1,0,none⟩ (O J D)).setCell ⟨w.heap.size+1,1,none⟩ (O J E)).setCell ⟨w.heap.size+1,2,none⟩ (O J F)).setCell ⟨w.heap.size+1,3,none⟩ (V H)).setCell ⟨w.heap.size+1,4,none⟩ (Y I)).setCell ⟨w.heap.size+1,5,none⟩ (O J K))=W2 at *;clear o r s u y z;obtain ⟨o,r,s,u,y,z⟩:=a.f6;go_wp2;refine bodyPost_ret (v:=uX #[vlV ⟨D,E,F,H,I,K⟩,Y (decide ((x.length:Int)<=256))]) (by simp [results,results259,go_sem,vlV,vl6,o,r,s,u,y,z]) rfl ⟨B,g⟩
 by_cases A:k=4
 ·subst A;obtain ⟨i,hi,S,L⟩:=Q rfl;have l:=λw h=>zHZ i hi S w h
  rw [<-L] at l;clear L Q;have B:zBY ⟨4,x,p⟩ (rX (uX #[vlV ⟨4,0,0,⟨#[]⟩,false,((fi x 0 fNames:Nat):Int)⟩,Y true])):=⟨_,_,rfl,rfl⟩
  generalize ((fi x 0 fNames:Nat):Int)=c at *;simp only [vlV,vl6] at l;go_enter func259,ntmps259;go_wp2_with fail
  refine (l _ R).mono ?_;rintro e M ⟨rfl,b⟩;have a:=AtL.below b C;have g:=QA f b;obtain ⟨o,r,s,u,y,z⟩:=a.f6;have g0:=a.2.2 0 dM;have g1:=a.2.2 1 dM;have g2:=a.2.2 2 dM;have g3:=a.2.2 3 dM;have g4:=a.2.2 4 dM;have g5:=a.2.2 5 dM;go_wp2;refine bodyPost_ret (v:=uX #[vlV ⟨4,0,0,⟨#[]⟩,false,c⟩,Y true]) (by simp [results,results259,go_sem,vlV,vl6,o,r,s,u,y,z]) rfl ⟨B,?_⟩;exact (clB g)
 have B:zBY ⟨k,x,p⟩ (rX (uX #[vlV ⟨0,0,0,⟨#[]⟩,false,0⟩,Y false])):=by
  refine ⟨_,_,rfl,?_⟩;unfold Vj;rw [if_neg N,if_neg P,if_neg A];rfl
 have e1:(k == 1)=false:=by simp [N]
 have e2:(k == 2)=false:=by simp [P]
 have e4:(k == 4)=false:=by simp [A]
 go_enter func259,ntmps259;go_wp2;refine bodyPost_ret (v:=uX #[vlV ⟨0,0,0,⟨#[]⟩,false,0⟩,Y false]) (by simp [results,results259,go_sem,vlV,vl6]) rfl ⟨B,?_⟩;exact clA
end Go.Proofs.YtloponhikiddmaaGreatDoor
namespace Wpl
def colT (n:Nat):List UInt8:=if n<26 then [UInt8.ofNat (65+n)] else [UInt8.ofNat (65+(n / 26 - 1)),UInt8.ofNat (65+n % 26)]
def colS (n:Int):List UInt8:=if inB n 256 then colT n.toNat else []
theorem zKk (n:Nat):(colT n).length<=2:=by unfold colT;split <;> simp
theorem colS_len (n:Int):(colS n).length<=2:=by unfold colS;split;exact zKk _;simp
theorem dd_len (n:Nat) (h:n<=9223372036854775807):(Go.Lib.decDigits n).length<=21:=by
 have:=Go.Lib.itoa_length_le (n:Int) (by omega) (by omega);unfold Go.Lib.itoa at this;rw [if_neg (by omega),cZ] at this;exact this
end Wpl
namespace Go.Proofs.YtloponhikiddmaaGreatDoor
open Tryz
open Go.RowKit
theorem zGe:∀ k:Fin 26,Utf8.encode ((((⟨#[65,66,67,68,69,70,71,72,73,74,75,76,77,78,79,80,81,82,83,84,85,86,87,88,89,90]⟩:ByteArray)[k.val]'(by have:=k.isLt;exact this)).toNat:Nat):Int)=⟨#[UInt8.ofNat (65+k.val)]⟩:=by decide +kernel
theorem zCE {k:Nat} (h:k<26) (h':k<(⟨#[65,66,67,68,69,70,71,72,73,74,75,76,77,78,79,80,81,82,83,84,85,86,87,88,89,90]⟩:ByteArray).size):Utf8.encode ((((⟨#[65,66,67,68,69,70,71,72,73,74,75,76,77,78,79,80,81,82,83,84,85,86,87,88,89,90]⟩:ByteArray)[k]'h').toNat:Nat):Int)=⟨#[UInt8.ofNat (65+k)]⟩:=zGe ⟨k,h⟩
theorem zAt (a b:List UInt8):((⟨a.toArray⟩:ByteArray)++(⟨b.toArray⟩:ByteArray))=⟨(a++b).toArray⟩:=by
 apply iZ
 rw [ByteArray.data_append];simp
theorem zO1 (c:UInt8) (b:List UInt8):((⟨#[c]⟩:ByteArray)++(⟨b.toArray⟩:ByteArray))=⟨(c::b).toArray⟩:=zAt [c] b
theorem zNK (n:Int) (w:wW):CR 272 #[O J n] w (V ⟨(Wpl.colS n).toArray⟩):=by
 have B:=λw=>zAi n 256 w
 cases h:Wpl.inB n 256 with
 | false =>
  have E:hH (Wpl.colS n=[]):=by show _=_;unfold Wpl.colS;rw [h];rfl
  rw [h] at B;clear h;go_enter func272,ntmps272;go_wp2_with fail
  refine (B _).mono ?_;rintro e C ⟨rfl,rfl⟩;go_wp2;go_ret;exact ⟨by rw [E.out];rfl,clA⟩
 | true =>
  have z:=Wpl.inB_iff.1 h;have E:hH (Wpl.colS n=Wpl.colT n.toNat):=by show _=_;unfold Wpl.colS;rw [h];rfl
  rw [h] at B;clear h;obtain ⟨m,rfl⟩:=jZ z.1;rw [cZ] at E;have I:m<256:=oM;go_enter func272,ntmps272;go_wp2_with fail
  refine (B _).mono ?_;rintro e C ⟨rfl,rfl⟩;go_wp2_with fail
  go_loopw [0,3] (λx y wr=>∃ (k:Int) (l:List UInt8),x=O J k /\ -1<=k/\k<256/\y=V ⟨l.toArray⟩/\l.length<=2/\hH (Wpl.colT m=(if k<0 then [] else Wpl.colT k.toNat)++l/\(0<=k->l.length=0 \/ l.length=1/\k<26))/\wr=w) (λx _ _=>(intOf x+1).toNat)
  case atStart=>exact ⟨m,[],rfl,oM,oM,rfl,sM,(⟨by rw [if_neg oM,cZ,List.append_nil],λ_=>Or.inl rfl⟩:Wpl.colT m=(if (m:Int)<0 then [] else Wpl.colT (m:Int).toNat)++[]/\_),rfl⟩
  case round =>
   obtain ⟨k,l,rfl,t,f,rfl,H,c,rfl⟩:=hrel;by_cases s:0<=k
   ·obtain ⟨j,rfl⟩:=jZ s;have a:j % 26<26:=oM;obtain ⟨g,i⟩:=c.out;rw [if_neg oM,cZ] at g;have o:=i oM;have u:l.length<=1:=oM;have d:hH (Wpl.colT m=(if (j:Int) / 26 - 1<0 then [] else Wpl.colT ((j:Int) / 26 - 1).toNat)++(UInt8.ofNat (65+j % 26)::l)/\(0<=(j:Int) / 26 - 1->(UInt8.ofNat (65+j % 26)::l).length=0 \/ (UInt8.ofNat (65+j % 26)::l).length=1/\(j:Int) / 26 - 1<26)):=by
     refine (⟨?_,?_⟩:_/\_)
     ·rw [g];by_cases b:j<26
      ·rw [if_pos oM];unfold Wpl.colT;rw [if_pos b,Nat.mod_eq_of_lt b];rfl
      ·rw [if_neg oM];have e:((j:Int) / 26 - 1).toNat=j / 26 - 1:=oM;rw [e];unfold Wpl.colT;rw [if_neg b,if_pos oM];rfl
     ·intro h;right
      refine ⟨?_,oM⟩;rcases o with r | ⟨_,D⟩
      ·rw [List.length_cons,r]
      ·omega
    clear c g i o;have F:(j:Int)<256:=f;go_wp2_with fail
    case isTrue =>
     rename_i A
     exfalso
     rw [zCE a] at A;have:(⟨#[UInt8.ofNat (65+j % 26)]⟩:ByteArray).size=1:=rfl;omega
    go_roundw
    case rel=>exact ⟨(j:Int) / 26 - 1,UInt8.ofNat (65+j % 26)::l,rfl,oM,oM,by rw [zCE a];exact congrArg V (zO1 _ l),by simp;omega,d,trivial⟩
    case measure=>simp [intOf];omega
   ·have e:Wpl.colT m=l:=by have:=c.out.1;rw [if_pos oM] at this;exact this
    have q:hH (Wpl.colT m=l):=e;clear e c;go_wp2;go_ret;exact ⟨by rw [E.out,q.out];rfl,aZ _ _⟩
open Go.Shelf Go.RowKit
def zBk:Go.Shelf.Ren:=⟨fun | 171=>273 | 243=>274 | 246=>275 | 283=>276 | 284=>277 | 285=>278 | 286=>279 | 129=>71 | 317=>280 | 318=>281 | 319=>282 | 320=>283 | 337=>284 | 338=>285 | n=>n,fun | 3=>3 | 9=>9 | 2=>2 | 4=>4 | 171=>386 | 0=>0 | 53=>131 | 37=>283 | 5=>5 | 173=>388 | 212=>391 | 51=>129 | 20=>20 | 213=>392 | 46=>93 | 232=>393 | 233=>394 | n=>n,fun | 17=>6 | 18=>7 | 19=>8 | n=>n⟩
theorem zEL:Go.Proofs.LaysM.n171 prog zBk:={
 mixed:=kR
 f129:=func71.trans (congrArg some kR)
 f171:=func273.trans (congrArg some kR)
 f243:=func274.trans (congrArg some kR)
 f246:=func275.trans (congrArg some kR)
 f283:=func276.trans (congrArg some kR)
 f284:=func277.trans (congrArg some kR)
 f285:=func278.trans (congrArg some kR)
 f286:=func279.trans (congrArg some kR)
 f317:=func280.trans (congrArg some kR)
 f318:=func281.trans (congrArg some kR)
 f319:=func282.trans (congrArg some kR)
 f320:=func283.trans (congrArg some kR)
 f337:=func284.trans (congrArg some kR)
 f338:=func285.trans (congrArg some kR)
 t0:=underlying0
 a0:=Tryz.isAgg0
 z0:=Tryz.sizeOf0
 v0:=Tryz.zeroValue0
 t2:=underlying2
 a2:=Tryz.isAgg2
 z2:=Tryz.sizeOf2
 v2:=Tryz.zeroValue2
 t3:=underlying3
 a3:=Tryz.isAgg3
 z3:=Tryz.sizeOf3
 v3:=Tryz.zeroValue3
 t4:=underlying4
 a4:=Tryz.isAgg4
 z4:=Tryz.sizeOf4
 v4:=Tryz.zeroValue4
 t5:=underlying5
 a5:=Tryz.isAgg5
 z5:=Tryz.sizeOf5
 v5:=Tryz.zeroValue5
 t9:=underlying9
 a9:=Tryz.isAgg9
 z9:=Tryz.sizeOf9
 v9:=Tryz.zeroValue9
 t20:=underlying20
 a20:=Tryz.isAgg20
 z20:=Tryz.sizeOf20
 v20:=Tryz.zeroValue20
 t37:=underlying283
 a37:=Tryz.isAgg283
 z37:=Tryz.sizeOf283
 v37:=Tryz.zeroValue283
 t46:=underlying93
 a46:=Tryz.isAgg93
 z46:=Tryz.sizeOf93
 v46:=Tryz.zeroValue93
 t51:=underlying129
 a51:=Tryz.isAgg129
 z51:=Tryz.sizeOf129
 v51:=Tryz.zeroValue129
 t53:=underlying131
 a53:=Tryz.isAgg131
 z53:=Tryz.sizeOf131
 v53:=Tryz.zeroValue131
 t171:=underlying386
 a171:=Tryz.isAgg386
 z171:=Tryz.sizeOf386
 v171:=Tryz.zeroValue386
 t173:=underlying388
 a173:=Tryz.isAgg388
 z173:=Tryz.sizeOf388
 v173:=Tryz.zeroValue388
 t212:=underlying391
 a212:=Tryz.isAgg391
 z212:=Tryz.sizeOf391
 v212:=Tryz.zeroValue391
 t213:=underlying392
 a213:=Tryz.isAgg392
 z213:=Tryz.sizeOf392
 t232:=underlying393
 a232:=Tryz.isAgg393
 z232:=Tryz.sizeOf393
 v232:=Tryz.zeroValue393
 t233:=underlying394
 a233:=Tryz.isAgg394
 z233:=Tryz.sizeOf394
 v233:=Tryz.zeroValue394
 g17:=kR
 g18:=kR
 g19:=kR
 i0:=kR
 i2:=kR
 i3:=kR
 i4:=kR
 i5:=kR
 i9:=kR
 i20:=kR
 i37:=kR
 i46:=kR
 i51:=kR
 i53:=kR
 i171:=kR
 i173:=kR
 i212:=kR
 i232:=kR
 i233:=kR
 m17:=kR
 m18:=kR
 m19:=by kernel_rfl}
theorem zE4 (n:Int) (w:wW) (b:-9223372036854775808<=n) (c:n<=9223372036854775807) (a:Lib.TabIs prog w "internal/strconv.uint64pow10" .u64 Lib.pow10Tab) :
  CR 273 #[O J n] w (V ⟨(Lib.itoa n).toArray⟩) :=
 (Any.strconv_Itoa zEL n b c w a).mono λe w' ⟨d,k,os,hw⟩=>⟨d,by rw [hw];exact Lib.below_grow _ w (bZ _) k os⟩
end Go.Proofs.YtloponhikiddmaaGreatDoor
namespace Wpl
def num (s t l r k:Int):Cl:=⟨s,t+k / (r - l+1),l+k % (r - l+1)⟩
end Wpl
namespace Go.Proofs.YtloponhikiddmaaGreatDoor
open Tryz
open Go.RowKit
theorem zE9 {n:Int} (h:0<=n):Lib.itoa n=Lib.decDigits n.toNat:=by unfold Lib.itoa;rw [if_neg oM]
def fx (b:Bool):List UInt8:=if b then [36] else []
theorem zDL (b:Bool) (w:wW):CR 271 #[Y b] w (V ⟨(fx b).toArray⟩):=by
 cases b
 ·go_enter func271,ntmps271;go_wp2;go_ret;exact ⟨rfl,aZ _ _⟩
 ·go_enter func271,ntmps271;go_wp2;go_ret;exact ⟨rfl,aZ _ _⟩
def cw (a:Wt.Rf):List UInt8:=fx a.fc++Wpl.colS a.c++fx a.fr++Lib.decDigits (a.r+1).toNat
theorem zMd (b:Bool):(fx b).length<=1:=by cases b <;> decide
theorem zDA (a:Wt.Rf) (w:wW) (t:0<=a.r) (z:a.r<65536) (f:Lib.TabIs prog w "internal/strconv.uint64pow10" .u64 Lib.pow10Tab) :
  CR 267 #[rfV a] w (V ⟨(cw a).toArray⟩):=by
 obtain ⟨s,r,c,fr,g⟩:=a;simp only at t z;unfold cw;simp only;show cW _ _ #[gX #[V s,O J r,O J c,Y fr,Y g]] _ _
 have TB:=Lib.tabBelow_of_tabIs f;clear f;have o:=λw=>zDL g w
 have q:=λw=>zDL fr w
 have F:=zMd g;have K:=zMd fr;have H:=Wpl.colS_len c;have I:=Wpl.dd_len (r+1).toNat oM;have m:=λw=>zNK c w
 have l:=λw A=>zE4 (r+1) w oM oM A
 rw [zE9 (show 0<=r+1 by omega)] at l;generalize fx g=u at *;generalize fx fr=v at *;generalize Wpl.colS c=x at *;generalize Lib.decDigits (r+1).toNat=y at *;have E:J.wrap (r+1)=r+1:=IntWalk.i64_in _ oM;have B:¬ 9223372036854775807<u.length+x.length:=oM;have C:¬ 9223372036854775807<u.length+x.length+v.length:=oM;have D:¬ 9223372036854775807<u.length+x.length+v.length+y.length:=oM;have i:=(AtL.new0 w 96 [V s,O J r,O J c,Y fr,Y g]).f5;have b:=QJ (aZ _ w) (Z #[V s,O J r,O J c,Y fr,Y g] 96);go_enter func267,ntmps267;go_upto_region 1 with fail
 go_region_held3 (λW=>W.cell? ⟨w.heap.size,0,none⟩=some (V s)/\W.cell? ⟨w.heap.size,1,none⟩=some (O J r)/\W.cell? ⟨w.heap.size,2,none⟩=some (O J c)/\W.cell? ⟨w.heap.size,3,none⟩=some (Y fr)/\W.cell? ⟨w.heap.size,4,none⟩=some (Y g))
  (with_reducible first | exact i | assumption | exact zIi i | exact zCG d (by assumption))
  (first
  | (go_at_call 271;refine (o _).mono ?_;rintro e j ⟨rfl,d⟩;(with_reducible first | replace b:=QA b.drew d | replace b:=QA b d))
  | (go_at_call 271;refine (q _).mono ?_;rintro e j ⟨rfl,d⟩;(with_reducible first | replace b:=QA b.drew d | replace b:=QA b d))
  | (go_at_call 272;refine (m _).mono ?_;rintro e j ⟨rfl,d⟩;(with_reducible first | replace b:=QA b.drew d | replace b:=QA b d))
  | (go_at_call 273;refine (l _ ((TB.on (by with_reducible first | exact b | exact b.drew)).here)).mono ?_;rintro e j ⟨rfl,d⟩;(with_reducible first | replace b:=QA b.drew d | replace b:=QA b d)))
 all_goals
  go_wp2;go_ret;refine ⟨?_,b⟩;refine congrArg (λx=>rX (V x)) ?_;rw [zAt,zAt,zAt]
end Go.Proofs.YtloponhikiddmaaGreatDoor
namespace Wpl
def isL (c:UInt8):Bool:=decide (65<=c.toNat/\c.toNat<=90)
def isG (c:UInt8):Bool:=decide (48<=c.toNat/\c.toNat<=57)
def rc:Nat->List UInt8->Nat × List UInt8
 | k,[]=>(k,[])
 | k,c::t=>if isL c=true/\k<=256 then rc (k * 26+(c.toNat - 65)+1) t else (k,c::t)
def rd:Nat->List UInt8->Nat × List UInt8
 | k,[]=>(k,[])
 | k,c::t=>if isG c=true/\k<=65536 then rd (k * 10+(c.toNat - 48)) t else (k,c::t)
def rr (l:List UInt8):Nat × List UInt8:=if l.head? = some 48 then (0,l) else rd 0 l
def rdOk (l:List UInt8):Bool:=decide ((rr (rc 0 l).2).2=[]/\1<=(rr (rc 0 l).2).1/\(rr (rc 0 l).2).1<=65536/\1<=(rc 0 l).1/\(rc 0 l).1<=256)
def rdR (l:List UInt8):Int:=if rdOk l then ((rr (rc 0 l).2).1:Int) - 1 else 0
def rdC (l:List UInt8):Int:=if rdOk l then ((rc 0 l).1:Int) - 1 else 0
theorem rc_len (k:Nat) (l:List UInt8):(rc k l).2.length<=l.length:=by
 induction l generalizing k with
 | nil=>simp [rc]
 | cons c t a =>
  unfold rc;split
  ·have:=a (k * 26+(c.toNat - 65)+1);simp;omega
  ·simp
theorem rc_bd (k:Nat) (l:List UInt8) (h:k<=6682):(rc k l).1<=6682:=by
 induction l generalizing k with
 | nil=>simpa [rc] using h
 | cons c t d =>
  unfold rc;split
  ·rename_i b
   have a:=b.1;simp only [isL,decide_eq_true_eq] at a;exact d _ (by omega)
  ·exact h
theorem zMq (k:Nat) (l:List UInt8) (h:k<=655369):(rd k l).1<=655369:=by
 induction l generalizing k with
 | nil=>simpa [rd] using h
 | cons c t d =>
  unfold rd;split
  ·rename_i b
   have a:=b.1;simp only [isG,decide_eq_true_eq] at a;exact d _ (by omega)
  ·exact h
theorem rr_bd (l:List UInt8):(rr l).1<=655369:=by
 unfold rr;split
 ·simp
 ·exact zMq 0 l (by omega)
end Wpl
namespace Go.Proofs.YtloponhikiddmaaGreatDoor
open Tryz
open Go.RowKit
variable {w w' W:wW} {lo n:Nat} {v sl:vW} {x:Wt.Nd} {ts:List Wlx.TV} {G:Nat->Prop} {en:Int}
theorem zC7 (c:UInt8) (t:List UInt8):dZ ⟨(c::t).toArray⟩ 1 (t.length+1)=⟨t.toArray⟩:=by
 apply iZ
 simp [eZ]
theorem zHX (c:UInt8):(0:Int)<=(c.toNat:Int)/\(c.toNat:Int)<=255:=by have:=c.toNat_lt;omega
theorem zE1 (s:List UInt8) (w:wW) (f:s.length<=9223372036854775807):cW prog 268 #[V ⟨s.toArray⟩] w λe w'=>e=rX (uX #[O J ((Wpl.rc 0 s).1:Nat),V ⟨(Wpl.rc 0 s).2.toArray⟩])/\w=w':=by
 go_enter func268,ntmps268;go_wp2;go_loopw [0,2] (λx y wr=>∃ (l:List UInt8) (k:Nat),x=V ⟨l.toArray⟩/\y=O J k/\k<=6682/\l.length<=9223372036854775807/\hH (Wpl.rc 0 s=Wpl.rc k l)/\wr=w) (λx _ _=>match x with | V b=>b.size | _=>0)
 case atStart=>exact ⟨s,0,rfl,rfl,oM,f,(rfl:Wpl.rc 0 s=Wpl.rc 0 s),rfl⟩
 case round =>
  obtain ⟨l,k,rfl,rfl,o,d,a,rfl⟩:=hrel;cases l with
  | nil =>
   have E:hH (Wpl.rc 0 s=(k,[])):=a.out;go_wp2;go_ret2
   exact ⟨by rw [E.out];rfl,rfl⟩
  | cons c t =>
   obtain ⟨g,b1⟩:=zHX c;simp only [List.length_cons] at d;by_cases i:65<=(c.toNat:Int)
   ·by_cases j:(c.toNat:Int)<=90
    ·by_cases m:(k:Int)<=256
     ·have E:hH (Wpl.rc 0 s=Wpl.rc (k * 26+(c.toNat - 65)+1) t):=by
       show _=_;rw [a.out]
       conv=>lhs;unfold Wpl.rc
       rw [if_pos ⟨by simp [Wpl.isL];omega,oM⟩]
      clear a;go_wp2_with fail
      go_roundw
      case rel=>exact ⟨t,k * 26+(c.toNat - 65)+1,congrArg V (zC7 c t),congrArg (O J) (by show (k:Int) * 26+((c.toNat:Nat) - 65)+1=_;omega),oM,oM,E,trivial⟩
      case measure=>rw [zC7];simp [kZ]
     ·have E:hH (Wpl.rc 0 s=(k,c::t)):=by
       show _=_;rw [a.out]
       conv=>lhs;unfold Wpl.rc
       rw [if_neg oM]
      clear a;go_wp2;go_ret2
      exact ⟨by rw [E.out];rfl,rfl⟩
    ·have E:hH (Wpl.rc 0 s=(k,c::t)):=by
      show _=_;rw [a.out]
      conv=>lhs;unfold Wpl.rc
      rw [if_neg (by simp [Wpl.isL];omega)]
     clear a;go_wp2;go_ret2
     exact ⟨by rw [E.out];rfl,rfl⟩
   ·have E:hH (Wpl.rc 0 s=(k,c::t)):=by
     show _=_;rw [a.out]
     conv=>lhs;unfold Wpl.rc
     rw [if_neg (by simp [Wpl.isL];omega)]
    clear a;go_wp2;go_ret2
    exact ⟨by rw [E.out];rfl,rfl⟩
theorem zNS (c:UInt8) (t:List UInt8):((dZ ⟨(c::t).toArray⟩ 0 1).toList == [48])=decide (c=48):=by
 have e:dZ ⟨(c::t).toArray⟩ 0 1=⟨#[c]⟩:=by
  apply iZ
  simp [eZ]
 rw [e];have a:(⟨#[c]⟩:ByteArray).toList=[c]:=by
  simp [ByteArray.toList,ByteArray.toList.loop,kZ,ByteArray.get!]
 rw [a];by_cases h:c=48
 ·subst h;rfl
 ·rw [decide_eq_false h];simp [h]
theorem zDv (c:UInt8) (t:List UInt8) (w:wW) (f:t.length+1<=9223372036854775807):cW prog 47 #[V ⟨(c::t).toArray⟩,V ⟨#[48]⟩] w λe w'=>e=rX (Y (decide (c=48)))/\w=w':=by
 have d:=zNS c t;have a:(1:Int)<=(t.length:Int)+1:=oM;have E:hH (decide (c=48)=((dZ ⟨(c::t).toArray⟩ 0 1).toList == [48])):=d.symm;generalize decide (c=48)=b at *;go_enter func47,ntmps47;go_wp2;go_ret;exact ⟨rfl,rfl⟩
theorem zEU (w:wW):cW prog 47 #[V ⟨#[]⟩,V ⟨#[48]⟩] w λe w'=>e=rX (Y false)/\w=w':=by
 go_enter func47,ntmps47;go_wp2;go_ret;exact ⟨rfl,rfl⟩
theorem zEb (s:List UInt8) (w:wW) (m:s.length<=9223372036854775807):cW prog 269 #[V ⟨s.toArray⟩] w λe w'=>e=rX (uX #[O J ((Wpl.rr s).1:Nat),V ⟨(Wpl.rr s).2.toArray⟩])/\w=w':=by
 cases s with
 | nil =>
  have E:hH (Wpl.rr []=(0,[])):=(rfl:Wpl.rr []=(0,[]))
  go_enter func269,ntmps269;go_wp2_with fail
  refine (zEU _).mono ?_;rintro e o ⟨rfl,rfl⟩;go_wp2;go_loopw [0,2] (λx y wr=>x=V ⟨#[]⟩/\y=O J 0/\wr=w) (λx _ _=>0)
  case atStart=>exact ⟨rfl,rfl,rfl⟩
  case round =>
   obtain ⟨rfl,rfl,rfl⟩:=hrel;go_wp2;go_ret2
   exact ⟨by rw [E.out];rfl,rfl⟩
 | cons a d =>
  have j:d.length+1<=9223372036854775807:=by simpa using m
  have i:=λw=>zDv a d w j
  by_cases g:a=48
  ·have E:hH (Wpl.rr (a::d)=(0,a::d)):=by show _=_;unfold Wpl.rr;rw [if_pos (by rw [g];rfl)]
   rw [decide_eq_true g] at i;clear g;go_enter func269,ntmps269;go_wp2_with fail
   refine (i _).mono ?_;rintro e o ⟨rfl,rfl⟩;go_wp2;go_ret2
   exact ⟨by rw [E.out];rfl,rfl⟩
  ·have q:hH (Wpl.rr (a::d)=Wpl.rd 0 (a::d)):=by show _=_;unfold Wpl.rr;rw [if_neg (by simpa using g)]
   rw [decide_eq_false g] at i;clear g;go_enter func269,ntmps269;go_wp2_with fail
   refine (i _).mono ?_;rintro e o ⟨rfl,rfl⟩;go_wp2;go_loopw [0,2] (λx y wr=>∃ (l:List UInt8) (k:Nat),x=V ⟨l.toArray⟩/\y=O J k/\k<=655369/\l.length<=9223372036854775807/\hH (Wpl.rr (a::d)=Wpl.rd k l)/\wr=w) (λx _ _=>match x with | V b=>b.size | _=>0)
   case atStart=>exact ⟨a::d,0,rfl,rfl,oM,m,q,rfl⟩
   case round =>
    obtain ⟨l,k,rfl,rfl,C,r,f,rfl⟩:=hrel;clear m;cases l with
    | nil =>
     have E:hH (Wpl.rr (a::d)=(k,[])):=f.out;go_wp2;go_ret2
     exact ⟨by rw [E.out];rfl,rfl⟩
    | cons c t =>
     obtain ⟨u,b1⟩:=zHX c;simp only [List.length_cons] at r;by_cases z:48<=(c.toNat:Int)
     ·by_cases A:(c.toNat:Int)<=57
      ·by_cases B:(k:Int)<=65536
       ·have E:hH (Wpl.rr (a::d)=Wpl.rd (k * 10+(c.toNat - 48)) t):=by
         show _=_;rw [f.out]
         conv=>lhs;unfold Wpl.rd
         rw [if_pos ⟨by simp [Wpl.isG];omega,oM⟩]
        clear f;go_wp2_with fail
        go_roundw
        case rel=>exact ⟨t,k * 10+(c.toNat - 48),congrArg V (zC7 c t),congrArg (O J) (by show (k:Int) * 10+((c.toNat:Nat) - 48)=_;omega),oM,oM,E,trivial⟩
        case measure=>rw [zC7];simp [kZ]
       ·have E:hH (Wpl.rr (a::d)=(k,c::t)):=by
         show _=_;rw [f.out]
         conv=>lhs;unfold Wpl.rd
         rw [if_neg oM]
        clear f;go_wp2;go_ret2
        exact ⟨by rw [E.out];rfl,rfl⟩
      ·have E:hH (Wpl.rr (a::d)=(k,c::t)):=by
        show _=_;rw [f.out]
        conv=>lhs;unfold Wpl.rd
        rw [if_neg (by simp [Wpl.isG];omega)]
       clear f;go_wp2;go_ret2
       exact ⟨by rw [E.out];rfl,rfl⟩
     ·have E:hH (Wpl.rr (a::d)=(k,c::t)):=by
       show _=_;rw [f.out]
       conv=>lhs;unfold Wpl.rd
       rw [if_neg (by simp [Wpl.isG];omega)]
      clear f;go_wp2;go_ret2
      exact ⟨by rw [E.out];rfl,rfl⟩
theorem zE0 (s:List UInt8) (w:wW) (z:s.length<=9223372036854775807) :
  CR 264 #[V ⟨s.toArray⟩] w (uX #[O J (Wpl.rdR s),O J (Wpl.rdC s),Y (Wpl.rdOk s)]):=by
 have o:=λw=>zE1 s w z
 have A:=Wpl.rc_len 0 s;have u:=λw=>zEb (Wpl.rc 0 s).2 w oM
 have D:=Wpl.rc_bd 0 s oM;have F:=Wpl.rr_bd (Wpl.rc 0 s).2;have f:hH (Wpl.rdOk s=decide ((Wpl.rr (Wpl.rc 0 s).2).2=[]/\1<=(Wpl.rr (Wpl.rc 0 s).2).1/\(Wpl.rr (Wpl.rc 0 s).2).1<=65536/\1<=(Wpl.rc 0 s).1/\(Wpl.rc 0 s).1<=256)):=(rfl:Wpl.rdOk s=_)
 have g:hH (Wpl.rdR s=if Wpl.rdOk s then ((Wpl.rr (Wpl.rc 0 s).2).1:Int) - 1 else 0):=(rfl:Wpl.rdR s=_)
 have c:hH (Wpl.rdC s=if Wpl.rdOk s then ((Wpl.rc 0 s).1:Int) - 1 else 0):=(rfl:Wpl.rdC s=_)
 generalize Wpl.rdOk s=ok at *;generalize Wpl.rdR s=R at *;generalize Wpl.rdC s=C at *;generalize Wpl.rr (Wpl.rc 0 s).2=q at *;generalize Wpl.rc 0 s=p at *;obtain ⟨k,d⟩:=p;obtain ⟨m,r⟩:=q;simp only at *;have b:=λw=>Qg 0 ((m:Int) - 1) ((k:Int) - 1) w
 have l:hH (Wpl.rightC 0 ((m:Int) - 1) ((k:Int) - 1)=decide (1<=m/\m<=65536/\1<=k/\k<=256)):=by
  show _=_
  rw [Bool.eq_iff_iff,Wpl.rightC_iff];simp;omega
 rw [l.out] at b;clear l A;go_enter func264,ntmps264;go_wp2_with fail
 refine (o _).mono ?_;rintro e L ⟨rfl,rfl⟩;go_wp2_with fail
 refine (u _).mono ?_;rintro e M ⟨rfl,rfl⟩;cases r with
 | cons x t =>
  have E:hH (ok=false):=by show _=_;rw [f.out];simp
  go_wp2;go_ret3
  exact ⟨by rw [E.out,g.out,c.out,E.out];rfl,clA⟩
 | nil =>
  by_cases j:1<=m/\m<=65536/\1<=k/\k<=256
  ·have E:hH (ok=true):=by show _=_;rw [f.out];simp;omega
   rw [decide_eq_true j] at b;go_wp2_with fail
   refine (b _).mono ?_;rintro e i ⟨rfl,a⟩;have B:AtL i w.heap.size [O J 0,O J ((m:Int) - 1),O J ((k:Int) - 1)]:=AtL.below a (AtL.new0 w 36 _);have y:bL w i:=clA
   clear a;obtain ⟨H,I,K⟩:=B.f3;go_wp2_with fail
   go_region
   all_goals
    go_wp2;go_ret3
    exact ⟨by rw [E.out,g.out,c.out,E.out];rfl,clA⟩
  ·have E:hH (ok=false):=by show _=_;rw [f.out];simp;omega
   rw [decide_eq_false j] at b;go_wp2_with fail
   refine (b _).mono ?_;rintro e i ⟨rfl,a⟩;go_wp2;go_ret3
   exact ⟨by rw [E.out,g.out,c.out,E.out];rfl,clA⟩
open Go.RowKit Go.Shelf
def zAy:Go.Shelf.Ren:=⟨fun | 217=>245 | 266=>252 | n=>n,fun | 9=>9 | 5=>5 | 3=>3 | n=>n,fun | n=>n⟩
theorem zC3:Go.Proofs.Lays.n217 prog zAy:={
 mixed:=kR
 f217:=func245.trans (congrArg some kR)
 f266:=func252.trans (congrArg some kR)
 t3:=underlying3
 a3:=Tryz.isAgg3
 z3:=Tryz.sizeOf3
 v3:=Tryz.zeroValue3
 t5:=underlying5
 a5:=Tryz.isAgg5
 z5:=Tryz.sizeOf5
 v5:=Tryz.zeroValue5
 t9:=underlying9
 a9:=Tryz.isAgg9
 z9:=Tryz.sizeOf9
 v9:=Tryz.zeroValue9}
def Jt (l:List UInt8):List UInt8:=l.filter (λc=>!(c == 36))
theorem zHY (l:List UInt8):rep [36] [] l=Jt l:=by
 induction l with
 | nil=>exact zCc dM
 | cons c t a =>
  by_cases h:c=36
  ·subst h;rw [zJi dM (by simp [List.isPrefixOf])];show rep [36] [] t=_
   rw [a];rfl
  ·rw [zCR dM (by simp [List.isPrefixOf];exact λe=>h e.symm),a];unfold Jt;rw [List.filter_cons_of_pos (by simp [h])]
theorem zHH (b:ByteArray) (w:wW) (a:MaxAt w) (d:b.size<=1048576):CR 146 #[V b,V ⟨#[36]⟩,V ⟨#[]⟩] w (V ⟨(Jt b.data.toList).toArray⟩):=by
 obtain ⟨m,a⟩:=a;have c:=zAh b ⟨#[36]⟩ dM;have h:=Any.strings_ReplaceAll {lays155 with} zFl b ⟨#[36]⟩ ⟨#[]⟩ m w oM a dM (by show b.size+_ * 0<=_;omega);rw [zIn dM,zHY] at h;exact h
def dol (l:List UInt8):Bool:=match l with
 | c::_=>c == 36
 | []=>false
theorem zHo (c:UInt8) (t:List UInt8):((⟨(c::t).toArray⟩:ByteArray).extract 0 1).toList=[c]:=by rw [ByteArray.toList_eq];simp
theorem zKn (l:List UInt8) (w:wW) (g:l.length<=1048576):cW prog 47 #[V ⟨l.toArray⟩,V ⟨#[36]⟩] w λe w'=>e=rX (Y (dol l))/\w=w':=by
 cases l with
 | nil =>
  go_enter func47,ntmps47;go_wp2;go_ret;exact ⟨rfl,rfl⟩
 | cons c t =>
  have b:(((⟨(c::t).toArray⟩:ByteArray).extract 0 1).toList == [36])=(c == 36):=by rw [zHo];simp
  have d:(⟨(c::t).toArray⟩:ByteArray).size=t.length+1:=rfl;have f:(1:Int)<=((⟨(c::t).toArray⟩:ByteArray).size:Int):=oM;unfold dol;simp only;generalize (⟨(c::t).toArray⟩:ByteArray)=s at *;cases a:(c == 36) with
  | true =>
   rw [a] at b;go_enter func47,ntmps47;go_wp2;go_ret;exact ⟨rfl,rfl⟩
  | false =>
   rw [a] at b;go_enter func47,ntmps47;go_wp2;go_ret;exact ⟨rfl,rfl⟩
theorem zLO (c:UInt8) (t:List UInt8):(⟨(c::t).toArray⟩:ByteArray).extract 1 (t.length+1)=⟨t.toArray⟩:=by
 apply iZ
 simp [eZ]
theorem zIY (l:List UInt8) (w:wW) (m:l.length<=1048576):cW prog 266 #[V ⟨l.toArray⟩,V ⟨#[36]⟩] w λe w'=>e=rX (V ⟨(if dol l then l.drop 1 else l).toArray⟩)/\w=w':=by
 cases l with
 | nil =>
  go_enter func266,ntmps266;go_wp2;go_ret;exact ⟨rfl,rfl⟩
 | cons c t =>
  have f:(((⟨(c::t).toArray⟩:ByteArray).extract 0 1).toList == [36])=(c == 36):=by rw [zHo];simp
  have d:(⟨(c::t).toArray⟩:ByteArray).size=t.length+1:=rfl;have i:=zLO c t;have j:(1:Int)<=((⟨(c::t).toArray⟩:ByteArray).size:Int):=oM;have hd:dol (c::t)=(c == 36):=rfl;rw [hd];have b:=hid i;clear i hd;obtain ⟨s,a⟩:=xV (⟨(c::t).toArray⟩:ByteArray)
  rw [a] at f d j b;cases g:(c == 36) with
  | true =>
   rw [g] at f;rw [if_pos rfl];simp only [List.drop_succ_cons,List.drop_zero];rw [a,<-b.out];clear a;go_enter func266,ntmps266;go_wp2;go_ret;exact ⟨rfl,rfl⟩
  | false =>
   rw [g] at f;rw [if_neg dM,a];clear a b;go_enter func266,ntmps266;go_wp2;go_ret;exact ⟨rfl,rfl⟩
theorem zGU (s:ByteArray) (w:wW) :
  cW prog 245 #[V s,O .u8 36] w λe w'=>e=rX (O J (Lib.indexByte s.data.toList 36))/\w=w' :=
 (Any.stringslite_IndexByte zC3 s 36 w).mono λe w' ⟨a,hw⟩=>⟨a,hw.symm⟩
theorem zEs (l:List UInt8) (w:wW) :
  cW prog 219 #[V ⟨l.toArray⟩,V ⟨#[36]⟩] w λe w'=>e=rX (O J (Lib.indexByte l 36))/\w=w':=by
 have I:=λw=>zGU ⟨l.toArray⟩ w
 rw [show (⟨l.toArray⟩:ByteArray).data.toList=l from rfl] at I;have e0:((((⟨#[36]⟩:ByteArray)[0]).toNat:Nat):Int)=36:=rfl;cases h:([36] == l) with
 | true =>
  obtain rfl:[36]=l:=by simpa using h
  have E:hH (Lib.indexByte [36] 36=0):=(rfl:Lib.indexByte [36] 36=0)
  go_enter func219,ntmps219;go_wp2;go_ret;exact ⟨by rw [E.out];rfl,rfl⟩
 | false =>
  go_enter func219,ntmps219;go_wp2_with fail
  refine (I _).mono ?_;rintro e a ⟨rfl,rfl⟩;go_wp2;go_ret;exact ⟨rfl,rfl⟩
theorem zDi (l:List UInt8):decide (0<=Lib.indexByte l 36)=l.any (λc=>c == 36):=by
 induction l with
 | nil=>rfl
 | cons b t f =>
  have g:=Lib.indexByte_ge t 36;rw [List.any_cons,<-f];have e:Lib.indexByte (b::t) 36=if b == 36 then 0 else if Lib.indexByte t 36 == -1 then -1 else Lib.indexByte t 36+1:=rfl
  rw [e];clear e;by_cases h:b=36
  ·subst h;simp
  ·rw [if_neg (by simpa using h)];have d:(b == 36)=false:=by simp [h]
   rw [d,Bool.false_or];by_cases a:Lib.indexByte t 36 = -1
   ·rw [a];rfl
   ·rw [if_neg (by simpa using a),decide_eq_true oM,decide_eq_true oM]
theorem zJk (l:List UInt8) (w:wW):cW prog 265 #[V ⟨l.toArray⟩,V ⟨#[36]⟩] w λe w'=>e=rX (Y (l.any (λc=>c == 36)))/\w=w':=by
 have I:=λw=>zEs l w
 have a:∀ w:wW,cW prog 197 #[V ⟨l.toArray⟩,V ⟨#[36]⟩] w λe w'=>e=rX (O J (Lib.indexByte l 36))/\w=w':=by
  intro w;go_enter func197,ntmps197;go_wp2_with fail
  refine (I _).mono ?_;rintro e b ⟨rfl,rfl⟩;go_wp2;go_ret;exact ⟨rfl,rfl⟩
 have E:=hid (zDi l);rw [<-E.out];clear I E;generalize Lib.indexByte l 36=n at *;go_enter func265,ntmps265;go_wp2_with fail
 refine (a _).mono ?_;rintro e b ⟨rfl,rfl⟩;go_wp2;go_ret;exact ⟨rfl,rfl⟩
def Vt (l:List UInt8):Wt.Rf:=⟨⟨#[]⟩,Wpl.rdR (Jt l),Wpl.rdC (Jt l),(if dol l then l.drop 1 else l).any (λc=>c == 36),dol l⟩
def rw1 (l:List UInt8):Option Wt.Rf:=if Wpl.rdOk (Jt l)=true then (if cw (Vt l)=l then some (Vt l) else none) else none
def RwV (r:Option Wt.Rf):vW:=match r with
 | some a=>uX #[rfV a,Y true]
 | none=>uX #[rfV Wt.r0,Y false]
theorem zMq {l:List UInt8} (h:Wpl.rdOk l=true):0<=Wpl.rdR l/\Wpl.rdR l<65536:=by
 unfold Wpl.rdR;rw [if_pos h];have:=of_decide_eq_true h;omega
theorem zCx (l:List UInt8) (w:wW) (hm:MaxAt w) (y:Lib.TabIs prog w "internal/strconv.uint64pow10" .u64 Lib.pow10Tab) (hl:l.length<=1024) :
  CR 263 #[V ⟨l.toArray⟩] w (RwV (rw1 l)):=by
 have TB:=Lib.tabBelow_of_tabIs y;clear y;have m:=AtL.new0 w 96 [V ⟨#[]⟩,O J 0,O J 0,Y false,Y false];have g:=QJ (aZ _ w) (Z zR0 96);have C:=zHH ⟨l.toArray⟩ _ (hm.below g) (by show l.length<=_;omega);have hu:(Jt l).length<=l.length:=List.length_filter_le _ _;have E:=λw=>zE0 (Jt l) w oM
 have F:=λw=>zKn l w oM
 have H:=λw=>zIY l w oM
 have I:=λw=>zJk (if dol l then l.drop 1 else l) w
 have bd:=@zMq (Jt l);have o:=λw h0 h1 h=>zDA (Vt l) w h0 h1 h
 have e1:(⟨l.toArray⟩:ByteArray).data.toList=l:=rfl;rw [e1] at C;unfold rw1;obtain ⟨W,hW⟩:=xV (cw (Vt l))
 rw [hW] at o ⊢;clear hW e1;unfold Vt at o ⊢;generalize Jt l=u at *;generalize (if dol l then l.drop 1 else l)=v at *;generalize dol l=d at *;generalize v.any (λc=>c == 36)=f at *;generalize Wpl.rdR u=r at *;generalize Wpl.rdC u=c at *;generalize Wpl.rdOk u=q at *;simp only [rfV,rf5] at o;cases q
 ·rw [if_neg dM];clear o bd;go_enter func263,ntmps263;go_wp2_with fail
  refine C.mono ?_;rintro e w1 ⟨rfl,a⟩;have s:=AtL.below a m;have b:=QA g a;clear a m g;go_wp2_with fail
  refine (E _).mono ?_;rintro e D ⟨rfl,a⟩;have t:=AtL.below a s;have i:=QA b a;clear a s b;go_wp2_with fail
  refine (F _).mono ?_;rintro e z ⟨rfl,rfl⟩;go_wp2_with fail
  refine (H _).mono ?_;rintro e z ⟨rfl,rfl⟩;go_wp2_with fail
  refine (I _).mono ?_;rintro e z ⟨rfl,rfl⟩;obtain ⟨N,P,Q,R,S,g0,g1,g2,g3,g4⟩:=t.five;have B:=t.lt;have ab:¬ w.heap.size=D.heap.size:=oM;have aa:¬ D.heap.size=w.heap.size:=oM;go_wp2;refine bodyPost_ret (v:=uX #[rfV Wt.r0,Y false]) (by simp [results,results263,go_sem,rfV,rf5,Wt.r0,N,P,Q,R,S,B]) rfl ⟨rfl,?_⟩;exact (clB i)
 ·obtain ⟨b0,b1⟩:=bd rfl;rw [if_pos rfl];replace o:=λw h=>o w b0 b1 h
  by_cases X:W=l
  ·rw [if_pos X];subst X;go_enter func263,ntmps263;go_wp2_with fail
   refine C.mono ?_;rintro e w1 ⟨rfl,a⟩;have s:=AtL.below a m;have b:=QA g a;clear a m g;go_wp2_with fail
   refine (E _).mono ?_;rintro e D ⟨rfl,a⟩;have t:=AtL.below a s;have i:=QA b a;clear a s b;go_wp2_with fail
   refine (F _).mono ?_;rintro e z ⟨rfl,rfl⟩;go_wp2_with fail
   refine (H _).mono ?_;rintro e z ⟨rfl,rfl⟩;go_wp2_with fail
   refine (I _).mono ?_;rintro e z ⟨rfl,rfl⟩;have j:=QJ i (Z #[V ⟨#[]⟩,O J r,O J c,Y f,Y d] 96);have T:=(TB.on j).here;have L:=AtL.alloc t (Z #[V ⟨#[]⟩,O J r,O J c,Y f,Y d] 96);have K:=AtL.new0 D 96 [V ⟨#[]⟩,O J r,O J c,Y f,Y d];clear t i TB;go_wp2_with fail
   refine (o _ T).mono ?_;rintro e w4 ⟨rfl,a⟩;have M:=AtL.below a L;have Y4:=AtL.below a K;have A:=QA j a;clear a L K j T C E F H I o;obtain ⟨N,P,Q,R,S,g0,g1,g2,g3,g4⟩:=M.five;obtain ⟨y0,y1,y2,y3,y4⟩:=Y4.f5;have B:=M.lt;go_wp2;refine bodyPost_ret (v:=uX #[rfV ⟨⟨#[]⟩,r,c,f,d⟩,Y true]) (by simp [results,results263,go_sem,rfV,rf5,N,P,Q,R,S]) rfl ⟨rfl,?_⟩;exact (clB A)
  ·rw [if_neg X];have ac:(W == l)=false:=by simp [X]
   go_enter func263,ntmps263;go_wp2_with fail
   refine C.mono ?_;rintro e w1 ⟨rfl,a⟩;have s:=AtL.below a m;have b:=QA g a;clear a m g;go_wp2_with fail
   refine (E _).mono ?_;rintro e D ⟨rfl,a⟩;have t:=AtL.below a s;have i:=QA b a;clear a s b;go_wp2_with fail
   refine (F _).mono ?_;rintro e z ⟨rfl,rfl⟩;go_wp2_with fail
   refine (H _).mono ?_;rintro e z ⟨rfl,rfl⟩;go_wp2_with fail
   refine (I _).mono ?_;rintro e z ⟨rfl,rfl⟩;have j:=QJ i (Z #[V ⟨#[]⟩,O J r,O J c,Y f,Y d] 96);have T:=(TB.on j).here;have L:=AtL.alloc t (Z #[V ⟨#[]⟩,O J r,O J c,Y f,Y d] 96);have K:=AtL.new0 D 96 [V ⟨#[]⟩,O J r,O J c,Y f,Y d];clear t i TB;go_wp2_with fail
   refine (o _ T).mono ?_;rintro e w4 ⟨rfl,a⟩;have M:=AtL.below a L;have Y4:=AtL.below a K;have A:=QA j a;clear a L K j T C E F H I o;obtain ⟨N,P,Q,R,S,g0,g1,g2,g3,g4⟩:=M.five;obtain ⟨y0,y1,y2,y3,y4⟩:=Y4.f5;have B:=M.lt;go_wp2;refine bodyPost_ret (v:=uX #[rfV Wt.r0,Y false]) (by simp [results,results263,go_sem,rfV,rf5,Wt.r0,N,P,Q,R,S]) rfl ⟨rfl,?_⟩;exact (clB A)
theorem QQ {P:Program} {e:Func} {t:Tmp} {T:TypeId} (h:e.results=#[.cell t T]) (a:Array vW) (w:wW) (b:Nat) (cs:List vW) (d:TypeDesc) (j:a.getD t undef=pX (some ⟨b,0,none⟩)) (f:w.rangeAt b 0 cs)
  (l:P.underlying T=some d) (hd:d.isRow=true) (g:(P.info? T).map (·.size)=some cs.length):(results e a).run P w=.ok (gX cs.toArray) w:=by
 have i:=run_loadVar_mid (P:=P) w b 0 T cs d f l hd g;have c:a[t]?.getD undef=pX (some ⟨b,0,none⟩):=by rw [<-j];simp
 simp only [results,h];simp [c,i,asAddr]
def Env (w:wW):Prop:=OpsAt w/\FltAt w/\MaxAt w/\Lib.TabIs prog w "internal/strconv.uint64pow10" .u64 Lib.pow10Tab
theorem Env.below (h:Env w) (a:bL w w'):Env w':=⟨h.1.below a,h.2.1.below a,h.2.2.1.below a,(Lib.tabBelow_of_tabIs h.2.2.2).on a |>.here⟩
theorem Env.grown {kp:Nat} (h:Env w) (b:w.grownBy w' (some kp)) (q:8<=kp):Env w':=by
 obtain ⟨i,l,⟨m,o⟩,a⟩:=h;have c:∀ g,g<8->some g ≠ some kp:=λg b e=>by have:=Option.some.inj e;omega
 refine ⟨λj v f=>b.cell (i j v f) (c 1 dM),λj v f=>b.cell (l j v f) (c 0 dM),⟨m,b.cell o (c _ dM)⟩,?_⟩;have e:prog.globalNamed "internal/strconv.uint64pow10" = some 6:=kR
 unfold Lib.TabIs World.var? at a ⊢;rw [e] at a ⊢;simp only [Option.bind_some] at a ⊢;have d:6<w.heap.size:=by
  rcases rZ 6 w.heap.size with h | h
  ·exact h
  ·rw [Array.getElem?_eq_none h] at a;cases a
 rw [b.block _ d (c _ dM)];exact a
def QK (x:Wt.Nd) (sl:vW):List vW:=QN x++[sl]
def ptV (x:Wt.Nd) (sl:vW):vW:=gX (QK x sl).toArray
def PtIs (w:wW) (G:Nat->Prop):Nat->Wt.Nd->vW->List Wt.Nd->Prop
 | 0,_,_,_=>False
 | n+1,x,sl,row=>∃ (c:Option Addr) (cap:Nat) (b:List (Wt.Nd × vW)) (a:List (List Wt.Nd)),sl=U c b.length cap/\a.length=b.length/\row=x::a.flatten /\
   ∀ i (h:i<b.length) (d:i<a.length),∃ bb,c=some ⟨bb,0,none⟩/\G bb/\w.rangeAt bb (i * 21) (QK (b[i]).1 (b[i]).2)/\PtIs w G n (b[i]).1 (b[i]).2 (a[i])
theorem zBt {a o:Nat} (h:w.rangeAt a o (QK x sl)):a<w.heap.size:=World.block_lt_of_cell? _ _ (h 0 _ rfl)
theorem PtIs.keep {w w':wW} {G:Nat->Prop} (f:∀ k,G k->k<w.heap.size->w'.heap[k]? = w.heap[k]?):∀ (n:Nat) {x:Wt.Nd} {sl:vW} {row:List Wt.Nd},PtIs w G n x sl row->PtIs w' G n x sl row
 | 0,_,_,_,h=>h
 | n+1,x,sl,row,⟨av,cap,ps,rows,e,hl,hr,hp⟩=>⟨av,cap,ps,rows,e,hl,hr,λi h m=>by
   obtain ⟨b,g,c,d,l⟩:=hp i h m;exact ⟨b,g,c,λj v o=>(World.cell?_of_block (a:=⟨b,i * 21+j,none⟩) (f b c (zBt d))).trans (d j v o),PtIs.keep f n l⟩⟩
theorem PtIs.mono {w:wW} {G G':Nat->Prop} (a:∀ b,G b->G' b):∀ (n:Nat) {x:Wt.Nd} {sl:vW} {row:List Wt.Nd},PtIs w G n x sl row->PtIs w G' n x sl row
 | 0,_,_,_,h=>h
 | n+1,x,sl,row,⟨av,cap,ps,rows,e,hl,hr,hp⟩=>⟨av,cap,ps,rows,e,hl,hr,λi h l=>by
   obtain ⟨c,d,f,g,j⟩:=hp i h l;exact ⟨c,d,a _ f,g,PtIs.mono a n j⟩⟩
theorem PtIs.leaf (w:wW) (G:Nat->Prop) (x:Wt.Nd):PtIs w G 1 x (U none 0 0) [x]:=⟨none,0,[],[],rfl,rfl,rfl,λi h=>absurd h (Nat.not_lt_zero _)⟩
theorem PtIs.more {w:wW} {G:Nat->Prop}:∀ {n:Nat} {x:Wt.Nd} {sl:vW} {row:List Wt.Nd},PtIs w G n x sl row->PtIs w G (n+1) x sl row
 | 0,_,_,_,h=>h.elim
 | n+1,x,sl,row,⟨av,cap,ps,rows,e,hl,hr,hp⟩=>⟨av,cap,ps,rows,e,hl,hr,λi h g=>by
   obtain ⟨a,b,c,d,f⟩:=hp i h g;exact ⟨a,b,c,d,PtIs.more f⟩⟩
theorem PtIs.upto {m:Nat} {row:List Wt.Nd} (h:PtIs w G n x sl row) (b:n<=m):PtIs w G m x sl row:=by
 induction m with
 | zero =>
   obtain rfl:n=0:=oM;exact h
 | succ m a =>
  rcases rZ n (m+1) with h1 | h1
  ·exact (a oM).more
  ·obtain rfl:n=m+1:=oM;exact h
theorem PtIs.one {row:List Wt.Nd} (h:PtIs w G n x sl row):∃ a len cap,sl=U a len cap:=by
 cases n with
 | zero=>exact h.elim
 | succ n=>obtain ⟨a,cap,c,b,e,_⟩:=h;exact ⟨a,c.length,cap,e⟩
def Pt (w:wW) (lo:Nat) (v:vW) (row:List Wt.Nd):Prop:=∃ n x sl,v=ptV x sl/\PtIs w (λb=>lo<=b) n x sl row
theorem Pt.grown {kp:Nat} {row:List Wt.Nd} (h:Pt w lo v row) (b:w.grownBy w' (some kp)) (d:kp<lo):Pt w' lo v row:=by
 obtain ⟨n,x,sl,e,h⟩:=h;exact ⟨n,x,sl,e,PtIs.keep (λk c a=>b.block k a (λe=>by have:=Option.some.inj e;omega)) n h⟩
theorem Pt.below {row:List Wt.Nd} (h:Pt w lo v row) (b:bL w w'):Pt w' lo v row:=by
 obtain ⟨n,x,sl,e,h⟩:=h;exact ⟨n,x,sl,e,PtIs.keep (λk c a=>b.block k a) n h⟩
theorem zAA (b k:Nat) (a:k ≠ b):∀ (vs:List vW) (o:Nat) (w:wW),(w.setCells b o vs).heap[k]? = w.heap[k]?
 | [],_,_=>rfl
 | v::r,o,w=>by rw [World.setCells,zAA b k a r];exact Below.heap_setCell _ _ _ _ a
theorem Pt.far {b:Nat} {row:List Wt.Nd} (h:Pt w lo v row) (d:b<lo) (o:Nat) (vs:List vW):Pt (w.setCells b o vs) lo v row:=by
 obtain ⟨n,x,sl,e,h⟩:=h;exact ⟨n,x,sl,e,PtIs.keep (λk a c=>zAA b k oM vs o w) n h⟩
theorem Pt.mono {a:Nat} {row:List Wt.Nd} (h:Pt w lo v row) (d:a<=lo):Pt w a v row:=by
 obtain ⟨n,x,sl,e,h⟩:=h;exact ⟨n,x,sl,e,PtIs.mono (λb c=>Nat.le_trans d c) n h⟩
theorem Qs (x:Wt.Nd) (sl:vW) (h:sl.oneCell'=true):(QK x sl).toArray.all (·.oneCell')=true:=all_oneCell_toArray (λv a=>by
 unfold QK at a;rcases List.mem_append.1 a with h1 | h1
 ·exact zJ7 x v h1
 ·simp only [List.mem_cons,List.not_mem_nil,or_false] at h1;rw [h1];exact h)
def JL (v:Wt.Vl):Wt.Nd:=⟨1,v,0,⟨#[]⟩,0,Wt.r0,Wt.r0⟩
theorem zBc (v:Wt.Vl) (w:wW):CR 257 #[vlV v] w (ptV (JL v) (U none 0 0)):=by
 obtain ⟨d,e,b,f,a,c⟩:=v;show cW _ _ #[gX #[O J d,O J e,O J b,V f,Y a,O J c]] _ _
 have j:AtL ((w.alloc (Z #[O J d,O J e,O J b,V f,Y a,O J c] 65)).alloc (Z zP0 151)) (w.heap.size+1) (QK (bare 0) (U none 0 0)):=AtL.new1 w _ _ _;have g:World.there ((w.alloc (Z #[O J d,O J e,O J b,V f,Y a,O J c] 65)).alloc (Z zP0 151)) (w.heap.size+1) 0 (QK ⟨1,⟨d,e,b,f,a,c⟩,0,⟨#[]⟩,0,Wt.r0,Wt.r0⟩ (U none 0 0)).toArray.size:=j.there;have i:AtL (((w.alloc (Z #[O J d,O J e,O J b,V f,Y a,O J c] 65)).alloc (Z zP0 151)).setCells (w.heap.size+1) 0 (QK ⟨1,⟨d,e,b,f,a,c⟩,0,⟨#[]⟩,0,Wt.r0,Wt.r0⟩ (U none 0 0))) (w.heap.size+1) (QK ⟨1,⟨d,e,b,f,a,c⟩,0,⟨#[]⟩,0,Wt.r0,Wt.r0⟩ (U none 0 0)):=j.setAll rfl;have l:=Qm (QJ (QJ (aZ _ w) (Z #[O J d,O J e,O J b,V f,Y a,O J c] 65)) (Z zP0 151)) (Nat.le_succ w.heap.size) (QK ⟨1,⟨d,e,b,f,a,c⟩,0,⟨#[]⟩,0,Wt.r0,Wt.r0⟩ (U none 0 0)) 0;go_enter func257,ntmps257;go_upto_region 1 with fail
 go_wp2_with ((with_reducible refine wpList_store_mid ?_ 151 (mX 2) (mX 5) ?_ (w.heap.size+1) 0 (QK ⟨1,⟨d,e,b,f,a,c⟩,0,⟨#[]⟩,0,Wt.r0,Wt.r0⟩ (U none 0 0)).toArray ?_ ?_ ?_ ?_ ?_ ?_);rfl;rfl;rfl;rfl;exact g;kernel_rfl;exact Qs _ _ rfl)
 refine bodyPost_ret (QQ rfl _ _ (w.heap.size+1) (QK ⟨1,⟨d,e,b,f,a,c⟩,0,⟨#[]⟩,0,Wt.r0,Wt.r0⟩ (U none 0 0)) _ rfl i.range underlying151 rfl kR) rfl ⟨rfl,l⟩
abbrev OpS (ka kb:Nat) (o:Int) (m:ByteArray) (t:Int) (W:wW):Prop :=
 W.cell? ⟨ka,0,none⟩=some (O J o)/\W.cell? ⟨ka,1,none⟩=some (V m)/\W.cell? ⟨ka,2,none⟩=some (O J t)
theorem Qq {ka kb:Nat} {o:Int} {m:ByteArray} {t:Int} (h:AtL W ka [O J o,V m,O J t]):OpS ka kb o m t W:=h.f3
def opN (k o:Int):Wt.Nd:=⟨k,Wt.v0,o,⟨#[]⟩,0,Wt.r0,Wt.r0⟩
def Qz (t:Int):Int:=if t<5 then 5 else 4
theorem zAG (o:Int) (m:ByteArray) (t:Int) (b:Option Addr) (len cap:Nat) (w:wW):CR 177 #[gX #[O J o,V m,O J t],U b len cap] w (ptV (opN (Qz t) o) (U b len cap)):=by
 have C:=λw=>zD2 o m t w
 have pA:=(AtL.new0 w 223 [O J o,V m,O J t]).alloc (Z zP0 151);have u:AtL ((w.alloc (Z #[O J o,V m,O J t] 223)).alloc (Z zP0 151)) (w.heap.size+1) (QK (bare 0) (U none 0 0)):=AtL.new1 w _ _ _;have j:=QJ (QJ (aZ _ w) (Z #[O J o,V m,O J t] 223)) (Z zP0 151);unfold Qz;generalize (if t<5 then (5:Int) else 4)=d at *;go_enter func177,ntmps177;go_upto_region 1 with fail
 refine wp_region_held_drew (S:=OpS w.heap.size (w.heap.size+1) o m t) kR (Qq (AtL.drew pA)) (λa=>?_);refine tkQ 0 ?_
 refine tkQ 2 ?_
 refine tkQ 3 ?_
 refine tkQ 5 ?_
 refine rdQ 1 (λK c=>?_);go_simp
 refine (C _).mono ?_;rintro e s ⟨rfl,i⟩;have f:=AtL.below i (AtL.drew pA);have g:=AtL.below i (AtL.drew u);have l:=QA j.drew i;clear i;go_wp2_with fail
 refine hkQ c (Qq f) (λa=>?_);clear c K
 refine tkQ 4 ?_
 refine tkQ 6 ?_
 refine rdQ 7 (λK c=>?_);refine wp_store_mid 151 (mX 4) (mX 11) rfl (w.heap.size+1) 0 (QK (opN d o) (U b len cap)).toArray rfl rfl g.there kR (Qs _ _ rfl) ?_;have r:AtL (s.setCells (w.heap.size+1) 0 (QK (opN d o) (U b len cap))) (w.heap.size+1) (QK (opN d o) (U b len cap)):=g.setAll rfl;have q:bL w (s.setCells (w.heap.size+1) 0 (QK (opN d o) (U b len cap))):=Qm l (Nat.le_succ _) _ 0;refine c.out _ _ (Qq (f.farAll oM 0 _)) (λa=>?_);clear c K;try simp only [Act.put]
 refine wpAnyH_done kR ?_ _;go_wp2_with fail
 refine bodyPost_ret (QQ rfl _ _ (w.heap.size+1) (QK (opN d o) (U b len cap)) _ rfl r.range underlying151 rfl kR) rfl ⟨rfl,q⟩
def pc (ts:List Wlx.TV) (en:Int):(Wt.Rf × List Wlx.TV) ⊕ (Int × Int) :=
 if (hd ts en).k=3 then (if fol ts [40] then .inr (50,pos ts en) else if fol ts [33] then .inr (50,pos ts en) else (match rw1 (hd ts en).t with | some a=>.inl (a,ts.tail) | none=>.inr (50,pos ts en))) else .inr (50,pos ts en)
def VS (kp:Nat) (en:Int) (r:(Wt.Rf × List Wlx.TV) ⊕ (Int × Int)) (w:wW) (e:Ending) (w':wW):Prop:=match r with
 | .inl (a,rest)=>e=rX (rfV a)/\PSt w' kp rest en/\w.grownBy w' (some kp)
 | .inr (c,p)=>e=JY c p/\w.grownBy w' (some kp)
theorem zFg (kp:Nat) (ts:List Wlx.TV) (en:Int) (w:wW) (h:PSt w kp ts en) (ad:ts.length<=1024) (al:∀ t ∈ ts,Qd t) (hE:Env w) (av:8<=kp):cW prog 262 #[pX (some ⟨kp,0,none⟩)] w λe w'=>VS kp en (pc ts en) w e w':=by
 have d:=QJ (aZ _ w) (Z zR0 96);have pZ:=AtL.new0 w 96 [V ⟨#[]⟩,O J 0,O J 0,Y false,Y false];have j:=h.below d;have R:=hE.below d;have N:=λw h=>JJ kp ts en w h
 have K:=λw h=>zAS kp ts en [40] w h ad
 have L:=λw h=>zAS kp ts en [33] w h ad
 have aq:=zFM;have ao:=zFv;unfold pc pos;have S:(hd ts en).k=3->∃ r,ts=hd ts en::r:=by
  intro y;cases ts with
  | nil=>exact absurd y (by show ¬ (0:Int)=3;decide)
  | cons a r=>exact ⟨r,rfl⟩
 have M0:=λw h=>Qp kp ts en w h
 unfold pos JY at M0;have ab:(hd ts en).k=3->(hd ts en).t.length<=1024:=by
  intro y;obtain ⟨r,hr⟩:=S y;exact (al (hd ts en) (by rw [hr];simp [hd])).1
 obtain ⟨t,ht⟩:=xV (hd ts en)
 rw [ht] at N M0 S ab ⊢;clear ht;obtain ⟨k,x,p⟩:=t;unfold tkV at N;simp only at N M0 ab S ⊢;have M:∀ (w1:wW) (e:Ending),e=.panicked [{v:=.iface 145 (gX #[O J 50,O J p]),recovered:=false}]->bL w w1->VS kp en (.inr (50,p)) w e w1:=λw1 e he b=>⟨he,QE b _⟩
 by_cases aa:k=3
 ·subst aa;rw [if_pos rfl];cases ae:fol ts [40] with
  | true =>
   rw [ae] at K;rw [if_pos rfl];clear L;go_enter func262,ntmps262;go_wp2_with fail
   refine (N _ j).mono ?_;rintro e w1 ⟨rfl,b⟩;have i:=j.below b;have c:=QA d b;clear b j d;go_wp2_with fail
   refine (K _ i).mono ?_;rintro e w2 ⟨rfl,b⟩;have u:=i.below b;have f:=QA c b;clear b i c;go_wp2_with fail
   refine (M0 _ u).mono ?_;rintro e w3 ⟨rfl,b⟩;have g:=QA f b;go_wp2;exact ⟨rfl,M _ _ rfl g⟩
  | false =>
   rw [ae] at K;rw [if_neg dM];cases af:fol ts [33] with
   | true =>
    rw [af] at L;rw [if_pos rfl];go_enter func262,ntmps262;go_wp2_with fail
    refine (N _ j).mono ?_;rintro e w1 ⟨rfl,b⟩;have i:=j.below b;have c:=QA d b;clear b j d;go_wp2_with fail
    refine (K _ i).mono ?_;rintro e w2 ⟨rfl,b⟩;have u:=i.below b;have f:=QA c b;clear b i c;go_wp2_with fail
    refine (L _ u).mono ?_;rintro e w3 ⟨rfl,b⟩;have y:=u.below b;have g:=QA f b;clear b u f;go_wp2_with fail
    refine (M0 _ y).mono ?_;rintro e w4 ⟨rfl,b⟩;have l:=QA g b;go_wp2;exact ⟨rfl,M _ _ rfl l⟩
   | false =>
    rw [af] at L;rw [if_neg dM];have X:=λw hm ht=>zCx x w hm ht (ab rfl)
    obtain ⟨r,hr⟩:=S rfl;cases ag:rw1 x with
    | none =>
     rw [ag] at X;simp only [RwV,rfV,rf5,Wt.r0] at X;go_enter func262,ntmps262;go_wp2_with fail
     refine (N _ j).mono ?_;rintro e w1 ⟨rfl,b⟩;have i:=j.below b;have c:=QA d b;have E:=AtL.below b pZ;have A:=R.below b;clear b j d pZ R;go_wp2_with fail
     refine (K _ i).mono ?_;rintro e w2 ⟨rfl,b⟩;have u:=i.below b;have f:=QA c b;have F:=AtL.below b E;have B:=A.below b;clear b i c E A;go_wp2_with fail
     refine (L _ u).mono ?_;rintro e w3 ⟨rfl,b⟩;have y:=u.below b;have g:=QA f b;have H:=AtL.below b F;have C:=B.below b;clear b u f F B;go_wp2_with fail
     refine (Qa kp _).mono ?_;rintro e w4 ⟨rfl,rfl⟩;go_wp2_with fail
     refine (N _ y).mono ?_;rintro e w4 ⟨rfl,b⟩;have h4:=y.below b;have l:=QA g b;have I:=AtL.below b H;have m:=C.below b;clear b y g H C;go_wp2_with fail
     refine (X _ m.2.2.1 m.2.2.2).mono ?_;rintro e w5 ⟨rfl,b⟩;have h5:=h4.below b;have z:=QA l b;have T:=AtL.below b I;clear b h4 l I m N K L X;have h6:=h5.below (QJ (aZ _ w5) (Z zR0 96));have Q:=QJ z (Z zR0 96);go_wp2_with fail
     refine (M0 _ h6).mono ?_;rintro e w7 ⟨rfl,b⟩;have ak:=QA Q b;go_wp2;exact ⟨rfl,M _ _ rfl ak⟩
    | some a =>
     obtain ⟨s,ar,ac,q,o⟩:=a;rw [ag] at X;simp only [RwV,rfV,rf5] at X;subst hr;go_enter func262,ntmps262;go_wp2_with fail
     refine (N _ j).mono ?_;rintro e w1 ⟨rfl,b⟩;have i:=j.below b;have c:=QA d b;have E:=AtL.below b pZ;have A:=R.below b;clear b j d pZ R;go_wp2_with fail
     refine (K _ i).mono ?_;rintro e w2 ⟨rfl,b⟩;have u:=i.below b;have f:=QA c b;have F:=AtL.below b E;have B:=A.below b;clear b i c E A;go_wp2_with fail
     refine (L _ u).mono ?_;rintro e w3 ⟨rfl,b⟩;have y:=u.below b;have g:=QA f b;have H:=AtL.below b F;have C:=B.below b;clear b u f F B;go_wp2_with fail
     refine (Qa kp _).mono ?_;rintro e w4 ⟨rfl,rfl⟩;go_wp2_with fail
     refine (N _ y).mono ?_;rintro e w4 ⟨rfl,b⟩;have h4:=y.below b;have l:=QA g b;have I:=AtL.below b H;have m:=C.below b;clear b y g H C;go_wp2_with fail
     refine (X _ m.2.2.1 m.2.2.2).mono ?_;rintro e w5 ⟨rfl,b⟩;have h5:=h4.below b;have z:=QA l b;have T:=AtL.below b I;clear b h4 l I m N K L X;have h6:=h5.below (QJ (aZ _ w5) (Z #[V s,O J ar,O J ac,Y q,Y o] 96));have Q:=QJ z (Z #[V s,O J ar,O J ac,Y q,Y o] 96);have ai:=AtL.alloc T (Z #[V s,O J ar,O J ac,Y q,Y o] 96);have ah:=AtL.new0 w5 96 [V s,O J ar,O J ac,Y q,Y o];have aw:=z.size;have ap:=T.lt;have D:=h.lt;clear h5 z T;go_wp2_with fail
     refine (Qa kp _).mono ?_;rintro e w6 ⟨rfl,rfl⟩;have P:=JG 1 kp [⟨3,x,p⟩] r en _ h6 rfl dM ad;go_wp2_with fail
     refine P.mono ?_;rintro e w7 ⟨rfl,hp,hg⟩;have aj:=ai.grown hg (by intro e;have:=Option.some.inj e;omega);have am:=ah.grown hg (by intro e;have:=Option.some.inj e;omega);have hG:=QD (QE Q (some kp)) hg;clear P h6 Q ai ah hg;obtain ⟨y0,y1,y2,y3,y4⟩:=am.f5;obtain ⟨z0,z1,z2,z3,z4,g0,g1,g2,g3,g4⟩:=aj.five;go_wp2;have an:=((((aj.set 0 (V s)).set 1 (O J ar)).set 2 (O J ac)).set 3 (Y q)).set 4 (Y o);refine bodyPost_ret (QQ rfl _ _ w.heap.size [V s,O J ar,O J ac,Y q,Y o] _ rfl an.range underlying96 rfl kR) rfl ?_;exact ⟨rfl,((((hp.far D _ _).far D _ _).far D _ _).far D _ _).far D _ _,QW (QW (QW (QW (QW hG (bZ _) _ _) (bZ _) _ _) (bZ _) _ _) (bZ _) _ _) (bZ _) _ _⟩
 ·rw [if_neg aa];have au:(k == 3)=false:=by simp [aa]
  clear K L;go_enter func262,ntmps262;go_wp2_with fail
  refine (N _ j).mono ?_;rintro e w1 ⟨rfl,b⟩;have i:=j.below b;have c:=QA d b;clear b j d;go_wp2_with fail
  refine (M0 _ i).mono ?_;rintro e w2 ⟨rfl,b⟩;have f:=QA c b;go_wp2;exact ⟨rfl,M _ _ rfl f⟩
abbrev PR:Type:=(List Wt.Nd × List Wlx.TV) ⊕ (Int × Int)
def QT (kp:Nat) (en:Int) (r:PR) (w:wW) (e:Ending) (w':wW):Prop:=match r with
 | .inl (row,rest)=>∃ v,e=rX v/\Pt w' w.heap.size v row/\PSt w' kp rest en/\w.grownBy w' (some kp)
 | .inr (c,p)=>e=JY c p/\w.grownBy w' (some kp)
theorem PSt.farAll {kp:Nat} (h:PSt w kp ts en) {b:Nat} (a:kp<b):∀ (vs:List vW) (o:Nat),PSt (w.setCells b o vs) kp ts en:=by
 intro vs;induction vs generalizing w with
 | nil=>intro o;exact h
 | cons v r c=>intro o;rw [World.setCells];exact c (h.far a o v) (o+1)
theorem QR {row:Option Nat} (h:w.grownBy W row) {b:Nat} (a:w.heap.size<=b):∀ (vs:List vW) (o:Nat),w.grownBy (W.setCells b o vs) row:=by
 intro vs;induction vs generalizing W with
 | nil=>intro o;exact h
 | cons v r c=>intro o;rw [World.setCells];exact c (QW h a o v) (o+1)
def pl (ts:List Wlx.TV) (en:Int):PR:=match Vj (hd ts en) with
 | some v=>.inl ([JL v],ts.tail)
 | none=>.inr (50,pos ts en)
theorem zDJ {v:Wt.Vl} (h:Vj (hd ts en)=some v):∃ r,ts=hd ts en::r:=by
 cases ts with
 | nil=>exact absurd h (by simp [Vj,hd])
 | cons t r=>exact ⟨r,rfl⟩
theorem zAe (en:Int) (h:∀ t ∈ ts,Qd t):Qd (hd ts en):=by
 cases ts with
 | nil=>exact ⟨by show 0<=1024;omega,λh=>absurd h (by show ¬ (0:Int)=4;decide)⟩
 | cons t r=>exact h t sM
theorem zBW (kp:Nat) (ts:List Wlx.TV) (en:Int) (w:wW) (h:PSt w kp ts en) (ad:ts.length<=1024) (aa:∀ t ∈ ts,Qd t) (hE:Env w) (ag:8<=kp):cW prog 251 #[pX (some ⟨kp,0,none⟩)] w λe w'=>QT kp en (pl ts en) w e w':=by
 have b:=QJ (aZ _ w) (Z zP0 151);have pZ:AtL (w.alloc (Z zP0 151)) w.heap.size (QK (bare 0) (U none 0 0)):=AtL.new0 w _ _;have y:=h.below b;have o:=hE.below b;have N:=λw h=>JJ kp ts en w h
 have Q:=λw h=>zLf (hd ts en) w h (zAe en aa)
 have z:=λw h=>Qp kp ts en w h
 have M:=λv=>@zDJ ts en v
 unfold pl;unfold pos at z ⊢;obtain ⟨t,ht⟩:=xV (hd ts en)
 rw [ht] at N z Q M ⊢;clear ht;cases K:Vj t with
 | none =>
  simp only;unfold JY at z;go_enter func251,ntmps251;go_wp2_with fail
  generalize w.alloc (Z zP0 151)=wa at *;refine (N _ y).mono ?_;rintro e w1 ⟨rfl,a⟩;have A:=y.below a;have l:=QA b a;have q:=o.below a;clear a y b o;go_wp2_with fail
  refine (Q _ q.2.1).mono ?_;rintro e L ⟨⟨v,ok,rfl,s⟩,a⟩;rw [K] at s;have T:ok=false:=by
   cases ok with
   | false=>rfl
   | true=>exact absurd s sM
  subst T;obtain ⟨c,d,f,g,i,j⟩:=v;simp only [vlV,vl6];have H:=(A.below a).below (QJ (aZ _ L) (Z #[O J c,O J d,O J f,V g,Y i,O J j] 65));have m:=QJ (QA l a) (Z #[O J c,O J d,O J f,V g,Y i,O J j] 65);clear a A l;go_wp2_with fail
  refine (z _ H).mono ?_;rintro e w3 ⟨rfl,a⟩;have R:=QA m a;go_wp2;exact ⟨rfl,rfl,QE R _⟩
 | some v =>
  simp only;obtain ⟨r,hr⟩:=M v K;have X:=h.lt;have KC:=λw=>zBc v w
  go_enter func251,ntmps251;go_wp2_with fail
  generalize w.alloc (Z zP0 151)=wa at *;refine (N _ y).mono ?_;rintro e w1 ⟨rfl,a⟩;have A:=y.below a;have l:=QA b a;have q:=o.below a;have u:=AtL.below a pZ;clear a y b o pZ;go_wp2_with fail
  refine (Q _ q.2.1).mono ?_;rintro e L ⟨⟨v',ok,rfl,s⟩,a⟩;rw [K] at s;have T:ok=true/\v=v':=by
   cases ok with
   | false=>exact absurd s sM
   | true=>exact ⟨rfl,by simpa using s⟩
  obtain ⟨rfl,rfl⟩:=T;obtain ⟨c,d,f,g,i,j⟩:=v;simp only [vlV,vl6] at KC ⊢;have H:=(A.below a).below (QJ (aZ _ L) (Z #[O J c,O J d,O J f,V g,Y i,O J j] 65));have m:=QJ (QA l a) (Z #[O J c,O J d,O J f,V g,Y i,O J j] 65);have D:=(AtL.below a u).alloc (Z #[O J c,O J d,O J f,V g,Y i,O J j] 65);have B:=AtL.new0 L 65 [O J c,O J d,O J f,V g,Y i,O J j];have af:=(AtL.below a u).lt;clear a A l u K s M z;subst hr;have P:=JG 1 kp [t] r en _ H rfl dM ad;go_wp2_with fail
  refine (Qa kp _).mono ?_;rintro e w3 ⟨rfl,rfl⟩;go_wp2_with fail
  refine P.mono ?_;rintro e w3 ⟨rfl,hp,I⟩;have E:=D.grown I (by intro e;have:=Option.some.inj e;omega);have C:=B.grown I (by intro e;have:=Option.some.inj e;omega);have hG:=QD (QE m (some kp)) I;clear P H m D B I;obtain ⟨y0,y1,y2,y3,y4,y5⟩:=C.f6;go_wp2_with fail
  refine (KC _).mono ?_;rintro e w4 ⟨rfl,a⟩;have F:=AtL.below a E;have ab:=hp.below a;have S:=QD hG (QE a (some kp));have ac:World.there w4 w.heap.size 0 (QK (JL ⟨c,d,f,g,i,j⟩) (U none 0 0)).toArray.size:=F.there;clear E hp hG a y0 y1 y2 y3 y4 y5 C;unfold ptV;go_wp2_with ((with_reducible refine wpList_store_mid ?_ 151 (mX 2) (mX 17) ?_ (w.heap.size) 0 (QK (JL ⟨c,d,f,g,i,j⟩) (U none 0 0)).toArray ?_ ?_ ?_ ?_ ?_ ?_);rfl;rfl;rfl;rfl;exact ac;kernel_rfl;exact Qs _ _ rfl)
  have ae:AtL (w4.setCells w.heap.size 0 (QK (JL ⟨c,d,f,g,i,j⟩) (U none 0 0))) w.heap.size (QK (JL ⟨c,d,f,g,i,j⟩) (U none 0 0)):=F.setAll rfl;refine bodyPost_ret (QQ rfl _ _ w.heap.size (QK (JL ⟨c,d,f,g,i,j⟩) (U none 0 0)) _ rfl ae.range underlying151 rfl kR) rfl ?_;exact ⟨_,rfl,⟨1,_,_,rfl,PtIs.leaf _ _ _⟩,ab.farAll X _ 0,QR S (bZ _) _ 0⟩
