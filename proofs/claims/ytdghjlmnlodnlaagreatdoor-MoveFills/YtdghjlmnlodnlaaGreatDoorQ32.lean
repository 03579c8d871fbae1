/- NPlainD, NPlainF, TQCellP, NWalkF, NWalkG, NWalkH1, NWalkH2, NWalkL. -/
import Derived.Test.YtdghjlmnlodnlaaGreatDoorQ31
set_option maxHeartbeats 3200000
set_option maxRecDepth 100000
namespace Wpl
theorem fv_snoc (k:Nat) (l:List UInt8) (c:UInt8):fv k (l++[c])=fv k l * 10+(c.toNat - 48):=by unfold fv;rw [List.foldl_append];rfl
theorem zFk {D:List UInt8} {j:Nat} {d:UInt8} (h:D[j]? = some d):D.take (j+1)=D.take j++[d]:=by
 obtain ⟨hj,e⟩:=List.getElem?_eq_some_iff.1 h;rw [List.take_succ_eq_append_getElem hj,e]
theorem fv_take {D:List UInt8} {j:Nat} {d:UInt8} (h:D[j]? = some d):fv 0 (D.take (j+1))=fv 0 (D.take j) * 10+(d.toNat - 48):=by
 rw [zFk h,fv_snoc]
theorem all_take {D:List UInt8} {j:Nat} {d:UInt8} (h:D[j]? = some d):allG (D.take (j+1))=(allG (D.take j) && isG d):=by
 rw [zFk h];simp [allG]
theorem all_not {D:List UInt8} {j:Nat} {d:UInt8} (h:D[j]? = some d) (hd:isG d=false):allG D=false:=by
 unfold allG;rw [List.all_eq_false];exact ⟨d,List.mem_of_getElem? h,by simp [hd]⟩
theorem zRN {k:Nat}:∀ (l:List UInt8),allG l=true->fv k l<(k+1) * 10 ^ l.length:=by
 intro l;induction l generalizing k with
 | nil=>simp [fv]
 | cons c t ih =>
  intro h;simp only [allG,List.all_cons,Bool.and_eq_true] at h;have hc:=h.1;simp only [isG,decide_eq_true_eq] at hc;have:=ih (k:=k * 10+(c.toNat - 48)) (by simpa [allG] using h.2);rw [fv_cons];have h2:(k * 10+(c.toNat - 48)+1) * 10 ^ t.length<=((k+1) * 10) * 10 ^ t.length:=Nat.mul_le_mul_right _ (by omega);rw [List.length_cons,Nat.pow_succ,Nat.mul_comm (10 ^ t.length) 10,<-Nat.mul_assoc];omega
theorem fv_five {D:List UInt8} {j:Nat} (hj:j<=5) (h:allG (D.take j)=true):fv 0 (D.take j)<100000:=by
 have:=zRN (k:=0) _ h;have h2:(D.take j).length<=5:=by have:=List.length_take_le j D;omega
 have h3:10 ^ (D.take j).length<=10 ^ 5:=Nat.pow_le_pow_right (by omega) h2;omega
end Wpl
namespace Wpl
theorem dd_le {u:Nat} (h:u<10):Go.Lib.decDigits u=[UInt8.ofNat (48+u)]:=by
 unfold Go.Lib.decDigits;rw [dif_pos h]
theorem dd_gt {u:Nat} (h:¬ u<10):Go.Lib.decDigits u=Go.Lib.decDigits (u / 10)++[UInt8.ofNat (48+u % 10)]:=by
 conv=>lhs;unfold Go.Lib.decDigits
 rw [dif_neg h]
end Wpl
namespace Go.Proofs.YtdghjlmnlodnlaaGreatDoor
open Tryz
open Go.RowKit Go.Shelf
set_option linter.unusedVariables false
variable {c a:UInt8} {l s:List UInt8} {i:Nat}
theorem isG_iff:Wpl.isG c=true ↔ 48<=c.toNat/\c.toNat<=57:=by simp [Wpl.isG]
theorem isL_iff:Wpl.isL c=true ↔ 65<=c.toNat/\c.toNat<=90:=by simp [Wpl.isL]
theorem zLA:∀ (n:Nat) (D:List UInt8),D.length=n+1->Wpl.allG D=true->¬ D.head? = some 48->Lib.decDigits (Wpl.fv 0 D)=D:=by
 intro n;induction n with
 | zero =>
  intro D hl hg hh;match D,hl with
  | [d],_ =>
   have h:=isG_iff.1 (by simpa [Wpl.allG] using hg);have e:Wpl.fv 0 [d]=d.toNat - 48:=by simp [Wpl.fv]
   rw [e,Wpl.dd_le (by omega)];congr 1
   rw [show 48+(d.toNat - 48)=d.toNat by omega];exact UInt8.ofNat_toNat
 | succ n ih =>
  intro D hl hg hh;obtain ⟨D1,d,rfl⟩:∃ D1 d,D=D1++[d]:=by
   have hne:D ≠ []:=by intro e;rw [e] at hl;simp at hl
   exact ⟨D.dropLast,D.getLast hne,(List.dropLast_concat_getLast hne).symm⟩
  have hl1:D1.length=n+1:=by simpa using hl
  have hg1:Wpl.allG D1=true/\Wpl.isG d=true:=by simpa [Wpl.allG] using hg
  have hh1:¬ D1.head? = some 48:=by
   cases D1 with
   | nil=>simp at hl1
   | cons c t=>simpa using hh
  have hd:=isG_iff.1 hg1.2;have hv:1<=Wpl.fv 0 D1:=by
   cases D1 with
   | nil=>simp at hl1
   | cons c t =>
    have hc:=isG_iff.1 (by have:=hg1.1;simp only [Wpl.allG,List.all_cons,Bool.and_eq_true] at this;exact this.1);have hc0:c ≠ 48:=by simpa using hh1
    have hcn:c.toNat ≠ 48:=λe=>hc0 (UInt8.toNat_inj.1 (by rw [e];rfl))
    rw [Wpl.fv_cons];have:=Wpl.fv_ge t (0 * 10+(c.toNat - 48));have hp:1<=10 ^ t.length:=Nat.one_le_pow _ _ (by omega);have:1 * 1<=(0 * 10+(c.toNat - 48)) * 10 ^ t.length:=Nat.mul_le_mul (by omega) hp;omega
  rw [Wpl.fv_snoc,Wpl.dd_gt (by omega),show (Wpl.fv 0 D1 * 10+(d.toNat - 48)) / 10=Wpl.fv 0 D1 by omega,ih D1 hl1 hg1.1 hh1];congr 2
  rw [show 48+(Wpl.fv 0 D1 * 10+(d.toNat - 48)) % 10=d.toNat by omega];exact UInt8.ofNat_toNat
theorem zL5 {t:List UInt8} (h:Wpl.dgOk t=true):Wpl.allG t=true/\t ≠ []/\Lib.decDigits (Wpl.rr t).1=t/\1<=(Wpl.rr t).1/\(Wpl.rr t).1<=65536:=by
 have h':=of_decide_eq_true h;have hne:t ≠ []:=by intro e;rw [e] at h;rw [Wpl.dg_nil] at h;cases h
 have hh:¬ t.head? = some 48:=by
  intro e;have:Wpl.rr t=(0,t):=by unfold Wpl.rr;rw [if_pos e]
  rw [this] at h';omega
 have er:Wpl.rr t=Wpl.rd 0 t:=by unfold Wpl.rr;rw [if_neg hh]
 rw [er] at h' ⊢;obtain ⟨g,v⟩:=Wpl.rd_inv t 0 h'.1;obtain ⟨n,hn⟩:∃ n,t.length=n+1:=⟨t.length - 1,by cases t;exact absurd rfl hne;simp⟩
 exact ⟨g,hne,by rw [v];exact zLA n t hn g hh,h'.2.1,h'.2.2⟩
theorem zCQ (h:Wpl.isL a=true):UInt8.ofNat (65+(Wpl.vl a - 1))=a:=by
 have:=isL_iff.1 h;unfold Wpl.vl;rw [show 65+(a.toNat - 65+1 - 1)=a.toNat by omega];exact UInt8.ofNat_toNat
theorem vl_bd (h:Wpl.isL a=true):1<=Wpl.vl a/\Wpl.vl a<=26:=by
 have:=isL_iff.1 h;unfold Wpl.vl;omega
theorem zHJ (h:Wpl.rdOk s=true):∃ A D,s=A++D/\A.all Wpl.isL=true/\A ≠ []/\D.all Wpl.isG=true/\D ≠ []/\Wpl.colS (Wpl.rdC s)=A/\Lib.decDigits (Wpl.rdR s+1).toNat=D/\(0<=Wpl.rdC s/\Wpl.rdC s<256):=by
 have key:∀ (A D:List UInt8) (k:Nat),s=A++D->A.all Wpl.isL=true->A ≠ []->Wpl.dgOk D=true->Wpl.rc 0 s=(k,D)->1<=k->k<=256->Wpl.colT (k - 1)=A->∃ A D,s=A++D/\A.all Wpl.isL=true/\A ≠ []/\D.all Wpl.isG=true/\D ≠ []/\Wpl.colS (Wpl.rdC s)=A/\Lib.decDigits (Wpl.rdR s+1).toNat=D/\(0<=Wpl.rdC s/\Wpl.rdC s<256):=by
  intro A D k e hA hA0 hD hr k1 k2 hc;obtain ⟨g1,g2,g3,g4,g5⟩:=zL5 hD;have eC:Wpl.rdC s=((k - 1:Nat):Int):=by unfold Wpl.rdC;rw [if_pos h,hr];simp only;omega
  have eR:Wpl.rdR s+1=((Wpl.rr D).1:Int):=by unfold Wpl.rdR;rw [if_pos h,hr];simp only;omega
  refine ⟨A,D,e,hA,hA0,g1,g2,?_,?_,by omega,by omega⟩
  ·rw [eC];unfold Wpl.colS;rw [Wpl.inB_iff.2 ⟨by omega,by omega⟩];simpa using hc
  ·rw [eR,Int.toNat_natCast];exact g3
 cases s with
 | nil=>rw [Wpl.rd_none] at h;cases h
 | cons a t =>
  cases ha:Wpl.isL a with
  | false=>rw [Wpl.rd_no t ha] at h;cases h
  | true =>
   have va:=vl_bd ha;cases t with
   | nil =>
    have:=(Wpl.rd_one ha (t:=[]) rfl).1;rw [this,Wpl.dg_nil] at h;cases h
   | cons b u =>
    cases hb:Wpl.isL b with
    | false =>
     have hn:Wpl.noL (b::u)=true:=by simp [Wpl.noL,hb]
     obtain ⟨k1,k2⟩:=Wpl.rd_one ha hn;exact key [a] (b::u) _ rfl (by simp [ha]) (by simp) (by rw [<-k1];exact h) k2 va.1 (by omega) (by unfold Wpl.colT;rw [if_pos (by omega),zCQ ha])
    | true =>
     have vb:=vl_bd hb;cases hn:Wpl.noL u with
     | false =>
      cases u with
      | nil=>cases hn
      | cons c v =>
       have hc:Wpl.isL c=true:=by simpa [Wpl.noL] using hn
       rw [Wpl.rd_three v ha hb hc] at h;cases h
     | true =>
      obtain ⟨k1,k2⟩:=Wpl.rd_two ha hb hn;rw [k1,Bool.and_eq_true,decide_eq_true_eq] at h;refine key [a,b] u _ rfl (by simp [ha,hb]) (by simp) h.2 k2 (by omega) h.1 ?_;unfold Wpl.colT;have e1:(Wpl.vl a * 26+Wpl.vl b - 1) / 26 - 1=Wpl.vl a - 1:=by omega
      have e2:(Wpl.vl a * 26+Wpl.vl b - 1) % 26=Wpl.vl b - 1:=by omega
      rw [if_neg (by omega),e1,e2,zCQ ha,zCQ hb]
def qS (l:List UInt8):List UInt8:=if dol l then l.drop 1 else l
def qA (l:List UInt8):List UInt8:=(qS l).takeWhile Wpl.isL
def qD0 (l:List UInt8):List UInt8:=(qS l).dropWhile Wpl.isL
def qD (l:List UInt8):List UInt8:=qS (qD0 l)
def qW (l:List UInt8):Option Wt.Rf:=if Wpl.rdOk (qA l++qD l) && !(qA l).isEmpty && !(qD l).isEmpty && Wpl.isG ((qD l).headD 0) then some ⟨⟨#[]⟩,Wpl.rdR (qA l++qD l),Wpl.rdC (qA l++qD l),dol (qD0 l),dol l⟩ else none
theorem zMx (b:Bool) (A:List UInt8) (h:A ≠ []) (hA:A.headD 0 ≠ 36):dol (fx b++A)=b/\qS (fx b++A)=A:=by
 cases b with
 | true=>exact ⟨rfl,rfl⟩
 | false =>
  cases A with
  | nil=>exact absurd rfl h
  | cons c t =>
   have:dol (fx false++c::t)=false:=by
    show (c == 36)=false
    simpa using hA
   exact ⟨this,by unfold qS;rw [this];rfl⟩
theorem zEW {A D:List UInt8} {fc fr:Bool} (hl:l=fx fc++(A++(fx fr++D))) (hA:A.all Wpl.isL=true) (hA0:A ≠ []) (hD:D.all Wpl.isG=true) (hD0:D ≠ []) :
  dol l=fc/\qA l=A/\dol (qD0 l)=fr/\qD l=D/\zBx l=A++D/\(qS l).any (λc=>c == 36)=fr/\Wpl.isG (D.headD 0)=true:=by
 have nL:∀ x:UInt8,Wpl.isL x=true->(x == 36)=false:=λx hx=>by
  have:=isL_iff.1 hx;simp only [beq_eq_false_iff_ne];rintro rfl;simp at this
 have nG:∀ x:UInt8,Wpl.isG x=true->(x == 36)=false/\Wpl.isL x=false:=λx hx=>by
  have:=isG_iff.1 hx;refine ⟨by simp only [beq_eq_false_iff_ne];rintro rfl;simp at this,?_⟩;cases hq:Wpl.isL x with
  | false=>rfl
  | true=>have:=isL_iff.1 hq;omega
 have hAh:Wpl.isL (A.headD 0)=true:=by
  cases A with
  | nil=>exact absurd rfl hA0
  | cons c t=>simp only [List.all_cons,Bool.and_eq_true] at hA;exact hA.1
 have hDh:Wpl.isG (D.headD 0)=true:=by
  cases D with
  | nil=>exact absurd rfl hD0
  | cons c t=>simp only [List.all_cons,Bool.and_eq_true] at hD;exact hD.1
 obtain ⟨d1,d2⟩:=zMx fc (A++(fx fr++D)) (by simp [hA0]) (by
  cases A with
  | nil=>exact absurd rfl hA0
  | cons c t=>have:=nL _ hAh;simpa using this)
 obtain ⟨e1,e2⟩:=zMx fr D hD0 (by have:=(nG _ hDh).1;simpa using this);rw [<-hl] at d1 d2;have hstop:∀ (x:UInt8) (r:List UInt8),fx fr++D=x::r->Wpl.isL x=false:=by
  intro x r hx;cases fr with
  | true =>
   have:x=36:=by have:=(List.cons.inj hx).1;exact this.symm
   rw [this];rfl
  | false =>
   have hx':D=x::r:=hx;rw [hx'] at hDh;exact (nG _ hDh).2
 have tA:∀ (A:List UInt8),A.all Wpl.isL=true->(A++(fx fr++D)).takeWhile Wpl.isL=A/\(A++(fx fr++D)).dropWhile Wpl.isL=fx fr++D:=by
  intro A hA;induction A with
  | nil =>
   cases hq:fx fr++D with
   | nil=>exact ⟨rfl,rfl⟩
   | cons x r =>
    have:=hstop x r hq;simp [this]
  | cons c t ih =>
   simp only [List.all_cons,Bool.and_eq_true] at hA;obtain ⟨i1,i2⟩:=ih hA.2;simp only [List.cons_append,List.takeWhile_cons,List.dropWhile_cons,hA.1,if_true,i1,i2,and_self]
 obtain ⟨t1,t2⟩:=tA A hA;have u1:A.filter (λc=>!(c == 36))=A:=List.filter_eq_self.2 λx hx=>by rw [nL x (List.all_eq_true.1 hA x hx)];rfl
 have u2:D.filter (λc=>!(c == 36))=D:=List.filter_eq_self.2 λx hx=>by rw [(nG x (List.all_eq_true.1 hD x hx)).1];rfl
 have u3:∀ b,(fx b).filter (λc=>!(c == 36))=[]:=λb=>by cases b <;> rfl
 have a1:A.any (λc=>c == 36)=false:=by
  rw [List.any_eq_false];intro x hx;rw [nL x (List.all_eq_true.1 hA x hx)];simp
 have a2:D.any (λc=>c == 36)=false:=by
  rw [List.any_eq_false];intro x hx;rw [(nG x (List.all_eq_true.1 hD x hx)).1];simp
 refine ⟨d1,by unfold qA;rw [d2,t1],by unfold qD0;rw [d2,t2,e1],by unfold qD qD0;rw [d2,t2,e2],?_,?_,hDh⟩
 ·unfold zBx;rw [hl,List.filter_append,List.filter_append,List.filter_append,u1,u2,u3,u3];simp
 ·rw [d2,List.any_append,List.any_append,a1,a2];cases fr <;> rfl
theorem zKd (l:List UInt8):l=fx (dol l)++qS l:=by
 unfold qS;cases l with
 | nil=>rfl
 | cons c t =>
  cases h:dol (c::t) with
  | false=>rfl
  | true =>
   have:c=36:=by simpa [dol] using h
   rw [this];rfl
theorem zC0 (p:UInt8->Bool) (l:List UInt8):(l.takeWhile p).all p=true:=by
 induction l with
 | nil=>rfl
 | cons c t ih =>
  rw [List.takeWhile_cons];split
  ·rename_i h;simp [h,ih]
  ·rfl
theorem zPt (l:List UInt8):qW l=rw1 l:=by
 have hback:l=fx (dol l)++(qA l++(fx (dol (qD0 l))++qD l)):=by
  have e1:=zKd l;have e2:qS l=qA l++qD0 l:=(List.takeWhile_append_dropWhile).symm;have e3:=zKd (qD0 l);conv=>lhs;rw [e1,e2,e3]
  rfl
 by_cases hc:(Wpl.rdOk (qA l++qD l) && !(qA l).isEmpty && !(qD l).isEmpty && Wpl.isG ((qD l).headD 0))=true
 ·have hq:qW l=some ⟨⟨#[]⟩,Wpl.rdR (qA l++qD l),Wpl.rdC (qA l++qD l),dol (qD0 l),dol l⟩:=by unfold qW;rw [if_pos hc]
  simp only [Bool.and_eq_true,Bool.not_eq_true',List.isEmpty_eq_false_iff] at hc;obtain ⟨⟨⟨hr,hA0⟩,hD0⟩,hg⟩:=hc;have hA:(qA l).all Wpl.isL=true:=zC0 _ _;obtain ⟨A,D,e,gA,gA0,gD,gD0,gC,gR,gB⟩:=zHJ hr;have hsplit:∀ (P Q A D:List UInt8),P++Q=A++D->P.all Wpl.isL=true->A.all Wpl.isL=true->Q ≠ []->Wpl.isL (Q.headD 0)=false->D ≠ []->Wpl.isL (D.headD 0)=false->P=A/\Q=D:=by
   intro P;induction P with
   | nil =>
    intro Q A D e h1 h2 h3 h4 h5 h6;cases A with
    | nil=>exact ⟨rfl,e⟩
    | cons c t =>
     simp only [List.nil_append] at e;rw [e] at h4;simp only [List.all_cons,Bool.and_eq_true] at h2;rw [show (c::t++D).headD 0=c from rfl,h2.1] at h4;cases h4
   | cons p P ih =>
    intro Q A D e h1 h2 h3 h4 h5 h6;cases A with
    | nil =>
     simp only [List.nil_append] at e;rw [<-e] at h6;simp only [List.all_cons,Bool.and_eq_true] at h1;rw [show (p::P++Q).headD 0=p from rfl,h1.1] at h6;cases h6
    | cons c t =>
     simp only [List.cons_append,List.cons.injEq] at e;simp only [List.all_cons,Bool.and_eq_true] at h1 h2;obtain ⟨i1,i2⟩:=ih Q t D e.2 h1.2 h2.2 h3 h4 h5 h6;exact ⟨by rw [e.1,i1],i2⟩
  have gnl:∀ x:UInt8,Wpl.isG x=true->Wpl.isL x=false:=λx hx=>by
   have:=isG_iff.1 hx;cases hq:Wpl.isL x with
   | false=>rfl
   | true=>have:=isL_iff.1 hq;omega
  have gDh:Wpl.isG (D.headD 0)=true:=by
   cases D with
   | nil=>exact absurd rfl gD0
   | cons c t=>simp only [List.all_cons,Bool.and_eq_true] at gD;exact gD.1
  obtain ⟨eA,eD⟩:=hsplit _ _ _ _ e hA gA hD0 (gnl _ hg) gD0 (gnl _ gDh);have hDa:(qD l).all Wpl.isG=true:=by rw [eD];exact gD
  obtain ⟨f1,f2,f3,f4,f5,f6,-⟩:=zEW hback hA hA0 hDa hD0;rw [hq];unfold rw1;have hrf:zIQ l=⟨⟨#[]⟩,Wpl.rdR (qA l++qD l),Wpl.rdC (qA l++qD l),dol (qD0 l),dol l⟩:=by
   unfold zIQ;have f6':(if dol l then l.drop 1 else l).any (λc=>c == 36)=dol (qD0 l):=f6;rw [f5,f6']
  have hcw:cw (zIQ l)=l:=by
   rw [hrf];unfold cw;simp only;rw [gC,gR,<-eA,<-eD];conv=>rhs;rw [hback]
   simp
  rw [f5,if_pos hr,if_pos hcw,hrf]
 ·have hq:qW l=none:=by unfold qW;rw [if_neg hc]
  rw [hq];unfold rw1;by_cases hr:Wpl.rdOk (zBx l)=true
  ·rw [if_pos hr];by_cases hcw:cw (zIQ l)=l
   ·exfalso
    apply hc
    obtain ⟨A,D,e,gA,gA0,gD,gD0,gC,gR,gB⟩:=zHJ hr;have hl:l=fx (dol l)++(A++(fx (zIQ l).fr++D)):=by
     conv=>lhs;rw [<-hcw]
     unfold cw;show fx (dol l)++Wpl.colS (Wpl.rdC (zBx l))++fx (zIQ l).fr++Lib.decDigits (Wpl.rdR (zBx l)+1).toNat=_
     rw [gC,gR];simp
    obtain ⟨f1,f2,f3,f4,f5,f6,f7⟩:=zEW hl gA gA0 gD gD0;rw [f2,f4,<-f5,hr,f7];simp [gA0,gD0]
   ·rw [if_neg hcw]
  ·rw [if_neg hr]
open Go.RowKit
theorem zOr (h:l[i]? = some c):i<(⟨l.toArray⟩:ByteArray).size:=by
 show i<l.toArray.size
 rw [List.size_toArray];exact (List.getElem?_eq_some_iff.1 h).1
theorem zCh (h:l[i]? = some c):((((⟨l.toArray⟩:ByteArray)[i]'(zOr h)).toNat:Nat):Int)=(c.toNat:Int):=by
 obtain ⟨hi,e⟩:=List.getElem?_eq_some_iff.1 h;have:(⟨l.toArray⟩:ByteArray)[i]'(zOr h)=l[i]:=rfl;rw [this,e]
def RD (s:List UInt8):Value:=.tuple #[.int .i64 (Wpl.rdR s),.int .i64 (Wpl.rdC s),.bool (Wpl.rdOk s)]
theorem zEj (h:Wpl.rdOk s=false):RD s=.tuple #[.int .i64 0,.int .i64 0,.bool false]:=by
 unfold RD Wpl.rdR Wpl.rdC;rw [h];rfl
theorem isL_int:Wpl.isL c=true ↔ 65<=(c.toNat:Int)/\(c.toNat:Int)<=90:=by simp [Wpl.isL];omega
theorem zGL (h:Wpl.isL c=false):¬ (65<=(c.toNat:Int)/\(c.toNat:Int)<=90):=by
 rw [<-isL_int,h];simp
theorem zRv (h:c ≠ 48):¬ (c.toNat:Int)=48:=λe=>h (UInt8.toNat_inj.1 (by
 have e2:c.toNat=48:=by omega
 rw [e2];rfl))
theorem zKn (w:World):Calls prog 190 #[.string ⟨#[]⟩] w λe w'=>e=.returned (RD [])/\w=w':=by
 have E:Hid (RD []=.tuple #[.int .i64 0,.int .i64 0,.bool false]):=zEj Wpl.rd_none;go_enter func190,ntmps190;go_wp2;go_loopw [5,6] (λx y wr=>x=.int .i64 0/\y=.int .i64 0/\wr=w) (λ_ _ _=>0)
 case atStart=>exact ⟨rfl,rfl,rfl⟩
 case round =>
  obtain ⟨rfl,rfl,rfl⟩:=hrel;go_wp2;go_ret3
  exact ⟨by rw [E.out];rfl,rfl⟩
theorem zMi (a:UInt8) (t:List UInt8) (w:World) (hl:t.length+1<=9223372036854775000) (h:Wpl.isL a=false):Calls prog 190 #[.string ⟨(a::t).toArray⟩] w λe w'=>e=.returned (RD (a::t))/\w=w':=by
 have E:Hid (RD (a::t)=.tuple #[.int .i64 0,.int .i64 0,.bool false]):=zEj (Wpl.rd_no t h);have h':=zGL h;obtain ⟨b0,b1⟩:=zCS a;clear h;have hlen:(0:Int)<(t.length:Int)+1:=by omega
 have ea:=zCh (l:=a::t) (i:=0) (c:=a) rfl;go_enter func190,ntmps190;go_wp2;go_loopw [5,6] (λx y wr=>x=.int .i64 0/\y=.int .i64 0/\wr=w) (λ_ _ _=>0)
 case atStart=>exact ⟨rfl,rfl,rfl⟩
 case round =>
  obtain ⟨rfl,rfl,rfl⟩:=hrel;by_cases h1:65<=(a.toNat:Int)
  ·have h2:¬ (a.toNat:Int)<=90:=by omega
   go_wp2;go_ret3
   exact ⟨by rw [E.out];rfl,rfl⟩
  ·go_wp2;go_ret3
   exact ⟨by rw [E.out];rfl,rfl⟩
theorem zG1 (a b c:UInt8) (u:List UInt8) (w:World) (hl:u.length+3<=9223372036854775000) (h1:Wpl.isL a=true) (h2:Wpl.isL b=true) (h3:Wpl.isL c=true):Calls prog 190 #[.string ⟨(a::b::c::u).toArray⟩] w λe w'=>e=.returned (RD (a::b::c::u))/\w=w':=by
 have E:Hid (RD (a::b::c::u)=.tuple #[.int .i64 0,.int .i64 0,.bool false]):=zEj (Wpl.rd_three u h1 h2 h3);obtain ⟨p1,q1⟩:=isL_int.1 h1;obtain ⟨p2,q2⟩:=isL_int.1 h2;obtain ⟨p3,q3⟩:=isL_int.1 h3;clear h1 h2 h3;have ea:=zCh (l:=a::b::c::u) (i:=0) (c:=a) rfl;have eb:=zCh (l:=a::b::c::u) (i:=1) (c:=b) rfl;have ec:=zCh (l:=a::b::c::u) (i:=2) (c:=c) rfl;have l0:(0:Int)<(u.length:Int)+1+1+1:=by omega
 have l1:(1:Int)<(u.length:Int)+1+1+1:=by omega
 have l2:(2:Int)<(u.length:Int)+1+1+1:=by omega
 go_enter func190,ntmps190;go_wp2;go_loopw [5,6] (λx y wr=>∃ (k:Nat) (m:Int),k<=3/\x=.int .i64 k/\y=.int .i64 m/\0<=m/\m<=100000/\(k=0->m<=0)/\(k=1->m<=26)/\(k=2->m<=800)/\wr=w) (λx _ _=>3 - (intOf x).toNat)
 case atStart=>exact ⟨0,0,by omega,rfl,rfl,by omega,by omega,by omega,by omega,by omega,rfl⟩
 case round =>
  obtain ⟨k,m,hk,rfl,rfl,m0,m1,k0,k1,k2,rfl⟩:=hrel;rcases (show k=0 \/ k=1 \/ k=2 \/ k=3 by omega) with rfl | rfl | rfl | rfl
  ·have g:m<=0:=k0 rfl;clear k0 k1 k2;go_wp2_with fail
   go_roundw
   case rel=>exact ⟨1,26 * m+((a.toNat:Int) - 65)+1,by omega,rfl,rfl,by omega,by omega,by omega,by omega,by omega,trivial⟩
   case measure=>simp [intOf]
  ·have g:m<=26:=k1 rfl;clear k0 k1 k2;go_wp2_with fail
   go_roundw
   case rel=>exact ⟨2,26 * m+((b.toNat:Int) - 65)+1,by omega,rfl,rfl,by omega,by omega,by omega,by omega,by omega,trivial⟩
   case measure=>simp [intOf]
  ·have g:m<=800:=k2 rfl;clear k0 k1 k2;go_wp2_with fail
   go_roundw
   case rel=>exact ⟨3,26 * m+((c.toNat:Int) - 65)+1,by omega,rfl,rfl,by omega,by omega,by omega,by omega,by omega,trivial⟩
   case measure=>simp [intOf]
  ·clear k0 k1 k2;go_wp2;all_goals
    go_ret3
    exact ⟨by rw [E.out];rfl,rfl⟩
theorem zIP (a:UInt8) (w:World) (h1:Wpl.isL a=true):Calls prog 190 #[.string ⟨(a::[]).toArray⟩] w λe w'=>e=.returned (RD (a::[]))/\w=w':=by
 have hn:Wpl.noL []=true:=rfl;have E:Hid (RD (a::[])=.tuple #[.int .i64 0,.int .i64 0,.bool false]):=zEj (by rw [(Wpl.rd_one h1 hn).1,Wpl.dg_nil]);obtain ⟨p0,q0⟩:=isL_int.1 h1;have v0:Hid (((Wpl.vl a:Nat):Int)=(a.toNat:Int) - 65+1):=by show _=_;unfold Wpl.vl;omega
 have vi0:0<=((Wpl.vl a:Nat):Int)/\((Wpl.vl a:Nat):Int)<=26:=by have:=Wpl.vl_bd h1;omega
 have e0:=zCh (l:=a::[]) (i:=0) (c:=a) rfl;clear h1 hn;go_enter func190,ntmps190;go_wp2;go_loopw [5,6] (λx y wr=>∃ (k m:Nat),x=.int .i64 k/\y=.int .i64 m/\(k=0/\m=0 \/ k=1/\m=Wpl.vl a)/\wr=w) (λx _ _=>3 - (intOf x).toNat)
 case atStart=>exact ⟨0,0,rfl,rfl,by omega,rfl⟩
 case round =>
  obtain ⟨k,m,rfl,rfl,hst,rfl⟩:=hrel;rcases hst with ⟨rfl,rfl⟩ | ⟨rfl,rfl⟩
  ·go_wp2_with fail
   go_roundw
   case rel=>exact ⟨1,Wpl.vl a,rfl,congrArg (Value.int IntKind.i64) (by have:=v0.out;first | omega | (push_cast;omega)),by omega,trivial⟩
   case measure=>simp [intOf]
  ·go_wp2;go_ret3
   exact ⟨by rw [E.out];rfl,rfl⟩
theorem zIT (a b:UInt8) (w:World) (h1:Wpl.isL a=true) (h2:Wpl.isL b=true):Calls prog 190 #[.string ⟨(a::b::[]).toArray⟩] w λe w'=>e=.returned (RD (a::b::[]))/\w=w':=by
 have hn:Wpl.noL []=true:=rfl;have E:Hid (RD (a::b::[])=.tuple #[.int .i64 0,.int .i64 0,.bool false]):=zEj (by rw [(Wpl.rd_two h1 h2 hn).1,Wpl.dg_nil];simp);obtain ⟨p0,q0⟩:=isL_int.1 h1;have v0:Hid (((Wpl.vl a:Nat):Int)=(a.toNat:Int) - 65+1):=by show _=_;unfold Wpl.vl;omega
 have vi0:0<=((Wpl.vl a:Nat):Int)/\((Wpl.vl a:Nat):Int)<=26:=by have:=Wpl.vl_bd h1;omega
 have e0:=zCh (l:=a::b::[]) (i:=0) (c:=a) rfl;obtain ⟨p1,q1⟩:=isL_int.1 h2;have v1:Hid (((Wpl.vl b:Nat):Int)=(b.toNat:Int) - 65+1):=by show _=_;unfold Wpl.vl;omega
 have vi1:0<=((Wpl.vl b:Nat):Int)/\((Wpl.vl b:Nat):Int)<=26:=by have:=Wpl.vl_bd h2;omega
 have e1:=zCh (l:=a::b::[]) (i:=1) (c:=b) rfl;clear h1 h2 hn;go_enter func190,ntmps190;go_wp2;go_loopw [5,6] (λx y wr=>∃ (k m:Nat),x=.int .i64 k/\y=.int .i64 m/\(k=0/\m=0 \/ k=1/\m=Wpl.vl a \/ k=2/\m=Wpl.vl a * 26+Wpl.vl b)/\wr=w) (λx _ _=>3 - (intOf x).toNat)
 case atStart=>exact ⟨0,0,rfl,rfl,by omega,rfl⟩
 case round =>
  obtain ⟨k,m,rfl,rfl,hst,rfl⟩:=hrel;rcases hst with ⟨rfl,rfl⟩ | ⟨rfl,rfl⟩ | ⟨rfl,rfl⟩
  ·go_wp2_with fail
   go_roundw
   case rel=>exact ⟨1,Wpl.vl a,rfl,congrArg (Value.int IntKind.i64) (by have:=v0.out;have:=v1.out;first | omega | (push_cast;omega)),by omega,trivial⟩
   case measure=>simp [intOf]
  ·go_wp2_with fail
   go_roundw
   case rel=>exact ⟨2,Wpl.vl a * 26+Wpl.vl b,rfl,congrArg (Value.int IntKind.i64) (by have:=v0.out;have:=v1.out;first | omega | (push_cast;omega)),by omega,trivial⟩
   case measure=>simp [intOf]
  ·go_wp2;go_ret3
   exact ⟨by rw [E.out];rfl,rfl⟩
theorem zG7 (a c:UInt8) (t:List UInt8) (w:World) (hl:t.length+3<=9223372036854775000) (h1:Wpl.isL a=true) (hc:Wpl.isL c=false):Calls prog 190 #[.string ⟨(a::c::t).toArray⟩] w λe w'=>e=.returned (RD (a::c::t))/\w=w':=by
 have hn:Wpl.noL (c::t)=true:=by simp [Wpl.noL,hc]
 obtain ⟨D1,D2⟩:=Wpl.rd_one h1 hn;have hc':=zGL hc;have vb0:=Wpl.vl_bd h1;obtain ⟨p0,q0⟩:=isL_int.1 h1;have v0:Hid (((Wpl.vl a:Nat):Int)=(a.toNat:Int) - 65+1):=by show _=_;unfold Wpl.vl;omega
 have vi0:0<=((Wpl.vl a:Nat):Int)/\((Wpl.vl a:Nat):Int)<=26:=by have:=Wpl.vl_bd h1;omega
 have e0:=zCh (l:=a::c::t) (i:=0) (c:=a) rfl;have ec:=zCh (l:=a::c::t) (i:=1) (c:=c) rfl;obtain ⟨b0,b1⟩:=zCS c;have hlen:(1:Int)<(t.length:Int)+1+1:=by omega
 have hlen0:(0:Int)<(t.length:Int)+1+1:=by omega
 have hlen1:(1:Int)<(t.length:Int)+1+1:=by omega
 have hne:(((t.length:Int)+1+1) == 1)=false:=by simp;omega
 have DD:Hid (Wpl.rdOk (a::c::t)=Wpl.dgOk (c::t)):=D1;have DR:Hid (Wpl.rc 0 (a::c::t)=(Wpl.vl a,c::t)):=D2;clear D1 D2 h1 hn hc;have NO:Hid (Wpl.dgOk (c::t)=false->RD (a::c::t)=.tuple #[.int .i64 0,.int .i64 0,.bool false]):=λh=>zEj (by rw [DD.out,h])
 have ngc:∀ h:65<=(c.toNat:Int),Wpl.isG c=false:=λh=>by simp [Wpl.isG];omega
 have Hg:Hid (65<=(c.toNat:Int)->Wpl.dgOk (c::t)=false):=λh=>Wpl.dg_not (λe=>by rw [e] at h;exact absurd h (by decide)) (Wpl.all_not (j:=0) rfl (ngc h))
 have Hz:Hid (c=48->Wpl.dgOk (c::t)=false):=λh=>by rw [h];exact Wpl.dg_zero t
 have Hl:Hid (5<=t.length->Wpl.dgOk (c::t)=false):=λh=>by
  by_cases e:c=48
  ·rw [e];exact Wpl.dg_zero t
  ·exact Wpl.dg_long e h
 clear ngc;go_enter func190,ntmps190;go_wp2;go_loopw [5,6] (λx y wr=>∃ (k m:Nat),x=.int .i64 k/\y=.int .i64 m/\(k=0/\m=0 \/ k=1/\m=Wpl.vl a)/\wr=w) (λx _ _=>3 - (intOf x).toNat)
 case atStart=>exact ⟨0,0,rfl,rfl,by omega,rfl⟩
 case round =>
  obtain ⟨k,m,rfl,rfl,hst,rfl⟩:=hrel;rcases hst with ⟨rfl,rfl⟩ | ⟨rfl,rfl⟩
  ·go_wp2_with fail
   go_roundw
   case rel=>exact ⟨1,Wpl.vl a,rfl,congrArg (Value.int IntKind.i64) (by have:=v0.out;first | omega | (push_cast;omega)),by omega,trivial⟩
   case measure=>simp [intOf]
  ·by_cases hge:65<=(c.toNat:Int)
   ·have hle:¬ (c.toNat:Int)<=90:=by omega
    have E:=NO.out (Hg.out hge);have EE:Hid (RD (a::c::t)=.tuple #[.int .i64 0,.int .i64 0,.bool false]):=E;clear E;have h48:((c.toNat:Int) == 48)=false:=by simp;omega
    have h57:(57:Int)<(c.toNat:Int):=by omega
    by_cases hlong:5<=t.length
    ·have hL:((1:Int)+5)<(t.length:Int)+1+1:=by omega
     have hL2:(6:Int)<(t.length:Int)+1+1:=by omega
     go_wp2;go_ret3
     exact ⟨by rw [EE.out];rfl,rfl⟩
    ·have hL2:¬ (6:Int)<(t.length:Int)+1+1:=by omega
     go_wp2;go_loopw [7,8] (λx y wq=>x=.int .i64 0/\y=.int .i64 1/\wq=wr) (λ_ _ _=>0)
     case atStart=>exact ⟨rfl,rfl,rfl⟩
     case round =>
      obtain ⟨rfl,rfl,rfl⟩:=hrel;go_wp2;go_ret3
      exact ⟨by rw [EE.out];rfl,rfl⟩
   ·by_cases hlong:5<=t.length
    ·have EE:Hid (RD (a::c::t)=.tuple #[.int .i64 0,.int .i64 0,.bool false]):=NO.out (Hl.out hlong);have hL2:(6:Int)<(t.length:Int)+1+1:=by omega
     go_wp2;go_ret3
     exact ⟨by rw [EE.out];rfl,rfl⟩
    ·have hL2:¬ (6:Int)<(t.length:Int)+1+1:=by omega
     by_cases h0:c=48
     ·have EE:Hid (RD (a::c::t)=.tuple #[.int .i64 0,.int .i64 0,.bool false]):=NO.out (Hz.out h0);have h48:((c.toNat:Int) == 48)=true:=by rw [h0];rfl
      clear h0;go_wp2;go_ret3
      exact ⟨by rw [EE.out];rfl,rfl⟩
     ·have h48:((c.toNat:Int) == 48)=false:=by simp;exact zRv h0
      have HY:Hid (Wpl.allG (c::t)=true->Wpl.dgOk (c::t)=decide (Wpl.fv 0 (c::t)<=65536)/\(Wpl.rr (c::t)).1=Wpl.fv 0 (c::t)/\1<=Wpl.fv 0 (c::t)):=λh=>Wpl.dg_in h0 h (by omega)
      have HX:Hid (Wpl.allG (c::t)=false->Wpl.dgOk (c::t)=false):=λh=>Wpl.dg_not h0 h
      clear h0 Hg Hz Hl;go_wp2;go_loopw [7,8] (λx y wq=>∃ j:Nat,j<=t.length+1/\x=.int .i64 (Wpl.fv 0 ((c::t).take j):Nat)/\y=.int .i64 ((1+j:Nat):Int)/\Hid (Wpl.allG ((c::t).take j)=true)/\wq=wr) (λ_ y _=>t.length+10 - (intOf y).toNat)
      case atStart=>exact ⟨0,by omega,rfl,rfl,(rfl:Wpl.allG ((c::t).take 0)=true),rfl⟩
      case round =>
       obtain ⟨j,hj,rfl,rfl,HA,rfl⟩:=hrel;by_cases hlt:j<t.length+1
       ·obtain ⟨d,hd⟩:∃ d,(c::t)[j]? = some d:=⟨(c::t)[j]'(by simpa using hlt),List.getElem?_eq_getElem (by simpa using hlt)⟩
        have hd2:(a::c::t)[1+j]? = some d:=by rw [show 1+j=j+1 by omega];exact hd
        have ed:=zCh hd2;obtain ⟨d0,d1⟩:=zCS d;have fb:=Wpl.fv_five (D:=c::t) (j:=j) (by omega) HA.out;have FT:Hid (Wpl.fv 0 ((c::t).take (j+1))=Wpl.fv 0 ((c::t).take j) * 10+(d.toNat - 48)):=Wpl.fv_take hd;have AT:Hid (Wpl.allG ((c::t).take (j+1))=(Wpl.allG ((c::t).take j) && Wpl.isG d)):=Wpl.all_take hd;have AN:Hid (Wpl.isG d=false->Wpl.allG (c::t)=false):=λh=>Wpl.all_not hd h
        have z1:((1:Int)+(j:Int))<(t.length:Int)+1+1:=by omega
        clear hd;generalize Wpl.fv 0 ((c::t).take j)=rv at *;by_cases g1:(d.toNat:Int)<48
        ·have EE:Hid (RD (a::c::t)=.tuple #[.int .i64 0,.int .i64 0,.bool false]):=NO.out (HX.out (AN.out (by simp [Wpl.isG];omega)));clear AN AT FT HA;go_wp2;go_ret3
         exact ⟨by rw [EE.out];rfl,rfl⟩
        by_cases g2:57<(d.toNat:Int)
        ·have EE:Hid (RD (a::c::t)=.tuple #[.int .i64 0,.int .i64 0,.bool false]):=NO.out (HX.out (AN.out (by simp [Wpl.isG];omega)));clear AN AT FT HA;go_wp2;go_ret3
         exact ⟨by rw [EE.out];rfl,rfl⟩
        have AT':Hid (Wpl.allG ((c::t).take (j+1))=true):=by show _=_;rw [AT.out,HA.out];simp [Wpl.isG];omega
        clear AN AT HA;go_wp2_with fail
        go_roundw
        case rel=>exact ⟨j+1,by omega,congrArg (Value.int IntKind.i64) (by rw [FT.out];first | omega | (push_cast;omega)),congrArg (Value.int IntKind.i64) (by first | omega | (push_cast;omega)),AT',trivial⟩
        case measure=>simp [intOf];omega
       ·obtain rfl:j=t.length+1:=by omega
        have et:(c::t).take (t.length+1)=c::t:=List.take_of_length_le (by simp);rw [et] at HA ⊢;obtain ⟨y1,y2,y3⟩:=HY.out HA.out;have fb:=Wpl.fv_five (D:=c::t) (j:=t.length+1) (by omega) (by rw [et];exact HA.out);rw [et] at fb;have z1:¬ ((1:Int)+((t.length:Int)+1))<(t.length:Int)+1+1:=by omega
        have RY:Hid (Wpl.rdOk (a::c::t)=true->RD (a::c::t)=.tuple #[.int .i64 ((Wpl.fv 0 (c::t):Int) - 1),.int .i64 ((Wpl.vl a:Nat) - 1),.bool true]):=λh=>by
         unfold RD Wpl.rdR Wpl.rdC;rw [h,DR.out];simp only [if_true,y2]
        have RN:Hid (Wpl.rdOk (a::c::t)=false->RD (a::c::t)=.tuple #[.int .i64 0,.int .i64 0,.bool false]):=λh=>zEj h
        rw [y1] at DD;clear y1 y2 HY HX NO DR HA et;generalize Wpl.fv 0 (c::t)=rv at *;by_cases k1:rv<=65536
        ·have E:=RY.out (by rw [DD.out,decide_eq_true k1]);have EE:Hid (RD (a::c::t)=.tuple #[.int .i64 ((rv:Int) - 1),.int .i64 ((Wpl.vl a:Nat) - 1),.bool true]):=E;clear E;have k2:¬ (65536:Int)<(rv:Int):=by omega
         have k3:¬ (256:Int)<((Wpl.vl a:Nat):Int):=by omega
         go_wp2;go_ret3
         exact ⟨by rw [EE.out];rfl,rfl⟩
        ·have E:=RN.out (by rw [DD.out,decide_eq_false k1]);have EE:Hid (RD (a::c::t)=.tuple #[.int .i64 0,.int .i64 0,.bool false]):=E;clear E;have k2:(65536:Int)<(rv:Int):=by omega
         have k3:¬ (256:Int)<((Wpl.vl a:Nat):Int):=by omega
         go_wp2;go_ret3
         exact ⟨by rw [EE.out];rfl,rfl⟩
theorem zGq (a b c:UInt8) (t:List UInt8) (w:World) (hl:t.length+3<=9223372036854775000) (h1:Wpl.isL a=true) (h2:Wpl.isL b=true) (hc:Wpl.isL c=false):Calls prog 190 #[.string ⟨(a::b::c::t).toArray⟩] w λe w'=>e=.returned (RD (a::b::c::t))/\w=w':=by
 have hn:Wpl.noL (c::t)=true:=by simp [Wpl.noL,hc]
 obtain ⟨D1,D2⟩:=Wpl.rd_two h1 h2 hn;have hc':=zGL hc;have vb0:=Wpl.vl_bd h1;obtain ⟨p0,q0⟩:=isL_int.1 h1;have v0:Hid (((Wpl.vl a:Nat):Int)=(a.toNat:Int) - 65+1):=by show _=_;unfold Wpl.vl;omega
 have vi0:0<=((Wpl.vl a:Nat):Int)/\((Wpl.vl a:Nat):Int)<=26:=by have:=Wpl.vl_bd h1;omega
 have e0:=zCh (l:=a::b::c::t) (i:=0) (c:=a) rfl;have vb1:=Wpl.vl_bd h2;obtain ⟨p1,q1⟩:=isL_int.1 h2;have v1:Hid (((Wpl.vl b:Nat):Int)=(b.toNat:Int) - 65+1):=by show _=_;unfold Wpl.vl;omega
 have vi1:0<=((Wpl.vl b:Nat):Int)/\((Wpl.vl b:Nat):Int)<=26:=by have:=Wpl.vl_bd h2;omega
 have e1:=zCh (l:=a::b::c::t) (i:=1) (c:=b) rfl;have ec:=zCh (l:=a::b::c::t) (i:=2) (c:=c) rfl;obtain ⟨b0,b1⟩:=zCS c;have hlen:(2:Int)<(t.length:Int)+1+1+1:=by omega
 have hlen0:(0:Int)<(t.length:Int)+1+1+1:=by omega
 have hlen1:(1:Int)<(t.length:Int)+1+1+1:=by omega
 have hne:(((t.length:Int)+1+1+1) == 2)=false:=by simp;omega
 have DD:Hid (Wpl.rdOk (a::b::c::t)=(decide (Wpl.vl a * 26+Wpl.vl b<=256) && Wpl.dgOk (c::t))):=D1;have DR:Hid (Wpl.rc 0 (a::b::c::t)=((Wpl.vl a * 26+Wpl.vl b),c::t)):=D2;clear D1 D2 h1 h2 hn hc;have NO:Hid (Wpl.dgOk (c::t)=false->RD (a::b::c::t)=.tuple #[.int .i64 0,.int .i64 0,.bool false]):=λh=>zEj (by rw [DD.out,h];simp)
 have ngc:∀ h:65<=(c.toNat:Int),Wpl.isG c=false:=λh=>by simp [Wpl.isG];omega
 have Hg:Hid (65<=(c.toNat:Int)->Wpl.dgOk (c::t)=false):=λh=>Wpl.dg_not (λe=>by rw [e] at h;exact absurd h (by decide)) (Wpl.all_not (j:=0) rfl (ngc h))
 have Hz:Hid (c=48->Wpl.dgOk (c::t)=false):=λh=>by rw [h];exact Wpl.dg_zero t
 have Hl:Hid (5<=t.length->Wpl.dgOk (c::t)=false):=λh=>by
  by_cases e:c=48
  ·rw [e];exact Wpl.dg_zero t
  ·exact Wpl.dg_long e h
 clear ngc;go_enter func190,ntmps190;go_wp2;go_loopw [5,6] (λx y wr=>∃ (k m:Nat),x=.int .i64 k/\y=.int .i64 m/\(k=0/\m=0 \/ k=1/\m=Wpl.vl a \/ k=2/\m=Wpl.vl a * 26+Wpl.vl b)/\wr=w) (λx _ _=>3 - (intOf x).toNat)
 case atStart=>exact ⟨0,0,rfl,rfl,by omega,rfl⟩
 case round =>
  obtain ⟨k,m,rfl,rfl,hst,rfl⟩:=hrel;rcases hst with ⟨rfl,rfl⟩ | ⟨rfl,rfl⟩ | ⟨rfl,rfl⟩
  ·go_wp2_with fail
   go_roundw
   case rel=>exact ⟨1,Wpl.vl a,rfl,congrArg (Value.int IntKind.i64) (by have:=v0.out;have:=v1.out;first | omega | (push_cast;omega)),by omega,trivial⟩
   case measure=>simp [intOf]
  ·go_wp2_with fail
   go_roundw
   case rel=>exact ⟨2,Wpl.vl a * 26+Wpl.vl b,rfl,congrArg (Value.int IntKind.i64) (by have:=v0.out;have:=v1.out;first | omega | (push_cast;omega)),by omega,trivial⟩
   case measure=>simp [intOf]
  ·by_cases hge:65<=(c.toNat:Int)
   ·have hle:¬ (c.toNat:Int)<=90:=by omega
    have E:=NO.out (Hg.out hge);have EE:Hid (RD (a::b::c::t)=.tuple #[.int .i64 0,.int .i64 0,.bool false]):=E;clear E;have h48:((c.toNat:Int) == 48)=false:=by simp;omega
    have h57:(57:Int)<(c.toNat:Int):=by omega
    by_cases hlong:5<=t.length
    ·have hL:((2:Int)+5)<(t.length:Int)+1+1+1:=by omega
     have hL2:(7:Int)<(t.length:Int)+1+1+1:=by omega
     go_wp2;go_ret3
     exact ⟨by rw [EE.out];rfl,rfl⟩
    ·have hL2:¬ (7:Int)<(t.length:Int)+1+1+1:=by omega
     go_wp2;go_loopw [7,8] (λx y wq=>x=.int .i64 0/\y=.int .i64 2/\wq=wr) (λ_ _ _=>0)
     case atStart=>exact ⟨rfl,rfl,rfl⟩
     case round =>
      obtain ⟨rfl,rfl,rfl⟩:=hrel;go_wp2;go_ret3
      exact ⟨by rw [EE.out];rfl,rfl⟩
   ·by_cases hlong:5<=t.length
    ·have EE:Hid (RD (a::b::c::t)=.tuple #[.int .i64 0,.int .i64 0,.bool false]):=NO.out (Hl.out hlong);have hL2:(7:Int)<(t.length:Int)+1+1+1:=by omega
     go_wp2;go_ret3
     exact ⟨by rw [EE.out];rfl,rfl⟩
    ·have hL2:¬ (7:Int)<(t.length:Int)+1+1+1:=by omega
     by_cases h0:c=48
     ·have EE:Hid (RD (a::b::c::t)=.tuple #[.int .i64 0,.int .i64 0,.bool false]):=NO.out (Hz.out h0);have h48:((c.toNat:Int) == 48)=true:=by rw [h0];rfl
      clear h0;go_wp2;go_ret3
      exact ⟨by rw [EE.out];rfl,rfl⟩
     ·have h48:((c.toNat:Int) == 48)=false:=by simp;exact zRv h0
      have HY:Hid (Wpl.allG (c::t)=true->Wpl.dgOk (c::t)=decide (Wpl.fv 0 (c::t)<=65536)/\(Wpl.rr (c::t)).1=Wpl.fv 0 (c::t)/\1<=Wpl.fv 0 (c::t)):=λh=>Wpl.dg_in h0 h (by omega)
      have HX:Hid (Wpl.allG (c::t)=false->Wpl.dgOk (c::t)=false):=λh=>Wpl.dg_not h0 h
      clear h0 Hg Hz Hl;go_wp2;go_loopw [7,8] (λx y wq=>∃ j:Nat,j<=t.length+1/\x=.int .i64 (Wpl.fv 0 ((c::t).take j):Nat)/\y=.int .i64 ((2+j:Nat):Int)/\Hid (Wpl.allG ((c::t).take j)=true)/\wq=wr) (λ_ y _=>t.length+10 - (intOf y).toNat)
      case atStart=>exact ⟨0,by omega,rfl,rfl,(rfl:Wpl.allG ((c::t).take 0)=true),rfl⟩
      case round =>
       obtain ⟨j,hj,rfl,rfl,HA,rfl⟩:=hrel;by_cases hlt:j<t.length+1
       ·obtain ⟨d,hd⟩:∃ d,(c::t)[j]? = some d:=⟨(c::t)[j]'(by simpa using hlt),List.getElem?_eq_getElem (by simpa using hlt)⟩
        have hd2:(a::b::c::t)[2+j]? = some d:=by rw [show 2+j=j+2 by omega];exact hd
        have ed:=zCh hd2;obtain ⟨d0,d1⟩:=zCS d;have fb:=Wpl.fv_five (D:=c::t) (j:=j) (by omega) HA.out;have FT:Hid (Wpl.fv 0 ((c::t).take (j+1))=Wpl.fv 0 ((c::t).take j) * 10+(d.toNat - 48)):=Wpl.fv_take hd;have AT:Hid (Wpl.allG ((c::t).take (j+1))=(Wpl.allG ((c::t).take j) && Wpl.isG d)):=Wpl.all_take hd;have AN:Hid (Wpl.isG d=false->Wpl.allG (c::t)=false):=λh=>Wpl.all_not hd h
        have z1:((2:Int)+(j:Int))<(t.length:Int)+1+1+1:=by omega
        clear hd;generalize Wpl.fv 0 ((c::t).take j)=rv at *;by_cases g1:(d.toNat:Int)<48
        ·have EE:Hid (RD (a::b::c::t)=.tuple #[.int .i64 0,.int .i64 0,.bool false]):=NO.out (HX.out (AN.out (by simp [Wpl.isG];omega)));clear AN AT FT HA;go_wp2;go_ret3
         exact ⟨by rw [EE.out];rfl,rfl⟩
        by_cases g2:57<(d.toNat:Int)
        ·have EE:Hid (RD (a::b::c::t)=.tuple #[.int .i64 0,.int .i64 0,.bool false]):=NO.out (HX.out (AN.out (by simp [Wpl.isG];omega)));clear AN AT FT HA;go_wp2;go_ret3
         exact ⟨by rw [EE.out];rfl,rfl⟩
        have AT':Hid (Wpl.allG ((c::t).take (j+1))=true):=by show _=_;rw [AT.out,HA.out];simp [Wpl.isG];omega
        clear AN AT HA;go_wp2_with fail
        go_roundw
        case rel=>exact ⟨j+1,by omega,congrArg (Value.int IntKind.i64) (by rw [FT.out];first | omega | (push_cast;omega)),congrArg (Value.int IntKind.i64) (by first | omega | (push_cast;omega)),AT',trivial⟩
        case measure=>simp [intOf];omega
       ·obtain rfl:j=t.length+1:=by omega
        have et:(c::t).take (t.length+1)=c::t:=List.take_of_length_le (by simp);rw [et] at HA ⊢;obtain ⟨y1,y2,y3⟩:=HY.out HA.out;have fb:=Wpl.fv_five (D:=c::t) (j:=t.length+1) (by omega) (by rw [et];exact HA.out);rw [et] at fb;have z1:¬ ((2:Int)+((t.length:Int)+1))<(t.length:Int)+1+1+1:=by omega
        have RY:Hid (Wpl.rdOk (a::b::c::t)=true->RD (a::b::c::t)=.tuple #[.int .i64 ((Wpl.fv 0 (c::t):Int) - 1),.int .i64 (((Wpl.vl a * 26+Wpl.vl b):Nat) - 1),.bool true]):=λh=>by
         unfold RD Wpl.rdR Wpl.rdC;rw [h,DR.out];simp only [if_true,y2]
        have RN:Hid (Wpl.rdOk (a::b::c::t)=false->RD (a::b::c::t)=.tuple #[.int .i64 0,.int .i64 0,.bool false]):=λh=>zEj h
        rw [y1] at DD;clear y1 y2 HY HX NO DR HA et;generalize Wpl.fv 0 (c::t)=rv at *;by_cases c1:(Wpl.vl a * 26+Wpl.vl b)<=256
        ·by_cases k1:rv<=65536
         ·have E:=RY.out (by rw [DD.out,decide_eq_true k1,decide_eq_true c1];rfl);have EE:Hid (RD (a::b::c::t)=.tuple #[.int .i64 ((rv:Int) - 1),.int .i64 (((Wpl.vl a * 26+Wpl.vl b):Nat) - 1),.bool true]):=E;clear E;have k2:¬ (65536:Int)<(rv:Int):=by omega
          go_wp2;all_goals first | (exfalso;omega) | skip
          all_goals
           go_ret3
           exact ⟨by rw [EE.out];rfl,rfl⟩
         ·have E:=RN.out (by rw [DD.out,decide_eq_false k1];simp);have EE:Hid (RD (a::b::c::t)=.tuple #[.int .i64 0,.int .i64 0,.bool false]):=E;clear E;have k2:(65536:Int)<(rv:Int):=by omega
          go_wp2;all_goals
           go_ret3
           exact ⟨by rw [EE.out];rfl,rfl⟩
        ·have E:=RN.out (by rw [DD.out,decide_eq_false c1];simp);have EE:Hid (RD (a::b::c::t)=.tuple #[.int .i64 0,.int .i64 0,.bool false]):=E;clear E;go_wp2;all_goals first | (exfalso;omega) | skip
         all_goals
          go_ret3
          exact ⟨by rw [EE.out];rfl,rfl⟩
theorem zF7 (s:List UInt8) (w:World) (hs:s.length<=9223372036854774000) :
  Calls prog 190 #[.string ⟨s.toArray⟩] w λe w'=>e=.returned (RD s)/\w=w':=by
 match s,hs with
 | [],_=>exact zKn w
 | a::t,hs =>
  simp only [List.length_cons] at hs;cases h1:Wpl.isL a with
  | false=>exact zMi a t w (by omega) h1
  | true =>
   match t,hs with
   | [],_=>exact zIP a w h1
   | b::u,hs =>
    simp only [List.length_cons] at hs;cases h2:Wpl.isL b with
    | false=>exact zG7 a b u w (by omega) h1 h2
    | true =>
     match u,hs with
     | [],_=>exact zIT a b w h1 h2
     | c::v,hs =>
      simp only [List.length_cons] at hs;cases h3:Wpl.isL c with
      | false=>exact zGq a b c v w (by omega) h1 h2 h3
      | true=>exact zG1 a b c v w (by omega) h1 h2 h3
