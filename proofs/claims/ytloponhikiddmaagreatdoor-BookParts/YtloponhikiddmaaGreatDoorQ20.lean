/- Lemmas. -/
import Derived.Test.YtloponhikiddmaaGreatDoorQ19
import Derived.Lib.LaidTab
import Derived.Deep.Strs
import Derived.Stop.LaidErr
set_option maxHeartbeats 400000
set_option maxRecDepth 100000
open Array renaming getElem?_toList->aZ,ext'->gZ
open List renaming getElem?_map->bZ,getElem?_drop->cZ,getElem?_take->dZ,flatMap_cons->eZ,length_map->fZ
namespace Go.Proofs.YtloponhikiddmaaGreatDoor
open _root_.Go.Proofs.Tryz
open Go.RowKit
set_option linter.unusedVariables false
variable {W w:World} {rest:List (String × DataW Unit)} {P:Program} {base fuel n c:Nat} {sp:Nat->Bool} {held:Bool} {cs:List Value}
theorem zCI {H:Type} {enc:TypeId × Value->H} {t e:TypeId} {f:List (DataW H)} {p:List MemPlace}
  (u:P.underlying t=some (.array n e)) (g:P.cellsOf e=c) (j:P.cellsOf t=n * c)
  (h:DataW.trod enc P w base sp held fuel t cs=some (.agg f,p)):cs.length=n * c/\f.length=n/\∀ i d,f[i]? = some d->∃ fuel' p',DataW.trod enc P w base sp held fuel' e ((cs.drop (i * c)).take c)=some (d,p'):=by
 cases fuel with
 | zero=>simp [DataW.trod] at h
 | succ fuel =>
  simp only [DataW.trod,u,g,j] at h;split at h
  ·rename_i s
   obtain ⟨l,m,v⟩:=Option.map_eq_some_iff.1 h;have a:l.map (·.1)=f:=by
    have:=congrArg Prod.fst v;simpa using this
   have k:l.length=n:=by simpa using Lib.mapM_length m
   refine ⟨by simpa using s,by rw [<-a];simpa using k,λi d hd=>?_⟩;have r:i<n:=by
    have:=(List.getElem?_eq_some_iff.1 hd).1;rw [<-a,fZ] at this;omega
   obtain ⟨b,o,q⟩:=Lib.mapM_at m i i (by simp [r]);have:(l.map (·.1))[i]? = some b.1:=by simp [o]
   rw [a,hd] at this;obtain rfl:=Option.some.inj this;exact ⟨fuel,b.2,q⟩
  ·cases h
theorem zPU {s:ByteArray} {l:List UInt8} (h:s.data.toList=l):s=⟨l.toArray⟩:=by
 apply ByteArray.ext
 apply gZ
 rw [h]
theorem zP3 (h:laidMet prog (("whittle/value.faultNames",.agg (fNames.map λx=>.lit (.string x)))::rest) W):FltAt W:=by
 obtain ⟨B,⟨u,C,cs,fuel,p,q,b,d,a,hd,_,_⟩,_⟩:=h;have k:prog.globalNamed "whittle/value.faultNames" = some 0:=kR
 have f:(prog.globals[0]?).map (·.type)=some 169:=kR
 obtain rfl:=Option.some.inj (k.symm.trans b);obtain rfl:=Option.some.inj (f.symm.trans d);obtain ⟨y,z,m⟩:=zCI (n:=9) (c:=1) (e:=9) underlying169 kR kR hd;intro j v g;unfold fltR at g;rw [bZ] at g;obtain ⟨x,r,rfl⟩:=Option.map_eq_some_iff.1 g;obtain ⟨t,A,o⟩:=m j (.lit (.string x)) (by rw [bZ,r];rfl);obtain ⟨s,l,i,_⟩:=DataW.trod_string underlying9 o;simp only [Prod.mk.injEq,DataW.lit.injEq,Lit.string.injEq] at i;rw [Nat.zero_add,World.var?_cell k a j];have:cs.toList[j]? = some (.string s):=by
  have:=congrArg (·[0]?) l;simpa [dZ,cZ] using this
 rw [aZ] at this;rw [this,zPU i.1.symm]
theorem zPE {α β:Type} (f:α->List β) (b:∀ x,(f x).length=3):∀ (l:List α) (i:Nat) (a:i<l.length) (r:Nat),r<3->(l.flatMap f)[i * 3+r]? = (f l[i])[r]?
 | [],i,a,r,hr=>absurd a (Nat.not_lt_zero _)
 | x::l,0,a,r,hr=>by
  rw [eZ,List.getElem?_append_left (by rw [b];omega)];simp
 | x::l,i+1,a,r,hr=>by
  rw [eZ,List.getElem?_append_right (by rw [b];omega),b,show (i+1) * 3+r - 3=i * 3+r by omega];rw [zPE f b l i (by simpa using a) r hr];simp
theorem zPG (h:laidMet prog (("whittle/tree.operators",.agg (Wt.opsT.map λx=>.agg [.lit (.int .i64 x.1),.lit (.string x.2.1),.lit (.int .i64 x.2.2)]))::rest) W):OpsAt W:=by
 obtain ⟨ps,⟨S,t',cs,fuel,p,q,f,g,b,hd,_,_⟩,_⟩:=h;have r:prog.globalNamed "whittle/tree.operators" = some 1:=kR
 have k:(prog.globals[1]?).map (·.type)=some 248:=kR
 obtain rfl:=Option.some.inj (r.symm.trans f);obtain rfl:=Option.some.inj (k.symm.trans g);obtain ⟨T,X,F⟩:=zCI (n:=15) (c:=3) (e:=223) underlying248 kR kR hd;have z:prog.cellsOf 3=1:=kR
 have A:prog.cellsOf 9=1:=kR
 have key:∀ i x,Wt.opsT[i]? = some x->cs.toList[i * 3]? = some (.int .i64 x.1)/\cs.toList[i * 3+1]? = some (.string ⟨x.2.1.toArray⟩)/\cs.toList[i * 3+2]? = some (.int .i64 x.2.2):=by
  intro i x H;obtain ⟨R,p',G⟩:=F i _ (by rw [bZ,H];rfl);obtain ⟨y0,y1,y2,n,e,-,M,N,Q⟩:=Deep.trod_struct3 underlying223 G;simp only [Prod.mk.injEq,DataW.agg.injEq,List.cons.injEq,and_true] at e;obtain ⟨z0,l,C,_⟩:=DataW.trod_int underlying3 M;obtain ⟨z1,m,D,_⟩:=DataW.trod_string underlying9 N;obtain ⟨z2,o,E,_⟩:=DataW.trod_int underlying3 Q;subst C D E;simp only [DataW.lit.injEq,Lit.int.injEq,Lit.string.injEq,true_and] at e;obtain ⟨⟨rfl,B,rfl⟩,-⟩:=e;simp only [z] at l o;simp only [A] at m;have t:=congrArg (·[0]?) l;have u:=congrArg (·[0]?) m;have y:=congrArg (·[0]?) o;simp [cZ] at t u y;refine ⟨?_,?_,?_⟩
  ·rw [aZ];exact t
  ·rw [aZ,u,zPU B.symm]
  ·rw [aZ];exact y
 intro j v a;rw [Nat.zero_add,World.var?_cell r b j];have hj:j<45:=by
  have:=(List.getElem?_eq_some_iff.1 a).1;have e:opsR.length=45:=rfl;omega
 have s:j / 3<Wt.opsT.length:=by show j / 3<15;omega
 obtain ⟨I,K,L⟩:=key (j / 3) _ (List.getElem?_eq_getElem s);have d:=zPE (λx:Int × List UInt8 × Int=>([.int .i64 x.1,.string ⟨x.2.1.toArray⟩,.int .i64 x.2.2]:List Value)) (λ_=>rfl) Wt.opsT (j / 3) s;have hm:j % 3=0 \/ j % 3=1 \/ j % 3=2:=oM;rcases hm with hm | hm | hm
 ·have e:j=j / 3 * 3+0:=oM;have:=d 0 dM;rw [<-e] at this;rw [show opsR[j]? = _ from this] at a;rw [show j=j / 3 * 3 by omega,<-aZ,I];exact a
 ·have e:j=j / 3 * 3+1:=oM;have:=d 1 dM;rw [<-e] at this;rw [show opsR[j]? = _ from this] at a;rw [e,<-aZ,K];exact a
 ·have e:j=j / 3 * 3+2:=oM;have:=d 2 dM;rw [<-e] at this;rw [show opsR[j]? = _ from this] at a;rw [e,<-aZ,L];exact a
theorem zEr {H:Type} {enc:TypeId × Value->H} {t e:TypeId} {f:List (DataW H)} {p:List MemPlace}
  (u:P.underlying t=some (.array n e)) (g:P.cellsOf e=c) (j:P.cellsOf t=n * c)
  (h:DataW.trod enc P w base sp held fuel t cs=some (.agg f,p)):cs.length=n * c/\f.length=n/\∀ i d,f[i]? = some d->∃ fuel' p',DataW.trod enc P w base sp held fuel' e ((cs.drop (i * c)).take c)=some (d,p'):=by
 cases fuel with
 | zero=>simp [DataW.trod] at h
 | succ fuel =>
  simp only [DataW.trod,u,g,j] at h;split at h
  ·rename_i s
   obtain ⟨l,m,v⟩:=Option.map_eq_some_iff.1 h;have a:l.map (·.1)=f:=by
    have:=congrArg Prod.fst v;simpa using this
   have k:l.length=n:=by simpa using Lib.mapM_length m
   refine ⟨by simpa using s,by rw [<-a];simpa using k,λi d hd=>?_⟩;have r:i<n:=by
    have:=(List.getElem?_eq_some_iff.1 hd).1;rw [<-a,fZ] at this;omega
   obtain ⟨b,o,q⟩:=Lib.mapM_at m i i (by simp [r]);have:(l.map (·.1))[i]? = some b.1:=by simp [o]
   rw [a,hd] at this;obtain rfl:=Option.some.inj this;exact ⟨fuel,b.2,q⟩
  ·cases h
theorem zRF (h:laidMet prog (("whittle/funcs.names",.agg (fnN.map λx=>.lit (.string x)))::rest) W):NmAt W:=by
 obtain ⟨C,⟨y,D,cs,fuel,p,q,b,d,a,hd,_,_⟩,_⟩:=h;have k:prog.globalNamed "whittle/funcs.names" = some 2:=kR
 have f:(prog.globals[2]?).map (·.type)=some 268:=kR
 obtain rfl:=Option.some.inj (k.symm.trans b);obtain rfl:=Option.some.inj (f.symm.trans d);obtain ⟨z,A,o⟩:=zEr (n:=63) (c:=1) (e:=9) underlying268 kR kR hd;intro j v g;unfold nmR at g;rw [bZ] at g;obtain ⟨x,t,rfl⟩:=Option.map_eq_some_iff.1 g;obtain ⟨u,B,r⟩:=o j (.lit (.string x)) (by rw [bZ,t];rfl);obtain ⟨s,l,i,_⟩:=DataW.trod_string underlying9 r;simp only [Prod.mk.injEq,DataW.lit.injEq,Lit.string.injEq] at i;rw [Nat.zero_add,World.var?_cell k a j];have:cs.toList[j]? = some (.string s):=by
  have:=congrArg (·[0]?) l;simpa [dZ,cZ] using this
 rw [aZ] at this;have m:s=⟨x.toArray⟩:=by
  apply ByteArray.ext
  apply gZ
  exact i.1.symm
 rw [this,m]
