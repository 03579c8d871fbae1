/- TLaid, KLaid. -/
import Derived.Test.YtedifblompcdkaaGreatDoorQ46
import Derived.Lib.LaidTab
import Derived.Deep.Strs
import Derived.Stop.LaidErr
set_option maxHeartbeats 400000
set_option maxRecDepth 100000
namespace Go.Proofs.YtedifblompcdkaaGreatDoor
open _root_.Go.Proofs.Tryz
open Go.RowKit
set_option linter.unusedVariables false
variable {W w:World} {rest:List (String × DataW Unit)} {P:Program} {base fuel n c:Nat} {sp:Nat->Bool} {held:Bool} {cs:List Value}
theorem zDe {H:Type} {enc:TypeId × Value->H} {t e:TypeId} {ds:List (DataW H)} {p:List MemPlace}
  (ht:P.underlying t=some (.array n e)) (hce:P.cellsOf e=c) (hct:P.cellsOf t=n * c)
  (h:DataW.trod enc P w base sp held fuel t cs=some (.agg ds,p)):cs.length=n * c/\ds.length=n/\∀ i d,ds[i]? = some d->∃ fuel' p',DataW.trod enc P w base sp held fuel' e ((cs.drop (i * c)).take c)=some (d,p'):=by
 cases fuel with
 | zero=>simp [DataW.trod] at h
 | succ fuel =>
  simp only [DataW.trod,ht,hce,hct] at h;split at h
  ·rename_i hl
   obtain ⟨xs,hm,hx⟩:=Option.map_eq_some_iff.1 h;have hxs:xs.map (·.1)=ds:=by
    have:=congrArg Prod.fst hx;simpa using this
   have hxl:xs.length=n:=by simpa using Lib.mapM_length hm
   refine ⟨by simpa using hl,by rw [<-hxs];simpa using hxl,λi d hd=>?_⟩;have hi:i<n:=by
    have:=(List.getElem?_eq_some_iff.1 hd).1;rw [<-hxs,List.length_map] at this;omega
   obtain ⟨b,hb,hf⟩:=Lib.mapM_at hm i i (by simp [hi]);have:(xs.map (·.1))[i]? = some b.1:=by simp [hb]
   rw [hxs,hd] at this;obtain rfl:=Option.some.inj this;exact ⟨fuel,b.2,hf⟩
  ·cases h
theorem zPg {s:ByteArray} {l:List UInt8} (h:s.data.toList=l):s=⟨l.toArray⟩:=by
 apply ByteArray.ext
 apply Array.ext'
 rw [h]
theorem zQK (h:laidMet prog (("whittle/value.faultNames",.agg (fNames.map λx=>.lit (.string x)))::rest) W):FltAt W:=by
 obtain ⟨ps,⟨g',t',cs,fuel,p,q,hg',ht',hvar,hd,_,_⟩,_⟩:=h;have hg:prog.globalNamed "whittle/value.faultNames" = some 0:=by kernel_rfl
 have hty:(prog.globals[0]?).map (·.type)=some 125:=by kernel_rfl
 obtain rfl:=Option.some.inj (hg.symm.trans hg');obtain rfl:=Option.some.inj (hty.symm.trans ht');obtain ⟨h1,h2,h3⟩:=zDe (n:=9) (c:=1) (e:=9) underlying125 (by kernel_rfl) (by kernel_rfl) hd;intro j v hv;unfold fltR at hv;rw [List.getElem?_map] at hv;obtain ⟨x,hx,rfl⟩:=Option.map_eq_some_iff.1 hv;obtain ⟨fu,p',ht⟩:=h3 j (.lit (.string x)) (by rw [List.getElem?_map,hx];rfl);obtain ⟨s,e1,e2,_⟩:=DataW.trod_string underlying9 ht;simp only [Prod.mk.injEq,DataW.lit.injEq,Lit.string.injEq] at e2;rw [Nat.zero_add,World.var?_cell hg hvar j];have:cs.toList[j]? = some (.string s):=by
  have:=congrArg (·[0]?) e1;simpa [List.getElem?_take,List.getElem?_drop] using this
 rw [Array.getElem?_toList] at this;rw [this,zPg e2.1.symm]
theorem zQW {α β:Type} (f:α->List β) (hf:∀ x,(f x).length=3):∀ (l:List α) (i:Nat) (hi:i<l.length) (r:Nat),r<3->(l.flatMap f)[i * 3+r]? = (f l[i])[r]?
 | [],i,hi,r,hr=>absurd hi (Nat.not_lt_zero _)
 | x::l,0,hi,r,hr=>by
  rw [List.flatMap_cons,List.getElem?_append_left (by rw [hf];omega)];simp
 | x::l,i+1,hi,r,hr=>by
  rw [List.flatMap_cons,List.getElem?_append_right (by rw [hf];omega),hf,show (i+1) * 3+r - 3=i * 3+r by omega];rw [zQW f hf l i (by simpa using hi) r hr];simp
theorem zQA (h:laidMet prog (("whittle/tree.operators",.agg (Wt.opsT.map λx=>.agg [.lit (.int .i64 x.1),.lit (.string x.2.1),.lit (.int .i64 x.2.2)]))::rest) W):OpsAt W:=by
 obtain ⟨ps,⟨g',t',cs,fuel,p,q,hg',ht',hvar,hd,_,_⟩,_⟩:=h;have hg:prog.globalNamed "whittle/tree.operators" = some 1:=by kernel_rfl
 have hty:(prog.globals[1]?).map (·.type)=some 244:=by kernel_rfl
 obtain rfl:=Option.some.inj (hg.symm.trans hg');obtain rfl:=Option.some.inj (hty.symm.trans ht');obtain ⟨h1,h2,h3⟩:=zDe (n:=15) (c:=3) (e:=211) underlying244 (by kernel_rfl) (by kernel_rfl) hd;have c3:prog.cellsOf 3=1:=by kernel_rfl
 have c9:prog.cellsOf 9=1:=by kernel_rfl
 have key:∀ i x,Wt.opsT[i]? = some x->cs.toList[i * 3]? = some (.int .i64 x.1)/\cs.toList[i * 3+1]? = some (.string ⟨x.2.1.toArray⟩)/\cs.toList[i * 3+2]? = some (.int .i64 x.2.2):=by
  intro i x hx;obtain ⟨fu,p',ht⟩:=h3 i _ (by rw [List.getElem?_map,hx];rfl);obtain ⟨y0,y1,y2,n,e,-,t0,t1,t2⟩:=Deep.trod_struct3 underlying211 ht;simp only [Prod.mk.injEq,DataW.agg.injEq,List.cons.injEq,and_true] at e;obtain ⟨z0,f0,g0,_⟩:=DataW.trod_int underlying3 t0;obtain ⟨z1,f1,g1,_⟩:=DataW.trod_string underlying9 t1;obtain ⟨z2,f2,g2,_⟩:=DataW.trod_int underlying3 t2;subst g0 g1 g2;simp only [DataW.lit.injEq,Lit.int.injEq,Lit.string.injEq,true_and] at e;obtain ⟨⟨rfl,e1,rfl⟩,-⟩:=e;simp only [c3] at f0 f2;simp only [c9] at f1;have q0:=congrArg (·[0]?) f0;have q1:=congrArg (·[0]?) f1;have q2:=congrArg (·[0]?) f2;simp [List.getElem?_drop] at q0 q1 q2;refine ⟨?_,?_,?_⟩
  ·rw [Array.getElem?_toList];exact q0
  ·rw [Array.getElem?_toList,q1,zPg e1.symm]
  ·rw [Array.getElem?_toList];exact q2
 intro j v hv;rw [Nat.zero_add,World.var?_cell hg hvar j];have hj:j<45:=by
  have:=(List.getElem?_eq_some_iff.1 hv).1;have e:opsR.length=45:=rfl;omega
 have hi:j / 3<Wt.opsT.length:=by show j / 3<15;omega
 obtain ⟨k0,k1,k2⟩:=key (j / 3) _ (List.getElem?_eq_getElem hi);have hf:=zQW (λx:Int × List UInt8 × Int=>([.int .i64 x.1,.string ⟨x.2.1.toArray⟩,.int .i64 x.2.2]:List Value)) (λ_=>rfl) Wt.opsT (j / 3) hi;have hm:j % 3=0 \/ j % 3=1 \/ j % 3=2:=by omega
 rcases hm with hm | hm | hm
 ·have e:j=j / 3 * 3+0:=by omega
  have:=hf 0 (by decide);rw [<-e] at this;rw [show opsR[j]? = _ from this] at hv;rw [show j=j / 3 * 3 by omega,<-Array.getElem?_toList,k0];exact hv
 ·have e:j=j / 3 * 3+1:=by omega
  have:=hf 1 (by decide);rw [<-e] at this;rw [show opsR[j]? = _ from this] at hv;rw [e,<-Array.getElem?_toList,k1];exact hv
 ·have e:j=j / 3 * 3+2:=by omega
  have:=hf 2 (by decide);rw [<-e] at this;rw [show opsR[j]? = _ from this] at hv;rw [e,<-Array.getElem?_toList,k2];exact hv
theorem zGW {H:Type} {enc:TypeId × Value->H} {t e:TypeId} {ds:List (DataW H)} {p:List MemPlace}
  (ht:P.underlying t=some (.array n e)) (hce:P.cellsOf e=c) (hct:P.cellsOf t=n * c)
  (h:DataW.trod enc P w base sp held fuel t cs=some (.agg ds,p)):cs.length=n * c/\ds.length=n/\∀ i d,ds[i]? = some d->∃ fuel' p',DataW.trod enc P w base sp held fuel' e ((cs.drop (i * c)).take c)=some (d,p'):=by
 cases fuel with
 | zero=>simp [DataW.trod] at h
 | succ fuel =>
  simp only [DataW.trod,ht,hce,hct] at h;split at h
  ·rename_i hl
   obtain ⟨xs,hm,hx⟩:=Option.map_eq_some_iff.1 h;have hxs:xs.map (·.1)=ds:=by
    have:=congrArg Prod.fst hx;simpa using this
   have hxl:xs.length=n:=by simpa using Lib.mapM_length hm
   refine ⟨by simpa using hl,by rw [<-hxs];simpa using hxl,λi d hd=>?_⟩;have hi:i<n:=by
    have:=(List.getElem?_eq_some_iff.1 hd).1;rw [<-hxs,List.length_map] at this;omega
   obtain ⟨b,hb,hf⟩:=Lib.mapM_at hm i i (by simp [hi]);have:(xs.map (·.1))[i]? = some b.1:=by simp [hb]
   rw [hxs,hd] at this;obtain rfl:=Option.some.inj this;exact ⟨fuel,b.2,hf⟩
  ·cases h
theorem zRR (h:laidMet prog (("whittle/funcs.names",.agg (fnN.map λx=>.lit (.string x)))::rest) W):NmAt W:=by
 obtain ⟨ps,⟨g',t',cs,fuel,p,q,hg',ht',hvar,hd,_,_⟩,_⟩:=h;have hg:prog.globalNamed "whittle/funcs.names" = some 2:=by kernel_rfl
 have hty:(prog.globals[2]?).map (·.type)=some 256:=by kernel_rfl
 obtain rfl:=Option.some.inj (hg.symm.trans hg');obtain rfl:=Option.some.inj (hty.symm.trans ht');obtain ⟨h1,h2,h3⟩:=zGW (n:=63) (c:=1) (e:=9) underlying256 (by kernel_rfl) (by kernel_rfl) hd;intro j v hv;unfold nmR at hv;rw [List.getElem?_map] at hv;obtain ⟨x,hx,rfl⟩:=Option.map_eq_some_iff.1 hv;obtain ⟨fu,p',ht⟩:=h3 j (.lit (.string x)) (by rw [List.getElem?_map,hx];rfl);obtain ⟨s,e1,e2,_⟩:=DataW.trod_string underlying9 ht;simp only [Prod.mk.injEq,DataW.lit.injEq,Lit.string.injEq] at e2;rw [Nat.zero_add,World.var?_cell hg hvar j];have:cs.toList[j]? = some (.string s):=by
  have:=congrArg (·[0]?) e1;simpa [List.getElem?_take,List.getElem?_drop] using this
 rw [Array.getElem?_toList] at this;have es:s=⟨x.toArray⟩:=by
  apply ByteArray.ext
  apply Array.ext'
  exact e2.1.symm
 rw [this,es]
