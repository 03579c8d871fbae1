/- KLaid, KLaidO, TNArg, KSArg. -/
import Derived.Test.YtnloiaoogofklaaGreatDoorQ41
import Derived.Lib.LaidTab
import Derived.Deep.Strs
import Derived.Stop.LaidErr
import Derived.Deep.Slices
import Derived.Lib.SmallJoins
import Derived.SizedLaws
import Derived.Carry
import Derived.ProofKit
set_option maxHeartbeats 400000
set_option maxRecDepth 100000
namespace Go.Proofs.YtnloiaoogofklaaGreatDoor
open Tryz
open Go.RowKit
set_option linter.unusedVariables false
variable {W:World} {rest:List (String × DataW Unit)}
theorem zDG {H:Type} {enc:TypeId × Value->H} {P:Program} {w:World} {base:Nat} {sp:Nat->Bool} {held:Bool} {fuel:Nat} {t e:TypeId} {n c:Nat} {cs:List Value} {ds:List (DataW H)} {p:List MemPlace}
  (ht:P.underlying t=some (.array n e)) (hce:P.cellsOf e=c) (hct:P.cellsOf t=n * c)
  (h:DataW.trod enc P w base sp held fuel t cs=some (.agg ds,p)):cs.length=n * c/\ds.length=n/\∀ i d,ds[i]? = some d->∃ fuel' p',DataW.trod enc P w base sp held fuel' e ((cs.drop (i * c)).take c)=some (d,p'):=by
 cases fuel with
 | zero=>simp [DataW.trod] at h
 | succ fuel =>
  simp only [DataW.trod,ht,hce,hct] at h;split at h
  ·rename_i hl
   obtain ⟨xs,hm,hx⟩:=Option.map_eq_some_iff.1 h;have hxs:xs.map (·.1)=ds:=by
    have:=congrArg Prod.fst hx;simpa using this
   have hxl:xs.length=n:=by simpa using Lib.mapM_length hm
   refine ⟨by simpa using hl,by rw [<-hxs];simpa using hxl,λi d hd=>?_⟩;have hi:i<n:=by
    have:=(List.getElem?_eq_some_iff.1 hd).1;rw [<-hxs,List.length_map] at this;omega
   obtain ⟨b,hb,hf⟩:=Lib.mapM_at hm i i (by simp [hi]);have:(xs.map (·.1))[i]? = some b.1:=by simp [hb]
   rw [hxs,hd] at this;obtain rfl:=Option.some.inj this;exact ⟨fuel,b.2,hf⟩
  ·cases h
theorem zRT (h:laidMet prog (("whittle/funcs.names",.agg (fnN.map λx=>.lit (.string x)))::rest) W):NmAt W:=by
 obtain ⟨ps,⟨g',t',cs,fuel,p,q,hg',ht',hvar,hd,_,_⟩,_⟩:=h;have hg:prog.globalNamed "whittle/funcs.names" = some 0:=by kernel_rfl
 have hty:(prog.globals[0]?).map (·.type)=some 100:=by kernel_rfl
 obtain rfl:=Option.some.inj (hg.symm.trans hg');obtain rfl:=Option.some.inj (hty.symm.trans ht');obtain ⟨h1,h2,h3⟩:=zDG (n:=63) (c:=1) (e:=9) underlying100 (by kernel_rfl) (by kernel_rfl) hd;intro j v hv;unfold nmR at hv;rw [List.getElem?_map] at hv;obtain ⟨x,hx,rfl⟩:=Option.map_eq_some_iff.1 hv;obtain ⟨fu,p',ht⟩:=h3 j (.lit (.string x)) (by rw [List.getElem?_map,hx];rfl);obtain ⟨s,e1,e2,_⟩:=DataW.trod_string underlying9 ht;simp only [Prod.mk.injEq,DataW.lit.injEq,Lit.string.injEq] at e2;rw [Nat.zero_add,World.var?_cell hg hvar j];have:cs.toList[j]? = some (.string s):=by
  have:=congrArg (·[0]?) e1;simpa [List.getElem?_take,List.getElem?_drop] using this
 rw [Array.getElem?_toList] at this;have es:s=⟨x.toArray⟩:=by
  apply ByteArray.ext
  apply Array.ext'
  exact e2.1.symm
 rw [this,es]
theorem zQZ {s:ByteArray} {l:List UInt8} (h:s.data.toList=l):s=⟨l.toArray⟩:=by
 apply ByteArray.ext
 apply Array.ext'
 rw [h]
theorem zPN {α β:Type} (f:α->List β) (hf:∀ x,(f x).length=3):∀ (l:List α) (i:Nat) (hi:i<l.length) (r:Nat),r<3->(l.flatMap f)[i * 3+r]? = (f l[i])[r]?
 | [],i,hi,r,hr=>absurd hi (Nat.not_lt_zero _)
 | x::l,0,hi,r,hr=>by
  rw [List.flatMap_cons,List.getElem?_append_left (by rw [hf];omega)];simp
 | x::l,i+1,hi,r,hr=>by
  rw [List.flatMap_cons,List.getElem?_append_right (by rw [hf];omega),hf,show (i+1) * 3+r - 3=i * 3+r by omega];rw [zPN f hf l i (by simpa using hi) r hr];simp
theorem zOl (h:laidMet prog (("whittle/tree.operators",.agg (Wt.opsT.map λx=>.agg [.lit (.int .i64 x.1),.lit (.string x.2.1),.lit (.int .i64 x.2.2)]))::rest) W):OpsAt W:=by
 obtain ⟨ps,⟨g',t',cs,fuel,p,q,hg',ht',hvar,hd,_,_⟩,_⟩:=h;have hg:prog.globalNamed "whittle/tree.operators" = some 1:=by kernel_rfl
 have hty:(prog.globals[1]?).map (·.type)=some 181:=by kernel_rfl
 obtain rfl:=Option.some.inj (hg.symm.trans hg');obtain rfl:=Option.some.inj (hty.symm.trans ht');obtain ⟨h1,h2,h3⟩:=zDG (n:=15) (c:=3) (e:=155) underlying181 (by kernel_rfl) (by kernel_rfl) hd;have c3:prog.cellsOf 3=1:=by kernel_rfl
 have c9:prog.cellsOf 9=1:=by kernel_rfl
 have key:∀ i x,Wt.opsT[i]? = some x->cs.toList[i * 3]? = some (.int .i64 x.1)/\cs.toList[i * 3+1]? = some (.string ⟨x.2.1.toArray⟩)/\cs.toList[i * 3+2]? = some (.int .i64 x.2.2):=by
  intro i x hx;obtain ⟨fu,p',ht⟩:=h3 i _ (by rw [List.getElem?_map,hx];rfl);obtain ⟨y0,y1,y2,n,e,-,t0,t1,t2⟩:=Deep.trod_struct3 underlying155 ht;simp only [Prod.mk.injEq,DataW.agg.injEq,List.cons.injEq,and_true] at e;obtain ⟨z0,f0,g0,_⟩:=DataW.trod_int underlying3 t0;obtain ⟨z1,f1,g1,_⟩:=DataW.trod_string underlying9 t1;obtain ⟨z2,f2,g2,_⟩:=DataW.trod_int underlying3 t2;subst g0 g1 g2;simp only [DataW.lit.injEq,Lit.int.injEq,Lit.string.injEq,true_and] at e;obtain ⟨⟨rfl,e1,rfl⟩,-⟩:=e;simp only [c3] at f0 f2;simp only [c9] at f1;have q0:=congrArg (·[0]?) f0;have q1:=congrArg (·[0]?) f1;have q2:=congrArg (·[0]?) f2;simp [List.getElem?_drop] at q0 q1 q2;refine ⟨?_,?_,?_⟩
  ·rw [Array.getElem?_toList];exact q0
  ·rw [Array.getElem?_toList,q1,zQZ e1.symm]
  ·rw [Array.getElem?_toList];exact q2
 intro j v hv;rw [Nat.zero_add,World.var?_cell hg hvar j];have hj:j<45:=by
  have:=(List.getElem?_eq_some_iff.1 hv).1;have e:opsR.length=45:=rfl;omega
 have hi:j / 3<Wt.opsT.length:=by show j / 3<15;omega
 obtain ⟨k0,k1,k2⟩:=key (j / 3) _ (List.getElem?_eq_getElem hi);have hf:=zPN (λx:Int × List UInt8 × Int=>([.int .i64 x.1,.string ⟨x.2.1.toArray⟩,.int .i64 x.2.2]:List Value)) (λ_=>rfl) Wt.opsT (j / 3) hi;have hm:j % 3=0 \/ j % 3=1 \/ j % 3=2:=by omega
 rcases hm with hm | hm | hm
 ·have e:j=j / 3 * 3+0:=by omega
  have:=hf 0 (by decide);rw [<-e] at this;rw [show opsR[j]? = _ from this] at hv;rw [show j=j / 3 * 3 by omega,<-Array.getElem?_toList,k0];exact hv
 ·have e:j=j / 3 * 3+1:=by omega
  have:=hf 1 (by decide);rw [<-e] at this;rw [show opsR[j]? = _ from this] at hv;rw [e,<-Array.getElem?_toList,k1];exact hv
 ·have e:j=j / 3 * 3+2:=by omega
  have:=hf 2 (by decide);rw [<-e] at this;rw [show opsR[j]? = _ from this] at hv;rw [e,<-Array.getElem?_toList,k2];exact hv
open Go.ChangeShapes Go.WideShapes Go.ChangeAt Go.RowKit Go.Joins Go.Deep
theorem zSF:prog.cellsOf 43=6:=by kernel_rfl
theorem zRl:prog.cellsOf 54=5:=by kernel_rfl
theorem zSY:prog.cellsOf 41=2:=by kernel_rfl
theorem zQ9:prog.cellsOf 56=20:=by kernel_rfl
theorem zQd:prog.bytesOf 56=176:=by kernel_rfl
theorem zLJ:prog.cellsOf 3=1:=by kernel_rfl
theorem zN5:prog.cellsOf 4=1:=by kernel_rfl
theorem zRV:prog.cellsOf 9=1:=by kernel_rfl
section
variable {H:Type} {enc:TypeId × Value->H} {w:World} {base:Nat} {spare:Nat->Bool} {held:Bool}
theorem zLw {n:Int} (h:(Lit.int .i64 n).wf=true):-9223372036854775808<=n/\n<=9223372036854775807:=bounds_i64 h
theorem zKm {f0 f1:Field} (he:prog.underlying 41=some (.struct #[f0,f1])) (o0:f0.offset=0) (t0:f0.type=3) (o1:f1.offset=1) (t1:f1.type=3) {fuel:Nat} {c0 c1:Value} {x:DataW H × List MemPlace} (h:DataW.trod enc prog w base spare held fuel 41 [c0,c1]=some x):∃ n d:Int,c0=.int .i64 n/\c1=.int .i64 d/\(-9223372036854775808<=n/\n<=9223372036854775807)/\(-9223372036854775808<=d/\d<=9223372036854775807):=by
 obtain ⟨xs,q,_,hD,_,hxl,hg⟩:=DataW.trod_struct he h;have hxl:xs.length=2:=hxl;have g0:=hg 0 f0 rfl;rw [o0,t0,zLJ] at g0;have g1:=hg 1 f1 rfl;rw [o1,t1,zLJ] at g1;match xs,hxl with
 | [x0,x1],_ =>
  simp only [List.drop_zero,List.take_succ_cons,List.take_zero,List.drop_succ_cons,List.getElem?_cons_zero,List.getElem?_cons_succ] at g0 g1;obtain ⟨n,e1,_,k1⟩:=DataW.trod_int underlying3 g0;obtain ⟨d,e2,_,k2⟩:=DataW.trod_int underlying3 g1;simp only [List.cons.injEq,and_true] at e1 e2;exact ⟨n,d,e1,e2,zLw k1,zLw k2⟩
theorem zNa {f0 f1 f2 f3 f4:Field} (he:prog.underlying 43=some (.struct #[f0,f1,f2,f3,f4])) (o0:f0.offset=0) (t0:f0.type=3) (o1:f1.offset=1) (t1:f1.type=41) (o2:f2.offset=3) (t2:f2.type=9) (o3:f3.offset=4) (t3:f3.type=4) (o4:f4.offset=5) (t4:f4.type=3) {fuel:Nat} {c0 c1 c2 c3 c4 c5:Value} {x:DataW H × List MemPlace} (h:DataW.trod enc prog w base spare held fuel 43 [c0,c1,c2,c3,c4,c5]=some x):∃ v:Wt.Vl,[c0,c1,c2,c3,c4,c5]=vl6 v/\Wt.FitV v:=by
 obtain ⟨xs,q,_,hD,_,hxl,hg⟩:=DataW.trod_struct he h;have hxl:xs.length=5:=hxl;have g0:=hg 0 f0 rfl;rw [o0,t0,zLJ] at g0;have g1:=hg 1 f1 rfl;rw [o1,t1,zSY] at g1;have g2:=hg 2 f2 rfl;rw [o2,t2,zRV] at g2;have g3:=hg 3 f3 rfl;rw [o3,t3,zN5] at g3;have g4:=hg 4 f4 rfl;rw [o4,t4,zLJ] at g4;match xs,hxl with
 | [x0,x1,x2,x3,x4],_ =>
  simp only [List.drop_zero,List.take_succ_cons,List.take_zero,List.drop_succ_cons,List.getElem?_cons_zero,List.getElem?_cons_succ] at g0 g1 g2 g3 g4;obtain ⟨k,e0,_,_⟩:=DataW.trod_int underlying3 g0;obtain ⟨n,d,e1,e2,k1,k2⟩:=zKm underlying41 rfl rfl rfl rfl g1;obtain ⟨s,e3,_,k3⟩:=DataW.trod_string underlying9 g2;obtain ⟨b,e4,_⟩:=DataW.trod_bool underlying4 g3;obtain ⟨f,e5,_,_⟩:=DataW.trod_int underlying3 g4;simp only [List.cons.injEq,and_true] at e0 e3 e4 e5;refine ⟨⟨k,n,d,s,b,f⟩,by rw [e0,e1,e2,e3,e4,e5];rfl,k1,k2,?_⟩;unfold maxLen at k3;show s.size<=_
  omega
theorem zH9 {f0 f1 f2 f3 f4:Field} (he:prog.underlying 54=some (.struct #[f0,f1,f2,f3,f4])) (o0:f0.offset=0) (t0:f0.type=9) (o1:f1.offset=1) (t1:f1.type=3) (o2:f2.offset=2) (t2:f2.type=3) (o3:f3.offset=3) (t3:f3.type=4) (o4:f4.offset=4) (t4:f4.type=4) {fuel:Nat} {c0 c1 c2 c3 c4:Value} {x:DataW H × List MemPlace} (h:DataW.trod enc prog w base spare held fuel 54 [c0,c1,c2,c3,c4]=some x):∃ a:Wt.Rf,[c0,c1,c2,c3,c4]=rf5 a/\a.s.size<=9223372036854775807:=by
 obtain ⟨xs,q,_,hD,_,hxl,hg⟩:=DataW.trod_struct he h;have hxl:xs.length=5:=hxl;have g0:=hg 0 f0 rfl;rw [o0,t0,zRV] at g0;have g1:=hg 1 f1 rfl;rw [o1,t1,zLJ] at g1;have g2:=hg 2 f2 rfl;rw [o2,t2,zLJ] at g2;have g3:=hg 3 f3 rfl;rw [o3,t3,zN5] at g3;have g4:=hg 4 f4 rfl;rw [o4,t4,zN5] at g4;match xs,hxl with
 | [x0,x1,x2,x3,x4],_ =>
  simp only [List.drop_zero,List.take_succ_cons,List.take_zero,List.drop_succ_cons,List.getElem?_cons_zero,List.getElem?_cons_succ] at g0 g1 g2 g3 g4;obtain ⟨s,e0,_,k3⟩:=DataW.trod_string underlying9 g0;obtain ⟨r,e1,_,_⟩:=DataW.trod_int underlying3 g1;obtain ⟨c,e2,_,_⟩:=DataW.trod_int underlying3 g2;obtain ⟨fr,e3,_⟩:=DataW.trod_bool underlying4 g3;obtain ⟨fc,e4,_⟩:=DataW.trod_bool underlying4 g4;simp only [List.cons.injEq,and_true] at e0 e1 e2 e3 e4;refine ⟨⟨s,r,c,fr,fc⟩,by rw [e0,e1,e2,e3,e4];rfl,?_⟩;unfold maxLen at k3;show s.size<=_
  omega
theorem zOA {f0 f1 f2 f3 f4 f5 f6:Field} (he:prog.underlying 56=some (.struct #[f0,f1,f2,f3,f4,f5,f6])) (o0:f0.offset=0) (t0:f0.type=3) (o1:f1.offset=1) (t1:f1.type=43) (o2:f2.offset=7) (t2:f2.type=3) (o3:f3.offset=8) (t3:f3.type=9) (o4:f4.offset=9) (t4:f4.type=3) (o5:f5.offset=10) (t5:f5.type=54) (o6:f6.offset=15) (t6:f6.type=54) {fuel:Nat} {cs:List Value} {x:DataW H × List MemPlace} (hl:cs.length=20) (h:DataW.trod enc prog w base spare held fuel 56 cs=some x):∃ y:Wt.Nd,cs=zAM y/\Wt.FitN y:=by
 match cs,hl with
 | [a0,a1,a2,a3,a4,a5,a6,a7,a8,a9,b0,b1,b2,b3,b4,b5,b6,b7,b8,b9],_ =>
  obtain ⟨xs,q,_,hD,_,hxl,hg⟩:=DataW.trod_struct he h;have hxl:xs.length=7:=hxl;have g0:=hg 0 f0 rfl;rw [o0,t0,zLJ] at g0;have g1:=hg 1 f1 rfl;rw [o1,t1,zSF] at g1;have g2:=hg 2 f2 rfl;rw [o2,t2,zLJ] at g2;have g3:=hg 3 f3 rfl;rw [o3,t3,zRV] at g3;have g4:=hg 4 f4 rfl;rw [o4,t4,zLJ] at g4;have g5:=hg 5 f5 rfl;rw [o5,t5,zRl] at g5;have g6:=hg 6 f6 rfl;rw [o6,t6,zRl] at g6;match xs,hxl with
  | [x0,x1,x2,x3,x4,x5,x6],_ =>
   simp only [List.drop_zero,List.take_succ_cons,List.take_zero,List.drop_succ_cons,List.getElem?_cons_zero,List.getElem?_cons_succ] at g0 g1 g2 g3 g4 g5 g6;obtain ⟨k,e0,_,_⟩:=DataW.trod_int underlying3 g0;obtain ⟨v,e1,hv⟩:=zNa underlying43 rfl rfl rfl rfl rfl rfl rfl rfl rfl rfl g1;obtain ⟨op,e2,_,_⟩:=DataW.trod_int underlying3 g2;obtain ⟨nm,e3,_,k3⟩:=DataW.trod_string underlying9 g3;obtain ⟨ar,e4,_,_⟩:=DataW.trod_int underlying3 g4;obtain ⟨a,e5,ha⟩:=zH9 underlying54 rfl rfl rfl rfl rfl rfl rfl rfl rfl rfl g5;obtain ⟨b,e6,hb⟩:=zH9 underlying54 rfl rfl rfl rfl rfl rfl rfl rfl rfl rfl g6;unfold vl6 at e1;unfold rf5 at e5 e6;simp only [List.cons.injEq,and_true] at e0 e1 e2 e3 e4 e5 e6;obtain ⟨v0,v1,v2,v3,v4,v5⟩:=e1;obtain ⟨p0,p1,p2,p3,p4⟩:=e5;obtain ⟨q0,q1,q2,q3,q4⟩:=e6;refine ⟨⟨k,v,op,nm,ar,a,b⟩,by rw [e0,v0,v1,v2,v3,v4,v5,e2,e3,e4,p0,p1,p2,p3,p4,q0,q1,q2,q3,q4];rfl,hv,?_,ha,hb⟩;unfold maxLen at k3;show nm.size<=_
   omega
theorem zOE {m:Nat} {p:Nat->Wt.Nd->Prop} (h:∀ i,i<m->∃ v,p i v):∃ G:Nat->Wt.Nd,∀ i,i<m->p i (G i):=by
 classical
 refine ⟨λi=>if hi:i<m then Classical.choose (h i hi) else ⟨0,Wt.v0,0,⟨#[]⟩,0,Wt.r0,Wt.r0⟩,λi hi=>?_⟩;dsimp only;rw [dif_pos hi];exact Classical.choose_spec (h i hi)
theorem zI4 {W:World} {r:Reach} {b0:Nat} {v:Value} {d:DataW H} {p:List MemPlace}
  (hv:Value.okWide prog W r b0 22 v) (h:DataW.Trod enc prog W 0 (λ_=>true) true 22 v d p) :
  ∃ (L:List Wt.Nd) (av:Option Addr) (cap:Nat),v=.slice av L.length cap/\RdN W av L/\(∀ x ∈ L,Wt.FitN x)/\(av=none->L.length=0/\cap=0)/\L.length<=cap/\(∀ ad,av=some ad->0<L.length->ad.block<W.heap.size) /\
   ∀ (ts0:List TypeId) (ds:List (DataW H)) (j:Nat),(DataW.weightsEach prog ts0 ds).all (· <= reachBytes)=true->ts0[j]? = some 22->ds[j]? = some d->L.length * 176<=reachBytes:=by
 obtain ⟨a0,len,cap,rfl⟩:=okWide_slice underlying22 hv;obtain ⟨fuel,hg⟩:=h;rcases open_slice underlying22 hg with ⟨hcs,hx⟩ | ⟨a,len',cap',m,n,D,Pl,hcs,hb,hl,hm,hmm,hx,hall⟩
 ·simp [Value.cells] at hcs;obtain ⟨rfl,rfl,rfl⟩:=hcs;exact ⟨[],none,0,rfl,λi hi=>absurd hi (Nat.not_lt_zero _),(λx hx=>by cases hx),λ_=>⟨rfl,rfl⟩,Nat.le_refl _,(λ_ e=>by cases e),(λ_ _ _ _ _ _=>by simp)⟩
 ·simp [Value.cells] at hcs;obtain ⟨rfl,rfl,rfl⟩:=hcs;simp only [if_true] at hmm;subst hmm;have each:∀ i,i<m->∃ y:Wt.Nd,(∀ j u,(zAM y)[j]? = some u->W.cell? (a.add (i * 20+j))=some u)/\Wt.FitN y:=by
   intro i hi;obtain ⟨cs',h1,h2⟩:=hall i hi;rw [zQ9] at h1;obtain ⟨_,hlen,hcell⟩:=World.cells?_some h1;obtain ⟨y,rfl,hy⟩:=zOA underlying56 rfl rfl rfl rfl rfl rfl rfl rfl rfl rfl rfl rfl rfl rfl hlen h2;refine ⟨y,λj u hu=>?_,hy⟩;have hj:j<20:=by
    have:=(List.getElem?_eq_some_iff.1 hu).1;rw [hlen] at this;exact this
   have:=hcell j hj;rw [add_add] at this;rw [this,hu]
  obtain ⟨G,hG⟩:=zOE each;have hlen:((List.range len).map G).length=len:=by simp
  have hsp:0<len->∃ b off,a=⟨b,off,none⟩/\b<W.heap.size:=by
   intro h0;have h1:=(hG 0 (by omega)).1 0 _ rfl;rw [Nat.zero_mul,Nat.zero_add] at h1;have s1:(a.add 0).spot=none:=World.cell?_spot h1;have l1:(a.add 0).block<W.heap.size:=World.block_lt_of_cell? W _ h1;obtain ⟨b,off,spot⟩:=a;obtain rfl:spot=none:=s1;exact ⟨b,off,rfl,l1⟩
  refine ⟨(List.range len).map G,some a,m,by rw [hlen],λi hi=>?_,λx hx=>?_,(λh=>by cases h),by rw [hlen];exact hl,λad e h0=>?_,λts0 ds j hz h1 h2=>?_⟩
  ·rw [hlen] at hi;obtain ⟨b,off,rfl,hbw⟩:=hsp (by omega);refine ⟨b,off,rfl,λj u hu=>?_⟩;have eG:((List.range len).map G)[i]'(by rw [hlen];exact hi)=G i:=by simp
   rw [eG] at hu;have:=(hG i (by omega)).1 j u hu;rw [add_plain] at this;rw [Nat.add_assoc];exact this
  ·obtain ⟨i,hi,rfl⟩:=List.mem_map.1 hx;exact (hG i (by have:=List.mem_range.1 hi;omega)).2
  ·rw [hlen] at h0;obtain ⟨b,off,rfl,hbw⟩:=hsp h0;obtain rfl:=Option.some.inj e;exact hbw
  ·have q:=sized_slice hz h1 (by rw [h2];exact congrArg some (congrArg Prod.fst hx)) underlying22;rw [zQd] at q;simp only [List.length_map,List.length_range] at q;rw [hlen];exact Nat.le_trans (Nat.mul_le_mul_right _ (by omega)) q
end
open Go.ChangeShapes Go.WideShapes Go.ChangeAt Go.RowKit Go.Joins Go.Deep
theorem zSE:prog.cellsOf 9=1:=by kernel_rfl
theorem zST:prog.bytesOf 9=16:=by kernel_rfl
section
variable {H:Type} {enc:TypeId × Value->H}
theorem zMc {m:Nat} {p:Nat->ByteArray->Prop} (h:∀ i,i<m->∃ v,p i v):∃ G:Nat->ByteArray,∀ i,i<m->p i (G i):=by
 classical
 refine ⟨λi=>if hi:i<m then Classical.choose (h i hi) else ⟨#[]⟩,λi hi=>?_⟩;dsimp only;rw [dif_pos hi];exact Classical.choose_spec (h i hi)
theorem zKn {W:World} {r:Reach} {b0:Nat} {v:Value} {d:DataW H} {p:List MemPlace}
  (hv:Value.okWide prog W r b0 25 v) (h:DataW.Trod enc prog W 0 (λ_=>true) true 25 v d p) :
  ∃ (L:List ByteArray) (av:Option Addr) (cap:Nat),v=.slice av L.length cap/\RdS W av L/\(av=none->L.length=0/\cap=0)/\L.length<=cap /\
   ∀ (ts0:List TypeId) (ds:List (DataW H)) (j:Nat),(DataW.weightsEach prog ts0 ds).all (· <= reachBytes)=true->ts0[j]? = some 25->ds[j]? = some d->L.length * 16<=reachBytes:=by
 obtain ⟨a0,len,cap,rfl⟩:=okWide_slice underlying25 hv;obtain ⟨fuel,hg⟩:=h;rcases open_slice underlying25 hg with ⟨hcs,hx⟩ | ⟨a,len',cap',m,n,D,Pl,hcs,hb,hl,hm,hmm,hx,hall⟩
 ·simp [Value.cells] at hcs;obtain ⟨rfl,rfl,rfl⟩:=hcs;exact ⟨[],none,0,rfl,λi hi=>absurd hi (Nat.not_lt_zero _),λ_=>⟨rfl,rfl⟩,Nat.le_refl _,(λ_ _ _ _ _ _=>by simp)⟩
 ·simp [Value.cells] at hcs;obtain ⟨rfl,rfl,rfl⟩:=hcs;simp only [if_true] at hmm;subst hmm;have each:∀ i,i<m->∃ y:ByteArray,W.cell? (a.add i)=some (.string y):=by
   intro i hi;obtain ⟨cs',h1,h2⟩:=hall i hi;rw [zSE] at h1;obtain ⟨_,hlen,hcell⟩:=World.cells?_some h1;obtain ⟨s,e,_,_⟩:=DataW.trod_string underlying9 h2;subst e;have:=hcell 0 (by omega);rw [add_add,Nat.mul_one,Nat.add_zero] at this;exact ⟨s,this⟩
  obtain ⟨G,hG⟩:=zMc each;have hlen:((List.range len).map G).length=len:=by simp
  refine ⟨(List.range len).map G,some a,m,by rw [hlen],λi hi=>?_,(λh=>by cases h),by rw [hlen];exact hl,λts0 ds j hz h1 h2=>?_⟩
  ·rw [hlen] at hi;have h1:=hG i (by omega);have s1:(a.add 0).spot=none:=World.cell?_spot (hG 0 (by omega));obtain ⟨b,off,spot⟩:=a;obtain rfl:spot=none:=s1;refine ⟨b,off,rfl,?_⟩;have eG:((List.range len).map G)[i]'(by rw [hlen];exact hi)=G i:=by simp
   rw [eG];rw [add_plain] at h1;exact h1
  ·have q:=sized_slice hz h1 (by rw [h2];exact congrArg some (congrArg Prod.fst hx)) underlying25;rw [zST] at q;simp only [List.length_map,List.length_range] at q;rw [hlen];exact Nat.le_trans (Nat.mul_le_mul_right _ (by omega)) q
end
