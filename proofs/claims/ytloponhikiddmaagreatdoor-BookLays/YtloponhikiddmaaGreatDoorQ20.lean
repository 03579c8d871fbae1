/- Lemmas. -/
import Derived.Test.YtloponhikiddmaaGreatDoorQ19
import Derived.Deep.Slices
import Derived.Lib.SmallJoins
import Derived.SizedLaws
import Derived.Carry
import Derived.ProofKit
import Derived.Test.YtloponhikiddmaaGreatDoorCards
import Derived.Test.YtloponhikiddmaaGreatDoorTie
import Derived.JoinedCond
import Derived.Lib.LaidTab
import Derived.Deep.Strs
import Derived.Stop.LaidErr
set_option maxHeartbeats 400000000
set_option maxRecDepth 100000
set_option linter.unusedVariables false
open Array renaming getElem?_toList->aZ,ext'->qZ
open List renaming getElem?_map->bZ,range->cZ,mem_append->dZ,getElem?_drop->eZ,getElem?_cons_zero->fZ,getElem?_cons_succ->gZ,length_map->hZ,take_succ_cons->iZ,drop_succ_cons->jZ,mem_cons->kZ,getElem?_take->mZ,flatMap_cons->nZ,drop_zero->oZ,take_zero->pZ
namespace Go.Proofs.YtloponhikiddmaaGreatDoor
open _root_.Go.Proofs.Tryz
open Go.ChangeShapes Go.WideShapes Go.ChangeAt Go.RowKit Go.Joins Go.Deep
theorem zPD:prog.cellsOf 36=3:=kR
theorem zRe:prog.cellsOf 38=4:=kR
theorem zQ0:prog.cellsOf 23=1:=kR
theorem zNs:prog.cellsOf 3=1:=kR
theorem zRE:prog.cellsOf 9=1:=kR
theorem zQ1:prog.bytesOf 38=40:=kR
theorem zP5:prog.bytesOf 23=24:=kR
section
variable {H:Type} {enc:TypeId × Value->H} {w:World} {base:Nat} {spare:Nat->Bool} {held:Bool}
theorem zMG {b d e:Field} (u:prog.underlying 36=some (.struct #[b,d,e])) (B:b.offset=0) (E:b.type=3) (C:d.offset=1) (F:d.type=3) (D:e.offset=2) (G:e.type=3) {fuel:Nat} {k l m:Value} {x:DataW H × List MemPlace}
  (h:DataW.trod enc prog w base spare held fuel 36 [k,l,m]=some x):∃ y:Wpl.Cl,[k,l,m]=[Value.int .i64 y.s,.int .i64 y.r,.int .i64 y.c]:=by
 obtain ⟨t,q,_,I,_,a,j⟩:=DataW.trod_struct u h;have a:t.length=3:=a;have f:=j 0 b rfl;rw [B,E,zNs] at f;have g:=j 1 d rfl;rw [C,F,zNs] at g;have i:=j 2 e rfl;rw [D,G,zNs] at i;match t,a with
 | [x0,x1,x2],_ =>
  simp only [oZ,iZ,pZ,jZ,fZ,gZ] at f g i;obtain ⟨v,e0,_,_⟩:=DataW.trod_int underlying3 f;obtain ⟨z,o,_,_⟩:=DataW.trod_int underlying3 g;obtain ⟨A,p,_,_⟩:=DataW.trod_int underlying3 i;simp only [List.cons.injEq,and_true] at e0 o p;exact ⟨⟨v,z,A⟩,by rw [e0,o,p]⟩
theorem zKQ {b d:Field} (i:prog.underlying 38=some (.struct #[b,d])) (v:b.offset=0) (D:b.type=36) (z:d.offset=3) (k:d.type=9) {fuel:Nat} {cs:List Value} (u:cs.length=4) {x:DataW H × List MemPlace}
  (h:DataW.trod enc prog w base spare held fuel 38 cs=some x):∃ y:Ch,cs=chL y/\y.t.size ∈ x.1.weights prog 38:=by
 match cs,u with
 | [a0,a1,a2,a3],_ =>
  obtain ⟨l,q,_,r,_,a,j⟩:=DataW.trod_struct i h;have a:l.length=2:=a;have e:=j 0 b rfl;rw [v,D,zPD] at e;have f:=j 1 d rfl;rw [z,k,zRE] at f;match l,a with
  | [x0,x1],_ =>
   simp only [oZ,iZ,pZ,jZ,fZ,gZ] at e f;obtain ⟨m,e0⟩:=zMG underlying36 rfl rfl rfl rfl rfl rfl e;obtain ⟨s,g,p,_⟩:=DataW.trod_string underlying9 f;simp only [List.cons.injEq,and_true] at e0 g;obtain ⟨A,B,C⟩:=e0;refine ⟨⟨m,s⟩,by rw [A,B,C,g];rfl,?_⟩;rw [r];simp only [List.map_cons,List.map_nil,DataW.weights,i,DataW.weightsEach,dZ,k];have o:x1.1=.lit (.string s.data.toList):=congrArg Prod.fst p;rw [o];simp only [DataW.weights,kZ];exact Or.inr (Or.inl (Or.inl rfl))
theorem zMN {α:Type} [Inhabited α] {m:Nat} {p:Nat->α->Prop} (h:∀ i,i<m->∃ v,p i v):∃ G:Nat->α,∀ i,i<m->p i (G i):=by
 classical
 refine ⟨λi=>if hi:i<m then Classical.choose (h i hi) else default,λi hi=>?_⟩;dsimp only;rw [dif_pos hi];exact Classical.choose_spec (h i hi)
theorem zBI (e:TypeId):∀ (l:List (DataW H)) (x:DataW H),x ∈ l->∀ n ∈ x.weights prog e,n ∈ DataW.weightsAll prog e l:=by
 intro l;induction l with
 | nil=>intro x hx;cases hx
 | cons y r b =>
  intro x hx n a;simp only [DataW.weightsAll,dZ];rcases List.mem_cons.1 hx with rfl | hx
  ·exact Or.inl a
  ·exact Or.inr (b x hx n a)
abbrev zRh:Inhabited Ch:=⟨⟨⟨0,0,0⟩,⟨#[]⟩⟩⟩
theorem zHx {fuel:Nat} {c:Value} {x:DataW H × List MemPlace} (h:DataW.trod enc prog w 0 (λ_=>true) true fuel 23 [c]=some x) :
  ∃ (p:Option Addr) (m k:Nat) (L:List Ch),c=.slice p m k/\L.length=m/\RdH w p L/\(p=none->m=0/\k=0)/\(m=0 \/ ∃ n ∈ x.1.weights prog 23,m<=n)/\∀ a ∈ L,a.t.size ∈ x.1.weights prog 23:=by
 rcases open_slice underlying23 h with ⟨f,C⟩ | ⟨a,len,cap,m,n,D,T,f,X,hl,hm,r,C,q⟩
 ·simp only [List.cons.injEq,and_true] at f;exact ⟨none,0,0,[],f,rfl,(λi a A=>by simp at A),λ_=>⟨rfl,rfl⟩,Or.inl rfl,λa A=>by cases A⟩
 ·simp only [List.cons.injEq,and_true] at f;simp only [if_true] at r;subst r;have o:∀ i,i<m->∃ y:Ch,(∀ j u,(chL y)[j]? = some u->w.cell? (a.add (i * 4+j))=some u)/\y.t.size ∈ (D i).weights prog 38:=by
   intro i g;obtain ⟨M,K,Q⟩:=q i g;rw [zRe] at K;obtain ⟨_,d,l⟩:=World.cells?_some K;obtain ⟨y,rfl,B⟩:=zKQ underlying38 rfl rfl rfl rfl d Q;refine ⟨y,λj u v=>?_,B⟩;have R:j<4:=by
    have:=(List.getElem?_eq_some_iff.1 v).1;rw [d] at this;exact this
   have:=l j R;rw [add_add] at this;rw [this,v]
  letI:=zRh
  obtain ⟨G,z⟩:=zMN o;have d:((cZ len).map G).length=len:=sM;have E:∀ i,i<len->∀ n ∈ (D i).weights prog 38,n ∈ x.1.weights prog 23:=λi g n hn=>by
   rw [C];simp only [DataW.weights,underlying23,kZ,dZ];exact Or.inr (Or.inl (zBI _ _ (D i) (List.mem_map.2 ⟨i,by simpa using g,rfl⟩) _ hn))
  refine ⟨some a,len,m,(cZ len).map G,f,d,λi y F=>?_,(λe=>by cases e),Or.inr ⟨(len+(m - len)) * 40,?_,oM⟩,λy F=>?_⟩
  ·obtain ⟨g,e⟩:=List.getElem?_eq_some_iff.1 F;rw [d] at g;have N:G i=y:=by simpa using e
   have S:(a.add 0).spot=none:=World.cell?_spot ((z 0 oM).1 0 _ rfl);obtain ⟨b,I,s⟩:=a;obtain rfl:s=none:=S;refine ⟨b,I,rfl,λj u v=>?_⟩;have:=(z i oM).1 j u (by rw [N];exact v);rw [add_plain] at this;rw [Nat.add_assoc];exact this
  ·rw [C];simp [DataW.weights,underlying23,zQ1]
  ·obtain ⟨i,g,rfl⟩:=List.mem_map.1 F;have g:=List.mem_range.1 g;exact E i g _ (z i oM).2
abbrev zRG:Inhabited (List Ch):=⟨[]⟩
theorem zIy {W:World} {r:Reach} {b0:Nat} {v:Value} {d:DataW H} {p:List MemPlace}
  (hv:Value.okWide prog W r b0 22 v) (h:DataW.Trod enc prog W 0 (λ_=>true) true 22 v d p) :
  ∃ (E:List (List Ch)) (av:Option Addr) (n cap:Nat),v=.slice av n cap/\RdE W av E/\E.length=n /\
   ∀ (C:List TypeId) (Q:List (DataW H)) (j:Nat),(DataW.weightsEach prog C Q).all (· <= reachBytes)=true->C[j]? = some 22->Q[j]? = some d->n<=reachBytes/\∀ L ∈ E,L.length<=reachBytes/\∀ a ∈ L,a.t.size<=reachBytes:=by
 obtain ⟨a0,len,cap,rfl⟩:=okWide_slice underlying22 hv;obtain ⟨fuel,hg⟩:=h;rcases open_slice underlying22 hg with ⟨l,F⟩ | ⟨a,ad,ac,m,n,D,Pl,l,hb,hl,hm,M,F,K⟩
 ·simp [Value.cells] at l;obtain ⟨rfl,rfl,rfl⟩:=l;exact ⟨[],none,0,0,rfl,(λi a ha=>by simp at ha),rfl,λ_ _ _ _ _ _=>⟨sM,λx F=>by cases F⟩⟩
 ·simp [Value.cells] at l;obtain ⟨rfl,rfl,rfl⟩:=l;simp only [if_true] at M;subst M;have I:∀ i,i<m->∃ L:List Ch,(∃ p u k,W.cell? (a.add i)=some (.slice p u k)/\L.length=u/\RdH W p L/\(p=none->u=0/\k=0))/\(L.length=0 \/ ∃ n ∈ (D i).weights prog 23,L.length<=n)/\∀ y ∈ L,y.t.size ∈ (D i).weights prog 23:=by
   intro i B;obtain ⟨S,z,T⟩:=K i B;rw [zQ0] at z;obtain ⟨_,g,A⟩:=World.cells?_some z;match S,g with
   | [c],_ =>
    obtain ⟨p,u,k,L,rfl,hL,hr,R,s,ht⟩:=zHx T;refine ⟨L,⟨p,u,k,?_,hL,hr,R⟩,by rw [hL];exact s,ht⟩;have:=A 0 oM;rw [add_add,Nat.mul_one,Nat.add_zero] at this;exact this
  letI:=zRG
  obtain ⟨G,X⟩:=zMN I;have g:((cZ len).map G).length=len:=sM;have ab:0<len->∃ b o,a=⟨b,o,none⟩:=by
   intro h0;obtain ⟨⟨p,u,k,z,_⟩,_⟩:=X 0 oM;have s1:(a.add 0).spot=none:=World.cell?_spot z;obtain ⟨b,o,N⟩:=a;obtain rfl:N=none:=s1;exact ⟨b,o,rfl⟩
  refine ⟨(cZ len).map G,some a,len,m,rfl,λi y hy=>?_,g,λC Q j R z T=>?_⟩
  ·obtain ⟨B,e⟩:=List.getElem?_eq_some_iff.1 hy;rw [g] at B;have eG:G i=y:=by simpa using e
   obtain ⟨b,o,rfl⟩:=ab oM;obtain ⟨⟨p,u,k,q1,q2,q3,q4⟩,_⟩:=X i oM;rw [eG] at q2 q3;rw [add_plain] at q1;exact ⟨b,o,p,u,k,rfl,q1,q2,q3,q4⟩
  ·have h3:Q[j]? = some (.slice ((cZ len).map D) ((cZ (m - len)).map λj=>D (len+j))):=by rw [T];exact congrArg some (congrArg Prod.fst F)
   have q:=sized_slice R z h3 underlying22;rw [zP5] at q;simp only [hZ,List.length_range] at q;refine ⟨oM,λx F=>?_⟩;obtain ⟨i,B,rfl⟩:=List.mem_map.1 F;have B:=List.mem_range.1 B;obtain ⟨_,s,ht⟩:=X i oM;have key:∀ n ∈ (D i).weights prog 23,n<=reachBytes:=by
    intro n s;have hm:n ∈ (DataW.slice ((cZ len).map D) ((cZ (m - len)).map λj=>D (len+j)):DataW H).weights prog 22:=by
     simp only [DataW.weights,underlying22,kZ,dZ];exact Or.inr (Or.inl (zBI _ _ (D i) (List.mem_map.2 ⟨i,by simpa using B,rfl⟩) _ s))
    have:=List.all_eq_true.1 R _ (DataW.weights_mem_each z h3 _ hm);simpa using this
   refine ⟨?_,λy hy=>key _ (ht y hy)⟩;rcases s with s | ⟨n,s,aa⟩
   ·rw [s];exact Nat.zero_le _
   ·exact Nat.le_trans aa (key n s)
end
end Go.Proofs.YtloponhikiddmaaGreatDoor
namespace Go.Proofs.YtloponhikiddmaaGreatDoor.bookLays
theorem J9 {a b:Bool} (d:a=true) (e:b=true):(a && b)=true:=by rw [d,e];rfl
theorem zOp:Tryz.pinned.checked.prog.funcNamed Rows.bookLaysRow.func=some 5:=kR
theorem zLF:joinedFacts Tryz.pinned.checked.prog 5 Tryz.f5 (OpenSpec.ofChange Rows.bookLaysSpec).bare Rows.bookLaysRow=true:=by
 unfold joinedFacts;refine J9 (J9 (J9 (J9 (J9 (J9 (J9 (J9 (J9 (J9 (J9 (J9 (J9 (J9 (J9 (J9 (J9 (J9 (J9 (J9 (J9 (J9 (J9 (J9 (J9 (J9 (J9 (J9 (J9 (J9 (J9 ?_ ?_) ?_) ?_) ?_) ?_) ?_) ?_) ?_) ?_) ?_) ?_) ?_) ?_) ?_) ?_) ?_) ?_) ?_) ?_) ?_) ?_) ?_) ?_) ?_) ?_) ?_) ?_) ?_) ?_) ?_) ?_;all_goals as_aux_lemma=>kernel_rfl
theorem zPr:Tryz.f5.isInstance Tryz.pinned.checked.prog Rows.bookLaysRow.origin Rows.bookLaysRow.targs:=of_decide_eq_true kR
theorem zOd:Tryz.f5.isWrapper Tryz.pinned.checked.prog Rows.bookLaysRow.wrapper Rows.bookLaysRow.mainSum:=by
 unfold Func.isWrapper;first | (rw [if_pos (by decide +kernel)];kernel_rfl) | (rw [if_neg (by decide +kernel)];exact ⟨rfl,rfl⟩)
theorem zNT:true=Tryz.pinned.checked.prog.looks []:=kR
end Go.Proofs.YtloponhikiddmaaGreatDoor.bookLays
namespace Go.Proofs.YtloponhikiddmaaGreatDoor
open _root_.Go.Proofs.Tryz
open Go.RowKit
variable {W w:World} {rest:List (String × DataW Unit)} {P:Program} {base fuel n c:Nat} {sp:Nat->Bool} {held:Bool} {cs:List Value}
theorem zCI {H:Type} {enc:TypeId × Value->H} {t e:TypeId} {f:List (DataW H)} {p:List MemPlace}
  (u:P.underlying t=some (.array n e)) (g:P.cellsOf e=c) (j:P.cellsOf t=n * c)
  (h:DataW.trod enc P w base sp held fuel t cs=some (.agg f,p)):cs.length=n * c/\f.length=n/\∀ i d,f[i]? = some d->∃ fuel' p',DataW.trod enc P w base sp held fuel' e ((cs.drop (i * c)).take c)=some (d,p'):=by
 cases fuel with
 | zero=>simp [DataW.trod] at h
 | succ fuel =>
  simp only [DataW.trod,u,g,j] at h;split at h
  ·rename_i s
   obtain ⟨l,m,v⟩:=Option.map_eq_some_iff.1 h;have a:l.map (·.1)=f:=by
    have:=congrArg Prod.fst v;simpa using this
   have k:l.length=n:=by simpa using Lib.mapM_length m
   refine ⟨by simpa using s,by rw [<-a];simpa using k,λi d hd=>?_⟩;have r:i<n:=by
    have:=(List.getElem?_eq_some_iff.1 hd).1;rw [<-a,hZ] at this;omega
   obtain ⟨b,o,q⟩:=Lib.mapM_at m i i (by simp [r]);have:(l.map (·.1))[i]? = some b.1:=by simp [o]
   rw [a,hd] at this;obtain rfl:=Option.some.inj this;exact ⟨fuel,b.2,q⟩
  ·cases h
theorem zPU {s:ByteArray} {l:List UInt8} (h:s.data.toList=l):s=⟨l.toArray⟩:=by
 apply ByteArray.ext
 apply qZ
 rw [h]
theorem zP3 (h:laidMet prog (("whittle/value.faultNames",.agg (fNames.map λx=>.lit (.string x)))::rest) W):FltAt W:=by
 obtain ⟨B,⟨u,C,cs,fuel,p,q,b,d,a,hd,_,_⟩,_⟩:=h;have k:prog.globalNamed "whittle/value.faultNames" = some 0:=kR
 have f:(prog.globals[0]?).map (·.type)=some 169:=kR
 obtain rfl:=Option.some.inj (k.symm.trans b);obtain rfl:=Option.some.inj (f.symm.trans d);obtain ⟨y,z,m⟩:=zCI (n:=9) (c:=1) (e:=9) underlying169 kR kR hd;intro j v g;unfold fltR at g;rw [bZ] at g;obtain ⟨x,r,rfl⟩:=Option.map_eq_some_iff.1 g;obtain ⟨t,A,o⟩:=m j (.lit (.string x)) (by rw [bZ,r];rfl);obtain ⟨s,l,i,_⟩:=DataW.trod_string underlying9 o;simp only [Prod.mk.injEq,DataW.lit.injEq,Lit.string.injEq] at i;rw [Nat.zero_add,World.var?_cell k a j];have:cs.toList[j]? = some (.string s):=by
  have:=congrArg (·[0]?) l;simpa [mZ,eZ] using this
 rw [aZ] at this;rw [this,zPU i.1.symm]
theorem zPE {α β:Type} (f:α->List β) (b:∀ x,(f x).length=3):∀ (l:List α) (i:Nat) (a:i<l.length) (r:Nat),r<3->(l.flatMap f)[i * 3+r]? = (f l[i])[r]?
 | [],i,a,r,hr=>absurd a (Nat.not_lt_zero _)
 | x::l,0,a,r,hr=>by
  rw [nZ,List.getElem?_append_left (by rw [b];omega)];simp
 | x::l,i+1,a,r,hr=>by
  rw [nZ,List.getElem?_append_right (by rw [b];omega),b,show (i+1) * 3+r - 3=i * 3+r by omega];rw [zPE f b l i (by simpa using a) r hr];simp
theorem zPG (h:laidMet prog (("whittle/tree.operators",.agg (Wt.opsT.map λx=>.agg [.lit (.int .i64 x.1),.lit (.string x.2.1),.lit (.int .i64 x.2.2)]))::rest) W):OpsAt W:=by
 obtain ⟨ps,⟨T,t',cs,fuel,p,q,f,g,b,hd,_,_⟩,_⟩:=h;have r:prog.globalNamed "whittle/tree.operators" = some 1:=kR
 have k:(prog.globals[1]?).map (·.type)=some 248:=kR
 obtain rfl:=Option.some.inj (r.symm.trans f);obtain rfl:=Option.some.inj (k.symm.trans g);obtain ⟨X,h2,F⟩:=zCI (n:=15) (c:=3) (e:=223) underlying248 kR kR hd;have z:prog.cellsOf 3=1:=kR
 have A:prog.cellsOf 9=1:=kR
 have key:∀ i x,Wt.opsT[i]? = some x->cs.toList[i * 3]? = some (.int .i64 x.1)/\cs.toList[i * 3+1]? = some (.string ⟨x.2.1.toArray⟩)/\cs.toList[i * 3+2]? = some (.int .i64 x.2.2):=by
  intro i x I;obtain ⟨S,p',G⟩:=F i _ (by rw [bZ,I];rfl);obtain ⟨y0,y1,y2,n,e,-,N,Q,R⟩:=Deep.trod_struct3 underlying223 G;simp only [Prod.mk.injEq,DataW.agg.injEq,List.cons.injEq,and_true] at e;obtain ⟨z0,l,C,_⟩:=DataW.trod_int underlying3 N;obtain ⟨z1,m,D,_⟩:=DataW.trod_string underlying9 Q;obtain ⟨z2,o,E,_⟩:=DataW.trod_int underlying3 R;subst C D E;simp only [DataW.lit.injEq,Lit.int.injEq,Lit.string.injEq,true_and] at e;obtain ⟨⟨rfl,B,rfl⟩,-⟩:=e;simp only [z] at l o;simp only [A] at m;have t:=congrArg (·[0]?) l;have u:=congrArg (·[0]?) m;have y:=congrArg (·[0]?) o;simp [eZ] at t u y;refine ⟨?_,?_,?_⟩
  ·rw [aZ];exact t
  ·rw [aZ,u,zPU B.symm]
  ·rw [aZ];exact y
 intro j v a;rw [Nat.zero_add,World.var?_cell r b j];have hj:j<45:=by
  have:=(List.getElem?_eq_some_iff.1 a).1;have e:opsR.length=45:=rfl;omega
 have s:j / 3<Wt.opsT.length:=by show j / 3<15;omega
 obtain ⟨K,L,M⟩:=key (j / 3) _ (List.getElem?_eq_getElem s);have d:=zPE (λx:Int × List UInt8 × Int=>([.int .i64 x.1,.string ⟨x.2.1.toArray⟩,.int .i64 x.2.2]:List Value)) (λ_=>rfl) Wt.opsT (j / 3) s;have hm:j % 3=0 \/ j % 3=1 \/ j % 3=2:=oM;rcases hm with hm | hm | hm
 ·have e:j=j / 3 * 3+0:=oM;have:=d 0 dM;rw [<-e] at this;rw [show opsR[j]? = _ from this] at a;rw [show j=j / 3 * 3 by omega,<-aZ,K];exact a
 ·have e:j=j / 3 * 3+1:=oM;have:=d 1 dM;rw [<-e] at this;rw [show opsR[j]? = _ from this] at a;rw [e,<-aZ,L];exact a
 ·have e:j=j / 3 * 3+2:=oM;have:=d 2 dM;rw [<-e] at this;rw [show opsR[j]? = _ from this] at a;rw [e,<-aZ,M];exact a
theorem zEr {H:Type} {enc:TypeId × Value->H} {t e:TypeId} {f:List (DataW H)} {p:List MemPlace}
  (u:P.underlying t=some (.array n e)) (g:P.cellsOf e=c) (j:P.cellsOf t=n * c)
  (h:DataW.trod enc P w base sp held fuel t cs=some (.agg f,p)):cs.length=n * c/\f.length=n/\∀ i d,f[i]? = some d->∃ fuel' p',DataW.trod enc P w base sp held fuel' e ((cs.drop (i * c)).take c)=some (d,p'):=by
 cases fuel with
 | zero=>simp [DataW.trod] at h
 | succ fuel =>
  simp only [DataW.trod,u,g,j] at h;split at h
  ·rename_i s
   obtain ⟨l,m,v⟩:=Option.map_eq_some_iff.1 h;have a:l.map (·.1)=f:=by
    have:=congrArg Prod.fst v;simpa using this
   have k:l.length=n:=by simpa using Lib.mapM_length m
   refine ⟨by simpa using s,by rw [<-a];simpa using k,λi d hd=>?_⟩;have r:i<n:=by
    have:=(List.getElem?_eq_some_iff.1 hd).1;rw [<-a,hZ] at this;omega
   obtain ⟨b,o,q⟩:=Lib.mapM_at m i i (by simp [r]);have:(l.map (·.1))[i]? = some b.1:=by simp [o]
   rw [a,hd] at this;obtain rfl:=Option.some.inj this;exact ⟨fuel,b.2,q⟩
  ·cases h
theorem zRF (h:laidMet prog (("whittle/funcs.names",.agg (fnN.map λx=>.lit (.string x)))::rest) W):NmAt W:=by
 obtain ⟨C,⟨y,D,cs,fuel,p,q,b,d,a,hd,_,_⟩,_⟩:=h;have k:prog.globalNamed "whittle/funcs.names" = some 2:=kR
 have f:(prog.globals[2]?).map (·.type)=some 268:=kR
 obtain rfl:=Option.some.inj (k.symm.trans b);obtain rfl:=Option.some.inj (f.symm.trans d);obtain ⟨z,A,o⟩:=zEr (n:=63) (c:=1) (e:=9) underlying268 kR kR hd;intro j v g;unfold nmR at g;rw [bZ] at g;obtain ⟨x,t,rfl⟩:=Option.map_eq_some_iff.1 g;obtain ⟨u,B,r⟩:=o j (.lit (.string x)) (by rw [bZ,t];rfl);obtain ⟨s,l,i,_⟩:=DataW.trod_string underlying9 r;simp only [Prod.mk.injEq,DataW.lit.injEq,Lit.string.injEq] at i;rw [Nat.zero_add,World.var?_cell k a j];have:cs.toList[j]? = some (.string s):=by
  have:=congrArg (·[0]?) l;simpa [mZ,eZ] using this
 rw [aZ] at this;have m:s=⟨x.toArray⟩:=by
  apply ByteArray.ext
  apply qZ
  exact i.1.symm
 rw [this,m]
