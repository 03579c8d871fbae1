/- KArg. -/
import Derived.Test.YtoddeobfajlafaaGreatDoorQ41
import Derived.Deep.Slices
import Derived.Lib.SmallJoins
import Derived.SizedLaws
import Derived.Carry
import Derived.ProofKit
set_option maxHeartbeats 400000
set_option maxRecDepth 100000
namespace Go.Proofs.YtoddeobfajlafaaGreatDoor
open Tryz
open Go.ChangeShapes Go.WideShapes Go.ChangeAt Go.RowKit Go.Joins Go.Deep
set_option linter.unusedVariables false
theorem zR5:prog.cellsOf 31=6:=by kernel_rfl
theorem zRS:prog.cellsOf 29=2:=by kernel_rfl
theorem zQS:prog.cellsOf 24=3:=by kernel_rfl
theorem zOo:prog.cellsOf 53=5:=by kernel_rfl
theorem zQ7:prog.cellsOf 54=1:=by kernel_rfl
theorem zR7:prog.cellsOf 56=23:=by kernel_rfl
theorem zQR:prog.bytesOf 56=208:=by kernel_rfl
theorem zQX:prog.bytesOf 3=8:=by kernel_rfl
theorem zEU:prog.cellsOf 3=1:=by kernel_rfl
theorem zQF:prog.cellsOf 4=1:=by kernel_rfl
theorem zR9:prog.cellsOf 9=1:=by kernel_rfl
abbrev zR2 (v:Wt.Vl):List Value:=[.int .i64 v.k,.int .i64 v.n,.int .i64 v.d,.string v.t,.bool v.b,.int .i64 v.f]
section
variable {H:Type} {enc:TypeId × Value->H} {w:World} {base:Nat} {spare:Nat->Bool} {held:Bool}
theorem zHr {f0 f1:Field} (he:prog.underlying 29=some (.struct #[f0,f1])) (o0:f0.offset=0) (t0:f0.type=3) (o1:f1.offset=1) (t1:f1.type=3) {fuel:Nat} {c0 c1:Value} {x:DataW H × List MemPlace} (h:DataW.trod enc prog w base spare held fuel 29 [c0,c1]=some x):∃ n d:Int,c0=.int .i64 n/\c1=.int .i64 d/\(-9223372036854775808<=n/\n<=9223372036854775807)/\(-9223372036854775808<=d/\d<=9223372036854775807):=by
 obtain ⟨xs,q,_,hD,_,hxl,hg⟩:=DataW.trod_struct he h;have hxl:xs.length=2:=hxl;have g0:=hg 0 f0 rfl;rw [o0,t0,zEU] at g0;have g1:=hg 1 f1 rfl;rw [o1,t1,zEU] at g1;match xs,hxl with
 | [x0,x1],_ =>
  simp only [List.drop_zero,List.take_succ_cons,List.take_zero,List.drop_succ_cons,List.getElem?_cons_zero,List.getElem?_cons_succ] at g0 g1;obtain ⟨n,e1,_,k1⟩:=DataW.trod_int underlying3 g0;obtain ⟨d,e2,_,k2⟩:=DataW.trod_int underlying3 g1;simp only [List.cons.injEq,and_true] at e1 e2;exact ⟨n,d,e1,e2,bounds_i64 k1,bounds_i64 k2⟩
theorem zKM {f0 f1 f2 f3 f4:Field} (he:prog.underlying 31=some (.struct #[f0,f1,f2,f3,f4])) (o0:f0.offset=0) (t0:f0.type=3) (o1:f1.offset=1) (t1:f1.type=29) (o2:f2.offset=3) (t2:f2.type=9) (o3:f3.offset=4) (t3:f3.type=4) (o4:f4.offset=5) (t4:f4.type=3) {fuel:Nat} {c0 c1 c2 c3 c4 c5:Value} {x:DataW H × List MemPlace}
  (h:DataW.trod enc prog w base spare held fuel 31 [c0,c1,c2,c3,c4,c5]=some x):∃ v:Wt.Vl,[c0,c1,c2,c3,c4,c5]=zR2 v/\Wt.FitV v/\v.t.size ∈ x.1.weights prog 31:=by
 obtain ⟨xs,q,_,hD,_,hxl,hg⟩:=DataW.trod_struct he h;have hxl:xs.length=5:=hxl;have g0:=hg 0 f0 rfl;rw [o0,t0,zEU] at g0;have g1:=hg 1 f1 rfl;rw [o1,t1,zRS] at g1;have g2:=hg 2 f2 rfl;rw [o2,t2,zR9] at g2;have g3:=hg 3 f3 rfl;rw [o3,t3,zQF] at g3;have g4:=hg 4 f4 rfl;rw [o4,t4,zEU] at g4;match xs,hxl with
 | [x0,x1,x2,x3,x4],_ =>
  simp only [List.drop_zero,List.take_succ_cons,List.take_zero,List.drop_succ_cons,List.getElem?_cons_zero,List.getElem?_cons_succ] at g0 g1 g2 g3 g4;obtain ⟨k,e0,_,_⟩:=DataW.trod_int underlying3 g0;obtain ⟨n,d,e1,e2,k1,k2⟩:=zHr underlying29 rfl rfl rfl rfl g1;obtain ⟨s,e3,e3d,k3⟩:=DataW.trod_string underlying9 g2;obtain ⟨b,e4,_⟩:=DataW.trod_bool underlying4 g3;obtain ⟨f,e5,_,_⟩:=DataW.trod_int underlying3 g4;simp only [List.cons.injEq,and_true] at e0 e3 e4 e5;refine ⟨⟨k,n,d,s,b,f⟩,by rw [e0,e1,e2,e3,e4,e5],⟨k1,k2,?_⟩,?_⟩
  ·unfold maxLen at k3;show s.size<=_
   omega
  ·rw [hD,e3d];simp only [List.map_cons,List.map_nil,DataW.weights,he,DataW.weightsEach,List.mem_append];exact Or.inr (Or.inr (Or.inl (by simp)))
theorem zJ1 {f0 f1 f2:Field} (he:prog.underlying 24=some (.struct #[f0,f1,f2])) (o0:f0.offset=0) (t0:f0.type=3) (o1:f1.offset=1) (t1:f1.type=3) (o2:f2.offset=2) (t2:f2.type=3) {fuel:Nat} {c0 c1 c2:Value} {x:DataW H × List MemPlace}
  (h:DataW.trod enc prog w base spare held fuel 24 [c0,c1,c2]=some x):∃ y:Wpl.Cl,[c0,c1,c2]=[Value.int .i64 y.s,.int .i64 y.r,.int .i64 y.c]:=by
 obtain ⟨xs,q,_,hD,_,hxl,hg⟩:=DataW.trod_struct he h;have hxl:xs.length=3:=hxl;have g0:=hg 0 f0 rfl;rw [o0,t0,zEU] at g0;have g1:=hg 1 f1 rfl;rw [o1,t1,zEU] at g1;have g2:=hg 2 f2 rfl;rw [o2,t2,zEU] at g2;match xs,hxl with
 | [x0,x1,x2],_ =>
  simp only [List.drop_zero,List.take_succ_cons,List.take_zero,List.drop_succ_cons,List.getElem?_cons_zero,List.getElem?_cons_succ] at g0 g1 g2;obtain ⟨n0,e0,_,_⟩:=DataW.trod_int underlying3 g0;obtain ⟨n1,e1,_,_⟩:=DataW.trod_int underlying3 g1;obtain ⟨n2,e2,_,_⟩:=DataW.trod_int underlying3 g2;simp only [List.cons.injEq,and_true] at e0 e1 e2;exact ⟨⟨n0,n1,n2⟩,by rw [e0,e1,e2]⟩
theorem zGD {f0 f1 f2 f3 f4:Field} (he:prog.underlying 53=some (.struct #[f0,f1,f2,f3,f4])) (o0:f0.offset=0) (t0:f0.type=3) (o1:f1.offset=1) (t1:f1.type=3) (o2:f2.offset=2) (t2:f2.type=3) (o3:f3.offset=3) (t3:f3.type=3) (o4:f4.offset=4) (t4:f4.type=3) {fuel:Nat} {c0 c1 c2 c3 c4:Value} {x:DataW H × List MemPlace}
  (h:DataW.trod enc prog w base spare held fuel 53 [c0,c1,c2,c3,c4]=some x):∃ y:Wpl.Ar,[c0,c1,c2,c3,c4]=[Value.int .i64 y.s,.int .i64 y.t,.int .i64 y.l,.int .i64 y.b,.int .i64 y.r]:=by
 obtain ⟨xs,q,_,hD,_,hxl,hg⟩:=DataW.trod_struct he h;have hxl:xs.length=5:=hxl;have g0:=hg 0 f0 rfl;rw [o0,t0,zEU] at g0;have g1:=hg 1 f1 rfl;rw [o1,t1,zEU] at g1;have g2:=hg 2 f2 rfl;rw [o2,t2,zEU] at g2;have g3:=hg 3 f3 rfl;rw [o3,t3,zEU] at g3;have g4:=hg 4 f4 rfl;rw [o4,t4,zEU] at g4;match xs,hxl with
 | [x0,x1,x2,x3,x4],_ =>
  simp only [List.drop_zero,List.take_succ_cons,List.take_zero,List.drop_succ_cons,List.getElem?_cons_zero,List.getElem?_cons_succ] at g0 g1 g2 g3 g4;obtain ⟨n0,e0,_,_⟩:=DataW.trod_int underlying3 g0;obtain ⟨n1,e1,_,_⟩:=DataW.trod_int underlying3 g1;obtain ⟨n2,e2,_,_⟩:=DataW.trod_int underlying3 g2;obtain ⟨n3,e3,_,_⟩:=DataW.trod_int underlying3 g3;obtain ⟨n4,e4,_,_⟩:=DataW.trod_int underlying3 g4;simp only [List.cons.injEq,and_true] at e0 e1 e2 e3 e4;exact ⟨⟨n0,n1,n2,n3,n4⟩,by rw [e0,e1,e2,e3,e4]⟩
theorem zKv {m:Nat} {p:Nat->Int->Prop} (h:∀ i,i<m->∃ v,p i v):∃ G:Nat->Int,∀ i,i<m->p i (G i):=by
 classical
 refine ⟨λi=>if hi:i<m then Classical.choose (h i hi) else 0,λi hi=>?_⟩;dsimp only;rw [dif_pos hi];exact Classical.choose_spec (h i hi)
theorem zGO {fuel:Nat} {c:Value} {x:DataW H × List MemPlace} (h:DataW.trod enc prog w 0 (λ_=>true) true fuel 54 [c]=some x) :
  ∃ (p:Option Addr) (m k:Nat) (tl:List Int),c=.slice p m k/\RdZ w (.slice p m k) tl/\(p=none->k=0)/\(tl.length=0 \/ ∃ n ∈ x.1.weights prog 54,tl.length<=n):=by
 rcases open_slice underlying54 h with ⟨hcs,hx⟩ | ⟨a,len,cap,m,n,D,Pl,hcs,hb,hl,hm,hmm,hx,hall⟩
 ·simp only [List.cons.injEq,and_true] at hcs;exact ⟨none,0,0,[],hcs,RdZ.nil w,λ_=>rfl,Or.inl rfl⟩
 ·simp only [List.cons.injEq,and_true] at hcs;simp only [if_true] at hmm;subst hmm;have each:∀ i,i<m->∃ z:Int,w.cell? (a.add i)=some (.int .i64 z):=by
   intro i hi;obtain ⟨cs',h1,h2⟩:=hall i hi;rw [zEU] at h1;obtain ⟨_,hlen,hcell⟩:=World.cells?_some h1;obtain ⟨z,rfl,_,_⟩:=DataW.trod_int underlying3 h2;have:=hcell 0 (by omega);rw [add_add] at this;refine ⟨z,?_⟩;simpa using this
  obtain ⟨G,hG⟩:=zKv each;have hlen:((List.range len).map G).length=len:=by simp
  refine ⟨some a,len,m,(List.range len).map G,hcs,⟨some a,m,by rw [hlen],λi hi=>?_⟩,(λe=>by cases e),Or.inr ⟨(len+(m - len)) * 8,?_,by rw [hlen];omega⟩⟩
  ·rw [hlen] at hi;have h1:=hG i (by omega);have s1:(a.add 0).spot=none:=World.cell?_spot (hG 0 (by omega));obtain ⟨b,off,spot⟩:=a;obtain rfl:spot=none:=s1;refine ⟨b,off,rfl,?_⟩;rw [add_plain] at h1;rw [h1];simp
  ·rw [hx];simp [DataW.weights,underlying54,zQX]
theorem zHB {f0 f1 f2 f3 f4 f5 f6 f7:Field} (he:prog.underlying 56=some (.struct #[f0,f1,f2,f3,f4,f5,f6,f7])) (o0:f0.offset=0) (t0:f0.type=3) (o1:f1.offset=1) (t1:f1.type=3) (o2:f2.offset=2) (t2:f2.type=3) (o3:f3.offset=3) (t3:f3.type=31) (o4:f4.offset=9) (t4:f4.type=24) (o5:f5.offset=12) (t5:f5.type=53) (o6:f6.offset=17) (t6:f6.type=53) (o7:f7.offset=22) (t7:f7.type=54) {fuel:Nat} {cs:List Value} {x:DataW H × List MemPlace} (hl:cs.length=23)
  (h:DataW.trod enc prog w 0 (λ_=>true) true fuel 56 cs=some x):∃ (y:Wc.In) (p:Option Addr) (m k:Nat) (tl:List Int),cs=zAD y (.slice p m k)/\RdZ w (.slice p m k) tl/\(p=none->k=0)/\Wt.FitV y.v/\y.v.t.size ∈ x.1.weights prog 56/\(tl.length=0 \/ ∃ n ∈ x.1.weights prog 56,tl.length<=n):=by
 match cs,hl with
 | [a0,a1,a2,a3,a4,a5,a6,a7,a8,a9,b0,b1,b2,b3,b4,b5,b6,b7,b8,b9,c0,c1,c2],_ =>
  obtain ⟨xs,q,_,hD,_,hxl,hg⟩:=DataW.trod_struct he h;have hxl:xs.length=8:=hxl;have g0:=hg 0 f0 rfl;rw [o0,t0,zEU] at g0;have g1:=hg 1 f1 rfl;rw [o1,t1,zEU] at g1;have g2:=hg 2 f2 rfl;rw [o2,t2,zEU] at g2;have g3:=hg 3 f3 rfl;rw [o3,t3,zR5] at g3;have g4:=hg 4 f4 rfl;rw [o4,t4,zQS] at g4;have g5:=hg 5 f5 rfl;rw [o5,t5,zOo] at g5;have g6:=hg 6 f6 rfl;rw [o6,t6,zOo] at g6;have g7:=hg 7 f7 rfl;rw [o7,t7,zQ7] at g7;match xs,hxl with
  | [x0,x1,x2,x3,x4,x5,x6,x7],_ =>
   simp only [List.drop_zero,List.take_succ_cons,List.take_zero,List.drop_succ_cons,List.getElem?_cons_zero,List.getElem?_cons_succ] at g0 g1 g2 g3 g4 g5 g6 g7;obtain ⟨n0,e0,_,_⟩:=DataW.trod_int underlying3 g0;obtain ⟨n1,e1,_,_⟩:=DataW.trod_int underlying3 g1;obtain ⟨n2,e2,_,_⟩:=DataW.trod_int underlying3 g2;obtain ⟨v,e3,hv,hvt⟩:=zKM underlying31 rfl rfl rfl rfl rfl rfl rfl rfl rfl rfl g3;obtain ⟨ce,e4⟩:=zJ1 underlying24 rfl rfl rfl rfl rfl rfl g4;obtain ⟨ar,e5⟩:=zGD underlying53 rfl rfl rfl rfl rfl rfl rfl rfl rfl rfl g5;obtain ⟨pr,e6⟩:=zGD underlying53 rfl rfl rfl rfl rfl rfl rfl rfl rfl rfl g6;obtain ⟨p,m,k,tl,e7,hz,hnp,hn⟩:=zGO g7;simp only [List.cons.injEq,and_true] at e0 e1 e2 e3 e4 e5 e6;obtain ⟨v0,v1,v2,v3,v4,v5⟩:=e3;obtain ⟨p0,p1,p2⟩:=e4;obtain ⟨q0,q1,q2,q3,q4⟩:=e5;obtain ⟨r0,r1,r2,r3,r4⟩:=e6;have hw:∀ n,(n ∈ x3.1.weights prog 31 \/ n ∈ x7.1.weights prog 54)->n ∈ x.1.weights prog 56:=by
    intro n hn;rw [hD];simp only [List.map_cons,List.map_nil,DataW.weights,he,DataW.weightsEach,List.mem_append,t3,t7];rcases hn with hn | hn
    ·exact Or.inr (Or.inr (Or.inr (Or.inl hn)))
    ·exact Or.inr (Or.inr (Or.inr (Or.inr (Or.inr (Or.inr (Or.inr (Or.inl hn)))))))
   refine ⟨⟨n0,n1,n2,v,ce,ar,pr⟩,p,m,k,tl,by rw [e0,e1,e2,v0,v1,v2,v3,v4,v5,p0,p1,p2,q0,q1,q2,q3,q4,r0,r1,r2,r3,r4,e7];rfl,hz,hnp,hv,hw _ (Or.inl hvt),?_⟩;rcases hn with hn | ⟨n,hn,hle⟩
   ·exact Or.inl hn
   ·exact Or.inr ⟨n,hw _ (Or.inr hn),hle⟩
theorem zLV {m:Nat} {p:Nat->(Wc.In × List Int)->Prop} (h:∀ i,i<m->∃ v,p i v):∃ G:Nat->(Wc.In × List Int),∀ i,i<m->p i (G i):=by
 classical
 refine ⟨λi=>if hi:i<m then Classical.choose (h i hi) else (⟨0,0,0,Wt.v0,⟨0,0,0⟩,⟨0,0,0,0,0⟩,⟨0,0,0,0,0⟩⟩,[]),λi hi=>?_⟩;dsimp only;rw [dif_pos hi];exact Classical.choose_spec (h i hi)
theorem zE7 (e:TypeId):∀ (l:List (DataW H)) (x:DataW H),x ∈ l->∀ n ∈ x.weights prog e,n ∈ DataW.weightsAll prog e l:=by
 intro l;induction l with
 | nil=>intro x hx;cases hx
 | cons y r ih =>
  intro x hx n hn;simp only [DataW.weightsAll,List.mem_append];rcases List.mem_cons.1 hx with rfl | hx
  ·exact Or.inl hn
  ·exact Or.inr (ih x hx n hn)
theorem zLS {W:World} {r:Reach} {b0:Nat} {v:Value} {d:DataW H} {p:List MemPlace}
  (hv:Value.okWide prog W r b0 36 v) (h:DataW.Trod enc prog W 0 (λ_=>true) true 36 v d p) :
  ∃ (L:List (Wc.In × List Int)),RdC W v L/\(∀ x ∈ L,Wt.FitV x.1.v) /\
   ∀ (ts0:List TypeId) (ds:List (DataW H)) (j:Nat),(DataW.weightsEach prog ts0 ds).all (· <= reachBytes)=true->ts0[j]? = some 36->ds[j]? = some d->L.length<=reachBytes/\∀ x ∈ L,x.2.length<=reachBytes/\x.1.v.t.size<=reachBytes:=by
 obtain ⟨a0,len,cap,rfl⟩:=okWide_slice underlying36 hv;obtain ⟨fuel,hg⟩:=h;rcases open_slice underlying36 hg with ⟨hcs,hx⟩ | ⟨a,len',cap',m,n,D,Pl,hcs,hb,hl,hm,hmm,hx,hall⟩
 ·simp [Value.cells] at hcs;obtain ⟨rfl,rfl,rfl⟩:=hcs;exact ⟨[],⟨none,0,rfl,λi hi=>absurd hi (Nat.not_lt_zero _)⟩,(λx hx=>by cases hx),λ_ _ _ _ _ _=>⟨by simp,λx hx=>by cases hx⟩⟩
 ·simp [Value.cells] at hcs;obtain ⟨rfl,rfl,rfl⟩:=hcs;simp only [if_true] at hmm;subst hmm;have each:∀ i,i<m->∃ y:Wc.In × List Int,(∃ p mm k,(∀ j u,(zAD y.1 (.slice p mm k))[j]? = some u->W.cell? (a.add (i * 23+j))=some u)/\RdZ W (.slice p mm k) y.2/\(p=none->k=0))/\Wt.FitV y.1.v/\y.1.v.t.size ∈ (D i).weights prog 56/\(y.2.length=0 \/ ∃ n ∈ (D i).weights prog 56,y.2.length<=n):=by
   intro i hi;obtain ⟨cs',h1,h2⟩:=hall i hi;rw [zR7] at h1;obtain ⟨_,hlen,hcell⟩:=World.cells?_some h1;obtain ⟨y,p,mm,k,tl,rfl,hz,hnp,hf,ht,hn⟩:=zHB underlying56 rfl rfl rfl rfl rfl rfl rfl rfl rfl rfl rfl rfl rfl rfl rfl rfl hlen h2;refine ⟨(y,tl),⟨p,mm,k,λj u hu=>?_,hz,hnp⟩,hf,ht,hn⟩;have hj:j<23:=by
    have:=(List.getElem?_eq_some_iff.1 hu).1;rw [hlen] at this;exact this
   have:=hcell j hj;rw [add_add] at this;rw [this,hu]
  obtain ⟨G,hG⟩:=zLV each;have hlen:((List.range len).map G).length=len:=by simp
  have hsp:0<len->∃ b off,a=⟨b,off,none⟩:=by
   intro h0;obtain ⟨⟨p,mm,k,h1,_⟩,_⟩:=hG 0 (by omega);have h1:=h1 0 _ rfl;rw [Nat.zero_mul,Nat.zero_add] at h1;have s1:(a.add 0).spot=none:=World.cell?_spot h1;obtain ⟨b,off,spot⟩:=a;obtain rfl:spot=none:=s1;exact ⟨b,off,rfl⟩
  refine ⟨(List.range len).map G,⟨some a,m,by rw [hlen],λi hi=>?_⟩,λx hx=>?_,λts0 ds j hz h1 h2=>?_⟩
  ·rw [hlen] at hi;obtain ⟨b,off,rfl⟩:=hsp (by omega);have eG:((List.range len).map G)[i]'(by rw [hlen];exact hi)=G i:=by simp
   rw [eG];obtain ⟨⟨p,mm,k,q1,q2,q3⟩,_⟩:=hG i (by omega);refine ⟨b,off,p,mm,k,rfl,λj u hu=>?_,q2,q3⟩;have:=q1 j u hu;rw [add_plain] at this;rw [Nat.add_assoc];exact this
  ·obtain ⟨i,hi,rfl⟩:=List.mem_map.1 hx;exact (hG i (by have:=List.mem_range.1 hi;omega)).2.1
  ·have h3:ds[j]? = some (.slice ((List.range len).map D) ((List.range (m - len)).map λj=>D (len+j))):=by rw [h2];exact congrArg some (congrArg Prod.fst hx)
   have q:=sized_slice hz h1 h3 underlying36;rw [zQR] at q;simp only [List.length_map,List.length_range] at q;refine ⟨by rw [hlen];omega,λx hx=>?_⟩;obtain ⟨i,hi,rfl⟩:=List.mem_map.1 hx;have hi:=List.mem_range.1 hi;obtain ⟨_,_,ht,hn⟩:=hG i (by omega);have key:∀ n ∈ (D i).weights prog 56,n<=reachBytes:=by
    intro n hn;have hm:n ∈ (DataW.slice ((List.range len).map D) ((List.range (m - len)).map λj=>D (len+j)):DataW H).weights prog 36:=by
     simp only [DataW.weights,underlying36,List.mem_cons,List.mem_append];exact Or.inr (Or.inl (zE7 _ _ (D i) (List.mem_map.2 ⟨i,by simpa using hi,rfl⟩) _ hn))
    have:=List.all_eq_true.1 hz _ (DataW.weights_mem_each h1 h3 _ hm);simpa using this
   refine ⟨?_,key _ ht⟩;rcases hn with hn | ⟨n,hn,hle⟩
   ·rw [hn];exact Nat.zero_le _
   ·exact Nat.le_trans hle (key n hn)
end
