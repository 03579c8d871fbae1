/- KRtB, KRtC, KRtD, KCopN, KCopS, KFl2. -/
import Derived.Test.YtpkdhcijcndgnaaGreatDoorQ38
import Derived.Laws.AppendOwnNone
import Derived.BigFrame
set_option maxHeartbeats 400000
set_option maxRecDepth 100000
set_option linter.unusedVariables false
namespace Go.Proofs.YtpkdhcijcndgnaaGreatDoor.Wf
open Go.Proofs.YtpkdhcijcndgnaaGreatDoor Wc
section
variable {α:Type} {rg:In->List Int->Bool} {n:Nat} {f:α->Nat->List I}
theorem zCT {F:List Int}:∀ (ks:List α) (a:Nat) (v:Int),0<=v->(∀ k ∈ ks,∀ a v,0<=v->Runs rg n a (f k a) (v,F) (v+1,F))->Runs rg n a (zA0 f ks a) (v,F) (v+ks.length,F)
 | [],a,v,hv,h=>by
  simp only [zA0,List.length_nil];rw [show v+((0:Nat):Int)=v by omega];exact Runs.refl a _
 | k::r,a,v,hv,h=>by
  simp only [zA0,List.length_cons];have p:=h k (List.mem_cons_self ..) a v hv;have q:=zCT r (a+(f k a).length) (v+1) (by omega) (λx hx=>h x (List.mem_cons_of_mem _ hx));rw [show v+((r.length+1:Nat):Int)=v+1+(r.length:Int) by omega];exact p.app q
theorem zDN {F:List Int}:∀ (ks:List α) (a:Nat) (v:Int),0<=v->(∀ k ∈ ks,∀ a v,0<=v->Runs rg n a (f k a) (v,F) (v,F))->Runs rg n a (zA0 f ks a) (v,F) (v,F)
 | [],a,v,hv,h=>Runs.refl a _
 | k::r,a,v,hv,h=>by
  simp only [zA0];exact (h k (List.mem_cons_self ..) a v hv).app (zDN r _ v hv (λx hx=>h x (List.mem_cons_of_mem _ hx)))
theorem zCy (e:Int):∀ (r:List α) (a:Nat),(chB f e r a).length=(chB f 0 r a).length
 | [],_=>rfl
 | k::r,a=>by simp only [chB,List.length_cons,List.length_append,zCy e r]
theorem zIN (hp:∀ (r:List α),(∀ k ∈ r,∀ a,0<(f k a).length)->True):∀ (r:List α) (a:Nat),(∀ k ∈ r,∀ a,0<(f k a).length)->∀ t ∈ chT f r a,(a:Int)<t/\t<((a+(chB f 0 r a).length:Nat):Int)
 | [],a,_,t,ht=>by cases ht
 | k::r,a,h,t,ht=>by
  simp only [chT] at ht;simp only [chB,List.length_cons,List.length_append];have h0:=h k (List.mem_cons_self ..) (a+1);rcases List.mem_cons.1 ht with rfl | ht
  ·omega
  ·have:=zIN hp r _ (λx hx=>h x (List.mem_cons_of_mem _ hx)) t ht;omega
theorem zKN:∀ (r:List α) (a:Nat),(chT f r a).length=r.length
 | [],_=>rfl
 | k::r,a=>by simp only [chT,List.length_cons,zKN r]
theorem zGy {F:List Int} {v:Int} (hv:0<=v) (e:Nat) (hj:rg (ins 13 (e:Nat) 0).1 []=true):∀ (r:List α) (a:Nat) (S:RS),(∀ k ∈ r,∀ a,0<(f k a).length)->(∀ k ∈ r,∀ a,Runs rg n a (f k a) (v,F) (v+1,F))->S.length=n->e=a+(chB f 0 r a).length->e<n->(0<r.length->S.getD a none=some (v+1,F))->S.getD e none=some (v+1,F)->(∀ t ∈ chT f r a,S.getD t.toNat none=some (v,F))->(∀ j,a<j->j<e->(∀ t ∈ chT f r a,t.toNat ≠ j)->S.getD j none=none) ->
  ∃ S',zE4 rg n a (chB f (e:Nat) r a) S=some S'/\S'.length=n/\S'.getD e none=some (v+1,F)/\∀ j,e<j->S'.getD j none=S.getD j none
 | [],a,S,_,_,hl,he,hn,hs,hse,ht,hin=>⟨S,rfl,hl,hse,λ_ _=>rfl⟩
 | k::r,a,S,hpos,hrun,hl,he,hn,hs,hse,ht,hin=>by
  have hp0:=hpos k (List.mem_cons_self ..) (a+1);have hposr:∀ x ∈ r,∀ a,0<(f x a).length:=λx hx=>hpos x (List.mem_cons_of_mem _ hx)
  have hrunr:∀ x ∈ r,∀ a,Runs rg n a (f x a) (v,F) (v+1,F):=λx hx=>hrun x (List.mem_cons_of_mem _ hx)
  have p:=hrun k (List.mem_cons_self ..) (a+1);simp only [chB,List.length_cons,List.length_append] at he;simp only [chT] at ht hin;obtain ⟨Y,hY⟩:∃ Y,f k (a+1)=Y:=⟨_,rfl⟩
  rw [hY] at hp0 p he ht hin;obtain ⟨b,hb⟩:∃ b,a+1+Y.length=b:=⟨_,rfl⟩
  rw [hb] at he ht hin;have hct:=zIN (f:=f) (λ_ _=>trivial) r b hposr;have t3:((e:Nat):Int).toNat=e:=by omega
  have t1:(((a+1:Nat):Nat):Int).toNat=a+1:=by omega
  have hbe:b<=e:=by omega
  obtain ⟨S1,e1,l1,s1,k1⟩:=zDA (rg:=rg) (n:=n) (a:=a) (x:=ins 13 (e:Nat) 0) (v:=v+1) (f:=F) (λ_=>(v+1,F)) (p:=[((e:Int),(v+1,F))]) hl hj (hs (by simp)) (by
    unfold zBE;show decide _=true
    simp [ins,nds];omega) (by
    simp [ins,ahd,zBr,nds]) (λy hy=>by
    simp only [List.mem_cons,List.not_mem_nil,or_false] at hy;subst hy;simp only;omega) (λy hy=>by
    simp only [List.mem_cons,List.not_mem_nil,or_false] at hy;subst hy;rfl) (λy hy=>by
    simp only [List.mem_cons,List.not_mem_nil,or_false] at hy;subst hy;simp only [t3];exact Or.inr hse)
  have s1e:=s1 ((e:Int),(v+1,F)) (by simp);simp only [t3] at s1e;have k1':∀ k,k ≠ e->S1.getD k none=S.getD k none:=λk h1=>k1 k (λy hy=>by
   simp only [List.mem_cons,List.not_mem_nil,or_false] at hy;subst hy;simp only [t3];omega)
  have hta:=ht _ (List.mem_cons_self ..);rw [t1] at hta;have hfree:∀ j,a+1<j->j<=b->j<e->S.getD j none=none:=λj h1 h2 h3=>hin j (by omega) h3 (λt hm=>by
   rcases List.mem_cons.1 hm with rfl | hm
   ·omega
   ·have:=hct t hm;omega)
  obtain ⟨S2,e2,l2,s2,k2⟩:=p.run S1 l1 (by omega) (by rw [k1' _ (by omega)];exact hta) (λj h1 h2=>by rw [k1' j (by omega)];exact hfree j h1 (by omega) (by omega)) (λ_=>by
   rw [hb];by_cases q:b=e
   ·rw [q];exact Or.inr s1e
   ·rw [k1' b q];exact Or.inl (hfree b (by omega) (Nat.le_refl _) (by omega)))
  rw [hb] at s2 k2;obtain ⟨S3,e3,l3,s3,k3⟩:=zGy hv e hj r b S2 hposr hrunr l2 (by omega) hn (λ_=>s2) (by
    by_cases q:b=e
    ·rw [<-q];exact s2
    ·rw [k2 e (by omega)];exact s1e) (λt hm=>by
    have:=hct t hm;rw [k2 _ (by omega),k1' _ (by omega)];exact ht t (List.mem_cons_of_mem _ hm)) (λj h1 h2 h3=>by
    rw [k2 j (by omega),k1' j (by omega)];exact hin j (by omega) h2 (λt hm=>by
     rcases List.mem_cons.1 hm with rfl | hm
     ·omega
     ·exact h3 t hm))
  refine ⟨S3,?_,l3,s3,λj hj=>?_⟩
  ·simp only [chB,zE4];rw [e1];simp only [Option.bind_some];rw [zBt,hY,e2,hb];exact e3
  ·rw [k3 j hj,k2 j (by omega),k1' j (by omega)]
theorem zIs {F:List Int} {v:Int} (hv:0<=v) (hj:∀ e:Int,rg (ins 13 e 0).1 []=true) (hc:∀ (b:Int) (tl:List Int),1<=tl.length->tl.length<=30->rg ⟨15,0,b,v0I,c0I,a0I,a0I⟩ tl=true) (l:List α) (hl1:1<=l.length) (hl2:l.length<=30) (a:Nat) (hpos:∀ k ∈ l,∀ a,0<(f k a).length) (hrun:∀ k ∈ l,∀ a,Runs rg n a (f k a) (v,F) (v+1,F)):Runs rg n a (zBX f l a) (v+1,F) (v+1,F):=by
 match l,hl1 with
 | k::r,_ =>
  have hp0:=hpos k (List.mem_cons_self ..) (a+1);have p:=hrun k (List.mem_cons_self ..) (a+1);have hposr:∀ x ∈ r,∀ a,0<(f x a).length:=λx hx=>hpos x (List.mem_cons_of_mem _ hx)
  have hrunr:∀ x ∈ r,∀ a,Runs rg n a (f x a) (v,F) (v+1,F):=λx hx=>hrun x (List.mem_cons_of_mem _ hx)
  have hlr:r.length+1<=30:=by simpa using hl2
  unfold zBX;simp only;obtain ⟨Y,hY⟩:∃ Y,f k (a+1)=Y:=⟨_,rfl⟩
  rw [hY] at hp0 p ⊢;obtain ⟨b,hb⟩:∃ b,a+1+Y.length=b:=⟨_,rfl⟩
  simp only [hb];obtain ⟨e,he⟩:∃ e,b+(chB f 0 r b).length=e:=⟨_,rfl⟩
  simp only [he];have hct:=zIN (f:=f) (λ_ _=>trivial) r b hposr;have htl:=zKN (f:=f) r b;have hBl:=zCy (f:=f) (e:Int) r b;refine ⟨λq=>(by simp at q),λS hl hn hS hin hend=>?_⟩;have hC:a+((((⟨15,0,(e:Nat),v0I,c0I,a0I,a0I⟩:In),((a+1:Nat):Int)::chT f r b):I)::(Y++chB f e r b)).length=e:=by
   simp only [List.length_cons,List.length_append];omega
  rw [hC] at hn hin hend;have t3:((e:Nat):Int).toNat=e:=by omega
  have t1:(((a+1:Nat):Nat):Int).toNat=a+1:=by omega
  obtain ⟨T,hT⟩:∃ T,((a+1:Nat):Int)::chT f r b=T:=⟨_,rfl⟩
  have hTm:∀ t ∈ T,(a:Int)<t/\t<(e:Int):=λt hm=>by
   rw [<-hT] at hm;rcases List.mem_cons.1 hm with rfl | hm
   ·omega
   ·have:=hct t hm;omega
  have hTl:1<=T.length/\T.length<=30:=by
   rw [<-hT];simp only [List.length_cons];omega
  obtain ⟨S1,e1,l1,s1,k1⟩:=zDA (rg:=rg) (n:=n) (a:=a) (x:=(⟨15,0,(e:Nat),v0I,c0I,a0I,a0I⟩,T)) (v:=v+1) (f:=F) (λk=>if k=e then (v+1,F) else (v,F)) (p:=T.map (λj=>(j,(v,F)))++[((e:Int),(v+1,F))]) hl (hc _ _ hTl.1 hTl.2) hS (by
    unfold zBE;simp [nds];omega) (by
    simp [ahd,zBr,nds];intro t _;omega) (λy hy=>by
    rcases List.mem_append.1 hy with hy | hy
    ·obtain ⟨t,ht,rfl⟩:=List.mem_map.1 hy;have:=hTm t ht;simp only;omega
    ·simp only [List.mem_cons,List.not_mem_nil,or_false] at hy;subst hy;simp only;omega) (λy hy=>by
    rcases List.mem_append.1 hy with hy | hy
    ·obtain ⟨t,ht,rfl⟩:=List.mem_map.1 hy;have:=hTm t ht;simp only;rw [if_neg (by omega)]
    ·simp only [List.mem_cons,List.not_mem_nil,or_false] at hy;subst hy;simp only [t3,if_true]) (λy hy=>by
    rcases List.mem_append.1 hy with hy | hy
    ·obtain ⟨t,ht,rfl⟩:=List.mem_map.1 hy;have:=hTm t ht;simp only;exact Or.inl (hin _ (by omega) (by omega))
    ·simp only [List.mem_cons,List.not_mem_nil,or_false] at hy;subst hy;simp only [t3];exact hend (by simp))
  have s1e:=s1 ((e:Int),(v+1,F)) (by simp);simp only [t3] at s1e;have s1t:∀ t ∈ T,S1.getD t.toNat none=some (v,F):=λt hm=>s1 (t,(v,F)) (List.mem_append_left _ (List.mem_map.2 ⟨t,hm,rfl⟩))
  have k1':∀ k,k ≠ e->(∀ t ∈ T,t.toNat ≠ k)->S1.getD k none=S.getD k none:=λk h1 h2=>k1 k (λy hy=>by
   rcases List.mem_append.1 hy with hy | hy
   ·obtain ⟨t,ht,rfl⟩:=List.mem_map.1 hy;exact h2 t ht
   ·simp only [List.mem_cons,List.not_mem_nil,or_false] at hy;subst hy;simp only [t3];omega)
  have hnt:∀ j,a+1<j->j<=b->∀ t ∈ T,t.toNat ≠ j:=λj h1 h2 t hm=>by
   rw [<-hT] at hm;rcases List.mem_cons.1 hm with rfl | hm
   ·omega
   ·have:=hct t hm;omega
  have hbe:b<=e:=by omega
  have s1a:=s1t ((a+1:Nat):Int) (by rw [<-hT];exact List.mem_cons_self ..);rw [t1] at s1a;obtain ⟨S2,e2,l2,s2,k2⟩:=p.run S1 l1 (by omega) s1a (λj h1 h2=>by
    rw [k1' j (by omega) (hnt j h1 (by omega))];exact hin j (by omega) (by omega)) (λ_=>by
    rw [hb];by_cases q:b=e
    ·rw [q];exact Or.inr s1e
    ·rw [k1' b q (hnt b (by omega) (Nat.le_refl _))];exact Or.inl (hin _ (by omega) (by omega)))
  rw [hb] at s2 k2;obtain ⟨S3,e3,l3,s3,k3⟩:=zGy hv e (hj _) r b S2 hposr hrunr l2 he.symm hn (λ_=>s2) (by
    by_cases q:b=e
    ·rw [<-q];exact s2
    ·rw [k2 e (by omega)];exact s1e) (λt hm=>by
    have:=hct t hm;rw [k2 _ (by omega)];exact s1t t (by rw [<-hT];exact List.mem_cons_of_mem _ hm)) (λj h1 h2 h3=>by
    rw [k2 j (by omega),k1' j (by omega) (λt hm=>by
     rw [<-hT] at hm;rcases List.mem_cons.1 hm with rfl | hm
     ·omega
     ·exact h3 t hm)]
    exact hin j (by omega) h2)
  refine ⟨S3,?_,l3,?_,λj hj=>?_⟩
  ·simp only [zE4];rw [hT,e1];simp only [Option.bind_some];rw [zBt,e2,hb];exact e3
  ·rw [hC];exact s3
  ·rw [hC] at hj;rw [k3 j hj,k2 j (by omega),k1' j (by omega) (λt hm=>by have:=hTm t hm;omega)]
end
end Go.Proofs.YtpkdhcijcndgnaaGreatDoor.Wf
namespace Go.Proofs.YtpkdhcijcndgnaaGreatDoor
open Tryz
open Go.RowKit Wf Wc
variable {o own b k:Int} {w w':World} {B n:Nat} {v:Value} {x:Wpl.Ar} {nm:List ByteArray} {L:List Wt.Nd} {a:Act} {K:Act->World->Prop} {Q:Exit->Act->World->Prop} {xs:List Value}
theorem zA9 (x:Wc.In):smI x x=true:=by
 have h1:zNO x.v x.v=true:=(zCl _ _).2 rfl;have h2:zNS x.ce x.ce=true:=(zKw _ _).2 rfl;have h3:zCJ x.ar x.ar=true:=(zCk _ _).2 rfl;have h4:zCJ x.pr x.pr=true:=(zCk _ _).2 rfl;simp [smI,h1,h2,h3,h4]
theorem zTi {v:Wt.Vl} (h:Wv.right v.k v.n v.d v.t v.b v.f=true):rgt (zB5 v).1 (zB5 v).2=true:=by
 rw [zMR rfl];simp only [zB5] at *;rw [h,zA9];rfl
theorem zT9 {c:Wpl.Cl} (h:Wpl.rightC c.s c.r c.c=true):rgt (zFL c).1 (zFL c).2=true:=by
 rw [zLO rfl];simp only [zFL] at *;rw [h,zA9];rfl
theorem zT8 (h:1<=o/\o<=3):rgt (ins 3 o 0).1 (ins 3 o 0).2=true:=by
 rw [zLb rfl];simp only [ins] at *;rw [zA9];simp [h]
theorem zTa (h:Wt.isBin o=true):rgt (ins 4 o 0).1 (ins 4 o 0).2=true:=by
 rw [zKp rfl];simp only [ins] at *;rw [zA9];simp [h]
theorem zT2 (h:apl o b=true):rgt (ins 5 o b).1 (ins 5 o b).2=true:=by
 rw [zI2 rfl];simp only [ins] at *;rw [zA9];simp [h]
theorem zTl (h:fld o=true):rgt (ins 6 o 0).1 (ins 6 o 0).2=true:=by
 rw [zME rfl];simp only [ins] at *;rw [zA9];simp [h]
theorem zTb:rgt (ins 7 0 0).1 (ins 7 0 0).2=true:=by
 rw [zM4 rfl];simp only [ins] at *;rw [zA9];simp
theorem zTd (h:Wpl.rightA x.s x.t x.l x.b x.r=true):rgt (zAw 8 0 x a0I).1 (zAw 8 0 x a0I).2=true:=by
 rw [zLa rfl];simp only [zAw] at *;rw [zA9];simp [h]
theorem zTU {y:Wpl.Ar} (h:Wpl.rightA x.s x.t x.l x.b x.r=true) (h2:Wpl.rightA y.s y.t y.l y.b y.r=true) (h3:shp x y=true):rgt (zAw 9 0 x y).1 (zAw 9 0 x y).2=true:=by
 rw [zLo rfl];simp only [zAw] at *;rw [zA9];simp [h,h2,h3]
theorem zSh:rgt (ins 10 0 0).1 (ins 10 0 0).2=true:=by
 rw [zGp rfl];simp only [ins] at *;rw [zA9];simp
theorem zS2 (h:Wpl.rightA x.s x.t x.l x.b x.r=true) (hb:b=1 \/ b=2):rgt (zAw 11 b x a0I).1 (zAw 11 b x a0I).2=true:=by
 rw [zEX rfl];simp only [zAw] at *;rw [zA9];simp [h,hb]
theorem zRh (a b:Int):rgt (ins 12 a b).1 (ins 12 a b).2=true:=by
 rw [zGk rfl];simp only [ins] at *;rw [zA9];simp
theorem zQc (a:Int):rgt (ins 13 a 0).1 (ins 13 a 0).2=true:=by
 rw [zHJ rfl];simp only [ins] at *;rw [zA9];simp
theorem zRt (a:Int):rgt (ins 14 a 0).1 (ins 14 a 0).2=true:=by
 rw [zG7 rfl];simp only [ins] at *;rw [zA9];simp
theorem zSa (b:Int) (tl:List Int) (h1:1<=tl.length) (h2:tl.length<=30):rgt ⟨15,0,b,v0I,c0I,a0I,a0I⟩ tl=true:=by
 rw [zJg rfl];simp only;rw [zA9];simp;omega
theorem zSd:rgt (ins 16 0 0).1 (ins 16 0 0).2=true:=by
 rw [zGl rfl];simp only [ins] at *;rw [zA9];simp
theorem zKt:(List.range 64).all (λk=>!zAz ((k:Nat):Int) || (let s:=zAN ((k:Nat):Int);(decide (0<=s.l)) && (!(s.c == 1) || (fld ((k:Nat):Int) && !pairs ((k:Nat):Int))) && (!(s.c == 3) || decide (s.m<=30))))=true:=by kernel_rfl
theorem zM8 (s:ByteArray) (h:zAz ((zAc s:Nat):Int)=true) (hc:(zAN ((zAc s:Nat):Int)).c=1):fld ((zAc s:Nat):Int)=true/\pairs ((zAc s:Nat):Int)=false:=by
 have h1:=List.all_eq_true.1 zKt (zAc s) (List.mem_range.2 (by have:=zFz s;omega));rw [h] at h1;simp only [hc] at h1;simp at h1;exact ⟨h1.2.1,h1.2.2⟩
theorem zJU (h:(opK o == k)=true) (hk:k ≠ 0):∃ m t,(o,m,t) ∈ Wt.opsT/\(if t<5 then 5 else 4)=k:=by
 unfold opK Wt.opOf at h;cases e:Wt.opsT.find? (λx=>x.1 == o) with
 | none=>rw [e] at h;simp at h;omega
 | some x =>
  obtain ⟨o',m,t⟩:=x;rw [e] at h;simp only [beq_iff_eq] at h;have h1:=List.find?_some e;have h2:=List.mem_of_find?_eq_some e;simp at h1;subst h1;exact ⟨m,t,h2,h⟩
theorem zT5 (h:(opK o == 4)=true):1<=o/\o<=3:=by
 obtain ⟨m,t,h1,h2⟩:=zJU h (by omega);simp only [Wt.opsT,List.mem_cons,List.not_mem_nil,or_false,Prod.mk.injEq] at h1;rcases h1 with q | q | q | q | q | q | q | q | q | q | q | q | q | q | q <;> (obtain ⟨q1,q2,q3⟩:=q;subst q3;first | (simp at h2;done) | omega)
theorem zT6 (h:(opK o == 5)=true):Wt.isBin o=true:=by
 obtain ⟨m,t,h1,h2⟩:=zJU h (by omega);simp only [Wt.opsT,List.mem_cons,List.not_mem_nil,or_false,Prod.mk.injEq] at h1;rcases h1 with q | q | q | q | q | q | q | q | q | q | q | q | q | q | q <;> (obtain ⟨q1,q2,q3⟩:=q;subst q3;first | (simp at h2;done) | (subst q1;rfl))
theorem zNE (s:ByteArray):∀ (l:List ByteArray) (i:Nat),idx s l i<((i+l.length:Nat):Int)
 | [],i=>by simp only [idx];omega
 | t::r,i=>by
  unfold idx;split
  ·simp only [List.length_cons];omega
  ·have:=zNE s r (i+1);simp only [List.length_cons];omega
theorem zND (ho:0<=own/\own<16) (hn:nm.length<=16) (s:ByteArray):shN own nm s<16:=by
 unfold shN;split
 ·omega
 ·have:=zNE s nm 0;omega
theorem zOm {a:Wt.Rf} (h:Wt.rfOk a=true):0<=a.r/\a.r<65536/\0<=a.c/\a.c<256:=by
 unfold Wt.rfOk Wt.inR at h;simp only [Bool.and_eq_true,decide_eq_true_eq] at h;omega
theorem zHh (ho:0<=own/\own<16) (hn:nm.length<=16) {x:Wt.Nd} (hx:Wt.right x=true) (hk:x.k=3) (hs:¬ shN own nm x.a.s<0):Wpl.rightA (zA5 own nm x).s (zA5 own nm x).t (zA5 own nm x).l (zA5 own nm x).b (zA5 own nm x).r=true:=by
 unfold Wt.right at hx;rw [if_neg (by omega),if_neg (by omega),if_pos hk] at hx;simp only [Bool.and_eq_true] at hx;have h1:=zOm hx.1.1.1;have h2:=zOm hx.1.1.2;have h3:=zND ho hn x.a.s;rw [Wpl.rightA_iff];simp only [zA5,zCN];omega
theorem zDG (h1:1<=k) (h2:k<=65536):Wv.right (zDX k).k (zDX k).n (zDX k).d (zDX k).t (zDX k).b (zDX k).f=true:=by
 unfold Wv.right;simp [zDX,Wnum.rightB];omega
theorem zLQ {x:Wt.Nd} (hx:Wt.right x=true) (hk:x.k=1):Wv.right x.v.k x.v.n x.v.d x.v.t x.v.b x.v.f=true:=by
 unfold Wt.right at hx;rw [if_pos hk] at hx;simp only [Bool.and_eq_true] at hx;have h:=hx.1;unfold Wt.vlOk at h;split at h
 ·cases h
 ·split at h
  ·simp only [Bool.and_eq_true] at h;exact h.1.1
  ·exact h
section
variable {n:Nat}
theorem zLY {a:Nat} {v:Int} {F:List Int} (hv:0<=v) {u:Wt.Vl} (h:Wv.right u.k u.n u.d u.t u.b u.f=true):Runs rgt n a [zB5 u] (v,F) (v+1,F) :=
 Runs.one (zTi h) (by simp [zB5]) (by simp [zBE,zB5,nds];omega) (by simp [zB5,nds,zBr])
theorem zRg {a:Nat} {v:Int} {F:List Int} (hv:0<=v) {c:Wpl.Cl} (h:Wpl.rightC c.s c.r c.c=true):Runs rgt n a [zFL c] (v,F) (v+1,F) :=
 Runs.one (zT9 h) (by simp [zFL]) (by simp [zBE,zFL,nds];omega) (by simp [zFL,nds,zBr])
theorem zRu {a:Nat} {v:Int} {F:List Int} (hv:0<=v) {o:Int} (h:1<=o/\o<=3):Runs rgt n a [ins 3 o 0] (v+1,F) (v+1,F) :=
 Runs.one (zT8 h) (by simp [ins]) (by simp [zBE,ins,nds];omega) (by simp [ins,nds,zBr])
theorem zSU {a:Nat} {v:Int} {F:List Int} (hv:0<=v) {o:Int} (h:Wt.isBin o=true):Runs rgt n a [ins 4 o 0] (v+2,F) (v+1,F) :=
 Runs.one (zTa h) (by simp [ins]) (by simp [zBE,ins,nds];omega) (by simp [ins,nds,zBr];omega)
theorem zSg {a:Nat} {v:Int} {F:List Int} (hv:0<=v) {o b:Int} (h:apl o b=true):Runs rgt n a [ins 5 o b] (v+b,F) (v+1,F) :=
 Runs.one (zT2 h) (by simp [ins]) (by simp [zBE,ins,nds];omega) (by simp [ins,nds,zBr];omega)
theorem zQ3 {a:Nat} {v:Int} {F:List Int} (hv:0<=v) {o:Int} (h:fld o=true):Runs rgt n a [ins 6 o 0] (v,F) (v,F++[o]) :=
 Runs.one (zTl h) (by simp [ins]) (by simp [zBE,ins,nds];omega) (by simp [ins,nds,zBr])
theorem zSJ {a:Nat} {v:Int} {F:List Int} (hv:0<=v) {o:Int}:Runs rgt n a [ins 7 0 0] (v+1,F++[o]) (v,F++[o]) :=
 Runs.one zTb (by simp [ins]) (by simp [zBE,ins,nds];omega) (by simp [ins,nds,zBr];omega)
theorem zRZ {a:Nat} {v:Int} {F:List Int} (hv:0<=v) {o:Int} (hp:pairs o=false) {x:Wpl.Ar} (h:Wpl.rightA x.s x.t x.l x.b x.r=true):Runs rgt n a [zAw 8 0 x a0I] (v,F++[o]) (v,F++[o]) :=
 Runs.one (zTd h) (by simp [zAw]) (by simp [zBE,zAw,nds,hp];omega) (by simp [zAw,nds,zBr])
theorem zRk {a:Nat} {v:Int} {F:List Int} (hv:0<=v) {o:Int} (hp:pairs o=true) {x y:Wpl.Ar} (h:Wpl.rightA x.s x.t x.l x.b x.r=true) (h2:Wpl.rightA y.s y.t y.l y.b y.r=true) (h3:shp x y=true):Runs rgt n a [zAw 9 0 x y] (v,F++[o]) (v,F++[o]) :=
 Runs.one (zTU h h2 h3) (by simp [zAw]) (by simp [zBE,zAw,nds,hp];omega) (by simp [zAw,nds,zBr])
theorem zJm {a:Nat} {v:Int} {F:List Int} (hv:0<=v) {o:Int}:Runs rgt n a [ins 10 0 0] (v,F++[o]) (v+1,F) :=
 Runs.one zSh (by simp [ins]) (by simp [zBE,ins,nds];omega) (by simp [ins,nds,zBr])
theorem zQr {a:Nat} {v:Int} {F:List Int} (hv:0<=v) {b:Int} (hb:b=1 \/ b=2) {x:Wpl.Ar} (h:Wpl.rightA x.s x.t x.l x.b x.r=true):Runs rgt n a [zAw 11 b x a0I] (v+b,F) (v+1,F) :=
 Runs.one (zS2 h hb) (by simp [zAw]) (by simp [zBE,zAw,nds];omega) (by simp [zAw,nds,zBr];omega)
end
open Go.RowKit Wf Wc
section
variable {n:Nat} {own:Int} {nm:List ByteArray}
theorem zE0 {α:Type} {f:α->Nat->List I} {F:List Int} {o:Int} {k:α} (h:∀ a v,0<=v->Runs rgt n a (f k a) (v,F++[o]) (v+1,F++[o])) (a:Nat) (v:Int) (hv:0<=v):Runs rgt n a (zAd f k a) (v,F++[o]) (v,F++[o]) :=
 (h a v hv).app (zSJ hv)
theorem zDS {α:Type} {h:α->Wt.Nd} {ks:List α} {y:Wt.Nd} (hy:y ∈ zAv (ks.map h)):∃ k ∈ ks,h k=y/\isA y=true:=by
 unfold zAv at hy;obtain ⟨h1,h2⟩:=List.mem_filter.1 hy;obtain ⟨k,hk,e⟩:=List.mem_map.1 h1;exact ⟨k,hk,e,h2⟩
theorem zJe {α:Type} {l:List α} {d:α} (h:0<l.length):l.headD d ∈ l:=by
 cases l with
 | nil=>cases h
 | cons x r=>simp
theorem zEB {α:Type} {l:List α} {d:α} (h:0<l.length):l.getLastD d ∈ l:=by
 cases l with
 | nil=>cases h
 | cons x r =>
  rw [List.getLastD_eq_getLast?,List.getLast?_eq_some_getLast (by simp)];simp
theorem zMX {α:Type} {h:α->Wt.Nd} {ks:List α} (hl:2<=ks.length) (hm:ks.length<=3) (ht:zAi [97,118] (ks.map h) 0=true):(ks.filter (λk=>!isA (h k))).length=1 \/ (ks.filter (λk=>!isA (h k))).length=2:=by
 match ks,hl,hm with
 | [x,y],_,_ =>
  simp [zAi] at ht;simp [ht.1,ht.2]
 | [x,y,z],_,_ =>
  simp [zAi] at ht;simp [ht.1,ht.2.1,ht.2.2]
end
theorem zG8 {own:Int} {nm:List ByteArray} (ho:0<=own/\own<16) (hn:nm.length<=16) (N:Nat):∀ (n:Nat) (t:Tr n) (a:Nat) (v:Int) (F:List Int),Wr own nm n t->0<=v->Runs rgt N a (cod own nm n t a) (v,F) (v+1,F)
 | 0,t,_,_,_,_,_=>Empty.elim t
 | n+1,t,a,v,F,hw,hv=>by
  obtain ⟨x,ks⟩:Br (Tr n):=t;obtain ⟨hF,hR,hA⟩:=hw;have hx:Wt.right x=true:=hF.1;have hp:Wt.parts x=(ks.length:Int):=hF.2.1;have hks:∀ k ∈ ks,zCU n k:=hF.2.2;have hA':isA x=false:=hA;have hzz:∀ a ∈ zCD own nm x (ks.map (hd n))::ks.map (zB1 own nm n),a=0:=zB2 hR;have hrn:zCD own nm x (ks.map (hd n))=0:=hzz _ (List.mem_cons_self ..);have hrk:∀ t ∈ ks,zB1 own nm n t=0:=λt ht=>hzz _ (List.mem_cons_of_mem _ (List.mem_map.2 ⟨t,ht,rfl⟩))
  have hpos:=zFa own nm n;have ih:=zG8 ho hn N n;have hwr:∀ k ∈ ks,isA (hd n k)=false->Wr own nm n k:=λk hk q=>⟨hks k hk,hrk k hk,q⟩
  show Runs rgt N a (zAo own nm (hd n) (cod own nm n) x ks a) (v,F) (v+1,F)
  unfold zAo;rcases zFy hx with h | h | h | h | h | h
  ·rw [if_pos h];exact zLY hv (zLQ hx h)
  ·rw [if_neg (by omega),if_pos h];unfold zCD at hrn;rw [if_pos (Or.inl h)] at hrn;have hs:¬ shN own nm x.a.s<0:=λq=>by rw [if_pos q] at hrn;omega
   refine zRg hv ?_;have hx2:=hx;unfold Wt.right at hx2;rw [if_neg (by omega),if_pos h] at hx2;simp only [Bool.and_eq_true] at hx2;have h1:=zOm hx2.1;have h3:=zND ho hn x.a.s;rw [Wpl.rightC_iff];simp only [zEK];omega
  ·simp [isA,h] at hA'
  ·rw [if_neg (by omega),if_neg (by omega),if_pos h];unfold zCD at hrn;rw [if_neg (by omega),if_pos (Or.inl h)] at hrn;have hna:∀ k ∈ ks,isA (hd n k)=false:=λk hk=>by
    cases q:isA (hd n k) with
    | false=>rfl
    | true =>
     rw [if_pos (List.any_eq_true.2 ⟨hd n k,List.mem_map.2 ⟨k,hk,rfl⟩,q⟩)] at hrn;omega
   have hl:ks.length=1:=by
    unfold Wt.parts at hp;rw [if_pos h] at hp;omega
   have hx2:=hx;unfold Wt.right at hx2;rw [if_neg (by omega),if_neg (by omega),if_neg (by omega),if_pos h] at hx2;simp only [Bool.and_eq_true] at hx2;have q:=zCT (rg:=rgt) (n:=N) (f:=cod own nm n) (F:=F) ks a v hv (λk hk a v hv=>ih k a v F (hwr k hk (hna k hk)) hv);rw [hl] at q;exact q.app (zRu hv (zT5 hx2.1))
  ·rw [if_neg (by omega),if_neg (by omega),if_neg (by omega),if_pos h];unfold zCD at hrn;rw [if_neg (by omega),if_pos (Or.inr h)] at hrn;have hna:∀ k ∈ ks,isA (hd n k)=false:=λk hk=>by
    cases q:isA (hd n k) with
    | false=>rfl
    | true =>
     rw [if_pos (List.any_eq_true.2 ⟨hd n k,List.mem_map.2 ⟨k,hk,rfl⟩,q⟩)] at hrn;omega
   have hl:ks.length=2:=by
    unfold Wt.parts at hp;rw [if_neg (by omega),if_pos h] at hp;omega
   have hx2:=hx;unfold Wt.right at hx2;rw [if_neg (by omega),if_neg (by omega),if_neg (by omega),if_neg (by omega),if_pos h] at hx2;simp only [Bool.and_eq_true] at hx2;have q:=zCT (rg:=rgt) (n:=N) (f:=cod own nm n) (F:=F) ks a v hv (λk hk a v hv=>ih k a v F (hwr k hk (hna k hk)) hv);rw [hl] at q;exact q.app (zSU hv (zT6 hx2.1))
  ·rw [if_neg (by omega),if_neg (by omega),if_neg (by omega),if_neg (by omega),if_pos h];have hrc:zHa x (ks.map (hd n))=0:=by
    unfold zCD at hrn;rw [if_neg (by omega),if_neg (by omega),if_pos h] at hrn;exact hrn
   obtain ⟨hkn,har,htk⟩:=zCw hrc;have hmx:x.ar<=(zAN ((zAc x.nm:Nat):Int)).m:=by
    unfold zHa at hrc;simp only at hrc;rw [if_neg (by simp [hkn])] at hrc;by_cases q:x.ar<(zAN ((zAc x.nm:Nat):Int)).l \/ (zAN ((zAc x.nm:Nat):Int)).m<x.ar
    ·rw [if_pos q] at hrc;omega
    ·omega
   have hsh:zAu ((zAc x.nm:Nat):Int) (ks.map (hd n))=true:=by
    unfold zHa at hrc;simp only at hrc;rw [if_neg (by simp [hkn]),if_neg (by omega),if_neg (by simp [htk])] at hrc;cases q:zAu ((zAc x.nm:Nat):Int) (ks.map (hd n)) with
    | true=>rfl
    | false=>rw [q] at hrc;simp at hrc
   have hpa:x.ar=(ks.length:Int):=by
    rw [<-hp];unfold Wt.parts;rw [if_neg (by omega),if_neg (by omega)]
   have hl30:ks.length<=30:=by have:=(Wt.parts_le hx).2;omega
   unfold zBs;simp only;obtain ⟨id,hid⟩:∃ id,zAc x.nm=id:=⟨_,rfl⟩
   have hcl:=zKG x.nm hkn;have hfo:=zM8 x.nm hkn;rw [hid] at hkn har htk hmx hsh hcl hfo ⊢;have hvv:(zAN ((id:Nat):Int)).p.data.toList=[118]->∀ k ∈ ks,isA (hd n k)=false:=λe k hk=>by
    rw [e] at htk;exact zF1 _ 0 htk _ (List.mem_map.2 ⟨k,hk,rfl⟩)
   have har3:∀ k ∈ ks,isA (hd n k)=true->Wpl.rightA (zA5 own nm (hd n k)).s (zA5 own nm (hd n k)).t (zA5 own nm (hd n k)).l (zA5 own nm (hd n k)).b (zA5 own nm (hd n k)).r=true:=λk hk q=>by
    have hk3:(hd n k).k=3:=by simpa [isA] using q
    match n,k,hks k hk,hrk k hk,hk3 with
    | 0,k,_,_,_=>exact Empty.elim k
    | n'+1,k,hf,hr,hk3 =>
     obtain ⟨y,ys⟩:Br (Tr n'):=k;have hy:Wt.right y=true:=hf.1;have hzy:∀ a ∈ zCD own nm y (ys.map (hd n'))::ys.map (zB1 own nm n'),a=0:=zB2 hr;have hry:zCD own nm y (ys.map (hd n'))=0:=hzy _ (List.mem_cons_self ..);have hyk:y.k=3:=hk3;unfold zCD at hry;rw [if_pos (Or.inr hyk)] at hry;have hsn:¬ shN own nm y.a.s<0:=λq=>by rw [if_pos q] at hry;omega
     exact zHh ho hn hy hyk hsn
   rcases hcl with ⟨hc,hc1⟩ | ⟨hc,hc1,hc2⟩ | ⟨hc,hc1,hc2,hc3⟩ | ⟨hc,hc1⟩
   ·rw [if_neg (by omega),if_pos hc];obtain ⟨f1,f2⟩:=hfo hc;refine Runs.app (C:=[ins 6 (id:Nat) 0]) (zQ3 hv f1) (Runs.app (h1:=(v,F++[((id:Nat):Int)])) ?_ (zJm hv));refine zDN ks _ v hv (λk hk a v hv=>?_);unfold zCE;split
    ·rename_i q
     exact zRZ hv f2 (har3 k hk q)
    ·rename_i q
     exact zE0 (λa v hv=>ih k a v _ (hwr k hk (by simpa using q)) hv) a v hv
   ·rw [if_neg (by omega),if_neg (by omega),if_pos hc];have hap:=zEJ hc1 hc2 (ks:=ks.map (hd n)) (by rw [List.length_map];omega) htk;unfold zCB;simp only;have hva:∀ k ∈ ks.filter (λk=>!isA (hd n k)),Wr own nm n k:=λk hk=>by
     obtain ⟨h1,h2⟩:=List.mem_filter.1 hk;exact hwr k h1 (by simpa using h2)
    obtain ⟨k1,hk1,e1,i1⟩:=zDS (zJe (d:=(⟨0,v0I,0,⟨#[]⟩,0,Wt.r0,Wt.r0⟩:Wt.Nd)) hap);obtain ⟨k2,hk2,e2,i2⟩:=zDS (zEB (d:=(⟨0,v0I,0,⟨#[]⟩,0,Wt.r0,Wt.r0⟩:Wt.Nd)) hap);have hshp:pairs ((id:Nat):Int)=true->shp (zA5 own nm ((zAv (ks.map (hd n))).headD ⟨0,v0I,0,⟨#[]⟩,0,Wt.r0,Wt.r0⟩)) (zA5 own nm ((zAv (ks.map (hd n))).getLastD ⟨0,v0I,0,⟨#[]⟩,0,Wt.r0,Wt.r0⟩))=true:=λq=>by
     unfold zAu at hsh;rw [if_pos q] at hsh;exact hsh
    rw [<-e1] at i1;rw [<-e2] at i2;have r1:=har3 k1 hk1 i1;have r2:=har3 k2 hk2 i2;rw [e1] at r1;rw [e2] at r2;generalize (zAv (ks.map (hd n))).headD ⟨0,v0I,0,⟨#[]⟩,0,Wt.r0,Wt.r0⟩=y1 at r1 hshp ⊢;generalize (zAv (ks.map (hd n))).getLastD ⟨0,v0I,0,⟨#[]⟩,0,Wt.r0,Wt.r0⟩=y2 at r2 hshp ⊢;have r1':=Wpl.rightA_iff.1 r1;by_cases q26:((id:Nat):Int)=26
    ·rw [if_pos q26];exact zLY hv (zDG (by omega) (by omega))
    rw [if_neg q26];by_cases q27:((id:Nat):Int)=27
    ·rw [if_pos q27];exact zLY hv (zDG (by omega) (by omega))
    rw [if_neg q27];have hvs:∀ k ∈ ks.filter (λk=>!isA (hd n k)),∀ (F:List Int) a v,0<=v->Runs rgt N a (cod own nm n k a) (v,F) (v+1,F):=λk hk F a v hv=>ih k a v F (hva k hk) hv
    by_cases q25:((id:Nat):Int)=25
    ·rw [if_pos q25];rw [q25] at htk har hmx;have hb:=zMX (h:=hd n) (ks:=ks) (by have:(zAN 25).l=2:=rfl;omega) (by have:(zAN 25).m=3:=rfl;omega) htk;refine (zCT _ a v hv (λk hk a v hv=>hvs k hk F a v hv)).app (zQr hv (by omega) r1)
    rw [if_neg q25];have hfd:fld ((id:Nat):Int)=true:=by
     unfold fld;rw [decide_eq_true_eq];omega
    refine Runs.app (C:=[ins 6 (id:Nat) 0]) (zQ3 hv hfd) ?_;refine Runs.app (h1:=(v,F++[((id:Nat):Int)])) ?_ ?_
    ·exact zDN _ _ v hv (λk hk a v hv=>zE0 (λa v hv=>hvs k hk _ a v hv) a v hv)
    ·cases qp:pairs ((id:Nat):Int) with
     | true =>
      simp only [if_true];exact Runs.app (C:=[zAw 9 0 (zA5 own nm y1) (zA5 own nm y2)]) (zRk hv qp r1 r2 (hshp qp)) (zJm hv)
     | false =>
      simp only [Bool.false_eq_true,if_false];exact Runs.app (C:=[zAw 8 0 (zA5 own nm y1) a0I]) (zRZ hv qp r1) (zJm hv)
   ·rw [if_neg (by omega),if_neg (by omega),if_neg (by omega)];have hna:=hvv hc1;have h2:2<=ks.length:=by omega
    match ks,h2,hna,hwr,hl30,hpa,hmx with
    | c::u::r,_,hna,hwr,hl30,hpa,hmx =>
     have wc:=hwr c (by simp) (hna c (by simp));have wu:=hwr u (by simp) (hna u (by simp));have wr:∀ k ∈ u::r,Wr own nm n k:=λk hk=>hwr k (List.mem_cons_of_mem _ hk) (hna k (List.mem_cons_of_mem _ hk))
     simp only [zBm];refine (ih c a v F wc hv).app ?_;obtain ⟨b,hb⟩:∃ b,a+(cod own nm n c a).length=b:=⟨_,rfl⟩
     rw [hb];by_cases q30:((id:Nat):Int)=30
     ·rw [if_pos q30];rw [q30] at hmx;have hr1:r.length<=1:=by
       have:(zAN 30).m=3:=rfl;simp only [List.length_cons] at hpa;omega
      unfold zCC;simp only;refine Runs.bran (m:=b+1+(cod own nm n u (b+1)).length+1) (e:=b+1+(cod own nm n u (b+1)).length+1+(if r.isEmpty=true then [zB5 zK1] else zA0 (cod own nm n) r (b+1+(cod own nm n u (b+1)).length+1)).length) ⟨rfl,rfl,rfl⟩ ⟨rfl,rfl⟩ (zRh _ _) (zQc _) hv rfl rfl (hpos u _ wu) ?_ (ih u _ v F wu hv) ?_
      ·match r,hr1 with
       | [],_=>simp
       | [z],_ =>
        have:=hpos z (b+1+(cod own nm n u (b+1)).length+1) (wr z (by simp));simp only [List.isEmpty_cons,Bool.false_eq_true,if_false,zA0,List.length_append,List.length_nil];omega
      ·match r,hr1 with
       | [],_ =>
        simp only [List.isEmpty_nil,if_true];exact zLY hv (by rfl)
       | [z],_ =>
        simp only [List.isEmpty_cons,Bool.false_eq_true,if_false,zA0,List.append_nil];exact ih z _ v F (wr z (by simp)) hv
     rw [if_neg q30];by_cases q31:((id:Nat):Int)=31
     ·rw [if_pos q31];exact Runs.guard (e:=b+1+(cod own nm n u (b+1)).length) ⟨rfl,rfl⟩ (zRt _) hv rfl (hpos u _ wu) (ih u _ v F wu hv)
     rw [if_neg q31];exact zIs hv zQc zSa (u::r) (by simp) (by simp only [List.length_cons] at hl30 ⊢;omega) b (λk hk a=>hpos k a (wr k hk)) (λk hk a=>ih k a v F (wr k hk) hv)
   ·rw [if_pos hc];have hna:=hvv hc1;have q:=zCT (rg:=rgt) (n:=N) (f:=cod own nm n) (F:=F) ks a v hv (λk hk a v hv=>ih k a v F (hwr k hk (hna k hk)) hv);have hap:apl ((id:Nat):Int) x.ar=true:=by
     unfold apl;rw [hkn,hc];simp;omega
    refine q.app ?_;rw [<-hpa];exact zSg hv hap
theorem zCS {r c:Int} {t:Tr n} (hT:zCU n t) (hE:flE own r c nm n t=0):Wc.chkP rgt (flC own nm n t)=true/\2<=(flC own nm n t).length:=by
 unfold flE at hE;have h1:Wpl.rightC own r c=true:=by
  cases q:Wpl.rightC own r c with
  | true=>rfl
  | false=>rw [q] at hE;simp at hE
 rw [if_neg (by simp [h1])] at hE;by_cases h2:(nm.length:Int)<=own
 ·rw [if_pos h2] at hE;omega
 rw [if_neg h2] at hE;by_cases h3:zB1 own (nm.take 16) n t=0
 ·rw [if_neg (by simp [h3])] at hE;cases h4:isA (hd n t) with
  | true=>rw [h4] at hE;simp at hE
  | false =>
   have hr:=Wpl.rightC_iff.1 h1;have hl:(nm.take 16).length<=16:=by rw [List.length_take];omega
   have wr:Wr own (nm.take 16) n t:=⟨hT,h3,h4⟩
   have hp:=zFa own (nm.take 16) n t 0 wr;have p:=zG8 ⟨hr.1,hr.2.1⟩ hl (flC own nm n t).length n t 0 0 [] wr (by omega);refine ⟨?_,by simp [flC];omega⟩;rw [zPq];unfold zRq;have e:(flC own nm n t).getLast? = some (ins 16 0 0):=by simp [flC]
   rw [e];have hL:(flC own nm n t).length=(cod own (nm.take 16) n t 0).length+1:=by simp [flC]
   obtain ⟨S,e1,e2,e3,_⟩:=p.run (sR (flC own nm n t).length) (by simp [sR]) (by omega) (by
     unfold sR;rw [getD_set _ _ _ _ (by simp;omega),if_pos rfl]) (λj h1 h2=>by
     unfold sR;rw [getD_set _ _ _ _ (by simp;omega),if_neg (by omega),List.getD_eq_getElem?_getD,List.getElem?_replicate];split <;> rfl) (λ_=>by
     unfold sR;rw [getD_set _ _ _ _ (by simp;omega),if_neg (by omega),List.getD_eq_getElem?_getD,List.getElem?_replicate];left
     split <;> rfl)
   rw [Nat.zero_add] at e3;have e4:srI rgt (flC own nm n t).length (cod own (nm.take 16) n t 0).length (ins 16 0 0) S=some S:=by
    unfold srI;rw [if_pos zSd];unfold zE8;rw [e3];simp only;rw [if_pos (by
     unfold zBE;simp [ins,nds];omega)]
    simp [ins,ahd,zBA]
   have e5:zE4 rgt (flC own nm n t).length 0 (flC own nm n t) (sR (flC own nm n t).length)=some S:=by
    have e6:flC own nm n t=cod own (nm.take 16) n t 0++[ins 16 0 0]:=rfl;generalize (flC own nm n t).length=M at *;rw [e6,zBt,e1];simp only [Option.bind_some,Nat.zero_add,zE4];rw [e4];rfl
   simp only;rw [zIl _ _ _ _ _ _ e5];rfl
 ·rw [if_pos h3] at hE;exact absurd hE h3
open Go.RowKit
theorem zBF (x:Wt.Nd):(zAM x).length=20:=rfl
def zBH (l:List Wt.Nd):List Value:=l.flatMap zAM
def OwnN (w:World) (B:Nat) (v:Value) (row:List Wt.Nd):Prop:=w.ownsRow B 56 20 v row.length (zBH row)
theorem zBl (l:List Wt.Nd):(zBH l).length=l.length * 20:=by
 induction l with
 | nil=>rfl
 | cons x r ih =>
  have e:zBH (x::r)=zAM x++zBH r:=by simp [zBH]
  rw [e,List.length_append,ih,zBF,List.length_cons];omega
theorem zFA (l:List Wt.Nd):∀ (i:Nat) (h:i<l.length) (j:Nat),j<20->(zBH l)[i * 20+j]? = (zAM (l[i]))[j]?:=by
 induction l with
 | nil=>intro i h;exact absurd h (Nat.not_lt_zero _)
 | cons x r ih =>
  intro i h j hj;have e:zBH (x::r)=zAM x++zBH r:=by simp [zBH]
  rw [e];cases i with
  | zero=>rw [List.getElem?_append_left (by rw [zBF];omega)];simp
  | succ i =>
   rw [List.getElem?_append_right (by rw [zBF];omega),zBF,show (i+1) * 20+j - 20=i * 20+j by omega];rw [ih i (by simpa using h) j hj];simp
theorem zC7 (h:OwnN w B v L):∃ av cap,v=.slice av L.length cap/\L.length<=cap/\RdN w av L/\(0<L.length->∃ g,av=some ⟨g,0,none⟩):=by
 rcases h.2 with ⟨e,h0⟩ | ⟨g,cap,cur,e,hb,hg,h1,h2,h3,h4⟩
 ·exact ⟨none,0,by rw [e,h0],by omega,λi hi=>by omega,λhp=>by omega⟩
 ·refine ⟨some ⟨g,0,none⟩,cap,e,h1,λi hi=>⟨g,0,rfl,λj u hu=>?_⟩,λ_=>⟨g,rfl⟩⟩;have hj:j<20:=by
   have:=(List.getElem?_eq_some_iff.1 hu).1;rw [zBF] at this;exact this
  have hx:=zFA L i hi j hj;rw [hu,<-h4,List.getElem?_take_of_lt (by omega)] at hx;unfold World.cell?;simp only [hg];simpa using hx
theorem RdN.flat {av:Option Addr} (h:RdN w av L):∀ ad,av=some ad->∀ j u,(zBH L)[j]? = some u->w.cell? (ad.add j)=some u:=by
 intro ad had j u hu;have hj:j<L.length * 20:=by
  have:=(List.getElem?_eq_some_iff.1 hu).1;rw [zBl] at this;exact this
 have hd:j / 20<L.length:=by omega
 obtain ⟨bb,off,e,hc⟩:=h (j / 20) hd;rw [had] at e;obtain rfl:=Option.some.inj e;have h1:=zFA L (j / 20) hd (j % 20) (Nat.mod_lt _ (by omega));rw [show j / 20 * 20+j % 20=j by omega,hu] at h1;have h2:=hc (j % 20) u h1.symm;rw [show off+j / 20 * 20+j % 20=off+j by omega] at h2;rw [Addr.add_mid];exact h2
theorem zEO (l:List Wt.Nd):∀ u ∈ zBH l,u.oneCell'=true:=by
 intro u hu;unfold zBH at hu;obtain ⟨x,_,hu⟩:=List.mem_flatMap.1 hu;exact zIb x u hu
open Go.RowKit Wf
theorem zP5:(prog.info? 9).map (λi=>(i.zero,i.size,i.bytes))=some (some (.string ⟨#[]⟩),1,16):=by kernel_rfl
theorem zAj (w:World) (T:TypeId) (k:Nat):(w.alloc (.cells #[] T)).ownsRow w.heap.size T k (.slice (some ⟨w.heap.size,0,none⟩) 0 0) 0 []:=by
 refine ⟨by simp,.inr ⟨w.heap.size,0,#[],rfl,Nat.le_refl _,heap_alloc_new w _,Nat.le_refl _,by unfold maxLen;omega,by simp,by simp⟩⟩
theorem zDe {L:List ByteArray} (h:w.ownsRow B 9 1 v L.length (L.map Value.string)):∃ av cap,v=.slice av L.length cap/\L.length<=cap/\RdS w av L:=by
 rcases h.2 with ⟨e,h0⟩ | ⟨g,cap,cur,e,hb,hg,h1,h2,h3,h4⟩
 ·refine ⟨none,0,by rw [e,h0],by omega,λi hi=>by omega⟩
 ·refine ⟨some ⟨g,0,none⟩,cap,e,h1,λi hi=>⟨g,0,rfl,?_⟩⟩;have hx:(L.map Value.string)[i]? = some (.string (L[i])):=by simp [hi]
  rw [<-h4,List.getElem?_take_of_lt (by omega)] at hx;unfold World.cell?;simp only [hg];simpa using hx
def zSl (w:World) (B:Nat) (v:Value) (L:List ByteArray):Prop:=w.ownsRow B 9 1 v L.length (L.map Value.string)
theorem OwnN.below (h:OwnN w B v L) (hb:Below w.heap.size w w'):OwnN w' B v L:=zAP (Fr.of_below [] hb) h (by simp)
theorem zD1 {o:Oper} {a:Act} {K:Act->World->Prop} {Q:Exit->Act->World->Prop} (s x:Operand) (ho:o.op=.call {callee:=.builtin .append,args:=#[s,x],argTypes:=#[22,22]})
  (B:Nat) (w:World) (hB:B<=w.heap.size) (v:Value) (hs:a.eval s=v) (hown:w.ownsRow B 56 20 v 0 []) (av:Option Addr) (L:List Wt.Nd) (m cap:Nat) (hm:m=L.length) (hx:a.eval x=.slice av m cap) (hr:RdN w av L) (hno:av=none->m=0/\cap=0) (hl:True->L.length<=799644820177)
  (h:∀ v' w',OwnN w' B v' L->w.grownBy w' v.ownBlock->K (a.put o.dst v') w'):o.wp prog a w K Q:=by
 obtain ⟨i0,hi0,hz0,hz1,hz2⟩:=info_parts zGb;have hl:=hl trivial;subst hm;cases av with
 | some ad =>
  refine wp_append_own _ s x 22 ho B 56 i0 _ 20 176 underlying22 hi0 hz0 hz1 hz2 rfl (by decide) _ 0 [] hs hown ad L.length cap (zBH L) hx (zBl L) (hr.flat ad rfl) (zEO L) (by unfold maxLen;omega) (by omega) hB ?_;intro v' w' own hg _;rw [Nat.zero_add,List.nil_append] at own;exact h v' w' own hg
 | none =>
  obtain ⟨h0,rfl⟩:=hno rfl;have hL:L=[]:=List.eq_nil_of_length_eq_zero h0;subst hL;have hrun:=run_append_owned_none (P:=prog) (w:=w) B 22 o.type 56 i0 20 underlying22 hi0 _ 0 [] hown;have hx:a.eval x=.slice none 0 0:=hx;unfold Oper.wp;simp only [execOp,ho,resolve,invoke,builtin,Sem.run_bind,Sem.run_pure,Result.andThen_ok,List.map_toArray,List.map_cons,List.map_nil,hs,hx,hrun];exact h _ _ hown (World.grownBy.refl _ _)
theorem zC9 {o:Oper} {a:Act} {K:Act->World->Prop} {Q:Exit->Act->World->Prop} (s x:Operand) (ho:o.op=.call {callee:=.builtin .append,args:=#[s,x],argTypes:=#[25,25]})
  (B:Nat) (w:World) (hB:B<=w.heap.size) (v:Value) (hs:a.eval s=v) (hown:w.ownsRow B 9 1 v 0 []) (av:Option Addr) (L:List ByteArray) (m cap:Nat) (hm:m=L.length) (hx:a.eval x=.slice av m cap) (hr:RdS w av L) (hno:av=none->m=0/\cap=0) (hl:True->L.length<=20000)
  (h:∀ v' w',zSl w' B v' L->w.grownBy w' v.ownBlock->K (a.put o.dst v') w'):o.wp prog a w K Q:=by
 obtain ⟨i0,hi0,hz0,hz1,hz2⟩:=info_parts zP5;have hl:=hl trivial;subst hm;cases av with
 | some ad =>
  refine wp_append_own _ s x 25 ho B 9 i0 _ 1 16 underlying25 hi0 hz0 hz1 hz2 rfl (by decide) _ 0 [] hs hown ad L.length cap (L.map Value.string) hx (by simp) ?_ ?_ (by unfold maxLen;omega) (by omega) hB ?_
  ·intro j u hu;have hj:j<L.length:=by
    have:=(List.getElem?_eq_some_iff.1 hu).1;simpa using this
   obtain ⟨bb,off,e2,hc⟩:=hr j hj;cases e2
   rw [List.getElem?_map,List.getElem?_eq_getElem hj] at hu;simp at hu;rw [<-hu,Addr.add_mid];exact hc
  ·intro u hu;obtain ⟨b,_,rfl⟩:=List.mem_map.1 hu;rfl
  ·intro v' w' own hg _;rw [Nat.zero_add,List.nil_append] at own;exact h v' w' own hg
 | none =>
  obtain ⟨h0,rfl⟩:=hno rfl;have hL:L=[]:=List.eq_nil_of_length_eq_zero h0;subst hL;have hrun:=run_append_owned_none (P:=prog) (w:=w) B 25 o.type 9 i0 1 underlying25 hi0 _ 0 [] hown;have hx:a.eval x=.slice none 0 0:=hx;unfold Oper.wp;simp only [execOp,ho,resolve,invoke,builtin,Sem.run_bind,Sem.run_pure,Result.andThen_ok,List.map_toArray,List.map_cons,List.map_nil,hs,hx,hrun];exact h _ _ hown (World.grownBy.refl _ _)
theorem zAb {T:TypeId} {k g o m c:Nat} (h:w.ownsRow B T k (.slice (some ⟨g,o,none⟩) m c) n xs):B<=g:=by
 rcases h.2 with ⟨q,_⟩ | ⟨a,cap,cur,q,hb,_⟩
 ·cases q
 ·cases q;exact hb
theorem zAf {B':Nat} {T T':TypeId} {k k' n':Nat} {v':Value} {xs':List Value} (h:w.ownsRow B T k v n xs) (h':w.ownsRow B' T' k' v' n' xs') (hT:T ≠ T'):∀ g,v.ownBlock=some g->v'.ownBlock ≠ some g:=by
 intro g e e';rcases h.2 with ⟨q,_⟩ | ⟨a,cap,cur,q,_,hg,_⟩
 ·rw [q] at e;cases e
 ·rcases h'.2 with ⟨q',_⟩ | ⟨a',cap',cur',q',_,hg',_⟩
  ·rw [q'] at e';cases e'
  ·rw [q] at e;rw [q'] at e';cases e
   cases e'
   rw [hg] at hg';simp only [Option.some.injEq,Obj.cells.injEq] at hg';exact hT hg'.2.1
def FlQ (E:Int) (C:List I) (w:World) (e:Ending) (w':World):Prop :=
 (∃ a m c,e=.returned (.tuple #[.slice a m c,.int .i64 E])/\(E ≠ 0->m=0)/\(E=0->∃ P,OwnI w' w.heap.size (.slice a m c) P/\P.length=C.length/\(∀ i (h:i<P.length) (h':i<C.length),(P[i]).1=(C[i]).1/\OwnZ w' w.heap.size (P[i]).2 (C[i]).2)/\∀ i j (h:i<P.length) (h':j<P.length) b,(P[i]).2.ownBlock=some b->(P[j]).2.ownBlock=some b->i=j))/\Below w.heap.size w w'
theorem FlP.q {E:Int} {C:List I} {e:Ending} (h:FlP E C w e w'):FlQ E C w e w':=by
 obtain ⟨h,hb⟩:=h;refine ⟨?_,hb⟩;rcases h with ⟨h1,rfl⟩ | ⟨h1,lv,P,rfl,ho,h2⟩
 ·exact ⟨none,0,0,rfl,λ_=>rfl,λq=>absurd q h1⟩
 ·have hs:∃ a m c,lv=.slice a m c:=by
   rcases ho.2 with ⟨q,_⟩ | ⟨g,c,cur,q,_⟩
   ·exact ⟨_,_,_,q⟩
   ·exact ⟨_,_,_,q⟩
  obtain ⟨a,m,c,rfl⟩:=hs;exact ⟨a,m,c,by rw [h1],λq=>absurd h1 q,λ_=>⟨P,ho,h2⟩⟩
structure FlC (l:List Wt.Nd) (nm:List ByteArray) (E:Int->Int->Int->Int) (C:Int->List I):Prop where
 run:∀ (own r c:Int) (w:World) (B B2:Nat) (vN vS:Value),(-9223372036854775808<=own/\own<=9223372036854775807)->NmAt w->OpsAt w->OwnN w B vN l->zSl w B2 vS nm->Calls prog 11 #[vN,.agg #[.int .i64 own,.int .i64 r,.int .i64 c],vS] w (FlQ (E own r c) (C own) w)
 right:∀ own r c,E own r c=0->Wc.chkP rgt (C own)=true/\2<=(C own).length
 len:∀ own,(C own).length<=20000
 hom:∀ h1 h2:Int,0<=h1->h1<nm.length->0<=h2->h2<nm.length->nm.length<=16->E h1 0 0=E h2 9 9/\HmL h1 h2 (C h1) (C h2)
theorem zGa (l:List Wt.Nd) (nm:List ByteArray) (hl:l.length<=20000) (hF:∀ x ∈ l,Wt.FitN x) (hn:nm.length<=20000):∃ E C,FlC l nm E C:=by
 by_cases hc:Wt.check l=0
 ·obtain ⟨t,hrow,hT,h256⟩:=zHc hc;refine ⟨λown r c=>flE own r c nm _ t,λown=>flC own nm _ t,λown r c w B B2 vN vS ho hN hO h1 h2=>?_,λown r c h=>zCS hT h,λown=>?_,λh1 h2 a1 b1 a2 b2 h16=>⟨zIO a1 b1 a2 b2 h16 _ t,zJt h1 h2 nm _ t⟩⟩
  ·obtain ⟨av,cap,rfl,hcap,hr,hp⟩:=zC7 h1;obtain ⟨av3,cap3,rfl,hcap3,hr3⟩:=zDe h2;have h0:0<l.length:=by rw [<-hrow];exact zFP _ t
   obtain ⟨g,rfl⟩:=hp h0;refine Calls.mono (zDl _ t g 0 cap l own r c av3 nm nm.length cap3 w hF hO hN hr hr3 hc hrow hT h256 hcap l.length rfl rfl hcap3 (by omega) ho) (λ_ _ h=>h.q)
  ·have h7:=zGc own (nm.take 16) _ t 0;rw [hrow] at h7;simp only [flC,List.length_append,List.length_cons,List.length_nil];omega
 ·refine ⟨λ_ _ _=>Wt.check l,λ_=>[],λown r c w B B2 vN vS ho hN hO h1 h2=>?_,λown r c h=>absurd h hc,λ_=>by simp,λh1 h2 _ _ _ _ _=>⟨rfl,trivial⟩⟩;obtain ⟨av,cap,rfl,hcap,hr,hp⟩:=zC7 h1;obtain ⟨av3,cap3,rfl,hcap3,hr3⟩:=zDe h2;exact Calls.mono (zG0 av cap l own r c av3 nm.length cap3 w (by omega) hF hO hr hc l.length rfl) (λ_ _ h=>h.q)
