/- KRtC, KRtD, KCopN, KCopS, KFl2, PPlainB, PWalkI, KUsP, KOfP. -/
import Derived.Test.YtnloiaoogofklaaGreatDoorQ33
import Derived.Laws.AppendOwnNone
import Derived.BigFrame
set_option maxHeartbeats 1600000
set_option maxRecDepth 100000
set_option linter.unusedVariables false
namespace Go.Proofs.YtnloiaoogofklaaGreatDoor
open Tryz
open Go.RowKit Wf Wc
variable {o own b k:Int} {w:World} {B n:Nat} {v:Value} {x:Wpl.Ar} {nm:List ByteArray} {L:List Wt.Nd} {a:Act} {K:Act->World->Prop} {Q:Exit->Act->World->Prop} {xs:List Value}
theorem zAb (x:Wc.In):smI x x=true:=by
 have h1:zLi x.v x.v=true:=(zC4 _ _).2 rfl;have h2:zLu x.ce x.ce=true:=(zJk _ _).2 rfl;have h3:zBu x.ar x.ar=true:=(zCb _ _).2 rfl;have h4:zBu x.pr x.pr=true:=(zCb _ _).2 rfl;simp [smI,h1,h2,h3,h4]
theorem zSZ {v:Wt.Vl} (h:Wv.right v.k v.n v.d v.t v.b v.f=true):rgt (zBd v).1 (zBd v).2=true:=by
 rw [zM8 rfl];simp only [zBd] at *;rw [h,zAb];rfl
theorem zSR {c:Wpl.Cl} (h:Wpl.rightC c.s c.r c.c=true):rgt (zGw c).1 (zGw c).2=true:=by
 rw [zO2 rfl];simp only [zGw] at *;rw [h,zAb];rfl
theorem zS4 (h:1<=o/\o<=3):rgt (ins 3 o 0).1 (ins 3 o 0).2=true:=by
 rw [zM7 rfl];simp only [ins] at *;rw [zAb];simp [h]
theorem zS1 (h:Wt.isBin o=true):rgt (ins 4 o 0).1 (ins 4 o 0).2=true:=by
 rw [zMh rfl];simp only [ins] at *;rw [zAb];simp [h]
theorem zSI (h:apl o b=true):rgt (ins 5 o b).1 (ins 5 o b).2=true:=by
 rw [zKa rfl];simp only [ins] at *;rw [zAb];simp [h]
theorem zSL (h:fld o=true):rgt (ins 6 o 0).1 (ins 6 o 0).2=true:=by
 rw [zMf rfl];simp only [ins] at *;rw [zAb];simp [h]
theorem zSQ:rgt (ins 7 0 0).1 (ins 7 0 0).2=true:=by
 rw [zNe rfl];simp only [ins] at *;rw [zAb];simp
theorem zSM (h:Wpl.rightA x.s x.t x.l x.b x.r=true):rgt (zAv 8 0 x a0I).1 (zAv 8 0 x a0I).2=true:=by
 rw [zNG rfl];simp only [zAv] at *;rw [zAb];simp [h]
theorem zSN {y:Wpl.Ar} (h:Wpl.rightA x.s x.t x.l x.b x.r=true) (h2:Wpl.rightA y.s y.t y.l y.b y.r=true) (h3:shp x y=true):rgt (zAv 9 0 x y).1 (zAv 9 0 x y).2=true:=by
 rw [zNm rfl];simp only [zAv] at *;rw [zAb];simp [h,h2,h3]
theorem zRF:rgt (ins 10 0 0).1 (ins 10 0 0).2=true:=by
 rw [zJX rfl];simp only [ins] at *;rw [zAb];simp
theorem zRY (h:Wpl.rightA x.s x.t x.l x.b x.r=true) (hb:b=1 \/ b=2):rgt (zAv 11 b x a0I).1 (zAv 11 b x a0I).2=true:=by
 rw [zFl rfl];simp only [zAv] at *;rw [zAb];simp [h,hb]
theorem zQx (a b:Int):rgt (ins 12 a b).1 (ins 12 a b).2=true:=by
 rw [zJH rfl];simp only [ins] at *;rw [zAb];simp
theorem zOu (a:Int):rgt (ins 13 a 0).1 (ins 13 a 0).2=true:=by
 rw [zI7 rfl];simp only [ins] at *;rw [zAb];simp
theorem zRN (a:Int):rgt (ins 14 a 0).1 (ins 14 a 0).2=true:=by
 rw [zH7 rfl];simp only [ins] at *;rw [zAb];simp
theorem zQ7 (b:Int) (tl:List Int) (h1:1<=tl.length) (h2:tl.length<=30):rgt ⟨15,0,b,v0I,c0I,a0I,a0I⟩ tl=true:=by
 rw [zIr rfl];simp only;rw [zAb];simp;omega
theorem zRG:rgt (ins 16 0 0).1 (ins 16 0 0).2=true:=by
 rw [zHX rfl];simp only [ins] at *;rw [zAb];simp
theorem zKv:(List.range 64).all (λk=>!zAx ((k:Nat):Int) || (let s:=zAO ((k:Nat):Int);(decide (0<=s.l)) && (!(s.c == 1) || (fld ((k:Nat):Int) && !pairs ((k:Nat):Int))) && (!(s.c == 3) || decide (s.m<=30))))=true:=by kernel_rfl
theorem zKJ (s:ByteArray) (h:zAx ((zAe s:Nat):Int)=true) (hc:(zAO ((zAe s:Nat):Int)).c=1):fld ((zAe s:Nat):Int)=true/\pairs ((zAe s:Nat):Int)=false:=by
 have h1:=List.all_eq_true.1 zKv (zAe s) (List.mem_range.2 (by have:=zF2 s;omega));rw [h] at h1;simp only [hc] at h1;simp at h1;exact ⟨h1.2.1,h1.2.2⟩
theorem zJZ (h:(opK o == k)=true) (hk:k ≠ 0):∃ m t,(o,m,t) ∈ Wt.opsT/\(if t<5 then 5 else 4)=k:=by
 unfold opK Wt.opOf at h;cases e:Wt.opsT.find? (λx=>x.1 == o) with
 | none=>rw [e] at h;simp at h;omega
 | some x =>
  obtain ⟨o',m,t⟩:=x;rw [e] at h;simp only [beq_iff_eq] at h;have h1:=List.find?_some e;have h2:=List.mem_of_find?_eq_some e;simp at h1;subst h1;exact ⟨m,t,h2,h⟩
theorem zSO (h:(opK o == 4)=true):1<=o/\o<=3:=by
 obtain ⟨m,t,h1,h2⟩:=zJZ h (by omega);simp only [Wt.opsT,List.mem_cons,List.not_mem_nil,or_false,Prod.mk.injEq] at h1;rcases h1 with q | q | q | q | q | q | q | q | q | q | q | q | q | q | q <;> (obtain ⟨q1,q2,q3⟩:=q;subst q3;first | (simp at h2;done) | omega)
theorem zSW (h:(opK o == 5)=true):Wt.isBin o=true:=by
 obtain ⟨m,t,h1,h2⟩:=zJZ h (by omega);simp only [Wt.opsT,List.mem_cons,List.not_mem_nil,or_false,Prod.mk.injEq] at h1;rcases h1 with q | q | q | q | q | q | q | q | q | q | q | q | q | q | q <;> (obtain ⟨q1,q2,q3⟩:=q;subst q3;first | (simp at h2;done) | (subst q1;rfl))
theorem zLz (s:ByteArray):∀ (l:List ByteArray) (i:Nat),idx s l i<((i+l.length:Nat):Int)
 | [],i=>by simp only [idx];omega
 | t::r,i=>by
  unfold idx;split
  ·simp only [List.length_cons];omega
  ·have:=zLz s r (i+1);simp only [List.length_cons];omega
theorem zMA (ho:0<=own/\own<16) (hn:nm.length<=16) (s:ByteArray):shN own nm s<16:=by
 unfold shN;split
 ·omega
 ·have:=zLz s nm 0;omega
theorem zME {a:Wt.Rf} (h:Wt.rfOk a=true):0<=a.r/\a.r<65536/\0<=a.c/\a.c<256:=by
 unfold Wt.rfOk Wt.inR at h;simp only [Bool.and_eq_true,decide_eq_true_eq] at h;omega
theorem zGu (ho:0<=own/\own<16) (hn:nm.length<=16) {x:Wt.Nd} (hx:Wt.right x=true) (hk:x.k=3) (hs:¬ shN own nm x.a.s<0):Wpl.rightA (zA8 own nm x).s (zA8 own nm x).t (zA8 own nm x).l (zA8 own nm x).b (zA8 own nm x).r=true:=by
 unfold Wt.right at hx;rw [if_neg (by omega),if_neg (by omega),if_pos hk] at hx;simp only [Bool.and_eq_true] at hx;have h1:=zME hx.1.1.1;have h2:=zME hx.1.1.2;have h3:=zMA ho hn x.a.s;rw [Wpl.rightA_iff];simp only [zA8,zBy];omega
theorem zCg (h1:1<=k) (h2:k<=65536):Wv.right (zDJ k).k (zDJ k).n (zDJ k).d (zDJ k).t (zDJ k).b (zDJ k).f=true:=by
 unfold Wv.right;simp [zDJ,Wnum.rightB];omega
theorem zK9 {x:Wt.Nd} (hx:Wt.right x=true) (hk:x.k=1):Wv.right x.v.k x.v.n x.v.d x.v.t x.v.b x.v.f=true:=by
 unfold Wt.right at hx;rw [if_pos hk] at hx;simp only [Bool.and_eq_true] at hx;have h:=hx.1;unfold Wt.vlOk at h;split at h
 ·cases h
 ·split at h
  ·simp only [Bool.and_eq_true] at h;exact h.1.1
  ·exact h
section
variable {n:Nat}
theorem zKD {a:Nat} {v:Int} {F:List Int} (hv:0<=v) {u:Wt.Vl} (h:Wv.right u.k u.n u.d u.t u.b u.f=true):Runs rgt n a [zBd u] (v,F) (v+1,F) :=
 Runs.one (zSZ h) (by simp [zBd]) (by simp [zBD,zBd,nds];omega) (by simp [zBd,nds,zBb])
theorem zRC {a:Nat} {v:Int} {F:List Int} (hv:0<=v) {c:Wpl.Cl} (h:Wpl.rightC c.s c.r c.c=true):Runs rgt n a [zGw c] (v,F) (v+1,F) :=
 Runs.one (zSR h) (by simp [zGw]) (by simp [zBD,zGw,nds];omega) (by simp [zGw,nds,zBb])
theorem zRS {a:Nat} {v:Int} {F:List Int} (hv:0<=v) {o:Int} (h:1<=o/\o<=3):Runs rgt n a [ins 3 o 0] (v+1,F) (v+1,F) :=
 Runs.one (zS4 h) (by simp [ins]) (by simp [zBD,ins,nds];omega) (by simp [ins,nds,zBb])
theorem zQr {a:Nat} {v:Int} {F:List Int} (hv:0<=v) {o:Int} (h:Wt.isBin o=true):Runs rgt n a [ins 4 o 0] (v+2,F) (v+1,F) :=
 Runs.one (zS1 h) (by simp [ins]) (by simp [zBD,ins,nds];omega) (by simp [ins,nds,zBb];omega)
theorem zQ0 {a:Nat} {v:Int} {F:List Int} (hv:0<=v) {o b:Int} (h:apl o b=true):Runs rgt n a [ins 5 o b] (v+b,F) (v+1,F) :=
 Runs.one (zSI h) (by simp [ins]) (by simp [zBD,ins,nds];omega) (by simp [ins,nds,zBb];omega)
theorem zPG {a:Nat} {v:Int} {F:List Int} (hv:0<=v) {o:Int} (h:fld o=true):Runs rgt n a [ins 6 o 0] (v,F) (v,F++[o]) :=
 Runs.one (zSL h) (by simp [ins]) (by simp [zBD,ins,nds];omega) (by simp [ins,nds,zBb])
theorem zQ1 {a:Nat} {v:Int} {F:List Int} (hv:0<=v) {o:Int}:Runs rgt n a [ins 7 0 0] (v+1,F++[o]) (v,F++[o]) :=
 Runs.one zSQ (by simp [ins]) (by simp [zBD,ins,nds];omega) (by simp [ins,nds,zBb];omega)
theorem zOs {a:Nat} {v:Int} {F:List Int} (hv:0<=v) {o:Int} (hp:pairs o=false) {x:Wpl.Ar} (h:Wpl.rightA x.s x.t x.l x.b x.r=true):Runs rgt n a [zAv 8 0 x a0I] (v,F++[o]) (v,F++[o]) :=
 Runs.one (zSM h) (by simp [zAv]) (by simp [zBD,zAv,nds,hp];omega) (by simp [zAv,nds,zBb])
theorem zQh {a:Nat} {v:Int} {F:List Int} (hv:0<=v) {o:Int} (hp:pairs o=true) {x y:Wpl.Ar} (h:Wpl.rightA x.s x.t x.l x.b x.r=true) (h2:Wpl.rightA y.s y.t y.l y.b y.r=true) (h3:shp x y=true):Runs rgt n a [zAv 9 0 x y] (v,F++[o]) (v,F++[o]) :=
 Runs.one (zSN h h2 h3) (by simp [zAv]) (by simp [zBD,zAv,nds,hp];omega) (by simp [zAv,nds,zBb])
theorem zIE {a:Nat} {v:Int} {F:List Int} (hv:0<=v) {o:Int}:Runs rgt n a [ins 10 0 0] (v,F++[o]) (v+1,F) :=
 Runs.one zRF (by simp [ins]) (by simp [zBD,ins,nds];omega) (by simp [ins,nds,zBb])
theorem zOw {a:Nat} {v:Int} {F:List Int} (hv:0<=v) {b:Int} (hb:b=1 \/ b=2) {x:Wpl.Ar} (h:Wpl.rightA x.s x.t x.l x.b x.r=true):Runs rgt n a [zAv 11 b x a0I] (v+b,F) (v+1,F) :=
 Runs.one (zRY h hb) (by simp [zAv]) (by simp [zBD,zAv,nds];omega) (by simp [zAv,nds,zBb];omega)
end
open Go.RowKit Wf Wc
section
variable {n:Nat} {own:Int} {nm:List ByteArray}
theorem zDw {α:Type} {f:α->Nat->List I} {F:List Int} {o:Int} {k:α} (h:∀ a v,0<=v->Runs rgt n a (f k a) (v,F++[o]) (v+1,F++[o])) (a:Nat) (v:Int) (hv:0<=v):Runs rgt n a (zAm f k a) (v,F++[o]) (v,F++[o]) :=
 (h a v hv).app (zQ1 hv)
theorem zCw {α:Type} {h:α->Wt.Nd} {ks:List α} {y:Wt.Nd} (hy:y ∈ zAr (ks.map h)):∃ k ∈ ks,h k=y/\isA y=true:=by
 unfold zAr at hy;obtain ⟨h1,h2⟩:=List.mem_filter.1 hy;obtain ⟨k,hk,e⟩:=List.mem_map.1 h1;exact ⟨k,hk,e,h2⟩
theorem zJ5 {α:Type} {l:List α} {d:α} (h:0<l.length):l.headD d ∈ l:=by
 cases l with
 | nil=>cases h
 | cons x r=>simp
theorem zDy {α:Type} {l:List α} {d:α} (h:0<l.length):l.getLastD d ∈ l:=by
 cases l with
 | nil=>cases h
 | cons x r =>
  rw [List.getLastD_eq_getLast?,List.getLast?_eq_some_getLast (by simp)];simp
theorem zKy {α:Type} {h:α->Wt.Nd} {ks:List α} (hl:2<=ks.length) (hm:ks.length<=3) (ht:zAh [97,118] (ks.map h) 0=true):(ks.filter (λk=>!isA (h k))).length=1 \/ (ks.filter (λk=>!isA (h k))).length=2:=by
 match ks,hl,hm with
 | [x,y],_,_ =>
  simp [zAh] at ht;simp [ht.1,ht.2]
 | [x,y,z],_,_ =>
  simp [zAh] at ht;simp [ht.1,ht.2.1,ht.2.2]
end
theorem zFm {own:Int} {nm:List ByteArray} (ho:0<=own/\own<16) (hn:nm.length<=16) (N:Nat):∀ (n:Nat) (t:Tr n) (a:Nat) (v:Int) (F:List Int),Wr own nm n t->0<=v->Runs rgt N a (cod own nm n t a) (v,F) (v+1,F)
 | 0,t,_,_,_,_,_=>Empty.elim t
 | n+1,t,a,v,F,hw,hv=>by
  obtain ⟨x,ks⟩:Br (Tr n):=t;obtain ⟨hF,hR,hA⟩:=hw;have hx:Wt.right x=true:=hF.1;have hp:Wt.parts x=(ks.length:Int):=hF.2.1;have hks:∀ k ∈ ks,zC0 n k:=hF.2.2;have hA':isA x=false:=hA;have hzz:∀ a ∈ zDD own nm x (ks.map (hd n))::ks.map (zCA own nm n),a=0:=zB1 hR;have hrn:zDD own nm x (ks.map (hd n))=0:=hzz _ (List.mem_cons_self ..);have hrk:∀ t ∈ ks,zCA own nm n t=0:=λt ht=>hzz _ (List.mem_cons_of_mem _ (List.mem_map.2 ⟨t,ht,rfl⟩))
  have hpos:=zFF own nm n;have ih:=zFm ho hn N n;have hwr:∀ k ∈ ks,isA (hd n k)=false->Wr own nm n k:=λk hk q=>⟨hks k hk,hrk k hk,q⟩
  show Runs rgt N a (zBY own nm (hd n) (cod own nm n) x ks a) (v,F) (v+1,F)
  unfold zBY;rcases zFI hx with h | h | h | h | h | h
  ·rw [if_pos h];exact zKD hv (zK9 hx h)
  ·rw [if_neg (by omega),if_pos h];unfold zDD at hrn;rw [if_pos (Or.inl h)] at hrn;have hs:¬ shN own nm x.a.s<0:=λq=>by rw [if_pos q] at hrn;omega
   refine zRC hv ?_;have hx2:=hx;unfold Wt.right at hx2;rw [if_neg (by omega),if_pos h] at hx2;simp only [Bool.and_eq_true] at hx2;have h1:=zME hx2.1;have h3:=zMA ho hn x.a.s;rw [Wpl.rightC_iff];simp only [zHB];omega
  ·simp [isA,h] at hA'
  ·rw [if_neg (by omega),if_neg (by omega),if_pos h];unfold zDD at hrn;rw [if_neg (by omega),if_pos (Or.inl h)] at hrn;have hna:∀ k ∈ ks,isA (hd n k)=false:=λk hk=>by
    cases q:isA (hd n k) with
    | false=>rfl
    | true =>
     rw [if_pos (List.any_eq_true.2 ⟨hd n k,List.mem_map.2 ⟨k,hk,rfl⟩,q⟩)] at hrn;omega
   have hl:ks.length=1:=by
    unfold Wt.parts at hp;rw [if_pos h] at hp;omega
   have hx2:=hx;unfold Wt.right at hx2;rw [if_neg (by omega),if_neg (by omega),if_neg (by omega),if_pos h] at hx2;simp only [Bool.and_eq_true] at hx2;have q:=zCF (rg:=rgt) (n:=N) (f:=cod own nm n) (F:=F) ks a v hv (λk hk a v hv=>ih k a v F (hwr k hk (hna k hk)) hv);rw [hl] at q;exact q.app (zRS hv (zSO hx2.1))
  ·rw [if_neg (by omega),if_neg (by omega),if_neg (by omega),if_pos h];unfold zDD at hrn;rw [if_neg (by omega),if_pos (Or.inr h)] at hrn;have hna:∀ k ∈ ks,isA (hd n k)=false:=λk hk=>by
    cases q:isA (hd n k) with
    | false=>rfl
    | true =>
     rw [if_pos (List.any_eq_true.2 ⟨hd n k,List.mem_map.2 ⟨k,hk,rfl⟩,q⟩)] at hrn;omega
   have hl:ks.length=2:=by
    unfold Wt.parts at hp;rw [if_neg (by omega),if_pos h] at hp;omega
   have hx2:=hx;unfold Wt.right at hx2;rw [if_neg (by omega),if_neg (by omega),if_neg (by omega),if_neg (by omega),if_pos h] at hx2;simp only [Bool.and_eq_true] at hx2;have q:=zCF (rg:=rgt) (n:=N) (f:=cod own nm n) (F:=F) ks a v hv (λk hk a v hv=>ih k a v F (hwr k hk (hna k hk)) hv);rw [hl] at q;exact q.app (zQr hv (zSW hx2.1))
  ·rw [if_neg (by omega),if_neg (by omega),if_neg (by omega),if_neg (by omega),if_pos h];have hrc:zHF x (ks.map (hd n))=0:=by
    unfold zDD at hrn;rw [if_neg (by omega),if_neg (by omega),if_pos h] at hrn;exact hrn
   obtain ⟨hkn,har,htk⟩:=zCu hrc;have hmx:x.ar<=(zAO ((zAe x.nm:Nat):Int)).m:=by
    unfold zHF at hrc;simp only at hrc;rw [if_neg (by simp [hkn])] at hrc;by_cases q:x.ar<(zAO ((zAe x.nm:Nat):Int)).l \/ (zAO ((zAe x.nm:Nat):Int)).m<x.ar
    ·rw [if_pos q] at hrc;omega
    ·omega
   have hsh:zBF ((zAe x.nm:Nat):Int) (ks.map (hd n))=true:=by
    unfold zHF at hrc;simp only at hrc;rw [if_neg (by simp [hkn]),if_neg (by omega),if_neg (by simp [htk])] at hrc;cases q:zBF ((zAe x.nm:Nat):Int) (ks.map (hd n)) with
    | true=>rfl
    | false=>rw [q] at hrc;simp at hrc
   have hpa:x.ar=(ks.length:Int):=by
    rw [<-hp];unfold Wt.parts;rw [if_neg (by omega),if_neg (by omega)]
   have hl30:ks.length<=30:=by have:=(Wt.parts_le hx).2;omega
   unfold zDN;simp only;obtain ⟨id,hid⟩:∃ id,zAe x.nm=id:=⟨_,rfl⟩
   have hcl:=zIK x.nm hkn;have hfo:=zKJ x.nm hkn;rw [hid] at hkn har htk hmx hsh hcl hfo ⊢;have hvv:(zAO ((id:Nat):Int)).p.data.toList=[118]->∀ k ∈ ks,isA (hd n k)=false:=λe k hk=>by
    rw [e] at htk;exact zEy _ 0 htk _ (List.mem_map.2 ⟨k,hk,rfl⟩)
   have har3:∀ k ∈ ks,isA (hd n k)=true->Wpl.rightA (zA8 own nm (hd n k)).s (zA8 own nm (hd n k)).t (zA8 own nm (hd n k)).l (zA8 own nm (hd n k)).b (zA8 own nm (hd n k)).r=true:=λk hk q=>by
    have hk3:(hd n k).k=3:=by simpa [isA] using q
    match n,k,hks k hk,hrk k hk,hk3 with
    | 0,k,_,_,_=>exact Empty.elim k
    | n'+1,k,hf,hr,hk3 =>
     obtain ⟨y,ys⟩:Br (Tr n'):=k;have hy:Wt.right y=true:=hf.1;have hzy:∀ a ∈ zDD own nm y (ys.map (hd n'))::ys.map (zCA own nm n'),a=0:=zB1 hr;have hry:zDD own nm y (ys.map (hd n'))=0:=hzy _ (List.mem_cons_self ..);have hyk:y.k=3:=hk3;unfold zDD at hry;rw [if_pos (Or.inr hyk)] at hry;have hsn:¬ shN own nm y.a.s<0:=λq=>by rw [if_pos q] at hry;omega
     exact zGu ho hn hy hyk hsn
   rcases hcl with ⟨hc,hc1⟩ | ⟨hc,hc1,hc2⟩ | ⟨hc,hc1,hc2,hc3⟩ | ⟨hc,hc1⟩
   ·rw [if_neg (by omega),if_pos hc];obtain ⟨f1,f2⟩:=hfo hc;refine Runs.app (C:=[ins 6 (id:Nat) 0]) (zPG hv f1) (Runs.app (h1:=(v,F++[((id:Nat):Int)])) ?_ (zIE hv));refine zCp ks _ v hv (λk hk a v hv=>?_);unfold zC2;split
    ·rename_i q
     exact zOs hv f2 (har3 k hk q)
    ·rename_i q
     exact zDw (λa v hv=>ih k a v _ (hwr k hk (by simpa using q)) hv) a v hv
   ·rw [if_neg (by omega),if_neg (by omega),if_pos hc];have hap:=zDx hc1 hc2 (ks:=ks.map (hd n)) (by rw [List.length_map];omega) htk;unfold zDL;simp only;have hva:∀ k ∈ ks.filter (λk=>!isA (hd n k)),Wr own nm n k:=λk hk=>by
     obtain ⟨h1,h2⟩:=List.mem_filter.1 hk;exact hwr k h1 (by simpa using h2)
    obtain ⟨k1,hk1,e1,i1⟩:=zCw (zJ5 (d:=(⟨0,v0I,0,⟨#[]⟩,0,Wt.r0,Wt.r0⟩:Wt.Nd)) hap);obtain ⟨k2,hk2,e2,i2⟩:=zCw (zDy (d:=(⟨0,v0I,0,⟨#[]⟩,0,Wt.r0,Wt.r0⟩:Wt.Nd)) hap);have hshp:pairs ((id:Nat):Int)=true->shp (zA8 own nm ((zAr (ks.map (hd n))).headD ⟨0,v0I,0,⟨#[]⟩,0,Wt.r0,Wt.r0⟩)) (zA8 own nm ((zAr (ks.map (hd n))).getLastD ⟨0,v0I,0,⟨#[]⟩,0,Wt.r0,Wt.r0⟩))=true:=λq=>by
     unfold zBF at hsh;rw [if_pos q] at hsh;exact hsh
    rw [<-e1] at i1;rw [<-e2] at i2;have r1:=har3 k1 hk1 i1;have r2:=har3 k2 hk2 i2;rw [e1] at r1;rw [e2] at r2;generalize (zAr (ks.map (hd n))).headD ⟨0,v0I,0,⟨#[]⟩,0,Wt.r0,Wt.r0⟩=y1 at r1 hshp ⊢;generalize (zAr (ks.map (hd n))).getLastD ⟨0,v0I,0,⟨#[]⟩,0,Wt.r0,Wt.r0⟩=y2 at r2 hshp ⊢;have r1':=Wpl.rightA_iff.1 r1;by_cases q26:((id:Nat):Int)=26
    ·rw [if_pos q26];exact zKD hv (zCg (by omega) (by omega))
    rw [if_neg q26];by_cases q27:((id:Nat):Int)=27
    ·rw [if_pos q27];exact zKD hv (zCg (by omega) (by omega))
    rw [if_neg q27];have hvs:∀ k ∈ ks.filter (λk=>!isA (hd n k)),∀ (F:List Int) a v,0<=v->Runs rgt N a (cod own nm n k a) (v,F) (v+1,F):=λk hk F a v hv=>ih k a v F (hva k hk) hv
    by_cases q25:((id:Nat):Int)=25
    ·rw [if_pos q25];rw [q25] at htk har hmx;have hb:=zKy (h:=hd n) (ks:=ks) (by have:(zAO 25).l=2:=rfl;omega) (by have:(zAO 25).m=3:=rfl;omega) htk;refine (zCF _ a v hv (λk hk a v hv=>hvs k hk F a v hv)).app (zOw hv (by omega) r1)
    rw [if_neg q25];have hfd:fld ((id:Nat):Int)=true:=by
     unfold fld;rw [decide_eq_true_eq];omega
    refine Runs.app (C:=[ins 6 (id:Nat) 0]) (zPG hv hfd) ?_;refine Runs.app (h1:=(v,F++[((id:Nat):Int)])) ?_ ?_
    ·exact zCp _ _ v hv (λk hk a v hv=>zDw (λa v hv=>hvs k hk _ a v hv) a v hv)
    ·cases qp:pairs ((id:Nat):Int) with
     | true =>
      simp only [if_true];exact Runs.app (C:=[zAv 9 0 (zA8 own nm y1) (zA8 own nm y2)]) (zQh hv qp r1 r2 (hshp qp)) (zIE hv)
     | false =>
      simp only [Bool.false_eq_true,if_false];exact Runs.app (C:=[zAv 8 0 (zA8 own nm y1) a0I]) (zOs hv qp r1) (zIE hv)
   ·rw [if_neg (by omega),if_neg (by omega),if_neg (by omega)];have hna:=hvv hc1;have h2:2<=ks.length:=by omega
    match ks,h2,hna,hwr,hl30,hpa,hmx with
    | c::u::r,_,hna,hwr,hl30,hpa,hmx =>
     have wc:=hwr c (by simp) (hna c (by simp));have wu:=hwr u (by simp) (hna u (by simp));have wr:∀ k ∈ u::r,Wr own nm n k:=λk hk=>hwr k (List.mem_cons_of_mem _ hk) (hna k (List.mem_cons_of_mem _ hk))
     simp only [zCi];refine (ih c a v F wc hv).app ?_;obtain ⟨b,hb⟩:∃ b,a+(cod own nm n c a).length=b:=⟨_,rfl⟩
     rw [hb];by_cases q30:((id:Nat):Int)=30
     ·rw [if_pos q30];rw [q30] at hmx;have hr1:r.length<=1:=by
       have:(zAO 30).m=3:=rfl;simp only [List.length_cons] at hpa;omega
      unfold zDM;simp only;refine Runs.bran (m:=b+1+(cod own nm n u (b+1)).length+1) (e:=b+1+(cod own nm n u (b+1)).length+1+(if r.isEmpty=true then [zBd zLk] else zA6 (cod own nm n) r (b+1+(cod own nm n u (b+1)).length+1)).length) ⟨rfl,rfl,rfl⟩ ⟨rfl,rfl⟩ (zQx _ _) (zOu _) hv rfl rfl (hpos u _ wu) ?_ (ih u _ v F wu hv) ?_
      ·match r,hr1 with
       | [],_=>simp
       | [z],_ =>
        have:=hpos z (b+1+(cod own nm n u (b+1)).length+1) (wr z (by simp));simp only [List.isEmpty_cons,Bool.false_eq_true,if_false,zA6,List.length_append,List.length_nil];omega
      ·match r,hr1 with
       | [],_ =>
        simp only [List.isEmpty_nil,if_true];exact zKD hv (by rfl)
       | [z],_ =>
        simp only [List.isEmpty_cons,Bool.false_eq_true,if_false,zA6,List.append_nil];exact ih z _ v F (wr z (by simp)) hv
     rw [if_neg q30];by_cases q31:((id:Nat):Int)=31
     ·rw [if_pos q31];exact Runs.guard (e:=b+1+(cod own nm n u (b+1)).length) ⟨rfl,rfl⟩ (zRN _) hv rfl (hpos u _ wu) (ih u _ v F wu hv)
     rw [if_neg q31];exact zIT hv zOu zQ7 (u::r) (by simp) (by simp only [List.length_cons] at hl30 ⊢;omega) b (λk hk a=>hpos k a (wr k hk)) (λk hk a=>ih k a v F (wr k hk) hv)
   ·rw [if_pos hc];have hna:=hvv hc1;have q:=zCF (rg:=rgt) (n:=N) (f:=cod own nm n) (F:=F) ks a v hv (λk hk a v hv=>ih k a v F (hwr k hk (hna k hk)) hv);have hap:apl ((id:Nat):Int) x.ar=true:=by
     unfold apl;rw [hkn,hc];simp;omega
    refine q.app ?_;rw [<-hpa];exact zQ0 hv hap
theorem zHh {r c:Int} {t:Tr n} (hT:zC0 n t) (hE:flE own r c nm n t=0):Wc.chkP rgt (flC own nm n t)=true/\2<=(flC own nm n t).length:=by
 unfold flE at hE;have h1:Wpl.rightC own r c=true:=by
  cases q:Wpl.rightC own r c with
  | true=>rfl
  | false=>rw [q] at hE;simp at hE
 rw [if_neg (by simp [h1])] at hE;by_cases h2:(nm.length:Int)<=own
 ·rw [if_pos h2] at hE;omega
 rw [if_neg h2] at hE;by_cases h3:zCA own (nm.take 16) n t=0
 ·rw [if_neg (by simp [h3])] at hE;cases h4:isA (hd n t) with
  | true=>rw [h4] at hE;simp at hE
  | false =>
   have hr:=Wpl.rightC_iff.1 h1;have hl:(nm.take 16).length<=16:=by rw [List.length_take];omega
   have wr:Wr own (nm.take 16) n t:=⟨hT,h3,h4⟩
   have hp:=zFF own (nm.take 16) n t 0 wr;have p:=zFm ⟨hr.1,hr.2.1⟩ hl (flC own nm n t).length n t 0 0 [] wr (by omega);refine ⟨?_,by simp [flC];omega⟩;rw [zPI];unfold zQ6;have e:(flC own nm n t).getLast? = some (ins 16 0 0):=by simp [flC]
   rw [e];have hL:(flC own nm n t).length=(cod own (nm.take 16) n t 0).length+1:=by simp [flC]
   obtain ⟨S,e1,e2,e3,_⟩:=p.run (sR (flC own nm n t).length) (by simp [sR]) (by omega) (by
     unfold sR;rw [getD_set _ _ _ _ (by simp;omega),if_pos rfl]) (λj h1 h2=>by
     unfold sR;rw [getD_set _ _ _ _ (by simp;omega),if_neg (by omega),List.getD_eq_getElem?_getD,List.getElem?_replicate];split <;> rfl) (λ_=>by
     unfold sR;rw [getD_set _ _ _ _ (by simp;omega),if_neg (by omega),List.getD_eq_getElem?_getD,List.getElem?_replicate];left
     split <;> rfl)
   rw [Nat.zero_add] at e3;have e4:srI rgt (flC own nm n t).length (cod own (nm.take 16) n t 0).length (ins 16 0 0) S=some S:=by
    unfold srI;rw [if_pos zRG];unfold zDn;rw [e3];simp only;rw [if_pos (by
     unfold zBD;simp [ins,nds];omega)]
    simp [ins,ahd,zAw]
   have e5:zDo rgt (flC own nm n t).length 0 (flC own nm n t) (sR (flC own nm n t).length)=some S:=by
    have e6:flC own nm n t=cod own (nm.take 16) n t 0++[ins 16 0 0]:=rfl;generalize (flC own nm n t).length=M at *;rw [e6,zBm,e1];simp only [Option.bind_some,Nat.zero_add,zDo];rw [e4];rfl
   simp only;rw [zIk _ _ _ _ _ _ e5];rfl
 ·rw [if_pos h3] at hE;exact absurd hE h3
open Go.RowKit
theorem zBB (x:Wt.Nd):(zAM x).length=20:=rfl
def zCR (l:List Wt.Nd):List Value:=l.flatMap zAM
def OwnN (w:World) (B:Nat) (v:Value) (row:List Wt.Nd):Prop:=w.ownsRow B 56 20 v row.length (zCR row)
theorem zCU (l:List Wt.Nd):(zCR l).length=l.length * 20:=by
 induction l with
 | nil=>rfl
 | cons x r ih =>
  have e:zCR (x::r)=zAM x++zCR r:=by simp [zCR]
  rw [e,List.length_append,ih,zBB,List.length_cons];omega
theorem zEH (l:List Wt.Nd):∀ (i:Nat) (h:i<l.length) (j:Nat),j<20->(zCR l)[i * 20+j]? = (zAM (l[i]))[j]?:=by
 induction l with
 | nil=>intro i h;exact absurd h (Nat.not_lt_zero _)
 | cons x r ih =>
  intro i h j hj;have e:zCR (x::r)=zAM x++zCR r:=by simp [zCR]
  rw [e];cases i with
  | zero=>rw [List.getElem?_append_left (by rw [zBB];omega)];simp
  | succ i =>
   rw [List.getElem?_append_right (by rw [zBB];omega),zBB,show (i+1) * 20+j - 20=i * 20+j by omega];rw [ih i (by simpa using h) j hj];simp
theorem zIt (h:OwnN w B v L):∃ av cap,v=.slice av L.length cap/\L.length<=cap/\RdN w av L/\(0<L.length->∃ g,av=some ⟨g,0,none⟩):=by
 rcases h.2 with ⟨e,h0⟩ | ⟨g,cap,cur,e,hb,hg,h1,h2,h3,h4⟩
 ·exact ⟨none,0,by rw [e,h0],by omega,λi hi=>by omega,λhp=>by omega⟩
 ·refine ⟨some ⟨g,0,none⟩,cap,e,h1,λi hi=>⟨g,0,rfl,λj u hu=>?_⟩,λ_=>⟨g,rfl⟩⟩;have hj:j<20:=by
   have:=(List.getElem?_eq_some_iff.1 hu).1;rw [zBB] at this;exact this
  have hx:=zEH L i hi j hj;rw [hu,<-h4,List.getElem?_take_of_lt (by omega)] at hx;unfold World.cell?;simp only [hg];simpa using hx
theorem RdN.flat {av:Option Addr} (h:RdN w av L):∀ ad,av=some ad->∀ j u,(zCR L)[j]? = some u->w.cell? (ad.add j)=some u:=by
 intro ad had j u hu;have hj:j<L.length * 20:=by
  have:=(List.getElem?_eq_some_iff.1 hu).1;rw [zCU] at this;exact this
 have hd:j / 20<L.length:=by omega
 obtain ⟨bb,off,e,hc⟩:=h (j / 20) hd;rw [had] at e;obtain rfl:=Option.some.inj e;have h1:=zEH L (j / 20) hd (j % 20) (Nat.mod_lt _ (by omega));rw [show j / 20 * 20+j % 20=j by omega,hu] at h1;have h2:=hc (j % 20) u h1.symm;rw [show off+j / 20 * 20+j % 20=off+j by omega] at h2;rw [Addr.add_mid];exact h2
theorem zHv (l:List Wt.Nd):∀ u ∈ zCR l,u.oneCell'=true:=by
 intro u hu;unfold zCR at hu;obtain ⟨x,_,hu⟩:=List.mem_flatMap.1 hu;exact zIx x u hu
open Go.RowKit Wf
theorem zOI:(prog.info? 9).map (λi=>(i.zero,i.size,i.bytes))=some (some (.string ⟨#[]⟩),1,16):=by kernel_rfl
theorem zCI (w:World) (T:TypeId) (k:Nat):(w.alloc (.cells #[] T)).ownsRow w.heap.size T k (.slice (some ⟨w.heap.size,0,none⟩) 0 0) 0 []:=by
 refine ⟨by simp,.inr ⟨w.heap.size,0,#[],rfl,Nat.le_refl _,heap_alloc_new w _,Nat.le_refl _,by unfold maxLen;omega,by simp,by simp⟩⟩
theorem zHQ {L:List ByteArray} (h:w.ownsRow B 9 1 v L.length (L.map Value.string)):∃ av cap,v=.slice av L.length cap/\L.length<=cap/\RdS w av L:=by
 rcases h.2 with ⟨e,h0⟩ | ⟨g,cap,cur,e,hb,hg,h1,h2,h3,h4⟩
 ·refine ⟨none,0,by rw [e,h0],by omega,λi hi=>by omega⟩
 ·refine ⟨some ⟨g,0,none⟩,cap,e,h1,λi hi=>⟨g,0,rfl,?_⟩⟩;have hx:(L.map Value.string)[i]? = some (.string (L[i])):=by simp [hi]
  rw [<-h4,List.getElem?_take_of_lt (by omega)] at hx;unfold World.cell?;simp only [hg];simpa using hx
def zR2 (w:World) (B:Nat) (v:Value) (L:List ByteArray):Prop:=w.ownsRow B 9 1 v L.length (L.map Value.string)
theorem OwnN.below {w':World} (h:OwnN w B v L) (hb:Below w.heap.size w w'):OwnN w' B v L:=zAR (Fr.of_below [] hb) h (by simp)
theorem zIV {o:Oper} {a:Act} {K:Act->World->Prop} {Q:Exit->Act->World->Prop} (s x:Operand) (ho:o.op=.call {callee:=.builtin .append,args:=#[s,x],argTypes:=#[22,22]})
  (B:Nat) (w:World) (hB:B<=w.heap.size) (v:Value) (hs:a.eval s=v) (hown:w.ownsRow B 56 20 v 0 []) (av:Option Addr) (L:List Wt.Nd) (m cap:Nat) (hm:m=L.length) (hx:a.eval x=.slice av m cap) (hr:RdN w av L) (hno:av=none->m=0/\cap=0) (hl:True->L.length<=799644820177)
  (h:∀ v' w',OwnN w' B v' L->w.grownBy w' v.ownBlock->K (a.put o.dst v') w'):o.wp prog a w K Q:=by
 obtain ⟨i0,hi0,hz0,hz1,hz2⟩:=info_parts zKC;have hl:=hl trivial;subst hm;cases av with
 | some ad =>
  refine wp_append_own _ s x 22 ho B 56 i0 _ 20 176 underlying22 hi0 hz0 hz1 hz2 rfl (by decide) _ 0 [] hs hown ad L.length cap (zCR L) hx (zCU L) (hr.flat ad rfl) (zHv L) (by unfold maxLen;omega) (by omega) hB ?_;intro v' w' own hg _;rw [Nat.zero_add,List.nil_append] at own;exact h v' w' own hg
 | none =>
  obtain ⟨h0,rfl⟩:=hno rfl;have hL:L=[]:=List.eq_nil_of_length_eq_zero h0;subst hL;have hrun:=run_append_owned_none (P:=prog) (w:=w) B 22 o.type 56 i0 20 underlying22 hi0 _ 0 [] hown;have hx:a.eval x=.slice none 0 0:=hx;unfold Oper.wp;simp only [execOp,ho,resolve,invoke,builtin,Sem.run_bind,Sem.run_pure,Result.andThen_ok,List.map_toArray,List.map_cons,List.map_nil,hs,hx,hrun];exact h _ _ hown (World.grownBy.refl _ _)
theorem zI1 {o:Oper} {a:Act} {K:Act->World->Prop} {Q:Exit->Act->World->Prop} (s x:Operand) (ho:o.op=.call {callee:=.builtin .append,args:=#[s,x],argTypes:=#[25,25]})
  (B:Nat) (w:World) (hB:B<=w.heap.size) (v:Value) (hs:a.eval s=v) (hown:w.ownsRow B 9 1 v 0 []) (av:Option Addr) (L:List ByteArray) (m cap:Nat) (hm:m=L.length) (hx:a.eval x=.slice av m cap) (hr:RdS w av L) (hno:av=none->m=0/\cap=0) (hl:True->L.length<=20000)
  (h:∀ v' w',zR2 w' B v' L->w.grownBy w' v.ownBlock->K (a.put o.dst v') w'):o.wp prog a w K Q:=by
 obtain ⟨i0,hi0,hz0,hz1,hz2⟩:=info_parts zOI;have hl:=hl trivial;subst hm;cases av with
 | some ad =>
  refine wp_append_own _ s x 25 ho B 9 i0 _ 1 16 underlying25 hi0 hz0 hz1 hz2 rfl (by decide) _ 0 [] hs hown ad L.length cap (L.map Value.string) hx (by simp) ?_ ?_ (by unfold maxLen;omega) (by omega) hB ?_
  ·intro j u hu;have hj:j<L.length:=by
    have:=(List.getElem?_eq_some_iff.1 hu).1;simpa using this
   obtain ⟨bb,off,e2,hc⟩:=hr j hj;cases e2
   rw [List.getElem?_map,List.getElem?_eq_getElem hj] at hu;simp at hu;rw [<-hu,Addr.add_mid];exact hc
  ·intro u hu;obtain ⟨b,_,rfl⟩:=List.mem_map.1 hu;rfl
  ·intro v' w' own hg _;rw [Nat.zero_add,List.nil_append] at own;exact h v' w' own hg
 | none =>
  obtain ⟨h0,rfl⟩:=hno rfl;have hL:L=[]:=List.eq_nil_of_length_eq_zero h0;subst hL;have hrun:=run_append_owned_none (P:=prog) (w:=w) B 25 o.type 9 i0 1 underlying25 hi0 _ 0 [] hown;have hx:a.eval x=.slice none 0 0:=hx;unfold Oper.wp;simp only [execOp,ho,resolve,invoke,builtin,Sem.run_bind,Sem.run_pure,Result.andThen_ok,List.map_toArray,List.map_cons,List.map_nil,hs,hx,hrun];exact h _ _ hown (World.grownBy.refl _ _)
theorem zBh {T:TypeId} {k g o m c:Nat} (h:w.ownsRow B T k (.slice (some ⟨g,o,none⟩) m c) n xs):B<=g:=by
 rcases h.2 with ⟨q,_⟩ | ⟨a,cap,cur,q,hb,_⟩
 ·cases q
 ·cases q;exact hb
theorem zAc {B':Nat} {T T':TypeId} {k k' n':Nat} {v':Value} {xs':List Value} (h:w.ownsRow B T k v n xs) (h':w.ownsRow B' T' k' v' n' xs') (hT:T ≠ T'):∀ g,v.ownBlock=some g->v'.ownBlock ≠ some g:=by
 intro g e e';rcases h.2 with ⟨q,_⟩ | ⟨a,cap,cur,q,_,hg,_⟩
 ·rw [q] at e;cases e
 ·rcases h'.2 with ⟨q',_⟩ | ⟨a',cap',cur',q',_,hg',_⟩
  ·rw [q'] at e';cases e'
  ·rw [q] at e;rw [q'] at e';cases e
   cases e'
   rw [hg] at hg';simp only [Option.some.injEq,Obj.cells.injEq] at hg';exact hT hg'.2.1
end Go.Proofs.YtnloiaoogofklaaGreatDoor
namespace Wpl
theorem zHo {s t l b r:Int} (h:rightA s t l b r=true):zHW s t l b r=(b - t+1) * (r - l+1):=by unfold zHW;rw [h];rfl
theorem zII {s t l b r:Int} (h:rightA s t l b r=false):zHW s t l b r=0:=by unfold zHW;rw [h];rfl
def zPK (s t l b r k:Int):Bool:=inB k (zHW s t l b r)
def num (s t l r k:Int):Cl:=⟨s,t+k / (r - l+1),l+k % (r - l+1)⟩
theorem zCP {s t l b r k:Int} (h:zPK s t l b r k=true):rightA s t l b r=true:=by
 cases e:rightA s t l b r with
 | true=>rfl
 | false =>
  unfold zPK at h;rw [zJV,zII e] at h;omega
theorem zP3 {s t l b r k:Int} (h:zPK s t l b r k=true) :
  0<=k/\k<(b - t+1) * (r - l+1)/\0<=k / (r - l+1)/\k / (r - l+1)<b - t+1/\0<=k % (r - l+1)/\k % (r - l+1)<r - l+1:=by
 have hr:=rightA_iff.1 (zCP h);have h':=h;unfold zPK at h';rw [zJV,zHo (zCP h)] at h';have hp:0<r - l+1:=by omega
 refine ⟨h'.1,h'.2,Int.ediv_nonneg h'.1 (by omega),?_,Int.emod_nonneg _ (by omega),Int.emod_lt_of_pos _ hp⟩;exact Int.ediv_lt_of_lt_mul hp h'.2
theorem zCg {s t l b r k:Int} (h:zPK s t l b r k=true):rightC (num s t l r k).s (num s t l r k).r (num s t l r k).c=true:=by
 have hk:=zP3 h;have hr:=rightA_iff.1 (zCP h);rw [rightC_iff];show 0<=s/\s<16/\0<=t+k / (r - l+1)/\t+k / (r - l+1)<65536/\0<=l+k % (r - l+1)/\l+k % (r - l+1)<256;omega
end Wpl
namespace Go.Proofs.YtnloiaoogofklaaGreatDoor
open Tryz
open Go.RowKit
variable {w w':World} {F A:List Wpl.Ar} {b B mb:Nat} {v:Value} {ops:Array Oper} {rest:List Oper} {a:Act} {Q:Exit->Act->World->Prop}
theorem zGV (s r c:Int):Wpl.hullOk (λ_=>⟨s,r,c⟩) 1=Wpl.rightC s r c:=by
 simp [Wpl.hullOk,Wpl.anyN,Wpl.lacks]
def zEl (s r c:Int):Wpl.Ar:=if Wpl.rightC s r c then ⟨s,r,c,r,c⟩ else Wpl.nullA
theorem zMz (s r c:Int):Wpl.hullV (λ_=>⟨s,r,c⟩) 1=zEl s r c:=by
 unfold Wpl.hullV zEl;rw [zGV];rfl
theorem zJ1 {W:World} {k:Nat} {s r c:Int} (h:AtL W k [.int .i64 s,.int .i64 r,.int .i64 c]):Cells W k 0 1 (λ_=>⟨s,r,c⟩):=λj hj=>by
 obtain rfl:j=0:=by omega
 exact ⟨h.2.1 0 _ rfl,h.2.1 1 _ rfl,h.2.1 2 _ rfl⟩
theorem zGq (s r c:Int) (w:World) :
  CR 46 #[.agg #[.int .i64 s,.int .i64 r,.int .i64 c]] w (.tuple #[.agg #[.int .i64 (zEl s r c).s,.int .i64 (zEl s r c).t,.int .i64 (zEl s r c).l,.int .i64 (zEl s r c).b,.int .i64 (zEl s r c).r],.bool (Wpl.rightC s r c)]):=by
 have HL:=λ(k:Nat) (w:World) (hk:AtL w k [.int .i64 s,.int .i64 r,.int .i64 c])=>zFq k 0 1 1 (λ_=>⟨s,r,c⟩) w (by omega) (by omega) (by omega) (by omega) hk.lt (zJ1 hk)
 simp only [zGV,zMz] at HL;generalize zEl s r c=V at *;generalize Wpl.rightC s r c=ok at *;obtain ⟨v0,v1,v2,v3,v4⟩:=V;go_enter func46,ntmps46;go_wp2_with fail
 refine (HL _ _ (by with_reducible first | exact AtL.new0 _ _ _ | exact AtL.new1 _ _ _ _ | exact AtL.new ((w.alloc _).alloc _) _ (by simp only [World.size_alloc]) _)).mono ?_;rintro e w1 ⟨rfl,hb1⟩;have pR:AtL w1 (w.heap.size+1) [.int .i64 0,.int .i64 0,.int .i64 0,.int .i64 0,.int .i64 0]:=AtL.below hb1 ((AtL.new1 w _ _ _).alloc _);have hB:Below w.heap.size w w1:=clA
 clear hb1;obtain ⟨r0,r1,r2,r3,r4,f0,f1,f2,f3,f4⟩:=pR.five;go_wp2;refine bodyPost_ret (v:=.tuple #[.agg #[.int .i64 v0,.int .i64 v1,.int .i64 v2,.int .i64 v3,.int .i64 v4],.bool ok]) (by simp [results,results46,go_sem,r0,r1,r2,r3,r4]) rfl ⟨rfl,?_⟩;exact zBj hB (by omega) _ _ _ _ _
open Go.ChangeMaps (setBlock heap_setBlock_same heap_setBlock_other)
open Go.ChangeShapes Go.WideShapes Go.MapKept
abbrev zA7 (x:Wpl.Ar):List Value:=[.int .i64 x.s,.int .i64 x.t,.int .i64 x.l,.int .i64 x.b,.int .i64 x.r]
abbrev arV (x:Wpl.Ar):Value:=.agg #[.int .i64 x.s,.int .i64 x.t,.int .i64 x.l,.int .i64 x.b,.int .i64 x.r]
def rdA (x:Wc.In):List Wpl.Ar:=if x.op=2 then [zEl x.ce.s x.ce.r x.ce.c] else if x.op=8 \/ x.op=11 then [x.ar] else if x.op=9 then [x.ar,x.pr] else []
def ddA (out:List Wpl.Ar):List Wpl.Ar->List Wpl.Ar
 | []=>out
 | a::r=>if out.any (λy=>zBu y a)=true then ddA out r else ddA (out++[a]) r
theorem zMs (A C:List Wpl.Ar):∀ (out:List Wpl.Ar),ddA out (A++C)=ddA (ddA out A) C:=by
 induction A with
 | nil=>intro out;rfl
 | cons a r ih =>
  intro out;simp only [List.cons_append,ddA];split
  ·exact ih _
  ·exact ih _
theorem zDd:∀ (A out:List Wpl.Ar),(ddA out A).length<=out.length+A.length
 | [],out=>Nat.le_refl _
 | a::r,out=>by
  simp only [ddA];split
  ·have:=zDd r out;simp;omega
  ·have:=zDd r (out++[a]);simp at this ⊢;omega
def zDU (L:List (Wc.In × List Int)):List Wpl.Ar:=L.flatMap λx=>rdA x.1
theorem zHy (x:Wc.In):(rdA x).length<=2:=by
 unfold rdA;repeat' split
 all_goals simp
theorem zD0:∀ (L:List (Wc.In × List Int)),(zDU L).length<=2 * L.length
 | []=>Nat.le_refl _
 | x::r=>by
  have h1:=zD0 r;have h2:=zHy x.1;unfold zDU at h1 ⊢;simp only [List.flatMap_cons,List.length_append,List.length_cons];omega
theorem zJ3 {L:List (Wc.In × List Int)} {i:Nat} (h:i<L.length):zDU (L.take (i+1))=zDU (L.take i)++rdA (L[i]).1:=by
 unfold zDU;rw [List.take_succ_eq_append_getElem h,List.flatMap_append];simp
def zHE:Nat->List Wpl.Ar->List MapEntry
 | _,[]=>[]
 | i,x::r=>⟨arV x,.agg #[],i⟩::zHE (i+1) r
theorem zFg:∀ (F:List Wpl.Ar) (i:Nat) (x:Wpl.Ar),zHE i (F++[x])=zHE i F++[⟨arV x,.agg #[],i+F.length⟩]
 | [],i,x=>rfl
 | y::r,i,x=>by
  show _::zHE (i+1) (r++[x])=_::(zHE (i+1) r++_)
  rw [zFg r (i+1) x];have e:i+1+r.length=i+(r.length+1):=by omega
  rw [e];rfl
def AM (w:World) (b:Nat) (F:List Wpl.Ar):Prop:=∃ es:Array MapEntry,w.heap[b]? = some (.map es F.length)/\es.toList=zHE 0 F
theorem AM.lt (h:AM w b F):b<w.heap.size:=by
 obtain ⟨es,h,_⟩:=h;rcases Nat.lt_or_ge b w.heap.size with g | g
 ·exact g
 ·rw [Array.getElem?_eq_none g] at h;cases h
theorem AM.fr {S:List Nat} (h:AM w b F) (hf:Fr S w w') (hn:b ∉ S):AM w' b F:=by
 have hlt:=h.lt;obtain ⟨es,h1,h2⟩:=h;exact ⟨es,by rw [hf.block b hlt hn];exact h1,h2⟩
theorem AM.below (h:AM w b F) (hb:Below w.heap.size w w'):AM w' b F:=h.fr (Fr.of_below [] hb) (by simp)
theorem zQu (em:Bool) (x:Wpl.Ar) (w:World):(Instr.checkKey em 10000 45 (arV x)).run prog w=.ok () w:=by kernel_rfl
theorem zM0 (x y:Wpl.Ar) (w:World):(Op.equal 45 (arV x) (arV y)).run prog w=.ok (zBu x y) w:=by
 show (Op.equalIn (9998+2) 45 _ _).run _ _=_
 unfold zBu;by_cases h1:x.s=y.s
 ·by_cases h2:x.t=y.t
  ·by_cases h3:x.l=y.l
   ·by_cases h4:x.b=y.b
    ·by_cases h5:x.r=y.r
     ·simp [go_sem,h1,h2,h3,h4,h5]
     ·simp [go_sem,h1,h2,h3,h4,h5]
    ·simp [go_sem,h1,h2,h3,h4]
   ·simp [go_sem,h1,h2,h3]
  ·simp [go_sem,h1,h2]
 ·simp [go_sem,h1]
theorem zIF (x y:Wpl.Ar):zBu x y=zBu y x:=by
 rw [Bool.eq_iff_iff,zCb,zCb];exact ⟨λh=>h.symm,λh=>h.symm⟩
theorem zPh (x:Wpl.Ar) (w:World):∀ (F:List Wpl.Ar) (i:Nat),(Instr.findAsking 45 (arV x) (zHE i F) i).run prog w=.ok ((F.findIdx? (λy=>zBu y x)).map λk=>(i+k,Value.agg #[])) w
 | [],i=>rfl
 | y::r,i=>by
  have h:=zPh x w r (i+1);have e:=zM0 x y w;rw [zIF] at e;unfold zHE;rw [List.findIdx?_cons];cases hq:zBu y x with
  | true =>
   rw [hq] at e;simp [Instr.findAsking,e,Result.andThen]
  | false =>
   rw [hq] at e;simp [Instr.findAsking,e,Result.andThen,h];cases r.findIdx? (λy=>zBu y x) with
   | none=>rfl
   | some k =>
    simp;omega
theorem zQo (x:Wpl.Ar) (F:List Wpl.Ar) (w:World):(Instr.findKey 45 (arV x) (zHE 0 F)).run prog w=.ok ((F.findIdx? (λy=>zBu y x)).map λk=>(k,Value.agg #[])) w:=by
 have h:=zPh x w F 0;cases F with
 | nil=>simp [Instr.findKey,go_sem,zHE,Instr.findNow]
 | cons y r =>
  simp [Instr.findKey,go_sem,zHE,Instr.findNow,Instr.sameNow];simpa [zHE] using h
theorem zMx:prog.underlying 83=some (.map 45 85):=by kernel_rfl
theorem zD7 (F:List Wpl.Ar) (x:Wpl.Ar):F.findIdx? (λy=>zBu y x)=none ↔ F.any (λy=>zBu y x)=false:=by
 rw [List.findIdx?_eq_none_iff,List.any_eq_false];exact ⟨λh y hy=>by simp [h y hy],λh y hy=>by simpa using h y hy⟩
theorem zRJ (h:AM w mb F) (x:Wpl.Ar):(Instr.lookup 83 (.map (some mb)) (arV x) true).run prog w=.ok (.tuple #[.agg #[],.bool (F.any (λy=>zBu y x))]) w:=by
 obtain ⟨es,h1,h2⟩:=h;cases hk:F.findIdx? (λy=>zBu y x) with
 | none =>
  rw [(zD7 F x).1 hk];refine zDC zMx h1 (zQu _ _ _) ?_ (by kernel_rfl);rw [h2,zQo,hk];rfl
 | some k =>
  have:F.any (λy=>zBu y x)=true:=by
   cases q:F.any (λy=>zBu y x) with
   | true=>rfl
   | false=>rw [(zD7 F x).2 q] at hk;cases hk
  rw [this];refine zA1 (j:=k) zMx h1 (zQu _ _ _) ?_;rw [h2,zQo,hk];rfl
theorem zRB (h:AM w mb F) {x:Wpl.Ar} (hk:F.any (λy=>zBu y x)=false):∃ w',(Instr.mapUpdate 83 (.map (some mb)) (arV x) (.agg #[])).run prog w=.ok () w'/\AM w' mb (F++[x])/\w.grownBy w' (some mb):=by
 obtain ⟨es,h1,h2⟩:=h;refine ⟨_,zFR zMx h1 _ (zQu _ _ _) (by rw [h2,zQo,(zD7 F x).2 hk];rfl),⟨es.push ⟨arV x,.agg #[],F.length⟩,?_,?_⟩,zCv h1 _⟩
 ·rw [heap_setBlock_same h1,List.length_append];rfl
 ·rw [Array.toList_push,h2,zFg];simp
theorem zEY {op:Oper} (hgd:op.guard=none) (m x v:Operand) (ho:op.op=.mapUpdate 83 m x v) (b:Nat) (hm:a.eval m=.map (some b)) (y:Wpl.Ar) (hx:a.eval x=arV y) (hv:a.eval v=.agg #[])
  (F:List Wpl.Ar) (hb:AM w b F) (hk:F.any (λz=>zBu z y)=false) (h:∀ w',AM w' b (F++[y])->w.grownBy w' (some b)->wpList prog ops Q rest (a.put op.dst (.tuple #[])) w'):wpList prog ops Q (op::rest) a w:=by
 obtain ⟨w',e,hA,hg⟩:=zRB hb hk;refine wpList_plain hgd λK hK=>?_
 unfold Oper.wp execOp;simp only [ho,hm,hx,hv,Sem.run_bind,Sem.run_pure,Result.andThen_ok,e];exact hK _ _ (h w' hA hg)
def zAQ:List Wpl.Ar->List Value
 | []=>[]
 | x::r=>zA7 x++zAQ r
theorem zBW:∀ A:List Wpl.Ar,(zAQ A).length=A.length * 5
 | []=>rfl
 | x::r=>by simp [zAQ,zBW r];omega
theorem zBe:∀ (A C:List Wpl.Ar),zAQ (A++C)=zAQ A++zAQ C
 | [],C=>rfl
 | x::r,C=>by simp [zAQ,zBe r C]
theorem zE9:∀ (A:List Wpl.Ar),∀ v ∈ zAQ A,v.oneCell'=true
 | [],v,h=>by cases h
 | x::r,v,h=>by
  simp only [zAQ,zA7,List.mem_append,List.mem_cons,List.not_mem_nil,or_false] at h;rcases h with (rfl | rfl | rfl | rfl | rfl) | h
  ·rfl
  ·rfl
  ·rfl
  ·rfl
  ·rfl
  ·exact zE9 r v h
theorem zET:∀ (A:List Wpl.Ar) (i j:Nat) (h:i<A.length),j<5->(zAQ A)[i * 5+j]? = (zA7 (A[i]))[j]?
 | x::r,0,j,_,hj=>by
  show (zA7 x++zAQ r)[0 * 5+j]? = _
  rw [List.getElem?_append_left (by simp;omega)];simp
 | x::r,i+1,j,h,hj=>by
  have ih:=zET r i j (by simpa using h) hj;show (zA7 x++zAQ r)[(i+1) * 5+j]? = _
  rw [List.getElem?_append_right (by simp;omega)];have e:(i+1) * 5+j - (zA7 x).length=i * 5+j:=by simp;omega
  rw [e,ih];rfl
def OwnA (w:World) (B:Nat) (v:Value) (A:List Wpl.Ar):Prop:=w.ownsRow B 45 5 v A.length (zAQ A)
theorem OwnA.nil (w:World) (B:Nat):OwnA w B (.slice none 0 0) []:=⟨rfl,Or.inl ⟨rfl,rfl⟩⟩
theorem OwnA.blk (h:OwnA w B v A) {g:Nat} (e:v.ownBlock=some g):B<=g/\g<w.heap.size:=zAI h e
theorem OwnA.below (h:OwnA w B v A) (hb:Below w.heap.size w w'):OwnA w' B v A:=zAR (Fr.of_below [] hb) h (by simp)
def RdA (w:World) (v:Value) (A:List Wpl.Ar):Prop:=∃ av cap,v=.slice av A.length cap/\∀ i (h:i<A.length),∃ bb off,av=some ⟨bb,off,none⟩/\w.rangeAt bb (off+i * 5) (zA7 (A[i]))
theorem RdA.below (h:RdA w v A) (hb:Below w.heap.size w w'):RdA w' v A:=by
 obtain ⟨av,cap,e,h⟩:=h;refine ⟨av,cap,e,λi hi=>?_⟩;obtain ⟨bb,off,e1,h1⟩:=h i hi;exact ⟨bb,off,e1,λj v hv=>zAC hb (h1 j v hv)⟩
theorem RdA.nil (w:World):RdA w (.slice none 0 0) []:=⟨none,0,rfl,λi hi=>absurd hi (Nat.not_lt_zero _)⟩
theorem RdA.at0 {cap:Nat} (h:∀ j u,(zAQ A)[j]? = some u->w.cell? ⟨b,j,none⟩=some u):RdA w (.slice (some ⟨b,0,none⟩) A.length cap) A:=by
 refine ⟨_,_,rfl,λi hi=>⟨b,0,rfl,λj u hu=>?_⟩⟩;have hj:j<5:=by
  rcases Nat.lt_or_ge j 5 with q | q
  ·exact q
  ·rw [List.getElem?_eq_none (by simpa using q)] at hu;cases hu
 rw [Nat.zero_add];exact h _ _ (by rw [zET A i j hi hj];exact hu)
theorem OwnA.rd (h:OwnA w B v A):RdA w v A:=by
 rcases h.2 with ⟨e,h0⟩ | ⟨g,cap,cur,e,hb,hg,h1,h2,h3,h4⟩
 ·have hA:A=[]:=List.eq_nil_of_length_eq_zero h0;subst hA;rw [e];exact RdA.nil w
 ·rw [e];refine RdA.at0 λj u hu=>?_
  have hl:=zBW A;have hj:j<A.length * 5:=by
   rw [<-hl];rcases Nat.lt_or_ge j (zAQ A).length with q | q
   ·exact q
   ·rw [List.getElem?_eq_none q] at hu;cases hu
  rw [<-h4,List.getElem?_take_of_lt (by omega)] at hu;unfold World.cell?;simp only [hg];simpa using hu
theorem zCh:(prog.info? 45).map (λi=>(i.zero,i.size,i.bytes))=some (some (.agg #[.int .i64 0,.int .i64 0,.int .i64 0,.int .i64 0,.int .i64 0]),5,40):=by kernel_rfl
theorem zE6 {ops:Array Oper} {rest:List Oper} {o:Oper} {a:Act} {Q:Exit->Act->World->Prop} (hgd:o.guard=none) (s x:Operand) (ho:o.op=.call {callee:=.builtin .append,args:=#[s,x],argTypes:=#[34,34]})
  (w:World) (B:Nat) (hB:B<=w.heap.size) (v:Value) (A:List Wpl.Ar) (hs:a.eval s=v) (hown:OwnA w B v A) (g n:Nat) (L:List Wpl.Ar) (hn:n=L.length) (hx:a.eval x=.slice (some ⟨g,0,none⟩) n n) (hat:AtL w g (zAQ L)) (hl:A.length+L.length<=4000000)
  (h:∀ v' w',OwnA w' B v' (A++L)->w.grownBy w' v.ownBlock->wpList prog ops Q rest (a.put o.dst v') w'):wpList prog ops Q (o::rest) a w:=by
 subst hn;obtain ⟨i0,hi0,hz0,hz1,hz2⟩:=info_parts zCh;refine wpList_plain hgd λK hK=>?_
 refine wp_append_own _ s x 34 ho B 45 i0 _ 5 40 underlying34 hi0 hz0 hz1 hz2 rfl (by decide) v A.length (zAQ A) hs hown ⟨g,0,none⟩ L.length L.length (zAQ L) hx (zBW L) (λj u hj=>?_) (zE9 L) (by unfold maxLen;omega) (by omega) hB ?_
 ·have:=hat.2.1 j u hj;rw [show (⟨g,0,none⟩:Addr).add j=⟨g,j,none⟩ from by
   simp [Addr.add];try (intro h0;omega)]
  exact this
 ·intro v' w' own hg _;refine hK _ _ (h v' w' ?_ hg);unfold OwnA;rw [List.length_append,zBe];exact own
theorem zAn (i:Nat) (x:Wc.In) (tl:List Int) (M:List (Option (Int × Nat))) (F:List (Nat × Int)):Wc.spI i (x,tl) (M,F)=match M.getD i none with
  | none=>none
  | some (v,m)=>match zFo F x v m with
   | none=>none
   | some (h2,F2)=>match Wc.handP h2 (onw x.op x.a x.b tl i).1 M with
    | none=>none
    | some M1=>match Wc.handP (v,m) (onw x.op x.a x.b tl i).2 M1 with
     | none=>none
     | some M2=>some (M2,F2):=by
 unfold Wc.spI Wc.stepP zFo;simp only;cases M.getD i none with
 | none=>rfl
 | some q =>
  obtain ⟨v,m⟩:=q;simp only;cases Wc.behF F x.op x.a m with
  | none=>rfl
  | some q =>
   obtain ⟨m2,F2⟩:=q;simp only;split
   ·rfl
   ·rfl
theorem zJt {F:List (Nat × Int)} {o a:Int} {m m2:Nat} {F2:List (Nat × Int)} (h:Wc.behF F o a m=some (m2,F2)):F2.length<=F.length+1:=by
 unfold Wc.behF at h;repeat' split at h
 all_goals first
  | cases h;done
  | (cases h;simp)
theorem zOa {F:List (Nat × Int)} (hr:Wc.Rows F) {o a:Int} {m m2:Nat} {F2:List (Nat × Int)} (hm:m<=F.length) (h:Wc.behF F o a m=some (m2,F2)):Wc.Beh F o a m m2 F2:=by
 cases hb:Wc.bst o (Wc.rw0 F m) with
 | false=>rw [Wc.beh_none hr hm hb] at h;cases h
 | true =>
  obtain ⟨m3,F3,h3,B⟩:=Wc.beh_some (a:=a) hr hm hb;rw [h] at h3;cases h3
  exact B
structure PInv (i:Nat) (M:List (Option (Int × Nat))) (F:List (Nat × Int)):Prop where
 len:F.length<=i
 rows:Wc.Rows F
 zero:M.getD 0 none=some (0,0)
 at':∀ (j:Nat) (v:Int) (m:Nat),M.getD j none=some (v,m)->0<=v/\v<=i/\m<=F.length
theorem zE1 {α:Type} (l:List (Option α)) (i j:Nat) (x:Option α):(l.set i x).getD j none=if i=j/\i<l.length then x else l.getD j none:=by
 by_cases hi:i<l.length
 ·rw [Wc.getD_set l i j x hi];by_cases h:i=j
  ·simp [h,h ▸ hi]
  ·simp [h]
 ·rw [List.set_eq_of_length_le (by omega),if_neg (by omega)]
theorem zEF {h:Int × Nat}:∀ (pl:List Int) (M M2:List (Option (Int × Nat))),Wc.handP h pl M=some M2->(∀ j ∈ pl,0<j)->M2.getD 0 none=M.getD 0 none/\∀ (j:Nat) (g:Int × Nat),M2.getD j none=some g->g=h \/ M.getD j none=some g:=by
 intro pl;induction pl with
 | nil =>
  intro M M2 e _;cases e
  exact ⟨rfl,λj g q=>Or.inr q⟩
 | cons p r ih =>
  intro M M2 e hp;have hp0:=hp p (List.mem_cons_self ..);have hr:∀ j ∈ r,0<j:=λj hj=>hp j (List.mem_cons_of_mem _ hj)
  have key:Wc.handP h r (M.set p.toNat (some h))=some M2->M2.getD 0 none=M.getD 0 none/\∀ (j:Nat) (g:Int × Nat),M2.getD j none=some g->g=h \/ M.getD j none=some g:=by
   intro e2;obtain ⟨h1,h2⟩:=ih _ _ e2 hr;refine ⟨by rw [h1,zE1,if_neg (by omega)],λj g q=>?_⟩;rcases h2 j g q with q2 | q2
   ·exact Or.inl q2
   ·rw [zE1] at q2;split at q2
    ·exact Or.inl (by cases q2;rfl)
    ·exact Or.inr q2
  simp only [Wc.handP] at e;split at e
  ·exact key e
  ·split at e
   ·exact key e
   ·cases e
theorem zOx {x:Wc.In} {tl:List Int} (h:rgt x tl=true):0<=(Wc.swO x.op x.b).1/\(Wc.swO x.op x.b).1<=1000/\0<=(Wc.swO x.op x.b).2/\(Wc.swO x.op x.b).2<=1:=by
 by_cases h5:x.op=5
 ·rw [zKa h5,Bool.and_eq_true] at h;have ha:=h.1;unfold apl at ha;simp only [Bool.and_eq_true,decide_eq_true_eq] at ha;have hb:0<=(zAO x.a).l/\(zAO x.a).m<=30:=by
   unfold zAO;split
   ·exact ⟨by decide,by decide⟩
   ·split
    ·unfold zJB;repeat' split
     all_goals exact ⟨by decide,by decide⟩
    ·split
     ·unfold zJ4;repeat' split
      all_goals exact ⟨by decide,by decide⟩
     ·unfold zIg;repeat' split
      all_goals exact ⟨by decide,by decide⟩
  have hs:Wc.swO x.op x.b=(x.b,1):=by simp [Wc.swO,h5]
  rw [hs];simp only;omega
 ·by_cases h11:x.op=11
  ·rw [zFl h11,Bool.and_eq_true,Bool.and_eq_true] at h;have hb:=h.1.2;simp only [Bool.or_eq_true,beq_iff_eq] at hb;have hs:Wc.swO x.op x.b=(x.b,1):=by simp [Wc.swO,h11]
   rw [hs];simp only;omega
  ·unfold Wc.swO;rw [if_neg (show ¬ (x.op=5 \/ x.op=11) by omega)];repeat' split
   all_goals exact ⟨by decide,by decide,by decide,by decide⟩
