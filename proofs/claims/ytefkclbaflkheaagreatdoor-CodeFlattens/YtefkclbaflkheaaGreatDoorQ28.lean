/- Lemmas. -/
import Derived.Test.YtefkclbaflkheaaGreatDoorQ27
set_option maxHeartbeats 3200000
set_option maxRecDepth 100000
namespace Go.Proofs.YtefkclbaflkheaaGreatDoor
open Go.RowKit Wf
set_option linter.unusedVariables false
variable {bk n:Nat} {M:List Wf.I} {jv tv:Value}
def EndC (C:List I):Prop:=∃ (X:List I) (x:Wc.In),C=X++[(x,[])]
theorem EndC.app (h:EndC M) (C:List I):EndC (C++M):=by
 obtain ⟨X,x,rfl⟩:=h;exact ⟨C++X,x,by rw [List.append_assoc]⟩
theorem EndC.cons (h:EndC M) (y:I):EndC (y::M):=h.app [y]
section
variable {α:Type} (f:α->Nat->List I)
theorem zID:∀ (l:List α) (a:Nat),l ≠ []->(∀ k ∈ l,∀ a,EndC (f k a))->EndC (zAR f l a)
 | [],_,h,_=>absurd rfl h
 | [k],a,_,h=>by
  simp only [zAR,List.append_nil];exact h k (by simp) a
 | k::j::r,a,_,h=>(zID (j::r) (a+(f k a).length) (by simp) (λx hx=>h x (List.mem_cons_of_mem _ hx))).app (f k a)
theorem zId (e:Int):∀ (l:List α) (a:Nat),l ≠ []->(∀ k ∈ l,∀ a,EndC (f k a))->EndC (chB f e l a)
 | [],_,h,_=>absurd rfl h
 | [k],a,_,h=>by
  simp only [chB,List.append_nil];exact (h k (by simp) (a+1)).cons _
 | k::j::r,a,_,h=>((zId e (j::r) (a+1+(f k (a+1)).length) (by simp) (λx hx=>h x (List.mem_cons_of_mem _ hx))).app (f k (a+1))).cons _
theorem zK7 (e:Int) (l:List α) (a:Nat) (hl:l ≠ []) (h:∀ k ∈ l,∀ a,EndC (f k a)):EndC (zAO f e l a):=by
 match l,hl with
 | [k],_ =>
  simp only [zAO,chB,List.append_nil];exact h k (by simp) a
 | k::j::r,_=>exact (zId f e (j::r) _ (by simp) (λx hx=>h x (List.mem_cons_of_mem _ hx))).app _
def zAx (l:List α) (j m:Nat):List I:=zAO f 0 (l.take j) m++(if 0<j/\j<l.length then [ins 13 0 0] else [])
theorem zEb {l:List α} {j:Nat} (h:j<l.length):l.take (j+1) ≠ []:=λe=>by
 have h9:(l.take (j+1)).length=0:=by rw [e];rfl
 rw [List.length_take] at h9;omega
theorem zLQ (l:List α) (j m:Nat) (hj:j<l.length):zAx f l j m++f l[j] (m+(zAx f l j m).length)=zAO f 0 (l.take (j+1)) m:=by
 rw [List.take_succ_eq_append_getElem hj];cases j with
 | zero=>simp [zAx,zAO,chB]
 | succ i =>
  rw [zCe f 0 _ _ (zEb (by omega)) m];unfold zAx;rw [if_pos ⟨Nat.succ_pos _,hj⟩,List.append_assoc,List.length_append,<-Nat.add_assoc];rfl
theorem zMg (l:List α) (j m:Nat) (hj:j<l.length):toC f (l.take (j+1)) m=toC f (l.take j) m++[((m+(zAx f l j m).length:Nat):Int)]:=by
 rw [List.take_succ_eq_append_getElem hj];cases j with
 | zero=>simp [zAx,zAO,toC,chT]
 | succ i =>
  rw [zHw f _ _ (zEb (by omega)) m];unfold zAx;rw [if_pos ⟨Nat.succ_pos _,hj⟩,List.length_append,<-Nat.add_assoc];rfl
theorem zLE (l:List α) (j m:Nat) (hj:j+1<l.length):zAx f l (j+1) m=zAO f 0 (l.take (j+1)) m++[ins 13 0 0]:=by
 unfold zAx;rw [if_pos ⟨Nat.succ_pos _,hj⟩]
theorem zKu (l:List α) (j m:Nat) (hj:¬ j+1<l.length):zAx f l (j+1) m=zAO f 0 (l.take (j+1)) m:=by
 unfold zAx;rw [if_neg (λh=>hj h.2),List.append_nil]
theorem zLy (l:List α) (j m:Nat) (hj:j+1<l.length):jx f (l.take (j+2)) m=jx f (l.take (j+1)) m++[m+(zAO f 0 (l.take (j+1)) m).length]:=by
 rw [List.take_succ_eq_append_getElem hj];exact zJT f _ _ (zEb (by omega)) m
theorem zNM (l:List α) (j m:Nat) (hj:¬ j+1<l.length):jx f (l.take (j+2)) m=jx f (l.take (j+1)) m:=by
 rw [List.take_of_length_le (by omega),List.take_of_length_le (by omega)]
theorem zJ9 (e:Int) (l:List α) (X:List I) (c:I):(jx f l (X.length+1)).foldl (pA e) (X++c::zAO f 0 l (X.length+1))=X++c::zAO f e l (X.length+1):=by
 cases l with
 | nil=>rfl
 | cons k r =>
  simp only [jx,zAO];have hx:(X++c::f k (X.length+1))++chB f 0 r (X.length+1+(f k (X.length+1)).length)=X++c::(f k (X.length+1)++chB f 0 r (X.length+1+(f k (X.length+1)).length)):=by simp
  rw [<-hx,zCV f e r _ _ (by simp;omega)];simp
theorem zF8 (e:Int):∀ (r:List Nat) (X:List I),(r.foldl (pA e) X).length=X.length
 | [],X=>rfl
 | p::r,X=>by rw [List.foldl_cons,zF8 e r,zLq]
theorem zPK (l:List α) (m p:Nat) (h:p ∈ jx f l m):m<=p/\p<m+(zAO f 0 l m).length:=by
 cases l with
 | nil=>cases h
 | cons k r =>
  have:=zM5 f r _ p h;simp only [zAO,List.length_append];omega
end
theorem zGN (own:Int) (nm:List ByteArray):∀ (n:Nat) (t:Tr n) (a:Nat),Wr own nm n t->EndC (cod own nm n t a)
 | 0,t,_,_=>Empty.elim t
 | n+1,t,a,h=>by
  obtain ⟨x,ks⟩:Br (Tr n):=t;obtain ⟨hF,hR,hA⟩:=h;have hx:Wt.right x=true:=hF.1;have hp:Wt.parts x=(ks.length:Int):=hF.2.1;have hks:∀ k ∈ ks,zAz n k:=hF.2.2;have hA':isA x=false:=hA;show EndC (zAh own nm (hd n) (cod own nm n) x ks a)
  unfold zAh;rcases zDY hx with h | h | h | h | h | h
  ·rw [if_pos h];exact ⟨[],_,rfl⟩
  ·rw [if_neg (by omega),if_pos h];exact ⟨[],_,rfl⟩
  ·simp [isA,h] at hA'
  ·rw [if_neg (by omega),if_neg (by omega),if_pos h];exact ⟨_,_,rfl⟩
  ·rw [if_neg (by omega),if_neg (by omega),if_neg (by omega),if_pos h];exact ⟨_,_,rfl⟩
  ·rw [if_neg (by omega),if_neg (by omega),if_neg (by omega),if_neg (by omega),if_pos h];have hzz:∀ a ∈ zB2 own nm x (ks.map (hd n))::ks.map (zBB own nm n),a=0:=zBW hR;have hrn:zB2 own nm x (ks.map (hd n))=0:=hzz _ (List.mem_cons_self ..);have hrk:∀ t ∈ ks,zBB own nm n t=0:=λt ht=>hzz _ (List.mem_cons_of_mem _ (List.mem_map.2 ⟨t,ht,rfl⟩))
   have hrc:zDC x (ks.map (hd n))=0:=by
    unfold zB2 at hrn;rw [if_neg (by omega),if_neg (by omega),if_pos h] at hrn;exact hrn
   obtain ⟨hkn,har,htk⟩:=zCM hrc;have hpa:x.ar=(ks.length:Int):=by
    rw [<-hp];unfold Wt.parts;rw [if_neg (by omega),if_neg (by omega)]
   unfold zAg;simp only;rcases zGP x.nm hkn with h9 | h9 | h9 | h9
   ·rw [if_neg (by omega),if_pos h9.1];exact ⟨ins 6 ((zA1 x.nm:Nat):Int) 0::zAR (zCA own nm (hd n) (cod own nm n)) ks (a+1),_,by simp [ins];rfl⟩
   ·rw [if_neg (by omega),if_neg (by omega),if_pos h9.1];unfold zAw;simp only;split
    ·exact ⟨[],_,rfl⟩
    ·split
     ·exact ⟨[],_,rfl⟩
     ·split
      ·exact ⟨_,_,rfl⟩
      ·refine EndC.cons ?_ _;refine EndC.app ?_ _;exact EndC.cons ⟨[],_,rfl⟩ _
   ·rw [if_neg (by omega),if_neg (by omega),if_neg (by omega)];have h2:2<=ks.length:=by omega
    rw [h9.2.1] at htk;have hv:∀ t ∈ ks,isA (hd n t)=false:=λt ht=>zCi _ 0 htk _ (List.mem_map.2 ⟨t,ht,rfl⟩)
    have ih:∀ t ∈ ks,∀ a,EndC (cod own nm n t a):=λt ht a=>zGN own nm n t a ⟨hks t ht,hrk t ht,hv t ht⟩
    match ks,h2,ih with
    | c::u::r,_,ih =>
     simp only [zAr];refine EndC.app ?_ _;split
     ·unfold zC5;simp only;refine EndC.cons (EndC.app (EndC.cons ?_ _) _) _;cases r with
      | nil=>exact ⟨[],_,rfl⟩
      | cons v r=>exact zID _ (v::r) _ (by simp) (λt ht=>ih t (List.mem_cons_of_mem _ (List.mem_cons_of_mem _ ht)))
     ·split
      ·exact (ih u (by simp) _).cons _
      ·rw [zCG];exact (zK7 _ _ (u::r) _ (by simp) (λt ht=>ih t (List.mem_cons_of_mem _ ht))).cons _
   ·rw [if_pos h9.1];exact ⟨_,_,rfl⟩
structure Row (k:Nat) (w0 w:World) (Lc:List I) (v:Value) (zs:List Int):Prop where
 own:OwnZ w (k+1) v zs
 nw:∀ b,v.ownBlock=some b->w0.heap.size<=b
 fz:v=zAH \/ ∃ (i:Nat) (r:List Int),zs=((i+1:Nat):Int)::r/\(Lc[i]?).map Prod.snd=some []
section
variable {k:Nat} {w0 w w':World} {s0 s1 s2:Value} {Lc Lc':List I} {lv:Value} {P:List (Wc.In × Value)} {v v':Value} {zs:List Int}
theorem zq0 {v:Value} (h:v=zAH) {b:Nat}:¬ v.ownBlock=Option.some b:=λe=>by
 rw [h] at e;cases e
theorem Row.nil:Row k w0 w Lc zAH []:=⟨OwnZ.nil _ _,λb e=>absurd e (zq0 rfl),Or.inl rfl⟩
theorem Row.apart (hr:Row k w0 w Lc v zs) (hy:YS k w s0 s1 s2 Lc lv P) {i:Nat} (h:i<P.length) {b:Nat} (e:(P[i]).2.ownBlock=some b):¬ v.ownBlock=some b:=λe2=>by
 rcases hr.fz with q | ⟨p,r,q,hp⟩
 ·rw [q] at e2;cases e2
 ·have hi2:i<Lc.length:=by rw [<-hy.len];exact h
  rcases hy.tos i h hi2 with q2 | ⟨tl,q2⟩
  ·rw [q2] at e;cases e
  ·have o:=(hy.ins i h hi2).2;have o2:=hr.own;rw [q2] at o;rw [q] at o2;have c1:=o2.cells e2 0 _ rfl;refine zKc o (u:=.int .i64 ((p+1:Nat):Int)) c1 (λee=>?_) e;have hpi:p=i:=by
    simp only [Value.int.injEq,true_and] at ee;omega
   subst hpi;rw [List.getElem?_eq_getElem hi2] at hp;simp [q2] at hp
theorem Row.fr (hr:Row k w0 w Lc v zs) (hy:YS k w s0 s1 s2 Lc lv P) (hf:Fr (k::lv.ownBlock.toList) w w') (hL:∀ i:Nat,(Lc[i]?).map Prod.snd=some []->(Lc'[i]?).map Prod.snd=some []):Row k w0 w' Lc' v zs :=
 ⟨zAW hf hr.own (λg e hm=>by
  rcases List.mem_cons.1 hm with q | q
  ·have:=(zAK hr.own e).1;omega
  ·exact zAi hr.own hy.own (by decide) e (by simpa using q)),hr.nw,hr.fz.imp id λ⟨i,r,h1,h2⟩=>⟨i,r,h1,hL i h2⟩⟩
theorem Row.below (hr:Row k w0 w Lc v zs) (hb:Below w.heap.size w w'):Row k w0 w' Lc v zs:=⟨zAW (Fr.of_below [] hb) hr.own (by simp),hr.nw,hr.fz⟩
theorem Row.other {u:Value} (hr:Row k w0 w Lc v zs) (hg:w.grownBy w' u.ownBlock) (hu:∀ b,u.ownBlock=some b->¬ v.ownBlock=some b):Row k w0 w' Lc v zs :=
 ⟨zAW (Fr.of_grown (S:=u.ownBlock.toList) hg (λb e=>by simp [e])) hr.own (λb e hm=>hu b (by simpa using hm) e),hr.nw,hr.fz⟩
theorem Row.snoc (hr:Row k w0 w Lc v zs) {y:Int} {n:Nat} (ho:OwnZ w' (k+1) v' (zs++[y])) (hb:v'.ownBlock=v.ownBlock \/ v'.ownBlock=some n) (hn:w0.heap.size<=n) (hz:zs=[]->∃ i:Nat,y=((i+1:Nat):Int)/\(Lc[i]?).map Prod.snd=some []):Row k w0 w' Lc v' (zs++[y]):=by
 refine ⟨ho,λb e=>?_,?_⟩
 ·rcases hb with q | q
  ·rw [q] at e;exact hr.nw b e
  ·rw [q] at e;cases e;exact hn
 ·cases zs with
  | nil =>
   obtain ⟨i,e,h⟩:=hz rfl;exact Or.inr ⟨i,[],by rw [e];rfl,h⟩
  | cons z r =>
   rcases hr.fz with q | ⟨i,r2,q,h⟩
   ·have h9:=hr.own.2;rw [q] at h9;rcases h9 with ⟨_,h9⟩ | ⟨g,c,cur,h9,_⟩
    ·simp at h9
    ·cases h9
   ·simp only [List.cons.injEq] at q;exact Or.inr ⟨i,r2++[y],by rw [List.cons_append,q.1,q.2],h⟩
theorem zHA {M:List I} (i:Nat) (h:(Lc[i]?).map Prod.snd=some []):((Lc++M)[i]?).map Prod.snd=some []:=by
 have hi:i<Lc.length:=by
  rcases Nat.lt_or_ge i Lc.length with q | q
  ·exact q
  ·rw [List.getElem?_eq_none q] at h;cases h
 rw [List.getElem?_append_left hi];exact h
theorem zHP {p:Nat} (hp:p<Lc.length) (y:Wc.In) (i:Nat) (h:(Lc[i]?).map Prod.snd=some []):((Lc.set p (y,(Lc[p]).2))[i]?).map Prod.snd=some []:=by
 rw [List.getElem?_set];split
 ·rename_i e
  subst e;rw [List.getElem?_eq_getElem hp] at h;simpa [hp] using h
 ·exact h
end
section
variable {L:List Wt.Nd} {bb off cap:Nat} {own:Int} {nm:List ByteArray} {av2:Option Addr} {cap2 k:Nat} {w0:World} {lv0:Value} {w w':World} {Lc:List I} {lv:Value} {P:List (Wc.In × Value)} {kv:Value} {ks:List Nat}
theorem YSt.other (h:YSt L bb off cap own nm av2 cap2 k w0 lv0 w Lc lv P kv ks) {v:Value} {zs:List Int} (hr:Row k w0 w Lc v zs) (hg:w.grownBy w' v.ownBlock) (hk:∀ b,v.ownBlock=Option.some b->¬ kv.ownBlock=Option.some b):YSt L bb off cap own nm av2 cap2 k w0 lv0 w' Lc lv P kv ks:=by
 have f:Fr v.ownBlock.toList w w':=Fr.of_grown hg (λb e=>by simp [e]);have hb:∀ b ∈ v.ownBlock.toList,v.ownBlock=Option.some b:=λb hm=>by simpa using hm
 refine ⟨h.en.fr f (λj hj=>by have:=(zAK hr.own (hb j hj)).1;omega),h.ys.fr f (λhm=>by have:=(zAK hr.own (hb k hm)).1;omega) (λj e hm=>zAi h.ys.own hr.own (by decide) e (hb j hm)) (λi hi b e hm=>hr.apart h.ys hi e (hb b hm)),h.nx,h.fr.new f (λj hj=>Or.inr (hr.nw j (hb j hj))),zAW f h.kd (λg e hm=>hk g (hb g hm) e)⟩
theorem zOc {s0 s1 s2:Value} (h:YS k w s0 s1 s2 Lc lv P) {g c i:Nat} (hlv:lv=.slice (some ⟨g,0,none⟩) P.length c) (hi:i<P.length) (hi2:i<Lc.length) {v:Value} {r:List Int} (hr:Row k w0 w Lc v (((i+1:Nat):Int)::r)) :
  YS k (w.setCell ⟨g,i * 23+22,none⟩ v) s0 s1 s2 (Lc.set i ((Lc[i]).1,((i+1:Nat):Int)::r)) lv (P.set i ((P[i]).1,v)):=by
 subst hlv;have hst:=h.own.stored (i * 23+22) v;have hg:=(zAK h.own (show Value.ownBlock (.slice (some ⟨g,0,none⟩) P.length c)=some g from rfl)).1;have hf:Fr [g] w (w.setCell ⟨g,i * 23+22,none⟩ v):=Fr.of_grown hst.2 (λj e=>by cases e;simp);have hv:OwnZ (w.setCell ⟨g,i * 23+22,none⟩ v) (k+1) v (((i+1:Nat):Int)::r):=zAW hf hr.own (λb e hm=>zAi hr.own h.own (by decide) e (by simp at hm;rw [hm];rfl));refine ⟨h.at'.fr hf (by simp;omega),?_,by simp [h.len],λa h1 h2=>?_,λa b h1 h2 c e1 e2=>?_,λa h1 h2=>?_⟩
 ·have:=hst.1;rw [zBi P i hi ((P[i]).1,v) 22 _ rfl (by omega)] at this;unfold OwnI;rw [List.length_set];exact this
 ·rw [List.length_set] at h1 h2;by_cases e:i=a
  ·subst e;rw [List.getElem_set_self,List.getElem_set_self];exact ⟨(h.ins i h1 h2).1,hv⟩
  ·rw [List.getElem_set_ne e,List.getElem_set_ne e];exact ⟨(h.ins a h1 h2).1,zAW hf (h.ins a h1 h2).2 (λb e hm=>zAi (h.ins a h1 h2).2 h.own (by decide) e (by simp at hm;rw [hm];rfl))⟩
 ·rw [List.length_set] at h1 h2;by_cases ea:i=a
  ·by_cases eb:i=b
   ·omega
   ·subst ea;rw [List.getElem_set_self] at e1;rw [List.getElem_set_ne eb] at e2;exact (hr.apart h h2 e2 e1).elim
  ·by_cases eb:i=b
   ·subst eb;rw [List.getElem_set_self] at e2;rw [List.getElem_set_ne ea] at e1;exact (hr.apart h h1 e1 e2).elim
   ·rw [List.getElem_set_ne ea] at e1;rw [List.getElem_set_ne eb] at e2;exact h.dis a b h1 h2 c e1 e2
 ·rw [List.length_set] at h1 h2;by_cases e:i=a
  ·subst e;rw [List.getElem_set_self,List.getElem_set_self];exact Or.inr ⟨r,rfl⟩
  ·rw [List.getElem_set_ne e,List.getElem_set_ne e];exact h.tos a h1 h2
theorem YSt.spotTo (h:YSt L bb off cap own nm av2 cap2 k w0 lv0 w Lc lv P kv ks) {X R:List I} {x:I} (hX:Lc=X++x::R) {i M:Nat} (hi:i=X.length) (hM:Lc.length=M) {v:Value} {r:List Int} (hr:Row k w0 w Lc v (((i+1:Nat):Int)::r)):∃ (g gc:Nat) (u:Value),w.cell? ⟨k,3,none⟩=Option.some (.slice (Option.some ⟨g,0,none⟩) M gc)/\g ≠ k/\w.frozen? ⟨g,i * 23+22,none⟩=false/\w.cell? ⟨g,i * 23+22,none⟩=Option.some u/\0<=(i:Int)/\(i:Int)<(M:Int)/\∃ P',YSt L bb off cap own nm av2 cap2 k w0 lv0 (w.setCell ⟨g,i * 23+22,none⟩ v) (X++(x.1,((i+1:Nat):Int)::r)::R) lv P' kv ks:=by
 subst hX hi hM;have hlt:X.length<(X++x::R).length:=by simp
 have hget:(X++x::R)[X.length]=x:=by simp
 obtain ⟨g,gc,hlv,cl,hgk⟩:=h.list (Nat.zero_lt_of_lt hlt);have cc:World.ownsRow w (k+1) 56 23 (.slice (Option.some ⟨g,0,none⟩) P.length gc) P.length (zAc P):=by
  have h9:=h.ys.own;rw [hlv,<-h.ys.len] at h9;exact h9
 have hPi:X.length<P.length:=by rw [h.ys.len];exact hlt
 refine ⟨g,gc,(P[X.length]).2,cl,hgk,cc.frozenAt _,?_,Int.natCast_nonneg _,by omega,?_⟩
 ·have c9:=cc.cellAt (X.length * 23+22) (by omega);rw [zBG P X.length hPi 22 (P[X.length]).2 rfl] at c9;exact c9
 ·have hy2:=zOc h.ys (by rw [h.ys.len];exact hlv) hPi hlt hr;rw [hget,zAm X _ _ R X.length rfl] at hy2;refine ⟨_,h.step ((zC1 w g (X.length * 23+22) v).mono (λa ha=>?_)) (Nx.refl _ _) hy2⟩;simp at ha;subst ha;refine List.mem_cons_of_mem _ ?_;rw [hlv];simp [Value.ownBlock]
end
open Go.RowKit Wf
theorem zMt {α:Type} (f:α->Nat->List I) (c:α) (l:List α) (a:Nat):zAr f 32 (c::l) a=f c a++zCW f l (a+(f c a).length):=by cases l <;> simp [zAr]
theorem zEN {α:Type} (f:α->Nat->List I) (l:List α) (m:Nat):zAx f l 0 m=[]:=by simp [zAx,zAO]
theorem zMZ {α:Type} (f:α->Nat->List I) (l:List α) (m:Nat):(jx f (l.take (0+1)) m).map (λ(p:Nat)=>(p:Int))=[]:=by cases l <;> simp [jx,jr]
theorem zFB {α:Type} (f:α->Nat->List I) (l:List α) (m:Nat):(toC f l m).length=l.length:=by
 have h:∀ (r:List α) (m:Nat),(chT f r m).length=r.length:=by
  intro r;induction r with
  | nil=>intro m;rfl
  | cons x r ih=>intro m;simp [chT,ih]
 cases l with
 | nil=>rfl
 | cons k r=>simp [toC,h]
theorem zNB {α:Type} (f:α->Nat->List I) {l:List α} {i m:Nat} (h:toC f (l.take i) m=[]) (hi:i<=l.length):i=0:=by
 have h9:=zFB f (l.take i) m;rw [h,List.length_take] at h9;simp at h9;omega
theorem zJ6 {α:Type} (f:α->Nat->List I) (l:List α) (m:Nat) (h:0<l.length):∃ r,toC f l m=(m:Int)::r:=by
 cases l with
 | nil=>simp at h
 | cons k r=>exact ⟨_,rfl⟩
theorem zJA {α:Type} (f:α->Nat->List I) (l:List α) (i a:Nat):(zAO f 0 (l.take i) a).length<=(zAO f 0 l a).length:=by
 by_cases h:i<l.length
 ·have:=zEx f l i h a;omega
 ·rw [List.take_of_length_le (by omega)];exact Nat.le_refl _
def Apa (jv tv:Value) (bk:Nat):Prop:=(∀ b,jv.ownBlock=some b->¬ tv.ownBlock=some b)/\(∀ b,jv.ownBlock=some b->¬ some bk=some b)/\∀ b,tv.ownBlock=some b->¬ some bk=some b
theorem Apa.nil:Apa (.slice none 0 0) (.slice none 0 0) bk:=⟨λb e=>absurd e (zq0 rfl),λb e=>absurd e (zq0 rfl),λb e=>absurd e (zq0 rfl)⟩
theorem Apa.left {tv':Value} (h:Apa jv tv bk) (hb:tv'.ownBlock=tv.ownBlock \/ tv'.ownBlock=some n) (hj:∀ b,jv.ownBlock=some b->b<n) (hk:bk<n):Apa jv tv' bk:=by
 rcases hb with q | q
 ·unfold Apa;rw [q];exact h
 ·refine ⟨λb e e2=>?_,h.2.1,λb e e2=>?_⟩
  ·have:=hj b e;rw [q] at e2;cases e2
   omega
  ·rw [q] at e;cases e
   cases e2
   omega
theorem Apa.right {jv':Value} (h:Apa jv tv bk) (hb:jv'.ownBlock=jv.ownBlock \/ jv'.ownBlock=some n) (ht:∀ b,tv.ownBlock=some b->b<n) (hk:bk<n):Apa jv' tv bk:=by
 rcases hb with q | q
 ·unfold Apa;rw [q];exact h
 ·refine ⟨λb e e2=>?_,λb e e2=>?_,h.2.2⟩
  ·have:=ht b e2;rw [q] at e;cases e
   omega
  ·rw [q] at e;cases e
   cases e2
   omega
theorem zH1 {X Q R S:List I} {x:I} (h:Q++R=S):∀ i:Nat,((X++x::Q)[i]?).map Prod.snd=some []->((X++x::S)[i]?).map Prod.snd=some []:=λi hi=>by
 have e:X++x::S=(X++x::Q)++R:=by rw [<-h,List.append_assoc];rfl
 rw [e];exact zHA i hi
section
variable {L:List Wt.Nd} {bb off cap:Nat} {own:Int} {nm:List ByteArray} {av2:Option Addr} {cap2 k:Nat} {w0:World} {lv0:Value} {w w':World} {Lc Lc':List I} {lv lv':Value} {P P':List (Wc.In × Value)} {kv:Value} {ks:List Nat}
theorem YSt.base (h:YSt L bb off cap own nm av2 cap2 k w0 lv0 w Lc lv P kv ks):YSt L bb off cap own nm av2 cap2 k w lv w Lc lv P kv ks:=⟨h.en,h.ys,Nx.refl _ _,Fr.refl _ _,h.kd⟩
theorem YSt.over (h:YSt L bb off cap own nm av2 cap2 k w0 lv0 w Lc lv P kv ks) (h':YSt L bb off cap own nm av2 cap2 k w lv w' Lc' lv' P' kv ks):YSt L bb off cap own nm av2 cap2 k w0 lv0 w' Lc' lv' P' kv ks:=h.step h'.fr h'.nx h'.ys
theorem YSt.spotAt (h:YSt L bb off cap own nm av2 cap2 k w0 lv0 w Lc lv P kv ks) {i M:Nat} (hi:i<Lc.length) (hM:Lc.length=M):∃ (g gc:Nat) (u:Int),w.cell? ⟨k,3,none⟩=Option.some (.slice (Option.some ⟨g,0,none⟩) M gc)/\g ≠ k/\w.frozen? ⟨g,i * 23+1,none⟩=false/\w.cell? ⟨g,i * 23+1,none⟩=Option.some (.int .i64 u)/\0<=(i:Int)/\(i:Int)<(M:Int)/\∀ (v:Int),∃ P',YSt L bb off cap own nm av2 cap2 k w0 lv0 (w.setCell ⟨g,i * 23+1,none⟩ (.int .i64 v)) (Lc.set i ({(Lc[i]).1 with a:=v},(Lc[i]).2)) lv P' kv ks/\Fr (k::lv.ownBlock.toList) w (w.setCell ⟨g,i * 23+1,none⟩ (.int .i64 v)):=by
 subst hM;obtain ⟨g,gc,hlv,cl,hgk⟩:=h.list (Nat.zero_lt_of_lt hi);have cc:World.ownsRow w (k+1) 56 23 (.slice (Option.some ⟨g,0,none⟩) P.length gc) P.length (zAc P):=by
  have h9:=h.ys.own;rw [hlv,<-h.ys.len] at h9;exact h9
 have hPi:i<P.length:=by rw [h.ys.len];exact hi
 refine ⟨g,gc,(P[i]).1.a,cl,hgk,cc.frozenAt _,?_,Int.natCast_nonneg _,by omega,λv=>⟨_,h.patch hlv hi (by omega) v _ (λtv=>rfl),?_⟩⟩
 ·have c9:=cc.cellAt (i * 23+1) (by omega);rw [zBG P i hPi 1 (.int .i64 (P[i]).1.a) rfl] at c9;exact c9
 ·refine (zC1 w g (i * 23+1) (.int .i64 v)).mono (λa ha=>?_);simp at ha;subst ha;refine List.mem_cons_of_mem _ ?_;rw [hlv];simp [Value.ownBlock]
end
section
open Tryz
variable {L:List Wt.Nd} {bb off cap:Nat} {own:Int} {nm:List ByteArray} {av2:Option Addr} {cap2 k:Nat} {w0:World} {lv0:Value} {w:World} {Lc:List I} {lv:Value} {P:List (Wc.In × Value)} {kv:Value} {n:Nat}
theorem zJs (ih:YNd L bb off cap own nm av2 cap2 n) {q0:Nat} {tc:Tr n} {qs:List Nat} {l:List (Tr n)} (h:YSt L bb off cap own nm av2 cap2 k w0 lv0 w Lc lv P kv (q0::qs)) (s0:Sub L q0 n tc) (hw0:Wr own (nm.take 16) n tc) (hlen:qs.length=l.length) (hl0:0<l.length) (h30:l.length<=30) (hsub:∀ j (h1:j<qs.length) (h2:j<l.length),Sub L qs[j] n l[j]) (hwr:∀ t ∈ l,Wr own (nm.take 16) n t) (hb:Lc.length+(zAr (cod own (nm.take 16) n) 32 (tc::l) Lc.length).length<=800000) :
  Calls prog 91 #[.pointer (some ⟨k,0,none⟩),.int .i64 32,kv] w λe w'=>e=.returned (.tuple #[])/\∃ lv' P',YSt L bb off cap own nm av2 cap2 k w0 lv0 w' (Lc++zAr (cod own (nm.take 16) n) 32 (tc::l) Lc.length) lv' P' kv (q0::qs):=by
 obtain ⟨bk,ok,capk,rfl⟩:=h.kidv (by simp);obtain ⟨nk,hnk⟩:∃ nk,(q0::qs).length=nk:=⟨_,rfl⟩
 have HNK:Hid (nk=l.length+1):=by show _=_;rw [<-hnk,List.length_cons,hlen]
 have hn1:(0:Int)<(nk:Int):=by have:=HNK.out;omega
 simp only [hnk] at h ⊢;obtain ⟨f,hf⟩:∃ f,cod own (nm.take 16) n=f:=⟨_,rfl⟩
 obtain ⟨Y,hY⟩:∃ Y,cod own (nm.take 16) n tc Lc.length=Y:=⟨_,rfl⟩
 obtain ⟨X,hX⟩:∃ X,Lc++Y=X:=⟨_,rfl⟩
 obtain ⟨a,ha⟩:∃ a,X.length=a:=⟨_,rfl⟩
 have haL:a=Lc.length+Y.length:=by rw [<-ha,<-hX];simp
 obtain ⟨M,hM⟩:∃ M,a+1+(zAO f 0 l (a+1)).length=M:=⟨_,rfl⟩
 have hlz:Lc++zAr (cod own (nm.take 16) n) 32 (tc::l) Lc.length=X++((⟨15,0,(M:Nat),v0I,c0I,a0I,a0I⟩:Wc.In),toC f l (a+1))::zAO f (M:Nat) l (a+1):=by
  rw [zMt,hY,hf,<-haL,zCG,hM,<-List.append_assoc,hX]
 have hbl:(Lc++zAr (cod own (nm.take 16) n) 32 (tc::l) Lc.length).length<=800000:=by rw [List.length_append];exact hb
 rw [hlz] at hbl ⊢;have hMb:M<=800000:=by
  rw [List.length_append,List.length_cons,ha,zCz f (M:Nat) 0] at hbl;omega
 have NA:=h.node ih s0 hw0 (by rw [hY];omega);rw [hY,hX] at NA;have k0:=h.cellAt (j:=0) rfl;simp only [Nat.add_zero] at k0;rw [<-hf] at hM;have HA:Hid (X.length=a/\M<=800000/\a+1+(zAO f 0 l (a+1)).length=M):=⟨ha,hMb,by rw [<-hf];exact hM⟩
 have HIH:Hid (YNd L bb off cap own nm av2 cap2 n):=ih;have HF:Hid (cod own (nm.take 16) n=f):=hf;have HLN:Hid (qs.length=l.length/\l.length<=30/\0<l.length):=⟨hlen,h30,hl0⟩
 have HK:Hid (∀ i (h1:i<l.length),∃ q,(q0::qs)[i+1]? = some q/\Sub L q n l[i]/\Wr own (nm.take 16) n l[i]):=λi h1=>⟨qs[i]'(by omega),by rw [List.getElem?_cons_succ,List.getElem?_eq_getElem],hsub i (by omega) h1,hwr _ (List.getElem_mem h1)⟩
 have HW0:Hid (w0.heap.size<=w.heap.size):=h.fr.size;clear hY hX hlz hbl hb h ih s0 hw0 hlen hsub hwr h30 hl0 hnk hM hMb haL ha hf;go_enter func91,ntmps91;go_wp2_with fail
 refine NA.mono ?_;rintro e w1 ⟨rfl,lv1,P1,h1⟩;have LA:=h1.lay (ins 15 0 0).1 (by have:=HA.out;rw [this.1];omega);rw [HA.out.1] at LA;clear NA k0 h1;go_wp2_with (first | (refine zAQ rfl 15 rfl ?_))
 refine LA.mono ?_;rintro e w2 ⟨rfl,lv2,P2,h2⟩;have HG0:Hid (∃ (i:Nat) (lvj:Value) (Pj:List (Wc.In × Value)),1=i+1/\i<=l.length/\YSt L bb off cap own nm av2 cap2 k w0 lv0 w2 (X++ins 15 0 0::zAx f l i (a+1)) lvj Pj (.slice (some ⟨bk,ok,none⟩) nk capk) (q0::qs)/\Row k w0 w2 (X++ins 15 0 0::zAx f l i (a+1)) (.slice none 0 0) ((jx f (l.take (i+1)) (a+1)).map λ(p:Nat)=>(p:Int))/\Row k w0 w2 (X++ins 15 0 0::zAx f l i (a+1)) (.slice none 0 0) (toC f (l.take i) (a+1))/\Apa (.slice none 0 0) (.slice none 0 0) bk):=by
  refine ⟨0,lv2,P2,rfl,Nat.zero_le _,?_,?_,Row.nil,Apa.nil⟩
  ·rw [zEN];exact h2
  ·rw [zMZ];exact Row.nil
 have hn2:(1:Int)<=(nk:Int):=by omega
 clear LA h2;go_wp2_with fail
 go_loopg [10,11,12] l.length (λgk x1 x2 y wr=>∃ (j:Nat) (jv tv:Value),jv=x1/\tv=x2/\y=.int .i64 (j:Int)/\gk=l.length+1 - j/\j<=l.length+1/\1<=j/\Hid (∃ (i:Nat) (lvj:Value) (Pj:List (Wc.In × Value)),j=i+1/\i<=l.length/\YSt L bb off cap own nm av2 cap2 k w0 lv0 wr (X++ins 15 0 0::zAx f l i (a+1)) lvj Pj (.slice (some ⟨bk,ok,none⟩) nk capk) (q0::qs)/\Row k w0 wr (X++ins 15 0 0::zAx f l i (a+1)) jv ((jx f (l.take (i+1)) (a+1)).map λ(p:Nat)=>(p:Int))/\Row k w0 wr (X++ins 15 0 0::zAx f l i (a+1)) tv (toC f (l.take i) (a+1))/\Apa jv tv bk))
 case atStart=>exact ⟨1,.slice none 0 0,.slice none 0 0,rfl,rfl,rfl,by omega,by omega,Nat.le_refl _,HG0⟩
 case round =>
  clear HG0;obtain ⟨j,jv,tv,rfl,rfl,rfl,hg,hjl,hj1,HS⟩:=hrel;by_cases hlt:j<l.length+1
  ·have hli:(j:Int)<(nk:Int):=by rw [HNK.out];omega
   have hjz:(0:Int)<=(j:Int):=by omega
   have hwj:IntKind.i64.wrap ((j:Int)+1)=(j:Int)+1:=by have:=HLN.out;rw [IntKind.wrap_i64];omega
   obtain ⟨i,lvj,Pj,hji,_,hst,hrj,hrt,hap⟩:=HS.out;have hil:i<l.length:=by omega
   obtain ⟨m,hm⟩:∃ m,(X++ins 15 0 0::zAx f l i (a+1)).length=m:=⟨_,rfl⟩
   have hmv:m=a+1+(zAx f l i (a+1)).length:=by rw [<-hm,List.length_append,HA.out.1,List.length_cons];omega
   obtain ⟨g,gc,_,cl,hgk⟩:=hst.list (by rw [hm,hmv];omega);rw [hm] at cl;have hba:=zAM (Below.refl _ wr) (.cells #[.int .i64 (m:Int)] 3);have hat:(wr.alloc (.cells #[.int .i64 (m:Int)] 3)).cell? ⟨wr.heap.size,0,none⟩=some (.int .i64 (m:Int)):=(AtL.new0 wr 3 [.int .i64 (m:Int)]).2.1 0 _ rfl;have hst1:=hst.below hba;have hrj1:=hrj.below hba;have hrt1:=hrt.below hba;have hkB:k+1<=(wr.alloc (.cells #[.int .i64 (m:Int)] 3)).heap.size:=hst1.ys.at'.lt;have hsz:w0.heap.size<=(wr.alloc (.cells #[.int .i64 (m:Int)] 3)).heap.size:=hst1.fr.size;have HII:Hid (j=i+1/\i<l.length):=⟨hji,hil⟩
   have HTL:Hid ((toC f (l.take i) (a+1)).length<=1000000):=by show _<=_;have:=HLN.out;have:=zFB f (l.take i) (a+1);rw [List.length_take] at this;omega
   have HST:Hid (YSt L bb off cap own nm av2 cap2 k w0 lv0 (wr.alloc (.cells #[.int .i64 (m:Int)] 3)) (X++ins 15 0 0::zAx f l i (a+1)) lvj Pj (.slice (some ⟨bk,ok,none⟩) nk capk) (q0::qs)):=hst1;have HRJ:Hid (Row k w0 (wr.alloc (.cells #[.int .i64 (m:Int)] 3)) (X++ins 15 0 0::zAx f l i (a+1)) jv ((jx f (l.take (i+1)) (a+1)).map λ(p:Nat)=>(p:Int))):=hrj1;have HRT:Hid (Row k w0 (wr.alloc (.cells #[.int .i64 (m:Int)] 3)) (X++ins 15 0 0::zAx f l i (a+1)) tv (toC f (l.take i) (a+1))):=hrt1;have HAP:Hid (Apa jv tv bk):=hap;have HMV:Hid ((X++ins 15 0 0::zAx f l i (a+1)).length=m/\m=a+1+(zAx f l i (a+1)).length):=⟨hm,hmv⟩
   have oT:=hrt1.own;obtain ⟨ta,tb,tcc,rfl⟩:=oT.slice;clear hst hrj hrt hap hst1 hrj1 hrt1 hm hmv hji hil hba HS;go_upto_region 8 with (refine zBn rfl (.tmp 29) (.tmp 35) rfl (wr.alloc (.cells #[.int .i64 (m:Int)] 3)) (k+1) hkB (.slice ta tb tcc) (toC f (l.take i) (a+1)) rfl oT wr.heap.size (m:Int) rfl hat (λ_=>HTL.out) ?_;intro tv2 w4 oT2 hg2 hb2)
   obtain ⟨N,hN⟩:∃ N,(wr.alloc (.cells #[.int .i64 (m:Int)] 3))=N:=⟨_,rfl⟩
   rw [hN] at hg2 hb2 HST HRJ HRT hsz hkB;have hst4:=HST.out.other HRT.out hg2 HAP.out.2.2;have hrj4:=HRJ.out.other hg2 (λb e e2=>HAP.out.1 b e2 e);have hrt4:Row k w0 w4 (X++ins 15 0 0::zAx f l i (a+1)) tv2 (toC f (l.take i) (a+1)++[(m:Int)]):=HRT.out.snoc oT2 hb2 hsz (λe=>⟨a,by
    have hi0:i=0:=zNB f e (by have:=HII.out;omega);rw [HMV.out.2,hi0,zEN];rfl,by
    rw [List.getElem?_append_right (by have:=HA.out;omega),HA.out.1,Nat.sub_self];rfl⟩)
   have hap4:Apa jv tv2 bk:=HAP.out.left hb2 (λb e=>(zAK HRJ.out.own e).2) (by
    have h9:=(zAK HST.out.kd (show Value.ownBlock (.slice (some ⟨bk,ok,none⟩) nk capk)=some bk from rfl)).2;exact h9)
   rw [show toC f (l.take i) (a+1)++[(m:Int)]=toC f (l.take (i+1)) (a+1) from by rw [zMg f l i (a+1) HII.out.2,HMV.out.2]] at hrt4;obtain ⟨q,hkq,hsq,hwq⟩:=HK.out i HII.out.2;have kj:=hst4.cellAt (j:=j) (q:=q) (by rw [HII.out.1];exact hkq);have hcq:cod own (nm.take 16) n (l[i]'HII.out.2) (X++ins 15 0 0::zAx f l i (a+1)).length=f (l[i]'HII.out.2) (a+1+(zAx f l i (a+1)).length):=by rw [HF.out,HMV.out.1,HMV.out.2]
   have hps:=zLQ f l i (a+1) HII.out.2;have hbl:=zEx f l i HII.out.2 (a+1);have hb0:YSt L bb off cap own nm av2 cap2 k w4 lvj w4 (X++ins 15 0 0::zAx f l i (a+1)) lvj Pj (.slice (some ⟨bk,ok,none⟩) nk capk) (q0::qs):=hst4.base;have hml:(zAO f 0 (l.take (i+1)) (a+1)).length<=(zAO f 0 l (a+1)).length:=zJA f l (i+1) (a+1);have ND:=hb0.node HIH.out hsq hwq (by
    rw [hcq,HMV.out.1];have h9:=congrArg List.length hps;rw [List.length_append] at h9;have:=HA.out;have:=HMV.out.2;omega)
   have hcat:(X++ins 15 0 0::zAx f l i (a+1))++cod own (nm.take 16) n (l[i]'HII.out.2) (X++ins 15 0 0::zAx f l i (a+1)).length=X++ins 15 0 0::zAO f 0 (l.take (i+1)) (a+1):=by
    rw [hcq,<-hps,List.append_assoc];rfl
   rw [hcat] at ND;have HX4:Hid (YSt L bb off cap own nm av2 cap2 k w0 lv0 w4 (X++ins 15 0 0::zAx f l i (a+1)) lvj Pj (.slice (some ⟨bk,ok,none⟩) nk capk) (q0::qs)/\Row k w0 w4 (X++ins 15 0 0::zAx f l i (a+1)) jv ((jx f (l.take (i+1)) (a+1)).map λ(p:Nat)=>(p:Int))/\Row k w0 w4 (X++ins 15 0 0::zAx f l i (a+1)) tv2 (toC f (l.take (i+1)) (a+1))/\Apa jv tv2 bk):=⟨hst4,hrj4,hrt4,hap4⟩
   have HEC:Hid (EndC (f (l[i]'HII.out.2) (a+1+(zAx f l i (a+1)).length))):=by show EndC _;rw [<-HF.out];exact zGN own (nm.take 16) n (l[i]'HII.out.2) _ hwq
   have HPS:Hid (zAx f l i (a+1)++f (l[i]'HII.out.2) (a+1+(zAx f l i (a+1)).length)=zAO f 0 (l.take (i+1)) (a+1)):=hps;have HML:Hid ((zAO f 0 (l.take (i+1)) (a+1)).length<=(zAO f 0 l (a+1)).length):=hml;obtain ⟨ta2,tb2,tc2,rfl⟩:=oT2.slice;clear hst4 hrj4 hrt4 hap4 hsq hwq hcq hps hbl hb0 hml hcat hkq HST HRJ HRT HAP oT oT2 hg2 hb2 hN hsz hkB hat cl hgk;go_wp2_with fail
   refine ND.mono ?_;rintro e w5 ⟨rfl,lv5,P5,h5⟩;have hX4:=HX4.out;have hst5:=hX4.1.over h5;have hrj5:Row k w0 w5 (X++ins 15 0 0::zAO f 0 (l.take (i+1)) (a+1)) jv _:=hX4.2.1.fr hX4.1.ys h5.fr (zH1 HPS.out);have hrt5:Row k w0 w5 (X++ins 15 0 0::zAO f 0 (l.take (i+1)) (a+1)) (.slice ta2 tb2 tc2) _:=hX4.2.2.1.fr hX4.1.ys h5.fr (zH1 HPS.out);have hap5:=hX4.2.2.2;have HX5:Hid (YSt L bb off cap own nm av2 cap2 k w0 lv0 w5 (X++ins 15 0 0::zAO f 0 (l.take (i+1)) (a+1)) lv5 P5 (.slice (some ⟨bk,ok,none⟩) nk capk) (q0::qs)/\Row k w0 w5 (X++ins 15 0 0::zAO f 0 (l.take (i+1)) (a+1)) jv ((jx f (l.take (i+1)) (a+1)).map λ(p:Nat)=>(p:Int))/\Row k w0 w5 (X++ins 15 0 0::zAO f 0 (l.take (i+1)) (a+1)) (.slice ta2 tb2 tc2) (toC f (l.take (i+1)) (a+1))/\Apa jv (.slice ta2 tb2 tc2) bk):=⟨hst5,hrj5,hrt5,hap5⟩
   clear ND h5 kj hX4 HX4 hst5 hrj5 hrt5 hap5;by_cases hmo:i+1<l.length
   ·have hjn:(j:Int)+1<(nk:Int):=by have:=HNK.out;have:=HII.out;omega
    have hl5:(X++ins 15 0 0::zAO f 0 (l.take (i+1)) (a+1)).length=a+1+(zAO f 0 (l.take (i+1)) (a+1)).length:=by rw [List.length_append,HA.out.1,List.length_cons];omega
    have LJ:=HX5.out.1.base.lay (ins 13 0 0).1 (by rw [hl5];have:=HA.out;have:=HML.out;omega);have HMO:Hid (i+1<l.length):=hmo;obtain ⟨p,hp⟩:∃ p,a+1+(zAO f 0 (l.take (i+1)) (a+1)).length=p:=⟨_,rfl⟩
    rw [hl5,hp] at LJ;have HP:Hid (a+1+(zAO f 0 (l.take (i+1)) (a+1)).length=p):=hp;clear hl5 hp hmo;go_wp2_with (first | (refine zAQ rfl 13 rfl ?_))
    refine LJ.mono ?_;rintro e w6 ⟨rfl,lv6,P6,h6⟩;have hX5:=HX5.out;have hpm:X++ins 15 0 0::zAx f l (i+1) (a+1)=(X++ins 15 0 0::zAO f 0 (l.take (i+1)) (a+1))++[((ins 13 0 0).1,([]:List Int))]:=by rw [zLE f l i (a+1) HMO.out,List.append_assoc];rfl
    rw [<-hpm] at h6;have hmp:∀ q:Nat,((X++ins 15 0 0::zAO f 0 (l.take (i+1)) (a+1))[q]?).map Prod.snd=some []->((X++ins 15 0 0::zAx f l (i+1) (a+1))[q]?).map Prod.snd=some []:=λq hq=>by rw [hpm];exact zHA q hq
    have hba:=zAM (Below.refl _ w6) (.cells #[.int .i64 (p:Int)] 3);have hst6:=(hX5.1.over h6).below hba;have hrj6:=(hX5.2.1.fr hX5.1.ys h6.fr hmp).below hba;have hrt6:=(hX5.2.2.1.fr hX5.1.ys h6.fr hmp).below hba;have hat:(w6.alloc (.cells #[.int .i64 (p:Int)] 3)).cell? ⟨w6.heap.size,0,none⟩=some (.int .i64 (p:Int)):=(AtL.new0 w6 3 [.int .i64 (p:Int)]).2.1 0 _ rfl;have hkB:k+1<=(w6.alloc (.cells #[.int .i64 (p:Int)] 3)).heap.size:=hst6.ys.at'.lt;have hsz:w0.heap.size<=(w6.alloc (.cells #[.int .i64 (p:Int)] 3)).heap.size:=hst6.fr.size;have HX6:Hid (YSt L bb off cap own nm av2 cap2 k w0 lv0 (w6.alloc (.cells #[.int .i64 (p:Int)] 3)) (X++ins 15 0 0::zAx f l (i+1) (a+1)) lv6 P6 (.slice (some ⟨bk,ok,none⟩) nk capk) (q0::qs)/\Row k w0 (w6.alloc (.cells #[.int .i64 (p:Int)] 3)) (X++ins 15 0 0::zAx f l (i+1) (a+1)) jv ((jx f (l.take (i+1)) (a+1)).map λ(p:Nat)=>(p:Int))/\Row k w0 (w6.alloc (.cells #[.int .i64 (p:Int)] 3)) (X++ins 15 0 0::zAx f l (i+1) (a+1)) (.slice ta2 tb2 tc2) (toC f (l.take (i+1)) (a+1))/\Apa jv (.slice ta2 tb2 tc2) bk):=⟨hst6,hrj6,hrt6,hX5.2.2.2⟩
    have HFZ:Hid (∃ q:Nat,(p:Int)=((q+1:Nat):Int)/\((X++ins 15 0 0::zAx f l (i+1) (a+1))[q]?).map Prod.snd=some []):=by
     obtain ⟨C,x,hC⟩:=HEC.out;refine ⟨a+1+(zAx f l i (a+1)).length+C.length,?_,?_⟩
     ·have h9:=congrArg List.length HPS.out;rw [hC] at h9;simp only [List.length_append,List.length_cons,List.length_nil] at h9;have:=HP.out;omega
     ·refine hmp _ ?_;rw [<-HPS.out,hC,List.getElem?_append_right (by have:=HA.out;omega),HA.out.1];rw [show a+1+(zAx f l i (a+1)).length+C.length - a=((zAx f l i (a+1)).length+C.length)+1 from by omega,List.getElem?_cons_succ,List.getElem?_append_right (by omega),Nat.add_sub_cancel_left,List.getElem?_append_right (Nat.le_refl _),Nat.sub_self];rfl
    have HJL:Hid (((jx f (l.take (i+1)) (a+1)).map λ(p:Nat)=>(p:Int)).length<=1000000):=by show _<=_;have:=HLN.out;have:=zGO f (l.take (i+1)) (a+1);rw [List.length_take] at this;rw [List.length_map];omega
    have oJ:=hrj6.own;obtain ⟨ja,jb,jc,rfl⟩:=oJ.slice;clear LJ h6 hX5 HX5 hpm hmp hba hst6 hrj6 hrt6 HEC;go_wp2_with (refine zBn rfl (.tmp 48) (.tmp 52) rfl (w6.alloc (.cells #[.int .i64 (p:Int)] 3)) (k+1) hkB (.slice ja jb jc) ((jx f (l.take (i+1)) (a+1)).map λ(p:Nat)=>(p:Int)) rfl oJ w6.heap.size (p:Int) rfl hat (λ_=>HJL.out) ?_;intro jv2 w7 oJ2 hg2 hb2)
    obtain ⟨N,hN⟩:∃ N,(w6.alloc (.cells #[.int .i64 (p:Int)] 3))=N:=⟨_,rfl⟩
    rw [hN] at hg2 hb2 HX6 hsz hkB;have hX6:=HX6.out;have HS2:Hid (∃ (i:Nat) (lvj:Value) (Pj:List (Wc.In × Value)),j+1=i+1/\i<=l.length/\YSt L bb off cap own nm av2 cap2 k w0 lv0 w7 (X++ins 15 0 0::zAx f l i (a+1)) lvj Pj (.slice (some ⟨bk,ok,none⟩) nk capk) (q0::qs)/\Row k w0 w7 (X++ins 15 0 0::zAx f l i (a+1)) jv2 ((jx f (l.take (i+1)) (a+1)).map λ(p:Nat)=>(p:Int))/\Row k w0 w7 (X++ins 15 0 0::zAx f l i (a+1)) (.slice ta2 tb2 tc2) (toC f (l.take i) (a+1))/\Apa jv2 (.slice ta2 tb2 tc2) bk):=by
     refine ⟨i+1,lv6,P6,by rw [HII.out.1],Nat.le_of_lt HMO.out,hX6.1.other hX6.2.1 hg2 hX6.2.2.2.2.1,?_,hX6.2.2.1.other hg2 hX6.2.2.2.1,hX6.2.2.2.right hb2 (λb e=>(zAK hX6.2.2.1.own e).2) ?_⟩
     ·have h9:=hX6.2.1.snoc oJ2 hb2 hsz (λ_=>HFZ.out);rw [zLy f l i (a+1) HMO.out,List.map_append,HP.out];exact h9
     ·exact (zAK hX6.1.kd (show Value.ownBlock (.slice (some ⟨bk,ok,none⟩) nk capk)=some bk from rfl)).2
    obtain ⟨ja2,jb2,jc2,rfl⟩:=oJ2.slice;clear oJ oJ2 hg2 hb2 hX6 HX6 hN hsz hkB hat HFZ;go_wp2_with fail
    go_roundg (l.length+1 - (j+1))
    case rel=>exact ⟨j+1,_,_,rfl,rfl,by simp,rfl,by omega,by omega,HS2⟩
    case measure=>omega
   ·have hjn:¬ (j:Int)+1<(nk:Int):=by have:=HNK.out;have:=HII.out;omega
    have HS2:Hid (∃ (i:Nat) (lvj:Value) (Pj:List (Wc.In × Value)),j+1=i+1/\i<=l.length/\YSt L bb off cap own nm av2 cap2 k w0 lv0 w5 (X++ins 15 0 0::zAx f l i (a+1)) lvj Pj (.slice (some ⟨bk,ok,none⟩) nk capk) (q0::qs)/\Row k w0 w5 (X++ins 15 0 0::zAx f l i (a+1)) jv ((jx f (l.take (i+1)) (a+1)).map λ(p:Nat)=>(p:Int))/\Row k w0 w5 (X++ins 15 0 0::zAx f l i (a+1)) (.slice ta2 tb2 tc2) (toC f (l.take i) (a+1))/\Apa jv (.slice ta2 tb2 tc2) bk):=by
     refine ⟨i+1,lv5,P5,by rw [HII.out.1],HII.out.2,?_⟩;rw [zKu f l i (a+1) hmo,zNM f l i (a+1) hmo];exact HX5.out
    have oJ:=HX5.out.2.1.own;obtain ⟨ja,jb,jc,rfl⟩:=oJ.slice;clear HX5 HEC oJ hmo;go_wp2_with fail
    go_roundg (l.length+1 - (j+1))
    case rel=>exact ⟨j+1,_,_,rfl,rfl,by simp,rfl,by omega,by omega,HS2⟩
    case measure=>omega
  ·have hli:¬ (j:Int)<(nk:Int):=by rw [HNK.out];omega
   have HE:Hid (∃ (lvj:Value) (Pj:List (Wc.In × Value)),YSt L bb off cap own nm av2 cap2 k w0 lv0 wr (X++ins 15 0 0::zAO f 0 l (a+1)) lvj Pj (.slice (some ⟨bk,ok,none⟩) nk capk) (q0::qs)/\Row k w0 wr (X++ins 15 0 0::zAO f 0 l (a+1)) jv ((jx f l (a+1)).map λ(p:Nat)=>(p:Int))/\Row k w0 wr (X++ins 15 0 0::zAO f 0 l (a+1)) tv (toC f l (a+1))):=by
    obtain ⟨i,lvj,Pj,hji,hil,hst,hrj,hrt,_⟩:=HS.out;have hie:l.length<=i:=by omega
    have hpe:zAx f l i (a+1)=zAO f 0 l (a+1):=by unfold zAx;rw [if_neg (by omega),List.append_nil,List.take_of_length_le hie]
    rw [hpe,List.take_of_length_le (by omega)] at hrj;rw [hpe,List.take_of_length_le hie] at hrt;rw [hpe] at hst;exact ⟨lvj,Pj,hst,hrj,hrt⟩
   clear HS hjl hj1 hg hlt;obtain ⟨lvj,Pj,hst,hrj,hrt⟩:=HE.out;have hL0:(X++ins 15 0 0::zAO f 0 l (a+1)).length=M:=by rw [List.length_append,HA.out.1,List.length_cons,<-HA.out.2.2];omega
   have HJB:Hid (∀ p ∈ jx f l (a+1),p<M):=λp hp=>by have:=zPK f l (a+1) p hp;have:=HA.out.2.2;omega
   obtain ⟨J,hJ⟩:∃ J,jx f l (a+1)=J:=⟨_,rfl⟩
   have HJJ:Hid (jx f l (a+1)=J):=hJ;rw [hJ] at hrj HJB;obtain ⟨ja,jb,jc,rfl⟩:=hrj.own.slice;have hjb:jb=J.length:=by
    have h9:=hrj.own.2;rw [List.length_map] at h9;rcases h9 with ⟨e,h9⟩ | ⟨g,c,cur,e,_⟩
    ·cases e;omega
    ·cases e;rfl
   subst hjb;obtain ⟨ta,tb,tcc,rfl⟩:=hrt.own.slice;have HL0:Hid ((X++ins 15 0 0::zAO f 0 l (a+1)).length=M):=hL0;have HJ30:Hid (J.length<=30):=by show _<=_;rw [<-hJ];have:=zGO f l (a+1);have:=HLN.out;omega
   have HT0:Hid (∃ Pj,YSt L bb off cap own nm av2 cap2 k w0 lv0 wr ((J.take 0).foldl (pA (M:Nat)) (X++ins 15 0 0::zAO f 0 l (a+1))) lvj Pj (.slice (some ⟨bk,ok,none⟩) nk capk) (q0::qs)/\Row k w0 wr ((J.take 0).foldl (pA (M:Nat)) (X++ins 15 0 0::zAO f 0 l (a+1))) (.slice ja J.length jc) (J.map λ(p:Nat)=>(p:Int))/\Row k w0 wr ((J.take 0).foldl (pA (M:Nat)) (X++ins 15 0 0::zAO f 0 l (a+1))) (.slice ta tb tcc) (toC f l (a+1))):=⟨Pj,hst,hrj,hrt⟩
   clear hst hrj hrt hL0 hJ HE;go_wp2_with fail
   go_loopg [13] J.length (λgk y wx=>∃ q:Nat,y=.int .i64 (q:Int)/\gk=J.length - q/\q<=J.length/\Hid (∃ Pj,YSt L bb off cap own nm av2 cap2 k w0 lv0 wx ((J.take q).foldl (pA (M:Nat)) (X++ins 15 0 0::zAO f 0 l (a+1))) lvj Pj (.slice (some ⟨bk,ok,none⟩) nk capk) (q0::qs)/\Row k w0 wx ((J.take q).foldl (pA (M:Nat)) (X++ins 15 0 0::zAO f 0 l (a+1))) (.slice ja J.length jc) (J.map λ(p:Nat)=>(p:Int))/\Row k w0 wx ((J.take q).foldl (pA (M:Nat)) (X++ins 15 0 0::zAO f 0 l (a+1))) (.slice ta tb tcc) (toC f l (a+1))))
   case atStart=>exact ⟨0,rfl,rfl,Nat.zero_le _,HT0⟩
   case round =>
    clear HT0;obtain ⟨q,rfl,hg,hql,HS⟩:=hrel;by_cases hlt:q<J.length
    ·have hli:(q:Int)<(J.length:Int):=by omega
     have hqz:(0:Int)<=(q:Int):=by omega
     have hwq:IntKind.i64.wrap ((q:Int)+1)=(q:Int)+1:=by have:=HJ30.out;rw [IntKind.wrap_i64];omega
     obtain ⟨Pj,hst0,hrj0,hrt0⟩:=HS.out;have hdr:=(Below.refl wr.heap.size wr).drew;have hst:=hst0.below hdr;have hrj:Row k w0 wr.drew _ (.slice ja J.length jc) _:=hrj0.below hdr;have hrt:Row k w0 wr.drew _ (.slice ta tb tcc) _:=hrt0.below hdr;obtain ⟨p,hp⟩:∃ p,J[q]=p:=⟨_,rfl⟩
     have hpM:p<M:=by rw [<-hp];exact HJB.out _ (List.getElem_mem hlt)
     obtain ⟨LQ,hLQ⟩:∃ LQ,(J.take q).foldl (pA (M:Nat)) (X++ins 15 0 0::zAO f 0 l (a+1))=LQ:=⟨_,rfl⟩
     have hLQl:LQ.length=M:=by rw [<-hLQ,zF8];exact HL0.out
     have hnx:(J.take (q+1)).foldl (pA (M:Nat)) (X++ins 15 0 0::zAO f 0 l (a+1))=LQ.set p ({(LQ[p]'(by omega)).1 with a:=(M:Nat)},(LQ[p]'(by omega)).2):=by
      rw [List.take_succ_eq_append_getElem hlt,List.foldl_append,hLQ,hp,List.foldl_cons,List.foldl_nil,zOA _ _ _ (by omega)]
     rw [hLQ] at hst hrj hrt;obtain ⟨bj,hbj⟩:∃ bj,ja=some ⟨bj,0,none⟩:=by
      have h9:=hrj.own.2;rw [List.length_map] at h9;rcases h9 with ⟨e,h9⟩ | ⟨g,c,cur,e,_⟩
      ·omega
      ·cases e;exact ⟨g,rfl⟩
     subst hbj;have cj:wr.drew.cell? ⟨bj,q,none⟩=some (.int .i64 (p:Int)):=by
      have h9:=hrj.own.cells rfl q (.int .i64 (p:Int)) (by rw [List.map_map,List.getElem?_map,List.getElem?_eq_getElem hlt,hp];rfl);have e9:(⟨bj,0,none⟩:Addr).add q=⟨bj,q,none⟩:=by unfold Addr.add;split <;> simp_all
      rw [e9] at h9;exact h9
     obtain ⟨g,gc,u,cl,hgk,zz,c9,hi0,hi1,hset⟩:=hst.spotAt (i:=p) (by omega) hLQl;have hgj:g ≠ bj:=λe=>by
      have h9:=hst.ys.at'.2.1 3 _ rfl;rw [cl] at h9;cases h9
      exact zAi hrj.own hst.ys.own (by decide) (show Value.ownBlock (.slice (some ⟨bj,0,none⟩) J.length jc)=some bj from rfl) (by rw [<-e];rfl)
     obtain ⟨P2,h2,f2⟩:=hset (M:Int);have HS2:Hid (∃ Pj,YSt L bb off cap own nm av2 cap2 k w0 lv0 (wr.drew.setCell ⟨g,p * 23+1,none⟩ (.int .i64 (M:Int))) ((J.take (q+1)).foldl (pA (M:Nat)) (X++ins 15 0 0::zAO f 0 l (a+1))) lvj Pj (.slice (some ⟨bk,ok,none⟩) nk capk) (q0::qs)/\Row k w0 (wr.drew.setCell ⟨g,p * 23+1,none⟩ (.int .i64 (M:Int))) ((J.take (q+1)).foldl (pA (M:Nat)) (X++ins 15 0 0::zAO f 0 l (a+1))) (.slice (some ⟨bj,0,none⟩) J.length jc) (J.map λ(p:Nat)=>(p:Int))/\Row k w0 (wr.drew.setCell ⟨g,p * 23+1,none⟩ (.int .i64 (M:Int))) ((J.take (q+1)).foldl (pA (M:Nat)) (X++ins 15 0 0::zAO f 0 l (a+1))) (.slice ta tb tcc) (toC f l (a+1))):=by
      show ∃ Pj,_
      rw [hnx];exact ⟨P2,h2,hrj.fr hst.ys f2 (zHP (by omega) _),hrt.fr hst.ys f2 (zHP (by omega) _)⟩
     clear hst0 hrj0 hrt0 hdr hst hrj hrt hLQ hLQl hnx hset h2 f2 hp hpM HS;go_upto_region 14 with fail
     refine wp_region_held_drew (S:=λW=>W.cell? ⟨k,3,none⟩=some (.slice (some ⟨g,0,none⟩) M gc)/\W.cell? ⟨bj,q,none⟩=some (.int .i64 (p:Int))) (by kernel_rfl) ⟨cl,cj⟩ (λhHeld=>?_);generalize wr.drew=WD at *;refine tkQ 0 ?_
     refine tkQ 1 ?_
     refine tkQ 2 ?_
     refine tkQ 3 ?_
     refine tkQ 4 ?_
     refine tkQ 5 ?_
     refine tkQ 6 ?_
     refine tkQ 7 ?_
     refine tkQ 8 ?_
     refine tkQ 9 ?_
     refine tkQ 10 ?_
     refine tkQ 11 ?_
     refine tkQ 12 ?_
     refine tkQ 13 ?_
     refine tkQ 14 ?_
     refine rdQ 15 (λK hK=>?_);go_simp
     refine hkQ hK (⟨by rw [World.cell?_setCell_far _ _ _ _ (by simpa using hgk)];exact cl,by rw [World.cell?_setCell_far _ _ _ _ (by simpa using hgj)];exact cj⟩) (λhHeld=>?_);clear hK K
     refine wpAnyH_done (by kernel_rfl) ?_ _;clear hHeld;generalize (WD.setCell ⟨g,p * 23+1,none⟩ (.int .i64 (M:Int)))=W3 at *;clear cl hgk zz c9 hi0 hi1 hgj cj;generalize WD=WDx at *;go_wp2_with fail
     go_roundg (J.length - (q+1))
     case rel=>exact ⟨q+1,by simp,rfl,hlt,HS2⟩
     case measure=>omega
    ·have hli:¬ (q:Int)<(J.length:Int):=by omega
     obtain ⟨Pj,hst0,hrj0,hrt0⟩:=HS.out;rw [List.take_of_length_le (by omega)] at hst0 hrt0;have hfo:=zJ9 f (M:Nat) l X (ins 15 0 0);rw [HA.out.1,HJJ.out] at hfo;rw [hfo] at hst0 hrt0;obtain ⟨r,hto⟩:∃ r,toC f l (a+1)=((a+1:Nat):Int)::r:=zJ6 f l (a+1) HLN.out.2.2;rw [hto] at hrt0;have hLe:(X++ins 15 0 0::zAO f (M:Nat) l (a+1)).length=M:=by rw [List.length_append,List.length_cons,zCz f (M:Nat) 0];have:=HL0.out;rw [List.length_append,List.length_cons] at this;exact this
     obtain ⟨g,gc,u,cl,hgk,zz,c9,hi0,hi1,P6,h6⟩:=hst0.spotTo (X:=X) (x:=ins 15 0 0) (R:=zAO f (M:Nat) l (a+1)) (i:=a) (M:=M) rfl HA.out.1.symm hLe hrt0;have HTO:Hid (toC f l (a+1)=((a+1:Nat):Int)::r):=hto;have HLE:Hid ((X++ins 15 0 0::zAO f (M:Nat) l (a+1)).length=M):=hLe;clear hst0 hrj0 hrt0 hfo hto hLe HS;go_upto_region 16 with fail
     obtain ⟨W6,hW6⟩:∃ W,(wr.setCell ⟨g,a * 23+22,none⟩ (.slice ta tb tcc))=W:=⟨_,rfl⟩
     rw [hW6] at h6 ⊢;clear hW6 cl hgk zz c9 hi0 hi1;have h7:=h6.below (Below.refl W6.heap.size W6).drew;obtain ⟨g,gc,u,cl,hgk,zz,c9,hi0,hi1,hset⟩:=h7.spot (X:=X) (x:=((ins 15 0 0).1,((a+1:Nat):Int)::r)) (R:=zAO f (M:Nat) l (a+1)) (i:=a) (M:=M) rfl HA.out.1.symm (by have:=HLE.out;rw [List.length_append,List.length_cons] at this ⊢;exact this) (Or.inr rfl);obtain ⟨P8,h8⟩:=hset (M:Int) (⟨15,0,(M:Nat),v0I,c0I,a0I,a0I⟩:Wc.In) (λtv=>rfl);rw [<-HTO.out] at h8;clear h6 h7 hset;go_upto_region 16 with fail
     refine wp_region_held_drew (S:=λW=>W.cell? ⟨k,3,none⟩=some (.slice (some ⟨g,0,none⟩) M gc)) (by kernel_rfl) cl (λhHeld=>?_);generalize W6.drew=WD at *;refine tkQ 0 ?_
     refine tkQ 1 ?_
     refine tkQ 2 ?_
     refine tkQ 3 ?_
     refine tkQ 4 ?_
     refine tkQ 5 ?_
     refine tkQ 6 ?_
     refine tkQ 7 ?_
     refine tkQ 8 ?_
     refine tkQ 9 ?_
     refine tkQ 10 ?_
     refine tkQ 11 ?_
     refine rdQ 12 (λK hK=>?_);go_simp
     refine hkQ hK (by rw [World.cell?_setCell_far _ _ _ _ (by simpa using hgk)];exact cl) (λhHeld=>?_);clear hK K
     refine wpAnyH_done (by kernel_rfl) ?_ _;clear hHeld;go_wp2;go_end0
     exact ⟨rfl,_,_,h8⟩
end
open Go.RowKit Wf
theorem l30:(zAJ 30).m=3:=by kernel_rfl
theorem l31:(zAJ 31).m=2:=by kernel_rfl
section
open Tryz
variable {L:List Wt.Nd} {bb off cap:Nat} {own:Int} {nm:List ByteArray} {av2:Option Addr} {cap2 k:Nat} {w0:World} {lv0:Value} {w:World} {Lc:List I} {lv:Value} {P:List (Wc.In × Value)} {kv:Value} {ks:List Nat} {n:Nat}
theorem zI3 (ih:YNd L bb off cap own nm av2 cap2 n) {kts:List (Tr n)} (id:Int) (hid:id=30 \/ id=31 \/ id=32) (h:YSt L bb off cap own nm av2 cap2 k w0 lv0 w Lc lv P kv ks) (hK:Kds L own nm n ks kts) (h2:2<=kts.length) (h30:kts.length<=30) (hm:(kts.length:Int)<=(zAJ id).m) (hv:∀ t ∈ kts,isA (Wf.hd n t)=false) (hb:Lc.length+(zAr (cod own (nm.take 16) n) id kts Lc.length).length<=800000) :
  Calls prog 91 #[.pointer (some ⟨k,0,none⟩),.int .i64 id,kv] w λe w'=>e=.returned (.tuple #[])/\∃ lv' P',YSt L bb off cap own nm av2 cap2 k w0 lv0 w' (Lc++zAr (cod own (nm.take 16) n) id kts Lc.length) lv' P' kv ks:=by
 obtain ⟨hlen,hsub,hfin⟩:=hK;obtain ⟨ta,tb,tr,rfl⟩:∃ ta tb tr,kts=ta::tb::tr:=by
  match kts,h2 with
  | ta::tb::tr,_=>exact ⟨ta,tb,tr,rfl⟩
 obtain ⟨q0,q1,qr,rfl⟩:∃ q0 q1 qr,ks=q0::q1::qr:=by
  match ks,hlen with
  | q0::q1::qr,_=>exact ⟨q0,q1,qr,rfl⟩
 have s0:Sub L q0 n ta:=hsub 0 (by simp) (by simp);have s1:Sub L q1 n tb:=hsub 1 (by simp) (by simp);have fa:=hfin ta (by simp);have fb:=hfin tb (by simp);have va:=hv ta (by simp);have vb:=hv tb (by simp);have hl:qr.length=tr.length:=by simpa using hlen
 rcases hid with rfl | rfl | rfl
 ·refine zK1 ih h s0 s1 fa fb va vb ?_ hb;rw [l30] at hm;match tr,qr,hl,hm,hsub,hfin,hv with
  | [],[],_,_,_,_,_=>exact Or.inl ⟨rfl,rfl⟩
  | [tc],[qc],_,_,hsub,hfin,hv=>exact Or.inr ⟨qc,tc,rfl,rfl,hsub 2 (by simp) (by simp),(hfin tc (by simp)).1,(hfin tc (by simp)).2,hv tc (by simp)⟩
  | _::_::_,_,_,hm,_,_,_=>simp at hm;omega
 ·rw [l31] at hm;have ht:tr=[]:=List.eq_nil_of_length_eq_zero (by simp at hm;omega);subst ht;have hq:qr=[]:=List.eq_nil_of_length_eq_zero (by simpa using hl);subst hq;exact zJg ih h s0 s1 fa fb va vb hb
 ·exact zJs ih h s0 ⟨fa.1,fa.2,va⟩ (by simpa using hl) (by simp) (by simp at h30 ⊢;omega) (λj h1 h2=>hsub (j+1) (by simpa using h1) (by simpa using h2)) (λt ht=>⟨(hfin t (List.mem_cons_of_mem _ ht)).1,(hfin t (List.mem_cons_of_mem _ ht)).2,hv t (List.mem_cons_of_mem _ ht)⟩) hb
end
open Go.RowKit Wf
section
open Tryz
variable {L:List Wt.Nd} {bb off cap:Nat} {own:Int} {nm:List ByteArray} {av2:Option Addr} {cap2 k:Nat} {w:World} {Lc:List I} {lv:Value} {P:List (Wc.In × Value)} {kv:Value} {ks:List Nat}
theorem zM6 {n:Nat} (ih:YNd L bb off cap own nm av2 cap2 n) {x:Wt.Nd} {kts:List (Tr n)} (hen:MEn L bb off nm av2 k w) (hys:YS k w (yv0 L bb off cap) (.int .i64 own) (yv2 nm av2 cap2) Lc lv P) (hkd:x5_OwnI w (k+1) kv ks) (hK:Kds L own nm n ks kts) (hkn:zAb (zA1 x.nm:Nat)=true) (hk30:kts.length<=30) (hc:(zAJ (zA1 x.nm:Nat)).c=4) (hA:∀ t ∈ kts,isA (Wf.hd n t)=false) (har:x.ar=kts.length) (hb:Lc.length+(zAg own (nm.take 16) (Wf.hd n) (cod own (nm.take 16) n) x kts Lc.length).length<=800000) :
  Calls prog 59 #[.pointer (some ⟨k,0,none⟩),.agg (zAG x).toArray,kv] w (YP k (.tuple #[]) (yv0 L bb off cap) (.int .i64 own) (yv2 nm av2 cap2) (Lc++zAg own (nm.take 16) (Wf.hd n) (cod own (nm.take 16) n) x kts Lc.length) lv w):=by
 obtain ⟨id,hidd⟩:∃ id:Int,((zA1 x.nm:Nat):Int)=id:=⟨_,rfl⟩
 have hcc:zAg own (nm.take 16) (Wf.hd n) (cod own (nm.take 16) n) x kts Lc.length=zAR (cod own (nm.take 16) n) kts Lc.length++[ins 5 id kts.length]:=by
  unfold zAg;simp only;rw [if_pos hc,har,hidd]
 rw [hcc] at hb ⊢;obtain ⟨C,hC⟩:∃ C,zAR (cod own (nm.take 16) n) kts Lc.length=C:=⟨_,rfl⟩
 rw [hC] at hb ⊢;have HC:Hid (zAR (cod own (nm.take 16) n) kts Lc.length=C):=hC;have HBD:Hid (Lc.length+C.length<=800000):=by show _<=_;simp at hb;omega
 have HKK:Hid (Kds L own nm n ks kts):=hK;have HAA:Hid (∀ t ∈ kts,isA (Wf.hd n t)=false):=hA;have H30:Hid (kts.length<=30):=hk30;have HIH:Hid (YNd L bb off cap own nm av2 cap2 n):=ih;clear hcc hC hb har hK hA hk30 ih;have h0:YSt L bb off cap own nm av2 cap2 k w lv w Lc lv P kv ks:=⟨hen,hys,Nx.refl _ _,Fr.refl _ _,hkd⟩
 obtain ⟨avk,capk,rfl,_⟩:=h0.kid;have pX:=AtL.new0 w 35 (zAG x);have hb0:=zAM (Below.refl _ w) (.cells (zAG x).toArray 35);have c8:=pX.2.1 8 (.string x.nm) rfl;have RO:=zG3 (λw=>zBI w) x.nm (w.alloc (.cells (zAG x).toArray 35));rw [hkn] at RO;clear pX hen hys hkd hkn;go_enter func59,ntmps59;go_upto_region 1 with fail
 generalize (w.alloc (.cells (zAG x).toArray 35))=W1 at *;go_wp2_with fail
 refine RO.mono ?_;rintro e w2 ⟨⟨s,rfl,hsk⟩,hb2⟩;obtain ⟨hmem,hnm⟩:=hsk (by first | rfl | trivial);have HNM:Hid (s.nm=x.nm):=hnm;clear hnm;obtain ⟨h3,pS,HSB⟩:=zOC h0 (zAB hb0 hb2) s;obtain ⟨sb,hsb⟩:∃ sb,w2.heap.size=sb:=⟨_,rfl⟩
 clear RO hb2 hb0 h0 c8 hsk;go_upto_region 7 with fail
 generalize (w2.alloc (.cells (sg6 s.id s.c s.nm s.l s.m s.p).toArray 108))=W3 at *;rw [hsb] at pS HSB;try simp only [hsb]
 clear hsb;have t0:=pS.2.1 0 (.int .i64 s.id) rfl;have t1:=pS.2.1 1 (.int .i64 s.c) rfl;obtain ⟨hid,hsp⟩:=zBD hmem;obtain ⟨_,hsc,hsl,hsm⟩:=zBP hmem;rw [HNM.out] at hid;rw [hidd] at hid;rw [hidd,hid,hsc] at hc;rw [hc] at t1;have hn25:¬ s.id=25:=λe=>by
   rw [e] at hsc;have:(zAJ 25).c=2:=by kernel_rfl
   omega
 have hn26:¬ s.id=26:=λe=>by
   rw [e] at hsc;have:(zAJ 26).c=2:=by kernel_rfl
   omega
 have hn27:¬ s.id=27:=λe=>by
   rw [e] at hsc;have:(zAJ 27).c=2:=by kernel_rfl
   omega
 subst hid;have e25:(s.id == 25)=false:=by simpa using hn25
 have e26:(s.id == 26)=false:=by simpa using hn26
 have e27:(s.id == 27)=false:=by simpa using hn27
 clear hn25 hn26 hn27 hidd;have HH3:Hid (YSt L bb off cap own nm av2 cap2 k w lv W3 Lc lv P (.slice avk ks.length capk) ks):=h3;have HG0:Hid (YSt L bb off cap own nm av2 cap2 k W3 lv W3 (Lc++zAR (cod own (nm.take 16) n) (kts.take 0) Lc.length) lv P (.slice avk ks.length capk) ks):=by
  show YSt _ _ _ _ _ _ _ _ _ _ _ _ _ _ _ _ _
  simp only [List.take_zero,zAR,List.append_nil];exact ⟨h3.en,h3.ys,Nx.refl _ _,Fr.refl _ _,h3.kd⟩
 have HT0:Hid (W3.cell? ⟨sb,0,none⟩=some (.int .i64 s.id)):=t0;have hkl:ks.length<=30:=by have:=HKK.out.len;have:=H30.out;omega
 clear h3 hsp hsl hsm hmem hsc hc pS;go_wp2_with fail
 clear t0 t1;go_loopg [12] ks.length (λgk y wr=>∃ j:Nat,y=.int .i64 (j:Int)/\gk=ks.length - j/\j<=ks.length/\Hid (∃ lvj Pj,YSt L bb off cap own nm av2 cap2 k W3 lv wr (Lc++zAR (cod own (nm.take 16) n) (kts.take j) Lc.length) lvj Pj (.slice avk ks.length capk) ks))
 case atStart=>exact ⟨0,rfl,rfl,Nat.zero_le _,⟨lv,P,HG0.out⟩⟩
 case round =>
  clear HG0;obtain ⟨j,rfl,hg,hj,HS⟩:=hrel;by_cases hlt:j<ks.length
  ·have hli:(j:Int)<(ks.length:Int):=by omega
   have hjz:(0:Int)<=(j:Int):=by omega
   have hwj:IntKind.i64.wrap ((j:Int)+1)=(j:Int)+1:=by rw [IntKind.wrap_i64];omega
   obtain ⟨lvj,Pj,hj1⟩:=HS.out;have hj2:j<kts.length:=by have:=HKK.out.len;omega
   obtain ⟨_,_,e9,hrj⟩:=hj1.kid;cases e9
   obtain ⟨bk,ok,rfl,hck⟩:=hrj j hlt;have hmem:=List.getElem_mem hj2;have hstep:=zBX (cod own (nm.take 16) n) kts j hj2 Lc.length;have hle:=zCX (cod own (nm.take 16) n) kts (j+1) Lc.length;rw [HC.out,hstep,List.length_append] at hle;have ND:=hj1.node HIH.out (HKK.out.sub j hlt hj2) ⟨(HKK.out.fin _ hmem).1,(HKK.out.fin _ hmem).2,HAA.out _ hmem⟩ (by
    have:=HBD.out;rw [List.length_append];omega)
   have HST:Hid (Lc++zAR (cod own (nm.take 16) n) (kts.take j) Lc.length++cod own (nm.take 16) n kts[j] (Lc++zAR (cod own (nm.take 16) n) (kts.take j) Lc.length).length=Lc++zAR (cod own (nm.take 16) n) (kts.take (j+1)) Lc.length):=by
    show _=_
    rw [hstep,List.length_append,List.append_assoc]
   rw [HST.out] at ND;generalize ks[j]=q at *;clear hj1 hrj hmem hstep hle HS HST hj2;go_wp2_with fail
   refine ND.mono ?_;rintro e w5 ⟨rfl,lv5,P5,h5⟩;have HS2:Hid (∃ lvj Pj,YSt L bb off cap own nm av2 cap2 k W3 lv w5 (Lc++zAR (cod own (nm.take 16) n) (kts.take (j+1)) Lc.length) lvj Pj (.slice (some ⟨bk,ok,none⟩) ks.length capk) ks):=⟨lv5,P5,h5⟩
   clear ND h5 hck;go_wp2_with fail
   go_roundg (ks.length - (j+1))
   case rel=>exact ⟨j+1,by simp,rfl,hlt,HS2⟩
   case measure=>omega
  ·have hli:¬ (j:Int)<(ks.length:Int):=by omega
   obtain ⟨lvj,Pj,hj1⟩:=HS.out;rw [show kts.take j=kts from List.take_of_length_le (by have:=HKK.out.len;omega),HC.out] at hj1;have t0:=hj1.fr.cell HT0.out HSB.out;have LA:=hj1.lay (ins 5 s.id kts.length).1 (by have:=HBD.out;rw [List.length_append];omega);have HKL:Hid ((ks.length:Int)=(kts.length:Int)):=by show _=_;rw [HKK.out.len]
   rw [<-HKL.out] at LA;clear hj1 HS;go_wp2_with (first | (refine zCo rfl 5 (.tmp 33) (.tmp 35) rfl s.id (ks.length:Int) rfl rfl ?_))
   refine LA.mono ?_;rintro e w6 ⟨rfl,lv6,P6,h6⟩;have HR:Hid (YP k (.tuple #[]) (yv0 L bb off cap) (.int .i64 own) (yv2 nm av2 cap2) (Lc++(C++[ins 5 s.id kts.length])) lv w (.returned (.tuple #[])) w6):=by
    have h7:=HH3.out.step h6.fr h6.nx h6.ys;rw [HKL.out] at h7;have h8:=h7.yp;rw [List.append_assoc] at h8;exact h8
   clear LA h6 t0;go_wp2;go_end0
   exact HR.out
end
