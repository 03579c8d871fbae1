/- KRowJ, KBndP, KBndQ, KBndJ, KJnP, KAbF, KTknK. -/
import Derived.Test.YtpkdhcijcndgnaaGreatDoorQ39
set_option maxHeartbeats 4000000
set_option maxRecDepth 100000
set_option linter.unusedVariables false
namespace Go.Proofs.YtpkdhcijcndgnaaGreatDoor
open Tryz
open Go.RowKit Wf
variable {L M:List Wf.I} {w W w':World} {P Q:List (Wc.In × Value)} {v u:Value} {l m:List Wt.Nd} {n c i:Nat} {ops:Array Oper} {rest:List Oper} {x:Wc.In} {nm:List ByteArray} {op own r:Int} {nx tl:List Int}
def TosJ (W w:World) (P:List (Wc.In × Value)) (L:List I):Prop:=P.length=L.length/\∀ i (h:i<P.length) (h':i<L.length),(P[i]).1=(L[i]).1/\(∃ p m k,(P[i]).2=.slice p m k/\(p=none->k=0))/\(RdZ W (P[i]).2 (L[i]).2 \/ OwnZ w W.heap.size (P[i]).2 (L[i]).2)
def RowJ (W w:World) (v:Value) (L:List I):Prop:=∃ P,OwnI w W.heap.size v P/\TosJ W w P L
theorem TosJ.nil (W w:World):TosJ W w [] []:=⟨rfl,λi h=>absurd h (Nat.not_lt_zero _)⟩
theorem RowJ.nil (W w:World):RowJ W w (.slice none 0 0) []:=⟨[],OwnI.nil _ _,TosJ.nil _ _⟩
theorem TosJ.fr (h:TosJ W w P L) {S:List Nat} (hf:Fr S w w') (hS:∀ k ∈ S,∀ v n xs,w.ownsRow W.heap.size 3 1 v n xs->v.ownBlock ≠ some k):TosJ W w' P L:=by
 refine ⟨h.1,λi hi hi'=>?_⟩;obtain ⟨a,b,c⟩:=h.2 i hi hi';refine ⟨a,b,c.imp id (λq=>zAP hf q (λg e hm=>hS g hm _ _ _ q e))⟩
theorem TosJ.below (h:TosJ W w P L) (hb:Below w.heap.size w w'):TosJ W w' P L:=h.fr (Fr.of_below [] hb) (by simp)
theorem RowJ.below (h:RowJ W w v L) (hb:Below w.heap.size w w'):RowJ W w' v L:=by
 obtain ⟨P,h1,h2⟩:=h;exact ⟨P,h1.below hb,h2.below hb⟩
theorem zNQ {B B':Nat} {xs:List Value} {k:Nat} (h:OwnI w B v P) (hk:v.ownBlock=some k) (h':w.ownsRow B' 3 1 u n xs):u.ownBlock ≠ some k:=zAf h h' (by decide) k hk
theorem TosJ.app (h:TosJ W w P L) (h':TosJ W w Q M):TosJ W w (P++Q) (L++M):=by
 refine ⟨by rw [List.length_append,List.length_append,h.1,h'.1],λi hi hi'=>?_⟩;by_cases q:i<P.length
 ·have q':i<L.length:=by rw [<-h.1];exact q
  rw [List.getElem_append_left q,List.getElem_append_left q'];exact h.2 i q q'
 ·have q1:P.length<=i:=by omega
  have q1':L.length<=i:=by rw [<-h.1];exact q1
  rw [List.getElem_append_right q1,List.getElem_append_right q1'];have e:i - L.length=i - P.length:=by rw [h.1]
  simp only [e];exact h'.2 (i - P.length) (by rw [List.length_append] at hi;omega) (by rw [List.length_append] at hi';have:=h'.1;omega)
theorem RowJ.grow {v':Value} (h:OwnI w W.heap.size v P) (ht:TosJ W w P L) (hq:TosJ W w Q M) (own:OwnI w' W.heap.size v' (P++Q)) (hg:w.grownBy w' v.ownBlock):RowJ W w' v' (L++M) :=
 ⟨P++Q,own,(ht.app hq).fr (Fr.of_grown (S:=v.ownBlock.toList) hg (λk e=>by simp [e])) (λk hk u n xs q=>by
  simp at hk;exact zNQ h hk q)⟩
theorem RowJ.stay (h:RowJ W w u L) (hv:OwnI w W.heap.size v P) (hne:∀ g,u.ownBlock=some g->v.ownBlock ≠ some g) (hg:w.grownBy w' v.ownBlock):RowJ W w' u L:=by
 obtain ⟨R,h1,h2⟩:=h;have fr:=Fr.of_grown (S:=v.ownBlock.toList) hg (λk e=>by simp [e]);refine ⟨R,zAP fr h1 (λg e hm=>hne g e (by simpa using hm)),h2.fr fr (λk hk a n xs q=>?_)⟩;simp at hk;exact zNQ hv hk q
theorem RowJ.rd (h:RowJ W w v L) (hb:Below W.heap.size W w):RdC w v L:=by
 obtain ⟨P,h1,h2⟩:=h;rcases h1.2 with ⟨e,h0⟩ | ⟨G,cap,cur,e,hbb,hg,r⟩
 ·subst e;refine ⟨none,0,by rw [<-h2.1,h0],λi hi=>?_⟩;have:=h2.1;omega
 ·subst e;refine ⟨some ⟨G,0,none⟩,cap,by rw [<-h2.1],λi hi2=>?_⟩;have hi3:i<P.length:=by rw [h2.1];exact hi2
  have c:=OwnI.cell h1 (i:=i) hi3;obtain ⟨q1,⟨p,m,k,q2,qn⟩,q3⟩:=h2.2 i hi3 hi2;have rz:RdZ w (P[i]).2 (L[i]).2:=by
   rcases q3 with q | q
   ·exact q.below hb
   ·exact q.rd
  rw [q1,q2] at c;rw [q2] at rz;exact ⟨G,0,p,m,k,rfl,by rw [Nat.zero_add];exact c,rz,qn⟩
theorem zFT {ops:Array Oper} {rest:List Oper} {o:Oper} {a:Act} {Q:Exit->Act->World->Prop} (hgd:o.guard=none) (s x:Operand) (ho:o.op=.call {callee:=.builtin .append,args:=#[s,x],argTypes:=#[30,30]})
  (w:World) (B:Nat) (hB:B<=w.heap.size) (v:Value) (A:List (Wc.In × Value)) (hs:a.eval s=v) (hown:OwnI w B v A) (g n:Nat) (L:List (Wc.In × Value)) (hn:n=L.length) (hx:a.eval x=.slice (some ⟨g,0,none⟩) n n) (hat:AtL w g (zAY L)) (hsl:∀ p ∈ L,∃ av n c,p.2=.slice av n c) (hl:A.length+L.length<=2000000)
  (h:∀ v' w',OwnI w' B v' (A++L)->w.grownBy w' v.ownBlock->(v'.ownBlock=v.ownBlock \/ v'.ownBlock=some w.heap.size)->wpList prog ops Q rest (a.put o.dst v') w'):wpList prog ops Q (o::rest) a w:=by
 subst hn;obtain ⟨i0,hi0,hz0,hz1,hz2⟩:=info_parts zGA;refine wpList_plain hgd λK hK=>?_
 have hnews:∀ j u,(zAY L)[j]? = some u->w.cell? ((⟨g,0,none⟩:Addr).add j)=some u:=λj u hj=>by
  have:=hat.2.1 j u hj;rw [show (⟨g,0,none⟩:Addr).add j=⟨g,j,none⟩ from by
   simp [Addr.add];try (intro h0;omega)]
  exact this
 obtain ⟨v',w',hr,own,hg,_,hb⟩:=run_append_own_at (P:=prog) w B 30 o.type 48 i0 _ 23 208 underlying30 hi0 hz0 hz1 hz2 rfl (by decide) v A.length (zAY A) hown ⟨g,0,none⟩ L.length L.length (zAY L) (zCZ L) hnews (zC0 L hsl) (by unfold maxLen;omega) (by omega) hB;unfold Oper.wp execOp;simp only [ho,resolve,invoke,builtin,Sem.run_bind,Sem.run_pure,Result.andThen_ok,List.map_toArray,List.map_cons,List.map_nil,hs,hx,hr];refine hK _ _ (h v' w' ?_ hg hb);unfold OwnI;rw [List.length_append,zCP];exact own
def lng (x:Wc.In):Int:=if x.op=8 then Wpl.sizeA x.ar.s x.ar.t x.ar.l x.ar.b x.ar.r else if x.op=9 then 2 * Wpl.sizeA x.ar.s x.ar.t x.ar.l x.ar.b x.ar.r else 1
theorem zHx (s t l b r:Int):0<=Wpl.sizeA s t l b r/\Wpl.sizeA s t l b r<=16777216:=by
 unfold Wpl.sizeA;cases h:Wpl.rightA s t l b r with
 | false=>simp
 | true =>
  simp only [if_true];have hb:1<=b - t+1/\b - t+1<=65536/\1<=r - l+1/\r - l+1<=256:=by
   unfold Wpl.rightA at h;simp only [decide_eq_true_eq] at h;omega
  obtain ⟨h1,h2,h3,h4⟩:=hb;refine ⟨Int.mul_nonneg (by omega) (by omega),?_⟩;have:=Int.mul_le_mul h2 h4 (by omega) (by omega);omega
theorem zNC (x:Wc.In):0<=lng x/\lng x<=33554432:=by
 have:=zHx x.ar.s x.ar.t x.ar.l x.ar.b x.ar.r;unfold lng;repeat' split
 all_goals omega
abbrev BD:=List (Int × Int)
def bat (D:BD) (j:Int):Int × Int:=D.getD j.toNat (0,0)
def zBW (D:BD):(Int × Int)->List Int->Int × Int
 | b,[]=>b
 | b,j::r=>zBW D (min b.1 (bat D j).1,max b.2 (bat D j).2) r
def zCh (x:Wc.In) (nx:List Int) (D:BD):Int × Int:=match nx with
 | []=>(1,1)
 | j::r=>((zBW D (bat D j) r).1+1,(zBW D (bat D j) r).2+lng x)
theorem zL0 (x:Wc.In) (a b:Int) (D:BD):zCh x [a,b] D=zCh x [b,a] D:=by
 simp only [zCh,zBW];rw [Int.min_comm,Int.max_comm]
theorem zQP (x:Wc.In) (tl:List Int) (i:Int) (D:BD):zCh x ((onw x.op x.a x.b tl i).1++(onw x.op x.a x.b tl i).2) D=zCh x (aP x tl i) D:=by
 by_cases h12:x.op=12
 ·simp [onw,aP,Wc.ahd,h12]
 by_cases h13:x.op=13
 ·simp [onw,aP,Wc.ahd,h13]
 by_cases h14:x.op=14
 ·have e1:(onw x.op x.a x.b tl i).1++(onw x.op x.a x.b tl i).2=[i+1,x.a]:=by simp [onw,h14]
  have e2:aP x tl i=[x.a,i+1]:=by simp [aP,Wc.ahd,h14]
  rw [e1,e2];exact zL0 _ _ _ _
 by_cases h15:x.op=15
 ·have e1:(onw x.op x.a x.b tl i).1++(onw x.op x.a x.b tl i).2=tl++[x.b]:=by simp [onw,h15]
  have e2:aP x tl i=tl++[x.b]:=by simp [aP,Wc.ahd,h15,Function.comp_def]
  rw [e1,e2]
 by_cases h16:x.op=16
 ·simp [onw,aP,Wc.ahd,h16]
 ·simp [onw,aP,Wc.ahd,h12,h13,h14,h15,h16]
def bkL (st:Nat->BD->Int × Int) (n:Nat):Nat->BD
 | 0=>List.replicate n (0,0)
 | c+1=>(bkL st n c).set (n - 1 - c) (st (n - 1 - c) (bkL st n c))
theorem zDr (st:Nat->BD->Int × Int) (n:Nat):∀ c,(bkL st n c).length=n
 | 0=>by simp [bkL]
 | c+1=>by simp [bkL,zDr st n c]
def BInv (c:Nat) (D:BD):Prop:=∀ j:Int,0<=(bat D j).1/\(bat D j).1<=(c:Int)/\0<=(bat D j).2/\(bat D j).2<=(c:Int) * 33554432
theorem zE9 {D:BD} {c:Nat} (h:BInv c D):∀ (l:List Int) (b:Int × Int),(0<=b.1/\b.1<=(c:Int)/\0<=b.2/\b.2<=(c:Int) * 33554432)->0<=(zBW D b l).1/\(zBW D b l).1<=(c:Int)/\0<=(zBW D b l).2/\(zBW D b l).2<=(c:Int) * 33554432
 | [],b,hb=>hb
 | j::r,b,hb=>by
  have hj:=h j;exact zE9 h r _ (by simp only;omega)
theorem zLG {D:BD} (h:BInv c D):0<=(zCh x nx D).1/\(zCh x nx D).1<=((c+1:Nat):Int)/\0<=(zCh x nx D).2/\(zCh x nx D).2<=((c+1:Nat):Int) * 33554432:=by
 cases nx with
 | nil=>simp only [zCh];omega
 | cons j r =>
  have:=zE9 h r (bat D j) (h j);have hl:=zNC x;simp only [zCh];omega
theorem BInv.set {D:BD} (h:BInv c D) {i:Nat} (hi:i<D.length) {b:Int × Int} (hb:0<=b.1/\b.1<=((c+1:Nat):Int)/\0<=b.2/\b.2<=((c+1:Nat):Int) * 33554432):BInv (c+1) (D.set i b):=by
 intro j;unfold bat;rw [List.getD_eq_getElem?_getD,List.getElem?_set];by_cases q:i=j.toNat
 ·simp [q,show j.toNat<D.length by omega];omega
 ·rw [if_neg q];have:=h j;unfold bat at this;rw [List.getD_eq_getElem?_getD] at this;omega
theorem zSG (n:Nat):BInv 0 (List.replicate n (0,0)):=by
 intro j;unfold bat;rw [List.getD_eq_getElem?_getD,List.getElem?_replicate];split <;> simp
def stA (L:List (Wc.In × List Int)) (i:Nat) (D:BD):Int × Int:=match L[i]? with
 | none=>(0,0)
 | some x=>zCh x.1 (aP x.1 x.2 i) D
theorem zDm {L:List (Wc.In × List Int)} (h:i<L.length) (D:BD):stA L i D=zCh (L[i]).1 (aP (L[i]).1 (L[i]).2 i) D:=by
 unfold stA;rw [List.getElem?_eq_getElem h]
theorem zF5 (L:List (Wc.In × List Int)) {n:Nat} (hn:L.length=n):∀ c,c<=n->BInv c (bkL (stA L) n c)
 | 0,_=>zSG n
 | c+1,hc=>by
  have ih:=zF5 L hn c (by omega);refine ih.set (by rw [zDr];omega) ?_;rw [zDm (by omega)];exact zLG ih
def zB3 (L:List (Wc.In × List Int)):Int × Int:=if Wc.chkP rgt L=true then bat (bkL (stA L) L.length L.length) 0 else (0,0)
open Wc
theorem zDD {L:List (Wc.In × List Int)} (h:Wc.chkP rgt L=true):∀ (k:Nat) (hk:k<L.length),rgt (L[k]).1 (L[k]).2=true/\((L[k]).1.op=16 ↔ k+1=L.length)/\(∀ j ∈ (onw (L[k]).1.op (L[k]).1.a (L[k]).1.b (L[k]).2 k).1,(k:Int)<j/\j<(L.length:Int))/\∀ j ∈ (onw (L[k]).1.op (L[k]).1.a (L[k]).1.b (L[k]).2 k).2,(k:Int)<j/\j<(L.length:Int):=by
 intro k hk;unfold Wc.chkP at h;rw [Bool.and_eq_true] at h;have h1:=(plcs_iff _ _ _ _).1 h.1 k hk;rw [Nat.zero_add] at h1;exact (plc_iff _ _ _ _).1 h1
theorem zIe (h:rgt x tl=true):(x.op=1/\Wv.right x.v.k x.v.n x.v.d x.v.t x.v.b x.v.f=true/\tl=[]) \/ (x.v=v0I/\tl.length<=30):=by
 have key:∀ (p:Bool) (y:Wc.In),y.v=v0I->(p && (smI x y && decide (tl=[])))=true->x.v=v0I/\tl.length<=30:=λp y hy q=>by
  simp only [Bool.and_eq_true,smI,zCl,decide_eq_true_eq] at q;exact ⟨q.2.1.2.2.1.trans hy,by rw [q.2.2];simp⟩
 by_cases h1:x.op=1
 ·rw [zMR h1] at h;simp only [Bool.and_eq_true,decide_eq_true_eq] at h;exact Or.inl ⟨h1,h.1,h.2.2⟩
 refine Or.inr ?_;by_cases h2:x.op=2
 ·rw [zLO h2] at h;exact key _ _ rfl h
 by_cases h3:x.op=3
 ·rw [zLb h3] at h;exact key _ _ rfl h
 by_cases h4:x.op=4
 ·rw [zKp h4] at h;exact key _ _ rfl h
 by_cases h5:x.op=5
 ·rw [zI2 h5] at h;exact key _ _ rfl h
 by_cases h6:x.op=6
 ·rw [zME h6] at h;exact key _ _ rfl h
 by_cases h7:x.op=7
 ·rw [zM4 h7] at h;exact key _ _ rfl h
 by_cases h8:x.op=8
 ·rw [zLa h8] at h;exact key _ _ rfl h
 by_cases h9:x.op=9
 ·rw [zLo h9] at h;exact key _ _ rfl h
 by_cases h10:x.op=10
 ·rw [zGp h10] at h;exact key _ _ rfl h
 by_cases h11:x.op=11
 ·rw [zEX h11] at h;exact key _ _ rfl h
 by_cases h12:x.op=12
 ·rw [zGk h12] at h;exact key _ _ rfl h
 by_cases h13:x.op=13
 ·rw [zHJ h13] at h;exact key _ _ rfl h
 by_cases h14:x.op=14
 ·rw [zG7 h14] at h;exact key _ _ rfl h
 by_cases h16:x.op=16
 ·rw [zGl h16] at h;exact key _ _ rfl h
 by_cases h15:x.op=15
 ·rw [zJg h15] at h;simp only [Bool.and_eq_true,smI,zCl,decide_eq_true_eq] at h;exact ⟨h.2.1.2.2.1,by omega⟩
 unfold rgt at h;rw [if_neg h1,if_neg h2,if_neg h3,if_neg h4,if_neg h5,if_neg h6,if_neg h7,if_neg h8,if_neg h9,if_neg h10,if_neg h11,if_neg h12,if_neg h13,if_neg h14,if_neg h15,if_neg h16] at h;cases h
theorem zRP {v:Wt.Vl} (h:Wv.right v.k v.n v.d v.t v.b v.f=true):Wt.FitV v:=by
 unfold Wv.right at h;unfold Wt.FitV;have ht:∀ {t:ByteArray},t=⟨#[]⟩->t.size=0:=λe=>by rw [e];rfl
 repeat' split at h
 all_goals try simp only [Bool.and_eq_true,decide_eq_true_eq,Wnum.rightB] at h
 ·have:=ht h.1.1.2;omega
 ·have:=ht h.1.1.2;omega
 ·omega
 ·have:=ht h.1.2;omega
 ·have:=ht h.1.2;omega
 ·cases h
theorem zDq {L:List (Wc.In × List Int)} (h:Wc.chkP rgt L=true):∀ x ∈ L,x.2.length<=1000000/\Wt.FitV x.1.v:=by
 intro x hx;obtain ⟨k,hk,rfl⟩:=List.mem_iff_getElem.1 hx;rcases zIe (zDD h k hk).1 with ⟨_,h2,h3⟩ | ⟨h2,h3⟩
 ·exact ⟨by rw [h3];simp,zRP h2⟩
 ·refine ⟨by omega,?_⟩;rw [h2];unfold Wt.FitV;decide
theorem zGg {D:BD} {b:Int × Int} (hi:i<D.length) (j:Int):bat (D.set i b) j=if i=j.toNat then b else bat D j:=by
 unfold bat;rw [List.getD_eq_getElem?_getD,List.getElem?_set];by_cases q:i=j.toNat
 ·simp [q,show j.toNat<D.length by omega]
 ·rw [if_neg q,if_neg q,List.getD_eq_getElem?_getD]
theorem zRs {o a b:Int} {i:Int} (h:o ≠ 16):(onw o a b tl i).1++(onw o a b tl i).2 ≠ []:=by
 unfold onw;repeat' split
 all_goals first | (simp;done) | omega
open Wc Wf
def fb (L:List I) (i:Nat):Int × Int:=bat (bkL (stA L) L.length L.length) i
theorem zHq (L:List I):∀ (d c:Nat),c+d<=L.length->∀ j:Nat,L.length - c<=j->bat (bkL (stA L) L.length (c+d)) j=bat (bkL (stA L) L.length c) j
 | 0,c,_,j,_=>rfl
 | d+1,c,h,j,hj=>by
  rw [<-Nat.add_assoc];simp only [bkL];rw [zGg (by rw [zDr];omega),if_neg (by omega)];exact zHq L d c (by omega) j hj
theorem zNR {j:Nat} (hc:c<=L.length) (hj:L.length - c<=j):bat (bkL (stA L) L.length c) j=fb L j:=by
 have:=zHq L (L.length - c) c (by omega) j hj;rw [show c+(L.length - c)=L.length by omega] at this;exact this.symm
theorem zED {D D':BD}:∀ (l:List Int) (b:Int × Int),(∀ j ∈ l,bat D j=bat D' j)->zBW D b l=zBW D' b l
 | [],b,_=>rfl
 | j::r,b,h=>by
  unfold zBW;rw [h j (List.mem_cons_self ..),zED r _ (λk hk=>h k (List.mem_cons_of_mem _ hk))]
theorem zKa {D D':BD} (h:∀ j ∈ nx,bat D j=bat D' j):zCh x nx D=zCh x nx D':=by
 cases nx with
 | nil=>rfl
 | cons j r =>
  simp only [zCh];rw [h j (List.mem_cons_self ..),zED r _ (λk hk=>h k (List.mem_cons_of_mem _ hk))]
def tg (x:I) (i:Int):List Int:=(onw x.1.op x.1.a x.1.b x.2 i).1++(onw x.1.op x.1.a x.1.b x.2 i).2
theorem zEZ (h:Wc.chkP rgt L=true) {k:Nat} (hk:k<L.length):∀ j ∈ tg (L[k]) k,(k:Int)<j/\j<(L.length:Int):=by
 obtain ⟨_,_,p3,p4⟩:=zDD h k hk;intro j hj;rcases List.mem_append.1 hj with hj | hj
 ·exact p3 j hj
 ·exact p4 j hj
theorem zDb (h:Wc.chkP rgt L=true) {i:Nat} (hi:i<L.length):fb L i=zCh (L[i]).1 (tg (L[i]) i) (bkL (stA L) L.length L.length):=by
 have e:=zNR (L:=L) (c:=L.length - i) (j:=i) (by omega) (by omega);rw [<-e];obtain ⟨c,hc⟩:∃ c,L.length - i=c+1:=⟨L.length - i - 1,by omega⟩
 rw [hc];simp only [bkL];rw [zGg (by rw [zDr];omega),if_pos (by omega),show L.length - 1 - c=i by omega,zDm hi,<-zQP];refine zKa (λj hj=>?_);have h1:=zEZ h hi j hj;have h2:=zNR (L:=L) (c:=c) (j:=j.toNat) (by omega) (by omega);rw [show ((j.toNat:Nat):Int)=j by omega] at h2;rw [h2];unfold fb;rw [show ((j.toNat:Nat):Int)=j by omega]
theorem zS3 (L:List I) {j:Int} (h:0<=j):bat (bkL (stA L) L.length L.length) j=fb L j.toNat:=by
 unfold fb;rw [show ((j.toNat:Nat):Int)=j by omega]
theorem zEu {D D':BD} {s:Int} {u v:Int}:∀ (l:List Int) (b:Int × Int),(∀ j ∈ l,bat D' (j+s)=((bat D j).1+u,(bat D j).2+v))->zBW D' (b.1+u,b.2+v) (l.map (· + s))=((zBW D b l).1+u,(zBW D b l).2+v)
 | [],b,_=>rfl
 | j::r,b,h=>by
  simp only [List.map_cons,zBW];rw [h j (List.mem_cons_self ..)];simp only;have e1:min (b.1+u) ((bat D j).1+u)=min b.1 (bat D j).1+u:=by omega
  have e2:max (b.2+v) ((bat D j).2+v)=max b.2 (bat D j).2+v:=by omega
  rw [e1,e2];exact zEu r (min b.1 (bat D j).1,max b.2 (bat D j).2) (λk hk=>h k (List.mem_cons_of_mem _ hk))
theorem zRV (x:I) (i:Int) (s:Int):tg (shf s x) (i+s)=(tg x i).map (· + s):=by
 unfold tg onw;simp only [shf];by_cases h12:x.1.op=12
 ·simp [h12];omega
 by_cases h13:x.1.op=13
 ·simp [h13]
 by_cases h14:x.1.op=14
 ·simp [h14];omega
 by_cases h15:x.1.op=15
 ·simp [h15]
 by_cases h16:x.1.op=16
 ·simp [h16]
 ·simp [h12,h13,h14,h15,h16];omega
theorem zPd (x:I) (s:Int):lng (shf s x).1=lng x.1:=rfl
theorem zGM (hL:Wc.chkP rgt L=true) (hM:Wc.chkP rgt M=true) {p q len:Nat} (s:Int) (hs:(q:Int)=(p:Int)+s) (h1:p+len<L.length) (h2:q+len<M.length) (he:∀ i (h:i<len),M[q+i]'(by omega)=shf s (L[p+i]'(by omega))) (ht:∀ i (h:i<len),∀ j ∈ tg (L[p+i]'(by omega)) ((p+i:Nat):Int),j<=((p+len:Nat):Int)) :
  ∀ d i:Nat,i+d=len->(fb M (q+i)).1 - (fb M (q+len)).1=(fb L (p+i)).1 - (fb L (p+len)).1/\(fb M (q+i)).2 - (fb M (q+len)).2=(fb L (p+i)).2 - (fb L (p+len)).2:=by
 intro d;induction d using Nat.strongRecOn with
 | _ d ih =>
  intro i hi;rcases Nat.eq_zero_or_pos d with h0 | h0
  ·subst h0;rw [show i=len by omega];omega
  ·have hil:i<len:=by omega
   have hne:(L[p+i]'(by omega)).1.op ≠ 16:=λe=>by
    have:=(zDD hL (p+i) (by omega)).2.1.1 e;omega
   rw [zDb hL (i:=p+i) (by omega),zDb hM (i:=q+i) (by omega),he i hil];have e1:((q+i:Nat):Int)=((p+i:Nat):Int)+s:=by omega
   rw [e1,zRV];have htg:=zEZ hL (k:=p+i) (by omega);have hte:=ht i hil;have hnx:=zRs (o:=(L[p+i]'(by omega)).1.op) (a:=(L[p+i]'(by omega)).1.a) (b:=(L[p+i]'(by omega)).1.b) (tl:=(L[p+i]'(by omega)).2) (i:=((p+i:Nat):Int)) hne;have hnx2:tg (L[p+i]'(by omega)) ((p+i:Nat):Int) ≠ []:=hnx;have key:∀ j ∈ tg (L[p+i]'(by omega)) ((p+i:Nat):Int),bat (bkL (stA M) M.length M.length) (j+s)=((bat (bkL (stA L) L.length L.length) j).1+((fb M (q+len)).1 - (fb L (p+len)).1),(bat (bkL (stA L) L.length L.length) j).2+((fb M (q+len)).2 - (fb L (p+len)).2)):=λj hj=>by
    have b1:=htg j hj;have b2:=hte j hj;obtain ⟨i',hi'⟩:∃ i':Nat,j=((p+i':Nat):Int):=⟨j.toNat - p,by omega⟩
    subst hi';have b3:=ih (len - i') (by omega) i' (by omega);have e2:((p+i':Nat):Int)+s=((q+i':Nat):Int):=by omega
    rw [e2];have f1:bat (bkL (stA M) M.length M.length) ((q+i':Nat):Int)=fb M (q+i'):=rfl;have f2:bat (bkL (stA L) L.length L.length) ((p+i':Nat):Int)=fb L (p+i'):=rfl;rw [f1,f2];ext
    ·simp only;omega
    ·simp only;omega
   generalize tg (L[p+i]'(by omega)) ((p+i:Nat):Int)=nx at *;cases nx with
   | nil=>exact absurd rfl hnx2
   | cons j r =>
    simp only [List.map_cons,zCh];rw [key j (List.mem_cons_self ..)];rw [zEu r _ (λk hk=>key k (List.mem_cons_of_mem _ hk))];simp only;rw [zPd];omega
theorem zEW {f g:List Wt.Nd->Option (Nat × Nat)} (H:∀ l r,f l=some r->g l=some r):∀ (k:Nat) (l:List Wt.Nd) (r:Nat × Nat),Wt.many f k l=some r->Wt.many g k l=some r
 | 0,l,r,h=>h
 | k+1,l,r,h=>by
  simp only [Wt.many] at h ⊢;cases e:f l with
  | none=>rw [e] at h;cases h
  | some q =>
   obtain ⟨s,d⟩:=q;rw [e] at h;rw [H l _ e];simp only at h ⊢;cases e2:Wt.many f k (l.drop s) with
   | none=>rw [e2] at h;cases h
   | some q2 =>
    rw [e2] at h;rw [zEW H k _ _ e2];exact h
theorem zGZ:∀ (f:Nat) (l:List Wt.Nd) (r:Nat × Nat),Wt.one f l=some r->Wt.one (f+1) l=some r
 | 0,l,r,h=>by simp [Wt.one] at h
 | f+1,[],r,h=>by simp [Wt.one] at h
 | f+1,x::t,r,h=>by
  unfold Wt.one at h ⊢;split at h
  ·rename_i hx
   rw [if_pos hx];cases e:Wt.many (Wt.one f) (Wt.parts x).toNat t with
   | none=>rw [e] at h;cases h
   | some q =>
    rw [e] at h;rw [zEW (zGZ f) _ _ _ e];exact h
  ·cases h
theorem zHo {f:Nat} {l:List Wt.Nd} {r:Nat × Nat} (h:Wt.one f l=some r):∀ d,Wt.one (f+d) l=some r
 | 0=>h
 | d+1=>zGZ _ _ _ (zHo h d)
theorem zEk (h:Wt.check l=0) (F:Nat) (hF:l.length+1<=F):∃ t:Tr F,row F t=l/\zCU F t:=by
 unfold Wt.check at h;split at h
 ·omega
 ·split at h
  ·omega
  ·rename_i s d h1
   split at h
   ·omega
   ·rename_i hs
    have h2:=zHo h1 (F - (l.length+1));rw [show l.length+1+(F - (l.length+1))=F by omega] at h2;obtain ⟨t,e,f⟩:=zD8 _ _ _ _ h2;refine ⟨t,?_,f⟩;rw [e,show s=l.length from by omega,List.take_length]
theorem zI3 (h:Wt.check l=0):l.length<=256:=by
 unfold Wt.check at h;split at h
 ·omega
 ·omega
theorem zDy (l:List Wt.Nd) (nm:List ByteArray) (hF:∀ x ∈ l,Wt.FitN x) (hn:nm.length<=20000) (hc:Wt.check l=0) (n:Nat) (t:Tr n) (hrow:row n t=l) (hT:zCU n t):FlC l nm (λown r c=>flE own r c nm n t) (λown=>flC own nm n t):=by
 have h256:=zI3 hc;refine ⟨λown r c w B B2 vN vS ho hN hO h1 h2=>?_,λown r c h=>zCS hT h,λown=>?_,λh1 h2 a1 b1 a2 b2 h16=>⟨zIO a1 b1 a2 b2 h16 _ t,zJt h1 h2 nm _ t⟩⟩
 ·obtain ⟨av,cap,rfl,hcap,hr,hp⟩:=zC7 h1;obtain ⟨av3,cap3,rfl,hcap3,hr3⟩:=zDe h2;have h0:0<l.length:=by rw [<-hrow];exact zFP _ t
  obtain ⟨g,rfl⟩:=hp h0;exact Calls.mono (zDl _ t g 0 cap l own r c av3 nm nm.length cap3 w hF hO hN hr hr3 hc hrow hT h256 hcap l.length rfl rfl hcap3 (by omega) ho) (λ_ _ h=>h.q)
 ·have h7:=zGc own (nm.take 16) _ t 0;rw [hrow] at h7;simp only [flC,List.length_append,List.length_cons,List.length_nil];omega
theorem zJA (l:List Wt.Nd) (nm:List ByteArray) (hl:l.length<=20000) (hF:∀ x ∈ l,Wt.FitN x) (hc:Wt.check l ≠ 0):FlC l nm (λ_ _ _=>Wt.check l) (λ_=>[]):=by
 refine ⟨λown r c w B B2 vN vS ho hN hO h1 h2=>?_,λown r c h=>absurd h hc,λ_=>by simp,λh1 h2 _ _ _ _ _=>⟨rfl,trivial⟩⟩;obtain ⟨av,cap,rfl,hcap,hr,hp⟩:=zC7 h1;obtain ⟨av3,cap3,rfl,hcap3,hr3⟩:=zDe h2;exact Calls.mono (zG0 av cap l own r c av3 nm.length cap3 w (by omega) hF hO hr hc l.length rfl) (λ_ _ h=>h.q)
def opN (op:Int):Wt.Nd:=⟨5,Wt.v0,op,⟨#[]⟩,0,Wt.r0,Wt.r0⟩
def suN:Wt.Nd:=⟨6,Wt.v0,0,⟨#[83,85,77]⟩,2,Wt.r0,Wt.r0⟩
def jnB (X Y:List I) (op:Int):List I:=X.dropLast++Y.dropLast.map (shf ((X.length - 1:Nat):Int))++[ins 4 op 0,ins 16 0 0]
def jnS (X Y:List I):List I:=ins 6 1 0::(X.dropLast.map (shf 1)++ins 7 0 0::(Y.dropLast.map (shf ((X.length - 1+2:Nat):Int))++[ins 7 0 0,ins 10 0 0,ins 16 0 0]))
structure Jn (l m:List Wt.Nd) (nm:List ByteArray) (op:Int) (C1 C2:Int->List I) (own r c:Int) (E3 E4:Int->Int->Int->Int) (C3 C4:Int->List I):Prop where
 b:FlC (opN op::(l++m)) nm E3 C3
 s:FlC (suN::(l++m)) nm E4 C4
 eb:E3 own r c=0
 es:E4 own r c=0
 cb:C3 own=jnB (C1 own) (C2 own) op
 cs:C4 own=jnS (C1 own) (C2 own)
 bd:(zB3 (C3 own)).1=(zB3 (C1 own)).1+(zB3 (C2 own)).1/\(zB3 (C3 own)).2=(zB3 (C1 own)).2+(zB3 (C2 own)).2
theorem zJF {c:Int} {t:Tr n} (h:flE own r c nm n t=0):Wpl.rightC own r c=true/\¬ (nm.length:Int)<=own/\zB1 own (nm.take 16) n t=0/\isA (hd n t)=false:=by
 unfold flE at h;have h1:Wpl.rightC own r c=true:=by
  cases q:Wpl.rightC own r c with
  | true=>rfl
  | false=>rw [q] at h;simp at h
 rw [if_neg (by simp [h1])] at h;by_cases h2:(nm.length:Int)<=own
 ·rw [if_pos h2] at h;omega
 rw [if_neg h2] at h;by_cases h3:zB1 own (nm.take 16) n t=0
 ·rw [if_neg (by simp [h3])] at h;cases h4:isA (hd n t) with
  | true=>rw [h4] at h;simp at h
  | false=>exact ⟨h1,h2,h3,rfl⟩
 ·rw [if_pos h3] at h;exact absurd h h3
theorem zRO {c:Int} {t:Tr n} (h1:Wpl.rightC own r c=true) (h2:¬ (nm.length:Int)<=own) (h3:zB1 own (nm.take 16) n t=0) (h4:isA (hd n t)=false):flE own r c nm n t=0:=by
 unfold flE;rw [if_neg (by simp [h1]),if_neg h2,if_neg (by simp [h3]),if_neg (by simp [h4])]
theorem zMf (x:I):shf 0 x=x:=by
 obtain ⟨y,tl⟩:=x;simp [shf]
theorem zFw (h:Wc.chkP rgt L=true) {k:Nat} (hk:k+1=L.length):fb L k=(1,1):=by
 rw [zDb h (by omega)];have h16:=(zDD h k (by omega)).2.1.2 hk;have e:tg (L[k]'(by omega)) k=[]:=by
  unfold tg;rw [h16];simp [onw]
 rw [e];rfl
theorem zQH {X Y:List I} (hx:Wc.chkP rgt X=true) (hy:Wc.chkP rgt Y=true) (hz:Wc.chkP rgt (jnB X Y op)=true) (h2:2<=X.length) (h3:2<=Y.length):(zB3 (jnB X Y op)).1=(zB3 X).1+(zB3 Y).1/\(zB3 (jnB X Y op)).2=(zB3 X).2+(zB3 Y).2:=by
 have e1:zB3 X=fb X 0:=by unfold zB3;rw [if_pos hx];rfl
 have e2:zB3 Y=fb Y 0:=by unfold zB3;rw [if_pos hy];rfl
 have e3:zB3 (jnB X Y op)=fb (jnB X Y op) 0:=by unfold zB3;rw [if_pos hz];rfl
 rw [e1,e2,e3];have hl:(jnB X Y op).length=X.length - 1+(Y.length - 1)+2:=by simp [jnB];omega
 have p1:=zGM hx hz (p:=0) (q:=0) (len:=X.length - 1) 0 (by omega) (by omega) (by omega) (λi hi=>by
  rw [zMf];simp only [jnB,Nat.zero_add];rw [List.getElem_append_left (by simp;omega),List.getElem_append_left (by simp;omega),List.getElem_dropLast]) (λi hi j hj=>by
  have:=zEZ hx (k:=0+i) (by omega) j hj;omega) (X.length - 1) 0 (by omega)
 have p2:=zGM hy hz (p:=0) (q:=X.length - 1) (len:=Y.length - 1) ((X.length - 1:Nat):Int) (by omega) (by omega) (by omega) (λi hi=>by
  simp only [jnB,Nat.zero_add];rw [List.getElem_append_left (by simp;omega),List.getElem_append_right (by simp)];simp [List.getElem_dropLast]) (λi hi j hj=>by
  have:=zEZ hy (k:=0+i) (by omega) j hj;omega) (Y.length - 1) 0 (by omega)
 have q1:=zFw hx (k:=X.length - 1) (by omega);have q2:=zFw hy (k:=Y.length - 1) (by omega);have q3:=zFw hz (k:=X.length - 1+(Y.length - 1)+1) (by omega);have q4:fb (jnB X Y op) (X.length - 1+(Y.length - 1))=(2,2):=by
  rw [zDb hz (by omega)];have e:(jnB X Y op)[X.length - 1+(Y.length - 1)]'(by omega)=ins 4 op 0:=by
   simp only [jnB];rw [List.getElem_append_right (by simp)];simp
  rw [e];have e5:tg (ins 4 op 0) ((X.length - 1+(Y.length - 1):Nat):Int)=[((X.length - 1+(Y.length - 1)+1:Nat):Int)]:=by
   simp [tg,onw,ins]
  rw [e5];simp only [zCh,zBW];rw [zS3 _ (by omega),show ((X.length - 1+(Y.length - 1)+1:Nat):Int).toNat=X.length - 1+(Y.length - 1)+1 by omega,q3];rfl
 simp only [Nat.zero_add,Nat.add_zero] at p1 p2;rw [q1] at p1;rw [q2,q4] at p2;simp only at p1 p2;omega
def opL:List Int:=[11,12,13,14,15,16,21,22,23,24,25,26]
theorem zIj:opL.all (λo=>Wt.right (opN o))=true:=by kernel_rfl
theorem zEh:Wt.right suN=true:=by kernel_rfl
theorem zLd (ho:Wt.right (opN op)=true) (h:Wt.check (opN op::(l++m))=0):Wt.check (suN::(l++m))=0:=by
 unfold Wt.check at h ⊢;have e:Wt.one ((suN::(l++m)).length+1) (suN::(l++m))=Wt.one ((opN op::(l++m)).length+1) (opN op::(l++m)):=by
  simp only [List.length_cons];unfold Wt.one;rw [if_pos ho,if_pos zEh];rfl
 rw [e];exact h
theorem zFe {x:Wt.Nd} (hx:Wt.FitN x) (h1:∀ y ∈ l,Wt.FitN y) (h2:∀ y ∈ m,Wt.FitN y):∀ y ∈ x::(l++m),Wt.FitN y:=λy hy=>by
 rcases List.mem_cons.1 hy with rfl | hy
 ·exact hx
 ·rcases List.mem_append.1 hy with hy | hy
  ·exact h1 y hy
  ·exact h2 y hy
theorem zSP (ho:op ∈ opL) (hF1:∀ x ∈ l,Wt.FitN x) (hF2:∀ x ∈ m,Wt.FitN x) (hn:nm.length<=20000) {F:Nat} {tl tm:Tr F} (r1:row F tl=l) (r2:row F tm=m) (f1:zCU F tl) (f2:zCU F tm) {own r c:Int} (z1:flE own r c nm F tl=0) (z2:flE own r c nm F tm=0) (hc:Wt.check (opN op::(l++m))=0) :
  ∃ E3 E4 C3 C4,Jn l m nm op (λown=>flC own nm F tl) (λown=>flC own nm F tm) own r c E3 E4 C3 C4:=by
 have hor:Wt.right (opN op)=true:=List.all_eq_true.1 zIj op ho;obtain ⟨a1,a2,a3,a4⟩:=zJF z1;obtain ⟨_,_,b3,b4⟩:=zJF z2;have fb1:Wt.FitN (opN op):=by
  unfold Wt.FitN Wt.FitV opN;exact ⟨(by decide:(-9223372036854775808<=Wt.v0.n/\Wt.v0.n<=9223372036854775807)/\(-9223372036854775808<=Wt.v0.d/\Wt.v0.d<=9223372036854775807)/\Wt.v0.t.size<=9223372036854775807),(by decide:(⟨#[]⟩:ByteArray).size<=9223372036854775807),(by decide:Wt.r0.s.size<=9223372036854775807),(by decide:Wt.r0.s.size<=9223372036854775807)⟩
 have fs1:Wt.FitN suN:=by
  unfold Wt.FitN Wt.FitV;decide
 have hrow:∀ x:Wt.Nd,row (F+1) (⟨x,[tl,tm]⟩:Br (Tr F))=x::(l++m):=λx=>by
  show x::(([tl,tm].map (row F)).flatten)=_
  simp [r1,r2]
 have FB:=zDy (opN op::(l++m)) nm (zFe fb1 hF1 hF2) hn hc (F+1) (⟨opN op,[tl,tm]⟩:Br (Tr F)) (hrow _) ⟨hor,rfl,λk hk=>by
  simp only [List.mem_cons,List.not_mem_nil,or_false] at hk;rcases hk with rfl | rfl
  ·exact f1
  ·exact f2⟩
 have FS:=zDy (suN::(l++m)) nm (zFe fs1 hF1 hF2) hn (zLd hor hc) (F+1) (⟨suN,[tl,tm]⟩:Br (Tr F)) (hrow _) ⟨zEh,rfl,λk hk=>by
  simp only [List.mem_cons,List.not_mem_nil,or_false] at hk;rcases hk with rfl | rfl
  ·exact f1
  ·exact f2⟩
 have zb:flE own r c nm (F+1) (⟨opN op,[tl,tm]⟩:Br (Tr F))=0:=by
  refine zRO a1 a2 ?_ rfl;show zO2 (zCD own (nm.take 16) (opN op) [hd F tl,hd F tm]::[zB1 own (nm.take 16) F tl,zB1 own (nm.take 16) F tm])=0
  rw [a3,b3];have e:zCD own (nm.take 16) (opN op) [hd F tl,hd F tm]=0:=by
   unfold zCD;rw [if_neg (by simp [opN]),if_pos (by simp [opN]),if_neg (by simp [a4,b4])]
  rw [e];rfl
 have zs:flE own r c nm (F+1) (⟨suN,[tl,tm]⟩:Br (Tr F))=0:=by
  refine zRO a1 a2 ?_ rfl;show zO2 (zCD own (nm.take 16) suN [hd F tl,hd F tm]::[zB1 own (nm.take 16) F tl,zB1 own (nm.take 16) F tm])=0
  rw [a3,b3];have e:zCD own (nm.take 16) suN [hd F tl,hd F tm]=0:=by
   unfold zCD;rw [if_neg (by simp [suN]),if_neg (by simp [suN]),if_pos (show suN.k=6 from rfl)];have e1:zAc suN.nm=1:=by kernel_rfl
   unfold zHa;simp only [e1];have e2:zAz ((1:Nat):Int)=true:=by kernel_rfl
   have e3:(zAN ((1:Nat):Int))=⟨1,1,30,⟨#[120]⟩⟩:=by kernel_rfl
   rw [if_neg (by rw [e2];simp),e3,if_neg (by simp [suN])];have e4:zAi ([120]:List UInt8) [hd F tl,hd F tm] 0=true:=by
    simp [zAi,a4,b4]
   rw [show (⟨#[120]⟩:ByteArray).data.toList=[120] from rfl,if_neg (by simp [e4])];have e5:zAu ((1:Nat):Int) [hd F tl,hd F tm]=true:=by
    unfold zAu;rw [if_neg (by decide)]
   rw [if_neg (by rw [e5];simp)]
  rw [e];rfl
 have w1:Wr own (nm.take 16) F tl:=⟨f1,a3,a4⟩
 have w2:Wr own (nm.take 16) F tm:=⟨f2,b3,b4⟩
 have d1:(flC own nm F tl).dropLast=cod own (nm.take 16) F tl 0:=by simp [flC]
 have d2:(flC own nm F tm).dropLast=cod own (nm.take 16) F tm 0:=by simp [flC]
 have d3:(flC own nm F tl).length - 1=(cod own (nm.take 16) F tl 0).length:=by simp [flC]
 have sh:=λs=>zKZ own (nm.take 16) s F
 have cb:flC own nm (F+1) (⟨opN op,[tl,tm]⟩:Br (Tr F))=jnB (flC own nm F tl) (flC own nm F tm) op:=by
  unfold jnB;rw [d1,d2,d3];show zAo own (nm.take 16) (hd F) (cod own (nm.take 16) F) (opN op) [tl,tm] 0++[ins 16 0 0]=_
  unfold zAo;rw [if_neg (by simp [opN]),if_neg (by simp [opN]),if_neg (by simp [opN]),if_pos (show (opN op).k=5 from rfl)];simp only [zA0];rw [sh (cod own (nm.take 16) F tl 0).length tm 0];simp [opN]
 have cs:flC own nm (F+1) (⟨suN,[tl,tm]⟩:Br (Tr F))=jnS (flC own nm F tl) (flC own nm F tm):=by
  unfold jnS;rw [d1,d2,d3];show zAo own (nm.take 16) (hd F) (cod own (nm.take 16) F) suN [tl,tm] 0++[ins 16 0 0]=_
  unfold zAo;rw [if_neg (by simp [suN]),if_neg (by simp [suN]),if_neg (by simp [suN]),if_neg (by simp [suN]),if_pos (show suN.k=6 from rfl)];unfold zBs;have e1:zAc suN.nm=1:=by kernel_rfl
  have e3:(zAN ((1:Nat):Int))=⟨1,1,30,⟨#[120]⟩⟩:=by kernel_rfl
  simp only [e1,e3];rw [if_neg (by omega),if_pos trivial];simp only [zA0,zCE,a4,b4,Bool.false_eq_true,if_false,zAd,List.length_append,List.length_cons,List.length_nil];have s1:=sh 1 tl 0;rw [Nat.zero_add] at s1;rw [Nat.zero_add,s1,List.length_map];have s2:=sh ((cod own (nm.take 16) F tl 0).length+2) tm 0;rw [Nat.zero_add] at s2;rw [show 1+((cod own (nm.take 16) F tl 0).length+1)=(cod own (nm.take 16) F tl 0).length+2 by omega,s2];simp
 obtain ⟨k1,k2⟩:=zCS f1 z1;obtain ⟨k3,k4⟩:=zCS f2 z2;obtain ⟨k5,k6⟩:=FB.right own r c zb;replace k5:Wc.chkP rgt (flC own nm (F+1) (⟨opN op,[tl,tm]⟩:Br (Tr F)))=true:=k5
 rw [cb] at k5;refine ⟨_,_,_,_,FB,FS,zb,zs,cb,cs,?_⟩;show (zB3 (flC own nm (F+1) (⟨opN op,[tl,tm]⟩:Br (Tr F)))).1=_/\(zB3 (flC own nm (F+1) (⟨opN op,[tl,tm]⟩:Br (Tr F)))).2=_
 rw [cb];exact zQH k1 k3 k5 k2 k4
def ndL:Wt.Nd:=⟨2,Wt.v0,0,⟨#[]⟩,0,Wt.r0,Wt.r0⟩
def trL:Tr 1:=(⟨ndL,[]⟩:Br (Tr 0))
def nmL:List ByteArray:=[⟨#[83]⟩]
theorem zO3:row 1 trL=[ndL]:=rfl
theorem zKs:zCU 1 trL:=⟨by kernel_rfl,by kernel_rfl,λk hk=>by cases hk⟩
theorem zIP:Wt.check [ndL]=0:=by kernel_rfl
theorem zN5:∀ x ∈ [ndL],Wt.FitN x:=by
 intro x hx;simp only [List.mem_cons,List.not_mem_nil,or_false] at hx;subst hx;unfold Wt.FitN Wt.FitV;decide
theorem zSL:flE 0 3 0 nmL 1 trL=0:=by kernel_rfl
theorem zSA:flC 0 nmL 1 trL=[ins 2 0 0,ins 16 0 0]:=by kernel_rfl
theorem zPg:Wc.chkP rgt [ins 2 0 0,ins 16 0 0]=true:=by kernel_rfl
theorem zNB:(usA [ins 2 0 0,ins 16 0 0]).length=1:=by kernel_rfl
theorem zJJ:∀ x ∈ [ins 2 0 0,ins 16 0 0],x.2.length<=1000000/\Wt.FitV x.1.v:=by
 intro x hx;simp only [List.mem_cons,List.not_mem_nil,or_false] at hx;rcases hx with rfl | rfl
 ·exact ⟨by simp [ins],by unfold Wt.FitV;decide⟩
 ·exact ⟨by simp [ins],by unfold Wt.FitV;decide⟩
theorem zTR (w:World):(Instr.build 56 #[(0,.int .i64 2)]).run prog w=.ok (.agg (zAM ndL).toArray) w:=by kernel_rfl
theorem zFW {op:Oper} {a:Act} {Q:Exit->Act->World->Prop} (hgd:op.guard=none) (ho:op.op=.build 56 #[(0,.const (.int .i64 2))])
  (h:wpList prog ops Q rest (a.put op.dst (.agg (zAM ndL).toArray)) w):wpList prog ops Q (op::rest) a w:=by
 refine wpList_plain hgd λK hK=>?_
 unfold Oper.wp execOp;simp only [ho,List.map_toArray,List.map_cons,List.map_nil,Act.eval,Sem.run_bind,Sem.run_pure,Result.andThen_ok,zTR];exact hK _ _ h
theorem zTP (x:Wt.Nd) (w:World):(Instr.buildSlice 22 1 #[(0,.agg (zAM x).toArray)]).run prog w=.ok (.slice (some ⟨w.heap.size,0,none⟩) 1 1) (w.alloc (.cells (zAM x).toArray 56)):=by kernel_rfl
theorem zCK {op:Oper} {a:Act} {Q:Exit->Act->World->Prop} (hgd:op.guard=none) (y:Operand) (ho:op.op=.buildSlice 22 1 #[(0,y)]) (x:Wt.Nd) (hy:a.eval y=.agg (zAM x).toArray)
  (h:wpList prog ops Q rest (a.put op.dst (.slice (some ⟨w.heap.size,0,none⟩) 1 1)) (w.alloc (.cells (zAM x).toArray 56))):wpList prog ops Q (op::rest) a w:=by
 refine wpList_plain hgd λK hK=>?_
 unfold Oper.wp execOp;simp only [ho,List.map_toArray,List.map_cons,List.map_nil,hy,Sem.run_bind,Sem.run_pure,Result.andThen_ok,zTP];exact hK _ _ h
theorem zMu (w:World) (hN:NmAt w) (hO:OpsAt w):CR 9 #[] w (.bool true):=by
 have hb0:=zAJ (zAJ (Below.refl _ w) (.cells (zAM ndL).toArray 56)) (.cells #[.string ⟨#[83]⟩] 9);have rN:((w.alloc (.cells (zAM ndL).toArray 56)).alloc (.cells #[.string ⟨#[83]⟩] 9)).rangeAt w.heap.size 0 (zAM ndL):=((AtL.new0 w 56 (zAM ndL)).alloc _).range;have rS:((w.alloc (.cells (zAM ndL).toArray 56)).alloc (.cells #[.string ⟨#[83]⟩] 9)).cell? ⟨w.heap.size+1,0,none⟩=some (.string ⟨#[83]⟩):=(AtL.new1 w (.cells (zAM ndL).toArray 56) 9 [.string ⟨#[83]⟩]).2.1 0 _ rfl;have hRN:RdN ((w.alloc (.cells (zAM ndL).toArray 56)).alloc (.cells #[.string ⟨#[83]⟩] 9)) (some ⟨w.heap.size,0,none⟩) [ndL]:=λi hi=>by
  have hi0:i=0:=by simp at hi;omega
  subst hi0;exact ⟨w.heap.size,0,rfl,rN⟩
 have hRS:RdS ((w.alloc (.cells (zAM ndL).toArray 56)).alloc (.cells #[.string ⟨#[83]⟩] 9)) (some ⟨w.heap.size+1,0,none⟩) nmL:=λi hi=>by
  have hi0:i=0:=by simp [nmL] at hi;omega
  subst hi0;exact ⟨w.heap.size+1,0,rfl,rS⟩
 have FL:=zDl 1 trL w.heap.size 0 1 [ndL] 0 3 0 (some ⟨w.heap.size+1,0,none⟩) nmL 1 1 _ zN5 (hO.below hb0) (hN.below hb0) hRN hRS zIP zO3 zKs (by simp) (by simp) 1 rfl rfl (Nat.le_refl _) (by simp [nmL]) (by omega);rw [zSL,zSA] at FL;have HN:Hid (NmAt w):=hN;clear rN rS hRN hRS hN hO;go_enter func9,ntmps9;go_wp2_with (first | (refine zFW rfl rfl ?_) | (refine zCK rfl (.tmp 4) rfl ndL rfl ?_))
 refine FL.mono ?_;rintro e w1 ⟨hq,hb1⟩;rcases hq with ⟨hq,_⟩ | ⟨_,lv,P,rfl,own,hl,hin,_⟩
 ·exact absurd rfl hq
 have hB1:=zAB hb0 hb1;have rc:=zB7 own hl hin;have CK:=zC5 _ lv w1 rc (by simp) zJJ (HN.out.below hB1);rw [zPg,if_pos rfl] at CK;have HUS:Hid (∀ W:World,Below w1.heap.size w1 W->Calls prog 12 #[lv] W λe w'=>(∃ r B,e=.returned r/\OwnA w' B r (usA [ins 2 0 0,ins 16 0 0])/\W.heap.size<=B)/\Below W.heap.size W w'):=λW hb=>zLn _ lv W (rc.below hb) (by simp) zJJ (HN.out.below (zAB hB1 hb))
 obtain ⟨av,cap,e0,rr⟩:=rc;obtain ⟨G,off,p0,m0,k0,e1,r0,_,_⟩:=rr 0 (by simp);obtain ⟨G',off',p1,m1,k1,e2,r1,_,_⟩:=rr 1 (by simp);subst e0;rw [e1] at e2;cases e2
 subst e1;have c0:w1.cell? ⟨G,off+0 * 23,none⟩=some (.int .i64 2):=r0 0 _ rfl;have c1:w1.cell? ⟨G,off+1 * 23,none⟩=some (.int .i64 16):=r1 0 _ rfl;rw [Nat.zero_mul,Nat.add_zero] at c0;rw [Nat.one_mul] at c1;clear FL hb0 own hl hin hb1 r0 r1 rr;go_wp2_with fail
 refine CK.mono ?_;rintro e w2 ⟨rfl,hb2⟩;have US:=HUS.out w2 hb2;have hB2:=zAB hB1 hb2;clear CK HUS c0 c1 hb2 hB1;go_wp2_with fail
 refine US.mono ?_;rintro e w3 ⟨⟨r,B,rfl,ho,_⟩,hb3⟩;have hB3:=zAB hB2 hb3;have hr:∃ av c,r=.slice av 1 c:=by
  rcases ho.2 with ⟨_,q⟩ | ⟨g,c,cur,q,_⟩
  ·rw [zNB] at q;cases q
  ·rw [zNB] at q;exact ⟨_,_,q⟩
 obtain ⟨av,c,rfl⟩:=hr;clear US ho hb3 hB2;go_wp2;go_ret;exact ⟨rfl,hB3⟩
theorem zMm (a:Int) (n:Nat) (h0:0<n) (h1:n<=1000):∃ (ra:Int) (j:Nat),a.tmod (n:Int)=ra/\IntKind.i64.wrap ra=ra/\IntKind.i64.wrap (ra+(n:Int))=ra+(n:Int)/\(ra+(n:Int)).tmod (n:Int)=(j:Int)/\IntKind.i64.wrap (j:Int)=(j:Int)/\j<n:=by
 have hn:(0:Int)<(n:Int):=by omega
 have b1:=Int.tmod_lt_of_pos a hn;have b2:-(n:Int)<a.tmod n:=by
  have h2:=Int.tmod_lt_of_pos (-a) hn;rw [Int.neg_tmod] at h2;omega
 have b3:=Int.tmod_lt_of_pos (a.tmod n+n) hn;have b4:0<=(a.tmod n+n).tmod n:=Int.tmod_nonneg _ (by omega);refine ⟨_,((a.tmod n+n).tmod n).toNat,rfl,by rw [IntKind.wrap_i64];omega,by rw [IntKind.wrap_i64];omega,by omega,by rw [IntKind.wrap_i64];omega,by omega⟩
theorem Act.eval_const (a:Act) (v:Value):a.eval (.const v)=v:=rfl
theorem zG9 (w:World) (y:Wt.Nd):OwnN (w.alloc (.cells (zAM y).toArray 56)) w.heap.size (.slice (some ⟨w.heap.size,0,none⟩) 1 1) [y]:=by
 have e:zBH [y]=zAM y:=by simp [zBH]
 refine ⟨by rw [e];rfl,.inr ⟨w.heap.size,1,(zAM y).toArray,rfl,Nat.le_refl _,heap_alloc_new w _,Nat.le_refl _,by unfold maxLen;omega,rfl,?_⟩⟩;rw [e];rfl
