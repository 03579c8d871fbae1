/- KBndP, KLng, KConc, KOnw, KSl. -/
import Derived.Test.YtefkclbaflkheaaGreatDoorQ37
import Derived.Lib.AppendZeros
set_option maxHeartbeats 4000000
set_option maxRecDepth 100000
namespace Go.Proofs.YtefkclbaflkheaaGreatDoor
open Tryz
set_option linter.unusedVariables false
variable {x:Wc.In} {nx:List Int} {c:Nat} {ops:Array Oper} {rest:List Oper} {a:Act} {Q:Exit->Act->World->Prop}
def lng (x:Wc.In):Int:=if x.op=8 then Wpl.sizeA x.ar.s x.ar.t x.ar.l x.ar.b x.ar.r else if x.op=9 then 2 * Wpl.sizeA x.ar.s x.ar.t x.ar.l x.ar.b x.ar.r else 1
theorem zD5 (s t l b r:Int):0<=Wpl.sizeA s t l b r/\Wpl.sizeA s t l b r<=16777216:=by
 unfold Wpl.sizeA;cases h:Wpl.rightA s t l b r with
 | false=>simp
 | true =>
  simp only [if_true];have hb:1<=b - t+1/\b - t+1<=65536/\1<=r - l+1/\r - l+1<=256:=by
   unfold Wpl.rightA at h;simp only [decide_eq_true_eq] at h;omega
  obtain ⟨h1,h2,h3,h4⟩:=hb;refine ⟨Int.mul_nonneg (by omega) (by omega),?_⟩;have:=Int.mul_le_mul h2 h4 (by omega) (by omega);omega
theorem zJN (x:Wc.In):0<=lng x/\lng x<=33554432:=by
 have:=zD5 x.ar.s x.ar.t x.ar.l x.ar.b x.ar.r;unfold lng;repeat' split
 all_goals omega
abbrev BD:=List (Int × Int)
def bat (D:BD) (j:Int):Int × Int:=D.getD j.toNat (0,0)
def zBX (D:BD):(Int × Int)->List Int->Int × Int
 | b,[]=>b
 | b,j::r=>zBX D (min b.1 (bat D j).1,max b.2 (bat D j).2) r
def zCK (x:Wc.In) (nx:List Int) (D:BD):Int × Int:=match nx with
 | []=>(1,1)
 | j::r=>((zBX D (bat D j) r).1+1,(zBX D (bat D j) r).2+lng x)
def zBY (D:BD):Nat->(Int × Int)->List Int->Int × Int
 | _,b,[]=>b
 | k,b,j::r=>zBY D (k+1) ((if k=0 \/ (bat D j).1<b.1 then (bat D j).1 else b.1),max b.2 (bat D j).2) r
def zMF (x:Wc.In) (nx:List Int) (D:BD):Int × Int:=((zBY D 0 (0,0) nx).1+1,(zBY D 0 (0,0) nx).2+lng x)
theorem zDU (D:BD):∀ (l:List Int) (k:Nat) (b:Int × Int),0<k->zBY D k b l=zBX D b l
 | [],k,b,_=>rfl
 | j::r,k,b,hk=>by
  unfold zBY zBX;rw [zDU D r (k+1) _ (by omega)];have e:(if k=0 \/ (bat D j).1<b.1 then (bat D j).1 else b.1)=min b.1 (bat D j).1:=by
   have hk0:¬ k=0:=by omega
   by_cases h:(bat D j).1<b.1
   ·rw [if_pos (Or.inr h)];omega
   ·rw [if_neg (by intro q;rcases q with q | q <;> omega)];omega
  rw [e]
theorem zLV {D:BD} (hD:∀ j:Int,0<=(bat D j).2) (h0:nx=[]->lng x=1):zMF x nx D=zCK x nx D:=by
 cases nx with
 | nil=>simp [zMF,zCK,zBY,h0 rfl]
 | cons j r =>
  have e:zBY D 0 (0,0) (j::r)=zBX D (bat D j) r:=by
   unfold zBY;rw [zDU D r 1 _ (by omega)];have:=hD j;have e2:max (0:Int) (bat D j).2=(bat D j).2:=by omega
   simp [e2]
  simp only [zMF,zCK,e]
theorem zJF (x:Wc.In) (a b:Int) (D:BD):zCK x [a,b] D=zCK x [b,a] D:=by
 simp only [zCK,zBX];rw [Int.min_comm,Int.max_comm]
theorem zLM (x:Wc.In) (tl:List Int) (i:Int) (D:BD):zCK x ((onw x.op x.a x.b tl i).1++(onw x.op x.a x.b tl i).2) D=zCK x (aP x tl i) D:=by
 by_cases h12:x.op=12
 ·simp [onw,aP,Wc.ahd,h12]
 by_cases h13:x.op=13
 ·simp [onw,aP,Wc.ahd,h13]
 by_cases h14:x.op=14
 ·have e1:(onw x.op x.a x.b tl i).1++(onw x.op x.a x.b tl i).2=[i+1,x.a]:=by simp [onw,h14]
  have e2:aP x tl i=[x.a,i+1]:=by simp [aP,Wc.ahd,h14]
  rw [e1,e2];exact zJF _ _ _ _
 by_cases h15:x.op=15
 ·have e1:(onw x.op x.a x.b tl i).1++(onw x.op x.a x.b tl i).2=tl++[x.b]:=by simp [onw,h15]
  have e2:aP x tl i=tl++[x.b]:=by simp [aP,Wc.ahd,h15,Function.comp_def]
  rw [e1,e2]
 by_cases h16:x.op=16
 ·simp [onw,aP,Wc.ahd,h16]
 ·simp [onw,aP,Wc.ahd,h12,h13,h14,h15,h16]
theorem zLy {tl:List Int} {i:Int} (h:aP x tl i=[]):lng x=1:=by
 have h16:x.op=16:=by
  by_cases h16:x.op=16
  ·exact h16
  ·exfalso
   unfold aP Wc.ahd at h;rw [if_neg h16] at h;repeat' split at h
   all_goals simp at h
 unfold lng;rw [if_neg (by omega),if_neg (by omega)]
def bkL (st:Nat->BD->Int × Int) (n:Nat):Nat->BD
 | 0=>List.replicate n (0,0)
 | c+1=>(bkL st n c).set (n - 1 - c) (st (n - 1 - c) (bkL st n c))
theorem zDx (st:Nat->BD->Int × Int) (n:Nat):∀ c,(bkL st n c).length=n
 | 0=>by simp [bkL]
 | c+1=>by simp [bkL,zDx st n c]
def BInv (c:Nat) (D:BD):Prop:=∀ j:Int,0<=(bat D j).1/\(bat D j).1<=(c:Int)/\0<=(bat D j).2/\(bat D j).2<=(c:Int) * 33554432
theorem zCu {D:BD} {c:Nat} (h:BInv c D):∀ (l:List Int) (b:Int × Int),(0<=b.1/\b.1<=(c:Int)/\0<=b.2/\b.2<=(c:Int) * 33554432)->0<=(zBX D b l).1/\(zBX D b l).1<=(c:Int)/\0<=(zBX D b l).2/\(zBX D b l).2<=(c:Int) * 33554432
 | [],b,hb=>hb
 | j::r,b,hb=>by
  have hj:=h j;exact zCu h r _ (by simp only;omega)
theorem zIs {D:BD} (h:BInv c D):0<=(zCK x nx D).1/\(zCK x nx D).1<=((c+1:Nat):Int)/\0<=(zCK x nx D).2/\(zCK x nx D).2<=((c+1:Nat):Int) * 33554432:=by
 cases nx with
 | nil=>simp only [zCK];omega
 | cons j r =>
  have:=zCu h r (bat D j) (h j);have hl:=zJN x;simp only [zCK];omega
theorem BInv.set {D:BD} (h:BInv c D) {i:Nat} (hi:i<D.length) {b:Int × Int} (hb:0<=b.1/\b.1<=((c+1:Nat):Int)/\0<=b.2/\b.2<=((c+1:Nat):Int) * 33554432):BInv (c+1) (D.set i b):=by
 intro j;unfold bat;rw [List.getD_eq_getElem?_getD,List.getElem?_set];by_cases q:i=j.toNat
 ·simp [q,show j.toNat<D.length by omega];omega
 ·rw [if_neg q];have:=h j;unfold bat at this;rw [List.getD_eq_getElem?_getD] at this;omega
theorem zM4 (n:Nat):BInv 0 (List.replicate n (0,0)):=by
 intro j;unfold bat;rw [List.getD_eq_getElem?_getD,List.getElem?_replicate];split <;> simp
def stA (L:List (Wc.In × List Int)) (i:Nat) (D:BD):Int × Int:=match L[i]? with
 | none=>(0,0)
 | some x=>zCK x.1 (aP x.1 x.2 i) D
theorem zEe {L:List (Wc.In × List Int)} {i:Nat} (h:i<L.length) (D:BD):stA L i D=zCK (L[i]).1 (aP (L[i]).1 (L[i]).2 i) D:=by
 unfold stA;rw [List.getElem?_eq_getElem h]
theorem zC3 (L:List (Wc.In × List Int)) {n:Nat} (hn:L.length=n):∀ c,c<=n->BInv c (bkL (stA L) n c)
 | 0,_=>zM4 n
 | c+1,hc=>by
  have ih:=zC3 L hn c (by omega);refine ih.set (by rw [zDx];omega) ?_;rw [zEe (by omega)];exact zIs ih
def zHL (L:List (Wc.In × List Int)):Int × Int:=if Wc.chkP rgt L=true then bat (bkL (stA L) L.length L.length) 0 else (0,0)
open Go.RowKit
theorem zDn (x:Wc.In) (tv:Value) (w:World):CR 73 #[.agg (zAD x tv).toArray] w (.int .i64 (lng x)):=by
 have HSZ:Hid (∀ w:World,CR 108 #[.agg #[.int .i64 x.ar.s,.int .i64 x.ar.t,.int .i64 x.ar.l,.int .i64 x.ar.b,.int .i64 x.ar.r]] w (.int .i64 (Wpl.sizeA x.ar.s x.ar.t x.ar.l x.ar.b x.ar.r))):=λw=>zDj x.ar.s x.ar.t x.ar.l x.ar.b x.ar.r w
 have HLE:=zD5 x.ar.s x.ar.t x.ar.l x.ar.b x.ar.r;have HLN:Hid (lng x=if x.op=8 then Wpl.sizeA x.ar.s x.ar.t x.ar.l x.ar.b x.ar.r else if x.op=9 then 2 * Wpl.sizeA x.ar.s x.ar.t x.ar.l x.ar.b x.ar.r else 1):=rfl;have hb:=zAK (Below.refl _ w) (.cells (zAD x tv).toArray 56);have p:=AtL.new0 w 56 (zAD x tv);have c0:=p.2.1 0 _ rfl;have q0:=p.2.1 12 _ rfl;have q1:=p.2.1 13 _ rfl;have q2:=p.2.1 14 _ rfl;have q3:=p.2.1 15 _ rfl;have q4:=p.2.1 16 _ rfl;obtain ⟨q,hq⟩:∃ q,lng x=q:=⟨_,rfl⟩
 rw [hq] at HLN ⊢;obtain ⟨z,hz⟩:∃ z,Wpl.sizeA x.ar.s x.ar.t x.ar.l x.ar.b x.ar.r=z:=⟨_,rfl⟩
 rw [hz] at HLN HSZ HLE;have hw:IntKind.i64.wrap (2 * z)=2 * z:=by rw [IntKind.wrap_i64];omega
 clear p hq hz HLE;go_enter func73,ntmps73;go_upto_region 1 with fail
 generalize (w.alloc (.cells (zAD x tv).toArray 56))=W at *;have SZ:=HSZ.out W;by_cases h8:x.op=8
 ·have e8:(x.op == 8)=true:=by simp [h8]
  have HE:Hid (q=z):=by show _=_;rw [HLN.out,if_pos h8]
  clear h8 HLN HSZ;go_wp2_with fail
  refine SZ.mono ?_;rintro e w1 ⟨rfl,hb1⟩;go_wp2;go_ret;exact ⟨by rw [HE.out];rfl,zAB hb hb1⟩
 ·have e8:(x.op == 8)=false:=by simp [h8]
  by_cases h9:x.op=9
  ·have e9:(x.op == 9)=true:=by simp [h9]
   have HE:Hid (q=2 * z):=by show _=_;rw [HLN.out,if_neg h8,if_pos h9]
   clear h8 h9 HLN HSZ;go_wp2_with fail
   refine SZ.mono ?_;rintro e w1 ⟨rfl,hb1⟩;go_wp2;go_ret;exact ⟨by rw [HE.out];rfl,zAB hb hb1⟩
  ·have e9:(x.op == 9)=false:=by simp [h9]
   have HE:Hid (q=1):=by show _=_;rw [HLN.out,if_neg h8,if_neg h9]
   clear h8 h9 HLN HSZ SZ;go_wp2;go_ret;exact ⟨by rw [HE.out];rfl,hb⟩
theorem zEs {ops:Array Oper} {rest:List Oper} {o:Oper} {a:Act} {Q:Exit->Act->World->Prop} (hgd:o.guard=none) (s x:Operand) (ho:o.op=.call {callee:=.builtin .append,args:=#[s,x],argTypes:=#[54,3]})
  (w:World) (n:Nat) (h0:0<n) (hn:n<=4000000) (hs:a.eval s=.slice none 0 0) (hx:a.eval x=.int .i64 (n:Int))
  (h:∀ (cap:Nat) (w':World),OwnZ w' w.heap.size (.slice (some ⟨w.heap.size,0,none⟩) 0 cap) []->n<=cap->cap<=9223372036854775807->Below w.heap.size w w'->wpList prog ops Q rest (a.put o.dst (.slice (some ⟨w.heap.size,0,none⟩) n cap)) w'):wpList prog ops Q (o::rest) a w:=by
 obtain ⟨i0,hi0,hz0,hz1,hz2⟩:=info_parts zC9;have hr:=Lib.run_append_nil_zeros (P:=prog) w 54 3 o.type 3 i0 _ .i64 .i64 underlying54 underlying3 hi0 hz0 n h0 (by rw [hz1];decide) (by omega) (by rw [hz2];omega);refine Lib.wpList_append_run w hgd s x 54 3 ho _ _ hs hx _ _ hr ?_;have hge:=grownCap_ge w n 0 3;have hmx:=grownCap_le_maxLen w n 0 3 (by unfold maxLen;omega);have hb:Below w.heap.size w (w.drew.alloc (.cells (Builtin.zeroCells (Value.int .i64 0).cells n++Builtin.zeroCells (Value.int .i64 0).cells (grownCap w n 0 3 - n)) 3)):=zAK ((Below.refl _ w).drew) _;refine h _ _ ?_ hge (by unfold maxLen at hmx;exact hmx) hb;refine ⟨rfl,Or.inr ⟨w.heap.size,_,_,rfl,Nat.le_refl _,zAq w.drew _ _ rfl,Nat.zero_le _,hmx,?_,by simp⟩⟩;simp [size_zeroCells,Value.cells];omega
theorem zJH (n:Nat) (hn:n<=4000000) (w:World):Calls prog 107 #[.slice none 0 0,.int .i64 (n:Int)] w λe w'=>(∃ r,e=.returned r/\OwnZ w' w.heap.size r [])/\Below w.heap.size w w':=by
 have hnn:¬ (n:Int)<0:=by omega
 have hw0:IntKind.i64.wrap (n:Int)=(n:Int):=by rw [IntKind.wrap_i64];omega
 have hw1:wrap64 (n:Int)=(n:Int):=by unfold wrap64;omega
 by_cases h0:n=0
 ·subst h0;go_enter func107,ntmps107;go_wp2;go_ret;exact ⟨⟨_,rfl,OwnZ.nil _ _⟩,Below.refl _ _⟩
 ·have hp:(0:Int)<(n:Int):=by omega
  have hpn:0<n:=by omega
  have HN:Hid (n<=4000000):=hn;clear hn;go_enter func107,ntmps107;go_wp2_with (first | (refine zEs rfl (.tmp 20) (.tmp 21) rfl w n hpn HN.out rfl rfl ?_;intro cap w1 own hcap hc63 hb1))
  have hcz:(0:Int)<=(cap:Int):=by omega
  go_wp2;go_ret;exact ⟨⟨_,rfl,own⟩,hb1⟩
theorem zEw (l m:List Int) (c k:Value) (sb:Nat) (w:World) (hc:RdZ w c l) (hk:RdZ w k m) (nc:Np c) (nk:Np k) (hl:l.length<=1000000) (hm:m.length<=1000000) (hs:AtL w sb [c,k]) :
  Calls prog 72 #[.slice (some ⟨sb,0,none⟩) 2 2] w λe w'=>(∃ r,e=.returned r/\OwnZ w' w.heap.size r (l++m))/\Below w.heap.size w w':=by
 obtain ⟨ac,cc,ec,_⟩:=id hc;obtain ⟨ak,ck,ek,_⟩:=id hk;have HC:Hid (RdZ w c l):=hc;have HK:Hid (RdZ w k m):=hk;have HNC:Hid (Np c/\Np k):=⟨nc,nk⟩
 have HLM:Hid (l.length<=1000000/\m.length<=1000000):=⟨hl,hm⟩
 have c0:=hs.2.1 0 _ rfl;have c1:=hs.2.1 1 _ rfl;subst ec;subst ek;obtain ⟨ll,hll⟩:∃ x,l.length=x:=⟨_,rfl⟩
 obtain ⟨lm,hlm⟩:∃ x,m.length=x:=⟨_,rfl⟩
 have HLL:Hid (l.length=ll/\m.length=lm):=⟨hll,hlm⟩
 have HB1:Hid (ll<=1000000/\lm<=1000000):=by rw [<-hll,<-hlm];exact HLM.out
 rw [hll] at HC HNC c0;rw [hlm] at HK HNC c1;have HGR:=λW=>zJH (ll+lm) (by have:=HB1.out;omega) W
 have HG:Hid (∀ W:World,Calls prog 107 #[.slice none 0 0,.int .i64 ((ll:Int)+(lm:Int))] W λe w'=>(∃ r,e=.returned r/\OwnZ w' W.heap.size r [])/\Below W.heap.size W w'):=λW=>by have:=HGR W;rw [Int.natCast_add] at this;exact this
 have hw1:IntKind.i64.wrap (ll:Int)=(ll:Int):=by rw [IntKind.wrap_i64];have:=HB1.out;omega
 have hw2:IntKind.i64.wrap ((ll:Int)+(lm:Int))=(ll:Int)+(lm:Int):=by rw [IntKind.wrap_i64];have:=HB1.out;omega
 have hw3:wrap64 (ll:Int)=(ll:Int):=by have:=HB1.out;unfold wrap64;omega
 have hz1:¬ (ll:Int)<0:=by omega
 have hz2:¬ (ll:Int)+(lm:Int)<0:=by omega
 have HA0:Hid (w.cell? ⟨sb,0,none⟩=some (.slice ac ll cc)/\w.cell? ⟨sb,1,none⟩=some (.slice ak lm ck)):=⟨c0,c1⟩
 clear hc hk nc nk hl hm hs hll hlm HGR;go_enter func72,ntmps72;go_wp2_with fail
 go_loopg [3,11] 2 (λgk u3 u11 wr=>∃ i:Nat,u11=.int .i64 i/\gk=2 - i/\i<=2/\w=wr/\Hid (u3=.int .i64 (if i=0 then 0 else if i=1 then (ll:Int) else (ll:Int)+(lm:Int))))
 case atStart=>exact ⟨0,rfl,rfl,Nat.zero_le _,rfl,rfl⟩
 case round =>
  obtain ⟨i,rfl,hg,hi,rfl,HU⟩:=hrel;have hc3:i=0 \/ i=1 \/ i=2:=by omega
  rcases hc3 with rfl | rfl | rfl
  ·have e3:=HU.out;simp only [if_true] at e3;subst e3;go_wp2_with fail
   go_roundg 1
   case rel=>exact ⟨1,by simp,rfl,by omega,rfl,by show _=_;simp⟩
   case measure=>omega
  ·have e3:=HU.out;simp only [Nat.one_ne_zero,if_false,if_true] at e3;subst e3;go_wp2_with fail
   go_roundg 0
   case rel=>exact ⟨2,by simp,rfl,by omega,rfl,by show _=_;simp⟩
   case measure=>omega
  ·have e3:_=Value.int .i64 ((ll:Int)+(lm:Int)):=HU.out;subst e3;have GR:=HG.out w;clear HU HG;go_wp2_with fail
   refine GR.mono ?_;rintro e w2 ⟨⟨r,rfl,own⟩,hb2⟩;have HO2:Hid (OwnZ w2 w.heap.size r []):=own;have HB2:Hid (Below w.heap.size w w2):=hb2;clear own hb2 GR c0 c1;go_wp2_with fail
   go_loopg [6,27] 2 (λgk u6 u27 wr=>∃ (j:Nat) (lv:Value),lv=u6/\u27=.int .i64 j/\gk=2 - j/\j<=2/\Hid (Below w.heap.size w wr)/\Hid (OwnZ wr w.heap.size lv (if j=0 then [] else if j=1 then l else l++m)))
   case atStart=>exact ⟨0,_,rfl,rfl,rfl,Nat.zero_le _,HB2,HO2⟩
   case round =>
    clear HO2 HB2;obtain ⟨j,lv,rfl,rfl,hgj,hj,HB3,HO3⟩:=hrel;have hc4:j=0 \/ j=1 \/ j=2:=by omega
    rcases hc4 with rfl | rfl | rfl
    ·have HO4:Hid (OwnZ wr w.heap.size lv []):=HO3;have c0:=zAC HB3.out HA0.out.1;clear HO3;go_wp2_with (first | (refine zA5 rfl (.tmp 31) (.tmp 32) rfl wr w.heap.size HB3.out.size lv [] rfl HO4.out (.slice ac ll cc) l rfl (HC.out.below HB3.out) HNC.out.1 (by have:=HLM.out;simp;omega) ?_;intro v2 w2 own2 hg2))
     have HO5:Hid (OwnZ w2 w.heap.size v2 (if 1=0 then [] else if 1=1 then l else l++m)):=by show OwnZ _ _ _ _;simpa using own2
     have HB5:Hid (Below w.heap.size w w2):=HB3.out.grown hg2 HB3.out.size (λk e=>(HO4.out.blk e).1);clear own2 hg2 c0;go_roundg 1
     case rel=>exact ⟨1,_,rfl,by simp,rfl,by omega,HB5,HO5⟩
     case measure=>omega
    ·have HO4:Hid (OwnZ wr w.heap.size lv l):=HO3;have c1:=zAC HB3.out HA0.out.2;clear HO3;go_wp2_with (first | (refine zA5 rfl (.tmp 31) (.tmp 32) rfl wr w.heap.size HB3.out.size lv l rfl HO4.out (.slice ak lm ck) m rfl (HK.out.below HB3.out) HNC.out.2 (by have:=HLM.out;simp;omega) ?_;intro v2 w2 own2 hg2))
     have HO5:Hid (OwnZ w2 w.heap.size v2 (if 2=0 then [] else if 2=1 then l else l++m)):=by show OwnZ _ _ _ _;simpa using own2
     have HB5:Hid (Below w.heap.size w w2):=HB3.out.grown hg2 HB3.out.size (λk e=>(HO4.out.blk e).1);clear own2 hg2 c1;go_roundg 0
     case rel=>exact ⟨2,_,rfl,by simp,rfl,by omega,HB5,HO5⟩
     case measure=>omega
    ·have HO4:Hid (OwnZ wr w.heap.size lv (l++m)):=HO3;go_wp2;go_ret;exact ⟨⟨_,rfl,HO4.out⟩,HB3.out⟩
theorem zE8:Np (.slice none 0 0):=λl c e=>by cases e;rfl
def OnQ (w:World) (tv:Value) (w':World) (q:List Int × List Int) (e:Ending):Prop:=∃ c k,e=.returned (.tuple #[c,k])/\RdZ w' c q.1/\RdZ w' k q.2/\Bk w tv c/\Bk w tv k/\Np c/\Np k
theorem zKn (x:Wc.In) (tv:Value) (at':Int) (w:World) (h:x.op=12) (ha:0<=at'/\at'<=1000000):Calls prog 63 #[inV x tv,.int .i64 at'] w λe w'=>OnQ w tv w' ([at'+1,x.a],[x.b]) e/\Below w.heap.size w w':=by
 have pA:=AtL.new0 w 56 (zAD x tv);have hB:=zAK (Below.refl _ w) (.cells (zAD x tv).toArray 56);have c0:(w.alloc (.cells (zAD x tv).toArray 56)).cell? ⟨w.heap.size,0,none⟩=some (.int .i64 x.op):=pA.2.1 0 _ rfl;have c1:(w.alloc (.cells (zAD x tv).toArray 56)).cell? ⟨w.heap.size,1,none⟩=some (.int .i64 x.a):=pA.2.1 1 _ rfl;have c2:(w.alloc (.cells (zAD x tv).toArray 56)).cell? ⟨w.heap.size,2,none⟩=some (.int .i64 x.b):=pA.2.1 2 _ rfl;have hlt:=pA.lt;have hw:IntKind.i64.wrap (at'+1)=at'+1:=by rw [IntKind.wrap_i64];omega
 rw [h] at c0;clear pA h ha;go_enter func63,ntmps63;go_upto_region 1 with fail
 generalize (w.alloc (.cells (zAD x tv).toArray 56))=W at *;go_upto_region 3 with fail
 go_region
 all_goals
  go_wp2_with fail
  go_ret2
  refine ⟨⟨_,_,rfl,RdZ.two ?_ ?_,RdZ.one ?_,Bk.new ?_,Bk.new ?_,zAd,zAd⟩,(clB hB)⟩;all_goals first
   | (simp;done)
   | (simp;omega)
   | omega
theorem zJk (x:Wc.In) (av:Option Addr) (n cap:Nat) (tl:List Int) (at':Int) (w:World) (h:x.op=13) (ha:0<=at'/\at'<=1000000) (hz:RdZ w (.slice av n cap) tl):Calls prog 63 #[inV x (.slice av n cap),.int .i64 at'] w λe w'=>OnQ w (.slice av n cap) w' ([],[x.a]) e/\Below w.heap.size w w':=by
 have pA:=AtL.new0 w 56 (zAD x (.slice av n cap));have hB:=zAK (Below.refl _ w) (.cells (zAD x (.slice av n cap)).toArray 56);have c0:(w.alloc (.cells (zAD x (.slice av n cap)).toArray 56)).cell? ⟨w.heap.size,0,none⟩=some (.int .i64 x.op):=pA.2.1 0 _ rfl;have c1:(w.alloc (.cells (zAD x (.slice av n cap)).toArray 56)).cell? ⟨w.heap.size,1,none⟩=some (.int .i64 x.a):=pA.2.1 1 _ rfl;have c2:(w.alloc (.cells (zAD x (.slice av n cap)).toArray 56)).cell? ⟨w.heap.size,2,none⟩=some (.int .i64 x.b):=pA.2.1 2 _ rfl;have c22:(w.alloc (.cells (zAD x (.slice av n cap)).toArray 56)).cell? ⟨w.heap.size,22,none⟩=some (.slice av n cap):=pA.2.1 22 _ rfl;have hlt:=pA.lt;have hw:IntKind.i64.wrap (at'+1)=at'+1:=by rw [IntKind.wrap_i64];omega
 have HZ:Hid (RdZ w (.slice av n cap) tl):=hz;rw [h] at c0;clear pA h ha hz;go_enter func63,ntmps63;go_upto_region 1 with fail
 generalize (w.alloc (.cells (zAD x (.slice av n cap)).toArray 56))=W at *;go_upto_region 5 with fail
 go_region
 all_goals
  go_wp2_with fail
  go_ret2
  refine ⟨⟨_,_,rfl,RdZ.nil _,RdZ.one ?_,Bk.nil,Bk.new ?_,zE8,zAd⟩,(clB hB)⟩;all_goals first
   | (simp;done)
   | (simp;omega)
   | omega
theorem zKM (x:Wc.In) (av:Option Addr) (n cap:Nat) (tl:List Int) (at':Int) (w:World) (h:x.op=14) (ha:0<=at'/\at'<=1000000) (hz:RdZ w (.slice av n cap) tl):Calls prog 63 #[inV x (.slice av n cap),.int .i64 at'] w λe w'=>OnQ w (.slice av n cap) w' ([at'+1],[x.a]) e/\Below w.heap.size w w':=by
 have pA:=AtL.new0 w 56 (zAD x (.slice av n cap));have hB:=zAK (Below.refl _ w) (.cells (zAD x (.slice av n cap)).toArray 56);have c0:(w.alloc (.cells (zAD x (.slice av n cap)).toArray 56)).cell? ⟨w.heap.size,0,none⟩=some (.int .i64 x.op):=pA.2.1 0 _ rfl;have c1:(w.alloc (.cells (zAD x (.slice av n cap)).toArray 56)).cell? ⟨w.heap.size,1,none⟩=some (.int .i64 x.a):=pA.2.1 1 _ rfl;have c2:(w.alloc (.cells (zAD x (.slice av n cap)).toArray 56)).cell? ⟨w.heap.size,2,none⟩=some (.int .i64 x.b):=pA.2.1 2 _ rfl;have c22:(w.alloc (.cells (zAD x (.slice av n cap)).toArray 56)).cell? ⟨w.heap.size,22,none⟩=some (.slice av n cap):=pA.2.1 22 _ rfl;have hlt:=pA.lt;have hw:IntKind.i64.wrap (at'+1)=at'+1:=by rw [IntKind.wrap_i64];omega
 have HZ:Hid (RdZ w (.slice av n cap) tl):=hz;rw [h] at c0;clear pA h ha hz;go_enter func63,ntmps63;go_upto_region 1 with fail
 generalize (w.alloc (.cells (zAD x (.slice av n cap)).toArray 56))=W at *;go_upto_region 7 with fail
 go_region
 all_goals
  go_wp2_with fail
  go_ret2
  refine ⟨⟨_,_,rfl,RdZ.one ?_,RdZ.one ?_,Bk.new ?_,Bk.new ?_,zAd,zAd⟩,(clB hB)⟩;all_goals first
   | (simp;done)
   | (simp;omega)
   | omega
theorem zKS (x:Wc.In) (av:Option Addr) (n cap:Nat) (tl:List Int) (at':Int) (w:World) (h:x.op=15) (ha:0<=at'/\at'<=1000000) (hz:RdZ w (.slice av n cap) tl) (hnp:Np (.slice av n cap)):Calls prog 63 #[inV x (.slice av n cap),.int .i64 at'] w λe w'=>OnQ w (.slice av n cap) w' (tl,[x.b]) e/\Below w.heap.size w w':=by
 have pA:=AtL.new0 w 56 (zAD x (.slice av n cap));have hB:=zAK (Below.refl _ w) (.cells (zAD x (.slice av n cap)).toArray 56);have c0:(w.alloc (.cells (zAD x (.slice av n cap)).toArray 56)).cell? ⟨w.heap.size,0,none⟩=some (.int .i64 x.op):=pA.2.1 0 _ rfl;have c1:(w.alloc (.cells (zAD x (.slice av n cap)).toArray 56)).cell? ⟨w.heap.size,1,none⟩=some (.int .i64 x.a):=pA.2.1 1 _ rfl;have c2:(w.alloc (.cells (zAD x (.slice av n cap)).toArray 56)).cell? ⟨w.heap.size,2,none⟩=some (.int .i64 x.b):=pA.2.1 2 _ rfl;have c22:(w.alloc (.cells (zAD x (.slice av n cap)).toArray 56)).cell? ⟨w.heap.size,22,none⟩=some (.slice av n cap):=pA.2.1 22 _ rfl;have hlt:=pA.lt;have hw:IntKind.i64.wrap (at'+1)=at'+1:=by rw [IntKind.wrap_i64];omega
 have HZ:Hid (RdZ w (.slice av n cap) tl):=hz;have HNP:Hid (Np (.slice av n cap)):=hnp;rw [h] at c0;clear pA h ha hz hnp;go_enter func63,ntmps63;go_upto_region 1 with fail
 generalize (w.alloc (.cells (zAD x (.slice av n cap)).toArray 56))=W at *;go_upto_region 9 with fail
 go_region
 all_goals
  go_wp2_with fail
  go_ret2
  refine ⟨⟨_,_,rfl,HZ.out.below (clB hB),RdZ.one ?_,Bk.own,Bk.new ?_,HNP.out,zAd⟩,(clB hB)⟩;all_goals first
   | (simp;done)
   | (simp;omega)
   | omega
theorem zKf (x:Wc.In) (av:Option Addr) (n cap:Nat) (tl:List Int) (at':Int) (w:World) (h:x.op=16) (ha:0<=at'/\at'<=1000000) (hz:RdZ w (.slice av n cap) tl):Calls prog 63 #[inV x (.slice av n cap),.int .i64 at'] w λe w'=>OnQ w (.slice av n cap) w' ([],[]) e/\Below w.heap.size w w':=by
 have pA:=AtL.new0 w 56 (zAD x (.slice av n cap));have hB:=zAK (Below.refl _ w) (.cells (zAD x (.slice av n cap)).toArray 56);have c0:(w.alloc (.cells (zAD x (.slice av n cap)).toArray 56)).cell? ⟨w.heap.size,0,none⟩=some (.int .i64 x.op):=pA.2.1 0 _ rfl;have c1:(w.alloc (.cells (zAD x (.slice av n cap)).toArray 56)).cell? ⟨w.heap.size,1,none⟩=some (.int .i64 x.a):=pA.2.1 1 _ rfl;have c2:(w.alloc (.cells (zAD x (.slice av n cap)).toArray 56)).cell? ⟨w.heap.size,2,none⟩=some (.int .i64 x.b):=pA.2.1 2 _ rfl;have c22:(w.alloc (.cells (zAD x (.slice av n cap)).toArray 56)).cell? ⟨w.heap.size,22,none⟩=some (.slice av n cap):=pA.2.1 22 _ rfl;have hlt:=pA.lt;have hw:IntKind.i64.wrap (at'+1)=at'+1:=by rw [IntKind.wrap_i64];omega
 have HZ:Hid (RdZ w (.slice av n cap) tl):=hz;rw [h] at c0;clear pA h ha hz;go_enter func63,ntmps63;go_upto_region 1 with fail
 generalize (w.alloc (.cells (zAD x (.slice av n cap)).toArray 56))=W at *;all_goals
  go_wp2;go_ret2
  exact ⟨⟨_,_,rfl,RdZ.nil _,RdZ.nil _,Bk.nil,Bk.nil,zE8,zE8⟩,hB⟩
theorem zLO (x:Wc.In) (av:Option Addr) (n cap:Nat) (at':Int) (w:World) (h:¬ (12<=x.op/\x.op<=16)) (ha:0<=at'/\at'<=1000000):Calls prog 63 #[inV x (.slice av n cap),.int .i64 at'] w λe w'=>OnQ w (.slice av n cap) w' ([at'+1],[]) e/\Below w.heap.size w w':=by
 have pA:=AtL.new0 w 56 (zAD x (.slice av n cap));have hB:=zAK (Below.refl _ w) (.cells (zAD x (.slice av n cap)).toArray 56);have c0:(w.alloc (.cells (zAD x (.slice av n cap)).toArray 56)).cell? ⟨w.heap.size,0,none⟩=some (.int .i64 x.op):=pA.2.1 0 _ rfl;have c1:(w.alloc (.cells (zAD x (.slice av n cap)).toArray 56)).cell? ⟨w.heap.size,1,none⟩=some (.int .i64 x.a):=pA.2.1 1 _ rfl;have c2:(w.alloc (.cells (zAD x (.slice av n cap)).toArray 56)).cell? ⟨w.heap.size,2,none⟩=some (.int .i64 x.b):=pA.2.1 2 _ rfl;have c22:(w.alloc (.cells (zAD x (.slice av n cap)).toArray 56)).cell? ⟨w.heap.size,22,none⟩=some (.slice av n cap):=pA.2.1 22 _ rfl;have hlt:=pA.lt;have hw:IntKind.i64.wrap (at'+1)=at'+1:=by rw [IntKind.wrap_i64];omega
 have n12:(x.op == 12)=false:=by simp;omega
 have n13:(x.op == 13)=false:=by simp;omega
 have n14:(x.op == 14)=false:=by simp;omega
 have n15:(x.op == 15)=false:=by simp;omega
 have n16:(x.op == 16)=false:=by simp;omega
 clear pA h ha;go_enter func63,ntmps63;go_upto_region 1 with fail
 generalize (w.alloc (.cells (zAD x (.slice av n cap)).toArray 56))=W at *;go_wp2;go_ret2
 refine ⟨⟨_,_,rfl,RdZ.one ?_,RdZ.nil _,Bk.new ?_,Bk.nil,zAd,zE8⟩,(clB hB)⟩;all_goals first
  | (simp;done)
  | (simp;omega)
  | omega
theorem zIt (x:Wc.In) (av:Option Addr) (n cap:Nat) (tl:List Int) (at':Int) (w:World) (ha:0<=at'/\at'<=1000000) (hz:RdZ w (.slice av n cap) tl) (hnp:Np (.slice av n cap)):Calls prog 63 #[inV x (.slice av n cap),.int .i64 at'] w λe w'=>OnQ w (.slice av n cap) w' (onw x.op x.a x.b tl at') e/\Below w.heap.size w w':=by
 unfold onw;by_cases h12:x.op=12
 ·rw [if_pos h12];exact zKn x _ at' w h12 ha
 by_cases h13:x.op=13
 ·rw [if_neg h12,if_pos h13];exact zJk x av n cap tl at' w h13 ha hz
 by_cases h14:x.op=14
 ·rw [if_neg h12,if_neg h13,if_pos h14];exact zKM x av n cap tl at' w h14 ha hz
 by_cases h15:x.op=15
 ·rw [if_neg h12,if_neg h13,if_neg h14,if_pos h15];exact zKS x av n cap tl at' w h15 ha hz hnp
 by_cases h16:x.op=16
 ·rw [if_neg h12,if_neg h13,if_neg h14,if_neg h15,if_pos h16];exact zKf x av n cap tl at' w h16 ha hz
 rw [if_neg h12,if_neg h13,if_neg h14,if_neg h15,if_neg h16];exact zLO x av n cap at' w (by omega) ha
theorem zLC (w:World) (g m cap:Nat):(Instr.sliceAt 54 (.slice (some ⟨g,0,none⟩) (m+1) cap) (some (.int .i64 1)) none none).run prog w=.ok (sliced (some ⟨g,0,none⟩) 1 (m+1) cap 1) w:=by
 have hu:prog.underlying 54=some (.slice (prog.elem 54)):=by kernel_rfl
 have hz:(sizeOf (prog.elem 54)).run prog w=.ok 1 w:=by kernel_rfl
 rw [run_sliceAt_slice w _ _ _ _ _ hu,run_slice_l w _ _ _ _ hu _ 1 (by omega) (by omega),hz];rfl
theorem zFA {op:Oper} {w:World} (hgd:op.guard=none) (s:Operand) (ho:op.op=.slice 54 s (some (.const (.int .i64 1))) none none) (g m cap:Nat) (hs:a.eval s=.slice (some ⟨g,0,none⟩) (m+1) cap) (hc:m+1<=cap)
  (h:∀ X C:Nat,(m ≠ 0->X=1)->wpList prog ops Q rest (a.put op.dst (.slice (some ⟨g,X,none⟩) m C)) w):wpList prog ops Q (op::rest) a w:=by
 refine wpList_plain hgd λK hK=>?_
 unfold Oper.wp execOp;have hr:=zLC w g m cap;have he:sliced (some ⟨g,0,none⟩) 1 (m+1) cap 1=.slice (some ⟨g,(if cap=1 then 0 else 1),none⟩) m (cap - 1):=by
  unfold sliced;split
  ·rfl
  ·rfl
 rw [he] at hr;have hv:a.eval (.const (.int .i64 1))=.int .i64 1:=rfl;simp only [ho,hs,hv,Option.map_some,Option.map_none,Sem.run_bind,Sem.run_pure,Result.andThen_ok,hr];exact hK _ _ (h _ _ (λhm=>by rw [if_neg (by omega)]))
