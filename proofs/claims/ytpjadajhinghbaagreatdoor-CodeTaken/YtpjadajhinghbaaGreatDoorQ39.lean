/- KWhole, KRdc, KAbF, KBndP, KLng, KConc, KOnw, KSl. -/
import Derived.Test.YtpjadajhinghbaaGreatDoorQ38
import Derived.Lib.AppendZeros
set_option maxHeartbeats 4000000
set_option maxRecDepth 100000
set_option linter.unusedVariables false
namespace Go.Proofs.YtpjadajhinghbaaGreatDoor
open Tryz
open Go.RowKit
variable {w:World} {B G cap c:Nat} {ops:Array Oper} {rest:List Oper} {a:Act} {Q:Exit->Act->World->Prop} {P:List (Wc.In × Value)} {L:List (Wc.In × List Int)} {op:Oper}
theorem zEN:∀ (A:List (Wc.In × Value)) (i j:Nat) (h:i<A.length),j<23->(zA5 A)[i * 23+j]? = (zAD (A[i]).1 (A[i]).2)[j]?
 | x::r,0,j,_,hj=>by
  show (zAD x.1 x.2++zA5 r)[0 * 23+j]? = _
  rw [List.getElem?_append_left (by simp [zAD];omega)];simp
 | x::r,i+1,j,h,hj=>by
  have ih:=zEN r i j (by simpa using h) hj;show (zAD x.1 x.2++zA5 r)[(i+1) * 23+j]? = _
  rw [List.getElem?_append_right (by simp [zAD];omega)];have e:(i+1) * 23+j - (zAD x.1 x.2).length=i * 23+j:=by simp [zAD];omega
  rw [e,ih];rfl
theorem OwnI.cell {n:Nat} {A:List (Wc.In × Value)} (h:OwnI w B (.slice (some ⟨G,0,none⟩) n cap) A) {i:Nat} (hi:i<A.length):w.rangeAt G (i * 23) (zAD (A[i]).1 (A[i]).2):=by
 intro j v hv;have hj:j<23:=by
  rcases Nat.lt_or_ge j 23 with q | q
  ·exact q
  ·rw [List.getElem?_eq_none (by simp [zAD];omega)] at hv;cases hv
 have hc:=h.cells (g:=G) rfl (i * 23+j) v (by rw [zEN A i j hi hj];exact hv);rwa [show (⟨G,0,none⟩:Addr).add (i * 23+j)=⟨G,i * 23+j,none⟩ from by
  simp [Addr.add];try (intro h0;omega)] at hc
theorem Tw.get:∀ (P:List (Wc.In × Value)) (L:List (Wc.In × List Int)),Tw w B P L->∀ (i:Nat) (h1:i<P.length) (h2:i<L.length),(P[i]).1=(L[i]).1/\TwR w B (P[i]).2 (L[i]).2:=by
 intro P;induction P with
 | nil=>intro L h i h1;cases h1
 | cons p r ih =>
  intro L h i h1 h2;cases L with
  | nil=>exact h.elim
  | cons x s =>
   cases i with
   | zero=>exact h.1
   | succ k=>exact ih s h.2 k (by simpa using h1) (by simpa using h2)
structure TwS (w:World) (B G cap:Nat) (P:List (Wc.In × Value)) (L:List (Wc.In × List Int)):Prop where
 own:OwnI w B (.slice (some ⟨G,0,none⟩) (L.length+2) cap) (P++[(zAF 771,zAH),(zAF 772,zAH)])
 tw:Tw w B P L
theorem TwS.at' (h:TwS w B G cap P L) {i:Nat} (hi:i<L.length):∃ g c,w.rangeAt G (i * 23) (zAD (L[i]).1 (.slice (some ⟨g,0,none⟩) (L[i]).2.length c))/\OwnZ w B (.slice (some ⟨g,0,none⟩) ((L[i]).2.length+2) c) ((L[i]).2++[771,772]):=by
 have hl:=Tw.len _ _ h.tw;obtain ⟨e1,g,c,e2,ho⟩:=Tw.get _ _ h.tw i (by omega) hi;have hr:=h.own.cell (i:=i) (by simp;omega);rw [List.getElem_append_left (by omega),e1,e2] at hr;exact ⟨g,c,hr,ho⟩
theorem TwS.rd (h:TwS w B G cap P L):RdC w (.slice (some ⟨G,0,none⟩) L.length cap) L:=by
 refine ⟨some ⟨G,0,none⟩,cap,rfl,λi hi=>?_⟩;obtain ⟨g,c,hr,ho⟩:=h.at' hi;refine ⟨G,0,some ⟨g,0,none⟩,(L[i]).2.length,c,rfl,by rw [Nat.zero_add];exact hr,TwR.rd ⟨g,c,rfl,ho⟩,λq=>by cases q⟩
open Go.RowKit Wf
theorem zDZ {lv:Value} {C:List I} (h:OwnI w B lv P) (hl:P.length=C.length) (hi:∀ i (h:i<P.length) (h':i<C.length),(P[i]).1=(C[i]).1/\OwnZ w B (P[i]).2 (C[i]).2):RdC w lv C:=by
 rcases h.2 with ⟨e,h0⟩ | ⟨G,cap,cur,e,hb,hg,r⟩
 ·subst e;refine ⟨none,0,by rw [<-hl,h0],λi hi=>?_⟩;omega
 ·subst e;refine ⟨some ⟨G,0,none⟩,cap,by rw [<-hl],λi hi2=>?_⟩;have hi3:i<P.length:=by omega
  have c:=OwnI.cell h (i:=i) hi3;obtain ⟨q1,q2⟩:=hi i hi3 hi2;have rz:=q2.rd;rcases q2.2 with ⟨e2,h2⟩ | ⟨G2,cap2,cur2,e2,_⟩
  ·rw [q1,e2] at c;rw [e2] at rz;exact ⟨G,0,none,0,0,rfl,by rw [Nat.zero_add];exact c,rz,λ_=>rfl⟩
  ·rw [q1,e2] at c;rw [e2] at rz;exact ⟨G,0,_,_,_,rfl,by rw [Nat.zero_add];exact c,rz,λh=>by cases h⟩
def ndL:Wt.Nd:=⟨2,Wt.v0,0,⟨#[]⟩,0,Wt.r0,Wt.r0⟩
def trL:Tr 1:=(⟨ndL,[]⟩:Br (Tr 0))
def nmL:List ByteArray:=[⟨#[83]⟩]
theorem zO5:row 1 trL=[ndL]:=rfl
theorem zLX:zCX 1 trL:=⟨by kernel_rfl,by kernel_rfl,λk hk=>by cases hk⟩
theorem zIr:Wt.check [ndL]=0:=by kernel_rfl
theorem zOA:∀ x ∈ [ndL],Wt.FitN x:=by
 intro x hx;simp only [List.mem_cons,List.not_mem_nil,or_false] at hx;subst hx;unfold Wt.FitN Wt.FitV;decide
theorem zRT:flE 0 3 0 nmL 1 trL=0:=by kernel_rfl
theorem zQk:flC 0 nmL 1 trL=[ins 2 0 0,ins 16 0 0]:=by kernel_rfl
theorem zN8:Wc.chkP rgt [ins 2 0 0,ins 16 0 0]=true:=by kernel_rfl
theorem zLo:(usA [ins 2 0 0,ins 16 0 0]).length=1:=by kernel_rfl
theorem zHN:∀ x ∈ [ins 2 0 0,ins 16 0 0],x.2.length<=1000000/\Wt.FitV x.1.v:=by
 intro x hx;simp only [List.mem_cons,List.not_mem_nil,or_false] at hx;rcases hx with rfl | rfl
 ·exact ⟨by simp [ins],by unfold Wt.FitV;decide⟩
 ·exact ⟨by simp [ins],by unfold Wt.FitV;decide⟩
theorem zRx (w:World):(Instr.build 56 #[(0,.int .i64 2)]).run prog w=.ok (.agg (zAM ndL).toArray) w:=by kernel_rfl
theorem zEt (hgd:op.guard=none) (ho:op.op=.build 56 #[(0,.const (.int .i64 2))])
  (h:wpList prog ops Q rest (a.put op.dst (.agg (zAM ndL).toArray)) w):wpList prog ops Q (op::rest) a w:=by
 refine wpList_plain hgd λK hK=>?_
 unfold Oper.wp execOp;simp only [ho,List.map_toArray,List.map_cons,List.map_nil,Act.eval,Sem.run_bind,Sem.run_pure,Result.andThen_ok,zRx];exact hK _ _ h
theorem zSI (x:Wt.Nd) (w:World):(Instr.buildSlice 22 1 #[(0,.agg (zAM x).toArray)]).run prog w=.ok (.slice (some ⟨w.heap.size,0,none⟩) 1 1) (w.alloc (.cells (zAM x).toArray 56)):=by kernel_rfl
theorem zFV (hgd:op.guard=none) (y:Operand) (ho:op.op=.buildSlice 22 1 #[(0,y)]) (x:Wt.Nd) (hy:a.eval y=.agg (zAM x).toArray)
  (h:wpList prog ops Q rest (a.put op.dst (.slice (some ⟨w.heap.size,0,none⟩) 1 1)) (w.alloc (.cells (zAM x).toArray 56))):wpList prog ops Q (op::rest) a w:=by
 refine wpList_plain hgd λK hK=>?_
 unfold Oper.wp execOp;simp only [ho,List.map_toArray,List.map_cons,List.map_nil,hy,Sem.run_bind,Sem.run_pure,Result.andThen_ok,zSI];exact hK _ _ h
theorem zKZ (w:World) (hN:NmAt w) (hO:OpsAt w):CR 9 #[] w (.bool true):=by
 have hb0:=zAK (zAK (Below.refl _ w) (.cells (zAM ndL).toArray 56)) (.cells #[.string ⟨#[83]⟩] 9);have rN:((w.alloc (.cells (zAM ndL).toArray 56)).alloc (.cells #[.string ⟨#[83]⟩] 9)).rangeAt w.heap.size 0 (zAM ndL):=((AtL.new0 w 56 (zAM ndL)).alloc _).range;have rS:((w.alloc (.cells (zAM ndL).toArray 56)).alloc (.cells #[.string ⟨#[83]⟩] 9)).cell? ⟨w.heap.size+1,0,none⟩=some (.string ⟨#[83]⟩):=(AtL.new1 w (.cells (zAM ndL).toArray 56) 9 [.string ⟨#[83]⟩]).2.1 0 _ rfl;have hRN:RdN ((w.alloc (.cells (zAM ndL).toArray 56)).alloc (.cells #[.string ⟨#[83]⟩] 9)) (some ⟨w.heap.size,0,none⟩) [ndL]:=λi hi=>by
  have hi0:i=0:=by simp at hi;omega
  subst hi0;exact ⟨w.heap.size,0,rfl,rN⟩
 have hRS:RdS ((w.alloc (.cells (zAM ndL).toArray 56)).alloc (.cells #[.string ⟨#[83]⟩] 9)) (some ⟨w.heap.size+1,0,none⟩) nmL:=λi hi=>by
  have hi0:i=0:=by simp [nmL] at hi;omega
  subst hi0;exact ⟨w.heap.size+1,0,rfl,rS⟩
 have FL:=zGU 1 trL w.heap.size 0 1 [ndL] 0 3 0 (some ⟨w.heap.size+1,0,none⟩) nmL 1 1 _ zOA (hO.below hb0) (hN.below hb0) hRN hRS zIr zO5 zLX (by simp) (by simp) 1 rfl rfl (Nat.le_refl _) (by simp [nmL]) (by omega);rw [zRT,zQk] at FL;have HN:Hid (NmAt w):=hN;clear rN rS hRN hRS hN hO;go_enter func9,ntmps9;go_wp2_with (first | (refine zEt rfl rfl ?_) | (refine zFV rfl (.tmp 4) rfl ndL rfl ?_))
 refine FL.mono ?_;rintro e w1 ⟨hq,hb1⟩;rcases hq with ⟨hq,_⟩ | ⟨_,lv,P,rfl,own,hl,hin,_⟩
 ·exact absurd rfl hq
 have hB1:=zAB hb0 hb1;have rc:=zDZ own hl hin;have CK:=zBe _ lv w1 rc (by simp) zHN (HN.out.below hB1);rw [zN8,if_pos rfl] at CK;have HUS:Hid (∀ W:World,Below w1.heap.size w1 W->Calls prog 12 #[lv] W λe w'=>(∃ r B,e=.returned r/\OwnA w' B r (usA [ins 2 0 0,ins 16 0 0])/\W.heap.size<=B)/\Below W.heap.size W w'):=λW hb=>zLf _ lv W (rc.below hb) (by simp) zHN (HN.out.below (zAB hB1 hb))
 obtain ⟨av,cap,e0,rr⟩:=rc;obtain ⟨G,off,p0,m0,k0,e1,r0,_,_⟩:=rr 0 (by simp);obtain ⟨G',off',p1,m1,k1,e2,r1,_,_⟩:=rr 1 (by simp);subst e0;rw [e1] at e2;cases e2
 subst e1;have c0:w1.cell? ⟨G,off+0 * 23,none⟩=some (.int .i64 2):=r0 0 _ rfl;have c1:w1.cell? ⟨G,off+1 * 23,none⟩=some (.int .i64 16):=r1 0 _ rfl;rw [Nat.zero_mul,Nat.add_zero] at c0;rw [Nat.one_mul] at c1;clear FL hb0 own hl hin hb1 r0 r1 rr;go_wp2_with fail
 refine CK.mono ?_;rintro e w2 ⟨rfl,hb2⟩;have US:=HUS.out w2 hb2;have hB2:=zAB hB1 hb2;clear CK HUS c0 c1 hb2 hB1;go_wp2_with fail
 refine US.mono ?_;rintro e w3 ⟨⟨r,B,rfl,ho,_⟩,hb3⟩;have hB3:=zAB hB2 hb3;have hr:∃ av c,r=.slice av 1 c:=by
  rcases ho.2 with ⟨_,q⟩ | ⟨g,c,cur,q,_⟩
  ·rw [zLo] at q;cases q
  ·rw [zLo] at q;exact ⟨_,_,q⟩
 obtain ⟨av,c,rfl⟩:=hr;clear US ho hb3 hB2;go_wp2;go_ret;exact ⟨rfl,hB3⟩
def lng (x:Wc.In):Int:=if x.op=8 then Wpl.sizeA x.ar.s x.ar.t x.ar.l x.ar.b x.ar.r else if x.op=9 then 2 * Wpl.sizeA x.ar.s x.ar.t x.ar.l x.ar.b x.ar.r else 1
theorem zHC (s t l b r:Int):0<=Wpl.sizeA s t l b r/\Wpl.sizeA s t l b r<=16777216:=by
 unfold Wpl.sizeA;cases h:Wpl.rightA s t l b r with
 | false=>simp
 | true =>
  simp only [if_true];have hb:1<=b - t+1/\b - t+1<=65536/\1<=r - l+1/\r - l+1<=256:=by
   unfold Wpl.rightA at h;simp only [decide_eq_true_eq] at h;omega
  obtain ⟨h1,h2,h3,h4⟩:=hb;refine ⟨Int.mul_nonneg (by omega) (by omega),?_⟩;have:=Int.mul_le_mul h2 h4 (by omega) (by omega);omega
theorem zLn (x:Wc.In):0<=lng x/\lng x<=33554432:=by
 have:=zHC x.ar.s x.ar.t x.ar.l x.ar.b x.ar.r;unfold lng;repeat' split
 all_goals omega
abbrev BD:=List (Int × Int)
def bat (D:BD) (j:Int):Int × Int:=D.getD j.toNat (0,0)
def zBl (D:BD):(Int × Int)->List Int->Int × Int
 | b,[]=>b
 | b,j::r=>zBl D (min b.1 (bat D j).1,max b.2 (bat D j).2) r
def zDF (x:Wc.In) (nx:List Int) (D:BD):Int × Int:=match nx with
 | []=>(1,1)
 | j::r=>((zBl D (bat D j) r).1+1,(zBl D (bat D j) r).2+lng x)
theorem zK3 (x:Wc.In) (a b:Int) (D:BD):zDF x [a,b] D=zDF x [b,a] D:=by
 simp only [zDF,zBl];rw [Int.min_comm,Int.max_comm]
theorem zPp (x:Wc.In) (tl:List Int) (i:Int) (D:BD):zDF x ((onw x.op x.a x.b tl i).1++(onw x.op x.a x.b tl i).2) D=zDF x (aP x tl i) D:=by
 by_cases h12:x.op=12
 ·simp [onw,aP,Wc.ahd,h12]
 by_cases h13:x.op=13
 ·simp [onw,aP,Wc.ahd,h13]
 by_cases h14:x.op=14
 ·have e1:(onw x.op x.a x.b tl i).1++(onw x.op x.a x.b tl i).2=[i+1,x.a]:=by simp [onw,h14]
  have e2:aP x tl i=[x.a,i+1]:=by simp [aP,Wc.ahd,h14]
  rw [e1,e2];exact zK3 _ _ _ _
 by_cases h15:x.op=15
 ·have e1:(onw x.op x.a x.b tl i).1++(onw x.op x.a x.b tl i).2=tl++[x.b]:=by simp [onw,h15]
  have e2:aP x tl i=tl++[x.b]:=by simp [aP,Wc.ahd,h15,Function.comp_def]
  rw [e1,e2]
 by_cases h16:x.op=16
 ·simp [onw,aP,Wc.ahd,h16]
 ·simp [onw,aP,Wc.ahd,h12,h13,h14,h15,h16]
def bkL (st:Nat->BD->Int × Int) (n:Nat):Nat->BD
 | 0=>List.replicate n (0,0)
 | c+1=>(bkL st n c).set (n - 1 - c) (st (n - 1 - c) (bkL st n c))
theorem zEb (st:Nat->BD->Int × Int) (n:Nat):∀ c,(bkL st n c).length=n
 | 0=>by simp [bkL]
 | c+1=>by simp [bkL,zEb st n c]
def BInv (c:Nat) (D:BD):Prop:=∀ j:Int,0<=(bat D j).1/\(bat D j).1<=(c:Int)/\0<=(bat D j).2/\(bat D j).2<=(c:Int) * 33554432
theorem zDo {D:BD} {c:Nat} (h:BInv c D):∀ (l:List Int) (b:Int × Int),(0<=b.1/\b.1<=(c:Int)/\0<=b.2/\b.2<=(c:Int) * 33554432)->0<=(zBl D b l).1/\(zBl D b l).1<=(c:Int)/\0<=(zBl D b l).2/\(zBl D b l).2<=(c:Int) * 33554432
 | [],b,hb=>hb
 | j::r,b,hb=>by
  have hj:=h j;exact zDo h r _ (by simp only;omega)
theorem zLL {x:Wc.In} {nx:List Int} {D:BD} (h:BInv c D):0<=(zDF x nx D).1/\(zDF x nx D).1<=((c+1:Nat):Int)/\0<=(zDF x nx D).2/\(zDF x nx D).2<=((c+1:Nat):Int) * 33554432:=by
 cases nx with
 | nil=>simp only [zDF];omega
 | cons j r =>
  have:=zDo h r (bat D j) (h j);have hl:=zLn x;simp only [zDF];omega
theorem BInv.set {D:BD} (h:BInv c D) {i:Nat} (hi:i<D.length) {b:Int × Int} (hb:0<=b.1/\b.1<=((c+1:Nat):Int)/\0<=b.2/\b.2<=((c+1:Nat):Int) * 33554432):BInv (c+1) (D.set i b):=by
 intro j;unfold bat;rw [List.getD_eq_getElem?_getD,List.getElem?_set];by_cases q:i=j.toNat
 ·simp [q,show j.toNat<D.length by omega];omega
 ·rw [if_neg q];have:=h j;unfold bat at this;rw [List.getD_eq_getElem?_getD] at this;omega
theorem zQm (n:Nat):BInv 0 (List.replicate n (0,0)):=by
 intro j;unfold bat;rw [List.getD_eq_getElem?_getD,List.getElem?_replicate];split <;> simp
def stA (L:List (Wc.In × List Int)) (i:Nat) (D:BD):Int × Int:=match L[i]? with
 | none=>(0,0)
 | some x=>zDF x.1 (aP x.1 x.2 i) D
theorem zDN {i:Nat} (h:i<L.length) (D:BD):stA L i D=zDF (L[i]).1 (aP (L[i]).1 (L[i]).2 i) D:=by
 unfold stA;rw [List.getElem?_eq_getElem h]
theorem zIH (L:List (Wc.In × List Int)) {n:Nat} (hn:L.length=n):∀ c,c<=n->BInv c (bkL (stA L) n c)
 | 0,_=>zQm n
 | c+1,hc=>by
  have ih:=zIH L hn c (by omega);refine ih.set (by rw [zEb];omega) ?_;rw [zDN (by omega)];exact zLL ih
def zJM (L:List (Wc.In × List Int)):Int × Int:=if Wc.chkP rgt L=true then bat (bkL (stA L) L.length L.length) 0 else (0,0)
theorem zEs (x:Wc.In) (tv:Value) (w:World):CR 49 #[.agg (zAD x tv).toArray] w (.int .i64 (lng x)):=by
 have HSZ:Hid (∀ w:World,CR 68 #[.agg #[.int .i64 x.ar.s,.int .i64 x.ar.t,.int .i64 x.ar.l,.int .i64 x.ar.b,.int .i64 x.ar.r]] w (.int .i64 (Wpl.sizeA x.ar.s x.ar.t x.ar.l x.ar.b x.ar.r))):=λw=>zFJ x.ar.s x.ar.t x.ar.l x.ar.b x.ar.r w
 have HLE:=zHC x.ar.s x.ar.t x.ar.l x.ar.b x.ar.r;have HLN:Hid (lng x=if x.op=8 then Wpl.sizeA x.ar.s x.ar.t x.ar.l x.ar.b x.ar.r else if x.op=9 then 2 * Wpl.sizeA x.ar.s x.ar.t x.ar.l x.ar.b x.ar.r else 1):=rfl;have hb:=zAK (Below.refl _ w) (.cells (zAD x tv).toArray 48);have p:=AtL.new0 w 48 (zAD x tv);have c0:=p.2.1 0 _ rfl;have q0:=p.2.1 12 _ rfl;have q1:=p.2.1 13 _ rfl;have q2:=p.2.1 14 _ rfl;have q3:=p.2.1 15 _ rfl;have q4:=p.2.1 16 _ rfl;obtain ⟨q,hq⟩:∃ q,lng x=q:=⟨_,rfl⟩
 rw [hq] at HLN ⊢;obtain ⟨z,hz⟩:∃ z,Wpl.sizeA x.ar.s x.ar.t x.ar.l x.ar.b x.ar.r=z:=⟨_,rfl⟩
 rw [hz] at HLN HSZ HLE;have hw:IntKind.i64.wrap (2 * z)=2 * z:=by rw [IntKind.wrap_i64];omega
 clear p hq hz HLE;go_enter func49,ntmps49;go_upto_region 1 with fail
 generalize (w.alloc (.cells (zAD x tv).toArray 48))=W at *;have SZ:=HSZ.out W;by_cases h8:x.op=8
 ·have e8:(x.op == 8)=true:=by simp [h8]
  have HE:Hid (q=z):=by show _=_;rw [HLN.out,if_pos h8]
  clear h8 HLN HSZ;go_wp2_with fail
  refine SZ.mono ?_;rintro e w1 ⟨rfl,hb1⟩;go_wp2;go_ret;exact ⟨by rw [HE.out];rfl,zAB hb hb1⟩
 ·have e8:(x.op == 8)=false:=by simp [h8]
  by_cases h9:x.op=9
  ·have e9:(x.op == 9)=true:=by simp [h9]
   have HE:Hid (q=2 * z):=by show _=_;rw [HLN.out,if_neg h8,if_pos h9]
   clear h8 h9 HLN HSZ;go_wp2_with fail
   refine SZ.mono ?_;rintro e w1 ⟨rfl,hb1⟩;go_wp2;go_ret;exact ⟨by rw [HE.out];rfl,zAB hb hb1⟩
  ·have e9:(x.op == 9)=false:=by simp [h9]
   have HE:Hid (q=1):=by show _=_;rw [HLN.out,if_neg h8,if_neg h9]
   clear h8 h9 HLN HSZ SZ;go_wp2;go_ret;exact ⟨by rw [HE.out];rfl,hb⟩
theorem zG4 {ops:Array Oper} {rest:List Oper} {o:Oper} {a:Act} {Q:Exit->Act->World->Prop} (hgd:o.guard=none) (s x:Operand) (ho:o.op=.call {callee:=.builtin .append,args:=#[s,x],argTypes:=#[46,3]})
  (w:World) (n:Nat) (h0:0<n) (hn:n<=4000000) (hs:a.eval s=.slice none 0 0) (hx:a.eval x=.int .i64 (n:Int))
  (h:∀ (cap:Nat) (w':World),OwnZ w' w.heap.size (.slice (some ⟨w.heap.size,0,none⟩) 0 cap) []->n<=cap->cap<=9223372036854775807->Below w.heap.size w w'->wpList prog ops Q rest (a.put o.dst (.slice (some ⟨w.heap.size,0,none⟩) n cap)) w'):wpList prog ops Q (o::rest) a w:=by
 obtain ⟨i0,hi0,hz0,hz1,hz2⟩:=info_parts zFE;have hr:=Lib.run_append_nil_zeros (P:=prog) w 46 3 o.type 3 i0 _ .i64 .i64 underlying46 underlying3 hi0 hz0 n h0 (by rw [hz1];decide) (by omega) (by rw [hz2];omega);refine Lib.wpList_append_run w hgd s x 46 3 ho _ _ hs hx _ _ hr ?_;have hge:=grownCap_ge w n 0 3;have hmx:=grownCap_le_maxLen w n 0 3 (by unfold maxLen;omega);have hb:Below w.heap.size w (w.drew.alloc (.cells (Builtin.zeroCells (Value.int .i64 0).cells n++Builtin.zeroCells (Value.int .i64 0).cells (grownCap w n 0 3 - n)) 3)):=zAK ((Below.refl _ w).drew) _;refine h _ _ ?_ hge (by unfold maxLen at hmx;exact hmx) hb;refine ⟨rfl,Or.inr ⟨w.heap.size,_,_,rfl,Nat.le_refl _,zBA w.drew _ _ rfl,Nat.zero_le _,hmx,?_,by simp⟩⟩;simp [size_zeroCells,Value.cells];omega
theorem zJn (n:Nat) (hn:n<=4000000) (w:World):Calls prog 67 #[.slice none 0 0,.int .i64 (n:Int)] w λe w'=>(∃ r,e=.returned r/\OwnZ w' w.heap.size r [])/\Below w.heap.size w w':=by
 have hnn:¬ (n:Int)<0:=by omega
 have hw0:IntKind.i64.wrap (n:Int)=(n:Int):=by rw [IntKind.wrap_i64];omega
 have hw1:wrap64 (n:Int)=(n:Int):=by unfold wrap64;omega
 by_cases h0:n=0
 ·subst h0;go_enter func67,ntmps67;go_wp2;go_ret;exact ⟨⟨_,rfl,OwnZ.nil _ _⟩,Below.refl _ _⟩
 ·have hp:(0:Int)<(n:Int):=by omega
  have hpn:0<n:=by omega
  have HN:Hid (n<=4000000):=hn;clear hn;go_enter func67,ntmps67;go_wp2_with (first | (refine zG4 rfl (.tmp 20) (.tmp 21) rfl w n hpn HN.out rfl rfl ?_;intro cap w1 own hcap hc63 hb1))
  have hcz:(0:Int)<=(cap:Int):=by omega
  go_wp2;go_ret;exact ⟨⟨_,rfl,own⟩,hb1⟩
theorem zGk (l m:List Int) (c k:Value) (sb:Nat) (w:World) (hc:RdZ w c l) (hk:RdZ w k m) (nc:Np c) (nk:Np k) (hl:l.length<=1000000) (hm:m.length<=1000000) (hs:AtL w sb [c,k]) :
  Calls prog 48 #[.slice (some ⟨sb,0,none⟩) 2 2] w λe w'=>(∃ r,e=.returned r/\OwnZ w' w.heap.size r (l++m))/\Below w.heap.size w w':=by
 obtain ⟨ac,cc,ec,_⟩:=id hc;obtain ⟨ak,ck,ek,_⟩:=id hk;have HC:Hid (RdZ w c l):=hc;have HK:Hid (RdZ w k m):=hk;have HNC:Hid (Np c/\Np k):=⟨nc,nk⟩
 have HLM:Hid (l.length<=1000000/\m.length<=1000000):=⟨hl,hm⟩
 have c0:=hs.2.1 0 _ rfl;have c1:=hs.2.1 1 _ rfl;subst ec;subst ek;obtain ⟨ll,hll⟩:∃ x,l.length=x:=⟨_,rfl⟩
 obtain ⟨lm,hlm⟩:∃ x,m.length=x:=⟨_,rfl⟩
 have HLL:Hid (l.length=ll/\m.length=lm):=⟨hll,hlm⟩
 have HB1:Hid (ll<=1000000/\lm<=1000000):=by rw [<-hll,<-hlm];exact HLM.out
 rw [hll] at HC HNC c0;rw [hlm] at HK HNC c1;have HGR:=λW=>zJn (ll+lm) (by have:=HB1.out;omega) W
 have HG:Hid (∀ W:World,Calls prog 67 #[.slice none 0 0,.int .i64 ((ll:Int)+(lm:Int))] W λe w'=>(∃ r,e=.returned r/\OwnZ w' W.heap.size r [])/\Below W.heap.size W w'):=λW=>by have:=HGR W;rw [Int.natCast_add] at this;exact this
 have hw1:IntKind.i64.wrap (ll:Int)=(ll:Int):=by rw [IntKind.wrap_i64];have:=HB1.out;omega
 have hw2:IntKind.i64.wrap ((ll:Int)+(lm:Int))=(ll:Int)+(lm:Int):=by rw [IntKind.wrap_i64];have:=HB1.out;omega
 have hw3:wrap64 (ll:Int)=(ll:Int):=by have:=HB1.out;unfold wrap64;omega
 have hz1:¬ (ll:Int)<0:=by omega
 have hz2:¬ (ll:Int)+(lm:Int)<0:=by omega
 have HA0:Hid (w.cell? ⟨sb,0,none⟩=some (.slice ac ll cc)/\w.cell? ⟨sb,1,none⟩=some (.slice ak lm ck)):=⟨c0,c1⟩
 clear hc hk nc nk hl hm hs hll hlm HGR;go_enter func48,ntmps48;go_wp2_with fail
 go_loopg [3,11] 2 (λgk u3 u11 wr=>∃ i:Nat,u11=.int .i64 i/\gk=2 - i/\i<=2/\w=wr/\Hid (u3=.int .i64 (if i=0 then 0 else if i=1 then (ll:Int) else (ll:Int)+(lm:Int))))
 case atStart=>exact ⟨0,rfl,rfl,Nat.zero_le _,rfl,rfl⟩
 case round =>
  obtain ⟨i,rfl,hg,hi,rfl,HU⟩:=hrel;have hc3:i=0 \/ i=1 \/ i=2:=by omega
  rcases hc3 with rfl | rfl | rfl
  ·have e3:=HU.out;simp only [if_true] at e3;subst e3;go_wp2_with fail
   go_roundg 1
   case rel=>exact ⟨1,by simp,rfl,by omega,rfl,by show _=_;simp⟩
   case measure=>omega
  ·have e3:=HU.out;simp only [Nat.one_ne_zero,if_false,if_true] at e3;subst e3;go_wp2_with fail
   go_roundg 0
   case rel=>exact ⟨2,by simp,rfl,by omega,rfl,by show _=_;simp⟩
   case measure=>omega
  ·have e3:_=Value.int .i64 ((ll:Int)+(lm:Int)):=HU.out;subst e3;have GR:=HG.out w;clear HU HG;go_wp2_with fail
   refine GR.mono ?_;rintro e w2 ⟨⟨r,rfl,own⟩,hb2⟩;have HO2:Hid (OwnZ w2 w.heap.size r []):=own;have HB2:Hid (Below w.heap.size w w2):=hb2;clear own hb2 GR c0 c1;go_wp2_with fail
   go_loopg [6,27] 2 (λgk u6 u27 wr=>∃ (j:Nat) (lv:Value),lv=u6/\u27=.int .i64 j/\gk=2 - j/\j<=2/\Hid (Below w.heap.size w wr)/\Hid (OwnZ wr w.heap.size lv (if j=0 then [] else if j=1 then l else l++m)))
   case atStart=>exact ⟨0,_,rfl,rfl,rfl,Nat.zero_le _,HB2,HO2⟩
   case round =>
    clear HO2 HB2;obtain ⟨j,lv,rfl,rfl,hgj,hj,HB3,HO3⟩:=hrel;have hc4:j=0 \/ j=1 \/ j=2:=by omega
    rcases hc4 with rfl | rfl | rfl
    ·have HO4:Hid (OwnZ wr w.heap.size lv []):=HO3;have c0:=zAC HB3.out HA0.out.1;clear HO3;go_wp2_with (first | (refine zCt rfl (.tmp 31) (.tmp 32) rfl wr w.heap.size HB3.out.size lv [] rfl HO4.out (.slice ac ll cc) l rfl (HC.out.below HB3.out) HNC.out.1 (by have:=HLM.out;simp;omega) ?_;intro v2 w2 own2 hg2))
     have HO5:Hid (OwnZ w2 w.heap.size v2 (if 1=0 then [] else if 1=1 then l else l++m)):=by show OwnZ _ _ _ _;simpa using own2
     have HB5:Hid (Below w.heap.size w w2):=HB3.out.grown hg2 HB3.out.size (λk e=>(HO4.out.blk e).1);clear own2 hg2 c0;go_roundg 1
     case rel=>exact ⟨1,_,rfl,by simp,rfl,by omega,HB5,HO5⟩
     case measure=>omega
    ·have HO4:Hid (OwnZ wr w.heap.size lv l):=HO3;have c1:=zAC HB3.out HA0.out.2;clear HO3;go_wp2_with (first | (refine zCt rfl (.tmp 31) (.tmp 32) rfl wr w.heap.size HB3.out.size lv l rfl HO4.out (.slice ak lm ck) m rfl (HK.out.below HB3.out) HNC.out.2 (by have:=HLM.out;simp;omega) ?_;intro v2 w2 own2 hg2))
     have HO5:Hid (OwnZ w2 w.heap.size v2 (if 2=0 then [] else if 2=1 then l else l++m)):=by show OwnZ _ _ _ _;simpa using own2
     have HB5:Hid (Below w.heap.size w w2):=HB3.out.grown hg2 HB3.out.size (λk e=>(HO4.out.blk e).1);clear own2 hg2 c1;go_roundg 0
     case rel=>exact ⟨2,_,rfl,by simp,rfl,by omega,HB5,HO5⟩
     case measure=>omega
    ·have HO4:Hid (OwnZ wr w.heap.size lv (l++m)):=HO3;go_wp2;go_ret;exact ⟨⟨_,rfl,HO4.out⟩,HB3.out⟩
theorem zGR:Np (.slice none 0 0):=λl c e=>by cases e;rfl
def OnQ (w:World) (tv:Value) (w':World) (q:List Int × List Int) (e:Ending):Prop:=∃ c k,e=.returned (.tuple #[c,k])/\RdZ w' c q.1/\RdZ w' k q.2/\Bk w tv c/\Bk w tv k/\Np c/\Np k
theorem zMM (x:Wc.In) (tv:Value) (at':Int) (w:World) (h:x.op=12) (ha:0<=at'/\at'<=1000000):Calls prog 47 #[inV x tv,.int .i64 at'] w λe w'=>OnQ w tv w' ([at'+1,x.a],[x.b]) e/\Below w.heap.size w w':=by
 have pA:=AtL.new0 w 48 (zAD x tv);have hB:=zAK (Below.refl _ w) (.cells (zAD x tv).toArray 48);have c0:(w.alloc (.cells (zAD x tv).toArray 48)).cell? ⟨w.heap.size,0,none⟩=some (.int .i64 x.op):=pA.2.1 0 _ rfl;have c1:(w.alloc (.cells (zAD x tv).toArray 48)).cell? ⟨w.heap.size,1,none⟩=some (.int .i64 x.a):=pA.2.1 1 _ rfl;have c2:(w.alloc (.cells (zAD x tv).toArray 48)).cell? ⟨w.heap.size,2,none⟩=some (.int .i64 x.b):=pA.2.1 2 _ rfl;have hlt:=pA.lt;have hw:IntKind.i64.wrap (at'+1)=at'+1:=by rw [IntKind.wrap_i64];omega
 rw [h] at c0;clear pA h ha;go_enter func47,ntmps47;go_upto_region 1 with fail
 generalize (w.alloc (.cells (zAD x tv).toArray 48))=W at *;go_upto_region 3 with fail
 go_region
 all_goals
  go_wp2_with fail
  go_ret2
  refine ⟨⟨_,_,rfl,RdZ.two ?_ ?_,RdZ.one ?_,Bk.new ?_,Bk.new ?_,zBD,zBD⟩,(clB hB)⟩;all_goals first
   | (simp;done)
   | (simp;omega)
   | omega
theorem zNz (x:Wc.In) (av:Option Addr) (n cap:Nat) (tl:List Int) (at':Int) (w:World) (h:x.op=13) (ha:0<=at'/\at'<=1000000) (hz:RdZ w (.slice av n cap) tl):Calls prog 47 #[inV x (.slice av n cap),.int .i64 at'] w λe w'=>OnQ w (.slice av n cap) w' ([],[x.a]) e/\Below w.heap.size w w':=by
 have pA:=AtL.new0 w 48 (zAD x (.slice av n cap));have hB:=zAK (Below.refl _ w) (.cells (zAD x (.slice av n cap)).toArray 48);have c0:(w.alloc (.cells (zAD x (.slice av n cap)).toArray 48)).cell? ⟨w.heap.size,0,none⟩=some (.int .i64 x.op):=pA.2.1 0 _ rfl;have c1:(w.alloc (.cells (zAD x (.slice av n cap)).toArray 48)).cell? ⟨w.heap.size,1,none⟩=some (.int .i64 x.a):=pA.2.1 1 _ rfl;have c2:(w.alloc (.cells (zAD x (.slice av n cap)).toArray 48)).cell? ⟨w.heap.size,2,none⟩=some (.int .i64 x.b):=pA.2.1 2 _ rfl;have c22:(w.alloc (.cells (zAD x (.slice av n cap)).toArray 48)).cell? ⟨w.heap.size,22,none⟩=some (.slice av n cap):=pA.2.1 22 _ rfl;have hlt:=pA.lt;have hw:IntKind.i64.wrap (at'+1)=at'+1:=by rw [IntKind.wrap_i64];omega
 have HZ:Hid (RdZ w (.slice av n cap) tl):=hz;rw [h] at c0;clear pA h ha hz;go_enter func47,ntmps47;go_upto_region 1 with fail
 generalize (w.alloc (.cells (zAD x (.slice av n cap)).toArray 48))=W at *;go_upto_region 5 with fail
 go_region
 all_goals
  go_wp2_with fail
  go_ret2
  refine ⟨⟨_,_,rfl,RdZ.nil _,RdZ.one ?_,Bk.nil,Bk.new ?_,zGR,zBD⟩,(clB hB)⟩;all_goals first
   | (simp;done)
   | (simp;omega)
   | omega
theorem zNR (x:Wc.In) (av:Option Addr) (n cap:Nat) (tl:List Int) (at':Int) (w:World) (h:x.op=14) (ha:0<=at'/\at'<=1000000) (hz:RdZ w (.slice av n cap) tl):Calls prog 47 #[inV x (.slice av n cap),.int .i64 at'] w λe w'=>OnQ w (.slice av n cap) w' ([at'+1],[x.a]) e/\Below w.heap.size w w':=by
 have pA:=AtL.new0 w 48 (zAD x (.slice av n cap));have hB:=zAK (Below.refl _ w) (.cells (zAD x (.slice av n cap)).toArray 48);have c0:(w.alloc (.cells (zAD x (.slice av n cap)).toArray 48)).cell? ⟨w.heap.size,0,none⟩=some (.int .i64 x.op):=pA.2.1 0 _ rfl;have c1:(w.alloc (.cells (zAD x (.slice av n cap)).toArray 48)).cell? ⟨w.heap.size,1,none⟩=some (.int .i64 x.a):=pA.2.1 1 _ rfl;have c2:(w.alloc (.cells (zAD x (.slice av n cap)).toArray 48)).cell? ⟨w.heap.size,2,none⟩=some (.int .i64 x.b):=pA.2.1 2 _ rfl;have c22:(w.alloc (.cells (zAD x (.slice av n cap)).toArray 48)).cell? ⟨w.heap.size,22,none⟩=some (.slice av n cap):=pA.2.1 22 _ rfl;have hlt:=pA.lt;have hw:IntKind.i64.wrap (at'+1)=at'+1:=by rw [IntKind.wrap_i64];omega
 have HZ:Hid (RdZ w (.slice av n cap) tl):=hz;rw [h] at c0;clear pA h ha hz;go_enter func47,ntmps47;go_upto_region 1 with fail
 generalize (w.alloc (.cells (zAD x (.slice av n cap)).toArray 48))=W at *;go_upto_region 7 with fail
 go_region
 all_goals
  go_wp2_with fail
  go_ret2
  refine ⟨⟨_,_,rfl,RdZ.one ?_,RdZ.one ?_,Bk.new ?_,Bk.new ?_,zBD,zBD⟩,(clB hB)⟩;all_goals first
   | (simp;done)
   | (simp;omega)
   | omega
theorem zMt (x:Wc.In) (av:Option Addr) (n cap:Nat) (tl:List Int) (at':Int) (w:World) (h:x.op=15) (ha:0<=at'/\at'<=1000000) (hz:RdZ w (.slice av n cap) tl) (hnp:Np (.slice av n cap)):Calls prog 47 #[inV x (.slice av n cap),.int .i64 at'] w λe w'=>OnQ w (.slice av n cap) w' (tl,[x.b]) e/\Below w.heap.size w w':=by
 have pA:=AtL.new0 w 48 (zAD x (.slice av n cap));have hB:=zAK (Below.refl _ w) (.cells (zAD x (.slice av n cap)).toArray 48);have c0:(w.alloc (.cells (zAD x (.slice av n cap)).toArray 48)).cell? ⟨w.heap.size,0,none⟩=some (.int .i64 x.op):=pA.2.1 0 _ rfl;have c1:(w.alloc (.cells (zAD x (.slice av n cap)).toArray 48)).cell? ⟨w.heap.size,1,none⟩=some (.int .i64 x.a):=pA.2.1 1 _ rfl;have c2:(w.alloc (.cells (zAD x (.slice av n cap)).toArray 48)).cell? ⟨w.heap.size,2,none⟩=some (.int .i64 x.b):=pA.2.1 2 _ rfl;have c22:(w.alloc (.cells (zAD x (.slice av n cap)).toArray 48)).cell? ⟨w.heap.size,22,none⟩=some (.slice av n cap):=pA.2.1 22 _ rfl;have hlt:=pA.lt;have hw:IntKind.i64.wrap (at'+1)=at'+1:=by rw [IntKind.wrap_i64];omega
 have HZ:Hid (RdZ w (.slice av n cap) tl):=hz;have HNP:Hid (Np (.slice av n cap)):=hnp;rw [h] at c0;clear pA h ha hz hnp;go_enter func47,ntmps47;go_upto_region 1 with fail
 generalize (w.alloc (.cells (zAD x (.slice av n cap)).toArray 48))=W at *;go_upto_region 9 with fail
 go_region
 all_goals
  go_wp2_with fail
  go_ret2
  refine ⟨⟨_,_,rfl,HZ.out.below (clB hB),RdZ.one ?_,Bk.own,Bk.new ?_,HNP.out,zBD⟩,(clB hB)⟩;all_goals first
   | (simp;done)
   | (simp;omega)
   | omega
theorem zNP (x:Wc.In) (av:Option Addr) (n cap:Nat) (tl:List Int) (at':Int) (w:World) (h:x.op=16) (ha:0<=at'/\at'<=1000000) (hz:RdZ w (.slice av n cap) tl):Calls prog 47 #[inV x (.slice av n cap),.int .i64 at'] w λe w'=>OnQ w (.slice av n cap) w' ([],[]) e/\Below w.heap.size w w':=by
 have pA:=AtL.new0 w 48 (zAD x (.slice av n cap));have hB:=zAK (Below.refl _ w) (.cells (zAD x (.slice av n cap)).toArray 48);have c0:(w.alloc (.cells (zAD x (.slice av n cap)).toArray 48)).cell? ⟨w.heap.size,0,none⟩=some (.int .i64 x.op):=pA.2.1 0 _ rfl;have c1:(w.alloc (.cells (zAD x (.slice av n cap)).toArray 48)).cell? ⟨w.heap.size,1,none⟩=some (.int .i64 x.a):=pA.2.1 1 _ rfl;have c2:(w.alloc (.cells (zAD x (.slice av n cap)).toArray 48)).cell? ⟨w.heap.size,2,none⟩=some (.int .i64 x.b):=pA.2.1 2 _ rfl;have c22:(w.alloc (.cells (zAD x (.slice av n cap)).toArray 48)).cell? ⟨w.heap.size,22,none⟩=some (.slice av n cap):=pA.2.1 22 _ rfl;have hlt:=pA.lt;have hw:IntKind.i64.wrap (at'+1)=at'+1:=by rw [IntKind.wrap_i64];omega
 have HZ:Hid (RdZ w (.slice av n cap) tl):=hz;rw [h] at c0;clear pA h ha hz;go_enter func47,ntmps47;go_upto_region 1 with fail
 generalize (w.alloc (.cells (zAD x (.slice av n cap)).toArray 48))=W at *;all_goals
  go_wp2;go_ret2
  exact ⟨⟨_,_,rfl,RdZ.nil _,RdZ.nil _,Bk.nil,Bk.nil,zGR,zGR⟩,hB⟩
theorem zOg (x:Wc.In) (av:Option Addr) (n cap:Nat) (at':Int) (w:World) (h:¬ (12<=x.op/\x.op<=16)) (ha:0<=at'/\at'<=1000000):Calls prog 47 #[inV x (.slice av n cap),.int .i64 at'] w λe w'=>OnQ w (.slice av n cap) w' ([at'+1],[]) e/\Below w.heap.size w w':=by
 have pA:=AtL.new0 w 48 (zAD x (.slice av n cap));have hB:=zAK (Below.refl _ w) (.cells (zAD x (.slice av n cap)).toArray 48);have c0:(w.alloc (.cells (zAD x (.slice av n cap)).toArray 48)).cell? ⟨w.heap.size,0,none⟩=some (.int .i64 x.op):=pA.2.1 0 _ rfl;have c1:(w.alloc (.cells (zAD x (.slice av n cap)).toArray 48)).cell? ⟨w.heap.size,1,none⟩=some (.int .i64 x.a):=pA.2.1 1 _ rfl;have c2:(w.alloc (.cells (zAD x (.slice av n cap)).toArray 48)).cell? ⟨w.heap.size,2,none⟩=some (.int .i64 x.b):=pA.2.1 2 _ rfl;have c22:(w.alloc (.cells (zAD x (.slice av n cap)).toArray 48)).cell? ⟨w.heap.size,22,none⟩=some (.slice av n cap):=pA.2.1 22 _ rfl;have hlt:=pA.lt;have hw:IntKind.i64.wrap (at'+1)=at'+1:=by rw [IntKind.wrap_i64];omega
 have n12:(x.op == 12)=false:=by simp;omega
 have n13:(x.op == 13)=false:=by simp;omega
 have n14:(x.op == 14)=false:=by simp;omega
 have n15:(x.op == 15)=false:=by simp;omega
 have n16:(x.op == 16)=false:=by simp;omega
 clear pA h ha;go_enter func47,ntmps47;go_upto_region 1 with fail
 generalize (w.alloc (.cells (zAD x (.slice av n cap)).toArray 48))=W at *;go_wp2;go_ret2
 refine ⟨⟨_,_,rfl,RdZ.one ?_,RdZ.nil _,Bk.new ?_,Bk.nil,zBD,zGR⟩,(clB hB)⟩;all_goals first
  | (simp;done)
  | (simp;omega)
  | omega
theorem zLZ (x:Wc.In) (av:Option Addr) (n cap:Nat) (tl:List Int) (at':Int) (w:World) (ha:0<=at'/\at'<=1000000) (hz:RdZ w (.slice av n cap) tl) (hnp:Np (.slice av n cap)):Calls prog 47 #[inV x (.slice av n cap),.int .i64 at'] w λe w'=>OnQ w (.slice av n cap) w' (onw x.op x.a x.b tl at') e/\Below w.heap.size w w':=by
 unfold onw;by_cases h12:x.op=12
 ·rw [if_pos h12];exact zMM x _ at' w h12 ha
 by_cases h13:x.op=13
 ·rw [if_neg h12,if_pos h13];exact zNz x av n cap tl at' w h13 ha hz
 by_cases h14:x.op=14
 ·rw [if_neg h12,if_neg h13,if_pos h14];exact zNR x av n cap tl at' w h14 ha hz
 by_cases h15:x.op=15
 ·rw [if_neg h12,if_neg h13,if_neg h14,if_pos h15];exact zMt x av n cap tl at' w h15 ha hz hnp
 by_cases h16:x.op=16
 ·rw [if_neg h12,if_neg h13,if_neg h14,if_neg h15,if_pos h16];exact zNP x av n cap tl at' w h16 ha hz
 rw [if_neg h12,if_neg h13,if_neg h14,if_neg h15,if_neg h16];exact zOg x av n cap at' w (by omega) ha
theorem zMO (w:World) (g m cap:Nat):(Instr.sliceAt 46 (.slice (some ⟨g,0,none⟩) (m+1) cap) (some (.int .i64 1)) none none).run prog w=.ok (sliced (some ⟨g,0,none⟩) 1 (m+1) cap 1) w:=by
 have hu:prog.underlying 46=some (.slice (prog.elem 46)):=by kernel_rfl
 have hz:(sizeOf (prog.elem 46)).run prog w=.ok 1 w:=by kernel_rfl
 rw [run_sliceAt_slice w _ _ _ _ _ hu,run_slice_l w _ _ _ _ hu _ 1 (by omega) (by omega),hz];rfl
theorem zGf (hgd:op.guard=none) (s:Operand) (ho:op.op=.slice 46 s (some (.const (.int .i64 1))) none none) (g m cap:Nat) (hs:a.eval s=.slice (some ⟨g,0,none⟩) (m+1) cap) (hc:m+1<=cap)
  (h:∀ X C:Nat,(m ≠ 0->X=1)->wpList prog ops Q rest (a.put op.dst (.slice (some ⟨g,X,none⟩) m C)) w):wpList prog ops Q (op::rest) a w:=by
 refine wpList_plain hgd λK hK=>?_
 unfold Oper.wp execOp;have hr:=zMO w g m cap;have he:sliced (some ⟨g,0,none⟩) 1 (m+1) cap 1=.slice (some ⟨g,(if cap=1 then 0 else 1),none⟩) m (cap - 1):=by
  unfold sliced;split
  ·rfl
  ·rfl
 rw [he] at hr;have hv:a.eval (.const (.int .i64 1))=.int .i64 1:=rfl;simp only [ho,hs,hv,Option.map_some,Option.map_none,Sem.run_bind,Sem.run_pure,Result.andThen_ok,hr];exact hK _ _ (h _ _ (λhm=>by rw [if_neg (by omega)]))
