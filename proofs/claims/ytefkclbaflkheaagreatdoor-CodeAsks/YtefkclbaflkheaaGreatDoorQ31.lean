/- KWhole, KRdc, KAbF, KWholeW, KWalkO, KWgt, KAreas, KHgtP, KHgtQ. -/
import Derived.Test.YtefkclbaflkheaaGreatDoorQ30
set_option maxHeartbeats 4000000
set_option maxRecDepth 100000
namespace Go.Proofs.YtefkclbaflkheaaGreatDoor
open Tryz
open Go.RowKit
set_option linter.unusedVariables false
variable {n B i G j k vb fb eb g c:Nat} {w w':World} {S:Wc.RS} {r L:List (Wc.In × List Int)} {tl f:List Int} {P:List (Wc.In × Value)} {y:Wc.In} {v o:Int} {h:Int × List Int} {ops:Array Oper} {rest:List Oper} {op:Oper} {a:Act} {Q:Exit->Act->World->Prop}
theorem zDJ:∀ (A:List (Wc.In × Value)) (i j:Nat) (h:i<A.length),j<23->(zA9 A)[i * 23+j]? = (zAD (A[i]).1 (A[i]).2)[j]?
 | x::r,0,j,_,hj=>by
  show (zAD x.1 x.2++zA9 r)[0 * 23+j]? = _
  rw [List.getElem?_append_left (by simp [zAD];omega)];simp
 | x::r,i+1,j,h,hj=>by
  have ih:=zDJ r i j (by simpa using h) hj;show (zAD x.1 x.2++zA9 r)[(i+1) * 23+j]? = _
  rw [List.getElem?_append_right (by simp [zAD];omega)];have e:(i+1) * 23+j - (zAD x.1 x.2).length=i * 23+j:=by simp [zAD];omega
  rw [e,ih];rfl
theorem OwnI.cell {cap:Nat} {A:List (Wc.In × Value)} (h:OwnI w B (.slice (some ⟨G,0,none⟩) n cap) A) {i:Nat} (hi:i<A.length):w.rangeAt G (i * 23) (zAD (A[i]).1 (A[i]).2):=by
 intro j v hv;have hj:j<23:=by
  rcases Nat.lt_or_ge j 23 with q | q
  ·exact q
  ·rw [List.getElem?_eq_none (by simp [zAD];omega)] at hv;cases hv
 have hc:=h.cells (g:=G) rfl (i * 23+j) v (by rw [zDJ A i j hi hj];exact hv);rwa [show (⟨G,0,none⟩:Addr).add (i * 23+j)=⟨G,i * 23+j,none⟩ from by
  simp [Addr.add];try (intro h0;omega)] at hc
theorem Tw.get:∀ (P:List (Wc.In × Value)) (L:List (Wc.In × List Int)),Tw w B P L->∀ (i:Nat) (h1:i<P.length) (h2:i<L.length),(P[i]).1=(L[i]).1/\TwR w B (P[i]).2 (L[i]).2:=by
 intro P;induction P with
 | nil=>intro L h i h1;cases h1
 | cons p r ih =>
  intro L h i h1 h2;cases L with
  | nil=>exact h.elim
  | cons x s =>
   cases i with
   | zero=>exact h.1
   | succ k=>exact ih s h.2 k (by simpa using h1) (by simpa using h2)
structure TwS (w:World) (B G cap:Nat) (P:List (Wc.In × Value)) (L:List (Wc.In × List Int)):Prop where
 own:OwnI w B (.slice (some ⟨G,0,none⟩) (L.length+2) cap) (P++[(zAE 771,zAG),(zAE 772,zAG)])
 tw:Tw w B P L
theorem TwS.below {cap:Nat} (h:TwS w B G cap P L) (hb:Below w.heap.size w w'):TwS w' B G cap P L:=⟨h.own.below hb,Tw.turn (λ_ _ q=>q.below hb) _ _ h.tw⟩
theorem TwS.cap {cap:Nat} (h:TwS w B G cap P L):L.length+2<=cap:=by
 rcases h.own.2 with ⟨e,_⟩ | ⟨g,c,cur,e,_,_,hc,_⟩
 ·cases e
 ·simp only [Value.slice.injEq] at e;have:(P++[(zAE 771,zAG),(zAE 772,zAG)]).length=L.length+2:=by simp [Tw.len _ _ h.tw]
  omega
theorem TwS.at' {cap:Nat} (h:TwS w B G cap P L) {i:Nat} (hi:i<L.length):∃ g c,w.rangeAt G (i * 23) (zAD (L[i]).1 (.slice (some ⟨g,0,none⟩) (L[i]).2.length c))/\OwnZ w B (.slice (some ⟨g,0,none⟩) ((L[i]).2.length+2) c) ((L[i]).2++[771,772]):=by
 have hl:=Tw.len _ _ h.tw;obtain ⟨e1,g,c,e2,ho⟩:=Tw.get _ _ h.tw i (by omega) hi;have hr:=h.own.cell (i:=i) (by simp;omega);rw [List.getElem_append_left (by omega),e1,e2] at hr;exact ⟨g,c,hr,ho⟩
theorem TwS.rd {cap:Nat} (h:TwS w B G cap P L):RdC w (.slice (some ⟨G,0,none⟩) L.length cap) L:=by
 refine ⟨some ⟨G,0,none⟩,cap,rfl,λi hi=>?_⟩;obtain ⟨g,c,hr,ho⟩:=h.at' hi;refine ⟨G,0,some ⟨g,0,none⟩,(L[i]).2.length,c,rfl,by rw [Nat.zero_add];exact hr,TwR.rd ⟨g,c,rfl,ho⟩,λq=>by cases q⟩
theorem TwS.marks {cap:Nat} (h:TwS w B G cap P L):w.cell? ⟨G,L.length * 23,none⟩=some (.int .i64 771)/\w.cell? ⟨G,(L.length+1) * 23,none⟩=some (.int .i64 772):=by
 have hl:=Tw.len _ _ h.tw;have h1:=h.own.cell (i:=L.length) (by simp;omega) 0 (.int .i64 771) (by simp [List.getElem_append_right,hl,zAD,zAE]);have h2:=h.own.cell (i:=L.length+1) (by simp;omega) 0 (.int .i64 772) (by simp [List.getElem_append_right,hl,zAD,zAE]);exact ⟨h1,h2⟩
theorem zFJ (h:OwnZ w B (.slice (some ⟨g,0,none⟩) (tl.length+2) c) (tl++[771,772])):w.cell? ⟨g,tl.length,none⟩=some (.int .i64 771)/\w.cell? ⟨g,tl.length+1,none⟩=some (.int .i64 772)/\tl.length+2<=c:=by
 obtain ⟨av,cp,e,f⟩:=h.rd;simp only [Value.slice.injEq] at e;obtain ⟨b1,o1,q1,q2⟩:=f tl.length (by simp);obtain ⟨b2,o2,r1,r2⟩:=f (tl.length+1) (by simp);rw [<-e.1] at q1 r1;cases q1
 cases r1
 refine ⟨?_,?_,?_⟩
 ·rw [Nat.zero_add] at q2;rw [q2];simp
 ·rw [Nat.zero_add] at r2;rw [r2];simp [List.getElem_append_right]
 ·rcases h.2 with ⟨e,_⟩ | ⟨g,c,cur,e,_,_,hc,_⟩
  ·cases e
  ·simp only [Value.slice.injEq] at e;simp at hc;omega
open Go.RowKit Wf
theorem zKK {lv:Value} {C:List I} (h:OwnI w B lv P) (hl:P.length=C.length) (hi:∀ i (h:i<P.length) (h':i<C.length),(P[i]).1=(C[i]).1/\OwnZ w B (P[i]).2 (C[i]).2):RdC w lv C:=by
 rcases h.2 with ⟨e,h0⟩ | ⟨G,cap,cur,e,hb,hg,r⟩
 ·subst e;refine ⟨none,0,by rw [<-hl,h0],λi hi=>?_⟩;omega
 ·subst e;refine ⟨some ⟨G,0,none⟩,cap,by rw [<-hl],λi hi2=>?_⟩;have hi3:i<P.length:=by omega
  have c:=OwnI.cell h (i:=i) hi3;obtain ⟨q1,q2⟩:=hi i hi3 hi2;have rz:=q2.rd;rcases q2.2 with ⟨e2,h2⟩ | ⟨G2,cap2,cur2,e2,_⟩
  ·rw [q1,e2] at c;rw [e2] at rz;exact ⟨G,0,none,0,0,rfl,by rw [Nat.zero_add];exact c,rz,λ_=>rfl⟩
  ·rw [q1,e2] at c;rw [e2] at rz;exact ⟨G,0,_,_,_,rfl,by rw [Nat.zero_add];exact c,rz,λh=>by cases h⟩
def ndL:Wt.Nd:=⟨2,Wt.v0,0,⟨#[]⟩,0,Wt.r0,Wt.r0⟩
def trL:Tr 1:=(⟨ndL,[]⟩:Br (Tr 0))
def nmL:List ByteArray:=[⟨#[83]⟩]
theorem zJg:row 1 trL=[ndL]:=rfl
theorem zI1:zCi 1 trL:=⟨by kernel_rfl,by kernel_rfl,λk hk=>by cases hk⟩
theorem zFW:Wt.check [ndL]=0:=by kernel_rfl
theorem zK3:∀ x ∈ [ndL],Wt.FitN x:=by
 intro x hx;simp only [List.mem_cons,List.not_mem_nil,or_false] at hx;subst hx;unfold Wt.FitN Wt.FitV;decide
theorem zM5:flE 0 3 0 nmL 1 trL=0:=by kernel_rfl
theorem zMT:flC 0 nmL 1 trL=[ins 2 0 0,ins 16 0 0]:=by kernel_rfl
theorem zKq:Wc.chkP rgt [ins 2 0 0,ins 16 0 0]=true:=by kernel_rfl
theorem zJU:(usA [ins 2 0 0,ins 16 0 0]).length=1:=by kernel_rfl
theorem zF5:∀ x ∈ [ins 2 0 0,ins 16 0 0],x.2.length<=1000000/\Wt.FitV x.1.v:=by
 intro x hx;simp only [List.mem_cons,List.not_mem_nil,or_false] at hx;rcases hx with rfl | rfl
 ·exact ⟨by simp [ins],by unfold Wt.FitV;decide⟩
 ·exact ⟨by simp [ins],by unfold Wt.FitV;decide⟩
theorem zMq (w:World):(Instr.build 35 #[(0,.int .i64 2)]).run prog w=.ok (.agg (zAN ndL).toArray) w:=by kernel_rfl
theorem zDz (hgd:op.guard=none) (ho:op.op=.build 35 #[(0,.const (.int .i64 2))])
  (h:wpList prog ops Q rest (a.put op.dst (.agg (zAN ndL).toArray)) w):wpList prog ops Q (op::rest) a w:=by
 refine wpList_plain hgd λK hK=>?_
 unfold Oper.wp execOp;simp only [ho,List.map_toArray,List.map_cons,List.map_nil,Act.eval,Sem.run_bind,Sem.run_pure,Result.andThen_ok,zMq];exact hK _ _ h
theorem zMm (x:Wt.Nd) (w:World):(Instr.buildSlice 22 1 #[(0,.agg (zAN x).toArray)]).run prog w=.ok (.slice (some ⟨w.heap.size,0,none⟩) 1 1) (w.alloc (.cells (zAN x).toArray 35)):=by kernel_rfl
theorem zDl (hgd:op.guard=none) (y:Operand) (ho:op.op=.buildSlice 22 1 #[(0,y)]) (x:Wt.Nd) (hy:a.eval y=.agg (zAN x).toArray)
  (h:wpList prog ops Q rest (a.put op.dst (.slice (some ⟨w.heap.size,0,none⟩) 1 1)) (w.alloc (.cells (zAN x).toArray 35))):wpList prog ops Q (op::rest) a w:=by
 refine wpList_plain hgd λK hK=>?_
 unfold Oper.wp execOp;simp only [ho,List.map_toArray,List.map_cons,List.map_nil,hy,Sem.run_bind,Sem.run_pure,Result.andThen_ok,zMm];exact hK _ _ h
theorem zI0 (w:World) (hN:NmAt w) (hO:OpsAt w):CR 6 #[] w (.bool true):=by
 have hb0:=zAK (zAK (Below.refl _ w) (.cells (zAN ndL).toArray 35)) (.cells #[.string ⟨#[83]⟩] 9);have rN:((w.alloc (.cells (zAN ndL).toArray 35)).alloc (.cells #[.string ⟨#[83]⟩] 9)).rangeAt w.heap.size 0 (zAN ndL):=((AtL.new0 w 35 (zAN ndL)).alloc _).range;have rS:((w.alloc (.cells (zAN ndL).toArray 35)).alloc (.cells #[.string ⟨#[83]⟩] 9)).cell? ⟨w.heap.size+1,0,none⟩=some (.string ⟨#[83]⟩):=(AtL.new1 w (.cells (zAN ndL).toArray 35) 9 [.string ⟨#[83]⟩]).2.1 0 _ rfl;have hRN:RdN ((w.alloc (.cells (zAN ndL).toArray 35)).alloc (.cells #[.string ⟨#[83]⟩] 9)) (some ⟨w.heap.size,0,none⟩) [ndL]:=λi hi=>by
  have hi0:i=0:=by simp at hi;omega
  subst hi0;exact ⟨w.heap.size,0,rfl,rN⟩
 have hRS:RdS ((w.alloc (.cells (zAN ndL).toArray 35)).alloc (.cells #[.string ⟨#[83]⟩] 9)) (some ⟨w.heap.size+1,0,none⟩) nmL:=λi hi=>by
  have hi0:i=0:=by simp [nmL] at hi;omega
  subst hi0;exact ⟨w.heap.size+1,0,rfl,rS⟩
 have FL:=zHM 1 trL w.heap.size 0 1 [ndL] 0 3 0 (some ⟨w.heap.size+1,0,none⟩) nmL 1 1 _ zK3 (hO.below hb0) (hN.below hb0) hRN hRS zFW zJg zI1 (by simp) (by simp) 1 rfl rfl (Nat.le_refl _) (by simp [nmL]) (by omega) (λq hq=>zKg 0 (nmL.take 16) _ q 1 hq (by rw [List.length_take];omega) 0 (λt=>Empty.elim t) trL λh=>absurd (show (2:Int)=6 from h) (by decide)) (λq=>zHw 0 (nmL.take 16) _ q 1 0 trL (λh=>absurd (show (2:Int)=4 \/ (2:Int)=5 from h) (by decide)) (λh=>absurd (show (2:Int)=6 from h) (by decide)) λh=>absurd (show (2:Int)=1 from h) (by decide));rw [zM5,zMT] at FL;have HN:Hid (NmAt w):=hN;clear rN rS hRN hRS hN hO;go_enter func6,ntmps6;go_wp2_with (first | (refine zDz rfl rfl ?_) | (refine zDl rfl (.tmp 4) rfl ndL rfl ?_))
 refine FL.mono ?_;rintro e w1 ⟨hq,hb1⟩;rcases hq with ⟨hq,_⟩ | ⟨_,lv,P,rfl,own,hl,hin,_⟩
 ·exact absurd rfl hq
 have hB1:=zAB hb0 hb1;have rc:=zKK own hl hin;have CK:=zCS _ lv w1 rc (by simp) zF5 (HN.out.below hB1);rw [zKq,if_pos rfl] at CK;have HUS:Hid (∀ W:World,Below w1.heap.size w1 W->Calls prog 16 #[lv] W λe w'=>(∃ r B,e=.returned r/\OwnA w' B r (usA [ins 2 0 0,ins 16 0 0])/\W.heap.size<=B)/\Below W.heap.size W w'):=λW hb=>zEf _ lv W (rc.below hb) (by simp) zF5 (HN.out.below (zAB hB1 hb))
 obtain ⟨av,cap,e0,rr⟩:=rc;obtain ⟨G,off,p0,m0,k0,e1,r0,_,_⟩:=rr 0 (by simp);obtain ⟨G',off',p1,m1,k1,e2,r1,_,_⟩:=rr 1 (by simp);subst e0;rw [e1] at e2;cases e2
 subst e1;have c0:w1.cell? ⟨G,off+0 * 23,none⟩=some (.int .i64 2):=r0 0 _ rfl;have c1:w1.cell? ⟨G,off+1 * 23,none⟩=some (.int .i64 16):=r1 0 _ rfl;rw [Nat.zero_mul,Nat.add_zero] at c0;rw [Nat.one_mul] at c1;clear FL hb0 own hl hin hb1 r0 r1 rr;go_wp2_with fail
 refine CK.mono ?_;rintro e w2 ⟨rfl,hb2⟩;have US:=HUS.out w2 hb2;have hB2:=zAB hB1 hb2;clear CK HUS c0 c1 hb2 hB1;go_wp2_with fail
 refine US.mono ?_;rintro e w3 ⟨⟨r,B,rfl,ho,_⟩,hb3⟩;have hB3:=zAB hB2 hb3;have hr:∃ av c,r=.slice av 1 c:=by
  rcases ho.2 with ⟨_,q⟩ | ⟨g,c,cur,q,_⟩
  ·rw [zJU] at q;cases q
  ·rw [zJU] at q;exact ⟨_,_,q⟩
 obtain ⟨av,c,rfl⟩:=hr;clear US ho hb3 hB2;go_wp2;go_ret;exact ⟨rfl,hB3⟩
theorem zEd (h:k<=1000000):IntKind.i64.wrap ((k:Int)+2)=((k+2:Nat):Int)/\IntKind.i64.wrap ((k:Int)+1)=((k+1:Nat):Int):=⟨by rw [IntKind.wrap_i64];omega,by rw [IntKind.wrap_i64];omega⟩
theorem zGs (L:List (Wc.In × List Int)) (B G cap:Nat) (P:List (Wc.In × Value)) (vl:Value) (w:World) (hT:TwS w B G cap P L) (hR:RdC w vl L) (hl:L.length<=1000000) (ht:∀ x ∈ L,x.2.length<=1000000) :
  CR 15 #[.slice (some ⟨G,0,none⟩) L.length cap,vl] w (.bool true):=by
 have SZ:=zL2 L _ vl w hT.rd hR hl ht;obtain ⟨a1,c1,rfl,r1⟩:=hR;have HR:Hid (RdC w (.slice a1 L.length c1) L):=⟨a1,c1,rfl,r1⟩
 have HTS:Hid (TwS w B G cap P L):=hT;have HTL:Hid (∀ x ∈ L,x.2.length<=1000000):=ht;obtain ⟨m1,m2⟩:=hT.marks;have hcp:=hT.cap;obtain ⟨n,hn⟩:∃ n,L.length=n:=⟨_,rfl⟩
 have HL:Hid (L.length=n):=hn;rw [hn] at m1 m2 hcp hl SZ ⊢;have HM1:Hid (w.cell? ⟨G,n * 23,none⟩=some (.int .i64 771)):=m1;have HM2:Hid (w.cell? ⟨G,(n+1) * 23,none⟩=some (.int .i64 772)):=m2;have HN:Hid (n<=1000000):=hl;have w1:IntKind.i64.wrap ((n:Int)+2)=((n+2:Nat):Int):=by rw [IntKind.wrap_i64];omega
 have w2:IntKind.i64.wrap ((n:Int)+1)=((n+1:Nat):Int):=by rw [IntKind.wrap_i64];omega
 have x1:=zA1 (k:=n+2) (by omega);have x2:=zA1 (k:=n+1) (by omega);have x3:=zA1 (k:=n) (by omega);have y1:=x1.1;have y2:=x1.2;have y3:=x2.1;have y4:=x2.2;have y5:=x3.1;have y6:=x3.2;have k1:n+2<=cap:=hcp;have k2:((n+2:Nat):Int)<=(cap:Int):=Int.ofNat_le.2 hcp;have k3:(0:Int)<=((n+2:Nat):Int):=Int.natCast_nonneg _;have k4:(n:Int)<((n+2:Nat):Int):=by omega
 have k5:((n+1:Nat):Int)<((n+2:Nat):Int):=by omega
 have k6:(0:Int)<=(n:Int):=Int.natCast_nonneg _;have k7:(0:Int)<=((n+1:Nat):Int):=Int.natCast_nonneg _;clear r1 hT ht hn m1 m2 hcp hl x1 x2 x3;go_enter func15,ntmps15;go_wp2_with fail
 refine SZ.mono ?_;rintro e w1' ⟨rfl,hb1⟩;have m1:=zAC hb1 HM1.out;have m2:=zAC hb1 HM2.out;have HB1:Hid (Below w.heap.size w w1'):=hb1;clear SZ hb1;go_upto_region 4 with fail
 clear m1 m2 w1 w2 y1 y2 y3 y4 y5 y6 k1 k2 k3 k4 k5 k6 k7 HM1 HM2;go_wp2_with fail
 go_loopg [6] n (λgk x wr=>∃ i:Nat,x=.int .i64 i/\gk=n - i/\i<=n/\Hid (Below w.heap.size w wr))
 case atStart=>exact ⟨0,rfl,rfl,Nat.zero_le _,HB1⟩
 case round =>
  clear HB1;obtain ⟨i,rfl,hg,hi,HB⟩:=hrel;by_cases hlt:i<n
  ·have hli:(i:Int)<(n:Int):=by omega
   have hiz:(0:Int)<=(i:Int):=Int.natCast_nonneg _;have hil:i<L.length:=by rw [HL.out];exact hlt
   have hwi:IntKind.i64.wrap ((i:Int)+1)=(i:Int)+1:=by rw [IntKind.wrap_i64];have:=HN.out;omega
   have H0:=HR.out;rw [HL.out] at H0;obtain ⟨q1,d1,e1,f1⟩:=H0;simp only [Value.slice.injEq] at e1;obtain ⟨ex1,ex2,ex3⟩:=e1;subst ex1;subst ex3;clear ex2;obtain ⟨bb,off,p,mm,kk,rfl,t1,z1,_⟩:=f1 i hil;obtain ⟨g,c,hr,ho⟩:=HTS.out.at' hil;obtain ⟨y,tl,hyt⟩:∃ y tl,L[i]=(y,tl):=⟨_,_,rfl⟩
   have htl:=HTL.out L[i] (List.getElem_mem _);rw [hyt] at t1 z1 hr ho htl;simp only at t1 z1 hr ho htl;have hmm:mm=tl.length:=by
    obtain ⟨_,_,e,_⟩:=z1;simp only [Value.slice.injEq] at e;exact e.2.1
   obtain ⟨c1',c2',hcap⟩:=zFJ ho;rw [<-hmm] at c1' c2' hcap htl hr;have b1:=zAC HB.out (t1 22 _ rfl);have b2:=zAC HB.out (hr 22 _ rfl);have HB3:Hid (wr.cell? ⟨g,mm,none⟩=some (.int .i64 771)):=zAC HB.out c1';have HB4:Hid (wr.cell? ⟨g,mm+1,none⟩=some (.int .i64 772)):=zAC HB.out c2';have HTM:Hid (mm<=1000000):=htl;have HCP:Hid (mm+2<=c):=hcap;clear f1 hyt hil htl t1 z1 hr ho hmm c1' c2' hcap;go_upto_region 8 with fail
   clear b1;have k0:mm+2<=c:=HCP.out;have k1:((mm+2:Nat):Int)<=(c:Int):=Int.ofNat_le.2 k0;have k3:(0:Int)<=((mm+2:Nat):Int):=Int.natCast_nonneg _;have y1:=(zA1 (k:=mm+2) (Nat.le_trans (Nat.add_le_add_right HTM.out 2) (by decide))).1;have y2:=(zA1 (k:=mm+2) (Nat.le_trans (Nat.add_le_add_right HTM.out 2) (by decide))).2;have w1:=(zEd HTM.out).1;go_upto_region 9 with fail
   clear b2 k0 k1 k3 y1 y2 w1;have b3:=HB3.out;have b4:=HB4.out;have k4:(mm:Int)<((mm+2:Nat):Int):=by omega
   have k5:((mm+1:Nat):Int)<((mm+2:Nat):Int):=by omega
   have k6:(0:Int)<=(mm:Int):=Int.natCast_nonneg _;have k7:(0:Int)<=((mm+1:Nat):Int):=Int.natCast_nonneg _;have y3:=(zA1 (k:=mm+1) (Nat.le_trans (Nat.add_le_add_right HTM.out 1) (by decide))).1;have y4:=(zA1 (k:=mm+1) (Nat.le_trans (Nat.add_le_add_right HTM.out 1) (by decide))).2;have y5:=(zA1 (k:=mm) (Nat.le_trans HTM.out (by decide))).1;have y6:=(zA1 (k:=mm) (Nat.le_trans HTM.out (by decide))).2;have w2:=(zEd HTM.out).2;go_wp2_with fail
   go_roundg (n - (i+1))
   case rel=>exact ⟨i+1,by simp,rfl,hlt,HB⟩
   case measure=>omega
  ·have hli:¬ (i:Int)<(n:Int):=by omega
   go_wp2;go_ret;exact ⟨rfl,HB.out⟩
def wgt:Int->List (Wc.In × List Int)->Int
 | n,[]=>n
 | n,x::r=>if n<=20000 then wgt (n+((x.2.length:Int)+(x.1.v.t.size:Int))) r else n
theorem zEo (L:List (Wc.In × List Int)) (v:Value) (w:World) (h:RdC w v L) (hl:True->L.length<=2000000000000000000) (ht:∀ x ∈ L,x.2.length<=2000000000000000000/\x.1.v.t.size<=2000000000000000000) :
  CR 11 #[v] w (.int .i64 (wgt L.length L)):=by
 obtain ⟨a1,c1,rfl,r1⟩:=h;have H1:Hid (RdC w (.slice a1 L.length c1) L):=⟨a1,c1,rfl,r1⟩
 have HT:Hid (∀ x ∈ L,x.2.length<=2000000000000000000/\x.1.v.t.size<=2000000000000000000):=ht;obtain ⟨q,hq⟩:∃ q,wgt L.length L=q:=⟨_,rfl⟩
 have HQ:Hid (wgt L.length (L.drop 0)=q):=by show _=_;rw [List.drop_zero];exact hq
 rw [hq];obtain ⟨n,hn⟩:∃ n,L.length=n:=⟨_,rfl⟩
 rw [hn] at hl HQ ⊢;clear r1 ht hq;go_enter func11,ntmps11;go_wp2_with fail
 go_loopg [3,4] n (λgk y x wr=>∃ (i:Nat) (m:Int),x=.int .i64 i/\y=.int .i64 m/\gk=n - i/\i<=n/\0<=m/\Hid (wgt m (L.drop i)=q)/\Below w.heap.size w wr)
 case atStart=>exact ⟨0,(n:Int),rfl,rfl,rfl,Nat.zero_le _,by omega,HQ,Below.refl _ _⟩
 case round =>
  clear HQ;obtain ⟨i,m,rfl,rfl,hg,hi,hm0,HM,hb⟩:=hrel;by_cases hlt:i<n
  ·have hli:(i:Int)<(n:Int):=by omega
   have ed:L.drop i=L[i]::L.drop (i+1):=List.drop_eq_getElem_cons (by omega);by_cases hm:m<=20000
   ·have hwi:IntKind.i64.wrap ((i:Int)+1)=(i:Int)+1:=by rw [IntKind.wrap_i64];have:=hl trivial;omega
    obtain ⟨q1,d1,e1,f1⟩:=H1.out.below hb;simp only [Value.slice.injEq,true_and] at e1;obtain ⟨rfl,rfl⟩:=e1;obtain ⟨b1,o1,p1,m1,k1,rfl,t1,y1,_⟩:=f1 i (by omega);obtain ⟨hs1,hs2⟩:=HT.out (L[i]) (List.getElem_mem _);have HM2:Hid (wgt (m+(((L[i]).2.length:Int)+((L[i]).1.v.t.size:Int))) (L.drop (i+1))=q):=by
     have:=HM.out;rw [ed,wgt,if_pos hm] at this;exact this
    obtain ⟨p3,k3,e3,-⟩:=y1;simp only [Value.slice.injEq] at e3;obtain ⟨-,rfl,-⟩:=e3;have x22:wr.cell? ⟨b1,o1+i * 23+22,none⟩=some (.slice p1 (L[i]).2.length k1):=t1 22 _ rfl;have x6:wr.cell? ⟨b1,o1+i * 23+6,none⟩=some (.string (L[i]).1.v.t):=t1 6 _ rfl;have x33:wr.cell? ⟨b1,o1+i * 23+3+3,none⟩=some (.string (L[i]).1.v.t):=x6;generalize (L[i]).2.length=u at *;generalize (L[i]).1.v.t=s at *;have w1:IntKind.i64.wrap ((u:Int)+(s.size:Int))=(u:Int)+(s.size:Int):=by rw [IntKind.wrap_i64];omega
    have w2:IntKind.i64.wrap (m+((u:Int)+(s.size:Int)))=m+((u:Int)+(s.size:Int)):=by rw [IntKind.wrap_i64];omega
    have hp:0<=m+((u:Int)+(s.size:Int)):=by omega
    clear f1 t1 hs1 hs2 HM ed;go_upto_region 5 with fail
    go_quiet (fail)
    go_wp2_with fail
    go_roundg (n - (i+1))
    case rel=>exact ⟨i+1,_,by simp,rfl,rfl,hlt,hp,HM2,(clB hb)⟩
    case measure=>omega
   ·have e:m=q:=by
     have:=HM.out;rw [ed,wgt,if_neg hm] at this;exact this
    subst e;clear HM ed;go_wp2;go_ret;exact ⟨rfl,hb⟩
  ·have hli:¬ (i:Int)<(n:Int):=by omega
   have e:m=q:=by
    have:=HM.out;rw [List.drop_eq_nil_of_le (by omega)] at this;exact this
   subst e;clear HM;go_wp2;go_ret;exact ⟨rfl,hb⟩
theorem zJL:∀ (L:List (Wc.In × List Int)) (n:Int),n<=wgt n L
 | [],n=>Int.le_refl _
 | x::r,n=>by
  unfold wgt;split
  ·have:=zJL r (n+((x.2.length:Int)+(x.1.v.t.size:Int)));omega
  ·exact Int.le_refl _
theorem zJ1:∀ (L:List (Wc.In × List Int)) (n:Int),0<=n->wgt n L<=20000->n<=20000/\∀ x ∈ L,x.2.length<=20000
 | [],n,_,h=>⟨h,λx hx=>by cases hx⟩
 | x::r,n,h0,h=>by
  unfold wgt at h;split at h
  ·rename_i hn
   have hg:=zJL r (n+((x.2.length:Int)+(x.1.v.t.size:Int)));obtain ⟨_,h2⟩:=zJ1 r _ (by omega) h;refine ⟨hn,λz hz=>?_⟩;rcases List.mem_cons.1 hz with rfl | hz
   ·omega
   ·exact h2 z hz
  ·rename_i hn
   exact absurd h hn
theorem zGR (x:Wpl.Ar) (w:World):(binOp .neq 53 (.agg #[.int .i64 x.s,.int .i64 x.t,.int .i64 x.l,.int .i64 x.b,.int .i64 x.r]) (.agg #[.int .i64 x.s,.int .i64 x.t,.int .i64 x.l,.int .i64 x.b,.int .i64 x.r])).run prog w=.ok (.bool false) w:=by
 simp [go_sem]
theorem zG5 (A:List Wpl.Ar) (v1 v2:Value) (w:World) (h1:RdA w v1 A) (h2:RdA w v2 A) (hl:A.length<=2000000):CR 19 #[v1,v2] w (.bool true):=by
 obtain ⟨a1,c1,rfl,r1⟩:=h1;obtain ⟨a2,c2,rfl,r2⟩:=h2;have H1:Hid (∀ i (h:i<A.length),∃ bb off,a1=some ⟨bb,off,none⟩/\w.rangeAt bb (off+i * 5) (zAb (A[i]))):=r1;have H2:Hid (∀ i (h:i<A.length),∃ bb off,a2=some ⟨bb,off,none⟩/\w.rangeAt bb (off+i * 5) (zAb (A[i]))):=r2;obtain ⟨n,hn⟩:∃ n,A.length=n:=⟨_,rfl⟩
 have HA:Hid (A.length=n):=hn;have HL:Hid (n<=2000000):=by rw [<-hn];exact hl
 rw [hn];have hnn:((n:Int) != (n:Int))=false:=by simp
 clear r1 r2 hn hl;go_enter func19,ntmps19;go_wp2_with fail
 go_loopg [5] n (λgk u wr=>∃ i:Nat,u=.int .i64 i/\gk=n - i/\i<=n/\Hid (Below w.heap.size w wr))
 case atStart=>exact ⟨0,rfl,rfl,Nat.zero_le _,Below.refl _ _⟩
 case round =>
  obtain ⟨i,rfl,hg,hi,HB⟩:=hrel;by_cases hlt:i<n
  ·have hli:(i:Int)<(n:Int):=by omega
   have hiz:(0:Int)<=(i:Int):=by omega
   have hwi:IntKind.i64.wrap ((i:Int)+1)=(i:Int)+1:=by rw [IntKind.wrap_i64];have:=HL.out;omega
   obtain ⟨b1,o1,rfl,q1⟩:=H1.out i (by rw [HA.out];exact hlt);obtain ⟨b2,o2,rfl,q2⟩:=H2.out i (by rw [HA.out];exact hlt);obtain ⟨y,hy⟩:∃ y,A[i]'(by rw [HA.out];exact hlt)=y:=⟨_,rfl⟩
   rw [hy] at q1 q2;clear hy;go_upto_region 6 with fail
   have rb:=(Below.refl wr.heap.size wr).drew;have HB2:Hid (Below w.heap.size w wr.drew):=zAB HB.out rb;have sp:=zAI HB2.out q1;have sq:=zAI HB2.out q2;have hne:=λW=>zGR y W
   have p0:wr.drew.cell? ⟨b1,o1+i * 5,none⟩=some (.int .i64 y.s):=by have:=sp 0 _ rfl;simpa using this
   have p1:=sp 1 _ rfl;have p2:=sp 2 _ rfl;have p3:=sp 3 _ rfl;have p4:=sp 4 _ rfl;have q0:wr.drew.cell? ⟨b2,o2+i * 5,none⟩=some (.int .i64 y.s):=by have:=sq 0 _ rfl;simpa using this
   have q1:=sq 1 _ rfl;have q2:=sq 2 _ rfl;have q3:=sq 3 _ rfl;have q4:=sq 4 _ rfl;clear rb sp sq HB;refine wp_region_held_drew (S:=λW=>(W.cell? ⟨b1,o1+i * 5,none⟩=some (.int .i64 y.s)/\W.cell? ⟨b1,o1+i * 5+1,none⟩=some (.int .i64 y.t)/\W.cell? ⟨b1,o1+i * 5+2,none⟩=some (.int .i64 y.l)/\W.cell? ⟨b1,o1+i * 5+3,none⟩=some (.int .i64 y.b)/\W.cell? ⟨b1,o1+i * 5+4,none⟩=some (.int .i64 y.r))/\W.cell? ⟨b2,o2+i * 5,none⟩=some (.int .i64 y.s)/\W.cell? ⟨b2,o2+i * 5+1,none⟩=some (.int .i64 y.t)/\W.cell? ⟨b2,o2+i * 5+2,none⟩=some (.int .i64 y.l)/\W.cell? ⟨b2,o2+i * 5+3,none⟩=some (.int .i64 y.b)/\W.cell? ⟨b2,o2+i * 5+4,none⟩=some (.int .i64 y.r)) (by kernel_rfl) ⟨⟨p0,p1,p2,p3,p4⟩,q0,q1,q2,q3,q4⟩ (λhHeld=>?_);generalize wr.drew=WD at *;refine tkQ 0 ?_
   refine tkQ 1 ?_
   refine tkQ 2 ?_
   refine tkQ 3 ?_
   refine tkQ 4 ?_
   refine tkQ 5 ?_
   refine tkQ 6 ?_
   refine tkQ 7 ?_
   refine tkQ 8 ?_
   refine wpAnyH_done (by kernel_rfl) ?_ _;clear hHeld hne p0 p1 p2 p3 p4 q0 q1 q2 q3 q4;go_wp2_with fail
   go_roundg (n - (i+1))
   case rel=>exact ⟨i+1,by simp,rfl,by omega,HB2⟩
   case measure=>omega
  ·have hli:¬ ((i:Int)<(n:Int)):=by omega
   go_wp2;go_ret;exact ⟨rfl,HB.out⟩
structure HgS (w:World) (B vb fb eb n:Nat) (S:Wc.RS):Prop where
 len:S.length=n
 bn:∀ j:Nat,j<n->w.cell? ⟨eb,j,none⟩=some (.bool (S.getD j none).isSome)
 vt:∀ j:Nat,j<n->∃ x:Int,w.cell? ⟨vb,j,none⟩=some (.int .i64 x)
 vl:∀ (j:Nat) (v:Int) (f:List Int),S.getD j none=some (v,f)->w.cell? ⟨vb,j,none⟩=some (.int .i64 v)
 ft:∀ j:Nat,j<n->∃ r,w.cell? ⟨fb,j,none⟩=some r
 fd:∀ (j:Nat) (v:Int) (f:List Int),S.getD j none=some (v,f)->∃ r,w.cell? ⟨fb,j,none⟩=some r/\RdZ w r f/\Np r/\(∀ g,r.ownBlock=some g->B<=g)
 zv:∀ j:Nat,j<n->w.frozen? ⟨vb,j,none⟩=false
 zf:∀ j:Nat,j<n->w.frozen? ⟨fb,j,none⟩=false
 ze:∀ j:Nat,j<n->w.frozen? ⟨eb,j,none⟩=false
 lv:vb<B
 lf:fb<B
 le:eb<B
 hb:B<=w.heap.size
 vf:vb ≠ fb
 ve:vb ≠ eb
 fe:fb ≠ eb
theorem zGG {α:Type} {S:List (Option α)} {x:α} (h:S.getD j none=some x):j<S.length:=by
 rcases Nat.lt_or_ge j S.length with q | q
 ·exact q
 ·rw [List.getD_eq_getElem?_getD,List.getElem?_eq_none q] at h;cases h
theorem HgS.fr {T:List Nat} (h:HgS w B vb fb eb n S) (hf:Fr T w w') (ht:∀ k ∈ T,w.heap.size<=k):HgS w' B vb fb eb n S:=by
 have old:∀ k,k<w.heap.size->k ∉ T:=λk hk hm=>absurd (ht k hm) (Nat.not_le.2 hk)
 have hb:=h.hb;have n1:=old vb (Nat.lt_of_lt_of_le h.lv hb);have n2:=old fb (Nat.lt_of_lt_of_le h.lf hb);have n3:=old eb (Nat.lt_of_lt_of_le h.le hb);refine ⟨h.len,λj hj=>hf.cell (h.bn j hj) n3,λj hj=>?_,λj v f e=>hf.cell (h.vl j v f e) n1,λj hj=>?_,λj v f e=>?_,λj hj=>?_,λj hj=>?_,λj hj=>?_,h.lv,h.lf,h.le,Nat.le_trans h.hb hf.size,h.vf,h.ve,h.fe⟩
 ·obtain ⟨x,hx⟩:=h.vt j hj;exact ⟨x,hf.cell hx n1⟩
 ·obtain ⟨x,hx⟩:=h.ft j hj;exact ⟨x,hf.cell hx n2⟩
 ·obtain ⟨r,h1,h2,h3,h4⟩:=h.fd j v f e;refine ⟨r,hf.cell h1 n2,?_,h3,h4⟩;obtain ⟨av,cap,q,g⟩:=h2;refine ⟨av,cap,q,λi hi=>?_⟩;obtain ⟨b2,off,q1,q2⟩:=g i hi;exact ⟨b2,off,q1,hf.cell q2 (old _ (zAV q2))⟩
 ·rw [hf.frozen (Nat.lt_of_lt_of_le h.lv hb) n1];exact h.zv j hj
 ·rw [hf.frozen (Nat.lt_of_lt_of_le h.lf hb) n2];exact h.zf j hj
 ·rw [hf.frozen (Nat.lt_of_lt_of_le h.le hb) n3];exact h.ze j hj
theorem HgS.below (h:HgS w B vb fb eb n S) (hb:Below w.heap.size w w'):HgS w' B vb fb eb n S:=h.fr (Fr.of_below [] hb) (by simp)
theorem HgS.set (h:HgS w B vb fb eb n S) {j:Nat} (hj:j<n) (v:Int) (f:List Int) (r:Value) (hr:RdZ w r f) (hp:Np r) (hg:∀ g,r.ownBlock=some g->B<=g) :
  HgS (((w.setCell ⟨eb,j,none⟩ (.bool true)).setCell ⟨vb,j,none⟩ (.int .i64 v)).setCell ⟨fb,j,none⟩ r) B vb fb eb n (S.set j (some (v,f))):=by
 have vf:=h.vf;have ve:=h.ve;have fe:=h.fe;have lv:=h.lv;have lf:=h.lf;have le:=h.le;have hjS:j<S.length:=by rw [h.len];exact hj
 have frA:Fr [eb,vb,fb] w (((w.setCell ⟨eb,j,none⟩ (.bool true)).setCell ⟨vb,j,none⟩ (.int .i64 v)).setCell ⟨fb,j,none⟩ r) :=
  ((Fr.of_grown (zAL _ _ _ _) (λk e=>by cases e;simp)).trans (Fr.of_grown (zAL _ _ _ _) (λk e=>by cases e;simp))).trans (Fr.of_grown (zAL _ _ _ _) (λk e=>by cases e;simp))
 have cE:∀ i,i ≠ j->(((w.setCell ⟨eb,j,none⟩ (.bool true)).setCell ⟨vb,j,none⟩ (.int .i64 v)).setCell ⟨fb,j,none⟩ r).cell? ⟨eb,i,none⟩=w.cell? ⟨eb,i,none⟩:=λi hi=>by
  rw [World.cell?_setCell_far _ _ _ _ (by exact fe),World.cell?_setCell_far _ _ _ _ (by exact ve),zAM _ _ _ (λe=>hi e.symm)]
 have cV:∀ i,i ≠ j->(((w.setCell ⟨eb,j,none⟩ (.bool true)).setCell ⟨vb,j,none⟩ (.int .i64 v)).setCell ⟨fb,j,none⟩ r).cell? ⟨vb,i,none⟩=w.cell? ⟨vb,i,none⟩:=λi hi=>by
  rw [World.cell?_setCell_far _ _ _ _ (by exact λe=>vf e.symm),zAM _ _ _ (λe=>hi e.symm),World.cell?_setCell_far _ _ _ _ (by exact λe=>ve e.symm)]
 have cF:∀ i,i ≠ j->(((w.setCell ⟨eb,j,none⟩ (.bool true)).setCell ⟨vb,j,none⟩ (.int .i64 v)).setCell ⟨fb,j,none⟩ r).cell? ⟨fb,i,none⟩=w.cell? ⟨fb,i,none⟩:=λi hi=>by
  rw [zAM _ _ _ (λe=>hi e.symm),World.cell?_setCell_far _ _ _ _ (by exact vf),World.cell?_setCell_far _ _ _ _ (by exact λe=>fe e.symm)]
 have jE:(((w.setCell ⟨eb,j,none⟩ (.bool true)).setCell ⟨vb,j,none⟩ (.int .i64 v)).setCell ⟨fb,j,none⟩ r).cell? ⟨eb,j,none⟩=some (.bool true):=by
  rw [World.cell?_setCell_far _ _ _ _ (by exact fe),World.cell?_setCell_far _ _ _ _ (by exact ve)];exact zAQ (h.bn j hj) _
 have jV:(((w.setCell ⟨eb,j,none⟩ (.bool true)).setCell ⟨vb,j,none⟩ (.int .i64 v)).setCell ⟨fb,j,none⟩ r).cell? ⟨vb,j,none⟩=some (.int .i64 v):=by
  obtain ⟨x,hx⟩:=h.vt j hj;rw [World.cell?_setCell_far _ _ _ _ (by exact λe=>vf e.symm)];exact zAQ (by rw [World.cell?_setCell_far _ _ _ _ (by exact λe=>ve e.symm)];exact hx) _
 have jF:(((w.setCell ⟨eb,j,none⟩ (.bool true)).setCell ⟨vb,j,none⟩ (.int .i64 v)).setCell ⟨fb,j,none⟩ r).cell? ⟨fb,j,none⟩=some r:=by
  obtain ⟨x,hx⟩:=h.ft j hj;exact zAQ (by rw [World.cell?_setCell_far _ _ _ _ (by exact vf),World.cell?_setCell_far _ _ _ _ (by exact λe=>fe e.symm)];exact hx) _
 refine ⟨by rw [List.length_set];exact h.len,λi hi=>?_,λi hi=>?_,λi u k e=>?_,λi hi=>?_,λi u k e=>?_,λi hi=>?_,λi hi=>?_,λi hi=>?_,lv,lf,le,Nat.le_trans h.hb frA.size,vf,ve,fe⟩
 ·rw [Wc.getD_set S j i _ hjS];by_cases q:j=i
  ·subst q;rw [if_pos rfl];exact jE
  ·rw [if_neg q,cE i (λe=>q e.symm)];exact h.bn i hi
 ·by_cases q:j=i
  ·subst q;exact ⟨v,jV⟩
  ·rw [cV i (λe=>q e.symm)];exact h.vt i hi
 ·rw [Wc.getD_set S j i _ hjS] at e;by_cases q:j=i
  ·subst q;rw [if_pos rfl] at e;cases e;exact jV
  ·rw [if_neg q] at e;rw [cV i (λe=>q e.symm)];exact h.vl i u k e
 ·by_cases q:j=i
  ·subst q;exact ⟨r,jF⟩
  ·rw [cF i (λe=>q e.symm)];exact h.ft i hi
 ·rw [Wc.getD_set S j i _ hjS] at e;have nt:∀ {x:Value},(∀ g,x.ownBlock=some g->B<=g)->∀ g,x.ownBlock=some g->g ∉ [eb,vb,fb]:=λhx g e2=>by have:=hx g e2;simp;omega
  by_cases q:j=i
  ·subst q;rw [if_pos rfl] at e;cases e
   exact ⟨r,jF,zCs hr frA (λ_=>nt hg),hp,hg⟩
  ·rw [if_neg q] at e;obtain ⟨x,h1,h2,h3,h4⟩:=h.fd i u k e;exact ⟨x,by rw [cF i (λe=>q e.symm)];exact h1,zCs h2 frA (λ_=>nt h4),h3,h4⟩
 ·rw [World.frozen?_setCell,World.frozen?_setCell,World.frozen?_setCell];exact h.zv i hi
 ·rw [World.frozen?_setCell,World.frozen?_setCell,World.frozen?_setCell];exact h.zf i hi
 ·rw [World.frozen?_setCell,World.frozen?_setCell,World.frozen?_setCell];exact h.ze i hi
def RInv (i:Nat) (S:Wc.RS):Prop:=∀ (j:Nat) (v:Int) (f:List Int),S.getD j none=some (v,f)->0<=v/\v<=(i:Int)/\f.length<=i
theorem RInv.mono (h:RInv i S) (hk:i<=k):RInv k S:=λj v f e=>by
 obtain ⟨a,b,c⟩:=h j v f e;exact ⟨a,by omega,by omega⟩
theorem RInv.set (h:RInv i S) (hj:j<S.length) {v:Int} {f:List Int} (h1:0<=v) (h2:v<=(i:Int)) (h3:f.length<=i):RInv i (S.set j (some (v,f))):=λk u g e=>by
 rw [Wc.getD_set S j k _ hj] at e;by_cases q:j=k
 ·rw [if_pos q] at e;cases e;exact ⟨h1,h2,h3⟩
 ·rw [if_neg q] at e;exact h k u g e
theorem zMK (n:Nat) (hn:0<n):RInv 0 (Wc.sR n):=λj v f e=>by
 unfold Wc.sR at e;rw [Wc.getD_set _ 0 j _ (by simpa using hn)] at e;split at e
 ·cases e;exact ⟨Int.le_refl _,Int.le_refl _,Nat.le_refl _⟩
 ·rw [List.getD_eq_getElem?_getD,List.getElem?_replicate] at e;split at e <;> cases e
theorem zIU (o a:Int) (f:List Int):(Wc.fldR o a f).length<=f.length+1:=by
 unfold Wc.fldR;split
 ·simp
 ·split
  ·simp;omega
  ·omega
def zBK (o:Int) (k m:Nat):Bool:=((o == 12 || o == 15) && k+1 == m) || (o == 14 && k == 0)
def ahF (y:Wc.In) (tl:List Int) (i:Nat) (v:Int) (f:List Int):List (Int × (Int × List Int)):=(Wc.ahd y.op y.a y.b tl i v (Wc.nds y.op y.b).2.2).map λp=>(p.1,(p.2,Wc.fldR y.op y.a f))
theorem zKc (o a b:Int) (tl:List Int) (i v dv v2 dv2:Int):(Wc.ahd o a b tl i v dv).map (·.1)=(Wc.ahd o a b tl i v2 dv2).map (·.1):=by
 unfold Wc.ahd;repeat' split
 all_goals simp [Function.comp_def]
theorem zFz (y:Wc.In) (tl:List Int) (i:Nat) (v:Int) (f:List Int):(ahF y tl i v f).map (·.1)=aP y tl i:=by
 unfold ahF aP;rw [List.map_map,<-zKc y.op y.a y.b tl i v (Wc.nds y.op y.b).2.2 0 0];rfl
theorem zC0 (y:Wc.In) (tl:List Int) (i:Nat) (v:Int) (f:List Int):(ahF y tl i v f).length=(aP y tl i).length:=by
 rw [<-zFz y tl i v f,List.length_map]
theorem zKx (o a b:Int) (tl:List Int) (i v dv:Int) (k:Nat) (hk:k<(Wc.ahd o a b tl i v dv).length):((Wc.ahd o a b tl i v dv)[k]).2=if zBK o k (Wc.ahd o a b tl i v dv).length=true then v else v+dv:=by
 by_cases h16:o=16
 ·subst h16;simp [Wc.ahd] at hk
 ·by_cases h12:o=12
  ·subst h12;have e:Wc.ahd 12 a b tl i v dv=[(i+1,v+dv),(a,v+dv),(b,v)]:=by simp [Wc.ahd]
   simp only [e] at hk ⊢;have:k=0 \/ k=1 \/ k=2:=by simp at hk;omega
   rcases this with rfl | rfl | rfl <;> simp [zBK]
  ·by_cases h13:o=13
   ·subst h13;have e:Wc.ahd 13 a b tl i v dv=[(a,v+dv)]:=by simp [Wc.ahd]
    simp only [e] at hk ⊢;have:k=0:=by simp at hk;omega
    subst this;simp [zBK]
   ·by_cases h14:o=14
    ·subst h14;have e:Wc.ahd 14 a b tl i v dv=[(a,v),(i+1,v+dv)]:=by simp [Wc.ahd]
     simp only [e] at hk ⊢;have:k=0 \/ k=1:=by simp at hk;omega
     rcases this with rfl | rfl <;> simp [zBK]
    ·by_cases h15:o=15
     ·subst h15;have e:Wc.ahd 15 a b tl i v dv=tl.map (λj=>(j,v+dv))++[(b,v)]:=by simp [Wc.ahd]
      simp only [e] at hk ⊢;simp only [List.length_append,List.length_map,List.length_cons,List.length_nil] at hk ⊢;by_cases hkl:k<tl.length
      ·rw [List.getElem_append_left (by simpa using hkl)];have:¬ (k+1=tl.length+0+1):=by omega
       simp [zBK];omega
      ·have:k=tl.length:=by omega
       subst this;rw [List.getElem_append_right (by simp)];simp [zBK]
     ·have e:Wc.ahd o a b tl i v dv=[(i+1,v+dv)]:=by simp [Wc.ahd,h16,h12,h13,h14,h15]
      simp only [e] at hk ⊢;have:k=0:=by simp at hk;omega
      subst this;simp [zBK,h12,h14,h15]
theorem zJ8 (y:Wc.In) (tl:List Int) (i:Nat) (v:Int) (f:List Int) (k:Nat) (hk:k<(aP y tl i).length):(ahF y tl i v f).drop k=((aP y tl i)[k],((if zBK y.op k (aP y tl i).length=true then v else v+(Wc.nds y.op y.b).2.2),Wc.fldR y.op y.a f))::(ahF y tl i v f).drop (k+1):=by
 have hl:k<(ahF y tl i v f).length:=by rw [zC0];exact hk
 rw [List.drop_eq_getElem_cons hl];congr 1
 have h1:((ahF y tl i v f)[k]).1=(aP y tl i)[k]:=by
  have e:=zFz y tl i v f;have:((ahF y tl i v f).map (·.1))[k]'(by rw [List.length_map];exact hl)=(aP y tl i)[k]:=by simp only [e]
  rw [<-this,List.getElem_map]
 have hl2:k<(Wc.ahd y.op y.a y.b tl i v (Wc.nds y.op y.b).2.2).length:=by simpa [ahF] using hl
 have h2:=zKx y.op y.a y.b tl i v (Wc.nds y.op y.b).2.2 k hl2;have hle:(Wc.ahd y.op y.a y.b tl i v (Wc.nds y.op y.b).2.2).length=(aP y tl i).length:=by rw [<-zC0 y tl i v f];simp [ahF]
 rw [hle] at h2;have h3:(ahF y tl i v f)[k]=(((Wc.ahd y.op y.a y.b tl i v (Wc.nds y.op y.b).2.2)[k]).1,(((Wc.ahd y.op y.a y.b tl i v (Wc.nds y.op y.b).2.2)[k]).2,Wc.fldR y.op y.a f)):=by simp [ahF]
 rw [h3] at h1 ⊢;simp only at h1;rw [h1,h2]
theorem zFM (hg:S.getD i none=some (v,f)) (hs:Wc.stand n i y.op y.b v f=true):Wc.stepR n i y.op y.a y.b tl S=Wc.handR n i (ahF y tl i v f) S:=by
 unfold Wc.stepR;rw [hg];simp only [hs,if_true];rfl
theorem zL3 {x:Wc.In} (h:rgt x tl=true):(x.op=5 \/ x.op=11->0<=x.b/\x.b<=1000)/\(∀ v:Int,(Wc.nds x.op x.b).1<=v->0<=v->0<=v+(Wc.nds x.op x.b).2.2)/\(Wc.nds x.op x.b).2.2<=1 /\ -1000<=(Wc.nds x.op x.b).2.2/\0<=(Wc.nds x.op x.b).1/\0<=(Wc.nds x.op x.b).2.1:=by
 have hs:=zKp h;have hb:x.op=5 \/ x.op=11->0<=x.b/\x.b<=1000:=by
  intro q;have e:(Wc.swO x.op x.b).1=x.b:=by rcases q with q | q <;> (rw [q];rfl)
  rw [e] at hs;exact ⟨hs.1,hs.2.1⟩
 refine ⟨hb,?_⟩;clear hs h;unfold Wc.nds;repeat' split
 all_goals first
  | (rename_i q;have:=hb q;refine ⟨λv _ _=>?_,?_,?_,?_,?_⟩ <;> simp only at * <;> omega)
  | (refine ⟨λv _ _=>?_,?_,?_,?_,?_⟩ <;> simp only at * <;> omega)
theorem zKb:(prog.info? 54).map (λi=>(i.zero,i.size,i.bytes))=some (some (.slice none 0 0),1,24):=by kernel_rfl
theorem zIl:(prog.info? 4).map (λi=>(i.zero,i.size,i.bytes))=some (some (.bool false),1,1):=by kernel_rfl
theorem zGf {w2:World} {T:TypeId} {z:Value} {cs:Array Value} (hz:cs=#[z]) (own:w2.ownsRow B T 1 (.slice (some ⟨k,0,none⟩) n n) n (madeCells cs (n * 1)).toList):k<w2.heap.size \/ n=0->(∀ j:Nat,j<n->w2.cell? ⟨k,j,none⟩=some z)/\(∀ j:Nat,j<n->w2.frozen? ⟨k,j,none⟩=false):=by
 intro _;have hcl:=own.cells (g:=k) rfl;refine ⟨λj hj=>?_,λj hj=>?_⟩
 ·have:=hcl j z (by subst hz;simp [madeCells,Nat.mod_one];exact ⟨j,by rw [List.getElem?_range (by omega)]⟩);rwa [show (⟨k,0,none⟩:Addr).add j=⟨k,j,none⟩ from by simp [Addr.add];intro h;exact h.symm] at this
 ·rcases own.2 with ⟨e,_⟩ | ⟨g,cap',cur,e,_,hg,_,_,hs,_⟩
  ·cases e
  ·simp only [Value.slice.injEq,Option.some.injEq,Addr.mk.injEq] at e;obtain ⟨⟨e1,-,-⟩,-,-⟩:=e;rw [<-e1] at hg;simp [World.frozen?,hg]
theorem zMv {w4:World} (hn:0<n) (v1:∀ j:Nat,j<n->w4.cell? ⟨vb,j,none⟩=some (.int .i64 0)) (v2:∀ j:Nat,j<n->w4.frozen? ⟨vb,j,none⟩=false) (f1:∀ j:Nat,j<n->w4.cell? ⟨fb,j,none⟩=some (.slice none 0 0)) (f2:∀ j:Nat,j<n->w4.frozen? ⟨fb,j,none⟩=false)
  (e1:∀ j:Nat,j<n->w4.cell? ⟨eb,j,none⟩=some (.bool false)) (e2:∀ j:Nat,j<n->w4.frozen? ⟨eb,j,none⟩=false) (h1:vb<fb) (h2:fb<eb) (h3:eb<w4.heap.size):HgS (w4.setCell ⟨eb,0,none⟩ (.bool true)) w4.heap.size vb fb eb n (Wc.sR n):=by
 have gd:∀ j:Nat,(Wc.sR n).getD j none=if 0=j then some ((0:Int),([]:List Int)) else none:=λj=>by
  unfold Wc.sR;rw [Wc.getD_set _ 0 j _ (by simpa using hn)];have e:(if j<n then some (none:Option (Int × List Int)) else none).getD none=none:=by split <;> rfl
  rw [List.getD_eq_getElem?_getD,List.getElem?_replicate,e]
 refine ⟨by simp [Wc.sR],λj hj=>?_,λj hj=>⟨0,?_⟩,λj v f e=>?_,λj hj=>⟨.slice none 0 0,?_⟩,λj v f e=>?_,λj hj=>?_,λj hj=>?_,λj hj=>?_,by omega,by omega,h3,by rw [show (w4.setCell ⟨eb,0,none⟩ (.bool true)).heap.size=w4.heap.size from by simp [World.setCell]];exact Nat.le_refl _,by omega,by omega,by omega⟩
 ·rw [gd j];by_cases q:0=j
  ·subst q;rw [if_pos rfl];exact zAQ (e1 0 hj) _
  ·rw [if_neg q,zAM _ _ _ q];exact e1 j hj
 ·rw [World.cell?_setCell_far _ _ _ _ (by show eb ≠ vb;omega)];exact v1 j hj
 ·have hj:j<n:=by have:=zGG e;simpa [Wc.sR] using this
  rw [gd j] at e;split at e
  ·cases e;rw [World.cell?_setCell_far _ _ _ _ (by show eb ≠ vb;omega)];exact v1 j hj
  ·cases e
 ·rw [World.cell?_setCell_far _ _ _ _ (by show eb ≠ fb;omega)];exact f1 j hj
 ·have hj:j<n:=by have:=zGG e;simpa [Wc.sR] using this
  rw [gd j] at e;split at e
  ·cases e;exact ⟨.slice none 0 0,by rw [World.cell?_setCell_far _ _ _ _ (by show eb ≠ fb;omega)];exact f1 j hj,RdZ.nil _,(λl c e=>by cases e;rfl),λg e=>by cases e⟩
  ·cases e
 ·rw [World.frozen?_setCell];exact v2 j hj
 ·rw [World.frozen?_setCell];exact f2 j hj
 ·rw [World.frozen?_setCell];exact e2 j hj
theorem zK1 (hn:L.length=n) (h0:0<n):Wc.chkR rgt L=((L[n - 1]'(by omega)).1.op == 16 && Wc.runR (Wc.srI rgt n) 0 L (Wc.sR n)):=by
 subst hn;have e:L.getLast? = some (L[L.length - 1]'(by omega)):=by
  rw [List.getLast?_eq_getElem?,List.getElem?_eq_getElem (by omega)]
 unfold Wc.chkR;rw [e]
def goR (n i:Nat) (r:List (Wc.In × List Int)) (P:List (Int × (Int × List Int))) (S:Wc.RS):Bool:=match Wc.handR n i P S with
 | none=>false
 | some S2=>Wc.runR (Wc.srI rgt n) (i+1) r S2
theorem zFa {j:Int} {P:List (Int × (Int × List Int))} (hj:j<=(i:Int) \/ (n:Int)<=j):goR n i r ((j,h)::P) S=false:=by
 unfold goR;simp only [Wc.handR,if_pos hj]
theorem zJc {P:List (Int × (Int × List Int))} (hj:¬ ((j:Int)<=(i:Int) \/ (n:Int)<=(j:Int))) (hg:S.getD j none=none):goR n i r (((j:Int),h)::P) S=goR n i r P (S.set j (some h)):=by
 unfold goR;simp only [Wc.handR,if_neg hj,Int.toNat_natCast,hg]
theorem zKe {P:List (Int × (Int × List Int))} (hj:¬ ((j:Int)<=(i:Int) \/ (n:Int)<=(j:Int))) (hg:S.getD j none=some h):goR n i r (((j:Int),h)::P) S=goR n i r P (S.set j (some h)):=by
 unfold goR;simp only [Wc.handR,if_neg hj,Int.toNat_natCast,hg,if_true]
theorem zGZ {g:Int × List Int} {P:List (Int × (Int × List Int))} (hj:¬ ((j:Int)<=(i:Int) \/ (n:Int)<=(j:Int))) (hg:S.getD j none=some g) (hne:g ≠ h):goR n i r (((j:Int),h)::P) S=false:=by
 unfold goR;simp only [Wc.handR,if_neg hj,Int.toNat_natCast,hg,if_neg hne]
theorem zJD (hg:S.getD i none=none):Wc.runR (Wc.srI rgt n) i ((y,tl)::r) S=false:=by
 have e:Wc.srI rgt n i (y,tl) S=none:=by
  unfold Wc.srI Wc.stepR;rw [hg];split <;> rfl
 simp only [Wc.runR,e]
theorem zKR (hr:rgt y tl=false):Wc.runR (Wc.srI rgt n) i ((y,tl)::r) S=false:=by
 have e:Wc.srI rgt n i (y,tl) S=none:=by
  unfold Wc.srI;simp [hr]
 simp only [Wc.runR,e]
theorem zBI (hg:S.getD i none=some (v,f)) (hs:¬ Wc.stand n i y.op y.b v f=true):Wc.runR (Wc.srI rgt n) i ((y,tl)::r) S=false:=by
 have e:Wc.srI rgt n i (y,tl) S=none:=by
  unfold Wc.srI Wc.stepR;rw [hg];simp only [if_neg hs];split <;> rfl
 simp only [Wc.runR,e]
theorem zJV (hr:rgt y tl=true) (hg:S.getD i none=some (v,f)) (hs:Wc.stand n i y.op y.b v f=true):Wc.runR (Wc.srI rgt n) i ((y,tl)::r) S=goR n i r (ahF y tl i v f) S:=by
 have e:Wc.srI rgt n i (y,tl) S=Wc.handR n i (ahF y tl i v f) S:=by
  unfold Wc.srI;rw [if_pos hr];exact zFM hg hs
 simp only [Wc.runR,e];rfl
theorem stand_iff {b:Int}:Wc.stand n i o b v f=true ↔ ¬(o=16/\i+1<n)/\(Wc.nds o b).1<=v/\(Wc.nds o b).2.1<=f.length/\(o=16->v=1/\f.length=0)/\(o=8 \/ o=9->Wc.pairs (f.getLastD 0)=decide (o=9)):=by
 unfold Wc.stand;rw [decide_eq_true_eq]
theorem zGh (y:Wc.In) (tl:List Int) (i:Int):(aP y tl i).length<=tl.length+3:=by
 unfold aP Wc.ahd;repeat' split
 all_goals simp
theorem zDL {off:Nat} (h:RdZ w (.slice (some ⟨g,off,none⟩) f.length c) f) (hf:0<f.length):w.cell? ⟨g,off+(f.length - 1),none⟩=some (.int .i64 (f.getLastD 0)):=by
 obtain ⟨a,c2,e,k⟩:=h;obtain ⟨b,o,e2,h3⟩:=k (f.length - 1) (by omega);simp only [Value.slice.injEq] at e;rw [<-e.1] at e2;cases e2
 rw [h3];congr 2
 rw [List.getLastD_eq_getLast?,List.getLast?_eq_getElem?,List.getElem?_eq_getElem (by omega)];rfl
theorem zBo {r:Value} (h:RdZ w r f):∃ av c,r=.slice av f.length c/\(0<f.length->∃ g off,av=some ⟨g,off,none⟩):=by
 obtain ⟨a,c,e,k⟩:=h;refine ⟨a,c,e,λh0=>?_⟩;obtain ⟨b,o,e2,_⟩:=k 0 h0;exact ⟨b,o,e2⟩
theorem zK4 {m:Nat} (hk:k<m):((o == 12)=true/\(o == 15)=false/\(o == 14)=false/\(((k:Int) == (m:Int) - 1)=true/\zBK o k m=true \/ ((k:Int) == (m:Int) - 1)=false/\zBK o k m=false)) \/
  ((o == 12)=false/\(o == 15)=true/\(o == 14)=false/\(((k:Int) == (m:Int) - 1)=true/\zBK o k m=true \/ ((k:Int) == (m:Int) - 1)=false/\zBK o k m=false)) \/
  ((o == 12)=false/\(o == 15)=false/\(o == 14)=true/\(((k:Int) == 0)=true/\zBK o k m=true \/ ((k:Int) == 0)=false/\zBK o k m=false)) \/
  ((o == 12)=false/\(o == 15)=false/\(o == 14)=false/\zBK o k m=false):=by
 have hm:((k:Int) == (m:Int) - 1)=(k+1 == m):=by rw [Bool.eq_iff_iff,beq_iff_eq,beq_iff_eq];omega
 have h0:((k:Int) == 0)=(k == 0):=by rw [Bool.eq_iff_iff,beq_iff_eq,beq_iff_eq];omega
 rw [hm,h0];unfold zBK;by_cases h12:o=12
 ·subst h12;left;cases (k+1 == m) <;> simp
 ·by_cases h15:o=15
  ·subst h15;right;left;cases (k+1 == m) <;> simp
  ·by_cases h14:o=14
   ·subst h14;right;right;left;cases (k == 0) <;> simp
   ·right;right;right;simp [h12,h15,h14]
