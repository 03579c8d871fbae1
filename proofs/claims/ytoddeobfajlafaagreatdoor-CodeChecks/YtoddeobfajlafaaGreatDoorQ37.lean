/- KRdc, KAbF, KHgtP, KHgtQ, KNeeds. -/
import Derived.Test.YtoddeobfajlafaaGreatDoorQ36
set_option maxHeartbeats 4000000
set_option maxRecDepth 100000
namespace Go.Proofs.YtoddeobfajlafaaGreatDoor
open Tryz
open Go.RowKit Wf
set_option linter.unusedVariables false
variable {n i B j vb fb eb k:Nat} {S:Wc.RS} {w w':World} {r:List (Wc.In × List Int)} {tl f:List Int} {y:Wc.In} {v o:Int} {h:Int × List Int} {P:List (Int × (Int × List Int))} {ops:Array Oper} {rest:List Oper} {op:Oper} {a:Act} {Q:Exit->Act->World->Prop}
theorem zM2 {lv:Value} {P:List (Wc.In × Value)} {C:List I} (h:OwnI w B lv P) (hl:P.length=C.length) (hi:∀ i (h:i<P.length) (h':i<C.length),(P[i]).1=(C[i]).1/\OwnZ w B (P[i]).2 (C[i]).2):RdC w lv C:=by
 rcases h.2 with ⟨e,h0⟩ | ⟨G,cap,cur,e,hb,hg,r⟩
 ·subst e;refine ⟨none,0,by rw [<-hl,h0],λi hi=>?_⟩;omega
 ·subst e;refine ⟨some ⟨G,0,none⟩,cap,by rw [<-hl],λi hi2=>?_⟩;have hi3:i<P.length:=by omega
  have c:=OwnI.cell h (i:=i) hi3;obtain ⟨q1,q2⟩:=hi i hi3 hi2;have rz:=q2.rd;rcases q2.2 with ⟨e2,h2⟩ | ⟨G2,cap2,cur2,e2,_⟩
  ·rw [q1,e2] at c;rw [e2] at rz;exact ⟨G,0,none,0,0,rfl,by rw [Nat.zero_add];exact c,rz,λ_=>rfl⟩
  ·rw [q1,e2] at c;rw [e2] at rz;exact ⟨G,0,_,_,_,rfl,by rw [Nat.zero_add];exact c,rz,λh=>by cases h⟩
def ndL:Wt.Nd:=⟨2,Wt.v0,0,⟨#[]⟩,0,Wt.r0,Wt.r0⟩
def trL:Tr 1:=(⟨ndL,[]⟩:Br (Tr 0))
def nmL:List ByteArray:=[⟨#[83]⟩]
theorem zNS:row 1 trL=[ndL]:=rfl
theorem zKk:zDJ 1 trL:=⟨by kernel_rfl,by kernel_rfl,λk hk=>by cases hk⟩
theorem zGx:Wt.check [ndL]=0:=by kernel_rfl
theorem zOG:∀ x ∈ [ndL],Wt.FitN x:=by
 intro x hx;simp only [List.mem_cons,List.not_mem_nil,or_false] at hx;subst hx;unfold Wt.FitN Wt.FitV;decide
theorem zQ2:flE 0 3 0 nmL 1 trL=0:=by kernel_rfl
theorem zPy:flC 0 nmL 1 trL=[ins 2 0 0,ins 16 0 0]:=by kernel_rfl
theorem zMy:Wc.chkP rgt [ins 2 0 0,ins 16 0 0]=true:=by kernel_rfl
theorem zLm:(usA [ins 2 0 0,ins 16 0 0]).length=1:=by kernel_rfl
theorem zHI:∀ x ∈ [ins 2 0 0,ins 16 0 0],x.2.length<=1000000/\Wt.FitV x.1.v:=by
 intro x hx;simp only [List.mem_cons,List.not_mem_nil,or_false] at hx;rcases hx with rfl | rfl
 ·exact ⟨by simp [ins],by unfold Wt.FitV;decide⟩
 ·exact ⟨by simp [ins],by unfold Wt.FitV;decide⟩
theorem zR4 (w:World):(Instr.build 35 #[(0,.int .i64 2)]).run prog w=.ok (.agg (zAO ndL).toArray) w:=by kernel_rfl
theorem zEr (hgd:op.guard=none) (ho:op.op=.build 35 #[(0,.const (.int .i64 2))])
  (h:wpList prog ops Q rest (a.put op.dst (.agg (zAO ndL).toArray)) w):wpList prog ops Q (op::rest) a w:=by
 refine wpList_plain hgd λK hK=>?_
 unfold Oper.wp execOp;simp only [ho,List.map_toArray,List.map_cons,List.map_nil,Act.eval,Sem.run_bind,Sem.run_pure,Result.andThen_ok,zR4];exact hK _ _ h
theorem zRT (x:Wt.Nd) (w:World):(Instr.buildSlice 22 1 #[(0,.agg (zAO x).toArray)]).run prog w=.ok (.slice (some ⟨w.heap.size,0,none⟩) 1 1) (w.alloc (.cells (zAO x).toArray 35)):=by kernel_rfl
theorem zFD (hgd:op.guard=none) (y:Operand) (ho:op.op=.buildSlice 22 1 #[(0,y)]) (x:Wt.Nd) (hy:a.eval y=.agg (zAO x).toArray)
  (h:wpList prog ops Q rest (a.put op.dst (.slice (some ⟨w.heap.size,0,none⟩) 1 1)) (w.alloc (.cells (zAO x).toArray 35))):wpList prog ops Q (op::rest) a w:=by
 refine wpList_plain hgd λK hK=>?_
 unfold Oper.wp execOp;simp only [ho,List.map_toArray,List.map_cons,List.map_nil,hy,Sem.run_bind,Sem.run_pure,Result.andThen_ok,zRT];exact hK _ _ h
theorem zKg (w:World) (hN:NmAt w) (hO:OpsAt w):CR 6 #[] w (.bool true):=by
 have hb0:=zAJ (zAJ (Below.refl _ w) (.cells (zAO ndL).toArray 35)) (.cells #[.string ⟨#[83]⟩] 9);have rN:((w.alloc (.cells (zAO ndL).toArray 35)).alloc (.cells #[.string ⟨#[83]⟩] 9)).rangeAt w.heap.size 0 (zAO ndL):=((AtL.new0 w 35 (zAO ndL)).alloc _).range;have rS:((w.alloc (.cells (zAO ndL).toArray 35)).alloc (.cells #[.string ⟨#[83]⟩] 9)).cell? ⟨w.heap.size+1,0,none⟩=some (.string ⟨#[83]⟩):=(AtL.new1 w (.cells (zAO ndL).toArray 35) 9 [.string ⟨#[83]⟩]).2.1 0 _ rfl;have hRN:RdN ((w.alloc (.cells (zAO ndL).toArray 35)).alloc (.cells #[.string ⟨#[83]⟩] 9)) (some ⟨w.heap.size,0,none⟩) [ndL]:=λi hi=>by
  have hi0:i=0:=by simp at hi;omega
  subst hi0;exact ⟨w.heap.size,0,rfl,rN⟩
 have hRS:RdS ((w.alloc (.cells (zAO ndL).toArray 35)).alloc (.cells #[.string ⟨#[83]⟩] 9)) (some ⟨w.heap.size+1,0,none⟩) nmL:=λi hi=>by
  have hi0:i=0:=by simp [nmL] at hi;omega
  subst hi0;exact ⟨w.heap.size+1,0,rfl,rS⟩
 have FL:=zKT 1 trL w.heap.size 0 1 [ndL] 0 3 0 (some ⟨w.heap.size+1,0,none⟩) nmL 1 1 _ zOG (hO.below hb0) (hN.below hb0) hRN hRS zGx zNS zKk (by simp) (by simp) 1 rfl rfl (Nat.le_refl _) (by simp [nmL]) (by omega);rw [zQ2,zPy] at FL;have HN:Hid (NmAt w):=hN;clear rN rS hRN hRS hN hO;go_enter func6,ntmps6;go_wp2_with (first | (refine zEr rfl rfl ?_) | (refine zFD rfl (.tmp 4) rfl ndL rfl ?_))
 refine FL.mono ?_;rintro e w1 ⟨hq,hb1⟩;rcases hq with ⟨hq,_⟩ | ⟨_,lv,P,rfl,own,hl,hin,_⟩
 ·exact absurd rfl hq
 have hB1:=zAB hb0 hb1;have rc:=zM2 own hl hin;have CK:=zCr _ lv w1 rc (by simp) zHI (HN.out.below hB1);rw [zMy,if_pos rfl] at CK;have HUS:Hid (∀ W:World,Below w1.heap.size w1 W->Calls prog 16 #[lv] W λe w'=>(∃ r B,e=.returned r/\OwnA w' B r (usA [ins 2 0 0,ins 16 0 0])/\W.heap.size<=B)/\Below W.heap.size W w'):=λW hb=>zJN _ lv W (rc.below hb) (by simp) zHI (HN.out.below (zAB hB1 hb))
 obtain ⟨av,cap,e0,rr⟩:=rc;obtain ⟨G,off,p0,m0,k0,e1,r0,_,_⟩:=rr 0 (by simp);obtain ⟨G',off',p1,m1,k1,e2,r1,_,_⟩:=rr 1 (by simp);subst e0;rw [e1] at e2;cases e2
 subst e1;have c0:w1.cell? ⟨G,off+0 * 23,none⟩=some (.int .i64 2):=r0 0 _ rfl;have c1:w1.cell? ⟨G,off+1 * 23,none⟩=some (.int .i64 16):=r1 0 _ rfl;rw [Nat.zero_mul,Nat.add_zero] at c0;rw [Nat.one_mul] at c1;clear FL hb0 own hl hin hb1 r0 r1 rr;go_wp2_with fail
 refine CK.mono ?_;rintro e w2 ⟨rfl,hb2⟩;have US:=HUS.out w2 hb2;have hB2:=zAB hB1 hb2;clear CK HUS c0 c1 hb2 hB1;go_wp2_with fail
 refine US.mono ?_;rintro e w3 ⟨⟨r,B,rfl,ho,_⟩,hb3⟩;have hB3:=zAB hB2 hb3;have hr:∃ av c,r=.slice av 1 c:=by
  rcases ho.2 with ⟨_,q⟩ | ⟨g,c,cur,q,_⟩
  ·rw [zLm] at q;cases q
  ·rw [zLm] at q;exact ⟨_,_,q⟩
 obtain ⟨av,c,rfl⟩:=hr;clear US ho hb3 hB2;go_wp2;go_ret;exact ⟨rfl,hB3⟩
open Go.RowKit
structure HgS (w:World) (B vb fb eb n:Nat) (S:Wc.RS):Prop where
 len:S.length=n
 bn:∀ j:Nat,j<n->w.cell? ⟨eb,j,none⟩=some (.bool (S.getD j none).isSome)
 vt:∀ j:Nat,j<n->∃ x:Int,w.cell? ⟨vb,j,none⟩=some (.int .i64 x)
 vl:∀ (j:Nat) (v:Int) (f:List Int),S.getD j none=some (v,f)->w.cell? ⟨vb,j,none⟩=some (.int .i64 v)
 ft:∀ j:Nat,j<n->∃ r,w.cell? ⟨fb,j,none⟩=some r
 fd:∀ (j:Nat) (v:Int) (f:List Int),S.getD j none=some (v,f)->∃ r,w.cell? ⟨fb,j,none⟩=some r/\RdZ w r f/\Np r/\(∀ g,r.ownBlock=some g->B<=g)
 zv:∀ j:Nat,j<n->w.frozen? ⟨vb,j,none⟩=false
 zf:∀ j:Nat,j<n->w.frozen? ⟨fb,j,none⟩=false
 ze:∀ j:Nat,j<n->w.frozen? ⟨eb,j,none⟩=false
 lv:vb<B
 lf:fb<B
 le:eb<B
 hb:B<=w.heap.size
 vf:vb ≠ fb
 ve:vb ≠ eb
 fe:fb ≠ eb
theorem zIJ {α:Type} {S:List (Option α)} {x:α} (h:S.getD j none=some x):j<S.length:=by
 rcases Nat.lt_or_ge j S.length with q | q
 ·exact q
 ·rw [List.getD_eq_getElem?_getD,List.getElem?_eq_none q] at h;cases h
theorem HgS.fr {T:List Nat} (h:HgS w B vb fb eb n S) (hf:Fr T w w') (ht:∀ k ∈ T,w.heap.size<=k):HgS w' B vb fb eb n S:=by
 have old:∀ k,k<w.heap.size->k ∉ T:=λk hk hm=>absurd (ht k hm) (Nat.not_le.2 hk)
 have hb:=h.hb;have n1:=old vb (Nat.lt_of_lt_of_le h.lv hb);have n2:=old fb (Nat.lt_of_lt_of_le h.lf hb);have n3:=old eb (Nat.lt_of_lt_of_le h.le hb);refine ⟨h.len,λj hj=>hf.cell (h.bn j hj) n3,λj hj=>?_,λj v f e=>hf.cell (h.vl j v f e) n1,λj hj=>?_,λj v f e=>?_,λj hj=>?_,λj hj=>?_,λj hj=>?_,h.lv,h.lf,h.le,Nat.le_trans h.hb hf.size,h.vf,h.ve,h.fe⟩
 ·obtain ⟨x,hx⟩:=h.vt j hj;exact ⟨x,hf.cell hx n1⟩
 ·obtain ⟨x,hx⟩:=h.ft j hj;exact ⟨x,hf.cell hx n2⟩
 ·obtain ⟨r,h1,h2,h3,h4⟩:=h.fd j v f e;refine ⟨r,hf.cell h1 n2,?_,h3,h4⟩;obtain ⟨av,cap,q,g⟩:=h2;refine ⟨av,cap,q,λi hi=>?_⟩;obtain ⟨b2,off,q1,q2⟩:=g i hi;exact ⟨b2,off,q1,hf.cell q2 (old _ (zA0 q2))⟩
 ·rw [hf.frozen (Nat.lt_of_lt_of_le h.lv hb) n1];exact h.zv j hj
 ·rw [hf.frozen (Nat.lt_of_lt_of_le h.lf hb) n2];exact h.zf j hj
 ·rw [hf.frozen (Nat.lt_of_lt_of_le h.le hb) n3];exact h.ze j hj
theorem HgS.below (h:HgS w B vb fb eb n S) (hb:Below w.heap.size w w'):HgS w' B vb fb eb n S:=h.fr (Fr.of_below [] hb) (by simp)
theorem HgS.set (h:HgS w B vb fb eb n S) {j:Nat} (hj:j<n) (v:Int) (f:List Int) (r:Value) (hr:RdZ w r f) (hp:Np r) (hg:∀ g,r.ownBlock=some g->B<=g) :
  HgS (((w.setCell ⟨eb,j,none⟩ (.bool true)).setCell ⟨vb,j,none⟩ (.int .i64 v)).setCell ⟨fb,j,none⟩ r) B vb fb eb n (S.set j (some (v,f))):=by
 have vf:=h.vf;have ve:=h.ve;have fe:=h.fe;have lv:=h.lv;have lf:=h.lf;have le:=h.le;have hjS:j<S.length:=by rw [h.len];exact hj
 have frA:Fr [eb,vb,fb] w (((w.setCell ⟨eb,j,none⟩ (.bool true)).setCell ⟨vb,j,none⟩ (.int .i64 v)).setCell ⟨fb,j,none⟩ r) :=
  ((Fr.of_grown (zAM _ _ _ _) (λk e=>by cases e;simp)).trans (Fr.of_grown (zAM _ _ _ _) (λk e=>by cases e;simp))).trans (Fr.of_grown (zAM _ _ _ _) (λk e=>by cases e;simp))
 have cE:∀ i,i ≠ j->(((w.setCell ⟨eb,j,none⟩ (.bool true)).setCell ⟨vb,j,none⟩ (.int .i64 v)).setCell ⟨fb,j,none⟩ r).cell? ⟨eb,i,none⟩=w.cell? ⟨eb,i,none⟩:=λi hi=>by
  rw [World.cell?_setCell_far _ _ _ _ (by exact fe),World.cell?_setCell_far _ _ _ _ (by exact ve),zAS _ _ _ (λe=>hi e.symm)]
 have cV:∀ i,i ≠ j->(((w.setCell ⟨eb,j,none⟩ (.bool true)).setCell ⟨vb,j,none⟩ (.int .i64 v)).setCell ⟨fb,j,none⟩ r).cell? ⟨vb,i,none⟩=w.cell? ⟨vb,i,none⟩:=λi hi=>by
  rw [World.cell?_setCell_far _ _ _ _ (by exact λe=>vf e.symm),zAS _ _ _ (λe=>hi e.symm),World.cell?_setCell_far _ _ _ _ (by exact λe=>ve e.symm)]
 have cF:∀ i,i ≠ j->(((w.setCell ⟨eb,j,none⟩ (.bool true)).setCell ⟨vb,j,none⟩ (.int .i64 v)).setCell ⟨fb,j,none⟩ r).cell? ⟨fb,i,none⟩=w.cell? ⟨fb,i,none⟩:=λi hi=>by
  rw [zAS _ _ _ (λe=>hi e.symm),World.cell?_setCell_far _ _ _ _ (by exact vf),World.cell?_setCell_far _ _ _ _ (by exact λe=>fe e.symm)]
 have jE:(((w.setCell ⟨eb,j,none⟩ (.bool true)).setCell ⟨vb,j,none⟩ (.int .i64 v)).setCell ⟨fb,j,none⟩ r).cell? ⟨eb,j,none⟩=some (.bool true):=by
  rw [World.cell?_setCell_far _ _ _ _ (by exact fe),World.cell?_setCell_far _ _ _ _ (by exact ve)];exact zAX (h.bn j hj) _
 have jV:(((w.setCell ⟨eb,j,none⟩ (.bool true)).setCell ⟨vb,j,none⟩ (.int .i64 v)).setCell ⟨fb,j,none⟩ r).cell? ⟨vb,j,none⟩=some (.int .i64 v):=by
  obtain ⟨x,hx⟩:=h.vt j hj;rw [World.cell?_setCell_far _ _ _ _ (by exact λe=>vf e.symm)];exact zAX (by rw [World.cell?_setCell_far _ _ _ _ (by exact λe=>ve e.symm)];exact hx) _
 have jF:(((w.setCell ⟨eb,j,none⟩ (.bool true)).setCell ⟨vb,j,none⟩ (.int .i64 v)).setCell ⟨fb,j,none⟩ r).cell? ⟨fb,j,none⟩=some r:=by
  obtain ⟨x,hx⟩:=h.ft j hj;exact zAX (by rw [World.cell?_setCell_far _ _ _ _ (by exact vf),World.cell?_setCell_far _ _ _ _ (by exact λe=>fe e.symm)];exact hx) _
 refine ⟨by rw [List.length_set];exact h.len,λi hi=>?_,λi hi=>?_,λi u k e=>?_,λi hi=>?_,λi u k e=>?_,λi hi=>?_,λi hi=>?_,λi hi=>?_,lv,lf,le,Nat.le_trans h.hb frA.size,vf,ve,fe⟩
 ·rw [Wc.getD_set S j i _ hjS];by_cases q:j=i
  ·subst q;rw [if_pos rfl];exact jE
  ·rw [if_neg q,cE i (λe=>q e.symm)];exact h.bn i hi
 ·by_cases q:j=i
  ·subst q;exact ⟨v,jV⟩
  ·rw [cV i (λe=>q e.symm)];exact h.vt i hi
 ·rw [Wc.getD_set S j i _ hjS] at e;by_cases q:j=i
  ·subst q;rw [if_pos rfl] at e;cases e;exact jV
  ·rw [if_neg q] at e;rw [cV i (λe=>q e.symm)];exact h.vl i u k e
 ·by_cases q:j=i
  ·subst q;exact ⟨r,jF⟩
  ·rw [cF i (λe=>q e.symm)];exact h.ft i hi
 ·rw [Wc.getD_set S j i _ hjS] at e;have nt:∀ {x:Value},(∀ g,x.ownBlock=some g->B<=g)->∀ g,x.ownBlock=some g->g ∉ [eb,vb,fb]:=λhx g e2=>by have:=hx g e2;simp;omega
  by_cases q:j=i
  ·subst q;rw [if_pos rfl] at e;cases e
   exact ⟨r,jF,zD1 hr frA (λ_=>nt hg),hp,hg⟩
  ·rw [if_neg q] at e;obtain ⟨x,h1,h2,h3,h4⟩:=h.fd i u k e;exact ⟨x,by rw [cF i (λe=>q e.symm)];exact h1,zD1 h2 frA (λ_=>nt h4),h3,h4⟩
 ·rw [World.frozen?_setCell,World.frozen?_setCell,World.frozen?_setCell];exact h.zv i hi
 ·rw [World.frozen?_setCell,World.frozen?_setCell,World.frozen?_setCell];exact h.zf i hi
 ·rw [World.frozen?_setCell,World.frozen?_setCell,World.frozen?_setCell];exact h.ze i hi
def RInv (i:Nat) (S:Wc.RS):Prop:=∀ (j:Nat) (v:Int) (f:List Int),S.getD j none=some (v,f)->0<=v/\v<=(i:Int)/\f.length<=i
theorem RInv.mono (h:RInv i S) (hk:i<=k):RInv k S:=λj v f e=>by
 obtain ⟨a,b,c⟩:=h j v f e;exact ⟨a,by omega,by omega⟩
theorem RInv.set (h:RInv i S) (hj:j<S.length) {v:Int} {f:List Int} (h1:0<=v) (h2:v<=(i:Int)) (h3:f.length<=i):RInv i (S.set j (some (v,f))):=λk u g e=>by
 rw [Wc.getD_set S j k _ hj] at e;by_cases q:j=k
 ·rw [if_pos q] at e;cases e;exact ⟨h1,h2,h3⟩
 ·rw [if_neg q] at e;exact h k u g e
theorem zQP (n:Nat) (hn:0<n):RInv 0 (Wc.sR n):=λj v f e=>by
 unfold Wc.sR at e;rw [Wc.getD_set _ 0 j _ (by simpa using hn)] at e;split at e
 ·cases e;exact ⟨Int.le_refl _,Int.le_refl _,Nat.le_refl _⟩
 ·rw [List.getD_eq_getElem?_getD,List.getElem?_replicate] at e;split at e <;> cases e
theorem zJd (o a:Int) (f:List Int):(Wc.fldR o a f).length<=f.length+1:=by
 unfold Wc.fldR;split
 ·simp
 ·split
  ·simp;omega
  ·omega
def zB5 (o:Int) (k m:Nat):Bool:=((o == 12 || o == 15) && k+1 == m) || (o == 14 && k == 0)
def ahF (y:Wc.In) (tl:List Int) (i:Nat) (v:Int) (f:List Int):List (Int × (Int × List Int)):=(Wc.ahd y.op y.a y.b tl i v (Wc.nds y.op y.b).2.2).map λp=>(p.1,(p.2,Wc.fldR y.op y.a f))
theorem zMQ (o a b:Int) (tl:List Int) (i v dv v2 dv2:Int):(Wc.ahd o a b tl i v dv).map (·.1)=(Wc.ahd o a b tl i v2 dv2).map (·.1):=by
 unfold Wc.ahd;repeat' split
 all_goals simp [Function.comp_def]
theorem zHP (y:Wc.In) (tl:List Int) (i:Nat) (v:Int) (f:List Int):(ahF y tl i v f).map (·.1)=aP y tl i:=by
 unfold ahF aP;rw [List.map_map,<-zMQ y.op y.a y.b tl i v (Wc.nds y.op y.b).2.2 0 0];rfl
theorem zDE (y:Wc.In) (tl:List Int) (i:Nat) (v:Int) (f:List Int):(ahF y tl i v f).length=(aP y tl i).length:=by
 rw [<-zHP y tl i v f,List.length_map]
theorem zMq (o a b:Int) (tl:List Int) (i v dv:Int) (k:Nat) (hk:k<(Wc.ahd o a b tl i v dv).length):((Wc.ahd o a b tl i v dv)[k]).2=if zB5 o k (Wc.ahd o a b tl i v dv).length=true then v else v+dv:=by
 by_cases h16:o=16
 ·subst h16;simp [Wc.ahd] at hk
 ·by_cases h12:o=12
  ·subst h12;have e:Wc.ahd 12 a b tl i v dv=[(i+1,v+dv),(a,v+dv),(b,v)]:=by simp [Wc.ahd]
   simp only [e] at hk ⊢;have:k=0 \/ k=1 \/ k=2:=by simp at hk;omega
   rcases this with rfl | rfl | rfl <;> simp [zB5]
  ·by_cases h13:o=13
   ·subst h13;have e:Wc.ahd 13 a b tl i v dv=[(a,v+dv)]:=by simp [Wc.ahd]
    simp only [e] at hk ⊢;have:k=0:=by simp at hk;omega
    subst this;simp [zB5]
   ·by_cases h14:o=14
    ·subst h14;have e:Wc.ahd 14 a b tl i v dv=[(a,v),(i+1,v+dv)]:=by simp [Wc.ahd]
     simp only [e] at hk ⊢;have:k=0 \/ k=1:=by simp at hk;omega
     rcases this with rfl | rfl <;> simp [zB5]
    ·by_cases h15:o=15
     ·subst h15;have e:Wc.ahd 15 a b tl i v dv=tl.map (λj=>(j,v+dv))++[(b,v)]:=by simp [Wc.ahd]
      simp only [e] at hk ⊢;simp only [List.length_append,List.length_map,List.length_cons,List.length_nil] at hk ⊢;by_cases hkl:k<tl.length
      ·rw [List.getElem_append_left (by simpa using hkl)];have:¬ (k+1=tl.length+0+1):=by omega
       simp [zB5];omega
      ·have:k=tl.length:=by omega
       subst this;rw [List.getElem_append_right (by simp)];simp [zB5]
     ·have e:Wc.ahd o a b tl i v dv=[(i+1,v+dv)]:=by simp [Wc.ahd,h16,h12,h13,h14,h15]
      simp only [e] at hk ⊢;have:k=0:=by simp at hk;omega
      subst this;simp [zB5,h12,h14,h15]
theorem zLr (y:Wc.In) (tl:List Int) (i:Nat) (v:Int) (f:List Int) (k:Nat) (hk:k<(aP y tl i).length):(ahF y tl i v f).drop k=((aP y tl i)[k],((if zB5 y.op k (aP y tl i).length=true then v else v+(Wc.nds y.op y.b).2.2),Wc.fldR y.op y.a f))::(ahF y tl i v f).drop (k+1):=by
 have hl:k<(ahF y tl i v f).length:=by rw [zDE];exact hk
 rw [List.drop_eq_getElem_cons hl];congr 1
 have h1:((ahF y tl i v f)[k]).1=(aP y tl i)[k]:=by
  have e:=zHP y tl i v f;have:((ahF y tl i v f).map (·.1))[k]'(by rw [List.length_map];exact hl)=(aP y tl i)[k]:=by simp only [e]
  rw [<-this,List.getElem_map]
 have hl2:k<(Wc.ahd y.op y.a y.b tl i v (Wc.nds y.op y.b).2.2).length:=by simpa [ahF] using hl
 have h2:=zMq y.op y.a y.b tl i v (Wc.nds y.op y.b).2.2 k hl2;have hle:(Wc.ahd y.op y.a y.b tl i v (Wc.nds y.op y.b).2.2).length=(aP y tl i).length:=by rw [<-zDE y tl i v f];simp [ahF]
 rw [hle] at h2;have h3:(ahF y tl i v f)[k]=(((Wc.ahd y.op y.a y.b tl i v (Wc.nds y.op y.b).2.2)[k]).1,(((Wc.ahd y.op y.a y.b tl i v (Wc.nds y.op y.b).2.2)[k]).2,Wc.fldR y.op y.a f)):=by simp [ahF]
 rw [h3] at h1 ⊢;simp only at h1;rw [h1,h2]
theorem zGS (hg:S.getD i none=some (v,f)) (hs:Wc.stand n i y.op y.b v f=true):Wc.stepR n i y.op y.a y.b tl S=Wc.handR n i (ahF y tl i v f) S:=by
 unfold Wc.stepR;rw [hg];simp only [hs,if_true];rfl
theorem zPE {x:Wc.In} (h:rgt x tl=true):(x.op=5 \/ x.op=11->0<=x.b/\x.b<=1000)/\(∀ v:Int,(Wc.nds x.op x.b).1<=v->0<=v->0<=v+(Wc.nds x.op x.b).2.2)/\(Wc.nds x.op x.b).2.2<=1 /\ -1000<=(Wc.nds x.op x.b).2.2/\0<=(Wc.nds x.op x.b).1/\0<=(Wc.nds x.op x.b).2.1:=by
 have hs:=zMm h;have hb:x.op=5 \/ x.op=11->0<=x.b/\x.b<=1000:=by
  intro q;have e:(Wc.swO x.op x.b).1=x.b:=by rcases q with q | q <;> (rw [q];rfl)
  rw [e] at hs;exact ⟨hs.1,hs.2.1⟩
 refine ⟨hb,?_⟩;clear hs h;unfold Wc.nds;repeat' split
 all_goals first
  | (rename_i q;have:=hb q;refine ⟨λv _ _=>?_,?_,?_,?_,?_⟩ <;> simp only at * <;> omega)
  | (refine ⟨λv _ _=>?_,?_,?_,?_,?_⟩ <;> simp only at * <;> omega)
theorem zNX:(prog.info? 54).map (λi=>(i.zero,i.size,i.bytes))=some (some (.slice none 0 0),1,24):=by kernel_rfl
theorem zLI:(prog.info? 4).map (λi=>(i.zero,i.size,i.bytes))=some (some (.bool false),1,1):=by kernel_rfl
theorem zNB {w2:World} {T:TypeId} {z:Value} {cs:Array Value} (hz:cs=#[z]) (own:w2.ownsRow B T 1 (.slice (some ⟨k,0,none⟩) n n) n (madeCells cs (n * 1)).toList):k<w2.heap.size \/ n=0->(∀ j:Nat,j<n->w2.cell? ⟨k,j,none⟩=some z)/\(∀ j:Nat,j<n->w2.frozen? ⟨k,j,none⟩=false):=by
 intro _;have hcl:=own.cells (g:=k) rfl;refine ⟨λj hj=>?_,λj hj=>?_⟩
 ·have:=hcl j z (by subst hz;simp [madeCells,Nat.mod_one];exact ⟨j,by rw [List.getElem?_range (by omega)]⟩);rwa [show (⟨k,0,none⟩:Addr).add j=⟨k,j,none⟩ from by simp [Addr.add];intro h;exact h.symm] at this
 ·rcases own.2 with ⟨e,_⟩ | ⟨g,cap',cur,e,_,hg,_,_,hs,_⟩
  ·cases e
  ·simp only [Value.slice.injEq,Option.some.injEq,Addr.mk.injEq] at e;obtain ⟨⟨e1,-,-⟩,-,-⟩:=e;rw [<-e1] at hg;simp [World.frozen?,hg]
theorem zRa {w4:World} (hn:0<n) (v1:∀ j:Nat,j<n->w4.cell? ⟨vb,j,none⟩=some (.int .i64 0)) (v2:∀ j:Nat,j<n->w4.frozen? ⟨vb,j,none⟩=false) (f1:∀ j:Nat,j<n->w4.cell? ⟨fb,j,none⟩=some (.slice none 0 0)) (f2:∀ j:Nat,j<n->w4.frozen? ⟨fb,j,none⟩=false)
  (e1:∀ j:Nat,j<n->w4.cell? ⟨eb,j,none⟩=some (.bool false)) (e2:∀ j:Nat,j<n->w4.frozen? ⟨eb,j,none⟩=false) (h1:vb<fb) (h2:fb<eb) (h3:eb<w4.heap.size):HgS (w4.setCell ⟨eb,0,none⟩ (.bool true)) w4.heap.size vb fb eb n (Wc.sR n):=by
 have gd:∀ j:Nat,(Wc.sR n).getD j none=if 0=j then some ((0:Int),([]:List Int)) else none:=λj=>by
  unfold Wc.sR;rw [Wc.getD_set _ 0 j _ (by simpa using hn)];have e:(if j<n then some (none:Option (Int × List Int)) else none).getD none=none:=by split <;> rfl
  rw [List.getD_eq_getElem?_getD,List.getElem?_replicate,e]
 refine ⟨by simp [Wc.sR],λj hj=>?_,λj hj=>⟨0,?_⟩,λj v f e=>?_,λj hj=>⟨.slice none 0 0,?_⟩,λj v f e=>?_,λj hj=>?_,λj hj=>?_,λj hj=>?_,by omega,by omega,h3,by rw [show (w4.setCell ⟨eb,0,none⟩ (.bool true)).heap.size=w4.heap.size from by simp [World.setCell]];exact Nat.le_refl _,by omega,by omega,by omega⟩
 ·rw [gd j];by_cases q:0=j
  ·subst q;rw [if_pos rfl];exact zAX (e1 0 hj) _
  ·rw [if_neg q,zAS _ _ _ q];exact e1 j hj
 ·rw [World.cell?_setCell_far _ _ _ _ (by show eb ≠ vb;omega)];exact v1 j hj
 ·have hj:j<n:=by have:=zIJ e;simpa [Wc.sR] using this
  rw [gd j] at e;split at e
  ·cases e;rw [World.cell?_setCell_far _ _ _ _ (by show eb ≠ vb;omega)];exact v1 j hj
  ·cases e
 ·rw [World.cell?_setCell_far _ _ _ _ (by show eb ≠ fb;omega)];exact f1 j hj
 ·have hj:j<n:=by have:=zIJ e;simpa [Wc.sR] using this
  rw [gd j] at e;split at e
  ·cases e;exact ⟨.slice none 0 0,by rw [World.cell?_setCell_far _ _ _ _ (by show eb ≠ fb;omega)];exact f1 j hj,RdZ.nil _,(λl c e=>by cases e;rfl),λg e=>by cases e⟩
  ·cases e
 ·rw [World.frozen?_setCell];exact v2 j hj
 ·rw [World.frozen?_setCell];exact f2 j hj
 ·rw [World.frozen?_setCell];exact e2 j hj
theorem zNW {L:List (Wc.In × List Int)} (hn:L.length=n) (h0:0<n):Wc.chkR rgt L=((L[n - 1]'(by omega)).1.op == 16 && Wc.runR (Wc.srI rgt n) 0 L (Wc.sR n)):=by
 subst hn;have e:L.getLast? = some (L[L.length - 1]'(by omega)):=by
  rw [List.getLast?_eq_getElem?,List.getElem?_eq_getElem (by omega)]
 unfold Wc.chkR;rw [e]
def goR (n i:Nat) (r:List (Wc.In × List Int)) (P:List (Int × (Int × List Int))) (S:Wc.RS):Bool:=match Wc.handR n i P S with
 | none=>false
 | some S2=>Wc.runR (Wc.srI rgt n) (i+1) r S2
theorem zGp {j:Int} (hj:j<=(i:Int) \/ (n:Int)<=j):goR n i r ((j,h)::P) S=false:=by
 unfold goR;simp only [Wc.handR,if_pos hj]
theorem zM8 (hj:¬ ((j:Int)<=(i:Int) \/ (n:Int)<=(j:Int))) (hg:S.getD j none=none):goR n i r (((j:Int),h)::P) S=goR n i r P (S.set j (some h)):=by
 unfold goR;simp only [Wc.handR,if_neg hj,Int.toNat_natCast,hg]
theorem zN4 (hj:¬ ((j:Int)<=(i:Int) \/ (n:Int)<=(j:Int))) (hg:S.getD j none=some h):goR n i r (((j:Int),h)::P) S=goR n i r P (S.set j (some h)):=by
 unfold goR;simp only [Wc.handR,if_neg hj,Int.toNat_natCast,hg,if_true]
theorem zJK {g:Int × List Int} (hj:¬ ((j:Int)<=(i:Int) \/ (n:Int)<=(j:Int))) (hg:S.getD j none=some g) (hne:g ≠ h):goR n i r (((j:Int),h)::P) S=false:=by
 unfold goR;simp only [Wc.handR,if_neg hj,Int.toNat_natCast,hg,if_neg hne]
theorem zKp (hg:S.getD i none=none):Wc.runR (Wc.srI rgt n) i ((y,tl)::r) S=false:=by
 have e:Wc.srI rgt n i (y,tl) S=none:=by
  unfold Wc.srI Wc.stepR;rw [hg];split <;> rfl
 simp only [Wc.runR,e]
theorem zLx (hr:rgt y tl=false):Wc.runR (Wc.srI rgt n) i ((y,tl)::r) S=false:=by
 have e:Wc.srI rgt n i (y,tl) S=none:=by
  unfold Wc.srI;simp [hr]
 simp only [Wc.runR,e]
theorem zBY (hg:S.getD i none=some (v,f)) (hs:¬ Wc.stand n i y.op y.b v f=true):Wc.runR (Wc.srI rgt n) i ((y,tl)::r) S=false:=by
 have e:Wc.srI rgt n i (y,tl) S=none:=by
  unfold Wc.srI Wc.stepR;rw [hg];simp only [if_neg hs];split <;> rfl
 simp only [Wc.runR,e]
theorem zLp (hr:rgt y tl=true) (hg:S.getD i none=some (v,f)) (hs:Wc.stand n i y.op y.b v f=true):Wc.runR (Wc.srI rgt n) i ((y,tl)::r) S=goR n i r (ahF y tl i v f) S:=by
 have e:Wc.srI rgt n i (y,tl) S=Wc.handR n i (ahF y tl i v f) S:=by
  unfold Wc.srI;rw [if_pos hr];exact zGS hg hs
 simp only [Wc.runR,e];rfl
theorem stand_iff {b:Int}:Wc.stand n i o b v f=true ↔ ¬(o=16/\i+1<n)/\(Wc.nds o b).1<=v/\(Wc.nds o b).2.1<=f.length/\(o=16->v=1/\f.length=0)/\(o=8 \/ o=9->Wc.pairs (f.getLastD 0)=decide (o=9)):=by
 unfold Wc.stand;rw [decide_eq_true_eq]
theorem zL9 (y:Wc.In) (tl:List Int) (i:Int):(aP y tl i).length<=tl.length+3:=by
 unfold aP Wc.ahd;repeat' split
 all_goals simp
theorem zEE {g off c:Nat} (h:RdZ w (.slice (some ⟨g,off,none⟩) f.length c) f) (hf:0<f.length):w.cell? ⟨g,off+(f.length - 1),none⟩=some (.int .i64 (f.getLastD 0)):=by
 obtain ⟨a,c2,e,k⟩:=h;obtain ⟨b,o,e2,h3⟩:=k (f.length - 1) (by omega);simp only [Value.slice.injEq] at e;rw [<-e.1] at e2;cases e2
 rw [h3];congr 2
 rw [List.getLastD_eq_getLast?,List.getLast?_eq_getElem?,List.getElem?_eq_getElem (by omega)];rfl
theorem zDI {r:Value} (h:RdZ w r f):∃ av c,r=.slice av f.length c/\(0<f.length->∃ g off,av=some ⟨g,off,none⟩):=by
 obtain ⟨a,c,e,k⟩:=h;refine ⟨a,c,e,λh0=>?_⟩;obtain ⟨b,o,e2,_⟩:=k 0 h0;exact ⟨b,o,e2⟩
theorem zMg {m:Nat} (hk:k<m):((o == 12)=true/\(o == 15)=false/\(o == 14)=false/\(((k:Int) == (m:Int) - 1)=true/\zB5 o k m=true \/ ((k:Int) == (m:Int) - 1)=false/\zB5 o k m=false)) \/
  ((o == 12)=false/\(o == 15)=true/\(o == 14)=false/\(((k:Int) == (m:Int) - 1)=true/\zB5 o k m=true \/ ((k:Int) == (m:Int) - 1)=false/\zB5 o k m=false)) \/
  ((o == 12)=false/\(o == 15)=false/\(o == 14)=true/\(((k:Int) == 0)=true/\zB5 o k m=true \/ ((k:Int) == 0)=false/\zB5 o k m=false)) \/
  ((o == 12)=false/\(o == 15)=false/\(o == 14)=false/\zB5 o k m=false):=by
 have hm:((k:Int) == (m:Int) - 1)=(k+1 == m):=by rw [Bool.eq_iff_iff,beq_iff_eq,beq_iff_eq];omega
 have h0:((k:Int) == 0)=(k == 0):=by rw [Bool.eq_iff_iff,beq_iff_eq,beq_iff_eq];omega
 rw [hm,h0];unfold zB5;by_cases h12:o=12
 ·subst h12;left;cases (k+1 == m) <;> simp
 ·by_cases h15:o=15
  ·subst h15;right;left;cases (k+1 == m) <;> simp
  ·by_cases h14:o=14
   ·subst h14;right;right;left;cases (k == 0) <;> simp
   ·right;right;right;simp [h12,h15,h14]
theorem zI7 (x:Wc.In) (tv:Value) (w:World) (hb:x.op=5 \/ x.op=11->0<=x.b/\x.b<=1000):CR 68 #[inV x tv] w (.tuple #[.int .i64 (Wc.nds x.op x.b).1,.int .i64 (Wc.nds x.op x.b).2.1,.int .i64 (Wc.nds x.op x.b).2.2]):=by
 have pA:=AtL.new0 w 56 (zAD x tv);have hB:=zAJ (Below.refl _ w) (.cells (zAD x tv).toArray 56);have c0:(w.alloc (.cells (zAD x tv).toArray 56)).cell? ⟨w.heap.size,0,none⟩=some (.int .i64 x.op):=pA.2.1 0 _ rfl;have c2:(w.alloc (.cells (zAD x tv).toArray 56)).cell? ⟨w.heap.size,2,none⟩=some (.int .i64 x.b):=pA.2.1 2 _ rfl;obtain ⟨q,hq⟩:∃ q,Wc.nds x.op x.b=q:=⟨_,rfl⟩
 rw [hq];have HQ:Hid (Wc.nds x.op x.b=q):=hq;clear hq pA;have HW:Hid (x.op=5 \/ x.op=11->IntKind.i64.wrap (1 - x.b)=1 - x.b):=λh=>by have:=hb h;rw [IntKind.wrap_i64];omega
 clear hb;rcases zEl x.op with h | h | h | h | h | h | h | h | h | h | h | h | h | h | h | h | h
 case inr.inr.inr.inr.inr.inr.inr.inr.inr.inr.inr.inr.inr.inr.inr.inr =>
  have e:q=(0,0,0):=by
   have:=HQ.out;unfold Wc.nds at this;rw [<-this];repeat rw [if_neg (by omega)]
  have n1:(x.op == 1)=false:=by simp;omega
  have n2:(x.op == 2)=false:=by simp;omega
  have n3:(x.op == 3)=false:=by simp;omega
  have n4:(x.op == 4)=false:=by simp;omega
  have n5:(x.op == 5)=false:=by simp;omega
  have n6:(x.op == 6)=false:=by simp;omega
  have n7:(x.op == 7)=false:=by simp;omega
  have n8:(x.op == 8)=false:=by simp;omega
  have n9:(x.op == 9)=false:=by simp;omega
  have n10:(x.op == 10)=false:=by simp;omega
  have n11:(x.op == 11)=false:=by simp;omega
  have n12:(x.op == 12)=false:=by simp;omega
  have n13:(x.op == 13)=false:=by simp;omega
  have n14:(x.op == 14)=false:=by simp;omega
  have n15:(x.op == 15)=false:=by simp;omega
  have n16:(x.op == 16)=false:=by simp;omega
  clear HQ h;subst e;go_enter func68,ntmps68;go_upto_region 1 with fail
  generalize (w.alloc (.cells (zAD x tv).toArray 56))=W at *;go_wp2;refine bodyPost_ret (v:=.tuple #[.int .i64 0,.int .i64 0,.int .i64 0]) ?_ rfl ⟨rfl,hB⟩;simp [results,results68,go_sem]
 all_goals
  have hw:=λq=>HW.out q
  try replace hw:=hw (Or.inl h)
  try replace hw:=hw (Or.inr h)
  have e:=HQ.out;rw [h] at c0 e;subst e;clear HQ HW h;go_enter func68,ntmps68;go_upto_region 1 with fail
  generalize (w.alloc (.cells (zAD x tv).toArray 56))=W at *;go_wp2_with fail
  try (go_quiet (fail);go_wp2_with fail)
  refine bodyPost_ret (v:=.tuple #[.int .i64 (Wc.nds _ x.b).1,.int .i64 (Wc.nds _ x.b).2.1,.int .i64 (Wc.nds _ x.b).2.2]) ?_ rfl ⟨rfl,(clB hB)⟩;simp [results,results68,go_sem,Wc.nds]
