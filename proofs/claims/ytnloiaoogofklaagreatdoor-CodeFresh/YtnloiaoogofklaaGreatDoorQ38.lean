/- KAbF, KBndQ, KFl3, KFrA, KFrB, KFrC, KFrD, KFrE, KTknK, KJnK. -/
import Derived.Test.YtnloiaoogofklaaGreatDoorQ37
import Derived.Laws.Tables
set_option maxHeartbeats 4000000
set_option maxRecDepth 100000
namespace Go.Proofs.YtnloiaoogofklaaGreatDoor
open Tryz
open Go.RowKit Wf
set_option linter.unusedVariables false
variable {w w':World} {B C k D s B':Nat} {L:List Wf.I} {x y uv u lv v:Value} {P A:List (Wc.In × Value)} {U:List Wpl.Ar} {ops:Array Oper} {rest:List Oper} {op:Oper} {vs:List Value}
def ndL:Wt.Nd:=⟨2,Wt.v0,0,⟨#[]⟩,0,Wt.r0,Wt.r0⟩
def trL:Tr 1:=(⟨ndL,[]⟩:Br (Tr 0))
def nmL:List ByteArray:=[⟨#[83]⟩]
theorem zNp:row 1 trL=[ndL]:=rfl
theorem zK3:zC0 1 trL:=⟨by kernel_rfl,by kernel_rfl,λk hk=>by cases hk⟩
theorem zHU:Wt.check [ndL]=0:=by kernel_rfl
theorem zMG:∀ x ∈ [ndL],Wt.FitN x:=by
 intro x hx;simp only [List.mem_cons,List.not_mem_nil,or_false] at hx;subst hx;unfold Wt.FitN Wt.FitV;decide
theorem zQ3:flE 0 3 0 nmL 1 trL=0:=by kernel_rfl
theorem zRD:flC 0 nmL 1 trL=[ins 2 0 0,ins 16 0 0]:=by kernel_rfl
theorem zMr:Wc.chkP rgt [ins 2 0 0,ins 16 0 0]=true:=by kernel_rfl
theorem zLm:(usA [ins 2 0 0,ins 16 0 0]).length=1:=by kernel_rfl
theorem zIi:∀ x ∈ [ins 2 0 0,ins 16 0 0],x.2.length<=1000000/\Wt.FitV x.1.v:=by
 intro x hx;simp only [List.mem_cons,List.not_mem_nil,or_false] at hx;rcases hx with rfl | rfl
 ·exact ⟨by simp [ins],by unfold Wt.FitV;decide⟩
 ·exact ⟨by simp [ins],by unfold Wt.FitV;decide⟩
theorem zSH (w:World):(Instr.build 56 #[(0,.int .i64 2)]).run prog w=.ok (.agg (zAM ndL).toArray) w:=by kernel_rfl
theorem zEt {a:Act} {Q:Exit->Act->World->Prop} (hgd:op.guard=none) (ho:op.op=.build 56 #[(0,.const (.int .i64 2))])
  (h:wpList prog ops Q rest (a.put op.dst (.agg (zAM ndL).toArray)) w):wpList prog ops Q (op::rest) a w:=by
 refine wpList_plain hgd λK hK=>?_
 unfold Oper.wp execOp;simp only [ho,List.map_toArray,List.map_cons,List.map_nil,Act.eval,Sem.run_bind,Sem.run_pure,Result.andThen_ok,zSH];exact hK _ _ h
theorem zSD (x:Wt.Nd) (w:World):(Instr.buildSlice 22 1 #[(0,.agg (zAM x).toArray)]).run prog w=.ok (.slice (some ⟨w.heap.size,0,none⟩) 1 1) (w.alloc (.cells (zAM x).toArray 56)):=by kernel_rfl
theorem zFM {a:Act} {Q:Exit->Act->World->Prop} (hgd:op.guard=none) (y:Operand) (ho:op.op=.buildSlice 22 1 #[(0,y)]) (x:Wt.Nd) (hy:a.eval y=.agg (zAM x).toArray)
  (h:wpList prog ops Q rest (a.put op.dst (.slice (some ⟨w.heap.size,0,none⟩) 1 1)) (w.alloc (.cells (zAM x).toArray 56))):wpList prog ops Q (op::rest) a w:=by
 refine wpList_plain hgd λK hK=>?_
 unfold Oper.wp execOp;simp only [ho,List.map_toArray,List.map_cons,List.map_nil,hy,Sem.run_bind,Sem.run_pure,Result.andThen_ok,zSD];exact hK _ _ h
theorem zLX (w:World) (hN:NmAt w) (hO:OpsAt w):CR 9 #[] w (.bool true):=by
 have hb0:=zAL (zAL (Below.refl _ w) (.cells (zAM ndL).toArray 56)) (.cells #[.string ⟨#[83]⟩] 9);have rN:((w.alloc (.cells (zAM ndL).toArray 56)).alloc (.cells #[.string ⟨#[83]⟩] 9)).rangeAt w.heap.size 0 (zAM ndL):=((AtL.new0 w 56 (zAM ndL)).alloc _).range;have rS:((w.alloc (.cells (zAM ndL).toArray 56)).alloc (.cells #[.string ⟨#[83]⟩] 9)).cell? ⟨w.heap.size+1,0,none⟩=some (.string ⟨#[83]⟩):=(AtL.new1 w (.cells (zAM ndL).toArray 56) 9 [.string ⟨#[83]⟩]).2.1 0 _ rfl;have hRN:RdN ((w.alloc (.cells (zAM ndL).toArray 56)).alloc (.cells #[.string ⟨#[83]⟩] 9)) (some ⟨w.heap.size,0,none⟩) [ndL]:=λi hi=>by
  have hi0:i=0:=by simp at hi;omega
  subst hi0;exact ⟨w.heap.size,0,rfl,rN⟩
 have hRS:RdS ((w.alloc (.cells (zAM ndL).toArray 56)).alloc (.cells #[.string ⟨#[83]⟩] 9)) (some ⟨w.heap.size+1,0,none⟩) nmL:=λi hi=>by
  have hi0:i=0:=by simp [nmL] at hi;omega
  subst hi0;exact ⟨w.heap.size+1,0,rfl,rS⟩
 have FL:=zFc 1 trL w.heap.size 0 1 [ndL] 0 3 0 (some ⟨w.heap.size+1,0,none⟩) nmL 1 1 _ zMG (hO.below hb0) (hN.below hb0) hRN hRS zHU zNp zK3 (by simp) (by simp) 1 rfl rfl (Nat.le_refl _) (by simp [nmL]) (by omega);rw [zQ3,zRD] at FL;have HN:Hid (NmAt w):=hN;clear rN rS hRN hRS hN hO;go_enter func9,ntmps9;go_wp2_with (first | (refine zEt rfl rfl ?_) | (refine zFM rfl (.tmp 4) rfl ndL rfl ?_))
 refine FL.mono ?_;rintro e w1 ⟨hq,hb1⟩;rcases hq with ⟨hq,_⟩ | ⟨_,lv,P,rfl,own,hl,hin,_⟩
 ·exact absurd rfl hq
 have hB1:=zAB hb0 hb1;have rc:=zFL own hl hin;have CK:=zDT _ lv w1 rc (by simp) zIi (HN.out.below hB1);rw [zMr,if_pos rfl] at CK;have HUS:Hid (∀ W:World,Below w1.heap.size w1 W->Calls prog 12 #[lv] W λe w'=>(∃ r B,e=.returned r/\OwnA w' B r (usA [ins 2 0 0,ins 16 0 0])/\W.heap.size<=B)/\Below W.heap.size W w'):=λW hb=>zFj _ lv W (rc.below hb) (by simp) zIi (HN.out.below (zAB hB1 hb))
 obtain ⟨av,cap,e0,rr⟩:=rc;obtain ⟨G,off,p0,m0,k0,e1,r0,_,_⟩:=rr 0 (by simp);obtain ⟨G',off',p1,m1,k1,e2,r1,_,_⟩:=rr 1 (by simp);subst e0;rw [e1] at e2;cases e2
 subst e1;have c0:w1.cell? ⟨G,off+0 * 23,none⟩=some (.int .i64 2):=r0 0 _ rfl;have c1:w1.cell? ⟨G,off+1 * 23,none⟩=some (.int .i64 16):=r1 0 _ rfl;rw [Nat.zero_mul,Nat.add_zero] at c0;rw [Nat.one_mul] at c1;clear FL hb0 own hl hin hb1 r0 r1 rr;go_wp2_with fail
 refine CK.mono ?_;rintro e w2 ⟨rfl,hb2⟩;have US:=HUS.out w2 hb2;have hB2:=zAB hB1 hb2;clear CK HUS c0 c1 hb2 hB1;go_wp2_with fail
 refine US.mono ?_;rintro e w3 ⟨⟨r,B,rfl,ho,_⟩,hb3⟩;have hB3:=zAB hB2 hb3;have hr:∃ av c,r=.slice av 1 c:=by
  rcases ho.2 with ⟨_,q⟩ | ⟨g,c,cur,q,_⟩
  ·rw [zLm] at q;cases q
  ·rw [zLm] at q;exact ⟨_,_,q⟩
 obtain ⟨av,c,rfl⟩:=hr;clear US ho hb3 hB2;go_wp2;go_ret;exact ⟨rfl,hB3⟩
open Wc
theorem zNP {L:List (Wc.In × List Int)} (h:Wc.chkP rgt L=true):∀ (k:Nat) (hk:k<L.length),rgt (L[k]).1 (L[k]).2=true/\((L[k]).1.op=16 ↔ k+1=L.length)/\(∀ j ∈ (onw (L[k]).1.op (L[k]).1.a (L[k]).1.b (L[k]).2 k).1,(k:Int)<j/\j<(L.length:Int))/\∀ j ∈ (onw (L[k]).1.op (L[k]).1.a (L[k]).1.b (L[k]).2 k).2,(k:Int)<j/\j<(L.length:Int):=by
 intro k hk;unfold Wc.chkP at h;rw [Bool.and_eq_true] at h;have h1:=(plcs_iff _ _ _ _).1 h.1 k hk;rw [Nat.zero_add] at h1;exact (plc_iff _ _ _ _).1 h1
theorem zMU {x:Wc.In} {tl:List Int} (h:rgt x tl=true):(x.op=1/\Wv.right x.v.k x.v.n x.v.d x.v.t x.v.b x.v.f=true/\tl=[]) \/ (x.v=v0I/\tl.length<=30):=by
 have key:∀ (p:Bool) (y:Wc.In),y.v=v0I->(p && (smI x y && decide (tl=[])))=true->x.v=v0I/\tl.length<=30:=λp y hy q=>by
  simp only [Bool.and_eq_true,smI,zC4,decide_eq_true_eq] at q;exact ⟨q.2.1.2.2.1.trans hy,by rw [q.2.2];simp⟩
 by_cases h1:x.op=1
 ·rw [zM8 h1] at h;simp only [Bool.and_eq_true,decide_eq_true_eq] at h;exact Or.inl ⟨h1,h.1,h.2.2⟩
 refine Or.inr ?_;by_cases h2:x.op=2
 ·rw [zO2 h2] at h;exact key _ _ rfl h
 by_cases h3:x.op=3
 ·rw [zM7 h3] at h;exact key _ _ rfl h
 by_cases h4:x.op=4
 ·rw [zMh h4] at h;exact key _ _ rfl h
 by_cases h5:x.op=5
 ·rw [zKa h5] at h;exact key _ _ rfl h
 by_cases h6:x.op=6
 ·rw [zMf h6] at h;exact key _ _ rfl h
 by_cases h7:x.op=7
 ·rw [zNe h7] at h;exact key _ _ rfl h
 by_cases h8:x.op=8
 ·rw [zNG h8] at h;exact key _ _ rfl h
 by_cases h9:x.op=9
 ·rw [zNm h9] at h;exact key _ _ rfl h
 by_cases h10:x.op=10
 ·rw [zJX h10] at h;exact key _ _ rfl h
 by_cases h11:x.op=11
 ·rw [zFl h11] at h;exact key _ _ rfl h
 by_cases h12:x.op=12
 ·rw [zJH h12] at h;exact key _ _ rfl h
 by_cases h13:x.op=13
 ·rw [zI7 h13] at h;exact key _ _ rfl h
 by_cases h14:x.op=14
 ·rw [zH7 h14] at h;exact key _ _ rfl h
 by_cases h16:x.op=16
 ·rw [zHX h16] at h;exact key _ _ rfl h
 by_cases h15:x.op=15
 ·rw [zIr h15] at h;simp only [Bool.and_eq_true,smI,zC4,decide_eq_true_eq] at h;exact ⟨h.2.1.2.2.1,by omega⟩
 unfold rgt at h;rw [if_neg h1,if_neg h2,if_neg h3,if_neg h4,if_neg h5,if_neg h6,if_neg h7,if_neg h8,if_neg h9,if_neg h10,if_neg h11,if_neg h12,if_neg h13,if_neg h14,if_neg h15,if_neg h16] at h;cases h
theorem zPj {v:Wt.Vl} (h:Wv.right v.k v.n v.d v.t v.b v.f=true):Wt.FitV v:=by
 unfold Wv.right at h;unfold Wt.FitV;have ht:∀ {t:ByteArray},t=⟨#[]⟩->t.size=0:=λe=>by rw [e];rfl
 repeat' split at h
 all_goals try simp only [Bool.and_eq_true,decide_eq_true_eq,Wnum.rightB] at h
 ·have:=ht h.1.1.2;omega
 ·have:=ht h.1.1.2;omega
 ·omega
 ·have:=ht h.1.2;omega
 ·have:=ht h.1.2;omega
 ·cases h
theorem zOY {L:List (Wc.In × List Int)} (h:Wc.chkP rgt L=true):∀ x ∈ L,x.2.length<=1000000/\Wt.FitV x.1.v:=by
 intro x hx;obtain ⟨k,hk,rfl⟩:=List.mem_iff_getElem.1 hx;rcases zMU (zNP h k hk).1 with ⟨_,h2,h3⟩ | ⟨h2,h3⟩
 ·exact ⟨by rw [h3];simp,zPj h2⟩
 ·refine ⟨by omega,?_⟩;rw [h2];unfold Wt.FitV;decide
theorem zD1 {P:Program} {Q:Exit->Act->World->Prop} {o:Oper} {a:Act} (v:Value) (h0:(Region.wanted o (yielded ops a.tmps)=true/\(execOp a.eval o).run P w=.ok (.value v) w) \/ (Region.wanted o (yielded ops a.tmps)=false/\v=undef)) (h:wpList P ops Q rest (a.put o.dst v) w):wpList P ops Q (o::rest) a w:=by
 rcases h0 with ⟨hw,hr⟩ | ⟨hw,rfl⟩
 ·refine BigFrame.wpList_want hw λK hK=>?_
  unfold Oper.wp;rw [hr];exact hK _ _ h
 ·exact wpList_skip hw h
def cdE (E:Int) (C:List I):List I:=if E=0 then C else []
theorem zNM {P:Program} (w:World) (base:Nat) (t ty e:TypeId) (i:TypeInfo) (z:Value) (size bytes:Nat) (ht:P.underlying t=some (.slice e)) (hi:P.info? e=some i) (hz:i.zero=some z)
  (hsize:i.size=size) (hby:i.bytes=bytes) (hzs:z.cells.size=size) (hsz:0<size)
  (v:Value) (n:Nat) (xs:List Value) (hown:w.ownsRow base e size v n xs)
  (a:Addr) (m c:Nat) (news:List Value) (hl:news.length=m * size) (hnews:∀ j u,news[j]? = some u->w.cell? (a.add j)=some u) (h1:∀ u ∈ news,u.oneCell'=true)
  (h63:n+m<=maxLen) (hbytes:(n+m) * bytes<=140737488355328) (hbase:base<=w.heap.size) :
  ∃ v' w',(Builtin.append_ #[t,t] ty #[v,.slice (some a) m c]).run P w=.ok v' w'/\w'.ownsRow base e size v' (n+m) (xs++news)/\w.grownBy w' v.ownBlock /\
   (v'.ownBlock=v.ownBlock \/ v'.ownBlock=some w.heap.size)/\(∀ g j,v.ownBlock=some g->j<n * size->w'.cell? ⟨g,j,none⟩=w.cell? ⟨g,j,none⟩):=by
 obtain ⟨v',w',hr,h2,h3,_,h5⟩:=run_append_own_at (P:=P) w base t ty e i z size bytes ht hi hz hsize hby hzs hsz v n xs hown a m c news hl hnews h1 h63 hbytes hbase;refine ⟨v',w',hr,h2,h3,h5,?_⟩;intro g j hg hj;subst hsize hby;have hsmall:n+m<=9223372036854775807:=by simp only [maxLen] at h63;omega
 rcases hown.2 with ⟨rfl,rfl⟩ | ⟨g',cap,cur,rfl,hbg,hgg,hnc,hcm,hcs,htake⟩
 ·simp [Value.ownBlock] at hg
 ·obtain rfl:g'=g:=by simpa [Value.ownBlock] using hg
  have hjc:j<cur.size:=by
   rw [hcs];exact Nat.lt_of_lt_of_le hj (Nat.mul_le_mul_right _ hnc)
  by_cases hroom:n+m<=cap
  ·have hfit:n * i.size+news.length<=cur.size:=by rw [hl,hcs,<-Nat.add_mul];exact Nat.mul_le_mul_right _ hroom
   have hr2:=run_append_room (P:=P) w t ty e i ht hi g' n cap cur hgg a m c news hl hnews h1 hroom hfit;rw [hr2] at hr;simp only [Result.ok.injEq] at hr;obtain ⟨_,rfl⟩:=hr;rw [cell_of_row _ g' j _ e (0,0) (setRow_heap w g' cur _ e _ hgg),cell_of_row w g' j cur e (0,0) hgg];simp only [List.getElem?_toArray];rw [List.append_assoc,List.getElem?_append_left (by rw [List.length_take,Array.length_toList];omega),List.getElem?_take,if_pos hj];simp
  ·have holds:∀ j u,xs[j]? = some u->w.cell? ((⟨g',0,none⟩:Addr).add j)=some u:=hown.cells (g:=g') rfl;have hr2:=run_append_grow (P:=P) w t ty e i z ht hi hz ⟨g',0,none⟩ n cap xs hown.1 holds a m c news hl hnews (by omega) (by omega) (growslice_fits (by omega) hbytes);rw [hr2] at hr;simp only [Result.ok.injEq] at hr;obtain ⟨_,rfl⟩:=hr;have hlt:g' < w.heap.size:=(Array.getElem?_eq_some_iff.1 hgg).1;exact World.cell?_of_block (heap_alloc_old w.drew _ hlt)
theorem zGv {P:Program} (w:World) {ops:Array Oper} {rest:List Oper} {o:Oper} {a:Act} {Q:Exit->Act->World->Prop} (hgd:o.guard=none) (s x:Operand) (t:TypeId)
  (ho:o.op=.call {callee:=.builtin .append,args:=#[s,x],argTypes:=#[t,t]})
  (base:Nat) (e:TypeId) (i:TypeInfo) (z:Value) (size bytes:Nat) (ht:P.underlying t=some (.slice e)) (hi:P.info? e=some i) (hz:i.zero=some z)
  (hsize:i.size=size) (hby:i.bytes=bytes) (hzs:z.cells.size=size) (hsz:0<size)
  (v:Value) (n:Nat) (xs:List Value) (hs:a.eval s=v) (hown:w.ownsRow base e size v n xs)
  (ad:Addr) (m c:Nat) (news:List Value) (hx:a.eval x=.slice (some ad) m c) (hl:news.length=m * size) (hnews:∀ j u,news[j]? = some u->w.cell? (ad.add j)=some u) (h1:∀ u ∈ news,u.oneCell'=true)
  (h63:n+m<=maxLen) (hbytes:(n+m) * bytes<=140737488355328) (hbase:base<=w.heap.size)
  (h:∀ v' w',w'.ownsRow base e size v' (n+m) (xs++news)->w.grownBy w' v.ownBlock->(v'.ownBlock=v.ownBlock \/ v'.ownBlock=some w.heap.size)->(∀ g j,v.ownBlock=some g->j<n * size->w'.cell? ⟨g,j,none⟩=w.cell? ⟨g,j,none⟩)->wpList P ops Q rest (a.put o.dst v') w'):wpList P ops Q (o::rest) a w:=by
 refine wpList_plain hgd λK hK=>?_
 obtain ⟨v',w',hr,h2,h3,h4,h5⟩:=zNM (P:=P) w base t o.type e i z size bytes ht hi hz hsize hby hzs hsz v n xs hown ad m c news hl hnews h1 h63 hbytes hbase;unfold Oper.wp execOp;simp only [ho,resolve,invoke,builtin,Sem.run_bind,Sem.run_pure,Result.andThen_ok,List.map_toArray,List.map_cons,List.map_nil,hs,hx,hr];exact hK _ _ (h v' w' h2 h3 h4 h5)
def FxO (w:World) (B:Nat) (x:Value) (L:List I):Prop:=∃ P,OwnI w B x P/\P.length=L.length/\(∀ i (h:i<P.length) (h':i<L.length),(P[i]).1=(L[i]).1/\OwnZ w B (P[i]).2 (L[i]).2)/\∀ i j (h:i<P.length) (h':j<P.length) b,(P[i]).2.ownBlock=some b->(P[j]).2.ownBlock=some b->i=j
theorem FxO.nil (w:World) (B:Nat):FxO w B (.slice none 0 0) []:=⟨[],OwnI.nil _ _,rfl,λi h=>absurd h (Nat.not_lt_zero _),λi j h=>absurd h (Nat.not_lt_zero _)⟩
theorem FxO.rd (h:FxO w B x L):RdC w x L:=by
 obtain ⟨P,p1,p2,p3,_⟩:=h;exact zFL p1 p2 p3
def FlR (E:Int) (L:List I) (w:World) (e:Ending) (w':World):Prop:=(∃ x,e=.returned (.tuple #[x,.int .i64 E])/\FxO w' w.heap.size x L)/\Below w.heap.size w w'
theorem FlP.own {E:Int} {C:List I} {e:Ending} (h:FlP E C w e w'):FlR E (cdE E C) w e w':=by
 obtain ⟨h,hb⟩:=h;refine ⟨?_,hb⟩;rcases h with ⟨h1,rfl⟩ | ⟨rfl,lv,P,rfl,ho,h2⟩
 ·unfold cdE;rw [if_neg h1];exact ⟨_,rfl,FxO.nil _ _⟩
 ·unfold cdE;rw [if_pos rfl];exact ⟨_,rfl,P,ho,h2⟩
structure FlO (l:List Wt.Nd) (nm:List ByteArray) (E:Int->Int->Int->Int) (L:Int->Int->Int->List I):Prop where
 run:∀ (own r c:Int) (w:World) (B B2:Nat) (vN vS:Value),(-9223372036854775808<=own/\own<=9223372036854775807)->NmAt w->OpsAt w->OwnN w B vN l->zR2 w B2 vS nm->Calls prog 11 #[vN,.agg #[.int .i64 own,.int .i64 r,.int .i64 c],vS] w (FlR (E own r c) (L own r c) w)
 right:∀ own r c,L own r c=[] \/ Wc.chkP rgt (L own r c)=true
 len:∀ own r c,(L own r c).length<=20000
theorem zLI (l:List Wt.Nd) (nm:List ByteArray) (hl:l.length<=20000) (hF:∀ x ∈ l,Wt.FitN x) (hn:nm.length<=20000):∃ E L,FlO l nm E L:=by
 by_cases hc:Wt.check l=0
 ·obtain ⟨t,hrow,hT,h256⟩:=zHA hc;refine ⟨λown r c=>flE own r c nm _ t,λown r c=>cdE (flE own r c nm _ t) (flC own nm _ t),λown r c w B B2 vN vS ho hN hO h1 h2=>?_,λown r c=>?_,λown r c=>?_⟩
  ·obtain ⟨av,cap,rfl,hcap,hr,hp⟩:=zIt h1;obtain ⟨av3,cap3,rfl,hcap3,hr3⟩:=zHQ h2;have h0:0<l.length:=by rw [<-hrow];exact zHb _ t
   obtain ⟨g,rfl⟩:=hp h0;refine Calls.mono (zFc _ t g 0 cap l own r c av3 nm nm.length cap3 w hF hO hN hr hr3 hc hrow hT h256 hcap l.length rfl rfl hcap3 (by omega) ho) (λ_ _ h=>h.own)
  ·unfold cdE;by_cases q:flE own r c nm _ t=0
   ·rw [if_pos q];exact Or.inr (zHh hT q).1
   ·rw [if_neg q];exact Or.inl rfl
  ·have h7:=zIy own (nm.take 16) _ t 0;rw [hrow] at h7;unfold cdE;split
   ·simp only [flC,List.length_append,List.length_cons,List.length_nil];omega
   ·simp
 ·refine ⟨λ_ _ _=>Wt.check l,λ_ _ _=>[],λown r c w B B2 vN vS ho hN hO h1 h2=>?_,λown r c=>Or.inl rfl,λ_ _ _=>by simp⟩;obtain ⟨av,cap,rfl,hcap,hr,hp⟩:=zIt h1;obtain ⟨av3,cap3,rfl,hcap3,hr3⟩:=zHQ h2;refine Calls.mono (zJn av cap l own r c av3 nm.length cap3 w (by omega) hF hO hr hc l.length rfl) (λe w' h=>?_);have h9:=h.own;unfold cdE at h9;rw [if_neg hc] at h9;exact h9
abbrev Rg:=Value × Nat × List Value
section
variable {T:TypeId} {s:Nat}
def ZF (T:TypeId) (s:Nat) (w:World) (B:Nat) (zs:List Rg):Prop:=(∀ i (h:i<zs.length),w.ownsRow B T s (zs[i]).1 (zs[i]).2.1 (zs[i]).2.2)/\∀ i j (h:i<zs.length) (h':j<zs.length) b,(zs[i]).1.ownBlock=some b->(zs[j]).1.ownBlock=some b->i=j
theorem ZF.below {w w':World} {B:Nat} {zs:List Rg} (h:ZF T s w B zs) (hb:Below w.heap.size w w'):ZF T s w' B zs:=⟨λi hi=>zAR (Fr.of_below [] hb) (h.1 i hi) (by simp),h.2⟩
theorem ZF.fr {w w':World} {B:Nat} {zs:List Rg} (h:ZF T s w B zs) {S:List Nat} (hf:Fr S w w') (hS:∀ i (hi:i<zs.length) g,(zs[i]).1.ownBlock=some g->g ∉ S):ZF T s w' B zs:=⟨λi hi=>zAR hf (h.1 i hi) (hS i hi),h.2⟩
theorem ZF.app {w:World} {B C:Nat} {zs ys:List Rg} (h:ZF T s w B zs) (h2:ZF T s w C ys) (hB:B<=C) (hs:∀ i (hi:i<zs.length) g,(zs[i]).1.ownBlock=some g->g<C):ZF T s w B (zs++ys):=by
 refine ⟨λi hi=>?_,λi j hi hj b e1 e2=>?_⟩
 ·rw [List.getElem_append];split
  ·exact h.1 i _
  ·exact zAd (h2.1 _ _) hB
 ·rw [List.getElem_append] at e1 e2;by_cases a:i<zs.length
  ·rw [dif_pos a] at e1;by_cases c:j<zs.length
   ·rw [dif_pos c] at e2;exact h.2 i j a c b e1 e2
   ·rw [dif_neg c] at e2;have q1:=hs i a b e1;have q2:=(zAI (h2.1 _ _) e2).1;omega
  ·rw [dif_neg a] at e1;by_cases c:j<zs.length
   ·rw [dif_pos c] at e2;have q1:=hs j c b e2;have q2:=(zAI (h2.1 _ _) e1).1;omega
   ·rw [dif_neg c] at e2;have:=h2.2 _ _ _ _ b e1 e2;rw [List.length_append] at hi hj;omega
theorem ZF.turn {w w':World} {B:Nat} {zs:List Rg} (h:ZF T s w B zs) {i:Nat} (hi:i<zs.length) {z:Value} {n:Nat} {l:List Value} (ho:w'.ownsRow B T s z n l) (hg:w.grownBy w' (zs[i]).1.ownBlock) (hz:z.ownBlock=(zs[i]).1.ownBlock \/ z.ownBlock=some w.heap.size):ZF T s w' B (zs.set i (z,n,l)):=by
 have oth:∀ j (hj:j<zs.length),j ≠ i->∀ g,(zs[j]).1.ownBlock=some g->(zs[i]).1.ownBlock ≠ some g:=λj hj hne g e1 e2=>hne (h.2 j i hj hi g e1 e2)
 refine ⟨λj hj=>?_,λj k hj hk b e1 e2=>?_⟩
 ·rw [List.length_set] at hj;rw [List.getElem_set];split
  ·exact ho
  ·rename_i q
   refine zAR (S:=((zs[i]).1.ownBlock).toList) (Fr.of_grown hg (λk e=>by rw [e];simp)) (h.1 j hj) (λg e hm=>?_);have:=oth j hj (λe=>q e.symm) g e;cases c:(zs[i]).1.ownBlock with
   | none=>rw [c] at hm;simp at hm
   | some x =>
    rw [c] at hm this;simp at hm;exact this (by rw [hm])
 ·rw [List.length_set] at hj hk;rw [List.getElem_set] at e1 e2;have fresh:∀ j (hj:j<zs.length),j ≠ i->z.ownBlock=some b->(zs[j]).1.ownBlock=some b->False:=λj hj hne a c=>by
   rcases hz with q | q
   ·rw [q] at a;exact oth j hj hne b c a
   ·rw [q] at a;have:=(zAI (h.1 j hj) c).2;simp only [Option.some.injEq] at a;omega
  by_cases a:i=j
  ·by_cases c:i=k
   ·omega
   ·rw [if_pos a] at e1;rw [if_neg c] at e2;exact (fresh k hk (λe=>c e.symm) e1 e2).elim
  ·by_cases c:i=k
   ·rw [if_neg a] at e1;rw [if_pos c] at e2;exact (fresh j hj (λe=>a e.symm) e2 e1).elim
   ·rw [if_neg a] at e1;rw [if_neg c] at e2;exact h.2 j k hj hk b e1 e2
theorem ZF.put {w:World} {B:Nat} {zs:List Rg} (h:ZF T s w B zs) {i:Nat} (hi:i<zs.length) {g cap:Nat} (e:(zs[i]).1=.slice (some ⟨g,0,none⟩) (zs[i]).2.1 cap) (k:Nat) (v:Value):ZF T s (w.setCell ⟨g,k,none⟩ v) B (zs.set i ((zs[i]).1,(zs[i]).2.1,(zs[i]).2.2.set k v)):=by
 have h1:=h.1 i hi;rw [e] at h1;obtain ⟨a,b⟩:=World.ownsRow.stored h1 k v;refine h.turn hi ?_ ?_ (Or.inl rfl)
 ·rw [e];exact a
 ·rw [e];exact b
def RdO (w:World) (v:Value) (n:Nat) (l:List Value):Prop:=(v=.slice none 0 0/\l=[]) \/ ∃ g cap,v=.slice (some ⟨g,0,none⟩) n cap/\g<w.heap.size/\∀ j (h:j<l.length),w.cell? ⟨g,j,none⟩=some (l[j])
theorem RdO.of {w:World} {B n:Nat} {v:Value} {l:List Value} (h:w.ownsRow B T s v n l):RdO w v n l:=by
 rcases h.2 with ⟨e,h0⟩ | ⟨g,cap,cur,e,hb,hg,h1,h2,h3,h4⟩
 ·refine Or.inl ⟨e,List.eq_nil_of_length_eq_zero ?_⟩;have:=h.1;rw [h0,Nat.zero_mul] at this;exact this
 ·refine Or.inr ⟨g,cap,e,(zAI h (by rw [e];rfl)).2,λj hj=>?_⟩;have hc:=h.cells (g:=g) (by rw [e];rfl) j (l[j]) (List.getElem?_eq_getElem hj);rwa [show (⟨g,0,none⟩:Addr).add j=⟨g,j,none⟩ from by simp [Addr.add];intro h;exact h.symm] at hc
theorem RdO.keep {w w':World} {v:Value} {n:Nat} {l:List Value} {row:Option Nat} (h:RdO w v n l) (hg:w.grownBy w' row) (hk:∀ g,v.ownBlock=some g->row ≠ some g \/ ∀ j,j<l.length->w'.cell? ⟨g,j,none⟩=w.cell? ⟨g,j,none⟩):RdO w' v n l:=by
 rcases h with h | ⟨g,cap,e,hl,hc⟩
 ·exact Or.inl h
 ·refine Or.inr ⟨g,cap,e,Nat.lt_of_lt_of_le hl hg.size,λj hj=>?_⟩;rcases hk g (by rw [e];rfl) with q | q
  ·have hb:=hg.block g hl (λe=>q e.symm);have:=hc j hj;unfold World.cell? at this ⊢;simp only at this ⊢;rw [hb];exact this
  ·rw [q j hj];exact hc j hj
theorem RdO.below {w w':World} {v:Value} {n:Nat} {l:List Value} (h:RdO w v n l) (hb:Below w.heap.size w w'):RdO w' v n l:=by
 rcases h with h | ⟨g,cap,e,hl,hc⟩
 ·exact Or.inl h
 ·exact Or.inr ⟨g,cap,e,Nat.lt_of_lt_of_le hl hb.size,λj hj=>zAC hb (hc j hj)⟩
structure FF (T:TypeId) (s:Nat) (w:World) (B:Nat) (os zs:List Rg):Prop where
 z:ZF T s w B zs
 len:os.length=zs.length
 rd:∀ i (h:i<os.length),RdO w (os[i]).1 (os[i]).2.1 (os[i]).2.2
 pre:∀ i (h:i<os.length) (h':i<zs.length),(os[i]).2.2.length<=(zs[i]).2.1 * s
 oap:∀ i j (h:i<os.length) (h':j<zs.length) b,i ≠ j->(os[i]).1.ownBlock=some b->(zs[j]).1.ownBlock ≠ some b
theorem FF.start {w:World} {B:Nat} {zs:List Rg} (h:ZF T s w B zs):FF T s w B zs zs :=
 ⟨h,rfl,λi hi=>RdO.of (h.1 i hi),λi hi _=>Nat.le_of_eq (h.1 i hi).1,λi j hi hj b hne e1 e2=>hne (h.2 i j hi hj b e1 e2)⟩
theorem FF.below {w w':World} {B:Nat} {os zs:List Rg} (h:FF T s w B os zs) (hb:Below w.heap.size w w'):FF T s w' B os zs :=
 ⟨h.z.below hb,h.len,λi hi=>(h.rd i hi).below hb,h.pre,h.oap⟩
theorem FF.other {w w':World} {B:Nat} {os zs:List Rg} (h:FF T s w B os zs) {row:Option Nat} (hg:w.grownBy w' row) (hz:∀ i (hi:i<zs.length) g,(zs[i]).1.ownBlock=some g->row ≠ some g) (ho:∀ i (hi:i<os.length) g,(os[i]).1.ownBlock=some g->row ≠ some g):FF T s w' B os zs :=
 ⟨h.z.fr (S:=row.toList) (Fr.of_grown hg (λk e=>by rw [e];simp)) (λi hi g e hm=>by
   cases c:row with
   | none=>rw [c] at hm;simp at hm
   | some x =>
    rw [c] at hm;simp at hm;exact hz i hi g e (by rw [c,hm])),h.len,λi hi=>(h.rd i hi).keep hg (λg e=>Or.inl (ho i hi g e)),h.pre,h.oap⟩
theorem FF.grow {w w':World} {B:Nat} {os zs:List Rg} (h:FF T s w B os zs) {i:Nat} (hi:i<zs.length) {z:Value} {n:Nat} {l:List Value} (ho:w'.ownsRow B T s z n l) (hg:w.grownBy w' (zs[i]).1.ownBlock) (hz:z.ownBlock=(zs[i]).1.ownBlock \/ z.ownBlock=some w.heap.size) (hl:(zs[i]).2.1 * s<=n * s) (hk:∀ g j,(zs[i]).1.ownBlock=some g->j<(zs[i]).2.1 * s->w'.cell? ⟨g,j,none⟩=w.cell? ⟨g,j,none⟩):FF T s w' B os (zs.set i (z,n,l)):=by
 refine ⟨h.z.turn hi ho hg hz,by rw [List.length_set];exact h.len,λj hj=>(h.rd j hj).keep hg (λg e=>?_),λj hj hj'=>?_,λj k hj hk' b hne e1 e2=>?_⟩
 ·by_cases q:j=i
  ·subst q;have:=h.pre j hj hi;by_cases c:(zs[j]).1.ownBlock=some g
   ·exact Or.inr (λk hk2=>hk g k c (by omega))
   ·exact Or.inl c
  ·exact Or.inl (h.oap j i hj hi g q e)
 ·rw [List.length_set] at hj';have:=h.pre j hj hj';by_cases q:i=j
  ·subst q;rw [List.getElem_set_self];show _<=n * s
   omega
  ·rw [List.getElem_set_ne q];exact this
 ·rw [List.length_set] at hk';by_cases q:i=k
  ·subst q;rw [List.getElem_set_self] at e2;rcases hz with c | c
   ·rw [show ((z,n,l):Rg).1=z from rfl,c] at e2;exact h.oap j i hj hi b hne e1 e2
   ·rw [show ((z,n,l):Rg).1=z from rfl,c] at e2;simp only [Option.some.injEq] at e2;rcases h.rd j hj with ⟨d,_⟩ | ⟨g,cap,d,hlt,_⟩
    ·rw [d] at e1;cases e1
    ·rw [d] at e1;have e3:g=b:=by
      have:some g=some b:=e1;simpa using this
     omega
  ·rw [List.getElem_set_ne q] at e2;exact h.oap j k hj hk' b hne e1 e2
end
open Go.RowKit Wf
def zJ8:List Value->Nat->List Value->List Value
 | xs,_,[]=>xs
 | xs,o,v::r=>zJ8 (xs.set o v) (o+1) r
theorem zDf:∀ (vs A X R:List Value),vs.length=X.length->zJ8 (A++X++R) A.length vs=A++vs++R
 | [],A,[],R,_=>by simp [zJ8]
 | [],A,x::X,R,h=>by simp at h
 | v::r,A,[],R,h=>by simp at h
 | v::r,A,x::X,R,h=>by
  have e:(A++(x::X)++R).set A.length v=(A++[v])++X++R:=by
   rw [List.append_assoc,List.set_append_right _ _ (Nat.le_refl _),Nat.sub_self];simp
  show zJ8 ((A++(x::X)++R).set A.length v) (A.length+1) r=_
  rw [e];have:=zDf r (A++[v]) X R (by simpa using h);rw [List.length_append] at this;rw [show A.length+1=A.length+[v].length from rfl,this];simp
theorem zDV {T:TypeId} {s:Nat} {B g n cap:Nat}:∀ (vs:List Value) (o:Nat) (w:World) (xs:List Value),w.ownsRow B T s (.slice (some ⟨g,0,none⟩) n cap) n xs->(w.setCells g o vs).ownsRow B T s (.slice (some ⟨g,0,none⟩) n cap) n (zJ8 xs o vs)/\w.grownBy (w.setCells g o vs) (some g)
 | [],o,w,xs,h=>⟨h,⟨rfl,rfl,rfl,Nat.le_refl _,λk _ _=>rfl⟩⟩
 | v::r,o,w,xs,h=>by
  obtain ⟨a,b⟩:=World.ownsRow.stored h o v;obtain ⟨c,d⟩:=zDV r (o+1) _ _ a;refine ⟨c,d.os.trans b.os,d.tape.trans b.tape,d.output.trans b.output,Nat.le_trans b.size d.size,λk hk hne=>?_⟩;exact (d.block k (Nat.lt_of_lt_of_le hk b.size) hne).trans (b.block k hk hne)
theorem ZF.putAll {T:TypeId} {zs:List Rg} (h:ZF T s w B zs) {i:Nat} (hi:i<zs.length) {g cap:Nat} (e:(zs[i]).1=.slice (some ⟨g,0,none⟩) (zs[i]).2.1 cap) (o:Nat) (vs:List Value):ZF T s (w.setCells g o vs) B (zs.set i ((zs[i]).1,(zs[i]).2.1,zJ8 (zs[i]).2.2 o vs))/\w.grownBy (w.setCells g o vs) (some g):=by
 have h1:=h.1 i hi;rw [e] at h1;obtain ⟨a,b⟩:=zDV vs o w _ h1;refine ⟨h.turn hi ?_ ?_ (Or.inl rfl),b⟩
 ·rw [e];exact a
 ·rw [e];exact b
theorem zEB (P:List (Wc.In × Value)) (i:Nat) (hi:i<P.length) (p:Wc.In × Value):zJ8 (zAN P) (i * 23) (zAD p.1 p.2)=zAN (P.set i p):=by
 have e1:P=P.take i++P[i]::P.drop (i+1):=by rw [<-List.drop_eq_getElem_cons hi,List.take_append_drop]
 have e2:P.set i p=P.take i++p::P.drop (i+1):=List.set_eq_take_append_cons_drop.trans (if_pos hi);have hl:(zAN (P.take i)).length=i * 23:=by rw [zBX,List.length_take,Nat.min_eq_left (by omega)]
 rw [e2];conv=>lhs;rw [e1]
 rw [zBS,zBS];show zJ8 (zAN (P.take i)++(zAD (P[i]).1 (P[i]).2++zAN (P.drop (i+1)))) (i * 23) (zAD p.1 p.2)=zAN (P.take i)++(zAD p.1 p.2++zAN (P.drop (i+1)))
 rw [<-List.append_assoc,<-hl,zDf (zAD p.1 p.2) _ (zAD (P[i]).1 (P[i]).2) _ rfl,List.append_assoc]
theorem zE0 (U:List Wpl.Ar) (i:Nat) (hi:i<U.length) (p:Wpl.Ar):zJ8 (zAQ U) (i * 5) (zA7 p)=zAQ (U.set i p):=by
 have e1:U=U.take i++U[i]::U.drop (i+1):=by rw [<-List.drop_eq_getElem_cons hi,List.take_append_drop]
 have e2:U.set i p=U.take i++p::U.drop (i+1):=List.set_eq_take_append_cons_drop.trans (if_pos hi);have hl:(zAQ (U.take i)).length=i * 5:=by rw [zBW,List.length_take,Nat.min_eq_left (by omega)]
 rw [e2];conv=>lhs;rw [e1]
 rw [zBe,zBe];show zJ8 (zAQ (U.take i)++(zA7 U[i]++zAQ (U.drop (i+1)))) (i * 5) (zA7 p)=zAQ (U.take i)++(zA7 p++zAQ (U.drop (i+1)))
 rw [<-List.append_assoc,<-hl,zDf (zA7 p) _ (zA7 U[i]) _ rfl,List.append_assoc]
theorem zBp {t e:TypeId} (ht:prog.underlying t=some (.slice e)) (hinfo:(prog.info? e).map (λi=>(i.zero,i.size,i.bytes))=some (some (.slice none 0 0),1,24)) {ops:Array Oper} {rest:List Oper} {o:Oper} {a:Act} {Q:Exit->Act->World->Prop} (hgd:o.guard=none) (sl x:Operand)
  (ho:o.op=.call {callee:=.builtin .append,args:=#[sl,x],argTypes:=#[t,t]})
  (w:World) (B:Nat) (hB:B<=w.heap.size) (v:Value) (vs:List Value) (hs:a.eval sl=v) (hown:w.ownsRow B e 1 v vs.length vs) (g:Nat) (u:Value) (hx:a.eval x=.slice (some ⟨g,0,none⟩) 1 1) (hat:AtL w g [u]) (hu:u.oneCell'=true) (hl:vs.length+1<=4000000)
  (h:∀ v' w',w'.ownsRow B e 1 v' (vs++[u]).length (vs++[u])->w.grownBy w' v.ownBlock->wpList prog ops Q rest (a.put o.dst v') w'):wpList prog ops Q (o::rest) a w:=by
 obtain ⟨i0,hi0,hz0,hz1,hz2⟩:=info_parts hinfo;refine wpList_plain hgd λK hK=>?_
 refine wp_append_own _ sl x t ho B e i0 _ 1 24 ht hi0 hz0 hz1 hz2 rfl (by decide) v vs.length vs hs hown ⟨g,0,none⟩ 1 1 [u] hx rfl (λj z hj=>?_) (λz hz=>by simp at hz;rw [hz];exact hu) (by unfold maxLen;omega) (by omega) hB ?_
 ·have:=hat.2.1 j z hj;rw [show (⟨g,0,none⟩:Addr).add j=⟨g,j,none⟩ from by
   simp [Addr.add];try (intro h0;omega)]
  exact this
 ·intro v' w' own hg _;refine hK _ _ (h v' w' ?_ hg);rw [List.length_append];exact own
def FxC (w:World) (B C:Nat) (x:Value) (L:List I) (P:List (Wc.In × Value)):Prop:=(OwnI w B x P/\P.length=L.length/\(∀ i (h:i<P.length) (h':i<L.length),(P[i]).1=(L[i]).1/\OwnZ w B (P[i]).2 (L[i]).2)/\∀ i j (h:i<P.length) (h':j<P.length) b,(P[i]).2.ownBlock=some b->(P[j]).2.ownBlock=some b->i=j)/\(∀ g,x.ownBlock=some g->g<C)/\∀ i (h:i<P.length) g,(P[i]).2.ownBlock=some g->g<C
theorem FxO.c (h:FxO w B x L):∃ P,FxC w B w.heap.size x L P:=by
 obtain ⟨P,p1,p2,p3,p4⟩:=h;exact ⟨P,⟨p1,p2,p3,p4⟩,λg e=>(zAI p1 e).2,λi h g e=>(zAI (p3 i h (by omega)).2 e).2⟩
theorem FxC.below (h:FxC w B C x L P) (hb:Below w.heap.size w w'):FxC w' B C x L P:=by
 obtain ⟨⟨p1,p2,p3,p4⟩,a,b⟩:=h;exact ⟨⟨p1.below hb,p2,λi h h'=>⟨(p3 i h h').1,zAR (Fr.of_below [] hb) (p3 i h h').2 (by simp)⟩,p4⟩,a,b⟩
theorem FxC.other (h:FxC w B C x L P) {T:TypeId} {s n D:Nat} {v:Value} {xs:List Value} (ho:w.ownsRow D T s v n xs) (h1:T ≠ 48) (h2:T ≠ 3) (hg:w.grownBy w' v.ownBlock):FxC w' B C x L P:=by
 obtain ⟨⟨p1,p2,p3,p4⟩,a,b⟩:=h;have fr:Fr v.ownBlock.toList w w':=Fr.of_grown hg (λk e=>by rw [e];simp);have nin:∀ {T':TypeId} {s' n' D':Nat} {v':Value} {xs':List Value},w.ownsRow D' T' s' v' n' xs'->T ≠ T'->∀ g,v'.ownBlock=some g->g ∉ v.ownBlock.toList:=λho' hne g e hm=>by
  cases c:v.ownBlock with
  | none=>rw [c] at hm;simp at hm
  | some y =>
   rw [c] at hm;simp at hm;exact zAc ho ho' hne y c (by rw [e,hm])
 exact ⟨⟨zAR fr p1 (nin p1 h1),p2,λi h h'=>⟨(p3 i h h').1,zAR fr (p3 i h h').2 (nin (p3 i h h').2 h2)⟩,p4⟩,a,b⟩
theorem FxC.rd (h:FxC w B C x L P):RdC w x L:=zFL h.1.1 h.1.2.1 h.1.2.2.1
def zrs (P:List (Wc.In × Value)) (L:List I):List Rg:=List.zipWith (λp x=>(p.2,x.2.length,x.2.map (Value.int .i64))) P L
theorem zBQ (h:P.length=L.length):(zrs P L).length=L.length:=by
 unfold zrs;rw [List.length_zipWith];omega
theorem zCQ (h:P.length=L.length) (i:Nat) (hi:i<(zrs P L).length):(zrs P L)[i]=((P[i]'(by rw [zBQ h] at hi;omega)).2,(L[i]'(by rw [zBQ h] at hi;omega)).2.length,(L[i]'(by rw [zBQ h] at hi;omega)).2.map (Value.int .i64)):=List.getElem_zipWith
theorem FxC.zf (h:FxC w B C x L P):ZF 3 1 w B (zrs P L)/\∀ i (hi:i<(zrs P L).length) g,((zrs P L)[i]).1.ownBlock=some g->g<C:=by
 obtain ⟨⟨p1,p2,p3,p4⟩,a,b⟩:=h;refine ⟨⟨λi hi=>?_,λi j hi hj g e1 e2=>?_⟩,λi hi g e=>?_⟩
 ·have hl:=zBQ p2;rw [zCQ p2];exact (p3 i (by omega) (by omega)).2
 ·have hl:=zBQ p2;rw [zCQ p2] at e1 e2;exact p4 i j (by omega) (by omega) g e1 e2
 ·have hl:=zBQ p2;rw [zCQ p2] at e;exact b i (by omega) g e
theorem zQC {M:List I} {R:List (Wc.In × Value)} (h:FxC w B C x L P) (h2:FxC w C D y M R) (hB:B<=C):ZF 48 23 w B [(x,P.length,zAN P),(y,R.length,zAN R)]/\ZF 3 1 w B (zrs P L++zrs R M):=by
 refine ⟨?_,h.zf.1.app h2.zf.1 hB h.zf.2⟩;have a:ZF 48 23 w B [(x,P.length,zAN P)]:=⟨λi hi=>by
   have e:i=0:=by simp at hi;omega
   subst e;exact h.1.1,λi j hi hj _ _ _=>by simp at hi hj;omega⟩
 have b:ZF 48 23 w C [(y,R.length,zAN R)]:=⟨λi hi=>by
   have e:i=0:=by simp at hi;omega
   subst e;exact h2.1.1,λi j hi hj _ _ _=>by simp at hi hj;omega⟩
 exact a.app b hB (λi hi g e=>by
  have e0:i=0:=by simp at hi;omega
  subst e0;exact h.2.1 g e)
theorem zRR {V:List Wpl.Ar} (h:OwnA w B u U) (h2:OwnA w C v V) (hB:B<=C) (hu:∀ g,u.ownBlock=some g->g<C):ZF 45 5 w B [(u,U.length,zAQ U),(v,V.length,zAQ V)]:=by
 have a:ZF 45 5 w B [(u,U.length,zAQ U)]:=⟨λi hi=>by
   have e:i=0:=by simp at hi;omega
   subst e;exact h,λi j hi hj _ _ _=>by simp at hi hj;omega⟩
 have b:ZF 45 5 w C [(v,V.length,zAQ V)]:=⟨λi hi=>by
   have e:i=0:=by simp at hi;omega
   subst e;exact h2,λi j hi hj _ _ _=>by simp at hi hj;omega⟩
 exact a.app b hB (λi hi g e=>by
  have e0:i=0:=by simp at hi;omega
  subst e0;exact hu g e)
theorem FxO.weak (h:FxO w B' x L) (hb:B<=B'):FxO w B x L:=by
 obtain ⟨P,p1,p2,p3,p4⟩:=h;exact ⟨P,zAd p1 hb,p2,λi h h'=>⟨(p3 i h h').1,zAd (p3 i h h').2 hb⟩,p4⟩
def StF (B:Nat) (L:List I) (U:List Wpl.Ar):Nat->World->Value->Value->Prop
 | 0,w,lv,uv=>lv=.slice none 0 0/\uv=.slice none 0 0
 | 1,w,lv,uv=>∃ x P u,w.ownsRow B 30 1 lv 1 [x]/\w.ownsRow B 34 1 uv 1 [u]/\FxC w B w.heap.size x L P/\OwnA w B u U
 | _,w,lv,uv=>∃ x P u x' P' u' C D,w.ownsRow B 30 1 lv 2 [x,x']/\w.ownsRow B 34 1 uv 2 [u,u']/\FxC w B C x L P/\FxC w C D x' L P'/\B<=C/\OwnA w B u U/\OwnA w C u' U/\∀ g,u.ownBlock=some g->g<C
theorem OwnA.other (h:OwnA w B u U) {T:TypeId} {s n D:Nat} {v:Value} {xs:List Value} (ho:w.ownsRow D T s v n xs) (h1:T ≠ 45) (hg:w.grownBy w' v.ownBlock):OwnA w' B u U:=by
 refine zAR (S:=v.ownBlock.toList) (Fr.of_grown hg (λk e=>by rw [e];simp)) h (λg e hm=>?_);cases c:v.ownBlock with
 | none=>rw [c] at hm;simp at hm
 | some y =>
  rw [c] at hm;simp at hm;exact zAc ho h h1 y c (by rw [e,hm])
theorem zAS {T' s' n':Nat} {v':Value} {xs':List Value} (h:w.ownsRow B' T' s' v' n' xs') {T:TypeId} {s n D:Nat} {v:Value} {xs:List Value} (ho:w.ownsRow D T s v n xs) (h1:T ≠ T') (hg:w.grownBy w' v.ownBlock):w'.ownsRow B' T' s' v' n' xs':=by
 refine zAR (S:=v.ownBlock.toList) (Fr.of_grown hg (λk e=>by rw [e];simp)) h (λg e hm=>?_);cases c:v.ownBlock with
 | none=>rw [c] at hm;simp at hm
 | some y =>
  rw [c] at hm;simp at hm;exact zAc ho h h1 y c (by rw [e,hm])
theorem zFt (L:List I):(usA L).length<=2 * L.length:=by
 unfold usA;by_cases h:Wc.chkP rgt L=true
 ·rw [if_pos h];have h1:=zDd (zDU L) [];have h2:=zD0 L;rw [List.length_nil,Nat.zero_add] at h1;omega
 ·rw [if_neg h];exact Nat.zero_le _
theorem zIf {T:TypeId} {a b:Value} (h:w.ownsRow B T 1 v 2 [a,b]):∃ g c,v=.slice (some ⟨g,0,none⟩) 2 c/\2<=c/\w.cell? ⟨g,0,none⟩=some a/\w.cell? ⟨g,1,none⟩=some b:=by
 rcases h.2 with ⟨_,z⟩ | ⟨g,cap,cur,e,_,_,h1,_⟩
 ·cases z
 ·have c0:=h.cells (g:=g) (by rw [e];rfl) 0 a rfl;have c1:=h.cells (g:=g) (by rw [e];rfl) 1 b rfl;rw [show (⟨g,0,none⟩:Addr).add 1=⟨g,1,none⟩ from rfl] at c1;exact ⟨g,cap,e,h1,c0,c1⟩
def OldF (B C:Nat) (L:List I) (U:List Wpl.Ar) (k:Nat) (w:World) (uv:Value) (vs:List Value):Prop:=(k=0/\uv=.slice none 0 0/\vs=[]) \/ (k=1/\∃ x P u,vs=[x]/\w.ownsRow B 34 1 uv 1 [u]/\FxC w B C x L P/\OwnA w B u U/\∀ g,u.ownBlock=some g->g<C)
theorem OldF.below (h:OldF B C L U k w uv vs) (hb:Below w.heap.size w w'):OldF B C L U k w' uv vs:=by
 rcases h with h | ⟨h,x,P,u,e,h1,h2,h3,h4⟩
 ·exact Or.inl h
 ·exact Or.inr ⟨h,x,P,u,e,zAR (Fr.of_below [] hb) h1 (by simp),h2.below hb,h3.below hb,h4⟩
theorem OldF.of (hk:k<2) (h:StF B L U k w lv uv):∃ vs,vs.length=k/\w.ownsRow B 30 1 lv vs.length vs/\OldF B w.heap.size L U k w uv vs:=by
 match k,hk,h with
 | 0,_,h=>exact ⟨[],rfl,by rw [h.1];exact ⟨rfl,Or.inl ⟨rfl,rfl⟩⟩,Or.inl ⟨rfl,h.2,rfl⟩⟩
 | 1,_,h =>
  obtain ⟨x,P,u,h1,h2,h3,h4⟩:=h;exact ⟨[x],rfl,h1,Or.inr ⟨rfl,x,P,u,rfl,h2,h3,h4,λg e=>(zAI h4 e).2⟩⟩
theorem OldF.row {xs:List Value} {n:Nat} (h:OldF B C L U k w uv vs) (ho:w.ownsRow D 30 1 lv n xs) (hg:w.grownBy w' lv.ownBlock):OldF B C L U k w' uv vs:=by
 rcases h with h | ⟨h,x,P,u,e,h1,h2,h3,h4⟩
 ·exact Or.inl h
 ·exact Or.inr ⟨h,x,P,u,e,zAS h1 ho (by decide) hg,h2.other ho (by decide) (by decide) hg,h3.other ho (by decide) hg,h4⟩
theorem OldF.next {uv':Value} {us:List Value} (h:OldF B C L U k w uv vs) (hB:B<=C) (hD:D<=w'.heap.size) (hl:w.ownsRow B 30 1 lv (vs++[x]).length (vs++[x])) (hx:FxC w C D x L P) (hu:OwnA w C u U) (ho:w.ownsRow B 34 1 uv us.length us) (hus:k=0->us=[]) (hg:w.grownBy w' uv.ownBlock) (hn:w'.ownsRow B 34 1 uv' (us++[u]).length (us++[u])):StF B L U (k+1) w' lv uv':=by
 have l2:=zAS hl ho (by decide) hg;have x2:=hx.other ho (by decide) (by decide) hg;have u2:=hu.other ho (by decide) hg;rcases h with ⟨rfl,e1,rfl⟩ | ⟨rfl,x0,P0,u0,rfl,h1,h2,h3,h4⟩
 ·rw [hus rfl] at hn;exact ⟨x,P,u,l2,hn,⟨⟨zAd x2.1.1 hB,x2.1.2.1,λi h h'=>⟨(x2.1.2.2.1 i h h').1,zAd (x2.1.2.2.1 i h h').2 hB⟩,x2.1.2.2.2⟩,λg e=>Nat.lt_of_lt_of_le (x2.2.1 g e) hD,λi hi g e=>Nat.lt_of_lt_of_le (x2.2.2 i hi g e) hD⟩,zAd u2 hB⟩
 ·have e:us=[u0]:=by
   rcases ho.2 with ⟨q,_⟩ | ⟨g,cap,cur,q,_,hg1,_,_,hs1,ht1⟩
   ·rcases h1.2 with ⟨_,z⟩ | ⟨g2,cap2,cur2,q2,_⟩
    ·cases z
    ·rw [q] at q2;cases q2
   ·rcases h1.2 with ⟨_,z⟩ | ⟨g2,cap2,cur2,q2,_,hg2,_,_,hs2,ht2⟩
    ·cases z
    ·rw [q] at q2;simp only [Value.slice.injEq,Option.some.injEq,Addr.mk.injEq,and_true] at q2;obtain ⟨r1,r2,r3⟩:=q2;subst r1;rw [hg1] at hg2;simp only [Option.some.injEq,Obj.cells.injEq,and_true] at hg2;rw [hg2] at ht1;rw [<-ht1,<-ht2,r2]
  rw [e] at hn;exact ⟨x0,P0,u0,x,P,u,C,D,l2,hn,h2.other ho (by decide) (by decide) hg,x2,hB,h3.other ho (by decide) hg,u2,h4⟩
theorem zKE:(prog.info? 30).map (λi=>(i.zero,i.size,i.bytes))=some (some (.slice none 0 0),1,24):=by kernel_rfl
theorem zNj:(prog.info? 34).map (λi=>(i.zero,i.size,i.bytes))=some (some (.slice none 0 0),1,24):=by kernel_rfl
theorem zQe:prog.underlying 28=some (.slice 30):=by kernel_rfl
theorem zRI:prog.underlying 29=some (.slice 34):=by kernel_rfl
def mkI (k i:Nat):Wc.In × Value:=((ins (100+(k:Int)) (i:Int) 0).1,zAH)
def pM (k i:Nat) (P:List (Wc.In × Value)):List (Wc.In × Value):=(List.range i).map (mkI k)++P.drop i
theorem zHw (k:Nat) (P:List (Wc.In × Value)):pM k 0 P=P:=by simp [pM]
theorem zB9 (k i:Nat) (P:List (Wc.In × Value)) (h:i<=P.length):(pM k i P).length=P.length:=by
 simp [pM];omega
theorem zPH (k:Nat) (P:List (Wc.In × Value)):pM k P.length P=(List.range P.length).map (mkI k):=by simp [pM]
theorem zLn (k i:Nat) (P:List (Wc.In × Value)) (h:i<P.length):(pM k i P)[i]? = some P[i]:=by
 unfold pM;rw [List.getElem?_append_right (by simp)];simp [h]
theorem zH0 (k i:Nat) (P:List (Wc.In × Value)) (h:i<P.length):(pM k i P).set i (mkI k i)=pM k (i+1) P:=by
 unfold pM;rw [List.set_append_right _ _ (by simp)];have e:i - ((List.range i).map (mkI k)).length=0:=by simp
 rw [e,List.drop_eq_getElem_cons h,List.set_cons_zero,List.range_succ,List.map_append,List.append_assoc];rfl
abbrev xR (x y:Value) (A D:List (Wc.In × Value)):List Rg:=[(x,A.length,zAN A),(y,D.length,zAN D)]
theorem xR.put0 {D:List (Wc.In × Value)} (h:ZF 48 23 w B (xR x y A D)) {g cap:Nat} (e:x=.slice (some ⟨g,0,none⟩) A.length cap) {i:Nat} (hi:i<A.length) (p:Wc.In × Value):ZF 48 23 (w.setCells g (i * 23) (zAD p.1 p.2)) B (xR x y (A.set i p) D)/\w.grownBy (w.setCells g (i * 23) (zAD p.1 p.2)) (some g):=by
 have h1:=h.putAll (i:=0) (by simp) (g:=g) (cap:=cap) e (i * 23) (zAD p.1 p.2);refine ⟨?_,h1.2⟩;have h2:=h1.1;show ZF _ _ _ _ [(x,(A.set i p).length,zAN (A.set i p)),(y,D.length,zAN D)]
 rw [<-zEB A i hi p,List.length_set];exact h2
theorem xR.put1 {D:List (Wc.In × Value)} (h:ZF 48 23 w B (xR x y A D)) {g cap:Nat} (e:y=.slice (some ⟨g,0,none⟩) D.length cap) {i:Nat} (hi:i<D.length) (p:Wc.In × Value):ZF 48 23 (w.setCells g (i * 23) (zAD p.1 p.2)) B (xR x y A (D.set i p))/\w.grownBy (w.setCells g (i * 23) (zAD p.1 p.2)) (some g):=by
 have h1:=h.putAll (i:=1) (by simp) (g:=g) (cap:=cap) e (i * 23) (zAD p.1 p.2);refine ⟨?_,h1.2⟩;have h2:=h1.1;show ZF _ _ _ _ [(x,A.length,zAN A),(y,(D.set i p).length,zAN (D.set i p))]
 rw [<-zEB D i hi p,List.length_set];exact h2
def mkA (k i:Nat):Wpl.Ar:=⟨100+(k:Int),(i:Int),0,0,0⟩
def aM (k i:Nat) (U:List Wpl.Ar):List Wpl.Ar:=(List.range i).map (mkA k)++U.drop i
theorem zH2 (k:Nat) (U:List Wpl.Ar):aM k 0 U=U:=by simp [aM]
theorem zBq (k i:Nat) (U:List Wpl.Ar) (h:i<=U.length):(aM k i U).length=U.length:=by
 simp [aM];omega
theorem zPE (k:Nat) (U:List Wpl.Ar):aM k U.length U=(List.range U.length).map (mkA k):=by simp [aM]
theorem zHg (k i:Nat) (U:List Wpl.Ar) (h:i<U.length):(aM k i U).set i (mkA k i)=aM k (i+1) U:=by
 unfold aM;rw [List.set_append_right _ _ (by simp)];have e:i - ((List.range i).map (mkA k)).length=0:=by simp
 rw [e,List.drop_eq_getElem_cons h,List.set_cons_zero,List.range_succ,List.map_append,List.append_assoc];rfl
abbrev aR (x y:Value) (A D:List Wpl.Ar):List Rg:=[(x,A.length,zAQ A),(y,D.length,zAQ D)]
theorem aR.put0 {A D:List Wpl.Ar} (h:ZF 45 5 w B (aR x y A D)) {g cap:Nat} (e:x=.slice (some ⟨g,0,none⟩) A.length cap) {i:Nat} (hi:i<A.length) (p:Wpl.Ar):ZF 45 5 (w.setCells g (i * 5) (zA7 p)) B (aR x y (A.set i p) D)/\w.grownBy (w.setCells g (i * 5) (zA7 p)) (some g):=by
 have h1:=h.putAll (i:=0) (by simp) (g:=g) (cap:=cap) e (i * 5) (zA7 p);refine ⟨?_,h1.2⟩;have h2:=h1.1;show ZF _ _ _ _ [(x,(A.set i p).length,zAQ (A.set i p)),(y,D.length,zAQ D)]
 rw [<-zE0 A i hi p,List.length_set];exact h2
theorem aR.put1 {A D:List Wpl.Ar} (h:ZF 45 5 w B (aR x y A D)) {g cap:Nat} (e:y=.slice (some ⟨g,0,none⟩) D.length cap) {i:Nat} (hi:i<D.length) (p:Wpl.Ar):ZF 45 5 (w.setCells g (i * 5) (zA7 p)) B (aR x y A (D.set i p))/\w.grownBy (w.setCells g (i * 5) (zA7 p)) (some g):=by
 have h1:=h.putAll (i:=1) (by simp) (g:=g) (cap:=cap) e (i * 5) (zA7 p);refine ⟨?_,h1.2⟩;have h2:=h1.1;show ZF _ _ _ _ [(x,A.length,zAQ A),(y,(D.set i p).length,zAQ (D.set i p))]
 rw [<-zE0 D i hi p,List.length_set];exact h2
theorem ZF.other {T:TypeId} {zs:List Rg} (h:ZF T s w B zs) {T':TypeId} {s' n D:Nat} {v:Value} {xs:List Value} (ho:w.ownsRow D T' s' v n xs) (hT:T' ≠ T) (hg:w.grownBy w' v.ownBlock):ZF T s w' B zs :=
 ⟨λi hi=>zAS (h.1 i hi) ho hT hg,h.2⟩
theorem Act.eval_const (a:Act) (v:Value):a.eval (.const v)=v:=rfl
theorem zQl (o:Int) (w:World):(Instr.build 48 #[(0,.int .i64 o)]).run prog w=.ok (.agg (zAD (ins o 0 0).1 zAH).toArray) w:=by kernel_rfl
theorem zRE (o a:Int) (w:World):(Instr.build 48 #[(0,.int .i64 o),(1,.int .i64 a)]).run prog w=.ok (.agg (zAD (ins o a 0).1 zAH).toArray) w:=by kernel_rfl
theorem zCY {a:Act} {Q:Exit->Act->World->Prop} (hgd:op.guard=none) (o:Int) (ho:op.op=.build 48 #[(0,.const (.int .i64 o))])
  (h:wpList prog ops Q rest (a.put op.dst (.agg (zAD (ins o 0 0).1 zAH).toArray)) w):wpList prog ops Q (op::rest) a w:=by
 refine wpList_plain hgd λK hK=>?_
 unfold Oper.wp execOp;simp only [ho,List.map_toArray,List.map_cons,List.map_nil,Act.eval_const,Sem.run_bind,Sem.run_pure,Result.andThen_ok,zQl];exact hK _ _ h
