/- KJnK, KSJ, KFl3, KLng, KConc, KOnw, KSl. -/
import Derived.Test.YtpkdhcijcndgnaaGreatDoorQ40
import Derived.Lib.AppendZeros
set_option maxHeartbeats 4000000
set_option maxRecDepth 100000
namespace Go.Proofs.YtpkdhcijcndgnaaGreatDoor
open Tryz
open Go.RowKit Wf
set_option linter.unusedVariables false
variable {w W:World} {ops:Array Oper} {rest:List Oper} {a:Act} {Q:Exit->Act->World->Prop} {op o:Oper} {m:Nat} {vw vf:Value} {LW LF:List Wf.I}
theorem zBw {ops:Array Oper} {rest:List Oper} {a:Act} {Q:Exit->Act->World->Prop} (hgd:o.guard=none) (s x:Operand) (ho:o.op=.call {callee:=.builtin .append,args:=#[s,x],argTypes:=#[22,22]})
  (B:Nat) (w:World) (hB:B<=w.heap.size) (v:Value) (A:List Wt.Nd) (hs:a.eval s=v) (hown:OwnN w B v A) (av:Option Addr) (L:List Wt.Nd) (m cap:Nat) (hm:m=L.length) (hx:a.eval x=.slice av m cap) (hr:RdN w av L) (hno:av=none->m=0/\cap=0) (hl:True->A.length+L.length<=100000)
  (h:∀ v' w',OwnN w' B v' (A++L)->w.grownBy w' v.ownBlock->wpList prog ops Q rest (a.put o.dst v') w'):wpList prog ops Q (o::rest) a w:=by
 obtain ⟨i0,hi0,hz0,hz1,hz2⟩:=info_parts zGb;have hl:=hl trivial;subst hm;refine wpList_plain hgd λK hK=>?_
 cases av with
 | some ad =>
  refine wp_append_own _ s x 22 ho B 56 i0 _ 20 176 underlying22 hi0 hz0 hz1 hz2 rfl (by decide) v A.length (zBH A) hs hown ad L.length cap (zBH L) hx (zBl L) (hr.flat ad rfl) (zEO L) (by unfold maxLen;omega) (by omega) hB ?_;intro v' w' own hg _;refine hK _ _ (h v' w' ?_ hg);unfold OwnN;rw [List.length_append];have e:zBH (A++L)=zBH A++zBH L:=by simp [zBH]
  rw [e];exact own
 | none =>
  obtain ⟨h0,rfl⟩:=hno rfl;have hL:L=[]:=List.eq_nil_of_length_eq_zero h0;subst hL;have hrun:=run_append_owned_none (P:=prog) (w:=w) B 22 o.type 56 i0 20 underlying22 hi0 _ A.length (zBH A) hown;have hx:a.eval x=.slice none 0 0:=hx;unfold Oper.wp;simp only [execOp,ho,resolve,invoke,builtin,Sem.run_bind,Sem.run_pure,Result.andThen_ok,List.map_toArray,List.map_cons,List.map_nil,hs,hx,hrun];refine hK _ _ (h _ _ ?_ (World.grownBy.refl _ _));rw [List.append_nil];exact hown
theorem zRp (o:Int) (w:World):(Instr.build 56 #[(0,.int .i64 5),(2,.int .i64 o)]).run prog w=.ok (.agg (zAM (opN o)).toArray) w:=by kernel_rfl
theorem zS6 (w:World):(Instr.build 56 #[(0,.int .i64 6),(3,.string ⟨#[83,85,77]⟩),(4,.int .i64 2)]).run prog w=.ok (.agg (zAM suN).toArray) w:=by kernel_rfl
theorem zE6 (hgd:op.guard=none) (y:Operand) (ho:op.op=.build 56 #[(0,.const (.int .i64 5)),(2,y)]) (o:Int) (hy:a.eval y=.int .i64 o)
  (h:wpList prog ops Q rest (a.put op.dst (.agg (zAM (opN o)).toArray)) w):wpList prog ops Q (op::rest) a w:=by
 refine wpList_plain hgd λK hK=>?_
 unfold Oper.wp execOp;simp only [ho,List.map_toArray,List.map_cons,List.map_nil,Act.eval_const,hy,Sem.run_bind,Sem.run_pure,Result.andThen_ok,zRp];exact hK _ _ h
theorem zEU (hgd:op.guard=none) (ho:op.op=.build 56 #[(0,.const (.int .i64 6)),(3,.const (.string ⟨#[83,85,77]⟩)),(4,.const (.int .i64 2))])
  (h:wpList prog ops Q rest (a.put op.dst (.agg (zAM suN).toArray)) w):wpList prog ops Q (op::rest) a w:=by
 refine wpList_plain hgd λK hK=>?_
 unfold Oper.wp execOp;simp only [ho,List.map_toArray,List.map_cons,List.map_nil,Act.eval_const,Sem.run_bind,Sem.run_pure,Result.andThen_ok,zS6];exact hK _ _ h
theorem zRn (o:Int) (w:World):(Instr.build 48 #[(0,.int .i64 o)]).run prog w=.ok (.agg (zAD (ins o 0 0).1 zAH).toArray) w:=by kernel_rfl
theorem zSb (o a:Int) (w:World):(Instr.build 48 #[(0,.int .i64 o),(1,.int .i64 a)]).run prog w=.ok (.agg (zAD (ins o a 0).1 zAH).toArray) w:=by kernel_rfl
theorem zAy (hgd:op.guard=none) (o:Int) (ho:op.op=.build 48 #[(0,.const (.int .i64 o))])
  (h:wpList prog ops Q rest (a.put op.dst (.agg (zAD (ins o 0 0).1 zAH).toArray)) w):wpList prog ops Q (op::rest) a w:=by
 refine wpList_plain hgd λK hK=>?_
 unfold Oper.wp execOp;simp only [ho,List.map_toArray,List.map_cons,List.map_nil,Act.eval_const,Sem.run_bind,Sem.run_pure,Result.andThen_ok,zRn];exact hK _ _ h
theorem zCd (hgd:op.guard=none) (o:Int) (y:Operand) (ho:op.op=.build 48 #[(0,.const (.int .i64 o)),(1,y)]) (b:Int) (hy:a.eval y=.int .i64 b)
  (h:wpList prog ops Q rest (a.put op.dst (.agg (zAD (ins o b 0).1 zAH).toArray)) w):wpList prog ops Q (op::rest) a w:=by
 refine wpList_plain hgd λK hK=>?_
 unfold Oper.wp execOp;simp only [ho,List.map_toArray,List.map_cons,List.map_nil,Act.eval_const,hy,Sem.run_bind,Sem.run_pure,Result.andThen_ok,zSb];exact hK _ _ h
theorem zT3 (x y z:Wc.In) (w:World):(Instr.buildSlice 30 3 #[(0,.agg (zAD x zAH).toArray),(1,.agg (zAD y zAH).toArray),(2,.agg (zAD z zAH).toArray)]).run prog w=.ok (.slice (some ⟨w.heap.size,0,none⟩) 3 3) (w.alloc (.cells (zAY [(x,zAH),(y,zAH),(z,zAH)]).toArray 48)):=by kernel_rfl
theorem zFn (hgd:op.guard=none) (y1 y2 y3:Operand) (ho:op.op=.buildSlice 30 3 #[(0,y1),(1,y2),(2,y3)]) (x y z:Wc.In) (h1:a.eval y1=.agg (zAD x zAH).toArray) (h2:a.eval y2=.agg (zAD y zAH).toArray) (h3:a.eval y3=.agg (zAD z zAH).toArray)
  (h:wpList prog ops Q rest (a.put op.dst (.slice (some ⟨w.heap.size,0,none⟩) 3 3)) (w.alloc (.cells (zAY [(x,zAH),(y,zAH),(z,zAH)]).toArray 48))):wpList prog ops Q (op::rest) a w:=by
 refine wpList_plain hgd λK hK=>?_
 unfold Oper.wp execOp;simp only [ho,List.map_toArray,List.map_cons,List.map_nil,h1,h2,h3,Sem.run_bind,Sem.run_pure,Result.andThen_ok,zT3];exact hK _ _ h
theorem zJp {B:Nat} {a:Option Addr} {c:Nat} {A:List Int} (h:OwnZ w B (.slice a m c) A):a=none->c=0:=λe=>by
 subst e;rcases h.2 with ⟨q,_⟩ | ⟨g,cap,cur,q,_⟩
 ·cases q;rfl
 ·cases q
theorem zCQ {x:I} {p:Option Addr} {k:Nat} (hn:p=none->k=0) (h:RdZ W (.slice p m k) x.2 \/ OwnZ w W.heap.size (.slice p m k) x.2):TosJ W w [(x.1,.slice p m k)] [x]:=⟨rfl,λi h1 h2=>by
 have hi:i=0:=by simp at h1;omega
 subst hi;exact ⟨rfl,⟨p,m,k,rfl,hn⟩,h⟩⟩
theorem zBg (o a b:Int):TosJ W w [((ins o a b).1,zAH)] [ins o a b]:=zCQ (x:=ins o a b) (λ_=>rfl) (Or.inr (OwnZ.nil _ _))
theorem zQl {x:Wc.In} {tl:List Int} (h:rgt x tl=true) (h15:¬ x.op=15):tl=[]:=by
 have key:∀ (p:Bool) (y:Wc.In),(p && (smI x y && decide (tl=[])))=true->tl=[]:=λp y z=>by
  simp only [Bool.and_eq_true,decide_eq_true_eq] at z;exact z.2.2
 by_cases h1:x.op=1
 ·rw [zMR h1] at h;exact key _ _ h
 by_cases h2:x.op=2
 ·rw [zLO h2] at h;exact key _ _ h
 by_cases h3:x.op=3
 ·rw [zLb h3] at h;exact key _ _ h
 by_cases h4:x.op=4
 ·rw [zKp h4] at h;exact key _ _ h
 by_cases h5:x.op=5
 ·rw [zI2 h5] at h;exact key _ _ h
 by_cases h6:x.op=6
 ·rw [zME h6] at h;exact key _ _ h
 by_cases h7:x.op=7
 ·rw [zM4 h7] at h;exact key _ _ h
 by_cases h8:x.op=8
 ·rw [zLa h8] at h;exact key _ _ h
 by_cases h9:x.op=9
 ·rw [zLo h9] at h;exact key _ _ h
 by_cases h10:x.op=10
 ·rw [zGp h10] at h;exact key _ _ h
 by_cases h11:x.op=11
 ·rw [zEX h11] at h;exact key _ _ h
 by_cases h12:x.op=12
 ·rw [zGk h12] at h;exact key _ _ h
 by_cases h13:x.op=13
 ·rw [zHJ h13] at h;exact key _ _ h
 by_cases h14:x.op=14
 ·rw [zG7 h14] at h;exact key _ _ h
 by_cases h16:x.op=16
 ·rw [zGl h16] at h;exact key _ _ h
 unfold rgt at h;rw [if_neg h1,if_neg h2,if_neg h3,if_neg h4,if_neg h5,if_neg h6,if_neg h7,if_neg h8,if_neg h9,if_neg h10,if_neg h11,if_neg h12,if_neg h13,if_neg h14,if_neg h15,if_neg h16] at h;cases h
theorem zJ7 {L:List I} (h:Wc.chkP rgt L=true) (hl:L.length<=20000):∀ x ∈ L,Sml x.1 x.2:=by
 intro x hx;obtain ⟨k,hk,rfl⟩:=List.mem_iff_getElem.1 hx;have ht:=zEZ h hk;have hr:=(zDD h k hk).1;unfold tg onw at ht;refine ⟨λq=>?_,λq=>?_,λj hj=>?_,?_⟩
 ·rcases q with q | q | q
  ·have:=ht (L[k]).1.a (by simp [q]);omega
  ·have:=ht (L[k]).1.a (by simp [q]);omega
  ·have:=ht (L[k]).1.a (by simp [q]);omega
 ·rcases q with q | q
  ·have:=ht (L[k]).1.b (by simp [q]);omega
  ·have:=ht (L[k]).1.b (by simp [q]);omega
 ·by_cases q:(L[k]).1.op=15
  ·have:=ht j (by simp [q];exact Or.inl hj);omega
  ·rw [zQl hr q] at hj;cases hj
 ·rcases zIe hr with ⟨_,_,h3⟩ | ⟨_,h3⟩
  ·rw [h3];simp
  ·omega
structure SJ (W w:World) (vw vf:Value) (LW LF:List I):Prop where
 rw:RowJ W w vw LW
 rf:RowJ W w vf LF
 dis:∀ g,vw.ownBlock=some g->vf.ownBlock ≠ some g
 b:Below W.heap.size W w
theorem SJ.symm (h:SJ W w vw vf LW LF):SJ W w vf vw LF LW:=⟨h.rf,h.rw,λg e f=>h.dis g f e,h.b⟩
theorem SJ.below {w':World} (h:SJ W w vw vf LW LF) (hb:Below w.heap.size w w'):SJ W w' vw vf LW LF:=⟨h.rw.below hb,h.rf.below hb,h.dis,zAB h.b hb⟩
theorem zBf {ops:Array Oper} {rest:List Oper} {a:Act} {Q:Exit->Act->World->Prop} (hgd:o.guard=none) (s x:Operand) (ho:o.op=.call {callee:=.builtin .append,args:=#[s,x],argTypes:=#[30,30]})
  (W w:World) (vw vf:Value) (LW LF:List I) (hS:SJ W w vw vf LW LF) (hs:a.eval s=vw) (g n:Nat) (R:List (Wc.In × Value)) (M:List I) (hn:n=R.length) (hx:a.eval x=.slice (some ⟨g,0,none⟩) n n) (hat:AtL w g (zAY R)) (ht:TosJ W w R M) (hl:LW.length+M.length<=1000000)
  (h:∀ v' w',SJ W w' v' vf (LW++M) LF->wpList prog ops Q rest (a.put o.dst v') w'):wpList prog ops Q (o::rest) a w:=by
 obtain ⟨P,hP,tP⟩:=hS.rw;refine zFT hgd s x ho w W.heap.size hS.b.size vw P hs hP g n R hn hx hat (λp hp=>?_) (by rw [tP.1,ht.1];omega) λv' w' own hg hb=>h v' w' ?_
 ·obtain ⟨i,hi,rfl⟩:=List.mem_iff_getElem.1 hp;obtain ⟨_,⟨p,m,k,e,_⟩,_⟩:=ht.2 i hi (by rw [<-ht.1];exact hi);exact ⟨p,m,k,e⟩
 ·refine ⟨RowJ.grow hP tP ht own hg,hS.rf.stay hP (λg e f=>hS.dis g f e) hg,λg e f=>?_,hS.b.grown hg hS.b.size (λk e=>(zAK hP e).1)⟩;rcases hb with q | q
  ·rw [q] at e;exact hS.dis g e f
  ·rw [q] at e;cases e
   obtain ⟨P2,hP2,_⟩:=hS.rf;exact absurd (zAK hP2 f).2 (Nat.lt_irrefl _)
theorem zBG {ops:Array Oper} {rest:List Oper} {a:Act} {Q:Exit->Act->World->Prop} (hgd:o.guard=none) (s x:Operand) (ho:o.op=.call {callee:=.builtin .append,args:=#[s,x],argTypes:=#[30,30]})
  (W w:World) (vw vf:Value) (LW LF:List I) (hS:SJ W w vw vf LW LF) (hs:a.eval s=vf) (g n:Nat) (R:List (Wc.In × Value)) (M:List I) (hn:n=R.length) (hx:a.eval x=.slice (some ⟨g,0,none⟩) n n) (hat:AtL w g (zAY R)) (ht:TosJ W w R M) (hl:LF.length+M.length<=1000000)
  (h:∀ v' w',SJ W w' vw v' LW (LF++M)->wpList prog ops Q rest (a.put o.dst v') w'):wpList prog ops Q (o::rest) a w :=
 zBf hgd s x ho W w vf vw LF LW hS.symm hs g n R M hn hx hat ht hl λv' w' h'=>h v' w' h'.symm
theorem zEd (hgd:op.guard=none) (y z:Operand) (ho:op.op=.buildSlice 30 2 #[(0,y),(1,z)]) (x u:Wc.In) (hy:a.eval y=.agg (zAD x zAH).toArray) (hz:a.eval z=.agg (zAD u zAH).toArray) (fl:List Value) (hf:zAY [(x,zAH),(u,zAH)]=fl)
  (h:wpList prog ops Q rest (a.put op.dst (.slice (some ⟨w.heap.size,0,none⟩) 2 2)) (w.alloc (.cells fl.toArray 48))):wpList prog ops Q (op::rest) a w :=
 zDL hgd y z ho x u hy hz (by rw [hf];exact h)
theorem zFE (hgd:op.guard=none) (y1 y2 y3:Operand) (ho:op.op=.buildSlice 30 3 #[(0,y1),(1,y2),(2,y3)]) (x y z:Wc.In) (h1:a.eval y1=.agg (zAD x zAH).toArray) (h2:a.eval y2=.agg (zAD y zAH).toArray) (h3:a.eval y3=.agg (zAD z zAH).toArray) (fl:List Value) (hf:zAY [(x,zAH),(y,zAH),(z,zAH)]=fl)
  (h:wpList prog ops Q rest (a.put op.dst (.slice (some ⟨w.heap.size,0,none⟩) 3 3)) (w.alloc (.cells fl.toArray 48))):wpList prog ops Q (op::rest) a w :=
 zFn hgd y1 y2 y3 ho x y z h1 h2 h3 (by rw [hf];exact h)
theorem zQD {R:List (Wc.In × Value)} {fl:List Value} (hf:zAY R=fl):AtL (w.alloc (.cells fl.toArray 48)) w.heap.size (zAY R):=by
 rw [hf];exact AtL.new0 w 48 fl
theorem zD5 (w:World) (x:Wc.In) (v:Value):AtL (w.alloc (.cells (zAD x v).toArray 48)) w.heap.size (zAY [(x,v)]):=by
 have e:zAY [(x,v)]=zAD x v:=by simp [zAY]
 rw [e];exact AtL.new0 w 48 (zAD x v)
theorem zNP (L:List I) (h:L.length<=20000):0<=(zB3 L).1/\(zB3 L).1<=20000/\0<=(zB3 L).2/\(zB3 L).2<=671088640000:=by
 unfold zB3;split
 ·have:=zF5 L rfl L.length (Nat.le_refl _) 0;omega
 ·simp
theorem zNK {α:Type} {L:List α} {n:Nat} (h:L.length=n+1):L.take n=L.dropLast:=by
 rw [List.dropLast_eq_take,h];rfl
theorem zFo {P:Program} (v:Value) (h0:(Region.wanted o (yielded ops a.tmps)=true/\(execOp a.eval o).run P w=.ok (.value v) w) \/ (Region.wanted o (yielded ops a.tmps)=false/\v=undef)) (h:wpList P ops Q rest (a.put o.dst v) w):wpList P ops Q (o::rest) a w:=by
 rcases h0 with ⟨hw,hr⟩ | ⟨hw,rfl⟩
 ·refine BigFrame.wpList_want hw λK hK=>?_
  unfold Oper.wp;rw [hr];exact hK _ _ h
 ·exact wpList_skip hw h
open Go.RowKit
theorem zFZ (x:Wc.In) (tv:Value) (w:World):CR 49 #[.agg (zAD x tv).toArray] w (.int .i64 (lng x)):=by
 have HSZ:Hid (∀ w:World,CR 68 #[.agg #[.int .i64 x.ar.s,.int .i64 x.ar.t,.int .i64 x.ar.l,.int .i64 x.ar.b,.int .i64 x.ar.r]] w (.int .i64 (Wpl.sizeA x.ar.s x.ar.t x.ar.l x.ar.b x.ar.r))):=λw=>zFV x.ar.s x.ar.t x.ar.l x.ar.b x.ar.r w
 have HLE:=zHx x.ar.s x.ar.t x.ar.l x.ar.b x.ar.r;have HLN:Hid (lng x=if x.op=8 then Wpl.sizeA x.ar.s x.ar.t x.ar.l x.ar.b x.ar.r else if x.op=9 then 2 * Wpl.sizeA x.ar.s x.ar.t x.ar.l x.ar.b x.ar.r else 1):=rfl;have hb:=zAJ (Below.refl _ w) (.cells (zAD x tv).toArray 48);have p:=AtL.new0 w 48 (zAD x tv);have c0:=p.2.1 0 _ rfl;have q0:=p.2.1 12 _ rfl;have q1:=p.2.1 13 _ rfl;have q2:=p.2.1 14 _ rfl;have q3:=p.2.1 15 _ rfl;have q4:=p.2.1 16 _ rfl;obtain ⟨q,hq⟩:∃ q,lng x=q:=⟨_,rfl⟩
 rw [hq] at HLN ⊢;obtain ⟨z,hz⟩:∃ z,Wpl.sizeA x.ar.s x.ar.t x.ar.l x.ar.b x.ar.r=z:=⟨_,rfl⟩
 rw [hz] at HLN HSZ HLE;have hw:IntKind.i64.wrap (2 * z)=2 * z:=by rw [IntKind.wrap_i64];omega
 clear p hq hz HLE;go_enter func49,ntmps49;go_upto_region 1 with fail
 generalize (w.alloc (.cells (zAD x tv).toArray 48))=W at *;have SZ:=HSZ.out W;by_cases h8:x.op=8
 ·have e8:(x.op == 8)=true:=by simp [h8]
  have HE:Hid (q=z):=by show _=_;rw [HLN.out,if_pos h8]
  clear h8 HLN HSZ;go_wp2_with fail
  refine SZ.mono ?_;rintro e w1 ⟨rfl,hb1⟩;go_wp2;go_ret;exact ⟨by rw [HE.out];rfl,zAB hb hb1⟩
 ·have e8:(x.op == 8)=false:=by simp [h8]
  by_cases h9:x.op=9
  ·have e9:(x.op == 9)=true:=by simp [h9]
   have HE:Hid (q=2 * z):=by show _=_;rw [HLN.out,if_neg h8,if_pos h9]
   clear h8 h9 HLN HSZ;go_wp2_with fail
   refine SZ.mono ?_;rintro e w1 ⟨rfl,hb1⟩;go_wp2;go_ret;exact ⟨by rw [HE.out];rfl,zAB hb hb1⟩
  ·have e9:(x.op == 9)=false:=by simp [h9]
   have HE:Hid (q=1):=by show _=_;rw [HLN.out,if_neg h8,if_neg h9]
   clear h8 h9 HLN HSZ SZ;go_wp2;go_ret;exact ⟨by rw [HE.out];rfl,hb⟩
theorem zHQ {ops:Array Oper} {rest:List Oper} {a:Act} {Q:Exit->Act->World->Prop} (hgd:o.guard=none) (s x:Operand) (ho:o.op=.call {callee:=.builtin .append,args:=#[s,x],argTypes:=#[46,3]})
  (w:World) (n:Nat) (h0:0<n) (hn:n<=4000000) (hs:a.eval s=.slice none 0 0) (hx:a.eval x=.int .i64 (n:Int))
  (h:∀ (cap:Nat) (w':World),OwnZ w' w.heap.size (.slice (some ⟨w.heap.size,0,none⟩) 0 cap) []->n<=cap->cap<=9223372036854775807->Below w.heap.size w w'->wpList prog ops Q rest (a.put o.dst (.slice (some ⟨w.heap.size,0,none⟩) n cap)) w'):wpList prog ops Q (o::rest) a w:=by
 obtain ⟨i0,hi0,hz0,hz1,hz2⟩:=info_parts zFc;have hr:=Lib.run_append_nil_zeros (P:=prog) w 46 3 o.type 3 i0 _ .i64 .i64 underlying46 underlying3 hi0 hz0 n h0 (by rw [hz1];decide) (by omega) (by rw [hz2];omega);refine Lib.wpList_append_run w hgd s x 46 3 ho _ _ hs hx _ _ hr ?_;have hge:=grownCap_ge w n 0 3;have hmx:=grownCap_le_maxLen w n 0 3 (by unfold maxLen;omega);have hb:Below w.heap.size w (w.drew.alloc (.cells (Builtin.zeroCells (Value.int .i64 0).cells n++Builtin.zeroCells (Value.int .i64 0).cells (grownCap w n 0 3 - n)) 3)):=zAJ ((Below.refl _ w).drew) _;refine h _ _ ?_ hge (by unfold maxLen at hmx;exact hmx) hb;refine ⟨rfl,Or.inr ⟨w.heap.size,_,_,rfl,Nat.le_refl _,zBI w.drew _ _ rfl,Nat.zero_le _,hmx,?_,by simp⟩⟩;simp [size_zeroCells,Value.cells];omega
theorem zM7 (n:Nat) (hn:n<=4000000) (w:World):Calls prog 67 #[.slice none 0 0,.int .i64 (n:Int)] w λe w'=>(∃ r,e=.returned r/\OwnZ w' w.heap.size r [])/\Below w.heap.size w w':=by
 have hnn:¬ (n:Int)<0:=by omega
 have hw0:IntKind.i64.wrap (n:Int)=(n:Int):=by rw [IntKind.wrap_i64];omega
 have hw1:wrap64 (n:Int)=(n:Int):=by unfold wrap64;omega
 by_cases h0:n=0
 ·subst h0;go_enter func67,ntmps67;go_wp2;go_ret;exact ⟨⟨_,rfl,OwnZ.nil _ _⟩,Below.refl _ _⟩
 ·have hp:(0:Int)<(n:Int):=by omega
  have hpn:0<n:=by omega
  have HN:Hid (n<=4000000):=hn;clear hn;go_enter func67,ntmps67;go_wp2_with (first | (refine zHQ rfl (.tmp 20) (.tmp 21) rfl w n hpn HN.out rfl rfl ?_;intro cap w1 own hcap hc63 hb1))
  have hcz:(0:Int)<=(cap:Int):=by omega
  go_wp2;go_ret;exact ⟨⟨_,rfl,own⟩,hb1⟩
theorem zH8 (l m:List Int) (c k:Value) (sb:Nat) (w:World) (hc:RdZ w c l) (hk:RdZ w k m) (nc:Np c) (nk:Np k) (hl:l.length<=1000000) (hm:m.length<=1000000) (hs:AtL w sb [c,k]) :
  Calls prog 48 #[.slice (some ⟨sb,0,none⟩) 2 2] w λe w'=>(∃ r,e=.returned r/\OwnZ w' w.heap.size r (l++m))/\Below w.heap.size w w':=by
 obtain ⟨ac,cc,ec,_⟩:=id hc;obtain ⟨ak,ck,ek,_⟩:=id hk;have HC:Hid (RdZ w c l):=hc;have HK:Hid (RdZ w k m):=hk;have HNC:Hid (Np c/\Np k):=⟨nc,nk⟩
 have HLM:Hid (l.length<=1000000/\m.length<=1000000):=⟨hl,hm⟩
 have c0:=hs.2.1 0 _ rfl;have c1:=hs.2.1 1 _ rfl;subst ec;subst ek;obtain ⟨ll,hll⟩:∃ x,l.length=x:=⟨_,rfl⟩
 obtain ⟨lm,hlm⟩:∃ x,m.length=x:=⟨_,rfl⟩
 have HLL:Hid (l.length=ll/\m.length=lm):=⟨hll,hlm⟩
 have HB1:Hid (ll<=1000000/\lm<=1000000):=by rw [<-hll,<-hlm];exact HLM.out
 rw [hll] at HC HNC c0;rw [hlm] at HK HNC c1;have HGR:=λW=>zM7 (ll+lm) (by have:=HB1.out;omega) W
 have HG:Hid (∀ W:World,Calls prog 67 #[.slice none 0 0,.int .i64 ((ll:Int)+(lm:Int))] W λe w'=>(∃ r,e=.returned r/\OwnZ w' W.heap.size r [])/\Below W.heap.size W w'):=λW=>by have:=HGR W;rw [Int.natCast_add] at this;exact this
 have hw1:IntKind.i64.wrap (ll:Int)=(ll:Int):=by rw [IntKind.wrap_i64];have:=HB1.out;omega
 have hw2:IntKind.i64.wrap ((ll:Int)+(lm:Int))=(ll:Int)+(lm:Int):=by rw [IntKind.wrap_i64];have:=HB1.out;omega
 have hw3:wrap64 (ll:Int)=(ll:Int):=by have:=HB1.out;unfold wrap64;omega
 have hz1:¬ (ll:Int)<0:=by omega
 have hz2:¬ (ll:Int)+(lm:Int)<0:=by omega
 have HA0:Hid (w.cell? ⟨sb,0,none⟩=some (.slice ac ll cc)/\w.cell? ⟨sb,1,none⟩=some (.slice ak lm ck)):=⟨c0,c1⟩
 clear hc hk nc nk hl hm hs hll hlm HGR;go_enter func48,ntmps48;go_wp2_with fail
 go_loopg [3,11] 2 (λgk u3 u11 wr=>∃ i:Nat,u11=.int .i64 i/\gk=2 - i/\i<=2/\w=wr/\Hid (u3=.int .i64 (if i=0 then 0 else if i=1 then (ll:Int) else (ll:Int)+(lm:Int))))
 case atStart=>exact ⟨0,rfl,rfl,Nat.zero_le _,rfl,rfl⟩
 case round =>
  obtain ⟨i,rfl,hg,hi,rfl,HU⟩:=hrel;have hc3:i=0 \/ i=1 \/ i=2:=by omega
  rcases hc3 with rfl | rfl | rfl
  ·have e3:=HU.out;simp only [if_true] at e3;subst e3;go_wp2_with fail
   go_roundg 1
   case rel=>exact ⟨1,by simp,rfl,by omega,rfl,by show _=_;simp⟩
   case measure=>omega
  ·have e3:=HU.out;simp only [Nat.one_ne_zero,if_false,if_true] at e3;subst e3;go_wp2_with fail
   go_roundg 0
   case rel=>exact ⟨2,by simp,rfl,by omega,rfl,by show _=_;simp⟩
   case measure=>omega
  ·have e3:_=Value.int .i64 ((ll:Int)+(lm:Int)):=HU.out;subst e3;have GR:=HG.out w;clear HU HG;go_wp2_with fail
   refine GR.mono ?_;rintro e w2 ⟨⟨r,rfl,own⟩,hb2⟩;have HO2:Hid (OwnZ w2 w.heap.size r []):=own;have HB2:Hid (Below w.heap.size w w2):=hb2;clear own hb2 GR c0 c1;go_wp2_with fail
   go_loopg [6,27] 2 (λgk u6 u27 wr=>∃ (j:Nat) (lv:Value),lv=u6/\u27=.int .i64 j/\gk=2 - j/\j<=2/\Hid (Below w.heap.size w wr)/\Hid (OwnZ wr w.heap.size lv (if j=0 then [] else if j=1 then l else l++m)))
   case atStart=>exact ⟨0,_,rfl,rfl,rfl,Nat.zero_le _,HB2,HO2⟩
   case round =>
    clear HO2 HB2;obtain ⟨j,lv,rfl,rfl,hgj,hj,HB3,HO3⟩:=hrel;have hc4:j=0 \/ j=1 \/ j=2:=by omega
    rcases hc4 with rfl | rfl | rfl
    ·have HO4:Hid (OwnZ wr w.heap.size lv []):=HO3;have c0:=zAC HB3.out HA0.out.1;clear HO3;go_wp2_with (first | (refine zCt rfl (.tmp 31) (.tmp 32) rfl wr w.heap.size HB3.out.size lv [] rfl HO4.out (.slice ac ll cc) l rfl (HC.out.below HB3.out) HNC.out.1 (by have:=HLM.out;simp;omega) ?_;intro v2 w2 own2 hg2))
     have HO5:Hid (OwnZ w2 w.heap.size v2 (if 1=0 then [] else if 1=1 then l else l++m)):=by show OwnZ _ _ _ _;simpa using own2
     have HB5:Hid (Below w.heap.size w w2):=HB3.out.grown hg2 HB3.out.size (λk e=>(HO4.out.blk e).1);clear own2 hg2 c0;go_roundg 1
     case rel=>exact ⟨1,_,rfl,by simp,rfl,by omega,HB5,HO5⟩
     case measure=>omega
    ·have HO4:Hid (OwnZ wr w.heap.size lv l):=HO3;have c1:=zAC HB3.out HA0.out.2;clear HO3;go_wp2_with (first | (refine zCt rfl (.tmp 31) (.tmp 32) rfl wr w.heap.size HB3.out.size lv l rfl HO4.out (.slice ak lm ck) m rfl (HK.out.below HB3.out) HNC.out.2 (by have:=HLM.out;simp;omega) ?_;intro v2 w2 own2 hg2))
     have HO5:Hid (OwnZ w2 w.heap.size v2 (if 2=0 then [] else if 2=1 then l else l++m)):=by show OwnZ _ _ _ _;simpa using own2
     have HB5:Hid (Below w.heap.size w w2):=HB3.out.grown hg2 HB3.out.size (λk e=>(HO4.out.blk e).1);clear own2 hg2 c1;go_roundg 0
     case rel=>exact ⟨2,_,rfl,by simp,rfl,by omega,HB5,HO5⟩
     case measure=>omega
    ·have HO4:Hid (OwnZ wr w.heap.size lv (l++m)):=HO3;go_wp2;go_ret;exact ⟨⟨_,rfl,HO4.out⟩,HB3.out⟩
theorem zHL:Np (.slice none 0 0):=λl c e=>by cases e;rfl
def OnQ (w:World) (tv:Value) (w':World) (q:List Int × List Int) (e:Ending):Prop:=∃ c k,e=.returned (.tuple #[c,k])/\RdZ w' c q.1/\RdZ w' k q.2/\Bk w tv c/\Bk w tv k/\Np c/\Np k
theorem zNj (x:Wc.In) (tv:Value) (at':Int) (w:World) (h:x.op=12) (ha:0<=at'/\at'<=1000000):Calls prog 47 #[inV x tv,.int .i64 at'] w λe w'=>OnQ w tv w' ([at'+1,x.a],[x.b]) e/\Below w.heap.size w w':=by
 have pA:=AtL.new0 w 48 (zAD x tv);have hB:=zAJ (Below.refl _ w) (.cells (zAD x tv).toArray 48);have c0:(w.alloc (.cells (zAD x tv).toArray 48)).cell? ⟨w.heap.size,0,none⟩=some (.int .i64 x.op):=pA.2.1 0 _ rfl;have c1:(w.alloc (.cells (zAD x tv).toArray 48)).cell? ⟨w.heap.size,1,none⟩=some (.int .i64 x.a):=pA.2.1 1 _ rfl;have c2:(w.alloc (.cells (zAD x tv).toArray 48)).cell? ⟨w.heap.size,2,none⟩=some (.int .i64 x.b):=pA.2.1 2 _ rfl;have hlt:=pA.lt;have hw:IntKind.i64.wrap (at'+1)=at'+1:=by rw [IntKind.wrap_i64];omega
 rw [h] at c0;clear pA h ha;go_enter func47,ntmps47;go_upto_region 1 with fail
 generalize (w.alloc (.cells (zAD x tv).toArray 48))=W at *;go_upto_region 3 with fail
 go_region
 all_goals
  go_wp2_with fail
  go_ret2
  refine ⟨⟨_,_,rfl,RdZ.two ?_ ?_,RdZ.one ?_,Bk.new ?_,Bk.new ?_,zBQ,zBQ⟩,(clB hB)⟩;all_goals first
   | (simp;done)
   | (simp;omega)
   | omega
theorem zPF (x:Wc.In) (av:Option Addr) (n cap:Nat) (tl:List Int) (at':Int) (w:World) (h:x.op=13) (ha:0<=at'/\at'<=1000000) (hz:RdZ w (.slice av n cap) tl):Calls prog 47 #[inV x (.slice av n cap),.int .i64 at'] w λe w'=>OnQ w (.slice av n cap) w' ([],[x.a]) e/\Below w.heap.size w w':=by
 have pA:=AtL.new0 w 48 (zAD x (.slice av n cap));have hB:=zAJ (Below.refl _ w) (.cells (zAD x (.slice av n cap)).toArray 48);have c0:(w.alloc (.cells (zAD x (.slice av n cap)).toArray 48)).cell? ⟨w.heap.size,0,none⟩=some (.int .i64 x.op):=pA.2.1 0 _ rfl;have c1:(w.alloc (.cells (zAD x (.slice av n cap)).toArray 48)).cell? ⟨w.heap.size,1,none⟩=some (.int .i64 x.a):=pA.2.1 1 _ rfl;have c2:(w.alloc (.cells (zAD x (.slice av n cap)).toArray 48)).cell? ⟨w.heap.size,2,none⟩=some (.int .i64 x.b):=pA.2.1 2 _ rfl;have c22:(w.alloc (.cells (zAD x (.slice av n cap)).toArray 48)).cell? ⟨w.heap.size,22,none⟩=some (.slice av n cap):=pA.2.1 22 _ rfl;have hlt:=pA.lt;have hw:IntKind.i64.wrap (at'+1)=at'+1:=by rw [IntKind.wrap_i64];omega
 have HZ:Hid (RdZ w (.slice av n cap) tl):=hz;rw [h] at c0;clear pA h ha hz;go_enter func47,ntmps47;go_upto_region 1 with fail
 generalize (w.alloc (.cells (zAD x (.slice av n cap)).toArray 48))=W at *;go_upto_region 5 with fail
 go_region
 all_goals
  go_wp2_with fail
  go_ret2
  refine ⟨⟨_,_,rfl,RdZ.nil _,RdZ.one ?_,Bk.nil,Bk.new ?_,zHL,zBQ⟩,(clB hB)⟩;all_goals first
   | (simp;done)
   | (simp;omega)
   | omega
theorem zOa (x:Wc.In) (av:Option Addr) (n cap:Nat) (tl:List Int) (at':Int) (w:World) (h:x.op=14) (ha:0<=at'/\at'<=1000000) (hz:RdZ w (.slice av n cap) tl):Calls prog 47 #[inV x (.slice av n cap),.int .i64 at'] w λe w'=>OnQ w (.slice av n cap) w' ([at'+1],[x.a]) e/\Below w.heap.size w w':=by
 have pA:=AtL.new0 w 48 (zAD x (.slice av n cap));have hB:=zAJ (Below.refl _ w) (.cells (zAD x (.slice av n cap)).toArray 48);have c0:(w.alloc (.cells (zAD x (.slice av n cap)).toArray 48)).cell? ⟨w.heap.size,0,none⟩=some (.int .i64 x.op):=pA.2.1 0 _ rfl;have c1:(w.alloc (.cells (zAD x (.slice av n cap)).toArray 48)).cell? ⟨w.heap.size,1,none⟩=some (.int .i64 x.a):=pA.2.1 1 _ rfl;have c2:(w.alloc (.cells (zAD x (.slice av n cap)).toArray 48)).cell? ⟨w.heap.size,2,none⟩=some (.int .i64 x.b):=pA.2.1 2 _ rfl;have c22:(w.alloc (.cells (zAD x (.slice av n cap)).toArray 48)).cell? ⟨w.heap.size,22,none⟩=some (.slice av n cap):=pA.2.1 22 _ rfl;have hlt:=pA.lt;have hw:IntKind.i64.wrap (at'+1)=at'+1:=by rw [IntKind.wrap_i64];omega
 have HZ:Hid (RdZ w (.slice av n cap) tl):=hz;rw [h] at c0;clear pA h ha hz;go_enter func47,ntmps47;go_upto_region 1 with fail
 generalize (w.alloc (.cells (zAD x (.slice av n cap)).toArray 48))=W at *;go_upto_region 7 with fail
 go_region
 all_goals
  go_wp2_with fail
  go_ret2
  refine ⟨⟨_,_,rfl,RdZ.one ?_,RdZ.one ?_,Bk.new ?_,Bk.new ?_,zBQ,zBQ⟩,(clB hB)⟩;all_goals first
   | (simp;done)
   | (simp;omega)
   | omega
theorem zNp (x:Wc.In) (av:Option Addr) (n cap:Nat) (tl:List Int) (at':Int) (w:World) (h:x.op=15) (ha:0<=at'/\at'<=1000000) (hz:RdZ w (.slice av n cap) tl) (hnp:Np (.slice av n cap)):Calls prog 47 #[inV x (.slice av n cap),.int .i64 at'] w λe w'=>OnQ w (.slice av n cap) w' (tl,[x.b]) e/\Below w.heap.size w w':=by
 have pA:=AtL.new0 w 48 (zAD x (.slice av n cap));have hB:=zAJ (Below.refl _ w) (.cells (zAD x (.slice av n cap)).toArray 48);have c0:(w.alloc (.cells (zAD x (.slice av n cap)).toArray 48)).cell? ⟨w.heap.size,0,none⟩=some (.int .i64 x.op):=pA.2.1 0 _ rfl;have c1:(w.alloc (.cells (zAD x (.slice av n cap)).toArray 48)).cell? ⟨w.heap.size,1,none⟩=some (.int .i64 x.a):=pA.2.1 1 _ rfl;have c2:(w.alloc (.cells (zAD x (.slice av n cap)).toArray 48)).cell? ⟨w.heap.size,2,none⟩=some (.int .i64 x.b):=pA.2.1 2 _ rfl;have c22:(w.alloc (.cells (zAD x (.slice av n cap)).toArray 48)).cell? ⟨w.heap.size,22,none⟩=some (.slice av n cap):=pA.2.1 22 _ rfl;have hlt:=pA.lt;have hw:IntKind.i64.wrap (at'+1)=at'+1:=by rw [IntKind.wrap_i64];omega
 have HZ:Hid (RdZ w (.slice av n cap) tl):=hz;have HNP:Hid (Np (.slice av n cap)):=hnp;rw [h] at c0;clear pA h ha hz hnp;go_enter func47,ntmps47;go_upto_region 1 with fail
 generalize (w.alloc (.cells (zAD x (.slice av n cap)).toArray 48))=W at *;go_upto_region 9 with fail
 go_region
 all_goals
  go_wp2_with fail
  go_ret2
  refine ⟨⟨_,_,rfl,HZ.out.below (clB hB),RdZ.one ?_,Bk.own,Bk.new ?_,HNP.out,zBQ⟩,(clB hB)⟩;all_goals first
   | (simp;done)
   | (simp;omega)
   | omega
theorem zNs (x:Wc.In) (av:Option Addr) (n cap:Nat) (tl:List Int) (at':Int) (w:World) (h:x.op=16) (ha:0<=at'/\at'<=1000000) (hz:RdZ w (.slice av n cap) tl):Calls prog 47 #[inV x (.slice av n cap),.int .i64 at'] w λe w'=>OnQ w (.slice av n cap) w' ([],[]) e/\Below w.heap.size w w':=by
 have pA:=AtL.new0 w 48 (zAD x (.slice av n cap));have hB:=zAJ (Below.refl _ w) (.cells (zAD x (.slice av n cap)).toArray 48);have c0:(w.alloc (.cells (zAD x (.slice av n cap)).toArray 48)).cell? ⟨w.heap.size,0,none⟩=some (.int .i64 x.op):=pA.2.1 0 _ rfl;have c1:(w.alloc (.cells (zAD x (.slice av n cap)).toArray 48)).cell? ⟨w.heap.size,1,none⟩=some (.int .i64 x.a):=pA.2.1 1 _ rfl;have c2:(w.alloc (.cells (zAD x (.slice av n cap)).toArray 48)).cell? ⟨w.heap.size,2,none⟩=some (.int .i64 x.b):=pA.2.1 2 _ rfl;have c22:(w.alloc (.cells (zAD x (.slice av n cap)).toArray 48)).cell? ⟨w.heap.size,22,none⟩=some (.slice av n cap):=pA.2.1 22 _ rfl;have hlt:=pA.lt;have hw:IntKind.i64.wrap (at'+1)=at'+1:=by rw [IntKind.wrap_i64];omega
 have HZ:Hid (RdZ w (.slice av n cap) tl):=hz;rw [h] at c0;clear pA h ha hz;go_enter func47,ntmps47;go_upto_region 1 with fail
 generalize (w.alloc (.cells (zAD x (.slice av n cap)).toArray 48))=W at *;all_goals
  go_wp2;go_ret2
  exact ⟨⟨_,_,rfl,RdZ.nil _,RdZ.nil _,Bk.nil,Bk.nil,zHL,zHL⟩,hB⟩
theorem zRI (x:Wc.In) (av:Option Addr) (n cap:Nat) (at':Int) (w:World) (h:¬ (12<=x.op/\x.op<=16)) (ha:0<=at'/\at'<=1000000):Calls prog 47 #[inV x (.slice av n cap),.int .i64 at'] w λe w'=>OnQ w (.slice av n cap) w' ([at'+1],[]) e/\Below w.heap.size w w':=by
 have pA:=AtL.new0 w 48 (zAD x (.slice av n cap));have hB:=zAJ (Below.refl _ w) (.cells (zAD x (.slice av n cap)).toArray 48);have c0:(w.alloc (.cells (zAD x (.slice av n cap)).toArray 48)).cell? ⟨w.heap.size,0,none⟩=some (.int .i64 x.op):=pA.2.1 0 _ rfl;have c1:(w.alloc (.cells (zAD x (.slice av n cap)).toArray 48)).cell? ⟨w.heap.size,1,none⟩=some (.int .i64 x.a):=pA.2.1 1 _ rfl;have c2:(w.alloc (.cells (zAD x (.slice av n cap)).toArray 48)).cell? ⟨w.heap.size,2,none⟩=some (.int .i64 x.b):=pA.2.1 2 _ rfl;have c22:(w.alloc (.cells (zAD x (.slice av n cap)).toArray 48)).cell? ⟨w.heap.size,22,none⟩=some (.slice av n cap):=pA.2.1 22 _ rfl;have hlt:=pA.lt;have hw:IntKind.i64.wrap (at'+1)=at'+1:=by rw [IntKind.wrap_i64];omega
 have n12:(x.op == 12)=false:=by simp;omega
 have n13:(x.op == 13)=false:=by simp;omega
 have n14:(x.op == 14)=false:=by simp;omega
 have n15:(x.op == 15)=false:=by simp;omega
 have n16:(x.op == 16)=false:=by simp;omega
 clear pA h ha;go_enter func47,ntmps47;go_upto_region 1 with fail
 generalize (w.alloc (.cells (zAD x (.slice av n cap)).toArray 48))=W at *;go_wp2;go_ret2
 refine ⟨⟨_,_,rfl,RdZ.one ?_,RdZ.nil _,Bk.new ?_,Bk.nil,zBQ,zHL⟩,(clB hB)⟩;all_goals first
  | (simp;done)
  | (simp;omega)
  | omega
theorem zLy (x:Wc.In) (av:Option Addr) (n cap:Nat) (tl:List Int) (at':Int) (w:World) (ha:0<=at'/\at'<=1000000) (hz:RdZ w (.slice av n cap) tl) (hnp:Np (.slice av n cap)):Calls prog 47 #[inV x (.slice av n cap),.int .i64 at'] w λe w'=>OnQ w (.slice av n cap) w' (onw x.op x.a x.b tl at') e/\Below w.heap.size w w':=by
 unfold onw;by_cases h12:x.op=12
 ·rw [if_pos h12];exact zNj x _ at' w h12 ha
 by_cases h13:x.op=13
 ·rw [if_neg h12,if_pos h13];exact zPF x av n cap tl at' w h13 ha hz
 by_cases h14:x.op=14
 ·rw [if_neg h12,if_neg h13,if_pos h14];exact zOa x av n cap tl at' w h14 ha hz
 by_cases h15:x.op=15
 ·rw [if_neg h12,if_neg h13,if_neg h14,if_pos h15];exact zNp x av n cap tl at' w h15 ha hz hnp
 by_cases h16:x.op=16
 ·rw [if_neg h12,if_neg h13,if_neg h14,if_neg h15,if_pos h16];exact zNs x av n cap tl at' w h16 ha hz
 rw [if_neg h12,if_neg h13,if_neg h14,if_neg h15,if_neg h16];exact zRI x av n cap at' w (by omega) ha
theorem zNy (w:World) (g m cap:Nat):(Instr.sliceAt 46 (.slice (some ⟨g,0,none⟩) (m+1) cap) (some (.int .i64 1)) none none).run prog w=.ok (sliced (some ⟨g,0,none⟩) 1 (m+1) cap 1) w:=by
 have hu:prog.underlying 46=some (.slice (prog.elem 46)):=by kernel_rfl
 have hz:(sizeOf (prog.elem 46)).run prog w=.ok 1 w:=by kernel_rfl
 rw [run_sliceAt_slice w _ _ _ _ _ hu,run_slice_l w _ _ _ _ hu _ 1 (by omega) (by omega),hz];rfl
theorem zHP (hgd:op.guard=none) (s:Operand) (ho:op.op=.slice 46 s (some (.const (.int .i64 1))) none none) (g m cap:Nat) (hs:a.eval s=.slice (some ⟨g,0,none⟩) (m+1) cap) (hc:m+1<=cap)
  (h:∀ X C:Nat,(m ≠ 0->X=1)->wpList prog ops Q rest (a.put op.dst (.slice (some ⟨g,X,none⟩) m C)) w):wpList prog ops Q (op::rest) a w:=by
 refine wpList_plain hgd λK hK=>?_
 unfold Oper.wp execOp;have hr:=zNy w g m cap;have he:sliced (some ⟨g,0,none⟩) 1 (m+1) cap 1=.slice (some ⟨g,(if cap=1 then 0 else 1),none⟩) m (cap - 1):=by
  unfold sliced;split
  ·rfl
  ·rfl
 rw [he] at hr;have hv:a.eval (.const (.int .i64 1))=.int .i64 1:=rfl;simp only [ho,hs,hv,Option.map_some,Option.map_none,Sem.run_bind,Sem.run_pure,Result.andThen_ok,hr];exact hK _ _ (h _ _ (λhm=>by rw [if_neg (by omega)]))
