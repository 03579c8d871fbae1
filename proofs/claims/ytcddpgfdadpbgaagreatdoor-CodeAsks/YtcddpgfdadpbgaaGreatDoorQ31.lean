/- KWhole, KAllP. -/
import Derived.Test.YtcddpgfdadpbgaaGreatDoorQ30
set_option maxHeartbeats 400000
set_option maxRecDepth 100000
namespace Go.Proofs.YtcddpgfdadpbgaaGreatDoor
open Tryz
open Go.RowKit
set_option linter.unusedVariables false
variable {w w':World} {B G:Nat} {P:List (Wc.In × Value)} {L:List (Wc.In × List Int)} {ops:Array Oper} {rest:List Oper} {a:Act} {Q:Exit->Act->World->Prop} {v:Value}
theorem zC8:∀ (A:List (Wc.In × Value)) (i j:Nat) (h:i<A.length),j<23->(zA4 A)[i * 23+j]? = (zAD (A[i]).1 (A[i]).2)[j]?
 | x::r,0,j,_,hj=>by
  show (zAD x.1 x.2++zA4 r)[0 * 23+j]? = _
  rw [List.getElem?_append_left (by simp [zAD];omega)];simp
 | x::r,i+1,j,h,hj=>by
  have ih:=zC8 r i j (by simpa using h) hj;show (zAD x.1 x.2++zA4 r)[(i+1) * 23+j]? = _
  rw [List.getElem?_append_right (by simp [zAD];omega)];have e:(i+1) * 23+j - (zAD x.1 x.2).length=i * 23+j:=by simp [zAD];omega
  rw [e,ih];rfl
theorem OwnI.cell {n cap:Nat} {A:List (Wc.In × Value)} (h:OwnI w B (.slice (some ⟨G,0,none⟩) n cap) A) {i:Nat} (hi:i<A.length):w.rangeAt G (i * 23) (zAD (A[i]).1 (A[i]).2):=by
 intro j v hv;have hj:j<23:=by
  rcases Nat.lt_or_ge j 23 with q | q
  ·exact q
  ·rw [List.getElem?_eq_none (by simp [zAD];omega)] at hv;cases hv
 have hc:=h.cells (g:=G) rfl (i * 23+j) v (by rw [zC8 A i j hi hj];exact hv);rwa [show (⟨G,0,none⟩:Addr).add (i * 23+j)=⟨G,i * 23+j,none⟩ from by
  simp [Addr.add];try (intro h0;omega)] at hc
theorem Tw.get:∀ (P:List (Wc.In × Value)) (L:List (Wc.In × List Int)),Tw w B P L->∀ (i:Nat) (h1:i<P.length) (h2:i<L.length),(P[i]).1=(L[i]).1/\TwR w B (P[i]).2 (L[i]).2:=by
 intro P;induction P with
 | nil=>intro L h i h1;cases h1
 | cons p r ih =>
  intro L h i h1 h2;cases L with
  | nil=>exact h.elim
  | cons x s =>
   cases i with
   | zero=>exact h.1
   | succ k=>exact ih s h.2 k (by simpa using h1) (by simpa using h2)
structure TwS (w:World) (B G cap:Nat) (P:List (Wc.In × Value)) (L:List (Wc.In × List Int)):Prop where
 own:OwnI w B (.slice (some ⟨G,0,none⟩) (L.length+2) cap) (P++[(zAE 771,zAG),(zAE 772,zAG)])
 tw:Tw w B P L
theorem TwS.below {cap:Nat} (h:TwS w B G cap P L) (hb:Below w.heap.size w w'):TwS w' B G cap P L:=⟨h.own.below hb,Tw.turn (λ_ _ q=>q.below hb) _ _ h.tw⟩
theorem TwS.cap {cap:Nat} (h:TwS w B G cap P L):L.length+2<=cap:=by
 rcases h.own.2 with ⟨e,_⟩ | ⟨g,c,cur,e,_,_,hc,_⟩
 ·cases e
 ·simp only [Value.slice.injEq] at e;have:(P++[(zAE 771,zAG),(zAE 772,zAG)]).length=L.length+2:=by simp [Tw.len _ _ h.tw]
  omega
theorem TwS.at' {cap:Nat} (h:TwS w B G cap P L) {i:Nat} (hi:i<L.length):∃ g c,w.rangeAt G (i * 23) (zAD (L[i]).1 (.slice (some ⟨g,0,none⟩) (L[i]).2.length c))/\OwnZ w B (.slice (some ⟨g,0,none⟩) ((L[i]).2.length+2) c) ((L[i]).2++[771,772]):=by
 have hl:=Tw.len _ _ h.tw;obtain ⟨e1,g,c,e2,ho⟩:=Tw.get _ _ h.tw i (by omega) hi;have hr:=h.own.cell (i:=i) (by simp;omega);rw [List.getElem_append_left (by omega),e1,e2] at hr;exact ⟨g,c,hr,ho⟩
theorem TwS.rd {cap:Nat} (h:TwS w B G cap P L):RdC w (.slice (some ⟨G,0,none⟩) L.length cap) L:=by
 refine ⟨some ⟨G,0,none⟩,cap,rfl,λi hi=>?_⟩;obtain ⟨g,c,hr,ho⟩:=h.at' hi;refine ⟨G,0,some ⟨g,0,none⟩,(L[i]).2.length,c,rfl,by rw [Nat.zero_add];exact hr,TwR.rd ⟨g,c,rfl,ho⟩,λq=>by cases q⟩
theorem TwS.marks {cap:Nat} (h:TwS w B G cap P L):w.cell? ⟨G,L.length * 23,none⟩=some (.int .i64 771)/\w.cell? ⟨G,(L.length+1) * 23,none⟩=some (.int .i64 772):=by
 have hl:=Tw.len _ _ h.tw;have h1:=h.own.cell (i:=L.length) (by simp;omega) 0 (.int .i64 771) (by simp [List.getElem_append_right,hl,zAD,zAE]);have h2:=h.own.cell (i:=L.length+1) (by simp;omega) 0 (.int .i64 772) (by simp [List.getElem_append_right,hl,zAD,zAE]);exact ⟨h1,h2⟩
theorem zET {g c:Nat} {tl:List Int} (h:OwnZ w B (.slice (some ⟨g,0,none⟩) (tl.length+2) c) (tl++[771,772])):w.cell? ⟨g,tl.length,none⟩=some (.int .i64 771)/\w.cell? ⟨g,tl.length+1,none⟩=some (.int .i64 772)/\tl.length+2<=c:=by
 obtain ⟨av,cp,e,f⟩:=h.rd;simp only [Value.slice.injEq] at e;obtain ⟨b1,o1,q1,q2⟩:=f tl.length (by simp);obtain ⟨b2,o2,r1,r2⟩:=f (tl.length+1) (by simp);rw [<-e.1] at q1 r1;cases q1
 cases r1
 refine ⟨?_,?_,?_⟩
 ·rw [Nat.zero_add] at q2;rw [q2];simp
 ·rw [Nat.zero_add] at r2;rw [r2];simp [List.getElem_append_right]
 ·rcases h.2 with ⟨e,_⟩ | ⟨g,c,cur,e,_,_,hc,_⟩
  ·cases e
  ·simp only [Value.slice.injEq] at e;simp at hc;omega
structure Sg where
 id:Int
 c:Int
 nm:ByteArray
 l:Int
 m:Int
 p:ByteArray
abbrev Sg.cs (s:Sg):List Value:=sg6 s.id s.c s.nm s.l s.m s.p
def zAc:List Sg->List Value
 | []=>[]
 | x::r=>x.cs++zAc r
theorem zCr:∀ A:List Sg,(zAc A).length=A.length * 6
 | []=>rfl
 | x::r=>by simp [zAc,zCr r];omega
theorem zCb:∀ (A C:List Sg),zAc (A++C)=zAc A++zAc C
 | [],C=>rfl
 | x::r,C=>by simp [zAc,zCb r C]
theorem zCW:∀ (A:List Sg),∀ v ∈ zAc A,v.oneCell'=true
 | [],v,h=>by cases h
 | x::r,v,h=>by
  simp only [zAc,Sg.cs,sg6,List.mem_append,List.mem_cons,List.not_mem_nil,or_false] at h;rcases h with (rfl | rfl | rfl | rfl | rfl | rfl) | h
  ·rfl
  ·rfl
  ·rfl
  ·rfl
  ·rfl
  ·rfl
  ·exact zCW r v h
def foN:List ByteArray:=[⟨#[83,85,77]⟩,⟨#[80,82,79,68,85,67,84]⟩,⟨#[67,79,85,78,84]⟩,⟨#[67,79,85,78,84,65]⟩,⟨#[77,73,78]⟩,⟨#[77,65,88]⟩,⟨#[65,86,69,82,65,71,69]⟩,⟨#[65,78,68]⟩,⟨#[79,82]⟩,⟨#[88,79,82]⟩,⟨#[67,79,78,67,65,84]⟩,⟨#[83,85,77,83,81]⟩,⟨#[71,67,68]⟩,⟨#[70,73,82,83,84]⟩,⟨#[76,65,83,84]⟩]
def nmN:List ByteArray:=[⟨#[65,66,83]⟩,⟨#[83,73,71,78]⟩,⟨#[73,78,84]⟩,⟨#[82,79,85,78,68]⟩,⟨#[77,79,68]⟩,⟨#[81,85,79,84,73,69,78,84]⟩,⟨#[80,79,87,69,82]⟩,⟨#[78,79,84]⟩,⟨#[76,69,78]⟩,⟨#[76,69,70,84]⟩,⟨#[82,73,71,72,84]⟩,⟨#[77,73,68]⟩,⟨#[82,69,80,84]⟩,⟨#[70,73,78,68]⟩,⟨#[85,80,80,69,82]⟩,⟨#[76,79,87,69,82]⟩,⟨#[84,82,73,77]⟩,⟨#[86,65,76,85,69]⟩,⟨#[73,83,78,85,77,66,69,82]⟩,⟨#[73,83,84,69,88,84]⟩,⟨#[73,83,66,76,65,78,75]⟩,⟨#[73,83,69,82,82,79,82]⟩,⟨#[78,65]⟩]
def leN:List Int:=[1,1,1,1,2,2,2,1,1,1,1,3,2,2,1,1,1,1,1,1,1,1,0]
def f1 (i:Nat):Sg:=⟨(i:Int)+1,1,foN.getD i ⟨#[]⟩,1,30,⟨#[120]⟩⟩
def rnd (s:ByteArray):Bool:=(s.toList == [82,79,85,78,68]) || ((s.toList == [76,69,70,84]) || (s.toList == [82,73,71,72,84]))
def f3 (i:Nat):Sg:=⟨40+(i:Int),4,nmN.getD i ⟨#[]⟩,leN.getD i 0,if rnd (nmN.getD i ⟨#[]⟩)=true then 2 else leN.getD i 0,⟨#[118]⟩⟩
def zAs:List Sg:=[⟨20,2,⟨#[77,65,84,67,72]⟩,2,2,⟨#[118,97]⟩⟩,⟨21,2,⟨#[67,79,85,78,84,73,70]⟩,2,2,⟨#[97,118]⟩⟩,⟨22,2,⟨#[83,85,77,73,70]⟩,2,3,⟨#[97,118,97]⟩⟩,⟨23,2,⟨#[76,79,79,75,85,80]⟩,3,3,⟨#[118,97,97]⟩⟩,⟨24,2,⟨#[83,85,77,80,82,79,68,85,67,84]⟩,2,2,⟨#[97]⟩⟩,⟨25,2,⟨#[73,78,68,69,88]⟩,2,3,⟨#[97,118]⟩⟩,⟨26,2,⟨#[82,79,87,83]⟩,1,1,⟨#[97]⟩⟩,⟨27,2,⟨#[67,79,76,85,77,78,83]⟩,1,1,⟨#[97]⟩⟩,⟨30,3,⟨#[73,70]⟩,2,3,⟨#[118]⟩⟩,⟨31,3,⟨#[73,70,69,82,82,79,82]⟩,2,2,⟨#[118]⟩⟩,⟨32,3,⟨#[67,72,79,79,83,69]⟩,2,30,⟨#[118]⟩⟩]
def allS:List Sg:=(List.range 15).map f1++zAs++(List.range 23).map f3
def OwnS (w:World) (B:Nat) (v:Value) (A:List Sg):Prop:=w.ownsRow B 130 6 v A.length (zAc A)
theorem OwnS.nil (w:World) (B:Nat):OwnS w B (.slice none 0 0) []:=⟨rfl,Or.inl ⟨rfl,rfl⟩⟩
theorem zIu:(prog.info? 130).map (λi=>(i.zero,i.size,i.bytes))=some (some (.agg #[.int .i64 0,.int .i64 0,.string ⟨#[]⟩,.int .i64 0,.int .i64 0,.string ⟨#[]⟩]),6,64):=by kernel_rfl
theorem zBV {ops:Array Oper} {rest:List Oper} {o:Oper} {a:Act} {Q:Exit->Act->World->Prop} (hgd:o.guard=none) (s x:Operand) (ho:o.op=.call {callee:=.builtin .append,args:=#[s,x],argTypes:=#[155,155]})
  (w:World) (B:Nat) (hB:B<=w.heap.size) (v:Value) (A:List Sg) (hs:a.eval s=v) (hown:OwnS w B v A) (g:Nat) (L:List Sg) (hx:a.eval x=.slice (some ⟨g,0,none⟩) L.length L.length) (hat:AtL w g (zAc L)) (hl:A.length+L.length<=1000)
  (h:∀ v' w',OwnS w' B v' (A++L)->w.grownBy w' v.ownBlock->wpList prog ops Q rest (a.put o.dst v') w'):wpList prog ops Q (o::rest) a w:=by
 obtain ⟨i0,hi0,hz0,hz1,hz2⟩:=info_parts zIu;refine wpList_plain hgd λK hK=>?_
 refine wp_append_own _ s x 155 ho B 130 i0 _ 6 64 underlying155 hi0 hz0 hz1 hz2 rfl (by decide) v A.length (zAc A) hs hown ⟨g,0,none⟩ L.length L.length (zAc L) hx (zCr L) (λj u hj=>?_) (zCW L) (by unfold maxLen;omega) (by omega) hB ?_
 ·have:=hat.2.1 j u hj;rw [show (⟨g,0,none⟩:Addr).add j=⟨g,j,none⟩ from by
   simp [Addr.add];try (intro h0;omega)]
  exact this
 ·intro v' w' own hg _;refine hK _ _ (h v' w' ?_ hg);unfold OwnS;rw [List.length_append,zCb];exact own
theorem zMQ (w:World):(Instr.buildSlice 155 11 #[(0,.agg (zAs[0]).cs.toArray),(1,.agg (zAs[1]).cs.toArray),(2,.agg (zAs[2]).cs.toArray),(3,.agg (zAs[3]).cs.toArray),(4,.agg (zAs[4]).cs.toArray),(5,.agg (zAs[5]).cs.toArray),(6,.agg (zAs[6]).cs.toArray),(7,.agg (zAs[7]).cs.toArray),(8,.agg (zAs[8]).cs.toArray),(9,.agg (zAs[9]).cs.toArray),(10,.agg (zAs[10]).cs.toArray)]).run prog w=.ok (.slice (some ⟨w.heap.size,0,none⟩) 11 11) (w.alloc (.cells (zAc zAs).toArray 130)):=by kernel_rfl
theorem zDG {op:Oper} (hgd:op.guard=none) (ho:op.op=.buildSlice 155 11 #[(0,.tmp 26),(1,.tmp 27),(2,.tmp 28),(3,.tmp 29),(4,.tmp 30),(5,.tmp 31),(6,.tmp 32),(7,.tmp 33),(8,.tmp 34),(9,.tmp 35),(10,.tmp 36)]) (h0:a.eval (.tmp 26)=.agg (zAs[0]).cs.toArray) (h1:a.eval (.tmp 27)=.agg (zAs[1]).cs.toArray) (h2:a.eval (.tmp 28)=.agg (zAs[2]).cs.toArray) (h3:a.eval (.tmp 29)=.agg (zAs[3]).cs.toArray) (h4:a.eval (.tmp 30)=.agg (zAs[4]).cs.toArray) (h5:a.eval (.tmp 31)=.agg (zAs[5]).cs.toArray) (h6:a.eval (.tmp 32)=.agg (zAs[6]).cs.toArray) (h7:a.eval (.tmp 33)=.agg (zAs[7]).cs.toArray) (h8:a.eval (.tmp 34)=.agg (zAs[8]).cs.toArray) (h9:a.eval (.tmp 35)=.agg (zAs[9]).cs.toArray) (h10:a.eval (.tmp 36)=.agg (zAs[10]).cs.toArray)
  (h:wpList prog ops Q rest (a.put op.dst (.slice (some ⟨w.heap.size,0,none⟩) 11 11)) (w.alloc (.cells (zAc zAs).toArray 130))):wpList prog ops Q (op::rest) a w:=by
 refine wpList_plain hgd λK hK=>?_
 unfold Oper.wp execOp;simp only [ho,List.map_toArray,List.map_cons,List.map_nil,h0,h1,h2,h3,h4,h5,h6,h7,h8,h9,h10,Sem.run_bind,Sem.run_pure,Result.andThen_ok,zMQ];exact hK _ _ h
theorem OwnS.blk {A:List Sg} (h:OwnS w B v A) {g:Nat} (e:v.ownBlock=some g):B<=g/\g<w.heap.size:=zAW h e
theorem OwnS.below {A:List Sg} (h:OwnS w B v A) (hb:Below w.heap.size w w'):OwnS w' B v A:=zAl (Fr.of_below [] hb) h (by simp)
theorem zCG:allS.length=49:=by kernel_rfl
theorem zHh:allS.all (λs=>zAp s.id && ((zA5 s.id).c == s.c && ((zA5 s.id).l == s.l && (zA5 s.id).m == s.m)))=true:=by kernel_rfl
theorem zGf:(List.range 63).all (λk=>!zAp (k:Int) || allS.any (λs=>s.id == (k:Int)))=true:=by kernel_rfl
theorem zD9 {s:Sg} (h:s ∈ allS):zAp s.id=true/\(zA5 s.id).c=s.c/\(zA5 s.id).l=s.l/\(zA5 s.id).m=s.m:=by
 have:=List.all_eq_true.1 zHh s h;simp only [Bool.and_eq_true,beq_iff_eq] at this;exact this
theorem zJz {id:Int} (h:zAp id=true):∃ s ∈ allS,s.id=id:=by
 have hk:=h;unfold zAp at hk;simp only [Bool.and_eq_true,decide_eq_true_eq] at hk;have h2:=List.all_eq_true.1 zGf id.toNat (List.mem_range.2 (by omega));have e:((id.toNat:Nat):Int)=id:=by omega
 rw [e,h] at h2;simp only [Bool.not_true,Bool.false_or] at h2;obtain ⟨s,hs,he⟩:=List.any_eq_true.1 h2;exact ⟨s,hs,by simpa using he⟩
