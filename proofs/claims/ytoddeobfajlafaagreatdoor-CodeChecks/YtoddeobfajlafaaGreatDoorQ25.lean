/- KWs, KCls, KClA, KClB, KClT. -/
import Derived.Test.YtoddeobfajlafaaGreatDoorQ24
set_option maxHeartbeats 1600000
set_option maxRecDepth 100000
namespace Go.Proofs.YtoddeobfajlafaaGreatDoor
open Tryz
variable {w w' w1:World} {k B:Nat} {T:Nat->Nat} {s0 s1 lv v a b:Value} {L:List Wf.I} {P:List (Wc.In × Value)}
abbrev zPZ:Oper:=⟨some 3,.load 209 (.tmp 0),209,"writer.go:23",#[],none⟩
abbrev zP7:Oper:=⟨some 4,.load 101 (.tmp 1),101,"writer.go:23",#[],none⟩
abbrev zPD:Oper:=⟨some 5,.nilCheck (.tmp 4),0,"writer.go:23",#[⟨1,.data⟩],none⟩
abbrev zPR:Oper:=⟨some 6,.fieldAddr 68 (.tmp 5) 1,0,"writer.go:23",#[⟨2,.data⟩],none⟩
abbrev zPU:Oper:=⟨some 7,.load 36 (.tmp 6),36,"writer.go:23",#[⟨3,.data⟩],none⟩
abbrev zP6:Oper:=⟨some 8,.load 3 (.tmp 2),3,"writer.go:23",#[],none⟩
abbrev zO4:Oper:=⟨some 9,.indexAddr 36 (.tmp 7) (.tmp 8),0,"writer.go:23",#[⟨4,.data⟩,⟨5,.data⟩],none⟩
abbrev zO6:Oper:=⟨some 10,.load 101 (.tmp 1),101,"writer.go:23",#[],none⟩
abbrev zP4:Oper:=⟨some 11,.nilCheck (.tmp 10),0,"writer.go:23",#[⟨7,.data⟩],none⟩
abbrev zPt:Oper:=⟨some 12,.fieldAddr 68 (.tmp 11) 1,0,"writer.go:23",#[⟨8,.data⟩],none⟩
abbrev zL7:Oper:=⟨some 13,.load 36 (.tmp 12),36,"writer.go:23",#[⟨9,.data⟩],none⟩
abbrev zLh:Oper:=⟨some 14,.call {callee:=Callee.builtin Builtin.len,args:=#[.tmp 13],argTypes:=#[36]},3,"writer.go:23",#[⟨10,.data⟩],none⟩
abbrev zLd:Oper:=⟨some 15,.call {callee:=Callee.value (.tmp 3),args:=#[.tmp 9,.tmp 14],argTypes:=#[220,3]},0,"writer.go:23",#[⟨0,.data⟩,⟨6,.data⟩,⟨11,.data⟩],none⟩
open Go.RowKit Wf
set_option linter.unusedVariables false
structure WS (k B:Nat) (T:Nat->Nat) (w:World) (s0 s1:Value) (L:List I) (lv:Value) (P:List (Wc.In × Value)):Prop where
 at':AtL w k [s0,s1,lv]
 own:OwnI w B lv P
 len:P.length=L.length
 ins:∀ i (h:i<P.length) (h':i<L.length),(P[i]).1=(L[i]).1/\OwnZ w (T i) (P[i]).2 (L[i]).2
 tb:∀ i,B<=T i
 dis:∀ i j (h:i<P.length) (h':j<P.length) b,(P[i]).2.ownBlock=some b->(P[j]).2.ownBlock=some b->i=j
def Nx (w:World) (lv lv':Value):Prop:=∀ j,lv'.ownBlock=some j->lv.ownBlock=some j \/ w.heap.size<=j
theorem Nx.refl (w:World) (lv:Value):Nx w lv lv:=λj e=>Or.inl e
theorem Nx.trans {c:Value} (h:Nx w a b) (h':Nx w1 b c) (hs:w.heap.size<=w1.heap.size):Nx w a c:=λj e=>by
 rcases h' j e with q | q
 ·exact h j q
 ·exact Or.inr (Nat.le_trans hs q)
theorem zKA {w2:World} (h:Fr (k::a.ownBlock.toList) w w1) (h':Fr (k::b.ownBlock.toList) w1 w2) (hn:Nx w a b):Fr (k::a.ownBlock.toList) w w2 :=
 h.new h' (λj hj=>by
  rcases List.mem_cons.1 hj with q | q
  ·exact Or.inl (by rw [q];exact List.mem_cons_self ..)
  ·rcases hn j (by simpa using q) with e | e
   ·exact Or.inl (List.mem_cons_of_mem _ (by simp [e]))
   ·exact Or.inr e)
def WP (k B:Nat) (T:Nat->Nat) (s0 s1:Value) (L:List I) (lv:Value) (w:World) (e:Ending) (w':World):Prop :=
 (∃ lv' P',e=.returned (.tuple #[])/\WS k B T w' s0 s1 L lv' P'/\Nx w lv lv')/\Fr (k::lv.ownBlock.toList) w w'
theorem zBE {C T U m:Nat} {u:Value} {n n':Nat} {xs ys:List Value} (h:w.ownsRow B T k u n xs) (h':w.ownsRow C U m v n' ys) (hne:¬ T=U) {b:Nat} (e:u.ownBlock=some b):¬ v.ownBlock=some b:=λe2=>by
 rcases h.2 with ⟨q,_⟩ | ⟨g1,c1,cur1,q1,_,r1,_⟩
 ·rw [q] at e;cases e
 ·rcases h'.2 with ⟨q,_⟩ | ⟨g2,c2,cur2,q2,_,r2,_⟩
  ·rw [q] at e2;cases e2
  ·rw [q1] at e;rw [q2] at e2;have a1:g1=b:=by simpa [Value.ownBlock] using e
   have a2:g2=b:=by simpa [Value.ownBlock] using e2
   rw [a1] at r1;rw [a2,r1] at r2;simp only [Option.some.injEq,Obj.cells.injEq] at r2;exact hne r2.2.1
theorem WS.fr (h:WS k B T w s0 s1 L lv P) {S:List Nat} (f:Fr S w w') (hk:k ∉ S) (hl:∀ j,lv.ownBlock=some j->j ∉ S) (ht:∀ i (h:i<P.length) b,(P[i]).2.ownBlock=some b->b ∉ S):WS k B T w' s0 s1 L lv P :=
 ⟨h.at'.fr f hk,zA2 f h.own hl,h.len,λi h1 h2=>⟨(h.ins i h1 h2).1,zA2 f (h.ins i h1 h2).2 (λj e=>ht i h1 j e)⟩,h.tb,h.dis⟩
theorem WS.below (h:WS k B T w s0 s1 L lv P) (hb:Below w.heap.size w w'):WS k B T w' s0 s1 L lv P :=
 h.fr (Fr.of_below [] hb) (by simp) (λj _=>by simp) (λi _ b _=>by simp)
theorem zAk (k B:Nat) (T:Nat->Nat) (x:Wc.In) (s0 s1:Value) (L:List I) (lv:Value) (P:List (Wc.In × Value)) (w:World) (h:WS k B T w s0 s1 L lv P) (hkB:k<B) (hB:B<=w.heap.size) (hl:L.length<=1000000) :
  Calls prog 28 #[.pointer (some ⟨k,0,none⟩),.agg (zAD x zAG).toArray] w (WP k B T s0 s1 (L++[(x,[])]) lv w):=by
 refine (zHD k B x s0 s1 lv P w h.at' h.own hkB hB (by rw [h.len];exact hl)).mono ?_;rintro e w' ⟨⟨lv',rfl,ha,ho,hn⟩,hf⟩;refine ⟨⟨lv',P++[(x,zAG)],rfl,⟨ha,ho,by simp [h.len],λi h1 h2=>?_,h.tb,λi j h1 h2 b e1 e2=>?_⟩,hn⟩,hf⟩
 ·by_cases hi:i<P.length
  ·have hi2:i<L.length:=by rw [<-h.len];exact hi
   rw [List.getElem_append_left hi,List.getElem_append_left hi2];refine ⟨(h.ins i hi hi2).1,zA2 hf (h.ins i hi hi2).2 (λb e hm=>?_)⟩;rcases List.mem_cons.1 hm with q | q
   ·have:=(zAN (h.ins i hi hi2).2 e).1;have:=h.tb i;omega
   ·exact zBE (h.ins i hi hi2).2 h.own (by decide) e (by simpa using q)
  ·have e1:i=P.length:=by simp at h1;omega
   subst e1;have e2:(P++[(x,zAG)])[P.length]=(x,zAG):=by simp
   have e3:(L++[(x,([]:List Int))])[P.length]=(x,[]):=by simp [h.len]
   rw [e2,e3];exact ⟨rfl,OwnZ.nil _ _⟩
 ·have hx:∀ i (h1:i<(P++[(x,zAG)]).length),((P++[(x,zAG)])[i]).2.ownBlock=some b->i<P.length:=λi h1 e=>by
   rcases Nat.lt_or_ge i P.length with q | q
   ·exact q
   ·have e0:i=P.length:=by simp at h1;omega
    subst e0;have e2:(P++[(x,zAG)])[P.length]=(x,zAG):=by simp
    rw [e2] at e;cases e
  have a1:=hx i h1 e1;have a2:=hx j h2 e2;rw [List.getElem_append_left a1] at e1;rw [List.getElem_append_left a2] at e2;exact h.dis i j a1 a2 b e1 e2
def Cl (k:Nat) (w:World) (f at':Nat) (bs:List Nat) (cl:Value):Prop:=∃ bi bw ba,bs=[bi,bw,ba]/\cl=.func (.func 174) #[] #[.pointer (some ⟨bi,0,none⟩),.pointer (some ⟨bw,0,none⟩),.pointer (some ⟨ba,0,none⟩)] /\
 w.cell? ⟨bi,0,none⟩=some (.func (.func f) #[] #[])/\w.cell? ⟨bw,0,none⟩=some (.pointer (some ⟨k,0,none⟩))/\w.cell? ⟨ba,0,none⟩=some (.int .i64 (at':Int))
theorem Cl.fr {f at':Nat} {bs:List Nat} {cl:Value} (h:Cl k w f at' bs cl) {S:List Nat} (hf:Fr S w w') (hs:∀ b ∈ bs,b ∉ S):Cl k w' f at' bs cl:=by
 obtain ⟨bi,bw,ba,rfl,e,h1,h2,h3⟩:=h;exact ⟨bi,bw,ba,rfl,e,hf.cell h1 (hs _ (by simp)),hf.cell h2 (hs _ (by simp)),hf.cell h3 (hs _ (by simp))⟩
theorem zCY (k B f:Nat) (T:Nat->Nat) (s0 s1:Value) (L:List I) (lv:Value) (P:List (Wc.In × Value)) (w:World) (h:WS k B T w s0 s1 L lv P) (h0:0<L.length) (hl:L.length<=1000000) :
  Calls prog 156 #[.pointer (some ⟨k,0,none⟩),.func (.func f) #[] #[]] w λe w'=>(∃ cl bs,e=.returned cl/\Cl k w' f (L.length - 1) bs cl/\∀ b ∈ bs,w.heap.size<=b/\b<w'.heap.size)/\Below w.heap.size w w':=by
 have hn:=h.len;rcases h.own.2 with ⟨e,h9⟩ | ⟨g,cap,cur,e,_⟩
 ·rw [hn] at h9;omega
 subst e;rw [hn] at h;obtain ⟨m,hm⟩:∃ m,L.length=m:=⟨_,rfl⟩
 rw [hm] at h h0 hl ⊢;have c2:=h.at'.2.1 2 _ rfl;have hlt:=h.at'.lt;clear hn hm h;have hb0:=zAJ (zAJ (Below.refl _ w) (.cells #[.pointer (some ⟨k,0,none⟩)] 101)) (.cells #[.func (.func f) #[] #[]] 209);have pW:=(AtL.new0 w 101 [.pointer (some ⟨k,0,none⟩)]).alloc (.cells #[.func (.func f) #[] #[]] 209);have pI:=AtL.new1 w (.cells #[.pointer (some ⟨k,0,none⟩)] 101) 209 [.func (.func f) #[] #[]];have d2:=zAC hb0 c2;have x0:=pW.2.1 0 _ rfl;have hms:IntKind.i64.wrap ((m:Int) - 1)=((m - 1:Nat):Int):=by rw [IntKind.wrap_i64];omega
 clear c2;go_enter func156,ntmps156;go_upto_region 1 with fail
 generalize ((w.alloc (.cells [.pointer (some ⟨k,0,none⟩)].toArray 101)).alloc (.cells [.func (.func f) #[] #[]].toArray 209))=W at *;have hb1:=zAJ (Below.refl _ W) (.cells #[.int .i64 ((m - 1:Nat):Int)] 3);have pA:=AtL.new0 W 3 [.int .i64 ((m - 1:Nat):Int)];have pW1:=AtL.below hb1 pW;have pI1:=AtL.below hb1 pI;have hB:=zAB hb0 hb1;go_upto_region 2 with fail
 have hzW:=hb0.size;clear d2 x0 pW pI hb0 hb1;generalize (W.alloc (.cells [.int .i64 ((m - 1:Nat):Int)].toArray 3))=W2 at *;have HCL:Hid (W2.cell? ⟨w.heap.size+1,0,none⟩=some (.func (.func f) #[] #[])/\W2.cell? ⟨w.heap.size,0,none⟩=some (.pointer (some ⟨k,0,none⟩))/\W2.cell? ⟨W.heap.size,0,none⟩=some (.int .i64 ((m - 1:Nat):Int))):=⟨pI1.2.1 0 _ rfl,pW1.2.1 0 _ rfl,pA.2.1 0 _ rfl⟩
 have HSZ:Hid (w.heap.size+1<W2.heap.size/\W.heap.size<W2.heap.size/\w.heap.size<=W.heap.size):=⟨pI1.lt,pA.lt,hzW⟩
 clear pW1 pI1 pA hzW;go_wp2;go_ret;refine ⟨⟨_,_,rfl,⟨_,_,_,rfl,rfl,HCL.out.1,HCL.out.2.1,HCL.out.2.2⟩,λb hb=>?_⟩,hB⟩;have hz:=HSZ.out;simp at hb;omega
theorem zCN:∀ (A:List (Wc.In × Value)) (i:Nat) (h:i<A.length) (j:Nat) (v:Value),(zAD (A[i]).1 (A[i]).2)[j]? = some v->(zA7 A)[i * 23+j]? = some v
 | [],i,h,_,_,_=>absurd h (Nat.not_lt_zero _)
 | x::r,0,h,j,v,hv=>by
  have hj:j<(zAD x.1 x.2).length:=by
   rcases Nat.lt_or_ge j (zAD x.1 x.2).length with q | q
   ·exact q
   ·simp only [List.getElem_cons_zero] at hv;rw [List.getElem?_eq_none q] at hv;cases hv
  simp only [zA7,Nat.zero_mul,Nat.zero_add];rw [List.getElem?_append_left hj];exact hv
 | x::r,i+1,h,j,v,hv=>by
  have hl:(zAD x.1 x.2).length=23:=rfl;simp only [zA7];rw [List.getElem?_append_right (by rw [hl];omega),hl,show (i+1) * 23+j - 23=i * 23+j from by omega];exact zCN r i (by simpa using h) j v (by simpa using hv)
theorem zC2 (A:List (Wc.In × Value)) (i:Nat) (h:i<A.length) (y:Wc.In × Value) (j:Nat) (u:Value) (hy:(zAD (A[i]).1 (A[i]).2).set j u=zAD y.1 y.2) (hj:j<23):(zA7 A).set (i * 23+j) u=zA7 (A.set i y):=by
 induction A generalizing i with
 | nil=>cases h
 | cons x r ih =>
  have hl:(zAD x.1 x.2).length=23:=rfl;cases i with
  | zero =>
   simp only [zA7,List.set_cons_zero,Nat.zero_mul,Nat.zero_add];rw [List.set_append_left _ _ (by rw [hl];exact hj)];simp only [List.getElem_cons_zero] at hy;rw [hy]
  | succ i =>
   simp only [zA7,List.set_cons_succ];rw [List.set_append_right _ _ (by rw [hl];omega),hl,show (i+1) * 23+j - 23=i * 23+j from by omega];rw [ih i (by simpa using h) (by simpa using hy)]
theorem zIi {g o:Nat} (h:WS k B T (w.setCell ⟨g,o,none⟩ v) s0 s1 L lv P):WS k B T (w.drew.setCell ⟨g,o,none⟩ v) s0 s1 L lv P:=by
 have hb:Below (w.setCell ⟨g,o,none⟩ v).heap.size (w.setCell ⟨g,o,none⟩ v) (w.setCell ⟨g,o,none⟩ v).drew:=(Below.refl _ _).drew;exact h.below hb
theorem zMP (h:WS k B T w s0 s1 L lv P) (hkB:k<B) {g cap i:Nat} (hlv:lv=.slice (some ⟨g,0,none⟩) P.length cap) (hi:i<P.length) (hi2:i<L.length) (v:Int) :
  WS k B T (w.setCell ⟨g,i * 23+1,none⟩ (.int .i64 v)) s0 s1 (L.set i ({(L[i]).1 with a:=v},(L[i]).2)) lv (P.set i ({(P[i]).1 with a:=v},(P[i]).2)):=by
 subst hlv;have hst:=h.own.stored (i * 23+1) (.int .i64 v);have hg:=(zAN h.own (show Value.ownBlock (.slice (some ⟨g,0,none⟩) P.length cap)=some g from rfl)).1;have hf:Fr [g] w (w.setCell ⟨g,i * 23+1,none⟩ (.int .i64 v)):=Fr.of_grown hst.2 (λj e=>by cases e;simp);have h2nd:∀ j (h1:j<P.length),((P.set i ({(P[i]).1 with a:=v},(P[i]).2))[j]'(by rw [List.length_set];exact h1)).2=(P[j]).2:=λj h1=>by
  by_cases e:i=j
  ·subst e;rw [List.getElem_set_self]
  ·rw [List.getElem_set_ne e]
 refine ⟨h.at'.fr hf (by simp;omega),?_,by simp [h.len],λj h1 h2=>?_,h.tb,λa b h1 h2 c e1 e2=>?_⟩
 ·have:=hst.1;rw [zC2 P i hi ({(P[i]).1 with a:=v},(P[i]).2) 1 _ rfl (by omega)] at this;unfold OwnI;rw [List.length_set];exact this
 ·rw [List.length_set] at h1 h2;have hz:OwnZ (w.setCell ⟨g,i * 23+1,none⟩ (.int .i64 v)) (T j) (P[j]).2 (L[j]).2:=zA2 hf (h.ins j h1 h2).2 (λb e hm=>zBE (h.ins j h1 h2).2 h.own (by decide) e (by simp at hm;rw [hm];rfl));by_cases e:i=j
  ·subst e;rw [List.getElem_set_self,List.getElem_set_self];exact ⟨by rw [(h.ins i h1 h2).1],hz⟩
  ·rw [List.getElem_set_ne e,List.getElem_set_ne e];exact ⟨(h.ins j h1 h2).1,hz⟩
 ·rw [List.length_set] at h1 h2;rw [h2nd a h1] at e1;rw [h2nd b h2] at e2;exact h.dis a b h1 h2 c e1 e2
theorem zM9 (h:WS k B T w s0 s1 L lv P) (hkB:k<B) {g cap i:Nat} (hlv:lv=.slice (some ⟨g,0,none⟩) P.length cap) (hi:i<P.length) (hi2:i<L.length) (v:Int) :
  WS k B T (w.setCell ⟨g,i * 23+2,none⟩ (.int .i64 v)) s0 s1 (L.set i ({(L[i]).1 with b:=v},(L[i]).2)) lv (P.set i ({(P[i]).1 with b:=v},(P[i]).2)):=by
 subst hlv;have hst:=h.own.stored (i * 23+2) (.int .i64 v);have hg:=(zAN h.own (show Value.ownBlock (.slice (some ⟨g,0,none⟩) P.length cap)=some g from rfl)).1;have hf:Fr [g] w (w.setCell ⟨g,i * 23+2,none⟩ (.int .i64 v)):=Fr.of_grown hst.2 (λj e=>by cases e;simp);have h2nd:∀ j (h1:j<P.length),((P.set i ({(P[i]).1 with b:=v},(P[i]).2))[j]'(by rw [List.length_set];exact h1)).2=(P[j]).2:=λj h1=>by
  by_cases e:i=j
  ·subst e;rw [List.getElem_set_self]
  ·rw [List.getElem_set_ne e]
 refine ⟨h.at'.fr hf (by simp;omega),?_,by simp [h.len],λj h1 h2=>?_,h.tb,λa b h1 h2 c e1 e2=>?_⟩
 ·have:=hst.1;rw [zC2 P i hi ({(P[i]).1 with b:=v},(P[i]).2) 2 _ rfl (by omega)] at this;unfold OwnI;rw [List.length_set];exact this
 ·rw [List.length_set] at h1 h2;have hz:OwnZ (w.setCell ⟨g,i * 23+2,none⟩ (.int .i64 v)) (T j) (P[j]).2 (L[j]).2:=zA2 hf (h.ins j h1 h2).2 (λb e hm=>zBE (h.ins j h1 h2).2 h.own (by decide) e (by simp at hm;rw [hm];rfl));by_cases e:i=j
  ·subst e;rw [List.getElem_set_self,List.getElem_set_self];exact ⟨by rw [(h.ins i h1 h2).1],hz⟩
  ·rw [List.getElem_set_ne e,List.getElem_set_ne e];exact ⟨(h.ins j h1 h2).1,hz⟩
 ·rw [List.length_set] at h1 h2;rw [h2nd a h1] at e1;rw [h2nd b h2] at e2;exact h.dis a b h1 h2 c e1 e2
theorem zIB (g o:Nat) (v:Int) (u:Value) (w:World) (hc:w.cell? ⟨g,o+1,none⟩=some u) (hz:w.frozen? ⟨g,o+1,none⟩=false):Calls prog 157 #[.pointer (some ⟨g,o,none⟩),.int .i64 v] w λe w'=>e=.returned (.tuple #[])/\w'=w.setCell ⟨g,o+1,none⟩ (.int .i64 v):=by
 go_enter func157,ntmps157;go_wp2;go_end0
 exact ⟨rfl,rfl⟩
theorem zI0 (g o:Nat) (v:Int) (u:Value) (w:World) (hc:w.cell? ⟨g,o+2,none⟩=some u) (hz:w.frozen? ⟨g,o+2,none⟩=false):Calls prog 158 #[.pointer (some ⟨g,o,none⟩),.int .i64 v] w λe w'=>e=.returned (.tuple #[])/\w'=w.setCell ⟨g,o+2,none⟩ (.int .i64 v):=by
 go_enter func158,ntmps158;go_wp2;go_end0
 exact ⟨rfl,rfl⟩
theorem zE5 (k B:Nat) (T:Nat->Nat) (s0 s1:Value) (L:List I) (lv:Value) (P:List (Wc.In × Value)) (w:World) (at':Nat) (bi bw ba:Nat) (h:WS k B T w s0 s1 L lv P) (hkB:k<B) (hl:L.length<=1000000) (hat:at' < L.length)
  (h1:w.cell? ⟨bi,0,none⟩=some (.func (.func 157) #[] #[])) (h2:w.cell? ⟨bw,0,none⟩=some (.pointer (some ⟨k,0,none⟩))) (h3:w.cell? ⟨ba,0,none⟩=some (.int .i64 (at':Int))) (hn:∀ b,lv.ownBlock=some b->bi ≠ b/\bw ≠ b/\ba ≠ b) :
  Calls prog 174 #[.pointer (some ⟨bi,0,none⟩),.pointer (some ⟨bw,0,none⟩),.pointer (some ⟨ba,0,none⟩)] w λe w'=>(∃ P',e=.returned (.tuple #[])/\WS k B T w' s0 s1 (L.set at' ({(L[at']).1 with a:=(L.length:Int)},(L[at']).2)) lv P')/\Fr lv.ownBlock.toList w w':=by
 have hPl:=h.len;rcases h.own.2 with ⟨e,h9⟩ | ⟨g,cap,cur,e,hgB,_⟩
 ·rw [hPl] at h9;omega
 have hatP:at' < P.length:=by rw [hPl];exact hat
 have hset:=zMP h hkB e hatP hat (L.length:Int);subst e;have hown:=h.own;have hcc:=hown.cellAt (at' * 23+1) (by omega);have hzz:=hown.frozenAt (at' * 23+1);rw [zCN P at' hatP 1 (.int .i64 (P[at']).1.a) rfl] at hcc;rw [hPl] at h hset hn ⊢;obtain ⟨m,hm⟩:∃ m,L.length=m:=⟨_,rfl⟩
 have HAT:Hid (at' < m/\m<=1000000):=by rw [hm] at hat hl;exact ⟨hat,hl⟩
 have c2:=h.at'.2.1 2 _ rfl;have hng:=hn g rfl;have hgk:g ≠ k:=by omega
 have HNE0:Hid (bi ∉ [g]/\bw ∉ [g]/\ba ∉ [g]/\k ∉ [g]):=⟨by simpa using hng.1,by simpa using hng.2.1,by simpa using hng.2.2,by simpa using hgk.symm⟩
 obtain ⟨L2,hL2⟩:∃ L2,L.set at' ({(L[at']).1 with a:=(L.length:Int)},(L[at']).2)=L2:=⟨_,rfl⟩
 obtain ⟨P2,hP2⟩:∃ P2,P.set at' ({(P[at']).1 with a:=(L.length:Int)},(P[at']).2)=P2:=⟨_,rfl⟩
 rw [hL2,hP2] at hset;rw [hL2];rw [hm] at c2 hset ⊢;have hf0:Fr [g] w (w.setCell ⟨g,at' * 23+1,none⟩ (.int .i64 (m:Int))):=Fr.of_grown (zAM _ _ _ _) (λj e=>by cases e;simp);have hWD:=(Below.refl w.heap.size w).drew;have hset2:WS k B T (w.drew.setCell ⟨g,at' * 23+1,none⟩ (.int .i64 (m:Int))) s0 s1 L2 (.slice (some ⟨g,0,none⟩) m cap) P2:=zIi hset;have hfr:Fr [g] w.drew (w.drew.setCell ⟨g,at' * 23+1,none⟩ (.int .i64 (m:Int))):=Fr.of_grown (zAM _ _ _ _) (λj e=>by cases e;simp);have HFR:Hid (Fr (Value.ownBlock (.slice (some ⟨g,0,none⟩) m cap)).toList w (w.drew.setCell ⟨g,at' * 23+1,none⟩ (.int .i64 (m:Int)))):=(Fr.of_below [g] hWD).trans hfr;have HWS:Hid (WS k B T (w.drew.setCell ⟨g,at' * 23+1,none⟩ (.int .i64 (m:Int))) s0 s1 L2 (.slice (some ⟨g,0,none⟩) m cap) P2):=hset2;have HNE:Hid (bi ∉ [g]/\bw ∉ [g]/\ba ∉ [g]/\k ∉ [g]):=HNE0;replace hcc:w.drew.cell? ⟨g,at' * 23+1,none⟩=some (.int .i64 (P[at']).1.a):=hcc
 replace hzz:w.drew.frozen? ⟨g,at' * 23+1,none⟩=false:=hzz
 replace h1:w.drew.cell? ⟨bi,0,none⟩=some (.func (.func 157) #[] #[]):=h1
 replace h2:w.drew.cell? ⟨bw,0,none⟩=some (.pointer (some ⟨k,0,none⟩)):=h2
 replace h3:w.drew.cell? ⟨ba,0,none⟩=some (.int .i64 (at':Int)):=h3
 replace c2:w.drew.cell? ⟨k,2,none⟩=some (.slice (some ⟨g,0,none⟩) m cap):=c2
 have ha1:(at':Int)<(m:Int):=by have:=HAT.out;omega
 have ha0:(0:Int)<=(at':Int):=by omega
 have IN:=λ(W:World) (h1:W.cell? ⟨g,at' * 23+1,none⟩=some (.int .i64 (P[at']).1.a)) (h2:W.frozen? ⟨g,at' * 23+1,none⟩=false)=>zIB g (at' * 23) (m:Int) _ W h1 h2
 generalize (P[at']).1.a=u at *;clear hset hset2 hf0 hWD hown h hPl hatP hat hl hm hn hng hgk HNE0 hL2 hP2;go_enter func174,ntmps174;refine wp_region_held_drew (S:=λW=>W.cell? ⟨bi,0,none⟩=some (.func (.func 157) #[] #[])/\W.cell? ⟨bw,0,none⟩=some (.pointer (some ⟨k,0,none⟩))/\W.cell? ⟨ba,0,none⟩=some (.int .i64 (at':Int))/\W.cell? ⟨k,2,none⟩=some (.slice (some ⟨g,0,none⟩) m cap)) (by kernel_rfl) ⟨h1,h2,h3,c2⟩ (λhHeld=>?_);generalize w.drew=WD at *;refine tkQ 0 zPZ ?_
 refine tkQ 1 zP7 ?_
 refine tkQ 2 zPD ?_
 refine tkQ 3 zPR ?_
 refine tkQ 4 zPU ?_
 refine tkQ 5 zP6 ?_
 refine tkQ 6 zO4 ?_
 refine tkQ 7 zO6 ?_
 refine tkQ 8 zP4 ?_
 refine tkQ 9 zPt ?_
 refine tkQ 10 zL7 ?_
 refine tkQ 11 zLh ?_
 refine rdQ 12 zLd (λK hK=>?_);go_simp
 refine (IN _ hcc hzz).mono ?_;rintro e w2 ⟨rfl,rfl⟩;go_wp2_with fail
 refine hkQ hK ⟨hfr.cell h1 HNE.out.1,hfr.cell h2 HNE.out.2.1,hfr.cell h3 HNE.out.2.2.1,hfr.cell c2 HNE.out.2.2.2⟩ (λhHeld=>?_);clear hK K
 refine wpAnyH_done (by kernel_rfl) ?_ _;clear hHeld h1 h2 h3 c2 hcc hzz hfr IN;go_wp2;go_end0
 exact ⟨⟨_,rfl,HWS.out⟩,HFR.out⟩
theorem zIh (k B:Nat) (T:Nat->Nat) (s0 s1:Value) (L:List I) (lv:Value) (P:List (Wc.In × Value)) (w:World) (at':Nat) (bi bw ba:Nat) (h:WS k B T w s0 s1 L lv P) (hkB:k<B) (hl:L.length<=1000000) (hat:at' < L.length)
  (h1:w.cell? ⟨bi,0,none⟩=some (.func (.func 158) #[] #[])) (h2:w.cell? ⟨bw,0,none⟩=some (.pointer (some ⟨k,0,none⟩))) (h3:w.cell? ⟨ba,0,none⟩=some (.int .i64 (at':Int))) (hn:∀ b,lv.ownBlock=some b->bi ≠ b/\bw ≠ b/\ba ≠ b) :
  Calls prog 174 #[.pointer (some ⟨bi,0,none⟩),.pointer (some ⟨bw,0,none⟩),.pointer (some ⟨ba,0,none⟩)] w λe w'=>(∃ P',e=.returned (.tuple #[])/\WS k B T w' s0 s1 (L.set at' ({(L[at']).1 with b:=(L.length:Int)},(L[at']).2)) lv P')/\Fr lv.ownBlock.toList w w':=by
 have hPl:=h.len;rcases h.own.2 with ⟨e,h9⟩ | ⟨g,cap,cur,e,hgB,_⟩
 ·rw [hPl] at h9;omega
 have hatP:at' < P.length:=by rw [hPl];exact hat
 have hset:=zM9 h hkB e hatP hat (L.length:Int);subst e;have hown:=h.own;have hcc:=hown.cellAt (at' * 23+2) (by omega);have hzz:=hown.frozenAt (at' * 23+2);rw [zCN P at' hatP 2 (.int .i64 (P[at']).1.b) rfl] at hcc;rw [hPl] at h hset hn ⊢;obtain ⟨m,hm⟩:∃ m,L.length=m:=⟨_,rfl⟩
 have HAT:Hid (at' < m/\m<=1000000):=by rw [hm] at hat hl;exact ⟨hat,hl⟩
 have c2:=h.at'.2.1 2 _ rfl;have hng:=hn g rfl;have hgk:g ≠ k:=by omega
 have HNE0:Hid (bi ∉ [g]/\bw ∉ [g]/\ba ∉ [g]/\k ∉ [g]):=⟨by simpa using hng.1,by simpa using hng.2.1,by simpa using hng.2.2,by simpa using hgk.symm⟩
 obtain ⟨L2,hL2⟩:∃ L2,L.set at' ({(L[at']).1 with b:=(L.length:Int)},(L[at']).2)=L2:=⟨_,rfl⟩
 obtain ⟨P2,hP2⟩:∃ P2,P.set at' ({(P[at']).1 with b:=(L.length:Int)},(P[at']).2)=P2:=⟨_,rfl⟩
 rw [hL2,hP2] at hset;rw [hL2];rw [hm] at c2 hset ⊢;have hf0:Fr [g] w (w.setCell ⟨g,at' * 23+2,none⟩ (.int .i64 (m:Int))):=Fr.of_grown (zAM _ _ _ _) (λj e=>by cases e;simp);have hWD:=(Below.refl w.heap.size w).drew;have hset2:WS k B T (w.drew.setCell ⟨g,at' * 23+2,none⟩ (.int .i64 (m:Int))) s0 s1 L2 (.slice (some ⟨g,0,none⟩) m cap) P2:=zIi hset;have hfr:Fr [g] w.drew (w.drew.setCell ⟨g,at' * 23+2,none⟩ (.int .i64 (m:Int))):=Fr.of_grown (zAM _ _ _ _) (λj e=>by cases e;simp);have HFR:Hid (Fr (Value.ownBlock (.slice (some ⟨g,0,none⟩) m cap)).toList w (w.drew.setCell ⟨g,at' * 23+2,none⟩ (.int .i64 (m:Int)))):=(Fr.of_below [g] hWD).trans hfr;have HWS:Hid (WS k B T (w.drew.setCell ⟨g,at' * 23+2,none⟩ (.int .i64 (m:Int))) s0 s1 L2 (.slice (some ⟨g,0,none⟩) m cap) P2):=hset2;have HNE:Hid (bi ∉ [g]/\bw ∉ [g]/\ba ∉ [g]/\k ∉ [g]):=HNE0;replace hcc:w.drew.cell? ⟨g,at' * 23+2,none⟩=some (.int .i64 (P[at']).1.b):=hcc
 replace hzz:w.drew.frozen? ⟨g,at' * 23+2,none⟩=false:=hzz
 replace h1:w.drew.cell? ⟨bi,0,none⟩=some (.func (.func 158) #[] #[]):=h1
 replace h2:w.drew.cell? ⟨bw,0,none⟩=some (.pointer (some ⟨k,0,none⟩)):=h2
 replace h3:w.drew.cell? ⟨ba,0,none⟩=some (.int .i64 (at':Int)):=h3
 replace c2:w.drew.cell? ⟨k,2,none⟩=some (.slice (some ⟨g,0,none⟩) m cap):=c2
 have ha1:(at':Int)<(m:Int):=by have:=HAT.out;omega
 have ha0:(0:Int)<=(at':Int):=by omega
 have IN:=λ(W:World) (h1:W.cell? ⟨g,at' * 23+2,none⟩=some (.int .i64 (P[at']).1.b)) (h2:W.frozen? ⟨g,at' * 23+2,none⟩=false)=>zI0 g (at' * 23) (m:Int) _ W h1 h2
 generalize (P[at']).1.b=u at *;clear hset hset2 hf0 hWD hown h hPl hatP hat hl hm hn hng hgk HNE0 hL2 hP2;go_enter func174,ntmps174;refine wp_region_held_drew (S:=λW=>W.cell? ⟨bi,0,none⟩=some (.func (.func 158) #[] #[])/\W.cell? ⟨bw,0,none⟩=some (.pointer (some ⟨k,0,none⟩))/\W.cell? ⟨ba,0,none⟩=some (.int .i64 (at':Int))/\W.cell? ⟨k,2,none⟩=some (.slice (some ⟨g,0,none⟩) m cap)) (by kernel_rfl) ⟨h1,h2,h3,c2⟩ (λhHeld=>?_);generalize w.drew=WD at *;refine tkQ 0 zPZ ?_
 refine tkQ 1 zP7 ?_
 refine tkQ 2 zPD ?_
 refine tkQ 3 zPR ?_
 refine tkQ 4 zPU ?_
 refine tkQ 5 zP6 ?_
 refine tkQ 6 zO4 ?_
 refine tkQ 7 zO6 ?_
 refine tkQ 8 zP4 ?_
 refine tkQ 9 zPt ?_
 refine tkQ 10 zL7 ?_
 refine tkQ 11 zLh ?_
 refine rdQ 12 zLd (λK hK=>?_);go_simp
 refine (IN _ hcc hzz).mono ?_;rintro e w2 ⟨rfl,rfl⟩;go_wp2_with fail
 refine hkQ hK ⟨hfr.cell h1 HNE.out.1,hfr.cell h2 HNE.out.2.1,hfr.cell h3 HNE.out.2.2.1,hfr.cell c2 HNE.out.2.2.2⟩ (λhHeld=>?_);clear hK K
 refine wpAnyH_done (by kernel_rfl) ?_ _;clear hHeld h1 h2 h3 c2 hcc hzz hfr IN;go_wp2;go_end0
 exact ⟨⟨_,rfl,HWS.out⟩,HFR.out⟩
theorem zDf {ops:Array Oper} {rest:List Oper} {o:Oper} {a:Act} {Q:Exit->Act->World->Prop} (hgd:o.guard=none) (s x:Operand) (ho:o.op=.call {callee:=.builtin .append,args:=#[s,x],argTypes:=#[54,54]})
  (w:World) (B:Nat) (hB:B<=w.heap.size) (v:Value) (A:List Int) (hs:a.eval s=v) (hown:OwnZ w B v A) (g:Nat) (y:Int) (hx:a.eval x=.slice (some ⟨g,0,none⟩) 1 1) (hat:w.cell? ⟨g,0,none⟩=some (.int .i64 y)) (hl:True->A.length<=1000000)
  (h:∀ v' w',OwnZ w' B v' (A++[y])->w.grownBy w' v.ownBlock->(v'.ownBlock=v.ownBlock \/ v'.ownBlock=some w.heap.size)->wpList prog ops Q rest (a.put o.dst v') w'):wpList prog ops Q (o::rest) a w:=by
 obtain ⟨i0,hi0,hz0,hz1,hz2⟩:=info_parts zFI;have hl:=hl trivial;refine wpList_plain hgd λK hK=>?_
 have hnews:∀ j u,([Value.int .i64 y])[j]? = some u->w.cell? ((⟨g,0,none⟩:Addr).add j)=some u:=λj u hj=>by
  cases j with
  | zero=>simp only [List.getElem?_cons_zero,Option.some.injEq] at hj;subst hj;exact hat
  | succ j=>simp at hj
 obtain ⟨v',w',hr,own,hg,_,hb⟩:=run_append_own_at (P:=prog) w B 54 o.type 3 i0 _ 1 8 underlying54 hi0 hz0 hz1 hz2 rfl (by decide) v A.length (A.map (Value.int .i64)) hown ⟨g,0,none⟩ 1 1 [.int .i64 y] rfl hnews (λu hu=>by simp at hu;subst hu;rfl) (by unfold maxLen;omega) (by omega) hB;unfold Oper.wp execOp;simp only [ho,resolve,invoke,builtin,Sem.run_bind,Sem.run_pure,Result.andThen_ok,List.map_toArray,List.map_cons,List.map_nil,hs,hx,hr];refine hK _ _ (h v' w' ?_ hg hb);unfold OwnZ;rw [List.length_append,List.map_append];exact own
theorem OwnZ.slice {A:List Int} (h:OwnZ w B v A):∃ a m c,v=.slice a m c:=by
 rcases h.2 with ⟨e,_⟩ | ⟨g,cap,cur,e,_⟩
 ·exact ⟨_,_,_,e⟩
 ·exact ⟨_,_,_,e⟩
theorem zG7 (g o B:Nat) (v:Int) (tv:Value) (tl:List Int) (w:World) (hc:w.cell? ⟨g,o+22,none⟩=some tv) (hz:w.frozen? ⟨g,o+22,none⟩=false) (ho:OwnZ w B tv tl) (hB:B<=w.heap.size) (hl:tl.length<=1000000) (hg:¬ tv.ownBlock=some g):Calls prog 161 #[.pointer (some ⟨g,o,none⟩),.int .i64 v] w λe w'=>e=.returned (.tuple #[])/\∃ tv' w1,OwnZ w1 B tv' (tl++[v])/\Fr tv.ownBlock.toList w w1/\(∀ j,tv'.ownBlock=some j->tv.ownBlock=some j \/ w.heap.size<=j)/\w'=w1.setCell ⟨g,o+22,none⟩ tv':=by
 have hb0:=zAJ (Below.refl _ w) (.cells #[.int .i64 v] 3);have pN:=AtL.new0 w 3 [.int .i64 v];have HO:Hid (OwnZ (w.alloc (.cells #[.int .i64 v] 3)) B tv tl):=ho.below hb0;have HX:Hid ((w.alloc (.cells #[.int .i64 v] 3)).cell? ⟨w.heap.size,0,none⟩=some (.int .i64 v)):=pN.2.1 0 _ rfl;have HB:Hid (B<=(w.alloc (.cells #[.int .i64 v] 3)).heap.size/\w.heap.size<=(w.alloc (.cells #[.int .i64 v] 3)).heap.size):=⟨Nat.le_trans hB hb0.size,hb0.size⟩
 have HL:Hid (tl.length<=1000000):=hl;have HG:Hid (¬ tv.ownBlock=some g):=hg;have HC:Hid ((w.alloc (.cells #[.int .i64 v] 3)).cell? ⟨g,o+22,none⟩=some tv/\(w.alloc (.cells #[.int .i64 v] 3)).frozen? ⟨g,o+22,none⟩=false):=⟨zAC hb0 hc,by rw [(Fr.of_below [] hb0).frozen (zA0 hc) (by simp)];exact hz⟩
 have HF0:Hid (Fr tv.ownBlock.toList w (w.alloc (.cells #[.int .i64 v] 3))):=Fr.of_below _ hb0;clear pN hb0 ho hB hl hg;go_enter func161,ntmps161;go_wp2_with (first
  | (
    refine zDf rfl (.tmp 8) (.tmp 10) rfl (w.alloc (.cells #[.int .i64 v] 3)) B HB.out.1 tv tl rfl HO.out w.heap.size v rfl HX.out (λ_=>HL.out) ?_;intro tv1 w1 own1 hg1 hv1;have f1:Fr tv.ownBlock.toList (w.alloc (.cells #[.int .i64 v] 3)) w1:=Fr.of_grown hg1 (λj e=>by simp [e]);have c1:=f1.cell HC.out.1 (λe=>HG.out (by simpa using e));have z1:w1.frozen? ⟨g,o+22,none⟩=false:=by rw [f1.frozen (zA0 HC.out.1) (λe=>HG.out (by simpa using e))];exact HC.out.2
    have HF1:Hid (Fr tv.ownBlock.toList w w1):=HF0.out.trans f1;have HO1:Hid (OwnZ w1 B tv1 (tl++[v])):=own1;have HV1:Hid (∀ j,tv1.ownBlock=some j->tv.ownBlock=some j \/ w.heap.size<=j):=(λj e=>by
     rcases hv1 with q | q
     ·exact Or.inl (by rw [<-q];exact e)
     ·rw [q] at e;cases e;exact Or.inr HB.out.2:∀ j,tv1.ownBlock=some j->tv.ownBlock=some j \/ w.heap.size<=j)
    obtain ⟨a8,m8,c8,rfl⟩:=own1.slice;clear own1 hg1 hv1 f1 HO HX HC HF0))
 go_end0
 exact ⟨rfl,_,_,HO1.out,HF1.out,HV1.out,rfl⟩
