/- KTwin, KAb4. -/
import Derived.Test.YtcddpgfdadpbgaaGreatDoorQ26
set_option maxHeartbeats 1600000
set_option maxRecDepth 100000
namespace Go.Proofs.YtcddpgfdadpbgaaGreatDoor
open Tryz
variable {w w':World} {B:Nat} {a:Act} {Q:Exit->Act->World->Prop} {tv v:Value} {tl:List Int} {ops:Array Oper} {rest:List Oper} {op o:Oper} {A:List (Wc.In × Value)} {K:Act->World->Prop}
abbrev zK1:Oper:=⟨some 8,.load 22 (.tmp 7),22,"writer.go:16",#[⟨3,.data⟩],none⟩
abbrev zKY:Oper:=⟨some 10,.buildSlice 22 1 #[(0,.tmp 9)],22,"writer.go:16",#[⟨5,.data⟩],none⟩
abbrev zLS:Oper:=⟨some 11,.call {callee:=Callee.builtin Builtin.append,args:=#[.tmp 8,.tmp 10],argTypes:=#[22,22]},22,"writer.go:16",#[⟨4,.data⟩,⟨6,.data⟩],none⟩
abbrev zLG:Oper:=⟨some 12,.nilCheck (.tmp 4),0,"writer.go:16",#[⟨0,.data⟩,⟨0,.phase⟩,⟨1,.phase⟩,⟨2,.phase⟩,⟨3,.phase⟩,⟨4,.phase⟩,⟨5,.phase⟩,⟨6,.phase⟩,⟨7,.phase⟩],none⟩
abbrev zK5:Oper:=⟨some 13,.fieldAddr 83 (.tmp 12) 1,0,"writer.go:16",#[⟨8,.data⟩,⟨0,.phase⟩,⟨1,.phase⟩,⟨2,.phase⟩,⟨3,.phase⟩,⟨4,.phase⟩,⟨5,.phase⟩,⟨6,.phase⟩,⟨7,.phase⟩],none⟩
abbrev zKw:Oper:=⟨none,.store 22 (.tmp 13) (.tmp 11),0,"writer.go:16",#[⟨9,.data⟩,⟨7,.data⟩,⟨7,.chain⟩,⟨0,.phase⟩,⟨1,.phase⟩,⟨2,.phase⟩,⟨3,.phase⟩,⟨4,.phase⟩,⟨5,.phase⟩,⟨6,.phase⟩,⟨7,.phase⟩],none⟩
open Go.RowKit
set_option linter.unusedVariables false
theorem zG8 (w:World) (o:Obj):w.heap.size<(w.alloc o).heap.size:=by
 show w.heap.size<(w.heap.push o).size
 simp
def zA4:List (Wc.In × Value)->List Value
 | []=>[]
 | x::r=>zAD x.1 x.2++zA4 r
theorem zBm:∀ A:List (Wc.In × Value),(zA4 A).length=A.length * 23
 | []=>rfl
 | x::r=>by simp [zA4,zBm r,zAD];omega
theorem zBn:∀ (A C:List (Wc.In × Value)),zA4 (A++C)=zA4 A++zA4 C
 | [],C=>rfl
 | x::r,C=>by simp [zA4,zBn r C]
def OwnI (w:World) (B:Nat) (v:Value) (A:List (Wc.In × Value)):Prop:=w.ownsRow B 52 23 v A.length (zA4 A)
theorem OwnI.nil (w:World) (B:Nat):OwnI w B (.slice none 0 0) []:=⟨rfl,Or.inl ⟨rfl,rfl⟩⟩
theorem OwnI.below (h:OwnI w B v A) (hb:Below w.heap.size w w'):OwnI w' B v A:=zAl (Fr.of_below [] hb) h (by simp)
def TwR (w:World) (B:Nat) (tv:Value) (tl:List Int):Prop:=∃ g cap,tv=.slice (some ⟨g,0,none⟩) tl.length cap/\OwnZ w B (.slice (some ⟨g,0,none⟩) (tl.length+2) cap) (tl++[771,772])
theorem TwR.below (h:TwR w B tv tl) (hb:Below w.heap.size w w'):TwR w' B tv tl:=by
 obtain ⟨g,cap,e,h⟩:=h;exact ⟨g,cap,e,h.below hb⟩
theorem TwR.app {C:Nat} (h:TwR w B tv tl) (ho:OwnI w C v A) (hg:w.grownBy w' v.ownBlock):TwR w' B tv tl:=by
 obtain ⟨g,cap,e,h⟩:=h;refine ⟨g,cap,e,zAl (Fr.of_grown (S:=v.ownBlock.toList) hg (λk q=>by simp [q])) h (λk hk hm=>?_)⟩;have hk2:g=k:=by simpa [Value.ownBlock] using hk
 subst hk2;have hm2:v.ownBlock=some g:=by simpa using hm
 rcases h.2 with ⟨q,_⟩ | ⟨g1,c1,cur1,q1,_,r1,_⟩
 ·cases q
 ·simp only [Value.slice.injEq,Option.some.injEq,Addr.mk.injEq] at q1;rw [<-q1.1.1] at r1;rcases ho.2 with ⟨q,_⟩ | ⟨g2,c2,cur2,q2,_,r2,_⟩
  ·rw [q] at hm2;cases hm2
  ·rw [q2] at hm2;have:g2=g:=by simpa [Value.ownBlock] using hm2
   subst this;rw [r1] at r2;cases r2
theorem TwR.rd (h:TwR w B tv tl):RdZ w tv tl:=by
 obtain ⟨g,cap,e,h⟩:=h;obtain ⟨av,cp,e1,f⟩:=h.rd;simp only [Value.slice.injEq] at e1;refine ⟨some ⟨g,0,none⟩,cap,e,λi hi=>?_⟩;obtain ⟨bb,off,q1,q2⟩:=f i (by simp;omega);rw [<-e1.1] at q1;cases q1
 refine ⟨g,0,rfl,?_⟩;rw [List.getElem_append_left hi] at q2;exact q2
theorem zFs:(prog.info? 52).map (λi=>(i.zero,i.size,i.bytes))=some (some (.agg (zAD (zAE 0) zAG).toArray),23,208):=by kernel_rfl
def Tw (w:World) (B:Nat):List (Wc.In × Value)->List (Wc.In × List Int)->Prop
 | [],[]=>True
 | p::r,x::s=>(p.1=x.1/\TwR w B p.2 x.2)/\Tw w B r s
 | _,_=>False
theorem Tw.len:∀ (P:List (Wc.In × Value)) (L:List (Wc.In × List Int)),Tw w B P L->P.length=L.length:=by
 intro P;induction P with
 | nil =>
  intro L h;cases L with
  | nil=>rfl
  | cons x s=>exact h.elim
 | cons p r ih =>
  intro L h;cases L with
  | nil=>exact h.elim
  | cons x s=>rw [List.length_cons,List.length_cons,ih s h.2]
theorem Tw.turn (ht:∀ tv tl,TwR w B tv tl->TwR w' B tv tl):∀ (P:List (Wc.In × Value)) (L:List (Wc.In × List Int)),Tw w B P L->Tw w' B P L:=by
 intro P;induction P with
 | nil =>
  intro L h;cases L with
  | nil=>trivial
  | cons x s=>exact h.elim
 | cons p r ih =>
  intro L h;cases L with
  | nil=>exact h.elim
  | cons x s=>exact ⟨⟨h.1.1,ht _ _ h.1.2⟩,ih s h.2⟩
theorem Tw.app {y:Wc.In} (ht:TwR w B tv tl):∀ (P:List (Wc.In × Value)) (L:List (Wc.In × List Int)),Tw w B P L->Tw w B (P++[(y,tv)]) (L++[(y,tl)]):=by
 intro P;induction P with
 | nil =>
  intro L h;cases L with
  | nil=>exact ⟨⟨rfl,ht⟩,trivial⟩
  | cons x s=>exact h.elim
 | cons p r ih =>
  intro L h;cases L with
  | nil=>exact h.elim
  | cons x s=>exact ⟨h.1,ih s h.2⟩
theorem zBk:∀ (A:List (Wc.In × Value)),(∀ p ∈ A,∃ av n c,p.2=.slice av n c)->∀ v ∈ zA4 A,v.oneCell'=true
 | [],_,v,h=>by cases h
 | x::r,hs,v,h=>by
  obtain ⟨av,n,c,e⟩:=hs x (List.mem_cons_self ..);simp only [zA4,List.mem_append] at h;rcases h with h | h
  ·rw [e] at h;exact zIU _ _ _ _ v h
  ·exact zBk r (λp hp=>hs p (List.mem_cons_of_mem _ hp)) v h
theorem zBK {ops:Array Oper} {rest:List Oper} {a:Act} {Q:Exit->Act->World->Prop} (hgd:o.guard=none) (s x:Operand) (ho:o.op=.call {callee:=.builtin .append,args:=#[s,x],argTypes:=#[22,22]})
  (w:World) (B:Nat) (hB:B<=w.heap.size) (v:Value) (A:List (Wc.In × Value)) (hs:a.eval s=v) (hown:OwnI w B v A) (g n:Nat) (L:List (Wc.In × Value)) (hn:n=L.length) (hx:a.eval x=.slice (some ⟨g,0,none⟩) n n) (hat:AtL w g (zA4 L)) (hsl:∀ p ∈ L,∃ av n c,p.2=.slice av n c) (hl:A.length+L.length<=2000000)
  (h:∀ v' w',OwnI w' B v' (A++L)->w.grownBy w' v.ownBlock->wpList prog ops Q rest (a.put o.dst v') w'):wpList prog ops Q (o::rest) a w:=by
 subst hn;obtain ⟨i0,hi0,hz0,hz1,hz2⟩:=info_parts zFs;refine wpList_plain hgd λK hK=>?_
 refine wp_append_own _ s x 22 ho B 52 i0 _ 23 208 underlying22 hi0 hz0 hz1 hz2 rfl (by decide) v A.length (zA4 A) hs hown ⟨g,0,none⟩ L.length L.length (zA4 L) hx (zBm L) (λj u hj=>?_) (zBk L hsl) (by unfold maxLen;omega) (by omega) hB ?_
 ·have:=hat.2.1 j u hj;rw [show (⟨g,0,none⟩:Addr).add j=⟨g,j,none⟩ from by
   simp [Addr.add];try (intro h0;omega)]
  exact this
 ·intro v' w' own hg _;refine hK _ _ (h v' w' ?_ hg);unfold OwnI;rw [List.length_append,zBn];exact own
theorem zLu (x:Wc.In) (av:Option Addr) (n c:Nat) (w:World):(Instr.buildSlice 22 1 #[(0,.agg (zAD x (.slice av n c)).toArray)]).run prog w=.ok (.slice (some ⟨w.heap.size,0,none⟩) 1 1) (w.alloc (.cells (zAD x (.slice av n c)).toArray 52)):=by kernel_rfl
theorem zMF (x y:Wc.In) (w:World):(Instr.buildSlice 22 2 #[(0,.agg (zAD x zAG).toArray),(1,.agg (zAD y zAG).toArray)]).run prog w=.ok (.slice (some ⟨w.heap.size,0,none⟩) 2 2) (w.alloc (.cells (zA4 [(x,zAG),(y,zAG)]).toArray 52)):=by kernel_rfl
theorem zBX (hgd:op.guard=none) (y:Operand) (ho:op.op=.buildSlice 22 1 #[(0,y)]) (x:Wc.In) (av:Option Addr) (n c:Nat) (hy:a.eval y=.agg (zAD x (.slice av n c)).toArray)
  (h:wpList prog ops Q rest (a.put op.dst (.slice (some ⟨w.heap.size,0,none⟩) 1 1)) (w.alloc (.cells (zAD x (.slice av n c)).toArray 52))):wpList prog ops Q (op::rest) a w:=by
 refine wpList_plain hgd λK hK=>?_
 unfold Oper.wp execOp;simp only [ho,List.map_toArray,List.map_cons,List.map_nil,hy,Sem.run_bind,Sem.run_pure,Result.andThen_ok,zLu];exact hK _ _ h
theorem zDQ (hgd:op.guard=none) (y z:Operand) (ho:op.op=.buildSlice 22 2 #[(0,y),(1,z)]) (x u:Wc.In) (hy:a.eval y=.agg (zAD x zAG).toArray) (hz:a.eval z=.agg (zAD u zAG).toArray)
  (h:wpList prog ops Q rest (a.put op.dst (.slice (some ⟨w.heap.size,0,none⟩) 2 2)) (w.alloc (.cells (zA4 [(x,zAG),(u,zAG)]).toArray 52))):wpList prog ops Q (op::rest) a w:=by
 refine wpList_plain hgd λK hK=>?_
 unfold Oper.wp execOp;simp only [ho,List.map_toArray,List.map_cons,List.map_nil,hy,hz,Sem.run_bind,Sem.run_pure,Result.andThen_ok,zMF];exact hK _ _ h
def TwP (L:List (Wc.In × List Int)) (w:World) (e:Ending) (w':World):Prop:=∃ G cap B P,e=.returned (.slice (some ⟨G,0,none⟩) L.length cap)/\w.heap.size<=B/\OwnI w' B (.slice (some ⟨G,0,none⟩) (L.length+2) cap) (P++[(zAE 771,zAG),(zAE 772,zAG)])/\Tw w' B P L
theorem zFv (y:Operand) (ho:op.op=.buildSlice 22 1 #[(0,y)]) (x:Wc.In) (av:Option Addr) (n c:Nat) (hy:a.eval y=.agg (zAD x (.slice av n c)).toArray)
  (h:K (a.put op.dst (.slice (some ⟨w.heap.size,0,none⟩) 1 1)) (w.alloc (.cells (zAD x (.slice av n c)).toArray 52))):op.wp prog a w K Q:=by
 unfold Oper.wp execOp;simp only [ho,List.map_toArray,List.map_cons,List.map_nil,hy,Sem.run_bind,Sem.run_pure,Result.andThen_ok,zLu];exact h
theorem zFo {a:Act} {K:Act->World->Prop} {Q:Exit->Act->World->Prop} (s x:Operand) (ho:o.op=.call {callee:=.builtin .append,args:=#[s,x],argTypes:=#[22,22]})
  (w:World) (B:Nat) (hB:B<=w.heap.size) (v:Value) (A:List (Wc.In × Value)) (hs:a.eval s=v) (hown:OwnI w B v A) (g n:Nat) (L:List (Wc.In × Value)) (hn:n=L.length) (hx:a.eval x=.slice (some ⟨g,0,none⟩) n n) (hat:AtL w g (zA4 L)) (hsl:∀ p ∈ L,∃ av n c,p.2=.slice av n c) (hl:A.length+L.length<=2000000)
  (h:∀ v' w',OwnI w' B v' (A++L)->w.grownBy w' v.ownBlock->K (a.put o.dst v') w'):o.wp prog a w K Q:=by
 subst hn;obtain ⟨i0,hi0,hz0,hz1,hz2⟩:=info_parts zFs;refine wp_append_own _ s x 22 ho B 52 i0 _ 23 208 underlying22 hi0 hz0 hz1 hz2 rfl (by decide) v A.length (zA4 A) hs hown ⟨g,0,none⟩ L.length L.length (zA4 L) hx (zBm L) (λj u hj=>?_) (zBk L hsl) (by unfold maxLen;omega) (by omega) hB ?_
 ·have:=hat.2.1 j u hj;rw [show (⟨g,0,none⟩:Addr).add j=⟨g,j,none⟩ from by
   simp [Addr.add];try (intro h0;omega)]
  exact this
 ·intro v' w' own hg _;refine h v' w' ?_ hg;unfold OwnI;rw [List.length_append,zBn];exact own
theorem zEs (k B:Nat) (x:Wc.In) (s0 s1 lv:Value) (A:List (Wc.In × Value)) (w:World) (hw:AtL w k [s0,s1,lv]) (ho:OwnI w B lv A) (hkB:k<B) (hB:B<=w.heap.size) (hl:A.length<=1000) :
  Calls prog 32 #[.pointer (some ⟨k,0,none⟩),.agg (zAD x zAG).toArray] w λe w'=>(∃ lv',e=.returned (.tuple #[])/\AtL w' k [s0,s1,lv']/\OwnI w' B lv' (A++[(x,zAG)]))/\Fr (k::lv.ownBlock.toList) w w':=by
 have pI0:=AtL.new0 w 52 (zAD x zAG);have hb0:=zAJ (Below.refl _ w) (.cells (zAD x zAG).toArray 52);have pW0:=AtL.below hb0 hw;have HO0:Hid (OwnI (w.alloc (.cells (zAD x zAG).toArray 52)) B lv A):=ho.below hb0;have HF0:Hid (Fr (k::lv.ownBlock.toList) w (w.alloc (.cells (zAD x zAG).toArray 52))):=Fr.of_below _ hb0;have HS0:Hid (B<=(w.alloc (.cells (zAD x zAG).toArray 52)).heap.size/\w.heap.size<(w.alloc (.cells (zAD x zAG).toArray 52)).heap.size):=⟨Nat.le_trans hB hb0.size,pI0.1⟩
 have HL:Hid (A.length<=1000):=hl;have HKB:Hid (k<B/\B<=w.heap.size):=⟨hkB,hB⟩
 have HLB:Hid (∀ j,lv.ownBlock=some j->B<=j/\j<w.heap.size):=λj e=>zAW ho e
 clear hw ho hl hb0 hkB hB;go_enter func32,ntmps32;go_upto_region 1 with fail
 generalize (w.alloc (.cells (zAD x zAG).toArray 52))=W1 at *;have rb:=(Below.refl W1.heap.size W1).drew;have sI:=zAK rb pI0.range;have pW:=AtL.below rb pW0;have sW:=pW.2.1 2 _ rfl;have HO1:Hid (OwnI W1.drew B lv A):=HO0.out.below rb;have HF1:Hid (Fr (k::lv.ownBlock.toList) w W1.drew):=HF0.out.trans (Fr.of_below _ rb);have HS1:Hid (B<=W1.drew.heap.size/\w.heap.size<W1.drew.heap.size):=HS0.out;clear rb pI0 pW0 HO0 HF0 HS0;refine wp_region_held_drew (S:=λW=>W.rangeAt w.heap.size 0 (zAD x zAG)) (by kernel_rfl) sI (λhHeld=>?_);generalize W1.drew=WD at *;refine tkQ 0 ⟨some 4,.move (.tmp 0),118,"writer.go:16",#[],none⟩ ?_
 refine tkQ 1 ⟨some 5,.move (.tmp 0),118,"writer.go:16",#[],none⟩ ?_
 refine tkQ 2 ⟨some 6,.nilCheck (.tmp 5),0,"writer.go:16",#[⟨1,.data⟩],none⟩ ?_
 refine tkQ 3 ⟨some 7,.fieldAddr 83 (.tmp 6) 1,0,"writer.go:16",#[⟨2,.data⟩],none⟩ ?_
 refine wpAnyH_take (i:=5) (oi:=⟨some 9,.load 52 (.tmp 3),52,"writer.go:16",#[],none⟩) (v:=.agg (zAD x zAG).toArray) rfl (by kernel_rfl) (by kernel_rfl) (by kernel_rfl) (λ_ _ _ h=>h) (yieldsIf_load_mid (by rfl) 52 (.tmp 3) rfl w.heap.size 0 rfl (zAD x zAG) _ (λ_ h=>h) underlying52 rfl (by kernel_rfl)) (by assumption) ?_;try simp only [Act.put,lA,lZ,lS]
 refine wpAnyH_ready (rs:=[4,6]) (by kernel_rfl) (by simp) ?_;refine AllReadyH.cons (o:=zK1) rfl (λK hK=>?_) (AllReadyH.cons (o:=zKY) rfl (λK hK=>?_) AllReadyH.nil)
 ·go_simp
  refine hkQ hK sI (λhHeld=>?_);clear hK K
  refine rdQ 6 zKY (λK hK=>?_);refine zFv (.tmp 9) rfl x none 0 0 rfl ?_;have hb2:=zAJ (Below.refl _ WD) (.cells (zAD x zAG).toArray 52);have HA2:Hid (AtL (WD.alloc (.cells (zAD x zAG).toArray 52)) WD.heap.size (zA4 [(x,zAG)])):=by show AtL _ _ _;rw [show zA4 [(x,zAG)]=(zAD x zAG) from by simp [zA4]];exact AtL.new0 WD _ _
  have HO2:Hid (OwnI (WD.alloc (.cells (zAD x zAG).toArray 52)) B lv A):=HO1.out.below hb2;have HF2:Hid (Fr (k::lv.ownBlock.toList) w (WD.alloc (.cells (zAD x zAG).toArray 52))):=HF1.out.trans (Fr.of_below _ hb2);have HS2:Hid (B<=(WD.alloc (.cells (zAD x zAG).toArray 52)).heap.size/\w.heap.size<WD.heap.size):=⟨Nat.le_trans HS1.out.1 hb2.size,HS1.out.2⟩
  have sI2:=zAK hb2 sI;have pW2:=AtL.below hb2 pW;have sW2:=zAC hb2 sW;clear hb2 HO1 HF1 HS1 sI pW sW;refine hkQ hK sI2 (λhHeld=>?_);clear hK K
  generalize (WD.alloc (.cells (zAD x zAG).toArray 52))=W2 at *;obtain ⟨g,hg⟩:∃ g,WD.heap.size=g:=⟨_,rfl⟩
  rw [hg] at HA2 HS2;try simp only [hg]
  clear hg;refine rdQ 7 zLS (λK hK=>?_);refine zFo (.tmp 8) (.tmp 10) rfl W2 B HS2.out.1 lv A rfl HO2.out g 1 [(x,zAG)] rfl rfl HA2.out (λp hp=>by simp at hp;subst hp;exact ⟨_,_,_,rfl⟩) (by have:=HL.out;simp;omega) ?_;intro v3 W3 own3 hg3;obtain ⟨g3,cap3,ev,hcp⟩:∃ g cap,v3=.slice (some ⟨g,0,none⟩) (A.length+1) cap/\B<=g:=by
   rcases own3.2 with ⟨_,h0⟩ | ⟨g,cap,cur,e,hbb,_,hc,_⟩
   ·simp at h0
   ·exact ⟨g,cap,by rw [e];simp,hbb⟩
  subst ev;have fr3:Fr lv.ownBlock.toList W2 W3:=Fr.of_grown hg3 (λk e=>by simp [e]);have hbk:∀ j,lv.ownBlock=some j->B<=j/\j<W2.heap.size:=λj e=>zAW HO2.out e
  have sI3:=fr3.range sI2 (λe=>by have:=(HLB.out w.heap.size (by simpa using e)).2;omega);have pW3:=pW2.fr fr3 (λe=>by have:=(hbk k (by simpa using e)).1;have:=HKB.out;omega);have HF3:Hid (Fr (k::lv.ownBlock.toList) w W3):=HF2.out.trans (fr3.mono (λj hj=>List.mem_cons_of_mem _ hj));have HO3:Hid (OwnI W3 B (.slice (some ⟨g3,0,none⟩) (A.length+1) cap3) (A++[(x,zAG)])):=own3;clear own3 hg3 fr3 hbk HF2 HO2 HA2 pW2 sI2 sW2;have sW3:=pW3.2.1 2 _ rfl;have zW3:=pW3.2.2 2 (by simp);refine hkQ hK sI3 (λhHeld=>?_);clear hK K
  refine tkQ 8 zLG ?_
  refine tkQ 9 zK5 ?_
  refine rdQ 10 zKw (λK hK=>?_);go_simp
  have pW4:=pW3.set 2 (.slice (some ⟨g3,0,none⟩) (A.length+1) cap3);have fr4:Fr [k] W3 (W3.setCell ⟨k,2,none⟩ (.slice (some ⟨g3,0,none⟩) (A.length+1) cap3)):=Fr.of_grown (zAL _ _ _ _) (λj e=>by cases e;simp);have HF4:Hid (Fr (k::lv.ownBlock.toList) w (W3.setCell ⟨k,2,none⟩ (.slice (some ⟨g3,0,none⟩) (A.length+1) cap3))):=HF3.out.trans (fr4.mono (λj hj=>by simp at hj;subst hj;exact List.mem_cons_self ..));have HO4:Hid (OwnI (W3.setCell ⟨k,2,none⟩ (.slice (some ⟨g3,0,none⟩) (A.length+1) cap3)) B (.slice (some ⟨g3,0,none⟩) (A.length+1) cap3) (A++[(x,zAG)])):=zAl fr4 HO3.out (λj e=>by have:=(zAW HO3.out e).1;have:=HKB.out;simp;omega);have sI4:=fr4.range sI3 (by have:=HKB.out;simp;omega);have HP4:Hid (AtL (W3.setCell ⟨k,2,none⟩ (.slice (some ⟨g3,0,none⟩) (A.length+1) cap3)) k [s0,s1,.slice (some ⟨g3,0,none⟩) (A.length+1) cap3]):=pW4;generalize (W3.setCell ⟨k,2,none⟩ (.slice (some ⟨g3,0,none⟩) (A.length+1) cap3))=W4 at *;refine hkQ hK sI4 (λhHeld=>?_);clear hK K
  refine wpAnyH_done (by kernel_rfl) ?_ _;clear hHeld sI4 sI3 pW4 fr4;go_wp2;go_end0
  exact ⟨⟨_,rfl,HP4.out,HO4.out⟩,HF4.out⟩
 ·refine zFv (.tmp 9) rfl x none 0 0 rfl ?_;have hb2:=zAJ (Below.refl _ WD) (.cells (zAD x zAG).toArray 52);have HA2:Hid (AtL (WD.alloc (.cells (zAD x zAG).toArray 52)) WD.heap.size (zA4 [(x,zAG)])):=by show AtL _ _ _;rw [show zA4 [(x,zAG)]=(zAD x zAG) from by simp [zA4]];exact AtL.new0 WD _ _
  have HO2:Hid (OwnI (WD.alloc (.cells (zAD x zAG).toArray 52)) B lv A):=HO1.out.below hb2;have HF2:Hid (Fr (k::lv.ownBlock.toList) w (WD.alloc (.cells (zAD x zAG).toArray 52))):=HF1.out.trans (Fr.of_below _ hb2);have HS2:Hid (B<=(WD.alloc (.cells (zAD x zAG).toArray 52)).heap.size/\w.heap.size<WD.heap.size):=⟨Nat.le_trans HS1.out.1 hb2.size,HS1.out.2⟩
  have sI2:=zAK hb2 sI;have pW2:=AtL.below hb2 pW;have sW2:=zAC hb2 sW;clear hb2 HO1 HF1 HS1 sI pW sW;refine hkQ hK sI2 (λhHeld=>?_);clear hK K
  generalize (WD.alloc (.cells (zAD x zAG).toArray 52))=W2 at *;obtain ⟨g,hg⟩:∃ g,WD.heap.size=g:=⟨_,rfl⟩
  rw [hg] at HA2 HS2;try simp only [hg]
  clear hg;refine rdQ 4 zK1 (λK hK=>?_);try clear hHeld
  go_simp
  refine hkQ hK sI2 (λhHeld=>?_);clear hK K
  refine rdQ 7 zLS (λK hK=>?_);refine zFo (.tmp 8) (.tmp 10) rfl W2 B HS2.out.1 lv A rfl HO2.out g 1 [(x,zAG)] rfl rfl HA2.out (λp hp=>by simp at hp;subst hp;exact ⟨_,_,_,rfl⟩) (by have:=HL.out;simp;omega) ?_;intro v3 W3 own3 hg3;obtain ⟨g3,cap3,ev,hcp⟩:∃ g cap,v3=.slice (some ⟨g,0,none⟩) (A.length+1) cap/\B<=g:=by
   rcases own3.2 with ⟨_,h0⟩ | ⟨g,cap,cur,e,hbb,_,hc,_⟩
   ·simp at h0
   ·exact ⟨g,cap,by rw [e];simp,hbb⟩
  subst ev;have fr3:Fr lv.ownBlock.toList W2 W3:=Fr.of_grown hg3 (λk e=>by simp [e]);have hbk:∀ j,lv.ownBlock=some j->B<=j/\j<W2.heap.size:=λj e=>zAW HO2.out e
  have sI3:=fr3.range sI2 (λe=>by have:=(HLB.out w.heap.size (by simpa using e)).2;omega);have pW3:=pW2.fr fr3 (λe=>by have:=(hbk k (by simpa using e)).1;have:=HKB.out;omega);have HF3:Hid (Fr (k::lv.ownBlock.toList) w W3):=HF2.out.trans (fr3.mono (λj hj=>List.mem_cons_of_mem _ hj));have HO3:Hid (OwnI W3 B (.slice (some ⟨g3,0,none⟩) (A.length+1) cap3) (A++[(x,zAG)])):=own3;clear own3 hg3 fr3 hbk HF2 HO2 HA2 pW2 sI2 sW2;have sW3:=pW3.2.1 2 _ rfl;have zW3:=pW3.2.2 2 (by simp);refine hkQ hK sI3 (λhHeld=>?_);clear hK K
  refine tkQ 8 zLG ?_
  refine tkQ 9 zK5 ?_
  refine rdQ 10 zKw (λK hK=>?_);go_simp
  have pW4:=pW3.set 2 (.slice (some ⟨g3,0,none⟩) (A.length+1) cap3);have fr4:Fr [k] W3 (W3.setCell ⟨k,2,none⟩ (.slice (some ⟨g3,0,none⟩) (A.length+1) cap3)):=Fr.of_grown (zAL _ _ _ _) (λj e=>by cases e;simp);have HF4:Hid (Fr (k::lv.ownBlock.toList) w (W3.setCell ⟨k,2,none⟩ (.slice (some ⟨g3,0,none⟩) (A.length+1) cap3))):=HF3.out.trans (fr4.mono (λj hj=>by simp at hj;subst hj;exact List.mem_cons_self ..));have HO4:Hid (OwnI (W3.setCell ⟨k,2,none⟩ (.slice (some ⟨g3,0,none⟩) (A.length+1) cap3)) B (.slice (some ⟨g3,0,none⟩) (A.length+1) cap3) (A++[(x,zAG)])):=zAl fr4 HO3.out (λj e=>by have:=(zAW HO3.out e).1;have:=HKB.out;simp;omega);have sI4:=fr4.range sI3 (by have:=HKB.out;simp;omega);have HP4:Hid (AtL (W3.setCell ⟨k,2,none⟩ (.slice (some ⟨g3,0,none⟩) (A.length+1) cap3)) k [s0,s1,.slice (some ⟨g3,0,none⟩) (A.length+1) cap3]):=pW4;generalize (W3.setCell ⟨k,2,none⟩ (.slice (some ⟨g3,0,none⟩) (A.length+1) cap3))=W4 at *;refine hkQ hK sI4 (λhHeld=>?_);clear hK K
  refine wpAnyH_done (by kernel_rfl) ?_ _;clear hHeld sI4 sI3 pW4 fr4;go_wp2;go_end0
  exact ⟨⟨_,rfl,HP4.out,HO4.out⟩,HF4.out⟩
