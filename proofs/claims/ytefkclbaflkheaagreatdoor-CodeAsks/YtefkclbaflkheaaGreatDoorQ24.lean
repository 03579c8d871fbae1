/- KLay, KWs, KSiteB, KPush, KEn, KPd, KFold, KClsP, KCall. -/
import Derived.Test.YtefkclbaflkheaaGreatDoorQ23
set_option maxHeartbeats 1600000
set_option maxRecDepth 100000
namespace Go.Proofs.YtefkclbaflkheaaGreatDoor
open Tryz
variable {w w' w1:World} {k B m2 cap2 hi:Nat} {T:Nat->Nat} {s0 s1 lv b:Value} {L:List Wf.I} {P:List (Wc.In × Value)} {a:Act} {Q:Exit->Act->World->Prop} {op:Oper} {K:Act->World->Prop} {own:Int} {nm:List ByteArray} {av2:Option Addr}
open Go.RowKit
set_option linter.unusedVariables false
theorem zGX (y:Operand) (ho:op.op=.buildSlice 36 1 #[(0,y)]) (x:Wc.In) (av:Option Addr) (n c:Nat) (hy:a.eval y=.agg (zAD x (.slice av n c)).toArray)
  (h:K (a.put op.dst (.slice (some ⟨w.heap.size,0,none⟩) 1 1)) (w.alloc (.cells (zAD x (.slice av n c)).toArray 56))):op.wp prog a w K Q:=by
 unfold Oper.wp execOp;simp only [ho,List.map_toArray,List.map_cons,List.map_nil,hy,Sem.run_bind,Sem.run_pure,Result.andThen_ok,zMe];exact h
theorem zFn {o:Oper} {a:Act} {K:Act->World->Prop} {Q:Exit->Act->World->Prop} (s x:Operand) (ho:o.op=.call {callee:=.builtin .append,args:=#[s,x],argTypes:=#[36,36]})
  (w:World) (B:Nat) (hB:B<=w.heap.size) (v:Value) (A:List (Wc.In × Value)) (hs:a.eval s=v) (hown:OwnI w B v A) (g n:Nat) (L:List (Wc.In × Value)) (hn:n=L.length) (hx:a.eval x=.slice (some ⟨g,0,none⟩) n n) (hat:AtL w g (zA9 L)) (hsl:∀ p ∈ L,∃ av n c,p.2=.slice av n c) (hl:A.length+L.length<=2000000)
  (h:∀ v' w',OwnI w' B v' (A++L)->w.grownBy w' v.ownBlock->(v'.ownBlock=v.ownBlock \/ v'.ownBlock=some w.heap.size)->K (a.put o.dst v') w'):o.wp prog a w K Q:=by
 subst hn;obtain ⟨i0,hi0,hz0,hz1,hz2⟩:=info_parts zGc;have hnews:∀ j u,(zA9 L)[j]? = some u->w.cell? ((⟨g,0,none⟩:Addr).add j)=some u:=λj u hj=>by
  have:=hat.2.1 j u hj;rw [show (⟨g,0,none⟩:Addr).add j=⟨g,j,none⟩ from by
   simp [Addr.add];try (intro h0;omega)]
  exact this
 obtain ⟨v',w',hr,own,hg,_,hb⟩:=run_append_own_at (P:=prog) w B 36 o.type 56 i0 _ 23 208 underlying36 hi0 hz0 hz1 hz2 rfl (by decide) v A.length (zA9 A) hown ⟨g,0,none⟩ L.length L.length (zA9 L) (zBs L) hnews (zBv L hsl) (by unfold maxLen;omega) (by omega) hB;unfold Oper.wp execOp;simp only [ho,resolve,invoke,builtin,Sem.run_bind,Sem.run_pure,Result.andThen_ok,List.map_toArray,List.map_cons,List.map_nil,hs,hx,hr];refine h v' w' ?_ hg hb;unfold OwnI;rw [List.length_append,zCE];exact own
theorem zJr (k B:Nat) (x:Wc.In) (s0 s1 lv:Value) (A:List (Wc.In × Value)) (w:World) (hw:AtL w k [s0,s1,lv]) (ho:OwnI w B lv A) (hkB:k<B) (hB:B<=w.heap.size) (hl:A.length<=1000000) :
  Calls prog 28 #[.pointer (some ⟨k,0,none⟩),.agg (zAD x zAG).toArray] w λe w'=>(∃ lv',e=.returned (.tuple #[])/\AtL w' k [s0,s1,lv']/\OwnI w' B lv' (A++[(x,zAG)])/\∀ j,lv'.ownBlock=some j->lv.ownBlock=some j \/ w.heap.size<=j)/\Fr (k::lv.ownBlock.toList) w w':=by
 have pI0:=AtL.new0 w 56 (zAD x zAG);have hb0:=zAK (Below.refl _ w) (.cells (zAD x zAG).toArray 56);have pW0:=AtL.below hb0 hw;have HO0:Hid (OwnI (w.alloc (.cells (zAD x zAG).toArray 56)) B lv A):=ho.below hb0;have HF0:Hid (Fr (k::lv.ownBlock.toList) w (w.alloc (.cells (zAD x zAG).toArray 56))):=Fr.of_below _ hb0;have HS0:Hid (B<=(w.alloc (.cells (zAD x zAG).toArray 56)).heap.size/\w.heap.size<(w.alloc (.cells (zAD x zAG).toArray 56)).heap.size):=⟨Nat.le_trans hB hb0.size,pI0.1⟩
 have HL:Hid (A.length<=1000000):=hl;have HKB:Hid (k<B/\B<=w.heap.size):=⟨hkB,hB⟩
 have HLB:Hid (∀ j,lv.ownBlock=some j->B<=j/\j<w.heap.size):=λj e=>zAT ho e
 clear hw ho hl hb0 hkB hB;go_enter func28,ntmps28;go_upto_region 1 with fail
 generalize (w.alloc (.cells (zAD x zAG).toArray 56))=W1 at *;have rb:=(Below.refl W1.heap.size W1).drew;have sI:=zAI rb pI0.range;have pW:=AtL.below rb pW0;have sW:=pW.2.1 2 _ rfl;have HO1:Hid (OwnI W1.drew B lv A):=HO0.out.below rb;have HF1:Hid (Fr (k::lv.ownBlock.toList) w W1.drew):=HF0.out.trans (Fr.of_below _ rb);have HS1:Hid (B<=W1.drew.heap.size/\w.heap.size<W1.drew.heap.size):=HS0.out;clear rb pI0 pW0 HO0 HF0 HS0;refine wp_region_held_drew (S:=λW=>W.rangeAt w.heap.size 0 (zAD x zAG)) (by kernel_rfl) sI (λhHeld=>?_);generalize W1.drew=WD at *;refine tkQ 0 ?_
 refine tkQ 1 ?_
 refine tkQ 2 ?_
 refine tkQ 3 ?_
 refine wpAnyH_take (i:=5) (v:=.agg (zAD x zAG).toArray) (atQ rfl) (by kernel_rfl) (by kernel_rfl) (by kernel_rfl) (λ_ _ _ h=>h) (yieldsIf_load_mid (by rfl) 56 (.tmp 3) rfl w.heap.size 0 rfl (zAD x zAG) _ (λ_ h=>h) underlying56 rfl (by kernel_rfl)) (by assumption) ?_;try simp only [Act.put,lA,lZ,lS]
 refine wpAnyH_ready (rs:=[4,6]) (by kernel_rfl) (by simp) ?_;refine AllReadyH.cons (atQ rfl) (λK hK=>?_) (AllReadyH.cons (atQ rfl) (λK hK=>?_) AllReadyH.nil)
 ·go_simp
  refine hkQ hK sI (λhHeld=>?_);clear hK K
  refine rdQ 6 (λK hK=>?_);refine zGX (.tmp 9) rfl x none 0 0 rfl ?_;have hb2:=zAK (Below.refl _ WD) (.cells (zAD x zAG).toArray 56);have HA2:Hid (AtL (WD.alloc (.cells (zAD x zAG).toArray 56)) WD.heap.size (zA9 [(x,zAG)])):=by show AtL _ _ _;rw [show zA9 [(x,zAG)]=(zAD x zAG) from by simp [zA9]];exact AtL.new0 WD _ _
  have HO2:Hid (OwnI (WD.alloc (.cells (zAD x zAG).toArray 56)) B lv A):=HO1.out.below hb2;have HF2:Hid (Fr (k::lv.ownBlock.toList) w (WD.alloc (.cells (zAD x zAG).toArray 56))):=HF1.out.trans (Fr.of_below _ hb2);have HS2:Hid (B<=(WD.alloc (.cells (zAD x zAG).toArray 56)).heap.size/\w.heap.size<WD.heap.size):=⟨Nat.le_trans HS1.out.1 hb2.size,HS1.out.2⟩
  have sI2:=zAI hb2 sI;have pW2:=AtL.below hb2 pW;have sW2:=zAC hb2 sW;clear hb2 HO1 HF1 HS1 sI pW sW;refine hkQ hK sI2 (λhHeld=>?_);clear hK K
  generalize (WD.alloc (.cells (zAD x zAG).toArray 56))=W2 at *;obtain ⟨g,hg⟩:∃ g,WD.heap.size=g:=⟨_,rfl⟩
  rw [hg] at HA2 HS2;try simp only [hg]
  clear hg;refine rdQ 7 (λK hK=>?_);refine zFn (.tmp 8) (.tmp 10) rfl W2 B HS2.out.1 lv A rfl HO2.out g 1 [(x,zAG)] rfl rfl HA2.out (λp hp=>by simp at hp;subst hp;exact ⟨_,_,_,rfl⟩) (by have:=HL.out;simp;omega) ?_;intro v3 W3 own3 hg3 hv3;have HNX:Hid (∀ j,v3.ownBlock=some j->lv.ownBlock=some j \/ w.heap.size<=j):=(λj e=>by
   rcases hv3 with hv3 | hv3
   ·exact Or.inl (by rw [<-hv3];exact e)
   ·rw [hv3] at e;cases e;exact Or.inr HF2.out.size:∀ j,v3.ownBlock=some j->lv.ownBlock=some j \/ w.heap.size<=j)
  clear hv3;obtain ⟨g3,cap3,ev,hcp⟩:∃ g cap,v3=.slice (some ⟨g,0,none⟩) (A.length+1) cap/\B<=g:=by
   rcases own3.2 with ⟨_,h0⟩ | ⟨g,cap,cur,e,hbb,_,hc,_⟩
   ·simp at h0
   ·exact ⟨g,cap,by rw [e];simp,hbb⟩
  subst ev;have fr3:Fr lv.ownBlock.toList W2 W3:=Fr.of_grown hg3 (λk e=>by simp [e]);have hbk:∀ j,lv.ownBlock=some j->B<=j/\j<W2.heap.size:=λj e=>zAT HO2.out e
  have sI3:=fr3.range sI2 (λe=>by have:=(HLB.out w.heap.size (by simpa using e)).2;omega);have pW3:=pW2.fr fr3 (λe=>by have:=(hbk k (by simpa using e)).1;have:=HKB.out;omega);have HF3:Hid (Fr (k::lv.ownBlock.toList) w W3):=HF2.out.trans (fr3.mono (λj hj=>List.mem_cons_of_mem _ hj));have HO3:Hid (OwnI W3 B (.slice (some ⟨g3,0,none⟩) (A.length+1) cap3) (A++[(x,zAG)])):=own3;clear own3 hg3 fr3 hbk HF2 HO2 HA2 pW2 sI2 sW2;have sW3:=pW3.2.1 2 _ rfl;have zW3:=pW3.2.2 2 (by simp);refine hkQ hK sI3 (λhHeld=>?_);clear hK K
  refine tkQ 8 ?_
  refine tkQ 9 ?_
  refine rdQ 10 (λK hK=>?_);go_simp
  have pW4:=pW3.set 2 (.slice (some ⟨g3,0,none⟩) (A.length+1) cap3);have fr4:Fr [k] W3 (W3.setCell ⟨k,2,none⟩ (.slice (some ⟨g3,0,none⟩) (A.length+1) cap3)):=Fr.of_grown (zAL _ _ _ _) (λj e=>by cases e;simp);have HF4:Hid (Fr (k::lv.ownBlock.toList) w (W3.setCell ⟨k,2,none⟩ (.slice (some ⟨g3,0,none⟩) (A.length+1) cap3))):=HF3.out.trans (fr4.mono (λj hj=>by simp at hj;subst hj;exact List.mem_cons_self ..));have HO4:Hid (OwnI (W3.setCell ⟨k,2,none⟩ (.slice (some ⟨g3,0,none⟩) (A.length+1) cap3)) B (.slice (some ⟨g3,0,none⟩) (A.length+1) cap3) (A++[(x,zAG)])):=zAc fr4 HO3.out (λj e=>by have:=(zAT HO3.out e).1;have:=HKB.out;simp;omega);have sI4:=fr4.range sI3 (by have:=HKB.out;simp;omega);have HP4:Hid (AtL (W3.setCell ⟨k,2,none⟩ (.slice (some ⟨g3,0,none⟩) (A.length+1) cap3)) k [s0,s1,.slice (some ⟨g3,0,none⟩) (A.length+1) cap3]):=pW4;generalize (W3.setCell ⟨k,2,none⟩ (.slice (some ⟨g3,0,none⟩) (A.length+1) cap3))=W4 at *;refine hkQ hK sI4 (λhHeld=>?_);clear hK K
  refine wpAnyH_done (by kernel_rfl) ?_ _;clear hHeld sI4 sI3 pW4 fr4;go_wp2;go_end0
  exact ⟨⟨_,rfl,HP4.out,HO4.out,HNX.out⟩,HF4.out⟩
 ·refine zGX (.tmp 9) rfl x none 0 0 rfl ?_;have hb2:=zAK (Below.refl _ WD) (.cells (zAD x zAG).toArray 56);have HA2:Hid (AtL (WD.alloc (.cells (zAD x zAG).toArray 56)) WD.heap.size (zA9 [(x,zAG)])):=by show AtL _ _ _;rw [show zA9 [(x,zAG)]=(zAD x zAG) from by simp [zA9]];exact AtL.new0 WD _ _
  have HO2:Hid (OwnI (WD.alloc (.cells (zAD x zAG).toArray 56)) B lv A):=HO1.out.below hb2;have HF2:Hid (Fr (k::lv.ownBlock.toList) w (WD.alloc (.cells (zAD x zAG).toArray 56))):=HF1.out.trans (Fr.of_below _ hb2);have HS2:Hid (B<=(WD.alloc (.cells (zAD x zAG).toArray 56)).heap.size/\w.heap.size<WD.heap.size):=⟨Nat.le_trans HS1.out.1 hb2.size,HS1.out.2⟩
  have sI2:=zAI hb2 sI;have pW2:=AtL.below hb2 pW;have sW2:=zAC hb2 sW;clear hb2 HO1 HF1 HS1 sI pW sW;refine hkQ hK sI2 (λhHeld=>?_);clear hK K
  generalize (WD.alloc (.cells (zAD x zAG).toArray 56))=W2 at *;obtain ⟨g,hg⟩:∃ g,WD.heap.size=g:=⟨_,rfl⟩
  rw [hg] at HA2 HS2;try simp only [hg]
  clear hg;refine rdQ 4 (λK hK=>?_);try clear hHeld
  go_simp
  refine hkQ hK sI2 (λhHeld=>?_);clear hK K
  refine rdQ 7 (λK hK=>?_);refine zFn (.tmp 8) (.tmp 10) rfl W2 B HS2.out.1 lv A rfl HO2.out g 1 [(x,zAG)] rfl rfl HA2.out (λp hp=>by simp at hp;subst hp;exact ⟨_,_,_,rfl⟩) (by have:=HL.out;simp;omega) ?_;intro v3 W3 own3 hg3 hv3;have HNX:Hid (∀ j,v3.ownBlock=some j->lv.ownBlock=some j \/ w.heap.size<=j):=(λj e=>by
   rcases hv3 with hv3 | hv3
   ·exact Or.inl (by rw [<-hv3];exact e)
   ·rw [hv3] at e;cases e;exact Or.inr HF2.out.size:∀ j,v3.ownBlock=some j->lv.ownBlock=some j \/ w.heap.size<=j)
  clear hv3;obtain ⟨g3,cap3,ev,hcp⟩:∃ g cap,v3=.slice (some ⟨g,0,none⟩) (A.length+1) cap/\B<=g:=by
   rcases own3.2 with ⟨_,h0⟩ | ⟨g,cap,cur,e,hbb,_,hc,_⟩
   ·simp at h0
   ·exact ⟨g,cap,by rw [e];simp,hbb⟩
  subst ev;have fr3:Fr lv.ownBlock.toList W2 W3:=Fr.of_grown hg3 (λk e=>by simp [e]);have hbk:∀ j,lv.ownBlock=some j->B<=j/\j<W2.heap.size:=λj e=>zAT HO2.out e
  have sI3:=fr3.range sI2 (λe=>by have:=(HLB.out w.heap.size (by simpa using e)).2;omega);have pW3:=pW2.fr fr3 (λe=>by have:=(hbk k (by simpa using e)).1;have:=HKB.out;omega);have HF3:Hid (Fr (k::lv.ownBlock.toList) w W3):=HF2.out.trans (fr3.mono (λj hj=>List.mem_cons_of_mem _ hj));have HO3:Hid (OwnI W3 B (.slice (some ⟨g3,0,none⟩) (A.length+1) cap3) (A++[(x,zAG)])):=own3;clear own3 hg3 fr3 hbk HF2 HO2 HA2 pW2 sI2 sW2;have sW3:=pW3.2.1 2 _ rfl;have zW3:=pW3.2.2 2 (by simp);refine hkQ hK sI3 (λhHeld=>?_);clear hK K
  refine tkQ 8 ?_
  refine tkQ 9 ?_
  refine rdQ 10 (λK hK=>?_);go_simp
  have pW4:=pW3.set 2 (.slice (some ⟨g3,0,none⟩) (A.length+1) cap3);have fr4:Fr [k] W3 (W3.setCell ⟨k,2,none⟩ (.slice (some ⟨g3,0,none⟩) (A.length+1) cap3)):=Fr.of_grown (zAL _ _ _ _) (λj e=>by cases e;simp);have HF4:Hid (Fr (k::lv.ownBlock.toList) w (W3.setCell ⟨k,2,none⟩ (.slice (some ⟨g3,0,none⟩) (A.length+1) cap3))):=HF3.out.trans (fr4.mono (λj hj=>by simp at hj;subst hj;exact List.mem_cons_self ..));have HO4:Hid (OwnI (W3.setCell ⟨k,2,none⟩ (.slice (some ⟨g3,0,none⟩) (A.length+1) cap3)) B (.slice (some ⟨g3,0,none⟩) (A.length+1) cap3) (A++[(x,zAG)])):=zAc fr4 HO3.out (λj e=>by have:=(zAT HO3.out e).1;have:=HKB.out;simp;omega);have sI4:=fr4.range sI3 (by have:=HKB.out;simp;omega);have HP4:Hid (AtL (W3.setCell ⟨k,2,none⟩ (.slice (some ⟨g3,0,none⟩) (A.length+1) cap3)) k [s0,s1,.slice (some ⟨g3,0,none⟩) (A.length+1) cap3]):=pW4;generalize (W3.setCell ⟨k,2,none⟩ (.slice (some ⟨g3,0,none⟩) (A.length+1) cap3))=W4 at *;refine hkQ hK sI4 (λhHeld=>?_);clear hK K
  refine wpAnyH_done (by kernel_rfl) ?_ _;clear hHeld sI4 sI3 pW4 fr4;go_wp2;go_end0
  exact ⟨⟨_,rfl,HP4.out,HO4.out,HNX.out⟩,HF4.out⟩
open Go.RowKit Wf
structure WS (k B:Nat) (T:Nat->Nat) (w:World) (s0 s1:Value) (L:List I) (lv:Value) (P:List (Wc.In × Value)):Prop where
 at':AtL w k [s0,s1,lv]
 own:OwnI w B lv P
 len:P.length=L.length
 ins:∀ i (h:i<P.length) (h':i<L.length),(P[i]).1=(L[i]).1/\OwnZ w (T i) (P[i]).2 (L[i]).2
 tb:∀ i,B<=T i
 dis:∀ i j (h:i<P.length) (h':j<P.length) b,(P[i]).2.ownBlock=some b->(P[j]).2.ownBlock=some b->i=j
def Nx (w:World) (lv lv':Value):Prop:=∀ j,lv'.ownBlock=some j->lv.ownBlock=some j \/ w.heap.size<=j
theorem Nx.refl (w:World) (lv:Value):Nx w lv lv:=λj e=>Or.inl e
theorem Nx.trans {a c:Value} (h:Nx w a b) (h':Nx w1 b c) (hs:w.heap.size<=w1.heap.size):Nx w a c:=λj e=>by
 rcases h' j e with q | q
 ·exact h j q
 ·exact Or.inr (Nat.le_trans hs q)
theorem zML {w2:World} {a:Value} (h:Fr (k::a.ownBlock.toList) w w1) (h':Fr (k::b.ownBlock.toList) w1 w2) (hn:Nx w a b):Fr (k::a.ownBlock.toList) w w2 :=
 h.new h' (λj hj=>by
  rcases List.mem_cons.1 hj with q | q
  ·exact Or.inl (by rw [q];exact List.mem_cons_self ..)
  ·rcases hn j (by simpa using q) with e | e
   ·exact Or.inl (List.mem_cons_of_mem _ (by simp [e]))
   ·exact Or.inr e)
def WP (k B:Nat) (T:Nat->Nat) (s0 s1:Value) (L:List I) (lv:Value) (w:World) (e:Ending) (w':World):Prop :=
 (∃ lv' P',e=.returned (.tuple #[])/\WS k B T w' s0 s1 L lv' P'/\Nx w lv lv')/\Fr (k::lv.ownBlock.toList) w w'
theorem zL4 {C T U m:Nat} {u v:Value} {n n':Nat} {xs ys:List Value} (h:w.ownsRow B T k u n xs) (h':w.ownsRow C U m v n' ys) (hne:¬ T=U) {b:Nat} (e:u.ownBlock=some b):¬ v.ownBlock=some b:=λe2=>by
 rcases h.2 with ⟨q,_⟩ | ⟨g1,c1,cur1,q1,_,r1,_⟩
 ·rw [q] at e;cases e
 ·rcases h'.2 with ⟨q,_⟩ | ⟨g2,c2,cur2,q2,_,r2,_⟩
  ·rw [q] at e2;cases e2
  ·rw [q1] at e;rw [q2] at e2;have a1:g1=b:=by simpa [Value.ownBlock] using e
   have a2:g2=b:=by simpa [Value.ownBlock] using e2
   rw [a1] at r1;rw [a2,r1] at r2;simp only [Option.some.injEq,Obj.cells.injEq] at r2;exact hne r2.2.1
theorem WS.fr (h:WS k B T w s0 s1 L lv P) {S:List Nat} (f:Fr S w w') (hk:k ∉ S) (hl:∀ j,lv.ownBlock=some j->j ∉ S) (ht:∀ i (h:i<P.length) b,(P[i]).2.ownBlock=some b->b ∉ S):WS k B T w' s0 s1 L lv P :=
 ⟨h.at'.fr f hk,zAc f h.own hl,h.len,λi h1 h2=>⟨(h.ins i h1 h2).1,zAc f (h.ins i h1 h2).2 (λj e=>ht i h1 j e)⟩,h.tb,h.dis⟩
theorem WS.below (h:WS k B T w s0 s1 L lv P) (hb:Below w.heap.size w w'):WS k B T w' s0 s1 L lv P :=
 h.fr (Fr.of_below [] hb) (by simp) (λj _=>by simp) (λi _ b _=>by simp)
theorem zEU (k B:Nat) (T:Nat->Nat) (x:Wc.In) (s0 s1:Value) (L:List I) (lv:Value) (P:List (Wc.In × Value)) (w:World) (h:WS k B T w s0 s1 L lv P) (hkB:k<B) (hB:B<=w.heap.size) (hl:L.length<=1000000) :
  Calls prog 28 #[.pointer (some ⟨k,0,none⟩),.agg (zAD x zAG).toArray] w (WP k B T s0 s1 (L++[(x,[])]) lv w):=by
 refine (zJr k B x s0 s1 lv P w h.at' h.own hkB hB (by rw [h.len];exact hl)).mono ?_;rintro e w' ⟨⟨lv',rfl,ha,ho,hn⟩,hf⟩;refine ⟨⟨lv',P++[(x,zAG)],rfl,⟨ha,ho,by simp [h.len],λi h1 h2=>?_,h.tb,λi j h1 h2 b e1 e2=>?_⟩,hn⟩,hf⟩
 ·by_cases hi:i<P.length
  ·have hi2:i<L.length:=by rw [<-h.len];exact hi
   rw [List.getElem_append_left hi,List.getElem_append_left hi2];refine ⟨(h.ins i hi hi2).1,zAc hf (h.ins i hi hi2).2 (λb e hm=>?_)⟩;rcases List.mem_cons.1 hm with q | q
   ·have:=(zAT (h.ins i hi hi2).2 e).1;have:=h.tb i;omega
   ·exact zL4 (h.ins i hi hi2).2 h.own (by decide) e (by simpa using q)
  ·have e1:i=P.length:=by simp at h1;omega
   subst e1;have e2:(P++[(x,zAG)])[P.length]=(x,zAG):=by simp
   have e3:(L++[(x,([]:List Int))])[P.length]=(x,[]):=by simp [h.len]
   rw [e2,e3];exact ⟨rfl,OwnZ.nil _ _⟩
 ·have hx:∀ i (h1:i<(P++[(x,zAG)]).length),((P++[(x,zAG)])[i]).2.ownBlock=some b->i<P.length:=λi h1 e=>by
   rcases Nat.lt_or_ge i P.length with q | q
   ·exact q
   ·have e0:i=P.length:=by simp at h1;omega
    subst e0;have e2:(P++[(x,zAG)])[P.length]=(x,zAG):=by simp
    rw [e2] at e;cases e
  have a1:=hx i h1 e1;have a2:=hx j h2 e2;rw [List.getElem_append_left a1] at e1;rw [List.getElem_append_left a2] at e2;exact h.dis i j a1 a2 b e1 e2
theorem zDf (own:Int) (nm:List ByteArray) (av:Option Addr) (m cap:Nat) (r:Wt.Rf) (w:World) (hm:m=nm.length) (hl:nm.length<=16) (hR:RdS w av nm):CR 48 #[zBx own av m cap,.agg (rf5 r).toArray] w (.agg #[.int .i64 (shN own nm r.s),.int .i64 r.r,.int .i64 r.c]):=by
 have SH:=λ(W:World) (h:RdS W av nm)=>zCl own nm r.s av m cap W hm hl h
 generalize shN own nm r.s=sn at *;have hB:=zAK (zAK (zAK (Below.refl _ w) (.cells #[.int .i64 own,.slice av m cap] 60)) (.cells #[.string r.s,.int .i64 r.r,.int .i64 r.c,.bool r.fr,.bool r.fc] 33)) (.cells #[.int .i64 0,.int .i64 0,.int .i64 0] 24);have pS:=((AtL.new0 w 60 [.int .i64 own,.slice av m cap]).alloc (.cells #[.string r.s,.int .i64 r.r,.int .i64 r.c,.bool r.fr,.bool r.fc] 33)).alloc (.cells #[.int .i64 0,.int .i64 0,.int .i64 0] 24);have pR:=(AtL.new1 w (.cells #[.int .i64 own,.slice av m cap] 60) 33 [.string r.s,.int .i64 r.r,.int .i64 r.c,.bool r.fr,.bool r.fc]).alloc (.cells #[.int .i64 0,.int .i64 0,.int .i64 0] 24);have pC:AtL (((w.alloc (.cells #[.int .i64 own,.slice av m cap] 60)).alloc (.cells #[.string r.s,.int .i64 r.r,.int .i64 r.c,.bool r.fr,.bool r.fc] 33)).alloc (.cells #[.int .i64 0,.int .i64 0,.int .i64 0] 24)) (w.heap.size+2) [.int .i64 0,.int .i64 0,.int .i64 0]:=AtL.new _ _ (by simp) _;have HR3:Hid (RdS (((w.alloc (.cells #[.int .i64 own,.slice av m cap] 60)).alloc (.cells #[.string r.s,.int .i64 r.r,.int .i64 r.c,.bool r.fr,.bool r.fc] 33)).alloc (.cells #[.int .i64 0,.int .i64 0,.int .i64 0] 24)) av nm):=hR.below hB;clear hm hl hR;unfold rf5;go_enter func48,ntmps48;go_upto_region 1 with fail
 generalize (((w.alloc (.cells #[.int .i64 own,.slice av m cap] 60)).alloc (.cells #[.string r.s,.int .i64 r.r,.int .i64 r.c,.bool r.fr,.bool r.fc] 33)).alloc (.cells #[.int .i64 0,.int .i64 0,.int .i64 0] 24))=W3 at *;have rb:=(Below.refl W3.heap.size W3).drew;have pS1:=AtL.below rb pS;have pR1:=AtL.below rb pR;have pC1:=AtL.below rb pC;have hB1:=zAB hB rb;have HRD:Hid (RdS W3.drew av nm):=HR3.out.below rb;have s0:=pS1.2.1 0 _ rfl;have s1:=pS1.2.1 1 _ rfl;have r0:=pR1.2.1 0 _ rfl;have r1:=pR1.2.1 1 _ rfl;have r2:=pR1.2.1 2 _ rfl;clear rb pS pR pC pS1 pR1 hB HR3;refine wp_region_held_drew (S:=λW=>W.cell? ⟨w.heap.size,0,none⟩=some (.int .i64 own)/\W.cell? ⟨w.heap.size,1,none⟩=some (.slice av m cap)/\W.cell? ⟨w.heap.size+1,0,none⟩=some (.string r.s)/\W.cell? ⟨w.heap.size+1,1,none⟩=some (.int .i64 r.r)/\W.cell? ⟨w.heap.size+1,2,none⟩=some (.int .i64 r.c)) (by kernel_rfl) ⟨s0,s1,r0,r1,r2⟩ (λhHeld=>?_);generalize W3.drew=WD at *;refine tkQ 0 ?_
 refine tkQ 1 ?_
 refine tkQ 2 ?_
 refine tkQ 4 ?_
 refine tkQ 5 ?_
 refine tkQ 6 ?_
 refine tkQ 7 ?_
 refine rdQ 3 (λK hK=>?_);go_simp
 refine (SH WD HRD.out).mono ?_;rintro e w6 ⟨rfl,hb6⟩;go_wp2_with fail
 refine hkQ hK ⟨zAC hb6 s0,zAC hb6 s1,zAC hb6 r0,zAC hb6 r1,zAC hb6 r2⟩ (λhHeld=>?_);clear hK K
 have hB6:=zAB hB1 hb6;have pC6:=AtL.below hb6 pC1;refine tkQ 8 ?_
 have k0:=pC6.2.1 0 _ rfl;have k1:=pC6.2.1 1 _ rfl;have k2:=pC6.2.1 2 _ rfl;have z0:=pC6.2.2 0 (by simp);have z1:=pC6.2.2 1 (by simp);have z2:=pC6.2.2 2 (by simp);refine rdQ 9 (λK hK=>?_);go_simp
 have fr:Fr [w.heap.size+2] w6 (((w6.setCell ⟨w.heap.size+2,0,none⟩ (.int .i64 sn)).setCell ⟨w.heap.size+2,1,none⟩ (.int .i64 r.r)).setCell ⟨w.heap.size+2,2,none⟩ (.int .i64 r.c)):=zC8;have pF:AtL (w6.setCells (w.heap.size+2) 0 [.int .i64 sn,.int .i64 r.r,.int .i64 r.c]) (w.heap.size+2) [.int .i64 sn,.int .i64 r.r,.int .i64 r.c]:=pC6.setAll rfl;have HPF:Hid ((((w6.setCell ⟨w.heap.size+2,0,none⟩ (.int .i64 sn)).setCell ⟨w.heap.size+2,1,none⟩ (.int .i64 r.r)).setCell ⟨w.heap.size+2,2,none⟩ (.int .i64 r.c)).rangeAt (w.heap.size+2) 0 [.int .i64 sn,.int .i64 r.r,.int .i64 r.c]):=pF.range;have HBF:Hid (Below w.heap.size w (((w6.setCell ⟨w.heap.size+2,0,none⟩ (.int .i64 sn)).setCell ⟨w.heap.size+2,1,none⟩ (.int .i64 r.r)).setCell ⟨w.heap.size+2,2,none⟩ (.int .i64 r.c))):=zDs hB6 fr (λk hk=>by simp at hk;omega);refine hkQ hK ⟨fr.cell (zAC hb6 s0) (by simp),fr.cell (zAC hb6 s1) (by simp),fr.cell (zAC hb6 r0) (by simp),fr.cell (zAC hb6 r1) (by simp),fr.cell (zAC hb6 r2) (by simp)⟩ (λhHeld=>?_);clear hK K
 refine wpAnyH_done (by kernel_rfl) ?_ _;clear hHeld fr pF k0 k1 k2 z0 z1 z2 pC6 pC1 hB6 hB1 hb6 s0 s1 r0 r1 r2;generalize (((w6.setCell ⟨w.heap.size+2,0,none⟩ (.int .i64 sn)).setCell ⟨w.heap.size+2,1,none⟩ (.int .i64 r.r)).setCell ⟨w.heap.size+2,2,none⟩ (.int .i64 r.c))=WF at *;go_wp2;refine bodyPost_ret (zAm (by rfl) _ _ (w.heap.size+2) [.int .i64 sn,.int .i64 r.r,.int .i64 r.c] _ (by rfl) HPF.out underlying24 rfl (by kernel_rfl)) rfl ⟨rfl,HBF.out⟩
theorem zNA (o a:Int) (w:World):(Instr.build 56 #[(0,.int .i64 o),(1,.int .i64 a)]).run prog w=.ok (.agg (zAD (ins o a 0).1 zAG).toArray) w:=by kernel_rfl
theorem zMy (c:Wpl.Cl) (w:World):(Instr.build 56 #[(0,.int .i64 2),(4,.agg #[.int .i64 c.s,.int .i64 c.r,.int .i64 c.c])]).run prog w=.ok (.agg (zAD (zLJ c).1 zAG).toArray) w:=by kernel_rfl
theorem zBu {ops:Array Oper} {rest:List Oper} (hgd:op.guard=none) (o:Int) (y:Operand) (ho:op.op=.build 56 #[(0,.const (.int .i64 o)),(1,y)]) (v:Int) (hy:a.eval y=.int .i64 v)
  (h:wpList prog ops Q rest (a.put op.dst (.agg (zAD (ins o v 0).1 zAG).toArray)) w):wpList prog ops Q (op::rest) a w:=by
 refine wpList_plain hgd λK hK=>?_
 unfold Oper.wp execOp;have hv:a.eval (.const (.int .i64 o))=.int .i64 o:=rfl;simp only [ho,List.map_toArray,List.map_cons,List.map_nil,hv,hy,Sem.run_bind,Sem.run_pure,Result.andThen_ok,zNA];exact hK _ _ h
structure En (own:Int) (nm:List ByteArray) (av2:Option Addr) (m2 cap2 k B:Nat) (T:Nat->Nat) (hi:Nat) (w:World):Prop where
 na:NmAt w
 rs:RdS w av2 nm
 hm:m2=nm.length
 hl:nm.length<=16
 rk:∀ bb off,av2=some ⟨bb,off,none⟩->bb<k
 gk:0<k
 hk:hi<=k
 kB:k<B
 hB:B<=w.heap.size
 tl:∀ i,T i<=w.heap.size
theorem En.fr (h:En own nm av2 m2 cap2 k B T hi w) {S:List Nat} (f:Fr S w w') (hs:∀ j ∈ S,k<=j):En own nm av2 m2 cap2 k B T hi w' :=
 ⟨λj v hv=>f.cell (h.na j v hv) (λhm=>by have:=hs _ hm;have:=h.gk;omega),λi hi'=>by
  obtain ⟨bb,off,e,hc⟩:=h.rs i hi';exact ⟨bb,off,e,f.cell hc (λhm=>by have:=hs _ hm;have:=h.rk bb off e;omega)⟩,h.hm,h.hl,h.rk,h.gk,h.hk,h.kB,Nat.le_trans h.hB f.size,λi=>Nat.le_trans (h.tl i) f.size⟩
theorem En.below (h:En own nm av2 m2 cap2 k B T hi w) (hb:Below w.heap.size w w'):En own nm av2 m2 cap2 k B T hi w':=h.fr (Fr.of_below [] hb) (by simp)
theorem zMH (h:WS k B T w s0 s1 L lv P) (hkB:k<B):∀ j ∈ k::lv.ownBlock.toList,k<=j:=λj hj=>by
 rcases List.mem_cons.1 hj with q | q
 ·omega
 ·have:=(zAT h.own (show lv.ownBlock=some j by simpa using q)).1;omega
section
variable (own:Int) (nm:List ByteArray) (av2:Option Addr) (m2 cap2:Nat)
def Wr (n:Nat) (t:Tr n):Prop:=zCi n t/\zCJ own nm n t=0/\isA (hd n t)=false
def AlC (n:Nat):Prop:=∀ (ps:List (Tr n × Value)) (av:Option Addr) (m cap lo hi k B:Nat) (T:Nat->Nat) (w:World) (L:List I) (lv:Value) (P:List (Wc.In × Value)),m=ps.length->ps.length<=30->(∀ p ∈ ps,Wr own nm n p.1)->(∀ p ∈ ps,PA n lo hi w p.1 p.2)->RdQ w av (ps.map λp=>(hd n p.1,p.2))->(0<ps.length->∀ bb off,av=some ⟨bb,off,none⟩->∀ j,lv.ownBlock=some j->bb ≠ j)->(0<ps.length->∀ bb off,av=some ⟨bb,off,none⟩->bb ≠ k/\bb<w.heap.size)->En own nm av2 m2 cap2 k B T hi w->WS k B T w (.int .i64 own) (.slice av2 m2 cap2) L lv P->L.length+(zBk (cod own nm n) (ps.map (·.1)) L.length).length<=900000 ->
 Calls prog 49 #[.pointer (some ⟨k,0,none⟩),.slice av m cap] w (WP k B T (.int .i64 own) (.slice av2 m2 cap2) (L++zBk (cod own nm n) (ps.map (·.1)) L.length) lv w)
end
open Go.RowKit Wf
structure St (own:Int) (nm:List ByteArray) (av2:Option Addr) (m2 cap2 k B:Nat) (T:Nat->Nat) (hi:Nat) (w0:World) (lv0:Value) (w:World) (L:List I) (lv:Value) (P:List (Wc.In × Value)):Prop where
 en:En own nm av2 m2 cap2 k B T hi w
 ws:WS k B T w (.int .i64 own) (.slice av2 m2 cap2) L lv P
 nx:Nx w0 lv0 lv
 fr:Fr (k::lv0.ownBlock.toList) w0 w
section
variable {own:Int} {nm:List ByteArray} {av2:Option Addr} {m2 cap2 k B hi:Nat} {T:Nat->Nat} {w0:World} {lv0:Value} {w:World} {L:List I} {lv:Value} {P:List (Wc.In × Value)}
theorem St.init (he:En own nm av2 m2 cap2 k B T hi w) (hw:WS k B T w (.int .i64 own) (.slice av2 m2 cap2) L lv P):St own nm av2 m2 cap2 k B T hi w lv w L lv P:=⟨he,hw,Nx.refl _ _,Fr.refl _ _⟩
theorem St.below {w':World} (h:St own nm av2 m2 cap2 k B T hi w0 lv0 w L lv P) (hb:Below w.heap.size w w'):St own nm av2 m2 cap2 k B T hi w0 lv0 w' L lv P:=⟨h.en.below hb,h.ws.below hb,h.nx,h.fr.trans (Fr.of_below _ hb)⟩
theorem St.step {w':World} {L':List I} {lv':Value} {P':List (Wc.In × Value)} (h:St own nm av2 m2 cap2 k B T hi w0 lv0 w L lv P) (hf:Fr (k::lv.ownBlock.toList) w w') (hn:Nx w lv lv') (hw:WS k B T w' (.int .i64 own) (.slice av2 m2 cap2) L' lv' P'):St own nm av2 m2 cap2 k B T hi w0 lv0 w' L' lv' P' :=
 ⟨h.en.fr hf (zMH h.ws h.en.kB),hw,h.nx.trans hn h.fr.size,zML h.fr hf h.nx⟩
theorem St.wp (h:St own nm av2 m2 cap2 k B T hi w0 lv0 w L lv P):WP k B T (.int .i64 own) (.slice av2 m2 cap2) L lv0 w0 (.returned (.tuple #[])) w:=⟨⟨lv,P,rfl,h.ws,h.nx⟩,h.fr⟩
end
open Go.RowKit Wf
theorem zGj (h:WS k B T w s0 s1 L lv P):w.rangeAt k 0 [s0,s1]:=λj v hv=>by
 have:=h.at'.2.1 j v (by
  match j,hv with
  | 0,hv=>exact hv
  | 1,hv=>exact hv
  | j+2,hv=>simp at hv)
 rw [Nat.zero_add];exact this
section
variable (own:Int) (nm:List ByteArray) (av2:Option Addr) (m2 cap2:Nat)
end
open Go.RowKit Wf
theorem zCt:∀ {l:List Int},zLf l=0->∀ a ∈ l,a=0
 | [],h,a,ha=>by cases ha
 | b::r,h,a,ha=>by
  unfold zLf at h;by_cases hb:b=0
  ·rw [if_pos hb] at h;rcases List.mem_cons.1 ha with rfl | ha
   ·exact hb
   ·exact zCt h a ha
  ·rw [if_neg hb] at h;exact absurd h hb
section
variable (own:Int) (nm:List ByteArray) (av2:Option Addr) (m2 cap2:Nat)
def CaC (n:Nat):Prop:=∀ (x:Wt.Nd) (ks:List (Tr n)) (sl:Value) (lo hi k B:Nat) (T:Nat->Nat) (w:World) (L:List I) (lv:Value) (P:List (Wc.In × Value)),x.k=6->zCi (n+1) (⟨x,ks⟩:Br (Tr n))->zCJ own nm (n+1) (⟨x,ks⟩:Br (Tr n))=0->PA (n+1) lo hi w (⟨x,ks⟩:Br (Tr n)) sl->En own nm av2 m2 cap2 k B T hi w->WS k B T w (.int .i64 own) (.slice av2 m2 cap2) L lv P->L.length+(zF8 own nm (hd n) (cod own nm n) x ks L.length).length<=900000 ->
 Calls prog 50 #[.pointer (some ⟨k,0,none⟩),.agg (zAP x sl).toArray] w (WP k B T (.int .i64 own) (.slice av2 m2 cap2) (L++zF8 own nm (hd n) (cod own nm n) x ks L.length) lv w)
end
