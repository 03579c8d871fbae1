/- KTwin, KLay, KWs, KCls, KClA. -/
import Derived.Test.YtedifblompcdkaaGreatDoorQ16
set_option maxHeartbeats 1600000
set_option maxRecDepth 100000
namespace Go.Proofs.YtedifblompcdkaaGreatDoor
open Tryz
variable {w w' w1:World} {k B:Nat} {T:Nat->Nat} {s0 s1 lv v b:Value} {L:List Wf.I} {P:List (Wc.In × Value)} {a:Act} {K:Act->World->Prop} {Q:Exit->Act->World->Prop}
open Go.RowKit
set_option linter.unusedVariables false
theorem zMZ (w:World) (o:Obj):w.heap.size<(w.alloc o).heap.size:=by
 show w.heap.size<(w.heap.push o).size
 simp
def zAj:List (Wc.In × Value)->List Value
 | []=>[]
 | x::r=>zAM x.1 x.2++zAj r
theorem zFB:∀ A:List (Wc.In × Value),(zAj A).length=A.length * 23
 | []=>rfl
 | x::r=>by simp [zAj,zFB r,zAM];omega
theorem zEt:∀ (A C:List (Wc.In × Value)),zAj (A++C)=zAj A++zAj C
 | [],C=>rfl
 | x::r,C=>by simp [zAj,zEt r C]
def OwnI (w:World) (B:Nat) (v:Value) (A:List (Wc.In × Value)):Prop:=w.ownsRow B 67 23 v A.length (zAj A)
theorem OwnI.nil (w:World) (B:Nat):OwnI w B (.slice none 0 0) []:=⟨rfl,Or.inl ⟨rfl,rfl⟩⟩
theorem OwnI.below {A:List (Wc.In × Value)} (h:OwnI w B v A) (hb:Below w.heap.size w w'):OwnI w' B v A:=zAZ (Fr.of_below [] hb) h (by simp)
theorem zLA:(prog.info? 67).map (λi=>(i.zero,i.size,i.bytes))=some (some (.agg (zAM (zAq 0) zAV).toArray),23,208):=by kernel_rfl
theorem zDG:∀ (A:List (Wc.In × Value)),(∀ p ∈ A,∃ av n c,p.2=.slice av n c)->∀ v ∈ zAj A,v.oneCell'=true
 | [],_,v,h=>by cases h
 | x::r,hs,v,h=>by
  obtain ⟨av,n,c,e⟩:=hs x (List.mem_cons_self ..);simp only [zAj,List.mem_append] at h;rcases h with h | h
  ·rw [e] at h;exact zNK _ _ _ _ v h
  ·exact zDG r (λp hp=>hs p (List.mem_cons_of_mem _ hp)) v h
theorem zRd (x:Wc.In) (av:Option Addr) (n c:Nat) (w:World):(Instr.buildSlice 33 1 #[(0,.agg (zAM x (.slice av n c)).toArray)]).run prog w=.ok (.slice (some ⟨w.heap.size,0,none⟩) 1 1) (w.alloc (.cells (zAM x (.slice av n c)).toArray 67)):=by kernel_rfl
theorem zJX {op:Oper} (y:Operand) (ho:op.op=.buildSlice 33 1 #[(0,y)]) (x:Wc.In) (av:Option Addr) (n c:Nat) (hy:a.eval y=.agg (zAM x (.slice av n c)).toArray)
  (h:K (a.put op.dst (.slice (some ⟨w.heap.size,0,none⟩) 1 1)) (w.alloc (.cells (zAM x (.slice av n c)).toArray 67))):op.wp prog a w K Q:=by
 unfold Oper.wp execOp;simp only [ho,List.map_toArray,List.map_cons,List.map_nil,hy,Sem.run_bind,Sem.run_pure,Result.andThen_ok,zRd];exact h
theorem zIs {o:Oper} {a:Act} {K:Act->World->Prop} {Q:Exit->Act->World->Prop} (s x:Operand) (ho:o.op=.call {callee:=.builtin .append,args:=#[s,x],argTypes:=#[33,33]})
  (w:World) (B:Nat) (hB:B<=w.heap.size) (v:Value) (A:List (Wc.In × Value)) (hs:a.eval s=v) (hown:OwnI w B v A) (g n:Nat) (L:List (Wc.In × Value)) (hn:n=L.length) (hx:a.eval x=.slice (some ⟨g,0,none⟩) n n) (hat:AtL w g (zAj L)) (hsl:∀ p ∈ L,∃ av n c,p.2=.slice av n c) (hl:A.length+L.length<=2000000)
  (h:∀ v' w',OwnI w' B v' (A++L)->w.grownBy w' v.ownBlock->(v'.ownBlock=v.ownBlock \/ v'.ownBlock=some w.heap.size)->K (a.put o.dst v') w'):o.wp prog a w K Q:=by
 subst hn;obtain ⟨i0,hi0,hz0,hz1,hz2⟩:=info_parts zLA;have hnews:∀ j u,(zAj L)[j]? = some u->w.cell? ((⟨g,0,none⟩:Addr).add j)=some u:=λj u hj=>by
  have:=hat.2.1 j u hj;rw [show (⟨g,0,none⟩:Addr).add j=⟨g,j,none⟩ from by
   simp [Addr.add];try (intro h0;omega)]
  exact this
 obtain ⟨v',w',hr,own,hg,_,hb⟩:=run_append_own_at (P:=prog) w B 33 o.type 67 i0 _ 23 208 underlying33 hi0 hz0 hz1 hz2 rfl (by decide) v A.length (zAj A) hown ⟨g,0,none⟩ L.length L.length (zAj L) (zFB L) hnews (zDG L hsl) (by unfold maxLen;omega) (by omega) hB;unfold Oper.wp execOp;simp only [ho,resolve,invoke,builtin,Sem.run_bind,Sem.run_pure,Result.andThen_ok,List.map_toArray,List.map_cons,List.map_nil,hs,hx,hr];refine h v' w' ?_ hg hb;unfold OwnI;rw [List.length_append,zEt];exact own
theorem zJx (k B:Nat) (x:Wc.In) (s0 s1 lv:Value) (A:List (Wc.In × Value)) (w:World) (hw:AtL w k [s0,s1,lv]) (ho:OwnI w B lv A) (hkB:k<B) (hB:B<=w.heap.size) (hl:A.length<=1000000) :
  Calls prog 103 #[.pointer (some ⟨k,0,none⟩),.agg (zAM x zAV).toArray] w λe w'=>(∃ lv',e=.returned (.tuple #[])/\AtL w' k [s0,s1,lv']/\OwnI w' B lv' (A++[(x,zAV)])/\∀ j,lv'.ownBlock=some j->lv.ownBlock=some j \/ w.heap.size<=j)/\Fr (k::lv.ownBlock.toList) w w':=by
 have pI0:=AtL.new0 w 67 (zAM x zAV);have hb0:=zAH (Below.refl _ w) (.cells (zAM x zAV).toArray 67);have pW0:=AtL.below hb0 hw;have HO0:Hid (OwnI (w.alloc (.cells (zAM x zAV).toArray 67)) B lv A):=ho.below hb0;have HF0:Hid (Fr (k::lv.ownBlock.toList) w (w.alloc (.cells (zAM x zAV).toArray 67))):=Fr.of_below _ hb0;have HS0:Hid (B<=(w.alloc (.cells (zAM x zAV).toArray 67)).heap.size/\w.heap.size<(w.alloc (.cells (zAM x zAV).toArray 67)).heap.size):=⟨Nat.le_trans hB hb0.size,pI0.1⟩
 have HL:Hid (A.length<=1000000):=hl;have HKB:Hid (k<B/\B<=w.heap.size):=⟨hkB,hB⟩
 have HLB:Hid (∀ j,lv.ownBlock=some j->B<=j/\j<w.heap.size):=λj e=>zAL ho e
 clear hw ho hl hb0 hkB hB;go_enter func103,ntmps103;go_upto_region 1 with fail
 generalize (w.alloc (.cells (zAM x zAV).toArray 67))=W1 at *;have rb:=(Below.refl W1.heap.size W1).drew;have sI:=zAF rb pI0.range;have pW:=AtL.below rb pW0;have sW:=pW.2.1 2 _ rfl;have HO1:Hid (OwnI W1.drew B lv A):=HO0.out.below rb;have HF1:Hid (Fr (k::lv.ownBlock.toList) w W1.drew):=HF0.out.trans (Fr.of_below _ rb);have HS1:Hid (B<=W1.drew.heap.size/\w.heap.size<W1.drew.heap.size):=HS0.out;clear rb pI0 pW0 HO0 HF0 HS0;refine wp_region_held_drew (S:=λW=>W.rangeAt w.heap.size 0 (zAM x zAV)) (by kernel_rfl) sI (λhHeld=>?_);generalize W1.drew=WD at *;refine tkQ 0 ?_
 refine tkQ 1 ?_
 refine tkQ 2 ?_
 refine tkQ 3 ?_
 refine wpAnyH_take (i:=5) (v:=.agg (zAM x zAV).toArray) (atQ rfl) (by kernel_rfl) (by kernel_rfl) (by kernel_rfl) (λ_ _ _ h=>h) (yieldsIf_load_mid (by rfl) 67 (.tmp 3) rfl w.heap.size 0 rfl (zAM x zAV) _ (λ_ h=>h) underlying67 rfl (by kernel_rfl)) (by assumption) ?_;try simp only [Act.put,lA,lZ,lS]
 refine wpAnyH_ready (rs:=[4,6]) (by kernel_rfl) (by simp) ?_;refine AllReadyH.cons (atQ rfl) (λK hK=>?_) (AllReadyH.cons (atQ rfl) (λK hK=>?_) AllReadyH.nil)
 ·go_simp
  refine hkQ hK sI (λhHeld=>?_);clear hK K
  refine rdQ 6 (λK hK=>?_);refine zJX (.tmp 9) rfl x none 0 0 rfl ?_;have hb2:=zAH (Below.refl _ WD) (.cells (zAM x zAV).toArray 67);have HA2:Hid (AtL (WD.alloc (.cells (zAM x zAV).toArray 67)) WD.heap.size (zAj [(x,zAV)])):=by show AtL _ _ _;rw [show zAj [(x,zAV)]=(zAM x zAV) from by simp [zAj]];exact AtL.new0 WD _ _
  have HO2:Hid (OwnI (WD.alloc (.cells (zAM x zAV).toArray 67)) B lv A):=HO1.out.below hb2;have HF2:Hid (Fr (k::lv.ownBlock.toList) w (WD.alloc (.cells (zAM x zAV).toArray 67))):=HF1.out.trans (Fr.of_below _ hb2);have HS2:Hid (B<=(WD.alloc (.cells (zAM x zAV).toArray 67)).heap.size/\w.heap.size<WD.heap.size):=⟨Nat.le_trans HS1.out.1 hb2.size,HS1.out.2⟩
  have sI2:=zAF hb2 sI;have pW2:=AtL.below hb2 pW;have sW2:=zAC hb2 sW;clear hb2 HO1 HF1 HS1 sI pW sW;refine hkQ hK sI2 (λhHeld=>?_);clear hK K
  generalize (WD.alloc (.cells (zAM x zAV).toArray 67))=W2 at *;obtain ⟨g,hg⟩:∃ g,WD.heap.size=g:=⟨_,rfl⟩
  rw [hg] at HA2 HS2;try simp only [hg]
  clear hg;refine rdQ 7 (λK hK=>?_);refine zIs (.tmp 8) (.tmp 10) rfl W2 B HS2.out.1 lv A rfl HO2.out g 1 [(x,zAV)] rfl rfl HA2.out (λp hp=>by simp at hp;subst hp;exact ⟨_,_,_,rfl⟩) (by have:=HL.out;simp;omega) ?_;intro v3 W3 own3 hg3 hv3;have HNX:Hid (∀ j,v3.ownBlock=some j->lv.ownBlock=some j \/ w.heap.size<=j):=(λj e=>by
   rcases hv3 with hv3 | hv3
   ·exact Or.inl (by rw [<-hv3];exact e)
   ·rw [hv3] at e;cases e;exact Or.inr HF2.out.size:∀ j,v3.ownBlock=some j->lv.ownBlock=some j \/ w.heap.size<=j)
  clear hv3;obtain ⟨g3,cap3,ev,hcp⟩:∃ g cap,v3=.slice (some ⟨g,0,none⟩) (A.length+1) cap/\B<=g:=by
   rcases own3.2 with ⟨_,h0⟩ | ⟨g,cap,cur,e,hbb,_,hc,_⟩
   ·simp at h0
   ·exact ⟨g,cap,by rw [e];simp,hbb⟩
  subst ev;have fr3:Fr lv.ownBlock.toList W2 W3:=Fr.of_grown hg3 (λk e=>by simp [e]);have hbk:∀ j,lv.ownBlock=some j->B<=j/\j<W2.heap.size:=λj e=>zAL HO2.out e
  have sI3:=fr3.range sI2 (λe=>by have:=(HLB.out w.heap.size (by simpa using e)).2;omega);have pW3:=pW2.fr fr3 (λe=>by have:=(hbk k (by simpa using e)).1;have:=HKB.out;omega);have HF3:Hid (Fr (k::lv.ownBlock.toList) w W3):=HF2.out.trans (fr3.mono (λj hj=>List.mem_cons_of_mem _ hj));have HO3:Hid (OwnI W3 B (.slice (some ⟨g3,0,none⟩) (A.length+1) cap3) (A++[(x,zAV)])):=own3;clear own3 hg3 fr3 hbk HF2 HO2 HA2 pW2 sI2 sW2;have sW3:=pW3.2.1 2 _ rfl;have zW3:=pW3.2.2 2 (by simp);refine hkQ hK sI3 (λhHeld=>?_);clear hK K
  refine tkQ 8 ?_
  refine tkQ 9 ?_
  refine rdQ 10 (λK hK=>?_);go_simp
  have pW4:=pW3.set 2 (.slice (some ⟨g3,0,none⟩) (A.length+1) cap3);have fr4:Fr [k] W3 (W3.setCell ⟨k,2,none⟩ (.slice (some ⟨g3,0,none⟩) (A.length+1) cap3)):=Fr.of_grown (zAR _ _ _ _) (λj e=>by cases e;simp);have HF4:Hid (Fr (k::lv.ownBlock.toList) w (W3.setCell ⟨k,2,none⟩ (.slice (some ⟨g3,0,none⟩) (A.length+1) cap3))):=HF3.out.trans (fr4.mono (λj hj=>by simp at hj;subst hj;exact List.mem_cons_self ..));have HO4:Hid (OwnI (W3.setCell ⟨k,2,none⟩ (.slice (some ⟨g3,0,none⟩) (A.length+1) cap3)) B (.slice (some ⟨g3,0,none⟩) (A.length+1) cap3) (A++[(x,zAV)])):=zAZ fr4 HO3.out (λj e=>by have:=(zAL HO3.out e).1;have:=HKB.out;simp;omega);have sI4:=fr4.range sI3 (by have:=HKB.out;simp;omega);have HP4:Hid (AtL (W3.setCell ⟨k,2,none⟩ (.slice (some ⟨g3,0,none⟩) (A.length+1) cap3)) k [s0,s1,.slice (some ⟨g3,0,none⟩) (A.length+1) cap3]):=pW4;generalize (W3.setCell ⟨k,2,none⟩ (.slice (some ⟨g3,0,none⟩) (A.length+1) cap3))=W4 at *;refine hkQ hK sI4 (λhHeld=>?_);clear hK K
  refine wpAnyH_done (by kernel_rfl) ?_ _;clear hHeld sI4 sI3 pW4 fr4;go_wp2;go_end0
  exact ⟨⟨_,rfl,HP4.out,HO4.out,HNX.out⟩,HF4.out⟩
 ·refine zJX (.tmp 9) rfl x none 0 0 rfl ?_;have hb2:=zAH (Below.refl _ WD) (.cells (zAM x zAV).toArray 67);have HA2:Hid (AtL (WD.alloc (.cells (zAM x zAV).toArray 67)) WD.heap.size (zAj [(x,zAV)])):=by show AtL _ _ _;rw [show zAj [(x,zAV)]=(zAM x zAV) from by simp [zAj]];exact AtL.new0 WD _ _
  have HO2:Hid (OwnI (WD.alloc (.cells (zAM x zAV).toArray 67)) B lv A):=HO1.out.below hb2;have HF2:Hid (Fr (k::lv.ownBlock.toList) w (WD.alloc (.cells (zAM x zAV).toArray 67))):=HF1.out.trans (Fr.of_below _ hb2);have HS2:Hid (B<=(WD.alloc (.cells (zAM x zAV).toArray 67)).heap.size/\w.heap.size<WD.heap.size):=⟨Nat.le_trans HS1.out.1 hb2.size,HS1.out.2⟩
  have sI2:=zAF hb2 sI;have pW2:=AtL.below hb2 pW;have sW2:=zAC hb2 sW;clear hb2 HO1 HF1 HS1 sI pW sW;refine hkQ hK sI2 (λhHeld=>?_);clear hK K
  generalize (WD.alloc (.cells (zAM x zAV).toArray 67))=W2 at *;obtain ⟨g,hg⟩:∃ g,WD.heap.size=g:=⟨_,rfl⟩
  rw [hg] at HA2 HS2;try simp only [hg]
  clear hg;refine rdQ 4 (λK hK=>?_);try clear hHeld
  go_simp
  refine hkQ hK sI2 (λhHeld=>?_);clear hK K
  refine rdQ 7 (λK hK=>?_);refine zIs (.tmp 8) (.tmp 10) rfl W2 B HS2.out.1 lv A rfl HO2.out g 1 [(x,zAV)] rfl rfl HA2.out (λp hp=>by simp at hp;subst hp;exact ⟨_,_,_,rfl⟩) (by have:=HL.out;simp;omega) ?_;intro v3 W3 own3 hg3 hv3;have HNX:Hid (∀ j,v3.ownBlock=some j->lv.ownBlock=some j \/ w.heap.size<=j):=(λj e=>by
   rcases hv3 with hv3 | hv3
   ·exact Or.inl (by rw [<-hv3];exact e)
   ·rw [hv3] at e;cases e;exact Or.inr HF2.out.size:∀ j,v3.ownBlock=some j->lv.ownBlock=some j \/ w.heap.size<=j)
  clear hv3;obtain ⟨g3,cap3,ev,hcp⟩:∃ g cap,v3=.slice (some ⟨g,0,none⟩) (A.length+1) cap/\B<=g:=by
   rcases own3.2 with ⟨_,h0⟩ | ⟨g,cap,cur,e,hbb,_,hc,_⟩
   ·simp at h0
   ·exact ⟨g,cap,by rw [e];simp,hbb⟩
  subst ev;have fr3:Fr lv.ownBlock.toList W2 W3:=Fr.of_grown hg3 (λk e=>by simp [e]);have hbk:∀ j,lv.ownBlock=some j->B<=j/\j<W2.heap.size:=λj e=>zAL HO2.out e
  have sI3:=fr3.range sI2 (λe=>by have:=(HLB.out w.heap.size (by simpa using e)).2;omega);have pW3:=pW2.fr fr3 (λe=>by have:=(hbk k (by simpa using e)).1;have:=HKB.out;omega);have HF3:Hid (Fr (k::lv.ownBlock.toList) w W3):=HF2.out.trans (fr3.mono (λj hj=>List.mem_cons_of_mem _ hj));have HO3:Hid (OwnI W3 B (.slice (some ⟨g3,0,none⟩) (A.length+1) cap3) (A++[(x,zAV)])):=own3;clear own3 hg3 fr3 hbk HF2 HO2 HA2 pW2 sI2 sW2;have sW3:=pW3.2.1 2 _ rfl;have zW3:=pW3.2.2 2 (by simp);refine hkQ hK sI3 (λhHeld=>?_);clear hK K
  refine tkQ 8 ?_
  refine tkQ 9 ?_
  refine rdQ 10 (λK hK=>?_);go_simp
  have pW4:=pW3.set 2 (.slice (some ⟨g3,0,none⟩) (A.length+1) cap3);have fr4:Fr [k] W3 (W3.setCell ⟨k,2,none⟩ (.slice (some ⟨g3,0,none⟩) (A.length+1) cap3)):=Fr.of_grown (zAR _ _ _ _) (λj e=>by cases e;simp);have HF4:Hid (Fr (k::lv.ownBlock.toList) w (W3.setCell ⟨k,2,none⟩ (.slice (some ⟨g3,0,none⟩) (A.length+1) cap3))):=HF3.out.trans (fr4.mono (λj hj=>by simp at hj;subst hj;exact List.mem_cons_self ..));have HO4:Hid (OwnI (W3.setCell ⟨k,2,none⟩ (.slice (some ⟨g3,0,none⟩) (A.length+1) cap3)) B (.slice (some ⟨g3,0,none⟩) (A.length+1) cap3) (A++[(x,zAV)])):=zAZ fr4 HO3.out (λj e=>by have:=(zAL HO3.out e).1;have:=HKB.out;simp;omega);have sI4:=fr4.range sI3 (by have:=HKB.out;simp;omega);have HP4:Hid (AtL (W3.setCell ⟨k,2,none⟩ (.slice (some ⟨g3,0,none⟩) (A.length+1) cap3)) k [s0,s1,.slice (some ⟨g3,0,none⟩) (A.length+1) cap3]):=pW4;generalize (W3.setCell ⟨k,2,none⟩ (.slice (some ⟨g3,0,none⟩) (A.length+1) cap3))=W4 at *;refine hkQ hK sI4 (λhHeld=>?_);clear hK K
  refine wpAnyH_done (by kernel_rfl) ?_ _;clear hHeld sI4 sI3 pW4 fr4;go_wp2;go_end0
  exact ⟨⟨_,rfl,HP4.out,HO4.out,HNX.out⟩,HF4.out⟩
open Go.RowKit Wf
structure WS (k B:Nat) (T:Nat->Nat) (w:World) (s0 s1:Value) (L:List I) (lv:Value) (P:List (Wc.In × Value)):Prop where
 at':AtL w k [s0,s1,lv]
 own:OwnI w B lv P
 len:P.length=L.length
 ins:∀ i (h:i<P.length) (h':i<L.length),(P[i]).1=(L[i]).1/\OwnZ w (T i) (P[i]).2 (L[i]).2
 tb:∀ i,B<=T i
 dis:∀ i j (h:i<P.length) (h':j<P.length) b,(P[i]).2.ownBlock=some b->(P[j]).2.ownBlock=some b->i=j
def Nx (w:World) (lv lv':Value):Prop:=∀ j,lv'.ownBlock=some j->lv.ownBlock=some j \/ w.heap.size<=j
theorem Nx.refl (w:World) (lv:Value):Nx w lv lv:=λj e=>Or.inl e
theorem Nx.trans {a c:Value} (h:Nx w a b) (h':Nx w1 b c) (hs:w.heap.size<=w1.heap.size):Nx w a c:=λj e=>by
 rcases h' j e with q | q
 ·exact h j q
 ·exact Or.inr (Nat.le_trans hs q)
theorem zMa {w2:World} {a:Value} (h:Fr (k::a.ownBlock.toList) w w1) (h':Fr (k::b.ownBlock.toList) w1 w2) (hn:Nx w a b):Fr (k::a.ownBlock.toList) w w2 :=
 h.new h' (λj hj=>by
  rcases List.mem_cons.1 hj with q | q
  ·exact Or.inl (by rw [q];exact List.mem_cons_self ..)
  ·rcases hn j (by simpa using q) with e | e
   ·exact Or.inl (List.mem_cons_of_mem _ (by simp [e]))
   ·exact Or.inr e)
def WP (k B:Nat) (T:Nat->Nat) (s0 s1:Value) (L:List I) (lv:Value) (w:World) (e:Ending) (w':World):Prop :=
 (∃ lv' P',e=.returned (.tuple #[])/\WS k B T w' s0 s1 L lv' P'/\Nx w lv lv')/\Fr (k::lv.ownBlock.toList) w w'
theorem zBR {C T U m:Nat} {u:Value} {n n':Nat} {xs ys:List Value} (h:w.ownsRow B T k u n xs) (h':w.ownsRow C U m v n' ys) (hne:¬ T=U) {b:Nat} (e:u.ownBlock=some b):¬ v.ownBlock=some b:=λe2=>by
 rcases h.2 with ⟨q,_⟩ | ⟨g1,c1,cur1,q1,_,r1,_⟩
 ·rw [q] at e;cases e
 ·rcases h'.2 with ⟨q,_⟩ | ⟨g2,c2,cur2,q2,_,r2,_⟩
  ·rw [q] at e2;cases e2
  ·rw [q1] at e;rw [q2] at e2;have a1:g1=b:=by simpa [Value.ownBlock] using e
   have a2:g2=b:=by simpa [Value.ownBlock] using e2
   rw [a1] at r1;rw [a2,r1] at r2;simp only [Option.some.injEq,Obj.cells.injEq] at r2;exact hne r2.2.1
theorem WS.fr (h:WS k B T w s0 s1 L lv P) {S:List Nat} (f:Fr S w w') (hk:k ∉ S) (hl:∀ j,lv.ownBlock=some j->j ∉ S) (ht:∀ i (h:i<P.length) b,(P[i]).2.ownBlock=some b->b ∉ S):WS k B T w' s0 s1 L lv P :=
 ⟨h.at'.fr f hk,zAZ f h.own hl,h.len,λi h1 h2=>⟨(h.ins i h1 h2).1,zAZ f (h.ins i h1 h2).2 (λj e=>ht i h1 j e)⟩,h.tb,h.dis⟩
theorem WS.below (h:WS k B T w s0 s1 L lv P) (hb:Below w.heap.size w w'):WS k B T w' s0 s1 L lv P :=
 h.fr (Fr.of_below [] hb) (by simp) (λj _=>by simp) (λi _ b _=>by simp)
theorem zAs (k B:Nat) (T:Nat->Nat) (x:Wc.In) (s0 s1:Value) (L:List I) (lv:Value) (P:List (Wc.In × Value)) (w:World) (h:WS k B T w s0 s1 L lv P) (hkB:k<B) (hB:B<=w.heap.size) (hl:L.length<=1000000) :
  Calls prog 103 #[.pointer (some ⟨k,0,none⟩),.agg (zAM x zAV).toArray] w (WP k B T s0 s1 (L++[(x,[])]) lv w):=by
 refine (zJx k B x s0 s1 lv P w h.at' h.own hkB hB (by rw [h.len];exact hl)).mono ?_;rintro e w' ⟨⟨lv',rfl,ha,ho,hn⟩,hf⟩;refine ⟨⟨lv',P++[(x,zAV)],rfl,⟨ha,ho,by simp [h.len],λi h1 h2=>?_,h.tb,λi j h1 h2 b e1 e2=>?_⟩,hn⟩,hf⟩
 ·by_cases hi:i<P.length
  ·have hi2:i<L.length:=by rw [<-h.len];exact hi
   rw [List.getElem_append_left hi,List.getElem_append_left hi2];refine ⟨(h.ins i hi hi2).1,zAZ hf (h.ins i hi hi2).2 (λb e hm=>?_)⟩;rcases List.mem_cons.1 hm with q | q
   ·have:=(zAL (h.ins i hi hi2).2 e).1;have:=h.tb i;omega
   ·exact zBR (h.ins i hi hi2).2 h.own (by decide) e (by simpa using q)
  ·have e1:i=P.length:=by simp at h1;omega
   subst e1;have e2:(P++[(x,zAV)])[P.length]=(x,zAV):=by simp
   have e3:(L++[(x,([]:List Int))])[P.length]=(x,[]):=by simp [h.len]
   rw [e2,e3];exact ⟨rfl,OwnZ.nil _ _⟩
 ·have hx:∀ i (h1:i<(P++[(x,zAV)]).length),((P++[(x,zAV)])[i]).2.ownBlock=some b->i<P.length:=λi h1 e=>by
   rcases Nat.lt_or_ge i P.length with q | q
   ·exact q
   ·have e0:i=P.length:=by simp at h1;omega
    subst e0;have e2:(P++[(x,zAV)])[P.length]=(x,zAV):=by simp
    rw [e2] at e;cases e
  have a1:=hx i h1 e1;have a2:=hx j h2 e2;rw [List.getElem_append_left a1] at e1;rw [List.getElem_append_left a2] at e2;exact h.dis i j a1 a2 b e1 e2
def Cl (k:Nat) (w:World) (f at':Nat) (bs:List Nat) (cl:Value):Prop:=∃ bi bw ba,bs=[bi,bw,ba]/\cl=.func (.func 234) #[] #[.pointer (some ⟨bi,0,none⟩),.pointer (some ⟨bw,0,none⟩),.pointer (some ⟨ba,0,none⟩)] /\
 w.cell? ⟨bi,0,none⟩=some (.func (.func f) #[] #[])/\w.cell? ⟨bw,0,none⟩=some (.pointer (some ⟨k,0,none⟩))/\w.cell? ⟨ba,0,none⟩=some (.int .i64 (at':Int))
theorem Cl.fr {f at':Nat} {bs:List Nat} {cl:Value} (h:Cl k w f at' bs cl) {S:List Nat} (hf:Fr S w w') (hs:∀ b ∈ bs,b ∉ S):Cl k w' f at' bs cl:=by
 obtain ⟨bi,bw,ba,rfl,e,h1,h2,h3⟩:=h;exact ⟨bi,bw,ba,rfl,e,hf.cell h1 (hs _ (by simp)),hf.cell h2 (hs _ (by simp)),hf.cell h3 (hs _ (by simp))⟩
theorem zDO (k B f:Nat) (T:Nat->Nat) (s0 s1:Value) (L:List I) (lv:Value) (P:List (Wc.In × Value)) (w:World) (h:WS k B T w s0 s1 L lv P) (h0:0<L.length) (hl:L.length<=1000000) :
  Calls prog 202 #[.pointer (some ⟨k,0,none⟩),.func (.func f) #[] #[]] w λe w'=>(∃ cl bs,e=.returned cl/\Cl k w' f (L.length - 1) bs cl/\∀ b ∈ bs,w.heap.size<=b/\b<w'.heap.size)/\Below w.heap.size w w':=by
 have hn:=h.len;rcases h.own.2 with ⟨e,h9⟩ | ⟨g,cap,cur,e,_⟩
 ·rw [hn] at h9;omega
 subst e;rw [hn] at h;obtain ⟨m,hm⟩:∃ m,L.length=m:=⟨_,rfl⟩
 rw [hm] at h h0 hl ⊢;have c2:=h.at'.2.1 2 _ rfl;have hlt:=h.at'.lt;clear hn hm h;have hb0:=zAH (zAH (Below.refl _ w) (.cells #[.pointer (some ⟨k,0,none⟩)] 225)) (.cells #[.func (.func f) #[] #[]] 300);have pW:=(AtL.new0 w 225 [.pointer (some ⟨k,0,none⟩)]).alloc (.cells #[.func (.func f) #[] #[]] 300);have pI:=AtL.new1 w (.cells #[.pointer (some ⟨k,0,none⟩)] 225) 300 [.func (.func f) #[] #[]];have d2:=zAC hb0 c2;have x0:=pW.2.1 0 _ rfl;have hms:IntKind.i64.wrap ((m:Int) - 1)=((m - 1:Nat):Int):=by rw [IntKind.wrap_i64];omega
 clear c2;go_enter func202,ntmps202;go_upto_region 1 with fail
 generalize ((w.alloc (.cells [.pointer (some ⟨k,0,none⟩)].toArray 225)).alloc (.cells [.func (.func f) #[] #[]].toArray 300))=W at *;have hb1:=zAH (Below.refl _ W) (.cells #[.int .i64 ((m - 1:Nat):Int)] 3);have pA:=AtL.new0 W 3 [.int .i64 ((m - 1:Nat):Int)];have pW1:=AtL.below hb1 pW;have pI1:=AtL.below hb1 pI;have hB:=zAA hb0 hb1;go_upto_region 2 with fail
 have hzW:=hb0.size;clear d2 x0 pW pI hb0 hb1;generalize (W.alloc (.cells [.int .i64 ((m - 1:Nat):Int)].toArray 3))=W2 at *;have HCL:Hid (W2.cell? ⟨w.heap.size+1,0,none⟩=some (.func (.func f) #[] #[])/\W2.cell? ⟨w.heap.size,0,none⟩=some (.pointer (some ⟨k,0,none⟩))/\W2.cell? ⟨W.heap.size,0,none⟩=some (.int .i64 ((m - 1:Nat):Int))):=⟨pI1.2.1 0 _ rfl,pW1.2.1 0 _ rfl,pA.2.1 0 _ rfl⟩
 have HSZ:Hid (w.heap.size+1<W2.heap.size/\W.heap.size<W2.heap.size/\w.heap.size<=W.heap.size):=⟨pI1.lt,pA.lt,hzW⟩
 clear pW1 pI1 pA hzW;go_wp2;go_ret;refine ⟨⟨_,_,rfl,⟨_,_,_,rfl,rfl,HCL.out.1,HCL.out.2.1,HCL.out.2.2⟩,λb hb=>?_⟩,hB⟩;have hz:=HSZ.out;simp at hb;omega
theorem zCg:∀ (A:List (Wc.In × Value)) (i:Nat) (h:i<A.length) (j:Nat) (v:Value),(zAM (A[i]).1 (A[i]).2)[j]? = some v->(zAj A)[i * 23+j]? = some v
 | [],i,h,_,_,_=>absurd h (Nat.not_lt_zero _)
 | x::r,0,h,j,v,hv=>by
  have hj:j<(zAM x.1 x.2).length:=by
   rcases Nat.lt_or_ge j (zAM x.1 x.2).length with q | q
   ·exact q
   ·simp only [List.getElem_cons_zero] at hv;rw [List.getElem?_eq_none q] at hv;cases hv
  simp only [zAj,Nat.zero_mul,Nat.zero_add];rw [List.getElem?_append_left hj];exact hv
 | x::r,i+1,h,j,v,hv=>by
  have hl:(zAM x.1 x.2).length=23:=rfl;simp only [zAj];rw [List.getElem?_append_right (by rw [hl];omega),hl,show (i+1) * 23+j - 23=i * 23+j from by omega];exact zCg r i (by simpa using h) j v (by simpa using hv)
theorem zDJ (A:List (Wc.In × Value)) (i:Nat) (h:i<A.length) (y:Wc.In × Value) (j:Nat) (u:Value) (hy:(zAM (A[i]).1 (A[i]).2).set j u=zAM y.1 y.2) (hj:j<23):(zAj A).set (i * 23+j) u=zAj (A.set i y):=by
 induction A generalizing i with
 | nil=>cases h
 | cons x r ih =>
  have hl:(zAM x.1 x.2).length=23:=rfl;cases i with
  | zero =>
   simp only [zAj,List.set_cons_zero,Nat.zero_mul,Nat.zero_add];rw [List.set_append_left _ _ (by rw [hl];exact hj)];simp only [List.getElem_cons_zero] at hy;rw [hy]
  | succ i =>
   simp only [zAj,List.set_cons_succ];rw [List.set_append_right _ _ (by rw [hl];omega),hl,show (i+1) * 23+j - 23=i * 23+j from by omega];rw [ih i (by simpa using h) (by simpa using hy)]
theorem zKK {g o:Nat} (h:WS k B T (w.setCell ⟨g,o,none⟩ v) s0 s1 L lv P):WS k B T (w.drew.setCell ⟨g,o,none⟩ v) s0 s1 L lv P:=by
 have hb:Below (w.setCell ⟨g,o,none⟩ v).heap.size (w.setCell ⟨g,o,none⟩ v) (w.setCell ⟨g,o,none⟩ v).drew:=(Below.refl _ _).drew;exact h.below hb
theorem zNo (h:WS k B T w s0 s1 L lv P) (hkB:k<B) {g cap i:Nat} (hlv:lv=.slice (some ⟨g,0,none⟩) P.length cap) (hi:i<P.length) (hi2:i<L.length) (v:Int) :
  WS k B T (w.setCell ⟨g,i * 23+1,none⟩ (.int .i64 v)) s0 s1 (L.set i ({(L[i]).1 with a:=v},(L[i]).2)) lv (P.set i ({(P[i]).1 with a:=v},(P[i]).2)):=by
 subst hlv;have hst:=h.own.stored (i * 23+1) (.int .i64 v);have hg:=(zAL h.own (show Value.ownBlock (.slice (some ⟨g,0,none⟩) P.length cap)=some g from rfl)).1;have hf:Fr [g] w (w.setCell ⟨g,i * 23+1,none⟩ (.int .i64 v)):=Fr.of_grown hst.2 (λj e=>by cases e;simp);have h2nd:∀ j (h1:j<P.length),((P.set i ({(P[i]).1 with a:=v},(P[i]).2))[j]'(by rw [List.length_set];exact h1)).2=(P[j]).2:=λj h1=>by
  by_cases e:i=j
  ·subst e;rw [List.getElem_set_self]
  ·rw [List.getElem_set_ne e]
 refine ⟨h.at'.fr hf (by simp;omega),?_,by simp [h.len],λj h1 h2=>?_,h.tb,λa b h1 h2 c e1 e2=>?_⟩
 ·have:=hst.1;rw [zDJ P i hi ({(P[i]).1 with a:=v},(P[i]).2) 1 _ rfl (by omega)] at this;unfold OwnI;rw [List.length_set];exact this
 ·rw [List.length_set] at h1 h2;have hz:OwnZ (w.setCell ⟨g,i * 23+1,none⟩ (.int .i64 v)) (T j) (P[j]).2 (L[j]).2:=zAZ hf (h.ins j h1 h2).2 (λb e hm=>zBR (h.ins j h1 h2).2 h.own (by decide) e (by simp at hm;rw [hm];rfl));by_cases e:i=j
  ·subst e;rw [List.getElem_set_self,List.getElem_set_self];exact ⟨by rw [(h.ins i h1 h2).1],hz⟩
  ·rw [List.getElem_set_ne e,List.getElem_set_ne e];exact ⟨(h.ins j h1 h2).1,hz⟩
 ·rw [List.length_set] at h1 h2;rw [h2nd a h1] at e1;rw [h2nd b h2] at e2;exact h.dis a b h1 h2 c e1 e2
theorem zOP (h:WS k B T w s0 s1 L lv P) (hkB:k<B) {g cap i:Nat} (hlv:lv=.slice (some ⟨g,0,none⟩) P.length cap) (hi:i<P.length) (hi2:i<L.length) (v:Int) :
  WS k B T (w.setCell ⟨g,i * 23+2,none⟩ (.int .i64 v)) s0 s1 (L.set i ({(L[i]).1 with b:=v},(L[i]).2)) lv (P.set i ({(P[i]).1 with b:=v},(P[i]).2)):=by
 subst hlv;have hst:=h.own.stored (i * 23+2) (.int .i64 v);have hg:=(zAL h.own (show Value.ownBlock (.slice (some ⟨g,0,none⟩) P.length cap)=some g from rfl)).1;have hf:Fr [g] w (w.setCell ⟨g,i * 23+2,none⟩ (.int .i64 v)):=Fr.of_grown hst.2 (λj e=>by cases e;simp);have h2nd:∀ j (h1:j<P.length),((P.set i ({(P[i]).1 with b:=v},(P[i]).2))[j]'(by rw [List.length_set];exact h1)).2=(P[j]).2:=λj h1=>by
  by_cases e:i=j
  ·subst e;rw [List.getElem_set_self]
  ·rw [List.getElem_set_ne e]
 refine ⟨h.at'.fr hf (by simp;omega),?_,by simp [h.len],λj h1 h2=>?_,h.tb,λa b h1 h2 c e1 e2=>?_⟩
 ·have:=hst.1;rw [zDJ P i hi ({(P[i]).1 with b:=v},(P[i]).2) 2 _ rfl (by omega)] at this;unfold OwnI;rw [List.length_set];exact this
 ·rw [List.length_set] at h1 h2;have hz:OwnZ (w.setCell ⟨g,i * 23+2,none⟩ (.int .i64 v)) (T j) (P[j]).2 (L[j]).2:=zAZ hf (h.ins j h1 h2).2 (λb e hm=>zBR (h.ins j h1 h2).2 h.own (by decide) e (by simp at hm;rw [hm];rfl));by_cases e:i=j
  ·subst e;rw [List.getElem_set_self,List.getElem_set_self];exact ⟨by rw [(h.ins i h1 h2).1],hz⟩
  ·rw [List.getElem_set_ne e,List.getElem_set_ne e];exact ⟨(h.ins j h1 h2).1,hz⟩
 ·rw [List.length_set] at h1 h2;rw [h2nd a h1] at e1;rw [h2nd b h2] at e2;exact h.dis a b h1 h2 c e1 e2
theorem zKi (g o:Nat) (v:Int) (u:Value) (w:World) (hc:w.cell? ⟨g,o+1,none⟩=some u) (hz:w.frozen? ⟨g,o+1,none⟩=false):Calls prog 203 #[.pointer (some ⟨g,o,none⟩),.int .i64 v] w λe w'=>e=.returned (.tuple #[])/\w'=w.setCell ⟨g,o+1,none⟩ (.int .i64 v):=by
 go_enter func203,ntmps203;go_wp2;go_end0
 exact ⟨rfl,rfl⟩
theorem zJg (g o:Nat) (v:Int) (u:Value) (w:World) (hc:w.cell? ⟨g,o+2,none⟩=some u) (hz:w.frozen? ⟨g,o+2,none⟩=false):Calls prog 204 #[.pointer (some ⟨g,o,none⟩),.int .i64 v] w λe w'=>e=.returned (.tuple #[])/\w'=w.setCell ⟨g,o+2,none⟩ (.int .i64 v):=by
 go_enter func204,ntmps204;go_wp2;go_end0
 exact ⟨rfl,rfl⟩
