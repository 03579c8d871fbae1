/- KClB, KClT, KClU. -/
import Derived.Test.YtedifblompcdkaaGreatDoorQ17
set_option maxHeartbeats 1600000
set_option maxRecDepth 100000
namespace Go.Proofs.YtedifblompcdkaaGreatDoor
open Tryz
open Go.RowKit Wf
set_option linter.unusedVariables false
theorem zGF (k B:Nat) (T:Nat->Nat) (s0 s1:Value) (L:List I) (lv:Value) (P:List (Wc.In × Value)) (w:World) (at':Nat) (bi bw ba:Nat) (h:WS k B T w s0 s1 L lv P) (hkB:k<B) (hl:L.length<=1000000) (hat:at' < L.length)
  (h1:w.cell? ⟨bi,0,none⟩=some (.func (.func 203) #[] #[])) (h2:w.cell? ⟨bw,0,none⟩=some (.pointer (some ⟨k,0,none⟩))) (h3:w.cell? ⟨ba,0,none⟩=some (.int .i64 (at':Int))) (hn:∀ b,lv.ownBlock=some b->bi ≠ b/\bw ≠ b/\ba ≠ b) :
  Calls prog 234 #[.pointer (some ⟨bi,0,none⟩),.pointer (some ⟨bw,0,none⟩),.pointer (some ⟨ba,0,none⟩)] w λe w'=>(∃ P',e=.returned (.tuple #[])/\WS k B T w' s0 s1 (L.set at' ({(L[at']).1 with a:=(L.length:Int)},(L[at']).2)) lv P')/\Fr lv.ownBlock.toList w w':=by
 have hPl:=h.len;rcases h.own.2 with ⟨e,h9⟩ | ⟨g,cap,cur,e,hgB,_⟩
 ·rw [hPl] at h9;omega
 have hatP:at' < P.length:=by rw [hPl];exact hat
 have hset:=zNo h hkB e hatP hat (L.length:Int);subst e;have hown:=h.own;have hcc:=hown.cellAt (at' * 23+1) (by omega);have hzz:=hown.frozenAt (at' * 23+1);rw [zCg P at' hatP 1 (.int .i64 (P[at']).1.a) rfl] at hcc;rw [hPl] at h hset hn ⊢;obtain ⟨m,hm⟩:∃ m,L.length=m:=⟨_,rfl⟩
 have HAT:Hid (at' < m/\m<=1000000):=by rw [hm] at hat hl;exact ⟨hat,hl⟩
 have c2:=h.at'.2.1 2 _ rfl;have hng:=hn g rfl;have hgk:g ≠ k:=by omega
 have HNE0:Hid (bi ∉ [g]/\bw ∉ [g]/\ba ∉ [g]/\k ∉ [g]):=⟨by simpa using hng.1,by simpa using hng.2.1,by simpa using hng.2.2,by simpa using hgk.symm⟩
 obtain ⟨L2,hL2⟩:∃ L2,L.set at' ({(L[at']).1 with a:=(L.length:Int)},(L[at']).2)=L2:=⟨_,rfl⟩
 obtain ⟨P2,hP2⟩:∃ P2,P.set at' ({(P[at']).1 with a:=(L.length:Int)},(P[at']).2)=P2:=⟨_,rfl⟩
 rw [hL2,hP2] at hset;rw [hL2];rw [hm] at c2 hset ⊢;have hf0:Fr [g] w (w.setCell ⟨g,at' * 23+1,none⟩ (.int .i64 (m:Int))):=Fr.of_grown (zAR _ _ _ _) (λj e=>by cases e;simp);have hWD:=(Below.refl w.heap.size w).drew;have hset2:WS k B T (w.drew.setCell ⟨g,at' * 23+1,none⟩ (.int .i64 (m:Int))) s0 s1 L2 (.slice (some ⟨g,0,none⟩) m cap) P2:=zKK hset;have hfr:Fr [g] w.drew (w.drew.setCell ⟨g,at' * 23+1,none⟩ (.int .i64 (m:Int))):=Fr.of_grown (zAR _ _ _ _) (λj e=>by cases e;simp);have HFR:Hid (Fr (Value.ownBlock (.slice (some ⟨g,0,none⟩) m cap)).toList w (w.drew.setCell ⟨g,at' * 23+1,none⟩ (.int .i64 (m:Int)))):=(Fr.of_below [g] hWD).trans hfr;have HWS:Hid (WS k B T (w.drew.setCell ⟨g,at' * 23+1,none⟩ (.int .i64 (m:Int))) s0 s1 L2 (.slice (some ⟨g,0,none⟩) m cap) P2):=hset2;have HNE:Hid (bi ∉ [g]/\bw ∉ [g]/\ba ∉ [g]/\k ∉ [g]):=HNE0;replace hcc:w.drew.cell? ⟨g,at' * 23+1,none⟩=some (.int .i64 (P[at']).1.a):=hcc
 replace hzz:w.drew.frozen? ⟨g,at' * 23+1,none⟩=false:=hzz
 replace h1:w.drew.cell? ⟨bi,0,none⟩=some (.func (.func 203) #[] #[]):=h1
 replace h2:w.drew.cell? ⟨bw,0,none⟩=some (.pointer (some ⟨k,0,none⟩)):=h2
 replace h3:w.drew.cell? ⟨ba,0,none⟩=some (.int .i64 (at':Int)):=h3
 replace c2:w.drew.cell? ⟨k,2,none⟩=some (.slice (some ⟨g,0,none⟩) m cap):=c2
 have ha1:(at':Int)<(m:Int):=by have:=HAT.out;omega
 have ha0:(0:Int)<=(at':Int):=by omega
 have IN:=λ(W:World) (h1:W.cell? ⟨g,at' * 23+1,none⟩=some (.int .i64 (P[at']).1.a)) (h2:W.frozen? ⟨g,at' * 23+1,none⟩=false)=>zKi g (at' * 23) (m:Int) _ W h1 h2
 generalize (P[at']).1.a=u at *;clear hset hset2 hf0 hWD hown h hPl hatP hat hl hm hn hng hgk HNE0 hL2 hP2;go_enter func234,ntmps234;refine wp_region_held_drew (S:=λW=>W.cell? ⟨bi,0,none⟩=some (.func (.func 203) #[] #[])/\W.cell? ⟨bw,0,none⟩=some (.pointer (some ⟨k,0,none⟩))/\W.cell? ⟨ba,0,none⟩=some (.int .i64 (at':Int))/\W.cell? ⟨k,2,none⟩=some (.slice (some ⟨g,0,none⟩) m cap)) (by kernel_rfl) ⟨h1,h2,h3,c2⟩ (λhHeld=>?_);generalize w.drew=WD at *;refine tkQ 0 ?_
 refine tkQ 1 ?_
 refine tkQ 2 ?_
 refine tkQ 3 ?_
 refine tkQ 4 ?_
 refine tkQ 5 ?_
 refine tkQ 6 ?_
 refine tkQ 7 ?_
 refine tkQ 8 ?_
 refine tkQ 9 ?_
 refine tkQ 10 ?_
 refine tkQ 11 ?_
 refine rdQ 12 (λK hK=>?_);go_simp
 refine (IN _ hcc hzz).mono ?_;rintro e w2 ⟨rfl,rfl⟩;go_wp2_with fail
 refine hkQ hK ⟨hfr.cell h1 HNE.out.1,hfr.cell h2 HNE.out.2.1,hfr.cell h3 HNE.out.2.2.1,hfr.cell c2 HNE.out.2.2.2⟩ (λhHeld=>?_);clear hK K
 refine wpAnyH_done (by kernel_rfl) ?_ _;clear hHeld h1 h2 h3 c2 hcc hzz hfr IN;go_wp2;go_end0
 exact ⟨⟨_,rfl,HWS.out⟩,HFR.out⟩
theorem zIV (k B:Nat) (T:Nat->Nat) (s0 s1:Value) (L:List I) (lv:Value) (P:List (Wc.In × Value)) (w:World) (at':Nat) (bi bw ba:Nat) (h:WS k B T w s0 s1 L lv P) (hkB:k<B) (hl:L.length<=1000000) (hat:at' < L.length)
  (h1:w.cell? ⟨bi,0,none⟩=some (.func (.func 204) #[] #[])) (h2:w.cell? ⟨bw,0,none⟩=some (.pointer (some ⟨k,0,none⟩))) (h3:w.cell? ⟨ba,0,none⟩=some (.int .i64 (at':Int))) (hn:∀ b,lv.ownBlock=some b->bi ≠ b/\bw ≠ b/\ba ≠ b) :
  Calls prog 234 #[.pointer (some ⟨bi,0,none⟩),.pointer (some ⟨bw,0,none⟩),.pointer (some ⟨ba,0,none⟩)] w λe w'=>(∃ P',e=.returned (.tuple #[])/\WS k B T w' s0 s1 (L.set at' ({(L[at']).1 with b:=(L.length:Int)},(L[at']).2)) lv P')/\Fr lv.ownBlock.toList w w':=by
 have hPl:=h.len;rcases h.own.2 with ⟨e,h9⟩ | ⟨g,cap,cur,e,hgB,_⟩
 ·rw [hPl] at h9;omega
 have hatP:at' < P.length:=by rw [hPl];exact hat
 have hset:=zOP h hkB e hatP hat (L.length:Int);subst e;have hown:=h.own;have hcc:=hown.cellAt (at' * 23+2) (by omega);have hzz:=hown.frozenAt (at' * 23+2);rw [zCg P at' hatP 2 (.int .i64 (P[at']).1.b) rfl] at hcc;rw [hPl] at h hset hn ⊢;obtain ⟨m,hm⟩:∃ m,L.length=m:=⟨_,rfl⟩
 have HAT:Hid (at' < m/\m<=1000000):=by rw [hm] at hat hl;exact ⟨hat,hl⟩
 have c2:=h.at'.2.1 2 _ rfl;have hng:=hn g rfl;have hgk:g ≠ k:=by omega
 have HNE0:Hid (bi ∉ [g]/\bw ∉ [g]/\ba ∉ [g]/\k ∉ [g]):=⟨by simpa using hng.1,by simpa using hng.2.1,by simpa using hng.2.2,by simpa using hgk.symm⟩
 obtain ⟨L2,hL2⟩:∃ L2,L.set at' ({(L[at']).1 with b:=(L.length:Int)},(L[at']).2)=L2:=⟨_,rfl⟩
 obtain ⟨P2,hP2⟩:∃ P2,P.set at' ({(P[at']).1 with b:=(L.length:Int)},(P[at']).2)=P2:=⟨_,rfl⟩
 rw [hL2,hP2] at hset;rw [hL2];rw [hm] at c2 hset ⊢;have hf0:Fr [g] w (w.setCell ⟨g,at' * 23+2,none⟩ (.int .i64 (m:Int))):=Fr.of_grown (zAR _ _ _ _) (λj e=>by cases e;simp);have hWD:=(Below.refl w.heap.size w).drew;have hset2:WS k B T (w.drew.setCell ⟨g,at' * 23+2,none⟩ (.int .i64 (m:Int))) s0 s1 L2 (.slice (some ⟨g,0,none⟩) m cap) P2:=zKK hset;have hfr:Fr [g] w.drew (w.drew.setCell ⟨g,at' * 23+2,none⟩ (.int .i64 (m:Int))):=Fr.of_grown (zAR _ _ _ _) (λj e=>by cases e;simp);have HFR:Hid (Fr (Value.ownBlock (.slice (some ⟨g,0,none⟩) m cap)).toList w (w.drew.setCell ⟨g,at' * 23+2,none⟩ (.int .i64 (m:Int)))):=(Fr.of_below [g] hWD).trans hfr;have HWS:Hid (WS k B T (w.drew.setCell ⟨g,at' * 23+2,none⟩ (.int .i64 (m:Int))) s0 s1 L2 (.slice (some ⟨g,0,none⟩) m cap) P2):=hset2;have HNE:Hid (bi ∉ [g]/\bw ∉ [g]/\ba ∉ [g]/\k ∉ [g]):=HNE0;replace hcc:w.drew.cell? ⟨g,at' * 23+2,none⟩=some (.int .i64 (P[at']).1.b):=hcc
 replace hzz:w.drew.frozen? ⟨g,at' * 23+2,none⟩=false:=hzz
 replace h1:w.drew.cell? ⟨bi,0,none⟩=some (.func (.func 204) #[] #[]):=h1
 replace h2:w.drew.cell? ⟨bw,0,none⟩=some (.pointer (some ⟨k,0,none⟩)):=h2
 replace h3:w.drew.cell? ⟨ba,0,none⟩=some (.int .i64 (at':Int)):=h3
 replace c2:w.drew.cell? ⟨k,2,none⟩=some (.slice (some ⟨g,0,none⟩) m cap):=c2
 have ha1:(at':Int)<(m:Int):=by have:=HAT.out;omega
 have ha0:(0:Int)<=(at':Int):=by omega
 have IN:=λ(W:World) (h1:W.cell? ⟨g,at' * 23+2,none⟩=some (.int .i64 (P[at']).1.b)) (h2:W.frozen? ⟨g,at' * 23+2,none⟩=false)=>zJg g (at' * 23) (m:Int) _ W h1 h2
 generalize (P[at']).1.b=u at *;clear hset hset2 hf0 hWD hown h hPl hatP hat hl hm hn hng hgk HNE0 hL2 hP2;go_enter func234,ntmps234;refine wp_region_held_drew (S:=λW=>W.cell? ⟨bi,0,none⟩=some (.func (.func 204) #[] #[])/\W.cell? ⟨bw,0,none⟩=some (.pointer (some ⟨k,0,none⟩))/\W.cell? ⟨ba,0,none⟩=some (.int .i64 (at':Int))/\W.cell? ⟨k,2,none⟩=some (.slice (some ⟨g,0,none⟩) m cap)) (by kernel_rfl) ⟨h1,h2,h3,c2⟩ (λhHeld=>?_);generalize w.drew=WD at *;refine tkQ 0 ?_
 refine tkQ 1 ?_
 refine tkQ 2 ?_
 refine tkQ 3 ?_
 refine tkQ 4 ?_
 refine tkQ 5 ?_
 refine tkQ 6 ?_
 refine tkQ 7 ?_
 refine tkQ 8 ?_
 refine tkQ 9 ?_
 refine tkQ 10 ?_
 refine tkQ 11 ?_
 refine rdQ 12 (λK hK=>?_);go_simp
 refine (IN _ hcc hzz).mono ?_;rintro e w2 ⟨rfl,rfl⟩;go_wp2_with fail
 refine hkQ hK ⟨hfr.cell h1 HNE.out.1,hfr.cell h2 HNE.out.2.1,hfr.cell h3 HNE.out.2.2.1,hfr.cell c2 HNE.out.2.2.2⟩ (λhHeld=>?_);clear hK K
 refine wpAnyH_done (by kernel_rfl) ?_ _;clear hHeld h1 h2 h3 c2 hcc hzz hfr IN;go_wp2;go_end0
 exact ⟨⟨_,rfl,HWS.out⟩,HFR.out⟩
theorem zEn {ops:Array Oper} {rest:List Oper} {o:Oper} {a:Act} {Q:Exit->Act->World->Prop} (hgd:o.guard=none) (s x:Operand) (ho:o.op=.call {callee:=.builtin .append,args:=#[s,x],argTypes:=#[65,65]})
  (w:World) (B:Nat) (hB:B<=w.heap.size) (v:Value) (A:List Int) (hs:a.eval s=v) (hown:OwnZ w B v A) (g:Nat) (y:Int) (hx:a.eval x=.slice (some ⟨g,0,none⟩) 1 1) (hat:w.cell? ⟨g,0,none⟩=some (.int .i64 y)) (hl:True->A.length<=1000000)
  (h:∀ v' w',OwnZ w' B v' (A++[y])->w.grownBy w' v.ownBlock->(v'.ownBlock=v.ownBlock \/ v'.ownBlock=some w.heap.size)->wpList prog ops Q rest (a.put o.dst v') w'):wpList prog ops Q (o::rest) a w:=by
 obtain ⟨i0,hi0,hz0,hz1,hz2⟩:=info_parts zJZ;have hl:=hl trivial;refine wpList_plain hgd λK hK=>?_
 have hnews:∀ j u,([Value.int .i64 y])[j]? = some u->w.cell? ((⟨g,0,none⟩:Addr).add j)=some u:=λj u hj=>by
  cases j with
  | zero=>simp only [List.getElem?_cons_zero,Option.some.injEq] at hj;subst hj;exact hat
  | succ j=>simp at hj
 obtain ⟨v',w',hr,own,hg,_,hb⟩:=run_append_own_at (P:=prog) w B 65 o.type 3 i0 _ 1 8 underlying65 hi0 hz0 hz1 hz2 rfl (by decide) v A.length (A.map (Value.int .i64)) hown ⟨g,0,none⟩ 1 1 [.int .i64 y] rfl hnews (λu hu=>by simp at hu;subst hu;rfl) (by unfold maxLen;omega) (by omega) hB;unfold Oper.wp execOp;simp only [ho,resolve,invoke,builtin,Sem.run_bind,Sem.run_pure,Result.andThen_ok,List.map_toArray,List.map_cons,List.map_nil,hs,hx,hr];refine hK _ _ (h v' w' ?_ hg hb);unfold OwnZ;rw [List.length_append,List.map_append];exact own
theorem OwnZ.slice {w:World} {B:Nat} {v:Value} {A:List Int} (h:OwnZ w B v A):∃ a m c,v=.slice a m c:=by
 rcases h.2 with ⟨e,_⟩ | ⟨g,cap,cur,e,_⟩
 ·exact ⟨_,_,_,e⟩
 ·exact ⟨_,_,_,e⟩
theorem zHe (g o B:Nat) (v:Int) (tv:Value) (tl:List Int) (w:World) (hc:w.cell? ⟨g,o+22,none⟩=some tv) (hz:w.frozen? ⟨g,o+22,none⟩=false) (ho:OwnZ w B tv tl) (hB:B<=w.heap.size) (hl:tl.length<=1000000) (hg:¬ tv.ownBlock=some g):Calls prog 206 #[.pointer (some ⟨g,o,none⟩),.int .i64 v] w λe w'=>e=.returned (.tuple #[])/\∃ tv' w1,OwnZ w1 B tv' (tl++[v])/\Fr tv.ownBlock.toList w w1/\(∀ j,tv'.ownBlock=some j->tv.ownBlock=some j \/ w.heap.size<=j)/\w'=w1.setCell ⟨g,o+22,none⟩ tv':=by
 have hb0:=zAH (Below.refl _ w) (.cells #[.int .i64 v] 3);have pN:=AtL.new0 w 3 [.int .i64 v];have HO:Hid (OwnZ (w.alloc (.cells #[.int .i64 v] 3)) B tv tl):=ho.below hb0;have HX:Hid ((w.alloc (.cells #[.int .i64 v] 3)).cell? ⟨w.heap.size,0,none⟩=some (.int .i64 v)):=pN.2.1 0 _ rfl;have HB:Hid (B<=(w.alloc (.cells #[.int .i64 v] 3)).heap.size/\w.heap.size<=(w.alloc (.cells #[.int .i64 v] 3)).heap.size):=⟨Nat.le_trans hB hb0.size,hb0.size⟩
 have HL:Hid (tl.length<=1000000):=hl;have HG:Hid (¬ tv.ownBlock=some g):=hg;have HC:Hid ((w.alloc (.cells #[.int .i64 v] 3)).cell? ⟨g,o+22,none⟩=some tv/\(w.alloc (.cells #[.int .i64 v] 3)).frozen? ⟨g,o+22,none⟩=false):=⟨zAC hb0 hc,by rw [(Fr.of_below [] hb0).frozen (zAp hc) (by simp)];exact hz⟩
 have HF0:Hid (Fr tv.ownBlock.toList w (w.alloc (.cells #[.int .i64 v] 3))):=Fr.of_below _ hb0;clear pN hb0 ho hB hl hg;go_enter func206,ntmps206;go_wp2_with (first
  | (
    refine zEn rfl (.tmp 8) (.tmp 10) rfl (w.alloc (.cells #[.int .i64 v] 3)) B HB.out.1 tv tl rfl HO.out w.heap.size v rfl HX.out (λ_=>HL.out) ?_;intro tv1 w1 own1 hg1 hv1;have f1:Fr tv.ownBlock.toList (w.alloc (.cells #[.int .i64 v] 3)) w1:=Fr.of_grown hg1 (λj e=>by simp [e]);have c1:=f1.cell HC.out.1 (λe=>HG.out (by simpa using e));have z1:w1.frozen? ⟨g,o+22,none⟩=false:=by rw [f1.frozen (zAp HC.out.1) (λe=>HG.out (by simpa using e))];exact HC.out.2
    have HF1:Hid (Fr tv.ownBlock.toList w w1):=HF0.out.trans f1;have HO1:Hid (OwnZ w1 B tv1 (tl++[v])):=own1;have HV1:Hid (∀ j,tv1.ownBlock=some j->tv.ownBlock=some j \/ w.heap.size<=j):=(λj e=>by
     rcases hv1 with q | q
     ·exact Or.inl (by rw [<-q];exact e)
     ·rw [q] at e;cases e;exact Or.inr HB.out.2:∀ j,tv1.ownBlock=some j->tv.ownBlock=some j \/ w.heap.size<=j)
    obtain ⟨a8,m8,c8,rfl⟩:=own1.slice;clear own1 hg1 hv1 f1 HO HX HC HF0))
 go_end0
 exact ⟨rfl,_,_,HO1.out,HF1.out,HV1.out,rfl⟩
theorem zN4 {k B:Nat} {T:Nat->Nat} {w w1:World} {s0 s1:Value} {L:List I} {lv:Value} {P:List (Wc.In × Value)} (h:WS k B T w s0 s1 L lv P) (hkB:k<B) {g cap i:Nat} (hlv:lv=.slice (some ⟨g,0,none⟩) P.length cap) (hi:i<P.length) (hi2:i<L.length) (v:Int) {tv':Value} (f1:Fr (P[i]).2.ownBlock.toList w w1) (ho:OwnZ w1 (T i) tv' ((L[i]).2++[v])) (hn:Nx w (P[i]).2 tv') :
  WS k B T (w1.setCell ⟨g,i * 23+22,none⟩ tv') s0 s1 (L.set i ((L[i]).1,(L[i]).2++[v])) lv (P.set i ((P[i]).1,tv'))/\Fr (lv.ownBlock.toList++(P[i]).2.ownBlock.toList) w (w1.setCell ⟨g,i * 23+22,none⟩ tv'):=by
 have hTi:=(h.ins i hi hi2).2;have hlT:∀ j,lv.ownBlock=some j->j ∉ (P[i]).2.ownBlock.toList:=λj e hm=>zBR h.own hTi (by decide) e (by simpa using hm)
 have hg0:=λ(e:lv.ownBlock=some g)=>(zAL h.own e).1
 subst hlv;have hg:=hg0 rfl;have own1:=zAZ f1 h.own hlT;have hst:=own1.stored (i * 23+22) tv';have f2:Fr [g] w1 (w1.setCell ⟨g,i * 23+22,none⟩ tv'):=Fr.of_grown hst.2 (λj e=>by cases e;simp);refine ⟨⟨(h.at'.fr f1 (λhm=>by have:=(zAL hTi (show (P[i]).2.ownBlock=some k by simpa using hm)).1;have:=h.tb i;omega)).fr f2 (by simp;omega),?_,by simp [h.len],λj h1 h2=>?_,h.tb,λa b h1 h2 c e1 e2=>?_⟩,?_⟩
 ·have:=hst.1;rw [zDJ P i hi ((P[i]).1,tv') 22 _ rfl (by omega)] at this;unfold OwnI;rw [List.length_set];exact this
 ·rw [List.length_set] at h1 h2;by_cases e:i=j
  ·subst e;rw [List.getElem_set_self,List.getElem_set_self];exact ⟨(h.ins i h1 h2).1,zAZ f2 ho (λb e hm=>by
    simp at hm;subst hm;exact zBR ho own1 (by decide) e rfl)⟩
  ·rw [List.getElem_set_ne e,List.getElem_set_ne e];have hj:=(h.ins j h1 h2).2;have hj1:=zAZ f1 hj (λb eb hm=>e (h.dis i j hi h1 b (by simpa using hm) eb));exact ⟨(h.ins j h1 h2).1,zAZ f2 hj1 (λb eb hm=>by
    simp at hm;subst hm;exact zBR hj1 own1 (by decide) eb rfl)⟩
 ·rw [List.length_set] at h1 h2;have hne:∀ d (hd:d<P.length),¬ i=d->(P[d]).2.ownBlock=some c->tv'.ownBlock=some c->False:=λd hd hid ed et=>by
   rcases hn c et with q | q
   ·exact hid (h.dis i d hi hd c q ed)
   ·have:=(zAL (h.ins d hd (by rw [<-h.len];exact hd)).2 ed).2;omega
  by_cases ea:i=a
  ·by_cases eb:i=b
   ·omega
   ·subst ea;rw [List.getElem_set_self] at e1;rw [List.getElem_set_ne eb] at e2;exact (hne b h2 eb e2 e1).elim
  ·by_cases eb:i=b
   ·subst eb;rw [List.getElem_set_self] at e2;rw [List.getElem_set_ne ea] at e1;exact (hne a h1 ea e1 e2).elim
   ·rw [List.getElem_set_ne ea] at e1;rw [List.getElem_set_ne eb] at e2;exact h.dis a b h1 h2 c e1 e2
 ·exact (f1.mono (λj hj=>List.mem_append_right _ hj)).trans (f2.mono (λj hj=>by simp at hj;subst hj;exact List.mem_append_left _ (by simp [Value.ownBlock])))
theorem zOL (k B:Nat) (T:Nat->Nat) (s0 s1:Value) (L:List I) (lv:Value) (P:List (Wc.In × Value)) (w:World) (at':Nat) (bi bw ba:Nat) (h:WS k B T w s0 s1 L lv P) (hkB:k<B) (hB:T at'<=w.heap.size) (hl:L.length<=1000000) (hat:at' < L.length) (hatP:at' < P.length) (htl:(L[at']).2.length<=1000000)
  (h1:w.cell? ⟨bi,0,none⟩=some (.func (.func 206) #[] #[])) (h2:w.cell? ⟨bw,0,none⟩=some (.pointer (some ⟨k,0,none⟩))) (h3:w.cell? ⟨ba,0,none⟩=some (.int .i64 (at':Int))) (hn:∀ b ∈ [bi,bw,ba],b ∉ lv.ownBlock.toList++(P[at']).2.ownBlock.toList) :
  Calls prog 234 #[.pointer (some ⟨bi,0,none⟩),.pointer (some ⟨bw,0,none⟩),.pointer (some ⟨ba,0,none⟩)] w λe w'=>(∃ tv',e=.returned (.tuple #[])/\WS k B T w' s0 s1 (L.set at' ((L[at']).1,(L[at']).2++[(L.length:Int)])) lv (P.set at' ((P[at']).1,tv'))/\Nx w (P[at']).2 tv')/\Fr (lv.ownBlock.toList++(P[at']).2.ownBlock.toList) w w':=by
 have hPl:=h.len;rcases h.own.2 with ⟨e,h9⟩ | ⟨g,cap,cur,e,hgB,_⟩
 ·rw [hPl] at h9;omega
 have hWD:=(Below.refl w.heap.size w).drew;have hd:=h.below hWD;have HSET:Hid (∀ (tv':Value) (w1:World),Fr (P[at']).2.ownBlock.toList w.drew w1->OwnZ w1 (T at') tv' ((L[at']).2++[(L.length:Int)])->Nx w.drew (P[at']).2 tv'->WS k B T (w1.setCell ⟨g,at' * 23+22,none⟩ tv') s0 s1 (L.set at' ((L[at']).1,(L[at']).2++[(L.length:Int)])) lv (P.set at' ((P[at']).1,tv'))/\Fr (lv.ownBlock.toList++(P[at']).2.ownBlock.toList) w.drew (w1.setCell ⟨g,at' * 23+22,none⟩ tv')):=λtv' w1 f1 ho hnx=>zN4 hd hkB e hatP hat _ f1 ho hnx
 have HOZ:Hid (OwnZ w.drew (T at') (P[at']).2 (L[at']).2):=(hd.ins at' hatP hat).2;have HBZ:Hid (T at'<=w.drew.heap.size):=hB;have HLZ:Hid ((L[at']).2.length<=1000000):=htl;have HKN:Hid (k ∉ lv.ownBlock.toList++(P[at']).2.ownBlock.toList):=λhm=>by
  rcases List.mem_append.1 hm with q | q
  ·have:=(zAL h.own (show lv.ownBlock=some k by simpa using q)).1;omega
  ·have:=(zAL (h.ins at' hatP hat).2 (show (P[at']).2.ownBlock=some k by simpa using q)).1;have:=h.tb at';omega
 have HGZ:Hid (¬ (P[at']).2.ownBlock=some g):=λee=>zBR (h.ins at' hatP hat).2 h.own (by decide) ee (by rw [e];rfl)
 have HNE:Hid (∀ b ∈ [bi,bw,ba],b ∉ lv.ownBlock.toList++(P[at']).2.ownBlock.toList):=hn;have HWD:Hid (Fr (lv.ownBlock.toList++(P[at']).2.ownBlock.toList) w w.drew):=Fr.of_below _ hWD;have hown:OwnI w.drew B (.slice (some ⟨g,0,none⟩) P.length cap) P:=by rw [<-e];exact hd.own
 have hcc:=hown.cellAt (at' * 23+22) (by omega);have hzz:=hown.frozenAt (at' * 23+22);rw [zCg P at' hatP 22 (P[at']).2 rfl] at hcc;have c2:=hd.at'.2.1 2 _ rfl;rw [e,hPl] at c2;replace h1:w.drew.cell? ⟨bi,0,none⟩=some (.func (.func 206) #[] #[]):=h1
 replace h2:w.drew.cell? ⟨bw,0,none⟩=some (.pointer (some ⟨k,0,none⟩)):=h2
 replace h3:w.drew.cell? ⟨ba,0,none⟩=some (.int .i64 (at':Int)):=h3
 have IN:=λ(W:World) (q1:W.cell? ⟨g,at' * 23+22,none⟩=some (P[at']).2) (q2:W.frozen? ⟨g,at' * 23+22,none⟩=false) (q3:OwnZ W (T at') (P[at']).2 (L[at']).2) (q4:T at'<=W.heap.size) (q5:(L[at']).2.length<=1000000) (q6:¬ (P[at']).2.ownBlock=some g)=>zHe g (at' * 23) (T at') (L.length:Int) (P[at']).2 (L[at']).2 W q1 q2 q3 q4 q5 q6
 obtain ⟨m,hm⟩:∃ m,L.length=m:=⟨_,rfl⟩
 have HAT:Hid (at' < m/\m<=1000000):=by rw [hm] at hat hl;exact ⟨hat,hl⟩
 rw [hm] at c2;have HM:Hid (L.length=m):=hm;simp only [hm] at IN HSET ⊢;have ha1:(at':Int)<(m:Int):=by have:=HAT.out;omega
 have ha0:(0:Int)<=(at':Int):=by omega
 obtain ⟨tv,htv⟩:∃ tv,(P[at']).2=tv:=⟨_,rfl⟩
 obtain ⟨tl,htl2⟩:∃ tl,(L[at']).2=tl:=⟨_,rfl⟩
 obtain ⟨xi,hxi⟩:∃ x,(P[at']).1=x:=⟨_,rfl⟩
 obtain ⟨xl,hxl⟩:∃ x,(L[at']).1=x:=⟨_,rfl⟩
 simp only [htv,htl2,hxi,hxl] at IN HSET HOZ HLZ HKN HGZ HNE HWD hcc ⊢;clear htv htl2 hxi hxl hown hd hWD h hPl hm hn e hat hl htl hatP hB;go_enter func234,ntmps234;refine wp_region_held_drew (S:=λW=>W.cell? ⟨bi,0,none⟩=some (.func (.func 206) #[] #[])/\W.cell? ⟨bw,0,none⟩=some (.pointer (some ⟨k,0,none⟩))/\W.cell? ⟨ba,0,none⟩=some (.int .i64 (at':Int))/\W.cell? ⟨k,2,none⟩=some (.slice (some ⟨g,0,none⟩) m cap)) (by kernel_rfl) ⟨h1,h2,h3,c2⟩ (λhHeld=>?_);generalize w.drew=WD at *;refine tkQ 0 ?_
 refine tkQ 1 ?_
 refine tkQ 2 ?_
 refine tkQ 3 ?_
 refine tkQ 4 ?_
 refine tkQ 5 ?_
 refine tkQ 6 ?_
 refine tkQ 7 ?_
 refine tkQ 8 ?_
 refine tkQ 9 ?_
 refine tkQ 10 ?_
 refine tkQ 11 ?_
 refine rdQ 12 (λK hK=>?_);go_simp
 refine (IN WD hcc hzz HOZ.out HBZ.out HLZ.out HGZ.out).mono ?_;rintro e w2 ⟨rfl,tv1,w1,own1,f1,hn1,rfl⟩;have HST:=HSET.out tv1 w1 f1 own1 hn1;have hfr:=HST.2;go_wp2_with fail
 refine hkQ hK ⟨hfr.cell h1 (HNE.out bi (by simp)),hfr.cell h2 (HNE.out bw (by simp)),hfr.cell h3 (HNE.out ba (by simp)),hfr.cell c2 HKN.out⟩ (λhHeld=>?_);clear hK K
 refine wpAnyH_done (by kernel_rfl) ?_ _;have HRS:Hid (WS k B T (w1.setCell ⟨g,at' * 23+22,none⟩ tv1) s0 s1 (L.set at' (xl,tl++[(m:Int)])) lv (P.set at' (xi,tv1))/\Nx w tv tv1):=⟨HST.1,λj e=>(hn1 j e).imp id (Nat.le_trans HWD.out.size)⟩
 have HFS:=HWD.out.trans HST.2;clear hHeld h1 h2 h3 c2 hcc hzz hfr IN HST own1 f1 hn1;go_wp2;go_end0
 exact ⟨⟨_,rfl,HRS.out.1,HRS.out.2⟩,HFS⟩
