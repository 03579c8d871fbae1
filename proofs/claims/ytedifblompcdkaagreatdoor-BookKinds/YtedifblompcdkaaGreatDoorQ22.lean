/- KLazy, KFold. -/
import Derived.Test.YtedifblompcdkaaGreatDoorQ21
set_option maxHeartbeats 3200000
set_option maxRecDepth 100000
namespace Go.Proofs.YtedifblompcdkaaGreatDoor
open Tryz
open Go.RowKit Wf
set_option linter.unusedVariables false
variable {op:Oper} {a:Act} {w:World}
theorem zJ7 (w:World) (g o m cap:Nat) (j:Nat) (hj:j<=m) (hc:m<=cap):(Instr.sliceAt 186 (.slice (some ⟨g,o,none⟩) m cap) (some (.int .i64 (j:Int))) none none).run prog w=.ok (.slice (some ⟨g,(if cap=j then o else o+21 * j),none⟩) (m - j) (cap - j)) w:=by
 have hu:prog.underlying 186=some (.slice (prog.elem 186)):=by kernel_rfl
 have hz:(sizeOf (prog.elem 186)).run prog w=.ok 21 w:=by kernel_rfl
 rw [run_sliceAt_slice w _ _ _ _ _ hu,run_slice_l w _ _ _ _ hu _ (j:Int) (by omega) (by omega),hz];have he:sliced (some ⟨g,o,none⟩) j m cap 21=.slice (some ⟨g,(if cap=j then o else o+21 * j),none⟩) (m - j) (cap - j):=by
  unfold sliced;by_cases hc1:cap=j
  ·rw [if_pos hc1,if_pos hc1]
  ·rw [if_neg hc1,if_neg hc1];simp [Addr.add];rw [Nat.mul_comm];by_cases h0:21 * j=0
   ·rw [if_pos h0,h0,Nat.add_zero]
   ·rw [if_neg h0]
 rw [<-he];rfl
theorem zH4 {ops:Array Oper} {rest:List Oper} {Q:Exit->Act->World->Prop} (hgd:op.guard=none) (s:Operand) (j:Nat) (ho:op.op=.slice 186 s (some (.const (.int .i64 (j:Int)))) none none) (g o m cap:Nat) (hs:a.eval s=.slice (some ⟨g,o,none⟩) m cap) (hj:j<=m) (hc:m<=cap)
  (h:wpList prog ops Q rest (a.put op.dst (.slice (some ⟨g,(if cap=j then o else o+21 * j),none⟩) (m - j) (cap - j))) w):wpList prog ops Q (op::rest) a w:=by
 refine wpList_plain hgd λK hK=>?_
 unfold Oper.wp execOp;have hv:a.eval (.const (.int .i64 (j:Int)))=.int .i64 (j:Int):=rfl;simp only [ho,hs,hv,Option.map_some,Option.map_none,Sem.run_bind,Sem.run_pure,Result.andThen_ok,zJ7 w g o m cap j hj hc];exact hK _ _ h
theorem zMA (s:Operand) (j:Nat) (ho:op.op=.slice 186 s (some (.const (.int .i64 (j:Int)))) none none) (g o m cap:Nat) (hs:a.eval s=.slice (some ⟨g,o,none⟩) m cap) (hj:j<=m) (hc:m<=cap) (W:World):(execOp a.eval op).run prog W=.ok (.value (.slice (some ⟨g,(if cap=j then o else o+21 * j),none⟩) (m - j) (cap - j))) W:=by
 unfold execOp;have hv:a.eval (.const (.int .i64 (j:Int)))=.int .i64 (j:Int):=rfl;simp only [ho,hs,hv,Option.map_some,Option.map_none,Sem.run_bind,Sem.run_pure,Result.andThen_ok,zJ7 W g o m cap j hj hc]
theorem RdQ.drop {bb off X:Nat} {L:List (Wt.Nd × Value)} (h:RdQ w (some ⟨bb,off,none⟩) L) (j:Nat) (hX:j<L.length->X=off+21 * j):RdQ w (some ⟨bb,X,none⟩) (L.drop j):=λi hi=>by
 rw [List.length_drop] at hi;obtain ⟨b2,o2,e,hr⟩:=h (j+i) (by omega);cases e
 refine ⟨bb,X,rfl,?_⟩;rw [hX (by omega),List.getElem_drop,show off+21 * j+i * 21=off+(j+i) * 21 from by omega];exact hr
section
variable (own:Int) (nm:List ByteArray) (av2:Option Addr) (m2 cap2:Nat)
def LzC (n:Nat):Prop:=∀ (id:Int) (ps:List (Tr n × Value)) (av:Option Addr) (m cap lo hi k B:Nat) (T:Nat->Nat) (w:World) (L:List I) (lv:Value) (P:List (Wc.In × Value)),(id=30 \/ id=31 \/ id=32)->m=ps.length->m<=cap->2<=ps.length->ps.length<=30->(∀ p ∈ ps,Wr own nm n p.1)->(∀ p ∈ ps,PA n lo hi w p.1 p.2)->RdQ w av (ps.map λp=>(hd n p.1,p.2))->(∀ bb off,av=some ⟨bb,off,none⟩->bb<hi)->En own nm av2 m2 cap2 k B T hi w->WS k B T w (.int .i64 own) (.slice av2 m2 cap2) L lv P->L.length+(zCy (cod own nm n) id (ps.map (·.1)) L.length).length<=900000 ->
 Calls prog 164 #[.pointer (some ⟨k,0,none⟩),.int .i64 id,.slice av m cap] w (WP k B T (.int .i64 own) (.slice av2 m2 cap2) (L++zCy (cod own nm n) id (ps.map (·.1)) L.length) lv w)
end
theorem zOO (own:Int) (nm:List ByteArray) (av2:Option Addr) (m2 cap2 n:Nat) (ih:PtC own nm av2 m2 cap2 n) (hpos:∀ (t:Tr n) (a:Nat),Wr own nm n t->0<(cod own nm n t a).length):LzC own nm av2 m2 cap2 n:=by
 intro id ps av mm cap lo hi k B T w L lv P hid hm hmc h2 hl hwp hpap hrd hav hen hws hbd;have br:=zKc own nm av2 m2 cap2 n ih;have gd:=zMp own nm av2 m2 cap2 n ih;have ch:=zIP own nm av2 m2 cap2 n ih hpos;obtain ⟨p0,p1,rest,rfl⟩:∃ p0 p1 rest,ps=p0::p1::rest:=by
  match ps,h2 with
  | p0::p1::rest,_=>exact ⟨p0,p1,rest,rfl⟩
 obtain ⟨bb,off,rfl,r00⟩:=hrd 0 (by simp);obtain ⟨b2,o2,e2,r01⟩:=hrd 1 (by simp);cases e2
 simp only [List.map_cons,List.getElem_cons_zero,List.getElem_cons_succ,Nat.zero_mul,Nat.one_mul,Nat.add_zero] at r00 r01;have hbb:=hav bb off rfl;obtain ⟨sa0,sb0,sc0,hs0⟩:=(hpap p0 (by simp)).slice;obtain ⟨sa1,sb1,sc1,hs1⟩:=(hpap p1 (by simp)).slice;rw [hs0] at r00;rw [hs1] at r01;obtain ⟨y,hy⟩:∃ y,cod own nm n p0.1 L.length=y:=⟨_,rfl⟩
 have hLz:zCy (cod own nm n) id ((p0::p1::rest).map (·.1)) L.length=y++(if id=30 then zCu (cod own nm n) p1.1 (rest.map (·.1)) (L.length+y.length) else if id=31 then zO4 own nm n p1.1 (L.length+y.length) else zCe (cod own nm n) ((p1::rest).map (·.1)) (L.length+y.length)):=by
  simp only [List.map_cons,zCy,hy];rfl
 obtain ⟨LF,hLF⟩:∃ LF,L++zCy (cod own nm n) id ((p0::p1::rest).map (·.1)) L.length=LF:=⟨_,rfl⟩
 rw [hLz,List.length_append] at hbd;rw [hLF];rw [hLz,<-List.append_assoc] at hLF;have h0B:∀ j,lv.ownBlock=some j->B<=j:=λj e=>(zAL hws.own e).1
 have hlen:(L++y).length=L.length+y.length:=by simp
 have hnb:bb ∉ k::lv.ownBlock.toList:=λhmm=>by
  have:=hen.hk;have:=hen.kB;rcases List.mem_cons.1 hmm with q | q
  ·omega
  ·have:=h0B bb (by simpa using q);omega
 have hrq:∀ (W:World) (lv1:Value) (P1:List (Wc.In × Value)),St own nm av2 m2 cap2 k B T hi w lv W (L++y) lv1 P1->RdQ W (some ⟨bb,off,none⟩) ((p0::p1::rest).map λp=>(hd n p.1,p.2)):=λW lv1 P1 st=>hrd.frq st.fr (λb o e hmm=>by cases e;exact hnb hmm)
 have PT:=ih p0.1 p0.2 lo hi k B T w L lv P (hwp p0 (by simp)) (hpap p0 (by simp)) hen hws (by rw [hy];omega);rw [hy,hs0] at PT;have HBR:Hid (id=30->∀ (W:World) (lv1:Value) (P1:List (Wc.In × Value)) (X:Nat),(0<rest.length->X=off+42)->St own nm av2 m2 cap2 k B T hi w lv W (L++y) lv1 P1->Calls prog 184 #[.pointer (some ⟨k,0,none⟩),.agg (zAI (hd n p1.1) (.slice sa1 sb1 sc1)).toArray,.slice (some ⟨bb,X,none⟩) rest.length (cap - 2)] W (WP k B T (.int .i64 own) (.slice av2 m2 cap2) LF lv1 W)):=λh30 W lv1 P1 X hX st=>by
  rw [if_pos h30] at hbd hLF;have:=br p1.1 p1.2 rest (some ⟨bb,X,none⟩) rest.length (cap - 2) lo hi k B T W (L++y) lv1 P1 (hwp p1 (by simp)) (PA.kept (st.kept h0B) n _ _ (hpap p1 (by simp))) rfl (by simp at hl;omega) (λp hp=>hwp p (by simp [hp])) (λp hp=>PA.kept (st.kept h0B) n _ _ (hpap p (by simp [hp]))) (by
   have h9:=(hrq W lv1 P1 st).drop 2 (X:=X) (λhh=>hX (by simpa using hh));simpa using h9) (λb o e=>by cases e;exact hbb) st.en st.ws (by rw [hlen];omega)
  rw [hs1,hlen,hLF] at this;exact this
 have HGD:Hid (id=31->∀ (W:World) (lv1:Value) (P1:List (Wc.In × Value)),St own nm av2 m2 cap2 k B T hi w lv W (L++y) lv1 P1->Calls prog 185 #[.pointer (some ⟨k,0,none⟩),.agg (zAI (hd n p1.1) (.slice sa1 sb1 sc1)).toArray] W (WP k B T (.int .i64 own) (.slice av2 m2 cap2) LF lv1 W)):=λh31 W lv1 P1 st=>by
  rw [if_neg (by omega),if_pos h31] at hbd hLF;have:=gd p1.1 p1.2 lo hi k B T W (L++y) lv1 P1 (hwp p1 (by simp)) (PA.kept (st.kept h0B) n _ _ (hpap p1 (by simp))) st.en st.ws (by rw [hlen];omega);rw [hs1,hlen,hLF] at this;exact this
 have HCH:Hid (id=32->∀ (W:World) (lv1:Value) (P1:List (Wc.In × Value)) (X:Nat),X=off+21->St own nm av2 m2 cap2 k B T hi w lv W (L++y) lv1 P1->Calls prog 186 #[.pointer (some ⟨k,0,none⟩),.slice (some ⟨bb,X,none⟩) (rest.length+1) (cap - 1)] W (WP k B T (.int .i64 own) (.slice av2 m2 cap2) LF lv1 W)):=λh32 W lv1 P1 X hX st=>by
  rw [if_neg (by omega),if_neg (by omega)] at hbd hLF;have:=ch (p1::rest) (some ⟨bb,X,none⟩) (rest.length+1) (cap - 1) lo hi k B T W (L++y) lv1 P1 (by simp) (by simp at hl ⊢;omega) (λp hp=>hwp p (by simp at hp ⊢;rcases hp with h | h <;> simp [h])) (λp hp=>PA.kept (st.kept h0B) n _ _ (hpap p (by simp at hp ⊢;rcases hp with h | h <;> simp [h]))) (by
   have h9:=(hrq W lv1 P1 st).drop 1 (X:=X) (λ_=>by omega);simpa using h9) (λb o e=>by cases e;exact hbb) st.en st.ws (by rw [hlen];omega)
  rw [hlen,hLF] at this;exact this
 have HST0:Hid (St own nm av2 m2 cap2 k B T hi w lv w L lv P):=St.init hen hws;have HN1:Hid (bb ∉ k::lv.ownBlock.toList):=hnb;have HN2:Hid (∀ j,lv.ownBlock=some j->bb ≠ j):=λj e q=>hnb (List.mem_cons_of_mem _ (by simp [e,q]))
 have HBB:Hid (bb<w.heap.size/\∀ (W:World) (lv1:Value) (P1:List (Wc.In × Value)),St own nm av2 m2 cap2 k B T hi w lv W (L++y) lv1 P1->bb ∉ k::lv1.ownBlock.toList):=⟨zAp (r00 0 _ rfl),λW lv1 P1 st hmm=>by
  have:=hen.hk;have:=hen.kB;rcases List.mem_cons.1 hmm with q | q
  ·omega
  ·have:=(zAL st.ws.own (show lv1.ownBlock=some bb by simpa using q)).1;omega⟩
 obtain ⟨m,hmr⟩:∃ m,rest.length=m:=⟨_,rfl⟩
 have hmm:mm=m+2:=by rw [hm,<-hmr];rfl
 subst hmm;rw [hmr] at HBR HCH;have HR1:Hid (w.rangeAt bb (off+21) (zAI (hd n p1.1) (.slice sa1 sb1 sc1))):=r01;generalize hd n p0.1=y0 at *;generalize hd n p1.1=y1 at *;clear hm h2 hl hwp hpap hrd hav hen hws hbd ih hpos br gd ch hs0 hs1 hy hLz hLF h0B hlen hnb hrq hbb r01 hmr;have hm0:(0:Int)<((m+2:Nat):Int):=by omega
 have hm1:(1:Int)<((m+2:Nat):Int):=by omega
 go_enter func164,ntmps164;go_wp2_with (first | (refine zAB (by rfl) 188 (.tmp 8) rfl bb off rfl (zAI y0 (.slice sa0 sb0 sc0)) _ r00 underlying188 rfl (by kernel_rfl) ?_))
 refine PT.mono ?_;rintro e w1 ⟨⟨lv1,P1,rfl,ws1,nx1⟩,fr1⟩;have HS1:Hid (St own nm av2 m2 cap2 k B T hi w lv w1 (L++y) lv1 P1):=HST0.out.step fr1 nx1 ws1;have r1:=fr1.range HR1.out HN1.out;clear PT ws1 nx1 fr1 HST0 r00 HR1;rcases hid with rfl | rfl | rfl
 ·have HX2:Hid (∃ X2,(0<m->X2=off+42)/\∀ (a:Act) (op:Oper) (s:Operand),op.op=.slice 186 s (some (.const (.int .i64 2))) none none->a.eval s=.slice (some ⟨bb,off,none⟩) (m+2) cap->∀ W:World,(execOp a.eval op).run prog W=.ok (.value (.slice (some ⟨bb,X2,none⟩) m (cap - 2))) W):=⟨(if cap=2 then off else off+21 * 2),λh=>by rw [if_neg (by omega)],λa op s ho hs W=>zMA (a:=a) s 2 ho bb off (m+2) cap hs (by omega) hmc W⟩
  obtain ⟨X2,hX2,hex⟩:=HX2.out;have HEX:Hid (∀ (a:Act) (op:Oper) (s:Operand),op.op=.slice 186 s (some (.const (.int .i64 2))) none none->a.eval s=.slice (some ⟨bb,off,none⟩) (m+2) cap->∀ W:World,(execOp a.eval op).run prog W=.ok (.value (.slice (some ⟨bb,X2,none⟩) m (cap - 2))) W):=hex;have BR:=λ(W:World) (st:St own nm av2 m2 cap2 k B T hi w lv W (L++y) lv1 P1)=>HBR.out rfl W lv1 P1 X2 hX2 st
  have hdr:=(Below.refl w1.heap.size w1).drew;have HSD:Hid (St own nm av2 m2 cap2 k B T hi w lv w1.drew (L++y) lv1 P1):=HS1.out.below hdr;replace r1:w1.drew.rangeAt bb (off+21) (zAI y1 (.slice sa1 sb1 sc1)):=r1
  have HNX:Hid (bb ∉ k::lv1.ownBlock.toList):=HBB.out.2 w1 lv1 P1 HS1.out;clear HBR HGD HCH hX2 hex HX2 hdr HS1 hmc;go_upto_region 3 with fail
  refine wp_region_held_drew (S:=λW=>W.rangeAt bb (off+21) (zAI y1 (.slice sa1 sb1 sc1))) (by kernel_rfl) r1 (λhHeld=>?_);generalize w1.drew=WD at *;refine tkQ 0 ?_
  refine tkQ 1 ?_
  refine wpAnyH_take (i:=2) (v:=?_) (atQ rfl) (by kernel_rfl) (by kernel_rfl) (by kernel_rfl) (λ_ _ _ h=>h) (Or.inl ⟨by rfl,?_⟩) (by assumption) ?_;rotate_left
  ·intro w hSw
   (try dsimp only at hSw)
   go_simp
   try rw [if_pos (by omega)]
   try with_reducible rfl
  try simp only [Act.put,lA,lZ,lS]
  refine wpAnyH_take (i:=3) (v:=.agg (zAI y1 (.slice sa1 sb1 sc1)).toArray) (atQ rfl) (by kernel_rfl) (by kernel_rfl) (by kernel_rfl) (λ_ _ _ h=>h) (yieldsIf_load_mid (by rfl) 188 (.tmp 16) rfl (bb) (off+21) rfl (zAI y1 (.slice sa1 sb1 sc1)) _ (λ_ h=>h) underlying188 rfl (by kernel_rfl)) (by assumption) ?_;try simp only [Act.put,lA,lZ,lS]
  refine tkQ 4 ?_
  refine wpAnyH_take (i:=5) (v:=.slice (some ⟨bb,X2,none⟩) m (cap - 2)) (atQ rfl) (by kernel_rfl) (by kernel_rfl) (by kernel_rfl) (λ_ _ _ h=>h) (Or.inl ⟨by rfl,λW _=>HEX.out _ _ (.tmp 18) rfl rfl W⟩) (by assumption) ?_;try simp only [Act.put,lA,lZ,lS]
  refine rdQ 6 (λK hK=>?_);go_simp
  refine (BR WD HSD.out).mono ?_;rintro e w2 h2;obtain ⟨⟨lv2,P2,rfl,ws2,nx2⟩,fr2⟩:=h2;go_wp2_with fail
  have r1b:=fr2.range r1 HNX.out;refine hkQ hK r1b (λhHeld=>?_);clear hK K
  refine wpAnyH_done (by kernel_rfl) ?_ _;have HR:Hid (WP k B T (.int .i64 own) (.slice av2 m2 cap2) LF lv w (.returned (.tuple #[])) w2):=(HSD.out.step fr2 nx2 ws2).wp;clear hHeld r1 r1b BR ws2 nx2 fr2 HSD;go_wp2;go_end0
  exact HR.out
 ·have GD:=HGD.out rfl w1 lv1 P1 HS1.out;clear HBR HGD HCH hmc;go_wp2_with (first | (refine zAB (by rfl) 188 (.tmp 25) rfl bb (off+21) rfl (zAI y1 (.slice sa1 sb1 sc1)) _ r1 underlying188 rfl (by kernel_rfl) ?_))
  refine GD.mono ?_;rintro e w2 ⟨⟨lv2,P2,rfl,ws2,nx2⟩,fr2⟩;have HR:Hid (WP k B T (.int .i64 own) (.slice av2 m2 cap2) LF lv w (.returned (.tuple #[])) w2):=(HS1.out.step fr2 nx2 ws2).wp;clear GD r1 ws2 nx2 fr2 HS1;go_wp2;go_end0
  exact HR.out
 ·have HCC:=HCH.out rfl w1 lv1 P1 (off+21) rfl HS1.out;clear HBR HGD HCH;have hcap:¬ cap=1:=by omega
  go_wp2_with (first | (refine zH4 rfl (.tmp 31) 1 rfl bb off (m+2) cap rfl (by omega) hmc ?_;rw [if_neg hcap,show m+2 - 1=m+1 from by omega,show off+21 * 1=off+21 from by omega];clear hcap hmc))
  refine HCC.mono ?_;rintro e w2 ⟨⟨lv2,P2,rfl,ws2,nx2⟩,fr2⟩;have HR:Hid (WP k B T (.int .i64 own) (.slice av2 m2 cap2) LF lv w (.returned (.tuple #[])) w2):=(HS1.out.step fr2 nx2 ws2).wp;clear HCC r1 ws2 nx2 fr2 HS1;go_wp2;go_end0
  exact HR.out
open Go.RowKit Wf
theorem zBi {k B:Nat} {T:Nat->Nat} {s0 s1:Value} {L:List I} {lv:Value} {P:List (Wc.In × Value)} (h:WS k B T w s0 s1 L lv P):w.rangeAt k 0 [s0,s1]:=λj v hv=>by
 have:=h.at'.2.1 j v (by
  match j,hv with
  | 0,hv=>exact hv
  | 1,hv=>exact hv
  | j+2,hv=>simp at hv)
 rw [Nat.zero_add];exact this
theorem zJ1 (y:Operand) (ho:op.op=.build 67 #[(0,.const (.int .i64 8)),(5,y)]) (ar:Wpl.Ar) (hy:a.eval y=.agg (ar5 ar).toArray) (W:World):(execOp a.eval op).run prog W=.ok (.value (.agg (zAM (zCI 8 0 ar a0I).1 zAV).toArray)) W:=by
 unfold execOp;have hv:a.eval (.const (.int .i64 8))=.int .i64 8:=rfl;simp only [ho,List.map_toArray,List.map_cons,List.map_nil,hv,hy,Sem.run_bind,Sem.run_pure,Result.andThen_ok,zRW]
section
variable (own:Int) (nm:List ByteArray) (av2:Option Addr) (m2 cap2:Nat)
def Wq (n:Nat) (t:Tr n):Prop:=zDT n t/\zC8 own nm n t=0
def zFo (n:Nat) (id:Int) (l:List (Tr n)) (a:Nat):List I:=ins 6 id 0::(zA1 (zCd own nm (hd n) (cod own nm n)) l (a+1)++[ins 10 0 0])
def FoC (n:Nat):Prop:=∀ (id:Int) (ps:List (Tr n × Value)) (av:Option Addr) (m cap lo hi k B:Nat) (T:Nat->Nat) (w:World) (L:List I) (lv:Value) (P:List (Wc.In × Value)),m=ps.length->ps.length<=30->(∀ p ∈ ps,Wq own nm n p.1)->(∀ p ∈ ps,PA n lo hi w p.1 p.2)->RdQ w av (ps.map λp=>(hd n p.1,p.2))->(∀ bb off,av=some ⟨bb,off,none⟩->bb<hi)->En own nm av2 m2 cap2 k B T hi w->WS k B T w (.int .i64 own) (.slice av2 m2 cap2) L lv P->L.length+(zFo own nm n id (ps.map (·.1)) L.length).length<=900000 ->
 Calls prog 162 #[.pointer (some ⟨k,0,none⟩),.int .i64 id,.slice av m cap] w (WP k B T (.int .i64 own) (.slice av2 m2 cap2) (L++zFo own nm n id (ps.map (·.1)) L.length) lv w)
end
theorem zOx (own:Int) (nm:List ByteArray) (av2:Option Addr) (m2 cap2 n:Nat) (ih:PtC own nm av2 m2 cap2 n):FoC own nm av2 m2 cap2 n:=by
 intro id ps av m cap lo hi k B T w L lv P hm hl hwp hpap hrd hav hen hws hbd;have fd:=zIZ own nm av2 m2 cap2 n ih;have h0B:∀ j,lv.ownBlock=some j->B<=j:=λj e=>(zAL hws.own e).1
 have hLF:L++zFo own nm n id (ps.map (·.1)) L.length=((L++[ins 6 id 0])++zA1 (zCd own nm (hd n) (cod own nm n)) (ps.map (·.1)) (L.length+1))++[ins 10 0 0]:=by simp [zFo]
 have hbd2:L.length+1+(zA1 (zCd own nm (hd n) (cod own nm n)) (ps.map (·.1)) (L.length+1)).length<=900000:=by
  simp only [zFo,List.length_cons,List.length_append] at hbd;omega
 rw [hLF];have LA:=zAs k B T (ins 6 id 0).1 _ _ L lv P w hws hen.kB hen.hB (by omega);have HST0:Hid (St own nm av2 m2 cap2 k B T hi w lv w L lv P):=St.init hen hws;have HM:Hid (m=ps.length/\ps.length<=30):=⟨hm,hl⟩
 have HWP:Hid (∀ p ∈ ps,Wq own nm n p.1):=hwp;have HPA:Hid (∀ p ∈ ps,PA n lo hi w p.1 p.2):=hpap;have HRD:Hid (RdQ w av (ps.map λp=>(hd n p.1,p.2))):=hrd;have HAV:Hid (∀ bb off,av=some ⟨bb,off,none⟩->bb<hi):=hav;have HK:Hid (hi<=k/\k<B/\∀ j,lv.ownBlock=some j->B<=j):=⟨hen.hk,hen.kB,h0B⟩
 have HFD:Hid (FdC own nm av2 m2 cap2 n):=fd;have HBD:Hid (L.length+1+(zA1 (zCd own nm (hd n) (cod own nm n)) (ps.map (·.1)) (L.length+1)).length<=900000):=hbd2;have HMN:Hid (m2=nm.length/\nm.length<=16):=⟨hen.hm,hen.hl⟩
 clear hm hl hwp hpap hrd hav hen hws hbd ih fd h0B hLF hbd2;go_enter func162,ntmps162;go_wp2_with (first | (refine zB1 rfl 6 (.tmp 9) rfl id rfl ?_))
 refine LA.mono ?_;rintro e w1 ⟨⟨lv1,P1,rfl,ws1,nx1⟩,fr1⟩;have HST1:Hid (St own nm av2 m2 cap2 k B T hi w lv w1 (L++[ins 6 id 0]) lv1 P1):=HST0.out.step fr1 nx1 ws1;clear LA ws1 nx1 fr1 HST0;go_wp2_with fail
 go_loopg [7,14] m (λgk u x wr=>∃ (i:Nat),x=.int .i64 (i:Int)/\gk=m - i/\i<=m/\Hid (∃ lvi Pi,St own nm av2 m2 cap2 k B T hi w lv wr ((L++[ins 6 id 0])++zA1 (zCd own nm (hd n) (cod own nm n)) ((ps.map (·.1)).take i) (L.length+1)) lvi Pi))
 case atStart=>exact ⟨0,rfl,rfl,Nat.zero_le _,⟨lv1,P1,by simpa [zA1] using HST1.out⟩⟩
 case round =>
  clear HST1;obtain ⟨i,rfl,hg,him,HS⟩:=hrel;by_cases hlt:i<m
  ·have hli:(i:Int)<(m:Int):=by omega
   have hiz:(0:Int)<=(i:Int):=by omega
   have hwi:IntKind.i64.wrap ((i:Int)+1)=(i:Int)+1:=by have:=HM.out;rw [IntKind.wrap_i64];omega
   have hln:i<ps.length:=by have:=HM.out;omega
   obtain ⟨lvi,Pi,st⟩:=HS.out;obtain ⟨bb,off,rfl,hr0⟩:=HRD.out i (by simpa using hln);simp only [List.getElem_map] at hr0;have hbn:bb ∉ k::lv.ownBlock.toList:=λhm=>by
    have:=HAV.out bb off rfl;have h9:=HK.out;rcases List.mem_cons.1 hm with q | q
    ·omega
    ·have:=h9.2.2 bb (by simpa using q);omega
   have hr:=st.fr.range hr0 hbn;have hpi:=List.getElem_mem hln;have hpa:=PA.kept (st.kept HK.out.2.2) n _ _ (HPA.out _ hpi);obtain ⟨sa,sb,sc,hsl⟩:=hpa.slice;have hstep:=zDP (zCd own nm (hd n) (cod own nm n)) (ps.map (·.1)) i (by simpa using hln) (L.length+1);have hle:=zGP (zCd own nm (hd n) (cod own nm n)) (ps.map (·.1)) (i+1) (L.length+1);rw [hstep,List.length_append,List.getElem_map] at hle;rw [List.getElem_map] at hstep;obtain ⟨Li,hLi⟩:∃ Li,(L++[ins 6 id 0])++zA1 (zCd own nm (hd n) (cod own nm n)) ((ps.map (·.1)).take i) (L.length+1)=Li:=⟨_,rfl⟩
   have hLl:L.length+1+(zA1 (zCd own nm (hd n) (cod own nm n)) ((ps.map (·.1)).take i) (L.length+1)).length=Li.length:=by rw [<-hLi];simp;omega
   have HST:Hid ((L++[ins 6 id 0])++zA1 (zCd own nm (hd n) (cod own nm n)) ((ps.map (·.1)).take (i+1)) (L.length+1)=Li++zCd own nm (hd n) (cod own nm n) (ps[i]).1 Li.length):=by show _=_;rw [hstep,<-List.append_assoc,hLi,hLl]
   rw [hLl] at hle;rw [hLi] at st;have hwq:=HWP.out _ hpi;have HBL:Hid (Li.length<=1000000):=by have:=HBD.out;show _<=_;omega
   have HFE:Hid (isA (hd n (ps[i]).1)=false->∀ (W:World),Below wr.heap.size wr W->Calls prog 180 #[.pointer (some ⟨k,0,none⟩),.agg (zAI (hd n (ps[i]).1) (.slice sa sb sc)).toArray] W (WP k B T (.int .i64 own) (.slice av2 m2 cap2) (Li++zCd own nm (hd n) (cod own nm n) (ps[i]).1 Li.length) lvi W)):=λhia W hb=>by
    have he:zCd own nm (hd n) (cod own nm n) (ps[i]).1 Li.length=zAx (cod own nm n) (ps[i]).1 Li.length:=by unfold zCd;rw [hia];rfl
    rw [he] at hle ⊢;have:=HFD.out (ps[i]).1 (ps[i]).2 lo hi k B T W Li lvi Pi ⟨hwq.1,hwq.2,hia⟩ (PA.kept (Kept.of_below hb) n _ _ hpa) (st.en.below hb) (st.ws.below hb) (by have:=HBD.out;omega);rw [hsl] at this;exact this
   have HAA:Hid (isA (hd n (ps[i]).1)=true->zCd own nm (hd n) (cod own nm n) (ps[i]).1 Li.length=[zCI 8 0 (zAc own nm (hd n (ps[i]).1)) a0I]/\RtN (hd n (ps[i]).1)):=λhia=>by
    refine ⟨by unfold zCd;rw [hia];rfl,zDv (zFm hwq.1) (by simpa [isA] using hia)⟩
   rw [hsl] at hr;have IA:=λW=>zBW (hd n (ps[i]).1) (.slice sa sb sc) W
   generalize zCd own nm (hd n) (cod own nm n) (ps[i]).1 Li.length=ac at *;generalize hd n (ps[i]).1=y at *;have HSI:Hid (St own nm av2 m2 cap2 k B T hi w lv wr Li lvi Pi):=st;clear hstep hle hsl hpa hr0 hbn hpi hln st HS hLi hLl hwq;have hth:World.there (wr.alloc (.cells zeros21 188)) wr.heap.size 0 (zAI y (.slice sa sb sc)).toArray.size:=(AtL.new0 wr _ _:AtL (wr.alloc (.cells zeros21 188)) wr.heap.size zeros21.toList).there;have HPI:Hid (AtL ((wr.alloc (.cells zeros21 188)).setCells wr.heap.size 0 (zAI y (.slice sa sb sc))) wr.heap.size (zAI y (.slice sa sb sc))):=(AtL.new0 wr _ _:AtL (wr.alloc (.cells zeros21 188)) wr.heap.size zeros21.toList).setAll rfl;have HHB:Hid (Below wr.heap.size wr ((wr.alloc (.cells zeros21 188)).setCells wr.heap.size 0 (zAI y (.slice sa sb sc)))):=zBJ (zAH (Below.refl _ wr) _) (Nat.le_refl _) _ 0;go_upto_region 4 with (first | (refine zAB (by rfl) 188 (.tmp 16) rfl bb (off+i * 21) rfl (zAI y (.slice sa sb sc)) _ hr underlying188 rfl (by kernel_rfl) ?_) | ((with_reducible refine wpList_store_mid ?_ 188 (.tmp 7) (.tmp 17) ?_ wr.heap.size 0 (zAI y (.slice sa sb sc)).toArray ?_ ?_ ?_ ?_ ?_ ?_);rfl;rfl;rfl;rfl;exact hth;kernel_rfl;exact zAn _ _ _ _))
   clear hth hr;generalize ((wr.alloc (.cells zeros21 188)).setCells wr.heap.size 0 (zAI y (.slice sa sb sc)))=W2 at *;have rI:=HPI.out.range;have HIB:Hid (k<wr.heap.size):=by have:=HSI.out.en.kB;have:=HSI.out.en.hB;show _<_;omega
   have HIL:Hid (¬ lvi.ownBlock=some wr.heap.size):=λe=>by have:=(zAL HSI.out.ws.own e).2;omega
   have IA2:=IA W2;clear IA;cases hia:isA y with
   | false =>
    rw [hia] at IA2;have FE:=HFE.out hia;go_wp2_with (first | (refine zAB (by rfl) 188 (.tmp 7) rfl wr.heap.size 0 rfl (zAI y (.slice sa sb sc)) _ rI underlying188 rfl (by kernel_rfl) ?_))
    refine IA2.mono ?_;rintro e w3 ⟨rfl,hb3⟩;have rI3:=zAF hb3 rI;have FE3:=FE w3 (zAA HHB.out hb3);have HB3:Hid (Below wr.heap.size wr w3):=zAA HHB.out hb3;clear FE IA2 rI hb3 HHB HPI HFE HAA;go_wp2_with (first | (refine zAB (by rfl) 188 (.tmp 7) rfl wr.heap.size 0 rfl (zAI y (.slice sa sb sc)) _ rI3 underlying188 rfl (by kernel_rfl) ?_))
    refine FE3.mono ?_;rintro e w4 ⟨⟨lv4,P4,rfl,ws4,nx4⟩,fr4⟩;have HS6:Hid (∃ lvi Pi,St own nm av2 m2 cap2 k B T hi w lv w4 ((L++[ins 6 id 0])++zA1 (zCd own nm (hd n) (cod own nm n)) ((ps.map (·.1)).take (i+1)) (L.length+1)) lvi Pi):=⟨lv4,P4,by rw [HST.out];exact (HSI.out.below HB3.out).step fr4 nx4 ws4⟩
    clear FE3 rI3 ws4 nx4 fr4 HB3 HSI;go_wp2_with fail
    go_roundg (m - (i+1))
    case rel=>exact ⟨i+1,by simp,rfl,hlt,HS6⟩
    case measure=>omega
   | true =>
    rw [hia] at IA2;obtain ⟨ha1,ha2⟩:=HAA.out hia;rw [ha1] at HST;have AR:=λ(W:World) (h:RdS W av2 nm)=>zED own nm av2 m2 cap2 y W ha2 HMN.out.1 HMN.out.2 h
    go_wp2_with (first | (refine zAB (by rfl) 188 (.tmp 7) rfl wr.heap.size 0 rfl (zAI y (.slice sa sb sc)) _ rI underlying188 rfl (by kernel_rfl) ?_))
    refine IA2.mono ?_;rintro e w3 ⟨rfl,hb3⟩;have hb3':=zAA HHB.out hb3;have HS3:Hid (St own nm av2 m2 cap2 k B T hi w lv w3 Li lvi Pi):=HSI.out.below hb3';have ry:w3.rangeAt wr.heap.size 0 (zAK y):=zCP (zAF hb3 rI);clear IA2 rI hb3 hb3' HHB HPI HFE HAA ha1 ha2 HSI;go_upto_region 5 with fail
    have hdr:=(Below.refl w3.heap.size w3).drew;have HSD:Hid (St own nm av2 m2 cap2 k B T hi w lv w3.drew Li lvi Pi):=HS3.out.below hdr;have rk:=zBi HSD.out.ws;replace ry:w3.drew.rangeAt wr.heap.size 0 (zAK y):=ry
    clear hdr HS3;obtain ⟨ib,hib⟩:∃ b,wr.heap.size=b:=⟨_,rfl⟩
    rw [hib] at ry HIB HIL;simp only [hib];clear hib;refine wp_region_held_drew (S:=λW=>W.rangeAt k 0 [.int .i64 own,.slice av2 m2 cap2]/\W.rangeAt ib 0 (zAK y)) (by kernel_rfl) ⟨rk,ry⟩ (λhHeld=>?_);generalize w3.drew=WD at *;refine tkQ 0 ?_
    refine tkQ 1 ?_
    refine tkQ 2 ?_
    refine tkQ 3 ?_
    refine wpAnyH_take (i:=4) (v:=.agg ([.int .i64 own,.slice av2 m2 cap2]).toArray) (atQ rfl) (by kernel_rfl) (by kernel_rfl) (by kernel_rfl) (λ_ _ _ h=>h) (yieldsIf_load_mid (by rfl) 184 (.tmp 23) rfl (k) (0) rfl ([.int .i64 own,.slice av2 m2 cap2]) _ (λ_ h=>h.1) underlying184 rfl (by kernel_rfl)) (by assumption) ?_;try simp only [Act.put,lA,lZ,lS]
    refine tkQ 5 ?_
    refine wpAnyH_take (i:=6) (v:=.agg (zAK y).toArray) (atQ rfl) (by kernel_rfl) (by kernel_rfl) (by kernel_rfl) (λ_ _ _ h=>h) (yieldsIf_load_mid (by rfl) 102 (.tmp 25) rfl (ib) (0) rfl (zAK y) _ (λ_ h=>h.2) underlying102 rfl (by kernel_rfl)) (by assumption) ?_;try simp only [Act.put,lA,lZ,lS]
    refine rdQ 7 (λK hK=>?_);go_simp
    refine (AR WD HSD.out.en.rs).mono ?_;rintro e w4 ⟨rfl,hb4⟩;go_wp2_with fail
    have HS4:Hid (St own nm av2 m2 cap2 k B T hi w lv w4 Li lvi Pi):=HSD.out.below hb4;replace rk:=zAF hb4 rk
    replace ry:=zAF hb4 ry
    refine hkQ hK ⟨rk,ry⟩ (λhHeld=>?_);clear hK K
    generalize zAc own nm y=ay at *;refine wpAnyH_take (i:=8) (v:=.agg (zAM (zCI 8 0 ay a0I).1 zAV).toArray) (atQ rfl) (by kernel_rfl) (by kernel_rfl) (by kernel_rfl) (λ_ _ _ h=>h) (Or.inl ⟨by rfl,λW _=>zJ1 (.tmp 27) rfl ay rfl W⟩) (by assumption) ?_;try simp only [Act.put,lA,lZ,lS]
    have LA:=zAs k B T (zCI 8 0 ay a0I).1 _ _ Li lvi Pi w4 HS4.out.ws HS4.out.en.kB HS4.out.en.hB HBL.out;refine rdQ 9 (λK hK=>?_);go_simp
    refine LA.mono ?_;rintro e w5 ⟨⟨lv5,P5,rfl,ws5,nx5⟩,fr5⟩;go_wp2_with fail
    have HS5:Hid (St own nm av2 m2 cap2 k B T hi w lv w5 (Li++[zCI 8 0 ay a0I]) lv5 P5):=HS4.out.step fr5 nx5 ws5;have rk5:=zBi ws5;have ry5:=fr5.range ry (λhm=>by
     rcases List.mem_cons.1 hm with q | q
     ·have:=HIB.out;omega
     ·exact HIL.out (by simpa using q))
    refine hkQ hK ⟨rk5,ry5⟩ (λhHeld=>?_);clear hK K
    refine wpAnyH_done (by kernel_rfl) ?_ _;have HS6:Hid (∃ lvi Pi,St own nm av2 m2 cap2 k B T hi w lv w5 ((L++[ins 6 id 0])++zA1 (zCd own nm (hd n) (cod own nm n)) ((ps.map (·.1)).take (i+1)) (L.length+1)) lvi Pi):=⟨lv5,P5,by rw [HST.out];exact HS5.out⟩
    clear hHeld rk ry rk5 ry5 ws5 nx5 fr5 HS5 HS4 HSD LA AR;go_wp2_with fail
    go_roundg (m - (i+1))
    case rel=>exact ⟨i+1,by simp,rfl,hlt,HS6⟩
    case measure=>omega
  ·have hli:¬ (i:Int)<(m:Int):=by omega
   have HS2:Hid (∃ lvi Pi,St own nm av2 m2 cap2 k B T hi w lv wr ((L++[ins 6 id 0])++zA1 (zCd own nm (hd n) (cod own nm n)) (ps.map (·.1)) (L.length+1)) lvi Pi):=by
    have hie:(ps.map (·.1)).length<=i:=by have:=HM.out;simp;omega
    have:=HS.out;rw [List.take_of_length_le hie] at this;exact this
   obtain ⟨lvi,Pi,st⟩:=HS2.out;have LA:=zAs k B T (ins 10 0 0).1 _ _ _ lvi Pi wr st.ws st.en.kB st.en.hB (by have:=HBD.out;simp only [List.length_append,List.length_cons,List.length_nil];omega);have HSI:Hid (St own nm av2 m2 cap2 k B T hi w lv wr ((L++[ins 6 id 0])++zA1 (zCd own nm (hd n) (cod own nm n)) (ps.map (·.1)) (L.length+1)) lvi Pi):=st;clear HS HS2 st;go_wp2_with (first | (refine zAb rfl 10 rfl ?_))
   refine LA.mono ?_;rintro e w5 ⟨⟨lv5,P5,rfl,ws5,nx5⟩,fr5⟩;have HR:Hid (WP k B T (.int .i64 own) (.slice av2 m2 cap2) _ lv w (.returned (.tuple #[])) w5):=(HSI.out.step fr5 nx5 ws5).wp;clear LA ws5 nx5 fr5 HSI;go_wp2;go_end0
   exact HR.out
