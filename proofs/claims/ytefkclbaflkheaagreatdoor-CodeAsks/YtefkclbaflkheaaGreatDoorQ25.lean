/- KPart, KCdLen, KAtOf, TCheck. -/
import Derived.Test.YtefkclbaflkheaaGreatDoorQ24
set_option maxHeartbeats 3200000
set_option maxRecDepth 100000
set_option linter.unusedVariables false
namespace Go.Proofs.YtefkclbaflkheaaGreatDoor
open Tryz
open Go.RowKit Wf
variable {x:Wt.Nd} {w:World} {k:Nat} {sl:Value}
theorem zG0 {op:Oper} {a:Act} (y:Operand) (ho:op.op=.build 56 #[(0,.const (.int .i64 2)),(4,y)]) (c:Wpl.Cl) (hy:a.eval y=.agg #[.int .i64 c.s,.int .i64 c.r,.int .i64 c.c]) (W:World):(execOp a.eval op).run prog W=.ok (.value (.agg (zAD (zLJ c).1 zAG).toArray)) W:=by
 unfold execOp;have hv:a.eval (.const (.int .i64 2))=.int .i64 2:=rfl;simp only [ho,List.map_toArray,List.map_cons,List.map_nil,hv,hy,Sem.run_bind,Sem.run_pure,Result.andThen_ok,zMy]
theorem zLu (h:w.rangeAt k 0 (zAP x sl)):w.rangeAt k 1 (vl6 x.v):=λj v hv=>by
 have:=h (1+j) v (by
  match j,hv with
  | 0,hv=>exact hv
  | 1,hv=>exact hv
  | 2,hv=>exact hv
  | 3,hv=>exact hv
  | 4,hv=>exact hv
  | 5,hv=>exact hv
  | j+6,hv=>simp [vl6] at hv)
 rw [Nat.zero_add] at this;exact this
theorem zLt (h:w.rangeAt k 0 (zAP x sl)):w.rangeAt k 10 (rf5 x.a):=λj v hv=>by
 have:=h (10+j) v (by
  match j,hv with
  | 0,hv=>exact hv
  | 1,hv=>exact hv
  | 2,hv=>exact hv
  | 3,hv=>exact hv
  | 4,hv=>exact hv
  | j+5,hv=>simp [rf5] at hv)
 rw [Nat.zero_add] at this;exact this
theorem zJd (h:Wt.right x=true):x.k=1 \/ x.k=2 \/ x.k=3 \/ x.k=4 \/ x.k=5 \/ x.k=6:=by
 unfold Wt.right at h;by_cases h1:x.k=1
 ·exact Or.inl h1
 by_cases h2:x.k=2
 ·exact Or.inr (Or.inl h2)
 by_cases h3:x.k=3
 ·exact Or.inr (Or.inr (Or.inl h3))
 by_cases h4:x.k=4
 ·exact Or.inr (Or.inr (Or.inr (Or.inl h4)))
 by_cases h5:x.k=5
 ·exact Or.inr (Or.inr (Or.inr (Or.inr (Or.inl h5))))
 by_cases h6:x.k=6
 ·exact Or.inr (Or.inr (Or.inr (Or.inr (Or.inr h6))))
 ·rw [if_neg h1,if_neg h2,if_neg h3,if_neg h4,if_neg h5,if_neg h6] at h;cases h
def PtT (own:Int) (nm:List ByteArray) (av2:Option Addr) (m2 cap2 n:Nat) (t:Tr n):Prop:=∀ (sl:Value) (lo hi k B:Nat) (T:Nat->Nat) (w:World) (L:List I) (lv:Value) (P:List (Wc.In × Value)),Wr own nm n t->PA n lo hi w t sl->En own nm av2 m2 cap2 k B T hi w->WS k B T w (.int .i64 own) (.slice av2 m2 cap2) L lv P->L.length+(cod own nm n t L.length).length<=900000 ->
 Calls prog 27 #[.pointer (some ⟨k,0,none⟩),.agg (zAP (hd n t) sl).toArray] w (WP k B T (.int .i64 own) (.slice av2 m2 cap2) (L++cod own nm n t L.length) lv w)
def PuC:Prop:=∀ (k B:Nat) (T:Nat->Nat) (v:Wt.Vl) (s0 s1:Value) (L:List I) (lv:Value) (P:List (Wc.In × Value)) (w:World),WS k B T w s0 s1 L lv P->k<B->B<=w.heap.size->L.length<=1000000 ->
 Calls prog 47 #[.pointer (some ⟨k,0,none⟩),.agg (vl6 v).toArray] w (WP k B T s0 s1 (L++[zJb v]) lv w)
theorem zHw (own:Int) (nm:List ByteArray) (av2:Option Addr) (m2 cap2 n:Nat) (t:Tr (n+1)) (al:(hd (n+1) t).k=4 \/ (hd (n+1) t).k=5->AlC own nm av2 m2 cap2 n) (ca:(hd (n+1) t).k=6->CaC own nm av2 m2 cap2 n) (pu:(hd (n+1) t).k=1->PuC):PtT own nm av2 m2 cap2 (n+1) t:=by
 intro sl lo hi k B T w L lv P hw hP hen hws hbd;obtain ⟨x,ks⟩:Br (Tr n):=t;replace al:x.k=4 \/ x.k=5->AlC own nm av2 m2 cap2 n:=al
 replace ca:x.k=6->CaC own nm av2 m2 cap2 n:=ca
 have HPU:Hid (x.k=1->PuC):=pu;obtain ⟨hF,hR,hA⟩:=hw;have hx:Wt.right x=true:=hF.1;have hp:Wt.parts x=(ks.length:Int):=hF.2.1;have hks:∀ k ∈ ks,zCi n k:=hF.2.2;have hA':isA x=false:=hA;have hhd:hd (n+1) (⟨x,ks⟩:Br (Tr n))=x:=rfl;have hcd:cod own nm (n+1) (⟨x,ks⟩:Br (Tr n)) L.length=zBZ own nm (hd n) (cod own nm n) x ks L.length:=rfl;rw [hhd];rw [hcd] at hbd ⊢;have hzz:∀ a ∈ zJX own nm x (ks.map (hd n))::ks.map (zCJ own nm n),a=0:=zCt hR;have hrn:zJX own nm x (ks.map (hd n))=0:=hzz _ (List.mem_cons_self ..);have hrk:∀ t ∈ ks,zCJ own nm n t=0:=λt ht=>hzz _ (List.mem_cons_of_mem _ (List.mem_map.2 ⟨t,ht,rfl⟩))
 have hP0:=hP;obtain ⟨av,cap,ps,q1,rfl,q2c,q3,q4⟩:=hP;replace q1:ps.map (·.1)=ks:=q1
 have hlen:ps.length=ks.length:=by rw [<-q1,List.length_map]
 have hl30:ps.length<=30:=by have:=(Wt.parts_le hx).2;omega
 have hav:0<ps.length->∀ bb off,av=some ⟨bb,off,none⟩->bb<hi:=λh0 bb off e=>by
  obtain ⟨b9,o9,_,h9,e9,_⟩:=q3 0 h0;rw [e] at e9;cases e9
  exact h9
 have h0B:∀ j,lv.ownBlock=some j->B<=j:=λj e=>(zAT hws.own e).1
 obtain ⟨LF,hLF⟩:∃ LF,L++zBZ own nm (hd n) (cod own nm n) x ks L.length=LF:=⟨_,rfl⟩
 rw [hLF];have hb0:=zAK (Below.refl _ w) (.cells (zAP x (.slice av ps.length cap)).toArray 64);have pP:=AtL.new0 w 64 (zAP x (.slice av ps.length cap));have st0:=(St.init hen hws).below hb0;have HST:Hid (St own nm av2 m2 cap2 k B T hi w lv (w.alloc (.cells (zAP x (.slice av ps.length cap)).toArray 64)) L lv P):=st0;have HNW:Hid (w.heap.size ∉ k::lv.ownBlock.toList):=λhm=>by
  have:=hen.kB;have:=hen.hB;rcases List.mem_cons.1 hm with q | q
  ·omega
  ·have:=(zAT hws.own (show lv.ownBlock=some w.heap.size by simpa using q)).2;omega
 have HLF:Hid (L++zBZ own nm (hd n) (cod own nm n) x ks L.length=LF):=hLF;have HBL:Hid (L.length<=1000000):=by show _<=_;omega
 have HMN:Hid (m2=nm.length/\nm.length<=16):=⟨hen.hm,hen.hl⟩
 have hAL:(x.k=4 \/ x.k=5)->L.length+(zBk (cod own nm n) ks L.length).length<=900000->Calls prog 49 #[.pointer (some ⟨k,0,none⟩),.slice av ps.length cap] (w.alloc (.cells (zAP x (.slice av ps.length cap)).toArray 64)) (WP k B T (.int .i64 own) (.slice av2 m2 cap2) (L++zBk (cod own nm n) ks L.length) lv (w.alloc (.cells (zAP x (.slice av ps.length cap)).toArray 64))):=λh45 hb9=>by
  have hany:(ks.map (hd n)).any isA=false:=by
   unfold zJX at hrn;rw [if_neg (by omega),if_pos h45] at hrn;cases hq:(ks.map (hd n)).any isA with
   | false=>rfl
   | true=>rw [hq] at hrn;simp at hrn
  have hwr:∀ p ∈ ps,Wr own nm n p.1:=λp hpp=>by
   have hm:p.1 ∈ ks:=by rw [<-q1];exact List.mem_map.2 ⟨p,hpp,rfl⟩
   refine ⟨hks _ hm,hrk _ hm,?_⟩;have:=List.any_eq_false.1 hany (hd n p.1) (List.mem_map.2 ⟨p.1,hm,rfl⟩);simpa using this
  have:=al h45 ps av ps.length cap lo hi k B T _ L lv P rfl hl30 hwr (λp hpp=>PA.kept (Kept.of_below hb0) n _ _ (q4 p hpp)) (q3.q.below hb0) (λh0 bb off e j ej=>by have:=hav h0 bb off e;have:=h0B j ej;have:=hen.hk;have:=hen.kB;omega) (λh0 bb off e=>by have:=hav h0 bb off e;have:=hen.hk;have:=hen.kB;have:=st0.en.hB;omega) st0.en st0.ws (by rw [q1];exact hb9);rw [q1] at this;exact this
 have HCA:Hid (x.k=6->Calls prog 50 #[.pointer (some ⟨k,0,none⟩),.agg (zAP x (.slice av ps.length cap)).toArray] (w.alloc (.cells (zAP x (.slice av ps.length cap)).toArray 64)) (WP k B T (.int .i64 own) (.slice av2 m2 cap2) LF lv (w.alloc (.cells (zAP x (.slice av ps.length cap)).toArray 64)))):=λh6=>by
  have hn6:zBZ own nm (hd n) (cod own nm n) x ks L.length=zF8 own nm (hd n) (cod own nm n) x ks L.length:=by
   unfold zBZ;rw [if_neg (by omega),if_neg (by omega),if_neg (by omega),if_neg (by omega),if_pos h6]
  rw [hn6] at hbd hLF;have:=ca h6 x ks (.slice av ps.length cap) lo hi k B T _ L lv P h6 hF hR (PA.kept (Kept.of_below hb0) (n+1) _ _ hP0) st0.en st0.ws hbd;rw [hLF] at this;exact this
 have hk:=zJd hx;have hk3:¬ x.k=3:=λh=>by simp [isA,h] at hA'
 obtain ⟨np,hnp⟩:∃ np,ps.length=np:=⟨_,rfl⟩
 rw [hnp] at pP hb0 HST HCA hAL ⊢;have c0:=pP.2.1 0 (.int .i64 x.k) rfl;have rP:=pP.range;have p20:=pP.2.1 20 (.slice av np cap) rfl;have p7:=pP.2.1 7 (.int .i64 x.op) rfl;clear al ca pu hF hR hA hx hp hks hA' hhd hcd hzz hrn hrk hP0 q1 q2c q3 q4 hlen hl30 hav h0B st0 hnp hen hws hb0 pP;rcases hk with h | h | h | h | h | h
 ·have hn1:zBZ own nm (hd n) (cod own nm n) x ks L.length=[zJb x.v]:=by unfold zBZ;rw [if_pos h]
  rw [hn1] at hLF;have HL1:Hid (L++[zJb x.v]=LF):=hLF;rw [h] at c0;have rv:=zLu rP;have PU:=HPU.out h k B T x.v _ _ L lv P _ HST.out.ws HST.out.en.kB HST.out.en.hB HBL.out;clear h hn1 hLF hAL HCA hk3 hbd p20 p7;go_enter func27,ntmps27;go_upto_region 1 with fail
  generalize (w.alloc (.cells (zAP x (.slice av np cap)).toArray 64))=W at *;go_wp2_with (first | (refine zAA (by rfl) 31 (.tmp 11) rfl w.heap.size 1 rfl (vl6 x.v) _ rv underlying31 rfl (by kernel_rfl) ?_))
  refine PU.mono ?_;rintro e w5 ⟨⟨lv5,P5,rfl,ws5,nx5⟩,fr5⟩;have HR:Hid (WP k B T (.int .i64 own) (.slice av2 m2 cap2) LF lv w (.returned (.tuple #[])) w5):=by
   have h9:=(HST.out.step fr5 nx5 ws5).wp;rw [<-HL1.out];exact h9
  clear PU ws5 nx5 fr5 HST rv rP c0;go_wp2;go_end0
  exact HR.out
 ·have hn1:zBZ own nm (hd n) (cod own nm n) x ks L.length=[zLJ (zFy own nm x)]:=by unfold zBZ;rw [if_neg (by omega),if_pos h]
  rw [hn1] at HLF;rw [h] at c0;have ra0:=zLt rP;have CE:=λ(W:World) (hr:RdS W av2 nm)=>zDf own nm av2 m2 cap2 x.a W HMN.out.1 HMN.out.2 hr
  clear h hn1 hLF hAL HCA hk3 hbd p20 p7;go_enter func27,ntmps27;go_upto_region 1 with fail
  generalize (w.alloc (.cells (zAP x (.slice av np cap)).toArray 64))=W at *;go_upto_region 5 with fail
  have hdr:=(Below.refl W.heap.size W).drew;have HSD:Hid (St own nm av2 m2 cap2 k B T hi w lv W.drew L lv P):=HST.out.below hdr;have rk:=zGj HSD.out.ws;have ra:W.drew.rangeAt w.heap.size 10 (rf5 x.a):=ra0;clear hdr HST rP ra0 c0;refine wp_region_held_drew (S:=λW=>W.rangeAt k 0 [.int .i64 own,.slice av2 m2 cap2]/\W.rangeAt w.heap.size 10 (rf5 x.a)) (by kernel_rfl) ⟨rk,ra⟩ (λhHeld=>?_);generalize W.drew=WD at *;refine tkQ 0 ?_
  refine tkQ 1 ?_
  refine tkQ 2 ?_
  refine tkQ 3 ?_
  refine wpAnyH_take (i:=4) (v:=.agg ([.int .i64 own,.slice av2 m2 cap2]).toArray) (atQ rfl) (by kernel_rfl) (by kernel_rfl) (by kernel_rfl) (λ_ _ _ h=>h) (yieldsIf_load_mid (by rfl) 60 (.tmp 19) rfl (k) (0) rfl ([.int .i64 own,.slice av2 m2 cap2]) _ (λ_ h=>h.1) underlying60 rfl (by kernel_rfl)) (by assumption) ?_;try simp only [Act.put,lA,lZ,lS]
  refine tkQ 5 ?_
  refine tkQ 6 ?_
  refine wpAnyH_take (i:=7) (v:=.agg (rf5 x.a).toArray) (atQ rfl) (by kernel_rfl) (by kernel_rfl) (by kernel_rfl) (λ_ _ _ h=>h) (yieldsIf_load_mid (by rfl) 33 (.tmp 22) rfl (w.heap.size) (10) rfl (rf5 x.a) _ (λ_ h=>h.2) underlying33 rfl (by kernel_rfl)) (by assumption) ?_;try simp only [Act.put,lA,lZ,lS]
  refine rdQ 8 (λK hK=>?_);go_simp
  refine (CE WD HSD.out.en.rs).mono ?_;rintro e w4 ⟨rfl,hb4⟩;go_wp2_with fail
  have HS4:Hid (St own nm av2 m2 cap2 k B T hi w lv w4 L lv P):=HSD.out.below hb4;replace rk:=zAI hb4 rk
  replace ra:=zAI hb4 ra
  refine hkQ hK ⟨rk,ra⟩ (λhHeld=>?_);clear hK K
  have LA:=zEU k B T (zLJ (zFy own nm x)).1 _ _ L lv P w4 HS4.out.ws HS4.out.en.kB HS4.out.en.hB HBL.out;refine wpAnyH_take (i:=9) (v:=.agg (zAD (zLJ (zFy own nm x)).1 zAG).toArray) (atQ rfl) (by kernel_rfl) (by kernel_rfl) (by kernel_rfl) (λ_ _ _ h=>h) (Or.inl ⟨by rfl,λW _=>zG0 (.tmp 24) rfl (zFy own nm x) rfl W⟩) (by assumption) ?_;try simp only [Act.put,lA,lZ,lS]
  refine rdQ 10 (λK hK=>?_);go_simp
  refine LA.mono ?_;rintro e w5 ⟨⟨lv5,P5,rfl,ws5,nx5⟩,fr5⟩;go_wp2_with fail
  have HR:Hid (WP k B T (.int .i64 own) (.slice av2 m2 cap2) LF lv w (.returned (.tuple #[])) w5):=by
   have h9:=(HS4.out.step fr5 nx5 ws5).wp;rw [<-HLF.out];exact h9
  have rk5:=zGj ws5;have ra5:=fr5.range ra HNW.out;refine hkQ hK ⟨rk5,ra5⟩ (λhHeld=>?_);clear hK K
  refine wpAnyH_done (by kernel_rfl) ?_ _;clear hHeld rk ra rk5 ra5 ws5 nx5 fr5 HS4 HSD LA CE;go_wp2;go_end0
  exact HR.out
 ·exact absurd h hk3
 ·have hn1:zBZ own nm (hd n) (cod own nm n) x ks L.length=zBk (cod own nm n) ks L.length++[ins 3 x.op 0]:=by unfold zBZ;rw [if_neg (by omega),if_neg (by omega),if_pos h]
  rw [hn1] at hbd hLF;rw [List.length_append] at hbd;have AA:=hAL (Or.inl h) (by omega);rw [<-List.append_assoc] at hLF;have HL4:Hid ((L++zBk (cod own nm n) ks L.length)++[ins 3 x.op 0]=LF/\(L++zBk (cod own nm n) ks L.length).length<=900000):=⟨hLF,by rw [List.length_append];omega⟩
  rw [h] at c0;clear h hn1 hLF hAL HCA hk3 hbd HLF;generalize L++zBk (cod own nm n) ks L.length=L4 at *;go_enter func27,ntmps27;go_upto_region 1 with fail
  generalize (w.alloc (.cells (zAP x (.slice av np cap)).toArray 64))=W at *;go_wp2_with fail
  refine AA.mono ?_;rintro e w3 ⟨⟨lv3,P3,rfl,ws3,nx3⟩,fr3⟩;have HS3:Hid (St own nm av2 m2 cap2 k B T hi w lv w3 L4 lv3 P3):=HST.out.step fr3 nx3 ws3;have d7:=fr3.cell p7 HNW.out;have LA:=zEU k B T (ins 3 x.op 0).1 _ _ L4 lv3 P3 w3 ws3 HS3.out.en.kB HS3.out.en.hB (by have:=HL4.out.2;omega);clear AA ws3 nx3 fr3 HST c0 rP p20 p7;go_wp2_with (first | (refine zBu rfl 3 (.tmp 36) rfl x.op rfl ?_))
  refine LA.mono ?_;rintro e w4 ⟨⟨lv4,P4,rfl,ws4,nx4⟩,fr4⟩;have HR:Hid (WP k B T (.int .i64 own) (.slice av2 m2 cap2) LF lv w (.returned (.tuple #[])) w4):=by
   have h9:=(HS3.out.step fr4 nx4 ws4).wp;rw [<-HL4.out.1];exact h9
  clear LA ws4 nx4 fr4 HS3;go_wp2;go_end0
  exact HR.out
 ·have hn1:zBZ own nm (hd n) (cod own nm n) x ks L.length=zBk (cod own nm n) ks L.length++[ins 4 x.op 0]:=by unfold zBZ;rw [if_neg (by omega),if_neg (by omega),if_neg (by omega),if_pos h]
  rw [hn1] at hbd hLF;rw [List.length_append] at hbd;have AA:=hAL (Or.inr h) (by omega);rw [<-List.append_assoc] at hLF;have HL4:Hid ((L++zBk (cod own nm n) ks L.length)++[ins 4 x.op 0]=LF/\(L++zBk (cod own nm n) ks L.length).length<=900000):=⟨hLF,by rw [List.length_append];omega⟩
  rw [h] at c0;clear h hn1 hLF hAL HCA hk3 hbd HLF;generalize L++zBk (cod own nm n) ks L.length=L4 at *;go_enter func27,ntmps27;go_upto_region 1 with fail
  generalize (w.alloc (.cells (zAP x (.slice av np cap)).toArray 64))=W at *;go_wp2_with fail
  refine AA.mono ?_;rintro e w3 ⟨⟨lv3,P3,rfl,ws3,nx3⟩,fr3⟩;have HS3:Hid (St own nm av2 m2 cap2 k B T hi w lv w3 L4 lv3 P3):=HST.out.step fr3 nx3 ws3;have d7:=fr3.cell p7 HNW.out;have LA:=zEU k B T (ins 4 x.op 0).1 _ _ L4 lv3 P3 w3 ws3 HS3.out.en.kB HS3.out.en.hB (by have:=HL4.out.2;omega);clear AA ws3 nx3 fr3 HST c0 rP p20 p7;go_wp2_with (first | (refine zBu rfl 4 (.tmp 48) rfl x.op rfl ?_))
  refine LA.mono ?_;rintro e w4 ⟨⟨lv4,P4,rfl,ws4,nx4⟩,fr4⟩;have HR:Hid (WP k B T (.int .i64 own) (.slice av2 m2 cap2) LF lv w (.returned (.tuple #[])) w4):=by
   have h9:=(HS3.out.step fr4 nx4 ws4).wp;rw [<-HL4.out.1];exact h9
  clear LA ws4 nx4 fr4 HS3;go_wp2;go_end0
  exact HR.out
 ·have CA:=HCA.out h;rw [h] at c0;clear h hLF hAL HCA hk3 hbd p20 p7 HLF;go_enter func27,ntmps27;go_upto_region 1 with fail
  generalize (w.alloc (.cells (zAP x (.slice av np cap)).toArray 64))=W at *;go_wp2_with (first | (refine zAA (by rfl) 64 (.tmp 3) rfl w.heap.size 0 rfl (zAP x (.slice av np cap)) _ rP underlying64 rfl (by kernel_rfl) ?_))
  refine CA.mono ?_;rintro e w5 ⟨⟨lv5,P5,rfl,ws5,nx5⟩,fr5⟩;have HR:Hid (WP k B T (.int .i64 own) (.slice av2 m2 cap2) LF lv w (.returned (.tuple #[])) w5):=(HST.out.step fr5 nx5 ws5).wp;clear CA ws5 nx5 fr5 HST rP c0;go_wp2;go_end0
  exact HR.out
end Go.Proofs.YtefkclbaflkheaaGreatDoor
namespace Go.Proofs.YtefkclbaflkheaaGreatDoor.Wf
open Go.Proofs.YtefkclbaflkheaaGreatDoor
section
variable {α:Type} (r:α->Nat)
def zDR (l:List α):Nat:=(l.map r).sum
theorem zE9 (g:α->Nat->List I) (c:Nat):∀ (l:List α),(∀ k ∈ l,∀ a,(g k a).length+c<=6 * r k)->∀ a,(zBk g l a).length+c * l.length<=6 * zDR r l
 | [],_,a=>by simp [zBk,zDR]
 | k::l,h,a=>by
  have h1:=h k (List.mem_cons_self ..) a;have h2:=zE9 g c l (λx hx=>h x (List.mem_cons_of_mem _ hx)) (a+(g k a).length);simp only [zBk,List.length_append,List.length_cons,zDR,List.map_cons,List.sum_cons] at *;rw [Nat.mul_add,Nat.mul_add,Nat.mul_one];omega
theorem zJ0 (g:α->Nat->List I) (e:Int):∀ (l:List α),(∀ k ∈ l,∀ a,(g k a).length+2<=6 * r k)->∀ a,(chB g e l a).length<=6 * zDR r l
 | [],_,a=>by simp [chB]
 | k::l,h,a=>by
  have h1:=h k (List.mem_cons_self ..) (a+1);have h2:=zJ0 g e l (λx hx=>h x (List.mem_cons_of_mem _ hx)) (a+1+(g k (a+1)).length);simp only [chB,List.length_append,List.length_cons,zDR,List.map_cons,List.sum_cons] at *;omega
theorem zCH (q:α->Bool):∀ (l:List α),zDR r (l.filter q)<=zDR r l
 | []=>Nat.le_refl _
 | k::l=>by
  have:=zCH q l;by_cases h:q k=true
  ·rw [List.filter_cons_of_pos h];simp only [zDR,List.map_cons,List.sum_cons] at *;omega
  ·rw [List.filter_cons_of_neg h];simp only [zDR,List.map_cons,List.sum_cons] at *;omega
end
theorem zFd (n:Nat) (x:Wt.Nd) (ks:List (Tr n)):(row (n+1) (⟨x,ks⟩:Br (Tr n))).length=1+zDR (λk=>(row n k).length) ks:=by
 show (x::(ks.map (row n)).flatten).length=_
 rw [List.length_cons,List.length_flatten,zDR,List.map_map];rw [Nat.add_comm];rfl
theorem zK8:∀ (n:Nat) (t:Tr n),1<=(row n t).length
 | 0,t=>Empty.elim t
 | n+1,t=>by
  obtain ⟨x,ks⟩:Br (Tr n):=t;rw [zFd];omega
theorem zJO (own:Int) (nm:List ByteArray):∀ (n:Nat) (t:Tr n) (a:Nat),(cod own nm n t a).length+2<=6 * (row n t).length
 | 0,t,_=>Empty.elim t
 | n+1,t,a=>by
  obtain ⟨x,ks⟩:Br (Tr n):=t;have ih:=zJO own nm n;have hrp:=zK8 n;rw [zFd];show (zBZ own nm (hd n) (cod own nm n) x ks a).length+2<=_
  have hsq:∀ (l:List (Tr n)) (a:Nat),(zBk (cod own nm n) l a).length<=6 * zDR (λk=>(row n k).length) l:=λl a=>by
   have:=zE9 (λk=>(row n k).length) (cod own nm n) 2 l (λk _ a=>ih k a) a;omega
  have hfe:∀ (l:List (Tr n)) (a:Nat),(zBk (zEm (cod own nm n)) l a).length<=6 * zDR (λk=>(row n k).length) l:=λl a=>by
   have:=zE9 (λk=>(row n k).length) (zEm (cod own nm n)) 1 l (λk _ a=>by have:=ih k a;simp only [zEm,List.length_append,List.length_cons,List.length_nil];omega) a;omega
  unfold zBZ;split
  ·simp;omega
  split
  ·simp;omega
  split
  ·have:=hsq ks a;simp only [List.length_append,List.length_cons,List.length_nil];omega
  split
  ·have:=hsq ks a;simp only [List.length_append,List.length_cons,List.length_nil];omega
  split
  ·unfold zF8;simp only;split
   ·have:=hsq ks a;simp only [List.length_append,List.length_cons,List.length_nil];omega
   split
   ·have:=zE9 (λk=>(row n k).length) (zMN own nm (hd n) (cod own nm n)) 1 ks (λk _ a=>by
     have h1:=ih k a;have h2:=hrp k;unfold zMN;split
     ·simp;omega
     ·simp only [zEm,List.length_append,List.length_cons,List.length_nil];omega) (a+1)
    simp only [List.length_append,List.length_cons,List.length_nil];omega
   split
   ·unfold zLm;simp only;have hf:=zCH (λk=>(row n k).length) (λk=>!isA (hd n k)) ks;split
    ·simp;omega
    split
    ·simp;omega
    split
    ·have:=hsq (ks.filter (λk=>!isA (hd n k))) a;simp only [List.length_append,List.length_cons,List.length_nil];omega
    ·have:=hfe (ks.filter (λk=>!isA (hd n k))) (a+1);simp only [List.length_append,List.length_cons,List.length_nil];omega
   ·match ks with
    | []=>simp [zKj];omega
    | c::rr =>
     have h1:=ih c a;simp only [zKj,List.length_append];match rr with
     | [] =>
      simp only [zDR,List.map_cons,List.map_nil,List.sum_cons,List.sum_nil];split
      ·simp [zIZ];omega
      ·simp;omega
     | u::no =>
      simp only [zDR,List.map_cons,List.sum_cons];have hno:=λa=>hsq no a
      simp only [zDR] at hno;have hu:=λa=>ih u a
      have hru:=hrp u;split
      ·simp only [zL6,List.length_cons,List.length_append];have h2:=hu (a+(cod own nm n c a).length+1);split
       ·simp;omega
       ·have h3:=hno (a+(cod own nm n c a).length+1+(cod own nm n u (a+(cod own nm n c a).length+1)).length+1);omega
      ·split
       ·have h2:=hu (a+(cod own nm n c a).length+1);simp only [List.length_cons];omega
       ·simp only [zIZ,List.length_cons,List.length_append];have h2:=hu (a+(cod own nm n c a).length+1);have h3:=zJ0 (λk=>(row n k).length) (cod own nm n) ((a+(cod own nm n c a).length+1+(cod own nm n u (a+(cod own nm n c a).length+1)).length+(chB (cod own nm n) 0 no (a+(cod own nm n c a).length+1+(cod own nm n u (a+(cod own nm n c a).length+1)).length)).length:Nat):Int) no (λk _ a=>ih k a) (a+(cod own nm n c a).length+1+(cod own nm n u (a+(cod own nm n c a).length+1)).length);simp only [zDR] at h3;omega
  ·simp;omega
end Go.Proofs.YtefkclbaflkheaaGreatDoor.Wf
namespace Go.Proofs.YtefkclbaflkheaaGreatDoor
open Tryz
open Go.RowKit Wf
variable {op:Oper} {a:Act}
theorem zH5 {P:Program} {a:Act} (x y:Operand) (ts:Array TypeId) (ho:op.op=.call {callee:=.builtin .min,args:=#[x,y],argTypes:=ts}) (i j k:Int) (hx:a.eval x=.int .i64 i) (hy:a.eval y=.int .i64 j) (hk:(if j<i then j else i)=k) (w:World):(execOp a.eval op).run P w=.ok (.value (.int .i64 k)) w:=by
 have hr:=run_min_int2 (P:=P) (w:=w) ts op.type .i64 .i64 i j;rw [hk] at hr;unfold execOp;simp only [ho,resolve,invoke,builtin,Sem.run_bind,Sem.run_pure,Result.andThen_ok,List.map_toArray,List.map_cons,List.map_nil,hx,hy,hr]
theorem zHa (s h:Operand) (ho:op.op=.slice 25 s none (some h) none) (av:Option Addr) (m cap q:Nat) (hs:a.eval s=.slice av m cap) (hh:a.eval h=.int .i64 (q:Int)) (hq:q<=m) (hc:m<=cap) (hn:av=none->cap=0) (W:World):(execOp a.eval op).run prog W=.ok (.value (.slice av q cap)) W:=by
 have hu:prog.underlying 25=some (.slice (prog.elem 25)):=by kernel_rfl
 have hz:(sizeOf (prog.elem 25)).run prog W=.ok 1 W:=by kernel_rfl
 have hr:(Instr.sliceAt 25 (.slice av m cap) none (some (.int .i64 (q:Int))) none).run prog W=.ok (.slice av q cap) W:=by
  rw [run_sliceAt_slice W _ _ _ _ _ hu,run_slice_h W _ _ _ _ hu _ (q:Int) (by omega) (by omega),hz];have he:sliced av 0 q cap 1=.slice av q cap:=by
   unfold sliced;split
   ·rfl
   ·cases av <;> simp [Addr.add]
  rw [<-he];rfl
 unfold execOp;simp only [ho,hs,hh,Option.map_some,Option.map_none,Sem.run_bind,Sem.run_pure,Result.andThen_ok,hr]
theorem zLk (s r c:Int) (av:Option Addr) (m cap:Nat) (w:World) (q:Nat) (hq:q=min m 16) (hc:m<=cap) (hn:av=none->cap=0):CR 23 #[.agg #[.int .i64 s,.int .i64 r,.int .i64 c],.slice av m cap] w (zBx s av q cap):=by
 have HQ:Hid ((if (16:Int)<(m:Int) then (16:Int) else (m:Int))=(q:Int)):=by show _=_;split <;> omega
 have HQM:Hid (q<=m/\m<=cap):=⟨by omega,hc⟩
 have HQM2:Hid (av=none->cap=0):=hn;have hB0:=zAK (zAK (Below.refl _ w) (.cells #[.int .i64 s,.int .i64 r,.int .i64 c] 24)) (.cells #[.int .i64 0,.slice none 0 0] 60);have pC:=(AtL.new0 w 24 [.int .i64 s,.int .i64 r,.int .i64 c]).alloc (.cells #[.int .i64 0,.slice none 0 0] 60);have pR0:=AtL.new1 w (.cells #[.int .i64 s,.int .i64 r,.int .i64 c] 24) 60 [.int .i64 0,.slice none 0 0];clear hq hc hn;go_enter func23,ntmps23;go_upto_region 1 with fail
 generalize ((w.alloc (.cells #[.int .i64 s,.int .i64 r,.int .i64 c] 24)).alloc (.cells #[.int .i64 0,.slice none 0 0] 60))=W at *;have hdr:=(Below.refl W.heap.size W).drew;have c0:=(AtL.below hdr pC).2.1 0 _ rfl;have pR:=AtL.below hdr pR0;have hB:=zAB hB0 hdr;clear hdr pC pR0 hB0;refine wp_region_held_drew (S:=λW=>W.cell? ⟨w.heap.size,0,none⟩=some (.int .i64 s)) (by kernel_rfl) c0 (λhHeld=>?_);generalize W.drew=WD at *;refine tkQ 0 ?_
 refine tkQ 1 ?_
 refine tkQ 2 ?_
 refine tkQ 3 ?_
 refine tkQ 4 ?_
 refine wpAnyH_take (i:=5) (v:=.int .i64 (q:Int)) (atQ rfl) (by kernel_rfl) (by kernel_rfl) (by kernel_rfl) (λ_ _ _ h=>h) (Or.inl ⟨by rfl,λW _=>zH5 (.tmp 9) (.const (.int .i64 16)) _ rfl (m:Int) 16 (q:Int) rfl rfl HQ.out W⟩) (by assumption) ?_;try simp only [Act.put,lA,lZ,lS]
 refine wpAnyH_take (i:=6) (v:=.slice av q cap) (atQ rfl) (by kernel_rfl) (by kernel_rfl) (by kernel_rfl) (λ_ _ _ h=>h) (Or.inl ⟨by rfl,λW _=>zHa (.tmp 7) (.tmp 10) rfl av m cap q rfl rfl HQM.out.1 HQM.out.2 HQM2.out W⟩) (by assumption) ?_;try simp only [Act.put,lA,lZ,lS]
 refine tkQ 7 ?_
 have k0:=pR.2.1 0 _ rfl;have k1:=pR.2.1 1 _ rfl;have z0:=pR.2.2 0 (by simp);have z1:=pR.2.2 1 (by simp);refine rdQ 8 (λK hK=>?_);go_simp
 have fr:Fr [w.heap.size+1] WD ((WD.setCell ⟨w.heap.size+1,0,none⟩ (.int .i64 s)).setCell ⟨w.heap.size+1,1,none⟩ (.slice av q cap)):=zBn (w.heap.size+1) [.int .i64 s,.slice av q cap] 0 WD;have pF:AtL ((WD.setCell ⟨w.heap.size+1,0,none⟩ (.int .i64 s)).setCell ⟨w.heap.size+1,1,none⟩ (.slice av q cap)) (w.heap.size+1) [.int .i64 s,.slice av q cap]:=pR.setAll (vs:=[.int .i64 s,.slice av q cap]) rfl;have HPF:Hid (((WD.setCell ⟨w.heap.size+1,0,none⟩ (.int .i64 s)).setCell ⟨w.heap.size+1,1,none⟩ (.slice av q cap)).rangeAt (w.heap.size+1) 0 [.int .i64 s,.slice av q cap]):=pF.range;have HBF:Hid (Below w.heap.size w ((WD.setCell ⟨w.heap.size+1,0,none⟩ (.int .i64 s)).setCell ⟨w.heap.size+1,1,none⟩ (.slice av q cap))):=zDs hB fr (λk hk=>by simp at hk;omega);refine hkQ hK (fr.cell c0 (by simp)) (λhHeld=>?_);clear hK K
 refine wpAnyH_done (by kernel_rfl) ?_ _;clear hHeld fr pF k0 k1 z0 z1 pR hB c0;generalize ((WD.setCell ⟨w.heap.size+1,0,none⟩ (.int .i64 s)).setCell ⟨w.heap.size+1,1,none⟩ (.slice av q cap))=WF at *;go_wp2;refine bodyPost_ret (zAm (by rfl) _ _ (w.heap.size+1) [.int .i64 s,.slice av q cap] _ (by rfl) HPF.out underlying60 rfl (by kernel_rfl)) rfl ⟨rfl,HBF.out⟩
open Go.RowKit
theorem zFX (av:Option Addr) (cap:Nat) (L:List Wt.Nd) (w:World) (hL:L.length<=9223372036854775807) (hF:∀ x ∈ L,Wt.FitN x) (hO:OpsAt w) (hr:RdN w av L) :
  CR 21 #[.slice av L.length cap] w (.int .i64 (Wt.check L)):=by
 unfold Wt.check;by_cases h:256<L.length
 ·rw [if_pos h];have hi:(256:Int)<(L.length:Int):=by omega
  go_enter func21,ntmps21;go_wp2;go_ret;exact ⟨rfl,Below.refl _ _⟩
 rw [if_neg h];have hi:¬ (256:Int)<(L.length:Int):=by omega
 have M:=zID av cap L (by omega) hF (L.length+1) (by omega) 0 w (by omega) (by omega) hO hr;rw [List.drop_zero] at M;have h1:=zGH (L.length+1) L;cases hone:Wt.one (L.length+1) L with
 | none =>
  rw [hone] at M;clear h1;go_enter func21,ntmps21;go_wp2_with fail
  refine M.mono ?_;rintro e w1 ⟨rfl,hb⟩;simp only [MP];go_wp2;go_ret;exact ⟨rfl,hb⟩
 | some q =>
  obtain ⟨s,d⟩:=q;rw [hone] at M;have h2:=zCc _ _ _ _ hone;replace h1:=h1 s d hone
  simp only [MP,Nat.zero_add] at M;simp only;by_cases hs:s=L.length
  ·rw [if_neg (by omega)];have hsi:((s:Int) == (L.length:Int))=true:=by rw [beq_iff_eq];omega
   have hsi2:(s:Int)=(L.length:Int):=by omega
   by_cases hd:32<d
   ·rw [if_pos hd];have hdi:(32:Int)<(d:Int):=by omega
    go_enter func21,ntmps21;go_wp2_with fail
    refine M.mono ?_;rintro e w1 ⟨rfl,hb⟩;go_wp2;go_ret;exact ⟨rfl,hb⟩
   ·rw [if_neg hd];have hdi:¬ (32:Int)<(d:Int):=by omega
    go_enter func21,ntmps21;go_wp2_with fail
    refine M.mono ?_;rintro e w1 ⟨rfl,hb⟩;go_wp2;go_ret;exact ⟨rfl,hb⟩
  ·rw [if_pos hs];have hsi:((s:Int) == (L.length:Int))=false:=by rw [beq_eq_false_iff_ne];omega
   have hsi2:¬ (s:Int)=(L.length:Int):=by omega
   go_enter func21,ntmps21;go_wp2_with fail
   refine M.mono ?_;rintro e w1 ⟨rfl,hb⟩;go_wp2;go_ret;exact ⟨rfl,hb⟩
