/- KCall, KPart, KCdLen, KAtOf. -/
import Derived.Test.YtedifblompcdkaaGreatDoorQ24
set_option maxHeartbeats 3200000
set_option maxRecDepth 100000
set_option linter.unusedVariables false
namespace Go.Proofs.YtedifblompcdkaaGreatDoor
open Tryz
open Go.RowKit Wf
variable {x:Wt.Nd} {w:World} {k:Nat} {sl:Value}
section
open Tryz
variable (own:Int) (nm:List ByteArray) (av2:Option Addr) (m2 cap2:Nat)
def CaC (n:Nat):Prop:=∀ (x:Wt.Nd) (ks:List (Tr n)) (sl:Value) (lo hi k B:Nat) (T:Nat->Nat) (w:World) (L:List I) (lv:Value) (P:List (Wc.In × Value)),x.k=6->zDT (n+1) (⟨x,ks⟩:Br (Tr n))->zC8 own nm (n+1) (⟨x,ks⟩:Br (Tr n))=0->PA (n+1) lo hi w (⟨x,ks⟩:Br (Tr n)) sl->En own nm av2 m2 cap2 k B T hi w->WS k B T w (.int .i64 own) (.slice av2 m2 cap2) L lv P->L.length+(zD4 own nm (hd n) (cod own nm n) x ks L.length).length<=900000 ->
 Calls prog 135 #[.pointer (some ⟨k,0,none⟩),.agg (zAI x sl).toArray] w (WP k B T (.int .i64 own) (.slice av2 m2 cap2) (L++zD4 own nm (hd n) (cod own nm n) x ks L.length) lv w)
end
theorem zPH (own:Int) (nm:List ByteArray) (av2:Option Addr) (m2 cap2 n:Nat) (ih:PtC own nm av2 m2 cap2 n) (hpos:∀ (t:Tr n) (a:Nat),Wr own nm n t->0<(cod own nm n t a).length):CaC own nm av2 m2 cap2 n:=by
 intro x ks sl lo hi k B T w L lv P h6 hF hR hP hen hws hbd;have al:=zGp own nm av2 m2 cap2 n ih;have fo:=zOx own nm av2 m2 cap2 n ih;have sk:=zNz own nm av2 m2 cap2 n ih;have lz:=zOO own nm av2 m2 cap2 n ih hpos;obtain ⟨hx,hp,hks⟩:=hF;replace hx:Wt.right x=true:=hx
 replace hp:Wt.parts x=(ks.length:Int):=hp
 replace hks:∀ k ∈ ks,zDT n k:=hks
 have hzz:∀ a ∈ zHJ own nm x (ks.map (hd n))::ks.map (zC8 own nm n),a=0:=zBv hR;have hrn:zHJ own nm x (ks.map (hd n))=0:=hzz _ (List.mem_cons_self ..);have hrk:∀ t ∈ ks,zC8 own nm n t=0:=λt ht=>hzz _ (List.mem_cons_of_mem _ (List.mem_map.2 ⟨t,ht,rfl⟩))
 have hrc:zLr x (ks.map (hd n))=0:=by
  unfold zHJ at hrn;rw [if_neg (by omega),if_neg (by omega),if_pos h6] at hrn;exact hrn
 obtain ⟨hkn,har,htk⟩:=zEb hrc;have hpa:x.ar=(ks.length:Int):=by
  rw [<-hp];unfold Wt.parts;rw [if_neg (by omega),if_neg (by omega)]
 obtain ⟨av,cap,ps,q1,rfl,q2c,q3,q4⟩:=hP;replace q1:ps.map (·.1)=ks:=q1
 have hlen:ps.length=ks.length:=by rw [<-q1,List.length_map]
 have hl30:ps.length<=30:=by have:=(Wt.parts_le hx).2;omega
 have hwq:∀ p ∈ ps,Wq own nm n p.1:=λp hpp=>by
  have hm:p.1 ∈ ks:=by rw [<-q1];exact List.mem_map.2 ⟨p,hpp,rfl⟩
  exact ⟨hks _ hm,hrk _ hm⟩
 have hav:0<ps.length->∀ bb off,av=some ⟨bb,off,none⟩->bb<hi:=λh0 bb off e=>by
  obtain ⟨b9,o9,_,h9,e9,_⟩:=q3 0 h0;rw [e] at e9;cases e9
  exact h9
 have hvv:(zAP ((zAu x.nm:Nat):Int)).p.data.toList=[118]->∀ p ∈ ps,Wr own nm n p.1:=λhv p hpp=>by
  rw [hv] at htk;have hm:p.1 ∈ ks:=by rw [<-q1];exact List.mem_map.2 ⟨p,hpp,rfl⟩
  exact ⟨(hwq p hpp).1,(hwq p hpp).2,zKf _ _ htk _ (List.mem_map.2 ⟨p.1,hm,rfl⟩)⟩
 have h0B:∀ j,lv.ownBlock=some j->B<=j:=λj e=>(zAL hws.own e).1
 obtain ⟨LF,hLF⟩:∃ LF,L++zD4 own nm (hd n) (cod own nm n) x ks L.length=LF:=⟨_,rfl⟩
 rw [hLF];rw [<-q1] at hLF hbd;obtain ⟨id,hid⟩:∃ id,((zAu x.nm:Nat):Int)=id:=⟨_,rfl⟩
 have hcl:=zMy x.nm hkn;have hsar:=λ(h1:20<=zAu x.nm) (h2:zAu x.nm<=27)=>zJt h1 h2 (ks:=ks.map (hd n)) (by rw [List.length_map,<-hpa];exact har) htk
 have hfil:((ks.map (hd n)).filter isA).length=(ps.filter λp=>isA (hd n p.1)).length:=by
  rw [<-q1,List.map_map,List.filter_map,List.length_map];rfl
 have hSt:∀ W:World,Below w.heap.size w W->St own nm av2 m2 cap2 k B T hi w lv W L lv P:=λW hb=>(St.init hen hws).below hb
 have hkp:∀ W:World,Below w.heap.size w W->∀ p ∈ ps,PA n lo hi W p.1 p.2:=λW hb p hpp=>PA.kept (Kept.of_below hb) n _ _ (q4 p hpp)
 have hca:zD4 own nm (hd n) (cod own nm n) x (ps.map (·.1)) L.length=(if (zAP id).c=4 then zA1 (cod own nm n) (ps.map (·.1)) L.length++[ins 5 id x.ar] else if (zAP id).c=1 then zFo own nm n id (ps.map (·.1)) L.length else if (zAP id).c=2 then zD7 own nm (hd n) (cod own nm n) id (ps.map (·.1)) L.length else zCy (cod own nm n) id (ps.map (·.1)) L.length):=by
  unfold zD4 zFo;simp only [hid]
 rw [hca] at hLF hbd;have H4:Hid ((zAP id).c=4->(zAP id).p.data.toList=[118]->∀ W,Below w.heap.size w W->Calls prog 134 #[.pointer (some ⟨k,0,none⟩),.slice av ps.length cap] W (WP k B T (.int .i64 own) (.slice av2 m2 cap2) (L++zA1 (cod own nm n) (ps.map (·.1)) L.length) lv W)/\(L++zA1 (cod own nm n) (ps.map (·.1)) L.length)++[ins 5 id x.ar]=LF/\(L++zA1 (cod own nm n) (ps.map (·.1)) L.length).length<=900000):=λh4 hv W hb=>by
  rw [if_pos h4] at hLF hbd;simp only [List.length_append,List.length_cons,List.length_nil] at hbd;have st:=hSt W hb;refine ⟨al ps av ps.length cap lo hi k B T W L lv P rfl hl30 (hvv (by rw [hid];exact hv)) (hkp W hb) (q3.q.below hb) (λh0 bb off e j ej=>by have:=hav h0 bb off e;have:=h0B j ej;have:=hen.hk;have:=hen.kB;omega) (λh0 bb off e=>by have:=hav h0 bb off e;have:=hen.hk;have:=hen.kB;have:=st.en.hB;omega) st.en st.ws (by omega),by rw [<-hLF,List.append_assoc],by rw [List.length_append];omega⟩
 have H1:Hid ((zAP id).c=1->0<ps.length->∀ W,Below w.heap.size w W->Calls prog 162 #[.pointer (some ⟨k,0,none⟩),.int .i64 id,.slice av ps.length cap] W (WP k B T (.int .i64 own) (.slice av2 m2 cap2) LF lv W)):=λh1 h0 W hb=>by
  rw [if_neg (by omega),if_pos h1] at hLF hbd;have st:=hSt W hb;have:=fo id ps av ps.length cap lo hi k B T W L lv P rfl hl30 hwq (hkp W hb) (q3.q.below hb) (hav h0) st.en st.ws hbd;rw [hLF] at this;exact this
 have H2:Hid ((zAP id).c=2->0<(ps.filter λp=>isA (hd n p.1)).length->∀ W,Below w.heap.size w W->Calls prog 163 #[.pointer (some ⟨k,0,none⟩),.int .i64 id,.slice av ps.length cap] W (WP k B T (.int .i64 own) (.slice av2 m2 cap2) LF lv W)):=λh2 h0 W hb=>by
  rw [if_neg (by omega),if_neg (by omega),if_pos h2] at hLF hbd;have st:=hSt W hb;have:=sk id ps av ps.length cap lo hi k B T W L lv P rfl hl30 hwq h0 (hkp W hb) (q3.q.below hb) st.en st.ws hbd;rw [hLF] at this;exact this
 have H3:Hid ((zAP id).c=3->(zAP id).p.data.toList=[118]->(id=30 \/ id=31 \/ id=32)->2<=ps.length->∀ W,Below w.heap.size w W->Calls prog 164 #[.pointer (some ⟨k,0,none⟩),.int .i64 id,.slice av ps.length cap] W (WP k B T (.int .i64 own) (.slice av2 m2 cap2) LF lv W)):=λh3 hv hi3 h0 W hb=>by
  rw [if_neg (by omega),if_neg (by omega),if_neg (by omega)] at hLF hbd;have st:=hSt W hb;have:=lz id ps av ps.length cap lo hi k B T W L lv P hi3 rfl q2c h0 hl30 (hvv (by rw [hid];exact hv)) (hkp W hb) (q3.q.below hb) (hav (by omega)) st.en st.ws hbd;rw [hLF] at this;exact this
 have HCL:Hid (((zAP id).c=1/\0<ps.length) \/ ((zAP id).c=2/\0<(ps.filter λp=>isA (hd n p.1)).length) \/ ((zAP id).c=3/\(zAP id).p.data.toList=[118]/\(id=30 \/ id=31 \/ id=32)/\2<=ps.length) \/ ((zAP id).c=4/\(zAP id).p.data.toList=[118])):=by
  rw [hid] at hcl har;rcases hcl with h | h | h | h
  ·exact Or.inl ⟨h.1,by omega⟩
  ·exact Or.inr (Or.inl ⟨h.1,by rw [<-hfil];exact hsar h.2.1 h.2.2⟩)
  ·exact Or.inr (Or.inr (Or.inl ⟨h.1,h.2.1,by omega,by omega⟩))
  ·exact Or.inr (Or.inr (Or.inr h))
 have hb0:=zAH (Below.refl _ w) (.cells (zAI x (.slice av ps.length cap)).toArray 188);have pP:=AtL.new0 w 188 (zAI x (.slice av ps.length cap));have OF:=zHR x.nm _ (hen.na.below hb0);unfold zD3 at OF;rw [hkn,if_pos rfl,hid] at OF;have HST:Hid (∀ W:World,Below w.heap.size w W->St own nm av2 m2 cap2 k B T hi w lv W L lv P):=hSt;have HKW:Hid (k<w.heap.size/\∀ j,lv.ownBlock=some j->j<w.heap.size):=⟨by have:=hen.kB;have:=hen.hB;omega,λj e=>(zAL hws.own e).2⟩
 obtain ⟨np,hnp⟩:∃ np,ps.length=np:=⟨_,rfl⟩
 have HNP:Hid (ps.length=np):=hnp;rw [hnp] at pP OF hb0 H4 H1 H2 H3 ⊢;obtain ⟨sh,hsh⟩:∃ sh,zAP id=sh:=⟨_,rfl⟩
 rw [hsh] at OF H4 H1 H2 H3 HCL;have c8:=pP.2.1 8 (.string x.nm) rfl;clear al fo sk lz hx hp hks hzz hrn hrk hrc hkn har htk hpa q1 hlen hl30 hwq hav hvv h0B hLF hcl hsar hfil hSt hkp hca hbd hnp hsh hid q2c q3 q4 hen hws ih hpos hR h6;have HB0:Hid (Below w.heap.size w (w.alloc (.cells (zAI x (.slice av np cap)).toArray 188))):=hb0;have HP0:Hid (AtL (w.alloc (.cells (zAI x (.slice av np cap)).toArray 188)) w.heap.size (zAI x (.slice av np cap))):=pP;clear hb0 pP;go_enter func135,ntmps135;go_upto_region 1 with fail
 generalize (w.alloc (.cells (zAI x (.slice av np cap)).toArray 188))=W at *;go_wp2_with fail
 refine OF.mono ?_;rintro e w1 ⟨rfl,hb1⟩;obtain ⟨nv,hnv⟩:∃ nv:ByteArray,(⟨(zFf id).toArray⟩:ByteArray)=nv:=⟨_,rfl⟩
 rw [hnv];have hb2:=zAH (Below.refl _ w1) (.cells (sg6 id sh.c nv sh.l sh.m sh.p).toArray 230);have HS2:Hid (AtL (w1.alloc (.cells (sg6 id sh.c nv sh.l sh.m sh.p).toArray 230)) w1.heap.size (sg6 id sh.c nv sh.l sh.m sh.p)):=AtL.new0 w1 _ _;have HP2:Hid (AtL (w1.alloc (.cells (sg6 id sh.c nv sh.l sh.m sh.p).toArray 230)) w.heap.size (zAI x (.slice av np cap))):=AtL.below hb2 (AtL.below hb1 HP0.out);have HB2:Hid (Below w.heap.size w (w1.alloc (.cells (sg6 id sh.c nv sh.l sh.m sh.p).toArray 230))):=zAA (zAA HB0.out hb1) hb2;have HW1:Hid (w.heap.size<=w1.heap.size):=(zAA HB0.out hb1).size;clear OF c8 hb1 hb2 hnv HP0 HB0;go_upto_region 2 with fail
 generalize (w1.alloc (.cells (sg6 id sh.c nv sh.l sh.m sh.p).toArray 230))=W2 at *;obtain ⟨sb,hsb⟩:∃ b,w1.heap.size=b:=⟨_,rfl⟩
 rw [hsb] at HS2 HW1;simp only [hsb];clear hsb;obtain ⟨b0,b1,b2,b3,b4,b5,_,_,_,_,_,_⟩:=at6 HS2.out;have p20:=HP2.out.2.1 20 (.slice av np cap) rfl;have p9:=HP2.out.2.1 9 (.int .i64 x.ar) rfl;have HST2:Hid (St own nm av2 m2 cap2 k B T hi w lv W2 L lv P):=HST.out W2 HB2.out;rcases HCL.out with ⟨h1,h0⟩ | ⟨h2,h0⟩ | ⟨h3,hv,hi3,h0⟩ | ⟨h4,hv⟩
 ·rw [h1] at b1;rw [HNP.out] at h0;have FO:=H1.out h1 h0 W2 HB2.out;clear H1 H2 H3 H4 HCL b2 b3 b4 b5 p9 h1 h0;go_wp2_with fail
  refine FO.mono ?_;rintro e w3 ⟨⟨lv3,P3,rfl,ws3,nx3⟩,fr3⟩;have HR:Hid (WP k B T (.int .i64 own) (.slice av2 m2 cap2) LF lv w (.returned (.tuple #[])) w3):=(HST2.out.step fr3 nx3 ws3).wp;clear FO ws3 nx3 fr3 HST2;go_wp2;go_end0
  exact HR.out
 ·rw [h2] at b1;have FO:=H2.out h2 h0 W2 HB2.out;clear H1 H2 H3 H4 HCL b2 b3 b4 b5 p9 h2 h0;go_wp2_with fail
  refine FO.mono ?_;rintro e w3 ⟨⟨lv3,P3,rfl,ws3,nx3⟩,fr3⟩;have HR:Hid (WP k B T (.int .i64 own) (.slice av2 m2 cap2) LF lv w (.returned (.tuple #[])) w3):=(HST2.out.step fr3 nx3 ws3).wp;clear FO ws3 nx3 fr3 HST2;go_wp2;go_end0
  exact HR.out
 ·rw [h3] at b1;rw [HNP.out] at h0;have FO:=H3.out h3 hv hi3 h0 W2 HB2.out;clear H1 H2 H3 H4 HCL b2 b3 b4 b5 p9 h3 hv hi3 h0;go_wp2_with fail
  refine FO.mono ?_;rintro e w3 ⟨⟨lv3,P3,rfl,ws3,nx3⟩,fr3⟩;have HR:Hid (WP k B T (.int .i64 own) (.slice av2 m2 cap2) LF lv w (.returned (.tuple #[])) w3):=(HST2.out.step fr3 nx3 ws3).wp;clear FO ws3 nx3 fr3 HST2;go_wp2;go_end0
  exact HR.out
 ·rw [h4] at b1;obtain ⟨FO,hL4,hl4⟩:=H4.out h4 hv W2 HB2.out;have HL4:Hid ((L++zA1 (cod own nm n) (ps.map (·.1)) L.length)++[ins 5 id x.ar]=LF/\(L++zA1 (cod own nm n) (ps.map (·.1)) L.length).length<=900000):=⟨hL4,hl4⟩
  clear H1 H2 H3 H4 HCL b2 b3 b4 b5 h4 hv hL4 hl4;generalize L++zA1 (cod own nm n) (ps.map (·.1)) L.length=L4 at *;go_wp2_with fail
  refine FO.mono ?_;rintro e w3 ⟨⟨lv3,P3,rfl,ws3,nx3⟩,fr3⟩;have HS3:Hid (St own nm av2 m2 cap2 k B T hi w lv w3 L4 lv3 P3):=HST2.out.step fr3 nx3 ws3;have hnp:∀ b,w.heap.size<=b->b ∉ k::lv.ownBlock.toList:=λb hb hm=>by
   have h9:=HKW.out;rcases List.mem_cons.1 hm with q | q
   ·omega
   ·have:=h9.2 b (by simpa using q);omega
  have d0:=fr3.cell b0 (hnp _ HW1.out);have d9:=fr3.cell p9 (hnp _ (Nat.le_refl _));have LA:=zAs k B T (ins 5 id x.ar).1 _ _ L4 lv3 P3 w3 ws3 HS3.out.en.kB HS3.out.en.hB (by have:=HL4.out.2;omega);clear FO ws3 nx3 fr3 HST2 b0 b1 p9 p20 hnp;go_wp2_with (first | (refine zF5 rfl 5 (.tmp 23) (.tmp 26) rfl id x.ar rfl rfl ?_))
  refine LA.mono ?_;rintro e w4 ⟨⟨lv4,P4,rfl,ws4,nx4⟩,fr4⟩;have HR:Hid (WP k B T (.int .i64 own) (.slice av2 m2 cap2) LF lv w (.returned (.tuple #[])) w4):=by
   have h9:=(HS3.out.step fr4 nx4 ws4).wp;rw [<-HL4.out.1];exact h9
  clear LA ws4 nx4 fr4 HS3;go_wp2;go_end0
  exact HR.out
open Go.RowKit Wf
theorem zKA {op:Oper} {a:Act} (y:Operand) (ho:op.op=.build 67 #[(0,.const (.int .i64 2)),(4,y)]) (c:Wpl.Cl) (hy:a.eval y=.agg #[.int .i64 c.s,.int .i64 c.r,.int .i64 c.c]) (W:World):(execOp a.eval op).run prog W=.ok (.value (.agg (zAM (zPK c).1 zAV).toArray)) W:=by
 unfold execOp;have hv:a.eval (.const (.int .i64 2))=.int .i64 2:=rfl;simp only [ho,List.map_toArray,List.map_cons,List.map_nil,hv,hy,Sem.run_bind,Sem.run_pure,Result.andThen_ok,zR9]
theorem zQE (h:w.rangeAt k 0 (zAI x sl)):w.rangeAt k 1 (vl6 x.v):=λj v hv=>by
 have:=h (1+j) v (by
  match j,hv with
  | 0,hv=>exact hv
  | 1,hv=>exact hv
  | 2,hv=>exact hv
  | 3,hv=>exact hv
  | 4,hv=>exact hv
  | 5,hv=>exact hv
  | j+6,hv=>simp [vl6] at hv)
 rw [Nat.zero_add] at this;exact this
theorem zQS (h:w.rangeAt k 0 (zAI x sl)):w.rangeAt k 10 (rf5 x.a):=λj v hv=>by
 have:=h (10+j) v (by
  match j,hv with
  | 0,hv=>exact hv
  | 1,hv=>exact hv
  | 2,hv=>exact hv
  | 3,hv=>exact hv
  | 4,hv=>exact hv
  | j+5,hv=>simp [rf5] at hv)
 rw [Nat.zero_add] at this;exact this
theorem zJI (h:Wt.right x=true):x.k=1 \/ x.k=2 \/ x.k=3 \/ x.k=4 \/ x.k=5 \/ x.k=6:=by
 unfold Wt.right at h;by_cases h1:x.k=1
 ·exact Or.inl h1
 by_cases h2:x.k=2
 ·exact Or.inr (Or.inl h2)
 by_cases h3:x.k=3
 ·exact Or.inr (Or.inr (Or.inl h3))
 by_cases h4:x.k=4
 ·exact Or.inr (Or.inr (Or.inr (Or.inl h4)))
 by_cases h5:x.k=5
 ·exact Or.inr (Or.inr (Or.inr (Or.inr (Or.inl h5))))
 by_cases h6:x.k=6
 ·exact Or.inr (Or.inr (Or.inr (Or.inr (Or.inr h6))))
 ·rw [if_neg h1,if_neg h2,if_neg h3,if_neg h4,if_neg h5,if_neg h6] at h;cases h
theorem zO5 (own:Int) (nm:List ByteArray):∀ (n:Nat) (t:Tr n) (a:Nat),Wr own nm n t->0<(cod own nm n t a).length
 | 0,t,_,_=>Empty.elim t
 | n+1,t,a,h=>by
  obtain ⟨x,ks⟩:Br (Tr n):=t;obtain ⟨hF,hR,hA⟩:=h;have hx:Wt.right x=true:=hF.1;have hp:Wt.parts x=(ks.length:Int):=hF.2.1;have hA':isA x=false:=hA;show 0<(zBX own nm (hd n) (cod own nm n) x ks a).length
  unfold zBX;rcases zJI hx with h | h | h | h | h | h
  ·rw [if_pos h];simp
  ·rw [if_neg (by omega),if_pos h];simp
  ·simp [isA,h] at hA'
  ·rw [if_neg (by omega),if_neg (by omega),if_pos h];simp
  ·rw [if_neg (by omega),if_neg (by omega),if_neg (by omega),if_pos h];simp
  ·rw [if_neg (by omega),if_neg (by omega),if_neg (by omega),if_neg (by omega),if_pos h];have hzz:∀ a ∈ zHJ own nm x (ks.map (hd n))::ks.map (zC8 own nm n),a=0:=zBv hR;have hrn:zHJ own nm x (ks.map (hd n))=0:=hzz _ (List.mem_cons_self ..);have hrc:zLr x (ks.map (hd n))=0:=by
    unfold zHJ at hrn;rw [if_neg (by omega),if_neg (by omega),if_pos h] at hrn;exact hrn
   obtain ⟨hkn,har,htk⟩:=zEb hrc;have hpa:x.ar=(ks.length:Int):=by
    rw [<-hp];unfold Wt.parts;rw [if_neg (by omega),if_neg (by omega)]
   unfold zD4;simp only;rcases zMy x.nm hkn with h9 | h9 | h9 | h9
   ·rw [if_neg (by omega),if_pos h9.1];simp
   ·rw [if_neg (by omega),if_neg (by omega),if_pos h9.1];unfold zD7;simp only;repeat' split
    all_goals simp
   ·rw [if_neg (by omega),if_neg (by omega),if_neg (by omega)];have h2:2<=ks.length:=by omega
    match ks,h2 with
    | c::u::r,_ =>
     simp only [zCy,List.length_append];have:0<(if ((zAu x.nm:Nat):Int)=30 then zCu (cod own nm n) u r (a+(cod own nm n c a).length) else if ((zAu x.nm:Nat):Int)=31 then ins 14 (a+(cod own nm n c a).length+1+(cod own nm n u (a+(cod own nm n c a).length+1)).length:Nat) 0::cod own nm n u (a+(cod own nm n c a).length+1) else zCe (cod own nm n) (u::r) (a+(cod own nm n c a).length)).length:=by
      split
      ·simp [zCu]
      ·split
       ·simp
       ·simp [zCe]
     omega
   ·rw [if_pos h9.1];simp
theorem zK6 (own:Int) (nm:List ByteArray) (av2:Option Addr) (m2 cap2 n:Nat) (ih:PtC own nm av2 m2 cap2 n):PtC own nm av2 m2 cap2 (n+1):=by
 intro t sl lo hi k B T w L lv P hw hP hen hws hbd;have al:=zGp own nm av2 m2 cap2 n ih;have ca:=zPH own nm av2 m2 cap2 n ih (zO5 own nm n);obtain ⟨x,ks⟩:Br (Tr n):=t;obtain ⟨hF,hR,hA⟩:=hw;have hx:Wt.right x=true:=hF.1;have hp:Wt.parts x=(ks.length:Int):=hF.2.1;have hks:∀ k ∈ ks,zDT n k:=hF.2.2;have hA':isA x=false:=hA;have hhd:hd (n+1) (⟨x,ks⟩:Br (Tr n))=x:=rfl;have hcd:cod own nm (n+1) (⟨x,ks⟩:Br (Tr n)) L.length=zBX own nm (hd n) (cod own nm n) x ks L.length:=rfl;rw [hhd];rw [hcd] at hbd ⊢;have hzz:∀ a ∈ zHJ own nm x (ks.map (hd n))::ks.map (zC8 own nm n),a=0:=zBv hR;have hrn:zHJ own nm x (ks.map (hd n))=0:=hzz _ (List.mem_cons_self ..);have hrk:∀ t ∈ ks,zC8 own nm n t=0:=λt ht=>hzz _ (List.mem_cons_of_mem _ (List.mem_map.2 ⟨t,ht,rfl⟩))
 have hP0:=hP;obtain ⟨av,cap,ps,q1,rfl,q2c,q3,q4⟩:=hP;replace q1:ps.map (·.1)=ks:=q1
 have hlen:ps.length=ks.length:=by rw [<-q1,List.length_map]
 have hl30:ps.length<=30:=by have:=(Wt.parts_le hx).2;omega
 have hav:0<ps.length->∀ bb off,av=some ⟨bb,off,none⟩->bb<hi:=λh0 bb off e=>by
  obtain ⟨b9,o9,_,h9,e9,_⟩:=q3 0 h0;rw [e] at e9;cases e9
  exact h9
 have h0B:∀ j,lv.ownBlock=some j->B<=j:=λj e=>(zAL hws.own e).1
 obtain ⟨LF,hLF⟩:∃ LF,L++zBX own nm (hd n) (cod own nm n) x ks L.length=LF:=⟨_,rfl⟩
 rw [hLF];have hb0:=zAH (Below.refl _ w) (.cells (zAI x (.slice av ps.length cap)).toArray 188);have pP:=AtL.new0 w 188 (zAI x (.slice av ps.length cap));have st0:=(St.init hen hws).below hb0;have HST:Hid (St own nm av2 m2 cap2 k B T hi w lv (w.alloc (.cells (zAI x (.slice av ps.length cap)).toArray 188)) L lv P):=st0;have HNW:Hid (w.heap.size ∉ k::lv.ownBlock.toList):=λhm=>by
  have:=hen.kB;have:=hen.hB;rcases List.mem_cons.1 hm with q | q
  ·omega
  ·have:=(zAL hws.own (show lv.ownBlock=some w.heap.size by simpa using q)).2;omega
 have HLF:Hid (L++zBX own nm (hd n) (cod own nm n) x ks L.length=LF):=hLF;have HBL:Hid (L.length<=1000000):=by show _<=_;omega
 have HMN:Hid (m2=nm.length/\nm.length<=16):=⟨hen.hm,hen.hl⟩
 have hAL:(x.k=4 \/ x.k=5)->L.length+(zA1 (cod own nm n) ks L.length).length<=900000->Calls prog 134 #[.pointer (some ⟨k,0,none⟩),.slice av ps.length cap] (w.alloc (.cells (zAI x (.slice av ps.length cap)).toArray 188)) (WP k B T (.int .i64 own) (.slice av2 m2 cap2) (L++zA1 (cod own nm n) ks L.length) lv (w.alloc (.cells (zAI x (.slice av ps.length cap)).toArray 188))):=λh45 hb9=>by
  have hany:(ks.map (hd n)).any isA=false:=by
   unfold zHJ at hrn;rw [if_neg (by omega),if_pos h45] at hrn;cases hq:(ks.map (hd n)).any isA with
   | false=>rfl
   | true=>rw [hq] at hrn;simp at hrn
  have hwr:∀ p ∈ ps,Wr own nm n p.1:=λp hpp=>by
   have hm:p.1 ∈ ks:=by rw [<-q1];exact List.mem_map.2 ⟨p,hpp,rfl⟩
   refine ⟨hks _ hm,hrk _ hm,?_⟩;have:=List.any_eq_false.1 hany (hd n p.1) (List.mem_map.2 ⟨p.1,hm,rfl⟩);simpa using this
  have:=al ps av ps.length cap lo hi k B T _ L lv P rfl hl30 hwr (λp hpp=>PA.kept (Kept.of_below hb0) n _ _ (q4 p hpp)) (q3.q.below hb0) (λh0 bb off e j ej=>by have:=hav h0 bb off e;have:=h0B j ej;have:=hen.hk;have:=hen.kB;omega) (λh0 bb off e=>by have:=hav h0 bb off e;have:=hen.hk;have:=hen.kB;have:=st0.en.hB;omega) st0.en st0.ws (by rw [q1];exact hb9);rw [q1] at this;exact this
 have HCA:Hid (x.k=6->Calls prog 135 #[.pointer (some ⟨k,0,none⟩),.agg (zAI x (.slice av ps.length cap)).toArray] (w.alloc (.cells (zAI x (.slice av ps.length cap)).toArray 188)) (WP k B T (.int .i64 own) (.slice av2 m2 cap2) LF lv (w.alloc (.cells (zAI x (.slice av ps.length cap)).toArray 188)))):=λh6=>by
  have hn6:zBX own nm (hd n) (cod own nm n) x ks L.length=zD4 own nm (hd n) (cod own nm n) x ks L.length:=by
   unfold zBX;rw [if_neg (by omega),if_neg (by omega),if_neg (by omega),if_neg (by omega),if_pos h6]
  rw [hn6] at hbd hLF;have:=ca x ks (.slice av ps.length cap) lo hi k B T _ L lv P h6 hF hR (PA.kept (Kept.of_below hb0) (n+1) _ _ hP0) st0.en st0.ws hbd;rw [hLF] at this;exact this
 have hk:=zJI hx;have hk3:¬ x.k=3:=λh=>by simp [isA,h] at hA'
 obtain ⟨np,hnp⟩:∃ np,ps.length=np:=⟨_,rfl⟩
 rw [hnp] at pP hb0 HST HCA hAL ⊢;have c0:=pP.2.1 0 (.int .i64 x.k) rfl;have rP:=pP.range;have p20:=pP.2.1 20 (.slice av np cap) rfl;have p7:=pP.2.1 7 (.int .i64 x.op) rfl;clear al ca hF hR hA hx hp hks hA' hhd hcd hzz hrn hrk hP0 q1 q2c q3 q4 hlen hl30 hav h0B st0 hnp hen hws ih hb0 pP;rcases hk with h | h | h | h | h | h
 ·have hn1:zBX own nm (hd n) (cod own nm n) x ks L.length=[zCQ x.v]:=by unfold zBX;rw [if_pos h]
  rw [hn1] at hLF;have HL1:Hid (L++[zCQ x.v]=LF):=hLF;rw [h] at c0;have rv:=zQE rP;have PU:=zGT k B T x.v _ _ L lv P _ HST.out.ws HST.out.en.kB HST.out.en.hB HBL.out;clear h hn1 hLF hAL HCA hk3 hbd p20 p7;go_enter func102,ntmps102;go_upto_region 1 with fail
  generalize (w.alloc (.cells (zAI x (.slice av np cap)).toArray 188))=W at *;go_wp2_with (first | (refine zAB (by rfl) 38 (.tmp 11) rfl w.heap.size 1 rfl (vl6 x.v) _ rv underlying38 rfl (by kernel_rfl) ?_))
  refine PU.mono ?_;rintro e w5 ⟨⟨lv5,P5,rfl,ws5,nx5⟩,fr5⟩;have HR:Hid (WP k B T (.int .i64 own) (.slice av2 m2 cap2) LF lv w (.returned (.tuple #[])) w5):=by
   have h9:=(HST.out.step fr5 nx5 ws5).wp;rw [<-HL1.out];exact h9
  clear PU ws5 nx5 fr5 HST rv rP c0;go_wp2;go_end0
  exact HR.out
 ·have hn1:zBX own nm (hd n) (cod own nm n) x ks L.length=[zPK (zK2 own nm x)]:=by unfold zBX;rw [if_neg (by omega),if_pos h]
  rw [hn1] at HLF;rw [h] at c0;have ra0:=zQS rP;have CE:=λ(W:World) (hr:RdS W av2 nm)=>zF6 own nm av2 m2 cap2 x.a W HMN.out.1 HMN.out.2 hr
  clear h hn1 hLF hAL HCA hk3 hbd p20 p7;go_enter func102,ntmps102;go_upto_region 1 with fail
  generalize (w.alloc (.cells (zAI x (.slice av np cap)).toArray 188))=W at *;go_upto_region 5 with fail
  have hdr:=(Below.refl W.heap.size W).drew;have HSD:Hid (St own nm av2 m2 cap2 k B T hi w lv W.drew L lv P):=HST.out.below hdr;have rk:=zBi HSD.out.ws;have ra:W.drew.rangeAt w.heap.size 10 (rf5 x.a):=ra0;clear hdr HST rP ra0 c0;refine wp_region_held_drew (S:=λW=>W.rangeAt k 0 [.int .i64 own,.slice av2 m2 cap2]/\W.rangeAt w.heap.size 10 (rf5 x.a)) (by kernel_rfl) ⟨rk,ra⟩ (λhHeld=>?_);generalize W.drew=WD at *;refine tkQ 0 ?_
  refine tkQ 1 ?_
  refine tkQ 2 ?_
  refine tkQ 3 ?_
  refine wpAnyH_take (i:=4) (v:=.agg ([.int .i64 own,.slice av2 m2 cap2]).toArray) (atQ rfl) (by kernel_rfl) (by kernel_rfl) (by kernel_rfl) (λ_ _ _ h=>h) (yieldsIf_load_mid (by rfl) 184 (.tmp 19) rfl (k) (0) rfl ([.int .i64 own,.slice av2 m2 cap2]) _ (λ_ h=>h.1) underlying184 rfl (by kernel_rfl)) (by assumption) ?_;try simp only [Act.put,lA,lZ,lS]
  refine tkQ 5 ?_
  refine tkQ 6 ?_
  refine wpAnyH_take (i:=7) (v:=.agg (rf5 x.a).toArray) (atQ rfl) (by kernel_rfl) (by kernel_rfl) (by kernel_rfl) (λ_ _ _ h=>h) (yieldsIf_load_mid (by rfl) 100 (.tmp 22) rfl (w.heap.size) (10) rfl (rf5 x.a) _ (λ_ h=>h.2) underlying100 rfl (by kernel_rfl)) (by assumption) ?_;try simp only [Act.put,lA,lZ,lS]
  refine rdQ 8 (λK hK=>?_);go_simp
  refine (CE WD HSD.out.en.rs).mono ?_;rintro e w4 ⟨rfl,hb4⟩;go_wp2_with fail
  have HS4:Hid (St own nm av2 m2 cap2 k B T hi w lv w4 L lv P):=HSD.out.below hb4;replace rk:=zAF hb4 rk
  replace ra:=zAF hb4 ra
  refine hkQ hK ⟨rk,ra⟩ (λhHeld=>?_);clear hK K
  have LA:=zAs k B T (zPK (zK2 own nm x)).1 _ _ L lv P w4 HS4.out.ws HS4.out.en.kB HS4.out.en.hB HBL.out;refine wpAnyH_take (i:=9) (v:=.agg (zAM (zPK (zK2 own nm x)).1 zAV).toArray) (atQ rfl) (by kernel_rfl) (by kernel_rfl) (by kernel_rfl) (λ_ _ _ h=>h) (Or.inl ⟨by rfl,λW _=>zKA (.tmp 24) rfl (zK2 own nm x) rfl W⟩) (by assumption) ?_;try simp only [Act.put,lA,lZ,lS]
  refine rdQ 10 (λK hK=>?_);go_simp
  refine LA.mono ?_;rintro e w5 ⟨⟨lv5,P5,rfl,ws5,nx5⟩,fr5⟩;go_wp2_with fail
  have HR:Hid (WP k B T (.int .i64 own) (.slice av2 m2 cap2) LF lv w (.returned (.tuple #[])) w5):=by
   have h9:=(HS4.out.step fr5 nx5 ws5).wp;rw [<-HLF.out];exact h9
  have rk5:=zBi ws5;have ra5:=fr5.range ra HNW.out;refine hkQ hK ⟨rk5,ra5⟩ (λhHeld=>?_);clear hK K
  refine wpAnyH_done (by kernel_rfl) ?_ _;clear hHeld rk ra rk5 ra5 ws5 nx5 fr5 HS4 HSD LA CE;go_wp2;go_end0
  exact HR.out
 ·exact absurd h hk3
 ·have hn1:zBX own nm (hd n) (cod own nm n) x ks L.length=zA1 (cod own nm n) ks L.length++[ins 3 x.op 0]:=by unfold zBX;rw [if_neg (by omega),if_neg (by omega),if_pos h]
  rw [hn1] at hbd hLF;rw [List.length_append] at hbd;have AA:=hAL (Or.inl h) (by omega);rw [<-List.append_assoc] at hLF;have HL4:Hid ((L++zA1 (cod own nm n) ks L.length)++[ins 3 x.op 0]=LF/\(L++zA1 (cod own nm n) ks L.length).length<=900000):=⟨hLF,by rw [List.length_append];omega⟩
  rw [h] at c0;clear h hn1 hLF hAL HCA hk3 hbd HLF;generalize L++zA1 (cod own nm n) ks L.length=L4 at *;go_enter func102,ntmps102;go_upto_region 1 with fail
  generalize (w.alloc (.cells (zAI x (.slice av np cap)).toArray 188))=W at *;go_wp2_with fail
  refine AA.mono ?_;rintro e w3 ⟨⟨lv3,P3,rfl,ws3,nx3⟩,fr3⟩;have HS3:Hid (St own nm av2 m2 cap2 k B T hi w lv w3 L4 lv3 P3):=HST.out.step fr3 nx3 ws3;have d7:=fr3.cell p7 HNW.out;have LA:=zAs k B T (ins 3 x.op 0).1 _ _ L4 lv3 P3 w3 ws3 HS3.out.en.kB HS3.out.en.hB (by have:=HL4.out.2;omega);clear AA ws3 nx3 fr3 HST c0 rP p20 p7;go_wp2_with (first | (refine zB1 rfl 3 (.tmp 36) rfl x.op rfl ?_))
  refine LA.mono ?_;rintro e w4 ⟨⟨lv4,P4,rfl,ws4,nx4⟩,fr4⟩;have HR:Hid (WP k B T (.int .i64 own) (.slice av2 m2 cap2) LF lv w (.returned (.tuple #[])) w4):=by
   have h9:=(HS3.out.step fr4 nx4 ws4).wp;rw [<-HL4.out.1];exact h9
  clear LA ws4 nx4 fr4 HS3;go_wp2;go_end0
  exact HR.out
 ·have hn1:zBX own nm (hd n) (cod own nm n) x ks L.length=zA1 (cod own nm n) ks L.length++[ins 4 x.op 0]:=by unfold zBX;rw [if_neg (by omega),if_neg (by omega),if_neg (by omega),if_pos h]
  rw [hn1] at hbd hLF;rw [List.length_append] at hbd;have AA:=hAL (Or.inr h) (by omega);rw [<-List.append_assoc] at hLF;have HL4:Hid ((L++zA1 (cod own nm n) ks L.length)++[ins 4 x.op 0]=LF/\(L++zA1 (cod own nm n) ks L.length).length<=900000):=⟨hLF,by rw [List.length_append];omega⟩
  rw [h] at c0;clear h hn1 hLF hAL HCA hk3 hbd HLF;generalize L++zA1 (cod own nm n) ks L.length=L4 at *;go_enter func102,ntmps102;go_upto_region 1 with fail
  generalize (w.alloc (.cells (zAI x (.slice av np cap)).toArray 188))=W at *;go_wp2_with fail
  refine AA.mono ?_;rintro e w3 ⟨⟨lv3,P3,rfl,ws3,nx3⟩,fr3⟩;have HS3:Hid (St own nm av2 m2 cap2 k B T hi w lv w3 L4 lv3 P3):=HST.out.step fr3 nx3 ws3;have d7:=fr3.cell p7 HNW.out;have LA:=zAs k B T (ins 4 x.op 0).1 _ _ L4 lv3 P3 w3 ws3 HS3.out.en.kB HS3.out.en.hB (by have:=HL4.out.2;omega);clear AA ws3 nx3 fr3 HST c0 rP p20 p7;go_wp2_with (first | (refine zB1 rfl 4 (.tmp 48) rfl x.op rfl ?_))
  refine LA.mono ?_;rintro e w4 ⟨⟨lv4,P4,rfl,ws4,nx4⟩,fr4⟩;have HR:Hid (WP k B T (.int .i64 own) (.slice av2 m2 cap2) LF lv w (.returned (.tuple #[])) w4):=by
   have h9:=(HS3.out.step fr4 nx4 ws4).wp;rw [<-HL4.out.1];exact h9
  clear LA ws4 nx4 fr4 HS3;go_wp2;go_end0
  exact HR.out
 ·have CA:=HCA.out h;rw [h] at c0;clear h hLF hAL HCA hk3 hbd p20 p7 HLF;go_enter func102,ntmps102;go_upto_region 1 with fail
  generalize (w.alloc (.cells (zAI x (.slice av np cap)).toArray 188))=W at *;go_wp2_with (first | (refine zAB (by rfl) 188 (.tmp 3) rfl w.heap.size 0 rfl (zAI x (.slice av np cap)) _ rP underlying188 rfl (by kernel_rfl) ?_))
  refine CA.mono ?_;rintro e w5 ⟨⟨lv5,P5,rfl,ws5,nx5⟩,fr5⟩;have HR:Hid (WP k B T (.int .i64 own) (.slice av2 m2 cap2) LF lv w (.returned (.tuple #[])) w5):=(HST.out.step fr5 nx5 ws5).wp;clear CA ws5 nx5 fr5 HST rP c0;go_wp2;go_end0
  exact HR.out
theorem zHB (own:Int) (nm:List ByteArray) (av2:Option Addr) (m2 cap2:Nat):∀ n,PtC own nm av2 m2 cap2 n
 | 0=>λt=>Empty.elim t
 | n+1=>zK6 own nm av2 m2 cap2 n (zHB own nm av2 m2 cap2 n)
end Go.Proofs.YtedifblompcdkaaGreatDoor
namespace Go.Proofs.YtedifblompcdkaaGreatDoor.Wf
open Go.Proofs.YtedifblompcdkaaGreatDoor
section
variable {α:Type} (r:α->Nat)
def zD2 (l:List α):Nat:=(l.map r).sum
theorem zHL (g:α->Nat->List I) (c:Nat):∀ (l:List α),(∀ k ∈ l,∀ a,(g k a).length+c<=6 * r k)->∀ a,(zA1 g l a).length+c * l.length<=6 * zD2 r l
 | [],_,a=>by simp [zA1,zD2]
 | k::l,h,a=>by
  have h1:=h k (List.mem_cons_self ..) a;have h2:=zHL g c l (λx hx=>h x (List.mem_cons_of_mem _ hx)) (a+(g k a).length);simp only [zA1,List.length_append,List.length_cons,zD2,List.map_cons,List.sum_cons] at *;rw [Nat.mul_add,Nat.mul_add,Nat.mul_one];omega
theorem zNG (g:α->Nat->List I) (e:Int):∀ (l:List α),(∀ k ∈ l,∀ a,(g k a).length+2<=6 * r k)->∀ a,(chB g e l a).length<=6 * zD2 r l
 | [],_,a=>by simp [chB]
 | k::l,h,a=>by
  have h1:=h k (List.mem_cons_self ..) (a+1);have h2:=zNG g e l (λx hx=>h x (List.mem_cons_of_mem _ hx)) (a+1+(g k (a+1)).length);simp only [chB,List.length_append,List.length_cons,zD2,List.map_cons,List.sum_cons] at *;omega
theorem zDF (q:α->Bool):∀ (l:List α),zD2 r (l.filter q)<=zD2 r l
 | []=>Nat.le_refl _
 | k::l=>by
  have:=zDF q l;by_cases h:q k=true
  ·rw [List.filter_cons_of_pos h];simp only [zD2,List.map_cons,List.sum_cons] at *;omega
  ·rw [List.filter_cons_of_neg h];simp only [zD2,List.map_cons,List.sum_cons] at *;omega
end
theorem zGX (n:Nat) (x:Wt.Nd) (ks:List (Tr n)):(row (n+1) (⟨x,ks⟩:Br (Tr n))).length=1+zD2 (λk=>(row n k).length) ks:=by
 show (x::(ks.map (row n)).flatten).length=_
 rw [List.length_cons,List.length_flatten,zD2,List.map_map];rw [Nat.add_comm];rfl
theorem zFx:∀ (n:Nat) (t:Tr n),1<=(row n t).length
 | 0,t=>Empty.elim t
 | n+1,t=>by
  obtain ⟨x,ks⟩:Br (Tr n):=t;rw [zGX];omega
theorem zI0 (own:Int) (nm:List ByteArray):∀ (n:Nat) (t:Tr n) (a:Nat),(cod own nm n t a).length+2<=6 * (row n t).length
 | 0,t,_=>Empty.elim t
 | n+1,t,a=>by
  obtain ⟨x,ks⟩:Br (Tr n):=t;have ih:=zI0 own nm n;have hrp:=zFx n;rw [zGX];show (zBX own nm (hd n) (cod own nm n) x ks a).length+2<=_
  have hsq:∀ (l:List (Tr n)) (a:Nat),(zA1 (cod own nm n) l a).length<=6 * zD2 (λk=>(row n k).length) l:=λl a=>by
   have:=zHL (λk=>(row n k).length) (cod own nm n) 2 l (λk _ a=>ih k a) a;omega
  have hfe:∀ (l:List (Tr n)) (a:Nat),(zA1 (zAx (cod own nm n)) l a).length<=6 * zD2 (λk=>(row n k).length) l:=λl a=>by
   have:=zHL (λk=>(row n k).length) (zAx (cod own nm n)) 1 l (λk _ a=>by have:=ih k a;simp only [zAx,List.length_append,List.length_cons,List.length_nil];omega) a;omega
  unfold zBX;split
  ·simp;omega
  split
  ·simp;omega
  split
  ·have:=hsq ks a;simp only [List.length_append,List.length_cons,List.length_nil];omega
  split
  ·have:=hsq ks a;simp only [List.length_append,List.length_cons,List.length_nil];omega
  split
  ·unfold zD4;simp only;split
   ·have:=hsq ks a;simp only [List.length_append,List.length_cons,List.length_nil];omega
   split
   ·have:=zHL (λk=>(row n k).length) (zCd own nm (hd n) (cod own nm n)) 1 ks (λk _ a=>by
     have h1:=ih k a;have h2:=hrp k;unfold zCd;split
     ·simp;omega
     ·simp only [zAx,List.length_append,List.length_cons,List.length_nil];omega) (a+1)
    simp only [List.length_append,List.length_cons,List.length_nil];omega
   split
   ·unfold zD7;simp only;have hf:=zDF (λk=>(row n k).length) (λk=>!isA (hd n k)) ks;split
    ·simp;omega
    split
    ·simp;omega
    split
    ·have:=hsq (ks.filter (λk=>!isA (hd n k))) a;simp only [List.length_append,List.length_cons,List.length_nil];omega
    ·have:=hfe (ks.filter (λk=>!isA (hd n k))) (a+1);simp only [List.length_append,List.length_cons,List.length_nil];omega
   ·match ks with
    | []=>simp [zCy];omega
    | c::rr =>
     have h1:=ih c a;simp only [zCy,List.length_append];match rr with
     | [] =>
      simp only [zD2,List.map_cons,List.map_nil,List.sum_cons,List.sum_nil];split
      ·simp [zCe];omega
      ·simp;omega
     | u::no =>
      simp only [zD2,List.map_cons,List.sum_cons];have hno:=λa=>hsq no a
      simp only [zD2] at hno;have hu:=λa=>ih u a
      have hru:=hrp u;split
      ·simp only [zCu,List.length_cons,List.length_append];have h2:=hu (a+(cod own nm n c a).length+1);split
       ·simp;omega
       ·have h3:=hno (a+(cod own nm n c a).length+1+(cod own nm n u (a+(cod own nm n c a).length+1)).length+1);omega
      ·split
       ·have h2:=hu (a+(cod own nm n c a).length+1);simp only [List.length_cons];omega
       ·simp only [zCe,List.length_cons,List.length_append];have h2:=hu (a+(cod own nm n c a).length+1);have h3:=zNG (λk=>(row n k).length) (cod own nm n) ((a+(cod own nm n c a).length+1+(cod own nm n u (a+(cod own nm n c a).length+1)).length+(chB (cod own nm n) 0 no (a+(cod own nm n c a).length+1+(cod own nm n u (a+(cod own nm n c a).length+1)).length)).length:Nat):Int) no (λk _ a=>ih k a) (a+(cod own nm n c a).length+1+(cod own nm n u (a+(cod own nm n c a).length+1)).length);simp only [zD2] at h3;omega
  ·simp;omega
end Go.Proofs.YtedifblompcdkaaGreatDoor.Wf
namespace Go.Proofs.YtedifblompcdkaaGreatDoor
open Tryz
open Go.RowKit Wf
variable {op:Oper} {a:Act}
theorem zLo {P:Program} {a:Act} (x y:Operand) (ts:Array TypeId) (ho:op.op=.call {callee:=.builtin .min,args:=#[x,y],argTypes:=ts}) (i j k:Int) (hx:a.eval x=.int .i64 i) (hy:a.eval y=.int .i64 j) (hk:(if j<i then j else i)=k) (w:World):(execOp a.eval op).run P w=.ok (.value (.int .i64 k)) w:=by
 have hr:=run_min_int2 (P:=P) (w:=w) ts op.type .i64 .i64 i j;rw [hk] at hr;unfold execOp;simp only [ho,resolve,invoke,builtin,Sem.run_bind,Sem.run_pure,Result.andThen_ok,List.map_toArray,List.map_cons,List.map_nil,hx,hy,hr]
theorem zLf (s h:Operand) (ho:op.op=.slice 53 s none (some h) none) (av:Option Addr) (m cap q:Nat) (hs:a.eval s=.slice av m cap) (hh:a.eval h=.int .i64 (q:Int)) (hq:q<=m) (hc:m<=cap) (hn:av=none->cap=0) (W:World):(execOp a.eval op).run prog W=.ok (.value (.slice av q cap)) W:=by
 have hu:prog.underlying 53=some (.slice (prog.elem 53)):=by kernel_rfl
 have hz:(sizeOf (prog.elem 53)).run prog W=.ok 1 W:=by kernel_rfl
 have hr:(Instr.sliceAt 53 (.slice av m cap) none (some (.int .i64 (q:Int))) none).run prog W=.ok (.slice av q cap) W:=by
  rw [run_sliceAt_slice W _ _ _ _ _ hu,run_slice_h W _ _ _ _ hu _ (q:Int) (by omega) (by omega),hz];have he:sliced av 0 q cap 1=.slice av q cap:=by
   unfold sliced;split
   ·rfl
   ·cases av <;> simp [Addr.add]
  rw [<-he];rfl
 unfold execOp;simp only [ho,hs,hh,Option.map_some,Option.map_none,Sem.run_bind,Sem.run_pure,Result.andThen_ok,hr]
theorem zP1 (s r c:Int) (av:Option Addr) (m cap:Nat) (w:World) (q:Nat) (hq:q=min m 16) (hc:m<=cap) (hn:av=none->cap=0):CR 98 #[.agg #[.int .i64 s,.int .i64 r,.int .i64 c],.slice av m cap] w (zCc s av q cap):=by
 have HQ:Hid ((if (16:Int)<(m:Int) then (16:Int) else (m:Int))=(q:Int)):=by show _=_;split <;> omega
 have HQM:Hid (q<=m/\m<=cap):=⟨by omega,hc⟩
 have HQM2:Hid (av=none->cap=0):=hn;have hB0:=zAH (zAH (Below.refl _ w) (.cells #[.int .i64 s,.int .i64 r,.int .i64 c] 24)) (.cells #[.int .i64 0,.slice none 0 0] 184);have pC:=(AtL.new0 w 24 [.int .i64 s,.int .i64 r,.int .i64 c]).alloc (.cells #[.int .i64 0,.slice none 0 0] 184);have pR0:=AtL.new1 w (.cells #[.int .i64 s,.int .i64 r,.int .i64 c] 24) 184 [.int .i64 0,.slice none 0 0];clear hq hc hn;go_enter func98,ntmps98;go_upto_region 1 with fail
 generalize ((w.alloc (.cells #[.int .i64 s,.int .i64 r,.int .i64 c] 24)).alloc (.cells #[.int .i64 0,.slice none 0 0] 184))=W at *;have hdr:=(Below.refl W.heap.size W).drew;have c0:=(AtL.below hdr pC).2.1 0 _ rfl;have pR:=AtL.below hdr pR0;have hB:=zAA hB0 hdr;clear hdr pC pR0 hB0;refine wp_region_held_drew (S:=λW=>W.cell? ⟨w.heap.size,0,none⟩=some (.int .i64 s)) (by kernel_rfl) c0 (λhHeld=>?_);generalize W.drew=WD at *;refine tkQ 0 ?_
 refine tkQ 1 ?_
 refine tkQ 2 ?_
 refine tkQ 3 ?_
 refine tkQ 4 ?_
 refine wpAnyH_take (i:=5) (v:=.int .i64 (q:Int)) (atQ rfl) (by kernel_rfl) (by kernel_rfl) (by kernel_rfl) (λ_ _ _ h=>h) (Or.inl ⟨by rfl,λW _=>zLo (.tmp 9) (.const (.int .i64 16)) _ rfl (m:Int) 16 (q:Int) rfl rfl HQ.out W⟩) (by assumption) ?_;try simp only [Act.put,lA,lZ,lS]
 refine wpAnyH_take (i:=6) (v:=.slice av q cap) (atQ rfl) (by kernel_rfl) (by kernel_rfl) (by kernel_rfl) (λ_ _ _ h=>h) (Or.inl ⟨by rfl,λW _=>zLf (.tmp 7) (.tmp 10) rfl av m cap q rfl rfl HQM.out.1 HQM.out.2 HQM2.out W⟩) (by assumption) ?_;try simp only [Act.put,lA,lZ,lS]
 refine tkQ 7 ?_
 have k0:=pR.2.1 0 _ rfl;have k1:=pR.2.1 1 _ rfl;have z0:=pR.2.2 0 (by simp);have z1:=pR.2.2 1 (by simp);refine rdQ 8 (λK hK=>?_);go_simp
 have fr:Fr [w.heap.size+1] WD ((WD.setCell ⟨w.heap.size+1,0,none⟩ (.int .i64 s)).setCell ⟨w.heap.size+1,1,none⟩ (.slice av q cap)):=zAf (w.heap.size+1) [.int .i64 s,.slice av q cap] 0 WD;have pF:AtL ((WD.setCell ⟨w.heap.size+1,0,none⟩ (.int .i64 s)).setCell ⟨w.heap.size+1,1,none⟩ (.slice av q cap)) (w.heap.size+1) [.int .i64 s,.slice av q cap]:=pR.setAll (vs:=[.int .i64 s,.slice av q cap]) rfl;have HPF:Hid (((WD.setCell ⟨w.heap.size+1,0,none⟩ (.int .i64 s)).setCell ⟨w.heap.size+1,1,none⟩ (.slice av q cap)).rangeAt (w.heap.size+1) 0 [.int .i64 s,.slice av q cap]):=pF.range;have HBF:Hid (Below w.heap.size w ((WD.setCell ⟨w.heap.size+1,0,none⟩ (.int .i64 s)).setCell ⟨w.heap.size+1,1,none⟩ (.slice av q cap))):=zDL hB fr (λk hk=>by simp at hk;omega);refine hkQ hK (fr.cell c0 (by simp)) (λhHeld=>?_);clear hK K
 refine wpAnyH_done (by kernel_rfl) ?_ _;clear hHeld fr pF k0 k1 z0 z1 pR hB c0;generalize ((WD.setCell ⟨w.heap.size+1,0,none⟩ (.int .i64 s)).setCell ⟨w.heap.size+1,1,none⟩ (.slice av q cap))=WF at *;go_wp2;refine bodyPost_ret (zA2 (by rfl) _ _ (w.heap.size+1) [.int .i64 s,.slice av q cap] _ (by rfl) HPF.out underlying184 rfl (by kernel_rfl)) rfl ⟨rfl,HBF.out⟩
