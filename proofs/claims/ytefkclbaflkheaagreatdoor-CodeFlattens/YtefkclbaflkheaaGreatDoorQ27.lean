/- Lemmas. -/
import Derived.Test.YtefkclbaflkheaaGreatDoorQ26
set_option maxHeartbeats 3200000
set_option maxRecDepth 100000
namespace Go.Proofs.YtefkclbaflkheaaGreatDoor
open Tryz
variable {x:Wt.Nd} {w:World} {k:Nat} {sl:Value}
open Go.RowKit Wf
set_option linter.unusedVariables false
section
open Tryz
variable (own:Int) (nm:List ByteArray) (av2:Option Addr) (m2 cap2:Nat)
def SkC (n:Nat):Prop:=∀ (id:Int) (ps:List (Tr n × Value)) (av:Option Addr) (m cap lo hi k B:Nat) (T:Nat->Nat) (w:World) (L:List I) (lv:Value) (P:List (Wc.In × Value)),m=ps.length->ps.length<=30->(∀ p ∈ ps,Wq own nm n p.1)->0<(ps.filter λp=>isA (hd n p.1)).length->(∀ p ∈ ps,PA n lo hi w p.1 p.2)->RdQ w av (ps.map λp=>(hd n p.1,p.2))->En own nm av2 m2 cap2 k B T hi w->WS k B T w (.int .i64 own) (.slice av2 m2 cap2) L lv P->L.length+(zAw own nm (hd n) (cod own nm n) id (ps.map (·.1)) L.length).length<=900000 ->
 Calls prog 83 #[.pointer (some ⟨k,0,none⟩),.int .i64 id,.slice av m cap] w (WP k B T (.int .i64 own) (.slice av2 m2 cap2) (L++zAw own nm (hd n) (cod own nm n) id (ps.map (·.1)) L.length) lv w)
end
theorem zNT {b:Nat} {v0 v1 v2 v3 v4:Value}:Fr [b] w (((((w.setCell ⟨b,0,none⟩ v0).setCell ⟨b,1,none⟩ v1).setCell ⟨b,2,none⟩ v2).setCell ⟨b,3,none⟩ v3).setCell ⟨b,4,none⟩ v4):=zCQ b [v0,v1,v2,v3,v4] 0 w
theorem zFy {n:Nat} (ps:List (Tr n × Value)) (q:Wt.Nd->Bool):(ps.map λp=>(hd n p.1,p.2)).filter (λp=>q p.1)=(ps.filter λp=>q (hd n p.1)).map λp=>(hd n p.1,p.2):=by
 rw [List.filter_map];rfl
theorem OwnP.rdq {B:Nat} {v:Value} {A:List (Wt.Nd × Value)} (h:OwnP w B v A):∃ av c,v=.slice av A.length c/\RdQ w av A/\∀ bb off,av=some ⟨bb,off,none⟩->B<=bb/\bb<w.heap.size:=by
 rcases OwnP.cases h with ⟨e,h0⟩ | ⟨g,cap,e,h1,h2,h3⟩
 ·subst h0;exact ⟨none,0,e,λi hi=>absurd hi (Nat.not_lt_zero _),λbb off e=>by cases e⟩
 ·refine ⟨some ⟨g,0,none⟩,cap,e,λi hi=>⟨g,0,rfl,by rw [Nat.zero_add];exact h3 i hi⟩,λbb off e=>by cases e;exact ⟨h1,h2⟩⟩
theorem zMA (h:RtN x):(0<=(zBR x).b - (zBR x).t+1/\(zBR x).b - (zBR x).t+1<=65536)/\(0<=(zBR x).r - (zBR x).l+1/\(zBR x).r - (zBR x).l+1<=65536):=by
 obtain ⟨h1,h2⟩:=h;simp only [Wt.inR,Bool.and_eq_true,decide_eq_true_eq] at h1 h2;simp only [zBR];omega
theorem zMU (own:Int) (nm:List ByteArray) (av2:Option Addr) (m2 cap2 n:Nat) (ih:PtC own nm av2 m2 cap2 n):SkC own nm av2 m2 cap2 n:=by
 intro id ps av m cap lo hi k B T w L lv P hm hl hwq hne hpap hrd hen hws hbd;have al:=zFs own nm av2 m2 cap2 n ih;have sr:=zHd own nm av2 m2 cap2 n ih;obtain ⟨pa,hpA⟩:∃ pa,(ps.filter λp=>isA (hd n p.1))=pa:=⟨_,rfl⟩
 obtain ⟨pv,hpV⟩:∃ pv,(ps.filter λp=>!isA (hd n p.1))=pv:=⟨_,rfl⟩
 rw [hpA] at hne;have hvs:(ps.map (·.1)).filter (λk=>!isA (hd n k))=pv.map (·.1):=by rw [<-hpV,List.filter_map];rfl
 have hars:zAe ((ps.map (·.1)).map (hd n))=pa.map λp=>hd n p.1:=by
  unfold zAe;rw [<-hpA,List.map_map,List.filter_map];rfl
 have hmA:∀ p ∈ pa,p ∈ ps/\isA (hd n p.1)=true:=λp hp=>by rw [<-hpA] at hp;exact List.mem_filter.1 hp
 have hmV:∀ p ∈ pv,p ∈ ps/\isA (hd n p.1)=false:=λp hp=>by
  rw [<-hpV] at hp;have:=List.mem_filter.1 hp;exact ⟨this.1,by simpa using this.2⟩
 have hlA:pa.length<=30:=by have:=List.length_filter_le (λp:Tr n × Value=>isA (hd n p.1)) ps;rw [hpA] at this;omega
 have hlV:pv.length<=30:=by have:=List.length_filter_le (λp:Tr n × Value=>!isA (hd n p.1)) ps;rw [hpV] at this;omega
 have AP:=zEX (ps.map λp=>(hd n p.1,p.2)) av m cap w (by rw [List.length_map];exact hm) (by rw [List.length_map];exact hl) (zHj hpap) hrd;unfold ApP at AP;rw [zFy ps isA,zFy ps (λx=>!isA x),hpA,hpV] at AP;obtain ⟨xa,hxa⟩:∃ x,hd n (pa[0]).1=x:=⟨_,rfl⟩
 obtain ⟨xb,hxb⟩:∃ x,hd n (pa[pa.length - 1]'(by omega)).1=x:=⟨_,rfl⟩
 have hrt:∀ p ∈ pa,RtN (hd n p.1):=λp hp=>zBr (zFR (hwq p (hmA p hp).1).1) (by simpa [isA] using (hmA p hp).2)
 have hra:RtN xa:=by rw [<-hxa];exact hrt _ (List.getElem_mem hne)
 have hrb:RtN xb:=by rw [<-hxb];exact hrt _ (List.getElem_mem _)
 have hhead:(pa.map λp=>hd n p.1).headD ⟨0,v0I,0,⟨#[]⟩,0,Wt.r0,Wt.r0⟩=xa:=by
  rw [<-hxa];cases pa with
  | nil=>cases hne
  | cons a r=>rfl
 have hlast:(pa.map λp=>hd n p.1).getLastD ⟨0,v0I,0,⟨#[]⟩,0,Wt.r0,Wt.r0⟩=xb:=by
  rw [<-hxb,List.getLastD_eq_getLast?,List.getLast?_eq_getElem?,List.length_map,List.getElem?_map,List.getElem?_eq_getElem (by omega)];rfl
 obtain ⟨LF,hLF⟩:∃ LF,L++zAw own nm (hd n) (cod own nm n) id (ps.map (·.1)) L.length=LF:=⟨_,rfl⟩
 have hse:zAw own nm (hd n) (cod own nm n) id (ps.map (·.1)) L.length=(if id=26 then [zBU (zDF ((areaN own nm xa).b - (areaN own nm xa).t+1))] else if id=27 then [zBU (zDF ((areaN own nm xa).r - (areaN own nm xa).l+1))] else if id=25 then zAR (cod own nm n) (pv.map (·.1)) L.length++[zAa 11 (pv.length:Nat) (areaN own nm xa) a0I] else zFJ own nm n id (areaN own nm xa) (areaN own nm xb) (pv.map (·.1)) L.length):=by
  unfold zAw zFJ;simp only [hars,hvs,hhead,hlast,List.length_map]
 rw [hse] at hbd hLF;rw [hse,hLF];have h0B:∀ j,lv.ownBlock=some j->B<=j/\j<w.heap.size:=λj e=>zAK hws.own e
 have hst:∀ (W:World),Below w.heap.size w W->St own nm av2 m2 cap2 k B T hi w lv W L lv P:=λW hb=>(St.init hen hws).below hb
 have HST:Hid (∀ (W:World),Below w.heap.size w W->St own nm av2 m2 cap2 k B T hi w lv W L lv P):=hst;have HKS:Hid (k<w.heap.size):=by have:=hen.kB;have:=hen.hB;show _<_;omega
 have HLB:Hid (∀ j,lv.ownBlock=some j->j<w.heap.size):=λj e=>(h0B j e).2
 have AR:=λ(W:World) (h:RdS W av2 nm)=>zDR own nm av2 m2 cap2 xa W hra hen.hm hen.hl h
 have AL:=λ(W:World) (h:RdS W av2 nm)=>zDR own nm av2 m2 cap2 xb W hrb hen.hm hen.hl h
 have HSZ:Hid ((0<=(areaN own nm xa).b - (areaN own nm xa).t+1/\(areaN own nm xa).b - (areaN own nm xa).t+1<=65536)/\(0<=(areaN own nm xa).r - (areaN own nm xa).l+1/\(areaN own nm xa).r - (areaN own nm xa).l+1<=65536)):=zMA hra;have HSM:Hid (SmA (areaN own nm xa)):=zCx hra;have HAL:Hid (id=25->∀ (W:World) (av3:Option Addr) (c3:Nat),Below w.heap.size w W->RdQ W av3 (pv.map λp=>(hd n p.1,p.2))->(∀ bb off,av3=some ⟨bb,off,none⟩->w.heap.size<=bb/\bb<W.heap.size)->¬ id=26->¬ id=27->Calls prog 49 #[.pointer (some ⟨k,0,none⟩),.slice av3 pv.length c3] W (WP k B T (.int .i64 own) (.slice av2 m2 cap2) (L++zAR (cod own nm n) (pv.map (·.1)) L.length) lv W)/\(L++zAR (cod own nm n) (pv.map (·.1)) L.length)++[zAa 11 (pv.length:Nat) (areaN own nm xa) a0I]=LF/\(L++zAR (cod own nm n) (pv.map (·.1)) L.length).length<=900000):=λh25 W av3 c3 hb hr3 hv3 n26 n27=>by
  rw [if_neg n26,if_neg n27,if_pos h25] at hbd hLF;simp only [List.length_append,List.length_cons,List.length_nil] at hbd;have st:=hst W hb;refine ⟨al pv av3 pv.length c3 lo hi k B T W L lv P rfl hlV (λp hp=>⟨(hwq p (hmV p hp).1).1,(hwq p (hmV p hp).1).2,(hmV p hp).2⟩) (λp hp=>PA.kept (Kept.of_below hb) n _ _ (hpap p (hmV p hp).1)) hr3 (λ_ bb off e j ej=>by have:=hv3 bb off e;have:=(h0B j ej).2;omega) (λ_ bb off e=>⟨by have:=hv3 bb off e;have:=hen.kB;have:=hen.hB;omega,(hv3 bb off e).2⟩) st.en st.ws (by omega),by rw [<-hLF,List.append_assoc],by rw [List.length_append];omega⟩
 have HSR0:Hid (¬ id=26->¬ id=27->¬ id=25->∀ (W:World) (av3:Option Addr) (c3:Nat),Below w.heap.size w W->RdQ W av3 (pv.map λp=>(hd n p.1,p.2))->(∀ bb off,av3=some ⟨bb,off,none⟩->w.heap.size<=bb/\bb<W.heap.size)->Calls prog 125 #[.pointer (some ⟨k,0,none⟩),.int .i64 id,.agg (ar5 (areaN own nm xa)).toArray,.agg (ar5 (areaN own nm xb)).toArray,.slice av3 pv.length c3] W (WP k B T (.int .i64 own) (.slice av2 m2 cap2) LF lv W)):=λn26 n27 n25 W av3 c3 hb hr3 hv3=>by
  rw [if_neg n26,if_neg n27,if_neg n25] at hbd hLF;have st:=hst W hb;have:=sr id (areaN own nm xa) (areaN own nm xb) pv av3 pv.length c3 lo hi k B T W L lv P rfl hlV (λp hp=>⟨(hwq p (hmV p hp).1).1,(hwq p (hmV p hp).1).2,(hmV p hp).2⟩) (λp hp=>PA.kept (Kept.of_below hb) n _ _ (hpap p (hmV p hp).1)) hr3 (λbb off e j ej=>by have:=hv3 bb off e;have:=(h0B j ej).2;omega) (λbb off e=>⟨by have:=hv3 bb off e;have:=hen.kB;have:=hen.hB;omega,(hv3 bb off e).2⟩) st.en st.ws hbd;rw [hLF] at this;exact this
 have HPS:Hid (¬ (id=26/\id=27)/\(id=26->L++[zBU (zDF ((areaN own nm xa).b - (areaN own nm xa).t+1))]=LF)/\(id=27->L++[zBU (zDF ((areaN own nm xa).r - (areaN own nm xa).l+1))]=LF)/\L.length<=900000):=⟨λh=>by omega,λh=>by rw [if_pos h] at hLF;exact hLF,λh=>by rw [if_neg (by omega),if_pos h] at hLF;exact hLF,by omega⟩
 obtain ⟨na,hna⟩:∃ na,pa.length=na:=⟨_,rfl⟩
 have H0:Hid (0<na/\na<=30):=by rw [hna] at hne hlA;exact ⟨hne,hlA⟩
 have HXA:Hid (∀ (i:Nat) (h:i<pa.length) (h2:i<(pa.map λp=>(hd n p.1,p.2)).length),((pa.map λp=>(hd n p.1,p.2))[i]).1=hd n (pa[i]).1):=λi h h2=>by rw [List.getElem_map]
 have HX0:Hid (∀ h:0<pa.length,hd n (pa[0]).1=xa):=λ_=>hxa
 have HX1:Hid (∀ h:pa.length - 1<pa.length,hd n (pa[pa.length - 1]).1=xb):=λ_=>hxb
 have HNA:Hid (pa.length=na):=hna;generalize areaN own nm xa=xr at *;generalize areaN own nm xb=xs at *;obtain ⟨nv,hnv⟩:∃ nv,pv.length=nv:=⟨_,rfl⟩
 have HNV:Hid (pv.length=nv):=hnv;clear hvs hars hmA hmV hlA hlV hxa hxb hrt hra hrb hhead hlast hse hbd hLF h0B hst hm hl hwq hpap hrd hen hws ih al sr hpA hpV hne hna hnv;go_enter func83,ntmps83;go_wp2_with fail
 refine AP.mono ?_;rintro e w1 ⟨⟨va,vb,rfl,owa,owb⟩,hb1⟩;obtain ⟨avb,cvb,rfl,rdb,hvb⟩:=owb.rdq;rcases OwnP.cases owa with ⟨_,e0⟩ | ⟨ga,cga,rfl,hga1,hga2,hra⟩
 ·have h9:=HNA.out;have:=H0.out.1;rw [List.map_eq_nil_iff] at e0;rw [e0] at h9;simp at h9;omega
 rw [List.length_map,HNA.out];rw [List.length_map,HNV.out];have ra0:w1.rangeAt ga 0 (zAG xa):=by
  have hlt:0<pa.length:=by have:=HNA.out;have:=H0.out;omega
  have:=zCZ (hra 0 (by rw [List.length_map];exact hlt));rw [HXA.out 0 hlt,HX0.out hlt,Nat.zero_mul] at this;exact this
 have HRB:Hid (w1.rangeAt ga ((na - 1) * 21) (zAG xb)):=by
  have hlt:pa.length - 1<pa.length:=by have:=HNA.out;have:=H0.out;omega
  have:=zCZ (hra (pa.length - 1) (by rw [List.length_map];exact hlt));rw [HXA.out _ hlt,HX1.out hlt,HNA.out] at this;exact this
 have HS1:Hid (St own nm av2 m2 cap2 k B T hi w lv w1 L lv P):=HST.out w1 hb1;have HVB:Hid (RdQ w1 avb (pv.map λp=>(hd n p.1,p.2))/\∀ bb off,avb=some ⟨bb,off,none⟩->w.heap.size<=bb/\bb<w1.heap.size):=⟨rdb,hvb⟩
 have HGA:Hid (ga<w1.heap.size/\w.heap.size<=ga):=⟨hga2,hga1⟩
 have HB1:Hid (Below w.heap.size w w1):=hb1;have hdr:=(Below.refl w1.heap.size w1).drew;have HSD:Hid (St own nm av2 m2 cap2 k B T hi w lv w1.drew L lv P):=HS1.out.below hdr;have HD1:Hid (Below w1.heap.size w1 w1.drew):=hdr;have HW1:Hid (w1.heap.size<=w1.drew.heap.size):=Nat.le_refl _;have rk:=zCD HSD.out.ws;have ra:w1.drew.rangeAt ga 0 (zAG xa):=ra0;have h0n:(0:Int)<(na:Int):=by have:=H0.out;omega
 clear AP owa owb rdb hvb hra ra0 hga1 hga2 hb1 HXA HX0 HX1 hdr;go_upto_region 1 with fail
 go_cut [8] (λs8 wx=>∃ ib,s8=.pointer (some ⟨ib,0,none⟩)/\ib ≠ k/\AtL wx ib (ar5 xr)/\ib<wx.heap.size/\w.heap.size<=ib/\Below w1.heap.size w1 wx)
 case first =>
  refine wp_region_held_drew (S:=λW=>W.rangeAt k 0 [.int .i64 own,.slice av2 m2 cap2]/\W.rangeAt ga 0 (zAG xa)) (by kernel_rfl) ⟨rk,ra⟩ (λhHeld=>?_);generalize w1.drew=WD at *;refine tkQ 0 ?_
  refine tkQ 1 ?_
  refine tkQ 2 ?_
  refine wpAnyH_take (i:=3) (v:=.agg ([.int .i64 own,.slice av2 m2 cap2]).toArray) (atQ rfl) (by kernel_rfl) (by kernel_rfl) (by kernel_rfl) (λ_ _ _ h=>h) (yieldsIf_load_mid (by rfl) 60 (.tmp 16) rfl (k) (0) rfl ([.int .i64 own,.slice av2 m2 cap2]) _ (λ_ h=>h.1) underlying60 rfl (by kernel_rfl)) (by assumption) ?_;try simp only [Act.put,lA,lZ,lS]
  refine tkQ 4 ?_
  refine wpAnyH_take (i:=5) (v:=?_) (atQ rfl) (by kernel_rfl) (by kernel_rfl) (by kernel_rfl) (λ_ _ _ h=>h) (Or.inl ⟨by rfl,?_⟩) (by assumption) ?_;rotate_left
  ·intro w hSw
   (try dsimp only at hSw)
   go_simp
   rw [if_pos (by have:=H0.out;omega)];try with_reducible rfl
  try simp only [Act.put,lA,lZ,lS]
  refine tkQ 6 ?_
  refine wpAnyH_take (i:=7) (v:=.agg (zAG xa).toArray) (atQ rfl) (by kernel_rfl) (by kernel_rfl) (by kernel_rfl) (λ_ _ _ h=>h) (yieldsIf_load_mid (by rfl) 35 (.tmp 20) rfl (ga) (0) rfl (zAG xa) _ (λ_ h=>h.2) underlying35 rfl (by kernel_rfl)) (by assumption) ?_;try simp only [Act.put,lA,lZ,lS]
  refine wpAnyH_ready (rs:=[8,9]) (by kernel_rfl) (by simp) ?_;refine AllReadyH.cons (atQ rfl) (λK hK=>?_) (AllReadyH.cons (atQ rfl) (λK hK=>?_) AllReadyH.nil)
  ·go_simp
   refine (AR WD HSD.out.en.rs).mono ?_;rintro e w2 ⟨rfl,hb2⟩;go_wp2_with fail
   replace rk:=zAF hb2 rk
   replace ra:=zAF hb2 ra
   refine hkQ hK ⟨rk,ra⟩ (λhHeld=>?_);clear hK K
   have hbz:=zAM (Below.refl _ w2) (.cells #[.int .i64 0,.int .i64 0,.int .i64 0,.int .i64 0,.int .i64 0] 53);have pZ:=AtL.new0 w2 53 [.int .i64 0,.int .i64 0,.int .i64 0,.int .i64 0,.int .i64 0];refine rdQ 9 (λK hK=>?_);go_simp
   refine hkQ hK ⟨zAF hbz rk,zAF hbz ra⟩ (λhHeld=>?_);clear hK K
   obtain ⟨k0,k1,k2,k3,k4,z0,z1,z2,z3,z4⟩:=pZ.five;have hbs:=zAM (Below.refl _ w2) (.cells (ar5 xr).toArray 53);refine rdQ 10 (λK hK=>?_);go_simp
   refine hkQ hK ⟨zAF hbs rk,zAF hbs ra⟩ (λhHeld=>?_);clear hK K
   refine wpAnyH_done (by kernel_rfl) ?_ _;have HN:Hid (∃ ib,Value.pointer (some ⟨w2.heap.size,0,none⟩)=.pointer (some ⟨ib,0,none⟩)/\ib ≠ k/\AtL (w2.alloc (.cells (ar5 xr).toArray 53)) ib (ar5 xr)/\ib<(w2.alloc (.cells (ar5 xr).toArray 53)).heap.size/\w.heap.size<=ib/\Below w1.heap.size w1 (w2.alloc (.cells (ar5 xr).toArray 53))):=⟨w2.heap.size,rfl,by have:=HKS.out;have:=HSD.out.fr.size;have:=hb2.size;omega,AtL.new0 w2 _ _,(AtL.new0 w2 53 (ar5 xr)).lt,Nat.le_trans HSD.out.fr.size hb2.size,zAB (zAB HD1.out hb2) hbs⟩
   clear hHeld rk ra hbz hbs pZ k0 k1 k2 k3 k4 z0 z1 z2 z3 z4 hb2 HSD;go_wp2_with fail
   go_meet
   case rel =>
    go_light
    exact HN.out
  ·have hbz:=zAM (Below.refl _ WD) (.cells #[.int .i64 0,.int .i64 0,.int .i64 0,.int .i64 0,.int .i64 0] 53);have pZ:=AtL.new0 WD 53 [.int .i64 0,.int .i64 0,.int .i64 0,.int .i64 0,.int .i64 0];go_simp
   replace rk:=zAF hbz rk
   replace ra:=zAF hbz ra
   refine hkQ hK ⟨rk,ra⟩ (λhHeld=>?_);clear hK K
   have HSE:Hid (St own nm av2 m2 cap2 k B T hi w lv (WD.alloc (.cells #[.int .i64 0,.int .i64 0,.int .i64 0,.int .i64 0,.int .i64 0] 53)) L lv P):=HSD.out.below hbz;have HBZ:Hid (Below w1.heap.size w1 (WD.alloc (.cells #[.int .i64 0,.int .i64 0,.int .i64 0,.int .i64 0,.int .i64 0] 53))):=zAB HD1.out hbz;have HWS:Hid (w.heap.size<=WD.heap.size):=HSD.out.fr.size;clear hbz HSD;generalize (WD.alloc (.cells #[.int .i64 0,.int .i64 0,.int .i64 0,.int .i64 0,.int .i64 0] 53))=WE at *;obtain ⟨ib,hib⟩:∃ b,WD.heap.size=b:=⟨_,rfl⟩
   rw [hib] at pZ HWS HW1;simp only [hib];clear hib;refine rdQ 8 (λK hK=>?_);go_simp
   refine (AR WE HSE.out.en.rs).mono ?_;rintro e w2 ⟨rfl,hb2⟩;go_wp2_with fail
   replace rk:=zAF hb2 rk
   replace ra:=zAF hb2 ra
   refine hkQ hK ⟨rk,ra⟩ (λhHeld=>?_);clear hK K
   replace pZ:=AtL.below hb2 pZ
   obtain ⟨k0,k1,k2,k3,k4,z0,z1,z2,z3,z4⟩:=pZ.five;have fr5:Fr [ib] w2 (((((w2.setCell ⟨ib,0,none⟩ (.int .i64 xr.s)).setCell ⟨ib,1,none⟩ (.int .i64 xr.t)).setCell ⟨ib,2,none⟩ (.int .i64 xr.l)).setCell ⟨ib,3,none⟩ (.int .i64 xr.b)).setCell ⟨ib,4,none⟩ (.int .i64 xr.r)):=zNT;have pF:AtL (((((w2.setCell ⟨ib,0,none⟩ (.int .i64 xr.s)).setCell ⟨ib,1,none⟩ (.int .i64 xr.t)).setCell ⟨ib,2,none⟩ (.int .i64 xr.l)).setCell ⟨ib,3,none⟩ (.int .i64 xr.b)).setCell ⟨ib,4,none⟩ (.int .i64 xr.r)) ib (ar5 xr):=pZ.put5 _ _ _ _ _;have HBF:Hid (Below w1.heap.size w1 (((((w2.setCell ⟨ib,0,none⟩ (.int .i64 xr.s)).setCell ⟨ib,1,none⟩ (.int .i64 xr.t)).setCell ⟨ib,2,none⟩ (.int .i64 xr.l)).setCell ⟨ib,3,none⟩ (.int .i64 xr.b)).setCell ⟨ib,4,none⟩ (.int .i64 xr.r))):=zCT (zAB HBZ.out hb2) fr5 (λj hj=>by simp at hj;have:=HW1.out;omega);refine rdQ 10 (λK hK=>?_);go_simp
   refine hkQ hK ⟨fr5.range rk (by have:=HKS.out;have:=HWS.out;simp;omega),fr5.range ra (by have:=HGA.out;have:=HW1.out;simp;omega)⟩ (λhHeld=>?_);clear hK K
   refine wpAnyH_done (by kernel_rfl) ?_ _;have HN:Hid (∃ ib2,Value.pointer (some ⟨ib,0,none⟩)=.pointer (some ⟨ib2,0,none⟩)/\ib2 ≠ k/\AtL (((((w2.setCell ⟨ib,0,none⟩ (.int .i64 xr.s)).setCell ⟨ib,1,none⟩ (.int .i64 xr.t)).setCell ⟨ib,2,none⟩ (.int .i64 xr.l)).setCell ⟨ib,3,none⟩ (.int .i64 xr.b)).setCell ⟨ib,4,none⟩ (.int .i64 xr.r)) ib2 (ar5 xr)/\ib2<(((((w2.setCell ⟨ib,0,none⟩ (.int .i64 xr.s)).setCell ⟨ib,1,none⟩ (.int .i64 xr.t)).setCell ⟨ib,2,none⟩ (.int .i64 xr.l)).setCell ⟨ib,3,none⟩ (.int .i64 xr.b)).setCell ⟨ib,4,none⟩ (.int .i64 xr.r)).heap.size/\w.heap.size<=ib2/\Below w1.heap.size w1 (((((w2.setCell ⟨ib,0,none⟩ (.int .i64 xr.s)).setCell ⟨ib,1,none⟩ (.int .i64 xr.t)).setCell ⟨ib,2,none⟩ (.int .i64 xr.l)).setCell ⟨ib,3,none⟩ (.int .i64 xr.b)).setCell ⟨ib,4,none⟩ (.int .i64 xr.r))):=⟨ib,rfl,by have:=HKS.out;have:=HWS.out;omega,pF,pF.lt,HWS.out,HBF.out⟩
   clear hHeld rk ra pZ k0 k1 k2 k3 k4 z0 z1 z2 z3 z4 hb2 HSE HBZ HBF fr5 pF;generalize (((((w2.setCell ⟨ib,0,none⟩ (.int .i64 xr.s)).setCell ⟨ib,1,none⟩ (.int .i64 xr.t)).setCell ⟨ib,2,none⟩ (.int .i64 xr.l)).setCell ⟨ib,3,none⟩ (.int .i64 xr.b)).setCell ⟨ib,4,none⟩ (.int .i64 xr.r))=WF at *;go_wp2_with fail
   go_meet
   case rel =>
    go_light
    exact HN.out
 case rest =>
  obtain ⟨ib,rfl,hibk,hai,hibl,hibw,hbx⟩:=hcut;clear rk ra AR HSD HD1 HW1;have HX:Hid (Below w.heap.size w wc):=zAB HB1.out hbx;have HSX:Hid (St own nm av2 m2 cap2 k B T hi w lv wc L lv P):=HST.out wc HX.out;have hlt9:=hbx.size;have HVX:Hid (RdQ wc avb (pv.map λp=>(hd n p.1,p.2))/\∀ bb off,avb=some ⟨bb,off,none⟩->w.heap.size<=bb/\bb<wc.heap.size):=⟨HVB.out.1.below hbx,λbb off e=>⟨(HVB.out.2 bb off e).1,Nat.lt_of_lt_of_le (HVB.out.2 bb off e).2 hlt9⟩⟩
  have HNB:Hid (∀ b,b=ga \/ b=ib->b ∉ k::lv.ownBlock.toList):=λb hb hmm=>by
   have h1:=HGA.out;have h2:=HKS.out;rcases List.mem_cons.1 hmm with q | q
   ·rcases hb with rfl | rfl
    ·omega
    ·exact hibk q
   ·have:=HLB.out b (by simpa using q);rcases hb with rfl | rfl <;> omega
  obtain ⟨i0,i1,i2,i3,i4,_,_,_,_,_⟩:=hai.five;have ri0:=hai.range;by_cases h26:id=26
  ·subst h26;have RW:=zDB xr wc HSM.out;have HPC:Hid (∀ W,Below wc.heap.size wc W->Calls prog 122 #[.pointer (some ⟨k,0,none⟩),.int .i64 (xr.b - xr.t+1)] W (WP k B T (.int .i64 own) (.slice av2 m2 cap2) (L++[zBU (zDF (xr.b - xr.t+1))]) lv W)):=λW hb=>by
    have st:=HSX.out.below hb;exact zF4 k B T _ HSZ.out.1 _ _ L lv P W st.ws st.en.kB st.en.hB (by have:=HPS.out.2.2.2;omega)
   have HLE:=HPS.out.2.1 rfl;rw [HLE] at HPC;generalize xr.b - xr.t+1=rr at *;clear HLE HAL HSR0 AL HPS HSZ;go_wp2_with (first | (refine zAA (by rfl) 53 (.tmp 8) rfl ib 0 rfl (ar5 xr) _ ri0 underlying53 rfl (by kernel_rfl) ?_))
   refine RW.mono ?_;rintro e w4 ⟨rfl,hb4⟩;have PC:=HPC.out w4 hb4;have HS4:Hid (St own nm av2 m2 cap2 k B T hi w lv w4 L lv P):=HSX.out.below hb4;clear RW hb4 HPC;go_wp2_with fail
   refine PC.mono ?_;rintro e w5 ⟨⟨lv5,P5,rfl,ws5,nx5⟩,fr5⟩;have HR:Hid (WP k B T (.int .i64 own) (.slice av2 m2 cap2) LF lv w (.returned (.tuple #[])) w5):=(HS4.out.step fr5 nx5 ws5).wp;clear PC ws5 nx5 fr5 HS4;go_wp2;go_end0
   exact HR.out
  by_cases h27:id=27
  ·subst h27;have RW:=zCp xr wc HSM.out;have HPC:Hid (∀ W,Below wc.heap.size wc W->Calls prog 122 #[.pointer (some ⟨k,0,none⟩),.int .i64 (xr.r - xr.l+1)] W (WP k B T (.int .i64 own) (.slice av2 m2 cap2) (L++[zBU (zDF (xr.r - xr.l+1))]) lv W)):=λW hb=>by
    have st:=HSX.out.below hb;exact zF4 k B T _ HSZ.out.2 _ _ L lv P W st.ws st.en.kB st.en.hB (by have:=HPS.out.2.2.2;omega)
   have HLE:=HPS.out.2.2.1 rfl;rw [HLE] at HPC;generalize xr.r - xr.l+1=rr at *;clear HLE HAL HSR0 AL HPS HSZ;go_wp2_with (first | (refine zAA (by rfl) 53 (.tmp 8) rfl ib 0 rfl (ar5 xr) _ ri0 underlying53 rfl (by kernel_rfl) ?_))
   refine RW.mono ?_;rintro e w4 ⟨rfl,hb4⟩;have PC:=HPC.out w4 hb4;have HS4:Hid (St own nm av2 m2 cap2 k B T hi w lv w4 L lv P):=HSX.out.below hb4;clear RW hb4 HPC;go_wp2_with fail
   refine PC.mono ?_;rintro e w5 ⟨⟨lv5,P5,rfl,ws5,nx5⟩,fr5⟩;have HR:Hid (WP k B T (.int .i64 own) (.slice av2 m2 cap2) LF lv w (.returned (.tuple #[])) w5):=(HS4.out.step fr5 nx5 ws5).wp;clear PC ws5 nx5 fr5 HS4;go_wp2;go_end0
   exact HR.out
  by_cases h25:id=25
  ·subst h25;obtain ⟨AA,hL5,hl5⟩:=HAL.out rfl wc avb cvb HX.out HVX.out.1 HVX.out.2 h26 h27;rw [HNV.out] at AA hL5;have HL5:Hid ((L++zAR (cod own nm n) (pv.map (·.1)) L.length)++[zAa 11 (nv:Nat) xr a0I]=LF/\(L++zAR (cod own nm n) (pv.map (·.1)) L.length).length<=900000):=⟨hL5,hl5⟩
   clear hL5 hl5 HAL HSR0 AL HPS HSZ i0 i1 i2 i3 i4;generalize L++zAR (cod own nm n) (pv.map (·.1)) L.length=L4 at *;go_wp2_with fail
   refine AA.mono ?_;rintro e w4 ⟨⟨lv4,P4,rfl,ws4,nx4⟩,fr4⟩;have HS4:Hid (St own nm av2 m2 cap2 k B T hi w lv w4 L4 lv4 P4):=HSX.out.step fr4 nx4 ws4;have ri4:=fr4.range ri0 (HNB.out ib (Or.inr rfl));have LA:=zAp k B T (zAa 11 (nv:Nat) xr a0I).1 _ _ L4 lv4 P4 w4 ws4 HS4.out.en.kB HS4.out.en.hB (by have:=HL5.out.2;omega);clear AA ws4 nx4 fr4 ri0;go_wp2_with (first | (refine zAA (by rfl) 53 (.tmp 8) rfl ib 0 rfl (ar5 xr) _ ri4 underlying53 rfl (by kernel_rfl) ?_) | (refine zCl rfl (.tmp 59) (.tmp 61) rfl xr (nv:Int) rfl rfl ?_))
   refine LA.mono ?_;rintro e w5 ⟨⟨lv5,P5,rfl,ws5,nx5⟩,fr5⟩;have HR:Hid (WP k B T (.int .i64 own) (.slice av2 m2 cap2) LF lv w (.returned (.tuple #[])) w5):=by
    have:=(HS4.out.step fr5 nx5 ws5).wp;rw [<-HL5.out.1];exact this
   clear LA ws5 nx5 fr5 HS4;go_wp2;go_end0
   exact HR.out
  have HSR:Hid (∀ W,Below wc.heap.size wc W->Calls prog 125 #[.pointer (some ⟨k,0,none⟩),.int .i64 id,.agg (ar5 xr).toArray,.agg (ar5 xs).toArray,.slice avb nv cvb] W (WP k B T (.int .i64 own) (.slice av2 m2 cap2) LF lv W)):=λW hb=>by
   have:=HSR0.out h26 h27 h25 W avb cvb (zAB HX.out hb) (HVX.out.1.below hb) (λbb off e=>⟨(HVX.out.2 bb off e).1,Nat.lt_of_lt_of_le (HVX.out.2 bb off e).2 hb.size⟩);rw [HNV.out] at this;exact this
  have hdx:=(Below.refl wc.heap.size wc).drew;have HSD:Hid (St own nm av2 m2 cap2 k B T hi w lv wc.drew L lv P):=HSX.out.below hdx;have HXD:Hid (Below wc.heap.size wc wc.drew):=hdx;have rk:=zCD HSD.out.ws;have rb:wc.drew.rangeAt ga ((na - 1) * 21) (zAG xb):=zAF hdx (zAF hbx HRB.out);have ri:wc.drew.rangeAt ib 0 (ar5 xr):=ri0;have hk1:IntKind.i64.wrap ((na:Int) - 1)=((na - 1:Nat):Int):=by have:=H0.out;rw [IntKind.wrap_i64];omega
  have hk2:((na - 1:Nat):Int)<(na:Int):=by have:=H0.out;omega
  have hk3:(0:Int)<=((na - 1:Nat):Int):=by omega
  clear HAL HSR0 HPS HSZ i0 i1 i2 i3 i4 ri0 hdx;go_upto_region 3 with fail
  refine wp_region_held_drew (S:=λW=>W.rangeAt k 0 [.int .i64 own,.slice av2 m2 cap2]/\W.rangeAt ga ((na - 1) * 21) (zAG xb)/\W.rangeAt ib 0 (ar5 xr)) (by kernel_rfl) ⟨rk,rb,ri⟩ (λhHeld=>?_);generalize wc.drew=WD at *;refine tkQ 0 ?_
  refine tkQ 1 ?_
  refine wpAnyH_take (i:=2) (v:=.agg (ar5 xr).toArray) (atQ rfl) (by kernel_rfl) (by kernel_rfl) (by kernel_rfl) (λ_ _ _ h=>h) (yieldsIf_load_mid (by rfl) 53 (.tmp 8) rfl (ib) (0) rfl (ar5 xr) _ (λ_ h=>h.2.2) underlying53 rfl (by kernel_rfl)) (by assumption) ?_;try simp only [Act.put,lA,lZ,lS]
  refine tkQ 3 ?_
  refine tkQ 4 ?_
  refine tkQ 5 ?_
  refine wpAnyH_take (i:=6) (v:=.agg ([.int .i64 own,.slice av2 m2 cap2]).toArray) (atQ rfl) (by kernel_rfl) (by kernel_rfl) (by kernel_rfl) (λ_ _ _ h=>h) (yieldsIf_load_mid (by rfl) 60 (.tmp 29) rfl (k) (0) rfl ([.int .i64 own,.slice av2 m2 cap2]) _ (λ_ h=>h.1) underlying60 rfl (by kernel_rfl)) (by assumption) ?_;try simp only [Act.put,lA,lZ,lS]
  refine tkQ 7 ?_
  refine tkQ 8 ?_
  refine tkQ 9 ?_
  refine tkQ 10 ?_
  refine tkQ 11 ?_
  refine tkQ 12 ?_
  refine wpAnyH_take (i:=13) (v:=.agg (zAG xb).toArray) (atQ rfl) (by kernel_rfl) (by kernel_rfl) (by kernel_rfl) (λ_ _ _ h=>h) (yieldsIf_load_mid (by rfl) 35 (.tmp 36) rfl (ga) ((na - 1) * 21) rfl (zAG xb) _ (λ_ h=>h.2.1) underlying35 rfl (by kernel_rfl)) (by assumption) ?_;try simp only [Act.put,lA,lZ,lS]
  refine tkQ 15 ?_
  refine rdQ 14 (λK hK=>?_);go_simp
  refine (AL WD HSD.out.en.rs).mono ?_;rintro e w4 ⟨rfl,hb4⟩;go_wp2_with fail
  have SR:=HSR.out w4 (zAB HXD.out hb4);replace rk:=zAF hb4 rk
  replace rb:=zAF hb4 rb
  replace ri:=zAF hb4 ri
  refine hkQ hK ⟨rk,rb,ri⟩ (λhHeld=>?_);clear hK K
  have HB4:Hid (Below wc.heap.size wc w4):=zAB HXD.out hb4;refine rdQ 16 (λK hK=>?_);go_simp
  refine SR.mono ?_;rintro e w5 h5;obtain ⟨⟨lv5,P5,rfl,ws5,nx5⟩,fr5⟩:=h5;go_wp2_with fail
  have rk5:=zCD ws5;refine hkQ hK ⟨rk5,fr5.range rb (HNB.out ga (Or.inl rfl)),fr5.range ri (HNB.out ib (Or.inr rfl))⟩ (λhHeld=>?_);clear hK K
  refine wpAnyH_done (by kernel_rfl) ?_ _;have HR:Hid (WP k B T (.int .i64 own) (.slice av2 m2 cap2) LF lv w (.returned (.tuple #[])) w5):=((HSX.out.below HB4.out).step fr5 nx5 ws5).wp;clear hHeld rk rb ri rk5 SR ws5 nx5 fr5 HSX HSD HXD HB4 hb4 AL;go_wp2;go_end0
  exact HR.out
open Go.RowKit Wf
theorem zLu:(List.range 64).all (λk=>!zAb ((k:Nat):Int) || (let s:=zAJ ((k:Nat):Int);(s.c == 1 && (decide (1<=s.l))) || (s.c == 2 && (decide (20<=k) && decide (k<=27))) || (s.c == 3 && (s.p.data.toList == [118]) && ((k == 30) || (k == 31) || (k == 32)) && decide (2<=s.l)) || (s.c == 4 && (s.p.data.toList == [118]))))=true:=by kernel_rfl
theorem zGP (s:ByteArray) (h:zAb ((zA1 s:Nat):Int)=true):((zAJ ((zA1 s:Nat):Int)).c=1/\1<=(zAJ ((zA1 s:Nat):Int)).l) \/ ((zAJ ((zA1 s:Nat):Int)).c=2/\20<=zA1 s/\zA1 s<=27) \/ ((zAJ ((zA1 s:Nat):Int)).c=3/\(zAJ ((zA1 s:Nat):Int)).p.data.toList=[118]/\(zA1 s=30 \/ zA1 s=31 \/ zA1 s=32)/\2<=(zAJ ((zA1 s:Nat):Int)).l) \/ ((zAJ ((zA1 s:Nat):Int)).c=4/\(zAJ ((zA1 s:Nat):Int)).p.data.toList=[118]):=by
 have h1:=List.all_eq_true.1 zLu (zA1 s) (List.mem_range.2 (by have:=zIR s;omega));rw [h] at h1;simp only [Bool.not_true,Bool.false_or,Bool.or_eq_true,Bool.and_eq_true,beq_iff_eq,decide_eq_true_eq] at h1;rcases h1 with ((h1 | h1) | h1) | h1
 ·exact Or.inl h1
 ·exact Or.inr (Or.inl ⟨h1.1,h1.2.1,h1.2.2⟩)
 ·refine Or.inr (Or.inr (Or.inl ⟨h1.1.1.1,h1.1.1.2,?_,h1.2⟩));rcases h1.1.2 with (q | q) | q
  ·exact Or.inl q
  ·exact Or.inr (Or.inl q)
  ·exact Or.inr (Or.inr q)
 ·exact Or.inr (Or.inr (Or.inr h1))
theorem zCi:∀ (l:List Wt.Nd) (i:Nat),zA0 [118] l i=true->∀ x ∈ l,isA x=false
 | [],i,h,x,hx=>by cases hx
 | y::r,i,h,x,hx=>by
  have e0:min i ([118]:List UInt8).length.pred=0:=by simp
  unfold zA0 at h;have e1:([118]:List UInt8).getD (min i (([118]:List UInt8).length - 1)) 0=118:=by simp
  rw [e1] at h;cases hy:isA y with
  | true=>rw [hy] at h;simp at h
  | false =>
   rw [hy] at h;simp at h;rcases List.mem_cons.1 hx with rfl | hx
   ·exact hy
   ·exact zCi r (i+1) h x hx
theorem zHc:∀ (p:List UInt8) (l:List Wt.Nd) (i j:Nat) (hj:j<l.length),zA0 p l i=true->p.getD (min (i+j) (p.length - 1)) 0=97->isA l[j]=true
 | p,[],i,j,hj,h,e=>by cases hj
 | p,y::r,i,0,hj,h,e=>by
  unfold zA0 at h;rw [Nat.add_zero] at e;rw [e] at h;cases hy:isA y with
  | true=>simpa using hy
  | false=>rw [hy] at h;simp at h
 | p,y::r,i,j+1,hj,h,e=>by
  unfold zA0 at h;split at h
  ·cases h
  ·have:=zHc p r (i+1) j (by simpa using hj) h (by rw [show i+1+j=i+(j+1) from by omega];exact e);simpa using this
theorem zKV:(List.range 8).all (λq=>let s:=zAJ ((20+q:Nat):Int);let p:=s.p.data.toList;(List.range 3).any (λj=>decide ((j:Int)<s.l) && (p.getD (min j (p.length - 1)) 0 == 97)))=true:=by kernel_rfl
theorem zH5 {id:Nat} (h1:20<=id) (h2:id<=27) {ks:List Wt.Nd} (hl:(zAJ ((id:Nat):Int)).l<=(ks.length:Int)) (ht:zA0 (zAJ ((id:Nat):Int)).p.data.toList ks 0=true):0<(ks.filter isA).length:=by
 have h3:=List.all_eq_true.1 zKV (id - 20) (List.mem_range.2 (by omega));simp only [show 20+(id - 20)=id from by omega] at h3;obtain ⟨j,hj,h4⟩:=List.any_eq_true.1 h3;simp only [Bool.and_eq_true,decide_eq_true_eq,beq_iff_eq] at h4;have hjl:j<ks.length:=by omega
 have:=zHc _ ks 0 j hjl ht (by rw [Nat.zero_add];exact h4.2);exact List.length_pos_of_mem (List.mem_filter.2 ⟨List.getElem_mem hjl,this⟩)
theorem zBW:∀ {l:List Int},zBz l=0->∀ a ∈ l,a=0
 | [],h,a,ha=>by cases ha
 | b::r,h,a,ha=>by
  unfold zBz at h;by_cases hb:b=0
  ·rw [if_pos hb] at h;rcases List.mem_cons.1 ha with rfl | ha
   ·exact hb
   ·exact zBW h a ha
  ·rw [if_neg hb] at h;exact absurd h hb
theorem zCM {ks:List Wt.Nd} (h:zDC x ks=0):zAb ((zA1 x.nm:Nat):Int)=true/\(zAJ ((zA1 x.nm:Nat):Int)).l<=x.ar/\zA0 (zAJ ((zA1 x.nm:Nat):Int)).p.data.toList ks 0=true:=by
 unfold zDC at h;simp only at h;split at h
 ·omega
 ·rename_i hk
  split at h
  ·omega
  ·rename_i ha
   split at h
   ·omega
   ·rename_i ht
    exact ⟨by simpa using hk,by omega,by simpa using ht⟩
section
variable (own:Int) (nm:List ByteArray) (av2:Option Addr) (m2 cap2:Nat)
def CaC (n:Nat):Prop:=∀ (x:Wt.Nd) (ks:List (Tr n)) (sl:Value) (lo hi k B:Nat) (T:Nat->Nat) (w:World) (L:List I) (lv:Value) (P:List (Wc.In × Value)),x.k=6->zAz (n+1) (⟨x,ks⟩:Br (Tr n))->zBB own nm (n+1) (⟨x,ks⟩:Br (Tr n))=0->PA (n+1) lo hi w (⟨x,ks⟩:Br (Tr n)) sl->En own nm av2 m2 cap2 k B T hi w->WS k B T w (.int .i64 own) (.slice av2 m2 cap2) L lv P->L.length+(zAg own nm (hd n) (cod own nm n) x ks L.length).length<=900000 ->
 Calls prog 50 #[.pointer (some ⟨k,0,none⟩),.agg (zAN x sl).toArray] w (WP k B T (.int .i64 own) (.slice av2 m2 cap2) (L++zAg own nm (hd n) (cod own nm n) x ks L.length) lv w)
end
theorem zNV (own:Int) (nm:List ByteArray) (av2:Option Addr) (m2 cap2 n:Nat) (ih:PtC own nm av2 m2 cap2 n) (hpos:∀ (t:Tr n) (a:Nat),Wr own nm n t->0<(cod own nm n t a).length):CaC own nm av2 m2 cap2 n:=by
 intro x ks sl lo hi k B T w L lv P h6 hF hR hP hen hws hbd;have al:=zFs own nm av2 m2 cap2 n ih;have fo:=zM2 own nm av2 m2 cap2 n ih;have sk:=zMU own nm av2 m2 cap2 n ih;have lz:=zM0 own nm av2 m2 cap2 n ih hpos;obtain ⟨hx,hp,hks⟩:=hF;replace hx:Wt.right x=true:=hx
 replace hp:Wt.parts x=(ks.length:Int):=hp
 replace hks:∀ k ∈ ks,zAz n k:=hks
 have hzz:∀ a ∈ zB2 own nm x (ks.map (hd n))::ks.map (zBB own nm n),a=0:=zBW hR;have hrn:zB2 own nm x (ks.map (hd n))=0:=hzz _ (List.mem_cons_self ..);have hrk:∀ t ∈ ks,zBB own nm n t=0:=λt ht=>hzz _ (List.mem_cons_of_mem _ (List.mem_map.2 ⟨t,ht,rfl⟩))
 have hrc:zDC x (ks.map (hd n))=0:=by
  unfold zB2 at hrn;rw [if_neg (by omega),if_neg (by omega),if_pos h6] at hrn;exact hrn
 obtain ⟨hkn,har,htk⟩:=zCM hrc;have hpa:x.ar=(ks.length:Int):=by
  rw [<-hp];unfold Wt.parts;rw [if_neg (by omega),if_neg (by omega)]
 obtain ⟨av,cap,ps,q1,rfl,q2c,q3,q4⟩:=hP;replace q1:ps.map (·.1)=ks:=q1
 have hlen:ps.length=ks.length:=by rw [<-q1,List.length_map]
 have hl30:ps.length<=30:=by have:=(Wt.parts_le hx).2;omega
 have hwq:∀ p ∈ ps,Wq own nm n p.1:=λp hpp=>by
  have hm:p.1 ∈ ks:=by rw [<-q1];exact List.mem_map.2 ⟨p,hpp,rfl⟩
  exact ⟨hks _ hm,hrk _ hm⟩
 have hav:0<ps.length->∀ bb off,av=some ⟨bb,off,none⟩->bb<hi:=λh0 bb off e=>by
  obtain ⟨b9,o9,_,h9,e9,_⟩:=q3 0 h0;rw [e] at e9;cases e9
  exact h9
 have hvv:(zAJ ((zA1 x.nm:Nat):Int)).p.data.toList=[118]->∀ p ∈ ps,Wr own nm n p.1:=λhv p hpp=>by
  rw [hv] at htk;have hm:p.1 ∈ ks:=by rw [<-q1];exact List.mem_map.2 ⟨p,hpp,rfl⟩
  exact ⟨(hwq p hpp).1,(hwq p hpp).2,zCi _ _ htk _ (List.mem_map.2 ⟨p.1,hm,rfl⟩)⟩
 have h0B:∀ j,lv.ownBlock=some j->B<=j:=λj e=>(zAK hws.own e).1
 obtain ⟨LF,hLF⟩:∃ LF,L++zAg own nm (hd n) (cod own nm n) x ks L.length=LF:=⟨_,rfl⟩
 rw [hLF];rw [<-q1] at hLF hbd;obtain ⟨id,hid⟩:∃ id,((zA1 x.nm:Nat):Int)=id:=⟨_,rfl⟩
 have hcl:=zGP x.nm hkn;have hsar:=λ(h1:20<=zA1 x.nm) (h2:zA1 x.nm<=27)=>zH5 h1 h2 (ks:=ks.map (hd n)) (by rw [List.length_map,<-hpa];exact har) htk
 have hfil:((ks.map (hd n)).filter isA).length=(ps.filter λp=>isA (hd n p.1)).length:=by
  rw [<-q1,List.map_map,List.filter_map,List.length_map];rfl
 have hSt:∀ W:World,Below w.heap.size w W->St own nm av2 m2 cap2 k B T hi w lv W L lv P:=λW hb=>(St.init hen hws).below hb
 have hkp:∀ W:World,Below w.heap.size w W->∀ p ∈ ps,PA n lo hi W p.1 p.2:=λW hb p hpp=>PA.kept (Kept.of_below hb) n _ _ (q4 p hpp)
 have hca:zAg own nm (hd n) (cod own nm n) x (ps.map (·.1)) L.length=(if (zAJ id).c=4 then zAR (cod own nm n) (ps.map (·.1)) L.length++[ins 5 id x.ar] else if (zAJ id).c=1 then zFF own nm n id (ps.map (·.1)) L.length else if (zAJ id).c=2 then zAw own nm (hd n) (cod own nm n) id (ps.map (·.1)) L.length else zAr (cod own nm n) id (ps.map (·.1)) L.length):=by
  unfold zAg zFF;simp only [hid]
 rw [hca] at hLF hbd;have H4:Hid ((zAJ id).c=4->(zAJ id).p.data.toList=[118]->∀ W,Below w.heap.size w W->Calls prog 49 #[.pointer (some ⟨k,0,none⟩),.slice av ps.length cap] W (WP k B T (.int .i64 own) (.slice av2 m2 cap2) (L++zAR (cod own nm n) (ps.map (·.1)) L.length) lv W)/\(L++zAR (cod own nm n) (ps.map (·.1)) L.length)++[ins 5 id x.ar]=LF/\(L++zAR (cod own nm n) (ps.map (·.1)) L.length).length<=900000):=λh4 hv W hb=>by
  rw [if_pos h4] at hLF hbd;simp only [List.length_append,List.length_cons,List.length_nil] at hbd;have st:=hSt W hb;refine ⟨al ps av ps.length cap lo hi k B T W L lv P rfl hl30 (hvv (by rw [hid];exact hv)) (hkp W hb) (q3.q.below hb) (λh0 bb off e j ej=>by have:=hav h0 bb off e;have:=h0B j ej;have:=hen.hk;have:=hen.kB;omega) (λh0 bb off e=>by have:=hav h0 bb off e;have:=hen.hk;have:=hen.kB;have:=st.en.hB;omega) st.en st.ws (by omega),by rw [<-hLF,List.append_assoc],by rw [List.length_append];omega⟩
 have H1:Hid ((zAJ id).c=1->0<ps.length->∀ W,Below w.heap.size w W->Calls prog 82 #[.pointer (some ⟨k,0,none⟩),.int .i64 id,.slice av ps.length cap] W (WP k B T (.int .i64 own) (.slice av2 m2 cap2) LF lv W)):=λh1 h0 W hb=>by
  rw [if_neg (by omega),if_pos h1] at hLF hbd;have st:=hSt W hb;have:=fo id ps av ps.length cap lo hi k B T W L lv P rfl hl30 hwq (hkp W hb) (q3.q.below hb) (hav h0) st.en st.ws hbd;rw [hLF] at this;exact this
 have H2:Hid ((zAJ id).c=2->0<(ps.filter λp=>isA (hd n p.1)).length->∀ W,Below w.heap.size w W->Calls prog 83 #[.pointer (some ⟨k,0,none⟩),.int .i64 id,.slice av ps.length cap] W (WP k B T (.int .i64 own) (.slice av2 m2 cap2) LF lv W)):=λh2 h0 W hb=>by
  rw [if_neg (by omega),if_neg (by omega),if_pos h2] at hLF hbd;have st:=hSt W hb;have:=sk id ps av ps.length cap lo hi k B T W L lv P rfl hl30 hwq h0 (hkp W hb) (q3.q.below hb) st.en st.ws hbd;rw [hLF] at this;exact this
 have H3:Hid ((zAJ id).c=3->(zAJ id).p.data.toList=[118]->(id=30 \/ id=31 \/ id=32)->2<=ps.length->∀ W,Below w.heap.size w W->Calls prog 84 #[.pointer (some ⟨k,0,none⟩),.int .i64 id,.slice av ps.length cap] W (WP k B T (.int .i64 own) (.slice av2 m2 cap2) LF lv W)):=λh3 hv hi3 h0 W hb=>by
  rw [if_neg (by omega),if_neg (by omega),if_neg (by omega)] at hLF hbd;have st:=hSt W hb;have:=lz id ps av ps.length cap lo hi k B T W L lv P hi3 rfl q2c h0 hl30 (hvv (by rw [hid];exact hv)) (hkp W hb) (q3.q.below hb) (hav (by omega)) st.en st.ws hbd;rw [hLF] at this;exact this
 have HCL:Hid (((zAJ id).c=1/\0<ps.length) \/ ((zAJ id).c=2/\0<(ps.filter λp=>isA (hd n p.1)).length) \/ ((zAJ id).c=3/\(zAJ id).p.data.toList=[118]/\(id=30 \/ id=31 \/ id=32)/\2<=ps.length) \/ ((zAJ id).c=4/\(zAJ id).p.data.toList=[118])):=by
  rw [hid] at hcl har;rcases hcl with h | h | h | h
  ·exact Or.inl ⟨h.1,by omega⟩
  ·exact Or.inr (Or.inl ⟨h.1,by rw [<-hfil];exact hsar h.2.1 h.2.2⟩)
  ·exact Or.inr (Or.inr (Or.inl ⟨h.1,h.2.1,by omega,by omega⟩))
  ·exact Or.inr (Or.inr (Or.inr h))
 have hb0:=zAM (Below.refl _ w) (.cells (zAN x (.slice av ps.length cap)).toArray 64);have pP:=AtL.new0 w 64 (zAN x (.slice av ps.length cap));have OF:=zFZ x.nm _ (hen.na.below hb0);unfold zCs at OF;rw [hkn,if_pos rfl,hid] at OF;have HST:Hid (∀ W:World,Below w.heap.size w W->St own nm av2 m2 cap2 k B T hi w lv W L lv P):=hSt;have HKW:Hid (k<w.heap.size/\∀ j,lv.ownBlock=some j->j<w.heap.size):=⟨by have:=hen.kB;have:=hen.hB;omega,λj e=>(zAK hws.own e).2⟩
 obtain ⟨np,hnp⟩:∃ np,ps.length=np:=⟨_,rfl⟩
 have HNP:Hid (ps.length=np):=hnp;rw [hnp] at pP OF hb0 H4 H1 H2 H3 ⊢;obtain ⟨sh,hsh⟩:∃ sh,zAJ id=sh:=⟨_,rfl⟩
 rw [hsh] at OF H4 H1 H2 H3 HCL;have c8:=pP.2.1 8 (.string x.nm) rfl;clear al fo sk lz hx hp hks hzz hrn hrk hrc hkn har htk hpa q1 hlen hl30 hwq hav hvv h0B hLF hcl hsar hfil hSt hkp hca hbd hnp hsh hid q2c q3 q4 hen hws ih hpos hR h6;have HB0:Hid (Below w.heap.size w (w.alloc (.cells (zAN x (.slice av np cap)).toArray 64))):=hb0;have HP0:Hid (AtL (w.alloc (.cells (zAN x (.slice av np cap)).toArray 64)) w.heap.size (zAN x (.slice av np cap))):=pP;clear hb0 pP;go_enter func50,ntmps50;go_upto_region 1 with fail
 generalize (w.alloc (.cells (zAN x (.slice av np cap)).toArray 64))=W at *;go_wp2_with fail
 refine OF.mono ?_;rintro e w1 ⟨rfl,hb1⟩;obtain ⟨nv,hnv⟩:∃ nv:ByteArray,(⟨(zE7 id).toArray⟩:ByteArray)=nv:=⟨_,rfl⟩
 rw [hnv];have hb2:=zAM (Below.refl _ w1) (.cells (sg6 id sh.c nv sh.l sh.m sh.p).toArray 108);have HS2:Hid (AtL (w1.alloc (.cells (sg6 id sh.c nv sh.l sh.m sh.p).toArray 108)) w1.heap.size (sg6 id sh.c nv sh.l sh.m sh.p)):=AtL.new0 w1 _ _;have HP2:Hid (AtL (w1.alloc (.cells (sg6 id sh.c nv sh.l sh.m sh.p).toArray 108)) w.heap.size (zAN x (.slice av np cap))):=AtL.below hb2 (AtL.below hb1 HP0.out);have HB2:Hid (Below w.heap.size w (w1.alloc (.cells (sg6 id sh.c nv sh.l sh.m sh.p).toArray 108))):=zAB (zAB HB0.out hb1) hb2;have HW1:Hid (w.heap.size<=w1.heap.size):=(zAB HB0.out hb1).size;clear OF c8 hb1 hb2 hnv HP0 HB0;go_upto_region 2 with fail
 generalize (w1.alloc (.cells (sg6 id sh.c nv sh.l sh.m sh.p).toArray 108))=W2 at *;obtain ⟨sb,hsb⟩:∃ b,w1.heap.size=b:=⟨_,rfl⟩
 rw [hsb] at HS2 HW1;simp only [hsb];clear hsb;obtain ⟨b0,b1,b2,b3,b4,b5,_,_,_,_,_,_⟩:=at6 HS2.out;have p20:=HP2.out.2.1 20 (.slice av np cap) rfl;have p9:=HP2.out.2.1 9 (.int .i64 x.ar) rfl;have HST2:Hid (St own nm av2 m2 cap2 k B T hi w lv W2 L lv P):=HST.out W2 HB2.out;rcases HCL.out with ⟨h1,h0⟩ | ⟨h2,h0⟩ | ⟨h3,hv,hi3,h0⟩ | ⟨h4,hv⟩
 ·rw [h1] at b1;rw [HNP.out] at h0;have FO:=H1.out h1 h0 W2 HB2.out;clear H1 H2 H3 H4 HCL b2 b3 b4 b5 p9 h1 h0;go_wp2_with fail
  refine FO.mono ?_;rintro e w3 ⟨⟨lv3,P3,rfl,ws3,nx3⟩,fr3⟩;have HR:Hid (WP k B T (.int .i64 own) (.slice av2 m2 cap2) LF lv w (.returned (.tuple #[])) w3):=(HST2.out.step fr3 nx3 ws3).wp;clear FO ws3 nx3 fr3 HST2;go_wp2;go_end0
  exact HR.out
 ·rw [h2] at b1;have FO:=H2.out h2 h0 W2 HB2.out;clear H1 H2 H3 H4 HCL b2 b3 b4 b5 p9 h2 h0;go_wp2_with fail
  refine FO.mono ?_;rintro e w3 ⟨⟨lv3,P3,rfl,ws3,nx3⟩,fr3⟩;have HR:Hid (WP k B T (.int .i64 own) (.slice av2 m2 cap2) LF lv w (.returned (.tuple #[])) w3):=(HST2.out.step fr3 nx3 ws3).wp;clear FO ws3 nx3 fr3 HST2;go_wp2;go_end0
  exact HR.out
 ·rw [h3] at b1;rw [HNP.out] at h0;have FO:=H3.out h3 hv hi3 h0 W2 HB2.out;clear H1 H2 H3 H4 HCL b2 b3 b4 b5 p9 h3 hv hi3 h0;go_wp2_with fail
  refine FO.mono ?_;rintro e w3 ⟨⟨lv3,P3,rfl,ws3,nx3⟩,fr3⟩;have HR:Hid (WP k B T (.int .i64 own) (.slice av2 m2 cap2) LF lv w (.returned (.tuple #[])) w3):=(HST2.out.step fr3 nx3 ws3).wp;clear FO ws3 nx3 fr3 HST2;go_wp2;go_end0
  exact HR.out
 ·rw [h4] at b1;obtain ⟨FO,hL4,hl4⟩:=H4.out h4 hv W2 HB2.out;have HL4:Hid ((L++zAR (cod own nm n) (ps.map (·.1)) L.length)++[ins 5 id x.ar]=LF/\(L++zAR (cod own nm n) (ps.map (·.1)) L.length).length<=900000):=⟨hL4,hl4⟩
  clear H1 H2 H3 H4 HCL b2 b3 b4 b5 h4 hv hL4 hl4;generalize L++zAR (cod own nm n) (ps.map (·.1)) L.length=L4 at *;go_wp2_with fail
  refine FO.mono ?_;rintro e w3 ⟨⟨lv3,P3,rfl,ws3,nx3⟩,fr3⟩;have HS3:Hid (St own nm av2 m2 cap2 k B T hi w lv w3 L4 lv3 P3):=HST2.out.step fr3 nx3 ws3;have hnp:∀ b,w.heap.size<=b->b ∉ k::lv.ownBlock.toList:=λb hb hm=>by
   have h9:=HKW.out;rcases List.mem_cons.1 hm with q | q
   ·omega
   ·have:=h9.2 b (by simpa using q);omega
  have d0:=fr3.cell b0 (hnp _ HW1.out);have d9:=fr3.cell p9 (hnp _ (Nat.le_refl _));have LA:=zAp k B T (ins 5 id x.ar).1 _ _ L4 lv3 P3 w3 ws3 HS3.out.en.kB HS3.out.en.hB (by have:=HL4.out.2;omega);clear FO ws3 nx3 fr3 HST2 b0 b1 p9 p20 hnp;go_wp2_with (first | (refine zCo rfl 5 (.tmp 23) (.tmp 26) rfl id x.ar rfl rfl ?_))
  refine LA.mono ?_;rintro e w4 ⟨⟨lv4,P4,rfl,ws4,nx4⟩,fr4⟩;have HR:Hid (WP k B T (.int .i64 own) (.slice av2 m2 cap2) LF lv w (.returned (.tuple #[])) w4):=by
   have h9:=(HS3.out.step fr4 nx4 ws4).wp;rw [<-HL4.out.1];exact h9
  clear LA ws4 nx4 fr4 HS3;go_wp2;go_end0
  exact HR.out
open Go.RowKit Wf
theorem zEY {op:Oper} {a:Act} (y:Operand) (ho:op.op=.build 56 #[(0,.const (.int .i64 2)),(4,y)]) (c:Wpl.Cl) (hy:a.eval y=.agg #[.int .i64 c.s,.int .i64 c.r,.int .i64 c.c]) (W:World):(execOp a.eval op).run prog W=.ok (.value (.agg (zAD (zIC c).1 zAH).toArray)) W:=by
 unfold execOp;have hv:a.eval (.const (.int .i64 2))=.int .i64 2:=rfl;simp only [ho,List.map_toArray,List.map_cons,List.map_nil,hv,hy,Sem.run_bind,Sem.run_pure,Result.andThen_ok,zPk]
theorem zNh (h:w.rangeAt k 0 (zAN x sl)):w.rangeAt k 1 (vl6 x.v):=λj v hv=>by
 have:=h (1+j) v (by
  match j,hv with
  | 0,hv=>exact hv
  | 1,hv=>exact hv
  | 2,hv=>exact hv
  | 3,hv=>exact hv
  | 4,hv=>exact hv
  | 5,hv=>exact hv
  | j+6,hv=>simp [vl6] at hv)
 rw [Nat.zero_add] at this;exact this
theorem zO1 (h:w.rangeAt k 0 (zAN x sl)):w.rangeAt k 10 (rf5 x.a):=λj v hv=>by
 have:=h (10+j) v (by
  match j,hv with
  | 0,hv=>exact hv
  | 1,hv=>exact hv
  | 2,hv=>exact hv
  | 3,hv=>exact hv
  | 4,hv=>exact hv
  | j+5,hv=>simp [rf5] at hv)
 rw [Nat.zero_add] at this;exact this
theorem zDY (h:Wt.right x=true):x.k=1 \/ x.k=2 \/ x.k=3 \/ x.k=4 \/ x.k=5 \/ x.k=6:=by
 unfold Wt.right at h;by_cases h1:x.k=1
 ·exact Or.inl h1
 by_cases h2:x.k=2
 ·exact Or.inr (Or.inl h2)
 by_cases h3:x.k=3
 ·exact Or.inr (Or.inr (Or.inl h3))
 by_cases h4:x.k=4
 ·exact Or.inr (Or.inr (Or.inr (Or.inl h4)))
 by_cases h5:x.k=5
 ·exact Or.inr (Or.inr (Or.inr (Or.inr (Or.inl h5))))
 by_cases h6:x.k=6
 ·exact Or.inr (Or.inr (Or.inr (Or.inr (Or.inr h6))))
 ·rw [if_neg h1,if_neg h2,if_neg h3,if_neg h4,if_neg h5,if_neg h6] at h;cases h
theorem zN3 (own:Int) (nm:List ByteArray):∀ (n:Nat) (t:Tr n) (a:Nat),Wr own nm n t->0<(cod own nm n t a).length
 | 0,t,_,_=>Empty.elim t
 | n+1,t,a,h=>by
  obtain ⟨x,ks⟩:Br (Tr n):=t;obtain ⟨hF,hR,hA⟩:=h;have hx:Wt.right x=true:=hF.1;have hp:Wt.parts x=(ks.length:Int):=hF.2.1;have hA':isA x=false:=hA;show 0<(zAh own nm (hd n) (cod own nm n) x ks a).length
  unfold zAh;rcases zDY hx with h | h | h | h | h | h
  ·rw [if_pos h];simp
  ·rw [if_neg (by omega),if_pos h];simp
  ·simp [isA,h] at hA'
  ·rw [if_neg (by omega),if_neg (by omega),if_pos h];simp
  ·rw [if_neg (by omega),if_neg (by omega),if_neg (by omega),if_pos h];simp
  ·rw [if_neg (by omega),if_neg (by omega),if_neg (by omega),if_neg (by omega),if_pos h];have hzz:∀ a ∈ zB2 own nm x (ks.map (hd n))::ks.map (zBB own nm n),a=0:=zBW hR;have hrn:zB2 own nm x (ks.map (hd n))=0:=hzz _ (List.mem_cons_self ..);have hrc:zDC x (ks.map (hd n))=0:=by
    unfold zB2 at hrn;rw [if_neg (by omega),if_neg (by omega),if_pos h] at hrn;exact hrn
   obtain ⟨hkn,har,htk⟩:=zCM hrc;have hpa:x.ar=(ks.length:Int):=by
    rw [<-hp];unfold Wt.parts;rw [if_neg (by omega),if_neg (by omega)]
   unfold zAg;simp only;rcases zGP x.nm hkn with h9 | h9 | h9 | h9
   ·rw [if_neg (by omega),if_pos h9.1];simp
   ·rw [if_neg (by omega),if_neg (by omega),if_pos h9.1];unfold zAw;simp only;repeat' split
    all_goals simp
   ·rw [if_neg (by omega),if_neg (by omega),if_neg (by omega)];have h2:2<=ks.length:=by omega
    match ks,h2 with
    | c::u::r,_ =>
     simp only [zAr,List.length_append];have:0<(if ((zA1 x.nm:Nat):Int)=30 then zC5 (cod own nm n) u r (a+(cod own nm n c a).length) else if ((zA1 x.nm:Nat):Int)=31 then ins 14 (a+(cod own nm n c a).length+1+(cod own nm n u (a+(cod own nm n c a).length+1)).length:Nat) 0::cod own nm n u (a+(cod own nm n c a).length+1) else zCW (cod own nm n) (u::r) (a+(cod own nm n c a).length)).length:=by
      split
      ·simp [zC5]
      ·split
       ·simp
       ·simp [zCW]
     omega
   ·rw [if_pos h9.1];simp
def PtT (own:Int) (nm:List ByteArray) (av2:Option Addr) (m2 cap2 n:Nat) (t:Tr n):Prop:=∀ (sl:Value) (lo hi k B:Nat) (T:Nat->Nat) (w:World) (L:List I) (lv:Value) (P:List (Wc.In × Value)),Wr own nm n t->PA n lo hi w t sl->En own nm av2 m2 cap2 k B T hi w->WS k B T w (.int .i64 own) (.slice av2 m2 cap2) L lv P->L.length+(cod own nm n t L.length).length<=900000 ->
 Calls prog 27 #[.pointer (some ⟨k,0,none⟩),.agg (zAN (hd n t) sl).toArray] w (WP k B T (.int .i64 own) (.slice av2 m2 cap2) (L++cod own nm n t L.length) lv w)
def PuC:Prop:=∀ (k B:Nat) (T:Nat->Nat) (v:Wt.Vl) (s0 s1:Value) (L:List I) (lv:Value) (P:List (Wc.In × Value)) (w:World),WS k B T w s0 s1 L lv P->k<B->B<=w.heap.size->L.length<=1000000 ->
 Calls prog 47 #[.pointer (some ⟨k,0,none⟩),.agg (vl6 v).toArray] w (WP k B T s0 s1 (L++[zBU v]) lv w)
theorem zFo (own:Int) (nm:List ByteArray) (av2:Option Addr) (m2 cap2 n:Nat) (t:Tr (n+1)) (al:(hd (n+1) t).k=4 \/ (hd (n+1) t).k=5->AlC own nm av2 m2 cap2 n) (ca:(hd (n+1) t).k=6->CaC own nm av2 m2 cap2 n) (pu:(hd (n+1) t).k=1->PuC):PtT own nm av2 m2 cap2 (n+1) t:=by
 intro sl lo hi k B T w L lv P hw hP hen hws hbd;obtain ⟨x,ks⟩:Br (Tr n):=t;replace al:x.k=4 \/ x.k=5->AlC own nm av2 m2 cap2 n:=al
 replace ca:x.k=6->CaC own nm av2 m2 cap2 n:=ca
 have HPU:Hid (x.k=1->PuC):=pu;obtain ⟨hF,hR,hA⟩:=hw;have hx:Wt.right x=true:=hF.1;have hp:Wt.parts x=(ks.length:Int):=hF.2.1;have hks:∀ k ∈ ks,zAz n k:=hF.2.2;have hA':isA x=false:=hA;have hhd:hd (n+1) (⟨x,ks⟩:Br (Tr n))=x:=rfl;have hcd:cod own nm (n+1) (⟨x,ks⟩:Br (Tr n)) L.length=zAh own nm (hd n) (cod own nm n) x ks L.length:=rfl;rw [hhd];rw [hcd] at hbd ⊢;have hzz:∀ a ∈ zB2 own nm x (ks.map (hd n))::ks.map (zBB own nm n),a=0:=zBW hR;have hrn:zB2 own nm x (ks.map (hd n))=0:=hzz _ (List.mem_cons_self ..);have hrk:∀ t ∈ ks,zBB own nm n t=0:=λt ht=>hzz _ (List.mem_cons_of_mem _ (List.mem_map.2 ⟨t,ht,rfl⟩))
 have hP0:=hP;obtain ⟨av,cap,ps,q1,rfl,q2c,q3,q4⟩:=hP;replace q1:ps.map (·.1)=ks:=q1
 have hlen:ps.length=ks.length:=by rw [<-q1,List.length_map]
 have hl30:ps.length<=30:=by have:=(Wt.parts_le hx).2;omega
 have hav:0<ps.length->∀ bb off,av=some ⟨bb,off,none⟩->bb<hi:=λh0 bb off e=>by
  obtain ⟨b9,o9,_,h9,e9,_⟩:=q3 0 h0;rw [e] at e9;cases e9
  exact h9
 have h0B:∀ j,lv.ownBlock=some j->B<=j:=λj e=>(zAK hws.own e).1
 obtain ⟨LF,hLF⟩:∃ LF,L++zAh own nm (hd n) (cod own nm n) x ks L.length=LF:=⟨_,rfl⟩
 rw [hLF];have hb0:=zAM (Below.refl _ w) (.cells (zAN x (.slice av ps.length cap)).toArray 64);have pP:=AtL.new0 w 64 (zAN x (.slice av ps.length cap));have st0:=(St.init hen hws).below hb0;have HST:Hid (St own nm av2 m2 cap2 k B T hi w lv (w.alloc (.cells (zAN x (.slice av ps.length cap)).toArray 64)) L lv P):=st0;have HNW:Hid (w.heap.size ∉ k::lv.ownBlock.toList):=λhm=>by
  have:=hen.kB;have:=hen.hB;rcases List.mem_cons.1 hm with q | q
  ·omega
  ·have:=(zAK hws.own (show lv.ownBlock=some w.heap.size by simpa using q)).2;omega
 have HLF:Hid (L++zAh own nm (hd n) (cod own nm n) x ks L.length=LF):=hLF;have HBL:Hid (L.length<=1000000):=by show _<=_;omega
 have HMN:Hid (m2=nm.length/\nm.length<=16):=⟨hen.hm,hen.hl⟩
 have hAL:(x.k=4 \/ x.k=5)->L.length+(zAR (cod own nm n) ks L.length).length<=900000->Calls prog 49 #[.pointer (some ⟨k,0,none⟩),.slice av ps.length cap] (w.alloc (.cells (zAN x (.slice av ps.length cap)).toArray 64)) (WP k B T (.int .i64 own) (.slice av2 m2 cap2) (L++zAR (cod own nm n) ks L.length) lv (w.alloc (.cells (zAN x (.slice av ps.length cap)).toArray 64))):=λh45 hb9=>by
  have hany:(ks.map (hd n)).any isA=false:=by
   unfold zB2 at hrn;rw [if_neg (by omega),if_pos h45] at hrn;cases hq:(ks.map (hd n)).any isA with
   | false=>rfl
   | true=>rw [hq] at hrn;simp at hrn
  have hwr:∀ p ∈ ps,Wr own nm n p.1:=λp hpp=>by
   have hm:p.1 ∈ ks:=by rw [<-q1];exact List.mem_map.2 ⟨p,hpp,rfl⟩
   refine ⟨hks _ hm,hrk _ hm,?_⟩;have:=List.any_eq_false.1 hany (hd n p.1) (List.mem_map.2 ⟨p.1,hm,rfl⟩);simpa using this
  have:=al h45 ps av ps.length cap lo hi k B T _ L lv P rfl hl30 hwr (λp hpp=>PA.kept (Kept.of_below hb0) n _ _ (q4 p hpp)) (q3.q.below hb0) (λh0 bb off e j ej=>by have:=hav h0 bb off e;have:=h0B j ej;have:=hen.hk;have:=hen.kB;omega) (λh0 bb off e=>by have:=hav h0 bb off e;have:=hen.hk;have:=hen.kB;have:=st0.en.hB;omega) st0.en st0.ws (by rw [q1];exact hb9);rw [q1] at this;exact this
 have HCA:Hid (x.k=6->Calls prog 50 #[.pointer (some ⟨k,0,none⟩),.agg (zAN x (.slice av ps.length cap)).toArray] (w.alloc (.cells (zAN x (.slice av ps.length cap)).toArray 64)) (WP k B T (.int .i64 own) (.slice av2 m2 cap2) LF lv (w.alloc (.cells (zAN x (.slice av ps.length cap)).toArray 64)))):=λh6=>by
  have hn6:zAh own nm (hd n) (cod own nm n) x ks L.length=zAg own nm (hd n) (cod own nm n) x ks L.length:=by
   unfold zAh;rw [if_neg (by omega),if_neg (by omega),if_neg (by omega),if_neg (by omega),if_pos h6]
  rw [hn6] at hbd hLF;have:=ca h6 x ks (.slice av ps.length cap) lo hi k B T _ L lv P h6 hF hR (PA.kept (Kept.of_below hb0) (n+1) _ _ hP0) st0.en st0.ws hbd;rw [hLF] at this;exact this
 have hk:=zDY hx;have hk3:¬ x.k=3:=λh=>by simp [isA,h] at hA'
 obtain ⟨np,hnp⟩:∃ np,ps.length=np:=⟨_,rfl⟩
 rw [hnp] at pP hb0 HST HCA hAL ⊢;have c0:=pP.2.1 0 (.int .i64 x.k) rfl;have rP:=pP.range;have p20:=pP.2.1 20 (.slice av np cap) rfl;have p7:=pP.2.1 7 (.int .i64 x.op) rfl;clear al ca pu hF hR hA hx hp hks hA' hhd hcd hzz hrn hrk hP0 q1 q2c q3 q4 hlen hl30 hav h0B st0 hnp hen hws hb0 pP;rcases hk with h | h | h | h | h | h
 ·have hn1:zAh own nm (hd n) (cod own nm n) x ks L.length=[zBU x.v]:=by unfold zAh;rw [if_pos h]
  rw [hn1] at hLF;have HL1:Hid (L++[zBU x.v]=LF):=hLF;rw [h] at c0;have rv:=zNh rP;have PU:=HPU.out h k B T x.v _ _ L lv P _ HST.out.ws HST.out.en.kB HST.out.en.hB HBL.out;clear h hn1 hLF hAL HCA hk3 hbd p20 p7;go_enter func27,ntmps27;go_upto_region 1 with fail
  generalize (w.alloc (.cells (zAN x (.slice av np cap)).toArray 64))=W at *;go_wp2_with (first | (refine zAA (by rfl) 31 (.tmp 11) rfl w.heap.size 1 rfl (vl6 x.v) _ rv underlying31 rfl (by kernel_rfl) ?_))
  refine PU.mono ?_;rintro e w5 ⟨⟨lv5,P5,rfl,ws5,nx5⟩,fr5⟩;have HR:Hid (WP k B T (.int .i64 own) (.slice av2 m2 cap2) LF lv w (.returned (.tuple #[])) w5):=by
   have h9:=(HST.out.step fr5 nx5 ws5).wp;rw [<-HL1.out];exact h9
  clear PU ws5 nx5 fr5 HST rv rP c0;go_wp2;go_end0
  exact HR.out
 ·have hn1:zAh own nm (hd n) (cod own nm n) x ks L.length=[zIC (zDG own nm x)]:=by unfold zAh;rw [if_neg (by omega),if_pos h]
  rw [hn1] at HLF;rw [h] at c0;have ra0:=zO1 rP;have CE:=λ(W:World) (hr:RdS W av2 nm)=>zFL own nm av2 m2 cap2 x.a W HMN.out.1 HMN.out.2 hr
  clear h hn1 hLF hAL HCA hk3 hbd p20 p7;go_enter func27,ntmps27;go_upto_region 1 with fail
  generalize (w.alloc (.cells (zAN x (.slice av np cap)).toArray 64))=W at *;go_upto_region 5 with fail
  have hdr:=(Below.refl W.heap.size W).drew;have HSD:Hid (St own nm av2 m2 cap2 k B T hi w lv W.drew L lv P):=HST.out.below hdr;have rk:=zCD HSD.out.ws;have ra:W.drew.rangeAt w.heap.size 10 (rf5 x.a):=ra0;clear hdr HST rP ra0 c0;refine wp_region_held_drew (S:=λW=>W.rangeAt k 0 [.int .i64 own,.slice av2 m2 cap2]/\W.rangeAt w.heap.size 10 (rf5 x.a)) (by kernel_rfl) ⟨rk,ra⟩ (λhHeld=>?_);generalize W.drew=WD at *;refine tkQ 0 ?_
  refine tkQ 1 ?_
  refine tkQ 2 ?_
  refine tkQ 3 ?_
  refine wpAnyH_take (i:=4) (v:=.agg ([.int .i64 own,.slice av2 m2 cap2]).toArray) (atQ rfl) (by kernel_rfl) (by kernel_rfl) (by kernel_rfl) (λ_ _ _ h=>h) (yieldsIf_load_mid (by rfl) 60 (.tmp 19) rfl (k) (0) rfl ([.int .i64 own,.slice av2 m2 cap2]) _ (λ_ h=>h.1) underlying60 rfl (by kernel_rfl)) (by assumption) ?_;try simp only [Act.put,lA,lZ,lS]
  refine tkQ 5 ?_
  refine tkQ 6 ?_
  refine wpAnyH_take (i:=7) (v:=.agg (rf5 x.a).toArray) (atQ rfl) (by kernel_rfl) (by kernel_rfl) (by kernel_rfl) (λ_ _ _ h=>h) (yieldsIf_load_mid (by rfl) 33 (.tmp 22) rfl (w.heap.size) (10) rfl (rf5 x.a) _ (λ_ h=>h.2) underlying33 rfl (by kernel_rfl)) (by assumption) ?_;try simp only [Act.put,lA,lZ,lS]
  refine rdQ 8 (λK hK=>?_);go_simp
  refine (CE WD HSD.out.en.rs).mono ?_;rintro e w4 ⟨rfl,hb4⟩;go_wp2_with fail
  have HS4:Hid (St own nm av2 m2 cap2 k B T hi w lv w4 L lv P):=HSD.out.below hb4;replace rk:=zAF hb4 rk
  replace ra:=zAF hb4 ra
  refine hkQ hK ⟨rk,ra⟩ (λhHeld=>?_);clear hK K
  have LA:=zAp k B T (zIC (zDG own nm x)).1 _ _ L lv P w4 HS4.out.ws HS4.out.en.kB HS4.out.en.hB HBL.out;refine wpAnyH_take (i:=9) (v:=.agg (zAD (zIC (zDG own nm x)).1 zAH).toArray) (atQ rfl) (by kernel_rfl) (by kernel_rfl) (by kernel_rfl) (λ_ _ _ h=>h) (Or.inl ⟨by rfl,λW _=>zEY (.tmp 24) rfl (zDG own nm x) rfl W⟩) (by assumption) ?_;try simp only [Act.put,lA,lZ,lS]
  refine rdQ 10 (λK hK=>?_);go_simp
  refine LA.mono ?_;rintro e w5 ⟨⟨lv5,P5,rfl,ws5,nx5⟩,fr5⟩;go_wp2_with fail
  have HR:Hid (WP k B T (.int .i64 own) (.slice av2 m2 cap2) LF lv w (.returned (.tuple #[])) w5):=by
   have h9:=(HS4.out.step fr5 nx5 ws5).wp;rw [<-HLF.out];exact h9
  have rk5:=zCD ws5;have ra5:=fr5.range ra HNW.out;refine hkQ hK ⟨rk5,ra5⟩ (λhHeld=>?_);clear hK K
  refine wpAnyH_done (by kernel_rfl) ?_ _;clear hHeld rk ra rk5 ra5 ws5 nx5 fr5 HS4 HSD LA CE;go_wp2;go_end0
  exact HR.out
 ·exact absurd h hk3
 ·have hn1:zAh own nm (hd n) (cod own nm n) x ks L.length=zAR (cod own nm n) ks L.length++[ins 3 x.op 0]:=by unfold zAh;rw [if_neg (by omega),if_neg (by omega),if_pos h]
  rw [hn1] at hbd hLF;rw [List.length_append] at hbd;have AA:=hAL (Or.inl h) (by omega);rw [<-List.append_assoc] at hLF;have HL4:Hid ((L++zAR (cod own nm n) ks L.length)++[ins 3 x.op 0]=LF/\(L++zAR (cod own nm n) ks L.length).length<=900000):=⟨hLF,by rw [List.length_append];omega⟩
  rw [h] at c0;clear h hn1 hLF hAL HCA hk3 hbd HLF;generalize L++zAR (cod own nm n) ks L.length=L4 at *;go_enter func27,ntmps27;go_upto_region 1 with fail
  generalize (w.alloc (.cells (zAN x (.slice av np cap)).toArray 64))=W at *;go_wp2_with fail
  refine AA.mono ?_;rintro e w3 ⟨⟨lv3,P3,rfl,ws3,nx3⟩,fr3⟩;have HS3:Hid (St own nm av2 m2 cap2 k B T hi w lv w3 L4 lv3 P3):=HST.out.step fr3 nx3 ws3;have d7:=fr3.cell p7 HNW.out;have LA:=zAp k B T (ins 3 x.op 0).1 _ _ L4 lv3 P3 w3 ws3 HS3.out.en.kB HS3.out.en.hB (by have:=HL4.out.2;omega);clear AA ws3 nx3 fr3 HST c0 rP p20 p7;go_wp2_with (first | (refine zA4 rfl 3 (.tmp 36) rfl x.op rfl ?_))
  refine LA.mono ?_;rintro e w4 ⟨⟨lv4,P4,rfl,ws4,nx4⟩,fr4⟩;have HR:Hid (WP k B T (.int .i64 own) (.slice av2 m2 cap2) LF lv w (.returned (.tuple #[])) w4):=by
   have h9:=(HS3.out.step fr4 nx4 ws4).wp;rw [<-HL4.out.1];exact h9
  clear LA ws4 nx4 fr4 HS3;go_wp2;go_end0
  exact HR.out
 ·have hn1:zAh own nm (hd n) (cod own nm n) x ks L.length=zAR (cod own nm n) ks L.length++[ins 4 x.op 0]:=by unfold zAh;rw [if_neg (by omega),if_neg (by omega),if_neg (by omega),if_pos h]
  rw [hn1] at hbd hLF;rw [List.length_append] at hbd;have AA:=hAL (Or.inr h) (by omega);rw [<-List.append_assoc] at hLF;have HL4:Hid ((L++zAR (cod own nm n) ks L.length)++[ins 4 x.op 0]=LF/\(L++zAR (cod own nm n) ks L.length).length<=900000):=⟨hLF,by rw [List.length_append];omega⟩
  rw [h] at c0;clear h hn1 hLF hAL HCA hk3 hbd HLF;generalize L++zAR (cod own nm n) ks L.length=L4 at *;go_enter func27,ntmps27;go_upto_region 1 with fail
  generalize (w.alloc (.cells (zAN x (.slice av np cap)).toArray 64))=W at *;go_wp2_with fail
  refine AA.mono ?_;rintro e w3 ⟨⟨lv3,P3,rfl,ws3,nx3⟩,fr3⟩;have HS3:Hid (St own nm av2 m2 cap2 k B T hi w lv w3 L4 lv3 P3):=HST.out.step fr3 nx3 ws3;have d7:=fr3.cell p7 HNW.out;have LA:=zAp k B T (ins 4 x.op 0).1 _ _ L4 lv3 P3 w3 ws3 HS3.out.en.kB HS3.out.en.hB (by have:=HL4.out.2;omega);clear AA ws3 nx3 fr3 HST c0 rP p20 p7;go_wp2_with (first | (refine zA4 rfl 4 (.tmp 48) rfl x.op rfl ?_))
  refine LA.mono ?_;rintro e w4 ⟨⟨lv4,P4,rfl,ws4,nx4⟩,fr4⟩;have HR:Hid (WP k B T (.int .i64 own) (.slice av2 m2 cap2) LF lv w (.returned (.tuple #[])) w4):=by
   have h9:=(HS3.out.step fr4 nx4 ws4).wp;rw [<-HL4.out.1];exact h9
  clear LA ws4 nx4 fr4 HS3;go_wp2;go_end0
  exact HR.out
 ·have CA:=HCA.out h;rw [h] at c0;clear h hLF hAL HCA hk3 hbd p20 p7 HLF;go_enter func27,ntmps27;go_upto_region 1 with fail
  generalize (w.alloc (.cells (zAN x (.slice av np cap)).toArray 64))=W at *;go_wp2_with (first | (refine zAA (by rfl) 64 (.tmp 3) rfl w.heap.size 0 rfl (zAN x (.slice av np cap)) _ rP underlying64 rfl (by kernel_rfl) ?_))
  refine CA.mono ?_;rintro e w5 ⟨⟨lv5,P5,rfl,ws5,nx5⟩,fr5⟩;have HR:Hid (WP k B T (.int .i64 own) (.slice av2 m2 cap2) LF lv w (.returned (.tuple #[])) w5):=(HST.out.step fr5 nx5 ws5).wp;clear CA ws5 nx5 fr5 HST rP c0;go_wp2;go_end0
  exact HR.out
theorem zHe (own:Int) (nm:List ByteArray) (av2:Option Addr) (m2 cap2 n:Nat) (ih:PtC own nm av2 m2 cap2 n):PtC own nm av2 m2 cap2 (n+1):=λt =>
 zFo own nm av2 m2 cap2 n t (λ_=>zFs own nm av2 m2 cap2 n ih) (λ_=>zNV own nm av2 m2 cap2 n ih (zN3 own nm n)) (λ_=>zEi)
theorem zGF (own:Int) (nm:List ByteArray) (av2:Option Addr) (m2 cap2:Nat):∀ n,PtC own nm av2 m2 cap2 n
 | 0=>λt=>Empty.elim t
 | n+1=>zHe own nm av2 m2 cap2 n (zGF own nm av2 m2 cap2 n)
