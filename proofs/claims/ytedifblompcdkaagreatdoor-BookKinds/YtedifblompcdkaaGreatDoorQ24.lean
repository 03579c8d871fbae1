/- KSeek, KClsP. -/
import Derived.Test.YtedifblompcdkaaGreatDoorQ23
set_option maxHeartbeats 3200000
set_option maxRecDepth 100000
namespace Go.Proofs.YtedifblompcdkaaGreatDoor
open Tryz
variable {w:World} {x:Wt.Nd}
open Go.RowKit Wf
set_option linter.unusedVariables false
section
open Tryz
variable (own:Int) (nm:List ByteArray) (av2:Option Addr) (m2 cap2:Nat)
def SkC (n:Nat):Prop:=∀ (id:Int) (ps:List (Tr n × Value)) (av:Option Addr) (m cap lo hi k B:Nat) (T:Nat->Nat) (w:World) (L:List I) (lv:Value) (P:List (Wc.In × Value)),m=ps.length->ps.length<=30->(∀ p ∈ ps,Wq own nm n p.1)->0<(ps.filter λp=>isA (hd n p.1)).length->(∀ p ∈ ps,PA n lo hi w p.1 p.2)->RdQ w av (ps.map λp=>(hd n p.1,p.2))->En own nm av2 m2 cap2 k B T hi w->WS k B T w (.int .i64 own) (.slice av2 m2 cap2) L lv P->L.length+(zD7 own nm (hd n) (cod own nm n) id (ps.map (·.1)) L.length).length<=900000 ->
 Calls prog 163 #[.pointer (some ⟨k,0,none⟩),.int .i64 id,.slice av m cap] w (WP k B T (.int .i64 own) (.slice av2 m2 cap2) (L++zD7 own nm (hd n) (cod own nm n) id (ps.map (·.1)) L.length) lv w)
end
theorem zOH {b:Nat} {v0 v1 v2 v3 v4:Value}:Fr [b] w (((((w.setCell ⟨b,0,none⟩ v0).setCell ⟨b,1,none⟩ v1).setCell ⟨b,2,none⟩ v2).setCell ⟨b,3,none⟩ v3).setCell ⟨b,4,none⟩ v4):=zAf b [v0,v1,v2,v3,v4] 0 w
theorem zHP {n:Nat} (ps:List (Tr n × Value)) (q:Wt.Nd->Bool):(ps.map λp=>(hd n p.1,p.2)).filter (λp=>q p.1)=(ps.filter λp=>q (hd n p.1)).map λp=>(hd n p.1,p.2):=by
 rw [List.filter_map];rfl
theorem OwnP.rdq {B:Nat} {v:Value} {A:List (Wt.Nd × Value)} (h:OwnP w B v A):∃ av c,v=.slice av A.length c/\RdQ w av A/\∀ bb off,av=some ⟨bb,off,none⟩->B<=bb/\bb<w.heap.size:=by
 rcases OwnP.cases h with ⟨e,h0⟩ | ⟨g,cap,e,h1,h2,h3⟩
 ·subst h0;exact ⟨none,0,e,λi hi=>absurd hi (Nat.not_lt_zero _),λbb off e=>by cases e⟩
 ·refine ⟨some ⟨g,0,none⟩,cap,e,λi hi=>⟨g,0,rfl,by rw [Nat.zero_add];exact h3 i hi⟩,λbb off e=>by cases e;exact ⟨h1,h2⟩⟩
theorem zOR (h:RtN x):(0<=(zCC x).b - (zCC x).t+1/\(zCC x).b - (zCC x).t+1<=65536)/\(0<=(zCC x).r - (zCC x).l+1/\(zCC x).r - (zCC x).l+1<=65536):=by
 obtain ⟨h1,h2⟩:=h;simp only [Wt.inR,Bool.and_eq_true,decide_eq_true_eq] at h1 h2;simp only [zCC];omega
theorem zNz (own:Int) (nm:List ByteArray) (av2:Option Addr) (m2 cap2 n:Nat) (ih:PtC own nm av2 m2 cap2 n):SkC own nm av2 m2 cap2 n:=by
 intro id ps av m cap lo hi k B T w L lv P hm hl hwq hne hpap hrd hen hws hbd;have al:=zGp own nm av2 m2 cap2 n ih;have sr:=zIU own nm av2 m2 cap2 n ih;obtain ⟨pa,hpA⟩:∃ pa,(ps.filter λp=>isA (hd n p.1))=pa:=⟨_,rfl⟩
 obtain ⟨pv,hpV⟩:∃ pv,(ps.filter λp=>!isA (hd n p.1))=pv:=⟨_,rfl⟩
 rw [hpA] at hne;have hvs:(ps.map (·.1)).filter (λk=>!isA (hd n k))=pv.map (·.1):=by rw [<-hpV,List.filter_map];rfl
 have hars:zBq ((ps.map (·.1)).map (hd n))=pa.map λp=>hd n p.1:=by
  unfold zBq;rw [<-hpA,List.map_map,List.filter_map];rfl
 have hmA:∀ p ∈ pa,p ∈ ps/\isA (hd n p.1)=true:=λp hp=>by rw [<-hpA] at hp;exact List.mem_filter.1 hp
 have hmV:∀ p ∈ pv,p ∈ ps/\isA (hd n p.1)=false:=λp hp=>by
  rw [<-hpV] at hp;have:=List.mem_filter.1 hp;exact ⟨this.1,by simpa using this.2⟩
 have hlA:pa.length<=30:=by have:=List.length_filter_le (λp:Tr n × Value=>isA (hd n p.1)) ps;rw [hpA] at this;omega
 have hlV:pv.length<=30:=by have:=List.length_filter_le (λp:Tr n × Value=>!isA (hd n p.1)) ps;rw [hpV] at this;omega
 have AP:=zFI (ps.map λp=>(hd n p.1,p.2)) av m cap w (by rw [List.length_map];exact hm) (by rw [List.length_map];exact hl) (zK0 hpap) hrd;unfold ApP at AP;rw [zHP ps isA,zHP ps (λx=>!isA x),hpA,hpV] at AP;obtain ⟨xa,hxa⟩:∃ x,hd n (pa[0]).1=x:=⟨_,rfl⟩
 obtain ⟨xb,hxb⟩:∃ x,hd n (pa[pa.length - 1]'(by omega)).1=x:=⟨_,rfl⟩
 have hrt:∀ p ∈ pa,RtN (hd n p.1):=λp hp=>zDv (zFm (hwq p (hmA p hp).1).1) (by simpa [isA] using (hmA p hp).2)
 have hra:RtN xa:=by rw [<-hxa];exact hrt _ (List.getElem_mem hne)
 have hrb:RtN xb:=by rw [<-hxb];exact hrt _ (List.getElem_mem _)
 have hhead:(pa.map λp=>hd n p.1).headD ⟨0,v0I,0,⟨#[]⟩,0,Wt.r0,Wt.r0⟩=xa:=by
  rw [<-hxa];cases pa with
  | nil=>cases hne
  | cons a r=>rfl
 have hlast:(pa.map λp=>hd n p.1).getLastD ⟨0,v0I,0,⟨#[]⟩,0,Wt.r0,Wt.r0⟩=xb:=by
  rw [<-hxb,List.getLastD_eq_getLast?,List.getLast?_eq_getElem?,List.length_map,List.getElem?_map,List.getElem?_eq_getElem (by omega)];rfl
 obtain ⟨LF,hLF⟩:∃ LF,L++zD7 own nm (hd n) (cod own nm n) id (ps.map (·.1)) L.length=LF:=⟨_,rfl⟩
 have hse:zD7 own nm (hd n) (cod own nm n) id (ps.map (·.1)) L.length=(if id=26 then [zCQ (zG0 ((zAc own nm xa).b - (zAc own nm xa).t+1))] else if id=27 then [zCQ (zG0 ((zAc own nm xa).r - (zAc own nm xa).l+1))] else if id=25 then zA1 (cod own nm n) (pv.map (·.1)) L.length++[zCI 11 (pv.length:Nat) (zAc own nm xa) a0I] else zFp own nm n id (zAc own nm xa) (zAc own nm xb) (pv.map (·.1)) L.length):=by
  unfold zD7 zFp;simp only [hars,hvs,hhead,hlast,List.length_map]
 rw [hse] at hbd hLF;rw [hse,hLF];have h0B:∀ j,lv.ownBlock=some j->B<=j/\j<w.heap.size:=λj e=>zAL hws.own e
 have hst:∀ (W:World),Below w.heap.size w W->St own nm av2 m2 cap2 k B T hi w lv W L lv P:=λW hb=>(St.init hen hws).below hb
 have HST:Hid (∀ (W:World),Below w.heap.size w W->St own nm av2 m2 cap2 k B T hi w lv W L lv P):=hst;have HKS:Hid (k<w.heap.size):=by have:=hen.kB;have:=hen.hB;show _<_;omega
 have HLB:Hid (∀ j,lv.ownBlock=some j->j<w.heap.size):=λj e=>(h0B j e).2
 have AR:=λ(W:World) (h:RdS W av2 nm)=>zED own nm av2 m2 cap2 xa W hra hen.hm hen.hl h
 have AL:=λ(W:World) (h:RdS W av2 nm)=>zED own nm av2 m2 cap2 xb W hrb hen.hm hen.hl h
 have HSZ:Hid ((0<=(zAc own nm xa).b - (zAc own nm xa).t+1/\(zAc own nm xa).b - (zAc own nm xa).t+1<=65536)/\(0<=(zAc own nm xa).r - (zAc own nm xa).l+1/\(zAc own nm xa).r - (zAc own nm xa).l+1<=65536)):=zOR hra;have HSM:Hid (SmA (zAc own nm xa)):=zGB hra;have HAL:Hid (id=25->∀ (W:World) (av3:Option Addr) (c3:Nat),Below w.heap.size w W->RdQ W av3 (pv.map λp=>(hd n p.1,p.2))->(∀ bb off,av3=some ⟨bb,off,none⟩->w.heap.size<=bb/\bb<W.heap.size)->¬ id=26->¬ id=27->Calls prog 134 #[.pointer (some ⟨k,0,none⟩),.slice av3 pv.length c3] W (WP k B T (.int .i64 own) (.slice av2 m2 cap2) (L++zA1 (cod own nm n) (pv.map (·.1)) L.length) lv W)/\(L++zA1 (cod own nm n) (pv.map (·.1)) L.length)++[zCI 11 (pv.length:Nat) (zAc own nm xa) a0I]=LF/\(L++zA1 (cod own nm n) (pv.map (·.1)) L.length).length<=900000):=λh25 W av3 c3 hb hr3 hv3 n26 n27=>by
  rw [if_neg n26,if_neg n27,if_pos h25] at hbd hLF;simp only [List.length_append,List.length_cons,List.length_nil] at hbd;have st:=hst W hb;refine ⟨al pv av3 pv.length c3 lo hi k B T W L lv P rfl hlV (λp hp=>⟨(hwq p (hmV p hp).1).1,(hwq p (hmV p hp).1).2,(hmV p hp).2⟩) (λp hp=>PA.kept (Kept.of_below hb) n _ _ (hpap p (hmV p hp).1)) hr3 (λ_ bb off e j ej=>by have:=hv3 bb off e;have:=(h0B j ej).2;omega) (λ_ bb off e=>⟨by have:=hv3 bb off e;have:=hen.kB;have:=hen.hB;omega,(hv3 bb off e).2⟩) st.en st.ws (by omega),by rw [<-hLF,List.append_assoc],by rw [List.length_append];omega⟩
 have HSR0:Hid (¬ id=26->¬ id=27->¬ id=25->∀ (W:World) (av3:Option Addr) (c3:Nat),Below w.heap.size w W->RdQ W av3 (pv.map λp=>(hd n p.1,p.2))->(∀ bb off,av3=some ⟨bb,off,none⟩->w.heap.size<=bb/\bb<W.heap.size)->Calls prog 183 #[.pointer (some ⟨k,0,none⟩),.int .i64 id,.agg (ar5 (zAc own nm xa)).toArray,.agg (ar5 (zAc own nm xb)).toArray,.slice av3 pv.length c3] W (WP k B T (.int .i64 own) (.slice av2 m2 cap2) LF lv W)):=λn26 n27 n25 W av3 c3 hb hr3 hv3=>by
  rw [if_neg n26,if_neg n27,if_neg n25] at hbd hLF;have st:=hst W hb;have:=sr id (zAc own nm xa) (zAc own nm xb) pv av3 pv.length c3 lo hi k B T W L lv P rfl hlV (λp hp=>⟨(hwq p (hmV p hp).1).1,(hwq p (hmV p hp).1).2,(hmV p hp).2⟩) (λp hp=>PA.kept (Kept.of_below hb) n _ _ (hpap p (hmV p hp).1)) hr3 (λbb off e j ej=>by have:=hv3 bb off e;have:=(h0B j ej).2;omega) (λbb off e=>⟨by have:=hv3 bb off e;have:=hen.kB;have:=hen.hB;omega,(hv3 bb off e).2⟩) st.en st.ws hbd;rw [hLF] at this;exact this
 have HPS:Hid (¬ (id=26/\id=27)/\(id=26->L++[zCQ (zG0 ((zAc own nm xa).b - (zAc own nm xa).t+1))]=LF)/\(id=27->L++[zCQ (zG0 ((zAc own nm xa).r - (zAc own nm xa).l+1))]=LF)/\L.length<=900000):=⟨λh=>by omega,λh=>by rw [if_pos h] at hLF;exact hLF,λh=>by rw [if_neg (by omega),if_pos h] at hLF;exact hLF,by omega⟩
 obtain ⟨na,hna⟩:∃ na,pa.length=na:=⟨_,rfl⟩
 have H0:Hid (0<na/\na<=30):=by rw [hna] at hne hlA;exact ⟨hne,hlA⟩
 have HXA:Hid (∀ (i:Nat) (h:i<pa.length) (h2:i<(pa.map λp=>(hd n p.1,p.2)).length),((pa.map λp=>(hd n p.1,p.2))[i]).1=hd n (pa[i]).1):=λi h h2=>by rw [List.getElem_map]
 have HX0:Hid (∀ h:0<pa.length,hd n (pa[0]).1=xa):=λ_=>hxa
 have HX1:Hid (∀ h:pa.length - 1<pa.length,hd n (pa[pa.length - 1]).1=xb):=λ_=>hxb
 have HNA:Hid (pa.length=na):=hna;generalize zAc own nm xa=xr at *;generalize zAc own nm xb=xs at *;obtain ⟨nv,hnv⟩:∃ nv,pv.length=nv:=⟨_,rfl⟩
 have HNV:Hid (pv.length=nv):=hnv;clear hvs hars hmA hmV hlA hlV hxa hxb hrt hra hrb hhead hlast hse hbd hLF h0B hst hm hl hwq hpap hrd hen hws ih al sr hpA hpV hne hna hnv;go_enter func163,ntmps163;go_wp2_with fail
 refine AP.mono ?_;rintro e w1 ⟨⟨va,vb,rfl,owa,owb⟩,hb1⟩;obtain ⟨avb,cvb,rfl,rdb,hvb⟩:=owb.rdq;rcases OwnP.cases owa with ⟨_,e0⟩ | ⟨ga,cga,rfl,hga1,hga2,hra⟩
 ·have h9:=HNA.out;have:=H0.out.1;rw [List.map_eq_nil_iff] at e0;rw [e0] at h9;simp at h9;omega
 rw [List.length_map,HNA.out];rw [List.length_map,HNV.out];have ra0:w1.rangeAt ga 0 (zAK xa):=by
  have hlt:0<pa.length:=by have:=HNA.out;have:=H0.out;omega
  have:=zCP (hra 0 (by rw [List.length_map];exact hlt));rw [HXA.out 0 hlt,HX0.out hlt,Nat.zero_mul] at this;exact this
 have HRB:Hid (w1.rangeAt ga ((na - 1) * 21) (zAK xb)):=by
  have hlt:pa.length - 1<pa.length:=by have:=HNA.out;have:=H0.out;omega
  have:=zCP (hra (pa.length - 1) (by rw [List.length_map];exact hlt));rw [HXA.out _ hlt,HX1.out hlt,HNA.out] at this;exact this
 have HS1:Hid (St own nm av2 m2 cap2 k B T hi w lv w1 L lv P):=HST.out w1 hb1;have HVB:Hid (RdQ w1 avb (pv.map λp=>(hd n p.1,p.2))/\∀ bb off,avb=some ⟨bb,off,none⟩->w.heap.size<=bb/\bb<w1.heap.size):=⟨rdb,hvb⟩
 have HGA:Hid (ga<w1.heap.size/\w.heap.size<=ga):=⟨hga2,hga1⟩
 have HB1:Hid (Below w.heap.size w w1):=hb1;have hdr:=(Below.refl w1.heap.size w1).drew;have HSD:Hid (St own nm av2 m2 cap2 k B T hi w lv w1.drew L lv P):=HS1.out.below hdr;have HD1:Hid (Below w1.heap.size w1 w1.drew):=hdr;have HW1:Hid (w1.heap.size<=w1.drew.heap.size):=Nat.le_refl _;have rk:=zBi HSD.out.ws;have ra:w1.drew.rangeAt ga 0 (zAK xa):=ra0;have h0n:(0:Int)<(na:Int):=by have:=H0.out;omega
 clear AP owa owb rdb hvb hra ra0 hga1 hga2 hb1 HXA HX0 HX1 hdr;go_upto_region 1 with fail
 go_cut [8] (λs8 wx=>∃ ib,s8=.pointer (some ⟨ib,0,none⟩)/\ib ≠ k/\AtL wx ib (ar5 xr)/\ib<wx.heap.size/\w.heap.size<=ib/\Below w1.heap.size w1 wx)
 case first =>
  refine wp_region_held_drew (S:=λW=>W.rangeAt k 0 [.int .i64 own,.slice av2 m2 cap2]/\W.rangeAt ga 0 (zAK xa)) (by kernel_rfl) ⟨rk,ra⟩ (λhHeld=>?_);generalize w1.drew=WD at *;refine tkQ 0 ?_
  refine tkQ 1 ?_
  refine tkQ 2 ?_
  refine wpAnyH_take (i:=3) (v:=.agg ([.int .i64 own,.slice av2 m2 cap2]).toArray) (atQ rfl) (by kernel_rfl) (by kernel_rfl) (by kernel_rfl) (λ_ _ _ h=>h) (yieldsIf_load_mid (by rfl) 184 (.tmp 16) rfl (k) (0) rfl ([.int .i64 own,.slice av2 m2 cap2]) _ (λ_ h=>h.1) underlying184 rfl (by kernel_rfl)) (by assumption) ?_;try simp only [Act.put,lA,lZ,lS]
  refine tkQ 4 ?_
  refine wpAnyH_take (i:=5) (v:=?_) (atQ rfl) (by kernel_rfl) (by kernel_rfl) (by kernel_rfl) (λ_ _ _ h=>h) (Or.inl ⟨by rfl,?_⟩) (by assumption) ?_;rotate_left
  ·intro w hSw
   (try dsimp only at hSw)
   go_simp
   rw [if_pos (by have:=H0.out;omega)];try with_reducible rfl
  try simp only [Act.put,lA,lZ,lS]
  refine tkQ 6 ?_
  refine wpAnyH_take (i:=7) (v:=.agg (zAK xa).toArray) (atQ rfl) (by kernel_rfl) (by kernel_rfl) (by kernel_rfl) (λ_ _ _ h=>h) (yieldsIf_load_mid (by rfl) 102 (.tmp 20) rfl (ga) (0) rfl (zAK xa) _ (λ_ h=>h.2) underlying102 rfl (by kernel_rfl)) (by assumption) ?_;try simp only [Act.put,lA,lZ,lS]
  refine wpAnyH_ready (rs:=[8,9]) (by kernel_rfl) (by simp) ?_;refine AllReadyH.cons (atQ rfl) (λK hK=>?_) (AllReadyH.cons (atQ rfl) (λK hK=>?_) AllReadyH.nil)
  ·go_simp
   refine (AR WD HSD.out.en.rs).mono ?_;rintro e w2 ⟨rfl,hb2⟩;go_wp2_with fail
   replace rk:=zAF hb2 rk
   replace ra:=zAF hb2 ra
   refine hkQ hK ⟨rk,ra⟩ (λhHeld=>?_);clear hK K
   have hbz:=zAH (Below.refl _ w2) (.cells #[.int .i64 0,.int .i64 0,.int .i64 0,.int .i64 0,.int .i64 0] 64);have pZ:=AtL.new0 w2 64 [.int .i64 0,.int .i64 0,.int .i64 0,.int .i64 0,.int .i64 0];refine rdQ 9 (λK hK=>?_);go_simp
   refine hkQ hK ⟨zAF hbz rk,zAF hbz ra⟩ (λhHeld=>?_);clear hK K
   obtain ⟨k0,k1,k2,k3,k4,z0,z1,z2,z3,z4⟩:=pZ.five;have hbs:=zAH (Below.refl _ w2) (.cells (ar5 xr).toArray 64);refine rdQ 10 (λK hK=>?_);go_simp
   refine hkQ hK ⟨zAF hbs rk,zAF hbs ra⟩ (λhHeld=>?_);clear hK K
   refine wpAnyH_done (by kernel_rfl) ?_ _;have HN:Hid (∃ ib,Value.pointer (some ⟨w2.heap.size,0,none⟩)=.pointer (some ⟨ib,0,none⟩)/\ib ≠ k/\AtL (w2.alloc (.cells (ar5 xr).toArray 64)) ib (ar5 xr)/\ib<(w2.alloc (.cells (ar5 xr).toArray 64)).heap.size/\w.heap.size<=ib/\Below w1.heap.size w1 (w2.alloc (.cells (ar5 xr).toArray 64))):=⟨w2.heap.size,rfl,by have:=HKS.out;have:=HSD.out.fr.size;have:=hb2.size;omega,AtL.new0 w2 _ _,(AtL.new0 w2 64 (ar5 xr)).lt,Nat.le_trans HSD.out.fr.size hb2.size,zAA (zAA HD1.out hb2) hbs⟩
   clear hHeld rk ra hbz hbs pZ k0 k1 k2 k3 k4 z0 z1 z2 z3 z4 hb2 HSD;go_wp2_with fail
   go_meet
   case rel =>
    go_light
    exact HN.out
  ·have hbz:=zAH (Below.refl _ WD) (.cells #[.int .i64 0,.int .i64 0,.int .i64 0,.int .i64 0,.int .i64 0] 64);have pZ:=AtL.new0 WD 64 [.int .i64 0,.int .i64 0,.int .i64 0,.int .i64 0,.int .i64 0];go_simp
   replace rk:=zAF hbz rk
   replace ra:=zAF hbz ra
   refine hkQ hK ⟨rk,ra⟩ (λhHeld=>?_);clear hK K
   have HSE:Hid (St own nm av2 m2 cap2 k B T hi w lv (WD.alloc (.cells #[.int .i64 0,.int .i64 0,.int .i64 0,.int .i64 0,.int .i64 0] 64)) L lv P):=HSD.out.below hbz;have HBZ:Hid (Below w1.heap.size w1 (WD.alloc (.cells #[.int .i64 0,.int .i64 0,.int .i64 0,.int .i64 0,.int .i64 0] 64))):=zAA HD1.out hbz;have HWS:Hid (w.heap.size<=WD.heap.size):=HSD.out.fr.size;clear hbz HSD;generalize (WD.alloc (.cells #[.int .i64 0,.int .i64 0,.int .i64 0,.int .i64 0,.int .i64 0] 64))=WE at *;obtain ⟨ib,hib⟩:∃ b,WD.heap.size=b:=⟨_,rfl⟩
   rw [hib] at pZ HWS HW1;simp only [hib];clear hib;refine rdQ 8 (λK hK=>?_);go_simp
   refine (AR WE HSE.out.en.rs).mono ?_;rintro e w2 ⟨rfl,hb2⟩;go_wp2_with fail
   replace rk:=zAF hb2 rk
   replace ra:=zAF hb2 ra
   refine hkQ hK ⟨rk,ra⟩ (λhHeld=>?_);clear hK K
   replace pZ:=AtL.below hb2 pZ
   obtain ⟨k0,k1,k2,k3,k4,z0,z1,z2,z3,z4⟩:=pZ.five;have fr5:Fr [ib] w2 (((((w2.setCell ⟨ib,0,none⟩ (.int .i64 xr.s)).setCell ⟨ib,1,none⟩ (.int .i64 xr.t)).setCell ⟨ib,2,none⟩ (.int .i64 xr.l)).setCell ⟨ib,3,none⟩ (.int .i64 xr.b)).setCell ⟨ib,4,none⟩ (.int .i64 xr.r)):=zOH;have pF:AtL (((((w2.setCell ⟨ib,0,none⟩ (.int .i64 xr.s)).setCell ⟨ib,1,none⟩ (.int .i64 xr.t)).setCell ⟨ib,2,none⟩ (.int .i64 xr.l)).setCell ⟨ib,3,none⟩ (.int .i64 xr.b)).setCell ⟨ib,4,none⟩ (.int .i64 xr.r)) ib (ar5 xr):=pZ.put5 _ _ _ _ _;have HBF:Hid (Below w1.heap.size w1 (((((w2.setCell ⟨ib,0,none⟩ (.int .i64 xr.s)).setCell ⟨ib,1,none⟩ (.int .i64 xr.t)).setCell ⟨ib,2,none⟩ (.int .i64 xr.l)).setCell ⟨ib,3,none⟩ (.int .i64 xr.b)).setCell ⟨ib,4,none⟩ (.int .i64 xr.r))):=zDL (zAA HBZ.out hb2) fr5 (λj hj=>by simp at hj;have:=HW1.out;omega);refine rdQ 10 (λK hK=>?_);go_simp
   refine hkQ hK ⟨fr5.range rk (by have:=HKS.out;have:=HWS.out;simp;omega),fr5.range ra (by have:=HGA.out;have:=HW1.out;simp;omega)⟩ (λhHeld=>?_);clear hK K
   refine wpAnyH_done (by kernel_rfl) ?_ _;have HN:Hid (∃ ib2,Value.pointer (some ⟨ib,0,none⟩)=.pointer (some ⟨ib2,0,none⟩)/\ib2 ≠ k/\AtL (((((w2.setCell ⟨ib,0,none⟩ (.int .i64 xr.s)).setCell ⟨ib,1,none⟩ (.int .i64 xr.t)).setCell ⟨ib,2,none⟩ (.int .i64 xr.l)).setCell ⟨ib,3,none⟩ (.int .i64 xr.b)).setCell ⟨ib,4,none⟩ (.int .i64 xr.r)) ib2 (ar5 xr)/\ib2<(((((w2.setCell ⟨ib,0,none⟩ (.int .i64 xr.s)).setCell ⟨ib,1,none⟩ (.int .i64 xr.t)).setCell ⟨ib,2,none⟩ (.int .i64 xr.l)).setCell ⟨ib,3,none⟩ (.int .i64 xr.b)).setCell ⟨ib,4,none⟩ (.int .i64 xr.r)).heap.size/\w.heap.size<=ib2/\Below w1.heap.size w1 (((((w2.setCell ⟨ib,0,none⟩ (.int .i64 xr.s)).setCell ⟨ib,1,none⟩ (.int .i64 xr.t)).setCell ⟨ib,2,none⟩ (.int .i64 xr.l)).setCell ⟨ib,3,none⟩ (.int .i64 xr.b)).setCell ⟨ib,4,none⟩ (.int .i64 xr.r))):=⟨ib,rfl,by have:=HKS.out;have:=HWS.out;omega,pF,pF.lt,HWS.out,HBF.out⟩
   clear hHeld rk ra pZ k0 k1 k2 k3 k4 z0 z1 z2 z3 z4 hb2 HSE HBZ HBF fr5 pF;generalize (((((w2.setCell ⟨ib,0,none⟩ (.int .i64 xr.s)).setCell ⟨ib,1,none⟩ (.int .i64 xr.t)).setCell ⟨ib,2,none⟩ (.int .i64 xr.l)).setCell ⟨ib,3,none⟩ (.int .i64 xr.b)).setCell ⟨ib,4,none⟩ (.int .i64 xr.r))=WF at *;go_wp2_with fail
   go_meet
   case rel =>
    go_light
    exact HN.out
 case rest =>
  obtain ⟨ib,rfl,hibk,hai,hibl,hibw,hbx⟩:=hcut;clear rk ra AR HSD HD1 HW1;have HX:Hid (Below w.heap.size w wc):=zAA HB1.out hbx;have HSX:Hid (St own nm av2 m2 cap2 k B T hi w lv wc L lv P):=HST.out wc HX.out;have hlt9:=hbx.size;have HVX:Hid (RdQ wc avb (pv.map λp=>(hd n p.1,p.2))/\∀ bb off,avb=some ⟨bb,off,none⟩->w.heap.size<=bb/\bb<wc.heap.size):=⟨HVB.out.1.below hbx,λbb off e=>⟨(HVB.out.2 bb off e).1,Nat.lt_of_lt_of_le (HVB.out.2 bb off e).2 hlt9⟩⟩
  have HNB:Hid (∀ b,b=ga \/ b=ib->b ∉ k::lv.ownBlock.toList):=λb hb hmm=>by
   have h1:=HGA.out;have h2:=HKS.out;rcases List.mem_cons.1 hmm with q | q
   ·rcases hb with rfl | rfl
    ·omega
    ·exact hibk q
   ·have:=HLB.out b (by simpa using q);rcases hb with rfl | rfl <;> omega
  obtain ⟨i0,i1,i2,i3,i4,_,_,_,_,_⟩:=hai.five;have ri0:=hai.range;by_cases h26:id=26
  ·subst h26;have RW:=zDM xr wc HSM.out;have HPC:Hid (∀ W,Below wc.heap.size wc W->Calls prog 182 #[.pointer (some ⟨k,0,none⟩),.int .i64 (xr.b - xr.t+1)] W (WP k B T (.int .i64 own) (.slice av2 m2 cap2) (L++[zCQ (zG0 (xr.b - xr.t+1))]) lv W)):=λW hb=>by
    have st:=HSX.out.below hb;exact zGs k B T _ HSZ.out.1 _ _ L lv P W st.ws st.en.kB st.en.hB (by have:=HPS.out.2.2.2;omega)
   have HLE:=HPS.out.2.1 rfl;rw [HLE] at HPC;generalize xr.b - xr.t+1=rr at *;clear HLE HAL HSR0 AL HPS HSZ;go_wp2_with (first | (refine zAB (by rfl) 64 (.tmp 8) rfl ib 0 rfl (ar5 xr) _ ri0 underlying64 rfl (by kernel_rfl) ?_))
   refine RW.mono ?_;rintro e w4 ⟨rfl,hb4⟩;have PC:=HPC.out w4 hb4;have HS4:Hid (St own nm av2 m2 cap2 k B T hi w lv w4 L lv P):=HSX.out.below hb4;clear RW hb4 HPC;go_wp2_with fail
   refine PC.mono ?_;rintro e w5 ⟨⟨lv5,P5,rfl,ws5,nx5⟩,fr5⟩;have HR:Hid (WP k B T (.int .i64 own) (.slice av2 m2 cap2) LF lv w (.returned (.tuple #[])) w5):=(HS4.out.step fr5 nx5 ws5).wp;clear PC ws5 nx5 fr5 HS4;go_wp2;go_end0
   exact HR.out
  by_cases h27:id=27
  ·subst h27;have RW:=zCx xr wc HSM.out;have HPC:Hid (∀ W,Below wc.heap.size wc W->Calls prog 182 #[.pointer (some ⟨k,0,none⟩),.int .i64 (xr.r - xr.l+1)] W (WP k B T (.int .i64 own) (.slice av2 m2 cap2) (L++[zCQ (zG0 (xr.r - xr.l+1))]) lv W)):=λW hb=>by
    have st:=HSX.out.below hb;exact zGs k B T _ HSZ.out.2 _ _ L lv P W st.ws st.en.kB st.en.hB (by have:=HPS.out.2.2.2;omega)
   have HLE:=HPS.out.2.2.1 rfl;rw [HLE] at HPC;generalize xr.r - xr.l+1=rr at *;clear HLE HAL HSR0 AL HPS HSZ;go_wp2_with (first | (refine zAB (by rfl) 64 (.tmp 8) rfl ib 0 rfl (ar5 xr) _ ri0 underlying64 rfl (by kernel_rfl) ?_))
   refine RW.mono ?_;rintro e w4 ⟨rfl,hb4⟩;have PC:=HPC.out w4 hb4;have HS4:Hid (St own nm av2 m2 cap2 k B T hi w lv w4 L lv P):=HSX.out.below hb4;clear RW hb4 HPC;go_wp2_with fail
   refine PC.mono ?_;rintro e w5 ⟨⟨lv5,P5,rfl,ws5,nx5⟩,fr5⟩;have HR:Hid (WP k B T (.int .i64 own) (.slice av2 m2 cap2) LF lv w (.returned (.tuple #[])) w5):=(HS4.out.step fr5 nx5 ws5).wp;clear PC ws5 nx5 fr5 HS4;go_wp2;go_end0
   exact HR.out
  by_cases h25:id=25
  ·subst h25;obtain ⟨AA,hL5,hl5⟩:=HAL.out rfl wc avb cvb HX.out HVX.out.1 HVX.out.2 h26 h27;rw [HNV.out] at AA hL5;have HL5:Hid ((L++zA1 (cod own nm n) (pv.map (·.1)) L.length)++[zCI 11 (nv:Nat) xr a0I]=LF/\(L++zA1 (cod own nm n) (pv.map (·.1)) L.length).length<=900000):=⟨hL5,hl5⟩
   clear hL5 hl5 HAL HSR0 AL HPS HSZ i0 i1 i2 i3 i4;generalize L++zA1 (cod own nm n) (pv.map (·.1)) L.length=L4 at *;go_wp2_with fail
   refine AA.mono ?_;rintro e w4 ⟨⟨lv4,P4,rfl,ws4,nx4⟩,fr4⟩;have HS4:Hid (St own nm av2 m2 cap2 k B T hi w lv w4 L4 lv4 P4):=HSX.out.step fr4 nx4 ws4;have ri4:=fr4.range ri0 (HNB.out ib (Or.inr rfl));have LA:=zAs k B T (zCI 11 (nv:Nat) xr a0I).1 _ _ L4 lv4 P4 w4 ws4 HS4.out.en.kB HS4.out.en.hB (by have:=HL5.out.2;omega);clear AA ws4 nx4 fr4 ri0;go_wp2_with (first | (refine zAB (by rfl) 64 (.tmp 8) rfl ib 0 rfl (ar5 xr) _ ri4 underlying64 rfl (by kernel_rfl) ?_) | (refine zFu rfl (.tmp 59) (.tmp 61) rfl xr (nv:Int) rfl rfl ?_))
   refine LA.mono ?_;rintro e w5 ⟨⟨lv5,P5,rfl,ws5,nx5⟩,fr5⟩;have HR:Hid (WP k B T (.int .i64 own) (.slice av2 m2 cap2) LF lv w (.returned (.tuple #[])) w5):=by
    have:=(HS4.out.step fr5 nx5 ws5).wp;rw [<-HL5.out.1];exact this
   clear LA ws5 nx5 fr5 HS4;go_wp2;go_end0
   exact HR.out
  have HSR:Hid (∀ W,Below wc.heap.size wc W->Calls prog 183 #[.pointer (some ⟨k,0,none⟩),.int .i64 id,.agg (ar5 xr).toArray,.agg (ar5 xs).toArray,.slice avb nv cvb] W (WP k B T (.int .i64 own) (.slice av2 m2 cap2) LF lv W)):=λW hb=>by
   have:=HSR0.out h26 h27 h25 W avb cvb (zAA HX.out hb) (HVX.out.1.below hb) (λbb off e=>⟨(HVX.out.2 bb off e).1,Nat.lt_of_lt_of_le (HVX.out.2 bb off e).2 hb.size⟩);rw [HNV.out] at this;exact this
  have hdx:=(Below.refl wc.heap.size wc).drew;have HSD:Hid (St own nm av2 m2 cap2 k B T hi w lv wc.drew L lv P):=HSX.out.below hdx;have HXD:Hid (Below wc.heap.size wc wc.drew):=hdx;have rk:=zBi HSD.out.ws;have rb:wc.drew.rangeAt ga ((na - 1) * 21) (zAK xb):=zAF hdx (zAF hbx HRB.out);have ri:wc.drew.rangeAt ib 0 (ar5 xr):=ri0;have hk1:IntKind.i64.wrap ((na:Int) - 1)=((na - 1:Nat):Int):=by have:=H0.out;rw [IntKind.wrap_i64];omega
  have hk2:((na - 1:Nat):Int)<(na:Int):=by have:=H0.out;omega
  have hk3:(0:Int)<=((na - 1:Nat):Int):=by omega
  clear HAL HSR0 HPS HSZ i0 i1 i2 i3 i4 ri0 hdx;go_upto_region 3 with fail
  refine wp_region_held_drew (S:=λW=>W.rangeAt k 0 [.int .i64 own,.slice av2 m2 cap2]/\W.rangeAt ga ((na - 1) * 21) (zAK xb)/\W.rangeAt ib 0 (ar5 xr)) (by kernel_rfl) ⟨rk,rb,ri⟩ (λhHeld=>?_);generalize wc.drew=WD at *;refine tkQ 0 ?_
  refine tkQ 1 ?_
  refine wpAnyH_take (i:=2) (v:=.agg (ar5 xr).toArray) (atQ rfl) (by kernel_rfl) (by kernel_rfl) (by kernel_rfl) (λ_ _ _ h=>h) (yieldsIf_load_mid (by rfl) 64 (.tmp 8) rfl (ib) (0) rfl (ar5 xr) _ (λ_ h=>h.2.2) underlying64 rfl (by kernel_rfl)) (by assumption) ?_;try simp only [Act.put,lA,lZ,lS]
  refine tkQ 3 ?_
  refine tkQ 4 ?_
  refine tkQ 5 ?_
  refine wpAnyH_take (i:=6) (v:=.agg ([.int .i64 own,.slice av2 m2 cap2]).toArray) (atQ rfl) (by kernel_rfl) (by kernel_rfl) (by kernel_rfl) (λ_ _ _ h=>h) (yieldsIf_load_mid (by rfl) 184 (.tmp 29) rfl (k) (0) rfl ([.int .i64 own,.slice av2 m2 cap2]) _ (λ_ h=>h.1) underlying184 rfl (by kernel_rfl)) (by assumption) ?_;try simp only [Act.put,lA,lZ,lS]
  refine tkQ 7 ?_
  refine tkQ 8 ?_
  refine tkQ 9 ?_
  refine tkQ 10 ?_
  refine tkQ 11 ?_
  refine tkQ 12 ?_
  refine wpAnyH_take (i:=13) (v:=.agg (zAK xb).toArray) (atQ rfl) (by kernel_rfl) (by kernel_rfl) (by kernel_rfl) (λ_ _ _ h=>h) (yieldsIf_load_mid (by rfl) 102 (.tmp 36) rfl (ga) ((na - 1) * 21) rfl (zAK xb) _ (λ_ h=>h.2.1) underlying102 rfl (by kernel_rfl)) (by assumption) ?_;try simp only [Act.put,lA,lZ,lS]
  refine tkQ 15 ?_
  refine rdQ 14 (λK hK=>?_);go_simp
  refine (AL WD HSD.out.en.rs).mono ?_;rintro e w4 ⟨rfl,hb4⟩;go_wp2_with fail
  have SR:=HSR.out w4 (zAA HXD.out hb4);replace rk:=zAF hb4 rk
  replace rb:=zAF hb4 rb
  replace ri:=zAF hb4 ri
  refine hkQ hK ⟨rk,rb,ri⟩ (λhHeld=>?_);clear hK K
  have HB4:Hid (Below wc.heap.size wc w4):=zAA HXD.out hb4;refine rdQ 16 (λK hK=>?_);go_simp
  refine SR.mono ?_;rintro e w5 h5;obtain ⟨⟨lv5,P5,rfl,ws5,nx5⟩,fr5⟩:=h5;go_wp2_with fail
  have rk5:=zBi ws5;refine hkQ hK ⟨rk5,fr5.range rb (HNB.out ga (Or.inl rfl)),fr5.range ri (HNB.out ib (Or.inr rfl))⟩ (λhHeld=>?_);clear hK K
  refine wpAnyH_done (by kernel_rfl) ?_ _;have HR:Hid (WP k B T (.int .i64 own) (.slice av2 m2 cap2) LF lv w (.returned (.tuple #[])) w5):=((HSX.out.below HB4.out).step fr5 nx5 ws5).wp;clear hHeld rk rb ri rk5 SR ws5 nx5 fr5 HSX HSD HXD HB4 hb4 AL;go_wp2;go_end0
  exact HR.out
open Go.RowKit Wf
theorem zN9:(List.range 64).all (λk=>!zBT ((k:Nat):Int) || (let s:=zAP ((k:Nat):Int);(s.c == 1 && (decide (1<=s.l))) || (s.c == 2 && (decide (20<=k) && decide (k<=27))) || (s.c == 3 && (s.p.data.toList == [118]) && ((k == 30) || (k == 31) || (k == 32)) && decide (2<=s.l)) || (s.c == 4 && (s.p.data.toList == [118]))))=true:=by kernel_rfl
theorem zMy (s:ByteArray) (h:zBT ((zAu s:Nat):Int)=true):((zAP ((zAu s:Nat):Int)).c=1/\1<=(zAP ((zAu s:Nat):Int)).l) \/ ((zAP ((zAu s:Nat):Int)).c=2/\20<=zAu s/\zAu s<=27) \/ ((zAP ((zAu s:Nat):Int)).c=3/\(zAP ((zAu s:Nat):Int)).p.data.toList=[118]/\(zAu s=30 \/ zAu s=31 \/ zAu s=32)/\2<=(zAP ((zAu s:Nat):Int)).l) \/ ((zAP ((zAu s:Nat):Int)).c=4/\(zAP ((zAu s:Nat):Int)).p.data.toList=[118]):=by
 have h1:=List.all_eq_true.1 zN9 (zAu s) (List.mem_range.2 (by have:=zIY s;omega));rw [h] at h1;simp only [Bool.not_true,Bool.false_or,Bool.or_eq_true,Bool.and_eq_true,beq_iff_eq,decide_eq_true_eq] at h1;rcases h1 with ((h1 | h1) | h1) | h1
 ·exact Or.inl h1
 ·exact Or.inr (Or.inl ⟨h1.1,h1.2.1,h1.2.2⟩)
 ·refine Or.inr (Or.inr (Or.inl ⟨h1.1.1.1,h1.1.1.2,?_,h1.2⟩));rcases h1.1.2 with (q | q) | q
  ·exact Or.inl q
  ·exact Or.inr (Or.inl q)
  ·exact Or.inr (Or.inr q)
 ·exact Or.inr (Or.inr (Or.inr h1))
theorem zKf:∀ (l:List Wt.Nd) (i:Nat),zBA [118] l i=true->∀ x ∈ l,isA x=false
 | [],i,h,x,hx=>by cases hx
 | y::r,i,h,x,hx=>by
  have e0:min i ([118]:List UInt8).length.pred=0:=by simp
  unfold zBA at h;have e1:([118]:List UInt8).getD (min i (([118]:List UInt8).length - 1)) 0=118:=by simp
  rw [e1] at h;cases hy:isA y with
  | true=>rw [hy] at h;simp at h
  | false =>
   rw [hy] at h;simp at h;rcases List.mem_cons.1 hx with rfl | hx
   ·exact hy
   ·exact zKf r (i+1) h x hx
theorem zJu:∀ (p:List UInt8) (l:List Wt.Nd) (i j:Nat) (hj:j<l.length),zBA p l i=true->p.getD (min (i+j) (p.length - 1)) 0=97->isA l[j]=true
 | p,[],i,j,hj,h,e=>by cases hj
 | p,y::r,i,0,hj,h,e=>by
  unfold zBA at h;rw [Nat.add_zero] at e;rw [e] at h;cases hy:isA y with
  | true=>simpa using hy
  | false=>rw [hy] at h;simp at h
 | p,y::r,i,j+1,hj,h,e=>by
  unfold zBA at h;split at h
  ·cases h
  ·have:=zJu p r (i+1) j (by simpa using hj) h (by rw [show i+1+j=i+(j+1) from by omega];exact e);simpa using this
theorem zMm:(List.range 8).all (λq=>let s:=zAP ((20+q:Nat):Int);let p:=s.p.data.toList;(List.range 3).any (λj=>decide ((j:Int)<s.l) && (p.getD (min j (p.length - 1)) 0 == 97)))=true:=by kernel_rfl
theorem zJt {id:Nat} (h1:20<=id) (h2:id<=27) {ks:List Wt.Nd} (hl:(zAP ((id:Nat):Int)).l<=(ks.length:Int)) (ht:zBA (zAP ((id:Nat):Int)).p.data.toList ks 0=true):0<(ks.filter isA).length:=by
 have h3:=List.all_eq_true.1 zMm (id - 20) (List.mem_range.2 (by omega));simp only [show 20+(id - 20)=id from by omega] at h3;obtain ⟨j,hj,h4⟩:=List.any_eq_true.1 h3;simp only [Bool.and_eq_true,decide_eq_true_eq,beq_iff_eq] at h4;have hjl:j<ks.length:=by omega
 have:=zJu _ ks 0 j hjl ht (by rw [Nat.zero_add];exact h4.2);exact List.length_pos_of_mem (List.mem_filter.2 ⟨List.getElem_mem hjl,this⟩)
theorem zBv:∀ {l:List Int},zQ0 l=0->∀ a ∈ l,a=0
 | [],h,a,ha=>by cases ha
 | b::r,h,a,ha=>by
  unfold zQ0 at h;by_cases hb:b=0
  ·rw [if_pos hb] at h;rcases List.mem_cons.1 ha with rfl | ha
   ·exact hb
   ·exact zBv h a ha
  ·rw [if_neg hb] at h;exact absurd h hb
theorem zEb {ks:List Wt.Nd} (h:zLr x ks=0):zBT ((zAu x.nm:Nat):Int)=true/\(zAP ((zAu x.nm:Nat):Int)).l<=x.ar/\zBA (zAP ((zAu x.nm:Nat):Int)).p.data.toList ks 0=true:=by
 unfold zLr at h;simp only at h;split at h
 ·omega
 ·rename_i hk
  split at h
  ·omega
  ·rename_i ha
   split at h
   ·omega
   ·rename_i ht
    exact ⟨by simpa using hk,by omega,by simpa using ht⟩
