/- Lemmas. -/
import Derived.Test.YtefkclbaflkheaaGreatDoorQ19
set_option maxHeartbeats 4000000
set_option maxRecDepth 100000
namespace Go.Proofs.YtefkclbaflkheaaGreatDoor
open Tryz
variable {w w' w1:World} {B:Nat} {va vb:Value} {LA LB:List (Wt.Nd × Value)} {id:Int} {hs:List Wt.Nd}
open Go.RowKit Wf
set_option linter.unusedVariables false
structure ApS (B:Nat) (w:World) (va vb:Value) (LA LB:List (Wt.Nd × Value)):Prop where
 a:OwnP w B va LA
 b:OwnP w B vb LB
 ne:∀ j,va.ownBlock=some j->¬ vb.ownBlock=some j
theorem ApS.below (h:ApS B w va vb LA LB) (hb:Below w.heap.size w w'):ApS B w' va vb LA LB:=⟨h.a.below hb,h.b.below hb,h.ne⟩
theorem ApS.symm (h:ApS B w va vb LA LB):ApS B w vb va LB LA:=⟨h.b,h.a,λj e f=>h.ne j f e⟩
theorem ApS.app {v':Value} {LC:List (Wt.Nd × Value)} (h:ApS B w va vb LA LB) (own:OwnP w1 B v' LC) (hg:w.grownBy w1 va.ownBlock) (hv:v'.ownBlock=va.ownBlock \/ v'.ownBlock=some w.heap.size):ApS B w1 v' vb LC LB:=by
 have f1:Fr va.ownBlock.toList w w1:=Fr.of_grown hg (λj e=>by simp [e]);refine ⟨own,zAW f1 h.b (λj e hm=>h.ne j (by simpa using hm) e),λj e f=>?_⟩;rcases hv with hv | hv
 ·exact h.ne j (by rw [<-hv];exact e) f
 ·rw [hv] at e;cases e
  have:=(zAK h.b f).2;omega
theorem ApS.fr (h:ApS B w va vb LA LB) (hg:w.grownBy w1 va.ownBlock) {w0:World} (h0:Below w0.heap.size w0 w) (hB:w0.heap.size<=B):Below w0.heap.size w0 w1 :=
 zCT h0 (Fr.of_grown (S:=va.ownBlock.toList) hg (λj e=>by simp [e])) (λj hj=>by have:=(zAK h.a (show va.ownBlock=some j by simpa using hj)).1;omega)
def ApP (L:List (Wt.Nd × Value)) (w:World) (e:Ending) (w':World):Prop:=(∃ va vb,e=.returned (.tuple #[va,vb])/\OwnP w' w.heap.size va (L.filter λp=>isA p.1)/\OwnP w' w.heap.size vb (L.filter λp=>!isA p.1))/\Below w.heap.size w w'
theorem zEX (L:List (Wt.Nd × Value)) (av:Option Addr) (m cap:Nat) (w:World) (hm:m=L.length) (hl:L.length<=30) (hsl:∀ q ∈ L,∃ a b c,q.2=.slice a b c) (hR:RdQ w av L):Calls prog 121 #[.slice av m cap] w (ApP L w):=by
 unfold ApP;have HM:Hid (m=L.length/\L.length<=30):=⟨hm,hl⟩
 have HSL:Hid (∀ q ∈ L,∃ a b c,q.2=.slice a b c):=hsl;have HR:Hid (RdQ w av L):=hR;clear hm hl hsl hR;go_enter func121,ntmps121;go_wp2_with fail
 go_loopg [2,3,5,8] m (λgk u2 u3 u5 x wr=>∃ (i:Nat) (va vb:Value),va=u2/\vb=u3/\x=.int .i64 (i:Int)/\gk=m - i/\i<=m/\Hid (ApS w.heap.size wr va vb ((L.take i).filter λp=>isA p.1) ((L.take i).filter λp=>!isA p.1))/\Hid (Below w.heap.size w wr))
 case atStart=>exact ⟨0,_,_,rfl,rfl,rfl,rfl,Nat.zero_le _,⟨OwnP.nil _ _,OwnP.nil _ _,λj e=>by cases e⟩,Below.refl _ _⟩
 case round =>
  obtain ⟨i,va,vb,rfl,rfl,rfl,hg,hi,HA,HB⟩:=hrel;by_cases hlt:i<m
  ·have hli:(i:Int)<(m:Int):=by omega
   have hiz:(0:Int)<=(i:Int):=by omega
   have hwi:IntKind.i64.wrap ((i:Int)+1)=(i:Int)+1:=by have:=HM.out;rw [IntKind.wrap_i64];omega
   have hln:i<L.length:=by have:=HM.out;omega
   obtain ⟨bb,off,rfl,hr⟩:=(HR.out.below HB.out) i hln;have hs1:=HSL.out L[i] (List.getElem_mem hln);have HT:Hid (L.take (i+1)=L.take i++[L[i]]):=(List.take_succ_eq_append_getElem hln:_=_)
   have HLL:Hid (∀ (f:Wt.Nd × Value->Bool),((L.take i).filter f).length<=1000):=(λf=>by
    have h1:=List.length_filter_le f (L.take i);have h2:(L.take i).length<=L.length:=by rw [List.length_take];omega
    have:=HM.out.2;omega:∀ (f:Wt.Nd × Value->Bool),((L.take i).filter f).length<=1000)
   obtain ⟨x,hx⟩:∃ x,L[i]=x:=⟨_,rfl⟩
   rw [hx] at hr hs1 HT;obtain ⟨x,sl⟩:=x;simp only at hr hs1;obtain ⟨sa,sb,sc,rfl⟩:=hs1;have IA:=λw=>zBY x (.slice sa sb sc) w
   clear hx hln;have hth:World.there (wr.alloc (.cells zeros21 64)) wr.heap.size 0 (zAN x (.slice sa sb sc)).toArray.size:=(AtL.new0 wr _ _:AtL (wr.alloc (.cells zeros21 64)) wr.heap.size zeros21.toList).there;have HPI:Hid (AtL ((wr.alloc (.cells zeros21 64)).setCells wr.heap.size 0 (zAN x (.slice sa sb sc))) wr.heap.size (zAN x (.slice sa sb sc))):=(AtL.new0 wr _ _:AtL (wr.alloc (.cells zeros21 64)) wr.heap.size zeros21.toList).setAll rfl;have HHB:Hid (Below wr.heap.size wr ((wr.alloc (.cells zeros21 64)).setCells wr.heap.size 0 (zAN x (.slice sa sb sc)))):=zAv (zAM (Below.refl _ wr) _) (Nat.le_refl _) _ 0;go_upto_region 4 with (first | (refine zAA (by rfl) 64 (.tmp 10) rfl bb (off+i * 21) rfl (zAN x (.slice sa sb sc)) _ hr underlying64 rfl (by kernel_rfl) ?_) | ((with_reducible refine wpList_store_mid ?_ 64 (.tmp 5) (.tmp 11) ?_ wr.heap.size 0 (zAN x (.slice sa sb sc)).toArray ?_ ?_ ?_ ?_ ?_ ?_);rfl;rfl;rfl;rfl;exact hth;kernel_rfl;exact zAk _ _ _ _))
   have HB2:Hid (Below w.heap.size w ((wr.alloc (.cells zeros21 64)).setCells wr.heap.size 0 (zAN x (.slice sa sb sc)))):=zAB HB.out HHB.out;have HA2:=HA.out.below HHB.out;have HA3:Hid (ApS w.heap.size ((wr.alloc (.cells zeros21 64)).setCells wr.heap.size 0 (zAN x (.slice sa sb sc))) va vb ((L.take i).filter λp=>isA p.1) ((L.take i).filter λp=>!isA p.1)):=HA2;clear hth hr HHB HA2 HA HB;generalize ((wr.alloc (.cells zeros21 64)).setCells wr.heap.size 0 (zAN x (.slice sa sb sc)))=W2 at *;obtain ⟨ib,hib⟩:∃ k,wr.heap.size=k:=⟨_,rfl⟩
   rw [hib] at HPI;simp only [hib];clear hib;have rI:=HPI.out.range;have IA2:=IA W2;clear IA;cases hb:isA x with
   | true =>
    rw [hb] at IA2;go_wp2_with (first | (refine zAA (by rfl) 64 (.tmp 5) rfl ib 0 rfl (zAN x (.slice sa sb sc)) _ rI underlying64 rfl (by kernel_rfl) ?_))
    refine IA2.mono ?_;rintro e w3 ⟨rfl,hb3⟩;have rI3:=zAF hb3 rI;have hb4:=zAB hb3 (zAM (Below.refl _ w3) (.cells (zAN x (.slice sa sb sc)).toArray 64));have HA4:Hid (ApS w.heap.size (w3.alloc (.cells (zAN x (.slice sa sb sc)).toArray 64)) va vb ((L.take i).filter λp=>isA p.1) ((L.take i).filter λp=>!isA p.1)):=HA3.out.below hb4;have HB4:Hid (Below w.heap.size w (w3.alloc (.cells (zAN x (.slice sa sb sc)).toArray 64))):=zAB HB2.out hb4;have HAT:Hid ((w3.alloc (.cells (zAN x (.slice sa sb sc)).toArray 64)).rangeAt w3.heap.size 0 (zAN x (.slice sa sb sc))):=(AtL.new0 w3 64 (zAN x (.slice sa sb sc))).range;clear hb3 hb4 rI HA3 HB2 HPI IA2;go_wp2_with (first
     | (refine zAA (by rfl) 64 (.tmp 5) rfl ib 0 rfl (zAN x (.slice sa sb sc)) _ rI3 underlying64 rfl (by kernel_rfl) ?_)
     | (refine zCC rfl (.tmp 15) rfl x sa sb sc rfl ?_;clear rI3)
     | (
       refine zCF rfl (.tmp 14) (.tmp 16) rfl (w3.alloc (.cells (zAN x (.slice sa sb sc)).toArray 64)) w.heap.size HB4.out.size va ((L.take i).filter λp=>isA p.1) rfl HA4.out.a w3.heap.size x sa sb sc rfl HAT.out (λ_=>HLL.out _) ?_;intro v7 w7 own7 hg7 hv7;have HA5:Hid (ApS w.heap.size w7 v7 vb ((L.take (i+1)).filter λp=>isA p.1) ((L.take (i+1)).filter λp=>!isA p.1)):=by
        show ApS _ _ _ _ _ _
        rw [HT.out,List.filter_append,List.filter_append,show [(x,Value.slice sa sb sc)].filter (λp=>isA p.1)=[(x,Value.slice sa sb sc)] from by simp [hb],show [(x,Value.slice sa sb sc)].filter (λp=>!isA p.1)=[] from by simp [hb],List.append_nil];exact HA4.out.app own7 hg7 hv7
       have HB5:Hid (Below w.heap.size w w7):=HA4.out.fr hg7 HB4.out (Nat.le_refl _);clear own7 hg7 hv7))
    go_roundg (m - (i+1))
    case rel=>exact ⟨i+1,_,_,rfl,rfl,by simp,rfl,hlt,HA5,HB5⟩
    case measure=>omega
   | false =>
    rw [hb] at IA2;go_wp2_with (first | (refine zAA (by rfl) 64 (.tmp 5) rfl ib 0 rfl (zAN x (.slice sa sb sc)) _ rI underlying64 rfl (by kernel_rfl) ?_))
    refine IA2.mono ?_;rintro e w3 ⟨rfl,hb3⟩;have rI3:=zAF hb3 rI;have hb4:=zAB hb3 (zAM (Below.refl _ w3) (.cells (zAN x (.slice sa sb sc)).toArray 64));have HA4:Hid (ApS w.heap.size (w3.alloc (.cells (zAN x (.slice sa sb sc)).toArray 64)) va vb ((L.take i).filter λp=>isA p.1) ((L.take i).filter λp=>!isA p.1)):=HA3.out.below hb4;have HB4:Hid (Below w.heap.size w (w3.alloc (.cells (zAN x (.slice sa sb sc)).toArray 64))):=zAB HB2.out hb4;have HAT:Hid ((w3.alloc (.cells (zAN x (.slice sa sb sc)).toArray 64)).rangeAt w3.heap.size 0 (zAN x (.slice sa sb sc))):=(AtL.new0 w3 64 (zAN x (.slice sa sb sc))).range;clear hb3 hb4 rI HA3 HB2 HPI IA2;go_wp2_with (first
     | (refine zAA (by rfl) 64 (.tmp 5) rfl ib 0 rfl (zAN x (.slice sa sb sc)) _ rI3 underlying64 rfl (by kernel_rfl) ?_)
     | (refine zCC rfl (.tmp 19) rfl x sa sb sc rfl ?_;clear rI3)
     | (
       refine zCF rfl (.tmp 18) (.tmp 20) rfl (w3.alloc (.cells (zAN x (.slice sa sb sc)).toArray 64)) w.heap.size HB4.out.size vb ((L.take i).filter λp=>!isA p.1) rfl HA4.out.b w3.heap.size x sa sb sc rfl HAT.out (λ_=>HLL.out _) ?_;intro v7 w7 own7 hg7 hv7;have HA5:Hid (ApS w.heap.size w7 va v7 ((L.take (i+1)).filter λp=>isA p.1) ((L.take (i+1)).filter λp=>!isA p.1)):=by
        show ApS _ _ _ _ _ _
        rw [HT.out,List.filter_append,List.filter_append,show [(x,Value.slice sa sb sc)].filter (λp=>isA p.1)=[] from by simp [hb],show [(x,Value.slice sa sb sc)].filter (λp=>!isA p.1)=[(x,Value.slice sa sb sc)] from by simp [hb],List.append_nil];exact (HA4.out.symm.app own7 hg7 hv7).symm
       have HB5:Hid (Below w.heap.size w w7):=HA4.out.symm.fr hg7 HB4.out (Nat.le_refl _);clear own7 hg7 hv7))
    go_roundg (m - (i+1))
    case rel=>exact ⟨i+1,_,_,rfl,rfl,by simp,rfl,hlt,HA5,HB5⟩
    case measure=>omega
  ·have hli:¬ (i:Int)<(m:Int):=by omega
   have HA2:Hid (ApS w.heap.size wr va vb (L.filter λp=>isA p.1) (L.filter λp=>!isA p.1)):=by
    show ApS _ _ _ _ _ _
    have hie:i=L.length:=by have:=HM.out;omega
    have:=HA.out;rw [hie,List.take_length] at this;exact this
   clear HA;go_wp2;go_ret2
   exact ⟨⟨_,_,rfl,HA2.out.a,HA2.out.b⟩,HB.out⟩
theorem zKN (L:List (Wt.Nd × Value)):zAe (L.map (·.1))=(L.filter λp=>isA p.1).map (·.1):=by
 unfold zAe;rw [List.filter_map];rfl
theorem zIg {L:List (Wt.Nd × Value)} (hp:Wc.pairs id=true) {A:List (Wt.Nd × Value)} (hA:(L.filter λp=>isA p.1)=A) (h0:0<A.length):zAd id (L.map (·.1))=shp (zBR (A[0]).1) (zBR (A[A.length - 1]).1):=by
 unfold zAd;rw [if_pos hp,zKN,hA];cases A with
 | nil=>cases h0
 | cons a r =>
  have e1:(((a::r).map (·.1)).headD ⟨0,v0I,0,⟨#[]⟩,0,Wt.r0,Wt.r0⟩)=a.1:=rfl;have e2:(((a::r).map (·.1)).getLastD ⟨0,v0I,0,⟨#[]⟩,0,Wt.r0,Wt.r0⟩)=((a::r)[(a::r).length - 1]).1:=by
   rw [List.getLastD_eq_getLast?,List.getLast?_eq_getElem?,List.length_map,List.getElem?_map,List.getElem?_eq_getElem (by simp)];rfl
  simp only [e1,e2];rfl
theorem zG0 (id:Int) (L:List (Wt.Nd × Value)) (av:Option Addr) (m cap:Nat) (w:World) (hm:m=L.length) (hl:L.length<=30) (hsl:∀ q ∈ L,∃ a b c,q.2=.slice a b c) (hR:RdQ w av L) (hne:Wc.pairs id=true->0<(L.filter λp=>isA p.1).length) (hrt:∀ q ∈ L,isA q.1=true->RtN q.1) :
  CR 117 #[.int .i64 id,.slice av m cap] w (.bool (zAd id (L.map (·.1)))):=by
 have PR:=zBp id w;cases hp:Wc.pairs id with
 | false =>
  have hq:zAd id (L.map (·.1))=true:=by unfold zAd;rw [hp];rfl
  rw [hq];rw [hp] at PR;clear hm hl hsl hR hne hrt hq;go_enter func117,ntmps117;go_wp2_with fail
  refine PR.mono ?_;rintro e w1 ⟨rfl,rfl⟩;go_wp2;go_ret;exact ⟨rfl,Below.refl _ _⟩
 | true =>
  rw [hp] at PR;have AP:=zEX L av m cap w hm hl hsl hR;obtain ⟨A,hA⟩:∃ A,(L.filter λp=>isA p.1)=A:=⟨_,rfl⟩
  have h0:=hne hp;rw [hA] at h0;have HQ:=zIg hp hA h0;unfold ApP at AP;rw [hA] at AP;have hrt2:∀ q ∈ A,RtN q.1:=λq hq=>by
   rw [<-hA] at hq;exact hrt q (List.mem_filter.1 hq).1 (List.mem_filter.1 hq).2
  have HAL:Hid (A.length<=30):=by
   show A.length<=30
   have:=List.length_filter_le (λp:Wt.Nd × Value=>isA p.1) L;rw [hA] at this;omega
  have RA:=λw=>zD6 (A[0]).1 w (hrt2 _ (List.getElem_mem h0))
  have RB:=λw=>zD6 (A[A.length - 1]).1 w (hrt2 _ (List.getElem_mem (by omega)))
  have SS:=λw=>zCL (zBR (A[0]).1) (zBR (A[A.length - 1]).1) w (zCx (hrt2 _ (List.getElem_mem h0))) (zCx (hrt2 _ (List.getElem_mem (by omega))))
  rw [HQ];clear HQ hm hl hsl hR hne hrt hrt2 hp;obtain ⟨xa,hxa⟩:∃ x,(A[0]).1=x:=⟨_,rfl⟩
  obtain ⟨xb,hxb⟩:∃ x,(A[A.length - 1]).1=x:=⟨_,rfl⟩
  rw [hxa] at RA;rw [hxb] at RB;rw [hxa,hxb] at SS;rw [hxa,hxb];obtain ⟨q,hq⟩:∃ q,shp (zBR xa) (zBR xb)=q:=⟨_,rfl⟩
  rw [hq] at SS;rw [hq];have HQ:Hid (q=q):=rfl;clear hq;generalize zBR xa=ra1 at *;generalize zBR xb=rb1 at *;have HXA:Hid (∀ h:0<A.length,(A[0]).1=xa):=(λ_=>hxa:∀ h:0<A.length,(A[0]).1=xa)
  have HXB:Hid (∀ h:A.length - 1<A.length,(A[A.length - 1]).1=xb):=(λ_=>hxb:∀ h:A.length - 1<A.length,(A[A.length - 1]).1=xb)
  have H0:Hid (0<A.length):=h0;clear hxa hxb h0;go_enter func117,ntmps117;go_wp2_with fail
  refine PR.mono ?_;rintro e w0 ⟨rfl,rfl⟩;go_wp2_with fail
  refine AP.mono ?_;rintro e w1 ⟨⟨va,vb,rfl,owa,owb⟩,hb1⟩;rcases OwnP.cases owa with ⟨_,e0⟩ | ⟨g,cp,rfl,hg1,hg2,hr⟩
  ·have:=H0.out;rw [e0] at this;cases this
  have ra:w1.rangeAt g 0 (zAG xa):=by
   have:=zCZ (hr 0 H0.out);rw [HXA.out H0.out,Nat.zero_mul] at this;exact this
  have rb:w1.rangeAt g ((A.length - 1) * 21) (zAG xb):=by
   have hlt:A.length - 1<A.length:=by have:=H0.out;omega
   have:=zCZ (hr _ hlt);rw [HXB.out hlt] at this;exact this
  have hB:=hb1;clear hr owa owb hb1 AP PR HXA HXB hA;have hk0:(0:Int)<(A.length:Int):=by have:=H0.out;omega
  have hk1:IntKind.i64.wrap ((A.length:Int) - 1)=((A.length - 1:Nat):Int):=by have:=H0.out;have:=HAL.out;rw [IntKind.wrap_i64];omega
  generalize A.length=k at *;have hk2:((k - 1:Nat):Int)<(k:Int):=by omega
  have hk3:(0:Int)<=((k - 1:Nat):Int):=by omega
  go_upto_region 4 with fail
  replace hB:=hB.drew
  replace ra:w1.drew.rangeAt g 0 (zAG xa):=ra
  replace rb:w1.drew.rangeAt g ((k - 1) * 21) (zAG xb):=rb
  refine wp_region_held_drew (S:=λW=>W.rangeAt g 0 (zAG xa)/\W.rangeAt g ((k - 1) * 21) (zAG xb)) (by kernel_rfl) ⟨ra,rb⟩ (λhHeld=>?_);generalize w1.drew=WD at *;refine tkQ 0 ?_
  refine wpAnyH_take (i:=1) (v:=?_) (atQ rfl) (by kernel_rfl) (by kernel_rfl) (by kernel_rfl) (λ_ _ _ h=>h) (Or.inl ⟨by rfl,?_⟩) (by assumption) ?_;rotate_left
  ·intro w hSw
   (try dsimp only at hSw)
   go_simp
   rw [if_pos (by have:=H0.out;omega)];try with_reducible rfl
  try simp only [Act.put,lA,lZ,lS]
  refine tkQ 2 ?_
  refine wpAnyH_take (i:=3) (v:=.agg (zAG xa).toArray) (atQ rfl) (by kernel_rfl) (by kernel_rfl) (by kernel_rfl) (λ_ _ _ h=>h) (yieldsIf_load_mid (by rfl) 35 (.tmp 17) rfl (g) (0) rfl (zAG xa) _ (λ_ h=>h.1) underlying35 rfl (by kernel_rfl)) (by assumption) ?_;try simp only [Act.put,lA,lZ,lS]
  refine tkQ 5 ?_
  refine tkQ 6 ?_
  refine tkQ 7 ?_
  refine tkQ 8 ?_
  refine tkQ 9 ?_
  refine tkQ 10 ?_
  refine wpAnyH_take (i:=11) (v:=.agg (zAG xb).toArray) (atQ rfl) (by kernel_rfl) (by kernel_rfl) (by kernel_rfl) (λ_ _ _ h=>h) (yieldsIf_load_mid (by rfl) 35 (.tmp 25) rfl (g) ((k - 1) * 21) rfl (zAG xb) _ (λ_ h=>h.2) underlying35 rfl (by kernel_rfl)) (by assumption) ?_;try simp only [Act.put,lA,lZ,lS]
  refine rdQ 4 (λK hK=>?_);go_simp
  refine (RA _).mono ?_;rintro e w2 ⟨rfl,hb2⟩;go_wp2_with fail
  replace ra:=zAF hb2 ra
  replace rb:=zAF hb2 rb
  replace hB:=zAB hB hb2
  refine hkQ hK ⟨ra,rb⟩ (λhHeld=>?_);clear hK K
  refine rdQ 12 (λK hK=>?_);go_simp
  refine (RB _).mono ?_;rintro e w3 ⟨rfl,hb3⟩;go_wp2_with fail
  replace ra:=zAF hb3 ra
  replace rb:=zAF hb3 rb
  replace hB:=zAB hB hb3
  refine hkQ hK ⟨ra,rb⟩ (λhHeld=>?_);clear hK K
  refine rdQ 13 (λK hK=>?_);go_simp
  refine (SS _).mono ?_;rintro e w4 ⟨rfl,hb4⟩;go_wp2_with fail
  replace ra:=zAF hb4 ra
  replace rb:=zAF hb4 rb
  replace hB:=zAB hB hb4
  refine hkQ hK ⟨ra,rb⟩ (λhHeld=>?_);clear hK K
  refine rdQ 14 (λK hK=>?_);go_simp
  refine hkQ hK ⟨ra,rb⟩ (λhHeld=>?_);clear hK K
  refine wpAnyH_done (by kernel_rfl) ?_ _;clear hHeld ra rb;go_wp2;go_ret;exact ⟨rfl,hB⟩
theorem zGU:(List.range 64).all (λk=>let s:=(zAJ (k:Nat)).p.size;decide (0<s) && decide (s<=10))=true:=by kernel_rfl
theorem zEI (s:ByteArray):0<(zAJ (zA1 s:Nat)).p.size/\(zAJ (zA1 s:Nat)).p.size<=10:=by
 have:=List.all_eq_true.1 zGU (zA1 s) (List.mem_range.2 (by have:=zIR s;omega));simpa using this
theorem zGa {ks:List Wt.Nd} (hp:Wc.pairs id=true) (hl:(zAJ id).l<=(ks.length:Int)) (ht:zA0 (zAJ id).p.data.toList ks 0=true):0<(ks.filter isA).length:=by
 have hid:id=22 \/ id=23 \/ id=24:=by
  simp only [Wc.pairs,Bool.or_eq_true,beq_iff_eq] at hp;exact hp
 have ha:∃ x ∈ ks,isA x=true:=by
  rcases hid with rfl | rfl | rfl
  ·have hl2:(2:Int)<=(ks.length:Int):=hl;match ks,ht with
   | x::r,ht =>
    refine ⟨x,List.mem_cons_self ..,?_⟩;cases hx:isA x with
    | true=>rfl
    | false =>
     have:zA0 (zAJ 22).p.data.toList (x::r) 0=false:=by
      simp only [zA0,hx];rfl
     rw [this] at ht;cases ht
  ·have hl2:(3:Int)<=(ks.length:Int):=hl;match ks,ht with
   | x::y::r,ht =>
    refine ⟨y,List.mem_cons_of_mem _ (List.mem_cons_self ..),?_⟩;cases hy:isA y with
    | true=>rfl
    | false =>
     have:zA0 (zAJ 23).p.data.toList (x::y::r) 0=false:=by
      cases hx:isA x with
      | true =>
       simp only [zA0,hx];rfl
      | false =>
       have e1:zA0 (zAJ 23).p.data.toList (x::y::r) 0=zA0 (zAJ 23).p.data.toList (y::r) 1:=by
        simp only [zA0,hx];rfl
       rw [e1];simp only [zA0,hy];rfl
     rw [this] at ht;cases ht
  ·have hl2:(2:Int)<=(ks.length:Int):=hl;match ks,ht with
   | x::r,ht =>
    refine ⟨x,List.mem_cons_self ..,?_⟩;cases hx:isA x with
    | true=>rfl
    | false =>
     have:zA0 (zAJ 24).p.data.toList (x::r) 0=false:=by
      simp only [zA0,hx];rfl
     rw [this] at ht;cases ht
 obtain ⟨x,hx,hi⟩:=ha;exact List.length_pos_of_mem (List.mem_filter.2 ⟨hx,hi⟩)
theorem zJp (x:Wt.Nd) (L:List (Wt.Nd × Value)) (av:Option Addr) (m cap:Nat) (w:World) (hN:NmAt w) (hm:m=L.length) (hl:L.length<=30) (har:x.ar=(L.length:Int)) (hsl:∀ q ∈ L,∃ a b c,q.2=.slice a b c) (hR:RdQ w av L) (hrt:∀ q ∈ L,isA q.1=true->RtN q.1) :
  CR 80 #[.agg (zAN x (.slice av m cap)).toArray] w (.int .i64 (zDC x (L.map (·.1)))):=by
 have hpl:=zEI x.nm;have hb0:=zAM (Below.refl _ w) (.cells (zAN x (.slice av m cap)).toArray 64);have pP:=AtL.new0 w 64 (zAN x (.slice av m cap));have OF:=zFZ x.nm _ (hN.below hb0);have HTK:Hid (∀ (a1 a2:Int) (a3:ByteArray) (a4 a5:Int) (w2:World),RdQ w2 av L->Calls prog 116 #[.agg (sg6 a1 a2 a3 a4 a5 (zAJ (zA1 x.nm:Nat)).p).toArray,.slice av m cap] w2 λe w'=>e=.returned (.bool (zA0 (zAJ (zA1 x.nm:Nat)).p.data.toList (L.map (·.1)) 0))/\Below w2.heap.size w2 w'):=λa1 a2 a3 a4 a5 w2 h=>zIq a1 a2 a3 a4 a5 _ L av m cap w2 hpl hm hl hsl h
 have HSH:Hid ((zAJ (zA1 x.nm:Nat)).l<=x.ar->zA0 (zAJ (zA1 x.nm:Nat)).p.data.toList (L.map (·.1)) 0=true->∀ (w2:World),RdQ w2 av L->Calls prog 117 #[.int .i64 (zA1 x.nm:Nat),.slice av m cap] w2 λe w'=>e=.returned (.bool (zAd (zA1 x.nm:Nat) (L.map (·.1))))/\Below w2.heap.size w2 w'):=λh1 h2 w2 h=>zG0 _ L av m cap w2 hm hl hsl h (λhp=>by
  have:=zGa (ks:=L.map (·.1)) hp (by rw [List.length_map,<-har];exact h1) h2;rw [List.filter_map,List.length_map] at this;exact this) hrt
 have HR0:Hid (RdQ (w.alloc (.cells (zAN x (.slice av m cap)).toArray 64)) av L):=hR.below hb0;unfold zDC;simp only;generalize L.map (·.1)=ks at *;have c8:=pP.2.1 8 (.string x.nm) rfl;clear hpl hN hm hl hsl hR hrt har;unfold zCs at OF;generalize zAd (zA1 x.nm:Nat) ks=qs at *;generalize zA0 (zAJ (zA1 x.nm:Nat)).p.data.toList ks 0=qt at *;generalize hnm:zE7 (zA1 x.nm:Nat)=nmv at *;generalize zAJ (zA1 x.nm:Nat)=sh at *;generalize zAb (zA1 x.nm:Nat)=kb at *;generalize hid:((zA1 x.nm:Nat):Int)=id at *;clear hnm hid;obtain ⟨q,hq⟩:∃ q:Int,(if kb=false then 80 else if x.ar<sh.l \/ sh.m<x.ar then 81 else if qt=false then 82 else if qs=false then 83 else 0)=q:=⟨_,rfl⟩
 rw [hq];have HQ:Hid ((if kb=false then 80 else if x.ar<sh.l \/ sh.m<x.ar then 81 else if qt=false then 82 else if qs=false then 83 else 0)=q):=hq;clear hq;go_enter func80,ntmps80;go_upto_region 1 with fail
 generalize (w.alloc (.cells (zAN x (.slice av m cap)).toArray 64))=W at *;go_wp2_with fail
 refine OF.mono ?_;rintro e w1 ⟨rfl,hb1⟩;have HR1:Hid (RdQ w1 av L):=HR0.out.below hb1;have HP1:Hid (AtL w1 w.heap.size (zAN x (.slice av m cap))):=AtL.below hb1 pP;have HB1:Hid (Below w.heap.size w w1):=zAB hb0 hb1;clear OF c8 pP hb0 hb1 HR0;cases kb with
 | false =>
  have hq:q=80:=by rw [<-HQ.out];rfl
  subst hq;clear HQ HTK HSH HR1 HP1;simp only [Bool.false_eq_true,if_false,zero6];have hB:=HB1.out;go_wp2;go_ret;exact ⟨rfl,(clB hB)⟩
 | true =>
  simp only [if_true];have hb2:=zAM (Below.refl _ w1) (.cells (sg6 id sh.c ⟨nmv.toArray⟩ sh.l sh.m sh.p).toArray 108);have pS:=AtL.new0 w1 108 (sg6 id sh.c ⟨nmv.toArray⟩ sh.l sh.m sh.p);have HR2:Hid (RdQ (w1.alloc (.cells (sg6 id sh.c ⟨nmv.toArray⟩ sh.l sh.m sh.p).toArray 108)) av L):=HR1.out.below hb2;have pP2:=AtL.below hb2 HP1.out;have hB2:=zAB HB1.out hb2;have HTK2:Hid (∀ w2:World,RdQ w2 av L->Calls prog 116 #[.agg (sg6 id sh.c ⟨nmv.toArray⟩ sh.l sh.m sh.p).toArray,.slice av m cap] w2 λe w'=>e=.returned (.bool qt)/\Below w2.heap.size w2 w'):=λw2 h=>HTK.out _ _ _ _ _ w2 h
  clear hb2 HR1 HP1 HB1 HTK;generalize (⟨nmv.toArray⟩:ByteArray)=nv at *;go_upto_region 2 with fail
  generalize (w1.alloc (.cells (sg6 id sh.c nv sh.l sh.m sh.p).toArray 108))=W2 at *;have p9:=pP2.2.1 9 (.int .i64 x.ar) rfl;have p20:=pP2.2.1 20 (.slice av m cap) rfl;obtain ⟨sb,hsb⟩:∃ k,w1.heap.size=k:=⟨_,rfl⟩
  rw [hsb] at pS;simp only [hsb];clear hsb;obtain ⟨b0,b1,b2,b3,b4,b5,k0,k1,k2,k3,k4,k5⟩:=at6 pS;by_cases h1:x.ar<sh.l
  ·have hq:q=81:=by rw [<-HQ.out];simp [h1]
   subst hq;go_wp2;go_ret;exact ⟨rfl,hB2⟩
  by_cases h2:sh.m<x.ar
  ·have hq:q=81:=by rw [<-HQ.out];simp [h2]
   subst hq;go_wp2;go_ret;exact ⟨rfl,hB2⟩
  have HTT:=HTK2.out W2 HR2.out;go_wp2_with fail
  refine HTT.mono ?_;rintro e w3 ⟨rfl,hb3⟩;have HR3:Hid (RdQ w3 av L):=HR2.out.below hb3;replace pP2:=AtL.below hb3 pP2
  replace pS:=AtL.below hb3 pS
  replace hB2:=zAB hB2 hb3
  clear HTT hb3 HTK2 HR2 p9 p20 b0 b1 b2 b3 b4 b5 k0 k1 k2 k3 k4 k5;have p20:=pP2.2.1 20 (.slice av m cap) rfl;have b0:=pS.2.1 0 (.int .i64 id) rfl;cases qt with
  | false =>
   have hq:q=82:=by rw [<-HQ.out];simp [h1,h2]
   subst hq;go_wp2;go_ret;exact ⟨rfl,hB2⟩
  | true =>
   have SS:=HSH.out (by omega) rfl w3 HR3.out;go_wp2_with fail
   refine SS.mono ?_;rintro e w4 ⟨rfl,hb4⟩;replace hB2:=zAB hB2 hb4
   clear hb4 SS;cases qs with
   | false =>
    have hq:q=83:=by rw [<-HQ.out];simp [h1,h2]
    subst hq;go_wp2;go_ret;exact ⟨rfl,hB2⟩
   | true =>
    have hq:q=0:=by rw [<-HQ.out];simp [h1,h2]
    subst hq;go_wp2;go_ret;exact ⟨rfl,hB2⟩
theorem ySb {bk ok p q kp kq bb off:Nat} {yp yq:Wt.Nd} (hb:Below w.heap.size w w') (h:w.cell? ⟨bk,ok+p,none⟩=some (.int .i64 (kp:Int))/\w.cell? ⟨bk,ok+q,none⟩=some (.int .i64 (kq:Int))/\w.rangeAt bb (off+kp * 20) (zAG yp)/\w.rangeAt bb (off+kq * 20) (zAG yq)) :
  w'.cell? ⟨bk,ok+p,none⟩=some (.int .i64 (kp:Int))/\w'.cell? ⟨bk,ok+q,none⟩=some (.int .i64 (kq:Int))/\w'.rangeAt bb (off+kp * 20) (zAG yp)/\w'.rangeAt bb (off+kq * 20) (zAG yq) :=
 ⟨zAC hb h.1,zAC hb h.2.1,zAF hb h.2.2.1,zAF hb h.2.2.2⟩
theorem zLr {x:Wt.Nd} {s:Sg} (hs':s ∈ allS) (hn:s.nm=x.nm):zDC x hs=if x.ar<s.l \/ s.m<x.ar then 81 else if zA0 s.p.data.toList hs 0=false then 82 else if zAd s.id hs=false then 83 else 0:=by
 have h1:=(zBD hs').1;have h2:=(zBD hs').2;obtain ⟨h3,h4,h5,h6⟩:=zBP hs';rw [hn] at h1;unfold zDC;simp only [h1,h2,h3,h5,h6];rfl
theorem zGb {p:ByteArray} {j:Nat} (h:j<hs.length):zA0 p.data.toList (hs.drop j) j=if (ltP p j == 97 && !isA hs[j]) || (ltP p j == 118 && isA hs[j]) then false else zA0 p.data.toList (hs.drop (j+1)) (j+1):=by
 rw [List.drop_eq_getElem_cons h];rfl
theorem zLC (n bb off cap i:Nat) (own:Int) (v2:Value) (w:World) (x:Wt.Nd) (hs:List Wt.Nd) (ks:List Nat) (h6:x.k=6) (hi:i<n) (hx:w.rangeAt bb (off+i * 20) (zAG x)) (av2:Option Addr) (m2 cap2:Nat) (hv2:v2=.slice av2 m2 cap2)
  (hST:∀ W:World,Below w.heap.size w W->Calls prog 52 #[.slice (some ⟨bb,off,none⟩) n cap,.int .i64 (i:Int)] W λe w'=>∃ v,e=.returned v/\x5_OwnI w' W.heap.size v ks/\Below W.heap.size W w')
  (hKL:(ks.length:Int)=x.ar/\ks.length<=30) (hKN:hs.length=ks.length) (hKR:∀ y ∈ hs,Wt.right y=true)
  (hKA:∀ j (hj:j<ks.length) (hj2:j<hs.length),ks[j] < n/\w.rangeAt bb (off+ks[j] * 20) (zAG hs[j])) :
  CR 31 #[.slice (some ⟨bb,off,none⟩) n cap,.int .i64 (i:Int),.int .i64 own,v2] w (.int .i64 (zDC x hs)):=by
 subst hv2;have hb0:Below w.heap.size w ((w.alloc (.cells zN0 35)).setCells w.heap.size 0 (zAG x)):=zAv (zAM (Below.refl _ w) _) (Nat.le_refl _) _ 0;have hth:World.there (w.alloc (.cells zN0 35)) w.heap.size 0 (zAG x).toArray.size:=(AtL.new0 w 35 [.int .i64 0,.int .i64 0,.int .i64 0,.int .i64 0,.string ⟨#[]⟩,.bool false,.int .i64 0,.int .i64 0,.string ⟨#[]⟩,.int .i64 0,.string ⟨#[]⟩,.int .i64 0,.int .i64 0,.bool false,.bool false,.string ⟨#[]⟩,.int .i64 0,.int .i64 0,.bool false,.bool false]).there;have pX:AtL ((w.alloc (.cells zN0 35)).setCells w.heap.size 0 (zAG x)) w.heap.size (zAG x):=(AtL.new0 w 35 [.int .i64 0,.int .i64 0,.int .i64 0,.int .i64 0,.string ⟨#[]⟩,.bool false,.int .i64 0,.int .i64 0,.string ⟨#[]⟩,.int .i64 0,.string ⟨#[]⟩,.int .i64 0,.int .i64 0,.bool false,.bool false,.string ⟨#[]⟩,.int .i64 0,.int .i64 0,.bool false,.bool false]).setAll rfl;have ST:=hST _ hb0;have HKL:Hid ((ks.length:Int)=x.ar/\ks.length<=30):=hKL;have HKA:Hid (∀ j (hj:j<ks.length) (hj2:j<hs.length),ks[j] < n/\w.rangeAt bb (off+ks[j] * 20) (zAG hs[j])):=hKA;have HKN:Hid (hs.length=ks.length):=hKN;have HKR:Hid (∀ y ∈ hs,Wt.right y=true):=hKR;have hi0:(0:Int)<=(i:Int):=by omega
 have hi1:(i:Int)<(n:Int):=by omega
 obtain ⟨z,hz⟩:∃ z,zDC x hs=z:=⟨_,rfl⟩
 rw [hz];have HZ:Hid (zDC x hs=z):=hz;clear hST hKL hKN hKA hKR hi hz;go_enter func31,ntmps31;go_upto_region 2 with (first | (refine zAA (by rfl) 35 (.tmp 21) rfl bb (off+i * 20) rfl (zAG x) _ hx underlying35 rfl (by kernel_rfl) ?_) | ((with_reducible refine wpList_store_mid ?_ 35 (.tmp 9) (.tmp 22) ?_ w.heap.size 0 (zAG x).toArray ?_ ?_ ?_ ?_ ?_ ?_);rfl;rfl;rfl;rfl;exact hth;kernel_rfl;exact zC6 _))
 generalize ((w.alloc (.cells zN0 35)).setCells w.heap.size 0 (zAG x))=W at *;clear hth hx;go_wp2_with fail
 refine ST.mono ?_;rintro e w1 ⟨v,rfl,own1,hb1⟩;obtain ⟨avk,capk,rfl,hrk⟩:=zCa own1;have pX1:=AtL.below hb1 pX;have hB1:=zAB hb0 hb1;have c0:=pX1.2.1 0 (.int .i64 x.k) rfl;have c8:=pX1.2.1 8 (.string x.nm) rfl;rw [h6] at c0;have RO:=zG3 (λw=>zBI w) x.nm w1;obtain ⟨kn,hkn⟩:∃ kn,zAb (zA1 x.nm:Nat)=kn:=⟨_,rfl⟩
 rw [hkn] at RO;have HK:Hid (zAb (zA1 x.nm:Nat)=kn):=hkn;clear ST own1 hb1 hb0 pX h6 hkn;go_wp2_with fail
 refine RO.mono ?_;rintro e w2 ⟨⟨s,rfl,hsk⟩,hb2⟩;have pX2:=AtL.below hb2 pX1;have hrk2:=hrk.below hb2;have hB2:=zAB hB1 hb2;have hb3:Below w2.heap.size w2 ((w2.alloc (.cells (sg6 0 0 ⟨#[]⟩ 0 0 ⟨#[]⟩).toArray 108)).setCells w2.heap.size 0 (sg6 s.id s.c s.nm s.l s.m s.p)):=zAv (zAM (Below.refl _ w2) _) (Nat.le_refl _) _ 0;have hth:World.there (w2.alloc (.cells (sg6 0 0 ⟨#[]⟩ 0 0 ⟨#[]⟩).toArray 108)) w2.heap.size 0 (sg6 s.id s.c s.nm s.l s.m s.p).toArray.size:=(AtL.new0 w2 108 (sg6 0 0 ⟨#[]⟩ 0 0 ⟨#[]⟩)).there;have pS:AtL ((w2.alloc (.cells (sg6 0 0 ⟨#[]⟩ 0 0 ⟨#[]⟩).toArray 108)).setCells w2.heap.size 0 (sg6 s.id s.c s.nm s.l s.m s.p)) w2.heap.size (sg6 s.id s.c s.nm s.l s.m s.p):=(AtL.new0 w2 108 (sg6 0 0 ⟨#[]⟩ 0 0 ⟨#[]⟩)).setAll rfl;have pX3:=AtL.below hb3 pX2;have hrk3:=hrk2.below hb3;have hB3:=zAB hB2 hb3;clear hb2 pX1 hrk hB1 pX2 hrk2 hB2 RO c0 c8 hb3;go_upto_region 19 with (first | ((with_reducible refine wpList_store_mid ?_ 108 (.tmp 12) (.tmp 69) ?_ w2.heap.size 0 (sg6 s.id s.c s.nm s.l s.m s.p).toArray ?_ ?_ ?_ ?_ ?_ ?_);rfl;rfl;rfl;rfl;exact hth;kernel_rfl;exact zJ5 _ _ _ _ _ _))
 generalize ((w2.alloc (.cells (sg6 0 0 ⟨#[]⟩ 0 0 ⟨#[]⟩).toArray 108)).setCells w2.heap.size 0 (sg6 s.id s.c s.nm s.l s.m s.p))=W3 at *;clear hth;cases kn with
 | false =>
  have HE:Hid (80=z):=by
   show _=_
   rw [<-HZ.out];unfold zDC;simp only [HK.out];rfl
  clear HZ;go_wp2;go_ret;exact ⟨congrArg (λz=>Ending.returned (Value.int .i64 z)) (by rw [<-HE.out]:(80:Int)=z),hB3⟩
 | true =>
  obtain ⟨hmem,hnm⟩:=hsk rfl;have HE:Hid ((if x.ar<s.l \/ s.m<x.ar then 81 else if zA0 s.p.data.toList hs 0=false then 82 else if zAd s.id hs=false then 83 else 0)=z):=by show _=_;rw [<-HZ.out,zLr hmem hnm]
  have HM:Hid (s ∈ allS):=hmem;have HPS:Hid (0<s.p.size/\s.p.size<=10):=by
   have h1:=zEI x.nm;rw [<-hnm,(zBD hmem).1,(zBD hmem).2] at h1;exact h1
  have a9:=pX3.2.1 9 (.int .i64 x.ar) rfl;have s3:=pS.2.1 3 (.int .i64 s.l) rfl;have s4:=pS.2.1 4 (.int .i64 s.m) rfl;clear HZ hsk hnm hmem;by_cases hl1:x.ar<s.l
  ·go_wp2;go_ret;exact ⟨congrArg (λz=>Ending.returned (Value.int .i64 z)) (by rw [<-HE.out,if_pos (Or.inl (by omega))]:(81:Int)=z),hB3⟩
  by_cases hl2:s.m<x.ar
  ·go_wp2;go_ret;exact ⟨congrArg (λz=>Ending.returned (Value.int .i64 z)) (by rw [<-HE.out,if_pos (Or.inr (by omega))]:(81:Int)=z),hB3⟩
  have HE2:Hid ((if zA0 s.p.data.toList hs 0=false then 82 else if zAd s.id hs=false then 83 else 0)=z):=by
   have:=HE.out;rw [if_neg (by omega)] at this;exact this
  have HLM:Hid (s.l<=x.ar/\x.ar<=s.m):=⟨by omega,by omega⟩
  obtain ⟨qt,hqt⟩:∃ q,zA0 s.p.data.toList hs 0=q:=⟨_,rfl⟩
  have HQT:Hid (zA0 s.p.data.toList hs 0=qt):=hqt;have HQ0:Hid (zA0 s.p.data.toList (hs.drop 0) 0=qt):=hqt;have HAX:Hid (AtL W3 w.heap.size (zAG x)):=pX3;have HAS:Hid (AtL W3 w2.heap.size (sg6 s.id s.c s.nm s.l s.m s.p)):=pS;have HRK:Hid (RdJ W3 avk ks):=hrk3;have HB3:Hid (Below w.heap.size w W3):=hB3;have hwl:(ks.length:Int)<=30:=by have:=HKL.out.2;omega
  clear HE hqt pX3 pS hrk3 hB3;go_wp2_with fail
  clear a9 s3 s4 hl1 hl2;go_loopg [14,15,16] ks.length (λgk y u15 u16 wr=>∃ j:Nat,y=.int .i64 (j:Int)/\gk=ks.length - j/\j<=ks.length/\Hid (zA0 s.p.data.toList (hs.drop j) j=qt)/\Hid (Below W3.heap.size W3 wr))
  case atStart=>exact ⟨0,rfl,rfl,Nat.zero_le _,HQ0,Below.refl _ _⟩
  case round =>
   clear HQ0;obtain ⟨j,rfl,hg,hj,HP,HBr⟩:=hrel;by_cases hlt:j<ks.length
   ·have hli:(j:Int)<(ks.length:Int):=by omega
    have hjz:(0:Int)<=(j:Int):=by omega
    have hwj:IntKind.i64.wrap ((j:Int)+1)=(j:Int)+1:=by rw [IntKind.wrap_i64];omega
    have hj2:j<hs.length:=by have:=HKN.out;omega
    obtain ⟨hq,he⟩:=HKA.out j hlt hj2;obtain ⟨bk,ok,rfl,hck0⟩:=HRK.out j hlt;have hck:=zAC HBr.out hck0;have hcy:=zAC HBr.out (zAC HB3.out (he 0 _ rfl));have rS:=zAF HBr.out HAS.out.range;have LT:=zEl s.id s.c s.nm s.l s.m s.p j wr HPS.out;have HST:Hid ((if (ltP s.p j == 97 && !isA hs[j]) || (ltP s.p j == 118 && isA hs[j]) then false else zA0 s.p.data.toList (hs.drop (j+1)) (j+1))=qt):=by
     show _=_
     rw [<-zGb hj2];exact HP.out
    have hq0:(0:Int)<=(ks[j]:Int):=by omega
    have hq1:(ks[j]:Int)<(n:Int):=by omega
    simp only [Nat.add_zero] at hcy;generalize hs[j]=y at *;generalize ks[j]=q at *;generalize ltP s.p j=c at *;clear HP he hck0 hj2 hq;go_wp2_with (first | (refine zAA (by rfl) 108 (.tmp 12) rfl w2.heap.size 0 rfl (sg6 s.id s.c s.nm s.l s.m s.p) _ rS underlying108 rfl (by kernel_rfl) ?_))
    refine LT.mono ?_;rintro e w5 ⟨rfl,hb5⟩;replace hck:=zAC hb5 hck
    replace hcy:=zAC hb5 hcy
    have HB5:Hid (Below W3.heap.size W3 w5):=zAB HBr.out hb5;obtain ⟨cn,hcn⟩:∃ cn:Int,((c.toNat:Nat):Int)=cn:=⟨_,rfl⟩
    have HC:Hid ((c=97 ↔ cn=97)/\(c=118 ↔ cn=118)):=by
     constructor
     ·constructor
      ·rintro rfl;rw [<-hcn];rfl
      ·intro h;refine Decidable.byContradiction λh2=>zJ8 h2 ?_;show c.toNat=97;omega
     ·constructor
      ·rintro rfl;rw [<-hcn];rfl
      ·intro h;refine Decidable.byContradiction λh2=>zJ8 h2 ?_;show c.toNat=118;omega
    rw [hcn];clear LT rS hb5 HBr hcn;have HGO:Hid (((cn=97/\¬ y.k=3) \/ (cn=118/\y.k=3))->false=qt):=λh=>by
     have:=HST.out;rw [if_pos] at this
     ·exact this
     ·rcases h with ⟨h1,h2⟩ | ⟨h1,h2⟩
      ·have:=HC.out.1.2 h1;subst this;simp [isA,h2]
      ·have:=HC.out.2.2 h1;subst this;simp [isA,h2]
    have HNO:Hid (¬ ((cn=97/\¬ y.k=3) \/ (cn=118/\y.k=3))->zA0 s.p.data.toList (hs.drop (j+1)) (j+1)=qt):=λh=>by
     have:=HST.out;rw [if_neg] at this
     ·exact this
     ·intro h2;refine h ?_;simp only [isA,Bool.or_eq_true,Bool.and_eq_true,beq_iff_eq,Bool.not_eq_true'] at h2;rcases h2 with ⟨h3,h4⟩ | ⟨h3,h4⟩
      ·exact Or.inl ⟨HC.out.1.1 h3,λh5=>by simp [h5] at h4⟩
      ·exact Or.inr ⟨HC.out.2.1 h3,h4⟩
    clear HST HC;by_cases hy:y.k=3
    ·rw [hy] at hcy;by_cases h118:cn=118
     ·subst h118;have HQ:Hid (false=qt):=HGO.out (Or.inr ⟨rfl,hy⟩);clear HGO HNO;go_wp2;go_ret;exact ⟨congrArg (λz=>Ending.returned (Value.int .i64 z)) (by rw [<-HE2.out,HQT.out,<-HQ.out];rfl:(82:Int)=z),zAB HB3.out HB5.out⟩
     ·have HP2:Hid (zA0 s.p.data.toList (hs.drop (j+1)) (j+1)=qt):=HNO.out (λh=>by rcases h with ⟨_,h⟩ | ⟨h,_⟩;exact h hy;exact h118 h);clear HGO HNO hy;by_cases h97:cn=97
      ·subst h97;clear h118;go_wp2_with fail
       go_roundg (ks.length - (j+1))
       case rel=>exact ⟨j+1,by simp,rfl,hlt,HP2,HB5⟩
       case measure=>omega
      ·go_wp2_with fail
       go_roundg (ks.length - (j+1))
       case rel=>exact ⟨j+1,by simp,rfl,hlt,HP2,HB5⟩
       case measure=>omega
    ·by_cases h97:cn=97
     ·subst h97;have HQ:Hid (false=qt):=HGO.out (Or.inl ⟨rfl,hy⟩);clear HGO HNO;go_wp2;go_ret;exact ⟨congrArg (λz=>Ending.returned (Value.int .i64 z)) (by rw [<-HE2.out,HQT.out,<-HQ.out];rfl:(82:Int)=z),zAB HB3.out HB5.out⟩
     ·have HP2:Hid (zA0 s.p.data.toList (hs.drop (j+1)) (j+1)=qt):=HNO.out (λh=>by rcases h with ⟨h,_⟩ | ⟨_,h⟩;exact h97 h;exact hy h);clear HGO HNO;by_cases h118:cn=118
      ·subst h118;clear h97;go_wp2_with fail
       go_roundg (ks.length - (j+1))
       case rel=>exact ⟨j+1,by simp,rfl,hlt,HP2,HB5⟩
       case measure=>omega
      ·go_wp2_with fail
       go_roundg (ks.length - (j+1))
       case rel=>exact ⟨j+1,by simp,rfl,hlt,HP2,HB5⟩
       case measure=>omega
   ·have hli:¬ (j:Int)<(ks.length:Int):=by omega
    have HQ:Hid (true=qt):=by
     have:=HP.out;rw [List.drop_eq_nil_of_le (by have:=HKN.out;omega)] at this;exact this
    have HE3:Hid ((if zAd s.id hs=false then 83 else 0)=z):=by
     have:=HE2.out;rw [HQT.out,<-HQ.out] at this;exact this
    have hsp:=zGc s.id hs (by
     obtain ⟨_,_,e1,e2⟩:=zBP HM.out;rw [e1,e2];have h1:=HLM.out;have h2:=HKL.out.1;have h3:=HKN.out;omega) (by rw [(zBD HM.out).2,HQT.out];exact HQ.out.symm)
    have hpx:(hs.length:Int)=x.ar:=by have h2:=HKL.out.1;have h3:=HKN.out;omega
    rw [hpx] at hsp;have RP:=zGu s.id x.ar wr;have s0:=zAC HBr.out (HAS.out.2.1 0 (.int .i64 s.id) rfl);have a9:=zAC HBr.out (HAX.out.2.1 9 (.int .i64 x.ar) rfl);have hB7:=zAB HB3.out HBr.out;clear HP HE2 HQT HQ hpx;go_wp2_with fail
    refine RP.mono ?_;rintro e W7 ⟨rfl,rfl⟩;clear RP s0 a9;rcases hsp with ⟨e1,e2⟩ | ⟨p,q,hp,hq,e1,e2,e3,e4⟩
    ·have HF:Hid (0=z):=by have:=HE3.out;rw [e2] at this;exact this
     rw [e1];clear HE3 e1 e2;go_upto_region 31 with fail
     refine wp_region_held_drew (S:=λ_=>True) (by kernel_rfl) trivial (λhHeld=>?_);refine tkQ 0 ?_
     refine tkQ 1 ?_
     refine tkQ 2 ?_
     refine tnQ 3 ?_
     refine tnQ 4 ?_
     refine tnQ 5 ?_
     refine tnQ 6 ?_
     refine tnQ 7 ?_
     refine tnQ 8 ?_
     refine tnQ 9 ?_
     refine tnQ 11 ?_
     refine tnQ 12 ?_
     refine tnQ 13 ?_
     refine tnQ 14 ?_
     refine tnQ 15 ?_
     refine tnQ 16 ?_
     refine tnQ 17 ?_
     refine tnQ 10 ?_
     refine tnQ 18 ?_
     refine tnQ 19 ?_
     refine tnQ 20 ?_
     refine tkQ 21 ?_
     refine wpAnyH_done (by kernel_rfl) ?_ _;go_wp2;go_ret;exact ⟨congrArg (λz=>Ending.returned (Value.int .i64 z)) (by rw [<-HF.out]:(0:Int)=z),hB7.drew⟩
    ·have HF:Hid ((if shp (zBR hs[p]) (zBR hs[q])=false then 83 else 0)=z):=by have:=HE3.out;rw [e4] at this;exact this
     have hpk:p<ks.length:=by have:=HKN.out;omega
     have hqk:q<ks.length:=by have:=HKN.out;omega
     obtain ⟨hkp,hep⟩:=HKA.out p hpk hp;obtain ⟨hkq,heq⟩:=HKA.out q hqk hq;obtain ⟨bk,ok,rfl,hcp⟩:=HRK.out p hpk;obtain ⟨bk2,ok2,e9,hcq⟩:=HRK.out q hqk;cases e9
     have smp:=zCx (zBr (HKR.out _ (List.getElem_mem hp)) (by simpa [isA] using e2));have smq:=zCx (zBr (HKR.out _ (List.getElem_mem hq)) (by simpa [isA] using e3));have hbr:=HBr.out;have hSD0:=ySb (p:=p) (q:=q) (bk:=bk) (ok:=ok) (bb:=bb) (off:=off) hbr ⟨hcp,hcq,zAF HB3.out hep,zAF HB3.out heq⟩;have RA:∀ w:World,CR 58 #[.agg (zAG hs[p]).toArray,.int .i64 0] w (.agg (ar5 (zBR hs[p])).toArray):=λw=>zCk hs[p] 0 w
     have RB:∀ w:World,CR 58 #[.agg (zAG hs[q]).toArray,.int .i64 0] w (.agg (ar5 (zBR hs[q])).toArray):=λw=>zCk hs[q] 0 w
     have SH:=λw=>zFV (zBR hs[p]) (zBR hs[q]) w smp smq
     obtain ⟨kp,hkpe⟩:∃ kp,ks[p]=kp:=⟨_,rfl⟩
     obtain ⟨kq,hkqe⟩:∃ kq,ks[q]=kq:=⟨_,rfl⟩
     rw [hkpe,hkqe] at hSD0;rw [hkpe] at hkp;rw [hkqe] at hkq;generalize hs[p]=yp at *;generalize hs[q]=yq at *;generalize zBR yp=rp at *;generalize zBR yq=rq at *;generalize shp rp rq=sq at *;rw [e1];have hp0:(0:Int)<=(p:Int):=by omega
     have hp1:(p:Int)<(ks.length:Int):=by omega
     have hq0:(0:Int)<=(q:Int):=by omega
     have hq1:(q:Int)<(ks.length:Int):=by omega
     have hk0:(0:Int)<=(kp:Int):=by omega
     have hk1:(kp:Int)<(n:Int):=by omega
     have hk2:(0:Int)<=(kq:Int):=by omega
     have hk3:(kq:Int)<(n:Int):=by omega
     have rb:=(Below.refl wr.heap.size wr).drew;have hBD:=zAB hB7 rb;have hSD:=ySb rb hSD0;clear HE3 e1 e2 e3 e4 hep heq hcp hcq smp smq hbr hSD0 rb hkpe hkqe hkp hkq hpk hqk hp hq;go_upto_region 31 with fail
     refine wp_region_held_drew (S:=λW=>W.cell? ⟨bk,ok+p,none⟩=some (.int .i64 (kp:Int))/\W.cell? ⟨bk,ok+q,none⟩=some (.int .i64 (kq:Int))/\W.rangeAt bb (off+kp * 20) (zAG yp)/\W.rangeAt bb (off+kq * 20) (zAG yq)) (by kernel_rfl) hSD (λhHeld=>?_);generalize wr.drew=WD at *;refine tkQ 0 ?_
     refine tkQ 1 ?_
     refine tkQ 2 ?_
     refine tkQ 3 ?_
     refine tkQ 4 ?_
     refine tkQ 5 ?_
     refine tkQ 6 ?_
     refine tkQ 7 ?_
     refine tkQ 8 ?_
     refine wpAnyH_take (i:=9) (v:=.agg (zAG yp).toArray) (atQ rfl) (by kernel_rfl) (by kernel_rfl) (by kernel_rfl) (λ_ _ _ h=>h) (yieldsIf_load_mid (by rfl) 35 (.tmp 132) rfl bb (off+kp * 20) rfl (zAG yp) _ (λ_ h=>h.2.2.1) underlying35 rfl (by kernel_rfl)) (by assumption) ?_;try simp only [Act.put,lA,lZ,lS]
     refine tkQ 11 ?_
     refine tkQ 12 ?_
     refine tkQ 13 ?_
     refine tkQ 14 ?_
     refine tkQ 15 ?_
     refine tkQ 16 ?_
     refine wpAnyH_take (i:=17) (v:=.agg (zAG yq).toArray) (atQ rfl) (by kernel_rfl) (by kernel_rfl) (by kernel_rfl) (λ_ _ _ h=>h) (yieldsIf_load_mid (by rfl) 35 (.tmp 140) rfl bb (off+kq * 20) rfl (zAG yq) _ (λ_ h=>h.2.2.2) underlying35 rfl (by kernel_rfl)) (by assumption) ?_;try simp only [Act.put,lA,lZ,lS]
     refine rdQ 10 (λK hK=>?_);go_simp
     refine (RA _).mono ?_;rintro e wa ⟨rfl,hb⟩;have hBwa:=zAB hBD hb;have hSa:=ySb hb hSD;clear hb;go_wp2_with fail
     refine hkQ hK (hSa) (λhHeld=>?_);clear hK K
     refine rdQ 18 (λK hK=>?_);go_simp
     refine (RB _).mono ?_;rintro e wb ⟨rfl,hb⟩;have hBwb:=zAB hBwa hb;have hSb:=ySb hb hSa;clear hb;go_wp2_with fail
     refine hkQ hK (hSb) (λhHeld=>?_);clear hK K
     refine rdQ 19 (λK hK=>?_);go_simp
     refine (SH _).mono ?_;rintro e wc ⟨rfl,hb⟩;have hBwc:=zAB hBwb hb;have hSc:=ySb hb hSb;clear hb;go_wp2_with fail
     refine hkQ hK (hSc) (λhHeld=>?_);clear hK K
     refine tkQ 20 ?_
     refine tkQ 21 ?_
     refine wpAnyH_done (by kernel_rfl) ?_ _;cases sq with
     | false =>
      go_wp2;go_ret;exact ⟨congrArg (λz=>Ending.returned (Value.int .i64 z)) (by rw [<-HF.out];rfl:(83:Int)=z),hBwc⟩
     | true =>
      go_wp2;go_ret;exact ⟨congrArg (λz=>Ending.returned (Value.int .i64 z)) (by rw [<-HF.out];rfl:(0:Int)=z),hBwc⟩
theorem zKX (own:Int) (nm:List ByteArray) (av2:Option Addr) (m2 cap2:Nat) (x:Wt.Nd) (L:List (Wt.Nd × Value)) (av:Option Addr) (m cap:Nat) (w:World) (hN:NmAt w) (hS:RdS w av2 nm) (hm2:m2=nm.length) (hl2:nm.length<=16) (hm:m=L.length) (hl:L.length<=30) (hR:RdQ w av L) (hC:x.k=6->∀ W:World,NmAt W->RdQ W av L->Calls prog 80 #[.agg (zAN x (.slice av m cap)).toArray] W λe w'=>e=.returned (.int .i64 (zDC x (L.map (·.1))))/\Below W.heap.size W w') :
  CR 46 #[.agg (zAN x (.slice av m cap)).toArray,zCS own av2 m2 cap2] w (.int .i64 (zB2 own nm x (L.map (·.1)))):=by
 have hb:=zAM (zAM (Below.refl _ w) (.cells (zAN x (.slice av m cap)).toArray 64)) (.cells #[.int .i64 own,.slice av2 m2 cap2] 60);have pP:=(AtL.new0 w 64 (zAN x (.slice av m cap))).alloc (.cells #[.int .i64 own,.slice av2 m2 cap2] 60);have pS:=AtL.new1 w (.cells (zAN x (.slice av m cap)).toArray 64) 60 [.int .i64 own,.slice av2 m2 cap2];have c0:=pP.2.1 0 (.int .i64 x.k) rfl;have c10:=pP.2.1 10 (.string x.a.s) rfl;have c20:=pP.2.1 20 (.slice av m cap) rfl;have s0:=pS.2.1 0 _ rfl;have s1:=pS.2.1 1 _ rfl;have rP:=pP.range;have SH:=zCf own nm x.a.s av2 m2 cap2 _ hm2 hl2 (hS.below hb);have CT:=zDe L av m cap _ hm hl (hR.below hb);have hany:L.any (λp=>isA p.1)=(L.map (·.1)).any isA:=by rw [List.any_map];rfl
 rw [hany] at CT;have HRC:Hid (x.k=6->Calls prog 80 #[.agg (zAN x (.slice av m cap)).toArray] ((w.alloc (.cells (zAN x (.slice av m cap)).toArray 64)).alloc (.cells #[.int .i64 own,.slice av2 m2 cap2] 60)) λe w'=>e=.returned (.int .i64 (zDC x (L.map (·.1))))/\Below ((w.alloc (.cells (zAN x (.slice av m cap)).toArray 64)).alloc (.cells #[.int .i64 own,.slice av2 m2 cap2] 60)).heap.size ((w.alloc (.cells (zAN x (.slice av m cap)).toArray 64)).alloc (.cells #[.int .i64 own,.slice av2 m2 cap2] 60)) w'):=λh6=>hC h6 _ (hN.below hb) (hR.below hb)
 clear hany pP pS hN hS hm2 hl2 hm hl hR hC;unfold zB2;generalize zDC x (L.map (·.1))=rc at *;generalize (L.map (·.1)).any isA=qa at *;generalize shN own nm x.a.s=sn at *;by_cases h2:x.k=2
 ·rw [if_pos (Or.inl h2)];rw [h2] at c0;obtain ⟨z,hz⟩:∃ z:Int,(if sn<0 then 84 else 0)=z:=⟨_,rfl⟩
  rw [hz];have HZ:Hid ((if sn<0 then (84:Int) else 0)=z):=hz;clear hz;clear CT HRC h2;go_enter func46,ntmps46;go_upto_region 1 with fail
  generalize ((w.alloc (.cells (zAN x (.slice av m cap)).toArray 64)).alloc (.cells #[.int .i64 own,.slice av2 m2 cap2] 60))=W at *;go_wp2_with fail
  refine SH.mono ?_;rintro e w1 ⟨rfl,hb1⟩;have hB:=zAB hb hb1;by_cases hs:sn<0
  ·go_wp2;go_ret;exact ⟨congrArg (λz=>Ending.returned (Value.int .i64 z)) (by rw [<-HZ.out,if_pos (by omega)]:(84:Int)=z),hB⟩
  ·go_wp2;go_ret;exact ⟨congrArg (λz=>Ending.returned (Value.int .i64 z)) (by rw [<-HZ.out,if_neg (by omega)]:(0:Int)=z),hB⟩
 by_cases h3:x.k=3
 ·rw [if_pos (Or.inr h3)];rw [h3] at c0;obtain ⟨z,hz⟩:∃ z:Int,(if sn<0 then 84 else 0)=z:=⟨_,rfl⟩
  rw [hz];have HZ:Hid ((if sn<0 then (84:Int) else 0)=z):=hz;clear hz;clear CT HRC h2 h3;go_enter func46,ntmps46;go_upto_region 1 with fail
  generalize ((w.alloc (.cells (zAN x (.slice av m cap)).toArray 64)).alloc (.cells #[.int .i64 own,.slice av2 m2 cap2] 60))=W at *;go_wp2_with fail
  refine SH.mono ?_;rintro e w1 ⟨rfl,hb1⟩;have hB:=zAB hb hb1;by_cases hs:sn<0
  ·go_wp2;go_ret;exact ⟨congrArg (λz=>Ending.returned (Value.int .i64 z)) (by rw [<-HZ.out,if_pos (by omega)]:(84:Int)=z),hB⟩
  ·go_wp2;go_ret;exact ⟨congrArg (λz=>Ending.returned (Value.int .i64 z)) (by rw [<-HZ.out,if_neg (by omega)]:(0:Int)=z),hB⟩
 rw [if_neg (λh=>h.elim h2 h3)];by_cases h4:x.k=4
 ·rw [if_pos (Or.inl h4)];rw [h4] at c0;clear SH HRC h2 h3 h4;go_enter func46,ntmps46;go_upto_region 1 with fail
  generalize ((w.alloc (.cells (zAN x (.slice av m cap)).toArray 64)).alloc (.cells #[.int .i64 own,.slice av2 m2 cap2] 60))=W at *;go_wp2_with fail
  refine CT.mono ?_;rintro e w1 ⟨rfl,hb1⟩;have hB:=zAB hb hb1;cases qa with
  | true =>
   go_wp2;go_ret;exact ⟨rfl,hB⟩
  | false =>
   go_wp2;go_ret;exact ⟨rfl,hB⟩
 by_cases h5:x.k=5
 ·rw [if_pos (Or.inr h5)];rw [h5] at c0;clear SH HRC h2 h3 h4 h5;go_enter func46,ntmps46;go_upto_region 1 with fail
  generalize ((w.alloc (.cells (zAN x (.slice av m cap)).toArray 64)).alloc (.cells #[.int .i64 own,.slice av2 m2 cap2] 60))=W at *;go_wp2_with fail
  refine CT.mono ?_;rintro e w1 ⟨rfl,hb1⟩;have hB:=zAB hb hb1;cases qa with
  | true =>
   go_wp2;go_ret;exact ⟨rfl,hB⟩
  | false =>
   go_wp2;go_ret;exact ⟨rfl,hB⟩
 rw [if_neg (λh=>h.elim h4 h5)];by_cases h6:x.k=6
 ·rw [if_pos h6];have RC:=HRC.out h6;rw [h6] at c0;clear SH CT HRC h2 h3 h4 h5 h6;go_enter func46,ntmps46;go_upto_region 1 with fail
  generalize ((w.alloc (.cells (zAN x (.slice av m cap)).toArray 64)).alloc (.cells #[.int .i64 own,.slice av2 m2 cap2] 60))=W at *;go_wp2_with (first | (refine zAA (by rfl) 64 (.tmp 2) rfl w.heap.size 0 rfl (zAN x (.slice av m cap)) _ rP underlying64 rfl (by kernel_rfl) ?_))
  refine RC.mono ?_;rintro e w1 ⟨rfl,hb1⟩;have hB:=zAB hb hb1;go_wp2;go_ret;exact ⟨rfl,hB⟩
 rw [if_neg h6];clear SH CT HRC;go_enter func46,ntmps46;go_upto_region 1 with fail
 generalize ((w.alloc (.cells (zAN x (.slice av m cap)).toArray 64)).alloc (.cells #[.int .i64 own,.slice av2 m2 cap2] 60))=W at *;go_wp2;go_ret;exact ⟨rfl,hb⟩
