/- KRefC, KRefN, KRefT, KApp, KPlacA, KOpen, VWalkD, KWalkS. -/
import Derived.Test.YtedifblompcdkaaGreatDoorQ14
set_option maxHeartbeats 4000000
set_option maxRecDepth 100000
namespace Go.Proofs.YtedifblompcdkaaGreatDoor
open Tryz
open Go.RowKit Wf
set_option linter.unusedVariables false
variable {w W:World} {B n ka kb:Nat} {v tv:Value} {A:List Int} {x:Wc.In}
theorem zHz:(List.range 64).all (λk=>let s:=(zAP (k:Nat)).p.size;decide (0<s) && decide (s<=10))=true:=by kernel_rfl
theorem zJ3 (s:ByteArray):0<(zAP (zAu s:Nat)).p.size/\(zAP (zAu s:Nat)).p.size<=10:=by
 have:=List.all_eq_true.1 zHz (zAu s) (List.mem_range.2 (by have:=zIY s;omega));simpa using this
theorem zIJ {id:Int} {ks:List Wt.Nd} (hp:Wc.pairs id=true) (hl:(zAP id).l<=(ks.length:Int)) (ht:zBA (zAP id).p.data.toList ks 0=true):0<(ks.filter isA).length:=by
 have hid:id=22 \/ id=23 \/ id=24:=by
  simp only [Wc.pairs,Bool.or_eq_true,beq_iff_eq] at hp;exact hp
 have ha:∃ x ∈ ks,isA x=true:=by
  rcases hid with rfl | rfl | rfl
  ·have hl2:(2:Int)<=(ks.length:Int):=hl;match ks,ht with
   | x::r,ht =>
    refine ⟨x,List.mem_cons_self ..,?_⟩;cases hx:isA x with
    | true=>rfl
    | false =>
     have:zBA (zAP 22).p.data.toList (x::r) 0=false:=by
      simp only [zBA,hx];rfl
     rw [this] at ht;cases ht
  ·have hl2:(3:Int)<=(ks.length:Int):=hl;match ks,ht with
   | x::y::r,ht =>
    refine ⟨y,List.mem_cons_of_mem _ (List.mem_cons_self ..),?_⟩;cases hy:isA y with
    | true=>rfl
    | false =>
     have:zBA (zAP 23).p.data.toList (x::y::r) 0=false:=by
      cases hx:isA x with
      | true =>
       simp only [zBA,hx];rfl
      | false =>
       have e1:zBA (zAP 23).p.data.toList (x::y::r) 0=zBA (zAP 23).p.data.toList (y::r) 1:=by
        simp only [zBA,hx];rfl
       rw [e1];simp only [zBA,hy];rfl
     rw [this] at ht;cases ht
  ·have hl2:(2:Int)<=(ks.length:Int):=hl;match ks,ht with
   | x::r,ht =>
    refine ⟨x,List.mem_cons_self ..,?_⟩;cases hx:isA x with
    | true=>rfl
    | false =>
     have:zBA (zAP 24).p.data.toList (x::r) 0=false:=by
      simp only [zBA,hx];rfl
     rw [this] at ht;cases ht
 obtain ⟨x,hx,hi⟩:=ha;exact List.length_pos_of_mem (List.mem_filter.2 ⟨hx,hi⟩)
theorem zLY (x:Wt.Nd) (L:List (Wt.Nd × Value)) (av:Option Addr) (m cap:Nat) (w:World) (hN:NmAt w) (hm:m=L.length) (hl:L.length<=30) (har:x.ar=(L.length:Int)) (hsl:∀ q ∈ L,∃ a b c,q.2=.slice a b c) (hR:RdQ w av L) (hrt:∀ q ∈ L,isA q.1=true->RtN q.1) :
  CR 160 #[.agg (zAI x (.slice av m cap)).toArray] w (.int .i64 (zLr x (L.map (·.1)))):=by
 have hpl:=zJ3 x.nm;have hb0:=zAH (Below.refl _ w) (.cells (zAI x (.slice av m cap)).toArray 188);have pP:=AtL.new0 w 188 (zAI x (.slice av m cap));have OF:=zHR x.nm _ (hN.below hb0);have HTK:Hid (∀ (a1 a2:Int) (a3:ByteArray) (a4 a5:Int) (w2:World),RdQ w2 av L->Calls prog 177 #[.agg (sg6 a1 a2 a3 a4 a5 (zAP (zAu x.nm:Nat)).p).toArray,.slice av m cap] w2 λe w'=>e=.returned (.bool (zBA (zAP (zAu x.nm:Nat)).p.data.toList (L.map (·.1)) 0))/\Below w2.heap.size w2 w'):=λa1 a2 a3 a4 a5 w2 h=>zKv a1 a2 a3 a4 a5 _ L av m cap w2 hpl hm hl hsl h
 have HSH:Hid ((zAP (zAu x.nm:Nat)).l<=x.ar->zBA (zAP (zAu x.nm:Nat)).p.data.toList (L.map (·.1)) 0=true->∀ (w2:World),RdQ w2 av L->Calls prog 178 #[.int .i64 (zAu x.nm:Nat),.slice av m cap] w2 λe w'=>e=.returned (.bool (zB7 (zAu x.nm:Nat) (L.map (·.1))))/\Below w2.heap.size w2 w'):=λh1 h2 w2 h=>zHk _ L av m cap w2 hm hl hsl h (λhp=>by
  have:=zIJ (ks:=L.map (·.1)) hp (by rw [List.length_map,<-har];exact h1) h2;rw [List.filter_map,List.length_map] at this;exact this) hrt
 have HR0:Hid (RdQ (w.alloc (.cells (zAI x (.slice av m cap)).toArray 188)) av L):=hR.below hb0;unfold zLr;simp only;generalize L.map (·.1)=ks at *;have c8:=pP.2.1 8 (.string x.nm) rfl;clear hpl hN hm hl hsl hR hrt har;unfold zD3 at OF;generalize zB7 (zAu x.nm:Nat) ks=qs at *;generalize zBA (zAP (zAu x.nm:Nat)).p.data.toList ks 0=qt at *;generalize hnm:zFf (zAu x.nm:Nat)=nmv at *;generalize zAP (zAu x.nm:Nat)=sh at *;generalize zBT (zAu x.nm:Nat)=kb at *;generalize hid:((zAu x.nm:Nat):Int)=id at *;clear hnm hid;obtain ⟨q,hq⟩:∃ q:Int,(if kb=false then 80 else if x.ar<sh.l \/ sh.m<x.ar then 81 else if qt=false then 82 else if qs=false then 83 else 0)=q:=⟨_,rfl⟩
 rw [hq];have HQ:Hid ((if kb=false then 80 else if x.ar<sh.l \/ sh.m<x.ar then 81 else if qt=false then 82 else if qs=false then 83 else 0)=q):=hq;clear hq;go_enter func160,ntmps160;go_upto_region 1 with fail
 generalize (w.alloc (.cells (zAI x (.slice av m cap)).toArray 188))=W at *;go_wp2_with fail
 refine OF.mono ?_;rintro e w1 ⟨rfl,hb1⟩;have HR1:Hid (RdQ w1 av L):=HR0.out.below hb1;have HP1:Hid (AtL w1 w.heap.size (zAI x (.slice av m cap))):=AtL.below hb1 pP;have HB1:Hid (Below w.heap.size w w1):=zAA hb0 hb1;clear OF c8 pP hb0 hb1 HR0;cases kb with
 | false =>
  have hq:q=80:=by rw [<-HQ.out];rfl
  subst hq;clear HQ HTK HSH HR1 HP1;simp only [Bool.false_eq_true,if_false,zero6];have hB:=HB1.out;go_wp2;go_ret;exact ⟨rfl,(clB hB)⟩
 | true =>
  simp only [if_true];have hb2:=zAH (Below.refl _ w1) (.cells (sg6 id sh.c ⟨nmv.toArray⟩ sh.l sh.m sh.p).toArray 230);have pS:=AtL.new0 w1 230 (sg6 id sh.c ⟨nmv.toArray⟩ sh.l sh.m sh.p);have HR2:Hid (RdQ (w1.alloc (.cells (sg6 id sh.c ⟨nmv.toArray⟩ sh.l sh.m sh.p).toArray 230)) av L):=HR1.out.below hb2;have pP2:=AtL.below hb2 HP1.out;have hB2:=zAA HB1.out hb2;have HTK2:Hid (∀ w2:World,RdQ w2 av L->Calls prog 177 #[.agg (sg6 id sh.c ⟨nmv.toArray⟩ sh.l sh.m sh.p).toArray,.slice av m cap] w2 λe w'=>e=.returned (.bool qt)/\Below w2.heap.size w2 w'):=λw2 h=>HTK.out _ _ _ _ _ w2 h
  clear hb2 HR1 HP1 HB1 HTK;generalize (⟨nmv.toArray⟩:ByteArray)=nv at *;go_upto_region 2 with fail
  generalize (w1.alloc (.cells (sg6 id sh.c nv sh.l sh.m sh.p).toArray 230))=W2 at *;have p9:=pP2.2.1 9 (.int .i64 x.ar) rfl;have p20:=pP2.2.1 20 (.slice av m cap) rfl;obtain ⟨sb,hsb⟩:∃ k,w1.heap.size=k:=⟨_,rfl⟩
  rw [hsb] at pS;simp only [hsb];clear hsb;obtain ⟨b0,b1,b2,b3,b4,b5,k0,k1,k2,k3,k4,k5⟩:=at6 pS;by_cases h1:x.ar<sh.l
  ·have hq:q=81:=by rw [<-HQ.out];simp [h1]
   subst hq;go_wp2;go_ret;exact ⟨rfl,hB2⟩
  by_cases h2:sh.m<x.ar
  ·have hq:q=81:=by rw [<-HQ.out];simp [h2]
   subst hq;go_wp2;go_ret;exact ⟨rfl,hB2⟩
  have HTT:=HTK2.out W2 HR2.out;go_wp2_with fail
  refine HTT.mono ?_;rintro e w3 ⟨rfl,hb3⟩;have HR3:Hid (RdQ w3 av L):=HR2.out.below hb3;replace pP2:=AtL.below hb3 pP2
  replace pS:=AtL.below hb3 pS
  replace hB2:=zAA hB2 hb3
  clear HTT hb3 HTK2 HR2 p9 p20 b0 b1 b2 b3 b4 b5 k0 k1 k2 k3 k4 k5;have p20:=pP2.2.1 20 (.slice av m cap) rfl;have b0:=pS.2.1 0 (.int .i64 id) rfl;cases qt with
  | false =>
   have hq:q=82:=by rw [<-HQ.out];simp [h1,h2]
   subst hq;go_wp2;go_ret;exact ⟨rfl,hB2⟩
  | true =>
   have SS:=HSH.out (by omega) rfl w3 HR3.out;go_wp2_with fail
   refine SS.mono ?_;rintro e w4 ⟨rfl,hb4⟩;replace hB2:=zAA hB2 hb4
   clear hb4 SS;cases qs with
   | false =>
    have hq:q=83:=by rw [<-HQ.out];simp [h1,h2]
    subst hq;go_wp2;go_ret;exact ⟨rfl,hB2⟩
   | true =>
    have hq:q=0:=by rw [<-HQ.out];simp [h1,h2]
    subst hq;go_wp2;go_ret;exact ⟨rfl,hB2⟩
theorem zL3 (own:Int) (nm:List ByteArray) (av2:Option Addr) (m2 cap2:Nat) (x:Wt.Nd) (L:List (Wt.Nd × Value)) (av:Option Addr) (m cap:Nat) (w:World) (hN:NmAt w) (hS:RdS w av2 nm) (hm2:m2=nm.length) (hl2:nm.length<=16) (hm:m=L.length) (hl:L.length<=30) (har:x.k=6->x.ar=(L.length:Int)) (hsl:∀ q ∈ L,∃ a b c,q.2=.slice a b c) (hR:RdQ w av L) (hrt:∀ q ∈ L,isA q.1=true->RtN q.1) :
  CR 131 #[.agg (zAI x (.slice av m cap)).toArray,zCc own av2 m2 cap2] w (.int .i64 (zHJ own nm x (L.map (·.1)))):=by
 have hb:=zAH (zAH (Below.refl _ w) (.cells (zAI x (.slice av m cap)).toArray 188)) (.cells #[.int .i64 own,.slice av2 m2 cap2] 184);have pP:=(AtL.new0 w 188 (zAI x (.slice av m cap))).alloc (.cells #[.int .i64 own,.slice av2 m2 cap2] 184);have pS:=AtL.new1 w (.cells (zAI x (.slice av m cap)).toArray 188) 184 [.int .i64 own,.slice av2 m2 cap2];have c0:=pP.2.1 0 (.int .i64 x.k) rfl;have c10:=pP.2.1 10 (.string x.a.s) rfl;have c20:=pP.2.1 20 (.slice av m cap) rfl;have s0:=pS.2.1 0 _ rfl;have s1:=pS.2.1 1 _ rfl;have rP:=pP.range;have SH:=zCw own nm x.a.s av2 m2 cap2 _ hm2 hl2 (hS.below hb);have CT:=zEV L av m cap _ hm hl (hR.below hb);have hany:L.any (λp=>isA p.1)=(L.map (·.1)).any isA:=by rw [List.any_map];rfl
 rw [hany] at CT;have HRC:Hid (x.k=6->Calls prog 160 #[.agg (zAI x (.slice av m cap)).toArray] ((w.alloc (.cells (zAI x (.slice av m cap)).toArray 188)).alloc (.cells #[.int .i64 own,.slice av2 m2 cap2] 184)) λe w'=>e=.returned (.int .i64 (zLr x (L.map (·.1))))/\Below ((w.alloc (.cells (zAI x (.slice av m cap)).toArray 188)).alloc (.cells #[.int .i64 own,.slice av2 m2 cap2] 184)).heap.size ((w.alloc (.cells (zAI x (.slice av m cap)).toArray 188)).alloc (.cells #[.int .i64 own,.slice av2 m2 cap2] 184)) w'):=λh6=>zLY x L av m cap _ (hN.below hb) hm hl (har h6) hsl (hR.below hb) hrt
 clear hany pP pS hN hS hm2 hl2 hm hl har hsl hR hrt;unfold zHJ;generalize zLr x (L.map (·.1))=rc at *;generalize (L.map (·.1)).any isA=qa at *;generalize shN own nm x.a.s=sn at *;by_cases h2:x.k=2
 ·rw [if_pos (Or.inl h2)];rw [h2] at c0;obtain ⟨z,hz⟩:∃ z:Int,(if sn<0 then 84 else 0)=z:=⟨_,rfl⟩
  rw [hz];have HZ:Hid ((if sn<0 then (84:Int) else 0)=z):=hz;clear hz;clear CT HRC h2;go_enter func131,ntmps131;go_upto_region 1 with fail
  generalize ((w.alloc (.cells (zAI x (.slice av m cap)).toArray 188)).alloc (.cells #[.int .i64 own,.slice av2 m2 cap2] 184))=W at *;go_wp2_with fail
  refine SH.mono ?_;rintro e w1 ⟨rfl,hb1⟩;have hB:=zAA hb hb1;by_cases hs:sn<0
  ·go_wp2;go_ret;exact ⟨congrArg (λz=>Ending.returned (Value.int .i64 z)) (by rw [<-HZ.out,if_pos (by omega)]:(84:Int)=z),hB⟩
  ·go_wp2;go_ret;exact ⟨congrArg (λz=>Ending.returned (Value.int .i64 z)) (by rw [<-HZ.out,if_neg (by omega)]:(0:Int)=z),hB⟩
 by_cases h3:x.k=3
 ·rw [if_pos (Or.inr h3)];rw [h3] at c0;obtain ⟨z,hz⟩:∃ z:Int,(if sn<0 then 84 else 0)=z:=⟨_,rfl⟩
  rw [hz];have HZ:Hid ((if sn<0 then (84:Int) else 0)=z):=hz;clear hz;clear CT HRC h2 h3;go_enter func131,ntmps131;go_upto_region 1 with fail
  generalize ((w.alloc (.cells (zAI x (.slice av m cap)).toArray 188)).alloc (.cells #[.int .i64 own,.slice av2 m2 cap2] 184))=W at *;go_wp2_with fail
  refine SH.mono ?_;rintro e w1 ⟨rfl,hb1⟩;have hB:=zAA hb hb1;by_cases hs:sn<0
  ·go_wp2;go_ret;exact ⟨congrArg (λz=>Ending.returned (Value.int .i64 z)) (by rw [<-HZ.out,if_pos (by omega)]:(84:Int)=z),hB⟩
  ·go_wp2;go_ret;exact ⟨congrArg (λz=>Ending.returned (Value.int .i64 z)) (by rw [<-HZ.out,if_neg (by omega)]:(0:Int)=z),hB⟩
 rw [if_neg (λh=>h.elim h2 h3)];by_cases h4:x.k=4
 ·rw [if_pos (Or.inl h4)];rw [h4] at c0;clear SH HRC h2 h3 h4;go_enter func131,ntmps131;go_upto_region 1 with fail
  generalize ((w.alloc (.cells (zAI x (.slice av m cap)).toArray 188)).alloc (.cells #[.int .i64 own,.slice av2 m2 cap2] 184))=W at *;go_wp2_with fail
  refine CT.mono ?_;rintro e w1 ⟨rfl,hb1⟩;have hB:=zAA hb hb1;cases qa with
  | true =>
   go_wp2;go_ret;exact ⟨rfl,hB⟩
  | false =>
   go_wp2;go_ret;exact ⟨rfl,hB⟩
 by_cases h5:x.k=5
 ·rw [if_pos (Or.inr h5)];rw [h5] at c0;clear SH HRC h2 h3 h4 h5;go_enter func131,ntmps131;go_upto_region 1 with fail
  generalize ((w.alloc (.cells (zAI x (.slice av m cap)).toArray 188)).alloc (.cells #[.int .i64 own,.slice av2 m2 cap2] 184))=W at *;go_wp2_with fail
  refine CT.mono ?_;rintro e w1 ⟨rfl,hb1⟩;have hB:=zAA hb hb1;cases qa with
  | true =>
   go_wp2;go_ret;exact ⟨rfl,hB⟩
  | false =>
   go_wp2;go_ret;exact ⟨rfl,hB⟩
 rw [if_neg (λh=>h.elim h4 h5)];by_cases h6:x.k=6
 ·rw [if_pos h6];have RC:=HRC.out h6;rw [h6] at c0;clear SH CT HRC h2 h3 h4 h5 h6;go_enter func131,ntmps131;go_upto_region 1 with fail
  generalize ((w.alloc (.cells (zAI x (.slice av m cap)).toArray 188)).alloc (.cells #[.int .i64 own,.slice av2 m2 cap2] 184))=W at *;go_wp2_with (first | (refine zAB (by rfl) 188 (.tmp 2) rfl w.heap.size 0 rfl (zAI x (.slice av m cap)) _ rP underlying188 rfl (by kernel_rfl) ?_))
  refine RC.mono ?_;rintro e w1 ⟨rfl,hb1⟩;have hB:=zAA hb hb1;go_wp2;go_ret;exact ⟨rfl,hB⟩
 rw [if_neg h6];clear SH CT HRC;go_enter func131,ntmps131;go_upto_region 1 with fail
 generalize ((w.alloc (.cells (zAI x (.slice av m cap)).toArray 188)).alloc (.cells #[.int .i64 own,.slice av2 m2 cap2] 184))=W at *;go_wp2;go_ret;exact ⟨rfl,hb⟩
def go0 (c:Int) (l:List Int):Int:=if c=0 then zQ0 l else c
theorem zK0 {lo hi:Nat} {ps:List (Tr n × Value)} (h:∀ p ∈ ps,PA n lo hi w p.1 p.2):∀ q ∈ (ps.map λp=>(hd n p.1,p.2)),∃ a b c,q.2=Value.slice a b c:=λq hq=>by
 obtain ⟨p,hp,rfl⟩:=List.mem_map.1 hq;exact (h p hp).slice
theorem zFm:∀ {n:Nat} {t:Tr n},zDT n t->Wt.right (hd n t)=true
 | 0,t,_=>Empty.elim t
 | n+1,t,h=>h.1
theorem zO7 {ps:List (Tr n × Value)} (h:∀ p ∈ ps,zDT n p.1):∀ q ∈ (ps.map λp=>(hd n p.1,p.2)),isA q.1=true->RtN q.1:=λq hq ha=>by
 obtain ⟨p,hp,rfl⟩:=List.mem_map.1 hq;exact zDv (zFm (h p hp)) (by simpa [isA] using ha)
def RfC (own:Int) (nm:List ByteArray) (av2:Option Addr) (m2 cap2 n:Nat):Prop:=∀ (t:Tr n) (sl:Value) (lo hi:Nat) (w:World),zDT n t->PA n lo hi w t sl->NmAt w->RdS w av2 nm ->
 CR 100 #[.agg (zAI (hd n t) sl).toArray,zCc own av2 m2 cap2] w (.int .i64 (zC8 own nm n t))
theorem zL4 (own:Int) (nm:List ByteArray) (av2:Option Addr) (m2 cap2:Nat) (hm2:m2=nm.length) (hl2:nm.length<=16) (n:Nat) (ih:RfC own nm av2 m2 cap2 n):RfC own nm av2 m2 cap2 (n+1):=by
 intro t sl lo hi w hF hP hN hS;obtain ⟨x,ks⟩:Br (Tr n):=t;obtain ⟨hx,hp,hks⟩:=hF;replace hx:Wt.right x=true:=hx
 replace hp:Wt.parts x=(ks.length:Int):=hp
 replace hks:∀ k ∈ ks,zDT n k:=hks
 obtain ⟨av,cap,ps,q1,rfl,q2c,q3,q4⟩:=hP;replace q1:ps.map (·.1)=ks:=q1
 have hhd:hd (n+1) (⟨x,ks⟩:Br (Tr n))=x:=rfl;rw [hhd];have hlen:ps.length=ks.length:=by rw [<-q1,List.length_map]
 have hl30:ps.length<=30:=by have:=(Wt.parts_le hx).2;omega
 have hfp:∀ p ∈ ps,zDT n p.1:=λp hp=>hks p.1 (by rw [<-q1];exact List.mem_map.2 ⟨p,hp,rfl⟩)
 have har:x.k=6->x.ar=((ps.map λp=>(hd n p.1,p.2)).length:Int):=λh6=>by
  rw [List.length_map,hlen,<-hp];unfold Wt.parts;rw [if_neg (by omega),if_neg (by omega)]
 have hb:=zAH (zAH (Below.refl _ w) (.cells (zAI x (.slice av ps.length cap)).toArray 188)) (.cells #[.int .i64 own,.slice av2 m2 cap2] 184);have pP:=(AtL.new0 w 188 (zAI x (.slice av ps.length cap))).alloc (.cells #[.int .i64 own,.slice av2 m2 cap2] 184);have pS:=AtL.new1 w (.cells (zAI x (.slice av ps.length cap)).toArray 188) 184 [.int .i64 own,.slice av2 m2 cap2];have RN:=zL3 own nm av2 m2 cap2 x (ps.map λp=>(hd n p.1,p.2)) av ps.length cap _ (hN.below hb) (hS.below hb) hm2 hl2 (by rw [List.length_map]) (by rw [List.length_map];exact hl30) har (zK0 q4) (q3.q.below hb) (zO7 hfp);have hmap:(ps.map λp=>(hd n p.1,p.2)).map (·.1)=ks.map (hd n):=by rw [<-q1,List.map_map,List.map_map];rfl
 rw [hmap] at RN;have hq:zC8 own nm (n+1) (⟨x,ks⟩:Br (Tr n))=go0 (zHJ own nm x (ks.map (hd n))) (ps.map λp=>zC8 own nm n p.1):=by
  have e1:(ps.map λp=>zC8 own nm n p.1)=ks.map (zC8 own nm n):=by rw [<-q1,List.map_map];rfl
  rw [e1];rfl
 rw [hq];generalize zHJ own nm x (ks.map (hd n))=r0 at *;obtain ⟨q,hqq⟩:∃ q,go0 r0 (ps.map λp=>zC8 own nm n p.1)=q:=⟨_,rfl⟩
 rw [hqq];have HQ0:Hid (go0 r0 ((ps.drop 0).map λp=>zC8 own nm n p.1)=q):=hqq;have HFP:Hid (∀ p ∈ ps,zDT n p.1):=hfp;have HPA:Hid (∀ p ∈ ps,PA n lo hi w p.1 p.2):=q4;have HRT:Hid (RdT n lo hi w av ps):=q3;have HNS:Hid (NmAt w/\RdS w av2 nm):=⟨hN,hS⟩
 have HIH:Hid (RfC own nm av2 m2 cap2 n):=ih;clear hx hp hks q1 q2c q3 q4 hhd hlen hfp har hmap hq hqq hN hS ih hm2 hl2;have HML:Hid (ps.length<=30):=hl30;clear hl30;have HPS:Hid (∀ (i:Nat) (h:i<ps.length),ps.drop i=ps[i]::ps.drop (i+1)):=λi h=>List.drop_eq_getElem_cons h
 obtain ⟨m,hm⟩:∃ m,ps.length=m:=⟨_,rfl⟩
 have HMM:Hid (ps.length=m):=hm;rw [hm] at pP RN hb pS ⊢;clear hm;have c20':=pP.2.1 20 (.slice av m cap) rfl;have rP:=pP.range;have s0:=pS.2.1 0 _ rfl;have s1:=pS.2.1 1 _ rfl;go_enter func100,ntmps100;go_upto_region 1 with fail
 have HBW:Hid (Below w.heap.size w ((w.alloc (.cells (zAI x (.slice av m cap)).toArray 188)).alloc (.cells [.int .i64 own,.slice av2 m2 cap2].toArray 184))):=hb;clear hb;generalize ((w.alloc (.cells (zAI x (.slice av m cap)).toArray 188)).alloc (.cells [.int .i64 own,.slice av2 m2 cap2].toArray 184))=W at *;go_wp2_with (first | (refine zAB (by rfl) 188 (.tmp 2) rfl w.heap.size 0 rfl (zAI x (.slice av m cap)) _ rP underlying188 rfl (by kernel_rfl) ?_))
 refine RN.mono ?_;rintro e W1 ⟨rfl,hb1⟩;have HC20:Hid (W1.cell? ⟨w.heap.size,20,none⟩=some (.slice av m cap)):=zAC hb1 c20';have HRS:Hid (W1.rangeAt (w.heap.size+1) 0 [.int .i64 own,.slice av2 m2 cap2]):=zAF hb1 pS.range;have HB1:Hid (Below w.heap.size w W1):=zAA HBW.out hb1;clear RN c20' rP s0 s1 pP pS hb1 HBW;go_wp2_with fail
 go_loopg [5,6] m (λgk u5 u6 wr=>∃ (i:Nat) (c:Int),u5=.int .i64 c/\u6=.int .i64 (i:Int)/\gk=m - i/\i<=m/\Hid (go0 c ((ps.drop i).map λp=>zC8 own nm n p.1)=q)/\Hid (Below W1.heap.size W1 wr))
 case atStart=>exact ⟨0,r0,rfl,rfl,rfl,Nat.zero_le _,HQ0,Below.refl _ _⟩
 case round =>
  clear HQ0;obtain ⟨i,c,rfl,rfl,hg,him,HQ,HB⟩:=hrel;have c20:=zAC HB.out HC20.out;by_cases hlt:i<m
  ·have hli:(i:Int)<(m:Int):=by omega
   by_cases hc:c=0
   ·subst hc;have hiz:(0:Int)<=(i:Int):=by omega
    have hwi:IntKind.i64.wrap ((i:Int)+1)=(i:Int)+1:=by have:=HML.out;have:=HMM.out;rw [IntKind.wrap_i64];omega
    have hln:i<ps.length:=by have:=HMM.out;omega
    obtain ⟨bb,off,_,_,rfl,hr⟩:=HRT.out i hln;have hbW:=zAA HB1.out HB.out;have ry:=zAF hbW hr;have rs:=zAF HB.out HRS.out;have hd1:=HPS.out i hln;have KC0:=λ(W2:World) (h:Below W1.heap.size W1 W2)=>HIH.out (ps[i]).1 (ps[i]).2 lo hi W2 (HFP.out _ (List.getElem_mem hln)) (PA.kept (Kept.of_below (zAA HB1.out h)) n _ _ (HPA.out _ (List.getElem_mem hln))) (HNS.out.1.below (zAA HB1.out h)) (HNS.out.2.below (zAA HB1.out h))
    obtain ⟨sa,sb,sc,hsl⟩:=(HPA.out _ (List.getElem_mem hln)).slice;have HQ2:Hid (go0 (zC8 own nm n (ps[i]).1) ((ps.drop (i+1)).map λp=>zC8 own nm n p.1)=q):=by
     show _=_
     rw [<-HQ.out,hd1];rfl
    obtain ⟨rt,hrt⟩:∃ r,zC8 own nm n (ps[i]).1=r:=⟨_,rfl⟩
    obtain ⟨y,hy⟩:∃ y,hd n (ps[i]).1=y:=⟨_,rfl⟩
    rw [hsl,hy] at ry;rw [hrt] at HQ2;have KC:∀ (W2:World),Below W1.heap.size W1 W2->Calls prog 100 #[.agg (zAI y (.slice sa sb sc)).toArray,zCc own av2 m2 cap2] W2 λe w'=>e=.returned (.int .i64 rt)/\Below W2.heap.size W2 w':=by
     intro W2 h;have:=KC0 W2 h;rw [hsl,hy,hrt] at this;exact this
    clear KC0 hsl hy hrt hd1 hr hbW hln HQ;go_upto_region 5 with fail
    have HBD:Hid (Below W1.heap.size W1 wr.drew):=HB.out.drew;replace c20:wr.drew.cell? ⟨w.heap.size,20,none⟩=some (.slice (some ⟨bb,off,none⟩) m cap):=c20
    replace ry:wr.drew.rangeAt bb (off+i * 21) (zAI y (.slice sa sb sc)):=ry
    replace rs:wr.drew.rangeAt (w.heap.size+1) 0 [.int .i64 own,.slice av2 m2 cap2]:=rs
    refine wp_region_held_drew (S:=λW=>W.cell? ⟨w.heap.size,20,none⟩=some (.slice (some ⟨bb,off,none⟩) m cap)/\W.rangeAt bb (off+i * 21) (zAI y (.slice sa sb sc))/\W.rangeAt (w.heap.size+1) 0 [.int .i64 own,.slice av2 m2 cap2]) (by kernel_rfl) ⟨c20,ry,rs⟩ (λhHeld=>?_);generalize wr.drew=WD at *;refine tkQ 0 ?_
    refine tkQ 1 ?_
    refine tkQ 2 ?_
    refine tkQ 3 ?_
    refine wpAnyH_take (i:=4) (v:=.agg (zAI y (.slice sa sb sc)).toArray) (atQ rfl) (by kernel_rfl) (by kernel_rfl) (by kernel_rfl) (λ_ _ _ h=>h) (yieldsIf_load_mid (by rfl) 188 (.tmp 24) rfl (bb) (off+i * 21) rfl (zAI y (.slice sa sb sc)) _ (λ_ h=>h.2.1) underlying188 rfl (by kernel_rfl)) (by assumption) ?_;try simp only [Act.put,lA,lZ,lS]
    refine wpAnyH_take (i:=5) (v:=.agg ([.int .i64 own,.slice av2 m2 cap2]).toArray) (atQ rfl) (by kernel_rfl) (by kernel_rfl) (by kernel_rfl) (λ_ _ _ h=>h) (yieldsIf_load_mid (by rfl) 184 (.tmp 3) rfl (w.heap.size+1) (0) rfl ([.int .i64 own,.slice av2 m2 cap2]) _ (λ_ h=>h.2.2) underlying184 rfl (by kernel_rfl)) (by assumption) ?_;try simp only [Act.put,lA,lZ,lS]
    refine rdQ 6 (λK hK=>?_);go_simp
    refine (KC _ HBD.out).mono ?_;rintro e w2 ⟨rfl,hb2⟩;go_wp2_with fail
    have HB2:Hid (Below W1.heap.size W1 w2):=zAA HBD.out hb2;replace c20:=zAC hb2 c20
    replace ry:=zAF hb2 ry
    replace rs:=zAF hb2 rs
    refine hkQ hK ⟨c20,ry,rs⟩ (λhHeld=>?_);clear hK K
    refine rdQ 7 (λK hK=>?_);go_simp
    refine hkQ hK ⟨c20,ry,rs⟩ (λhHeld=>?_);clear hK K
    refine wpAnyH_done (by kernel_rfl) ?_ _;clear hHeld ry rs c20;go_wp2_with fail
    go_roundg (m - (i+1))
    case rel=>exact ⟨i+1,rt,rfl,by simp,rfl,hlt,HQ2,HB2⟩
    case measure=>omega
   ·have hq:q=c:=by rw [<-HQ.out];unfold go0;rw [if_neg hc]
    subst hq;have hB:=zAA HB1.out HB.out;go_wp2;go_ret;exact ⟨rfl,hB⟩
  ·have hli:¬ (i:Int)<(m:Int):=by omega
   have hq:q=c:=by
    have hie:ps.length<=i:=by have:=HMM.out;omega
    rw [<-HQ.out,List.drop_eq_nil_of_le hie];unfold go0;by_cases h0:c=0
    ·rw [if_pos h0,h0];rfl
    ·rw [if_neg h0]
   subst hq;have hB:=zAA HB1.out HB.out;go_wp2;go_ret;exact ⟨rfl,hB⟩
theorem zDA (own:Int) (nm:List ByteArray) (av2:Option Addr) (m2 cap2:Nat) (hm2:m2=nm.length) (hl2:nm.length<=16):∀ n,RfC own nm av2 m2 cap2 n
 | 0=>λt=>Empty.elim t
 | n+1=>zL4 own nm av2 m2 cap2 hm2 hl2 n (zDA own nm av2 m2 cap2 hm2 hl2 n)
open Go.RowKit
def OwnZ (w:World) (B:Nat) (v:Value) (A:List Int):Prop:=w.ownsRow B 3 1 v A.length (A.map (Value.int .i64))
theorem OwnZ.nil (w:World) (B:Nat):OwnZ w B (.slice none 0 0) []:=⟨rfl,Or.inl ⟨rfl,rfl⟩⟩
theorem OwnZ.rd (h:OwnZ w B v A):RdZ w v A:=by
 rcases h.2 with ⟨e,h0⟩ | ⟨g,cap,cur,e,hb,hg,h1,h2,h3,h4⟩
 ·have hA:A=[]:=List.eq_nil_of_length_eq_zero h0;subst hA;rw [e];exact RdZ.nil w
 ·refine ⟨some ⟨g,0,none⟩,cap,e,λi hi=>⟨g,0,rfl,?_⟩⟩;have hx:(A.map (Value.int .i64))[i]? = some (.int .i64 (A[i])):=by simp [hi]
  rw [<-h4,List.getElem?_take_of_lt (by omega)] at hx;unfold World.cell?;simp only [hg];simpa using hx
theorem OwnZ.blk (h:OwnZ w B v A) {g:Nat} (e:v.ownBlock=some g):B<=g/\g<w.heap.size:=by
 rcases h.2 with ⟨rfl,_⟩ | ⟨g',cap,cur,rfl,hb,hg,_⟩
 ·cases e
 ·have e2:g'=g:=by simpa [Value.ownBlock] using e
  subst e2;refine ⟨hb,?_⟩;rcases Nat.lt_or_ge g' w.heap.size with q | q
  ·exact q
  ·rw [Array.getElem?_eq_none q] at hg;cases hg
theorem OwnZ.below {w':World} (h:OwnZ w B v A) (hb:Below w.heap.size w w'):OwnZ w' B v A:=by
 have hk:=λ{g} (e:v.ownBlock=some g)=>h.blk e
 refine ⟨h.1,?_⟩;rcases h.2 with q | ⟨g,cap,cur,rfl,h1,hg,r⟩
 ·exact Or.inl q
 ·exact Or.inr ⟨g,cap,cur,rfl,h1,by rw [hb.block g (hk rfl).2];exact hg,r⟩
theorem zJZ:(prog.info? 3).map (λi=>(i.zero,i.size,i.bytes))=some (some (.int .i64 0),1,8):=by kernel_rfl
def zCl (at' n:Int) (j:Int):Bool:=decide (j<=at' \/ n<=j)
theorem zKZ (tp at':Int) (p q:Addr) (av:Option Addr) (n cap:Nat) (w:World) (hp:w.cell? p=some (.int .i64 at')) (hq:w.cell? q=some (.slice av n cap)) :
  CR 85 #[.int .i64 tp,.pointer (some p),.pointer (some q)] w (.bool (zCl at' n tp)):=by
 by_cases h1:tp<=at'
 ·have hs:zCl at' n tp=true:=decide_eq_true (Or.inl h1);rw [hs];go_enter func85,ntmps85;go_wp2;go_ret;exact ⟨by simp,Below.refl _ _⟩
 ·by_cases h2:(n:Int)<=tp
  ·have hs:zCl at' n tp=true:=decide_eq_true (Or.inr h2);rw [hs];go_enter func85,ntmps85;go_wp2;go_ret;exact ⟨by simp,Below.refl _ _⟩
  ·have hs:zCl at' n tp=false:=decide_eq_false (by omega);rw [hs];go_enter func85,ntmps85;go_wp2;go_ret;exact ⟨by simp,Below.refl _ _⟩
theorem zIA (l:List Int) (v:Value) (at':Int) (pb qb:Nat) (av:Option Addr) (n cap:Nat) (w:World) (h:RdZ w v l) (hl:l.length<=1000000) (hp:w.cell? ⟨pb,0,none⟩=some (.int .i64 at')) (hq:w.cell? ⟨qb,0,none⟩=some (.slice av n cap)) :
  Calls prog 113 #[v,.func (.func 85) #[] #[.pointer (some ⟨pb,0,none⟩),.pointer (some ⟨qb,0,none⟩)]] w λe w'=>(∃ z:Int,e=.returned (.int .i64 z)/\decide (0<=z)=l.any (zCl at' n))/\Below w.heap.size w w':=by
 have eg:∀ args w,(callFunc 85 args).run prog w=.ok (.enter 85 args) w:=λ_ _=>by kernel_rfl
 obtain ⟨a1,c1,rfl,r1⟩:=h;have H1:Hid (∀ i (h:i<l.length),∃ bb off,a1=some ⟨bb,off,none⟩/\w.cell? ⟨bb,off+i,none⟩=some (.int .i64 (l[i]))):=r1;obtain ⟨k,hk⟩:∃ k,l.length=k:=⟨_,rfl⟩
 have HK:Hid (l.length=k):=hk;rw [hk] at hl ⊢;have HP:Hid (w.cell? ⟨pb,0,none⟩=some (.int .i64 at')):=hp;have HQ:Hid (w.cell? ⟨qb,0,none⟩=some (.slice av n cap)):=hq;clear r1 hk hp hq;go_enter func113,ntmps113;go_wp2_with fail
 go_loopg [5,8] k (λgk y x wr=>∃ i:Nat,x=.int .i64 i/\gk=k - i/\i<=k/\Hid (∀ m (hm:m<l.length),m<i->zCl at' n l[m]=false)/\Below w.heap.size w wr)
 case atStart=>exact ⟨0,rfl,rfl,Nat.zero_le _,(λm hm h=>absurd h (Nat.not_lt_zero _):∀ m (hm:m<l.length),m<0->zCl at' n l[m]=false),Below.refl _ _⟩
 case round =>
  obtain ⟨i,rfl,hg,hi,HT,hb⟩:=hrel;by_cases hlt:i<k
  ·have hli:(i:Int)<(k:Int):=by omega
   have hwi:IntKind.i64.wrap ((i:Int)+1)=(i:Int)+1:=by rw [IntKind.wrap_i64];omega
   have hil:i<l.length:=by rw [HK.out];exact hlt
   obtain ⟨b1,o1,rfl,q1⟩:=H1.out i hil;have d1:=zAC hb q1;have SA:=λw2 (hb2:Below wr.heap.size wr w2)=>zKZ l[i] at' ⟨pb,0,none⟩ ⟨qb,0,none⟩ av n cap w2 (zAC hb2 (zAC hb HP.out)) (zAC hb2 (zAC hb HQ.out))
   obtain ⟨x,hx⟩:∃ x,l[i]=x:=⟨_,rfl⟩
   obtain ⟨r,hr⟩:∃ r,zCl at' n l[i]=r:=⟨_,rfl⟩
   have HR:Hid (zCl at' n l[i]=r):=hr;rw [hx] at d1 SA;rw [hx] at hr;rw [hr] at SA;have SA0:=SA wr (Below.refl _ _);clear q1 hx hr SA;cases r with
   | true =>
    go_wp2_with (go_at_call 85;refine SA0.mono ?_;rintro e w1 ⟨rfl,hb1⟩)
    go_ret;refine ⟨⟨_,rfl,?_⟩,zAA hb hb1⟩;have:l.any (zCl at' n)=true:=List.any_eq_true.2 ⟨l[i],List.getElem_mem _,HR.out⟩;rw [this];simp
   | false =>
    go_wp2_with (go_at_call 85;refine SA0.mono ?_;rintro e w1 ⟨rfl,hb1⟩)
    go_roundg (k - (i+1))
    case rel =>
     refine ⟨i+1,by simp,rfl,hlt,(λm hm hmi=>?_:∀ m (hm:m<l.length),m<i+1->zCl at' n l[m]=false),zAA hb hb1⟩;by_cases e:m=i
     ·subst e;exact HR.out
     ·exact HT.out m hm (by omega)
    case measure=>omega
  ·have hli:¬ (i:Int)<(k:Int):=by omega
   go_wp2;go_ret;refine ⟨⟨_,rfl,?_⟩,hb⟩;have:l.any (zCl at' n)=false:=by
    rw [List.any_eq_false];intro y hy;obtain ⟨m,hm,rfl⟩:=List.getElem_of_mem hy;rw [HT.out m hm (by have:=HK.out;omega)];simp
   rw [this];simp
theorem zBG (l:List Int) (v:Value) (at':Int) (pb qb:Nat) (av:Option Addr) (n cap:Nat) (w:World) (h:RdZ w v l) (hl:l.length<=1000000) (hp:w.cell? ⟨pb,0,none⟩=some (.int .i64 at')) (hq:w.cell? ⟨qb,0,none⟩=some (.slice av n cap)) :
  CR 87 #[v,.func (.func 85) #[] #[.pointer (some ⟨pb,0,none⟩),.pointer (some ⟨qb,0,none⟩)]] w (.bool (l.any (zCl at' n))):=by
 have I:=zIA l v at' pb qb av n cap w h hl hp hq;clear h hl hp hq;go_enter func87,ntmps87;go_wp2_with fail
 refine I.mono ?_;rintro e w1 ⟨⟨z,rfl,hv⟩,hb1⟩;have H:Hid (decide (0<=z)=l.any (zCl at' n)):=hv;clear hv I;go_wp2;go_ret;exact ⟨by rw [<-H.out];rfl,hb1⟩
abbrev oneA (w:World):World:=w.alloc (.cells #[.int .i64 0,.int .i64 0,.int .i64 0,.int .i64 0,.int .i64 0,.int .i64 0,.int .i64 0,.string ⟨#[]⟩,.bool false,.int .i64 0,.int .i64 0,.int .i64 0,.int .i64 0,.string ⟨#[]⟩,.bool false,.int .i64 0,.bool false,.bool false,.bool false,.int .i64 0,.int .i64 0] 261)
theorem vlz (w:World):AtL (w.alloc (.cells #[.int .i64 0,.int .i64 0,.int .i64 0,.string ⟨#[]⟩,.bool false,.int .i64 0] 38)) w.heap.size [.int .i64 0,.int .i64 0,.int .i64 0,.string ⟨#[]⟩,.bool false,.int .i64 0]:=AtL.new0 w _ _
def zDb (c:Int):Wt.Vl:=⟨4,0,0,⟨#[]⟩,false,if Wv.flt c then c else 2⟩
theorem zCU (c:Int) (w:World):CR 44 #[.int .i64 c] w (vlV (zDb c)):=by
 have C:=λw=>zDj c w
 unfold zDb;cases hq:Wv.flt c with
 | false =>
  rw [hq] at C;go_enter func44,ntmps44;go_wp2_with fail
  refine (C _).mono ?_;rintro e w1 ⟨rfl,rfl⟩;go_wp2;refine bodyPost_ret (v:=vlV ⟨4,0,0,⟨#[]⟩,false,2⟩) (by simp [results,results44,go_sem,vlV,vl6]) rfl ⟨rfl,?_⟩;exact clA
 | true =>
  rw [hq] at C;go_enter func44,ntmps44;go_wp2_with fail
  refine (C _).mono ?_;rintro e w1 ⟨rfl,rfl⟩;go_wp2;refine bodyPost_ret (v:=vlV ⟨4,0,0,⟨#[]⟩,false,c⟩) (by simp [results,results44,go_sem,vlV,vl6]) rfl ⟨rfl,?_⟩;exact clA
def zA8 (b:Bool):Wt.Vl:=⟨3,0,0,⟨#[]⟩,b,0⟩
theorem zCN (b:Bool) (w:World):CR 42 #[.bool b] w (vlV (zA8 b)):=by
 go_enter func42,ntmps42;go_wp2;refine bodyPost_ret (v:=vlV (zA8 b)) (by simp [results,results42,go_sem,vlV,vl6,zA8]) rfl ⟨rfl,?_⟩;exact clA
def zOe (n d:Int):Wt.Vl:=⟨1,Wnum.cN n d,Wnum.cD n d,⟨#[]⟩,false,0⟩
theorem zG7 (n d:Int) (w:World) (h1:-9223372036854775808<=n) (h2:n<=9223372036854775807) (h3:-9223372036854775808<=d) (h4:d<=9223372036854775807) :
  CR 40 #[.agg #[.int .i64 n,.int .i64 d]] w (vlV (zOe n d)):=by
 have C:=λw=>zFY n d w h1 h2 h3 h4
 unfold zOe Wnum.cN Wnum.cD;have pA:=(AtL.new0 w 36 [.int .i64 n,.int .i64 d]).alloc (.cells zV0 38);have pR:=vlz (w.alloc (.cells #[.int .i64 n,.int .i64 d] 36));simp only [World.size_alloc] at pR;have hB0:=zAH (zAH (Below.refl _ w) (.cells #[.int .i64 n,.int .i64 d] 36)) (.cells zV0 38);cases hq:Wnum.rightB n d with
 | false =>
  rw [hq] at C;go_enter func40,ntmps40;go_wp2_with fail
  refine (C _).mono ?_;rintro e w1 ⟨rfl,hb⟩;have pA1:=AtL.below hb pA;have pR1:=AtL.below hb pR;obtain ⟨a0,a1,f0,f1⟩:=pA1.two;obtain ⟨c0,c1,c2,c3,c4,c5⟩:=pR1.f6;have g0:=pR1.2.2 0 (by decide);have g1:=pR1.2.2 1 (by decide);have g2:=pR1.2.2 2 (by decide);have g3:=pR1.2.2 3 (by decide);have g4:=pR1.2.2 4 (by decide);have g5:=pR1.2.2 5 (by decide);have hB1:=zAA hB0 hb;go_wp2;refine bodyPost_ret (v:=vlV ⟨1,0,1,⟨#[]⟩,false,0⟩) (by simp [results,results40,go_sem,vlV,vl6, *]) rfl ⟨rfl,?_⟩;exact (clB hB1)
 | true =>
  rw [hq] at C;go_enter func40,ntmps40;go_wp2_with fail
  refine (C _).mono ?_;rintro e w1 ⟨rfl,hb⟩;have pA1:=AtL.below hb pA;have pR1:=AtL.below hb pR;obtain ⟨a0,a1,f0,f1⟩:=pA1.two;obtain ⟨c0,c1,c2,c3,c4,c5⟩:=pR1.f6;have g0:=pR1.2.2 0 (by decide);have g1:=pR1.2.2 1 (by decide);have g2:=pR1.2.2 2 (by decide);have g3:=pR1.2.2 3 (by decide);have g4:=pR1.2.2 4 (by decide);have g5:=pR1.2.2 5 (by decide);have hB1:=zAA hB0 hb;go_wp2;refine bodyPost_ret (v:=vlV ⟨1,n,d,⟨#[]⟩,false,0⟩) (by simp [results,results40,go_sem,vlV,vl6, *]) rfl ⟨rfl,?_⟩;exact (clB hB1)
def zHp (s:ByteArray):Wt.Vl:=if Wv.prts s.data.toList then (if 256<s.size then ⟨4,0,0,⟨#[]⟩,false,7⟩ else ⟨2,0,0,s,false,0⟩) else ⟨4,0,0,⟨#[]⟩,false,2⟩
theorem zKn (s:ByteArray) (w:World) (hs:s.size<=9223372036854775807):CR 38 #[.string s] w (vlV (zHp s)):=by
 have C:=λw=>zGd s w hs
 have F2:=λw=>zCU 2 w
 have F7:=λw=>zCU 7 w
 have e2:zDb 2=⟨4,0,0,⟨#[]⟩,false,2⟩:=rfl;have e7:zDb 7=⟨4,0,0,⟨#[]⟩,false,7⟩:=rfl;rw [e2] at F2;rw [e7] at F7;simp only [vlV,vl6] at F2 F7;have pR:=vlz w;have hB0:=zAH (Below.refl _ w) (.cells zV0 38);unfold zHp;cases hq:Wv.prts s.data.toList with
 | false =>
  rw [hq] at C;rw [if_neg (by decide)];go_enter func38,ntmps38;go_wp2_with fail
  refine (C _).mono ?_;rintro e w1 ⟨rfl,rfl⟩;go_wp2_with fail
  refine (F2 _).mono ?_;rintro e w2 ⟨rfl,hb⟩;have pR1:=AtL.below hb pR;obtain ⟨c0,c1,c2,c3,c4,c5⟩:=pR1.f6;have g0:=pR1.2.2 0 (by decide);have g1:=pR1.2.2 1 (by decide);have g2:=pR1.2.2 2 (by decide);have g3:=pR1.2.2 3 (by decide);have g4:=pR1.2.2 4 (by decide);have g5:=pR1.2.2 5 (by decide);have hB1:=zAA hB0 hb;go_wp2;refine bodyPost_ret (v:=vlV ⟨4,0,0,⟨#[]⟩,false,2⟩) (by simp [results,results38,go_sem,vlV,vl6, *]) rfl ⟨rfl,?_⟩;exact (clB hB1)
 | true =>
  rw [hq] at C;rw [if_pos rfl];by_cases hl:256<s.size
  ·have hli:(256:Int)<(s.size:Int):=by omega
   rw [if_pos hl];go_enter func38,ntmps38;go_wp2_with fail
   refine (C _).mono ?_;rintro e w1 ⟨rfl,rfl⟩;go_wp2_with fail
   refine (F7 _).mono ?_;rintro e w2 ⟨rfl,hb⟩;have pR1:=AtL.below hb pR;obtain ⟨c0,c1,c2,c3,c4,c5⟩:=pR1.f6;have g0:=pR1.2.2 0 (by decide);have g1:=pR1.2.2 1 (by decide);have g2:=pR1.2.2 2 (by decide);have g3:=pR1.2.2 3 (by decide);have g4:=pR1.2.2 4 (by decide);have g5:=pR1.2.2 5 (by decide);have hB1:=zAA hB0 hb;go_wp2;refine bodyPost_ret (v:=vlV ⟨4,0,0,⟨#[]⟩,false,7⟩) (by simp [results,results38,go_sem,vlV,vl6, *]) rfl ⟨rfl,?_⟩;exact (clB hB1)
  ·have hli:¬ (256:Int)<(s.size:Int):=by omega
   rw [if_neg hl];go_enter func38,ntmps38;go_wp2_with fail
   refine (C _).mono ?_;rintro e w1 ⟨rfl,rfl⟩;go_wp2;refine bodyPost_ret (v:=vlV ⟨2,0,0,s,false,0⟩) (by simp [results,results38,go_sem,vlV,vl6, *]) rfl ⟨rfl,?_⟩;exact clA
abbrev zP5 (ka kb:Nat) (x:Wc.In) (tv:Value) (W:World):Prop :=
 W.cell? ⟨ka,9,none⟩=some (.int .i64 x.ce.s)/\W.cell? ⟨ka,10,none⟩=some (.int .i64 x.ce.r)/\W.cell? ⟨ka,11,none⟩=some (.int .i64 x.ce.c)/\W.frozen? ⟨kb,9,none⟩=false/\W.frozen? ⟨kb,10,none⟩=false/\W.frozen? ⟨kb,11,none⟩=false
theorem zF7 {y:Wc.In} {tu:Value} (h0:AtL W ka (zAM x tv)) (h1:AtL W kb (zAM y tu)):zP5 ka kb x tv W :=
 ⟨h0.2.1 9 _ rfl,h0.2.1 10 _ rfl,h0.2.1 11 _ rfl,h1.2.2 9 (by show 9<23;decide),h1.2.2 10 (by show 10<23;decide),h1.2.2 11 (by show 11<23;decide)⟩
theorem zER (h:zP5 ka kb x tv W) (hne:kb ≠ ka) (j:Nat) (u:Value):zP5 ka kb x tv (W.setCell ⟨kb,j,none⟩ u):=by
 obtain ⟨h9,h10,h11,g9,g10,g11⟩:=h;refine ⟨?_,?_,?_,?_,?_,?_⟩;any_goals rw [World.cell?_setCell_far _ _ _ _ (by simpa using hne)];assumption
 all_goals rw [World.frozen?_setCell];assumption
theorem zMd (x:Wc.In) (av:Option Addr) (n c:Nat) (tl:List Int) (w:World) (hk:x.op=2) (hz:RdZ w (.slice av n c) tl) (hl:tl.length<=1000000) :
  CR 84 #[inV x (.slice av n c)] w (.bool (Wpl.rightC x.ce.s x.ce.r x.ce.c && (smI x ⟨2,0,0,v0I,x.ce,a0I,a0I⟩ && decide (tl=[])))):=by
 have C:=(λw=>zAr x.ce.s x.ce.r x.ce.c w:∀ w:World,CR 71 #[.agg #[.int .i64 x.ce.s,.int .i64 x.ce.r,.int .i64 x.ce.c]] w (.bool (Wpl.rightC x.ce.s x.ce.r x.ce.c)))
 have CS:∀ w',Below w.heap.size w w'->Calls prog 112 #[.agg (zAM x (.slice av n c)).toArray,.agg (zAM ⟨2,0,0,v0I,x.ce,a0I,a0I⟩ zAV).toArray] w' λe w''=>e=.returned (.bool (smI x ⟨2,0,0,v0I,x.ce,a0I,a0I⟩ && decide (tl=[])))/\Below w'.heap.size w' w'':=λw' hb=>zDQ x ⟨2,0,0,v0I,x.ce,a0I,a0I⟩ _ _ tl [] w' (hz.below hb) (RdZ.nil _) hl (by first | exact hl | simp)
 obtain ⟨tv,htv⟩:∃ tv,Value.slice av n c=tv:=⟨_,rfl⟩
 rw [htv] at CS ⊢;generalize (smI x ⟨2,0,0,v0I,x.ce,a0I,a0I⟩ && decide (tl=[]))=R at *;generalize Wpl.rightC x.ce.s x.ce.r x.ce.c=q at *;have pA0:AtL (zCf w x tv) w.heap.size (zAM x tv):=(AtL.new0 w _ _).alloc _;have pO0:AtL (zCf w x tv) (w.heap.size+1) (zAM (zAq 0) zAV):=AtL.new1 w _ _ _;have hth:World.there (zCf w x tv) (w.heap.size+1) 0 (zAM (zAq 2) zAV).toArray.size:=pO0.there;have hne:w.heap.size+1 ≠ w.heap.size:=by omega
 have pA:=pA0.farAll hne 0 (zAM (zAq 2) zAV);have pO:AtL ((zCf w x tv).setCells (w.heap.size+1) 0 (zAM (zAq 2) zAV)) (w.heap.size+1) (zAM (zAq 2) zAV):=pO0.setAll rfl;have hBa:Below w.heap.size w ((zCf w x tv).setCells (w.heap.size+1) 0 (zAM (zAq 2) zAV)):=zBJ (zAH (zAH (Below.refl _ w) _) _) (Nat.le_succ _) _ 0;clear pA0 pO0;have n0:(zAM x tv)[0]? = some (.int .i64 2):=by rw [<-hk];rfl
 have a0:World.cell? ((zCf w x tv).setCells (w.heap.size+1) 0 (zAM (zAq 2) zAV)) ⟨w.heap.size,0,none⟩=some (.int .i64 2):=pA.2.1 0 _ n0;show Calls _ _ #[.agg (zAM x tv).toArray] _ _
 have hS:zP5 w.heap.size (w.heap.size+1) x tv ((zCf w x tv).setCells (w.heap.size+1) 0 (zAM (zAq 2) zAV)):=zF7 pA pO;clear hz hl htv;cases q
 all_goals
  go_enter func84,ntmps84;go_upto_region 1 with fail
  go_upto_region 2 with ((with_reducible refine wpList_store_mid ?_ 67 (.tmp 3) (.tmp 7) ?_ (w.heap.size+1) 0 (zAM (zAq 2) zAV).toArray ?_ ?_ ?_ ?_ ?_ ?_);rfl;rfl;rfl;rfl;exact hth;kernel_rfl;exact zHc _ _ _ _)
  generalize (zCf w x tv).setCells (w.heap.size+1) 0 (zAM (zAq 2) zAV)=W0 at *;clear hth;go_upto_region 6 with fail
  go_region_held3 (zP5 w.heap.size (w.heap.size+1) x tv)
   (with_reducible first | exact hS | assumption | exact zF7 pA1 pO1 | exact (zER (zER (zER (by assumption) (by omega) _ _) (by omega) _ _) (by omega) _ _) | exact zF7 (AtL.drew pA) (AtL.drew pO))
   (first | (go_at_call 71;refine (C _).mono ?_;rintro e w1 ⟨rfl,hb⟩;have pA1:=AtL.below hb (AtL.drew pA);have pO1:=AtL.below hb (AtL.drew pO);have o9:=pO1.2.1 9 _ rfl;have o10:=pO1.2.1 10 _ rfl;have o11:=pO1.2.1 11 _ rfl;have hB1:=zAA hBa.drew hb))
  all_goals
   clear pA pO hS C hBa o9 o10 o11 a0;have pA2:AtL (((w1.setCell ⟨w.heap.size+1,9,none⟩ (.int .i64 x.ce.s)).setCell ⟨w.heap.size+1,10,none⟩ (.int .i64 x.ce.r)).setCell ⟨w.heap.size+1,11,none⟩ (.int .i64 x.ce.c)) w.heap.size (zAM x tv):=(((pA1.far hne 9 (.int .i64 x.ce.s)).far hne 10 (.int .i64 x.ce.r)).far hne 11 (.int .i64 x.ce.c))
   have pO2:AtL (((w1.setCell ⟨w.heap.size+1,9,none⟩ (.int .i64 x.ce.s)).setCell ⟨w.heap.size+1,10,none⟩ (.int .i64 x.ce.r)).setCell ⟨w.heap.size+1,11,none⟩ (.int .i64 x.ce.c)) (w.heap.size+1) (zAM ⟨2,0,0,v0I,x.ce,a0I,a0I⟩ zAV):=(((pO1.set 9 (.int .i64 x.ce.s)).set 10 (.int .i64 x.ce.r)).set 11 (.int .i64 x.ce.c))
   have hB2:Below w.heap.size w (((w1.setCell ⟨w.heap.size+1,9,none⟩ (.int .i64 x.ce.s)).setCell ⟨w.heap.size+1,10,none⟩ (.int .i64 x.ce.r)).setCell ⟨w.heap.size+1,11,none⟩ (.int .i64 x.ce.c)):=(clB hB1)
   clear pA1 pO1 hB1;generalize (((w1.setCell ⟨w.heap.size+1,9,none⟩ (.int .i64 x.ce.s)).setCell ⟨w.heap.size+1,10,none⟩ (.int .i64 x.ce.r)).setCell ⟨w.heap.size+1,11,none⟩ (.int .i64 x.ce.c))=W2 at *;have rA:=pA2.range;have rO:=pO2.range;clear pA2 pO2;go_wp2_with (first | ((with_reducible refine zAB ?_ 67 (.tmp 1) ?_ w.heap.size 0 ?_ (zAM x tv) _ ?_ underlying67 ?_ ?_ ?_);rfl;rfl;rfl;exact rA;rfl;kernel_rfl) | ((with_reducible refine zAB ?_ 67 (.tmp 3) ?_ (w.heap.size+1) 0 ?_ (zAM ⟨2,0,0,v0I,x.ce,a0I,a0I⟩ zAV) _ ?_ underlying67 ?_ ?_ ?_);rfl;rfl;rfl;exact rO;rfl;kernel_rfl) | (go_at_call 112;refine (CS _ hB2).mono ?_;rintro e w3 ⟨rfl,hb3⟩;have hB3:=zAA hB2 hb3))
   go_wp2;go_ret;first
   | exact ⟨by simp,hB2⟩
   | exact ⟨by simp,hB3⟩
