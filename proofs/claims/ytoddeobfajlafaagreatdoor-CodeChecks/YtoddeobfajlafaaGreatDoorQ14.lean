/- KRefC, KRefN, KRefT, KApp, KPlacA. -/
import Derived.Test.YtoddeobfajlafaaGreatDoorQ13
set_option maxHeartbeats 1600000
set_option maxRecDepth 100000
namespace Go.Proofs.YtoddeobfajlafaaGreatDoor
open Tryz
open Go.RowKit Wf
set_option linter.unusedVariables false
variable {w w':World} {B n:Nat} {v:Value} {A:List Int} {o:Oper} {a:Act} {Q:Exit->Act->World->Prop}
theorem zGa:(List.range 64).all (λk=>let s:=(zAP (k:Nat)).p.size;decide (0<s) && decide (s<=10))=true:=by kernel_rfl
theorem zII (s:ByteArray):0<(zAP (zAl s:Nat)).p.size/\(zAP (zAl s:Nat)).p.size<=10:=by
 have:=List.all_eq_true.1 zGa (zAl s) (List.mem_range.2 (by have:=zIr s;omega));simpa using this
theorem zGN {id:Int} {ks:List Wt.Nd} (hp:Wc.pairs id=true) (hl:(zAP id).l<=(ks.length:Int)) (ht:zAr (zAP id).p.data.toList ks 0=true):0<(ks.filter isA).length:=by
 have hid:id=22 \/ id=23 \/ id=24:=by
  simp only [Wc.pairs,Bool.or_eq_true,beq_iff_eq] at hp;exact hp
 have ha:∃ x ∈ ks,isA x=true:=by
  rcases hid with rfl | rfl | rfl
  ·have hl2:(2:Int)<=(ks.length:Int):=hl;match ks,ht with
   | x::r,ht =>
    refine ⟨x,List.mem_cons_self ..,?_⟩;cases hx:isA x with
    | true=>rfl
    | false =>
     have:zAr (zAP 22).p.data.toList (x::r) 0=false:=by
      simp only [zAr,hx];rfl
     rw [this] at ht;cases ht
  ·have hl2:(3:Int)<=(ks.length:Int):=hl;match ks,ht with
   | x::y::r,ht =>
    refine ⟨y,List.mem_cons_of_mem _ (List.mem_cons_self ..),?_⟩;cases hy:isA y with
    | true=>rfl
    | false =>
     have:zAr (zAP 23).p.data.toList (x::y::r) 0=false:=by
      cases hx:isA x with
      | true =>
       simp only [zAr,hx];rfl
      | false =>
       have e1:zAr (zAP 23).p.data.toList (x::y::r) 0=zAr (zAP 23).p.data.toList (y::r) 1:=by
        simp only [zAr,hx];rfl
       rw [e1];simp only [zAr,hy];rfl
     rw [this] at ht;cases ht
  ·have hl2:(2:Int)<=(ks.length:Int):=hl;match ks,ht with
   | x::r,ht =>
    refine ⟨x,List.mem_cons_self ..,?_⟩;cases hx:isA x with
    | true=>rfl
    | false =>
     have:zAr (zAP 24).p.data.toList (x::r) 0=false:=by
      simp only [zAr,hx];rfl
     rw [this] at ht;cases ht
 obtain ⟨x,hx,hi⟩:=ha;exact List.length_pos_of_mem (List.mem_filter.2 ⟨hx,hi⟩)
theorem zK6 (x:Wt.Nd) (L:List (Wt.Nd × Value)) (av:Option Addr) (m cap:Nat) (w:World) (hN:NmAt w) (hm:m=L.length) (hl:L.length<=30) (har:x.ar=(L.length:Int)) (hsl:∀ q ∈ L,∃ a b c,q.2=.slice a b c) (hR:RdQ w av L) (hrt:∀ q ∈ L,isA q.1=true->RtN q.1) :
  CR 80 #[.agg (zAL x (.slice av m cap)).toArray] w (.int .i64 (zJp x (L.map (·.1)))):=by
 have hpl:=zII x.nm;have hb0:=zAJ (Below.refl _ w) (.cells (zAL x (.slice av m cap)).toArray 64);have pP:=AtL.new0 w 64 (zAL x (.slice av m cap));have OF:=zFP x.nm _ (hN.below hb0);have HTK:Hid (∀ (a1 a2:Int) (a3:ByteArray) (a4 a5:Int) (w2:World),RdQ w2 av L->Calls prog 116 #[.agg (sg6 a1 a2 a3 a4 a5 (zAP (zAl x.nm:Nat)).p).toArray,.slice av m cap] w2 λe w'=>e=.returned (.bool (zAr (zAP (zAl x.nm:Nat)).p.data.toList (L.map (·.1)) 0))/\Below w2.heap.size w2 w'):=λa1 a2 a3 a4 a5 w2 h=>zHz a1 a2 a3 a4 a5 _ L av m cap w2 hpl hm hl hsl h
 have HSH:Hid ((zAP (zAl x.nm:Nat)).l<=x.ar->zAr (zAP (zAl x.nm:Nat)).p.data.toList (L.map (·.1)) 0=true->∀ (w2:World),RdQ w2 av L->Calls prog 117 #[.int .i64 (zAl x.nm:Nat),.slice av m cap] w2 λe w'=>e=.returned (.bool (zB6 (zAl x.nm:Nat) (L.map (·.1))))/\Below w2.heap.size w2 w'):=λh1 h2 w2 h=>zGP _ L av m cap w2 hm hl hsl h (λhp=>by
  have:=zGN (ks:=L.map (·.1)) hp (by rw [List.length_map,<-har];exact h1) h2;rw [List.filter_map,List.length_map] at this;exact this) hrt
 have HR0:Hid (RdQ (w.alloc (.cells (zAL x (.slice av m cap)).toArray 64)) av L):=hR.below hb0;unfold zJp;simp only;generalize L.map (·.1)=ks at *;have c8:=pP.2.1 8 (.string x.nm) rfl;clear hpl hN hm hl hsl hR hrt har;unfold zC0 at OF;generalize zB6 (zAl x.nm:Nat) ks=qs at *;generalize zAr (zAP (zAl x.nm:Nat)).p.data.toList ks 0=qt at *;generalize hnm:zEW (zAl x.nm:Nat)=nmv at *;generalize zAP (zAl x.nm:Nat)=sh at *;generalize zAf (zAl x.nm:Nat)=kb at *;generalize hid:((zAl x.nm:Nat):Int)=id at *;clear hnm hid;obtain ⟨q,hq⟩:∃ q:Int,(if kb=false then 80 else if x.ar<sh.l \/ sh.m<x.ar then 81 else if qt=false then 82 else if qs=false then 83 else 0)=q:=⟨_,rfl⟩
 rw [hq];have HQ:Hid ((if kb=false then 80 else if x.ar<sh.l \/ sh.m<x.ar then 81 else if qt=false then 82 else if qs=false then 83 else 0)=q):=hq;clear hq;go_enter func80,ntmps80;go_upto_region 1 with fail
 generalize (w.alloc (.cells (zAL x (.slice av m cap)).toArray 64))=W at *;go_wp2_with fail
 refine OF.mono ?_;rintro e w1 ⟨rfl,hb1⟩;have HR1:Hid (RdQ w1 av L):=HR0.out.below hb1;have HP1:Hid (AtL w1 w.heap.size (zAL x (.slice av m cap))):=AtL.below hb1 pP;have HB1:Hid (Below w.heap.size w w1):=zAB hb0 hb1;clear OF c8 pP hb0 hb1 HR0;cases kb with
 | false =>
  have hq:q=80:=by rw [<-HQ.out];rfl
  subst hq;clear HQ HTK HSH HR1 HP1;simp only [Bool.false_eq_true,if_false,zero6];have hB:=HB1.out;go_wp2;go_ret;exact ⟨rfl,(clB hB)⟩
 | true =>
  simp only [if_true];have hb2:=zAJ (Below.refl _ w1) (.cells (sg6 id sh.c ⟨nmv.toArray⟩ sh.l sh.m sh.p).toArray 108);have pS:=AtL.new0 w1 108 (sg6 id sh.c ⟨nmv.toArray⟩ sh.l sh.m sh.p);have HR2:Hid (RdQ (w1.alloc (.cells (sg6 id sh.c ⟨nmv.toArray⟩ sh.l sh.m sh.p).toArray 108)) av L):=HR1.out.below hb2;have pP2:=AtL.below hb2 HP1.out;have hB2:=zAB HB1.out hb2;have HTK2:Hid (∀ w2:World,RdQ w2 av L->Calls prog 116 #[.agg (sg6 id sh.c ⟨nmv.toArray⟩ sh.l sh.m sh.p).toArray,.slice av m cap] w2 λe w'=>e=.returned (.bool qt)/\Below w2.heap.size w2 w'):=λw2 h=>HTK.out _ _ _ _ _ w2 h
  clear hb2 HR1 HP1 HB1 HTK;generalize (⟨nmv.toArray⟩:ByteArray)=nv at *;go_upto_region 2 with fail
  generalize (w1.alloc (.cells (sg6 id sh.c nv sh.l sh.m sh.p).toArray 108))=W2 at *;have p9:=pP2.2.1 9 (.int .i64 x.ar) rfl;have p20:=pP2.2.1 20 (.slice av m cap) rfl;obtain ⟨sb,hsb⟩:∃ k,w1.heap.size=k:=⟨_,rfl⟩
  rw [hsb] at pS;simp only [hsb];clear hsb;obtain ⟨b0,b1,b2,b3,b4,b5,k0,k1,k2,k3,k4,k5⟩:=at6 pS;by_cases h1:x.ar<sh.l
  ·have hq:q=81:=by rw [<-HQ.out];simp [h1]
   subst hq;go_wp2;go_ret;exact ⟨rfl,hB2⟩
  by_cases h2:sh.m<x.ar
  ·have hq:q=81:=by rw [<-HQ.out];simp [h2]
   subst hq;go_wp2;go_ret;exact ⟨rfl,hB2⟩
  have HTT:=HTK2.out W2 HR2.out;go_wp2_with fail
  refine HTT.mono ?_;rintro e w3 ⟨rfl,hb3⟩;have HR3:Hid (RdQ w3 av L):=HR2.out.below hb3;replace pP2:=AtL.below hb3 pP2
  replace pS:=AtL.below hb3 pS
  replace hB2:=zAB hB2 hb3
  clear HTT hb3 HTK2 HR2 p9 p20 b0 b1 b2 b3 b4 b5 k0 k1 k2 k3 k4 k5;have p20:=pP2.2.1 20 (.slice av m cap) rfl;have b0:=pS.2.1 0 (.int .i64 id) rfl;cases qt with
  | false =>
   have hq:q=82:=by rw [<-HQ.out];simp [h1,h2]
   subst hq;go_wp2;go_ret;exact ⟨rfl,hB2⟩
  | true =>
   have SS:=HSH.out (by omega) rfl w3 HR3.out;go_wp2_with fail
   refine SS.mono ?_;rintro e w4 ⟨rfl,hb4⟩;replace hB2:=zAB hB2 hb4
   clear hb4 SS;cases qs with
   | false =>
    have hq:q=83:=by rw [<-HQ.out];simp [h1,h2]
    subst hq;go_wp2;go_ret;exact ⟨rfl,hB2⟩
   | true =>
    have hq:q=0:=by rw [<-HQ.out];simp [h1,h2]
    subst hq;go_wp2;go_ret;exact ⟨rfl,hB2⟩
theorem zJa (own:Int) (nm:List ByteArray) (av2:Option Addr) (m2 cap2:Nat) (x:Wt.Nd) (L:List (Wt.Nd × Value)) (av:Option Addr) (m cap:Nat) (w:World) (hN:NmAt w) (hS:RdS w av2 nm) (hm2:m2=nm.length) (hl2:nm.length<=16) (hm:m=L.length) (hl:L.length<=30) (har:x.k=6->x.ar=(L.length:Int)) (hsl:∀ q ∈ L,∃ a b c,q.2=.slice a b c) (hR:RdQ w av L) (hrt:∀ q ∈ L,isA q.1=true->RtN q.1) :
  CR 46 #[.agg (zAL x (.slice av m cap)).toArray,zCJ own av2 m2 cap2] w (.int .i64 (zFl own nm x (L.map (·.1)))):=by
 have hb:=zAJ (zAJ (Below.refl _ w) (.cells (zAL x (.slice av m cap)).toArray 64)) (.cells #[.int .i64 own,.slice av2 m2 cap2] 60);have pP:=(AtL.new0 w 64 (zAL x (.slice av m cap))).alloc (.cells #[.int .i64 own,.slice av2 m2 cap2] 60);have pS:=AtL.new1 w (.cells (zAL x (.slice av m cap)).toArray 64) 60 [.int .i64 own,.slice av2 m2 cap2];have c0:=pP.2.1 0 (.int .i64 x.k) rfl;have c10:=pP.2.1 10 (.string x.a.s) rfl;have c20:=pP.2.1 20 (.slice av m cap) rfl;have s0:=pS.2.1 0 _ rfl;have s1:=pS.2.1 1 _ rfl;have rP:=pP.range;have SH:=zCU own nm x.a.s av2 m2 cap2 _ hm2 hl2 (hS.below hb);have CT:=zDH L av m cap _ hm hl (hR.below hb);have hany:L.any (λp=>isA p.1)=(L.map (·.1)).any isA:=by rw [List.any_map];rfl
 rw [hany] at CT;have HRC:Hid (x.k=6->Calls prog 80 #[.agg (zAL x (.slice av m cap)).toArray] ((w.alloc (.cells (zAL x (.slice av m cap)).toArray 64)).alloc (.cells #[.int .i64 own,.slice av2 m2 cap2] 60)) λe w'=>e=.returned (.int .i64 (zJp x (L.map (·.1))))/\Below ((w.alloc (.cells (zAL x (.slice av m cap)).toArray 64)).alloc (.cells #[.int .i64 own,.slice av2 m2 cap2] 60)).heap.size ((w.alloc (.cells (zAL x (.slice av m cap)).toArray 64)).alloc (.cells #[.int .i64 own,.slice av2 m2 cap2] 60)) w'):=λh6=>zK6 x L av m cap _ (hN.below hb) hm hl (har h6) hsl (hR.below hb) hrt
 clear hany pP pS hN hS hm2 hl2 hm hl har hsl hR hrt;unfold zFl;generalize zJp x (L.map (·.1))=rc at *;generalize (L.map (·.1)).any isA=qa at *;generalize shN own nm x.a.s=sn at *;by_cases h2:x.k=2
 ·rw [if_pos (Or.inl h2)];rw [h2] at c0;obtain ⟨z,hz⟩:∃ z:Int,(if sn<0 then 84 else 0)=z:=⟨_,rfl⟩
  rw [hz];have HZ:Hid ((if sn<0 then (84:Int) else 0)=z):=hz;clear hz;clear CT HRC h2;go_enter func46,ntmps46;go_upto_region 1 with fail
  generalize ((w.alloc (.cells (zAL x (.slice av m cap)).toArray 64)).alloc (.cells #[.int .i64 own,.slice av2 m2 cap2] 60))=W at *;go_wp2_with fail
  refine SH.mono ?_;rintro e w1 ⟨rfl,hb1⟩;have hB:=zAB hb hb1;by_cases hs:sn<0
  ·go_wp2;go_ret;exact ⟨congrArg (λz=>Ending.returned (Value.int .i64 z)) (by rw [<-HZ.out,if_pos (by omega)]:(84:Int)=z),hB⟩
  ·go_wp2;go_ret;exact ⟨congrArg (λz=>Ending.returned (Value.int .i64 z)) (by rw [<-HZ.out,if_neg (by omega)]:(0:Int)=z),hB⟩
 by_cases h3:x.k=3
 ·rw [if_pos (Or.inr h3)];rw [h3] at c0;obtain ⟨z,hz⟩:∃ z:Int,(if sn<0 then 84 else 0)=z:=⟨_,rfl⟩
  rw [hz];have HZ:Hid ((if sn<0 then (84:Int) else 0)=z):=hz;clear hz;clear CT HRC h2 h3;go_enter func46,ntmps46;go_upto_region 1 with fail
  generalize ((w.alloc (.cells (zAL x (.slice av m cap)).toArray 64)).alloc (.cells #[.int .i64 own,.slice av2 m2 cap2] 60))=W at *;go_wp2_with fail
  refine SH.mono ?_;rintro e w1 ⟨rfl,hb1⟩;have hB:=zAB hb hb1;by_cases hs:sn<0
  ·go_wp2;go_ret;exact ⟨congrArg (λz=>Ending.returned (Value.int .i64 z)) (by rw [<-HZ.out,if_pos (by omega)]:(84:Int)=z),hB⟩
  ·go_wp2;go_ret;exact ⟨congrArg (λz=>Ending.returned (Value.int .i64 z)) (by rw [<-HZ.out,if_neg (by omega)]:(0:Int)=z),hB⟩
 rw [if_neg (λh=>h.elim h2 h3)];by_cases h4:x.k=4
 ·rw [if_pos (Or.inl h4)];rw [h4] at c0;clear SH HRC h2 h3 h4;go_enter func46,ntmps46;go_upto_region 1 with fail
  generalize ((w.alloc (.cells (zAL x (.slice av m cap)).toArray 64)).alloc (.cells #[.int .i64 own,.slice av2 m2 cap2] 60))=W at *;go_wp2_with fail
  refine CT.mono ?_;rintro e w1 ⟨rfl,hb1⟩;have hB:=zAB hb hb1;cases qa with
  | true =>
   go_wp2;go_ret;exact ⟨rfl,hB⟩
  | false =>
   go_wp2;go_ret;exact ⟨rfl,hB⟩
 by_cases h5:x.k=5
 ·rw [if_pos (Or.inr h5)];rw [h5] at c0;clear SH HRC h2 h3 h4 h5;go_enter func46,ntmps46;go_upto_region 1 with fail
  generalize ((w.alloc (.cells (zAL x (.slice av m cap)).toArray 64)).alloc (.cells #[.int .i64 own,.slice av2 m2 cap2] 60))=W at *;go_wp2_with fail
  refine CT.mono ?_;rintro e w1 ⟨rfl,hb1⟩;have hB:=zAB hb hb1;cases qa with
  | true =>
   go_wp2;go_ret;exact ⟨rfl,hB⟩
  | false =>
   go_wp2;go_ret;exact ⟨rfl,hB⟩
 rw [if_neg (λh=>h.elim h4 h5)];by_cases h6:x.k=6
 ·rw [if_pos h6];have RC:=HRC.out h6;rw [h6] at c0;clear SH CT HRC h2 h3 h4 h5 h6;go_enter func46,ntmps46;go_upto_region 1 with fail
  generalize ((w.alloc (.cells (zAL x (.slice av m cap)).toArray 64)).alloc (.cells #[.int .i64 own,.slice av2 m2 cap2] 60))=W at *;go_wp2_with (first | (refine zAA (by rfl) 64 (.tmp 2) rfl w.heap.size 0 rfl (zAL x (.slice av m cap)) _ rP underlying64 rfl (by kernel_rfl) ?_))
  refine RC.mono ?_;rintro e w1 ⟨rfl,hb1⟩;have hB:=zAB hb hb1;go_wp2;go_ret;exact ⟨rfl,hB⟩
 rw [if_neg h6];clear SH CT HRC;go_enter func46,ntmps46;go_upto_region 1 with fail
 generalize ((w.alloc (.cells (zAL x (.slice av m cap)).toArray 64)).alloc (.cells #[.int .i64 own,.slice av2 m2 cap2] 60))=W at *;go_wp2;go_ret;exact ⟨rfl,hb⟩
def go0 (c:Int) (l:List Int):Int:=if c=0 then zPP l else c
theorem zIx {lo hi:Nat} {ps:List (Tr n × Value)} (h:∀ p ∈ ps,PA n lo hi w p.1 p.2):∀ q ∈ (ps.map λp=>(hd n p.1,p.2)),∃ a b c,q.2=Value.slice a b c:=λq hq=>by
 obtain ⟨p,hp,rfl⟩:=List.mem_map.1 hq;exact (h p hp).slice
theorem zFJ:∀ {n:Nat} {t:Tr n},zDJ n t->Wt.right (hd n t)=true
 | 0,t,_=>Empty.elim t
 | n+1,t,h=>h.1
theorem zMA {ps:List (Tr n × Value)} (h:∀ p ∈ ps,zDJ n p.1):∀ q ∈ (ps.map λp=>(hd n p.1,p.2)),isA q.1=true->RtN q.1:=λq hq ha=>by
 obtain ⟨p,hp,rfl⟩:=List.mem_map.1 hq;exact zDL (zFJ (h p hp)) (by simpa [isA] using ha)
def RfC (own:Int) (nm:List ByteArray) (av2:Option Addr) (m2 cap2 n:Nat):Prop:=∀ (t:Tr n) (sl:Value) (lo hi:Nat) (w:World),zDJ n t->PA n lo hi w t sl->NmAt w->RdS w av2 nm ->
 CR 25 #[.agg (zAL (hd n t) sl).toArray,zCJ own av2 m2 cap2] w (.int .i64 (zCK own nm n t))
theorem zK7 (own:Int) (nm:List ByteArray) (av2:Option Addr) (m2 cap2:Nat) (hm2:m2=nm.length) (hl2:nm.length<=16) (n:Nat) (ih:RfC own nm av2 m2 cap2 n):RfC own nm av2 m2 cap2 (n+1):=by
 intro t sl lo hi w hF hP hN hS;obtain ⟨x,ks⟩:Br (Tr n):=t;obtain ⟨hx,hp,hks⟩:=hF;replace hx:Wt.right x=true:=hx
 replace hp:Wt.parts x=(ks.length:Int):=hp
 replace hks:∀ k ∈ ks,zDJ n k:=hks
 obtain ⟨av,cap,ps,q1,rfl,q2c,q3,q4⟩:=hP;replace q1:ps.map (·.1)=ks:=q1
 have hhd:hd (n+1) (⟨x,ks⟩:Br (Tr n))=x:=rfl;rw [hhd];have hlen:ps.length=ks.length:=by rw [<-q1,List.length_map]
 have hl30:ps.length<=30:=by have:=(Wt.parts_le hx).2;omega
 have hfp:∀ p ∈ ps,zDJ n p.1:=λp hp=>hks p.1 (by rw [<-q1];exact List.mem_map.2 ⟨p,hp,rfl⟩)
 have har:x.k=6->x.ar=((ps.map λp=>(hd n p.1,p.2)).length:Int):=λh6=>by
  rw [List.length_map,hlen,<-hp];unfold Wt.parts;rw [if_neg (by omega),if_neg (by omega)]
 have hb:=zAJ (zAJ (Below.refl _ w) (.cells (zAL x (.slice av ps.length cap)).toArray 64)) (.cells #[.int .i64 own,.slice av2 m2 cap2] 60);have pP:=(AtL.new0 w 64 (zAL x (.slice av ps.length cap))).alloc (.cells #[.int .i64 own,.slice av2 m2 cap2] 60);have pS:=AtL.new1 w (.cells (zAL x (.slice av ps.length cap)).toArray 64) 60 [.int .i64 own,.slice av2 m2 cap2];have RN:=zJa own nm av2 m2 cap2 x (ps.map λp=>(hd n p.1,p.2)) av ps.length cap _ (hN.below hb) (hS.below hb) hm2 hl2 (by rw [List.length_map]) (by rw [List.length_map];exact hl30) har (zIx q4) (q3.q.below hb) (zMA hfp);have hmap:(ps.map λp=>(hd n p.1,p.2)).map (·.1)=ks.map (hd n):=by rw [<-q1,List.map_map,List.map_map];rfl
 rw [hmap] at RN;have hq:zCK own nm (n+1) (⟨x,ks⟩:Br (Tr n))=go0 (zFl own nm x (ks.map (hd n))) (ps.map λp=>zCK own nm n p.1):=by
  have e1:(ps.map λp=>zCK own nm n p.1)=ks.map (zCK own nm n):=by rw [<-q1,List.map_map];rfl
  rw [e1];rfl
 rw [hq];generalize zFl own nm x (ks.map (hd n))=r0 at *;obtain ⟨q,hqq⟩:∃ q,go0 r0 (ps.map λp=>zCK own nm n p.1)=q:=⟨_,rfl⟩
 rw [hqq];have HQ0:Hid (go0 r0 ((ps.drop 0).map λp=>zCK own nm n p.1)=q):=hqq;have HFP:Hid (∀ p ∈ ps,zDJ n p.1):=hfp;have HPA:Hid (∀ p ∈ ps,PA n lo hi w p.1 p.2):=q4;have HRT:Hid (RdT n lo hi w av ps):=q3;have HNS:Hid (NmAt w/\RdS w av2 nm):=⟨hN,hS⟩
 have HIH:Hid (RfC own nm av2 m2 cap2 n):=ih;clear hx hp hks q1 q2c q3 q4 hhd hlen hfp har hmap hq hqq hN hS ih hm2 hl2;have HML:Hid (ps.length<=30):=hl30;clear hl30;have HPS:Hid (∀ (i:Nat) (h:i<ps.length),ps.drop i=ps[i]::ps.drop (i+1)):=λi h=>List.drop_eq_getElem_cons h
 obtain ⟨m,hm⟩:∃ m,ps.length=m:=⟨_,rfl⟩
 have HMM:Hid (ps.length=m):=hm;rw [hm] at pP RN hb pS ⊢;clear hm;have c20':=pP.2.1 20 (.slice av m cap) rfl;have rP:=pP.range;have s0:=pS.2.1 0 _ rfl;have s1:=pS.2.1 1 _ rfl;go_enter func25,ntmps25;go_upto_region 1 with fail
 have HBW:Hid (Below w.heap.size w ((w.alloc (.cells (zAL x (.slice av m cap)).toArray 64)).alloc (.cells [.int .i64 own,.slice av2 m2 cap2].toArray 60))):=hb;clear hb;generalize ((w.alloc (.cells (zAL x (.slice av m cap)).toArray 64)).alloc (.cells [.int .i64 own,.slice av2 m2 cap2].toArray 60))=W at *;go_wp2_with (first | (refine zAA (by rfl) 64 (.tmp 2) rfl w.heap.size 0 rfl (zAL x (.slice av m cap)) _ rP underlying64 rfl (by kernel_rfl) ?_))
 refine RN.mono ?_;rintro e W1 ⟨rfl,hb1⟩;have HC20:Hid (W1.cell? ⟨w.heap.size,20,none⟩=some (.slice av m cap)):=zAC hb1 c20';have HRS:Hid (W1.rangeAt (w.heap.size+1) 0 [.int .i64 own,.slice av2 m2 cap2]):=zAH hb1 pS.range;have HB1:Hid (Below w.heap.size w W1):=zAB HBW.out hb1;clear RN c20' rP s0 s1 pP pS hb1 HBW;go_wp2_with fail
 go_loopg [5,6] m (λgk u5 u6 wr=>∃ (i:Nat) (c:Int),u5=.int .i64 c/\u6=.int .i64 (i:Int)/\gk=m - i/\i<=m/\Hid (go0 c ((ps.drop i).map λp=>zCK own nm n p.1)=q)/\Hid (Below W1.heap.size W1 wr))
 case atStart=>exact ⟨0,r0,rfl,rfl,rfl,Nat.zero_le _,HQ0,Below.refl _ _⟩
 case round =>
  clear HQ0;obtain ⟨i,c,rfl,rfl,hg,him,HQ,HB⟩:=hrel;have c20:=zAC HB.out HC20.out;by_cases hlt:i<m
  ·have hli:(i:Int)<(m:Int):=by omega
   by_cases hc:c=0
   ·subst hc;have hiz:(0:Int)<=(i:Int):=by omega
    have hwi:IntKind.i64.wrap ((i:Int)+1)=(i:Int)+1:=by have:=HML.out;have:=HMM.out;rw [IntKind.wrap_i64];omega
    have hln:i<ps.length:=by have:=HMM.out;omega
    obtain ⟨bb,off,_,_,rfl,hr⟩:=HRT.out i hln;have hbW:=zAB HB1.out HB.out;have ry:=zAH hbW hr;have rs:=zAH HB.out HRS.out;have hd1:=HPS.out i hln;have KC0:=λ(W2:World) (h:Below W1.heap.size W1 W2)=>HIH.out (ps[i]).1 (ps[i]).2 lo hi W2 (HFP.out _ (List.getElem_mem hln)) (PA.kept (Kept.of_below (zAB HB1.out h)) n _ _ (HPA.out _ (List.getElem_mem hln))) (HNS.out.1.below (zAB HB1.out h)) (HNS.out.2.below (zAB HB1.out h))
    obtain ⟨sa,sb,sc,hsl⟩:=(HPA.out _ (List.getElem_mem hln)).slice;have HQ2:Hid (go0 (zCK own nm n (ps[i]).1) ((ps.drop (i+1)).map λp=>zCK own nm n p.1)=q):=by
     show _=_
     rw [<-HQ.out,hd1];rfl
    obtain ⟨rt,hrt⟩:∃ r,zCK own nm n (ps[i]).1=r:=⟨_,rfl⟩
    obtain ⟨y,hy⟩:∃ y,hd n (ps[i]).1=y:=⟨_,rfl⟩
    rw [hsl,hy] at ry;rw [hrt] at HQ2;have KC:∀ (W2:World),Below W1.heap.size W1 W2->Calls prog 25 #[.agg (zAL y (.slice sa sb sc)).toArray,zCJ own av2 m2 cap2] W2 λe w'=>e=.returned (.int .i64 rt)/\Below W2.heap.size W2 w':=by
     intro W2 h;have:=KC0 W2 h;rw [hsl,hy,hrt] at this;exact this
    clear KC0 hsl hy hrt hd1 hr hbW hln HQ;go_upto_region 5 with fail
    have HBD:Hid (Below W1.heap.size W1 wr.drew):=HB.out.drew;replace c20:wr.drew.cell? ⟨w.heap.size,20,none⟩=some (.slice (some ⟨bb,off,none⟩) m cap):=c20
    replace ry:wr.drew.rangeAt bb (off+i * 21) (zAL y (.slice sa sb sc)):=ry
    replace rs:wr.drew.rangeAt (w.heap.size+1) 0 [.int .i64 own,.slice av2 m2 cap2]:=rs
    refine wp_region_held_drew (S:=λW=>W.cell? ⟨w.heap.size,20,none⟩=some (.slice (some ⟨bb,off,none⟩) m cap)/\W.rangeAt bb (off+i * 21) (zAL y (.slice sa sb sc))/\W.rangeAt (w.heap.size+1) 0 [.int .i64 own,.slice av2 m2 cap2]) (by kernel_rfl) ⟨c20,ry,rs⟩ (λhHeld=>?_);generalize wr.drew=WD at *;refine tkQ 0 ⟨some 21,.fieldAddr 64 (.tmp 2) 1,0,"formula.go:20",#[],none⟩ ?_
    refine tkQ 1 ⟨some 22,.load 62 (.tmp 21),62,"formula.go:20",#[⟨0,.data⟩],none⟩ ?_
    refine tkQ 2 ⟨some 23,.move (.tmp 6),3,"formula.go:20",#[],none⟩ ?_
    refine tkQ 3 ⟨some 24,.indexAddr 62 (.tmp 22) (.tmp 23),0,"formula.go:20",#[⟨1,.data⟩,⟨2,.data⟩],none⟩ ?_
    refine wpAnyH_take (i:=4) (oi:=⟨some 25,.load 64 (.tmp 24),64,"formula.go:20",#[⟨3,.data⟩],none⟩) (v:=.agg (zAL y (.slice sa sb sc)).toArray) rfl (by kernel_rfl) (by kernel_rfl) (by kernel_rfl) (λ_ _ _ h=>h) (yieldsIf_load_mid (by rfl) 64 (.tmp 24) rfl (bb) (off+i * 21) rfl (zAL y (.slice sa sb sc)) _ (λ_ h=>h.2.1) underlying64 rfl (by kernel_rfl)) (by assumption) ?_;try simp only [Act.put,lA,lZ,lS]
    refine wpAnyH_take (i:=5) (oi:=⟨some 26,.load 60 (.tmp 3),60,"formula.go:20",#[],none⟩) (v:=.agg ([.int .i64 own,.slice av2 m2 cap2]).toArray) rfl (by kernel_rfl) (by kernel_rfl) (by kernel_rfl) (λ_ _ _ h=>h) (yieldsIf_load_mid (by rfl) 60 (.tmp 3) rfl (w.heap.size+1) (0) rfl ([.int .i64 own,.slice av2 m2 cap2]) _ (λ_ h=>h.2.2) underlying60 rfl (by kernel_rfl)) (by assumption) ?_;try simp only [Act.put,lA,lZ,lS]
    refine rdQ 6 ⟨some 27,.call {callee:=Callee.value (Operand.func 25),args:=#[.tmp 25,.tmp 26],argTypes:=#[64,60]},37,"formula.go:20",#[⟨4,.data⟩,⟨5,.data⟩],none⟩ (λK hK=>?_);go_simp
    refine (KC _ HBD.out).mono ?_;rintro e w2 ⟨rfl,hb2⟩;go_wp2_with fail
    have HB2:Hid (Below W1.heap.size W1 w2):=zAB HBD.out hb2;replace c20:=zAC hb2 c20
    replace ry:=zAH hb2 ry
    replace rs:=zAH hb2 rs
    refine hkQ hK ⟨c20,ry,rs⟩ (λhHeld=>?_);clear hK K
    refine rdQ 7 ⟨some 5,.assign (.tmp 27),37,"formula.go:20",#[⟨6,.data⟩,⟨6,.chain⟩,⟨0,.phase⟩,⟨1,.phase⟩,⟨2,.phase⟩,⟨3,.phase⟩,⟨4,.phase⟩,⟨5,.phase⟩,⟨6,.phase⟩],none⟩ (λK hK=>?_);go_simp
    refine hkQ hK ⟨c20,ry,rs⟩ (λhHeld=>?_);clear hK K
    refine wpAnyH_done (by kernel_rfl) ?_ _;clear hHeld ry rs c20;go_wp2_with fail
    go_roundg (m - (i+1))
    case rel=>exact ⟨i+1,rt,rfl,by simp,rfl,hlt,HQ2,HB2⟩
    case measure=>omega
   ·have hq:q=c:=by rw [<-HQ.out];unfold go0;rw [if_neg hc]
    subst hq;have hB:=zAB HB1.out HB.out;go_wp2;go_ret;exact ⟨rfl,hB⟩
  ·have hli:¬ (i:Int)<(m:Int):=by omega
   have hq:q=c:=by
    have hie:ps.length<=i:=by have:=HMM.out;omega
    rw [<-HQ.out,List.drop_eq_nil_of_le hie];unfold go0;by_cases h0:c=0
    ·rw [if_pos h0,h0];rfl
    ·rw [if_neg h0]
   subst hq;have hB:=zAB HB1.out HB.out;go_wp2;go_ret;exact ⟨rfl,hB⟩
theorem zCZ (own:Int) (nm:List ByteArray) (av2:Option Addr) (m2 cap2:Nat) (hm2:m2=nm.length) (hl2:nm.length<=16):∀ n,RfC own nm av2 m2 cap2 n
 | 0=>λt=>Empty.elim t
 | n+1=>zK7 own nm av2 m2 cap2 hm2 hl2 n (zCZ own nm av2 m2 cap2 hm2 hl2 n)
open Go.RowKit
def Np (v:Value):Prop:=∀ l c,v=.slice none l c->c=0
theorem zBV {a:Addr} {c:Nat}:Np (.slice (some a) n c):=λl c e=>nomatch e
def OwnZ (w:World) (B:Nat) (v:Value) (A:List Int):Prop:=w.ownsRow B 3 1 v A.length (A.map (Value.int .i64))
theorem OwnZ.nil (w:World) (B:Nat):OwnZ w B (.slice none 0 0) []:=⟨rfl,Or.inl ⟨rfl,rfl⟩⟩
theorem OwnZ.rd (h:OwnZ w B v A):RdZ w v A:=by
 rcases h.2 with ⟨e,h0⟩ | ⟨g,cap,cur,e,hb,hg,h1,h2,h3,h4⟩
 ·have hA:A=[]:=List.eq_nil_of_length_eq_zero h0;subst hA;rw [e];exact RdZ.nil w
 ·refine ⟨some ⟨g,0,none⟩,cap,e,λi hi=>⟨g,0,rfl,?_⟩⟩;have hx:(A.map (Value.int .i64))[i]? = some (.int .i64 (A[i])):=by simp [hi]
  rw [<-h4,List.getElem?_take_of_lt (by omega)] at hx;unfold World.cell?;simp only [hg];simpa using hx
theorem OwnZ.np (h:OwnZ w B v A):Np v:=by
 intro l c e;rcases h.2 with ⟨e2,_⟩ | ⟨g,cap,cur,e2,_⟩
 ·rw [e2] at e;cases e;rfl
 ·rw [e2] at e;cases e
theorem OwnZ.blk (h:OwnZ w B v A) {g:Nat} (e:v.ownBlock=some g):B<=g/\g<w.heap.size:=by
 rcases h.2 with ⟨rfl,_⟩ | ⟨g',cap,cur,rfl,hb,hg,_⟩
 ·cases e
 ·have e2:g'=g:=by simpa [Value.ownBlock] using e
  subst e2;refine ⟨hb,?_⟩;rcases Nat.lt_or_ge g' w.heap.size with q | q
  ·exact q
  ·rw [Array.getElem?_eq_none q] at hg;cases hg
theorem OwnZ.below (h:OwnZ w B v A) (hb:Below w.heap.size w w'):OwnZ w' B v A:=by
 have hk:=λ{g} (e:v.ownBlock=some g)=>h.blk e
 refine ⟨h.1,?_⟩;rcases h.2 with q | ⟨g,cap,cur,rfl,h1,hg,r⟩
 ·exact Or.inl q
 ·exact Or.inr ⟨g,cap,cur,rfl,h1,by rw [hb.block g (hk rfl).2];exact hg,r⟩
theorem zFI:(prog.info? 3).map (λi=>(i.zero,i.size,i.bytes))=some (some (.int .i64 0),1,8):=by kernel_rfl
theorem zBi {a:Act} {K:Act->World->Prop} {Q:Exit->Act->World->Prop} (s x:Operand) (ho:o.op=.call {callee:=.builtin .append,args:=#[s,x],argTypes:=#[54,54]})
  (w:World) (B:Nat) (hB:B<=w.heap.size) (v:Value) (A:List Int) (hs:a.eval s=v) (hown:OwnZ w B v A) (vx:Value) (L:List Int) (hx:a.eval x=vx) (hrd:RdZ w vx L) (hnp:Np vx) (hl:A.length+L.length<=2000000)
  (h:∀ v' w',OwnZ w' B v' (A++L)->w.grownBy w' v.ownBlock->K (a.put o.dst v') w'):o.wp prog a w K Q:=by
 obtain ⟨i0,hi0,hz0,hz1,hz2⟩:=info_parts zFI;obtain ⟨av,cap,rfl,f⟩:=hrd;cases av with
 | none =>
  have hL:L=[]:=by
   cases L with
   | nil=>rfl
   | cons y r=>obtain ⟨bb,off,q,_⟩:=f 0 (by simp);cases q
  subst hL;have hc:=hnp _ _ rfl;subst hc;have hrun:=run_append_owned_none (P:=prog) (w:=w) B 54 o.type 3 i0 1 underlying54 hi0 v A.length (A.map (Value.int .i64)) hown;unfold Oper.wp;simp only [execOp,ho,resolve,invoke,builtin,Sem.run_bind,Sem.run_pure,Result.andThen_ok,List.map_toArray,List.map_cons,List.map_nil,hs,hx,List.length_nil,hrun];exact (h v w (by rw [List.append_nil];exact hown) (World.grownBy.refl _ _))
 | some ad =>
  refine wp_append_own _ s x 54 ho B 3 i0 _ 1 8 underlying54 hi0 hz0 hz1 hz2 rfl (by decide) v A.length (A.map (Value.int .i64)) hs hown ad L.length cap (L.map (Value.int .i64)) hx (by simp) (λj u hj=>?_) (λu hu=>?_) (by unfold maxLen;omega) (by omega) hB ?_
  ·rw [List.getElem?_map] at hj;cases hLj:L[j]? with
   | none=>rw [hLj] at hj;cases hj
   | some z =>
    rw [hLj] at hj;have hjl:j<L.length:=by
     rcases Nat.lt_or_ge j L.length with q | q
     ·exact q
     ·rw [List.getElem?_eq_none q] at hLj;cases hLj
    obtain ⟨bb,off,q1,q2⟩:=f j hjl;cases q1
    have hz:L[j]=z:=by rw [List.getElem?_eq_getElem hjl] at hLj;exact Option.some.inj hLj
    rw [hz] at q2;cases hj
    rw [show (⟨bb,off,none⟩:Addr).add j=⟨bb,off+j,none⟩ from by
     simp [Addr.add];try (intro h0;omega)]
    exact q2
  ·obtain ⟨z,_,rfl⟩:=List.mem_map.1 hu;rfl
  ·intro v' w' own hg _;refine h v' w' ?_ hg;unfold OwnZ;rw [List.length_append,List.map_append];exact own
theorem zAd {ops:Array Oper} {rest:List Oper} {a:Act} {Q:Exit->Act->World->Prop} (hgd:o.guard=none) (s x:Operand) (ho:o.op=.call {callee:=.builtin .append,args:=#[s,x],argTypes:=#[54,54]})
  (w:World) (B:Nat) (hB:B<=w.heap.size) (v:Value) (A:List Int) (hs:a.eval s=v) (hown:OwnZ w B v A) (vx:Value) (L:List Int) (hx:a.eval x=vx) (hrd:RdZ w vx L) (hnp:Np vx) (hl:A.length+L.length<=2000000)
  (h:∀ v' w',OwnZ w' B v' (A++L)->w.grownBy w' v.ownBlock->wpList prog ops Q rest (a.put o.dst v') w'):wpList prog ops Q (o::rest) a w :=
 wpList_plain hgd λK hK=>zBi s x ho w B hB v A hs hown vx L hx hrd hnp hl λv' w' h1 h2=>hK _ _ (h v' w' h1 h2)
def HndP (f:List Int) (w:World) (e:Ending) (w':World):Prop:=∃ r,e=.returned r/\RdZ w' r f/\Np r/\(∀ g,r.ownBlock=some g->w.heap.size<=g)
theorem HndP.of {r:Value} {f:List Int} (h:OwnZ w' B r f) (hB:w.heap.size<=B):HndP f w (.returned r) w':=⟨r,rfl,h.rd,h.np,λg e=>Nat.le_trans hB (h.blk e).1⟩
theorem zAv {W:World} (hb:Below w.heap.size w W) (ho:OwnZ W B v A) (hB:w.heap.size<=B) (hg:W.grownBy w' v.ownBlock):Below w.heap.size w w' :=
 hb.grown hg hb.size (λk e=>Nat.le_trans hB (ho.blk e).1)
theorem zFA (x:Wc.In) (tv fv:Value) (f:List Int) (w:World) (hz:RdZ w fv f) (hnp:Np fv) (hl:f.length<=1000000) (h10:x.op=10->f ≠ []) :
  Calls prog 69 #[inV x tv,fv] w λe w'=>HndP (Wc.fldR x.op x.a f) w e w'/\Below w.heap.size w w':=by
 have pA:=AtL.new0 w 56 (zAD x tv);have hB:=zAJ (Below.refl _ w) (.cells (zAD x tv).toArray 56);have HZ:Hid (RdZ w fv f):=hz;have HL:Hid (f.length<=1000000):=hl;have HNP:Hid (Np fv):=hnp;have H10:Hid (x.op=10->f ≠ []):=h10;obtain ⟨q,hq⟩:∃ q,Wc.fldR x.op x.a f=q:=⟨_,rfl⟩
 have HQ:Hid (Wc.fldR x.op x.a f=q):=hq;rw [hq];clear hz hl hnp h10 hq;go_enter func69,ntmps69;go_upto_region 1 with fail
 generalize (w.alloc (.cells (zAD x tv).toArray 56))=W at *;have HBW:Hid (w.heap.size<=W.heap.size):=hB.size;go_upto_region 3 with (refine zAd rfl (.tmp 6) (.tmp 7) rfl W W.heap.size (Nat.le_refl _) (.slice none 0 0) [] rfl (OwnZ.nil _ _) fv f rfl (HZ.out.below hB) HNP.out (by have:=HL.out;simp;omega) ?_;intro v1 w1 own1 hg1)
 rw [List.nil_append] at own1;have hB1:Below w.heap.size w w1:=zAv hB (OwnZ.nil _ W.heap.size) HBW.out hg1;have pA1:AtL w1 w.heap.size (zAD x tv):=⟨Nat.lt_of_lt_of_le pA.1 hg1.size,λi u hu=>by have:=pA.2.1 i u hu;rw [<-this];unfold World.cell?;rw [hg1.block _ pA.1 (by simp [Value.ownBlock])],λi hi=>by have:=pA.2.2 i hi;rw [<-this];unfold World.frozen?;rw [hg1.block _ pA.1 (by simp [Value.ownBlock])]⟩
 have a0:=pA1.2.1 0 _ rfl;have a1:=pA1.2.1 1 _ rfl;have HO1:Hid (OwnZ w1 W.heap.size v1 f):=own1;have HW1S:W.heap.size<=w1.heap.size:=hg1.size;clear hB pA hg1 own1;by_cases h6:x.op=6
 ·have hf:Hid (q=f++[x.a]):=by show _=_;rw [<-HQ.out];simp [Wc.fldR,h6]
  clear H10;have hbs:=zAJ (Below.refl _ w1) (.cells #[.int .i64 x.a] 3);have pN:=AtL.new0 w1 3 [.int .i64 x.a];have n0:=pN.2.1 0 _ rfl;have HR:Hid (RdZ (w1.alloc (.cells #[.int .i64 x.a] 3)) (.slice (some ⟨w1.heap.size,0,none⟩) 1 1) [x.a]):=RdZ.one n0;have HO2:Hid (OwnZ (w1.alloc (.cells #[.int .i64 x.a] 3)) W.heap.size v1 f):=HO1.out.below hbs;have HB2:Hid (Below w.heap.size w (w1.alloc (.cells #[.int .i64 x.a] 3))):=zAB hB1 hbs;have HBS:Hid (W.heap.size<=(w1.alloc (.cells #[.int .i64 x.a] 3)).heap.size):=Nat.le_trans HW1S hbs.size;clear hbs pN n0;go_wp2_with (refine zAd rfl (.tmp 12) (.tmp 15) rfl (w1.alloc (.cells #[.int .i64 x.a] 3)) W.heap.size HBS.out v1 f rfl HO2.out _ [x.a] rfl HR.out (λl c e=>by cases e) (by have:=HL.out;simp;omega) ?_;intro v2 w2 own2 hg2)
  go_ret;exact ⟨by rw [hf.out];exact HndP.of own2 HBW.out,zAv HB2.out HO2.out HBW.out hg2⟩
 ·by_cases hx10:x.op=10
  ·have hf:Hid (q=f.dropLast):=by show _=_;rw [<-HQ.out];simp [Wc.fldR,hx10]
   have hne:=H10.out hx10;obtain ⟨g,cap,ev,hcap⟩:∃ g cap,v1=.slice (some ⟨g,0,none⟩) f.length cap/\f.length<=cap:=by
    rcases HO1.out.2 with ⟨_,h0⟩ | ⟨g,cap,cur,e,_,_,hc,_⟩
    ·exact absurd (List.eq_nil_of_length_eq_zero h0) hne
    ·exact ⟨g,cap,e,hc⟩
   subst ev;have hpos:0<f.length:=List.length_pos_iff.2 hne;have HP:Hid (0<f.length/\f.length<=cap):=⟨hpos,hcap⟩
   obtain ⟨nf,hnf⟩:∃ k,f.length=k+1:=⟨f.length - 1,by omega⟩
   have HNF:Hid (f.length=nf+1):=hnf;have hw1:IntKind.i64.wrap (((nf+1:Nat):Int) - 1)=(nf:Int):=by rw [IntKind.wrap_i64];have:=HL.out;omega
   have hw2:IntKind.i64.wrap ((nf:Int)+1 - 1)=(nf:Int):=by rw [IntKind.wrap_i64];have:=HL.out;omega
   have k1:(nf:Int)<=(cap:Int):=by omega
   have k2:(0:Int)<=(nf:Int):=by omega
   have k3:nf<=cap:=by omega
   have hw3:IntKind.i64.wrap (nf:Int)=(nf:Int):=by rw [IntKind.wrap_i64];have:=HL.out;omega
   have hw4:wrap64 (nf:Int)=(nf:Int):=by have:=HL.out;unfold wrap64;omega
   have HV:Hid (HndP f.dropLast w (.returned (.slice (some ⟨g,0,none⟩) nf cap)) w1):=by
    obtain ⟨av,cp,e1,f1⟩:=HO1.out.rd;simp only [Value.slice.injEq] at e1;refine ⟨.slice (some ⟨g,0,none⟩) nf cap,rfl,⟨some ⟨g,0,none⟩,cap,by simp [HNF.out],λi hi=>?_⟩,zBV,λg' e=>?_⟩
    ·have hi2:i<f.length:=by simp at hi;omega
     obtain ⟨bb,off,q1,q2⟩:=f1 i hi2;rw [<-e1.1] at q1;cases q1
     exact ⟨g,0,rfl,by rw [List.getElem_dropLast];exact q2⟩
    ·have:=(HO1.out.blk (g:=g') (by simpa [Value.ownBlock] using e)).1;exact Nat.le_trans HBW.out this
   rw [hnf];clear hne hpos hcap hnf H10;go_wp2;go_ret;refine ⟨?_,hB1⟩;rw [hf.out];first
   | exact HV.out
   | simpa [hw4] using HV.out
  ·have hf:Hid (q=f):=by show _=_;rw [<-HQ.out];simp [Wc.fldR,h6,hx10]
   go_wp2;go_ret;exact ⟨by rw [hf.out];exact HndP.of HO1.out HBW.out,hB1⟩
def zCR (at' n:Int) (j:Int):Bool:=decide (j<=at' \/ n<=j)
theorem zIz (tp at':Int) (p q:Addr) (av:Option Addr) (n cap:Nat) (w:World) (hp:w.cell? p=some (.int .i64 at')) (hq:w.cell? q=some (.slice av n cap)) :
  CR 62 #[.int .i64 tp,.pointer (some p),.pointer (some q)] w (.bool (zCR at' n tp)):=by
 by_cases h1:tp<=at'
 ·have hs:zCR at' n tp=true:=decide_eq_true (Or.inl h1);rw [hs];go_enter func62,ntmps62;go_wp2;go_ret;exact ⟨by simp,Below.refl _ _⟩
 ·by_cases h2:(n:Int)<=tp
  ·have hs:zCR at' n tp=true:=decide_eq_true (Or.inr h2);rw [hs];go_enter func62,ntmps62;go_wp2;go_ret;exact ⟨by simp,Below.refl _ _⟩
  ·have hs:zCR at' n tp=false:=decide_eq_false (by omega);rw [hs];go_enter func62,ntmps62;go_wp2;go_ret;exact ⟨by simp,Below.refl _ _⟩
theorem zGM (l:List Int) (v:Value) (at':Int) (pb qb:Nat) (av:Option Addr) (n cap:Nat) (w:World) (h:RdZ w v l) (hl:l.length<=1000000) (hp:w.cell? ⟨pb,0,none⟩=some (.int .i64 at')) (hq:w.cell? ⟨qb,0,none⟩=some (.slice av n cap)) :
  Calls prog 98 #[v,.func (.func 62) #[] #[.pointer (some ⟨pb,0,none⟩),.pointer (some ⟨qb,0,none⟩)]] w λe w'=>(∃ z:Int,e=.returned (.int .i64 z)/\decide (0<=z)=l.any (zCR at' n))/\Below w.heap.size w w':=by
 have eg:∀ args w,(callFunc 62 args).run prog w=.ok (.enter 62 args) w:=λ_ _=>by kernel_rfl
 obtain ⟨a1,c1,rfl,r1⟩:=h;have H1:Hid (∀ i (h:i<l.length),∃ bb off,a1=some ⟨bb,off,none⟩/\w.cell? ⟨bb,off+i,none⟩=some (.int .i64 (l[i]))):=r1;obtain ⟨k,hk⟩:∃ k,l.length=k:=⟨_,rfl⟩
 have HK:Hid (l.length=k):=hk;rw [hk] at hl ⊢;have HP:Hid (w.cell? ⟨pb,0,none⟩=some (.int .i64 at')):=hp;have HQ:Hid (w.cell? ⟨qb,0,none⟩=some (.slice av n cap)):=hq;clear r1 hk hp hq;go_enter func98,ntmps98;go_wp2_with fail
 go_loopg [5,8] k (λgk y x wr=>∃ i:Nat,x=.int .i64 i/\gk=k - i/\i<=k/\Hid (∀ m (hm:m<l.length),m<i->zCR at' n l[m]=false)/\Below w.heap.size w wr)
 case atStart=>exact ⟨0,rfl,rfl,Nat.zero_le _,(λm hm h=>absurd h (Nat.not_lt_zero _):∀ m (hm:m<l.length),m<0->zCR at' n l[m]=false),Below.refl _ _⟩
 case round =>
  obtain ⟨i,rfl,hg,hi,HT,hb⟩:=hrel;by_cases hlt:i<k
  ·have hli:(i:Int)<(k:Int):=by omega
   have hwi:IntKind.i64.wrap ((i:Int)+1)=(i:Int)+1:=by rw [IntKind.wrap_i64];omega
   have hil:i<l.length:=by rw [HK.out];exact hlt
   obtain ⟨b1,o1,rfl,q1⟩:=H1.out i hil;have d1:=zAC hb q1;have SA:=λw2 (hb2:Below wr.heap.size wr w2)=>zIz l[i] at' ⟨pb,0,none⟩ ⟨qb,0,none⟩ av n cap w2 (zAC hb2 (zAC hb HP.out)) (zAC hb2 (zAC hb HQ.out))
   obtain ⟨x,hx⟩:∃ x,l[i]=x:=⟨_,rfl⟩
   obtain ⟨r,hr⟩:∃ r,zCR at' n l[i]=r:=⟨_,rfl⟩
   have HR:Hid (zCR at' n l[i]=r):=hr;rw [hx] at d1 SA;rw [hx] at hr;rw [hr] at SA;have SA0:=SA wr (Below.refl _ _);clear q1 hx hr SA;cases r with
   | true =>
    go_wp2_with (go_at_call 62;refine SA0.mono ?_;rintro e w1 ⟨rfl,hb1⟩)
    go_ret;refine ⟨⟨_,rfl,?_⟩,zAB hb hb1⟩;have:l.any (zCR at' n)=true:=List.any_eq_true.2 ⟨l[i],List.getElem_mem _,HR.out⟩;rw [this];simp
   | false =>
    go_wp2_with (go_at_call 62;refine SA0.mono ?_;rintro e w1 ⟨rfl,hb1⟩)
    go_roundg (k - (i+1))
    case rel =>
     refine ⟨i+1,by simp,rfl,hlt,(λm hm hmi=>?_:∀ m (hm:m<l.length),m<i+1->zCR at' n l[m]=false),zAB hb hb1⟩;by_cases e:m=i
     ·subst e;exact HR.out
     ·exact HT.out m hm (by omega)
    case measure=>omega
  ·have hli:¬ (i:Int)<(k:Int):=by omega
   go_wp2;go_ret;refine ⟨⟨_,rfl,?_⟩,hb⟩;have:l.any (zCR at' n)=false:=by
    rw [List.any_eq_false];intro y hy;obtain ⟨m,hm,rfl⟩:=List.getElem_of_mem hy;rw [HT.out m hm (by have:=HK.out;omega)];simp
   rw [this];simp
theorem zBA (l:List Int) (v:Value) (at':Int) (pb qb:Nat) (av:Option Addr) (n cap:Nat) (w:World) (h:RdZ w v l) (hl:l.length<=1000000) (hp:w.cell? ⟨pb,0,none⟩=some (.int .i64 at')) (hq:w.cell? ⟨qb,0,none⟩=some (.slice av n cap)) :
  CR 64 #[v,.func (.func 62) #[] #[.pointer (some ⟨pb,0,none⟩),.pointer (some ⟨qb,0,none⟩)]] w (.bool (l.any (zCR at' n))):=by
 have I:=zGM l v at' pb qb av n cap w h hl hp hq;clear h hl hp hq;go_enter func64,ntmps64;go_wp2_with fail
 refine I.mono ?_;rintro e w1 ⟨⟨z,rfl,hv⟩,hb1⟩;have H:Hid (decide (0<=z)=l.any (zCR at' n)):=hv;clear hv I;go_wp2;go_ret;exact ⟨by rw [<-H.out];rfl,hb1⟩
