/- TRefK, TRefLP, TRefL. -/
import Derived.Test.YtdghjlmnlodnlaaGreatDoorQ44
set_option maxHeartbeats 3200000
set_option maxRecDepth 100000
namespace Go.Proofs.YtdghjlmnlodnlaaGreatDoor
open Go.RowKit Go.Shelf Tryz
set_option linter.unusedVariables false
variable {f p s d:Nat} {L:List Wt.Nd} {v:Wt.Vl} {x:Wt.Nd}
def TX (av:Option Addr) (cap:Nat) (L:List Wt.Nd) (f:Nat):Prop:=∀ (p s d:Nat) (w:World),Wt.one f (L.drop p)=some (s,d)->RdN w av L ->
 CR 42 #[.slice av L.length cap,.int .i64 p] w (.string ⟨(pr f 0 (L.drop p)).1.toArray⟩)
def PX (av:Option Addr) (cap:Nat) (L:List Wt.Nd) (f:Nat):Prop:=∀ (p s d:Nat) (least:Int) (w:World),Wt.one f (L.drop p)=some (s,d)->0<=least->least<=7->RdN w av L ->
 CR 67 #[.slice av L.length cap,.int .i64 p,.int .i64 (least+1)] w (.string ⟨(pr f least (L.drop p)).1.toArray⟩)
theorem zMz (h:Wt.one f (L.drop p)=some (s,d)):p<L.length:=by
 by_cases hp:p<L.length
 ·exact hp
 ·rw [List.drop_eq_nil_of_le (by omega)] at h;cases f <;> cases h
theorem zGt (h:Wt.right x=true):0<=tgh x/\tgh x<=7:=by
 rcases zFB (zBy h) with ⟨h7,-⟩ | ⟨h56,-⟩ | ⟨h05,-⟩ <;> omega
theorem zLJ (h:Wt.one f (L.drop p)=some (s,d)) (hp:p<L.length) (hx:Wt.right L[p]=true) (least:Int):(pr f least (L.drop p)).1=if least<=tgh L[p] then (pr f 0 (L.drop p)).1 else 40::(pr f 0 (L.drop p)).1++[41]:=by
 have hd:=List.drop_eq_getElem_cons hp;rw [hd] at h ⊢;cases f with
 | zero=>cases h
 | succ f =>
  simp only [pr];rw [if_pos (zGt hx).1];split <;> rfl
theorem zNA {l:List Wt.Nd} (h:Wt.one f l=some (s,d)) (least:Int) (hl:l.length<=256):(pr f least l).1.length<=256000:=by
 have h1:=(zDx f l s d h least).2;have h2:=zDs _ _ _ _ h;omega
theorem zKd (av:Option Addr) (cap:Nat) (L:List Wt.Nd) (hc:Wt.check L=0) (f:Nat) (T:TX av cap L f):PX av cap L f:=by
 intro p s d least w h h0 h7 hr;have hp:=zMz h;have hx:=zC0 hc p hp;obtain ⟨bb,off,rfl,-⟩:=hr p hp;have HR:Hid (RdN w (some ⟨bb,off,none⟩) L):=hr;have TT:=λw hr=>T p s d w h hr
 have E:=zLJ h hp hx least;have hlen:=zNA h 0 (by have:=(zAa hc).1;rw [List.length_drop];omega);have B:=λw=>zEY L[p] w hx
 have hRX:=λ(w:World) (hr:RdN w (some ⟨bb,off,none⟩) L)=>hr.at p hp
 generalize (pr f 0 (L.drop p)).1=lt at *;rw [E];generalize L[p]=x at *;obtain ⟨u,hu⟩:∃ u:ByteArray,(⟨lt.toArray⟩:ByteArray)=u:=⟨_,rfl⟩
 have us:(u.size:Int)<=256000:=by rw [<-hu];show ((lt.toArray.size:Nat):Int)<=256000;simp;omega
 have HU:Hid (⟨lt.toArray⟩=u):=hu;rw [hu] at TT;have T0:=TT w hr;clear T TT hr h E hu hlen hc;have hpi:(p:Int)<(L.length:Int):=by omega
 by_cases hl:least<=tgh x
 ·have hli:¬ tgh x+1<least+1:=by omega
  rw [if_pos hl,HU.out];go_enter func67,ntmps67;go_wp2_with fail
  refine T0.mono ?_;rintro e w1 ⟨rfl,hb⟩;have hx1:=hRX w1 (HR.out.below hb);go_wp2_with ((with_reducible refine wpList_load_mid (cs:=zAE x) ?_ 30 (.tmp 13) ?_ (bb) (off+p * 20) ?_ _ ?_ underlying30 ?_ ?_ ?_);rfl;rfl;rfl;exact hx1;rfl;kernel_rfl)
  refine (B _).mono ?_;rintro e w2 ⟨rfl,hb2⟩;have hB:=zAA hb hb2;go_wp2;go_ret;exact ⟨rfl,hB⟩
 ·have hli:tgh x+1<least+1:=by omega
  rw [if_neg hl];go_enter func67,ntmps67;go_wp2_with fail
  refine T0.mono ?_;rintro e w1 ⟨rfl,hb⟩;have hx1:=hRX w1 (HR.out.below hb);go_wp2_with ((with_reducible refine wpList_load_mid (cs:=zAE x) ?_ 30 (.tmp 13) ?_ (bb) (off+p * 20) ?_ _ ?_ underlying30 ?_ ?_ ?_);rfl;rfl;rfl;exact hx1;rfl;kernel_rfl)
  refine (B _).mono ?_;rintro e w2 ⟨rfl,hb2⟩;have hB:=zAA hb hb2;go_wp2;go_ret;refine ⟨congrArg (λx=>Ending.returned (Value.string x)) ?_,hB⟩;rw [<-HU.out,show (⟨#[40]⟩:ByteArray)=⟨[40].toArray⟩ from rfl,show (⟨#[41]⟩:ByteArray)=⟨[41].toArray⟩ from rfl,zBg,zBg];rfl
theorem zG9 (F:Nat):∀ (k:Nat) (f p:Nat) (l:List Wt.Nd) (a b:Nat),Wt.many (Wt.one f) k l=some (a,b)->a<=F->zAy F k p l=zAy f k p l:=by
 intro k;induction k with
 | zero=>intro f p l a b h hF;rfl
 | succ k ih =>
  intro f p l a b h hF;simp only [Wt.many] at h;cases h1:Wt.one f l with
  | none=>rw [h1] at h;cases h
  | some q =>
   obtain ⟨s1,d1⟩:=q;rw [h1] at h;simp only at h;cases h2:Wt.many (Wt.one f) k (l.drop s1) with
   | none=>rw [h2] at h;cases h
   | some q2 =>
    obtain ⟨a2,b2⟩:=q2;rw [h2] at h;simp only [Option.some.injEq,Prod.mk.injEq] at h;obtain ⟨rfl,rfl⟩:=h;have hd:=(zC2 f l s1 d1 h1).2.1;have hF1:Wt.one F l=some (s1,d1):=zHT h1 (by omega) rfl;simp only [zAy,h1,hF1];rw [ih f (p+s1) (l.drop s1) a2 b2 h2 (by omega)]
def zBj (f:Nat) (L:List Wt.Nd):Bool->List Nat->List UInt8
 | _,[]=>[]
 | first,q::r=>(if first then [] else [44])++(pr f 0 (L.drop q)).1++zBj f L false r
theorem zIA (f:Nat) (L:List Wt.Nd):∀ (ks:List Nat) (first:Bool) (q:Nat),zBj f L first (ks++[q])=zBj f L first ks++(if first && ks.isEmpty then [] else [44])++(pr f 0 (L.drop q)).1:=by
 intro ks;induction ks with
 | nil=>intro first q;cases first <;> simp [zBj]
 | cons k r ih=>intro first q;simp only [List.cons_append,zBj,ih];cases first <;> simp
theorem zL9 (L:List Wt.Nd) (f:Nat):∀ (k:Nat) (first:Bool) (p a b:Nat),Wt.many (Wt.one f) k (L.drop p)=some (a,b)->(prA (pr f) k first (L.drop p)).1=zBj f L first (zAy f k p (L.drop p)):=by
 intro k;induction k with
 | zero=>intro first p a b h;rfl
 | succ k ih =>
  intro first p a b h
  simp only [Wt.many] at h;cases h1:Wt.one f (L.drop p) with
  | none=>rw [h1] at h;cases h
  | some q =>
   obtain ⟨s1,d1⟩:=q;rw [h1] at h;simp only at h;cases h2:Wt.many (Wt.one f) k ((L.drop p).drop s1) with
   | none=>rw [h2] at h;cases h
   | some q2 =>
    obtain ⟨a2,b2⟩:=q2;have hp:=(zDx f _ _ _ h1 0).1;rw [List.drop_drop] at h2 hp;simp only [prA,zAy,h1,zBj,hp,List.drop_drop];rw [ih false (p+s1) a2 b2 h2]
theorem zGr (f:Nat):∀ (k p:Nat) (L:List Wt.Nd) (a b:Nat),Wt.many (Wt.one f) k (L.drop p)=some (a,b)->(zAy f k p (L.drop p)).length=k/\∀ q ∈ zAy f k p (L.drop p),∃ s d,Wt.one f (L.drop q)=some (s,d):=by
 intro k;induction k with
 | zero=>intro p L a b h;exact ⟨rfl,λq hq=>by simp [zAy] at hq⟩
 | succ k ih =>
  intro p L a b h;simp only [Wt.many] at h;cases h1:Wt.one f (L.drop p) with
  | none=>rw [h1] at h;cases h
  | some q =>
   obtain ⟨s1,d1⟩:=q;rw [h1] at h;simp only at h;cases h2:Wt.many (Wt.one f) k ((L.drop p).drop s1) with
   | none=>rw [h2] at h;cases h
   | some q2 =>
    obtain ⟨a2,b2⟩:=q2;rw [List.drop_drop] at h2;obtain ⟨i1,i2⟩:=ih (p+s1) L a2 b2 h2;simp only [zAy,h1,List.drop_drop];refine ⟨by rw [List.length_cons,i1],λq hq=>?_⟩;rcases List.mem_cons.1 hq with rfl | hq
    ·exact ⟨s1,d1,h1⟩
    ·exact i2 q hq
theorem zG0 {n a b:Nat} (hp:p<L.length) (hn:(Wt.parts L[p]).toNat=n) (hm:Wt.many (Wt.one f) n (L.drop (p+1))=some (a,b)) (ha:a<=L.length+1):zFK L p=zAy f n (p+1) (L.drop (p+1)):=by
 unfold zFK;rw [List.drop_eq_getElem_cons hp];simp only;rw [hn];exact zG9 _ _ _ _ _ _ _ hm ha
theorem zSu {W:World} {k:Nat} (h:AtL W k (zAE x)):W.rangeAt k 1 (vl6 x.v):=h.sub 1 _ (λj v hv=>by
 match j,hv with
 | 0,hv=>exact hv
 | 1,hv=>exact hv
 | 2,hv=>exact hv
 | 3,hv=>exact hv
 | 4,hv=>exact hv
 | 5,hv=>exact hv
 | j+6,hv=>simp [vl6] at hv)
theorem zET (h:Wt.vlOk v=true):¬ v.k=0/\Wv.right v.k v.n v.d v.t v.b v.f=true:=by
 unfold Wt.vlOk at h;split at h
 ·cases h
 ·split at h
  ·simp only [Bool.and_eq_true] at h;exact ⟨by assumption,h.1.1⟩
  ·exact ⟨by assumption,h⟩
theorem zK6 (v:Wt.Vl) (w:World) (hv:Wt.vlOk v=true) (hf:Wt.FitV v) (h2:¬ v.k=2):CR 65 #[.agg (vl6 v).toArray] w (.string ⟨(zGG v).toArray⟩):=by
 obtain ⟨hk0,hr⟩:=zET hv;have C:=λw=>zEB v w hf
 obtain ⟨k,n,d,t,b,f⟩:=v;obtain ⟨⟨a1,a2⟩,⟨a3,a4⟩,-⟩:=hf;unfold zGG;simp only [vl6] at *;by_cases h1:k=1
 ·subst h1;rw [if_pos rfl];exact zL5 n d t b f w hr a1 a2 a3 a4 C
 by_cases h3:k=3
 ·subst h3;rw [if_neg (by decide),if_neg (by decide),if_pos rfl];exact zMj n d t b f w hr C
 by_cases h4:k=4
 ·subst h4;rw [if_neg (by decide),if_neg (by decide),if_neg (by decide)];have hf:1<=f/\f<=8:=by
   unfold Wv.right at hr;rw [if_neg (by decide),if_neg (by decide),if_neg (by decide),if_neg (by decide),if_pos rfl] at hr;unfold Wv.flt at hr;simp only [Bool.and_eq_true,decide_eq_true_eq] at hr;exact hr.1.1.1.1
  exact zMV n d t b f w hr hf.1 hf.2 C
 ·unfold Wv.right at hr;rw [if_neg hk0,if_neg h1,if_neg h2,if_neg h3,if_neg h4] at hr;cases hr
theorem zJ0 (hv:Wt.vlOk v=true) (h2:v.k=2):v.t.size<=256:=by
 have hr:=(zET hv).2;unfold Wv.right at hr;rw [if_neg (by omega),if_neg (by omega),if_pos h2] at hr;simp only [Bool.and_eq_true,decide_eq_true_eq] at hr;exact hr.1.1.1.1.1
theorem zKZ (h2:v.k=2):zGG v=34::(Wlx.dbl v.t.data.toList++[34]):=by
 unfold zGG;rw [if_neg (by omega),if_pos h2]
theorem zLV (bb off cap:Nat) (L:List Wt.Nd) (p:Nat) (x:Wt.Nd) (w:World) (hF:∀ y ∈ L,Wt.FitN y) (hr:RdN w (some ⟨bb,off,none⟩) L) (hp:p<L.length) (hxe:L[p]=x) (hc:Wt.check L=0) (hk:x.k=1) (hv:Wt.vlOk x.v=true) (h2:x.v.k=2) :
  CR 42 #[.slice (some ⟨bb,off,none⟩) L.length cap,.int .i64 p] w (.string ⟨(zGG x.v).toArray⟩):=by
 rw [zKZ h2];have QQ:=λw=>zKp x.v.t w (by have:=zJ0 hv h2;omega)
 have HR:Hid (RdN w (some ⟨bb,off,none⟩) L):=hr;have hx0:=hr.at p hp;have S:=λw hr=>zAc (some ⟨bb,off,none⟩) cap L p w hF hr hp hc
 rw [hxe] at hx0;have pZ:AtL (w.alloc (.cells zN0 30)) w.heap.size (zAE ⟨0,Wt.v0,0,⟨#[]⟩,0,Wt.r0,Wt.r0⟩):=AtL.new0 w _ _;have tZ:(w.alloc (.cells zN0 30)).there w.heap.size 0 (zAE x).toArray.size:=pZ.there;have pN:AtL ((w.alloc (.cells zN0 30)).setCells w.heap.size 0 (zAE x)) w.heap.size (zAE x):=pZ.setAll rfl;have hB0:Below w.heap.size w ((w.alloc (.cells zN0 30)).setCells w.heap.size 0 (zAE x)):=zAg (zAI (Below.refl _ w) _) (Nat.le_refl _) _ 0;have hpi:(p:Int)<(L.length:Int):=by omega
 clear pZ hr hc hF hxe;go_enter func42,ntmps42;go_upto_region 2 with (first
  | ((with_reducible refine wpList_load_mid (cs:=zAE x) ?_ 30 (.tmp 13) ?_ (bb) (off+p * 20) ?_ _ ?_ underlying30 ?_ ?_ ?_);rfl;rfl;rfl;exact hx0;rfl;kernel_rfl)
  | ((with_reducible refine wpList_store_mid ?_ 30 (.tmp 5) (.tmp 14) ?_ (w.heap.size) 0 (zAE x).toArray ?_ ?_ ?_ ?_ ?_ ?_);rfl;rfl;rfl;rfl;exact tZ;kernel_rfl;exact zA4 _))
 generalize (w.alloc (.cells zN0 30)).setCells w.heap.size 0 (zAE x).toArray.toList=W0 at *;have S0:=S W0 (HR.out.below hB0);clear tZ hx0 S;go_wp2_with fail
 refine S0.mono ?_;rintro e w1 ⟨v1,rfl,own1,hb1⟩;obtain ⟨av1,cap1,rfl,hr1⟩:=own1.form;have hB1:=zAA hB0 hb1;have pN1:=AtL.below hb1 pN;clear S0 pN hB0 hb1 own1;have n0:w1.cell? ⟨w.heap.size,0,none⟩=some (.int .i64 1):=by rw [<-hk];exact pN1.2.1 0 _ rfl
 have n1:w1.cell? ⟨w.heap.size,1,none⟩=some (.int .i64 2):=by rw [<-h2];exact pN1.2.1 1 _ rfl
 have n4:=pN1.2.1 4 _ rfl;go_wp2_with fail
 refine (QQ _).mono ?_;rintro e w2 ⟨rfl,hb2⟩;have hB2:=zAA hB1 hb2;go_wp2;go_ret;exact ⟨rfl,hB2⟩
theorem zMk (bb off cap:Nat) (L:List Wt.Nd) (p:Nat) (x:Wt.Nd) (w:World) (hF:∀ y ∈ L,Wt.FitN y) (hr:RdN w (some ⟨bb,off,none⟩) L) (hp:p<L.length) (hxe:L[p]=x) (hc:Wt.check L=0) (hk:x.k=1) (hv:Wt.vlOk x.v=true) (hfx:Wt.FitV x.v) (h2:¬ x.v.k=2) :
  CR 42 #[.slice (some ⟨bb,off,none⟩) L.length cap,.int .i64 p] w (.string ⟨(zGG x.v).toArray⟩):=by
 have QQ:=λw=>zK6 x.v w hv hfx h2
 have hn2:(x.v.k == 2)=false:=by simp [h2]
 generalize zGG x.v=lt at *;have HR:Hid (RdN w (some ⟨bb,off,none⟩) L):=hr;have hx0:=hr.at p hp;have S:=λw hr=>zAc (some ⟨bb,off,none⟩) cap L p w hF hr hp hc
 rw [hxe] at hx0;have pZ:AtL (w.alloc (.cells zN0 30)) w.heap.size (zAE ⟨0,Wt.v0,0,⟨#[]⟩,0,Wt.r0,Wt.r0⟩):=AtL.new0 w _ _;have tZ:(w.alloc (.cells zN0 30)).there w.heap.size 0 (zAE x).toArray.size:=pZ.there;have pN:AtL ((w.alloc (.cells zN0 30)).setCells w.heap.size 0 (zAE x)) w.heap.size (zAE x):=pZ.setAll rfl;have hB0:Below w.heap.size w ((w.alloc (.cells zN0 30)).setCells w.heap.size 0 (zAE x)):=zAg (zAI (Below.refl _ w) _) (Nat.le_refl _) _ 0;have hpi:(p:Int)<(L.length:Int):=by omega
 clear pZ hr hc hF hxe;go_enter func42,ntmps42;go_upto_region 2 with (first
  | ((with_reducible refine wpList_load_mid (cs:=zAE x) ?_ 30 (.tmp 13) ?_ (bb) (off+p * 20) ?_ _ ?_ underlying30 ?_ ?_ ?_);rfl;rfl;rfl;exact hx0;rfl;kernel_rfl)
  | ((with_reducible refine wpList_store_mid ?_ 30 (.tmp 5) (.tmp 14) ?_ (w.heap.size) 0 (zAE x).toArray ?_ ?_ ?_ ?_ ?_ ?_);rfl;rfl;rfl;rfl;exact tZ;kernel_rfl;exact zA4 _))
 generalize (w.alloc (.cells zN0 30)).setCells w.heap.size 0 (zAE x).toArray.toList=W0 at *;have S0:=S W0 (HR.out.below hB0);clear tZ hx0 S;go_wp2_with fail
 refine S0.mono ?_;rintro e w1 ⟨v1,rfl,own1,hb1⟩;obtain ⟨av1,cap1,rfl,hr1⟩:=own1.form;have hB1:=zAA hB0 hb1;have pN1:=AtL.below hb1 pN;clear S0 pN hB0 hb1 own1;have n0:w1.cell? ⟨w.heap.size,0,none⟩=some (.int .i64 1):=by rw [<-hk];exact pN1.2.1 0 _ rfl
 have n1:=pN1.2.1 1 _ rfl;have rV:=zSu pN1;go_wp2_with ((with_reducible refine wpList_load_mid (cs:=vl6 x.v) ?_ 26 (.tmp 30) ?_ (w.heap.size) 1 ?_ _ ?_ underlying26 ?_ ?_ ?_);rfl;rfl;rfl;exact rV;rfl;kernel_rfl)
 refine (QQ _).mono ?_;rintro e w2 ⟨rfl,hb2⟩;have hB2:=zAA hB1 hb2;go_wp2;go_ret;exact ⟨rfl,hB2⟩
theorem zM3 (bb off cap:Nat) (L:List Wt.Nd) (p:Nat) (x:Wt.Nd) (w:World) (hF:∀ y ∈ L,Wt.FitN y) (hr:RdN w (some ⟨bb,off,none⟩) L) (hp:p<L.length) (hxe:L[p]=x) (hc:Wt.check L=0) (hk:x.k=2) (ha:Wt.rfOk x.a=true) (hs:x.a.s=⟨#[]⟩) :
  CR 42 #[.slice (some ⟨bb,off,none⟩) L.length cap,.int .i64 p] w (.string ⟨(zCM x.a).toArray⟩):=by
 have CA:=λw=>zBh x.a w (zAY ha).1.1 (zAY ha).1.2
 have la:=zCh x.a (zAY ha).1.1 (zAY ha).1.2;have E1:zCM x.a=cw x.a:=by unfold zCM;rw [if_pos hs]
 rw [E1];generalize cw x.a=ca at *;obtain ⟨ua,hua⟩:∃ u:ByteArray,(⟨ca.toArray⟩:ByteArray)=u:=⟨_,rfl⟩
 have sa:(ua.size:Int)<=40:=by rw [<-hua];show ((ca.toArray.size:Nat):Int)<=40;simp;omega
 have HA:Hid (ua=⟨ca.toArray⟩):=hua.symm;rw [hua] at CA;clear hua la E1 ha;have HR:Hid (RdN w (some ⟨bb,off,none⟩) L):=hr;have hx0:=hr.at p hp;have S:=λw hr=>zAc (some ⟨bb,off,none⟩) cap L p w hF hr hp hc
 rw [hxe] at hx0;have pZ:AtL (w.alloc (.cells zN0 30)) w.heap.size (zAE ⟨0,Wt.v0,0,⟨#[]⟩,0,Wt.r0,Wt.r0⟩):=AtL.new0 w _ _;have tZ:(w.alloc (.cells zN0 30)).there w.heap.size 0 (zAE x).toArray.size:=pZ.there;have pN:AtL ((w.alloc (.cells zN0 30)).setCells w.heap.size 0 (zAE x)) w.heap.size (zAE x):=pZ.setAll rfl;have hB0:Below w.heap.size w ((w.alloc (.cells zN0 30)).setCells w.heap.size 0 (zAE x)):=zAg (zAI (Below.refl _ w) _) (Nat.le_refl _) _ 0;have hpi:(p:Int)<(L.length:Int):=by omega
 clear pZ hr hc hF hxe;go_enter func42,ntmps42;go_upto_region 2 with (first
  | ((with_reducible refine wpList_load_mid (cs:=zAE x) ?_ 30 (.tmp 13) ?_ (bb) (off+p * 20) ?_ _ ?_ underlying30 ?_ ?_ ?_);rfl;rfl;rfl;exact hx0;rfl;kernel_rfl)
  | ((with_reducible refine wpList_store_mid ?_ 30 (.tmp 5) (.tmp 14) ?_ (w.heap.size) 0 (zAE x).toArray ?_ ?_ ?_ ?_ ?_ ?_);rfl;rfl;rfl;rfl;exact tZ;kernel_rfl;exact zA4 _))
 generalize (w.alloc (.cells zN0 30)).setCells w.heap.size 0 (zAE x).toArray.toList=W0 at *;have S0:=S W0 (HR.out.below hB0);clear tZ hx0 S;go_wp2_with fail
 refine S0.mono ?_;rintro e w1 ⟨v1,rfl,own1,hb1⟩;obtain ⟨av1,cap1,rfl,hr1⟩:=own1.form;have hB1:=zAA hB0 hb1;have pN1:=AtL.below hb1 pN;clear S0 pN hB0 hb1 own1;have n0:w1.cell? ⟨w.heap.size,0,none⟩=some (.int .i64 2):=by rw [<-hk];exact pN1.2.1 0 _ rfl
 have rA:=zHE pN1;go_wp2_with ((with_reducible refine wpList_load_mid (cs:=rf5 x.a) ?_ 28 (.tmp 36) ?_ (w.heap.size) 10 ?_ _ ?_ underlying28 ?_ ?_ ?_);rfl;rfl;rfl;exact rA;rfl;kernel_rfl)
 refine (CA _).mono ?_;rintro e w2 ⟨rfl,hb2⟩;have hB2:=zAA hB1 hb2;have pN2:=AtL.below hb2 pN1;clear n0 rA pN1 hB1 hb2 CA;have n0:w2.cell? ⟨w.heap.size,0,none⟩=some (.int .i64 2):=by rw [<-hk];exact pN2.2.1 0 _ rfl
 have n10:w2.cell? ⟨w.heap.size,10,none⟩=some (.string ⟨#[]⟩):=by rw [<-hs];exact pN2.2.1 10 _ rfl
 go_wp2;go_ret;refine ⟨congrArg (λx=>Ending.returned (Value.string x)) ?_,hB2⟩;rw [HA.out]
theorem zLO (bb off cap:Nat) (L:List Wt.Nd) (p:Nat) (x:Wt.Nd) (w:World) (hF:∀ y ∈ L,Wt.FitN y) (hr:RdN w (some ⟨bb,off,none⟩) L) (hp:p<L.length) (hxe:L[p]=x) (hc:Wt.check L=0) (hk:x.k=2) (ha:Wt.rfOk x.a=true) (hs:¬ x.a.s=⟨#[]⟩) :
  CR 42 #[.slice (some ⟨bb,off,none⟩) L.length cap,.int .i64 p] w (.string ⟨(zCM x.a).toArray⟩):=by
 have CA:=λw=>zBh x.a w (zAY ha).1.1 (zAY ha).1.2
 have la:=zCh x.a (zAY ha).1.1 (zAY ha).1.2;have E1:zCM x.a=x.a.s.data.toList++(33::cw x.a):=by unfold zCM;rw [if_neg hs]
 rw [E1];have ls:(x.a.s.size:Int)<=16:=by
  rcases (zAY ha).2 with h | h
  ·exact absurd h hs
  ·have h1:=(zBl h).2;rw [Array.length_toList] at h1;show ((x.a.s.data.size:Nat):Int)<=16
   omega
 have hs':x.a.s.toList.isEmpty=false:=by
  rw [ByteArray.toList_eq];cases h:x.a.s.data.toList with
  | nil=>exact absurd (by rw [zEg x.a.s,h]) hs
  | cons a r=>rfl
 have hs2:(x.a.s.toList == [])=false:=by rw [<-hs'];cases x.a.s.toList <;> rfl
 generalize cw x.a=ca at *;obtain ⟨ua,hua⟩:∃ u:ByteArray,(⟨ca.toArray⟩:ByteArray)=u:=⟨_,rfl⟩
 have sa:(ua.size:Int)<=40:=by rw [<-hua];show ((ca.toArray.size:Nat):Int)<=40;simp;omega
 have HA:Hid (ua=⟨ca.toArray⟩):=hua.symm;rw [hua] at CA;clear hua la E1 ha;have HR:Hid (RdN w (some ⟨bb,off,none⟩) L):=hr;have hx0:=hr.at p hp;have S:=λw hr=>zAc (some ⟨bb,off,none⟩) cap L p w hF hr hp hc
 rw [hxe] at hx0;have pZ:AtL (w.alloc (.cells zN0 30)) w.heap.size (zAE ⟨0,Wt.v0,0,⟨#[]⟩,0,Wt.r0,Wt.r0⟩):=AtL.new0 w _ _;have tZ:(w.alloc (.cells zN0 30)).there w.heap.size 0 (zAE x).toArray.size:=pZ.there;have pN:AtL ((w.alloc (.cells zN0 30)).setCells w.heap.size 0 (zAE x)) w.heap.size (zAE x):=pZ.setAll rfl;have hB0:Below w.heap.size w ((w.alloc (.cells zN0 30)).setCells w.heap.size 0 (zAE x)):=zAg (zAI (Below.refl _ w) _) (Nat.le_refl _) _ 0;have hpi:(p:Int)<(L.length:Int):=by omega
 clear pZ hr hc hF hxe;go_enter func42,ntmps42;go_upto_region 2 with (first
  | ((with_reducible refine wpList_load_mid (cs:=zAE x) ?_ 30 (.tmp 13) ?_ (bb) (off+p * 20) ?_ _ ?_ underlying30 ?_ ?_ ?_);rfl;rfl;rfl;exact hx0;rfl;kernel_rfl)
  | ((with_reducible refine wpList_store_mid ?_ 30 (.tmp 5) (.tmp 14) ?_ (w.heap.size) 0 (zAE x).toArray ?_ ?_ ?_ ?_ ?_ ?_);rfl;rfl;rfl;rfl;exact tZ;kernel_rfl;exact zA4 _))
 generalize (w.alloc (.cells zN0 30)).setCells w.heap.size 0 (zAE x).toArray.toList=W0 at *;have S0:=S W0 (HR.out.below hB0);clear tZ hx0 S;go_wp2_with fail
 refine S0.mono ?_;rintro e w1 ⟨v1,rfl,own1,hb1⟩;obtain ⟨av1,cap1,rfl,hr1⟩:=own1.form;have hB1:=zAA hB0 hb1;have pN1:=AtL.below hb1 pN;clear S0 pN hB0 hb1 own1;have n0:w1.cell? ⟨w.heap.size,0,none⟩=some (.int .i64 2):=by rw [<-hk];exact pN1.2.1 0 _ rfl
 have rA:=zHE pN1;go_wp2_with ((with_reducible refine wpList_load_mid (cs:=rf5 x.a) ?_ 28 (.tmp 36) ?_ (w.heap.size) 10 ?_ _ ?_ underlying28 ?_ ?_ ?_);rfl;rfl;rfl;exact rA;rfl;kernel_rfl)
 refine (CA _).mono ?_;rintro e w2 ⟨rfl,hb2⟩;have hB2:=zAA hB1 hb2;have pN2:=AtL.below hb2 pN1;clear n0 rA pN1 hB1 hb2 CA;have n0:w2.cell? ⟨w.heap.size,0,none⟩=some (.int .i64 2):=by rw [<-hk];exact pN2.2.1 0 _ rfl
 have n10:=pN2.2.1 10 _ rfl;go_wp2;go_ret;refine ⟨congrArg (λx=>Ending.returned (Value.string x)) ?_,hB2⟩;rw [HA.out];rw [zEg x.a.s];rw [show (⟨#[33]⟩:ByteArray)=⟨[33].toArray⟩ from rfl];simp only [zBg];simp
theorem zMQ (bb off cap:Nat) (L:List Wt.Nd) (p:Nat) (x:Wt.Nd) (w:World) (hF:∀ y ∈ L,Wt.FitN y) (hr:RdN w (some ⟨bb,off,none⟩) L) (hp:p<L.length) (hxe:L[p]=x) (hc:Wt.check L=0) (hk:x.k=3) (ha:Wt.rfOk x.a=true) (hs:x.a.s=⟨#[]⟩) (hb:Wt.rfOk x.b=true) (hbs:x.b.s=⟨#[]⟩) :
  CR 42 #[.slice (some ⟨bb,off,none⟩) L.length cap,.int .i64 p] w (.string ⟨(zCM x.a++58::zCM x.b).toArray⟩):=by
 have CA:=λw=>zBh x.a w (zAY ha).1.1 (zAY ha).1.2
 have la:=zCh x.a (zAY ha).1.1 (zAY ha).1.2;have E1:zCM x.a=cw x.a:=by unfold zCM;rw [if_pos hs]
 rw [E1];have CB:=λw=>zBh x.b w (zAY hb).1.1 (zAY hb).1.2
 have lb:=zCh x.b (zAY hb).1.1 (zAY hb).1.2;have E2:zCM x.b=cw x.b:=by unfold zCM;rw [if_pos hbs]
 rw [E2];clear E2 hb hbs;generalize cw x.a=ca at *;obtain ⟨ua,hua⟩:∃ u:ByteArray,(⟨ca.toArray⟩:ByteArray)=u:=⟨_,rfl⟩
 have sa:(ua.size:Int)<=40:=by rw [<-hua];show ((ca.toArray.size:Nat):Int)<=40;simp;omega
 have HA:Hid (ua=⟨ca.toArray⟩):=hua.symm;rw [hua] at CA;clear hua la E1 ha;generalize cw x.b=cb at *;obtain ⟨ub,hub⟩:∃ u:ByteArray,(⟨cb.toArray⟩:ByteArray)=u:=⟨_,rfl⟩
 have sb:(ub.size:Int)<=40:=by rw [<-hub];show ((cb.toArray.size:Nat):Int)<=40;simp;omega
 have HB:Hid (ub=⟨cb.toArray⟩):=hub.symm;rw [hub] at CB;clear hub lb;have HR:Hid (RdN w (some ⟨bb,off,none⟩) L):=hr;have hx0:=hr.at p hp;have S:=λw hr=>zAc (some ⟨bb,off,none⟩) cap L p w hF hr hp hc
 rw [hxe] at hx0;have pZ:AtL (w.alloc (.cells zN0 30)) w.heap.size (zAE ⟨0,Wt.v0,0,⟨#[]⟩,0,Wt.r0,Wt.r0⟩):=AtL.new0 w _ _;have tZ:(w.alloc (.cells zN0 30)).there w.heap.size 0 (zAE x).toArray.size:=pZ.there;have pN:AtL ((w.alloc (.cells zN0 30)).setCells w.heap.size 0 (zAE x)) w.heap.size (zAE x):=pZ.setAll rfl;have hB0:Below w.heap.size w ((w.alloc (.cells zN0 30)).setCells w.heap.size 0 (zAE x)):=zAg (zAI (Below.refl _ w) _) (Nat.le_refl _) _ 0;have hpi:(p:Int)<(L.length:Int):=by omega
 clear pZ hr hc hF hxe;go_enter func42,ntmps42;go_upto_region 2 with (first
  | ((with_reducible refine wpList_load_mid (cs:=zAE x) ?_ 30 (.tmp 13) ?_ (bb) (off+p * 20) ?_ _ ?_ underlying30 ?_ ?_ ?_);rfl;rfl;rfl;exact hx0;rfl;kernel_rfl)
  | ((with_reducible refine wpList_store_mid ?_ 30 (.tmp 5) (.tmp 14) ?_ (w.heap.size) 0 (zAE x).toArray ?_ ?_ ?_ ?_ ?_ ?_);rfl;rfl;rfl;rfl;exact tZ;kernel_rfl;exact zA4 _))
 generalize (w.alloc (.cells zN0 30)).setCells w.heap.size 0 (zAE x).toArray.toList=W0 at *;have S0:=S W0 (HR.out.below hB0);clear tZ hx0 S;go_wp2_with fail
 refine S0.mono ?_;rintro e w1 ⟨v1,rfl,own1,hb1⟩;obtain ⟨av1,cap1,rfl,hr1⟩:=own1.form;have hB1:=zAA hB0 hb1;have pN1:=AtL.below hb1 pN;clear S0 pN hB0 hb1 own1;have n0:w1.cell? ⟨w.heap.size,0,none⟩=some (.int .i64 3):=by rw [<-hk];exact pN1.2.1 0 _ rfl
 have rA:=zHE pN1;go_wp2_with ((with_reducible refine wpList_load_mid (cs:=rf5 x.a) ?_ 28 (.tmp 36) ?_ (w.heap.size) 10 ?_ _ ?_ underlying28 ?_ ?_ ?_);rfl;rfl;rfl;exact rA;rfl;kernel_rfl)
 refine (CA _).mono ?_;rintro e w2 ⟨rfl,hb2⟩;have hB2:=zAA hB1 hb2;have pN2:=AtL.below hb2 pN1;clear n0 rA pN1 hB1 hb2 CA;have n0:w2.cell? ⟨w.heap.size,0,none⟩=some (.int .i64 3):=by rw [<-hk];exact pN2.2.1 0 _ rfl
 have n10:w2.cell? ⟨w.heap.size,10,none⟩=some (.string ⟨#[]⟩):=by rw [<-hs];exact pN2.2.1 10 _ rfl
 have rB:=zMx pN2;go_wp2_with ((with_reducible refine wpList_load_mid (cs:=rf5 x.b) ?_ 28 (.tmp 54) ?_ (w.heap.size) 15 ?_ _ ?_ underlying28 ?_ ?_ ?_);rfl;rfl;rfl;exact rB;rfl;kernel_rfl)
 refine (CB _).mono ?_;rintro e w3 ⟨rfl,hb3⟩;have hB3:=zAA hB2 hb3;go_wp2;go_ret;refine ⟨congrArg (λx=>Ending.returned (Value.string x)) ?_,hB3⟩;rw [HA.out,HB.out];rw [show (⟨#[58]⟩:ByteArray)=⟨[58].toArray⟩ from rfl];simp only [zBg];simp
theorem zM1 (bb off cap:Nat) (L:List Wt.Nd) (p:Nat) (x:Wt.Nd) (w:World) (hF:∀ y ∈ L,Wt.FitN y) (hr:RdN w (some ⟨bb,off,none⟩) L) (hp:p<L.length) (hxe:L[p]=x) (hc:Wt.check L=0) (hk:x.k=3) (ha:Wt.rfOk x.a=true) (hs:¬ x.a.s=⟨#[]⟩) (hb:Wt.rfOk x.b=true) (hbs:x.b.s=⟨#[]⟩) :
  CR 42 #[.slice (some ⟨bb,off,none⟩) L.length cap,.int .i64 p] w (.string ⟨(zCM x.a++58::zCM x.b).toArray⟩):=by
 have CA:=λw=>zBh x.a w (zAY ha).1.1 (zAY ha).1.2
 have la:=zCh x.a (zAY ha).1.1 (zAY ha).1.2;have E1:zCM x.a=x.a.s.data.toList++(33::cw x.a):=by unfold zCM;rw [if_neg hs]
 rw [E1];have CB:=λw=>zBh x.b w (zAY hb).1.1 (zAY hb).1.2
 have lb:=zCh x.b (zAY hb).1.1 (zAY hb).1.2;have E2:zCM x.b=cw x.b:=by unfold zCM;rw [if_pos hbs]
 rw [E2];clear E2 hb hbs;have ls:(x.a.s.size:Int)<=16:=by
  rcases (zAY ha).2 with h | h
  ·exact absurd h hs
  ·have h1:=(zBl h).2;rw [Array.length_toList] at h1;show ((x.a.s.data.size:Nat):Int)<=16
   omega
 have hs':x.a.s.toList.isEmpty=false:=by
  rw [ByteArray.toList_eq];cases h:x.a.s.data.toList with
  | nil=>exact absurd (by rw [zEg x.a.s,h]) hs
  | cons a r=>rfl
 have hs2:(x.a.s.toList == [])=false:=by rw [<-hs'];cases x.a.s.toList <;> rfl
 generalize cw x.a=ca at *;obtain ⟨ua,hua⟩:∃ u:ByteArray,(⟨ca.toArray⟩:ByteArray)=u:=⟨_,rfl⟩
 have sa:(ua.size:Int)<=40:=by rw [<-hua];show ((ca.toArray.size:Nat):Int)<=40;simp;omega
 have HA:Hid (ua=⟨ca.toArray⟩):=hua.symm;rw [hua] at CA;clear hua la E1 ha;generalize cw x.b=cb at *;obtain ⟨ub,hub⟩:∃ u:ByteArray,(⟨cb.toArray⟩:ByteArray)=u:=⟨_,rfl⟩
 have sb:(ub.size:Int)<=40:=by rw [<-hub];show ((cb.toArray.size:Nat):Int)<=40;simp;omega
 have HB:Hid (ub=⟨cb.toArray⟩):=hub.symm;rw [hub] at CB;clear hub lb;have HR:Hid (RdN w (some ⟨bb,off,none⟩) L):=hr;have hx0:=hr.at p hp;have S:=λw hr=>zAc (some ⟨bb,off,none⟩) cap L p w hF hr hp hc
 rw [hxe] at hx0;have pZ:AtL (w.alloc (.cells zN0 30)) w.heap.size (zAE ⟨0,Wt.v0,0,⟨#[]⟩,0,Wt.r0,Wt.r0⟩):=AtL.new0 w _ _;have tZ:(w.alloc (.cells zN0 30)).there w.heap.size 0 (zAE x).toArray.size:=pZ.there;have pN:AtL ((w.alloc (.cells zN0 30)).setCells w.heap.size 0 (zAE x)) w.heap.size (zAE x):=pZ.setAll rfl;have hB0:Below w.heap.size w ((w.alloc (.cells zN0 30)).setCells w.heap.size 0 (zAE x)):=zAg (zAI (Below.refl _ w) _) (Nat.le_refl _) _ 0;have hpi:(p:Int)<(L.length:Int):=by omega
 clear pZ hr hc hF hxe;go_enter func42,ntmps42;go_upto_region 2 with (first
  | ((with_reducible refine wpList_load_mid (cs:=zAE x) ?_ 30 (.tmp 13) ?_ (bb) (off+p * 20) ?_ _ ?_ underlying30 ?_ ?_ ?_);rfl;rfl;rfl;exact hx0;rfl;kernel_rfl)
  | ((with_reducible refine wpList_store_mid ?_ 30 (.tmp 5) (.tmp 14) ?_ (w.heap.size) 0 (zAE x).toArray ?_ ?_ ?_ ?_ ?_ ?_);rfl;rfl;rfl;rfl;exact tZ;kernel_rfl;exact zA4 _))
 generalize (w.alloc (.cells zN0 30)).setCells w.heap.size 0 (zAE x).toArray.toList=W0 at *;have S0:=S W0 (HR.out.below hB0);clear tZ hx0 S;go_wp2_with fail
 refine S0.mono ?_;rintro e w1 ⟨v1,rfl,own1,hb1⟩;obtain ⟨av1,cap1,rfl,hr1⟩:=own1.form;have hB1:=zAA hB0 hb1;have pN1:=AtL.below hb1 pN;clear S0 pN hB0 hb1 own1;have n0:w1.cell? ⟨w.heap.size,0,none⟩=some (.int .i64 3):=by rw [<-hk];exact pN1.2.1 0 _ rfl
 have rA:=zHE pN1;go_wp2_with ((with_reducible refine wpList_load_mid (cs:=rf5 x.a) ?_ 28 (.tmp 36) ?_ (w.heap.size) 10 ?_ _ ?_ underlying28 ?_ ?_ ?_);rfl;rfl;rfl;exact rA;rfl;kernel_rfl)
 refine (CA _).mono ?_;rintro e w2 ⟨rfl,hb2⟩;have hB2:=zAA hB1 hb2;have pN2:=AtL.below hb2 pN1;clear n0 rA pN1 hB1 hb2 CA;have n0:w2.cell? ⟨w.heap.size,0,none⟩=some (.int .i64 3):=by rw [<-hk];exact pN2.2.1 0 _ rfl
 have n10:=pN2.2.1 10 _ rfl;have rB:=zMx pN2;go_wp2_with ((with_reducible refine wpList_load_mid (cs:=rf5 x.b) ?_ 28 (.tmp 54) ?_ (w.heap.size) 15 ?_ _ ?_ underlying28 ?_ ?_ ?_);rfl;rfl;rfl;exact rB;rfl;kernel_rfl)
 refine (CB _).mono ?_;rintro e w3 ⟨rfl,hb3⟩;have hB3:=zAA hB2 hb3;go_wp2;go_ret;refine ⟨congrArg (λx=>Ending.returned (Value.string x)) ?_,hB3⟩;rw [HA.out,HB.out];rw [zEg x.a.s];rw [show (⟨#[33]⟩:ByteArray)=⟨[33].toArray⟩ from rfl];rw [show (⟨#[58]⟩:ByteArray)=⟨[58].toArray⟩ from rfl];simp only [zBg];simp
end Go.Proofs.YtdghjlmnlodnlaaGreatDoor
