/- Lemmas. -/
import Derived.Test.YtloponhikiddmaaGreatDoorQ13
set_option maxHeartbeats 16000000
set_option maxRecDepth 100000
open Go.RowKit.Below renaming refl->bZ,heap_setCell->hZ
open Go.World renaming there->cZ,setCells->iZ
open Nat renaming le_refl->dZ,lt_succ_self->oZ
open List renaming suffix_refl->eZ,drop_suffix->fZ,eq_nil_of_length_eq_zero->gZ,length_tail->jZ,suffix_cons->kZ,tail_suffix->mZ,map_toArray->nZ,map_cons->qZ,map_nil->rZ
open Go renaming World->wW
open Go.Value renaming int->O,slice->U,string->V,bool->Y,pointer->pX,agg->gX,tuple->uX
open Go.IntKind renaming i64->J
open Go.Obj renaming cells->Z
open Go.Ending renaming returned->rX
open Go.Operand renaming tmp->mX
namespace Go.Proofs.YtloponhikiddmaaGreatDoor
open Tryz
variable {w w':wW} {ts r us0:List Wlx.TV} {sub:List Wlx.TV->PR} {en:Int} {op:Oper} {a:Act} {Q:Exit->Act->wW->Prop} {b n k:Nat} {m:List UInt8} {K:Act->wW->Prop} {G:Nat->Prop} {x z:Wt.Nd} {sl:Value} {e:Ending}
open Go.RowKit Go.Shelf
set_option linter.unusedVariables false
def pcs (s:ByteArray) (ts:List Wlx.TV) (en:Int):PR:=match pc ts en with
 | .inr e=>.inr e
 | .inl (a,r)=>match tk r [58] with
  | none=>.inl ([⟨2,Wt.v0,0,⟨#[]⟩,0,⟨s,a.r,a.c,a.fr,a.fc⟩,Wt.r0⟩],r)
  | some d=>match pc d en with
   | .inr e=>.inr e
   | .inl (b,r3)=>.inl ([⟨3,Wt.v0,0,⟨#[]⟩,0,⟨s,a.r,a.c,a.fr,a.fc⟩,b⟩],r3)
theorem zEK {a:Wt.Rf} (h:pc ts en=.inl (a,r)):r=ts.tail:=by
 unfold pc at h;split at h
 ·split at h
  ·cases h
  split at h
  ·cases h
  split at h
  ·simp only [Sum.inl.injEq,Prod.mk.injEq] at h;exact h.2.symm
  ·cases h
 ·cases h
theorem zHM (h:tk ts m=some r):r=ts.tail:=by
 unfold tk at h;cases ts with
 | nil=>cases h
 | cons t q =>
  simp only at h;split at h
  ·exact (Option.some.inj h).symm
  ·cases h
theorem zGA {α:Type} {a:α} {l:List α} (h:a ∈ l.tail):a ∈ l:=List.mem_of_mem_tail h
theorem zAb (kp:Nat) (s:ByteArray) (ts:List Wlx.TV) (en:Int) (w:wW) (h:PSt w kp ts en) (aO:ts.length<=1024) (aD:∀ t ∈ ts,Qd t) (hE:Env w) (ag:8<=kp):Calls prog 256 #[pX (some ⟨kp,0,none⟩),V s] w λe w'=>QT kp en (pcs s ts en) w e w':=by
 have S:=QJ (bZ _ w) (Z zP0 151);have pZ:AtL (w.alloc (Z zP0 151)) w.heap.size (QK (bare 0) (U none 0 0)):=AtL.new0 w _ _;have h0:=h.below S;have P:=hE.below S;have aC:=h.lt;have C:=λw h hE=>zFg kp ts en w h aO aD hE ag
 unfold pcs;cases ap:pc ts en with
 | inr q =>
  obtain ⟨c,p⟩:=q;simp only [QT];go_enter func256,ntmps256;go_wp2_with fail
  generalize w.alloc (Z zP0 151)=wa at *;refine (C _ h0 P).mono ?_;rintro e g I;rw [ap] at I;simp only [VS] at I;obtain ⟨rfl,L⟩:=I;unfold JY;go_wp2;exact ⟨rfl,rfl,QD (QE S (some kp)) L⟩
 | inl q =>
  obtain ⟨⟨W,y,v,f,d⟩,R⟩:=q;have aq:=zEK ap;have aV:R.length<=1024:=by rw [aq,jZ];omega
  have aE:∀ t ∈ R,Qd t:=λt ht=>aD t (zGA (by rw [<-aq];exact ht))
  simp only;cases aw:tk R [58] with
  | none =>
   simp only [QT];go_enter func256,ntmps256;go_wp2_with fail
   generalize w.alloc (Z zP0 151)=wa at *;refine (C _ h0 P).mono ?_;rintro e g I;rw [ap] at I;simp only [VS] at I;obtain ⟨rfl,h1,L⟩:=I;have N:=pZ.grown L (by intro e;have:=Option.some.inj e;omega);have ad:=QD (QE S (some kp)) L;have X:=P.grown L ag;clear L pZ h0 S P C;simp only [rfV,rf5];have M:AtL (g.alloc (Z zN0 98)) g.heap.size (QN (bare 0)):=AtL.new0 g _ _;have E:cZ (g.alloc (Z zN0 98)) g.heap.size 0 (QN ⟨2,Wt.v0,0,⟨#[]⟩,0,⟨W,y,v,f,d⟩,Wt.r0⟩).toArray.size:=M.there;have ax:=N.lt;have ao:=h1.lt;go_upto_region 2 with ((with_reducible refine wpList_store_mid ?_ 98 (mX 5) (mX 8) ?_ (g.heap.size) 0 (QN ⟨2,Wt.v0,0,⟨#[]⟩,0,⟨W,y,v,f,d⟩,Wt.r0⟩).toArray ?_ ?_ ?_ ?_ ?_ ?_);rfl;rfl;rfl;rfl;exact E;kernel_rfl;exact Jl _)
   have i:=Qm (QJ (bZ _ g) (Z zN0 98)) (dZ g.heap.size) (QN ⟨2,Wt.v0,0,⟨#[]⟩,0,⟨W,y,v,f,d⟩,Wt.r0⟩) 0;have B:AtL ((g.alloc (Z zN0 98)).setCells g.heap.size 0 (QN ⟨2,Wt.v0,0,⟨#[]⟩,0,⟨W,y,v,f,d⟩,Wt.r0⟩)) g.heap.size (QN ⟨2,Wt.v0,0,⟨#[]⟩,0,⟨W,y,v,f,d⟩,Wt.r0⟩):=M.setAll rfl;have ai:=AtL.below i N;have h2:=h1.below i;have aa:=X.below i;have ae:=QD ad (QE i (some kp));have l:g.heap.size ≠ w.heap.size:=oM;have o:kp<g.heap.size:=ao;have u:w.heap.size<=g.heap.size:=oM;clear M E i N h1 X ad;generalize (g.alloc (Z zN0 98)).setCells g.heap.size 0 (QN ⟨2,Wt.v0,0,⟨#[]⟩,0,⟨W,y,v,f,d⟩,Wt.r0⟩)=w2 at *;generalize g.heap.size=A at *;have au:=B.2.1 10 _ rfl;have am:=B.2.2 10 (by show 10<20;decide);have ah:AtL (w2.setCell ⟨A,10,none⟩ (V s)) A (QN ⟨2,Wt.v0,0,⟨#[]⟩,0,⟨s,y,v,f,d⟩,Wt.r0⟩):=B.set 10 (V s);have aj:=ai.far l 10 (V s);have h3:=h2.far o 10 (V s);have af:=QW ae u 10 (V s);have ab:Env (w2.setCell ⟨A,10,none⟩ (V s)):=aa.grown (Q9 w2 A 10 (V s)) oM;go_upto_region 3 with fail
   clear B ai h2 ae au am aa;generalize w2.setCell ⟨A,10,none⟩ (V s)=w3 at *;have T:=Qw kp R en [58] w3 h3 oM;rw [aw] at T;simp only at T;go_wp2_with fail
   refine T.mono ?_;rintro e w4 ⟨rfl,h4,j⟩;have av:=ah.grown j (by intro e;have:=Option.some.inj e;omega);have al:=aj.grown j (by intro e;have:=Option.some.inj e;omega);have ak:=QD af j;have an:=ab.grown j ag;clear ah aj h3 af ab T j;have rN:=av.range;have az:cZ w4 w.heap.size 0 (QK ⟨2,Wt.v0,0,⟨#[]⟩,0,⟨s,y,v,f,d⟩,Wt.r0⟩ (U none 0 0)).toArray.size:=al.there;go_wp2_with (first | ((with_reducible refine wpList_load_mid (cs:=[O J 2,O J 0,O J 0,O J 0,V ⟨#[]⟩,Y false,O J 0,O J 0,V ⟨#[]⟩,O J 0,V s,O J y,O J v,Y f,Y d,V ⟨#[]⟩,O J 0,O J 0,Y false,Y false]) ?_ 98 (mX 5) ?_ A 0 ?_ _ ?_ underlying98 ?_ ?_ ?_);rfl;rfl;rfl;exact rN;rfl;kernel_rfl) | ((with_reducible refine wpList_store_mid ?_ 151 (mX 4) (mX 19) ?_ (w.heap.size) 0 (QK ⟨2,Wt.v0,0,⟨#[]⟩,0,⟨s,y,v,f,d⟩,Wt.r0⟩ (U none 0 0)).toArray ?_ ?_ ?_ ?_ ?_ ?_);rfl;rfl;rfl;rfl;exact az;kernel_rfl;exact Qs _ _ rfl))
   have aA:AtL (iZ w4 w.heap.size 0 (QK ⟨2,Wt.v0,0,⟨#[]⟩,0,⟨s,y,v,f,d⟩,Wt.r0⟩ (U none 0 0))) w.heap.size (QK ⟨2,Wt.v0,0,⟨#[]⟩,0,⟨s,y,v,f,d⟩,Wt.r0⟩ (U none 0 0)):=al.setAll rfl;refine bodyPost_ret (QQ rfl _ _ w.heap.size (QK ⟨2,Wt.v0,0,⟨#[]⟩,0,⟨s,y,v,f,d⟩,Wt.r0⟩ (U none 0 0)) _ rfl aA.range underlying151 rfl kR) rfl ?_;exact ⟨_,rfl,⟨1,_,_,rfl,PtIs.leaf _ _ _⟩,h4.farAll aC _ 0,QR ak (dZ _) _ 0⟩
  | some r2 =>
   have aF:=zHM aw;have C2:=λw h hE=>zFg kp r2 en w h (by rw [aF,jZ];omega) (λt ht=>aE t (zGA (by rw [<-aF];exact ht))) hE ag
   simp only;cases ay:pc r2 en with
   | inr q =>
    obtain ⟨c,p⟩:=q;simp only [QT];go_enter func256,ntmps256;go_wp2_with fail
    generalize w.alloc (Z zP0 151)=wa at *;refine (C _ h0 P).mono ?_;rintro e g I;rw [ap] at I;simp only [VS] at I;obtain ⟨rfl,h1,L⟩:=I;have N:=pZ.grown L (by intro e;have:=Option.some.inj e;omega);have ad:=QD (QE S (some kp)) L;have X:=P.grown L ag;clear L pZ h0 S P C;simp only [rfV,rf5];have M:AtL (g.alloc (Z zN0 98)) g.heap.size (QN (bare 0)):=AtL.new0 g _ _;have E:cZ (g.alloc (Z zN0 98)) g.heap.size 0 (QN ⟨2,Wt.v0,0,⟨#[]⟩,0,⟨W,y,v,f,d⟩,Wt.r0⟩).toArray.size:=M.there;have ax:=N.lt;have ao:=h1.lt;go_upto_region 2 with ((with_reducible refine wpList_store_mid ?_ 98 (mX 5) (mX 8) ?_ (g.heap.size) 0 (QN ⟨2,Wt.v0,0,⟨#[]⟩,0,⟨W,y,v,f,d⟩,Wt.r0⟩).toArray ?_ ?_ ?_ ?_ ?_ ?_);rfl;rfl;rfl;rfl;exact E;kernel_rfl;exact Jl _)
    have i:=Qm (QJ (bZ _ g) (Z zN0 98)) (dZ g.heap.size) (QN ⟨2,Wt.v0,0,⟨#[]⟩,0,⟨W,y,v,f,d⟩,Wt.r0⟩) 0;have B:AtL ((g.alloc (Z zN0 98)).setCells g.heap.size 0 (QN ⟨2,Wt.v0,0,⟨#[]⟩,0,⟨W,y,v,f,d⟩,Wt.r0⟩)) g.heap.size (QN ⟨2,Wt.v0,0,⟨#[]⟩,0,⟨W,y,v,f,d⟩,Wt.r0⟩):=M.setAll rfl;have ai:=AtL.below i N;have h2:=h1.below i;have aa:=X.below i;have ae:=QD ad (QE i (some kp));have l:g.heap.size ≠ w.heap.size:=oM;have o:kp<g.heap.size:=ao;have u:w.heap.size<=g.heap.size:=oM;clear M E i N h1 X ad;generalize (g.alloc (Z zN0 98)).setCells g.heap.size 0 (QN ⟨2,Wt.v0,0,⟨#[]⟩,0,⟨W,y,v,f,d⟩,Wt.r0⟩)=w2 at *;generalize g.heap.size=A at *;have au:=B.2.1 10 _ rfl;have am:=B.2.2 10 (by show 10<20;decide);have ah:AtL (w2.setCell ⟨A,10,none⟩ (V s)) A (QN ⟨2,Wt.v0,0,⟨#[]⟩,0,⟨s,y,v,f,d⟩,Wt.r0⟩):=B.set 10 (V s);have aj:=ai.far l 10 (V s);have h3:=h2.far o 10 (V s);have af:=QW ae u 10 (V s);have ab:Env (w2.setCell ⟨A,10,none⟩ (V s)):=aa.grown (Q9 w2 A 10 (V s)) oM;go_upto_region 3 with fail
    clear B ai h2 ae au am aa;generalize w2.setCell ⟨A,10,none⟩ (V s)=w3 at *;have T:=Qw kp R en [58] w3 h3 oM;rw [aw] at T;simp only at T;go_wp2_with fail
    refine T.mono ?_;rintro e w4 ⟨rfl,h4,j⟩;have av:=ah.grown j (by intro e;have:=Option.some.inj e;omega);have al:=aj.grown j (by intro e;have:=Option.some.inj e;omega);have ak:=QD af j;have an:=ab.grown j ag;clear ah aj h3 af ab T j;go_wp2_with fail
    refine (C2 _ h4 an).mono ?_;rintro e w5 I;rw [ay] at I;simp only [VS] at I;obtain ⟨rfl,L⟩:=I;unfold JY;go_wp2;exact ⟨rfl,rfl,QD ak L⟩
   | inl q =>
    obtain ⟨⟨bs,br,bc,H,F⟩,r3⟩:=q;simp only [QT];go_enter func256,ntmps256;go_wp2_with fail
    generalize w.alloc (Z zP0 151)=wa at *;refine (C _ h0 P).mono ?_;rintro e g I;rw [ap] at I;simp only [VS] at I;obtain ⟨rfl,h1,L⟩:=I;have N:=pZ.grown L (by intro e;have:=Option.some.inj e;omega);have ad:=QD (QE S (some kp)) L;have X:=P.grown L ag;clear L pZ h0 S P C;simp only [rfV,rf5];have M:AtL (g.alloc (Z zN0 98)) g.heap.size (QN (bare 0)):=AtL.new0 g _ _;have E:cZ (g.alloc (Z zN0 98)) g.heap.size 0 (QN ⟨2,Wt.v0,0,⟨#[]⟩,0,⟨W,y,v,f,d⟩,Wt.r0⟩).toArray.size:=M.there;have ax:=N.lt;have ao:=h1.lt;go_upto_region 2 with ((with_reducible refine wpList_store_mid ?_ 98 (mX 5) (mX 8) ?_ (g.heap.size) 0 (QN ⟨2,Wt.v0,0,⟨#[]⟩,0,⟨W,y,v,f,d⟩,Wt.r0⟩).toArray ?_ ?_ ?_ ?_ ?_ ?_);rfl;rfl;rfl;rfl;exact E;kernel_rfl;exact Jl _)
    have i:=Qm (QJ (bZ _ g) (Z zN0 98)) (dZ g.heap.size) (QN ⟨2,Wt.v0,0,⟨#[]⟩,0,⟨W,y,v,f,d⟩,Wt.r0⟩) 0;have B:AtL ((g.alloc (Z zN0 98)).setCells g.heap.size 0 (QN ⟨2,Wt.v0,0,⟨#[]⟩,0,⟨W,y,v,f,d⟩,Wt.r0⟩)) g.heap.size (QN ⟨2,Wt.v0,0,⟨#[]⟩,0,⟨W,y,v,f,d⟩,Wt.r0⟩):=M.setAll rfl;have ai:=AtL.below i N;have h2:=h1.below i;have aa:=X.below i;have ae:=QD ad (QE i (some kp));have l:g.heap.size ≠ w.heap.size:=oM;have o:kp<g.heap.size:=ao;have u:w.heap.size<=g.heap.size:=oM;clear M E i N h1 X ad;generalize (g.alloc (Z zN0 98)).setCells g.heap.size 0 (QN ⟨2,Wt.v0,0,⟨#[]⟩,0,⟨W,y,v,f,d⟩,Wt.r0⟩)=w2 at *;generalize g.heap.size=A at *;have au:=B.2.1 10 _ rfl;have am:=B.2.2 10 (by show 10<20;decide);have ah:AtL (w2.setCell ⟨A,10,none⟩ (V s)) A (QN ⟨2,Wt.v0,0,⟨#[]⟩,0,⟨s,y,v,f,d⟩,Wt.r0⟩):=B.set 10 (V s);have aj:=ai.far l 10 (V s);have h3:=h2.far o 10 (V s);have af:=QW ae u 10 (V s);have ab:Env (w2.setCell ⟨A,10,none⟩ (V s)):=aa.grown (Q9 w2 A 10 (V s)) oM;go_upto_region 3 with fail
    clear B ai h2 ae au am aa;generalize w2.setCell ⟨A,10,none⟩ (V s)=w3 at *;have T:=Qw kp R en [58] w3 h3 oM;rw [aw] at T;simp only at T;go_wp2_with fail
    refine T.mono ?_;rintro e w4 ⟨rfl,h4,j⟩;have av:=ah.grown j (by intro e;have:=Option.some.inj e;omega);have al:=aj.grown j (by intro e;have:=Option.some.inj e;omega);have ak:=QD af j;have an:=ab.grown j ag;clear ah aj h3 af ab T j;go_wp2_with fail
    refine (C2 _ h4 an).mono ?_;rintro e w5 I;rw [ay] at I;simp only [VS] at I;obtain ⟨rfl,h5,L⟩:=I;have D:=av.grown L (by intro e;have:=Option.some.inj e;omega);have aG:=al.grown L (by intro e;have:=Option.some.inj e;omega);have aB:=QD ak L;clear av al h4 ak an L C2;simp only [rfV,rf5];have n0:=D.2.1 0 _ rfl;have aP:=D.2.1 15 _ rfl;have aQ:=D.2.1 16 _ rfl;have aR:=D.2.1 17 _ rfl;have aS:=D.2.1 18 _ rfl;have aT:=D.2.1 19 _ rfl;have f0:=D.2.2 0 (by show 0<20;decide);have aI:=D.2.2 15 (by show 15<20;decide);have aJ:=D.2.2 16 (by show 16<20;decide);have aK:=D.2.2 17 (by show 17<20;decide);have aL:=D.2.2 18 (by show 18<20;decide);have aM:=D.2.2 19 (by show 19<20;decide);have aU:AtL ((((((w5.setCell ⟨A,0,none⟩ (O J 3)).setCell ⟨A,15,none⟩ (V bs)).setCell ⟨A,16,none⟩ (O J br)).setCell ⟨A,17,none⟩ (O J bc)).setCell ⟨A,18,none⟩ (Y H)).setCell ⟨A,19,none⟩ (Y F)) A (QN ⟨3,Wt.v0,0,⟨#[]⟩,0,⟨s,y,v,f,d⟩,⟨bs,br,bc,H,F⟩⟩):=(((((D.set 0 _).set 15 _).set 16 _).set 17 _).set 18 _).set 19 _;have aH:=(((((aG.far l 0 (O J 3)).far l 15 (V bs)).far l 16 (O J br)).far l 17 (O J bc)).far l 18 (Y H)).far l 19 (Y F);have h6:=(((((h5.far o 0 (O J 3)).far o 15 (V bs)).far o 16 (O J br)).far o 17 (O J bc)).far o 18 (Y H)).far o 19 (Y F)
    have aN:=QW (QW (QW (QW (QW (QW aB u 0 (O J 3)) u 15 (V bs)) u 16 (O J br)) u 17 (O J bc)) u 18 (Y H)) u 19 (Y F);go_upto_region 5 with fail
    clear D aG h5 aB n0 aP aQ aR aS aT f0 aI aJ aK aL aM;generalize (((((w5.setCell ⟨A,0,none⟩ (O J 3)).setCell ⟨A,15,none⟩ (V bs)).setCell ⟨A,16,none⟩ (O J br)).setCell ⟨A,17,none⟩ (O J bc)).setCell ⟨A,18,none⟩ (Y H)).setCell ⟨A,19,none⟩ (Y F)=w6 at *;have rN:=aU.range;have az:cZ w6 w.heap.size 0 (QK ⟨3,Wt.v0,0,⟨#[]⟩,0,⟨s,y,v,f,d⟩,⟨bs,br,bc,H,F⟩⟩ (U none 0 0)).toArray.size:=aH.there;go_wp2_with (first | ((with_reducible refine wpList_load_mid (cs:=[O J 3,O J 0,O J 0,O J 0,V ⟨#[]⟩,Y false,O J 0,O J 0,V ⟨#[]⟩,O J 0,V s,O J y,O J v,Y f,Y d,V bs,O J br,O J bc,Y H,Y F]) ?_ 98 (mX 5) ?_ A 0 ?_ _ ?_ underlying98 ?_ ?_ ?_);rfl;rfl;rfl;exact rN;rfl;kernel_rfl) | ((with_reducible refine wpList_store_mid ?_ 151 (mX 4) (mX 19) ?_ (w.heap.size) 0 (QK ⟨3,Wt.v0,0,⟨#[]⟩,0,⟨s,y,v,f,d⟩,⟨bs,br,bc,H,F⟩⟩ (U none 0 0)).toArray ?_ ?_ ?_ ?_ ?_ ?_);rfl;rfl;rfl;rfl;exact az;kernel_rfl;exact Qs _ _ rfl))
    have aA:AtL (iZ w6 w.heap.size 0 (QK ⟨3,Wt.v0,0,⟨#[]⟩,0,⟨s,y,v,f,d⟩,⟨bs,br,bc,H,F⟩⟩ (U none 0 0))) w.heap.size (QK ⟨3,Wt.v0,0,⟨#[]⟩,0,⟨s,y,v,f,d⟩,⟨bs,br,bc,H,F⟩⟩ (U none 0 0)):=aH.setAll rfl;refine bodyPost_ret (QQ rfl _ _ w.heap.size (QK ⟨3,Wt.v0,0,⟨#[]⟩,0,⟨s,y,v,f,d⟩,⟨bs,br,bc,H,F⟩⟩ (U none 0 0)) _ rfl aA.range underlying151 rfl kR) rfl ?_;exact ⟨_,rfl,⟨1,_,_,rfl,PtIs.leaf _ _ _⟩,h6.farAll aC _ 0,QR aN (dZ _) _ 0⟩
def more (sub:List Wlx.TV->PR) (k:Int):Nat->List Wt.Nd->List Wlx.TV->PR
 | 0,row,ts=>.inl (row,ts)
 | n+1,row,ts=>match Jc k ts with
  | none=>.inl (row,ts)
  | some (o,r)=>match sub r with
   | .inr e=>.inr e
   | .inl (row2,r2)=>more sub k n (opN (Qz o.2.2) o.1::(row++row2)) r2
def pct:Nat->List Wt.Nd->List Wlx.TV->PR
 | 0,row,ts=>.inl (row,ts)
 | n+1,row,ts=>match Jc 6 ts with
  | none=>.inl (row,ts)
  | some (o,r)=>pct n (opN (Qz o.2.2) o.1::row) r
def VB (sub:List Wlx.TV->PR) (en:Int):Nat->Nat->List Wt.Nd->List Wlx.TV->(Nat × List Wt.Nd × List Wlx.TV) ⊕ (Int × Int)
 | 0,_,_,ts=>.inr (50,pos ts en)
 | n+1,c,rows,ts=>match tk ts [41] with
  | some r=>.inl (c,rows,r)
  | none=>if c=30/\V6 (hd ts en) [44]=true then .inr (3,pos ts en) else
   match tk ts [44] with
   | none=>.inr (50,pos ts en)
   | some r=>match sub r with
    | .inr e=>.inr e
    | .inl (row,r2)=>VB sub en n (c+1) (rows++row) r2
def Js (nm:ByteArray) (c:Nat):Wt.Nd:=⟨6,Wt.v0,0,nm,c,Wt.r0,Wt.r0⟩
def VL (sub:List Wlx.TV->PR) (en:Int) (nm:List UInt8) (ts:List Wlx.TV):PR:=match tk ts [41] with
 | some r=>.inl ([Js ⟨nm.toArray⟩ 0],r)
 | none=>match sub ts with
  | .inr e=>.inr e
  | .inl (row,r)=>match VB sub en (r.length+1) 1 row r with
   | .inr e=>.inr e
   | .inl (c,rows,r2)=>.inl (Js ⟨nm.toArray⟩ c::rows,r2)
def VD (sub:List Wlx.TV->PR) (en:Int) (ts:List Wlx.TV):PR :=
 if fol ts [40] then (if Wt.fnNm ⟨(hd ts en).t.toArray⟩ then VL sub en (hd ts en).t (ts.drop 2) else .inr (50,pos ts en))
 else if fol ts [33] then (if Wt.shNm ⟨(hd ts en).t.toArray⟩ then pcs ⟨(hd ts en).t.toArray⟩ (ts.drop 2) en else .inr (50,pos ts en))
 else if (hd ts en).t=[84,82,85,69] then .inl ([JL (Qc true)],ts.drop 1)
 else if (hd ts en).t=[70,65,76,83,69] then .inl ([JL (Qc false)],ts.drop 1)
 else pcs ⟨#[]⟩ ts en
def J8 (sub:List Wlx.TV->PR) (en:Int) (ts:List Wlx.TV):PR:=match tk ts [40] with
 | none=>.inr (50,pos ts en)
 | some r=>match sub r with
  | .inr e=>.inr e
  | .inl (row,r2)=>match tk r2 [41] with
   | none=>.inr (50,pos r2 en)
   | some c=>.inl (row,c)
def lv (en:Int):Nat->Nat->List Wlx.TV->PR
 | 0,_,_=>.inr (0,0)
 | f+1,k,ts =>
  if k<5 then (match lv en f (k+1) ts with
   | .inr e=>.inr e
   | .inl (row,r)=>more (lv en f (k+1)) k r.length row r)
  else if k=5 then (match Jc 5 ts with
   | some (o,r)=>(match lv en f 5 r with
    | .inr e=>.inr e
    | .inl (row,r2)=>.inl (opN (Qz o.2.2) o.1::row,r2))
   | none=>lv en f 6 ts)
  else if k=6 then (match lv en f 7 ts with
   | .inr e=>.inr e
   | .inl (row,r)=>pct r.length row r)
  else if (hd ts en).k=3 then VD (lv en f 0) en ts
  else if (hd ts en).k=5 then J8 (lv en f 0) en ts
  else pl ts en
theorem JH (h:tk ts m=some r):r <:+ ts/\r.length<ts.length:=by
 cases ts with
 | nil=>cases h
 | cons t q =>
  have:=zHM h;subst this;exact ⟨kZ _ _,sM⟩
theorem Qu {k:Int} {o:Int × List UInt8 × Int} (h:Jc k ts=some (o,r)):r <:+ ts/\r.length<ts.length:=by
 cases ts with
 | nil=>cases h
 | cons t q =>
  unfold Jc at h;simp only at h;split at h
  ·cases c:Wt.opAs t.t k with
   | none=>rw [c] at h;cases h
   | some x =>
    rw [c] at h;simp only [Option.map_some,Option.some.injEq,Prod.mk.injEq] at h;rw [<-h.2];exact ⟨kZ _ _,sM⟩
  ·cases h
theorem zMX {a:Wt.Rf} (h:pc ts en=.inl (a,r)):r <:+ ts:=by
 rw [zEK h];exact mZ _
theorem zOh {row:List Wt.Nd} (h:pl ts en=.inl (row,r)):r <:+ ts:=by
 unfold pl at h;split at h
 ·simp only [Sum.inl.injEq,Prod.mk.injEq] at h;rw [<-h.2];exact mZ _
 ·cases h
theorem zJX {s:ByteArray} {row:List Wt.Nd} (h:pcs s ts en=.inl (row,r)):r <:+ ts:=by
 unfold pcs at h;cases c:pc ts en with
 | inr e=>rw [c] at h;cases h
 | inl q =>
  obtain ⟨a,i⟩:=q;rw [c] at h;simp only at h;have g:=zMX c;cases d:tk i [58] with
  | none=>rw [d] at h;simp only [Sum.inl.injEq,Prod.mk.injEq] at h;rw [<-h.2];exact g
  | some j =>
   rw [d] at h;simp only at h;have l:=(JH d).1;cases f:pc j en with
   | inr e=>rw [f] at h;cases h
   | inl q =>
    obtain ⟨b,o⟩:=q;rw [f] at h;simp only [Sum.inl.injEq,Prod.mk.injEq] at h;rw [<-h.2];exact ((zMX f).trans l).trans g
theorem zLI (d:∀ ts row r,sub ts=.inl (row,r)->r <:+ ts) (k:Int):∀ (n:Nat) (row:List Wt.Nd) (ts:List Wlx.TV) (c:List Wt.Nd) (r:List Wlx.TV),more sub k n row ts=.inl (c,r)->r <:+ ts:=by
 intro n;induction n with
 | zero=>intro row ts c r h;simp only [more,Sum.inl.injEq,Prod.mk.injEq] at h;rw [<-h.2];exact eZ _
 | succ n j =>
  intro row ts c r h;simp only [more] at h;cases f:Jc k ts with
  | none=>rw [f] at h;simp only [Sum.inl.injEq,Prod.mk.injEq] at h;rw [<-h.2];exact eZ _
  | some q =>
   obtain ⟨o,l⟩:=q;rw [f] at h;simp only at h;cases g:sub l with
   | inr e=>rw [g] at h;cases h
   | inl q =>
    obtain ⟨i,p⟩:=q;rw [g] at h;simp only at h;exact ((j _ _ _ _ h).trans (d _ _ _ g)).trans (Qu f).1
theorem zKR (g:∀ ts row r,sub ts=.inl (row,r)->r <:+ ts) (en:Int):∀ (n c:Nat) (f:List Wt.Nd) (ts:List Wlx.TV) (i:Nat) (d:List Wt.Nd) (r:List Wlx.TV),VB sub en n c f ts=.inl (i,d,r)->r <:+ ts:=by
 intro n;induction n with
 | zero=>intro c f ts i d r h;cases h
 | succ n p =>
  intro c f ts i d r h;simp only [VB] at h;cases j:tk ts [41] with
  | some q=>rw [j] at h;simp only [Sum.inl.injEq,Prod.mk.injEq] at h;rw [<-h.2.2];exact (JH j).1
  | none =>
   rw [j] at h;simp only at h;split at h
   ·cases h
   ·cases l:tk ts [44] with
    | none=>rw [l] at h;cases h
    | some s =>
     rw [l] at h;simp only at h;cases o:sub s with
     | inr e=>rw [o] at h;cases h
     | inl q =>
      obtain ⟨row,t⟩:=q;rw [o] at h;simp only at h;exact ((p _ _ _ _ _ _ h).trans (g _ _ _ o)).trans (JH l).1
theorem zIf (d:∀ ts row r,sub ts=.inl (row,r)->r <:+ ts) (en:Int) (nm:List UInt8) (ts:List Wlx.TV) (row:List Wt.Nd) (r:List Wlx.TV) (h:VL sub en nm ts=.inl (row,r)):r <:+ ts:=by
 unfold VL at h;cases g:tk ts [41] with
 | some q=>rw [g] at h;simp only [Sum.inl.injEq,Prod.mk.injEq] at h;rw [<-h.2];exact (JH g).1
 | none =>
  rw [g] at h;simp only at h;cases i:sub ts with
  | inr e=>rw [i] at h;cases h
  | inl q =>
   obtain ⟨f,l⟩:=q;rw [i] at h;simp only at h;cases j:VB sub en (l.length+1) 1 f l with
   | inr e=>rw [j] at h;cases h
   | inl q =>
    obtain ⟨c,o,p⟩:=q;rw [j] at h;simp only [Sum.inl.injEq,Prod.mk.injEq] at h;rw [<-h.2];exact (zKR d en _ _ _ _ _ _ _ j).trans (d _ _ _ i)
theorem zH5 (c:∀ ts row r,sub ts=.inl (row,r)->r <:+ ts) (en:Int) (ts:List Wlx.TV) (row:List Wt.Nd) (r:List Wlx.TV) (h:VD sub en ts=.inl (row,r)):r <:+ ts:=by
 unfold VD at h;split at h
 ·split at h
  ·exact (zIf c _ _ _ _ _ h).trans (fZ _ _)
  ·cases h
 split at h
 ·split at h
  ·exact (zJX h).trans (fZ _ _)
  ·cases h
 split at h
 ·simp only [Sum.inl.injEq,Prod.mk.injEq] at h;rw [<-h.2];exact fZ _ _
 split at h
 ·simp only [Sum.inl.injEq,Prod.mk.injEq] at h;rw [<-h.2];exact fZ _ _
 ·exact zJX h
theorem zGI (c:∀ ts row r,sub ts=.inl (row,r)->r <:+ ts) (en:Int) (ts:List Wlx.TV) (row:List Wt.Nd) (r:List Wlx.TV) (h:J8 sub en ts=.inl (row,r)):r <:+ ts:=by
 unfold J8 at h;cases d:tk ts [40] with
 | none=>rw [d] at h;cases h
 | some j =>
  rw [d] at h;simp only at h;cases f:sub j with
  | inr e=>rw [f] at h;cases h
  | inl q =>
   obtain ⟨i,l⟩:=q;rw [f] at h;simp only at h;cases g:tk l [41] with
   | none=>rw [g] at h;cases h
   | some o =>
    rw [g] at h;simp only [Sum.inl.injEq,Prod.mk.injEq] at h;rw [<-h.2];exact ((JH g).1.trans (c _ _ _ f)).trans (JH d).1
theorem zNQ:∀ (n:Nat) (row:List Wt.Nd) (ts:List Wlx.TV) (c:List Wt.Nd) (r:List Wlx.TV),pct n row ts=.inl (c,r)->r <:+ ts:=by
 intro n;induction n with
 | zero=>intro row ts c r h;simp only [pct,Sum.inl.injEq,Prod.mk.injEq] at h;rw [<-h.2];exact eZ _
 | succ n f =>
  intro row ts c r h;simp only [pct] at h;cases d:Jc 6 ts with
  | none=>rw [d] at h;simp only [Sum.inl.injEq,Prod.mk.injEq] at h;rw [<-h.2];exact eZ _
  | some q =>
   obtain ⟨o,g⟩:=q;rw [d] at h;simp only at h;exact (f _ _ _ _ h).trans (Qu d).1
theorem Jo (en:Int):∀ (f k:Nat) (ts:List Wlx.TV) (row:List Wt.Nd) (r:List Wlx.TV),lv en f k ts=.inl (row,r)->r <:+ ts:=by
 intro f;induction f with
 | zero=>intro k ts row r h;cases h
 | succ f d =>
  intro k ts row r h;simp only [lv] at h;split at h
  ·cases c:lv en f (k+1) ts with
   | inr e=>rw [c] at h;cases h
   | inl q =>
    obtain ⟨g,j⟩:=q;rw [c] at h;simp only at h;exact (zLI (d (k+1)) _ _ _ _ _ _ h).trans (d _ _ _ _ c)
  split at h
  ·cases c:Jc 5 ts with
   | none=>rw [c] at h;exact d _ _ _ _ h
   | some q =>
    obtain ⟨o,j⟩:=q;rw [c] at h;simp only at h;cases i:lv en f 5 j with
    | inr e=>rw [i] at h;cases h
    | inl q =>
     obtain ⟨l,p⟩:=q;rw [i] at h;simp only [Sum.inl.injEq,Prod.mk.injEq] at h;rw [<-h.2];exact (d _ _ _ _ i).trans (Qu c).1
  split at h
  ·cases c:lv en f 7 ts with
   | inr e=>rw [c] at h;cases h
   | inl q =>
    obtain ⟨g,j⟩:=q;rw [c] at h;simp only at h;exact (zNQ _ _ _ _ _ h).trans (d _ _ _ _ c)
  split at h
  ·exact zH5 (d 0) _ _ _ _ h
  split at h
  ·exact zGI (d 0) _ _ _ _ h
  ·exact zOh h
def zCH (kp:Nat) (en:Int) (sub:List Wlx.TV->PR) (n:Nat):Prop :=
 ∀ (ts:List Wlx.TV) (w:wW),PSt w kp ts en->ts.length<=n->ts.length<=1024->(∀ t ∈ ts,Qd t)->Env w->Calls prog 113 #[pX (some ⟨kp,0,none⟩)] w λe w'=>QT kp en (sub ts) w e w'
theorem zCw (kp:Nat) (en:Int) (sub:List Wlx.TV->PR) (n:Nat) (HF:zCH kp en sub n) (ae:∀ ts row r,sub ts=.inl (row,r)->r <:+ ts) (ts:List Wlx.TV) (w:wW) (h:PSt w kp ts en) (hn:ts.length<=n+1) (an:ts.length<=1024) (al:∀ t ∈ ts,Qd t) (hE:Env w) (S:8<=kp) :
  Calls prog 250 #[pX (some ⟨kp,0,none⟩)] w λe w'=>QT kp en (J8 sub en ts) w e w':=by
 have l:=QJ (bZ _ w) (Z zP0 151);have T:AtL (w.alloc (Z zP0 151)) w.heap.size (QK (bare 0) (U none 0 0)):=AtL.new0 w _ _;have h0:=h.below l;have u:=hE.below l;have aj:=h.lt;have D:=Qw kp ts en [40] _ h0 an;unfold J8;cases ht:tk ts [40] with
 | none =>
  rw [ht] at D;simp only [QT] at D ⊢;have M0:=λw h=>Qp kp ts en w h
  unfold JY at M0 ⊢;go_enter func250,ntmps250;go_wp2_with fail
  generalize w.alloc (Z zP0 151)=wa at *;refine D.mono ?_;rintro e W ⟨rfl,R,d⟩;have s:=T.grown d (by intro e;have:=Option.some.inj e;omega);have o:=QD (QE l (some kp)) d;have y:=u.grown d S;clear T h0 l u D d;go_wp2_with fail
  refine (M0 _ R).mono ?_;rintro e f ⟨rfl,hb⟩;go_wp2;exact ⟨rfl,rfl,QD o (QE hb (some kp))⟩
 | some r =>
  rw [ht] at D;obtain ⟨af,ar⟩:=JH ht;have M:∀ t ∈ r,Qd t:=λt h=>al t (af.subset h)
  simp only at D ⊢;cases hs:sub r with
  | inr q =>
   obtain ⟨c,p⟩:=q;simp only [QT];go_enter func250,ntmps250;go_wp2_with fail
   generalize w.alloc (Z zP0 151)=wa at *;refine D.mono ?_;rintro e W ⟨rfl,R,d⟩;have s:=T.grown d (by intro e;have:=Option.some.inj e;omega);have o:=QD (QE l (some kp)) d;have y:=u.grown d S;clear T h0 l u D d;go_wp2_with fail
   refine (Qa kp _).mono ?_;rintro e f ⟨rfl,rfl⟩;go_wp2_with fail
   refine (HF r W R oM oM M y).mono ?_;rintro e f I;rw [hs] at I;simp only [QT] at I;obtain ⟨rfl,hg⟩:=I;unfold JY;go_wp2;exact ⟨rfl,rfl,QD o hg⟩
  | inl q =>
   obtain ⟨row,r2⟩:=q;have aq:=(ae _ _ _ hs).length_le;simp only;cases ah:tk r2 [41] with
   | none =>
    simp only [QT];have M0:=λw h=>Qp kp r2 en w h
    unfold JY at M0 ⊢;go_enter func250,ntmps250;go_wp2_with fail
    generalize w.alloc (Z zP0 151)=wa at *;refine D.mono ?_;rintro e W ⟨rfl,R,d⟩;have s:=T.grown d (by intro e;have:=Option.some.inj e;omega);have o:=QD (QE l (some kp)) d;have y:=u.grown d S;clear T h0 l u D d;go_wp2_with fail
    refine (Qa kp _).mono ?_;rintro e f ⟨rfl,rfl⟩;go_wp2_with fail
    refine (HF r W R oM oM M y).mono ?_;rintro e f I;rw [hs] at I;simp only [QT] at I;obtain ⟨v,rfl,hP,X,L⟩:=I;have ag:w.heap.size<W.heap.size:=s.lt;have C:=s.grown L (by intro e;have:=Option.some.inj e;omega);have E:=QD o L;obtain ⟨nn,x,sl,rfl,hp⟩:=hP;obtain ⟨j,len,cap,rfl⟩:=hp.one;clear s o y R;unfold ptV;have B:AtL (f.alloc (Z zP0 151)) f.heap.size (QK (bare 0) (U none 0 0)):=AtL.new0 f _ _;have A:cZ (f.alloc (Z zP0 151)) f.heap.size 0 (QK x (U j len cap)).toArray.size:=B.there;go_upto_region 3 with ((with_reducible refine wpList_store_mid ?_ 151 (mX 3) (mX 9) ?_ (f.heap.size) 0 (QK x (U j len cap)).toArray ?_ ?_ ?_ ?_ ?_ ?_);rfl;rfl;rfl;rfl;exact A;kernel_rfl;exact Qs _ _ rfl)
    have g:=Qm (QJ (bZ _ f) (Z zP0 151)) (dZ f.heap.size) (QK x (U j len cap)) 0;have pXpX0:AtL ((f.alloc (Z zP0 151)).setCells f.heap.size 0 (QK x (U j len cap))) f.heap.size (QK x (U j len cap)):=B.setAll rfl;have N:=AtL.below g C;have h3:=X.below g;have F:=QD E (QE g (some kp));have H:=Pt.below (v:=ptV x (U j len cap)) ⟨nn,x,_,rfl,hp⟩ g;have ak:kp<f.heap.size:=X.lt;have ao:=C.lt;clear B A g C X E hp;generalize (f.alloc (Z zP0 151)).setCells f.heap.size 0 (QK x (U j len cap))=w3 at *;generalize f.heap.size=kx at *;have P:=Qw kp r2 en [41] w3 h3 oM;rw [ah] at P;simp only at P;go_wp2_with fail
    refine P.mono ?_;rintro e w4 ⟨rfl,h4,i⟩;have ai:=pXpX0.grown i (by intro e;have:=Option.some.inj e;omega);have ab:=N.grown i (by intro e;have:=Option.some.inj e;omega);have ad:=Pt.grown H i oM;have aa:=QD F i;clear pXpX0 N h3 H F P i;go_wp2_with fail
    refine (M0 _ h4).mono ?_;rintro e w5 ⟨rfl,hb⟩;go_wp2;exact ⟨rfl,rfl,QD aa (QE hb (some kp))⟩
   | some r3 =>
    simp only [QT];go_enter func250,ntmps250;go_wp2_with fail
    generalize w.alloc (Z zP0 151)=wa at *;refine D.mono ?_;rintro e W ⟨rfl,R,d⟩;have s:=T.grown d (by intro e;have:=Option.some.inj e;omega);have o:=QD (QE l (some kp)) d;have y:=u.grown d S;clear T h0 l u D d;go_wp2_with fail
    refine (Qa kp _).mono ?_;rintro e f ⟨rfl,rfl⟩;go_wp2_with fail
    refine (HF r W R oM oM M y).mono ?_;rintro e f I;rw [hs] at I;simp only [QT] at I;obtain ⟨v,rfl,hP,X,L⟩:=I;have ag:w.heap.size<W.heap.size:=s.lt;have C:=s.grown L (by intro e;have:=Option.some.inj e;omega);have E:=QD o L;obtain ⟨nn,x,sl,rfl,hp⟩:=hP;obtain ⟨j,len,cap,rfl⟩:=hp.one;clear s o y R;unfold ptV;have B:AtL (f.alloc (Z zP0 151)) f.heap.size (QK (bare 0) (U none 0 0)):=AtL.new0 f _ _;have A:cZ (f.alloc (Z zP0 151)) f.heap.size 0 (QK x (U j len cap)).toArray.size:=B.there;go_upto_region 3 with ((with_reducible refine wpList_store_mid ?_ 151 (mX 3) (mX 9) ?_ (f.heap.size) 0 (QK x (U j len cap)).toArray ?_ ?_ ?_ ?_ ?_ ?_);rfl;rfl;rfl;rfl;exact A;kernel_rfl;exact Qs _ _ rfl)
    have g:=Qm (QJ (bZ _ f) (Z zP0 151)) (dZ f.heap.size) (QK x (U j len cap)) 0;have pXpX0:AtL ((f.alloc (Z zP0 151)).setCells f.heap.size 0 (QK x (U j len cap))) f.heap.size (QK x (U j len cap)):=B.setAll rfl;have N:=AtL.below g C;have h3:=X.below g;have F:=QD E (QE g (some kp));have H:=Pt.below (v:=ptV x (U j len cap)) ⟨nn,x,_,rfl,hp⟩ g;have ak:kp<f.heap.size:=X.lt;have ao:=C.lt;clear B A g C X E hp;generalize (f.alloc (Z zP0 151)).setCells f.heap.size 0 (QK x (U j len cap))=w3 at *;generalize f.heap.size=kx at *;have P:=Qw kp r2 en [41] w3 h3 oM;rw [ah] at P;simp only at P;go_wp2_with fail
    refine P.mono ?_;rintro e w4 ⟨rfl,h4,i⟩;have ai:=pXpX0.grown i (by intro e;have:=Option.some.inj e;omega);have ab:=N.grown i (by intro e;have:=Option.some.inj e;omega);have ad:=Pt.grown H i oM;have aa:=QD F i;clear pXpX0 N h3 H F P i;go_wp2_with fail
    refine (Qa kp _).mono ?_;rintro e w5 ⟨rfl,rfl⟩;have ac:=ai.range;have am:cZ w4 w.heap.size 0 (QK x (U j len cap)).toArray.size:=ab.there;go_wp2_with (first | ((with_reducible refine wpList_load_mid (cs:=QK x (U j len cap)) ?_ 151 (mX 3) ?_ kx 0 ?_ _ ?_ underlying151 ?_ ?_ ?_);rfl;rfl;rfl;exact ac;rfl;kernel_rfl) | ((with_reducible refine wpList_store_mid ?_ 151 (mX 2) (mX 14) ?_ (w.heap.size) 0 (QK x (U j len cap)).toArray ?_ ?_ ?_ ?_ ?_ ?_);rfl;rfl;rfl;rfl;exact am;kernel_rfl;exact Qs _ _ rfl))
    have ap:AtL (w4.setCells w.heap.size 0 (QK x (U j len cap))) w.heap.size (QK x (U j len cap)):=ab.setAll rfl;refine bodyPost_ret (QQ rfl _ _ w.heap.size (QK x (U j len cap)) _ rfl ap.range underlying151 rfl kR) rfl ?_;exact ⟨_,rfl,(ad.far oM 0 _).mono oM,h4.farAll aj _ 0,QR aa (dZ _) _ 0⟩
theorem bs1 (x:Wt.Nd) (c:Option Addr) (len cap:Nat) (w:wW):(Instr.buildSlice 149 1 #[(0,gX (QK x (U c len cap)).toArray)]).run prog w=.ok (U (some ⟨w.heap.size,0,none⟩) 1 1) (w.alloc (Z (QK x (U c len cap)).toArray 151)):=kR
theorem bs2 (x:Wt.Nd) (f:Option Addr) (len cap:Nat) (y:Wt.Nd) (g:Option Addr) (d c:Nat) (w:wW):(Instr.buildSlice 149 2 #[(0,gX (QK x (U f len cap)).toArray),(1,gX (QK y (U g d c)).toArray)]).run prog w=.ok (U (some ⟨w.heap.size,0,none⟩) 2 2) (w.alloc (Z (QK x (U f len cap)++QK y (U g d c)).toArray 151)):=kR
theorem zMh (y:Operand) (d:op.op=.buildSlice 149 1 #[(0,y)]) (x:Wt.Nd) (c:Option Addr) (len cap:Nat) (f:a.eval y=gX (QK x (U c len cap)).toArray)
  (h:K (a.put op.dst (U (some ⟨w.heap.size,0,none⟩) 1 1)) (w.alloc (Z (QK x (U c len cap)).toArray 151))):op.wp prog a w K Q:=by
 unfold Oper.wp execOp;simp only [d,nZ,qZ,rZ,f,Sem.run_bind,Sem.run_pure,Result.andThen_ok,bs1];exact h
theorem zM9 (y z:Operand) (i:op.op=.buildSlice 149 2 #[(0,y),(1,z)]) (x:Wt.Nd) (f:Option Addr) (len cap:Nat) (u:Wt.Nd) (g:Option Addr) (d c:Nat) (j:a.eval y=gX (QK x (U f len cap)).toArray) (l:a.eval z=gX (QK u (U g d c)).toArray)
  (h:K (a.put op.dst (U (some ⟨w.heap.size,0,none⟩) 2 2)) (w.alloc (Z (QK x (U f len cap)++QK u (U g d c)).toArray 151))):op.wp prog a w K Q:=by
 unfold Oper.wp execOp;simp only [i,nZ,qZ,rZ,j,l,Sem.run_bind,Sem.run_pure,Result.andThen_ok,bs2];exact h
theorem zAx {d:Array Oper} {c:List Oper} (g:op.guard=none) (y:Operand) (j:op.op=.buildSlice 149 1 #[(0,y)]) (x:Wt.Nd) (f:Option Addr) (len cap:Nat) (l:a.eval y=gX (QK x (U f len cap)).toArray)
  (h:wpList prog d Q c (a.put op.dst (U (some ⟨w.heap.size,0,none⟩) 1 1)) (w.alloc (Z (QK x (U f len cap)).toArray 151))):wpList prog d Q (op::c) a w :=
 wpList_plain g λ_ i=>zMh y j x f len cap l (i _ _ h)
theorem PtIs.inside {w:wW} {G G':Nat->Prop} (c:∀ b,G b->b<w.heap.size->G' b):∀ (n:Nat) {x:Wt.Nd} {sl:Value} {row:List Wt.Nd},PtIs w G n x sl row->PtIs w G' n x sl row
 | 0,_,_,_,h=>h
 | n+1,x,sl,row,⟨av,cap,ps,rows,e,hl,hr,hp⟩=>⟨av,cap,ps,rows,e,hl,hr,λi h o=>by
   obtain ⟨f,g,j,d,l⟩:=hp i h o;exact ⟨f,g,c _ j (zBt d),d,PtIs.inside c n l⟩⟩
theorem PtIs.un {row:List Wt.Nd} (h:PtIs w G n x sl row) (d:G b) (g:w.rangeAt b 0 (QK x sl)):PtIs w G (n+1) z (U (some ⟨b,0,none⟩) 1 1) (z::row):=by
 refine ⟨some ⟨b,0,none⟩,1,[(x,sl)],[row],rfl,rfl,sM,λi c f=>?_⟩;obtain rfl:i=0:=by simp at c;exact c
 exact ⟨b,rfl,d,g,h⟩
theorem PtIs.bin {m:Nat} {y:Wt.Nd} {f:Value} {row c:List Wt.Nd} (h:PtIs w G n x sl row) (j:PtIs w G m y f c) (g:G b) (p:w.rangeAt b 0 (QK x sl)) (d:w.rangeAt b 21 (QK y f)):PtIs w G (max n m+1) z (U (some ⟨b,0,none⟩) 2 2) (z::(row++c)):=by
 refine ⟨some ⟨b,0,none⟩,2,[(x,sl),(y,f)],[row,c],rfl,rfl,sM,λi l o=>?_⟩;match i,l with
 | 0,_=>exact ⟨b,rfl,g,p,h.upto oM⟩
 | 1,_=>exact ⟨b,rfl,g,d,j.upto oM⟩
theorem zDF (w:wW) (T:TypeId) (a c:List Value):(w.alloc (Z (a++c).toArray T)).rangeAt w.heap.size 0 a/\(w.alloc (Z (a++c).toArray T)).rangeAt w.heap.size a.length c:=by
 have h:=AtL.new0 w T (a++c);refine ⟨λj v d=>?_,λj v d=>?_⟩
 ·rw [Nat.zero_add];exact h.2.1 j v (by rw [List.getElem?_append_left (List.getElem?_eq_some_iff.1 d).1];exact d)
 ·exact h.2.1 (a.length+j) v (by rw [List.getElem?_append_right (Nat.le_add_right _ _),Nat.add_sub_cancel_left];exact d)
def Vp (kp:Nat) (en:Int) (F:Nat) (sub:List Wlx.TV->PR) (n:Nat):Prop :=
 ∀ (ts:List Wlx.TV) (w:wW),PSt w kp ts en->ts.length<=n->ts.length<=1024->(∀ t ∈ ts,Qd t)->Env w->Calls prog F #[pX (some ⟨kp,0,none⟩)] w λe w'=>QT kp en (sub ts) w e w'
def psg (c d:List Wlx.TV->PR) (ts:List Wlx.TV):PR:=match Jc 5 ts with
 | some (o,r)=>(match c r with
  | .inr e=>.inr e
  | .inl (row,r2)=>.inl (opN (Qz o.2.2) o.1::row,r2))
 | none=>d ts
def psi (en:Int) (d c:List Wlx.TV->PR) (ts:List Wlx.TV):PR :=
 if (hd ts en).k=3 then d ts else if (hd ts en).k=5 then c ts else pl ts en
def zLu (kp:Nat) (en:Int) (k:Nat) (sub:List Wlx.TV->PR) (n:Nat):Prop :=
 ∀ (ts:List Wlx.TV) (w:wW),PSt w kp ts en->ts.length<=n->ts.length<=1024->(∀ t ∈ ts,Qd t)->Env w->Calls prog 147 #[pX (some ⟨kp,0,none⟩),O J k] w λe w'=>QT kp en (sub ts) w e w'
theorem zET (kp:Nat) (en:Int) (sub:List Wlx.TV->PR) (n:Nat) (L:zLu kp en 0 sub n):zCH kp en sub n:=by
 intro ts w h M u t S;have d:=QJ (bZ _ w) (Z zP0 151);have C:AtL (w.alloc (Z zP0 151)) w.heap.size (QK (bare 0) (U none 0 0)):=AtL.new0 w _ _;have A:=h.below d;have f:=S.below d;have F:=h.lt;cases P:sub ts with
 | inr q =>
  obtain ⟨c,p⟩:=q;simp only [QT];go_enter func113,ntmps113;have j:=C;have B:=A;have g:=f;have i:=QE d (some kp);clear C A d f;go_wp2_with fail
  refine (L ts _ B M u t g).mono ?_;rintro e D l;rw [P] at l;simp only [QT] at l;obtain ⟨rfl,s⟩:=l;unfold JY;go_wp2;exact ⟨rfl,rfl,QD i s⟩
 | inl q =>
  obtain ⟨row,r2⟩:=q;simp only [QT];go_enter func113,ntmps113;have j:=C;have B:=A;have g:=f;have i:=QE d (some kp);clear C A d f;have W:=j.lt;go_wp2_with fail
  refine (L ts _ B M u t g).mono ?_;rintro e D l;rw [P] at l;simp only [QT] at l;obtain ⟨v,rfl,T,R,s⟩:=l;have y:=j.grown s (by intro e;have:=Option.some.inj e;omega);have E:=QD i s;obtain ⟨X,x,sl,rfl,N⟩:=T;obtain ⟨o,len,cap,rfl⟩:=N.one;have H:cZ D w.heap.size 0 (QK x (U o len cap)).toArray.size:=y.there;clear j i g B s;unfold ptV;go_wp2_with ((with_reducible refine wpList_store_mid ?_ 151 (mX 2) (mX 4) ?_ (w.heap.size) 0 (QK x (U o len cap)).toArray ?_ ?_ ?_ ?_ ?_ ?_);rfl;rfl;rfl;rfl;exact H;kernel_rfl;exact Qs _ _ rfl)
  have I:AtL (D.setCells w.heap.size 0 (QK x (U o len cap))) w.heap.size (QK x (U o len cap)):=y.setAll rfl;refine bodyPost_ret (QQ rfl _ _ w.heap.size (QK x (U o len cap)) _ rfl I.range underlying151 rfl kR) rfl ?_;exact ⟨_,rfl,(Pt.far (show Pt D _ (ptV x (U o len cap)) row from ⟨X,x,_,rfl,N⟩) oM 0 _).mono oM,R.farAll F _ 0,QR E (dZ _) _ 0⟩
def ppc (c:List Wlx.TV->PR) (ts:List Wlx.TV):PR:=match c ts with
 | .inr e=>.inr e
 | .inl (row,r)=>pct r.length row r
theorem zKV (row:List Wt.Nd) (c:List Wlx.TV):pct c.length row c=match Jc 6 c with
  | none=>.inl (row,c)
  | some (o,r)=>pct r.length (opN (Qz o.2.2) o.1::row) r:=by
 cases c with
 | nil=>rfl
 | cons t r =>
  show pct (r.length+1) row (t::r)=_
  simp only [pct];cases h:Jc 6 (t::r) with
  | none=>rfl
  | some q =>
   obtain ⟨o,f⟩:=q;have:f=r:=by
    unfold Jc at h;simp only at h;split at h
    ·cases d:Wt.opAs t.t 6 with
     | none=>rw [d] at h;cases h
     | some x=>rw [d] at h;simp only [Option.map_some,Option.some.injEq,Prod.mk.injEq] at h;exact h.2.symm
    ·cases h
   subst this;rfl
theorem zC4 (c:k ≠ b) (x y z:Value):(((w.setCell ⟨b,0,none⟩ x).setCell ⟨b,1,none⟩ y).setCell ⟨b,2,none⟩ z).heap[k]? = w.heap[k]?:=by
 rw [hZ _ _ _ _ c,hZ _ _ _ _ c,hZ _ _ _ _ c]
theorem zA9 (w:wW) (b:Nat) (x y z:Value):w.grownBy (((w.setCell ⟨b,0,none⟩ x).setCell ⟨b,1,none⟩ y).setCell ⟨b,2,none⟩ z) (some b) :=
 QD (QD (Q9 _ _ _ _) (Q9 _ _ _ _)) (Q9 _ _ _ _)
theorem zAW (w:wW) (b:Nat):∀ (vs:List Value) (o:Nat),w.grownBy (w.setCells b o vs) (some b):=λvs o=>by
 have h:∀ (vs:List Value) (o:Nat) (W:wW),w.grownBy W (some b)->w.grownBy (W.setCells b o vs) (some b):=by
  intro vs;induction vs with
  | nil=>intro o W h;exact h
  | cons v r c=>intro o W h;rw [iZ];exact c (o+1) _ (QD h (Q9 W b o v))
 exact h vs o w (World.grownBy.refl _ _)
theorem zFH {kp:Nat} (row:List Wt.Nd) (h:JT kp en us0 (Jc 6 us0) w e w'):∃ (o:Int) (m:List UInt8) (t:Int) (q:Bool) (c:List Wlx.TV),e=rX (uX #[gX #[O J o,V ⟨m.toArray⟩,O J t],Y q])/\PSt w' kp c en/\w.grownBy w' (some kp)/\pct us0.length row us0=(if q then pct c.length (opN (Qz t) o::row) c else .inl (row,c))/\c.length+(if q then 1 else 0)<=us0.length:=by
 rw [zKV];cases d:Jc 6 us0 with
 | none =>
  rw [d] at h;simp only [JT] at h;exact ⟨0,[],0,false,us0,h.1,h.2.1,h.2.2,rfl,sM⟩
 | some z =>
  obtain ⟨⟨o,m,t⟩,r⟩:=z;rw [d] at h;simp only [JT] at h;have:=(Qu d).2;exact ⟨o,m,t,true,r,h.1,h.2.1,h.2.2,rfl,by simp;omega⟩
theorem zDC (kp:Nat) (en:Int) (B:List Wlx.TV->PR) (n:Nat) (HS:Vp kp en 221 B n) (aE:∀ ts row r,B ts=.inl (row,r)->r <:+ ts) (ts:List Wlx.TV) (w:wW) (h:PSt w kp ts en) (hn:ts.length<=n) (aF:ts.length<=1024) (aB:∀ t ∈ ts,Qd t) (hE:Env w) (ag:8<=kp) :
  Calls prog 201 #[pX (some ⟨kp,0,none⟩)] w λe w'=>QT kp en (ppc B ts) w e w':=by
 have I:=QJ (bZ _ w) (Z zP0 151);have pZ:AtL (w.alloc (Z zP0 151)) w.heap.size (QK (bare 0) (U none 0 0)):=AtL.new0 w _ _;have h0:=h.below I;have P:=hE.below I;have aQ:=h.lt;unfold ppc;cases hs:B ts with
 | inr q =>
  obtain ⟨c,p⟩:=q;simp only [QT];go_enter func201,ntmps201;go_wp2_with fail
  generalize w.alloc (Z zP0 151)=wa at *;refine (HS ts _ h0 hn aF aB P).mono ?_;rintro e i F;rw [hs] at F;simp only [QT] at F;obtain ⟨rfl,hg⟩:=F;unfold JY;go_wp2;exact ⟨rfl,rfl,QD (QE I (some kp)) hg⟩
 | inl q =>
  obtain ⟨row,r1⟩:=q;have a0:=(aE _ _ _ hs).length_le;simp only;obtain ⟨R,hR⟩:=xV (pct r1.length row r1)
  rw [hR];go_enter func201,ntmps201;go_wp2_with fail
  generalize w.alloc (Z zP0 151)=wa at *;refine (HS ts _ h0 hn aF aB P).mono ?_;rintro e i F;rw [hs] at F;simp only [QT] at F;obtain ⟨v,rfl,hP,h1,hg⟩:=F;have a7:=pZ.lt;have ao:=pZ.grown hg (by intro e;have:=Option.some.inj e;omega);have ax:=QD (QE I (some kp)) hg;have ar:=P.grown hg ag;obtain ⟨H,x,sl,rfl,hp⟩:=hP;obtain ⟨d,len,cap,rfl⟩:=hp.one;clear pZ h0 I P hg;unfold ptV;have al:AtL (i.alloc (Z zP0 151)) i.heap.size (QK (bare 0) (U none 0 0)):=AtL.new0 i _ _;have aa:cZ (i.alloc (Z zP0 151)) i.heap.size 0 (QK x (U d len cap)).toArray.size:=al.there;go_upto_region 2 with ((with_reducible refine wpList_store_mid ?_ 151 (mX 3) (mX 7) ?_ (i.heap.size) 0 (QK x (U d len cap)).toArray ?_ ?_ ?_ ?_ ?_ ?_);rfl;rfl;rfl;rfl;exact aa;kernel_rfl;exact Qs _ _ rfl)
  have D:=Qm (QJ (bZ _ i) (Z zP0 151)) (dZ i.heap.size) (QK x (U d len cap)) 0;have pXpX0:AtL ((i.alloc (Z zP0 151)).setCells i.heap.size 0 (QK x (U d len cap))) i.heap.size (QK x (U d len cap)):=al.setAll rfl;have aL:=AtL.below D ao;have j:=h1.below D;have ad:=ar.below D;have ay:=QD ax (QE D (some kp));have aC:PtIs i (λb=>w.heap.size+1<=b/\b ≠ i.heap.size) H x (U d len cap) row:=PtIs.inside (λb L hl=>⟨by have aY:wa.heap.size<=b:=L;omega,oM⟩) H hp;have aD:=PtIs.keep (λk _ j=>D.block k j) H aC;have aR:kp<i.heap.size:=h1.lt;have a8:=ao.lt;clear al aa D ao h1 ar ax hp aC;generalize (i.alloc (Z zP0 151)).setCells i.heap.size 0 (QK x (U d len cap))=w2 at *;generalize i.heap.size=f at *;have T1:=zAJ kp r1 en 6 w2 j oM ad.1;go_wp2_with fail
  refine T1.mono ?_;rintro e w3 F;obtain ⟨o,m,t,q,C,rfl,h3,y,hq,ai⟩:=zFH row F;rw [hR] at hq;have E0:=hid hq;have s:=QJ (bZ _ w3) (Z #[O J o,V ⟨m.toArray⟩,O J t] 223);have aT:=pXpX0.lt;have a2:=y.size;have A1:=hid (AtL.new0 w3 223 [O J o,V ⟨m.toArray⟩,O J t]);have W:=hid (AtL.below s (pXpX0.grown y (by intro e;have:=Option.some.inj e;omega)));have X:=hid (AtL.below s (aL.grown y (by intro e;have:=Option.some.inj e;omega)));have A4:=hid (PtIs.keep (λk _ j=>s.block k j) H (PtIs.keep (λk hk j=>y.block k j (by intro e;have:=Option.some.inj e;have:=hk.1;omega)) H aD));have A5:=h3.below s;have A6:=hid (QD (QD ay y) (QE s (some kp)));have A7:=(ad.grown y ag).below s;have ah:f<w3.heap.size:=oM;clear F hq T1 s pXpX0 aL j ad ay aD h3 y hR;go_wp2_with fail
  go_loopg [4,5] (C.length+(if q then 1 else 0)) (λgk a b wr=>∃ (ko:Nat) (o:Int) (m:List UInt8) (t:Int) (q:Bool) (H:Nat) (x:Wt.Nd) (d:Option Addr) (len cap:Nat) (row:List Wt.Nd) (C:List Wlx.TV),a=pX (some ⟨ko,0,none⟩)/\b=Y q/\gk=C.length+(if q then 1 else 0)/\C.length+(if q then 1 else 0)<=r1.length/\C.length<=1024/\f<ko/\Hid (R=if q then pct C.length (opN (Qz t) o::row) C else .inl (row,C))/\Hid (AtL wr ko [O J o,V ⟨m.toArray⟩,O J t])/\Hid (AtL wr f (QK x (U d len cap)))/\Hid (AtL wr w.heap.size (QK (bare 0) (U none 0 0)))/\Hid (PtIs wr (λb=>w.heap.size+1<=b/\b ≠ f) H x (U d len cap) row)/\PSt wr kp C en/\Hid (w.grownBy wr (some kp))/\Env wr)
  case atStart=>exact ⟨w3.heap.size,o,m,t,q,H,x,d,len,cap,row,C,rfl,rfl,rfl,ai,oM,ah,E0,A1,W,X,A4,A5,A6,A7⟩
  case round =>
   clear A1 W X A4 A5 A6 A7 E0 ah;obtain ⟨ko,o,m,t,q,H,x,d,len,cap,row,C,rfl,rfl,aP,ai,aS,ah,E,A1,W,X,A4,h5,A6,au⟩:=hrel;cases q
   ·have hR:=hid E.out;have g:=W.out.range;have S:cZ wr w.heap.size 0 (QK x (U d len cap)).toArray.size:=X.out.there;clear E;go_wp2_with (first | ((with_reducible refine wpList_load_mid (cs:=QK x (U d len cap)) ?_ 151 (mX 3) ?_ f 0 ?_ _ ?_ underlying151 ?_ ?_ ?_);rfl;rfl;rfl;exact g;rfl;kernel_rfl) | ((with_reducible refine wpList_store_mid ?_ 151 (mX 2) (mX 24) ?_ (w.heap.size) 0 (QK x (U d len cap)).toArray ?_ ?_ ?_ ?_ ?_ ?_);rfl;rfl;rfl;rfl;exact S;kernel_rfl;exact Qs _ _ rfl))
    have aq:AtL (wr.setCells w.heap.size 0 (QK x (U d len cap))) w.heap.size (QK x (U d len cap)):=X.out.setAll rfl;refine bodyPost_ret (QQ rfl _ _ w.heap.size (QK x (U d len cap)) _ rfl aq.range underlying151 rfl kR) rfl ?_;rw [hR.out];simp only [QT];refine ⟨_,rfl,?_,h5.farAll aQ _ 0,QR A6.out (dZ _) _ 0⟩;exact (Pt.far (show Pt wr (w.heap.size+1) (ptV x (U d len cap)) row from ⟨H,x,_,rfl,PtIs.mono (λb L=>L.1) H A4.out⟩) (oZ _) 0 _).mono (Nat.le_succ _)
   ·have aW:C.length+1<=r1.length:=by simpa using ai
    have g:=W.out.range;obtain ⟨c0,c1,c2⟩:=A1.out.f3;have aT:=W.out.lt;have a5:=X.out.lt;have a1:=A1.out.lt;go_wp2_with (first | ((with_reducible refine wpList_load_mid (cs:=QK x (U d len cap)) ?_ 151 (mX 3) ?_ f 0 ?_ _ ?_ underlying151 ?_ ?_ ?_);rfl;rfl;rfl;exact g;rfl;kernel_rfl) | ((with_reducible refine zAx ?_ (mX 20) ?_ x d len cap ?_ ?_);rfl;rfl;rfl))
    have af:=QJ (bZ _ wr) (Z (QK x (U d len cap)).toArray 151);have pB:=AtL.new0 wr 151 (QK x (U d len cap));refine (zAG o ⟨m.toArray⟩ t (some ⟨wr.heap.size,0,none⟩) 1 1 _).mono ?_;rintro e w6 ⟨rfl,L⟩;have u:=QA af L;have aG:=PtIs.un (G:=λb=>w.heap.size+1<=b/\b ≠ f) (z:=opN (Qz t) o) (PtIs.keep (λk _ j=>af.block k j) H A4.out) (⟨oM,oM⟩:w.heap.size+1<=wr.heap.size/\wr.heap.size ≠ f) pB.range;have ab:=PtIs.keep (λk _ j=>L.block k j) _ aG;have aJ:=AtL.below u A1.out;have am:=AtL.below u W.out;have aM:=AtL.below u X.out;have h6:=h5.below u;have aw:=au.below u;have az:=QD A6.out (QE u (some kp));have S:cZ w6 f 0 (QK (opN (Qz t) o) (U (some ⟨wr.heap.size,0,none⟩) 1 1)).toArray.size:=am.there;clear af pB L u aG A1 W X A4 h5 au A6 g c0 c1 c2;unfold ptV;go_upto_region 6 with ((with_reducible refine wpList_store_mid ?_ 151 (mX 3) (mX 22) ?_ (f) 0 (QK (opN (Qz t) o) (U (some ⟨wr.heap.size,0,none⟩) 1 1)).toArray ?_ ?_ ?_ ?_ ?_ ?_);rfl;rfl;rfl;rfl;exact S;kernel_rfl;exact Qs _ _ rfl)
    have an:AtL (w6.setCells f 0 (QK (opN (Qz t) o) (U (some ⟨wr.heap.size,0,none⟩) 1 1))) f (QK (opN (Qz t) o) (U (some ⟨wr.heap.size,0,none⟩) 1 1)):=am.setAll rfl;have aK:=aJ.farAll (b:=f) oM 0 (QK (opN (Qz t) o) (U (some ⟨wr.heap.size,0,none⟩) 1 1));have ap:=aM.farAll (b:=f) oM 0 (QK (opN (Qz t) o) (U (some ⟨wr.heap.size,0,none⟩) 1 1));have ac:=PtIs.keep (w':=w6.setCells f 0 (QK (opN (Qz t) o) (U (some ⟨wr.heap.size,0,none⟩) 1 1))) (λk hk _=>zAA f k hk.2 _ 0 w6) _ ab;have h7:=h6.farAll aR (QK (opN (Qz t) o) (U (some ⟨wr.heap.size,0,none⟩) 1 1)) 0;have aA:=QR az (b:=f) oM (QK (opN (Qz t) o) (U (some ⟨wr.heap.size,0,none⟩) 1 1)) 0;have ae:=aw.grown (zAW w6 f (QK (opN (Qz t) o) (U (some ⟨wr.heap.size,0,none⟩) 1 1)) 0) oM;have a3:=hid (zAF f (QK (opN (Qz t) o) (U (some ⟨wr.heap.size,0,none⟩) 1 1)) 0 w6);clear am aJ aM ab h6 az aw S;generalize w6.setCells f 0 (QK (opN (Qz t) o) (U (some ⟨wr.heap.size,0,none⟩) 1 1))=T at *;obtain ⟨c0,c1,c2⟩:=aK.f3;have l:=QJ (bZ _ T) (Z #[O J o,V ⟨m.toArray⟩,O J t] 223);have T8:=zAJ kp C en 6 _ (h7.below l) aS (ae.below l).1;go_wp2_with fail
    refine T8.mono ?_;rintro e w8 F;obtain ⟨o',m',t',q',N,rfl,h9,A,hq,aX⟩:=zFH (opN (Qz t) o::row) F;have a4:=an.lt;have a6:=ap.lt;have aZ:=h7.lt;have E9:Hid (R=if q' then pct N.length (opN (Qz t') o'::opN (Qz t) o::row) N else .inl (opN (Qz t) o::row,N)):=by
     show _=_
     rw [<-hq];exact E.out
    have aI:=(AtL.new0 T 223 [O J o,V ⟨m.toArray⟩,O J t]).grown A (by intro e;have:=Option.some.inj e;omega);have aU:=(AtL.below l an).grown A (by intro e;have:=Option.some.inj e;omega);have aq:=(AtL.below l ap).grown A (by intro e;have:=Option.some.inj e;omega);have M:=PtIs.inside (G':=λb=>(w.heap.size+1<=b/\b ≠ f)/\b ≠ T.heap.size) (λb L hl=>⟨L,oM⟩) _ ac;have aH:=PtIs.keep (λk hk j=>A.block k j (by intro e;have:=Option.some.inj e;have:=hk.1.1;omega)) _ (PtIs.keep (λk _ j=>l.block k j) _ M);have aO:=QD (QD aA (QE l (some kp))) A;have aN:=(ae.below l).grown A ag;clear F hq T8 l an aK ap ac M h7 aA ae A c0 c1 c2 E;obtain ⟨c0,c1,c2,f0,f1,f2⟩:=aI.three;have ak:w.heap.size<=T.heap.size:=oM;have aj:=λa b c=>PtIs.mono (G':=λb=>w.heap.size+1<=b/\b ≠ f) (λb L=>L.1) _ (PtIs.keep (w':=((w8.setCell ⟨T.heap.size,0,none⟩ a).setCell ⟨T.heap.size,1,none⟩ b).setCell ⟨T.heap.size,2,none⟩ c) (λk hk j=>zC4 hk.2 a b c) _ aH)
    go_wp2_with fail
    go_roundg (N.length+(if q' then 1 else 0))
    case rel =>
     have B1:=AtL.put3 aI (O J o') (V ⟨m'.toArray⟩) (O J t');exact ⟨T.heap.size,o',m',t',q',_,_,_,_,_,_,N,rfl,rfl,rfl,oM,oM,oM,E9,B1,aU.far3 oM _ _ _,aq.far3 oM _ _ _,aj _ _ _,((h9.far oM _ _).far oM _ _).far oM _ _,QW (QW (QW aO ak _ _) ak _ _) ak _ _,aN.grown (zA9 w8 T.heap.size _ _ _) oM⟩
    case measure =>
     have aV:gk=C.length+1:=aP;omega
def nxt (sub:List Wlx.TV->PR) (k:Nat) (o t:Int) (row:List Wt.Nd) (c:List Wlx.TV):PR:=match sub c with
 | .inr e=>.inr e
 | .inl (row2,r2)=>more sub k r2.length (opN (Qz t) o::(row++row2)) r2
theorem zGy (c:∀ ts row r,sub ts=.inl (row,r)->r <:+ ts) (k:Int):∀ (n m:Nat) (row:List Wt.Nd) (ts:List Wlx.TV),ts.length<=n->ts.length<=m->more sub k n row ts=more sub k m row ts:=by
 intro n;induction n with
 | zero =>
  intro m row ts d f;obtain rfl:=gZ (Nat.le_zero.1 d);cases m <;> rfl
 | succ n j =>
  intro m row ts d f;cases m with
  | zero =>
   obtain rfl:=gZ (Nat.le_zero.1 f);rfl
  | succ m =>
   simp only [more];cases h:Jc k ts with
   | none=>rfl
   | some q =>
    obtain ⟨o,r⟩:=q;simp only;have l:=(Qu h).2;cases i:sub r with
    | inr e=>rfl
    | inl q =>
     obtain ⟨g,p⟩:=q;simp only;have:=(c _ _ _ i).length_le;exact j m _ _ oM oM
theorem zBq {kp:Nat} (c:∀ ts row r,sub ts=.inl (row,r)->r <:+ ts) (row:List Wt.Nd) (h:JT kp en us0 (Jc k us0) w e w'):∃ (o:Int) (m:List UInt8) (t:Int) (q:Bool) (f:List Wlx.TV),e=rX (uX #[gX #[O J o,V ⟨m.toArray⟩,O J t],Y q])/\PSt w' kp f en/\w.grownBy w' (some kp)/\more sub k us0.length row us0=(if q then nxt sub k o t row f else .inl (row,f))/\f.length+(if q then 1 else 0)<=us0.length/\f <:+ us0:=by
 cases d:Jc k us0 with
 | none =>
  rw [d] at h;simp only [JT] at h;refine ⟨0,[],0,false,us0,h.1,h.2.1,h.2.2,?_,sM,eZ _⟩;cases us0 with
  | nil=>rfl
  | cons a b=>show more sub k (b.length+1) row (a::b)=_;simp only [more,d];rfl
 | some z =>
  obtain ⟨⟨o,m,t⟩,r⟩:=z;rw [d] at h;simp only [JT] at h;obtain ⟨l,s⟩:=Qu d;refine ⟨o,m,t,true,r,h.1,h.2.1,h.2.2,?_,by simp;omega,l⟩;obtain ⟨n,i⟩:∃ n,us0.length=n+1:=⟨us0.length - 1,oM⟩
  rw [i];simp only [more,d,nxt,if_true];cases j:sub r with
  | inr e=>rfl
  | inl q =>
   obtain ⟨g,p⟩:=q;simp only;have:=(c _ _ _ j).length_le;exact zGy c _ _ _ _ _ oM (dZ _)
def pbt (sub:List Wlx.TV->PR) (k:Nat) (ts:List Wlx.TV):PR:=match sub ts with
 | .inr e=>.inr e
 | .inl (row,r)=>more sub k r.length row r
theorem zEy (kp:Nat) (en:Int) (k:Nat) (bj:k<5) (sub:List Wlx.TV->PR) (n:Nat) (HB:zLu kp en (k+1) sub n) (af:∀ ts row r,sub ts=.inl (row,r)->r <:+ ts) (ts:List Wlx.TV) (w:wW) (h:PSt w kp ts en) (hn:ts.length<=n) (a6:ts.length<=1024) (aQ:∀ t ∈ ts,Qd t) (hE:Env w) (aq:8<=kp) :
  Calls prog 147 #[pX (some ⟨kp,0,none⟩),O J k] w λe w'=>QT kp en (pbt sub k ts) w e w':=by
 have ar:=QJ (bZ _ w) (Z zP0 151);have N:AtL (w.alloc (Z zP0 151)) w.heap.size (QK (bare 0) (U none 0 0)):=AtL.new0 w _ _;have h0:=h.below ar;have aE:=hE.below ar;have ba:=h.lt;have bk:((k:Int) == 5)=false:=by rw [beq_eq_false_iff_ne];omega
 have bo:J.wrap ((k:Int)+1)=(k:Int)+1:=IntWalk.i64_in _ oM;have HB:∀ (ts:List Wlx.TV) (w:wW),PSt w kp ts en->ts.length<=n->ts.length<=1024->(∀ t ∈ ts,Qd t)->Env w->Calls prog 147 #[pX (some ⟨kp,0,none⟩),O J ((k:Int)+1)] w λe w'=>QT kp en (sub ts) w e w':=HB
 unfold pbt;cases hs:sub ts with
 | inr q =>
  obtain ⟨c,p⟩:=q;simp only [QT];go_enter func147,ntmps147;go_wp2_with fail
  generalize w.alloc (Z zP0 151)=wa at *;refine (HB ts _ h0 hn a6 aQ aE).mono ?_;rintro e w1 D;rw [hs] at D;simp only [QT] at D;obtain ⟨rfl,M⟩:=D;unfold JY;go_wp2;exact ⟨rfl,rfl,QD (QE ar (some kp)) M⟩
 | inl q =>
  obtain ⟨row,r1⟩:=q;have aJ:=af _ _ _ hs;have bl:=aJ.length_le;simp only;obtain ⟨R,hR⟩:=xV (more sub k r1.length row r1)
  rw [hR];go_enter func147,ntmps147;go_wp2_with fail
  generalize w.alloc (Z zP0 151)=wa at *;refine (HB ts _ h0 hn a6 aQ aE).mono ?_;rintro e w1 D;rw [hs] at D;simp only [QT] at D;obtain ⟨v,rfl,hP,h1,M⟩:=D;have bp:=N.lt;have aW:=N.grown M (by intro e;have:=Option.some.inj e;omega);have aY:=QD (QE ar (some kp)) M;have aX:=aE.grown M aq;obtain ⟨nn,x,sl,rfl,hp⟩:=hP;obtain ⟨L,len,cap,rfl⟩:=hp.one;clear N h0 ar aE M;unfold ptV;have aU:AtL (w1.alloc (Z zP0 151)) w1.heap.size (QK (bare 0) (U none 0 0)):=AtL.new0 w1 _ _;have aK:cZ (w1.alloc (Z zP0 151)) w1.heap.size 0 (QK x (U L len cap)).toArray.size:=aU.there;go_upto_region 4 with ((with_reducible refine wpList_store_mid ?_ 151 (mX 5) (mX 15) ?_ (w1.heap.size) 0 (QK x (U L len cap)).toArray ?_ ?_ ?_ ?_ ?_ ?_);rfl;rfl;rfl;rfl;exact aK;kernel_rfl;exact Qs _ _ rfl)
  have ap:=Qm (QJ (bZ _ w1) (Z zP0 151)) (dZ w1.heap.size) (QK x (U L len cap)) 0;have pXpX0:AtL ((w1.alloc (Z zP0 151)).setCells w1.heap.size 0 (QK x (U L len cap))) w1.heap.size (QK x (U L len cap)):=aU.setAll rfl;have a8:=AtL.below ap aW;have l:=h1.below ap;have aL:=aX.below ap;have aZ:=QD aY (QE ap (some kp));have a5:PtIs w1 (λb=>w.heap.size+1<=b/\b ≠ w1.heap.size) nn x (U L len cap) row:=PtIs.inside (λb u hl=>⟨by have aF:wa.heap.size<=b:=u;omega,oM⟩) nn hp;have W:=PtIs.keep (λk _ l=>ap.block k l) nn a5;have a2:kp<w1.heap.size:=h1.lt;have bq:=aW.lt;clear aU aK ap aW h1 aX aY hp a5;generalize (w1.alloc (Z zP0 151)).setCells w1.heap.size 0 (QK x (U L len cap))=w2 at *;generalize w1.heap.size=s at *;have T1:=zAJ kp r1 en k w2 l oM aL.1;go_wp2_with fail
  refine T1.mono ?_;rintro e i D;obtain ⟨o,m,t,q,X,rfl,h3,ai,hq,aP,aH⟩:=zBq af row D;rw [hR] at hq;have E0:=hid hq;have f:=QJ (bZ _ i) (Z #[O J o,V ⟨m.toArray⟩,O J t] 223);have aT:=pXpX0.lt;have bn:=ai.size;have A1:=hid (AtL.new0 i 223 [O J o,V ⟨m.toArray⟩,O J t]);have A2:=hid (AtL.below f (pXpX0.grown ai (by intro e;have:=Option.some.inj e;omega)));have A3:=hid (AtL.below f (a8.grown ai (by intro e;have:=Option.some.inj e;omega)));have A4:=hid (PtIs.keep (λk _ l=>f.block k l) nn (PtIs.keep (λk hk l=>ai.block k l (by intro e;have:=Option.some.inj e;have:=hk.1;omega)) nn W));have A5:=h3.below f;have A6:=hid (QD (QD aZ ai) (QE f (some kp)));have A7:=(aL.grown ai aq).below f;have aO:s<i.heap.size:=oM;have aI:=hid aH;clear D hq T1 f pXpX0 a8 l aL aZ W h3 ai hR hs;go_wp2_with fail
  go_loopg [6,7] (X.length+(if q then 1 else 0)) (λgk a b wr=>∃ (ko:Nat) (o:Int) (m:List UInt8) (t:Int) (q:Bool) (nn:Nat) (x:Wt.Nd) (L:Option Addr) (len cap:Nat) (row:List Wt.Nd) (X:List Wlx.TV),a=pX (some ⟨ko,0,none⟩)/\b=Y q/\gk=X.length+(if q then 1 else 0)/\X.length+(if q then 1 else 0)<=r1.length/\X.length<=1024/\s<ko/\Hid (X <:+ r1)/\Hid (R=if q then nxt sub k o t row X else .inl (row,X))/\Hid (AtL wr ko [O J o,V ⟨m.toArray⟩,O J t])/\Hid (AtL wr s (QK x (U L len cap)))/\Hid (AtL wr w.heap.size (QK (bare 0) (U none 0 0)))/\Hid (PtIs wr (λb=>w.heap.size+1<=b/\b ≠ s) nn x (U L len cap) row)/\PSt wr kp X en/\Hid (w.grownBy wr (some kp))/\Env wr)
  case atStart=>exact ⟨i.heap.size,o,m,t,q,nn,x,L,len,cap,row,X,rfl,rfl,rfl,aP,oM,aO,aI,E0,A1,A2,A3,A4,A5,A6,A7⟩
  case round =>
   clear A1 A2 A3 A4 A5 A6 A7 E0 aO aI aH;obtain ⟨ko,o,m,t,q,nn,x,L,len,cap,row,X,rfl,rfl,a0,aP,aG,aO,aS,E,A1,A2,A3,A4,h5,A6,g⟩:=hrel;cases q
   ·have hR:=hid E.out;have j:=A2.out.range;have bc:cZ wr w.heap.size 0 (QK x (U L len cap)).toArray.size:=A3.out.there;clear E;go_wp2_with (first | ((with_reducible refine wpList_load_mid (cs:=QK x (U L len cap)) ?_ 151 (mX 5) ?_ s 0 ?_ _ ?_ underlying151 ?_ ?_ ?_);rfl;rfl;rfl;exact j;rfl;kernel_rfl) | ((with_reducible refine wpList_store_mid ?_ 151 (mX 4) (mX 38) ?_ (w.heap.size) 0 (QK x (U L len cap)).toArray ?_ ?_ ?_ ?_ ?_ ?_);rfl;rfl;rfl;rfl;exact bc;kernel_rfl;exact Qs _ _ rfl))
    have aB:AtL (wr.setCells w.heap.size 0 (QK x (U L len cap))) w.heap.size (QK x (U L len cap)):=A3.out.setAll rfl;refine bodyPost_ret (QQ rfl _ _ w.heap.size (QK x (U L len cap)) _ rfl aB.range underlying151 rfl kR) rfl ?_;rw [hR.out];simp only [QT];refine ⟨_,rfl,?_,h5.farAll ba _ 0,QR A6.out (dZ _) _ 0⟩;exact (Pt.far (show Pt wr (w.heap.size+1) (ptV x (U L len cap)) row from ⟨nn,x,_,rfl,PtIs.mono (λb u=>u.1) nn A4.out⟩) (oZ _) 0 _).mono (Nat.le_succ _)
   ·have bi:X.length+1<=r1.length:=by simpa using aP
    have ao:∀ t ∈ X,Qd t:=λt ht=>aQ t (aJ.subset (aS.out.subset ht))
    have aT:=A2.out.lt;have a7:=A3.out.lt;have a4:=A1.out.lt;cases hs:sub X with
    | inr q2 =>
     obtain ⟨c,p⟩:=q2;have ER:Hid (R=.inr (c,p)):=by show _=_;rw [E.out];simp only [if_true,nxt,hs]
     clear E;go_upto_region 7 with fail
     obtain ⟨wd,T⟩:∃ wd,wd=wr.drew:=⟨_,rfl⟩
     have B:bL wr wd:=by rw [T];exact (bZ _ _).drew
     have bb:wd.heap.size=wr.heap.size:=by rw [T];rfl
     have H:=AtL.below B A1.out;have pXpX0:=AtL.below B A2.out;have N:=AtL.below B A3.out;have ac:=PtIs.keep (λk _ l=>B.block k l) nn A4.out;have hG:=QD A6.out (QE B (some kp));replace h5:=h5.below B
     replace g:=g.below B
     have j:=pXpX0.range;have aT:=pXpX0.lt;have a7:=N.lt;have a4:=H.lt;refine wp_region_held_drew (S:=OpS ko 0 o ⟨m.toArray⟩ t) kR (by rw [<-T];exact Qq H) (λd=>?_);rw [<-T] at d ⊢;clear T B A1 A2 A3 A4 A6;refine tkQ 0 ?_
     refine tkQ 2 ?_
     refine tkQ 3 ?_
     refine tkQ 4 ?_
     refine wpAnyH_ready (rs:=[1,5]) kR sM ?_;refine AllReadyH.cons (atQ rfl) (λK C=>?_) (AllReadyH.cons (atQ rfl) (λK C=>?_) AllReadyH.nil)
     ·refine wp_load_mid 151 (mX 5) rfl s 0 rfl (QK x (U L len cap)) _ j underlying151 rfl kR ?_;refine hkQ C (Qq H) (λd=>?_);clear C K
      refine rdQ 5 (λK C=>?_);go_simp
      refine (HB X wd h5 oM aG ao g).mono ?_;rintro e i D;rw [hs] at D;simp only [QT] at D;obtain ⟨rfl,M⟩:=D;unfold JY;go_wp2;refine ⟨rfl,?_⟩;rw [ER.out];exact ⟨rfl,QD hG M⟩
     ·go_simp
      refine (HB X wd h5 oM aG ao g).mono ?_;rintro e i D;rw [hs] at D;simp only [QT] at D;obtain ⟨rfl,M⟩:=D;unfold JY;go_wp2;refine ⟨rfl,?_⟩;rw [ER.out];exact ⟨rfl,QD hG M⟩
    | inl q2 =>
     obtain ⟨I,r2⟩:=q2;have ax:=af _ _ _ hs;have bm:=ax.length_le;have ER:Hid (R=more sub k r2.length (opN (Qz t) o::(row++I)) r2):=by show _=_;rw [E.out];simp only [if_true,nxt,hs]
     clear E;go_upto_region 7 with fail
     obtain ⟨wd,T⟩:∃ wd,wd=wr.drew:=⟨_,rfl⟩
     have B:bL wr wd:=by rw [T];exact (bZ _ _).drew
     have bb:wd.heap.size=wr.heap.size:=by rw [T];rfl
     have H:=AtL.below B A1.out;have pXpX0:=AtL.below B A2.out;have N:=AtL.below B A3.out;have ac:=PtIs.keep (λk _ l=>B.block k l) nn A4.out;have hG:=QD A6.out (QE B (some kp));replace h5:=h5.below B
     replace g:=g.below B
     have j:=pXpX0.range;have aT:=pXpX0.lt;have a7:=N.lt;have a4:=H.lt;refine wp_region_held_drew (S:=OpS ko 0 o ⟨m.toArray⟩ t) kR (by rw [<-T];exact Qq H) (λd=>?_);rw [<-T] at d ⊢;clear T B A1 A2 A3 A4 A6;refine tkQ 0 ?_
     refine tkQ 2 ?_
     refine tkQ 3 ?_
     refine tkQ 4 ?_
     refine wpAnyH_ready (rs:=[1,5]) kR sM ?_;refine AllReadyH.cons (atQ rfl) (λK C=>?_) (AllReadyH.cons (atQ rfl) (λK C=>?_) AllReadyH.nil)
     ·refine wp_load_mid 151 (mX 5) rfl s 0 rfl (QK x (U L len cap)) _ j underlying151 rfl kR ?_;refine hkQ C (Qq H) (λd=>?_);clear C K
      refine rdQ 5 (λK C=>?_);go_simp
      refine (HB X wd h5 oM aG ao g).mono ?_;rintro e i D;rw [hs] at D;simp only [QT] at D;obtain ⟨v,rfl,hP,h3,M⟩:=D;obtain ⟨n2,y,bh,rfl,W⟩:=hP;obtain ⟨bv,ab,aa,rfl⟩:=W.one;unfold ptV;go_wp2_with fail
      replace H:=H.grown M (by intro e;have:=Option.some.inj e;omega)
      replace pXpX0:=pXpX0.grown M (by intro e;have:=Option.some.inj e;omega)
      replace N:=N.grown M (by intro e;have:=Option.some.inj e;omega)
      replace ac:=PtIs.keep (λk hk l=>M.block k l (by intro e;have:=Option.some.inj e;have:=hk.1;omega)) nn ac
      have aw:PtIs i (λb=>w.heap.size+1<=b/\b ≠ s) n2 y (U bv ab aa) I:=PtIs.mono (λb u=>⟨by have aF:wd.heap.size<=b:=u;omega,by have aF:wd.heap.size<=b:=u;omega⟩) n2 W;replace hG:=QD hG M
      replace g:=g.grown M aq
      refine hkQ C (Qq H) (λd=>?_);clear C K M W h5
      refine rdQ 6 (λK C=>?_);refine zM9 (mX 30) (mX 34) rfl x L len cap y bv ab aa rfl rfl ?_;have f:=QJ (bZ _ i) (Z (QK x (U L len cap)++QK y (U bv ab aa)).toArray 151);obtain ⟨aC,aD⟩:=zDF i 151 (QK x (U L len cap)) (QK y (U bv ab aa));have bd:=pXpX0.lt;have bf:=N.lt;have ad:=PtIs.bin (G:=λb=>w.heap.size+1<=b/\b ≠ s) (z:=opN (Qz t) o) (PtIs.keep (λk _ l=>f.block k l) nn ac) (PtIs.keep (λk _ l=>f.block k l) n2 aw) (⟨oM,oM⟩:w.heap.size+1<=i.heap.size/\i.heap.size ≠ s) aC aD;replace h3:=h3.below f
      replace H:=AtL.below f H
      replace pXpX0:=AtL.below f pXpX0
      replace N:=AtL.below f N
      replace hG:=QD hG (QE f (some kp))
      replace g:=g.below f
      refine hkQ C (Qq H) (λd=>?_);clear C K f aC aD ac aw
      refine rdQ 7 (λK C=>?_);go_simp
      refine (zAG o ⟨m.toArray⟩ t (some ⟨i.heap.size,0,none⟩) 2 2 _).mono ?_;rintro e w6 ⟨rfl,u⟩;replace h3:=h3.below u
      replace H:=AtL.below u H
      replace pXpX0:=AtL.below u pXpX0
      replace N:=AtL.below u N
      replace hG:=QD hG (QE u (some kp))
      replace g:=g.below u
      replace ad:=PtIs.keep (λk _ l=>u.block k l) _ ad
      clear u;go_wp2_with fail
      refine hkQ C (Qq H) (λd=>?_);clear C K
      refine rdQ 8 (λK C=>?_);unfold ptV;refine wp_store_mid 151 (mX 5) (mX 36) rfl s 0 (QK (opN (Qz t) o) (U (some ⟨i.heap.size,0,none⟩) 2 2)).toArray rfl rfl pXpX0.there kR (Qs _ _ rfl) ?_;have am:AtL (w6.setCells s 0 (QK (opN (Qz t) o) (U (some ⟨i.heap.size,0,none⟩) 2 2))) s (QK (opN (Qz t) o) (U (some ⟨i.heap.size,0,none⟩) 2 2)):=pXpX0.setAll rfl;have al:=H.farAll (b:=s) oM 0 (QK (opN (Qz t) o) (U (some ⟨i.heap.size,0,none⟩) 2 2));have an:=N.farAll (b:=s) oM 0 (QK (opN (Qz t) o) (U (some ⟨i.heap.size,0,none⟩) 2 2));have ag:=PtIs.keep (w':=w6.setCells s 0 (QK (opN (Qz t) o) (U (some ⟨i.heap.size,0,none⟩) 2 2))) (λk hk _=>zAA s k hk.2 _ 0 w6) _ ad;have h7:=h3.farAll a2 (QK (opN (Qz t) o) (U (some ⟨i.heap.size,0,none⟩) 2 2)) 0;have au:=QR hG (b:=s) oM (QK (opN (Qz t) o) (U (some ⟨i.heap.size,0,none⟩) 2 2)) 0;have ah:=g.grown (zAW w6 s (QK (opN (Qz t) o) (U (some ⟨i.heap.size,0,none⟩) 2 2)) 0) oM;refine C.out _ _ (Qq al) (λd=>?_);clear C K pXpX0 H N ad h3 hG g j;try simp only [Act.put]
      refine wpAnyH_done kR ?_ _;generalize w6.setCells s 0 (QK (opN (Qz t) o) (U (some ⟨i.heap.size,0,none⟩) 2 2))=w7 at *;obtain ⟨c0,c1,c2⟩:=al.f3;have A:=QJ (bZ _ w7) (Z #[O J o,V ⟨m.toArray⟩,O J t] 223);have T8:=zAJ kp r2 en k _ (h7.below A) oM (ah.below A).1;go_wp2_with fail
      refine T8.mono ?_;rintro e w8 D;obtain ⟨o',m',t',q',ae,rfl,h9,F,hq,a3,aR⟩:=zBq af (opN (Qz t) o::(row++I)) D;have be:=am.lt;have bg:=an.lt;have a9:=h7.lt;have E9:Hid (R=if q' then nxt sub k o' t' (opN (Qz t) o::(row++I)) ae else .inl (opN (Qz t) o::(row++I),ae)):=by
       show _=_
       rw [<-hq];exact ER.out
      have ay:=hid ((aR.trans ax).trans aS.out);have aA:=(AtL.new0 w7 223 [O J o,V ⟨m.toArray⟩,O J t]).grown F (by intro e;have:=Option.some.inj e;omega);have aV:=(AtL.below A am).grown F (by intro e;have:=Option.some.inj e;omega);have aB:=(AtL.below A an).grown F (by intro e;have:=Option.some.inj e;omega);have P:=PtIs.inside (G':=λb=>(w.heap.size+1<=b/\b ≠ s)/\b ≠ w7.heap.size) (λb u hl=>⟨u,oM⟩) _ ag;have az:=PtIs.keep (λk hk l=>F.block k l (by intro e;have:=Option.some.inj e;have:=hk.1.1;omega)) _ (PtIs.keep (λk _ l=>A.block k l) _ P);have aN:=QD (QD au (QE A (some kp))) F;have aM:=(ah.below A).grown F aq;clear D hq T8 A am al an ag P h7 au ah F c0 c1 c2 ER;obtain ⟨c0,c1,c2,f0,f1,f2⟩:=aA.three;have ak:w.heap.size<=w7.heap.size:=oM;have aj:=λa b c=>PtIs.mono (G':=λb=>w.heap.size+1<=b/\b ≠ s) (λb u=>u.1) _ (PtIs.keep (w':=((w8.setCell ⟨w7.heap.size,0,none⟩ a).setCell ⟨w7.heap.size,1,none⟩ b).setCell ⟨w7.heap.size,2,none⟩ c) (λk hk l=>zC4 hk.2 a b c) _ az)
      go_wp2_with fail
      go_roundg (ae.length+(if q' then 1 else 0))
      case rel =>
       have B1:=AtL.put3 aA (O J o') (V ⟨m'.toArray⟩) (O J t');exact ⟨w7.heap.size,o',m',t',q',_,_,_,_,_,_,ae,rfl,rfl,rfl,oM,oM,oM,ay,E9,B1,aV.far3 oM _ _ _,aB.far3 oM _ _ _,aj _ _ _,((h9.far oM _ _).far oM _ _).far oM _ _,QW (QW (QW aN ak _ _) ak _ _) ak _ _,aM.grown (zA9 w8 w7.heap.size _ _ _) oM⟩
      case measure =>
       have a1:gk=X.length+1:=a0;omega
     ·go_simp
      refine (HB X wd h5 oM aG ao g).mono ?_;rintro e i D;rw [hs] at D;simp only [QT] at D;obtain ⟨v,rfl,hP,h3,M⟩:=D;obtain ⟨n2,y,bh,rfl,W⟩:=hP;obtain ⟨bv,ab,aa,rfl⟩:=W.one;unfold ptV;go_wp2_with fail
      replace H:=H.grown M (by intro e;have:=Option.some.inj e;omega)
      replace pXpX0:=pXpX0.grown M (by intro e;have:=Option.some.inj e;omega)
      replace N:=N.grown M (by intro e;have:=Option.some.inj e;omega)
      replace ac:=PtIs.keep (λk hk l=>M.block k l (by intro e;have:=Option.some.inj e;have:=hk.1;omega)) nn ac
      have aw:PtIs i (λb=>w.heap.size+1<=b/\b ≠ s) n2 y (U bv ab aa) I:=PtIs.mono (λb u=>⟨by have aF:wd.heap.size<=b:=u;omega,by have aF:wd.heap.size<=b:=u;omega⟩) n2 W;replace hG:=QD hG M
      replace g:=g.grown M aq
      refine hkQ C (Qq H) (λd=>?_);clear C K M W h5
      have j:=pXpX0.range;refine rdQ 1 (λK C=>?_);refine wp_load_mid 151 (mX 5) rfl s 0 rfl (QK x (U L len cap)) _ j underlying151 rfl kR ?_;refine hkQ C (Qq H) (λd=>?_);clear C K
      refine rdQ 6 (λK C=>?_);refine zM9 (mX 30) (mX 34) rfl x L len cap y bv ab aa rfl rfl ?_;have f:=QJ (bZ _ i) (Z (QK x (U L len cap)++QK y (U bv ab aa)).toArray 151);obtain ⟨aC,aD⟩:=zDF i 151 (QK x (U L len cap)) (QK y (U bv ab aa));have bd:=pXpX0.lt;have bf:=N.lt;have ad:=PtIs.bin (G:=λb=>w.heap.size+1<=b/\b ≠ s) (z:=opN (Qz t) o) (PtIs.keep (λk _ l=>f.block k l) nn ac) (PtIs.keep (λk _ l=>f.block k l) n2 aw) (⟨oM,oM⟩:w.heap.size+1<=i.heap.size/\i.heap.size ≠ s) aC aD;replace h3:=h3.below f
      replace H:=AtL.below f H
      replace pXpX0:=AtL.below f pXpX0
      replace N:=AtL.below f N
      replace hG:=QD hG (QE f (some kp))
      replace g:=g.below f
      refine hkQ C (Qq H) (λd=>?_);clear C K f aC aD ac aw
      refine rdQ 7 (λK C=>?_);go_simp
      refine (zAG o ⟨m.toArray⟩ t (some ⟨i.heap.size,0,none⟩) 2 2 _).mono ?_;rintro e w6 ⟨rfl,u⟩;replace h3:=h3.below u
      replace H:=AtL.below u H
      replace pXpX0:=AtL.below u pXpX0
      replace N:=AtL.below u N
      replace hG:=QD hG (QE u (some kp))
      replace g:=g.below u
      replace ad:=PtIs.keep (λk _ l=>u.block k l) _ ad
      clear u;go_wp2_with fail
      refine hkQ C (Qq H) (λd=>?_);clear C K
      refine rdQ 8 (λK C=>?_);unfold ptV;refine wp_store_mid 151 (mX 5) (mX 36) rfl s 0 (QK (opN (Qz t) o) (U (some ⟨i.heap.size,0,none⟩) 2 2)).toArray rfl rfl pXpX0.there kR (Qs _ _ rfl) ?_;have am:AtL (w6.setCells s 0 (QK (opN (Qz t) o) (U (some ⟨i.heap.size,0,none⟩) 2 2))) s (QK (opN (Qz t) o) (U (some ⟨i.heap.size,0,none⟩) 2 2)):=pXpX0.setAll rfl;have al:=H.farAll (b:=s) oM 0 (QK (opN (Qz t) o) (U (some ⟨i.heap.size,0,none⟩) 2 2));have an:=N.farAll (b:=s) oM 0 (QK (opN (Qz t) o) (U (some ⟨i.heap.size,0,none⟩) 2 2));have ag:=PtIs.keep (w':=w6.setCells s 0 (QK (opN (Qz t) o) (U (some ⟨i.heap.size,0,none⟩) 2 2))) (λk hk _=>zAA s k hk.2 _ 0 w6) _ ad;have h7:=h3.farAll a2 (QK (opN (Qz t) o) (U (some ⟨i.heap.size,0,none⟩) 2 2)) 0;have au:=QR hG (b:=s) oM (QK (opN (Qz t) o) (U (some ⟨i.heap.size,0,none⟩) 2 2)) 0;have ah:=g.grown (zAW w6 s (QK (opN (Qz t) o) (U (some ⟨i.heap.size,0,none⟩) 2 2)) 0) oM;refine C.out _ _ (Qq al) (λd=>?_);clear C K pXpX0 H N ad h3 hG g j;try simp only [Act.put]
      refine wpAnyH_done kR ?_ _;generalize w6.setCells s 0 (QK (opN (Qz t) o) (U (some ⟨i.heap.size,0,none⟩) 2 2))=w7 at *;obtain ⟨c0,c1,c2⟩:=al.f3;have A:=QJ (bZ _ w7) (Z #[O J o,V ⟨m.toArray⟩,O J t] 223);have T8:=zAJ kp r2 en k _ (h7.below A) oM (ah.below A).1;go_wp2_with fail
      refine T8.mono ?_;rintro e w8 D;obtain ⟨o',m',t',q',ae,rfl,h9,F,hq,a3,aR⟩:=zBq af (opN (Qz t) o::(row++I)) D;have be:=am.lt;have bg:=an.lt;have a9:=h7.lt;have E9:Hid (R=if q' then nxt sub k o' t' (opN (Qz t) o::(row++I)) ae else .inl (opN (Qz t) o::(row++I),ae)):=by
       show _=_
       rw [<-hq];exact ER.out
      have ay:=hid ((aR.trans ax).trans aS.out);have aA:=(AtL.new0 w7 223 [O J o,V ⟨m.toArray⟩,O J t]).grown F (by intro e;have:=Option.some.inj e;omega);have aV:=(AtL.below A am).grown F (by intro e;have:=Option.some.inj e;omega);have aB:=(AtL.below A an).grown F (by intro e;have:=Option.some.inj e;omega);have P:=PtIs.inside (G':=λb=>(w.heap.size+1<=b/\b ≠ s)/\b ≠ w7.heap.size) (λb u hl=>⟨u,oM⟩) _ ag;have az:=PtIs.keep (λk hk l=>F.block k l (by intro e;have:=Option.some.inj e;have:=hk.1.1;omega)) _ (PtIs.keep (λk _ l=>A.block k l) _ P);have aN:=QD (QD au (QE A (some kp))) F;have aM:=(ah.below A).grown F aq;clear D hq T8 A am al an ag P h7 au ah F c0 c1 c2 ER;obtain ⟨c0,c1,c2,f0,f1,f2⟩:=aA.three;have ak:w.heap.size<=w7.heap.size:=oM;have aj:=λa b c=>PtIs.mono (G':=λb=>w.heap.size+1<=b/\b ≠ s) (λb u=>u.1) _ (PtIs.keep (w':=((w8.setCell ⟨w7.heap.size,0,none⟩ a).setCell ⟨w7.heap.size,1,none⟩ b).setCell ⟨w7.heap.size,2,none⟩ c) (λk hk l=>zC4 hk.2 a b c) _ az)
      go_wp2_with fail
      go_roundg (ae.length+(if q' then 1 else 0))
      case rel =>
       have B1:=AtL.put3 aA (O J o') (V ⟨m'.toArray⟩) (O J t');exact ⟨w7.heap.size,o',m',t',q',_,_,_,_,_,_,ae,rfl,rfl,rfl,oM,oM,oM,ay,E9,B1,aV.far3 oM _ _ _,aB.far3 oM _ _ _,aj _ _ _,((h9.far oM _ _).far oM _ _).far oM _ _,QW (QW (QW aN ak _ _) ak _ _) ak _ _,aM.grown (zA9 w8 w7.heap.size _ _ _) oM⟩
      case measure =>
       have a1:gk=X.length+1:=a0;omega
theorem zDG (kp:Nat) (en:Int) (sub:List Wlx.TV->PR) (n:Nat) (L:Vp kp en 175 sub n):zLu kp en 5 sub n:=by
 intro ts w h M u t S;have d:=QJ (bZ _ w) (Z zP0 151);have C:AtL (w.alloc (Z zP0 151)) w.heap.size (QK (bare 0) (U none 0 0)):=AtL.new0 w _ _;have A:=h.below d;have f:=S.below d;have F:=h.lt;cases P:sub ts with
 | inr q =>
  obtain ⟨c,p⟩:=q;simp only [QT];go_enter func147,ntmps147;have j:=C;have B:=A;have g:=f;have i:=QE d (some kp);clear C A d f;go_wp2_with fail
  refine (L ts _ B M u t g).mono ?_;rintro e D l;rw [P] at l;simp only [QT] at l;obtain ⟨rfl,s⟩:=l;unfold JY;go_wp2;exact ⟨rfl,rfl,QD i s⟩
 | inl q =>
  obtain ⟨row,r2⟩:=q;simp only [QT];go_enter func147,ntmps147;have j:=C;have B:=A;have g:=f;have i:=QE d (some kp);clear C A d f;have W:=j.lt;go_wp2_with fail
  refine (L ts _ B M u t g).mono ?_;rintro e D l;rw [P] at l;simp only [QT] at l;obtain ⟨v,rfl,T,R,s⟩:=l;have y:=j.grown s (by intro e;have:=Option.some.inj e;omega);have E:=QD i s;obtain ⟨X,x,sl,rfl,N⟩:=T;obtain ⟨o,len,cap,rfl⟩:=N.one;have H:cZ D w.heap.size 0 (QK x (U o len cap)).toArray.size:=y.there;clear j i g B s;unfold ptV;go_wp2_with ((with_reducible refine wpList_store_mid ?_ 151 (mX 4) (mX 11) ?_ (w.heap.size) 0 (QK x (U o len cap)).toArray ?_ ?_ ?_ ?_ ?_ ?_);rfl;rfl;rfl;rfl;exact H;kernel_rfl;exact Qs _ _ rfl)
  have I:AtL (D.setCells w.heap.size 0 (QK x (U o len cap))) w.heap.size (QK x (U o len cap)):=y.setAll rfl;refine bodyPost_ret (QQ rfl _ _ w.heap.size (QK x (U o len cap)) _ rfl I.range underlying151 rfl kR) rfl ?_;exact ⟨_,rfl,(Pt.far (show Pt D _ (ptV x (U o len cap)) row from ⟨X,x,_,rfl,N⟩) oM 0 _).mono oM,R.farAll F _ 0,QR E (dZ _) _ 0⟩
def Vc (sub:List Wlx.TV->PR) (en:Int) (ts:List Wlx.TV):PR:=match sub ts with
 | .inr e=>.inr e
 | .inl (row,[])=>.inl (row,[])
 | .inl (_,t::r)=>.inr (50,pos (t::r) en)
theorem zNx (kp:Nat) (en:Int) (sub:List Wlx.TV->PR) (n:Nat) (X:zCH kp en sub n) (S:∀ ts row r,sub ts=.inl (row,r)->r <:+ ts) (ts:List Wlx.TV) (w:wW) (h:PSt w kp ts en) (hn:ts.length<=n) (H:ts.length<=1024) (E:∀ t ∈ ts,Qd t) (hE:Env w) :
  Calls prog 81 #[pX (some ⟨kp,0,none⟩)] w λe w'=>QT kp en (Vc sub en ts) w e w':=by
 have j:=QJ (bZ _ w) (Z zP0 151);have M:AtL (w.alloc (Z zP0 151)) w.heap.size (QK (bare 0) (U none 0 0)):=AtL.new0 w _ _;have N:=h.below j;have s:=hE.below j;have aa:=h.lt;unfold Vc;cases T:sub ts with
 | inr q =>
  obtain ⟨c,p⟩:=q;simp only [QT];go_enter func81,ntmps81;go_wp2_with fail
  generalize w.alloc (Z zP0 151)=wa at *;refine (X ts _ N hn H E s).mono ?_;rintro e d y;rw [T] at y;simp only [QT] at y;obtain ⟨rfl,hg⟩:=y;unfold JY;go_wp2;exact ⟨rfl,rfl,QD (QE j (some kp)) hg⟩
 | inl q =>
  obtain ⟨row,r⟩:=q;have hl:=(S _ _ _ T).length_le;cases r with
  | cons t r =>
   simp only [QT];have M0:=λw h=>Qp kp (t::r) en w h
   unfold JY at M0 ⊢;go_enter func81,ntmps81;go_wp2_with fail
   generalize w.alloc (Z zP0 151)=wa at *;refine (X ts _ N hn H E s).mono ?_;rintro e d y;rw [T] at y;simp only [QT] at y;obtain ⟨v,rfl,hP,B,A⟩:=y;have ad:=M.lt;have o:=M.grown A (by intro e;have:=Option.some.inj e;omega);have u:=QD (QE j (some kp)) A;obtain ⟨nn,x,sl,rfl,F⟩:=hP;obtain ⟨g,len,cap,rfl⟩:=F.one;clear M j s N;unfold ptV;have l:AtL (d.alloc (Z zP0 151)) d.heap.size (QK (bare 0) (U none 0 0)):=AtL.new0 d _ _;have i:cZ (d.alloc (Z zP0 151)) d.heap.size 0 (QK x (U g len cap)).toArray.size:=l.there;go_upto_region 2 with ((with_reducible refine wpList_store_mid ?_ 151 (mX 3) (mX 5) ?_ (d.heap.size) 0 (QK x (U g len cap)).toArray ?_ ?_ ?_ ?_ ?_ ?_);rfl;rfl;rfl;rfl;exact i;kernel_rfl;exact Qs _ _ rfl)
   have f:=Qm (QJ (bZ _ d) (Z zP0 151)) (dZ d.heap.size) (QK x (U g len cap)) 0;have pXpX0:AtL ((d.alloc (Z zP0 151)).setCells d.heap.size 0 (QK x (U g len cap))) d.heap.size (QK x (U g len cap)):=l.setAll rfl;have I:=AtL.below f o;have P:=B.below f;have D:=QD u (QE f (some kp));have R:=Pt.below (v:=ptV x (U g len cap)) ⟨nn,x,_,rfl,F⟩ f;have ab:kp<d.heap.size:=B.lt;have ae:=o.lt;clear l i f o B u F;generalize (d.alloc (Z zP0 151)).setCells d.heap.size 0 (QK x (U g len cap))=w3 at *;generalize d.heap.size=kx at *;have C:=P;obtain ⟨tv,tc,q1,W,q3⟩:=C;obtain ⟨c0,c1,f0,f1⟩:=W.two;have ag:(((t::r).length:Int) == 0)=false:=by rw [beq_eq_false_iff_ne];simp;omega
   clear q1 W q3 h;generalize (t::r).length=ln at *;go_wp2_with fail
   refine (M0 _ P).mono ?_;rintro e w5 ⟨rfl,hb⟩;go_wp2;exact ⟨rfl,rfl,QD D (QE hb (some kp))⟩
  | nil =>
   simp only [QT];go_enter func81,ntmps81;go_wp2_with fail
   generalize w.alloc (Z zP0 151)=wa at *;refine (X ts _ N hn H E s).mono ?_;rintro e d y;rw [T] at y;simp only [QT] at y;obtain ⟨v,rfl,hP,B,A⟩:=y;have ad:=M.lt;have o:=M.grown A (by intro e;have:=Option.some.inj e;omega);have u:=QD (QE j (some kp)) A;obtain ⟨nn,x,sl,rfl,F⟩:=hP;obtain ⟨g,len,cap,rfl⟩:=F.one;clear M j s N;unfold ptV;have l:AtL (d.alloc (Z zP0 151)) d.heap.size (QK (bare 0) (U none 0 0)):=AtL.new0 d _ _;have i:cZ (d.alloc (Z zP0 151)) d.heap.size 0 (QK x (U g len cap)).toArray.size:=l.there;go_upto_region 2 with ((with_reducible refine wpList_store_mid ?_ 151 (mX 3) (mX 5) ?_ (d.heap.size) 0 (QK x (U g len cap)).toArray ?_ ?_ ?_ ?_ ?_ ?_);rfl;rfl;rfl;rfl;exact i;kernel_rfl;exact Qs _ _ rfl)
   have f:=Qm (QJ (bZ _ d) (Z zP0 151)) (dZ d.heap.size) (QK x (U g len cap)) 0;have pXpX0:AtL ((d.alloc (Z zP0 151)).setCells d.heap.size 0 (QK x (U g len cap))) d.heap.size (QK x (U g len cap)):=l.setAll rfl;have I:=AtL.below f o;have P:=B.below f;have D:=QD u (QE f (some kp));have R:=Pt.below (v:=ptV x (U g len cap)) ⟨nn,x,_,rfl,F⟩ f;have ab:kp<d.heap.size:=B.lt;have ae:=o.lt;clear l i f o B u F;generalize (d.alloc (Z zP0 151)).setCells d.heap.size 0 (QK x (U g len cap))=w3 at *;generalize d.heap.size=kx at *;have C:=P;obtain ⟨tv,tc,q1,W,q3⟩:=C;obtain ⟨c0,c1,f0,f1⟩:=W.two;simp only [List.length_nil] at c0;go_wp2_with fail
   refine (Qa kp _).mono ?_;rintro e w5 ⟨rfl,rfl⟩;have L:=pXpX0.range;have ac:cZ w3 w.heap.size 0 (QK x (U g len cap)).toArray.size:=I.there;go_wp2_with (first | ((with_reducible refine wpList_load_mid (cs:=QK x (U g len cap)) ?_ 151 (mX 3) ?_ kx 0 ?_ _ ?_ underlying151 ?_ ?_ ?_);rfl;rfl;rfl;exact L;rfl;kernel_rfl) | ((with_reducible refine wpList_store_mid ?_ 151 (mX 2) (mX 14) ?_ (w.heap.size) 0 (QK x (U g len cap)).toArray ?_ ?_ ?_ ?_ ?_ ?_);rfl;rfl;rfl;rfl;exact ac;kernel_rfl;exact Qs _ _ rfl))
   have af:AtL (w3.setCells w.heap.size 0 (QK x (U g len cap))) w.heap.size (QK x (U g len cap)):=I.setAll rfl;refine bodyPost_ret (QQ rfl _ _ w.heap.size (QK x (U g len cap)) _ rfl af.range underlying151 rfl kR) rfl ?_;exact ⟨_,rfl,(R.far oM 0 _).mono oM,P.farAll aa _ 0,QR D (dZ _) _ 0⟩
