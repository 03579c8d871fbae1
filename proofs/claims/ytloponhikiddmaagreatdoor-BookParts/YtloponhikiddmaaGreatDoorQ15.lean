/- Lemmas. -/
import Derived.Test.YtloponhikiddmaaGreatDoorQ14
import Derived.Laws.AppendOwnNone
import Derived.Laws.Tables
import Derived.WalkMore
set_option maxHeartbeats 16000000
set_option maxRecDepth 100000
open Nat renaming le_refl->bZ,le_trans->gZ,lt_of_lt_of_le->jZ,mul_le_mul_right->qZ
open Go.RowKit.Below renaming refl->cZ
open Go.World renaming there->dZ,grownBy_alloc->kZ,ownsRow->rZ
open List renaming length_cons->eZ,length_append->fZ,drop_succ_cons->hZ,getElem?_append_left->iZ,drop_zero->mZ,flatten_cons->nZ,getElem_append_left->oZ,flatten_append->sZ,append_assoc->tZ,map_toArray->uZ,flatten_nil->vZ,append_nil->wZ,map_cons->xZ,map_nil->yZ
open Go renaming World->wW,Value->vW
open Go.Value renaming int->O,slice->U,string->V,bool->Y,pointer->pX,agg->gX
open Go.IntKind renaming i64->J
open Go.Obj renaming cells->Z
open Go.Ending renaming returned->rX
open Go.Operand renaming tmp->mX
namespace Go.Proofs.YtloponhikiddmaaGreatDoor
open Tryz
variable {w w':wW} {ts r:List Wlx.TV} {sub:List Wlx.TV->PR} {n B c base:Nat} {en:Int} {v sl:vW} {P:Program} {op:Oper} {a:Act} {Q:Exit->Act->wW->Prop}
open Go.RowKit Go.Shelf
set_option linter.unusedVariables false
theorem zFY {m:List UInt8} (h:fol ts m=true):∃ a b r,ts=a::b::r:=by
 match ts,h with
 | a::b::r,_=>exact ⟨a,b,r,rfl⟩
def zM1 (kp:Nat) (en:Int) (sub:List UInt8->List Wlx.TV->PR) (n:Nat):Prop :=
 ∀ (nm:List UInt8) (ts:List Wlx.TV) (w:wW),PSt w kp ts en->ts.length<=n->ts.length<=1024->(∀ t ∈ ts,Qd t)->(hd ts en).t=nm->fol ts [40]=true->Env w->Calls prog 255 #[pX (some ⟨kp,0,none⟩),V ⟨nm.toArray⟩] w λe w'=>QT kp en (sub nm ts) w e w'
def pwd (b:List UInt8->List Wlx.TV->PR) (en:Int) (ts:List Wlx.TV):PR :=
 if fol ts [40] then b (hd ts en).t ts
 else if fol ts [33] then (if Wt.shNm ⟨(hd ts en).t.toArray⟩ then pcs ⟨(hd ts en).t.toArray⟩ (ts.drop 2) en else .inr (50,pos ts en))
 else if (hd ts en).t=[84,82,85,69] then .inl ([JL (Qc true)],ts.drop 1)
 else if (hd ts en).t=[70,65,76,83,69] then .inl ([JL (Qc false)],ts.drop 1)
 else pcs ⟨#[]⟩ ts en
theorem zLX (kp:Nat) (en:Int) (ag:List UInt8->List Wlx.TV->PR) (n:Nat) (HC:zM1 kp en ag n) (ts:List Wlx.TV) (w:wW) (h:PSt w kp ts en) (hn:ts.length<=n) (A:ts.length<=1024) (T:∀ t ∈ ts,Qd t) (al:(hd ts en).k=3) (hE:Env w) (S:8<=kp) :
  Calls prog 249 #[pX (some ⟨kp,0,none⟩)] w λe w'=>QT kp en (pwd ag en ts) w e w':=by
 have i:=QJ (cZ _ w) (Z zP0 151);have u:AtL (w.alloc (Z zP0 151)) w.heap.size (QK (bare 0) (U none 0 0)):=AtL.new0 w _ _;have o:=h.below i;have m:=hE.below i;have ad:=h.lt;have N:=λw h=>JJ kp ts en w h
 have C:=λw h=>zAS kp ts en [40] w h A
 have K:=λw h=>zAS kp ts en [33] w h A
 have aq:=zFv;have aj:(hd ts en).t.length<=1024:=(zAe en T).1;have SN:=λw=>zIe ⟨(hd ts en).t.toArray⟩ w (by show (hd ts en).t.length<=_;omega)
 have HC:=λw h hf hE=>HC (hd ts en).t ts w h hn A T rfl hf hE
 have M0:=λw h=>Qp kp ts en w h
 obtain ⟨r0,H⟩:∃ r,ts=hd ts en::r:=by
  cases ts with
  | nil=>exact absurd al (by show ¬ (0:Int)=3;decide)
  | cons a r=>exact ⟨r,rfl⟩
 unfold pwd;unfold pos JY at M0;unfold pos;obtain ⟨t,ht⟩:=xV (hd ts en)
 rw [ht] at N SN HC M0 H ⊢;clear ht aj al;obtain ⟨k,x,p⟩:=t;unfold tkV at N;simp only at N SN HC M0 ⊢;cases M:fol ts [40] with
 | true =>
  rw [M] at C;replace HC:=λw h hE=>HC w h M hE
  rw [if_pos rfl];clear H;cases hs:ag x ts with
  | inr q =>
   obtain ⟨c,pq⟩:=q;simp only [QT];go_enter func249,ntmps249;go_wp2_with fail
   generalize w.alloc (Z zP0 151)=wa at *;refine (N _ o).mono ?_;rintro e wb ⟨rfl,d⟩;replace u:=AtL.below d u
   replace o:=o.below d
   replace m:=m.below d
   replace i:=QA i d
   clear d;go_wp2_with fail
   refine (C _ o).mono ?_;rintro e w1 ⟨rfl,d⟩;have f:=AtL.below d u;have s:=o.below d;have l:=m.below d;have j:=QA i d;have g:=QE j (some kp);clear d u o i m N C;go_wp2_with fail
   refine (HC _ s l).mono ?_;rintro e L z;rw [hs] at z;simp only [QT] at z;obtain ⟨rfl,G⟩:=z;unfold JY;go_wp2;exact ⟨rfl,rfl,QD g G⟩
  | inl q =>
   obtain ⟨row,r2⟩:=q;simp only [QT];go_enter func249,ntmps249;go_wp2_with fail
   generalize w.alloc (Z zP0 151)=wa at *;refine (N _ o).mono ?_;rintro e wb ⟨rfl,d⟩;replace u:=AtL.below d u
   replace o:=o.below d
   replace m:=m.below d
   replace i:=QA i d
   clear d;go_wp2_with fail
   refine (C _ o).mono ?_;rintro e w1 ⟨rfl,d⟩;have f:=AtL.below d u;have s:=o.below d;have l:=m.below d;have j:=QA i d;have g:=QE j (some kp);clear d u o i m N C;have am:=f.lt;go_wp2_with fail
   refine (HC _ s l).mono ?_;rintro e L z;rw [hs] at z;simp only [QT] at z;obtain ⟨v,rfl,hP,h3,G⟩:=z;have I:=f.grown G (by intro e;have:=Option.some.inj e;omega);have X:=QD g G;obtain ⟨nn,x,sl,rfl,hp⟩:=hP;obtain ⟨D,len,cap,rfl⟩:=hp.one;have E:dZ L w.heap.size 0 (QK x (U D len cap)).toArray.size:=I.there;clear f g l s G;unfold ptV;go_wp2_with ((with_reducible refine wpList_store_mid ?_ 151 (mX 2) (mX 12) ?_ (w.heap.size) 0 (QK x (U D len cap)).toArray ?_ ?_ ?_ ?_ ?_ ?_);rfl;rfl;rfl;rfl;exact E;kernel_rfl;exact Qs _ _ rfl)
   have F:AtL (L.setCells w.heap.size 0 (QK x (U D len cap))) w.heap.size (QK x (U D len cap)):=I.setAll rfl;refine bodyPost_ret (QQ rfl _ _ w.heap.size (QK x (U D len cap)) _ rfl F.range underlying151 rfl kR) rfl ?_;exact ⟨_,rfl,(Pt.far (show Pt L _ (ptV x (U D len cap)) row from ⟨nn,x,_,rfl,hp⟩) oM 0 _).mono oM,h3.farAll ad _ 0,QR X (bZ _) _ 0⟩
 | false =>
  rw [M] at C;rw [if_neg dM];clear HC;cases R:fol ts [33] with
  | true =>
   rw [R] at K;rw [if_pos rfl];obtain ⟨a,b,r,hr⟩:=zFY R;have an:a=⟨k,x,p⟩:=by rw [hr] at H;exact (List.cons.inj H).1
   subst an;cases ak:Wt.shNm ⟨x.toArray⟩ with
   | false =>
    rw [ak] at SN;rw [if_neg dM];simp only [QT];unfold JY;go_enter func249,ntmps249;go_wp2_with fail
    generalize w.alloc (Z zP0 151)=wa at *;refine (N _ o).mono ?_;rintro e wb ⟨rfl,d⟩;replace u:=AtL.below d u
    replace o:=o.below d
    replace m:=m.below d
    replace i:=QA i d
    clear d;go_wp2_with fail
    refine (C _ o).mono ?_;rintro e w1 ⟨rfl,d⟩;have f:=AtL.below d u;have s:=o.below d;have l:=m.below d;have j:=QA i d;have g:=QE j (some kp);clear d u o i m N C;go_wp2_with fail
    refine (K _ s).mono ?_;rintro e w2 ⟨rfl,d⟩;replace f:=AtL.below d f
    replace s:=s.below d
    replace l:=l.below d
    replace j:=QA j d
    clear g;have g:=QE j (some kp);clear d K;go_wp2_with fail
    refine (SN _).mono ?_;rintro e w4 ⟨rfl,rfl⟩;go_wp2_with fail
    refine (M0 _ s).mono ?_;rintro e w5 ⟨rfl,d⟩;go_wp2;exact ⟨rfl,rfl,QD g (QE d (some kp))⟩
   | true =>
    rw [ak] at SN;rw [if_pos rfl];subst hr;clear H M R;simp only [hZ,mZ];cases hs:pcs ⟨x.toArray⟩ r en with
    | inr q =>
     obtain ⟨c,pq⟩:=q;simp only [QT];go_enter func249,ntmps249;go_wp2_with fail
     generalize w.alloc (Z zP0 151)=wa at *;refine (N _ o).mono ?_;rintro e wb ⟨rfl,d⟩;replace u:=AtL.below d u
     replace o:=o.below d
     replace m:=m.below d
     replace i:=QA i d
     clear d;go_wp2_with fail
     refine (C _ o).mono ?_;rintro e w1 ⟨rfl,d⟩;have f:=AtL.below d u;have s:=o.below d;have l:=m.below d;have j:=QA i d;have g:=QE j (some kp);clear d u o i m N C;go_wp2_with fail
     refine (K _ s).mono ?_;rintro e w2 ⟨rfl,d⟩;replace f:=AtL.below d f
     replace s:=s.below d
     replace l:=l.below d
     replace j:=QA j d
     clear g;have g:=QE j (some kp);clear d K;go_wp2_with fail
     refine (SN _).mono ?_;rintro e w4 ⟨rfl,rfl⟩;go_wp2_with fail
     refine (Qa kp _).mono ?_;rintro e w4 ⟨rfl,rfl⟩;have P:=JG 2 kp [⟨k,x,p⟩,b] r en _ s rfl dM A;go_wp2_with fail
     refine P.mono ?_;rintro e w4 ⟨rfl,W,y⟩;have ai:=f.lt;replace f:=f.grown y (by intro e;have:=Option.some.inj e;omega)
     replace g:=QD g y
     replace l:=l.grown y S
     clear s P y;have s:=W;clear W;go_wp2_with fail
     refine (zAb kp ⟨x.toArray⟩ r en _ s (by simp at A;omega) (λt ht=>T t (by simp [ht])) l S).mono ?_;rintro e L z;rw [hs] at z;simp only [QT] at z;obtain ⟨rfl,G⟩:=z;unfold JY;go_wp2;exact ⟨rfl,rfl,QD g G⟩
    | inl q =>
     obtain ⟨row,r2⟩:=q;simp only [QT];go_enter func249,ntmps249;go_wp2_with fail
     generalize w.alloc (Z zP0 151)=wa at *;refine (N _ o).mono ?_;rintro e wb ⟨rfl,d⟩;replace u:=AtL.below d u
     replace o:=o.below d
     replace m:=m.below d
     replace i:=QA i d
     clear d;go_wp2_with fail
     refine (C _ o).mono ?_;rintro e w1 ⟨rfl,d⟩;have f:=AtL.below d u;have s:=o.below d;have l:=m.below d;have j:=QA i d;have g:=QE j (some kp);clear d u o i m N C;go_wp2_with fail
     refine (K _ s).mono ?_;rintro e w2 ⟨rfl,d⟩;replace f:=AtL.below d f
     replace s:=s.below d
     replace l:=l.below d
     replace j:=QA j d
     clear g;have g:=QE j (some kp);clear d K;go_wp2_with fail
     refine (SN _).mono ?_;rintro e w4 ⟨rfl,rfl⟩;go_wp2_with fail
     refine (Qa kp _).mono ?_;rintro e w4 ⟨rfl,rfl⟩;have P:=JG 2 kp [⟨k,x,p⟩,b] r en _ s rfl dM A;go_wp2_with fail
     refine P.mono ?_;rintro e w4 ⟨rfl,W,y⟩;have ai:=f.lt;replace f:=f.grown y (by intro e;have:=Option.some.inj e;omega)
     replace g:=QD g y
     replace l:=l.grown y S
     clear s P y;have s:=W;clear W;have am:=f.lt;go_wp2_with fail
     refine (zAb kp ⟨x.toArray⟩ r en _ s (by simp at A;omega) (λt ht=>T t (by simp [ht])) l S).mono ?_;rintro e L z;rw [hs] at z;simp only [QT] at z;obtain ⟨v,rfl,hP,h3,G⟩:=z;have I:=f.grown G (by intro e;have:=Option.some.inj e;omega);have X:=QD g G;obtain ⟨nn,x,sl,rfl,hp⟩:=hP;obtain ⟨D,len,cap,rfl⟩:=hp.one;have E:dZ L w.heap.size 0 (QK x (U D len cap)).toArray.size:=I.there;clear f g l s G;unfold ptV;go_wp2_with ((with_reducible refine wpList_store_mid ?_ 151 (mX 2) (mX 24) ?_ (w.heap.size) 0 (QK x (U D len cap)).toArray ?_ ?_ ?_ ?_ ?_ ?_);rfl;rfl;rfl;rfl;exact E;kernel_rfl;exact Qs _ _ rfl)
     have F:AtL (L.setCells w.heap.size 0 (QK x (U D len cap))) w.heap.size (QK x (U D len cap)):=I.setAll rfl;refine bodyPost_ret (QQ rfl _ _ w.heap.size (QK x (U D len cap)) _ rfl F.range underlying151 rfl kR) rfl ?_;exact ⟨_,rfl,(Pt.far (show Pt L _ (ptV x (U D len cap)) row from ⟨nn,x,_,rfl,hp⟩) oM 0 _).mono oM,h3.farAll ad _ 0,QR X (bZ _) _ 0⟩
  | false =>
   rw [R] at K;rw [if_neg dM];by_cases hT:x=[84,82,85,69]
   ·rw [if_pos hT];subst H;generalize r0=r at *;subst hT;clear M R;simp only [hZ,mZ,QT];go_enter func249,ntmps249;go_wp2_with fail
    generalize w.alloc (Z zP0 151)=wa at *;refine (N _ o).mono ?_;rintro e wb ⟨rfl,d⟩;replace u:=AtL.below d u
    replace o:=o.below d
    replace m:=m.below d
    replace i:=QA i d
    clear d;go_wp2_with fail
    refine (C _ o).mono ?_;rintro e w1 ⟨rfl,d⟩;have f:=AtL.below d u;have s:=o.below d;have l:=m.below d;have j:=QA i d;have g:=QE j (some kp);clear d u o i m N C;go_wp2_with fail
    refine (K _ s).mono ?_;rintro e w2 ⟨rfl,d⟩;replace f:=AtL.below d f
    replace s:=s.below d
    replace l:=l.below d
    replace j:=QA j d
    clear g;have g:=QE j (some kp);clear d K;have P:=JG 1 kp [_] r en _ s rfl dM A;go_wp2_with fail
    refine P.mono ?_;rintro e w4 ⟨rfl,W,y⟩;have ai:=f.lt;have ae:=f.grown y (by intro e;have:=Option.some.inj e;omega);have aa:=QD g y;clear s P y f g l;have V1:=λw=>zAY true w
    have K1:=λw=>zBc (Qc true) w
    simp only [vlV,vl6,Qc] at V1 K1;go_wp2_with fail
    refine (V1 _).mono ?_;rintro e w5 ⟨rfl,ab⟩;go_wp2_with fail
    refine (K1 _).mono ?_;rintro e w6 ⟨rfl,ac⟩;have d:=QA ab ac;have af:=AtL.below d ae;have h6:=W.below d;have ah:=QD aa (QE d (some kp));have E:dZ w6 w.heap.size 0 (QK (JL (Qc true)) (U none 0 0)).toArray.size:=af.there;clear ab ac d ae W aa;unfold ptV;go_wp2_with ((with_reducible refine wpList_store_mid ?_ 151 (mX 2) (mX 37) ?_ (w.heap.size) 0 (QK (JL (Qc true)) (U none 0 0)).toArray ?_ ?_ ?_ ?_ ?_ ?_);rfl;rfl;rfl;rfl;exact E;kernel_rfl;exact Qs _ _ rfl)
    have F:AtL (w6.setCells w.heap.size 0 (QK (JL (Qc true)) (U none 0 0))) w.heap.size (QK (JL (Qc true)) (U none 0 0)):=af.setAll rfl;refine bodyPost_ret (QQ rfl _ _ w.heap.size (QK (JL (Qc true)) (U none 0 0)) _ rfl F.range underlying151 rfl kR) rfl ?_;exact ⟨_,rfl,⟨1,_,_,rfl,PtIs.leaf _ _ _⟩,h6.farAll ad _ 0,QR ah (bZ _) _ 0⟩
   rw [if_neg hT];have ao:(x == [84,82,85,69])=false:=by simp [hT]
   by_cases hU:x=[70,65,76,83,69]
   ·rw [if_pos hU];subst H;generalize r0=r at *;subst hU;clear M R;simp only [hZ,mZ,QT];go_enter func249,ntmps249;go_wp2_with fail
    generalize w.alloc (Z zP0 151)=wa at *;refine (N _ o).mono ?_;rintro e wb ⟨rfl,d⟩;replace u:=AtL.below d u
    replace o:=o.below d
    replace m:=m.below d
    replace i:=QA i d
    clear d;go_wp2_with fail
    refine (C _ o).mono ?_;rintro e w1 ⟨rfl,d⟩;have f:=AtL.below d u;have s:=o.below d;have l:=m.below d;have j:=QA i d;have g:=QE j (some kp);clear d u o i m N C;go_wp2_with fail
    refine (K _ s).mono ?_;rintro e w2 ⟨rfl,d⟩;replace f:=AtL.below d f
    replace s:=s.below d
    replace l:=l.below d
    replace j:=QA j d
    clear g;have g:=QE j (some kp);clear d K;have P:=JG 1 kp [_] r en _ s rfl dM A;go_wp2_with fail
    refine P.mono ?_;rintro e w4 ⟨rfl,W,y⟩;have ai:=f.lt;have ae:=f.grown y (by intro e;have:=Option.some.inj e;omega);have aa:=QD g y;clear s P y f g l;have V1:=λw=>zAY false w
    have K1:=λw=>zBc (Qc false) w
    simp only [vlV,vl6,Qc] at V1 K1;go_wp2_with fail
    refine (V1 _).mono ?_;rintro e w5 ⟨rfl,ab⟩;go_wp2_with fail
    refine (K1 _).mono ?_;rintro e w6 ⟨rfl,ac⟩;have d:=QA ab ac;have af:=AtL.below d ae;have h6:=W.below d;have ah:=QD aa (QE d (some kp));have E:dZ w6 w.heap.size 0 (QK (JL (Qc false)) (U none 0 0)).toArray.size:=af.there;clear ab ac d ae W aa;unfold ptV;go_wp2_with ((with_reducible refine wpList_store_mid ?_ 151 (mX 2) (mX 37) ?_ (w.heap.size) 0 (QK (JL (Qc false)) (U none 0 0)).toArray ?_ ?_ ?_ ?_ ?_ ?_);rfl;rfl;rfl;rfl;exact E;kernel_rfl;exact Qs _ _ rfl)
    have F:AtL (w6.setCells w.heap.size 0 (QK (JL (Qc false)) (U none 0 0))) w.heap.size (QK (JL (Qc false)) (U none 0 0)):=af.setAll rfl;refine bodyPost_ret (QQ rfl _ _ w.heap.size (QK (JL (Qc false)) (U none 0 0)) _ rfl F.range underlying151 rfl kR) rfl ?_;exact ⟨_,rfl,⟨1,_,_,rfl,PtIs.leaf _ _ _⟩,h6.farAll ad _ 0,QR ah (bZ _) _ 0⟩
   rw [if_neg hU];have ap:(x == [70,65,76,83,69])=false:=by simp [hU]
   clear H;cases hs:pcs ⟨#[]⟩ ts en with
   | inr q =>
    obtain ⟨c,pq⟩:=q;simp only [QT];go_enter func249,ntmps249;go_wp2_with fail
    generalize w.alloc (Z zP0 151)=wa at *;refine (N _ o).mono ?_;rintro e wb ⟨rfl,d⟩;replace u:=AtL.below d u
    replace o:=o.below d
    replace m:=m.below d
    replace i:=QA i d
    clear d;go_wp2_with fail
    refine (C _ o).mono ?_;rintro e w1 ⟨rfl,d⟩;have f:=AtL.below d u;have s:=o.below d;have l:=m.below d;have j:=QA i d;have g:=QE j (some kp);clear d u o i m N C;go_wp2_with fail
    refine (K _ s).mono ?_;rintro e w2 ⟨rfl,d⟩;replace f:=AtL.below d f
    replace s:=s.below d
    replace l:=l.below d
    replace j:=QA j d
    clear g;have g:=QE j (some kp);clear d K;go_wp2_with fail
    refine (zAb kp ⟨#[]⟩ ts en _ s A T l S).mono ?_;rintro e L z;rw [hs] at z;simp only [QT] at z;obtain ⟨rfl,G⟩:=z;unfold JY;go_wp2;exact ⟨rfl,rfl,QD g G⟩
   | inl q =>
    obtain ⟨row,r2⟩:=q;simp only [QT];go_enter func249,ntmps249;go_wp2_with fail
    generalize w.alloc (Z zP0 151)=wa at *;refine (N _ o).mono ?_;rintro e wb ⟨rfl,d⟩;replace u:=AtL.below d u
    replace o:=o.below d
    replace m:=m.below d
    replace i:=QA i d
    clear d;go_wp2_with fail
    refine (C _ o).mono ?_;rintro e w1 ⟨rfl,d⟩;have f:=AtL.below d u;have s:=o.below d;have l:=m.below d;have j:=QA i d;have g:=QE j (some kp);clear d u o i m N C;go_wp2_with fail
    refine (K _ s).mono ?_;rintro e w2 ⟨rfl,d⟩;replace f:=AtL.below d f
    replace s:=s.below d
    replace l:=l.below d
    replace j:=QA j d
    clear g;have g:=QE j (some kp);clear d K;have am:=f.lt;go_wp2_with fail
    refine (zAb kp ⟨#[]⟩ ts en _ s A T l S).mono ?_;rintro e L z;rw [hs] at z;simp only [QT] at z;obtain ⟨v,rfl,hP,h3,G⟩:=z;have I:=f.grown G (by intro e;have:=Option.some.inj e;omega);have X:=QD g G;obtain ⟨nn,x,sl,rfl,hp⟩:=hP;obtain ⟨D,len,cap,rfl⟩:=hp.one;have E:dZ L w.heap.size 0 (QK x (U D len cap)).toArray.size:=I.there;clear f g l s G;unfold ptV;go_wp2_with ((with_reducible refine wpList_store_mid ?_ 151 (mX 2) (mX 39) ?_ (w.heap.size) 0 (QK x (U D len cap)).toArray ?_ ?_ ?_ ?_ ?_ ?_);rfl;rfl;rfl;rfl;exact E;kernel_rfl;exact Qs _ _ rfl)
    have F:AtL (L.setCells w.heap.size 0 (QK x (U D len cap))) w.heap.size (QK x (U D len cap)):=I.setAll rfl;refine bodyPost_ret (QQ rfl _ _ w.heap.size (QK x (U D len cap)) _ rfl F.range underlying151 rfl kR) rfl ?_;exact ⟨_,rfl,(Pt.far (show Pt L _ (ptV x (U D len cap)) row from ⟨nn,x,_,rfl,hp⟩) oM 0 _).mono oM,h3.farAll ad _ 0,QR X (bZ _) _ 0⟩
def Pts (w:wW) (lo:Nat) (sl:vW) (c:Nat) (f:List Wt.Nd):Prop :=
 ∃ (n:Nat) (g:Option Addr) (cap:Nat) (e:List (Wt.Nd × vW)) (d:List (List Wt.Nd)),sl=U g c cap/\e.length=c/\d.length=c/\f=d.flatten /\
  ∀ i (h:i<e.length) (j:i<d.length),∃ bb,g=some ⟨bb,0,none⟩/\lo<=bb/\w.rangeAt bb (i * 21) (QK (e[i]).1 (e[i]).2)/\PtIs w (λb=>lo<=b) n (e[i]).1 (e[i]).2 (d[i])
theorem Pts.node {lo:Nat} {d:List Wt.Nd} (h:Pts w lo sl c d) (x:Wt.Nd):∃ n,PtIs w (λb=>lo<=b) n x sl (x::d):=by
 obtain ⟨n,g,cap,k,e,rfl,f,i,rfl,j⟩:=h;exact ⟨n+1,g,cap,k,e,by rw [f],by rw [f,i],rfl,j⟩
abbrev AR:Type:=(Nat × List Wt.Nd × List Wlx.TV) ⊕ (Int × Int)
def zJp (kp:Nat) (en:Int) (r:AR) (w:wW) (e:Ending) (w':wW):Prop:=match r with
 | .inl (c,rows,rest)=>∃ sl,e=rX sl/\Pts w' w.heap.size sl c rows/\PSt w' kp rest en/\w.grownBy w' (some kp)
 | .inr (c,p)=>e=JY c p/\w.grownBy w' (some kp)
def zPN (kp:Nat) (en:Int) (sub:List Wlx.TV->AR) (n:Nat):Prop :=
 ∀ (ts:List Wlx.TV) (w:wW),PSt w kp ts en->ts.length<=n->ts.length<=1024->(∀ t ∈ ts,Qd t)->Env w->Calls prog 261 #[pX (some ⟨kp,0,none⟩)] w λe w'=>zJp kp en (sub ts) w e w'
def pca (b:List Wlx.TV->AR) (en:Int) (nm:List UInt8) (ts:List Wlx.TV):PR :=
 if Wt.fnNm ⟨nm.toArray⟩ then (match b (ts.drop 2) with
  | .inr e=>.inr e
  | .inl (c,rows,r)=>.inl (Js ⟨nm.toArray⟩ c::rows,r))
 else .inr (50,pos ts en)
theorem zLD (kp:Nat) (en:Int) (g:List Wlx.TV->AR) (n:Nat) (S:zPN kp en g n) (D:8<=kp):zM1 kp en (pca g en) (n+2):=by
 intro nm ts w h hn l s E A hE;have f:=QJ (cZ _ w) (Z zP0 151);have x:AtL (w.alloc (Z zP0 151)) w.heap.size (QK (bare 0) (U none 0 0)):=AtL.new0 w _ _;have z:=h.below f;have i:=hE.below f;have K:=h.lt;obtain ⟨a,b,r,hr⟩:=zFY A;have X:nm.length<=1024:=by rw [<-E];exact (zAe en s).1
 have y:=λw=>zIX ⟨nm.toArray⟩ w (by show nm.length<=_;omega)
 have T:=λw h=>Qp kp ts en w h
 unfold pca;clear E A;cases hq:Wt.fnNm ⟨nm.toArray⟩ with
 | false =>
  rw [hq] at y;rw [if_neg dM];simp only [QT];unfold JY at T ⊢;clear hr;go_enter func255,ntmps255;go_wp2_with fail
  generalize w.alloc (Z zP0 151)=wa at *;refine (y _).mono ?_;rintro e wb ⟨rfl,rfl⟩;go_wp2_with fail
  refine (T _ z).mono ?_;rintro e w5 ⟨rfl,hb⟩;go_wp2;exact ⟨rfl,rfl,QD (QE f (some kp)) (QE hb (some kp))⟩
 | true =>
  rw [hq] at y;rw [if_pos rfl];subst hr;simp only [hZ,mZ];cases hs:g r with
  | inr q =>
   obtain ⟨c,p⟩:=q;simp only [QT];go_enter func255,ntmps255;go_wp2_with fail
   generalize w.alloc (Z zP0 151)=wa at *;refine (y _).mono ?_;rintro e wb ⟨rfl,rfl⟩;go_wp2_with fail
   refine (Qa kp _).mono ?_;rintro e w4 ⟨rfl,rfl⟩;have P:=JG 2 kp [a,b] r en _ z rfl dM l;go_wp2_with fail
   refine P.mono ?_;rintro e w1 ⟨rfl,G,d⟩;have hz:=x.lt;have m:=x.grown d (by intro e;have:=Option.some.inj e;omega);have k:=QD (QE f (some kp)) d;have j:=i.grown d D;have L:=d.size;clear x z f i P d;go_wp2_with fail
   refine (S r _ G (by simp at hn;omega) (by simp at l;omega) (λt M=>s t (by simp [M])) j).mono ?_;rintro e H o;rw [hs] at o;simp only [zJp] at o;obtain ⟨rfl,C⟩:=o;unfold JY;go_wp2;exact ⟨rfl,rfl,QD k C⟩
  | inl q =>
   obtain ⟨c,aa,r2⟩:=q;simp only [QT];go_enter func255,ntmps255;go_wp2_with fail
   generalize w.alloc (Z zP0 151)=wa at *;refine (y _).mono ?_;rintro e wb ⟨rfl,rfl⟩;go_wp2_with fail
   refine (Qa kp _).mono ?_;rintro e w4 ⟨rfl,rfl⟩;have P:=JG 2 kp [a,b] r en _ z rfl dM l;go_wp2_with fail
   refine P.mono ?_;rintro e w1 ⟨rfl,G,d⟩;have hz:=x.lt;have m:=x.grown d (by intro e;have:=Option.some.inj e;omega);have k:=QD (QE f (some kp)) d;have j:=i.grown d D;have L:=d.size;clear x z f i P d;go_wp2_with fail
   refine (S r _ G (by simp at hn;omega) (by simp at l;omega) (λt M=>s t (by simp [M])) j).mono ?_;rintro e H o;rw [hs] at o;simp only [zJp] at o;obtain ⟨sl,rfl,W,h2,C⟩:=o;obtain ⟨nn,hp⟩:=W.node (Js ⟨nm.toArray⟩ c);obtain ⟨_,u,cap,_,_,rfl,_⟩:=W;have ab:=m.lt;have F:=m.grown C (by intro e;have:=Option.some.inj e;omega);have I:=QD k C;have N:dZ H w.heap.size 0 (QK (Js ⟨nm.toArray⟩ c) (U u c cap)).toArray.size:=F.there;clear m k j G C;go_wp2_with ((with_reducible refine wpList_store_mid ?_ 151 (mX 4) (mX 19) ?_ (w.heap.size) 0 (QK (Js ⟨nm.toArray⟩ c) (U u c cap)).toArray ?_ ?_ ?_ ?_ ?_ ?_);rfl;rfl;rfl;rfl;exact N;kernel_rfl;exact Qs _ _ rfl)
   have R:AtL (H.setCells w.heap.size 0 (QK (Js ⟨nm.toArray⟩ c) (U u c cap))) w.heap.size (QK (Js ⟨nm.toArray⟩ c) (U u c cap)):=F.setAll rfl;refine bodyPost_ret (QQ rfl _ _ w.heap.size (QK (Js ⟨nm.toArray⟩ c) (U u c cap)) _ rfl R.range underlying151 rfl kR) rfl ?_;exact ⟨_,rfl,(Pt.far (show Pt H _ (ptV (Js ⟨nm.toArray⟩ c) (U u c cap)) _ from ⟨nn,_,_,rfl,hp⟩) oM 0 _).mono oM,h2.farAll K _ 0,QR I (bZ _) _ 0⟩
open Go.RowKit
def tv3 (t:Wlx.TV):List vW:=[O J t.k,V ⟨t.t.toArray⟩,O J t.p]
def Vn (ts:List Wlx.TV):List vW:=ts.flatMap tv3
theorem zFL:∀ (ts:List Wlx.TV) (i:Nat) (h:i<ts.length),(Vn ts)[i * 3]? = some (O J (ts[i]).k)/\(Vn ts)[i * 3+1]? = some (V ⟨(ts[i]).t.toArray⟩)/\(Vn ts)[i * 3+2]? = some (O J (ts[i]).p)
 | [],i,h=>by simp at h
 | t::r,0,_=>⟨rfl,rfl,rfl⟩
 | t::r,i+1,h=>by
  obtain ⟨b,d,f⟩:=zFL r i (by simpa using h);have e:∀ j,(Vn (t::r))[j+3]? = (Vn r)[j]?:=λj=>rfl
  rw [show (i+1) * 3=i * 3+3 by omega,show i * 3+3+1=i * 3+1+3 by omega,show i * 3+3+2=i * 3+2+3 by omega,e,e,e];exact ⟨b,d,f⟩
theorem zNB (ts:List Wlx.Tok):Vn (ts.map Wlx.tv)=Vu ts:=by
 induction ts with
 | nil=>rfl
 | cons t r b =>
  show tv3 (Wlx.tv t)++Vn (r.map Wlx.tv)=zQy t++Vu r
  rw [b];rfl
theorem zB0 (w:wW) (base:Nat) (t N e:TypeId) (i:TypeInfo) (z:vW) (size d:Nat) (X:P.underlying t=some (.slice e)) (R:P.info? e=some i) (hz:i.zero=some z)
  (q:i.size=size) (G:i.bytes=d) (ab:z.cells.size=size) (W:0<size)
  (v:vW) (n:Nat) (K:List vW) (l:w.ownsRow base e size v n K)
  (a:Addr) (m c:Nat) (b:List vW) (L:b.length=m * size) (f:∀ j u,b[j]? = some u->w.cell? (a.add j)=some u) (h1:∀ u ∈ b,u.oneCell'=true)
  (F:n+m<=maxLen) (k:(n+m) * d<=140737488355328) (y:base<=w.heap.size) :
  ∃ E w',(Builtin.append_ #[t,t] N #[v,U (some a) m c]).run P w=.ok E w'/\w'.ownsRow base e size E (n+m) (K++b)/\w.grownBy w' v.ownBlock /\
   (E.ownBlock=v.ownBlock \/ E.ownBlock=some w.heap.size)/\(∀ g j,v.ownBlock=some g->j<n * size->w'.cell? ⟨g,j,none⟩=w.cell? ⟨g,j,none⟩):=by
 obtain ⟨E,w',C,h2,h3,_,h5⟩:=run_append_own_at (P:=P) w base t N e i z size d X R hz q G ab W v n K l a m c b L f h1 F k y;refine ⟨E,w',C,h2,h3,h5,?_⟩;intro g j hg hj;subst q G;have M:n+m<=9223372036854775807:=by simp only [maxLen] at F;omega
 rcases l.2 with ⟨rfl,rfl⟩ | ⟨s,cap,o,rfl,ac,x,T,ad,H,aa⟩
 ·simp [Value.ownBlock] at hg
 ·obtain rfl:s=g:=by simpa [Value.ownBlock] using hg
  have ae:j<o.size:=by
   rw [H];exact jZ hj (qZ _ T)
  by_cases p:n+m<=cap
  ·have I:n * i.size+b.length<=o.size:=by rw [L,H,<-Nat.add_mul];exact qZ _ p
   have D:=run_append_room (P:=P) w t N e i X R s n cap o x a m c b L f h1 p I;rw [D] at C;simp only [Result.ok.injEq] at C;obtain ⟨_,rfl⟩:=C;rw [cell_of_row _ s j _ e (0,0) (setRow_heap w s o _ e _ x),cell_of_row w s j o e (0,0) x];simp only [List.getElem?_toArray];rw [tZ,iZ (by rw [List.length_take,Array.length_toList];omega),List.getElem?_take,if_pos hj];simp
  ·have A:∀ j u,K[j]? = some u->w.cell? ((⟨s,0,none⟩:Addr).add j)=some u:=l.cells (g:=s) rfl;have D:=run_append_grow (P:=P) w t N e i z X R hz ⟨s,0,none⟩ n cap K l.1 A a m c b L f oM oM (growslice_fits oM k);rw [D] at C;simp only [Result.ok.injEq] at C;obtain ⟨_,rfl⟩:=C;have S:s < w.heap.size:=(Array.getElem?_eq_some_iff.1 x).1;exact World.cell?_of_block (heap_alloc_old w.drew _ S)
theorem zAM {P:Program} (w:wW) {C:Array Oper} {k:List Oper} {o:Oper} {a:Act} {Q:Exit->Act->wW->Prop} (G:o.guard=none) (s x:Operand) (t:TypeId)
  (ho:o.op=.call {callee:=.builtin .append,args:=#[s,x],argTypes:=#[t,t]})
  (base:Nat) (e:TypeId) (i:TypeInfo) (z:vW) (size d:Nat) (ht:P.underlying t=some (.slice e)) (X:P.info? e=some i) (hz:i.zero=some z)
  (q:i.size=size) (F:i.bytes=d) (I:z.cells.size=size) (H:0<size)
  (v:vW) (n:Nat) (L:List vW) (hs:a.eval s=v) (A:w.ownsRow base e size v n L)
  (D:Addr) (m c:Nat) (b:List vW) (hx:a.eval x=U (some D) m c) (hl:b.length=m * size) (p:∀ j u,b[j]? = some u->w.cell? (D.add j)=some u) (M:∀ u ∈ b,u.oneCell'=true)
  (E:n+m<=maxLen) (f:(n+m) * d<=140737488355328) (l:base<=w.heap.size)
  (h:∀ y w',w'.ownsRow base e size y (n+m) (L++b)->w.grownBy w' v.ownBlock->(y.ownBlock=v.ownBlock \/ y.ownBlock=some w.heap.size)->(∀ g j,v.ownBlock=some g->j<n * size->w'.cell? ⟨g,j,none⟩=w.cell? ⟨g,j,none⟩)->wpList P C Q k (a.put o.dst y) w'):wpList P C Q (o::k) a w:=by
 refine wpList_plain G λK W=>?_
 obtain ⟨y,w',hr,N,R,S,T⟩:=zB0 (P:=P) w base t o.type e i z size d ht X hz q F I H v n L A D m c b hl p M E f l;unfold Oper.wp execOp;simp only [ho,resolve,invoke,builtin,Sem.run_bind,Sem.run_pure,Result.andThen_ok,uZ,xZ,yZ,hs,hx,hr];exact W _ _ (h y w' N R S T)
abbrev OwnV (w:wW) (base:Nat) (v:vW) (ts:List Wlx.TV):Prop:=w.ownsRow base 203 3 v ts.length (Vn ts)
theorem OwnV.of {ts:List Wlx.Tok} (h:V0 w B v ts):OwnV w B v (ts.map Wlx.tv):=by
 show w.ownsRow B _ 3 v (ts.map Wlx.tv).length (Vn (ts.map Wlx.tv))
 rw [List.length_map,zNB];exact h
theorem OwnV.form (h:OwnV w B v ts):∃ a c,v=U a ts.length c/\(0<ts.length->∃ g,a=some ⟨g,0,none⟩/\B<=g/\g<w.heap.size):=by
 rcases h.2 with ⟨e,d⟩ | ⟨g,cap,b,e,i,f,_⟩
 ·exact ⟨none,0,by rw [e,d],λh=>by omega⟩
 ·exact ⟨some ⟨g,0,none⟩,cap,e,λ_=>⟨g,rfl,i,(Array.getElem?_eq_some_iff.1 f).1⟩⟩
def RdV (w:wW) (a:Option Addr) (ts:List Wlx.TV):Prop :=
 ∀ i (h:i<ts.length),∃ g,a=some ⟨g,0,none⟩/\g<w.heap.size/\w.cell? ⟨g,i * 3,none⟩=some (O J (ts[i]).k)/\w.cell? ⟨g,i * 3+1,none⟩=some (V ⟨(ts[i]).t.toArray⟩)/\w.cell? ⟨g,i * 3+2,none⟩=some (O J (ts[i]).p)
theorem RdV.own {a:Option Addr} (h:OwnV w B (U a n c) ts):RdV w a ts:=by
 intro i f;rcases h.2 with ⟨_,l⟩ | ⟨g,cap,b,e,m,d,_⟩
 ·omega
 ·simp only [U.injEq] at e;obtain ⟨rfl,rfl,rfl⟩:=e;obtain ⟨r0,j,k⟩:=zFL ts i f;refine ⟨g,rfl,(Array.getElem?_eq_some_iff.1 d).1,?_,?_,?_⟩
  ·rw [World.ownsRow.cellAt h _ oM,r0]
  ·rw [World.ownsRow.cellAt h _ oM,j]
  ·rw [World.ownsRow.cellAt h _ oM,k]
theorem PSt.row {kp:Nat} {row:Option Nat} (h:PSt w kp ts en) (d:w.grownBy w' row) (x:∀ b,row=some b->kp<b):PSt w' kp ts en:=by
 obtain ⟨k,cap,q,s,t⟩:=h;have f:∀ b,b<=kp->some b ≠ row:=λb j e=>by have:=x b e.symm;omega
 refine ⟨k,cap,q,s.grown d (f kp (bZ _)),λi u=>?_⟩;obtain ⟨l,g,e,j,m,o,p⟩:=t i u;exact ⟨l,g,e,j,d.cell m (f _ (by simp only;omega)),d.cell o (f _ (by simp only;omega)),d.cell p (f _ (by simp only;omega))⟩
theorem zGz (h:w.grownBy w' none) (row:Option Nat):w.grownBy w' row:=⟨h.os,h.tape,h.output,h.size,λk b _=>h.block k b sM⟩
theorem Env.row {row:Option Nat} (h:Env w) (d:w.grownBy w' row) (e:∀ b,row=some b->8<=b):Env w':=by
 cases row with
 | none=>exact h.grown (zGz d (some 8)) (bZ _)
 | some b=>exact h.grown d (e b rfl)
theorem zJI {W f:wW} {kp:Nat} {row:Option Nat} (h:w.grownBy W (some kp)) (d:W.grownBy f row) (j:∀ b,row=some b->w.heap.size<=b):w.grownBy f (some kp) :=
 ⟨d.os.trans h.os,d.tape.trans h.tape,d.output.trans h.output,gZ h.size d.size,λk g i=>(d.block k (jZ g h.size) (λe=>by have:=j k e.symm;omega)).trans (h.block k g i)⟩
def Jj (b:List (Wt.Nd × vW)):List vW:=b.flatMap λp=>QK p.1 p.2
theorem zIp (a b:List (Wt.Nd × vW)):Jj (a++b)=Jj a++Jj b:=by simp [Jj]
theorem zDz (x:Wt.Nd) (sl:vW):Jj [(x,sl)]=QK x sl:=by simp [Jj]
theorem zDf:∀ (b:List (Wt.Nd × vW)) (i:Nat) (h:i<b.length) (j:Nat),j<21->(Jj b)[i * 21+j]? = (QK (b[i]).1 (b[i]).2)[j]?
 | [],i,h,_,_=>by simp at h
 | p::r,0,_,j,hj=>by
  show (QK p.1 p.2++Jj r)[0 * 21+j]? = _
  rw [Nat.zero_mul,Nat.zero_add,iZ (by show j<21;exact hj)];rfl
 | p::r,i+1,h,j,hj=>by
  show (QK p.1 p.2++Jj r)[(i+1) * 21+j]? = _
  rw [List.getElem?_append_right (by show 21<=_;omega)];rw [show (i+1) * 21+j - (QK p.1 p.2).length=i * 21+j by show _ - 21=_;omega];exact zDf r i (by simpa using h) j hj
theorem zIv {g cap:Nat} {b:List (Wt.Nd × vW)} (h:w.ownsRow base 151 21 (U (some ⟨g,0,none⟩) n cap) n (Jj b)) (k:n=b.length) (i:Nat) (e:i<b.length):w.rangeAt g (i * 21) (QK (b[i]).1 (b[i]).2):=by
 intro j v d;have f:j<21:=(List.getElem?_eq_some_iff.1 d).1;rw [World.ownsRow.cellAt h (i * 21+j) oM,zDf b i e j f];exact d
theorem zJG (d:∀ ts row r,sub ts=.inl (row,r)->r <:+ ts) (en:Int):∀ (n m c:Nat) (b:List Wt.Nd) (ts:List Wlx.TV),ts.length<n->ts.length<m->VB sub en n c b ts=VB sub en m c b ts:=by
 intro n;induction n with
 | zero=>intro m c b ts g;omega
 | succ n j =>
  intro m c b ts g k;cases m with
  | zero=>omega
  | succ m =>
   simp only [VB];cases h:tk ts [41] with
   | some r=>rfl
   | none =>
    simp only;split
    ·rfl
    ·cases f:tk ts [44] with
     | none=>rfl
     | some r =>
      simp only;have l:=(JH f).2;cases i:sub r with
      | inr e=>rfl
      | inl q =>
       obtain ⟨row,o⟩:=q;simp only;have:=(d _ _ _ i).length_le;exact j m _ _ _ oM oM
theorem zMB:(prog.info? 151).map (λi=>(i.zero,i.size,i.bytes))=some (some (gX #[O J 0,O J 0,O J 0,O J 0,V ⟨#[]⟩,Y false,O J 0,O J 0,V ⟨#[]⟩,O J 0,V ⟨#[]⟩,O J 0,O J 0,Y false,Y false,V ⟨#[]⟩,O J 0,O J 0,Y false,Y false,U none 0 0]),21,200):=kR
def paa (sub:List Wlx.TV->PR) (en:Int) (ts:List Wlx.TV):AR:=match tk ts [41] with
 | some r=>.inl (0,[],r)
 | none=>match sub ts with
  | .inr e=>.inr e
  | .inl (row,r)=>VB sub en (r.length+1) 1 row r
theorem zPO (w:wW) (x:Wt.Nd) (sl:vW) (j:Nat) (u:vW) (d:(QK x sl)[j]? = some u):(w.alloc (Z (QK x sl).toArray 151)).cell? ((⟨w.heap.size,0,none⟩:Addr).add j)=some u:=by
 have b:(⟨w.heap.size,0,none⟩:Addr).add j=⟨w.heap.size,0+j,none⟩:=by unfold Addr.add;split <;> simp_all
 rw [b];exact (AtL.new0 w 151 (QK x sl)).range j u d
theorem zM3 (x:Wt.Nd) (sl:vW) (h:sl.oneCell'=true) (u:vW) (b:u ∈ QK x sl):u.oneCell'=true:=by
 have:=Qs x sl h;simp only [List.all_toArray,List.all_eq_true] at this;exact this u b
theorem zLa {m:Nat} {i:List vW} (h:w.ownsRow base 151 21 v (n+1) i):∃ g cap,v=U (some ⟨g,0,none⟩) (n+1) cap/\base<=g/\g<w.heap.size:=by
 rcases h.2 with ⟨_,j⟩ | ⟨g,cap,b,e,f,d,_⟩
 ·omega
 ·exact ⟨g,cap,e,f,(Array.getElem?_eq_some_iff.1 d).1⟩
theorem zC8 (kp:Nat) (en:Int) (sub:List Wlx.TV->PR) (n:Nat) (HF:zCH kp en sub n) (ae:∀ ts row r,sub ts=.inl (row,r)->r <:+ ts) (H:8<=kp):zPN kp en (paa sub en) n:=by
 intro ts w h hn ay ax hE;have bc:=h.lt;have T1:=Qw kp ts en [41] w h ay;unfold paa;cases ht:tk ts [41] with
 | some r =>
  rw [ht] at T1;simp only [zJp] at T1 ⊢;go_enter func261,ntmps261;go_wp2_with fail
  refine T1.mono ?_;rintro e w1 ⟨rfl,h1,A⟩;go_wp2;go_ret;exact ⟨_,rfl,⟨0,none,0,[],[],rfl,rfl,rfl,rfl,λi h=>absurd h (Nat.not_lt_zero _)⟩,h1,A⟩
 | none =>
  rw [ht] at T1;simp only at T1 ⊢;cases hs:sub ts with
  | inr q =>
   obtain ⟨c,p⟩:=q;simp only [zJp];go_enter func261,ntmps261;go_wp2_with fail
   refine T1.mono ?_;rintro e w1 ⟨rfl,h1,A⟩;go_wp2_with fail
   refine (HF ts w1 h1 hn ay ax (hE.grown A H)).mono ?_;rintro e w2 s;rw [hs] at s;simp only [QT] at s;obtain ⟨rfl,hg⟩:=s;unfold JY;go_wp2;exact ⟨rfl,rfl,QD A hg⟩
  | inl q =>
   obtain ⟨row,r1⟩:=q;have aq:=ae _ _ _ hs;have bd:=aq.length_le;simp only;obtain ⟨R,I⟩:=xV (VB sub en (r1.length+1) 1 row r1)
   rw [I];obtain ⟨i0,hi,aZ,a0,a1⟩:=info_parts zMB;go_enter func261,ntmps261;go_wp2_with fail
   refine T1.mono ?_;rintro e w1 ⟨rfl,h1,A⟩;go_wp2_with fail
   refine (HF ts w1 h1 hn ay ax (hE.grown A H)).mono ?_;rintro e w2 s;rw [hs] at s;simp only [QT] at s;obtain ⟨v,rfl,hP,T,aj⟩:=s;have aB:=(hE.grown A H).grown aj H;have aE:=QD A aj;have bh:=A.size;have bi:=aj.size;obtain ⟨nn,x,sl,rfl,hp⟩:=hP;obtain ⟨av,len,cap,rfl⟩:=hp.one;clear T1 h1 A aj hE;unfold ptV;go_wp2_with ((with_reducible refine zAx ?_ (mX 7) ?_ x av len cap ?_ ?_);rfl;rfl;rfl)
   have ab:=QJ (cZ _ w2) (Z (QK x (U av len cap)).toArray 151);have O3:Hid ((w2.alloc (Z (QK x (U av len cap)).toArray 151)).ownsRow w.heap.size 151 21 (U (some ⟨w2.heap.size,0,none⟩) 1 1) 1 (Jj [(x,U av len cap)])):=by
    have:=World.ownsRow_lit (base:=w.heap.size) (e:=151) (size:=21) w2 (QK x (U av len cap)).toArray 1 oM dM rfl;rw [zDz];exact this
   have P3:Hid (∀ i (h:i < [(x,U av len cap)].length) (h':i < [row].length),PtIs (w2.alloc (Z (QK x (U av len cap)).toArray 151)) (λb=>w.heap.size<=b/\b ≠ w2.heap.size) nn ([(x,U av len cap)][i]).1 ([(x,U av len cap)][i]).2 ([row][i])):=by
    intro i h h';obtain rfl:i=0:=by simp at h;exact h
    exact PtIs.keep (λk _ T=>ab.block k T) nn (PtIs.inside (λb X hl=>⟨by have aI:=X;omega,oM⟩) nn hp)
   have h3:=T.below ab;have aC:=aB.below ab;have aF:Hid (w.grownBy (w2.alloc (Z (QK x (U av len cap)).toArray 151)) (some kp)):=QD aE (QE ab (some kp));have aU:=T.lt;have R3:Hid (R=VB sub en (r1.length+1) 1 [row].flatten r1):=by show _=_;rw [<-I];simp
   have aX:w.heap.size<=w2.heap.size:=oM;clear T aB aE ab hp I;go_wp2_with fail
   go_loopg [3] (r1.length) (λgk a wr=>∃ (g c cap nn:Nat) (S:List (Wt.Nd × vW)) (o:List (List Wt.Nd)) (j:List Wlx.TV),a=U (some ⟨g,0,none⟩) c cap/\gk=j.length/\S.length=c/\o.length=c/\1<=c/\c<=30/\j.length<=r1.length/\kp<g/\w.heap.size<=g/\Hid (j <:+ r1)/\Hid (R=VB sub en (j.length+1) c o.flatten j)/\Hid (wr.ownsRow w.heap.size 151 21 (U (some ⟨g,0,none⟩) c cap) c (Jj S))/\Hid (∀ i (h:i<S.length) (h':i<o.length),PtIs wr (λb=>w.heap.size<=b/\b ≠ g) nn (S[i]).1 (S[i]).2 (o[i]))/\PSt wr kp j en/\Hid (w.grownBy wr (some kp))/\Env wr)
   case atStart=>exact ⟨w2.heap.size,1,1,nn,[(x,U av len cap)],[row],r1,rfl,rfl,rfl,rfl,oM,oM,bZ _,aU,aX,(List.suffix_refl _:r1 <:+ r1),R3,O3,P3,h3,aF,aC⟩
   case round =>
    clear O3 P3 h3 aC aF R3;obtain ⟨g,c,aA,W,S,o,j,rfl,a9,aL,aM,a8,a4,bf,bb,aY,aW,ER,OW,PP,hS,hG,ar⟩:=hrel;have TC:=Qw kp j en [41] wr hS oM;cases ag:tk j [41] with
    | some r =>
     rw [ag] at TC;simp only at TC;have I:Hid (R=.inl (c,o.flatten,r)):=by
      have:=ER.out;simp only [VB,ag] at this;exact this
     go_wp2_with fail
     refine TC.mono ?_;rintro e w3 ⟨rfl,h4,F⟩;go_wp2_with fail
     go_ret;rw [I.out];have aQ:=OW.out.kept F (Or.inr (by intro e;have:g=kp:=Option.some.inj e;omega));exact ⟨_,rfl,⟨W,some ⟨g,0,none⟩,aA,S,o,rfl,aL,aM,rfl,λi h h'=>⟨g,rfl,aY,zIv aQ aL.symm i h,PtIs.mono (λb X=>X.1) W (PtIs.keep (λk hk T=>F.block k T (by intro e;have:=Option.some.inj e;have:=hk.1;omega)) W (PP.out i h h'))⟩⟩,h4,QD hG F⟩
    | none =>
     rw [ag] at TC;simp only at TC;have ap:=aW.out;have C:=ER.out;simp only [VB,ag] at C;by_cases af:c=30/\V6 (hd j en) [44]=true
     ·rw [if_pos af] at C;have I:Hid (R=.inr (3,pos j en)):=C;clear C ER;obtain ⟨a3,hm⟩:=af;have ai:(c:Int)=30:=oM;go_wp2_with fail
      refine TC.mono ?_;rintro e w3 ⟨rfl,h4,F⟩;go_wp2_with fail
      refine (JJ kp j en _ h4).mono ?_;rintro e w4 ⟨rfl,K⟩;go_wp2_with fail
      refine (zA2 (hd j en) [44] _).mono ?_;rintro e w5 ⟨rfl,L⟩;rw [hm];have h5:=(h4.below K).below L;have l:=QD F (QD (QE K (some kp)) (QE L (some kp)));clear h4 F K L;go_wp2_with fail
      refine (zCO kp j en 3 _ h5).mono ?_;rintro e w6 ⟨rfl,aT⟩;unfold JY;go_wp2_with fail
      rw [I.out];exact ⟨rfl,rfl,QD hG (QD l (QE aT (some kp)))⟩
     ·rw [if_neg af] at C;by_cases h3:c=30
      ·have hm:V6 (hd j en) [44]=false:=by
        cases hq:V6 (hd j en) [44] with
        | false=>rfl
        | true=>exact absurd ⟨h3,hq⟩ af
       have E:tk j [44]=none:=by
        cases j with
        | nil=>rfl
        | cons t r =>
         have aV:V6 t [44]=false:=hm;simp only [tk,aV];rfl
       rw [E] at C;have I:Hid (R=.inr (50,pos j en)):=C;clear C ER;have ai:(c:Int)=30:=oM;go_wp2_with fail
       refine TC.mono ?_;rintro e w3 ⟨rfl,h4,F⟩;go_wp2_with fail
       refine (JJ kp j en _ h4).mono ?_;rintro e w4 ⟨rfl,K⟩;go_wp2_with fail
       refine (zA2 (hd j en) [44] _).mono ?_;rintro e w5 ⟨rfl,L⟩;rw [hm];have h5:=(h4.below K).below L;have l:=QD F (QD (QE K (some kp)) (QE L (some kp)));clear h4 F K L;go_wp2_with fail
       refine (Qw kp j en [44] _ h5 oM).mono ?_;rintro e w6 s;rw [E] at s;obtain ⟨rfl,h6,u⟩:=s;go_wp2_with fail
       refine (Qp kp j en _ h6).mono ?_;rintro e w7 ⟨rfl,au⟩;unfold JY;go_wp2_with fail
       rw [I.out];exact ⟨rfl,rfl,QD hG (QD l (QD u (QE au (some kp))))⟩
      ·cases E:tk j [44] with
       | none =>
        rw [E] at C;have I:Hid (R=.inr (50,pos j en)):=C;clear C ER;have ai:¬ (c:Int)=30:=oM;go_wp2_with fail
        refine TC.mono ?_;rintro e w5 ⟨rfl,h5,l⟩;go_wp2_with fail
        refine (Qw kp j en [44] _ h5 oM).mono ?_;rintro e w6 s;rw [E] at s;obtain ⟨rfl,h6,u⟩:=s;go_wp2_with fail
        refine (Qp kp j en _ h6).mono ?_;rintro e w7 ⟨rfl,au⟩;unfold JY;go_wp2_with fail
        rw [I.out];exact ⟨rfl,rfl,QD hG (QD l (QD u (QE au (some kp))))⟩
       | some r =>
        rw [E] at C;simp only at C;obtain ⟨aN,bg⟩:=JH E;have an:∀ t ∈ r,Qd t:=λt ht=>ax t (((aN.trans ap).trans aq).subset ht)
        cases ad:sub r with
        | inr q =>
         obtain ⟨c7,p7⟩:=q;rw [ad] at C;have I:Hid (R=.inr (c7,p7)):=C;clear C ER;have ai:¬ (c:Int)=30:=oM;go_wp2_with fail
         refine TC.mono ?_;rintro e w5 ⟨rfl,h5,l⟩;go_wp2_with fail
         refine (Qw kp j en [44] _ h5 oM).mono ?_;rintro e w6 s;rw [E] at s;obtain ⟨rfl,h6,u⟩:=s;go_wp2_with fail
         refine (Qa kp _).mono ?_;rintro e a2 ⟨rfl,rfl⟩;have ah:=QD (QD hG l) u;have aa:=(ar.grown l H).grown u H;go_wp2_with fail
         refine (HF r _ h6 oM oM an aa).mono ?_;rintro e w7 s;rw [ad] at s;simp only [QT] at s;obtain ⟨rfl,M⟩:=s;unfold JY;go_wp2_with fail
         rw [I.out];exact ⟨rfl,rfl,QD ah M⟩
        | inl q =>
         obtain ⟨D,r2⟩:=q;rw [ad] at C;simp only at C;have ao:=ae _ _ _ ad;have be:=ao.length_le;have I:Hid (R=VB sub en (r2.length+1) (c+1) (o++[D]).flatten r2):=by
          show _=_
          rw [C,zJG ae en j.length (r2.length+1) _ _ _ oM oM];simp
         clear C ER;have ai:¬ (c:Int)=30:=oM;go_wp2_with fail
         refine TC.mono ?_;rintro e w5 ⟨rfl,h5,l⟩;go_wp2_with fail
         refine (Qw kp j en [44] _ h5 oM).mono ?_;rintro e w6 s;rw [E] at s;obtain ⟨rfl,h6,u⟩:=s;go_wp2_with fail
         refine (Qa kp _).mono ?_;rintro e a2 ⟨rfl,rfl⟩;have ah:=QD (QD hG l) u;have aa:=(ar.grown l H).grown u H;go_wp2_with fail
         refine (HF r _ h6 oM oM an aa).mono ?_;rintro e w7 s;rw [ad] at s;simp only [QT] at s;obtain ⟨v,rfl,hP,h7,M⟩:=s;obtain ⟨n7,x7,bk,rfl,hp⟩:=hP;obtain ⟨z,f,d,rfl⟩:=hp.one;have aG:=QD ah M;have aD:=aa.grown M H;have gg:=QD l (QD u M);have ba:=(OW.out.lt g rfl).2;have az:=OW.out.kept gg (Or.inr (by intro e;have:g=kp:=Option.some.inj e;omega));have bj:=gg.size;have a7:=M.size;have a6:=(QD l u).size;unfold ptV;go_wp2_with (first | ((with_reducible refine zAx ?_ (mX 28) ?_ x7 z f d ?_ ?_);rfl;rfl;rfl) | (at_builtin;refine zAM _ rfl _ _ 149 rfl w.heap.size 151 i0 (gX #[O J 0,O J 0,O J 0,O J 0,V ⟨#[]⟩,Y false,O J 0,O J 0,V ⟨#[]⟩,O J 0,V ⟨#[]⟩,O J 0,O J 0,Y false,Y false,V ⟨#[]⟩,O J 0,O J 0,Y false,Y false,U none 0 0]) 21 200 underlying149 hi aZ a0 a1 rfl dM _ _ _ rfl (az.alloc _) ⟨w7.heap.size,0,none⟩ 1 1 (QK x7 (U z f d)) rfl rfl (zPO _ _ _) (zM3 _ _ rfl) (by unfold maxLen;omega) oM (by simp;omega) ?_))
         intro vg w9 N y aH aw;have ac:=QJ (cZ _ w7) (Z (QK x7 (U z f d)).toArray 151);obtain ⟨g',al,rfl,aP,a5⟩:=zLa (m:=0) N;have am:g'=g \/ g'=w7.heap.size+1:=by
          rcases aH with h | h
          ·left;exact Option.some.inj h
          ·right;have:=Option.some.inj h;simpa using this
         have aK:kp<g':=by rcases am with h | h <;> omega
         have aR:Hid (w9.ownsRow w.heap.size 151 21 (U (some ⟨g',0,none⟩) (c+1) al) (c+1) (Jj (S++[(x7,U z f d)]))):=by
          show rZ _ _ _ _ _ _ _
          rw [zIp,zDz];exact N
         have K9:∀ {m:Nat} {x:Wt.Nd} {sl:vW} {row:List Wt.Nd},PtIs w7 (λb=>w.heap.size<=b/\b ≠ g) m x sl row->PtIs w9 (λb=>w.heap.size<=b/\b ≠ g') m x sl row:=λ{m} {_} {_} {_} hq =>
          PtIs.mono (G:=λb=>(w.heap.size<=b/\b ≠ g)/\b ≠ g') (λb X=>⟨X.1.1,X.2⟩) m (PtIs.keep (λk hk T=>y.block k T (by intro e;have:k=g:=Option.some.inj e;exact hk.1.2 this)) m (PtIs.keep (λk _ T=>ac.block k T) m (PtIs.inside (λb X hl=>⟨X,by rcases am with h | h;exact h ▸ X.2;omega⟩) m hq)))
         have aS:Hid (∀ i (h:i<(S++[(x7,U z f d)]).length) (h':i<(o++[D]).length),PtIs w9 (λb=>w.heap.size<=b/\b ≠ g') (max W n7) ((S++[(x7,U z f d)])[i]).1 ((S++[(x7,U z f d)])[i]).2 ((o++[D])[i])):=by
          intro i h h';by_cases aJ:i<S.length
          ·have ak:i<o.length:=oM;rw [oZ aJ,oZ ak];exact K9 ((PtIs.keep (λk hk T=>gg.block k T (by intro e;have:=Option.some.inj e;have:=hk.1;omega)) W (PP.out i aJ ak)).upto (Nat.le_max_left _ _))
          ·have ak:i=S.length:=by simp at h;omega
           have e1:(S++[(x7,U z f d)])[i]=(x7,U z f d):=by subst ak;simp
           have e2:(o++[D])[i]=D:=by
            have:i=o.length:=oM;subst this;simp
           rw [e1,e2];exact K9 ((PtIs.mono (λb X=>⟨by have aI:=X;omega,by have aI:=X;omega⟩) n7 hp).upto (Nat.le_max_right _ _))
         have S9:=(h7.below ac).row y (λb e=>by have:g=b:=Option.some.inj e;omega);have G9:Hid (w.grownBy w9 (some kp)):=zJI (QD aG (QE ac (some kp))) y (λb e=>by have:g=b:=Option.some.inj e;omega);have E9:=(aD.below ac).row y (λb e=>by have:g=b:=Option.some.inj e;omega);have aO:Hid (r2 <:+ r1):=(ao.trans aN).trans ap;clear y N aH aw ac az K9 hp PP OW h7 aD aG h6 u aa ah h5 l M gg hS hG ar TC;go_wp2_with fail
         go_roundg r2.length
         case rel=>exact ⟨g',c+1,al,max W n7,S++[(x7,U z f d)],o++[D],r2,rfl,rfl,by simp;omega,by simp;omega,oM,oM,oM,aK,aP,aO,I,aR,aS,S9,G9,E9⟩
         case measure=>omega
theorem zIJ (kp:Nat) (en:Int) (M N:List Wlx.TV->PR) (n:Nat) (HS:∀ m,m<n->Vp kp en 175 M m) (HP:Vp kp en 201 N n) (ts:List Wlx.TV) (w:wW) (h:PSt w kp ts en) (hn:ts.length<=n) (ae:ts.length<=1024) (ad:∀ t ∈ ts,Qd t) (hE:Env w) (X:8<=kp) :
  Calls prog 175 #[pX (some ⟨kp,0,none⟩)] w λe w'=>QT kp en (psg M N ts) w e w':=by
 have l:=QJ (cZ _ w) (Z zP0 151);have pZ:AtL (w.alloc (Z zP0 151)) w.heap.size (QK (bare 0) (U none 0 0)):=AtL.new0 w _ _;have h0:=h.below l;have A:=hE.below l;have aj:=h.lt;have T1:=zAJ kp ts en 5 _ h0 ae A.1;unfold psg;cases ht:Jc 5 ts with
 | none =>
  simp only;cases hs:N ts with
  | inr q =>
   obtain ⟨c,p⟩:=q;simp only [QT];go_enter func175,ntmps175;go_wp2_with fail
   generalize w.alloc (Z zP0 151)=wa at *;refine T1.mono ?_;rintro e C g;rw [ht] at g;simp only [JT] at g;obtain ⟨rfl,H,f⟩:=g;have i:=pZ.grown f (by intro e;have:=Option.some.inj e;omega);have u:=QD (QE l (some kp)) f;have s:=A.grown f X;clear pZ h0 l A T1 f;have d:=QJ (cZ _ C) (Z #[O J 0,V ⟨#[]⟩,O J 0] 223);go_wp2_with fail
   refine (HP ts _ (H.below d) hn ae ad (s.below d)).mono ?_;rintro e D g;rw [hs] at g;simp only [QT] at g;obtain ⟨rfl,L⟩:=g;unfold JY;go_wp2;exact ⟨rfl,rfl,QD (QD u (QE d (some kp))) L⟩
  | inl q =>
   obtain ⟨row,r2⟩:=q;simp only [QT];go_enter func175,ntmps175;go_wp2_with fail
   generalize w.alloc (Z zP0 151)=wa at *;refine T1.mono ?_;rintro e C g;rw [ht] at g;simp only [JT] at g;obtain ⟨rfl,H,f⟩:=g;have i:=pZ.grown f (by intro e;have:=Option.some.inj e;omega);have u:=QD (QE l (some kp)) f;have s:=A.grown f X;clear pZ h0 l A T1 f;have d:=QJ (cZ _ C) (Z #[O J 0,V ⟨#[]⟩,O J 0] 223);have aI:=i.lt;go_wp2_with fail
   refine (HP ts _ (H.below d) hn ae ad (s.below d)).mono ?_;rintro e D g;rw [hs] at g;simp only [QT] at g;obtain ⟨v,rfl,hP,h3,L⟩:=g;have F:=(AtL.below d i).grown L (by intro e;have:=Option.some.inj e;omega);have W:=QD (QD u (QE d (some kp))) L;simp only [World.size_alloc] at hP;obtain ⟨nn,x,sl,rfl,hp⟩:=hP;obtain ⟨R,len,cap,rfl⟩:=hp.one;have aA:dZ D w.heap.size 0 (QK x (U R len cap)).toArray.size:=F.there;clear i u s H L d;unfold ptV;go_wp2_with ((with_reducible refine wpList_store_mid ?_ 151 (mX 2) (mX 17) ?_ (w.heap.size) 0 (QK x (U R len cap)).toArray ?_ ?_ ?_ ?_ ?_ ?_);rfl;rfl;rfl;rfl;exact aA;kernel_rfl;exact Qs _ _ rfl)
   have aD:AtL (D.setCells w.heap.size 0 (QK x (U R len cap))) w.heap.size (QK x (U R len cap)):=F.setAll rfl;refine bodyPost_ret (QQ rfl _ _ w.heap.size (QK x (U R len cap)) _ rfl aD.range underlying151 rfl kR) rfl ?_;exact ⟨_,rfl,(Pt.far (show Pt D _ (ptV x (U R len cap)) row from ⟨nn,x,_,rfl,hp⟩) oM 0 _).mono oM,h3.farAll aj _ 0,QR W (bZ _) _ 0⟩
 | some q =>
  obtain ⟨⟨o,m,t⟩,r⟩:=q;obtain ⟨am,aF⟩:=Qu ht;have aa:∀ t ∈ r,Qd t:=λt h=>ad t (am.subset h)
  simp only;cases hs:M r with
  | inr q =>
   obtain ⟨c,p⟩:=q;simp only [QT];go_enter func175,ntmps175;go_wp2_with fail
   generalize w.alloc (Z zP0 151)=wa at *;refine T1.mono ?_;rintro e C g;rw [ht] at g;simp only [JT] at g;obtain ⟨rfl,H,f⟩:=g;have i:=pZ.grown f (by intro e;have:=Option.some.inj e;omega);have u:=QD (QE l (some kp)) f;have s:=A.grown f X;clear pZ h0 l A T1 f;go_upto_region 3 with fail
   have d:=QJ (cZ _ C) (Z #[O J o,V ⟨m.toArray⟩,O J t] 223);have pO:=AtL.new0 C 223 [O J o,V ⟨m.toArray⟩,O J t];have ah:=AtL.below d i;have h2:=H.below d;have ab:=s.below d;have ac:=QD u (QE d (some kp));have ax:kp<C.heap.size:=H.lt;have aB:=i.lt;clear i H s u d;generalize C.alloc (Z #[O J o,V ⟨m.toArray⟩,O J t] 223)=T at *;generalize C.heap.size=ko at *;refine wp_region_held_drew (S:=OpS ko 0 o ⟨m.toArray⟩ t) kR (Qq (AtL.drew pO)) (λj=>?_);refine tkQ 0 ?_
   refine tkQ 1 ?_
   refine rdQ 2 (λK I=>?_);go_simp
   have y:bL T T.drew:=(cZ _ _).drew;refine (HS r.length oM r T.drew (h2.below y) (bZ _) oM aa (ab.below y)).mono ?_;rintro e D g;rw [hs] at g;simp only [QT] at g;obtain ⟨rfl,L⟩:=g;unfold JY;go_wp2;exact ⟨rfl,rfl,QD (QD ac (QE y (some kp))) L⟩
  | inl q =>
   obtain ⟨row,r2⟩:=q;simp only [QT];go_enter func175,ntmps175;go_wp2_with fail
   generalize w.alloc (Z zP0 151)=wa at *;refine T1.mono ?_;rintro e C g;rw [ht] at g;simp only [JT] at g;obtain ⟨rfl,H,f⟩:=g;have i:=pZ.grown f (by intro e;have:=Option.some.inj e;omega);have u:=QD (QE l (some kp)) f;have s:=A.grown f X;clear pZ h0 l A T1 f;go_upto_region 3 with fail
   have d:=QJ (cZ _ C) (Z #[O J o,V ⟨m.toArray⟩,O J t] 223);have pO:=AtL.new0 C 223 [O J o,V ⟨m.toArray⟩,O J t];have ah:=AtL.below d i;have h2:=H.below d;have ab:=s.below d;have ac:=QD u (QE d (some kp));have ax:kp<C.heap.size:=H.lt;have aB:=i.lt;clear i H s u d;generalize C.alloc (Z #[O J o,V ⟨m.toArray⟩,O J t] 223)=T at *;generalize C.heap.size=ko at *;refine wp_region_held_drew (S:=OpS ko 0 o ⟨m.toArray⟩ t) kR (Qq (AtL.drew pO)) (λj=>?_);refine tkQ 0 ?_
   refine tkQ 1 ?_
   refine rdQ 2 (λK I=>?_);go_simp
   have y:bL T T.drew:=(cZ _ _).drew;refine (HS r.length oM r T.drew (h2.below y) (bZ _) oM aa (ab.below y)).mono ?_;rintro e D g;rw [hs] at g;simp only [QT] at g;obtain ⟨v,rfl,hP,h3,L⟩:=g;have F:=(AtL.below y ah).grown L (by intro e;have:=Option.some.inj e;omega);have af:=(AtL.below y pO).grown L (by intro e;have:=Option.some.inj e;omega);have W:=QD (QD ac (QE y (some kp))) L;have aH:T.drew.heap.size=T.heap.size:=rfl;have aJ:=ah.lt;have aG:=pO.lt;obtain ⟨nn,x,sl,rfl,hp⟩:=hP;obtain ⟨R,len,cap,rfl⟩:=hp.one;have ak:=PtIs.mono (G':=λb=>w.heap.size+1<=b) (λb hb=>by have aE:T.drew.heap.size<=b:=hb;omega) nn hp;clear hp L y;unfold ptV;go_wp2_with fail
   refine hkQ I (Qq af) (λj=>?_);clear I K
   refine rdQ 3 (λK I=>?_);refine zMh (mX 13) rfl x R len cap rfl ?_;have E:=QJ (cZ _ D) (Z (QK x (U R len cap)).toArray 151);have ap:=AtL.new0 D 151 (QK x (U R len cap));have ay:w.heap.size+1<=D.heap.size:=by have:=F.lt;omega
   have al:=PtIs.keep (λk _ h2=>E.block k h2) nn ak;have an:=PtIs.un (G:=λb=>w.heap.size+1<=b) (z:=opN (Qz t) o) al ay ap.range;have h4:=h3.below E;have ar:=AtL.below E F;have ag:=AtL.below E af;have ai:=QD W (QE E (some kp));refine hkQ I (Qq ag) (λj=>?_);clear I K F af h3 W ak al ap E
   refine rdQ 4 (λK I=>?_);go_simp
   refine (zAG o ⟨m.toArray⟩ t (some ⟨D.heap.size,0,none⟩) 1 1 _).mono ?_;rintro e w5 ⟨rfl,hb⟩;have h5:=h4.below hb;have au:=AtL.below hb ar;have aq:=AtL.below hb ag;have aw:=QD ai (QE hb (some kp));have ao:=PtIs.keep (λk _ h2=>hb.block k h2) _ an;clear h4 ar ag ai an hb;go_wp2_with fail
   refine hkQ I (Qq aq) (λj=>?_);clear I K
   refine rdQ 5 (λK I=>?_);unfold ptV;refine wp_store_mid 151 (mX 2) (mX 15) rfl w.heap.size 0 (QK (opN (Qz t) o) (U (some ⟨D.heap.size,0,none⟩) 1 1)).toArray rfl rfl au.there kR (Qs _ _ rfl) ?_;have az:w.heap.size ≠ ko:=oM;have aC:AtL (w5.setCells w.heap.size 0 (QK (opN (Qz t) o) (U (some ⟨D.heap.size,0,none⟩) 1 1))) w.heap.size (QK (opN (Qz t) o) (U (some ⟨D.heap.size,0,none⟩) 1 1)):=au.setAll rfl;refine I.out _ _ (Qq (aq.farAll az 0 _)) (λj=>?_);clear I K;try simp only [Act.put]
   refine wpAnyH_done kR ?_ _;go_wp2_with fail
   refine bodyPost_ret (QQ rfl _ _ w.heap.size (QK (opN (Qz t) o) (U (some ⟨D.heap.size,0,none⟩) 1 1)) _ rfl aC.range underlying151 rfl kR) rfl ?_;exact ⟨_,rfl,(Pt.far (show Pt w5 (w.heap.size+1) (ptV (opN (Qz t) o) _) _ from ⟨_,_,_,rfl,ao⟩) (Nat.lt_succ_self _) 0 _).mono (Nat.le_succ _),h5.farAll aj _ 0,QR aw (bZ _) _ 0⟩
def zOm (kp:Nat) (en:Int) (F:Nat) (K:Int) (sub:List Wlx.TV->PR) (n:Nat):Prop :=
 ∀ (ts:List Wlx.TV) (w:wW),PSt w kp ts en->ts.length<=n->ts.length<=1024->(∀ t ∈ ts,Qd t)->(hd ts en).k=K->Env w->Calls prog F #[pX (some ⟨kp,0,none⟩)] w λe w'=>QT kp en (sub ts) w e w'
theorem zK1 (kp:Nat) (en:Int) (I H:List Wlx.TV->PR) (n:Nat) (HW:zOm kp en 249 3 I n) (HB:zOm kp en 250 5 H n) (ts:List Wlx.TV) (w:wW) (h:PSt w kp ts en) (hn:ts.length<=n) (C:ts.length<=1024) (A:∀ t ∈ ts,Qd t) (hE:Env w) (W:8<=kp) :
  Calls prog 221 #[pX (some ⟨kp,0,none⟩)] w λe w'=>QT kp en (psi en I H ts) w e w':=by
 have d:=QJ (cZ _ w) (Z zP0 151);have D:AtL (w.alloc (Z zP0 151)) w.heap.size (QK (bare 0) (U none 0 0)):=AtL.new0 w _ _;have o:=h.below d;have j:=hE.below d;have S:=h.lt;have N:=λw h=>JJ kp ts en w h
 have ac:=zFM;unfold psi;obtain ⟨t,ht⟩:=xV (hd ts en)
 rw [ht] at N ⊢;obtain ⟨k,x0,p0⟩:=t;have L:Hid ((hd ts en).k=k):=by show _=_;rw [ht]
 clear ht;unfold tkV at N;simp only at N ⊢;by_cases K:k=3
 ·subst K;rw [if_pos rfl];cases R:I ts with
  | inr q =>
   obtain ⟨c,p⟩:=q;simp only [QT];go_enter func221,ntmps221;go_wp2_with fail
   generalize w.alloc (Z zP0 151)=wa at *;refine (N _ o).mono ?_;rintro e w1 ⟨rfl,b⟩;have i:=AtL.below b D;have y:=o.below b;have f:=j.below b;have g:=QE (QA d b) (some kp);clear b D o d j N;go_wp2_with fail
   refine (HW ts _ y hn C A L.out f).mono ?_;rintro e z l;rw [R] at l;simp only [QT] at l;obtain ⟨rfl,s⟩:=l;unfold JY;go_wp2;exact ⟨rfl,rfl,QD g s⟩
  | inl q =>
   obtain ⟨row,r2⟩:=q;simp only [QT];go_enter func221,ntmps221;go_wp2_with fail
   generalize w.alloc (Z zP0 151)=wa at *;refine (N _ o).mono ?_;rintro e w1 ⟨rfl,b⟩;have i:=AtL.below b D;have y:=o.below b;have f:=j.below b;have g:=QE (QA d b) (some kp);clear b D o d j N;have X:=i.lt;go_wp2_with fail
   refine (HW ts _ y hn C A L.out f).mono ?_;rintro e z l;rw [R] at l;simp only [QT] at l;obtain ⟨v,rfl,T,K,s⟩:=l;have u:=i.grown s (by intro e;have:=Option.some.inj e;omega);have E:=QD g s;obtain ⟨nn,x,sl,rfl,M⟩:=T;obtain ⟨m,len,cap,rfl⟩:=M.one;have F:dZ z w.heap.size 0 (QK x (U m len cap)).toArray.size:=u.there;clear i g f y s;unfold ptV;go_wp2_with ((with_reducible refine wpList_store_mid ?_ 151 (mX 2) (mX 9) ?_ (w.heap.size) 0 (QK x (U m len cap)).toArray ?_ ?_ ?_ ?_ ?_ ?_);rfl;rfl;rfl;rfl;exact F;kernel_rfl;exact Qs _ _ rfl)
   have G:AtL (z.setCells w.heap.size 0 (QK x (U m len cap))) w.heap.size (QK x (U m len cap)):=u.setAll rfl;refine bodyPost_ret (QQ rfl _ _ w.heap.size (QK x (U m len cap)) _ rfl G.range underlying151 rfl kR) rfl ?_;exact ⟨_,rfl,(Pt.far (show Pt z _ (ptV x (U m len cap)) row from ⟨nn,x,_,rfl,M⟩) oM 0 _).mono oM,K.farAll S _ 0,QR E (bZ _) _ 0⟩
 rw [if_neg K];have aa:(k == 3)=false:=by simp [K]
 by_cases h5:k=5
 ·subst h5;rw [if_pos rfl];cases R:H ts with
  | inr q =>
   obtain ⟨c,p⟩:=q;simp only [QT];go_enter func221,ntmps221;go_wp2_with fail
   generalize w.alloc (Z zP0 151)=wa at *;refine (N _ o).mono ?_;rintro e w1 ⟨rfl,b⟩;have i:=AtL.below b D;have y:=o.below b;have f:=j.below b;have g:=QE (QA d b) (some kp);clear b D o d j N;go_wp2_with fail
   refine (HB ts _ y hn C A L.out f).mono ?_;rintro e z l;rw [R] at l;simp only [QT] at l;obtain ⟨rfl,s⟩:=l;unfold JY;go_wp2;exact ⟨rfl,rfl,QD g s⟩
  | inl q =>
   obtain ⟨row,r2⟩:=q;simp only [QT];go_enter func221,ntmps221;go_wp2_with fail
   generalize w.alloc (Z zP0 151)=wa at *;refine (N _ o).mono ?_;rintro e w1 ⟨rfl,b⟩;have i:=AtL.below b D;have y:=o.below b;have f:=j.below b;have g:=QE (QA d b) (some kp);clear b D o d j N;have X:=i.lt;go_wp2_with fail
   refine (HB ts _ y hn C A L.out f).mono ?_;rintro e z l;rw [R] at l;simp only [QT] at l;obtain ⟨v,rfl,T,K,s⟩:=l;have u:=i.grown s (by intro e;have:=Option.some.inj e;omega);have E:=QD g s;obtain ⟨nn,x,sl,rfl,M⟩:=T;obtain ⟨m,len,cap,rfl⟩:=M.one;have F:dZ z w.heap.size 0 (QK x (U m len cap)).toArray.size:=u.there;clear i g f y s;unfold ptV;go_wp2_with ((with_reducible refine wpList_store_mid ?_ 151 (mX 2) (mX 13) ?_ (w.heap.size) 0 (QK x (U m len cap)).toArray ?_ ?_ ?_ ?_ ?_ ?_);rfl;rfl;rfl;rfl;exact F;kernel_rfl;exact Qs _ _ rfl)
   have G:AtL (z.setCells w.heap.size 0 (QK x (U m len cap))) w.heap.size (QK x (U m len cap)):=u.setAll rfl;refine bodyPost_ret (QQ rfl _ _ w.heap.size (QK x (U m len cap)) _ rfl G.range underlying151 rfl kR) rfl ?_;exact ⟨_,rfl,(Pt.far (show Pt z _ (ptV x (U m len cap)) row from ⟨nn,x,_,rfl,M⟩) oM 0 _).mono oM,K.farAll S _ 0,QR E (bZ _) _ 0⟩
 rw [if_neg h5];have ab:(k == 5)=false:=by simp [h5]
 cases R:pl ts en with
 | inr q =>
  obtain ⟨c,p⟩:=q;simp only [QT];go_enter func221,ntmps221;go_wp2_with fail
  generalize w.alloc (Z zP0 151)=wa at *;refine (N _ o).mono ?_;rintro e w1 ⟨rfl,b⟩;have i:=AtL.below b D;have y:=o.below b;have f:=j.below b;have g:=QE (QA d b) (some kp);clear b D o d j N;go_wp2_with fail
  refine (zBW kp ts en _ y C A f W).mono ?_;rintro e z l;rw [R] at l;simp only [QT] at l;obtain ⟨rfl,s⟩:=l;unfold JY;go_wp2;exact ⟨rfl,rfl,QD g s⟩
 | inl q =>
  obtain ⟨row,r2⟩:=q;simp only [QT];go_enter func221,ntmps221;go_wp2_with fail
  generalize w.alloc (Z zP0 151)=wa at *;refine (N _ o).mono ?_;rintro e w1 ⟨rfl,b⟩;have i:=AtL.below b D;have y:=o.below b;have f:=j.below b;have g:=QE (QA d b) (some kp);clear b D o d j N;have X:=i.lt;go_wp2_with fail
  refine (zBW kp ts en _ y C A f W).mono ?_;rintro e z l;rw [R] at l;simp only [QT] at l;obtain ⟨v,rfl,T,K,s⟩:=l;have u:=i.grown s (by intro e;have:=Option.some.inj e;omega);have E:=QD g s;obtain ⟨nn,x,sl,rfl,M⟩:=T;obtain ⟨m,len,cap,rfl⟩:=M.one;have F:dZ z w.heap.size 0 (QK x (U m len cap)).toArray.size:=u.there;clear i g f y s;unfold ptV;go_wp2_with ((with_reducible refine wpList_store_mid ?_ 151 (mX 2) (mX 15) ?_ (w.heap.size) 0 (QK x (U m len cap)).toArray ?_ ?_ ?_ ?_ ?_ ?_);rfl;rfl;rfl;rfl;exact F;kernel_rfl;exact Qs _ _ rfl)
  have G:AtL (z.setCells w.heap.size 0 (QK x (U m len cap))) w.heap.size (QK x (U m len cap)):=u.setAll rfl;refine bodyPost_ret (QQ rfl _ _ w.heap.size (QK x (U m len cap)) _ rfl G.range underlying151 rfl kR) rfl ?_;exact ⟨_,rfl,(Pt.far (show Pt z _ (ptV x (U m len cap)) row from ⟨nn,x,_,rfl,M⟩) oM 0 _).mono oM,K.farAll S _ 0,QR E (bZ _) _ 0⟩
theorem zLN (sub:List Wlx.TV->PR) (en:Int) (nm:List UInt8) (ts:List Wlx.TV):VL sub en nm ts=(match paa sub en ts with
  | .inr e=>.inr e
  | .inl (c,rows,r)=>.inl (Js ⟨nm.toArray⟩ c::rows,r)):=by
 unfold VL paa;cases tk ts [41] with
 | some r=>rfl
 | none =>
  simp only;cases sub ts with
  | inr e=>rfl
  | inl q =>
   obtain ⟨row,r⟩:=q;simp only;cases VB sub en (r.length+1) 1 row r with
   | inr e=>rfl
   | inl q=>rfl
theorem zKZ (sub:List Wlx.TV->PR) (en:Int) (ts:List Wlx.TV):VD sub en ts=pwd (pca (paa sub en) en) en ts:=by
 unfold VD pwd pca;simp only [zLN]<;>rfl
theorem zNP (en:Int) (f k:Nat) (b:k<5) (ts:List Wlx.TV):lv en (f+1) k ts=pbt (lv en f (k+1)) k ts:=by
 rw [lv,if_pos b];rfl
theorem zNI (en:Int) (f:Nat) (ts:List Wlx.TV):lv en (f+1) 5 ts=psg (lv en f 5) (lv en f 6) ts:=by
 rw [lv,if_neg dM,if_pos rfl];rfl
theorem zOE (en:Int) (f:Nat) (ts:List Wlx.TV):lv en (f+1) 6 ts=ppc (lv en f 7) ts:=by
 rw [lv,if_neg dM,if_neg dM,if_pos rfl];rfl
theorem zMy (en:Int) (f:Nat) (ts:List Wlx.TV):lv en (f+1) 7 ts=psi en (VD (lv en f 0) en) (J8 (lv en f 0) en) ts:=by
 rw [lv,if_neg dM,if_neg dM,if_neg dM];rfl
structure Tied (kp:Nat) (en:Int) (f:Nat):Prop where
 bet:∀ k n,k<=5->10 * n+9 - k<=f->zLu kp en k (lv en f k) n
 sgn:∀ n,10 * n+4<=f->Vp kp en 175 (lv en f 5) n
 pct:∀ n,10 * n+3<=f->Vp kp en 201 (lv en f 6) n
 sin:∀ n,10 * n+2<=f->Vp kp en 221 (lv en f 7) n
theorem Tied.form {kp:Nat} {f:Nat} (h:Tied kp en f) (n:Nat) (b:10 * n+9<=f):zCH kp en (lv en f 0) n:=zET kp en _ n (h.bet 0 n oM oM)
theorem zCK (en:Int):(hd [] en).k=0:=rfl
theorem zRl (kp:Nat) (en:Int) (e:8<=kp):∀ f,Tied kp en f:=by
 intro f;induction f with
 | zero=>exact ⟨λk n _ h=>by omega,λn h=>by omega,λn h=>by omega,λn h=>by omega⟩
 | succ f l =>
  have g:=λk=>Jo en f k
  have S:∀ n,10 * n+4<=f+1->Vp kp en 175 (lv en (f+1) 5) n:=by
   intro n p ts w h j d b i;rw [zNI];exact zIJ kp en _ _ n (λm u=>l.sgn m oM) (l.pct n oM) ts w h j d b i e
  refine ⟨?_,S,?_,?_⟩
  ·intro k n s p;rcases Nat.lt_or_ge k 5 with h5 | h5
   ·intro ts w h j d b i;rw [zNP en f k h5];exact zEy kp en k h5 _ n (l.bet (k+1) n oM oM) (g (k+1)) ts w h j d b i e
   ·obtain rfl:k=5:=oM;exact zDG kp en _ n (S n oM)
  ·intro n p ts w h j d b i;rw [zOE];exact zDC kp en _ n (l.sin n oM) (g 7) ts w h j d b i e
  ·intro n p ts w h j d b i;rw [zMy];refine zK1 kp en _ _ n ?_ ?_ ts w h j d b i e
   ·intro ts w h j d b o i;cases ts with
    | nil=>exact absurd o (by rw [zCK];decide)
    | cons t r =>
     have q:=l.form r.length (by simp at j;omega);rw [zKZ];exact zLX kp en _ (r.length+2) (zLD kp en _ r.length (zC8 kp en _ r.length q (g 0) e) e) _ w h sM d b o i e
   ·intro ts w h j d b o i;cases ts with
    | nil=>exact absurd o (by rw [zCK];decide)
    | cons t r=>exact zCw kp en _ r.length (l.form r.length (by simp at j;omega)) (g 0) _ w h sM d b i e
theorem zGb (kp:Nat) (en:Int) (b:8<=kp) (n:Nat):zCH kp en (lv en (10 * n+9) 0) n:=(zRl kp en b _).form n (bZ _)
theorem zI2 {P:Prop} (h:Hid P):P:=h.out
theorem zDT {a b c:wW} {row:Option Nat} (d:a.grownBy b row) (e:b.grownBy c row):a.grownBy c row :=
 ⟨e.os.trans d.os,e.tape.trans d.tape,e.output.trans d.output,gZ d.size e.size,λk f g=>(e.block k (jZ f d.size) g).trans (d.block k f g)⟩
theorem PtIs.pos {G:Nat->Prop} {x:Wt.Nd} {row:List Wt.Nd} (h:PtIs w G n x sl row):0<row.length:=by
 cases n with
 | zero=>exact absurd h (by simp [PtIs])
 | succ n =>
  obtain ⟨_,_,_,_,_,_,rfl,_⟩:=h;simp
theorem zID:∀ (b:List (List Wt.Nd)),(∀ r ∈ b,0<r.length)->b.length<=b.flatten.length
 | [],_=>by simp
 | r::l,h=>by
  have e:=h r sM;have f:=zID l (λq d=>h q (by simp [d]));simp only [eZ,nZ,fZ];omega
theorem zRt (x:Wt.Nd) (w:wW):(Instr.buildSlice 100 1 #[(0,gX (QN x).toArray)]).run prog w=.ok (U (some ⟨w.heap.size,0,none⟩) 1 1) (w.alloc (Z (QN x).toArray 98)):=kR
theorem zN4 {K:Act->wW->Prop} (y:Operand) (b:op.op=.buildSlice 100 1 #[(0,y)]) (x:Wt.Nd) (d:a.eval y=gX (QN x).toArray)
  (h:K (a.put op.dst (U (some ⟨w.heap.size,0,none⟩) 1 1)) (w.alloc (Z (QN x).toArray 98))):op.wp prog a w K Q:=by
 unfold Oper.wp execOp;simp only [b,uZ,xZ,yZ,d,Sem.run_bind,Sem.run_pure,Result.andThen_ok,zRt];exact h
theorem zER {d:Array Oper} {b:List Oper} (e:op.guard=none) (y:Operand) (g:op.op=.buildSlice 100 1 #[(0,y)]) (x:Wt.Nd) (i:a.eval y=gX (QN x).toArray)
  (h:wpList prog d Q b (a.put op.dst (U (some ⟨w.heap.size,0,none⟩) 1 1)) (w.alloc (Z (QN x).toArray 98))):wpList prog d Q (op::b) a w :=
 wpList_plain e λ_ f=>zN4 y g x i (f _ _ h)
theorem zP9 (w:wW) (x:Wt.Nd) (j:Nat) (u:vW) (d:(QN x)[j]? = some u):(w.alloc (Z (QN x).toArray 98)).cell? ((⟨w.heap.size,0,none⟩:Addr).add j)=some u:=by
 have b:(⟨w.heap.size,0,none⟩:Addr).add j=⟨w.heap.size,0+j,none⟩:=by unfold Addr.add;split <;> simp_all
 rw [b];exact (AtL.new0 w 98 (QN x)).range j u d
theorem zPB (x:Wt.Nd) (u:vW) (b:u ∈ QN x):u.oneCell'=true:=zM3 x (U none 0 0) rfl u (by unfold QK;exact List.mem_append_left _ b)
def J6 (l:List Wt.Nd):List vW:=l.flatMap QN
theorem zIx (a b:List Wt.Nd):J6 (a++b)=J6 a++J6 b:=by simp [J6]
theorem zJM (x:Wt.Nd):J6 [x]=QN x:=by simp [J6]
def zRI (base:Nat) (v:vW) (l:List Wt.Nd) (w:wW) (e:Ending) (w':wW):Prop :=
 ∃ d,e=rX d/\w'.ownsRow base 98 20 d l.length (J6 l)/\w.grownBy w' v.ownBlock/\(d.ownBlock=v.ownBlock \/ ∃ b,d.ownBlock=some b/\w.heap.size<=b)
theorem zOD (base:Nat):∀ (n:Nat) (x:Wt.Nd) (sl:vW) (row:List Wt.Nd) (G:Nat->Prop) (v:vW) (pre:List Wt.Nd) (w:wW),PtIs w G n x sl row->w.ownsRow base 98 20 v pre.length (J6 pre)->(∀ b,G b->some b ≠ v.ownBlock)->base<=w.heap.size->pre.length+row.length<=100000 ->
  Calls prog 82 #[ptV x sl,v] w λe w'=>zRI base v (pre++row) w e w':=by
 intro n;induction n with
 | zero=>intro x sl row G v pre w h;exact absurd h (by simp [PtIs])
 | succ n ih =>
  intro x sl row G v pre w h F hG aq y;obtain ⟨s,cap,o,d,rfl,hl,rfl,hp⟩:=h;obtain ⟨i0,hi,aA,aB,aC⟩:=info_parts zL3;unfold ptV;have pXpX0:=AtL.new0 w 151 (QK x (U s o.length cap));have A:(w.alloc (Z (QK x (U s o.length cap)).toArray 151)).rangeAt w.heap.size 0 (QN x):=λj u T=>pXpX0.range j u (by
   unfold QK;rw [iZ (List.getElem?_eq_some_iff.1 T).1];exact T)
  have cX:(w.alloc (Z (QK x (U s o.length cap)).toArray 151)).cell? ⟨w.heap.size,20,none⟩=some (U s o.length cap):=pXpX0.range 20 _ rfl;have aw:∀ k,v.ownBlock=some k->k<w.heap.size:=λk E=>(F.lt k E).2
  have aL:o.length<=100000:=by
   have:=zID d (λr hr=>by
    obtain ⟨j,hj,e⟩:=List.getElem_of_mem hr;obtain ⟨_,_,_,_,hq⟩:=hp j oM hj;rw [<-e];exact hq.pos)
   simp only [eZ] at y;omega
  have aK:pre.length+1<=100000:=by simp at y;omega
  have am:(w.alloc (Z (QK x (U s o.length cap)).toArray 151)).heap.size=w.heap.size+1:=sM;have N5:∀ j u,(QN x)[j]? = some u->((w.alloc (Z (QK x (U s o.length cap)).toArray 151)).alloc (Z (QN x).toArray 98)).cell? ((⟨w.heap.size+1,0,none⟩:Addr).add j)=some u:=by
   intro j u T;have:=zP9 (w.alloc (Z (QK x (U s o.length cap)).toArray 151)) x j u T;rw [am] at this;exact this
  have ai:base<=((w.alloc (Z (QK x (U s o.length cap)).toArray 151)).alloc (Z (QN x).toArray 98)).heap.size:=by simp;omega
  have z:=(F.alloc (Z (QK x (U s o.length cap)).toArray 151)).alloc (Z (QN x).toArray 98);go_enter func82,ntmps82;go_wp2_with (first | ((with_reducible refine wpList_load_mid (cs:=QN x) ?_ 98 (mX 8) ?_ w.heap.size 0 ?_ _ ?_ underlying98 ?_ ?_ ?_);rfl;rfl;rfl;exact A;rfl;kernel_rfl) | ((with_reducible refine zER ?_ (mX 9) ?_ x ?_ ?_);rfl;rfl;rfl) | (at_builtin;refine zI2 ?_))
  show wpList _ _ _ _ _ _
  refine zAM _ rfl _ _ 100 rfl base 98 i0 (gX #[O J 0,O J 0,O J 0,O J 0,V ⟨#[]⟩,Y false,O J 0,O J 0,V ⟨#[]⟩,O J 0,V ⟨#[]⟩,O J 0,O J 0,Y false,Y false,V ⟨#[]⟩,O J 0,O J 0,Y false,Y false]) 20 176 underlying100 hi aA aB aC rfl dM _ _ _ rfl z ⟨w.heap.size+1,0,none⟩ 1 1 (QN x) rfl rfl N5 (zPB x) (by unfold maxLen;omega) oM ai ?_;intro v5 w5 q t ah R;have N:((w.alloc (Z (QK x (U s o.length cap)).toArray 151)).alloc (Z (QN x).toArray 98)).grownBy w5 v.ownBlock:=t;have ak:some w.heap.size ≠ v.ownBlock:=λe=>by have:=aw _ e.symm;omega
  have c5:w5.cell? ⟨w.heap.size,20,none⟩=some (U s o.length cap):=N.cell ((kZ _ _ v.ownBlock).cell cX ak) ak;have g5:w.grownBy w5 v.ownBlock:=zDT (kZ w _ _) (zDT (kZ _ _ _) N);have I:Hid (w5.ownsRow base 98 20 v5 (pre++[x]).length (J6 (pre++[x]))):=by
   show rZ _ _ _ _ _ _ _
   rw [zIx,zJM,fZ];exact q
  have ab:Hid (v5.ownBlock=v.ownBlock \/ ∃ b,v5.ownBlock=some b/\w.heap.size<=b):=by
   rcases ah with h | h
   ·exact .inl h
   ·exact .inr ⟨_,h,by simp;omega⟩
  have ar:∃ a c,v5=U a (pre.length+1) c:=by
   rcases q.2 with ⟨_,h0⟩ | ⟨g,cap,aH,e,_⟩
   ·omega
   ·exact ⟨_,_,e⟩
  have G5:Hid (w.grownBy w5 v.ownBlock):=g5;clear t N ah R q z cX A pXpX0 N5 ai am;go_wp2_with fail
  go_loopg [1,15] (o.length) (λgk a b wr=>∃ i:Nat,b=O J i/\gk=o.length - i/\i<=o.length/\Hid (wr.ownsRow base 98 20 a (pre++x::(d.take i).flatten).length (J6 (pre++x::(d.take i).flatten)))/\Hid (w.grownBy wr v.ownBlock)/\Hid (a.ownBlock=v.ownBlock \/ ∃ b,a.ownBlock=some b/\w.heap.size<=b))
  case atStart=>exact ⟨0,rfl,rfl,oM,I,G5,ab⟩
  case round =>
   clear I G5 ab;obtain ⟨i,rfl,aJ,aD,OW,C,W⟩:=hrel;by_cases ax:i<o.length
   ·have aj:(i:Int)<o.length:=oM;obtain ⟨bb,rfl,ap,hr,al⟩:=hp i ax oM;have ay:wr.rangeAt bb (i * 21) (QK (o[i]).1 (o[i]).2):=λj u T=>C.out.cell (hr j u T) (hG bb ap)
    obtain ⟨av',m,f,az⟩:=al.one;generalize aN:(o[i]).1=D at *;generalize aM:(o[i]).2=aO at *;subst az;have pN:=AtL.new0 wr 151 (QK (bare 0) (U none 0 0));have H:dZ (wr.alloc (Z zP0 151)) wr.heap.size 0 (QK D (U av' m f)).toArray.size:=pN.there;have pM:AtL ((wr.alloc (Z zP0 151)).setCells wr.heap.size 0 (QK D (U av' m f))) wr.heap.size (QK D (U av' m f)):=AtL.setAll pN rfl;have rM:=pM.range;have p:=Qm (QJ (cZ _ wr) (Z zP0 151)) (bZ wr.heap.size) (QK D (U av' m f)) 0;go_wp2_with (first | ((with_reducible refine wpList_load_mid (cs:=QK D (U av' m f)) ?_ 151 (mX 17) ?_ bb (i * 21) ?_ _ ?_ underlying151 ?_ ?_ ?_);rfl;rfl;rfl;exact ay;rfl;kernel_rfl) | ((with_reducible refine wpList_store_mid ?_ 151 (mX 6) (mX 18) ?_ (wr.heap.size) 0 (QK D (U av' m f)).toArray ?_ ?_ ?_ ?_ ?_ ?_);rfl;rfl;rfl;rfl;exact H;kernel_rfl;exact Qs _ _ rfl) | ((with_reducible refine wpList_load_mid (cs:=QK D (U av' m f)) ?_ 151 (mX 6) ?_ wr.heap.size 0 ?_ _ ?_ underlying151 ?_ ?_ ?_);rfl;rfl;rfl;exact rM;rfl;kernel_rfl))
    generalize ((wr.alloc (Z zP0 151)).setCells wr.heap.size 0 (QK D (U av' m f)))=wM at *;have au:i<d.length:=oM;have an:d.take (i+1)=d.take i++[d[i]]:=by rw [List.take_add_one,List.getElem?_eq_getElem au];rfl
    have aI:(d.take i).flatten.length+(d[i]).length<=d.flatten.length:=by
     have:=congrArg (λl=>l.flatten.length) (List.take_append_drop (i+1) d);simp only [an,sZ,fZ,nZ,vZ,wZ] at this;omega
    have aE:=C.out.size;have aF:=p.size;have ae:=PtIs.inside (G':=λb=>G b/\b<w.heap.size) (λb hb hl=>⟨hb,hl⟩) n al;have af:=PtIs.keep (λk E L=>C.out.block k L (hG k E.1)) n ae;have ag:=PtIs.keep (λk E L=>p.block k L) n af;have aa:=OW.out.kept (row:=none) ⟨p.os,p.tape,p.output,p.size,λk E _=>p.block k E⟩ (by cases u1.ownBlock <;> simp);have ad:∀ b,G b/\b<w.heap.size->some b ≠ u1.ownBlock:=by
     intro b hb e;rcases W.out with h | ⟨b',h,h'⟩
     ·exact hG b hb.1 (e.trans h)
     ·rw [h] at e;have:=Option.some.inj e;omega
    refine (ih D (U av' m f) (d[i]) _ u1 _ wM ag aa ad oM (by simp only [fZ,eZ] at y ⊢;omega)).mono ?_;rintro e w7 ⟨v7,rfl,K,S,ac⟩;have aG:=S.size;have ao:Hid (w7.ownsRow base 98 20 v7 (pre++x::(d.take (i+1)).flatten).length (J6 (pre++x::(d.take (i+1)).flatten))):=by
     show rZ _ _ _ _ _ _ _
     rw [an,sZ,nZ,vZ,wZ,<-List.cons_append,<-tZ];exact K
    have G7:Hid (w.grownBy w7 v.ownBlock):=⟨S.os.trans (p.os.trans C.out.os),S.tape.trans (p.tape.trans C.out.tape),S.output.trans (p.output.trans C.out.output),oM,λk E hn=>(S.block k oM (by
      intro e;rcases W.out with h | ⟨b',h,h'⟩
      ·exact hn (e.trans h)
      ·rw [h] at e;have:=Option.some.inj e;omega)).trans ((p.block k oM).trans (C.out.block k E hn))⟩
    have A7:Hid (v7.ownBlock=v.ownBlock \/ ∃ b,v7.ownBlock=some b/\w.heap.size<=b):=by
     rcases ac with h | ⟨b,h,h'⟩
     ·rcases W.out with L | ⟨b',L,h3⟩
      ·exact .inl (h.trans L)
      ·exact .inr ⟨b',h.trans L,h3⟩
     ·exact .inr ⟨b,h,oM⟩
    clear K S ac aa ae af ag p pM rM H pN OW C W ad;go_wp2_with fail
    go_roundg (o.length - (i+1))
    case rel=>exact ⟨i+1,rfl,rfl,oM,ao,G7,A7⟩
    case measure=>omega
   ·obtain rfl:i=o.length:=oM;have aj:¬ (o.length:Int)<o.length:=oM;go_wp2_with fail
    go_ret;have M:d.take o.length=d:=by rw [<-hl];exact List.take_length
    have X:=OW.out;rw [M] at X;exact ⟨_,rfl,X,C.out,W.out⟩
theorem zJA:Wt.FitV Wt.v0:=⟨dM,dM,dM⟩
theorem e0:(⟨#[]⟩:ByteArray).size<=9223372036854775807:=dM
theorem zHh (k o:Int):Wt.FitN (opN k o):=⟨zJA,e0,e0,e0⟩
theorem zF5 {nm:List UInt8} (c:Nat) (h:nm.length<=1024):Wt.FitN (Js ⟨nm.toArray⟩ c):=⟨zJA,by show nm.length<=_;omega,e0,e0⟩
theorem zCf {v:Wt.Vl} (h:Wt.FitV v):Wt.FitN (JL v):=⟨h,e0,e0,e0⟩
theorem zOR {t:Wlx.TV} (d:Qd t) {v:Wt.Vl} (h:Vj t=some v):Wt.FitV v:=by
 unfold Vj at h;split at h
 ·split at h
  ·rw [<-Option.some.inj h];generalize Wnum.oN (Wnum.rdO ⟨t.t.toArray⟩)=a;generalize Wnum.oD (Wnum.rdO ⟨t.t.toArray⟩)=b;obtain ⟨e,f⟩:=Wnum.cN_bd a b;obtain ⟨g,i⟩:=Wnum.cD_bd a b;refine ⟨?_,?_,e0⟩
   ·show _<=Wnum.cN a b/\Wnum.cN a b<=_
    omega
   ·show _<=Wnum.cD a b/\Wnum.cD a b<=_
    omega
  ·cases h
 split at h
 ·split at h
  ·rw [<-Option.some.inj h];unfold VN;split
   ·split
    ·exact ⟨⟨dM,dM⟩,⟨dM,dM⟩,e0⟩
    ·exact ⟨⟨sM,sM⟩,⟨sM,sM⟩,by show t.t.length<=_;omega⟩
   ·exact ⟨⟨dM,dM⟩,⟨dM,dM⟩,e0⟩
  ·cases h
 split at h
 ·rw [<-Option.some.inj h];exact ⟨⟨sM,sM⟩,⟨sM,sM⟩,e0⟩
 ·cases h
theorem zQa {l:List UInt8} {a:Wt.Rf} (h:rw1 l=some a):a.s=⟨#[]⟩:=by
 unfold rw1 at h;split at h
 ·split at h
  ·rw [<-Option.some.inj h];rfl
  ·cases h
 ·cases h
theorem zM5 {a:Wt.Rf} (h:pc ts en=.inl (a,r)):a.s=⟨#[]⟩/\r.length<ts.length:=by
 have e:=zEK h;unfold pc at h;split at h
 ·rename_i d
  split at h
  ·cases h
  split at h
  ·cases h
  split at h
  ·rename_i f b
   simp only [Sum.inl.injEq,Prod.mk.injEq] at h;refine ⟨by rw [<-h.1];exact zQa b,?_⟩;cases ts with
   | nil=>exact absurd d (by rw [zCK];decide)
   | cons t q=>rw [e];simp
  ·cases h
 ·cases h
def V3 (n:Nat) (row:List Wt.Nd) (r:List Wlx.TV):Prop:=(∀ x ∈ row,Wt.FitN x)/\row.length+r.length<=n
theorem zPi (b:∀ t ∈ ts,Qd t) {row:List Wt.Nd} {r:List Wlx.TV} (h:pl ts en=.inl (row,r)):V3 ts.length row r:=by
 unfold pl at h;split at h
 ·rename_i v d
  simp only [Sum.inl.injEq,Prod.mk.injEq] at h;obtain ⟨q,e⟩:=zDJ d;refine ⟨?_,?_⟩
  ·rw [<-h.1];intro x f;rw [List.mem_singleton.1 f];exact zCf (zOR (zAe en b) d)
  ·rw [<-h.1,<-h.2];rw [e];simp;omega
 ·cases h
theorem zGC (k:Int) {s:ByteArray} (e:s.size<=1024) (a b:Wt.Rf) (d:b.s=⟨#[]⟩):Wt.FitN ⟨k,Wt.v0,0,⟨#[]⟩,0,⟨s,a.r,a.c,a.fr,a.fc⟩,b⟩:=⟨zJA,e0,by show s.size<=_;omega,by show b.s.size<=_;rw [d];exact e0⟩
theorem zJh {s:ByteArray} (j:s.size<=1024) {ts:List Wlx.TV} {en:Int} {row:List Wt.Nd} {r:List Wlx.TV} (h:pcs s ts en=.inl (row,r)):V3 ts.length row r:=by
 unfold pcs at h;cases d:pc ts en with
 | inr e=>rw [d] at h;cases h
 | inl q =>
  obtain ⟨a,k⟩:=q;rw [d] at h;simp only at h;have m:=zM5 d;cases f:tk k [58] with
  | none =>
   rw [f] at h;simp only [Sum.inl.injEq,Prod.mk.injEq] at h;rw [<-h.1,<-h.2];exact ⟨λx i=>by rw [List.mem_singleton.1 i];exact zGC 2 j a Wt.r0 rfl,by simp;omega⟩
  | some l =>
   rw [f] at h;simp only at h;have p:=(JH f).2;cases g:pc l en with
   | inr e=>rw [g] at h;cases h
   | inl q =>
    obtain ⟨b,o⟩:=q;rw [g] at h;simp only [Sum.inl.injEq,Prod.mk.injEq] at h;have f3:=zM5 g;rw [<-h.1,<-h.2];exact ⟨λx i=>by rw [List.mem_singleton.1 i];exact zGC 3 j a b f3.1,by simp;omega⟩
theorem Jf (b:∀ t ∈ ts,Qd t) (h:r <:+ ts):∀ t ∈ r,Qd t:=λt d=>b t (h.subset d)
theorem zLr (g:∀ ts row r,sub ts=.inl (row,r)->r <:+ ts) (f:∀ ts row r,(∀ t ∈ ts,Qd t)->sub ts=.inl (row,r)->V3 ts.length row r) (k:Int):∀ (n:Nat) (row:List Wt.Nd) (ts:List Wlx.TV) (b:List Wt.Nd) (r:List Wlx.TV),(∀ t ∈ ts,Qd t)->(∀ x ∈ row,Wt.FitN x)->more sub k n row ts=.inl (b,r)->V3 (row.length+ts.length) b r:=by
 intro n;induction n with
 | zero=>intro row ts b r d j h;simp only [more,Sum.inl.injEq,Prod.mk.injEq] at h;rw [<-h.2,<-h.1];exact ⟨j,bZ _⟩
 | succ n u =>
  intro row ts b r d j h;simp only [more] at h;cases l:Jc k ts with
  | none=>rw [l] at h;simp only [Sum.inl.injEq,Prod.mk.injEq] at h;rw [<-h.2,<-h.1];exact ⟨j,bZ _⟩
  | some q =>
   obtain ⟨o,y⟩:=q;rw [l] at h;simp only at h;have s:=Qu l;cases i:sub y with
   | inr e=>rw [i] at h;cases h
   | inl q =>
    obtain ⟨p,A⟩:=q;rw [i] at h;simp only at h;have m:=f _ _ _ (Jf d s.1) i;have z:=g _ _ _ i;have:=u _ _ _ _ (Jf d (z.trans s.1)) (by
     intro x hx;rcases List.mem_cons.1 hx with rfl | hx
     ·exact zHh _ _
     rcases List.mem_append.1 hx with hx | hx
     ·exact j x hx
     ·exact m.1 x hx) h
    refine ⟨this.1,gZ this.2 ?_⟩;have:=m.2;simp only [eZ,fZ];omega
theorem zLm (i:∀ ts row r,sub ts=.inl (row,r)->r <:+ ts) (f:∀ ts row r,(∀ t ∈ ts,Qd t)->sub ts=.inl (row,r)->V3 ts.length row r) (en:Int):∀ (n c:Nat) (d:List Wt.Nd) (ts:List Wlx.TV) (k:Nat) (b:List Wt.Nd) (r:List Wlx.TV),(∀ t ∈ ts,Qd t)->(∀ x ∈ d,Wt.FitN x)->VB sub en n c d ts=.inl (k,b,r)->(∀ x ∈ b,Wt.FitN x)/\b.length+r.length<d.length+ts.length:=by
 intro n;induction n with
 | zero=>intro c d ts k b r _ _ h;cases h
 | succ n u =>
  intro c d ts k b r g p h;simp only [VB] at h;cases l:tk ts [41] with
  | some q=>rw [l] at h;simp only [Sum.inl.injEq,Prod.mk.injEq] at h;have:=(JH l).2;rw [<-h.2.2,<-h.2.1];exact ⟨p,oM⟩
  | none =>
   rw [l] at h;simp only at h;split at h
   ·cases h
   ·cases m:tk ts [44] with
    | none=>rw [m] at h;cases h
    | some y =>
     rw [m] at h;simp only at h;have s:=JH m;cases j:sub y with
     | inr e=>rw [j] at h;cases h
     | inl q =>
      obtain ⟨row,A⟩:=q;rw [j] at h;simp only at h;have o:=f _ _ _ (Jf g s.1) j;have z:=i _ _ _ j;have:=u _ _ _ _ _ _ (Jf g (z.trans s.1)) (by
       intro x hx;rcases List.mem_append.1 hx with hx | hx
       ·exact p x hx
       ·exact o.1 x hx) h
      have f3:=o.2;refine ⟨this.1,jZ this.2 ?_⟩;simp only [fZ];omega
theorem zJe (d:∀ ts row r,sub ts=.inl (row,r)->r <:+ ts) (b:∀ ts row r,(∀ t ∈ ts,Qd t)->sub ts=.inl (row,r)->V3 ts.length row r) (en:Int) (nm:List UInt8) (f:nm.length<=1024) (ts:List Wlx.TV) (row:List Wt.Nd) (r:List Wlx.TV) (g:∀ t ∈ ts,Qd t) (h:VL sub en nm ts=.inl (row,r)):V3 ts.length row r:=by
 unfold VL at h;cases k:tk ts [41] with
 | some q =>
  rw [k] at h;simp only [Sum.inl.injEq,Prod.mk.injEq] at h;have:=(JH k).2;rw [<-h.2,<-h.1];exact ⟨λx hx=>by rw [List.mem_singleton.1 hx];exact zF5 0 f,by simp;omega⟩
 | none =>
  rw [k] at h;simp only at h;cases j:sub ts with
  | inr e=>rw [j] at h;cases h
  | inl q =>
   obtain ⟨i,o⟩:=q;rw [j] at h;simp only at h;have m:=b _ _ _ g j;have s:=d _ _ _ j;cases l:VB sub en (o.length+1) 1 i o with
   | inr e=>rw [l] at h;cases h
   | inl q =>
    obtain ⟨c,p,u⟩:=q;rw [l] at h;simp only [Sum.inl.injEq,Prod.mk.injEq] at h;have f3:=zLm d b en _ _ _ _ _ _ _ (Jf g s) m.1 l;rw [<-h.2,<-h.1];refine ⟨?_,?_⟩
    ·intro x hx;rcases List.mem_cons.1 hx with rfl | hx
     ·exact zF5 c f
     ·exact f3.1 x hx
    ·have:=f3.2;have:=m.2;simp only [eZ];omega
theorem zIw (f:∀ ts row r,sub ts=.inl (row,r)->r <:+ ts) (d:∀ ts row r,(∀ t ∈ ts,Qd t)->sub ts=.inl (row,r)->V3 ts.length row r) (en:Int) (ts:List Wlx.TV) (row:List Wt.Nd) (r:List Wlx.TV) (e:∀ t ∈ ts,Qd t) (j:(hd ts en).k=3) (h:VD sub en ts=.inl (row,r)):V3 ts.length row r:=by
 have i:=(zAe en e).1;have m:0<ts.length:=by
  cases ts with
  | nil=>exact absurd j (by rw [zCK];decide)
  | cons t q=>simp
 have b:∀ k,(ts.drop k).length<=ts.length:=λk=>by rw [List.length_drop];omega
 have l:ByteArray.size ⟨(hd ts en).t.toArray⟩<=1024:=i;unfold VD at h;split at h
 ·split at h
  ·have:=zJe f d en _ i _ _ _ (Jf e (List.drop_suffix 2 ts)) h;exact ⟨this.1,gZ this.2 (b 2)⟩
  ·cases h
 split at h
 ·split at h
  ·have:=zJh l h;exact ⟨this.1,gZ this.2 (b 2)⟩
  ·cases h
 split at h
 ·simp only [Sum.inl.injEq,Prod.mk.injEq] at h;rw [<-h.2,<-h.1];exact ⟨λx g=>by rw [List.mem_singleton.1 g];exact zCf ⟨dM,dM,dM⟩,by simp;omega⟩
 split at h
 ·simp only [Sum.inl.injEq,Prod.mk.injEq] at h;rw [<-h.2,<-h.1];exact ⟨λx g=>by rw [List.mem_singleton.1 g];exact zCf ⟨dM,dM,dM⟩,by simp;omega⟩
 ·exact zJh dM h
theorem zGd  (b:∀ ts row r,(∀ t ∈ ts,Qd t)->sub ts=.inl (row,r)->V3 ts.length row r) (en:Int) (ts:List Wlx.TV) (row:List Wt.Nd) (r:List Wlx.TV) (i:∀ t ∈ ts,Qd t) (h:J8 sub en ts=.inl (row,r)):V3 ts.length row r:=by
 unfold J8 at h;cases d:tk ts [40] with
 | none=>rw [d] at h;cases h
 | some l =>
  rw [d] at h;simp only at h;have o:=JH d;cases f:sub l with
  | inr e=>rw [f] at h;cases h
  | inl q =>
   obtain ⟨k,m⟩:=q;rw [f] at h;simp only at h;have j:=b _ _ _ (Jf i o.1) f;cases g:tk m [41] with
   | none=>rw [g] at h;cases h
   | some p =>
    rw [g] at h;simp only [Sum.inl.injEq,Prod.mk.injEq] at h;have s:=JH g;have:=j.2;rw [<-h.2,<-h.1];exact ⟨j.1,oM⟩
theorem zMs:∀ (n:Nat) (row:List Wt.Nd) (ts:List Wlx.TV) (b:List Wt.Nd) (r:List Wlx.TV),(∀ x ∈ row,Wt.FitN x)->pct n row ts=.inl (b,r)->V3 (row.length+ts.length) b r:=by
 intro n;induction n with
 | zero=>intro row ts b r d h;simp only [pct,Sum.inl.injEq,Prod.mk.injEq] at h;rw [<-h.2,<-h.1];exact ⟨d,bZ _⟩
 | succ n f =>
  intro row ts b r d h;simp only [pct] at h;cases e:Jc 6 ts with
  | none=>rw [e] at h;simp only [Sum.inl.injEq,Prod.mk.injEq] at h;rw [<-h.2,<-h.1];exact ⟨d,bZ _⟩
  | some q =>
   obtain ⟨o,g⟩:=q;rw [e] at h;simp only at h;have i:=Qu e;have:=f _ _ _ _ (λx hx=>by
    rcases List.mem_cons.1 hx with rfl | hx
    ·exact zHh _ _
    ·exact d x hx) h
   refine ⟨this.1,gZ this.2 ?_⟩;simp only [eZ];omega
theorem zM8 (en:Int):∀ (f k:Nat) (ts:List Wlx.TV) (row:List Wt.Nd) (r:List Wlx.TV),(∀ t ∈ ts,Qd t)->lv en f k ts=.inl (row,r)->V3 ts.length row r:=by
 intro f;induction f with
 | zero=>intro k ts row r _ h;cases h
 | succ f g =>
  intro k ts row r b h;simp only [lv] at h;split at h
  ·cases d:lv en f (k+1) ts with
   | inr e=>rw [d] at h;cases h
   | inl q =>
    obtain ⟨j,m⟩:=q;rw [d] at h;simp only at h;have i:=g _ _ _ _ b d;have:=zLr (Jo en f (k+1)) (g (k+1)) _ _ _ _ _ _ (Jf b (Jo en _ _ _ _ _ d)) i.1 h;exact ⟨this.1,gZ this.2 i.2⟩
  split at h
  ·cases d:Jc 5 ts with
   | none=>rw [d] at h;exact g _ _ _ _ b h
   | some q =>
    obtain ⟨o,m⟩:=q;rw [d] at h;simp only at h;have y:=Qu d;cases l:lv en f 5 m with
    | inr e=>rw [l] at h;cases h
    | inl q =>
     obtain ⟨s,z⟩:=q;rw [l] at h;simp only [Sum.inl.injEq,Prod.mk.injEq] at h;have p:=g _ _ _ _ (Jf b y.1) l;rw [<-h.2,<-h.1];refine ⟨λx hx=>?_,?_⟩
     ·rcases List.mem_cons.1 hx with rfl | hx
      ·exact zHh _ _
      ·exact p.1 x hx
     ·have:=p.2;simp only [eZ];omega
  split at h
  ·cases d:lv en f 7 ts with
   | inr e=>rw [d] at h;cases h
   | inl q =>
    obtain ⟨j,m⟩:=q;rw [d] at h;simp only at h;have i:=g _ _ _ _ b d;have:=zMs _ _ _ _ _ i.1 h;exact ⟨this.1,gZ this.2 i.2⟩
  split at h
  ·rename_i u
   exact zIw (Jo en f 0) (g 0) _ _ _ _ b u h
  split at h
  ·exact zGd (g 0) _ _ _ _ b h
  ·exact zPi b h
