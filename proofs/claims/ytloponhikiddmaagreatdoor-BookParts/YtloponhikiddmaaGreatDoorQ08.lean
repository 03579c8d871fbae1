/- Lemmas. -/
import Derived.Test.YtloponhikiddmaaGreatDoorQ07
set_option maxHeartbeats 4000000
set_option maxRecDepth 100000
open Go.World renaming there->aZ,cell?_setCell_far->dZ,frozen?_setCell->eZ
open Nat renaming le_succ->bZ
open Go.RowKit.Below renaming refl->cZ
open Or renaming inl->fZ,inr->gZ
open Go renaming World->wW,Value->vW,Calls->cW
open Go.Value renaming int->O,slice->U,string->V,bool->Y,agg->gX
open Go.IntKind renaming i64->J
open Go.Obj renaming cells->Z
open Go.Operand renaming tmp->mX
namespace Go.Proofs.YtloponhikiddmaaGreatDoor
open Tryz
variable {x y:Wc.In} {tl:List Int} {ka kb:Nat} {tv tu:vW} {W:wW}
open Go.RowKit
set_option linter.unusedVariables false
abbrev zKd (ka kb:Nat) (x:Wc.In) (tv:vW) (W:wW):Prop :=
 W.cell? ⟨ka,1,none⟩=some (O J x.a)/\W.cell? ⟨ka,2,none⟩=some (O J x.b)/\W.frozen? ⟨kb,1,none⟩=false/\W.frozen? ⟨kb,2,none⟩=false
theorem zBU (a:AtL W ka (QF x tv)) (b:AtL W kb (QF y tu)):zKd ka kb x tv W :=
 ⟨a.2.1 1 _ rfl,a.2.1 2 _ rfl,b.2.2 1 (by show 1<23;decide),b.2.2 2 (by show 2<23;decide)⟩
theorem zDI (h:zKd ka kb x tv W) (a:kb ≠ ka) (j:Nat) (u:vW):zKd ka kb x tv (W.setCell ⟨kb,j,none⟩ u):=by
 obtain ⟨d,e,b,c⟩:=h;refine ⟨?_,?_,?_,?_⟩;any_goals rw [dZ _ _ _ _ (by simpa using a)];assumption
 all_goals rw [eZ];assumption
theorem zHK (x:Wc.In) (v:Option Addr) (n c:Nat) (tl:List Int) (w:wW) (M:x.op=12) (H:RdZ w (U v n c) tl) (E:tl.length<=1000000) :
  CR 101 #[inV x (U v n c)] w (Y (true && (smI x ⟨12,x.a,x.b,v0I,c0I,a0I,a0I⟩ && decide (tl=[])))):=by
 have G:∀ w',bL w w'->CR 136 #[gX (QF x (U v n c)).toArray,gX (QF ⟨12,x.a,x.b,v0I,c0I,a0I,a0I⟩ QO).toArray] w' (Y (smI x ⟨12,x.a,x.b,v0I,c0I,a0I,a0I⟩ && decide (tl=[]))):=λw' hb=>Q5 x ⟨12,x.a,x.b,v0I,c0I,a0I,a0I⟩ _ _ tl [] w' (H.below hb) (RdZ.nil _) E (by first | exact E | simp)
 generalize (smI x ⟨12,x.a,x.b,v0I,c0I,a0I,a0I⟩ && decide (tl=[]))=R at *;obtain ⟨tv,s⟩:=xV (U v n c)
 rw [s] at G ⊢;have t:AtL (Q7 w x tv) w.heap.size (QF x tv):=(AtL.new0 w _ _).alloc _;have p:AtL (Q7 w x tv) (w.heap.size+1) (QF (QL 0) QO):=AtL.new1 w _ _ _;have r:aZ (Q7 w x tv) (w.heap.size+1) 0 (QF (QL 12) QO).toArray.size:=p.there;have o:w.heap.size+1 ≠ w.heap.size:=oM;have pA:=t.farAll o 0 (QF (QL 12) QO);have F:AtL ((Q7 w x tv).setCells (w.heap.size+1) 0 (QF (QL 12) QO)) (w.heap.size+1) (QF (QL 12) QO):=p.setAll rfl;have q:bL w ((Q7 w x tv).setCells (w.heap.size+1) 0 (QF (QL 12) QO)):=Qm (QJ (QJ (cZ _ w) _) _) (bZ _) _ 0;clear t p;have N:(QF x tv)[0]? = some (O J 12):=by rw [<-M];rfl
 have a0:=pA.2.1 0 _ N;show cW _ _ #[gX (QF x tv).toArray] _ _
 have L:=zBU pA F;clear H E s;go_enter func101,ntmps101;go_upto_region 1 with fail
 go_upto_region 2 with ((with_reducible refine wpList_store_mid ?_ 87 (mX 3) (mX 7) ?_ (w.heap.size+1) 0 (QF (QL 12) QO).toArray ?_ ?_ ?_ ?_ ?_ ?_);rfl;rfl;rfl;rfl;exact r;kernel_rfl;exact JO _ _ _ _)
 generalize (Q7 w x tv).setCells (w.heap.size+1) 0 (QF (QL 12) QO)=I at *;clear r;go_upto_region 27 with fail
 have g:=AtL.drew pA;have f:=AtL.drew F;have j:=q.drew;clear pA F q L;refine wp_region_held_drew (S:=zKd w.heap.size (w.heap.size+1) x tv) kR (zBU g f) (λd=>?_);generalize I.drew=z at *;refine tkQ 0 ?_
 refine tkQ 1 ?_
 refine tkQ 2 ?_
 refine tkQ 3 ?_
 refine tkQ 4 ?_
 refine rdQ 5 (λK m=>?_);have P:=f.2.1 1 _ rfl;obtain ⟨_,_,A,B⟩:=d;go_simp
 refine hkQ m ((zDI (zBU g f) oM _ _)) (λd=>?_);clear m K P A B
 have k:AtL (z.setCell ⟨w.heap.size+1,1,none⟩ (O J x.a)) w.heap.size (QF x tv):=(g.far o 1 (O J x.a))
 have l:AtL (z.setCell ⟨w.heap.size+1,1,none⟩ (O J x.a)) (w.heap.size+1) (QF ⟨12,x.a,0,v0I,c0I,a0I,a0I⟩ QO):=(f.set 1 (O J x.a))
 have i:bL w (z.setCell ⟨w.heap.size+1,1,none⟩ (O J x.a)):=(clB j)
 clear g f j;generalize (z.setCell ⟨w.heap.size+1,1,none⟩ (O J x.a))=u at *;have g:=k;have f:=l;have j:=i;clear k l i;refine tkQ 6 ?_
 refine rdQ 7 (λK m=>?_);have Q:=f.2.1 2 _ rfl;obtain ⟨_,_,A,B⟩:=d;go_simp
 refine hkQ m ((zDI (zBU g f) oM _ _)) (λd=>?_);clear m K Q A B
 have k:=(g.far o 2 (O J x.b))
 have l:=(f.set 2 (O J x.b))
 have i:bL w (u.setCell ⟨w.heap.size+1,2,none⟩ (O J x.b)):=(clB j)
 clear g f j;generalize (u.setCell ⟨w.heap.size+1,2,none⟩ (O J x.b))=aa at *;have g:=k;have f:=l;have j:=i;clear k l i;refine rdQ 8 (λK m=>?_);go_simp
 refine hkQ m (by assumption) (λd=>?_);clear m K
 refine wpAnyH_done kR ?_ _;clear d;have T:=g.range;have X:=f.range;have i:=j;clear g f j;go_wp2_with (first | ((with_reducible refine QB ?_ 87 (mX 1) ?_ w.heap.size 0 ?_ (QF x tv) _ ?_ underlying87 ?_ ?_ ?_);rfl;rfl;rfl;exact T;rfl;kernel_rfl) | ((with_reducible refine QB ?_ 87 (mX 3) ?_ (w.heap.size+1) 0 ?_ (QF ⟨12,x.a,x.b,v0I,c0I,a0I,a0I⟩ QO) _ ?_ underlying87 ?_ ?_ ?_);rfl;rfl;rfl;exact X;rfl;kernel_rfl) | (go_at_call 136;refine (G _ i).mono ?_;rintro e w3 ⟨rfl,D⟩;have C:=QA i D))
 go_wp2;go_ret;first
 | exact ⟨sM,i⟩
 | exact ⟨sM,C⟩
abbrev zKM (ka kb:Nat) (x:Wc.In) (tv:vW) (W:wW):Prop :=
 W.cell? ⟨ka,2,none⟩=some (O J x.b)/\W.cell? ⟨ka,22,none⟩=some (tv)/\W.frozen? ⟨kb,2,none⟩=false/\W.frozen? ⟨kb,22,none⟩=false
theorem zBT (a:AtL W ka (QF x tv)) (b:AtL W kb (QF y tu)):zKM ka kb x tv W :=
 ⟨a.2.1 2 _ rfl,a.2.1 22 _ rfl,b.2.2 2 (by show 2<23;decide),b.2.2 22 (by show 22<23;decide)⟩
theorem zDl (h:zKM ka kb x tv W) (a:kb ≠ ka) (j:Nat) (u:vW):zKM ka kb x tv (W.setCell ⟨kb,j,none⟩ u):=by
 obtain ⟨e,c,d,b⟩:=h;refine ⟨?_,?_,?_,?_⟩;any_goals rw [dZ _ _ _ _ (by simpa using a)];assumption
 all_goals rw [eZ];assumption
theorem zH4 (x:Wc.In) (g:Option Addr) (n c:Nat) (tl:List Int) (w:wW) (hk:x.op=15) (D:RdZ w (U g n c) tl) (L:tl.length<=1000000) :
  CR 101 #[inV x (U g n c)] w (Y ((decide (1<=(tl.length:Int)) && decide ((tl.length:Int)<=30)) && (smI x ⟨15,0,x.b,v0I,c0I,a0I,a0I⟩ && decide (tl=tl)))):=by
 have T:∀ w',bL w w'->CR 136 #[gX (QF x (U g n c)).toArray,gX (QF ⟨15,0,x.b,v0I,c0I,a0I,a0I⟩ (U g n c)).toArray] w' (Y (smI x ⟨15,0,x.b,v0I,c0I,a0I,a0I⟩ && decide (tl=tl))):=λw' hb=>Q5 x ⟨15,0,x.b,v0I,c0I,a0I,a0I⟩ _ _ tl tl w' (D.below hb) (D.below hb) L (by first | exact L | simp)
 generalize (smI x ⟨15,0,x.b,v0I,c0I,a0I,a0I⟩ && decide (tl=tl))=R at *;have E:(tl.length:Int)=n:=by obtain ⟨_,_,e,_⟩:=D;injection e with e1 e2 e3;omega
 have B:AtL (Q7 w x (U g n c)) w.heap.size (QF x (U g n c)):=(AtL.new0 w _ _).alloc _;have s:AtL (Q7 w x (U g n c)) (w.heap.size+1) (QF (QL 0) QO):=AtL.new1 w _ _ _;have A:aZ (Q7 w x (U g n c)) (w.heap.size+1) 0 (QF (QL 15) QO).toArray.size:=s.there;have r:w.heap.size+1 ≠ w.heap.size:=oM;have pA:=B.farAll r 0 (QF (QL 15) QO);have N:AtL ((Q7 w x (U g n c)).setCells (w.heap.size+1) 0 (QF (QL 15) QO)) (w.heap.size+1) (QF (QL 15) QO):=s.setAll rfl;have u:bL w ((Q7 w x (U g n c)).setCells (w.heap.size+1) 0 (QF (QL 15) QO)):=Qm (QJ (QJ (cZ _ w) _) _) (bZ _) _ 0;clear B s;have n0:(QF x (U g n c))[0]? = some (O J 15):=by rw [<-hk];rfl
 have a0:=pA.2.1 0 _ n0;show cW _ _ #[gX (QF x (U g n c)).toArray] _ _
 have hS:=zBT pA N;clear D L;by_cases P:1<=(n:Int)
 have F:¬ (n:Int)<1:=oM;by_cases t:(n:Int)<=30
 have G:¬ 30<(n:Int):=oM;have z:(decide (1<=(tl.length:Int)) && decide ((tl.length:Int)<=30))=true:=by rw [E];simp only [P,t,decide_true,Bool.and_self]
 rw [z];rotate_left
 have G:30<(n:Int):=oM;have z:(decide (1<=(tl.length:Int)) && decide ((tl.length:Int)<=30))=false:=by rw [E];simp only [t,decide_false,Bool.and_false]
 rw [z];rotate_left
 have F:(n:Int)<1:=oM;have z:(decide (1<=(tl.length:Int)) && decide ((tl.length:Int)<=30))=false:=by rw [E];simp only [P,decide_false,Bool.false_and]
 rw [z];rotate_left
 all_goals
  go_enter func101,ntmps101;go_upto_region 1 with fail
  go_upto_region 2 with ((with_reducible refine wpList_store_mid ?_ 87 (mX 3) (mX 7) ?_ (w.heap.size+1) 0 (QF (QL 15) QO).toArray ?_ ?_ ?_ ?_ ?_ ?_);rfl;rfl;rfl;rfl;exact A;kernel_rfl;exact JO _ _ _ _)
  generalize (Q7 w x (U g n c)).setCells (w.heap.size+1) 0 (QF (QL 15) QO)=X at *;clear A;go_upto_region 32 with fail
  have f:=AtL.drew pA;have d:=AtL.drew N;have k:=u.drew;clear pA N u hS;refine wp_region_held_drew (S:=zKM w.heap.size (w.heap.size+1) x (U g n c)) kR (zBT f d) (λa=>?_);generalize X.drew=Q at *;refine tkQ 0 ?_
  refine tkQ 1 ?_
  refine tkQ 2 ?_
  refine tkQ 3 ?_
  refine tkQ 4 ?_
  refine tkQ 5 ?_
  refine tkQ 6 ?_
  refine tkQ 7 ?_
  refine tkQ 8 ?_
  first
  | (
    refine wpAnyH_take (i:=9) (v:=?_) (atQ rfl) kR kR kR (λ_ _ _ h=>h) (fZ ⟨by rfl,?_⟩) (by assumption) ?_;rotate_left
    ·intro w l
     (try dsimp only at l)
     go_simp
     try with_reducible rfl)
  | (refine wpAnyH_take (i:=9) (v:=undef) (atQ rfl) kR kR kR (λ_ _ _ h=>h) (gZ ⟨by rfl,rfl⟩) (by assumption) ?_)
  try simp only [Act.put,lA,lZ,lS]
  first
  | (
    refine wpAnyH_take (i:=10) (v:=?_) (atQ rfl) kR kR kR (λ_ _ _ h=>h) (fZ ⟨by rfl,?_⟩) (by assumption) ?_;rotate_left
    ·intro w l
     (try dsimp only at l)
     go_simp
     try with_reducible rfl)
  | (refine wpAnyH_take (i:=10) (v:=undef) (atQ rfl) kR kR kR (λ_ _ _ h=>h) (gZ ⟨by rfl,rfl⟩) (by assumption) ?_)
  try simp only [Act.put,lA,lZ,lS]
  first
  | (
    refine wpAnyH_take (i:=11) (v:=?_) (atQ rfl) kR kR kR (λ_ _ _ h=>h) (fZ ⟨by rfl,?_⟩) (by assumption) ?_;rotate_left
    ·intro w l
     (try dsimp only at l)
     go_simp
     try with_reducible rfl)
  | (refine wpAnyH_take (i:=11) (v:=undef) (atQ rfl) kR kR kR (λ_ _ _ h=>h) (gZ ⟨by rfl,rfl⟩) (by assumption) ?_)
  try simp only [Act.put,lA,lZ,lS]
  first
  | (
    refine wpAnyH_take (i:=12) (v:=?_) (atQ rfl) kR kR kR (λ_ _ _ h=>h) (fZ ⟨by rfl,?_⟩) (by assumption) ?_;rotate_left
    ·intro w l
     (try dsimp only at l)
     go_simp
     try with_reducible rfl)
  | (refine wpAnyH_take (i:=12) (v:=undef) (atQ rfl) kR kR kR (λ_ _ _ h=>h) (gZ ⟨by rfl,rfl⟩) (by assumption) ?_)
  try simp only [Act.put,lA,lZ,lS]
  refine tkQ 13 ?_
  refine tkQ 14 ?_
  refine rdQ 15 (λK p=>?_);have M:=d.2.1 22 _ rfl;obtain ⟨_,_,t,q⟩:=a;go_simp
  refine hkQ p ((zDl (zBT f d) oM _ _)) (λa=>?_);clear p K M t q
  have m:=(f.far r 22 (U g n c))
  have o:=(d.set 22 (U g n c))
  have j:bL w (Q.setCell ⟨w.heap.size+1,22,none⟩ (U g n c)):=(clB k)
  clear f d k;generalize (Q.setCell ⟨w.heap.size+1,22,none⟩ (U g n c))=C at *;have f:=m;have d:=o;have k:=j;clear m o j;refine tkQ 16 ?_
  refine rdQ 17 (λK p=>?_);have o2:=d.2.1 2 _ rfl;obtain ⟨_,_,t,q⟩:=a;go_simp
  refine hkQ p ((zDl (zBT f d) oM _ _)) (λa=>?_);clear p K o2 t q
  have m:=(f.far r 2 (O J x.b))
  have o:=(d.set 2 (O J x.b))
  have j:bL w (C.setCell ⟨w.heap.size+1,2,none⟩ (O J x.b)):=(clB k)
  clear f d k;generalize (C.setCell ⟨w.heap.size+1,2,none⟩ (O J x.b))=aa at *;have f:=m;have d:=o;have k:=j;clear m o j;refine rdQ 18 (λK p=>?_);go_simp
  refine hkQ p (by assumption) (λa=>?_);clear p K
  refine wpAnyH_done kR ?_ _;clear a;have rA:=f.range;have rO:=d.range;have j:=k;clear f d k;go_wp2_with (first | ((with_reducible refine QB ?_ 87 (mX 1) ?_ w.heap.size 0 ?_ (QF x (U g n c)) _ ?_ underlying87 ?_ ?_ ?_);rfl;rfl;rfl;exact rA;rfl;kernel_rfl) | ((with_reducible refine QB ?_ 87 (mX 3) ?_ (w.heap.size+1) 0 ?_ (QF ⟨15,0,x.b,v0I,c0I,a0I,a0I⟩ (U g n c)) _ ?_ underlying87 ?_ ?_ ?_);rfl;rfl;rfl;exact rO;rfl;kernel_rfl) | (go_at_call 136;refine (T _ j).mono ?_;rintro e w3 ⟨rfl,I⟩;have H:=QA j I))
  go_wp2;go_ret;first
  | exact ⟨sM,j⟩
  | exact ⟨sM,H⟩
abbrev zRa (ka kb:Nat) (x:Wc.In) (tv:vW) (W:wW):Prop :=
 W.cell? ⟨ka,1,none⟩=some (O J x.a)/\W.frozen? ⟨kb,1,none⟩=false
theorem zCU (a:AtL W ka (QF x tv)) (b:AtL W kb (QF y tu)):zRa ka kb x tv W :=
 ⟨a.2.1 1 _ rfl,b.2.2 1 (by show 1<23;decide)⟩
theorem zK9 (x:Wc.In) (m:Option Addr) (n c:Nat) (tl:List Int) (w:wW) (A:x.op=7) (u:RdZ w (U m n c) tl) (q:tl.length<=1000000) :
  CR 101 #[inV x (U m n c)] w (Y (true && (smI x ⟨7,0,0,v0I,c0I,a0I,a0I⟩ && decide (tl=[])))):=by
 have t:∀ w',bL w w'->CR 136 #[gX (QF x (U m n c)).toArray,gX (QF ⟨7,0,0,v0I,c0I,a0I,a0I⟩ QO).toArray] w' (Y (smI x ⟨7,0,0,v0I,c0I,a0I,a0I⟩ && decide (tl=[]))):=λw' hb=>Q5 x ⟨7,0,0,v0I,c0I,a0I,a0I⟩ _ _ tl [] w' (u.below hb) (RdZ.nil _) q (by first | exact q | simp)
 generalize (smI x ⟨7,0,0,v0I,c0I,a0I,a0I⟩ && decide (tl=[]))=R at *;obtain ⟨tv,i⟩:=xV (U m n c)
 rw [i] at t ⊢;have j:AtL (Q7 w x tv) w.heap.size (QF x tv):=(AtL.new0 w _ _).alloc _;have b:AtL (Q7 w x tv) (w.heap.size+1) (QF (QL 0) QO):=AtL.new1 w _ _ _;have g:aZ (Q7 w x tv) (w.heap.size+1) 0 (QF (QL 7) QO).toArray.size:=b.there;have r:w.heap.size+1 ≠ w.heap.size:=oM;have pA:=j.farAll r 0 (QF (QL 7) QO);have s:AtL ((Q7 w x tv).setCells (w.heap.size+1) 0 (QF (QL 7) QO)) (w.heap.size+1) (QF (QL 7) QO):=b.setAll rfl;have f:bL w ((Q7 w x tv).setCells (w.heap.size+1) 0 (QF (QL 7) QO)):=Qm (QJ (QJ (cZ _ w) _) _) (bZ _) _ 0;clear j b;have B:(QF x tv)[0]? = some (O J 7):=by rw [<-A];rfl
 have v:=pA.2.1 0 _ B;show cW _ _ #[gX (QF x tv).toArray] _ _
 have z:=zCU pA s;clear u q i;go_enter func101,ntmps101;go_upto_region 1 with fail
 go_upto_region 2 with ((with_reducible refine wpList_store_mid ?_ 87 (mX 3) (mX 7) ?_ (w.heap.size+1) 0 (QF (QL 7) QO).toArray ?_ ?_ ?_ ?_ ?_ ?_);rfl;rfl;rfl;rfl;exact g;kernel_rfl;exact JO _ _ _ _)
 generalize (Q7 w x tv).setCells (w.heap.size+1) 0 (QF (QL 7) QO)=E at *;clear g;go_upto_region 33 with fail
 have k:=pA;have l:=s;have d:=f;clear pA s f z v;have C:=k.range;have D:=l.range;have a:=d;clear k l d;go_wp2_with (first | ((with_reducible refine QB ?_ 87 (mX 1) ?_ w.heap.size 0 ?_ (QF x tv) _ ?_ underlying87 ?_ ?_ ?_);rfl;rfl;rfl;exact C;rfl;kernel_rfl) | ((with_reducible refine QB ?_ 87 (mX 3) ?_ (w.heap.size+1) 0 ?_ (QF ⟨7,0,0,v0I,c0I,a0I,a0I⟩ QO) _ ?_ underlying87 ?_ ?_ ?_);rfl;rfl;rfl;exact D;rfl;kernel_rfl) | (go_at_call 136;refine (t _ a).mono ?_;rintro e F ⟨rfl,p⟩;have o:=QA a p))
 go_wp2;go_ret;first
 | exact ⟨sM,a⟩
 | exact ⟨sM,o⟩
theorem zH2 (x:Wc.In) (m:Option Addr) (n c:Nat) (tl:List Int) (w:wW) (A:x.op=10) (u:RdZ w (U m n c) tl) (q:tl.length<=1000000) :
  CR 101 #[inV x (U m n c)] w (Y (true && (smI x ⟨10,0,0,v0I,c0I,a0I,a0I⟩ && decide (tl=[])))):=by
 have t:∀ w',bL w w'->CR 136 #[gX (QF x (U m n c)).toArray,gX (QF ⟨10,0,0,v0I,c0I,a0I,a0I⟩ QO).toArray] w' (Y (smI x ⟨10,0,0,v0I,c0I,a0I,a0I⟩ && decide (tl=[]))):=λw' hb=>Q5 x ⟨10,0,0,v0I,c0I,a0I,a0I⟩ _ _ tl [] w' (u.below hb) (RdZ.nil _) q (by first | exact q | simp)
 generalize (smI x ⟨10,0,0,v0I,c0I,a0I,a0I⟩ && decide (tl=[]))=R at *;obtain ⟨tv,i⟩:=xV (U m n c)
 rw [i] at t ⊢;have j:AtL (Q7 w x tv) w.heap.size (QF x tv):=(AtL.new0 w _ _).alloc _;have b:AtL (Q7 w x tv) (w.heap.size+1) (QF (QL 0) QO):=AtL.new1 w _ _ _;have g:aZ (Q7 w x tv) (w.heap.size+1) 0 (QF (QL 10) QO).toArray.size:=b.there;have r:w.heap.size+1 ≠ w.heap.size:=oM;have pA:=j.farAll r 0 (QF (QL 10) QO);have s:AtL ((Q7 w x tv).setCells (w.heap.size+1) 0 (QF (QL 10) QO)) (w.heap.size+1) (QF (QL 10) QO):=b.setAll rfl;have f:bL w ((Q7 w x tv).setCells (w.heap.size+1) 0 (QF (QL 10) QO)):=Qm (QJ (QJ (cZ _ w) _) _) (bZ _) _ 0;clear j b;have B:(QF x tv)[0]? = some (O J 10):=by rw [<-A];rfl
 have v:=pA.2.1 0 _ B;show cW _ _ #[gX (QF x tv).toArray] _ _
 have z:=zCU pA s;clear u q i;go_enter func101,ntmps101;go_upto_region 1 with fail
 go_upto_region 2 with ((with_reducible refine wpList_store_mid ?_ 87 (mX 3) (mX 7) ?_ (w.heap.size+1) 0 (QF (QL 10) QO).toArray ?_ ?_ ?_ ?_ ?_ ?_);rfl;rfl;rfl;rfl;exact g;kernel_rfl;exact JO _ _ _ _)
 generalize (Q7 w x tv).setCells (w.heap.size+1) 0 (QF (QL 10) QO)=E at *;clear g;go_upto_region 33 with fail
 have k:=pA;have l:=s;have d:=f;clear pA s f z v;have C:=k.range;have D:=l.range;have a:=d;clear k l d;go_wp2_with (first | ((with_reducible refine QB ?_ 87 (mX 1) ?_ w.heap.size 0 ?_ (QF x tv) _ ?_ underlying87 ?_ ?_ ?_);rfl;rfl;rfl;exact C;rfl;kernel_rfl) | ((with_reducible refine QB ?_ 87 (mX 3) ?_ (w.heap.size+1) 0 ?_ (QF ⟨10,0,0,v0I,c0I,a0I,a0I⟩ QO) _ ?_ underlying87 ?_ ?_ ?_);rfl;rfl;rfl;exact D;rfl;kernel_rfl) | (go_at_call 136;refine (t _ a).mono ?_;rintro e F ⟨rfl,p⟩;have o:=QA a p))
 go_wp2;go_ret;first
 | exact ⟨sM,a⟩
 | exact ⟨sM,o⟩
theorem zHe (x:Wc.In) (m:Option Addr) (n c:Nat) (tl:List Int) (w:wW) (A:x.op=16) (u:RdZ w (U m n c) tl) (q:tl.length<=1000000) :
  CR 101 #[inV x (U m n c)] w (Y (true && (smI x ⟨16,0,0,v0I,c0I,a0I,a0I⟩ && decide (tl=[])))):=by
 have t:∀ w',bL w w'->CR 136 #[gX (QF x (U m n c)).toArray,gX (QF ⟨16,0,0,v0I,c0I,a0I,a0I⟩ QO).toArray] w' (Y (smI x ⟨16,0,0,v0I,c0I,a0I,a0I⟩ && decide (tl=[]))):=λw' hb=>Q5 x ⟨16,0,0,v0I,c0I,a0I,a0I⟩ _ _ tl [] w' (u.below hb) (RdZ.nil _) q (by first | exact q | simp)
 generalize (smI x ⟨16,0,0,v0I,c0I,a0I,a0I⟩ && decide (tl=[]))=R at *;obtain ⟨tv,i⟩:=xV (U m n c)
 rw [i] at t ⊢;have j:AtL (Q7 w x tv) w.heap.size (QF x tv):=(AtL.new0 w _ _).alloc _;have b:AtL (Q7 w x tv) (w.heap.size+1) (QF (QL 0) QO):=AtL.new1 w _ _ _;have g:aZ (Q7 w x tv) (w.heap.size+1) 0 (QF (QL 16) QO).toArray.size:=b.there;have r:w.heap.size+1 ≠ w.heap.size:=oM;have pA:=j.farAll r 0 (QF (QL 16) QO);have s:AtL ((Q7 w x tv).setCells (w.heap.size+1) 0 (QF (QL 16) QO)) (w.heap.size+1) (QF (QL 16) QO):=b.setAll rfl;have f:bL w ((Q7 w x tv).setCells (w.heap.size+1) 0 (QF (QL 16) QO)):=Qm (QJ (QJ (cZ _ w) _) _) (bZ _) _ 0;clear j b;have B:(QF x tv)[0]? = some (O J 16):=by rw [<-A];rfl
 have v:=pA.2.1 0 _ B;show cW _ _ #[gX (QF x tv).toArray] _ _
 have z:=zCU pA s;clear u q i;go_enter func101,ntmps101;go_upto_region 1 with fail
 go_upto_region 2 with ((with_reducible refine wpList_store_mid ?_ 87 (mX 3) (mX 7) ?_ (w.heap.size+1) 0 (QF (QL 16) QO).toArray ?_ ?_ ?_ ?_ ?_ ?_);rfl;rfl;rfl;rfl;exact g;kernel_rfl;exact JO _ _ _ _)
 generalize (Q7 w x tv).setCells (w.heap.size+1) 0 (QF (QL 16) QO)=E at *;clear g;go_upto_region 33 with fail
 have k:=pA;have l:=s;have d:=f;clear pA s f z v;have C:=k.range;have D:=l.range;have a:=d;clear k l d;go_wp2_with (first | ((with_reducible refine QB ?_ 87 (mX 1) ?_ w.heap.size 0 ?_ (QF x tv) _ ?_ underlying87 ?_ ?_ ?_);rfl;rfl;rfl;exact C;rfl;kernel_rfl) | ((with_reducible refine QB ?_ 87 (mX 3) ?_ (w.heap.size+1) 0 ?_ (QF ⟨16,0,0,v0I,c0I,a0I,a0I⟩ QO) _ ?_ underlying87 ?_ ?_ ?_);rfl;rfl;rfl;exact D;rfl;kernel_rfl) | (go_at_call 136;refine (t _ a).mono ?_;rintro e F ⟨rfl,p⟩;have o:=QA a p))
 go_wp2;go_ret;first
 | exact ⟨sM,a⟩
 | exact ⟨sM,o⟩
abbrev zQc (ka kb:Nat) (x:Wc.In) (tv:vW) (W:wW):Prop :=
 W.cell? ⟨ka,1,none⟩=some (O J x.a)/\W.frozen? ⟨kb,1,none⟩=false
theorem zFO (a:AtL W ka (QF x tv)) (b:AtL W kb (QF y tu)):zQc ka kb x tv W :=
 ⟨a.2.1 1 _ rfl,b.2.2 1 (by show 1<23;decide)⟩
theorem zHB (x:Wc.In) (q:Option Addr) (n c:Nat) (tl:List Int) (w:wW) (E:x.op=13) (z:RdZ w (U q n c) tl) (t:tl.length<=1000000) :
  CR 101 #[inV x (U q n c)] w (Y (true && (smI x ⟨13,x.a,0,v0I,c0I,a0I,a0I⟩ && decide (tl=[])))):=by
 have u:∀ w',bL w w'->CR 136 #[gX (QF x (U q n c)).toArray,gX (QF ⟨13,x.a,0,v0I,c0I,a0I,a0I⟩ QO).toArray] w' (Y (smI x ⟨13,x.a,0,v0I,c0I,a0I,a0I⟩ && decide (tl=[]))):=λw' hb=>Q5 x ⟨13,x.a,0,v0I,c0I,a0I,a0I⟩ _ _ tl [] w' (z.below hb) (RdZ.nil _) t (by first | exact t | simp)
 generalize (smI x ⟨13,x.a,0,v0I,c0I,a0I,a0I⟩ && decide (tl=[]))=R at *;obtain ⟨tv,k⟩:=xV (U q n c)
 rw [k] at u ⊢;have l:AtL (Q7 w x tv) w.heap.size (QF x tv):=(AtL.new0 w _ _).alloc _;have d:AtL (Q7 w x tv) (w.heap.size+1) (QF (QL 0) QO):=AtL.new1 w _ _ _;have j:aZ (Q7 w x tv) (w.heap.size+1) 0 (QF (QL 13) QO).toArray.size:=d.there;have i:w.heap.size+1 ≠ w.heap.size:=oM;have pA:=l.farAll i 0 (QF (QL 13) QO);have o:AtL ((Q7 w x tv).setCells (w.heap.size+1) 0 (QF (QL 13) QO)) (w.heap.size+1) (QF (QL 13) QO):=d.setAll rfl;have g:bL w ((Q7 w x tv).setCells (w.heap.size+1) 0 (QF (QL 13) QO)):=Qm (QJ (QJ (cZ _ w) _) _) (bZ _) _ 0;clear l d;have F:(QF x tv)[0]? = some (O J 13):=by rw [<-E];rfl
 have A:=pA.2.1 0 _ F;show cW _ _ #[gX (QF x tv).toArray] _ _
 have D:=zFO pA o;clear z t k;go_enter func101,ntmps101;go_upto_region 1 with fail
 go_upto_region 2 with ((with_reducible refine wpList_store_mid ?_ 87 (mX 3) (mX 7) ?_ (w.heap.size+1) 0 (QF (QL 13) QO).toArray ?_ ?_ ?_ ?_ ?_ ?_);rfl;rfl;rfl;rfl;exact j;kernel_rfl;exact JO _ _ _ _)
 generalize (Q7 w x tv).setCells (w.heap.size+1) 0 (QF (QL 13) QO)=v at *;clear j;have B:=pA.2.1 1 _ rfl;have G:=o.2.1 1 _ rfl;have C:=o.2.2 1 (by show 1<23;decide);go_upto_region 33 with fail
 have m:=pA.far i 1 (O J x.a);have p:=o.set 1 (O J x.a);have f:bL w (v.setCell ⟨w.heap.size+1,1,none⟩ (O J x.a)):=(clB g)
 clear pA o g D A B G C;generalize (v.setCell ⟨w.heap.size+1,1,none⟩ (O J x.a))=K at *;have H:=m.range;have I:=p.range;have b:=f;clear m p f;go_wp2_with (first | ((with_reducible refine QB ?_ 87 (mX 1) ?_ w.heap.size 0 ?_ (QF x tv) _ ?_ underlying87 ?_ ?_ ?_);rfl;rfl;rfl;exact H;rfl;kernel_rfl) | ((with_reducible refine QB ?_ 87 (mX 3) ?_ (w.heap.size+1) 0 ?_ (QF ⟨13,x.a,0,v0I,c0I,a0I,a0I⟩ QO) _ ?_ underlying87 ?_ ?_ ?_);rfl;rfl;rfl;exact I;rfl;kernel_rfl) | (go_at_call 136;refine (u _ b).mono ?_;rintro e L ⟨rfl,s⟩;have r:=QA b s))
 go_wp2;go_ret;first
 | exact ⟨sM,b⟩
 | exact ⟨sM,r⟩
theorem zJf (x:Wc.In) (q:Option Addr) (n c:Nat) (tl:List Int) (w:wW) (E:x.op=14) (z:RdZ w (U q n c) tl) (t:tl.length<=1000000) :
  CR 101 #[inV x (U q n c)] w (Y (true && (smI x ⟨14,x.a,0,v0I,c0I,a0I,a0I⟩ && decide (tl=[])))):=by
 have u:∀ w',bL w w'->CR 136 #[gX (QF x (U q n c)).toArray,gX (QF ⟨14,x.a,0,v0I,c0I,a0I,a0I⟩ QO).toArray] w' (Y (smI x ⟨14,x.a,0,v0I,c0I,a0I,a0I⟩ && decide (tl=[]))):=λw' hb=>Q5 x ⟨14,x.a,0,v0I,c0I,a0I,a0I⟩ _ _ tl [] w' (z.below hb) (RdZ.nil _) t (by first | exact t | simp)
 generalize (smI x ⟨14,x.a,0,v0I,c0I,a0I,a0I⟩ && decide (tl=[]))=R at *;obtain ⟨tv,k⟩:=xV (U q n c)
 rw [k] at u ⊢;have l:AtL (Q7 w x tv) w.heap.size (QF x tv):=(AtL.new0 w _ _).alloc _;have d:AtL (Q7 w x tv) (w.heap.size+1) (QF (QL 0) QO):=AtL.new1 w _ _ _;have j:aZ (Q7 w x tv) (w.heap.size+1) 0 (QF (QL 14) QO).toArray.size:=d.there;have i:w.heap.size+1 ≠ w.heap.size:=oM;have pA:=l.farAll i 0 (QF (QL 14) QO);have o:AtL ((Q7 w x tv).setCells (w.heap.size+1) 0 (QF (QL 14) QO)) (w.heap.size+1) (QF (QL 14) QO):=d.setAll rfl;have g:bL w ((Q7 w x tv).setCells (w.heap.size+1) 0 (QF (QL 14) QO)):=Qm (QJ (QJ (cZ _ w) _) _) (bZ _) _ 0;clear l d;have F:(QF x tv)[0]? = some (O J 14):=by rw [<-E];rfl
 have A:=pA.2.1 0 _ F;show cW _ _ #[gX (QF x tv).toArray] _ _
 have D:=zFO pA o;clear z t k;go_enter func101,ntmps101;go_upto_region 1 with fail
 go_upto_region 2 with ((with_reducible refine wpList_store_mid ?_ 87 (mX 3) (mX 7) ?_ (w.heap.size+1) 0 (QF (QL 14) QO).toArray ?_ ?_ ?_ ?_ ?_ ?_);rfl;rfl;rfl;rfl;exact j;kernel_rfl;exact JO _ _ _ _)
 generalize (Q7 w x tv).setCells (w.heap.size+1) 0 (QF (QL 14) QO)=v at *;clear j;have B:=pA.2.1 1 _ rfl;have G:=o.2.1 1 _ rfl;have C:=o.2.2 1 (by show 1<23;decide);go_upto_region 33 with fail
 have m:=pA.far i 1 (O J x.a);have p:=o.set 1 (O J x.a);have f:bL w (v.setCell ⟨w.heap.size+1,1,none⟩ (O J x.a)):=(clB g)
 clear pA o g D A B G C;generalize (v.setCell ⟨w.heap.size+1,1,none⟩ (O J x.a))=K at *;have H:=m.range;have I:=p.range;have b:=f;clear m p f;go_wp2_with (first | ((with_reducible refine QB ?_ 87 (mX 1) ?_ w.heap.size 0 ?_ (QF x tv) _ ?_ underlying87 ?_ ?_ ?_);rfl;rfl;rfl;exact H;rfl;kernel_rfl) | ((with_reducible refine QB ?_ 87 (mX 3) ?_ (w.heap.size+1) 0 ?_ (QF ⟨14,x.a,0,v0I,c0I,a0I,a0I⟩ QO) _ ?_ underlying87 ?_ ?_ ?_);rfl;rfl;rfl;exact I;rfl;kernel_rfl) | (go_at_call 136;refine (u _ b).mono ?_;rintro e L ⟨rfl,s⟩;have r:=QA b s))
 go_wp2;go_ret;first
 | exact ⟨sM,b⟩
 | exact ⟨sM,r⟩
theorem zLU (x:Wc.In) (m:Option Addr) (n c:Nat) (tl:List Int) (w:wW) (u:RdZ w (U m n c) tl) (q:tl.length<=1000000) (M:x.op<1 \/ 16<x.op) :
  CR 101 #[inV x (U m n c)] w (Y (false && (smI x ⟨x.op,0,0,v0I,c0I,a0I,a0I⟩ && decide (tl=[])))):=by
 have t:∀ w',bL w w'->CR 136 #[gX (QF x (U m n c)).toArray,gX (QF ⟨x.op,0,0,v0I,c0I,a0I,a0I⟩ QO).toArray] w' (Y (smI x ⟨x.op,0,0,v0I,c0I,a0I,a0I⟩ && decide (tl=[]))):=λw' hb=>Q5 x ⟨x.op,0,0,v0I,c0I,a0I,a0I⟩ _ _ tl [] w' (u.below hb) (RdZ.nil _) q (by first | exact q | simp)
 generalize (smI x ⟨x.op,0,0,v0I,c0I,a0I,a0I⟩ && decide (tl=[]))=R at *;have N:¬ x.op=1:=oM;have P:¬ x.op=2:=oM;have Q:¬ x.op=3:=oM;have S:¬ x.op=4:=oM;have T:¬ x.op=5:=oM;have X:¬ x.op=6:=oM;have m7:¬ x.op=7:=oM;have m8:¬ x.op=8:=oM;have m9:¬ x.op=9:=oM;have A:¬ x.op=10:=oM;have B:¬ x.op=11:=oM;have C:¬ x.op=12:=oM;have D:¬ x.op=13:=oM;have E:¬ x.op=14:=oM;have F:¬ x.op=15:=oM;have G:¬ x.op=16:=oM;obtain ⟨tv,i⟩:=xV (U m n c)
 rw [i] at t ⊢;have j:AtL (Q7 w x tv) w.heap.size (QF x tv):=(AtL.new0 w _ _).alloc _;have b:AtL (Q7 w x tv) (w.heap.size+1) (QF (QL 0) QO):=AtL.new1 w _ _ _;have g:aZ (Q7 w x tv) (w.heap.size+1) 0 (QF (QL (x.op)) QO).toArray.size:=b.there;have r:w.heap.size+1 ≠ w.heap.size:=oM;have pA:=j.farAll r 0 (QF (QL (x.op)) QO);have s:AtL ((Q7 w x tv).setCells (w.heap.size+1) 0 (QF (QL (x.op)) QO)) (w.heap.size+1) (QF (QL (x.op)) QO):=b.setAll rfl;have f:bL w ((Q7 w x tv).setCells (w.heap.size+1) 0 (QF (QL (x.op)) QO)):=Qm (QJ (QJ (cZ _ w) _) _) (bZ _) _ 0;clear j b;have H:(QF x tv)[0]? = some (O J (x.op)):=rfl;have v:=pA.2.1 0 _ H;show cW _ _ #[gX (QF x tv).toArray] _ _
 have z:=zCU pA s;clear u q i;go_enter func101,ntmps101;go_upto_region 1 with fail
 go_upto_region 2 with ((with_reducible refine wpList_store_mid ?_ 87 (mX 3) (mX 7) ?_ (w.heap.size+1) 0 (QF (QL (x.op)) QO).toArray ?_ ?_ ?_ ?_ ?_ ?_);rfl;rfl;rfl;rfl;exact g;kernel_rfl;exact JO _ _ _ _)
 generalize (Q7 w x tv).setCells (w.heap.size+1) 0 (QF (QL (x.op)) QO)=L at *;clear g;go_upto_region 33 with fail
 have k:=pA;have l:=s;have d:=f;clear pA s f z v;have I:=k.range;have K:=l.range;have a:=d;clear k l d;go_wp2_with (first | ((with_reducible refine QB ?_ 87 (mX 1) ?_ w.heap.size 0 ?_ (QF x tv) _ ?_ underlying87 ?_ ?_ ?_);rfl;rfl;rfl;exact I;rfl;kernel_rfl) | ((with_reducible refine QB ?_ 87 (mX 3) ?_ (w.heap.size+1) 0 ?_ (QF ⟨x.op,0,0,v0I,c0I,a0I,a0I⟩ QO) _ ?_ underlying87 ?_ ?_ ?_);rfl;rfl;rfl;exact K;rfl;kernel_rfl) | (go_at_call 136;refine (t _ a).mono ?_;rintro e w3 ⟨rfl,p⟩;have o:=QA a p))
 go_wp2;go_ret;first
 | exact ⟨sM,a⟩
 | exact ⟨sM,o⟩
theorem zMQ {a:Wpl.Ar} (h:Wpl.rightA a.s a.t a.l a.b a.r=true):SmA a:=by
 have:=Wpl.rightA_iff.1 h;unfold SmA;omega
abbrev zQQ (ka kb:Nat) (x:Wc.In) (tv:vW) (W:wW):Prop :=
 W.cell? ⟨ka,12,none⟩=some (O J x.ar.s)/\W.cell? ⟨ka,13,none⟩=some (O J x.ar.t)/\W.cell? ⟨ka,14,none⟩=some (O J x.ar.l)/\W.cell? ⟨ka,15,none⟩=some (O J x.ar.b)/\W.cell? ⟨ka,16,none⟩=some (O J x.ar.r)/\W.cell? ⟨ka,17,none⟩=some (O J x.pr.s)/\W.cell? ⟨ka,18,none⟩=some (O J x.pr.t)/\W.cell? ⟨ka,19,none⟩=some (O J x.pr.l)/\W.cell? ⟨ka,20,none⟩=some (O J x.pr.b)/\W.cell? ⟨ka,21,none⟩=some (O J x.pr.r)/\W.frozen? ⟨kb,12,none⟩=false/\W.frozen? ⟨kb,13,none⟩=false/\W.frozen? ⟨kb,14,none⟩=false/\W.frozen? ⟨kb,15,none⟩=false/\W.frozen? ⟨kb,16,none⟩=false/\W.frozen? ⟨kb,17,none⟩=false/\W.frozen? ⟨kb,18,none⟩=false/\W.frozen? ⟨kb,19,none⟩=false/\W.frozen? ⟨kb,20,none⟩=false/\W.frozen? ⟨kb,21,none⟩=false
theorem zCi (a:AtL W ka (QF x tv)) (b:AtL W kb (QF y tu)):zQQ ka kb x tv W :=
 ⟨a.2.1 12 _ rfl,a.2.1 13 _ rfl,a.2.1 14 _ rfl,a.2.1 15 _ rfl,a.2.1 16 _ rfl,a.2.1 17 _ rfl,a.2.1 18 _ rfl,a.2.1 19 _ rfl,a.2.1 20 _ rfl,a.2.1 21 _ rfl,b.2.2 12 (by show 12<23;decide),b.2.2 13 (by show 13<23;decide),b.2.2 14 (by show 14<23;decide),b.2.2 15 (by show 15<23;decide),b.2.2 16 (by show 16<23;decide),b.2.2 17 (by show 17<23;decide),b.2.2 18 (by show 18<23;decide),b.2.2 19 (by show 19<23;decide),b.2.2 20 (by show 20<23;decide),b.2.2 21 (by show 21<23;decide)⟩
theorem JF (h:zQQ ka kb x tv W) (a:kb ≠ ka) (j:Nat) (u:vW):zQQ ka kb x tv (W.setCell ⟨kb,j,none⟩ u):=by
 obtain ⟨n,o,p,q,r,s,t,v,w,z,b,c,d,e,f,g,i,k,l,m⟩:=h;refine ⟨?_,?_,?_,?_,?_,?_,?_,?_,?_,?_,?_,?_,?_,?_,?_,?_,?_,?_,?_,?_⟩;any_goals rw [dZ _ _ _ _ (by simpa using a)];assumption
 all_goals rw [eZ];assumption
theorem zLZ (x:Wc.In) (av:Option Addr) (n c:Nat) (tl:List Int) (w:wW) (hk:x.op=9) (hz:RdZ w (U av n c) tl) (hl:tl.length<=1000000) :
  CR 101 #[inV x (U av n c)] w (Y (((Wpl.rightA x.ar.s x.ar.t x.ar.l x.ar.b x.ar.r && Wpl.rightA x.pr.s x.pr.t x.pr.l x.pr.b x.pr.r) && shp x.ar x.pr) && (smI x ⟨9,0,0,v0I,c0I,x.ar,x.pr⟩ && decide (tl=[])))):=by
 have CS:∀ w',bL w w'->CR 136 #[gX (QF x (U av n c)).toArray,gX (QF ⟨9,0,0,v0I,c0I,x.ar,x.pr⟩ QO).toArray] w' (Y (smI x ⟨9,0,0,v0I,c0I,x.ar,x.pr⟩ && decide (tl=[]))):=λw' C=>Q5 x ⟨9,0,0,v0I,c0I,x.ar,x.pr⟩ _ _ tl [] w' (hz.below C) (RdZ.nil _) hl (by first | exact hl | simp)
 generalize (smI x ⟨9,0,0,v0I,c0I,x.ar,x.pr⟩ && decide (tl=[]))=R at *;have CA:=(λw=>zAH x.ar.s x.ar.t x.ar.l x.ar.b x.ar.r w:∀ w:wW,CR 134 #[gX #[O J x.ar.s,O J x.ar.t,O J x.ar.l,O J x.ar.b,O J x.ar.r]] w (Y (Wpl.rightA x.ar.s x.ar.t x.ar.l x.ar.b x.ar.r)))
 have CB:=(λw=>zAH x.pr.s x.pr.t x.pr.l x.pr.b x.pr.r w:∀ w:wW,CR 134 #[gX #[O J x.pr.s,O J x.pr.t,O J x.pr.l,O J x.pr.b,O J x.pr.r]] w (Y (Wpl.rightA x.pr.s x.pr.t x.pr.l x.pr.b x.pr.r)))
 have CC:∀ w:wW,Wpl.rightA x.ar.s x.ar.t x.ar.l x.ar.b x.ar.r=true->Wpl.rightA x.pr.s x.pr.t x.pr.l x.pr.b x.pr.r=true->CR 135 #[gX #[O J x.ar.s,O J x.ar.t,O J x.ar.l,O J x.ar.b,O J x.ar.r],gX #[O J x.pr.s,O J x.pr.t,O J x.pr.l,O J x.pr.b,O J x.pr.r]] w (Y (shp x.ar x.pr)):=λw h1 h2=>zAc x.ar x.pr w (zMQ h1) (zMQ h2)
 generalize shp x.ar x.pr=q3 at *;generalize Wpl.rightA x.ar.s x.ar.t x.ar.l x.ar.b x.ar.r=q1 at *;generalize Wpl.rightA x.pr.s x.pr.t x.pr.l x.pr.b x.pr.r=q2 at *;obtain ⟨tv,ae⟩:=xV (U av n c)
 rw [ae] at CS ⊢;have af:AtL (Q7 w x tv) w.heap.size (QF x tv):=(AtL.new0 w _ _).alloc _;have ab:AtL (Q7 w x tv) (w.heap.size+1) (QF (QL 0) QO):=AtL.new1 w _ _ _;have ad:aZ (Q7 w x tv) (w.heap.size+1) 0 (QF (QL 9) QO).toArray.size:=ab.there;have j:w.heap.size+1 ≠ w.heap.size:=oM;have pA:=af.farAll j 0 (QF (QL 9) QO);have pO:AtL ((Q7 w x tv).setCells (w.heap.size+1) 0 (QF (QL 9) QO)) (w.heap.size+1) (QF (QL 9) QO):=ab.setAll rfl;have ac:bL w ((Q7 w x tv).setCells (w.heap.size+1) 0 (QF (QL 9) QO)):=Qm (QJ (QJ (cZ _ w) _) _) (bZ _) _ 0;clear af ab;have n0:(QF x tv)[0]? = some (O J 9):=by rw [<-hk];rfl
 have a0:=pA.2.1 0 _ n0;show cW _ _ #[gX (QF x tv).toArray] _ _
 have hS:=zCi pA pO;clear hz hl ae;go_enter func101,ntmps101;go_upto_region 1 with fail
 go_upto_region 2 with ((with_reducible refine wpList_store_mid ?_ 87 (mX 3) (mX 7) ?_ (w.heap.size+1) 0 (QF (QL 9) QO).toArray ?_ ?_ ?_ ?_ ?_ ?_);rfl;rfl;rfl;rfl;exact ad;kernel_rfl;exact JO _ _ _ _)
 generalize (Q7 w x tv).setCells (w.heap.size+1) 0 (QF (QL 9) QO)=W0 at *;clear ad;go_upto_region 22 with fail
 have a:=AtL.drew pA;have d:=AtL.drew pO;have f:=ac.drew;clear pA pO ac hS;refine wp_region_held_drew (S:=zQQ w.heap.size (w.heap.size+1) x tv) kR (zCi a d) (λi=>?_);generalize W0.drew=wd at *;refine tkQ 0 ?_
 refine tkQ 1 ?_
 refine tkQ 2 ?_
 refine tkQ 3 ?_
 refine tkQ 4 ?_
 refine rdQ 5 (λK hK=>?_);have ah:=d.2.1 12 _ rfl;have ai:=d.2.1 13 _ rfl;have aj:=d.2.1 14 _ rfl;have ak:=d.2.1 15 _ rfl;have al:=d.2.1 16 _ rfl;obtain ⟨_,_,_,_,_,_,_,_,_,_,H,I,L,M,N,P,Q,T,X,aa⟩:=i;go_simp
 refine hkQ hK ((JF (JF (JF (JF (JF (zCi a d) oM _ _) oM _ _) oM _ _) oM _ _) oM _ _)) (λi=>?_);clear hK K ah ai aj ak al H I L M N P Q T X aa
 have F:AtL (((((wd.setCell ⟨w.heap.size+1,12,none⟩ (O J x.ar.s)).setCell ⟨w.heap.size+1,13,none⟩ (O J x.ar.t)).setCell ⟨w.heap.size+1,14,none⟩ (O J x.ar.l)).setCell ⟨w.heap.size+1,15,none⟩ (O J x.ar.b)).setCell ⟨w.heap.size+1,16,none⟩ (O J x.ar.r)) w.heap.size (QF x tv):=(((((a.far j 12 (O J x.ar.s)).far j 13 (O J x.ar.t)).far j 14 (O J x.ar.l)).far j 15 (O J x.ar.b)).far j 16 (O J x.ar.r))
 have G:AtL (((((wd.setCell ⟨w.heap.size+1,12,none⟩ (O J x.ar.s)).setCell ⟨w.heap.size+1,13,none⟩ (O J x.ar.t)).setCell ⟨w.heap.size+1,14,none⟩ (O J x.ar.l)).setCell ⟨w.heap.size+1,15,none⟩ (O J x.ar.b)).setCell ⟨w.heap.size+1,16,none⟩ (O J x.ar.r)) (w.heap.size+1) (QF ⟨9,0,0,v0I,c0I,x.ar,a0I⟩ QO):=(((((d.set 12 (O J x.ar.s)).set 13 (O J x.ar.t)).set 14 (O J x.ar.l)).set 15 (O J x.ar.b)).set 16 (O J x.ar.r))
 have g:bL w (((((wd.setCell ⟨w.heap.size+1,12,none⟩ (O J x.ar.s)).setCell ⟨w.heap.size+1,13,none⟩ (O J x.ar.t)).setCell ⟨w.heap.size+1,14,none⟩ (O J x.ar.l)).setCell ⟨w.heap.size+1,15,none⟩ (O J x.ar.b)).setCell ⟨w.heap.size+1,16,none⟩ (O J x.ar.r)):=(clB f)
 clear a d f;generalize (((((wd.setCell ⟨w.heap.size+1,12,none⟩ (O J x.ar.s)).setCell ⟨w.heap.size+1,13,none⟩ (O J x.ar.t)).setCell ⟨w.heap.size+1,14,none⟩ (O J x.ar.l)).setCell ⟨w.heap.size+1,15,none⟩ (O J x.ar.b)).setCell ⟨w.heap.size+1,16,none⟩ (O J x.ar.r))=ag at *;have a:=F;have d:=G;have f:=g;clear F G g;refine tkQ 6 ?_
 refine rdQ 7 (λK hK=>?_);have am:=d.2.1 17 _ rfl;have an:=d.2.1 18 _ rfl;have ao:=d.2.1 19 _ rfl;have ap:=d.2.1 20 _ rfl;have aq:=d.2.1 21 _ rfl;obtain ⟨_,_,_,_,_,_,_,_,_,_,H,I,L,M,N,P,Q,T,X,aa⟩:=i;go_simp
 refine hkQ hK ((JF (JF (JF (JF (JF (zCi a d) oM _ _) oM _ _) oM _ _) oM _ _) oM _ _)) (λi=>?_);clear hK K am an ao ap aq H I L M N P Q T X aa
 have F:=(((((a.far j 17 (O J x.pr.s)).far j 18 (O J x.pr.t)).far j 19 (O J x.pr.l)).far j 20 (O J x.pr.b)).far j 21 (O J x.pr.r))
 have G:=(((((d.set 17 (O J x.pr.s)).set 18 (O J x.pr.t)).set 19 (O J x.pr.l)).set 20 (O J x.pr.b)).set 21 (O J x.pr.r))
 have g:bL w (((((ag.setCell ⟨w.heap.size+1,17,none⟩ (O J x.pr.s)).setCell ⟨w.heap.size+1,18,none⟩ (O J x.pr.t)).setCell ⟨w.heap.size+1,19,none⟩ (O J x.pr.l)).setCell ⟨w.heap.size+1,20,none⟩ (O J x.pr.b)).setCell ⟨w.heap.size+1,21,none⟩ (O J x.pr.r)):=(clB f)
 clear a d f;generalize (((((ag.setCell ⟨w.heap.size+1,17,none⟩ (O J x.pr.s)).setCell ⟨w.heap.size+1,18,none⟩ (O J x.pr.t)).setCell ⟨w.heap.size+1,19,none⟩ (O J x.pr.l)).setCell ⟨w.heap.size+1,20,none⟩ (O J x.pr.b)).setCell ⟨w.heap.size+1,21,none⟩ (O J x.pr.r))=ay at *;have a:=F;have d:=G;have f:=g;clear F G g;refine wpAnyH_done kR ?_ _;clear i;have k:=a.2.1 12 _ rfl;have m:=a.2.1 13 _ rfl;have o:=a.2.1 14 _ rfl;have p:=a.2.1 15 _ rfl;have q:=a.2.1 16 _ rfl;have u:=a.2.1 17 _ rfl;have v:=a.2.1 18 _ rfl;have z:=a.2.1 19 _ rfl;have A:=a.2.1 20 _ rfl;have B:=a.2.1 21 _ rfl;go_wp2_with fail
 refine (CA _).mono ?_;rintro e au ⟨rfl,C⟩;replace a:=AtL.below C a
 replace d:=AtL.below C d
 replace f:=QA f C
 clear C;clear k m o p q u v z A B;have k:=a.2.1 12 _ rfl;have m:=a.2.1 13 _ rfl;have o:=a.2.1 14 _ rfl;have p:=a.2.1 15 _ rfl;have q:=a.2.1 16 _ rfl;have u:=a.2.1 17 _ rfl;have v:=a.2.1 18 _ rfl;have z:=a.2.1 19 _ rfl;have A:=a.2.1 20 _ rfl;have B:=a.2.1 21 _ rfl;cases q1 with
 | false =>
  go_upto_region 33 with fail
  clear k m o p q u v z A B;have rA:=a.range;have rO:=d.range;have g:=f;clear a d f;go_wp2_with (first | ((with_reducible refine QB ?_ 87 (mX 1) ?_ w.heap.size 0 ?_ (QF x tv) _ ?_ underlying87 ?_ ?_ ?_);rfl;rfl;rfl;exact rA;rfl;kernel_rfl) | ((with_reducible refine QB ?_ 87 (mX 3) ?_ (w.heap.size+1) 0 ?_ (QF ⟨9,0,0,v0I,c0I,x.ar,x.pr⟩ QO) _ ?_ underlying87 ?_ ?_ ?_);rfl;rfl;rfl;exact rO;rfl;kernel_rfl) | (go_at_call 136;refine (CS _ g).mono ?_;rintro e w3 ⟨rfl,E⟩;have D:=QA g E))
  go_wp2;go_ret;first
  | exact ⟨sM,g⟩
  | exact ⟨sM,D⟩
 | true =>
  go_wp2_with fail
  refine (CB _).mono ?_;rintro e aw ⟨rfl,C⟩;replace a:=AtL.below C a
  replace d:=AtL.below C d
  replace f:=QA f C
  clear C;clear k m o p q u v z A B;have k:=a.2.1 12 _ rfl;have m:=a.2.1 13 _ rfl;have o:=a.2.1 14 _ rfl;have p:=a.2.1 15 _ rfl;have q:=a.2.1 16 _ rfl;have u:=a.2.1 17 _ rfl;have v:=a.2.1 18 _ rfl;have z:=a.2.1 19 _ rfl;have A:=a.2.1 20 _ rfl;have B:=a.2.1 21 _ rfl;cases q2 with
  | false =>
   go_upto_region 33 with fail
   clear k m o p q u v z A B;have rA:=a.range;have rO:=d.range;have g:=f;clear a d f;go_wp2_with (first | ((with_reducible refine QB ?_ 87 (mX 1) ?_ w.heap.size 0 ?_ (QF x tv) _ ?_ underlying87 ?_ ?_ ?_);rfl;rfl;rfl;exact rA;rfl;kernel_rfl) | ((with_reducible refine QB ?_ 87 (mX 3) ?_ (w.heap.size+1) 0 ?_ (QF ⟨9,0,0,v0I,c0I,x.ar,x.pr⟩ QO) _ ?_ underlying87 ?_ ?_ ?_);rfl;rfl;rfl;exact rO;rfl;kernel_rfl) | (go_at_call 136;refine (CS _ g).mono ?_;rintro e w3 ⟨rfl,E⟩;have D:=QA g E))
   go_wp2;go_ret;first
   | exact ⟨sM,g⟩
   | exact ⟨sM,D⟩
  | true =>
   go_wp2_with fail
   refine (CC _ (by first | trivial | rfl) (by first | trivial | rfl)).mono ?_;rintro e ax ⟨rfl,C⟩;replace a:=AtL.below C a
   replace d:=AtL.below C d
   replace f:=QA f C
   clear C;clear k m o p q u v z A B;have k:=a.2.1 12 _ rfl;have m:=a.2.1 13 _ rfl;have o:=a.2.1 14 _ rfl;have p:=a.2.1 15 _ rfl;have q:=a.2.1 16 _ rfl;have u:=a.2.1 17 _ rfl;have v:=a.2.1 18 _ rfl;have z:=a.2.1 19 _ rfl;have A:=a.2.1 20 _ rfl;have B:=a.2.1 21 _ rfl;go_upto_region 33 with fail
   clear k m o p q u v z A B;cases q3
   all_goals
    have rA:=a.range;have rO:=d.range;have g:=f;clear a d f;go_wp2_with (first | ((with_reducible refine QB ?_ 87 (mX 1) ?_ w.heap.size 0 ?_ (QF x tv) _ ?_ underlying87 ?_ ?_ ?_);rfl;rfl;rfl;exact rA;rfl;kernel_rfl) | ((with_reducible refine QB ?_ 87 (mX 3) ?_ (w.heap.size+1) 0 ?_ (QF ⟨9,0,0,v0I,c0I,x.ar,x.pr⟩ QO) _ ?_ underlying87 ?_ ?_ ?_);rfl;rfl;rfl;exact rO;rfl;kernel_rfl) | (go_at_call 136;refine (CS _ g).mono ?_;rintro e w3 ⟨rfl,E⟩;have D:=QA g E))
    go_wp2;go_ret;first
    | exact ⟨sM,g⟩
    | exact ⟨sM,D⟩
abbrev zIj (ka kb:Nat) (x:Wc.In) (tv:vW) (W:wW):Prop :=
 W.cell? ⟨ka,2,none⟩=some (O J x.b)/\W.cell? ⟨ka,12,none⟩=some (O J x.ar.s)/\W.cell? ⟨ka,13,none⟩=some (O J x.ar.t)/\W.cell? ⟨ka,14,none⟩=some (O J x.ar.l)/\W.cell? ⟨ka,15,none⟩=some (O J x.ar.b)/\W.cell? ⟨ka,16,none⟩=some (O J x.ar.r)/\W.frozen? ⟨kb,2,none⟩=false/\W.frozen? ⟨kb,12,none⟩=false/\W.frozen? ⟨kb,13,none⟩=false/\W.frozen? ⟨kb,14,none⟩=false/\W.frozen? ⟨kb,15,none⟩=false/\W.frozen? ⟨kb,16,none⟩=false
theorem zAs (a:AtL W ka (QF x tv)) (b:AtL W kb (QF y tu)):zIj ka kb x tv W :=
 ⟨a.2.1 2 _ rfl,a.2.1 12 _ rfl,a.2.1 13 _ rfl,a.2.1 14 _ rfl,a.2.1 15 _ rfl,a.2.1 16 _ rfl,b.2.2 2 (by show 2<23;decide),b.2.2 12 (by show 12<23;decide),b.2.2 13 (by show 13<23;decide),b.2.2 14 (by show 14<23;decide),b.2.2 15 (by show 15<23;decide),b.2.2 16 (by show 16<23;decide)⟩
theorem zAQ (h:zIj ka kb x tv W) (a:kb ≠ ka) (j:Nat) (u:vW):zIj ka kb x tv (W.setCell ⟨kb,j,none⟩ u):=by
 obtain ⟨o,g,i,k,l,m,n,b,c,d,e,f⟩:=h;refine ⟨?_,?_,?_,?_,?_,?_,?_,?_,?_,?_,?_,?_⟩;any_goals rw [dZ _ _ _ _ (by simpa using a)];assumption
 all_goals rw [eZ];assumption
theorem zJU (x:Wc.In) (P:Option Addr) (n c:Nat) (tl:List Int) (w:wW) (hk:x.op=11) (hz:RdZ w (U P n c) tl) (hl:tl.length<=1000000) :
  CR 101 #[inV x (U P n c)] w (Y ((Wpl.rightA x.ar.s x.ar.t x.ar.l x.ar.b x.ar.r && (x.b == 1 || x.b == 2)) && (smI x ⟨11,0,x.b,v0I,c0I,x.ar,a0I⟩ && decide (tl=[])))):=by
 have CS:∀ w',bL w w'->CR 136 #[gX (QF x (U P n c)).toArray,gX (QF ⟨11,0,x.b,v0I,c0I,x.ar,a0I⟩ QO).toArray] w' (Y (smI x ⟨11,0,x.b,v0I,c0I,x.ar,a0I⟩ && decide (tl=[]))):=λw' F=>Q5 x ⟨11,0,x.b,v0I,c0I,x.ar,a0I⟩ _ _ tl [] w' (hz.below F) (RdZ.nil _) hl (by first | exact hl | simp)
 generalize (smI x ⟨11,0,x.b,v0I,c0I,x.ar,a0I⟩ && decide (tl=[]))=R at *;have CA:=(λw=>zAH x.ar.s x.ar.t x.ar.l x.ar.b x.ar.r w:∀ w:wW,CR 134 #[gX #[O J x.ar.s,O J x.ar.t,O J x.ar.l,O J x.ar.b,O J x.ar.r]] w (Y (Wpl.rightA x.ar.s x.ar.t x.ar.l x.ar.b x.ar.r)))
 generalize Wpl.rightA x.ar.s x.ar.t x.ar.l x.ar.b x.ar.r=q1 at *;obtain ⟨tv,L⟩:=xV (U P n c)
 rw [L] at CS ⊢;have M:AtL (Q7 w x tv) w.heap.size (QF x tv):=(AtL.new0 w _ _).alloc _;have E:AtL (Q7 w x tv) (w.heap.size+1) (QF (QL 0) QO):=AtL.new1 w _ _ _;have I:aZ (Q7 w x tv) (w.heap.size+1) 0 (QF (QL 11) QO).toArray.size:=E.there;have m:w.heap.size+1 ≠ w.heap.size:=oM;have pA:=M.farAll m 0 (QF (QL 11) QO);have pO:AtL ((Q7 w x tv).setCells (w.heap.size+1) 0 (QF (QL 11) QO)) (w.heap.size+1) (QF (QL 11) QO):=E.setAll rfl;have G:bL w ((Q7 w x tv).setCells (w.heap.size+1) 0 (QF (QL 11) QO)):=Qm (QJ (QJ (cZ _ w) _) _) (bZ _) _ 0;clear M E;have n0:(QF x tv)[0]? = some (O J 11):=by rw [<-hk];rfl
 have a0:World.cell? ((Q7 w x tv).setCells (w.heap.size+1) 0 (QF (QL 11) QO)) ⟨w.heap.size,0,none⟩=some (O J 11):=pA.2.1 0 _ n0;show cW _ _ #[gX (QF x tv).toArray] _ _
 have hS:zIj w.heap.size (w.heap.size+1) x tv ((Q7 w x tv).setCells (w.heap.size+1) 0 (QF (QL 11) QO)):=zAs pA pO;clear hz hl L;cases q1
 rotate_left
 by_cases b1:x.b=1
 have H:(true && (x.b == 1 || x.b == 2))=true:=by simp [b1]
 have Q:(x.b == 1)=true:=by simp [b1]
 rw [H];clear b1;rotate_left
 have Q:(x.b == 1)=false:=by simp [b1]
 by_cases b2:x.b=2
 have H:(true && (x.b == 1 || x.b == 2))=true:=by simp [b2]
 have T:(x.b == 2)=true:=by simp [b2]
 rw [H];clear b2;rotate_left
 have H:(true && (x.b == 1 || x.b == 2))=false:=by simp [b1,b2]
 have T:(x.b == 2)=false:=by simp [b2]
 rw [H];rotate_left
 all_goals
  go_enter func101,ntmps101;go_upto_region 1 with fail
  go_upto_region 2 with ((with_reducible refine wpList_store_mid ?_ 87 (mX 3) (mX 7) ?_ (w.heap.size+1) 0 (QF (QL 11) QO).toArray ?_ ?_ ?_ ?_ ?_ ?_);rfl;rfl;rfl;rfl;exact I;kernel_rfl;exact JO _ _ _ _)
  generalize (Q7 w x tv).setCells (w.heap.size+1) 0 (QF (QL 11) QO)=W0 at *;clear I;go_upto_region 25 with fail
  have g:=AtL.drew pA;have a:=AtL.drew pO;have j:=G.drew;clear pA pO G hS;refine wp_region_held_drew (S:=zIj w.heap.size (w.heap.size+1) x tv) kR (zAs g a) (λd=>?_);generalize W0.drew=wd at *;refine tkQ 0 ?_
  refine tkQ 1 ?_
  refine tkQ 2 ?_
  refine tkQ 3 ?_
  refine tkQ 4 ?_
  refine tkQ 5 ?_
  refine tkQ 17 ?_
  refine rdQ 6 (λK o=>?_);go_simp
  refine (CA _).mono ?_;rintro e u ⟨rfl,F⟩;replace g:=AtL.below F g
  replace a:=AtL.below F a
  replace j:=QA j F
  clear F;go_wp2_with fail
  refine hkQ o (zAs g a) (λd=>?_);clear o K
  refine tkQ 7 ?_
  first
  | (refine wpAnyH_take (i:=8) (v:=undef) (atQ rfl) kR kR kR (λ_ _ _ h=>h) (gZ ⟨by rfl,rfl⟩) (by assumption) ?_)
  | (
    refine wpAnyH_take (i:=8) (v:=?_) (atQ rfl) kR kR kR (λ_ _ _ h=>h) (fZ ⟨by rfl,?_⟩) (by assumption) ?_;rotate_left
    ·intro w f
     (try dsimp only at f)
     go_simp
     try with_reducible rfl)
  try simp only [Act.put,lA,lZ,lS]
  first
  | (refine wpAnyH_take (i:=9) (v:=undef) (atQ rfl) kR kR kR (λ_ _ _ h=>h) (gZ ⟨by rfl,rfl⟩) (by assumption) ?_)
  | (
    refine wpAnyH_take (i:=9) (v:=?_) (atQ rfl) kR kR kR (λ_ _ _ h=>h) (fZ ⟨by rfl,?_⟩) (by assumption) ?_;rotate_left
    ·intro w f
     (try dsimp only at f)
     go_simp
     try with_reducible rfl)
  try simp only [Act.put,lA,lZ,lS]
  first
  | (refine wpAnyH_take (i:=10) (v:=undef) (atQ rfl) kR kR kR (λ_ _ _ h=>h) (gZ ⟨by rfl,rfl⟩) (by assumption) ?_)
  | (
    refine wpAnyH_take (i:=10) (v:=?_) (atQ rfl) kR kR kR (λ_ _ _ h=>h) (fZ ⟨by rfl,?_⟩) (by assumption) ?_;rotate_left
    ·intro w f
     (try dsimp only at f)
     go_simp
     try with_reducible rfl)
  try simp only [Act.put,lA,lZ,lS]
  first
  | (refine wpAnyH_take (i:=11) (v:=undef) (atQ rfl) kR kR kR (λ_ _ _ h=>h) (gZ ⟨by rfl,rfl⟩) (by assumption) ?_)
  | (
    refine wpAnyH_take (i:=11) (v:=?_) (atQ rfl) kR kR kR (λ_ _ _ h=>h) (fZ ⟨by rfl,?_⟩) (by assumption) ?_;rotate_left
    ·intro w f
     (try dsimp only at f)
     go_simp
     try with_reducible rfl)
  try simp only [Act.put,lA,lZ,lS]
  first
  | (refine wpAnyH_take (i:=12) (v:=undef) (atQ rfl) kR kR kR (λ_ _ _ h=>h) (gZ ⟨by rfl,rfl⟩) (by assumption) ?_)
  | (
    refine wpAnyH_take (i:=12) (v:=?_) (atQ rfl) kR kR kR (λ_ _ _ h=>h) (fZ ⟨by rfl,?_⟩) (by assumption) ?_;rotate_left
    ·intro w f
     (try dsimp only at f)
     go_simp
     try with_reducible rfl)
  try simp only [Act.put,lA,lZ,lS]
  first
  | (refine wpAnyH_take (i:=13) (v:=undef) (atQ rfl) kR kR kR (λ_ _ _ h=>h) (gZ ⟨by rfl,rfl⟩) (by assumption) ?_)
  | (
    refine wpAnyH_take (i:=13) (v:=?_) (atQ rfl) kR kR kR (λ_ _ _ h=>h) (fZ ⟨by rfl,?_⟩) (by assumption) ?_;rotate_left
    ·intro w f
     (try dsimp only at f)
     go_simp
     try with_reducible rfl)
  try simp only [Act.put,lA,lZ,lS]
  first
  | (refine wpAnyH_take (i:=14) (v:=undef) (atQ rfl) kR kR kR (λ_ _ _ h=>h) (gZ ⟨by rfl,rfl⟩) (by assumption) ?_)
  | (
    refine wpAnyH_take (i:=14) (v:=?_) (atQ rfl) kR kR kR (λ_ _ _ h=>h) (fZ ⟨by rfl,?_⟩) (by assumption) ?_;rotate_left
    ·intro w f
     (try dsimp only at f)
     go_simp
     try with_reducible rfl)
  try simp only [Act.put,lA,lZ,lS]
  first
  | (refine wpAnyH_take (i:=15) (v:=undef) (atQ rfl) kR kR kR (λ_ _ _ h=>h) (gZ ⟨by rfl,rfl⟩) (by assumption) ?_)
  | (
    refine wpAnyH_take (i:=15) (v:=?_) (atQ rfl) kR kR kR (λ_ _ _ h=>h) (fZ ⟨by rfl,?_⟩) (by assumption) ?_;rotate_left
    ·intro w f
     (try dsimp only at f)
     go_simp
     try with_reducible rfl)
  try simp only [Act.put,lA,lZ,lS]
  refine tkQ 16 ?_
  refine rdQ 18 (λK o=>?_);have ac:=a.2.1 12 _ rfl;have ad:=a.2.1 13 _ rfl;have ae:=a.2.1 14 _ rfl;have af:=a.2.1 15 _ rfl;have ag:=a.2.1 16 _ rfl;obtain ⟨_,_,_,_,_,_,X,z,A,B,C,D⟩:=d;go_simp
  refine hkQ o ((zAQ (zAQ (zAQ (zAQ (zAQ (zAs g a) oM _ _) oM _ _) oM _ _) oM _ _) oM _ _)) (λd=>?_);clear o K ac ad ae af ag X z A B C D
  have p:AtL (((((u.setCell ⟨w.heap.size+1,12,none⟩ (O J x.ar.s)).setCell ⟨w.heap.size+1,13,none⟩ (O J x.ar.t)).setCell ⟨w.heap.size+1,14,none⟩ (O J x.ar.l)).setCell ⟨w.heap.size+1,15,none⟩ (O J x.ar.b)).setCell ⟨w.heap.size+1,16,none⟩ (O J x.ar.r)) w.heap.size (QF x tv):=(((((g.far m 12 (O J x.ar.s)).far m 13 (O J x.ar.t)).far m 14 (O J x.ar.l)).far m 15 (O J x.ar.b)).far m 16 (O J x.ar.r))
  have q:AtL (((((u.setCell ⟨w.heap.size+1,12,none⟩ (O J x.ar.s)).setCell ⟨w.heap.size+1,13,none⟩ (O J x.ar.t)).setCell ⟨w.heap.size+1,14,none⟩ (O J x.ar.l)).setCell ⟨w.heap.size+1,15,none⟩ (O J x.ar.b)).setCell ⟨w.heap.size+1,16,none⟩ (O J x.ar.r)) (w.heap.size+1) (QF ⟨11,0,0,v0I,c0I,x.ar,a0I⟩ QO):=(((((a.set 12 (O J x.ar.s)).set 13 (O J x.ar.t)).set 14 (O J x.ar.l)).set 15 (O J x.ar.b)).set 16 (O J x.ar.r))
  have k:bL w (((((u.setCell ⟨w.heap.size+1,12,none⟩ (O J x.ar.s)).setCell ⟨w.heap.size+1,13,none⟩ (O J x.ar.t)).setCell ⟨w.heap.size+1,14,none⟩ (O J x.ar.l)).setCell ⟨w.heap.size+1,15,none⟩ (O J x.ar.b)).setCell ⟨w.heap.size+1,16,none⟩ (O J x.ar.r)):=(clB j)
  clear g a j;generalize (((((u.setCell ⟨w.heap.size+1,12,none⟩ (O J x.ar.s)).setCell ⟨w.heap.size+1,13,none⟩ (O J x.ar.t)).setCell ⟨w.heap.size+1,14,none⟩ (O J x.ar.l)).setCell ⟨w.heap.size+1,15,none⟩ (O J x.ar.b)).setCell ⟨w.heap.size+1,16,none⟩ (O J x.ar.r))=N at *;have g:=p;have a:=q;have j:=k;clear p q k;refine tkQ 19 ?_
  refine rdQ 20 (λK o=>?_);have o2:=a.2.1 2 _ rfl;obtain ⟨_,_,_,_,_,_,X,z,A,B,C,D⟩:=d;go_simp
  refine hkQ o ((zAQ (zAs g a) oM _ _)) (λd=>?_);clear o K o2 X z A B C D
  have p:=(g.far m 2 (O J x.b))
  have q:=(a.set 2 (O J x.b))
  have k:bL w (N.setCell ⟨w.heap.size+1,2,none⟩ (O J x.b)):=(clB j)
  clear g a j;generalize (N.setCell ⟨w.heap.size+1,2,none⟩ (O J x.b))=ah at *;have g:=p;have a:=q;have j:=k;clear p q k;refine rdQ 21 (λK o=>?_);go_simp
  refine hkQ o (by assumption) (λd=>?_);clear o K
  refine wpAnyH_done kR ?_ _;clear d;have rA:=g.range;have rO:=a.range;have k:=j;clear g a j;go_wp2_with (first | ((with_reducible refine QB ?_ 87 (mX 1) ?_ w.heap.size 0 ?_ (QF x tv) _ ?_ underlying87 ?_ ?_ ?_);rfl;rfl;rfl;exact rA;rfl;kernel_rfl) | ((with_reducible refine QB ?_ 87 (mX 3) ?_ (w.heap.size+1) 0 ?_ (QF ⟨11,0,x.b,v0I,c0I,x.ar,a0I⟩ QO) _ ?_ underlying87 ?_ ?_ ?_);rfl;rfl;rfl;exact rO;rfl;kernel_rfl) | (go_at_call 136;refine (CS _ k).mono ?_;rintro e w3 ⟨rfl,ab⟩;have aa:=QA k ab))
  go_wp2;go_ret;first
  | exact ⟨sM,k⟩
  | exact ⟨sM,aa⟩
def rgt (x:Wc.In) (tl:List Int):Bool :=
 if x.op=1 then Wv.right x.v.k x.v.n x.v.d x.v.t x.v.b x.v.f && (smI x ⟨1,0,0,x.v,c0I,a0I,a0I⟩ && decide (tl=[]))
 else if x.op=2 then Wpl.rightC x.ce.s x.ce.r x.ce.c && (smI x ⟨2,0,0,v0I,x.ce,a0I,a0I⟩ && decide (tl=[]))
 else if x.op=3 then (decide (1<=x.a) && decide (x.a<=3)) && (smI x ⟨3,x.a,0,v0I,c0I,a0I,a0I⟩ && decide (tl=[]))
 else if x.op=4 then Wt.isBin x.a && (smI x ⟨4,x.a,0,v0I,c0I,a0I,a0I⟩ && decide (tl=[]))
 else if x.op=5 then apl x.a x.b && (smI x ⟨5,x.a,x.b,v0I,c0I,a0I,a0I⟩ && decide (tl=[]))
 else if x.op=6 then fld x.a && (smI x ⟨6,x.a,0,v0I,c0I,a0I,a0I⟩ && decide (tl=[]))
 else if x.op=7 then true && (smI x ⟨7,0,0,v0I,c0I,a0I,a0I⟩ && decide (tl=[]))
 else if x.op=8 then Wpl.rightA x.ar.s x.ar.t x.ar.l x.ar.b x.ar.r && (smI x ⟨8,0,0,v0I,c0I,x.ar,a0I⟩ && decide (tl=[]))
 else if x.op=9 then ((Wpl.rightA x.ar.s x.ar.t x.ar.l x.ar.b x.ar.r && Wpl.rightA x.pr.s x.pr.t x.pr.l x.pr.b x.pr.r) && shp x.ar x.pr) && (smI x ⟨9,0,0,v0I,c0I,x.ar,x.pr⟩ && decide (tl=[]))
 else if x.op=10 then true && (smI x ⟨10,0,0,v0I,c0I,a0I,a0I⟩ && decide (tl=[]))
 else if x.op=11 then (Wpl.rightA x.ar.s x.ar.t x.ar.l x.ar.b x.ar.r && (x.b == 1 || x.b == 2)) && (smI x ⟨11,0,x.b,v0I,c0I,x.ar,a0I⟩ && decide (tl=[]))
 else if x.op=12 then true && (smI x ⟨12,x.a,x.b,v0I,c0I,a0I,a0I⟩ && decide (tl=[]))
 else if x.op=13 then true && (smI x ⟨13,x.a,0,v0I,c0I,a0I,a0I⟩ && decide (tl=[]))
 else if x.op=14 then true && (smI x ⟨14,x.a,0,v0I,c0I,a0I,a0I⟩ && decide (tl=[]))
 else if x.op=15 then (decide (1<=(tl.length:Int)) && decide ((tl.length:Int)<=30)) && (smI x ⟨15,0,x.b,v0I,c0I,a0I,a0I⟩ && decide (tl=tl))
 else if x.op=16 then true && (smI x ⟨16,0,0,v0I,c0I,a0I,a0I⟩ && decide (tl=[]))
 else false
theorem zRN (h:x.op=1):rgt x tl=(Wv.right x.v.k x.v.n x.v.d x.v.t x.v.b x.v.f && (smI x ⟨1,0,0,x.v,c0I,a0I,a0I⟩ && decide (tl=[]))):=by
 unfold rgt;rw [if_pos h]
theorem zQ5 (h:x.op=2):rgt x tl=(Wpl.rightC x.ce.s x.ce.r x.ce.c && (smI x ⟨2,0,0,v0I,x.ce,a0I,a0I⟩ && decide (tl=[]))):=by
 unfold rgt;rw [if_neg oM,if_pos h]
theorem zQo (h:x.op=3):rgt x tl=((decide (1<=x.a) && decide (x.a<=3)) && (smI x ⟨3,x.a,0,v0I,c0I,a0I,a0I⟩ && decide (tl=[]))):=by
 unfold rgt;rw [if_neg oM,if_neg oM,if_pos h]
theorem zQk (h:x.op=4):rgt x tl=(Wt.isBin x.a && (smI x ⟨4,x.a,0,v0I,c0I,a0I,a0I⟩ && decide (tl=[]))):=by
 unfold rgt;rw [if_neg oM,if_neg oM,if_neg oM,if_pos h]
theorem zPx (h:x.op=5):rgt x tl=(apl x.a x.b && (smI x ⟨5,x.a,x.b,v0I,c0I,a0I,a0I⟩ && decide (tl=[]))):=by
 unfold rgt;rw [if_neg oM,if_neg oM,if_neg oM,if_neg oM,if_pos h]
theorem zQd (h:x.op=6):rgt x tl=(fld x.a && (smI x ⟨6,x.a,0,v0I,c0I,a0I,a0I⟩ && decide (tl=[]))):=by
 unfold rgt;rw [if_neg oM,if_neg oM,if_neg oM,if_neg oM,if_neg oM,if_pos h]
theorem zRD (h:x.op=7):rgt x tl=(true && (smI x ⟨7,0,0,v0I,c0I,a0I,a0I⟩ && decide (tl=[]))):=by
 unfold rgt;rw [if_neg oM,if_neg oM,if_neg oM,if_neg oM,if_neg oM,if_neg oM,if_pos h]
theorem zQp (h:x.op=8):rgt x tl=(Wpl.rightA x.ar.s x.ar.t x.ar.l x.ar.b x.ar.r && (smI x ⟨8,0,0,v0I,c0I,x.ar,a0I⟩ && decide (tl=[]))):=by
 unfold rgt;rw [if_neg oM,if_neg oM,if_neg oM,if_neg oM,if_neg oM,if_neg oM,if_neg oM,if_pos h]
theorem zQz (h:x.op=9):rgt x tl=(((Wpl.rightA x.ar.s x.ar.t x.ar.l x.ar.b x.ar.r && Wpl.rightA x.pr.s x.pr.t x.pr.l x.pr.b x.pr.r) && shp x.ar x.pr) && (smI x ⟨9,0,0,v0I,c0I,x.ar,x.pr⟩ && decide (tl=[]))):=by
 unfold rgt;rw [if_neg oM,if_neg oM,if_neg oM,if_neg oM,if_neg oM,if_neg oM,if_neg oM,if_neg oM,if_pos h]
theorem zPI (h:x.op=10):rgt x tl=(true && (smI x ⟨10,0,0,v0I,c0I,a0I,a0I⟩ && decide (tl=[]))):=by
 unfold rgt;rw [if_neg oM,if_neg oM,if_neg oM,if_neg oM,if_neg oM,if_neg oM,if_neg oM,if_neg oM,if_neg oM,if_pos h]
theorem zMR (h:x.op=11):rgt x tl=((Wpl.rightA x.ar.s x.ar.t x.ar.l x.ar.b x.ar.r && (x.b == 1 || x.b == 2)) && (smI x ⟨11,0,x.b,v0I,c0I,x.ar,a0I⟩ && decide (tl=[]))):=by
 unfold rgt;rw [if_neg oM,if_neg oM,if_neg oM,if_neg oM,if_neg oM,if_neg oM,if_neg oM,if_neg oM,if_neg oM,if_neg oM,if_pos h]
theorem zQD (h:x.op=12):rgt x tl=(true && (smI x ⟨12,x.a,x.b,v0I,c0I,a0I,a0I⟩ && decide (tl=[]))):=by
 unfold rgt;rw [if_neg oM,if_neg oM,if_neg oM,if_neg oM,if_neg oM,if_neg oM,if_neg oM,if_neg oM,if_neg oM,if_neg oM,if_neg oM,if_pos h]
theorem zP8 (h:x.op=13):rgt x tl=(true && (smI x ⟨13,x.a,0,v0I,c0I,a0I,a0I⟩ && decide (tl=[]))):=by
 unfold rgt;rw [if_neg oM,if_neg oM,if_neg oM,if_neg oM,if_neg oM,if_neg oM,if_neg oM,if_neg oM,if_neg oM,if_neg oM,if_neg oM,if_neg oM,if_pos h]
theorem zPZ (h:x.op=14):rgt x tl=(true && (smI x ⟨14,x.a,0,v0I,c0I,a0I,a0I⟩ && decide (tl=[]))):=by
 unfold rgt;rw [if_neg oM,if_neg oM,if_neg oM,if_neg oM,if_neg oM,if_neg oM,if_neg oM,if_neg oM,if_neg oM,if_neg oM,if_neg oM,if_neg oM,if_neg oM,if_pos h]
theorem zOw (h:x.op=15):rgt x tl=((decide (1<=(tl.length:Int)) && decide ((tl.length:Int)<=30)) && (smI x ⟨15,0,x.b,v0I,c0I,a0I,a0I⟩ && decide (tl=tl))):=by
 unfold rgt;rw [if_neg oM,if_neg oM,if_neg oM,if_neg oM,if_neg oM,if_neg oM,if_neg oM,if_neg oM,if_neg oM,if_neg oM,if_neg oM,if_neg oM,if_neg oM,if_neg oM,if_pos h]
theorem zPc (h:x.op=16):rgt x tl=(true && (smI x ⟨16,0,0,v0I,c0I,a0I,a0I⟩ && decide (tl=[]))):=by
 unfold rgt;rw [if_neg oM,if_neg oM,if_neg oM,if_neg oM,if_neg oM,if_neg oM,if_neg oM,if_neg oM,if_neg oM,if_neg oM,if_neg oM,if_neg oM,if_neg oM,if_neg oM,if_neg oM,if_pos h]
theorem zRL (h:x.op<1 \/ 16<x.op):rgt x tl=false:=by
 unfold rgt;rw [if_neg oM,if_neg oM,if_neg oM,if_neg oM,if_neg oM,if_neg oM,if_neg oM,if_neg oM,if_neg oM,if_neg oM,if_neg oM,if_neg oM,if_neg oM,if_neg oM,if_neg oM,if_neg oM]
theorem zGl (x:Wc.In) (a:Option Addr) (n c:Nat) (tl:List Int) (w:wW) (d:RdZ w (U a n c) tl) (b:tl.length<=1000000) (f:Wt.FitV x.v) (g:NmAt w) :
  CR 101 #[inV x (U a n c)] w (Y (rgt x tl)):=by
 rcases zOj x.op with h | h | h | h | h | h | h | h | h | h | h | h | h | h | h | h | h
 ·rw [zRN h];exact zLj x a n c tl w h d b f.1.1 f.1.2 f.2.1.1 f.2.1.2 f.2.2
 ·rw [zQ5 h];exact zKp x a n c tl w h d b
 ·rw [zQo h];exact zLC x a n c tl w h d b
 ·rw [zQk h];exact zKC x a n c tl w h d b
 ·rw [zPx h];exact zKT x a n c tl w h d b g
 ·rw [zQd h];exact zK7 x a n c tl w h d b
 ·rw [zRD h];exact zK9 x a n c tl w h d b
 ·rw [zQp h];exact zLq x a n c tl w h d b
 ·rw [zQz h];exact zLZ x a n c tl w h d b
 ·rw [zPI h];exact zH2 x a n c tl w h d b
 ·rw [zMR h];exact zJU x a n c tl w h d b
 ·rw [zQD h];exact zHK x a n c tl w h d b
 ·rw [zP8 h];exact zHB x a n c tl w h d b
 ·rw [zPZ h];exact zJf x a n c tl w h d b
 ·rw [zOw h];exact zH4 x a n c tl w h d b
 ·rw [zPc h];exact zHe x a n c tl w h d b
 ·rw [zRL h];refine (zLU x a n c tl w d b h).mono ?_;rintro e w' ⟨rfl,i⟩;exact ⟨by rw [Bool.false_and],i⟩
abbrev zeros23:Array vW:=#[O J 0,O J 0,O J 0,O J 0,O J 0,O J 0,V ⟨#[]⟩,Y false,O J 0,O J 0,O J 0,O J 0,O J 0,O J 0,O J 0,O J 0,O J 0,O J 0,O J 0,O J 0,O J 0,O J 0,U none 0 0]
abbrev pl1 (wr:wW) (i:Nat):wW:=(wr.alloc (Z #[O J i] 3)).alloc (Z zeros23 87)
theorem zEo {o a b at':Int} (h:tl.length<=1000000):(onw o a b tl at').1.length<=1000000/\(onw o a b tl at').2.length<=1000000:=by
 unfold onw;repeat' split
 all_goals simp
 exact h
theorem zJm (n i:Nat) (x:Wc.In × List Int) (r:List (Wc.In × List Int)):Wc.plcs rgt n i (x::r)=(Wc.plc rgt n i x && Wc.plcs rgt n (i+1) r):=rfl
theorem Jg (n i:Nat) (y:Wc.In) (tl:List Int):Wc.plc rgt n i (y,tl)=(rgt y tl && (((y.op == 16) == (i+1 == n)) && (!(onw y.op y.a y.b tl i).1.any (VK i n) && !(onw y.op y.a y.b tl i).2.any (VK i n)))):=rfl
def zHV (x:Wc.In × List Int):Prop:=VZ x.1/\∀ (a:Option Addr) (n c:Nat) (w:wW),RdZ w (U a n c) x.2->x.2.length<=1000000->Wt.FitV x.1.v->NmAt w->CR 101 #[inV x.1 (U a n c)] w (Y (rgt x.1 x.2))
theorem zOW (x:Wc.In × List Int):zHV x:=⟨zN8 _,λa n c w f e d b=>zGl x.1 a n c x.2 w f e d b⟩
theorem zGX (L:List (Wc.In × List Int)) (v:vW) (w:wW) (h:RdC w v L) (hl:L.length<=1000000) (ht:∀ x ∈ L,x.2.length<=1000000/\Wt.FitV x.1.v) (hN:NmAt w) (af:∀ x ∈ L,zHV x) :
  CR 74 #[v] w (Y (Wc.plcs rgt L.length 0 L && decide (0<L.length))):=by
 obtain ⟨a1,c1,rfl,r1⟩:=h;have HR:Hid (RdC w (U a1 L.length c1) L):=⟨a1,c1,rfl,r1⟩
 have HT:=hid ht;have HN:=hid hN;have am:=hid af;clear af;obtain ⟨n,hn⟩:=xV L.length
 have HL:=hid hn;rw [hn] at hl ⊢;obtain ⟨q,hq⟩:=xV (Wc.plcs rgt n 0 L)
 have HQ:=hid hq;rw [hq];have pB:=AtL.new0 w 55 [U a1 n c1];have ag:=QJ (cZ _ w) (Z #[U a1 n c1] 55);have ah:(w.alloc (Z #[U a1 n c1] 55)).cell? ⟨w.heap.size,0,none⟩=some (U a1 n c1):=pB.2.1 0 _ rfl;clear r1 ht hN hn hq pB;go_enter func74,ntmps74;go_upto_region 1 with fail
 generalize (w.alloc (Z #[U a1 n c1] 55))=w0 at *;go_wp2_with fail
 go_loopg [10] n (λgk x wr=>∃ i:Nat,x=O J i/\gk=n - i/\i<=n/\Hid (Wc.plcs rgt n i (L.drop i)=q)/\wr.cell? ⟨w.heap.size,0,none⟩=some (U a1 n c1)/\bL w wr)
 case atStart=>exact ⟨0,rfl,rfl,Nat.zero_le _,HQ,ah,ag⟩
 case round =>
  clear ah ag HQ;obtain ⟨i,rfl,hg,hi,HP,hc,T⟩:=hrel;by_cases ad:i<n
  ·have av:(i:Int)<(n:Int):=oM;have az:J.wrap ((i:Int)+1)=(i:Int)+1:=by rw [IntKind.wrap_i64];omega
   have aA:J.wrap ((n:Int) - 1)=(n:Int) - 1:=by rw [IntKind.wrap_i64];omega
   have ac:i<L.length:=by rw [HL.out];exact ad
   have H0:=HR.out.below T;rw [HL.out] at H0;obtain ⟨q1,d1,e1,f1⟩:=H0;simp only [U.injEq] at e1;obtain ⟨ao,ap,aq⟩:=e1;subst ao;subst aq;clear ap;obtain ⟨bb,aw,p,m,k,rfl,t1,y1,_⟩:=f1 i ac;obtain ⟨y,tl,aa⟩:∃ y tl,L[i]=(y,tl):=⟨_,_,rfl⟩
   have an:Hid (zHV (y,tl)):=by have:=am.out (L[i]) (List.getElem_mem _);rw [aa] at this;exact this
   obtain ⟨H,G⟩:=HT.out L[i] (List.getElem_mem _);have j:Hid ((Wc.plc rgt n i (y,tl) && Wc.plcs rgt n (i+1) (L.drop (i+1)))=q):=by
    show _=q
    rw [<-HP.out,List.drop_eq_getElem_cons ac,aa,zJm]
   rw [aa] at t1 y1 H G;have R:AtL (pl1 wr i) (wr.heap.size+1) zeros23.toList:=AtL.new1 wr _ _ _;have al:aZ (pl1 wr i) (wr.heap.size+1) 0 (QF y (U p m k)).toArray.size:=R.there;have HB:=hid T;have HC:=hid hc;have HY:=hid y1;have HF:=hid G;clear R f1 aa HP ac hc T y1 G;go_upto_region 4 with (first | (refine QB (by rfl) 87 (mX 13) rfl bb (aw+i * 23) rfl (QF y (U p m k)) _ t1 underlying87 rfl kR ?_) | ((with_reducible refine wpList_store_mid ?_ 87 (mX 4) (mX 14) ?_ (wr.heap.size+1) 0 (QF y (U p m k)).toArray ?_ ?_ ?_ ?_ ?_ ?_);rfl;rfl;rfl;rfl;exact al;kernel_rfl;exact JO _ _ _ _))
   have T:=HB.out;have hc:=HC.out;have y1:=HY.out;have G:=HF.out;have R:AtL (pl1 wr i) (wr.heap.size+1) zeros23.toList:=AtL.new1 wr _ _ _;have pC:AtL ((pl1 wr i).setCells (wr.heap.size+1) 0 (QF y (U p m k))) wr.heap.size [O J i]:=((AtL.new0 wr _ [O J i]).alloc _).farAll oM 0 _;have pI:AtL ((pl1 wr i).setCells (wr.heap.size+1) 0 (QF y (U p m k))) (wr.heap.size+1) (QF y (U p m k)):=R.setAll rfl;have Q:bL wr ((pl1 wr i).setCells (wr.heap.size+1) 0 (QF y (U p m k))):=Qm (QJ (QJ (cZ _ wr) _) _) (bZ _) _ 0;have ae:=hid ((HN.out.below T).below Q);have zW:=y1.below Q;have g:=QC Q hc;have d:=QA T Q;clear R hc T Q y1 HB HC HY HF;generalize (pl1 wr i).setCells (wr.heap.size+1) 0 (QF y (U p m k))=W at *;have rI:=pI.range;clear al t1;go_wp2_with (first | (refine QB (by rfl) 87 (mX 4) rfl (wr.heap.size+1) 0 rfl (QF y (U p m k)) _ rI underlying87 rfl kR ?_))
   refine (an.out.2 p m k W zW H G ae.out).mono ?_;rintro e w1 ⟨rfl,F⟩;replace pI:=AtL.below F pI
   replace pC:=AtL.below F pC
   replace zW:=zW.below F
   replace g:=QC F g
   replace d:=QA d F
   clear rI F G ae;have rI:=pI.range;have i0:=pI.2.1 0 _ rfl;have I:=pC.2.1 0 _ rfl;obtain ⟨r,hr⟩:=xV (rgt y tl)
   have l:=hid hr;rw [hr];clear hr pI pC;cases r with
   | false =>
    go_wp2;go_ret;exact ⟨by rw [<-j.out,Jg,l.out];rfl,d⟩
   | true =>
    by_cases P:y.op=16
    ·by_cases au:(n:Int) - 1=(i:Int)
     ·have K:Hid (((y.op == 16) == (i+1 == n))=true):=by show _=_;rw [show (y.op == 16)=true from by simp [P],show (i+1 == n)=true from by simp;omega];rfl
      have OW:=zA5 y p m k tl i;have z:=zEo (o:=y.op) (a:=y.a) (b:=y.b) (at':=i) H;have HO:Hid (∃ u,onw y.op y.a y.b tl i=u):=⟨_,rfl⟩
      obtain ⟨u,hu⟩:=HO.out;have HU:=hid hu;rw [hu] at z;have B:=OW w1 oM zW;rw [hu] at B;obtain ⟨u1,u2⟩:=u;simp only at z;have M:=hid z;clear OW HO hu zW H z;go_wp2_with (first | (refine QB (by rfl) 87 (mX 4) rfl (wr.heap.size+1) 0 rfl (QF y (U p m k)) _ rI underlying87 rfl kR ?_))
      refine B.mono ?_;rintro e w2 ⟨⟨c,c2,rfl,z1,S,_,_⟩,t⟩;have Z2:=hid S;replace I:=QC t I
      replace g:=QC t g
      replace d:=QA d t
      clear rI i0 t B;clear S;have CA:=zAI u1 c i wr.heap.size w.heap.size _ n _ w2 z1 M.out.1 I g;clear z1;go_wp2_with fail
      refine CA.mono ?_;rintro e w3 ⟨rfl,f⟩;replace I:=QC f I
      replace g:=QC f g
      have S:=Z2.out.below f;clear Z2;replace d:=QA d f
      clear CA f;obtain ⟨s1,D⟩:∃ s,u1.any (VK i n)=s:=⟨_,rfl⟩
      have A:=hid D;rw [D];clear D;cases s1 with
      | true =>
       go_wp2;go_ret;exact ⟨by rw [<-j.out,Jg,l.out,K.out,HU.out,A.out];rfl,d⟩
      | false =>
       have CB:=zAI u2 c2 i wr.heap.size w.heap.size _ n _ w3 S M.out.2 I g;clear S;go_wp2_with fail
       refine CB.mono ?_;rintro e w4 ⟨rfl,C⟩;replace g:=QC C g
       replace d:=QA d C
       clear CB C;obtain ⟨s2,E⟩:∃ s,u2.any (VK i n)=s:=⟨_,rfl⟩
       have N:=hid E;rw [E];clear E;cases s2 with
       | true =>
        go_wp2;go_ret;exact ⟨by rw [<-j.out,Jg,l.out,K.out,HU.out,A.out,N.out];rfl,d⟩
       | false =>
        have ab:Hid (Wc.plcs rgt n (i+1) (L.drop (i+1))=q):=by
         show _=q
         rw [<-j.out,Jg,l.out,K.out,HU.out];simp only [A.out,N.out];rfl
        go_wp2_with fail
        go_roundg (n - (i+1))
        case rel=>exact ⟨i+1,sM,rfl,ad,ab,g,d⟩
        case measure=>omega
     ·have K:Hid (((y.op == 16) == (i+1 == n))=false):=by show _=_;rw [show (y.op == 16)=true from by simp [P],show (i+1 == n)=false from by simp;omega];rfl
      have ai:¬ (i:Int)=(n:Int) - 1:=oM;have aj:((i:Int) == (n:Int) - 1)=false:=by simp;omega
      have ak:((n:Int) - 1 == (i:Int))=false:=by simp;omega
      go_wp2;go_ret;exact ⟨by rw [<-j.out,Jg,l.out,K.out];rfl,d⟩
    ·have ax:(y.op == 16)=false:=by simp [P]
     by_cases au:(n:Int) - 1=(i:Int)
     ·have K:Hid (((y.op == 16) == (i+1 == n))=false):=by show _=_;rw [show (y.op == 16)=false from by simp [P],show (i+1 == n)=true from by simp;omega];rfl
      go_wp2;go_ret;exact ⟨by rw [<-j.out,Jg,l.out,K.out];rfl,d⟩
     ·have K:Hid (((y.op == 16) == (i+1 == n))=true):=by show _=_;rw [show (y.op == 16)=false from by simp [P],show (i+1 == n)=false from by simp;omega];rfl
      have ai:¬ (i:Int)=(n:Int) - 1:=oM;have aj:((i:Int) == (n:Int) - 1)=false:=by simp;omega
      have ak:((n:Int) - 1 == (i:Int))=false:=by simp;omega
      have OW:=zA5 y p m k tl i;have z:=zEo (o:=y.op) (a:=y.a) (b:=y.b) (at':=i) H;have HO:Hid (∃ u,onw y.op y.a y.b tl i=u):=⟨_,rfl⟩
      obtain ⟨u,hu⟩:=HO.out;have HU:=hid hu;rw [hu] at z;have B:=OW w1 oM zW;rw [hu] at B;obtain ⟨u1,u2⟩:=u;simp only at z;have M:=hid z;clear OW HO hu zW H z;go_wp2_with (first | (refine QB (by rfl) 87 (mX 4) rfl (wr.heap.size+1) 0 rfl (QF y (U p m k)) _ rI underlying87 rfl kR ?_))
      refine B.mono ?_;rintro e w2 ⟨⟨c,c2,rfl,z1,S,_,_⟩,t⟩;have Z2:=hid S;replace I:=QC t I
      replace g:=QC t g
      replace d:=QA d t
      clear rI i0 t B;clear S;have CA:=zAI u1 c i wr.heap.size w.heap.size _ n _ w2 z1 M.out.1 I g;clear z1;go_wp2_with fail
      refine CA.mono ?_;rintro e w3 ⟨rfl,f⟩;replace I:=QC f I
      replace g:=QC f g
      have S:=Z2.out.below f;clear Z2;replace d:=QA d f
      clear CA f;obtain ⟨s1,D⟩:∃ s,u1.any (VK i n)=s:=⟨_,rfl⟩
      have A:=hid D;rw [D];clear D;cases s1 with
      | true =>
       go_wp2;go_ret;exact ⟨by rw [<-j.out,Jg,l.out,K.out,HU.out,A.out];rfl,d⟩
      | false =>
       have CB:=zAI u2 c2 i wr.heap.size w.heap.size _ n _ w3 S M.out.2 I g;clear S;go_wp2_with fail
       refine CB.mono ?_;rintro e w4 ⟨rfl,C⟩;replace g:=QC C g
       replace d:=QA d C
       clear CB C;obtain ⟨s2,E⟩:∃ s,u2.any (VK i n)=s:=⟨_,rfl⟩
       have N:=hid E;rw [E];clear E;cases s2 with
       | true =>
        go_wp2;go_ret;exact ⟨by rw [<-j.out,Jg,l.out,K.out,HU.out,A.out,N.out];rfl,d⟩
       | false =>
        have ab:Hid (Wc.plcs rgt n (i+1) (L.drop (i+1))=q):=by
         show _=q
         rw [<-j.out,Jg,l.out,K.out,HU.out];simp only [A.out,N.out];rfl
        go_wp2_with fail
        go_roundg (n - (i+1))
        case rel=>exact ⟨i+1,sM,rfl,ad,ab,g,d⟩
        case measure=>omega
  ·have av:¬ (i:Int)<(n:Int):=oM;have X:Hid (q=true):=by
    show q=true
    rw [<-HP.out,List.drop_eq_nil_of_le (by rw [HL.out];omega)];rfl
   have ay:i=n:=oM;by_cases h0:0<n
   ·have ar:(0:Int)<(n:Int):=oM;go_wp2;go_ret;exact ⟨by first | rfl | (rw [X.out];rfl) | (rw [X.out,decide_eq_true h0];rfl),T⟩
   ·have ar:¬ (0:Int)<(n:Int):=oM;go_wp2;go_ret;exact ⟨by first | rfl | (rw [X.out];rfl) | (rw [X.out,decide_eq_false h0];rfl) | simp,T⟩
