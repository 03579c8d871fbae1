/- Lemmas. -/
import Derived.Below
import Derived.Test.YtloponhikiddmaaGreatDoorChecked
import Derived.WalkKit
import Derived.WalkSpells
import Derived.RowKit3
import Derived.Deep.QuietTactic
import Derived.BigQuiet
import Derived.Deep.RegionWith
import Derived.Deep.RegionHeld3
import Derived.Deep.DeepCutAuto
import Derived.Deep.Light
import Derived.Deep.CutBlock
import Derived.Maps.OwnSet
import Derived.Laws.AppendOwn
import Derived.Lib.OthersKept
import Derived.Lib.Strings
import Derived.Deep.LoopGhost
set_option maxHeartbeats 4000000
set_option maxRecDepth 100000
set_option linter.unusedVariables false
open Go.RowKit.Below renaming refl->aZ,setCell->oY,drew->uY
open List renaming getElem?_map->bZ,getElem?_eq_getElem->gZ,drop_eq_getElem_cons->iZ,mem_of_getElem?->jZ,drop_eq_nil_of_le->mZ,getElem?_set->nZ,take_of_length_le->qZ,map_append->tZ,ext_getElem?->wZ,length_cons->zZ,eraseIdx_sublist->dY,getElem?_modify->eY,extract->iY,nodup_append->jY,getElem?_inj->kY,take_add_one->lY,length_drop->mY,map_cons->pY,map->sY,length->tY
open Int renaming gcd->cZ,mul_ediv_cancel_left->yZ,gcd_dvd_left->nY
open Nat renaming le_refl->dZ,zero_le->hZ,lt_of_lt_of_le->gY,pos_of_ne_zero->hY,gcd->qY,gcd_comm->rY
open Go.Result renaming andThen->eZ,ok->xZ
open Go.IntKind renaming wrap_i64->fZ
open Bool renaming eq_iff_iff->kZ
open Go.World renaming iterPos->oZ,block_lt_of_cell?->pZ,frozen?_setCell->sZ,cell?_setCell_far->aY,iter_heap->bY
open ByteArray renaming data_extract->rZ,size_extract->cY,ext->fY
open Or renaming inr->uZ,inl->vZ
open Go renaming World->wW,Value->vW,Calls->cW
open Go.RowKit renaming Hid->hH
open Go.Value renaming int->O,slice->U,string->V,bool->Y,pointer->pX,agg->gX,tuple->uX
open Go.IntKind renaming i64->J
open Go.Obj renaming cells->Z
open Go.Ending renaming returned->rX
namespace Go.Proofs.YtloponhikiddmaaGreatDoor
open Tryz
open Go.RowKit
theorem oM {p:Prop} (h:p:=by omega):p:=h
theorem sM {p:Prop} (h:p:=by simp):p:=h
theorem kR {p:Prop} (h:p:=by kernel_rfl):p:=h
theorem dM {p:Prop} (h:p:=by decide):p:=h
theorem xV {A:Sort _} (a:A):∃ x,a=x:=⟨a,rfl⟩
abbrev bL (w W:wW):Prop:=Below w.heap.size w W
theorem bQD {B:Nat} {a w:wW} (h:Below B a w) (n:Nat):Below B a (w.drewN n):=⟨h.os,h.tape,h.output,h.size,h.block⟩
theorem bQE {w W w1:wW} (g:Below w.heap.size w W) (j:Below W.heap.size W w1):Below w.heap.size w w1:=g.trans (j.mono g.size)
theorem bQA {w W:wW} (h:Below w.heap.size w W) (o:Obj):Below w.heap.size w (W.alloc o):=h.alloc h.size o
theorem clA {P:Prop} (h:P:=by with_reducible repeat (first | exact Below.refl _ _ | refine bQD ?_ _ | refine Below.setCell ?_ (by first | (simp;done) | (simp;omega) | omega) _ | refine Below.drew ?_ | refine bQE ?_ (by assumption) | refine bQA ?_ _)):P:=h
theorem clB {P Q:Prop} (h:P) (f:P->Q:=by (intro q;with_reducible repeat (first | exact q | refine bQD ?_ _ | refine Below.setCell ?_ (by first | (simp;done) | (simp;omega) | omega) _ | refine Below.drew ?_ | refine bQA ?_ _))):Q:=f h
abbrev CR (f:Nat) (x:Array vW) (w:wW) (v:vW):Prop:=cW prog f x w λe w'=>e=rX v/\Below w.heap.size w w'
theorem lA {α:Type} (l:List α) (i:Nat) (a:α):l.toArray.setIfInBounds i a=(l.set i a).toArray:=by simp
theorem lZ {α:Type} (x a:α) (l:List α):(x::l).set 0 a=a::l:=rfl
theorem lS {α:Type} (x a:α) (l:List α) (i:Nat):(x::l).set (i+1) a=x::l.set i a:=rfl
abbrev zN0:Array vW:=#[O J 0,O J 0,O J 0,O J 0,V ⟨#[]⟩,Y false,O J 0,O J 0,V ⟨#[]⟩,O J 0,V ⟨#[]⟩,O J 0,O J 0,Y false,Y false,V ⟨#[]⟩,O J 0,O J 0,Y false,Y false]
abbrev zP0:Array vW:=#[O J 0,O J 0,O J 0,O J 0,V ⟨#[]⟩,Y false,O J 0,O J 0,V ⟨#[]⟩,O J 0,V ⟨#[]⟩,O J 0,O J 0,Y false,Y false,V ⟨#[]⟩,O J 0,O J 0,Y false,Y false,U none 0 0]
abbrev zR0:Array vW:=#[V ⟨#[]⟩,O J 0,O J 0,Y false,Y false]
abbrev zV0:Array vW:=#[O J 0,O J 0,O J 0,V ⟨#[]⟩,Y false,O J 0]
theorem atQ {g:Array Oper} {i:Nat} {o:Oper} (h:g.toList[i]?=some o):g[i]?=some o:=by rwa [Array.getElem?_toList] at h
theorem tkQ {P:Program} {j:Array Oper} {Q:Exit->Act->World->Prop} {o:Region.Mode} {S:World->Prop} {v:Value} {l:Nat} {g q:Array Bool} {a p:Act} {w:World} (i:Nat) {m:Oper} (h:wpAnyH P o j Q S l q p w) (y:j.toList[i]?=some m:=by rfl) (C:Region.noSelect j=true:=by kernel_rfl) (x:Region.free o j g i=true:=by kernel_rfl) (B:(Region.ready o j g).contains i=true:=by kernel_rfl) (s:∀ c a w,Q (.panic c) (a.put m.dst v) w->Q (.panic c) a w:=by exact λ_ _ _ h=>h) (D:Region.wanted m (yielded j a.tmps)=true:=by rfl) (G:∀ w,S w->(execOp a.eval m).run P w=.ok (.value v) w:=by (intro w hSw;(try dsimp only at hSw);go_simp;(try with_reducible rfl))) (u:S w:=by assumption) (A:a.put m.dst v=p:=by ((try simp only [Act.put,lA,lZ,lS]);(try rfl))) (z:g.setIfInBounds i true=q:=by ((try simp only [Act.put,lA,lZ,lS]);(try rfl))):wpAnyH P o j Q S (l+1) g a w:=by subst A;subst z;exact wpAnyH_take (atQ y) C x B s (Or.inl ⟨D,G⟩) u h
theorem tnQ {P:Program} {j:Array Oper} {Q:Exit->Act->World->Prop} {m:Region.Mode} {S:World->Prop} {l:Nat} {g q:Array Bool} {a p:Act} {w:World} (i:Nat) {o:Oper} (h:wpAnyH P m j Q S l q p w) (x:j.toList[i]?=some o:=by rfl) (B:Region.noSelect j=true:=by kernel_rfl) (v:Region.free m j g i=true:=by kernel_rfl) (A:(Region.ready m j g).contains i=true:=by kernel_rfl) (s:∀ c a w,Q (.panic c) (a.put o.dst undef) w->Q (.panic c) a w:=by exact λ_ _ _ h=>h) (C:Region.wanted o (yielded j a.tmps)=false:=by rfl) (u:S w:=by assumption) (z:a.put o.dst undef=p:=by ((try simp only [Act.put,lA,lZ,lS]);(try rfl))) (y:g.setIfInBounds i true=q:=by ((try simp only [Act.put,lA,lZ,lS]);(try rfl))):wpAnyH P m j Q S (l+1) g a w:=by subst z;subst y;exact wpAnyH_take (atQ x) B v A s (Or.inr ⟨C,rfl⟩) u h
theorem hkQ {S:World->Prop} {W:Act->World->Prop} {K:Act->World->Prop} {a g:Act} {w:World} (j:Shut (∀ a w,S w->(S w->W a w)->K a w)) (l:S w) (h:S w->W g w) (m:a=g:=by ((try simp only [Act.put,lA,lZ,lS]);(try rfl))):K a w:=by subst m;exact j.out _ _ l h
theorem rdQ {P:Program} {j:Array Oper} {Q:Exit->Act->World->Prop} {m:Region.Mode} {S:World->Prop} {l:Nat} {g:Array Bool} {a:Act} {w:World} (i:Nat) {o:Oper} (h:∀ K:Act->World->Prop,Shut (∀ a w,S w->(S w->wpAnyH P m j Q S l (g.setIfInBounds i true) a w)->K a w)->if Region.wanted o (yielded j a.tmps)=true then Oper.wp P o a w K Q else K (a.put o.dst undef) w) (p:j.toList[i]?=some o:=by rfl) (q:Region.ready m j g=[i]:=by kernel_rfl):wpAnyH P m j Q S (l+1) g a w:=wpAnyH_ready q (by simp) (AllReadyH.cons (atQ p) h AllReadyH.nil)
variable {W W' w:wW} {k:Nat} {a b c d e:vW} {vs:List vW}
theorem hid {p:Prop} (h:p):Go.RowKit.Hid p:=h
open Go.RowKit
theorem zGJ {k:IntKind} {a b:Int} (h:a=b):rX (.int k a)=rX (.int k b):=by rw [h]
theorem Qi {a b:Bool} (h:a=b):rX (Y a)=rX (Y b):=by rw [h]
theorem zOA {P:Program} {c:Code} {Q:Exit->Act->wW->Prop} {a:Act} (h:∀ K:Act->wW->Prop,(∀ a w,Q .normal a w->K a w)->c.wp P (Exit.then K Q) a w):c.wp P Q a w :=
 Code.wp_mono (λe a w g=>by cases e <;> exact g) (h (λa w=>Q .normal a w) (λ_ _ h=>h))
def AtL (W:wW) (k:Nat) (vs:List vW):Prop :=
 k<W.heap.size/\(∀ i v,vs[i]? = some v->W.cell? ⟨k,i,none⟩=some v)/\(∀ i,i<vs.length->W.frozen? ⟨k,i,none⟩=false)
theorem AtL.lt (h:AtL W k vs):k<W.heap.size:=h.1
theorem AtL.new (W:wW) (t:TypeId) {k:Nat} (g:k=W.heap.size) (vs:List vW):AtL (W.alloc (Z vs.toArray t)) k vs:=by
 subst g;refine ⟨by simp [go_sem],λi v h=>?_,λi h=>?_⟩
 ·simp [go_sem,h]
 ·simp [go_sem]
theorem AtL.new0 (W:wW) (t:TypeId) (vs:List vW):AtL (W.alloc (Z vs.toArray t)) W.heap.size vs:=AtL.new W t rfl vs
theorem AtL.new1 (W:wW) (o:Obj) (t:TypeId) (vs:List vW):AtL ((W.alloc o).alloc (Z vs.toArray t)) (W.heap.size+1) vs:=AtL.new (W.alloc o) t (by simp only [World.size_alloc]) vs
theorem AtL.alloc (h:AtL W k vs) (o:Obj):AtL (W.alloc o) k vs:=by
 obtain ⟨j,l,m⟩:=h;refine ⟨by simp [go_sem];omega,λi v g=>?_,λi g=>?_⟩
 ·rw [World.cell?_alloc_past _ _ _ j];exact l i v g
 ·rw [World.frozen?_alloc_old _ _ _ (by simp;omega)];exact m i g
theorem AtL.below (j:bL W W') {k:Nat} {vs:List vW} (h:AtL W k vs):AtL W' k vs:=by
 obtain ⟨g,m,o⟩:=h;refine ⟨gY g j.size,λi v l=>?_,λi l=>?_⟩
 ·exact (j.cell (p:=⟨k,i,none⟩) g).trans (m i v l)
 ·exact (j.frozen (p:=⟨k,i,none⟩) g).trans (o i l)
theorem AtL.drew (h:AtL W k vs):AtL W.drew k vs:=AtL.below (aZ _ _).drew h
theorem AtL.far (h:AtL W k vs) {j:Nat} (q:j ≠ k) (o:Nat) (v:vW):AtL (W.setCell ⟨j,o,none⟩ v) k vs:=by
 obtain ⟨l,m,p⟩:=h;refine ⟨by simpa [go_sem] using l,λi u g=>?_,λi g=>?_⟩
 ·rw [aY _ _ _ _ (by simpa using q)];exact m i u g
 ·rw [sZ];exact p i g
theorem AtL.set (h:AtL W k vs) (o:Nat) (u:vW):AtL (W.setCell ⟨k,o,none⟩ u) k (vs.set o u):=by
 obtain ⟨m,j,p⟩:=h;refine ⟨by simpa [go_sem] using m,λi v g=>?_,λi g=>?_⟩
 ·by_cases e:o=i
  ·subst e;by_cases l:o<vs.length
   ·rw [List.getElem?_set_self l] at g;obtain rfl:=Option.some.inj g;exact World.cell?_setCell_same _ _ _ (j o vs[o] (gZ l))
   ·rw [List.getElem?_eq_none (by simp;omega)] at g;cases g
  ·rw [List.getElem?_set_ne e] at g;rw [World.cell?_setCell_other _ _ _ _ (by first | (simp;done) | (simp;omega))];exact j i v g
 ·rw [sZ];exact p i (by simpa using g)
theorem AtL.two (h:AtL W k [a,b]) :
  W.cell? ⟨k,0,none⟩=some a/\W.cell? ⟨k,1,none⟩=some b/\W.frozen? ⟨k,0,none⟩=false/\W.frozen? ⟨k,1,none⟩=false :=
 ⟨h.2.1 0 a rfl,h.2.1 1 b rfl,h.2.2 0 sM,h.2.2 1 sM⟩
theorem AtL.three (h:AtL W k [a,b,c]) :
  W.cell? ⟨k,0,none⟩=some a/\W.cell? ⟨k,1,none⟩=some b/\W.cell? ⟨k,2,none⟩=some c/\W.frozen? ⟨k,0,none⟩=false/\W.frozen? ⟨k,1,none⟩=false/\W.frozen? ⟨k,2,none⟩=false :=
 ⟨h.2.1 0 a rfl,h.2.1 1 b rfl,h.2.1 2 c rfl,h.2.2 0 sM,h.2.2 1 sM,h.2.2 2 sM⟩
theorem AtL.five (h:AtL W k [a,b,c,d,e]) :
  W.cell? ⟨k,0,none⟩=some a/\W.cell? ⟨k,1,none⟩=some b/\W.cell? ⟨k,2,none⟩=some c/\W.cell? ⟨k,3,none⟩=some d/\W.cell? ⟨k,4,none⟩=some e /\
  W.frozen? ⟨k,0,none⟩=false/\W.frozen? ⟨k,1,none⟩=false/\W.frozen? ⟨k,2,none⟩=false/\W.frozen? ⟨k,3,none⟩=false/\W.frozen? ⟨k,4,none⟩=false :=
 ⟨h.2.1 0 a rfl,h.2.1 1 b rfl,h.2.1 2 c rfl,h.2.1 3 d rfl,h.2.1 4 e rfl,h.2.2 0 sM,h.2.2 1 sM,h.2.2 2 sM,h.2.2 3 sM,h.2.2 4 sM⟩
abbrev zPd (W:wW) (k:Nat) (a b c d e:vW):Prop :=
 W.cell? ⟨k,0,none⟩=some a/\W.cell? ⟨k,1,none⟩=some b/\W.cell? ⟨k,2,none⟩=some c/\W.cell? ⟨k,3,none⟩=some d/\W.cell? ⟨k,4,none⟩=some e
theorem zCG (g:bL W W') {k:Nat} {a b c d e:vW} (h:zPd W k a b c d e):zPd W' k a b c d e:=by
 have j:=pZ W ⟨k,0,none⟩ h.1;obtain ⟨l,m,o,q,s⟩:=h;exact ⟨(g.cell (p:=⟨k,0,none⟩) j).trans l,(g.cell (p:=⟨k,1,none⟩) j).trans m,(g.cell (p:=⟨k,2,none⟩) j).trans o,(g.cell (p:=⟨k,3,none⟩) j).trans q,(g.cell (p:=⟨k,4,none⟩) j).trans s⟩
theorem zIi (h:zPd W k a b c d e):zPd W.drew k a b c d e:=zCG (aZ _ _).drew h
abbrev JI (W:wW) (k:Nat) (a b c:vW):Prop :=
 W.cell? ⟨k,0,none⟩=some a/\W.cell? ⟨k,1,none⟩=some b/\W.cell? ⟨k,2,none⟩=some c
theorem QH (g:bL W W') {k:Nat} {a b c:vW} (h:JI W k a b c):JI W' k a b c:=by
 have j:=pZ W ⟨k,0,none⟩ h.1;obtain ⟨l,m,o⟩:=h;exact ⟨(g.cell (p:=⟨k,0,none⟩) j).trans l,(g.cell (p:=⟨k,1,none⟩) j).trans m,(g.cell (p:=⟨k,2,none⟩) j).trans o⟩
theorem AtL.f5 (h:AtL W k [a,b,c,d,e]):zPd W k a b c d e:=⟨h.2.1 0 a rfl,h.2.1 1 b rfl,h.2.1 2 c rfl,h.2.1 3 d rfl,h.2.1 4 e rfl⟩
theorem AtL.f3 (h:AtL W k [a,b,c]):JI W k a b c:=⟨h.2.1 0 a rfl,h.2.1 1 b rfl,h.2.1 2 c rfl⟩
theorem AtL.put3 (h:AtL W k [a,b,c]) (x y z:vW) :
  AtL (((W.setCell ⟨k,0,none⟩ x).setCell ⟨k,1,none⟩ y).setCell ⟨k,2,none⟩ z) k [x,y,z]:=((h.set 0 x).set 1 y).set 2 z
theorem AtL.far3 (h:AtL W k vs) {j:Nat} (g:j ≠ k) (x y z:vW) :
  AtL (((W.setCell ⟨j,0,none⟩ x).setCell ⟨j,1,none⟩ y).setCell ⟨j,2,none⟩ z) k vs:=((h.far g 0 x).far g 1 y).far g 2 z
theorem AtL.put5 (h:AtL W k [a,b,c,d,e]) (x y z u v:vW) :
  AtL (((((W.setCell ⟨k,0,none⟩ x).setCell ⟨k,1,none⟩ y).setCell ⟨k,2,none⟩ z).setCell ⟨k,3,none⟩ u).setCell ⟨k,4,none⟩ v) k [x,y,z,u,v]:=((((h.set 0 x).set 1 y).set 2 z).set 3 u).set 4 v
theorem zA3 {n:Nat} (j:Below n w W) (g:n<=k) (x y z u v:vW) :
  Below n w (((((W.setCell ⟨k,0,none⟩ x).setCell ⟨k,1,none⟩ y).setCell ⟨k,2,none⟩ z).setCell ⟨k,3,none⟩ u).setCell ⟨k,4,none⟩ v) :=
 ((((j.setCell (p:=⟨k,0,none⟩) g x).setCell (p:=⟨k,1,none⟩) g y).setCell (p:=⟨k,2,none⟩) g z).setCell (p:=⟨k,3,none⟩) g u).setCell (p:=⟨k,4,none⟩) g v
theorem QC (g:bL W W') {k o:Nat} {v:vW} (h:W.cell? ⟨k,o,none⟩=some v):W'.cell? ⟨k,o,none⟩=some v :=
 (g.cell (p:=⟨k,o,none⟩) (pZ W ⟨k,o,none⟩ h)).trans h
end Go.Proofs.YtloponhikiddmaaGreatDoor
namespace Wpl
structure Cl where
 s:Int
 r:Int
 c:Int
structure Ar where
 s:Int
 t:Int
 l:Int
 b:Int
 r:Int
def inB (n m:Int):Bool:=decide (0<=n) && decide (n<m)
theorem inB_iff {n m:Int}:inB n m=true ↔ 0<=n/\n<m:=by simp [inB]
def rightC (s r c:Int):Bool:=inB s 16 && inB r 65536 && inB c 256
theorem rightC_iff {s r c:Int}:rightC s r c=true ↔ 0<=s/\s<16/\0<=r/\r<65536/\0<=c/\c<256:=by simp [rightC,inB];omega
def rightA (s t l b r:Int):Bool:=decide (0<=s/\s<16/\0<=t/\t<=b/\b<65536/\0<=l/\l<=r/\r<256)
theorem rightA_iff {s t l b r:Int}:rightA s t l b r=true ↔ 0<=s/\s<16/\0<=t/\t<=b/\b<65536/\0<=l/\l<=r/\r<256:=by simp [rightA]
def lacks (q:Int) (c:Cl):Bool:=decide (c.s ≠ q) || !rightC c.s c.r c.c
def grow (a:Ar) (c:Cl):Ar:=⟨a.s,min a.t c.r,min a.l c.c,max a.b c.r,max a.r c.c⟩
def oneA (c:Cl):Ar:=⟨c.s,c.r,c.c,c.r,c.c⟩
def nullA:Ar:=⟨0,0,0,0,0⟩
def anyN (q:Int) (F:Nat->Cl):Nat->Bool
 | 0=>false
 | n+1=>anyN q F n || lacks q (F n)
theorem anyN_hit {q:Int} {F:Nat->Cl} {n j:Nat} (l:j<n) (h:lacks q (F j)=true):anyN q F n=true:=by
 induction n with
 | zero=>omega
 | succ n g =>
  by_cases e:j=n
  ·subst e;simp [anyN,h]
  ·simp [anyN,g (by omega)]
theorem anyN_miss {q:Int} {F:Nat->Cl} {n:Nat} (h:∀ j,j<n->lacks q (F j)=false):anyN q F n=false:=by
 induction n with
 | zero=>rfl
 | succ n g=>simp [anyN,g (λj l=>h j (by omega)),h n (by omega)]
def hullU (F:Nat->Cl):Nat->Ar
 | 0=>oneA (F 0)
 | j+1=>grow (hullU F j) (F (j+1))
def hullOk (F:Nat->Cl) (n:Nat):Bool:=decide (n ≠ 0) && !anyN (F 0).s F n
def hullV (F:Nat->Cl) (n:Nat):Ar:=if hullOk F n then hullU F (n - 1) else nullA
def before (s r c j g l:Int):Bool:=if s ≠ j then decide (s<j) else if r ≠ g then decide (r<g) else decide (c<l)
def zQV (s t l b r:Int) (i:Nat):Cl:=if i=0 then ⟨s,t,l⟩ else ⟨s,b,r⟩
def isA (a:Ar) (s t l b r:Int):Bool:=decide (a.s=s/\a.t=t/\a.l=l/\a.b=b/\a.r=r)
end Wpl
namespace Go.Proofs.YtloponhikiddmaaGreatDoor
open Tryz
open Go.RowKit
variable {w W:wW} {b ck:Nat} {es:Array MapEntry} {P:Program} {E:List MapEntry}
theorem zJv {B:Nat} {a:wW} (h:Below B a w) (n:Nat):Below B a (w.drewN n):=⟨h.os,h.tape,h.output,h.size,h.block⟩
theorem zAC {w1:wW} (g:bL w W) (j:bL W w1):bL w w1:=g.trans (j.mono g.size)
theorem zBC (h:bL w W) (o:Obj):bL w (W.alloc o):=h.alloc h.size o
theorem zAi (n m:Int) (w:wW) :
  cW prog 77 #[O J n,O J m] w λe w'=>e=rX (Y (Wpl.inB n m))/\w=w':=by
 unfold Wpl.inB;by_cases h:0<=n
 ·rw [decide_eq_true h];go_enter func77,ntmps77;go_wp2;go_ret;exact ⟨sM,rfl⟩
 ·rw [decide_eq_false h];go_enter func77,ntmps77;go_wp2;go_ret;exact ⟨sM,rfl⟩
theorem Qg (s r c:Int) (w:wW) :
  CR 50 #[gX #[O J s,O J r,O J c]] w (Y (Wpl.rightC s r c)):=by
 have g:=λw=>zAi s 16 w
 have j:=λw=>zAi r 65536 w
 have l:=λw=>zAi c 256 w
 unfold Wpl.rightC;generalize Wpl.inB s 16=b1 at *;generalize Wpl.inB r 65536=b2 at *;generalize Wpl.inB c 256=b3 at *;cases b1
 ·go_enter func50,ntmps50;go_wp2_with fail
  refine (g _).mono ?_;rintro e w1 ⟨rfl,rfl⟩;go_wp2;go_ret;exact ⟨rfl,clA⟩
 cases b2
 ·go_enter func50,ntmps50;go_wp2_with fail
  refine (g _).mono ?_;rintro e w1 ⟨rfl,rfl⟩;go_wp2_with fail
  refine (j _).mono ?_;rintro e w1 ⟨rfl,rfl⟩;go_wp2;go_ret;exact ⟨rfl,clA⟩
 ·go_enter func50,ntmps50;go_wp2_with fail
  refine (g _).mono ?_;rintro e w1 ⟨rfl,rfl⟩;go_wp2_with fail
  refine (j _).mono ?_;rintro e w1 ⟨rfl,rfl⟩;go_wp2_with fail
  refine (l _).mono ?_;rintro e w1 ⟨rfl,rfl⟩;go_wp2;go_ret;exact ⟨rfl,clA⟩
theorem zJB (s t l b r:Int) (w:wW) :
  CR 164 #[gX #[O J s,O J t,O J l,O J b,O J r]] w (gX #[O J s,O J t,O J l]):=by
 go_enter func164,ntmps164;go_wp2;refine bodyPost_ret (v:=gX #[O J s,O J t,O J l]) (by simp [results,results164,go_sem]) rfl ⟨rfl,?_⟩;exact clA
theorem zKN (s t l b r:Int) (w:wW) :
  CR 165 #[gX #[O J s,O J t,O J l,O J b,O J r]] w (gX #[O J s,O J b,O J r]):=by
 go_enter func165,ntmps165;go_wp2;refine bodyPost_ret (v:=gX #[O J s,O J b,O J r]) (by simp [results,results165,go_sem]) rfl ⟨rfl,?_⟩;exact clA
theorem zHz (q s r c:Int) (w:wW) :
  CR 141 #[O J q,gX #[O J s,O J r,O J c]] w (Y (Wpl.lacks q ⟨s,r,c⟩)):=by
 have R:=λw=>Qg s r c w
 unfold Wpl.lacks;show cW _ _ _ _ λe w'=>e=rX (Y (decide (s ≠ q) || !Wpl.rightC s r c))/\_
 generalize Wpl.rightC s r c=b at *;by_cases h:s=q
 ·subst h;go_enter func141,ntmps141;go_wp2_with fail
  refine (R _).mono ?_;rintro e w1 ⟨rfl,g⟩;go_wp2;go_ret;exact ⟨sM,clA⟩
 ·rw [decide_eq_true (show s ≠ q from h)];go_enter func141,ntmps141;go_wp2;go_ret;exact ⟨rfl,clA⟩
open Go.ChangeMaps (setBlock heap_setBlock_same heap_setBlock_other)
open Go.ChangeShapes Go.WideShapes Go.MapKept
structure Ct where
 t:ByteArray
 a:Option Addr
 n:Nat
 k:Nat
abbrev Ct.v (c:Ct):vW:=.slice c.a c.n c.k
abbrev ctV (c:Ct):vW:=gX #[V c.t,.slice c.a c.n c.k]
abbrev ct0:Ct:=⟨⟨#[]⟩,none,0,0⟩
def StB (E:List MapEntry) (ck:Nat):Prop:=(∀ x ∈ E,x.born<ck)/\(E.map (·.born)).Nodup
theorem StB.push (h:StB E ck) (k v:vW):StB (E++[⟨k,v,ck⟩]) (ck+1):=by
 refine ⟨λx g=>?_,?_⟩
 ·rcases List.mem_append.1 g with q | q
  ·have:=h.1 x q;omega
  ·simp at q;rw [q];exact Nat.lt_succ_self _
 ·rw [tZ,jY];refine ⟨h.2,sM,λa j b l e=>?_⟩;obtain ⟨x,g,rfl⟩:=List.mem_map.1 j;simp at l;have:=h.1 x g;omega
theorem StB.mod (h:StB E ck) (i:Nat) (k v:vW):StB (E.modify i λe=>{e with key:=k,val:=v}) ck:=by
 have g:(E.modify i λe=>{e with key:=k,val:=v}).map (·.born)=E.map (·.born):=by
  refine wZ (λj=>?_);rw [bZ,bZ,eY];cases E[j]? with
  | none=>rfl
  | some x=>by_cases c:i=j <;> simp [c]
 refine ⟨λx l=>?_,by rw [g];exact h.2⟩;have:x.born ∈ (E.modify i λe=>{e with key:=k,val:=v}).map (·.born):=List.mem_map.2 ⟨x,l,rfl⟩;rw [g] at this;obtain ⟨y,m,e⟩:=List.mem_map.1 this;rw [<-e];exact h.1 y m
def zOn (r:Option (Nat × vW)) (es:Array MapEntry):Array MapEntry :=
 match r with
 | some q=>es.eraseIdxIfInBounds q.1
 | none=>es
theorem zFG (r:Option (Nat × vW)) (es:Array MapEntry):(zOn r es).toList.Sublist es.toList:=by
 cases r with
 | none=>exact List.Sublist.refl _
 | some q =>
  show (es.eraseIdxIfInBounds q.1).toList.Sublist _
  unfold Array.eraseIdxIfInBounds;by_cases h:q.1<es.size
  ·rw [dif_pos h,Array.toList_eraseIdx];exact dY _ _
  ·rw [dif_neg h];exact List.Sublist.refl _
theorem StB.ers (h:StB es.toList ck) (r:Option (Nat × vW)):StB (zOn r es).toList ck :=
 ⟨λx g=>h.1 x ((zFG r es).subset g),((zFG r es).map _).nodup h.2⟩
abbrev ceV (x:Wpl.Cl):vW:=gX #[O J x.s,O J x.r,O J x.c]
def eqB (x y:Wpl.Cl):Bool:=decide (x.s=y.s/\x.r=y.r/\x.c=y.c)
theorem eqB_iff {x y:Wpl.Cl}:eqB x y=true ↔ x=y:=by
 unfold eqB;rw [decide_eq_true_eq];constructor
 ·intro h;cases x
  cases y
  simp at h;simp [h]
 ·rintro rfl;simp
theorem zLk (x y:Wpl.Cl):eqB x y=eqB y x:=by
 rw [kZ,eqB_iff,eqB_iff];exact ⟨λh=>h.symm,λh=>h.symm⟩
theorem Vz (g:Bool) (x:Wpl.Cl) (w:wW):(Instr.checkKey g 10000 36 (ceV x)).run prog w=.ok () w:=kR
theorem zNm (x y:Wpl.Cl) (w:wW):(Op.equal 36 (ceV x) (ceV y)).run prog w=.ok (eqB x y) w:=by
 show (Op.equalIn (9998+2) 36 _ _).run _ _=_
 unfold eqB;by_cases g:x.s=y.s
 ·by_cases j:x.r=y.r
  ·by_cases l:x.c=y.c
   ·simp [go_sem,g,j,l]
   ·simp [go_sem,g,j,l]
  ·simp [go_sem,g,j]
 ·simp [go_sem,g]
def fnB {α:Type} (x:Wpl.Cl):List (Wpl.Cl × α)->Nat->Option (Nat × α)
 | [],_=>none
 | p::r,i=>if eqB p.1 x then some (i,p.2) else fnB x r (i+1)
def enB (E:List MapEntry) (F:List (Wpl.Cl × Ct)):Prop:=E.map (λe=>(e.key,e.val))=F.map (λp=>(ceV p.1,ctV p.2))
theorem enB.cons {e:MapEntry} {F:List (Wpl.Cl × Ct)} (h:enB (e::E) F):∃ p r,F=p::r/\e.key=ceV p.1/\e.val=ctV p.2/\enB E r:=by
 cases F with
 | nil=>simp [enB] at h
 | cons p r =>
  simp only [enB,pY,List.cons.injEq,Prod.mk.injEq] at h;exact ⟨p,r,rfl,h.1.1,h.1.2,h.2⟩
theorem zPq (x:Wpl.Cl) (w:wW):∀ (E:List MapEntry) (F:List (Wpl.Cl × Ct)) (i:Nat),enB E F->(Instr.findAsking 36 (ceV x) E i).run prog w=.ok ((fnB x F i).map λq=>(q.1,ctV q.2)) w
 | [],F,i,h=>by
  have:F=[]:=by
   cases F with
   | nil=>rfl
   | cons p r=>simp [enB] at h
  subst this;rfl
 | e::E,F,i,h=>by
  obtain ⟨p,r,rfl,j,m,o⟩:=h.cons;have s:=zPq x w E r (i+1) o;have g:=zNm x p.1 w;rw [zLk] at g;unfold fnB;cases l:eqB p.1 x with
  | true =>
   rw [l] at g;simp [Instr.findAsking,j,m,g,eZ]
  | false =>
   rw [l] at g;simp [Instr.findAsking,j,g,eZ,s]
theorem zQM (x:Wpl.Cl) {E:List MapEntry} {F:List (Wpl.Cl × Ct)} (h:enB E F) (w:wW):(Instr.findKey 36 (ceV x) E).run prog w=.ok ((fnB x F 0).map λq=>(q.1,ctV q.2)) w:=by
 have j:=zPq x w E F 0 h;cases E with
 | nil =>
  have:F=[]:=by
   cases F with
   | nil=>rfl
   | cons p r=>simp [enB] at h
  subst this;simp [Instr.findKey,go_sem,Instr.findNow,fnB]
 | cons e r =>
  obtain ⟨p,s,rfl,g,m,o⟩:=h.cons;have l:∀ d:TypeDesc,Instr.sameNow d (ceV x) e.key=none:=λd=>by rw [g];cases d <;> rfl
  simp [Instr.findKey,go_sem,Instr.findNow,l];simpa using j
def MB (w:wW) (b:Nat) (F:List (Wpl.Cl × Ct)):Prop:=∃ (es:Array MapEntry) (ck:Nat),w.heap[b]? = some (.map es ck)/\enB es.toList F/\StB es.toList ck
theorem MB.lt {F:List (Wpl.Cl × Ct)} (h:MB w b F):b<w.heap.size:=by
 obtain ⟨es,ck,g,_⟩:=h;exact (Array.getElem?_eq_some_iff.1 g).1
theorem Vk:prog.underlying 50=some (.map 36 57):=kR
theorem zHU {t k e:TypeId} (o:P.underlying t=some (.map k e)) (g:w.heap[b]? = some (.map es ck)) {key v:vW} {j:Nat}
  (l:(Instr.checkKey es.isEmpty 10000 k key).run P w=.ok () w) (m:(Instr.findKey k key es.toList).run P w=.ok (some (j,v)) w) :
  (Instr.lookup t (.map (some b)) key true).run P w=.ok (uX #[v,Y true]) w:=by
 simp [Instr.lookup,run_underlying o,MapKept.run_getObj_map g,l,m,eZ]
theorem zGm {t k e:TypeId} (m:P.underlying t=some (.map k e)) (g:w.heap[b]? = some (.map es ck)) {key z:vW}
  (j:(Instr.checkKey es.isEmpty 10000 k key).run P w=.ok () w) (l:(Instr.findKey k key es.toList).run P w=.ok none w) (o:(zeroValue e).run P w=.ok z w) :
  (Instr.lookup t (.map (some b)) key true).run P w=.ok (uX #[z,Y false]) w:=by
 simp [Instr.lookup,run_underlying m,MapKept.run_getObj_map g,j,l,o,eZ]
def gtC (x:Wpl.Cl) (F:List (Wpl.Cl × Ct)):Ct:=((fnB x F 0).map (λq=>q.2)).getD ct0
def gtH (x:Wpl.Cl) (F:List (Wpl.Cl × Ct)):Bool:=(fnB x F 0).isSome
theorem zQv {F:List (Wpl.Cl × Ct)} (h:MB w b F) (x:Wpl.Cl):(Instr.lookup 50 (.map (some b)) (ceV x) true).run prog w=.ok (uX #[ctV (gtC x F),Y (gtH x F)]) w:=by
 obtain ⟨es,ck,j,m,_⟩:=h;have g:=zQM x m w;unfold gtC gtH;cases l:fnB x F 0 with
 | none =>
  rw [l] at g;exact zGm Vk j (Vz _ _ _) g kR
 | some q =>
  rw [l] at g;exact zHU Vk j (Vz _ _ _) g
theorem zGL {t k e:TypeId} (o:P.underlying t=some (.map k e)) (g:w.heap[b]? = some (.map es ck)) {key v:vW} {j:Nat}
  (l:(Instr.checkKey es.isEmpty 10000 k key).run P w=.ok () w) (m:(Instr.findKey k key es.toList).run P w=.ok (some (j,v)) w) :
  (Instr.lookup t (.map (some b)) key false).run P w=.ok v w:=by
 simp [Instr.lookup,run_underlying o,MapKept.run_getObj_map g,l,m,eZ]
theorem zE2 {t k e:TypeId} (m:P.underlying t=some (.map k e)) (g:w.heap[b]? = some (.map es ck)) {key z:vW}
  (j:(Instr.checkKey es.isEmpty 10000 k key).run P w=.ok () w) (l:(Instr.findKey k key es.toList).run P w=.ok none w) (o:(zeroValue e).run P w=.ok z w) :
  (Instr.lookup t (.map (some b)) key false).run P w=.ok z w:=by
 simp [Instr.lookup,run_underlying m,MapKept.run_getObj_map g,j,l,o,eZ]
theorem zCz {F:List (Wpl.Cl × Ct)} (h:MB w b F) (x:Wpl.Cl):(Instr.lookup 50 (.map (some b)) (ceV x) false).run prog w=.ok (ctV (gtC x F)) w:=by
 obtain ⟨es,ck,j,m,_⟩:=h;have g:=zQM x m w;unfold gtC;cases l:fnB x F 0 with
 | none =>
  rw [l] at g;exact zE2 Vk j (Vz _ _ _) g kR
 | some q =>
  rw [l] at g;exact zGL Vk j (Vz _ _ _) g
def VU {α:Type} (x:Wpl.Cl) (v:α) (F:List (Wpl.Cl × α)):List (Wpl.Cl × α) :=
 match fnB x F 0 with
 | some q=>F.set q.1 (x,v)
 | none=>F++[(x,v)]
def V4 {α:Type} (x:Wpl.Cl) (F:List (Wpl.Cl × α)):List (Wpl.Cl × α) :=
 match fnB x F 0 with
 | some q=>F.eraseIdx q.1
 | none=>F
theorem Jy {α:Type} (x:Wpl.Cl):∀ (F:List (Wpl.Cl × α)) (i:Nat) (q:Nat × α),fnB x F i=some q->∃ j,q.1=i+j/\F[j]? = some (x,q.2)
 | [],i,q,h=>by simp [fnB] at h
 | p::r,i,q,h=>by
  unfold fnB at h;cases g:eqB p.1 x with
  | true =>
   rw [g] at h;simp only [if_true,Option.some.injEq] at h;subst h;refine ⟨0,rfl,?_⟩;rw [<-eqB_iff.1 g];rfl
  | false =>
   rw [g] at h;obtain ⟨j,m,l⟩:=Jy x r (i+1) q (by simpa using h);exact ⟨j+1,oM,by simpa using l⟩
theorem zAp {α:Type} (x:Wpl.Cl):∀ (F:List (Wpl.Cl × α)) (i:Nat),fnB x F i=none->∀ p ∈ F,p.1 ≠ x
 | [],i,_,p,hp=>by cases hp
 | p::r,i,h,y,hy=>by
  unfold fnB at h;cases g:eqB p.1 x with
  | true =>
   rw [g] at h;simp at h
  | false =>
   rw [g] at h;rcases List.mem_cons.1 hy with e | e
   ·subst e;intro z;rw [eqB_iff.2 z] at g;cases g
   ·exact zAp x r (i+1) (by simpa using h) y e
def KB {α:Type} (F:List (Wpl.Cl × α)):Prop:=(F.map (λp=>p.1)).Nodup
theorem KB.one {α:Type} {F:List (Wpl.Cl × α)} (h:KB F) {x:Wpl.Cl} {a b:α} (g:(x,a) ∈ F) (j:(x,b) ∈ F):a=b:=by
 unfold KB at h;induction F with
 | nil=>cases g
 | cons p r l =>
  rw [pY,List.nodup_cons] at h;rcases List.mem_cons.1 g with e | e
  ·rcases List.mem_cons.1 j with e2 | e2
   ·rw [<-e] at e2;simpa using e2.symm
   ·exact absurd (List.mem_map.2 ⟨_,e2,rfl⟩) (by rw [<-e] at h;exact h.1)
  ·rcases List.mem_cons.1 j with e2 | e2
   ·exact absurd (List.mem_map.2 ⟨_,e,rfl⟩) (by rw [<-e2] at h;exact h.1)
   ·exact l h.2 e e2
theorem zAv (g:w.heap[b]? = some (.map es ck)) (o:Obj):w.grownBy (setBlock w b o) (some b) :=
 ⟨rfl,rfl,rfl,by simp [setBlock],λi _ j=>heap_setBlock_other g _ (λe=>j (by rw [e]))⟩
theorem zKY {t k e:TypeId} (m:P.underlying t=some (.map k e)) (g:w.heap[b]? = some (.map es ck)) {key:vW} (val:vW)
  (j:(Instr.checkKey false 10000 k key).run P w=.ok () w) (l:(Instr.findKey k key es.toList).run P w=.ok none w) :
  (Instr.mapUpdate t (.map (some b)) key val).run P w=.ok () (setBlock w b (.map (es.push ⟨key,val,ck⟩) (ck+1))):=by
 simp [Instr.mapUpdate,run_underlying m,MapKept.run_getObj_map g,j,l,MapKept.run_setObj_map _ g,eZ,setBlock]
theorem zLp {t k e:TypeId} (q:P.underlying t=some (.map k e)) (g:w.heap[b]? = some (.map es ck)) {key:vW} (val:vW) {j:Nat} {v:vW}
  (l:(Instr.checkKey false 10000 k key).run P w=.ok () w) (m:(Instr.findKey k key es.toList).run P w=.ok (some (j,v)) w) (o:(es[j]?).map (·.key)=some key) (p:Instr.sameBits 10000 key key=true) :
  (Instr.mapUpdate t (.map (some b)) key val).run P w=.ok () (setBlock w b (.map (es.modify j λe=>{e with key:=key,val:=val}) ck)):=by
 simp [Instr.mapUpdate,Instr.keyThatStays,run_underlying q,MapKept.run_getObj_map g,l,m,o,p,MapKept.run_setObj_map _ g,eZ,setBlock]
theorem zQq (x:Wpl.Cl):Instr.sameBits 10000 (ceV x) (ceV x)=true:=by
 show Instr.sameBits (9998+1+1) _ _=true
 simp [Instr.sameBits]
theorem enB.at {F:List (Wpl.Cl × Ct)} (h:enB E F) {i:Nat} {p:Wpl.Cl × Ct} (l:F[i]? = some p):∃ e,E[i]? = some e/\e.key=ceV p.1/\e.val=ctV p.2:=by
 have:(E.map (λe=>(e.key,e.val)))[i]? = some (ceV p.1,ctV p.2):=by
  rw [h,bZ,l];rfl
 rw [bZ] at this;obtain ⟨e,j,g⟩:=Option.map_eq_some_iff.1 this;simp only [Prod.mk.injEq] at g;exact ⟨e,j,g.1,g.2⟩
theorem zR3 {F:List (Wpl.Cl × Ct)} (h:MB w b F) (x:Wpl.Cl) (v:Ct):∃ w',(Instr.mapUpdate 50 (.map (some b)) (ceV x) (ctV v)).run prog w=.ok () w'/\MB w' b (VU x v F)/\w.grownBy w' (some b):=by
 obtain ⟨es,ck,g,p,o⟩:=h;have s:=zQM x p w;unfold VU;cases z:fnB x F 0 with
 | none =>
  rw [z] at s;refine ⟨_,zKY Vk g _ (Vz _ _ _) s,⟨es.push ⟨ceV x,ctV v,ck⟩,ck+1,heap_setBlock_same g _,?_,by rw [Array.toList_push];exact o.push _ _⟩,zAv g _⟩;unfold enB at *;rw [Array.toList_push,tZ,p,tZ];rfl
 | some q =>
  rw [z] at s;obtain ⟨j,G,A⟩:=Jy x F 0 q z;have u:q.1=j:=oM;obtain ⟨e,B,D,H⟩:=p.at A;have m:(es[q.1]?).map (·.key)=some (ceV x):=by
   rw [u,<-Array.getElem?_toList,B];simp [D]
  refine ⟨_,zLp Vk g _ (Vz _ _ _) s m (zQq x),⟨_,ck,heap_setBlock_same g _,?_,by rw [Array.toList_modify];exact o.mod _ _ _⟩,zAv g _⟩;unfold enB at *;rw [Array.toList_modify];refine wZ (λi=>?_);have C:=congrArg (λl=>l[i]?) p;simp only [bZ] at C;rw [bZ,bZ,eY,nZ];by_cases c:q.1=i
  ·subst c;have y:q.1<F.length:=by
    rw [u];exact (List.getElem?_eq_some_iff.1 A).1
   rw [if_pos rfl,if_pos y,u,B];simp
  ·rw [if_neg c];simp only [c,if_false];simpa using C
theorem zEi {α β:Type} (f:α->β) (l:List α) (i:Nat):(l.eraseIdx i).map f=(l.map f).eraseIdx i:=by simp [List.eraseIdx_eq_take_drop_succ]
theorem zKv {t k e o:TypeId} (m:P.underlying t=some (.map k e)) (g:w.heap[b]? = some (.map es ck)) {key:vW} {r:Option (Nat × vW)}
  (j:(Instr.checkKey es.isEmpty 10000 k key).run P w=.ok () w) (l:(Instr.findKey k key es.toList).run P w=.ok r w) :
  (Builtin.delete_ #[t,k] o #[.map (some b),key]).run P w=.ok (uX #[]) (setBlock w b (.map (zOn r es) ck)):=by
 cases r with
 | none=>simp [Builtin.delete_,run_underlying m,MapKept.run_getObj_map g,j,l,MapKept.run_setObj_map _ g,eZ,setBlock,zOn]
 | some q=>simp [Builtin.delete_,run_underlying m,MapKept.run_getObj_map g,j,l,MapKept.run_setObj_map _ g,eZ,setBlock,zOn]
theorem zQ7 {F:List (Wpl.Cl × Ct)} (h:MB w b F) (x:Wpl.Cl) (z:TypeId):∃ w',(Builtin.delete_ #[50,36] z #[.map (some b),ceV x]).run prog w=.ok (uX #[]) w'/\MB w' b (V4 x F)/\w.grownBy w' (some b):=by
 obtain ⟨es,ck,l,g,o⟩:=h;have v:=zQM x g w;refine ⟨_,zKv Vk l (Vz _ _ _) v,⟨_,ck,heap_setBlock_same l _,?_,o.ers _⟩,zAv l _⟩;unfold V4;cases y:fnB x F 0 with
 | none=>exact g
 | some q =>
  obtain ⟨j,A,p⟩:=Jy x F 0 q y;have s:q.1=j:=oM;have m:q.1<es.size:=by
   obtain ⟨e,u,_⟩:=g.at p;rw [s];simpa using (List.getElem?_eq_some_iff.1 u).1
  show enB (es.eraseIdxIfInBounds q.1).toList (F.eraseIdx q.1)
  unfold enB at *;unfold Array.eraseIdxIfInBounds;rw [dif_pos m,Array.toList_eraseIdx,zEi,g,<-zEi]
theorem KB.put {α:Type} {F:List (Wpl.Cl × α)} (h:KB F) (x:Wpl.Cl) (v:α):KB (VU x v F)/\∀ y a,(y,a) ∈ VU x v F ↔ (y=x/\a=v) \/ (y ≠ x/\(y,a) ∈ F):=by
 unfold VU;cases C:fnB x F 0 with
 | none =>
  have B:=zAp x F 0 C;refine ⟨?_,λy a=>?_⟩
  ·show (sY _ (F++[(x,v)])).Nodup
   rw [tZ,jY];refine ⟨h,sM,λa G b A e=>?_⟩;obtain ⟨p,H,rfl⟩:=List.mem_map.1 G;simp at A;exact B p H (by rw [e,A])
  ·simp only [List.mem_append,List.mem_singleton,Prod.mk.injEq];constructor
   ·rintro (q | q)
    ·exact uZ ⟨B _ q,q⟩
    ·exact vZ q
   ·rintro (q | q)
    ·exact uZ q
    ·exact vZ q.2
 | some q =>
  obtain ⟨j,K,s⟩:=Jy x F 0 q C;have u:q.1=j:=oM;obtain ⟨l,L⟩:=List.getElem?_eq_some_iff.1 s;have m:(F.set q.1 (x,v)).map (λp=>p.1)=F.map (λp=>p.1):=by
   rw [List.map_set,u];refine wZ (λi=>?_);rw [nZ];by_cases c:j=i
   ·subst c;rw [if_pos rfl,if_pos (by simpa using l),bZ,s];rfl
   ·rw [if_neg c]
  refine ⟨by show (sY _ _).Nodup;rw [m];exact h,λy a=>?_⟩;show (y,a) ∈ F.set q.1 (x,v) ↔ _
  rw [u];have o:∀ z,z ∈ F.set j (x,v) ↔ ∃ i,(i=j/\z=(x,v)) \/ (i ≠ j/\F[i]? = some z):=λz=>by
   rw [List.mem_iff_getElem?];constructor
   ·rintro ⟨i,g⟩;rw [nZ] at g;by_cases c:j=i
    ·rw [if_pos c] at g;refine ⟨i,vZ ⟨c.symm,?_⟩⟩;by_cases d:j<F.length
     ·rw [if_pos d] at g;simpa using g.symm
     ·rw [if_neg d] at g;cases g
    ·rw [if_neg c] at g;exact ⟨i,uZ ⟨λe=>c e.symm,g⟩⟩
   ·rintro ⟨i,q | q⟩
    ·exact ⟨i,by rw [nZ,if_pos q.1.symm,if_pos l,q.2]⟩
    ·exact ⟨i,by rw [nZ,if_neg (λe=>q.1 e.symm)];exact q.2⟩
  rw [o];constructor
  ·rintro ⟨i,c | c⟩
   ·simp only [Prod.mk.injEq] at c;exact vZ c.2
   ·refine uZ ⟨λe=>?_,jZ c.2⟩;subst e;have D:(F.map (λp=>p.1))[i]? = some y:=by rw [bZ,c.2];rfl
    have I:(F.map (λp=>p.1))[j]? = some y:=by rw [bZ,s];rfl
    exact c.1 ((kY (List.getElem?_eq_some_iff.1 D).1 h).1 (D.trans I.symm))
  ·rintro (c | c)
   ·exact ⟨j,vZ ⟨rfl,by rw [c.1,c.2]⟩⟩
   ·obtain ⟨i,g⟩:=List.mem_iff_getElem?.1 c.2;refine ⟨i,uZ ⟨λe=>?_,g⟩⟩;subst e;rw [s] at g;simp only [Option.some.injEq,Prod.mk.injEq] at g;exact c.1 g.1.symm
theorem KB.del {α:Type} {F:List (Wpl.Cl × α)} (h:KB F) (x:Wpl.Cl):KB (V4 x F)/\∀ y a,(y,a) ∈ V4 x F ↔ y ≠ x/\(y,a) ∈ F:=by
 unfold V4;cases s:fnB x F 0 with
 | none =>
  have z:=zAp x F 0 s;exact ⟨h,λy a=>⟨λq=>⟨z _ q,q⟩,λq=>q.2⟩⟩
 | some q =>
  obtain ⟨j,B,o⟩:=Jy x F 0 q s;have v:q.1=j:=oM;refine ⟨?_,λy a=>?_⟩
  ·show (sY _ (F.eraseIdx q.1)).Nodup
   rw [zEi];exact (dY _ _).nodup h
  ·show (y,a) ∈ F.eraseIdx q.1 ↔ _
   rw [v,List.mem_eraseIdx_iff_getElem?];constructor
   ·rintro ⟨i,m,g⟩;refine ⟨λe=>?_,jZ g⟩;subst e;have u:(F.map (λp=>p.1))[i]? = some y:=by rw [bZ,g];rfl
    have A:(F.map (λp=>p.1))[j]? = some y:=by rw [bZ,o];rfl
    exact m ((kY (List.getElem?_eq_some_iff.1 u).1 h).1 (u.trans A.symm))
   ·rintro ⟨m,g⟩;obtain ⟨i,l⟩:=List.mem_iff_getElem?.1 g;refine ⟨i,λe=>?_,l⟩;subst e;rw [o] at l;simp only [Option.some.injEq,Prod.mk.injEq] at l;exact m l.1.symm
end Go.Proofs.YtloponhikiddmaaGreatDoor
namespace Wlx
def dig (c:UInt8):Bool:=decide (48<=(c.toNat:Int)) && decide ((c.toNat:Int)<=57)
def cap (c:UInt8):Bool:=decide (65<=(c.toNat:Int)) && decide ((c.toNat:Int)<=90)
def low (c:UInt8):Bool:=decide (97<=(c.toNat:Int)) && decide ((c.toNat:Int)<=122)
def wrd (c:UInt8):Bool:=cap c || low c || decide ((c.toNat:Int)=36) || dig c
def prt (c:UInt8):Bool:=decide (32<=(c.toNat:Int)) && decide ((c.toNat:Int)<=126)
def runP (p:UInt8->Bool):List UInt8->Nat
 | []=>0
 | c::t=>if p c then runP p t+1 else 0
theorem runP_le (p:UInt8->Bool) (l:List UInt8):runP p l<=l.length:=by
 induction l with
 | nil=>exact dZ _
 | cons c t g =>
  unfold runP;split
  ·simp only [zZ];omega
  ·exact hZ _
theorem runP_pos {p:UInt8->Bool} {c:UInt8} {t:List UInt8} (h:p c=true):runP p (c::t)=runP p t+1:=by
 show (if p c then runP p t+1 else 0)=_
 rw [if_pos h]
theorem runP_neg {p:UInt8->Bool} {c:UInt8} {t:List UInt8} (h:p c=false):runP p (c::t)=0:=by
 show (if p c then runP p t+1 else 0)=_
 rw [if_neg (by rw [h];decide)]
def numTl (n:Nat):List UInt8->Nat
 | []=>n
 | c::t=>if c=46/\0<runP dig t then n+1+runP dig t else n
theorem numTl_cons (n:Nat) (c:UInt8) (t:List UInt8):numTl n (c::t)=if c=46/\0<runP dig t then n+1+runP dig t else n:=rfl
def numSz (l:List UInt8):Nat:=if runP dig l=0 then 0 else numTl (runP dig l) (l.drop (runP dig l))
def quo:Bool->Nat->List UInt8->Nat
 | w,i,[]=>if w then 0 else i
 | w,i,c::t=>if c=34 then quo (!w) (i+1) t else if w then quo w (i+1) t else i
def txtSz:List UInt8->Nat
 | []=>0
 | c::t=>if c=34 then quo true 1 t else 0
def begins:List UInt8->List UInt8->Bool
 | [],_=>true
 | _::_,[]=>false
 | a::p,b::t=>decide (a=b) && begins p t
def nameSz (l:List UInt8):List (List UInt8)->Nat
 | []=>0
 | n::r=>if begins n l then n.length else nameSz l r
def faults:List (List UInt8):=[[35,68,73,86,47,48,33],[35,86,65,76,85,69,33],[35,82,69,70,33],[35,78,85,77,33],[35,78,47,65],[35,67,73,82,67,76,69,33],[35,76,79,78,71,33],[35,65,82,71,33]]
def marks:List (List UInt8):=[[60,62],[60,61],[62,61],[43],[45],[42],[47],[94],[38],[37],[40],[41],[44],[58],[33],[61],[60],[62]]
def sz (k:Nat) (l:List UInt8):Nat :=
 if k=1 then numSz l else if k=2 then txtSz l else if k=3 then runP wrd l else if k=4 then nameSz l faults else if k=5 then nameSz l marks else 0
def undbl:List UInt8->List UInt8
 | []=>[]
 | [c]=>[c]
 | c::d::t=>if c=34/\d=34 then 34::undbl t else c::undbl (d::t)
def said (k:Nat) (l:List UInt8):List UInt8:=if k=2 then undbl ((l.drop 1).take (l.length - 2)) else l
end Wlx
namespace Go.Proofs.YtloponhikiddmaaGreatDoor
open Tryz
open Go.RowKit
variable {c:UInt8} {r:Int}
theorem zBe (r:Int) (w:wW):cW prog 173 #[O .i32 r] w λe w'=>e=rX (Y (decide (48<=r) && decide (r<=57)))/\w=w':=by
 go_enter func173,ntmps173;by_cases a:48<=r
 ·go_wp2;go_ret;exact ⟨Qi (by simp [a]),rfl⟩
 ·go_wp2;go_ret;exact ⟨Qi (by rw [decide_eq_false oM];rfl),rfl⟩
theorem zBi (r:Int) (w:wW):cW prog 110 #[O .i32 r] w λe w'=>e=rX (Y (decide (32<=r) && decide (r<=126)))/\w=w':=by
 go_enter func110,ntmps110;by_cases a:32<=r
 ·go_wp2;go_ret;exact ⟨Qi (by simp [a]),rfl⟩
 ·go_wp2;go_ret;exact ⟨Qi (by rw [decide_eq_false oM];rfl),rfl⟩
theorem zDR (r:Int) (w:wW):cW prog 144 #[O .i32 r] w λe w'=>e=rX (Y ((decide (65<=r) && decide (r<=90)) || (decide (97<=r) && decide (r<=122)) || decide (r=36) || (decide (48<=r) && decide (r<=57))))/\w=w':=by
 have x:undef=Value.tuple #[]:=rfl;go_enter func144,ntmps144;by_cases a:65<=r/\r<=90
 ·obtain ⟨j,l⟩:=a;go_wp2;go_ret;exact ⟨Qi (by simp [j,l]),rfl⟩
 ·by_cases b:97<=r/\r<=122
  ·obtain ⟨j,l⟩:=b;have p:65<=r:=oM;have q:¬ r<=90:=oM;go_wp2;go_ret;exact ⟨Qi sM,rfl⟩
  ·by_cases c:r=36
   ·subst c;go_wp2;go_ret;exact ⟨rfl,rfl⟩
   ·have E:hH (((decide (65<=r) && decide (r<=90)) || (decide (97<=r) && decide (r<=122)) || decide (r=36) || (decide (48<=r) && decide (r<=57)))=(decide (48<=r) && decide (r<=57))):=by
     show _=_
     have m:(decide (65<=r) && decide (r<=90))=false:=by simp;omega
     have o:(decide (97<=r) && decide (r<=122))=false:=by simp;omega
     rw [m,o,decide_eq_false c];rfl
    have g:∀ w',w=w'->cW prog 173 #[O .i32 r] w' λe w'=>e=rX (Y (decide (48<=r) && decide (r<=57)))/\w=w':=λw' h=>by rw [<-h];exact zBe r w
    rw [E.out];generalize (decide (48<=r) && decide (r<=57))=s at g;clear E;by_cases d:65<=r
    ·have u:¬ r<=90:=oM;by_cases f:97<=r
     ·have v:¬ r<=122:=oM;go_wp2_with fail
      refine (g _ rfl).mono ?_;rintro e w1 ⟨rfl,rfl⟩;go_wp2;go_ret;exact ⟨Qi (by simp [c]),rfl⟩
     ·go_wp2_with fail
      refine (g _ rfl).mono ?_;rintro e w1 ⟨rfl,rfl⟩;go_wp2;go_ret;exact ⟨Qi (by simp [c]),rfl⟩
    ·have f:¬ 97<=r:=oM;go_wp2_with fail
     refine (g _ rfl).mono ?_;rintro e w1 ⟨rfl,rfl⟩;go_wp2;go_ret;exact ⟨Qi (by simp [c]),rfl⟩
theorem Qr (b:ByteArray) (i:Nat) (h:i<b.size):b.data.toList.drop i=b[i]::b.data.toList.drop (i+1):=iZ (by simpa using h)
theorem JS (b:ByteArray) (i:Nat) (h:¬ i<b.size):b.data.toList.drop i=[]:=mZ (by have:b.data.toList.length=b.size:=rfl;omega)
theorem zB9 (b:ByteArray) (i:Nat) (h:i<b.size):((b[i]).toNat<128/\Utf8.decode b i=((b[i]).toNat,1)) \/ (128<=(b[i]).toNat/\128<=(Utf8.decode b i).1):=by
 by_cases c:(b[i]).toNat<128
 ·exact vZ ⟨c,decode_ascii b i h c⟩
 ·exact uZ ⟨oM,(decode_high b i h oM).1⟩
theorem zPT (h:128<=c.toNat):Wlx.dig c=false:=by unfold Wlx.dig;simp;omega
theorem zPt (h:128<=c.toNat):Wlx.prt c=false:=by unfold Wlx.prt;simp;omega
theorem zOo (h:128<=c.toNat):Wlx.wrd c=false:=by unfold Wlx.wrd Wlx.cap Wlx.low Wlx.dig;simp;omega
def zBV (r:Int):Bool:=(decide (48<=r) && decide (r<=57))
theorem zGD (h:128<=r):zBV r=false:=by unfold zBV;simp;omega
theorem zDo (b:ByteArray) (w:wW) (I:b.size<=9223372036854775807):CR 109 #[V b,.func (.func 173) #[] #[]] w (O J (Wlx.runP Wlx.dig b.data.toList:Nat)):=by
 have C:∀ (r:Int) (w:wW),cW prog 173 #[O .i32 r] w λe w'=>e=rX (Y (zBV r))/\w=w':=λr w=>zBe r w
 go_enter func109,ntmps109;go_wp2_with fail
 go_loopw [5] (λ_ wr=>∃ pos:Nat,pos<=b.size/\wr.heap[w.heap.size]? = some (.stringIter b pos)/\hH (Wlx.runP Wlx.dig b.data.toList=pos+Wlx.runP Wlx.dig (b.data.toList.drop pos))/\bL w wr) (λ_ wr=>b.size - wr.iterPos w.heap.size)
 case atStart=>exact ⟨0,hZ _,bY w b 0,(by simp:Wlx.runP Wlx.dig b.data.toList=0+Wlx.runP Wlx.dig (b.data.toList.drop 0)),(aZ _ w).alloc (dZ _) _⟩
 case round =>
  obtain ⟨pos,H,hit,o,z⟩:=hrel;by_cases g:pos<b.size
  ·have v:=λy=>Lib.run_next_any_at (P:=prog) wr w.heap.size b pos y hit g
   have m:=λq=>Lib.iterAt_heap wr w.heap.size b pos q hit
   have j:=λq=>Lib.below_iterAt z (dZ w.heap.size) b q
   rcases zB9 b pos g with ⟨A,e⟩ | ⟨A,e⟩
   ·rw [e] at v;cases u:zBV ((b[pos]).toNat:Int) with
    | true =>
     have E:hH (Wlx.runP Wlx.dig b.data.toList=(pos+1)+Wlx.runP Wlx.dig (b.data.toList.drop (pos+1))):=by
      show _=_
      rw [o.out,Qr b pos g,Wlx.runP_pos u];omega
     have B:=m (pos+1);have l:=j (pos+1);have G:wr.iterPos w.heap.size=pos:=by simp [oZ,hit]
     have s:(wr.iterAt w.heap.size b (pos+1)).iterPos w.heap.size=pos+1:=by simp [oZ,B]
     clear o m j;go_wp2_with fail
     refine (C _ _).mono ?_;rintro e w1 ⟨rfl,rfl⟩;go_wp2_with fail
     go_roundw
     case rel=>exact ⟨pos+1,g,B,E,l⟩
     case measure=>rw [G,s];omega
    | false =>
     have E:hH (Wlx.runP Wlx.dig b.data.toList=pos):=by
      show _=_
      rw [o.out,Qr b pos g,Wlx.runP_neg u];rfl
     have l:=j (pos+1);clear o m j;go_wp2_with fail
     refine (C _ _).mono ?_;rintro e w1 ⟨rfl,rfl⟩;go_wp2;go_ret;exact ⟨by rw [E.out];rfl,l⟩
   ·have E:hH (Wlx.runP Wlx.dig b.data.toList=pos):=by
     show _=_
     rw [o.out,Qr b pos g,Wlx.runP_neg (zPT A)];rfl
    obtain ⟨x,p⟩:∃ x:Nat,(Utf8.decode b pos).1=x:=⟨_,rfl⟩
    obtain ⟨n,D⟩:∃ n:Nat,(Utf8.decode b pos).2=n:=⟨_,rfl⟩
    rw [p,D] at v;rw [p] at e;have u:zBV (x:Int)=false:=zGD oM;have l:=j (pos+n);clear o m j p D e;go_wp2_with fail
    refine (C _ _).mono ?_;rintro e w1 ⟨rfl,rfl⟩;go_wp2;go_ret;exact ⟨by rw [E.out];rfl,l⟩
  ·have v:=λy=>Lib.run_next_end_at (P:=prog) wr w.heap.size b pos y hit g
   have E:hH (Wlx.runP Wlx.dig b.data.toList=b.size):=by
    show _=_
    rw [o.out,JS b pos g];simp [Wlx.runP];omega
   clear o;go_wp2;go_ret;exact ⟨by rw [E.out];rfl,z⟩
def zBv (r:Int):Bool:=(decide (32<=r) && decide (r<=126))
theorem zGr (h:128<=r):zBv r=false:=by unfold zBv;simp;omega
theorem zJj (b:ByteArray) (w:wW) (I:b.size<=9223372036854775807):CR 109 #[V b,.func (.func 110) #[] #[]] w (O J (Wlx.runP Wlx.prt b.data.toList:Nat)):=by
 have C:∀ (r:Int) (w:wW),cW prog 110 #[O .i32 r] w λe w'=>e=rX (Y (zBv r))/\w=w':=λr w=>zBi r w
 go_enter func109,ntmps109;go_wp2_with fail
 go_loopw [5] (λ_ wr=>∃ pos:Nat,pos<=b.size/\wr.heap[w.heap.size]? = some (.stringIter b pos)/\hH (Wlx.runP Wlx.prt b.data.toList=pos+Wlx.runP Wlx.prt (b.data.toList.drop pos))/\bL w wr) (λ_ wr=>b.size - wr.iterPos w.heap.size)
 case atStart=>exact ⟨0,hZ _,bY w b 0,(by simp:Wlx.runP Wlx.prt b.data.toList=0+Wlx.runP Wlx.prt (b.data.toList.drop 0)),(aZ _ w).alloc (dZ _) _⟩
 case round =>
  obtain ⟨pos,H,hit,o,z⟩:=hrel;by_cases g:pos<b.size
  ·have v:=λy=>Lib.run_next_any_at (P:=prog) wr w.heap.size b pos y hit g
   have m:=λq=>Lib.iterAt_heap wr w.heap.size b pos q hit
   have j:=λq=>Lib.below_iterAt z (dZ w.heap.size) b q
   rcases zB9 b pos g with ⟨A,e⟩ | ⟨A,e⟩
   ·rw [e] at v;cases u:zBv ((b[pos]).toNat:Int) with
    | true =>
     have E:hH (Wlx.runP Wlx.prt b.data.toList=(pos+1)+Wlx.runP Wlx.prt (b.data.toList.drop (pos+1))):=by
      show _=_
      rw [o.out,Qr b pos g,Wlx.runP_pos u];omega
     have B:=m (pos+1);have l:=j (pos+1);have G:wr.iterPos w.heap.size=pos:=by simp [oZ,hit]
     have s:(wr.iterAt w.heap.size b (pos+1)).iterPos w.heap.size=pos+1:=by simp [oZ,B]
     clear o m j;go_wp2_with fail
     refine (C _ _).mono ?_;rintro e w1 ⟨rfl,rfl⟩;go_wp2_with fail
     go_roundw
     case rel=>exact ⟨pos+1,g,B,E,l⟩
     case measure=>rw [G,s];omega
    | false =>
     have E:hH (Wlx.runP Wlx.prt b.data.toList=pos):=by
      show _=_
      rw [o.out,Qr b pos g,Wlx.runP_neg u];rfl
     have l:=j (pos+1);clear o m j;go_wp2_with fail
     refine (C _ _).mono ?_;rintro e w1 ⟨rfl,rfl⟩;go_wp2;go_ret;exact ⟨by rw [E.out];rfl,l⟩
   ·have E:hH (Wlx.runP Wlx.prt b.data.toList=pos):=by
     show _=_
     rw [o.out,Qr b pos g,Wlx.runP_neg (zPt A)];rfl
    obtain ⟨x,p⟩:∃ x:Nat,(Utf8.decode b pos).1=x:=⟨_,rfl⟩
    obtain ⟨n,D⟩:∃ n:Nat,(Utf8.decode b pos).2=n:=⟨_,rfl⟩
    rw [p,D] at v;rw [p] at e;have u:zBv (x:Int)=false:=zGr oM;have l:=j (pos+n);clear o m j p D e;go_wp2_with fail
    refine (C _ _).mono ?_;rintro e w1 ⟨rfl,rfl⟩;go_wp2;go_ret;exact ⟨by rw [E.out];rfl,l⟩
  ·have v:=λy=>Lib.run_next_end_at (P:=prog) wr w.heap.size b pos y hit g
   have E:hH (Wlx.runP Wlx.prt b.data.toList=b.size):=by
    show _=_
    rw [o.out,JS b pos g];simp [Wlx.runP];omega
   clear o;go_wp2;go_ret;exact ⟨by rw [E.out];rfl,z⟩
def zEA (r:Int):Bool:=((decide (65<=r) && decide (r<=90)) || (decide (97<=r) && decide (r<=122)) || decide (r=36) || (decide (48<=r) && decide (r<=57)))
theorem zJr (h:128<=r):zEA r=false:=by unfold zEA;simp;omega
theorem zLy (b:ByteArray) (w:wW) (I:b.size<=9223372036854775807):CR 109 #[V b,.func (.func 144) #[] #[]] w (O J (Wlx.runP Wlx.wrd b.data.toList:Nat)):=by
 have C:∀ (r:Int) (w:wW),cW prog 144 #[O .i32 r] w λe w'=>e=rX (Y (zEA r))/\w=w':=λr w=>zDR r w
 go_enter func109,ntmps109;go_wp2_with fail
 go_loopw [5] (λ_ wr=>∃ pos:Nat,pos<=b.size/\wr.heap[w.heap.size]? = some (.stringIter b pos)/\hH (Wlx.runP Wlx.wrd b.data.toList=pos+Wlx.runP Wlx.wrd (b.data.toList.drop pos))/\bL w wr) (λ_ wr=>b.size - wr.iterPos w.heap.size)
 case atStart=>exact ⟨0,hZ _,bY w b 0,(by simp:Wlx.runP Wlx.wrd b.data.toList=0+Wlx.runP Wlx.wrd (b.data.toList.drop 0)),(aZ _ w).alloc (dZ _) _⟩
 case round =>
  obtain ⟨pos,H,hit,o,z⟩:=hrel;by_cases g:pos<b.size
  ·have v:=λy=>Lib.run_next_any_at (P:=prog) wr w.heap.size b pos y hit g
   have m:=λq=>Lib.iterAt_heap wr w.heap.size b pos q hit
   have j:=λq=>Lib.below_iterAt z (dZ w.heap.size) b q
   rcases zB9 b pos g with ⟨A,e⟩ | ⟨A,e⟩
   ·rw [e] at v;cases u:zEA ((b[pos]).toNat:Int) with
    | true =>
     have E:hH (Wlx.runP Wlx.wrd b.data.toList=(pos+1)+Wlx.runP Wlx.wrd (b.data.toList.drop (pos+1))):=by
      show _=_
      rw [o.out,Qr b pos g,Wlx.runP_pos u];omega
     have B:=m (pos+1);have l:=j (pos+1);have G:wr.iterPos w.heap.size=pos:=by simp [oZ,hit]
     have s:(wr.iterAt w.heap.size b (pos+1)).iterPos w.heap.size=pos+1:=by simp [oZ,B]
     clear o m j;go_wp2_with fail
     refine (C _ _).mono ?_;rintro e w1 ⟨rfl,rfl⟩;go_wp2_with fail
     go_roundw
     case rel=>exact ⟨pos+1,g,B,E,l⟩
     case measure=>rw [G,s];omega
    | false =>
     have E:hH (Wlx.runP Wlx.wrd b.data.toList=pos):=by
      show _=_
      rw [o.out,Qr b pos g,Wlx.runP_neg u];rfl
     have l:=j (pos+1);clear o m j;go_wp2_with fail
     refine (C _ _).mono ?_;rintro e w1 ⟨rfl,rfl⟩;go_wp2;go_ret;exact ⟨by rw [E.out];rfl,l⟩
   ·have E:hH (Wlx.runP Wlx.wrd b.data.toList=pos):=by
     show _=_
     rw [o.out,Qr b pos g,Wlx.runP_neg (zOo A)];rfl
    obtain ⟨x,p⟩:∃ x:Nat,(Utf8.decode b pos).1=x:=⟨_,rfl⟩
    obtain ⟨n,D⟩:∃ n:Nat,(Utf8.decode b pos).2=n:=⟨_,rfl⟩
    rw [p,D] at v;rw [p] at e;have u:zEA (x:Int)=false:=zJr oM;have l:=j (pos+n);clear o m j p D e;go_wp2_with fail
    refine (C _ _).mono ?_;rintro e w1 ⟨rfl,rfl⟩;go_wp2;go_ret;exact ⟨by rw [E.out];rfl,l⟩
  ·have v:=λy=>Lib.run_next_end_at (P:=prog) wr w.heap.size b pos y hit g
   have E:hH (Wlx.runP Wlx.wrd b.data.toList=b.size):=by
    show _=_
    rw [o.out,JS b pos g];simp [Wlx.runP];omega
   clear o;go_wp2;go_ret;exact ⟨by rw [E.out];rfl,z⟩
theorem zEf (p:List UInt8):∀ l:List UInt8,Wlx.begins p l=(decide (p.length<=l.length) && (l.take p.length == p)):=by
 induction p with
 | nil=>intro l;simp [Wlx.begins]
 | cons a p m =>
  intro l;cases l with
  | nil=>simp [Wlx.begins]
  | cons b t =>
   have e:((b::t).take (a::p).length == a::p)=(decide (a=b) && (t.take p.length == p)):=by
    simp only [zZ,List.take_succ_cons];by_cases h:a=b
    ·subst h;simp
    ·have j:¬ b=a:=λe=>h e.symm
     simp [h,j]
   rw [e];have g:decide ((a::p).length<=(b::t).length)=decide (p.length<=t.length):=sM;rw [g];show (decide (a=b) && Wlx.begins p t)=_
   rw [m t];cases decide (a=b) <;> cases decide (p.length<=t.length) <;> rfl
theorem zGP (b p:ByteArray) (w:wW) (l:b.size<=9223372036854775807):cW prog 73 #[V b,V p] w λe w'=>e=rX (Y (Wlx.begins p.data.toList b.data.toList))/\w=w':=by
 have E:hH (Wlx.begins p.data.toList b.data.toList=(decide (p.size<=b.size) && ((b.extract 0 p.size).toList == p.toList))):=by
  show _=_
  rw [zEf,Lib.extract_toList,Lib.toList_data];rfl
 by_cases h:p.size<=b.size
 ·have g:hH (Wlx.begins p.data.toList b.data.toList=((b.extract 0 p.size).toList == p.toList)):=by
   show _=_;rw [E.out,decide_eq_true h];rfl
  clear E;have j:(p.size:Int)<=(b.size:Int):=oM;generalize Wlx.begins p.data.toList b.data.toList=r at *;go_enter func73,ntmps73;go_wp2;go_ret;exact ⟨by rw [g.out];rfl,rfl⟩
 ·have g:hH (Wlx.begins p.data.toList b.data.toList=false):=by
   show _=_;rw [E.out,decide_eq_false h];rfl
  clear E;have j:¬ (p.size:Int)<=(b.size:Int):=oM;generalize Wlx.begins p.data.toList b.data.toList=r at *;go_enter func73,ntmps73;go_wp2;go_ret;exact ⟨by rw [g.out];rfl,rfl⟩
theorem zAE (b p:ByteArray) (w:wW) (g:b.size<=9223372036854775807):cW prog 47 #[V b,V p] w λe w'=>e=rX (Y (Wlx.begins p.data.toList b.data.toList))/\w=w':=by
 go_enter func47,ntmps47;go_wp2_with fail
 refine (zGP _ _ _ g).mono ?_;rintro e w1 ⟨rfl,rfl⟩;go_wp2;go_ret;exact ⟨rfl,rfl⟩
theorem zDp (b:ByteArray) (k:Nat) (g:List (List UInt8)) (n:Nat) (w:wW) (D:b.size<=9223372036854775807) (B:n=g.length) (C:g.length<=100) (v:∀ x ∈ g,x.length<=100)
  (y:∀ i (h:i<g.length),w.cell? ⟨k,i,none⟩=some (V ⟨(g[i]).toArray⟩)) :
  cW prog 145 #[V b,U (some ⟨k,0,none⟩) n n] w λe w'=>e=rX (O J (Wlx.nameSz b.data.toList g:Nat))/\w=w':=by
 subst B;have z:=hid y;clear y;go_enter func145,ntmps145;go_wp2_with fail
 go_loopw [9] (λx wr=>∃ i:Nat,x=O J i/\i<=g.length/\hH (Wlx.nameSz b.data.toList g=Wlx.nameSz b.data.toList (g.drop i))/\wr=w) (λx _=>match x with | .int _ i=>g.length - i.toNat | _=>0)
 case atStart=>exact ⟨0,rfl,hZ _,(rfl:Wlx.nameSz b.data.toList g=_),rfl⟩
 case round =>
  obtain ⟨i,rfl,H,q,rfl⟩:=hrel;by_cases l:i<g.length
  ·have u:(i:Int)<(g.length:Int):=oM;have A:=z.out i l;obtain ⟨x,s⟩:=xV (g[i])
   have G:x.length<=100:=v x (by rw [<-s];exact List.getElem_mem l);rw [s] at A;have o:hH (Wlx.nameSz b.data.toList g=if Wlx.begins x b.data.toList then x.length else Wlx.nameSz b.data.toList (g.drop (i+1))):=by
    show _=_
    rw [q.out,iZ l,s];rfl
   clear q s;have p:=zAE b ⟨x.toArray⟩ wr D;cases j:Wlx.begins x b.data.toList with
   | true =>
    have E:hH (Wlx.nameSz b.data.toList g=x.length):=by show _=_;rw [o.out,if_pos j]
    have m:Wlx.begins (⟨x.toArray⟩:ByteArray).data.toList b.data.toList=true:=by simpa using j
    rw [m] at p;clear o m j;go_wp2_with fail
    refine p.mono ?_;rintro e w1 ⟨rfl,rfl⟩;go_wp2;go_ret;exact ⟨by rw [E.out];simp,rfl⟩
   | false =>
    have E:hH (Wlx.nameSz b.data.toList g=Wlx.nameSz b.data.toList (g.drop (i+1))):=by show _=_;rw [o.out,if_neg (by rw [j];decide)]
    have m:Wlx.begins (⟨x.toArray⟩:ByteArray).data.toList b.data.toList=false:=by simpa using j
    rw [m] at p;clear o m j;go_wp2_with fail
    refine p.mono ?_;rintro e w1 ⟨rfl,rfl⟩;go_wp2_with fail
    go_roundw
    case rel=>exact ⟨i+1,sM,l,E,by first | trivial | rfl⟩
    case measure=>simp;omega
  ·have u:¬ (i:Int)<(g.length:Int):=oM;have E:hH (Wlx.nameSz b.data.toList g=0):=by
    show _=_;rw [q.out,mZ oM];rfl
   clear q;go_wp2;go_ret;exact ⟨by rw [E.out];rfl,rfl⟩
theorem zBQ (b:ByteArray) (n:Nat):(b.extract n b.size).data.toList=b.data.toList.drop n:=by
 rw [Lib.extract_data];exact qZ (by rw [mY];exact dZ _)
theorem zBD (c:UInt8) (l:List UInt8):Wlx.begins [c] l=match l with | []=>false | d::_=>decide (c=d):=by
 cases l with
 | nil=>rfl
 | cons d t=>show (decide (c=d) && Wlx.begins [] t)=_;simp [Wlx.begins]
theorem zBz (b:ByteArray) (w:wW) (N:b.size<=9223372036854775806):CR 142 #[V b] w (O J (Wlx.numSz b.data.toList:Nat)):=by
 obtain ⟨n,z⟩:=xV (Wlx.runP Wlx.dig b.data.toList)
 have D:n<=b.size:=by rw [<-z];exact Wlx.runP_le _ _
 have p:=zDo b w oM;rw [z] at p;have j:hH (Wlx.numSz b.data.toList=if n=0 then 0 else Wlx.numTl n (b.data.toList.drop n)):=by
  show _=_;unfold Wlx.numSz;rw [z]
 clear z;by_cases s:n=0
 ·subst s;have E:hH (Wlx.numSz b.data.toList=0):=by show _=_;rw [j.out,if_pos rfl]
  clear j;go_enter func142,ntmps142;go_wp2_with fail
  refine p.mono ?_;rintro e w1 ⟨rfl,g⟩;go_wp2;go_ret;exact ⟨by rw [E.out];rfl,g⟩
 ·have H:((n:Int) == 0)=false:=beq_eq_false_iff_ne.2 oM;have L:(n:Int)<=(b.size:Int):=oM;have K:(0:Int)<=(n:Int):=oM;have l:=λw=>zAE (b.extract n b.size) ⟨#[46]⟩ w (by rw [cY];omega)
  rw [zBQ,zBD] at l;cases hd:b.data.toList.drop n with
  | nil =>
   have E:hH (Wlx.numSz b.data.toList=n):=by show _=_;rw [j.out,if_neg s,hd];rfl
   simp only [hd] at l;clear j hd;go_enter func142,ntmps142;go_wp2_with fail
   refine p.mono ?_;rintro e w1 ⟨rfl,g⟩;go_wp2_with fail
   refine (l _).mono ?_;rintro e v ⟨rfl,rfl⟩;go_wp2;go_ret;exact ⟨by rw [E.out];rfl,g⟩
  | cons c t =>
   simp only [hd] at l;by_cases y:c=46
   ·subst y;have I:n+1+t.length=b.size:=by
     have:=congrArg tY hd;simp only [mY,zZ] at this;have e:b.data.toList.length=b.size:=rfl;omega
    have M:(n:Int)+1<=(b.size:Int):=oM;have x:=λw=>zDo (b.extract (n+1) b.size) w (by rw [cY];omega)
    have A:b.data.toList.drop (n+1)=t:=by rw [show n+1=n+1 from rfl,<-List.drop_drop,hd];rfl
    rw [zBQ,A] at x;obtain ⟨m,q⟩:=xV (Wlx.runP Wlx.dig t)
    have G:m<=t.length:=by rw [<-q];exact Wlx.runP_le _ _
    rw [q] at x;by_cases C:0<m
    ·have E:hH (Wlx.numSz b.data.toList=n+1+m):=by show _=_;rw [j.out,if_neg s,hd];rw [Wlx.numTl_cons,q,if_pos ⟨rfl,C⟩]
     have B:(0:Int)<(m:Int):=oM;clear j hd A q;go_enter func142,ntmps142;go_wp2_with fail
     refine p.mono ?_;rintro e w1 ⟨rfl,g⟩;go_wp2_with fail
     refine (l _).mono ?_;rintro e v ⟨rfl,rfl⟩;go_wp2_with fail
     refine (x _).mono ?_;rintro e v ⟨rfl,o⟩;go_wp2;go_ret;exact ⟨by rw [E.out];exact zGJ oM,g.trans (o.mono g.size)⟩
    ·have E:hH (Wlx.numSz b.data.toList=n):=by show _=_;rw [j.out,if_neg s,hd];rw [Wlx.numTl_cons,q,if_neg (λh=>C h.2)]
     have B:¬ (0:Int)<(m:Int):=oM;clear j hd A q;go_enter func142,ntmps142;go_wp2_with fail
     refine p.mono ?_;rintro e w1 ⟨rfl,g⟩;go_wp2_with fail
     refine (l _).mono ?_;rintro e v ⟨rfl,rfl⟩;go_wp2_with fail
     refine (x _).mono ?_;rintro e v ⟨rfl,o⟩;go_wp2;go_ret;exact ⟨by rw [E.out];rfl,g.trans (o.mono g.size)⟩
   ·have u:¬ (46:UInt8)=c:=λe=>y e.symm
    rw [decide_eq_false u] at l;have E:hH (Wlx.numSz b.data.toList=n):=by show _=_;rw [j.out,if_neg s,hd];rw [Wlx.numTl_cons,if_neg (λh=>y h.1)]
    clear j hd y u;go_enter func142,ntmps142;go_wp2_with fail
    refine p.mono ?_;rintro e w1 ⟨rfl,g⟩;go_wp2_with fail
    refine (l _).mono ?_;rintro e v ⟨rfl,rfl⟩;go_wp2;go_ret;exact ⟨by rw [E.out];rfl,g⟩
theorem zCb (w:Bool) (i:Nat) (t:List UInt8):Wlx.quo w i (34::t)=Wlx.quo (!w) (i+1) t:=by
 conv=>lhs;unfold Wlx.quo
 rw [if_pos rfl]
theorem zMe (h:¬ c=34) (i:Nat) (t:List UInt8):Wlx.quo true i (c::t)=Wlx.quo true (i+1) t:=by
 conv=>lhs;unfold Wlx.quo
 rw [if_neg h,if_pos rfl]
theorem zHC (h:¬ c=34) (i:Nat) (t:List UInt8):Wlx.quo false i (c::t)=i:=by
 conv=>lhs;unfold Wlx.quo
 rw [if_neg h,if_neg dM]
end Go.Proofs.YtloponhikiddmaaGreatDoor
namespace Go.Proofs.YtloponhikiddmaaGreatDoor.Wnum
def rightB (n d:Int):Bool:=decide (-1000000000000<=n/\n<=1000000000000/\1<=d/\d<=1000000/\cZ n d=1)
def cN (n d:Int):Int:=if rightB n d=true then n else 0
def cD (n d:Int):Int:=if rightB n d=true then d else 1
def okQ (r:Rat):Bool:=decide (-1000000000000<=r.num/\r.num<=1000000000000/\r.den<=1000000)
def oB:Option Rat->Bool
 | none=>false
 | some r=>okQ r
def oN:Option Rat->Int
 | none=>0
 | some r=>if okQ r=true then r.num else 0
def oD:Option Rat->Int
 | none=>0
 | some r=>if okQ r=true then (r.den:Int) else 0
def mk (n d:Int):Option Rat:=if d=0 then none else some (Rat.divInt n d)
theorem right_iff {n d:Int}:rightB n d=true ↔ (-1000000000000<=n/\n<=1000000000000/\1<=d/\d<=1000000/\cZ n d=1):=by
 unfold rightB;exact decide_eq_true_iff
theorem cN_bd (n d:Int):-1000000000000<=cN n d/\cN n d<=1000000000000:=by
 unfold cN;split
 ·rename_i h;have:=right_iff.1 h;omega
 ·omega
theorem cD_bd (n d:Int):1<=cD n d/\cD n d<=1000000:=by
 unfold cD;split
 ·rename_i h;have:=right_iff.1 h;omega
 ·omega
theorem zBL {n d:Int} (hd:1<=d) (l:cZ n d=1):(Rat.divInt n d).num=n/\((Rat.divInt n d).den:Int)=d:=by
 rw [Rat.num_divInt,Rat.den_divInt];have g:d.sign=1:=Int.sign_eq_one_of_pos oM;have j:cZ d n=1:=by rw [Int.gcd_comm];exact l
 rw [if_neg oM,g,j];constructor
 ·simp
 ·simp;omega
theorem mk_zero (n:Int):mk n 0=none:=by simp [mk]
theorem mk_pos {n d:Int} (h:d ≠ 0):mk n d=some (Rat.divInt n d):=by simp [mk,h]
theorem zOi {n d:Int} (hd:1<=d):let g:Int:=cZ n d
  1<=g/\1<=d / g/\d / g<=d/\(mk n d=some (Rat.divInt (n / g) (d / g)))/\(Rat.divInt n d).num=n / g/\(((Rat.divInt n d).den:Nat):Int)=d / g:=by
 intro g;have B:cZ n d ≠ 0:=by
  intro h;rw [Int.gcd_eq_zero_iff] at h;omega
 have z:1<=g:=by show (1:Int)<=(cZ n d:Int);omega
 have p:g ∣ d:=Int.gcd_dvd_right ..;have v:g ∣ n:=nY ..;obtain ⟨k,l⟩:=p;obtain ⟨m,s⟩:=v;have o:d / g=k:=by rw [l];exact yZ _ oM
 have u:n / g=m:=by rw [s];exact yZ _ oM
 have j:1<=k:=by
  rcases Int.lt_or_le 0 k with h | h
  ·omega
  ·have:g * k<=g * 0:=Int.mul_le_mul_of_nonneg_left h oM;omega
 have q:k<=d:=by
  rw [l];have:1 * k<=g * k:=Int.mul_le_mul_of_nonneg_right z oM;omega
 have x:Rat.divInt n d=Rat.divInt m k:=by
  rw [s,l];exact Rat.divInt_mul_left oM
 have y:cZ m k=1:=by
  have:=Int.gcd_mul_left g m k;rw [<-s,<-l] at this;have A:g.natAbs=cZ n d:=by show (Int.natAbs (cZ n d:Int))=_;simp
  rw [A] at this;have e:cZ n d * cZ m k=cZ n d * 1:=by rw [Nat.mul_one];exact this.symm
  exact Nat.eq_of_mul_eq_mul_left oM e
 rw [o,u];refine ⟨z,j,q,?_,?_,?_⟩
 ·rw [mk_pos oM,x]
 ·rw [x];exact (zBL j y).1
 ·rw [x];exact (zBL j y).2
theorem mk_tdiv {n d:Int} (hd:1<=d) (p:-9223372036854775807<=n) (o:n<=9223372036854775807) :
  1<=((cZ n d:Nat):Int) /\ -9223372036854775807<=n.tdiv ((cZ n d:Nat):Int)/\n.tdiv ((cZ n d:Nat):Int)<=9223372036854775807/\(Rat.divInt n d).num=n.tdiv ((cZ n d:Nat):Int)/\(((Rat.divInt n d).den:Nat):Int)=d / ((cZ n d:Nat):Int):=by
 obtain ⟨j,_,_,_,l,m⟩:=zOi (n:=n) hd;have g:((cZ n d:Nat):Int) ∣ n:=nY ..;have e:n.tdiv ((cZ n d:Nat):Int)=n / ((cZ n d:Nat):Int):=Int.tdiv_eq_ediv_of_dvd g;have b1:(n.tdiv ((cZ n d:Nat):Int)).natAbs<=n.natAbs:=Int.natAbs_tdiv_le_natAbs ..;refine ⟨j,oM,oM,by rw [e];exact l,m⟩
end Go.Proofs.YtloponhikiddmaaGreatDoor.Wnum
namespace Go.Proofs.YtloponhikiddmaaGreatDoor
open Tryz
open Go.RowKit
variable {w W w1 w':wW} {b i:Nat} {F:List (Wpl.Cl × Ct)} {av:Option Addr}
theorem zE8 {k:IntKind} {a b:Int} (h:a=b):rX (.int k a)=rX (.int k b):=by rw [h]
theorem zBN (a:Int) (w:wW) (g:-9223372036854775807<=a) (j:a<=9223372036854775807) :
  cW prog 158 #[O J a] w λe w'=>e=rX (O J (a.natAbs:Int))/\w=w':=by
 by_cases h:a<0
 ·go_enter func158,ntmps158;go_wp2;go_ret;exact ⟨zE8 oM,rfl⟩
 ·go_enter func158,ntmps158;go_wp2;go_ret;exact ⟨zE8 oM,rfl⟩
theorem zA7 (a b:Int) (w:wW) (o:-9223372036854775807<=a) (s:a<=9223372036854775807) (u:-9223372036854775807<=b) (v:b<=9223372036854775807) :
  cW prog 123 #[O J a,O J b] w λe w'=>e=rX (O J (cZ a b:Int))/\∃ n,w'=w.drewN n:=by
 have b1:a.natAbs<=9223372036854775807:=oM;have b2:b.natAbs<=9223372036854775807:=oM;have H:hH (qY a.natAbs b.natAbs=cZ a b):=(rfl:qY a.natAbs b.natAbs=cZ a b)
 go_enter func123,ntmps123;go_wp2_with (go_at_call 158;refine (zBN _ _ (by assumption) (by assumption)).mono ?_;rintro e w' ⟨rfl,rfl⟩)
 go_loopw [0,1] (λx y wr=>∃ p q:Nat,x=O J p/\y=O J q/\p<=9223372036854775807/\q<=9223372036854775807/\hH (qY p q=cZ a b)/\∃ n,wr=w.drewN n) (λ_ y _=>(intOf y).toNat)
 case atStart=>exact ⟨a.natAbs,b.natAbs,rfl,rfl,b1,b2,H,0,rfl⟩
 case round =>
  obtain ⟨p,q,rfl,rfl,z,l,j,n,rfl⟩:=hrel;by_cases g:q=0
  ·subst g;go_wp2;go_ret;exact ⟨zE8 (by rw [<-j.out,Nat.gcd_zero_right]),n,rfl⟩
  ·have m:((q:Int) != 0)=true:=by simp;omega
   go_wp2;go_quiet (fail)
   go_wp2;go_roundw
   case rel=>exact ⟨q,p % q,rfl,by go_num,l,by have:=Nat.mod_lt p (hY g);omega,by exact (show qY q (p % q)=cZ a b by rw [<-j.out,rY p q,Nat.gcd_rec q p,rY]),_,World.drewN_drewN ..⟩
   case measure=>simp [intOf];have:=Nat.mod_lt p (hY g);omega
theorem zB1 (n d:Int) (r:Rat) (w:wW) (x:-9223372036854775807<=n) (y:n<=9223372036854775807) (p:hH (r.num=n)) (hd:hH ((r.den:Int)=d)) :
  CR 124 #[O J n,O J d] w (uX #[gX #[O J (Wnum.oN (some r)),O J (Wnum.oD (some r))],Y (Wnum.oB (some r))]):=by
 by_cases c:n.natAbs<=1000000000000/\d<=1000000
 ·obtain ⟨o,u⟩:=c;have g:Wnum.okQ r=true:=by unfold Wnum.okQ;rw [decide_eq_true_iff,p.out];have:=hd.out;omega
  have j:hH (Wnum.oN (some r)=n):=by show (if Wnum.okQ r=true then r.num else 0)=n;rw [if_pos g];exact p.out
  have l:hH (Wnum.oD (some r)=d):=by show (if Wnum.okQ r=true then (r.den:Int) else 0)=d;rw [if_pos g];exact hd.out
  have m:hH (Wnum.oB (some r)=true):=g;rw [j.out,l.out,m.out];clear g j l m;have q:decide ((1000000000000:Int)<(n.natAbs:Int))=false:=by simp;omega
  have s:decide ((1000000:Int)<d)=false:=by simp;omega
  go_enter func124,ntmps124;go_wp2_with (go_at_call 158;refine (zBN _ _ (by assumption) (by assumption)).mono ?_;rintro e w' ⟨rfl,rfl⟩)
  exact bodyPost_ret (v:=uX #[gX #[O J n,O J d],Y true]) (by simp [results,results124,go_sem]) rfl ⟨rfl,(aZ _ _).alloc (dZ _) _⟩
 ·have g:Wnum.okQ r=false:=by unfold Wnum.okQ;rw [decide_eq_false_iff_not,p.out];have:=hd.out;omega
  have j:hH (Wnum.oN (some r)=0):=by show (if Wnum.okQ r=true then r.num else 0)=0;rw [g];rfl
  have l:hH (Wnum.oD (some r)=0):=by show (if Wnum.okQ r=true then (r.den:Int) else 0)=0;rw [g];rfl
  have m:hH (Wnum.oB (some r)=false):=g;rw [j.out,l.out,m.out];clear g j l m;by_cases o:n.natAbs<=1000000000000
  ·have q:decide ((1000000000000:Int)<(n.natAbs:Int))=false:=by simp;omega
   have s:decide ((1000000:Int)<d)=true:=by simp;omega
   clear c o;go_enter func124,ntmps124;go_wp2_with (go_at_call 158;refine (zBN _ _ (by assumption) (by assumption)).mono ?_;rintro e w' ⟨rfl,rfl⟩)
   exact bodyPost_ret (v:=uX #[gX #[O J 0,O J 0],Y false]) (by simp [results,results124,go_sem]) rfl ⟨rfl,(aZ _ _).alloc (dZ _) _⟩
  ·have q:decide ((1000000000000:Int)<(n.natAbs:Int))=true:=by simp;omega
   clear c o;go_enter func124,ntmps124;go_wp2_with (go_at_call 158;refine (zBN _ _ (by assumption) (by assumption)).mono ?_;rintro e w' ⟨rfl,rfl⟩)
   exact bodyPost_ret (v:=uX #[gX #[O J 0,O J 0],Y false]) (by simp [results,results124,go_sem]) rfl ⟨rfl,(aZ _ _).alloc (dZ _) _⟩
theorem Ql {B:Nat} {a:wW} (h:Below B a w) (n:Nat):Below B a (w.drewN n):=⟨h.os,h.tape,h.output,h.size,h.block⟩
theorem zOf (g:bL W w1):(∀ b o,b<W.heap.size->w1.cell? ⟨b,o,none⟩=W.cell? ⟨b,o,none⟩)/\(∀ b o,b<W.heap.size->w1.frozen? ⟨b,o,none⟩=W.frozen? ⟨b,o,none⟩) :=
 ⟨λb o h=>g.cell (p:=⟨b,o,none⟩) h,λb o h=>g.frozen (p:=⟨b,o,none⟩) h⟩
theorem QA (g:bL w W) (j:bL W w1):bL w w1:=g.trans (j.mono g.size)
theorem QJ (h:bL w W) (o:Obj):bL w (W.alloc o):=h.alloc h.size o
theorem bsz {k:Nat} (g:bL W w1) (h:k<W.heap.size):k<w1.heap.size:=gY h g.size
theorem Qv {a b:Bool} (h:a=b):rX (Y a)=rX (Y b):=by rw [h]
theorem zD1 (n d:Int) (w:wW) (p:-9223372036854775808<=n) (q:n<=9223372036854775807) (s:-9223372036854775808<=d) (u:d<=9223372036854775807) :
  CR 92 #[gX #[O J n,O J d]] w (Y (Wnum.rightB n d)):=by
 by_cases j:n < -1000000000000
 ·have e:hH (Wnum.rightB n d=false):=by show Wnum.rightB n d=false;unfold Wnum.rightB;rw [decide_eq_false_iff_not];omega
  rw [e.out];clear e;go_enter func92,ntmps92;go_wp2;go_ret;exact ⟨rfl,(aZ _ _).alloc (dZ _) _⟩
 by_cases l:1000000000000<n
 ·have e:hH (Wnum.rightB n d=false):=by show Wnum.rightB n d=false;unfold Wnum.rightB;rw [decide_eq_false_iff_not];omega
  rw [e.out];clear e;go_enter func92,ntmps92;go_wp2;go_ret;exact ⟨rfl,(aZ _ _).alloc (dZ _) _⟩
 by_cases m:d<1
 ·have e:hH (Wnum.rightB n d=false):=by show Wnum.rightB n d=false;unfold Wnum.rightB;rw [decide_eq_false_iff_not];omega
  rw [e.out];clear e;go_enter func92,ntmps92;go_wp2;go_ret;exact ⟨rfl,(aZ _ _).alloc (dZ _) _⟩
 by_cases o:1000000<d
 ·have e:hH (Wnum.rightB n d=false):=by show Wnum.rightB n d=false;unfold Wnum.rightB;rw [decide_eq_false_iff_not];omega
  rw [e.out];clear e;go_enter func92,ntmps92;go_wp2;go_ret;exact ⟨rfl,(aZ _ _).alloc (dZ _) _⟩
 have e:hH ((((cZ n d:Nat):Int) == 1)=Wnum.rightB n d):=by
  show _=_
  unfold Wnum.rightB;by_cases g:cZ n d=1
  ·rw [g,decide_eq_true oM];rfl
  ·rw [decide_eq_false oM,beq_eq_false_iff_ne];omega
 rw [<-e.out];clear e;go_enter func92,ntmps92;go_wp2_with (go_at_call 123;refine (zA7 _ _ _ oM oM oM oM).mono ?_;rintro e w' ⟨rfl,v,rfl⟩)
 go_ret;exact ⟨rfl,Ql ((aZ _ _).alloc (dZ _) _) _⟩
theorem zL9 {t:ByteArray} (h:¬ t=⟨#[]⟩):(t.toList == [])=false:=by
 rw [beq_eq_false_iff_ne];intro e;rw [ByteArray.toList_eq] at e;exact h (fY (Array.ext' e))
def knd (t:ByteArray):Int:=if t=⟨#[]⟩ then 0 else if Wlx.begins [61] t.data.toList then 2 else 1
theorem zFp (f:Ct) (w:wW) (o:f.t.size<=9223372036854775807):CR 33 #[ctV f] w (O J (knd f.t)):=by
 obtain ⟨t,a,n,k⟩:=f;have g:=QJ (aZ _ w) (Z #[V t,U a n k] 57);have p:=AtL.new0 w 57 [V t,U a n k];have j:=zAE t ⟨#[61]⟩ (w.alloc (Z #[V t,U a n k] 57)) o;unfold knd;simp only at o ⊢;by_cases l:t=⟨#[]⟩
 ·rw [if_pos l];subst l;clear j;go_enter func33,ntmps33;go_upto_region 1 with fail
  generalize w.alloc (Z #[V ⟨#[]⟩,U a n k] 57)=s at *;obtain ⟨u,_,_,_⟩:=p.two;go_wp2;go_ret;exact ⟨rfl,g⟩
 ·rw [if_neg l];obtain ⟨q,m⟩:=xV (Wlx.begins [61] t.data.toList)
  rw [m];have j:cW prog 47 #[V t,V ⟨#[61]⟩] (w.alloc (Z #[V t,U a n k] 57)) λe w'=>e=rX (Y q)/\(w.alloc (Z #[V t,U a n k] 57))=w':=by rw [<-m];exact j
  have v:=zL9 l;clear m o;go_enter func33,ntmps33;go_upto_region 1 with fail
  generalize w.alloc (Z #[V t,U a n k] 57)=s at *;obtain ⟨u,_,_,_⟩:=p.two;go_wp2_with fail
  refine j.mono ?_;rintro e w1 ⟨rfl,rfl⟩;clear j;cases q with
  | true =>
   go_wp2;go_ret;exact ⟨rfl,g⟩
  | false =>
   go_wp2;go_ret;exact ⟨rfl,g⟩
theorem zNN (s:ByteArray) (w:wW) (g:¬ s.data.toList.head? = some 61) :
  cW prog 52 #[V s,V ⟨#[61]⟩] w λe w'=>e=rX (uX #[V s,Y false])/\w=w':=by
 by_cases o:0<s.size
 ·have l:(1:Int)<=(s.size:Int):=oM;have m:((s.extract 0 1).toList == [61])=false:=by
   rw [beq_eq_false_iff_ne];intro e;apply g
   rw [ByteArray.toList_eq,rZ,Array.toList_extract] at e;cases j:s.data.toList with
   | nil=>rw [j] at e;simp at e
   | cons c t=>rw [j] at e;simp [iY] at e;rw [e];rfl
  clear g;go_enter func52,ntmps52;go_wp2;go_ret2
  exact ⟨rfl,rfl⟩
 ·have l:¬ (1:Int)<=(s.size:Int):=oM;clear g;go_enter func52,ntmps52;go_wp2;go_ret2
  exact ⟨rfl,rfl⟩
theorem zCm (t:List UInt8) (w:wW) (p:t.length<=9223372036854775806) :
  cW prog 52 #[V ⟨(61::t).toArray⟩,V ⟨#[61]⟩] w λe w'=>e=rX (uX #[V ⟨t.toArray⟩,Y true])/\w=w':=by
 obtain ⟨s,g⟩:∃ s:ByteArray,s=⟨(61::t).toArray⟩:=⟨_,rfl⟩
 have j:s.size=t.length+1:=by rw [g];rfl
 have l:((s.extract 0 1).toList == [61])=true:=by rw [g];simp [ByteArray.toList_eq,rZ,iY]
 have m:s.extract 1 s.size=⟨t.toArray⟩:=by
  rw [j,g];apply fY
  rw [rZ];apply Array.ext'
  simp [iY]
 have o:(1:Int)<=(s.size:Int):=oM;rw [<-g];clear g j;go_enter func52,ntmps52;go_wp2;go_ret2
 exact ⟨rfl,rfl⟩
def fgn:List UInt8->Nat->Int
 | [],_=>-1
 | b::r,i=>if b.toNat<32 \/ 126<b.toNat then (i:Int) else fgn r (i+1)
theorem zAL (t:ByteArray) (w:wW) (Q:t.size<=1024):CR 51 #[V t] w (O J (fgn t.data.toList 0)):=by
 obtain ⟨l,v⟩:∃ l,t=(⟨l.toArray⟩:ByteArray):=⟨t.data.toList,by apply fY;simp⟩
 have N:t.size=l.length:=by rw [v];rfl
 have H:t.data.toList=l:=by rw [v]
 rw [H];rw [N] at Q;have s:hH (∀ (i:Nat) (h:i<l.length) (I:i<t.size),t[i]=l[i]):=λi h I=>by
  subst v;rfl
 obtain ⟨R,m⟩:=xV (fgn l 0)
 rw [m];have z:hH (fgn (l.drop 0) 0=R):=m;clear v H m;go_enter func51,ntmps51;go_upto_region 2 with fail
 go_loopg [6,3] l.length (λgk x y wr=>∃ i:Nat,x=O J (i:Int)/\gk=l.length - i/\hH (i<=l.length)/\hH (fgn (l.drop i) i=R)/\wr=w)
 case atStart=>exact ⟨0,rfl,rfl,hZ _,z,rfl⟩
 case round =>
  obtain ⟨i,rfl,X,T,j,rfl⟩:=hrel;by_cases o:i<l.length
  ·have D:(i:Int)<(t.size:Int):=oM;have M:(0:Int)<=(i:Int):=oM;have S:J.wrap ((i:Int)+1)=(i:Int)+1:=by rw [fZ];omega
   have G:i<t.size:=oM;obtain ⟨b,C⟩:=xV (l[i])
   have g:t[i]=b:=by rw [s.out i o G,C]
   have p:hH (fgn (l.drop i) i=if b.toNat<32 \/ 126<b.toNat then (i:Int) else fgn (l.drop (i+1)) (i+1)):=by
    show _=_
    rw [iZ o,C];rfl
   clear C;by_cases u:b.toNat<32
   ·have K:((t[i]).toNat:Int)<32:=by rw [g];omega
    have q:hH (R=(i:Int)):=by show _=_;rw [<-j.out,p.out,if_pos (vZ u)]
    clear p j s u g;go_wp2;go_ret;exact ⟨by rw [q.out];rfl,aZ _ _⟩
   ·have K:¬ ((t[i]).toNat:Int)<32:=by rw [g];omega
    by_cases B:126<b.toNat
    ·have L:(126:Int)<((t[i]).toNat:Int):=by rw [g];omega
     have q:hH (R=(i:Int)):=by show _=_;rw [<-j.out,p.out,if_pos (uZ B)]
     clear p j s u B g;go_wp2;go_ret;exact ⟨by rw [q.out];rfl,aZ _ _⟩
    ·have L:¬ (126:Int)<((t[i]).toNat:Int):=by rw [g];omega
     have A:hH (fgn (l.drop (i+1)) (i+1)=R):=by show _=_;rw [<-j.out,p.out,if_neg oM]
     clear p j s u B g;go_wp2_with fail
     go_roundg (l.length - (i+1))
     case rel=>exact ⟨i+1,sM,rfl,o,A,rfl⟩
     case measure=>omega
  ·have D:¬ (i:Int)<(t.size:Int):=oM;have q:hH (R = -1):=by
    show _=_
    rw [<-j.out,mZ oM];rfl
   clear j s;go_wp2;go_ret;exact ⟨by rw [q.out];rfl,aZ _ _⟩
theorem zR5 (t:ByteArray) (a:Option Addr) (n k:Nat) (w:wW):(Instr.field 57 (gX #[V t,U a n k]) 0).run prog w=.ok (V t) w:=kR
theorem zRX (t:ByteArray) (a:Option Addr) (n k:Nat) (w:wW):(Instr.field 57 (gX #[V t,U a n k]) 1).run prog w=.ok (U a n k) w:=kR
theorem MB.below (h:MB w b F) (m:bL w w'):MB w' b F:=by
 have g:=h.lt;obtain ⟨es,ck,j,l⟩:=h;exact ⟨es,ck,by rw [m.block b g];exact j,l⟩
theorem zBr (D A:Nat) (nv:vW) (I:Int) (F:List (Wpl.Cl × Ct)) (x:Wpl.Cl) (w:wW) (h:AtL w D [nv,O J I,.map (some A)]) (T:MB w A F) :
  CR 12 #[pX (some ⟨D,0,none⟩),gX #[O J x.s,O J x.r,O J x.c]] w (V (gtC x F).t):=by
 have m:=QJ (aZ _ w) (Z #[O J x.s,O J x.r,O J x.c] 36);have p:=AtL.f3 (AtL.new0 w 36 [O J x.s,O J x.r,O J x.c]);have R:=AtL.below m h;obtain ⟨_,_,u,_⟩:=R.three;have q:=hid (T.below m);have o:=hid m;clear h T R m;obtain ⟨g,G⟩:=xV (gtC x F)
 have X:=hid G;rw [G];clear G;obtain ⟨Q,M,N,gk⟩:=g;go_enter func12,ntmps12;go_upto_region 1 with fail
 generalize w.alloc (Z #[O J x.s,O J x.r,O J x.c] 36)=z at *;have y:JI z w.heap.size (O J x.s) (O J x.r) (O J x.c):=p;clear p;have l:=(aZ z.heap.size z).drew;refine wp_region_held_drew (S:=λW=>W.cell? ⟨D,2,none⟩=some (.map (some A))/\JI W w.heap.size (O J x.s) (O J x.r) (O J x.c)) kR ⟨QC l u,QH l y⟩ (λj=>?_);have C:=hid (MB.below q.out l);have B:=hid (QA o.out l);replace y:=QH l y
 replace u:=QC l u
 clear l q o;generalize z.drew=L at *;refine tkQ 0 ?_
 refine tkQ 1 ?_
 refine tkQ 2 ?_
 refine tkQ 3 ?_
 refine tkQ 4 ?_
 refine rdQ 5 (λK v=>?_);have H:(Instr.lookup 50 (.map (some A)) (gX #[O J x.s,O J x.r,O J x.c]) false).run prog L=.ok (gX #[V Q,U M N gk]) L:=by have:=zCz C.out x;rw [X.out] at this;exact this
 go_simp
 refine hkQ v ⟨u,y⟩ (λj=>?_);clear v K H
 have f0:=λw=>zR5 Q M N gk w
 refine tkQ 6 ?_
 refine rdQ 7 (λK v=>?_);go_simp
 refine hkQ v ⟨u,y⟩ (λj=>?_);clear v K
 refine wpAnyH_done kR ?_ _;clear j;go_wp2;go_ret;exact ⟨rfl,B.out⟩
theorem zAo (H D:Nat) (nv:vW) (N:Int) (F:List (Wpl.Cl × Ct)) (x:Wpl.Cl) (w:wW) (h:AtL w H [nv,O J N,.map (some D)]) (X:MB w D F) (M:(gtC x F).t.size<=9223372036854775807) :
  CR 16 #[pX (some ⟨H,0,none⟩),gX #[O J x.s,O J x.r,O J x.c]] w (O J (knd (gtC x F).t)):=by
 have m:=QJ (aZ _ w) (Z #[O J x.s,O J x.r,O J x.c] 36);have p:=AtL.f3 (AtL.new0 w 36 [O J x.s,O J x.r,O J x.c]);have T:=AtL.below m h;obtain ⟨_,_,q,_⟩:=T.three;have A:=hid (X.below m);have y:=hid m;clear h X T m;obtain ⟨g,I⟩:=xV (gtC x F)
 have HG:=hid I;rw [I] at M ⊢;have Q:=λW=>zFp g W M
 clear I M;obtain ⟨gt,ga,gn,gk⟩:=g;go_enter func16,ntmps16;go_upto_region 1 with fail
 generalize w.alloc (Z #[O J x.s,O J x.r,O J x.c] 36)=C at *;have v:JI C w.heap.size (O J x.s) (O J x.r) (O J x.c):=p;clear p;have l:=(aZ C.heap.size C).drew;refine wp_region_held_drew (S:=λW=>W.cell? ⟨H,2,none⟩=some (.map (some D))/\JI W w.heap.size (O J x.s) (O J x.r) (O J x.c)) kR ⟨QC l q,QH l v⟩ (λj=>?_);have B:=hid (MB.below A.out l);have z:=hid (QA y.out l);replace v:=QH l v
 replace q:=QC l q
 clear l A y;generalize C.drew=R at *;refine tkQ 0 ?_
 refine tkQ 1 ?_
 refine tkQ 2 ?_
 refine tkQ 3 ?_
 refine tkQ 4 ?_
 refine rdQ 5 (λK u=>?_);have L:(Instr.lookup 50 (.map (some D)) (gX #[O J x.s,O J x.r,O J x.c]) false).run prog R=.ok (gX #[V gt,U ga gn gk]) R:=by have:=zCz B.out x;rw [HG.out] at this;exact this
 go_simp
 refine hkQ u ⟨q,v⟩ (λj=>?_);clear u K L
 refine rdQ 6 (λK u=>?_);go_simp
 refine (Q _).mono ?_;rintro e w2 ⟨rfl,o⟩;have G:=hid (QA z.out o);replace v:=QH o v
 replace q:=QC o q
 clear o z Q B;go_wp2_with fail
 refine hkQ u ⟨q,v⟩ (λj=>?_);clear u K
 refine rdQ 7 (λK u=>?_);go_simp
 refine hkQ u ⟨q,v⟩ (λj=>?_);clear u K
 refine wpAnyH_done kR ?_ _;clear j;go_wp2;go_ret;exact ⟨rfl,G.out⟩
theorem zDP (j l:Nat) (m:vW) (g:Int) (w:wW) (h:AtL w j [m,O J g,.map (some l)]):CR 11 #[pX (some ⟨j,0,none⟩)] w (O J g):=by
 obtain ⟨_,o,_,_⟩:=h.three;clear h;go_enter func11,ntmps11;go_wp2;go_ret;exact ⟨rfl,aZ _ _⟩
theorem zKO (h:MB w b F) (l:TypeId):(Builtin.len_ #[50] l #[.map (some b)]).run prog w=.ok (O J (F.length:Int)) w:=by
 obtain ⟨es,ck,g,j,_⟩:=h;have e:es.size=F.length:=by
  have:=congrArg tY j;simpa using this
 simp [Builtin.len_,run_underlying Vk,MapKept.run_getObj_map g,eZ,e,goInt]
theorem zCo (j o:Nat) (p:vW) (g:Int) (F:List (Wpl.Cl × Ct)) (w:wW) (h:AtL w j [p,O J g,.map (some o)]) (m:MB w o F):CR 15 #[pX (some ⟨j,0,none⟩)] w (O J (F.length:Int)):=by
 obtain ⟨_,_,s,_⟩:=h.three;have l:=λq=>zKO m q
 clear h m;go_enter func15,ntmps15;go_wp2;go_ret;exact ⟨rfl,aZ _ _⟩
structure Ch where
 x:Wpl.Cl
 t:ByteArray
def chL (a:Ch):List vW:=[O J a.x.s,O J a.x.r,O J a.x.c,V a.t]
def RdH (w:wW) (av:Option Addr) (L:List Ch):Prop:=∀ (i:Nat) (a:Ch),L[i]? = some a->∃ bb off,av=some ⟨bb,off,none⟩/\w.rangeAt bb (off+i * 4) (chL a)
theorem RdH.below {L:List Ch} (h:RdH w av L) (o:bL w w'):RdH w' av L:=λi a m=>by
 obtain ⟨l,g,e,p⟩:=h i a m;exact ⟨l,g,e,λj v q=>QC o (p j v q)⟩
def lbP (F:List (Wpl.Cl × Ct)):List Ch->Int->Int
 | [],n=>n
 | a::r,n=>lbP F r ((if knd (gtC a.x F).t ≠ 0 then n - 1 else n)+(if a.t=⟨#[]⟩ then 0 else 1))
theorem zFq (bb mb:Nat) (nv:vW) (H:Int) (F:List (Wpl.Cl × Ct)) (av:Option Addr) (n cap:Nat) (L:List Ch) (w:wW) (h:AtL w bb [nv,O J H,.map (some mb)]) (hm:MB w mb F) (hr:RdH w av L) (hn:L.length=n) (hN:True->n<=256) (hF:True->F.length<=1000000) (hs:∀ y,(gtC y F).t.size<=9223372036854775807) :
  CR 20 #[pX (some ⟨bb,0,none⟩),U av n cap] w (O J (lbP F L (F.length:Int))):=by
 have LN:=zCo bb mb nv H F w h hm;have KN:=λy W (hb:bL w W)=>zAo bb mb nv H F y W (AtL.below hb h) (hm.below hb) (hs y)
 obtain ⟨R,hR⟩:=xV (lbP F L (F.length:Int))
 obtain ⟨I,Q⟩:=xV F.length
 rw [hR];rw [Q] at LN hF hR;have ab:=hid hR;have B:=hid (And.intro hr hn);clear h hm hs hR hr hn Q;go_enter func20,ntmps20;go_wp2_with fail
 refine LN.mono ?_;rintro e w1 ⟨rfl,N⟩;have aa:=hid N;clear LN N;go_upto_region 3 with fail
 go_loopg [5,12] n (λgk y x wr=>∃ (i:Nat) (m:Int),y=O J m/\x=O J (i:Int)/\gk=n - i/\hH (i<=n)/\hH (lbP F (L.drop i) m=R)/\hH (-(i:Int)<=m/\m<=(I:Int)+i)/\hH (bL w wr))
 case atStart=>exact ⟨0,I,rfl,rfl,rfl,hZ _,ab,⟨oM,oM⟩,aa⟩
 case round =>
  obtain ⟨i,m,rfl,rfl,hg,HI,X,v,T⟩:=hrel;generalize ag:wr=W at *;clear ag;by_cases g:i<n
  ·have ad:(i:Int)<(n:Int):=oM;have ah:(0:Int)<=(i:Int):=oM;have ak:J.wrap ((i:Int)+1)=(i:Int)+1:=by have:=hN trivial;rw [fZ];omega
   obtain ⟨a,ha⟩:∃ a,L[i]? = some a:=⟨L[i]'(by rw [B.out.2];exact g),gZ _⟩
   obtain ⟨cb,z,e,j⟩:=B.out.1.below T.out i a ha;subst e;have k0:W.cell? ⟨cb,z+i * 4,none⟩=some (O J a.x.s):=j 0 _ rfl;have k1:W.cell? ⟨cb,z+i * 4+1,none⟩=some (O J a.x.r):=j 1 _ rfl;have k2:W.cell? ⟨cb,z+i * 4+2,none⟩=some (O J a.x.c):=j 2 _ rfl;have k3:W.cell? ⟨cb,z+i * 4+3,none⟩=some (V a.t):=j 3 _ rfl;obtain ⟨kd,D⟩:=xV (knd (gtC a.x F).t)
   have u:hH (lbP F (L.drop (i+1)) ((if kd ≠ 0 then m - 1 else m)+(if a.t=⟨#[]⟩ then 0 else 1))=R):=by
    show _=_
    have e1:L[i]'(by rw [B.out.2];exact g)=a:=by
     have:=gZ (l:=L) (i:=i) (by rw [B.out.2];exact g);rw [ha] at this;exact (Option.some.inj this).symm
    have:=X.out;rw [iZ (by rw [B.out.2];exact g),e1] at this;rw [<-D];exact this
   have M:=QJ (aZ _ W) (Z #[O J a.x.s,O J a.x.r,O J a.x.c,V a.t] 38);have S:=AtL.new0 W 38 [O J a.x.s,O J a.x.r,O J a.x.c,V a.t];have A:=hid (QA T.out M);have KK:=KN a.x _ A.out;rw [D] at KK;clear ha j M D X;go_upto_region 5 with fail
   clear k0 k1 k2 k3 T;generalize W.alloc (Z #[O J a.x.s,O J a.x.r,O J a.x.c,V a.t] 38)=W0 at *;generalize ac:W.heap.size=eb at *;clear ac;have j0:=S.2.1 0 _ rfl;have j1:=S.2.1 1 _ rfl;have j2:=S.2.1 2 _ rfl;go_wp2_with fail
   refine KK.mono ?_;rintro e w2 ⟨rfl,C⟩;have q:=hid (QA A.out C);have j3:w2.cell? ⟨eb,3,none⟩=some (V a.t):=(AtL.below C S).2.1 3 _ rfl;clear KK C A S j0 j1 j2;have ae:=v.out;have ai:J.wrap (m - 1)=m - 1:=by have:=hN trivial;have:=hF trivial;rw [fZ];omega
   have af:wrap64 m=m:=by have:=hN trivial;have:=hF trivial;unfold wrap64;omega
   have aj:J.wrap (m+1)=m+1:=by have:=hN trivial;have:=hF trivial;rw [fZ];omega
   clear ae;obtain ⟨at_,K⟩:∃ t,a.t=t:=⟨_,rfl⟩
   rw [K] at j3 u;clear K;by_cases hk:kd=0
   ·by_cases G:at_=⟨#[]⟩
    ·subst G;have o:hH (lbP F (L.drop (i+1)) m=R /\ -((i+1:Nat):Int)<=m/\m<=(I:Int)+((i+1:Nat):Int)):=by
      have p:=u.out;have h2:=v.out;rw [hk] at p;exact ⟨by simpa using p,oM,oM⟩
     clear u v;go_wp2_with fail
     go_roundg (n - (i+1))
     case rel=>exact ⟨i+1,m,rfl,sM,rfl,g,o.out.1,o.out.2,q⟩
     case measure=>omega
    ·have x1:=zL9 G;have o:hH (lbP F (L.drop (i+1)) (m+1)=R /\ -((i+1:Nat):Int)<=(m+1)/\(m+1)<=(I:Int)+((i+1:Nat):Int)):=by
      have p:=u.out;have h2:=v.out;rw [if_neg (not_not_intro hk),if_neg G] at p;exact ⟨p,oM,oM⟩
     clear u v;go_wp2_with fail
     go_roundg (n - (i+1))
     case rel=>exact ⟨i+1,(m+1),rfl,sM,rfl,g,o.out.1,o.out.2,q⟩
     case measure=>omega
   ·by_cases G:at_=⟨#[]⟩
    ·subst G;have o:hH (lbP F (L.drop (i+1)) (m - 1)=R /\ -((i+1:Nat):Int)<=(m - 1)/\(m - 1)<=(I:Int)+((i+1:Nat):Int)):=by
      have p:=u.out;have h2:=v.out;rw [if_pos hk] at p;exact ⟨by simpa using p,oM,oM⟩
     clear u v;go_wp2_with fail
     go_roundg (n - (i+1))
     case rel=>exact ⟨i+1,(m - 1),rfl,sM,rfl,g,o.out.1,o.out.2,q⟩
     case measure=>omega
    ·have x1:=zL9 G;have o:hH (lbP F (L.drop (i+1)) m=R /\ -((i+1:Nat):Int)<=m/\m<=(I:Int)+((i+1:Nat):Int)):=by
      have p:=u.out;have h2:=v.out;rw [if_pos hk,if_neg G] at p;rw [show m - 1+1=m from by omega] at p;exact ⟨p,oM,oM⟩
     clear u v;go_wp2_with fail
     go_roundg (n - (i+1))
     case rel=>exact ⟨i+1,m,by rw [af],sM,rfl,g,o.out.1,o.out.2,q⟩
     case measure=>omega
  ·have ad:¬ (i:Int)<(n:Int):=oM;have o:hH (R=m):=by
    show _=_
    have:=B.out.2;rw [<-X.out,mZ oM];rfl
   clear X B KN;go_wp2;go_ret;exact ⟨by rw [o.out];rfl,T.out⟩
def RdE (w:wW) (av:Option Addr) (E:List (List Ch)):Prop:=∀ (i:Nat) (L:List Ch),E[i]? = some L->∃ bb off p m k,av=some ⟨bb,off,none⟩/\w.cell? ⟨bb,off+i,none⟩=some (U p m k)/\L.length=m/\RdH w p L/\(p=none->m=0/\k=0)
theorem RdE.below {E:List (List Ch)} (h:RdE w av E) (j:bL w w'):RdE w' av E:=λi L v=>by
 obtain ⟨l,g,p,m,k,e,o,q,s,u⟩:=h i L v;exact ⟨l,g,p,m,k,e,QC j o,q,s.below j,u⟩
def szH (L:List Ch):Nat:=(L.map (λa=>a.t.size)).sum
def wtE (E:List (List Ch)):Nat:=(E.map (λL=>L.length+szH L)).sum
theorem zLQ {L:List Ch} {a:Ch} (h:L[i]? = some a):szH (L.take (i+1))=szH (L.take i)+a.t.size:=by
 unfold szH;rw [lY,h];simp
theorem zFK {E:List (List Ch)} {L:List Ch} (h:E[i]? = some L):wtE (E.take (i+1))=wtE (E.take i)+(L.length+szH L):=by
 unfold wtE;rw [lY,h];simp
def MuQ (E:List (List Ch)) (w:wW) (e:Ending) (w':wW):Prop:=(∃ b,e=rX (Y b)/\(b=false->E.length+wtE E<=6000))/\w=w'
theorem zPJ (E:List (List Ch)) (av:Option Addr) (n cap:Nat) (w:wW) (S:RdE w av E) (R:E.length=n) (H:True->n<=1000000000000000) (g:∀ L ∈ E,L.length<=1000000000000000/\∀ a ∈ L,a.t.size<=1000000000000000) :
  cW prog 7 #[U none 0 0,U av n cap,U none 0 0] w (MuQ E w):=by
 have v:=hid (And.intro S (And.intro R g));have af:J.wrap ((n:Int))=(n:Int):=by have:=H trivial;rw [fZ];omega
 clear S R g;go_enter func7,ntmps7;go_upto_region 3 with fail
 go_loopg [7,8] 1 (λgk y x wr=>y=O J (n:Int)/\x=O J 0/\w=wr)
 case atStart=>exact ⟨sM,rfl,rfl⟩
 case round =>
  obtain ⟨rfl,rfl,rfl⟩:=hrel;go_upto_region 7 with fail
  go_loopg [7,9] n (λgk y x wr=>∃ (i m:Nat),y=O J (m:Int)/\x=O J (i:Int)/\gk=n - i/\hH (i<=n)/\hH ((6000<m \/ m=n+wtE (E.take i))/\m<=4000000000000000)/\w=wr)
  case atStart=>exact ⟨0,n,rfl,rfl,rfl,hZ _,⟨uZ (by simp [wtE]),by have:=H trivial;omega⟩,rfl⟩
  case round =>
   obtain ⟨i,m,rfl,rfl,hg,HI,Q,rfl⟩:=hrel;by_cases u:i<n
   ·have I:(i:Int)<(n:Int):=oM;have ac:(0:Int)<=(i:Int):=oM;have ai:J.wrap ((i:Int)+1)=(i:Int)+1:=by have:=H trivial;rw [fZ];omega
    by_cases hm:m<=6000
    ·have M:(m:Int)<=6000:=oM;obtain ⟨L,g⟩:∃ L,E[i]? = some L:=⟨E[i]'(by rw [v.out.2.1];exact u),gZ _⟩
     obtain ⟨bb,ak,p,l,kk,e,k0,s,B,_⟩:=v.out.1 i L g;subst e;have ae:l<=1000000000000000:=by rw [<-s];exact (v.out.2.2 L (jZ g)).1
     have z:hH (RdH w p L/\L.length=l/\(∀ a ∈ L,a.t.size<=1000000000000000)/\m+l+szH L=n+wtE (E.take (i+1))):=by
      refine ⟨B,s,(v.out.2.2 L (jZ g)).2,?_⟩;rw [zFK g];have:=Q.out.1;omega
     have ag:J.wrap ((m:Int)+(l:Int))=(m:Int)+(l:Int):=by rw [fZ];omega
     clear g B s;go_upto_region 11 with fail
     go_loopg [7,10] l (λgk y x wr=>∃ (k q:Nat),y=O J (q:Int)/\x=O J (k:Int)/\gk=l - k/\hH (k<=l)/\hH ((6000<q \/ q=m+l+szH (L.take k))/\q<=4000000000000000)/\w=wr)
     case atStart=>exact ⟨0,m+l,sM,rfl,rfl,hZ _,⟨uZ (by simp [szH]),oM⟩,rfl⟩
     case round =>
      obtain ⟨k,q,rfl,rfl,ab,HK,C,rfl⟩:=hrel;by_cases A:k<l
      ·have K:(k:Int)<(l:Int):=oM;have ad:(0:Int)<=(k:Int):=oM;have aj:J.wrap ((k:Int)+1)=(k:Int)+1:=by rw [fZ];omega
       by_cases hq:q<=6000
       ·have N:(q:Int)<=6000:=oM;obtain ⟨a,D⟩:∃ a,L[k]? = some a:=⟨L[k]'(by rw [z.out.2.1];exact A),gZ _⟩
        obtain ⟨X,co,e,j⟩:=z.out.1 k a D;subst e;have k3:w.cell? ⟨X,co+k * 4+3,none⟩=some (V a.t):=j 3 _ rfl;have aa:=z.out.2.2.1 a (jZ D);have ah:J.wrap ((q:Int)+(a.t.size:Int))=(q:Int)+(a.t.size:Int):=by rw [fZ];omega
        have G:hH ((6000<q+a.t.size \/ q+a.t.size=m+l+szH (L.take (k+1)))/\q+a.t.size<=4000000000000000):=by
         refine ⟨?_,oM⟩;rw [zLQ D];have:=C.out.1;omega
        clear D j;go_wp2_with fail
        go_roundg (l - (k+1))
        case rel=>exact ⟨k+1,q+a.t.size,sM,sM,rfl,A,G,rfl⟩
        case measure=>omega
       ·have N:¬ (q:Int)<=6000:=oM;have o:hH ((6000<q \/ q=n+wtE (E.take (i+1)))/\q<=4000000000000000):=⟨vZ oM,C.out.2⟩
        go_wp2_with fail
        go_roundg (n - (i+1))
        case rel=>exact ⟨i+1,q,rfl,sM,rfl,u,o,rfl⟩
        case measure=>omega
      ·have K:¬ (k:Int)<(l:Int):=oM;have o:hH ((6000<q \/ q=n+wtE (E.take (i+1)))/\q<=4000000000000000):=by
        refine ⟨?_,C.out.2⟩;rcases C.out.1 with h | h
        ·exact vZ h
        ·rw [qZ (by rw [z.out.2.1];omega)] at h;exact uZ (by rw [h];exact z.out.2.2.2)
       go_wp2_with fail
       go_roundg (n - (i+1))
       case rel=>exact ⟨i+1,q,rfl,sM,rfl,u,o,rfl⟩
       case measure=>omega
    ·have M:¬ (m:Int)<=6000:=oM;go_wp2;go_ret;exact ⟨⟨true,by simp;try omega,λh=>by cases h⟩,rfl⟩
   ·have I:¬ (i:Int)<(n:Int):=oM;have T:hH (¬ 6000<m->E.length+wtE E<=6000):=λh=>by
     have:=Q.out.1;rw [qZ (by rw [v.out.2.1];omega)] at this;have:=v.out.2.1;omega
    go_wp2;go_ret;refine ⟨⟨decide (6000<(m:Int)),rfl,λh=>T.out ?_⟩,rfl⟩;have:=of_decide_eq_false h;omega
end Go.Proofs.YtloponhikiddmaaGreatDoor
namespace Go.Proofs.YtloponhikiddmaaGreatDoor.Wv
def prts (l:List UInt8):Bool:=l.all Wlx.prt
theorem prts_cons (c:UInt8) (t:List UInt8):prts (c::t)=(Wlx.prt c && prts t):=rfl
def flt (f:Int):Bool:=decide (1<=f) && decide (f<=8)
def right (k n d:Int) (t:ByteArray) (b:Bool) (f:Int):Bool :=
 if k=0 then decide (n=0) && decide (d=0) && decide (t=⟨#[]⟩) && !b && decide (f=0)
 else if k=1 then Wnum.rightB n d && decide (t=⟨#[]⟩) && !b && decide (f=0)
 else if k=2 then (decide (t.size<=256) && prts t.data.toList) && decide (n=0) && decide (d=0) && !b && decide (f=0)
 else if k=3 then decide (n=0) && decide (d=0) && decide (t=⟨#[]⟩) && decide (f=0)
 else if k=4 then flt f && decide (n=0) && decide (d=0) && decide (t=⟨#[]⟩) && !b
 else false
end Go.Proofs.YtloponhikiddmaaGreatDoor.Wv
namespace Go.Proofs.YtloponhikiddmaaGreatDoor.Wt
structure Vl where
 k:Int
 n:Int
 d:Int
 t:ByteArray
 b:Bool
 f:Int
structure Rf where
 s:ByteArray
 r:Int
 c:Int
 fr:Bool
 fc:Bool
structure Nd where
 k:Int
 v:Vl
 op:Int
 nm:ByteArray
 ar:Int
 a:Rf
 b:Rf
def v0:Vl:=⟨0,0,0,⟨#[]⟩,false,0⟩
def r0:Rf:=⟨⟨#[]⟩,0,0,false,false⟩
def isNm (p:UInt8->Bool) (l:List UInt8):Bool:=decide (1<=l.length) && decide (l.length<=16) && p (l.headD 0) && l.all (λc=>p c || Wlx.dig c)
def ltr (c:UInt8):Bool:=Wlx.cap c || Wlx.low c
def fnNm (b:ByteArray):Bool:=isNm Wlx.cap b.data.toList
def shNm (b:ByteArray):Bool:=isNm ltr b.data.toList
def inR (r c:Int):Bool:=decide (0<=r) && decide (r<65536) && (decide (0<=c) && decide (c<256))
def rfOk (a:Rf):Bool:=inR a.r a.c && (decide (a.s=⟨#[]⟩) || shNm a.s)
def vlOk (v:Vl):Bool :=
 if v.k=0 then false
 else if v.k=1 then Wv.right v.k v.n v.d v.t v.b v.f && decide (0<=v.n) && decide (1000000 % v.d=0)
 else Wv.right v.k v.n v.d v.t v.b v.f
def opsT:List (Int × List UInt8 × Int) :=
 [(21,[61],0),(22,[60,62],0),(23,[60],0),(24,[60,61],0),(25,[62],0),(26,[62,61],0),(16,[38],1),(11,[43],2),(12,[45],2),(13,[42],3),(14,[47],3),(15,[94],4),(1,[45],5),(2,[43],5),(3,[37],6)]
def opOf (o:Int):Option (Int × List UInt8 × Int):=opsT.find? λx=>x.1 == o
def opAs (m:List UInt8) (t:Int):Option (Int × List UInt8 × Int):=opsT.find? λx=>(x.2.1 == m) && (x.2.2 == t)
def isBin (o:Int):Bool:=(decide (11<=o) && decide (o<=16)) || (decide (21<=o) && decide (o<=26))
def parts (x:Nd):Int:=if x.k=4 then 1 else if x.k=5 then 2 else x.ar
end Go.Proofs.YtloponhikiddmaaGreatDoor.Wt
namespace Go.Proofs.YtloponhikiddmaaGreatDoor
open Tryz
open Go.RowKit
variable {W:wW} {ka kb:Nat} {k n d f:Int} {t:ByteArray} {b:Bool}
theorem zCJ (f:Int) (w:wW):cW prog 93 #[O J f] w λe w'=>e=rX (Y (Wv.flt f))/\w=w':=by
 unfold Wv.flt;go_enter func93,ntmps93;by_cases a:1<=f
 ·go_wp2;go_ret;exact ⟨Qv (by simp [a]),rfl⟩
 ·go_wp2;go_ret;exact ⟨Qv (by rw [decide_eq_false oM];rfl),rfl⟩
theorem zOB (c:UInt8):Wlx.prt c=(decide (32<=(c.toNat:Int)) && decide ((c.toNat:Int)<=126)):=by
 unfold Wlx.prt;simp
theorem zFu (b:ByteArray) (w:wW) (A:b.size<=9223372036854775807):cW prog 89 #[V b] w λe w'=>e=rX (Y (Wv.prts b.data.toList))/\w=w':=by
 obtain ⟨R,o⟩:=xV (Wv.prts b.data.toList)
 have s:hH (R=Wv.prts (b.data.toList.drop 0)):=o.symm;rw [o];clear o;go_enter func89,ntmps89;go_wp2_with fail
 go_loopg [6] (b.size) (λgk x wr=>∃ j:Nat,x=O J j/\gk=b.size - j/\j<=b.size/\hH (R=Wv.prts (b.data.toList.drop j))/\wr=w)
 case atStart=>exact ⟨0,rfl,rfl,hZ _,s,rfl⟩
 case round =>
  obtain ⟨j,rfl,y,z,g,rfl⟩:=hrel;by_cases l:j<b.size
  ·have q:(j:Int)<(b.size:Int):=oM;have hd:=Qr b j l;have m:=zOB (b[j]);by_cases u:((b[j]).toNat:Int)<32
   ·have E:hH (R=false):=by show _=_;rw [g.out,hd,Wv.prts_cons,m,decide_eq_false oM];rfl
    clear g hd m;go_wp2;go_ret;exact ⟨by rw [E.out];rfl,rfl⟩
   ·by_cases v:(126:Int)<((b[j]).toNat:Int)
    ·have E:hH (R=false):=by show _=_;rw [g.out,hd,Wv.prts_cons,m,decide_eq_false (p:=((b[j]).toNat:Int)<=126) oM];simp
     clear g hd m;go_wp2;go_ret;exact ⟨by rw [E.out];rfl,rfl⟩
    ·have E:hH (R=Wv.prts (b.data.toList.drop (j+1))):=by show _=_;rw [g.out,hd,Wv.prts_cons,m,decide_eq_true oM,decide_eq_true oM];rfl
     clear g hd m;go_wp2_with fail
     go_roundg (b.size - (j+1))
     case rel=>exact ⟨j+1,sM,rfl,l,E,by first | trivial | rfl⟩
     case measure=>omega
  ·have q:¬ (j:Int)<(b.size:Int):=oM;have E:hH (R=true):=by show _=_;rw [g.out,JS b j l];rfl
   clear g;go_wp2;go_ret;exact ⟨by rw [E.out];rfl,rfl⟩
theorem zPy (a b:Int) (w:wW):(if a=b then (xZ true w:Result Bool) else xZ false w)=xZ (a == b) w:=by by_cases h:a=b <;> simp [h]
theorem zOF (a b:Bool) (w:wW):(if a=b then (xZ true w:Result Bool) else xZ false w)=xZ (a == b) w:=by by_cases h:a=b <;> simp [h]
theorem Jm (a b:ByteArray):((a == b)=true)=(a=b):=by
 obtain ⟨⟨x⟩⟩:=a;obtain ⟨⟨y⟩⟩:=b;have h:((⟨⟨x⟩⟩:ByteArray) == ⟨⟨y⟩⟩)=(x == y):=by
  show ((⟨x⟩:Array UInt8) == ⟨y⟩)=(x == y)
  simp
 rw [h];simp
def eqV (k n d:Int) (t:ByteArray) (b:Bool) (f:Int) (m o j:Int) (p:ByteArray) (g:Bool) (l:Int):Bool :=
 (k == m) && ((n == o) && ((d == j) && ((t == p) && ((b == g) && (f == l)))))
theorem zMl (x:Nat) (k n d:Int) (t:ByteArray) (b:Bool) (f:Int) (q s o:Int) (u:ByteArray) (m:Bool) (v:Int) (w:wW) :
  (Op.equalIn (x+3) 65 (gX #[O J k,O J n,O J d,V t,Y b,O J f]) (gX #[O J q,O J s,O J o,V u,Y m,O J v])).run prog w=.ok (eqV k n d t b f q s o u m v) w:=by
 unfold eqV;rw [beq_toListBytes];by_cases g:k=q
 ·by_cases j:n=s
  ·by_cases l:d=o
   ·by_cases p:t.toList=u.toList
    ·by_cases y:b=m
     ·simp [go_sem,g,j,l,p,y,zPy]
     ·simp [go_sem,g,j,l,p,y]
    ·simp [go_sem,g,j,l,p]
   ·simp [go_sem,g,j,l]
  ·simp [go_sem,g,j]
 ·simp [go_sem,g]
theorem zBE (k n d:Int) (t:ByteArray) (b:Bool) (f:Int) (m o j:Int) (p:ByteArray) (g:Bool) (l:Int) (w:wW) :
  (binOp .eql 65 (gX #[O J k,O J n,O J d,V t,Y b,O J f]) (gX #[O J m,O J o,O J j,V p,Y g,O J l])).run prog w=.ok (Y (eqV k n d t b f m o j p g l)) w:=by
 rw [run_eql_struct,show (10000:Nat)=9997+3 from rfl,zMl];rfl
def eqR (s:ByteArray) (r c:Int) (fr m:Bool) (p:ByteArray) (o l:Int) (j g:Bool):Bool :=
 (s == p) && ((r == o) && ((c == l) && ((fr == j) && (m == g))))
theorem zM4 (x:Nat) (s:ByteArray) (r c:Int) (fr v:Bool) (u:ByteArray) (q o:Int) (g j:Bool) (w:wW) :
  (Op.equalIn (x+2) 96 (gX #[V s,O J r,O J c,Y fr,Y v]) (gX #[V u,O J q,O J o,Y g,Y j])).run prog w=.ok (eqR s r c fr v u q o g j) w:=by
 unfold eqR;rw [beq_toListBytes];by_cases l:s.toList=u.toList
 ·by_cases m:r=q
  ·by_cases p:c=o
   ·by_cases y:fr=g
    ·simp [go_sem,l,m,p,y,zOF]
    ·simp [go_sem,l,m,p,y]
   ·simp [go_sem,l,m,p]
  ·simp [go_sem,l,m]
 ·simp [go_sem,l]
abbrev Six (W:wW) (k:Nat) (a b c d e f:vW):Prop :=
 W.cell? ⟨k,0,none⟩=some a/\W.cell? ⟨k,1,none⟩=some b/\W.cell? ⟨k,2,none⟩=some c/\W.cell? ⟨k,3,none⟩=some d/\W.cell? ⟨k,4,none⟩=some e/\W.cell? ⟨k,5,none⟩=some f
theorem AtL.f6 {k:Nat} {a b c d e f:vW} (h:AtL W k [a,b,c,d,e,f]):Six W k a b c d e f:=⟨h.2.1 0 a rfl,h.2.1 1 b rfl,h.2.1 2 c rfl,h.2.1 3 d rfl,h.2.1 4 e rfl,h.2.1 5 f rfl⟩
theorem zQj (n d:Int) (t:ByteArray) (b:Bool) (f:Int):eqV 0 n d t b f 0 0 0 ⟨#[]⟩ false 0=Wv.right 0 n d t b f:=by
 unfold eqV Wv.right;rw [if_pos rfl];rw [kZ];simp [and_assoc,Jm]
theorem zKI (n d:Int) (t:ByteArray) (b:Bool) (f:Int) (w:wW) :
  CR 131 #[gX #[O J 0,O J n,O J d,V t,Y b,O J f]] w (Y (Wv.right 0 n d t b f)):=by
 rw [<-zQj];have g:=zBE 0 n d t b f 0 0 0 ⟨#[]⟩ false 0;generalize eqV 0 n d t b f 0 0 0 ⟨#[]⟩ false 0=R at *;go_enter func131,ntmps131;go_wp2;go_ret;exact ⟨rfl,clA⟩
abbrev VrS (ka kb:Nat) (k n d:Int) (t:ByteArray) (b:Bool) (f:Int) (W:wW):Prop :=
 Six W ka (O J k) (O J n) (O J d) (V t) (Y b) (O J f)/\W.frozen? ⟨kb,0,none⟩=false/\W.frozen? ⟨kb,1,none⟩=false/\W.frozen? ⟨kb,2,none⟩=false/\W.frozen? ⟨kb,3,none⟩=false/\W.frozen? ⟨kb,4,none⟩=false/\W.frozen? ⟨kb,5,none⟩=false
theorem Je {j:List vW} (l:AtL W ka [O J k,O J n,O J d,V t,Y b,O J f]) (g:AtL W kb j) (m:j.length=6):VrS ka kb k n d t b f W :=
 ⟨l.f6,g.2.2 0 oM,g.2.2 1 oM,g.2.2 2 oM,g.2.2 3 oM,g.2.2 4 oM,g.2.2 5 oM⟩
theorem Ja (h:VrS ka kb k n d t b f W) (g:kb ≠ ka) (o:Nat) (u:vW):VrS ka kb k n d t b f (W.setCell ⟨kb,o,none⟩ u):=by
 obtain ⟨⟨v,x,y,z,A,B⟩,j,l,m,p,q,s⟩:=h;refine ⟨⟨?_,?_,?_,?_,?_,?_⟩,?_,?_,?_,?_,?_,?_⟩;any_goals rw [aY _ _ _ _ (by simpa using g)];assumption
 all_goals rw [sZ];assumption
theorem zEE (f:Int) (w:wW):CR 93 #[O J f] w (Y (Wv.flt f)):=(zCJ f w).mono λe w' h=>⟨h.1,h.2 ▸ aZ _ _⟩
theorem zJl (b:ByteArray) (w:wW) (g:b.size<=9223372036854775807):CR 89 #[V b] w (Y (Wv.prts b.data.toList)):=(zFu b w g).mono λe w' h=>⟨h.1,h.2 ▸ aZ _ _⟩
theorem zQt (n d:Int) (t:ByteArray) (b:Bool) (f:Int):(Wnum.rightB n d && eqV 1 n d t b f 1 n d ⟨#[]⟩ false 0)=Wv.right 1 n d t b f:=by
 unfold eqV Wv.right;rw [if_neg dM];rw [if_pos rfl];rw [kZ];simp [and_assoc,Jm]
theorem zLc (n d:Int) (t:ByteArray) (b:Bool) (f:Int) (w:wW) (p:-9223372036854775808<=n) (s:n<=9223372036854775807) (u:-9223372036854775808<=d) (v:d<=9223372036854775807) :
  CR 131 #[gX #[O J 1,O J n,O J d,V t,Y b,O J f]] w (Y (Wv.right 1 n d t b f)):=by
 rw [<-zQt];have C:=λw=>zD1 n d w p s u v
 have H:=zBE 1 n d t b f 1 n d ⟨#[]⟩ false 0;generalize eqV 1 n d t b f 1 n d ⟨#[]⟩ false 0=R at *;generalize Wnum.rightB n d=q at *;have pA:AtL ((w.alloc (Z #[O J 1,O J n,O J d,V t,Y b,O J f] 65)).alloc (Z #[O J 1,O J 0,O J 0,V ⟨#[]⟩,Y false,O J 0] 65)) w.heap.size [O J 1,O J n,O J d,V t,Y b,O J f]:=(AtL.new0 w _ _).alloc _;have o:AtL ((w.alloc (Z #[O J 1,O J n,O J d,V t,Y b,O J f] 65)).alloc (Z #[O J 1,O J 0,O J 0,V ⟨#[]⟩,Y false,O J 0] 65)) (w.heap.size+1) [O J 1,O J 0,O J 0,V ⟨#[]⟩,Y false,O J 0]:=AtL.new1 w _ _ _;have x:=Je pA o rfl;cases q
 all_goals
  go_enter func131,ntmps131;go_upto_region 6 with fail
  go_region_held3 (VrS w.heap.size (w.heap.size+1) 1 n d t b f)
   (with_reducible first | exact x | assumption | exact Je g j rfl | exact Ja (by assumption) oM _ _ | exact Ja (Ja (by assumption) oM _ _) oM _ _ | exact Je (AtL.drew pA) (AtL.drew o) rfl)
   (first | (go_at_call 92;refine (C _).mono ?_;rintro e w1 ⟨rfl,m⟩;have g:=AtL.below m (AtL.drew pA);have j:=AtL.below m (AtL.drew o);obtain ⟨y,z,A,B,D,G⟩:=g.f6;obtain ⟨I,K,L,M,N,Q⟩:=j.f6;have l:=QA (QJ (QJ (aZ _ w) _) _).drew m))
  all_goals
   go_wp2;go_ret;exact ⟨sM,(clB l)⟩
theorem zQr (n d:Int) (t:ByteArray) (b:Bool) (f:Int):(Wv.flt f && eqV 4 n d t b f 4 0 0 ⟨#[]⟩ false f)=Wv.right 4 n d t b f:=by
 unfold eqV Wv.right;rw [if_neg dM];rw [if_neg dM];rw [if_neg dM];rw [if_neg dM];rw [if_pos rfl];rw [kZ];simp [and_assoc,Jm]
theorem zLV (n d:Int) (t:ByteArray) (b:Bool) (f:Int) (w:wW) :
  CR 131 #[gX #[O J 4,O J n,O J d,V t,Y b,O J f]] w (Y (Wv.right 4 n d t b f)):=by
 rw [<-zQr];have C:=λw=>zEE f w
 have A:=zBE 4 n d t b f 4 0 0 ⟨#[]⟩ false f;generalize eqV 4 n d t b f 4 0 0 ⟨#[]⟩ false f=R at *;generalize Wv.flt f=q at *;have pA:AtL ((w.alloc (Z #[O J 4,O J n,O J d,V t,Y b,O J f] 65)).alloc (Z #[O J 4,O J 0,O J 0,V ⟨#[]⟩,Y false,O J 0] 65)) w.heap.size [O J 4,O J n,O J d,V t,Y b,O J f]:=(AtL.new0 w _ _).alloc _;have o:AtL ((w.alloc (Z #[O J 4,O J n,O J d,V t,Y b,O J f] 65)).alloc (Z #[O J 4,O J 0,O J 0,V ⟨#[]⟩,Y false,O J 0] 65)) (w.heap.size+1) [O J 4,O J 0,O J 0,V ⟨#[]⟩,Y false,O J 0]:=AtL.new1 w _ _ _;have p:=Je pA o rfl;cases q
 all_goals
  go_enter func131,ntmps131;go_upto_region 12 with fail
  go_region_held3 (VrS w.heap.size (w.heap.size+1) 4 n d t b f)
   (with_reducible first | exact p | assumption | exact Je g j rfl | exact Ja (by assumption) oM _ _ | exact Ja (Ja (by assumption) oM _ _) oM _ _ | exact Je (AtL.drew pA) (AtL.drew o) rfl)
   (first | (go_at_call 93;refine (C _).mono ?_;rintro e w1 ⟨rfl,m⟩;have g:=AtL.below m (AtL.drew pA);have j:=AtL.below m (AtL.drew o);obtain ⟨s,u,v,x,y,z⟩:=g.f6;obtain ⟨B,D,G,H,I,K⟩:=j.f6;have l:=QA (QJ (QJ (aZ _ w) _) _).drew m))
  all_goals
   go_wp2;go_ret;exact ⟨sM,(clB l)⟩
theorem zRO (n d:Int) (t:ByteArray) (b:Bool) (f:Int):((decide (t.size<=256) && Wv.prts t.data.toList) && eqV 2 n d t b f 2 0 0 t false 0)=Wv.right 2 n d t b f:=by
 unfold eqV Wv.right;rw [if_neg dM];rw [if_neg dM];rw [if_pos rfl];rw [kZ];simp [and_assoc,Jm]
theorem zQX (n d:Int) (t:ByteArray) (b:Bool) (f:Int):eqV 3 n d t b f 3 0 0 ⟨#[]⟩ b 0=Wv.right 3 n d t b f:=by
 unfold eqV Wv.right;rw [if_neg dM];rw [if_neg dM];rw [if_neg dM];rw [if_pos rfl];rw [kZ];simp [and_assoc,Jm]
theorem zKr (n d:Int) (t:ByteArray) (b:Bool) (f:Int) (w:wW) :
  CR 131 #[gX #[O J 3,O J n,O J d,V t,Y b,O J f]] w (Y (Wv.right 3 n d t b f)):=by
 rw [<-zQX];have g:=zBE 3 n d t b f 3 0 0 ⟨#[]⟩ b 0;generalize eqV 3 n d t b f 3 0 0 ⟨#[]⟩ b 0=R at *;go_enter func131,ntmps131;go_wp2;go_ret;exact ⟨rfl,clA⟩
theorem zKt (k n d:Int) (t:ByteArray) (b:Bool) (f:Int) (w:wW) (g:k<0 \/ 4<k) :
  CR 131 #[gX #[O J k,O J n,O J d,V t,Y b,O J f]] w (Y (Wv.right k n d t b f)):=by
 have E:hH (Wv.right k n d t b f=false):=by
  show _=_
  unfold Wv.right;rw [if_neg oM,if_neg oM,if_neg oM,if_neg oM,if_neg oM]
 rw [E.out];clear E;go_enter func131,ntmps131;go_wp2;go_ret;exact ⟨rfl,clA⟩
theorem zLW (n d:Int) (t:ByteArray) (b:Bool) (f:Int) (w:wW) (v:t.size<=9223372036854775807) :
  CR 131 #[gX #[O J 2,O J n,O J d,V t,Y b,O J f]] w (Y (Wv.right 2 n d t b f)):=by
 rw [<-zRO];have C:=λw=>zJl t w v
 have G:=zBE 2 n d t b f 2 0 0 t false 0;generalize eqV 2 n d t b f 2 0 0 t false 0=R at *;generalize Wv.prts t.data.toList=q at *;have pA:AtL ((w.alloc (Z #[O J 2,O J n,O J d,V t,Y b,O J f] 65)).alloc (Z #[O J 2,O J 0,O J 0,V ⟨#[]⟩,Y false,O J 0] 65)) w.heap.size [O J 2,O J n,O J d,V t,Y b,O J f]:=(AtL.new0 w _ _).alloc _;have p:AtL ((w.alloc (Z #[O J 2,O J n,O J d,V t,Y b,O J f] 65)).alloc (Z #[O J 2,O J 0,O J 0,V ⟨#[]⟩,Y false,O J 0] 65)) (w.heap.size+1) [O J 2,O J 0,O J 0,V ⟨#[]⟩,Y false,O J 0]:=AtL.new1 w _ _ _;have u:=Je pA p rfl;by_cases s:t.size<=256
 ·have o:(t.size:Int)<=256:=oM;rw [decide_eq_true s];cases q
  all_goals
   go_enter func131,ntmps131;go_upto_region 8 with fail
   go_region_held3 (VrS w.heap.size (w.heap.size+1) 2 n d t b f)
    (with_reducible first | exact u | assumption | exact Je g j rfl | exact Ja (by assumption) oM _ _ | exact Je (AtL.drew pA) (AtL.drew p) rfl)
    (first | (go_at_call 89;refine (C _).mono ?_;rintro e w1 ⟨rfl,m⟩;have g:=AtL.below m (AtL.drew pA);have j:=AtL.below m (AtL.drew p);obtain ⟨x,y,z,A,B,D⟩:=g.f6;obtain ⟨H,I,K,L,M,N⟩:=j.f6;have l:=QA (QJ (QJ (aZ _ w) _) _).drew m))
   all_goals
    go_wp2;go_ret;exact ⟨sM,(clB l)⟩
 ·have o:¬ (t.size:Int)<=256:=oM;rw [decide_eq_false s];go_enter func131,ntmps131;go_upto_region 8 with fail
  go_big_region
  all_goals
   go_wp2;go_ret;exact ⟨sM,clA⟩
end Go.Proofs.YtloponhikiddmaaGreatDoor
namespace Go.Proofs.YtloponhikiddmaaGreatDoor
