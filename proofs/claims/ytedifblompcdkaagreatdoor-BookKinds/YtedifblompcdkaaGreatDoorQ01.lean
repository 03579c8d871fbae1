/- PKit, PPlain, PWalkA, BMap, LPlain, LKit. -/
import Derived.Test.YtedifblompcdkaaGreatDoorChecked
import Derived.WalkKit
import Derived.WalkSpells
import Derived.RowKit3
import Derived.Deep.QuietTactic
import Derived.BigQuiet
import Derived.Deep.RegionWith
import Derived.Deep.RegionHeld3
import Derived.Deep.DeepCutAuto
import Derived.Deep.Light
import Derived.Deep.CutBlock
import Derived.Maps.OwnSet
import Derived.Laws.AppendOwn
import Derived.Lib.OthersKept
set_option maxHeartbeats 400000
set_option maxRecDepth 100000
set_option linter.unusedVariables false
namespace Go.Proofs.YtedifblompcdkaaGreatDoor
open Tryz
open Go.RowKit
theorem bQD {B:Nat} {a w:World} (h:Below B a w) (n:Nat):Below B a (w.drewN n):=⟨h.os,h.tape,h.output,h.size,h.block⟩
theorem bQE {w W w1:World} (h0:Below w.heap.size w W) (hb:Below W.heap.size W w1):Below w.heap.size w w1:=h0.trans (hb.mono h0.size)
theorem bQA {w W:World} (h:Below w.heap.size w W) (o:Obj):Below w.heap.size w (W.alloc o):=h.alloc h.size o
theorem clA {P:Prop} (h:P:=by with_reducible repeat (first | exact Below.refl _ _ | refine bQD ?_ _ | refine Below.setCell ?_ (by first | (simp;done) | (simp;omega) | omega) _ | refine Below.drew ?_ | refine bQE ?_ (by assumption) | refine bQA ?_ _)):P:=h
theorem clB {P Q:Prop} (h:P) (f:P->Q:=by (intro q;with_reducible repeat (first | exact q | refine bQD ?_ _ | refine Below.setCell ?_ (by first | (simp;done) | (simp;omega) | omega) _ | refine Below.drew ?_ | refine bQA ?_ _))):Q:=f h
abbrev CR (f:Nat) (x:Array Value) (w:World) (v:Value):Prop:=Calls prog f x w λe w'=>e=.returned v/\Below w.heap.size w w'
theorem lA {α:Type} (l:List α) (i:Nat) (a:α):l.toArray.setIfInBounds i a=(l.set i a).toArray:=by simp
theorem lZ {α:Type} (x a:α) (l:List α):(x::l).set 0 a=a::l:=rfl
theorem lS {α:Type} (x a:α) (l:List α) (i:Nat):(x::l).set (i+1) a=x::l.set i a:=rfl
abbrev zN0:Array Value:=#[.int .i64 0,.int .i64 0,.int .i64 0,.int .i64 0,.string ⟨#[]⟩,.bool false,.int .i64 0,.int .i64 0,.string ⟨#[]⟩,.int .i64 0,.string ⟨#[]⟩,.int .i64 0,.int .i64 0,.bool false,.bool false,.string ⟨#[]⟩,.int .i64 0,.int .i64 0,.bool false,.bool false]
abbrev zP0:Array Value:=#[.int .i64 0,.int .i64 0,.int .i64 0,.int .i64 0,.string ⟨#[]⟩,.bool false,.int .i64 0,.int .i64 0,.string ⟨#[]⟩,.int .i64 0,.string ⟨#[]⟩,.int .i64 0,.int .i64 0,.bool false,.bool false,.string ⟨#[]⟩,.int .i64 0,.int .i64 0,.bool false,.bool false,.slice none 0 0]
abbrev zR0:Array Value:=#[.string ⟨#[]⟩,.int .i64 0,.int .i64 0,.bool false,.bool false]
abbrev zV0:Array Value:=#[.int .i64 0,.int .i64 0,.int .i64 0,.string ⟨#[]⟩,.bool false,.int .i64 0]
open Go.RowKit
variable {W W' w:World} {k:Nat} {a b c d e:Value} {vs:List Value}
theorem zH9 {k:IntKind} {a b:Int} (h:a=b):Ending.returned (.int k a)=.returned (.int k b):=by rw [h]
theorem zA6 {a b:Bool} (h:a=b):Ending.returned (.bool a)=.returned (.bool b):=by rw [h]
theorem zOB {P:Program} {c:Code} {Q:Exit->Act->World->Prop} {a:Act} (h:∀ K:Act->World->Prop,(∀ a w,Q .normal a w->K a w)->c.wp P (Exit.then K Q) a w):c.wp P Q a w :=
 Code.wp_mono (λe a w hh=>by cases e <;> exact hh) (h (λa w=>Q .normal a w) (λ_ _ h=>h))
def AtL (W:World) (k:Nat) (vs:List Value):Prop :=
 k<W.heap.size/\(∀ i v,vs[i]? = some v->W.cell? ⟨k,i,none⟩=some v)/\(∀ i,i<vs.length->W.frozen? ⟨k,i,none⟩=false)
theorem AtL.lt (h:AtL W k vs):k<W.heap.size:=h.1
theorem AtL.new (W:World) (t:TypeId) {k:Nat} (hk:k=W.heap.size) (vs:List Value):AtL (W.alloc (.cells vs.toArray t)) k vs:=by
 subst hk;refine ⟨by simp [go_sem],λi v h=>?_,λi h=>?_⟩
 ·simp [go_sem,h]
 ·simp [go_sem]
theorem AtL.new0 (W:World) (t:TypeId) (vs:List Value):AtL (W.alloc (.cells vs.toArray t)) W.heap.size vs:=AtL.new W t rfl vs
theorem AtL.new1 (W:World) (o:Obj) (t:TypeId) (vs:List Value):AtL ((W.alloc o).alloc (.cells vs.toArray t)) (W.heap.size+1) vs:=AtL.new (W.alloc o) t (by simp only [World.size_alloc]) vs
theorem AtL.alloc (h:AtL W k vs) (o:Obj):AtL (W.alloc o) k vs:=by
 obtain ⟨h1,h2,h3⟩:=h;refine ⟨by simp [go_sem];omega,λi v hi=>?_,λi hi=>?_⟩
 ·rw [World.cell?_alloc_past _ _ _ h1];exact h2 i v hi
 ·rw [World.frozen?_alloc_old _ _ _ (by simp;omega)];exact h3 i hi
theorem AtL.below (hb:Below W.heap.size W W') {k:Nat} {vs:List Value} (h:AtL W k vs):AtL W' k vs:=by
 obtain ⟨h1,h2,h3⟩:=h;refine ⟨Nat.lt_of_lt_of_le h1 hb.size,λi v hi=>?_,λi hi=>?_⟩
 ·exact (hb.cell (p:=⟨k,i,none⟩) h1).trans (h2 i v hi)
 ·exact (hb.frozen (p:=⟨k,i,none⟩) h1).trans (h3 i hi)
theorem AtL.drew (h:AtL W k vs):AtL W.drew k vs:=AtL.below (Below.refl _ _).drew h
theorem AtL.far (h:AtL W k vs) {j:Nat} (hj:j ≠ k) (o:Nat) (v:Value):AtL (W.setCell ⟨j,o,none⟩ v) k vs:=by
 obtain ⟨h1,h2,h3⟩:=h;refine ⟨by simpa [go_sem] using h1,λi u hi=>?_,λi hi=>?_⟩
 ·rw [World.cell?_setCell_far _ _ _ _ (by simpa using hj)];exact h2 i u hi
 ·rw [World.frozen?_setCell];exact h3 i hi
theorem AtL.set (h:AtL W k vs) (o:Nat) (u:Value):AtL (W.setCell ⟨k,o,none⟩ u) k (vs.set o u):=by
 obtain ⟨h1,h2,h3⟩:=h;refine ⟨by simpa [go_sem] using h1,λi v hi=>?_,λi hi=>?_⟩
 ·by_cases e:o=i
  ·subst e;by_cases hl:o<vs.length
   ·rw [List.getElem?_set_self hl] at hi;obtain rfl:=Option.some.inj hi;exact World.cell?_setCell_same _ _ _ (h2 o vs[o] (List.getElem?_eq_getElem hl))
   ·rw [List.getElem?_eq_none (by simp;omega)] at hi;cases hi
  ·rw [List.getElem?_set_ne e] at hi;rw [World.cell?_setCell_other _ _ _ _ (by first | (simp;done) | (simp;omega))];exact h2 i v hi
 ·rw [World.frozen?_setCell];exact h3 i (by simpa using hi)
theorem AtL.two (h:AtL W k [a,b]) :
  W.cell? ⟨k,0,none⟩=some a/\W.cell? ⟨k,1,none⟩=some b/\W.frozen? ⟨k,0,none⟩=false/\W.frozen? ⟨k,1,none⟩=false :=
 ⟨h.2.1 0 a rfl,h.2.1 1 b rfl,h.2.2 0 (by simp),h.2.2 1 (by simp)⟩
theorem AtL.three (h:AtL W k [a,b,c]) :
  W.cell? ⟨k,0,none⟩=some a/\W.cell? ⟨k,1,none⟩=some b/\W.cell? ⟨k,2,none⟩=some c/\W.frozen? ⟨k,0,none⟩=false/\W.frozen? ⟨k,1,none⟩=false/\W.frozen? ⟨k,2,none⟩=false :=
 ⟨h.2.1 0 a rfl,h.2.1 1 b rfl,h.2.1 2 c rfl,h.2.2 0 (by simp),h.2.2 1 (by simp),h.2.2 2 (by simp)⟩
theorem AtL.five (h:AtL W k [a,b,c,d,e]) :
  W.cell? ⟨k,0,none⟩=some a/\W.cell? ⟨k,1,none⟩=some b/\W.cell? ⟨k,2,none⟩=some c/\W.cell? ⟨k,3,none⟩=some d/\W.cell? ⟨k,4,none⟩=some e /\
  W.frozen? ⟨k,0,none⟩=false/\W.frozen? ⟨k,1,none⟩=false/\W.frozen? ⟨k,2,none⟩=false/\W.frozen? ⟨k,3,none⟩=false/\W.frozen? ⟨k,4,none⟩=false :=
 ⟨h.2.1 0 a rfl,h.2.1 1 b rfl,h.2.1 2 c rfl,h.2.1 3 d rfl,h.2.1 4 e rfl,h.2.2 0 (by simp),h.2.2 1 (by simp),h.2.2 2 (by simp),h.2.2 3 (by simp),h.2.2 4 (by simp)⟩
abbrev zPY (W:World) (k:Nat) (a b c d e:Value):Prop :=
 W.cell? ⟨k,0,none⟩=some a/\W.cell? ⟨k,1,none⟩=some b/\W.cell? ⟨k,2,none⟩=some c/\W.cell? ⟨k,3,none⟩=some d/\W.cell? ⟨k,4,none⟩=some e
theorem zDg (hb:Below W.heap.size W W') {k:Nat} {a b c d e:Value} (h:zPY W k a b c d e):zPY W' k a b c d e:=by
 have hk:=World.block_lt_of_cell? W ⟨k,0,none⟩ h.1;obtain ⟨h0,h1,h2,h3,h4⟩:=h;exact ⟨(hb.cell (p:=⟨k,0,none⟩) hk).trans h0,(hb.cell (p:=⟨k,1,none⟩) hk).trans h1,(hb.cell (p:=⟨k,2,none⟩) hk).trans h2,(hb.cell (p:=⟨k,3,none⟩) hk).trans h3,(hb.cell (p:=⟨k,4,none⟩) hk).trans h4⟩
theorem zKI (h:zPY W k a b c d e):zPY W.drew k a b c d e:=zDg (Below.refl _ _).drew h
abbrev zAt (W:World) (k:Nat) (a b c:Value):Prop :=
 W.cell? ⟨k,0,none⟩=some a/\W.cell? ⟨k,1,none⟩=some b/\W.cell? ⟨k,2,none⟩=some c
theorem zAG (hb:Below W.heap.size W W') {k:Nat} {a b c:Value} (h:zAt W k a b c):zAt W' k a b c:=by
 have hk:=World.block_lt_of_cell? W ⟨k,0,none⟩ h.1;obtain ⟨h0,h1,h2⟩:=h;exact ⟨(hb.cell (p:=⟨k,0,none⟩) hk).trans h0,(hb.cell (p:=⟨k,1,none⟩) hk).trans h1,(hb.cell (p:=⟨k,2,none⟩) hk).trans h2⟩
theorem AtL.f5 (h:AtL W k [a,b,c,d,e]):zPY W k a b c d e:=⟨h.2.1 0 a rfl,h.2.1 1 b rfl,h.2.1 2 c rfl,h.2.1 3 d rfl,h.2.1 4 e rfl⟩
theorem AtL.f3 (h:AtL W k [a,b,c]):zAt W k a b c:=⟨h.2.1 0 a rfl,h.2.1 1 b rfl,h.2.1 2 c rfl⟩
theorem AtL.put3 (h:AtL W k [a,b,c]) (x y z:Value) :
  AtL (((W.setCell ⟨k,0,none⟩ x).setCell ⟨k,1,none⟩ y).setCell ⟨k,2,none⟩ z) k [x,y,z]:=((h.set 0 x).set 1 y).set 2 z
theorem AtL.far3 (h:AtL W k vs) {j:Nat} (hj:j ≠ k) (x y z:Value) :
  AtL (((W.setCell ⟨j,0,none⟩ x).setCell ⟨j,1,none⟩ y).setCell ⟨j,2,none⟩ z) k vs:=((h.far hj 0 x).far hj 1 y).far hj 2 z
theorem AtL.put5 (h:AtL W k [a,b,c,d,e]) (x y z u v:Value) :
  AtL (((((W.setCell ⟨k,0,none⟩ x).setCell ⟨k,1,none⟩ y).setCell ⟨k,2,none⟩ z).setCell ⟨k,3,none⟩ u).setCell ⟨k,4,none⟩ v) k [x,y,z,u,v]:=((((h.set 0 x).set 1 y).set 2 z).set 3 u).set 4 v
theorem zBb {n:Nat} (hb:Below n w W) (hk:n<=k) (x y z u v:Value) :
  Below n w (((((W.setCell ⟨k,0,none⟩ x).setCell ⟨k,1,none⟩ y).setCell ⟨k,2,none⟩ z).setCell ⟨k,3,none⟩ u).setCell ⟨k,4,none⟩ v) :=
 ((((hb.setCell (p:=⟨k,0,none⟩) hk x).setCell (p:=⟨k,1,none⟩) hk y).setCell (p:=⟨k,2,none⟩) hk z).setCell (p:=⟨k,3,none⟩) hk u).setCell (p:=⟨k,4,none⟩) hk v
theorem zAC (hb:Below W.heap.size W W') {k o:Nat} {v:Value} (h:W.cell? ⟨k,o,none⟩=some v):W'.cell? ⟨k,o,none⟩=some v :=
 (hb.cell (p:=⟨k,o,none⟩) (World.block_lt_of_cell? W ⟨k,o,none⟩ h)).trans h
end Go.Proofs.YtedifblompcdkaaGreatDoor
namespace Wpl
structure Cl where
 s:Int
 r:Int
 c:Int
structure Ar where
 s:Int
 t:Int
 l:Int
 b:Int
 r:Int
def inB (n m:Int):Bool:=decide (0<=n) && decide (n<m)
theorem inB_iff {n m:Int}:inB n m=true ↔ 0<=n/\n<m:=by simp [inB]
def rightC (s r c:Int):Bool:=inB s 16 && inB r 65536 && inB c 256
theorem rightC_iff {s r c:Int}:rightC s r c=true ↔ 0<=s/\s<16/\0<=r/\r<65536/\0<=c/\c<256:=by simp [rightC,inB];omega
def rightA (s t l b r:Int):Bool:=decide (0<=s/\s<16/\0<=t/\t<=b/\b<65536/\0<=l/\l<=r/\r<256)
def lacks (q:Int) (c:Cl):Bool:=decide (c.s ≠ q) || !rightC c.s c.r c.c
def grow (a:Ar) (c:Cl):Ar:=⟨a.s,min a.t c.r,min a.l c.c,max a.b c.r,max a.r c.c⟩
def oneA (c:Cl):Ar:=⟨c.s,c.r,c.c,c.r,c.c⟩
def nullA:Ar:=⟨0,0,0,0,0⟩
def anyN (q:Int) (F:Nat->Cl):Nat->Bool
 | 0=>false
 | n+1=>anyN q F n || lacks q (F n)
theorem anyN_hit {q:Int} {F:Nat->Cl} {n j:Nat} (hj:j<n) (h:lacks q (F j)=true):anyN q F n=true:=by
 induction n with
 | zero=>omega
 | succ n ih =>
  by_cases e:j=n
  ·subst e;simp [anyN,h]
  ·simp [anyN,ih (by omega)]
theorem anyN_miss {q:Int} {F:Nat->Cl} {n:Nat} (h:∀ j,j<n->lacks q (F j)=false):anyN q F n=false:=by
 induction n with
 | zero=>rfl
 | succ n ih=>simp [anyN,ih (λj hj=>h j (by omega)),h n (by omega)]
def hullU (F:Nat->Cl):Nat->Ar
 | 0=>oneA (F 0)
 | j+1=>grow (hullU F j) (F (j+1))
def hullOk (F:Nat->Cl) (n:Nat):Bool:=decide (n ≠ 0) && !anyN (F 0).s F n
def hullV (F:Nat->Cl) (n:Nat):Ar:=if hullOk F n then hullU F (n - 1) else nullA
def before (s r c s' r' c':Int):Bool:=if s ≠ s' then decide (s<s') else if r ≠ r' then decide (r<r') else decide (c<c')
def zQf (s t l b r:Int) (i:Nat):Cl:=if i=0 then ⟨s,t,l⟩ else ⟨s,b,r⟩
def isA (a:Ar) (s t l b r:Int):Bool:=decide (a.s=s/\a.t=t/\a.l=l/\a.b=b/\a.r=r)
end Wpl
namespace Go.Proofs.YtedifblompcdkaaGreatDoor
open Tryz
open Go.RowKit
variable {w W:World} {b ck:Nat} {es:Array MapEntry} {P:Program} {E:List MapEntry}
theorem zLC {B:Nat} {a:World} (h:Below B a w) (n:Nat):Below B a (w.drewN n):=⟨h.os,h.tape,h.output,h.size,h.block⟩
theorem zC1 {w1:World} (h0:Below w.heap.size w W) (hb:Below W.heap.size W w1):Below w.heap.size w w1:=h0.trans (hb.mono h0.size)
theorem zCt (h:Below w.heap.size w W) (o:Obj):Below w.heap.size w (W.alloc o):=h.alloc h.size o
theorem zCD (n m:Int) (w:World) :
  Calls prog 93 #[.int .i64 n,.int .i64 m] w λe w'=>e=.returned (.bool (Wpl.inB n m))/\w=w':=by
 unfold Wpl.inB;by_cases h:0<=n
 ·rw [decide_eq_true h];go_enter func93,ntmps93;go_wp2;go_ret;exact ⟨by simp,rfl⟩
 ·rw [decide_eq_false h];go_enter func93,ntmps93;go_wp2;go_ret;exact ⟨by simp,rfl⟩
theorem zAr (s r c:Int) (w:World) :
  CR 71 #[.agg #[.int .i64 s,.int .i64 r,.int .i64 c]] w (.bool (Wpl.rightC s r c)):=by
 have B1:=λw=>zCD s 16 w
 have B2:=λw=>zCD r 65536 w
 have B3:=λw=>zCD c 256 w
 unfold Wpl.rightC;generalize Wpl.inB s 16=b1 at *;generalize Wpl.inB r 65536=b2 at *;generalize Wpl.inB c 256=b3 at *;cases b1
 ·go_enter func71,ntmps71;go_wp2_with fail
  refine (B1 _).mono ?_;rintro e w1 ⟨rfl,rfl⟩;go_wp2;go_ret;exact ⟨rfl,clA⟩
 cases b2
 ·go_enter func71,ntmps71;go_wp2_with fail
  refine (B1 _).mono ?_;rintro e w1 ⟨rfl,rfl⟩;go_wp2_with fail
  refine (B2 _).mono ?_;rintro e w1 ⟨rfl,rfl⟩;go_wp2;go_ret;exact ⟨rfl,clA⟩
 ·go_enter func71,ntmps71;go_wp2_with fail
  refine (B1 _).mono ?_;rintro e w1 ⟨rfl,rfl⟩;go_wp2_with fail
  refine (B2 _).mono ?_;rintro e w1 ⟨rfl,rfl⟩;go_wp2_with fail
  refine (B3 _).mono ?_;rintro e w1 ⟨rfl,rfl⟩;go_wp2;go_ret;exact ⟨rfl,clA⟩
theorem zKx (q s r c:Int) (w:World) :
  CR 117 #[.int .i64 q,.agg #[.int .i64 s,.int .i64 r,.int .i64 c]] w (.bool (Wpl.lacks q ⟨s,r,c⟩)):=by
 have R:=λw=>zAr s r c w
 unfold Wpl.lacks;show Calls _ _ _ _ λe w'=>e=.returned (.bool (decide (s ≠ q) || !Wpl.rightC s r c))/\_
 generalize Wpl.rightC s r c=b at *;by_cases h:s=q
 ·subst h;go_enter func117,ntmps117;go_wp2_with fail
  refine (R _).mono ?_;rintro e w1 ⟨rfl,hb⟩;go_wp2;go_ret;exact ⟨by simp,clA⟩
 ·rw [decide_eq_true (show s ≠ q from h)];go_enter func117,ntmps117;go_wp2;go_ret;exact ⟨rfl,clA⟩
open Go.ChangeMaps (setBlock heap_setBlock_same heap_setBlock_other)
open Go.ChangeShapes Go.WideShapes Go.MapKept
structure Ct where
 t:ByteArray
 a:Option Addr
 n:Nat
 k:Nat
abbrev Ct.v (c:Ct):Value:=.slice c.a c.n c.k
abbrev ctV (c:Ct):Value:=.agg #[.string c.t,.slice c.a c.n c.k]
abbrev ct0:Ct:=⟨⟨#[]⟩,none,0,0⟩
def StB (E:List MapEntry) (ck:Nat):Prop:=(∀ x ∈ E,x.born<ck)/\(E.map (·.born)).Nodup
theorem StB.push (h:StB E ck) (k v:Value):StB (E++[⟨k,v,ck⟩]) (ck+1):=by
 refine ⟨λx hx=>?_,?_⟩
 ·rcases List.mem_append.1 hx with q | q
  ·have:=h.1 x q;omega
  ·simp at q;rw [q];exact Nat.lt_succ_self _
 ·rw [List.map_append,List.nodup_append];refine ⟨h.2,by simp,λa ha b hb e=>?_⟩;obtain ⟨x,hx,rfl⟩:=List.mem_map.1 ha;simp at hb;have:=h.1 x hx;omega
theorem StB.mod (h:StB E ck) (i:Nat) (k v:Value):StB (E.modify i λe=>{e with key:=k,val:=v}) ck:=by
 have e1:(E.modify i λe=>{e with key:=k,val:=v}).map (·.born)=E.map (·.born):=by
  refine List.ext_getElem? (λj=>?_);rw [List.getElem?_map,List.getElem?_map,List.getElem?_modify];cases E[j]? with
  | none=>rfl
  | some x=>by_cases c:i=j <;> simp [c]
 refine ⟨λx hx=>?_,by rw [e1];exact h.2⟩;have:x.born ∈ (E.modify i λe=>{e with key:=k,val:=v}).map (·.born):=List.mem_map.2 ⟨x,hx,rfl⟩;rw [e1] at this;obtain ⟨y,hy,e⟩:=List.mem_map.1 this;rw [<-e];exact h.1 y hy
def zQV (r:Option (Nat × Value)) (es:Array MapEntry):Array MapEntry :=
 match r with
 | some q=>es.eraseIdxIfInBounds q.1
 | none=>es
theorem zGl (r:Option (Nat × Value)) (es:Array MapEntry):(zQV r es).toList.Sublist es.toList:=by
 cases r with
 | none=>exact List.Sublist.refl _
 | some q =>
  show (es.eraseIdxIfInBounds q.1).toList.Sublist _
  unfold Array.eraseIdxIfInBounds;by_cases h:q.1<es.size
  ·rw [dif_pos h,Array.toList_eraseIdx];exact List.eraseIdx_sublist _ _
  ·rw [dif_neg h];exact List.Sublist.refl _
theorem StB.ers (h:StB es.toList ck) (r:Option (Nat × Value)):StB (zQV r es).toList ck :=
 ⟨λx hx=>h.1 x ((zGl r es).subset hx),((zGl r es).map _).nodup h.2⟩
abbrev ceV (x:Wpl.Cl):Value:=.agg #[.int .i64 x.s,.int .i64 x.r,.int .i64 x.c]
def eqB (x y:Wpl.Cl):Bool:=decide (x.s=y.s/\x.r=y.r/\x.c=y.c)
theorem eqB_iff {x y:Wpl.Cl}:eqB x y=true ↔ x=y:=by
 unfold eqB;rw [decide_eq_true_eq];constructor
 ·intro h;cases x
  cases y
  simp at h;simp [h]
 ·rintro rfl;simp
theorem zLy (x y:Wpl.Cl):eqB x y=eqB y x:=by
 rw [Bool.eq_iff_iff,eqB_iff,eqB_iff];exact ⟨λh=>h.symm,λh=>h.symm⟩
theorem zOA (em:Bool) (x:Wpl.Cl) (w:World):(Instr.checkKey em 10000 24 (ceV x)).run prog w=.ok () w:=by kernel_rfl
theorem zN8 (x y:Wpl.Cl) (w:World):(Op.equal 24 (ceV x) (ceV y)).run prog w=.ok (eqB x y) w:=by
 show (Op.equalIn (9998+2) 24 _ _).run _ _=_
 unfold eqB;by_cases h1:x.s=y.s
 ·by_cases h2:x.r=y.r
  ·by_cases h3:x.c=y.c
   ·simp [go_sem,h1,h2,h3]
   ·simp [go_sem,h1,h2,h3]
  ·simp [go_sem,h1,h2]
 ·simp [go_sem,h1]
def fnB {α:Type} (x:Wpl.Cl):List (Wpl.Cl × α)->Nat->Option (Nat × α)
 | [],_=>none
 | p::r,i=>if eqB p.1 x then some (i,p.2) else fnB x r (i+1)
def enB (E:List MapEntry) (F:List (Wpl.Cl × Ct)):Prop:=E.map (λe=>(e.key,e.val))=F.map (λp=>(ceV p.1,ctV p.2))
theorem enB.cons {e:MapEntry} {F:List (Wpl.Cl × Ct)} (h:enB (e::E) F):∃ p r,F=p::r/\e.key=ceV p.1/\e.val=ctV p.2/\enB E r:=by
 cases F with
 | nil=>simp [enB] at h
 | cons p r =>
  simp only [enB,List.map_cons,List.cons.injEq,Prod.mk.injEq] at h;exact ⟨p,r,rfl,h.1.1,h.1.2,h.2⟩
theorem zQB (x:Wpl.Cl) (w:World):∀ (E:List MapEntry) (F:List (Wpl.Cl × Ct)) (i:Nat),enB E F->(Instr.findAsking 24 (ceV x) E i).run prog w=.ok ((fnB x F i).map λq=>(q.1,ctV q.2)) w
 | [],F,i,h=>by
  have:F=[]:=by
   cases F with
   | nil=>rfl
   | cons p r=>simp [enB] at h
  subst this;rfl
 | e::E,F,i,h=>by
  obtain ⟨p,r,rfl,h1,h2,h3⟩:=h.cons;have hr:=zQB x w E r (i+1) h3;have ee:=zN8 x p.1 w;rw [zLy] at ee;unfold fnB;cases hq:eqB p.1 x with
  | true =>
   rw [hq] at ee;simp [Instr.findAsking,h1,h2,ee,Result.andThen]
  | false =>
   rw [hq] at ee;simp [Instr.findAsking,h1,ee,Result.andThen,hr]
theorem zQ6 (x:Wpl.Cl) {E:List MapEntry} {F:List (Wpl.Cl × Ct)} (h:enB E F) (w:World):(Instr.findKey 24 (ceV x) E).run prog w=.ok ((fnB x F 0).map λq=>(q.1,ctV q.2)) w:=by
 have hf:=zQB x w E F 0 h;cases E with
 | nil =>
  have:F=[]:=by
   cases F with
   | nil=>rfl
   | cons p r=>simp [enB] at h
  subst this;simp [Instr.findKey,go_sem,Instr.findNow,fnB]
 | cons e r =>
  obtain ⟨p,r',rfl,h1,h2,h3⟩:=h.cons;have hs:∀ d:TypeDesc,Instr.sameNow d (ceV x) e.key=none:=λd=>by rw [h1];cases d <;> rfl
  simp [Instr.findKey,go_sem,Instr.findNow,hs];simpa using hf
def MB (w:World) (b:Nat) (F:List (Wpl.Cl × Ct)):Prop:=∃ (es:Array MapEntry) (ck:Nat),w.heap[b]? = some (.map es ck)/\enB es.toList F/\StB es.toList ck
theorem MB.lt {F:List (Wpl.Cl × Ct)} (h:MB w b F):b<w.heap.size:=by
 obtain ⟨es,ck,h1,_⟩:=h;exact (Array.getElem?_eq_some_iff.1 h1).1
theorem zLI:prog.underlying 55=some (.map 24 61):=by kernel_rfl
theorem zK9 {t k e:TypeId} (ht:P.underlying t=some (.map k e)) (hb:w.heap[b]? = some (.map es ck)) {key v:Value} {j:Nat}
  (hc:(Instr.checkKey es.isEmpty 10000 k key).run P w=.ok () w) (hf:(Instr.findKey k key es.toList).run P w=.ok (some (j,v)) w) :
  (Instr.lookup t (.map (some b)) key true).run P w=.ok (.tuple #[v,.bool true]) w:=by
 simp [Instr.lookup,run_underlying ht,MapKept.run_getObj_map hb,hc,hf,Result.andThen]
theorem zHx {t k e:TypeId} (ht:P.underlying t=some (.map k e)) (hb:w.heap[b]? = some (.map es ck)) {key z:Value}
  (hc:(Instr.checkKey es.isEmpty 10000 k key).run P w=.ok () w) (hf:(Instr.findKey k key es.toList).run P w=.ok none w) (hz:(zeroValue e).run P w=.ok z w) :
  (Instr.lookup t (.map (some b)) key true).run P w=.ok (.tuple #[z,.bool false]) w:=by
 simp [Instr.lookup,run_underlying ht,MapKept.run_getObj_map hb,hc,hf,hz,Result.andThen]
def gtC (x:Wpl.Cl) (F:List (Wpl.Cl × Ct)):Ct:=((fnB x F 0).map (λq=>q.2)).getD ct0
def gtH (x:Wpl.Cl) (F:List (Wpl.Cl × Ct)):Bool:=(fnB x F 0).isSome
theorem zRD {F:List (Wpl.Cl × Ct)} (h:MB w b F) (x:Wpl.Cl):(Instr.lookup 55 (.map (some b)) (ceV x) true).run prog w=.ok (.tuple #[ctV (gtC x F),.bool (gtH x F)]) w:=by
 obtain ⟨es,ck,h1,h2,_⟩:=h;have hk:=zQ6 x h2 w;unfold gtC gtH;cases hq:fnB x F 0 with
 | none =>
  rw [hq] at hk;exact zHx zLI h1 (zOA _ _ _) hk (by kernel_rfl)
 | some q =>
  rw [hq] at hk;exact zK9 zLI h1 (zOA _ _ _) hk
theorem zIC {t k e:TypeId} (ht:P.underlying t=some (.map k e)) (hb:w.heap[b]? = some (.map es ck)) {key v:Value} {j:Nat}
  (hc:(Instr.checkKey es.isEmpty 10000 k key).run P w=.ok () w) (hf:(Instr.findKey k key es.toList).run P w=.ok (some (j,v)) w) :
  (Instr.lookup t (.map (some b)) key false).run P w=.ok v w:=by
 simp [Instr.lookup,run_underlying ht,MapKept.run_getObj_map hb,hc,hf,Result.andThen]
theorem zFa {t k e:TypeId} (ht:P.underlying t=some (.map k e)) (hb:w.heap[b]? = some (.map es ck)) {key z:Value}
  (hc:(Instr.checkKey es.isEmpty 10000 k key).run P w=.ok () w) (hf:(Instr.findKey k key es.toList).run P w=.ok none w) (hz:(zeroValue e).run P w=.ok z w) :
  (Instr.lookup t (.map (some b)) key false).run P w=.ok z w:=by
 simp [Instr.lookup,run_underlying ht,MapKept.run_getObj_map hb,hc,hf,hz,Result.andThen]
theorem zEi {F:List (Wpl.Cl × Ct)} (h:MB w b F) (x:Wpl.Cl):(Instr.lookup 55 (.map (some b)) (ceV x) false).run prog w=.ok (ctV (gtC x F)) w:=by
 obtain ⟨es,ck,h1,h2,_⟩:=h;have hk:=zQ6 x h2 w;unfold gtC;cases hq:fnB x F 0 with
 | none =>
  rw [hq] at hk;exact zFa zLI h1 (zOA _ _ _) hk (by kernel_rfl)
 | some q =>
  rw [hq] at hk;exact zIC zLI h1 (zOA _ _ _) hk
def zF3 {α:Type} (x:Wpl.Cl) (v:α) (F:List (Wpl.Cl × α)):List (Wpl.Cl × α) :=
 match fnB x F 0 with
 | some q=>F.set q.1 (x,v)
 | none=>F++[(x,v)]
def zHh {α:Type} (x:Wpl.Cl) (F:List (Wpl.Cl × α)):List (Wpl.Cl × α) :=
 match fnB x F 0 with
 | some q=>F.eraseIdx q.1
 | none=>F
theorem zDB {α:Type} (x:Wpl.Cl):∀ (F:List (Wpl.Cl × α)) (i:Nat) (q:Nat × α),fnB x F i=some q->∃ j,q.1=i+j/\F[j]? = some (x,q.2)
 | [],i,q,h=>by simp [fnB] at h
 | p::r,i,q,h=>by
  unfold fnB at h;cases hq:eqB p.1 x with
  | true =>
   rw [hq] at h;simp only [if_true,Option.some.injEq] at h;subst h;refine ⟨0,rfl,?_⟩;rw [<-eqB_iff.1 hq];rfl
  | false =>
   rw [hq] at h;obtain ⟨j,h1,h2⟩:=zDB x r (i+1) q (by simpa using h);exact ⟨j+1,by omega,by simpa using h2⟩
theorem zCm {α:Type} (x:Wpl.Cl):∀ (F:List (Wpl.Cl × α)) (i:Nat),fnB x F i=none->∀ p ∈ F,p.1 ≠ x
 | [],i,_,p,hp=>by cases hp
 | p::r,i,h,y,hy=>by
  unfold fnB at h;cases hq:eqB p.1 x with
  | true =>
   rw [hq] at h;simp at h
  | false =>
   rw [hq] at h;rcases List.mem_cons.1 hy with e | e
   ·subst e;intro z;rw [eqB_iff.2 z] at hq;cases hq
   ·exact zCm x r (i+1) (by simpa using h) y e
def KB {α:Type} (F:List (Wpl.Cl × α)):Prop:=(F.map (λp=>p.1)).Nodup
theorem KB.one {α:Type} {F:List (Wpl.Cl × α)} (h:KB F) {x:Wpl.Cl} {a b:α} (ha:(x,a) ∈ F) (hb:(x,b) ∈ F):a=b:=by
 unfold KB at h;induction F with
 | nil=>cases ha
 | cons p r ih =>
  rw [List.map_cons,List.nodup_cons] at h;rcases List.mem_cons.1 ha with e | e
  ·rcases List.mem_cons.1 hb with e2 | e2
   ·rw [<-e] at e2;simpa using e2.symm
   ·exact absurd (List.mem_map.2 ⟨_,e2,rfl⟩) (by rw [<-e] at h;exact h.1)
  ·rcases List.mem_cons.1 hb with e2 | e2
   ·exact absurd (List.mem_map.2 ⟨_,e,rfl⟩) (by rw [<-e2] at h;exact h.1)
   ·exact ih h.2 e e2
theorem zCV (hb:w.heap[b]? = some (.map es ck)) (o:Obj):w.grownBy (setBlock w b o) (some b) :=
 ⟨rfl,rfl,rfl,by simp [setBlock],λi _ hi=>heap_setBlock_other hb _ (λe=>hi (by rw [e]))⟩
theorem zLZ {t k e:TypeId} (ht:P.underlying t=some (.map k e)) (hb:w.heap[b]? = some (.map es ck)) {key:Value} (val:Value)
  (hc:(Instr.checkKey false 10000 k key).run P w=.ok () w) (hf:(Instr.findKey k key es.toList).run P w=.ok none w) :
  (Instr.mapUpdate t (.map (some b)) key val).run P w=.ok () (setBlock w b (.map (es.push ⟨key,val,ck⟩) (ck+1))):=by
 simp [Instr.mapUpdate,run_underlying ht,MapKept.run_getObj_map hb,hc,hf,MapKept.run_setObj_map _ hb,Result.andThen,setBlock]
theorem zLO {t k e:TypeId} (ht:P.underlying t=some (.map k e)) (hb:w.heap[b]? = some (.map es ck)) {key:Value} (val:Value) {j:Nat} {v:Value}
  (hc:(Instr.checkKey false 10000 k key).run P w=.ok () w) (hf:(Instr.findKey k key es.toList).run P w=.ok (some (j,v)) w) (hk:(es[j]?).map (·.key)=some key) (hs:Instr.sameBits 10000 key key=true) :
  (Instr.mapUpdate t (.map (some b)) key val).run P w=.ok () (setBlock w b (.map (es.modify j λe=>{e with key:=key,val:=val}) ck)):=by
 simp [Instr.mapUpdate,Instr.keyThatStays,run_underlying ht,MapKept.run_getObj_map hb,hc,hf,hk,hs,MapKept.run_setObj_map _ hb,Result.andThen,setBlock]
theorem zRK (x:Wpl.Cl):Instr.sameBits 10000 (ceV x) (ceV x)=true:=by
 show Instr.sameBits (9998+1+1) _ _=true
 simp [Instr.sameBits]
theorem enB.at {F:List (Wpl.Cl × Ct)} (h:enB E F) {i:Nat} {p:Wpl.Cl × Ct} (hp:F[i]? = some p):∃ e,E[i]? = some e/\e.key=ceV p.1/\e.val=ctV p.2:=by
 have:(E.map (λe=>(e.key,e.val)))[i]? = some (ceV p.1,ctV p.2):=by
  rw [h,List.getElem?_map,hp];rfl
 rw [List.getElem?_map] at this;obtain ⟨e,h1,h2⟩:=Option.map_eq_some_iff.1 this;simp only [Prod.mk.injEq] at h2;exact ⟨e,h1,h2.1,h2.2⟩
theorem zR2 {F:List (Wpl.Cl × Ct)} (h:MB w b F) (x:Wpl.Cl) (v:Ct):∃ w',(Instr.mapUpdate 55 (.map (some b)) (ceV x) (ctV v)).run prog w=.ok () w'/\MB w' b (zF3 x v F)/\w.grownBy w' (some b):=by
 obtain ⟨es,ck,h1,h2,hst⟩:=h;have hk:=zQ6 x h2 w;unfold zF3;cases hq:fnB x F 0 with
 | none =>
  rw [hq] at hk;refine ⟨_,zLZ zLI h1 _ (zOA _ _ _) hk,⟨es.push ⟨ceV x,ctV v,ck⟩,ck+1,heap_setBlock_same h1 _,?_,by rw [Array.toList_push];exact hst.push _ _⟩,zCV h1 _⟩;unfold enB at *;rw [Array.toList_push,List.map_append,h2,List.map_append];rfl
 | some q =>
  rw [hq] at hk;obtain ⟨j,e1,e2⟩:=zDB x F 0 q hq;have e3:q.1=j:=by omega
  obtain ⟨e,g1,g2,g3⟩:=h2.at e2;have hkey:(es[q.1]?).map (·.key)=some (ceV x):=by
   rw [e3,<-Array.getElem?_toList,g1];simp [g2]
  refine ⟨_,zLO zLI h1 _ (zOA _ _ _) hk hkey (zRK x),⟨_,ck,heap_setBlock_same h1 _,?_,by rw [Array.toList_modify];exact hst.mod _ _ _⟩,zCV h1 _⟩;unfold enB at *;rw [Array.toList_modify];refine List.ext_getElem? (λi=>?_);have h3:=congrArg (λl=>l[i]?) h2;simp only [List.getElem?_map] at h3;rw [List.getElem?_map,List.getElem?_map,List.getElem?_modify,List.getElem?_set];by_cases c:q.1=i
  ·subst c;have hlt:q.1<F.length:=by
    rw [e3];exact (List.getElem?_eq_some_iff.1 e2).1
   rw [if_pos rfl,if_pos hlt,e3,g1];simp
  ·rw [if_neg c];simp only [c,if_false];simpa using h3
theorem zGE {α β:Type} (f:α->β) (l:List α) (i:Nat):(l.eraseIdx i).map f=(l.map f).eraseIdx i:=by simp [List.eraseIdx_eq_take_drop_succ]
theorem zM1 {t k e ty:TypeId} (ht:P.underlying t=some (.map k e)) (hb:w.heap[b]? = some (.map es ck)) {key:Value} {r:Option (Nat × Value)}
  (hc:(Instr.checkKey es.isEmpty 10000 k key).run P w=.ok () w) (hf:(Instr.findKey k key es.toList).run P w=.ok r w) :
  (Builtin.delete_ #[t,k] ty #[.map (some b),key]).run P w=.ok (.tuple #[]) (setBlock w b (.map (zQV r es) ck)):=by
 cases r with
 | none=>simp [Builtin.delete_,run_underlying ht,MapKept.run_getObj_map hb,hc,hf,MapKept.run_setObj_map _ hb,Result.andThen,setBlock,zQV]
 | some q=>simp [Builtin.delete_,run_underlying ht,MapKept.run_getObj_map hb,hc,hf,MapKept.run_setObj_map _ hb,Result.andThen,setBlock,zQV]
theorem zRG {F:List (Wpl.Cl × Ct)} (h:MB w b F) (x:Wpl.Cl) (ty:TypeId):∃ w',(Builtin.delete_ #[55,24] ty #[.map (some b),ceV x]).run prog w=.ok (.tuple #[]) w'/\MB w' b (zHh x F)/\w.grownBy w' (some b):=by
 obtain ⟨es,ck,h1,h2,hst⟩:=h;have hk:=zQ6 x h2 w;refine ⟨_,zM1 zLI h1 (zOA _ _ _) hk,⟨_,ck,heap_setBlock_same h1 _,?_,hst.ers _⟩,zCV h1 _⟩;unfold zHh;cases hq:fnB x F 0 with
 | none=>exact h2
 | some q =>
  obtain ⟨j,e1,e2⟩:=zDB x F 0 q hq;have e3:q.1=j:=by omega
  have hlt:q.1<es.size:=by
   obtain ⟨e,g1,_⟩:=h2.at e2;rw [e3];simpa using (List.getElem?_eq_some_iff.1 g1).1
  show enB (es.eraseIdxIfInBounds q.1).toList (F.eraseIdx q.1)
  unfold enB at *;unfold Array.eraseIdxIfInBounds;rw [dif_pos hlt,Array.toList_eraseIdx,zGE,h2,<-zGE]
theorem KB.put {α:Type} {F:List (Wpl.Cl × α)} (h:KB F) (x:Wpl.Cl) (v:α):KB (zF3 x v F)/\∀ y a,(y,a) ∈ zF3 x v F ↔ (y=x/\a=v) \/ (y ≠ x/\(y,a) ∈ F):=by
 unfold zF3;cases hq:fnB x F 0 with
 | none =>
  have hn:=zCm x F 0 hq;refine ⟨?_,λy a=>?_⟩
  ·show (List.map _ (F++[(x,v)])).Nodup
   rw [List.map_append,List.nodup_append];refine ⟨h,by simp,λa ha b hb e=>?_⟩;obtain ⟨p,hp,rfl⟩:=List.mem_map.1 ha;simp at hb;exact hn p hp (by rw [e,hb])
  ·simp only [List.mem_append,List.mem_singleton,Prod.mk.injEq];constructor
   ·rintro (q | q)
    ·exact Or.inr ⟨hn _ q,q⟩
    ·exact Or.inl q
   ·rintro (q | q)
    ·exact Or.inr q
    ·exact Or.inl q.2
 | some q =>
  obtain ⟨j,e1,e2⟩:=zDB x F 0 q hq;have e3:q.1=j:=by omega
  obtain ⟨hlt,e4⟩:=List.getElem?_eq_some_iff.1 e2;have hmap:(F.set q.1 (x,v)).map (λp=>p.1)=F.map (λp=>p.1):=by
   rw [List.map_set,e3];refine List.ext_getElem? (λi=>?_);rw [List.getElem?_set];by_cases c:j=i
   ·subst c;rw [if_pos rfl,if_pos (by simpa using hlt),List.getElem?_map,e2];rfl
   ·rw [if_neg c]
  refine ⟨by show (List.map _ _).Nodup;rw [hmap];exact h,λy a=>?_⟩;show (y,a) ∈ F.set q.1 (x,v) ↔ _
  rw [e3];have hset:∀ z,z ∈ F.set j (x,v) ↔ ∃ i,(i=j/\z=(x,v)) \/ (i ≠ j/\F[i]? = some z):=λz=>by
   rw [List.mem_iff_getElem?];constructor
   ·rintro ⟨i,hi⟩;rw [List.getElem?_set] at hi;by_cases c:j=i
    ·rw [if_pos c] at hi;refine ⟨i,Or.inl ⟨c.symm,?_⟩⟩;by_cases d:j<F.length
     ·rw [if_pos d] at hi;simpa using hi.symm
     ·rw [if_neg d] at hi;cases hi
    ·rw [if_neg c] at hi;exact ⟨i,Or.inr ⟨λe=>c e.symm,hi⟩⟩
   ·rintro ⟨i,q | q⟩
    ·exact ⟨i,by rw [List.getElem?_set,if_pos q.1.symm,if_pos hlt,q.2]⟩
    ·exact ⟨i,by rw [List.getElem?_set,if_neg (λe=>q.1 e.symm)];exact q.2⟩
  rw [hset];constructor
  ·rintro ⟨i,c | c⟩
   ·simp only [Prod.mk.injEq] at c;exact Or.inl c.2
   ·refine Or.inr ⟨λe=>?_,List.mem_of_getElem? c.2⟩;subst e;have k1:(F.map (λp=>p.1))[i]? = some y:=by rw [List.getElem?_map,c.2];rfl
    have k2:(F.map (λp=>p.1))[j]? = some y:=by rw [List.getElem?_map,e2];rfl
    exact c.1 ((List.getElem?_inj (List.getElem?_eq_some_iff.1 k1).1 h).1 (k1.trans k2.symm))
  ·rintro (c | c)
   ·exact ⟨j,Or.inl ⟨rfl,by rw [c.1,c.2]⟩⟩
   ·obtain ⟨i,hi⟩:=List.mem_iff_getElem?.1 c.2;refine ⟨i,Or.inr ⟨λe=>?_,hi⟩⟩;subst e;rw [e2] at hi;simp only [Option.some.injEq,Prod.mk.injEq] at hi;exact c.1 hi.1.symm
theorem KB.del {α:Type} {F:List (Wpl.Cl × α)} (h:KB F) (x:Wpl.Cl):KB (zHh x F)/\∀ y a,(y,a) ∈ zHh x F ↔ y ≠ x/\(y,a) ∈ F:=by
 unfold zHh;cases hq:fnB x F 0 with
 | none =>
  have hn:=zCm x F 0 hq;exact ⟨h,λy a=>⟨λq=>⟨hn _ q,q⟩,λq=>q.2⟩⟩
 | some q =>
  obtain ⟨j,e1,e2⟩:=zDB x F 0 q hq;have e3:q.1=j:=by omega
  refine ⟨?_,λy a=>?_⟩
  ·show (List.map _ (F.eraseIdx q.1)).Nodup
   rw [zGE];exact (List.eraseIdx_sublist _ _).nodup h
  ·show (y,a) ∈ F.eraseIdx q.1 ↔ _
   rw [e3,List.mem_eraseIdx_iff_getElem?];constructor
   ·rintro ⟨i,c1,c2⟩;refine ⟨λe=>?_,List.mem_of_getElem? c2⟩;subst e;have k1:(F.map (λp=>p.1))[i]? = some y:=by rw [List.getElem?_map,c2];rfl
    have k2:(F.map (λp=>p.1))[j]? = some y:=by rw [List.getElem?_map,e2];rfl
    exact c1 ((List.getElem?_inj (List.getElem?_eq_some_iff.1 k1).1 h).1 (k1.trans k2.symm))
   ·rintro ⟨c1,c2⟩;obtain ⟨i,hi⟩:=List.mem_iff_getElem?.1 c2;refine ⟨i,λe=>?_,hi⟩;subst e;rw [e2] at hi;simp only [Option.some.injEq,Prod.mk.injEq] at hi;exact c1 hi.1.symm
end Go.Proofs.YtedifblompcdkaaGreatDoor
namespace Wlx
def dig (c:UInt8):Bool:=decide (48<=(c.toNat:Int)) && decide ((c.toNat:Int)<=57)
def cap (c:UInt8):Bool:=decide (65<=(c.toNat:Int)) && decide ((c.toNat:Int)<=90)
def low (c:UInt8):Bool:=decide (97<=(c.toNat:Int)) && decide ((c.toNat:Int)<=122)
def wrd (c:UInt8):Bool:=cap c || low c || decide ((c.toNat:Int)=36) || dig c
def prt (c:UInt8):Bool:=decide (32<=(c.toNat:Int)) && decide ((c.toNat:Int)<=126)
def runP (p:UInt8->Bool):List UInt8->Nat
 | []=>0
 | c::t=>if p c then runP p t+1 else 0
theorem runP_le (p:UInt8->Bool) (l:List UInt8):runP p l<=l.length:=by
 induction l with
 | nil=>exact Nat.le_refl _
 | cons c t ih =>
  unfold runP;split
  ·simp only [List.length_cons];omega
  ·exact Nat.zero_le _
theorem runP_pos {p:UInt8->Bool} {c:UInt8} {t:List UInt8} (h:p c=true):runP p (c::t)=runP p t+1:=by
 show (if p c then runP p t+1 else 0)=_
 rw [if_pos h]
theorem runP_neg {p:UInt8->Bool} {c:UInt8} {t:List UInt8} (h:p c=false):runP p (c::t)=0:=by
 show (if p c then runP p t+1 else 0)=_
 rw [if_neg (by rw [h];decide)]
def numTl (n:Nat):List UInt8->Nat
 | []=>n
 | c::t=>if c=46/\0<runP dig t then n+1+runP dig t else n
theorem numTl_cons (n:Nat) (c:UInt8) (t:List UInt8):numTl n (c::t)=if c=46/\0<runP dig t then n+1+runP dig t else n:=rfl
def numSz (l:List UInt8):Nat:=if runP dig l=0 then 0 else numTl (runP dig l) (l.drop (runP dig l))
def quo:Bool->Nat->List UInt8->Nat
 | w,i,[]=>if w then 0 else i
 | w,i,c::t=>if c=34 then quo (!w) (i+1) t else if w then quo w (i+1) t else i
def txtSz:List UInt8->Nat
 | []=>0
 | c::t=>if c=34 then quo true 1 t else 0
def begins:List UInt8->List UInt8->Bool
 | [],_=>true
 | _::_,[]=>false
 | a::p,b::t=>decide (a=b) && begins p t
def nameSz (l:List UInt8):List (List UInt8)->Nat
 | []=>0
 | n::r=>if begins n l then n.length else nameSz l r
def faults:List (List UInt8):=[[35,68,73,86,47,48,33],[35,86,65,76,85,69,33],[35,82,69,70,33],[35,78,85,77,33],[35,78,47,65],[35,67,73,82,67,76,69,33],[35,76,79,78,71,33],[35,65,82,71,33]]
def marks:List (List UInt8):=[[60,62],[60,61],[62,61],[43],[45],[42],[47],[94],[38],[37],[40],[41],[44],[58],[33],[61],[60],[62]]
def sz (k:Nat) (l:List UInt8):Nat :=
 if k=1 then numSz l else if k=2 then txtSz l else if k=3 then runP wrd l else if k=4 then nameSz l faults else if k=5 then nameSz l marks else 0
def undbl:List UInt8->List UInt8
 | []=>[]
 | [c]=>[c]
 | c::d::t=>if c=34/\d=34 then 34::undbl t else c::undbl (d::t)
def said (k:Nat) (l:List UInt8):List UInt8:=if k=2 then undbl ((l.drop 1).take (l.length - 2)) else l
end Wlx
namespace Go.Proofs.YtedifblompcdkaaGreatDoor
open Tryz
open Go.RowKit
theorem zDR (r:Int) (w:World):Calls prog 170 #[.int .i32 r] w λe w'=>e=.returned (.bool (decide (48<=r) && decide (r<=57)))/\w=w':=by
 go_enter func170,ntmps170;by_cases a:48<=r
 ·go_wp2;go_ret;exact ⟨zA6 (by simp [a]),rfl⟩
 ·go_wp2;go_ret;exact ⟨zA6 (by rw [decide_eq_false (by omega)];rfl),rfl⟩
theorem zDY (r:Int) (w:World):Calls prog 125 #[.int .i32 r] w λe w'=>e=.returned (.bool (decide (32<=r) && decide (r<=126)))/\w=w':=by
 go_enter func125,ntmps125;by_cases a:32<=r
 ·go_wp2;go_ret;exact ⟨zA6 (by simp [a]),rfl⟩
 ·go_wp2;go_ret;exact ⟨zA6 (by rw [decide_eq_false (by omega)];rfl),rfl⟩
theorem zFL (r:Int) (w:World):Calls prog 152 #[.int .i32 r] w λe w'=>e=.returned (.bool ((decide (65<=r) && decide (r<=90)) || (decide (97<=r) && decide (r<=122)) || decide (r=36) || (decide (48<=r) && decide (r<=57))))/\w=w':=by
 have hU:undef=Value.tuple #[]:=rfl;go_enter func152,ntmps152;by_cases a:65<=r/\r<=90
 ·obtain ⟨a1,a2⟩:=a;go_wp2;go_ret;exact ⟨zA6 (by simp [a1,a2]),rfl⟩
 ·by_cases b:97<=r/\r<=122
  ·obtain ⟨a1,a2⟩:=b;have a3:65<=r:=by omega
   have a4:¬ r<=90:=by omega
   go_wp2;go_ret;exact ⟨zA6 (by simp),rfl⟩
  ·by_cases c:r=36
   ·subst c;go_wp2;go_ret;exact ⟨rfl,rfl⟩
   ·have E:Hid (((decide (65<=r) && decide (r<=90)) || (decide (97<=r) && decide (r<=122)) || decide (r=36) || (decide (48<=r) && decide (r<=57)))=(decide (48<=r) && decide (r<=57))):=by
     show _=_
     have e1:(decide (65<=r) && decide (r<=90))=false:=by simp;omega
     have e2:(decide (97<=r) && decide (r<=122))=false:=by simp;omega
     rw [e1,e2,decide_eq_false c];rfl
    have fin:∀ w',w=w'->Calls prog 170 #[.int .i32 r] w' λe w'=>e=.returned (.bool (decide (48<=r) && decide (r<=57)))/\w=w':=λw' h=>by rw [<-h];exact zDR r w
    rw [E.out];generalize (decide (48<=r) && decide (r<=57))=bb at fin;clear E;by_cases d:65<=r
    ·have d2:¬ r<=90:=by omega
     by_cases f:97<=r
     ·have f2:¬ r<=122:=by omega
      go_wp2_with fail
      refine (fin _ rfl).mono ?_;rintro e w1 ⟨rfl,rfl⟩;go_wp2;go_ret;exact ⟨zA6 (by simp [c]),rfl⟩
     ·go_wp2_with fail
      refine (fin _ rfl).mono ?_;rintro e w1 ⟨rfl,rfl⟩;go_wp2;go_ret;exact ⟨zA6 (by simp [c]),rfl⟩
    ·have f:¬ 97<=r:=by omega
     go_wp2_with fail
     refine (fin _ rfl).mono ?_;rintro e w1 ⟨rfl,rfl⟩;go_wp2;go_ret;exact ⟨zA6 (by simp [c]),rfl⟩
end Go.Proofs.YtedifblompcdkaaGreatDoor
namespace Go.Proofs.YtedifblompcdkaaGreatDoor
