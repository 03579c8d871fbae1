/- Lemmas. -/
import Derived.Test.YtefkclbaflkheaaGreatDoorChecked
import Derived.WalkKit
import Derived.WalkSpells
import Derived.RowKit3
import Derived.Deep.QuietTactic
import Derived.BigQuiet
import Derived.Deep.RegionWith
import Derived.Deep.RegionHeld3
import Derived.Deep.DeepCutAuto
import Derived.Deep.Light
import Derived.Deep.CutBlock
import Derived.Deep.LoopGhost
import Derived.Deep.MidRow
import Derived.Laws.AppendOwn
import Derived.OwnWalk
import Derived.Laws.OwnMore
set_option maxHeartbeats 1600000
set_option maxRecDepth 100000
set_option linter.unusedVariables false
namespace Go.Proofs.YtefkclbaflkheaaGreatDoor.Wnum
def rightB (n d:Int):Bool:=decide (-1000000000000<=n/\n<=1000000000000/\1<=d/\d<=1000000/\Int.gcd n d=1)
def cN (n d:Int):Int:=if rightB n d=true then n else 0
def cD (n d:Int):Int:=if rightB n d=true then d else 1
end Go.Proofs.YtefkclbaflkheaaGreatDoor.Wnum
namespace Wlx
def dig (c:UInt8):Bool:=decide (48<=(c.toNat:Int)) && decide ((c.toNat:Int)<=57)
def cap (c:UInt8):Bool:=decide (65<=(c.toNat:Int)) && decide ((c.toNat:Int)<=90)
def low (c:UInt8):Bool:=decide (97<=(c.toNat:Int)) && decide ((c.toNat:Int)<=122)
def prt (c:UInt8):Bool:=decide (32<=(c.toNat:Int)) && decide ((c.toNat:Int)<=126)
def runP (p:UInt8->Bool):List UInt8->Nat
 | []=>0
 | c::t=>if p c then runP p t+1 else 0
def zNu:List UInt8->List UInt8->Bool
 | [],_=>true
 | _::_,[]=>false
 | a::p,b::t=>decide (a=b) && zNu p t
def zPa:List (List UInt8):=[[60,62],[60,61],[62,61],[43],[45],[42],[47],[94],[38],[37],[40],[41],[44],[58],[33],[61],[60],[62]]
def zMG:List UInt8->List UInt8
 | []=>[]
 | [c]=>[c]
 | c::d::t=>if c=34/\d=34 then 34::zMG t else c::zMG (d::t)
def zPQ (k:Nat) (l:List UInt8):List UInt8:=if k=2 then zMG ((l.drop 1).take (l.length - 2)) else l
end Wlx
namespace Go.Proofs.YtefkclbaflkheaaGreatDoor.Wv
def prts (l:List UInt8):Bool:=l.all Wlx.prt
theorem prts_cons (c:UInt8) (t:List UInt8):prts (c::t)=(Wlx.prt c && prts t):=rfl
def flt (f:Int):Bool:=decide (1<=f) && decide (f<=8)
def right (k n d:Int) (t:ByteArray) (b:Bool) (f:Int):Bool :=
 if k=0 then decide (n=0) && decide (d=0) && decide (t=⟨#[]⟩) && !b && decide (f=0)
 else if k=1 then Wnum.rightB n d && decide (t=⟨#[]⟩) && !b && decide (f=0)
 else if k=2 then (decide (t.size<=256) && prts t.data.toList) && decide (n=0) && decide (d=0) && !b && decide (f=0)
 else if k=3 then decide (n=0) && decide (d=0) && decide (t=⟨#[]⟩) && decide (f=0)
 else if k=4 then flt f && decide (n=0) && decide (d=0) && decide (t=⟨#[]⟩) && !b
 else false
end Go.Proofs.YtefkclbaflkheaaGreatDoor.Wv
namespace Go.Proofs.YtefkclbaflkheaaGreatDoor.Wt
structure Vl where
 k:Int
 n:Int
 d:Int
 t:ByteArray
 b:Bool
 f:Int
structure Rf where
 s:ByteArray
 r:Int
 c:Int
 fr:Bool
 fc:Bool
structure Nd where
 k:Int
 v:Vl
 op:Int
 nm:ByteArray
 ar:Int
 a:Rf
 b:Rf
def v0:Vl:=⟨0,0,0,⟨#[]⟩,false,0⟩
def r0:Rf:=⟨⟨#[]⟩,0,0,false,false⟩
def isNm (p:UInt8->Bool) (l:List UInt8):Bool:=decide (1<=l.length) && decide (l.length<=16) && p (l.headD 0) && l.all (λc=>p c || Wlx.dig c)
def ltr (c:UInt8):Bool:=Wlx.cap c || Wlx.low c
def fnNm (b:ByteArray):Bool:=isNm Wlx.cap b.data.toList
def shNm (b:ByteArray):Bool:=isNm ltr b.data.toList
def inR (r c:Int):Bool:=decide (0<=r) && decide (r<65536) && (decide (0<=c) && decide (c<256))
def rfOk (a:Rf):Bool:=inR a.r a.c && (decide (a.s=⟨#[]⟩) || shNm a.s)
def vlOk (v:Vl):Bool :=
 if v.k=0 then false
 else if v.k=1 then Wv.right v.k v.n v.d v.t v.b v.f && decide (0<=v.n) && decide (1000000 % v.d=0)
 else Wv.right v.k v.n v.d v.t v.b v.f
def opsT:List (Int × List UInt8 × Int) :=
 [(21,[61],0),(22,[60,62],0),(23,[60],0),(24,[60,61],0),(25,[62],0),(26,[62,61],0),(16,[38],1),(11,[43],2),(12,[45],2),(13,[42],3),(14,[47],3),(15,[94],4),(1,[45],5),(2,[43],5),(3,[37],6)]
def opOf (o:Int):Option (Int × List UInt8 × Int):=opsT.find? λx=>x.1 == o
def isBin (o:Int):Bool:=(decide (11<=o) && decide (o<=16)) || (decide (21<=o) && decide (o<=26))
def parts (x:Nd):Int:=if x.k=4 then 1 else if x.k=5 then 2 else x.ar
end Go.Proofs.YtefkclbaflkheaaGreatDoor.Wt
namespace Wpl
structure Cl where
 s:Int
 r:Int
 c:Int
structure Ar where
 s:Int
 t:Int
 l:Int
 b:Int
 r:Int
theorem zJX (t x:Int):min t x=if x<t then x else t:=by split <;> omega
theorem zHK (t x:Int):max t x=if t<x then x else t:=by split <;> omega
def inB (n m:Int):Bool:=decide (0<=n) && decide (n<m)
def rightC (s r c:Int):Bool:=inB s 16 && inB r 65536 && inB c 256
theorem rightC_iff {s r c:Int}:rightC s r c=true ↔ 0<=s/\s<16/\0<=r/\r<65536/\0<=c/\c<256:=by simp [rightC,inB];omega
theorem rightC_not {s r c:Int}:rightC s r c=false ↔ ¬ (0<=s/\s<16/\0<=r/\r<65536/\0<=c/\c<256):=by rw [<-rightC_iff];simp
def rightA (s t l b r:Int):Bool:=decide (0<=s/\s<16/\0<=t/\t<=b/\b<65536/\0<=l/\l<=r/\r<256)
theorem rightA_iff {s t l b r:Int}:rightA s t l b r=true ↔ 0<=s/\s<16/\0<=t/\t<=b/\b<65536/\0<=l/\l<=r/\r<256:=by simp [rightA]
def lacks (q:Int) (c:Cl):Bool:=decide (c.s ≠ q) || !rightC c.s c.r c.c
def grow (a:Ar) (c:Cl):Ar:=⟨a.s,min a.t c.r,min a.l c.c,max a.b c.r,max a.r c.c⟩
def oneA (c:Cl):Ar:=⟨c.s,c.r,c.c,c.r,c.c⟩
def nullA:Ar:=⟨0,0,0,0,0⟩
def anyN (q:Int) (F:Nat->Cl):Nat->Bool
 | 0=>false
 | n+1=>anyN q F n || lacks q (F n)
theorem anyN_hit {q:Int} {F:Nat->Cl} {n j:Nat} (hj:j<n) (h:lacks q (F j)=true):anyN q F n=true:=by
 induction n with
 | zero=>omega
 | succ n ih =>
  by_cases e:j=n
  ·subst e;simp [anyN,h]
  ·simp [anyN,ih (by omega)]
theorem anyN_miss {q:Int} {F:Nat->Cl} {n:Nat} (h:∀ j,j<n->lacks q (F j)=false):anyN q F n=false:=by
 induction n with
 | zero=>rfl
 | succ n ih=>simp [anyN,ih (λj hj=>h j (by omega)),h n (by omega)]
def hullU (F:Nat->Cl):Nat->Ar
 | 0=>oneA (F 0)
 | j+1=>grow (hullU F j) (F (j+1))
def hullOk (F:Nat->Cl) (n:Nat):Bool:=decide (n ≠ 0) && !anyN (F 0).s F n
def hullV (F:Nat->Cl) (n:Nat):Ar:=if hullOk F n then hullU F (n - 1) else nullA
def zE5 (s r c s' r' c':Int):Bool:=if s ≠ s' then decide (s<s') else if r ≠ r' then decide (r<r') else decide (c<c')
def zPI (s t l b r:Int) (i:Nat):Cl:=if i=0 then ⟨s,t,l⟩ else ⟨s,b,r⟩
def isA (a:Ar) (s t l b r:Int):Bool:=decide (a.s=s/\a.t=t/\a.l=l/\a.b=b/\a.r=r)
end Wpl
namespace Go.Proofs.YtefkclbaflkheaaGreatDoor.Wc
structure In where
 op:Int
 a:Int
 b:Int
 v:Wt.Vl
 ce:Wpl.Cl
 ar:Wpl.Ar
 pr:Wpl.Ar
def pairs (id:Int):Bool:=id == 22 || (id == 23 || id == 24)
def swO (o b:Int):Int × Int :=
 if o=1 \/ o=2 \/ o=10 then (0,1) else if o=3 then (1,1) else if o=4 then (2,1) else if o=5 \/ o=11 then (b,1)
 else if o=7 \/ o=12 \/ o=14 \/ o=15 \/ o=16 then (1,0) else (0,0)
def nds (o b:Int):Int × Int × Int :=
 if o=1 \/ o=2 then (0,0,1) else if o=3 then (1,0,0) else if o=4 then (2,0,-1) else if o=5 \/ o=11 then (b,0,1 - b)
 else if o=7 then (1,1,-1) else if o=8 \/ o=9 then (0,1,0) else if o=10 then (0,1,1)
 else if o=12 \/ o=15 \/ o=14 then (1,0,-1) else (0,0,0)
end Go.Proofs.YtefkclbaflkheaaGreatDoor.Wc
namespace Go.Proofs.YtefkclbaflkheaaGreatDoor
open Tryz
open Go.RowKit
theorem bQD {B:Nat} {a w:World} (h:Below B a w) (n:Nat):Below B a (w.drewN n):=⟨h.os,h.tape,h.output,h.size,h.block⟩
theorem bQE {w W w1:World} (h0:Below w.heap.size w W) (hb:Below W.heap.size W w1):Below w.heap.size w w1:=h0.trans (hb.mono h0.size)
theorem bQA {w W:World} (h:Below w.heap.size w W) (o:Obj):Below w.heap.size w (W.alloc o):=h.alloc h.size o
theorem clA {P:Prop} (h:P:=by with_reducible repeat (first | exact Below.refl _ _ | refine bQD ?_ _ | refine Below.setCell ?_ (by first | (simp;done) | (simp;omega) | omega) _ | refine Below.drew ?_ | refine bQE ?_ (by assumption) | refine bQA ?_ _)):P:=h
theorem clB {P Q:Prop} (h:P) (f:P->Q:=by (intro q;with_reducible repeat (first | exact q | refine bQD ?_ _ | refine Below.setCell ?_ (by first | (simp;done) | (simp;omega) | omega) _ | refine Below.drew ?_ | refine bQA ?_ _))):Q:=f h
abbrev CR (f:Nat) (x:Array Value) (w:World) (v:Value):Prop:=Calls prog f x w λe w'=>e=.returned v/\Below w.heap.size w w'
theorem lA {α:Type} (l:List α) (i:Nat) (a:α):l.toArray.setIfInBounds i a=(l.set i a).toArray:=by simp
theorem lZ {α:Type} (x a:α) (l:List α):(x::l).set 0 a=a::l:=rfl
theorem lS {α:Type} (x a:α) (l:List α) (i:Nat):(x::l).set (i+1) a=x::l.set i a:=rfl
abbrev zN0:Array Value:=#[.int .i64 0,.int .i64 0,.int .i64 0,.int .i64 0,.string ⟨#[]⟩,.bool false,.int .i64 0,.int .i64 0,.string ⟨#[]⟩,.int .i64 0,.string ⟨#[]⟩,.int .i64 0,.int .i64 0,.bool false,.bool false,.string ⟨#[]⟩,.int .i64 0,.int .i64 0,.bool false,.bool false]
abbrev zP0:Array Value:=#[.int .i64 0,.int .i64 0,.int .i64 0,.int .i64 0,.string ⟨#[]⟩,.bool false,.int .i64 0,.int .i64 0,.string ⟨#[]⟩,.int .i64 0,.string ⟨#[]⟩,.int .i64 0,.int .i64 0,.bool false,.bool false,.string ⟨#[]⟩,.int .i64 0,.int .i64 0,.bool false,.bool false,.slice none 0 0]
abbrev zR0:Array Value:=#[.string ⟨#[]⟩,.int .i64 0,.int .i64 0,.bool false,.bool false]
abbrev zV0:Array Value:=#[.int .i64 0,.int .i64 0,.int .i64 0,.string ⟨#[]⟩,.bool false,.int .i64 0]
open Go.RowKit
variable {W w w1 W' w':World} {k B n ka kb:Nat} {vs us:List Value} {a b c d e tv:Value} {t:ByteArray} {f x:Int}
theorem zCR {k:IntKind} {a b:Int} (h:a=b):Ending.returned (.int k a)=.returned (.int k b):=by rw [h]
theorem zKx (a:Int) (w:World) (h1:-9223372036854775807<=a) (h2:a<=9223372036854775807) :
  Calls prog 175 #[.int .i64 a] w λe w'=>e=.returned (.int .i64 (a.natAbs:Int))/\w=w':=by
 by_cases h:a<0
 ·go_enter func175,ntmps175;go_wp2;go_ret;exact ⟨zCR (by omega),rfl⟩
 ·go_enter func175,ntmps175;go_wp2;go_ret;exact ⟨zCR (by omega),rfl⟩
theorem zEg (a b:Int) (w:World) (h1:-9223372036854775807<=a) (h2:a<=9223372036854775807) (h3:-9223372036854775807<=b) (h4:b<=9223372036854775807) :
  Calls prog 162 #[.int .i64 a,.int .i64 b] w λe w'=>e=.returned (.int .i64 (Int.gcd a b:Int))/\∃ n,w'=w.drewN n:=by
 have b1:a.natAbs<=9223372036854775807:=by omega
 have b2:b.natAbs<=9223372036854775807:=by omega
 have H:Hid (Nat.gcd a.natAbs b.natAbs=Int.gcd a b):=(rfl:Nat.gcd a.natAbs b.natAbs=Int.gcd a b)
 go_enter func162,ntmps162;go_wp2_with (go_at_call 175;refine (zKx _ _ (by assumption) (by assumption)).mono ?_;rintro e w' ⟨rfl,rfl⟩)
 go_loopw [0,1] (λx y wr=>∃ p q:Nat,x=.int .i64 p/\y=.int .i64 q/\p<=9223372036854775807/\q<=9223372036854775807/\Hid (Nat.gcd p q=Int.gcd a b)/\∃ n,wr=w.drewN n) (λ_ y _=>(intOf y).toNat)
 case atStart=>exact ⟨a.natAbs,b.natAbs,rfl,rfl,b1,b2,H,0,rfl⟩
 case round =>
  obtain ⟨p,q,rfl,rfl,hp,hq,hg,n,rfl⟩:=hrel;by_cases hz:q=0
  ·subst hz;go_wp2;go_ret;exact ⟨zCR (by rw [<-hg.out,Nat.gcd_zero_right]),n,rfl⟩
  ·have hz':((q:Int) != 0)=true:=by simp;omega
   go_wp2;go_quiet (fail)
   go_wp2;go_roundw
   case rel=>exact ⟨q,p % q,rfl,by go_num,hq,by have:=Nat.mod_lt p (Nat.pos_of_ne_zero hz);omega,by exact (show Nat.gcd q (p % q)=Int.gcd a b by rw [<-hg.out,Nat.gcd_comm p q,Nat.gcd_rec q p,Nat.gcd_comm]),_,World.drewN_drewN ..⟩
   case measure=>simp [intOf];have:=Nat.mod_lt p (Nat.pos_of_ne_zero hz);omega
theorem zB5 {a:World} (h:Below B a w) (n:Nat):Below B a (w.drewN n):=⟨h.os,h.tape,h.output,h.size,h.block⟩
theorem zNe (hb:Below W.heap.size W w1):(∀ b o,b<W.heap.size->w1.cell? ⟨b,o,none⟩=W.cell? ⟨b,o,none⟩)/\(∀ b o,b<W.heap.size->w1.frozen? ⟨b,o,none⟩=W.frozen? ⟨b,o,none⟩) :=
 ⟨λb o h=>hb.cell (p:=⟨b,o,none⟩) h,λb o h=>hb.frozen (p:=⟨b,o,none⟩) h⟩
theorem zAB (h0:Below w.heap.size w W) (hb:Below W.heap.size W w1):Below w.heap.size w w1:=h0.trans (hb.mono h0.size)
theorem zAM (h:Below w.heap.size w W) (o:Obj):Below w.heap.size w (W.alloc o):=h.alloc h.size o
theorem bsz (hb:Below W.heap.size W w1) (h:k<W.heap.size):k<w1.heap.size:=Nat.lt_of_lt_of_le h hb.size
theorem zA8 {a b:Bool} (h:a=b):Ending.returned (.bool a)=.returned (.bool b):=by rw [h]
theorem zEB (n d:Int) (w:World) (h1:-9223372036854775808<=n) (h2:n<=9223372036854775807) (h3:-9223372036854775808<=d) (h4:d<=9223372036854775807) :
  CR 134 #[.agg #[.int .i64 n,.int .i64 d]] w (.bool (Wnum.rightB n d)):=by
 by_cases c1:n < -1000000000000
 ·have e:Hid (Wnum.rightB n d=false):=by show Wnum.rightB n d=false;unfold Wnum.rightB;rw [decide_eq_false_iff_not];omega
  rw [e.out];clear e;go_enter func134,ntmps134;go_wp2;go_ret;exact ⟨rfl,(Below.refl _ _).alloc (Nat.le_refl _) _⟩
 by_cases c2:1000000000000<n
 ·have e:Hid (Wnum.rightB n d=false):=by show Wnum.rightB n d=false;unfold Wnum.rightB;rw [decide_eq_false_iff_not];omega
  rw [e.out];clear e;go_enter func134,ntmps134;go_wp2;go_ret;exact ⟨rfl,(Below.refl _ _).alloc (Nat.le_refl _) _⟩
 by_cases c3:d<1
 ·have e:Hid (Wnum.rightB n d=false):=by show Wnum.rightB n d=false;unfold Wnum.rightB;rw [decide_eq_false_iff_not];omega
  rw [e.out];clear e;go_enter func134,ntmps134;go_wp2;go_ret;exact ⟨rfl,(Below.refl _ _).alloc (Nat.le_refl _) _⟩
 by_cases c4:1000000<d
 ·have e:Hid (Wnum.rightB n d=false):=by show Wnum.rightB n d=false;unfold Wnum.rightB;rw [decide_eq_false_iff_not];omega
  rw [e.out];clear e;go_enter func134,ntmps134;go_wp2;go_ret;exact ⟨rfl,(Below.refl _ _).alloc (Nat.le_refl _) _⟩
 have e:Hid ((((Int.gcd n d:Nat):Int) == 1)=Wnum.rightB n d):=by
  show _=_
  unfold Wnum.rightB;by_cases g:Int.gcd n d=1
  ·rw [g,decide_eq_true (by omega)];rfl
  ·rw [decide_eq_false (by omega),beq_eq_false_iff_ne];omega
 rw [<-e.out];clear e;go_enter func134,ntmps134;go_wp2_with (go_at_call 162;refine (zEg _ _ _ (by omega) (by omega) (by omega) (by omega)).mono ?_;rintro e w' ⟨rfl,nq,rfl⟩)
 go_ret;exact ⟨rfl,zB5 ((Below.refl _ _).alloc (Nat.le_refl _) _) _⟩
theorem zMi {P:Program} {c:Code} {Q:Exit->Act->World->Prop} {a:Act} (h:∀ K:Act->World->Prop,(∀ a w,Q .normal a w->K a w)->c.wp P (Exit.then K Q) a w):c.wp P Q a w :=
 Code.wp_mono (λe a w hh=>by cases e <;> exact hh) (h (λa w=>Q .normal a w) (λ_ _ h=>h))
def AtL (W:World) (k:Nat) (vs:List Value):Prop :=
 k<W.heap.size/\(∀ i v,vs[i]? = some v->W.cell? ⟨k,i,none⟩=some v)/\(∀ i,i<vs.length->W.frozen? ⟨k,i,none⟩=false)
theorem AtL.lt (h:AtL W k vs):k<W.heap.size:=h.1
theorem AtL.new (W:World) (t:TypeId) {k:Nat} (hk:k=W.heap.size) (vs:List Value):AtL (W.alloc (.cells vs.toArray t)) k vs:=by
 subst hk;refine ⟨by simp [go_sem],λi v h=>?_,λi h=>?_⟩
 ·simp [go_sem,h]
 ·simp [go_sem]
theorem AtL.new0 (W:World) (t:TypeId) (vs:List Value):AtL (W.alloc (.cells vs.toArray t)) W.heap.size vs:=AtL.new W t rfl vs
theorem AtL.new1 (W:World) (o:Obj) (t:TypeId) (vs:List Value):AtL ((W.alloc o).alloc (.cells vs.toArray t)) (W.heap.size+1) vs:=AtL.new (W.alloc o) t (by simp only [World.size_alloc]) vs
theorem AtL.alloc (h:AtL W k vs) (o:Obj):AtL (W.alloc o) k vs:=by
 obtain ⟨h1,h2,h3⟩:=h;refine ⟨by simp [go_sem];omega,λi v hi=>?_,λi hi=>?_⟩
 ·rw [World.cell?_alloc_past _ _ _ h1];exact h2 i v hi
 ·rw [World.frozen?_alloc_old _ _ _ (by simp;omega)];exact h3 i hi
theorem AtL.below (hb:Below W.heap.size W W') {k:Nat} {vs:List Value} (h:AtL W k vs):AtL W' k vs:=by
 obtain ⟨h1,h2,h3⟩:=h;refine ⟨Nat.lt_of_lt_of_le h1 hb.size,λi v hi=>?_,λi hi=>?_⟩
 ·exact (hb.cell (p:=⟨k,i,none⟩) h1).trans (h2 i v hi)
 ·exact (hb.frozen (p:=⟨k,i,none⟩) h1).trans (h3 i hi)
theorem AtL.drew (h:AtL W k vs):AtL W.drew k vs:=AtL.below (Below.refl _ _).drew h
theorem AtL.far (h:AtL W k vs) {j:Nat} (hj:j ≠ k) (o:Nat) (v:Value):AtL (W.setCell ⟨j,o,none⟩ v) k vs:=by
 obtain ⟨h1,h2,h3⟩:=h;refine ⟨by simpa [go_sem] using h1,λi u hi=>?_,λi hi=>?_⟩
 ·rw [World.cell?_setCell_far _ _ _ _ (by simpa using hj)];exact h2 i u hi
 ·rw [World.frozen?_setCell];exact h3 i hi
theorem AtL.set (h:AtL W k vs) (o:Nat) (u:Value):AtL (W.setCell ⟨k,o,none⟩ u) k (vs.set o u):=by
 obtain ⟨h1,h2,h3⟩:=h;refine ⟨by simpa [go_sem] using h1,λi v hi=>?_,λi hi=>?_⟩
 ·by_cases e:o=i
  ·subst e;by_cases hl:o<vs.length
   ·rw [List.getElem?_set_self hl] at hi;obtain rfl:=Option.some.inj hi;exact World.cell?_setCell_same _ _ _ (h2 o vs[o] (List.getElem?_eq_getElem hl))
   ·rw [List.getElem?_eq_none (by simp;omega)] at hi;cases hi
  ·rw [List.getElem?_set_ne e] at hi;rw [World.cell?_setCell_other _ _ _ _ (by first | (simp;done) | (simp;omega))];exact h2 i v hi
 ·rw [World.frozen?_setCell];exact h3 i (by simpa using hi)
theorem AtL.two (h:AtL W k [a,b]) :
  W.cell? ⟨k,0,none⟩=some a/\W.cell? ⟨k,1,none⟩=some b/\W.frozen? ⟨k,0,none⟩=false/\W.frozen? ⟨k,1,none⟩=false :=
 ⟨h.2.1 0 a rfl,h.2.1 1 b rfl,h.2.2 0 (by simp),h.2.2 1 (by simp)⟩
theorem AtL.three (h:AtL W k [a,b,c]) :
  W.cell? ⟨k,0,none⟩=some a/\W.cell? ⟨k,1,none⟩=some b/\W.cell? ⟨k,2,none⟩=some c/\W.frozen? ⟨k,0,none⟩=false/\W.frozen? ⟨k,1,none⟩=false/\W.frozen? ⟨k,2,none⟩=false :=
 ⟨h.2.1 0 a rfl,h.2.1 1 b rfl,h.2.1 2 c rfl,h.2.2 0 (by simp),h.2.2 1 (by simp),h.2.2 2 (by simp)⟩
theorem AtL.five (h:AtL W k [a,b,c,d,e]) :
  W.cell? ⟨k,0,none⟩=some a/\W.cell? ⟨k,1,none⟩=some b/\W.cell? ⟨k,2,none⟩=some c/\W.cell? ⟨k,3,none⟩=some d/\W.cell? ⟨k,4,none⟩=some e /\
  W.frozen? ⟨k,0,none⟩=false/\W.frozen? ⟨k,1,none⟩=false/\W.frozen? ⟨k,2,none⟩=false/\W.frozen? ⟨k,3,none⟩=false/\W.frozen? ⟨k,4,none⟩=false :=
 ⟨h.2.1 0 a rfl,h.2.1 1 b rfl,h.2.1 2 c rfl,h.2.1 3 d rfl,h.2.1 4 e rfl,h.2.2 0 (by simp),h.2.2 1 (by simp),h.2.2 2 (by simp),h.2.2 3 (by simp),h.2.2 4 (by simp)⟩
abbrev zPn (W:World) (k:Nat) (a b c d e:Value):Prop :=
 W.cell? ⟨k,0,none⟩=some a/\W.cell? ⟨k,1,none⟩=some b/\W.cell? ⟨k,2,none⟩=some c/\W.cell? ⟨k,3,none⟩=some d/\W.cell? ⟨k,4,none⟩=some e
theorem AtL.f5 (h:AtL W k [a,b,c,d,e]):zPn W k a b c d e:=⟨h.2.1 0 a rfl,h.2.1 1 b rfl,h.2.1 2 c rfl,h.2.1 3 d rfl,h.2.1 4 e rfl⟩
theorem AtL.put5 (h:AtL W k [a,b,c,d,e]) (x y z u v:Value) :
  AtL (((((W.setCell ⟨k,0,none⟩ x).setCell ⟨k,1,none⟩ y).setCell ⟨k,2,none⟩ z).setCell ⟨k,3,none⟩ u).setCell ⟨k,4,none⟩ v) k [x,y,z,u,v]:=((((h.set 0 x).set 1 y).set 2 z).set 3 u).set 4 v
theorem zBt (hb:Below n w W) (hk:n<=k) (x y z u v:Value) :
  Below n w (((((W.setCell ⟨k,0,none⟩ x).setCell ⟨k,1,none⟩ y).setCell ⟨k,2,none⟩ z).setCell ⟨k,3,none⟩ u).setCell ⟨k,4,none⟩ v) :=
 ((((hb.setCell (p:=⟨k,0,none⟩) hk x).setCell (p:=⟨k,1,none⟩) hk y).setCell (p:=⟨k,2,none⟩) hk z).setCell (p:=⟨k,3,none⟩) hk u).setCell (p:=⟨k,4,none⟩) hk v
theorem zAC (hb:Below W.heap.size W W') {k o:Nat} {v:Value} (h:W.cell? ⟨k,o,none⟩=some v):W'.cell? ⟨k,o,none⟩=some v :=
 (hb.cell (p:=⟨k,o,none⟩) (World.block_lt_of_cell? W ⟨k,o,none⟩ h)).trans h
theorem zCt (b:ByteArray) (i:Nat) (h:i<b.size):b.data.toList.drop i=b[i]::b.data.toList.drop (i+1):=List.drop_eq_getElem_cons (by simpa using h)
theorem zCO (b:ByteArray) (i:Nat) (h:¬ i<b.size):b.data.toList.drop i=[]:=List.drop_eq_nil_of_le (by have:b.data.toList.length=b.size:=rfl;omega)
theorem zDM (f:Int) (w:World):Calls prog 136 #[.int .i64 f] w λe w'=>e=.returned (.bool (Wv.flt f))/\w=w':=by
 unfold Wv.flt;go_enter func136,ntmps136;by_cases a:1<=f
 ·go_wp2;go_ret;exact ⟨zA8 (by simp [a]),rfl⟩
 ·go_wp2;go_ret;exact ⟨zA8 (by rw [decide_eq_false (by omega)];rfl),rfl⟩
theorem zIj (c:UInt8):Wlx.prt c=(decide (32<=(c.toNat:Int)) && decide ((c.toNat:Int)<=126)):=by
 unfold Wlx.prt;simp
theorem zFw (b:ByteArray) (w:World) (hs:b.size<=9223372036854775807):Calls prog 135 #[.string b] w λe w'=>e=.returned (.bool (Wv.prts b.data.toList))/\w=w':=by
 obtain ⟨R,hR⟩:∃ R,Wv.prts b.data.toList=R:=⟨_,rfl⟩
 have E0:Hid (R=Wv.prts (b.data.toList.drop 0)):=hR.symm;rw [hR];clear hR;go_enter func135,ntmps135;go_wp2_with fail
 go_loopg [6] (b.size) (λgk x wr=>∃ j:Nat,x=.int .i64 j/\gk=b.size - j/\j<=b.size/\Hid (R=Wv.prts (b.data.toList.drop j))/\wr=w)
 case atStart=>exact ⟨0,rfl,rfl,Nat.zero_le _,E0,rfl⟩
 case round =>
  obtain ⟨j,rfl,hg,hj,HR,rfl⟩:=hrel;by_cases hlt:j<b.size
  ·have hli:(j:Int)<(b.size:Int):=by omega
   have hd:=zCt b j hlt;have hp:=zIj (b[j]);by_cases c1:((b[j]).toNat:Int)<32
   ·have E:Hid (R=false):=by show _=_;rw [HR.out,hd,Wv.prts_cons,hp,decide_eq_false (by omega)];rfl
    clear HR hd hp;go_wp2;go_ret;exact ⟨by rw [E.out];rfl,rfl⟩
   ·by_cases c2:(126:Int)<((b[j]).toNat:Int)
    ·have E:Hid (R=false):=by show _=_;rw [HR.out,hd,Wv.prts_cons,hp,decide_eq_false (p:=((b[j]).toNat:Int)<=126) (by omega)];simp
     clear HR hd hp;go_wp2;go_ret;exact ⟨by rw [E.out];rfl,rfl⟩
    ·have E:Hid (R=Wv.prts (b.data.toList.drop (j+1))):=by show _=_;rw [HR.out,hd,Wv.prts_cons,hp,decide_eq_true (by omega),decide_eq_true (by omega)];rfl
     clear HR hd hp;go_wp2_with fail
     go_roundg (b.size - (j+1))
     case rel=>exact ⟨j+1,by simp,rfl,hlt,E,by first | trivial | rfl⟩
     case measure=>omega
  ·have hli:¬ (j:Int)<(b.size:Int):=by omega
   have E:Hid (R=true):=by show _=_;rw [HR.out,zCO b j hlt];rfl
   clear HR;go_wp2;go_ret;exact ⟨by rw [E.out];rfl,rfl⟩
theorem zOM (a b:Int) (w:World):(if a=b then (Result.ok true w:Result Bool) else Result.ok false w)=Result.ok (a == b) w:=by by_cases h:a=b <;> simp [h]
theorem zMV (a b:Bool) (w:World):(if a=b then (Result.ok true w:Result Bool) else Result.ok false w)=Result.ok (a == b) w:=by by_cases h:a=b <;> simp [h]
theorem zC3 (a b:ByteArray):((a == b)=true)=(a=b):=by
 obtain ⟨⟨x⟩⟩:=a;obtain ⟨⟨y⟩⟩:=b;have h:((⟨⟨x⟩⟩:ByteArray) == ⟨⟨y⟩⟩)=(x == y):=by
  show ((⟨x⟩:Array UInt8) == ⟨y⟩)=(x == y)
  simp
 rw [h];simp
def eqV (k n d:Int) (t:ByteArray) (b:Bool) (f:Int) (k' n' d':Int) (t':ByteArray) (b':Bool) (f':Int):Bool :=
 (k == k') && ((n == n') && ((d == d') && ((t == t') && ((b == b') && (f == f')))))
theorem zLg (x:Nat) (k n d:Int) (t:ByteArray) (b:Bool) (f:Int) (k' n' d':Int) (t':ByteArray) (b':Bool) (f':Int) (w:World) :
  (Op.equalIn (x+3) 31 (.agg #[.int .i64 k,.int .i64 n,.int .i64 d,.string t,.bool b,.int .i64 f]) (.agg #[.int .i64 k',.int .i64 n',.int .i64 d',.string t',.bool b',.int .i64 f'])).run prog w=.ok (eqV k n d t b f k' n' d' t' b' f') w:=by
 unfold eqV;rw [beq_toListBytes];by_cases h1:k=k'
 ·by_cases h2:n=n'
  ·by_cases h3:d=d'
   ·by_cases h4:t.toList=t'.toList
    ·by_cases h5:b=b'
     ·simp [go_sem,h1,h2,h3,h4,h5,zOM]
     ·simp [go_sem,h1,h2,h3,h4,h5]
    ·simp [go_sem,h1,h2,h3,h4]
   ·simp [go_sem,h1,h2,h3]
  ·simp [go_sem,h1,h2]
 ·simp [go_sem,h1]
theorem zBM (k n d:Int) (t:ByteArray) (b:Bool) (f:Int) (k' n' d':Int) (t':ByteArray) (b':Bool) (f':Int) (w:World) :
  (binOp .eql 31 (.agg #[.int .i64 k,.int .i64 n,.int .i64 d,.string t,.bool b,.int .i64 f]) (.agg #[.int .i64 k',.int .i64 n',.int .i64 d',.string t',.bool b',.int .i64 f'])).run prog w=.ok (.bool (eqV k n d t b f k' n' d' t' b' f')) w:=by
 rw [run_eql_struct,show (10000:Nat)=9997+3 from rfl,zLg];rfl
def eqR (s:ByteArray) (r c:Int) (fr fc:Bool) (s':ByteArray) (r' c':Int) (fr' fc':Bool):Bool :=
 (s == s') && ((r == r') && ((c == c') && ((fr == fr') && (fc == fc'))))
theorem zLj (x:Nat) (s:ByteArray) (r c:Int) (fr fc:Bool) (s':ByteArray) (r' c':Int) (fr' fc':Bool) (w:World) :
  (Op.equalIn (x+2) 33 (.agg #[.string s,.int .i64 r,.int .i64 c,.bool fr,.bool fc]) (.agg #[.string s',.int .i64 r',.int .i64 c',.bool fr',.bool fc'])).run prog w=.ok (eqR s r c fr fc s' r' c' fr' fc') w:=by
 unfold eqR;rw [beq_toListBytes];by_cases h1:s.toList=s'.toList
 ·by_cases h2:r=r'
  ·by_cases h3:c=c'
   ·by_cases h4:fr=fr'
    ·simp [go_sem,h1,h2,h3,h4,zMV]
    ·simp [go_sem,h1,h2,h3,h4]
   ·simp [go_sem,h1,h2,h3]
  ·simp [go_sem,h1,h2]
 ·simp [go_sem,h1]
theorem zJY {a:World} (h:Below B a w) (n:Nat):Below B a (w.drewN n):=⟨h.os,h.tape,h.output,h.size,h.block⟩
theorem zAo (h0:Below w.heap.size w W) (hb:Below W.heap.size W w1):Below w.heap.size w w1:=h0.trans (hb.mono h0.size)
theorem zCU (h:Below w.heap.size w W) (o:Obj):Below w.heap.size w (W.alloc o):=h.alloc h.size o
theorem zDA (n m:Int) (w:World) :
  Calls prog 44 #[.int .i64 n,.int .i64 m] w λe w'=>e=.returned (.bool (Wpl.inB n m))/\w=w':=by
 unfold Wpl.inB;by_cases h:0<=n
 ·rw [decide_eq_true h];go_enter func44,ntmps44;go_wp2;go_ret;exact ⟨by simp,rfl⟩
 ·rw [decide_eq_false h];go_enter func44,ntmps44;go_wp2;go_ret;exact ⟨by simp,rfl⟩
theorem zAn (s r c:Int) (w:World) :
  CR 22 #[.agg #[.int .i64 s,.int .i64 r,.int .i64 c]] w (.bool (Wpl.rightC s r c)):=by
 have B1:=λw=>zDA s 16 w
 have B2:=λw=>zDA r 65536 w
 have B3:=λw=>zDA c 256 w
 unfold Wpl.rightC;generalize Wpl.inB s 16=b1 at *;generalize Wpl.inB r 65536=b2 at *;generalize Wpl.inB c 256=b3 at *;cases b1
 ·go_enter func22,ntmps22;go_wp2_with fail
  refine (B1 _).mono ?_;rintro e w1 ⟨rfl,rfl⟩;go_wp2;go_ret;exact ⟨rfl,clA⟩
 cases b2
 ·go_enter func22,ntmps22;go_wp2_with fail
  refine (B1 _).mono ?_;rintro e w1 ⟨rfl,rfl⟩;go_wp2_with fail
  refine (B2 _).mono ?_;rintro e w1 ⟨rfl,rfl⟩;go_wp2;go_ret;exact ⟨rfl,clA⟩
 ·go_enter func22,ntmps22;go_wp2_with fail
  refine (B1 _).mono ?_;rintro e w1 ⟨rfl,rfl⟩;go_wp2_with fail
  refine (B2 _).mono ?_;rintro e w1 ⟨rfl,rfl⟩;go_wp2_with fail
  refine (B3 _).mono ?_;rintro e w1 ⟨rfl,rfl⟩;go_wp2;go_ret;exact ⟨rfl,clA⟩
theorem zI2 (s t l b r:Int) (w:World) :
  CR 138 #[.agg #[.int .i64 s,.int .i64 t,.int .i64 l,.int .i64 b,.int .i64 r]] w (.agg #[.int .i64 s,.int .i64 t,.int .i64 l]):=by
 go_enter func138,ntmps138;go_wp2;refine bodyPost_ret (v:=.agg #[.int .i64 s,.int .i64 t,.int .i64 l]) (by simp [results,results138,go_sem]) rfl ⟨rfl,?_⟩;exact clA
theorem zJZ (s t l b r:Int) (w:World) :
  CR 139 #[.agg #[.int .i64 s,.int .i64 t,.int .i64 l,.int .i64 b,.int .i64 r]] w (.agg #[.int .i64 s,.int .i64 b,.int .i64 r]):=by
 go_enter func139,ntmps139;go_wp2;refine bodyPost_ret (v:=.agg #[.int .i64 s,.int .i64 b,.int .i64 r]) (by simp [results,results139,go_sem]) rfl ⟨rfl,?_⟩;exact clA
theorem zHQ (q s r c:Int) (w:World) :
  CR 148 #[.int .i64 q,.agg #[.int .i64 s,.int .i64 r,.int .i64 c]] w (.bool (Wpl.lacks q ⟨s,r,c⟩)):=by
 have R:=λw=>zAn s r c w
 unfold Wpl.lacks;show Calls _ _ _ _ λe w'=>e=.returned (.bool (decide (s ≠ q) || !Wpl.rightC s r c))/\_
 generalize Wpl.rightC s r c=b at *;by_cases h:s=q
 ·subst h;go_enter func148,ntmps148;go_wp2_with fail
  refine (R _).mono ?_;rintro e w1 ⟨rfl,hb⟩;go_wp2;go_ret;exact ⟨by simp,clA⟩
 ·rw [decide_eq_true (show s ≠ q from h)];go_enter func148,ntmps148;go_wp2;go_ret;exact ⟨rfl,clA⟩
abbrev Six (W:World) (k:Nat) (a b c d e f:Value):Prop :=
 W.cell? ⟨k,0,none⟩=some a/\W.cell? ⟨k,1,none⟩=some b/\W.cell? ⟨k,2,none⟩=some c/\W.cell? ⟨k,3,none⟩=some d/\W.cell? ⟨k,4,none⟩=some e/\W.cell? ⟨k,5,none⟩=some f
theorem AtL.f6 {f:Value} (h:AtL W k [a,b,c,d,e,f]):Six W k a b c d e f:=⟨h.2.1 0 a rfl,h.2.1 1 b rfl,h.2.1 2 c rfl,h.2.1 3 d rfl,h.2.1 4 e rfl,h.2.1 5 f rfl⟩
theorem zOB (n d:Int) (t:ByteArray) (b:Bool) (f:Int):eqV 0 n d t b f 0 0 0 ⟨#[]⟩ false 0=Wv.right 0 n d t b f:=by
 unfold eqV Wv.right;rw [if_pos rfl];rw [Bool.eq_iff_iff];simp [and_assoc,zC3]
theorem zKK (n d:Int) (t:ByteArray) (b:Bool) (f:Int) (w:World) :
  CR 92 #[.agg #[.int .i64 0,.int .i64 n,.int .i64 d,.string t,.bool b,.int .i64 f]] w (.bool (Wv.right 0 n d t b f)):=by
 rw [<-zOB];have hq:=zBM 0 n d t b f 0 0 0 ⟨#[]⟩ false 0;generalize eqV 0 n d t b f 0 0 0 ⟨#[]⟩ false 0=R at *;go_enter func92,ntmps92;go_wp2;go_ret;exact ⟨rfl,clA⟩
abbrev VrS (ka kb:Nat) (k n d:Int) (t:ByteArray) (b:Bool) (f:Int) (W:World):Prop :=
 Six W ka (.int .i64 k) (.int .i64 n) (.int .i64 d) (.string t) (.bool b) (.int .i64 f)/\W.frozen? ⟨kb,0,none⟩=false/\W.frozen? ⟨kb,1,none⟩=false/\W.frozen? ⟨kb,2,none⟩=false/\W.frozen? ⟨kb,3,none⟩=false/\W.frozen? ⟨kb,4,none⟩=false/\W.frozen? ⟨kb,5,none⟩=false
theorem zCK {k n d:Int} {b:Bool} (h0:AtL W ka [.int .i64 k,.int .i64 n,.int .i64 d,.string t,.bool b,.int .i64 f]) (h1:AtL W kb us) (hl:us.length=6):VrS ka kb k n d t b f W :=
 ⟨h0.f6,h1.2.2 0 (by omega),h1.2.2 1 (by omega),h1.2.2 2 (by omega),h1.2.2 3 (by omega),h1.2.2 4 (by omega),h1.2.2 5 (by omega)⟩
theorem zCE {k n d:Int} {b:Bool} (h:VrS ka kb k n d t b f W) (hne:kb ≠ ka) (o:Nat) (u:Value):VrS ka kb k n d t b f (W.setCell ⟨kb,o,none⟩ u):=by
 obtain ⟨⟨h0,h1,h2,h3,h4,h5⟩,g0,g1,g2,g3,g4,g5⟩:=h;refine ⟨⟨?_,?_,?_,?_,?_,?_⟩,?_,?_,?_,?_,?_,?_⟩;any_goals rw [World.cell?_setCell_far _ _ _ _ (by simpa using hne)];assumption
 all_goals rw [World.frozen?_setCell];assumption
theorem zEj (f:Int) (w:World):CR 136 #[.int .i64 f] w (.bool (Wv.flt f)):=(zDM f w).mono λe w' h=>⟨h.1,h.2 ▸ Below.refl _ _⟩
theorem zIE (b:ByteArray) (w:World) (hs:b.size<=9223372036854775807):CR 135 #[.string b] w (.bool (Wv.prts b.data.toList)):=(zFw b w hs).mono λe w' h=>⟨h.1,h.2 ▸ Below.refl _ _⟩
theorem zOJ (n d:Int) (t:ByteArray) (b:Bool) (f:Int):(Wnum.rightB n d && eqV 1 n d t b f 1 n d ⟨#[]⟩ false 0)=Wv.right 1 n d t b f:=by
 unfold eqV Wv.right;rw [if_neg (by decide)];rw [if_pos rfl];rw [Bool.eq_iff_iff];simp [and_assoc,zC3]
theorem zKq (n d:Int) (t:ByteArray) (b:Bool) (f:Int) (w:World) (h1:-9223372036854775808<=n) (h2:n<=9223372036854775807) (h3:-9223372036854775808<=d) (h4:d<=9223372036854775807) :
  CR 92 #[.agg #[.int .i64 1,.int .i64 n,.int .i64 d,.string t,.bool b,.int .i64 f]] w (.bool (Wv.right 1 n d t b f)):=by
 rw [<-zOJ];have C:=λw=>zEB n d w h1 h2 h3 h4
 have hq:=zBM 1 n d t b f 1 n d ⟨#[]⟩ false 0;generalize eqV 1 n d t b f 1 n d ⟨#[]⟩ false 0=R at *;generalize Wnum.rightB n d=q at *;have pA:AtL ((w.alloc (.cells #[.int .i64 1,.int .i64 n,.int .i64 d,.string t,.bool b,.int .i64 f] 31)).alloc (.cells #[.int .i64 1,.int .i64 0,.int .i64 0,.string ⟨#[]⟩,.bool false,.int .i64 0] 31)) w.heap.size [.int .i64 1,.int .i64 n,.int .i64 d,.string t,.bool b,.int .i64 f]:=(AtL.new0 w _ _).alloc _;have pO:AtL ((w.alloc (.cells #[.int .i64 1,.int .i64 n,.int .i64 d,.string t,.bool b,.int .i64 f] 31)).alloc (.cells #[.int .i64 1,.int .i64 0,.int .i64 0,.string ⟨#[]⟩,.bool false,.int .i64 0] 31)) (w.heap.size+1) [.int .i64 1,.int .i64 0,.int .i64 0,.string ⟨#[]⟩,.bool false,.int .i64 0]:=AtL.new1 w _ _ _;have hS:VrS w.heap.size (w.heap.size+1) 1 n d t b f ((w.alloc (.cells #[.int .i64 1,.int .i64 n,.int .i64 d,.string t,.bool b,.int .i64 f] 31)).alloc (.cells #[.int .i64 1,.int .i64 0,.int .i64 0,.string ⟨#[]⟩,.bool false,.int .i64 0] 31)):=zCK pA pO rfl;cases q
 all_goals
  go_enter func92,ntmps92;go_upto_region 6 with fail
  go_region_held3 (VrS w.heap.size (w.heap.size+1) 1 n d t b f)
   (with_reducible first | exact hS | assumption | exact zCK pA1 pO1 rfl | exact zCE (by assumption) (by omega) _ _ | exact zCE (zCE (by assumption) (by omega) _ _) (by omega) _ _ | exact zCK (AtL.drew pA) (AtL.drew pO) rfl)
   (first | (go_at_call 134;refine (C _).mono ?_;rintro e w1 ⟨rfl,hb⟩;have pA1:=AtL.below hb (AtL.drew pA);have pO1:=AtL.below hb (AtL.drew pO);obtain ⟨a0,a1,a2,a3,a4,a5⟩:=pA1.f6;obtain ⟨o0,o1,o2,o3,o4,o5⟩:=pO1.f6;have hB1:=zAB (zAM (zAM (Below.refl _ w) _) _).drew hb))
  all_goals
   go_wp2;go_ret;exact ⟨by simp,(clB hB1)⟩
theorem zO7 (n d:Int) (t:ByteArray) (b:Bool) (f:Int):(Wv.flt f && eqV 4 n d t b f 4 0 0 ⟨#[]⟩ false f)=Wv.right 4 n d t b f:=by
 unfold eqV Wv.right;rw [if_neg (by decide)];rw [if_neg (by decide)];rw [if_neg (by decide)];rw [if_neg (by decide)];rw [if_pos rfl];rw [Bool.eq_iff_iff];simp [and_assoc,zC3]
theorem zLZ (n d:Int) (t:ByteArray) (b:Bool) (f:Int) (w:World) :
  CR 92 #[.agg #[.int .i64 4,.int .i64 n,.int .i64 d,.string t,.bool b,.int .i64 f]] w (.bool (Wv.right 4 n d t b f)):=by
 rw [<-zO7];have C:=λw=>zEj f w
 have hq:=zBM 4 n d t b f 4 0 0 ⟨#[]⟩ false f;generalize eqV 4 n d t b f 4 0 0 ⟨#[]⟩ false f=R at *;generalize Wv.flt f=q at *;have pA:AtL ((w.alloc (.cells #[.int .i64 4,.int .i64 n,.int .i64 d,.string t,.bool b,.int .i64 f] 31)).alloc (.cells #[.int .i64 4,.int .i64 0,.int .i64 0,.string ⟨#[]⟩,.bool false,.int .i64 0] 31)) w.heap.size [.int .i64 4,.int .i64 n,.int .i64 d,.string t,.bool b,.int .i64 f]:=(AtL.new0 w _ _).alloc _;have pO:AtL ((w.alloc (.cells #[.int .i64 4,.int .i64 n,.int .i64 d,.string t,.bool b,.int .i64 f] 31)).alloc (.cells #[.int .i64 4,.int .i64 0,.int .i64 0,.string ⟨#[]⟩,.bool false,.int .i64 0] 31)) (w.heap.size+1) [.int .i64 4,.int .i64 0,.int .i64 0,.string ⟨#[]⟩,.bool false,.int .i64 0]:=AtL.new1 w _ _ _;have hS:VrS w.heap.size (w.heap.size+1) 4 n d t b f ((w.alloc (.cells #[.int .i64 4,.int .i64 n,.int .i64 d,.string t,.bool b,.int .i64 f] 31)).alloc (.cells #[.int .i64 4,.int .i64 0,.int .i64 0,.string ⟨#[]⟩,.bool false,.int .i64 0] 31)):=zCK pA pO rfl;cases q
 all_goals
  go_enter func92,ntmps92;go_upto_region 12 with fail
  go_region_held3 (VrS w.heap.size (w.heap.size+1) 4 n d t b f)
   (with_reducible first | exact hS | assumption | exact zCK pA1 pO1 rfl | exact zCE (by assumption) (by omega) _ _ | exact zCE (zCE (by assumption) (by omega) _ _) (by omega) _ _ | exact zCK (AtL.drew pA) (AtL.drew pO) rfl)
   (first | (go_at_call 136;refine (C _).mono ?_;rintro e w1 ⟨rfl,hb⟩;have pA1:=AtL.below hb (AtL.drew pA);have pO1:=AtL.below hb (AtL.drew pO);obtain ⟨a0,a1,a2,a3,a4,a5⟩:=pA1.f6;obtain ⟨o0,o1,o2,o3,o4,o5⟩:=pO1.f6;have hB1:=zAB (zAM (zAM (Below.refl _ w) _) _).drew hb))
  all_goals
   go_wp2;go_ret;exact ⟨by simp,(clB hB1)⟩
theorem zO6 (n d:Int) (t:ByteArray) (b:Bool) (f:Int):((decide (t.size<=256) && Wv.prts t.data.toList) && eqV 2 n d t b f 2 0 0 t false 0)=Wv.right 2 n d t b f:=by
 unfold eqV Wv.right;rw [if_neg (by decide)];rw [if_neg (by decide)];rw [if_pos rfl];rw [Bool.eq_iff_iff];simp [and_assoc,zC3]
theorem zNn (n d:Int) (t:ByteArray) (b:Bool) (f:Int):eqV 3 n d t b f 3 0 0 ⟨#[]⟩ b 0=Wv.right 3 n d t b f:=by
 unfold eqV Wv.right;rw [if_neg (by decide)];rw [if_neg (by decide)];rw [if_neg (by decide)];rw [if_pos rfl];rw [Bool.eq_iff_iff];simp [and_assoc,zC3]
theorem zLT (n d:Int) (t:ByteArray) (b:Bool) (f:Int) (w:World) :
  CR 92 #[.agg #[.int .i64 3,.int .i64 n,.int .i64 d,.string t,.bool b,.int .i64 f]] w (.bool (Wv.right 3 n d t b f)):=by
 rw [<-zNn];have hq:=zBM 3 n d t b f 3 0 0 ⟨#[]⟩ b 0;generalize eqV 3 n d t b f 3 0 0 ⟨#[]⟩ b 0=R at *;go_enter func92,ntmps92;go_wp2;go_ret;exact ⟨rfl,clA⟩
theorem zKU (k n d:Int) (t:ByteArray) (b:Bool) (f:Int) (w:World) (hk:k<0 \/ 4<k) :
  CR 92 #[.agg #[.int .i64 k,.int .i64 n,.int .i64 d,.string t,.bool b,.int .i64 f]] w (.bool (Wv.right k n d t b f)):=by
 have E:Hid (Wv.right k n d t b f=false):=by
  show _=_
  unfold Wv.right;rw [if_neg (by omega),if_neg (by omega),if_neg (by omega),if_neg (by omega),if_neg (by omega)]
 rw [E.out];clear E;go_enter func92,ntmps92;go_wp2;go_ret;exact ⟨rfl,clA⟩
theorem zKp (n d:Int) (t:ByteArray) (b:Bool) (f:Int) (w:World) (hs:t.size<=9223372036854775807) :
  CR 92 #[.agg #[.int .i64 2,.int .i64 n,.int .i64 d,.string t,.bool b,.int .i64 f]] w (.bool (Wv.right 2 n d t b f)):=by
 rw [<-zO6];have C:=λw=>zIE t w hs
 have hq:=zBM 2 n d t b f 2 0 0 t false 0;generalize eqV 2 n d t b f 2 0 0 t false 0=R at *;generalize Wv.prts t.data.toList=q at *;have pA:AtL ((w.alloc (.cells #[.int .i64 2,.int .i64 n,.int .i64 d,.string t,.bool b,.int .i64 f] 31)).alloc (.cells #[.int .i64 2,.int .i64 0,.int .i64 0,.string ⟨#[]⟩,.bool false,.int .i64 0] 31)) w.heap.size [.int .i64 2,.int .i64 n,.int .i64 d,.string t,.bool b,.int .i64 f]:=(AtL.new0 w _ _).alloc _;have pO:AtL ((w.alloc (.cells #[.int .i64 2,.int .i64 n,.int .i64 d,.string t,.bool b,.int .i64 f] 31)).alloc (.cells #[.int .i64 2,.int .i64 0,.int .i64 0,.string ⟨#[]⟩,.bool false,.int .i64 0] 31)) (w.heap.size+1) [.int .i64 2,.int .i64 0,.int .i64 0,.string ⟨#[]⟩,.bool false,.int .i64 0]:=AtL.new1 w _ _ _;have hS:VrS w.heap.size (w.heap.size+1) 2 n d t b f ((w.alloc (.cells #[.int .i64 2,.int .i64 n,.int .i64 d,.string t,.bool b,.int .i64 f] 31)).alloc (.cells #[.int .i64 2,.int .i64 0,.int .i64 0,.string ⟨#[]⟩,.bool false,.int .i64 0] 31)):=zCK pA pO rfl;by_cases hl:t.size<=256
 ·have hli:(t.size:Int)<=256:=by omega
  rw [decide_eq_true hl];cases q
  all_goals
   go_enter func92,ntmps92;go_upto_region 8 with fail
   go_region_held3 (VrS w.heap.size (w.heap.size+1) 2 n d t b f)
    (with_reducible first | exact hS | assumption | exact zCK pA1 pO1 rfl | exact zCE (by assumption) (by omega) _ _ | exact zCK (AtL.drew pA) (AtL.drew pO) rfl)
    (first | (go_at_call 135;refine (C _).mono ?_;rintro e w1 ⟨rfl,hb⟩;have pA1:=AtL.below hb (AtL.drew pA);have pO1:=AtL.below hb (AtL.drew pO);obtain ⟨a0,a1,a2,a3,a4,a5⟩:=pA1.f6;obtain ⟨o0,o1,o2,o3,o4,o5⟩:=pO1.f6;have hB1:=zAB (zAM (zAM (Below.refl _ w) _) _).drew hb))
   all_goals
    go_wp2;go_ret;exact ⟨by simp,(clB hB1)⟩
 ·have hli:¬ (t.size:Int)<=256:=by omega
  rw [decide_eq_false hl];go_enter func92,ntmps92;go_upto_region 8 with fail
  go_big_region
  all_goals
   go_wp2;go_ret;exact ⟨by simp,clA⟩
def vl6 (v:Wt.Vl):List Value:=[.int .i64 v.k,.int .i64 v.n,.int .i64 v.d,.string v.t,.bool v.b,.int .i64 v.f]
def rf5 (a:Wt.Rf):List Value:=[.string a.s,.int .i64 a.r,.int .i64 a.c,.bool a.fr,.bool a.fc]
def zAG (x:Wt.Nd):List Value:=[.int .i64 x.k,.int .i64 x.v.k,.int .i64 x.v.n,.int .i64 x.v.d,.string x.v.t,.bool x.v.b,.int .i64 x.v.f,.int .i64 x.op,.string x.nm,.int .i64 x.ar,.string x.a.s,.int .i64 x.a.r,.int .i64 x.a.c,.bool x.a.fr,.bool x.a.fc,.string x.b.s,.int .i64 x.b.r,.int .i64 x.b.c,.bool x.b.fr,.bool x.b.fc]
def vlV (v:Wt.Vl):Value:=.agg (vl6 v).toArray
def rfV (a:Wt.Rf):Value:=.agg (rf5 a).toArray
def ndV (x:Wt.Nd):Value:=.agg (zAG x).toArray
theorem zF1:(prog.info? 35).map (λi=>(i.zero,i.size,i.bytes))=some (some (.agg #[.int .i64 0,.int .i64 0,.int .i64 0,.int .i64 0,.string ⟨#[]⟩,.bool false,.int .i64 0,.int .i64 0,.string ⟨#[]⟩,.int .i64 0,.string ⟨#[]⟩,.int .i64 0,.int .i64 0,.bool false,.bool false,.string ⟨#[]⟩,.int .i64 0,.int .i64 0,.bool false,.bool false]),20,176):=by kernel_rfl
def opsR:List Value:=Wt.opsT.flatMap λx=>[.int .i64 x.1,.string ⟨x.2.1.toArray⟩,.int .i64 x.2.2]
def OpsAt (w:World):Prop:=w.rangeAt 1 0 opsR
theorem OpsAt.below (h:OpsAt w) (hb:Below w.heap.size w w'):OpsAt w':=λj v hv=>zAC hb (h j v hv)
theorem OpsAt.alloc (h:OpsAt w) (o:Obj):OpsAt (w.alloc o):=h.below ((Below.refl _ _).alloc (Nat.le_refl _) _)
theorem AtL.there (h:AtL W k us):W.there k 0 us.length:=λj hj =>
 ⟨by rw [Nat.zero_add,h.2.1 j us[j] (List.getElem?_eq_getElem hj)];rfl,by rw [Nat.zero_add];exact h.2.2 j hj⟩
theorem AtL.range (h:AtL W k us):W.rangeAt k 0 us:=λj v hv=>by rw [Nat.zero_add];exact h.2.1 j v hv
theorem zB4 (k:Nat):∀ (vs:List Value) (o:Nat) (W:World),(W.setCells k o vs).heap.size=W.heap.size
 | [],_,_=>rfl
 | v::r,o,W=>by rw [World.setCells,zB4 k r];simp [go_sem]
theorem AtL.setAll (h:AtL W k us) (hl:vs.length=us.length):AtL (W.setCells k 0 vs) k vs:=by
 refine ⟨by rw [zB4];exact h.1,λi v hv=>?_,λi hi=>?_⟩
 ·have:=World.rangeAt_setCells_same W k 0 vs (by rw [hl];exact h.there) i v hv;rw [Nat.zero_add] at this;exact this
 ·rw [World.frozen?_setCells];exact h.2.2 i (by omega)
theorem AtL.farAll {b:Nat} (h:AtL W k us) (hb:b ≠ k) (o:Nat) (vs:List Value):AtL (W.setCells b o vs) k us:=by
 refine ⟨by rw [zB4];exact h.1,λi v hv=>?_,λi hi=>?_⟩
 ·rw [World.cell?_setCells_out b vs o W _ (λh1=>absurd h1.symm hb)];exact h.2.1 i v hv
 ·rw [World.frozen?_setCells];exact h.2.2 i hi
theorem zAv (hb:Below w.heap.size w W) (hk:w.heap.size<=k):∀ (vs:List Value) (o:Nat),Below w.heap.size w (W.setCells k o vs):=by
 intro vs;induction vs generalizing W with
 | nil=>intro o;exact hb
 | cons v r ih=>intro o;rw [World.setCells];exact ih (hb.setCell (p:=⟨k,o,none⟩) hk v) (o+1)
def zAD (x:Wc.In) (tv:Value):List Value :=
 [.int .i64 x.op,.int .i64 x.a,.int .i64 x.b,.int .i64 x.v.k,.int .i64 x.v.n,.int .i64 x.v.d,.string x.v.t,.bool x.v.b,.int .i64 x.v.f,
  .int .i64 x.ce.s,.int .i64 x.ce.r,.int .i64 x.ce.c,
  .int .i64 x.ar.s,.int .i64 x.ar.t,.int .i64 x.ar.l,.int .i64 x.ar.b,.int .i64 x.ar.r,
  .int .i64 x.pr.s,.int .i64 x.pr.t,.int .i64 x.pr.l,.int .i64 x.pr.b,.int .i64 x.pr.r,tv]
abbrev inV (x:Wc.In) (tv:Value):Value:=.agg (zAD x tv).toArray
theorem zBp (id:Int) (w:World):Calls prog 143 #[.int .i64 id] w λe w'=>e=.returned (.bool (Wc.pairs id))/\w=w':=by
 have e:∀ b,Wc.pairs id=b->Hid (Wc.pairs id=b):=λ_ h=>h
 unfold Wc.pairs;by_cases h1:id=22
 ·subst h1;clear e;go_enter func143,ntmps143;go_wp2;go_ret;exact ⟨by simp,rfl⟩
 by_cases h2:id=23
 ·subst h2;clear e;go_enter func143,ntmps143;go_wp2;go_ret;exact ⟨by simp,rfl⟩
 have q1:(id == 22)=false:=by simp [h1]
 have q2:(id == 23)=false:=by simp [h2]
 rw [q1,q2];clear e h1 h2;go_enter func143,ntmps143;go_wp2;go_ret;exact ⟨by simp,rfl⟩
theorem zNa (o:Int):o=1 \/ o=2 \/ o=3 \/ o=4 \/ o=5 \/ o=6 \/ o=7 \/ o=8 \/ o=9 \/ o=10 \/ o=11 \/ o=12 \/ o=13 \/ o=14 \/ o=15 \/ o=16 \/ (o<1 \/ 16<o):=by omega
theorem zG8 (x:Wc.In) (tv:Value) (w:World):CR 99 #[inV x tv] w (.tuple #[.int .i64 (Wc.swO x.op x.b).1,.int .i64 (Wc.swO x.op x.b).2]):=by
 have pA:=AtL.new0 w 56 (zAD x tv);have hB:=zAM (Below.refl _ w) (.cells (zAD x tv).toArray 56);have c0:(w.alloc (.cells (zAD x tv).toArray 56)).cell? ⟨w.heap.size,0,none⟩=some (.int .i64 x.op):=pA.2.1 0 _ rfl;have c2:(w.alloc (.cells (zAD x tv).toArray 56)).cell? ⟨w.heap.size,2,none⟩=some (.int .i64 x.b):=pA.2.1 2 _ rfl;obtain ⟨q,hq⟩:∃ q,Wc.swO x.op x.b=q:=⟨_,rfl⟩
 rw [hq];have HQ:Hid (Wc.swO x.op x.b=q):=hq;clear hq pA;rcases zNa x.op with h | h | h | h | h | h | h | h | h | h | h | h | h | h | h | h | h
 case inr.inr.inr.inr.inr.inr.inr.inr.inr.inr.inr.inr.inr.inr.inr.inr =>
  have e:q=(0,0):=by
   have:=HQ.out;unfold Wc.swO at this;rw [<-this];repeat rw [if_neg (by omega)]
  have n1:(x.op == 1)=false:=by simp;omega
  have n2:(x.op == 2)=false:=by simp;omega
  have n3:(x.op == 3)=false:=by simp;omega
  have n4:(x.op == 4)=false:=by simp;omega
  have n5:(x.op == 5)=false:=by simp;omega
  have n6:(x.op == 6)=false:=by simp;omega
  have n7:(x.op == 7)=false:=by simp;omega
  have n8:(x.op == 8)=false:=by simp;omega
  have n9:(x.op == 9)=false:=by simp;omega
  have n10:(x.op == 10)=false:=by simp;omega
  have n11:(x.op == 11)=false:=by simp;omega
  have n12:(x.op == 12)=false:=by simp;omega
  have n13:(x.op == 13)=false:=by simp;omega
  have n14:(x.op == 14)=false:=by simp;omega
  have n15:(x.op == 15)=false:=by simp;omega
  have n16:(x.op == 16)=false:=by simp;omega
  clear HQ h;subst e;go_enter func99,ntmps99;go_upto_region 1 with fail
  generalize (w.alloc (.cells (zAD x tv).toArray 56))=W at *;go_wp2;go_ret2
  exact ⟨rfl,hB⟩
 all_goals
  have e:=HQ.out;rw [h] at c0 e;subst e;clear HQ h;go_enter func99,ntmps99;go_upto_region 1 with fail
  generalize (w.alloc (.cells (zAD x tv).toArray 56))=W at *;go_wp2;go_ret2
  exact ⟨rfl,hB⟩
def RdZ (w:World) (v:Value) (l:List Int):Prop:=∃ av cap,v=.slice av l.length cap/\∀ i (h:i<l.length),∃ bb off,av=some ⟨bb,off,none⟩/\w.cell? ⟨bb,off+i,none⟩=some (.int .i64 (l[i]))
theorem RdZ.below {v:Value} {l:List Int} (h:RdZ w v l) (hb:Below w.heap.size w w'):RdZ w' v l:=by
 obtain ⟨av,cap,e,h⟩:=h;refine ⟨av,cap,e,λi hi=>?_⟩;obtain ⟨bb,off,e1,h1⟩:=h i hi;exact ⟨bb,off,e1,zAC hb h1⟩
theorem RdZ.nil (w:World):RdZ w (.slice none 0 0) []:=⟨none,0,rfl,λi hi=>absurd hi (Nat.not_lt_zero _)⟩
theorem RdZ.one {b:Nat} (h:w.cell? ⟨b,0,none⟩=some (.int .i64 x)):RdZ w (.slice (some ⟨b,0,none⟩) 1 1) [x]:=by
 refine ⟨_,1,rfl,λi hi=>⟨b,0,rfl,?_⟩⟩;have:i=0:=by simp at hi;omega
 subst this;exact h
theorem RdZ.two {b:Nat} {y:Int} (h:w.cell? ⟨b,0,none⟩=some (.int .i64 x)) (h2:w.cell? ⟨b,1,none⟩=some (.int .i64 y)):RdZ w (.slice (some ⟨b,0,none⟩) 2 2) [x,y]:=by
 refine ⟨_,2,rfl,λi hi=>⟨b,0,rfl,?_⟩⟩;have:i=0 \/ i=1:=by simp at hi;omega
 rcases this with rfl | rfl
 ·exact h
 ·exact h2
def onw (o a b:Int) (tl:List Int) (at':Int):List Int × List Int :=
 if o=12 then ([at'+1,a],[b]) else if o=13 then ([],[a]) else if o=14 then ([at'+1],[a]) else if o=15 then (tl,[b]) else if o=16 then ([],[]) else ([at'+1],[])
def Bk (w:World) (tv v:Value):Prop:=v=tv \/ ∀ g,v.ownBlock=some g->w.heap.size<=g
theorem Bk.nil:Bk w tv (.slice none 0 0):=Or.inr λg e=>by cases e
theorem Bk.new {b c:Nat} (h:w.heap.size<=b):Bk w tv (.slice (some ⟨b,0,none⟩) n c):=Or.inr λg e=>by
 have e2:b=g:=by simpa [Value.ownBlock] using e
 subst e2;exact h
theorem Bk.own:Bk w tv tv:=Or.inl rfl
def OnP (w:World) (tv:Value) (w':World) (q:List Int × List Int) (e:Ending):Prop:=∃ c k,e=.returned (.tuple #[c,k])/\RdZ w' c q.1/\RdZ w' k q.2/\Bk w tv c/\Bk w tv k
theorem zIN (x:Wc.In) (tv:Value) (at':Int) (w:World) (h:x.op=12) (ha:0<=at'/\at'<=1000000):Calls prog 63 #[inV x tv,.int .i64 at'] w λe w'=>OnP w tv w' ([at'+1,x.a],[x.b]) e/\Below w.heap.size w w':=by
 have pA:=AtL.new0 w 56 (zAD x tv);have hB:=zAM (Below.refl _ w) (.cells (zAD x tv).toArray 56);have c0:(w.alloc (.cells (zAD x tv).toArray 56)).cell? ⟨w.heap.size,0,none⟩=some (.int .i64 x.op):=pA.2.1 0 _ rfl;have c1:(w.alloc (.cells (zAD x tv).toArray 56)).cell? ⟨w.heap.size,1,none⟩=some (.int .i64 x.a):=pA.2.1 1 _ rfl;have c2:(w.alloc (.cells (zAD x tv).toArray 56)).cell? ⟨w.heap.size,2,none⟩=some (.int .i64 x.b):=pA.2.1 2 _ rfl;have hlt:=pA.lt;have hw:IntKind.i64.wrap (at'+1)=at'+1:=by rw [IntKind.wrap_i64];omega
 rw [h] at c0;clear pA h ha;go_enter func63,ntmps63;go_upto_region 1 with fail
 generalize (w.alloc (.cells (zAD x tv).toArray 56))=W at *;go_upto_region 3 with fail
 go_region
 all_goals
  go_wp2_with fail
  go_ret2
  refine ⟨⟨_,_,rfl,RdZ.two ?_ ?_,RdZ.one ?_,Bk.new ?_,Bk.new ?_⟩,(clB hB)⟩;all_goals first
   | (simp;done)
   | (simp;omega)
   | omega
theorem zIV (x:Wc.In) (av:Option Addr) (n cap:Nat) (tl:List Int) (at':Int) (w:World) (h:x.op=13) (ha:0<=at'/\at'<=1000000) (hz:RdZ w (.slice av n cap) tl):Calls prog 63 #[inV x (.slice av n cap),.int .i64 at'] w λe w'=>OnP w (.slice av n cap) w' ([],[x.a]) e/\Below w.heap.size w w':=by
 have pA:=AtL.new0 w 56 (zAD x (.slice av n cap));have hB:=zAM (Below.refl _ w) (.cells (zAD x (.slice av n cap)).toArray 56);have c0:(w.alloc (.cells (zAD x (.slice av n cap)).toArray 56)).cell? ⟨w.heap.size,0,none⟩=some (.int .i64 x.op):=pA.2.1 0 _ rfl;have c1:(w.alloc (.cells (zAD x (.slice av n cap)).toArray 56)).cell? ⟨w.heap.size,1,none⟩=some (.int .i64 x.a):=pA.2.1 1 _ rfl;have c2:(w.alloc (.cells (zAD x (.slice av n cap)).toArray 56)).cell? ⟨w.heap.size,2,none⟩=some (.int .i64 x.b):=pA.2.1 2 _ rfl;have c22:(w.alloc (.cells (zAD x (.slice av n cap)).toArray 56)).cell? ⟨w.heap.size,22,none⟩=some (.slice av n cap):=pA.2.1 22 _ rfl;have hlt:=pA.lt;have hw:IntKind.i64.wrap (at'+1)=at'+1:=by rw [IntKind.wrap_i64];omega
 have HZ:Hid (RdZ w (.slice av n cap) tl):=hz;rw [h] at c0;clear pA h ha hz;go_enter func63,ntmps63;go_upto_region 1 with fail
 generalize (w.alloc (.cells (zAD x (.slice av n cap)).toArray 56))=W at *;go_upto_region 5 with fail
 go_region
 all_goals
  go_wp2_with fail
  go_ret2
  refine ⟨⟨_,_,rfl,RdZ.nil _,RdZ.one ?_,Bk.nil,Bk.new ?_⟩,(clB hB)⟩;all_goals first
   | (simp;done)
   | (simp;omega)
   | omega
theorem zH6 (x:Wc.In) (av:Option Addr) (n cap:Nat) (tl:List Int) (at':Int) (w:World) (h:x.op=14) (ha:0<=at'/\at'<=1000000) (hz:RdZ w (.slice av n cap) tl):Calls prog 63 #[inV x (.slice av n cap),.int .i64 at'] w λe w'=>OnP w (.slice av n cap) w' ([at'+1],[x.a]) e/\Below w.heap.size w w':=by
 have pA:=AtL.new0 w 56 (zAD x (.slice av n cap));have hB:=zAM (Below.refl _ w) (.cells (zAD x (.slice av n cap)).toArray 56);have c0:(w.alloc (.cells (zAD x (.slice av n cap)).toArray 56)).cell? ⟨w.heap.size,0,none⟩=some (.int .i64 x.op):=pA.2.1 0 _ rfl;have c1:(w.alloc (.cells (zAD x (.slice av n cap)).toArray 56)).cell? ⟨w.heap.size,1,none⟩=some (.int .i64 x.a):=pA.2.1 1 _ rfl;have c2:(w.alloc (.cells (zAD x (.slice av n cap)).toArray 56)).cell? ⟨w.heap.size,2,none⟩=some (.int .i64 x.b):=pA.2.1 2 _ rfl;have c22:(w.alloc (.cells (zAD x (.slice av n cap)).toArray 56)).cell? ⟨w.heap.size,22,none⟩=some (.slice av n cap):=pA.2.1 22 _ rfl;have hlt:=pA.lt;have hw:IntKind.i64.wrap (at'+1)=at'+1:=by rw [IntKind.wrap_i64];omega
 have HZ:Hid (RdZ w (.slice av n cap) tl):=hz;rw [h] at c0;clear pA h ha hz;go_enter func63,ntmps63;go_upto_region 1 with fail
 generalize (w.alloc (.cells (zAD x (.slice av n cap)).toArray 56))=W at *;go_upto_region 7 with fail
 go_region
 all_goals
  go_wp2_with fail
  go_ret2
  refine ⟨⟨_,_,rfl,RdZ.one ?_,RdZ.one ?_,Bk.new ?_,Bk.new ?_⟩,(clB hB)⟩;all_goals first
   | (simp;done)
   | (simp;omega)
   | omega
theorem zHU (x:Wc.In) (av:Option Addr) (n cap:Nat) (tl:List Int) (at':Int) (w:World) (h:x.op=15) (ha:0<=at'/\at'<=1000000) (hz:RdZ w (.slice av n cap) tl):Calls prog 63 #[inV x (.slice av n cap),.int .i64 at'] w λe w'=>OnP w (.slice av n cap) w' (tl,[x.b]) e/\Below w.heap.size w w':=by
 have pA:=AtL.new0 w 56 (zAD x (.slice av n cap));have hB:=zAM (Below.refl _ w) (.cells (zAD x (.slice av n cap)).toArray 56);have c0:(w.alloc (.cells (zAD x (.slice av n cap)).toArray 56)).cell? ⟨w.heap.size,0,none⟩=some (.int .i64 x.op):=pA.2.1 0 _ rfl;have c1:(w.alloc (.cells (zAD x (.slice av n cap)).toArray 56)).cell? ⟨w.heap.size,1,none⟩=some (.int .i64 x.a):=pA.2.1 1 _ rfl;have c2:(w.alloc (.cells (zAD x (.slice av n cap)).toArray 56)).cell? ⟨w.heap.size,2,none⟩=some (.int .i64 x.b):=pA.2.1 2 _ rfl;have c22:(w.alloc (.cells (zAD x (.slice av n cap)).toArray 56)).cell? ⟨w.heap.size,22,none⟩=some (.slice av n cap):=pA.2.1 22 _ rfl;have hlt:=pA.lt;have hw:IntKind.i64.wrap (at'+1)=at'+1:=by rw [IntKind.wrap_i64];omega
 have HZ:Hid (RdZ w (.slice av n cap) tl):=hz;rw [h] at c0;clear pA h ha hz;go_enter func63,ntmps63;go_upto_region 1 with fail
 generalize (w.alloc (.cells (zAD x (.slice av n cap)).toArray 56))=W at *;go_upto_region 9 with fail
 go_region
 all_goals
  go_wp2_with fail
  go_ret2
  refine ⟨⟨_,_,rfl,HZ.out.below (clB hB),RdZ.one ?_,Bk.own,Bk.new ?_⟩,(clB hB)⟩;all_goals first
   | (simp;done)
   | (simp;omega)
   | omega
theorem zHf (x:Wc.In) (av:Option Addr) (n cap:Nat) (tl:List Int) (at':Int) (w:World) (h:x.op=16) (ha:0<=at'/\at'<=1000000) (hz:RdZ w (.slice av n cap) tl):Calls prog 63 #[inV x (.slice av n cap),.int .i64 at'] w λe w'=>OnP w (.slice av n cap) w' ([],[]) e/\Below w.heap.size w w':=by
 have pA:=AtL.new0 w 56 (zAD x (.slice av n cap));have hB:=zAM (Below.refl _ w) (.cells (zAD x (.slice av n cap)).toArray 56);have c0:(w.alloc (.cells (zAD x (.slice av n cap)).toArray 56)).cell? ⟨w.heap.size,0,none⟩=some (.int .i64 x.op):=pA.2.1 0 _ rfl;have c1:(w.alloc (.cells (zAD x (.slice av n cap)).toArray 56)).cell? ⟨w.heap.size,1,none⟩=some (.int .i64 x.a):=pA.2.1 1 _ rfl;have c2:(w.alloc (.cells (zAD x (.slice av n cap)).toArray 56)).cell? ⟨w.heap.size,2,none⟩=some (.int .i64 x.b):=pA.2.1 2 _ rfl;have c22:(w.alloc (.cells (zAD x (.slice av n cap)).toArray 56)).cell? ⟨w.heap.size,22,none⟩=some (.slice av n cap):=pA.2.1 22 _ rfl;have hlt:=pA.lt;have hw:IntKind.i64.wrap (at'+1)=at'+1:=by rw [IntKind.wrap_i64];omega
 have HZ:Hid (RdZ w (.slice av n cap) tl):=hz;rw [h] at c0;clear pA h ha hz;go_enter func63,ntmps63;go_upto_region 1 with fail
 generalize (w.alloc (.cells (zAD x (.slice av n cap)).toArray 56))=W at *;all_goals
  go_wp2;go_ret2
  exact ⟨⟨_,_,rfl,RdZ.nil _,RdZ.nil _,Bk.nil,Bk.nil⟩,hB⟩
theorem zK5 (x:Wc.In) (av:Option Addr) (n cap:Nat) (at':Int) (w:World) (h:¬ (12<=x.op/\x.op<=16)) (ha:0<=at'/\at'<=1000000):Calls prog 63 #[inV x (.slice av n cap),.int .i64 at'] w λe w'=>OnP w (.slice av n cap) w' ([at'+1],[]) e/\Below w.heap.size w w':=by
 have pA:=AtL.new0 w 56 (zAD x (.slice av n cap));have hB:=zAM (Below.refl _ w) (.cells (zAD x (.slice av n cap)).toArray 56);have c0:(w.alloc (.cells (zAD x (.slice av n cap)).toArray 56)).cell? ⟨w.heap.size,0,none⟩=some (.int .i64 x.op):=pA.2.1 0 _ rfl;have c1:(w.alloc (.cells (zAD x (.slice av n cap)).toArray 56)).cell? ⟨w.heap.size,1,none⟩=some (.int .i64 x.a):=pA.2.1 1 _ rfl;have c2:(w.alloc (.cells (zAD x (.slice av n cap)).toArray 56)).cell? ⟨w.heap.size,2,none⟩=some (.int .i64 x.b):=pA.2.1 2 _ rfl;have c22:(w.alloc (.cells (zAD x (.slice av n cap)).toArray 56)).cell? ⟨w.heap.size,22,none⟩=some (.slice av n cap):=pA.2.1 22 _ rfl;have hlt:=pA.lt;have hw:IntKind.i64.wrap (at'+1)=at'+1:=by rw [IntKind.wrap_i64];omega
 have n12:(x.op == 12)=false:=by simp;omega
 have n13:(x.op == 13)=false:=by simp;omega
 have n14:(x.op == 14)=false:=by simp;omega
 have n15:(x.op == 15)=false:=by simp;omega
 have n16:(x.op == 16)=false:=by simp;omega
 clear pA h ha;go_enter func63,ntmps63;go_upto_region 1 with fail
 generalize (w.alloc (.cells (zAD x (.slice av n cap)).toArray 56))=W at *;go_wp2;go_ret2
 refine ⟨⟨_,_,rfl,RdZ.one ?_,RdZ.nil _,Bk.new ?_,Bk.nil⟩,(clB hB)⟩;all_goals first
  | (simp;done)
  | (simp;omega)
  | omega
theorem zBs (x:Wc.In) (av:Option Addr) (n cap:Nat) (tl:List Int) (at':Int) (w:World) (ha:0<=at'/\at'<=1000000) (hz:RdZ w (.slice av n cap) tl):Calls prog 63 #[inV x (.slice av n cap),.int .i64 at'] w λe w'=>OnP w (.slice av n cap) w' (onw x.op x.a x.b tl at') e/\Below w.heap.size w w':=by
 unfold onw;by_cases h12:x.op=12
 ·rw [if_pos h12];exact zIN x _ at' w h12 ha
 by_cases h13:x.op=13
 ·rw [if_neg h12,if_pos h13];exact zIV x av n cap tl at' w h13 ha hz
 by_cases h14:x.op=14
 ·rw [if_neg h12,if_neg h13,if_pos h14];exact zH6 x av n cap tl at' w h14 ha hz
 by_cases h15:x.op=15
 ·rw [if_neg h12,if_neg h13,if_neg h14,if_pos h15];exact zHU x av n cap tl at' w h15 ha hz
 by_cases h16:x.op=16
 ·rw [if_neg h12,if_neg h13,if_neg h14,if_neg h15,if_pos h16];exact zHf x av n cap tl at' w h16 ha hz
 rw [if_neg h12,if_neg h13,if_neg h14,if_neg h15,if_neg h16];exact zK5 x av n cap at' w (by omega) ha
end Go.Proofs.YtefkclbaflkheaaGreatDoor
namespace Go.Proofs.YtefkclbaflkheaaGreatDoor.Wc
def zGw (F:List (Nat × Int)):Nat->Nat->List Int
 | 0,_=>[]
 | _+1,0=>[]
 | f+1,k+1=>match F[k]? with
  | none=>[]
  | some x=>zGw F f x.1++[x.2]
structure Rows (F:List (Nat × Int)):Prop where
 ahead:∀ (k:Nat) (x:Nat × Int),F[k]? = some x->x.1<=k
 once:∀ (i j:Nat) (x:Nat × Int),F[i]? = some x->F[j]? = some x->i=j
theorem zBV (F:List (Nat × Int)) (f:Nat):zGw F f 0=[]:=by cases f <;> rfl
theorem zAt (F:List (Nat × Int)) (f k:Nat) (x:Nat × Int) (h:F[k]? = some x):zGw F (f+1) (k+1)=zGw F f x.1++[x.2]:=by
 simp only [zGw,h]
theorem zL1 {F:List (Nat × Int)} (h:Rows F):∀ (f m n:Nat),m<=f->n<=f->m<=F.length->n<=F.length->zGw F f m=zGw F f n->m=n:=by
 intro f;induction f with
 | zero=>intro m n hm hn _ _ _;omega
 | succ f ih =>
  intro m n hm hn hmF hnF e;cases m with
  | zero =>
   cases n with
   | zero=>rfl
   | succ k =>
    obtain ⟨x,hx⟩:∃ x,F[k]? = some x:=⟨_,List.getElem?_eq_getElem (by omega)⟩
    rw [zBV,zAt F f k x hx] at e;simp at e
  | succ j =>
   obtain ⟨y,hy⟩:∃ y,F[j]? = some y:=⟨_,List.getElem?_eq_getElem (by omega)⟩
   cases n with
   | zero =>
    rw [zBV,zAt F f j y hy] at e;simp at e
   | succ k =>
    obtain ⟨x,hx⟩:∃ x,F[k]? = some x:=⟨_,List.getElem?_eq_getElem (by omega)⟩
    rw [zAt F f j y hy,zAt F f k x hx] at e;obtain ⟨e1,e2⟩:=List.append_inj' e rfl;have a1:=h.ahead j y hy;have a2:=h.ahead k x hx;have e3:=ih y.1 x.1 (by omega) (by omega) (by omega) (by omega) e1;have e4:y.2=x.2:=by simpa using e2
    have e5:y=x:=Prod.ext e3 e4;rw [e5] at hy;rw [h.once j k x hy hx]
theorem zLH {F:List (Nat × Int)} (h:Rows F) (x:Nat × Int):∀ (f n:Nat),n<=F.length->zGw (F++[x]) f n=zGw F f n:=by
 intro f;induction f with
 | zero=>intro n _;rfl
 | succ f ih =>
  intro n hn;cases n with
  | zero=>rfl
  | succ k =>
   obtain ⟨y,hy⟩:∃ y,F[k]? = some y:=⟨_,List.getElem?_eq_getElem (by omega)⟩
   have hy2:(F++[x])[k]? = some y:=by rw [List.getElem?_append_left (by omega)];exact hy
   have a:=h.ahead k y hy;rw [zAt F f k y hy,zAt _ f k y hy2,ih y.1 (by omega)]
theorem Rows.app {F:List (Nat × Int)} (h:Rows F) {x:Nat × Int} (hx:x.1<=F.length) (hn:∀ k:Nat,F[k]? ≠ some x):Rows (F++[x]):=by
 have old:∀ (k:Nat) (y:Nat × Int),(F++[x])[k]? = some y->F[k]? = some y \/ (k=F.length/\y=x):=by
  intro k y e;by_cases hk:k<F.length
  ·rw [List.getElem?_append_left hk] at e;exact Or.inl e
  ·rw [List.getElem?_append_right (by omega)] at e;by_cases h0:k - F.length=0
   ·rw [h0] at e;simp at e;exact Or.inr ⟨by omega,e.symm⟩
   ·rw [List.getElem?_eq_none (by simp;omega)] at e;cases e
 refine ⟨λk y e=>?_,λi j y e1 e2=>?_⟩
 ·rcases old k y e with e | ⟨rfl,rfl⟩
  ·exact h.ahead k y e
  ·exact hx
 ·rcases old i y e1 with q1 | ⟨i1,y1⟩
  ·rcases old j y e2 with q2 | ⟨j1,y1⟩
   ·exact h.once i j y q1 q2
   ·rw [y1] at q1;exact absurd q1 (hn i)
  ·rcases old j y e2 with q2 | ⟨j1,_⟩
   ·rw [y1] at q2;exact absurd q2 (hn j)
   ·rw [i1,j1]
theorem Rows.nil:Rows []:=⟨λk x e=>by simp at e,λi j x e=>by simp at e⟩
theorem zCy {F:List (Nat × Int)} (h:Rows F):∀ (f n g:Nat),n<=f->n<=g->n<=F.length->zGw F f n=zGw F g n:=by
 intro f;induction f with
 | zero =>
  intro n g hn _ _;have e:n=0:=by omega
  rw [e,zBV,zBV]
 | succ f ih =>
  intro n g hn hg hF;cases n with
  | zero=>rw [zBV,zBV]
  | succ k =>
   obtain ⟨y,hy⟩:∃ y,F[k]? = some y:=⟨_,List.getElem?_eq_getElem (by omega)⟩
   have a:=h.ahead k y hy;cases g with
   | zero=>omega
   | succ g=>rw [zAt F f k y hy,zAt F g k y hy,ih y.1 g (by omega) (by omega) (by omega)]
end Go.Proofs.YtefkclbaflkheaaGreatDoor.Wc
namespace Go.Proofs.YtefkclbaflkheaaGreatDoor.Wc
def rw0 (F:List (Nat × Int)) (m:Nat):List Int:=zGw F m m
theorem zGA (F:List (Nat × Int)):rw0 F 0=[]:=rfl
theorem zIw {F:List (Nat × Int)} (h:Rows F) (x:Nat × Int) {m:Nat} (hm:m<=F.length):rw0 (F++[x]) m=rw0 F m:=zLH h x m m hm
theorem zNY {F:List (Nat × Int)} (h:Rows F) {m n:Nat} (hm:m<=F.length) (hn:n<=F.length) (e:rw0 F m=rw0 F n):m=n:=by
 unfold rw0 at e;rw [zCy h m m F.length (Nat.le_refl _) hm hm,zCy h n n F.length (Nat.le_refl _) hn hn] at e;exact zL1 h F.length m n hm hn hm hn e
theorem zD9 {F:List (Nat × Int)} (h:Rows F) {k:Nat} {x:Nat × Int} (e:F[k]? = some x):rw0 F (k+1)=rw0 F x.1++[x.2]:=by
 have hk:k<F.length:=by
  rcases Nat.lt_or_ge k F.length with g | g
  ·exact g
  ·rw [List.getElem?_eq_none g] at e;cases e
 have ha:=h.ahead k x e;unfold rw0;rw [zAt F k k x e,zCy h k x.1 x.1 ha (Nat.le_refl _) (by omega)]
def handP (h:Int × Nat):List Int->List (Option (Int × Nat))->Option (List (Option (Int × Nat)))
 | [],M=>some M
 | j::r,M=>match M.getD j.toNat none with
  | none=>handP h r (M.set j.toNat (some h))
  | some g=>if g=h then handP h r (M.set j.toNat (some h)) else none
def behF (F:List (Nat × Int)) (o a:Int) (m:Nat):Option (Nat × List (Nat × Int)) :=
 if o=6 then (match F.findIdx? (· == (m,a)) with | some k=>some (k+1,F) | none=>some (F.length+1,F++[(m,a)]))
 else if o=7 then (if m=0 then none else some (m,F))
 else if o=8 then (if m=0 \/ pairs (F.getD (m - 1) (0,0)).2=true then none else some (m,F))
 else if o=9 then (if m=0 \/ pairs (F.getD (m - 1) (0,0)).2=false then none else some (m,F))
 else if o=10 then (if m=0 then none else some ((F.getD (m - 1) (0,0)).1,F))
 else if o=16 then (if m=0 then some (m,F) else none)
 else some (m,F)
abbrev PS:=List (Option (Int × Nat)) × List (Nat × Int)
def stepP (i:Nat) (o a b:Int) (tl:List Int) (s:PS):Option PS :=
 match s.1.getD i none with
 | none=>none
 | some (v,m)=>match behF s.2 o a m with
  | none=>none
  | some (m2,F2)=>if v<(swO o b).1 \/ (o=16/\(swO o b).1<v) then none else
   match handP (v - (swO o b).1+(swO o b).2,m2) (onw o a b tl i).1 s.1 with
   | none=>none
   | some M1=>match handP (v,m) (onw o a b tl i).2 M1 with
    | none=>none
    | some M2=>some (M2,F2)
def zJh (o a:Int) (f:List Int):List Int:=if o=6 then f++[a] else if o=10 then f.dropLast else f
def zPb (n i:Nat) (o b:Int) (v:Int) (f:List Int):Bool :=
 decide (¬(o=16/\i+1<n)/\(nds o b).1<=v/\(nds o b).2.1<=f.length/\(o=16->v=1/\f.length=0)/\(o=8 \/ o=9->pairs (f.getLastD 0)=decide (o=9)))
theorem getD_set {α:Type} (l:List (Option α)) (i j:Nat) (x:Option α) (hi:i<l.length):(l.set i x).getD j none=if i=j then x else l.getD j none:=by
 simp only [List.getD_eq_getElem?_getD,List.getElem?_set];by_cases h:i=j
 ·subst h;simp [hi]
 ·simp [h]
theorem ops17 (o:Int):o=6 \/ o=7 \/ o=8 \/ o=9 \/ o=10 \/ o=16 \/ (o ≠ 6/\o ≠ 7/\o ≠ 8/\o ≠ 9/\o ≠ 10/\o ≠ 16):=by omega
theorem zHE {F:List (Nat × Int)} (h:Rows F) {m:Nat} (hm:m<=F.length) (h0:m ≠ 0):(F.getD (m - 1) (0,0)).1<=F.length/\rw0 F m=rw0 F (F.getD (m - 1) (0,0)).1++[(F.getD (m - 1) (0,0)).2]:=by
 cases m with
 | zero=>exact absurd rfl h0
 | succ k =>
  obtain ⟨x,hx⟩:∃ x,F[k]? = some x:=⟨_,List.getElem?_eq_getElem (by omega)⟩
  have e:F.getD (k+1 - 1) (0,0)=x:=by rw [Nat.add_sub_cancel,List.getD_eq_getElem?_getD,hx];rfl
  rw [e];have ha:=h.ahead k x hx;exact ⟨by omega,zD9 h hx⟩
def bst (o:Int) (f:List Int):Bool :=
 decide ((o=7 \/ o=8 \/ o=9 \/ o=10->1<=f.length)/\(o=16->f.length=0)/\(o=8 \/ o=9->pairs (f.getLastD 0)=decide (o=9)))
structure Beh (F:List (Nat × Int)) (o a:Int) (m m2:Nat) (F2:List (Nat × Int)):Prop where
 rows:Rows F2
 le:F.length<=F2.length
 old:∀ k:Nat,k<=F.length->rw0 F2 k=rw0 F k
 le2:m2<=F2.length
 row:rw0 F2 m2=zJh o a (rw0 F m)
theorem beh_some {F:List (Nat × Int)} (h:Rows F) {o a:Int} {m:Nat} (hm:m<=F.length) (hb:bst o (rw0 F m)=true):∃ m2 F2,behF F o a m=some (m2,F2)/\Beh F o a m m2 F2:=by
 simp only [bst,decide_eq_true_eq] at hb;obtain ⟨b1,b2,b3⟩:=hb;rcases ops17 o with rfl | rfl | rfl | rfl | rfl | rfl | ⟨n1,n2,n3,n4,n5,n6⟩
 ·have e0:behF F 6 a m=(match F.findIdx? (· == (m,a)) with | some k=>some (k+1,F) | none=>some (F.length+1,F++[(m,a)])):=by simp [behF]
  rw [e0];cases e:F.findIdx? (· == (m,a)) with
  | some k =>
   rw [List.findIdx?_eq_some_iff_getElem] at e;obtain ⟨g1,g2,_⟩:=e;have g3:F[k]=(m,a):=by simpa using g2
   have g4:F[k]? = some (m,a):=by rw [List.getElem?_eq_getElem g1,g3]
   exact ⟨k+1,F,rfl,h,Nat.le_refl _,λ_ _=>rfl,g1,by rw [zD9 h g4];simp [zJh]⟩
  | none =>
   rw [List.findIdx?_eq_none_iff] at e;have hno:∀ k:Nat,F[k]? ≠ some (m,a):=by
    intro k hk;have:=e (m,a) (List.mem_of_getElem? hk);simp at this
   have hr:=h.app (x:=(m,a)) hm hno;refine ⟨F.length+1,F++[(m,a)],rfl,hr,by simp,λk hk=>zIw h _ hk,by simp,?_⟩;have g:(F++[(m,a)])[F.length]? = some (m,a):=by simp
   rw [zD9 hr g,zIw h _ hm];simp [zJh]
 all_goals
  try
   have h0:m ≠ 0:=by
    intro e;subst e;simp [zGA] at b1
   obtain ⟨t1,t2⟩:=zHE h hm h0;rw [t2] at b3;simp only [List.getLastD_concat] at b3
 ·exact ⟨m,F,by simp [behF,h0],h,Nat.le_refl _,λ_ _=>rfl,hm,by simp [zJh]⟩
 ·have b4:=b3 (by simp);exact ⟨m,F,by simp only [behF];rw [b4];simp [h0],h,Nat.le_refl _,λ_ _=>rfl,hm,by simp [zJh]⟩
 ·have b4:=b3 (by simp);exact ⟨m,F,by simp only [behF];rw [b4];simp [h0],h,Nat.le_refl _,λ_ _=>rfl,hm,by simp [zJh]⟩
 ·exact ⟨_,F,by simp [behF,h0],h,Nat.le_refl _,λ_ _=>rfl,t1,by rw [t2];simp [zJh]⟩
 ·have h0:m=0:=by
   have q:=b2 rfl;have q2:rw0 F m=rw0 F 0:=by rw [zGA];exact List.eq_nil_of_length_eq_zero q
   exact zNY h hm (Nat.zero_le _) q2
  exact ⟨m,F,by simp [behF,h0],h,Nat.le_refl _,λ_ _=>rfl,hm,by simp [zJh]⟩
 ·exact ⟨m,F,by simp [behF,n1,n2,n3,n4,n5,n6],h,Nat.le_refl _,λ_ _=>rfl,hm,by simp [zJh,n1,n5]⟩
theorem beh_none {F:List (Nat × Int)} (h:Rows F) {o a:Int} {m:Nat} (hm:m<=F.length) (hb:bst o (rw0 F m)=false):behF F o a m=none:=by
 simp only [bst,decide_eq_false_iff_not] at hb;rcases ops17 o with rfl | rfl | rfl | rfl | rfl | rfl | ⟨n1,n2,n3,n4,n5,n6⟩
 ·exact absurd ⟨λq=>by omega,λq=>by omega,λq=>by omega⟩ hb
 all_goals
  try
   rcases Nat.eq_zero_or_pos m with h0 | hp
   ·subst h0;simp [behF]
   obtain ⟨t1,t2⟩:=zHE h hm (by omega);have h0:m ≠ 0:=by omega
   rw [t2] at hb;simp only [List.getLastD_concat,List.length_append,List.length_cons,List.length_nil] at hb
 ·exact absurd ⟨λq=>by omega,λq=>by omega,λq=>by omega⟩ hb
 ·simp only [behF];cases hq:pairs (F.getD (m - 1) (0,0)).2 with
  | true=>simp
  | false=>rw [hq] at hb;exact absurd ⟨λq=>by omega,λq=>by omega,λq=>rfl⟩ hb
 ·simp only [behF];cases hq:pairs (F.getD (m - 1) (0,0)).2 with
  | false=>simp
  | true=>rw [hq] at hb;exact absurd ⟨λq=>by omega,λq=>by omega,λq=>rfl⟩ hb
 ·exact absurd ⟨λq=>by omega,λq=>by omega,λq=>by omega⟩ hb
 ·have h0:m ≠ 0:=by
   intro e;subst e;exact hb ⟨λq=>by omega,λ_=>rfl,λq=>by omega⟩
  simp [behF,h0]
 ·exact absurd ⟨λq=>by omega,λq=>by omega,λq=>by omega⟩ hb
def runP {α:Type} (st:Nat->α->PS->Option PS):Nat->List α->PS->Bool
 | _,[],_=>true
 | i,x::r,s=>match st i x s with
  | none=>false
  | some s2=>runP st (i+1) r s2
def plc (rg:In->List Int->Bool) (n i:Nat) (x:In × List Int):Bool :=
 rg x.1 x.2 && (((x.1.op == 16) == (i+1 == n)) && (!(onw x.1.op x.1.a x.1.b x.2 i).1.any (λj=>decide (j<=(i:Int) \/ (n:Int)<=j)) && !(onw x.1.op x.1.a x.1.b x.2 i).2.any (λj=>decide (j<=(i:Int) \/ (n:Int)<=j))))
def plcs (rg:In->List Int->Bool) (n:Nat):Nat->List (In × List Int)->Bool
 | _,[]=>true
 | i,x::r=>plc rg n i x && plcs rg n (i+1) r
theorem plcs_iff (rg:In->List Int->Bool) (n:Nat):∀ (l:List (In × List Int)) (i:Nat),plcs rg n i l=true ↔ ∀ (k:Nat) (hk:k<l.length),plc rg n (i+k) (l[k])=true:=by
 intro l;induction l with
 | nil=>intro i;exact ⟨λ_ k hk=>absurd hk (Nat.not_lt_zero _),λ_=>rfl⟩
 | cons x r ih =>
  intro i;simp only [plcs,Bool.and_eq_true,ih (i+1)];constructor
  ·rintro ⟨h1,h2⟩ k hk;cases k with
   | zero=>exact h1
   | succ q =>
    have:=h2 q (by simp at hk;omega);simp only [List.getElem_cons_succ];rw [show i+(q+1)=i+1+q from by omega];exact this
  ·intro h;refine ⟨h 0 (by simp),λk hk=>?_⟩;have:=h (k+1) (by simp;omega);simp only [List.getElem_cons_succ] at this;rw [show i+1+k=i+(k+1) from by omega];exact this
def spI (i:Nat) (x:In × List Int) (s:PS):Option PS:=stepP i x.1.op x.1.a x.1.b x.2 s
def sP (n:Nat):PS:=((List.replicate n none).set 0 (some (0,0)),[])
def chkP (rg:In->List Int->Bool) (L:List (In × List Int)):Bool:=plcs rg L.length 0 L && (decide (0<L.length) && runP spI 0 L (sP L.length))
theorem zLc {l:List Int} {i n:Nat}:(!l.any (λj=>decide (j<=(i:Int) \/ (n:Int)<=j)))=true ↔ ∀ j ∈ l,(i:Int)<j/\j<(n:Int):=by
 simp only [Bool.not_eq_true',List.any_eq_false,decide_eq_true_eq];exact ⟨λh j hj=>by have:=h j hj;omega,λh j hj=>by have:=h j hj;omega⟩
theorem plc_iff (rg:In->List Int->Bool) (n i:Nat) (x:In × List Int):plc rg n i x=true ↔ rg x.1 x.2=true/\(x.1.op=16 ↔ i+1=n)/\(∀ j ∈ (onw x.1.op x.1.a x.1.b x.2 i).1,(i:Int)<j/\j<(n:Int))/\∀ j ∈ (onw x.1.op x.1.a x.1.b x.2 i).2,(i:Int)<j/\j<(n:Int):=by
 unfold plc;rw [Bool.and_eq_true,Bool.and_eq_true,Bool.and_eq_true,zLc,zLc];have e:((x.1.op == 16) == (i+1 == n))=true ↔ (x.1.op=16 ↔ i+1=n):=by
  rw [beq_iff_eq,Bool.eq_iff_iff,beq_iff_eq,beq_iff_eq]
 rw [e]
end Go.Proofs.YtefkclbaflkheaaGreatDoor.Wc
namespace Go.Proofs.YtefkclbaflkheaaGreatDoor
open Tryz
open Go.RowKit
variable {w:World} {B:Nat} {v:Value} {A:List Int}
def OwnZ (w:World) (B:Nat) (v:Value) (A:List Int):Prop:=w.ownsRow B 3 1 v A.length (A.map (Value.int .i64))
theorem OwnZ.nil (w:World) (B:Nat):OwnZ w B (.slice none 0 0) []:=⟨rfl,Or.inl ⟨rfl,rfl⟩⟩
theorem OwnZ.rd (h:OwnZ w B v A):RdZ w v A:=by
 rcases h.2 with ⟨e,h0⟩ | ⟨g,cap,cur,e,hb,hg,h1,h2,h3,h4⟩
 ·have hA:A=[]:=List.eq_nil_of_length_eq_zero h0;subst hA;rw [e];exact RdZ.nil w
 ·refine ⟨some ⟨g,0,none⟩,cap,e,λi hi=>⟨g,0,rfl,?_⟩⟩;have hx:(A.map (Value.int .i64))[i]? = some (.int .i64 (A[i])):=by simp [hi]
  rw [<-h4,List.getElem?_take_of_lt (by omega)] at hx;unfold World.cell?;simp only [hg];simpa using hx
theorem OwnZ.blk (h:OwnZ w B v A) {g:Nat} (e:v.ownBlock=some g):B<=g/\g<w.heap.size:=by
 rcases h.2 with ⟨rfl,_⟩ | ⟨g',cap,cur,rfl,hb,hg,_⟩
 ·cases e
 ·have e2:g'=g:=by simpa [Value.ownBlock] using e
  subst e2;refine ⟨hb,?_⟩;rcases Nat.lt_or_ge g' w.heap.size with q | q
  ·exact q
  ·rw [Array.getElem?_eq_none q] at hg;cases hg
theorem OwnZ.below {w':World} (h:OwnZ w B v A) (hb:Below w.heap.size w w'):OwnZ w' B v A:=by
 have hk:=λ{g} (e:v.ownBlock=some g)=>h.blk e
 refine ⟨h.1,?_⟩;rcases h.2 with q | ⟨g,cap,cur,rfl,h1,hg,r⟩
 ·exact Or.inl q
 ·exact Or.inr ⟨g,cap,cur,rfl,h1,by rw [hb.block g (hk rfl).2];exact hg,r⟩
theorem zJK:(prog.info? 3).map (λi=>(i.zero,i.size,i.bytes))=some (some (.int .i64 0),1,8):=by kernel_rfl
end Go.Proofs.YtefkclbaflkheaaGreatDoor
namespace Go.Proofs.YtefkclbaflkheaaGreatDoor
