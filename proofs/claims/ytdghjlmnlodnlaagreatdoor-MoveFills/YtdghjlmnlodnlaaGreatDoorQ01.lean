/- Plain, LPlain, VPlain, TPlain, WalkA, WalkB, PKit, LKit, LRun, VWalkA, VEq. -/
import Derived.Test.YtdghjlmnlodnlaaGreatDoorChecked
import Derived.WalkKit
import Derived.WalkSpells
import Derived.RowKit3
import Derived.Deep.QuietTactic
import Derived.BigQuiet
import Derived.Deep.RegionWith
import Derived.Deep.RegionHeld3
import Derived.Deep.DeepCutAuto
import Derived.Deep.Light
import Derived.Deep.CutBlock
import Derived.Lib.OthersKept
import Derived.Deep.LoopGhost
set_option maxHeartbeats 400000
set_option maxRecDepth 100000
namespace Go.Proofs.YtdghjlmnlodnlaaGreatDoor.Wnum
def rightB (n d:Int):Bool:=decide (-1000000000000<=n/\n<=1000000000000/\1<=d/\d<=1000000/\Int.gcd n d=1)
def cN (n d:Int):Int:=if rightB n d=true then n else 0
def cD (n d:Int):Int:=if rightB n d=true then d else 1
def okQ (r:Rat):Bool:=decide (-1000000000000<=r.num/\r.num<=1000000000000/\r.den<=1000000)
def oB:Option Rat->Bool
 | none=>false
 | some r=>okQ r
def oN:Option Rat->Int
 | none=>0
 | some r=>if okQ r=true then r.num else 0
def oD:Option Rat->Int
 | none=>0
 | some r=>if okQ r=true then (r.den:Int) else 0
def mk (n d:Int):Option Rat:=if d=0 then none else some (Rat.divInt n d)
theorem right_iff {n d:Int}:rightB n d=true ↔ (-1000000000000<=n/\n<=1000000000000/\1<=d/\d<=1000000/\Int.gcd n d=1):=by
 unfold rightB;exact decide_eq_true_iff
theorem cN_bd (n d:Int):-1000000000000<=cN n d/\cN n d<=1000000000000:=by
 unfold cN;split
 ·rename_i h;have:=right_iff.1 h;omega
 ·omega
theorem cD_bd (n d:Int):1<=cD n d/\cD n d<=1000000:=by
 unfold cD;split
 ·rename_i h;have:=right_iff.1 h;omega
 ·omega
theorem zQp (n d:Int):Int.gcd (cN n d) (cD n d)=1:=by
 unfold cN cD;split
 ·rename_i h;exact (right_iff.1 h).2.2.2.2
 ·rfl
theorem c_right (n d:Int):rightB (cN n d) (cD n d)=true :=
 right_iff.2 ⟨(cN_bd n d).1,(cN_bd n d).2,(cD_bd n d).1,(cD_bd n d).2,zQp n d⟩
theorem zDF {n d:Int} (hd:1<=d) (hg:Int.gcd n d=1):(Rat.divInt n d).num=n/\((Rat.divInt n d).den:Int)=d:=by
 rw [Rat.num_divInt,Rat.den_divInt];have h1:d.sign=1:=Int.sign_eq_one_of_pos (by omega);have h2:Int.gcd d n=1:=by rw [Int.gcd_comm];exact hg
 rw [if_neg (by omega),h1,h2];constructor
 ·simp
 ·simp;omega
theorem mk_zero (n:Int):mk n 0=none:=by simp [mk]
theorem mk_pos {n d:Int} (h:d ≠ 0):mk n d=some (Rat.divInt n d):=by simp [mk,h]
theorem zMm {n d:Int} (hd:1<=d):let g:Int:=Int.gcd n d
  1<=g/\1<=d / g/\d / g<=d/\(mk n d=some (Rat.divInt (n / g) (d / g)))/\(Rat.divInt n d).num=n / g/\(((Rat.divInt n d).den:Nat):Int)=d / g:=by
 intro g;have hg0:Int.gcd n d ≠ 0:=by
  intro h;rw [Int.gcd_eq_zero_iff] at h;omega
 have hg:1<=g:=by show (1:Int)<=(Int.gcd n d:Int);omega
 have hdv:g ∣ d:=Int.gcd_dvd_right ..;have hnv:g ∣ n:=Int.gcd_dvd_left ..;obtain ⟨k,hk⟩:=hdv;obtain ⟨m,hm⟩:=hnv;have hdg:d / g=k:=by rw [hk];exact Int.mul_ediv_cancel_left _ (by omega)
 have hng:n / g=m:=by rw [hm];exact Int.mul_ediv_cancel_left _ (by omega)
 have hk1:1<=k:=by
  rcases Int.lt_or_le 0 k with h | h
  ·omega
  ·have:g * k<=g * 0:=Int.mul_le_mul_of_nonneg_left h (by omega);omega
 have hkd:k<=d:=by
  rw [hk];have:1 * k<=g * k:=Int.mul_le_mul_of_nonneg_right hg (by omega);omega
 have hq:Rat.divInt n d=Rat.divInt m k:=by
  rw [hm,hk];exact Rat.divInt_mul_left (by omega)
 have hc:Int.gcd m k=1:=by
  have:=Int.gcd_mul_left g m k;rw [<-hm,<-hk] at this;have h2:g.natAbs=Int.gcd n d:=by show (Int.natAbs (Int.gcd n d:Int))=_;simp
  rw [h2] at this;have e:Int.gcd n d * Int.gcd m k=Int.gcd n d * 1:=by rw [Nat.mul_one];exact this.symm
  exact Nat.eq_of_mul_eq_mul_left (by omega) e
 rw [hdg,hng];refine ⟨hg,hk1,hkd,?_,?_,?_⟩
 ·rw [mk_pos (by omega),hq]
 ·rw [hq];exact (zDF hk1 hc).1
 ·rw [hq];exact (zDF hk1 hc).2
theorem mk_tdiv {n d:Int} (hd:1<=d) (hn:-9223372036854775807<=n) (hn':n<=9223372036854775807) :
  1<=((Int.gcd n d:Nat):Int) /\ -9223372036854775807<=n.tdiv ((Int.gcd n d:Nat):Int)/\n.tdiv ((Int.gcd n d:Nat):Int)<=9223372036854775807/\(Rat.divInt n d).num=n.tdiv ((Int.gcd n d:Nat):Int)/\(((Rat.divInt n d).den:Nat):Int)=d / ((Int.gcd n d:Nat):Int):=by
 obtain ⟨h1,_,_,_,h5,h6⟩:=zMm (n:=n) hd;have hdv:((Int.gcd n d:Nat):Int) ∣ n:=Int.gcd_dvd_left ..;have e:n.tdiv ((Int.gcd n d:Nat):Int)=n / ((Int.gcd n d:Nat):Int):=Int.tdiv_eq_ediv_of_dvd hdv;have b1:(n.tdiv ((Int.gcd n d:Nat):Int)).natAbs<=n.natAbs:=Int.natAbs_tdiv_le_natAbs ..;refine ⟨h1,by omega,by omega,by rw [e];exact h5,h6⟩
theorem zHN {o:Option Rat} (h:oB o=false):oN o=0/\oD o=0:=by
 cases o with
 | none=>exact ⟨rfl,rfl⟩
 | some r =>
  have h':okQ r=false:=h;exact ⟨by show (if okQ r=true then r.num else 0)=0;rw [h'];rfl,by show (if okQ r=true then (r.den:Int) else 0)=0;rw [h'];rfl⟩
theorem made_parts {n d:Int} (h0:0<=n) (hd:1<=d) :
  1<=((Int.gcd n d:Nat):Int)/\0<=n / ((Int.gcd n d:Nat):Int)/\n / ((Int.gcd n d:Nat):Int)<=n/\1<=d / ((Int.gcd n d:Nat):Int)/\d / ((Int.gcd n d:Nat):Int)<=d
  /\ (Rat.divInt n d).num=n / ((Int.gcd n d:Nat):Int)/\(((Rat.divInt n d).den:Nat):Int)=d / ((Int.gcd n d:Nat):Int)
  /\ (Rat.divInt (-n) d).num = -(n / ((Int.gcd n d:Nat):Int))/\(((Rat.divInt (-n) d).den:Nat):Int)=d / ((Int.gcd n d:Nat):Int):=by
 obtain ⟨h1,h2,h3,_,h5,h6⟩:=zMm (n:=n) hd;refine ⟨h1,Int.ediv_nonneg h0 (by omega),Int.ediv_le_self _ h0,h2,h3,h5,h6,?_,?_⟩
 ·rw [<-Rat.neg_divInt,Rat.neg_num,h5]
 ·rw [<-Rat.neg_divInt,Rat.neg_den,h6]
theorem oNs {r:Rat} (h:okQ r=true):oN (some r)=r.num/\oD (some r)=r.den/\oB (some r)=true :=
 ⟨by show (if okQ r=true then r.num else 0)=r.num;rw [if_pos h],by show (if okQ r=true then (r.den:Int) else 0)=r.den;rw [if_pos h],h⟩
theorem oNn {r:Rat} (h:okQ r=false):oN (some r)=0/\oD (some r)=0/\oB (some r)=false :=
 ⟨(zHN (o:=some r) h).1,(zHN (o:=some r) h).2,h⟩
theorem ok_iff {r:Rat}:okQ r=true ↔ (-1000000000000<=r.num/\r.num<=1000000000000/\(r.den:Int)<=1000000):=by
 unfold okQ;rw [decide_eq_true_iff];omega
theorem ok_not {r:Rat} (h:¬ (-1000000000000<=r.num/\r.num<=1000000000000/\(r.den:Int)<=1000000)):okQ r=false:=by
 rw [<-ok_iff] at h;simpa using h
end Go.Proofs.YtdghjlmnlodnlaaGreatDoor.Wnum
namespace Wlx
def dig (c:UInt8):Bool:=decide (48<=(c.toNat:Int)) && decide ((c.toNat:Int)<=57)
def cap (c:UInt8):Bool:=decide (65<=(c.toNat:Int)) && decide ((c.toNat:Int)<=90)
def low (c:UInt8):Bool:=decide (97<=(c.toNat:Int)) && decide ((c.toNat:Int)<=122)
def wrd (c:UInt8):Bool:=cap c || low c || decide ((c.toNat:Int)=36) || dig c
def prt (c:UInt8):Bool:=decide (32<=(c.toNat:Int)) && decide ((c.toNat:Int)<=126)
def runP (p:UInt8->Bool):List UInt8->Nat
 | []=>0
 | c::t=>if p c then runP p t+1 else 0
theorem runP_le (p:UInt8->Bool) (l:List UInt8):runP p l<=l.length:=by
 induction l with
 | nil=>exact Nat.le_refl _
 | cons c t ih =>
  unfold runP;split
  ·simp only [List.length_cons];omega
  ·exact Nat.zero_le _
theorem runP_pos {p:UInt8->Bool} {c:UInt8} {t:List UInt8} (h:p c=true):runP p (c::t)=runP p t+1:=by
 show (if p c then runP p t+1 else 0)=_
 rw [if_pos h]
theorem runP_neg {p:UInt8->Bool} {c:UInt8} {t:List UInt8} (h:p c=false):runP p (c::t)=0:=by
 show (if p c then runP p t+1 else 0)=_
 rw [if_neg (by rw [h];decide)]
def numTl (n:Nat):List UInt8->Nat
 | []=>n
 | c::t=>if c=46/\0<runP dig t then n+1+runP dig t else n
theorem numTl_cons (n:Nat) (c:UInt8) (t:List UInt8):numTl n (c::t)=if c=46/\0<runP dig t then n+1+runP dig t else n:=rfl
def numSz (l:List UInt8):Nat:=if runP dig l=0 then 0 else numTl (runP dig l) (l.drop (runP dig l))
def quo:Bool->Nat->List UInt8->Nat
 | w,i,[]=>if w then 0 else i
 | w,i,c::t=>if c=34 then quo (!w) (i+1) t else if w then quo w (i+1) t else i
def txtSz:List UInt8->Nat
 | []=>0
 | c::t=>if c=34 then quo true 1 t else 0
def begins:List UInt8->List UInt8->Bool
 | [],_=>true
 | _::_,[]=>false
 | a::p,b::t=>decide (a=b) && begins p t
def nameSz (l:List UInt8):List (List UInt8)->Nat
 | []=>0
 | n::r=>if begins n l then n.length else nameSz l r
def faults:List (List UInt8):=[[35,68,73,86,47,48,33],[35,86,65,76,85,69,33],[35,82,69,70,33],[35,78,85,77,33],[35,78,47,65],[35,67,73,82,67,76,69,33],[35,76,79,78,71,33],[35,65,82,71,33]]
def marks:List (List UInt8):=[[60,62],[60,61],[62,61],[43],[45],[42],[47],[94],[38],[37],[40],[41],[44],[58],[33],[61],[60],[62]]
def sz (k:Nat) (l:List UInt8):Nat :=
 if k=1 then numSz l else if k=2 then txtSz l else if k=3 then runP wrd l else if k=4 then nameSz l faults else if k=5 then nameSz l marks else 0
def undbl:List UInt8->List UInt8
 | []=>[]
 | [c]=>[c]
 | c::d::t=>if c=34/\d=34 then 34::undbl t else c::undbl (d::t)
def dbl:List UInt8->List UInt8
 | []=>[]
 | c::t=>if c=34 then 34::34::dbl t else c::dbl t
def said (k:Nat) (l:List UInt8):List UInt8:=if k=2 then undbl ((l.drop 1).take (l.length - 2)) else l
def zSX (k:Nat) (l:List UInt8):List UInt8:=if k=2 then 34::(dbl l++[34]) else l
theorem dbl_length (l:List UInt8):(dbl l).length<=2 * l.length:=by
 induction l with
 | nil=>exact Nat.le_refl _
 | cons c t ih =>
  unfold dbl;split <;> simp only [List.length_cons] <;> omega
end Wlx
namespace Go.Proofs.YtdghjlmnlodnlaaGreatDoor.Wv
def prts (l:List UInt8):Bool:=l.all Wlx.prt
theorem prts_cons (c:UInt8) (t:List UInt8):prts (c::t)=(Wlx.prt c && prts t):=rfl
def flt (f:Int):Bool:=decide (1<=f) && decide (f<=8)
def right (k n d:Int) (t:ByteArray) (b:Bool) (f:Int):Bool :=
 if k=0 then decide (n=0) && decide (d=0) && decide (t=⟨#[]⟩) && !b && decide (f=0)
 else if k=1 then Wnum.rightB n d && decide (t=⟨#[]⟩) && !b && decide (f=0)
 else if k=2 then (decide (t.size<=256) && prts t.data.toList) && decide (n=0) && decide (d=0) && !b && decide (f=0)
 else if k=3 then decide (n=0) && decide (d=0) && decide (t=⟨#[]⟩) && decide (f=0)
 else if k=4 then flt f && decide (n=0) && decide (d=0) && decide (t=⟨#[]⟩) && !b
 else false
end Go.Proofs.YtdghjlmnlodnlaaGreatDoor.Wv
namespace Go.Proofs.YtdghjlmnlodnlaaGreatDoor.Wt
structure Vl where
 k:Int
 n:Int
 d:Int
 t:ByteArray
 b:Bool
 f:Int
structure Rf where
 s:ByteArray
 r:Int
 c:Int
 fr:Bool
 fc:Bool
structure Nd where
 k:Int
 v:Vl
 op:Int
 nm:ByteArray
 ar:Int
 a:Rf
 b:Rf
def v0:Vl:=⟨0,0,0,⟨#[]⟩,false,0⟩
def r0:Rf:=⟨⟨#[]⟩,0,0,false,false⟩
def isNm (p:UInt8->Bool) (l:List UInt8):Bool:=decide (1<=l.length) && decide (l.length<=16) && p (l.headD 0) && l.all (λc=>p c || Wlx.dig c)
def ltr (c:UInt8):Bool:=Wlx.cap c || Wlx.low c
def fnNm (b:ByteArray):Bool:=isNm Wlx.cap b.data.toList
def shNm (b:ByteArray):Bool:=isNm ltr b.data.toList
def inR (r c:Int):Bool:=decide (0<=r) && decide (r<65536) && (decide (0<=c) && decide (c<256))
def rfOk (a:Rf):Bool:=inR a.r a.c && (decide (a.s=⟨#[]⟩) || shNm a.s)
def vlOk (v:Vl):Bool :=
 if v.k=0 then false
 else if v.k=1 then Wv.right v.k v.n v.d v.t v.b v.f && decide (0<=v.n) && decide (1000000 % v.d=0)
 else Wv.right v.k v.n v.d v.t v.b v.f
def opsT:List (Int × List UInt8 × Int) :=
 [(21,[61],0),(22,[60,62],0),(23,[60],0),(24,[60,61],0),(25,[62],0),(26,[62,61],0),(16,[38],1),(11,[43],2),(12,[45],2),(13,[42],3),(14,[47],3),(15,[94],4),(1,[45],5),(2,[43],5),(3,[37],6)]
def opOf (o:Int):Option (Int × List UInt8 × Int):=opsT.find? λx=>x.1 == o
def opAs (m:List UInt8) (t:Int):Option (Int × List UInt8 × Int):=opsT.find? λx=>(x.2.1 == m) && (x.2.2 == t)
def isBin (o:Int):Bool:=(decide (11<=o) && decide (o<=16)) || (decide (21<=o) && decide (o<=26))
def parts (x:Nd):Int:=if x.k=4 then 1 else if x.k=5 then 2 else x.ar
end Go.Proofs.YtdghjlmnlodnlaaGreatDoor.Wt
namespace Go.Proofs.YtdghjlmnlodnlaaGreatDoor
open Tryz
open Go.RowKit
theorem bQD {B:Nat} {a w:World} (h:Below B a w) (n:Nat):Below B a (w.drewN n):=⟨h.os,h.tape,h.output,h.size,h.block⟩
theorem bQE {w W w1:World} (h0:Below w.heap.size w W) (hb:Below W.heap.size W w1):Below w.heap.size w w1:=h0.trans (hb.mono h0.size)
theorem bQA {w W:World} (h:Below w.heap.size w W) (o:Obj):Below w.heap.size w (W.alloc o):=h.alloc h.size o
theorem clA {P:Prop} (h:P:=by with_reducible repeat (first | exact Below.refl _ _ | refine bQD ?_ _ | refine Below.setCell ?_ (by first | (simp;done) | (simp;omega) | omega) _ | refine Below.drew ?_ | refine bQE ?_ (by assumption) | refine bQA ?_ _)):P:=h
theorem clB {P Q:Prop} (h:P) (f:P->Q:=by (intro q;with_reducible repeat (first | exact q | refine bQD ?_ _ | refine Below.setCell ?_ (by first | (simp;done) | (simp;omega) | omega) _ | refine Below.drew ?_ | refine bQA ?_ _))):Q:=f h
abbrev CR (f:Nat) (x:Array Value) (w:World) (v:Value):Prop:=Calls prog f x w λe w'=>e=.returned v/\Below w.heap.size w w'
theorem lA {α:Type} (l:List α) (i:Nat) (a:α):l.toArray.setIfInBounds i a=(l.set i a).toArray:=by simp
theorem lZ {α:Type} (x a:α) (l:List α):(x::l).set 0 a=a::l:=rfl
theorem lS {α:Type} (x a:α) (l:List α) (i:Nat):(x::l).set (i+1) a=x::l.set i a:=rfl
abbrev zN0:Array Value:=#[.int .i64 0,.int .i64 0,.int .i64 0,.int .i64 0,.string ⟨#[]⟩,.bool false,.int .i64 0,.int .i64 0,.string ⟨#[]⟩,.int .i64 0,.string ⟨#[]⟩,.int .i64 0,.int .i64 0,.bool false,.bool false,.string ⟨#[]⟩,.int .i64 0,.int .i64 0,.bool false,.bool false]
abbrev zP0:Array Value:=#[.int .i64 0,.int .i64 0,.int .i64 0,.int .i64 0,.string ⟨#[]⟩,.bool false,.int .i64 0,.int .i64 0,.string ⟨#[]⟩,.int .i64 0,.string ⟨#[]⟩,.int .i64 0,.int .i64 0,.bool false,.bool false,.string ⟨#[]⟩,.int .i64 0,.int .i64 0,.bool false,.bool false,.slice none 0 0]
abbrev zR0:Array Value:=#[.string ⟨#[]⟩,.int .i64 0,.int .i64 0,.bool false,.bool false]
abbrev zV0:Array Value:=#[.int .i64 0,.int .i64 0,.int .i64 0,.string ⟨#[]⟩,.bool false,.int .i64 0]
open Go.RowKit
set_option linter.unusedVariables false
variable {W w W' w1:World} {k n:Nat} {a b c d e:Value} {vs:List Value} {r:Int}
theorem zCu {k:IntKind} {a b:Int} (h:a=b):Ending.returned (.int k a)=.returned (.int k b):=by rw [h]
theorem zC1 (a:Int) (w:World) (h1:-9223372036854775807<=a) (h2:a<=9223372036854775807) :
  Calls prog 162 #[.int .i64 a] w λe w'=>e=.returned (.int .i64 (a.natAbs:Int))/\w=w':=by
 by_cases h:a<0
 ·go_enter func162,ntmps162;go_wp2;go_ret;exact ⟨zCu (by omega),rfl⟩
 ·go_enter func162,ntmps162;go_wp2;go_ret;exact ⟨zCu (by omega),rfl⟩
theorem zCL (a b:Int) (w:World) (h1:-9223372036854775807<=a) (h2:a<=9223372036854775807) (h3:-9223372036854775807<=b) (h4:b<=9223372036854775807) :
  Calls prog 152 #[.int .i64 a,.int .i64 b] w λe w'=>e=.returned (.int .i64 (Int.gcd a b:Int))/\∃ n,w'=w.drewN n:=by
 have b1:a.natAbs<=9223372036854775807:=by omega
 have b2:b.natAbs<=9223372036854775807:=by omega
 have H:Hid (Nat.gcd a.natAbs b.natAbs=Int.gcd a b):=(rfl:Nat.gcd a.natAbs b.natAbs=Int.gcd a b)
 go_enter func152,ntmps152;go_wp2_with (go_at_call 162;refine (zC1 _ _ (by assumption) (by assumption)).mono ?_;rintro e w' ⟨rfl,rfl⟩)
 go_loopw [0,1] (λx y wr=>∃ p q:Nat,x=.int .i64 p/\y=.int .i64 q/\p<=9223372036854775807/\q<=9223372036854775807/\Hid (Nat.gcd p q=Int.gcd a b)/\∃ n,wr=w.drewN n) (λ_ y _=>(intOf y).toNat)
 case atStart=>exact ⟨a.natAbs,b.natAbs,rfl,rfl,b1,b2,H,0,rfl⟩
 case round =>
  obtain ⟨p,q,rfl,rfl,hp,hq,hg,n,rfl⟩:=hrel;by_cases hz:q=0
  ·subst hz;go_wp2;go_ret;exact ⟨zCu (by rw [<-hg.out,Nat.gcd_zero_right]),n,rfl⟩
  ·have hz':((q:Int) != 0)=true:=by simp;omega
   go_wp2;go_quiet (fail)
   go_wp2;go_roundw
   case rel=>exact ⟨q,p % q,rfl,by go_num,hq,by have:=Nat.mod_lt p (Nat.pos_of_ne_zero hz);omega,by exact (show Nat.gcd q (p % q)=Int.gcd a b by rw [<-hg.out,Nat.gcd_comm p q,Nat.gcd_rec q p,Nat.gcd_comm]),_,World.drewN_drewN ..⟩
   case measure=>simp [intOf];have:=Nat.mod_lt p (Nat.pos_of_ne_zero hz);omega
theorem zEB (n d:Int) (r:Rat) (w:World) (h1:-9223372036854775807<=n) (h2:n<=9223372036854775807) (hn:Hid (r.num=n)) (hd:Hid ((r.den:Int)=d)) :
  CR 211 #[.int .i64 n,.int .i64 d] w (.tuple #[.agg #[.int .i64 (Wnum.oN (some r)),.int .i64 (Wnum.oD (some r))],.bool (Wnum.oB (some r))]):=by
 by_cases c:n.natAbs<=1000000000000/\d<=1000000
 ·obtain ⟨c1,c2⟩:=c;have hok:Wnum.okQ r=true:=by unfold Wnum.okQ;rw [decide_eq_true_iff,hn.out];have:=hd.out;omega
  have e1:Hid (Wnum.oN (some r)=n):=by show (if Wnum.okQ r=true then r.num else 0)=n;rw [if_pos hok];exact hn.out
  have e2:Hid (Wnum.oD (some r)=d):=by show (if Wnum.okQ r=true then (r.den:Int) else 0)=d;rw [if_pos hok];exact hd.out
  have e3:Hid (Wnum.oB (some r)=true):=hok;rw [e1.out,e2.out,e3.out];clear hok e1 e2 e3;have t1:decide ((1000000000000:Int)<(n.natAbs:Int))=false:=by simp;omega
  have t2:decide ((1000000:Int)<d)=false:=by simp;omega
  go_enter func211,ntmps211;go_wp2_with (go_at_call 162;refine (zC1 _ _ (by assumption) (by assumption)).mono ?_;rintro e w' ⟨rfl,rfl⟩)
  exact bodyPost_ret (v:=.tuple #[.agg #[.int .i64 n,.int .i64 d],.bool true]) (by simp [results,results211,go_sem]) rfl ⟨rfl,(Below.refl _ _).alloc (Nat.le_refl _) _⟩
 ·have hok:Wnum.okQ r=false:=by unfold Wnum.okQ;rw [decide_eq_false_iff_not,hn.out];have:=hd.out;omega
  have e1:Hid (Wnum.oN (some r)=0):=by show (if Wnum.okQ r=true then r.num else 0)=0;rw [hok];rfl
  have e2:Hid (Wnum.oD (some r)=0):=by show (if Wnum.okQ r=true then (r.den:Int) else 0)=0;rw [hok];rfl
  have e3:Hid (Wnum.oB (some r)=false):=hok;rw [e1.out,e2.out,e3.out];clear hok e1 e2 e3;by_cases c1:n.natAbs<=1000000000000
  ·have t1:decide ((1000000000000:Int)<(n.natAbs:Int))=false:=by simp;omega
   have t2:decide ((1000000:Int)<d)=true:=by simp;omega
   clear c c1;go_enter func211,ntmps211;go_wp2_with (go_at_call 162;refine (zC1 _ _ (by assumption) (by assumption)).mono ?_;rintro e w' ⟨rfl,rfl⟩)
   exact bodyPost_ret (v:=.tuple #[.agg #[.int .i64 0,.int .i64 0],.bool false]) (by simp [results,results211,go_sem]) rfl ⟨rfl,(Below.refl _ _).alloc (Nat.le_refl _) _⟩
  ·have t1:decide ((1000000000000:Int)<(n.natAbs:Int))=true:=by simp;omega
   clear c c1;go_enter func211,ntmps211;go_wp2_with (go_at_call 162;refine (zC1 _ _ (by assumption) (by assumption)).mono ?_;rintro e w' ⟨rfl,rfl⟩)
   exact bodyPost_ret (v:=.tuple #[.agg #[.int .i64 0,.int .i64 0],.bool false]) (by simp [results,results211,go_sem]) rfl ⟨rfl,(Below.refl _ _).alloc (Nat.le_refl _) _⟩
theorem zAG {B:Nat} {a:World} (h:Below B a w) (n:Nat):Below B a (w.drewN n):=⟨h.os,h.tape,h.output,h.size,h.block⟩
theorem zHj (hb:Below W.heap.size W w1):(∀ b o,b<W.heap.size->w1.cell? ⟨b,o,none⟩=W.cell? ⟨b,o,none⟩)/\(∀ b o,b<W.heap.size->w1.frozen? ⟨b,o,none⟩=W.frozen? ⟨b,o,none⟩) :=
 ⟨λb o h=>hb.cell (p:=⟨b,o,none⟩) h,λb o h=>hb.frozen (p:=⟨b,o,none⟩) h⟩
theorem zAA (h0:Below w.heap.size w W) (hb:Below W.heap.size W w1):Below w.heap.size w w1:=h0.trans (hb.mono h0.size)
theorem zAI (h:Below w.heap.size w W) (o:Obj):Below w.heap.size w (W.alloc o):=h.alloc h.size o
theorem bsz (hb:Below W.heap.size W w1) (h:k<W.heap.size):k<w1.heap.size:=Nat.lt_of_lt_of_le h hb.size
theorem zA2 {a b:Bool} (h:a=b):Ending.returned (.bool a)=.returned (.bool b):=by rw [h]
theorem zC7 (n d:Int) (w:World) (h1:-9223372036854775808<=n) (h2:n<=9223372036854775807) (h3:-9223372036854775808<=d) (h4:d<=9223372036854775807) :
  CR 130 #[.agg #[.int .i64 n,.int .i64 d]] w (.bool (Wnum.rightB n d)):=by
 by_cases c1:n < -1000000000000
 ·have e:Hid (Wnum.rightB n d=false):=by show Wnum.rightB n d=false;unfold Wnum.rightB;rw [decide_eq_false_iff_not];omega
  rw [e.out];clear e;go_enter func130,ntmps130;go_wp2;go_ret;exact ⟨rfl,(Below.refl _ _).alloc (Nat.le_refl _) _⟩
 by_cases c2:1000000000000<n
 ·have e:Hid (Wnum.rightB n d=false):=by show Wnum.rightB n d=false;unfold Wnum.rightB;rw [decide_eq_false_iff_not];omega
  rw [e.out];clear e;go_enter func130,ntmps130;go_wp2;go_ret;exact ⟨rfl,(Below.refl _ _).alloc (Nat.le_refl _) _⟩
 by_cases c3:d<1
 ·have e:Hid (Wnum.rightB n d=false):=by show Wnum.rightB n d=false;unfold Wnum.rightB;rw [decide_eq_false_iff_not];omega
  rw [e.out];clear e;go_enter func130,ntmps130;go_wp2;go_ret;exact ⟨rfl,(Below.refl _ _).alloc (Nat.le_refl _) _⟩
 by_cases c4:1000000<d
 ·have e:Hid (Wnum.rightB n d=false):=by show Wnum.rightB n d=false;unfold Wnum.rightB;rw [decide_eq_false_iff_not];omega
  rw [e.out];clear e;go_enter func130,ntmps130;go_wp2;go_ret;exact ⟨rfl,(Below.refl _ _).alloc (Nat.le_refl _) _⟩
 have e:Hid ((((Int.gcd n d:Nat):Int) == 1)=Wnum.rightB n d):=by
  show _=_
  unfold Wnum.rightB;by_cases g:Int.gcd n d=1
  ·rw [g,decide_eq_true (by omega)];rfl
  ·rw [decide_eq_false (by omega),beq_eq_false_iff_ne];omega
 rw [<-e.out];clear e;go_enter func130,ntmps130;go_wp2_with (go_at_call 152;refine (zCL _ _ _ (by omega) (by omega) (by omega) (by omega)).mono ?_;rintro e w' ⟨rfl,nq,rfl⟩)
 go_ret;exact ⟨rfl,zAG ((Below.refl _ _).alloc (Nat.le_refl _) _) _⟩
theorem zCW (n d:Int) (w:World) (h1:-9223372036854775808<=n) (h2:n<=9223372036854775807) (h3:-9223372036854775808<=d) (h4:d<=9223372036854775807) :
  CR 160 #[.agg #[.int .i64 n,.int .i64 d]] w (.agg #[.int .i64 (Wnum.cN n d),.int .i64 (Wnum.cD n d)]):=by
 cases hr:Wnum.rightB n d with
 | true =>
  have e1:Wnum.cN n d=n:=by unfold Wnum.cN;rw [if_pos hr]
  have e2:Wnum.cD n d=d:=by unfold Wnum.cD;rw [if_pos hr]
  rw [e1,e2];clear e1 e2;have H:Hid (Wnum.rightB n d=true):=hr;clear hr;go_enter func160,ntmps160;go_wp2_with (go_at_call 130;refine (zC7 _ _ _ h1 h2 h3 h4).mono ?_;rintro e w1 ⟨rfl,hb⟩;rw [H.out];obtain ⟨hc,hf⟩:=zHj hb;have hz:w.heap.size+1<w1.heap.size:=by have:=hb.size;simp at this;omega)
  refine bodyPost_ret (v:=.agg #[.int .i64 n,.int .i64 d]) (by simp [results,results160,go_sem,hc]) rfl ⟨rfl,?_⟩;exact ((zAA (((Below.refl _ _).alloc (Nat.le_refl _) _).alloc (by simp) _) hb).setCell (by simp) _).setCell (by simp) _
 | false =>
  have e1:Wnum.cN n d=0:=by unfold Wnum.cN;rw [hr];rfl
  have e2:Wnum.cD n d=1:=by unfold Wnum.cD;rw [hr];rfl
  rw [e1,e2];clear e1 e2;have H:Hid (Wnum.rightB n d=false):=hr;clear hr;go_enter func160,ntmps160;go_wp2_with (go_at_call 130;refine (zC7 _ _ _ h1 h2 h3 h4).mono ?_;rintro e w1 ⟨rfl,hb⟩;rw [H.out];obtain ⟨hc,hf⟩:=zHj hb;have hz:w.heap.size+1<w1.heap.size:=by have:=hb.size;simp at this;omega)
  refine bodyPost_ret (v:=.agg #[.int .i64 0,.int .i64 1]) (by simp [results,results160,go_sem,hc]) rfl ⟨rfl,?_⟩;exact ((zAA (((Below.refl _ _).alloc (Nat.le_refl _) _).alloc (by simp) _) hb).setCell (by simp) _).setCell (by simp) _
theorem zIY {k:IntKind} {a b:Int} (h:a=b):Ending.returned (.int k a)=.returned (.int k b):=by rw [h]
theorem zAU {a b:Bool} (h:a=b):Ending.returned (.bool a)=.returned (.bool b):=by rw [h]
def AtL (W:World) (k:Nat) (vs:List Value):Prop :=
 k<W.heap.size/\(∀ i v,vs[i]? = some v->W.cell? ⟨k,i,none⟩=some v)/\(∀ i,i<vs.length->W.frozen? ⟨k,i,none⟩=false)
theorem AtL.lt (h:AtL W k vs):k<W.heap.size:=h.1
theorem AtL.new (W:World) (t:TypeId) {k:Nat} (hk:k=W.heap.size) (vs:List Value):AtL (W.alloc (.cells vs.toArray t)) k vs:=by
 subst hk;refine ⟨by simp [go_sem],λi v h=>?_,λi h=>?_⟩
 ·simp [go_sem,h]
 ·simp [go_sem]
theorem AtL.new0 (W:World) (t:TypeId) (vs:List Value):AtL (W.alloc (.cells vs.toArray t)) W.heap.size vs:=AtL.new W t rfl vs
theorem AtL.new1 (W:World) (o:Obj) (t:TypeId) (vs:List Value):AtL ((W.alloc o).alloc (.cells vs.toArray t)) (W.heap.size+1) vs:=AtL.new (W.alloc o) t (by simp only [World.size_alloc]) vs
theorem AtL.alloc (h:AtL W k vs) (o:Obj):AtL (W.alloc o) k vs:=by
 obtain ⟨h1,h2,h3⟩:=h;refine ⟨by simp [go_sem];omega,λi v hi=>?_,λi hi=>?_⟩
 ·rw [World.cell?_alloc_past _ _ _ h1];exact h2 i v hi
 ·rw [World.frozen?_alloc_old _ _ _ (by simp;omega)];exact h3 i hi
theorem AtL.below (hb:Below W.heap.size W W') {k:Nat} {vs:List Value} (h:AtL W k vs):AtL W' k vs:=by
 obtain ⟨h1,h2,h3⟩:=h;refine ⟨Nat.lt_of_lt_of_le h1 hb.size,λi v hi=>?_,λi hi=>?_⟩
 ·exact (hb.cell (p:=⟨k,i,none⟩) h1).trans (h2 i v hi)
 ·exact (hb.frozen (p:=⟨k,i,none⟩) h1).trans (h3 i hi)
theorem AtL.drew (h:AtL W k vs):AtL W.drew k vs:=AtL.below (Below.refl _ _).drew h
theorem AtL.far (h:AtL W k vs) {j:Nat} (hj:j ≠ k) (o:Nat) (v:Value):AtL (W.setCell ⟨j,o,none⟩ v) k vs:=by
 obtain ⟨h1,h2,h3⟩:=h;refine ⟨by simpa [go_sem] using h1,λi u hi=>?_,λi hi=>?_⟩
 ·rw [World.cell?_setCell_far _ _ _ _ (by simpa using hj)];exact h2 i u hi
 ·rw [World.frozen?_setCell];exact h3 i hi
theorem AtL.set (h:AtL W k vs) (o:Nat) (u:Value):AtL (W.setCell ⟨k,o,none⟩ u) k (vs.set o u):=by
 obtain ⟨h1,h2,h3⟩:=h;refine ⟨by simpa [go_sem] using h1,λi v hi=>?_,λi hi=>?_⟩
 ·by_cases e:o=i
  ·subst e;by_cases hl:o<vs.length
   ·rw [List.getElem?_set_self hl] at hi;obtain rfl:=Option.some.inj hi;exact World.cell?_setCell_same _ _ _ (h2 o vs[o] (List.getElem?_eq_getElem hl))
   ·rw [List.getElem?_eq_none (by simp;omega)] at hi;cases hi
  ·rw [List.getElem?_set_ne e] at hi;rw [World.cell?_setCell_other _ _ _ _ (by first | (simp;done) | (simp;omega))];exact h2 i v hi
 ·rw [World.frozen?_setCell];exact h3 i (by simpa using hi)
theorem AtL.two (h:AtL W k [a,b]) :
  W.cell? ⟨k,0,none⟩=some a/\W.cell? ⟨k,1,none⟩=some b/\W.frozen? ⟨k,0,none⟩=false/\W.frozen? ⟨k,1,none⟩=false :=
 ⟨h.2.1 0 a rfl,h.2.1 1 b rfl,h.2.2 0 (by simp),h.2.2 1 (by simp)⟩
theorem AtL.three (h:AtL W k [a,b,c]) :
  W.cell? ⟨k,0,none⟩=some a/\W.cell? ⟨k,1,none⟩=some b/\W.cell? ⟨k,2,none⟩=some c/\W.frozen? ⟨k,0,none⟩=false/\W.frozen? ⟨k,1,none⟩=false/\W.frozen? ⟨k,2,none⟩=false :=
 ⟨h.2.1 0 a rfl,h.2.1 1 b rfl,h.2.1 2 c rfl,h.2.2 0 (by simp),h.2.2 1 (by simp),h.2.2 2 (by simp)⟩
theorem AtL.five (h:AtL W k [a,b,c,d,e]) :
  W.cell? ⟨k,0,none⟩=some a/\W.cell? ⟨k,1,none⟩=some b/\W.cell? ⟨k,2,none⟩=some c/\W.cell? ⟨k,3,none⟩=some d/\W.cell? ⟨k,4,none⟩=some e /\
  W.frozen? ⟨k,0,none⟩=false/\W.frozen? ⟨k,1,none⟩=false/\W.frozen? ⟨k,2,none⟩=false/\W.frozen? ⟨k,3,none⟩=false/\W.frozen? ⟨k,4,none⟩=false :=
 ⟨h.2.1 0 a rfl,h.2.1 1 b rfl,h.2.1 2 c rfl,h.2.1 3 d rfl,h.2.1 4 e rfl,h.2.2 0 (by simp),h.2.2 1 (by simp),h.2.2 2 (by simp),h.2.2 3 (by simp),h.2.2 4 (by simp)⟩
abbrev zOg (W:World) (k:Nat) (a b c d e:Value):Prop :=
 W.cell? ⟨k,0,none⟩=some a/\W.cell? ⟨k,1,none⟩=some b/\W.cell? ⟨k,2,none⟩=some c/\W.cell? ⟨k,3,none⟩=some d/\W.cell? ⟨k,4,none⟩=some e
theorem zEV (hb:Below W.heap.size W W') {k:Nat} {a b c d e:Value} (h:zOg W k a b c d e):zOg W' k a b c d e:=by
 have hk:=World.block_lt_of_cell? W ⟨k,0,none⟩ h.1;obtain ⟨h0,h1,h2,h3,h4⟩:=h;exact ⟨(hb.cell (p:=⟨k,0,none⟩) hk).trans h0,(hb.cell (p:=⟨k,1,none⟩) hk).trans h1,(hb.cell (p:=⟨k,2,none⟩) hk).trans h2,(hb.cell (p:=⟨k,3,none⟩) hk).trans h3,(hb.cell (p:=⟨k,4,none⟩) hk).trans h4⟩
theorem zKY (h:zOg W k a b c d e):zOg W.drew k a b c d e:=zEV (Below.refl _ _).drew h
abbrev zEw (W:World) (k:Nat) (a b c:Value):Prop :=
 W.cell? ⟨k,0,none⟩=some a/\W.cell? ⟨k,1,none⟩=some b/\W.cell? ⟨k,2,none⟩=some c
theorem zDr (hb:Below W.heap.size W W') {k:Nat} {a b c:Value} (h:zEw W k a b c):zEw W' k a b c:=by
 have hk:=World.block_lt_of_cell? W ⟨k,0,none⟩ h.1;obtain ⟨h0,h1,h2⟩:=h;exact ⟨(hb.cell (p:=⟨k,0,none⟩) hk).trans h0,(hb.cell (p:=⟨k,1,none⟩) hk).trans h1,(hb.cell (p:=⟨k,2,none⟩) hk).trans h2⟩
theorem zIV (h:zEw W k a b c):zEw W.drew k a b c:=zDr (Below.refl _ _).drew h
theorem AtL.f5 (h:AtL W k [a,b,c,d,e]):zOg W k a b c d e:=⟨h.2.1 0 a rfl,h.2.1 1 b rfl,h.2.1 2 c rfl,h.2.1 3 d rfl,h.2.1 4 e rfl⟩
theorem AtL.f3 (h:AtL W k [a,b,c]):zEw W k a b c:=⟨h.2.1 0 a rfl,h.2.1 1 b rfl,h.2.1 2 c rfl⟩
theorem AtL.put3 (h:AtL W k [a,b,c]) (x y z:Value) :
  AtL (((W.setCell ⟨k,0,none⟩ x).setCell ⟨k,1,none⟩ y).setCell ⟨k,2,none⟩ z) k [x,y,z]:=((h.set 0 x).set 1 y).set 2 z
theorem AtL.far3 (h:AtL W k vs) {j:Nat} (hj:j ≠ k) (x y z:Value) :
  AtL (((W.setCell ⟨j,0,none⟩ x).setCell ⟨j,1,none⟩ y).setCell ⟨j,2,none⟩ z) k vs:=((h.far hj 0 x).far hj 1 y).far hj 2 z
theorem zAe (hb:Below n w W) (hk:n<=k) (x y z:Value) :
  Below n w (((W.setCell ⟨k,0,none⟩ x).setCell ⟨k,1,none⟩ y).setCell ⟨k,2,none⟩ z) :=
 ((hb.setCell (p:=⟨k,0,none⟩) hk x).setCell (p:=⟨k,1,none⟩) hk y).setCell (p:=⟨k,2,none⟩) hk z
theorem zBb (hb:Below n w W) (hk:n<=k) (x y z u v:Value) :
  Below n w (((((W.setCell ⟨k,0,none⟩ x).setCell ⟨k,1,none⟩ y).setCell ⟨k,2,none⟩ z).setCell ⟨k,3,none⟩ u).setCell ⟨k,4,none⟩ v) :=
 ((((hb.setCell (p:=⟨k,0,none⟩) hk x).setCell (p:=⟨k,1,none⟩) hk y).setCell (p:=⟨k,2,none⟩) hk z).setCell (p:=⟨k,3,none⟩) hk u).setCell (p:=⟨k,4,none⟩) hk v
theorem zAM (hb:Below W.heap.size W W') {k o:Nat} {v:Value} (h:W.cell? ⟨k,o,none⟩=some v):W'.cell? ⟨k,o,none⟩=some v :=
 (hb.cell (p:=⟨k,o,none⟩) (World.block_lt_of_cell? W ⟨k,o,none⟩ h)).trans h
theorem zCA (c:UInt8):(0:Int)<=(c.toNat:Int)/\(c.toNat:Int)<=255:=by have:=c.toNat_lt;omega
theorem zDW (r:Int) (w:World):Calls prog 110 #[.int .i32 r] w λe w'=>e=.returned (.bool (decide (48<=r) && decide (r<=57)))/\w=w':=by
 go_enter func110,ntmps110;by_cases a:48<=r
 ·go_wp2;go_ret;exact ⟨zAU (by simp [a]),rfl⟩
 ·go_wp2;go_ret;exact ⟨zAU (by rw [decide_eq_false (by omega)];rfl),rfl⟩
theorem zD8 (r:Int) (w:World):Calls prog 52 #[.int .i32 r] w λe w'=>e=.returned (.bool (decide (32<=r) && decide (r<=126)))/\w=w':=by
 go_enter func52,ntmps52;by_cases a:32<=r
 ·go_wp2;go_ret;exact ⟨zAU (by simp [a]),rfl⟩
 ·go_wp2;go_ret;exact ⟨zAU (by rw [decide_eq_false (by omega)];rfl),rfl⟩
theorem zFe (r:Int) (w:World):Calls prog 82 #[.int .i32 r] w λe w'=>e=.returned (.bool ((decide (65<=r) && decide (r<=90)) || (decide (97<=r) && decide (r<=122)) || decide (r=36) || (decide (48<=r) && decide (r<=57))))/\w=w':=by
 have hU:undef=Value.tuple #[]:=rfl;go_enter func82,ntmps82;by_cases a:65<=r/\r<=90
 ·obtain ⟨a1,a2⟩:=a;go_wp2;go_ret;exact ⟨zAU (by simp [a1,a2]),rfl⟩
 ·by_cases b:97<=r/\r<=122
  ·obtain ⟨a1,a2⟩:=b;have a3:65<=r:=by omega
   have a4:¬ r<=90:=by omega
   go_wp2;go_ret;exact ⟨zAU (by simp),rfl⟩
  ·by_cases c:r=36
   ·subst c;go_wp2;go_ret;exact ⟨rfl,rfl⟩
   ·have E:Hid (((decide (65<=r) && decide (r<=90)) || (decide (97<=r) && decide (r<=122)) || decide (r=36) || (decide (48<=r) && decide (r<=57)))=(decide (48<=r) && decide (r<=57))):=by
     show _=_
     have e1:(decide (65<=r) && decide (r<=90))=false:=by simp;omega
     have e2:(decide (97<=r) && decide (r<=122))=false:=by simp;omega
     rw [e1,e2,decide_eq_false c];rfl
    have fin:∀ w',w=w'->Calls prog 110 #[.int .i32 r] w' λe w'=>e=.returned (.bool (decide (48<=r) && decide (r<=57)))/\w=w':=λw' h=>by rw [<-h];exact zDW r w
    rw [E.out];generalize (decide (48<=r) && decide (r<=57))=bb at fin;clear E;by_cases d:65<=r
    ·have d2:¬ r<=90:=by omega
     by_cases f:97<=r
     ·have f2:¬ r<=122:=by omega
      go_wp2_with fail
      refine (fin _ rfl).mono ?_;rintro e w1 ⟨rfl,rfl⟩;go_wp2;go_ret;exact ⟨zAU (by simp [c]),rfl⟩
     ·go_wp2_with fail
      refine (fin _ rfl).mono ?_;rintro e w1 ⟨rfl,rfl⟩;go_wp2;go_ret;exact ⟨zAU (by simp [c]),rfl⟩
    ·have f:¬ 97<=r:=by omega
     go_wp2_with fail
     refine (fin _ rfl).mono ?_;rintro e w1 ⟨rfl,rfl⟩;go_wp2;go_ret;exact ⟨zAU (by simp [c]),rfl⟩
theorem zA7 (b:ByteArray) (i:Nat) (h:i<b.size):b.data.toList.drop i=b[i]::b.data.toList.drop (i+1):=List.drop_eq_getElem_cons (by simpa using h)
theorem zAk (b:ByteArray) (i:Nat) (h:¬ i<b.size):b.data.toList.drop i=[]:=List.drop_eq_nil_of_le (by have:b.data.toList.length=b.size:=rfl;omega)
theorem zD9 (b:ByteArray) (i:Nat) (h:i<b.size):((b[i]).toNat<128/\Utf8.decode b i=((b[i]).toNat,1)) \/ (128<=(b[i]).toNat/\128<=(Utf8.decode b i).1):=by
 by_cases c:(b[i]).toNat<128
 ·exact Or.inl ⟨c,decode_ascii b i h c⟩
 ·exact Or.inr ⟨by omega,(decode_high b i h (by omega)).1⟩
theorem zPT {c:UInt8} (h:128<=c.toNat):Wlx.dig c=false:=by unfold Wlx.dig;simp;omega
theorem zOx {c:UInt8} (h:128<=c.toNat):Wlx.prt c=false:=by unfold Wlx.prt;simp;omega
theorem zOv {c:UInt8} (h:128<=c.toNat):Wlx.wrd c=false:=by unfold Wlx.wrd Wlx.cap Wlx.low Wlx.dig;simp;omega
def zD7 (r:Int):Bool:=(decide (48<=r) && decide (r<=57))
theorem zHk (h:128<=r):zD7 r=false:=by unfold zD7;simp;omega
theorem zFQ (b:ByteArray) (w:World) (hs:b.size<=9223372036854775807):CR 51 #[.string b,.func (.func 110) #[] #[]] w (.int .i64 (Wlx.runP Wlx.dig b.data.toList:Nat)):=by
 have C:∀ (r:Int) (w:World),Calls prog 110 #[.int .i32 r] w λe w'=>e=.returned (.bool (zD7 r))/\w=w':=λr w=>zDW r w
 go_enter func51,ntmps51;go_wp2_with fail
 go_loopw [5] (λ_ wr=>∃ pos:Nat,pos<=b.size/\wr.heap[w.heap.size]? = some (.stringIter b pos)/\Hid (Wlx.runP Wlx.dig b.data.toList=pos+Wlx.runP Wlx.dig (b.data.toList.drop pos))/\Below w.heap.size w wr) (λ_ wr=>b.size - wr.iterPos w.heap.size)
 case atStart=>exact ⟨0,Nat.zero_le _,World.iter_heap w b 0,(by simp:Wlx.runP Wlx.dig b.data.toList=0+Wlx.runP Wlx.dig (b.data.toList.drop 0)),(Below.refl _ w).alloc (Nat.le_refl _) _⟩
 case round =>
  obtain ⟨pos,hp,hit,HR,hb⟩:=hrel;by_cases hlt:pos<b.size
  ·have nx:=λty=>Lib.run_next_any_at (P:=prog) wr w.heap.size b pos ty hit hlt
   have hk2:=λq=>Lib.iterAt_heap wr w.heap.size b pos q hit
   have hb2:=λq=>Lib.below_iterAt hb (Nat.le_refl w.heap.size) b q
   rcases zD9 b pos hlt with ⟨hc,e⟩ | ⟨hc,e⟩
   ·rw [e] at nx;cases hq:zD7 ((b[pos]).toNat:Int) with
    | true =>
     have E:Hid (Wlx.runP Wlx.dig b.data.toList=(pos+1)+Wlx.runP Wlx.dig (b.data.toList.drop (pos+1))):=by
      show _=_
      rw [HR.out,zA7 b pos hlt,Wlx.runP_pos hq];omega
     have hi:=hk2 (pos+1);have hbb:=hb2 (pos+1);have hm:wr.iterPos w.heap.size=pos:=by simp [World.iterPos,hit]
     have hm2:(wr.iterAt w.heap.size b (pos+1)).iterPos w.heap.size=pos+1:=by simp [World.iterPos,hi]
     clear HR hk2 hb2;go_wp2_with fail
     refine (C _ _).mono ?_;rintro e w1 ⟨rfl,rfl⟩;go_wp2_with fail
     go_roundw
     case rel=>exact ⟨pos+1,hlt,hi,E,hbb⟩
     case measure=>rw [hm,hm2];omega
    | false =>
     have E:Hid (Wlx.runP Wlx.dig b.data.toList=pos):=by
      show _=_
      rw [HR.out,zA7 b pos hlt,Wlx.runP_neg hq];rfl
     have hbb:=hb2 (pos+1);clear HR hk2 hb2;go_wp2_with fail
     refine (C _ _).mono ?_;rintro e w1 ⟨rfl,rfl⟩;go_wp2;go_ret;exact ⟨by rw [E.out];rfl,hbb⟩
   ·have E:Hid (Wlx.runP Wlx.dig b.data.toList=pos):=by
     show _=_
     rw [HR.out,zA7 b pos hlt,Wlx.runP_neg (zPT hc)];rfl
    obtain ⟨rv,hrv⟩:∃ rv:Nat,(Utf8.decode b pos).1=rv:=⟨_,rfl⟩
    obtain ⟨n,hn⟩:∃ n:Nat,(Utf8.decode b pos).2=n:=⟨_,rfl⟩
    rw [hrv,hn] at nx;rw [hrv] at e;have hq:zD7 (rv:Int)=false:=zHk (by omega);have hbb:=hb2 (pos+n);clear HR hk2 hb2 hrv hn e;go_wp2_with fail
    refine (C _ _).mono ?_;rintro e w1 ⟨rfl,rfl⟩;go_wp2;go_ret;exact ⟨by rw [E.out];rfl,hbb⟩
  ·have nx:=λty=>Lib.run_next_end_at (P:=prog) wr w.heap.size b pos ty hit hlt
   have E:Hid (Wlx.runP Wlx.dig b.data.toList=b.size):=by
    show _=_
    rw [HR.out,zAk b pos hlt];simp [Wlx.runP];omega
   clear HR;go_wp2;go_ret;exact ⟨by rw [E.out];rfl,hb⟩
def zDZ (r:Int):Bool:=(decide (32<=r) && decide (r<=126))
theorem zIX (h:128<=r):zDZ r=false:=by unfold zDZ;simp;omega
theorem zJR (b:ByteArray) (w:World) (hs:b.size<=9223372036854775807):CR 51 #[.string b,.func (.func 52) #[] #[]] w (.int .i64 (Wlx.runP Wlx.prt b.data.toList:Nat)):=by
 have C:∀ (r:Int) (w:World),Calls prog 52 #[.int .i32 r] w λe w'=>e=.returned (.bool (zDZ r))/\w=w':=λr w=>zD8 r w
 go_enter func51,ntmps51;go_wp2_with fail
 go_loopw [5] (λ_ wr=>∃ pos:Nat,pos<=b.size/\wr.heap[w.heap.size]? = some (.stringIter b pos)/\Hid (Wlx.runP Wlx.prt b.data.toList=pos+Wlx.runP Wlx.prt (b.data.toList.drop pos))/\Below w.heap.size w wr) (λ_ wr=>b.size - wr.iterPos w.heap.size)
 case atStart=>exact ⟨0,Nat.zero_le _,World.iter_heap w b 0,(by simp:Wlx.runP Wlx.prt b.data.toList=0+Wlx.runP Wlx.prt (b.data.toList.drop 0)),(Below.refl _ w).alloc (Nat.le_refl _) _⟩
 case round =>
  obtain ⟨pos,hp,hit,HR,hb⟩:=hrel;by_cases hlt:pos<b.size
  ·have nx:=λty=>Lib.run_next_any_at (P:=prog) wr w.heap.size b pos ty hit hlt
   have hk2:=λq=>Lib.iterAt_heap wr w.heap.size b pos q hit
   have hb2:=λq=>Lib.below_iterAt hb (Nat.le_refl w.heap.size) b q
   rcases zD9 b pos hlt with ⟨hc,e⟩ | ⟨hc,e⟩
   ·rw [e] at nx;cases hq:zDZ ((b[pos]).toNat:Int) with
    | true =>
     have E:Hid (Wlx.runP Wlx.prt b.data.toList=(pos+1)+Wlx.runP Wlx.prt (b.data.toList.drop (pos+1))):=by
      show _=_
      rw [HR.out,zA7 b pos hlt,Wlx.runP_pos hq];omega
     have hi:=hk2 (pos+1);have hbb:=hb2 (pos+1);have hm:wr.iterPos w.heap.size=pos:=by simp [World.iterPos,hit]
     have hm2:(wr.iterAt w.heap.size b (pos+1)).iterPos w.heap.size=pos+1:=by simp [World.iterPos,hi]
     clear HR hk2 hb2;go_wp2_with fail
     refine (C _ _).mono ?_;rintro e w1 ⟨rfl,rfl⟩;go_wp2_with fail
     go_roundw
     case rel=>exact ⟨pos+1,hlt,hi,E,hbb⟩
     case measure=>rw [hm,hm2];omega
    | false =>
     have E:Hid (Wlx.runP Wlx.prt b.data.toList=pos):=by
      show _=_
      rw [HR.out,zA7 b pos hlt,Wlx.runP_neg hq];rfl
     have hbb:=hb2 (pos+1);clear HR hk2 hb2;go_wp2_with fail
     refine (C _ _).mono ?_;rintro e w1 ⟨rfl,rfl⟩;go_wp2;go_ret;exact ⟨by rw [E.out];rfl,hbb⟩
   ·have E:Hid (Wlx.runP Wlx.prt b.data.toList=pos):=by
     show _=_
     rw [HR.out,zA7 b pos hlt,Wlx.runP_neg (zOx hc)];rfl
    obtain ⟨rv,hrv⟩:∃ rv:Nat,(Utf8.decode b pos).1=rv:=⟨_,rfl⟩
    obtain ⟨n,hn⟩:∃ n:Nat,(Utf8.decode b pos).2=n:=⟨_,rfl⟩
    rw [hrv,hn] at nx;rw [hrv] at e;have hq:zDZ (rv:Int)=false:=zIX (by omega);have hbb:=hb2 (pos+n);clear HR hk2 hb2 hrv hn e;go_wp2_with fail
    refine (C _ _).mono ?_;rintro e w1 ⟨rfl,rfl⟩;go_wp2;go_ret;exact ⟨by rw [E.out];rfl,hbb⟩
  ·have nx:=λty=>Lib.run_next_end_at (P:=prog) wr w.heap.size b pos ty hit hlt
   have E:Hid (Wlx.runP Wlx.prt b.data.toList=b.size):=by
    show _=_
    rw [HR.out,zAk b pos hlt];simp [Wlx.runP];omega
   clear HR;go_wp2;go_ret;exact ⟨by rw [E.out];rfl,hb⟩
def zFZ (r:Int):Bool:=((decide (65<=r) && decide (r<=90)) || (decide (97<=r) && decide (r<=122)) || decide (r=36) || (decide (48<=r) && decide (r<=57)))
theorem zKG (h:128<=r):zFZ r=false:=by unfold zFZ;simp;omega
theorem zLl (b:ByteArray) (w:World) (hs:b.size<=9223372036854775807):CR 51 #[.string b,.func (.func 82) #[] #[]] w (.int .i64 (Wlx.runP Wlx.wrd b.data.toList:Nat)):=by
 have C:∀ (r:Int) (w:World),Calls prog 82 #[.int .i32 r] w λe w'=>e=.returned (.bool (zFZ r))/\w=w':=λr w=>zFe r w
 go_enter func51,ntmps51;go_wp2_with fail
 go_loopw [5] (λ_ wr=>∃ pos:Nat,pos<=b.size/\wr.heap[w.heap.size]? = some (.stringIter b pos)/\Hid (Wlx.runP Wlx.wrd b.data.toList=pos+Wlx.runP Wlx.wrd (b.data.toList.drop pos))/\Below w.heap.size w wr) (λ_ wr=>b.size - wr.iterPos w.heap.size)
 case atStart=>exact ⟨0,Nat.zero_le _,World.iter_heap w b 0,(by simp:Wlx.runP Wlx.wrd b.data.toList=0+Wlx.runP Wlx.wrd (b.data.toList.drop 0)),(Below.refl _ w).alloc (Nat.le_refl _) _⟩
 case round =>
  obtain ⟨pos,hp,hit,HR,hb⟩:=hrel;by_cases hlt:pos<b.size
  ·have nx:=λty=>Lib.run_next_any_at (P:=prog) wr w.heap.size b pos ty hit hlt
   have hk2:=λq=>Lib.iterAt_heap wr w.heap.size b pos q hit
   have hb2:=λq=>Lib.below_iterAt hb (Nat.le_refl w.heap.size) b q
   rcases zD9 b pos hlt with ⟨hc,e⟩ | ⟨hc,e⟩
   ·rw [e] at nx;cases hq:zFZ ((b[pos]).toNat:Int) with
    | true =>
     have E:Hid (Wlx.runP Wlx.wrd b.data.toList=(pos+1)+Wlx.runP Wlx.wrd (b.data.toList.drop (pos+1))):=by
      show _=_
      rw [HR.out,zA7 b pos hlt,Wlx.runP_pos hq];omega
     have hi:=hk2 (pos+1);have hbb:=hb2 (pos+1);have hm:wr.iterPos w.heap.size=pos:=by simp [World.iterPos,hit]
     have hm2:(wr.iterAt w.heap.size b (pos+1)).iterPos w.heap.size=pos+1:=by simp [World.iterPos,hi]
     clear HR hk2 hb2;go_wp2_with fail
     refine (C _ _).mono ?_;rintro e w1 ⟨rfl,rfl⟩;go_wp2_with fail
     go_roundw
     case rel=>exact ⟨pos+1,hlt,hi,E,hbb⟩
     case measure=>rw [hm,hm2];omega
    | false =>
     have E:Hid (Wlx.runP Wlx.wrd b.data.toList=pos):=by
      show _=_
      rw [HR.out,zA7 b pos hlt,Wlx.runP_neg hq];rfl
     have hbb:=hb2 (pos+1);clear HR hk2 hb2;go_wp2_with fail
     refine (C _ _).mono ?_;rintro e w1 ⟨rfl,rfl⟩;go_wp2;go_ret;exact ⟨by rw [E.out];rfl,hbb⟩
   ·have E:Hid (Wlx.runP Wlx.wrd b.data.toList=pos):=by
     show _=_
     rw [HR.out,zA7 b pos hlt,Wlx.runP_neg (zOv hc)];rfl
    obtain ⟨rv,hrv⟩:∃ rv:Nat,(Utf8.decode b pos).1=rv:=⟨_,rfl⟩
    obtain ⟨n,hn⟩:∃ n:Nat,(Utf8.decode b pos).2=n:=⟨_,rfl⟩
    rw [hrv,hn] at nx;rw [hrv] at e;have hq:zFZ (rv:Int)=false:=zKG (by omega);have hbb:=hb2 (pos+n);clear HR hk2 hb2 hrv hn e;go_wp2_with fail
    refine (C _ _).mono ?_;rintro e w1 ⟨rfl,rfl⟩;go_wp2;go_ret;exact ⟨by rw [E.out];rfl,hbb⟩
  ·have nx:=λty=>Lib.run_next_end_at (P:=prog) wr w.heap.size b pos ty hit hlt
   have E:Hid (Wlx.runP Wlx.wrd b.data.toList=b.size):=by
    show _=_
    rw [HR.out,zAk b pos hlt];simp [Wlx.runP];omega
   clear HR;go_wp2;go_ret;exact ⟨by rw [E.out];rfl,hb⟩
theorem zEO (f:Int) (w:World):Calls prog 47 #[.int .i64 f] w λe w'=>e=.returned (.bool (Wv.flt f))/\w=w':=by
 unfold Wv.flt;go_enter func47,ntmps47;by_cases a:1<=f
 ·go_wp2;go_ret;exact ⟨zA2 (by simp [a]),rfl⟩
 ·go_wp2;go_ret;exact ⟨zA2 (by rw [decide_eq_false (by omega)];rfl),rfl⟩
theorem zJ5 (c:UInt8):Wlx.prt c=(decide (32<=(c.toNat:Int)) && decide ((c.toNat:Int)<=126)):=by
 unfold Wlx.prt;simp
theorem zHO (b:ByteArray) (w:World) (hs:b.size<=9223372036854775807):Calls prog 131 #[.string b] w λe w'=>e=.returned (.bool (Wv.prts b.data.toList))/\w=w':=by
 obtain ⟨R,hR⟩:∃ R,Wv.prts b.data.toList=R:=⟨_,rfl⟩
 have E0:Hid (R=Wv.prts (b.data.toList.drop 0)):=hR.symm;rw [hR];clear hR;go_enter func131,ntmps131;go_wp2_with fail
 go_loopg [6] (b.size) (λgk x wr=>∃ j:Nat,x=.int .i64 j/\gk=b.size - j/\j<=b.size/\Hid (R=Wv.prts (b.data.toList.drop j))/\wr=w)
 case atStart=>exact ⟨0,rfl,rfl,Nat.zero_le _,E0,rfl⟩
 case round =>
  obtain ⟨j,rfl,hg,hj,HR,rfl⟩:=hrel;by_cases hlt:j<b.size
  ·have hli:(j:Int)<(b.size:Int):=by omega
   have hd:=zA7 b j hlt;have hp:=zJ5 (b[j]);by_cases c1:((b[j]).toNat:Int)<32
   ·have E:Hid (R=false):=by show _=_;rw [HR.out,hd,Wv.prts_cons,hp,decide_eq_false (by omega)];rfl
    clear HR hd hp;go_wp2;go_ret;exact ⟨by rw [E.out];rfl,rfl⟩
   ·by_cases c2:(126:Int)<((b[j]).toNat:Int)
    ·have E:Hid (R=false):=by show _=_;rw [HR.out,hd,Wv.prts_cons,hp,decide_eq_false (p:=((b[j]).toNat:Int)<=126) (by omega)];simp
     clear HR hd hp;go_wp2;go_ret;exact ⟨by rw [E.out];rfl,rfl⟩
    ·have E:Hid (R=Wv.prts (b.data.toList.drop (j+1))):=by show _=_;rw [HR.out,hd,Wv.prts_cons,hp,decide_eq_true (by omega),decide_eq_true (by omega)];rfl
     clear HR hd hp;go_wp2_with fail
     go_roundg (b.size - (j+1))
     case rel=>exact ⟨j+1,by simp,rfl,hlt,E,by first | trivial | rfl⟩
     case measure=>omega
  ·have hli:¬ (j:Int)<(b.size:Int):=by omega
   have E:Hid (R=true):=by show _=_;rw [HR.out,zAk b j hlt];rfl
   clear HR;go_wp2;go_ret;exact ⟨by rw [E.out];rfl,rfl⟩
theorem zPW (a b:Int) (w:World):(if a=b then (Result.ok true w:Result Bool) else Result.ok false w)=Result.ok (a == b) w:=by by_cases h:a=b <;> simp [h]
theorem zN5 (a b:Bool) (w:World):(if a=b then (Result.ok true w:Result Bool) else Result.ok false w)=Result.ok (a == b) w:=by by_cases h:a=b <;> simp [h]
theorem zDA (a b:ByteArray):((a == b)=true)=(a=b):=by
 obtain ⟨⟨x⟩⟩:=a;obtain ⟨⟨y⟩⟩:=b;have h:((⟨⟨x⟩⟩:ByteArray) == ⟨⟨y⟩⟩)=(x == y):=by
  show ((⟨x⟩:Array UInt8) == ⟨y⟩)=(x == y)
  simp
 rw [h];simp
def eqV (k n d:Int) (t:ByteArray) (b:Bool) (f:Int) (k' n' d':Int) (t':ByteArray) (b':Bool) (f':Int):Bool :=
 (k == k') && ((n == n') && ((d == d') && ((t == t') && ((b == b') && (f == f')))))
theorem zMt (x:Nat) (k n d:Int) (t:ByteArray) (b:Bool) (f:Int) (k' n' d':Int) (t':ByteArray) (b':Bool) (f':Int) (w:World) :
  (Op.equalIn (x+3) 26 (.agg #[.int .i64 k,.int .i64 n,.int .i64 d,.string t,.bool b,.int .i64 f]) (.agg #[.int .i64 k',.int .i64 n',.int .i64 d',.string t',.bool b',.int .i64 f'])).run prog w=.ok (eqV k n d t b f k' n' d' t' b' f') w:=by
 unfold eqV;rw [beq_toListBytes];by_cases h1:k=k'
 ·by_cases h2:n=n'
  ·by_cases h3:d=d'
   ·by_cases h4:t.toList=t'.toList
    ·by_cases h5:b=b'
     ·simp [go_sem,h1,h2,h3,h4,h5,zPW]
     ·simp [go_sem,h1,h2,h3,h4,h5]
    ·simp [go_sem,h1,h2,h3,h4]
   ·simp [go_sem,h1,h2,h3]
  ·simp [go_sem,h1,h2]
 ·simp [go_sem,h1]
theorem zBa (k n d:Int) (t:ByteArray) (b:Bool) (f:Int) (k' n' d':Int) (t':ByteArray) (b':Bool) (f':Int) (w:World) :
  (binOp .eql 26 (.agg #[.int .i64 k,.int .i64 n,.int .i64 d,.string t,.bool b,.int .i64 f]) (.agg #[.int .i64 k',.int .i64 n',.int .i64 d',.string t',.bool b',.int .i64 f'])).run prog w=.ok (.bool (eqV k n d t b f k' n' d' t' b' f')) w:=by
 rw [run_eql_struct,show (10000:Nat)=9997+3 from rfl,zMt];rfl
def eqR (s:ByteArray) (r c:Int) (fr fc:Bool) (s':ByteArray) (r' c':Int) (fr' fc':Bool):Bool :=
 (s == s') && ((r == r') && ((c == c') && ((fr == fr') && (fc == fc'))))
theorem zNA (x:Nat) (s:ByteArray) (r c:Int) (fr fc:Bool) (s':ByteArray) (r' c':Int) (fr' fc':Bool) (w:World) :
  (Op.equalIn (x+2) 28 (.agg #[.string s,.int .i64 r,.int .i64 c,.bool fr,.bool fc]) (.agg #[.string s',.int .i64 r',.int .i64 c',.bool fr',.bool fc'])).run prog w=.ok (eqR s r c fr fc s' r' c' fr' fc') w:=by
 unfold eqR;rw [beq_toListBytes];by_cases h1:s.toList=s'.toList
 ·by_cases h2:r=r'
  ·by_cases h3:c=c'
   ·by_cases h4:fr=fr'
    ·simp [go_sem,h1,h2,h3,h4,zN5]
    ·simp [go_sem,h1,h2,h3,h4]
   ·simp [go_sem,h1,h2,h3]
  ·simp [go_sem,h1,h2]
 ·simp [go_sem,h1]
end Go.Proofs.YtdghjlmnlodnlaaGreatDoor
namespace Go.Proofs.YtdghjlmnlodnlaaGreatDoor
