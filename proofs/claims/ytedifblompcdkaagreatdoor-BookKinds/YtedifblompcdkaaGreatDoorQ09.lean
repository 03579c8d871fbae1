/- KWalkA, KWalkB, KWalkC, KWalkD. -/
import Derived.Test.YtedifblompcdkaaGreatDoorQ08
set_option maxHeartbeats 4000000
set_option maxRecDepth 100000
namespace Go.Proofs.YtedifblompcdkaaGreatDoor
open Tryz
variable {w:World} {b:Nat} {tv:Value} {x:Int}
open Go.RowKit
set_option linter.unusedVariables false
theorem zDo (id:Int) (w:World):Calls prog 145 #[.int .i64 id] w λe w'=>e=.returned (.bool (Wc.pairs id))/\w=w':=by
 have e:∀ b,Wc.pairs id=b->Hid (Wc.pairs id=b):=λ_ h=>h
 unfold Wc.pairs;by_cases h1:id=22
 ·subst h1;clear e;go_enter func145,ntmps145;go_wp2;go_ret;exact ⟨by simp,rfl⟩
 by_cases h2:id=23
 ·subst h2;clear e;go_enter func145,ntmps145;go_wp2;go_ret;exact ⟨by simp,rfl⟩
 have q1:(id == 22)=false:=by simp [h1]
 have q2:(id == 23)=false:=by simp [h2]
 rw [q1,q2];clear e h1 h2;go_enter func145,ntmps145;go_wp2;go_ret;exact ⟨by simp,rfl⟩
theorem zRA (o:Int):o=1 \/ o=2 \/ o=3 \/ o=4 \/ o=5 \/ o=6 \/ o=7 \/ o=8 \/ o=9 \/ o=10 \/ o=11 \/ o=12 \/ o=13 \/ o=14 \/ o=15 \/ o=16 \/ (o<1 \/ 16<o):=by omega
theorem zII (x:Wc.In) (tv:Value) (w:World):CR 114 #[inV x tv] w (.tuple #[.int .i64 (Wc.swO x.op x.b).1,.int .i64 (Wc.swO x.op x.b).2]):=by
 have pA:=AtL.new0 w 67 (zAM x tv);have hB:=zAH (Below.refl _ w) (.cells (zAM x tv).toArray 67);have c0:(w.alloc (.cells (zAM x tv).toArray 67)).cell? ⟨w.heap.size,0,none⟩=some (.int .i64 x.op):=pA.2.1 0 _ rfl;have c2:(w.alloc (.cells (zAM x tv).toArray 67)).cell? ⟨w.heap.size,2,none⟩=some (.int .i64 x.b):=pA.2.1 2 _ rfl;obtain ⟨q,hq⟩:∃ q,Wc.swO x.op x.b=q:=⟨_,rfl⟩
 rw [hq];have HQ:Hid (Wc.swO x.op x.b=q):=hq;clear hq pA;rcases zRA x.op with h | h | h | h | h | h | h | h | h | h | h | h | h | h | h | h | h
 case inr.inr.inr.inr.inr.inr.inr.inr.inr.inr.inr.inr.inr.inr.inr.inr =>
  have e:q=(0,0):=by
   have:=HQ.out;unfold Wc.swO at this;rw [<-this];repeat rw [if_neg (by omega)]
  have n1:(x.op == 1)=false:=by simp;omega
  have n2:(x.op == 2)=false:=by simp;omega
  have n3:(x.op == 3)=false:=by simp;omega
  have n4:(x.op == 4)=false:=by simp;omega
  have n5:(x.op == 5)=false:=by simp;omega
  have n6:(x.op == 6)=false:=by simp;omega
  have n7:(x.op == 7)=false:=by simp;omega
  have n8:(x.op == 8)=false:=by simp;omega
  have n9:(x.op == 9)=false:=by simp;omega
  have n10:(x.op == 10)=false:=by simp;omega
  have n11:(x.op == 11)=false:=by simp;omega
  have n12:(x.op == 12)=false:=by simp;omega
  have n13:(x.op == 13)=false:=by simp;omega
  have n14:(x.op == 14)=false:=by simp;omega
  have n15:(x.op == 15)=false:=by simp;omega
  have n16:(x.op == 16)=false:=by simp;omega
  clear HQ h;subst e;go_enter func114,ntmps114;go_upto_region 1 with fail
  generalize (w.alloc (.cells (zAM x tv).toArray 67))=W at *;go_wp2;go_ret2
  exact ⟨rfl,hB⟩
 all_goals
  have e:=HQ.out;rw [h] at c0 e;subst e;clear HQ h;go_enter func114,ntmps114;go_upto_region 1 with fail
  generalize (w.alloc (.cells (zAM x tv).toArray 67))=W at *;go_wp2;go_ret2
  exact ⟨rfl,hB⟩
def RdZ (w:World) (v:Value) (l:List Int):Prop:=∃ av cap,v=.slice av l.length cap/\∀ i (h:i<l.length),∃ bb off,av=some ⟨bb,off,none⟩/\w.cell? ⟨bb,off+i,none⟩=some (.int .i64 (l[i]))
theorem RdZ.below {w':World} {v:Value} {l:List Int} (h:RdZ w v l) (hb:Below w.heap.size w w'):RdZ w' v l:=by
 obtain ⟨av,cap,e,h⟩:=h;refine ⟨av,cap,e,λi hi=>?_⟩;obtain ⟨bb,off,e1,h1⟩:=h i hi;exact ⟨bb,off,e1,zAC hb h1⟩
theorem RdZ.nil (w:World):RdZ w (.slice none 0 0) []:=⟨none,0,rfl,λi hi=>absurd hi (Nat.not_lt_zero _)⟩
theorem RdZ.one (h:w.cell? ⟨b,0,none⟩=some (.int .i64 x)):RdZ w (.slice (some ⟨b,0,none⟩) 1 1) [x]:=by
 refine ⟨_,1,rfl,λi hi=>⟨b,0,rfl,?_⟩⟩;have:i=0:=by simp at hi;omega
 subst this;exact h
theorem RdZ.two {y:Int} (h:w.cell? ⟨b,0,none⟩=some (.int .i64 x)) (h2:w.cell? ⟨b,1,none⟩=some (.int .i64 y)):RdZ w (.slice (some ⟨b,0,none⟩) 2 2) [x,y]:=by
 refine ⟨_,2,rfl,λi hi=>⟨b,0,rfl,?_⟩⟩;have:i=0 \/ i=1:=by simp at hi;omega
 rcases this with rfl | rfl
 ·exact h
 ·exact h2
def onw (o a b:Int) (tl:List Int) (at':Int):List Int × List Int :=
 if o=12 then ([at'+1,a],[b]) else if o=13 then ([],[a]) else if o=14 then ([at'+1],[a]) else if o=15 then (tl,[b]) else if o=16 then ([],[]) else ([at'+1],[])
def Bk (w:World) (tv v:Value):Prop:=v=tv \/ ∀ g,v.ownBlock=some g->w.heap.size<=g
theorem Bk.nil:Bk w tv (.slice none 0 0):=Or.inr λg e=>by cases e
theorem Bk.new {n c:Nat} (h:w.heap.size<=b):Bk w tv (.slice (some ⟨b,0,none⟩) n c):=Or.inr λg e=>by
 have e2:b=g:=by simpa [Value.ownBlock] using e
 subst e2;exact h
theorem Bk.own:Bk w tv tv:=Or.inl rfl
def OnP (w:World) (tv:Value) (w':World) (q:List Int × List Int) (e:Ending):Prop:=∃ c k,e=.returned (.tuple #[c,k])/\RdZ w' c q.1/\RdZ w' k q.2/\Bk w tv c/\Bk w tv k
theorem zJm (x:Wc.In) (tv:Value) (at':Int) (w:World) (h:x.op=12) (ha:0<=at'/\at'<=1000000):Calls prog 86 #[inV x tv,.int .i64 at'] w λe w'=>OnP w tv w' ([at'+1,x.a],[x.b]) e/\Below w.heap.size w w':=by
 have pA:=AtL.new0 w 67 (zAM x tv);have hB:=zAH (Below.refl _ w) (.cells (zAM x tv).toArray 67);have c0:(w.alloc (.cells (zAM x tv).toArray 67)).cell? ⟨w.heap.size,0,none⟩=some (.int .i64 x.op):=pA.2.1 0 _ rfl;have c1:(w.alloc (.cells (zAM x tv).toArray 67)).cell? ⟨w.heap.size,1,none⟩=some (.int .i64 x.a):=pA.2.1 1 _ rfl;have c2:(w.alloc (.cells (zAM x tv).toArray 67)).cell? ⟨w.heap.size,2,none⟩=some (.int .i64 x.b):=pA.2.1 2 _ rfl;have hlt:=pA.lt;have hw:IntKind.i64.wrap (at'+1)=at'+1:=by rw [IntKind.wrap_i64];omega
 rw [h] at c0;clear pA h ha;go_enter func86,ntmps86;go_upto_region 1 with fail
 generalize (w.alloc (.cells (zAM x tv).toArray 67))=W at *;go_upto_region 3 with fail
 go_region
 all_goals
  go_wp2_with fail
  go_ret2
  refine ⟨⟨_,_,rfl,RdZ.two ?_ ?_,RdZ.one ?_,Bk.new ?_,Bk.new ?_⟩,(clB hB)⟩;all_goals first
   | (simp;done)
   | (simp;omega)
   | omega
theorem zIm (x:Wc.In) (av:Option Addr) (n cap:Nat) (tl:List Int) (at':Int) (w:World) (h:x.op=13) (ha:0<=at'/\at'<=1000000) (hz:RdZ w (.slice av n cap) tl):Calls prog 86 #[inV x (.slice av n cap),.int .i64 at'] w λe w'=>OnP w (.slice av n cap) w' ([],[x.a]) e/\Below w.heap.size w w':=by
 have pA:=AtL.new0 w 67 (zAM x (.slice av n cap));have hB:=zAH (Below.refl _ w) (.cells (zAM x (.slice av n cap)).toArray 67);have c0:(w.alloc (.cells (zAM x (.slice av n cap)).toArray 67)).cell? ⟨w.heap.size,0,none⟩=some (.int .i64 x.op):=pA.2.1 0 _ rfl;have c1:(w.alloc (.cells (zAM x (.slice av n cap)).toArray 67)).cell? ⟨w.heap.size,1,none⟩=some (.int .i64 x.a):=pA.2.1 1 _ rfl;have c2:(w.alloc (.cells (zAM x (.slice av n cap)).toArray 67)).cell? ⟨w.heap.size,2,none⟩=some (.int .i64 x.b):=pA.2.1 2 _ rfl;have c22:(w.alloc (.cells (zAM x (.slice av n cap)).toArray 67)).cell? ⟨w.heap.size,22,none⟩=some (.slice av n cap):=pA.2.1 22 _ rfl;have hlt:=pA.lt;have hw:IntKind.i64.wrap (at'+1)=at'+1:=by rw [IntKind.wrap_i64];omega
 have HZ:Hid (RdZ w (.slice av n cap) tl):=hz;rw [h] at c0;clear pA h ha hz;go_enter func86,ntmps86;go_upto_region 1 with fail
 generalize (w.alloc (.cells (zAM x (.slice av n cap)).toArray 67))=W at *;go_upto_region 5 with fail
 go_region
 all_goals
  go_wp2_with fail
  go_ret2
  refine ⟨⟨_,_,rfl,RdZ.nil _,RdZ.one ?_,Bk.nil,Bk.new ?_⟩,(clB hB)⟩;all_goals first
   | (simp;done)
   | (simp;omega)
   | omega
theorem zJf (x:Wc.In) (av:Option Addr) (n cap:Nat) (tl:List Int) (at':Int) (w:World) (h:x.op=14) (ha:0<=at'/\at'<=1000000) (hz:RdZ w (.slice av n cap) tl):Calls prog 86 #[inV x (.slice av n cap),.int .i64 at'] w λe w'=>OnP w (.slice av n cap) w' ([at'+1],[x.a]) e/\Below w.heap.size w w':=by
 have pA:=AtL.new0 w 67 (zAM x (.slice av n cap));have hB:=zAH (Below.refl _ w) (.cells (zAM x (.slice av n cap)).toArray 67);have c0:(w.alloc (.cells (zAM x (.slice av n cap)).toArray 67)).cell? ⟨w.heap.size,0,none⟩=some (.int .i64 x.op):=pA.2.1 0 _ rfl;have c1:(w.alloc (.cells (zAM x (.slice av n cap)).toArray 67)).cell? ⟨w.heap.size,1,none⟩=some (.int .i64 x.a):=pA.2.1 1 _ rfl;have c2:(w.alloc (.cells (zAM x (.slice av n cap)).toArray 67)).cell? ⟨w.heap.size,2,none⟩=some (.int .i64 x.b):=pA.2.1 2 _ rfl;have c22:(w.alloc (.cells (zAM x (.slice av n cap)).toArray 67)).cell? ⟨w.heap.size,22,none⟩=some (.slice av n cap):=pA.2.1 22 _ rfl;have hlt:=pA.lt;have hw:IntKind.i64.wrap (at'+1)=at'+1:=by rw [IntKind.wrap_i64];omega
 have HZ:Hid (RdZ w (.slice av n cap) tl):=hz;rw [h] at c0;clear pA h ha hz;go_enter func86,ntmps86;go_upto_region 1 with fail
 generalize (w.alloc (.cells (zAM x (.slice av n cap)).toArray 67))=W at *;go_upto_region 7 with fail
 go_region
 all_goals
  go_wp2_with fail
  go_ret2
  refine ⟨⟨_,_,rfl,RdZ.one ?_,RdZ.one ?_,Bk.new ?_,Bk.new ?_⟩,(clB hB)⟩;all_goals first
   | (simp;done)
   | (simp;omega)
   | omega
theorem zJ6 (x:Wc.In) (av:Option Addr) (n cap:Nat) (tl:List Int) (at':Int) (w:World) (h:x.op=15) (ha:0<=at'/\at'<=1000000) (hz:RdZ w (.slice av n cap) tl):Calls prog 86 #[inV x (.slice av n cap),.int .i64 at'] w λe w'=>OnP w (.slice av n cap) w' (tl,[x.b]) e/\Below w.heap.size w w':=by
 have pA:=AtL.new0 w 67 (zAM x (.slice av n cap));have hB:=zAH (Below.refl _ w) (.cells (zAM x (.slice av n cap)).toArray 67);have c0:(w.alloc (.cells (zAM x (.slice av n cap)).toArray 67)).cell? ⟨w.heap.size,0,none⟩=some (.int .i64 x.op):=pA.2.1 0 _ rfl;have c1:(w.alloc (.cells (zAM x (.slice av n cap)).toArray 67)).cell? ⟨w.heap.size,1,none⟩=some (.int .i64 x.a):=pA.2.1 1 _ rfl;have c2:(w.alloc (.cells (zAM x (.slice av n cap)).toArray 67)).cell? ⟨w.heap.size,2,none⟩=some (.int .i64 x.b):=pA.2.1 2 _ rfl;have c22:(w.alloc (.cells (zAM x (.slice av n cap)).toArray 67)).cell? ⟨w.heap.size,22,none⟩=some (.slice av n cap):=pA.2.1 22 _ rfl;have hlt:=pA.lt;have hw:IntKind.i64.wrap (at'+1)=at'+1:=by rw [IntKind.wrap_i64];omega
 have HZ:Hid (RdZ w (.slice av n cap) tl):=hz;rw [h] at c0;clear pA h ha hz;go_enter func86,ntmps86;go_upto_region 1 with fail
 generalize (w.alloc (.cells (zAM x (.slice av n cap)).toArray 67))=W at *;go_upto_region 9 with fail
 go_region
 all_goals
  go_wp2_with fail
  go_ret2
  refine ⟨⟨_,_,rfl,HZ.out.below (clB hB),RdZ.one ?_,Bk.own,Bk.new ?_⟩,(clB hB)⟩;all_goals first
   | (simp;done)
   | (simp;omega)
   | omega
theorem zIx (x:Wc.In) (av:Option Addr) (n cap:Nat) (tl:List Int) (at':Int) (w:World) (h:x.op=16) (ha:0<=at'/\at'<=1000000) (hz:RdZ w (.slice av n cap) tl):Calls prog 86 #[inV x (.slice av n cap),.int .i64 at'] w λe w'=>OnP w (.slice av n cap) w' ([],[]) e/\Below w.heap.size w w':=by
 have pA:=AtL.new0 w 67 (zAM x (.slice av n cap));have hB:=zAH (Below.refl _ w) (.cells (zAM x (.slice av n cap)).toArray 67);have c0:(w.alloc (.cells (zAM x (.slice av n cap)).toArray 67)).cell? ⟨w.heap.size,0,none⟩=some (.int .i64 x.op):=pA.2.1 0 _ rfl;have c1:(w.alloc (.cells (zAM x (.slice av n cap)).toArray 67)).cell? ⟨w.heap.size,1,none⟩=some (.int .i64 x.a):=pA.2.1 1 _ rfl;have c2:(w.alloc (.cells (zAM x (.slice av n cap)).toArray 67)).cell? ⟨w.heap.size,2,none⟩=some (.int .i64 x.b):=pA.2.1 2 _ rfl;have c22:(w.alloc (.cells (zAM x (.slice av n cap)).toArray 67)).cell? ⟨w.heap.size,22,none⟩=some (.slice av n cap):=pA.2.1 22 _ rfl;have hlt:=pA.lt;have hw:IntKind.i64.wrap (at'+1)=at'+1:=by rw [IntKind.wrap_i64];omega
 have HZ:Hid (RdZ w (.slice av n cap) tl):=hz;rw [h] at c0;clear pA h ha hz;go_enter func86,ntmps86;go_upto_region 1 with fail
 generalize (w.alloc (.cells (zAM x (.slice av n cap)).toArray 67))=W at *;all_goals
  go_wp2;go_ret2
  exact ⟨⟨_,_,rfl,RdZ.nil _,RdZ.nil _,Bk.nil,Bk.nil⟩,hB⟩
theorem zMi (x:Wc.In) (av:Option Addr) (n cap:Nat) (at':Int) (w:World) (h:¬ (12<=x.op/\x.op<=16)) (ha:0<=at'/\at'<=1000000):Calls prog 86 #[inV x (.slice av n cap),.int .i64 at'] w λe w'=>OnP w (.slice av n cap) w' ([at'+1],[]) e/\Below w.heap.size w w':=by
 have pA:=AtL.new0 w 67 (zAM x (.slice av n cap));have hB:=zAH (Below.refl _ w) (.cells (zAM x (.slice av n cap)).toArray 67);have c0:(w.alloc (.cells (zAM x (.slice av n cap)).toArray 67)).cell? ⟨w.heap.size,0,none⟩=some (.int .i64 x.op):=pA.2.1 0 _ rfl;have c1:(w.alloc (.cells (zAM x (.slice av n cap)).toArray 67)).cell? ⟨w.heap.size,1,none⟩=some (.int .i64 x.a):=pA.2.1 1 _ rfl;have c2:(w.alloc (.cells (zAM x (.slice av n cap)).toArray 67)).cell? ⟨w.heap.size,2,none⟩=some (.int .i64 x.b):=pA.2.1 2 _ rfl;have c22:(w.alloc (.cells (zAM x (.slice av n cap)).toArray 67)).cell? ⟨w.heap.size,22,none⟩=some (.slice av n cap):=pA.2.1 22 _ rfl;have hlt:=pA.lt;have hw:IntKind.i64.wrap (at'+1)=at'+1:=by rw [IntKind.wrap_i64];omega
 have n12:(x.op == 12)=false:=by simp;omega
 have n13:(x.op == 13)=false:=by simp;omega
 have n14:(x.op == 14)=false:=by simp;omega
 have n15:(x.op == 15)=false:=by simp;omega
 have n16:(x.op == 16)=false:=by simp;omega
 clear pA h ha;go_enter func86,ntmps86;go_upto_region 1 with fail
 generalize (w.alloc (.cells (zAM x (.slice av n cap)).toArray 67))=W at *;go_wp2;go_ret2
 refine ⟨⟨_,_,rfl,RdZ.one ?_,RdZ.nil _,Bk.new ?_,Bk.nil⟩,(clB hB)⟩;all_goals first
  | (simp;done)
  | (simp;omega)
  | omega
theorem zBe (x:Wc.In) (av:Option Addr) (n cap:Nat) (tl:List Int) (at':Int) (w:World) (ha:0<=at'/\at'<=1000000) (hz:RdZ w (.slice av n cap) tl):Calls prog 86 #[inV x (.slice av n cap),.int .i64 at'] w λe w'=>OnP w (.slice av n cap) w' (onw x.op x.a x.b tl at') e/\Below w.heap.size w w':=by
 unfold onw;by_cases h12:x.op=12
 ·rw [if_pos h12];exact zJm x _ at' w h12 ha
 by_cases h13:x.op=13
 ·rw [if_neg h12,if_pos h13];exact zIm x av n cap tl at' w h13 ha hz
 by_cases h14:x.op=14
 ·rw [if_neg h12,if_neg h13,if_pos h14];exact zJf x av n cap tl at' w h14 ha hz
 by_cases h15:x.op=15
 ·rw [if_neg h12,if_neg h13,if_neg h14,if_pos h15];exact zJ6 x av n cap tl at' w h15 ha hz
 by_cases h16:x.op=16
 ·rw [if_neg h12,if_neg h13,if_neg h14,if_neg h15,if_pos h16];exact zIx x av n cap tl at' w h16 ha hz
 rw [if_neg h12,if_neg h13,if_neg h14,if_neg h15,if_neg h16];exact zMi x av n cap at' w (by omega) ha
def SmA (a:Wpl.Ar):Prop:=(-1000000<=a.t/\a.t<=1000000)/\(-1000000<=a.l/\a.l<=1000000)/\(-1000000<=a.b/\a.b<=1000000)/\(-1000000<=a.r/\a.r<=1000000)
abbrev ar5 (a:Wpl.Ar):List Value:=[.int .i64 a.s,.int .i64 a.t,.int .i64 a.l,.int .i64 a.b,.int .i64 a.r]
def shp (a b:Wpl.Ar):Bool:=(a.b - a.t == b.b - b.t) && (a.r - a.l == b.r - b.l)
theorem zDM (a:Wpl.Ar) (w:World) (h:SmA a):CR 140 #[.agg (ar5 a).toArray] w (.int .i64 (a.b - a.t+1)):=by
 have pA:=AtL.new0 w 64 (ar5 a);have hB:=zAH (Below.refl _ w) (.cells (ar5 a).toArray 64);have c1:(w.alloc (.cells (ar5 a).toArray 64)).cell? ⟨w.heap.size,1,none⟩=some (.int .i64 a.t):=pA.2.1 1 _ rfl;have c3:(w.alloc (.cells (ar5 a).toArray 64)).cell? ⟨w.heap.size,3,none⟩=some (.int .i64 a.b):=pA.2.1 3 _ rfl;obtain ⟨h1,h2,h3,h4⟩:=h;have w1:IntKind.i64.wrap (a.b - a.t)=a.b - a.t:=by rw [IntKind.wrap_i64];omega
 have w2:IntKind.i64.wrap (a.b - a.t+1)=a.b - a.t+1:=by rw [IntKind.wrap_i64];omega
 clear pA h1 h2 h3 h4;go_enter func140,ntmps140;go_upto_region 1 with fail
 generalize (w.alloc (.cells (ar5 a).toArray 64))=W at *;go_wp2;go_ret;exact ⟨by simp,hB⟩
theorem zCx (a:Wpl.Ar) (w:World) (h:SmA a):CR 141 #[.agg (ar5 a).toArray] w (.int .i64 (a.r - a.l+1)):=by
 have pA:=AtL.new0 w 64 (ar5 a);have hB:=zAH (Below.refl _ w) (.cells (ar5 a).toArray 64);have c1:(w.alloc (.cells (ar5 a).toArray 64)).cell? ⟨w.heap.size,2,none⟩=some (.int .i64 a.l):=pA.2.1 2 _ rfl;have c3:(w.alloc (.cells (ar5 a).toArray 64)).cell? ⟨w.heap.size,4,none⟩=some (.int .i64 a.r):=pA.2.1 4 _ rfl;obtain ⟨h1,h2,h3,h4⟩:=h;have w1:IntKind.i64.wrap (a.r - a.l)=a.r - a.l:=by rw [IntKind.wrap_i64];omega
 have w2:IntKind.i64.wrap (a.r - a.l+1)=a.r - a.l+1:=by rw [IntKind.wrap_i64];omega
 clear pA h1 h2 h3 h4;go_enter func141,ntmps141;go_upto_region 1 with fail
 generalize (w.alloc (.cells (ar5 a).toArray 64))=W at *;go_wp2;go_ret;exact ⟨by simp,hB⟩
theorem zEM (a b:Wpl.Ar) (w:World) (h:SmA a) (g:SmA b):CR 111 #[.agg (ar5 a).toArray,.agg (ar5 b).toArray] w (.bool (shp a b)):=by
 have pA:=(AtL.new0 w 64 (ar5 a)).alloc (.cells (ar5 b).toArray 64);have pB:=AtL.new1 w (.cells (ar5 a).toArray 64) 64 (ar5 b);have hB:=zAH (zAH (Below.refl _ w) (.cells (ar5 a).toArray 64)) (.cells (ar5 b).toArray 64);have RA:=λw=>zDM a w h
 have RB:=λw=>zDM b w g
 have CA:=λw=>zCx a w h
 have CB:=λw=>zCx b w g
 have e1:(a.b - a.t+1 == b.b - b.t+1)=(a.b - a.t == b.b - b.t):=by rw [Bool.eq_iff_iff];simp
 have e2:(a.r - a.l+1 == b.r - b.l+1)=(a.r - a.l == b.r - b.l):=by rw [Bool.eq_iff_iff];simp
 unfold shp;rw [<-e1,<-e2];clear e1 e2 h g;generalize a.b - a.t+1=x1 at *;generalize b.b - b.t+1=x2 at *;generalize a.r - a.l+1=y1 at *;generalize b.r - b.l+1=y2 at *;go_enter func111,ntmps111;go_upto_region 1 with fail
 generalize (w.alloc (.cells (ar5 a).toArray 64)).alloc (.cells (ar5 b).toArray 64)=W at *;have pA0:=AtL.drew pA;have pB0:=AtL.drew pB;have hB0:=hB.drew;clear pA pB hB;refine wp_region_held_drew (S:=λW=>W.rangeAt w.heap.size 0 (ar5 a)/\W.rangeAt (w.heap.size+1) 0 (ar5 b)) (by kernel_rfl) ⟨pA0.range,pB0.range⟩ (λhHeld=>?_);generalize W.drew=WD at *;refine wpAnyH_take (i:=0) (v:=.agg (ar5 a).toArray) (atQ rfl) (by kernel_rfl) (by kernel_rfl) (by kernel_rfl) (λ_ _ _ h=>h) (yieldsIf_load_mid (by rfl) 64 (.tmp 2) rfl (w.heap.size) 0 rfl (ar5 a) _ (λ_ h=>h.1) underlying64 rfl (by kernel_rfl)) (by assumption) ?_;try simp only [Act.put,lA,lZ,lS]
 refine wpAnyH_take (i:=2) (v:=.agg (ar5 b).toArray) (atQ rfl) (by kernel_rfl) (by kernel_rfl) (by kernel_rfl) (λ_ _ _ h=>h) (yieldsIf_load_mid (by rfl) 64 (.tmp 3) rfl (w.heap.size+1) 0 rfl (ar5 b) _ (λ_ h=>h.2) underlying64 rfl (by kernel_rfl)) (by assumption) ?_;try simp only [Act.put,lA,lZ,lS]
 refine rdQ 1 (λK hK=>?_);go_simp
 refine (RA _).mono ?_;rintro e w1 ⟨rfl,hb1⟩;have pA1:=AtL.below hb1 pA0;have pB1:=AtL.below hb1 pB0;have hB1:=zAA hB0 hb1;go_wp2_with fail
 refine hkQ hK ⟨pA1.range,pB1.range⟩ (λhHeld=>?_);clear hK K
 refine rdQ 3 (λK hK=>?_);go_simp
 refine (RB _).mono ?_;rintro e w2 ⟨rfl,hb2⟩;have pA2:=AtL.below hb2 pA1;have pB2:=AtL.below hb2 pB1;have hB2:=zAA hB1 hb2;go_wp2_with fail
 refine hkQ hK ⟨pA2.range,pB2.range⟩ (λhHeld=>?_);clear hK K
 cases hq:(x1 == x2) with
 | false =>
  refine tkQ 4 ?_
  refine tkQ 5 ?_
  refine tnQ 6 ?_
  refine tnQ 7 ?_
  refine tnQ 8 ?_
  refine tnQ 9 ?_
  refine tnQ 10 ?_
  refine tkQ 11 ?_
  refine rdQ 12 (λK hK=>?_);go_simp
  refine hkQ hK ⟨pA2.range,pB2.range⟩ (λhHeld=>?_);clear hK K
  refine wpAnyH_done (by kernel_rfl) ?_ _;go_wp2;go_ret;have hq2:=hq;simp only [beq_eq_false_iff_ne,ne_eq] at hq2;exact ⟨by simp [hq2],hB2⟩
 | true =>
  refine tkQ 4 ?_
  refine tkQ 5 ?_
  refine wpAnyH_take (i:=6) (v:=.agg (ar5 a).toArray) (atQ rfl) (by kernel_rfl) (by kernel_rfl) (by kernel_rfl) (λ_ _ _ h=>h) (yieldsIf_load_mid (by rfl) 64 (.tmp 2) rfl (w.heap.size) 0 rfl (ar5 a) _ (λ_ h=>h.1) underlying64 rfl (by kernel_rfl)) (by assumption) ?_;try simp only [Act.put,lA,lZ,lS]
  refine wpAnyH_take (i:=8) (v:=.agg (ar5 b).toArray) (atQ rfl) (by kernel_rfl) (by kernel_rfl) (by kernel_rfl) (λ_ _ _ h=>h) (yieldsIf_load_mid (by rfl) 64 (.tmp 3) rfl (w.heap.size+1) 0 rfl (ar5 b) _ (λ_ h=>h.2) underlying64 rfl (by kernel_rfl)) (by assumption) ?_;try simp only [Act.put,lA,lZ,lS]
  refine rdQ 7 (λK hK=>?_);go_simp
  refine (CA _).mono ?_;rintro e w3 ⟨rfl,hb3⟩;have pA3:=AtL.below hb3 pA2;have pB3:=AtL.below hb3 pB2;have hB3:=zAA hB2 hb3;go_wp2_with fail
  refine hkQ hK ⟨pA3.range,pB3.range⟩ (λhHeld=>?_);clear hK K
  refine rdQ 9 (λK hK=>?_);go_simp
  refine (CB _).mono ?_;rintro e w4 ⟨rfl,hb4⟩;have pA4:=AtL.below hb4 pA3;have pB4:=AtL.below hb4 pB3;have hB4:=zAA hB3 hb4;go_wp2_with fail
  refine hkQ hK ⟨pA4.range,pB4.range⟩ (λhHeld=>?_);clear hK K
  refine tkQ 10 ?_
  refine tkQ 11 ?_
  refine rdQ 12 (λK hK=>?_);go_simp
  refine hkQ hK ⟨pA4.range,pB4.range⟩ (λhHeld=>?_);clear hK K
  refine wpAnyH_done (by kernel_rfl) ?_ _;go_wp2;go_ret;have hq2:=hq;simp only [beq_iff_eq] at hq2;exact ⟨by simp [hq2],hB4⟩
