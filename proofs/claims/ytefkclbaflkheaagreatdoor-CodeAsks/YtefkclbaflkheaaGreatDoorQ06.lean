/- KWalkB, KWalkC, KWalkD, KWalkE. -/
import Derived.Test.YtefkclbaflkheaaGreatDoorQ05
import Derived.Laws.AppendOwn
set_option maxHeartbeats 4000000
set_option maxRecDepth 100000
namespace Go.Proofs.YtefkclbaflkheaaGreatDoor
open Tryz
variable {w:World} {b:Nat} {tv:Value} {x:Int}
open Go.RowKit
set_option linter.unusedVariables false
def RdZ (w:World) (v:Value) (l:List Int):Prop:=∃ av cap,v=.slice av l.length cap/\∀ i (h:i<l.length),∃ bb off,av=some ⟨bb,off,none⟩/\w.cell? ⟨bb,off+i,none⟩=some (.int .i64 (l[i]))
theorem RdZ.below {w':World} {v:Value} {l:List Int} (h:RdZ w v l) (hb:Below w.heap.size w w'):RdZ w' v l:=by
 obtain ⟨av,cap,e,h⟩:=h;refine ⟨av,cap,e,λi hi=>?_⟩;obtain ⟨bb,off,e1,h1⟩:=h i hi;exact ⟨bb,off,e1,zAC hb h1⟩
theorem RdZ.nil (w:World):RdZ w (.slice none 0 0) []:=⟨none,0,rfl,λi hi=>absurd hi (Nat.not_lt_zero _)⟩
theorem RdZ.one (h:w.cell? ⟨b,0,none⟩=some (.int .i64 x)):RdZ w (.slice (some ⟨b,0,none⟩) 1 1) [x]:=by
 refine ⟨_,1,rfl,λi hi=>⟨b,0,rfl,?_⟩⟩;have:i=0:=by simp at hi;omega
 subst this;exact h
theorem RdZ.two {y:Int} (h:w.cell? ⟨b,0,none⟩=some (.int .i64 x)) (h2:w.cell? ⟨b,1,none⟩=some (.int .i64 y)):RdZ w (.slice (some ⟨b,0,none⟩) 2 2) [x,y]:=by
 refine ⟨_,2,rfl,λi hi=>⟨b,0,rfl,?_⟩⟩;have:i=0 \/ i=1:=by simp at hi;omega
 rcases this with rfl | rfl
 ·exact h
 ·exact h2
def onw (o a b:Int) (tl:List Int) (at':Int):List Int × List Int :=
 if o=12 then ([at'+1,a],[b]) else if o=13 then ([],[a]) else if o=14 then ([at'+1],[a]) else if o=15 then (tl,[b]) else if o=16 then ([],[]) else ([at'+1],[])
def Bk (w:World) (tv v:Value):Prop:=v=tv \/ ∀ g,v.ownBlock=some g->w.heap.size<=g
theorem Bk.nil:Bk w tv (.slice none 0 0):=Or.inr λg e=>by cases e
theorem Bk.new {n c:Nat} (h:w.heap.size<=b):Bk w tv (.slice (some ⟨b,0,none⟩) n c):=Or.inr λg e=>by
 have e2:b=g:=by simpa [Value.ownBlock] using e
 subst e2;exact h
theorem Bk.own:Bk w tv tv:=Or.inl rfl
def OnP (w:World) (tv:Value) (w':World) (q:List Int × List Int) (e:Ending):Prop:=∃ c k,e=.returned (.tuple #[c,k])/\RdZ w' c q.1/\RdZ w' k q.2/\Bk w tv c/\Bk w tv k
theorem zF4 (x:Wc.In) (tv:Value) (at':Int) (w:World) (h:x.op=12) (ha:0<=at'/\at'<=1000000):Calls prog 63 #[inV x tv,.int .i64 at'] w λe w'=>OnP w tv w' ([at'+1,x.a],[x.b]) e/\Below w.heap.size w w':=by
 have pA:=AtL.new0 w 56 (zAD x tv);have hB:=zAK (Below.refl _ w) (.cells (zAD x tv).toArray 56);have c0:(w.alloc (.cells (zAD x tv).toArray 56)).cell? ⟨w.heap.size,0,none⟩=some (.int .i64 x.op):=pA.2.1 0 _ rfl;have c1:(w.alloc (.cells (zAD x tv).toArray 56)).cell? ⟨w.heap.size,1,none⟩=some (.int .i64 x.a):=pA.2.1 1 _ rfl;have c2:(w.alloc (.cells (zAD x tv).toArray 56)).cell? ⟨w.heap.size,2,none⟩=some (.int .i64 x.b):=pA.2.1 2 _ rfl;have hlt:=pA.lt;have hw:IntKind.i64.wrap (at'+1)=at'+1:=by rw [IntKind.wrap_i64];omega
 rw [h] at c0;clear pA h ha;go_enter func63,ntmps63;go_upto_region 1 with fail
 generalize (w.alloc (.cells (zAD x tv).toArray 56))=W at *;go_upto_region 3 with fail
 go_region
 all_goals
  go_wp2_with fail
  go_ret2
  refine ⟨⟨_,_,rfl,RdZ.two ?_ ?_,RdZ.one ?_,Bk.new ?_,Bk.new ?_⟩,(clB hB)⟩;all_goals first
   | (simp;done)
   | (simp;omega)
   | omega
theorem zF3 (x:Wc.In) (av:Option Addr) (n cap:Nat) (tl:List Int) (at':Int) (w:World) (h:x.op=13) (ha:0<=at'/\at'<=1000000) (hz:RdZ w (.slice av n cap) tl):Calls prog 63 #[inV x (.slice av n cap),.int .i64 at'] w λe w'=>OnP w (.slice av n cap) w' ([],[x.a]) e/\Below w.heap.size w w':=by
 have pA:=AtL.new0 w 56 (zAD x (.slice av n cap));have hB:=zAK (Below.refl _ w) (.cells (zAD x (.slice av n cap)).toArray 56);have c0:(w.alloc (.cells (zAD x (.slice av n cap)).toArray 56)).cell? ⟨w.heap.size,0,none⟩=some (.int .i64 x.op):=pA.2.1 0 _ rfl;have c1:(w.alloc (.cells (zAD x (.slice av n cap)).toArray 56)).cell? ⟨w.heap.size,1,none⟩=some (.int .i64 x.a):=pA.2.1 1 _ rfl;have c2:(w.alloc (.cells (zAD x (.slice av n cap)).toArray 56)).cell? ⟨w.heap.size,2,none⟩=some (.int .i64 x.b):=pA.2.1 2 _ rfl;have c22:(w.alloc (.cells (zAD x (.slice av n cap)).toArray 56)).cell? ⟨w.heap.size,22,none⟩=some (.slice av n cap):=pA.2.1 22 _ rfl;have hlt:=pA.lt;have hw:IntKind.i64.wrap (at'+1)=at'+1:=by rw [IntKind.wrap_i64];omega
 have HZ:Hid (RdZ w (.slice av n cap) tl):=hz;rw [h] at c0;clear pA h ha hz;go_enter func63,ntmps63;go_upto_region 1 with fail
 generalize (w.alloc (.cells (zAD x (.slice av n cap)).toArray 56))=W at *;go_upto_region 5 with fail
 go_region
 all_goals
  go_wp2_with fail
  go_ret2
  refine ⟨⟨_,_,rfl,RdZ.nil _,RdZ.one ?_,Bk.nil,Bk.new ?_⟩,(clB hB)⟩;all_goals first
   | (simp;done)
   | (simp;omega)
   | omega
theorem zGU (x:Wc.In) (av:Option Addr) (n cap:Nat) (tl:List Int) (at':Int) (w:World) (h:x.op=14) (ha:0<=at'/\at'<=1000000) (hz:RdZ w (.slice av n cap) tl):Calls prog 63 #[inV x (.slice av n cap),.int .i64 at'] w λe w'=>OnP w (.slice av n cap) w' ([at'+1],[x.a]) e/\Below w.heap.size w w':=by
 have pA:=AtL.new0 w 56 (zAD x (.slice av n cap));have hB:=zAK (Below.refl _ w) (.cells (zAD x (.slice av n cap)).toArray 56);have c0:(w.alloc (.cells (zAD x (.slice av n cap)).toArray 56)).cell? ⟨w.heap.size,0,none⟩=some (.int .i64 x.op):=pA.2.1 0 _ rfl;have c1:(w.alloc (.cells (zAD x (.slice av n cap)).toArray 56)).cell? ⟨w.heap.size,1,none⟩=some (.int .i64 x.a):=pA.2.1 1 _ rfl;have c2:(w.alloc (.cells (zAD x (.slice av n cap)).toArray 56)).cell? ⟨w.heap.size,2,none⟩=some (.int .i64 x.b):=pA.2.1 2 _ rfl;have c22:(w.alloc (.cells (zAD x (.slice av n cap)).toArray 56)).cell? ⟨w.heap.size,22,none⟩=some (.slice av n cap):=pA.2.1 22 _ rfl;have hlt:=pA.lt;have hw:IntKind.i64.wrap (at'+1)=at'+1:=by rw [IntKind.wrap_i64];omega
 have HZ:Hid (RdZ w (.slice av n cap) tl):=hz;rw [h] at c0;clear pA h ha hz;go_enter func63,ntmps63;go_upto_region 1 with fail
 generalize (w.alloc (.cells (zAD x (.slice av n cap)).toArray 56))=W at *;go_upto_region 7 with fail
 go_region
 all_goals
  go_wp2_with fail
  go_ret2
  refine ⟨⟨_,_,rfl,RdZ.one ?_,RdZ.one ?_,Bk.new ?_,Bk.new ?_⟩,(clB hB)⟩;all_goals first
   | (simp;done)
   | (simp;omega)
   | omega
theorem zF2 (x:Wc.In) (av:Option Addr) (n cap:Nat) (tl:List Int) (at':Int) (w:World) (h:x.op=15) (ha:0<=at'/\at'<=1000000) (hz:RdZ w (.slice av n cap) tl):Calls prog 63 #[inV x (.slice av n cap),.int .i64 at'] w λe w'=>OnP w (.slice av n cap) w' (tl,[x.b]) e/\Below w.heap.size w w':=by
 have pA:=AtL.new0 w 56 (zAD x (.slice av n cap));have hB:=zAK (Below.refl _ w) (.cells (zAD x (.slice av n cap)).toArray 56);have c0:(w.alloc (.cells (zAD x (.slice av n cap)).toArray 56)).cell? ⟨w.heap.size,0,none⟩=some (.int .i64 x.op):=pA.2.1 0 _ rfl;have c1:(w.alloc (.cells (zAD x (.slice av n cap)).toArray 56)).cell? ⟨w.heap.size,1,none⟩=some (.int .i64 x.a):=pA.2.1 1 _ rfl;have c2:(w.alloc (.cells (zAD x (.slice av n cap)).toArray 56)).cell? ⟨w.heap.size,2,none⟩=some (.int .i64 x.b):=pA.2.1 2 _ rfl;have c22:(w.alloc (.cells (zAD x (.slice av n cap)).toArray 56)).cell? ⟨w.heap.size,22,none⟩=some (.slice av n cap):=pA.2.1 22 _ rfl;have hlt:=pA.lt;have hw:IntKind.i64.wrap (at'+1)=at'+1:=by rw [IntKind.wrap_i64];omega
 have HZ:Hid (RdZ w (.slice av n cap) tl):=hz;rw [h] at c0;clear pA h ha hz;go_enter func63,ntmps63;go_upto_region 1 with fail
 generalize (w.alloc (.cells (zAD x (.slice av n cap)).toArray 56))=W at *;go_upto_region 9 with fail
 go_region
 all_goals
  go_wp2_with fail
  go_ret2
  refine ⟨⟨_,_,rfl,HZ.out.below (clB hB),RdZ.one ?_,Bk.own,Bk.new ?_⟩,(clB hB)⟩;all_goals first
   | (simp;done)
   | (simp;omega)
   | omega
theorem zFc (x:Wc.In) (av:Option Addr) (n cap:Nat) (tl:List Int) (at':Int) (w:World) (h:x.op=16) (ha:0<=at'/\at'<=1000000) (hz:RdZ w (.slice av n cap) tl):Calls prog 63 #[inV x (.slice av n cap),.int .i64 at'] w λe w'=>OnP w (.slice av n cap) w' ([],[]) e/\Below w.heap.size w w':=by
 have pA:=AtL.new0 w 56 (zAD x (.slice av n cap));have hB:=zAK (Below.refl _ w) (.cells (zAD x (.slice av n cap)).toArray 56);have c0:(w.alloc (.cells (zAD x (.slice av n cap)).toArray 56)).cell? ⟨w.heap.size,0,none⟩=some (.int .i64 x.op):=pA.2.1 0 _ rfl;have c1:(w.alloc (.cells (zAD x (.slice av n cap)).toArray 56)).cell? ⟨w.heap.size,1,none⟩=some (.int .i64 x.a):=pA.2.1 1 _ rfl;have c2:(w.alloc (.cells (zAD x (.slice av n cap)).toArray 56)).cell? ⟨w.heap.size,2,none⟩=some (.int .i64 x.b):=pA.2.1 2 _ rfl;have c22:(w.alloc (.cells (zAD x (.slice av n cap)).toArray 56)).cell? ⟨w.heap.size,22,none⟩=some (.slice av n cap):=pA.2.1 22 _ rfl;have hlt:=pA.lt;have hw:IntKind.i64.wrap (at'+1)=at'+1:=by rw [IntKind.wrap_i64];omega
 have HZ:Hid (RdZ w (.slice av n cap) tl):=hz;rw [h] at c0;clear pA h ha hz;go_enter func63,ntmps63;go_upto_region 1 with fail
 generalize (w.alloc (.cells (zAD x (.slice av n cap)).toArray 56))=W at *;all_goals
  go_wp2;go_ret2
  exact ⟨⟨_,_,rfl,RdZ.nil _,RdZ.nil _,Bk.nil,Bk.nil⟩,hB⟩
theorem zH4 (x:Wc.In) (av:Option Addr) (n cap:Nat) (at':Int) (w:World) (h:¬ (12<=x.op/\x.op<=16)) (ha:0<=at'/\at'<=1000000):Calls prog 63 #[inV x (.slice av n cap),.int .i64 at'] w λe w'=>OnP w (.slice av n cap) w' ([at'+1],[]) e/\Below w.heap.size w w':=by
 have pA:=AtL.new0 w 56 (zAD x (.slice av n cap));have hB:=zAK (Below.refl _ w) (.cells (zAD x (.slice av n cap)).toArray 56);have c0:(w.alloc (.cells (zAD x (.slice av n cap)).toArray 56)).cell? ⟨w.heap.size,0,none⟩=some (.int .i64 x.op):=pA.2.1 0 _ rfl;have c1:(w.alloc (.cells (zAD x (.slice av n cap)).toArray 56)).cell? ⟨w.heap.size,1,none⟩=some (.int .i64 x.a):=pA.2.1 1 _ rfl;have c2:(w.alloc (.cells (zAD x (.slice av n cap)).toArray 56)).cell? ⟨w.heap.size,2,none⟩=some (.int .i64 x.b):=pA.2.1 2 _ rfl;have c22:(w.alloc (.cells (zAD x (.slice av n cap)).toArray 56)).cell? ⟨w.heap.size,22,none⟩=some (.slice av n cap):=pA.2.1 22 _ rfl;have hlt:=pA.lt;have hw:IntKind.i64.wrap (at'+1)=at'+1:=by rw [IntKind.wrap_i64];omega
 have n12:(x.op == 12)=false:=by simp;omega
 have n13:(x.op == 13)=false:=by simp;omega
 have n14:(x.op == 14)=false:=by simp;omega
 have n15:(x.op == 15)=false:=by simp;omega
 have n16:(x.op == 16)=false:=by simp;omega
 clear pA h ha;go_enter func63,ntmps63;go_upto_region 1 with fail
 generalize (w.alloc (.cells (zAD x (.slice av n cap)).toArray 56))=W at *;go_wp2;go_ret2
 refine ⟨⟨_,_,rfl,RdZ.one ?_,RdZ.nil _,Bk.new ?_,Bk.nil⟩,(clB hB)⟩;all_goals first
  | (simp;done)
  | (simp;omega)
  | omega
theorem zBW (x:Wc.In) (av:Option Addr) (n cap:Nat) (tl:List Int) (at':Int) (w:World) (ha:0<=at'/\at'<=1000000) (hz:RdZ w (.slice av n cap) tl):Calls prog 63 #[inV x (.slice av n cap),.int .i64 at'] w λe w'=>OnP w (.slice av n cap) w' (onw x.op x.a x.b tl at') e/\Below w.heap.size w w':=by
 unfold onw;by_cases h12:x.op=12
 ·rw [if_pos h12];exact zF4 x _ at' w h12 ha
 by_cases h13:x.op=13
 ·rw [if_neg h12,if_pos h13];exact zF3 x av n cap tl at' w h13 ha hz
 by_cases h14:x.op=14
 ·rw [if_neg h12,if_neg h13,if_pos h14];exact zGU x av n cap tl at' w h14 ha hz
 by_cases h15:x.op=15
 ·rw [if_neg h12,if_neg h13,if_neg h14,if_pos h15];exact zF2 x av n cap tl at' w h15 ha hz
 by_cases h16:x.op=16
 ·rw [if_neg h12,if_neg h13,if_neg h14,if_neg h15,if_pos h16];exact zFc x av n cap tl at' w h16 ha hz
 rw [if_neg h12,if_neg h13,if_neg h14,if_neg h15,if_neg h16];exact zH4 x av n cap at' w (by omega) ha
def SmA (a:Wpl.Ar):Prop:=(-1000000<=a.t/\a.t<=1000000)/\(-1000000<=a.l/\a.l<=1000000)/\(-1000000<=a.b/\a.b<=1000000)/\(-1000000<=a.r/\a.r<=1000000)
abbrev ar5 (a:Wpl.Ar):List Value:=[.int .i64 a.s,.int .i64 a.t,.int .i64 a.l,.int .i64 a.b,.int .i64 a.r]
def shp (a b:Wpl.Ar):Bool:=(a.b - a.t == b.b - b.t) && (a.r - a.l == b.r - b.l)
theorem zDF (a:Wpl.Ar) (w:World) (h:SmA a):CR 123 #[.agg (ar5 a).toArray] w (.int .i64 (a.b - a.t+1)):=by
 have pA:=AtL.new0 w 53 (ar5 a);have hB:=zAK (Below.refl _ w) (.cells (ar5 a).toArray 53);have c1:(w.alloc (.cells (ar5 a).toArray 53)).cell? ⟨w.heap.size,1,none⟩=some (.int .i64 a.t):=pA.2.1 1 _ rfl;have c3:(w.alloc (.cells (ar5 a).toArray 53)).cell? ⟨w.heap.size,3,none⟩=some (.int .i64 a.b):=pA.2.1 3 _ rfl;obtain ⟨h1,h2,h3,h4⟩:=h;have w1:IntKind.i64.wrap (a.b - a.t)=a.b - a.t:=by rw [IntKind.wrap_i64];omega
 have w2:IntKind.i64.wrap (a.b - a.t+1)=a.b - a.t+1:=by rw [IntKind.wrap_i64];omega
 clear pA h1 h2 h3 h4;go_enter func123,ntmps123;go_upto_region 1 with fail
 generalize (w.alloc (.cells (ar5 a).toArray 53))=W at *;go_wp2;go_ret;exact ⟨by simp,hB⟩
theorem zCn (a:Wpl.Ar) (w:World) (h:SmA a):CR 124 #[.agg (ar5 a).toArray] w (.int .i64 (a.r - a.l+1)):=by
 have pA:=AtL.new0 w 53 (ar5 a);have hB:=zAK (Below.refl _ w) (.cells (ar5 a).toArray 53);have c1:(w.alloc (.cells (ar5 a).toArray 53)).cell? ⟨w.heap.size,2,none⟩=some (.int .i64 a.l):=pA.2.1 2 _ rfl;have c3:(w.alloc (.cells (ar5 a).toArray 53)).cell? ⟨w.heap.size,4,none⟩=some (.int .i64 a.r):=pA.2.1 4 _ rfl;obtain ⟨h1,h2,h3,h4⟩:=h;have w1:IntKind.i64.wrap (a.r - a.l)=a.r - a.l:=by rw [IntKind.wrap_i64];omega
 have w2:IntKind.i64.wrap (a.r - a.l+1)=a.r - a.l+1:=by rw [IntKind.wrap_i64];omega
 clear pA h1 h2 h3 h4;go_enter func124,ntmps124;go_upto_region 1 with fail
 generalize (w.alloc (.cells (ar5 a).toArray 53))=W at *;go_wp2;go_ret;exact ⟨by simp,hB⟩
theorem zD8 (a b:Wpl.Ar) (w:World) (h:SmA a) (g:SmA b):CR 57 #[.agg (ar5 a).toArray,.agg (ar5 b).toArray] w (.bool (shp a b)):=by
 have pA:=(AtL.new0 w 53 (ar5 a)).alloc (.cells (ar5 b).toArray 53);have pB:=AtL.new1 w (.cells (ar5 a).toArray 53) 53 (ar5 b);have hB:=zAK (zAK (Below.refl _ w) (.cells (ar5 a).toArray 53)) (.cells (ar5 b).toArray 53);have a1:=pA.2.1 1 _ rfl;have a2:=pA.2.1 2 _ rfl;have a3:=pA.2.1 3 _ rfl;have a4:=pA.2.1 4 _ rfl;have b1:=pB.2.1 1 _ rfl;have b2:=pB.2.1 2 _ rfl;have b3:=pB.2.1 3 _ rfl;have b4:=pB.2.1 4 _ rfl;obtain ⟨h1,h2,h3,h4⟩:=h;obtain ⟨g1,g2,g3,g4⟩:=g;have w1:IntKind.i64.wrap (a.b - a.t)=a.b - a.t:=by rw [IntKind.wrap_i64];omega
 have w2:IntKind.i64.wrap (b.b - b.t)=b.b - b.t:=by rw [IntKind.wrap_i64];omega
 have w3:IntKind.i64.wrap (a.r - a.l)=a.r - a.l:=by rw [IntKind.wrap_i64];omega
 have w4:IntKind.i64.wrap (b.r - b.l)=b.r - b.l:=by rw [IntKind.wrap_i64];omega
 clear pA pB h1 h2 h3 h4 g1 g2 g3 g4;unfold shp;cases hq:(a.b - a.t == b.b - b.t) with
 | false =>
  go_enter func57,ntmps57;go_upto_region 1 with fail
  generalize (w.alloc (.cells (ar5 a).toArray 53)).alloc (.cells (ar5 b).toArray 53)=W at *;go_wp2;go_ret;exact ⟨by simp,hB⟩
 | true =>
  go_enter func57,ntmps57;go_upto_region 1 with fail
  generalize (w.alloc (.cells (ar5 a).toArray 53)).alloc (.cells (ar5 b).toArray 53)=W at *;go_wp2;go_ret;exact ⟨by simp,hB⟩
theorem zCf (a b:Wpl.Ar) (w:World) (h:SmA a) (g:SmA b):CR 96 #[.agg (ar5 a).toArray,.agg (ar5 b).toArray] w (.bool (shp a b)):=by
 have pA:=(AtL.new0 w 53 (ar5 a)).alloc (.cells (ar5 b).toArray 53);have pB:=AtL.new1 w (.cells (ar5 a).toArray 53) 53 (ar5 b);have hB:=zAK (zAK (Below.refl _ w) (.cells (ar5 a).toArray 53)) (.cells (ar5 b).toArray 53);have RA:=λw=>zDF a w h
 have RB:=λw=>zDF b w g
 have CA:=λw=>zCn a w h
 have CB:=λw=>zCn b w g
 have e1:(a.b - a.t+1 == b.b - b.t+1)=(a.b - a.t == b.b - b.t):=by rw [Bool.eq_iff_iff];simp
 have e2:(a.r - a.l+1 == b.r - b.l+1)=(a.r - a.l == b.r - b.l):=by rw [Bool.eq_iff_iff];simp
 unfold shp;rw [<-e1,<-e2];clear e1 e2 h g;generalize a.b - a.t+1=x1 at *;generalize b.b - b.t+1=x2 at *;generalize a.r - a.l+1=y1 at *;generalize b.r - b.l+1=y2 at *;go_enter func96,ntmps96;go_upto_region 1 with fail
 generalize (w.alloc (.cells (ar5 a).toArray 53)).alloc (.cells (ar5 b).toArray 53)=W at *;have pA0:=AtL.drew pA;have pB0:=AtL.drew pB;have hB0:=hB.drew;clear pA pB hB;refine wp_region_held_drew (S:=λW=>W.rangeAt w.heap.size 0 (ar5 a)/\W.rangeAt (w.heap.size+1) 0 (ar5 b)) (by kernel_rfl) ⟨pA0.range,pB0.range⟩ (λhHeld=>?_);generalize W.drew=WD at *;refine wpAnyH_take (i:=0) (v:=.agg (ar5 a).toArray) (atQ rfl) (by kernel_rfl) (by kernel_rfl) (by kernel_rfl) (λ_ _ _ h=>h) (yieldsIf_load_mid (by rfl) 53 (.tmp 2) rfl (w.heap.size) 0 rfl (ar5 a) _ (λ_ h=>h.1) underlying53 rfl (by kernel_rfl)) (by assumption) ?_;try simp only [Act.put,lA,lZ,lS]
 refine wpAnyH_take (i:=2) (v:=.agg (ar5 b).toArray) (atQ rfl) (by kernel_rfl) (by kernel_rfl) (by kernel_rfl) (λ_ _ _ h=>h) (yieldsIf_load_mid (by rfl) 53 (.tmp 3) rfl (w.heap.size+1) 0 rfl (ar5 b) _ (λ_ h=>h.2) underlying53 rfl (by kernel_rfl)) (by assumption) ?_;try simp only [Act.put,lA,lZ,lS]
 refine rdQ 1 (λK hK=>?_);go_simp
 refine (RA _).mono ?_;rintro e w1 ⟨rfl,hb1⟩;have pA1:=AtL.below hb1 pA0;have pB1:=AtL.below hb1 pB0;have hB1:=zAB hB0 hb1;go_wp2_with fail
 refine hkQ hK ⟨pA1.range,pB1.range⟩ (λhHeld=>?_);clear hK K
 refine rdQ 3 (λK hK=>?_);go_simp
 refine (RB _).mono ?_;rintro e w2 ⟨rfl,hb2⟩;have pA2:=AtL.below hb2 pA1;have pB2:=AtL.below hb2 pB1;have hB2:=zAB hB1 hb2;go_wp2_with fail
 refine hkQ hK ⟨pA2.range,pB2.range⟩ (λhHeld=>?_);clear hK K
 cases hq:(x1 == x2) with
 | false =>
  refine tkQ 4 ?_
  refine tkQ 5 ?_
  refine tnQ 6 ?_
  refine tnQ 7 ?_
  refine tnQ 8 ?_
  refine tnQ 9 ?_
  refine tnQ 10 ?_
  refine tkQ 11 ?_
  refine rdQ 12 (λK hK=>?_);go_simp
  refine hkQ hK ⟨pA2.range,pB2.range⟩ (λhHeld=>?_);clear hK K
  refine wpAnyH_done (by kernel_rfl) ?_ _;go_wp2;go_ret;have hq2:=hq;simp only [beq_eq_false_iff_ne,ne_eq] at hq2;exact ⟨by simp [hq2],hB2⟩
 | true =>
  refine tkQ 4 ?_
  refine tkQ 5 ?_
  refine wpAnyH_take (i:=6) (v:=.agg (ar5 a).toArray) (atQ rfl) (by kernel_rfl) (by kernel_rfl) (by kernel_rfl) (λ_ _ _ h=>h) (yieldsIf_load_mid (by rfl) 53 (.tmp 2) rfl (w.heap.size) 0 rfl (ar5 a) _ (λ_ h=>h.1) underlying53 rfl (by kernel_rfl)) (by assumption) ?_;try simp only [Act.put,lA,lZ,lS]
  refine wpAnyH_take (i:=8) (v:=.agg (ar5 b).toArray) (atQ rfl) (by kernel_rfl) (by kernel_rfl) (by kernel_rfl) (λ_ _ _ h=>h) (yieldsIf_load_mid (by rfl) 53 (.tmp 3) rfl (w.heap.size+1) 0 rfl (ar5 b) _ (λ_ h=>h.2) underlying53 rfl (by kernel_rfl)) (by assumption) ?_;try simp only [Act.put,lA,lZ,lS]
  refine rdQ 7 (λK hK=>?_);go_simp
  refine (CA _).mono ?_;rintro e w3 ⟨rfl,hb3⟩;have pA3:=AtL.below hb3 pA2;have pB3:=AtL.below hb3 pB2;have hB3:=zAB hB2 hb3;go_wp2_with fail
  refine hkQ hK ⟨pA3.range,pB3.range⟩ (λhHeld=>?_);clear hK K
  refine rdQ 9 (λK hK=>?_);go_simp
  refine (CB _).mono ?_;rintro e w4 ⟨rfl,hb4⟩;have pA4:=AtL.below hb4 pA3;have pB4:=AtL.below hb4 pB3;have hB4:=zAB hB3 hb4;go_wp2_with fail
  refine hkQ hK ⟨pA4.range,pB4.range⟩ (λhHeld=>?_);clear hK K
  refine tkQ 10 ?_
  refine tkQ 11 ?_
  refine rdQ 12 (λK hK=>?_);go_simp
  refine hkQ hK ⟨pA4.range,pB4.range⟩ (λhHeld=>?_);clear hK K
  refine wpAnyH_done (by kernel_rfl) ?_ _;go_wp2;go_ret;have hq2:=hq;simp only [beq_iff_eq] at hq2;exact ⟨by simp [hq2],hB4⟩
abbrev sg6 (id c:Int) (nm:ByteArray) (l m:Int) (ps:ByteArray):List Value:=[.int .i64 id,.int .i64 c,.string nm,.int .i64 l,.int .i64 m,.string ps]
theorem at6 {W:World} {k:Nat} {a b c d e f:Value} (h:AtL W k [a,b,c,d,e,f]) :
  W.cell? ⟨k,0,none⟩=some a/\W.cell? ⟨k,1,none⟩=some b/\W.cell? ⟨k,2,none⟩=some c/\W.cell? ⟨k,3,none⟩=some d/\W.cell? ⟨k,4,none⟩=some e/\W.cell? ⟨k,5,none⟩=some f/\W.frozen? ⟨k,0,none⟩=false/\W.frozen? ⟨k,1,none⟩=false/\W.frozen? ⟨k,2,none⟩=false/\W.frozen? ⟨k,3,none⟩=false/\W.frozen? ⟨k,4,none⟩=false/\W.frozen? ⟨k,5,none⟩=false :=
 ⟨h.2.1 0 a rfl,h.2.1 1 b rfl,h.2.1 2 c rfl,h.2.1 3 d rfl,h.2.1 4 e rfl,h.2.1 5 f rfl,h.2.2 0 (by simp),h.2.2 1 (by simp),h.2.2 2 (by simp),h.2.2 3 (by simp),h.2.2 4 (by simp),h.2.2 5 (by simp)⟩
theorem zAY (c l m:Int) (ps:ByteArray) (w:World):CR 170 #[.int .i64 c,.int .i64 l,.int .i64 m,.string ps] w (.agg (sg6 0 c ⟨#[]⟩ l m ps).toArray):=by
 have hB:=zAK (Below.refl _ w) (.cells (sg6 0 0 ⟨#[]⟩ 0 0 ⟨#[]⟩).toArray 108);go_enter func170,ntmps170;go_wp2;refine bodyPost_ret (v:=.agg (sg6 0 c ⟨#[]⟩ l m ps).toArray) (by simp [results,results170,go_sem]) rfl ⟨rfl,clA⟩
def zE7 (id:Int):List Value :=
 if id=30 then sg6 0 3 ⟨#[]⟩ 2 3 ⟨#[118]⟩ else if id=31 then sg6 0 3 ⟨#[]⟩ 2 2 ⟨#[118]⟩ else sg6 0 3 ⟨#[]⟩ 2 30 ⟨#[118]⟩
theorem zG7 (id:Int) (w:World):CR 172 #[.int .i64 id] w (.agg (zE7 id).toArray):=by
 have pZ:=AtL.new0 w 108 (sg6 0 0 ⟨#[]⟩ 0 0 ⟨#[]⟩);have hB:=zAK (Below.refl _ w) (.cells (sg6 0 0 ⟨#[]⟩ 0 0 ⟨#[]⟩).toArray 108);unfold zE7;by_cases h30:id=30
 ·subst h30;have AK:=λw=>zAY 3 2 3 ⟨#[118]⟩ w
  go_enter func172,ntmps172;go_wp2_with fail
  refine (AK _).mono ?_;rintro e w1 ⟨rfl,hb1⟩;obtain ⟨b0,b1,b2,b3,b4,b5,k0,k1,k2,k3,k4,k5⟩:=at6 (AtL.below hb1 pZ);have hB1:=zAB hB hb1;go_wp2;refine bodyPost_ret (v:=.agg (sg6 0 3 ⟨#[]⟩ 2 3 ⟨#[118]⟩).toArray) (by simp [results,results172,go_sem,b0,b1,b2,b3,b4,b5]) rfl ⟨rfl,(clB hB1)⟩
 by_cases h31:id=31
 ·subst h31;have AK:=λw=>zAY 3 2 2 ⟨#[118]⟩ w
  go_enter func172,ntmps172;go_wp2_with fail
  refine (AK _).mono ?_;rintro e w1 ⟨rfl,hb1⟩;obtain ⟨b0,b1,b2,b3,b4,b5,k0,k1,k2,k3,k4,k5⟩:=at6 (AtL.below hb1 pZ);have hB1:=zAB hB hb1;go_wp2;refine bodyPost_ret (v:=.agg (sg6 0 3 ⟨#[]⟩ 2 2 ⟨#[118]⟩).toArray) (by simp [results,results172,go_sem,b0,b1,b2,b3,b4,b5]) rfl ⟨rfl,(clB hB1)⟩
 have n30:(id == 30)=false:=by simp [h30]
 have n31:(id == 31)=false:=by simp [h31]
 rw [if_neg (by simp [h30]),if_neg (by simp [h31])];clear h30 h31;have AK:=λw=>zAY 3 2 30 ⟨#[118]⟩ w
 go_enter func172,ntmps172;go_wp2_with fail
 refine (AK _).mono ?_;rintro e w1 ⟨rfl,hb1⟩;obtain ⟨b0,b1,b2,b3,b4,b5,k0,k1,k2,k3,k4,k5⟩:=at6 (AtL.below hb1 pZ);have hB1:=zAB hB hb1;go_wp2;refine bodyPost_ret (v:=.agg (sg6 0 3 ⟨#[]⟩ 2 30 ⟨#[118]⟩).toArray) (by simp [results,results172,go_sem,b0,b1,b2,b3,b4,b5]) rfl ⟨rfl,(clB hB1)⟩
def zER (id:Int):List Value :=
 if id=20 then sg6 0 2 ⟨#[]⟩ 2 2 ⟨#[118,97]⟩ else if id=21 then sg6 0 2 ⟨#[]⟩ 2 2 ⟨#[97,118]⟩ else if id=22 then sg6 0 2 ⟨#[]⟩ 2 3 ⟨#[97,118,97]⟩ else if id=23 then sg6 0 2 ⟨#[]⟩ 3 3 ⟨#[118,97,97]⟩ else if id=24 then sg6 0 2 ⟨#[]⟩ 2 2 ⟨#[97]⟩ else if id=25 then sg6 0 2 ⟨#[]⟩ 2 3 ⟨#[97,118]⟩ else sg6 0 2 ⟨#[]⟩ 1 1 ⟨#[97]⟩
theorem zFq (id:Int) (w:World):CR 171 #[.int .i64 id] w (.agg (zER id).toArray):=by
 have pZ:=AtL.new0 w 108 (sg6 0 0 ⟨#[]⟩ 0 0 ⟨#[]⟩);have hB:=zAK (Below.refl _ w) (.cells (sg6 0 0 ⟨#[]⟩ 0 0 ⟨#[]⟩).toArray 108);unfold zER;by_cases h20:id=20
 ·subst h20;have AK:=λw=>zAY 2 2 2 ⟨#[118,97]⟩ w
  go_enter func171,ntmps171;go_wp2_with fail
  refine (AK _).mono ?_;rintro e w1 ⟨rfl,hb1⟩;obtain ⟨b0,b1,b2,b3,b4,b5,k0,k1,k2,k3,k4,k5⟩:=at6 (AtL.below hb1 pZ);have hB1:=zAB hB hb1;go_wp2;refine bodyPost_ret (v:=.agg (sg6 0 2 ⟨#[]⟩ 2 2 ⟨#[118,97]⟩).toArray) (by simp [results,results171,go_sem,b0,b1,b2,b3,b4,b5]) rfl ⟨rfl,(clB hB1)⟩
 by_cases h21:id=21
 ·subst h21;have AK:=λw=>zAY 2 2 2 ⟨#[97,118]⟩ w
  go_enter func171,ntmps171;go_wp2_with fail
  refine (AK _).mono ?_;rintro e w1 ⟨rfl,hb1⟩;obtain ⟨b0,b1,b2,b3,b4,b5,k0,k1,k2,k3,k4,k5⟩:=at6 (AtL.below hb1 pZ);have hB1:=zAB hB hb1;go_wp2;refine bodyPost_ret (v:=.agg (sg6 0 2 ⟨#[]⟩ 2 2 ⟨#[97,118]⟩).toArray) (by simp [results,results171,go_sem,b0,b1,b2,b3,b4,b5]) rfl ⟨rfl,(clB hB1)⟩
 by_cases h22:id=22
 ·subst h22;have AK:=λw=>zAY 2 2 3 ⟨#[97,118,97]⟩ w
  go_enter func171,ntmps171;go_wp2_with fail
  refine (AK _).mono ?_;rintro e w1 ⟨rfl,hb1⟩;obtain ⟨b0,b1,b2,b3,b4,b5,k0,k1,k2,k3,k4,k5⟩:=at6 (AtL.below hb1 pZ);have hB1:=zAB hB hb1;go_wp2;refine bodyPost_ret (v:=.agg (sg6 0 2 ⟨#[]⟩ 2 3 ⟨#[97,118,97]⟩).toArray) (by simp [results,results171,go_sem,b0,b1,b2,b3,b4,b5]) rfl ⟨rfl,(clB hB1)⟩
 by_cases h23:id=23
 ·subst h23;have AK:=λw=>zAY 2 3 3 ⟨#[118,97,97]⟩ w
  go_enter func171,ntmps171;go_wp2_with fail
  refine (AK _).mono ?_;rintro e w1 ⟨rfl,hb1⟩;obtain ⟨b0,b1,b2,b3,b4,b5,k0,k1,k2,k3,k4,k5⟩:=at6 (AtL.below hb1 pZ);have hB1:=zAB hB hb1;go_wp2;refine bodyPost_ret (v:=.agg (sg6 0 2 ⟨#[]⟩ 3 3 ⟨#[118,97,97]⟩).toArray) (by simp [results,results171,go_sem,b0,b1,b2,b3,b4,b5]) rfl ⟨rfl,(clB hB1)⟩
 by_cases h24:id=24
 ·subst h24;have AK:=λw=>zAY 2 2 2 ⟨#[97]⟩ w
  go_enter func171,ntmps171;go_wp2_with fail
  refine (AK _).mono ?_;rintro e w1 ⟨rfl,hb1⟩;obtain ⟨b0,b1,b2,b3,b4,b5,k0,k1,k2,k3,k4,k5⟩:=at6 (AtL.below hb1 pZ);have hB1:=zAB hB hb1;go_wp2;refine bodyPost_ret (v:=.agg (sg6 0 2 ⟨#[]⟩ 2 2 ⟨#[97]⟩).toArray) (by simp [results,results171,go_sem,b0,b1,b2,b3,b4,b5]) rfl ⟨rfl,(clB hB1)⟩
 by_cases h25:id=25
 ·subst h25;have AK:=λw=>zAY 2 2 3 ⟨#[97,118]⟩ w
  go_enter func171,ntmps171;go_wp2_with fail
  refine (AK _).mono ?_;rintro e w1 ⟨rfl,hb1⟩;obtain ⟨b0,b1,b2,b3,b4,b5,k0,k1,k2,k3,k4,k5⟩:=at6 (AtL.below hb1 pZ);have hB1:=zAB hB hb1;go_wp2;refine bodyPost_ret (v:=.agg (sg6 0 2 ⟨#[]⟩ 2 3 ⟨#[97,118]⟩).toArray) (by simp [results,results171,go_sem,b0,b1,b2,b3,b4,b5]) rfl ⟨rfl,(clB hB1)⟩
 have n20:(id == 20)=false:=by simp [h20]
 have n21:(id == 21)=false:=by simp [h21]
 have n22:(id == 22)=false:=by simp [h22]
 have n23:(id == 23)=false:=by simp [h23]
 have n24:(id == 24)=false:=by simp [h24]
 have n25:(id == 25)=false:=by simp [h25]
 rw [if_neg (by simp [h20]),if_neg (by simp [h21]),if_neg (by simp [h22]),if_neg (by simp [h23]),if_neg (by simp [h24]),if_neg (by simp [h25])];clear h20 h21 h22 h23 h24 h25;have AK:=λw=>zAY 2 1 1 ⟨#[97]⟩ w
 go_enter func171,ntmps171;go_wp2_with fail
 refine (AK _).mono ?_;rintro e w1 ⟨rfl,hb1⟩;obtain ⟨b0,b1,b2,b3,b4,b5,k0,k1,k2,k3,k4,k5⟩:=at6 (AtL.below hb1 pZ);have hB1:=zAB hB hb1;go_wp2;refine bodyPost_ret (v:=.agg (sg6 0 2 ⟨#[]⟩ 1 1 ⟨#[97]⟩).toArray) (by simp [results,results171,go_sem,b0,b1,b2,b3,b4,b5]) rfl ⟨rfl,(clB hB1)⟩
def zEN (id:Int):List Value :=
 if id=62 then sg6 0 4 ⟨#[]⟩ 0 0 ⟨#[118]⟩ else if id=43 \/ id=49 \/ id=50 then sg6 0 4 ⟨#[]⟩ 1 2 ⟨#[118]⟩ else if id=44 \/ id=45 \/ id=46 \/ id=52 \/ id=53 then sg6 0 4 ⟨#[]⟩ 2 2 ⟨#[118]⟩ else if id=51 then sg6 0 4 ⟨#[]⟩ 3 3 ⟨#[118]⟩ else sg6 0 4 ⟨#[]⟩ 1 1 ⟨#[118]⟩
theorem zFf (id:Int) (w:World):CR 173 #[.int .i64 id] w (.agg (zEN id).toArray):=by
 have pZ:=AtL.new0 w 108 (sg6 0 0 ⟨#[]⟩ 0 0 ⟨#[]⟩);have hB:=zAK (Below.refl _ w) (.cells (sg6 0 0 ⟨#[]⟩ 0 0 ⟨#[]⟩).toArray 108);unfold zEN;by_cases h62:id=62
 ·subst h62;have AK:=λw=>zAY 4 0 0 ⟨#[118]⟩ w
  go_enter func173,ntmps173;go_wp2_with fail
  refine (AK _).mono ?_;rintro e w1 ⟨rfl,hb1⟩;obtain ⟨b0,b1,b2,b3,b4,b5,k0,k1,k2,k3,k4,k5⟩:=at6 (AtL.below hb1 pZ);have hB1:=zAB hB hb1;go_wp2;refine bodyPost_ret (v:=.agg (sg6 0 4 ⟨#[]⟩ 0 0 ⟨#[118]⟩).toArray) (by simp [results,results173,go_sem,b0,b1,b2,b3,b4,b5]) rfl ⟨rfl,(clB hB1)⟩
 by_cases h43:id=43
 ·subst h43;have AK:=λw=>zAY 4 1 2 ⟨#[118]⟩ w
  go_enter func173,ntmps173;go_wp2_with fail
  refine (AK _).mono ?_;rintro e w1 ⟨rfl,hb1⟩;obtain ⟨b0,b1,b2,b3,b4,b5,k0,k1,k2,k3,k4,k5⟩:=at6 (AtL.below hb1 pZ);have hB1:=zAB hB hb1;go_wp2;refine bodyPost_ret (v:=.agg (sg6 0 4 ⟨#[]⟩ 1 2 ⟨#[118]⟩).toArray) (by simp [results,results173,go_sem,b0,b1,b2,b3,b4,b5]) rfl ⟨rfl,(clB hB1)⟩
 by_cases h49:id=49
 ·subst h49;have AK:=λw=>zAY 4 1 2 ⟨#[118]⟩ w
  go_enter func173,ntmps173;go_wp2_with fail
  refine (AK _).mono ?_;rintro e w1 ⟨rfl,hb1⟩;obtain ⟨b0,b1,b2,b3,b4,b5,k0,k1,k2,k3,k4,k5⟩:=at6 (AtL.below hb1 pZ);have hB1:=zAB hB hb1;go_wp2;refine bodyPost_ret (v:=.agg (sg6 0 4 ⟨#[]⟩ 1 2 ⟨#[118]⟩).toArray) (by simp [results,results173,go_sem,b0,b1,b2,b3,b4,b5]) rfl ⟨rfl,(clB hB1)⟩
 by_cases h50:id=50
 ·subst h50;have AK:=λw=>zAY 4 1 2 ⟨#[118]⟩ w
  go_enter func173,ntmps173;go_wp2_with fail
  refine (AK _).mono ?_;rintro e w1 ⟨rfl,hb1⟩;obtain ⟨b0,b1,b2,b3,b4,b5,k0,k1,k2,k3,k4,k5⟩:=at6 (AtL.below hb1 pZ);have hB1:=zAB hB hb1;go_wp2;refine bodyPost_ret (v:=.agg (sg6 0 4 ⟨#[]⟩ 1 2 ⟨#[118]⟩).toArray) (by simp [results,results173,go_sem,b0,b1,b2,b3,b4,b5]) rfl ⟨rfl,(clB hB1)⟩
 by_cases h44:id=44
 ·subst h44;have AK:=λw=>zAY 4 2 2 ⟨#[118]⟩ w
  go_enter func173,ntmps173;go_wp2_with fail
  refine (AK _).mono ?_;rintro e w1 ⟨rfl,hb1⟩;obtain ⟨b0,b1,b2,b3,b4,b5,k0,k1,k2,k3,k4,k5⟩:=at6 (AtL.below hb1 pZ);have hB1:=zAB hB hb1;go_wp2;refine bodyPost_ret (v:=.agg (sg6 0 4 ⟨#[]⟩ 2 2 ⟨#[118]⟩).toArray) (by simp [results,results173,go_sem,b0,b1,b2,b3,b4,b5]) rfl ⟨rfl,(clB hB1)⟩
 by_cases h45:id=45
 ·subst h45;have AK:=λw=>zAY 4 2 2 ⟨#[118]⟩ w
  go_enter func173,ntmps173;go_wp2_with fail
  refine (AK _).mono ?_;rintro e w1 ⟨rfl,hb1⟩;obtain ⟨b0,b1,b2,b3,b4,b5,k0,k1,k2,k3,k4,k5⟩:=at6 (AtL.below hb1 pZ);have hB1:=zAB hB hb1;go_wp2;refine bodyPost_ret (v:=.agg (sg6 0 4 ⟨#[]⟩ 2 2 ⟨#[118]⟩).toArray) (by simp [results,results173,go_sem,b0,b1,b2,b3,b4,b5]) rfl ⟨rfl,(clB hB1)⟩
 by_cases h46:id=46
 ·subst h46;have AK:=λw=>zAY 4 2 2 ⟨#[118]⟩ w
  go_enter func173,ntmps173;go_wp2_with fail
  refine (AK _).mono ?_;rintro e w1 ⟨rfl,hb1⟩;obtain ⟨b0,b1,b2,b3,b4,b5,k0,k1,k2,k3,k4,k5⟩:=at6 (AtL.below hb1 pZ);have hB1:=zAB hB hb1;go_wp2;refine bodyPost_ret (v:=.agg (sg6 0 4 ⟨#[]⟩ 2 2 ⟨#[118]⟩).toArray) (by simp [results,results173,go_sem,b0,b1,b2,b3,b4,b5]) rfl ⟨rfl,(clB hB1)⟩
 by_cases h52:id=52
 ·subst h52;have AK:=λw=>zAY 4 2 2 ⟨#[118]⟩ w
  go_enter func173,ntmps173;go_wp2_with fail
  refine (AK _).mono ?_;rintro e w1 ⟨rfl,hb1⟩;obtain ⟨b0,b1,b2,b3,b4,b5,k0,k1,k2,k3,k4,k5⟩:=at6 (AtL.below hb1 pZ);have hB1:=zAB hB hb1;go_wp2;refine bodyPost_ret (v:=.agg (sg6 0 4 ⟨#[]⟩ 2 2 ⟨#[118]⟩).toArray) (by simp [results,results173,go_sem,b0,b1,b2,b3,b4,b5]) rfl ⟨rfl,(clB hB1)⟩
 by_cases h53:id=53
 ·subst h53;have AK:=λw=>zAY 4 2 2 ⟨#[118]⟩ w
  go_enter func173,ntmps173;go_wp2_with fail
  refine (AK _).mono ?_;rintro e w1 ⟨rfl,hb1⟩;obtain ⟨b0,b1,b2,b3,b4,b5,k0,k1,k2,k3,k4,k5⟩:=at6 (AtL.below hb1 pZ);have hB1:=zAB hB hb1;go_wp2;refine bodyPost_ret (v:=.agg (sg6 0 4 ⟨#[]⟩ 2 2 ⟨#[118]⟩).toArray) (by simp [results,results173,go_sem,b0,b1,b2,b3,b4,b5]) rfl ⟨rfl,(clB hB1)⟩
 by_cases h51:id=51
 ·subst h51;have AK:=λw=>zAY 4 3 3 ⟨#[118]⟩ w
  go_enter func173,ntmps173;go_wp2_with fail
  refine (AK _).mono ?_;rintro e w1 ⟨rfl,hb1⟩;obtain ⟨b0,b1,b2,b3,b4,b5,k0,k1,k2,k3,k4,k5⟩:=at6 (AtL.below hb1 pZ);have hB1:=zAB hB hb1;go_wp2;refine bodyPost_ret (v:=.agg (sg6 0 4 ⟨#[]⟩ 3 3 ⟨#[118]⟩).toArray) (by simp [results,results173,go_sem,b0,b1,b2,b3,b4,b5]) rfl ⟨rfl,(clB hB1)⟩
 have n62:(id == 62)=false:=by simp [h62]
 have n43:(id == 43)=false:=by simp [h43]
 have n49:(id == 49)=false:=by simp [h49]
 have n50:(id == 50)=false:=by simp [h50]
 have n44:(id == 44)=false:=by simp [h44]
 have n45:(id == 45)=false:=by simp [h45]
 have n46:(id == 46)=false:=by simp [h46]
 have n52:(id == 52)=false:=by simp [h52]
 have n53:(id == 53)=false:=by simp [h53]
 have n51:(id == 51)=false:=by simp [h51]
 rw [if_neg (by simp [h62]),if_neg (by simp [h43,h49,h50]),if_neg (by simp [h44,h45,h46,h52,h53]),if_neg (by simp [h51])];clear h62 h43 h49 h50 h44 h45 h46 h52 h53 h51;have AK:=λw=>zAY 4 1 1 ⟨#[118]⟩ w
 go_enter func173,ntmps173;go_wp2_with fail
 refine (AK _).mono ?_;rintro e w1 ⟨rfl,hb1⟩;obtain ⟨b0,b1,b2,b3,b4,b5,k0,k1,k2,k3,k4,k5⟩:=at6 (AtL.below hb1 pZ);have hB1:=zAB hB hb1;go_wp2;refine bodyPost_ret (v:=.agg (sg6 0 4 ⟨#[]⟩ 1 1 ⟨#[118]⟩).toArray) (by simp [results,results173,go_sem,b0,b1,b2,b3,b4,b5]) rfl ⟨rfl,(clB hB1)⟩
