/- KOnw, KSl, KFrom, KBnd, KRBndP. -/
import Derived.Test.YtcddpgfdadpbgaaGreatDoorQ42
set_option maxHeartbeats 4000000
set_option maxRecDepth 100000
namespace Go.Proofs.YtcddpgfdadpbgaaGreatDoor
open Tryz
open Go.RowKit
set_option linter.unusedVariables false
variable {w w':World} {D:BD} {n lb mb ab i:Nat} {S:List Nat} {b1 b2:Int}
theorem zq27:Np (.slice none 0 0):=λl c e=>by cases e;rfl
def OnQ (w:World) (tv:Value) (w':World) (q:List Int × List Int) (e:Ending):Prop:=∃ c k,e=.returned (.tuple #[c,k])/\RdZ w' c q.1/\RdZ w' k q.2/\Bk w tv c/\Bk w tv k/\Np c/\Np k
theorem zq96 (x:Wc.In) (tv:Value) (at':Int) (w:World) (h:x.op=12) (ha:0<=at'/\at'<=1000000):Calls prog 35 #[inV x tv,.int .i64 at'] w λe w'=>OnQ w tv w' ([at'+1,x.a],[x.b]) e/\Below w.heap.size w w':=by
 have pA:=AtL.new0 w 52 (zAD x tv);have hB:=zAJ (Below.refl _ w) (.cells (zAD x tv).toArray 52);have c0:(w.alloc (.cells (zAD x tv).toArray 52)).cell? ⟨w.heap.size,0,none⟩=some (.int .i64 x.op):=pA.2.1 0 _ rfl;have c1:(w.alloc (.cells (zAD x tv).toArray 52)).cell? ⟨w.heap.size,1,none⟩=some (.int .i64 x.a):=pA.2.1 1 _ rfl;have c2:(w.alloc (.cells (zAD x tv).toArray 52)).cell? ⟨w.heap.size,2,none⟩=some (.int .i64 x.b):=pA.2.1 2 _ rfl;have hlt:=pA.lt;have hw:IntKind.i64.wrap (at'+1)=at'+1:=by rw [IntKind.wrap_i64];omega
 rw [h] at c0;clear pA h ha;go_enter func35,ntmps35;go_upto_region 1 with fail
 generalize (w.alloc (.cells (zAD x tv).toArray 52))=W at *;go_upto_region 3 with fail
 go_region
 all_goals
  go_wp2_with fail
  go_ret2
  refine ⟨⟨_,_,rfl,RdZ.two ?_ ?_,RdZ.one ?_,Bk.new ?_,Bk.new ?_,zBI,zBI⟩,(clB hB)⟩;all_goals first
   | (simp;done)
   | (simp;omega)
   | omega
theorem zq99 (x:Wc.In) (av:Option Addr) (n cap:Nat) (tl:List Int) (at':Int) (w:World) (h:x.op=13) (ha:0<=at'/\at'<=1000000) (hz:RdZ w (.slice av n cap) tl):Calls prog 35 #[inV x (.slice av n cap),.int .i64 at'] w λe w'=>OnQ w (.slice av n cap) w' ([],[x.a]) e/\Below w.heap.size w w':=by
 have pA:=AtL.new0 w 52 (zAD x (.slice av n cap));have hB:=zAJ (Below.refl _ w) (.cells (zAD x (.slice av n cap)).toArray 52);have c0:(w.alloc (.cells (zAD x (.slice av n cap)).toArray 52)).cell? ⟨w.heap.size,0,none⟩=some (.int .i64 x.op):=pA.2.1 0 _ rfl;have c1:(w.alloc (.cells (zAD x (.slice av n cap)).toArray 52)).cell? ⟨w.heap.size,1,none⟩=some (.int .i64 x.a):=pA.2.1 1 _ rfl;have c2:(w.alloc (.cells (zAD x (.slice av n cap)).toArray 52)).cell? ⟨w.heap.size,2,none⟩=some (.int .i64 x.b):=pA.2.1 2 _ rfl;have c22:(w.alloc (.cells (zAD x (.slice av n cap)).toArray 52)).cell? ⟨w.heap.size,22,none⟩=some (.slice av n cap):=pA.2.1 22 _ rfl;have hlt:=pA.lt;have hw:IntKind.i64.wrap (at'+1)=at'+1:=by rw [IntKind.wrap_i64];omega
 have HZ:Hid (RdZ w (.slice av n cap) tl):=hz;rw [h] at c0;clear pA h ha hz;go_enter func35,ntmps35;go_upto_region 1 with fail
 generalize (w.alloc (.cells (zAD x (.slice av n cap)).toArray 52))=W at *;go_upto_region 5 with fail
 go_region
 all_goals
  go_wp2_with fail
  go_ret2
  refine ⟨⟨_,_,rfl,RdZ.nil _,RdZ.one ?_,Bk.nil,Bk.new ?_,zq27,zBI⟩,(clB hB)⟩;all_goals first
   | (simp;done)
   | (simp;omega)
   | omega
theorem zq95 (x:Wc.In) (av:Option Addr) (n cap:Nat) (tl:List Int) (at':Int) (w:World) (h:x.op=14) (ha:0<=at'/\at'<=1000000) (hz:RdZ w (.slice av n cap) tl):Calls prog 35 #[inV x (.slice av n cap),.int .i64 at'] w λe w'=>OnQ w (.slice av n cap) w' ([at'+1],[x.a]) e/\Below w.heap.size w w':=by
 have pA:=AtL.new0 w 52 (zAD x (.slice av n cap));have hB:=zAJ (Below.refl _ w) (.cells (zAD x (.slice av n cap)).toArray 52);have c0:(w.alloc (.cells (zAD x (.slice av n cap)).toArray 52)).cell? ⟨w.heap.size,0,none⟩=some (.int .i64 x.op):=pA.2.1 0 _ rfl;have c1:(w.alloc (.cells (zAD x (.slice av n cap)).toArray 52)).cell? ⟨w.heap.size,1,none⟩=some (.int .i64 x.a):=pA.2.1 1 _ rfl;have c2:(w.alloc (.cells (zAD x (.slice av n cap)).toArray 52)).cell? ⟨w.heap.size,2,none⟩=some (.int .i64 x.b):=pA.2.1 2 _ rfl;have c22:(w.alloc (.cells (zAD x (.slice av n cap)).toArray 52)).cell? ⟨w.heap.size,22,none⟩=some (.slice av n cap):=pA.2.1 22 _ rfl;have hlt:=pA.lt;have hw:IntKind.i64.wrap (at'+1)=at'+1:=by rw [IntKind.wrap_i64];omega
 have HZ:Hid (RdZ w (.slice av n cap) tl):=hz;rw [h] at c0;clear pA h ha hz;go_enter func35,ntmps35;go_upto_region 1 with fail
 generalize (w.alloc (.cells (zAD x (.slice av n cap)).toArray 52))=W at *;go_upto_region 7 with fail
 go_region
 all_goals
  go_wp2_with fail
  go_ret2
  refine ⟨⟨_,_,rfl,RdZ.one ?_,RdZ.one ?_,Bk.new ?_,Bk.new ?_,zBI,zBI⟩,(clB hB)⟩;all_goals first
   | (simp;done)
   | (simp;omega)
   | omega
theorem zq94 (x:Wc.In) (av:Option Addr) (n cap:Nat) (tl:List Int) (at':Int) (w:World) (h:x.op=15) (ha:0<=at'/\at'<=1000000) (hz:RdZ w (.slice av n cap) tl) (hnp:Np (.slice av n cap)):Calls prog 35 #[inV x (.slice av n cap),.int .i64 at'] w λe w'=>OnQ w (.slice av n cap) w' (tl,[x.b]) e/\Below w.heap.size w w':=by
 have pA:=AtL.new0 w 52 (zAD x (.slice av n cap));have hB:=zAJ (Below.refl _ w) (.cells (zAD x (.slice av n cap)).toArray 52);have c0:(w.alloc (.cells (zAD x (.slice av n cap)).toArray 52)).cell? ⟨w.heap.size,0,none⟩=some (.int .i64 x.op):=pA.2.1 0 _ rfl;have c1:(w.alloc (.cells (zAD x (.slice av n cap)).toArray 52)).cell? ⟨w.heap.size,1,none⟩=some (.int .i64 x.a):=pA.2.1 1 _ rfl;have c2:(w.alloc (.cells (zAD x (.slice av n cap)).toArray 52)).cell? ⟨w.heap.size,2,none⟩=some (.int .i64 x.b):=pA.2.1 2 _ rfl;have c22:(w.alloc (.cells (zAD x (.slice av n cap)).toArray 52)).cell? ⟨w.heap.size,22,none⟩=some (.slice av n cap):=pA.2.1 22 _ rfl;have hlt:=pA.lt;have hw:IntKind.i64.wrap (at'+1)=at'+1:=by rw [IntKind.wrap_i64];omega
 have HZ:Hid (RdZ w (.slice av n cap) tl):=hz;have HNP:Hid (Np (.slice av n cap)):=hnp;rw [h] at c0;clear pA h ha hz hnp;go_enter func35,ntmps35;go_upto_region 1 with fail
 generalize (w.alloc (.cells (zAD x (.slice av n cap)).toArray 52))=W at *;go_upto_region 9 with fail
 go_region
 all_goals
  go_wp2_with fail
  go_ret2
  refine ⟨⟨_,_,rfl,HZ.out.below (clB hB),RdZ.one ?_,Bk.own,Bk.new ?_,HNP.out,zBI⟩,(clB hB)⟩;all_goals first
   | (simp;done)
   | (simp;omega)
   | omega
theorem zq100 (x:Wc.In) (av:Option Addr) (n cap:Nat) (tl:List Int) (at':Int) (w:World) (h:x.op=16) (ha:0<=at'/\at'<=1000000) (hz:RdZ w (.slice av n cap) tl):Calls prog 35 #[inV x (.slice av n cap),.int .i64 at'] w λe w'=>OnQ w (.slice av n cap) w' ([],[]) e/\Below w.heap.size w w':=by
 have pA:=AtL.new0 w 52 (zAD x (.slice av n cap));have hB:=zAJ (Below.refl _ w) (.cells (zAD x (.slice av n cap)).toArray 52);have c0:(w.alloc (.cells (zAD x (.slice av n cap)).toArray 52)).cell? ⟨w.heap.size,0,none⟩=some (.int .i64 x.op):=pA.2.1 0 _ rfl;have c1:(w.alloc (.cells (zAD x (.slice av n cap)).toArray 52)).cell? ⟨w.heap.size,1,none⟩=some (.int .i64 x.a):=pA.2.1 1 _ rfl;have c2:(w.alloc (.cells (zAD x (.slice av n cap)).toArray 52)).cell? ⟨w.heap.size,2,none⟩=some (.int .i64 x.b):=pA.2.1 2 _ rfl;have c22:(w.alloc (.cells (zAD x (.slice av n cap)).toArray 52)).cell? ⟨w.heap.size,22,none⟩=some (.slice av n cap):=pA.2.1 22 _ rfl;have hlt:=pA.lt;have hw:IntKind.i64.wrap (at'+1)=at'+1:=by rw [IntKind.wrap_i64];omega
 have HZ:Hid (RdZ w (.slice av n cap) tl):=hz;rw [h] at c0;clear pA h ha hz;go_enter func35,ntmps35;go_upto_region 1 with fail
 generalize (w.alloc (.cells (zAD x (.slice av n cap)).toArray 52))=W at *;all_goals
  go_wp2;go_ret2
  exact ⟨⟨_,_,rfl,RdZ.nil _,RdZ.nil _,Bk.nil,Bk.nil,zq27,zq27⟩,hB⟩
theorem zq106 (x:Wc.In) (av:Option Addr) (n cap:Nat) (at':Int) (w:World) (h:¬ (12<=x.op/\x.op<=16)) (ha:0<=at'/\at'<=1000000):Calls prog 35 #[inV x (.slice av n cap),.int .i64 at'] w λe w'=>OnQ w (.slice av n cap) w' ([at'+1],[]) e/\Below w.heap.size w w':=by
 have pA:=AtL.new0 w 52 (zAD x (.slice av n cap));have hB:=zAJ (Below.refl _ w) (.cells (zAD x (.slice av n cap)).toArray 52);have c0:(w.alloc (.cells (zAD x (.slice av n cap)).toArray 52)).cell? ⟨w.heap.size,0,none⟩=some (.int .i64 x.op):=pA.2.1 0 _ rfl;have c1:(w.alloc (.cells (zAD x (.slice av n cap)).toArray 52)).cell? ⟨w.heap.size,1,none⟩=some (.int .i64 x.a):=pA.2.1 1 _ rfl;have c2:(w.alloc (.cells (zAD x (.slice av n cap)).toArray 52)).cell? ⟨w.heap.size,2,none⟩=some (.int .i64 x.b):=pA.2.1 2 _ rfl;have c22:(w.alloc (.cells (zAD x (.slice av n cap)).toArray 52)).cell? ⟨w.heap.size,22,none⟩=some (.slice av n cap):=pA.2.1 22 _ rfl;have hlt:=pA.lt;have hw:IntKind.i64.wrap (at'+1)=at'+1:=by rw [IntKind.wrap_i64];omega
 have n12:(x.op == 12)=false:=by simp;omega
 have n13:(x.op == 13)=false:=by simp;omega
 have n14:(x.op == 14)=false:=by simp;omega
 have n15:(x.op == 15)=false:=by simp;omega
 have n16:(x.op == 16)=false:=by simp;omega
 clear pA h ha;go_enter func35,ntmps35;go_upto_region 1 with fail
 generalize (w.alloc (.cells (zAD x (.slice av n cap)).toArray 52))=W at *;go_wp2;go_ret2
 refine ⟨⟨_,_,rfl,RdZ.one ?_,RdZ.nil _,Bk.new ?_,Bk.nil,zBI,zq27⟩,(clB hB)⟩;all_goals first
  | (simp;done)
  | (simp;omega)
  | omega
theorem zq74 (x:Wc.In) (av:Option Addr) (n cap:Nat) (tl:List Int) (at':Int) (w:World) (ha:0<=at'/\at'<=1000000) (hz:RdZ w (.slice av n cap) tl) (hnp:Np (.slice av n cap)):Calls prog 35 #[inV x (.slice av n cap),.int .i64 at'] w λe w'=>OnQ w (.slice av n cap) w' (onw x.op x.a x.b tl at') e/\Below w.heap.size w w':=by
 unfold onw;by_cases h12:x.op=12
 ·rw [if_pos h12];exact zq96 x _ at' w h12 ha
 by_cases h13:x.op=13
 ·rw [if_neg h12,if_pos h13];exact zq99 x av n cap tl at' w h13 ha hz
 by_cases h14:x.op=14
 ·rw [if_neg h12,if_neg h13,if_pos h14];exact zq95 x av n cap tl at' w h14 ha hz
 by_cases h15:x.op=15
 ·rw [if_neg h12,if_neg h13,if_neg h14,if_pos h15];exact zq94 x av n cap tl at' w h15 ha hz hnp
 by_cases h16:x.op=16
 ·rw [if_neg h12,if_neg h13,if_neg h14,if_neg h15,if_pos h16];exact zq100 x av n cap tl at' w h16 ha hz
 rw [if_neg h12,if_neg h13,if_neg h14,if_neg h15,if_neg h16];exact zq106 x av n cap at' w (by omega) ha
theorem zq101 (w:World) (g m cap:Nat):(Instr.sliceAt 50 (.slice (some ⟨g,0,none⟩) (m+1) cap) (some (.int .i64 1)) none none).run prog w=.ok (sliced (some ⟨g,0,none⟩) 1 (m+1) cap 1) w:=by
 have hu:prog.underlying 50=some (.slice (prog.elem 50)):=by kernel_rfl
 have hz:(sizeOf (prog.elem 50)).run prog w=.ok 1 w:=by kernel_rfl
 rw [run_sliceAt_slice w _ _ _ _ _ hu,run_slice_l w _ _ _ _ hu _ 1 (by omega) (by omega),hz];rfl
theorem zq35 {ops:Array Oper} {rest:List Oper} {op:Oper} {a:Act} {Q:Exit->Act->World->Prop} (hgd:op.guard=none) (s:Operand) (ho:op.op=.slice 50 s (some (.const (.int .i64 1))) none none) (g m cap:Nat) (hs:a.eval s=.slice (some ⟨g,0,none⟩) (m+1) cap) (hc:m+1<=cap)
  (h:∀ X C:Nat,(m ≠ 0->X=1)->wpList prog ops Q rest (a.put op.dst (.slice (some ⟨g,X,none⟩) m C)) w):wpList prog ops Q (op::rest) a w:=by
 refine wpList_plain hgd λK hK=>?_
 unfold Oper.wp execOp;have hr:=zq101 w g m cap;have he:sliced (some ⟨g,0,none⟩) 1 (m+1) cap 1=.slice (some ⟨g,(if cap=1 then 0 else 1),none⟩) m (cap - 1):=by
  unfold sliced;split
  ·rfl
  ·rfl
 rw [he] at hr;have hv:a.eval (.const (.int .i64 1))=.int .i64 1:=rfl;simp only [ho,hs,hv,Option.map_some,Option.map_none,Sem.run_bind,Sem.run_pure,Result.andThen_ok,hr];exact hK _ _ (h _ _ (λhm=>by rw [if_neg (by omega)]))
theorem fr_one {mk i1:Nat} {v1:Value}:Fr [mk] w (w.setCell ⟨mk,i1,none⟩ v1) :=
 Fr.of_grown (zAL _ _ _ _) (λk e=>by cases e;simp)
structure AtD (w:World) (ab n:Nat) (D:BD):Prop where
 len:D.length=n
 at':∀ j:Nat,j<n->w.cell? ⟨ab,j * 2,none⟩=some (.int .i64 (bat D (j:Int)).1)/\w.cell? ⟨ab,j * 2+1,none⟩=some (.int .i64 (bat D (j:Int)).2)
theorem AtD.fr (h:AtD w ab n D) (hf:Fr S w w') (hn:ab ∉ S):AtD w' ab n D:=⟨h.len,λj hj=>⟨hf.cell (h.at' j hj).1 hn,hf.cell (h.at' j hj).2 hn⟩⟩
theorem AtD.below (h:AtD w ab n D) (hb:Below w.heap.size w w'):AtD w' ab n D:=h.fr (Fr.of_below [] hb) (by simp)
theorem zq71 (x:Wc.In) (p:Option Addr) (mm kk:Nat) (tl:List Int) (i n ab c:Nat) (D:BD) (w:World) (hz:RdZ w (.slice p mm kk) tl) (hnp:Np (.slice p mm kk)) (htl:tl.length<=1000000) (hi:i<=1000000) (hD:AtD w ab n D) (hI:BInv c D) (hc:c<=1000000)
  (hnx:∀ j ∈ (onw x.op x.a x.b tl i).1++(onw x.op x.a x.b tl i).2,0<=j/\j<(n:Int)) :
  CR 22 #[.agg (zAD x (.slice p mm kk)).toArray,.int .i64 (i:Int),.slice (some ⟨ab,0,none⟩) n n] w (.agg #[.int .i64 (stpP x ((onw x.op x.a x.b tl i).1++(onw x.op x.a x.b tl i).2) D).1,.int .i64 (stpP x ((onw x.op x.a x.b tl i).1++(onw x.op x.a x.b tl i).2) D).2]):=by
 obtain ⟨u,hu⟩:∃ u,onw x.op x.a x.b tl i=u:=⟨_,rfl⟩
 have HUL:=zDZ (o:=x.op) (a:=x.a) (b:=x.b) (at':=i) htl;have HOW:Hid (∀ W:World,Below w.heap.size w W->Calls prog 35 #[.agg (zAD x (.slice p mm kk)).toArray,.int .i64 (i:Int)] W λe w'=>OnQ W (.slice p mm kk) w' u e/\Below W.heap.size W w'):=λW hb=>by
  have:=zq74 x p mm kk tl i W ⟨by omega,by omega⟩ (hz.below hb) hnp;rw [hu] at this;exact this
 rw [hu] at hnx HUL ⊢;obtain ⟨u1,u2⟩:=u;simp only at hnx HUL ⊢;have HUL2:Hid (u1.length<=1000000/\u2.length<=1000000):=HUL;obtain ⟨nx,hnxe⟩:∃ l,u1++u2=l:=⟨_,rfl⟩
 have HNX:Hid (u1++u2=nx):=hnxe;rw [hnxe] at hnx ⊢;obtain ⟨sv,hsv⟩:∃ s,stpP x nx D=s:=⟨_,rfl⟩
 have HSV:Hid (stpP x nx D=sv):=hsv;rw [hsv];have HD:Hid (AtD w ab n D):=hD;have HI:Hid (BInv c D):=hI;have HC:Hid (c<=1000000):=hc;have HR:Hid (∀ j ∈ nx,0<=j/\j<(n:Int)):=hnx;have hb0:=zAJ (zAJ (Below.refl _ w) (.cells (zAD x (.slice p mm kk)).toArray 52)) (.cells #[.int .i64 0,.int .i64 0] 65);have pI:=(AtL.new0 w 52 (zAD x (.slice p mm kk))).alloc (.cells #[.int .i64 0,.int .i64 0] 65);have pR:=AtL.new1 w (.cells (zAD x (.slice p mm kk)).toArray 52) 65 [.int .i64 0,.int .i64 0];clear hu hnxe hsv hz hnp htl hi hD hI hc hnx HUL;go_enter func22,ntmps22;go_upto_region 1 with fail
 generalize ((w.alloc (.cells (zAD x (.slice p mm kk)).toArray 52)).alloc (.cells [.int .i64 0,.int .i64 0].toArray 65))=W0 at *;have OW:=HOW.out W0 hb0;have rI:=pI.range;go_wp2_with (first | (refine zAA (by rfl) 52 (.tmp 3) rfl w.heap.size 0 rfl (zAD x (.slice p mm kk)) _ rI underlying52 rfl (by kernel_rfl) ?_))
 refine OW.mono ?_;rintro e w1 ⟨⟨cv,kv,rfl,z1,z2,_,_,n1,n2⟩,hb1⟩;replace pI:=AtL.below hb1 pI
 replace pR:=AtL.below hb1 pR
 have hB1:=zAB hb0 hb1;obtain ⟨a1,c1,e1,_⟩:=id z1;obtain ⟨a2,c2,e2,_⟩:=id z2;have hbs:=zAJ (Below.refl _ w1) (.cells #[cv,kv] 50);have HCO:Hid (Calls prog 45 #[.slice (some ⟨w1.heap.size,0,none⟩) 2 2] (w1.alloc (.cells #[cv,kv] 50)) λe w'=>(∃ r,e=.returned r/\OwnZ w' (w1.alloc (.cells #[cv,kv] 50)).heap.size r nx)/\Below (w1.alloc (.cells #[cv,kv] 50)).heap.size (w1.alloc (.cells #[cv,kv] 50)) w'):=by
  have:=zq36 u1 u2 cv kv w1.heap.size (w1.alloc (.cells #[cv,kv] 50)) (z1.below hbs) (z2.below hbs) n1 n2 HUL2.out.1 HUL2.out.2 (AtL.new0 w1 50 [cv,kv]);rw [HNX.out] at this;exact this
 replace pI:=AtL.below hbs pI
 replace pR:=AtL.below hbs pR
 have hB2:=zAB hB1 hbs;clear z1 z2 n1 n2 OW HOW rI hb0 hb1 hB1 hbs;simp only at e1 e2;subst e1;subst e2;go_wp2_with fail
 refine HCO.out.mono ?_;rintro e w3 ⟨⟨r,rfl,own⟩,hb3⟩;replace pI:=AtL.below hb3 pI
 replace pR:=AtL.below hb3 pR
 have hB3:=zAB hB2 hb3;have HD3:Hid (AtD w3 ab n D):=HD.out.below hB3;have HO3:Hid (OwnZ w3 (w1.alloc (.cells #[.slice a1 u1.length c1,.slice a2 u2.length c2] 50)).heap.size r nx):=own;clear HCO own hb3 hB2;cases nx with
 | nil =>
  have HE:Hid (sv=(1,1)):=by show _=_;rw [<-HSV.out];rfl
  obtain ⟨ra,rc,er,_⟩:=HO3.out.rd;subst er;have k0:=pR.2.1 0 _ rfl;have k1:=pR.2.1 1 _ rfl;have z0:=pR.2.2 0 (by simp);have z1:=pR.2.2 1 (by simp);have pF:AtL (w3.setCells (w.heap.size+1) 0 [.int .i64 1,.int .i64 1]) (w.heap.size+1) [.int .i64 1,.int .i64 1]:=pR.setAll rfl;have HPF:Hid (((w3.setCell ⟨w.heap.size+1,0,none⟩ (.int .i64 1)).setCell ⟨w.heap.size+1,1,none⟩ (.int .i64 1)).rangeAt (w.heap.size+1) 0 [.int .i64 1,.int .i64 1]):=pF.range;have HBF:Hid (Below w.heap.size w ((w3.setCell ⟨w.heap.size+1,0,none⟩ (.int .i64 1)).setCell ⟨w.heap.size+1,1,none⟩ (.int .i64 1))):=zA8 (k:=w.heap.size+1) hB3 (by omega) [.int .i64 1,.int .i64 1] 0;clear pF pI pR;go_wp2;refine bodyPost_ret (zCE (by rfl) _ _ (w.heap.size+1) [.int .i64 1,.int .i64 1] _ (by rfl) HPF.out underlying65 rfl (by kernel_rfl)) rfl ⟨by rw [HE.out],HBF.out⟩
 | cons j rr =>
  obtain ⟨hj0,hjn⟩:=HR.out j (List.mem_cons_self ..);obtain ⟨jn,rfl⟩:∃ jn:Nat,j=(jn:Int):=⟨j.toNat,by omega⟩
  obtain ⟨g,cap,er,hcp,hgB⟩:∃ g cap,r=.slice (some ⟨g,0,none⟩) (rr.length+1) cap/\rr.length+1<=cap/\(w1.alloc (.cells #[.slice a1 u1.length c1,.slice a2 u2.length c2] 50)).heap.size<=g:=by
   rcases HO3.out.2 with ⟨_,h0⟩ | ⟨g,cap,cur,e,hb,_,hc,_⟩
   ·simp at h0
   ·exact ⟨g,cap,by rw [e];simp,by simpa using hc,hb⟩
  subst er;have HRZ:Hid (RdZ w3 (.slice (some ⟨g,0,none⟩) (rr.length+1) cap) ((jn:Int)::rr)):=by show RdZ _ _ _;have:=HO3.out.rd;simpa using this
  have hcell:∀ (W:World),RdZ W (.slice (some ⟨g,0,none⟩) (rr.length+1) cap) ((jn:Int)::rr)->W.cell? ⟨g,0,none⟩=some (.int .i64 (jn:Int))/\∀ (k:Nat) (hk:k<rr.length),W.cell? ⟨g,1+k,none⟩=some (.int .i64 (rr[k])):=by
   intro W hW;obtain ⟨x1,x2,x3,x4⟩:=hW;simp only [Value.slice.injEq] at x3;refine ⟨?_,λk hk=>?_⟩
   ·obtain ⟨x5,x6,x7,x8⟩:=x4 0 (by simp);rw [<-x3.1] at x7;cases x7
    exact x8
   ·obtain ⟨x5,x6,x7,x8⟩:=x4 (k+1) (by simp;omega);rw [<-x3.1] at x7;cases x7
    rw [show (0:Nat)+(k+1)=1+k by omega] at x8;exact x8
  have HCE:Hid _:=hcell;have c0:=(hcell w3 HRZ.out).1;have hjl:(jn:Int)<(n:Int):=hjn;have hjz:(0:Int)<=(jn:Int):=hj0;have d0:=(HD3.out.at' jn (by omega)).1;have d1:=(HD3.out.at' jn (by omega)).2;have hz1:¬ ((rr.length:Int)+1=0):=by omega
  have hz2:(((rr.length:Int)+1) == 0)=false:=by simp;omega
  have hz3:(0:Int)<(rr.length:Int)+1:=by omega
  have HLR:Hid (rr.length<=2000000):=by show _<=_;have h1:=HUL2.out;have h2:=congrArg List.length HNX.out;simp at h2;omega
  clear hcell hj0 hjn;have hgB2:g<w3.heap.size:=zA1 c0;have habB:ab<w3.heap.size:=zA1 d0;have hrB:w.heap.size+1<w3.heap.size:=pR.lt;go_upto_region 6 with fail
  have pB:=AtL.new0 w3 65 [.int .i64 (bat D (jn:Int)).1,.int .i64 (bat D (jn:Int)).2];have hbB:=zAJ (Below.refl _ w3) (.cells #[.int .i64 (bat D (jn:Int)).1,.int .i64 (bat D (jn:Int)).2] 65);have HB4:Hid (Below w.heap.size w (w3.alloc (.cells #[.int .i64 (bat D (jn:Int)).1,.int .i64 (bat D (jn:Int)).2] 65))):=zAB hB3 hbB;have HD4:Hid (AtD (w3.alloc (.cells #[.int .i64 (bat D (jn:Int)).1,.int .i64 (bat D (jn:Int)).2] 65)) ab n D):=HD3.out.below hbB;have HC4:Hid (∀ (k:Nat) (hk:k<rr.length),(w3.alloc (.cells #[.int .i64 (bat D (jn:Int)).1,.int .i64 (bat D (jn:Int)).2] 65)).cell? ⟨g,1+k,none⟩=some (.int .i64 (rr[k]))):=λk hk=>zAC hbB ((HCE.out w3 HRZ.out).2 k hk)
  replace pI:=AtL.below hbB pI
  replace pR:=AtL.below hbB pR
  clear HRZ HCE c0 d0 d1 hbB HD3 HO3 hgB HD hB3 HNX HUL2 hz1 hz2 hz3 hjz hjl;generalize (w3.alloc (.cells #[.int .i64 (bat D (jn:Int)).1,.int .i64 (bat D (jn:Int)).2] 65))=W4 at *;obtain ⟨BH,hBH⟩:∃ k,w3.heap.size=k:=⟨_,rfl⟩
  simp only [hBH] at pB hgB2 habB hrB ⊢;clear hBH;have habH:ab ≠ BH:=by omega
  have hgH:g ≠ BH:=by omega
  obtain ⟨tot,htot⟩:∃ t,zq5 D (bat D (jn:Int)) rr=t:=⟨_,rfl⟩
  have HTO:Hid (zq5 D (bat D (jn:Int)) (rr.drop 0)=tot):=htot;have HSV2:Hid (sv=(tot.1+1,tot.2+lng x)):=by show _=_;rw [<-HSV.out,<-htot];rfl
  have HB0:=HI.out (jn:Int);obtain ⟨b0,hb0⟩:∃ b,bat D (jn:Int)=b:=⟨_,rfl⟩
  rw [hb0] at pB HTO HB0;simp only [hb0];have HPB:Hid (AtL W4 BH [.int .i64 b0.1,.int .i64 b0.2]):=pB;have HPI:Hid (AtL W4 w.heap.size (zAD x (.slice p mm kk))):=pI;have HPR:Hid (AtL W4 (w.heap.size+1) [.int .i64 0,.int .i64 0]):=pR;have HBB:Hid (0<=b0.1/\b0.1<=(c:Int)/\0<=b0.2/\b0.2<=(c:Int) * 33554432):=HB0;clear hb0 htot HSV pB pI pR HB0;go_wp2_with (first | (refine zq35 rfl (.tmp 33) rfl g rr.length cap rfl hcp (λX C hX=>?_)))
  go_loopg [36] rr.length (λgk u wr=>∃ (k:Nat) (b1 b2:Int),u=.int .i64 k/\gk=rr.length - k/\k<=rr.length/\Hid (zq5 D (b1,b2) (rr.drop k)=tot)/\Hid (0<=b1/\b1<=(c:Int)/\0<=b2/\b2<=(c:Int) * 33554432)/\Hid (AtL wr BH [.int .i64 b1,.int .i64 b2])/\Hid (Fr [BH] W4 wr))
  case atStart=>exact ⟨0,b0.1,b0.2,rfl,rfl,Nat.zero_le _,HTO,HBB,HPB,Fr.refl _ _⟩
  case round =>
   clear HTO HBB HPB;obtain ⟨k,b1,b2,rfl,hg,hk,HT,HBB,HPB,HF⟩:=hrel;by_cases hkr:k<rr.length
   ·obtain rfl:X=1:=hX (by omega);have hkl:(k:Int)<(rr.length:Int):=by omega
    have hkz:(0:Int)<=(k:Int):=by omega
    have hwk:IntKind.i64.wrap ((k:Int)+1)=(k:Int)+1:=by rw [IntKind.wrap_i64];have:=HLR.out;omega
    obtain ⟨ti,hti⟩:∃ t,rr[k]=t:=⟨_,rfl⟩
    have htr:=HR.out ti (List.mem_cons_of_mem _ (hti ▸ List.getElem_mem hkr));obtain ⟨tn,rfl⟩:∃ tn:Nat,ti=(tn:Int):=⟨ti.toNat,by omega⟩
    have htl:(tn:Int)<(n:Int):=htr.2;have htz:(0:Int)<=(tn:Int):=htr.1;have ck:=HF.out.cell (HC4.out k hkr) (by simpa using hgH);rw [hti] at ck;have e0:=HF.out.cell (HD4.out.at' tn (by omega)).1 (by simpa using habH);have e1:=HF.out.cell (HD4.out.at' tn (by omega)).2 (by simpa using habH);have HEB:=HI.out (tn:Int);have HT2:Hid (zq5 D (b1,b2) ((tn:Int)::rr.drop (k+1))=tot):=by show _=_;rw [<-HT.out,List.drop_eq_getElem_cons hkr,hti]
    have HT3:Hid (zq5 D (min b1 (bat D (tn:Int)).1,max b2 (bat D (tn:Int)).2) (rr.drop (k+1))=tot):=HT2.out;obtain ⟨ea,hea⟩:∃ a,(bat D (tn:Int)).1=a:=⟨_,rfl⟩
    obtain ⟨eb,heb⟩:∃ a,(bat D (tn:Int)).2=a:=⟨_,rfl⟩
    rw [hea,heb] at HT3 HEB;rw [hea] at e0;rw [heb] at e1;have HEB2:Hid (0<=ea/\ea<=(c:Int)/\0<=eb/\eb<=(c:Int) * 33554432):=HEB;have pB:=HPB.out;clear hea heb htr hti HEB HT2 HT HPB;go_upto_region 9 with fail
    clear ck;have rb:=(Below.refl wr.heap.size wr).drew;have sa:=zAC rb e0;have sb:=zAC rb e1;have pBd:=AtL.below rb pB;have fr0:Fr [BH] wr wr.drew:=Fr.of_below _ rb;have HF2:Hid (Fr [BH] W4 wr.drew):=HF.out.trans fr0;clear rb fr0 pB HF e0 e1;refine wp_region_held_drew (S:=λW=>W.cell? ⟨ab,tn * 2,none⟩=some (.int .i64 ea)) (by kernel_rfl) sa (λhHeld=>?_);generalize wr.drew=WD at *;refine tkQ 0 ⟨some 40,.fieldAddr 65 (.tmp 10) 0,0,"code.go:108",#[],none⟩ ?_
    refine tkQ 2 ⟨some 42,.move (.tmp 2),63,"code.go:108",#[],none⟩ ?_
    refine tkQ 3 ⟨some 43,.move (.tmp 12),3,"code.go:108",#[],none⟩ ?_
    refine tkQ 4 ⟨some 44,.indexAddr 63 (.tmp 42) (.tmp 43),0,"code.go:108",#[⟨2,.data⟩,⟨3,.data⟩],none⟩ ?_
    refine tkQ 5 ⟨some 45,.fieldAddr 65 (.tmp 44) 0,0,"code.go:108",#[⟨4,.data⟩],none⟩ ?_
    refine tkQ 6 ⟨some 46,.load 3 (.tmp 45),3,"code.go:108",#[⟨5,.data⟩],none⟩ ?_
    have k0:=pBd.2.1 0 _ rfl;have z0:=pBd.2.2 0 (by simp);refine rdQ 1 ⟨some 41,.load 3 (.tmp 40),3,"code.go:108",#[⟨0,.data⟩],none⟩ (λK hK=>?_);go_simp
    refine hkQ hK sa (λhHeld=>?_);clear hK K
    refine tkQ 7 ⟨some 47,.call {callee:=Callee.builtin Builtin.min,args:=#[.tmp 41,.tmp 46],argTypes:=#[3,3]},3,"code.go:108",#[⟨1,.data⟩,⟨6,.data⟩],none⟩ ?_
    refine tkQ 8 ⟨some 48,.fieldAddr 65 (.tmp 10) 0,0,"code.go:108",#[⟨0,.phase⟩,⟨1,.phase⟩,⟨2,.phase⟩,⟨3,.phase⟩,⟨4,.phase⟩,⟨5,.phase⟩,⟨6,.phase⟩,⟨7,.phase⟩],none⟩ ?_
    refine rdQ 9 ⟨none,.store 3 (.tmp 48) (.tmp 47),0,"code.go:108",#[⟨8,.data⟩,⟨7,.data⟩,⟨0,.phase⟩,⟨1,.phase⟩,⟨2,.phase⟩,⟨3,.phase⟩,⟨4,.phase⟩,⟨5,.phase⟩,⟨6,.phase⟩,⟨7,.phase⟩],none⟩ (λK hK=>?_);go_simp
    have fr:Fr [BH] WD (WD.setCell ⟨BH,0,none⟩ (.int .i64 (if ea<b1 then ea else b1))):=fr_one;have pN:=pBd.set 0 (.int .i64 (if ea<b1 then ea else b1));refine hkQ hK (fr.cell sa (by simpa using habH)) (λhHeld=>?_);clear hK K
    refine wpAnyH_done (by kernel_rfl) ?_ _;have e0:=fr.cell sa (by simpa using habH);have e1:=fr.cell sb (by simpa using habH);have HF:Hid (Fr [BH] W4 (WD.setCell ⟨BH,0,none⟩ (.int .i64 (if ea<b1 then ea else b1)))):=HF2.out.trans fr;clear hHeld k0 z0 sa sb HF2 fr pBd;generalize (WD.setCell ⟨BH,0,none⟩ (.int .i64 (if ea<b1 then ea else b1)))=wr at *;replace pN:AtL wr BH [.int .i64 (if ea<b1 then ea else b1),.int .i64 b2]:=pN
    have pB:=pN;clear pN;go_upto_region 10 with fail
    have rb:=(Below.refl wr.heap.size wr).drew;have sa:=zAC rb e0;have sb:=zAC rb e1;have pBd:=AtL.below rb pB;have fr0:Fr [BH] wr wr.drew:=Fr.of_below _ rb;have HF2:Hid (Fr [BH] W4 wr.drew):=HF.out.trans fr0;clear rb fr0 pB HF e0 e1;refine wp_region_held_drew (S:=λW=>W.cell? ⟨ab,tn * 2+1,none⟩=some (.int .i64 eb)) (by kernel_rfl) sb (λhHeld=>?_);generalize wr.drew=WD at *;refine tkQ 0 ⟨some 49,.fieldAddr 65 (.tmp 10) 1,0,"code.go:109",#[],none⟩ ?_
    refine tkQ 2 ⟨some 51,.move (.tmp 2),63,"code.go:109",#[],none⟩ ?_
    refine tkQ 3 ⟨some 52,.move (.tmp 12),3,"code.go:109",#[],none⟩ ?_
    refine tkQ 4 ⟨some 53,.indexAddr 63 (.tmp 51) (.tmp 52),0,"code.go:109",#[⟨2,.data⟩,⟨3,.data⟩],none⟩ ?_
    refine tkQ 5 ⟨some 54,.fieldAddr 65 (.tmp 53) 1,0,"code.go:109",#[⟨4,.data⟩],none⟩ ?_
    refine tkQ 6 ⟨some 55,.load 3 (.tmp 54),3,"code.go:109",#[⟨5,.data⟩],none⟩ ?_
    have k0:=pBd.2.1 1 _ rfl;have z0:=pBd.2.2 1 (by simp);refine rdQ 1 ⟨some 50,.load 3 (.tmp 49),3,"code.go:109",#[⟨0,.data⟩],none⟩ (λK hK=>?_);go_simp
    refine hkQ hK sb (λhHeld=>?_);clear hK K
    refine tkQ 7 ⟨some 56,.call {callee:=Callee.builtin Builtin.max,args:=#[.tmp 50,.tmp 55],argTypes:=#[3,3]},3,"code.go:109",#[⟨1,.data⟩,⟨6,.data⟩],none⟩ ?_
    refine tkQ 8 ⟨some 57,.fieldAddr 65 (.tmp 10) 1,0,"code.go:109",#[⟨0,.phase⟩,⟨1,.phase⟩,⟨2,.phase⟩,⟨3,.phase⟩,⟨4,.phase⟩,⟨5,.phase⟩,⟨6,.phase⟩,⟨7,.phase⟩],none⟩ ?_
    refine rdQ 9 ⟨none,.store 3 (.tmp 57) (.tmp 56),0,"code.go:109",#[⟨8,.data⟩,⟨7,.data⟩,⟨0,.phase⟩,⟨1,.phase⟩,⟨2,.phase⟩,⟨3,.phase⟩,⟨4,.phase⟩,⟨5,.phase⟩,⟨6,.phase⟩,⟨7,.phase⟩],none⟩ (λK hK=>?_);go_simp
    have fr:Fr [BH] WD (WD.setCell ⟨BH,1,none⟩ (.int .i64 (if b2<eb then eb else b2))):=fr_one;have pN:=pBd.set 1 (.int .i64 (if b2<eb then eb else b2));refine hkQ hK (fr.cell sb (by simpa using habH)) (λhHeld=>?_);clear hK K
    refine wpAnyH_done (by kernel_rfl) ?_ _;have e0:=fr.cell sa (by simpa using habH);have e1:=fr.cell sb (by simpa using habH);have HF:Hid (Fr [BH] W4 (WD.setCell ⟨BH,1,none⟩ (.int .i64 (if b2<eb then eb else b2)))):=HF2.out.trans fr;clear hHeld k0 z0 sa sb HF2 fr pBd;generalize (WD.setCell ⟨BH,1,none⟩ (.int .i64 (if b2<eb then eb else b2)))=wr at *;replace pN:AtL wr BH [.int .i64 (if ea<b1 then ea else b1),.int .i64 (if b2<eb then eb else b2)]:=pN
    have pB:=pN;clear pN;have hm1:(if ea<b1 then ea else b1)=min b1 ea:=by split <;> omega
    have hm2:(if b2<eb then eb else b2)=max b2 eb:=by split <;> omega
    rw [hm1,hm2] at pB;simp only [hm1,hm2];have HB5:Hid (0<=min b1 ea/\min b1 ea<=(c:Int)/\0<=max b2 eb/\max b2 eb<=(c:Int) * 33554432):=by have h1:=HBB.out;have h2:=HEB2.out;show _/\_/\_/\_;omega
    have HP5:Hid (AtL wr BH [.int .i64 (min b1 ea),.int .i64 (max b2 eb)]):=pB;clear hm1 hm2 pB e0 e1 HBB HEB2;generalize min b1 ea=m1 at *;generalize max b2 eb=m2 at *;go_wp2_with fail
    go_roundg (rr.length - (k+1))
    case rel=>exact ⟨k+1,m1,m2,by simp,rfl,by omega,HT3,HB5,HP5,HF⟩
    case measure=>omega
   ·have hkn:¬ ((k:Int)<(rr.length:Int)):=by omega
    have HTE:Hid (sv=(b1+1,b2+lng x)):=by
     have h1:=HT.out;rw [List.drop_of_length_le (by omega)] at h1;show _=_
     rw [HSV2.out,<-h1];rfl
    have hw1:IntKind.i64.wrap (b1+1)=b1+1:=by rw [IntKind.wrap_i64];have:=HBB.out;have:=HC.out;omega
    obtain ⟨lx,hlx⟩:∃ z,lng x=z:=⟨_,rfl⟩
    have hle:=zq80 x;have LG:=λW=>zq23 x (.slice p mm kk) W
    rw [hlx] at HTE hle;simp only [hlx] at LG;have hw2:IntKind.i64.wrap (b2+lx)=b2+lx:=by rw [IntKind.wrap_i64];have:=HBB.out;have:=HC.out;omega
    have HLG:Hid (∀ W:World,Calls prog 46 #[.agg (zAD x (.slice p mm kk)).toArray] W λe w'=>e=.returned (.int .i64 lx)/\Below W.heap.size W w'):=LG;clear LG hle hlx HT HSV2 HBB HI HR HD4 HC4;go_upto_region 12 with fail
    have rb:=(Below.refl wr.heap.size wr).drew;have pB1:=AtL.below rb HPB.out;have fr1:=HF.out.trans (Fr.of_below [BH] rb);have pI1:=HPI.out.fr fr1 (by simp;omega);have pR1:=HPR.out.fr fr1 (by simp;omega);have hB1:Below w.heap.size w wr.drew:=(((Fr.of_below [] HB4.out).new fr1 (λq hq=>Or.inr (by simp at hq;omega))).to_below (by simp))
    have s0:=pB1.2.1 0 _ rfl;have s1:=pB1.2.1 1 _ rfl;have s2:=pI1.range;clear rb HPB HF HPI HPR HB4 fr1 pB1 pI1;refine wp_region_held_drew (S:=λW=>W.rangeAt w.heap.size 0 (zAD x (.slice p mm kk))/\W.cell? ⟨BH,0,none⟩=some (.int .i64 b1)/\W.cell? ⟨BH,1,none⟩=some (.int .i64 b2)) (by kernel_rfl) ⟨s2,s0,s1⟩ (λhHeld=>?_);generalize wr.drew=WD at *;refine tkQ 0 ⟨some 59,.fieldAddr 65 (.tmp 10) 0,0,"code.go:111",#[],none⟩ ?_
    refine tkQ 1 ⟨some 60,.load 3 (.tmp 59),3,"code.go:111",#[⟨0,.data⟩],none⟩ ?_
    refine tkQ 2 ⟨some 61,.binOp BinOp.add 3 (.tmp 60) (Operand.const (Value.int IntKind.i64 1)) 3,3,"code.go:111",#[⟨1,.data⟩],none⟩ ?_
    refine tkQ 3 ⟨some 62,.fieldAddr 65 (.tmp 10) 1,0,"code.go:111",#[],none⟩ ?_
    refine tkQ 4 ⟨some 63,.load 3 (.tmp 62),3,"code.go:111",#[⟨3,.data⟩],none⟩ ?_
    refine wpAnyH_take (i:=5) (oi:=⟨some 64,.load 52 (.tmp 3),52,"code.go:111",#[],none⟩) (v:=.agg (zAD x (.slice p mm kk)).toArray) rfl (by kernel_rfl) (by kernel_rfl) (by kernel_rfl) (λ_ _ _ h=>h) (yieldsIf_load_mid (by rfl) 52 (.tmp 3) rfl w.heap.size 0 rfl (zAD x (.slice p mm kk)) _ (λ_ h=>h.1) underlying52 rfl (by kernel_rfl)) (by assumption) ?_;try simp only [Act.put,lA,lZ,lS]
    refine rdQ 6 ⟨some 65,.call {callee:=Callee.value (Operand.func 46),args:=#[.tmp 64],argTypes:=#[52]},3,"code.go:111",#[⟨5,.data⟩],none⟩ (λK hK=>?_);go_simp
    refine (HLG.out _).mono ?_;rintro e w6 ⟨rfl,hb6⟩;go_wp2_with fail
    have t2:=zAK hb6 s2;have t0:=zAC hb6 s0;have t1:=zAC hb6 s1;have pR6:=AtL.below hb6 pR1;have hB6:=zAB hB1 hb6;refine hkQ hK ⟨t2,t0,t1⟩ (λhHeld=>?_);clear hK K s0 s1 s2 pR1 hB1 hb6 HLG
    refine tkQ 7 ⟨some 66,.binOp BinOp.add 3 (.tmp 63) (.tmp 65) 3,3,"code.go:111",#[⟨4,.data⟩,⟨6,.data⟩],none⟩ ?_
    refine tkQ 8 ⟨some 67,.build 65 #[(0,.tmp 61),(1,.tmp 66)],65,"code.go:111",#[⟨2,.data⟩,⟨7,.data⟩],none⟩ ?_
    have k0:=pR6.2.1 0 _ rfl;have k1:=pR6.2.1 1 _ rfl;have z0:=pR6.2.2 0 (by simp);have z1:=pR6.2.2 1 (by simp);refine rdQ 9 ⟨none,.store 65 (.tmp 6) (.tmp 67),0,"code.go:111",#[⟨8,.data⟩,⟨6,.chain⟩,⟨0,.phase⟩,⟨1,.phase⟩,⟨2,.phase⟩,⟨3,.phase⟩,⟨4,.phase⟩,⟨5,.phase⟩,⟨6,.phase⟩,⟨7,.phase⟩,⟨8,.phase⟩],none⟩ (λK hK=>?_);go_simp
    have fr:Fr [w.heap.size+1] w6 ((w6.setCell ⟨w.heap.size+1,0,none⟩ (.int .i64 (b1+1))).setCell ⟨w.heap.size+1,1,none⟩ (.int .i64 (b2+lx))):=fr_one.trans fr_one;have pF:AtL (w6.setCells (w.heap.size+1) 0 [.int .i64 (b1+1),.int .i64 (b2+lx)]) (w.heap.size+1) [.int .i64 (b1+1),.int .i64 (b2+lx)]:=pR6.setAll rfl;have HPF:Hid (((w6.setCell ⟨w.heap.size+1,0,none⟩ (.int .i64 (b1+1))).setCell ⟨w.heap.size+1,1,none⟩ (.int .i64 (b2+lx))).rangeAt (w.heap.size+1) 0 [.int .i64 (b1+1),.int .i64 (b2+lx)]):=pF.range;have HBF:Hid (Below w.heap.size w ((w6.setCell ⟨w.heap.size+1,0,none⟩ (.int .i64 (b1+1))).setCell ⟨w.heap.size+1,1,none⟩ (.int .i64 (b2+lx)))):=zA8 (k:=w.heap.size+1) hB6 (by omega) [.int .i64 (b1+1),.int .i64 (b2+lx)] 0;refine hkQ hK ⟨fr.range t2 (by simp),fr.cell t0 (by simp;omega),fr.cell t1 (by simp;omega)⟩ (λhHeld=>?_);clear hK K
    refine wpAnyH_done (by kernel_rfl) ?_ _;clear hHeld fr pF k0 k1 z0 z1 pR6 hB6 t0 t1 t2;generalize ((w6.setCell ⟨w.heap.size+1,0,none⟩ (.int .i64 (b1+1))).setCell ⟨w.heap.size+1,1,none⟩ (.int .i64 (b2+lx)))=WF at *;go_wp2;refine bodyPost_ret (zCE (by rfl) _ _ (w.heap.size+1) [.int .i64 (b1+1),.int .i64 (b2+lx)] _ (by rfl) HPF.out underlying65 rfl (by kernel_rfl)) rfl ⟨by rw [HTE.out],HBF.out⟩
theorem zq102:(prog.info? 65).map (λi=>(i.zero,i.size,i.bytes))=some (some (.agg #[.int .i64 0,.int .i64 0]),2,16):=by kernel_rfl
theorem made2 (n j:Nat) (hj:j<n):(madeCells (Value.agg #[.int .i64 0,.int .i64 0]).cells (n * 2)).toList[j * 2]? = some (.int .i64 0)/\(madeCells (Value.agg #[.int .i64 0,.int .i64 0]).cells (n * 2)).toList[j * 2+1]? = some (.int .i64 0):=by
 have e0:j * 2 % 2=0:=by omega
 have e1:(j * 2+1) % 2=1:=by omega
 refine ⟨?_,?_⟩
 ·simp [madeCells,Value.cells,show j * 2<n * 2 by omega,e0]
 ·simp [madeCells,Value.cells,show j * 2+1<n * 2 by omega,e1]
structure AtW (w:World) (ab n:Nat) (D:BD):Prop where
 rd:AtD w ab n D
 fz:∀ o:Nat,w.frozen? ⟨ab,o,none⟩=false
 lt:ab<w.heap.size
theorem AtW.below (h:AtW w ab n D) (hb:Below w.heap.size w w'):AtW w' ab n D:=⟨h.rd.below hb,λo=>by rw [(Fr.of_below [] hb).frozen h.lt (by simp)];exact h.fz o,Nat.lt_of_lt_of_le h.lt hb.size⟩
theorem zq4 (hi:i<D.length) (b:Int × Int) (j:Nat):bat (D.set i b) (j:Int)=if i=j then b else bat D (j:Int):=by
 unfold bat;simp only [Int.toNat_natCast,List.getD_eq_getElem?_getD,List.getElem?_set];by_cases h:i=j
 ·subst h;simp [hi]
 ·simp [h]
theorem AtW.set (h:AtW w ab n D) {i:Nat} (hi:i<n) (b:Int × Int):AtW ((w.setCell ⟨ab,i * 2,none⟩ (.int .i64 b.1)).setCell ⟨ab,i * 2+1,none⟩ (.int .i64 b.2)) ab n (D.set i b):=by
 have fr:Fr [ab] w ((w.setCell ⟨ab,i * 2,none⟩ (.int .i64 b.1)).setCell ⟨ab,i * 2+1,none⟩ (.int .i64 b.2)):=fr_one.trans fr_one;refine ⟨⟨by rw [List.length_set];exact h.rd.len,λj hj=>?_⟩,λo=>by rw [World.frozen?_setCell,World.frozen?_setCell];exact h.fz o,Nat.lt_of_lt_of_le h.lt fr.size⟩;obtain ⟨c0,c1⟩:=h.rd.at' j hj;rw [zq4 (by rw [h.rd.len];exact hi)];by_cases e:i=j
 ·subst e;rw [if_pos rfl];refine ⟨?_,?_⟩
  ·rw [zAP _ _ _ (by omega)];exact zAQ c0 _
  ·exact zAQ (by rw [zAP _ _ _ (by omega)];exact c1) _
 ·rw [if_neg e];refine ⟨?_,?_⟩
  ·rw [zAP _ _ _ (by omega),zAP _ _ _ (by omega)];exact c0
  ·rw [zAP _ _ _ (by omega),zAP _ _ _ (by omega)];exact c1
theorem zq24 (n:Nat) (j:Int):bat (List.replicate n (0,0)) j=(0,0):=by
 unfold bat;simp only [List.getD_eq_getElem?_getD,List.getElem?_replicate];split <;> rfl
theorem atw0 {w2:World} (hk:w.heap.size<w2.heap.size) (own2:w2.ownsRow w.heap.size 65 2 (.slice (some ⟨w.heap.size,0,none⟩) n n) n (madeCells (Value.agg #[.int .i64 0,.int .i64 0]).cells (n * 2)).toList):AtW w2 w.heap.size n (List.replicate n (0,0)):=by
 have hcl:=own2.cells (g:=w.heap.size) rfl;have hcl2:∀ (j:Nat) (u:Value),(madeCells (Value.agg #[.int .i64 0,.int .i64 0]).cells (n * 2)).toList[j]? = some u->w2.cell? ⟨w.heap.size,j,none⟩=some u:=by
  intro j u hu;have:=hcl j u hu;rwa [show (⟨w.heap.size,0,none⟩:Addr).add j=⟨w.heap.size,j,none⟩ from by simp [Addr.add];intro h;exact h.symm] at this
 refine ⟨⟨by simp,λj hj=>?_⟩,λi=>?_,hk⟩
 ·obtain ⟨d0,d1⟩:=made2 n j hj;rw [zq24];exact ⟨hcl2 _ _ d0,hcl2 _ _ d1⟩
 ·rcases own2.2 with ⟨e,_⟩ | ⟨g,cap',cur,e,_,hg,_,_,hs,_⟩
  ·cases e
  ·simp only [Value.slice.injEq,Option.some.injEq,Addr.mk.injEq] at e;obtain ⟨⟨e1,-,-⟩,-,-⟩:=e;rw [<-e1] at hg;simp [World.frozen?,hg]
theorem zq32 (L:List (Wc.In × List Int)) {n i:Nat} (hn:L.length=n) (hi:i<n):bkL (stA L) n (n - i)=(bkL (stA L) n (n - (i+1))).set i (stpP (L[i]'(by omega)).1 ((onw (L[i]'(by omega)).1.op (L[i]'(by omega)).1.a (L[i]'(by omega)).1.b (L[i]'(by omega)).2 i).1++(onw (L[i]'(by omega)).1.op (L[i]'(by omega)).1.a (L[i]'(by omega)).1.b (L[i]'(by omega)).2 i).2) (bkL (stA L) n (n - (i+1)))):=by
 rw [nx_eq,<-zq28 (by omega:i<L.length)];have e:n - i=(n - (i+1))+1:=by omega
 rw [e];have e2:n - 1 - (n - (i+1))=i:=by omega
 show (bkL (stA L) n (n - (i+1))).set (n - 1 - (n - (i+1))) (stA L (n - 1 - (n - (i+1))) (bkL (stA L) n (n - (i+1))))=_
 rw [e2]
theorem zq34 (L:List (Wc.In × List Int)) (v:Value) (w:World) (h:RdC w v L) (hl:L.length<=1000000) (ht:∀ x ∈ L,x.2.length<=1000000/\Wt.FitV x.1.v) (hN:NmAt w) :
  CR 12 #[v] w (.tuple #[.int .i64 (bndA L).1,.int .i64 (bndA L).2]):=by
 have CK:=zB5 L v w h hl ht hN;have hbn:bndA L=if Wc.chkP rgt L=true then bat (bkL (stA L) L.length L.length) 0 else (0,0):=rfl
 have hpl:Wc.chkP rgt L=true->Wc.plcs rgt L.length 0 L=true/\0<L.length:=λq=>by
  unfold Wc.chkP at q;simp only [Bool.and_eq_true,decide_eq_true_eq] at q;exact ⟨q.1,q.2.1⟩
 obtain ⟨B,hB⟩:∃ B,bndA L=B:=⟨_,rfl⟩
 rw [hB] at hbn ⊢;clear hB;obtain ⟨a1,c1,rfl,r1⟩:=h;have HR:Hid (RdC w (.slice a1 L.length c1) L):=⟨a1,c1,rfl,r1⟩
 have HT:Hid (∀ x ∈ L,x.2.length<=1000000):=λx hx=>(ht x hx).1
 clear r1 ht hN;cases hq:Wc.chkP rgt L with
 | false =>
  rw [hq] at CK hbn;simp only [Bool.false_eq_true,if_false] at CK hbn;subst hbn;have HCK:Hid (CR 8 #[.slice a1 L.length c1] w (.int .i64 85)):=CK;clear CK hpl HR HT hq;go_enter func12,ntmps12;go_wp2_with fail
  refine HCK.out.mono ?_;rintro e w1 ⟨rfl,hb1⟩;go_wp2;go_ret2
  exact ⟨rfl,hb1⟩
 | true =>
  obtain ⟨hp,h0⟩:=hpl hq;rw [hq] at CK hbn;simp only [if_true] at CK hbn;have HPL:Hid (∀ (k:Nat) (hk:k<L.length),Wc.plc rgt L.length k (L[k])=true):=λk hk=>by have:=(Wc.plcs_iff rgt L.length L 0).1 hp k hk;rwa [Nat.zero_add] at this
  have HCK:Hid (CR 8 #[.slice a1 L.length c1] w (.int .i64 0)):=CK;clear CK hpl hp hq;obtain ⟨n,hn⟩:∃ n,L.length=n:=⟨_,rfl⟩
  have HL:Hid (L.length=n):=hn;rw [hn] at hl h0 HR HCK hbn ⊢;have HBN:Hid (B=bat (bkL (stA L) n n) ((0:Nat):Int)):=hbn;have HN:Hid (0<n/\n<=1000000):=⟨h0,hl⟩
  obtain ⟨i0,hi0,hz0,hz1,hz2⟩:=info_parts zq102;have hw0:IntKind.i64.wrap ((n:Int) - 1)=(n:Int) - 1:=by rw [IntKind.wrap_i64];omega
  clear hn hbn;go_enter func12,ntmps12;go_wp2_with fail
  refine HCK.out.mono ?_;rintro e w1 ⟨rfl,hb1⟩;go_upto_region 4 with (refine wpList_make_full w1 rfl (.tmp 10) (.tmp 10) 63 rfl w1.heap.size 65 i0 _ 2 underlying63 hi0 hz0 hz1 .i64 .i64 _ _ n rfl rfl rfl rfl (by rw [hz2];omega) (by unfold maxLen;omega) (Nat.le_refl _) ?_;intro w2 own2 hg2)
  have hbg:Below w1.heap.size w1 w2:=⟨hg2.os,hg2.tape,hg2.output,hg2.size,λk hk=>hg2.block k hk (by simp)⟩
  have hk2:w1.heap.size<w2.heap.size:=(zAW own2 (g:=w1.heap.size) rfl).2;have HW0:Hid (AtW w2 w1.heap.size n (bkL (stA L) n 0)):=atw0 hk2 own2;have HB0:Hid (Below w.heap.size w w2):=zAB hb1 hbg;have HAB:Hid (w.heap.size<=w1.heap.size):=hb1.size;clear hbg hk2 own2 hg2 hi0 hz0 hz1 hz2 i0 hb1 HCK;obtain ⟨ab,hab⟩:∃ b,w1.heap.size=b:=⟨_,rfl⟩
  rw [hab] at HW0 HAB;simp only [hab];clear hab;go_wp2_with fail
  go_loopg [5] n (λgk u wr=>∃ (d:Nat) (z:Int),u=.int .i64 z/\z+1=(d:Int)/\gk=d/\d<=n/\Hid (AtW wr ab n (bkL (stA L) n (n - d)))/\Hid (Below w.heap.size w wr))
  case atStart=>exact ⟨n,(n:Int) - 1,rfl,by omega,rfl,Nat.le_refl _,by rw [Nat.sub_self];exact HW0,HB0⟩
  case round =>
   clear HW0 HB0 hw0;obtain ⟨d,z,rfl,hz,hg,hd,HW,HB⟩:=hrel;cases d with
   | zero =>
    obtain rfl:z = -1:=by simp at hz;omega
    have hn0:(0:Int)<(n:Int):=by have:=HN.out;omega
    have hnz:¬ ((n:Int)=0):=by omega
    go_upto_region 8 with fail
    have rb:=(Below.refl wr.heap.size wr).drew;have W1:=HW.out.below rb;have HB1:Hid (Below w.heap.size w wr.drew):=zAB HB.out rb;obtain ⟨s0,s1⟩:=W1.rd.at' 0 HN.out.1;rw [Nat.sub_zero,<-HBN.out] at s0 s1;rw [Nat.zero_mul] at s0 s1;rw [Nat.zero_add] at s1;clear rb HW HB W1;refine wp_region_held_drew (S:=λW=>W.cell? ⟨ab,0,none⟩=some (.int .i64 B.1)/\W.cell? ⟨ab,1,none⟩=some (.int .i64 B.2)) (by kernel_rfl) ⟨s0,s1⟩ (λhHeld=>?_);generalize wr.drew=WD at *;refine tkQ 0 ⟨some 29,.move (.tmp 4),63,"code.go:93",#[],none⟩ ?_
    refine tkQ 1 ⟨some 30,.indexAddr 63 (.tmp 29) (Operand.const (Value.int IntKind.i64 0)),0,"code.go:93",#[⟨0,.data⟩],none⟩ ?_
    refine tkQ 2 ⟨some 31,.fieldAddr 65 (.tmp 30) 0,0,"code.go:93",#[⟨1,.data⟩],none⟩ ?_
    refine tkQ 3 ⟨some 32,.load 3 (.tmp 31),3,"code.go:93",#[⟨2,.data⟩],none⟩ ?_
    refine tkQ 4 ⟨some 33,.move (.tmp 4),63,"code.go:93",#[⟨8,.gcOnly .lateStores⟩],none⟩ ?_
    refine tkQ 5 ⟨some 34,.indexAddr 63 (.tmp 33) (Operand.const (Value.int IntKind.i64 0)),0,"code.go:93",#[⟨4,.data⟩,⟨8,.gcOnly .lateStores⟩],none⟩ ?_
    refine tkQ 6 ⟨some 35,.fieldAddr 65 (.tmp 34) 1,0,"code.go:93",#[⟨5,.data⟩,⟨8,.gcOnly .lateStores⟩],none⟩ ?_
    refine tkQ 7 ⟨some 36,.load 3 (.tmp 35),3,"code.go:93",#[⟨6,.data⟩,⟨8,.gcOnly .lateStores⟩],none⟩ ?_
    refine rdQ 8 ⟨some 2,.assign (.tmp 32),3,"code.go:93",#[⟨3,.data⟩,⟨0,.phase⟩,⟨1,.phase⟩,⟨2,.phase⟩,⟨3,.phase⟩,⟨4,.textOnly .lateStores⟩,⟨5,.textOnly .lateStores⟩,⟨6,.textOnly .lateStores⟩,⟨7,.textOnly .lateStores⟩],none⟩ (λK hK=>?_);go_simp
    refine hkQ hK ⟨s0,s1⟩ (λhHeld=>?_);clear hK K
    refine rdQ 9 ⟨some 3,.assign (.tmp 36),3,"code.go:93",#[⟨7,.data⟩,⟨8,.chain⟩,⟨0,.phase⟩,⟨1,.phase⟩,⟨2,.phase⟩,⟨3,.phase⟩,⟨4,.phase⟩,⟨5,.phase⟩,⟨6,.phase⟩,⟨7,.phase⟩,⟨8,.phase⟩],none⟩ (λK hK=>?_);go_simp
    refine hkQ hK ⟨s0,s1⟩ (λhHeld=>?_);clear hK K
    refine wpAnyH_done (by kernel_rfl) ?_ _;clear hHeld s0 s1;go_wp2;go_ret2
    exact ⟨rfl,HB1.out⟩
   | succ i =>
    obtain rfl:z=(i:Int):=by omega
    have hiz:(0:Int)<=(i:Int):=by omega
    have hin:(i:Int)<(n:Int):=by omega
    have hwi:IntKind.i64.wrap ((i:Int) - 1)=(i:Int) - 1:=by rw [IntKind.wrap_i64];have:=HN.out;omega
    have hil:i<L.length:=by rw [HL.out];omega
    have H0:=HR.out.below HB.out;obtain ⟨q1,d1,e1,f1⟩:=H0;simp only [Value.slice.injEq] at e1;obtain ⟨ex1,ex2,ex3⟩:=e1;obtain ⟨bb,off,p,mm,kk,ee,t1,t2,t3⟩:=f1 i hil;rw [ee] at ex1;subst ex1;have HNX:=zq32 L HL.out (by omega:i<n);have HPI:=(Wc.plc_iff rgt L.length i (L[i])).1 (HPL.out i hil);have HTI:=HT.out (L[i]) (List.getElem_mem hil);obtain ⟨y,tl,hyt⟩:∃ y tl,L[i]=(y,tl):=⟨_,_,rfl⟩
    simp only [hyt] at t1 t2 HNX HPI HTI;obtain ⟨D,hD⟩:∃ D,bkL (stA L) n (n - (i+1))=D:=⟨_,rfl⟩
    have HIV:=zq13 L HL.out (n - (i+1)) (by omega);rw [hD] at HW HNX HIV;have FR:=zq71 y p mm kk tl i n ab (n - (i+1)) D wr t2 (λl c e=>by cases e;exact t3 rfl) HTI (by have:=HN.out;omega) HW.out.rd HIV (by have:=HN.out;omega) (λj hj=>by
     have:=HL.out;rcases List.mem_append.1 hj with hj | hj
     ·have:=HPI.2.2.1 j hj;omega
     ·have:=HPI.2.2.2 j hj;omega)
    obtain ⟨sv,hsv⟩:∃ s,stpP y ((onw y.op y.a y.b tl i).1++(onw y.op y.a y.b tl i).2) D=s:=⟨_,rfl⟩
    rw [hsv] at FR HNX;have HFR:Hid (Calls prog 22 #[.agg (zAD y (.slice p mm kk)).toArray,.int .i64 (i:Int),.slice (some ⟨ab,0,none⟩) n n] wr λe w'=>e=.returned (.agg #[.int .i64 sv.1,.int .i64 sv.2])/\Below wr.heap.size wr w'):=FR;have HNX2:Hid (bkL (stA L) n (n - i)=D.set i sv):=HNX;clear FR HNX HPI HTI hyt hD HIV hsv t2 t3 f1 ee ex2 ex3;go_wp2_with (first | (refine zAA (by rfl) 52 (.tmp 23) rfl bb (off+i * 23) rfl (zAD y (.slice p mm kk)) _ t1 underlying52 rfl (by kernel_rfl) ?_))
    refine HFR.out.mono ?_;rintro e w6 ⟨rfl,hb6⟩;have W6:=HW.out.below hb6;have HB6:Hid (Below w.heap.size w w6):=zAB HB.out hb6;obtain ⟨k0,k1⟩:=W6.rd.at' i (by omega);have z0:=W6.fz (i * 2);have z1:=W6.fz (i * 2+1);have HW7:Hid (AtW ((w6.setCell ⟨ab,i * 2,none⟩ (.int .i64 sv.1)).setCell ⟨ab,i * 2+1,none⟩ (.int .i64 sv.2)) ab n (bkL (stA L) n (n - i))):=by rw [HNX2.out];exact W6.set (by omega) sv
    have HB7:Hid (Below w.heap.size w ((w6.setCell ⟨ab,i * 2,none⟩ (.int .i64 sv.1)).setCell ⟨ab,i * 2+1,none⟩ (.int .i64 sv.2))):=zAN HB6.out (fr_one.trans fr_one:Fr [ab] _ _) (λk hk=>by simp at hk;have:=HAB.out;omega);clear HFR HW HB W6 hb6 t1 HNX2 HB6;go_wp2_with fail
    go_roundg i
    case rel=>exact ⟨i,(i:Int) - 1,by simp,by omega,rfl,by omega,HW7,HB7⟩
    case measure=>omega
structure AtR (w:World) (lb mb n:Nat) (D:BD):Prop where
 len:D.length=n
 at':∀ j:Nat,j<n->w.cell? ⟨lb,j,none⟩=some (.int .i64 (bat D (j:Int)).1)/\w.cell? ⟨mb,j,none⟩=some (.int .i64 (bat D (j:Int)).2)
 fz:∀ j:Nat,j<n->w.frozen? ⟨lb,j,none⟩=false/\w.frozen? ⟨mb,j,none⟩=false
 ne:lb ≠ mb
theorem AtR.fr (h:AtR w lb mb n D) (hf:Fr S w w') (h1:lb ∉ S) (h2:mb ∉ S):AtR w' lb mb n D :=
 ⟨h.len,λj hj=>⟨hf.cell (h.at' j hj).1 h1,hf.cell (h.at' j hj).2 h2⟩,λj hj=>⟨by rw [hf.frozen (zA1 (h.at' j hj).1) h1];exact (h.fz j hj).1,by rw [hf.frozen (zA1 (h.at' j hj).2) h2];exact (h.fz j hj).2⟩,h.ne⟩
theorem AtR.below (h:AtR w lb mb n D) (hb:Below w.heap.size w w'):AtR w' lb mb n D:=h.fr (Fr.of_below [] hb) (by simp) (by simp)
theorem AtR.same {E:BD} (h:AtR w lb mb n D) (hl:E.length=n) (he:∀ j:Nat,j<n->bat E (j:Int)=bat D (j:Int)):AtR w lb mb n E:=⟨hl,λj hj=>by rw [he j hj];exact h.at' j hj,h.fz,h.ne⟩
theorem AtR.setL (h:AtR w lb mb n (D.set i (b1,b2))) (hi:i<n) (c:Int):AtR (w.setCell ⟨lb,i,none⟩ (.int .i64 c)) lb mb n (D.set i (c,b2)):=by
 have hl:D.length=n:=by have:=h.len;simpa using this
 refine ⟨by simpa using hl,λj hj=>?_,λj hj=>by rw [World.frozen?_setCell,World.frozen?_setCell];exact h.fz j hj,h.ne⟩;obtain ⟨c0,c1⟩:=h.at' j hj;rw [zq4 (by rw [hl];exact hi)] at c0 c1 ⊢;refine ⟨?_,?_⟩
 ·by_cases e:i=j
  ·subst e;rw [if_pos rfl] at c0 ⊢;exact zAQ c0 _
  ·rw [if_neg e] at c0 ⊢;rw [zAP _ _ _ e];exact c0
 ·have:=fr_one (w:=w) (mk:=lb) (i1:=i) (v1:=.int .i64 c);have c2:=this.cell c1 (by simpa using h.ne.symm);by_cases e:i=j
  ·rw [if_pos e] at c2 ⊢;exact c2
  ·rw [if_neg e] at c2 ⊢;exact c2
theorem AtR.setM (h:AtR w lb mb n (D.set i (b1,b2))) (hi:i<n) (c:Int):AtR (w.setCell ⟨mb,i,none⟩ (.int .i64 c)) lb mb n (D.set i (b1,c)):=by
 have hl:D.length=n:=by have:=h.len;simpa using this
 refine ⟨by simpa using hl,λj hj=>?_,λj hj=>by rw [World.frozen?_setCell,World.frozen?_setCell];exact h.fz j hj,h.ne⟩;obtain ⟨c0,c1⟩:=h.at' j hj;rw [zq4 (by rw [hl];exact hi)] at c0 c1 ⊢;refine ⟨?_,?_⟩
 ·have:=fr_one (w:=w) (mk:=mb) (i1:=i) (v1:=.int .i64 c);have c2:=this.cell c0 (by simpa using h.ne);by_cases e:i=j
  ·rw [if_pos e] at c2 ⊢;exact c2
  ·rw [if_neg e] at c2 ⊢;exact c2
 ·by_cases e:i=j
  ·subst e;rw [if_pos rfl] at c1 ⊢;exact zAQ c1 _
  ·rw [if_neg e] at c1 ⊢;rw [zAP _ _ _ e];exact c1
theorem zq31 (st:Nat->BD->Int × Int) (n:Nat):∀ (c i:Nat),i+c<n->bat (bkL st n c) (i:Int)=(0,0)
 | 0,i,_=>zq24 n _
 | c+1,i,h=>by
  show bat ((bkL st n c).set (n - 1 - c) (st (n - 1 - c) (bkL st n c))) (i:Int)=_
  rw [zq4 (by rw [zq26];omega),if_neg (by omega)];exact zq31 st n c i (by omega)
theorem AtR.start (h:AtR w lb mb n D) (hi:i<n) (hz:bat D (i:Int)=(0,0)):AtR w lb mb n (D.set i (0,0)) :=
 h.same (by rw [List.length_set];exact h.len) λj hj=>by
  rw [zq4 (by rw [h.len];exact hi)];split
  ·rename_i e;rw [<-e,hz]
  ·rfl
theorem zq59 {c:Nat} (h:BInv c D) {b1 b2:Int} (k:Nat) (j:Int) (hb:0<=b1/\b1<=(c:Int)/\0<=b2/\b2<=(c:Int) * 33554432):0<=(if k=0 \/ (bat D j).1<b1 then (bat D j).1 else b1)/\(if k=0 \/ (bat D j).1<b1 then (bat D j).1 else b1)<=(c:Int)/\0<=max b2 (bat D j).2/\max b2 (bat D j).2<=(c:Int) * 33554432:=by
 have:=h j;refine ⟨?_,?_,by omega,by omega⟩ <;> split <;> omega
theorem zq63 (L:List (Wc.In × List Int)) {n i:Nat} (hn:L.length=n) (hi:i<n):bkL (stA L) n (n - i)=(bkL (stA L) n (n - (i+1))).set i (stpR (L[i]'(by omega)).1 (aP (L[i]'(by omega)).1 (L[i]'(by omega)).2 i) (bkL (stA L) n (n - (i+1)))):=by
 rw [zq32 L hn hi,nx_eq,zq105 (λj=>(zq13 L hn (n - (i+1)) (by omega) j).2.2.1) (λe=>zq109 e)]
