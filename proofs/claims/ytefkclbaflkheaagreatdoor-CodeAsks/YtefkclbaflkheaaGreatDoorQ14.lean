/- KPlacA, KWalkZ, KOpen, VWalkD, KStand. -/
import Derived.Test.YtefkclbaflkheaaGreatDoorQ13
set_option maxHeartbeats 1600000
set_option maxRecDepth 100000
namespace Go.Proofs.YtefkclbaflkheaaGreatDoor
open Tryz
open Go.RowKit
set_option linter.unusedVariables false
variable {ops:Array Oper} {rest:List Oper} {op:Oper} {a:Act} {w:World} {Q:Exit->Act->World->Prop}
def zBm (at' n:Int) (j:Int):Bool:=decide (j<=at' \/ n<=j)
theorem zGn (tp at':Int) (p q:Addr) (av:Option Addr) (n cap:Nat) (w:World) (hp:w.cell? p=some (.int .i64 at')) (hq:w.cell? q=some (.slice av n cap)) :
  CR 62 #[.int .i64 tp,.pointer (some p),.pointer (some q)] w (.bool (zBm at' n tp)):=by
 by_cases h1:tp<=at'
 ·have hs:zBm at' n tp=true:=decide_eq_true (Or.inl h1);rw [hs];go_enter func62,ntmps62;go_wp2;go_ret;exact ⟨by simp,Below.refl _ _⟩
 ·by_cases h2:(n:Int)<=tp
  ·have hs:zBm at' n tp=true:=decide_eq_true (Or.inr h2);rw [hs];go_enter func62,ntmps62;go_wp2;go_ret;exact ⟨by simp,Below.refl _ _⟩
  ·have hs:zBm at' n tp=false:=decide_eq_false (by omega);rw [hs];go_enter func62,ntmps62;go_wp2;go_ret;exact ⟨by simp,Below.refl _ _⟩
theorem zFD (l:List Int) (v:Value) (at':Int) (pb qb:Nat) (av:Option Addr) (n cap:Nat) (w:World) (h:RdZ w v l) (hl:l.length<=1000000) (hp:w.cell? ⟨pb,0,none⟩=some (.int .i64 at')) (hq:w.cell? ⟨qb,0,none⟩=some (.slice av n cap)) :
  Calls prog 98 #[v,.func (.func 62) #[] #[.pointer (some ⟨pb,0,none⟩),.pointer (some ⟨qb,0,none⟩)]] w λe w'=>(∃ z:Int,e=.returned (.int .i64 z)/\decide (0<=z)=l.any (zBm at' n))/\Below w.heap.size w w':=by
 have eg:∀ args w,(callFunc 62 args).run prog w=.ok (.enter 62 args) w:=λ_ _=>by kernel_rfl
 obtain ⟨a1,c1,rfl,r1⟩:=h;have H1:Hid (∀ i (h:i<l.length),∃ bb off,a1=some ⟨bb,off,none⟩/\w.cell? ⟨bb,off+i,none⟩=some (.int .i64 (l[i]))):=r1;obtain ⟨k,hk⟩:∃ k,l.length=k:=⟨_,rfl⟩
 have HK:Hid (l.length=k):=hk;rw [hk] at hl ⊢;have HP:Hid (w.cell? ⟨pb,0,none⟩=some (.int .i64 at')):=hp;have HQ:Hid (w.cell? ⟨qb,0,none⟩=some (.slice av n cap)):=hq;clear r1 hk hp hq;go_enter func98,ntmps98;go_wp2_with fail
 go_loopg [5,8] k (λgk y x wr=>∃ i:Nat,x=.int .i64 i/\gk=k - i/\i<=k/\Hid (∀ m (hm:m<l.length),m<i->zBm at' n l[m]=false)/\Below w.heap.size w wr)
 case atStart=>exact ⟨0,rfl,rfl,Nat.zero_le _,(λm hm h=>absurd h (Nat.not_lt_zero _):∀ m (hm:m<l.length),m<0->zBm at' n l[m]=false),Below.refl _ _⟩
 case round =>
  obtain ⟨i,rfl,hg,hi,HT,hb⟩:=hrel;by_cases hlt:i<k
  ·have hli:(i:Int)<(k:Int):=by omega
   have hwi:IntKind.i64.wrap ((i:Int)+1)=(i:Int)+1:=by rw [IntKind.wrap_i64];omega
   have hil:i<l.length:=by rw [HK.out];exact hlt
   obtain ⟨b1,o1,rfl,q1⟩:=H1.out i hil;have d1:=zAC hb q1;have SA:=λw2 (hb2:Below wr.heap.size wr w2)=>zGn l[i] at' ⟨pb,0,none⟩ ⟨qb,0,none⟩ av n cap w2 (zAC hb2 (zAC hb HP.out)) (zAC hb2 (zAC hb HQ.out))
   obtain ⟨x,hx⟩:∃ x,l[i]=x:=⟨_,rfl⟩
   obtain ⟨r,hr⟩:∃ r,zBm at' n l[i]=r:=⟨_,rfl⟩
   have HR:Hid (zBm at' n l[i]=r):=hr;rw [hx] at d1 SA;rw [hx] at hr;rw [hr] at SA;have SA0:=SA wr (Below.refl _ _);clear q1 hx hr SA;cases r with
   | true =>
    go_wp2_with (go_at_call 62;refine SA0.mono ?_;rintro e w1 ⟨rfl,hb1⟩)
    go_ret;refine ⟨⟨_,rfl,?_⟩,zAB hb hb1⟩;have:l.any (zBm at' n)=true:=List.any_eq_true.2 ⟨l[i],List.getElem_mem _,HR.out⟩;rw [this];simp
   | false =>
    go_wp2_with (go_at_call 62;refine SA0.mono ?_;rintro e w1 ⟨rfl,hb1⟩)
    go_roundg (k - (i+1))
    case rel =>
     refine ⟨i+1,by simp,rfl,hlt,(λm hm hmi=>?_:∀ m (hm:m<l.length),m<i+1->zBm at' n l[m]=false),zAB hb hb1⟩;by_cases e:m=i
     ·subst e;exact HR.out
     ·exact HT.out m hm (by omega)
    case measure=>omega
  ·have hli:¬ (i:Int)<(k:Int):=by omega
   go_wp2;go_ret;refine ⟨⟨_,rfl,?_⟩,hb⟩;have:l.any (zBm at' n)=false:=by
    rw [List.any_eq_false];intro y hy;obtain ⟨m,hm,rfl⟩:=List.getElem_of_mem hy;rw [HT.out m hm (by have:=HK.out;omega)];simp
   rw [this];simp
theorem zAv (l:List Int) (v:Value) (at':Int) (pb qb:Nat) (av:Option Addr) (n cap:Nat) (w:World) (h:RdZ w v l) (hl:l.length<=1000000) (hp:w.cell? ⟨pb,0,none⟩=some (.int .i64 at')) (hq:w.cell? ⟨qb,0,none⟩=some (.slice av n cap)) :
  CR 64 #[v,.func (.func 62) #[] #[.pointer (some ⟨pb,0,none⟩),.pointer (some ⟨qb,0,none⟩)]] w (.bool (l.any (zBm at' n))):=by
 have I:=zFD l v at' pb qb av n cap w h hl hp hq;clear h hl hp hq;go_enter func64,ntmps64;go_wp2_with fail
 refine I.mono ?_;rintro e w1 ⟨⟨z,rfl,hv⟩,hb1⟩;have H:Hid (decide (0<=z)=l.any (zBm at' n)):=hv;clear hv I;go_wp2;go_ret;exact ⟨by rw [<-H.out];rfl,hb1⟩
theorem zAH (hgd:op.guard=none) (T:TypeId) (y:Operand) (ho:op.op=.build T #[(0,y)]) (v:Value) (hy:a.eval y=v) (L:List Value) (hr:(Instr.build T #[(0,v)]).run prog w=.ok (.agg L.toArray) w)
  (h:wpList prog ops Q rest (a.put op.dst (.agg L.toArray)) w):wpList prog ops Q (op::rest) a w:=by
 refine wpList_plain hgd λK hK=>?_
 unfold Oper.wp execOp;simp only [ho,List.map_toArray,List.map_cons,List.map_nil,hy,Sem.run_bind,Sem.run_pure,Result.andThen_ok,hr];exact hK _ _ h
theorem zA4 (hgd:op.guard=none) (T:TypeId) (i j:Nat) (y z:Operand) (ho:op.op=.build T #[(i,y),(j,z)]) (v u:Value) (hy:a.eval y=v) (hz:a.eval z=u) (L:List Value) (hr:(Instr.build T #[(i,v),(j,u)]).run prog w=.ok (.agg L.toArray) w)
  (h:wpList prog ops Q rest (a.put op.dst (.agg L.toArray)) w):wpList prog ops Q (op::rest) a w:=by
 refine wpList_plain hgd λK hK=>?_
 unfold Oper.wp execOp;simp only [ho,List.map_toArray,List.map_cons,List.map_nil,hy,hz,Sem.run_bind,Sem.run_pure,Result.andThen_ok,hr];exact hK _ _ h
theorem zLg (id n k:Int) (w:World):Calls prog 178 #[.agg (zAF id n k).toArray] w λe w'=>(∃ t p,e=.returned (.iface t (.pointer p)))/\Below w.heap.size w w':=by
 have r0:=(AtL.new0 w 229 (zAF id n k)).range;have hB:=zAK (Below.refl _ w) (.cells (zAF id n k).toArray 229);go_enter func178,ntmps178;go_upto_region 1 with fail
 generalize (w.alloc (.cells (zAF id n k).toArray 229))=W at *;go_wp2_with (first | (refine zAA (by rfl) 229 (.tmp 1) rfl w.heap.size 0 rfl (zAF id n k) _ r0 underlying229 rfl (by kernel_rfl) ?_) | (refine zAH rfl _ _ rfl _ rfl (zAF id n k) (by kernel_rfl) ?_))
 go_ret;exact ⟨⟨_,_,rfl⟩,(clB hB)⟩
theorem zEl (id n k:Int) (w:World):Calls prog 179 #[.agg (zAF id n k).toArray] w λe w'=>(∃ t p,e=.returned (.iface t (.pointer p)))/\Below w.heap.size w w':=by
 have r0:=(AtL.new0 w 229 (zAF id n k)).range;have hB:=zAK (Below.refl _ w) (.cells (zAF id n k).toArray 229);go_enter func179,ntmps179;go_upto_region 1 with fail
 generalize (w.alloc (.cells (zAF id n k).toArray 229))=W at *;go_wp2_with (first | (refine zAA (by rfl) 229 (.tmp 1) rfl w.heap.size 0 rfl (zAF id n k) _ r0 underlying229 rfl (by kernel_rfl) ?_) | (refine zAH rfl _ _ rfl _ rfl (zAF id n k) (by kernel_rfl) ?_))
 go_ret;exact ⟨⟨_,_,rfl⟩,(clB hB)⟩
theorem zHp (id n k:Int) (w:World):Calls prog 180 #[.agg (zAF id n k).toArray] w λe w'=>(∃ t p,e=.returned (.iface t (.pointer p)))/\Below w.heap.size w w':=by
 have r0:=(AtL.new0 w 229 (zAF id n k)).range;have hB:=zAK (Below.refl _ w) (.cells (zAF id n k).toArray 229);go_enter func180,ntmps180;go_upto_region 1 with fail
 generalize (w.alloc (.cells (zAF id n k).toArray 229))=W at *;go_wp2_with (first | (refine zAA (by rfl) 229 (.tmp 1) rfl w.heap.size 0 rfl (zAF id n k) _ r0 underlying229 rfl (by kernel_rfl) ?_) | (refine zAH rfl _ _ rfl _ rfl (zAF id n k) (by kernel_rfl) ?_))
 go_ret;exact ⟨⟨_,_,rfl⟩,(clB hB)⟩
theorem zGA (id n k:Int) (w:World):Calls prog 181 #[.agg (zAF id n k).toArray] w λe w'=>(∃ t p,e=.returned (.iface t (.pointer p)))/\Below w.heap.size w w':=by
 have r0:=(AtL.new0 w 229 (zAF id n k)).range;have hB:=zAK (Below.refl _ w) (.cells (zAF id n k).toArray 229);go_enter func181,ntmps181;go_upto_region 1 with fail
 generalize (w.alloc (.cells (zAF id n k).toArray 229))=W at *;go_wp2_with (first | (refine zAA (by rfl) 229 (.tmp 1) rfl w.heap.size 0 rfl (zAF id n k) _ r0 underlying229 rfl (by kernel_rfl) ?_) | (refine zAH rfl _ _ rfl _ rfl (zAF id n k) (by kernel_rfl) ?_))
 go_ret;exact ⟨⟨_,_,rfl⟩,(clB hB)⟩
theorem zIG (id n k:Int) (w:World):Calls prog 182 #[.agg (zAF id n k).toArray] w λe w'=>(∃ t p,e=.returned (.iface t (.pointer p)))/\Below w.heap.size w w':=by
 have r0:=(AtL.new0 w 229 (zAF id n k)).range;have hB:=zAK (Below.refl _ w) (.cells (zAF id n k).toArray 229);go_enter func182,ntmps182;go_upto_region 1 with fail
 generalize (w.alloc (.cells (zAF id n k).toArray 229))=W at *;go_wp2_with (first | (refine zAA (by rfl) 229 (.tmp 1) rfl w.heap.size 0 rfl (zAF id n k) _ r0 underlying229 rfl (by kernel_rfl) ?_) | (refine zA4 rfl _ _ _ _ _ rfl _ _ rfl rfl (zAF id n k++[.int .i64 1]) (by kernel_rfl) ?_) | (refine zAH rfl _ _ rfl _ rfl (zAF id n k) (by kernel_rfl) ?_))
 go_ret;exact ⟨⟨_,_,rfl⟩,(clB hB)⟩
theorem zDy (id n k:Int) (w:World):Calls prog 183 #[.agg (zAF id n k).toArray] w λe w'=>(∃ t p,e=.returned (.iface t (.pointer p)))/\Below w.heap.size w w':=by
 have r0:=(AtL.new0 w 229 (zAF id n k)).range;have hB:=zAK (Below.refl _ w) (.cells (zAF id n k).toArray 229);go_enter func183,ntmps183;go_upto_region 1 with fail
 generalize (w.alloc (.cells (zAF id n k).toArray 229))=W at *;go_wp2_with (first | (refine zAA (by rfl) 229 (.tmp 1) rfl w.heap.size 0 rfl (zAF id n k) _ r0 underlying229 rfl (by kernel_rfl) ?_) | (refine zA4 rfl _ _ _ _ _ rfl _ _ rfl rfl (zAF id n k++[.int .i64 (-1)]) (by kernel_rfl) ?_) | (refine zAH rfl _ _ rfl _ rfl (zAF id n k) (by kernel_rfl) ?_))
 go_ret;exact ⟨⟨_,_,rfl⟩,(clB hB)⟩
theorem zFG (id n k:Int) (w:World):Calls prog 184 #[.agg (zAF id n k).toArray] w λe w'=>(∃ t p,e=.returned (.iface t (.pointer p)))/\Below w.heap.size w w':=by
 have r0:=(AtL.new0 w 229 (zAF id n k)).range;have hB:=zAK (Below.refl _ w) (.cells (zAF id n k).toArray 229);go_enter func184,ntmps184;go_upto_region 1 with fail
 generalize (w.alloc (.cells (zAF id n k).toArray 229))=W at *;go_wp2_with (first | (refine zAA (by rfl) 229 (.tmp 1) rfl w.heap.size 0 rfl (zAF id n k) _ r0 underlying229 rfl (by kernel_rfl) ?_) | (refine zAH rfl _ _ rfl _ rfl (zAF id n k) (by kernel_rfl) ?_))
 go_ret;exact ⟨⟨_,_,rfl⟩,(clB hB)⟩
theorem zLS (id n k:Int) (w:World):Calls prog 185 #[.agg (zAF id n k).toArray] w λe w'=>(∃ t p,e=.returned (.iface t (.pointer p)))/\Below w.heap.size w w':=by
 have r0:=(AtL.new0 w 229 (zAF id n k)).range;have hB:=zAK (Below.refl _ w) (.cells (zAF id n k).toArray 229);go_enter func185,ntmps185;go_upto_region 1 with fail
 generalize (w.alloc (.cells (zAF id n k).toArray 229))=W at *;go_wp2_with (first | (refine zAA (by rfl) 229 (.tmp 1) rfl w.heap.size 0 rfl (zAF id n k) _ r0 underlying229 rfl (by kernel_rfl) ?_) | (refine zA4 rfl _ _ _ _ _ rfl _ _ rfl rfl (zAF id n k++[.bool false]) (by kernel_rfl) ?_) | (refine zAH rfl _ _ rfl _ rfl (zAF id n k) (by kernel_rfl) ?_))
 go_ret;exact ⟨⟨_,_,rfl⟩,(clB hB)⟩
theorem zMO (id n k:Int) (w:World):Calls prog 186 #[.agg (zAF id n k).toArray] w λe w'=>(∃ t p,e=.returned (.iface t (.pointer p)))/\Below w.heap.size w w':=by
 have r0:=(AtL.new0 w 229 (zAF id n k)).range;have hB:=zAK (Below.refl _ w) (.cells (zAF id n k).toArray 229);go_enter func186,ntmps186;go_upto_region 1 with fail
 generalize (w.alloc (.cells (zAF id n k).toArray 229))=W at *;go_wp2_with (first | (refine zAA (by rfl) 229 (.tmp 1) rfl w.heap.size 0 rfl (zAF id n k) _ r0 underlying229 rfl (by kernel_rfl) ?_) | (refine zA4 rfl _ _ _ _ _ rfl _ _ rfl rfl (zAF id n k++[.bool true]) (by kernel_rfl) ?_) | (refine zAH rfl _ _ rfl _ rfl (zAF id n k) (by kernel_rfl) ?_))
 go_ret;exact ⟨⟨_,_,rfl⟩,(clB hB)⟩
theorem zLZ (id n k:Int) (w:World):Calls prog 187 #[.agg (zAF id n k).toArray] w λe w'=>(∃ t p,e=.returned (.iface t (.pointer p)))/\Below w.heap.size w w':=by
 have r0:=(AtL.new0 w 229 (zAF id n k)).range;have hB:=zAK (Below.refl _ w) (.cells (zAF id n k).toArray 229);go_enter func187,ntmps187;go_upto_region 1 with fail
 generalize (w.alloc (.cells (zAF id n k).toArray 229))=W at *;go_wp2_with (first | (refine zAA (by rfl) 229 (.tmp 1) rfl w.heap.size 0 rfl (zAF id n k) _ r0 underlying229 rfl (by kernel_rfl) ?_) | (refine zAH rfl _ _ rfl _ rfl (zAF id n k) (by kernel_rfl) ?_))
 go_ret;exact ⟨⟨_,_,rfl⟩,(clB hB)⟩
theorem zG6 (id n k:Int) (w:World):Calls prog 188 #[.agg (zAF id n k).toArray] w λe w'=>(∃ t p,e=.returned (.iface t (.pointer p)))/\Below w.heap.size w w':=by
 have r0:=(AtL.new0 w 229 (zAF id n k)).range;have hB:=zAK (Below.refl _ w) (.cells (zAF id n k).toArray 229);go_enter func188,ntmps188;go_upto_region 1 with fail
 generalize (w.alloc (.cells (zAF id n k).toArray 229))=W at *;go_wp2_with (first | (refine zAA (by rfl) 229 (.tmp 1) rfl w.heap.size 0 rfl (zAF id n k) _ r0 underlying229 rfl (by kernel_rfl) ?_) | (refine zAH rfl _ _ rfl _ rfl (zAF id n k) (by kernel_rfl) ?_))
 go_ret;exact ⟨⟨_,_,rfl⟩,(clB hB)⟩
theorem zEv (id n k:Int) (w:World):Calls prog 189 #[.agg (zAF id n k).toArray] w λe w'=>(∃ t p,e=.returned (.iface t (.pointer p)))/\Below w.heap.size w w':=by
 have r0:=(AtL.new0 w 229 (zAF id n k)).range;have hB:=zAK (Below.refl _ w) (.cells (zAF id n k).toArray 229);go_enter func189,ntmps189;go_upto_region 1 with fail
 generalize (w.alloc (.cells (zAF id n k).toArray 229))=W at *;go_wp2_with (first | (refine zAA (by rfl) 229 (.tmp 1) rfl w.heap.size 0 rfl (zAF id n k) _ r0 underlying229 rfl (by kernel_rfl) ?_) | (refine zAH rfl _ _ rfl _ rfl (zAF id n k) (by kernel_rfl) ?_))
 go_ret;exact ⟨⟨_,_,rfl⟩,(clB hB)⟩
theorem zEy (id n k:Int) (w:World):Calls prog 190 #[.agg (zAF id n k).toArray] w λe w'=>(∃ t p,e=.returned (.iface t (.pointer p)))/\Below w.heap.size w w':=by
 have r0:=(AtL.new0 w 229 (zAF id n k)).range;have hB:=zAK (Below.refl _ w) (.cells (zAF id n k).toArray 229);go_enter func190,ntmps190;go_upto_region 1 with fail
 generalize (w.alloc (.cells (zAF id n k).toArray 229))=W at *;go_wp2_with (first | (refine zAA (by rfl) 229 (.tmp 1) rfl w.heap.size 0 rfl (zAF id n k) _ r0 underlying229 rfl (by kernel_rfl) ?_) | (refine zAH rfl _ _ rfl _ rfl (zAF id n k) (by kernel_rfl) ?_))
 go_ret;exact ⟨⟨_,_,rfl⟩,(clB hB)⟩
theorem zIk (id n k:Int) (w:World):Calls prog 191 #[.agg (zAF id n k).toArray] w λe w'=>(∃ t p,e=.returned (.iface t (.pointer p)))/\Below w.heap.size w w':=by
 have r0:=(AtL.new0 w 229 (zAF id n k)).range;have hB:=zAK (Below.refl _ w) (.cells (zAF id n k).toArray 229);go_enter func191,ntmps191;go_upto_region 1 with fail
 generalize (w.alloc (.cells (zAF id n k).toArray 229))=W at *;go_wp2_with (first | (refine zAA (by rfl) 229 (.tmp 1) rfl w.heap.size 0 rfl (zAF id n k) _ r0 underlying229 rfl (by kernel_rfl) ?_) | (refine zAH rfl _ _ rfl _ rfl (zAF id n k) (by kernel_rfl) ?_))
 go_ret;exact ⟨⟨_,_,rfl⟩,(clB hB)⟩
theorem zKQ (id n k:Int) (w:World):Calls prog 192 #[.agg (zAF id n k).toArray] w λe w'=>(∃ t p,e=.returned (.iface t (.pointer p)))/\Below w.heap.size w w':=by
 have r0:=(AtL.new0 w 229 (zAF id n k)).range;have hB:=zAK (Below.refl _ w) (.cells (zAF id n k).toArray 229);go_enter func192,ntmps192;go_upto_region 1 with fail
 generalize (w.alloc (.cells (zAF id n k).toArray 229))=W at *;go_wp2_with (first | (refine zAA (by rfl) 229 (.tmp 1) rfl w.heap.size 0 rfl (zAF id n k) _ r0 underlying229 rfl (by kernel_rfl) ?_) | (refine zAH rfl _ _ rfl _ rfl (zAF id n k) (by kernel_rfl) ?_))
 go_ret;exact ⟨⟨_,_,rfl⟩,(clB hB)⟩
theorem zIb (id n k:Int) (w:World):Calls prog 193 #[.agg (zAF id n k).toArray] w λe w'=>(∃ t p,e=.returned (.iface t (.pointer p)))/\Below w.heap.size w w':=by
 have r0:=(AtL.new0 w 229 (zAF id n k)).range;have hB:=zAK (Below.refl _ w) (.cells (zAF id n k).toArray 229);go_enter func193,ntmps193;go_upto_region 1 with fail
 generalize (w.alloc (.cells (zAF id n k).toArray 229))=W at *;go_wp2_with (first | (refine zAA (by rfl) 229 (.tmp 1) rfl w.heap.size 0 rfl (zAF id n k) _ r0 underlying229 rfl (by kernel_rfl) ?_) | (refine zAH rfl _ _ rfl _ rfl (zAF id n k) (by kernel_rfl) ?_))
 go_ret;exact ⟨⟨_,_,rfl⟩,(clB hB)⟩
theorem zEt (id n k:Int) (w:World):Calls prog 194 #[.agg (zAF id n k).toArray] w λe w'=>(∃ t p,e=.returned (.iface t (.pointer p)))/\Below w.heap.size w w':=by
 have r0:=(AtL.new0 w 229 (zAF id n k)).range;have hB:=zAK (Below.refl _ w) (.cells (zAF id n k).toArray 229);go_enter func194,ntmps194;go_upto_region 1 with fail
 generalize (w.alloc (.cells (zAF id n k).toArray 229))=W at *;go_wp2_with (first | (refine zAA (by rfl) 229 (.tmp 1) rfl w.heap.size 0 rfl (zAF id n k) _ r0 underlying229 rfl (by kernel_rfl) ?_) | (refine zAH rfl _ _ rfl _ rfl (zAF id n k) (by kernel_rfl) ?_))
 go_ret;exact ⟨⟨_,_,rfl⟩,(clB hB)⟩
theorem zHR (id n k:Int) (w:World):Calls prog 195 #[.agg (zAF id n k).toArray] w λe w'=>(∃ t p,e=.returned (.iface t (.pointer p)))/\Below w.heap.size w w':=by
 have r0:=(AtL.new0 w 229 (zAF id n k)).range;have hB:=zAK (Below.refl _ w) (.cells (zAF id n k).toArray 229);go_enter func195,ntmps195;go_upto_region 1 with fail
 generalize (w.alloc (.cells (zAF id n k).toArray 229))=W at *;go_wp2_with (first | (refine zAA (by rfl) 229 (.tmp 1) rfl w.heap.size 0 rfl (zAF id n k) _ r0 underlying229 rfl (by kernel_rfl) ?_) | (refine zAH rfl _ _ rfl _ rfl (zAF id n k) (by kernel_rfl) ?_))
 go_ret;exact ⟨⟨_,_,rfl⟩,(clB hB)⟩
theorem zHH (id n k:Int) (w:World):Calls prog 196 #[.agg (zAF id n k).toArray] w λe w'=>(∃ t p,e=.returned (.iface t (.pointer p)))/\Below w.heap.size w w':=by
 have r0:=(AtL.new0 w 229 (zAF id n k)).range;have hB:=zAK (Below.refl _ w) (.cells (zAF id n k).toArray 229);go_enter func196,ntmps196;go_upto_region 1 with fail
 generalize (w.alloc (.cells (zAF id n k).toArray 229))=W at *;go_wp2_with (first | (refine zAA (by rfl) 229 (.tmp 1) rfl w.heap.size 0 rfl (zAF id n k) _ r0 underlying229 rfl (by kernel_rfl) ?_) | (refine zAH rfl _ _ rfl _ rfl (zAF id n k) (by kernel_rfl) ?_))
 go_ret;exact ⟨⟨_,_,rfl⟩,(clB hB)⟩
theorem zCb (id n k:Int) (w:World):Calls prog 197 #[.agg (zAF id n k).toArray] w λe w'=>(∃ t p,e=.returned (.iface t (.pointer p)))/\Below w.heap.size w w':=by
 have r0:=(AtL.new0 w 229 (zAF id n k)).range;have hB:=zAK (Below.refl _ w) (.cells (zAF id n k).toArray 229);go_enter func197,ntmps197;go_upto_region 1 with fail
 generalize (w.alloc (.cells (zAF id n k).toArray 229))=W at *;go_wp2_with (first | (refine zAA (by rfl) 229 (.tmp 1) rfl w.heap.size 0 rfl (zAF id n k) _ r0 underlying229 rfl (by kernel_rfl) ?_) | (refine zAH rfl _ _ rfl _ rfl (zAF id n k) (by kernel_rfl) ?_))
 go_ret;exact ⟨⟨_,_,rfl⟩,(clB hB)⟩
def zE1:List Value:=[.int .i64 0,.int .i64 0,.int .i64 0,.int .i64 0,.int .i64 0,.int .i64 0,.int .i64 0,.string ⟨#[]⟩,.bool false,.int .i64 0,.int .i64 0,.int .i64 0,.int .i64 0,.string ⟨#[]⟩,.bool false,.int .i64 0,.bool false,.bool false,.bool false,.int .i64 0,.int .i64 0]
abbrev zDG (w:World):World:=w.alloc (.cells #[.int .i64 0,.int .i64 0,.int .i64 0,.int .i64 0,.int .i64 0,.int .i64 0,.int .i64 0,.string ⟨#[]⟩,.bool false,.int .i64 0,.int .i64 0,.int .i64 0,.int .i64 0,.string ⟨#[]⟩,.bool false,.int .i64 0,.bool false,.bool false,.bool false,.int .i64 0,.int .i64 0] 198)
theorem zKo (w:World):Calls prog 105 #[.int .i64 2] w λe w'=>(∃ v,e=.returned (.tuple #[v,.int .i64 0]))/\Below w.heap.size w w':=by
 have F:=zBU 2 w;rw [show fld 2=true from rfl] at F;have p0:AtL (zDG w) w.heap.size zE1:=AtL.new0 w _ _;have hth:World.there (zDG w) w.heap.size 0 (zAF 2 0 0).toArray.size:=p0.there;have pO:AtL ((zDG w).setCells w.heap.size 0 (zAF 2 0 0)) w.heap.size (zAF 2 0 0):=p0.setAll rfl;have hB:Below w.heap.size w ((zDG w).setCells w.heap.size 0 (zAF 2 0 0)):=zAa (zAK (Below.refl _ w) _) (Nat.le_refl _) _ 0;clear p0;go_enter func105,ntmps105;go_wp2_with fail
 refine F.mono ?_;rintro e w1 ⟨rfl,rfl⟩;go_upto_region 3 with fail
 go_upto_region 4 with (first | (refine zA4 rfl 198 _ _ _ _ rfl _ _ rfl rfl (zAF 2 0 0) (by kernel_rfl) ?_) | ((with_reducible refine wpList_store_mid ?_ 198 (.tmp 4) (.tmp 10) ?_ w.heap.size 0 (zAF 2 0 0).toArray ?_ ?_ ?_ ?_ ?_ ?_);rfl;rfl;rfl;rfl;exact hth;kernel_rfl;exact zAn _ _ _))
 generalize (zDG w).setCells w.heap.size 0 (zAF 2 0 0)=W0 at *;clear hth F;have o2:=pO.2.1 2 _ rfl;have f2:=pO.2.2 2 (by show 2<21;decide);go_upto_region 6 with fail
 have pO2:AtL (W0.setCell ⟨w.heap.size,2,none⟩ (.int .i64 1)) w.heap.size (zAF 2 1 0):=pO.set 2 (.int .i64 1);have hB2:Below w.heap.size w (W0.setCell ⟨w.heap.size,2,none⟩ (.int .i64 1)):=(clB hB)
 clear pO hB o2 f2;generalize W0.setCell ⟨w.heap.size,2,none⟩ (.int .i64 1)=W0 at *;have pO:=pO2;have hB:=hB2;clear pO2 hB2;have rO:=pO.range;clear pO;go_wp2_with (first | (refine zAA (by rfl) 198 (.tmp 4) rfl w.heap.size 0 rfl (zAF 2 1 0) _ rO underlying198 rfl (by kernel_rfl) ?_) | (refine zAH rfl 200 _ rfl _ rfl (zAF 2 1 0) (by kernel_rfl) ?_))
 go_ret2
 refine ⟨⟨_,rfl⟩,?_⟩;exact zAK hB (.cells (zAF 2 1 0).toArray 200)
theorem zHN (w:World):Calls prog 105 #[.int .i64 11] w λe w'=>(∃ v,e=.returned (.tuple #[v,.int .i64 0]))/\Below w.heap.size w w':=by
 have F:=zBU 11 w;rw [show fld 11=true from rfl] at F;have p0:AtL (zDG w) w.heap.size zE1:=AtL.new0 w _ _;have hth:World.there (zDG w) w.heap.size 0 (zAF 11 0 0).toArray.size:=p0.there;have pO:AtL ((zDG w).setCells w.heap.size 0 (zAF 11 0 0)) w.heap.size (zAF 11 0 0):=p0.setAll rfl;have hB:Below w.heap.size w ((zDG w).setCells w.heap.size 0 (zAF 11 0 0)):=zAa (zAK (Below.refl _ w) _) (Nat.le_refl _) _ 0;clear p0;go_enter func105,ntmps105;go_wp2_with fail
 refine F.mono ?_;rintro e w1 ⟨rfl,rfl⟩;go_upto_region 3 with fail
 go_upto_region 4 with (first | (refine zA4 rfl 198 _ _ _ _ rfl _ _ rfl rfl (zAF 11 0 0) (by kernel_rfl) ?_) | ((with_reducible refine wpList_store_mid ?_ 198 (.tmp 4) (.tmp 10) ?_ w.heap.size 0 (zAF 11 0 0).toArray ?_ ?_ ?_ ?_ ?_ ?_);rfl;rfl;rfl;rfl;exact hth;kernel_rfl;exact zAn _ _ _))
 generalize (zDG w).setCells w.heap.size 0 (zAF 11 0 0)=W0 at *;clear hth F;have o4:=pO.2.1 4 _ rfl;have f4:=pO.2.2 4 (by show 4<21;decide);go_upto_region 8 with fail
 have pO2:AtL (W0.setCell ⟨w.heap.size,4,none⟩ (.int .i64 2)) w.heap.size (zAF 11 0 2):=pO.set 4 (.int .i64 2);have hB2:Below w.heap.size w (W0.setCell ⟨w.heap.size,4,none⟩ (.int .i64 2)):=(clB hB)
 clear pO hB o4 f4;generalize W0.setCell ⟨w.heap.size,4,none⟩ (.int .i64 2)=W0 at *;have pO:=pO2;have hB:=hB2;clear pO2 hB2;have rO:=pO.range;clear pO;go_wp2_with (first | (refine zAA (by rfl) 198 (.tmp 4) rfl w.heap.size 0 rfl (zAF 11 0 2) _ rO underlying198 rfl (by kernel_rfl) ?_) | (refine zAH rfl 200 _ rfl _ rfl (zAF 11 0 2) (by kernel_rfl) ?_))
 go_ret2
 refine ⟨⟨_,rfl⟩,?_⟩;exact zAK hB (.cells (zAF 11 0 2).toArray 200)
theorem zK0 (id:Int) (w:World) (hf:fld id=true) (h2:¬ id=2) (h11:¬ id=11):Calls prog 105 #[.int .i64 id] w λe w'=>(∃ v,e=.returned (.tuple #[v,.int .i64 0]))/\Below w.heap.size w w':=by
 have F:=zBU id w;rw [show fld id=true from hf] at F;have p0:AtL (zDG w) w.heap.size zE1:=AtL.new0 w _ _;have hth:World.there (zDG w) w.heap.size 0 (zAF id 0 0).toArray.size:=p0.there;have pO:AtL ((zDG w).setCells w.heap.size 0 (zAF id 0 0)) w.heap.size (zAF id 0 0):=p0.setAll rfl;have hB:Below w.heap.size w ((zDG w).setCells w.heap.size 0 (zAF id 0 0)):=zAa (zAK (Below.refl _ w) _) (Nat.le_refl _) _ 0;clear p0;go_enter func105,ntmps105;go_wp2_with fail
 refine F.mono ?_;rintro e w1 ⟨rfl,rfl⟩;go_upto_region 3 with fail
 go_upto_region 4 with (first | (refine zA4 rfl 198 _ _ _ _ rfl _ _ rfl rfl (zAF id 0 0) (by kernel_rfl) ?_) | ((with_reducible refine wpList_store_mid ?_ 198 (.tmp 4) (.tmp 10) ?_ w.heap.size 0 (zAF id 0 0).toArray ?_ ?_ ?_ ?_ ?_ ?_);rfl;rfl;rfl;rfl;exact hth;kernel_rfl;exact zAn _ _ _))
 generalize (zDG w).setCells w.heap.size 0 (zAF id 0 0)=W0 at *;clear hth F;have rO:=pO.range;clear pO;go_wp2_with (first | (refine zAA (by rfl) 198 (.tmp 4) rfl w.heap.size 0 rfl (zAF id 0 0) _ rO underlying198 rfl (by kernel_rfl) ?_) | (refine zAH rfl 200 _ rfl _ rfl (zAF id 0 0) (by kernel_rfl) ?_))
 go_ret2
 refine ⟨⟨_,rfl⟩,?_⟩;exact zAK hB (.cells (zAF id 0 0).toArray 200)
theorem zDO (id:Int) (w:World):Calls prog 105 #[.int .i64 id] w λe w'=>(∃ v,e=.returned (.tuple #[v,.int .i64 (if fld id=true then 0 else 1)]))/\Below w.heap.size w w':=by
 by_cases hf:fld id=true
 ·rw [if_pos hf];by_cases h2:id=2
  ·rw [h2];exact zKo w
  ·by_cases h11:id=11
   ·rw [h11];exact zHN w
   ·exact zK0 id w hf h2 h11
 ·rw [if_neg hf];exact zHi id w (by simpa using hf)
theorem vlz (w:World):AtL (w.alloc (.cells #[.int .i64 0,.int .i64 0,.int .i64 0,.string ⟨#[]⟩,.bool false,.int .i64 0] 31)) w.heap.size [.int .i64 0,.int .i64 0,.int .i64 0,.string ⟨#[]⟩,.bool false,.int .i64 0]:=AtL.new0 w _ _
def zEM (c:Int):Wt.Vl:=⟨4,0,0,⟨#[]⟩,false,if Wv.flt c then c else 2⟩
theorem zCW (c:Int) (w:World):CR 198 #[.int .i64 c] w (vlV (zEM c)):=by
 have C:=λw=>zCX c w
 unfold zEM;cases hq:Wv.flt c with
 | false =>
  rw [hq] at C;go_enter func198,ntmps198;go_wp2_with fail
  refine (C _).mono ?_;rintro e w1 ⟨rfl,rfl⟩;go_wp2;refine bodyPost_ret (v:=vlV ⟨4,0,0,⟨#[]⟩,false,2⟩) (by simp [results,results198,go_sem,vlV,vl6]) rfl ⟨rfl,?_⟩;exact clA
 | true =>
  rw [hq] at C;go_enter func198,ntmps198;go_wp2_with fail
  refine (C _).mono ?_;rintro e w1 ⟨rfl,rfl⟩;go_wp2;refine bodyPost_ret (v:=vlV ⟨4,0,0,⟨#[]⟩,false,c⟩) (by simp [results,results198,go_sem,vlV,vl6]) rfl ⟨rfl,?_⟩;exact clA
def zLc (s:ByteArray):Wt.Vl:=if Wv.prts s.data.toList then (if 256<s.size then ⟨4,0,0,⟨#[]⟩,false,7⟩ else ⟨2,0,0,s,false,0⟩) else ⟨4,0,0,⟨#[]⟩,false,2⟩
theorem zG8 (s:ByteArray) (w:World) (hs:s.size<=9223372036854775807):CR 177 #[.string s] w (vlV (zLc s)):=by
 have C:=λw=>zEY s w hs
 have F2:=λw=>zCW 2 w
 have F7:=λw=>zCW 7 w
 have e2:zEM 2=⟨4,0,0,⟨#[]⟩,false,2⟩:=rfl;have e7:zEM 7=⟨4,0,0,⟨#[]⟩,false,7⟩:=rfl;rw [e2] at F2;rw [e7] at F7;simp only [vlV,vl6] at F2 F7;have pR:=vlz w;have hB0:=zAK (Below.refl _ w) (.cells zV0 31);unfold zLc;cases hq:Wv.prts s.data.toList with
 | false =>
  rw [hq] at C;rw [if_neg (by decide)];go_enter func177,ntmps177;go_wp2_with fail
  refine (C _).mono ?_;rintro e w1 ⟨rfl,rfl⟩;go_wp2_with fail
  refine (F2 _).mono ?_;rintro e w2 ⟨rfl,hb⟩;have pR1:=AtL.below hb pR;obtain ⟨c0,c1,c2,c3,c4,c5⟩:=pR1.f6;have g0:=pR1.2.2 0 (by decide);have g1:=pR1.2.2 1 (by decide);have g2:=pR1.2.2 2 (by decide);have g3:=pR1.2.2 3 (by decide);have g4:=pR1.2.2 4 (by decide);have g5:=pR1.2.2 5 (by decide);have hB1:=zAB hB0 hb;go_wp2;refine bodyPost_ret (v:=vlV ⟨4,0,0,⟨#[]⟩,false,2⟩) (by simp [results,results177,go_sem,vlV,vl6, *]) rfl ⟨rfl,?_⟩;exact (clB hB1)
 | true =>
  rw [hq] at C;rw [if_pos rfl];by_cases hl:256<s.size
  ·have hli:(256:Int)<(s.size:Int):=by omega
   rw [if_pos hl];go_enter func177,ntmps177;go_wp2_with fail
   refine (C _).mono ?_;rintro e w1 ⟨rfl,rfl⟩;go_wp2_with fail
   refine (F7 _).mono ?_;rintro e w2 ⟨rfl,hb⟩;have pR1:=AtL.below hb pR;obtain ⟨c0,c1,c2,c3,c4,c5⟩:=pR1.f6;have g0:=pR1.2.2 0 (by decide);have g1:=pR1.2.2 1 (by decide);have g2:=pR1.2.2 2 (by decide);have g3:=pR1.2.2 3 (by decide);have g4:=pR1.2.2 4 (by decide);have g5:=pR1.2.2 5 (by decide);have hB1:=zAB hB0 hb;go_wp2;refine bodyPost_ret (v:=vlV ⟨4,0,0,⟨#[]⟩,false,7⟩) (by simp [results,results177,go_sem,vlV,vl6, *]) rfl ⟨rfl,?_⟩;exact (clB hB1)
  ·have hli:¬ (256:Int)<(s.size:Int):=by omega
   rw [if_neg hl];go_enter func177,ntmps177;go_wp2_with fail
   refine (C _).mono ?_;rintro e w1 ⟨rfl,rfl⟩;go_wp2;refine bodyPost_ret (v:=vlV ⟨2,0,0,s,false,0⟩) (by simp [results,results177,go_sem,vlV,vl6, *]) rfl ⟨rfl,?_⟩;exact clA
theorem zCa {P:Program} {fn:Func} {t:Tmp} {T:TypeId} (h:fn.results=#[.cell t T]) (tmps:Array Value) (w:World) (b:Nat) (cs:List Value) (d:TypeDesc) (ht:tmps.getD t undef=.pointer (some ⟨b,0,none⟩)) (hc:w.rangeAt b 0 cs)
  (hu:P.underlying T=some d) (hd:d.isRow=true) (hi:(P.info? T).map (·.size)=some cs.length):(results fn tmps).run P w=.ok (.agg cs.toArray) w:=by
 have hl:=run_loadVar_mid (P:=P) w b 0 T cs d hc hu hd hi;have ht':tmps[t]?.getD undef=.pointer (some ⟨b,0,none⟩):=by rw [<-ht];simp
 simp only [results,h];simp [ht',hl,asAddr]
abbrev zCO (w:World):World:=(w.alloc (.cells #[.int .i64 0,.int .i64 0,.int .i64 0,.int .i64 0,.int .i64 0,.int .i64 0,.int .i64 0,.string ⟨#[]⟩,.bool false,.int .i64 0,.int .i64 0,.int .i64 0,.int .i64 0,.string ⟨#[]⟩,.bool false,.int .i64 0,.bool false,.bool false,.bool false,.int .i64 0,.int .i64 0] 198)).alloc (.cells #[.int .i64 0,.int .i64 0,.int .i64 0,.int .i64 0,.int .i64 0,.int .i64 0,.int .i64 0,.string ⟨#[]⟩,.bool false,.int .i64 0,.int .i64 0,.int .i64 0,.int .i64 0,.string ⟨#[]⟩,.bool false,.int .i64 0,.bool false,.bool false,.bool false,.int .i64 0,.int .i64 0] 198)
theorem zLD (w:World):CR 164 #[.int .i64 2] w (.agg (zAF 2 1 0).toArray):=by
 have pR0:AtL (zCO w) w.heap.size zE1:=(AtL.new0 w _ _).alloc _;have p0:AtL (zCO w) (w.heap.size+1) zE1:=AtL.new1 w _ _ _;have hne:w.heap.size+1 ≠ w.heap.size:=by omega
 have hth:World.there (zCO w) (w.heap.size+1) 0 (zAF 2 0 0).toArray.size:=p0.there;have pO:AtL ((zCO w).setCells (w.heap.size+1) 0 (zAF 2 0 0)) (w.heap.size+1) (zAF 2 0 0):=p0.setAll rfl;have pR:AtL ((zCO w).setCells (w.heap.size+1) 0 (zAF 2 0 0)) w.heap.size zE1:=pR0.farAll hne 0 (zAF 2 0 0);have hB:Below w.heap.size w ((zCO w).setCells (w.heap.size+1) 0 (zAF 2 0 0)):=zAa (zAK (zAK (Below.refl _ w) _) _) (Nat.le_succ _) _ 0;clear p0 pR0;go_enter func164,ntmps164;go_upto_region 1 with fail
 go_upto_region 2 with (first | (refine zA4 rfl 198 _ _ _ _ rfl _ _ rfl rfl (zAF 2 0 0) (by kernel_rfl) ?_) | ((with_reducible refine wpList_store_mid ?_ 198 (.tmp 3) (.tmp 6) ?_ (w.heap.size+1) 0 (zAF 2 0 0).toArray ?_ ?_ ?_ ?_ ?_ ?_);rfl;rfl;rfl;rfl;exact hth;kernel_rfl;exact zAn _ _ _))
 generalize (zCO w).setCells (w.heap.size+1) 0 (zAF 2 0 0)=W0 at *;clear hth;have o2:=pO.2.1 2 _ rfl;have f2:=pO.2.2 2 (by show 2<21;decide);go_upto_region 7 with fail
 have pO2:AtL (W0.setCell ⟨w.heap.size+1,2,none⟩ (.int .i64 1)) (w.heap.size+1) (zAF 2 1 0):=pO.set 2 (.int .i64 1);have pR2:AtL (W0.setCell ⟨w.heap.size+1,2,none⟩ (.int .i64 1)) w.heap.size zE1:=pR.far hne 2 (.int .i64 1);have hB2:Below w.heap.size w (W0.setCell ⟨w.heap.size+1,2,none⟩ (.int .i64 1)):=(clB hB)
 clear pO pR hB o2 f2;generalize W0.setCell ⟨w.heap.size+1,2,none⟩ (.int .i64 1)=W1 at *;have rO:=pO2.range;have ht2:World.there W1 w.heap.size 0 (zAF 2 1 0).toArray.size:=pR2.there;have pF:AtL (W1.setCells w.heap.size 0 (zAF 2 1 0)) w.heap.size (zAF 2 1 0):=pR2.setAll rfl;have hB3:Below w.heap.size w (W1.setCells w.heap.size 0 (zAF 2 1 0)):=zAa hB2 (Nat.le_refl _) _ 0;clear pO2 pR2;go_wp2_with (first | (refine zAA (by rfl) 198 (.tmp 3) rfl (w.heap.size+1) 0 rfl (zAF 2 1 0) _ rO underlying198 rfl (by kernel_rfl) ?_) | ((with_reducible refine wpList_store_mid ?_ 198 (.tmp 2) (.tmp 16) ?_ w.heap.size 0 (zAF 2 1 0).toArray ?_ ?_ ?_ ?_ ?_ ?_);rfl;rfl;rfl;rfl;exact ht2;kernel_rfl;exact zAn _ _ _))
 exact bodyPost_ret (v:=.agg (zAF 2 1 0).toArray) (zCa (by rfl) _ _ w.heap.size (zAF 2 1 0) _ (by rfl) pF.range underlying198 rfl (by kernel_rfl)) rfl ⟨rfl,hB3⟩
theorem zIH (w:World):CR 164 #[.int .i64 11] w (.agg (zAF 11 0 2).toArray):=by
 have pR0:AtL (zCO w) w.heap.size zE1:=(AtL.new0 w _ _).alloc _;have p0:AtL (zCO w) (w.heap.size+1) zE1:=AtL.new1 w _ _ _;have hne:w.heap.size+1 ≠ w.heap.size:=by omega
 have hth:World.there (zCO w) (w.heap.size+1) 0 (zAF 11 0 0).toArray.size:=p0.there;have pO:AtL ((zCO w).setCells (w.heap.size+1) 0 (zAF 11 0 0)) (w.heap.size+1) (zAF 11 0 0):=p0.setAll rfl;have pR:AtL ((zCO w).setCells (w.heap.size+1) 0 (zAF 11 0 0)) w.heap.size zE1:=pR0.farAll hne 0 (zAF 11 0 0);have hB:Below w.heap.size w ((zCO w).setCells (w.heap.size+1) 0 (zAF 11 0 0)):=zAa (zAK (zAK (Below.refl _ w) _) _) (Nat.le_succ _) _ 0;clear p0 pR0;go_enter func164,ntmps164;go_upto_region 1 with fail
 go_upto_region 2 with (first | (refine zA4 rfl 198 _ _ _ _ rfl _ _ rfl rfl (zAF 11 0 0) (by kernel_rfl) ?_) | ((with_reducible refine wpList_store_mid ?_ 198 (.tmp 3) (.tmp 6) ?_ (w.heap.size+1) 0 (zAF 11 0 0).toArray ?_ ?_ ?_ ?_ ?_ ?_);rfl;rfl;rfl;rfl;exact hth;kernel_rfl;exact zAn _ _ _))
 generalize (zCO w).setCells (w.heap.size+1) 0 (zAF 11 0 0)=W0 at *;clear hth;have VT:∀ w:World,CR 177 #[.string ⟨#[]⟩] w (.agg #[.int .i64 2,.int .i64 0,.int .i64 0,.string ⟨#[]⟩,.bool false,.int .i64 0]):=λw=>zG8 ⟨#[]⟩ w (by decide)
 go_wp2_with fail
 refine (VT _).mono ?_;rintro e w1 ⟨rfl,hb⟩;have pO1:=AtL.below hb pO;have pR1:=AtL.below hb pR;have hB1:=zAB hB hb;clear pO pR hB hb;have o4:=pO1.2.1 4 _ rfl;have f4:=pO1.2.2 4 (by show 4<21;decide);have o5:=pO1.2.1 5 _ rfl;have f5:=pO1.2.2 5 (by show 5<21;decide);have o6:=pO1.2.1 6 _ rfl;have f6:=pO1.2.2 6 (by show 6<21;decide);have o7:=pO1.2.1 7 _ rfl;have f7:=pO1.2.2 7 (by show 7<21;decide);have o8:=pO1.2.1 8 _ rfl;have f8:=pO1.2.2 8 (by show 8<21;decide);have o9:=pO1.2.1 9 _ rfl;have f9:=pO1.2.2 9 (by show 9<21;decide);go_upto_region 7 with fail
 have pO2:AtL ((((((w1.setCell ⟨w.heap.size+1,4,none⟩ (.int .i64 2)).setCell ⟨w.heap.size+1,5,none⟩ (.int .i64 0)).setCell ⟨w.heap.size+1,6,none⟩ (.int .i64 0)).setCell ⟨w.heap.size+1,7,none⟩ (.string ⟨#[]⟩)).setCell ⟨w.heap.size+1,8,none⟩ (.bool false)).setCell ⟨w.heap.size+1,9,none⟩ (.int .i64 0)) (w.heap.size+1) (zAF 11 0 2):=((((((pO1.set 4 (.int .i64 2)).set 5 (.int .i64 0)).set 6 (.int .i64 0)).set 7 (.string ⟨#[]⟩)).set 8 (.bool false)).set 9 (.int .i64 0))
 have pR2:AtL ((((((w1.setCell ⟨w.heap.size+1,4,none⟩ (.int .i64 2)).setCell ⟨w.heap.size+1,5,none⟩ (.int .i64 0)).setCell ⟨w.heap.size+1,6,none⟩ (.int .i64 0)).setCell ⟨w.heap.size+1,7,none⟩ (.string ⟨#[]⟩)).setCell ⟨w.heap.size+1,8,none⟩ (.bool false)).setCell ⟨w.heap.size+1,9,none⟩ (.int .i64 0)) w.heap.size zE1:=((((((pR1.far hne 4 (.int .i64 2)).far hne 5 (.int .i64 0)).far hne 6 (.int .i64 0)).far hne 7 (.string ⟨#[]⟩)).far hne 8 (.bool false)).far hne 9 (.int .i64 0))
 have hB2:Below w.heap.size w ((((((w1.setCell ⟨w.heap.size+1,4,none⟩ (.int .i64 2)).setCell ⟨w.heap.size+1,5,none⟩ (.int .i64 0)).setCell ⟨w.heap.size+1,6,none⟩ (.int .i64 0)).setCell ⟨w.heap.size+1,7,none⟩ (.string ⟨#[]⟩)).setCell ⟨w.heap.size+1,8,none⟩ (.bool false)).setCell ⟨w.heap.size+1,9,none⟩ (.int .i64 0)):=(clB hB1)
 clear pO1 pR1 hB1 o4 f4 o5 f5 o6 f6 o7 f7 o8 f8 o9 f9;generalize ((((((w1.setCell ⟨w.heap.size+1,4,none⟩ (.int .i64 2)).setCell ⟨w.heap.size+1,5,none⟩ (.int .i64 0)).setCell ⟨w.heap.size+1,6,none⟩ (.int .i64 0)).setCell ⟨w.heap.size+1,7,none⟩ (.string ⟨#[]⟩)).setCell ⟨w.heap.size+1,8,none⟩ (.bool false)).setCell ⟨w.heap.size+1,9,none⟩ (.int .i64 0))=W1 at *;have rO:=pO2.range;have ht2:World.there W1 w.heap.size 0 (zAF 11 0 2).toArray.size:=pR2.there;have pF:AtL (W1.setCells w.heap.size 0 (zAF 11 0 2)) w.heap.size (zAF 11 0 2):=pR2.setAll rfl;have hB3:Below w.heap.size w (W1.setCells w.heap.size 0 (zAF 11 0 2)):=zAa hB2 (Nat.le_refl _) _ 0;clear pO2 pR2;go_wp2_with (first | (refine zAA (by rfl) 198 (.tmp 3) rfl (w.heap.size+1) 0 rfl (zAF 11 0 2) _ rO underlying198 rfl (by kernel_rfl) ?_) | ((with_reducible refine wpList_store_mid ?_ 198 (.tmp 2) (.tmp 16) ?_ w.heap.size 0 (zAF 11 0 2).toArray ?_ ?_ ?_ ?_ ?_ ?_);rfl;rfl;rfl;rfl;exact ht2;kernel_rfl;exact zAn _ _ _))
 exact bodyPost_ret (v:=.agg (zAF 11 0 2).toArray) (zCa (by rfl) _ _ w.heap.size (zAF 11 0 2) _ (by rfl) pF.range underlying198 rfl (by kernel_rfl)) rfl ⟨rfl,hB3⟩
theorem zK2 (id:Int) (w:World) (h2:¬ id=2) (h11:¬ id=11):CR 164 #[.int .i64 id] w (.agg (zAF id 0 0).toArray):=by
 have pR0:AtL (zCO w) w.heap.size zE1:=(AtL.new0 w _ _).alloc _;have p0:AtL (zCO w) (w.heap.size+1) zE1:=AtL.new1 w _ _ _;have hne:w.heap.size+1 ≠ w.heap.size:=by omega
 have hth:World.there (zCO w) (w.heap.size+1) 0 (zAF id 0 0).toArray.size:=p0.there;have pO:AtL ((zCO w).setCells (w.heap.size+1) 0 (zAF id 0 0)) (w.heap.size+1) (zAF id 0 0):=p0.setAll rfl;have pR:AtL ((zCO w).setCells (w.heap.size+1) 0 (zAF id 0 0)) w.heap.size zE1:=pR0.farAll hne 0 (zAF id 0 0);have hB:Below w.heap.size w ((zCO w).setCells (w.heap.size+1) 0 (zAF id 0 0)):=zAa (zAK (zAK (Below.refl _ w) _) _) (Nat.le_succ _) _ 0;clear p0 pR0;go_enter func164,ntmps164;go_upto_region 1 with fail
 go_upto_region 2 with (first | (refine zA4 rfl 198 _ _ _ _ rfl _ _ rfl rfl (zAF id 0 0) (by kernel_rfl) ?_) | ((with_reducible refine wpList_store_mid ?_ 198 (.tmp 3) (.tmp 6) ?_ (w.heap.size+1) 0 (zAF id 0 0).toArray ?_ ?_ ?_ ?_ ?_ ?_);rfl;rfl;rfl;rfl;exact hth;kernel_rfl;exact zAn _ _ _))
 generalize (zCO w).setCells (w.heap.size+1) 0 (zAF id 0 0)=W0 at *;clear hth;go_upto_region 7 with fail
 have pO2:=pO;have pR2:=pR;have hB2:=hB;clear pO pR hB;have rO:=pO2.range;have ht2:World.there W0 w.heap.size 0 (zAF id 0 0).toArray.size:=pR2.there;have pF:AtL (W0.setCells w.heap.size 0 (zAF id 0 0)) w.heap.size (zAF id 0 0):=pR2.setAll rfl;have hB3:Below w.heap.size w (W0.setCells w.heap.size 0 (zAF id 0 0)):=zAa hB2 (Nat.le_refl _) _ 0;clear pO2 pR2;go_wp2_with (first | (refine zAA (by rfl) 198 (.tmp 3) rfl (w.heap.size+1) 0 rfl (zAF id 0 0) _ rO underlying198 rfl (by kernel_rfl) ?_) | ((with_reducible refine wpList_store_mid ?_ 198 (.tmp 2) (.tmp 16) ?_ w.heap.size 0 (zAF id 0 0).toArray ?_ ?_ ?_ ?_ ?_ ?_);rfl;rfl;rfl;rfl;exact ht2;kernel_rfl;exact zAn _ _ _))
 exact bodyPost_ret (v:=.agg (zAF id 0 0).toArray) (zCa (by rfl) _ _ w.heap.size (zAF id 0 0) _ (by rfl) pF.range underlying198 rfl (by kernel_rfl)) rfl ⟨rfl,hB3⟩
