/- KAb8, KAble, KHgtP. -/
import Derived.Test.YtcddpgfdadpbgaaGreatDoorQ32
set_option maxHeartbeats 4000000
set_option maxRecDepth 100000
namespace Go.Proofs.YtcddpgfdadpbgaaGreatDoor
open Tryz
open Go.RowKit
set_option linter.unusedVariables false
variable {w w':World} {S:Wc.RS} {B n vb fb eb i j:Nat} {ops:Array Oper} {rest:List Oper} {op:Oper} {a:Act} {Q:Exit->Act->World->Prop} {tl:List Int}
def zIH:List (Wc.In × List Int):=[(zAE 2,[]),(zAE 16,[])]
theorem zDd:Wc.chkP rgt zIH=true:=by kernel_rfl
theorem zED:∀ x ∈ zIH,x.2.length<=1000000/\Wt.FitV x.1.v:=by
 intro x hx;simp only [zIH,List.mem_cons,List.not_mem_nil,or_false] at hx;rcases hx with rfl | rfl
 ·exact ⟨by simp,by unfold Wt.FitV;decide⟩
 ·exact ⟨by simp,by unfold Wt.FitV;decide⟩
theorem zIp {lv:Value} (h:OwnI w B lv [(zAE 2,zAG),(zAE 16,zAG)]):∃ G cap,lv=.slice (some ⟨G,0,none⟩) 2 cap/\B<=G/\w.rangeAt G 0 (zAD (zAE 2) zAG)/\w.rangeAt G 23 (zAD (zAE 16) zAG):=by
 rcases h.2 with ⟨_,h0⟩ | ⟨G,cap,cur,e,hb,hg,r⟩
 ·simp at h0
 ·have e2:lv=.slice (some ⟨G,0,none⟩) 2 cap:=e;subst e2;have c0:=OwnI.cell h (i:=0) (by simp);have c1:=OwnI.cell h (i:=1) (by simp);exact ⟨G,cap,rfl,hb,by simpa using c0,by simpa using c1⟩
theorem zIM {G cap:Nat} (h0:w.rangeAt G 0 (zAD (zAE 2) zAG)) (h1:w.rangeAt G 23 (zAD (zAE 16) zAG)):RdC w (.slice (some ⟨G,0,none⟩) 2 cap) zIH:=by
 refine ⟨some ⟨G,0,none⟩,cap,rfl,λi hi=>?_⟩;have hi2:i<2:=hi;match i,hi2 with
 | 0,_=>exact ⟨G,0,none,0,0,rfl,h0,RdZ.nil w,λ_=>rfl⟩
 | 1,_=>exact ⟨G,0,none,0,0,rfl,h1,RdZ.nil w,λ_=>rfl⟩
theorem zHV (G cap:Nat) (w:World) (h0:w.rangeAt G 0 (zAD (zAE 2) zAG)) (h1:w.rangeAt G 23 (zAD (zAE 16) zAG)) (hN:NmAt w) :
  Calls prog 11 #[.slice (some ⟨G,0,none⟩) 2 cap] w λe w'=>(∃ av c,e=.returned (.slice av 1 c))/\Below w.heap.size w w':=by
 have CK:=zB5 zIH (.slice (some ⟨G,0,none⟩) 2 cap) w (zIM h0 h1) (by simp [zIH]) zED hN;rw [zDd,if_pos rfl] at CK;have HRL:Hid (∀ W:World,Calls prog 21 #[.agg (zAD (zAE 2) zAG).toArray] W λe w'=>(∃ g,e=.returned (.slice (some ⟨g,0,none⟩) 1 1)/\AtL w' g z5/\W.heap.size<=g)/\Below W.heap.size W w'):=λW=>zIl zAG W
 have HRS:Hid (∀ W:World,Calls prog 21 #[.agg (zAD (zAE 16) zAG).toArray] W λe w'=>e=.returned (.slice none 0 0)/\Below W.heap.size W w'):=λW=>zIj zAG W
 have H0:Hid (w.rangeAt G 0 (zAD (zAE 2) zAG)):=h0;have H1:Hid (w.rangeAt G 23 (zAD (zAE 16) zAG)):=h1;have hmk:∀ w:World,(Instr.makeMap 59 none).run prog w=.ok (.map (some w.heap.size)) (w.alloc (.map #[] 0)):=λw=>by kernel_rfl
 clear h0 h1 hN;generalize zAE 2=x at *;generalize zAE 16=y at *;go_enter func11,ntmps11;go_wp2_with fail
 refine CK.mono ?_;rintro e w1 ⟨rfl,hb1⟩;go_upto_region 5 with fail
 have hbm:=zAJ (Below.refl _ w1) (.map #[] 0);have HB2:Hid (Below w.heap.size w (w1.alloc (.map #[] 0))):=zAB hb1 hbm;have HM2:Hid ((w1.alloc (.map #[] 0)).heap[w1.heap.size]? = some (.map #[] 0)):=zAo _ _ _ rfl;have HMW:Hid (w.heap.size<=w1.heap.size):=hb1.size;clear CK hbm hb1 hmk;generalize (w1.alloc (.map #[] 0))=w2 at *;obtain ⟨mb,hmb⟩:∃ k,w1.heap.size=k:=⟨_,rfl⟩
 rw [hmb] at HM2 HMW;simp only [hmb];clear hmb;go_wp2_with fail
 go_loopg [3,17] 2 (λgk u3 u17 wr=>∃ i:Nat,u17=.int .i64 i/\gk=2 - i/\i<=2/\Hid (Below w.heap.size w wr)/\Hid ((i=0/\u3=.slice none 0 0/\wr.heap[mb]? = some (.map #[] 0)) \/ (0<i/\∃ av c,u3=.slice av 1 c)))
 case atStart=>exact ⟨0,rfl,rfl,Nat.zero_le _,HB2,(Or.inl ⟨rfl,rfl,HM2.out⟩:(0=0/\_/\_) \/ _)⟩
 case round =>
  clear HB2 HM2;obtain ⟨i,rfl,hg,hi,HB,HU⟩:=hrel;by_cases hlt:i<2
  ·have hli:(i:Int)<2:=by omega
   have hiz:(0:Int)<=(i:Int):=by omega
   have hwi:IntKind.i64.wrap ((i:Int)+1)=(i:Int)+1:=by rw [IntKind.wrap_i64];omega
   have hc:i=0 \/ i=1:=by omega
   rcases hc with rfl | rfl
   ·rcases HU.out with ⟨_,e3,hm⟩ | ⟨h,_⟩
    ·subst e3;have HM:Hid (wr.heap[mb]? = some (.map #[] 0)):=hm;have t1:=zAK HB.out H0.out;have hth:World.there (wr.alloc (.cells zeros23 52)) wr.heap.size 0 (zAD x zAG).toArray.size:=(AtL.new0 wr _ _:AtL (wr.alloc (.cells zeros23 52)) wr.heap.size zeros23.toList).there;have HML:Hid (mb<wr.heap.size):=zAa hm;clear hm HU;go_upto_region 8 with (first | (refine zAA (by rfl) 52 (.tmp 19) rfl G 0 rfl (zAD x zAG) _ t1 underlying52 rfl (by kernel_rfl) ?_) | ((with_reducible refine wpList_store_mid ?_ 52 (.tmp 6) (.tmp 20) ?_ wr.heap.size 0 (zAD x zAG).toArray ?_ ?_ ?_ ?_ ?_ ?_);rfl;rfl;rfl;rfl;exact hth;kernel_rfl;exact zAT _ _ _ _))
     have pI:AtL ((wr.alloc (.cells zeros23 52)).setCells wr.heap.size 0 (zAD x zAG)) wr.heap.size (zAD x zAG):=(AtL.new0 wr _ _:AtL (wr.alloc (.cells zeros23 52)) wr.heap.size zeros23.toList).setAll rfl;have hbI:Below wr.heap.size wr ((wr.alloc (.cells zeros23 52)).setCells wr.heap.size 0 (zAD x zAG)):=zA8 (zAJ (Below.refl _ wr) _) (Nat.le_refl _) _ 0;have HB3:Hid (Below w.heap.size w ((wr.alloc (.cells zeros23 52)).setCells wr.heap.size 0 (zAD x zAG))):=zAB HB.out hbI;have HM3:Hid (((wr.alloc (.cells zeros23 52)).setCells wr.heap.size 0 (zAD x zAG)).heap[mb]? = some (.map #[] 0)):=by show _=_;rw [hbI.block _ HML.out];exact HM.out
     clear hth t1 hbI HM HB;generalize ((wr.alloc (.cells zeros23 52)).setCells wr.heap.size 0 (zAD x zAG))=w3 at *;obtain ⟨X,hX⟩:∃ k,wr.heap.size=k:=⟨_,rfl⟩
     rw [hX] at pI;simp only [hX];clear hX;have rI:=pI.range;have RL:=HRL.out w3;go_wp2_with (first | (refine zAA (by rfl) 52 (.tmp 6) rfl X 0 rfl (zAD x zAG) _ rI underlying52 rfl (by kernel_rfl) ?_))
     refine RL.mono ?_;rintro e w4 ⟨⟨g,rfl,pG,hgw⟩,hb4⟩;have HB4:Hid (Below w.heap.size w w4):=zAB HB3.out hb4;have HM4:Hid (w4.heap[mb]? = some (.map #[] 0)):=by show _=_;rw [hb4.block _ (zAa HM3.out)];exact HM3.out
     have HG4:Hid (AtL w4 g z5):=pG;clear RL rI pI hb4 pG HB3 HM3;go_wp2_with fail
     go_loopg [3,24] 1 (λgk u3 u24 wr=>∃ j:Nat,u24=.int .i64 j/\gk=1 - j/\j<=1/\Hid (Below w.heap.size w wr)/\Hid ((j=0/\u3=.slice none 0 0/\wr.heap[mb]? = some (.map #[] 0)/\AtL wr g z5) \/ (0<j/\∃ av c,u3=.slice av 1 c)))
     case atStart=>exact ⟨0,rfl,rfl,Nat.zero_le _,HB4,(Or.inl ⟨rfl,rfl,HM4.out,HG4.out⟩:(0=0/\_/\_/\_) \/ _)⟩
     case round =>
      clear HB4 HM4 HG4;obtain ⟨j,rfl,hgj,hj,HB5,HU5⟩:=hrel;by_cases hjl:j<1
      ·have hj0:j=0:=by omega
       subst hj0;rcases HU5.out with ⟨_,e3,hm5,pG5⟩ | ⟨h,_⟩
       ·subst e3;clear HU5;have q0:=pG5.2.1 0 _ rfl;have q1:=pG5.2.1 1 _ rfl;have q2:=pG5.2.1 2 _ rfl;have q3:=pG5.2.1 3 _ rfl;have q4:=pG5.2.1 4 _ rfl;have hb6:=zAJ (Below.refl _ wr) (.cells z5.toArray 49);have p6:=AtL.new0 wr 49 z5;have HB6:Hid (Below w.heap.size w (wr.alloc (.cells z5.toArray 49))):=zAB HB5.out hb6;have hm6:(wr.alloc (.cells z5.toArray 49)).heap[mb]? = some (.map #[] 0):=by rw [hb6.block _ (zAa hm5)];exact hm5
        have HAM:Hid (mb<wr.heap.size):=zAa hm5;clear hb6 hm5 HB5 pG5;go_upto_region 11 with fail
        generalize (wr.alloc (.cells z5.toArray 49))=w6 at *;obtain ⟨AB,hAB⟩:∃ k,wr.heap.size=k:=⟨_,rfl⟩
        rw [hAB] at p6 HAM;simp only [hAB];clear hAB q0 q1 q2 q3 q4;have q0:=p6.2.1 0 _ rfl;have q1:=p6.2.1 1 _ rfl;have q2:=p6.2.1 2 _ rfl;have q3:=p6.2.1 3 _ rfl;have q4:=p6.2.1 4 _ rfl;have hlk:=zER hm6;go_upto_region 12 with fail
        have hb7:=zAJ (Below.refl _ w6) (.cells #[] 61);have p7:=AtL.below hb7 p6;have HB7:Hid (Below w.heap.size w (w6.alloc (.cells #[] 61))):=zAB HB6.out hb7;have hm7:(w6.alloc (.cells #[] 61)).heap[mb]? = some (.map #[] 0):=by rw [hb7.block _ (zAa hm6)];exact hm6
        clear hlk q0 q1 q2 q3 q4 hb7 p6 hm6 HB6;generalize (w6.alloc (.cells #[] 61))=w7 at *;have q0:=p7.2.1 0 _ rfl;have q1:=p7.2.1 1 _ rfl;have q2:=p7.2.1 2 _ rfl;have q3:=p7.2.1 3 _ rfl;have q4:=p7.2.1 4 _ rfl;go_upto_region 13 with fail
        go_upto_region 14 with (first | (refine zD3 rfl (.tmp 35) (.tmp 36) (.tmp 37) rfl mb rfl rfl rfl hm7 ?_;intro w8 hg8))
        have fr8:Fr [mb] w7 w8:=Fr.of_grown hg8 (λk e=>by cases e;simp);have p8:=p7.fr fr8 (by have:=HAM.out;simp;omega);have HB8:Hid (Below w.heap.size w w8):=zAN HB7.out fr8 (λk hk=>by have:=HMW.out;simp at hk;omega);clear q0 q1 q2 q3 q4 p7 hm7 HB7 fr8 hg8;have q0:=p8.2.1 0 _ rfl;have q1:=p8.2.1 1 _ rfl;have q2:=p8.2.1 2 _ rfl;have q3:=p8.2.1 3 _ rfl;have q4:=p8.2.1 4 _ rfl;have HP9:Hid (AtL (w8.alloc (.cells z5.toArray 49)) w8.heap.size z5):=AtL.new0 w8 _ _;have HBA:Hid (Below w.heap.size w (w8.alloc (.cells z5.toArray 49))):=zAJ HB8.out _;clear p8 HB8;go_wp2_with (first | (refine zD4 rfl (.tmp 38) (.tmp 40) rfl (w8.alloc (.cells z5.toArray 49)) rfl w8.heap.size rfl HP9.out ?_;intro av9 c9 w9 hb9))
        have HB9:Hid (Below w.heap.size w w9):=zAB HBA.out hb9;have HU9:Hid ((1=0/\Value.slice av9 1 c9=.slice none 0 0/\w9.heap[mb]? = some (.map #[] 0)/\AtL w9 g z5) \/ (0<1/\∃ av' c',Value.slice av9 1 c9=.slice av' 1 c')):=Or.inr ⟨by omega,av9,c9,rfl⟩;clear hb9 q0 q1 q2 q3 q4 HP9 HBA;go_roundg 0
        case rel=>exact ⟨1,by simp,rfl,by omega,HB9,HU9⟩
        case measure=>omega
       ·omega
      ·have hj1:j=1:=by omega
       subst hj1;rcases HU5.out with ⟨h,_⟩ | ⟨_,av,c,e3⟩
       ·omega
       ·subst e3;clear HU5;have HU6:Hid ((1=0/\Value.slice av 1 c=.slice none 0 0/\wr.heap[mb]? = some (.map #[] 0)) \/ (0<1/\∃ av' c',Value.slice av 1 c=.slice av' 1 c')):=Or.inr ⟨by omega,av,c,rfl⟩;go_wp2_with fail
        go_roundg 1
        case rel=>exact ⟨1,by simp,rfl,by omega,HB5,HU6⟩
        case measure=>omega
    ·omega
   ·rcases HU.out with ⟨h,_⟩ | ⟨_,av,c,e3⟩
    ·omega
    ·subst e3;clear HU HRL;have t1:=zAK HB.out H1.out;have hth:World.there (wr.alloc (.cells zeros23 52)) wr.heap.size 0 (zAD y zAG).toArray.size:=(AtL.new0 wr _ _:AtL (wr.alloc (.cells zeros23 52)) wr.heap.size zeros23.toList).there;go_upto_region 8 with (first | (refine zAA (by rfl) 52 (.tmp 19) rfl G 23 rfl (zAD y zAG) _ t1 underlying52 rfl (by kernel_rfl) ?_) | ((with_reducible refine wpList_store_mid ?_ 52 (.tmp 6) (.tmp 20) ?_ wr.heap.size 0 (zAD y zAG).toArray ?_ ?_ ?_ ?_ ?_ ?_);rfl;rfl;rfl;rfl;exact hth;kernel_rfl;exact zAT _ _ _ _))
     have pI:AtL ((wr.alloc (.cells zeros23 52)).setCells wr.heap.size 0 (zAD y zAG)) wr.heap.size (zAD y zAG):=(AtL.new0 wr _ _:AtL (wr.alloc (.cells zeros23 52)) wr.heap.size zeros23.toList).setAll rfl;have HB3:Hid (Below w.heap.size w ((wr.alloc (.cells zeros23 52)).setCells wr.heap.size 0 (zAD y zAG))):=zAB HB.out (zA8 (zAJ (Below.refl _ wr) _) (Nat.le_refl _) _ 0);clear hth t1 HB;generalize ((wr.alloc (.cells zeros23 52)).setCells wr.heap.size 0 (zAD y zAG))=w3 at *;obtain ⟨X,hX⟩:∃ k,wr.heap.size=k:=⟨_,rfl⟩
     rw [hX] at pI;simp only [hX];clear hX;have rI:=pI.range;have RS:=HRS.out w3;go_wp2_with (first | (refine zAA (by rfl) 52 (.tmp 6) rfl X 0 rfl (zAD y zAG) _ rI underlying52 rfl (by kernel_rfl) ?_))
     refine RS.mono ?_;rintro e w4 ⟨rfl,hb4⟩;have HB4:Hid (Below w.heap.size w w4):=zAB HB3.out hb4;clear RS rI pI hb4 HB3;go_wp2_with fail
     go_loopg [3,24] 0 (λgk u3 u24 wr=>u3=.slice av 1 c/\u24=.int .i64 0/\gk=0/\w4=wr)
     case atStart=>exact ⟨rfl,rfl,rfl,rfl⟩
     case round =>
      obtain ⟨rfl,rfl,hg4,rfl⟩:=hrel;have HU6:Hid ((2=0/\Value.slice av 1 c=.slice none 0 0/\w4.heap[mb]? = some (.map #[] 0)) \/ (0<2/\∃ av' c',Value.slice av 1 c=.slice av' 1 c')):=Or.inr ⟨by omega,av,c,rfl⟩;go_wp2_with fail
      go_roundg 0
      case rel=>exact ⟨2,by simp,rfl,by omega,HB4,HU6⟩
      case measure=>omega
  ·have hli:¬ (i:Int)<2:=by omega
   rcases HU.out with ⟨h,_⟩ | ⟨_,av,c,e3⟩
   ·omega
   ·subst e3;clear HU;go_wp2;go_ret;exact ⟨⟨_,_,rfl⟩,HB.out⟩
theorem zMO (w:World):(Instr.build 44 #[(0,.int .i64 2)]).run prog w=.ok (.agg (zA3 ndA).toArray) w:=by kernel_rfl
theorem zDN (hgd:op.guard=none) (ho:op.op=.build 44 #[(0,.const (.int .i64 2))])
  (h:wpList prog ops Q rest (a.put op.dst (.agg (zA3 ndA).toArray)) w):wpList prog ops Q (op::rest) a w:=by
 refine wpList_plain hgd λK hK=>?_
 unfold Oper.wp execOp;simp only [ho,List.map_toArray,List.map_cons,List.map_nil,Act.eval,Sem.run_bind,Sem.run_pure,Result.andThen_ok,zMO];exact hK _ _ h
theorem zME (x:Wt.Nd) (w:World):(Instr.buildSlice 45 1 #[(0,.agg (zA3 x).toArray)]).run prog w=.ok (.slice (some ⟨w.heap.size,0,none⟩) 1 1) (w.alloc (.cells (zA3 x).toArray 44)):=by kernel_rfl
theorem zDD (hgd:op.guard=none) (y:Operand) (ho:op.op=.buildSlice 45 1 #[(0,y)]) (x:Wt.Nd) (hy:a.eval y=.agg (zA3 x).toArray)
  (h:wpList prog ops Q rest (a.put op.dst (.slice (some ⟨w.heap.size,0,none⟩) 1 1)) (w.alloc (.cells (zA3 x).toArray 44))):wpList prog ops Q (op::rest) a w:=by
 refine wpList_plain hgd λK hK=>?_
 unfold Oper.wp execOp;simp only [ho,List.map_toArray,List.map_cons,List.map_nil,hy,Sem.run_bind,Sem.run_pure,Result.andThen_ok,zME];exact hK _ _ h
theorem zHu (w:World) (hN:NmAt w):CR 5 #[] w (.bool true):=by
 have hb0:=zAJ (zAJ (Below.refl _ w) (.cells (zA3 ndA).toArray 44)) (.cells #[.string ⟨#[83]⟩] 9);have rN:((w.alloc (.cells (zA3 ndA).toArray 44)).alloc (.cells #[.string ⟨#[83]⟩] 9)).rangeAt w.heap.size 0 (zA3 ndA):=((AtL.new0 w 44 (zA3 ndA)).alloc _).range;have FL:=zG2 w.heap.size (w.heap.size+1) _ rN;have HN:Hid (NmAt w):=hN;clear rN hN;go_enter func5,ntmps5;go_wp2_with (first | (refine zDN rfl rfl ?_) | (refine zDD rfl (.tmp 4) rfl ndA rfl ?_))
 refine FL.mono ?_;rintro e w1 ⟨⟨lv,B,rfl,own,hB⟩,hb1⟩;have hB1:=zAB hb0 hb1;obtain ⟨G,cap,rfl,_,r0,r1⟩:=zIp own;have CK:=zB5 zIH (.slice (some ⟨G,0,none⟩) 2 cap) w1 (zIM r0 r1) (by simp [zIH]) zED (HN.out.below hB1);rw [zDd,if_pos rfl] at CK;have HUS:Hid (∀ W:World,Below w1.heap.size w1 W->Calls prog 11 #[.slice (some ⟨G,0,none⟩) 2 cap] W λe w'=>(∃ av c,e=.returned (.slice av 1 c))/\Below W.heap.size W w'):=λW hb=>zHV G cap W (zAK hb r0) (zAK hb r1) (HN.out.below (zAB hB1 hb))
 have c0:w1.cell? ⟨G,0,none⟩=some (.int .i64 2):=r0 0 _ rfl;have c1:w1.cell? ⟨G,23,none⟩=some (.int .i64 16):=r1 0 _ rfl;clear FL hb0 own hB hb1 r0 r1;go_wp2_with fail
 refine CK.mono ?_;rintro e w2 ⟨rfl,hb2⟩;have US:=HUS.out w2 hb2;have hB2:=zAB hB1 hb2;clear CK HUS c0 c1 hb2 hB1;go_wp2_with fail
 refine US.mono ?_;rintro e w3 ⟨⟨av,c,rfl⟩,hb3⟩;have hB3:=zAB hB2 hb3;go_wp2;go_ret;exact ⟨rfl,hB3⟩
structure HgS (w:World) (B vb fb eb n:Nat) (S:Wc.RS):Prop where
 len:S.length=n
 bn:∀ j:Nat,j<n->w.cell? ⟨eb,j,none⟩=some (.bool (S.getD j none).isSome)
 vt:∀ j:Nat,j<n->∃ x:Int,w.cell? ⟨vb,j,none⟩=some (.int .i64 x)
 vl:∀ (j:Nat) (v:Int) (f:List Int),S.getD j none=some (v,f)->w.cell? ⟨vb,j,none⟩=some (.int .i64 v)
 ft:∀ j:Nat,j<n->∃ r,w.cell? ⟨fb,j,none⟩=some r
 fd:∀ (j:Nat) (v:Int) (f:List Int),S.getD j none=some (v,f)->∃ r,w.cell? ⟨fb,j,none⟩=some r/\RdZ w r f/\Np r/\(∀ g,r.ownBlock=some g->B<=g)
 zv:∀ j:Nat,j<n->w.frozen? ⟨vb,j,none⟩=false
 zf:∀ j:Nat,j<n->w.frozen? ⟨fb,j,none⟩=false
 ze:∀ j:Nat,j<n->w.frozen? ⟨eb,j,none⟩=false
 lv:vb<B
 lf:fb<B
 le:eb<B
 hb:B<=w.heap.size
 vf:vb ≠ fb
 ve:vb ≠ eb
 fe:fb ≠ eb
theorem zEp {α:Type} {S:List (Option α)} {x:α} (h:S.getD j none=some x):j<S.length:=by
 rcases Nat.lt_or_ge j S.length with q | q
 ·exact q
 ·rw [List.getD_eq_getElem?_getD,List.getElem?_eq_none q] at h;cases h
theorem HgS.fr {T:List Nat} (h:HgS w B vb fb eb n S) (hf:Fr T w w') (ht:∀ k ∈ T,w.heap.size<=k):HgS w' B vb fb eb n S:=by
 have old:∀ k,k<w.heap.size->k ∉ T:=λk hk hm=>absurd (ht k hm) (Nat.not_le.2 hk)
 have hb:=h.hb;have n1:=old vb (Nat.lt_of_lt_of_le h.lv hb);have n2:=old fb (Nat.lt_of_lt_of_le h.lf hb);have n3:=old eb (Nat.lt_of_lt_of_le h.le hb);refine ⟨h.len,λj hj=>hf.cell (h.bn j hj) n3,λj hj=>?_,λj v f e=>hf.cell (h.vl j v f e) n1,λj hj=>?_,λj v f e=>?_,λj hj=>?_,λj hj=>?_,λj hj=>?_,h.lv,h.lf,h.le,Nat.le_trans h.hb hf.size,h.vf,h.ve,h.fe⟩
 ·obtain ⟨x,hx⟩:=h.vt j hj;exact ⟨x,hf.cell hx n1⟩
 ·obtain ⟨x,hx⟩:=h.ft j hj;exact ⟨x,hf.cell hx n2⟩
 ·obtain ⟨r,h1,h2,h3,h4⟩:=h.fd j v f e;refine ⟨r,hf.cell h1 n2,?_,h3,h4⟩;obtain ⟨av,cap,q,g⟩:=h2;refine ⟨av,cap,q,λi hi=>?_⟩;obtain ⟨b2,off,q1,q2⟩:=g i hi;exact ⟨b2,off,q1,hf.cell q2 (old _ (zA1 q2))⟩
 ·rw [hf.frozen (Nat.lt_of_lt_of_le h.lv hb) n1];exact h.zv j hj
 ·rw [hf.frozen (Nat.lt_of_lt_of_le h.lf hb) n2];exact h.zf j hj
 ·rw [hf.frozen (Nat.lt_of_lt_of_le h.le hb) n3];exact h.ze j hj
theorem HgS.below (h:HgS w B vb fb eb n S) (hb:Below w.heap.size w w'):HgS w' B vb fb eb n S:=h.fr (Fr.of_below [] hb) (by simp)
theorem HgS.set (h:HgS w B vb fb eb n S) {j:Nat} (hj:j<n) (v:Int) (f:List Int) (r:Value) (hr:RdZ w r f) (hp:Np r) (hg:∀ g,r.ownBlock=some g->B<=g) :
  HgS (((w.setCell ⟨eb,j,none⟩ (.bool true)).setCell ⟨vb,j,none⟩ (.int .i64 v)).setCell ⟨fb,j,none⟩ r) B vb fb eb n (S.set j (some (v,f))):=by
 have vf:=h.vf;have ve:=h.ve;have fe:=h.fe;have lv:=h.lv;have lf:=h.lf;have le:=h.le;have hjS:j<S.length:=by rw [h.len];exact hj
 have frA:Fr [eb,vb,fb] w (((w.setCell ⟨eb,j,none⟩ (.bool true)).setCell ⟨vb,j,none⟩ (.int .i64 v)).setCell ⟨fb,j,none⟩ r) :=
  ((Fr.of_grown (zAL _ _ _ _) (λk e=>by cases e;simp)).trans (Fr.of_grown (zAL _ _ _ _) (λk e=>by cases e;simp))).trans (Fr.of_grown (zAL _ _ _ _) (λk e=>by cases e;simp))
 have cE:∀ i,i ≠ j->(((w.setCell ⟨eb,j,none⟩ (.bool true)).setCell ⟨vb,j,none⟩ (.int .i64 v)).setCell ⟨fb,j,none⟩ r).cell? ⟨eb,i,none⟩=w.cell? ⟨eb,i,none⟩:=λi hi=>by
  rw [World.cell?_setCell_far _ _ _ _ (by exact fe),World.cell?_setCell_far _ _ _ _ (by exact ve),zAP _ _ _ (λe=>hi e.symm)]
 have cV:∀ i,i ≠ j->(((w.setCell ⟨eb,j,none⟩ (.bool true)).setCell ⟨vb,j,none⟩ (.int .i64 v)).setCell ⟨fb,j,none⟩ r).cell? ⟨vb,i,none⟩=w.cell? ⟨vb,i,none⟩:=λi hi=>by
  rw [World.cell?_setCell_far _ _ _ _ (by exact λe=>vf e.symm),zAP _ _ _ (λe=>hi e.symm),World.cell?_setCell_far _ _ _ _ (by exact λe=>ve e.symm)]
 have cF:∀ i,i ≠ j->(((w.setCell ⟨eb,j,none⟩ (.bool true)).setCell ⟨vb,j,none⟩ (.int .i64 v)).setCell ⟨fb,j,none⟩ r).cell? ⟨fb,i,none⟩=w.cell? ⟨fb,i,none⟩:=λi hi=>by
  rw [zAP _ _ _ (λe=>hi e.symm),World.cell?_setCell_far _ _ _ _ (by exact vf),World.cell?_setCell_far _ _ _ _ (by exact λe=>fe e.symm)]
 have jE:(((w.setCell ⟨eb,j,none⟩ (.bool true)).setCell ⟨vb,j,none⟩ (.int .i64 v)).setCell ⟨fb,j,none⟩ r).cell? ⟨eb,j,none⟩=some (.bool true):=by
  rw [World.cell?_setCell_far _ _ _ _ (by exact fe),World.cell?_setCell_far _ _ _ _ (by exact ve)];exact zAQ (h.bn j hj) _
 have jV:(((w.setCell ⟨eb,j,none⟩ (.bool true)).setCell ⟨vb,j,none⟩ (.int .i64 v)).setCell ⟨fb,j,none⟩ r).cell? ⟨vb,j,none⟩=some (.int .i64 v):=by
  obtain ⟨x,hx⟩:=h.vt j hj;rw [World.cell?_setCell_far _ _ _ _ (by exact λe=>vf e.symm)];exact zAQ (by rw [World.cell?_setCell_far _ _ _ _ (by exact λe=>ve e.symm)];exact hx) _
 have jF:(((w.setCell ⟨eb,j,none⟩ (.bool true)).setCell ⟨vb,j,none⟩ (.int .i64 v)).setCell ⟨fb,j,none⟩ r).cell? ⟨fb,j,none⟩=some r:=by
  obtain ⟨x,hx⟩:=h.ft j hj;exact zAQ (by rw [World.cell?_setCell_far _ _ _ _ (by exact vf),World.cell?_setCell_far _ _ _ _ (by exact λe=>fe e.symm)];exact hx) _
 refine ⟨by rw [List.length_set];exact h.len,λi hi=>?_,λi hi=>?_,λi u k e=>?_,λi hi=>?_,λi u k e=>?_,λi hi=>?_,λi hi=>?_,λi hi=>?_,lv,lf,le,Nat.le_trans h.hb frA.size,vf,ve,fe⟩
 ·rw [Wc.getD_set S j i _ hjS];by_cases q:j=i
  ·subst q;rw [if_pos rfl];exact jE
  ·rw [if_neg q,cE i (λe=>q e.symm)];exact h.bn i hi
 ·by_cases q:j=i
  ·subst q;exact ⟨v,jV⟩
  ·rw [cV i (λe=>q e.symm)];exact h.vt i hi
 ·rw [Wc.getD_set S j i _ hjS] at e;by_cases q:j=i
  ·subst q;rw [if_pos rfl] at e;cases e;exact jV
  ·rw [if_neg q] at e;rw [cV i (λe=>q e.symm)];exact h.vl i u k e
 ·by_cases q:j=i
  ·subst q;exact ⟨r,jF⟩
  ·rw [cF i (λe=>q e.symm)];exact h.ft i hi
 ·rw [Wc.getD_set S j i _ hjS] at e;have nt:∀ {x:Value},(∀ g,x.ownBlock=some g->B<=g)->∀ g,x.ownBlock=some g->g ∉ [eb,vb,fb]:=λhx g e2=>by have:=hx g e2;simp;omega
  by_cases q:j=i
  ·subst q;rw [if_pos rfl] at e;cases e
   exact ⟨r,jF,zCQ hr frA (λ_=>nt hg),hp,hg⟩
  ·rw [if_neg q] at e;obtain ⟨x,h1,h2,h3,h4⟩:=h.fd i u k e;exact ⟨x,by rw [cF i (λe=>q e.symm)];exact h1,zCQ h2 frA (λ_=>nt h4),h3,h4⟩
 ·rw [World.frozen?_setCell,World.frozen?_setCell,World.frozen?_setCell];exact h.zv i hi
 ·rw [World.frozen?_setCell,World.frozen?_setCell,World.frozen?_setCell];exact h.zf i hi
 ·rw [World.frozen?_setCell,World.frozen?_setCell,World.frozen?_setCell];exact h.ze i hi
def RInv (i:Nat) (S:Wc.RS):Prop:=∀ (j:Nat) (v:Int) (f:List Int),S.getD j none=some (v,f)->0<=v/\v<=(i:Int)/\f.length<=i
theorem RInv.mono {k:Nat} (h:RInv i S) (hk:i<=k):RInv k S:=λj v f e=>by
 obtain ⟨a,b,c⟩:=h j v f e;exact ⟨a,by omega,by omega⟩
theorem RInv.set (h:RInv i S) (hj:j<S.length) {v:Int} {f:List Int} (h1:0<=v) (h2:v<=(i:Int)) (h3:f.length<=i):RInv i (S.set j (some (v,f))):=λk u g e=>by
 rw [Wc.getD_set S j k _ hj] at e;by_cases q:j=k
 ·rw [if_pos q] at e;cases e;exact ⟨h1,h2,h3⟩
 ·rw [if_neg q] at e;exact h k u g e
theorem zL1 (n:Nat) (hn:0<n):RInv 0 (Wc.sR n):=λj v f e=>by
 unfold Wc.sR at e;rw [Wc.getD_set _ 0 j _ (by simpa using hn)] at e;split at e
 ·cases e;exact ⟨Int.le_refl _,Int.le_refl _,Nat.le_refl _⟩
 ·rw [List.getD_eq_getElem?_getD,List.getElem?_replicate] at e;split at e <;> cases e
theorem zHo (o a:Int) (f:List Int):(Wc.fldR o a f).length<=f.length+1:=by
 unfold Wc.fldR;split
 ·simp
 ·split
  ·simp;omega
  ·omega
def zBM (o:Int) (k m:Nat):Bool:=((o == 12 || o == 15) && k+1 == m) || (o == 14 && k == 0)
def ahF (y:Wc.In) (tl:List Int) (i:Nat) (v:Int) (f:List Int):List (Int × (Int × List Int)):=(Wc.ahd y.op y.a y.b tl i v (Wc.nds y.op y.b).2.2).map λp=>(p.1,(p.2,Wc.fldR y.op y.a f))
theorem zI9 (o a b:Int) (tl:List Int) (i v dv v2 dv2:Int):(Wc.ahd o a b tl i v dv).map (·.1)=(Wc.ahd o a b tl i v2 dv2).map (·.1):=by
 unfold Wc.ahd;repeat' split
 all_goals simp [Function.comp_def]
theorem zFS (y:Wc.In) (tl:List Int) (i:Nat) (v:Int) (f:List Int):(ahF y tl i v f).map (·.1)=aP y tl i:=by
 unfold ahF aP;rw [List.map_map,<-zI9 y.op y.a y.b tl i v (Wc.nds y.op y.b).2.2 0 0];rfl
theorem zBv (y:Wc.In) (tl:List Int) (i:Nat) (v:Int) (f:List Int):(ahF y tl i v f).length=(aP y tl i).length:=by
 rw [<-zFS y tl i v f,List.length_map]
theorem zI2 (o a b:Int) (tl:List Int) (i v dv:Int) (k:Nat) (hk:k<(Wc.ahd o a b tl i v dv).length):((Wc.ahd o a b tl i v dv)[k]).2=if zBM o k (Wc.ahd o a b tl i v dv).length=true then v else v+dv:=by
 by_cases h16:o=16
 ·subst h16;simp [Wc.ahd] at hk
 ·by_cases h12:o=12
  ·subst h12;have e:Wc.ahd 12 a b tl i v dv=[(i+1,v+dv),(a,v+dv),(b,v)]:=by simp [Wc.ahd]
   simp only [e] at hk ⊢;have:k=0 \/ k=1 \/ k=2:=by simp at hk;omega
   rcases this with rfl | rfl | rfl <;> simp [zBM]
  ·by_cases h13:o=13
   ·subst h13;have e:Wc.ahd 13 a b tl i v dv=[(a,v+dv)]:=by simp [Wc.ahd]
    simp only [e] at hk ⊢;have:k=0:=by simp at hk;omega
    subst this;simp [zBM]
   ·by_cases h14:o=14
    ·subst h14;have e:Wc.ahd 14 a b tl i v dv=[(a,v),(i+1,v+dv)]:=by simp [Wc.ahd]
     simp only [e] at hk ⊢;have:k=0 \/ k=1:=by simp at hk;omega
     rcases this with rfl | rfl <;> simp [zBM]
    ·by_cases h15:o=15
     ·subst h15;have e:Wc.ahd 15 a b tl i v dv=tl.map (λj=>(j,v+dv))++[(b,v)]:=by simp [Wc.ahd]
      simp only [e] at hk ⊢;simp only [List.length_append,List.length_map,List.length_cons,List.length_nil] at hk ⊢;by_cases hkl:k<tl.length
      ·rw [List.getElem_append_left (by simpa using hkl)];have:¬ (k+1=tl.length+0+1):=by omega
       simp [zBM];omega
      ·have:k=tl.length:=by omega
       subst this;rw [List.getElem_append_right (by simp)];simp [zBM]
     ·have e:Wc.ahd o a b tl i v dv=[(i+1,v+dv)]:=by simp [Wc.ahd,h16,h12,h13,h14,h15]
      simp only [e] at hk ⊢;have:k=0:=by simp at hk;omega
      subst this;simp [zBM,h12,h14,h15]
theorem zIY (y:Wc.In) (tl:List Int) (i:Nat) (v:Int) (f:List Int) (k:Nat) (hk:k<(aP y tl i).length):(ahF y tl i v f).drop k=((aP y tl i)[k],((if zBM y.op k (aP y tl i).length=true then v else v+(Wc.nds y.op y.b).2.2),Wc.fldR y.op y.a f))::(ahF y tl i v f).drop (k+1):=by
 have hl:k<(ahF y tl i v f).length:=by rw [zBv];exact hk
 rw [List.drop_eq_getElem_cons hl];congr 1
 have h1:((ahF y tl i v f)[k]).1=(aP y tl i)[k]:=by
  have e:=zFS y tl i v f;have:((ahF y tl i v f).map (·.1))[k]'(by rw [List.length_map];exact hl)=(aP y tl i)[k]:=by simp only [e]
  rw [<-this,List.getElem_map]
 have hl2:k<(Wc.ahd y.op y.a y.b tl i v (Wc.nds y.op y.b).2.2).length:=by simpa [ahF] using hl
 have h2:=zI2 y.op y.a y.b tl i v (Wc.nds y.op y.b).2.2 k hl2;have hle:(Wc.ahd y.op y.a y.b tl i v (Wc.nds y.op y.b).2.2).length=(aP y tl i).length:=by rw [<-zBv y tl i v f];simp [ahF]
 rw [hle] at h2;have h3:(ahF y tl i v f)[k]=(((Wc.ahd y.op y.a y.b tl i v (Wc.nds y.op y.b).2.2)[k]).1,(((Wc.ahd y.op y.a y.b tl i v (Wc.nds y.op y.b).2.2)[k]).2,Wc.fldR y.op y.a f)):=by simp [ahF]
 rw [h3] at h1 ⊢;simp only at h1;rw [h1,h2]
theorem zE7 {y:Wc.In} {v:Int} {f:List Int} (hg:S.getD i none=some (v,f)) (hs:Wc.stand n i y.op y.b v f=true):Wc.stepR n i y.op y.a y.b tl S=Wc.handR n i (ahF y tl i v f) S:=by
 unfold Wc.stepR;rw [hg];simp only [hs,if_true];rfl
theorem zKl {x:Wc.In} (h:rgt x tl=true):(x.op=5 \/ x.op=11->0<=x.b/\x.b<=1000)/\(∀ v:Int,(Wc.nds x.op x.b).1<=v->0<=v->0<=v+(Wc.nds x.op x.b).2.2)/\(Wc.nds x.op x.b).2.2<=1 /\ -1000<=(Wc.nds x.op x.b).2.2/\0<=(Wc.nds x.op x.b).1/\0<=(Wc.nds x.op x.b).2.1:=by
 have hs:=zJx h;have hb:x.op=5 \/ x.op=11->0<=x.b/\x.b<=1000:=by
  intro q;have e:(Wc.swO x.op x.b).1=x.b:=by rcases q with q | q <;> (rw [q];rfl)
  rw [e] at hs;exact ⟨hs.1,hs.2.1⟩
 refine ⟨hb,?_⟩;clear hs h;unfold Wc.nds;repeat' split
 all_goals first
  | (rename_i q;have:=hb q;refine ⟨λv _ _=>?_,?_,?_,?_,?_⟩ <;> simp only at * <;> omega)
  | (refine ⟨λv _ _=>?_,?_,?_,?_,?_⟩ <;> simp only at * <;> omega)
