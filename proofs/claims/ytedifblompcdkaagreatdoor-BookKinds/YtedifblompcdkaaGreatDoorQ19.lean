/- KSiteB, KPush, KEn, KFeed. -/
import Derived.Test.YtedifblompcdkaaGreatDoorQ18
set_option maxHeartbeats 1600000
set_option maxRecDepth 100000
namespace Go.Proofs.YtedifblompcdkaaGreatDoor
open Tryz
open Go.RowKit Wf
set_option linter.unusedVariables false
variable {w w' w1:World} {k B m2 cap2 hi:Nat} {T:Nat->Nat} {ops:Array Oper} {rest:List Oper} {op:Oper} {a:Act} {Q:Exit->Act->World->Prop} {s0 s1 lv:Value} {L:List Wf.I} {own:Int} {nm:List ByteArray} {av2:Option Addr}
theorem zF6 (own:Int) (nm:List ByteArray) (av:Option Addr) (m cap:Nat) (r:Wt.Rf) (w:World) (hm:m=nm.length) (hl:nm.length<=16) (hR:RdS w av nm):CR 133 #[zCc own av m cap,.agg (rf5 r).toArray] w (.agg #[.int .i64 (shN own nm r.s),.int .i64 r.r,.int .i64 r.c]):=by
 have SH:=λ(W:World) (h:RdS W av nm)=>zCw own nm r.s av m cap W hm hl h
 generalize shN own nm r.s=sn at *;have hB:=zAH (zAH (zAH (Below.refl _ w) (.cells #[.int .i64 own,.slice av m cap] 184)) (.cells #[.string r.s,.int .i64 r.r,.int .i64 r.c,.bool r.fr,.bool r.fc] 100)) (.cells #[.int .i64 0,.int .i64 0,.int .i64 0] 24);have pS:=((AtL.new0 w 184 [.int .i64 own,.slice av m cap]).alloc (.cells #[.string r.s,.int .i64 r.r,.int .i64 r.c,.bool r.fr,.bool r.fc] 100)).alloc (.cells #[.int .i64 0,.int .i64 0,.int .i64 0] 24);have pR:=(AtL.new1 w (.cells #[.int .i64 own,.slice av m cap] 184) 100 [.string r.s,.int .i64 r.r,.int .i64 r.c,.bool r.fr,.bool r.fc]).alloc (.cells #[.int .i64 0,.int .i64 0,.int .i64 0] 24);have pC:AtL (((w.alloc (.cells #[.int .i64 own,.slice av m cap] 184)).alloc (.cells #[.string r.s,.int .i64 r.r,.int .i64 r.c,.bool r.fr,.bool r.fc] 100)).alloc (.cells #[.int .i64 0,.int .i64 0,.int .i64 0] 24)) (w.heap.size+2) [.int .i64 0,.int .i64 0,.int .i64 0]:=AtL.new _ _ (by simp) _;have HR3:Hid (RdS (((w.alloc (.cells #[.int .i64 own,.slice av m cap] 184)).alloc (.cells #[.string r.s,.int .i64 r.r,.int .i64 r.c,.bool r.fr,.bool r.fc] 100)).alloc (.cells #[.int .i64 0,.int .i64 0,.int .i64 0] 24)) av nm):=hR.below hB;clear hm hl hR;unfold rf5;go_enter func133,ntmps133;go_upto_region 1 with fail
 generalize (((w.alloc (.cells #[.int .i64 own,.slice av m cap] 184)).alloc (.cells #[.string r.s,.int .i64 r.r,.int .i64 r.c,.bool r.fr,.bool r.fc] 100)).alloc (.cells #[.int .i64 0,.int .i64 0,.int .i64 0] 24))=W3 at *;have rb:=(Below.refl W3.heap.size W3).drew;have pS1:=AtL.below rb pS;have pR1:=AtL.below rb pR;have pC1:=AtL.below rb pC;have hB1:=zAA hB rb;have HRD:Hid (RdS W3.drew av nm):=HR3.out.below rb;have s0:=pS1.2.1 0 _ rfl;have s1:=pS1.2.1 1 _ rfl;have r0:=pR1.2.1 0 _ rfl;have r1:=pR1.2.1 1 _ rfl;have r2:=pR1.2.1 2 _ rfl;clear rb pS pR pC pS1 pR1 hB HR3;refine wp_region_held_drew (S:=λW=>W.cell? ⟨w.heap.size,0,none⟩=some (.int .i64 own)/\W.cell? ⟨w.heap.size,1,none⟩=some (.slice av m cap)/\W.cell? ⟨w.heap.size+1,0,none⟩=some (.string r.s)/\W.cell? ⟨w.heap.size+1,1,none⟩=some (.int .i64 r.r)/\W.cell? ⟨w.heap.size+1,2,none⟩=some (.int .i64 r.c)) (by kernel_rfl) ⟨s0,s1,r0,r1,r2⟩ (λhHeld=>?_);generalize W3.drew=WD at *;refine tkQ 0 ?_
 refine tkQ 1 ?_
 refine tkQ 2 ?_
 refine tkQ 4 ?_
 refine tkQ 5 ?_
 refine tkQ 6 ?_
 refine tkQ 7 ?_
 refine rdQ 3 (λK hK=>?_);go_simp
 refine (SH WD HRD.out).mono ?_;rintro e w6 ⟨rfl,hb6⟩;go_wp2_with fail
 refine hkQ hK ⟨zAC hb6 s0,zAC hb6 s1,zAC hb6 r0,zAC hb6 r1,zAC hb6 r2⟩ (λhHeld=>?_);clear hK K
 have hB6:=zAA hB1 hb6;have pC6:=AtL.below hb6 pC1;refine tkQ 8 ?_
 have k0:=pC6.2.1 0 _ rfl;have k1:=pC6.2.1 1 _ rfl;have k2:=pC6.2.1 2 _ rfl;have z0:=pC6.2.2 0 (by simp);have z1:=pC6.2.2 1 (by simp);have z2:=pC6.2.2 2 (by simp);refine rdQ 9 (λK hK=>?_);go_simp
 have fr:Fr [w.heap.size+2] w6 (((w6.setCell ⟨w.heap.size+2,0,none⟩ (.int .i64 sn)).setCell ⟨w.heap.size+2,1,none⟩ (.int .i64 r.r)).setCell ⟨w.heap.size+2,2,none⟩ (.int .i64 r.c)):=zEE;have pF:AtL (w6.setCells (w.heap.size+2) 0 [.int .i64 sn,.int .i64 r.r,.int .i64 r.c]) (w.heap.size+2) [.int .i64 sn,.int .i64 r.r,.int .i64 r.c]:=pC6.setAll rfl;have HPF:Hid ((((w6.setCell ⟨w.heap.size+2,0,none⟩ (.int .i64 sn)).setCell ⟨w.heap.size+2,1,none⟩ (.int .i64 r.r)).setCell ⟨w.heap.size+2,2,none⟩ (.int .i64 r.c)).rangeAt (w.heap.size+2) 0 [.int .i64 sn,.int .i64 r.r,.int .i64 r.c]):=pF.range;have HBF:Hid (Below w.heap.size w (((w6.setCell ⟨w.heap.size+2,0,none⟩ (.int .i64 sn)).setCell ⟨w.heap.size+2,1,none⟩ (.int .i64 r.r)).setCell ⟨w.heap.size+2,2,none⟩ (.int .i64 r.c))):=zDL hB6 fr (λk hk=>by simp at hk;omega);refine hkQ hK ⟨fr.cell (zAC hb6 s0) (by simp),fr.cell (zAC hb6 s1) (by simp),fr.cell (zAC hb6 r0) (by simp),fr.cell (zAC hb6 r1) (by simp),fr.cell (zAC hb6 r2) (by simp)⟩ (λhHeld=>?_);clear hK K
 refine wpAnyH_done (by kernel_rfl) ?_ _;clear hHeld fr pF k0 k1 k2 z0 z1 z2 pC6 pC1 hB6 hB1 hb6 s0 s1 r0 r1 r2;generalize (((w6.setCell ⟨w.heap.size+2,0,none⟩ (.int .i64 sn)).setCell ⟨w.heap.size+2,1,none⟩ (.int .i64 r.r)).setCell ⟨w.heap.size+2,2,none⟩ (.int .i64 r.c))=WF at *;go_wp2;refine bodyPost_ret (zA2 (by rfl) _ _ (w.heap.size+2) [.int .i64 sn,.int .i64 r.r,.int .i64 r.c] _ (by rfl) HPF.out underlying24 rfl (by kernel_rfl)) rfl ⟨rfl,HBF.out⟩
theorem zED (own:Int) (nm:List ByteArray) (av:Option Addr) (m cap:Nat) (x:Wt.Nd) (w:World) (hx:RtN x) (hm:m=nm.length) (hl:nm.length<=16) (hR:RdS w av nm):CR 179 #[zCc own av m cap,.agg (zAK x).toArray] w (.agg (ar5 (zAc own nm x)).toArray):=by
 have HSH:Hid (∀ (W:World),RdS W av nm->Calls prog 158 #[zCc own av m cap,.string x.a.s] W λe w'=>e=.returned (.int .i64 (shN own nm x.a.s))/\Below W.heap.size W w'):=λW h=>zCw own nm x.a.s av m cap W hm hl h
 have RE:=λW=>zEL x W hx
 have har:zAc own nm x = {zCC x with s:=shN own nm x.a.s}:=rfl;rw [har];generalize shN own nm x.a.s=sn at *;generalize zCC x=rc at *;have hB:=zAH (zAH (zAH (Below.refl _ w) (.cells #[.int .i64 own,.slice av m cap] 184)) (.cells (zAK x).toArray 102)) (.cells #[.int .i64 0,.int .i64 0,.int .i64 0,.int .i64 0,.int .i64 0] 64);have pS:=((AtL.new0 w 184 [.int .i64 own,.slice av m cap]).alloc (.cells (zAK x).toArray 102)).alloc (.cells #[.int .i64 0,.int .i64 0,.int .i64 0,.int .i64 0,.int .i64 0] 64);have pN:=(AtL.new1 w (.cells #[.int .i64 own,.slice av m cap] 184) 102 (zAK x)).alloc (.cells #[.int .i64 0,.int .i64 0,.int .i64 0,.int .i64 0,.int .i64 0] 64);have pA:AtL (((w.alloc (.cells #[.int .i64 own,.slice av m cap] 184)).alloc (.cells (zAK x).toArray 102)).alloc (.cells #[.int .i64 0,.int .i64 0,.int .i64 0,.int .i64 0,.int .i64 0] 64)) (w.heap.size+2) [.int .i64 0,.int .i64 0,.int .i64 0,.int .i64 0,.int .i64 0]:=AtL.new _ _ (by simp) _;have HR3:Hid (RdS (((w.alloc (.cells #[.int .i64 own,.slice av m cap] 184)).alloc (.cells (zAK x).toArray 102)).alloc (.cells #[.int .i64 0,.int .i64 0,.int .i64 0,.int .i64 0,.int .i64 0] 64)) av nm):=hR.below hB;clear hm hl hR hx har;go_enter func179,ntmps179;go_upto_region 1 with fail
 generalize (((w.alloc (.cells #[.int .i64 own,.slice av m cap] 184)).alloc (.cells (zAK x).toArray 102)).alloc (.cells #[.int .i64 0,.int .i64 0,.int .i64 0,.int .i64 0,.int .i64 0] 64))=W3 at *;have rN:=pN.range;go_wp2_with (first | (refine zAB (by rfl) 102 (.tmp 3) rfl (w.heap.size+1) 0 rfl (zAK x) _ rN underlying102 rfl (by kernel_rfl) ?_))
 refine (RE _).mono ?_;rintro e w1 ⟨rfl,hb1⟩;replace hB:=zAA hB hb1
 replace pS:=AtL.below hb1 pS
 replace pN:=AtL.below hb1 pN
 replace pA:=AtL.below hb1 pA
 have HR4:Hid (RdS w1 av nm):=HR3.out.below hb1;have HW1:Hid (w.heap.size<=w1.heap.size/\w.heap.size+2<w1.heap.size):=⟨hB.size,pA.lt⟩
 clear RE rN hb1 HR3;have hb2:=zAH (Below.refl _ w1) (.cells (ar5 rc).toArray 64);have pR:=AtL.new0 w1 64 (ar5 rc);replace hB:=zAA hB hb2
 replace pS:=AtL.below hb2 pS
 replace pN:=AtL.below hb2 pN
 replace pA:=AtL.below hb2 pA
 have HR5:Hid (RdS (w1.alloc (.cells (ar5 rc).toArray 64)) av nm):=HR4.out.below hb2;clear hb2 HR4;go_upto_region 2 with fail
 generalize (w1.alloc (.cells (ar5 rc).toArray 64))=W4 at *;obtain ⟨rb,hrb⟩:∃ k,w1.heap.size=k:=⟨_,rfl⟩
 rw [hrb] at pR HW1;simp only [hrb];clear hrb;have s0:=pS.2.1 0 _ rfl;have s1:=pS.2.1 1 _ rfl;have n10:=pN.2.1 10 (.string x.a.s) rfl;have SH:=HSH.out W4 HR5.out;go_wp2_with fail
 refine SH.mono ?_;rintro e w5 ⟨rfl,hb5⟩;replace hB:=zAA hB hb5
 replace pA:=AtL.below hb5 pA
 replace pR:=AtL.below hb5 pR
 clear SH s0 s1 n10 pS pN hb5 HR5 HSH;obtain ⟨b0,b1,b2,b3,b4,k0,k1,k2,k3,k4⟩:=pA.five;obtain ⟨r0,r1,r2,r3,r4,q0,_,_,_,_⟩:=pR.five;have hne:¬ rb=w.heap.size+2:=by have:=HW1.out;omega
 have hne2:¬ w.heap.size+2=rb:=by have:=HW1.out;omega
 have hle:=HW1.out.1;go_wp2;refine bodyPost_ret (v:=.agg (ar5 {rc with s:=sn}).toArray) (by simp [results,results179,go_sem,b0,b1,b2,b3,b4]) rfl ⟨rfl,(clB hB)⟩
theorem zRm (o:Int) (w:World):(Instr.build 67 #[(0,.int .i64 o)]).run prog w=.ok (.agg (zAM (ins o 0 0).1 zAV).toArray) w:=by kernel_rfl
theorem zRj (o a:Int) (w:World):(Instr.build 67 #[(0,.int .i64 o),(1,.int .i64 a)]).run prog w=.ok (.agg (zAM (ins o a 0).1 zAV).toArray) w:=by kernel_rfl
theorem zR5 (o a b:Int) (w:World):(Instr.build 67 #[(0,.int .i64 o),(1,.int .i64 a),(2,.int .i64 b)]).run prog w=.ok (.agg (zAM (ins o a b).1 zAV).toArray) w:=by kernel_rfl
theorem zRf (v:Wt.Vl) (w:World):(Instr.build 67 #[(0,.int .i64 1),(3,.agg (vl6 v).toArray)]).run prog w=.ok (.agg (zAM (zCQ v).1 zAV).toArray) w:=by kernel_rfl
theorem zR9 (c:Wpl.Cl) (w:World):(Instr.build 67 #[(0,.int .i64 2),(4,.agg #[.int .i64 c.s,.int .i64 c.r,.int .i64 c.c])]).run prog w=.ok (.agg (zAM (zPK c).1 zAV).toArray) w:=by kernel_rfl
theorem zRW (a:Wpl.Ar) (w:World):(Instr.build 67 #[(0,.int .i64 8),(5,.agg (ar5 a).toArray)]).run prog w=.ok (.agg (zAM (zCI 8 0 a a0I).1 zAV).toArray) w:=by kernel_rfl
theorem zRt (a b:Wpl.Ar) (w:World):(Instr.build 67 #[(0,.int .i64 9),(5,.agg (ar5 a).toArray),(6,.agg (ar5 b).toArray)]).run prog w=.ok (.agg (zAM (zCI 9 0 a b).1 zAV).toArray) w:=by kernel_rfl
theorem zRn (a:Wpl.Ar) (b:Int) (w:World):(Instr.build 67 #[(0,.int .i64 11),(5,.agg (ar5 a).toArray),(2,.int .i64 b)]).run prog w=.ok (.agg (zAM (zCI 11 b a a0I).1 zAV).toArray) w:=by kernel_rfl
theorem zAb (hgd:op.guard=none) (o:Int) (ho:op.op=.build 67 #[(0,.const (.int .i64 o))])
  (h:wpList prog ops Q rest (a.put op.dst (.agg (zAM (ins o 0 0).1 zAV).toArray)) w):wpList prog ops Q (op::rest) a w:=by
 refine wpList_plain hgd λK hK=>?_
 unfold Oper.wp execOp;have hv:a.eval (.const (.int .i64 o))=.int .i64 o:=rfl;simp only [ho,List.map_toArray,List.map_cons,List.map_nil,hv,Sem.run_bind,Sem.run_pure,Result.andThen_ok,zRm];exact hK _ _ h
theorem zB1 (hgd:op.guard=none) (o:Int) (y:Operand) (ho:op.op=.build 67 #[(0,.const (.int .i64 o)),(1,y)]) (v:Int) (hy:a.eval y=.int .i64 v)
  (h:wpList prog ops Q rest (a.put op.dst (.agg (zAM (ins o v 0).1 zAV).toArray)) w):wpList prog ops Q (op::rest) a w:=by
 refine wpList_plain hgd λK hK=>?_
 unfold Oper.wp execOp;have hv:a.eval (.const (.int .i64 o))=.int .i64 o:=rfl;simp only [ho,List.map_toArray,List.map_cons,List.map_nil,hv,hy,Sem.run_bind,Sem.run_pure,Result.andThen_ok,zRj];exact hK _ _ h
theorem zF5 (hgd:op.guard=none) (o:Int) (y z:Operand) (ho:op.op=.build 67 #[(0,.const (.int .i64 o)),(1,y),(2,z)]) (v u:Int) (hy:a.eval y=.int .i64 v) (hz:a.eval z=.int .i64 u)
  (h:wpList prog ops Q rest (a.put op.dst (.agg (zAM (ins o v u).1 zAV).toArray)) w):wpList prog ops Q (op::rest) a w:=by
 refine wpList_plain hgd λK hK=>?_
 unfold Oper.wp execOp;have hv:a.eval (.const (.int .i64 o))=.int .i64 o:=rfl;simp only [ho,List.map_toArray,List.map_cons,List.map_nil,hv,hy,hz,Sem.run_bind,Sem.run_pure,Result.andThen_ok,zR5];exact hK _ _ h
theorem zFz (hgd:op.guard=none) (y:Operand) (ho:op.op=.build 67 #[(0,.const (.int .i64 1)),(3,y)]) (v:Wt.Vl) (hy:a.eval y=.agg (vl6 v).toArray)
  (h:wpList prog ops Q rest (a.put op.dst (.agg (zAM (zCQ v).1 zAV).toArray)) w):wpList prog ops Q (op::rest) a w:=by
 refine wpList_plain hgd λK hK=>?_
 unfold Oper.wp execOp;have hv:a.eval (.const (.int .i64 1))=.int .i64 1:=rfl;simp only [ho,List.map_toArray,List.map_cons,List.map_nil,hv,hy,Sem.run_bind,Sem.run_pure,Result.andThen_ok,zRf];exact hK _ _ h
theorem WP.from (hb:Below w.heap.size w w1) {e:Ending} {w':World} (h:WP k B T s0 s1 L lv w1 e w'):WP k B T s0 s1 L lv w e w':=by
 obtain ⟨⟨lv',P',rfl,h1,h2⟩,h3⟩:=h;exact ⟨⟨lv',P',rfl,h1,λj e=>(h2 j e).imp id (Nat.le_trans hb.size)⟩,(Fr.of_below _ hb).trans h3⟩
theorem zGT (k B:Nat) (T:Nat->Nat) (v:Wt.Vl) (s0 s1:Value) (L:List I) (lv:Value) (P:List (Wc.In × Value)) (w:World) (h:WS k B T w s0 s1 L lv P) (hkB:k<B) (hB:B<=w.heap.size) (hl:L.length<=1000000) :
  Calls prog 132 #[.pointer (some ⟨k,0,none⟩),.agg (vl6 v).toArray] w (WP k B T s0 s1 (L++[zCQ v]) lv w):=by
 have hb0:=zAH (Below.refl _ w) (.cells (vl6 v).toArray 38);have pV:=AtL.new0 w 38 (vl6 v);have LA:=zAs k B T (zCQ v).1 s0 s1 L lv P _ (h.below hb0) hkB (Nat.le_trans hB hb0.size) hl;have HW:Hid (∀ e w',WP k B T s0 s1 (L++[zCQ v]) lv (w.alloc (.cells (vl6 v).toArray 38)) e w'->WP k B T s0 s1 (L++[zCQ v]) lv w e w'):=λe w' q=>q.from hb0
 have rV:=pV.range;clear h hkB hB hl hb0 pV;go_enter func132,ntmps132;go_upto_region 1 with fail
 generalize (w.alloc (.cells (vl6 v).toArray 38))=W at *;go_wp2_with (first | (refine zAB (by rfl) 38 (.tmp 3) rfl w.heap.size 0 rfl (vl6 v) _ rV underlying38 rfl (by kernel_rfl) ?_) | (refine zFz rfl (.tmp 5) rfl v rfl ?_))
 refine LA.mono ?_;rintro e w1 h1;have HF:=HW.out e w1 h1;obtain ⟨⟨lv',P',rfl,h2,h3⟩,h4⟩:=HF;clear h1 LA rV;have HR:Hid (WP k B T s0 s1 (L++[zCQ v]) lv w (.returned (.tuple #[])) w1):=⟨⟨lv',P',rfl,h2,h3⟩,h4⟩
 clear h2 h3 h4;go_wp2;go_end0
 exact HR.out
theorem zGs (k B:Nat) (T:Nat->Nat) (n:Int) (hn:0<=n/\n<=65536) (s0 s1:Value) (L:List I) (lv:Value) (P:List (Wc.In × Value)) (w:World) (h:WS k B T w s0 s1 L lv P) (hkB:k<B) (hB:B<=w.heap.size) (hl:L.length<=1000000) :
  Calls prog 182 #[.pointer (some ⟨k,0,none⟩),.int .i64 n] w (WP k B T s0 s1 (L++[zCQ (zG0 n)]) lv w):=by
 have NU:=zG7 n 1 w (by omega) (by omega) (by omega) (by omega);have hvn:zOe n 1=zG0 n:=by
  have hr:Wnum.rightB n 1=true:=by
   unfold Wnum.rightB;simp;omega
  simp [zOe,zG0,Wnum.cN,Wnum.cD,hr]
 rw [hvn] at NU;have HPU:Hid (∀ w1:World,Below w.heap.size w w1->Calls prog 132 #[.pointer (some ⟨k,0,none⟩),.agg (vl6 (zG0 n)).toArray] w1 (WP k B T s0 s1 (L++[zCQ (zG0 n)]) lv w1)):=λw1 hb=>zGT k B T (zG0 n) s0 s1 L lv P w1 (h.below hb) hkB (Nat.le_trans hB hb.size) hl
 clear h hkB hB hl hvn hn;unfold vlV at NU;go_enter func182,ntmps182;go_wp2_with fail
 refine NU.mono ?_;rintro e w1 ⟨rfl,hb1⟩;have PU:=HPU.out w1 hb1;clear NU HPU;generalize zG0 n=nv at *;go_wp2_with fail
 refine PU.mono ?_;rintro e w2 h2;have HF:=h2.from hb1
 obtain ⟨⟨lv',P',rfl,h2,h3⟩,h4⟩:=HF;have HR:Hid (WP k B T s0 s1 (L++[zCQ nv]) lv w (.returned (.tuple #[])) w2):=⟨⟨lv',P',rfl,h2,h3⟩,h4⟩
 clear h2 h3 h4 PU hb1;go_wp2;go_end0
 exact HR.out
def JP (k B:Nat) (T:Nat->Nat) (s0 s1:Value) (L:List I) (lv:Value) (w:World) (e:Ending) (w':World):Prop :=
 (∃ cl bs lv' P',e=.returned cl/\Cl k w' 203 L.length bs cl/\(∀ b ∈ bs,w.heap.size<=b/\b<w'.heap.size/\¬ lv'.ownBlock=some b)/\WS k B T w' s0 s1 (L++[ins 13 0 0]) lv' P'/\Nx w lv lv')/\Fr (k::lv.ownBlock.toList) w w'
theorem zPA (k B:Nat) (T:Nat->Nat) (s0 s1:Value) (L:List I) (lv:Value) (P:List (Wc.In × Value)) (w:World) (h:WS k B T w s0 s1 L lv P) (hkB:k<B) (hB:B<=w.heap.size) (hl:L.length<=999999) :
  Calls prog 205 #[.pointer (some ⟨k,0,none⟩)] w (JP k B T s0 s1 L lv w):=by
 have LA:=zAs k B T (ins 13 0 0).1 s0 s1 L lv P w h hkB hB (by omega);have HLL:Hid (L.length<=999999):=hl;unfold JP;clear h hkB hB hl;go_enter func205,ntmps205;go_wp2_with (first | (refine zAb rfl 13 rfl ?_))
 refine LA.mono ?_;rintro e w1 ⟨⟨lv1,P1,rfl,ws1,nx1⟩,fr1⟩;have LT:=zDO k B 203 T s0 s1 _ lv1 P1 w1 ws1 (by simp) (by have:=HLL.out;simp;omega);rw [show (L++[((ins 13 0 0).1,([]:List Int))]).length - 1=L.length from by simp] at LT;have HW:Hid (WS k B T w1 s0 s1 (L++[ins 13 0 0]) lv1 P1/\Nx w lv lv1/\Fr (k::lv.ownBlock.toList) w w1):=⟨ws1,nx1,fr1⟩
 clear LA ws1 nx1 fr1;go_wp2_with fail
 refine LT.mono ?_;rintro e w2 ⟨⟨cl,bs,rfl,hcl,hbs⟩,hb2⟩;have hsl:∃ bi bw ba,cl=.func (.func 234) #[] #[.pointer (some ⟨bi,0,none⟩),.pointer (some ⟨bw,0,none⟩),.pointer (some ⟨ba,0,none⟩)]:=by
  obtain ⟨bi,bw,ba,_,e,_⟩:=hcl;exact ⟨bi,bw,ba,e⟩
 have HR:Hid ((∃ bs lv' P',Cl k w2 203 L.length bs cl/\(∀ b ∈ bs,w.heap.size<=b/\b<w2.heap.size/\¬ lv'.ownBlock=some b)/\WS k B T w2 s0 s1 (L++[ins 13 0 0]) lv' P'/\Nx w lv lv')/\Fr (k::lv.ownBlock.toList) w w2):=by
  obtain ⟨q1,q2,q3⟩:=HW.out;refine ⟨⟨bs,lv1,P1,hcl,λb hb=>⟨Nat.le_trans q3.size (hbs b hb).1,(hbs b hb).2,λe=>?_⟩,q1.below hb2,q2⟩,q3.trans (Fr.of_below _ hb2)⟩;have:=(zAL q1.own e).2;have:=(hbs b hb).1;omega
 obtain ⟨bi,bw,ba,rfl⟩:=hsl;clear LT HW hcl hbs hb2;go_wp2;go_ret;obtain ⟨⟨bs,lv',P',r1,r2,r3,r4⟩,r5⟩:=HR.out;exact ⟨⟨_,bs,lv',P',rfl,r1,r2,r3,r4⟩,r5⟩
structure En (own:Int) (nm:List ByteArray) (av2:Option Addr) (m2 cap2 k B:Nat) (T:Nat->Nat) (hi:Nat) (w:World):Prop where
 na:NmAt w
 rs:RdS w av2 nm
 hm:m2=nm.length
 hl:nm.length<=16
 rk:∀ bb off,av2=some ⟨bb,off,none⟩->bb<k
 gk:2<k
 hk:hi<=k
 kB:k<B
 hB:B<=w.heap.size
 tl:∀ i,T i<=w.heap.size
theorem En.fr (h:En own nm av2 m2 cap2 k B T hi w) {S:List Nat} (f:Fr S w w') (hs:∀ j ∈ S,k<=j):En own nm av2 m2 cap2 k B T hi w' :=
 ⟨λj v hv=>f.cell (h.na j v hv) (λhm=>by have:=hs _ hm;have:=h.gk;omega),λi hi'=>by
  obtain ⟨bb,off,e,hc⟩:=h.rs i hi';exact ⟨bb,off,e,f.cell hc (λhm=>by have:=hs _ hm;have:=h.rk bb off e;omega)⟩,h.hm,h.hl,h.rk,h.gk,h.hk,h.kB,Nat.le_trans h.hB f.size,λi=>Nat.le_trans (h.tl i) f.size⟩
theorem En.below (h:En own nm av2 m2 cap2 k B T hi w) (hb:Below w.heap.size w w'):En own nm av2 m2 cap2 k B T hi w':=h.fr (Fr.of_below [] hb) (by simp)
theorem zOG {P:List (Wc.In × Value)} (h:WS k B T w s0 s1 L lv P) (hkB:k<B):∀ j ∈ k::lv.ownBlock.toList,k<=j:=λj hj=>by
 rcases List.mem_cons.1 hj with q | q
 ·omega
 ·have:=(zAL h.own (show lv.ownBlock=some j by simpa using q)).1;omega
theorem zEN {α:Type} (f:α->Nat->List I):∀ (l m:List α) (a:Nat),zA1 f (l++m) a=zA1 f l a++zA1 f m (a+(zA1 f l a).length)
 | [],m,a=>by simp [zA1]
 | x::l,m,a=>by
  simp only [List.cons_append,zA1,zEN f l m,List.append_assoc,List.length_append];rw [Nat.add_assoc]
theorem zDP {α:Type} (f:α->Nat->List I) (l:List α) (i:Nat) (h:i<l.length) (a:Nat):zA1 f (l.take (i+1)) a=zA1 f (l.take i) a++f l[i] (a+(zA1 f (l.take i) a).length):=by
 rw [List.take_succ_eq_append_getElem h,zEN];simp [zA1]
theorem zGP {α:Type} (f:α->Nat->List I) (l:List α) (i:Nat) (a:Nat):(zA1 f (l.take i) a).length<=(zA1 f l a).length:=by
 have h:zA1 f l a=zA1 f (l.take i++l.drop i) a:=by rw [List.take_append_drop]
 rw [h,zEN,List.length_append];omega
section
variable (own:Int) (nm:List ByteArray) (av2:Option Addr) (m2 cap2:Nat)
def Wr (n:Nat) (t:Tr n):Prop:=zDT n t/\zC8 own nm n t=0/\isA (hd n t)=false
def PtC (n:Nat):Prop:=∀ (t:Tr n) (sl:Value) (lo hi k B:Nat) (T:Nat->Nat) (w:World) (L:List I) (lv:Value) (P:List (Wc.In × Value)),Wr own nm n t->PA n lo hi w t sl->En own nm av2 m2 cap2 k B T hi w->WS k B T w (.int .i64 own) (.slice av2 m2 cap2) L lv P->L.length+(cod own nm n t L.length).length<=900000 ->
 Calls prog 102 #[.pointer (some ⟨k,0,none⟩),.agg (zAI (hd n t) sl).toArray] w (WP k B T (.int .i64 own) (.slice av2 m2 cap2) (L++cod own nm n t L.length) lv w)
def AlC (n:Nat):Prop:=∀ (ps:List (Tr n × Value)) (av:Option Addr) (m cap lo hi k B:Nat) (T:Nat->Nat) (w:World) (L:List I) (lv:Value) (P:List (Wc.In × Value)),m=ps.length->ps.length<=30->(∀ p ∈ ps,Wr own nm n p.1)->(∀ p ∈ ps,PA n lo hi w p.1 p.2)->RdQ w av (ps.map λp=>(hd n p.1,p.2))->(0<ps.length->∀ bb off,av=some ⟨bb,off,none⟩->∀ j,lv.ownBlock=some j->bb ≠ j)->(0<ps.length->∀ bb off,av=some ⟨bb,off,none⟩->bb ≠ k/\bb<w.heap.size)->En own nm av2 m2 cap2 k B T hi w->WS k B T w (.int .i64 own) (.slice av2 m2 cap2) L lv P->L.length+(zA1 (cod own nm n) (ps.map (·.1)) L.length).length<=900000 ->
 Calls prog 134 #[.pointer (some ⟨k,0,none⟩),.slice av m cap] w (WP k B T (.int .i64 own) (.slice av2 m2 cap2) (L++zA1 (cod own nm n) (ps.map (·.1)) L.length) lv w)
end
theorem zGp (own:Int) (nm:List ByteArray) (av2:Option Addr) (m2 cap2 n:Nat) (ih:PtC own nm av2 m2 cap2 n):AlC own nm av2 m2 cap2 n:=by
 intro ps av m cap lo hi k B T w L lv P hm hl hw hpa hrd hav havk hen hws hbd;have HM:Hid (m=ps.length/\ps.length<=30):=⟨hm,hl⟩
 have HW:Hid (∀ p ∈ ps,Wr own nm n p.1):=hw;have HPA:Hid (∀ p ∈ ps,PA n lo hi w p.1 p.2):=hpa;have HRD:Hid (RdQ w av (ps.map λp=>(hd n p.1,p.2))):=hrd;have HAV:Hid ((0<ps.length->∀ bb off,av=some ⟨bb,off,none⟩->∀ j,lv.ownBlock=some j->bb ≠ j)/\(0<ps.length->∀ bb off,av=some ⟨bb,off,none⟩->bb ≠ k/\bb<w.heap.size)):=⟨hav,havk⟩
 have HEN:Hid (En own nm av2 m2 cap2 k B T hi w):=hen;have HBD:Hid (L.length+(zA1 (cod own nm n) (ps.map (·.1)) L.length).length<=900000):=hbd;have HIH:Hid (PtC own nm av2 m2 cap2 n):=ih;have HGE:Hid (∀ j ∈ k::lv.ownBlock.toList,k<=j):=zOG hws hen.kB;have HW0:Hid (WS k B T w (.int .i64 own) (.slice av2 m2 cap2) (L++zA1 (cod own nm n) ((ps.map (·.1)).take 0) L.length) lv P):=by show WS _ _ _ _ _ _ _ _ _;simpa [zA1] using hws
 obtain ⟨LF,hLF⟩:∃ LF,L++zA1 (cod own nm n) (ps.map (·.1)) L.length=LF:=⟨_,rfl⟩
 rw [hLF];have HLF:Hid (L++zA1 (cod own nm n) (ps.map (·.1)) L.length=LF):=hLF;clear hm hl hw hpa hrd hav havk hen hws hbd ih hLF;go_enter func134,ntmps134;go_wp2_with fail
 go_loopg [5,8] m (λgk u x wr=>∃ (i:Nat),x=.int .i64 (i:Int)/\gk=m - i/\i<=m/\Hid (∃ lvi Pi,WS k B T wr (.int .i64 own) (.slice av2 m2 cap2) (L++zA1 (cod own nm n) ((ps.map (·.1)).take i) L.length) lvi Pi/\Nx w lv lvi)/\Hid (Fr (k::lv.ownBlock.toList) w wr))
 case atStart=>exact ⟨0,rfl,rfl,Nat.zero_le _,⟨lv,P,HW0.out,Nx.refl _ _⟩,Fr.refl _ _⟩
 case round =>
  clear HW0;obtain ⟨i,rfl,hg,him,HS,HF⟩:=hrel;by_cases hlt:i<m
  ·have hli:(i:Int)<(m:Int):=by omega
   have hiz:(0:Int)<=(i:Int):=by omega
   have hwi:IntKind.i64.wrap ((i:Int)+1)=(i:Int)+1:=by have:=HM.out;rw [IntKind.wrap_i64];omega
   have hln:i<ps.length:=by have:=HM.out;omega
   obtain ⟨bb,off,rfl,hr0⟩:=HRD.out i (by simpa using hln);simp only [List.getElem_map] at hr0;have hbn:bb ∉ k::lv.ownBlock.toList:=λhm=>by
    rcases List.mem_cons.1 hm with q | q
    ·exact (HAV.out.2 (by omega) bb off rfl).1 q
    ·exact HAV.out.1 (by omega) bb off rfl bb (by simpa using q) rfl
   have hr:=HF.out.range hr0 hbn;have hpi:=List.getElem_mem hln;have hkp:Kept lo hi w wr:=Kept.of_fr HF.out (λj hj=>by have:=HGE.out j hj;have:=HEN.out.hk;omega);have hpa:=PA.kept hkp n _ _ (HPA.out _ hpi);obtain ⟨sa,sb,sc,hsl⟩:=hpa.slice;have hen:=HEN.out.fr HF.out HGE.out;obtain ⟨lvi,Pi,wsi,nxi⟩:=HS.out;have hstep:=zDP (cod own nm n) (ps.map (·.1)) i (by simpa using hln) L.length;have hle:=zGP (cod own nm n) (ps.map (·.1)) (i+1) L.length;rw [hstep,List.length_append,List.getElem_map] at hle;rw [List.getElem_map] at hstep;have PT0:=λ(W:World) (hb:Below wr.heap.size wr W)=>HIH.out (ps[i]).1 (ps[i]).2 lo hi k B T W _ lvi Pi (HW.out _ hpi) (PA.kept (Kept.of_below hb) n _ _ hpa) (hen.below hb) (wsi.below hb) (by rw [List.length_append];have:=HBD.out;omega)
   have hth:World.there (wr.alloc (.cells zeros21 188)) wr.heap.size 0 (zAI (hd n (ps[i]).1) (.slice sa sb sc)).toArray.size:=(AtL.new0 wr _ _:AtL (wr.alloc (.cells zeros21 188)) wr.heap.size zeros21.toList).there;rw [hsl] at PT0 hr;rw [List.length_append] at PT0;have HST:Hid (L++zA1 (cod own nm n) ((ps.map (·.1)).take (i+1)) L.length=(L++zA1 (cod own nm n) ((ps.map (·.1)).take i) L.length)++cod own nm n (ps[i]).1 (L.length+(zA1 (cod own nm n) ((ps.map (·.1)).take i) L.length).length)):=by show _=_;rw [hstep,List.append_assoc]
   obtain ⟨y,hy⟩:∃ y,hd n (ps[i]).1=y:=⟨_,rfl⟩
   rw [hy] at PT0 hr hth;obtain ⟨LN,hLN⟩:∃ LN,(L++zA1 (cod own nm n) ((ps.map (·.1)).take i) L.length)++cod own nm n (ps[i]).1 (L.length+(zA1 (cod own nm n) ((ps.map (·.1)).take i) L.length).length)=LN:=⟨_,rfl⟩
   rw [hLN] at PT0 HST;have HNI:Hid (Nx w lv lvi):=nxi;clear hstep hle hsl hy hLN hpa hkp hr0 hbn hpi hln nxi wsi hen HS;have HPI:Hid (AtL ((wr.alloc (.cells zeros21 188)).setCells wr.heap.size 0 (zAI y (.slice sa sb sc))) wr.heap.size (zAI y (.slice sa sb sc))):=(AtL.new0 wr _ _:AtL (wr.alloc (.cells zeros21 188)) wr.heap.size zeros21.toList).setAll rfl;have hHB:Below wr.heap.size wr ((wr.alloc (.cells zeros21 188)).setCells wr.heap.size 0 (zAI y (.slice sa sb sc))):=zBJ (zAH (Below.refl _ wr) _) (Nat.le_refl _) _ 0;have PT:=PT0 _ hHB;have HHB:Hid (Below wr.heap.size wr ((wr.alloc (.cells zeros21 188)).setCells wr.heap.size 0 (zAI y (.slice sa sb sc)))):=hHB;clear PT0 hHB;go_upto_region 3 with (first | (refine zAB (by rfl) 188 (.tmp 10) rfl bb (off+i * 21) rfl (zAI y (.slice sa sb sc)) _ hr underlying188 rfl (by kernel_rfl) ?_) | ((with_reducible refine wpList_store_mid ?_ 188 (.tmp 5) (.tmp 11) ?_ wr.heap.size 0 (zAI y (.slice sa sb sc)).toArray ?_ ?_ ?_ ?_ ?_ ?_);rfl;rfl;rfl;rfl;exact hth;kernel_rfl;exact zAn _ _ _ _))
   clear hth hr;generalize ((wr.alloc (.cells zeros21 188)).setCells wr.heap.size 0 (zAI y (.slice sa sb sc)))=W2 at *;have rI:=HPI.out.range;go_wp2_with (first | (refine zAB (by rfl) 188 (.tmp 5) rfl wr.heap.size 0 rfl (zAI y (.slice sa sb sc)) _ rI underlying188 rfl (by kernel_rfl) ?_))
   refine PT.mono ?_;rintro e w3 h3;obtain ⟨⟨lv3,P3,rfl,ws3,nx3⟩,fr3⟩:=h3.from HHB.out
   have HS3:Hid (∃ lvi Pi,WS k B T w3 (.int .i64 own) (.slice av2 m2 cap2) (L++zA1 (cod own nm n) ((ps.map (·.1)).take (i+1)) L.length) lvi Pi/\Nx w lv lvi):=by
    rw [HST.out];exact ⟨lv3,P3,ws3,HNI.out.trans nx3 HF.out.size⟩
   have HF3:Hid (Fr (k::lv.ownBlock.toList) w w3):=zMa HF.out fr3 HNI.out;clear PT rI HPI HHB h3 ws3 nx3 fr3 HNI HF HST;go_wp2_with fail
   go_roundg (m - (i+1))
   case rel=>exact ⟨i+1,by simp,rfl,hlt,HS3,HF3⟩
   case measure=>omega
  ·have hli:¬ (i:Int)<(m:Int):=by omega
   have HS2:Hid (∃ lvi Pi,WS k B T wr (.int .i64 own) (.slice av2 m2 cap2) LF lvi Pi/\Nx w lv lvi):=by
    have hie:(ps.map (·.1)).length<=i:=by have:=HM.out;simp;omega
    have:=HS.out;rw [List.take_of_length_le hie,HLF.out] at this;exact this
   have HR:Hid (WP k B T (.int .i64 own) (.slice av2 m2 cap2) LF lv w (.returned (.tuple #[])) wr):=by
    obtain ⟨lvi,Pi,r1,r2⟩:=HS2.out;exact ⟨⟨lvi,Pi,rfl,r1,r2⟩,HF.out⟩
   clear HS HS2;go_wp2;go_end0
   exact HR.out
open Go.RowKit Wf
theorem WP.then {L1 L2:List I} {lv1:Value} {w2:World} {P1:List (Wc.In × Value)} (fr1:Fr (k::lv.ownBlock.toList) w w1) (nx1:Nx w lv lv1) {e:Ending} (h:WP k B T s0 s1 L2 lv1 w1 e w2):WP k B T s0 s1 L2 lv w e w2:=by
 obtain ⟨⟨lv2,P2,e2,ws2,nx2⟩,fr2⟩:=h;exact ⟨⟨lv2,P2,e2,ws2,nx1.trans nx2 fr1.size⟩,zMa fr1 fr2 nx1⟩
theorem WP.ret {e:Ending} (h:WP k B T s0 s1 L lv w e w'):e=.returned (.tuple #[]):=by
 obtain ⟨⟨lv2,P2,e2,_⟩,_⟩:=h;exact e2
section
variable (own:Int) (nm:List ByteArray) (av2:Option Addr) (m2 cap2:Nat)
def FdC (n:Nat):Prop:=∀ (t:Tr n) (sl:Value) (lo hi k B:Nat) (T:Nat->Nat) (w:World) (L:List I) (lv:Value) (P:List (Wc.In × Value)),Wr own nm n t->PA n lo hi w t sl->En own nm av2 m2 cap2 k B T hi w->WS k B T w (.int .i64 own) (.slice av2 m2 cap2) L lv P->L.length+(zAx (cod own nm n) t L.length).length<=900000 ->
 Calls prog 180 #[.pointer (some ⟨k,0,none⟩),.agg (zAI (hd n t) sl).toArray] w (WP k B T (.int .i64 own) (.slice av2 m2 cap2) (L++zAx (cod own nm n) t L.length) lv w)
end
theorem zIZ (own:Int) (nm:List ByteArray) (av2:Option Addr) (m2 cap2 n:Nat) (ih:PtC own nm av2 m2 cap2 n):FdC own nm av2 m2 cap2 n:=by
 intro t sl lo hi k B T w L lv P hw hpa hen hws hbd;have hfl:(zAx (cod own nm n) t L.length).length=(cod own nm n t L.length).length+1:=by simp [zAx]
 have hfe:L++zAx (cod own nm n) t L.length=(L++cod own nm n t L.length)++[((ins 7 0 0).1,[])]:=by rw [List.append_assoc];rfl
 rw [hfl] at hbd;rw [hfe];obtain ⟨sa,sb,sc,rfl⟩:=hpa.slice;have hb0:=zAH (Below.refl _ w) (.cells (zAI (hd n t) (.slice sa sb sc)).toArray 188);have rP:=(AtL.new0 w 188 (zAI (hd n t) (.slice sa sb sc))).range;have PT:=ih t (.slice sa sb sc) lo hi k B T _ L lv P hw (PA.kept (Kept.of_below hb0) n _ _ hpa) (hen.below hb0) (hws.below hb0) (by omega);have HEN:Hid (k<B/\B<=w.heap.size):=⟨hen.kB,hen.hB⟩
 have HBL:Hid ((L++cod own nm n t L.length).length<=1000000):=by show _<=_;rw [List.length_append];omega
 generalize L++cod own nm n t L.length=L1 at *;generalize hd n t=y at *;have HB0:Hid (Below w.heap.size w (w.alloc (.cells (zAI y (.slice sa sb sc)).toArray 188))):=hb0;clear hfl hfe hbd hw hpa hen hws ih hb0;go_enter func180,ntmps180;go_upto_region 1 with fail
 generalize (w.alloc (.cells (zAI y (.slice sa sb sc)).toArray 188))=W at *;go_wp2_with (first | (refine zAB (by rfl) 188 (.tmp 3) rfl w.heap.size 0 rfl (zAI y (.slice sa sb sc)) _ rP underlying188 rfl (by kernel_rfl) ?_))
 refine PT.mono ?_;rintro e w1 h1;obtain ⟨⟨lv1,P1,rfl,ws1,nx1⟩,fr1⟩:=h1.from HB0.out
 have LA:=zAs k B T (ins 7 0 0).1 _ _ L1 lv1 P1 w1 ws1 HEN.out.1 (Nat.le_trans HEN.out.2 fr1.size) HBL.out;have HFN:Hid (Fr (k::lv.ownBlock.toList) w w1/\Nx w lv lv1):=⟨fr1,nx1⟩
 clear PT rP h1 ws1 nx1 fr1 HB0;go_wp2_with (first | (refine zAb rfl 7 rfl ?_))
 refine LA.mono ?_;rintro e w2 h2;have h3:=WP.then (P1:=P1) (L1:=L1) HFN.out.1 HFN.out.2 h2;obtain rfl:=h3.ret;have HR:Hid (WP k B T (.int .i64 own) (.slice av2 m2 cap2) (L1++[((ins 7 0 0).1,[])]) lv w (.returned (.tuple #[])) w2):=h3;clear h2 h3 LA HFN;go_wp2;go_end0
 exact HR.out
theorem zBL {α:Type} (a:List α) (x y:α) (b:List α) (i:Nat) (h:i=a.length):(a++x::b).set i y=a++y::b:=by
 subst h;simp
theorem zPF {α:Type} (a:List α) (x:α) (b:List α) (i:Nat) (h:i=a.length) (hi:i<(a++x::b).length):(a++x::b)[i]=x:=by
 subst h;simp
section
variable (own:Int) (nm:List ByteArray) (av2:Option Addr) (m2 cap2:Nat)
def zO4 (n:Nat) (t:Tr n) (a:Nat):List I:=ins 14 (a+1+(cod own nm n t (a+1)).length:Nat) 0::cod own nm n t (a+1)
def GdC (n:Nat):Prop:=∀ (t:Tr n) (sl:Value) (lo hi k B:Nat) (T:Nat->Nat) (w:World) (L:List I) (lv:Value) (P:List (Wc.In × Value)),Wr own nm n t->PA n lo hi w t sl->En own nm av2 m2 cap2 k B T hi w->WS k B T w (.int .i64 own) (.slice av2 m2 cap2) L lv P->L.length+(zO4 own nm n t L.length).length<=900000 ->
 Calls prog 185 #[.pointer (some ⟨k,0,none⟩),.agg (zAI (hd n t) sl).toArray] w (WP k B T (.int .i64 own) (.slice av2 m2 cap2) (L++zO4 own nm n t L.length) lv w)
end
theorem zMp (own:Int) (nm:List ByteArray) (av2:Option Addr) (m2 cap2 n:Nat) (ih:PtC own nm av2 m2 cap2 n):GdC own nm av2 m2 cap2 n:=by
 intro t sl lo hi k B T w L lv P hw hpa hen hws hbd;have hgl:(zO4 own nm n t L.length).length=(cod own nm n t (L.length+1)).length+1:=by simp [zO4]
 rw [hgl] at hbd;obtain ⟨sa,sb,sc,rfl⟩:=hpa.slice;have hb0:=zAH (Below.refl _ w) (.cells (zAI (hd n t) (.slice sa sb sc)).toArray 188);have HRP:Hid ((w.alloc (.cells (zAI (hd n t) (.slice sa sb sc)).toArray 188)).rangeAt w.heap.size 0 (zAI (hd n t) (.slice sa sb sc))):=(AtL.new0 w 188 (zAI (hd n t) (.slice sa sb sc))).range;have LA:=zAs k B T (ins 14 0 0).1 _ _ L lv P _ (hws.below hb0) hen.kB (Nat.le_trans hen.hB hb0.size) (by omega);have HGE:Hid (∀ j ∈ k::lv.ownBlock.toList,k<=j):=zOG hws hen.kB;have HLV:Hid (∀ j,lv.ownBlock=some j->B<=j/\j<w.heap.size):=λj e=>zAL hws.own e
 have HPT:Hid (∀ (W:World) (lv1:Value) (P1:List (Wc.In × Value)) (S:List Nat),Fr S w W->(∀ j ∈ S,k<=j)->WS k B T W (.int .i64 own) (.slice av2 m2 cap2) (L++[ins 14 0 0]) lv1 P1->Calls prog 102 #[.pointer (some ⟨k,0,none⟩),.agg (zAI (hd n t) (.slice sa sb sc)).toArray] W (WP k B T (.int .i64 own) (.slice av2 m2 cap2) (L++ins 14 0 0::cod own nm n t (L.length+1)) lv1 W)):=λW lv1 P1 S f hs ws1=>by
  have:=ih t (.slice sa sb sc) lo hi k B T W (L++[ins 14 0 0]) lv1 P1 hw (PA.kept (Kept.of_fr f (λj hj=>by have:=hs j hj;have:=hen.hk;omega)) n _ _ hpa) (hen.fr f hs) ws1 (by simp;omega);rw [show (L++[ins 14 0 0]).length=L.length+1 from by simp,List.append_assoc] at this;exact this
 have HEN:Hid (k<B/\B<=w.heap.size):=⟨hen.kB,hen.hB⟩
 have HBD:Hid (L.length+((cod own nm n t (L.length+1)).length+1)<=900000):=hbd;have HGR:Hid (L++zO4 own nm n t L.length=L++({(ins 14 0 0).1 with a:=((L.length+1+(cod own nm n t (L.length+1)).length:Nat):Int)},[])::cod own nm n t (L.length+1)):=rfl;obtain ⟨LF,hLF⟩:∃ LF,L++zO4 own nm n t L.length=LF:=⟨_,rfl⟩
 rw [hLF];rw [hLF] at HGR;generalize cod own nm n t (L.length+1)=cd at *;generalize hd n t=y at *;have HB0:Hid (Below w.heap.size w (w.alloc (.cells (zAI y (.slice sa sb sc)).toArray 188))):=hb0;clear hgl hbd hw hpa hen hws ih hb0 hLF;go_enter func185,ntmps185;go_upto_region 1 with fail
 generalize (w.alloc (.cells (zAI y (.slice sa sb sc)).toArray 188))=W at *;go_wp2_with (first | (refine zAb rfl 14 rfl ?_))
 refine LA.mono ?_;rintro e w1 h1;obtain ⟨⟨lv1,P1,rfl,ws1,nx1⟩,fr1⟩:=h1.from HB0.out
 have LT:=zDO k B 203 T _ _ _ lv1 P1 w1 ws1 (by simp) (by have:=HBD.out;simp;omega);rw [show (L++[((ins 14 0 0).1,([]:List Int))]).length - 1=L.length from by simp] at LT;have HW1:Hid (WS k B T w1 (.int .i64 own) (.slice av2 m2 cap2) (L++[ins 14 0 0]) lv1 P1/\Nx w lv lv1/\Fr (k::lv.ownBlock.toList) w w1):=⟨ws1,nx1,fr1⟩
 have HRP1:Hid (w1.rangeAt w.heap.size 0 (zAI y (.slice sa sb sc))):=by
  obtain ⟨⟨lv0,P0,_,_,_⟩,f0⟩:=h1;exact f0.range HRP.out (λhm=>by
   rcases List.mem_cons.1 hm with q | q
   ·have:=HEN.out;omega
   ·have:=(HLV.out w.heap.size (by simpa using q)).2;omega)
 clear LA h1 ws1 nx1 fr1 HB0 HRP;go_wp2_with fail
 refine LT.mono ?_;rintro e w2 ⟨⟨cl,bs,rfl,hcl,hbs⟩,hb2⟩;obtain ⟨q1,q2,q3⟩:=HW1.out;have rP:=zAF hb2 HRP1.out;have hf2:=q3.trans (Fr.of_below _ hb2);have PT:=HPT.out w2 lv1 P1 _ hf2 HGE.out (q1.below hb2);have HCL:Hid (Cl k w2 203 L.length bs cl/\(∀ b ∈ bs,w1.heap.size<=b/\b<w2.heap.size)/\(∀ j,lv1.ownBlock=some j->B<=j/\j<w1.heap.size)/\Fr (k::lv.ownBlock.toList) w w2/\Nx w lv lv1/\w.heap.size<=w1.heap.size):=⟨hcl,hbs,λj e=>zAL q1.own e,hf2,q2,q3.size⟩
 obtain ⟨bi,bw,ba,hbse,rfl,hc1,hc2,hc3⟩:=hcl;clear hc1 hc2 hc3 hbs hb2 q1 q2 q3 hf2 HW1 HRP1 LT HPT;go_wp2_with (first | (refine zAB (by rfl) 188 (.tmp 3) rfl w.heap.size 0 rfl (zAI y (.slice sa sb sc)) _ rP underlying188 rfl (by kernel_rfl) ?_))
 refine PT.mono ?_;rintro e w3 ⟨⟨lv3,P3,rfl,ws3,nx3⟩,fr3⟩;obtain ⟨c1,c2,c3,c4,c5,c6⟩:=HCL.out;have hcl3:=c1.fr fr3 (λb hb hm=>by
  have h9:=c2 b hb;rcases List.mem_cons.1 hm with q | q
  ·have:=HEN.out;omega
  ·have:=(c3 b (by simpa using q)).2;omega)
 have hnl:∀ b ∈ bs,∀ j,lv3.ownBlock=some j->b ≠ j:=λb hb j e=>by
  have h9:=c2 b hb;rcases nx3 j e with q | q
  ·have:=(c3 j q).2;omega
  ·omega
 obtain ⟨bi3,bw3,ba3,hbs3,hcv,d1,d2,d3⟩:=hcl3;simp only [Value.func.injEq,true_and,Array.mk.injEq,List.cons.injEq,Value.pointer.injEq,Option.some.injEq,Addr.mk.injEq,and_true] at hcv;obtain ⟨rfl,rfl,rfl⟩:=hcv;rw [hbs3] at hnl;have CA:=zGF k B T _ _ _ lv3 P3 w3 L.length bi bw ba ws3 HEN.out.1 (by have:=HBD.out;simp;omega) (by simp) d1 d2 d3 (λj e=>⟨hnl bi (by simp) j e,hnl bw (by simp) j e,hnl ba (by simp) j e⟩);rw [zBL L _ _ cd L.length rfl] at CA;simp only [zPF L _ cd L.length rfl] at CA;have eg:∀ args w,(callFunc 234 args).run prog w=.ok (.enter 234 args) w:=λ_ _=>by kernel_rfl
 have HR0:Hid (∀ w4:World,(∃ P',WS k B T w4 (.int .i64 own) (.slice av2 m2 cap2) (L++({(ins 14 0 0).1 with a:=((L++ins 14 0 0::cd).length:Int)},(ins 14 0 0).2)::cd) lv3 P')->Fr lv3.ownBlock.toList w3 w4->WP k B T (.int .i64 own) (.slice av2 m2 cap2) LF lv w (.returned (.tuple #[])) w4):=by
  intro w4 hP hf;obtain ⟨P4,ws4⟩:=hP;have hlen:(((L++ins 14 0 0::cd).length:Nat):Int)=((L.length+1+cd.length:Nat):Int):=by simp;omega
  rw [hlen] at ws4;have hLF:=HGR.out;refine ⟨⟨lv3,P4,rfl,by rw [hLF];exact ws4,c5.trans nx3 c4.size⟩,?_⟩;have f3:Fr (k::lv.ownBlock.toList) w w3:=zMa c4 fr3 (λj e=>(c5 j e));exact f3.new hf (λj hj=>by
   rcases nx3 j (by simpa using hj) with q | q
   ·rcases c5 j q with r | r
    ·exact Or.inl (List.mem_cons_of_mem _ (by simp [r]))
    ·exact Or.inr r
   ·exact Or.inr (Nat.le_trans c4.size q))
 clear PT rP HCL c1 c2 c3 c4 c5 c6 hnl d1 d2 d3 ws3 nx3 fr3 hbs3 hbse HGR HGE HLV HBD;go_wp2_with (first | (go_at_call 234;refine CA.mono ?_;rintro e w4 ⟨⟨P4,rfl,ws4⟩,fr4⟩))
 have HR:Hid (WP k B T (.int .i64 own) (.slice av2 m2 cap2) LF lv w (.returned (.tuple #[])) w4):=HR0.out w4 ⟨P4,ws4⟩ fr4;clear CA HR0 ws4 fr4;go_end0
 exact HR.out
