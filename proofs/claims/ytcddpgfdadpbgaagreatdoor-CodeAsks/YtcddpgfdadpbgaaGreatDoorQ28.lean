/- KAb5, KAb6. -/
import Derived.Test.YtcddpgfdadpbgaaGreatDoorQ27
set_option maxHeartbeats 4000000
set_option maxRecDepth 100000
namespace Go.Proofs.YtcddpgfdadpbgaaGreatDoor
open Tryz
open Go.RowKit
set_option linter.unusedVariables false
theorem zIC (a:Option Addr) (n c:Nat) (w:World):CR 54 #[siV (.slice a n c),.agg #[.string ⟨#[]⟩,.int .i64 0,.int .i64 0,.bool false,.bool false]] w (.agg #[.int .i64 0,.int .i64 0,.int .i64 0]):=by
 have SH:=λw=>zCP a n c w
 have hB:=zAJ (zAJ (zAJ (Below.refl _ w) (.cells #[.int .i64 0,.slice a n c] 75)) (.cells zR0 42)) (.cells #[.int .i64 0,.int .i64 0,.int .i64 0] 47);have pS:=((AtL.new0 w 75 [.int .i64 0,.slice a n c]).alloc (.cells zR0 42)).alloc (.cells #[.int .i64 0,.int .i64 0,.int .i64 0] 47);have pR:=(AtL.new1 w (.cells #[.int .i64 0,.slice a n c] 75) 42 [.string ⟨#[]⟩,.int .i64 0,.int .i64 0,.bool false,.bool false]).alloc (.cells #[.int .i64 0,.int .i64 0,.int .i64 0] 47);have pC:AtL (((w.alloc (.cells #[.int .i64 0,.slice a n c] 75)).alloc (.cells zR0 42)).alloc (.cells #[.int .i64 0,.int .i64 0,.int .i64 0] 47)) (w.heap.size+2) [.int .i64 0,.int .i64 0,.int .i64 0]:=AtL.new _ _ (by simp) _;go_enter func54,ntmps54;go_upto_region 1 with fail
 generalize (((w.alloc (.cells #[.int .i64 0,.slice a n c] 75)).alloc (.cells zR0 42)).alloc (.cells #[.int .i64 0,.int .i64 0,.int .i64 0] 47))=W3 at *;have rb:=(Below.refl W3.heap.size W3).drew;have pS1:=AtL.below rb pS;have pR1:=AtL.below rb pR;have pC1:=AtL.below rb pC;have hB1:=zAB hB rb;have s0:=pS1.2.1 0 _ rfl;have s1:=pS1.2.1 1 _ rfl;have r0:=pR1.2.1 0 _ rfl;have r1:=pR1.2.1 1 _ rfl;have r2:=pR1.2.1 2 _ rfl;clear rb pS pR pC pS1 pR1 hB;refine wp_region_held_drew (S:=λW=>W.cell? ⟨w.heap.size,0,none⟩=some (.int .i64 0)/\W.cell? ⟨w.heap.size,1,none⟩=some (.slice a n c)/\W.cell? ⟨w.heap.size+1,0,none⟩=some (.string ⟨#[]⟩)/\W.cell? ⟨w.heap.size+1,1,none⟩=some (.int .i64 0)/\W.cell? ⟨w.heap.size+1,2,none⟩=some (.int .i64 0)) (by kernel_rfl) ⟨s0,s1,r0,r1,r2⟩ (λhHeld=>?_);generalize W3.drew=WD at *;refine tkQ 0 ⟨some 5,.load 75 (.tmp 2),75,"formula.go:57",#[],none⟩ ?_
 refine tkQ 1 ⟨some 6,.fieldAddr 42 (.tmp 3) 0,0,"formula.go:57",#[],none⟩ ?_
 refine tkQ 2 ⟨some 7,.load 9 (.tmp 6),9,"formula.go:57",#[⟨1,.data⟩],none⟩ ?_
 refine tkQ 4 ⟨some 9,.fieldAddr 42 (.tmp 3) 1,0,"formula.go:57",#[],none⟩ ?_
 refine tkQ 5 ⟨some 10,.load 3 (.tmp 9),3,"formula.go:57",#[⟨4,.data⟩],none⟩ ?_
 refine tkQ 6 ⟨some 11,.fieldAddr 42 (.tmp 3) 2,0,"formula.go:57",#[],none⟩ ?_
 refine tkQ 7 ⟨some 12,.load 3 (.tmp 11),3,"formula.go:57",#[⟨6,.data⟩],none⟩ ?_
 refine rdQ 3 ⟨some 8,.call {callee:=Callee.value (Operand.func 78),args:=#[.tmp 5,.tmp 7],argTypes:=#[75,9]},3,"formula.go:57",#[⟨0,.data⟩,⟨2,.data⟩],none⟩ (λK hK=>?_);go_simp
 refine (SH _).mono ?_;rintro e w6 ⟨rfl,hb6⟩;go_wp2_with fail
 refine hkQ hK ⟨zAC hb6 s0,zAC hb6 s1,zAC hb6 r0,zAC hb6 r1,zAC hb6 r2⟩ (λhHeld=>?_);clear hK K
 have hB6:=zAB hB1 hb6;have pC6:=AtL.below hb6 pC1;refine tkQ 8 ⟨some 13,.build 47 #[(0,.tmp 8),(1,.tmp 10),(2,.tmp 12)],47,"formula.go:57",#[⟨3,.data⟩,⟨5,.data⟩,⟨7,.data⟩],none⟩ ?_
 have k0:=pC6.2.1 0 _ rfl;have k1:=pC6.2.1 1 _ rfl;have k2:=pC6.2.1 2 _ rfl;have z0:=pC6.2.2 0 (by simp);have z1:=pC6.2.2 1 (by simp);have z2:=pC6.2.2 2 (by simp);refine rdQ 9 ⟨none,.store 47 (.tmp 4) (.tmp 13),0,"formula.go:57",#[⟨8,.data⟩,⟨3,.chain⟩,⟨0,.phase⟩,⟨1,.phase⟩,⟨2,.phase⟩,⟨3,.phase⟩,⟨4,.phase⟩,⟨5,.phase⟩,⟨6,.phase⟩,⟨7,.phase⟩,⟨8,.phase⟩],none⟩ (λK hK=>?_);go_simp
 have fr:Fr [w.heap.size+2] w6 (((w6.setCell ⟨w.heap.size+2,0,none⟩ (.int .i64 0)).setCell ⟨w.heap.size+2,1,none⟩ (.int .i64 0)).setCell ⟨w.heap.size+2,2,none⟩ (.int .i64 0)):=zCD;have pF:AtL (w6.setCells (w.heap.size+2) 0 [.int .i64 0,.int .i64 0,.int .i64 0]) (w.heap.size+2) [.int .i64 0,.int .i64 0,.int .i64 0]:=pC6.setAll rfl;have HPF:Hid ((((w6.setCell ⟨w.heap.size+2,0,none⟩ (.int .i64 0)).setCell ⟨w.heap.size+2,1,none⟩ (.int .i64 0)).setCell ⟨w.heap.size+2,2,none⟩ (.int .i64 0)).rangeAt (w.heap.size+2) 0 [.int .i64 0,.int .i64 0,.int .i64 0]):=pF.range;have HBF:Hid (Below w.heap.size w (((w6.setCell ⟨w.heap.size+2,0,none⟩ (.int .i64 0)).setCell ⟨w.heap.size+2,1,none⟩ (.int .i64 0)).setCell ⟨w.heap.size+2,2,none⟩ (.int .i64 0))):=zAN hB6 fr (λk hk=>by simp at hk;omega);refine hkQ hK ⟨fr.cell (zAC hb6 s0) (by simp),fr.cell (zAC hb6 s1) (by simp),fr.cell (zAC hb6 r0) (by simp),fr.cell (zAC hb6 r1) (by simp),fr.cell (zAC hb6 r2) (by simp)⟩ (λhHeld=>?_);clear hK K
 refine wpAnyH_done (by kernel_rfl) ?_ _;clear hHeld fr pF k0 k1 k2 z0 z1 z2 pC6 pC1 hB6 hB1 hb6 s0 s1 r0 r1 r2;generalize (((w6.setCell ⟨w.heap.size+2,0,none⟩ (.int .i64 0)).setCell ⟨w.heap.size+2,1,none⟩ (.int .i64 0)).setCell ⟨w.heap.size+2,2,none⟩ (.int .i64 0))=WF at *;go_wp2;refine bodyPost_ret (zCE (by rfl) _ _ (w.heap.size+2) [.int .i64 0,.int .i64 0,.int .i64 0] _ (by rfl) HPF.out underlying47 rfl (by kernel_rfl)) rfl ⟨rfl,HBF.out⟩
theorem zG0 (k B:Nat) (a:Option Addr) (n c:Nat) (w:World) (hw:AtL w k [.int .i64 0,.slice a n c,.slice none 0 0]) (hkB:k<B) (hB:B<=w.heap.size):Calls prog 31 #[.pointer (some ⟨k,0,none⟩),.agg (zA7 ndA (.slice none 0 0)).toArray] w λe w'=>(∃ lv',e=.returned (.tuple #[])/\AtL w' k [.int .i64 0,.slice a n c,lv']/\OwnI w' B lv' [(zAE 2,zAG)])/\Fr [k] w w':=by
 have CE:=λw=>zIC a n c w
 have LA:=λ(W:World) (h1:AtL W k [.int .i64 0,.slice a n c,.slice none 0 0]) (h2:B<=W.heap.size)=>zEs k B (zAE 2) (.int .i64 0) (.slice a n c) (.slice none 0 0) [] W h1 (OwnI.nil _ _) hkB h2 (by simp)
 have HLA:Hid (∀ (W:World) (h1:AtL W k [.int .i64 0,.slice a n c,.slice none 0 0]) (h2:B<=W.heap.size),Calls prog 32 #[.pointer (some ⟨k,0,none⟩),.agg (zAD (zAE 2) zAG).toArray] W λe w'=>(∃ lv',e=.returned (.tuple #[])/\AtL w' k [.int .i64 0,.slice a n c,lv']/\OwnI w' B lv' [(zAE 2,zAG)])/\Fr [k] W w'):=LA;clear LA;have hb0:=zAJ (Below.refl _ w) (.cells (zA7 ndA (.slice none 0 0)).toArray 78);have pP:=AtL.new0 w 78 (zA7 ndA (.slice none 0 0));have pW:=AtL.below hb0 hw;have HF0:Hid (Fr [k] w (w.alloc (.cells (zA7 ndA (.slice none 0 0)).toArray 78))):=Fr.of_below _ hb0;have HS0:Hid (B<=(w.alloc (.cells (zA7 ndA (.slice none 0 0)).toArray 78)).heap.size/\k<w.heap.size):=⟨Nat.le_trans hB hb0.size,Nat.lt_of_lt_of_le hkB hB⟩
 have c0:(w.alloc (.cells (zA7 ndA (.slice none 0 0)).toArray 78)).cell? ⟨w.heap.size,0,none⟩=some (.int .i64 2):=pP.2.1 0 _ rfl;have c10:(w.alloc (.cells (zA7 ndA (.slice none 0 0)).toArray 78)).cell? ⟨w.heap.size,10,none⟩=some (.string ⟨#[]⟩):=pP.2.1 10 _ rfl;have c11:(w.alloc (.cells (zA7 ndA (.slice none 0 0)).toArray 78)).cell? ⟨w.heap.size,11,none⟩=some (.int .i64 0):=pP.2.1 11 _ rfl;have c12:(w.alloc (.cells (zA7 ndA (.slice none 0 0)).toArray 78)).cell? ⟨w.heap.size,12,none⟩=some (.int .i64 0):=pP.2.1 12 _ rfl;have c13:(w.alloc (.cells (zA7 ndA (.slice none 0 0)).toArray 78)).cell? ⟨w.heap.size,13,none⟩=some (.bool false):=pP.2.1 13 _ rfl;have c14:(w.alloc (.cells (zA7 ndA (.slice none 0 0)).toArray 78)).cell? ⟨w.heap.size,14,none⟩=some (.bool false):=pP.2.1 14 _ rfl;clear pP hw hb0 hkB hB;generalize ndA=x at *;go_enter func31,ntmps31;go_upto_region 1 with fail
 generalize (w.alloc (.cells (zA7 x (.slice none 0 0)).toArray 78))=W1 at *;go_upto_region 5 with fail
 have rb:=(Below.refl W1.heap.size W1).drew;replace c10:=zAC rb c10
 replace c11:=zAC rb c11
 replace c12:=zAC rb c12
 replace c13:=zAC rb c13
 replace c14:=zAC rb c14
 replace pW:=AtL.below rb pW
 have HF1:Hid (Fr [k] w W1.drew):=HF0.out.trans (Fr.of_below _ rb);have HS1:Hid (B<=W1.drew.heap.size/\k<w.heap.size):=HS0.out;have s0:=pW.2.1 0 _ rfl;have s1:=pW.2.1 1 _ rfl;clear rb c0 HF0 HS0;refine wp_region_held_drew (S:=λW=>W.cell? ⟨k,0,none⟩=some (.int .i64 0)/\W.cell? ⟨k,1,none⟩=some (.slice a n c)/\W.cell? ⟨w.heap.size,10,none⟩=some (.string ⟨#[]⟩)/\W.cell? ⟨w.heap.size,11,none⟩=some (.int .i64 0)/\W.cell? ⟨w.heap.size,12,none⟩=some (.int .i64 0)/\W.cell? ⟨w.heap.size,13,none⟩=some (.bool false)/\W.cell? ⟨w.heap.size,14,none⟩=some (.bool false)) (by kernel_rfl) ⟨s0,s1,c10,c11,c12,c13,c14⟩ (λhHeld=>?_);generalize W1.drew=WD at *;refine tkQ 0 ⟨some 16,.move (.tmp 0),118,"writer.go:45",#[],none⟩ ?_
 refine tkQ 1 ⟨some 17,.move (.tmp 0),118,"writer.go:45",#[],none⟩ ?_
 refine tkQ 2 ⟨some 18,.nilCheck (.tmp 17),0,"writer.go:45",#[⟨1,.data⟩],none⟩ ?_
 refine tkQ 3 ⟨some 19,.fieldAddr 83 (.tmp 18) 0,0,"writer.go:45",#[⟨2,.data⟩],none⟩ ?_
 refine tkQ 4 ⟨some 20,.load 75 (.tmp 19),75,"writer.go:45",#[⟨3,.data⟩],none⟩ ?_
 refine tkQ 5 ⟨some 21,.fieldAddr 78 (.tmp 3) 0,0,"writer.go:45",#[],none⟩ ?_
 refine tkQ 6 ⟨some 22,.fieldAddr 44 (.tmp 21) 5,0,"writer.go:45",#[⟨5,.data⟩],none⟩ ?_
 refine tkQ 7 ⟨some 23,.load 42 (.tmp 22),42,"writer.go:45",#[⟨6,.data⟩],none⟩ ?_
 refine rdQ 8 ⟨some 24,.call {callee:=Callee.value (Operand.func 54),args:=#[.tmp 20,.tmp 23],argTypes:=#[75,42]},47,"writer.go:45",#[⟨4,.data⟩,⟨7,.data⟩],none⟩ (λK hK=>?_);go_simp
 refine (CE _).mono ?_;rintro e w6 ⟨rfl,hb6⟩;go_wp2_with fail
 replace pW:=AtL.below hb6 pW
 replace s0:=zAC hb6 s0
 replace s1:=zAC hb6 s1
 replace c10:=zAC hb6 c10
 replace c11:=zAC hb6 c11
 replace c12:=zAC hb6 c12
 replace c13:=zAC hb6 c13
 replace c14:=zAC hb6 c14
 refine hkQ hK ⟨s0,s1,c10,c11,c12,c13,c14⟩ (λhHeld=>?_);clear hK K
 refine wpAnyH_take (i:=9) (oi:=⟨some 25,.build 52 #[(0,Operand.const (Value.int IntKind.i64 2)),(4,.tmp 24)],52,"writer.go:45",#[⟨8,.data⟩],none⟩) (v:=.agg (zAD (zAE 2) zAG).toArray) rfl (by kernel_rfl) (by kernel_rfl) (by kernel_rfl) (λ_ _ _ h=>h) (Or.inl ⟨by rfl,λ_ _=>by kernel_rfl⟩) (by assumption) ?_;try simp only [Act.put,lA,lZ,lS]
 have HF6:Hid (Fr [k] w w6):=HF1.out.trans (Fr.of_below _ hb6);have LA:=HLA.out w6 pW (Nat.le_trans HS1.out.1 hb6.size);clear hb6 CE HLA;refine rdQ 10 ⟨some 26,.call {callee:=Callee.value (Operand.func 32),args:=#[.tmp 16,.tmp 25],argTypes:=#[118,52]},0,"writer.go:45",#[⟨0,.data⟩,⟨9,.data⟩,⟨8,.chain⟩],none⟩ (λK hK=>?_);go_simp
 refine LA.mono ?_;rintro e w7 ⟨⟨lv',rfl,pW7,own7⟩,fr7⟩;have HP7:Hid (AtL w7 k [.int .i64 0,.slice a n c,lv']):=pW7;have HO7:Hid (OwnI w7 B lv' [(zAE 2,zAG)]):=own7;have HF7:Hid (Fr [k] w w7):=HF6.out.trans fr7;have nx:w.heap.size ∉ [k]:=by have:=HS1.out;simp;omega
 have S7:=And.intro (pW7.2.1 0 _ rfl) (And.intro (pW7.2.1 1 _ rfl) (And.intro (fr7.cell c10 nx) (And.intro (fr7.cell c11 nx) (And.intro (fr7.cell c12 nx) (And.intro (fr7.cell c13 nx) (fr7.cell c14 nx))))));have HS7:Hid _:=S7;clear LA pW7 own7 fr7 nx s0 s1 c10 c11 c12 c13 c14 pW S7;go_wp2_with fail
 refine hkQ hK HS7.out (λhHeld=>?_);clear hK K
 refine wpAnyH_done (by kernel_rfl) ?_ _;clear hHeld HS7;go_wp2;go_end0
 exact ⟨⟨_,rfl,HP7.out,HO7.out⟩,HF7.out⟩
theorem zL0 (w:World):(Instr.build 52 #[(0,.int .i64 16)]).run prog w=.ok (.agg (zAD (zAE 16) zAG).toArray) w:=by kernel_rfl
theorem zCv {ops:Array Oper} {rest:List Oper} {op:Oper} {a:Act} {w:World} {Q:Exit->Act->World->Prop} (hgd:op.guard=none) (ho:op.op=.build 52 #[(0,.const (.int .i64 16))])
  (h:wpList prog ops Q rest (a.put op.dst (.agg (zAD (zAE 16) zAG).toArray)) w):wpList prog ops Q (op::rest) a w:=by
 refine wpList_plain hgd λK hK=>?_
 unfold Oper.wp execOp;simp only [ho,List.map_toArray,List.map_cons,List.map_nil,Act.eval,Sem.run_bind,Sem.run_pure,Result.andThen_ok,zL0];exact hK _ _ h
theorem zG2 (g h:Nat) (w:World) (hg:w.rangeAt g 0 (zA3 ndA)):Calls prog 16 #[.slice (some ⟨g,0,none⟩) 1 1,.agg #[.int .i64 0,.int .i64 3,.int .i64 0],(.slice (some ⟨h,0,none⟩) 1 1)] w λe w'=>(∃ lv B,e=.returned (.tuple #[lv,.int .i64 0])/\OwnI w' B lv [(zAE 2,zAG),(zAE 16,zAG)]/\w.heap.size<=B)/\Below w.heap.size w w':=by
 have HCK:Hid (∀ W:World,W.rangeAt g 0 (zA3 ndA)->Calls prog 26 #[.slice (some ⟨g,0,none⟩) 1 1] W λe w'=>e=.returned (.int .i64 0)/\Below W.heap.size W w'):=λW h=>zE8 g W h
 have HGR:Hid (∀ W:World,W.rangeAt g 0 (zA3 ndA)->Calls prog 28 #[.slice (some ⟨g,0,none⟩) 1 1] W λe w'=>(∃ s,e=.returned (.tuple #[.agg (zA7 ndA (.slice none 0 0)).toArray,s]))/\Below W.heap.size W w'):=λW h=>zH1 g W h
 have HRF:Hid (∀ W:World,Calls prog 29 #[siV (.slice (some ⟨h,0,none⟩) 1 1),.agg (zA7 ndA (.slice none 0 0)).toArray] W λe w'=>e=.returned (.int .i64 0)/\Below W.heap.size W w'):=λW=>zDF _ _ _ W
 have HIA:Hid (∀ W:World,Calls prog 30 #[.agg (zA7 ndA (.slice none 0 0)).toArray] W λe w'=>e=.returned (.bool false)/\Below W.heap.size W w'):=λW=>zEV W
 have HPT:Hid (∀ (k B:Nat) (W:World),AtL W k [.int .i64 0,(.slice (some ⟨h,0,none⟩) 1 1),.slice none 0 0]->k<B->B<=W.heap.size->Calls prog 31 #[.pointer (some ⟨k,0,none⟩),.agg (zA7 ndA (.slice none 0 0)).toArray] W λe w'=>(∃ lv',e=.returned (.tuple #[])/\AtL w' k [.int .i64 0,(.slice (some ⟨h,0,none⟩) 1 1),lv']/\OwnI w' B lv' [(zAE 2,zAG)])/\Fr [k] W w'):=λk B W h1 h2 h3=>zG0 k B _ _ _ W h1 h2 h3
 have HRI:Hid (∀ W:World,Calls prog 27 #[.agg #[.int .i64 0,.int .i64 3,.int .i64 0]] W λe w'=>e=.returned (.bool true)/\Below W.heap.size W w'):=λW=>zAt 0 3 0 W
 have hb0:=zAJ (Below.refl _ w) (.cells #[.int .i64 0,.int .i64 3,.int .i64 0] 47);have pH:=AtL.new0 w 47 [.int .i64 0,.int .i64 3,.int .i64 0];have hg0:=zAK hb0 hg;clear hg;generalize ndA=x at *;go_enter func16,ntmps16;go_upto_region 1 with fail
 generalize (w.alloc (.cells [.int .i64 0,.int .i64 3,.int .i64 0].toArray 47))=W0 at *;have CK:=HCK.out W0 hg0;go_wp2_with fail
 refine CK.mono ?_;rintro e w1 ⟨rfl,hb1⟩;replace pH:=AtL.below hb1 pH
 have hg1:=zAK hb1 hg0;have hB1:=zAB hb0 hb1;have h0:=pH.2.1 0 _ rfl;have h1:=pH.2.1 1 _ rfl;have h2:=pH.2.1 2 _ rfl;have RI:=HRI.out w1;clear CK HCK hb0 hb1 hg0 HRI;go_wp2_with fail
 refine RI.mono ?_;rintro e w2 ⟨rfl,hb2⟩;replace pH:=AtL.below hb2 pH
 have hg2:=zAK hb2 hg1;have hB2:=zAB hB1 hb2;clear h0 h1 h2 RI hb2 hg1 hB1;have h0:=pH.2.1 0 _ rfl;go_upto_region 8 with fail
 have rb:=(Below.refl w2.heap.size w2).drew;have s0:=zAC rb h0;have hg3:=zAK rb hg2;have hB3:=zAB hB2 rb;clear h0 hg2 hB2 rb pH;refine wp_region_held_drew (S:=λW=>W.cell? ⟨w.heap.size,0,none⟩=some (.int .i64 0)) (by kernel_rfl) s0 (λhHeld=>?_);generalize w2.drew=WD at *;refine tkQ 0 ⟨some 30,.fieldAddr 47 (.tmp 4) 0,0,"code.go:24",#[],none⟩ ?_
 refine tkQ 1 ⟨some 31,.load 3 (.tmp 30),3,"code.go:24",#[⟨0,.data⟩],none⟩ ?_
 refine tkQ 2 ⟨some 32,.move (.tmp 2),71,"code.go:24",#[],none⟩ ?_
 refine tkQ 3 ⟨some 33,.move (.tmp 2),71,"code.go:24",#[],none⟩ ?_
 refine tkQ 4 ⟨some 34,.call {callee:=Callee.builtin Builtin.len,args:=#[.tmp 33],argTypes:=#[71]},3,"code.go:24",#[⟨3,.data⟩],none⟩ ?_
 refine tkQ 5 ⟨some 35,.call {callee:=Callee.builtin Builtin.min,args:=#[.tmp 34,Operand.const (Value.int IntKind.i64 16)],argTypes:=#[3,3]},3,"code.go:24",#[⟨4,.data⟩],none⟩ ?_
 refine tkQ 6 ⟨some 36,.slice 71 (.tmp 32) Option.none (Option.some (.tmp 35)) Option.none,71,"code.go:24",#[⟨2,.data⟩,⟨5,.data⟩],none⟩ ?_
 refine tkQ 7 ⟨some 37,.build 75 #[(0,.tmp 31),(1,.tmp 36)],75,"code.go:24",#[⟨1,.data⟩,⟨6,.data⟩],none⟩ ?_
 have hbA:=zAJ (Below.refl _ WD) (.cells #[.int .i64 0,.slice none 0 0] 75);refine rdQ 8 ⟨some 9,.alloc 75,0,"code.go:24",#[],none⟩ (λK hK=>?_);go_simp
 refine hkQ hK (zAC hbA s0) (λhHeld=>?_);clear hK K
 have pK:AtL (WD.alloc (.cells #[.int .i64 0,.slice none 0 0] 75)) WD.heap.size [.int .i64 0,.slice none 0 0]:=AtL.new0 WD _ _;have k0:=pK.2.1 0 _ rfl;have k1:=pK.2.1 1 _ rfl;have z0:=pK.2.2 0 (by simp);have z1:=pK.2.2 1 (by simp);refine rdQ 9 ⟨none,.store 75 (.tmp 9) (.tmp 37),0,"code.go:24",#[⟨8,.data⟩,⟨7,.data⟩,⟨0,.phase⟩,⟨1,.phase⟩,⟨2,.phase⟩,⟨3,.phase⟩,⟨4,.phase⟩,⟨5,.phase⟩,⟨6,.phase⟩,⟨7,.phase⟩,⟨8,.phase⟩],none⟩ (λK hK=>?_);go_simp
 have hbS:=zAJ (Below.refl _ WD) (.cells #[.int .i64 0,(.slice (some ⟨h,0,none⟩) 1 1)] 75);refine hkQ hK (zAC hbS s0) (λhHeld=>?_);clear hK K
 refine wpAnyH_done (by kernel_rfl) ?_ _;have pS:=AtL.new0 WD 75 [.int .i64 0,(.slice (some ⟨h,0,none⟩) 1 1)];have hg4:=zAK hbS hg3;have hB4:=zAB hB3 hbS;clear hHeld pK k0 k1 z0 z1 hbA hbS s0 hg3 hB3;generalize (WD.alloc (.cells [.int .i64 0,(.slice (some ⟨h,0,none⟩) 1 1)].toArray 75))=W4 at *;obtain ⟨SB,hSB⟩:∃ k,WD.heap.size=k:=⟨_,rfl⟩
 rw [hSB] at pS;simp only [hSB];clear hSB;have GR:=HGR.out W4 hg4;go_wp2_with fail
 refine GR.mono ?_;rintro e w5 ⟨⟨sv,rfl⟩,hb5⟩;replace pS:=AtL.below hb5 pS
 have hB5:=zAB hB4 hb5;clear GR HGR hg4 hB4 hb5;have hth:World.there (w5.alloc (.cells zeros21 78)) w5.heap.size 0 (zA7 x (.slice none 0 0)).toArray.size:=(AtL.new0 w5 _ _:AtL (w5.alloc (.cells zeros21 78)) w5.heap.size zeros21.toList).there;go_upto_region 10 with (first | ((with_reducible refine wpList_store_mid ?_ 78 (.tmp 10) (.tmp 41) ?_ w5.heap.size 0 (zA7 x (.slice none 0 0)).toArray ?_ ?_ ?_ ?_ ?_ ?_);rfl;rfl;rfl;rfl;exact hth;kernel_rfl;exact zJg _))
 have pP:AtL ((w5.alloc (.cells zeros21 78)).setCells w5.heap.size 0 (zA7 x (.slice none 0 0))) w5.heap.size (zA7 x (.slice none 0 0)):=(AtL.new0 w5 _ _:AtL (w5.alloc (.cells zeros21 78)) w5.heap.size zeros21.toList).setAll rfl;have hb6:Below w5.heap.size w5 ((w5.alloc (.cells zeros21 78)).setCells w5.heap.size 0 (zA7 x (.slice none 0 0))):=zA8 (zAJ (Below.refl _ w5) _) (Nat.le_refl _) _ 0;replace pS:=AtL.below hb6 pS
 have hB6:=zAB hB5 hb6;clear hth hb6 hB5;generalize ((w5.alloc (.cells zeros21 78)).setCells w5.heap.size 0 (zA7 x (.slice none 0 0)))=W6 at *;obtain ⟨P,hP⟩:∃ k,w5.heap.size=k:=⟨_,rfl⟩
 rw [hP] at pP;simp only [hP];clear hP;have s0:=pS.2.1 0 _ rfl;have s1:=pS.2.1 1 _ rfl;have rP:=pP.range;have RF:=HRF.out W6;go_wp2_with (first | (refine zAA (by rfl) 78 (.tmp 10) rfl P 0 rfl (zA7 x (.slice none 0 0)) _ rP underlying78 rfl (by kernel_rfl) ?_))
 refine RF.mono ?_;rintro e w7 ⟨rfl,hb7⟩;replace pS:=AtL.below hb7 pS
 replace pP:=AtL.below hb7 pP
 have hB7:=zAB hB6 hb7;clear RF HRF s0 s1 rP hB6 hb7;have rP:=pP.range;have IA:=HIA.out w7;go_wp2_with (first | (refine zAA (by rfl) 78 (.tmp 10) rfl P 0 rfl (zA7 x (.slice none 0 0)) _ rP underlying78 rfl (by kernel_rfl) ?_))
 refine IA.mono ?_;rintro e w8 ⟨rfl,hb8⟩;replace pS:=AtL.below hb8 pS
 replace pP:=AtL.below hb8 pP
 have hB8:=zAB hB7 hb8;clear IA HIA rP hB7 hb8;have s0:=pS.2.1 0 _ rfl;have s1:=pS.2.1 1 _ rfl;go_upto_region 16 with fail
 have hbW:=zAJ (Below.refl _ w8) (.cells #[.int .i64 0,(.slice (some ⟨h,0,none⟩) 1 1),.slice none 0 0] 83);have pW:=AtL.new0 w8 83 [.int .i64 0,(.slice (some ⟨h,0,none⟩) 1 1),.slice none 0 0];replace pP:=AtL.below hbW pP
 have HB9:Hid (Below w.heap.size w (w8.alloc (.cells [.int .i64 0,(.slice (some ⟨h,0,none⟩) 1 1),.slice none 0 0].toArray 83))):=zAB hB8 hbW;have HW8:Hid (w.heap.size<=w8.heap.size):=hB8.size;clear hbW hB8 s0 s1 pS;generalize (w8.alloc (.cells [.int .i64 0,(.slice (some ⟨h,0,none⟩) 1 1),.slice none 0 0].toArray 83))=W9 at *;obtain ⟨k,hk⟩:∃ k,w8.heap.size=k:=⟨_,rfl⟩
 rw [hk] at pW HW8;simp only [hk];clear hk;have rP:=pP.range;have PT:=HPT.out k (k+1) W9 pW (Nat.lt_succ_self _) pW.1;have HKS:Hid (k+1<=W9.heap.size):=pW.1;go_wp2_with (first | (refine zAA (by rfl) 78 (.tmp 10) rfl P 0 rfl (zA7 x (.slice none 0 0)) _ rP underlying78 rfl (by kernel_rfl) ?_))
 refine PT.mono ?_;rintro e w10 ⟨⟨lv1,rfl,pW1,own1⟩,fr1⟩;have HB10:Hid (Below w.heap.size w w10):=zAN HB9.out fr1 (λj hj=>by have:=HW8.out;simp at hj;omega);have LA:=zEs k (k+1) (zAE 16) _ _ lv1 [(zAE 2,zAG)] w10 pW1 own1 (Nat.lt_succ_self _) (Nat.le_trans HKS.out fr1.size) (by simp);have HO1:Hid (∀ j,lv1.ownBlock=some j->k+1<=j):=λj e=>(zAW own1 e).1
 clear PT HPT rP pP pW HB9 fr1 pW1 own1;go_wp2_with (first | (refine zCv rfl rfl ?_))
 refine LA.mono ?_;rintro e w11 ⟨⟨lv2,rfl,pW2,own2⟩,fr2⟩;have HB11:Hid (Below w.heap.size w w11):=zAN HB10.out fr2 (λj hj=>by
  have:=HW8.out;rcases List.mem_cons.1 hj with q | q
  ·omega
  ·have:=HO1.out j (by simpa using q);omega)
 have HO2:Hid (OwnI w11 (k+1) lv2 [(zAE 2,zAG),(zAE 16,zAG)]):=own2;have c2:=pW2.2.1 2 _ rfl;clear LA HB10 fr2 pW2 own2;go_wp2;go_ret2
 exact ⟨⟨_,_,rfl,HO2.out,by have:=HW8.out;omega⟩,HB11.out⟩
