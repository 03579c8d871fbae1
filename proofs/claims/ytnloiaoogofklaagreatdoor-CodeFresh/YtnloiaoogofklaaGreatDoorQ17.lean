/- KStandB. -/
import Derived.Test.YtnloiaoogofklaaGreatDoorQ16
set_option maxHeartbeats 1600000
set_option maxRecDepth 100000
namespace Go.Proofs.YtnloiaoogofklaaGreatDoor
open Tryz
abbrev zBL:Oper:=⟨some 8,.fieldAddr 193 (.tmp 1) 0,0,"acc.go:105",#[],none⟩
abbrev zBN:Oper:=⟨some 9,.load 3 (.tmp 8),3,"acc.go:105",#[⟨1,.data⟩],none⟩
abbrev zBK:Oper:=⟨some 7,.call {callee:=Callee.value (Operand.func 130),args:=#[],argTypes:=#[]},199,"acc.go:105",#[],none⟩
abbrev zBO:Oper:=⟨some 10,.lookup 199 (.tmp 7) (.tmp 9) Bool.true,198,"acc.go:105",#[⟨0,.data⟩,⟨2,.data⟩],none⟩
abbrev zBH:Oper:=⟨some 6,.move (.tmp 10),198,"acc.go:105",#[⟨3,.data⟩],none⟩
abbrev zBM:Oper:=⟨some 11,.extract (.tmp 6) 0,197,"acc.go:105",#[⟨4,.data⟩],none⟩
abbrev zBP:Oper:=⟨some 12,.extract (.tmp 6) 1,4,"acc.go:105",#[⟨4,.data⟩,⟨7,.gcOnly .lateStores⟩],none⟩
abbrev zBR:Oper:=⟨some 4,.assign (.tmp 11),197,"acc.go:105",#[⟨5,.data⟩,⟨0,.chain⟩,⟨0,.phase⟩,⟨1,.phase⟩,⟨2,.phase⟩,⟨3,.phase⟩,⟨4,.phase⟩,⟨5,.phase⟩,⟨6,.textOnly .lateStores⟩],none⟩
abbrev zBJ:Oper:=⟨some 5,.assign (.tmp 12),4,"acc.go:105",#[⟨6,.data⟩,⟨7,.chain⟩,⟨0,.phase⟩,⟨1,.phase⟩,⟨2,.phase⟩,⟨3,.phase⟩,⟨4,.phase⟩,⟨5,.phase⟩,⟨6,.phase⟩,⟨7,.phase⟩],none⟩
open Go.RowKit
set_option linter.unusedVariables false
theorem zMo (n k:Int) (w:World):Calls prog 124 #[.agg (zAE 1 n k).toArray] w λe w'=>(∃ v,e=.returned (.tuple #[v,.bool true]))/\Below w.heap.size w w':=by
 have pA:=AtL.new0 w 193 (zAE 1 n k);have hB:=zAL (Below.refl _ w) (.cells (zAE 1 n k).toArray 193);have eg:∀ args w,(callFunc 132 args).run prog w=.ok (.enter 132 args) w:=λ_ _=>by kernel_rfl
 go_enter func124,ntmps124;go_upto_region 1 with fail
 generalize (w.alloc (.cells (zAE 1 n k).toArray 193))=W0 at *;replace pA:=AtL.drew pA
 replace hB:=hB.drew
 refine wp_region_held_drew (S:=λW=>W.cell? ⟨w.heap.size,0,none⟩=some (.int .i64 1)) (by kernel_rfl) (pA.2.1 0 _ rfl) (λhHeld=>?_);generalize W0.drew=wd at *;refine tkQ 1 zBL ?_
 refine tkQ 2 zBN ?_
 refine rdQ 0 zBK (λK hK=>?_);go_simp
 refine (zAZ _).mono ?_;rintro e w1 ⟨⟨b,rfl,hM⟩,hb⟩;replace pA:=AtL.below hb pA
 replace hB:=zAB hB hb
 clear hb;go_wp2_with fail
 refine hkQ hK (pA.2.1 0 _ rfl) (λhHeld=>?_);clear hK K
 have hl:(Instr.lookup 199 (.map (some b)) (.int .i64 1) true).run prog w1=.ok (.tuple #[.func (.func 132) #[] #[],.bool true]) w1  :=zA1 (j:=0) zDI hM (zDH _ _ _) (by kernel_rfl);refine rdQ 3 zBO (λK hK=>?_);go_simp
 refine hkQ hK (pA.2.1 0 _ rfl) (λhHeld=>?_);clear hK K
 refine tkQ 4 zBH ?_
 refine tkQ 5 zBM ?_
 refine tkQ 6 zBP ?_
 refine rdQ 7 zBR (λK hK=>?_);go_simp
 refine hkQ hK (pA.2.1 0 _ rfl) (λhHeld=>?_);clear hK K
 refine rdQ 8 zBJ (λK hK=>?_);go_simp
 refine hkQ hK (pA.2.1 0 _ rfl) (λhHeld=>?_);clear hK K
 refine wpAnyH_done (by kernel_rfl) ?_ _;clear hHeld hl hM;have rA:=pA.range;clear pA;go_wp2_with (first | (refine zAA (by rfl) 193 (.tmp 1) rfl w.heap.size 0 rfl (zAE 1 n k) _ rA underlying193 rfl (by kernel_rfl) ?_) | (refine zAJ rfl 204 _ rfl _ rfl (zAE 1 n k) (by kernel_rfl) ?_) | (go_at_call 132;refine (zPC 1 n k _).mono ?_;rintro e w2 ⟨⟨t,p,rfl⟩,hb2⟩;replace hB:=zAB hB hb2;clear hb2))
 go_ret2
 exact ⟨⟨_,rfl⟩,(clB hB)⟩
theorem zMN (n k:Int) (w:World):Calls prog 124 #[.agg (zAE 2 n k).toArray] w λe w'=>(∃ v,e=.returned (.tuple #[v,.bool true]))/\Below w.heap.size w w':=by
 have pA:=AtL.new0 w 193 (zAE 2 n k);have hB:=zAL (Below.refl _ w) (.cells (zAE 2 n k).toArray 193);have eg:∀ args w,(callFunc 133 args).run prog w=.ok (.enter 133 args) w:=λ_ _=>by kernel_rfl
 go_enter func124,ntmps124;go_upto_region 1 with fail
 generalize (w.alloc (.cells (zAE 2 n k).toArray 193))=W0 at *;replace pA:=AtL.drew pA
 replace hB:=hB.drew
 refine wp_region_held_drew (S:=λW=>W.cell? ⟨w.heap.size,0,none⟩=some (.int .i64 2)) (by kernel_rfl) (pA.2.1 0 _ rfl) (λhHeld=>?_);generalize W0.drew=wd at *;refine tkQ 1 zBL ?_
 refine tkQ 2 zBN ?_
 refine rdQ 0 zBK (λK hK=>?_);go_simp
 refine (zAZ _).mono ?_;rintro e w1 ⟨⟨b,rfl,hM⟩,hb⟩;replace pA:=AtL.below hb pA
 replace hB:=zAB hB hb
 clear hb;go_wp2_with fail
 refine hkQ hK (pA.2.1 0 _ rfl) (λhHeld=>?_);clear hK K
 have hl:(Instr.lookup 199 (.map (some b)) (.int .i64 2) true).run prog w1=.ok (.tuple #[.func (.func 133) #[] #[],.bool true]) w1  :=zA1 (j:=1) zDI hM (zDH _ _ _) (by kernel_rfl);refine rdQ 3 zBO (λK hK=>?_);go_simp
 refine hkQ hK (pA.2.1 0 _ rfl) (λhHeld=>?_);clear hK K
 refine tkQ 4 zBH ?_
 refine tkQ 5 zBM ?_
 refine tkQ 6 zBP ?_
 refine rdQ 7 zBR (λK hK=>?_);go_simp
 refine hkQ hK (pA.2.1 0 _ rfl) (λhHeld=>?_);clear hK K
 refine rdQ 8 zBJ (λK hK=>?_);go_simp
 refine hkQ hK (pA.2.1 0 _ rfl) (λhHeld=>?_);clear hK K
 refine wpAnyH_done (by kernel_rfl) ?_ _;clear hHeld hl hM;have rA:=pA.range;clear pA;go_wp2_with (first | (refine zAA (by rfl) 193 (.tmp 1) rfl w.heap.size 0 rfl (zAE 2 n k) _ rA underlying193 rfl (by kernel_rfl) ?_) | (refine zAJ rfl 204 _ rfl _ rfl (zAE 2 n k) (by kernel_rfl) ?_) | (go_at_call 133;refine (zGi 2 n k _).mono ?_;rintro e w2 ⟨⟨t,p,rfl⟩,hb2⟩;replace hB:=zAB hB hb2;clear hb2))
 go_ret2
 exact ⟨⟨_,rfl⟩,(clB hB)⟩
theorem zNI (n k:Int) (w:World):Calls prog 124 #[.agg (zAE 3 n k).toArray] w λe w'=>(∃ v,e=.returned (.tuple #[v,.bool true]))/\Below w.heap.size w w':=by
 have pA:=AtL.new0 w 193 (zAE 3 n k);have hB:=zAL (Below.refl _ w) (.cells (zAE 3 n k).toArray 193);have eg:∀ args w,(callFunc 134 args).run prog w=.ok (.enter 134 args) w:=λ_ _=>by kernel_rfl
 go_enter func124,ntmps124;go_upto_region 1 with fail
 generalize (w.alloc (.cells (zAE 3 n k).toArray 193))=W0 at *;replace pA:=AtL.drew pA
 replace hB:=hB.drew
 refine wp_region_held_drew (S:=λW=>W.cell? ⟨w.heap.size,0,none⟩=some (.int .i64 3)) (by kernel_rfl) (pA.2.1 0 _ rfl) (λhHeld=>?_);generalize W0.drew=wd at *;refine tkQ 1 zBL ?_
 refine tkQ 2 zBN ?_
 refine rdQ 0 zBK (λK hK=>?_);go_simp
 refine (zAZ _).mono ?_;rintro e w1 ⟨⟨b,rfl,hM⟩,hb⟩;replace pA:=AtL.below hb pA
 replace hB:=zAB hB hb
 clear hb;go_wp2_with fail
 refine hkQ hK (pA.2.1 0 _ rfl) (λhHeld=>?_);clear hK K
 have hl:(Instr.lookup 199 (.map (some b)) (.int .i64 3) true).run prog w1=.ok (.tuple #[.func (.func 134) #[] #[],.bool true]) w1  :=zA1 (j:=2) zDI hM (zDH _ _ _) (by kernel_rfl);refine rdQ 3 zBO (λK hK=>?_);go_simp
 refine hkQ hK (pA.2.1 0 _ rfl) (λhHeld=>?_);clear hK K
 refine tkQ 4 zBH ?_
 refine tkQ 5 zBM ?_
 refine tkQ 6 zBP ?_
 refine rdQ 7 zBR (λK hK=>?_);go_simp
 refine hkQ hK (pA.2.1 0 _ rfl) (λhHeld=>?_);clear hK K
 refine rdQ 8 zBJ (λK hK=>?_);go_simp
 refine hkQ hK (pA.2.1 0 _ rfl) (λhHeld=>?_);clear hK K
 refine wpAnyH_done (by kernel_rfl) ?_ _;clear hHeld hl hM;have rA:=pA.range;clear pA;go_wp2_with (first | (refine zAA (by rfl) 193 (.tmp 1) rfl w.heap.size 0 rfl (zAE 3 n k) _ rA underlying193 rfl (by kernel_rfl) ?_) | (refine zAJ rfl 204 _ rfl _ rfl (zAE 3 n k) (by kernel_rfl) ?_) | (go_at_call 134;refine (zLd 3 n k _).mono ?_;rintro e w2 ⟨⟨t,p,rfl⟩,hb2⟩;replace hB:=zAB hB hb2;clear hb2))
 go_ret2
 exact ⟨⟨_,rfl⟩,(clB hB)⟩
theorem zM6 (n k:Int) (w:World):Calls prog 124 #[.agg (zAE 4 n k).toArray] w λe w'=>(∃ v,e=.returned (.tuple #[v,.bool true]))/\Below w.heap.size w w':=by
 have pA:=AtL.new0 w 193 (zAE 4 n k);have hB:=zAL (Below.refl _ w) (.cells (zAE 4 n k).toArray 193);have eg:∀ args w,(callFunc 135 args).run prog w=.ok (.enter 135 args) w:=λ_ _=>by kernel_rfl
 go_enter func124,ntmps124;go_upto_region 1 with fail
 generalize (w.alloc (.cells (zAE 4 n k).toArray 193))=W0 at *;replace pA:=AtL.drew pA
 replace hB:=hB.drew
 refine wp_region_held_drew (S:=λW=>W.cell? ⟨w.heap.size,0,none⟩=some (.int .i64 4)) (by kernel_rfl) (pA.2.1 0 _ rfl) (λhHeld=>?_);generalize W0.drew=wd at *;refine tkQ 1 zBL ?_
 refine tkQ 2 zBN ?_
 refine rdQ 0 zBK (λK hK=>?_);go_simp
 refine (zAZ _).mono ?_;rintro e w1 ⟨⟨b,rfl,hM⟩,hb⟩;replace pA:=AtL.below hb pA
 replace hB:=zAB hB hb
 clear hb;go_wp2_with fail
 refine hkQ hK (pA.2.1 0 _ rfl) (λhHeld=>?_);clear hK K
 have hl:(Instr.lookup 199 (.map (some b)) (.int .i64 4) true).run prog w1=.ok (.tuple #[.func (.func 135) #[] #[],.bool true]) w1  :=zA1 (j:=3) zDI hM (zDH _ _ _) (by kernel_rfl);refine rdQ 3 zBO (λK hK=>?_);go_simp
 refine hkQ hK (pA.2.1 0 _ rfl) (λhHeld=>?_);clear hK K
 refine tkQ 4 zBH ?_
 refine tkQ 5 zBM ?_
 refine tkQ 6 zBP ?_
 refine rdQ 7 zBR (λK hK=>?_);go_simp
 refine hkQ hK (pA.2.1 0 _ rfl) (λhHeld=>?_);clear hK K
 refine rdQ 8 zBJ (λK hK=>?_);go_simp
 refine hkQ hK (pA.2.1 0 _ rfl) (λhHeld=>?_);clear hK K
 refine wpAnyH_done (by kernel_rfl) ?_ _;clear hHeld hl hM;have rA:=pA.range;clear pA;go_wp2_with (first | (refine zAA (by rfl) 193 (.tmp 1) rfl w.heap.size 0 rfl (zAE 4 n k) _ rA underlying193 rfl (by kernel_rfl) ?_) | (refine zAJ rfl 204 _ rfl _ rfl (zAE 4 n k) (by kernel_rfl) ?_) | (go_at_call 135;refine (zHS 4 n k _).mono ?_;rintro e w2 ⟨⟨t,p,rfl⟩,hb2⟩;replace hB:=zAB hB hb2;clear hb2))
 go_ret2
 exact ⟨⟨_,rfl⟩,(clB hB)⟩
theorem zND (n k:Int) (w:World):Calls prog 124 #[.agg (zAE 5 n k).toArray] w λe w'=>(∃ v,e=.returned (.tuple #[v,.bool true]))/\Below w.heap.size w w':=by
 have pA:=AtL.new0 w 193 (zAE 5 n k);have hB:=zAL (Below.refl _ w) (.cells (zAE 5 n k).toArray 193);have eg:∀ args w,(callFunc 136 args).run prog w=.ok (.enter 136 args) w:=λ_ _=>by kernel_rfl
 go_enter func124,ntmps124;go_upto_region 1 with fail
 generalize (w.alloc (.cells (zAE 5 n k).toArray 193))=W0 at *;replace pA:=AtL.drew pA
 replace hB:=hB.drew
 refine wp_region_held_drew (S:=λW=>W.cell? ⟨w.heap.size,0,none⟩=some (.int .i64 5)) (by kernel_rfl) (pA.2.1 0 _ rfl) (λhHeld=>?_);generalize W0.drew=wd at *;refine tkQ 1 zBL ?_
 refine tkQ 2 zBN ?_
 refine rdQ 0 zBK (λK hK=>?_);go_simp
 refine (zAZ _).mono ?_;rintro e w1 ⟨⟨b,rfl,hM⟩,hb⟩;replace pA:=AtL.below hb pA
 replace hB:=zAB hB hb
 clear hb;go_wp2_with fail
 refine hkQ hK (pA.2.1 0 _ rfl) (λhHeld=>?_);clear hK K
 have hl:(Instr.lookup 199 (.map (some b)) (.int .i64 5) true).run prog w1=.ok (.tuple #[.func (.func 136) #[] #[],.bool true]) w1  :=zA1 (j:=4) zDI hM (zDH _ _ _) (by kernel_rfl);refine rdQ 3 zBO (λK hK=>?_);go_simp
 refine hkQ hK (pA.2.1 0 _ rfl) (λhHeld=>?_);clear hK K
 refine tkQ 4 zBH ?_
 refine tkQ 5 zBM ?_
 refine tkQ 6 zBP ?_
 refine rdQ 7 zBR (λK hK=>?_);go_simp
 refine hkQ hK (pA.2.1 0 _ rfl) (λhHeld=>?_);clear hK K
 refine rdQ 8 zBJ (λK hK=>?_);go_simp
 refine hkQ hK (pA.2.1 0 _ rfl) (λhHeld=>?_);clear hK K
 refine wpAnyH_done (by kernel_rfl) ?_ _;clear hHeld hl hM;have rA:=pA.range;clear pA;go_wp2_with (first | (refine zAA (by rfl) 193 (.tmp 1) rfl w.heap.size 0 rfl (zAE 5 n k) _ rA underlying193 rfl (by kernel_rfl) ?_) | (refine zAJ rfl 204 _ rfl _ rfl (zAE 5 n k) (by kernel_rfl) ?_) | (go_at_call 136;refine (zJq 5 n k _).mono ?_;rintro e w2 ⟨⟨t,p,rfl⟩,hb2⟩;replace hB:=zAB hB hb2;clear hb2))
 go_ret2
 exact ⟨⟨_,rfl⟩,(clB hB)⟩
theorem zOH (n k:Int) (w:World):Calls prog 124 #[.agg (zAE 6 n k).toArray] w λe w'=>(∃ v,e=.returned (.tuple #[v,.bool true]))/\Below w.heap.size w w':=by
 have pA:=AtL.new0 w 193 (zAE 6 n k);have hB:=zAL (Below.refl _ w) (.cells (zAE 6 n k).toArray 193);have eg:∀ args w,(callFunc 137 args).run prog w=.ok (.enter 137 args) w:=λ_ _=>by kernel_rfl
 go_enter func124,ntmps124;go_upto_region 1 with fail
 generalize (w.alloc (.cells (zAE 6 n k).toArray 193))=W0 at *;replace pA:=AtL.drew pA
 replace hB:=hB.drew
 refine wp_region_held_drew (S:=λW=>W.cell? ⟨w.heap.size,0,none⟩=some (.int .i64 6)) (by kernel_rfl) (pA.2.1 0 _ rfl) (λhHeld=>?_);generalize W0.drew=wd at *;refine tkQ 1 zBL ?_
 refine tkQ 2 zBN ?_
 refine rdQ 0 zBK (λK hK=>?_);go_simp
 refine (zAZ _).mono ?_;rintro e w1 ⟨⟨b,rfl,hM⟩,hb⟩;replace pA:=AtL.below hb pA
 replace hB:=zAB hB hb
 clear hb;go_wp2_with fail
 refine hkQ hK (pA.2.1 0 _ rfl) (λhHeld=>?_);clear hK K
 have hl:(Instr.lookup 199 (.map (some b)) (.int .i64 6) true).run prog w1=.ok (.tuple #[.func (.func 137) #[] #[],.bool true]) w1  :=zA1 (j:=5) zDI hM (zDH _ _ _) (by kernel_rfl);refine rdQ 3 zBO (λK hK=>?_);go_simp
 refine hkQ hK (pA.2.1 0 _ rfl) (λhHeld=>?_);clear hK K
 refine tkQ 4 zBH ?_
 refine tkQ 5 zBM ?_
 refine tkQ 6 zBP ?_
 refine rdQ 7 zBR (λK hK=>?_);go_simp
 refine hkQ hK (pA.2.1 0 _ rfl) (λhHeld=>?_);clear hK K
 refine rdQ 8 zBJ (λK hK=>?_);go_simp
 refine hkQ hK (pA.2.1 0 _ rfl) (λhHeld=>?_);clear hK K
 refine wpAnyH_done (by kernel_rfl) ?_ _;clear hHeld hl hM;have rA:=pA.range;clear pA;go_wp2_with (first | (refine zAA (by rfl) 193 (.tmp 1) rfl w.heap.size 0 rfl (zAE 6 n k) _ rA underlying193 rfl (by kernel_rfl) ?_) | (refine zAJ rfl 204 _ rfl _ rfl (zAE 6 n k) (by kernel_rfl) ?_) | (go_at_call 137;refine (zFP 6 n k _).mono ?_;rintro e w2 ⟨⟨t,p,rfl⟩,hb2⟩;replace hB:=zAB hB hb2;clear hb2))
 go_ret2
 exact ⟨⟨_,rfl⟩,(clB hB)⟩
theorem zNX (n k:Int) (w:World):Calls prog 124 #[.agg (zAE 7 n k).toArray] w λe w'=>(∃ v,e=.returned (.tuple #[v,.bool true]))/\Below w.heap.size w w':=by
 have pA:=AtL.new0 w 193 (zAE 7 n k);have hB:=zAL (Below.refl _ w) (.cells (zAE 7 n k).toArray 193);have eg:∀ args w,(callFunc 138 args).run prog w=.ok (.enter 138 args) w:=λ_ _=>by kernel_rfl
 go_enter func124,ntmps124;go_upto_region 1 with fail
 generalize (w.alloc (.cells (zAE 7 n k).toArray 193))=W0 at *;replace pA:=AtL.drew pA
 replace hB:=hB.drew
 refine wp_region_held_drew (S:=λW=>W.cell? ⟨w.heap.size,0,none⟩=some (.int .i64 7)) (by kernel_rfl) (pA.2.1 0 _ rfl) (λhHeld=>?_);generalize W0.drew=wd at *;refine tkQ 1 zBL ?_
 refine tkQ 2 zBN ?_
 refine rdQ 0 zBK (λK hK=>?_);go_simp
 refine (zAZ _).mono ?_;rintro e w1 ⟨⟨b,rfl,hM⟩,hb⟩;replace pA:=AtL.below hb pA
 replace hB:=zAB hB hb
 clear hb;go_wp2_with fail
 refine hkQ hK (pA.2.1 0 _ rfl) (λhHeld=>?_);clear hK K
 have hl:(Instr.lookup 199 (.map (some b)) (.int .i64 7) true).run prog w1=.ok (.tuple #[.func (.func 138) #[] #[],.bool true]) w1  :=zA1 (j:=6) zDI hM (zDH _ _ _) (by kernel_rfl);refine rdQ 3 zBO (λK hK=>?_);go_simp
 refine hkQ hK (pA.2.1 0 _ rfl) (λhHeld=>?_);clear hK K
 refine tkQ 4 zBH ?_
 refine tkQ 5 zBM ?_
 refine tkQ 6 zBP ?_
 refine rdQ 7 zBR (λK hK=>?_);go_simp
 refine hkQ hK (pA.2.1 0 _ rfl) (λhHeld=>?_);clear hK K
 refine rdQ 8 zBJ (λK hK=>?_);go_simp
 refine hkQ hK (pA.2.1 0 _ rfl) (λhHeld=>?_);clear hK K
 refine wpAnyH_done (by kernel_rfl) ?_ _;clear hHeld hl hM;have rA:=pA.range;clear pA;go_wp2_with (first | (refine zAA (by rfl) 193 (.tmp 1) rfl w.heap.size 0 rfl (zAE 7 n k) _ rA underlying193 rfl (by kernel_rfl) ?_) | (refine zAJ rfl 204 _ rfl _ rfl (zAE 7 n k) (by kernel_rfl) ?_) | (go_at_call 138;refine (zGx 7 n k _).mono ?_;rintro e w2 ⟨⟨t,p,rfl⟩,hb2⟩;replace hB:=zAB hB hb2;clear hb2))
 go_ret2
 exact ⟨⟨_,rfl⟩,(clB hB)⟩
theorem zNo (n k:Int) (w:World):Calls prog 124 #[.agg (zAE 8 n k).toArray] w λe w'=>(∃ v,e=.returned (.tuple #[v,.bool true]))/\Below w.heap.size w w':=by
 have pA:=AtL.new0 w 193 (zAE 8 n k);have hB:=zAL (Below.refl _ w) (.cells (zAE 8 n k).toArray 193);have eg:∀ args w,(callFunc 139 args).run prog w=.ok (.enter 139 args) w:=λ_ _=>by kernel_rfl
 go_enter func124,ntmps124;go_upto_region 1 with fail
 generalize (w.alloc (.cells (zAE 8 n k).toArray 193))=W0 at *;replace pA:=AtL.drew pA
 replace hB:=hB.drew
 refine wp_region_held_drew (S:=λW=>W.cell? ⟨w.heap.size,0,none⟩=some (.int .i64 8)) (by kernel_rfl) (pA.2.1 0 _ rfl) (λhHeld=>?_);generalize W0.drew=wd at *;refine tkQ 1 zBL ?_
 refine tkQ 2 zBN ?_
 refine rdQ 0 zBK (λK hK=>?_);go_simp
 refine (zAZ _).mono ?_;rintro e w1 ⟨⟨b,rfl,hM⟩,hb⟩;replace pA:=AtL.below hb pA
 replace hB:=zAB hB hb
 clear hb;go_wp2_with fail
 refine hkQ hK (pA.2.1 0 _ rfl) (λhHeld=>?_);clear hK K
 have hl:(Instr.lookup 199 (.map (some b)) (.int .i64 8) true).run prog w1=.ok (.tuple #[.func (.func 139) #[] #[],.bool true]) w1  :=zA1 (j:=7) zDI hM (zDH _ _ _) (by kernel_rfl);refine rdQ 3 zBO (λK hK=>?_);go_simp
 refine hkQ hK (pA.2.1 0 _ rfl) (λhHeld=>?_);clear hK K
 refine tkQ 4 zBH ?_
 refine tkQ 5 zBM ?_
 refine tkQ 6 zBP ?_
 refine rdQ 7 zBR (λK hK=>?_);go_simp
 refine hkQ hK (pA.2.1 0 _ rfl) (λhHeld=>?_);clear hK K
 refine rdQ 8 zBJ (λK hK=>?_);go_simp
 refine hkQ hK (pA.2.1 0 _ rfl) (λhHeld=>?_);clear hK K
 refine wpAnyH_done (by kernel_rfl) ?_ _;clear hHeld hl hM;have rA:=pA.range;clear pA;go_wp2_with (first | (refine zAA (by rfl) 193 (.tmp 1) rfl w.heap.size 0 rfl (zAE 8 n k) _ rA underlying193 rfl (by kernel_rfl) ?_) | (refine zAJ rfl 204 _ rfl _ rfl (zAE 8 n k) (by kernel_rfl) ?_) | (go_at_call 139;refine (zPq 8 n k _).mono ?_;rintro e w2 ⟨⟨t,p,rfl⟩,hb2⟩;replace hB:=zAB hB hb2;clear hb2))
 go_ret2
 exact ⟨⟨_,rfl⟩,(clB hB)⟩
theorem zOD (n k:Int) (w:World):Calls prog 124 #[.agg (zAE 9 n k).toArray] w λe w'=>(∃ v,e=.returned (.tuple #[v,.bool true]))/\Below w.heap.size w w':=by
 have pA:=AtL.new0 w 193 (zAE 9 n k);have hB:=zAL (Below.refl _ w) (.cells (zAE 9 n k).toArray 193);have eg:∀ args w,(callFunc 140 args).run prog w=.ok (.enter 140 args) w:=λ_ _=>by kernel_rfl
 go_enter func124,ntmps124;go_upto_region 1 with fail
 generalize (w.alloc (.cells (zAE 9 n k).toArray 193))=W0 at *;replace pA:=AtL.drew pA
 replace hB:=hB.drew
 refine wp_region_held_drew (S:=λW=>W.cell? ⟨w.heap.size,0,none⟩=some (.int .i64 9)) (by kernel_rfl) (pA.2.1 0 _ rfl) (λhHeld=>?_);generalize W0.drew=wd at *;refine tkQ 1 zBL ?_
 refine tkQ 2 zBN ?_
 refine rdQ 0 zBK (λK hK=>?_);go_simp
 refine (zAZ _).mono ?_;rintro e w1 ⟨⟨b,rfl,hM⟩,hb⟩;replace pA:=AtL.below hb pA
 replace hB:=zAB hB hb
 clear hb;go_wp2_with fail
 refine hkQ hK (pA.2.1 0 _ rfl) (λhHeld=>?_);clear hK K
 have hl:(Instr.lookup 199 (.map (some b)) (.int .i64 9) true).run prog w1=.ok (.tuple #[.func (.func 140) #[] #[],.bool true]) w1  :=zA1 (j:=8) zDI hM (zDH _ _ _) (by kernel_rfl);refine rdQ 3 zBO (λK hK=>?_);go_simp
 refine hkQ hK (pA.2.1 0 _ rfl) (λhHeld=>?_);clear hK K
 refine tkQ 4 zBH ?_
 refine tkQ 5 zBM ?_
 refine tkQ 6 zBP ?_
 refine rdQ 7 zBR (λK hK=>?_);go_simp
 refine hkQ hK (pA.2.1 0 _ rfl) (λhHeld=>?_);clear hK K
 refine rdQ 8 zBJ (λK hK=>?_);go_simp
 refine hkQ hK (pA.2.1 0 _ rfl) (λhHeld=>?_);clear hK K
 refine wpAnyH_done (by kernel_rfl) ?_ _;clear hHeld hl hM;have rA:=pA.range;clear pA;go_wp2_with (first | (refine zAA (by rfl) 193 (.tmp 1) rfl w.heap.size 0 rfl (zAE 9 n k) _ rA underlying193 rfl (by kernel_rfl) ?_) | (refine zAJ rfl 204 _ rfl _ rfl (zAE 9 n k) (by kernel_rfl) ?_) | (go_at_call 140;refine (zRL 9 n k _).mono ?_;rintro e w2 ⟨⟨t,p,rfl⟩,hb2⟩;replace hB:=zAB hB hb2;clear hb2))
 go_ret2
 exact ⟨⟨_,rfl⟩,(clB hB)⟩
theorem zLQ (n k:Int) (w:World):Calls prog 124 #[.agg (zAE 10 n k).toArray] w λe w'=>(∃ v,e=.returned (.tuple #[v,.bool true]))/\Below w.heap.size w w':=by
 have pA:=AtL.new0 w 193 (zAE 10 n k);have hB:=zAL (Below.refl _ w) (.cells (zAE 10 n k).toArray 193);have eg:∀ args w,(callFunc 141 args).run prog w=.ok (.enter 141 args) w:=λ_ _=>by kernel_rfl
 go_enter func124,ntmps124;go_upto_region 1 with fail
 generalize (w.alloc (.cells (zAE 10 n k).toArray 193))=W0 at *;replace pA:=AtL.drew pA
 replace hB:=hB.drew
 refine wp_region_held_drew (S:=λW=>W.cell? ⟨w.heap.size,0,none⟩=some (.int .i64 10)) (by kernel_rfl) (pA.2.1 0 _ rfl) (λhHeld=>?_);generalize W0.drew=wd at *;refine tkQ 1 zBL ?_
 refine tkQ 2 zBN ?_
 refine rdQ 0 zBK (λK hK=>?_);go_simp
 refine (zAZ _).mono ?_;rintro e w1 ⟨⟨b,rfl,hM⟩,hb⟩;replace pA:=AtL.below hb pA
 replace hB:=zAB hB hb
 clear hb;go_wp2_with fail
 refine hkQ hK (pA.2.1 0 _ rfl) (λhHeld=>?_);clear hK K
 have hl:(Instr.lookup 199 (.map (some b)) (.int .i64 10) true).run prog w1=.ok (.tuple #[.func (.func 141) #[] #[],.bool true]) w1  :=zA1 (j:=9) zDI hM (zDH _ _ _) (by kernel_rfl);refine rdQ 3 zBO (λK hK=>?_);go_simp
 refine hkQ hK (pA.2.1 0 _ rfl) (λhHeld=>?_);clear hK K
 refine tkQ 4 zBH ?_
 refine tkQ 5 zBM ?_
 refine tkQ 6 zBP ?_
 refine rdQ 7 zBR (λK hK=>?_);go_simp
 refine hkQ hK (pA.2.1 0 _ rfl) (λhHeld=>?_);clear hK K
 refine rdQ 8 zBJ (λK hK=>?_);go_simp
 refine hkQ hK (pA.2.1 0 _ rfl) (λhHeld=>?_);clear hK K
 refine wpAnyH_done (by kernel_rfl) ?_ _;clear hHeld hl hM;have rA:=pA.range;clear pA;go_wp2_with (first | (refine zAA (by rfl) 193 (.tmp 1) rfl w.heap.size 0 rfl (zAE 10 n k) _ rA underlying193 rfl (by kernel_rfl) ?_) | (refine zAJ rfl 204 _ rfl _ rfl (zAE 10 n k) (by kernel_rfl) ?_) | (go_at_call 141;refine (zOy 10 n k _).mono ?_;rintro e w2 ⟨⟨t,p,rfl⟩,hb2⟩;replace hB:=zAB hB hb2;clear hb2))
 go_ret2
 exact ⟨⟨_,rfl⟩,(clB hB)⟩
theorem zK2 (n k:Int) (w:World):Calls prog 124 #[.agg (zAE 11 n k).toArray] w λe w'=>(∃ v,e=.returned (.tuple #[v,.bool true]))/\Below w.heap.size w w':=by
 have pA:=AtL.new0 w 193 (zAE 11 n k);have hB:=zAL (Below.refl _ w) (.cells (zAE 11 n k).toArray 193);have eg:∀ args w,(callFunc 142 args).run prog w=.ok (.enter 142 args) w:=λ_ _=>by kernel_rfl
 go_enter func124,ntmps124;go_upto_region 1 with fail
 generalize (w.alloc (.cells (zAE 11 n k).toArray 193))=W0 at *;replace pA:=AtL.drew pA
 replace hB:=hB.drew
 refine wp_region_held_drew (S:=λW=>W.cell? ⟨w.heap.size,0,none⟩=some (.int .i64 11)) (by kernel_rfl) (pA.2.1 0 _ rfl) (λhHeld=>?_);generalize W0.drew=wd at *;refine tkQ 1 zBL ?_
 refine tkQ 2 zBN ?_
 refine rdQ 0 zBK (λK hK=>?_);go_simp
 refine (zAZ _).mono ?_;rintro e w1 ⟨⟨b,rfl,hM⟩,hb⟩;replace pA:=AtL.below hb pA
 replace hB:=zAB hB hb
 clear hb;go_wp2_with fail
 refine hkQ hK (pA.2.1 0 _ rfl) (λhHeld=>?_);clear hK K
 have hl:(Instr.lookup 199 (.map (some b)) (.int .i64 11) true).run prog w1=.ok (.tuple #[.func (.func 142) #[] #[],.bool true]) w1  :=zA1 (j:=10) zDI hM (zDH _ _ _) (by kernel_rfl);refine rdQ 3 zBO (λK hK=>?_);go_simp
 refine hkQ hK (pA.2.1 0 _ rfl) (λhHeld=>?_);clear hK K
 refine tkQ 4 zBH ?_
 refine tkQ 5 zBM ?_
 refine tkQ 6 zBP ?_
 refine rdQ 7 zBR (λK hK=>?_);go_simp
 refine hkQ hK (pA.2.1 0 _ rfl) (λhHeld=>?_);clear hK K
 refine rdQ 8 zBJ (λK hK=>?_);go_simp
 refine hkQ hK (pA.2.1 0 _ rfl) (λhHeld=>?_);clear hK K
 refine wpAnyH_done (by kernel_rfl) ?_ _;clear hHeld hl hM;have rA:=pA.range;clear pA;go_wp2_with (first | (refine zAA (by rfl) 193 (.tmp 1) rfl w.heap.size 0 rfl (zAE 11 n k) _ rA underlying193 rfl (by kernel_rfl) ?_) | (refine zAJ rfl 204 _ rfl _ rfl (zAE 11 n k) (by kernel_rfl) ?_) | (go_at_call 142;refine (zJ0 11 n k _).mono ?_;rintro e w2 ⟨⟨t,p,rfl⟩,hb2⟩;replace hB:=zAB hB hb2;clear hb2))
 go_ret2
 exact ⟨⟨_,rfl⟩,(clB hB)⟩
theorem zKO (n k:Int) (w:World):Calls prog 124 #[.agg (zAE 12 n k).toArray] w λe w'=>(∃ v,e=.returned (.tuple #[v,.bool true]))/\Below w.heap.size w w':=by
 have pA:=AtL.new0 w 193 (zAE 12 n k);have hB:=zAL (Below.refl _ w) (.cells (zAE 12 n k).toArray 193);have eg:∀ args w,(callFunc 143 args).run prog w=.ok (.enter 143 args) w:=λ_ _=>by kernel_rfl
 go_enter func124,ntmps124;go_upto_region 1 with fail
 generalize (w.alloc (.cells (zAE 12 n k).toArray 193))=W0 at *;replace pA:=AtL.drew pA
 replace hB:=hB.drew
 refine wp_region_held_drew (S:=λW=>W.cell? ⟨w.heap.size,0,none⟩=some (.int .i64 12)) (by kernel_rfl) (pA.2.1 0 _ rfl) (λhHeld=>?_);generalize W0.drew=wd at *;refine tkQ 1 zBL ?_
 refine tkQ 2 zBN ?_
 refine rdQ 0 zBK (λK hK=>?_);go_simp
 refine (zAZ _).mono ?_;rintro e w1 ⟨⟨b,rfl,hM⟩,hb⟩;replace pA:=AtL.below hb pA
 replace hB:=zAB hB hb
 clear hb;go_wp2_with fail
 refine hkQ hK (pA.2.1 0 _ rfl) (λhHeld=>?_);clear hK K
 have hl:(Instr.lookup 199 (.map (some b)) (.int .i64 12) true).run prog w1=.ok (.tuple #[.func (.func 143) #[] #[],.bool true]) w1  :=zA1 (j:=11) zDI hM (zDH _ _ _) (by kernel_rfl);refine rdQ 3 zBO (λK hK=>?_);go_simp
 refine hkQ hK (pA.2.1 0 _ rfl) (λhHeld=>?_);clear hK K
 refine tkQ 4 zBH ?_
 refine tkQ 5 zBM ?_
 refine tkQ 6 zBP ?_
 refine rdQ 7 zBR (λK hK=>?_);go_simp
 refine hkQ hK (pA.2.1 0 _ rfl) (λhHeld=>?_);clear hK K
 refine rdQ 8 zBJ (λK hK=>?_);go_simp
 refine hkQ hK (pA.2.1 0 _ rfl) (λhHeld=>?_);clear hK K
 refine wpAnyH_done (by kernel_rfl) ?_ _;clear hHeld hl hM;have rA:=pA.range;clear pA;go_wp2_with (first | (refine zAA (by rfl) 193 (.tmp 1) rfl w.heap.size 0 rfl (zAE 12 n k) _ rA underlying193 rfl (by kernel_rfl) ?_) | (refine zAJ rfl 204 _ rfl _ rfl (zAE 12 n k) (by kernel_rfl) ?_) | (go_at_call 143;refine (zGe 12 n k _).mono ?_;rintro e w2 ⟨⟨t,p,rfl⟩,hb2⟩;replace hB:=zAB hB hb2;clear hb2))
 go_ret2
 exact ⟨⟨_,rfl⟩,(clB hB)⟩
theorem zKP (n k:Int) (w:World):Calls prog 124 #[.agg (zAE 13 n k).toArray] w λe w'=>(∃ v,e=.returned (.tuple #[v,.bool true]))/\Below w.heap.size w w':=by
 have pA:=AtL.new0 w 193 (zAE 13 n k);have hB:=zAL (Below.refl _ w) (.cells (zAE 13 n k).toArray 193);have eg:∀ args w,(callFunc 144 args).run prog w=.ok (.enter 144 args) w:=λ_ _=>by kernel_rfl
 go_enter func124,ntmps124;go_upto_region 1 with fail
 generalize (w.alloc (.cells (zAE 13 n k).toArray 193))=W0 at *;replace pA:=AtL.drew pA
 replace hB:=hB.drew
 refine wp_region_held_drew (S:=λW=>W.cell? ⟨w.heap.size,0,none⟩=some (.int .i64 13)) (by kernel_rfl) (pA.2.1 0 _ rfl) (λhHeld=>?_);generalize W0.drew=wd at *;refine tkQ 1 zBL ?_
 refine tkQ 2 zBN ?_
 refine rdQ 0 zBK (λK hK=>?_);go_simp
 refine (zAZ _).mono ?_;rintro e w1 ⟨⟨b,rfl,hM⟩,hb⟩;replace pA:=AtL.below hb pA
 replace hB:=zAB hB hb
 clear hb;go_wp2_with fail
 refine hkQ hK (pA.2.1 0 _ rfl) (λhHeld=>?_);clear hK K
 have hl:(Instr.lookup 199 (.map (some b)) (.int .i64 13) true).run prog w1=.ok (.tuple #[.func (.func 144) #[] #[],.bool true]) w1  :=zA1 (j:=12) zDI hM (zDH _ _ _) (by kernel_rfl);refine rdQ 3 zBO (λK hK=>?_);go_simp
 refine hkQ hK (pA.2.1 0 _ rfl) (λhHeld=>?_);clear hK K
 refine tkQ 4 zBH ?_
 refine tkQ 5 zBM ?_
 refine tkQ 6 zBP ?_
 refine rdQ 7 zBR (λK hK=>?_);go_simp
 refine hkQ hK (pA.2.1 0 _ rfl) (λhHeld=>?_);clear hK K
 refine rdQ 8 zBJ (λK hK=>?_);go_simp
 refine hkQ hK (pA.2.1 0 _ rfl) (λhHeld=>?_);clear hK K
 refine wpAnyH_done (by kernel_rfl) ?_ _;clear hHeld hl hM;have rA:=pA.range;clear pA;go_wp2_with (first | (refine zAA (by rfl) 193 (.tmp 1) rfl w.heap.size 0 rfl (zAE 13 n k) _ rA underlying193 rfl (by kernel_rfl) ?_) | (refine zAJ rfl 204 _ rfl _ rfl (zAE 13 n k) (by kernel_rfl) ?_) | (go_at_call 144;refine (zGp 13 n k _).mono ?_;rintro e w2 ⟨⟨t,p,rfl⟩,hb2⟩;replace hB:=zAB hB hb2;clear hb2))
 go_ret2
 exact ⟨⟨_,rfl⟩,(clB hB)⟩
theorem zKH (n k:Int) (w:World):Calls prog 124 #[.agg (zAE 14 n k).toArray] w λe w'=>(∃ v,e=.returned (.tuple #[v,.bool true]))/\Below w.heap.size w w':=by
 have pA:=AtL.new0 w 193 (zAE 14 n k);have hB:=zAL (Below.refl _ w) (.cells (zAE 14 n k).toArray 193);have eg:∀ args w,(callFunc 145 args).run prog w=.ok (.enter 145 args) w:=λ_ _=>by kernel_rfl
 go_enter func124,ntmps124;go_upto_region 1 with fail
 generalize (w.alloc (.cells (zAE 14 n k).toArray 193))=W0 at *;replace pA:=AtL.drew pA
 replace hB:=hB.drew
 refine wp_region_held_drew (S:=λW=>W.cell? ⟨w.heap.size,0,none⟩=some (.int .i64 14)) (by kernel_rfl) (pA.2.1 0 _ rfl) (λhHeld=>?_);generalize W0.drew=wd at *;refine tkQ 1 zBL ?_
 refine tkQ 2 zBN ?_
 refine rdQ 0 zBK (λK hK=>?_);go_simp
 refine (zAZ _).mono ?_;rintro e w1 ⟨⟨b,rfl,hM⟩,hb⟩;replace pA:=AtL.below hb pA
 replace hB:=zAB hB hb
 clear hb;go_wp2_with fail
 refine hkQ hK (pA.2.1 0 _ rfl) (λhHeld=>?_);clear hK K
 have hl:(Instr.lookup 199 (.map (some b)) (.int .i64 14) true).run prog w1=.ok (.tuple #[.func (.func 145) #[] #[],.bool true]) w1  :=zA1 (j:=13) zDI hM (zDH _ _ _) (by kernel_rfl);refine rdQ 3 zBO (λK hK=>?_);go_simp
 refine hkQ hK (pA.2.1 0 _ rfl) (λhHeld=>?_);clear hK K
 refine tkQ 4 zBH ?_
 refine tkQ 5 zBM ?_
 refine tkQ 6 zBP ?_
 refine rdQ 7 zBR (λK hK=>?_);go_simp
 refine hkQ hK (pA.2.1 0 _ rfl) (λhHeld=>?_);clear hK K
 refine rdQ 8 zBJ (λK hK=>?_);go_simp
 refine hkQ hK (pA.2.1 0 _ rfl) (λhHeld=>?_);clear hK K
 refine wpAnyH_done (by kernel_rfl) ?_ _;clear hHeld hl hM;have rA:=pA.range;clear pA;go_wp2_with (first | (refine zAA (by rfl) 193 (.tmp 1) rfl w.heap.size 0 rfl (zAE 14 n k) _ rA underlying193 rfl (by kernel_rfl) ?_) | (refine zAJ rfl 204 _ rfl _ rfl (zAE 14 n k) (by kernel_rfl) ?_) | (go_at_call 145;refine (zKx 14 n k _).mono ?_;rintro e w2 ⟨⟨t,p,rfl⟩,hb2⟩;replace hB:=zAB hB hb2;clear hb2))
 go_ret2
 exact ⟨⟨_,rfl⟩,(clB hB)⟩
theorem zLf (n k:Int) (w:World):Calls prog 124 #[.agg (zAE 15 n k).toArray] w λe w'=>(∃ v,e=.returned (.tuple #[v,.bool true]))/\Below w.heap.size w w':=by
 have pA:=AtL.new0 w 193 (zAE 15 n k);have hB:=zAL (Below.refl _ w) (.cells (zAE 15 n k).toArray 193);have eg:∀ args w,(callFunc 146 args).run prog w=.ok (.enter 146 args) w:=λ_ _=>by kernel_rfl
 go_enter func124,ntmps124;go_upto_region 1 with fail
 generalize (w.alloc (.cells (zAE 15 n k).toArray 193))=W0 at *;replace pA:=AtL.drew pA
 replace hB:=hB.drew
 refine wp_region_held_drew (S:=λW=>W.cell? ⟨w.heap.size,0,none⟩=some (.int .i64 15)) (by kernel_rfl) (pA.2.1 0 _ rfl) (λhHeld=>?_);generalize W0.drew=wd at *;refine tkQ 1 zBL ?_
 refine tkQ 2 zBN ?_
 refine rdQ 0 zBK (λK hK=>?_);go_simp
 refine (zAZ _).mono ?_;rintro e w1 ⟨⟨b,rfl,hM⟩,hb⟩;replace pA:=AtL.below hb pA
 replace hB:=zAB hB hb
 clear hb;go_wp2_with fail
 refine hkQ hK (pA.2.1 0 _ rfl) (λhHeld=>?_);clear hK K
 have hl:(Instr.lookup 199 (.map (some b)) (.int .i64 15) true).run prog w1=.ok (.tuple #[.func (.func 146) #[] #[],.bool true]) w1  :=zA1 (j:=14) zDI hM (zDH _ _ _) (by kernel_rfl);refine rdQ 3 zBO (λK hK=>?_);go_simp
 refine hkQ hK (pA.2.1 0 _ rfl) (λhHeld=>?_);clear hK K
 refine tkQ 4 zBH ?_
 refine tkQ 5 zBM ?_
 refine tkQ 6 zBP ?_
 refine rdQ 7 zBR (λK hK=>?_);go_simp
 refine hkQ hK (pA.2.1 0 _ rfl) (λhHeld=>?_);clear hK K
 refine rdQ 8 zBJ (λK hK=>?_);go_simp
 refine hkQ hK (pA.2.1 0 _ rfl) (λhHeld=>?_);clear hK K
 refine wpAnyH_done (by kernel_rfl) ?_ _;clear hHeld hl hM;have rA:=pA.range;clear pA;go_wp2_with (first | (refine zAA (by rfl) 193 (.tmp 1) rfl w.heap.size 0 rfl (zAE 15 n k) _ rA underlying193 rfl (by kernel_rfl) ?_) | (refine zAJ rfl 204 _ rfl _ rfl (zAE 15 n k) (by kernel_rfl) ?_) | (go_at_call 146;refine (zNz 15 n k _).mono ?_;rintro e w2 ⟨⟨t,p,rfl⟩,hb2⟩;replace hB:=zAB hB hb2;clear hb2))
 go_ret2
 exact ⟨⟨_,rfl⟩,(clB hB)⟩
theorem zL1 (n k:Int) (w:World):Calls prog 124 #[.agg (zAE 20 n k).toArray] w λe w'=>(∃ v,e=.returned (.tuple #[v,.bool true]))/\Below w.heap.size w w':=by
 have pA:=AtL.new0 w 193 (zAE 20 n k);have hB:=zAL (Below.refl _ w) (.cells (zAE 20 n k).toArray 193);have eg:∀ args w,(callFunc 147 args).run prog w=.ok (.enter 147 args) w:=λ_ _=>by kernel_rfl
 go_enter func124,ntmps124;go_upto_region 1 with fail
 generalize (w.alloc (.cells (zAE 20 n k).toArray 193))=W0 at *;replace pA:=AtL.drew pA
 replace hB:=hB.drew
 refine wp_region_held_drew (S:=λW=>W.cell? ⟨w.heap.size,0,none⟩=some (.int .i64 20)) (by kernel_rfl) (pA.2.1 0 _ rfl) (λhHeld=>?_);generalize W0.drew=wd at *;refine tkQ 1 zBL ?_
 refine tkQ 2 zBN ?_
 refine rdQ 0 zBK (λK hK=>?_);go_simp
 refine (zAZ _).mono ?_;rintro e w1 ⟨⟨b,rfl,hM⟩,hb⟩;replace pA:=AtL.below hb pA
 replace hB:=zAB hB hb
 clear hb;go_wp2_with fail
 refine hkQ hK (pA.2.1 0 _ rfl) (λhHeld=>?_);clear hK K
 have hl:(Instr.lookup 199 (.map (some b)) (.int .i64 20) true).run prog w1=.ok (.tuple #[.func (.func 147) #[] #[],.bool true]) w1  :=zA1 (j:=15) zDI hM (zDH _ _ _) (by kernel_rfl);refine rdQ 3 zBO (λK hK=>?_);go_simp
 refine hkQ hK (pA.2.1 0 _ rfl) (λhHeld=>?_);clear hK K
 refine tkQ 4 zBH ?_
 refine tkQ 5 zBM ?_
 refine tkQ 6 zBP ?_
 refine rdQ 7 zBR (λK hK=>?_);go_simp
 refine hkQ hK (pA.2.1 0 _ rfl) (λhHeld=>?_);clear hK K
 refine rdQ 8 zBJ (λK hK=>?_);go_simp
 refine hkQ hK (pA.2.1 0 _ rfl) (λhHeld=>?_);clear hK K
 refine wpAnyH_done (by kernel_rfl) ?_ _;clear hHeld hl hM;have rA:=pA.range;clear pA;go_wp2_with (first | (refine zAA (by rfl) 193 (.tmp 1) rfl w.heap.size 0 rfl (zAE 20 n k) _ rA underlying193 rfl (by kernel_rfl) ?_) | (refine zAJ rfl 204 _ rfl _ rfl (zAE 20 n k) (by kernel_rfl) ?_) | (go_at_call 147;refine (zK8 20 n k _).mono ?_;rintro e w2 ⟨⟨t,p,rfl⟩,hb2⟩;replace hB:=zAB hB hb2;clear hb2))
 go_ret2
 exact ⟨⟨_,rfl⟩,(clB hB)⟩
theorem zKI (n k:Int) (w:World):Calls prog 124 #[.agg (zAE 21 n k).toArray] w λe w'=>(∃ v,e=.returned (.tuple #[v,.bool true]))/\Below w.heap.size w w':=by
 have pA:=AtL.new0 w 193 (zAE 21 n k);have hB:=zAL (Below.refl _ w) (.cells (zAE 21 n k).toArray 193);have eg:∀ args w,(callFunc 148 args).run prog w=.ok (.enter 148 args) w:=λ_ _=>by kernel_rfl
 go_enter func124,ntmps124;go_upto_region 1 with fail
 generalize (w.alloc (.cells (zAE 21 n k).toArray 193))=W0 at *;replace pA:=AtL.drew pA
 replace hB:=hB.drew
 refine wp_region_held_drew (S:=λW=>W.cell? ⟨w.heap.size,0,none⟩=some (.int .i64 21)) (by kernel_rfl) (pA.2.1 0 _ rfl) (λhHeld=>?_);generalize W0.drew=wd at *;refine tkQ 1 zBL ?_
 refine tkQ 2 zBN ?_
 refine rdQ 0 zBK (λK hK=>?_);go_simp
 refine (zAZ _).mono ?_;rintro e w1 ⟨⟨b,rfl,hM⟩,hb⟩;replace pA:=AtL.below hb pA
 replace hB:=zAB hB hb
 clear hb;go_wp2_with fail
 refine hkQ hK (pA.2.1 0 _ rfl) (λhHeld=>?_);clear hK K
 have hl:(Instr.lookup 199 (.map (some b)) (.int .i64 21) true).run prog w1=.ok (.tuple #[.func (.func 148) #[] #[],.bool true]) w1  :=zA1 (j:=16) zDI hM (zDH _ _ _) (by kernel_rfl);refine rdQ 3 zBO (λK hK=>?_);go_simp
 refine hkQ hK (pA.2.1 0 _ rfl) (λhHeld=>?_);clear hK K
 refine tkQ 4 zBH ?_
 refine tkQ 5 zBM ?_
 refine tkQ 6 zBP ?_
 refine rdQ 7 zBR (λK hK=>?_);go_simp
 refine hkQ hK (pA.2.1 0 _ rfl) (λhHeld=>?_);clear hK K
 refine rdQ 8 zBJ (λK hK=>?_);go_simp
 refine hkQ hK (pA.2.1 0 _ rfl) (λhHeld=>?_);clear hK K
 refine wpAnyH_done (by kernel_rfl) ?_ _;clear hHeld hl hM;have rA:=pA.range;clear pA;go_wp2_with (first | (refine zAA (by rfl) 193 (.tmp 1) rfl w.heap.size 0 rfl (zAE 21 n k) _ rA underlying193 rfl (by kernel_rfl) ?_) | (refine zAJ rfl 204 _ rfl _ rfl (zAE 21 n k) (by kernel_rfl) ?_) | (go_at_call 148;refine (zGl 21 n k _).mono ?_;rintro e w2 ⟨⟨t,p,rfl⟩,hb2⟩;replace hB:=zAB hB hb2;clear hb2))
 go_ret2
 exact ⟨⟨_,rfl⟩,(clB hB)⟩
theorem zKL (n k:Int) (w:World):Calls prog 124 #[.agg (zAE 22 n k).toArray] w λe w'=>(∃ v,e=.returned (.tuple #[v,.bool true]))/\Below w.heap.size w w':=by
 have pA:=AtL.new0 w 193 (zAE 22 n k);have hB:=zAL (Below.refl _ w) (.cells (zAE 22 n k).toArray 193);have eg:∀ args w,(callFunc 149 args).run prog w=.ok (.enter 149 args) w:=λ_ _=>by kernel_rfl
 go_enter func124,ntmps124;go_upto_region 1 with fail
 generalize (w.alloc (.cells (zAE 22 n k).toArray 193))=W0 at *;replace pA:=AtL.drew pA
 replace hB:=hB.drew
 refine wp_region_held_drew (S:=λW=>W.cell? ⟨w.heap.size,0,none⟩=some (.int .i64 22)) (by kernel_rfl) (pA.2.1 0 _ rfl) (λhHeld=>?_);generalize W0.drew=wd at *;refine tkQ 1 zBL ?_
 refine tkQ 2 zBN ?_
 refine rdQ 0 zBK (λK hK=>?_);go_simp
 refine (zAZ _).mono ?_;rintro e w1 ⟨⟨b,rfl,hM⟩,hb⟩;replace pA:=AtL.below hb pA
 replace hB:=zAB hB hb
 clear hb;go_wp2_with fail
 refine hkQ hK (pA.2.1 0 _ rfl) (λhHeld=>?_);clear hK K
 have hl:(Instr.lookup 199 (.map (some b)) (.int .i64 22) true).run prog w1=.ok (.tuple #[.func (.func 149) #[] #[],.bool true]) w1  :=zA1 (j:=17) zDI hM (zDH _ _ _) (by kernel_rfl);refine rdQ 3 zBO (λK hK=>?_);go_simp
 refine hkQ hK (pA.2.1 0 _ rfl) (λhHeld=>?_);clear hK K
 refine tkQ 4 zBH ?_
 refine tkQ 5 zBM ?_
 refine tkQ 6 zBP ?_
 refine rdQ 7 zBR (λK hK=>?_);go_simp
 refine hkQ hK (pA.2.1 0 _ rfl) (λhHeld=>?_);clear hK K
 refine rdQ 8 zBJ (λK hK=>?_);go_simp
 refine hkQ hK (pA.2.1 0 _ rfl) (λhHeld=>?_);clear hK K
 refine wpAnyH_done (by kernel_rfl) ?_ _;clear hHeld hl hM;have rA:=pA.range;clear pA;go_wp2_with (first | (refine zAA (by rfl) 193 (.tmp 1) rfl w.heap.size 0 rfl (zAE 22 n k) _ rA underlying193 rfl (by kernel_rfl) ?_) | (refine zAJ rfl 204 _ rfl _ rfl (zAE 22 n k) (by kernel_rfl) ?_) | (go_at_call 149;refine (zJd 22 n k _).mono ?_;rintro e w2 ⟨⟨t,p,rfl⟩,hb2⟩;replace hB:=zAB hB hb2;clear hb2))
 go_ret2
 exact ⟨⟨_,rfl⟩,(clB hB)⟩
theorem zKr (n k:Int) (w:World):Calls prog 124 #[.agg (zAE 23 n k).toArray] w λe w'=>(∃ v,e=.returned (.tuple #[v,.bool true]))/\Below w.heap.size w w':=by
 have pA:=AtL.new0 w 193 (zAE 23 n k);have hB:=zAL (Below.refl _ w) (.cells (zAE 23 n k).toArray 193);have eg:∀ args w,(callFunc 150 args).run prog w=.ok (.enter 150 args) w:=λ_ _=>by kernel_rfl
 go_enter func124,ntmps124;go_upto_region 1 with fail
 generalize (w.alloc (.cells (zAE 23 n k).toArray 193))=W0 at *;replace pA:=AtL.drew pA
 replace hB:=hB.drew
 refine wp_region_held_drew (S:=λW=>W.cell? ⟨w.heap.size,0,none⟩=some (.int .i64 23)) (by kernel_rfl) (pA.2.1 0 _ rfl) (λhHeld=>?_);generalize W0.drew=wd at *;refine tkQ 1 zBL ?_
 refine tkQ 2 zBN ?_
 refine rdQ 0 zBK (λK hK=>?_);go_simp
 refine (zAZ _).mono ?_;rintro e w1 ⟨⟨b,rfl,hM⟩,hb⟩;replace pA:=AtL.below hb pA
 replace hB:=zAB hB hb
 clear hb;go_wp2_with fail
 refine hkQ hK (pA.2.1 0 _ rfl) (λhHeld=>?_);clear hK K
 have hl:(Instr.lookup 199 (.map (some b)) (.int .i64 23) true).run prog w1=.ok (.tuple #[.func (.func 150) #[] #[],.bool true]) w1  :=zA1 (j:=18) zDI hM (zDH _ _ _) (by kernel_rfl);refine rdQ 3 zBO (λK hK=>?_);go_simp
 refine hkQ hK (pA.2.1 0 _ rfl) (λhHeld=>?_);clear hK K
 refine tkQ 4 zBH ?_
 refine tkQ 5 zBM ?_
 refine tkQ 6 zBP ?_
 refine rdQ 7 zBR (λK hK=>?_);go_simp
 refine hkQ hK (pA.2.1 0 _ rfl) (λhHeld=>?_);clear hK K
 refine rdQ 8 zBJ (λK hK=>?_);go_simp
 refine hkQ hK (pA.2.1 0 _ rfl) (λhHeld=>?_);clear hK K
 refine wpAnyH_done (by kernel_rfl) ?_ _;clear hHeld hl hM;have rA:=pA.range;clear pA;go_wp2_with (first | (refine zAA (by rfl) 193 (.tmp 1) rfl w.heap.size 0 rfl (zAE 23 n k) _ rA underlying193 rfl (by kernel_rfl) ?_) | (refine zAJ rfl 204 _ rfl _ rfl (zAE 23 n k) (by kernel_rfl) ?_) | (go_at_call 150;refine (zIJ 23 n k _).mono ?_;rintro e w2 ⟨⟨t,p,rfl⟩,hb2⟩;replace hB:=zAB hB hb2;clear hb2))
 go_ret2
 exact ⟨⟨_,rfl⟩,(clB hB)⟩
theorem zLb (n k:Int) (w:World):Calls prog 124 #[.agg (zAE 24 n k).toArray] w λe w'=>(∃ v,e=.returned (.tuple #[v,.bool true]))/\Below w.heap.size w w':=by
 have pA:=AtL.new0 w 193 (zAE 24 n k);have hB:=zAL (Below.refl _ w) (.cells (zAE 24 n k).toArray 193);have eg:∀ args w,(callFunc 151 args).run prog w=.ok (.enter 151 args) w:=λ_ _=>by kernel_rfl
 go_enter func124,ntmps124;go_upto_region 1 with fail
 generalize (w.alloc (.cells (zAE 24 n k).toArray 193))=W0 at *;replace pA:=AtL.drew pA
 replace hB:=hB.drew
 refine wp_region_held_drew (S:=λW=>W.cell? ⟨w.heap.size,0,none⟩=some (.int .i64 24)) (by kernel_rfl) (pA.2.1 0 _ rfl) (λhHeld=>?_);generalize W0.drew=wd at *;refine tkQ 1 zBL ?_
 refine tkQ 2 zBN ?_
 refine rdQ 0 zBK (λK hK=>?_);go_simp
 refine (zAZ _).mono ?_;rintro e w1 ⟨⟨b,rfl,hM⟩,hb⟩;replace pA:=AtL.below hb pA
 replace hB:=zAB hB hb
 clear hb;go_wp2_with fail
 refine hkQ hK (pA.2.1 0 _ rfl) (λhHeld=>?_);clear hK K
 have hl:(Instr.lookup 199 (.map (some b)) (.int .i64 24) true).run prog w1=.ok (.tuple #[.func (.func 151) #[] #[],.bool true]) w1  :=zA1 (j:=19) zDI hM (zDH _ _ _) (by kernel_rfl);refine rdQ 3 zBO (λK hK=>?_);go_simp
 refine hkQ hK (pA.2.1 0 _ rfl) (λhHeld=>?_);clear hK K
 refine tkQ 4 zBH ?_
 refine tkQ 5 zBM ?_
 refine tkQ 6 zBP ?_
 refine rdQ 7 zBR (λK hK=>?_);go_simp
 refine hkQ hK (pA.2.1 0 _ rfl) (λhHeld=>?_);clear hK K
 refine rdQ 8 zBJ (λK hK=>?_);go_simp
 refine hkQ hK (pA.2.1 0 _ rfl) (λhHeld=>?_);clear hK K
 refine wpAnyH_done (by kernel_rfl) ?_ _;clear hHeld hl hM;have rA:=pA.range;clear pA;go_wp2_with (first | (refine zAA (by rfl) 193 (.tmp 1) rfl w.heap.size 0 rfl (zAE 24 n k) _ rA underlying193 rfl (by kernel_rfl) ?_) | (refine zAJ rfl 204 _ rfl _ rfl (zAE 24 n k) (by kernel_rfl) ?_) | (go_at_call 151;refine (zDh 24 n k _).mono ?_;rintro e w2 ⟨⟨t,p,rfl⟩,hb2⟩;replace hB:=zAB hB hb2;clear hb2))
 go_ret2
 exact ⟨⟨_,rfl⟩,(clB hB)⟩
theorem zLK (id:Int) (n k:Int) (w:World) (hno:∀ p ∈ kT,p.1 ≠ id):Calls prog 124 #[.agg (zAE id n k).toArray] w λe w'=>(∃ v,e=.returned (.tuple #[v,.bool false]))/\Below w.heap.size w w':=by
 have pA:=AtL.new0 w 193 (zAE id n k);have hB:=zAL (Below.refl _ w) (.cells (zAE id n k).toArray 193);go_enter func124,ntmps124;go_upto_region 1 with fail
 generalize (w.alloc (.cells (zAE id n k).toArray 193))=W0 at *;replace pA:=AtL.drew pA
 replace hB:=hB.drew
 refine wp_region_held_drew (S:=λW=>W.cell? ⟨w.heap.size,0,none⟩=some (.int .i64 id)) (by kernel_rfl) (pA.2.1 0 _ rfl) (λhHeld=>?_);generalize W0.drew=wd at *;refine tkQ 1 zBL ?_
 refine tkQ 2 zBN ?_
 refine rdQ 0 zBK (λK hK=>?_);go_simp
 refine (zAZ _).mono ?_;rintro e w1 ⟨⟨b,rfl,hM⟩,hb⟩;replace pA:=AtL.below hb pA
 replace hB:=zAB hB hb
 clear hb;go_wp2_with fail
 refine hkQ hK (pA.2.1 0 _ rfl) (λhHeld=>?_);clear hK K
 have hl:(Instr.lookup 199 (.map (some b)) (.int .i64 id) true).run prog w1=.ok (.tuple #[.nilFunc,.bool false]) w1:=zDC zDI hM (zDH _ _ _) (zH3 kT id hno w1) (by kernel_rfl);refine rdQ 3 zBO (λK hK=>?_);go_simp
 refine hkQ hK (pA.2.1 0 _ rfl) (λhHeld=>?_);clear hK K
 refine tkQ 4 zBH ?_
 refine tkQ 5 zBM ?_
 refine tkQ 6 zBP ?_
 refine rdQ 7 zBR (λK hK=>?_);go_simp
 refine hkQ hK (pA.2.1 0 _ rfl) (λhHeld=>?_);clear hK K
 refine rdQ 8 zBJ (λK hK=>?_);go_simp
 refine hkQ hK (pA.2.1 0 _ rfl) (λhHeld=>?_);clear hK K
 refine wpAnyH_done (by kernel_rfl) ?_ _;clear hHeld hl hM;have rA:=pA.range;clear pA;go_wp2;go_ret2
 exact ⟨⟨_,rfl⟩,hB⟩
