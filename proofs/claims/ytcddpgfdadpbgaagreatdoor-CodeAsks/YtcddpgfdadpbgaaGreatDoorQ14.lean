/- KStandB. -/
import Derived.Test.YtcddpgfdadpbgaaGreatDoorQ13
set_option maxHeartbeats 1600000
set_option maxRecDepth 100000
namespace Go.Proofs.YtcddpgfdadpbgaaGreatDoor
open Tryz
abbrev zAv:Oper:=⟨some 8,.fieldAddr 158 (.tmp 1) 0,0,"acc.go:105",#[],none⟩
abbrev zBB:Oper:=⟨some 9,.load 3 (.tmp 8),3,"acc.go:105",#[⟨1,.data⟩],none⟩
abbrev zBD:Oper:=⟨some 7,.call {callee:=Callee.value (Operand.func 145),args:=#[],argTypes:=#[]},202,"acc.go:105",#[],none⟩
abbrev zBC:Oper:=⟨some 10,.lookup 202 (.tmp 7) (.tmp 9) Bool.true,201,"acc.go:105",#[⟨0,.data⟩,⟨2,.data⟩],none⟩
abbrev zAx:Oper:=⟨some 6,.move (.tmp 10),201,"acc.go:105",#[⟨3,.data⟩],none⟩
abbrev zBA:Oper:=⟨some 11,.extract (.tmp 6) 0,200,"acc.go:105",#[⟨4,.data⟩],none⟩
abbrev zAw:Oper:=⟨some 12,.extract (.tmp 6) 1,4,"acc.go:105",#[⟨4,.data⟩,⟨7,.gcOnly .lateStores⟩],none⟩
abbrev zAy:Oper:=⟨some 4,.assign (.tmp 11),200,"acc.go:105",#[⟨5,.data⟩,⟨0,.chain⟩,⟨0,.phase⟩,⟨1,.phase⟩,⟨2,.phase⟩,⟨3,.phase⟩,⟨4,.phase⟩,⟨5,.phase⟩,⟨6,.textOnly .lateStores⟩],none⟩
abbrev zAz:Oper:=⟨some 5,.assign (.tmp 12),4,"acc.go:105",#[⟨6,.data⟩,⟨7,.chain⟩,⟨0,.phase⟩,⟨1,.phase⟩,⟨2,.phase⟩,⟨3,.phase⟩,⟨4,.phase⟩,⟨5,.phase⟩,⟨6,.phase⟩,⟨7,.phase⟩],none⟩
open Go.RowKit
set_option linter.unusedVariables false
theorem zIk (n k:Int) (w:World):Calls prog 124 #[.agg (zAF 1 n k).toArray] w λe w'=>(∃ v,e=.returned (.tuple #[v,.bool true]))/\Below w.heap.size w w':=by
 have pA:=AtL.new0 w 158 (zAF 1 n k);have hB:=zAJ (Below.refl _ w) (.cells (zAF 1 n k).toArray 158);have eg:∀ args w,(callFunc 150 args).run prog w=.ok (.enter 150 args) w:=λ_ _=>by kernel_rfl
 go_enter func124,ntmps124;go_upto_region 1 with fail
 generalize (w.alloc (.cells (zAF 1 n k).toArray 158))=W0 at *;replace pA:=AtL.drew pA
 replace hB:=hB.drew
 refine wp_region_held_drew (S:=λW=>W.cell? ⟨w.heap.size,0,none⟩=some (.int .i64 1)) (by kernel_rfl) (pA.2.1 0 _ rfl) (λhHeld=>?_);generalize W0.drew=wd at *;refine tkQ 1 zAv ?_
 refine tkQ 2 zBB ?_
 refine rdQ 0 zBD (λK hK=>?_);go_simp
 refine (zAR _).mono ?_;rintro e w1 ⟨⟨b,rfl,hM⟩,hb⟩;replace pA:=AtL.below hb pA
 replace hB:=zAB hB hb
 clear hb;go_wp2_with fail
 refine hkQ hK (pA.2.1 0 _ rfl) (λhHeld=>?_);clear hK K
 have hl:(Instr.lookup 202 (.map (some b)) (.int .i64 1) true).run prog w1=.ok (.tuple #[.func (.func 150) #[] #[],.bool true]) w1  :=zAU (j:=0) zBp hM (zBo _ _ _) (by kernel_rfl);refine rdQ 3 zBC (λK hK=>?_);go_simp
 refine hkQ hK (pA.2.1 0 _ rfl) (λhHeld=>?_);clear hK K
 refine tkQ 4 zAx ?_
 refine tkQ 5 zBA ?_
 refine tkQ 6 zAw ?_
 refine rdQ 7 zAy (λK hK=>?_);go_simp
 refine hkQ hK (pA.2.1 0 _ rfl) (λhHeld=>?_);clear hK K
 refine rdQ 8 zAz (λK hK=>?_);go_simp
 refine hkQ hK (pA.2.1 0 _ rfl) (λhHeld=>?_);clear hK K
 refine wpAnyH_done (by kernel_rfl) ?_ _;clear hHeld hl hM;have rA:=pA.range;clear pA;go_wp2_with (first | (refine zAA (by rfl) 158 (.tmp 1) rfl w.heap.size 0 rfl (zAF 1 n k) _ rA underlying158 rfl (by kernel_rfl) ?_) | (refine zAH rfl 207 _ rfl _ rfl (zAF 1 n k) (by kernel_rfl) ?_) | (go_at_call 150;refine (zKd 1 n k _).mono ?_;rintro e w2 ⟨⟨t,p,rfl⟩,hb2⟩;replace hB:=zAB hB hb2;clear hb2))
 go_ret2
 exact ⟨⟨_,rfl⟩,(clB hB)⟩
theorem zJ9 (n k:Int) (w:World):Calls prog 124 #[.agg (zAF 2 n k).toArray] w λe w'=>(∃ v,e=.returned (.tuple #[v,.bool true]))/\Below w.heap.size w w':=by
 have pA:=AtL.new0 w 158 (zAF 2 n k);have hB:=zAJ (Below.refl _ w) (.cells (zAF 2 n k).toArray 158);have eg:∀ args w,(callFunc 151 args).run prog w=.ok (.enter 151 args) w:=λ_ _=>by kernel_rfl
 go_enter func124,ntmps124;go_upto_region 1 with fail
 generalize (w.alloc (.cells (zAF 2 n k).toArray 158))=W0 at *;replace pA:=AtL.drew pA
 replace hB:=hB.drew
 refine wp_region_held_drew (S:=λW=>W.cell? ⟨w.heap.size,0,none⟩=some (.int .i64 2)) (by kernel_rfl) (pA.2.1 0 _ rfl) (λhHeld=>?_);generalize W0.drew=wd at *;refine tkQ 1 zAv ?_
 refine tkQ 2 zBB ?_
 refine rdQ 0 zBD (λK hK=>?_);go_simp
 refine (zAR _).mono ?_;rintro e w1 ⟨⟨b,rfl,hM⟩,hb⟩;replace pA:=AtL.below hb pA
 replace hB:=zAB hB hb
 clear hb;go_wp2_with fail
 refine hkQ hK (pA.2.1 0 _ rfl) (λhHeld=>?_);clear hK K
 have hl:(Instr.lookup 202 (.map (some b)) (.int .i64 2) true).run prog w1=.ok (.tuple #[.func (.func 151) #[] #[],.bool true]) w1  :=zAU (j:=1) zBp hM (zBo _ _ _) (by kernel_rfl);refine rdQ 3 zBC (λK hK=>?_);go_simp
 refine hkQ hK (pA.2.1 0 _ rfl) (λhHeld=>?_);clear hK K
 refine tkQ 4 zAx ?_
 refine tkQ 5 zBA ?_
 refine tkQ 6 zAw ?_
 refine rdQ 7 zAy (λK hK=>?_);go_simp
 refine hkQ hK (pA.2.1 0 _ rfl) (λhHeld=>?_);clear hK K
 refine rdQ 8 zAz (λK hK=>?_);go_simp
 refine hkQ hK (pA.2.1 0 _ rfl) (λhHeld=>?_);clear hK K
 refine wpAnyH_done (by kernel_rfl) ?_ _;clear hHeld hl hM;have rA:=pA.range;clear pA;go_wp2_with (first | (refine zAA (by rfl) 158 (.tmp 1) rfl w.heap.size 0 rfl (zAF 2 n k) _ rA underlying158 rfl (by kernel_rfl) ?_) | (refine zAH rfl 207 _ rfl _ rfl (zAF 2 n k) (by kernel_rfl) ?_) | (go_at_call 151;refine (zEQ 2 n k _).mono ?_;rintro e w2 ⟨⟨t,p,rfl⟩,hb2⟩;replace hB:=zAB hB hb2;clear hb2))
 go_ret2
 exact ⟨⟨_,rfl⟩,(clB hB)⟩
theorem zJi (n k:Int) (w:World):Calls prog 124 #[.agg (zAF 3 n k).toArray] w λe w'=>(∃ v,e=.returned (.tuple #[v,.bool true]))/\Below w.heap.size w w':=by
 have pA:=AtL.new0 w 158 (zAF 3 n k);have hB:=zAJ (Below.refl _ w) (.cells (zAF 3 n k).toArray 158);have eg:∀ args w,(callFunc 152 args).run prog w=.ok (.enter 152 args) w:=λ_ _=>by kernel_rfl
 go_enter func124,ntmps124;go_upto_region 1 with fail
 generalize (w.alloc (.cells (zAF 3 n k).toArray 158))=W0 at *;replace pA:=AtL.drew pA
 replace hB:=hB.drew
 refine wp_region_held_drew (S:=λW=>W.cell? ⟨w.heap.size,0,none⟩=some (.int .i64 3)) (by kernel_rfl) (pA.2.1 0 _ rfl) (λhHeld=>?_);generalize W0.drew=wd at *;refine tkQ 1 zAv ?_
 refine tkQ 2 zBB ?_
 refine rdQ 0 zBD (λK hK=>?_);go_simp
 refine (zAR _).mono ?_;rintro e w1 ⟨⟨b,rfl,hM⟩,hb⟩;replace pA:=AtL.below hb pA
 replace hB:=zAB hB hb
 clear hb;go_wp2_with fail
 refine hkQ hK (pA.2.1 0 _ rfl) (λhHeld=>?_);clear hK K
 have hl:(Instr.lookup 202 (.map (some b)) (.int .i64 3) true).run prog w1=.ok (.tuple #[.func (.func 152) #[] #[],.bool true]) w1  :=zAU (j:=2) zBp hM (zBo _ _ _) (by kernel_rfl);refine rdQ 3 zBC (λK hK=>?_);go_simp
 refine hkQ hK (pA.2.1 0 _ rfl) (λhHeld=>?_);clear hK K
 refine tkQ 4 zAx ?_
 refine tkQ 5 zBA ?_
 refine tkQ 6 zAw ?_
 refine rdQ 7 zAy (λK hK=>?_);go_simp
 refine hkQ hK (pA.2.1 0 _ rfl) (λhHeld=>?_);clear hK K
 refine rdQ 8 zAz (λK hK=>?_);go_simp
 refine hkQ hK (pA.2.1 0 _ rfl) (λhHeld=>?_);clear hK K
 refine wpAnyH_done (by kernel_rfl) ?_ _;clear hHeld hl hM;have rA:=pA.range;clear pA;go_wp2_with (first | (refine zAA (by rfl) 158 (.tmp 1) rfl w.heap.size 0 rfl (zAF 3 n k) _ rA underlying158 rfl (by kernel_rfl) ?_) | (refine zAH rfl 207 _ rfl _ rfl (zAF 3 n k) (by kernel_rfl) ?_) | (go_at_call 152;refine (zH7 3 n k _).mono ?_;rintro e w2 ⟨⟨t,p,rfl⟩,hb2⟩;replace hB:=zAB hB hb2;clear hb2))
 go_ret2
 exact ⟨⟨_,rfl⟩,(clB hB)⟩
theorem zJY (n k:Int) (w:World):Calls prog 124 #[.agg (zAF 4 n k).toArray] w λe w'=>(∃ v,e=.returned (.tuple #[v,.bool true]))/\Below w.heap.size w w':=by
 have pA:=AtL.new0 w 158 (zAF 4 n k);have hB:=zAJ (Below.refl _ w) (.cells (zAF 4 n k).toArray 158);have eg:∀ args w,(callFunc 153 args).run prog w=.ok (.enter 153 args) w:=λ_ _=>by kernel_rfl
 go_enter func124,ntmps124;go_upto_region 1 with fail
 generalize (w.alloc (.cells (zAF 4 n k).toArray 158))=W0 at *;replace pA:=AtL.drew pA
 replace hB:=hB.drew
 refine wp_region_held_drew (S:=λW=>W.cell? ⟨w.heap.size,0,none⟩=some (.int .i64 4)) (by kernel_rfl) (pA.2.1 0 _ rfl) (λhHeld=>?_);generalize W0.drew=wd at *;refine tkQ 1 zAv ?_
 refine tkQ 2 zBB ?_
 refine rdQ 0 zBD (λK hK=>?_);go_simp
 refine (zAR _).mono ?_;rintro e w1 ⟨⟨b,rfl,hM⟩,hb⟩;replace pA:=AtL.below hb pA
 replace hB:=zAB hB hb
 clear hb;go_wp2_with fail
 refine hkQ hK (pA.2.1 0 _ rfl) (λhHeld=>?_);clear hK K
 have hl:(Instr.lookup 202 (.map (some b)) (.int .i64 4) true).run prog w1=.ok (.tuple #[.func (.func 153) #[] #[],.bool true]) w1  :=zAU (j:=3) zBp hM (zBo _ _ _) (by kernel_rfl);refine rdQ 3 zBC (λK hK=>?_);go_simp
 refine hkQ hK (pA.2.1 0 _ rfl) (λhHeld=>?_);clear hK K
 refine tkQ 4 zAx ?_
 refine tkQ 5 zBA ?_
 refine tkQ 6 zAw ?_
 refine rdQ 7 zAy (λK hK=>?_);go_simp
 refine hkQ hK (pA.2.1 0 _ rfl) (λhHeld=>?_);clear hK K
 refine rdQ 8 zAz (λK hK=>?_);go_simp
 refine hkQ hK (pA.2.1 0 _ rfl) (λhHeld=>?_);clear hK K
 refine wpAnyH_done (by kernel_rfl) ?_ _;clear hHeld hl hM;have rA:=pA.range;clear pA;go_wp2_with (first | (refine zAA (by rfl) 158 (.tmp 1) rfl w.heap.size 0 rfl (zAF 4 n k) _ rA underlying158 rfl (by kernel_rfl) ?_) | (refine zAH rfl 207 _ rfl _ rfl (zAF 4 n k) (by kernel_rfl) ?_) | (go_at_call 153;refine (zGG 4 n k _).mono ?_;rintro e w2 ⟨⟨t,p,rfl⟩,hb2⟩;replace hB:=zAB hB hb2;clear hb2))
 go_ret2
 exact ⟨⟨_,rfl⟩,(clB hB)⟩
theorem zJM (n k:Int) (w:World):Calls prog 124 #[.agg (zAF 5 n k).toArray] w λe w'=>(∃ v,e=.returned (.tuple #[v,.bool true]))/\Below w.heap.size w w':=by
 have pA:=AtL.new0 w 158 (zAF 5 n k);have hB:=zAJ (Below.refl _ w) (.cells (zAF 5 n k).toArray 158);have eg:∀ args w,(callFunc 154 args).run prog w=.ok (.enter 154 args) w:=λ_ _=>by kernel_rfl
 go_enter func124,ntmps124;go_upto_region 1 with fail
 generalize (w.alloc (.cells (zAF 5 n k).toArray 158))=W0 at *;replace pA:=AtL.drew pA
 replace hB:=hB.drew
 refine wp_region_held_drew (S:=λW=>W.cell? ⟨w.heap.size,0,none⟩=some (.int .i64 5)) (by kernel_rfl) (pA.2.1 0 _ rfl) (λhHeld=>?_);generalize W0.drew=wd at *;refine tkQ 1 zAv ?_
 refine tkQ 2 zBB ?_
 refine rdQ 0 zBD (λK hK=>?_);go_simp
 refine (zAR _).mono ?_;rintro e w1 ⟨⟨b,rfl,hM⟩,hb⟩;replace pA:=AtL.below hb pA
 replace hB:=zAB hB hb
 clear hb;go_wp2_with fail
 refine hkQ hK (pA.2.1 0 _ rfl) (λhHeld=>?_);clear hK K
 have hl:(Instr.lookup 202 (.map (some b)) (.int .i64 5) true).run prog w1=.ok (.tuple #[.func (.func 154) #[] #[],.bool true]) w1  :=zAU (j:=4) zBp hM (zBo _ _ _) (by kernel_rfl);refine rdQ 3 zBC (λK hK=>?_);go_simp
 refine hkQ hK (pA.2.1 0 _ rfl) (λhHeld=>?_);clear hK K
 refine tkQ 4 zAx ?_
 refine tkQ 5 zBA ?_
 refine tkQ 6 zAw ?_
 refine rdQ 7 zAy (λK hK=>?_);go_simp
 refine hkQ hK (pA.2.1 0 _ rfl) (λhHeld=>?_);clear hK K
 refine rdQ 8 zAz (λK hK=>?_);go_simp
 refine hkQ hK (pA.2.1 0 _ rfl) (λhHeld=>?_);clear hK K
 refine wpAnyH_done (by kernel_rfl) ?_ _;clear hHeld hl hM;have rA:=pA.range;clear pA;go_wp2_with (first | (refine zAA (by rfl) 158 (.tmp 1) rfl w.heap.size 0 rfl (zAF 5 n k) _ rA underlying158 rfl (by kernel_rfl) ?_) | (refine zAH rfl 207 _ rfl _ rfl (zAF 5 n k) (by kernel_rfl) ?_) | (go_at_call 154;refine (zHd 5 n k _).mono ?_;rintro e w2 ⟨⟨t,p,rfl⟩,hb2⟩;replace hB:=zAB hB hb2;clear hb2))
 go_ret2
 exact ⟨⟨_,rfl⟩,(clB hB)⟩
theorem zJP (n k:Int) (w:World):Calls prog 124 #[.agg (zAF 6 n k).toArray] w λe w'=>(∃ v,e=.returned (.tuple #[v,.bool true]))/\Below w.heap.size w w':=by
 have pA:=AtL.new0 w 158 (zAF 6 n k);have hB:=zAJ (Below.refl _ w) (.cells (zAF 6 n k).toArray 158);have eg:∀ args w,(callFunc 155 args).run prog w=.ok (.enter 155 args) w:=λ_ _=>by kernel_rfl
 go_enter func124,ntmps124;go_upto_region 1 with fail
 generalize (w.alloc (.cells (zAF 6 n k).toArray 158))=W0 at *;replace pA:=AtL.drew pA
 replace hB:=hB.drew
 refine wp_region_held_drew (S:=λW=>W.cell? ⟨w.heap.size,0,none⟩=some (.int .i64 6)) (by kernel_rfl) (pA.2.1 0 _ rfl) (λhHeld=>?_);generalize W0.drew=wd at *;refine tkQ 1 zAv ?_
 refine tkQ 2 zBB ?_
 refine rdQ 0 zBD (λK hK=>?_);go_simp
 refine (zAR _).mono ?_;rintro e w1 ⟨⟨b,rfl,hM⟩,hb⟩;replace pA:=AtL.below hb pA
 replace hB:=zAB hB hb
 clear hb;go_wp2_with fail
 refine hkQ hK (pA.2.1 0 _ rfl) (λhHeld=>?_);clear hK K
 have hl:(Instr.lookup 202 (.map (some b)) (.int .i64 6) true).run prog w1=.ok (.tuple #[.func (.func 155) #[] #[],.bool true]) w1  :=zAU (j:=5) zBp hM (zBo _ _ _) (by kernel_rfl);refine rdQ 3 zBC (λK hK=>?_);go_simp
 refine hkQ hK (pA.2.1 0 _ rfl) (λhHeld=>?_);clear hK K
 refine tkQ 4 zAx ?_
 refine tkQ 5 zBA ?_
 refine tkQ 6 zAw ?_
 refine rdQ 7 zAy (λK hK=>?_);go_simp
 refine hkQ hK (pA.2.1 0 _ rfl) (λhHeld=>?_);clear hK K
 refine rdQ 8 zAz (λK hK=>?_);go_simp
 refine hkQ hK (pA.2.1 0 _ rfl) (λhHeld=>?_);clear hK K
 refine wpAnyH_done (by kernel_rfl) ?_ _;clear hHeld hl hM;have rA:=pA.range;clear pA;go_wp2_with (first | (refine zAA (by rfl) 158 (.tmp 1) rfl w.heap.size 0 rfl (zAF 6 n k) _ rA underlying158 rfl (by kernel_rfl) ?_) | (refine zAH rfl 207 _ rfl _ rfl (zAF 6 n k) (by kernel_rfl) ?_) | (go_at_call 155;refine (zD6 6 n k _).mono ?_;rintro e w2 ⟨⟨t,p,rfl⟩,hb2⟩;replace hB:=zAB hB hb2;clear hb2))
 go_ret2
 exact ⟨⟨_,rfl⟩,(clB hB)⟩
theorem zJp (n k:Int) (w:World):Calls prog 124 #[.agg (zAF 7 n k).toArray] w λe w'=>(∃ v,e=.returned (.tuple #[v,.bool true]))/\Below w.heap.size w w':=by
 have pA:=AtL.new0 w 158 (zAF 7 n k);have hB:=zAJ (Below.refl _ w) (.cells (zAF 7 n k).toArray 158);have eg:∀ args w,(callFunc 156 args).run prog w=.ok (.enter 156 args) w:=λ_ _=>by kernel_rfl
 go_enter func124,ntmps124;go_upto_region 1 with fail
 generalize (w.alloc (.cells (zAF 7 n k).toArray 158))=W0 at *;replace pA:=AtL.drew pA
 replace hB:=hB.drew
 refine wp_region_held_drew (S:=λW=>W.cell? ⟨w.heap.size,0,none⟩=some (.int .i64 7)) (by kernel_rfl) (pA.2.1 0 _ rfl) (λhHeld=>?_);generalize W0.drew=wd at *;refine tkQ 1 zAv ?_
 refine tkQ 2 zBB ?_
 refine rdQ 0 zBD (λK hK=>?_);go_simp
 refine (zAR _).mono ?_;rintro e w1 ⟨⟨b,rfl,hM⟩,hb⟩;replace pA:=AtL.below hb pA
 replace hB:=zAB hB hb
 clear hb;go_wp2_with fail
 refine hkQ hK (pA.2.1 0 _ rfl) (λhHeld=>?_);clear hK K
 have hl:(Instr.lookup 202 (.map (some b)) (.int .i64 7) true).run prog w1=.ok (.tuple #[.func (.func 156) #[] #[],.bool true]) w1  :=zAU (j:=6) zBp hM (zBo _ _ _) (by kernel_rfl);refine rdQ 3 zBC (λK hK=>?_);go_simp
 refine hkQ hK (pA.2.1 0 _ rfl) (λhHeld=>?_);clear hK K
 refine tkQ 4 zAx ?_
 refine tkQ 5 zBA ?_
 refine tkQ 6 zAw ?_
 refine rdQ 7 zAy (λK hK=>?_);go_simp
 refine hkQ hK (pA.2.1 0 _ rfl) (λhHeld=>?_);clear hK K
 refine rdQ 8 zAz (λK hK=>?_);go_simp
 refine hkQ hK (pA.2.1 0 _ rfl) (λhHeld=>?_);clear hK K
 refine wpAnyH_done (by kernel_rfl) ?_ _;clear hHeld hl hM;have rA:=pA.range;clear pA;go_wp2_with (first | (refine zAA (by rfl) 158 (.tmp 1) rfl w.heap.size 0 rfl (zAF 7 n k) _ rA underlying158 rfl (by kernel_rfl) ?_) | (refine zAH rfl 207 _ rfl _ rfl (zAF 7 n k) (by kernel_rfl) ?_) | (go_at_call 156;refine (zE9 7 n k _).mono ?_;rintro e w2 ⟨⟨t,p,rfl⟩,hb2⟩;replace hB:=zAB hB hb2;clear hb2))
 go_ret2
 exact ⟨⟨_,rfl⟩,(clB hB)⟩
theorem zKH (n k:Int) (w:World):Calls prog 124 #[.agg (zAF 8 n k).toArray] w λe w'=>(∃ v,e=.returned (.tuple #[v,.bool true]))/\Below w.heap.size w w':=by
 have pA:=AtL.new0 w 158 (zAF 8 n k);have hB:=zAJ (Below.refl _ w) (.cells (zAF 8 n k).toArray 158);have eg:∀ args w,(callFunc 157 args).run prog w=.ok (.enter 157 args) w:=λ_ _=>by kernel_rfl
 go_enter func124,ntmps124;go_upto_region 1 with fail
 generalize (w.alloc (.cells (zAF 8 n k).toArray 158))=W0 at *;replace pA:=AtL.drew pA
 replace hB:=hB.drew
 refine wp_region_held_drew (S:=λW=>W.cell? ⟨w.heap.size,0,none⟩=some (.int .i64 8)) (by kernel_rfl) (pA.2.1 0 _ rfl) (λhHeld=>?_);generalize W0.drew=wd at *;refine tkQ 1 zAv ?_
 refine tkQ 2 zBB ?_
 refine rdQ 0 zBD (λK hK=>?_);go_simp
 refine (zAR _).mono ?_;rintro e w1 ⟨⟨b,rfl,hM⟩,hb⟩;replace pA:=AtL.below hb pA
 replace hB:=zAB hB hb
 clear hb;go_wp2_with fail
 refine hkQ hK (pA.2.1 0 _ rfl) (λhHeld=>?_);clear hK K
 have hl:(Instr.lookup 202 (.map (some b)) (.int .i64 8) true).run prog w1=.ok (.tuple #[.func (.func 157) #[] #[],.bool true]) w1  :=zAU (j:=7) zBp hM (zBo _ _ _) (by kernel_rfl);refine rdQ 3 zBC (λK hK=>?_);go_simp
 refine hkQ hK (pA.2.1 0 _ rfl) (λhHeld=>?_);clear hK K
 refine tkQ 4 zAx ?_
 refine tkQ 5 zBA ?_
 refine tkQ 6 zAw ?_
 refine rdQ 7 zAy (λK hK=>?_);go_simp
 refine hkQ hK (pA.2.1 0 _ rfl) (λhHeld=>?_);clear hK K
 refine rdQ 8 zAz (λK hK=>?_);go_simp
 refine hkQ hK (pA.2.1 0 _ rfl) (λhHeld=>?_);clear hK K
 refine wpAnyH_done (by kernel_rfl) ?_ _;clear hHeld hl hM;have rA:=pA.range;clear pA;go_wp2_with (first | (refine zAA (by rfl) 158 (.tmp 1) rfl w.heap.size 0 rfl (zAF 8 n k) _ rA underlying158 rfl (by kernel_rfl) ?_) | (refine zAH rfl 207 _ rfl _ rfl (zAF 8 n k) (by kernel_rfl) ?_) | (go_at_call 157;refine (zK6 8 n k _).mono ?_;rintro e w2 ⟨⟨t,p,rfl⟩,hb2⟩;replace hB:=zAB hB hb2;clear hb2))
 go_ret2
 exact ⟨⟨_,rfl⟩,(clB hB)⟩
theorem zJt (n k:Int) (w:World):Calls prog 124 #[.agg (zAF 9 n k).toArray] w λe w'=>(∃ v,e=.returned (.tuple #[v,.bool true]))/\Below w.heap.size w w':=by
 have pA:=AtL.new0 w 158 (zAF 9 n k);have hB:=zAJ (Below.refl _ w) (.cells (zAF 9 n k).toArray 158);have eg:∀ args w,(callFunc 158 args).run prog w=.ok (.enter 158 args) w:=λ_ _=>by kernel_rfl
 go_enter func124,ntmps124;go_upto_region 1 with fail
 generalize (w.alloc (.cells (zAF 9 n k).toArray 158))=W0 at *;replace pA:=AtL.drew pA
 replace hB:=hB.drew
 refine wp_region_held_drew (S:=λW=>W.cell? ⟨w.heap.size,0,none⟩=some (.int .i64 9)) (by kernel_rfl) (pA.2.1 0 _ rfl) (λhHeld=>?_);generalize W0.drew=wd at *;refine tkQ 1 zAv ?_
 refine tkQ 2 zBB ?_
 refine rdQ 0 zBD (λK hK=>?_);go_simp
 refine (zAR _).mono ?_;rintro e w1 ⟨⟨b,rfl,hM⟩,hb⟩;replace pA:=AtL.below hb pA
 replace hB:=zAB hB hb
 clear hb;go_wp2_with fail
 refine hkQ hK (pA.2.1 0 _ rfl) (λhHeld=>?_);clear hK K
 have hl:(Instr.lookup 202 (.map (some b)) (.int .i64 9) true).run prog w1=.ok (.tuple #[.func (.func 158) #[] #[],.bool true]) w1  :=zAU (j:=8) zBp hM (zBo _ _ _) (by kernel_rfl);refine rdQ 3 zBC (λK hK=>?_);go_simp
 refine hkQ hK (pA.2.1 0 _ rfl) (λhHeld=>?_);clear hK K
 refine tkQ 4 zAx ?_
 refine tkQ 5 zBA ?_
 refine tkQ 6 zAw ?_
 refine rdQ 7 zAy (λK hK=>?_);go_simp
 refine hkQ hK (pA.2.1 0 _ rfl) (λhHeld=>?_);clear hK K
 refine rdQ 8 zAz (λK hK=>?_);go_simp
 refine hkQ hK (pA.2.1 0 _ rfl) (λhHeld=>?_);clear hK K
 refine wpAnyH_done (by kernel_rfl) ?_ _;clear hHeld hl hM;have rA:=pA.range;clear pA;go_wp2_with (first | (refine zAA (by rfl) 158 (.tmp 1) rfl w.heap.size 0 rfl (zAF 9 n k) _ rA underlying158 rfl (by kernel_rfl) ?_) | (refine zAH rfl 207 _ rfl _ rfl (zAF 9 n k) (by kernel_rfl) ?_) | (go_at_call 158;refine (zLb 9 n k _).mono ?_;rintro e w2 ⟨⟨t,p,rfl⟩,hb2⟩;replace hB:=zAB hB hb2;clear hb2))
 go_ret2
 exact ⟨⟨_,rfl⟩,(clB hB)⟩
theorem zHX (n k:Int) (w:World):Calls prog 124 #[.agg (zAF 10 n k).toArray] w λe w'=>(∃ v,e=.returned (.tuple #[v,.bool true]))/\Below w.heap.size w w':=by
 have pA:=AtL.new0 w 158 (zAF 10 n k);have hB:=zAJ (Below.refl _ w) (.cells (zAF 10 n k).toArray 158);have eg:∀ args w,(callFunc 159 args).run prog w=.ok (.enter 159 args) w:=λ_ _=>by kernel_rfl
 go_enter func124,ntmps124;go_upto_region 1 with fail
 generalize (w.alloc (.cells (zAF 10 n k).toArray 158))=W0 at *;replace pA:=AtL.drew pA
 replace hB:=hB.drew
 refine wp_region_held_drew (S:=λW=>W.cell? ⟨w.heap.size,0,none⟩=some (.int .i64 10)) (by kernel_rfl) (pA.2.1 0 _ rfl) (λhHeld=>?_);generalize W0.drew=wd at *;refine tkQ 1 zAv ?_
 refine tkQ 2 zBB ?_
 refine rdQ 0 zBD (λK hK=>?_);go_simp
 refine (zAR _).mono ?_;rintro e w1 ⟨⟨b,rfl,hM⟩,hb⟩;replace pA:=AtL.below hb pA
 replace hB:=zAB hB hb
 clear hb;go_wp2_with fail
 refine hkQ hK (pA.2.1 0 _ rfl) (λhHeld=>?_);clear hK K
 have hl:(Instr.lookup 202 (.map (some b)) (.int .i64 10) true).run prog w1=.ok (.tuple #[.func (.func 159) #[] #[],.bool true]) w1  :=zAU (j:=9) zBp hM (zBo _ _ _) (by kernel_rfl);refine rdQ 3 zBC (λK hK=>?_);go_simp
 refine hkQ hK (pA.2.1 0 _ rfl) (λhHeld=>?_);clear hK K
 refine tkQ 4 zAx ?_
 refine tkQ 5 zBA ?_
 refine tkQ 6 zAw ?_
 refine rdQ 7 zAy (λK hK=>?_);go_simp
 refine hkQ hK (pA.2.1 0 _ rfl) (λhHeld=>?_);clear hK K
 refine rdQ 8 zAz (λK hK=>?_);go_simp
 refine hkQ hK (pA.2.1 0 _ rfl) (λhHeld=>?_);clear hK K
 refine wpAnyH_done (by kernel_rfl) ?_ _;clear hHeld hl hM;have rA:=pA.range;clear pA;go_wp2_with (first | (refine zAA (by rfl) 158 (.tmp 1) rfl w.heap.size 0 rfl (zAF 10 n k) _ rA underlying158 rfl (by kernel_rfl) ?_) | (refine zAH rfl 207 _ rfl _ rfl (zAF 10 n k) (by kernel_rfl) ?_) | (go_at_call 159;refine (zLK 10 n k _).mono ?_;rintro e w2 ⟨⟨t,p,rfl⟩,hb2⟩;replace hB:=zAB hB hb2;clear hb2))
 go_ret2
 exact ⟨⟨_,rfl⟩,(clB hB)⟩
theorem zG6 (n k:Int) (w:World):Calls prog 124 #[.agg (zAF 11 n k).toArray] w λe w'=>(∃ v,e=.returned (.tuple #[v,.bool true]))/\Below w.heap.size w w':=by
 have pA:=AtL.new0 w 158 (zAF 11 n k);have hB:=zAJ (Below.refl _ w) (.cells (zAF 11 n k).toArray 158);have eg:∀ args w,(callFunc 160 args).run prog w=.ok (.enter 160 args) w:=λ_ _=>by kernel_rfl
 go_enter func124,ntmps124;go_upto_region 1 with fail
 generalize (w.alloc (.cells (zAF 11 n k).toArray 158))=W0 at *;replace pA:=AtL.drew pA
 replace hB:=hB.drew
 refine wp_region_held_drew (S:=λW=>W.cell? ⟨w.heap.size,0,none⟩=some (.int .i64 11)) (by kernel_rfl) (pA.2.1 0 _ rfl) (λhHeld=>?_);generalize W0.drew=wd at *;refine tkQ 1 zAv ?_
 refine tkQ 2 zBB ?_
 refine rdQ 0 zBD (λK hK=>?_);go_simp
 refine (zAR _).mono ?_;rintro e w1 ⟨⟨b,rfl,hM⟩,hb⟩;replace pA:=AtL.below hb pA
 replace hB:=zAB hB hb
 clear hb;go_wp2_with fail
 refine hkQ hK (pA.2.1 0 _ rfl) (λhHeld=>?_);clear hK K
 have hl:(Instr.lookup 202 (.map (some b)) (.int .i64 11) true).run prog w1=.ok (.tuple #[.func (.func 160) #[] #[],.bool true]) w1  :=zAU (j:=10) zBp hM (zBo _ _ _) (by kernel_rfl);refine rdQ 3 zBC (λK hK=>?_);go_simp
 refine hkQ hK (pA.2.1 0 _ rfl) (λhHeld=>?_);clear hK K
 refine tkQ 4 zAx ?_
 refine tkQ 5 zBA ?_
 refine tkQ 6 zAw ?_
 refine rdQ 7 zAy (λK hK=>?_);go_simp
 refine hkQ hK (pA.2.1 0 _ rfl) (λhHeld=>?_);clear hK K
 refine rdQ 8 zAz (λK hK=>?_);go_simp
 refine hkQ hK (pA.2.1 0 _ rfl) (λhHeld=>?_);clear hK K
 refine wpAnyH_done (by kernel_rfl) ?_ _;clear hHeld hl hM;have rA:=pA.range;clear pA;go_wp2_with (first | (refine zAA (by rfl) 158 (.tmp 1) rfl w.heap.size 0 rfl (zAF 11 n k) _ rA underlying158 rfl (by kernel_rfl) ?_) | (refine zAH rfl 207 _ rfl _ rfl (zAF 11 n k) (by kernel_rfl) ?_) | (go_at_call 160;refine (zFP 11 n k _).mono ?_;rintro e w2 ⟨⟨t,p,rfl⟩,hb2⟩;replace hB:=zAB hB hb2;clear hb2))
 go_ret2
 exact ⟨⟨_,rfl⟩,(clB hB)⟩
theorem zGk (n k:Int) (w:World):Calls prog 124 #[.agg (zAF 12 n k).toArray] w λe w'=>(∃ v,e=.returned (.tuple #[v,.bool true]))/\Below w.heap.size w w':=by
 have pA:=AtL.new0 w 158 (zAF 12 n k);have hB:=zAJ (Below.refl _ w) (.cells (zAF 12 n k).toArray 158);have eg:∀ args w,(callFunc 161 args).run prog w=.ok (.enter 161 args) w:=λ_ _=>by kernel_rfl
 go_enter func124,ntmps124;go_upto_region 1 with fail
 generalize (w.alloc (.cells (zAF 12 n k).toArray 158))=W0 at *;replace pA:=AtL.drew pA
 replace hB:=hB.drew
 refine wp_region_held_drew (S:=λW=>W.cell? ⟨w.heap.size,0,none⟩=some (.int .i64 12)) (by kernel_rfl) (pA.2.1 0 _ rfl) (λhHeld=>?_);generalize W0.drew=wd at *;refine tkQ 1 zAv ?_
 refine tkQ 2 zBB ?_
 refine rdQ 0 zBD (λK hK=>?_);go_simp
 refine (zAR _).mono ?_;rintro e w1 ⟨⟨b,rfl,hM⟩,hb⟩;replace pA:=AtL.below hb pA
 replace hB:=zAB hB hb
 clear hb;go_wp2_with fail
 refine hkQ hK (pA.2.1 0 _ rfl) (λhHeld=>?_);clear hK K
 have hl:(Instr.lookup 202 (.map (some b)) (.int .i64 12) true).run prog w1=.ok (.tuple #[.func (.func 161) #[] #[],.bool true]) w1  :=zAU (j:=11) zBp hM (zBo _ _ _) (by kernel_rfl);refine rdQ 3 zBC (λK hK=>?_);go_simp
 refine hkQ hK (pA.2.1 0 _ rfl) (λhHeld=>?_);clear hK K
 refine tkQ 4 zAx ?_
 refine tkQ 5 zBA ?_
 refine tkQ 6 zAw ?_
 refine rdQ 7 zAy (λK hK=>?_);go_simp
 refine hkQ hK (pA.2.1 0 _ rfl) (λhHeld=>?_);clear hK K
 refine rdQ 8 zAz (λK hK=>?_);go_simp
 refine hkQ hK (pA.2.1 0 _ rfl) (λhHeld=>?_);clear hK K
 refine wpAnyH_done (by kernel_rfl) ?_ _;clear hHeld hl hM;have rA:=pA.range;clear pA;go_wp2_with (first | (refine zAA (by rfl) 158 (.tmp 1) rfl w.heap.size 0 rfl (zAF 12 n k) _ rA underlying158 rfl (by kernel_rfl) ?_) | (refine zAH rfl 207 _ rfl _ rfl (zAF 12 n k) (by kernel_rfl) ?_) | (go_at_call 161;refine (zE2 12 n k _).mono ?_;rintro e w2 ⟨⟨t,p,rfl⟩,hb2⟩;replace hB:=zAB hB hb2;clear hb2))
 go_ret2
 exact ⟨⟨_,rfl⟩,(clB hB)⟩
theorem zHe (n k:Int) (w:World):Calls prog 124 #[.agg (zAF 13 n k).toArray] w λe w'=>(∃ v,e=.returned (.tuple #[v,.bool true]))/\Below w.heap.size w w':=by
 have pA:=AtL.new0 w 158 (zAF 13 n k);have hB:=zAJ (Below.refl _ w) (.cells (zAF 13 n k).toArray 158);have eg:∀ args w,(callFunc 162 args).run prog w=.ok (.enter 162 args) w:=λ_ _=>by kernel_rfl
 go_enter func124,ntmps124;go_upto_region 1 with fail
 generalize (w.alloc (.cells (zAF 13 n k).toArray 158))=W0 at *;replace pA:=AtL.drew pA
 replace hB:=hB.drew
 refine wp_region_held_drew (S:=λW=>W.cell? ⟨w.heap.size,0,none⟩=some (.int .i64 13)) (by kernel_rfl) (pA.2.1 0 _ rfl) (λhHeld=>?_);generalize W0.drew=wd at *;refine tkQ 1 zAv ?_
 refine tkQ 2 zBB ?_
 refine rdQ 0 zBD (λK hK=>?_);go_simp
 refine (zAR _).mono ?_;rintro e w1 ⟨⟨b,rfl,hM⟩,hb⟩;replace pA:=AtL.below hb pA
 replace hB:=zAB hB hb
 clear hb;go_wp2_with fail
 refine hkQ hK (pA.2.1 0 _ rfl) (λhHeld=>?_);clear hK K
 have hl:(Instr.lookup 202 (.map (some b)) (.int .i64 13) true).run prog w1=.ok (.tuple #[.func (.func 162) #[] #[],.bool true]) w1  :=zAU (j:=12) zBp hM (zBo _ _ _) (by kernel_rfl);refine rdQ 3 zBC (λK hK=>?_);go_simp
 refine hkQ hK (pA.2.1 0 _ rfl) (λhHeld=>?_);clear hK K
 refine tkQ 4 zAx ?_
 refine tkQ 5 zBA ?_
 refine tkQ 6 zAw ?_
 refine rdQ 7 zAy (λK hK=>?_);go_simp
 refine hkQ hK (pA.2.1 0 _ rfl) (λhHeld=>?_);clear hK K
 refine rdQ 8 zAz (λK hK=>?_);go_simp
 refine hkQ hK (pA.2.1 0 _ rfl) (λhHeld=>?_);clear hK K
 refine wpAnyH_done (by kernel_rfl) ?_ _;clear hHeld hl hM;have rA:=pA.range;clear pA;go_wp2_with (first | (refine zAA (by rfl) 158 (.tmp 1) rfl w.heap.size 0 rfl (zAF 13 n k) _ rA underlying158 rfl (by kernel_rfl) ?_) | (refine zAH rfl 207 _ rfl _ rfl (zAF 13 n k) (by kernel_rfl) ?_) | (go_at_call 162;refine (zEX 13 n k _).mono ?_;rintro e w2 ⟨⟨t,p,rfl⟩,hb2⟩;replace hB:=zAB hB hb2;clear hb2))
 go_ret2
 exact ⟨⟨_,rfl⟩,(clB hB)⟩
theorem zHS (n k:Int) (w:World):Calls prog 124 #[.agg (zAF 14 n k).toArray] w λe w'=>(∃ v,e=.returned (.tuple #[v,.bool true]))/\Below w.heap.size w w':=by
 have pA:=AtL.new0 w 158 (zAF 14 n k);have hB:=zAJ (Below.refl _ w) (.cells (zAF 14 n k).toArray 158);have eg:∀ args w,(callFunc 163 args).run prog w=.ok (.enter 163 args) w:=λ_ _=>by kernel_rfl
 go_enter func124,ntmps124;go_upto_region 1 with fail
 generalize (w.alloc (.cells (zAF 14 n k).toArray 158))=W0 at *;replace pA:=AtL.drew pA
 replace hB:=hB.drew
 refine wp_region_held_drew (S:=λW=>W.cell? ⟨w.heap.size,0,none⟩=some (.int .i64 14)) (by kernel_rfl) (pA.2.1 0 _ rfl) (λhHeld=>?_);generalize W0.drew=wd at *;refine tkQ 1 zAv ?_
 refine tkQ 2 zBB ?_
 refine rdQ 0 zBD (λK hK=>?_);go_simp
 refine (zAR _).mono ?_;rintro e w1 ⟨⟨b,rfl,hM⟩,hb⟩;replace pA:=AtL.below hb pA
 replace hB:=zAB hB hb
 clear hb;go_wp2_with fail
 refine hkQ hK (pA.2.1 0 _ rfl) (λhHeld=>?_);clear hK K
 have hl:(Instr.lookup 202 (.map (some b)) (.int .i64 14) true).run prog w1=.ok (.tuple #[.func (.func 163) #[] #[],.bool true]) w1  :=zAU (j:=13) zBp hM (zBo _ _ _) (by kernel_rfl);refine rdQ 3 zBC (λK hK=>?_);go_simp
 refine hkQ hK (pA.2.1 0 _ rfl) (λhHeld=>?_);clear hK K
 refine tkQ 4 zAx ?_
 refine tkQ 5 zBA ?_
 refine tkQ 6 zAw ?_
 refine rdQ 7 zAy (λK hK=>?_);go_simp
 refine hkQ hK (pA.2.1 0 _ rfl) (λhHeld=>?_);clear hK K
 refine rdQ 8 zAz (λK hK=>?_);go_simp
 refine hkQ hK (pA.2.1 0 _ rfl) (λhHeld=>?_);clear hK K
 refine wpAnyH_done (by kernel_rfl) ?_ _;clear hHeld hl hM;have rA:=pA.range;clear pA;go_wp2_with (first | (refine zAA (by rfl) 158 (.tmp 1) rfl w.heap.size 0 rfl (zAF 14 n k) _ rA underlying158 rfl (by kernel_rfl) ?_) | (refine zAH rfl 207 _ rfl _ rfl (zAF 14 n k) (by kernel_rfl) ?_) | (go_at_call 163;refine (zHr 14 n k _).mono ?_;rintro e w2 ⟨⟨t,p,rfl⟩,hb2⟩;replace hB:=zAB hB hb2;clear hb2))
 go_ret2
 exact ⟨⟨_,rfl⟩,(clB hB)⟩
theorem zHl (n k:Int) (w:World):Calls prog 124 #[.agg (zAF 15 n k).toArray] w λe w'=>(∃ v,e=.returned (.tuple #[v,.bool true]))/\Below w.heap.size w w':=by
 have pA:=AtL.new0 w 158 (zAF 15 n k);have hB:=zAJ (Below.refl _ w) (.cells (zAF 15 n k).toArray 158);have eg:∀ args w,(callFunc 164 args).run prog w=.ok (.enter 164 args) w:=λ_ _=>by kernel_rfl
 go_enter func124,ntmps124;go_upto_region 1 with fail
 generalize (w.alloc (.cells (zAF 15 n k).toArray 158))=W0 at *;replace pA:=AtL.drew pA
 replace hB:=hB.drew
 refine wp_region_held_drew (S:=λW=>W.cell? ⟨w.heap.size,0,none⟩=some (.int .i64 15)) (by kernel_rfl) (pA.2.1 0 _ rfl) (λhHeld=>?_);generalize W0.drew=wd at *;refine tkQ 1 zAv ?_
 refine tkQ 2 zBB ?_
 refine rdQ 0 zBD (λK hK=>?_);go_simp
 refine (zAR _).mono ?_;rintro e w1 ⟨⟨b,rfl,hM⟩,hb⟩;replace pA:=AtL.below hb pA
 replace hB:=zAB hB hb
 clear hb;go_wp2_with fail
 refine hkQ hK (pA.2.1 0 _ rfl) (λhHeld=>?_);clear hK K
 have hl:(Instr.lookup 202 (.map (some b)) (.int .i64 15) true).run prog w1=.ok (.tuple #[.func (.func 164) #[] #[],.bool true]) w1  :=zAU (j:=14) zBp hM (zBo _ _ _) (by kernel_rfl);refine rdQ 3 zBC (λK hK=>?_);go_simp
 refine hkQ hK (pA.2.1 0 _ rfl) (λhHeld=>?_);clear hK K
 refine tkQ 4 zAx ?_
 refine tkQ 5 zBA ?_
 refine tkQ 6 zAw ?_
 refine rdQ 7 zAy (λK hK=>?_);go_simp
 refine hkQ hK (pA.2.1 0 _ rfl) (λhHeld=>?_);clear hK K
 refine rdQ 8 zAz (λK hK=>?_);go_simp
 refine hkQ hK (pA.2.1 0 _ rfl) (λhHeld=>?_);clear hK K
 refine wpAnyH_done (by kernel_rfl) ?_ _;clear hHeld hl hM;have rA:=pA.range;clear pA;go_wp2_with (first | (refine zAA (by rfl) 158 (.tmp 1) rfl w.heap.size 0 rfl (zAF 15 n k) _ rA underlying158 rfl (by kernel_rfl) ?_) | (refine zAH rfl 207 _ rfl _ rfl (zAF 15 n k) (by kernel_rfl) ?_) | (go_at_call 164;refine (zI5 15 n k _).mono ?_;rintro e w2 ⟨⟨t,p,rfl⟩,hb2⟩;replace hB:=zAB hB hb2;clear hb2))
 go_ret2
 exact ⟨⟨_,rfl⟩,(clB hB)⟩
theorem zHG (n k:Int) (w:World):Calls prog 124 #[.agg (zAF 20 n k).toArray] w λe w'=>(∃ v,e=.returned (.tuple #[v,.bool true]))/\Below w.heap.size w w':=by
 have pA:=AtL.new0 w 158 (zAF 20 n k);have hB:=zAJ (Below.refl _ w) (.cells (zAF 20 n k).toArray 158);have eg:∀ args w,(callFunc 165 args).run prog w=.ok (.enter 165 args) w:=λ_ _=>by kernel_rfl
 go_enter func124,ntmps124;go_upto_region 1 with fail
 generalize (w.alloc (.cells (zAF 20 n k).toArray 158))=W0 at *;replace pA:=AtL.drew pA
 replace hB:=hB.drew
 refine wp_region_held_drew (S:=λW=>W.cell? ⟨w.heap.size,0,none⟩=some (.int .i64 20)) (by kernel_rfl) (pA.2.1 0 _ rfl) (λhHeld=>?_);generalize W0.drew=wd at *;refine tkQ 1 zAv ?_
 refine tkQ 2 zBB ?_
 refine rdQ 0 zBD (λK hK=>?_);go_simp
 refine (zAR _).mono ?_;rintro e w1 ⟨⟨b,rfl,hM⟩,hb⟩;replace pA:=AtL.below hb pA
 replace hB:=zAB hB hb
 clear hb;go_wp2_with fail
 refine hkQ hK (pA.2.1 0 _ rfl) (λhHeld=>?_);clear hK K
 have hl:(Instr.lookup 202 (.map (some b)) (.int .i64 20) true).run prog w1=.ok (.tuple #[.func (.func 165) #[] #[],.bool true]) w1  :=zAU (j:=15) zBp hM (zBo _ _ _) (by kernel_rfl);refine rdQ 3 zBC (λK hK=>?_);go_simp
 refine hkQ hK (pA.2.1 0 _ rfl) (λhHeld=>?_);clear hK K
 refine tkQ 4 zAx ?_
 refine tkQ 5 zBA ?_
 refine tkQ 6 zAw ?_
 refine rdQ 7 zAy (λK hK=>?_);go_simp
 refine hkQ hK (pA.2.1 0 _ rfl) (λhHeld=>?_);clear hK K
 refine rdQ 8 zAz (λK hK=>?_);go_simp
 refine hkQ hK (pA.2.1 0 _ rfl) (λhHeld=>?_);clear hK K
 refine wpAnyH_done (by kernel_rfl) ?_ _;clear hHeld hl hM;have rA:=pA.range;clear pA;go_wp2_with (first | (refine zAA (by rfl) 158 (.tmp 1) rfl w.heap.size 0 rfl (zAF 20 n k) _ rA underlying158 rfl (by kernel_rfl) ?_) | (refine zAH rfl 207 _ rfl _ rfl (zAF 20 n k) (by kernel_rfl) ?_) | (go_at_call 165;refine (zGY 20 n k _).mono ?_;rintro e w2 ⟨⟨t,p,rfl⟩,hb2⟩;replace hB:=zAB hB hb2;clear hb2))
 go_ret2
 exact ⟨⟨_,rfl⟩,(clB hB)⟩
theorem zHw (n k:Int) (w:World):Calls prog 124 #[.agg (zAF 21 n k).toArray] w λe w'=>(∃ v,e=.returned (.tuple #[v,.bool true]))/\Below w.heap.size w w':=by
 have pA:=AtL.new0 w 158 (zAF 21 n k);have hB:=zAJ (Below.refl _ w) (.cells (zAF 21 n k).toArray 158);have eg:∀ args w,(callFunc 166 args).run prog w=.ok (.enter 166 args) w:=λ_ _=>by kernel_rfl
 go_enter func124,ntmps124;go_upto_region 1 with fail
 generalize (w.alloc (.cells (zAF 21 n k).toArray 158))=W0 at *;replace pA:=AtL.drew pA
 replace hB:=hB.drew
 refine wp_region_held_drew (S:=λW=>W.cell? ⟨w.heap.size,0,none⟩=some (.int .i64 21)) (by kernel_rfl) (pA.2.1 0 _ rfl) (λhHeld=>?_);generalize W0.drew=wd at *;refine tkQ 1 zAv ?_
 refine tkQ 2 zBB ?_
 refine rdQ 0 zBD (λK hK=>?_);go_simp
 refine (zAR _).mono ?_;rintro e w1 ⟨⟨b,rfl,hM⟩,hb⟩;replace pA:=AtL.below hb pA
 replace hB:=zAB hB hb
 clear hb;go_wp2_with fail
 refine hkQ hK (pA.2.1 0 _ rfl) (λhHeld=>?_);clear hK K
 have hl:(Instr.lookup 202 (.map (some b)) (.int .i64 21) true).run prog w1=.ok (.tuple #[.func (.func 166) #[] #[],.bool true]) w1  :=zAU (j:=16) zBp hM (zBo _ _ _) (by kernel_rfl);refine rdQ 3 zBC (λK hK=>?_);go_simp
 refine hkQ hK (pA.2.1 0 _ rfl) (λhHeld=>?_);clear hK K
 refine tkQ 4 zAx ?_
 refine tkQ 5 zBA ?_
 refine tkQ 6 zAw ?_
 refine rdQ 7 zAy (λK hK=>?_);go_simp
 refine hkQ hK (pA.2.1 0 _ rfl) (λhHeld=>?_);clear hK K
 refine rdQ 8 zAz (λK hK=>?_);go_simp
 refine hkQ hK (pA.2.1 0 _ rfl) (λhHeld=>?_);clear hK K
 refine wpAnyH_done (by kernel_rfl) ?_ _;clear hHeld hl hM;have rA:=pA.range;clear pA;go_wp2_with (first | (refine zAA (by rfl) 158 (.tmp 1) rfl w.heap.size 0 rfl (zAF 21 n k) _ rA underlying158 rfl (by kernel_rfl) ?_) | (refine zAH rfl 207 _ rfl _ rfl (zAF 21 n k) (by kernel_rfl) ?_) | (go_at_call 166;refine (zE6 21 n k _).mono ?_;rintro e w2 ⟨⟨t,p,rfl⟩,hb2⟩;replace hB:=zAB hB hb2;clear hb2))
 go_ret2
 exact ⟨⟨_,rfl⟩,(clB hB)⟩
theorem zIG (n k:Int) (w:World):Calls prog 124 #[.agg (zAF 22 n k).toArray] w λe w'=>(∃ v,e=.returned (.tuple #[v,.bool true]))/\Below w.heap.size w w':=by
 have pA:=AtL.new0 w 158 (zAF 22 n k);have hB:=zAJ (Below.refl _ w) (.cells (zAF 22 n k).toArray 158);have eg:∀ args w,(callFunc 167 args).run prog w=.ok (.enter 167 args) w:=λ_ _=>by kernel_rfl
 go_enter func124,ntmps124;go_upto_region 1 with fail
 generalize (w.alloc (.cells (zAF 22 n k).toArray 158))=W0 at *;replace pA:=AtL.drew pA
 replace hB:=hB.drew
 refine wp_region_held_drew (S:=λW=>W.cell? ⟨w.heap.size,0,none⟩=some (.int .i64 22)) (by kernel_rfl) (pA.2.1 0 _ rfl) (λhHeld=>?_);generalize W0.drew=wd at *;refine tkQ 1 zAv ?_
 refine tkQ 2 zBB ?_
 refine rdQ 0 zBD (λK hK=>?_);go_simp
 refine (zAR _).mono ?_;rintro e w1 ⟨⟨b,rfl,hM⟩,hb⟩;replace pA:=AtL.below hb pA
 replace hB:=zAB hB hb
 clear hb;go_wp2_with fail
 refine hkQ hK (pA.2.1 0 _ rfl) (λhHeld=>?_);clear hK K
 have hl:(Instr.lookup 202 (.map (some b)) (.int .i64 22) true).run prog w1=.ok (.tuple #[.func (.func 167) #[] #[],.bool true]) w1  :=zAU (j:=17) zBp hM (zBo _ _ _) (by kernel_rfl);refine rdQ 3 zBC (λK hK=>?_);go_simp
 refine hkQ hK (pA.2.1 0 _ rfl) (λhHeld=>?_);clear hK K
 refine tkQ 4 zAx ?_
 refine tkQ 5 zBA ?_
 refine tkQ 6 zAw ?_
 refine rdQ 7 zAy (λK hK=>?_);go_simp
 refine hkQ hK (pA.2.1 0 _ rfl) (λhHeld=>?_);clear hK K
 refine rdQ 8 zAz (λK hK=>?_);go_simp
 refine hkQ hK (pA.2.1 0 _ rfl) (λhHeld=>?_);clear hK K
 refine wpAnyH_done (by kernel_rfl) ?_ _;clear hHeld hl hM;have rA:=pA.range;clear pA;go_wp2_with (first | (refine zAA (by rfl) 158 (.tmp 1) rfl w.heap.size 0 rfl (zAF 22 n k) _ rA underlying158 rfl (by kernel_rfl) ?_) | (refine zAH rfl 207 _ rfl _ rfl (zAF 22 n k) (by kernel_rfl) ?_) | (go_at_call 167;refine (zGW 22 n k _).mono ?_;rintro e w2 ⟨⟨t,p,rfl⟩,hb2⟩;replace hB:=zAB hB hb2;clear hb2))
 go_ret2
 exact ⟨⟨_,rfl⟩,(clB hB)⟩
theorem zGo (n k:Int) (w:World):Calls prog 124 #[.agg (zAF 23 n k).toArray] w λe w'=>(∃ v,e=.returned (.tuple #[v,.bool true]))/\Below w.heap.size w w':=by
 have pA:=AtL.new0 w 158 (zAF 23 n k);have hB:=zAJ (Below.refl _ w) (.cells (zAF 23 n k).toArray 158);have eg:∀ args w,(callFunc 168 args).run prog w=.ok (.enter 168 args) w:=λ_ _=>by kernel_rfl
 go_enter func124,ntmps124;go_upto_region 1 with fail
 generalize (w.alloc (.cells (zAF 23 n k).toArray 158))=W0 at *;replace pA:=AtL.drew pA
 replace hB:=hB.drew
 refine wp_region_held_drew (S:=λW=>W.cell? ⟨w.heap.size,0,none⟩=some (.int .i64 23)) (by kernel_rfl) (pA.2.1 0 _ rfl) (λhHeld=>?_);generalize W0.drew=wd at *;refine tkQ 1 zAv ?_
 refine tkQ 2 zBB ?_
 refine rdQ 0 zBD (λK hK=>?_);go_simp
 refine (zAR _).mono ?_;rintro e w1 ⟨⟨b,rfl,hM⟩,hb⟩;replace pA:=AtL.below hb pA
 replace hB:=zAB hB hb
 clear hb;go_wp2_with fail
 refine hkQ hK (pA.2.1 0 _ rfl) (λhHeld=>?_);clear hK K
 have hl:(Instr.lookup 202 (.map (some b)) (.int .i64 23) true).run prog w1=.ok (.tuple #[.func (.func 168) #[] #[],.bool true]) w1  :=zAU (j:=18) zBp hM (zBo _ _ _) (by kernel_rfl);refine rdQ 3 zBC (λK hK=>?_);go_simp
 refine hkQ hK (pA.2.1 0 _ rfl) (λhHeld=>?_);clear hK K
 refine tkQ 4 zAx ?_
 refine tkQ 5 zBA ?_
 refine tkQ 6 zAw ?_
 refine rdQ 7 zAy (λK hK=>?_);go_simp
 refine hkQ hK (pA.2.1 0 _ rfl) (λhHeld=>?_);clear hK K
 refine rdQ 8 zAz (λK hK=>?_);go_simp
 refine hkQ hK (pA.2.1 0 _ rfl) (λhHeld=>?_);clear hK K
 refine wpAnyH_done (by kernel_rfl) ?_ _;clear hHeld hl hM;have rA:=pA.range;clear pA;go_wp2_with (first | (refine zAA (by rfl) 158 (.tmp 1) rfl w.heap.size 0 rfl (zAF 23 n k) _ rA underlying158 rfl (by kernel_rfl) ?_) | (refine zAH rfl 207 _ rfl _ rfl (zAF 23 n k) (by kernel_rfl) ?_) | (go_at_call 168;refine (zGD 23 n k _).mono ?_;rintro e w2 ⟨⟨t,p,rfl⟩,hb2⟩;replace hB:=zAB hB hb2;clear hb2))
 go_ret2
 exact ⟨⟨_,rfl⟩,(clB hB)⟩
theorem zHj (n k:Int) (w:World):Calls prog 124 #[.agg (zAF 24 n k).toArray] w λe w'=>(∃ v,e=.returned (.tuple #[v,.bool true]))/\Below w.heap.size w w':=by
 have pA:=AtL.new0 w 158 (zAF 24 n k);have hB:=zAJ (Below.refl _ w) (.cells (zAF 24 n k).toArray 158);have eg:∀ args w,(callFunc 169 args).run prog w=.ok (.enter 169 args) w:=λ_ _=>by kernel_rfl
 go_enter func124,ntmps124;go_upto_region 1 with fail
 generalize (w.alloc (.cells (zAF 24 n k).toArray 158))=W0 at *;replace pA:=AtL.drew pA
 replace hB:=hB.drew
 refine wp_region_held_drew (S:=λW=>W.cell? ⟨w.heap.size,0,none⟩=some (.int .i64 24)) (by kernel_rfl) (pA.2.1 0 _ rfl) (λhHeld=>?_);generalize W0.drew=wd at *;refine tkQ 1 zAv ?_
 refine tkQ 2 zBB ?_
 refine rdQ 0 zBD (λK hK=>?_);go_simp
 refine (zAR _).mono ?_;rintro e w1 ⟨⟨b,rfl,hM⟩,hb⟩;replace pA:=AtL.below hb pA
 replace hB:=zAB hB hb
 clear hb;go_wp2_with fail
 refine hkQ hK (pA.2.1 0 _ rfl) (λhHeld=>?_);clear hK K
 have hl:(Instr.lookup 202 (.map (some b)) (.int .i64 24) true).run prog w1=.ok (.tuple #[.func (.func 169) #[] #[],.bool true]) w1  :=zAU (j:=19) zBp hM (zBo _ _ _) (by kernel_rfl);refine rdQ 3 zBC (λK hK=>?_);go_simp
 refine hkQ hK (pA.2.1 0 _ rfl) (λhHeld=>?_);clear hK K
 refine tkQ 4 zAx ?_
 refine tkQ 5 zBA ?_
 refine tkQ 6 zAw ?_
 refine rdQ 7 zAy (λK hK=>?_);go_simp
 refine hkQ hK (pA.2.1 0 _ rfl) (λhHeld=>?_);clear hK K
 refine rdQ 8 zAz (λK hK=>?_);go_simp
 refine hkQ hK (pA.2.1 0 _ rfl) (λhHeld=>?_);clear hK K
 refine wpAnyH_done (by kernel_rfl) ?_ _;clear hHeld hl hM;have rA:=pA.range;clear pA;go_wp2_with (first | (refine zAA (by rfl) 158 (.tmp 1) rfl w.heap.size 0 rfl (zAF 24 n k) _ rA underlying158 rfl (by kernel_rfl) ?_) | (refine zAH rfl 207 _ rfl _ rfl (zAF 24 n k) (by kernel_rfl) ?_) | (go_at_call 169;refine (zCA 24 n k _).mono ?_;rintro e w2 ⟨⟨t,p,rfl⟩,hb2⟩;replace hB:=zAB hB hb2;clear hb2))
 go_ret2
 exact ⟨⟨_,rfl⟩,(clB hB)⟩
theorem zH2 (id:Int) (n k:Int) (w:World) (hno:∀ p ∈ kT,p.1 ≠ id):Calls prog 124 #[.agg (zAF id n k).toArray] w λe w'=>(∃ v,e=.returned (.tuple #[v,.bool false]))/\Below w.heap.size w w':=by
 have pA:=AtL.new0 w 158 (zAF id n k);have hB:=zAJ (Below.refl _ w) (.cells (zAF id n k).toArray 158);go_enter func124,ntmps124;go_upto_region 1 with fail
 generalize (w.alloc (.cells (zAF id n k).toArray 158))=W0 at *;replace pA:=AtL.drew pA
 replace hB:=hB.drew
 refine wp_region_held_drew (S:=λW=>W.cell? ⟨w.heap.size,0,none⟩=some (.int .i64 id)) (by kernel_rfl) (pA.2.1 0 _ rfl) (λhHeld=>?_);generalize W0.drew=wd at *;refine tkQ 1 zAv ?_
 refine tkQ 2 zBB ?_
 refine rdQ 0 zBD (λK hK=>?_);go_simp
 refine (zAR _).mono ?_;rintro e w1 ⟨⟨b,rfl,hM⟩,hb⟩;replace pA:=AtL.below hb pA
 replace hB:=zAB hB hb
 clear hb;go_wp2_with fail
 refine hkQ hK (pA.2.1 0 _ rfl) (λhHeld=>?_);clear hK K
 have hl:(Instr.lookup 202 (.map (some b)) (.int .i64 id) true).run prog w1=.ok (.tuple #[.nilFunc,.bool false]) w1:=zBl zBp hM (zBo _ _ _) (zEm kT id hno w1) (by kernel_rfl);refine rdQ 3 zBC (λK hK=>?_);go_simp
 refine hkQ hK (pA.2.1 0 _ rfl) (λhHeld=>?_);clear hK K
 refine tkQ 4 zAx ?_
 refine tkQ 5 zBA ?_
 refine tkQ 6 zAw ?_
 refine rdQ 7 zAy (λK hK=>?_);go_simp
 refine hkQ hK (pA.2.1 0 _ rfl) (λhHeld=>?_);clear hK K
 refine rdQ 8 zAz (λK hK=>?_);go_simp
 refine hkQ hK (pA.2.1 0 _ rfl) (λhHeld=>?_);clear hK K
 refine wpAnyH_done (by kernel_rfl) ?_ _;clear hHeld hl hM;have rA:=pA.range;clear pA;go_wp2;go_ret2
 exact ⟨⟨_,rfl⟩,hB⟩
