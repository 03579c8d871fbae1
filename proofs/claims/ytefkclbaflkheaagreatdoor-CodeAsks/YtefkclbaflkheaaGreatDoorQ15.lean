/- KStandB. -/
import Derived.Test.YtefkclbaflkheaaGreatDoorQ14
set_option maxHeartbeats 1600000
set_option maxRecDepth 100000
namespace Go.Proofs.YtefkclbaflkheaaGreatDoor
open Tryz
open Go.RowKit
set_option linter.unusedVariables false
theorem zKN (n k:Int) (w:World):Calls prog 163 #[.agg (zAF 1 n k).toArray] w λe w'=>(∃ v,e=.returned (.tuple #[v,.bool true]))/\Below w.heap.size w w':=by
 have pA:=AtL.new0 w 198 (zAF 1 n k);have hB:=zAK (Below.refl _ w) (.cells (zAF 1 n k).toArray 198);have eg:∀ args w,(callFunc 178 args).run prog w=.ok (.enter 178 args) w:=λ_ _=>by kernel_rfl
 go_enter func163,ntmps163;go_upto_region 1 with fail
 generalize (w.alloc (.cells (zAF 1 n k).toArray 198))=W0 at *;replace pA:=AtL.drew pA
 replace hB:=hB.drew
 refine wp_region_held_drew (S:=λW=>W.cell? ⟨w.heap.size,0,none⟩=some (.int .i64 1)) (by kernel_rfl) (pA.2.1 0 _ rfl) (λhHeld=>?_);generalize W0.drew=wd at *;refine tkQ 1 ?_
 refine tkQ 2 ?_
 refine rdQ 0 (λK hK=>?_);go_simp
 refine (zAW _).mono ?_;rintro e w1 ⟨⟨b,rfl,hM⟩,hb⟩;replace pA:=AtL.below hb pA
 replace hB:=zAB hB hb
 clear hb;go_wp2_with fail
 refine hkQ hK (pA.2.1 0 _ rfl) (λhHeld=>?_);clear hK K
 have hl:(Instr.lookup 224 (.map (some b)) (.int .i64 1) true).run prog w1=.ok (.tuple #[.func (.func 178) #[] #[],.bool true]) w1  :=zAX (j:=0) zCM hM (zCL _ _ _) (by kernel_rfl);refine rdQ 3 (λK hK=>?_);go_simp
 refine hkQ hK (pA.2.1 0 _ rfl) (λhHeld=>?_);clear hK K
 refine tkQ 4 ?_
 refine tkQ 5 ?_
 refine tkQ 6 ?_
 refine rdQ 7 (λK hK=>?_);go_simp
 refine hkQ hK (pA.2.1 0 _ rfl) (λhHeld=>?_);clear hK K
 refine rdQ 8 (λK hK=>?_);go_simp
 refine hkQ hK (pA.2.1 0 _ rfl) (λhHeld=>?_);clear hK K
 refine wpAnyH_done (by kernel_rfl) ?_ _;clear hHeld hl hM;have rA:=pA.range;clear pA;go_wp2_with (first | (refine zAA (by rfl) 198 (.tmp 1) rfl w.heap.size 0 rfl (zAF 1 n k) _ rA underlying198 rfl (by kernel_rfl) ?_) | (refine zAH rfl 229 _ rfl _ rfl (zAF 1 n k) (by kernel_rfl) ?_) | (go_at_call 178;refine (zLg 1 n k _).mono ?_;rintro e w2 ⟨⟨t,p,rfl⟩,hb2⟩;replace hB:=zAB hB hb2;clear hb2))
 go_ret2
 exact ⟨⟨_,rfl⟩,(clB hB)⟩
theorem zJm (n k:Int) (w:World):Calls prog 163 #[.agg (zAF 2 n k).toArray] w λe w'=>(∃ v,e=.returned (.tuple #[v,.bool true]))/\Below w.heap.size w w':=by
 have pA:=AtL.new0 w 198 (zAF 2 n k);have hB:=zAK (Below.refl _ w) (.cells (zAF 2 n k).toArray 198);have eg:∀ args w,(callFunc 179 args).run prog w=.ok (.enter 179 args) w:=λ_ _=>by kernel_rfl
 go_enter func163,ntmps163;go_upto_region 1 with fail
 generalize (w.alloc (.cells (zAF 2 n k).toArray 198))=W0 at *;replace pA:=AtL.drew pA
 replace hB:=hB.drew
 refine wp_region_held_drew (S:=λW=>W.cell? ⟨w.heap.size,0,none⟩=some (.int .i64 2)) (by kernel_rfl) (pA.2.1 0 _ rfl) (λhHeld=>?_);generalize W0.drew=wd at *;refine tkQ 1 ?_
 refine tkQ 2 ?_
 refine rdQ 0 (λK hK=>?_);go_simp
 refine (zAW _).mono ?_;rintro e w1 ⟨⟨b,rfl,hM⟩,hb⟩;replace pA:=AtL.below hb pA
 replace hB:=zAB hB hb
 clear hb;go_wp2_with fail
 refine hkQ hK (pA.2.1 0 _ rfl) (λhHeld=>?_);clear hK K
 have hl:(Instr.lookup 224 (.map (some b)) (.int .i64 2) true).run prog w1=.ok (.tuple #[.func (.func 179) #[] #[],.bool true]) w1  :=zAX (j:=1) zCM hM (zCL _ _ _) (by kernel_rfl);refine rdQ 3 (λK hK=>?_);go_simp
 refine hkQ hK (pA.2.1 0 _ rfl) (λhHeld=>?_);clear hK K
 refine tkQ 4 ?_
 refine tkQ 5 ?_
 refine tkQ 6 ?_
 refine rdQ 7 (λK hK=>?_);go_simp
 refine hkQ hK (pA.2.1 0 _ rfl) (λhHeld=>?_);clear hK K
 refine rdQ 8 (λK hK=>?_);go_simp
 refine hkQ hK (pA.2.1 0 _ rfl) (λhHeld=>?_);clear hK K
 refine wpAnyH_done (by kernel_rfl) ?_ _;clear hHeld hl hM;have rA:=pA.range;clear pA;go_wp2_with (first | (refine zAA (by rfl) 198 (.tmp 1) rfl w.heap.size 0 rfl (zAF 2 n k) _ rA underlying198 rfl (by kernel_rfl) ?_) | (refine zAH rfl 229 _ rfl _ rfl (zAF 2 n k) (by kernel_rfl) ?_) | (go_at_call 179;refine (zEl 2 n k _).mono ?_;rintro e w2 ⟨⟨t,p,rfl⟩,hb2⟩;replace hB:=zAB hB hb2;clear hb2))
 go_ret2
 exact ⟨⟨_,rfl⟩,(clB hB)⟩
theorem zJ5 (n k:Int) (w:World):Calls prog 163 #[.agg (zAF 3 n k).toArray] w λe w'=>(∃ v,e=.returned (.tuple #[v,.bool true]))/\Below w.heap.size w w':=by
 have pA:=AtL.new0 w 198 (zAF 3 n k);have hB:=zAK (Below.refl _ w) (.cells (zAF 3 n k).toArray 198);have eg:∀ args w,(callFunc 180 args).run prog w=.ok (.enter 180 args) w:=λ_ _=>by kernel_rfl
 go_enter func163,ntmps163;go_upto_region 1 with fail
 generalize (w.alloc (.cells (zAF 3 n k).toArray 198))=W0 at *;replace pA:=AtL.drew pA
 replace hB:=hB.drew
 refine wp_region_held_drew (S:=λW=>W.cell? ⟨w.heap.size,0,none⟩=some (.int .i64 3)) (by kernel_rfl) (pA.2.1 0 _ rfl) (λhHeld=>?_);generalize W0.drew=wd at *;refine tkQ 1 ?_
 refine tkQ 2 ?_
 refine rdQ 0 (λK hK=>?_);go_simp
 refine (zAW _).mono ?_;rintro e w1 ⟨⟨b,rfl,hM⟩,hb⟩;replace pA:=AtL.below hb pA
 replace hB:=zAB hB hb
 clear hb;go_wp2_with fail
 refine hkQ hK (pA.2.1 0 _ rfl) (λhHeld=>?_);clear hK K
 have hl:(Instr.lookup 224 (.map (some b)) (.int .i64 3) true).run prog w1=.ok (.tuple #[.func (.func 180) #[] #[],.bool true]) w1  :=zAX (j:=2) zCM hM (zCL _ _ _) (by kernel_rfl);refine rdQ 3 (λK hK=>?_);go_simp
 refine hkQ hK (pA.2.1 0 _ rfl) (λhHeld=>?_);clear hK K
 refine tkQ 4 ?_
 refine tkQ 5 ?_
 refine tkQ 6 ?_
 refine rdQ 7 (λK hK=>?_);go_simp
 refine hkQ hK (pA.2.1 0 _ rfl) (λhHeld=>?_);clear hK K
 refine rdQ 8 (λK hK=>?_);go_simp
 refine hkQ hK (pA.2.1 0 _ rfl) (λhHeld=>?_);clear hK K
 refine wpAnyH_done (by kernel_rfl) ?_ _;clear hHeld hl hM;have rA:=pA.range;clear pA;go_wp2_with (first | (refine zAA (by rfl) 198 (.tmp 1) rfl w.heap.size 0 rfl (zAF 3 n k) _ rA underlying198 rfl (by kernel_rfl) ?_) | (refine zAH rfl 229 _ rfl _ rfl (zAF 3 n k) (by kernel_rfl) ?_) | (go_at_call 180;refine (zHp 3 n k _).mono ?_;rintro e w2 ⟨⟨t,p,rfl⟩,hb2⟩;replace hB:=zAB hB hb2;clear hb2))
 go_ret2
 exact ⟨⟨_,rfl⟩,(clB hB)⟩
theorem zJ6 (n k:Int) (w:World):Calls prog 163 #[.agg (zAF 4 n k).toArray] w λe w'=>(∃ v,e=.returned (.tuple #[v,.bool true]))/\Below w.heap.size w w':=by
 have pA:=AtL.new0 w 198 (zAF 4 n k);have hB:=zAK (Below.refl _ w) (.cells (zAF 4 n k).toArray 198);have eg:∀ args w,(callFunc 181 args).run prog w=.ok (.enter 181 args) w:=λ_ _=>by kernel_rfl
 go_enter func163,ntmps163;go_upto_region 1 with fail
 generalize (w.alloc (.cells (zAF 4 n k).toArray 198))=W0 at *;replace pA:=AtL.drew pA
 replace hB:=hB.drew
 refine wp_region_held_drew (S:=λW=>W.cell? ⟨w.heap.size,0,none⟩=some (.int .i64 4)) (by kernel_rfl) (pA.2.1 0 _ rfl) (λhHeld=>?_);generalize W0.drew=wd at *;refine tkQ 1 ?_
 refine tkQ 2 ?_
 refine rdQ 0 (λK hK=>?_);go_simp
 refine (zAW _).mono ?_;rintro e w1 ⟨⟨b,rfl,hM⟩,hb⟩;replace pA:=AtL.below hb pA
 replace hB:=zAB hB hb
 clear hb;go_wp2_with fail
 refine hkQ hK (pA.2.1 0 _ rfl) (λhHeld=>?_);clear hK K
 have hl:(Instr.lookup 224 (.map (some b)) (.int .i64 4) true).run prog w1=.ok (.tuple #[.func (.func 181) #[] #[],.bool true]) w1  :=zAX (j:=3) zCM hM (zCL _ _ _) (by kernel_rfl);refine rdQ 3 (λK hK=>?_);go_simp
 refine hkQ hK (pA.2.1 0 _ rfl) (λhHeld=>?_);clear hK K
 refine tkQ 4 ?_
 refine tkQ 5 ?_
 refine tkQ 6 ?_
 refine rdQ 7 (λK hK=>?_);go_simp
 refine hkQ hK (pA.2.1 0 _ rfl) (λhHeld=>?_);clear hK K
 refine rdQ 8 (λK hK=>?_);go_simp
 refine hkQ hK (pA.2.1 0 _ rfl) (λhHeld=>?_);clear hK K
 refine wpAnyH_done (by kernel_rfl) ?_ _;clear hHeld hl hM;have rA:=pA.range;clear pA;go_wp2_with (first | (refine zAA (by rfl) 198 (.tmp 1) rfl w.heap.size 0 rfl (zAF 4 n k) _ rA underlying198 rfl (by kernel_rfl) ?_) | (refine zAH rfl 229 _ rfl _ rfl (zAF 4 n k) (by kernel_rfl) ?_) | (go_at_call 181;refine (zGA 4 n k _).mono ?_;rintro e w2 ⟨⟨t,p,rfl⟩,hb2⟩;replace hB:=zAB hB hb2;clear hb2))
 go_ret2
 exact ⟨⟨_,rfl⟩,(clB hB)⟩
theorem zKu (n k:Int) (w:World):Calls prog 163 #[.agg (zAF 5 n k).toArray] w λe w'=>(∃ v,e=.returned (.tuple #[v,.bool true]))/\Below w.heap.size w w':=by
 have pA:=AtL.new0 w 198 (zAF 5 n k);have hB:=zAK (Below.refl _ w) (.cells (zAF 5 n k).toArray 198);have eg:∀ args w,(callFunc 182 args).run prog w=.ok (.enter 182 args) w:=λ_ _=>by kernel_rfl
 go_enter func163,ntmps163;go_upto_region 1 with fail
 generalize (w.alloc (.cells (zAF 5 n k).toArray 198))=W0 at *;replace pA:=AtL.drew pA
 replace hB:=hB.drew
 refine wp_region_held_drew (S:=λW=>W.cell? ⟨w.heap.size,0,none⟩=some (.int .i64 5)) (by kernel_rfl) (pA.2.1 0 _ rfl) (λhHeld=>?_);generalize W0.drew=wd at *;refine tkQ 1 ?_
 refine tkQ 2 ?_
 refine rdQ 0 (λK hK=>?_);go_simp
 refine (zAW _).mono ?_;rintro e w1 ⟨⟨b,rfl,hM⟩,hb⟩;replace pA:=AtL.below hb pA
 replace hB:=zAB hB hb
 clear hb;go_wp2_with fail
 refine hkQ hK (pA.2.1 0 _ rfl) (λhHeld=>?_);clear hK K
 have hl:(Instr.lookup 224 (.map (some b)) (.int .i64 5) true).run prog w1=.ok (.tuple #[.func (.func 182) #[] #[],.bool true]) w1  :=zAX (j:=4) zCM hM (zCL _ _ _) (by kernel_rfl);refine rdQ 3 (λK hK=>?_);go_simp
 refine hkQ hK (pA.2.1 0 _ rfl) (λhHeld=>?_);clear hK K
 refine tkQ 4 ?_
 refine tkQ 5 ?_
 refine tkQ 6 ?_
 refine rdQ 7 (λK hK=>?_);go_simp
 refine hkQ hK (pA.2.1 0 _ rfl) (λhHeld=>?_);clear hK K
 refine rdQ 8 (λK hK=>?_);go_simp
 refine hkQ hK (pA.2.1 0 _ rfl) (λhHeld=>?_);clear hK K
 refine wpAnyH_done (by kernel_rfl) ?_ _;clear hHeld hl hM;have rA:=pA.range;clear pA;go_wp2_with (first | (refine zAA (by rfl) 198 (.tmp 1) rfl w.heap.size 0 rfl (zAF 5 n k) _ rA underlying198 rfl (by kernel_rfl) ?_) | (refine zAH rfl 229 _ rfl _ rfl (zAF 5 n k) (by kernel_rfl) ?_) | (go_at_call 182;refine (zIG 5 n k _).mono ?_;rintro e w2 ⟨⟨t,p,rfl⟩,hb2⟩;replace hB:=zAB hB hb2;clear hb2))
 go_ret2
 exact ⟨⟨_,rfl⟩,(clB hB)⟩
theorem zJj (n k:Int) (w:World):Calls prog 163 #[.agg (zAF 6 n k).toArray] w λe w'=>(∃ v,e=.returned (.tuple #[v,.bool true]))/\Below w.heap.size w w':=by
 have pA:=AtL.new0 w 198 (zAF 6 n k);have hB:=zAK (Below.refl _ w) (.cells (zAF 6 n k).toArray 198);have eg:∀ args w,(callFunc 183 args).run prog w=.ok (.enter 183 args) w:=λ_ _=>by kernel_rfl
 go_enter func163,ntmps163;go_upto_region 1 with fail
 generalize (w.alloc (.cells (zAF 6 n k).toArray 198))=W0 at *;replace pA:=AtL.drew pA
 replace hB:=hB.drew
 refine wp_region_held_drew (S:=λW=>W.cell? ⟨w.heap.size,0,none⟩=some (.int .i64 6)) (by kernel_rfl) (pA.2.1 0 _ rfl) (λhHeld=>?_);generalize W0.drew=wd at *;refine tkQ 1 ?_
 refine tkQ 2 ?_
 refine rdQ 0 (λK hK=>?_);go_simp
 refine (zAW _).mono ?_;rintro e w1 ⟨⟨b,rfl,hM⟩,hb⟩;replace pA:=AtL.below hb pA
 replace hB:=zAB hB hb
 clear hb;go_wp2_with fail
 refine hkQ hK (pA.2.1 0 _ rfl) (λhHeld=>?_);clear hK K
 have hl:(Instr.lookup 224 (.map (some b)) (.int .i64 6) true).run prog w1=.ok (.tuple #[.func (.func 183) #[] #[],.bool true]) w1  :=zAX (j:=5) zCM hM (zCL _ _ _) (by kernel_rfl);refine rdQ 3 (λK hK=>?_);go_simp
 refine hkQ hK (pA.2.1 0 _ rfl) (λhHeld=>?_);clear hK K
 refine tkQ 4 ?_
 refine tkQ 5 ?_
 refine tkQ 6 ?_
 refine rdQ 7 (λK hK=>?_);go_simp
 refine hkQ hK (pA.2.1 0 _ rfl) (λhHeld=>?_);clear hK K
 refine rdQ 8 (λK hK=>?_);go_simp
 refine hkQ hK (pA.2.1 0 _ rfl) (λhHeld=>?_);clear hK K
 refine wpAnyH_done (by kernel_rfl) ?_ _;clear hHeld hl hM;have rA:=pA.range;clear pA;go_wp2_with (first | (refine zAA (by rfl) 198 (.tmp 1) rfl w.heap.size 0 rfl (zAF 6 n k) _ rA underlying198 rfl (by kernel_rfl) ?_) | (refine zAH rfl 229 _ rfl _ rfl (zAF 6 n k) (by kernel_rfl) ?_) | (go_at_call 183;refine (zDy 6 n k _).mono ?_;rintro e w2 ⟨⟨t,p,rfl⟩,hb2⟩;replace hB:=zAB hB hb2;clear hb2))
 go_ret2
 exact ⟨⟨_,rfl⟩,(clB hB)⟩
theorem zKO (n k:Int) (w:World):Calls prog 163 #[.agg (zAF 7 n k).toArray] w λe w'=>(∃ v,e=.returned (.tuple #[v,.bool true]))/\Below w.heap.size w w':=by
 have pA:=AtL.new0 w 198 (zAF 7 n k);have hB:=zAK (Below.refl _ w) (.cells (zAF 7 n k).toArray 198);have eg:∀ args w,(callFunc 184 args).run prog w=.ok (.enter 184 args) w:=λ_ _=>by kernel_rfl
 go_enter func163,ntmps163;go_upto_region 1 with fail
 generalize (w.alloc (.cells (zAF 7 n k).toArray 198))=W0 at *;replace pA:=AtL.drew pA
 replace hB:=hB.drew
 refine wp_region_held_drew (S:=λW=>W.cell? ⟨w.heap.size,0,none⟩=some (.int .i64 7)) (by kernel_rfl) (pA.2.1 0 _ rfl) (λhHeld=>?_);generalize W0.drew=wd at *;refine tkQ 1 ?_
 refine tkQ 2 ?_
 refine rdQ 0 (λK hK=>?_);go_simp
 refine (zAW _).mono ?_;rintro e w1 ⟨⟨b,rfl,hM⟩,hb⟩;replace pA:=AtL.below hb pA
 replace hB:=zAB hB hb
 clear hb;go_wp2_with fail
 refine hkQ hK (pA.2.1 0 _ rfl) (λhHeld=>?_);clear hK K
 have hl:(Instr.lookup 224 (.map (some b)) (.int .i64 7) true).run prog w1=.ok (.tuple #[.func (.func 184) #[] #[],.bool true]) w1  :=zAX (j:=6) zCM hM (zCL _ _ _) (by kernel_rfl);refine rdQ 3 (λK hK=>?_);go_simp
 refine hkQ hK (pA.2.1 0 _ rfl) (λhHeld=>?_);clear hK K
 refine tkQ 4 ?_
 refine tkQ 5 ?_
 refine tkQ 6 ?_
 refine rdQ 7 (λK hK=>?_);go_simp
 refine hkQ hK (pA.2.1 0 _ rfl) (λhHeld=>?_);clear hK K
 refine rdQ 8 (λK hK=>?_);go_simp
 refine hkQ hK (pA.2.1 0 _ rfl) (λhHeld=>?_);clear hK K
 refine wpAnyH_done (by kernel_rfl) ?_ _;clear hHeld hl hM;have rA:=pA.range;clear pA;go_wp2_with (first | (refine zAA (by rfl) 198 (.tmp 1) rfl w.heap.size 0 rfl (zAF 7 n k) _ rA underlying198 rfl (by kernel_rfl) ?_) | (refine zAH rfl 229 _ rfl _ rfl (zAF 7 n k) (by kernel_rfl) ?_) | (go_at_call 184;refine (zFG 7 n k _).mono ?_;rintro e w2 ⟨⟨t,p,rfl⟩,hb2⟩;replace hB:=zAB hB hb2;clear hb2))
 go_ret2
 exact ⟨⟨_,rfl⟩,(clB hB)⟩
theorem zKw (n k:Int) (w:World):Calls prog 163 #[.agg (zAF 8 n k).toArray] w λe w'=>(∃ v,e=.returned (.tuple #[v,.bool true]))/\Below w.heap.size w w':=by
 have pA:=AtL.new0 w 198 (zAF 8 n k);have hB:=zAK (Below.refl _ w) (.cells (zAF 8 n k).toArray 198);have eg:∀ args w,(callFunc 185 args).run prog w=.ok (.enter 185 args) w:=λ_ _=>by kernel_rfl
 go_enter func163,ntmps163;go_upto_region 1 with fail
 generalize (w.alloc (.cells (zAF 8 n k).toArray 198))=W0 at *;replace pA:=AtL.drew pA
 replace hB:=hB.drew
 refine wp_region_held_drew (S:=λW=>W.cell? ⟨w.heap.size,0,none⟩=some (.int .i64 8)) (by kernel_rfl) (pA.2.1 0 _ rfl) (λhHeld=>?_);generalize W0.drew=wd at *;refine tkQ 1 ?_
 refine tkQ 2 ?_
 refine rdQ 0 (λK hK=>?_);go_simp
 refine (zAW _).mono ?_;rintro e w1 ⟨⟨b,rfl,hM⟩,hb⟩;replace pA:=AtL.below hb pA
 replace hB:=zAB hB hb
 clear hb;go_wp2_with fail
 refine hkQ hK (pA.2.1 0 _ rfl) (λhHeld=>?_);clear hK K
 have hl:(Instr.lookup 224 (.map (some b)) (.int .i64 8) true).run prog w1=.ok (.tuple #[.func (.func 185) #[] #[],.bool true]) w1  :=zAX (j:=7) zCM hM (zCL _ _ _) (by kernel_rfl);refine rdQ 3 (λK hK=>?_);go_simp
 refine hkQ hK (pA.2.1 0 _ rfl) (λhHeld=>?_);clear hK K
 refine tkQ 4 ?_
 refine tkQ 5 ?_
 refine tkQ 6 ?_
 refine rdQ 7 (λK hK=>?_);go_simp
 refine hkQ hK (pA.2.1 0 _ rfl) (λhHeld=>?_);clear hK K
 refine rdQ 8 (λK hK=>?_);go_simp
 refine hkQ hK (pA.2.1 0 _ rfl) (λhHeld=>?_);clear hK K
 refine wpAnyH_done (by kernel_rfl) ?_ _;clear hHeld hl hM;have rA:=pA.range;clear pA;go_wp2_with (first | (refine zAA (by rfl) 198 (.tmp 1) rfl w.heap.size 0 rfl (zAF 8 n k) _ rA underlying198 rfl (by kernel_rfl) ?_) | (refine zAH rfl 229 _ rfl _ rfl (zAF 8 n k) (by kernel_rfl) ?_) | (go_at_call 185;refine (zLS 8 n k _).mono ?_;rintro e w2 ⟨⟨t,p,rfl⟩,hb2⟩;replace hB:=zAB hB hb2;clear hb2))
 go_ret2
 exact ⟨⟨_,rfl⟩,(clB hB)⟩
theorem zKa (n k:Int) (w:World):Calls prog 163 #[.agg (zAF 9 n k).toArray] w λe w'=>(∃ v,e=.returned (.tuple #[v,.bool true]))/\Below w.heap.size w w':=by
 have pA:=AtL.new0 w 198 (zAF 9 n k);have hB:=zAK (Below.refl _ w) (.cells (zAF 9 n k).toArray 198);have eg:∀ args w,(callFunc 186 args).run prog w=.ok (.enter 186 args) w:=λ_ _=>by kernel_rfl
 go_enter func163,ntmps163;go_upto_region 1 with fail
 generalize (w.alloc (.cells (zAF 9 n k).toArray 198))=W0 at *;replace pA:=AtL.drew pA
 replace hB:=hB.drew
 refine wp_region_held_drew (S:=λW=>W.cell? ⟨w.heap.size,0,none⟩=some (.int .i64 9)) (by kernel_rfl) (pA.2.1 0 _ rfl) (λhHeld=>?_);generalize W0.drew=wd at *;refine tkQ 1 ?_
 refine tkQ 2 ?_
 refine rdQ 0 (λK hK=>?_);go_simp
 refine (zAW _).mono ?_;rintro e w1 ⟨⟨b,rfl,hM⟩,hb⟩;replace pA:=AtL.below hb pA
 replace hB:=zAB hB hb
 clear hb;go_wp2_with fail
 refine hkQ hK (pA.2.1 0 _ rfl) (λhHeld=>?_);clear hK K
 have hl:(Instr.lookup 224 (.map (some b)) (.int .i64 9) true).run prog w1=.ok (.tuple #[.func (.func 186) #[] #[],.bool true]) w1  :=zAX (j:=8) zCM hM (zCL _ _ _) (by kernel_rfl);refine rdQ 3 (λK hK=>?_);go_simp
 refine hkQ hK (pA.2.1 0 _ rfl) (λhHeld=>?_);clear hK K
 refine tkQ 4 ?_
 refine tkQ 5 ?_
 refine tkQ 6 ?_
 refine rdQ 7 (λK hK=>?_);go_simp
 refine hkQ hK (pA.2.1 0 _ rfl) (λhHeld=>?_);clear hK K
 refine rdQ 8 (λK hK=>?_);go_simp
 refine hkQ hK (pA.2.1 0 _ rfl) (λhHeld=>?_);clear hK K
 refine wpAnyH_done (by kernel_rfl) ?_ _;clear hHeld hl hM;have rA:=pA.range;clear pA;go_wp2_with (first | (refine zAA (by rfl) 198 (.tmp 1) rfl w.heap.size 0 rfl (zAF 9 n k) _ rA underlying198 rfl (by kernel_rfl) ?_) | (refine zAH rfl 229 _ rfl _ rfl (zAF 9 n k) (by kernel_rfl) ?_) | (go_at_call 186;refine (zMO 9 n k _).mono ?_;rintro e w2 ⟨⟨t,p,rfl⟩,hb2⟩;replace hB:=zAB hB hb2;clear hb2))
 go_ret2
 exact ⟨⟨_,rfl⟩,(clB hB)⟩
theorem zH8 (n k:Int) (w:World):Calls prog 163 #[.agg (zAF 10 n k).toArray] w λe w'=>(∃ v,e=.returned (.tuple #[v,.bool true]))/\Below w.heap.size w w':=by
 have pA:=AtL.new0 w 198 (zAF 10 n k);have hB:=zAK (Below.refl _ w) (.cells (zAF 10 n k).toArray 198);have eg:∀ args w,(callFunc 187 args).run prog w=.ok (.enter 187 args) w:=λ_ _=>by kernel_rfl
 go_enter func163,ntmps163;go_upto_region 1 with fail
 generalize (w.alloc (.cells (zAF 10 n k).toArray 198))=W0 at *;replace pA:=AtL.drew pA
 replace hB:=hB.drew
 refine wp_region_held_drew (S:=λW=>W.cell? ⟨w.heap.size,0,none⟩=some (.int .i64 10)) (by kernel_rfl) (pA.2.1 0 _ rfl) (λhHeld=>?_);generalize W0.drew=wd at *;refine tkQ 1 ?_
 refine tkQ 2 ?_
 refine rdQ 0 (λK hK=>?_);go_simp
 refine (zAW _).mono ?_;rintro e w1 ⟨⟨b,rfl,hM⟩,hb⟩;replace pA:=AtL.below hb pA
 replace hB:=zAB hB hb
 clear hb;go_wp2_with fail
 refine hkQ hK (pA.2.1 0 _ rfl) (λhHeld=>?_);clear hK K
 have hl:(Instr.lookup 224 (.map (some b)) (.int .i64 10) true).run prog w1=.ok (.tuple #[.func (.func 187) #[] #[],.bool true]) w1  :=zAX (j:=9) zCM hM (zCL _ _ _) (by kernel_rfl);refine rdQ 3 (λK hK=>?_);go_simp
 refine hkQ hK (pA.2.1 0 _ rfl) (λhHeld=>?_);clear hK K
 refine tkQ 4 ?_
 refine tkQ 5 ?_
 refine tkQ 6 ?_
 refine rdQ 7 (λK hK=>?_);go_simp
 refine hkQ hK (pA.2.1 0 _ rfl) (λhHeld=>?_);clear hK K
 refine rdQ 8 (λK hK=>?_);go_simp
 refine hkQ hK (pA.2.1 0 _ rfl) (λhHeld=>?_);clear hK K
 refine wpAnyH_done (by kernel_rfl) ?_ _;clear hHeld hl hM;have rA:=pA.range;clear pA;go_wp2_with (first | (refine zAA (by rfl) 198 (.tmp 1) rfl w.heap.size 0 rfl (zAF 10 n k) _ rA underlying198 rfl (by kernel_rfl) ?_) | (refine zAH rfl 229 _ rfl _ rfl (zAF 10 n k) (by kernel_rfl) ?_) | (go_at_call 187;refine (zLZ 10 n k _).mono ?_;rintro e w2 ⟨⟨t,p,rfl⟩,hb2⟩;replace hB:=zAB hB hb2;clear hb2))
 go_ret2
 exact ⟨⟨_,rfl⟩,(clB hB)⟩
theorem zIz (n k:Int) (w:World):Calls prog 163 #[.agg (zAF 11 n k).toArray] w λe w'=>(∃ v,e=.returned (.tuple #[v,.bool true]))/\Below w.heap.size w w':=by
 have pA:=AtL.new0 w 198 (zAF 11 n k);have hB:=zAK (Below.refl _ w) (.cells (zAF 11 n k).toArray 198);have eg:∀ args w,(callFunc 188 args).run prog w=.ok (.enter 188 args) w:=λ_ _=>by kernel_rfl
 go_enter func163,ntmps163;go_upto_region 1 with fail
 generalize (w.alloc (.cells (zAF 11 n k).toArray 198))=W0 at *;replace pA:=AtL.drew pA
 replace hB:=hB.drew
 refine wp_region_held_drew (S:=λW=>W.cell? ⟨w.heap.size,0,none⟩=some (.int .i64 11)) (by kernel_rfl) (pA.2.1 0 _ rfl) (λhHeld=>?_);generalize W0.drew=wd at *;refine tkQ 1 ?_
 refine tkQ 2 ?_
 refine rdQ 0 (λK hK=>?_);go_simp
 refine (zAW _).mono ?_;rintro e w1 ⟨⟨b,rfl,hM⟩,hb⟩;replace pA:=AtL.below hb pA
 replace hB:=zAB hB hb
 clear hb;go_wp2_with fail
 refine hkQ hK (pA.2.1 0 _ rfl) (λhHeld=>?_);clear hK K
 have hl:(Instr.lookup 224 (.map (some b)) (.int .i64 11) true).run prog w1=.ok (.tuple #[.func (.func 188) #[] #[],.bool true]) w1  :=zAX (j:=10) zCM hM (zCL _ _ _) (by kernel_rfl);refine rdQ 3 (λK hK=>?_);go_simp
 refine hkQ hK (pA.2.1 0 _ rfl) (λhHeld=>?_);clear hK K
 refine tkQ 4 ?_
 refine tkQ 5 ?_
 refine tkQ 6 ?_
 refine rdQ 7 (λK hK=>?_);go_simp
 refine hkQ hK (pA.2.1 0 _ rfl) (λhHeld=>?_);clear hK K
 refine rdQ 8 (λK hK=>?_);go_simp
 refine hkQ hK (pA.2.1 0 _ rfl) (λhHeld=>?_);clear hK K
 refine wpAnyH_done (by kernel_rfl) ?_ _;clear hHeld hl hM;have rA:=pA.range;clear pA;go_wp2_with (first | (refine zAA (by rfl) 198 (.tmp 1) rfl w.heap.size 0 rfl (zAF 11 n k) _ rA underlying198 rfl (by kernel_rfl) ?_) | (refine zAH rfl 229 _ rfl _ rfl (zAF 11 n k) (by kernel_rfl) ?_) | (go_at_call 188;refine (zG6 11 n k _).mono ?_;rintro e w2 ⟨⟨t,p,rfl⟩,hb2⟩;replace hB:=zAB hB hb2;clear hb2))
 go_ret2
 exact ⟨⟨_,rfl⟩,(clB hB)⟩
theorem zHP (n k:Int) (w:World):Calls prog 163 #[.agg (zAF 12 n k).toArray] w λe w'=>(∃ v,e=.returned (.tuple #[v,.bool true]))/\Below w.heap.size w w':=by
 have pA:=AtL.new0 w 198 (zAF 12 n k);have hB:=zAK (Below.refl _ w) (.cells (zAF 12 n k).toArray 198);have eg:∀ args w,(callFunc 189 args).run prog w=.ok (.enter 189 args) w:=λ_ _=>by kernel_rfl
 go_enter func163,ntmps163;go_upto_region 1 with fail
 generalize (w.alloc (.cells (zAF 12 n k).toArray 198))=W0 at *;replace pA:=AtL.drew pA
 replace hB:=hB.drew
 refine wp_region_held_drew (S:=λW=>W.cell? ⟨w.heap.size,0,none⟩=some (.int .i64 12)) (by kernel_rfl) (pA.2.1 0 _ rfl) (λhHeld=>?_);generalize W0.drew=wd at *;refine tkQ 1 ?_
 refine tkQ 2 ?_
 refine rdQ 0 (λK hK=>?_);go_simp
 refine (zAW _).mono ?_;rintro e w1 ⟨⟨b,rfl,hM⟩,hb⟩;replace pA:=AtL.below hb pA
 replace hB:=zAB hB hb
 clear hb;go_wp2_with fail
 refine hkQ hK (pA.2.1 0 _ rfl) (λhHeld=>?_);clear hK K
 have hl:(Instr.lookup 224 (.map (some b)) (.int .i64 12) true).run prog w1=.ok (.tuple #[.func (.func 189) #[] #[],.bool true]) w1  :=zAX (j:=11) zCM hM (zCL _ _ _) (by kernel_rfl);refine rdQ 3 (λK hK=>?_);go_simp
 refine hkQ hK (pA.2.1 0 _ rfl) (λhHeld=>?_);clear hK K
 refine tkQ 4 ?_
 refine tkQ 5 ?_
 refine tkQ 6 ?_
 refine rdQ 7 (λK hK=>?_);go_simp
 refine hkQ hK (pA.2.1 0 _ rfl) (λhHeld=>?_);clear hK K
 refine rdQ 8 (λK hK=>?_);go_simp
 refine hkQ hK (pA.2.1 0 _ rfl) (λhHeld=>?_);clear hK K
 refine wpAnyH_done (by kernel_rfl) ?_ _;clear hHeld hl hM;have rA:=pA.range;clear pA;go_wp2_with (first | (refine zAA (by rfl) 198 (.tmp 1) rfl w.heap.size 0 rfl (zAF 12 n k) _ rA underlying198 rfl (by kernel_rfl) ?_) | (refine zAH rfl 229 _ rfl _ rfl (zAF 12 n k) (by kernel_rfl) ?_) | (go_at_call 189;refine (zEv 12 n k _).mono ?_;rintro e w2 ⟨⟨t,p,rfl⟩,hb2⟩;replace hB:=zAB hB hb2;clear hb2))
 go_ret2
 exact ⟨⟨_,rfl⟩,(clB hB)⟩
theorem zIw (n k:Int) (w:World):Calls prog 163 #[.agg (zAF 13 n k).toArray] w λe w'=>(∃ v,e=.returned (.tuple #[v,.bool true]))/\Below w.heap.size w w':=by
 have pA:=AtL.new0 w 198 (zAF 13 n k);have hB:=zAK (Below.refl _ w) (.cells (zAF 13 n k).toArray 198);have eg:∀ args w,(callFunc 190 args).run prog w=.ok (.enter 190 args) w:=λ_ _=>by kernel_rfl
 go_enter func163,ntmps163;go_upto_region 1 with fail
 generalize (w.alloc (.cells (zAF 13 n k).toArray 198))=W0 at *;replace pA:=AtL.drew pA
 replace hB:=hB.drew
 refine wp_region_held_drew (S:=λW=>W.cell? ⟨w.heap.size,0,none⟩=some (.int .i64 13)) (by kernel_rfl) (pA.2.1 0 _ rfl) (λhHeld=>?_);generalize W0.drew=wd at *;refine tkQ 1 ?_
 refine tkQ 2 ?_
 refine rdQ 0 (λK hK=>?_);go_simp
 refine (zAW _).mono ?_;rintro e w1 ⟨⟨b,rfl,hM⟩,hb⟩;replace pA:=AtL.below hb pA
 replace hB:=zAB hB hb
 clear hb;go_wp2_with fail
 refine hkQ hK (pA.2.1 0 _ rfl) (λhHeld=>?_);clear hK K
 have hl:(Instr.lookup 224 (.map (some b)) (.int .i64 13) true).run prog w1=.ok (.tuple #[.func (.func 190) #[] #[],.bool true]) w1  :=zAX (j:=12) zCM hM (zCL _ _ _) (by kernel_rfl);refine rdQ 3 (λK hK=>?_);go_simp
 refine hkQ hK (pA.2.1 0 _ rfl) (λhHeld=>?_);clear hK K
 refine tkQ 4 ?_
 refine tkQ 5 ?_
 refine tkQ 6 ?_
 refine rdQ 7 (λK hK=>?_);go_simp
 refine hkQ hK (pA.2.1 0 _ rfl) (λhHeld=>?_);clear hK K
 refine rdQ 8 (λK hK=>?_);go_simp
 refine hkQ hK (pA.2.1 0 _ rfl) (λhHeld=>?_);clear hK K
 refine wpAnyH_done (by kernel_rfl) ?_ _;clear hHeld hl hM;have rA:=pA.range;clear pA;go_wp2_with (first | (refine zAA (by rfl) 198 (.tmp 1) rfl w.heap.size 0 rfl (zAF 13 n k) _ rA underlying198 rfl (by kernel_rfl) ?_) | (refine zAH rfl 229 _ rfl _ rfl (zAF 13 n k) (by kernel_rfl) ?_) | (go_at_call 190;refine (zEy 13 n k _).mono ?_;rintro e w2 ⟨⟨t,p,rfl⟩,hb2⟩;replace hB:=zAB hB hb2;clear hb2))
 go_ret2
 exact ⟨⟨_,rfl⟩,(clB hB)⟩
theorem zIF (n k:Int) (w:World):Calls prog 163 #[.agg (zAF 14 n k).toArray] w λe w'=>(∃ v,e=.returned (.tuple #[v,.bool true]))/\Below w.heap.size w w':=by
 have pA:=AtL.new0 w 198 (zAF 14 n k);have hB:=zAK (Below.refl _ w) (.cells (zAF 14 n k).toArray 198);have eg:∀ args w,(callFunc 191 args).run prog w=.ok (.enter 191 args) w:=λ_ _=>by kernel_rfl
 go_enter func163,ntmps163;go_upto_region 1 with fail
 generalize (w.alloc (.cells (zAF 14 n k).toArray 198))=W0 at *;replace pA:=AtL.drew pA
 replace hB:=hB.drew
 refine wp_region_held_drew (S:=λW=>W.cell? ⟨w.heap.size,0,none⟩=some (.int .i64 14)) (by kernel_rfl) (pA.2.1 0 _ rfl) (λhHeld=>?_);generalize W0.drew=wd at *;refine tkQ 1 ?_
 refine tkQ 2 ?_
 refine rdQ 0 (λK hK=>?_);go_simp
 refine (zAW _).mono ?_;rintro e w1 ⟨⟨b,rfl,hM⟩,hb⟩;replace pA:=AtL.below hb pA
 replace hB:=zAB hB hb
 clear hb;go_wp2_with fail
 refine hkQ hK (pA.2.1 0 _ rfl) (λhHeld=>?_);clear hK K
 have hl:(Instr.lookup 224 (.map (some b)) (.int .i64 14) true).run prog w1=.ok (.tuple #[.func (.func 191) #[] #[],.bool true]) w1  :=zAX (j:=13) zCM hM (zCL _ _ _) (by kernel_rfl);refine rdQ 3 (λK hK=>?_);go_simp
 refine hkQ hK (pA.2.1 0 _ rfl) (λhHeld=>?_);clear hK K
 refine tkQ 4 ?_
 refine tkQ 5 ?_
 refine tkQ 6 ?_
 refine rdQ 7 (λK hK=>?_);go_simp
 refine hkQ hK (pA.2.1 0 _ rfl) (λhHeld=>?_);clear hK K
 refine rdQ 8 (λK hK=>?_);go_simp
 refine hkQ hK (pA.2.1 0 _ rfl) (λhHeld=>?_);clear hK K
 refine wpAnyH_done (by kernel_rfl) ?_ _;clear hHeld hl hM;have rA:=pA.range;clear pA;go_wp2_with (first | (refine zAA (by rfl) 198 (.tmp 1) rfl w.heap.size 0 rfl (zAF 14 n k) _ rA underlying198 rfl (by kernel_rfl) ?_) | (refine zAH rfl 229 _ rfl _ rfl (zAF 14 n k) (by kernel_rfl) ?_) | (go_at_call 191;refine (zIk 14 n k _).mono ?_;rintro e w2 ⟨⟨t,p,rfl⟩,hb2⟩;replace hB:=zAB hB hb2;clear hb2))
 go_ret2
 exact ⟨⟨_,rfl⟩,(clB hB)⟩
theorem zIN (n k:Int) (w:World):Calls prog 163 #[.agg (zAF 15 n k).toArray] w λe w'=>(∃ v,e=.returned (.tuple #[v,.bool true]))/\Below w.heap.size w w':=by
 have pA:=AtL.new0 w 198 (zAF 15 n k);have hB:=zAK (Below.refl _ w) (.cells (zAF 15 n k).toArray 198);have eg:∀ args w,(callFunc 192 args).run prog w=.ok (.enter 192 args) w:=λ_ _=>by kernel_rfl
 go_enter func163,ntmps163;go_upto_region 1 with fail
 generalize (w.alloc (.cells (zAF 15 n k).toArray 198))=W0 at *;replace pA:=AtL.drew pA
 replace hB:=hB.drew
 refine wp_region_held_drew (S:=λW=>W.cell? ⟨w.heap.size,0,none⟩=some (.int .i64 15)) (by kernel_rfl) (pA.2.1 0 _ rfl) (λhHeld=>?_);generalize W0.drew=wd at *;refine tkQ 1 ?_
 refine tkQ 2 ?_
 refine rdQ 0 (λK hK=>?_);go_simp
 refine (zAW _).mono ?_;rintro e w1 ⟨⟨b,rfl,hM⟩,hb⟩;replace pA:=AtL.below hb pA
 replace hB:=zAB hB hb
 clear hb;go_wp2_with fail
 refine hkQ hK (pA.2.1 0 _ rfl) (λhHeld=>?_);clear hK K
 have hl:(Instr.lookup 224 (.map (some b)) (.int .i64 15) true).run prog w1=.ok (.tuple #[.func (.func 192) #[] #[],.bool true]) w1  :=zAX (j:=14) zCM hM (zCL _ _ _) (by kernel_rfl);refine rdQ 3 (λK hK=>?_);go_simp
 refine hkQ hK (pA.2.1 0 _ rfl) (λhHeld=>?_);clear hK K
 refine tkQ 4 ?_
 refine tkQ 5 ?_
 refine tkQ 6 ?_
 refine rdQ 7 (λK hK=>?_);go_simp
 refine hkQ hK (pA.2.1 0 _ rfl) (λhHeld=>?_);clear hK K
 refine rdQ 8 (λK hK=>?_);go_simp
 refine hkQ hK (pA.2.1 0 _ rfl) (λhHeld=>?_);clear hK K
 refine wpAnyH_done (by kernel_rfl) ?_ _;clear hHeld hl hM;have rA:=pA.range;clear pA;go_wp2_with (first | (refine zAA (by rfl) 198 (.tmp 1) rfl w.heap.size 0 rfl (zAF 15 n k) _ rA underlying198 rfl (by kernel_rfl) ?_) | (refine zAH rfl 229 _ rfl _ rfl (zAF 15 n k) (by kernel_rfl) ?_) | (go_at_call 192;refine (zKQ 15 n k _).mono ?_;rintro e w2 ⟨⟨t,p,rfl⟩,hb2⟩;replace hB:=zAB hB hb2;clear hb2))
 go_ret2
 exact ⟨⟨_,rfl⟩,(clB hB)⟩
theorem zHx (n k:Int) (w:World):Calls prog 163 #[.agg (zAF 20 n k).toArray] w λe w'=>(∃ v,e=.returned (.tuple #[v,.bool true]))/\Below w.heap.size w w':=by
 have pA:=AtL.new0 w 198 (zAF 20 n k);have hB:=zAK (Below.refl _ w) (.cells (zAF 20 n k).toArray 198);have eg:∀ args w,(callFunc 193 args).run prog w=.ok (.enter 193 args) w:=λ_ _=>by kernel_rfl
 go_enter func163,ntmps163;go_upto_region 1 with fail
 generalize (w.alloc (.cells (zAF 20 n k).toArray 198))=W0 at *;replace pA:=AtL.drew pA
 replace hB:=hB.drew
 refine wp_region_held_drew (S:=λW=>W.cell? ⟨w.heap.size,0,none⟩=some (.int .i64 20)) (by kernel_rfl) (pA.2.1 0 _ rfl) (λhHeld=>?_);generalize W0.drew=wd at *;refine tkQ 1 ?_
 refine tkQ 2 ?_
 refine rdQ 0 (λK hK=>?_);go_simp
 refine (zAW _).mono ?_;rintro e w1 ⟨⟨b,rfl,hM⟩,hb⟩;replace pA:=AtL.below hb pA
 replace hB:=zAB hB hb
 clear hb;go_wp2_with fail
 refine hkQ hK (pA.2.1 0 _ rfl) (λhHeld=>?_);clear hK K
 have hl:(Instr.lookup 224 (.map (some b)) (.int .i64 20) true).run prog w1=.ok (.tuple #[.func (.func 193) #[] #[],.bool true]) w1  :=zAX (j:=15) zCM hM (zCL _ _ _) (by kernel_rfl);refine rdQ 3 (λK hK=>?_);go_simp
 refine hkQ hK (pA.2.1 0 _ rfl) (λhHeld=>?_);clear hK K
 refine tkQ 4 ?_
 refine tkQ 5 ?_
 refine tkQ 6 ?_
 refine rdQ 7 (λK hK=>?_);go_simp
 refine hkQ hK (pA.2.1 0 _ rfl) (λhHeld=>?_);clear hK K
 refine rdQ 8 (λK hK=>?_);go_simp
 refine hkQ hK (pA.2.1 0 _ rfl) (λhHeld=>?_);clear hK K
 refine wpAnyH_done (by kernel_rfl) ?_ _;clear hHeld hl hM;have rA:=pA.range;clear pA;go_wp2_with (first | (refine zAA (by rfl) 198 (.tmp 1) rfl w.heap.size 0 rfl (zAF 20 n k) _ rA underlying198 rfl (by kernel_rfl) ?_) | (refine zAH rfl 229 _ rfl _ rfl (zAF 20 n k) (by kernel_rfl) ?_) | (go_at_call 193;refine (zIb 20 n k _).mono ?_;rintro e w2 ⟨⟨t,p,rfl⟩,hb2⟩;replace hB:=zAB hB hb2;clear hb2))
 go_ret2
 exact ⟨⟨_,rfl⟩,(clB hB)⟩
theorem zHT (n k:Int) (w:World):Calls prog 163 #[.agg (zAF 21 n k).toArray] w λe w'=>(∃ v,e=.returned (.tuple #[v,.bool true]))/\Below w.heap.size w w':=by
 have pA:=AtL.new0 w 198 (zAF 21 n k);have hB:=zAK (Below.refl _ w) (.cells (zAF 21 n k).toArray 198);have eg:∀ args w,(callFunc 194 args).run prog w=.ok (.enter 194 args) w:=λ_ _=>by kernel_rfl
 go_enter func163,ntmps163;go_upto_region 1 with fail
 generalize (w.alloc (.cells (zAF 21 n k).toArray 198))=W0 at *;replace pA:=AtL.drew pA
 replace hB:=hB.drew
 refine wp_region_held_drew (S:=λW=>W.cell? ⟨w.heap.size,0,none⟩=some (.int .i64 21)) (by kernel_rfl) (pA.2.1 0 _ rfl) (λhHeld=>?_);generalize W0.drew=wd at *;refine tkQ 1 ?_
 refine tkQ 2 ?_
 refine rdQ 0 (λK hK=>?_);go_simp
 refine (zAW _).mono ?_;rintro e w1 ⟨⟨b,rfl,hM⟩,hb⟩;replace pA:=AtL.below hb pA
 replace hB:=zAB hB hb
 clear hb;go_wp2_with fail
 refine hkQ hK (pA.2.1 0 _ rfl) (λhHeld=>?_);clear hK K
 have hl:(Instr.lookup 224 (.map (some b)) (.int .i64 21) true).run prog w1=.ok (.tuple #[.func (.func 194) #[] #[],.bool true]) w1  :=zAX (j:=16) zCM hM (zCL _ _ _) (by kernel_rfl);refine rdQ 3 (λK hK=>?_);go_simp
 refine hkQ hK (pA.2.1 0 _ rfl) (λhHeld=>?_);clear hK K
 refine tkQ 4 ?_
 refine tkQ 5 ?_
 refine tkQ 6 ?_
 refine rdQ 7 (λK hK=>?_);go_simp
 refine hkQ hK (pA.2.1 0 _ rfl) (λhHeld=>?_);clear hK K
 refine rdQ 8 (λK hK=>?_);go_simp
 refine hkQ hK (pA.2.1 0 _ rfl) (λhHeld=>?_);clear hK K
 refine wpAnyH_done (by kernel_rfl) ?_ _;clear hHeld hl hM;have rA:=pA.range;clear pA;go_wp2_with (first | (refine zAA (by rfl) 198 (.tmp 1) rfl w.heap.size 0 rfl (zAF 21 n k) _ rA underlying198 rfl (by kernel_rfl) ?_) | (refine zAH rfl 229 _ rfl _ rfl (zAF 21 n k) (by kernel_rfl) ?_) | (go_at_call 194;refine (zEt 21 n k _).mono ?_;rintro e w2 ⟨⟨t,p,rfl⟩,hb2⟩;replace hB:=zAB hB hb2;clear hb2))
 go_ret2
 exact ⟨⟨_,rfl⟩,(clB hB)⟩
theorem zII (n k:Int) (w:World):Calls prog 163 #[.agg (zAF 22 n k).toArray] w λe w'=>(∃ v,e=.returned (.tuple #[v,.bool true]))/\Below w.heap.size w w':=by
 have pA:=AtL.new0 w 198 (zAF 22 n k);have hB:=zAK (Below.refl _ w) (.cells (zAF 22 n k).toArray 198);have eg:∀ args w,(callFunc 195 args).run prog w=.ok (.enter 195 args) w:=λ_ _=>by kernel_rfl
 go_enter func163,ntmps163;go_upto_region 1 with fail
 generalize (w.alloc (.cells (zAF 22 n k).toArray 198))=W0 at *;replace pA:=AtL.drew pA
 replace hB:=hB.drew
 refine wp_region_held_drew (S:=λW=>W.cell? ⟨w.heap.size,0,none⟩=some (.int .i64 22)) (by kernel_rfl) (pA.2.1 0 _ rfl) (λhHeld=>?_);generalize W0.drew=wd at *;refine tkQ 1 ?_
 refine tkQ 2 ?_
 refine rdQ 0 (λK hK=>?_);go_simp
 refine (zAW _).mono ?_;rintro e w1 ⟨⟨b,rfl,hM⟩,hb⟩;replace pA:=AtL.below hb pA
 replace hB:=zAB hB hb
 clear hb;go_wp2_with fail
 refine hkQ hK (pA.2.1 0 _ rfl) (λhHeld=>?_);clear hK K
 have hl:(Instr.lookup 224 (.map (some b)) (.int .i64 22) true).run prog w1=.ok (.tuple #[.func (.func 195) #[] #[],.bool true]) w1  :=zAX (j:=17) zCM hM (zCL _ _ _) (by kernel_rfl);refine rdQ 3 (λK hK=>?_);go_simp
 refine hkQ hK (pA.2.1 0 _ rfl) (λhHeld=>?_);clear hK K
 refine tkQ 4 ?_
 refine tkQ 5 ?_
 refine tkQ 6 ?_
 refine rdQ 7 (λK hK=>?_);go_simp
 refine hkQ hK (pA.2.1 0 _ rfl) (λhHeld=>?_);clear hK K
 refine rdQ 8 (λK hK=>?_);go_simp
 refine hkQ hK (pA.2.1 0 _ rfl) (λhHeld=>?_);clear hK K
 refine wpAnyH_done (by kernel_rfl) ?_ _;clear hHeld hl hM;have rA:=pA.range;clear pA;go_wp2_with (first | (refine zAA (by rfl) 198 (.tmp 1) rfl w.heap.size 0 rfl (zAF 22 n k) _ rA underlying198 rfl (by kernel_rfl) ?_) | (refine zAH rfl 229 _ rfl _ rfl (zAF 22 n k) (by kernel_rfl) ?_) | (go_at_call 195;refine (zHR 22 n k _).mono ?_;rintro e w2 ⟨⟨t,p,rfl⟩,hb2⟩;replace hB:=zAB hB hb2;clear hb2))
 go_ret2
 exact ⟨⟨_,rfl⟩,(clB hB)⟩
theorem zH1 (n k:Int) (w:World):Calls prog 163 #[.agg (zAF 23 n k).toArray] w λe w'=>(∃ v,e=.returned (.tuple #[v,.bool true]))/\Below w.heap.size w w':=by
 have pA:=AtL.new0 w 198 (zAF 23 n k);have hB:=zAK (Below.refl _ w) (.cells (zAF 23 n k).toArray 198);have eg:∀ args w,(callFunc 196 args).run prog w=.ok (.enter 196 args) w:=λ_ _=>by kernel_rfl
 go_enter func163,ntmps163;go_upto_region 1 with fail
 generalize (w.alloc (.cells (zAF 23 n k).toArray 198))=W0 at *;replace pA:=AtL.drew pA
 replace hB:=hB.drew
 refine wp_region_held_drew (S:=λW=>W.cell? ⟨w.heap.size,0,none⟩=some (.int .i64 23)) (by kernel_rfl) (pA.2.1 0 _ rfl) (λhHeld=>?_);generalize W0.drew=wd at *;refine tkQ 1 ?_
 refine tkQ 2 ?_
 refine rdQ 0 (λK hK=>?_);go_simp
 refine (zAW _).mono ?_;rintro e w1 ⟨⟨b,rfl,hM⟩,hb⟩;replace pA:=AtL.below hb pA
 replace hB:=zAB hB hb
 clear hb;go_wp2_with fail
 refine hkQ hK (pA.2.1 0 _ rfl) (λhHeld=>?_);clear hK K
 have hl:(Instr.lookup 224 (.map (some b)) (.int .i64 23) true).run prog w1=.ok (.tuple #[.func (.func 196) #[] #[],.bool true]) w1  :=zAX (j:=18) zCM hM (zCL _ _ _) (by kernel_rfl);refine rdQ 3 (λK hK=>?_);go_simp
 refine hkQ hK (pA.2.1 0 _ rfl) (λhHeld=>?_);clear hK K
 refine tkQ 4 ?_
 refine tkQ 5 ?_
 refine tkQ 6 ?_
 refine rdQ 7 (λK hK=>?_);go_simp
 refine hkQ hK (pA.2.1 0 _ rfl) (λhHeld=>?_);clear hK K
 refine rdQ 8 (λK hK=>?_);go_simp
 refine hkQ hK (pA.2.1 0 _ rfl) (λhHeld=>?_);clear hK K
 refine wpAnyH_done (by kernel_rfl) ?_ _;clear hHeld hl hM;have rA:=pA.range;clear pA;go_wp2_with (first | (refine zAA (by rfl) 198 (.tmp 1) rfl w.heap.size 0 rfl (zAF 23 n k) _ rA underlying198 rfl (by kernel_rfl) ?_) | (refine zAH rfl 229 _ rfl _ rfl (zAF 23 n k) (by kernel_rfl) ?_) | (go_at_call 196;refine (zHH 23 n k _).mono ?_;rintro e w2 ⟨⟨t,p,rfl⟩,hb2⟩;replace hB:=zAB hB hb2;clear hb2))
 go_ret2
 exact ⟨⟨_,rfl⟩,(clB hB)⟩
theorem zIK (n k:Int) (w:World):Calls prog 163 #[.agg (zAF 24 n k).toArray] w λe w'=>(∃ v,e=.returned (.tuple #[v,.bool true]))/\Below w.heap.size w w':=by
 have pA:=AtL.new0 w 198 (zAF 24 n k);have hB:=zAK (Below.refl _ w) (.cells (zAF 24 n k).toArray 198);have eg:∀ args w,(callFunc 197 args).run prog w=.ok (.enter 197 args) w:=λ_ _=>by kernel_rfl
 go_enter func163,ntmps163;go_upto_region 1 with fail
 generalize (w.alloc (.cells (zAF 24 n k).toArray 198))=W0 at *;replace pA:=AtL.drew pA
 replace hB:=hB.drew
 refine wp_region_held_drew (S:=λW=>W.cell? ⟨w.heap.size,0,none⟩=some (.int .i64 24)) (by kernel_rfl) (pA.2.1 0 _ rfl) (λhHeld=>?_);generalize W0.drew=wd at *;refine tkQ 1 ?_
 refine tkQ 2 ?_
 refine rdQ 0 (λK hK=>?_);go_simp
 refine (zAW _).mono ?_;rintro e w1 ⟨⟨b,rfl,hM⟩,hb⟩;replace pA:=AtL.below hb pA
 replace hB:=zAB hB hb
 clear hb;go_wp2_with fail
 refine hkQ hK (pA.2.1 0 _ rfl) (λhHeld=>?_);clear hK K
 have hl:(Instr.lookup 224 (.map (some b)) (.int .i64 24) true).run prog w1=.ok (.tuple #[.func (.func 197) #[] #[],.bool true]) w1  :=zAX (j:=19) zCM hM (zCL _ _ _) (by kernel_rfl);refine rdQ 3 (λK hK=>?_);go_simp
 refine hkQ hK (pA.2.1 0 _ rfl) (λhHeld=>?_);clear hK K
 refine tkQ 4 ?_
 refine tkQ 5 ?_
 refine tkQ 6 ?_
 refine rdQ 7 (λK hK=>?_);go_simp
 refine hkQ hK (pA.2.1 0 _ rfl) (λhHeld=>?_);clear hK K
 refine rdQ 8 (λK hK=>?_);go_simp
 refine hkQ hK (pA.2.1 0 _ rfl) (λhHeld=>?_);clear hK K
 refine wpAnyH_done (by kernel_rfl) ?_ _;clear hHeld hl hM;have rA:=pA.range;clear pA;go_wp2_with (first | (refine zAA (by rfl) 198 (.tmp 1) rfl w.heap.size 0 rfl (zAF 24 n k) _ rA underlying198 rfl (by kernel_rfl) ?_) | (refine zAH rfl 229 _ rfl _ rfl (zAF 24 n k) (by kernel_rfl) ?_) | (go_at_call 197;refine (zCb 24 n k _).mono ?_;rintro e w2 ⟨⟨t,p,rfl⟩,hb2⟩;replace hB:=zAB hB hb2;clear hb2))
 go_ret2
 exact ⟨⟨_,rfl⟩,(clB hB)⟩
theorem zJI (id:Int) (n k:Int) (w:World) (hno:∀ p ∈ kT,p.1 ≠ id):Calls prog 163 #[.agg (zAF id n k).toArray] w λe w'=>(∃ v,e=.returned (.tuple #[v,.bool false]))/\Below w.heap.size w w':=by
 have pA:=AtL.new0 w 198 (zAF id n k);have hB:=zAK (Below.refl _ w) (.cells (zAF id n k).toArray 198);go_enter func163,ntmps163;go_upto_region 1 with fail
 generalize (w.alloc (.cells (zAF id n k).toArray 198))=W0 at *;replace pA:=AtL.drew pA
 replace hB:=hB.drew
 refine wp_region_held_drew (S:=λW=>W.cell? ⟨w.heap.size,0,none⟩=some (.int .i64 id)) (by kernel_rfl) (pA.2.1 0 _ rfl) (λhHeld=>?_);generalize W0.drew=wd at *;refine tkQ 1 ?_
 refine tkQ 2 ?_
 refine rdQ 0 (λK hK=>?_);go_simp
 refine (zAW _).mono ?_;rintro e w1 ⟨⟨b,rfl,hM⟩,hb⟩;replace pA:=AtL.below hb pA
 replace hB:=zAB hB hb
 clear hb;go_wp2_with fail
 refine hkQ hK (pA.2.1 0 _ rfl) (λhHeld=>?_);clear hK K
 have hl:(Instr.lookup 224 (.map (some b)) (.int .i64 id) true).run prog w1=.ok (.tuple #[.nilFunc,.bool false]) w1:=zCC zCM hM (zCL _ _ _) (zGC kT id hno w1) (by kernel_rfl);refine rdQ 3 (λK hK=>?_);go_simp
 refine hkQ hK (pA.2.1 0 _ rfl) (λhHeld=>?_);clear hK K
 refine tkQ 4 ?_
 refine tkQ 5 ?_
 refine tkQ 6 ?_
 refine rdQ 7 (λK hK=>?_);go_simp
 refine hkQ hK (pA.2.1 0 _ rfl) (λhHeld=>?_);clear hK K
 refine rdQ 8 (λK hK=>?_);go_simp
 refine hkQ hK (pA.2.1 0 _ rfl) (λhHeld=>?_);clear hK K
 refine wpAnyH_done (by kernel_rfl) ?_ _;clear hHeld hl hM;have rA:=pA.range;clear pA;go_wp2;go_ret2
 exact ⟨⟨_,rfl⟩,hB⟩
