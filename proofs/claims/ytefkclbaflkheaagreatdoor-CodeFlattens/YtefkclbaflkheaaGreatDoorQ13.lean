/- Lemmas. -/
import Derived.Test.YtefkclbaflkheaaGreatDoorQ12
set_option maxHeartbeats 1600000
set_option maxRecDepth 100000
namespace Go.Proofs.YtefkclbaflkheaaGreatDoor
open Tryz
open Go.RowKit
set_option linter.unusedVariables false
theorem zN2 (n k:Int) (w:World):Calls prog 163 #[.agg (zAE 1 n k).toArray] w λe w'=>(∃ v,e=.returned (.tuple #[v,.bool true]))/\Below w.heap.size w w':=by
 have pA:=AtL.new0 w 198 (zAE 1 n k);have hB:=zAM (Below.refl _ w) (.cells (zAE 1 n k).toArray 198);have eg:∀ args w,(callFunc 178 args).run prog w=.ok (.enter 178 args) w:=λ_ _=>by kernel_rfl
 go_enter func163,ntmps163;go_upto_region 1 with fail
 generalize (w.alloc (.cells (zAE 1 n k).toArray 198))=W0 at *;replace pA:=AtL.drew pA
 replace hB:=hB.drew
 refine wp_region_held_drew (S:=λW=>W.cell? ⟨w.heap.size,0,none⟩=some (.int .i64 1)) (by kernel_rfl) (pA.2.1 0 _ rfl) (λhHeld=>?_);generalize W0.drew=wd at *;refine tkQ 1 ?_
 refine tkQ 2 ?_
 refine rdQ 0 (λK hK=>?_);go_simp
 refine (zAX _).mono ?_;rintro e w1 ⟨⟨b,rfl,hM⟩,hb⟩;replace pA:=AtL.below hb pA
 replace hB:=zAB hB hb
 clear hb;go_wp2_with fail
 refine hkQ hK (pA.2.1 0 _ rfl) (λhHeld=>?_);clear hK K
 have hl:(Instr.lookup 224 (.map (some b)) (.int .i64 1) true).run prog w1=.ok (.tuple #[.func (.func 178) #[] #[],.bool true]) w1  :=zA3 (j:=0) zDD hM (zDE _ _ _) (by kernel_rfl);refine rdQ 3 (λK hK=>?_);go_simp
 refine hkQ hK (pA.2.1 0 _ rfl) (λhHeld=>?_);clear hK K
 refine tkQ 4 ?_
 refine tkQ 5 ?_
 refine tkQ 6 ?_
 refine rdQ 7 (λK hK=>?_);go_simp
 refine hkQ hK (pA.2.1 0 _ rfl) (λhHeld=>?_);clear hK K
 refine rdQ 8 (λK hK=>?_);go_simp
 refine hkQ hK (pA.2.1 0 _ rfl) (λhHeld=>?_);clear hK K
 refine wpAnyH_done (by kernel_rfl) ?_ _;clear hHeld hl hM;have rA:=pA.range;clear pA;go_wp2_with (first | (refine zAA (by rfl) 198 (.tmp 1) rfl w.heap.size 0 rfl (zAE 1 n k) _ rA underlying198 rfl (by kernel_rfl) ?_) | (refine zAL rfl 229 _ rfl _ rfl (zAE 1 n k) (by kernel_rfl) ?_) | (go_at_call 178;refine (zNy 1 n k _).mono ?_;rintro e w2 ⟨⟨t,p,rfl⟩,hb2⟩;replace hB:=zAB hB hb2;clear hb2))
 go_ret2
 exact ⟨⟨_,rfl⟩,(clB hB)⟩
theorem zMW (n k:Int) (w:World):Calls prog 163 #[.agg (zAE 2 n k).toArray] w λe w'=>(∃ v,e=.returned (.tuple #[v,.bool true]))/\Below w.heap.size w w':=by
 have pA:=AtL.new0 w 198 (zAE 2 n k);have hB:=zAM (Below.refl _ w) (.cells (zAE 2 n k).toArray 198);have eg:∀ args w,(callFunc 179 args).run prog w=.ok (.enter 179 args) w:=λ_ _=>by kernel_rfl
 go_enter func163,ntmps163;go_upto_region 1 with fail
 generalize (w.alloc (.cells (zAE 2 n k).toArray 198))=W0 at *;replace pA:=AtL.drew pA
 replace hB:=hB.drew
 refine wp_region_held_drew (S:=λW=>W.cell? ⟨w.heap.size,0,none⟩=some (.int .i64 2)) (by kernel_rfl) (pA.2.1 0 _ rfl) (λhHeld=>?_);generalize W0.drew=wd at *;refine tkQ 1 ?_
 refine tkQ 2 ?_
 refine rdQ 0 (λK hK=>?_);go_simp
 refine (zAX _).mono ?_;rintro e w1 ⟨⟨b,rfl,hM⟩,hb⟩;replace pA:=AtL.below hb pA
 replace hB:=zAB hB hb
 clear hb;go_wp2_with fail
 refine hkQ hK (pA.2.1 0 _ rfl) (λhHeld=>?_);clear hK K
 have hl:(Instr.lookup 224 (.map (some b)) (.int .i64 2) true).run prog w1=.ok (.tuple #[.func (.func 179) #[] #[],.bool true]) w1  :=zA3 (j:=1) zDD hM (zDE _ _ _) (by kernel_rfl);refine rdQ 3 (λK hK=>?_);go_simp
 refine hkQ hK (pA.2.1 0 _ rfl) (λhHeld=>?_);clear hK K
 refine tkQ 4 ?_
 refine tkQ 5 ?_
 refine tkQ 6 ?_
 refine rdQ 7 (λK hK=>?_);go_simp
 refine hkQ hK (pA.2.1 0 _ rfl) (λhHeld=>?_);clear hK K
 refine rdQ 8 (λK hK=>?_);go_simp
 refine hkQ hK (pA.2.1 0 _ rfl) (λhHeld=>?_);clear hK K
 refine wpAnyH_done (by kernel_rfl) ?_ _;clear hHeld hl hM;have rA:=pA.range;clear pA;go_wp2_with (first | (refine zAA (by rfl) 198 (.tmp 1) rfl w.heap.size 0 rfl (zAE 2 n k) _ rA underlying198 rfl (by kernel_rfl) ?_) | (refine zAL rfl 229 _ rfl _ rfl (zAE 2 n k) (by kernel_rfl) ?_) | (go_at_call 179;refine (zG1 2 n k _).mono ?_;rintro e w2 ⟨⟨t,p,rfl⟩,hb2⟩;replace hB:=zAB hB hb2;clear hb2))
 go_ret2
 exact ⟨⟨_,rfl⟩,(clB hB)⟩
theorem zMN (n k:Int) (w:World):Calls prog 163 #[.agg (zAE 3 n k).toArray] w λe w'=>(∃ v,e=.returned (.tuple #[v,.bool true]))/\Below w.heap.size w w':=by
 have pA:=AtL.new0 w 198 (zAE 3 n k);have hB:=zAM (Below.refl _ w) (.cells (zAE 3 n k).toArray 198);have eg:∀ args w,(callFunc 180 args).run prog w=.ok (.enter 180 args) w:=λ_ _=>by kernel_rfl
 go_enter func163,ntmps163;go_upto_region 1 with fail
 generalize (w.alloc (.cells (zAE 3 n k).toArray 198))=W0 at *;replace pA:=AtL.drew pA
 replace hB:=hB.drew
 refine wp_region_held_drew (S:=λW=>W.cell? ⟨w.heap.size,0,none⟩=some (.int .i64 3)) (by kernel_rfl) (pA.2.1 0 _ rfl) (λhHeld=>?_);generalize W0.drew=wd at *;refine tkQ 1 ?_
 refine tkQ 2 ?_
 refine rdQ 0 (λK hK=>?_);go_simp
 refine (zAX _).mono ?_;rintro e w1 ⟨⟨b,rfl,hM⟩,hb⟩;replace pA:=AtL.below hb pA
 replace hB:=zAB hB hb
 clear hb;go_wp2_with fail
 refine hkQ hK (pA.2.1 0 _ rfl) (λhHeld=>?_);clear hK K
 have hl:(Instr.lookup 224 (.map (some b)) (.int .i64 3) true).run prog w1=.ok (.tuple #[.func (.func 180) #[] #[],.bool true]) w1  :=zA3 (j:=2) zDD hM (zDE _ _ _) (by kernel_rfl);refine rdQ 3 (λK hK=>?_);go_simp
 refine hkQ hK (pA.2.1 0 _ rfl) (λhHeld=>?_);clear hK K
 refine tkQ 4 ?_
 refine tkQ 5 ?_
 refine tkQ 6 ?_
 refine rdQ 7 (λK hK=>?_);go_simp
 refine hkQ hK (pA.2.1 0 _ rfl) (λhHeld=>?_);clear hK K
 refine rdQ 8 (λK hK=>?_);go_simp
 refine hkQ hK (pA.2.1 0 _ rfl) (λhHeld=>?_);clear hK K
 refine wpAnyH_done (by kernel_rfl) ?_ _;clear hHeld hl hM;have rA:=pA.range;clear pA;go_wp2_with (first | (refine zAA (by rfl) 198 (.tmp 1) rfl w.heap.size 0 rfl (zAE 3 n k) _ rA underlying198 rfl (by kernel_rfl) ?_) | (refine zAL rfl 229 _ rfl _ rfl (zAE 3 n k) (by kernel_rfl) ?_) | (go_at_call 180;refine (zKO 3 n k _).mono ?_;rintro e w2 ⟨⟨t,p,rfl⟩,hb2⟩;replace hB:=zAB hB hb2;clear hb2))
 go_ret2
 exact ⟨⟨_,rfl⟩,(clB hB)⟩
theorem zMx (n k:Int) (w:World):Calls prog 163 #[.agg (zAE 4 n k).toArray] w λe w'=>(∃ v,e=.returned (.tuple #[v,.bool true]))/\Below w.heap.size w w':=by
 have pA:=AtL.new0 w 198 (zAE 4 n k);have hB:=zAM (Below.refl _ w) (.cells (zAE 4 n k).toArray 198);have eg:∀ args w,(callFunc 181 args).run prog w=.ok (.enter 181 args) w:=λ_ _=>by kernel_rfl
 go_enter func163,ntmps163;go_upto_region 1 with fail
 generalize (w.alloc (.cells (zAE 4 n k).toArray 198))=W0 at *;replace pA:=AtL.drew pA
 replace hB:=hB.drew
 refine wp_region_held_drew (S:=λW=>W.cell? ⟨w.heap.size,0,none⟩=some (.int .i64 4)) (by kernel_rfl) (pA.2.1 0 _ rfl) (λhHeld=>?_);generalize W0.drew=wd at *;refine tkQ 1 ?_
 refine tkQ 2 ?_
 refine rdQ 0 (λK hK=>?_);go_simp
 refine (zAX _).mono ?_;rintro e w1 ⟨⟨b,rfl,hM⟩,hb⟩;replace pA:=AtL.below hb pA
 replace hB:=zAB hB hb
 clear hb;go_wp2_with fail
 refine hkQ hK (pA.2.1 0 _ rfl) (λhHeld=>?_);clear hK K
 have hl:(Instr.lookup 224 (.map (some b)) (.int .i64 4) true).run prog w1=.ok (.tuple #[.func (.func 181) #[] #[],.bool true]) w1  :=zA3 (j:=3) zDD hM (zDE _ _ _) (by kernel_rfl);refine rdQ 3 (λK hK=>?_);go_simp
 refine hkQ hK (pA.2.1 0 _ rfl) (λhHeld=>?_);clear hK K
 refine tkQ 4 ?_
 refine tkQ 5 ?_
 refine tkQ 6 ?_
 refine rdQ 7 (λK hK=>?_);go_simp
 refine hkQ hK (pA.2.1 0 _ rfl) (λhHeld=>?_);clear hK K
 refine rdQ 8 (λK hK=>?_);go_simp
 refine hkQ hK (pA.2.1 0 _ rfl) (λhHeld=>?_);clear hK K
 refine wpAnyH_done (by kernel_rfl) ?_ _;clear hHeld hl hM;have rA:=pA.range;clear pA;go_wp2_with (first | (refine zAA (by rfl) 198 (.tmp 1) rfl w.heap.size 0 rfl (zAE 4 n k) _ rA underlying198 rfl (by kernel_rfl) ?_) | (refine zAL rfl 229 _ rfl _ rfl (zAE 4 n k) (by kernel_rfl) ?_) | (go_at_call 181;refine (zHk 4 n k _).mono ?_;rintro e w2 ⟨⟨t,p,rfl⟩,hb2⟩;replace hB:=zAB hB hb2;clear hb2))
 go_ret2
 exact ⟨⟨_,rfl⟩,(clB hB)⟩
theorem zNK (n k:Int) (w:World):Calls prog 163 #[.agg (zAE 5 n k).toArray] w λe w'=>(∃ v,e=.returned (.tuple #[v,.bool true]))/\Below w.heap.size w w':=by
 have pA:=AtL.new0 w 198 (zAE 5 n k);have hB:=zAM (Below.refl _ w) (.cells (zAE 5 n k).toArray 198);have eg:∀ args w,(callFunc 182 args).run prog w=.ok (.enter 182 args) w:=λ_ _=>by kernel_rfl
 go_enter func163,ntmps163;go_upto_region 1 with fail
 generalize (w.alloc (.cells (zAE 5 n k).toArray 198))=W0 at *;replace pA:=AtL.drew pA
 replace hB:=hB.drew
 refine wp_region_held_drew (S:=λW=>W.cell? ⟨w.heap.size,0,none⟩=some (.int .i64 5)) (by kernel_rfl) (pA.2.1 0 _ rfl) (λhHeld=>?_);generalize W0.drew=wd at *;refine tkQ 1 ?_
 refine tkQ 2 ?_
 refine rdQ 0 (λK hK=>?_);go_simp
 refine (zAX _).mono ?_;rintro e w1 ⟨⟨b,rfl,hM⟩,hb⟩;replace pA:=AtL.below hb pA
 replace hB:=zAB hB hb
 clear hb;go_wp2_with fail
 refine hkQ hK (pA.2.1 0 _ rfl) (λhHeld=>?_);clear hK K
 have hl:(Instr.lookup 224 (.map (some b)) (.int .i64 5) true).run prog w1=.ok (.tuple #[.func (.func 182) #[] #[],.bool true]) w1  :=zA3 (j:=4) zDD hM (zDE _ _ _) (by kernel_rfl);refine rdQ 3 (λK hK=>?_);go_simp
 refine hkQ hK (pA.2.1 0 _ rfl) (λhHeld=>?_);clear hK K
 refine tkQ 4 ?_
 refine tkQ 5 ?_
 refine tkQ 6 ?_
 refine rdQ 7 (λK hK=>?_);go_simp
 refine hkQ hK (pA.2.1 0 _ rfl) (λhHeld=>?_);clear hK K
 refine rdQ 8 (λK hK=>?_);go_simp
 refine hkQ hK (pA.2.1 0 _ rfl) (λhHeld=>?_);clear hK K
 refine wpAnyH_done (by kernel_rfl) ?_ _;clear hHeld hl hM;have rA:=pA.range;clear pA;go_wp2_with (first | (refine zAA (by rfl) 198 (.tmp 1) rfl w.heap.size 0 rfl (zAE 5 n k) _ rA underlying198 rfl (by kernel_rfl) ?_) | (refine zAL rfl 229 _ rfl _ rfl (zAE 5 n k) (by kernel_rfl) ?_) | (go_at_call 182;refine (zLS 5 n k _).mono ?_;rintro e w2 ⟨⟨t,p,rfl⟩,hb2⟩;replace hB:=zAB hB hb2;clear hb2))
 go_ret2
 exact ⟨⟨_,rfl⟩,(clB hB)⟩
theorem zMB (n k:Int) (w:World):Calls prog 163 #[.agg (zAE 6 n k).toArray] w λe w'=>(∃ v,e=.returned (.tuple #[v,.bool true]))/\Below w.heap.size w w':=by
 have pA:=AtL.new0 w 198 (zAE 6 n k);have hB:=zAM (Below.refl _ w) (.cells (zAE 6 n k).toArray 198);have eg:∀ args w,(callFunc 183 args).run prog w=.ok (.enter 183 args) w:=λ_ _=>by kernel_rfl
 go_enter func163,ntmps163;go_upto_region 1 with fail
 generalize (w.alloc (.cells (zAE 6 n k).toArray 198))=W0 at *;replace pA:=AtL.drew pA
 replace hB:=hB.drew
 refine wp_region_held_drew (S:=λW=>W.cell? ⟨w.heap.size,0,none⟩=some (.int .i64 6)) (by kernel_rfl) (pA.2.1 0 _ rfl) (λhHeld=>?_);generalize W0.drew=wd at *;refine tkQ 1 ?_
 refine tkQ 2 ?_
 refine rdQ 0 (λK hK=>?_);go_simp
 refine (zAX _).mono ?_;rintro e w1 ⟨⟨b,rfl,hM⟩,hb⟩;replace pA:=AtL.below hb pA
 replace hB:=zAB hB hb
 clear hb;go_wp2_with fail
 refine hkQ hK (pA.2.1 0 _ rfl) (λhHeld=>?_);clear hK K
 have hl:(Instr.lookup 224 (.map (some b)) (.int .i64 6) true).run prog w1=.ok (.tuple #[.func (.func 183) #[] #[],.bool true]) w1  :=zA3 (j:=5) zDD hM (zDE _ _ _) (by kernel_rfl);refine rdQ 3 (λK hK=>?_);go_simp
 refine hkQ hK (pA.2.1 0 _ rfl) (λhHeld=>?_);clear hK K
 refine tkQ 4 ?_
 refine tkQ 5 ?_
 refine tkQ 6 ?_
 refine rdQ 7 (λK hK=>?_);go_simp
 refine hkQ hK (pA.2.1 0 _ rfl) (λhHeld=>?_);clear hK K
 refine rdQ 8 (λK hK=>?_);go_simp
 refine hkQ hK (pA.2.1 0 _ rfl) (λhHeld=>?_);clear hK K
 refine wpAnyH_done (by kernel_rfl) ?_ _;clear hHeld hl hM;have rA:=pA.range;clear pA;go_wp2_with (first | (refine zAA (by rfl) 198 (.tmp 1) rfl w.heap.size 0 rfl (zAE 6 n k) _ rA underlying198 rfl (by kernel_rfl) ?_) | (refine zAL rfl 229 _ rfl _ rfl (zAE 6 n k) (by kernel_rfl) ?_) | (go_at_call 183;refine (zFI 6 n k _).mono ?_;rintro e w2 ⟨⟨t,p,rfl⟩,hb2⟩;replace hB:=zAB hB hb2;clear hb2))
 go_ret2
 exact ⟨⟨_,rfl⟩,(clB hB)⟩
theorem zMr (n k:Int) (w:World):Calls prog 163 #[.agg (zAE 7 n k).toArray] w λe w'=>(∃ v,e=.returned (.tuple #[v,.bool true]))/\Below w.heap.size w w':=by
 have pA:=AtL.new0 w 198 (zAE 7 n k);have hB:=zAM (Below.refl _ w) (.cells (zAE 7 n k).toArray 198);have eg:∀ args w,(callFunc 184 args).run prog w=.ok (.enter 184 args) w:=λ_ _=>by kernel_rfl
 go_enter func163,ntmps163;go_upto_region 1 with fail
 generalize (w.alloc (.cells (zAE 7 n k).toArray 198))=W0 at *;replace pA:=AtL.drew pA
 replace hB:=hB.drew
 refine wp_region_held_drew (S:=λW=>W.cell? ⟨w.heap.size,0,none⟩=some (.int .i64 7)) (by kernel_rfl) (pA.2.1 0 _ rfl) (λhHeld=>?_);generalize W0.drew=wd at *;refine tkQ 1 ?_
 refine tkQ 2 ?_
 refine rdQ 0 (λK hK=>?_);go_simp
 refine (zAX _).mono ?_;rintro e w1 ⟨⟨b,rfl,hM⟩,hb⟩;replace pA:=AtL.below hb pA
 replace hB:=zAB hB hb
 clear hb;go_wp2_with fail
 refine hkQ hK (pA.2.1 0 _ rfl) (λhHeld=>?_);clear hK K
 have hl:(Instr.lookup 224 (.map (some b)) (.int .i64 7) true).run prog w1=.ok (.tuple #[.func (.func 184) #[] #[],.bool true]) w1  :=zA3 (j:=6) zDD hM (zDE _ _ _) (by kernel_rfl);refine rdQ 3 (λK hK=>?_);go_simp
 refine hkQ hK (pA.2.1 0 _ rfl) (λhHeld=>?_);clear hK K
 refine tkQ 4 ?_
 refine tkQ 5 ?_
 refine tkQ 6 ?_
 refine rdQ 7 (λK hK=>?_);go_simp
 refine hkQ hK (pA.2.1 0 _ rfl) (λhHeld=>?_);clear hK K
 refine rdQ 8 (λK hK=>?_);go_simp
 refine hkQ hK (pA.2.1 0 _ rfl) (λhHeld=>?_);clear hK K
 refine wpAnyH_done (by kernel_rfl) ?_ _;clear hHeld hl hM;have rA:=pA.range;clear pA;go_wp2_with (first | (refine zAA (by rfl) 198 (.tmp 1) rfl w.heap.size 0 rfl (zAE 7 n k) _ rA underlying198 rfl (by kernel_rfl) ?_) | (refine zAL rfl 229 _ rfl _ rfl (zAE 7 n k) (by kernel_rfl) ?_) | (go_at_call 184;refine (zGp 7 n k _).mono ?_;rintro e w2 ⟨⟨t,p,rfl⟩,hb2⟩;replace hB:=zAB hB hb2;clear hb2))
 go_ret2
 exact ⟨⟨_,rfl⟩,(clB hB)⟩
theorem zMl (n k:Int) (w:World):Calls prog 163 #[.agg (zAE 8 n k).toArray] w λe w'=>(∃ v,e=.returned (.tuple #[v,.bool true]))/\Below w.heap.size w w':=by
 have pA:=AtL.new0 w 198 (zAE 8 n k);have hB:=zAM (Below.refl _ w) (.cells (zAE 8 n k).toArray 198);have eg:∀ args w,(callFunc 185 args).run prog w=.ok (.enter 185 args) w:=λ_ _=>by kernel_rfl
 go_enter func163,ntmps163;go_upto_region 1 with fail
 generalize (w.alloc (.cells (zAE 8 n k).toArray 198))=W0 at *;replace pA:=AtL.drew pA
 replace hB:=hB.drew
 refine wp_region_held_drew (S:=λW=>W.cell? ⟨w.heap.size,0,none⟩=some (.int .i64 8)) (by kernel_rfl) (pA.2.1 0 _ rfl) (λhHeld=>?_);generalize W0.drew=wd at *;refine tkQ 1 ?_
 refine tkQ 2 ?_
 refine rdQ 0 (λK hK=>?_);go_simp
 refine (zAX _).mono ?_;rintro e w1 ⟨⟨b,rfl,hM⟩,hb⟩;replace pA:=AtL.below hb pA
 replace hB:=zAB hB hb
 clear hb;go_wp2_with fail
 refine hkQ hK (pA.2.1 0 _ rfl) (λhHeld=>?_);clear hK K
 have hl:(Instr.lookup 224 (.map (some b)) (.int .i64 8) true).run prog w1=.ok (.tuple #[.func (.func 185) #[] #[],.bool true]) w1  :=zA3 (j:=7) zDD hM (zDE _ _ _) (by kernel_rfl);refine rdQ 3 (λK hK=>?_);go_simp
 refine hkQ hK (pA.2.1 0 _ rfl) (λhHeld=>?_);clear hK K
 refine tkQ 4 ?_
 refine tkQ 5 ?_
 refine tkQ 6 ?_
 refine rdQ 7 (λK hK=>?_);go_simp
 refine hkQ hK (pA.2.1 0 _ rfl) (λhHeld=>?_);clear hK K
 refine rdQ 8 (λK hK=>?_);go_simp
 refine hkQ hK (pA.2.1 0 _ rfl) (λhHeld=>?_);clear hK K
 refine wpAnyH_done (by kernel_rfl) ?_ _;clear hHeld hl hM;have rA:=pA.range;clear pA;go_wp2_with (first | (refine zAA (by rfl) 198 (.tmp 1) rfl w.heap.size 0 rfl (zAE 8 n k) _ rA underlying198 rfl (by kernel_rfl) ?_) | (refine zAL rfl 229 _ rfl _ rfl (zAE 8 n k) (by kernel_rfl) ?_) | (go_at_call 185;refine (zNq 8 n k _).mono ?_;rintro e w2 ⟨⟨t,p,rfl⟩,hb2⟩;replace hB:=zAB hB hb2;clear hb2))
 go_ret2
 exact ⟨⟨_,rfl⟩,(clB hB)⟩
theorem zMK (n k:Int) (w:World):Calls prog 163 #[.agg (zAE 9 n k).toArray] w λe w'=>(∃ v,e=.returned (.tuple #[v,.bool true]))/\Below w.heap.size w w':=by
 have pA:=AtL.new0 w 198 (zAE 9 n k);have hB:=zAM (Below.refl _ w) (.cells (zAE 9 n k).toArray 198);have eg:∀ args w,(callFunc 186 args).run prog w=.ok (.enter 186 args) w:=λ_ _=>by kernel_rfl
 go_enter func163,ntmps163;go_upto_region 1 with fail
 generalize (w.alloc (.cells (zAE 9 n k).toArray 198))=W0 at *;replace pA:=AtL.drew pA
 replace hB:=hB.drew
 refine wp_region_held_drew (S:=λW=>W.cell? ⟨w.heap.size,0,none⟩=some (.int .i64 9)) (by kernel_rfl) (pA.2.1 0 _ rfl) (λhHeld=>?_);generalize W0.drew=wd at *;refine tkQ 1 ?_
 refine tkQ 2 ?_
 refine rdQ 0 (λK hK=>?_);go_simp
 refine (zAX _).mono ?_;rintro e w1 ⟨⟨b,rfl,hM⟩,hb⟩;replace pA:=AtL.below hb pA
 replace hB:=zAB hB hb
 clear hb;go_wp2_with fail
 refine hkQ hK (pA.2.1 0 _ rfl) (λhHeld=>?_);clear hK K
 have hl:(Instr.lookup 224 (.map (some b)) (.int .i64 9) true).run prog w1=.ok (.tuple #[.func (.func 186) #[] #[],.bool true]) w1  :=zA3 (j:=8) zDD hM (zDE _ _ _) (by kernel_rfl);refine rdQ 3 (λK hK=>?_);go_simp
 refine hkQ hK (pA.2.1 0 _ rfl) (λhHeld=>?_);clear hK K
 refine tkQ 4 ?_
 refine tkQ 5 ?_
 refine tkQ 6 ?_
 refine rdQ 7 (λK hK=>?_);go_simp
 refine hkQ hK (pA.2.1 0 _ rfl) (λhHeld=>?_);clear hK K
 refine rdQ 8 (λK hK=>?_);go_simp
 refine hkQ hK (pA.2.1 0 _ rfl) (λhHeld=>?_);clear hK K
 refine wpAnyH_done (by kernel_rfl) ?_ _;clear hHeld hl hM;have rA:=pA.range;clear pA;go_wp2_with (first | (refine zAA (by rfl) 198 (.tmp 1) rfl w.heap.size 0 rfl (zAE 9 n k) _ rA underlying198 rfl (by kernel_rfl) ?_) | (refine zAL rfl 229 _ rfl _ rfl (zAE 9 n k) (by kernel_rfl) ?_) | (go_at_call 186;refine (zOm 9 n k _).mono ?_;rintro e w2 ⟨⟨t,p,rfl⟩,hb2⟩;replace hB:=zAB hB hb2;clear hb2))
 go_ret2
 exact ⟨⟨_,rfl⟩,(clB hB)⟩
theorem zK2 (n k:Int) (w:World):Calls prog 163 #[.agg (zAE 10 n k).toArray] w λe w'=>(∃ v,e=.returned (.tuple #[v,.bool true]))/\Below w.heap.size w w':=by
 have pA:=AtL.new0 w 198 (zAE 10 n k);have hB:=zAM (Below.refl _ w) (.cells (zAE 10 n k).toArray 198);have eg:∀ args w,(callFunc 187 args).run prog w=.ok (.enter 187 args) w:=λ_ _=>by kernel_rfl
 go_enter func163,ntmps163;go_upto_region 1 with fail
 generalize (w.alloc (.cells (zAE 10 n k).toArray 198))=W0 at *;replace pA:=AtL.drew pA
 replace hB:=hB.drew
 refine wp_region_held_drew (S:=λW=>W.cell? ⟨w.heap.size,0,none⟩=some (.int .i64 10)) (by kernel_rfl) (pA.2.1 0 _ rfl) (λhHeld=>?_);generalize W0.drew=wd at *;refine tkQ 1 ?_
 refine tkQ 2 ?_
 refine rdQ 0 (λK hK=>?_);go_simp
 refine (zAX _).mono ?_;rintro e w1 ⟨⟨b,rfl,hM⟩,hb⟩;replace pA:=AtL.below hb pA
 replace hB:=zAB hB hb
 clear hb;go_wp2_with fail
 refine hkQ hK (pA.2.1 0 _ rfl) (λhHeld=>?_);clear hK K
 have hl:(Instr.lookup 224 (.map (some b)) (.int .i64 10) true).run prog w1=.ok (.tuple #[.func (.func 187) #[] #[],.bool true]) w1  :=zA3 (j:=9) zDD hM (zDE _ _ _) (by kernel_rfl);refine rdQ 3 (λK hK=>?_);go_simp
 refine hkQ hK (pA.2.1 0 _ rfl) (λhHeld=>?_);clear hK K
 refine tkQ 4 ?_
 refine tkQ 5 ?_
 refine tkQ 6 ?_
 refine rdQ 7 (λK hK=>?_);go_simp
 refine hkQ hK (pA.2.1 0 _ rfl) (λhHeld=>?_);clear hK K
 refine rdQ 8 (λK hK=>?_);go_simp
 refine hkQ hK (pA.2.1 0 _ rfl) (λhHeld=>?_);clear hK K
 refine wpAnyH_done (by kernel_rfl) ?_ _;clear hHeld hl hM;have rA:=pA.range;clear pA;go_wp2_with (first | (refine zAA (by rfl) 198 (.tmp 1) rfl w.heap.size 0 rfl (zAE 10 n k) _ rA underlying198 rfl (by kernel_rfl) ?_) | (refine zAL rfl 229 _ rfl _ rfl (zAE 10 n k) (by kernel_rfl) ?_) | (go_at_call 187;refine (zOK 10 n k _).mono ?_;rintro e w2 ⟨⟨t,p,rfl⟩,hb2⟩;replace hB:=zAB hB hb2;clear hb2))
 go_ret2
 exact ⟨⟨_,rfl⟩,(clB hB)⟩
theorem zLN (n k:Int) (w:World):Calls prog 163 #[.agg (zAE 11 n k).toArray] w λe w'=>(∃ v,e=.returned (.tuple #[v,.bool true]))/\Below w.heap.size w w':=by
 have pA:=AtL.new0 w 198 (zAE 11 n k);have hB:=zAM (Below.refl _ w) (.cells (zAE 11 n k).toArray 198);have eg:∀ args w,(callFunc 188 args).run prog w=.ok (.enter 188 args) w:=λ_ _=>by kernel_rfl
 go_enter func163,ntmps163;go_upto_region 1 with fail
 generalize (w.alloc (.cells (zAE 11 n k).toArray 198))=W0 at *;replace pA:=AtL.drew pA
 replace hB:=hB.drew
 refine wp_region_held_drew (S:=λW=>W.cell? ⟨w.heap.size,0,none⟩=some (.int .i64 11)) (by kernel_rfl) (pA.2.1 0 _ rfl) (λhHeld=>?_);generalize W0.drew=wd at *;refine tkQ 1 ?_
 refine tkQ 2 ?_
 refine rdQ 0 (λK hK=>?_);go_simp
 refine (zAX _).mono ?_;rintro e w1 ⟨⟨b,rfl,hM⟩,hb⟩;replace pA:=AtL.below hb pA
 replace hB:=zAB hB hb
 clear hb;go_wp2_with fail
 refine hkQ hK (pA.2.1 0 _ rfl) (λhHeld=>?_);clear hK K
 have hl:(Instr.lookup 224 (.map (some b)) (.int .i64 11) true).run prog w1=.ok (.tuple #[.func (.func 188) #[] #[],.bool true]) w1  :=zA3 (j:=10) zDD hM (zDE _ _ _) (by kernel_rfl);refine rdQ 3 (λK hK=>?_);go_simp
 refine hkQ hK (pA.2.1 0 _ rfl) (λhHeld=>?_);clear hK K
 refine tkQ 4 ?_
 refine tkQ 5 ?_
 refine tkQ 6 ?_
 refine rdQ 7 (λK hK=>?_);go_simp
 refine hkQ hK (pA.2.1 0 _ rfl) (λhHeld=>?_);clear hK K
 refine rdQ 8 (λK hK=>?_);go_simp
 refine hkQ hK (pA.2.1 0 _ rfl) (λhHeld=>?_);clear hK K
 refine wpAnyH_done (by kernel_rfl) ?_ _;clear hHeld hl hM;have rA:=pA.range;clear pA;go_wp2_with (first | (refine zAA (by rfl) 198 (.tmp 1) rfl w.heap.size 0 rfl (zAE 11 n k) _ rA underlying198 rfl (by kernel_rfl) ?_) | (refine zAL rfl 229 _ rfl _ rfl (zAE 11 n k) (by kernel_rfl) ?_) | (go_at_call 188;refine (zHF 11 n k _).mono ?_;rintro e w2 ⟨⟨t,p,rfl⟩,hb2⟩;replace hB:=zAB hB hb2;clear hb2))
 go_ret2
 exact ⟨⟨_,rfl⟩,(clB hB)⟩
theorem zK9 (n k:Int) (w:World):Calls prog 163 #[.agg (zAE 12 n k).toArray] w λe w'=>(∃ v,e=.returned (.tuple #[v,.bool true]))/\Below w.heap.size w w':=by
 have pA:=AtL.new0 w 198 (zAE 12 n k);have hB:=zAM (Below.refl _ w) (.cells (zAE 12 n k).toArray 198);have eg:∀ args w,(callFunc 189 args).run prog w=.ok (.enter 189 args) w:=λ_ _=>by kernel_rfl
 go_enter func163,ntmps163;go_upto_region 1 with fail
 generalize (w.alloc (.cells (zAE 12 n k).toArray 198))=W0 at *;replace pA:=AtL.drew pA
 replace hB:=hB.drew
 refine wp_region_held_drew (S:=λW=>W.cell? ⟨w.heap.size,0,none⟩=some (.int .i64 12)) (by kernel_rfl) (pA.2.1 0 _ rfl) (λhHeld=>?_);generalize W0.drew=wd at *;refine tkQ 1 ?_
 refine tkQ 2 ?_
 refine rdQ 0 (λK hK=>?_);go_simp
 refine (zAX _).mono ?_;rintro e w1 ⟨⟨b,rfl,hM⟩,hb⟩;replace pA:=AtL.below hb pA
 replace hB:=zAB hB hb
 clear hb;go_wp2_with fail
 refine hkQ hK (pA.2.1 0 _ rfl) (λhHeld=>?_);clear hK K
 have hl:(Instr.lookup 224 (.map (some b)) (.int .i64 12) true).run prog w1=.ok (.tuple #[.func (.func 189) #[] #[],.bool true]) w1  :=zA3 (j:=11) zDD hM (zDE _ _ _) (by kernel_rfl);refine rdQ 3 (λK hK=>?_);go_simp
 refine hkQ hK (pA.2.1 0 _ rfl) (λhHeld=>?_);clear hK K
 refine tkQ 4 ?_
 refine tkQ 5 ?_
 refine tkQ 6 ?_
 refine rdQ 7 (λK hK=>?_);go_simp
 refine hkQ hK (pA.2.1 0 _ rfl) (λhHeld=>?_);clear hK K
 refine rdQ 8 (λK hK=>?_);go_simp
 refine hkQ hK (pA.2.1 0 _ rfl) (λhHeld=>?_);clear hK K
 refine wpAnyH_done (by kernel_rfl) ?_ _;clear hHeld hl hM;have rA:=pA.range;clear pA;go_wp2_with (first | (refine zAA (by rfl) 198 (.tmp 1) rfl w.heap.size 0 rfl (zAE 12 n k) _ rA underlying198 rfl (by kernel_rfl) ?_) | (refine zAL rfl 229 _ rfl _ rfl (zAE 12 n k) (by kernel_rfl) ?_) | (go_at_call 189;refine (zGj 12 n k _).mono ?_;rintro e w2 ⟨⟨t,p,rfl⟩,hb2⟩;replace hB:=zAB hB hb2;clear hb2))
 go_ret2
 exact ⟨⟨_,rfl⟩,(clB hB)⟩
theorem zK8 (n k:Int) (w:World):Calls prog 163 #[.agg (zAE 13 n k).toArray] w λe w'=>(∃ v,e=.returned (.tuple #[v,.bool true]))/\Below w.heap.size w w':=by
 have pA:=AtL.new0 w 198 (zAE 13 n k);have hB:=zAM (Below.refl _ w) (.cells (zAE 13 n k).toArray 198);have eg:∀ args w,(callFunc 190 args).run prog w=.ok (.enter 190 args) w:=λ_ _=>by kernel_rfl
 go_enter func163,ntmps163;go_upto_region 1 with fail
 generalize (w.alloc (.cells (zAE 13 n k).toArray 198))=W0 at *;replace pA:=AtL.drew pA
 replace hB:=hB.drew
 refine wp_region_held_drew (S:=λW=>W.cell? ⟨w.heap.size,0,none⟩=some (.int .i64 13)) (by kernel_rfl) (pA.2.1 0 _ rfl) (λhHeld=>?_);generalize W0.drew=wd at *;refine tkQ 1 ?_
 refine tkQ 2 ?_
 refine rdQ 0 (λK hK=>?_);go_simp
 refine (zAX _).mono ?_;rintro e w1 ⟨⟨b,rfl,hM⟩,hb⟩;replace pA:=AtL.below hb pA
 replace hB:=zAB hB hb
 clear hb;go_wp2_with fail
 refine hkQ hK (pA.2.1 0 _ rfl) (λhHeld=>?_);clear hK K
 have hl:(Instr.lookup 224 (.map (some b)) (.int .i64 13) true).run prog w1=.ok (.tuple #[.func (.func 190) #[] #[],.bool true]) w1  :=zA3 (j:=12) zDD hM (zDE _ _ _) (by kernel_rfl);refine rdQ 3 (λK hK=>?_);go_simp
 refine hkQ hK (pA.2.1 0 _ rfl) (λhHeld=>?_);clear hK K
 refine tkQ 4 ?_
 refine tkQ 5 ?_
 refine tkQ 6 ?_
 refine rdQ 7 (λK hK=>?_);go_simp
 refine hkQ hK (pA.2.1 0 _ rfl) (λhHeld=>?_);clear hK K
 refine rdQ 8 (λK hK=>?_);go_simp
 refine hkQ hK (pA.2.1 0 _ rfl) (λhHeld=>?_);clear hK K
 refine wpAnyH_done (by kernel_rfl) ?_ _;clear hHeld hl hM;have rA:=pA.range;clear pA;go_wp2_with (first | (refine zAA (by rfl) 198 (.tmp 1) rfl w.heap.size 0 rfl (zAE 13 n k) _ rA underlying198 rfl (by kernel_rfl) ?_) | (refine zAL rfl 229 _ rfl _ rfl (zAE 13 n k) (by kernel_rfl) ?_) | (go_at_call 190;refine (zGm 13 n k _).mono ?_;rintro e w2 ⟨⟨t,p,rfl⟩,hb2⟩;replace hB:=zAB hB hb2;clear hb2))
 go_ret2
 exact ⟨⟨_,rfl⟩,(clB hB)⟩
theorem zLP (n k:Int) (w:World):Calls prog 163 #[.agg (zAE 14 n k).toArray] w λe w'=>(∃ v,e=.returned (.tuple #[v,.bool true]))/\Below w.heap.size w w':=by
 have pA:=AtL.new0 w 198 (zAE 14 n k);have hB:=zAM (Below.refl _ w) (.cells (zAE 14 n k).toArray 198);have eg:∀ args w,(callFunc 191 args).run prog w=.ok (.enter 191 args) w:=λ_ _=>by kernel_rfl
 go_enter func163,ntmps163;go_upto_region 1 with fail
 generalize (w.alloc (.cells (zAE 14 n k).toArray 198))=W0 at *;replace pA:=AtL.drew pA
 replace hB:=hB.drew
 refine wp_region_held_drew (S:=λW=>W.cell? ⟨w.heap.size,0,none⟩=some (.int .i64 14)) (by kernel_rfl) (pA.2.1 0 _ rfl) (λhHeld=>?_);generalize W0.drew=wd at *;refine tkQ 1 ?_
 refine tkQ 2 ?_
 refine rdQ 0 (λK hK=>?_);go_simp
 refine (zAX _).mono ?_;rintro e w1 ⟨⟨b,rfl,hM⟩,hb⟩;replace pA:=AtL.below hb pA
 replace hB:=zAB hB hb
 clear hb;go_wp2_with fail
 refine hkQ hK (pA.2.1 0 _ rfl) (λhHeld=>?_);clear hK K
 have hl:(Instr.lookup 224 (.map (some b)) (.int .i64 14) true).run prog w1=.ok (.tuple #[.func (.func 191) #[] #[],.bool true]) w1  :=zA3 (j:=13) zDD hM (zDE _ _ _) (by kernel_rfl);refine rdQ 3 (λK hK=>?_);go_simp
 refine hkQ hK (pA.2.1 0 _ rfl) (λhHeld=>?_);clear hK K
 refine tkQ 4 ?_
 refine tkQ 5 ?_
 refine tkQ 6 ?_
 refine rdQ 7 (λK hK=>?_);go_simp
 refine hkQ hK (pA.2.1 0 _ rfl) (λhHeld=>?_);clear hK K
 refine rdQ 8 (λK hK=>?_);go_simp
 refine hkQ hK (pA.2.1 0 _ rfl) (λhHeld=>?_);clear hK K
 refine wpAnyH_done (by kernel_rfl) ?_ _;clear hHeld hl hM;have rA:=pA.range;clear pA;go_wp2_with (first | (refine zAA (by rfl) 198 (.tmp 1) rfl w.heap.size 0 rfl (zAE 14 n k) _ rA underlying198 rfl (by kernel_rfl) ?_) | (refine zAL rfl 229 _ rfl _ rfl (zAE 14 n k) (by kernel_rfl) ?_) | (go_at_call 191;refine (zJ2 14 n k _).mono ?_;rintro e w2 ⟨⟨t,p,rfl⟩,hb2⟩;replace hB:=zAB hB hb2;clear hb2))
 go_ret2
 exact ⟨⟨_,rfl⟩,(clB hB)⟩
theorem zKv (n k:Int) (w:World):Calls prog 163 #[.agg (zAE 15 n k).toArray] w λe w'=>(∃ v,e=.returned (.tuple #[v,.bool true]))/\Below w.heap.size w w':=by
 have pA:=AtL.new0 w 198 (zAE 15 n k);have hB:=zAM (Below.refl _ w) (.cells (zAE 15 n k).toArray 198);have eg:∀ args w,(callFunc 192 args).run prog w=.ok (.enter 192 args) w:=λ_ _=>by kernel_rfl
 go_enter func163,ntmps163;go_upto_region 1 with fail
 generalize (w.alloc (.cells (zAE 15 n k).toArray 198))=W0 at *;replace pA:=AtL.drew pA
 replace hB:=hB.drew
 refine wp_region_held_drew (S:=λW=>W.cell? ⟨w.heap.size,0,none⟩=some (.int .i64 15)) (by kernel_rfl) (pA.2.1 0 _ rfl) (λhHeld=>?_);generalize W0.drew=wd at *;refine tkQ 1 ?_
 refine tkQ 2 ?_
 refine rdQ 0 (λK hK=>?_);go_simp
 refine (zAX _).mono ?_;rintro e w1 ⟨⟨b,rfl,hM⟩,hb⟩;replace pA:=AtL.below hb pA
 replace hB:=zAB hB hb
 clear hb;go_wp2_with fail
 refine hkQ hK (pA.2.1 0 _ rfl) (λhHeld=>?_);clear hK K
 have hl:(Instr.lookup 224 (.map (some b)) (.int .i64 15) true).run prog w1=.ok (.tuple #[.func (.func 192) #[] #[],.bool true]) w1  :=zA3 (j:=14) zDD hM (zDE _ _ _) (by kernel_rfl);refine rdQ 3 (λK hK=>?_);go_simp
 refine hkQ hK (pA.2.1 0 _ rfl) (λhHeld=>?_);clear hK K
 refine tkQ 4 ?_
 refine tkQ 5 ?_
 refine tkQ 6 ?_
 refine rdQ 7 (λK hK=>?_);go_simp
 refine hkQ hK (pA.2.1 0 _ rfl) (λhHeld=>?_);clear hK K
 refine rdQ 8 (λK hK=>?_);go_simp
 refine hkQ hK (pA.2.1 0 _ rfl) (λhHeld=>?_);clear hK K
 refine wpAnyH_done (by kernel_rfl) ?_ _;clear hHeld hl hM;have rA:=pA.range;clear pA;go_wp2_with (first | (refine zAA (by rfl) 198 (.tmp 1) rfl w.heap.size 0 rfl (zAE 15 n k) _ rA underlying198 rfl (by kernel_rfl) ?_) | (refine zAL rfl 229 _ rfl _ rfl (zAE 15 n k) (by kernel_rfl) ?_) | (go_at_call 192;refine (zN1 15 n k _).mono ?_;rintro e w2 ⟨⟨t,p,rfl⟩,hb2⟩;replace hB:=zAB hB hb2;clear hb2))
 go_ret2
 exact ⟨⟨_,rfl⟩,(clB hB)⟩
theorem zKC (n k:Int) (w:World):Calls prog 163 #[.agg (zAE 20 n k).toArray] w λe w'=>(∃ v,e=.returned (.tuple #[v,.bool true]))/\Below w.heap.size w w':=by
 have pA:=AtL.new0 w 198 (zAE 20 n k);have hB:=zAM (Below.refl _ w) (.cells (zAE 20 n k).toArray 198);have eg:∀ args w,(callFunc 193 args).run prog w=.ok (.enter 193 args) w:=λ_ _=>by kernel_rfl
 go_enter func163,ntmps163;go_upto_region 1 with fail
 generalize (w.alloc (.cells (zAE 20 n k).toArray 198))=W0 at *;replace pA:=AtL.drew pA
 replace hB:=hB.drew
 refine wp_region_held_drew (S:=λW=>W.cell? ⟨w.heap.size,0,none⟩=some (.int .i64 20)) (by kernel_rfl) (pA.2.1 0 _ rfl) (λhHeld=>?_);generalize W0.drew=wd at *;refine tkQ 1 ?_
 refine tkQ 2 ?_
 refine rdQ 0 (λK hK=>?_);go_simp
 refine (zAX _).mono ?_;rintro e w1 ⟨⟨b,rfl,hM⟩,hb⟩;replace pA:=AtL.below hb pA
 replace hB:=zAB hB hb
 clear hb;go_wp2_with fail
 refine hkQ hK (pA.2.1 0 _ rfl) (λhHeld=>?_);clear hK K
 have hl:(Instr.lookup 224 (.map (some b)) (.int .i64 20) true).run prog w1=.ok (.tuple #[.func (.func 193) #[] #[],.bool true]) w1  :=zA3 (j:=15) zDD hM (zDE _ _ _) (by kernel_rfl);refine rdQ 3 (λK hK=>?_);go_simp
 refine hkQ hK (pA.2.1 0 _ rfl) (λhHeld=>?_);clear hK K
 refine tkQ 4 ?_
 refine tkQ 5 ?_
 refine tkQ 6 ?_
 refine rdQ 7 (λK hK=>?_);go_simp
 refine hkQ hK (pA.2.1 0 _ rfl) (λhHeld=>?_);clear hK K
 refine rdQ 8 (λK hK=>?_);go_simp
 refine hkQ hK (pA.2.1 0 _ rfl) (λhHeld=>?_);clear hK K
 refine wpAnyH_done (by kernel_rfl) ?_ _;clear hHeld hl hM;have rA:=pA.range;clear pA;go_wp2_with (first | (refine zAA (by rfl) 198 (.tmp 1) rfl w.heap.size 0 rfl (zAE 20 n k) _ rA underlying198 rfl (by kernel_rfl) ?_) | (refine zAL rfl 229 _ rfl _ rfl (zAE 20 n k) (by kernel_rfl) ?_) | (go_at_call 193;refine (zJm 20 n k _).mono ?_;rintro e w2 ⟨⟨t,p,rfl⟩,hb2⟩;replace hB:=zAB hB hb2;clear hb2))
 go_ret2
 exact ⟨⟨_,rfl⟩,(clB hB)⟩
theorem zKk (n k:Int) (w:World):Calls prog 163 #[.agg (zAE 21 n k).toArray] w λe w'=>(∃ v,e=.returned (.tuple #[v,.bool true]))/\Below w.heap.size w w':=by
 have pA:=AtL.new0 w 198 (zAE 21 n k);have hB:=zAM (Below.refl _ w) (.cells (zAE 21 n k).toArray 198);have eg:∀ args w,(callFunc 194 args).run prog w=.ok (.enter 194 args) w:=λ_ _=>by kernel_rfl
 go_enter func163,ntmps163;go_upto_region 1 with fail
 generalize (w.alloc (.cells (zAE 21 n k).toArray 198))=W0 at *;replace pA:=AtL.drew pA
 replace hB:=hB.drew
 refine wp_region_held_drew (S:=λW=>W.cell? ⟨w.heap.size,0,none⟩=some (.int .i64 21)) (by kernel_rfl) (pA.2.1 0 _ rfl) (λhHeld=>?_);generalize W0.drew=wd at *;refine tkQ 1 ?_
 refine tkQ 2 ?_
 refine rdQ 0 (λK hK=>?_);go_simp
 refine (zAX _).mono ?_;rintro e w1 ⟨⟨b,rfl,hM⟩,hb⟩;replace pA:=AtL.below hb pA
 replace hB:=zAB hB hb
 clear hb;go_wp2_with fail
 refine hkQ hK (pA.2.1 0 _ rfl) (λhHeld=>?_);clear hK K
 have hl:(Instr.lookup 224 (.map (some b)) (.int .i64 21) true).run prog w1=.ok (.tuple #[.func (.func 194) #[] #[],.bool true]) w1  :=zA3 (j:=16) zDD hM (zDE _ _ _) (by kernel_rfl);refine rdQ 3 (λK hK=>?_);go_simp
 refine hkQ hK (pA.2.1 0 _ rfl) (λhHeld=>?_);clear hK K
 refine tkQ 4 ?_
 refine tkQ 5 ?_
 refine tkQ 6 ?_
 refine rdQ 7 (λK hK=>?_);go_simp
 refine hkQ hK (pA.2.1 0 _ rfl) (λhHeld=>?_);clear hK K
 refine rdQ 8 (λK hK=>?_);go_simp
 refine hkQ hK (pA.2.1 0 _ rfl) (λhHeld=>?_);clear hK K
 refine wpAnyH_done (by kernel_rfl) ?_ _;clear hHeld hl hM;have rA:=pA.range;clear pA;go_wp2_with (first | (refine zAA (by rfl) 198 (.tmp 1) rfl w.heap.size 0 rfl (zAE 21 n k) _ rA underlying198 rfl (by kernel_rfl) ?_) | (refine zAL rfl 229 _ rfl _ rfl (zAE 21 n k) (by kernel_rfl) ?_) | (go_at_call 194;refine (zGo 21 n k _).mono ?_;rintro e w2 ⟨⟨t,p,rfl⟩,hb2⟩;replace hB:=zAB hB hb2;clear hb2))
 go_ret2
 exact ⟨⟨_,rfl⟩,(clB hB)⟩
theorem zJr (n k:Int) (w:World):Calls prog 163 #[.agg (zAE 22 n k).toArray] w λe w'=>(∃ v,e=.returned (.tuple #[v,.bool true]))/\Below w.heap.size w w':=by
 have pA:=AtL.new0 w 198 (zAE 22 n k);have hB:=zAM (Below.refl _ w) (.cells (zAE 22 n k).toArray 198);have eg:∀ args w,(callFunc 195 args).run prog w=.ok (.enter 195 args) w:=λ_ _=>by kernel_rfl
 go_enter func163,ntmps163;go_upto_region 1 with fail
 generalize (w.alloc (.cells (zAE 22 n k).toArray 198))=W0 at *;replace pA:=AtL.drew pA
 replace hB:=hB.drew
 refine wp_region_held_drew (S:=λW=>W.cell? ⟨w.heap.size,0,none⟩=some (.int .i64 22)) (by kernel_rfl) (pA.2.1 0 _ rfl) (λhHeld=>?_);generalize W0.drew=wd at *;refine tkQ 1 ?_
 refine tkQ 2 ?_
 refine rdQ 0 (λK hK=>?_);go_simp
 refine (zAX _).mono ?_;rintro e w1 ⟨⟨b,rfl,hM⟩,hb⟩;replace pA:=AtL.below hb pA
 replace hB:=zAB hB hb
 clear hb;go_wp2_with fail
 refine hkQ hK (pA.2.1 0 _ rfl) (λhHeld=>?_);clear hK K
 have hl:(Instr.lookup 224 (.map (some b)) (.int .i64 22) true).run prog w1=.ok (.tuple #[.func (.func 195) #[] #[],.bool true]) w1  :=zA3 (j:=17) zDD hM (zDE _ _ _) (by kernel_rfl);refine rdQ 3 (λK hK=>?_);go_simp
 refine hkQ hK (pA.2.1 0 _ rfl) (λhHeld=>?_);clear hK K
 refine tkQ 4 ?_
 refine tkQ 5 ?_
 refine tkQ 6 ?_
 refine rdQ 7 (λK hK=>?_);go_simp
 refine hkQ hK (pA.2.1 0 _ rfl) (λhHeld=>?_);clear hK K
 refine rdQ 8 (λK hK=>?_);go_simp
 refine hkQ hK (pA.2.1 0 _ rfl) (λhHeld=>?_);clear hK K
 refine wpAnyH_done (by kernel_rfl) ?_ _;clear hHeld hl hM;have rA:=pA.range;clear pA;go_wp2_with (first | (refine zAA (by rfl) 198 (.tmp 1) rfl w.heap.size 0 rfl (zAE 22 n k) _ rA underlying198 rfl (by kernel_rfl) ?_) | (refine zAL rfl 229 _ rfl _ rfl (zAE 22 n k) (by kernel_rfl) ?_) | (go_at_call 195;refine (zLA 22 n k _).mono ?_;rintro e w2 ⟨⟨t,p,rfl⟩,hb2⟩;replace hB:=zAB hB hb2;clear hb2))
 go_ret2
 exact ⟨⟨_,rfl⟩,(clB hB)⟩
theorem zKH (n k:Int) (w:World):Calls prog 163 #[.agg (zAE 23 n k).toArray] w λe w'=>(∃ v,e=.returned (.tuple #[v,.bool true]))/\Below w.heap.size w w':=by
 have pA:=AtL.new0 w 198 (zAE 23 n k);have hB:=zAM (Below.refl _ w) (.cells (zAE 23 n k).toArray 198);have eg:∀ args w,(callFunc 196 args).run prog w=.ok (.enter 196 args) w:=λ_ _=>by kernel_rfl
 go_enter func163,ntmps163;go_upto_region 1 with fail
 generalize (w.alloc (.cells (zAE 23 n k).toArray 198))=W0 at *;replace pA:=AtL.drew pA
 replace hB:=hB.drew
 refine wp_region_held_drew (S:=λW=>W.cell? ⟨w.heap.size,0,none⟩=some (.int .i64 23)) (by kernel_rfl) (pA.2.1 0 _ rfl) (λhHeld=>?_);generalize W0.drew=wd at *;refine tkQ 1 ?_
 refine tkQ 2 ?_
 refine rdQ 0 (λK hK=>?_);go_simp
 refine (zAX _).mono ?_;rintro e w1 ⟨⟨b,rfl,hM⟩,hb⟩;replace pA:=AtL.below hb pA
 replace hB:=zAB hB hb
 clear hb;go_wp2_with fail
 refine hkQ hK (pA.2.1 0 _ rfl) (λhHeld=>?_);clear hK K
 have hl:(Instr.lookup 224 (.map (some b)) (.int .i64 23) true).run prog w1=.ok (.tuple #[.func (.func 196) #[] #[],.bool true]) w1  :=zA3 (j:=18) zDD hM (zDE _ _ _) (by kernel_rfl);refine rdQ 3 (λK hK=>?_);go_simp
 refine hkQ hK (pA.2.1 0 _ rfl) (λhHeld=>?_);clear hK K
 refine tkQ 4 ?_
 refine tkQ 5 ?_
 refine tkQ 6 ?_
 refine rdQ 7 (λK hK=>?_);go_simp
 refine hkQ hK (pA.2.1 0 _ rfl) (λhHeld=>?_);clear hK K
 refine rdQ 8 (λK hK=>?_);go_simp
 refine hkQ hK (pA.2.1 0 _ rfl) (λhHeld=>?_);clear hK K
 refine wpAnyH_done (by kernel_rfl) ?_ _;clear hHeld hl hM;have rA:=pA.range;clear pA;go_wp2_with (first | (refine zAA (by rfl) 198 (.tmp 1) rfl w.heap.size 0 rfl (zAE 23 n k) _ rA underlying198 rfl (by kernel_rfl) ?_) | (refine zAL rfl 229 _ rfl _ rfl (zAE 23 n k) (by kernel_rfl) ?_) | (go_at_call 196;refine (zIb 23 n k _).mono ?_;rintro e w2 ⟨⟨t,p,rfl⟩,hb2⟩;replace hB:=zAB hB hb2;clear hb2))
 go_ret2
 exact ⟨⟨_,rfl⟩,(clB hB)⟩
theorem zJ4 (n k:Int) (w:World):Calls prog 163 #[.agg (zAE 24 n k).toArray] w λe w'=>(∃ v,e=.returned (.tuple #[v,.bool true]))/\Below w.heap.size w w':=by
 have pA:=AtL.new0 w 198 (zAE 24 n k);have hB:=zAM (Below.refl _ w) (.cells (zAE 24 n k).toArray 198);have eg:∀ args w,(callFunc 197 args).run prog w=.ok (.enter 197 args) w:=λ_ _=>by kernel_rfl
 go_enter func163,ntmps163;go_upto_region 1 with fail
 generalize (w.alloc (.cells (zAE 24 n k).toArray 198))=W0 at *;replace pA:=AtL.drew pA
 replace hB:=hB.drew
 refine wp_region_held_drew (S:=λW=>W.cell? ⟨w.heap.size,0,none⟩=some (.int .i64 24)) (by kernel_rfl) (pA.2.1 0 _ rfl) (λhHeld=>?_);generalize W0.drew=wd at *;refine tkQ 1 ?_
 refine tkQ 2 ?_
 refine rdQ 0 (λK hK=>?_);go_simp
 refine (zAX _).mono ?_;rintro e w1 ⟨⟨b,rfl,hM⟩,hb⟩;replace pA:=AtL.below hb pA
 replace hB:=zAB hB hb
 clear hb;go_wp2_with fail
 refine hkQ hK (pA.2.1 0 _ rfl) (λhHeld=>?_);clear hK K
 have hl:(Instr.lookup 224 (.map (some b)) (.int .i64 24) true).run prog w1=.ok (.tuple #[.func (.func 197) #[] #[],.bool true]) w1  :=zA3 (j:=19) zDD hM (zDE _ _ _) (by kernel_rfl);refine rdQ 3 (λK hK=>?_);go_simp
 refine hkQ hK (pA.2.1 0 _ rfl) (λhHeld=>?_);clear hK K
 refine tkQ 4 ?_
 refine tkQ 5 ?_
 refine tkQ 6 ?_
 refine rdQ 7 (λK hK=>?_);go_simp
 refine hkQ hK (pA.2.1 0 _ rfl) (λhHeld=>?_);clear hK K
 refine rdQ 8 (λK hK=>?_);go_simp
 refine hkQ hK (pA.2.1 0 _ rfl) (λhHeld=>?_);clear hK K
 refine wpAnyH_done (by kernel_rfl) ?_ _;clear hHeld hl hM;have rA:=pA.range;clear pA;go_wp2_with (first | (refine zAA (by rfl) 198 (.tmp 1) rfl w.heap.size 0 rfl (zAE 24 n k) _ rA underlying198 rfl (by kernel_rfl) ?_) | (refine zAL rfl 229 _ rfl _ rfl (zAE 24 n k) (by kernel_rfl) ?_) | (go_at_call 197;refine (zDZ 24 n k _).mono ?_;rintro e w2 ⟨⟨t,p,rfl⟩,hb2⟩;replace hB:=zAB hB hb2;clear hb2))
 go_ret2
 exact ⟨⟨_,rfl⟩,(clB hB)⟩
theorem zKh (id:Int) (n k:Int) (w:World) (hno:∀ p ∈ kT,p.1 ≠ id):Calls prog 163 #[.agg (zAE id n k).toArray] w λe w'=>(∃ v,e=.returned (.tuple #[v,.bool false]))/\Below w.heap.size w w':=by
 have pA:=AtL.new0 w 198 (zAE id n k);have hB:=zAM (Below.refl _ w) (.cells (zAE id n k).toArray 198);go_enter func163,ntmps163;go_upto_region 1 with fail
 generalize (w.alloc (.cells (zAE id n k).toArray 198))=W0 at *;replace pA:=AtL.drew pA
 replace hB:=hB.drew
 refine wp_region_held_drew (S:=λW=>W.cell? ⟨w.heap.size,0,none⟩=some (.int .i64 id)) (by kernel_rfl) (pA.2.1 0 _ rfl) (λhHeld=>?_);generalize W0.drew=wd at *;refine tkQ 1 ?_
 refine tkQ 2 ?_
 refine rdQ 0 (λK hK=>?_);go_simp
 refine (zAX _).mono ?_;rintro e w1 ⟨⟨b,rfl,hM⟩,hb⟩;replace pA:=AtL.below hb pA
 replace hB:=zAB hB hb
 clear hb;go_wp2_with fail
 refine hkQ hK (pA.2.1 0 _ rfl) (λhHeld=>?_);clear hK K
 have hl:(Instr.lookup 224 (.map (some b)) (.int .i64 id) true).run prog w1=.ok (.tuple #[.nilFunc,.bool false]) w1:=zCn zDD hM (zDE _ _ _) (zHs kT id hno w1) (by kernel_rfl);refine rdQ 3 (λK hK=>?_);go_simp
 refine hkQ hK (pA.2.1 0 _ rfl) (λhHeld=>?_);clear hK K
 refine tkQ 4 ?_
 refine tkQ 5 ?_
 refine tkQ 6 ?_
 refine rdQ 7 (λK hK=>?_);go_simp
 refine hkQ hK (pA.2.1 0 _ rfl) (λhHeld=>?_);clear hK K
 refine rdQ 8 (λK hK=>?_);go_simp
 refine hkQ hK (pA.2.1 0 _ rfl) (λhHeld=>?_);clear hK K
 refine wpAnyH_done (by kernel_rfl) ?_ _;clear hHeld hl hM;have rA:=pA.range;clear pA;go_wp2;go_ret2
 exact ⟨⟨_,rfl⟩,hB⟩
