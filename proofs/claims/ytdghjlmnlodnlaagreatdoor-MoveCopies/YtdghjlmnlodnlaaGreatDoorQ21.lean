/- MWalkC. -/
import Derived.Test.YtdghjlmnlodnlaaGreatDoorQ20
set_option maxHeartbeats 4000000
set_option maxRecDepth 100000
namespace Go.Proofs.YtdghjlmnlodnlaaGreatDoor
abbrev zNm:Oper:=⟨some 38,.load 28 (.tmp 6),28,"move.go:71",#[],none⟩
abbrev zOS:Oper:=⟨some 39,.load 28 (.tmp 8),28,"move.go:71",#[⟨7,.gcOnly .lateStores⟩],none⟩
abbrev zNx:Oper:=⟨some 40,.move (.tmp 7),4,"move.go:71",#[],none⟩
abbrev zOX:Oper:=⟨some 41,.move (.tmp 40),4,"move.go:71",#[⟨2,.data⟩],none⟩
abbrev zPK:Oper:=⟨some 42,.move (.tmp 9),4,"move.go:71",#[⟨3,.guard⟩,⟨9,.gcOnly .lateStores⟩],some (3,Bool.true)⟩
abbrev zOz:Oper:=⟨some 43,.pick (.tmp 41) (.tmp 42) (Operand.const (Value.bool Bool.false)),4,"move.go:71",#[⟨3,.data⟩,⟨4,.data⟩,⟨9,.gcOnly .lateStores⟩],none⟩
abbrev zN4:Oper:=⟨some 44,.fieldAddr 30 (.tmp 3) 5,0,"move.go:71",#[⟨0,.phase⟩,⟨1,.textOnly .lateStores⟩,⟨2,.textOnly .lateStores⟩,⟨3,.textOnly .lateStores⟩,⟨4,.textOnly .lateStores⟩,⟨5,.textOnly .lateStores⟩],none⟩
abbrev zO3:Oper:=⟨none,.store 28 (.tmp 44) (.tmp 38),0,"move.go:71",#[⟨6,.data⟩,⟨0,.data⟩,⟨3,.chain⟩,⟨0,.phase⟩,⟨1,.textOnly .lateStores⟩,⟨2,.textOnly .lateStores⟩,⟨3,.textOnly .lateStores⟩,⟨4,.textOnly .lateStores⟩,⟨5,.textOnly .lateStores⟩],none⟩
abbrev zOG:Oper:=⟨some 45,.fieldAddr 30 (.tmp 3) 6,0,"move.go:71",#[⟨0,.phase⟩,⟨1,.phase⟩,⟨2,.textOnly .lateStores⟩,⟨3,.textOnly .lateStores⟩,⟨4,.textOnly .lateStores⟩,⟨5,.textOnly .lateStores⟩,⟨6,.phase⟩,⟨7,.phase⟩],none⟩
abbrev zOw:Oper:=⟨none,.store 28 (.tmp 45) (.tmp 39),0,"move.go:71",#[⟨8,.data⟩,⟨1,.data⟩,⟨7,.chain⟩,⟨0,.phase⟩,⟨1,.phase⟩,⟨2,.textOnly .lateStores⟩,⟨3,.textOnly .lateStores⟩,⟨4,.textOnly .lateStores⟩,⟨5,.textOnly .lateStores⟩,⟨6,.phase⟩,⟨7,.phase⟩],none⟩
abbrev zJR:Oper:=⟨some 5,.assign (.tmp 43),4,"move.go:71",#[⟨5,.data⟩,⟨9,.chain⟩,⟨0,.phase⟩,⟨1,.phase⟩,⟨2,.phase⟩,⟨3,.phase⟩,⟨4,.phase⟩,⟨5,.phase⟩,⟨6,.phase⟩,⟨7,.phase⟩,⟨8,.phase⟩,⟨9,.phase⟩],none⟩
open Go.RowKit Go.Shelf Tryz
set_option linter.unusedVariables false
theorem zJk (x y:Int) (n:Wt.Nd) (h3:n.k=3) (hq:okR x y n.a=true) (hq2:okR x y n.b=true) (w:World):CR 15 #[.agg #[.int .i64 x,.int .i64 y],.agg (zAE n).toArray] w (.agg (zAE (mvN x y n)).toArray):=by
 have C1:=λw=>zBa x y n.a w
 have C2:=λw=>zBa x y n.b w
 have hm:Hid (mvN x y n=⟨n.k,n.v,n.op,n.nm,n.ar,mvR x y n.a,mvR x y n.b⟩):=by show _=_;unfold mvN;rw [if_neg (by omega),if_pos h3,hq,hq2];rfl
 rw [hm.out];rw [hq] at C1;rw [hq2] at C2;clear hm hq hq2;obtain ⟨n2,hn2⟩:∃ n2:Wt.Nd,(⟨n.k,n.v,n.op,n.nm,n.ar,mvR x y n.a,mvR x y n.b⟩:Wt.Nd)=n2:=⟨_,rfl⟩
 rw [hn2];have Hn2:Hid ((⟨n.k,n.v,n.op,n.nm,n.ar,mvR x y n.a,mvR x y n.b⟩:Wt.Nd)=n2):=hn2;clear hn2;generalize mvR x y n.a=a' at *;generalize mvR x y n.b=b' at *;have pB:=((AtL.new0 w 50 [.int .i64 x,.int .i64 y]).alloc (.cells (zAE n).toArray 30)).alloc (.cells zC 30);have pN:=(AtL.new1 w (.cells #[.int .i64 x,.int .i64 y] 50) 30 (zAE n)).alloc (.cells zC 30);have pR:AtL (((w.alloc (.cells #[.int .i64 x,.int .i64 y] 50)).alloc (.cells (zAE n).toArray 30)).alloc (.cells zC 30)) (w.heap.size+2) (zAE zF8):=AtL.new _ _ (by simp) _;have hB:=zAI (zAI (zAI (Below.refl _ w) (.cells #[.int .i64 x,.int .i64 y] 50)) (.cells (zAE n).toArray 30)) (.cells zC 30);go_enter func15,ntmps15;go_upto_region 1 with fail
 generalize (((w.alloc (.cells #[.int .i64 x,.int .i64 y] 50)).alloc (.cells (zAE n).toArray 30)).alloc (.cells zC 30))=W at *;obtain ⟨b0,b1,k0,k1⟩:=pB.two;have n0:W.cell? ⟨w.heap.size+1,0,none⟩=some (.int .i64 n.k):=pN.2.1 0 _ rfl;have rA:=zHE pN;rw [h3] at n0;go_wp2_with ((with_reducible refine wpList_load_mid (cs:=rf5 n.a) ?_ 28 (.tmp 26) ?_ (w.heap.size+1) 10 ?_ _ ?_ underlying28 ?_ ?_ ?_);rfl;rfl;rfl;exact rA;rfl;kernel_rfl)
 refine (C1 _).mono ?_;rintro e w1 ⟨rfl,hb⟩;have qW:=AtL.below hb pB;have qN:=AtL.below hb pN;have qR:=AtL.below hb pR;have qB:=zAA hB hb;clear hb pN pR hB pB b0 b1 k0 k1 n0 rA C1;have q6:=(AtL.new0 w1 28 [.string ⟨#[]⟩,.int .i64 0,.int .i64 0,.bool false,.bool false]).setAll (vs:=rf5 a') rfl;have sT:(w1.alloc (.cells zR0 28)).there w1.heap.size 0 (rf5 a').toArray.size:=(AtL.new0 w1 28 [.string ⟨#[]⟩,.int .i64 0,.int .i64 0,.bool false,.bool false]).there;have lt1:=qR.lt;have sW:=(qW.alloc (.cells zR0 28)).farAll (b:=w1.heap.size) (by omega) 0 (rf5 a');have sN:=(qN.alloc (.cells zR0 28)).farAll (b:=w1.heap.size) (by omega) 0 (rf5 a');have sR:=(qR.alloc (.cells zR0 28)).farAll (b:=w1.heap.size) (by omega) 0 (rf5 a');have sB:=zAg (zAI qB (.cells zR0 28)) (k:=w1.heap.size) (by omega) (rf5 a') 0;go_upto_region 7 with ((with_reducible refine wpList_store_mid ?_ 28 (.tmp 6) (.tmp 29) ?_ (w1.heap.size) 0 (rf5 a').toArray ?_ ?_ ?_ ?_ ?_ ?_);rfl;rfl;rfl;rfl;exact sT;kernel_rfl;exact zCO _)
 generalize (w1.alloc (.cells zR0 28)).setCells w1.heap.size 0 (rf5 a').toArray.toList=W1 at *;have lt6:=q6.lt;have hk6:w.heap.size+2<w1.heap.size:=lt1;generalize w1.heap.size=k6 at *;clear qW qN qR qB sT lt1;obtain ⟨b0,b1,k0,k1⟩:=sW.two;have rA:=zMx sN;go_wp2_with ((with_reducible refine wpList_load_mid (cs:=rf5 n.b) ?_ 28 (.tmp 33) ?_ (w.heap.size+1) 15 ?_ _ ?_ underlying28 ?_ ?_ ?_);rfl;rfl;rfl;exact rA;rfl;kernel_rfl)
 refine (C2 _).mono ?_;rintro e w2 ⟨rfl,hb⟩;have qN:=AtL.below hb sN;have qR:=AtL.below hb sR;have q66:=AtL.below hb q6;have qB:=zAA sB hb;have sz2:=hb.size;clear hb sN sR sB sW b0 b1 k0 k1 rA C2 q6;have q8:=(AtL.new0 w2 28 [.string ⟨#[]⟩,.int .i64 0,.int .i64 0,.bool false,.bool false]).setAll (vs:=rf5 b') rfl;have sT:(w2.alloc (.cells zR0 28)).there w2.heap.size 0 (rf5 b').toArray.size:=(AtL.new0 w2 28 [.string ⟨#[]⟩,.int .i64 0,.int .i64 0,.bool false,.bool false]).there;have s6:=(q66.alloc (.cells zR0 28)).farAll (b:=w2.heap.size) (by omega) 0 (rf5 b');have sN:=(qN.alloc (.cells zR0 28)).farAll (b:=w2.heap.size) (by omega) 0 (rf5 b');have sR:=(qR.alloc (.cells zR0 28)).farAll (b:=w2.heap.size) (by omega) 0 (rf5 b');have sB:=zAg (zAI qB (.cells zR0 28)) (k:=w2.heap.size) (by omega) (rf5 b') 0;have hk8:k6<w2.heap.size:=by omega
 go_upto_region 8 with ((with_reducible refine wpList_store_mid ?_ 28 (.tmp 8) (.tmp 36) ?_ (w2.heap.size) 0 (rf5 b').toArray ?_ ?_ ?_ ?_ ?_ ?_);rfl;rfl;rfl;rfl;exact sT;kernel_rfl;exact zCO _)
 generalize (w2.alloc (.cells zR0 28)).setCells w2.heap.size 0 (rf5 b').toArray.toList=W2 at *;generalize w2.heap.size=k8 at *;clear qN qR qB sT q66 lt6 sz2;replace q8:=AtL.drew q8
 replace s6:=AtL.drew s6
 replace sN:=AtL.drew sN
 replace sR:=AtL.drew sR
 replace sB:=sB.drew
 refine wp_region_held_drew (S:=λW=>W.rangeAt k6 0 (rf5 a')/\W.rangeAt k8 0 (rf5 b')) (by kernel_rfl) ⟨s6.range,q8.range⟩ (λhHeld=>?_);generalize W2.drew=WD at *;refine wpAnyH_take (i:=0) (oi:=zNm) (v:=.agg (rf5 a').toArray) rfl (by kernel_rfl) (by kernel_rfl) (by kernel_rfl) (λ_ _ _ h=>h) (yieldsIf_load_mid (by rfl) 28 (.tmp 6) rfl k6 0 rfl (rf5 a') _ (λ_ h=>h.1) underlying28 rfl (by kernel_rfl)) (by assumption) ?_;try simp only [Act.put,lA,lZ,lS]
 refine wpAnyH_take (i:=1) (oi:=zOS) (v:=.agg (rf5 b').toArray) rfl (by kernel_rfl) (by kernel_rfl) (by kernel_rfl) (λ_ _ _ h=>h) (yieldsIf_load_mid (by rfl) 28 (.tmp 8) rfl k8 0 rfl (rf5 b') _ (λ_ h=>h.2) underlying28 rfl (by kernel_rfl)) (by assumption) ?_;try simp only [Act.put,lA,lZ,lS]
 refine tkQ 2 zNx ?_
 refine tkQ 3 zOX ?_
 refine tkQ 4 zPK ?_
 refine tkQ 5 zOz ?_
 refine tkQ 6 zN4 ?_
 refine rdQ 7 zO3 (λK hK=>?_);refine wp_store_mid 28 (.tmp 44) (.tmp 38) rfl (w.heap.size+1) 10 (rf5 a').toArray rfl rfl (sN.thereSub 10 5 (by show 10+5<=20;omega)) (by kernel_rfl) (zCO _) ?_;have tN:=zBd sN a';have t6:=s6.farAll (b:=w.heap.size+1) (by omega) 10 (rf5 a');have t8:=q8.farAll (b:=w.heap.size+1) (by omega) 10 (rf5 a');have tR:=sR.farAll (b:=w.heap.size+1) (by omega) 10 (rf5 a');have tB:=zAg sB (k:=w.heap.size+1) (by omega) (rf5 a') 10;refine hK.out _ _ ⟨t6.range,t8.range⟩ (λhHeld=>?_);clear hK K sN s6 q8 sR sB;generalize WD.setCells (w.heap.size+1) 10 (rf5 a').toArray.toList=WE at *;try simp only [Act.put]
 refine tkQ 8 zOG ?_
 refine rdQ 9 zOw (λK hK=>?_);refine wp_store_mid 28 (.tmp 45) (.tmp 39) rfl (w.heap.size+1) 15 (rf5 b').toArray rfl rfl (tN.thereSub 15 5 (by show 15+5<=20;omega)) (by kernel_rfl) (zCO _) ?_;have uN:=zCD tN b';have u6:=t6.farAll (b:=w.heap.size+1) (by omega) 15 (rf5 b');have u8:=t8.farAll (b:=w.heap.size+1) (by omega) 15 (rf5 b');have uR:=tR.farAll (b:=w.heap.size+1) (by omega) 15 (rf5 b');have uB:=zAg tB (k:=w.heap.size+1) (by omega) (rf5 b') 15;refine hK.out _ _ ⟨u6.range,u8.range⟩ (λhHeld=>?_);clear hK K tN t6 t8 tR tB;generalize WE.setCells (w.heap.size+1) 15 (rf5 b').toArray.toList=WF at *;try simp only [Act.put]
 refine rdQ 10 zJR (λK hK=>?_);go_simp
 refine hK.out _ _ ⟨u6.range,u8.range⟩ (λhHeld=>?_);clear hK K u6 u8;try simp only [Act.put,lA,lZ,lS]
 refine wpAnyH_done (by kernel_rfl) ?_ _;simp only at uN;rw [Hn2.out] at uN;have rN:WF.rangeAt (w.heap.size+1) 0 (zAE n2):=uN.range;have rT:WF.there (w.heap.size+2) 0 (zAE n2).toArray.size:=uR.there;go_wp2_with (first | ((with_reducible refine wpList_load_mid (cs:=zAE n2) ?_ 30 (.tmp 3) ?_ (w.heap.size+1) 0 ?_ _ ?_ underlying30 ?_ ?_ ?_);rfl;rfl;rfl;exact rN;rfl;kernel_rfl) | ((with_reducible refine wpList_store_mid ?_ 30 (.tmp 4) (.tmp 50) ?_ (w.heap.size+2) 0 (zAE n2).toArray ?_ ?_ ?_ ?_ ?_ ?_);rfl;rfl;rfl;rfl;exact rT;kernel_rfl;exact zA4 _))
 have rR2:=AtL.setAll uR (vs:=zAE n2) rfl;refine bodyPost_ret (v:=.agg (zAE n2).toArray) (zAG (by rfl) _ _ (w.heap.size+2) (zAE n2) _ (by rfl) rR2.range underlying30 rfl (by kernel_rfl)) rfl ⟨rfl,?_⟩;exact zAg uB (by omega) _ _
theorem zKC (x y:Int) (n:Wt.Nd) (h3:n.k=3) (hq:okR x y n.a=true) (hq2:okR x y n.b=false) (w:World):CR 15 #[.agg #[.int .i64 x,.int .i64 y],.agg (zAE n).toArray] w (.agg (zAE (mvN x y n)).toArray):=by
 have C1:=λw=>zBa x y n.a w
 have C2:=λw=>zBa x y n.b w
 have hm:Hid (mvN x y n=zA0):=by show _=_;unfold mvN;rw [if_neg (by omega),if_pos h3,hq,hq2];rfl
 rw [hm.out];rw [hq] at C1;rw [hq2] at C2;clear hm hq hq2;generalize mvR x y n.a=a' at *;generalize mvR x y n.b=b' at *;have pB:=((AtL.new0 w 50 [.int .i64 x,.int .i64 y]).alloc (.cells (zAE n).toArray 30)).alloc (.cells zC 30);have pN:=(AtL.new1 w (.cells #[.int .i64 x,.int .i64 y] 50) 30 (zAE n)).alloc (.cells zC 30);have pR:AtL (((w.alloc (.cells #[.int .i64 x,.int .i64 y] 50)).alloc (.cells (zAE n).toArray 30)).alloc (.cells zC 30)) (w.heap.size+2) (zAE zF8):=AtL.new _ _ (by simp) _;have hB:=zAI (zAI (zAI (Below.refl _ w) (.cells #[.int .i64 x,.int .i64 y] 50)) (.cells (zAE n).toArray 30)) (.cells zC 30);go_enter func15,ntmps15;go_upto_region 1 with fail
 generalize (((w.alloc (.cells #[.int .i64 x,.int .i64 y] 50)).alloc (.cells (zAE n).toArray 30)).alloc (.cells zC 30))=W at *;obtain ⟨b0,b1,k0,k1⟩:=pB.two;have n0:W.cell? ⟨w.heap.size+1,0,none⟩=some (.int .i64 n.k):=pN.2.1 0 _ rfl;have rA:=zHE pN;rw [h3] at n0;go_wp2_with ((with_reducible refine wpList_load_mid (cs:=rf5 n.a) ?_ 28 (.tmp 26) ?_ (w.heap.size+1) 10 ?_ _ ?_ underlying28 ?_ ?_ ?_);rfl;rfl;rfl;exact rA;rfl;kernel_rfl)
 refine (C1 _).mono ?_;rintro e w1 ⟨rfl,hb⟩;have qW:=AtL.below hb pB;have qN:=AtL.below hb pN;have qR:=AtL.below hb pR;have qB:=zAA hB hb;clear hb pN pR hB pB b0 b1 k0 k1 n0 rA C1;have q6:=(AtL.new0 w1 28 [.string ⟨#[]⟩,.int .i64 0,.int .i64 0,.bool false,.bool false]).setAll (vs:=rf5 a') rfl;have sT:(w1.alloc (.cells zR0 28)).there w1.heap.size 0 (rf5 a').toArray.size:=(AtL.new0 w1 28 [.string ⟨#[]⟩,.int .i64 0,.int .i64 0,.bool false,.bool false]).there;have lt1:=qR.lt;have sW:=(qW.alloc (.cells zR0 28)).farAll (b:=w1.heap.size) (by omega) 0 (rf5 a');have sN:=(qN.alloc (.cells zR0 28)).farAll (b:=w1.heap.size) (by omega) 0 (rf5 a');have sR:=(qR.alloc (.cells zR0 28)).farAll (b:=w1.heap.size) (by omega) 0 (rf5 a');have sB:=zAg (zAI qB (.cells zR0 28)) (k:=w1.heap.size) (by omega) (rf5 a') 0;go_upto_region 7 with ((with_reducible refine wpList_store_mid ?_ 28 (.tmp 6) (.tmp 29) ?_ (w1.heap.size) 0 (rf5 a').toArray ?_ ?_ ?_ ?_ ?_ ?_);rfl;rfl;rfl;rfl;exact sT;kernel_rfl;exact zCO _)
 generalize (w1.alloc (.cells zR0 28)).setCells w1.heap.size 0 (rf5 a').toArray.toList=W1 at *;have lt6:=q6.lt;have hk6:w.heap.size+2<w1.heap.size:=lt1;generalize w1.heap.size=k6 at *;clear qW qN qR qB sT lt1;obtain ⟨b0,b1,k0,k1⟩:=sW.two;have rA:=zMx sN;go_wp2_with ((with_reducible refine wpList_load_mid (cs:=rf5 n.b) ?_ 28 (.tmp 33) ?_ (w.heap.size+1) 15 ?_ _ ?_ underlying28 ?_ ?_ ?_);rfl;rfl;rfl;exact rA;rfl;kernel_rfl)
 refine (C2 _).mono ?_;rintro e w2 ⟨rfl,hb⟩;have qN:=AtL.below hb sN;have qR:=AtL.below hb sR;have q66:=AtL.below hb q6;have qB:=zAA sB hb;have sz2:=hb.size;clear hb sN sR sB sW b0 b1 k0 k1 rA C2 q6;have q8:=(AtL.new0 w2 28 [.string ⟨#[]⟩,.int .i64 0,.int .i64 0,.bool false,.bool false]).setAll (vs:=rf5 b') rfl;have sT:(w2.alloc (.cells zR0 28)).there w2.heap.size 0 (rf5 b').toArray.size:=(AtL.new0 w2 28 [.string ⟨#[]⟩,.int .i64 0,.int .i64 0,.bool false,.bool false]).there;have s6:=(q66.alloc (.cells zR0 28)).farAll (b:=w2.heap.size) (by omega) 0 (rf5 b');have sN:=(qN.alloc (.cells zR0 28)).farAll (b:=w2.heap.size) (by omega) 0 (rf5 b');have sR:=(qR.alloc (.cells zR0 28)).farAll (b:=w2.heap.size) (by omega) 0 (rf5 b');have sB:=zAg (zAI qB (.cells zR0 28)) (k:=w2.heap.size) (by omega) (rf5 b') 0;have hk8:k6<w2.heap.size:=by omega
 go_upto_region 8 with ((with_reducible refine wpList_store_mid ?_ 28 (.tmp 8) (.tmp 36) ?_ (w2.heap.size) 0 (rf5 b').toArray ?_ ?_ ?_ ?_ ?_ ?_);rfl;rfl;rfl;rfl;exact sT;kernel_rfl;exact zCO _)
 generalize (w2.alloc (.cells zR0 28)).setCells w2.heap.size 0 (rf5 b').toArray.toList=W2 at *;generalize w2.heap.size=k8 at *;clear qN qR qB sT q66 lt6 sz2;replace q8:=AtL.drew q8
 replace s6:=AtL.drew s6
 replace sN:=AtL.drew sN
 replace sR:=AtL.drew sR
 replace sB:=sB.drew
 refine wp_region_held_drew (S:=λW=>W.rangeAt k6 0 (rf5 a')/\W.rangeAt k8 0 (rf5 b')) (by kernel_rfl) ⟨s6.range,q8.range⟩ (λhHeld=>?_);generalize W2.drew=WD at *;refine wpAnyH_take (i:=0) (oi:=zNm) (v:=.agg (rf5 a').toArray) rfl (by kernel_rfl) (by kernel_rfl) (by kernel_rfl) (λ_ _ _ h=>h) (yieldsIf_load_mid (by rfl) 28 (.tmp 6) rfl k6 0 rfl (rf5 a') _ (λ_ h=>h.1) underlying28 rfl (by kernel_rfl)) (by assumption) ?_;try simp only [Act.put,lA,lZ,lS]
 refine wpAnyH_take (i:=1) (oi:=zOS) (v:=.agg (rf5 b').toArray) rfl (by kernel_rfl) (by kernel_rfl) (by kernel_rfl) (λ_ _ _ h=>h) (yieldsIf_load_mid (by rfl) 28 (.tmp 8) rfl k8 0 rfl (rf5 b') _ (λ_ h=>h.2) underlying28 rfl (by kernel_rfl)) (by assumption) ?_;try simp only [Act.put,lA,lZ,lS]
 refine tkQ 2 zNx ?_
 refine tkQ 3 zOX ?_
 refine tkQ 4 zPK ?_
 refine tkQ 5 zOz ?_
 refine tkQ 6 zN4 ?_
 refine rdQ 7 zO3 (λK hK=>?_);refine wp_store_mid 28 (.tmp 44) (.tmp 38) rfl (w.heap.size+1) 10 (rf5 a').toArray rfl rfl (sN.thereSub 10 5 (by show 10+5<=20;omega)) (by kernel_rfl) (zCO _) ?_;have tN:=zBd sN a';have t6:=s6.farAll (b:=w.heap.size+1) (by omega) 10 (rf5 a');have t8:=q8.farAll (b:=w.heap.size+1) (by omega) 10 (rf5 a');have tR:=sR.farAll (b:=w.heap.size+1) (by omega) 10 (rf5 a');have tB:=zAg sB (k:=w.heap.size+1) (by omega) (rf5 a') 10;refine hK.out _ _ ⟨t6.range,t8.range⟩ (λhHeld=>?_);clear hK K sN s6 q8 sR sB;generalize WD.setCells (w.heap.size+1) 10 (rf5 a').toArray.toList=WE at *;try simp only [Act.put]
 refine tkQ 8 zOG ?_
 refine rdQ 9 zOw (λK hK=>?_);refine wp_store_mid 28 (.tmp 45) (.tmp 39) rfl (w.heap.size+1) 15 (rf5 b').toArray rfl rfl (tN.thereSub 15 5 (by show 15+5<=20;omega)) (by kernel_rfl) (zCO _) ?_;have uN:=zCD tN b';have u6:=t6.farAll (b:=w.heap.size+1) (by omega) 15 (rf5 b');have u8:=t8.farAll (b:=w.heap.size+1) (by omega) 15 (rf5 b');have uR:=tR.farAll (b:=w.heap.size+1) (by omega) 15 (rf5 b');have uB:=zAg tB (k:=w.heap.size+1) (by omega) (rf5 b') 15;refine hK.out _ _ ⟨u6.range,u8.range⟩ (λhHeld=>?_);clear hK K tN t6 t8 tR tB;generalize WE.setCells (w.heap.size+1) 15 (rf5 b').toArray.toList=WF at *;try simp only [Act.put]
 refine rdQ 10 zJR (λK hK=>?_);go_simp
 refine hK.out _ _ ⟨u6.range,u8.range⟩ (λhHeld=>?_);clear hK K u6 u8;try simp only [Act.put,lA,lZ,lS]
 refine wpAnyH_done (by kernel_rfl) ?_ _;have VF:=λw=>zBT 3 w
 have ev:vlV (zC5 3)=.agg #[.int .i64 4,.int .i64 0,.int .i64 0,.string ⟨#[]⟩,.bool false,.int .i64 3]:=rfl;rw [ev] at VF;clear ev;go_wp2_with fail
 refine (VF _).mono ?_;rintro e w9 ⟨rfl,hb9⟩;have rR:=AtL.below hb9 uR;have rB:=zAA uB hb9;have rT:w9.there (w.heap.size+2) 0 (zAE zA0).toArray.size:=rR.there;go_wp2_with ((with_reducible refine wpList_store_mid ?_ 30 (.tmp 4) (.tmp 49) ?_ (w.heap.size+2) 0 (zAE zA0).toArray ?_ ?_ ?_ ?_ ?_ ?_);rfl;rfl;rfl;rfl;exact rT;kernel_rfl;exact zA4 _)
 have rR2:=AtL.setAll rR (vs:=zAE zA0) rfl;refine bodyPost_ret (v:=.agg (zAE zA0).toArray) (zAG (by rfl) _ _ (w.heap.size+2) (zAE zA0) _ (by rfl) rR2.range underlying30 rfl (by kernel_rfl)) rfl ⟨rfl,?_⟩;exact zAg rB (by omega) _ _
theorem zMM (x y:Int) (n:Wt.Nd) (h3:n.k=3) (hq:okR x y n.a=false) (w:World):CR 15 #[.agg #[.int .i64 x,.int .i64 y],.agg (zAE n).toArray] w (.agg (zAE (mvN x y n)).toArray):=by
 have C1:=λw=>zBa x y n.a w
 have C2:=λw=>zBa x y n.b w
 have hm:Hid (mvN x y n=zA0):=by show _=_;unfold mvN;rw [if_neg (by omega),if_pos h3,hq];rfl
 rw [hm.out];rw [hq] at C1;generalize okR x y n.b=q2 at *;clear hm hq;generalize mvR x y n.a=a' at *;generalize mvR x y n.b=b' at *;have pB:=((AtL.new0 w 50 [.int .i64 x,.int .i64 y]).alloc (.cells (zAE n).toArray 30)).alloc (.cells zC 30);have pN:=(AtL.new1 w (.cells #[.int .i64 x,.int .i64 y] 50) 30 (zAE n)).alloc (.cells zC 30);have pR:AtL (((w.alloc (.cells #[.int .i64 x,.int .i64 y] 50)).alloc (.cells (zAE n).toArray 30)).alloc (.cells zC 30)) (w.heap.size+2) (zAE zF8):=AtL.new _ _ (by simp) _;have hB:=zAI (zAI (zAI (Below.refl _ w) (.cells #[.int .i64 x,.int .i64 y] 50)) (.cells (zAE n).toArray 30)) (.cells zC 30);go_enter func15,ntmps15;go_upto_region 1 with fail
 generalize (((w.alloc (.cells #[.int .i64 x,.int .i64 y] 50)).alloc (.cells (zAE n).toArray 30)).alloc (.cells zC 30))=W at *;obtain ⟨b0,b1,k0,k1⟩:=pB.two;have n0:W.cell? ⟨w.heap.size+1,0,none⟩=some (.int .i64 n.k):=pN.2.1 0 _ rfl;have rA:=zHE pN;rw [h3] at n0;go_wp2_with ((with_reducible refine wpList_load_mid (cs:=rf5 n.a) ?_ 28 (.tmp 26) ?_ (w.heap.size+1) 10 ?_ _ ?_ underlying28 ?_ ?_ ?_);rfl;rfl;rfl;exact rA;rfl;kernel_rfl)
 refine (C1 _).mono ?_;rintro e w1 ⟨rfl,hb⟩;have qW:=AtL.below hb pB;have qN:=AtL.below hb pN;have qR:=AtL.below hb pR;have qB:=zAA hB hb;clear hb pN pR hB pB b0 b1 k0 k1 n0 rA C1;have q6:=(AtL.new0 w1 28 [.string ⟨#[]⟩,.int .i64 0,.int .i64 0,.bool false,.bool false]).setAll (vs:=rf5 a') rfl;have sT:(w1.alloc (.cells zR0 28)).there w1.heap.size 0 (rf5 a').toArray.size:=(AtL.new0 w1 28 [.string ⟨#[]⟩,.int .i64 0,.int .i64 0,.bool false,.bool false]).there;have lt1:=qR.lt;have sW:=(qW.alloc (.cells zR0 28)).farAll (b:=w1.heap.size) (by omega) 0 (rf5 a');have sN:=(qN.alloc (.cells zR0 28)).farAll (b:=w1.heap.size) (by omega) 0 (rf5 a');have sR:=(qR.alloc (.cells zR0 28)).farAll (b:=w1.heap.size) (by omega) 0 (rf5 a');have sB:=zAg (zAI qB (.cells zR0 28)) (k:=w1.heap.size) (by omega) (rf5 a') 0;go_upto_region 7 with ((with_reducible refine wpList_store_mid ?_ 28 (.tmp 6) (.tmp 29) ?_ (w1.heap.size) 0 (rf5 a').toArray ?_ ?_ ?_ ?_ ?_ ?_);rfl;rfl;rfl;rfl;exact sT;kernel_rfl;exact zCO _)
 generalize (w1.alloc (.cells zR0 28)).setCells w1.heap.size 0 (rf5 a').toArray.toList=W1 at *;have lt6:=q6.lt;have hk6:w.heap.size+2<w1.heap.size:=lt1;generalize w1.heap.size=k6 at *;clear qW qN qR qB sT lt1;obtain ⟨b0,b1,k0,k1⟩:=sW.two;have rA:=zMx sN;go_wp2_with ((with_reducible refine wpList_load_mid (cs:=rf5 n.b) ?_ 28 (.tmp 33) ?_ (w.heap.size+1) 15 ?_ _ ?_ underlying28 ?_ ?_ ?_);rfl;rfl;rfl;exact rA;rfl;kernel_rfl)
 refine (C2 _).mono ?_;rintro e w2 ⟨rfl,hb⟩;have qN:=AtL.below hb sN;have qR:=AtL.below hb sR;have q66:=AtL.below hb q6;have qB:=zAA sB hb;have sz2:=hb.size;clear hb sN sR sB sW b0 b1 k0 k1 rA C2 q6;have q8:=(AtL.new0 w2 28 [.string ⟨#[]⟩,.int .i64 0,.int .i64 0,.bool false,.bool false]).setAll (vs:=rf5 b') rfl;have sT:(w2.alloc (.cells zR0 28)).there w2.heap.size 0 (rf5 b').toArray.size:=(AtL.new0 w2 28 [.string ⟨#[]⟩,.int .i64 0,.int .i64 0,.bool false,.bool false]).there;have s6:=(q66.alloc (.cells zR0 28)).farAll (b:=w2.heap.size) (by omega) 0 (rf5 b');have sN:=(qN.alloc (.cells zR0 28)).farAll (b:=w2.heap.size) (by omega) 0 (rf5 b');have sR:=(qR.alloc (.cells zR0 28)).farAll (b:=w2.heap.size) (by omega) 0 (rf5 b');have sB:=zAg (zAI qB (.cells zR0 28)) (k:=w2.heap.size) (by omega) (rf5 b') 0;have hk8:k6<w2.heap.size:=by omega
 go_upto_region 8 with ((with_reducible refine wpList_store_mid ?_ 28 (.tmp 8) (.tmp 36) ?_ (w2.heap.size) 0 (rf5 b').toArray ?_ ?_ ?_ ?_ ?_ ?_);rfl;rfl;rfl;rfl;exact sT;kernel_rfl;exact zCO _)
 generalize (w2.alloc (.cells zR0 28)).setCells w2.heap.size 0 (rf5 b').toArray.toList=W2 at *;generalize w2.heap.size=k8 at *;clear qN qR qB sT q66 lt6 sz2;replace q8:=AtL.drew q8
 replace s6:=AtL.drew s6
 replace sN:=AtL.drew sN
 replace sR:=AtL.drew sR
 replace sB:=sB.drew
 refine wp_region_held_drew (S:=λW=>W.rangeAt k6 0 (rf5 a')/\W.rangeAt k8 0 (rf5 b')) (by kernel_rfl) ⟨s6.range,q8.range⟩ (λhHeld=>?_);generalize W2.drew=WD at *;refine wpAnyH_take (i:=0) (oi:=zNm) (v:=.agg (rf5 a').toArray) rfl (by kernel_rfl) (by kernel_rfl) (by kernel_rfl) (λ_ _ _ h=>h) (yieldsIf_load_mid (by rfl) 28 (.tmp 6) rfl k6 0 rfl (rf5 a') _ (λ_ h=>h.1) underlying28 rfl (by kernel_rfl)) (by assumption) ?_;try simp only [Act.put,lA,lZ,lS]
 refine wpAnyH_take (i:=1) (oi:=zOS) (v:=.agg (rf5 b').toArray) rfl (by kernel_rfl) (by kernel_rfl) (by kernel_rfl) (λ_ _ _ h=>h) (yieldsIf_load_mid (by rfl) 28 (.tmp 8) rfl k8 0 rfl (rf5 b') _ (λ_ h=>h.2) underlying28 rfl (by kernel_rfl)) (by assumption) ?_;try simp only [Act.put,lA,lZ,lS]
 refine tkQ 2 zNx ?_
 refine tkQ 3 zOX ?_
 refine tnQ 4 zPK ?_
 refine tkQ 5 zOz ?_
 refine tkQ 6 zN4 ?_
 refine rdQ 7 zO3 (λK hK=>?_);refine wp_store_mid 28 (.tmp 44) (.tmp 38) rfl (w.heap.size+1) 10 (rf5 a').toArray rfl rfl (sN.thereSub 10 5 (by show 10+5<=20;omega)) (by kernel_rfl) (zCO _) ?_;have tN:=zBd sN a';have t6:=s6.farAll (b:=w.heap.size+1) (by omega) 10 (rf5 a');have t8:=q8.farAll (b:=w.heap.size+1) (by omega) 10 (rf5 a');have tR:=sR.farAll (b:=w.heap.size+1) (by omega) 10 (rf5 a');have tB:=zAg sB (k:=w.heap.size+1) (by omega) (rf5 a') 10;refine hK.out _ _ ⟨t6.range,t8.range⟩ (λhHeld=>?_);clear hK K sN s6 q8 sR sB;generalize WD.setCells (w.heap.size+1) 10 (rf5 a').toArray.toList=WE at *;try simp only [Act.put]
 refine tkQ 8 zOG ?_
 refine rdQ 9 zOw (λK hK=>?_);refine wp_store_mid 28 (.tmp 45) (.tmp 39) rfl (w.heap.size+1) 15 (rf5 b').toArray rfl rfl (tN.thereSub 15 5 (by show 15+5<=20;omega)) (by kernel_rfl) (zCO _) ?_;have uN:=zCD tN b';have u6:=t6.farAll (b:=w.heap.size+1) (by omega) 15 (rf5 b');have u8:=t8.farAll (b:=w.heap.size+1) (by omega) 15 (rf5 b');have uR:=tR.farAll (b:=w.heap.size+1) (by omega) 15 (rf5 b');have uB:=zAg tB (k:=w.heap.size+1) (by omega) (rf5 b') 15;refine hK.out _ _ ⟨u6.range,u8.range⟩ (λhHeld=>?_);clear hK K tN t6 t8 tR tB;generalize WE.setCells (w.heap.size+1) 15 (rf5 b').toArray.toList=WF at *;try simp only [Act.put]
 refine rdQ 10 zJR (λK hK=>?_);go_simp
 refine hK.out _ _ ⟨u6.range,u8.range⟩ (λhHeld=>?_);clear hK K u6 u8;try simp only [Act.put,lA,lZ,lS]
 refine wpAnyH_done (by kernel_rfl) ?_ _;have VF:=λw=>zBT 3 w
 have ev:vlV (zC5 3)=.agg #[.int .i64 4,.int .i64 0,.int .i64 0,.string ⟨#[]⟩,.bool false,.int .i64 3]:=rfl;rw [ev] at VF;clear ev;go_wp2_with fail
 refine (VF _).mono ?_;rintro e w9 ⟨rfl,hb9⟩;have rR:=AtL.below hb9 uR;have rB:=zAA uB hb9;have rT:w9.there (w.heap.size+2) 0 (zAE zA0).toArray.size:=rR.there;go_wp2_with ((with_reducible refine wpList_store_mid ?_ 30 (.tmp 4) (.tmp 49) ?_ (w.heap.size+2) 0 (zAE zA0).toArray ?_ ?_ ?_ ?_ ?_ ?_);rfl;rfl;rfl;rfl;exact rT;kernel_rfl;exact zA4 _)
 have rR2:=AtL.setAll rR (vs:=zAE zA0) rfl;refine bodyPost_ret (v:=.agg (zAE zA0).toArray) (zAG (by rfl) _ _ (w.heap.size+2) (zAE zA0) _ (by rfl) rR2.range underlying30 rfl (by kernel_rfl)) rfl ⟨rfl,?_⟩;exact zAg rB (by omega) _ _
theorem zLA (x y:Int) (n:Wt.Nd) (w:World):CR 15 #[.agg #[.int .i64 x,.int .i64 y],.agg (zAE n).toArray] w (.agg (zAE (mvN x y n)).toArray):=by
 by_cases h2:n.k=2
 ·cases hq:okR x y n.a with
  | true=>exact zMD x y n h2 hq w
  | false=>exact zLe x y n h2 hq w
 by_cases h3:n.k=3
 ·cases hq:okR x y n.a with
  | true =>
   cases hq2:okR x y n.b with
   | true=>exact zJk x y n h3 hq hq2 w
   | false=>exact zKC x y n h3 hq hq2 w
  | false=>exact zMM x y n h3 hq w
 exact zOP x y n h2 h3 w
end Go.Proofs.YtdghjlmnlodnlaaGreatDoor
