/- MWalkC, TParA, TFit. -/
import Derived.Test.YtdghjlmnlodnlaaGreatDoorQ19
import Derived.Defers
import Derived.Recover
set_option maxHeartbeats 4000000
set_option maxRecDepth 100000
namespace Go.Proofs.YtdghjlmnlodnlaaGreatDoor
open Tryz
variable {sub:List Wlx.TV->PR} {ts r:List Wlx.TV} {a:Wt.Rf} {en:Int}
abbrev zPG:Oper:=⟨some 42,.move (.tmp 9),4,"move.go:71",#[⟨3,.guard⟩,⟨9,.gcOnly .lateStores⟩],some (3,Bool.true)⟩
abbrev zOz:Oper:=⟨some 43,.pick (.tmp 41) (.tmp 42) (Operand.const (Value.bool Bool.false)),4,"move.go:71",#[⟨3,.data⟩,⟨4,.data⟩,⟨9,.gcOnly .lateStores⟩],none⟩
abbrev zPU:Oper:=⟨some 44,.fieldAddr 30 (.tmp 3) 5,0,"move.go:71",#[⟨0,.phase⟩,⟨1,.textOnly .lateStores⟩,⟨2,.textOnly .lateStores⟩,⟨3,.textOnly .lateStores⟩,⟨4,.textOnly .lateStores⟩,⟨5,.textOnly .lateStores⟩],none⟩
abbrev zPr:Oper:=⟨none,.store 28 (.tmp 44) (.tmp 38),0,"move.go:71",#[⟨6,.data⟩,⟨0,.data⟩,⟨3,.chain⟩,⟨0,.phase⟩,⟨1,.textOnly .lateStores⟩,⟨2,.textOnly .lateStores⟩,⟨3,.textOnly .lateStores⟩,⟨4,.textOnly .lateStores⟩,⟨5,.textOnly .lateStores⟩],none⟩
abbrev zPB:Oper:=⟨some 45,.fieldAddr 30 (.tmp 3) 6,0,"move.go:71",#[⟨0,.phase⟩,⟨1,.phase⟩,⟨2,.textOnly .lateStores⟩,⟨3,.textOnly .lateStores⟩,⟨4,.textOnly .lateStores⟩,⟨5,.textOnly .lateStores⟩,⟨6,.phase⟩,⟨7,.phase⟩],none⟩
abbrev zPS:Oper:=⟨none,.store 28 (.tmp 45) (.tmp 39),0,"move.go:71",#[⟨8,.data⟩,⟨1,.data⟩,⟨7,.chain⟩,⟨0,.phase⟩,⟨1,.phase⟩,⟨2,.textOnly .lateStores⟩,⟨3,.textOnly .lateStores⟩,⟨4,.textOnly .lateStores⟩,⟨5,.textOnly .lateStores⟩,⟨6,.phase⟩,⟨7,.phase⟩],none⟩
abbrev zQA:Oper:=⟨some 5,.assign (.tmp 43),4,"move.go:71",#[⟨5,.data⟩,⟨9,.chain⟩,⟨0,.phase⟩,⟨1,.phase⟩,⟨2,.phase⟩,⟨3,.phase⟩,⟨4,.phase⟩,⟨5,.phase⟩,⟨6,.phase⟩,⟨7,.phase⟩,⟨8,.phase⟩,⟨9,.phase⟩],none⟩
open Go.RowKit Go.Shelf
set_option linter.unusedVariables false
theorem zNq (x y:Int) (n:Wt.Nd) (h3:n.k=3) (w:World):CR 15 #[.agg #[.int .i64 x,.int .i64 y],.agg (zAD n).toArray] w (.agg (zAD (mvN x y n)).toArray):=by
 have C1:=λw=>zDO x y n.a w
 have C2:=λw=>zDO x y n.b w
 obtain ⟨n2,hn2⟩:∃ n2:Wt.Nd,mvN x y n=n2:=⟨_,rfl⟩
 rw [hn2];have HM:Hid (n2=if okR x y n.a && okR x y n.b then ⟨n.k,n.v,n.op,n.nm,n.ar,mvR x y n.a,mvR x y n.b⟩ else zA0):=by
  show n2=_
  rw [<-hn2];unfold mvN;rw [if_neg (by omega),if_pos h3]
 clear hn2;generalize okR x y n.a=q1 at *;generalize okR x y n.b=q2 at *;generalize mvR x y n.a=a' at *;generalize mvR x y n.b=b' at *;have pB:=((AtL.new0 w 50 [.int .i64 x,.int .i64 y]).alloc (.cells (zAD n).toArray 30)).alloc (.cells zC 30);have pN:=(AtL.new1 w (.cells #[.int .i64 x,.int .i64 y] 50) 30 (zAD n)).alloc (.cells zC 30);have pR:AtL (((w.alloc (.cells #[.int .i64 x,.int .i64 y] 50)).alloc (.cells (zAD n).toArray 30)).alloc (.cells zC 30)) (w.heap.size+2) (zAD zHt):=AtL.new _ _ (by simp) _;have hB:=zAI (zAI (zAI (Below.refl _ w) (.cells #[.int .i64 x,.int .i64 y] 50)) (.cells (zAD n).toArray 30)) (.cells zC 30);go_enter func15,ntmps15;go_upto_region 1 with fail
 generalize (((w.alloc (.cells #[.int .i64 x,.int .i64 y] 50)).alloc (.cells (zAD n).toArray 30)).alloc (.cells zC 30))=W at *;obtain ⟨b0,b1,k0,k1⟩:=pB.two;have n0:W.cell? ⟨w.heap.size+1,0,none⟩=some (.int .i64 n.k):=pN.2.1 0 _ rfl;have rA:=zI7 pN;rw [h3] at n0;go_wp2_with ((with_reducible refine wpList_load_mid (cs:=rf5 n.a) ?_ 28 (.tmp 26) ?_ (w.heap.size+1) 10 ?_ _ ?_ underlying28 ?_ ?_ ?_);rfl;rfl;rfl;exact rA;rfl;kernel_rfl)
 refine (C1 _).mono ?_;rintro e w1 ⟨rfl,hb⟩;have qW:=AtL.below hb pB;have qN:=AtL.below hb pN;have qR:=AtL.below hb pR;have qB:=zAA hB hb;clear hb pN pR hB pB b0 b1 k0 k1 n0 rA C1;have q6:=(AtL.new0 w1 28 [.string ⟨#[]⟩,.int .i64 0,.int .i64 0,.bool false,.bool false]).setAll (vs:=rf5 a') rfl;have sT:(w1.alloc (.cells zR0 28)).there w1.heap.size 0 (rf5 a').toArray.size:=(AtL.new0 w1 28 [.string ⟨#[]⟩,.int .i64 0,.int .i64 0,.bool false,.bool false]).there;have lt1:=qR.lt;have sW:=(qW.alloc (.cells zR0 28)).farAll (b:=w1.heap.size) (by omega) 0 (rf5 a');have sN:=(qN.alloc (.cells zR0 28)).farAll (b:=w1.heap.size) (by omega) 0 (rf5 a');have sR:=(qR.alloc (.cells zR0 28)).farAll (b:=w1.heap.size) (by omega) 0 (rf5 a');have sB:=zAu (zAI qB (.cells zR0 28)) (k:=w1.heap.size) (by omega) (rf5 a') 0;go_upto_region 7 with ((with_reducible refine wpList_store_mid ?_ 28 (.tmp 6) (.tmp 29) ?_ (w1.heap.size) 0 (rf5 a').toArray ?_ ?_ ?_ ?_ ?_ ?_);rfl;rfl;rfl;rfl;exact sT;kernel_rfl;exact zDH _)
 generalize (w1.alloc (.cells zR0 28)).setCells w1.heap.size 0 (rf5 a').toArray.toList=W1 at *;have lt6:=q6.lt;have hk6:w.heap.size+2<w1.heap.size:=lt1;generalize w1.heap.size=k6 at *;clear qW qN qR qB sT lt1;obtain ⟨b0,b1,k0,k1⟩:=sW.two;have rA:=zOf sN;go_wp2_with ((with_reducible refine wpList_load_mid (cs:=rf5 n.b) ?_ 28 (.tmp 33) ?_ (w.heap.size+1) 15 ?_ _ ?_ underlying28 ?_ ?_ ?_);rfl;rfl;rfl;exact rA;rfl;kernel_rfl)
 refine (C2 _).mono ?_;rintro e w2 ⟨rfl,hb⟩;have qN:=AtL.below hb sN;have qR:=AtL.below hb sR;have q66:=AtL.below hb q6;have qB:=zAA sB hb;have sz2:=hb.size;clear hb sN sR sB sW b0 b1 k0 k1 rA C2 q6;have q8:=(AtL.new0 w2 28 [.string ⟨#[]⟩,.int .i64 0,.int .i64 0,.bool false,.bool false]).setAll (vs:=rf5 b') rfl;have sT:(w2.alloc (.cells zR0 28)).there w2.heap.size 0 (rf5 b').toArray.size:=(AtL.new0 w2 28 [.string ⟨#[]⟩,.int .i64 0,.int .i64 0,.bool false,.bool false]).there;have s6:=(q66.alloc (.cells zR0 28)).farAll (b:=w2.heap.size) (by omega) 0 (rf5 b');have sN:=(qN.alloc (.cells zR0 28)).farAll (b:=w2.heap.size) (by omega) 0 (rf5 b');have sR:=(qR.alloc (.cells zR0 28)).farAll (b:=w2.heap.size) (by omega) 0 (rf5 b');have sB:=zAu (zAI qB (.cells zR0 28)) (k:=w2.heap.size) (by omega) (rf5 b') 0;have hk8:k6<w2.heap.size:=by omega
 go_upto_region 8 with ((with_reducible refine wpList_store_mid ?_ 28 (.tmp 8) (.tmp 36) ?_ (w2.heap.size) 0 (rf5 b').toArray ?_ ?_ ?_ ?_ ?_ ?_);rfl;rfl;rfl;rfl;exact sT;kernel_rfl;exact zDH _)
 generalize (w2.alloc (.cells zR0 28)).setCells w2.heap.size 0 (rf5 b').toArray.toList=W2 at *;generalize w2.heap.size=k8 at *;clear qN qR qB sT q66 lt6 sz2;replace q8:=AtL.drew q8
 replace s6:=AtL.drew s6
 replace sN:=AtL.drew sN
 replace sR:=AtL.drew sR
 replace sB:=sB.drew
 refine wp_region_held_drew (S:=λW=>W.rangeAt k6 0 (rf5 a')/\W.rangeAt k8 0 (rf5 b')) (by kernel_rfl) ⟨s6.range,q8.range⟩ (λhHeld=>?_);generalize W2.drew=WD at *;refine wpAnyH_take (i:=0) (oi:=⟨some 38,.load 28 (.tmp 6),28,"move.go:71",#[],none⟩) (v:=.agg (rf5 a').toArray) rfl (by kernel_rfl) (by kernel_rfl) (by kernel_rfl) (λ_ _ _ h=>h) (yieldsIf_load_mid (by rfl) 28 (.tmp 6) rfl k6 0 rfl (rf5 a') _ (λ_ h=>h.1) underlying28 rfl (by kernel_rfl)) (by assumption) ?_;try simp only [Act.put,lA,lZ,lS]
 refine wpAnyH_take (i:=1) (oi:=⟨some 39,.load 28 (.tmp 8),28,"move.go:71",#[⟨7,.gcOnly .lateStores⟩],none⟩) (v:=.agg (rf5 b').toArray) rfl (by kernel_rfl) (by kernel_rfl) (by kernel_rfl) (λ_ _ _ h=>h) (yieldsIf_load_mid (by rfl) 28 (.tmp 8) rfl k8 0 rfl (rf5 b') _ (λ_ h=>h.2) underlying28 rfl (by kernel_rfl)) (by assumption) ?_;try simp only [Act.put,lA,lZ,lS]
 refine tkQ 2 ⟨some 40,.move (.tmp 7),4,"move.go:71",#[],none⟩ ?_
 refine tkQ 3 ⟨some 41,.move (.tmp 40),4,"move.go:71",#[⟨2,.data⟩],none⟩ ?_
 cases q1
 ·have e2:n2=zA0:=by have:=HM.out;rw [this];rfl
  subst e2;clear HM;refine tnQ 4 zPG ?_
  refine tkQ 5 zOz ?_
  refine tkQ 6 zPU ?_
  refine rdQ 7 zPr (λK hK=>?_);refine wp_store_mid 28 (.tmp 44) (.tmp 38) rfl (w.heap.size+1) 10 (rf5 a').toArray rfl rfl (sN.thereSub 10 5 (by show 10+5<=20;omega)) (by kernel_rfl) (zDH _) ?_;have tN:=zBm sN a';have t6:=s6.farAll (b:=w.heap.size+1) (by omega) 10 (rf5 a');have t8:=q8.farAll (b:=w.heap.size+1) (by omega) 10 (rf5 a');have tR:=sR.farAll (b:=w.heap.size+1) (by omega) 10 (rf5 a');have tB:=zAu sB (k:=w.heap.size+1) (by omega) (rf5 a') 10;refine hK.out _ _ ⟨t6.range,t8.range⟩ (λhHeld=>?_);clear hK K sN s6 q8 sR sB;generalize WD.setCells (w.heap.size+1) 10 (rf5 a').toArray.toList=WE at *;try simp only [Act.put]
  refine tkQ 8 zPB ?_
  refine rdQ 9 zPS (λK hK=>?_);refine wp_store_mid 28 (.tmp 45) (.tmp 39) rfl (w.heap.size+1) 15 (rf5 b').toArray rfl rfl (tN.thereSub 15 5 (by show 15+5<=20;omega)) (by kernel_rfl) (zDH _) ?_;have uN:=zCV tN b';have u6:=t6.farAll (b:=w.heap.size+1) (by omega) 15 (rf5 b');have u8:=t8.farAll (b:=w.heap.size+1) (by omega) 15 (rf5 b');have uR:=tR.farAll (b:=w.heap.size+1) (by omega) 15 (rf5 b');have uB:=zAu tB (k:=w.heap.size+1) (by omega) (rf5 b') 15;refine hK.out _ _ ⟨u6.range,u8.range⟩ (λhHeld=>?_);clear hK K tN t6 t8 tR tB;generalize WE.setCells (w.heap.size+1) 15 (rf5 b').toArray.toList=WF at *;try simp only [Act.put]
  refine rdQ 10 zQA (λK hK=>?_);go_simp
  refine hkQ hK ⟨u6.range,u8.range⟩ (λhHeld=>?_);clear hK K u6 u8
  refine wpAnyH_done (by kernel_rfl) ?_ _;have VF:=λw=>zBU 3 w
  have ev:vlV (zC9 3)=.agg #[.int .i64 4,.int .i64 0,.int .i64 0,.string ⟨#[]⟩,.bool false,.int .i64 3]:=rfl;rw [ev] at VF;clear ev;go_wp2_with fail
  refine (VF _).mono ?_;rintro e w9 ⟨rfl,hb9⟩;have rR:=AtL.below hb9 uR;have rB:=zAA uB hb9;have rT:w9.there (w.heap.size+2) 0 (zAD zA0).toArray.size:=rR.there;go_wp2_with ((with_reducible refine wpList_store_mid ?_ 30 (.tmp 4) (.tmp 49) ?_ (w.heap.size+2) 0 (zAD zA0).toArray ?_ ?_ ?_ ?_ ?_ ?_);rfl;rfl;rfl;rfl;exact rT;kernel_rfl;exact zAc _)
  have rR2:=AtL.setAll rR (vs:=zAD zA0) rfl;refine bodyPost_ret (v:=.agg (zAD zA0).toArray) (zAF (by rfl) _ _ (w.heap.size+2) (zAD zA0) _ (by rfl) rR2.range underlying30 rfl (by kernel_rfl)) rfl ⟨rfl,?_⟩;exact zAu rB (by omega) _ _
 refine tkQ 4 zPG ?_
 refine tkQ 5 zOz ?_
 refine tkQ 6 zPU ?_
 refine rdQ 7 zPr (λK hK=>?_);refine wp_store_mid 28 (.tmp 44) (.tmp 38) rfl (w.heap.size+1) 10 (rf5 a').toArray rfl rfl (sN.thereSub 10 5 (by show 10+5<=20;omega)) (by kernel_rfl) (zDH _) ?_;have tN:=zBm sN a';have t6:=s6.farAll (b:=w.heap.size+1) (by omega) 10 (rf5 a');have t8:=q8.farAll (b:=w.heap.size+1) (by omega) 10 (rf5 a');have tR:=sR.farAll (b:=w.heap.size+1) (by omega) 10 (rf5 a');have tB:=zAu sB (k:=w.heap.size+1) (by omega) (rf5 a') 10;refine hK.out _ _ ⟨t6.range,t8.range⟩ (λhHeld=>?_);clear hK K sN s6 q8 sR sB;generalize WD.setCells (w.heap.size+1) 10 (rf5 a').toArray.toList=WE at *;try simp only [Act.put]
 refine tkQ 8 zPB ?_
 refine rdQ 9 zPS (λK hK=>?_);refine wp_store_mid 28 (.tmp 45) (.tmp 39) rfl (w.heap.size+1) 15 (rf5 b').toArray rfl rfl (tN.thereSub 15 5 (by show 15+5<=20;omega)) (by kernel_rfl) (zDH _) ?_;have uN:=zCV tN b';have u6:=t6.farAll (b:=w.heap.size+1) (by omega) 15 (rf5 b');have u8:=t8.farAll (b:=w.heap.size+1) (by omega) 15 (rf5 b');have uR:=tR.farAll (b:=w.heap.size+1) (by omega) 15 (rf5 b');have uB:=zAu tB (k:=w.heap.size+1) (by omega) (rf5 b') 15;refine hK.out _ _ ⟨u6.range,u8.range⟩ (λhHeld=>?_);clear hK K tN t6 t8 tR tB;generalize WE.setCells (w.heap.size+1) 15 (rf5 b').toArray.toList=WF at *;try simp only [Act.put]
 refine rdQ 10 zQA (λK hK=>?_);go_simp
 refine hkQ hK ⟨u6.range,u8.range⟩ (λhHeld=>?_);clear hK K u6 u8
 refine wpAnyH_done (by kernel_rfl) ?_ _;cases q2
 ·have e2:n2=zA0:=by have:=HM.out;rw [this];rfl
  subst e2;clear HM;have VF:=λw=>zBU 3 w
  have ev:vlV (zC9 3)=.agg #[.int .i64 4,.int .i64 0,.int .i64 0,.string ⟨#[]⟩,.bool false,.int .i64 3]:=rfl;rw [ev] at VF;clear ev;go_wp2_with fail
  refine (VF _).mono ?_;rintro e w9 ⟨rfl,hb9⟩;have rR:=AtL.below hb9 uR;have rB:=zAA uB hb9;have rT:w9.there (w.heap.size+2) 0 (zAD zA0).toArray.size:=rR.there;go_wp2_with ((with_reducible refine wpList_store_mid ?_ 30 (.tmp 4) (.tmp 49) ?_ (w.heap.size+2) 0 (zAD zA0).toArray ?_ ?_ ?_ ?_ ?_ ?_);rfl;rfl;rfl;rfl;exact rT;kernel_rfl;exact zAc _)
  have rR2:=AtL.setAll rR (vs:=zAD zA0) rfl;refine bodyPost_ret (v:=.agg (zAD zA0).toArray) (zAF (by rfl) _ _ (w.heap.size+2) (zAD zA0) _ (by rfl) rR2.range underlying30 rfl (by kernel_rfl)) rfl ⟨rfl,?_⟩;exact zAu rB (by omega) _ _
 have e2:=HM.out;simp only [Bool.and_self,if_true] at e2;simp only at uN;rw [<-e2] at uN;clear HM e2;have rN:WF.rangeAt (w.heap.size+1) 0 (zAD n2):=uN.range;have rT:WF.there (w.heap.size+2) 0 (zAD n2).toArray.size:=uR.there;go_wp2_with (first | ((with_reducible refine wpList_load_mid (cs:=zAD n2) ?_ 30 (.tmp 3) ?_ (w.heap.size+1) 0 ?_ _ ?_ underlying30 ?_ ?_ ?_);rfl;rfl;rfl;exact rN;rfl;kernel_rfl) | ((with_reducible refine wpList_store_mid ?_ 30 (.tmp 4) (.tmp 50) ?_ (w.heap.size+2) 0 (zAD n2).toArray ?_ ?_ ?_ ?_ ?_ ?_);rfl;rfl;rfl;rfl;exact rT;kernel_rfl;exact zAc _))
 have rR2:=AtL.setAll uR (vs:=zAD n2) rfl;refine bodyPost_ret (v:=.agg (zAD n2).toArray) (zAF (by rfl) _ _ (w.heap.size+2) (zAD n2) _ (by rfl) rR2.range underlying30 rfl (by kernel_rfl)) rfl ⟨rfl,?_⟩;exact zAu uB (by omega) _ _
theorem zJ7 (x y:Int) (n:Wt.Nd) (w:World):CR 15 #[.agg #[.int .i64 x,.int .i64 y],.agg (zAD n).toArray] w (.agg (zAD (mvN x y n)).toArray):=by
 by_cases h2:n.k=2
 ·cases hq:okR x y n.a with
  | true=>exact zMQ x y n h2 hq w
  | false=>exact zLJ x y n h2 hq w
 by_cases h3:n.k=3
 ·exact zNq x y n h3 w
 exact zO6 x y n h2 h3 w
theorem zHv (v:Value) (w:World):(Instr.typeAssert (.iface 72 v) 20 72 true).run prog w=.ok (.tuple #[v,.bool true]) w:=by kernel_rfl
theorem zHm (w:World):(Instr.typeAssert .nilIface 20 72 true).run prog w=.ok (.tuple #[.agg #[.int .i64 0,.int .i64 0],.bool false]) w:=by kernel_rfl
theorem zFP (a b c:Nat) (cd at':Int) (x y z:Value) (older:List PanicEntry) (w:World) (ha:AtL w a [x]) (hb:AtL w b [y]) (hc:AtL w c [z]) (hab:a ≠ b) (hac:a ≠ c) (hbc:b ≠ c) :
  CallsD prog 34 #[.pointer (some ⟨a,0,none⟩),.pointer (some ⟨b,0,none⟩),.pointer (some ⟨c,0,none⟩)] (.panicking ({v:=.iface 72 (.agg #[.int .i64 cd,.int .i64 at']),recovered:=false} :: older)) w λe u' w' =>
   e=.returned (.tuple #[])/\u'=.panicking ({v:=.iface 72 (.agg #[.int .i64 cd,.int .i64 at']),recovered:=true} :: older)/\AtL w' a [.slice none 0 0]/\AtL w' b [.int .i64 cd]/\AtL w' c [.int .i64 at']/\∀ lo,lo<=a->lo<=b->lo<=c->Below lo w w':=by
 have la:=ha.1;have lb:=hb.1;have lc:=hc.1;have na:a ≠ w.heap.size:=by omega
 have nb:b ≠ w.heap.size:=by omega
 have nc:c ≠ w.heap.size:=by omega
 have hW:∃ W,W=w.alloc (.cells #[.int .i64 cd,.int .i64 at'] 72):=⟨_,rfl⟩
 obtain ⟨W,hW⟩:=hW;have pR:AtL W w.heap.size [.int .i64 cd,.int .i64 at']:=by
  rw [hW];exact AtL.new0 w 72 [.int .i64 cd,.int .i64 at']
 have pa:AtL W a [x]:=by rw [hW];exact ha.alloc _
 have pb:AtL W b [y]:=by rw [hW];exact hb.alloc _
 have pc:AtL W c [z]:=by rw [hW];exact hc.alloc _
 have hB:Below w.heap.size w W:=by rw [hW];exact zAI (Below.refl _ w) _
 refine callsD_of_wpS func34 rfl λc₀ cs hu=>?_
 apply wpS_seq
 apply wpS_region
 simp [wpOpsS,go_sem,recoverD,hu,ntmps34,Exit.thenS,zHv,Array.replicate,List.replicate];rw [<-hW];apply wpS_seq
 apply wpS_region
 simp [wpOpsS,go_sem,Exit.thenS];refine wpS_cond (t:=true) (by simp [Act.eval]) ?_;simp only [if_true];refine wpS_of_wp ?_;clear hW;obtain ⟨r0,r1,q0,q1⟩:=pR.two;have a0:=pa.2.1 0 _ rfl;have b0:=pb.2.1 0 _ rfl;have c0:=pc.2.1 0 _ rfl;have fa:=pa.2.2 0 (by simp);have fb:=pb.2.2 0 (by simp);have fc:=pc.2.2 0 (by simp);go_region
 have E:AtL (((W.setCell ⟨a,0,none⟩ (Value.slice none 0 0)).setCell ⟨b,0,none⟩ (Value.int IntKind.i64 cd)).setCell ⟨c,0,none⟩ (Value.int IntKind.i64 at')).drew a [.slice none 0 0]/\AtL (((W.setCell ⟨a,0,none⟩ (Value.slice none 0 0)).setCell ⟨b,0,none⟩ (Value.int IntKind.i64 cd)).setCell ⟨c,0,none⟩ (Value.int IntKind.i64 at')).drew b [.int .i64 cd]/\AtL (((W.setCell ⟨a,0,none⟩ (Value.slice none 0 0)).setCell ⟨b,0,none⟩ (Value.int IntKind.i64 cd)).setCell ⟨c,0,none⟩ (Value.int IntKind.i64 at')).drew c [.int .i64 at']/\∀ lo,lo<=a->lo<=b->lo<=c->Below lo w (((W.setCell ⟨a,0,none⟩ (Value.slice none 0 0)).setCell ⟨b,0,none⟩ (Value.int IntKind.i64 cd)).setCell ⟨c,0,none⟩ (Value.int IntKind.i64 at')).drew:=by
  refine ⟨(((pa.set 0 _).far (Ne.symm hab) 0 _).far (Ne.symm hac) 0 _).drew,(((pb.far hab 0 _).set 0 _).far (Ne.symm hbc) 0 _).drew,(((pc.far hac 0 _).far hbc 0 _).set 0 _).drew,λlo l1 l2 l3=>?_⟩;exact ((((hB.mono (by omega)).setCell (p:=⟨a,0,none⟩) l1 _).setCell (p:=⟨b,0,none⟩) l2 _).setCell (p:=⟨c,0,none⟩) l3 _).drew
 simpa [bodyPostS,results,results34] using E
theorem zDl (a b c:Nat) (w:World) :
  CallsD prog 34 #[.pointer (some ⟨a,0,none⟩),.pointer (some ⟨b,0,none⟩),.pointer (some ⟨c,0,none⟩)] .returning w λe u' w'=>e=.returned (.tuple #[])/\u'=.returning/\Below w.heap.size w w':=by
 refine callsD_of_wpS func34 rfl λc₀ cs hu=>?_
 apply wpS_seq
 apply wpS_region
 simp [wpOpsS,go_sem,recoverD,hu,ntmps34,Exit.thenS,zHm,Array.replicate,List.replicate];apply wpS_seq
 apply wpS_region
 simp [wpOpsS,go_sem,Exit.thenS];refine wpS_cond (t:=false) (by simp [Act.eval]) ?_;simp only [Bool.false_eq_true,if_false];refine wpS_of_wp (wp_skip ?_);have hB:=zAI (Below.refl _ w) (.cells #[.int .i64 0,.int .i64 0] 72);cases c₀
 simp_all [bodyPostS,results,results34]
theorem zIv:Wt.FitV Wt.v0:=⟨by decide,by decide,by decide⟩
theorem e0:(⟨#[]⟩:ByteArray).size<=9223372036854775807:=by decide
theorem zJe (k o:Int):Wt.FitN (opN k o):=⟨zIv,e0,e0,e0⟩
theorem zHg {nm:List UInt8} (c:Nat) (h:nm.length<=1024):Wt.FitN (zBK ⟨nm.toArray⟩ c):=⟨zIv,by show nm.length<=_;omega,e0,e0⟩
theorem zEl {v:Wt.Vl} (h:Wt.FitV v):Wt.FitN (zAj v):=⟨h,e0,e0,e0⟩
theorem zNP {t:Wlx.TV} (ht:zAP t) {v:Wt.Vl} (h:zJt t=some v):Wt.FitV v:=by
 unfold zJt at h;split at h
 ·split at h
  ·rw [<-Option.some.inj h];generalize Wnum.oN (Wnum.rdO ⟨t.t.toArray⟩)=a;generalize Wnum.oD (Wnum.rdO ⟨t.t.toArray⟩)=b;obtain ⟨n1,n2⟩:=Wnum.cN_bd a b;obtain ⟨n3,n4⟩:=Wnum.cD_bd a b;refine ⟨?_,?_,e0⟩
   ·show _<=Wnum.cN a b/\Wnum.cN a b<=_
    omega
   ·show _<=Wnum.cD a b/\Wnum.cD a b<=_
    omega
  ·cases h
 split at h
 ·split at h
  ·rw [<-Option.some.inj h];unfold zCZ;split
   ·split
    ·exact ⟨⟨by decide,by decide⟩,⟨by decide,by decide⟩,e0⟩
    ·exact ⟨⟨by simp,by simp⟩,⟨by simp,by simp⟩,by show t.t.length<=_;omega⟩
   ·exact ⟨⟨by decide,by decide⟩,⟨by decide,by decide⟩,e0⟩
  ·cases h
 split at h
 ·rw [<-Option.some.inj h];exact ⟨⟨by simp,by simp⟩,⟨by simp,by simp⟩,e0⟩
 ·cases h
theorem zRE {l:List UInt8} (h:rw1 l=some a):a.s=⟨#[]⟩:=by
 unfold rw1 at h;split at h
 ·split at h
  ·rw [<-Option.some.inj h];rfl
  ·cases h
 ·cases h
theorem zMy (h:pc ts en=.inl (a,r)):a.s=⟨#[]⟩/\r.length<ts.length:=by
 have hr:=zG0 h;unfold pc at h;split at h
 ·rename_i hk
  split at h
  ·cases h
  split at h
  ·cases h
  split at h
  ·rename_i a' ha
   simp only [Sum.inl.injEq,Prod.mk.injEq] at h;refine ⟨by rw [<-h.1];exact zRE ha,?_⟩;cases ts with
   | nil=>exact absurd hk (by rw [zD3];decide)
   | cons t q=>rw [hr];simp
  ·cases h
 ·cases h
def zE5 (n:Nat) (row:List Wt.Nd) (r:List Wlx.TV):Prop:=(∀ x ∈ row,Wt.FitN x)/\row.length+r.length<=n
theorem zPg (hok:∀ t ∈ ts,zAP t) {row:List Wt.Nd} {r:List Wlx.TV} (h:pl ts en=.inl (row,r)):zE5 ts.length row r:=by
 unfold pl at h;split at h
 ·rename_i v hv
  simp only [Sum.inl.injEq,Prod.mk.injEq] at h;obtain ⟨q,hq⟩:=zFS hv;refine ⟨?_,?_⟩
  ·rw [<-h.1];intro x hx;rw [List.mem_singleton.1 hx];exact zEl (zNP (zCf en hok) hv)
  ·rw [<-h.1,<-h.2];rw [hq];simp;omega
 ·cases h
theorem zHP (k:Int) {s:ByteArray} (hs:s.size<=1024) (a b:Wt.Rf) (hb:b.s=⟨#[]⟩):Wt.FitN ⟨k,Wt.v0,0,⟨#[]⟩,0,⟨s,a.r,a.c,a.fr,a.fc⟩,b⟩:=⟨zIv,e0,by show s.size<=_;omega,by show b.s.size<=_;rw [hb];exact e0⟩
theorem zK4 {s:ByteArray} (hs:s.size<=1024) {ts:List Wlx.TV} {en:Int} {row:List Wt.Nd} {r:List Wlx.TV} (h:pcs s ts en=.inl (row,r)):zE5 ts.length row r:=by
 unfold pcs at h;cases h1:pc ts en with
 | inr e=>rw [h1] at h;cases h
 | inl q =>
  obtain ⟨a,r1⟩:=q;rw [h1] at h;simp only at h;have f1:=zMy h1;cases h2:tk r1 [58] with
  | none =>
   rw [h2] at h;simp only [Sum.inl.injEq,Prod.mk.injEq] at h;rw [<-h.1,<-h.2];exact ⟨λx hx=>by rw [List.mem_singleton.1 hx];exact zHP 2 hs a Wt.r0 rfl,by simp;omega⟩
  | some r2 =>
   rw [h2] at h;simp only at h;have s2:=(zBG h2).2;cases h3:pc r2 en with
   | inr e=>rw [h3] at h;cases h
   | inl q =>
    obtain ⟨b,r3⟩:=q;rw [h3] at h;simp only [Sum.inl.injEq,Prod.mk.injEq] at h;have f3:=zMy h3;rw [<-h.1,<-h.2];exact ⟨λx hx=>by rw [List.mem_singleton.1 hx];exact zHP 3 hs a b f3.1,by simp;omega⟩
theorem zCe (hok:∀ t ∈ ts,zAP t) (h:r <:+ ts):∀ t ∈ r,zAP t:=λt ht=>hok t (h.subset ht)
theorem zMW (hsub:∀ ts row r,sub ts=.inl (row,r)->r <:+ ts) (hfit:∀ ts row r,(∀ t ∈ ts,zAP t)->sub ts=.inl (row,r)->zE5 ts.length row r) (k:Int):∀ (n:Nat) (row:List Wt.Nd) (ts:List Wlx.TV) (row':List Wt.Nd) (r:List Wlx.TV),(∀ t ∈ ts,zAP t)->(∀ x ∈ row,Wt.FitN x)->more sub k n row ts=.inl (row',r)->zE5 (row.length+ts.length) row' r:=by
 intro n;induction n with
 | zero=>intro row ts row' r hok hf h;simp only [more,Sum.inl.injEq,Prod.mk.injEq] at h;rw [<-h.2,<-h.1];exact ⟨hf,Nat.le_refl _⟩
 | succ n ih =>
  intro row ts row' r hok hf h;simp only [more] at h;cases h1:zB0 k ts with
  | none=>rw [h1] at h;simp only [Sum.inl.injEq,Prod.mk.injEq] at h;rw [<-h.2,<-h.1];exact ⟨hf,Nat.le_refl _⟩
  | some q =>
   obtain ⟨o,r1⟩:=q;rw [h1] at h;simp only at h;have s1:=zAo h1;cases h2:sub r1 with
   | inr e=>rw [h2] at h;cases h
   | inl q =>
    obtain ⟨row2,r2⟩:=q;rw [h2] at h;simp only at h;have f2:=hfit _ _ _ (zCe hok s1.1) h2;have s2:=hsub _ _ _ h2;have:=ih _ _ _ _ (zCe hok (s2.trans s1.1)) (by
     intro x hx;rcases List.mem_cons.1 hx with rfl | hx
     ·exact zJe _ _
     rcases List.mem_append.1 hx with hx | hx
     ·exact hf x hx
     ·exact f2.1 x hx) h
    refine ⟨this.1,Nat.le_trans this.2 ?_⟩;have:=f2.2;simp only [List.length_cons,List.length_append];omega
theorem zLK (hsub:∀ ts row r,sub ts=.inl (row,r)->r <:+ ts) (hfit:∀ ts row r,(∀ t ∈ ts,zAP t)->sub ts=.inl (row,r)->zE5 ts.length row r) (en:Int):∀ (n c:Nat) (rows:List Wt.Nd) (ts:List Wlx.TV) (c':Nat) (rows':List Wt.Nd) (r:List Wlx.TV),(∀ t ∈ ts,zAP t)->(∀ x ∈ rows,Wt.FitN x)->zCD sub en n c rows ts=.inl (c',rows',r)->(∀ x ∈ rows',Wt.FitN x)/\rows'.length+r.length<rows.length+ts.length:=by
 intro n;induction n with
 | zero=>intro c rows ts c' rows' r _ _ h;cases h
 | succ n ih =>
  intro c rows ts c' rows' r hok hf h;simp only [zCD] at h;cases h1:tk ts [41] with
  | some q=>rw [h1] at h;simp only [Sum.inl.injEq,Prod.mk.injEq] at h;have:=(zBG h1).2;rw [<-h.2.2,<-h.2.1];exact ⟨hf,by omega⟩
  | none =>
   rw [h1] at h;simp only at h;split at h
   ·cases h
   ·cases h2:tk ts [44] with
    | none=>rw [h2] at h;cases h
    | some r1 =>
     rw [h2] at h;simp only at h;have s1:=zBG h2;cases h3:sub r1 with
     | inr e=>rw [h3] at h;cases h
     | inl q =>
      obtain ⟨row,r2⟩:=q;rw [h3] at h;simp only at h;have f2:=hfit _ _ _ (zCe hok s1.1) h3;have s2:=hsub _ _ _ h3;have:=ih _ _ _ _ _ _ (zCe hok (s2.trans s1.1)) (by
       intro x hx;rcases List.mem_append.1 hx with hx | hx
       ·exact hf x hx
       ·exact f2.1 x hx) h
      have f3:=f2.2;refine ⟨this.1,Nat.lt_of_lt_of_le this.2 ?_⟩;simp only [List.length_append];omega
theorem zKj (hsub:∀ ts row r,sub ts=.inl (row,r)->r <:+ ts) (hfit:∀ ts row r,(∀ t ∈ ts,zAP t)->sub ts=.inl (row,r)->zE5 ts.length row r) (en:Int) (nm:List UInt8) (hnm:nm.length<=1024) (ts:List Wlx.TV) (row:List Wt.Nd) (r:List Wlx.TV) (hok:∀ t ∈ ts,zAP t) (h:zCo sub en nm ts=.inl (row,r)):zE5 ts.length row r:=by
 unfold zCo at h;cases h1:tk ts [41] with
 | some q =>
  rw [h1] at h;simp only [Sum.inl.injEq,Prod.mk.injEq] at h;have:=(zBG h1).2;rw [<-h.2,<-h.1];exact ⟨λx hx=>by rw [List.mem_singleton.1 hx];exact zHg 0 hnm,by simp;omega⟩
 | none =>
  rw [h1] at h;simp only at h;cases h2:sub ts with
  | inr e=>rw [h2] at h;cases h
  | inl q =>
   obtain ⟨row1,r1⟩:=q;rw [h2] at h;simp only at h;have f2:=hfit _ _ _ hok h2;have s2:=hsub _ _ _ h2;cases h3:zCD sub en (r1.length+1) 1 row1 r1 with
   | inr e=>rw [h3] at h;cases h
   | inl q =>
    obtain ⟨c,rows,r2⟩:=q;rw [h3] at h;simp only [Sum.inl.injEq,Prod.mk.injEq] at h;have f3:=zLK hsub hfit en _ _ _ _ _ _ _ (zCe hok s2) f2.1 h3;rw [<-h.2,<-h.1];refine ⟨?_,?_⟩
    ·intro x hx;rcases List.mem_cons.1 hx with rfl | hx
     ·exact zHg c hnm
     ·exact f3.1 x hx
    ·have:=f3.2;have:=f2.2;simp only [List.length_cons];omega
theorem zJE (hsub:∀ ts row r,sub ts=.inl (row,r)->r <:+ ts) (hfit:∀ ts row r,(∀ t ∈ ts,zAP t)->sub ts=.inl (row,r)->zE5 ts.length row r) (en:Int) (ts:List Wlx.TV) (row:List Wt.Nd) (r:List Wlx.TV) (hok:∀ t ∈ ts,zAP t) (h3:(hd ts en).k=3) (h:zCF sub en ts=.inl (row,r)):zE5 ts.length row r:=by
 have hl:=(zCf en hok).1;have hne:0<ts.length:=by
  cases ts with
  | nil=>exact absurd h3 (by rw [zD3];decide)
  | cons t q=>simp
 have hdr:∀ k,(ts.drop k).length<=ts.length:=λk=>by rw [List.length_drop];omega
 have hb:ByteArray.size ⟨(hd ts en).t.toArray⟩<=1024:=hl;unfold zCF at h;split at h
 ·split at h
  ·have:=zKj hsub hfit en _ hl _ _ _ (zCe hok (List.drop_suffix 2 ts)) h;exact ⟨this.1,Nat.le_trans this.2 (hdr 2)⟩
  ·cases h
 split at h
 ·split at h
  ·have:=zK4 hb h;exact ⟨this.1,Nat.le_trans this.2 (hdr 2)⟩
  ·cases h
 split at h
 ·simp only [Sum.inl.injEq,Prod.mk.injEq] at h;rw [<-h.2,<-h.1];exact ⟨λx hx=>by rw [List.mem_singleton.1 hx];exact zEl ⟨by decide,by decide,by decide⟩,by simp;omega⟩
 split at h
 ·simp only [Sum.inl.injEq,Prod.mk.injEq] at h;rw [<-h.2,<-h.1];exact ⟨λx hx=>by rw [List.mem_singleton.1 hx];exact zEl ⟨by decide,by decide,by decide⟩,by simp;omega⟩
 ·exact zK4 (by decide) h
theorem zIS  (hfit:∀ ts row r,(∀ t ∈ ts,zAP t)->sub ts=.inl (row,r)->zE5 ts.length row r) (en:Int) (ts:List Wlx.TV) (row:List Wt.Nd) (r:List Wlx.TV) (hok:∀ t ∈ ts,zAP t) (h:zB3 sub en ts=.inl (row,r)):zE5 ts.length row r:=by
 unfold zB3 at h;cases h1:tk ts [40] with
 | none=>rw [h1] at h;cases h
 | some r1 =>
  rw [h1] at h;simp only at h;have s1:=zBG h1;cases h2:sub r1 with
  | inr e=>rw [h2] at h;cases h
  | inl q =>
   obtain ⟨row2,r2⟩:=q;rw [h2] at h;simp only at h;have f2:=hfit _ _ _ (zCe hok s1.1) h2;cases h3:tk r2 [41] with
   | none=>rw [h3] at h;cases h
   | some r3 =>
    rw [h3] at h;simp only [Sum.inl.injEq,Prod.mk.injEq] at h;have s3:=zBG h3;have:=f2.2;rw [<-h.2,<-h.1];exact ⟨f2.1,by omega⟩
theorem zN9:∀ (n:Nat) (row:List Wt.Nd) (ts:List Wlx.TV) (row':List Wt.Nd) (r:List Wlx.TV),(∀ x ∈ row,Wt.FitN x)->pct n row ts=.inl (row',r)->zE5 (row.length+ts.length) row' r:=by
 intro n;induction n with
 | zero=>intro row ts row' r hf h;simp only [pct,Sum.inl.injEq,Prod.mk.injEq] at h;rw [<-h.2,<-h.1];exact ⟨hf,Nat.le_refl _⟩
 | succ n ih =>
  intro row ts row' r hf h;simp only [pct] at h;cases h1:zB0 6 ts with
  | none=>rw [h1] at h;simp only [Sum.inl.injEq,Prod.mk.injEq] at h;rw [<-h.2,<-h.1];exact ⟨hf,Nat.le_refl _⟩
  | some q =>
   obtain ⟨o,r1⟩:=q;rw [h1] at h;simp only at h;have s1:=zAo h1;have:=ih _ _ _ _ (λx hx=>by
    rcases List.mem_cons.1 hx with rfl | hx
    ·exact zJe _ _
    ·exact hf x hx) h
   refine ⟨this.1,Nat.le_trans this.2 ?_⟩;simp only [List.length_cons];omega
theorem zDp (en:Int):∀ (f k:Nat) (ts:List Wlx.TV) (row:List Wt.Nd) (r:List Wlx.TV),(∀ t ∈ ts,zAP t)->lv en f k ts=.inl (row,r)->zE5 ts.length row r:=by
 intro f;induction f with
 | zero=>intro k ts row r _ h;cases h
 | succ f ih =>
  intro k ts row r hok h;simp only [lv] at h;split at h
  ·cases h1:lv en f (k+1) ts with
   | inr e=>rw [h1] at h;cases h
   | inl q =>
    obtain ⟨row1,r1⟩:=q;rw [h1] at h;simp only at h;have f1:=ih _ _ _ _ hok h1;have:=zMW (zCI en f (k+1)) (ih (k+1)) _ _ _ _ _ _ (zCe hok (zCI en _ _ _ _ _ h1)) f1.1 h;exact ⟨this.1,Nat.le_trans this.2 f1.2⟩
  split at h
  ·cases h1:zB0 5 ts with
   | none=>rw [h1] at h;exact ih _ _ _ _ hok h
   | some q =>
    obtain ⟨o,r1⟩:=q;rw [h1] at h;simp only at h;have s1:=zAo h1;cases h2:lv en f 5 r1 with
    | inr e=>rw [h2] at h;cases h
    | inl q =>
     obtain ⟨row2,r2⟩:=q;rw [h2] at h;simp only [Sum.inl.injEq,Prod.mk.injEq] at h;have f2:=ih _ _ _ _ (zCe hok s1.1) h2;rw [<-h.2,<-h.1];refine ⟨λx hx=>?_,?_⟩
     ·rcases List.mem_cons.1 hx with rfl | hx
      ·exact zJe _ _
      ·exact f2.1 x hx
     ·have:=f2.2;simp only [List.length_cons];omega
  split at h
  ·cases h1:lv en f 7 ts with
   | inr e=>rw [h1] at h;cases h
   | inl q =>
    obtain ⟨row1,r1⟩:=q;rw [h1] at h;simp only at h;have f1:=ih _ _ _ _ hok h1;have:=zN9 _ _ _ _ _ f1.1 h;exact ⟨this.1,Nat.le_trans this.2 f1.2⟩
  split at h
  ·rename_i h3
   exact zJE (zCI en f 0) (ih 0) _ _ _ _ hok h3 h
  split at h
  ·exact zIS (ih 0) _ _ _ _ hok h
  ·exact zPg hok h
