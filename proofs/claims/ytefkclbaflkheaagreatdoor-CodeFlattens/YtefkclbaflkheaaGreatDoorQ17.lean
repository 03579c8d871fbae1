/- Lemmas. -/
import Derived.Test.YtefkclbaflkheaaGreatDoorQ16
set_option maxHeartbeats 4000000
set_option maxRecDepth 100000
namespace Go.Proofs.YtefkclbaflkheaaGreatDoor
open Tryz
variable {ka kb:Nat} {x y:Wc.In} {tv tu:Value} {W:World}
open Go.RowKit
set_option linter.unusedVariables false
abbrev zNb (ka kb:Nat) (x:Wc.In) (tv:Value) (W:World):Prop :=
 W.cell? ⟨ka,1,none⟩=some (.int .i64 x.a)/\W.frozen? ⟨kb,1,none⟩=false
theorem zDP (h0:AtL W ka (zAD x tv)) (h1:AtL W kb (zAD y tu)):zNb ka kb x tv W :=
 ⟨h0.2.1 1 _ rfl,h1.2.2 1 (by show 1<23;decide)⟩
theorem zL2 (x:Wc.In) (av:Option Addr) (n c:Nat) (tl:List Int) (w:World) (hk:x.op=7) (hz:RdZ w (.slice av n c) tl) (hl:tl.length<=1000000) :
  CR 61 #[inV x (.slice av n c)] w (.bool (true && (smI x ⟨7,0,0,v0I,c0I,a0I,a0I⟩ && decide (tl=[])))):=by
 have CS:∀ w',Below w.heap.size w w'->Calls prog 97 #[.agg (zAD x (.slice av n c)).toArray,.agg (zAD ⟨7,0,0,v0I,c0I,a0I,a0I⟩ zAH).toArray] w' λe w''=>e=.returned (.bool (smI x ⟨7,0,0,v0I,c0I,a0I,a0I⟩ && decide (tl=[])))/\Below w'.heap.size w' w'':=λw' hb=>zA6 x ⟨7,0,0,v0I,c0I,a0I,a0I⟩ _ _ tl [] w' (hz.below hb) (RdZ.nil _) hl (by first | exact hl | simp)
 generalize (smI x ⟨7,0,0,v0I,c0I,a0I,a0I⟩ && decide (tl=[]))=R at *;obtain ⟨tv,htv⟩:∃ tv,Value.slice av n c=tv:=⟨_,rfl⟩
 rw [htv] at CS ⊢;have pA0:AtL (zAU w x tv) w.heap.size (zAD x tv):=(AtL.new0 w _ _).alloc _;have pO0:AtL (zAU w x tv) (w.heap.size+1) (zAD (zAI 0) zAH):=AtL.new1 w _ _ _;have hth:World.there (zAU w x tv) (w.heap.size+1) 0 (zAD (zAI 7) zAH).toArray.size:=pO0.there;have hne:w.heap.size+1 ≠ w.heap.size:=by omega
 have pA:=pA0.farAll hne 0 (zAD (zAI 7) zAH);have pO:AtL ((zAU w x tv).setCells (w.heap.size+1) 0 (zAD (zAI 7) zAH)) (w.heap.size+1) (zAD (zAI 7) zAH):=pO0.setAll rfl;have hBa:Below w.heap.size w ((zAU w x tv).setCells (w.heap.size+1) 0 (zAD (zAI 7) zAH)):=zAv (zAM (zAM (Below.refl _ w) _) _) (Nat.le_succ _) _ 0;clear pA0 pO0;have n0:(zAD x tv)[0]? = some (.int .i64 7):=by rw [<-hk];rfl
 have a0:World.cell? ((zAU w x tv).setCells (w.heap.size+1) 0 (zAD (zAI 7) zAH)) ⟨w.heap.size,0,none⟩=some (.int .i64 7):=pA.2.1 0 _ n0;show Calls _ _ #[.agg (zAD x tv).toArray] _ _
 have hS:zNb w.heap.size (w.heap.size+1) x tv ((zAU w x tv).setCells (w.heap.size+1) 0 (zAD (zAI 7) zAH)):=zDP pA pO;clear hz hl htv;go_enter func61,ntmps61;go_upto_region 1 with fail
 go_upto_region 2 with ((with_reducible refine wpList_store_mid ?_ 56 (.tmp 3) (.tmp 7) ?_ (w.heap.size+1) 0 (zAD (zAI 7) zAH).toArray ?_ ?_ ?_ ?_ ?_ ?_);rfl;rfl;rfl;rfl;exact hth;kernel_rfl;exact zAj _ _ _ _)
 generalize (zAU w x tv).setCells (w.heap.size+1) 0 (zAD (zAI 7) zAH)=W0 at *;clear hth;go_upto_region 33 with fail
 have pA1:=pA;have pO1:=pO;have hB1:=hBa;clear pA pO hBa hS a0;have rA:=pA1.range;have rO:=pO1.range;have hB2:=hB1;clear pA1 pO1 hB1;go_wp2_with (first | ((with_reducible refine zAA ?_ 56 (.tmp 1) ?_ w.heap.size 0 ?_ (zAD x tv) _ ?_ underlying56 ?_ ?_ ?_);rfl;rfl;rfl;exact rA;rfl;kernel_rfl) | ((with_reducible refine zAA ?_ 56 (.tmp 3) ?_ (w.heap.size+1) 0 ?_ (zAD ⟨7,0,0,v0I,c0I,a0I,a0I⟩ zAH) _ ?_ underlying56 ?_ ?_ ?_);rfl;rfl;rfl;exact rO;rfl;kernel_rfl) | (go_at_call 97;refine (CS _ hB2).mono ?_;rintro e w3 ⟨rfl,hb3⟩;have hB3:=zAB hB2 hb3))
 go_wp2;go_ret;first
 | exact ⟨by simp,hB2⟩
 | exact ⟨by simp,hB3⟩
theorem zHt (x:Wc.In) (av:Option Addr) (n c:Nat) (tl:List Int) (w:World) (hk:x.op=10) (hz:RdZ w (.slice av n c) tl) (hl:tl.length<=1000000) :
  CR 61 #[inV x (.slice av n c)] w (.bool (true && (smI x ⟨10,0,0,v0I,c0I,a0I,a0I⟩ && decide (tl=[])))):=by
 have CS:∀ w',Below w.heap.size w w'->Calls prog 97 #[.agg (zAD x (.slice av n c)).toArray,.agg (zAD ⟨10,0,0,v0I,c0I,a0I,a0I⟩ zAH).toArray] w' λe w''=>e=.returned (.bool (smI x ⟨10,0,0,v0I,c0I,a0I,a0I⟩ && decide (tl=[])))/\Below w'.heap.size w' w'':=λw' hb=>zA6 x ⟨10,0,0,v0I,c0I,a0I,a0I⟩ _ _ tl [] w' (hz.below hb) (RdZ.nil _) hl (by first | exact hl | simp)
 generalize (smI x ⟨10,0,0,v0I,c0I,a0I,a0I⟩ && decide (tl=[]))=R at *;obtain ⟨tv,htv⟩:∃ tv,Value.slice av n c=tv:=⟨_,rfl⟩
 rw [htv] at CS ⊢;have pA0:AtL (zAU w x tv) w.heap.size (zAD x tv):=(AtL.new0 w _ _).alloc _;have pO0:AtL (zAU w x tv) (w.heap.size+1) (zAD (zAI 0) zAH):=AtL.new1 w _ _ _;have hth:World.there (zAU w x tv) (w.heap.size+1) 0 (zAD (zAI 10) zAH).toArray.size:=pO0.there;have hne:w.heap.size+1 ≠ w.heap.size:=by omega
 have pA:=pA0.farAll hne 0 (zAD (zAI 10) zAH);have pO:AtL ((zAU w x tv).setCells (w.heap.size+1) 0 (zAD (zAI 10) zAH)) (w.heap.size+1) (zAD (zAI 10) zAH):=pO0.setAll rfl;have hBa:Below w.heap.size w ((zAU w x tv).setCells (w.heap.size+1) 0 (zAD (zAI 10) zAH)):=zAv (zAM (zAM (Below.refl _ w) _) _) (Nat.le_succ _) _ 0;clear pA0 pO0;have n0:(zAD x tv)[0]? = some (.int .i64 10):=by rw [<-hk];rfl
 have a0:World.cell? ((zAU w x tv).setCells (w.heap.size+1) 0 (zAD (zAI 10) zAH)) ⟨w.heap.size,0,none⟩=some (.int .i64 10):=pA.2.1 0 _ n0;show Calls _ _ #[.agg (zAD x tv).toArray] _ _
 have hS:zNb w.heap.size (w.heap.size+1) x tv ((zAU w x tv).setCells (w.heap.size+1) 0 (zAD (zAI 10) zAH)):=zDP pA pO;clear hz hl htv;go_enter func61,ntmps61;go_upto_region 1 with fail
 go_upto_region 2 with ((with_reducible refine wpList_store_mid ?_ 56 (.tmp 3) (.tmp 7) ?_ (w.heap.size+1) 0 (zAD (zAI 10) zAH).toArray ?_ ?_ ?_ ?_ ?_ ?_);rfl;rfl;rfl;rfl;exact hth;kernel_rfl;exact zAj _ _ _ _)
 generalize (zAU w x tv).setCells (w.heap.size+1) 0 (zAD (zAI 10) zAH)=W0 at *;clear hth;go_upto_region 33 with fail
 have pA1:=pA;have pO1:=pO;have hB1:=hBa;clear pA pO hBa hS a0;have rA:=pA1.range;have rO:=pO1.range;have hB2:=hB1;clear pA1 pO1 hB1;go_wp2_with (first | ((with_reducible refine zAA ?_ 56 (.tmp 1) ?_ w.heap.size 0 ?_ (zAD x tv) _ ?_ underlying56 ?_ ?_ ?_);rfl;rfl;rfl;exact rA;rfl;kernel_rfl) | ((with_reducible refine zAA ?_ 56 (.tmp 3) ?_ (w.heap.size+1) 0 ?_ (zAD ⟨10,0,0,v0I,c0I,a0I,a0I⟩ zAH) _ ?_ underlying56 ?_ ?_ ?_);rfl;rfl;rfl;exact rO;rfl;kernel_rfl) | (go_at_call 97;refine (CS _ hB2).mono ?_;rintro e w3 ⟨rfl,hb3⟩;have hB3:=zAB hB2 hb3))
 go_wp2;go_ret;first
 | exact ⟨by simp,hB2⟩
 | exact ⟨by simp,hB3⟩
theorem zIG (x:Wc.In) (av:Option Addr) (n c:Nat) (tl:List Int) (w:World) (hk:x.op=16) (hz:RdZ w (.slice av n c) tl) (hl:tl.length<=1000000) :
  CR 61 #[inV x (.slice av n c)] w (.bool (true && (smI x ⟨16,0,0,v0I,c0I,a0I,a0I⟩ && decide (tl=[])))):=by
 have CS:∀ w',Below w.heap.size w w'->Calls prog 97 #[.agg (zAD x (.slice av n c)).toArray,.agg (zAD ⟨16,0,0,v0I,c0I,a0I,a0I⟩ zAH).toArray] w' λe w''=>e=.returned (.bool (smI x ⟨16,0,0,v0I,c0I,a0I,a0I⟩ && decide (tl=[])))/\Below w'.heap.size w' w'':=λw' hb=>zA6 x ⟨16,0,0,v0I,c0I,a0I,a0I⟩ _ _ tl [] w' (hz.below hb) (RdZ.nil _) hl (by first | exact hl | simp)
 generalize (smI x ⟨16,0,0,v0I,c0I,a0I,a0I⟩ && decide (tl=[]))=R at *;obtain ⟨tv,htv⟩:∃ tv,Value.slice av n c=tv:=⟨_,rfl⟩
 rw [htv] at CS ⊢;have pA0:AtL (zAU w x tv) w.heap.size (zAD x tv):=(AtL.new0 w _ _).alloc _;have pO0:AtL (zAU w x tv) (w.heap.size+1) (zAD (zAI 0) zAH):=AtL.new1 w _ _ _;have hth:World.there (zAU w x tv) (w.heap.size+1) 0 (zAD (zAI 16) zAH).toArray.size:=pO0.there;have hne:w.heap.size+1 ≠ w.heap.size:=by omega
 have pA:=pA0.farAll hne 0 (zAD (zAI 16) zAH);have pO:AtL ((zAU w x tv).setCells (w.heap.size+1) 0 (zAD (zAI 16) zAH)) (w.heap.size+1) (zAD (zAI 16) zAH):=pO0.setAll rfl;have hBa:Below w.heap.size w ((zAU w x tv).setCells (w.heap.size+1) 0 (zAD (zAI 16) zAH)):=zAv (zAM (zAM (Below.refl _ w) _) _) (Nat.le_succ _) _ 0;clear pA0 pO0;have n0:(zAD x tv)[0]? = some (.int .i64 16):=by rw [<-hk];rfl
 have a0:World.cell? ((zAU w x tv).setCells (w.heap.size+1) 0 (zAD (zAI 16) zAH)) ⟨w.heap.size,0,none⟩=some (.int .i64 16):=pA.2.1 0 _ n0;show Calls _ _ #[.agg (zAD x tv).toArray] _ _
 have hS:zNb w.heap.size (w.heap.size+1) x tv ((zAU w x tv).setCells (w.heap.size+1) 0 (zAD (zAI 16) zAH)):=zDP pA pO;clear hz hl htv;go_enter func61,ntmps61;go_upto_region 1 with fail
 go_upto_region 2 with ((with_reducible refine wpList_store_mid ?_ 56 (.tmp 3) (.tmp 7) ?_ (w.heap.size+1) 0 (zAD (zAI 16) zAH).toArray ?_ ?_ ?_ ?_ ?_ ?_);rfl;rfl;rfl;rfl;exact hth;kernel_rfl;exact zAj _ _ _ _)
 generalize (zAU w x tv).setCells (w.heap.size+1) 0 (zAD (zAI 16) zAH)=W0 at *;clear hth;go_upto_region 33 with fail
 have pA1:=pA;have pO1:=pO;have hB1:=hBa;clear pA pO hBa hS a0;have rA:=pA1.range;have rO:=pO1.range;have hB2:=hB1;clear pA1 pO1 hB1;go_wp2_with (first | ((with_reducible refine zAA ?_ 56 (.tmp 1) ?_ w.heap.size 0 ?_ (zAD x tv) _ ?_ underlying56 ?_ ?_ ?_);rfl;rfl;rfl;exact rA;rfl;kernel_rfl) | ((with_reducible refine zAA ?_ 56 (.tmp 3) ?_ (w.heap.size+1) 0 ?_ (zAD ⟨16,0,0,v0I,c0I,a0I,a0I⟩ zAH) _ ?_ underlying56 ?_ ?_ ?_);rfl;rfl;rfl;exact rO;rfl;kernel_rfl) | (go_at_call 97;refine (CS _ hB2).mono ?_;rintro e w3 ⟨rfl,hb3⟩;have hB3:=zAB hB2 hb3))
 go_wp2;go_ret;first
 | exact ⟨by simp,hB2⟩
 | exact ⟨by simp,hB3⟩
abbrev zMC (ka kb:Nat) (x:Wc.In) (tv:Value) (W:World):Prop :=
 W.cell? ⟨ka,1,none⟩=some (.int .i64 x.a)/\W.frozen? ⟨kb,1,none⟩=false
theorem zFd (h0:AtL W ka (zAD x tv)) (h1:AtL W kb (zAD y tu)):zMC ka kb x tv W :=
 ⟨h0.2.1 1 _ rfl,h1.2.2 1 (by show 1<23;decide)⟩
theorem zHv (x:Wc.In) (av:Option Addr) (n c:Nat) (tl:List Int) (w:World) (hk:x.op=13) (hz:RdZ w (.slice av n c) tl) (hl:tl.length<=1000000) :
  CR 61 #[inV x (.slice av n c)] w (.bool (true && (smI x ⟨13,x.a,0,v0I,c0I,a0I,a0I⟩ && decide (tl=[])))):=by
 have CS:∀ w',Below w.heap.size w w'->Calls prog 97 #[.agg (zAD x (.slice av n c)).toArray,.agg (zAD ⟨13,x.a,0,v0I,c0I,a0I,a0I⟩ zAH).toArray] w' λe w''=>e=.returned (.bool (smI x ⟨13,x.a,0,v0I,c0I,a0I,a0I⟩ && decide (tl=[])))/\Below w'.heap.size w' w'':=λw' hb=>zA6 x ⟨13,x.a,0,v0I,c0I,a0I,a0I⟩ _ _ tl [] w' (hz.below hb) (RdZ.nil _) hl (by first | exact hl | simp)
 generalize (smI x ⟨13,x.a,0,v0I,c0I,a0I,a0I⟩ && decide (tl=[]))=R at *;obtain ⟨tv,htv⟩:∃ tv,Value.slice av n c=tv:=⟨_,rfl⟩
 rw [htv] at CS ⊢;have pA0:AtL (zAU w x tv) w.heap.size (zAD x tv):=(AtL.new0 w _ _).alloc _;have pO0:AtL (zAU w x tv) (w.heap.size+1) (zAD (zAI 0) zAH):=AtL.new1 w _ _ _;have hth:World.there (zAU w x tv) (w.heap.size+1) 0 (zAD (zAI 13) zAH).toArray.size:=pO0.there;have hne:w.heap.size+1 ≠ w.heap.size:=by omega
 have pA:=pA0.farAll hne 0 (zAD (zAI 13) zAH);have pO:AtL ((zAU w x tv).setCells (w.heap.size+1) 0 (zAD (zAI 13) zAH)) (w.heap.size+1) (zAD (zAI 13) zAH):=pO0.setAll rfl;have hBa:Below w.heap.size w ((zAU w x tv).setCells (w.heap.size+1) 0 (zAD (zAI 13) zAH)):=zAv (zAM (zAM (Below.refl _ w) _) _) (Nat.le_succ _) _ 0;clear pA0 pO0;have n0:(zAD x tv)[0]? = some (.int .i64 13):=by rw [<-hk];rfl
 have a0:World.cell? ((zAU w x tv).setCells (w.heap.size+1) 0 (zAD (zAI 13) zAH)) ⟨w.heap.size,0,none⟩=some (.int .i64 13):=pA.2.1 0 _ n0;show Calls _ _ #[.agg (zAD x tv).toArray] _ _
 have hS:zMC w.heap.size (w.heap.size+1) x tv ((zAU w x tv).setCells (w.heap.size+1) 0 (zAD (zAI 13) zAH)):=zFd pA pO;clear hz hl htv;go_enter func61,ntmps61;go_upto_region 1 with fail
 go_upto_region 2 with ((with_reducible refine wpList_store_mid ?_ 56 (.tmp 3) (.tmp 7) ?_ (w.heap.size+1) 0 (zAD (zAI 13) zAH).toArray ?_ ?_ ?_ ?_ ?_ ?_);rfl;rfl;rfl;rfl;exact hth;kernel_rfl;exact zAj _ _ _ _)
 generalize (zAU w x tv).setCells (w.heap.size+1) 0 (zAD (zAI 13) zAH)=W0 at *;clear hth;have a1:=pA.2.1 1 _ rfl;have o1:=pO.2.1 1 _ rfl;have f1:=pO.2.2 1 (by show 1<23;decide);go_upto_region 33 with fail
 have pA1:AtL (W0.setCell ⟨w.heap.size+1,1,none⟩ (.int .i64 x.a)) w.heap.size (zAD x tv):=pA.far hne 1 (.int .i64 x.a);have pO1:AtL (W0.setCell ⟨w.heap.size+1,1,none⟩ (.int .i64 x.a)) (w.heap.size+1) (zAD ⟨13,x.a,0,v0I,c0I,a0I,a0I⟩ zAH):=pO.set 1 (.int .i64 x.a);have hB1:Below w.heap.size w (W0.setCell ⟨w.heap.size+1,1,none⟩ (.int .i64 x.a)):=(clB hBa)
 clear pA pO hBa hS a0 a1 o1 f1;generalize (W0.setCell ⟨w.heap.size+1,1,none⟩ (.int .i64 x.a))=W2 at *;have rA:=pA1.range;have rO:=pO1.range;have hB2:=hB1;clear pA1 pO1 hB1;go_wp2_with (first | ((with_reducible refine zAA ?_ 56 (.tmp 1) ?_ w.heap.size 0 ?_ (zAD x tv) _ ?_ underlying56 ?_ ?_ ?_);rfl;rfl;rfl;exact rA;rfl;kernel_rfl) | ((with_reducible refine zAA ?_ 56 (.tmp 3) ?_ (w.heap.size+1) 0 ?_ (zAD ⟨13,x.a,0,v0I,c0I,a0I,a0I⟩ zAH) _ ?_ underlying56 ?_ ?_ ?_);rfl;rfl;rfl;exact rO;rfl;kernel_rfl) | (go_at_call 97;refine (CS _ hB2).mono ?_;rintro e w3 ⟨rfl,hb3⟩;have hB3:=zAB hB2 hb3))
 go_wp2;go_ret;first
 | exact ⟨by simp,hB2⟩
 | exact ⟨by simp,hB3⟩
theorem zHS (x:Wc.In) (av:Option Addr) (n c:Nat) (tl:List Int) (w:World) (hk:x.op=14) (hz:RdZ w (.slice av n c) tl) (hl:tl.length<=1000000) :
  CR 61 #[inV x (.slice av n c)] w (.bool (true && (smI x ⟨14,x.a,0,v0I,c0I,a0I,a0I⟩ && decide (tl=[])))):=by
 have CS:∀ w',Below w.heap.size w w'->Calls prog 97 #[.agg (zAD x (.slice av n c)).toArray,.agg (zAD ⟨14,x.a,0,v0I,c0I,a0I,a0I⟩ zAH).toArray] w' λe w''=>e=.returned (.bool (smI x ⟨14,x.a,0,v0I,c0I,a0I,a0I⟩ && decide (tl=[])))/\Below w'.heap.size w' w'':=λw' hb=>zA6 x ⟨14,x.a,0,v0I,c0I,a0I,a0I⟩ _ _ tl [] w' (hz.below hb) (RdZ.nil _) hl (by first | exact hl | simp)
 generalize (smI x ⟨14,x.a,0,v0I,c0I,a0I,a0I⟩ && decide (tl=[]))=R at *;obtain ⟨tv,htv⟩:∃ tv,Value.slice av n c=tv:=⟨_,rfl⟩
 rw [htv] at CS ⊢;have pA0:AtL (zAU w x tv) w.heap.size (zAD x tv):=(AtL.new0 w _ _).alloc _;have pO0:AtL (zAU w x tv) (w.heap.size+1) (zAD (zAI 0) zAH):=AtL.new1 w _ _ _;have hth:World.there (zAU w x tv) (w.heap.size+1) 0 (zAD (zAI 14) zAH).toArray.size:=pO0.there;have hne:w.heap.size+1 ≠ w.heap.size:=by omega
 have pA:=pA0.farAll hne 0 (zAD (zAI 14) zAH);have pO:AtL ((zAU w x tv).setCells (w.heap.size+1) 0 (zAD (zAI 14) zAH)) (w.heap.size+1) (zAD (zAI 14) zAH):=pO0.setAll rfl;have hBa:Below w.heap.size w ((zAU w x tv).setCells (w.heap.size+1) 0 (zAD (zAI 14) zAH)):=zAv (zAM (zAM (Below.refl _ w) _) _) (Nat.le_succ _) _ 0;clear pA0 pO0;have n0:(zAD x tv)[0]? = some (.int .i64 14):=by rw [<-hk];rfl
 have a0:World.cell? ((zAU w x tv).setCells (w.heap.size+1) 0 (zAD (zAI 14) zAH)) ⟨w.heap.size,0,none⟩=some (.int .i64 14):=pA.2.1 0 _ n0;show Calls _ _ #[.agg (zAD x tv).toArray] _ _
 have hS:zMC w.heap.size (w.heap.size+1) x tv ((zAU w x tv).setCells (w.heap.size+1) 0 (zAD (zAI 14) zAH)):=zFd pA pO;clear hz hl htv;go_enter func61,ntmps61;go_upto_region 1 with fail
 go_upto_region 2 with ((with_reducible refine wpList_store_mid ?_ 56 (.tmp 3) (.tmp 7) ?_ (w.heap.size+1) 0 (zAD (zAI 14) zAH).toArray ?_ ?_ ?_ ?_ ?_ ?_);rfl;rfl;rfl;rfl;exact hth;kernel_rfl;exact zAj _ _ _ _)
 generalize (zAU w x tv).setCells (w.heap.size+1) 0 (zAD (zAI 14) zAH)=W0 at *;clear hth;have a1:=pA.2.1 1 _ rfl;have o1:=pO.2.1 1 _ rfl;have f1:=pO.2.2 1 (by show 1<23;decide);go_upto_region 33 with fail
 have pA1:AtL (W0.setCell ⟨w.heap.size+1,1,none⟩ (.int .i64 x.a)) w.heap.size (zAD x tv):=pA.far hne 1 (.int .i64 x.a);have pO1:AtL (W0.setCell ⟨w.heap.size+1,1,none⟩ (.int .i64 x.a)) (w.heap.size+1) (zAD ⟨14,x.a,0,v0I,c0I,a0I,a0I⟩ zAH):=pO.set 1 (.int .i64 x.a);have hB1:Below w.heap.size w (W0.setCell ⟨w.heap.size+1,1,none⟩ (.int .i64 x.a)):=(clB hBa)
 clear pA pO hBa hS a0 a1 o1 f1;generalize (W0.setCell ⟨w.heap.size+1,1,none⟩ (.int .i64 x.a))=W2 at *;have rA:=pA1.range;have rO:=pO1.range;have hB2:=hB1;clear pA1 pO1 hB1;go_wp2_with (first | ((with_reducible refine zAA ?_ 56 (.tmp 1) ?_ w.heap.size 0 ?_ (zAD x tv) _ ?_ underlying56 ?_ ?_ ?_);rfl;rfl;rfl;exact rA;rfl;kernel_rfl) | ((with_reducible refine zAA ?_ 56 (.tmp 3) ?_ (w.heap.size+1) 0 ?_ (zAD ⟨14,x.a,0,v0I,c0I,a0I,a0I⟩ zAH) _ ?_ underlying56 ?_ ?_ ?_);rfl;rfl;rfl;exact rO;rfl;kernel_rfl) | (go_at_call 97;refine (CS _ hB2).mono ?_;rintro e w3 ⟨rfl,hb3⟩;have hB3:=zAB hB2 hb3))
 go_wp2;go_ret;first
 | exact ⟨by simp,hB2⟩
 | exact ⟨by simp,hB3⟩
theorem zL0 (x:Wc.In) (av:Option Addr) (n c:Nat) (tl:List Int) (w:World) (hz:RdZ w (.slice av n c) tl) (hl:tl.length<=1000000) (ho:x.op<1 \/ 16<x.op) :
  CR 61 #[inV x (.slice av n c)] w (.bool (false && (smI x ⟨x.op,0,0,v0I,c0I,a0I,a0I⟩ && decide (tl=[])))):=by
 have CS:∀ w',Below w.heap.size w w'->Calls prog 97 #[.agg (zAD x (.slice av n c)).toArray,.agg (zAD ⟨x.op,0,0,v0I,c0I,a0I,a0I⟩ zAH).toArray] w' λe w''=>e=.returned (.bool (smI x ⟨x.op,0,0,v0I,c0I,a0I,a0I⟩ && decide (tl=[])))/\Below w'.heap.size w' w'':=λw' hb=>zA6 x ⟨x.op,0,0,v0I,c0I,a0I,a0I⟩ _ _ tl [] w' (hz.below hb) (RdZ.nil _) hl (by first | exact hl | simp)
 generalize (smI x ⟨x.op,0,0,v0I,c0I,a0I,a0I⟩ && decide (tl=[]))=R at *;have m1:¬ x.op=1:=by omega
 have m2:¬ x.op=2:=by omega
 have m3:¬ x.op=3:=by omega
 have m4:¬ x.op=4:=by omega
 have m5:¬ x.op=5:=by omega
 have m6:¬ x.op=6:=by omega
 have m7:¬ x.op=7:=by omega
 have m8:¬ x.op=8:=by omega
 have m9:¬ x.op=9:=by omega
 have m10:¬ x.op=10:=by omega
 have m11:¬ x.op=11:=by omega
 have m12:¬ x.op=12:=by omega
 have m13:¬ x.op=13:=by omega
 have m14:¬ x.op=14:=by omega
 have m15:¬ x.op=15:=by omega
 have m16:¬ x.op=16:=by omega
 obtain ⟨tv,htv⟩:∃ tv,Value.slice av n c=tv:=⟨_,rfl⟩
 rw [htv] at CS ⊢;have pA0:AtL (zAU w x tv) w.heap.size (zAD x tv):=(AtL.new0 w _ _).alloc _;have pO0:AtL (zAU w x tv) (w.heap.size+1) (zAD (zAI 0) zAH):=AtL.new1 w _ _ _;have hth:World.there (zAU w x tv) (w.heap.size+1) 0 (zAD (zAI (x.op)) zAH).toArray.size:=pO0.there;have hne:w.heap.size+1 ≠ w.heap.size:=by omega
 have pA:=pA0.farAll hne 0 (zAD (zAI (x.op)) zAH);have pO:AtL ((zAU w x tv).setCells (w.heap.size+1) 0 (zAD (zAI (x.op)) zAH)) (w.heap.size+1) (zAD (zAI (x.op)) zAH):=pO0.setAll rfl;have hBa:Below w.heap.size w ((zAU w x tv).setCells (w.heap.size+1) 0 (zAD (zAI (x.op)) zAH)):=zAv (zAM (zAM (Below.refl _ w) _) _) (Nat.le_succ _) _ 0;clear pA0 pO0;have n0:(zAD x tv)[0]? = some (.int .i64 (x.op)):=rfl;have a0:World.cell? ((zAU w x tv).setCells (w.heap.size+1) 0 (zAD (zAI (x.op)) zAH)) ⟨w.heap.size,0,none⟩=some (.int .i64 (x.op)):=pA.2.1 0 _ n0;show Calls _ _ #[.agg (zAD x tv).toArray] _ _
 have hS:zNb w.heap.size (w.heap.size+1) x tv ((zAU w x tv).setCells (w.heap.size+1) 0 (zAD (zAI (x.op)) zAH)):=zDP pA pO;clear hz hl htv;go_enter func61,ntmps61;go_upto_region 1 with fail
 go_upto_region 2 with ((with_reducible refine wpList_store_mid ?_ 56 (.tmp 3) (.tmp 7) ?_ (w.heap.size+1) 0 (zAD (zAI (x.op)) zAH).toArray ?_ ?_ ?_ ?_ ?_ ?_);rfl;rfl;rfl;rfl;exact hth;kernel_rfl;exact zAj _ _ _ _)
 generalize (zAU w x tv).setCells (w.heap.size+1) 0 (zAD (zAI (x.op)) zAH)=W0 at *;clear hth;go_upto_region 33 with fail
 have pA1:=pA;have pO1:=pO;have hB1:=hBa;clear pA pO hBa hS a0;have rA:=pA1.range;have rO:=pO1.range;have hB2:=hB1;clear pA1 pO1 hB1;go_wp2_with (first | ((with_reducible refine zAA ?_ 56 (.tmp 1) ?_ w.heap.size 0 ?_ (zAD x tv) _ ?_ underlying56 ?_ ?_ ?_);rfl;rfl;rfl;exact rA;rfl;kernel_rfl) | ((with_reducible refine zAA ?_ 56 (.tmp 3) ?_ (w.heap.size+1) 0 ?_ (zAD ⟨x.op,0,0,v0I,c0I,a0I,a0I⟩ zAH) _ ?_ underlying56 ?_ ?_ ?_);rfl;rfl;rfl;exact rO;rfl;kernel_rfl) | (go_at_call 97;refine (CS _ hB2).mono ?_;rintro e w3 ⟨rfl,hb3⟩;have hB3:=zAB hB2 hb3))
 go_wp2;go_ret;first
 | exact ⟨by simp,hB2⟩
 | exact ⟨by simp,hB3⟩
theorem zLl {a:Wpl.Ar} (h:Wpl.rightA a.s a.t a.l a.b a.r=true):SmA a:=by
 have:=Wpl.rightA_iff.1 h;unfold SmA;omega
abbrev zMJ (ka kb:Nat) (x:Wc.In) (tv:Value) (W:World):Prop :=
 W.cell? ⟨ka,12,none⟩=some (.int .i64 x.ar.s)/\W.cell? ⟨ka,13,none⟩=some (.int .i64 x.ar.t)/\W.cell? ⟨ka,14,none⟩=some (.int .i64 x.ar.l)/\W.cell? ⟨ka,15,none⟩=some (.int .i64 x.ar.b)/\W.cell? ⟨ka,16,none⟩=some (.int .i64 x.ar.r)/\W.cell? ⟨ka,17,none⟩=some (.int .i64 x.pr.s)/\W.cell? ⟨ka,18,none⟩=some (.int .i64 x.pr.t)/\W.cell? ⟨ka,19,none⟩=some (.int .i64 x.pr.l)/\W.cell? ⟨ka,20,none⟩=some (.int .i64 x.pr.b)/\W.cell? ⟨ka,21,none⟩=some (.int .i64 x.pr.r)/\W.frozen? ⟨kb,12,none⟩=false/\W.frozen? ⟨kb,13,none⟩=false/\W.frozen? ⟨kb,14,none⟩=false/\W.frozen? ⟨kb,15,none⟩=false/\W.frozen? ⟨kb,16,none⟩=false/\W.frozen? ⟨kb,17,none⟩=false/\W.frozen? ⟨kb,18,none⟩=false/\W.frozen? ⟨kb,19,none⟩=false/\W.frozen? ⟨kb,20,none⟩=false/\W.frozen? ⟨kb,21,none⟩=false
theorem zBS (h0:AtL W ka (zAD x tv)) (h1:AtL W kb (zAD y tu)):zMJ ka kb x tv W :=
 ⟨h0.2.1 12 _ rfl,h0.2.1 13 _ rfl,h0.2.1 14 _ rfl,h0.2.1 15 _ rfl,h0.2.1 16 _ rfl,h0.2.1 17 _ rfl,h0.2.1 18 _ rfl,h0.2.1 19 _ rfl,h0.2.1 20 _ rfl,h0.2.1 21 _ rfl,h1.2.2 12 (by show 12<23;decide),h1.2.2 13 (by show 13<23;decide),h1.2.2 14 (by show 14<23;decide),h1.2.2 15 (by show 15<23;decide),h1.2.2 16 (by show 16<23;decide),h1.2.2 17 (by show 17<23;decide),h1.2.2 18 (by show 18<23;decide),h1.2.2 19 (by show 19<23;decide),h1.2.2 20 (by show 20<23;decide),h1.2.2 21 (by show 21<23;decide)⟩
theorem zAS (h:zMJ ka kb x tv W) (hne:kb ≠ ka) (j:Nat) (u:Value):zMJ ka kb x tv (W.setCell ⟨kb,j,none⟩ u):=by
 obtain ⟨h12,h13,h14,h15,h16,h17,h18,h19,h20,h21,g12,g13,g14,g15,g16,g17,g18,g19,g20,g21⟩:=h;refine ⟨?_,?_,?_,?_,?_,?_,?_,?_,?_,?_,?_,?_,?_,?_,?_,?_,?_,?_,?_,?_⟩;any_goals rw [World.cell?_setCell_far _ _ _ _ (by simpa using hne)];assumption
 all_goals rw [World.frozen?_setCell];assumption
theorem zKL (x:Wc.In) (av:Option Addr) (n c:Nat) (tl:List Int) (w:World) (hk:x.op=9) (hz:RdZ w (.slice av n c) tl) (hl:tl.length<=1000000) :
  CR 61 #[inV x (.slice av n c)] w (.bool (((Wpl.rightA x.ar.s x.ar.t x.ar.l x.ar.b x.ar.r && Wpl.rightA x.pr.s x.pr.t x.pr.l x.pr.b x.pr.r) && shp x.ar x.pr) && (smI x ⟨9,0,0,v0I,c0I,x.ar,x.pr⟩ && decide (tl=[])))):=by
 have CS:∀ w',Below w.heap.size w w'->Calls prog 97 #[.agg (zAD x (.slice av n c)).toArray,.agg (zAD ⟨9,0,0,v0I,c0I,x.ar,x.pr⟩ zAH).toArray] w' λe w''=>e=.returned (.bool (smI x ⟨9,0,0,v0I,c0I,x.ar,x.pr⟩ && decide (tl=[])))/\Below w'.heap.size w' w'':=λw' hb=>zA6 x ⟨9,0,0,v0I,c0I,x.ar,x.pr⟩ _ _ tl [] w' (hz.below hb) (RdZ.nil _) hl (by first | exact hl | simp)
 generalize (smI x ⟨9,0,0,v0I,c0I,x.ar,x.pr⟩ && decide (tl=[]))=R at *;have CA:=(λw=>zBF x.ar.s x.ar.t x.ar.l x.ar.b x.ar.r w:∀ w:World,CR 95 #[.agg #[.int .i64 x.ar.s,.int .i64 x.ar.t,.int .i64 x.ar.l,.int .i64 x.ar.b,.int .i64 x.ar.r]] w (.bool (Wpl.rightA x.ar.s x.ar.t x.ar.l x.ar.b x.ar.r)))
 have CB:=(λw=>zBF x.pr.s x.pr.t x.pr.l x.pr.b x.pr.r w:∀ w:World,CR 95 #[.agg #[.int .i64 x.pr.s,.int .i64 x.pr.t,.int .i64 x.pr.l,.int .i64 x.pr.b,.int .i64 x.pr.r]] w (.bool (Wpl.rightA x.pr.s x.pr.t x.pr.l x.pr.b x.pr.r)))
 have CC:∀ w:World,Wpl.rightA x.ar.s x.ar.t x.ar.l x.ar.b x.ar.r=true->Wpl.rightA x.pr.s x.pr.t x.pr.l x.pr.b x.pr.r=true->CR 96 #[.agg #[.int .i64 x.ar.s,.int .i64 x.ar.t,.int .i64 x.ar.l,.int .i64 x.ar.b,.int .i64 x.ar.r],.agg #[.int .i64 x.pr.s,.int .i64 x.pr.t,.int .i64 x.pr.l,.int .i64 x.pr.b,.int .i64 x.pr.r]] w (.bool (shp x.ar x.pr)):=λw h1 h2=>zCL x.ar x.pr w (zLl h1) (zLl h2)
 generalize shp x.ar x.pr=q3 at *;generalize Wpl.rightA x.ar.s x.ar.t x.ar.l x.ar.b x.ar.r=q1 at *;generalize Wpl.rightA x.pr.s x.pr.t x.pr.l x.pr.b x.pr.r=q2 at *;obtain ⟨tv,htv⟩:∃ tv,Value.slice av n c=tv:=⟨_,rfl⟩
 rw [htv] at CS ⊢;have pA0:AtL (zAU w x tv) w.heap.size (zAD x tv):=(AtL.new0 w _ _).alloc _;have pO0:AtL (zAU w x tv) (w.heap.size+1) (zAD (zAI 0) zAH):=AtL.new1 w _ _ _;have hth:World.there (zAU w x tv) (w.heap.size+1) 0 (zAD (zAI 9) zAH).toArray.size:=pO0.there;have hne:w.heap.size+1 ≠ w.heap.size:=by omega
 have pA:=pA0.farAll hne 0 (zAD (zAI 9) zAH);have pO:AtL ((zAU w x tv).setCells (w.heap.size+1) 0 (zAD (zAI 9) zAH)) (w.heap.size+1) (zAD (zAI 9) zAH):=pO0.setAll rfl;have hBa:Below w.heap.size w ((zAU w x tv).setCells (w.heap.size+1) 0 (zAD (zAI 9) zAH)):=zAv (zAM (zAM (Below.refl _ w) _) _) (Nat.le_succ _) _ 0;clear pA0 pO0;have n0:(zAD x tv)[0]? = some (.int .i64 9):=by rw [<-hk];rfl
 have a0:World.cell? ((zAU w x tv).setCells (w.heap.size+1) 0 (zAD (zAI 9) zAH)) ⟨w.heap.size,0,none⟩=some (.int .i64 9):=pA.2.1 0 _ n0;show Calls _ _ #[.agg (zAD x tv).toArray] _ _
 have hS:zMJ w.heap.size (w.heap.size+1) x tv ((zAU w x tv).setCells (w.heap.size+1) 0 (zAD (zAI 9) zAH)):=zBS pA pO;clear hz hl htv;cases q1 with
 | false =>
  go_enter func61,ntmps61;go_upto_region 1 with fail
  go_upto_region 2 with ((with_reducible refine wpList_store_mid ?_ 56 (.tmp 3) (.tmp 7) ?_ (w.heap.size+1) 0 (zAD (zAI 9) zAH).toArray ?_ ?_ ?_ ?_ ?_ ?_);rfl;rfl;rfl;rfl;exact hth;kernel_rfl;exact zAj _ _ _ _)
  generalize (zAU w x tv).setCells (w.heap.size+1) 0 (zAD (zAI 9) zAH)=W0 at *;clear hth;go_upto_region 22 with fail
  have pA1:=AtL.drew pA;have pO1:=AtL.drew pO;have hB1:=hBa.drew;clear pA pO hBa hS;refine wp_region_held_drew (S:=zMJ w.heap.size (w.heap.size+1) x tv) (by kernel_rfl) (zBS pA1 pO1) (λhHeld=>?_);generalize W0.drew=wd at *;refine tkQ 0 ?_
  refine tkQ 1 ?_
  refine tkQ 2 ?_
  refine tkQ 3 ?_
  refine tkQ 4 ?_
  refine rdQ 5 (λK hK=>?_);have o12:=pO1.2.1 12 _ rfl;have o13:=pO1.2.1 13 _ rfl;have o14:=pO1.2.1 14 _ rfl;have o15:=pO1.2.1 15 _ rfl;have o16:=pO1.2.1 16 _ rfl;obtain ⟨_,_,_,_,_,_,_,_,_,_,g12,g13,g14,g15,g16,g17,g18,g19,g20,g21⟩:=hHeld;go_simp
  refine hkQ hK ((zAS (zAS (zAS (zAS (zAS (zBS pA1 pO1) (by omega) _ _) (by omega) _ _) (by omega) _ _) (by omega) _ _) (by omega) _ _)) (λhHeld=>?_);clear hK K o12 o13 o14 o15 o16 g12 g13 g14 g15 g16 g17 g18 g19 g20 g21
  have pA2:AtL (((((wd.setCell ⟨w.heap.size+1,12,none⟩ (.int .i64 x.ar.s)).setCell ⟨w.heap.size+1,13,none⟩ (.int .i64 x.ar.t)).setCell ⟨w.heap.size+1,14,none⟩ (.int .i64 x.ar.l)).setCell ⟨w.heap.size+1,15,none⟩ (.int .i64 x.ar.b)).setCell ⟨w.heap.size+1,16,none⟩ (.int .i64 x.ar.r)) w.heap.size (zAD x tv):=(((((pA1.far hne 12 (.int .i64 x.ar.s)).far hne 13 (.int .i64 x.ar.t)).far hne 14 (.int .i64 x.ar.l)).far hne 15 (.int .i64 x.ar.b)).far hne 16 (.int .i64 x.ar.r))
  have pO2:AtL (((((wd.setCell ⟨w.heap.size+1,12,none⟩ (.int .i64 x.ar.s)).setCell ⟨w.heap.size+1,13,none⟩ (.int .i64 x.ar.t)).setCell ⟨w.heap.size+1,14,none⟩ (.int .i64 x.ar.l)).setCell ⟨w.heap.size+1,15,none⟩ (.int .i64 x.ar.b)).setCell ⟨w.heap.size+1,16,none⟩ (.int .i64 x.ar.r)) (w.heap.size+1) (zAD ⟨9,0,0,v0I,c0I,x.ar,a0I⟩ zAH):=(((((pO1.set 12 (.int .i64 x.ar.s)).set 13 (.int .i64 x.ar.t)).set 14 (.int .i64 x.ar.l)).set 15 (.int .i64 x.ar.b)).set 16 (.int .i64 x.ar.r))
  have hB2:Below w.heap.size w (((((wd.setCell ⟨w.heap.size+1,12,none⟩ (.int .i64 x.ar.s)).setCell ⟨w.heap.size+1,13,none⟩ (.int .i64 x.ar.t)).setCell ⟨w.heap.size+1,14,none⟩ (.int .i64 x.ar.l)).setCell ⟨w.heap.size+1,15,none⟩ (.int .i64 x.ar.b)).setCell ⟨w.heap.size+1,16,none⟩ (.int .i64 x.ar.r)):=(clB hB1)
  clear pA1 pO1 hB1;generalize (((((wd.setCell ⟨w.heap.size+1,12,none⟩ (.int .i64 x.ar.s)).setCell ⟨w.heap.size+1,13,none⟩ (.int .i64 x.ar.t)).setCell ⟨w.heap.size+1,14,none⟩ (.int .i64 x.ar.l)).setCell ⟨w.heap.size+1,15,none⟩ (.int .i64 x.ar.b)).setCell ⟨w.heap.size+1,16,none⟩ (.int .i64 x.ar.r))=ws1 at *;have pA1:=pA2;have pO1:=pO2;have hB1:=hB2;clear pA2 pO2 hB2;refine tkQ 6 ?_
  refine rdQ 7 (λK hK=>?_);have o17:=pO1.2.1 17 _ rfl;have o18:=pO1.2.1 18 _ rfl;have o19:=pO1.2.1 19 _ rfl;have o20:=pO1.2.1 20 _ rfl;have o21:=pO1.2.1 21 _ rfl;obtain ⟨_,_,_,_,_,_,_,_,_,_,g12,g13,g14,g15,g16,g17,g18,g19,g20,g21⟩:=hHeld;go_simp
  refine hkQ hK ((zAS (zAS (zAS (zAS (zAS (zBS pA1 pO1) (by omega) _ _) (by omega) _ _) (by omega) _ _) (by omega) _ _) (by omega) _ _)) (λhHeld=>?_);clear hK K o17 o18 o19 o20 o21 g12 g13 g14 g15 g16 g17 g18 g19 g20 g21
  have pA2:AtL (((((ws1.setCell ⟨w.heap.size+1,17,none⟩ (.int .i64 x.pr.s)).setCell ⟨w.heap.size+1,18,none⟩ (.int .i64 x.pr.t)).setCell ⟨w.heap.size+1,19,none⟩ (.int .i64 x.pr.l)).setCell ⟨w.heap.size+1,20,none⟩ (.int .i64 x.pr.b)).setCell ⟨w.heap.size+1,21,none⟩ (.int .i64 x.pr.r)) w.heap.size (zAD x tv):=(((((pA1.far hne 17 (.int .i64 x.pr.s)).far hne 18 (.int .i64 x.pr.t)).far hne 19 (.int .i64 x.pr.l)).far hne 20 (.int .i64 x.pr.b)).far hne 21 (.int .i64 x.pr.r))
  have pO2:AtL (((((ws1.setCell ⟨w.heap.size+1,17,none⟩ (.int .i64 x.pr.s)).setCell ⟨w.heap.size+1,18,none⟩ (.int .i64 x.pr.t)).setCell ⟨w.heap.size+1,19,none⟩ (.int .i64 x.pr.l)).setCell ⟨w.heap.size+1,20,none⟩ (.int .i64 x.pr.b)).setCell ⟨w.heap.size+1,21,none⟩ (.int .i64 x.pr.r)) (w.heap.size+1) (zAD ⟨9,0,0,v0I,c0I,x.ar,x.pr⟩ zAH):=(((((pO1.set 17 (.int .i64 x.pr.s)).set 18 (.int .i64 x.pr.t)).set 19 (.int .i64 x.pr.l)).set 20 (.int .i64 x.pr.b)).set 21 (.int .i64 x.pr.r))
  have hB2:Below w.heap.size w (((((ws1.setCell ⟨w.heap.size+1,17,none⟩ (.int .i64 x.pr.s)).setCell ⟨w.heap.size+1,18,none⟩ (.int .i64 x.pr.t)).setCell ⟨w.heap.size+1,19,none⟩ (.int .i64 x.pr.l)).setCell ⟨w.heap.size+1,20,none⟩ (.int .i64 x.pr.b)).setCell ⟨w.heap.size+1,21,none⟩ (.int .i64 x.pr.r)):=(clB hB1)
  clear pA1 pO1 hB1;generalize (((((ws1.setCell ⟨w.heap.size+1,17,none⟩ (.int .i64 x.pr.s)).setCell ⟨w.heap.size+1,18,none⟩ (.int .i64 x.pr.t)).setCell ⟨w.heap.size+1,19,none⟩ (.int .i64 x.pr.l)).setCell ⟨w.heap.size+1,20,none⟩ (.int .i64 x.pr.b)).setCell ⟨w.heap.size+1,21,none⟩ (.int .i64 x.pr.r))=ws2 at *;have pA1:=pA2;have pO1:=pO2;have hB1:=hB2;clear pA2 pO2 hB2;refine wpAnyH_done (by kernel_rfl) ?_ _;clear hHeld;have e12:=pA1.2.1 12 _ rfl;have e13:=pA1.2.1 13 _ rfl;have e14:=pA1.2.1 14 _ rfl;have e15:=pA1.2.1 15 _ rfl;have e16:=pA1.2.1 16 _ rfl;have e17:=pA1.2.1 17 _ rfl;have e18:=pA1.2.1 18 _ rfl;have e19:=pA1.2.1 19 _ rfl;have e20:=pA1.2.1 20 _ rfl;have e21:=pA1.2.1 21 _ rfl;go_wp2_with fail
  refine (CA _).mono ?_;rintro e wc1 ⟨rfl,hb⟩;replace pA1:=AtL.below hb pA1
  replace pO1:=AtL.below hb pO1
  replace hB1:=zAB hB1 hb
  clear hb;clear e12 e13 e14 e15 e16 e17 e18 e19 e20 e21;have e12:=pA1.2.1 12 _ rfl;have e13:=pA1.2.1 13 _ rfl;have e14:=pA1.2.1 14 _ rfl;have e15:=pA1.2.1 15 _ rfl;have e16:=pA1.2.1 16 _ rfl;have e17:=pA1.2.1 17 _ rfl;have e18:=pA1.2.1 18 _ rfl;have e19:=pA1.2.1 19 _ rfl;have e20:=pA1.2.1 20 _ rfl;have e21:=pA1.2.1 21 _ rfl;go_upto_region 33 with fail
  clear e12 e13 e14 e15 e16 e17 e18 e19 e20 e21;have rA:=pA1.range;have rO:=pO1.range;have hB2:=hB1;clear pA1 pO1 hB1;go_wp2_with (first | ((with_reducible refine zAA ?_ 56 (.tmp 1) ?_ w.heap.size 0 ?_ (zAD x tv) _ ?_ underlying56 ?_ ?_ ?_);rfl;rfl;rfl;exact rA;rfl;kernel_rfl) | ((with_reducible refine zAA ?_ 56 (.tmp 3) ?_ (w.heap.size+1) 0 ?_ (zAD ⟨9,0,0,v0I,c0I,x.ar,x.pr⟩ zAH) _ ?_ underlying56 ?_ ?_ ?_);rfl;rfl;rfl;exact rO;rfl;kernel_rfl) | (go_at_call 97;refine (CS _ hB2).mono ?_;rintro e w3 ⟨rfl,hb3⟩;have hB3:=zAB hB2 hb3))
  go_wp2;go_ret;first
  | exact ⟨by simp,hB2⟩
  | exact ⟨by simp,hB3⟩
 | true =>
  cases q2 with
  | false =>
   go_enter func61,ntmps61;go_upto_region 1 with fail
   go_upto_region 2 with ((with_reducible refine wpList_store_mid ?_ 56 (.tmp 3) (.tmp 7) ?_ (w.heap.size+1) 0 (zAD (zAI 9) zAH).toArray ?_ ?_ ?_ ?_ ?_ ?_);rfl;rfl;rfl;rfl;exact hth;kernel_rfl;exact zAj _ _ _ _)
   generalize (zAU w x tv).setCells (w.heap.size+1) 0 (zAD (zAI 9) zAH)=W0 at *;clear hth;go_upto_region 22 with fail
   have pA1:=AtL.drew pA;have pO1:=AtL.drew pO;have hB1:=hBa.drew;clear pA pO hBa hS;refine wp_region_held_drew (S:=zMJ w.heap.size (w.heap.size+1) x tv) (by kernel_rfl) (zBS pA1 pO1) (λhHeld=>?_);generalize W0.drew=wd at *;refine tkQ 0 ?_
   refine tkQ 1 ?_
   refine tkQ 2 ?_
   refine tkQ 3 ?_
   refine tkQ 4 ?_
   refine rdQ 5 (λK hK=>?_);have o12:=pO1.2.1 12 _ rfl;have o13:=pO1.2.1 13 _ rfl;have o14:=pO1.2.1 14 _ rfl;have o15:=pO1.2.1 15 _ rfl;have o16:=pO1.2.1 16 _ rfl;obtain ⟨_,_,_,_,_,_,_,_,_,_,g12,g13,g14,g15,g16,g17,g18,g19,g20,g21⟩:=hHeld;go_simp
   refine hkQ hK ((zAS (zAS (zAS (zAS (zAS (zBS pA1 pO1) (by omega) _ _) (by omega) _ _) (by omega) _ _) (by omega) _ _) (by omega) _ _)) (λhHeld=>?_);clear hK K o12 o13 o14 o15 o16 g12 g13 g14 g15 g16 g17 g18 g19 g20 g21
   have pA2:AtL (((((wd.setCell ⟨w.heap.size+1,12,none⟩ (.int .i64 x.ar.s)).setCell ⟨w.heap.size+1,13,none⟩ (.int .i64 x.ar.t)).setCell ⟨w.heap.size+1,14,none⟩ (.int .i64 x.ar.l)).setCell ⟨w.heap.size+1,15,none⟩ (.int .i64 x.ar.b)).setCell ⟨w.heap.size+1,16,none⟩ (.int .i64 x.ar.r)) w.heap.size (zAD x tv):=(((((pA1.far hne 12 (.int .i64 x.ar.s)).far hne 13 (.int .i64 x.ar.t)).far hne 14 (.int .i64 x.ar.l)).far hne 15 (.int .i64 x.ar.b)).far hne 16 (.int .i64 x.ar.r))
   have pO2:AtL (((((wd.setCell ⟨w.heap.size+1,12,none⟩ (.int .i64 x.ar.s)).setCell ⟨w.heap.size+1,13,none⟩ (.int .i64 x.ar.t)).setCell ⟨w.heap.size+1,14,none⟩ (.int .i64 x.ar.l)).setCell ⟨w.heap.size+1,15,none⟩ (.int .i64 x.ar.b)).setCell ⟨w.heap.size+1,16,none⟩ (.int .i64 x.ar.r)) (w.heap.size+1) (zAD ⟨9,0,0,v0I,c0I,x.ar,a0I⟩ zAH):=(((((pO1.set 12 (.int .i64 x.ar.s)).set 13 (.int .i64 x.ar.t)).set 14 (.int .i64 x.ar.l)).set 15 (.int .i64 x.ar.b)).set 16 (.int .i64 x.ar.r))
   have hB2:Below w.heap.size w (((((wd.setCell ⟨w.heap.size+1,12,none⟩ (.int .i64 x.ar.s)).setCell ⟨w.heap.size+1,13,none⟩ (.int .i64 x.ar.t)).setCell ⟨w.heap.size+1,14,none⟩ (.int .i64 x.ar.l)).setCell ⟨w.heap.size+1,15,none⟩ (.int .i64 x.ar.b)).setCell ⟨w.heap.size+1,16,none⟩ (.int .i64 x.ar.r)):=(clB hB1)
   clear pA1 pO1 hB1;generalize (((((wd.setCell ⟨w.heap.size+1,12,none⟩ (.int .i64 x.ar.s)).setCell ⟨w.heap.size+1,13,none⟩ (.int .i64 x.ar.t)).setCell ⟨w.heap.size+1,14,none⟩ (.int .i64 x.ar.l)).setCell ⟨w.heap.size+1,15,none⟩ (.int .i64 x.ar.b)).setCell ⟨w.heap.size+1,16,none⟩ (.int .i64 x.ar.r))=ws1 at *;have pA1:=pA2;have pO1:=pO2;have hB1:=hB2;clear pA2 pO2 hB2;refine tkQ 6 ?_
   refine rdQ 7 (λK hK=>?_);have o17:=pO1.2.1 17 _ rfl;have o18:=pO1.2.1 18 _ rfl;have o19:=pO1.2.1 19 _ rfl;have o20:=pO1.2.1 20 _ rfl;have o21:=pO1.2.1 21 _ rfl;obtain ⟨_,_,_,_,_,_,_,_,_,_,g12,g13,g14,g15,g16,g17,g18,g19,g20,g21⟩:=hHeld;go_simp
   refine hkQ hK ((zAS (zAS (zAS (zAS (zAS (zBS pA1 pO1) (by omega) _ _) (by omega) _ _) (by omega) _ _) (by omega) _ _) (by omega) _ _)) (λhHeld=>?_);clear hK K o17 o18 o19 o20 o21 g12 g13 g14 g15 g16 g17 g18 g19 g20 g21
   have pA2:AtL (((((ws1.setCell ⟨w.heap.size+1,17,none⟩ (.int .i64 x.pr.s)).setCell ⟨w.heap.size+1,18,none⟩ (.int .i64 x.pr.t)).setCell ⟨w.heap.size+1,19,none⟩ (.int .i64 x.pr.l)).setCell ⟨w.heap.size+1,20,none⟩ (.int .i64 x.pr.b)).setCell ⟨w.heap.size+1,21,none⟩ (.int .i64 x.pr.r)) w.heap.size (zAD x tv):=(((((pA1.far hne 17 (.int .i64 x.pr.s)).far hne 18 (.int .i64 x.pr.t)).far hne 19 (.int .i64 x.pr.l)).far hne 20 (.int .i64 x.pr.b)).far hne 21 (.int .i64 x.pr.r))
   have pO2:AtL (((((ws1.setCell ⟨w.heap.size+1,17,none⟩ (.int .i64 x.pr.s)).setCell ⟨w.heap.size+1,18,none⟩ (.int .i64 x.pr.t)).setCell ⟨w.heap.size+1,19,none⟩ (.int .i64 x.pr.l)).setCell ⟨w.heap.size+1,20,none⟩ (.int .i64 x.pr.b)).setCell ⟨w.heap.size+1,21,none⟩ (.int .i64 x.pr.r)) (w.heap.size+1) (zAD ⟨9,0,0,v0I,c0I,x.ar,x.pr⟩ zAH):=(((((pO1.set 17 (.int .i64 x.pr.s)).set 18 (.int .i64 x.pr.t)).set 19 (.int .i64 x.pr.l)).set 20 (.int .i64 x.pr.b)).set 21 (.int .i64 x.pr.r))
   have hB2:Below w.heap.size w (((((ws1.setCell ⟨w.heap.size+1,17,none⟩ (.int .i64 x.pr.s)).setCell ⟨w.heap.size+1,18,none⟩ (.int .i64 x.pr.t)).setCell ⟨w.heap.size+1,19,none⟩ (.int .i64 x.pr.l)).setCell ⟨w.heap.size+1,20,none⟩ (.int .i64 x.pr.b)).setCell ⟨w.heap.size+1,21,none⟩ (.int .i64 x.pr.r)):=(clB hB1)
   clear pA1 pO1 hB1;generalize (((((ws1.setCell ⟨w.heap.size+1,17,none⟩ (.int .i64 x.pr.s)).setCell ⟨w.heap.size+1,18,none⟩ (.int .i64 x.pr.t)).setCell ⟨w.heap.size+1,19,none⟩ (.int .i64 x.pr.l)).setCell ⟨w.heap.size+1,20,none⟩ (.int .i64 x.pr.b)).setCell ⟨w.heap.size+1,21,none⟩ (.int .i64 x.pr.r))=ws2 at *;have pA1:=pA2;have pO1:=pO2;have hB1:=hB2;clear pA2 pO2 hB2;refine wpAnyH_done (by kernel_rfl) ?_ _;clear hHeld;have e12:=pA1.2.1 12 _ rfl;have e13:=pA1.2.1 13 _ rfl;have e14:=pA1.2.1 14 _ rfl;have e15:=pA1.2.1 15 _ rfl;have e16:=pA1.2.1 16 _ rfl;have e17:=pA1.2.1 17 _ rfl;have e18:=pA1.2.1 18 _ rfl;have e19:=pA1.2.1 19 _ rfl;have e20:=pA1.2.1 20 _ rfl;have e21:=pA1.2.1 21 _ rfl;go_wp2_with fail
   refine (CA _).mono ?_;rintro e wc1 ⟨rfl,hb⟩;replace pA1:=AtL.below hb pA1
   replace pO1:=AtL.below hb pO1
   replace hB1:=zAB hB1 hb
   clear hb;clear e12 e13 e14 e15 e16 e17 e18 e19 e20 e21;have e12:=pA1.2.1 12 _ rfl;have e13:=pA1.2.1 13 _ rfl;have e14:=pA1.2.1 14 _ rfl;have e15:=pA1.2.1 15 _ rfl;have e16:=pA1.2.1 16 _ rfl;have e17:=pA1.2.1 17 _ rfl;have e18:=pA1.2.1 18 _ rfl;have e19:=pA1.2.1 19 _ rfl;have e20:=pA1.2.1 20 _ rfl;have e21:=pA1.2.1 21 _ rfl;go_wp2_with fail
   refine (CB _).mono ?_;rintro e wc2 ⟨rfl,hb⟩;replace pA1:=AtL.below hb pA1
   replace pO1:=AtL.below hb pO1
   replace hB1:=zAB hB1 hb
   clear hb;clear e12 e13 e14 e15 e16 e17 e18 e19 e20 e21;have e12:=pA1.2.1 12 _ rfl;have e13:=pA1.2.1 13 _ rfl;have e14:=pA1.2.1 14 _ rfl;have e15:=pA1.2.1 15 _ rfl;have e16:=pA1.2.1 16 _ rfl;have e17:=pA1.2.1 17 _ rfl;have e18:=pA1.2.1 18 _ rfl;have e19:=pA1.2.1 19 _ rfl;have e20:=pA1.2.1 20 _ rfl;have e21:=pA1.2.1 21 _ rfl;go_upto_region 33 with fail
   clear e12 e13 e14 e15 e16 e17 e18 e19 e20 e21;have rA:=pA1.range;have rO:=pO1.range;have hB2:=hB1;clear pA1 pO1 hB1;go_wp2_with (first | ((with_reducible refine zAA ?_ 56 (.tmp 1) ?_ w.heap.size 0 ?_ (zAD x tv) _ ?_ underlying56 ?_ ?_ ?_);rfl;rfl;rfl;exact rA;rfl;kernel_rfl) | ((with_reducible refine zAA ?_ 56 (.tmp 3) ?_ (w.heap.size+1) 0 ?_ (zAD ⟨9,0,0,v0I,c0I,x.ar,x.pr⟩ zAH) _ ?_ underlying56 ?_ ?_ ?_);rfl;rfl;rfl;exact rO;rfl;kernel_rfl) | (go_at_call 97;refine (CS _ hB2).mono ?_;rintro e w3 ⟨rfl,hb3⟩;have hB3:=zAB hB2 hb3))
   go_wp2;go_ret;first
   | exact ⟨by simp,hB2⟩
   | exact ⟨by simp,hB3⟩
  | true =>
   go_enter func61,ntmps61;go_upto_region 1 with fail
   go_upto_region 2 with ((with_reducible refine wpList_store_mid ?_ 56 (.tmp 3) (.tmp 7) ?_ (w.heap.size+1) 0 (zAD (zAI 9) zAH).toArray ?_ ?_ ?_ ?_ ?_ ?_);rfl;rfl;rfl;rfl;exact hth;kernel_rfl;exact zAj _ _ _ _)
   generalize (zAU w x tv).setCells (w.heap.size+1) 0 (zAD (zAI 9) zAH)=W0 at *;clear hth;go_upto_region 22 with fail
   have pA1:=AtL.drew pA;have pO1:=AtL.drew pO;have hB1:=hBa.drew;clear pA pO hBa hS;refine wp_region_held_drew (S:=zMJ w.heap.size (w.heap.size+1) x tv) (by kernel_rfl) (zBS pA1 pO1) (λhHeld=>?_);generalize W0.drew=wd at *;refine tkQ 0 ?_
   refine tkQ 1 ?_
   refine tkQ 2 ?_
   refine tkQ 3 ?_
   refine tkQ 4 ?_
   refine rdQ 5 (λK hK=>?_);have o12:=pO1.2.1 12 _ rfl;have o13:=pO1.2.1 13 _ rfl;have o14:=pO1.2.1 14 _ rfl;have o15:=pO1.2.1 15 _ rfl;have o16:=pO1.2.1 16 _ rfl;obtain ⟨_,_,_,_,_,_,_,_,_,_,g12,g13,g14,g15,g16,g17,g18,g19,g20,g21⟩:=hHeld;go_simp
   refine hkQ hK ((zAS (zAS (zAS (zAS (zAS (zBS pA1 pO1) (by omega) _ _) (by omega) _ _) (by omega) _ _) (by omega) _ _) (by omega) _ _)) (λhHeld=>?_);clear hK K o12 o13 o14 o15 o16 g12 g13 g14 g15 g16 g17 g18 g19 g20 g21
   have pA2:AtL (((((wd.setCell ⟨w.heap.size+1,12,none⟩ (.int .i64 x.ar.s)).setCell ⟨w.heap.size+1,13,none⟩ (.int .i64 x.ar.t)).setCell ⟨w.heap.size+1,14,none⟩ (.int .i64 x.ar.l)).setCell ⟨w.heap.size+1,15,none⟩ (.int .i64 x.ar.b)).setCell ⟨w.heap.size+1,16,none⟩ (.int .i64 x.ar.r)) w.heap.size (zAD x tv):=(((((pA1.far hne 12 (.int .i64 x.ar.s)).far hne 13 (.int .i64 x.ar.t)).far hne 14 (.int .i64 x.ar.l)).far hne 15 (.int .i64 x.ar.b)).far hne 16 (.int .i64 x.ar.r))
   have pO2:AtL (((((wd.setCell ⟨w.heap.size+1,12,none⟩ (.int .i64 x.ar.s)).setCell ⟨w.heap.size+1,13,none⟩ (.int .i64 x.ar.t)).setCell ⟨w.heap.size+1,14,none⟩ (.int .i64 x.ar.l)).setCell ⟨w.heap.size+1,15,none⟩ (.int .i64 x.ar.b)).setCell ⟨w.heap.size+1,16,none⟩ (.int .i64 x.ar.r)) (w.heap.size+1) (zAD ⟨9,0,0,v0I,c0I,x.ar,a0I⟩ zAH):=(((((pO1.set 12 (.int .i64 x.ar.s)).set 13 (.int .i64 x.ar.t)).set 14 (.int .i64 x.ar.l)).set 15 (.int .i64 x.ar.b)).set 16 (.int .i64 x.ar.r))
   have hB2:Below w.heap.size w (((((wd.setCell ⟨w.heap.size+1,12,none⟩ (.int .i64 x.ar.s)).setCell ⟨w.heap.size+1,13,none⟩ (.int .i64 x.ar.t)).setCell ⟨w.heap.size+1,14,none⟩ (.int .i64 x.ar.l)).setCell ⟨w.heap.size+1,15,none⟩ (.int .i64 x.ar.b)).setCell ⟨w.heap.size+1,16,none⟩ (.int .i64 x.ar.r)):=(clB hB1)
   clear pA1 pO1 hB1;generalize (((((wd.setCell ⟨w.heap.size+1,12,none⟩ (.int .i64 x.ar.s)).setCell ⟨w.heap.size+1,13,none⟩ (.int .i64 x.ar.t)).setCell ⟨w.heap.size+1,14,none⟩ (.int .i64 x.ar.l)).setCell ⟨w.heap.size+1,15,none⟩ (.int .i64 x.ar.b)).setCell ⟨w.heap.size+1,16,none⟩ (.int .i64 x.ar.r))=ws1 at *;have pA1:=pA2;have pO1:=pO2;have hB1:=hB2;clear pA2 pO2 hB2;refine tkQ 6 ?_
   refine rdQ 7 (λK hK=>?_);have o17:=pO1.2.1 17 _ rfl;have o18:=pO1.2.1 18 _ rfl;have o19:=pO1.2.1 19 _ rfl;have o20:=pO1.2.1 20 _ rfl;have o21:=pO1.2.1 21 _ rfl;obtain ⟨_,_,_,_,_,_,_,_,_,_,g12,g13,g14,g15,g16,g17,g18,g19,g20,g21⟩:=hHeld;go_simp
   refine hkQ hK ((zAS (zAS (zAS (zAS (zAS (zBS pA1 pO1) (by omega) _ _) (by omega) _ _) (by omega) _ _) (by omega) _ _) (by omega) _ _)) (λhHeld=>?_);clear hK K o17 o18 o19 o20 o21 g12 g13 g14 g15 g16 g17 g18 g19 g20 g21
   have pA2:AtL (((((ws1.setCell ⟨w.heap.size+1,17,none⟩ (.int .i64 x.pr.s)).setCell ⟨w.heap.size+1,18,none⟩ (.int .i64 x.pr.t)).setCell ⟨w.heap.size+1,19,none⟩ (.int .i64 x.pr.l)).setCell ⟨w.heap.size+1,20,none⟩ (.int .i64 x.pr.b)).setCell ⟨w.heap.size+1,21,none⟩ (.int .i64 x.pr.r)) w.heap.size (zAD x tv):=(((((pA1.far hne 17 (.int .i64 x.pr.s)).far hne 18 (.int .i64 x.pr.t)).far hne 19 (.int .i64 x.pr.l)).far hne 20 (.int .i64 x.pr.b)).far hne 21 (.int .i64 x.pr.r))
   have pO2:AtL (((((ws1.setCell ⟨w.heap.size+1,17,none⟩ (.int .i64 x.pr.s)).setCell ⟨w.heap.size+1,18,none⟩ (.int .i64 x.pr.t)).setCell ⟨w.heap.size+1,19,none⟩ (.int .i64 x.pr.l)).setCell ⟨w.heap.size+1,20,none⟩ (.int .i64 x.pr.b)).setCell ⟨w.heap.size+1,21,none⟩ (.int .i64 x.pr.r)) (w.heap.size+1) (zAD ⟨9,0,0,v0I,c0I,x.ar,x.pr⟩ zAH):=(((((pO1.set 17 (.int .i64 x.pr.s)).set 18 (.int .i64 x.pr.t)).set 19 (.int .i64 x.pr.l)).set 20 (.int .i64 x.pr.b)).set 21 (.int .i64 x.pr.r))
   have hB2:Below w.heap.size w (((((ws1.setCell ⟨w.heap.size+1,17,none⟩ (.int .i64 x.pr.s)).setCell ⟨w.heap.size+1,18,none⟩ (.int .i64 x.pr.t)).setCell ⟨w.heap.size+1,19,none⟩ (.int .i64 x.pr.l)).setCell ⟨w.heap.size+1,20,none⟩ (.int .i64 x.pr.b)).setCell ⟨w.heap.size+1,21,none⟩ (.int .i64 x.pr.r)):=(clB hB1)
   clear pA1 pO1 hB1;generalize (((((ws1.setCell ⟨w.heap.size+1,17,none⟩ (.int .i64 x.pr.s)).setCell ⟨w.heap.size+1,18,none⟩ (.int .i64 x.pr.t)).setCell ⟨w.heap.size+1,19,none⟩ (.int .i64 x.pr.l)).setCell ⟨w.heap.size+1,20,none⟩ (.int .i64 x.pr.b)).setCell ⟨w.heap.size+1,21,none⟩ (.int .i64 x.pr.r))=ws2 at *;have pA1:=pA2;have pO1:=pO2;have hB1:=hB2;clear pA2 pO2 hB2;refine wpAnyH_done (by kernel_rfl) ?_ _;clear hHeld;have e12:=pA1.2.1 12 _ rfl;have e13:=pA1.2.1 13 _ rfl;have e14:=pA1.2.1 14 _ rfl;have e15:=pA1.2.1 15 _ rfl;have e16:=pA1.2.1 16 _ rfl;have e17:=pA1.2.1 17 _ rfl;have e18:=pA1.2.1 18 _ rfl;have e19:=pA1.2.1 19 _ rfl;have e20:=pA1.2.1 20 _ rfl;have e21:=pA1.2.1 21 _ rfl;go_wp2_with fail
   refine (CA _).mono ?_;rintro e wc1 ⟨rfl,hb⟩;replace pA1:=AtL.below hb pA1
   replace pO1:=AtL.below hb pO1
   replace hB1:=zAB hB1 hb
   clear hb;clear e12 e13 e14 e15 e16 e17 e18 e19 e20 e21;have e12:=pA1.2.1 12 _ rfl;have e13:=pA1.2.1 13 _ rfl;have e14:=pA1.2.1 14 _ rfl;have e15:=pA1.2.1 15 _ rfl;have e16:=pA1.2.1 16 _ rfl;have e17:=pA1.2.1 17 _ rfl;have e18:=pA1.2.1 18 _ rfl;have e19:=pA1.2.1 19 _ rfl;have e20:=pA1.2.1 20 _ rfl;have e21:=pA1.2.1 21 _ rfl;go_wp2_with fail
   refine (CB _).mono ?_;rintro e wc2 ⟨rfl,hb⟩;replace pA1:=AtL.below hb pA1
   replace pO1:=AtL.below hb pO1
   replace hB1:=zAB hB1 hb
   clear hb;clear e12 e13 e14 e15 e16 e17 e18 e19 e20 e21;have e12:=pA1.2.1 12 _ rfl;have e13:=pA1.2.1 13 _ rfl;have e14:=pA1.2.1 14 _ rfl;have e15:=pA1.2.1 15 _ rfl;have e16:=pA1.2.1 16 _ rfl;have e17:=pA1.2.1 17 _ rfl;have e18:=pA1.2.1 18 _ rfl;have e19:=pA1.2.1 19 _ rfl;have e20:=pA1.2.1 20 _ rfl;have e21:=pA1.2.1 21 _ rfl;go_wp2_with fail
   refine (CC _ (by first | trivial | rfl) (by first | trivial | rfl)).mono ?_;rintro e wc3 ⟨rfl,hb⟩;replace pA1:=AtL.below hb pA1
   replace pO1:=AtL.below hb pO1
   replace hB1:=zAB hB1 hb
   clear hb;clear e12 e13 e14 e15 e16 e17 e18 e19 e20 e21;have e12:=pA1.2.1 12 _ rfl;have e13:=pA1.2.1 13 _ rfl;have e14:=pA1.2.1 14 _ rfl;have e15:=pA1.2.1 15 _ rfl;have e16:=pA1.2.1 16 _ rfl;have e17:=pA1.2.1 17 _ rfl;have e18:=pA1.2.1 18 _ rfl;have e19:=pA1.2.1 19 _ rfl;have e20:=pA1.2.1 20 _ rfl;have e21:=pA1.2.1 21 _ rfl;go_upto_region 33 with fail
   clear e12 e13 e14 e15 e16 e17 e18 e19 e20 e21;cases q3
   all_goals
    have rA:=pA1.range;have rO:=pO1.range;have hB2:=hB1;clear pA1 pO1 hB1;go_wp2_with (first | ((with_reducible refine zAA ?_ 56 (.tmp 1) ?_ w.heap.size 0 ?_ (zAD x tv) _ ?_ underlying56 ?_ ?_ ?_);rfl;rfl;rfl;exact rA;rfl;kernel_rfl) | ((with_reducible refine zAA ?_ 56 (.tmp 3) ?_ (w.heap.size+1) 0 ?_ (zAD ⟨9,0,0,v0I,c0I,x.ar,x.pr⟩ zAH) _ ?_ underlying56 ?_ ?_ ?_);rfl;rfl;rfl;exact rO;rfl;kernel_rfl) | (go_at_call 97;refine (CS _ hB2).mono ?_;rintro e w3 ⟨rfl,hb3⟩;have hB3:=zAB hB2 hb3))
    go_wp2;go_ret;first
    | exact ⟨by simp,hB2⟩
    | exact ⟨by simp,hB3⟩
