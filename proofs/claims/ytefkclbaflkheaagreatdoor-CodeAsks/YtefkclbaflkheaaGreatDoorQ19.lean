/- KWalkV. -/
import Derived.Test.YtefkclbaflkheaaGreatDoorQ18
set_option maxHeartbeats 4000000
set_option maxRecDepth 100000
namespace Go.Proofs.YtefkclbaflkheaaGreatDoor
open Tryz
open Go.RowKit
set_option linter.unusedVariables false
variable {ka kb:Nat} {x y:Wc.In} {tv tu:Value} {W:World}
abbrev zLQ (ka kb:Nat) (x:Wc.In) (tv:Value) (W:World):Prop :=
 W.cell? ⟨ka,1,none⟩=some (.int .i64 x.a)/\W.frozen? ⟨kb,1,none⟩=false
theorem zC6 (h0:AtL W ka (zAD x tv)) (h1:AtL W kb (zAD y tu)):zLQ ka kb x tv W :=
 ⟨h0.2.1 1 _ rfl,h1.2.2 1 (by show 1<23;decide)⟩
theorem zHl (x:Wc.In) (av:Option Addr) (n c:Nat) (tl:List Int) (w:World) (hk:x.op=7) (hz:RdZ w (.slice av n c) tl) (hl:tl.length<=1000000) :
  CR 61 #[inV x (.slice av n c)] w (.bool (true && (smI x ⟨7,0,0,v0I,c0I,a0I,a0I⟩ && decide (tl=[])))):=by
 have CS:∀ w',Below w.heap.size w w'->Calls prog 97 #[.agg (zAD x (.slice av n c)).toArray,.agg (zAD ⟨7,0,0,v0I,c0I,a0I,a0I⟩ zAG).toArray] w' λe w''=>e=.returned (.bool (smI x ⟨7,0,0,v0I,c0I,a0I,a0I⟩ && decide (tl=[])))/\Below w'.heap.size w' w'':=λw' hb=>zA0 x ⟨7,0,0,v0I,c0I,a0I,a0I⟩ _ _ tl [] w' (hz.below hb) (RdZ.nil _) hl (by first | exact hl | simp)
 generalize (smI x ⟨7,0,0,v0I,c0I,a0I,a0I⟩ && decide (tl=[]))=R at *;obtain ⟨tv,htv⟩:∃ tv,Value.slice av n c=tv:=⟨_,rfl⟩
 rw [htv] at CS ⊢;have pA0:AtL (zAJ w x tv) w.heap.size (zAD x tv):=(AtL.new0 w _ _).alloc _;have pO0:AtL (zAJ w x tv) (w.heap.size+1) (zAD (zAE 0) zAG):=AtL.new1 w _ _ _;have hth:World.there (zAJ w x tv) (w.heap.size+1) 0 (zAD (zAE 7) zAG).toArray.size:=pO0.there;have hne:w.heap.size+1 ≠ w.heap.size:=by omega
 have pA:=pA0.farAll hne 0 (zAD (zAE 7) zAG);have pO:AtL ((zAJ w x tv).setCells (w.heap.size+1) 0 (zAD (zAE 7) zAG)) (w.heap.size+1) (zAD (zAE 7) zAG):=pO0.setAll rfl;have hBa:Below w.heap.size w ((zAJ w x tv).setCells (w.heap.size+1) 0 (zAD (zAE 7) zAG)):=zAa (zAK (zAK (Below.refl _ w) _) _) (Nat.le_succ _) _ 0;clear pA0 pO0;have n0:(zAD x tv)[0]? = some (.int .i64 7):=by rw [<-hk];rfl
 have a0:World.cell? ((zAJ w x tv).setCells (w.heap.size+1) 0 (zAD (zAE 7) zAG)) ⟨w.heap.size,0,none⟩=some (.int .i64 7):=pA.2.1 0 _ n0;show Calls _ _ #[.agg (zAD x tv).toArray] _ _
 have hS:zLQ w.heap.size (w.heap.size+1) x tv ((zAJ w x tv).setCells (w.heap.size+1) 0 (zAD (zAE 7) zAG)):=zC6 pA pO;clear hz hl htv;go_enter func61,ntmps61;go_upto_region 1 with fail
 go_upto_region 2 with ((with_reducible refine wpList_store_mid ?_ 56 (.tmp 3) (.tmp 7) ?_ (w.heap.size+1) 0 (zAD (zAE 7) zAG).toArray ?_ ?_ ?_ ?_ ?_ ?_);rfl;rfl;rfl;rfl;exact hth;kernel_rfl;exact zAZ _ _ _ _)
 generalize (zAJ w x tv).setCells (w.heap.size+1) 0 (zAD (zAE 7) zAG)=W0 at *;clear hth;go_upto_region 33 with fail
 have pA1:=pA;have pO1:=pO;have hB1:=hBa;clear pA pO hBa hS a0;have rA:=pA1.range;have rO:=pO1.range;have hB2:=hB1;clear pA1 pO1 hB1;go_wp2_with (first | ((with_reducible refine zAA ?_ 56 (.tmp 1) ?_ w.heap.size 0 ?_ (zAD x tv) _ ?_ underlying56 ?_ ?_ ?_);rfl;rfl;rfl;exact rA;rfl;kernel_rfl) | ((with_reducible refine zAA ?_ 56 (.tmp 3) ?_ (w.heap.size+1) 0 ?_ (zAD ⟨7,0,0,v0I,c0I,a0I,a0I⟩ zAG) _ ?_ underlying56 ?_ ?_ ?_);rfl;rfl;rfl;exact rO;rfl;kernel_rfl) | (go_at_call 97;refine (CS _ hB2).mono ?_;rintro e w3 ⟨rfl,hb3⟩;have hB3:=zAB hB2 hb3))
 go_wp2;go_ret;first
 | exact ⟨by simp,hB2⟩
 | exact ⟨by simp,hB3⟩
theorem zGy (x:Wc.In) (av:Option Addr) (n c:Nat) (tl:List Int) (w:World) (hk:x.op=10) (hz:RdZ w (.slice av n c) tl) (hl:tl.length<=1000000) :
  CR 61 #[inV x (.slice av n c)] w (.bool (true && (smI x ⟨10,0,0,v0I,c0I,a0I,a0I⟩ && decide (tl=[])))):=by
 have CS:∀ w',Below w.heap.size w w'->Calls prog 97 #[.agg (zAD x (.slice av n c)).toArray,.agg (zAD ⟨10,0,0,v0I,c0I,a0I,a0I⟩ zAG).toArray] w' λe w''=>e=.returned (.bool (smI x ⟨10,0,0,v0I,c0I,a0I,a0I⟩ && decide (tl=[])))/\Below w'.heap.size w' w'':=λw' hb=>zA0 x ⟨10,0,0,v0I,c0I,a0I,a0I⟩ _ _ tl [] w' (hz.below hb) (RdZ.nil _) hl (by first | exact hl | simp)
 generalize (smI x ⟨10,0,0,v0I,c0I,a0I,a0I⟩ && decide (tl=[]))=R at *;obtain ⟨tv,htv⟩:∃ tv,Value.slice av n c=tv:=⟨_,rfl⟩
 rw [htv] at CS ⊢;have pA0:AtL (zAJ w x tv) w.heap.size (zAD x tv):=(AtL.new0 w _ _).alloc _;have pO0:AtL (zAJ w x tv) (w.heap.size+1) (zAD (zAE 0) zAG):=AtL.new1 w _ _ _;have hth:World.there (zAJ w x tv) (w.heap.size+1) 0 (zAD (zAE 10) zAG).toArray.size:=pO0.there;have hne:w.heap.size+1 ≠ w.heap.size:=by omega
 have pA:=pA0.farAll hne 0 (zAD (zAE 10) zAG);have pO:AtL ((zAJ w x tv).setCells (w.heap.size+1) 0 (zAD (zAE 10) zAG)) (w.heap.size+1) (zAD (zAE 10) zAG):=pO0.setAll rfl;have hBa:Below w.heap.size w ((zAJ w x tv).setCells (w.heap.size+1) 0 (zAD (zAE 10) zAG)):=zAa (zAK (zAK (Below.refl _ w) _) _) (Nat.le_succ _) _ 0;clear pA0 pO0;have n0:(zAD x tv)[0]? = some (.int .i64 10):=by rw [<-hk];rfl
 have a0:World.cell? ((zAJ w x tv).setCells (w.heap.size+1) 0 (zAD (zAE 10) zAG)) ⟨w.heap.size,0,none⟩=some (.int .i64 10):=pA.2.1 0 _ n0;show Calls _ _ #[.agg (zAD x tv).toArray] _ _
 have hS:zLQ w.heap.size (w.heap.size+1) x tv ((zAJ w x tv).setCells (w.heap.size+1) 0 (zAD (zAE 10) zAG)):=zC6 pA pO;clear hz hl htv;go_enter func61,ntmps61;go_upto_region 1 with fail
 go_upto_region 2 with ((with_reducible refine wpList_store_mid ?_ 56 (.tmp 3) (.tmp 7) ?_ (w.heap.size+1) 0 (zAD (zAE 10) zAG).toArray ?_ ?_ ?_ ?_ ?_ ?_);rfl;rfl;rfl;rfl;exact hth;kernel_rfl;exact zAZ _ _ _ _)
 generalize (zAJ w x tv).setCells (w.heap.size+1) 0 (zAD (zAE 10) zAG)=W0 at *;clear hth;go_upto_region 33 with fail
 have pA1:=pA;have pO1:=pO;have hB1:=hBa;clear pA pO hBa hS a0;have rA:=pA1.range;have rO:=pO1.range;have hB2:=hB1;clear pA1 pO1 hB1;go_wp2_with (first | ((with_reducible refine zAA ?_ 56 (.tmp 1) ?_ w.heap.size 0 ?_ (zAD x tv) _ ?_ underlying56 ?_ ?_ ?_);rfl;rfl;rfl;exact rA;rfl;kernel_rfl) | ((with_reducible refine zAA ?_ 56 (.tmp 3) ?_ (w.heap.size+1) 0 ?_ (zAD ⟨10,0,0,v0I,c0I,a0I,a0I⟩ zAG) _ ?_ underlying56 ?_ ?_ ?_);rfl;rfl;rfl;exact rO;rfl;kernel_rfl) | (go_at_call 97;refine (CS _ hB2).mono ?_;rintro e w3 ⟨rfl,hb3⟩;have hB3:=zAB hB2 hb3))
 go_wp2;go_ret;first
 | exact ⟨by simp,hB2⟩
 | exact ⟨by simp,hB3⟩
theorem zFT (x:Wc.In) (av:Option Addr) (n c:Nat) (tl:List Int) (w:World) (hk:x.op=16) (hz:RdZ w (.slice av n c) tl) (hl:tl.length<=1000000) :
  CR 61 #[inV x (.slice av n c)] w (.bool (true && (smI x ⟨16,0,0,v0I,c0I,a0I,a0I⟩ && decide (tl=[])))):=by
 have CS:∀ w',Below w.heap.size w w'->Calls prog 97 #[.agg (zAD x (.slice av n c)).toArray,.agg (zAD ⟨16,0,0,v0I,c0I,a0I,a0I⟩ zAG).toArray] w' λe w''=>e=.returned (.bool (smI x ⟨16,0,0,v0I,c0I,a0I,a0I⟩ && decide (tl=[])))/\Below w'.heap.size w' w'':=λw' hb=>zA0 x ⟨16,0,0,v0I,c0I,a0I,a0I⟩ _ _ tl [] w' (hz.below hb) (RdZ.nil _) hl (by first | exact hl | simp)
 generalize (smI x ⟨16,0,0,v0I,c0I,a0I,a0I⟩ && decide (tl=[]))=R at *;obtain ⟨tv,htv⟩:∃ tv,Value.slice av n c=tv:=⟨_,rfl⟩
 rw [htv] at CS ⊢;have pA0:AtL (zAJ w x tv) w.heap.size (zAD x tv):=(AtL.new0 w _ _).alloc _;have pO0:AtL (zAJ w x tv) (w.heap.size+1) (zAD (zAE 0) zAG):=AtL.new1 w _ _ _;have hth:World.there (zAJ w x tv) (w.heap.size+1) 0 (zAD (zAE 16) zAG).toArray.size:=pO0.there;have hne:w.heap.size+1 ≠ w.heap.size:=by omega
 have pA:=pA0.farAll hne 0 (zAD (zAE 16) zAG);have pO:AtL ((zAJ w x tv).setCells (w.heap.size+1) 0 (zAD (zAE 16) zAG)) (w.heap.size+1) (zAD (zAE 16) zAG):=pO0.setAll rfl;have hBa:Below w.heap.size w ((zAJ w x tv).setCells (w.heap.size+1) 0 (zAD (zAE 16) zAG)):=zAa (zAK (zAK (Below.refl _ w) _) _) (Nat.le_succ _) _ 0;clear pA0 pO0;have n0:(zAD x tv)[0]? = some (.int .i64 16):=by rw [<-hk];rfl
 have a0:World.cell? ((zAJ w x tv).setCells (w.heap.size+1) 0 (zAD (zAE 16) zAG)) ⟨w.heap.size,0,none⟩=some (.int .i64 16):=pA.2.1 0 _ n0;show Calls _ _ #[.agg (zAD x tv).toArray] _ _
 have hS:zLQ w.heap.size (w.heap.size+1) x tv ((zAJ w x tv).setCells (w.heap.size+1) 0 (zAD (zAE 16) zAG)):=zC6 pA pO;clear hz hl htv;go_enter func61,ntmps61;go_upto_region 1 with fail
 go_upto_region 2 with ((with_reducible refine wpList_store_mid ?_ 56 (.tmp 3) (.tmp 7) ?_ (w.heap.size+1) 0 (zAD (zAE 16) zAG).toArray ?_ ?_ ?_ ?_ ?_ ?_);rfl;rfl;rfl;rfl;exact hth;kernel_rfl;exact zAZ _ _ _ _)
 generalize (zAJ w x tv).setCells (w.heap.size+1) 0 (zAD (zAE 16) zAG)=W0 at *;clear hth;go_upto_region 33 with fail
 have pA1:=pA;have pO1:=pO;have hB1:=hBa;clear pA pO hBa hS a0;have rA:=pA1.range;have rO:=pO1.range;have hB2:=hB1;clear pA1 pO1 hB1;go_wp2_with (first | ((with_reducible refine zAA ?_ 56 (.tmp 1) ?_ w.heap.size 0 ?_ (zAD x tv) _ ?_ underlying56 ?_ ?_ ?_);rfl;rfl;rfl;exact rA;rfl;kernel_rfl) | ((with_reducible refine zAA ?_ 56 (.tmp 3) ?_ (w.heap.size+1) 0 ?_ (zAD ⟨16,0,0,v0I,c0I,a0I,a0I⟩ zAG) _ ?_ underlying56 ?_ ?_ ?_);rfl;rfl;rfl;exact rO;rfl;kernel_rfl) | (go_at_call 97;refine (CS _ hB2).mono ?_;rintro e w3 ⟨rfl,hb3⟩;have hB3:=zAB hB2 hb3))
 go_wp2;go_ret;first
 | exact ⟨by simp,hB2⟩
 | exact ⟨by simp,hB3⟩
abbrev zLG (ka kb:Nat) (x:Wc.In) (tv:Value) (W:World):Prop :=
 W.cell? ⟨ka,1,none⟩=some (.int .i64 x.a)/\W.frozen? ⟨kb,1,none⟩=false
theorem zE3 (h0:AtL W ka (zAD x tv)) (h1:AtL W kb (zAD y tu)):zLG ka kb x tv W :=
 ⟨h0.2.1 1 _ rfl,h1.2.2 1 (by show 1<23;decide)⟩
theorem zFU (x:Wc.In) (av:Option Addr) (n c:Nat) (tl:List Int) (w:World) (hk:x.op=13) (hz:RdZ w (.slice av n c) tl) (hl:tl.length<=1000000) :
  CR 61 #[inV x (.slice av n c)] w (.bool (true && (smI x ⟨13,x.a,0,v0I,c0I,a0I,a0I⟩ && decide (tl=[])))):=by
 have CS:∀ w',Below w.heap.size w w'->Calls prog 97 #[.agg (zAD x (.slice av n c)).toArray,.agg (zAD ⟨13,x.a,0,v0I,c0I,a0I,a0I⟩ zAG).toArray] w' λe w''=>e=.returned (.bool (smI x ⟨13,x.a,0,v0I,c0I,a0I,a0I⟩ && decide (tl=[])))/\Below w'.heap.size w' w'':=λw' hb=>zA0 x ⟨13,x.a,0,v0I,c0I,a0I,a0I⟩ _ _ tl [] w' (hz.below hb) (RdZ.nil _) hl (by first | exact hl | simp)
 generalize (smI x ⟨13,x.a,0,v0I,c0I,a0I,a0I⟩ && decide (tl=[]))=R at *;obtain ⟨tv,htv⟩:∃ tv,Value.slice av n c=tv:=⟨_,rfl⟩
 rw [htv] at CS ⊢;have pA0:AtL (zAJ w x tv) w.heap.size (zAD x tv):=(AtL.new0 w _ _).alloc _;have pO0:AtL (zAJ w x tv) (w.heap.size+1) (zAD (zAE 0) zAG):=AtL.new1 w _ _ _;have hth:World.there (zAJ w x tv) (w.heap.size+1) 0 (zAD (zAE 13) zAG).toArray.size:=pO0.there;have hne:w.heap.size+1 ≠ w.heap.size:=by omega
 have pA:=pA0.farAll hne 0 (zAD (zAE 13) zAG);have pO:AtL ((zAJ w x tv).setCells (w.heap.size+1) 0 (zAD (zAE 13) zAG)) (w.heap.size+1) (zAD (zAE 13) zAG):=pO0.setAll rfl;have hBa:Below w.heap.size w ((zAJ w x tv).setCells (w.heap.size+1) 0 (zAD (zAE 13) zAG)):=zAa (zAK (zAK (Below.refl _ w) _) _) (Nat.le_succ _) _ 0;clear pA0 pO0;have n0:(zAD x tv)[0]? = some (.int .i64 13):=by rw [<-hk];rfl
 have a0:World.cell? ((zAJ w x tv).setCells (w.heap.size+1) 0 (zAD (zAE 13) zAG)) ⟨w.heap.size,0,none⟩=some (.int .i64 13):=pA.2.1 0 _ n0;show Calls _ _ #[.agg (zAD x tv).toArray] _ _
 have hS:zLG w.heap.size (w.heap.size+1) x tv ((zAJ w x tv).setCells (w.heap.size+1) 0 (zAD (zAE 13) zAG)):=zE3 pA pO;clear hz hl htv;go_enter func61,ntmps61;go_upto_region 1 with fail
 go_upto_region 2 with ((with_reducible refine wpList_store_mid ?_ 56 (.tmp 3) (.tmp 7) ?_ (w.heap.size+1) 0 (zAD (zAE 13) zAG).toArray ?_ ?_ ?_ ?_ ?_ ?_);rfl;rfl;rfl;rfl;exact hth;kernel_rfl;exact zAZ _ _ _ _)
 generalize (zAJ w x tv).setCells (w.heap.size+1) 0 (zAD (zAE 13) zAG)=W0 at *;clear hth;have a1:=pA.2.1 1 _ rfl;have o1:=pO.2.1 1 _ rfl;have f1:=pO.2.2 1 (by show 1<23;decide);go_upto_region 33 with fail
 have pA1:AtL (W0.setCell ⟨w.heap.size+1,1,none⟩ (.int .i64 x.a)) w.heap.size (zAD x tv):=pA.far hne 1 (.int .i64 x.a);have pO1:AtL (W0.setCell ⟨w.heap.size+1,1,none⟩ (.int .i64 x.a)) (w.heap.size+1) (zAD ⟨13,x.a,0,v0I,c0I,a0I,a0I⟩ zAG):=pO.set 1 (.int .i64 x.a);have hB1:Below w.heap.size w (W0.setCell ⟨w.heap.size+1,1,none⟩ (.int .i64 x.a)):=(clB hBa)
 clear pA pO hBa hS a0 a1 o1 f1;generalize (W0.setCell ⟨w.heap.size+1,1,none⟩ (.int .i64 x.a))=W2 at *;have rA:=pA1.range;have rO:=pO1.range;have hB2:=hB1;clear pA1 pO1 hB1;go_wp2_with (first | ((with_reducible refine zAA ?_ 56 (.tmp 1) ?_ w.heap.size 0 ?_ (zAD x tv) _ ?_ underlying56 ?_ ?_ ?_);rfl;rfl;rfl;exact rA;rfl;kernel_rfl) | ((with_reducible refine zAA ?_ 56 (.tmp 3) ?_ (w.heap.size+1) 0 ?_ (zAD ⟨13,x.a,0,v0I,c0I,a0I,a0I⟩ zAG) _ ?_ underlying56 ?_ ?_ ?_);rfl;rfl;rfl;exact rO;rfl;kernel_rfl) | (go_at_call 97;refine (CS _ hB2).mono ?_;rintro e w3 ⟨rfl,hb3⟩;have hB3:=zAB hB2 hb3))
 go_wp2;go_ret;first
 | exact ⟨by simp,hB2⟩
 | exact ⟨by simp,hB3⟩
theorem zGd (x:Wc.In) (av:Option Addr) (n c:Nat) (tl:List Int) (w:World) (hk:x.op=14) (hz:RdZ w (.slice av n c) tl) (hl:tl.length<=1000000) :
  CR 61 #[inV x (.slice av n c)] w (.bool (true && (smI x ⟨14,x.a,0,v0I,c0I,a0I,a0I⟩ && decide (tl=[])))):=by
 have CS:∀ w',Below w.heap.size w w'->Calls prog 97 #[.agg (zAD x (.slice av n c)).toArray,.agg (zAD ⟨14,x.a,0,v0I,c0I,a0I,a0I⟩ zAG).toArray] w' λe w''=>e=.returned (.bool (smI x ⟨14,x.a,0,v0I,c0I,a0I,a0I⟩ && decide (tl=[])))/\Below w'.heap.size w' w'':=λw' hb=>zA0 x ⟨14,x.a,0,v0I,c0I,a0I,a0I⟩ _ _ tl [] w' (hz.below hb) (RdZ.nil _) hl (by first | exact hl | simp)
 generalize (smI x ⟨14,x.a,0,v0I,c0I,a0I,a0I⟩ && decide (tl=[]))=R at *;obtain ⟨tv,htv⟩:∃ tv,Value.slice av n c=tv:=⟨_,rfl⟩
 rw [htv] at CS ⊢;have pA0:AtL (zAJ w x tv) w.heap.size (zAD x tv):=(AtL.new0 w _ _).alloc _;have pO0:AtL (zAJ w x tv) (w.heap.size+1) (zAD (zAE 0) zAG):=AtL.new1 w _ _ _;have hth:World.there (zAJ w x tv) (w.heap.size+1) 0 (zAD (zAE 14) zAG).toArray.size:=pO0.there;have hne:w.heap.size+1 ≠ w.heap.size:=by omega
 have pA:=pA0.farAll hne 0 (zAD (zAE 14) zAG);have pO:AtL ((zAJ w x tv).setCells (w.heap.size+1) 0 (zAD (zAE 14) zAG)) (w.heap.size+1) (zAD (zAE 14) zAG):=pO0.setAll rfl;have hBa:Below w.heap.size w ((zAJ w x tv).setCells (w.heap.size+1) 0 (zAD (zAE 14) zAG)):=zAa (zAK (zAK (Below.refl _ w) _) _) (Nat.le_succ _) _ 0;clear pA0 pO0;have n0:(zAD x tv)[0]? = some (.int .i64 14):=by rw [<-hk];rfl
 have a0:World.cell? ((zAJ w x tv).setCells (w.heap.size+1) 0 (zAD (zAE 14) zAG)) ⟨w.heap.size,0,none⟩=some (.int .i64 14):=pA.2.1 0 _ n0;show Calls _ _ #[.agg (zAD x tv).toArray] _ _
 have hS:zLG w.heap.size (w.heap.size+1) x tv ((zAJ w x tv).setCells (w.heap.size+1) 0 (zAD (zAE 14) zAG)):=zE3 pA pO;clear hz hl htv;go_enter func61,ntmps61;go_upto_region 1 with fail
 go_upto_region 2 with ((with_reducible refine wpList_store_mid ?_ 56 (.tmp 3) (.tmp 7) ?_ (w.heap.size+1) 0 (zAD (zAE 14) zAG).toArray ?_ ?_ ?_ ?_ ?_ ?_);rfl;rfl;rfl;rfl;exact hth;kernel_rfl;exact zAZ _ _ _ _)
 generalize (zAJ w x tv).setCells (w.heap.size+1) 0 (zAD (zAE 14) zAG)=W0 at *;clear hth;have a1:=pA.2.1 1 _ rfl;have o1:=pO.2.1 1 _ rfl;have f1:=pO.2.2 1 (by show 1<23;decide);go_upto_region 33 with fail
 have pA1:AtL (W0.setCell ⟨w.heap.size+1,1,none⟩ (.int .i64 x.a)) w.heap.size (zAD x tv):=pA.far hne 1 (.int .i64 x.a);have pO1:AtL (W0.setCell ⟨w.heap.size+1,1,none⟩ (.int .i64 x.a)) (w.heap.size+1) (zAD ⟨14,x.a,0,v0I,c0I,a0I,a0I⟩ zAG):=pO.set 1 (.int .i64 x.a);have hB1:Below w.heap.size w (W0.setCell ⟨w.heap.size+1,1,none⟩ (.int .i64 x.a)):=(clB hBa)
 clear pA pO hBa hS a0 a1 o1 f1;generalize (W0.setCell ⟨w.heap.size+1,1,none⟩ (.int .i64 x.a))=W2 at *;have rA:=pA1.range;have rO:=pO1.range;have hB2:=hB1;clear pA1 pO1 hB1;go_wp2_with (first | ((with_reducible refine zAA ?_ 56 (.tmp 1) ?_ w.heap.size 0 ?_ (zAD x tv) _ ?_ underlying56 ?_ ?_ ?_);rfl;rfl;rfl;exact rA;rfl;kernel_rfl) | ((with_reducible refine zAA ?_ 56 (.tmp 3) ?_ (w.heap.size+1) 0 ?_ (zAD ⟨14,x.a,0,v0I,c0I,a0I,a0I⟩ zAG) _ ?_ underlying56 ?_ ?_ ?_);rfl;rfl;rfl;exact rO;rfl;kernel_rfl) | (go_at_call 97;refine (CS _ hB2).mono ?_;rintro e w3 ⟨rfl,hb3⟩;have hB3:=zAB hB2 hb3))
 go_wp2;go_ret;first
 | exact ⟨by simp,hB2⟩
 | exact ⟨by simp,hB3⟩
theorem zHh (x:Wc.In) (av:Option Addr) (n c:Nat) (tl:List Int) (w:World) (hz:RdZ w (.slice av n c) tl) (hl:tl.length<=1000000) (ho:x.op<1 \/ 16<x.op) :
  CR 61 #[inV x (.slice av n c)] w (.bool (false && (smI x ⟨x.op,0,0,v0I,c0I,a0I,a0I⟩ && decide (tl=[])))):=by
 have CS:∀ w',Below w.heap.size w w'->Calls prog 97 #[.agg (zAD x (.slice av n c)).toArray,.agg (zAD ⟨x.op,0,0,v0I,c0I,a0I,a0I⟩ zAG).toArray] w' λe w''=>e=.returned (.bool (smI x ⟨x.op,0,0,v0I,c0I,a0I,a0I⟩ && decide (tl=[])))/\Below w'.heap.size w' w'':=λw' hb=>zA0 x ⟨x.op,0,0,v0I,c0I,a0I,a0I⟩ _ _ tl [] w' (hz.below hb) (RdZ.nil _) hl (by first | exact hl | simp)
 generalize (smI x ⟨x.op,0,0,v0I,c0I,a0I,a0I⟩ && decide (tl=[]))=R at *;have m1:¬ x.op=1:=by omega
 have m2:¬ x.op=2:=by omega
 have m3:¬ x.op=3:=by omega
 have m4:¬ x.op=4:=by omega
 have m5:¬ x.op=5:=by omega
 have m6:¬ x.op=6:=by omega
 have m7:¬ x.op=7:=by omega
 have m8:¬ x.op=8:=by omega
 have m9:¬ x.op=9:=by omega
 have m10:¬ x.op=10:=by omega
 have m11:¬ x.op=11:=by omega
 have m12:¬ x.op=12:=by omega
 have m13:¬ x.op=13:=by omega
 have m14:¬ x.op=14:=by omega
 have m15:¬ x.op=15:=by omega
 have m16:¬ x.op=16:=by omega
 obtain ⟨tv,htv⟩:∃ tv,Value.slice av n c=tv:=⟨_,rfl⟩
 rw [htv] at CS ⊢;have pA0:AtL (zAJ w x tv) w.heap.size (zAD x tv):=(AtL.new0 w _ _).alloc _;have pO0:AtL (zAJ w x tv) (w.heap.size+1) (zAD (zAE 0) zAG):=AtL.new1 w _ _ _;have hth:World.there (zAJ w x tv) (w.heap.size+1) 0 (zAD (zAE (x.op)) zAG).toArray.size:=pO0.there;have hne:w.heap.size+1 ≠ w.heap.size:=by omega
 have pA:=pA0.farAll hne 0 (zAD (zAE (x.op)) zAG);have pO:AtL ((zAJ w x tv).setCells (w.heap.size+1) 0 (zAD (zAE (x.op)) zAG)) (w.heap.size+1) (zAD (zAE (x.op)) zAG):=pO0.setAll rfl;have hBa:Below w.heap.size w ((zAJ w x tv).setCells (w.heap.size+1) 0 (zAD (zAE (x.op)) zAG)):=zAa (zAK (zAK (Below.refl _ w) _) _) (Nat.le_succ _) _ 0;clear pA0 pO0;have n0:(zAD x tv)[0]? = some (.int .i64 (x.op)):=rfl;have a0:World.cell? ((zAJ w x tv).setCells (w.heap.size+1) 0 (zAD (zAE (x.op)) zAG)) ⟨w.heap.size,0,none⟩=some (.int .i64 (x.op)):=pA.2.1 0 _ n0;show Calls _ _ #[.agg (zAD x tv).toArray] _ _
 have hS:zLQ w.heap.size (w.heap.size+1) x tv ((zAJ w x tv).setCells (w.heap.size+1) 0 (zAD (zAE (x.op)) zAG)):=zC6 pA pO;clear hz hl htv;go_enter func61,ntmps61;go_upto_region 1 with fail
 go_upto_region 2 with ((with_reducible refine wpList_store_mid ?_ 56 (.tmp 3) (.tmp 7) ?_ (w.heap.size+1) 0 (zAD (zAE (x.op)) zAG).toArray ?_ ?_ ?_ ?_ ?_ ?_);rfl;rfl;rfl;rfl;exact hth;kernel_rfl;exact zAZ _ _ _ _)
 generalize (zAJ w x tv).setCells (w.heap.size+1) 0 (zAD (zAE (x.op)) zAG)=W0 at *;clear hth;go_upto_region 33 with fail
 have pA1:=pA;have pO1:=pO;have hB1:=hBa;clear pA pO hBa hS a0;have rA:=pA1.range;have rO:=pO1.range;have hB2:=hB1;clear pA1 pO1 hB1;go_wp2_with (first | ((with_reducible refine zAA ?_ 56 (.tmp 1) ?_ w.heap.size 0 ?_ (zAD x tv) _ ?_ underlying56 ?_ ?_ ?_);rfl;rfl;rfl;exact rA;rfl;kernel_rfl) | ((with_reducible refine zAA ?_ 56 (.tmp 3) ?_ (w.heap.size+1) 0 ?_ (zAD ⟨x.op,0,0,v0I,c0I,a0I,a0I⟩ zAG) _ ?_ underlying56 ?_ ?_ ?_);rfl;rfl;rfl;exact rO;rfl;kernel_rfl) | (go_at_call 97;refine (CS _ hB2).mono ?_;rintro e w3 ⟨rfl,hb3⟩;have hB3:=zAB hB2 hb3))
 go_wp2;go_ret;first
 | exact ⟨by simp,hB2⟩
 | exact ⟨by simp,hB3⟩
