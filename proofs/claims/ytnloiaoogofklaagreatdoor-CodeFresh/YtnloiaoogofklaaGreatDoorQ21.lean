/- KWalkV. -/
import Derived.Test.YtnloiaoogofklaaGreatDoorQ20
set_option maxHeartbeats 4000000
set_option maxRecDepth 100000
namespace Go.Proofs.YtnloiaoogofklaaGreatDoor
open Tryz
open Go.RowKit
set_option linter.unusedVariables false
variable {ka kb:Nat} {x y:Wc.In} {tv tu:Value} {W:World}
abbrev zOe (ka kb:Nat) (x:Wc.In) (tv:Value) (W:World):Prop :=
 W.cell? ⟨ka,1,none⟩=some (.int .i64 x.a)/\W.frozen? ⟨kb,1,none⟩=false
theorem zDc (h0:AtL W ka (zAD x tv)) (h1:AtL W kb (zAD y tu)):zOe ka kb x tv W :=
 ⟨h0.2.1 1 _ rfl,h1.2.2 1 (by show 1<23;decide)⟩
theorem zLB (x:Wc.In) (av:Option Addr) (n c:Nat) (tl:List Int) (w:World) (hk:x.op=7) (hz:RdZ w (.slice av n c) tl) (hl:tl.length<=1000000) :
  CR 50 #[inV x (.slice av n c)] w (.bool (true && (smI x ⟨7,0,0,v0I,c0I,a0I,a0I⟩ && decide (tl=[])))):=by
 have CS:∀ w',Below w.heap.size w w'->Calls prog 74 #[.agg (zAD x (.slice av n c)).toArray,.agg (zAD ⟨7,0,0,v0I,c0I,a0I,a0I⟩ zAH).toArray] w' λe w''=>e=.returned (.bool (smI x ⟨7,0,0,v0I,c0I,a0I,a0I⟩ && decide (tl=[])))/\Below w'.heap.size w' w'':=λw' hb=>zA5 x ⟨7,0,0,v0I,c0I,a0I,a0I⟩ _ _ tl [] w' (hz.below hb) (RdZ.nil _) hl (by first | exact hl | simp)
 generalize (smI x ⟨7,0,0,v0I,c0I,a0I,a0I⟩ && decide (tl=[]))=R at *;obtain ⟨tv,htv⟩:∃ tv,Value.slice av n c=tv:=⟨_,rfl⟩
 rw [htv] at CS ⊢;have pA0:AtL (zAX w x tv) w.heap.size (zAD x tv):=(AtL.new0 w _ _).alloc _;have pO0:AtL (zAX w x tv) (w.heap.size+1) (zAD (zAG 0) zAH):=AtL.new1 w _ _ _;have hth:World.there (zAX w x tv) (w.heap.size+1) 0 (zAD (zAG 7) zAH).toArray.size:=pO0.there;have hne:w.heap.size+1 ≠ w.heap.size:=by omega
 have pA:=pA0.farAll hne 0 (zAD (zAG 7) zAH);have pO:AtL ((zAX w x tv).setCells (w.heap.size+1) 0 (zAD (zAG 7) zAH)) (w.heap.size+1) (zAD (zAG 7) zAH):=pO0.setAll rfl;have hBa:Below w.heap.size w ((zAX w x tv).setCells (w.heap.size+1) 0 (zAD (zAG 7) zAH)):=zAs (zAL (zAL (Below.refl _ w) _) _) (Nat.le_succ _) _ 0;clear pA0 pO0;have n0:(zAD x tv)[0]? = some (.int .i64 7):=by rw [<-hk];rfl
 have a0:World.cell? ((zAX w x tv).setCells (w.heap.size+1) 0 (zAD (zAG 7) zAH)) ⟨w.heap.size,0,none⟩=some (.int .i64 7):=pA.2.1 0 _ n0;show Calls _ _ #[.agg (zAD x tv).toArray] _ _
 have hS:zOe w.heap.size (w.heap.size+1) x tv ((zAX w x tv).setCells (w.heap.size+1) 0 (zAD (zAG 7) zAH)):=zDc pA pO;clear hz hl htv;go_enter func50,ntmps50;go_upto_region 1 with fail
 go_upto_region 2 with ((with_reducible refine wpList_store_mid ?_ 48 (.tmp 3) (.tmp 7) ?_ (w.heap.size+1) 0 (zAD (zAG 7) zAH).toArray ?_ ?_ ?_ ?_ ?_ ?_);rfl;rfl;rfl;rfl;exact hth;kernel_rfl;exact zAf _ _ _ _)
 generalize (zAX w x tv).setCells (w.heap.size+1) 0 (zAD (zAG 7) zAH)=W0 at *;clear hth;go_upto_region 33 with fail
 have pA1:=pA;have pO1:=pO;have hB1:=hBa;clear pA pO hBa hS a0;have rA:=pA1.range;have rO:=pO1.range;have hB2:=hB1;clear pA1 pO1 hB1;go_wp2_with (first | ((with_reducible refine zAA ?_ 48 (.tmp 1) ?_ w.heap.size 0 ?_ (zAD x tv) _ ?_ underlying48 ?_ ?_ ?_);rfl;rfl;rfl;exact rA;rfl;kernel_rfl) | ((with_reducible refine zAA ?_ 48 (.tmp 3) ?_ (w.heap.size+1) 0 ?_ (zAD ⟨7,0,0,v0I,c0I,a0I,a0I⟩ zAH) _ ?_ underlying48 ?_ ?_ ?_);rfl;rfl;rfl;exact rO;rfl;kernel_rfl) | (go_at_call 74;refine (CS _ hB2).mono ?_;rintro e w3 ⟨rfl,hb3⟩;have hB3:=zAB hB2 hb3))
 go_wp2;go_ret;first
 | exact ⟨by simp,hB2⟩
 | exact ⟨by simp,hB3⟩
theorem zIh (x:Wc.In) (av:Option Addr) (n c:Nat) (tl:List Int) (w:World) (hk:x.op=10) (hz:RdZ w (.slice av n c) tl) (hl:tl.length<=1000000) :
  CR 50 #[inV x (.slice av n c)] w (.bool (true && (smI x ⟨10,0,0,v0I,c0I,a0I,a0I⟩ && decide (tl=[])))):=by
 have CS:∀ w',Below w.heap.size w w'->Calls prog 74 #[.agg (zAD x (.slice av n c)).toArray,.agg (zAD ⟨10,0,0,v0I,c0I,a0I,a0I⟩ zAH).toArray] w' λe w''=>e=.returned (.bool (smI x ⟨10,0,0,v0I,c0I,a0I,a0I⟩ && decide (tl=[])))/\Below w'.heap.size w' w'':=λw' hb=>zA5 x ⟨10,0,0,v0I,c0I,a0I,a0I⟩ _ _ tl [] w' (hz.below hb) (RdZ.nil _) hl (by first | exact hl | simp)
 generalize (smI x ⟨10,0,0,v0I,c0I,a0I,a0I⟩ && decide (tl=[]))=R at *;obtain ⟨tv,htv⟩:∃ tv,Value.slice av n c=tv:=⟨_,rfl⟩
 rw [htv] at CS ⊢;have pA0:AtL (zAX w x tv) w.heap.size (zAD x tv):=(AtL.new0 w _ _).alloc _;have pO0:AtL (zAX w x tv) (w.heap.size+1) (zAD (zAG 0) zAH):=AtL.new1 w _ _ _;have hth:World.there (zAX w x tv) (w.heap.size+1) 0 (zAD (zAG 10) zAH).toArray.size:=pO0.there;have hne:w.heap.size+1 ≠ w.heap.size:=by omega
 have pA:=pA0.farAll hne 0 (zAD (zAG 10) zAH);have pO:AtL ((zAX w x tv).setCells (w.heap.size+1) 0 (zAD (zAG 10) zAH)) (w.heap.size+1) (zAD (zAG 10) zAH):=pO0.setAll rfl;have hBa:Below w.heap.size w ((zAX w x tv).setCells (w.heap.size+1) 0 (zAD (zAG 10) zAH)):=zAs (zAL (zAL (Below.refl _ w) _) _) (Nat.le_succ _) _ 0;clear pA0 pO0;have n0:(zAD x tv)[0]? = some (.int .i64 10):=by rw [<-hk];rfl
 have a0:World.cell? ((zAX w x tv).setCells (w.heap.size+1) 0 (zAD (zAG 10) zAH)) ⟨w.heap.size,0,none⟩=some (.int .i64 10):=pA.2.1 0 _ n0;show Calls _ _ #[.agg (zAD x tv).toArray] _ _
 have hS:zOe w.heap.size (w.heap.size+1) x tv ((zAX w x tv).setCells (w.heap.size+1) 0 (zAD (zAG 10) zAH)):=zDc pA pO;clear hz hl htv;go_enter func50,ntmps50;go_upto_region 1 with fail
 go_upto_region 2 with ((with_reducible refine wpList_store_mid ?_ 48 (.tmp 3) (.tmp 7) ?_ (w.heap.size+1) 0 (zAD (zAG 10) zAH).toArray ?_ ?_ ?_ ?_ ?_ ?_);rfl;rfl;rfl;rfl;exact hth;kernel_rfl;exact zAf _ _ _ _)
 generalize (zAX w x tv).setCells (w.heap.size+1) 0 (zAD (zAG 10) zAH)=W0 at *;clear hth;go_upto_region 33 with fail
 have pA1:=pA;have pO1:=pO;have hB1:=hBa;clear pA pO hBa hS a0;have rA:=pA1.range;have rO:=pO1.range;have hB2:=hB1;clear pA1 pO1 hB1;go_wp2_with (first | ((with_reducible refine zAA ?_ 48 (.tmp 1) ?_ w.heap.size 0 ?_ (zAD x tv) _ ?_ underlying48 ?_ ?_ ?_);rfl;rfl;rfl;exact rA;rfl;kernel_rfl) | ((with_reducible refine zAA ?_ 48 (.tmp 3) ?_ (w.heap.size+1) 0 ?_ (zAD ⟨10,0,0,v0I,c0I,a0I,a0I⟩ zAH) _ ?_ underlying48 ?_ ?_ ?_);rfl;rfl;rfl;exact rO;rfl;kernel_rfl) | (go_at_call 74;refine (CS _ hB2).mono ?_;rintro e w3 ⟨rfl,hb3⟩;have hB3:=zAB hB2 hb3))
 go_wp2;go_ret;first
 | exact ⟨by simp,hB2⟩
 | exact ⟨by simp,hB3⟩
theorem zHk (x:Wc.In) (av:Option Addr) (n c:Nat) (tl:List Int) (w:World) (hk:x.op=16) (hz:RdZ w (.slice av n c) tl) (hl:tl.length<=1000000) :
  CR 50 #[inV x (.slice av n c)] w (.bool (true && (smI x ⟨16,0,0,v0I,c0I,a0I,a0I⟩ && decide (tl=[])))):=by
 have CS:∀ w',Below w.heap.size w w'->Calls prog 74 #[.agg (zAD x (.slice av n c)).toArray,.agg (zAD ⟨16,0,0,v0I,c0I,a0I,a0I⟩ zAH).toArray] w' λe w''=>e=.returned (.bool (smI x ⟨16,0,0,v0I,c0I,a0I,a0I⟩ && decide (tl=[])))/\Below w'.heap.size w' w'':=λw' hb=>zA5 x ⟨16,0,0,v0I,c0I,a0I,a0I⟩ _ _ tl [] w' (hz.below hb) (RdZ.nil _) hl (by first | exact hl | simp)
 generalize (smI x ⟨16,0,0,v0I,c0I,a0I,a0I⟩ && decide (tl=[]))=R at *;obtain ⟨tv,htv⟩:∃ tv,Value.slice av n c=tv:=⟨_,rfl⟩
 rw [htv] at CS ⊢;have pA0:AtL (zAX w x tv) w.heap.size (zAD x tv):=(AtL.new0 w _ _).alloc _;have pO0:AtL (zAX w x tv) (w.heap.size+1) (zAD (zAG 0) zAH):=AtL.new1 w _ _ _;have hth:World.there (zAX w x tv) (w.heap.size+1) 0 (zAD (zAG 16) zAH).toArray.size:=pO0.there;have hne:w.heap.size+1 ≠ w.heap.size:=by omega
 have pA:=pA0.farAll hne 0 (zAD (zAG 16) zAH);have pO:AtL ((zAX w x tv).setCells (w.heap.size+1) 0 (zAD (zAG 16) zAH)) (w.heap.size+1) (zAD (zAG 16) zAH):=pO0.setAll rfl;have hBa:Below w.heap.size w ((zAX w x tv).setCells (w.heap.size+1) 0 (zAD (zAG 16) zAH)):=zAs (zAL (zAL (Below.refl _ w) _) _) (Nat.le_succ _) _ 0;clear pA0 pO0;have n0:(zAD x tv)[0]? = some (.int .i64 16):=by rw [<-hk];rfl
 have a0:World.cell? ((zAX w x tv).setCells (w.heap.size+1) 0 (zAD (zAG 16) zAH)) ⟨w.heap.size,0,none⟩=some (.int .i64 16):=pA.2.1 0 _ n0;show Calls _ _ #[.agg (zAD x tv).toArray] _ _
 have hS:zOe w.heap.size (w.heap.size+1) x tv ((zAX w x tv).setCells (w.heap.size+1) 0 (zAD (zAG 16) zAH)):=zDc pA pO;clear hz hl htv;go_enter func50,ntmps50;go_upto_region 1 with fail
 go_upto_region 2 with ((with_reducible refine wpList_store_mid ?_ 48 (.tmp 3) (.tmp 7) ?_ (w.heap.size+1) 0 (zAD (zAG 16) zAH).toArray ?_ ?_ ?_ ?_ ?_ ?_);rfl;rfl;rfl;rfl;exact hth;kernel_rfl;exact zAf _ _ _ _)
 generalize (zAX w x tv).setCells (w.heap.size+1) 0 (zAD (zAG 16) zAH)=W0 at *;clear hth;go_upto_region 33 with fail
 have pA1:=pA;have pO1:=pO;have hB1:=hBa;clear pA pO hBa hS a0;have rA:=pA1.range;have rO:=pO1.range;have hB2:=hB1;clear pA1 pO1 hB1;go_wp2_with (first | ((with_reducible refine zAA ?_ 48 (.tmp 1) ?_ w.heap.size 0 ?_ (zAD x tv) _ ?_ underlying48 ?_ ?_ ?_);rfl;rfl;rfl;exact rA;rfl;kernel_rfl) | ((with_reducible refine zAA ?_ 48 (.tmp 3) ?_ (w.heap.size+1) 0 ?_ (zAD ⟨16,0,0,v0I,c0I,a0I,a0I⟩ zAH) _ ?_ underlying48 ?_ ?_ ?_);rfl;rfl;rfl;exact rO;rfl;kernel_rfl) | (go_at_call 74;refine (CS _ hB2).mono ?_;rintro e w3 ⟨rfl,hb3⟩;have hB3:=zAB hB2 hb3))
 go_wp2;go_ret;first
 | exact ⟨by simp,hB2⟩
 | exact ⟨by simp,hB3⟩
abbrev zMi (ka kb:Nat) (x:Wc.In) (tv:Value) (W:World):Prop :=
 W.cell? ⟨ka,1,none⟩=some (.int .i64 x.a)/\W.frozen? ⟨kb,1,none⟩=false
theorem zGE (h0:AtL W ka (zAD x tv)) (h1:AtL W kb (zAD y tu)):zMi ka kb x tv W :=
 ⟨h0.2.1 1 _ rfl,h1.2.2 1 (by show 1<23;decide)⟩
theorem zIe (x:Wc.In) (av:Option Addr) (n c:Nat) (tl:List Int) (w:World) (hk:x.op=13) (hz:RdZ w (.slice av n c) tl) (hl:tl.length<=1000000) :
  CR 50 #[inV x (.slice av n c)] w (.bool (true && (smI x ⟨13,x.a,0,v0I,c0I,a0I,a0I⟩ && decide (tl=[])))):=by
 have CS:∀ w',Below w.heap.size w w'->Calls prog 74 #[.agg (zAD x (.slice av n c)).toArray,.agg (zAD ⟨13,x.a,0,v0I,c0I,a0I,a0I⟩ zAH).toArray] w' λe w''=>e=.returned (.bool (smI x ⟨13,x.a,0,v0I,c0I,a0I,a0I⟩ && decide (tl=[])))/\Below w'.heap.size w' w'':=λw' hb=>zA5 x ⟨13,x.a,0,v0I,c0I,a0I,a0I⟩ _ _ tl [] w' (hz.below hb) (RdZ.nil _) hl (by first | exact hl | simp)
 generalize (smI x ⟨13,x.a,0,v0I,c0I,a0I,a0I⟩ && decide (tl=[]))=R at *;obtain ⟨tv,htv⟩:∃ tv,Value.slice av n c=tv:=⟨_,rfl⟩
 rw [htv] at CS ⊢;have pA0:AtL (zAX w x tv) w.heap.size (zAD x tv):=(AtL.new0 w _ _).alloc _;have pO0:AtL (zAX w x tv) (w.heap.size+1) (zAD (zAG 0) zAH):=AtL.new1 w _ _ _;have hth:World.there (zAX w x tv) (w.heap.size+1) 0 (zAD (zAG 13) zAH).toArray.size:=pO0.there;have hne:w.heap.size+1 ≠ w.heap.size:=by omega
 have pA:=pA0.farAll hne 0 (zAD (zAG 13) zAH);have pO:AtL ((zAX w x tv).setCells (w.heap.size+1) 0 (zAD (zAG 13) zAH)) (w.heap.size+1) (zAD (zAG 13) zAH):=pO0.setAll rfl;have hBa:Below w.heap.size w ((zAX w x tv).setCells (w.heap.size+1) 0 (zAD (zAG 13) zAH)):=zAs (zAL (zAL (Below.refl _ w) _) _) (Nat.le_succ _) _ 0;clear pA0 pO0;have n0:(zAD x tv)[0]? = some (.int .i64 13):=by rw [<-hk];rfl
 have a0:World.cell? ((zAX w x tv).setCells (w.heap.size+1) 0 (zAD (zAG 13) zAH)) ⟨w.heap.size,0,none⟩=some (.int .i64 13):=pA.2.1 0 _ n0;show Calls _ _ #[.agg (zAD x tv).toArray] _ _
 have hS:zMi w.heap.size (w.heap.size+1) x tv ((zAX w x tv).setCells (w.heap.size+1) 0 (zAD (zAG 13) zAH)):=zGE pA pO;clear hz hl htv;go_enter func50,ntmps50;go_upto_region 1 with fail
 go_upto_region 2 with ((with_reducible refine wpList_store_mid ?_ 48 (.tmp 3) (.tmp 7) ?_ (w.heap.size+1) 0 (zAD (zAG 13) zAH).toArray ?_ ?_ ?_ ?_ ?_ ?_);rfl;rfl;rfl;rfl;exact hth;kernel_rfl;exact zAf _ _ _ _)
 generalize (zAX w x tv).setCells (w.heap.size+1) 0 (zAD (zAG 13) zAH)=W0 at *;clear hth;have a1:=pA.2.1 1 _ rfl;have o1:=pO.2.1 1 _ rfl;have f1:=pO.2.2 1 (by show 1<23;decide);go_upto_region 33 with fail
 have pA1:AtL (W0.setCell ⟨w.heap.size+1,1,none⟩ (.int .i64 x.a)) w.heap.size (zAD x tv):=pA.far hne 1 (.int .i64 x.a);have pO1:AtL (W0.setCell ⟨w.heap.size+1,1,none⟩ (.int .i64 x.a)) (w.heap.size+1) (zAD ⟨13,x.a,0,v0I,c0I,a0I,a0I⟩ zAH):=pO.set 1 (.int .i64 x.a);have hB1:Below w.heap.size w (W0.setCell ⟨w.heap.size+1,1,none⟩ (.int .i64 x.a)):=(clB hBa)
 clear pA pO hBa hS a0 a1 o1 f1;generalize (W0.setCell ⟨w.heap.size+1,1,none⟩ (.int .i64 x.a))=W2 at *;have rA:=pA1.range;have rO:=pO1.range;have hB2:=hB1;clear pA1 pO1 hB1;go_wp2_with (first | ((with_reducible refine zAA ?_ 48 (.tmp 1) ?_ w.heap.size 0 ?_ (zAD x tv) _ ?_ underlying48 ?_ ?_ ?_);rfl;rfl;rfl;exact rA;rfl;kernel_rfl) | ((with_reducible refine zAA ?_ 48 (.tmp 3) ?_ (w.heap.size+1) 0 ?_ (zAD ⟨13,x.a,0,v0I,c0I,a0I,a0I⟩ zAH) _ ?_ underlying48 ?_ ?_ ?_);rfl;rfl;rfl;exact rO;rfl;kernel_rfl) | (go_at_call 74;refine (CS _ hB2).mono ?_;rintro e w3 ⟨rfl,hb3⟩;have hB3:=zAB hB2 hb3))
 go_wp2;go_ret;first
 | exact ⟨by simp,hB2⟩
 | exact ⟨by simp,hB3⟩
theorem zIz (x:Wc.In) (av:Option Addr) (n c:Nat) (tl:List Int) (w:World) (hk:x.op=14) (hz:RdZ w (.slice av n c) tl) (hl:tl.length<=1000000) :
  CR 50 #[inV x (.slice av n c)] w (.bool (true && (smI x ⟨14,x.a,0,v0I,c0I,a0I,a0I⟩ && decide (tl=[])))):=by
 have CS:∀ w',Below w.heap.size w w'->Calls prog 74 #[.agg (zAD x (.slice av n c)).toArray,.agg (zAD ⟨14,x.a,0,v0I,c0I,a0I,a0I⟩ zAH).toArray] w' λe w''=>e=.returned (.bool (smI x ⟨14,x.a,0,v0I,c0I,a0I,a0I⟩ && decide (tl=[])))/\Below w'.heap.size w' w'':=λw' hb=>zA5 x ⟨14,x.a,0,v0I,c0I,a0I,a0I⟩ _ _ tl [] w' (hz.below hb) (RdZ.nil _) hl (by first | exact hl | simp)
 generalize (smI x ⟨14,x.a,0,v0I,c0I,a0I,a0I⟩ && decide (tl=[]))=R at *;obtain ⟨tv,htv⟩:∃ tv,Value.slice av n c=tv:=⟨_,rfl⟩
 rw [htv] at CS ⊢;have pA0:AtL (zAX w x tv) w.heap.size (zAD x tv):=(AtL.new0 w _ _).alloc _;have pO0:AtL (zAX w x tv) (w.heap.size+1) (zAD (zAG 0) zAH):=AtL.new1 w _ _ _;have hth:World.there (zAX w x tv) (w.heap.size+1) 0 (zAD (zAG 14) zAH).toArray.size:=pO0.there;have hne:w.heap.size+1 ≠ w.heap.size:=by omega
 have pA:=pA0.farAll hne 0 (zAD (zAG 14) zAH);have pO:AtL ((zAX w x tv).setCells (w.heap.size+1) 0 (zAD (zAG 14) zAH)) (w.heap.size+1) (zAD (zAG 14) zAH):=pO0.setAll rfl;have hBa:Below w.heap.size w ((zAX w x tv).setCells (w.heap.size+1) 0 (zAD (zAG 14) zAH)):=zAs (zAL (zAL (Below.refl _ w) _) _) (Nat.le_succ _) _ 0;clear pA0 pO0;have n0:(zAD x tv)[0]? = some (.int .i64 14):=by rw [<-hk];rfl
 have a0:World.cell? ((zAX w x tv).setCells (w.heap.size+1) 0 (zAD (zAG 14) zAH)) ⟨w.heap.size,0,none⟩=some (.int .i64 14):=pA.2.1 0 _ n0;show Calls _ _ #[.agg (zAD x tv).toArray] _ _
 have hS:zMi w.heap.size (w.heap.size+1) x tv ((zAX w x tv).setCells (w.heap.size+1) 0 (zAD (zAG 14) zAH)):=zGE pA pO;clear hz hl htv;go_enter func50,ntmps50;go_upto_region 1 with fail
 go_upto_region 2 with ((with_reducible refine wpList_store_mid ?_ 48 (.tmp 3) (.tmp 7) ?_ (w.heap.size+1) 0 (zAD (zAG 14) zAH).toArray ?_ ?_ ?_ ?_ ?_ ?_);rfl;rfl;rfl;rfl;exact hth;kernel_rfl;exact zAf _ _ _ _)
 generalize (zAX w x tv).setCells (w.heap.size+1) 0 (zAD (zAG 14) zAH)=W0 at *;clear hth;have a1:=pA.2.1 1 _ rfl;have o1:=pO.2.1 1 _ rfl;have f1:=pO.2.2 1 (by show 1<23;decide);go_upto_region 33 with fail
 have pA1:AtL (W0.setCell ⟨w.heap.size+1,1,none⟩ (.int .i64 x.a)) w.heap.size (zAD x tv):=pA.far hne 1 (.int .i64 x.a);have pO1:AtL (W0.setCell ⟨w.heap.size+1,1,none⟩ (.int .i64 x.a)) (w.heap.size+1) (zAD ⟨14,x.a,0,v0I,c0I,a0I,a0I⟩ zAH):=pO.set 1 (.int .i64 x.a);have hB1:Below w.heap.size w (W0.setCell ⟨w.heap.size+1,1,none⟩ (.int .i64 x.a)):=(clB hBa)
 clear pA pO hBa hS a0 a1 o1 f1;generalize (W0.setCell ⟨w.heap.size+1,1,none⟩ (.int .i64 x.a))=W2 at *;have rA:=pA1.range;have rO:=pO1.range;have hB2:=hB1;clear pA1 pO1 hB1;go_wp2_with (first | ((with_reducible refine zAA ?_ 48 (.tmp 1) ?_ w.heap.size 0 ?_ (zAD x tv) _ ?_ underlying48 ?_ ?_ ?_);rfl;rfl;rfl;exact rA;rfl;kernel_rfl) | ((with_reducible refine zAA ?_ 48 (.tmp 3) ?_ (w.heap.size+1) 0 ?_ (zAD ⟨14,x.a,0,v0I,c0I,a0I,a0I⟩ zAH) _ ?_ underlying48 ?_ ?_ ?_);rfl;rfl;rfl;exact rO;rfl;kernel_rfl) | (go_at_call 74;refine (CS _ hB2).mono ?_;rintro e w3 ⟨rfl,hb3⟩;have hB3:=zAB hB2 hb3))
 go_wp2;go_ret;first
 | exact ⟨by simp,hB2⟩
 | exact ⟨by simp,hB3⟩
theorem zJz (x:Wc.In) (av:Option Addr) (n c:Nat) (tl:List Int) (w:World) (hz:RdZ w (.slice av n c) tl) (hl:tl.length<=1000000) (ho:x.op<1 \/ 16<x.op) :
  CR 50 #[inV x (.slice av n c)] w (.bool (false && (smI x ⟨x.op,0,0,v0I,c0I,a0I,a0I⟩ && decide (tl=[])))):=by
 have CS:∀ w',Below w.heap.size w w'->Calls prog 74 #[.agg (zAD x (.slice av n c)).toArray,.agg (zAD ⟨x.op,0,0,v0I,c0I,a0I,a0I⟩ zAH).toArray] w' λe w''=>e=.returned (.bool (smI x ⟨x.op,0,0,v0I,c0I,a0I,a0I⟩ && decide (tl=[])))/\Below w'.heap.size w' w'':=λw' hb=>zA5 x ⟨x.op,0,0,v0I,c0I,a0I,a0I⟩ _ _ tl [] w' (hz.below hb) (RdZ.nil _) hl (by first | exact hl | simp)
 generalize (smI x ⟨x.op,0,0,v0I,c0I,a0I,a0I⟩ && decide (tl=[]))=R at *;have m1:¬ x.op=1:=by omega
 have m2:¬ x.op=2:=by omega
 have m3:¬ x.op=3:=by omega
 have m4:¬ x.op=4:=by omega
 have m5:¬ x.op=5:=by omega
 have m6:¬ x.op=6:=by omega
 have m7:¬ x.op=7:=by omega
 have m8:¬ x.op=8:=by omega
 have m9:¬ x.op=9:=by omega
 have m10:¬ x.op=10:=by omega
 have m11:¬ x.op=11:=by omega
 have m12:¬ x.op=12:=by omega
 have m13:¬ x.op=13:=by omega
 have m14:¬ x.op=14:=by omega
 have m15:¬ x.op=15:=by omega
 have m16:¬ x.op=16:=by omega
 obtain ⟨tv,htv⟩:∃ tv,Value.slice av n c=tv:=⟨_,rfl⟩
 rw [htv] at CS ⊢;have pA0:AtL (zAX w x tv) w.heap.size (zAD x tv):=(AtL.new0 w _ _).alloc _;have pO0:AtL (zAX w x tv) (w.heap.size+1) (zAD (zAG 0) zAH):=AtL.new1 w _ _ _;have hth:World.there (zAX w x tv) (w.heap.size+1) 0 (zAD (zAG (x.op)) zAH).toArray.size:=pO0.there;have hne:w.heap.size+1 ≠ w.heap.size:=by omega
 have pA:=pA0.farAll hne 0 (zAD (zAG (x.op)) zAH);have pO:AtL ((zAX w x tv).setCells (w.heap.size+1) 0 (zAD (zAG (x.op)) zAH)) (w.heap.size+1) (zAD (zAG (x.op)) zAH):=pO0.setAll rfl;have hBa:Below w.heap.size w ((zAX w x tv).setCells (w.heap.size+1) 0 (zAD (zAG (x.op)) zAH)):=zAs (zAL (zAL (Below.refl _ w) _) _) (Nat.le_succ _) _ 0;clear pA0 pO0;have n0:(zAD x tv)[0]? = some (.int .i64 (x.op)):=rfl;have a0:World.cell? ((zAX w x tv).setCells (w.heap.size+1) 0 (zAD (zAG (x.op)) zAH)) ⟨w.heap.size,0,none⟩=some (.int .i64 (x.op)):=pA.2.1 0 _ n0;show Calls _ _ #[.agg (zAD x tv).toArray] _ _
 have hS:zOe w.heap.size (w.heap.size+1) x tv ((zAX w x tv).setCells (w.heap.size+1) 0 (zAD (zAG (x.op)) zAH)):=zDc pA pO;clear hz hl htv;go_enter func50,ntmps50;go_upto_region 1 with fail
 go_upto_region 2 with ((with_reducible refine wpList_store_mid ?_ 48 (.tmp 3) (.tmp 7) ?_ (w.heap.size+1) 0 (zAD (zAG (x.op)) zAH).toArray ?_ ?_ ?_ ?_ ?_ ?_);rfl;rfl;rfl;rfl;exact hth;kernel_rfl;exact zAf _ _ _ _)
 generalize (zAX w x tv).setCells (w.heap.size+1) 0 (zAD (zAG (x.op)) zAH)=W0 at *;clear hth;go_upto_region 33 with fail
 have pA1:=pA;have pO1:=pO;have hB1:=hBa;clear pA pO hBa hS a0;have rA:=pA1.range;have rO:=pO1.range;have hB2:=hB1;clear pA1 pO1 hB1;go_wp2_with (first | ((with_reducible refine zAA ?_ 48 (.tmp 1) ?_ w.heap.size 0 ?_ (zAD x tv) _ ?_ underlying48 ?_ ?_ ?_);rfl;rfl;rfl;exact rA;rfl;kernel_rfl) | ((with_reducible refine zAA ?_ 48 (.tmp 3) ?_ (w.heap.size+1) 0 ?_ (zAD ⟨x.op,0,0,v0I,c0I,a0I,a0I⟩ zAH) _ ?_ underlying48 ?_ ?_ ?_);rfl;rfl;rfl;exact rO;rfl;kernel_rfl) | (go_at_call 74;refine (CS _ hB2).mono ?_;rintro e w3 ⟨rfl,hb3⟩;have hB3:=zAB hB2 hb3))
 go_wp2;go_ret;first
 | exact ⟨by simp,hB2⟩
 | exact ⟨by simp,hB3⟩
