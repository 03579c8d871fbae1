/- Lemmas. -/
import Derived.Test.YtefkclbaflkheaaGreatDoorQ13
set_option maxHeartbeats 4000000
set_option maxRecDepth 100000
namespace Go.Proofs.YtefkclbaflkheaaGreatDoor
open Tryz
open Go.RowKit
set_option linter.unusedVariables false
variable {ka kb:Nat} {x y:Wc.In} {tv tu:Value} {W:World}
theorem zMp (id:Int) (vl:List Value) (q:Bool) (w:World) (BG:∀ w,CR 164 #[.int .i64 id] w (.agg vl.toArray))
  (ST:∀ w,Calls prog 163 #[.agg vl.toArray] w λe w'=>(∃ v,e=.returned (.tuple #[v,.bool q]))/\Below w.heap.size w w') :
  Calls prog 137 #[.int .i64 id] w λe w'=>(∃ v,e=.returned (.tuple #[v,.int .i64 (if q=true then 0 else 1)]))/\Below w.heap.size w w':=by
 go_enter func137,ntmps137;go_wp2_with fail
 refine (BG _).mono ?_;rintro e w1 ⟨rfl,hb1⟩;go_wp2_with fail
 refine (ST _).mono ?_;rintro e w2 ⟨⟨v,rfl⟩,hb2⟩;have hB:=zAB hb1 hb2;clear hb1 hb2 BG ST;cases q
 ·go_wp2;go_ret2
  exact ⟨⟨_,rfl⟩,hB⟩
 ·go_wp2;go_ret2
  exact ⟨⟨_,rfl⟩,hB⟩
theorem zOe {id:Int} (h:fld id=false):∀ p ∈ kT,p.1 ≠ id:=by
 intro p hp e;unfold fld at h;rw [decide_eq_false_iff_not] at h;apply h
 simp only [kT,List.mem_cons,List.not_mem_nil,or_false] at hp;rcases hp with rfl | rfl | rfl | rfl | rfl | rfl | rfl | rfl | rfl | rfl | rfl | rfl | rfl | rfl | rfl | rfl | rfl | rfl | rfl | rfl <;> simp only at e <;> omega
theorem zHL (id:Int):∃ n k,∀ w:World,CR 164 #[.int .i64 id] w (.agg (zAE id n k).toArray):=by
 by_cases h2:id=2
 ·rw [h2];exact ⟨1,0,zNN⟩
 ·by_cases h11:id=11
  ·rw [h11];exact ⟨0,2,zLX⟩
  ·exact ⟨0,0,λw=>zMe id w h2 h11⟩
theorem zIA (id n k:Int) (w:World):Calls prog 163 #[.agg (zAE id n k).toArray] w λe w'=>(∃ v,e=.returned (.tuple #[v,.bool (fld id)]))/\Below w.heap.size w w':=by
 cases h:fld id with
 | false=>exact zKh id n k w (zOe h)
 | true =>
  have hc:id=1 \/ id=2 \/ id=3 \/ id=4 \/ id=5 \/ id=6 \/ id=7 \/ id=8 \/ id=9 \/ id=10 \/ id=11 \/ id=12 \/ id=13 \/ id=14 \/ id=15 \/ id=20 \/ id=21 \/ id=22 \/ id=23 \/ id=24:=by
   unfold fld at h;rw [decide_eq_true_eq] at h;omega
  rcases hc with rfl | rfl | rfl | rfl | rfl | rfl | rfl | rfl | rfl | rfl | rfl | rfl | rfl | rfl | rfl | rfl | rfl | rfl | rfl | rfl
  ·exact zN2 n k w
  ·exact zMW n k w
  ·exact zMN n k w
  ·exact zMx n k w
  ·exact zNK n k w
  ·exact zMB n k w
  ·exact zMr n k w
  ·exact zMl n k w
  ·exact zMK n k w
  ·exact zK2 n k w
  ·exact zLN n k w
  ·exact zK9 n k w
  ·exact zK8 n k w
  ·exact zLP n k w
  ·exact zKv n k w
  ·exact zKC n k w
  ·exact zKk n k w
  ·exact zJr n k w
  ·exact zKH n k w
  ·exact zJ4 n k w
theorem zHr (id:Int) (w:World):CR 94 #[.int .i64 id] w (.bool (fld id)):=by
 obtain ⟨n,k,BG⟩:=zHL id;have FO:=zMp id (zAE id n k) (fld id) w BG (zIA id n k);generalize fld id=q at *;clear BG;go_enter func94,ntmps94;go_wp2_with fail
 refine FO.mono ?_;rintro e w1 ⟨⟨v,rfl⟩,hb1⟩;cases q
 ·go_wp2;go_ret;exact ⟨by simp,hb1⟩
 ·go_wp2;go_ret;exact ⟨by simp,hb1⟩
abbrev zO2 (ka kb:Nat) (x:Wc.In) (tv:Value) (W:World):Prop :=
 W.cell? ⟨ka,1,none⟩=some (.int .i64 x.a)/\W.frozen? ⟨kb,1,none⟩=false
theorem zEf (h0:AtL W ka (zAD x tv)) (h1:AtL W kb (zAD y tu)):zO2 ka kb x tv W :=
 ⟨h0.2.1 1 _ rfl,h1.2.2 1 (by show 1<23;decide)⟩
theorem zKQ (h:zO2 ka kb x tv W) (hne:kb ≠ ka) (j:Nat) (u:Value):zO2 ka kb x tv (W.setCell ⟨kb,j,none⟩ u):=by
 obtain ⟨h1,g1⟩:=h;refine ⟨?_,?_⟩;any_goals rw [World.cell?_setCell_far _ _ _ _ (by simpa using hne)];assumption
 all_goals rw [World.frozen?_setCell];assumption
theorem zJu (x:Wc.In) (av:Option Addr) (n c:Nat) (tl:List Int) (w:World) (hk:x.op=6) (hz:RdZ w (.slice av n c) tl) (hl:tl.length<=1000000) :
  CR 61 #[inV x (.slice av n c)] w (.bool (fld x.a && (smI x ⟨6,x.a,0,v0I,c0I,a0I,a0I⟩ && decide (tl=[])))):=by
 have C:=(λw=>zHr x.a w:∀ w:World,CR 94 #[.int .i64 x.a] w (.bool (fld x.a)))
 have CS:∀ w',Below w.heap.size w w'->Calls prog 97 #[.agg (zAD x (.slice av n c)).toArray,.agg (zAD ⟨6,x.a,0,v0I,c0I,a0I,a0I⟩ zAH).toArray] w' λe w''=>e=.returned (.bool (smI x ⟨6,x.a,0,v0I,c0I,a0I,a0I⟩ && decide (tl=[])))/\Below w'.heap.size w' w'':=λw' hb=>zA6 x ⟨6,x.a,0,v0I,c0I,a0I,a0I⟩ _ _ tl [] w' (hz.below hb) (RdZ.nil _) hl (by first | exact hl | simp)
 obtain ⟨tv,htv⟩:∃ tv,Value.slice av n c=tv:=⟨_,rfl⟩
 rw [htv] at CS ⊢;generalize (smI x ⟨6,x.a,0,v0I,c0I,a0I,a0I⟩ && decide (tl=[]))=R at *;generalize fld x.a=q at *;have pA0:AtL (zAU w x tv) w.heap.size (zAD x tv):=(AtL.new0 w _ _).alloc _;have pO0:AtL (zAU w x tv) (w.heap.size+1) (zAD (zAI 0) zAH):=AtL.new1 w _ _ _;have hth:World.there (zAU w x tv) (w.heap.size+1) 0 (zAD (zAI 6) zAH).toArray.size:=pO0.there;have hne:w.heap.size+1 ≠ w.heap.size:=by omega
 have pA:=pA0.farAll hne 0 (zAD (zAI 6) zAH);have pO:AtL ((zAU w x tv).setCells (w.heap.size+1) 0 (zAD (zAI 6) zAH)) (w.heap.size+1) (zAD (zAI 6) zAH):=pO0.setAll rfl;have hBa:Below w.heap.size w ((zAU w x tv).setCells (w.heap.size+1) 0 (zAD (zAI 6) zAH)):=zAv (zAM (zAM (Below.refl _ w) _) _) (Nat.le_succ _) _ 0;clear pA0 pO0;have n0:(zAD x tv)[0]? = some (.int .i64 6):=by rw [<-hk];rfl
 have a0:World.cell? ((zAU w x tv).setCells (w.heap.size+1) 0 (zAD (zAI 6) zAH)) ⟨w.heap.size,0,none⟩=some (.int .i64 6):=pA.2.1 0 _ n0;show Calls _ _ #[.agg (zAD x tv).toArray] _ _
 have hS:zO2 w.heap.size (w.heap.size+1) x tv ((zAU w x tv).setCells (w.heap.size+1) 0 (zAD (zAI 6) zAH)):=zEf pA pO;clear hz hl htv;cases q
 all_goals
  go_enter func61,ntmps61;go_upto_region 1 with fail
  go_upto_region 2 with ((with_reducible refine wpList_store_mid ?_ 56 (.tmp 3) (.tmp 7) ?_ (w.heap.size+1) 0 (zAD (zAI 6) zAH).toArray ?_ ?_ ?_ ?_ ?_ ?_);rfl;rfl;rfl;rfl;exact hth;kernel_rfl;exact zAj _ _ _ _)
  generalize (zAU w x tv).setCells (w.heap.size+1) 0 (zAD (zAI 6) zAH)=W0 at *;clear hth;go_upto_region 14 with fail
  go_region_held3 (zO2 w.heap.size (w.heap.size+1) x tv)
   (with_reducible first | exact hS | assumption | exact zEf pA1 pO1 | exact (zKQ (by assumption) (by omega) _ _) | exact zEf (AtL.drew pA) (AtL.drew pO))
   (first | (go_at_call 94;refine (C _).mono ?_;rintro e w1 ⟨rfl,hb⟩;have pA1:=AtL.below hb (AtL.drew pA);have pO1:=AtL.below hb (AtL.drew pO);have o1:=pO1.2.1 1 _ rfl;have hB1:=zAB hBa.drew hb))
  all_goals
   clear pA pO hS C hBa o1 a0;have pA2:AtL (w1.setCell ⟨w.heap.size+1,1,none⟩ (.int .i64 x.a)) w.heap.size (zAD x tv):=(pA1.far hne 1 (.int .i64 x.a))
   have pO2:AtL (w1.setCell ⟨w.heap.size+1,1,none⟩ (.int .i64 x.a)) (w.heap.size+1) (zAD ⟨6,x.a,0,v0I,c0I,a0I,a0I⟩ zAH):=(pO1.set 1 (.int .i64 x.a))
   have hB2:Below w.heap.size w (w1.setCell ⟨w.heap.size+1,1,none⟩ (.int .i64 x.a)):=(clB hB1)
   clear pA1 pO1 hB1;generalize (w1.setCell ⟨w.heap.size+1,1,none⟩ (.int .i64 x.a))=W2 at *;have rA:=pA2.range;have rO:=pO2.range;clear pA2 pO2;go_wp2_with (first | ((with_reducible refine zAA ?_ 56 (.tmp 1) ?_ w.heap.size 0 ?_ (zAD x tv) _ ?_ underlying56 ?_ ?_ ?_);rfl;rfl;rfl;exact rA;rfl;kernel_rfl) | ((with_reducible refine zAA ?_ 56 (.tmp 3) ?_ (w.heap.size+1) 0 ?_ (zAD ⟨6,x.a,0,v0I,c0I,a0I,a0I⟩ zAH) _ ?_ underlying56 ?_ ?_ ?_);rfl;rfl;rfl;exact rO;rfl;kernel_rfl) | (go_at_call 97;refine (CS _ hB2).mono ?_;rintro e w3 ⟨rfl,hb3⟩;have hB3:=zAB hB2 hb3))
   go_wp2;go_ret;first
   | exact ⟨by simp,hB2⟩
   | exact ⟨by simp,hB3⟩
abbrev zNk (ka kb:Nat) (x:Wc.In) (tv:Value) (W:World):Prop :=
 W.cell? ⟨ka,9,none⟩=some (.int .i64 x.ce.s)/\W.cell? ⟨ka,10,none⟩=some (.int .i64 x.ce.r)/\W.cell? ⟨ka,11,none⟩=some (.int .i64 x.ce.c)/\W.frozen? ⟨kb,9,none⟩=false/\W.frozen? ⟨kb,10,none⟩=false/\W.frozen? ⟨kb,11,none⟩=false
theorem zEv (h0:AtL W ka (zAD x tv)) (h1:AtL W kb (zAD y tu)):zNk ka kb x tv W :=
 ⟨h0.2.1 9 _ rfl,h0.2.1 10 _ rfl,h0.2.1 11 _ rfl,h1.2.2 9 (by show 9<23;decide),h1.2.2 10 (by show 10<23;decide),h1.2.2 11 (by show 11<23;decide)⟩
theorem zD0 (h:zNk ka kb x tv W) (hne:kb ≠ ka) (j:Nat) (u:Value):zNk ka kb x tv (W.setCell ⟨kb,j,none⟩ u):=by
 obtain ⟨h9,h10,h11,g9,g10,g11⟩:=h;refine ⟨?_,?_,?_,?_,?_,?_⟩;any_goals rw [World.cell?_setCell_far _ _ _ _ (by simpa using hne)];assumption
 all_goals rw [World.frozen?_setCell];assumption
theorem zJd (x:Wc.In) (av:Option Addr) (n c:Nat) (tl:List Int) (w:World) (hk:x.op=2) (hz:RdZ w (.slice av n c) tl) (hl:tl.length<=1000000) :
  CR 61 #[inV x (.slice av n c)] w (.bool (Wpl.rightC x.ce.s x.ce.r x.ce.c && (smI x ⟨2,0,0,v0I,x.ce,a0I,a0I⟩ && decide (tl=[])))):=by
 have C:=(λw=>zAn x.ce.s x.ce.r x.ce.c w:∀ w:World,CR 22 #[.agg #[.int .i64 x.ce.s,.int .i64 x.ce.r,.int .i64 x.ce.c]] w (.bool (Wpl.rightC x.ce.s x.ce.r x.ce.c)))
 have CS:∀ w',Below w.heap.size w w'->Calls prog 97 #[.agg (zAD x (.slice av n c)).toArray,.agg (zAD ⟨2,0,0,v0I,x.ce,a0I,a0I⟩ zAH).toArray] w' λe w''=>e=.returned (.bool (smI x ⟨2,0,0,v0I,x.ce,a0I,a0I⟩ && decide (tl=[])))/\Below w'.heap.size w' w'':=λw' hb=>zA6 x ⟨2,0,0,v0I,x.ce,a0I,a0I⟩ _ _ tl [] w' (hz.below hb) (RdZ.nil _) hl (by first | exact hl | simp)
 obtain ⟨tv,htv⟩:∃ tv,Value.slice av n c=tv:=⟨_,rfl⟩
 rw [htv] at CS ⊢;generalize (smI x ⟨2,0,0,v0I,x.ce,a0I,a0I⟩ && decide (tl=[]))=R at *;generalize Wpl.rightC x.ce.s x.ce.r x.ce.c=q at *;have pA0:AtL (zAU w x tv) w.heap.size (zAD x tv):=(AtL.new0 w _ _).alloc _;have pO0:AtL (zAU w x tv) (w.heap.size+1) (zAD (zAI 0) zAH):=AtL.new1 w _ _ _;have hth:World.there (zAU w x tv) (w.heap.size+1) 0 (zAD (zAI 2) zAH).toArray.size:=pO0.there;have hne:w.heap.size+1 ≠ w.heap.size:=by omega
 have pA:=pA0.farAll hne 0 (zAD (zAI 2) zAH);have pO:AtL ((zAU w x tv).setCells (w.heap.size+1) 0 (zAD (zAI 2) zAH)) (w.heap.size+1) (zAD (zAI 2) zAH):=pO0.setAll rfl;have hBa:Below w.heap.size w ((zAU w x tv).setCells (w.heap.size+1) 0 (zAD (zAI 2) zAH)):=zAv (zAM (zAM (Below.refl _ w) _) _) (Nat.le_succ _) _ 0;clear pA0 pO0;have n0:(zAD x tv)[0]? = some (.int .i64 2):=by rw [<-hk];rfl
 have a0:World.cell? ((zAU w x tv).setCells (w.heap.size+1) 0 (zAD (zAI 2) zAH)) ⟨w.heap.size,0,none⟩=some (.int .i64 2):=pA.2.1 0 _ n0;show Calls _ _ #[.agg (zAD x tv).toArray] _ _
 have hS:zNk w.heap.size (w.heap.size+1) x tv ((zAU w x tv).setCells (w.heap.size+1) 0 (zAD (zAI 2) zAH)):=zEv pA pO;clear hz hl htv;cases q
 all_goals
  go_enter func61,ntmps61;go_upto_region 1 with fail
  go_upto_region 2 with ((with_reducible refine wpList_store_mid ?_ 56 (.tmp 3) (.tmp 7) ?_ (w.heap.size+1) 0 (zAD (zAI 2) zAH).toArray ?_ ?_ ?_ ?_ ?_ ?_);rfl;rfl;rfl;rfl;exact hth;kernel_rfl;exact zAj _ _ _ _)
  generalize (zAU w x tv).setCells (w.heap.size+1) 0 (zAD (zAI 2) zAH)=W0 at *;clear hth;go_upto_region 6 with fail
  go_region_held3 (zNk w.heap.size (w.heap.size+1) x tv)
   (with_reducible first | exact hS | assumption | exact zEv pA1 pO1 | exact (zD0 (zD0 (zD0 (by assumption) (by omega) _ _) (by omega) _ _) (by omega) _ _) | exact zEv (AtL.drew pA) (AtL.drew pO))
   (first | (go_at_call 22;refine (C _).mono ?_;rintro e w1 ⟨rfl,hb⟩;have pA1:=AtL.below hb (AtL.drew pA);have pO1:=AtL.below hb (AtL.drew pO);have o9:=pO1.2.1 9 _ rfl;have o10:=pO1.2.1 10 _ rfl;have o11:=pO1.2.1 11 _ rfl;have hB1:=zAB hBa.drew hb))
  all_goals
   clear pA pO hS C hBa o9 o10 o11 a0;have pA2:AtL (((w1.setCell ⟨w.heap.size+1,9,none⟩ (.int .i64 x.ce.s)).setCell ⟨w.heap.size+1,10,none⟩ (.int .i64 x.ce.r)).setCell ⟨w.heap.size+1,11,none⟩ (.int .i64 x.ce.c)) w.heap.size (zAD x tv):=(((pA1.far hne 9 (.int .i64 x.ce.s)).far hne 10 (.int .i64 x.ce.r)).far hne 11 (.int .i64 x.ce.c))
   have pO2:AtL (((w1.setCell ⟨w.heap.size+1,9,none⟩ (.int .i64 x.ce.s)).setCell ⟨w.heap.size+1,10,none⟩ (.int .i64 x.ce.r)).setCell ⟨w.heap.size+1,11,none⟩ (.int .i64 x.ce.c)) (w.heap.size+1) (zAD ⟨2,0,0,v0I,x.ce,a0I,a0I⟩ zAH):=(((pO1.set 9 (.int .i64 x.ce.s)).set 10 (.int .i64 x.ce.r)).set 11 (.int .i64 x.ce.c))
   have hB2:Below w.heap.size w (((w1.setCell ⟨w.heap.size+1,9,none⟩ (.int .i64 x.ce.s)).setCell ⟨w.heap.size+1,10,none⟩ (.int .i64 x.ce.r)).setCell ⟨w.heap.size+1,11,none⟩ (.int .i64 x.ce.c)):=(clB hB1)
   clear pA1 pO1 hB1;generalize (((w1.setCell ⟨w.heap.size+1,9,none⟩ (.int .i64 x.ce.s)).setCell ⟨w.heap.size+1,10,none⟩ (.int .i64 x.ce.r)).setCell ⟨w.heap.size+1,11,none⟩ (.int .i64 x.ce.c))=W2 at *;have rA:=pA2.range;have rO:=pO2.range;clear pA2 pO2;go_wp2_with (first | ((with_reducible refine zAA ?_ 56 (.tmp 1) ?_ w.heap.size 0 ?_ (zAD x tv) _ ?_ underlying56 ?_ ?_ ?_);rfl;rfl;rfl;exact rA;rfl;kernel_rfl) | ((with_reducible refine zAA ?_ 56 (.tmp 3) ?_ (w.heap.size+1) 0 ?_ (zAD ⟨2,0,0,v0I,x.ce,a0I,a0I⟩ zAH) _ ?_ underlying56 ?_ ?_ ?_);rfl;rfl;rfl;exact rO;rfl;kernel_rfl) | (go_at_call 97;refine (CS _ hB2).mono ?_;rintro e w3 ⟨rfl,hb3⟩;have hB3:=zAB hB2 hb3))
   go_wp2;go_ret;first
   | exact ⟨by simp,hB2⟩
   | exact ⟨by simp,hB3⟩
abbrev zNc (ka kb:Nat) (x:Wc.In) (tv:Value) (W:World):Prop :=
 W.cell? ⟨ka,12,none⟩=some (.int .i64 x.ar.s)/\W.cell? ⟨ka,13,none⟩=some (.int .i64 x.ar.t)/\W.cell? ⟨ka,14,none⟩=some (.int .i64 x.ar.l)/\W.cell? ⟨ka,15,none⟩=some (.int .i64 x.ar.b)/\W.cell? ⟨ka,16,none⟩=some (.int .i64 x.ar.r)/\W.frozen? ⟨kb,12,none⟩=false/\W.frozen? ⟨kb,13,none⟩=false/\W.frozen? ⟨kb,14,none⟩=false/\W.frozen? ⟨kb,15,none⟩=false/\W.frozen? ⟨kb,16,none⟩=false
theorem zFT (h0:AtL W ka (zAD x tv)) (h1:AtL W kb (zAD y tu)):zNc ka kb x tv W :=
 ⟨h0.2.1 12 _ rfl,h0.2.1 13 _ rfl,h0.2.1 14 _ rfl,h0.2.1 15 _ rfl,h0.2.1 16 _ rfl,h1.2.2 12 (by show 12<23;decide),h1.2.2 13 (by show 13<23;decide),h1.2.2 14 (by show 14<23;decide),h1.2.2 15 (by show 15<23;decide),h1.2.2 16 (by show 16<23;decide)⟩
theorem zCP (h:zNc ka kb x tv W) (hne:kb ≠ ka) (j:Nat) (u:Value):zNc ka kb x tv (W.setCell ⟨kb,j,none⟩ u):=by
 obtain ⟨h12,h13,h14,h15,h16,g12,g13,g14,g15,g16⟩:=h;refine ⟨?_,?_,?_,?_,?_,?_,?_,?_,?_,?_⟩;any_goals rw [World.cell?_setCell_far _ _ _ _ (by simpa using hne)];assumption
 all_goals rw [World.frozen?_setCell];assumption
theorem zLJ (x:Wc.In) (av:Option Addr) (n c:Nat) (tl:List Int) (w:World) (hk:x.op=8) (hz:RdZ w (.slice av n c) tl) (hl:tl.length<=1000000) :
  CR 61 #[inV x (.slice av n c)] w (.bool (Wpl.rightA x.ar.s x.ar.t x.ar.l x.ar.b x.ar.r && (smI x ⟨8,0,0,v0I,c0I,x.ar,a0I⟩ && decide (tl=[])))):=by
 have C:=(λw=>zBF x.ar.s x.ar.t x.ar.l x.ar.b x.ar.r w:∀ w:World,CR 95 #[.agg #[.int .i64 x.ar.s,.int .i64 x.ar.t,.int .i64 x.ar.l,.int .i64 x.ar.b,.int .i64 x.ar.r]] w (.bool (Wpl.rightA x.ar.s x.ar.t x.ar.l x.ar.b x.ar.r)))
 have CS:∀ w',Below w.heap.size w w'->Calls prog 97 #[.agg (zAD x (.slice av n c)).toArray,.agg (zAD ⟨8,0,0,v0I,c0I,x.ar,a0I⟩ zAH).toArray] w' λe w''=>e=.returned (.bool (smI x ⟨8,0,0,v0I,c0I,x.ar,a0I⟩ && decide (tl=[])))/\Below w'.heap.size w' w'':=λw' hb=>zA6 x ⟨8,0,0,v0I,c0I,x.ar,a0I⟩ _ _ tl [] w' (hz.below hb) (RdZ.nil _) hl (by first | exact hl | simp)
 obtain ⟨tv,htv⟩:∃ tv,Value.slice av n c=tv:=⟨_,rfl⟩
 rw [htv] at CS ⊢;generalize (smI x ⟨8,0,0,v0I,c0I,x.ar,a0I⟩ && decide (tl=[]))=R at *;generalize Wpl.rightA x.ar.s x.ar.t x.ar.l x.ar.b x.ar.r=q at *;have pA0:AtL (zAU w x tv) w.heap.size (zAD x tv):=(AtL.new0 w _ _).alloc _;have pO0:AtL (zAU w x tv) (w.heap.size+1) (zAD (zAI 0) zAH):=AtL.new1 w _ _ _;have hth:World.there (zAU w x tv) (w.heap.size+1) 0 (zAD (zAI 8) zAH).toArray.size:=pO0.there;have hne:w.heap.size+1 ≠ w.heap.size:=by omega
 have pA:=pA0.farAll hne 0 (zAD (zAI 8) zAH);have pO:AtL ((zAU w x tv).setCells (w.heap.size+1) 0 (zAD (zAI 8) zAH)) (w.heap.size+1) (zAD (zAI 8) zAH):=pO0.setAll rfl;have hBa:Below w.heap.size w ((zAU w x tv).setCells (w.heap.size+1) 0 (zAD (zAI 8) zAH)):=zAv (zAM (zAM (Below.refl _ w) _) _) (Nat.le_succ _) _ 0;clear pA0 pO0;have n0:(zAD x tv)[0]? = some (.int .i64 8):=by rw [<-hk];rfl
 have a0:World.cell? ((zAU w x tv).setCells (w.heap.size+1) 0 (zAD (zAI 8) zAH)) ⟨w.heap.size,0,none⟩=some (.int .i64 8):=pA.2.1 0 _ n0;show Calls _ _ #[.agg (zAD x tv).toArray] _ _
 have hS:zNc w.heap.size (w.heap.size+1) x tv ((zAU w x tv).setCells (w.heap.size+1) 0 (zAD (zAI 8) zAH)):=zFT pA pO;clear hz hl htv;cases q
 all_goals
  go_enter func61,ntmps61;go_upto_region 1 with fail
  go_upto_region 2 with ((with_reducible refine wpList_store_mid ?_ 56 (.tmp 3) (.tmp 7) ?_ (w.heap.size+1) 0 (zAD (zAI 8) zAH).toArray ?_ ?_ ?_ ?_ ?_ ?_);rfl;rfl;rfl;rfl;exact hth;kernel_rfl;exact zAj _ _ _ _)
  generalize (zAU w x tv).setCells (w.heap.size+1) 0 (zAD (zAI 8) zAH)=W0 at *;clear hth;go_upto_region 20 with fail
  go_region_held3 (zNc w.heap.size (w.heap.size+1) x tv)
   (with_reducible first | exact hS | assumption | exact zFT pA1 pO1 | exact (zCP (zCP (zCP (zCP (zCP (by assumption) (by omega) _ _) (by omega) _ _) (by omega) _ _) (by omega) _ _) (by omega) _ _) | exact zFT (AtL.drew pA) (AtL.drew pO))
   (first | (go_at_call 95;refine (C _).mono ?_;rintro e w1 ⟨rfl,hb⟩;have pA1:=AtL.below hb (AtL.drew pA);have pO1:=AtL.below hb (AtL.drew pO);have o12:=pO1.2.1 12 _ rfl;have o13:=pO1.2.1 13 _ rfl;have o14:=pO1.2.1 14 _ rfl;have o15:=pO1.2.1 15 _ rfl;have o16:=pO1.2.1 16 _ rfl;have hB1:=zAB hBa.drew hb))
  all_goals
   clear pA pO hS C hBa o12 o13 o14 o15 o16 a0;have pA2:AtL (((((w1.setCell ⟨w.heap.size+1,12,none⟩ (.int .i64 x.ar.s)).setCell ⟨w.heap.size+1,13,none⟩ (.int .i64 x.ar.t)).setCell ⟨w.heap.size+1,14,none⟩ (.int .i64 x.ar.l)).setCell ⟨w.heap.size+1,15,none⟩ (.int .i64 x.ar.b)).setCell ⟨w.heap.size+1,16,none⟩ (.int .i64 x.ar.r)) w.heap.size (zAD x tv):=(((((pA1.far hne 12 (.int .i64 x.ar.s)).far hne 13 (.int .i64 x.ar.t)).far hne 14 (.int .i64 x.ar.l)).far hne 15 (.int .i64 x.ar.b)).far hne 16 (.int .i64 x.ar.r))
   have pO2:AtL (((((w1.setCell ⟨w.heap.size+1,12,none⟩ (.int .i64 x.ar.s)).setCell ⟨w.heap.size+1,13,none⟩ (.int .i64 x.ar.t)).setCell ⟨w.heap.size+1,14,none⟩ (.int .i64 x.ar.l)).setCell ⟨w.heap.size+1,15,none⟩ (.int .i64 x.ar.b)).setCell ⟨w.heap.size+1,16,none⟩ (.int .i64 x.ar.r)) (w.heap.size+1) (zAD ⟨8,0,0,v0I,c0I,x.ar,a0I⟩ zAH):=(((((pO1.set 12 (.int .i64 x.ar.s)).set 13 (.int .i64 x.ar.t)).set 14 (.int .i64 x.ar.l)).set 15 (.int .i64 x.ar.b)).set 16 (.int .i64 x.ar.r))
   have hB2:Below w.heap.size w (((((w1.setCell ⟨w.heap.size+1,12,none⟩ (.int .i64 x.ar.s)).setCell ⟨w.heap.size+1,13,none⟩ (.int .i64 x.ar.t)).setCell ⟨w.heap.size+1,14,none⟩ (.int .i64 x.ar.l)).setCell ⟨w.heap.size+1,15,none⟩ (.int .i64 x.ar.b)).setCell ⟨w.heap.size+1,16,none⟩ (.int .i64 x.ar.r)):=(clB hB1)
   clear pA1 pO1 hB1;generalize (((((w1.setCell ⟨w.heap.size+1,12,none⟩ (.int .i64 x.ar.s)).setCell ⟨w.heap.size+1,13,none⟩ (.int .i64 x.ar.t)).setCell ⟨w.heap.size+1,14,none⟩ (.int .i64 x.ar.l)).setCell ⟨w.heap.size+1,15,none⟩ (.int .i64 x.ar.b)).setCell ⟨w.heap.size+1,16,none⟩ (.int .i64 x.ar.r))=W2 at *;have rA:=pA2.range;have rO:=pO2.range;clear pA2 pO2;go_wp2_with (first | ((with_reducible refine zAA ?_ 56 (.tmp 1) ?_ w.heap.size 0 ?_ (zAD x tv) _ ?_ underlying56 ?_ ?_ ?_);rfl;rfl;rfl;exact rA;rfl;kernel_rfl) | ((with_reducible refine zAA ?_ 56 (.tmp 3) ?_ (w.heap.size+1) 0 ?_ (zAD ⟨8,0,0,v0I,c0I,x.ar,a0I⟩ zAH) _ ?_ underlying56 ?_ ?_ ?_);rfl;rfl;rfl;exact rO;rfl;kernel_rfl) | (go_at_call 97;refine (CS _ hB2).mono ?_;rintro e w3 ⟨rfl,hb3⟩;have hB3:=zAB hB2 hb3))
   go_wp2;go_ret;first
   | exact ⟨by simp,hB2⟩
   | exact ⟨by simp,hB3⟩
abbrev zOW (ka kb:Nat) (x:Wc.In) (tv:Value) (W:World):Prop :=
 W.cell? ⟨ka,1,none⟩=some (.int .i64 x.a)/\W.cell? ⟨ka,2,none⟩=some (.int .i64 x.b)/\W.frozen? ⟨kb,1,none⟩=false/\W.frozen? ⟨kb,2,none⟩=false
theorem zFN (h0:AtL W ka (zAD x tv)) (h1:AtL W kb (zAD y tu)):zOW ka kb x tv W :=
 ⟨h0.2.1 1 _ rfl,h0.2.1 2 _ rfl,h1.2.2 1 (by show 1<23;decide),h1.2.2 2 (by show 2<23;decide)⟩
theorem zD8 (h:zOW ka kb x tv W) (hne:kb ≠ ka) (j:Nat) (u:Value):zOW ka kb x tv (W.setCell ⟨kb,j,none⟩ u):=by
 obtain ⟨h1,h2,g1,g2⟩:=h;refine ⟨?_,?_,?_,?_⟩;any_goals rw [World.cell?_setCell_far _ _ _ _ (by simpa using hne)];assumption
 all_goals rw [World.frozen?_setCell];assumption
theorem zJq (x:Wc.In) (av:Option Addr) (n c:Nat) (tl:List Int) (w:World) (hk:x.op=5) (hz:RdZ w (.slice av n c) tl) (hl:tl.length<=1000000) (hN:NmAt w) :
  CR 61 #[inV x (.slice av n c)] w (.bool (apl x.a x.b && (smI x ⟨5,x.a,x.b,v0I,c0I,a0I,a0I⟩ && decide (tl=[])))):=by
 have C:=(λw' hb=>zEy x.a x.b w' (hN.below hb):∀ w':World,Below w.heap.size w w'->Calls prog 93 #[.int .i64 x.a,.int .i64 x.b] w' λe w''=>e=.returned (.bool (apl x.a x.b))/\Below w'.heap.size w' w'')
 have CS:∀ w',Below w.heap.size w w'->Calls prog 97 #[.agg (zAD x (.slice av n c)).toArray,.agg (zAD ⟨5,x.a,x.b,v0I,c0I,a0I,a0I⟩ zAH).toArray] w' λe w''=>e=.returned (.bool (smI x ⟨5,x.a,x.b,v0I,c0I,a0I,a0I⟩ && decide (tl=[])))/\Below w'.heap.size w' w'':=λw' hb=>zA6 x ⟨5,x.a,x.b,v0I,c0I,a0I,a0I⟩ _ _ tl [] w' (hz.below hb) (RdZ.nil _) hl (by first | exact hl | simp)
 obtain ⟨tv,htv⟩:∃ tv,Value.slice av n c=tv:=⟨_,rfl⟩
 rw [htv] at CS ⊢;generalize (smI x ⟨5,x.a,x.b,v0I,c0I,a0I,a0I⟩ && decide (tl=[]))=R at *;generalize apl x.a x.b=q at *;have pA0:AtL (zAU w x tv) w.heap.size (zAD x tv):=(AtL.new0 w _ _).alloc _;have pO0:AtL (zAU w x tv) (w.heap.size+1) (zAD (zAI 0) zAH):=AtL.new1 w _ _ _;have hth:World.there (zAU w x tv) (w.heap.size+1) 0 (zAD (zAI 5) zAH).toArray.size:=pO0.there;have hne:w.heap.size+1 ≠ w.heap.size:=by omega
 have pA:=pA0.farAll hne 0 (zAD (zAI 5) zAH);have pO:AtL ((zAU w x tv).setCells (w.heap.size+1) 0 (zAD (zAI 5) zAH)) (w.heap.size+1) (zAD (zAI 5) zAH):=pO0.setAll rfl;have hBa:Below w.heap.size w ((zAU w x tv).setCells (w.heap.size+1) 0 (zAD (zAI 5) zAH)):=zAv (zAM (zAM (Below.refl _ w) _) _) (Nat.le_succ _) _ 0;clear pA0 pO0;have n0:(zAD x tv)[0]? = some (.int .i64 5):=by rw [<-hk];rfl
 have a0:World.cell? ((zAU w x tv).setCells (w.heap.size+1) 0 (zAD (zAI 5) zAH)) ⟨w.heap.size,0,none⟩=some (.int .i64 5):=pA.2.1 0 _ n0;show Calls _ _ #[.agg (zAD x tv).toArray] _ _
 have hS:zOW w.heap.size (w.heap.size+1) x tv ((zAU w x tv).setCells (w.heap.size+1) 0 (zAD (zAI 5) zAH)):=zFN pA pO;clear hz hl htv hN;cases q
 all_goals
  go_enter func61,ntmps61;go_upto_region 1 with fail
  go_upto_region 2 with ((with_reducible refine wpList_store_mid ?_ 56 (.tmp 3) (.tmp 7) ?_ (w.heap.size+1) 0 (zAD (zAI 5) zAH).toArray ?_ ?_ ?_ ?_ ?_ ?_);rfl;rfl;rfl;rfl;exact hth;kernel_rfl;exact zAj _ _ _ _)
  generalize (zAU w x tv).setCells (w.heap.size+1) 0 (zAD (zAI 5) zAH)=W0 at *;clear hth;go_upto_region 12 with fail
  go_region_held3 (zOW w.heap.size (w.heap.size+1) x tv)
   (with_reducible first | exact hS | assumption | exact zFN pA1 pO1 | exact (zD8 (by assumption) (by omega) _ _) | exact (zD8 (zD8 (by assumption) (by omega) _ _) (by omega) _ _) | exact zFN (AtL.drew pA) (AtL.drew pO))
   (first | (go_at_call 93;refine (C _ hBa.drew).mono ?_;rintro e w1 ⟨rfl,hb⟩;have pA1:=AtL.below hb (AtL.drew pA);have pO1:=AtL.below hb (AtL.drew pO);have o1:=pO1.2.1 1 _ rfl;have o2:=pO1.2.1 2 _ rfl;have hB1:=zAB hBa.drew hb))
  all_goals
   clear pA pO hS C hBa o1 o2 a0;have pA2:AtL ((w1.setCell ⟨w.heap.size+1,1,none⟩ (.int .i64 x.a)).setCell ⟨w.heap.size+1,2,none⟩ (.int .i64 x.b)) w.heap.size (zAD x tv):=((pA1.far hne 1 (.int .i64 x.a)).far hne 2 (.int .i64 x.b))
   have pO2:AtL ((w1.setCell ⟨w.heap.size+1,1,none⟩ (.int .i64 x.a)).setCell ⟨w.heap.size+1,2,none⟩ (.int .i64 x.b)) (w.heap.size+1) (zAD ⟨5,x.a,x.b,v0I,c0I,a0I,a0I⟩ zAH):=((pO1.set 1 (.int .i64 x.a)).set 2 (.int .i64 x.b))
   have hB2:Below w.heap.size w ((w1.setCell ⟨w.heap.size+1,1,none⟩ (.int .i64 x.a)).setCell ⟨w.heap.size+1,2,none⟩ (.int .i64 x.b)):=(clB hB1)
   clear pA1 pO1 hB1;generalize ((w1.setCell ⟨w.heap.size+1,1,none⟩ (.int .i64 x.a)).setCell ⟨w.heap.size+1,2,none⟩ (.int .i64 x.b))=W2 at *;have rA:=pA2.range;have rO:=pO2.range;clear pA2 pO2;go_wp2_with (first | ((with_reducible refine zAA ?_ 56 (.tmp 1) ?_ w.heap.size 0 ?_ (zAD x tv) _ ?_ underlying56 ?_ ?_ ?_);rfl;rfl;rfl;exact rA;rfl;kernel_rfl) | ((with_reducible refine zAA ?_ 56 (.tmp 3) ?_ (w.heap.size+1) 0 ?_ (zAD ⟨5,x.a,x.b,v0I,c0I,a0I,a0I⟩ zAH) _ ?_ underlying56 ?_ ?_ ?_);rfl;rfl;rfl;exact rO;rfl;kernel_rfl) | (go_at_call 97;refine (CS _ hB2).mono ?_;rintro e w3 ⟨rfl,hb3⟩;have hB3:=zAB hB2 hb3))
   go_wp2;go_ret;first
   | exact ⟨by simp,hB2⟩
   | exact ⟨by simp,hB3⟩
