/- TRightD, TPlainB, TRight, TMeas, KTr, KPlain, KKit, KWalkA. -/
import Derived.Test.YtefkclbaflkheaaGreatDoorQ04
set_option maxHeartbeats 8000000
set_option maxRecDepth 100000
set_option linter.unusedVariables false
namespace Go.Proofs.YtefkclbaflkheaaGreatDoor
open Tryz
variable {K o t:Int} {ka kb kc:Nat} {x:Wt.Nd} {m:ByteArray} {W:World}
open Go.RowKit
def opK (o:Int):Int:=match Wt.opOf o with
 | none=>0
 | some (_,_,t)=>if t<5 then 5 else 4
abbrev zLp (K:Int) (ka kb kc:Nat) (x:Wt.Nd) (o:Int) (m:ByteArray) (t:Int) (W:World):Prop :=
 W.cell? ⟨ka,7,none⟩=some (.int .i64 x.op)/\W.cell? ⟨ka,0,none⟩=some (.int .i64 K)/\W.cell? ⟨kc,0,none⟩=some (.int .i64 o)/\W.cell? ⟨kc,1,none⟩=some (.string m)/\W.cell? ⟨kc,2,none⟩=some (.int .i64 t)/\W.frozen? ⟨kb,7,none⟩=false
theorem zBt {y:Wt.Nd} (hk:x.k=K) (h0:AtL W ka (zAN x)) (h1:AtL W kb (zAN y)) (h2:AtL W kc [.int .i64 o,.string m,.int .i64 t]):zLp K ka kb kc x o m t W :=
 ⟨h0.2.1 7 _ rfl,by rw [<-hk];exact h0.2.1 0 _ rfl,h2.2.1 0 _ rfl,h2.2.1 1 _ rfl,h2.2.1 2 _ rfl,h1.2.2 7 (by show 7<20;decide)⟩
theorem zEJ (h:zLp K ka kb kc x o m t W) (hne:kb ≠ ka) (hne2:kb ≠ kc) (j:Nat) (u:Value):zLp K ka kb kc x o m t (W.setCell ⟨kb,j,none⟩ u):=by
 obtain ⟨h0,h1,h2,h3,h4,g⟩:=h;refine ⟨?_,?_,?_,?_,?_,?_⟩;any_goals first | (rw [World.cell?_setCell_far _ _ _ _ (by simpa using hne)];assumption) | (rw [World.cell?_setCell_far _ _ _ _ (by simpa using hne2)];assumption)
 rw [World.frozen?_setCell];assumption
theorem zDI (x:Wt.Nd) (w:World) (K:Int) (hK:K=4 \/ K=5) (hk:x.k=K) (hO:OpsAt w) :
  CR 75 #[ndV x] w (.bool (opK x.op == K && eqN x ⟨K,Wt.v0,x.op,⟨#[]⟩,0,Wt.r0,Wt.r0⟩)):=by
 have C:∀ w:World,OpsAt w->CR 111 #[.int .i64 x.op] w (opV (Wt.opOf x.op)):=λw h=>zGI x.op w h
 have hq:∀ w:World,(binOp .eql 35 (.agg (zAN x).toArray) (.agg (zAN ⟨K,Wt.v0,x.op,⟨#[]⟩,0,Wt.r0,Wt.r0⟩).toArray)).run prog w=.ok (.bool (eqN x ⟨K,Wt.v0,x.op,⟨#[]⟩,0,Wt.r0,Wt.r0⟩)) w:=λw=>zCA x ⟨K,Wt.v0,x.op,⟨#[]⟩,0,Wt.r0,Wt.r0⟩ w
 generalize eqN x ⟨K,Wt.v0,x.op,⟨#[]⟩,0,Wt.r0,Wt.r0⟩=R at *;have pA0:AtL (two w x) w.heap.size (zAN x):=(AtL.new0 w _ _).alloc _;have pO0:AtL (two w x) (w.heap.size+1) (zAN (bare 0)):=AtL.new1 w _ _ _;have hth:World.there (two w x) (w.heap.size+1) 0 (zAN (bare K)).toArray.size:=pO0.there;have hne:w.heap.size+1 ≠ w.heap.size:=by omega
 have pA:=pA0.farAll hne 0 (zAN (bare K));have pO:AtL ((two w x).setCells (w.heap.size+1) 0 (zAN (bare K))) (w.heap.size+1) (zAN (bare K)):=pO0.setAll rfl;have hBa:Below w.heap.size w ((two w x).setCells (w.heap.size+1) 0 (zAN (bare K))):=zAa (zAK (zAK (Below.refl _ w) _) _) (Nat.le_succ _) _ 0;clear pA0 pO0;have n0:(zAN x)[0]? = some (.int .i64 K):=by rw [<-hk];rfl
 have a0:World.cell? ((two w x).setCells (w.heap.size+1) 0 (zAN (bare K))) ⟨w.heap.size,0,none⟩=some (.int .i64 K):=pA.2.1 0 _ n0;have OpW:=hO.below hBa;have c7:World.cell? ((two w x).setCells (w.heap.size+1) 0 (zAN (bare K))) ⟨w.heap.size,7,none⟩=some (.int .i64 x.op):=pA.2.1 7 _ rfl;have hS:∀ (W:World) (k:Nat),AtL W k (zAN (bare K))->AtL (W.setCell ⟨k,7,none⟩ (.int .i64 x.op)) k (zAN ⟨K,Wt.v0,x.op,⟨#[]⟩,0,Wt.r0,Wt.r0⟩):=λW k h=>h.set 7 (.int .i64 x.op)
 show Calls _ _ #[.agg (zAN x).toArray] _ _
 unfold opK;generalize hW:(two w x).setCells (w.heap.size+1) 0 (zAN (bare K))=W0 at pA pO hBa a0 c7 OpW;have HW:Hid ((two w x).setCells (w.heap.size+1) 0 (zAN (bare K))=W0):=hW;clear hW;rcases hK with rfl | rfl
 all_goals
  cases hop:Wt.opOf x.op with
  | none =>
   rw [hop] at C;simp only [opV] at C ⊢;go_enter func75,ntmps75;go_upto_region 1 with fail
   go_upto_region 2 with (first | ((with_reducible refine wpList_store_mid ?_ 35 (.tmp 3) (.tmp 9) ?_ (w.heap.size+1) 0 (zAN (bare 4)).toArray ?_ ?_ ?_ ?_ ?_ ?_);rfl;rfl;rfl;rfl;exact hth;kernel_rfl;exact zCZ _) | ((with_reducible refine wpList_store_mid ?_ 35 (.tmp 3) (.tmp 9) ?_ (w.heap.size+1) 0 (zAN (bare 5)).toArray ?_ ?_ ?_ ?_ ?_ ?_);rfl;rfl;rfl;rfl;exact hth;kernel_rfl;exact zCZ _))
   rw [HW.out];clear hth HW;go_upto_region 11 with fail
   go_wp2_with fail
   refine (C _ OpW).mono ?_;rintro e w1 ⟨rfl,hb⟩;have pA1:=AtL.below hb pA;have pO1:=AtL.below hb pO;have hB1:=zAB hBa hb;have pOlt:=pO1.lt;clear hb pA pO hBa a0 C OpW;go_upto_region 12 with fail
   replace pA1:=AtL.alloc pA1 (.cells #[.int .i64 0,.string ⟨#[]⟩,.int .i64 0] 169)
   replace pO1:=AtL.alloc pO1 (.cells #[.int .i64 0,.string ⟨#[]⟩,.int .i64 0] 169)
   have pC1:AtL (w1.alloc (.cells #[.int .i64 0,.string ⟨#[]⟩,.int .i64 0] 169)) w1.heap.size [.int .i64 0,.string ⟨#[]⟩,.int .i64 0]:=AtL.new0 w1 _ _;have hnc:w.heap.size+1 ≠ w1.heap.size:=by have:=pOlt;omega
   replace hB1:=zAK hB1 (.cells #[.int .i64 0,.string ⟨#[]⟩,.int .i64 0] 169)
   generalize w1.heap.size=kc at *;generalize w1.alloc (.cells #[.int .i64 0,.string ⟨#[]⟩,.int .i64 0] 169)=w3 at *;refine wp_region_held_drew (S:=zLp _ w.heap.size (w.heap.size+1) kc x 0 ⟨#[]⟩ 0) (by kernel_rfl) (zBt hk (AtL.drew pA1) (AtL.drew pO1) (AtL.drew pC1)) (λhHeld=>?_);refine tkQ 0 ?_
   refine tkQ 1 ?_
   refine tkQ 2 ?_
   refine tkQ 3 ?_
   refine tnQ 4 ?_
   refine tnQ 6 ?_
   refine tnQ 7 ?_
   refine tkQ 10 ?_
   refine tnQ 5 ?_
   refine tnQ 8 ?_
   refine tkQ 9 ?_
   refine rdQ 11 (λK hK=>?_);have o7:=(AtL.drew pO1).2.1 7 _ rfl;obtain ⟨_,_,_,_,_,g7⟩:=hHeld;go_simp
   refine hkQ hK (zEJ (zBt hk (AtL.drew pA1) (AtL.drew pO1) (AtL.drew pC1)) hne hnc _ _) (λhHeld=>?_);clear hK K
   refine rdQ 12 (λK hK=>?_);go_simp
   refine hkQ hK (by assumption) (λhHeld=>?_);clear hK K
   refine wpAnyH_done (by kernel_rfl) ?_ _;clear o7 g7 pC1;have pA2:AtL (w3.setCell ⟨w.heap.size+1,7,none⟩ (.int .i64 x.op)).drew w.heap.size (zAN x):=AtL.drew (pA1.far hne 7 (.int .i64 x.op));have pO2:=AtL.drew (hS _ _ pO1);have hB2:Below w.heap.size w (w3.setCell ⟨w.heap.size+1,7,none⟩ (.int .i64 x.op)).drew:=(clB hB1)
   clear pA1 pO1 hB1;generalize (w3.setCell ⟨w.heap.size+1,7,none⟩ (.int .i64 x.op)).drew=W2 at *;have rA:=pA2.range;have rO:=pO2.range;clear pA2 pO2;go_wp2_with (first | ((with_reducible refine zAA ?_ 35 (.tmp 1) ?_ w.heap.size 0 ?_ (zAN x) _ ?_ underlying35 ?_ ?_ ?_);rfl;rfl;rfl;exact rA;rfl;kernel_rfl) | ((with_reducible refine zAA ?_ 35 (.tmp 3) ?_ (w.heap.size+1) 0 ?_ (zAN ⟨4,Wt.v0,x.op,⟨#[]⟩,0,Wt.r0,Wt.r0⟩) _ ?_ underlying35 ?_ ?_ ?_);rfl;rfl;rfl;exact rO;rfl;kernel_rfl) | ((with_reducible refine zAA ?_ 35 (.tmp 3) ?_ (w.heap.size+1) 0 ?_ (zAN ⟨5,Wt.v0,x.op,⟨#[]⟩,0,Wt.r0,Wt.r0⟩) _ ?_ underlying35 ?_ ?_ ?_);rfl;rfl;rfl;exact rO;rfl;kernel_rfl))
   go_wp2;go_ret;exact ⟨by simp,hB2⟩
  | some q =>
   obtain ⟨o2,m2,t2⟩:=q;rw [hop] at C;simp only [opV] at C ⊢;by_cases ht:t2<5
   all_goals
    first | rw [if_pos ht] | rw [if_neg ht]
    have KK:=λw=>zFj o2 ⟨m2.toArray⟩ t2 w
    first | rw [if_pos ht] at KK | rw [if_neg ht] at KK
    go_enter func75,ntmps75;go_upto_region 1 with fail
    go_upto_region 2 with (first | ((with_reducible refine wpList_store_mid ?_ 35 (.tmp 3) (.tmp 9) ?_ (w.heap.size+1) 0 (zAN (bare 4)).toArray ?_ ?_ ?_ ?_ ?_ ?_);rfl;rfl;rfl;rfl;exact hth;kernel_rfl;exact zCZ _) | ((with_reducible refine wpList_store_mid ?_ 35 (.tmp 3) (.tmp 9) ?_ (w.heap.size+1) 0 (zAN (bare 5)).toArray ?_ ?_ ?_ ?_ ?_ ?_);rfl;rfl;rfl;rfl;exact hth;kernel_rfl;exact zCZ _))
    rw [HW.out];clear hth HW;go_upto_region 11 with fail
    go_wp2_with fail
    refine (C _ OpW).mono ?_;rintro e w1 ⟨rfl,hb⟩;have pA1:=AtL.below hb pA;have pO1:=AtL.below hb pO;have hB1:=zAB hBa hb;have pOlt:=pO1.lt;clear hb pA pO hBa a0 C OpW;go_upto_region 12 with fail
    replace pA1:=AtL.alloc pA1 (.cells #[.int .i64 o2,.string ⟨m2.toArray⟩,.int .i64 t2] 169)
    replace pO1:=AtL.alloc pO1 (.cells #[.int .i64 o2,.string ⟨m2.toArray⟩,.int .i64 t2] 169)
    have pC1:AtL (w1.alloc (.cells #[.int .i64 o2,.string ⟨m2.toArray⟩,.int .i64 t2] 169)) w1.heap.size [.int .i64 o2,.string ⟨m2.toArray⟩,.int .i64 t2]:=AtL.new0 w1 _ _;have hnc:w.heap.size+1 ≠ w1.heap.size:=by have:=pOlt;omega
    replace hB1:=zAK hB1 (.cells #[.int .i64 o2,.string ⟨m2.toArray⟩,.int .i64 t2] 169)
    generalize w1.heap.size=kc at *;generalize w1.alloc (.cells #[.int .i64 o2,.string ⟨m2.toArray⟩,.int .i64 t2] 169)=w3 at *;refine wp_region_held_drew (S:=zLp _ w.heap.size (w.heap.size+1) kc x o2 ⟨m2.toArray⟩ t2) (by kernel_rfl) (zBt hk (AtL.drew pA1) (AtL.drew pO1) (AtL.drew pC1)) (λhHeld=>?_);replace pA1:=AtL.drew pA1
    replace pO1:=AtL.drew pO1
    replace pC1:=AtL.drew pC1
    replace hB1:=hB1.drew
    refine tkQ 0 ?_
    refine tkQ 1 ?_
    refine tkQ 2 ?_
    refine tkQ 3 ?_
    refine tkQ 4 ?_
    refine tkQ 6 ?_
    refine tkQ 7 ?_
    refine tkQ 10 ?_
    refine rdQ 5 (λK hK=>?_);go_simp
    refine (KK _).mono ?_;rintro e w4 ⟨rfl,hb⟩;replace pA1:=AtL.below hb pA1
    replace pO1:=AtL.below hb pO1
    replace pC1:=AtL.below hb pC1
    replace hB1:=zAB hB1 hb
    clear hb;go_wp2_with fail
    refine hkQ hK (zBt hk pA1 pO1 pC1) (λhHeld=>?_);clear hK K
    refine tkQ 8 ?_
    refine tkQ 9 ?_
    refine rdQ 11 (λK hK=>?_);have o7:=pO1.2.1 7 _ rfl;obtain ⟨_,_,_,_,_,g7⟩:=hHeld;go_simp
    refine hkQ hK (zEJ (zBt hk pA1 pO1 pC1) hne hnc _ _) (λhHeld=>?_);clear hK K
    refine rdQ 12 (λK hK=>?_);go_simp
    refine hkQ hK (by assumption) (λhHeld=>?_);clear hK K
    refine wpAnyH_done (by kernel_rfl) ?_ _;clear o7 g7 pC1;have pA2:AtL (w4.setCell ⟨w.heap.size+1,7,none⟩ (.int .i64 x.op)) w.heap.size (zAN x):=(pA1.far hne 7 (.int .i64 x.op))
    have pO2:=hS _ _ pO1;have hB2:Below w.heap.size w (w4.setCell ⟨w.heap.size+1,7,none⟩ (.int .i64 x.op)):=(clB hB1)
    clear pA1 pO1 hB1;generalize (w4.setCell ⟨w.heap.size+1,7,none⟩ (.int .i64 x.op))=W2 at *;have rA:=pA2.range;have rO:=pO2.range;clear pA2 pO2;go_wp2_with (first | ((with_reducible refine zAA ?_ 35 (.tmp 1) ?_ w.heap.size 0 ?_ (zAN x) _ ?_ underlying35 ?_ ?_ ?_);rfl;rfl;rfl;exact rA;rfl;kernel_rfl) | ((with_reducible refine zAA ?_ 35 (.tmp 3) ?_ (w.heap.size+1) 0 ?_ (zAN ⟨4,Wt.v0,x.op,⟨#[]⟩,0,Wt.r0,Wt.r0⟩) _ ?_ underlying35 ?_ ?_ ?_);rfl;rfl;rfl;exact rO;rfl;kernel_rfl) | ((with_reducible refine zAA ?_ 35 (.tmp 3) ?_ (w.heap.size+1) 0 ?_ (zAN ⟨5,Wt.v0,x.op,⟨#[]⟩,0,Wt.r0,Wt.r0⟩) _ ?_ underlying35 ?_ ?_ ?_);rfl;rfl;rfl;exact rO;rfl;kernel_rfl))
    go_wp2;go_ret;exact ⟨by simp,hB2⟩
end Go.Proofs.YtefkclbaflkheaaGreatDoor
namespace Go.Proofs.YtefkclbaflkheaaGreatDoor.Wt
open Go.Proofs.YtefkclbaflkheaaGreatDoor
def right (x:Nd):Bool :=
 if x.k=1 then vlOk x.v && eqN x ⟨1,x.v,0,⟨#[]⟩,0,Wt.r0,Wt.r0⟩
 else if x.k=2 then rfOk x.a && eqN x ⟨2,Wt.v0,0,⟨#[]⟩,0,x.a,Wt.r0⟩
 else if x.k=3 then (rfOk x.a && rfOk x.b && x.b.s.toList.isEmpty) && eqN x ⟨3,Wt.v0,0,⟨#[]⟩,0,x.a,x.b⟩
 else if x.k=4 then opK x.op == 4 && eqN x ⟨4,Wt.v0,x.op,⟨#[]⟩,0,Wt.r0,Wt.r0⟩
 else if x.k=5 then opK x.op == 5 && eqN x ⟨5,Wt.v0,x.op,⟨#[]⟩,0,Wt.r0,Wt.r0⟩
 else if x.k=6 then (fnNm x.nm && decide (0<=x.ar) && decide (x.ar<=30)) && eqN x ⟨6,Wt.v0,0,x.nm,x.ar,Wt.r0,Wt.r0⟩
 else false
def FitV (v:Vl):Prop:=(-9223372036854775808<=v.n/\v.n<=9223372036854775807)/\(-9223372036854775808<=v.d/\v.d<=9223372036854775807)/\v.t.size<=9223372036854775807
def FitN (x:Nd):Prop:=FitV x.v/\x.nm.size<=9223372036854775807/\x.a.s.size<=9223372036854775807/\x.b.s.size<=9223372036854775807
theorem parts_le {x:Nd} (h:right x=true):0<=parts x/\parts x<=30:=by
 unfold right at h;unfold parts;by_cases h4:x.k=4
 ·rw [if_pos h4];omega
 rw [if_neg h4];by_cases h5:x.k=5
 ·rw [if_pos h5];omega
 rw [if_neg h5];by_cases h1:x.k=1
 ·rw [if_pos h1,Bool.and_eq_true,zDm] at h;have:=congrArg Nd.ar h.2;simp only at this;omega
 rw [if_neg h1] at h;by_cases h1:x.k=2
 ·rw [if_pos h1,Bool.and_eq_true,zDm] at h;have:=congrArg Nd.ar h.2;simp only at this;omega
 rw [if_neg h1] at h;by_cases h1:x.k=3
 ·rw [if_pos h1,Bool.and_eq_true,zDm] at h;have:=congrArg Nd.ar h.2;simp only at this;omega
 rw [if_neg h1,if_neg h4,if_neg h5] at h;by_cases h1:x.k=6
 ·rw [if_pos h1] at h;simp only [Bool.and_eq_true,decide_eq_true_eq] at h;omega
 ·rw [if_neg h1] at h;cases h
def many (sub:List Nd->Option (Nat × Nat)):Nat->List Nd->Option (Nat × Nat)
 | 0,_=>some (0,0)
 | k+1,l=>match sub l with
  | none=>none
  | some (s,d)=>match many sub k (l.drop s) with
   | none=>none
   | some (s',d')=>some (s+s',max d d')
def one:Nat->List Nd->Option (Nat × Nat)
 | 0,_=>none
 | _+1,[]=>none
 | f+1,x::r=>if right x then (match many (one f) (parts x).toNat r with | none=>none | some (s,d)=>some (s+1,d+1)) else none
def check (l:List Nd):Int :=
 if 256<l.length then 52
 else match one (l.length+1) l with
  | none=>53
  | some (s,d)=>if s ≠ l.length then 53 else if 32<d then 51 else 0
end Go.Proofs.YtefkclbaflkheaaGreatDoor.Wt
namespace Go.Proofs.YtefkclbaflkheaaGreatDoor
open Tryz
open Go.RowKit
variable {f k e d:Nat} {L:List Wt.Nd} {x:Wt.Nd}
theorem zIC (x:Wt.Nd) (w:World) (h1:(x.k == 1)=false) (h2:(x.k == 2)=false) (h3:(x.k == 3)=false) (h4:(x.k == 4)=false) (h5:(x.k == 5)=false) (h6:(x.k == 6)=false) :
  CR 75 #[ndV x] w (.bool false):=by
 obtain ⟨k,hk⟩:∃ k,x.k=k:=⟨_,rfl⟩
 rw [hk] at h1 h2 h3 h4 h5 h6;have pA0:AtL (two w x) w.heap.size (zAN x):=(AtL.new0 w _ _).alloc _;have pO0:AtL (two w x) (w.heap.size+1) (zAN (bare 0)):=AtL.new1 w _ _ _;have hth:World.there (two w x) (w.heap.size+1) 0 (zAN (bare k)).toArray.size:=pO0.there;have hne:w.heap.size+1 ≠ w.heap.size:=by omega
 have pA:=pA0.farAll hne 0 (zAN (bare k));have pO:AtL ((two w x).setCells (w.heap.size+1) 0 (zAN (bare k))) (w.heap.size+1) (zAN (bare k)):=pO0.setAll rfl;have hBa:Below w.heap.size w ((two w x).setCells (w.heap.size+1) 0 (zAN (bare k))):=zAa (zAK (zAK (Below.refl _ w) _) _) (Nat.le_succ _) _ 0;clear pA0 pO0;have n0:(zAN x)[0]? = some (.int .i64 k):=by rw [<-hk];rfl
 have a0:World.cell? ((two w x).setCells (w.heap.size+1) 0 (zAN (bare k))) ⟨w.heap.size,0,none⟩=some (.int .i64 k):=pA.2.1 0 _ n0;show Calls _ _ #[.agg (zAN x).toArray] _ _
 go_enter func75,ntmps75;go_upto_region 1 with fail
 go_upto_region 2 with ((with_reducible refine wpList_store_mid ?_ 35 (.tmp 3) (.tmp 9) ?_ (w.heap.size+1) 0 (zAN (bare k)).toArray ?_ ?_ ?_ ?_ ?_ ?_);rfl;rfl;rfl;rfl;exact hth;kernel_rfl;exact zCZ _)
 generalize (two w x).setCells (w.heap.size+1) 0 (zAN (bare k))=W0 at *;clear hth;go_wp2;go_ret;exact ⟨rfl,hBa⟩
theorem zEp (x:Wt.Nd) (w:World) (hf:Wt.FitN x) (hO:OpsAt w):CR 75 #[ndV x] w (.bool (Wt.right x)):=by
 obtain ⟨⟨⟨f1,f2⟩,⟨f3,f4⟩,f5⟩,f6,f7,f8⟩:=hf;unfold Wt.right;by_cases h1:x.k=1
 ·rw [if_pos h1];exact zI5 x w h1 f1 f2 f3 f4 f5
 rw [if_neg h1];by_cases h2:x.k=2
 ·rw [if_pos h2];exact zIv x w h2 f7
 rw [if_neg h2];by_cases h3:x.k=3
 ·rw [if_pos h3];exact zIY x w h3 f7 f8
 rw [if_neg h3];by_cases h4:x.k=4
 ·rw [if_pos h4];exact zDI x w 4 (Or.inl rfl) h4 hO
 rw [if_neg h4];by_cases h5:x.k=5
 ·rw [if_pos h5];exact zDI x w 5 (Or.inr rfl) h5 hO
 rw [if_neg h5];by_cases h6:x.k=6
 ·rw [if_pos h6];exact zHn x w h6 f6
 rw [if_neg h6];exact zIC x w (by simp [h1]) (by simp [h2]) (by simp [h3]) (by simp [h4]) (by simp [h5]) (by simp [h6])
def RdN (w:World) (av:Option Addr) (L:List Wt.Nd):Prop:=∀ i (h:i<L.length),∃ bb off,av=some ⟨bb,off,none⟩/\w.rangeAt bb (off+i * 20) (zAN (L[i]))
theorem RdN.below {w w':World} {av:Option Addr} (h:RdN w av L) (hb:Below w.heap.size w w'):RdN w' av L:=λi hi=>by
 obtain ⟨bb,off,e,hr⟩:=h i hi;exact ⟨bb,off,e,λj v hv=>zAC hb (hr j v hv)⟩
def MP (r:Option (Nat × Nat)) (p:Nat):Value:=match r with
 | some (s,d)=>.tuple #[.int .i64 ((p+s:Nat):Int),.int .i64 (d:Int),.bool true]
 | none=>.tuple #[.int .i64 0,.int .i64 0,.bool false]
def left (f k:Nat) (L:List Wt.Nd) (e d:Nat):Option (Nat × Nat):=match Wt.many (Wt.one f) k (L.drop e) with
 | some (s,d')=>some (e+s,max d d')
 | none=>none
theorem zGt (f:Nat) (L:List Wt.Nd) (e d:Nat):left f 0 L e d=some (e,d):=by simp [left,Wt.many]
theorem zGE (h:Wt.one f (L.drop e)=none):left f (k+1) L e d=none:=by simp [left,Wt.many,h]
theorem zGu {s d':Nat} (h:Wt.one f (L.drop e)=some (s,d')):left f (k+1) L e d=left f k L (e+s) (max d d'):=by
 simp only [left,Wt.many,h,List.drop_drop];cases Wt.many (Wt.one f) k (List.drop (e+s) L) with
 | none=>rfl
 | some q=>obtain ⟨a,b⟩:=q;simp only [Option.some.injEq,Prod.mk.injEq];omega
theorem zLB (ih:∀ (l:List Wt.Nd) (s d:Nat),Wt.one f l=some (s,d)->s<=l.length):∀ (k:Nat) (l:List Wt.Nd) (s d:Nat),Wt.many (Wt.one f) k l=some (s,d)->s<=l.length:=by
 intro k;induction k with
 | zero=>intro l s d h;simp only [Wt.many,Option.some.injEq,Prod.mk.injEq] at h;omega
 | succ k ihk =>
  intro l s d h;simp only [Wt.many] at h;cases h1:Wt.one f l with
  | none=>rw [h1] at h;cases h
  | some q =>
   obtain ⟨a,b⟩:=q;rw [h1] at h;simp only at h;cases h2:Wt.many (Wt.one f) k (l.drop a) with
   | none=>rw [h2] at h;cases h
   | some q2 =>
    obtain ⟨a2,b2⟩:=q2;rw [h2] at h;simp only [Option.some.injEq,Prod.mk.injEq] at h;have:=ih l a b h1;have:=ihk _ a2 b2 h2;rw [List.length_drop] at this;omega
theorem zGH:∀ (f:Nat) (l:List Wt.Nd) (s d:Nat),Wt.one f l=some (s,d)->s<=l.length
 | 0,l,s,d,h=>by simp [Wt.one] at h
 | f+1,[],s,d,h=>by simp [Wt.one] at h
 | f+1,x::r,s,d,h=>by
  unfold Wt.one at h;split at h
  ·cases h1:Wt.many (Wt.one f) (Wt.parts x).toNat r with
   | none=>rw [h1] at h;cases h
   | some q =>
    obtain ⟨a,b⟩:=q;rw [h1] at h;simp only [Option.some.injEq,Prod.mk.injEq] at h;have:=zLB (zGH f) _ _ _ _ h1;simp only [List.length_cons];omega
  ·cases h
theorem zGQ (ih:∀ (l:List Wt.Nd) (s d:Nat),Wt.one f l=some (s,d)->d<=f):∀ (k:Nat) (l:List Wt.Nd) (s d:Nat),Wt.many (Wt.one f) k l=some (s,d)->d<=f:=by
 intro k;induction k with
 | zero=>intro l s d h;simp only [Wt.many,Option.some.injEq,Prod.mk.injEq] at h;omega
 | succ k ihk =>
  intro l s d h;simp only [Wt.many] at h;cases h1:Wt.one f l with
  | none=>rw [h1] at h;cases h
  | some q =>
   obtain ⟨a,b⟩:=q;rw [h1] at h;simp only at h;cases h2:Wt.many (Wt.one f) k (l.drop a) with
   | none=>rw [h2] at h;cases h
   | some q2 =>
    obtain ⟨a2,b2⟩:=q2;rw [h2] at h;simp only [Option.some.injEq,Prod.mk.injEq] at h;have:=ih l a b h1;have:=ihk _ a2 b2 h2;omega
theorem zCc:∀ (f:Nat) (l:List Wt.Nd) (s d:Nat),Wt.one f l=some (s,d)->d<=f
 | 0,l,s,d,h=>by simp [Wt.one] at h
 | f+1,[],s,d,h=>by simp [Wt.one] at h
 | f+1,x::r,s,d,h=>by
  unfold Wt.one at h;split at h
  ·cases h1:Wt.many (Wt.one f) (Wt.parts x).toNat r with
   | none=>rw [h1] at h;cases h
   | some q =>
    obtain ⟨a,b⟩:=q;rw [h1] at h;simp only [Option.some.injEq,Prod.mk.injEq] at h;have:=zGQ (zCc f) _ _ _ _ h1;omega
  ·cases h
def MR (r:Option (Nat × Nat)):Value:=match r with
 | some (e,d)=>.tuple #[.int .i64 (e:Int),.int .i64 ((d:Int)+1),.bool true]
 | none=>.tuple #[.int .i64 0,.int .i64 0,.bool false]
theorem zLI (h:Wt.right x=true) (f:Nat) (L:List Wt.Nd) (p:Nat):MP (Wt.one (f+1) (x::L.drop (p+1))) p=MR (left f (Wt.parts x).toNat L (p+1) 0):=by
 unfold left;simp only [Wt.one];rw [if_pos h];cases Wt.many (Wt.one f) (Wt.parts x).toNat (L.drop (p+1)) with
 | none=>rfl
 | some q =>
  obtain ⟨s,d⟩:=q;simp only [MP,MR];rw [show ((p+(s+1):Nat):Int)=((p+1+s:Nat):Int) by omega,show ((d+1:Nat):Int)=((max 0 d:Nat):Int)+1 by omega]
theorem zJe (h:Wt.right x=false) (f:Nat) (r:List Wt.Nd):Wt.one (f+1) (x::r)=none:=by
 simp only [Wt.one];rw [if_neg (by rw [h];decide)]
theorem zID (av:Option Addr) (cap:Nat) (L:List Wt.Nd) (hL:L.length<=256) (hF:∀ x ∈ L,Wt.FitN x) (f:Nat):f<=1000->∀ (p:Nat) (w:World),L.length<f+p->p<=256->OpsAt w->RdN w av L ->
  CR 43 #[.slice av L.length cap,.int .i64 p] w (MP (Wt.one f (L.drop p)) p):=by
 have past:∀ (f p:Nat) (w:World),¬ p<L.length->p<=256->CR 43 #[.slice av L.length cap,.int .i64 p] w (MP (Wt.one f (L.drop p)) p):=by
  intro f p w hlt hp;have hd:L.drop p=[]:=List.drop_eq_nil_of_le (by omega);have E:Hid (Wt.one f (L.drop p)=none):=by
   show _=_
   rw [hd];cases f <;> rfl
  rw [E.out];clear E hd;have hli:(L.length:Int)<=(p:Int):=by omega
  go_enter func43,ntmps43;go_wp2;go_ret3
  exact ⟨rfl,Below.refl _ _⟩
 induction f with
 | zero=>intro _ p w hf hp hO hr;exact past 0 p w (by omega) hp
 | succ f ih =>
  intro hf1 p w hf hp hO hr;by_cases hlt:p<L.length
  ·clear past;replace ih:=ih (by omega)
   obtain ⟨bb,off,rfl,hx⟩:=hr p hlt;have hd:=List.drop_eq_getElem_cons hlt;have hfit:=hF _ (List.getElem_mem hlt);have HR:Hid (RdN w (some ⟨bb,off,none⟩) L):=hr;clear hr;rw [hd];generalize L[p]=x at *;have C:=zEp x w hfit hO;have hple:=@Wt.parts_le x;have hli:¬ (L.length:Int)<=(p:Int):=by omega
   cases hq:Wt.right x with
   | false =>
    rw [hq] at C;rw [zJe hq];clear ih;go_enter func43,ntmps43;go_wp2_with ((with_reducible refine zAA ?_ 35 (.tmp 17) ?_ bb (off+p * 20) ?_ (zAN x) _ ?_ underlying35 ?_ ?_ ?_);rfl;rfl;rfl;exact hx;rfl;kernel_rfl)
    refine C.mono ?_;rintro e w1 ⟨rfl,hb⟩;go_wp2;go_ret3
    exact ⟨rfl,hb⟩
   | true =>
    rw [hq] at C;obtain ⟨hk0,hk1⟩:=hple hq;rw [zLI hq];clear hple hq;have D:=λw=>zEj x w
    obtain ⟨k,hk⟩:∃ k:Nat,(Wt.parts x).toNat=k:=⟨_,rfl⟩
    have hkk:Wt.parts x=(k:Int):=by omega
    rw [hk];rw [hkk] at D;have hk2:k<=30:=by omega
    clear hk0 hk1 hk hkk;obtain ⟨R,hR⟩:∃ R,left f k L (p+1) 0=R:=⟨_,rfl⟩
    have E0:Hid (R=left f (k - 0) L (p+1) 0):=hR.symm;rw [hR];clear hR;have IH:Hid (∀ (p:Nat) (w:World),L.length<f+p->p<=256->OpsAt w->RdN w (some ⟨bb,off,none⟩) L->CR 43 #[.slice (some ⟨bb,off,none⟩) L.length cap,.int .i64 p] w (MP (Wt.one f (L.drop p)) p)):=ih;clear ih;go_enter func43,ntmps43;go_wp2_with ((with_reducible refine zAA ?_ 35 (.tmp 17) ?_ bb (off+p * 20) ?_ (zAN x) _ ?_ underlying35 ?_ ?_ ?_);rfl;rfl;rfl;exact hx;rfl;kernel_rfl)
    refine C.mono ?_;rintro e w1 ⟨rfl,hb⟩;have hx1:w1.rangeAt bb (off+p * 20) (zAN x):=λj v hv=>zAC hb (hx j v hv)
    have hO1:=hO.below hb;have HR1:Hid (RdN w1 (some ⟨bb,off,none⟩) L):=HR.out.below hb;clear C hx HR;go_wp2_with ((with_reducible refine zAA ?_ 35 (.tmp 26) ?_ bb (off+p * 20) ?_ (zAN x) _ ?_ underlying35 ?_ ?_ ?_);rfl;rfl;rfl;exact hx1;rfl;kernel_rfl)
    refine (D _).mono ?_;rintro e w2 ⟨rfl,hb2⟩;have hB2:=zAB hb hb2;have hO2:=hO1.below hb2;have HR2:Hid (RdN w2 (some ⟨bb,off,none⟩) L):=HR1.out.below hb2;clear hb hb2 hO1 HR1 D hx1 hfit;go_wp2_with fail
    go_loopg [4,5,29] k (λgk a b c wr=>∃ j e d:Nat,a=.int .i64 e/\b=.int .i64 d/\c=.int .i64 j/\gk=k - j/\j<=k/\p+1<=e/\e<=L.length/\d<=f/\Hid (R=left f (k - j) L e d)/\Below w.heap.size w wr/\OpsAt wr/\Hid (RdN wr (some ⟨bb,off,none⟩) L))
    case atStart=>exact ⟨0,p+1,0,by simp,rfl,rfl,rfl,Nat.zero_le _,Nat.le_refl _,hlt,Nat.zero_le _,E0,hB2,hO2,HR2⟩
    case round =>
     obtain ⟨j,e,d,rfl,rfl,rfl,hg,hj,he1,he2,hdd,HE,hB,hO3,HR3⟩:=hrel;by_cases hjk:j<k
     ·have hji:(j:Int)<(k:Int):=by omega
      have M:=IH.out e wr (by omega) (by omega) hO3 HR3.out;have hkj:k - j=(k - (j+1))+1:=by omega
      rw [hkj] at HE;cases hone:Wt.one f (L.drop e) with
      | none =>
       have E:Hid (R=none):=by show _=_;rw [HE.out,zGE hone]
       rw [hone] at M;clear HE hone IH;go_wp2_with fail
       refine M.mono ?_;rintro e9 w3 ⟨rfl,hb⟩;have hB3:=zAB hB hb;simp only [MP];go_wp2;go_ret3
       exact ⟨by rw [E.out];rfl,hB3⟩
      | some q =>
       obtain ⟨s,d'⟩:=q;have h1:=zGH _ _ _ _ hone;have h2:=zCc _ _ _ _ hone;rw [List.length_drop] at h1;have E:Hid (R=left f (k - (j+1)) L (e+s) (max d d')):=by show _=_;rw [HE.out,zGu hone]
       rw [hone] at M;clear HE hone IH;go_wp2_with fail
       refine M.mono ?_;rintro e9 w3 ⟨rfl,hb⟩;have hB3:=zAB hB hb;have hO4:=hO3.below hb;have HR4:Hid (RdN w3 (some ⟨bb,off,none⟩) L):=HR3.out.below hb;simp only [MP];go_wp2_with fail
       ·go_roundg (k - (j+1))
        case rel=>exact ⟨j+1,e+s,max d d',by simp,by simp;omega,by simp,rfl,hjk,by omega,by omega,by omega,E,hB3,hO4,HR4⟩
        case measure=>omega
       ·go_roundg (k - (j+1))
        case rel=>exact ⟨j+1,e+s,max d d',by simp,by simp;omega,by simp,rfl,hjk,by omega,by omega,by omega,E,hB3,hO4,HR4⟩
        case measure=>omega
     ·have hji:¬ (j:Int)<(k:Int):=by omega
      have E:Hid (R=some (e,d)):=by show _=_;rw [HE.out,show k - j=0 by omega,zGt]
      clear HE IH;go_wp2;go_ret3
      exact ⟨by rw [E.out];rfl,hB⟩
  ·exact past (f+1) p w hlt hp
end Go.Proofs.YtefkclbaflkheaaGreatDoor
namespace Go.Proofs.YtefkclbaflkheaaGreatDoor.Wf
open Go.Proofs.YtefkclbaflkheaaGreatDoor
structure Br (α:Type) where
 x:Wt.Nd
 ks:List α
def Tr:Nat->Type
 | 0=>Empty
 | n+1=>Br (Tr n)
def hd:(n:Nat)->Tr n->Wt.Nd
 | 0,t=>Empty.elim t
 | _+1,t=>Br.x t
def row:(n:Nat)->Tr n->List Wt.Nd
 | 0,t=>Empty.elim t
 | n+1,t=>Br.x t::((Br.ks t).map (row n)).flatten
def zCi:(n:Nat)->Tr n->Prop
 | 0,t=>Empty.elim t
 | n+1,t=>Wt.right (Br.x t)=true/\Wt.parts (Br.x t)=((Br.ks t).length:Int)/\∀ k ∈ Br.ks t,zCi n k
end Go.Proofs.YtefkclbaflkheaaGreatDoor.Wf
namespace Go.Proofs.YtefkclbaflkheaaGreatDoor.Wc
structure In where
 op:Int
 a:Int
 b:Int
 v:Wt.Vl
 ce:Wpl.Cl
 ar:Wpl.Ar
 pr:Wpl.Ar
def pairs (id:Int):Bool:=id == 22 || (id == 23 || id == 24)
def swO (o b:Int):Int × Int :=
 if o=1 \/ o=2 \/ o=10 then (0,1) else if o=3 then (1,1) else if o=4 then (2,1) else if o=5 \/ o=11 then (b,1)
 else if o=7 \/ o=12 \/ o=14 \/ o=15 \/ o=16 then (1,0) else (0,0)
def nds (o b:Int):Int × Int × Int :=
 if o=1 \/ o=2 then (0,0,1) else if o=3 then (1,0,0) else if o=4 then (2,0,-1) else if o=5 \/ o=11 then (b,0,1 - b)
 else if o=7 then (1,1,-1) else if o=8 \/ o=9 then (0,1,0) else if o=10 then (0,1,1)
 else if o=12 \/ o=15 \/ o=14 then (1,0,-1) else (0,0,0)
end Go.Proofs.YtefkclbaflkheaaGreatDoor.Wc
namespace Go.Proofs.YtefkclbaflkheaaGreatDoor
open Tryz
open Go.RowKit
def zAD (x:Wc.In) (tv:Value):List Value :=
 [.int .i64 x.op,.int .i64 x.a,.int .i64 x.b,.int .i64 x.v.k,.int .i64 x.v.n,.int .i64 x.v.d,.string x.v.t,.bool x.v.b,.int .i64 x.v.f,
  .int .i64 x.ce.s,.int .i64 x.ce.r,.int .i64 x.ce.c,
  .int .i64 x.ar.s,.int .i64 x.ar.t,.int .i64 x.ar.l,.int .i64 x.ar.b,.int .i64 x.ar.r,
  .int .i64 x.pr.s,.int .i64 x.pr.t,.int .i64 x.pr.l,.int .i64 x.pr.b,.int .i64 x.pr.r,tv]
abbrev inV (x:Wc.In) (tv:Value):Value:=.agg (zAD x tv).toArray
theorem zCP (id:Int) (w:World):Calls prog 143 #[.int .i64 id] w λe w'=>e=.returned (.bool (Wc.pairs id))/\w=w':=by
 have e:∀ b,Wc.pairs id=b->Hid (Wc.pairs id=b):=λ_ h=>h
 unfold Wc.pairs;by_cases h1:id=22
 ·subst h1;clear e;go_enter func143,ntmps143;go_wp2;go_ret;exact ⟨by simp,rfl⟩
 by_cases h2:id=23
 ·subst h2;clear e;go_enter func143,ntmps143;go_wp2;go_ret;exact ⟨by simp,rfl⟩
 have q1:(id == 22)=false:=by simp [h1]
 have q2:(id == 23)=false:=by simp [h2]
 rw [q1,q2];clear e h1 h2;go_enter func143,ntmps143;go_wp2;go_ret;exact ⟨by simp,rfl⟩
theorem zD1 (o:Int):o=1 \/ o=2 \/ o=3 \/ o=4 \/ o=5 \/ o=6 \/ o=7 \/ o=8 \/ o=9 \/ o=10 \/ o=11 \/ o=12 \/ o=13 \/ o=14 \/ o=15 \/ o=16 \/ (o<1 \/ 16<o):=by omega
theorem zEz (x:Wc.In) (tv:Value) (w:World):CR 99 #[inV x tv] w (.tuple #[.int .i64 (Wc.swO x.op x.b).1,.int .i64 (Wc.swO x.op x.b).2]):=by
 have pA:=AtL.new0 w 56 (zAD x tv);have hB:=zAK (Below.refl _ w) (.cells (zAD x tv).toArray 56);have c0:(w.alloc (.cells (zAD x tv).toArray 56)).cell? ⟨w.heap.size,0,none⟩=some (.int .i64 x.op):=pA.2.1 0 _ rfl;have c2:(w.alloc (.cells (zAD x tv).toArray 56)).cell? ⟨w.heap.size,2,none⟩=some (.int .i64 x.b):=pA.2.1 2 _ rfl;obtain ⟨q,hq⟩:∃ q,Wc.swO x.op x.b=q:=⟨_,rfl⟩
 rw [hq];have HQ:Hid (Wc.swO x.op x.b=q):=hq;clear hq pA;rcases zD1 x.op with h | h | h | h | h | h | h | h | h | h | h | h | h | h | h | h | h
 case inr.inr.inr.inr.inr.inr.inr.inr.inr.inr.inr.inr.inr.inr.inr.inr =>
  have e:q=(0,0):=by
   have:=HQ.out;unfold Wc.swO at this;rw [<-this];repeat rw [if_neg (by omega)]
  have n1:(x.op == 1)=false:=by simp;omega
  have n2:(x.op == 2)=false:=by simp;omega
  have n3:(x.op == 3)=false:=by simp;omega
  have n4:(x.op == 4)=false:=by simp;omega
  have n5:(x.op == 5)=false:=by simp;omega
  have n6:(x.op == 6)=false:=by simp;omega
  have n7:(x.op == 7)=false:=by simp;omega
  have n8:(x.op == 8)=false:=by simp;omega
  have n9:(x.op == 9)=false:=by simp;omega
  have n10:(x.op == 10)=false:=by simp;omega
  have n11:(x.op == 11)=false:=by simp;omega
  have n12:(x.op == 12)=false:=by simp;omega
  have n13:(x.op == 13)=false:=by simp;omega
  have n14:(x.op == 14)=false:=by simp;omega
  have n15:(x.op == 15)=false:=by simp;omega
  have n16:(x.op == 16)=false:=by simp;omega
  clear HQ h;subst e;go_enter func99,ntmps99;go_upto_region 1 with fail
  generalize (w.alloc (.cells (zAD x tv).toArray 56))=W at *;go_wp2;go_ret2
  exact ⟨rfl,hB⟩
 all_goals
  have e:=HQ.out;rw [h] at c0 e;subst e;clear HQ h;go_enter func99,ntmps99;go_upto_region 1 with fail
  generalize (w.alloc (.cells (zAD x tv).toArray 56))=W at *;go_wp2;go_ret2
  exact ⟨rfl,hB⟩
