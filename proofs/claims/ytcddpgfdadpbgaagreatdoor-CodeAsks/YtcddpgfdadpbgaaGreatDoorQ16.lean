/- PWalkR, KWalkS. -/
import Derived.Test.YtcddpgfdadpbgaaGreatDoorQ15
set_option maxHeartbeats 4000000
set_option maxRecDepth 100000
namespace Go.Proofs.YtcddpgfdadpbgaaGreatDoor
open Tryz
open Go.RowKit
set_option linter.unusedVariables false
variable {W:World} {ka kb:Nat} {x y:Wc.In} {tv tu:Value}
theorem zDB {k:Nat} {s t l b r:Int} (h:AtL W k [.int .i64 s,.int .i64 t,.int .i64 l,.int .i64 s,.int .i64 b,.int .i64 r]):Cells W k 0 2 (Wpl.corners s t l b r):=λj hj=>by
 rcases (show j=0 \/ j=1 by omega) with rfl | rfl
 ·exact ⟨h.2.1 0 _ rfl,h.2.1 1 _ rfl,h.2.1 2 _ rfl⟩
 ·exact ⟨h.2.1 3 _ rfl,h.2.1 4 _ rfl,h.2.1 5 _ rfl⟩
theorem zAn (s t l b r:Int) (w:World) :
  CR 60 #[.agg #[.int .i64 s,.int .i64 t,.int .i64 l,.int .i64 b,.int .i64 r]] w (.bool (Wpl.rightA s t l b r)):=by
 have RH:Hid ((Wpl.hullOk (Wpl.corners s t l b r) 2 && Wpl.isA (Wpl.hullV (Wpl.corners s t l b r) 2) s t l b r)=Wpl.rightA s t l b r):=Wpl.rightA_hull s t l b r;have HL:=λ(k:Nat) (w:World) (hk:AtL w k [.int .i64 s,.int .i64 t,.int .i64 l,.int .i64 s,.int .i64 b,.int .i64 r])=>zDi k 0 2 2 (Wpl.corners s t l b r) w (by omega) (by omega) (by omega) (by omega) hk.lt (zDB hk)
 generalize Wpl.rightA s t l b r=A at *;generalize Wpl.hullOk (Wpl.corners s t l b r) 2=ok at *;generalize Wpl.hullV (Wpl.corners s t l b r) 2=V at *;obtain ⟨v0,v1,v2,v3,v4⟩:=V;go_enter func60,ntmps60;go_wp2_with fail
 have pA:=AtL.new w 49 rfl [.int .i64 s,.int .i64 t,.int .i64 l,.int .i64 b,.int .i64 r];have hB:Below w.heap.size w (w.alloc (.cells #[.int .i64 s,.int .i64 t,.int .i64 l,.int .i64 b,.int .i64 r] 49)):=(Below.refl _ _).alloc (Nat.le_refl _) _;generalize w.alloc (.cells #[.int .i64 s,.int .i64 t,.int .i64 l,.int .i64 b,.int .i64 r] 49)=W0 at *;go_cut [3,4] (λs3 s4 wx=>∃ K:Nat,s3=.pointer (some ⟨K,0,none⟩)/\s4=.bool ok/\Below w.heap.size w wx/\zEc wx K (.int .i64 v0) (.int .i64 v1) (.int .i64 v2) (.int .i64 v3) (.int .i64 v4)/\zEc wx w.heap.size (.int .i64 s) (.int .i64 t) (.int .i64 l) (.int .i64 b) (.int .i64 r))
 case first =>
  obtain ⟨a0,a1,a2,a3,a4,_,_,_,_,_⟩:=pA.five;have z0:=pA.lt;go_region_held3 (λW=>W.cell? ⟨w.heap.size,0,none⟩=some (.int .i64 s)/\W.cell? ⟨w.heap.size,1,none⟩=some (.int .i64 t)/\W.cell? ⟨w.heap.size,2,none⟩=some (.int .i64 l)/\W.cell? ⟨w.heap.size,3,none⟩=some (.int .i64 b)/\W.cell? ⟨w.heap.size,4,none⟩=some (.int .i64 r))
   (with_reducible first | exact ⟨a0,a1,a2,a3,a4⟩ | assumption | exact zBS (by assumption) _ | exact zC0 ⟨a0,a1,a2,a3,a4⟩ | exact zC0 (zBS ⟨a0,a1,a2,a3,a4⟩ _) | exact zAq hb1 (by assumption) | exact zAq hb2 (by assumption) | exact zAq hb3 (by assumption) | exact zBS s3 _ | exact zAg (zAg (zAg (zAg (zAg s3 (by omega) _ _) (by omega) _ _) (by omega) _ _) (by omega) _ _) (by omega) _ _)
   (first
   | (go_at_call 90;refine (zFx _ _ _ _ _ _).mono ?_;rintro e w1 ⟨rfl,hb1⟩;have z1:=hb1.size;try simp only [World.size_alloc,World.size_drew] at z1;(with_reducible first | have pK:=AtL.below hb1 ((AtL.new0 W0 49 [.int .i64 0,.int .i64 0,.int .i64 0,.int .i64 0,.int .i64 0]).drew) | skip))
   | (go_at_call 91;refine (zHJ _ _ _ _ _ _).mono ?_;rintro e w2 ⟨rfl,hb2⟩;have z2:=hb2.size;try simp only [World.size_alloc] at z2;(first | have pL:=AtL.below hb2 pK | (with_reducible have pL:=AtL.below hb2 (AtL.new0 w1 49 [.int .i64 0,.int .i64 0,.int .i64 0,.int .i64 0,.int .i64 0])) | skip))
   | (go_at_call 73;refine (HL _ _ (by with_reducible first | exact AtL.new0 _ _ _ | exact (AtL.new0 _ _ _).alloc _ | exact AtL.new1 _ _ _ _)).mono ?_;rintro e w3 ⟨rfl,hb3⟩;have z3:=hb3.size;try simp only [World.size_alloc] at z3;have s3:zEc w3 w.heap.size (.int .i64 s) (.int .i64 t) (.int .i64 l) (.int .i64 b) (.int .i64 r):=zAq hb3 (by assumption);(first | have pM:=AtL.below hb3 (AtL.alloc pL _) | have pM:=AtL.below hb3 (AtL.alloc (AtL.below hb2 pK) _) | (with_reducible have pM:=AtL.below hb3 ((AtL.new0 w2 49 [.int .i64 0,.int .i64 0,.int .i64 0,.int .i64 0,.int .i64 0]).alloc _)) | (with_reducible have pM:=AtL.below hb3 (AtL.new1 w2 _ 49 [.int .i64 0,.int .i64 0,.int .i64 0,.int .i64 0,.int .i64 0])) | skip);(first | obtain ⟨k0,k1,k2,k3,k4,f0,f1,f2,f3,f4⟩:=pM.five | skip)))
  all_goals
   go_wp2_with fail
   go_meet
   case rel =>
    go_light
    refine ⟨_,rfl,rfl,?_,?_,?_⟩
    ·have hB3:Below w.heap.size w w3:=clA
     with_reducible first | exact zB4 hB3 _ | exact zBE hB3 (by omega) _ _ _ _ _
    ·with_reducible first | exact (AtL.new0 _ _ _).f5 | exact (pM.put5 _ _ _ _ _).f5
    ·with_reducible first | exact zBS s3 _ | exact zAg (zAg (zAg (zAg (zAg s3 (by omega) _ _) (by omega) _ _) (by omega) _ _) (by omega) _ _) (by omega) _ _
 case rest =>
  obtain ⟨K,rfl,rfl,hB',k5,a5⟩:=hcut;clear pA hB HL;obtain ⟨k0,k1,k2,k3,k4⟩:=k5;obtain ⟨a0,a1,a2,a3,a4⟩:=a5;cases ok with
  | false =>
   go_wp2;go_ret;exact ⟨by rw [<-RH.out];rfl,clA⟩
  | true =>
   go_wp2;all_goals
    go_ret;refine ⟨?_,clA⟩;rw [<-RH.out];exact zBi (by simp [Wpl.isA, *])
abbrev zKO (ka kb:Nat) (x:Wc.In) (tv:Value) (W:World):Prop :=
 W.cell? ⟨ka,9,none⟩=some (.int .i64 x.ce.s)/\W.cell? ⟨ka,10,none⟩=some (.int .i64 x.ce.r)/\W.cell? ⟨ka,11,none⟩=some (.int .i64 x.ce.c)/\W.frozen? ⟨kb,9,none⟩=false/\W.frozen? ⟨kb,10,none⟩=false/\W.frozen? ⟨kb,11,none⟩=false
theorem zD2 (h0:AtL W ka (zAD x tv)) (h1:AtL W kb (zAD y tu)):zKO ka kb x tv W :=
 ⟨h0.2.1 9 _ rfl,h0.2.1 10 _ rfl,h0.2.1 11 _ rfl,h1.2.2 9 (by show 9<23;decide),h1.2.2 10 (by show 10<23;decide),h1.2.2 11 (by show 11<23;decide)⟩
theorem zBx (h:zKO ka kb x tv W) (hne:kb ≠ ka) (j:Nat) (u:Value):zKO ka kb x tv (W.setCell ⟨kb,j,none⟩ u):=by
 obtain ⟨h9,h10,h11,g9,g10,g11⟩:=h;refine ⟨?_,?_,?_,?_,?_,?_⟩;any_goals rw [World.cell?_setCell_far _ _ _ _ (by simpa using hne)];assumption
 all_goals rw [World.frozen?_setCell];assumption
theorem zHi (x:Wc.In) (av:Option Addr) (n c:Nat) (tl:List Int) (w:World) (hk:x.op=2) (hz:RdZ w (.slice av n c) tl) (hl:tl.length<=1000000) :
  CR 33 #[inV x (.slice av n c)] w (.bool (Wpl.rightC x.ce.s x.ce.r x.ce.c && (smI x ⟨2,0,0,v0I,x.ce,a0I,a0I⟩ && decide (tl=[])))):=by
 have C:=(λw=>zAt x.ce.s x.ce.r x.ce.c w:∀ w:World,CR 27 #[.agg #[.int .i64 x.ce.s,.int .i64 x.ce.r,.int .i64 x.ce.c]] w (.bool (Wpl.rightC x.ce.s x.ce.r x.ce.c)))
 have CS:∀ w',Below w.heap.size w w'->Calls prog 62 #[.agg (zAD x (.slice av n c)).toArray,.agg (zAD ⟨2,0,0,v0I,x.ce,a0I,a0I⟩ zAG).toArray] w' λe w''=>e=.returned (.bool (smI x ⟨2,0,0,v0I,x.ce,a0I,a0I⟩ && decide (tl=[])))/\Below w'.heap.size w' w'':=λw' hb=>zAV x ⟨2,0,0,v0I,x.ce,a0I,a0I⟩ _ _ tl [] w' (hz.below hb) (RdZ.nil _) hl (by first | exact hl | simp)
 obtain ⟨tv,htv⟩:∃ tv,Value.slice av n c=tv:=⟨_,rfl⟩
 rw [htv] at CS ⊢;generalize (smI x ⟨2,0,0,v0I,x.ce,a0I,a0I⟩ && decide (tl=[]))=R at *;generalize Wpl.rightC x.ce.s x.ce.r x.ce.c=q at *;have pA0:AtL (zAI w x tv) w.heap.size (zAD x tv):=(AtL.new0 w _ _).alloc _;have pO0:AtL (zAI w x tv) (w.heap.size+1) (zAD (zAE 0) zAG):=AtL.new1 w _ _ _;have hth:World.there (zAI w x tv) (w.heap.size+1) 0 (zAD (zAE 2) zAG).toArray.size:=pO0.there;have hne:w.heap.size+1 ≠ w.heap.size:=by omega
 have pA:=pA0.farAll hne 0 (zAD (zAE 2) zAG);have pO:AtL ((zAI w x tv).setCells (w.heap.size+1) 0 (zAD (zAE 2) zAG)) (w.heap.size+1) (zAD (zAE 2) zAG):=pO0.setAll rfl;have hBa:Below w.heap.size w ((zAI w x tv).setCells (w.heap.size+1) 0 (zAD (zAE 2) zAG)):=zA8 (zAJ (zAJ (Below.refl _ w) _) _) (Nat.le_succ _) _ 0;clear pA0 pO0;have n0:(zAD x tv)[0]? = some (.int .i64 2):=by rw [<-hk];rfl
 have a0:World.cell? ((zAI w x tv).setCells (w.heap.size+1) 0 (zAD (zAE 2) zAG)) ⟨w.heap.size,0,none⟩=some (.int .i64 2):=pA.2.1 0 _ n0;show Calls _ _ #[.agg (zAD x tv).toArray] _ _
 have hS:zKO w.heap.size (w.heap.size+1) x tv ((zAI w x tv).setCells (w.heap.size+1) 0 (zAD (zAE 2) zAG)):=zD2 pA pO;clear hz hl htv;cases q
 all_goals
  go_enter func33,ntmps33;go_upto_region 1 with fail
  go_upto_region 2 with ((with_reducible refine wpList_store_mid ?_ 52 (.tmp 3) (.tmp 7) ?_ (w.heap.size+1) 0 (zAD (zAE 2) zAG).toArray ?_ ?_ ?_ ?_ ?_ ?_);rfl;rfl;rfl;rfl;exact hth;kernel_rfl;exact zAT _ _ _ _)
  generalize (zAI w x tv).setCells (w.heap.size+1) 0 (zAD (zAE 2) zAG)=W0 at *;clear hth;go_upto_region 6 with fail
  go_region_held3 (zKO w.heap.size (w.heap.size+1) x tv)
   (with_reducible first | exact hS | assumption | exact zD2 pA1 pO1 | exact (zBx (zBx (zBx (by assumption) (by omega) _ _) (by omega) _ _) (by omega) _ _) | exact zD2 (AtL.drew pA) (AtL.drew pO))
   (first | (go_at_call 27;refine (C _).mono ?_;rintro e w1 ⟨rfl,hb⟩;have pA1:=AtL.below hb (AtL.drew pA);have pO1:=AtL.below hb (AtL.drew pO);have o9:=pO1.2.1 9 _ rfl;have o10:=pO1.2.1 10 _ rfl;have o11:=pO1.2.1 11 _ rfl;have hB1:=zAB hBa.drew hb))
  all_goals
   clear pA pO hS C hBa o9 o10 o11 a0;have pA2:AtL (((w1.setCell ⟨w.heap.size+1,9,none⟩ (.int .i64 x.ce.s)).setCell ⟨w.heap.size+1,10,none⟩ (.int .i64 x.ce.r)).setCell ⟨w.heap.size+1,11,none⟩ (.int .i64 x.ce.c)) w.heap.size (zAD x tv):=(((pA1.far hne 9 (.int .i64 x.ce.s)).far hne 10 (.int .i64 x.ce.r)).far hne 11 (.int .i64 x.ce.c))
   have pO2:AtL (((w1.setCell ⟨w.heap.size+1,9,none⟩ (.int .i64 x.ce.s)).setCell ⟨w.heap.size+1,10,none⟩ (.int .i64 x.ce.r)).setCell ⟨w.heap.size+1,11,none⟩ (.int .i64 x.ce.c)) (w.heap.size+1) (zAD ⟨2,0,0,v0I,x.ce,a0I,a0I⟩ zAG):=(((pO1.set 9 (.int .i64 x.ce.s)).set 10 (.int .i64 x.ce.r)).set 11 (.int .i64 x.ce.c))
   have hB2:Below w.heap.size w (((w1.setCell ⟨w.heap.size+1,9,none⟩ (.int .i64 x.ce.s)).setCell ⟨w.heap.size+1,10,none⟩ (.int .i64 x.ce.r)).setCell ⟨w.heap.size+1,11,none⟩ (.int .i64 x.ce.c)):=(clB hB1)
   clear pA1 pO1 hB1;generalize (((w1.setCell ⟨w.heap.size+1,9,none⟩ (.int .i64 x.ce.s)).setCell ⟨w.heap.size+1,10,none⟩ (.int .i64 x.ce.r)).setCell ⟨w.heap.size+1,11,none⟩ (.int .i64 x.ce.c))=W2 at *;have rA:=pA2.range;have rO:=pO2.range;clear pA2 pO2;go_wp2_with (first | ((with_reducible refine zAA ?_ 52 (.tmp 1) ?_ w.heap.size 0 ?_ (zAD x tv) _ ?_ underlying52 ?_ ?_ ?_);rfl;rfl;rfl;exact rA;rfl;kernel_rfl) | ((with_reducible refine zAA ?_ 52 (.tmp 3) ?_ (w.heap.size+1) 0 ?_ (zAD ⟨2,0,0,v0I,x.ce,a0I,a0I⟩ zAG) _ ?_ underlying52 ?_ ?_ ?_);rfl;rfl;rfl;exact rO;rfl;kernel_rfl) | (go_at_call 62;refine (CS _ hB2).mono ?_;rintro e w3 ⟨rfl,hb3⟩;have hB3:=zAB hB2 hb3))
   go_wp2;go_ret;first
   | exact ⟨by simp,hB2⟩
   | exact ⟨by simp,hB3⟩
abbrev zKh (ka kb:Nat) (x:Wc.In) (tv:Value) (W:World):Prop :=
 W.cell? ⟨ka,12,none⟩=some (.int .i64 x.ar.s)/\W.cell? ⟨ka,13,none⟩=some (.int .i64 x.ar.t)/\W.cell? ⟨ka,14,none⟩=some (.int .i64 x.ar.l)/\W.cell? ⟨ka,15,none⟩=some (.int .i64 x.ar.b)/\W.cell? ⟨ka,16,none⟩=some (.int .i64 x.ar.r)/\W.frozen? ⟨kb,12,none⟩=false/\W.frozen? ⟨kb,13,none⟩=false/\W.frozen? ⟨kb,14,none⟩=false/\W.frozen? ⟨kb,15,none⟩=false/\W.frozen? ⟨kb,16,none⟩=false
theorem zDK (h0:AtL W ka (zAD x tv)) (h1:AtL W kb (zAD y tu)):zKh ka kb x tv W :=
 ⟨h0.2.1 12 _ rfl,h0.2.1 13 _ rfl,h0.2.1 14 _ rfl,h0.2.1 15 _ rfl,h0.2.1 16 _ rfl,h1.2.2 12 (by show 12<23;decide),h1.2.2 13 (by show 13<23;decide),h1.2.2 14 (by show 14<23;decide),h1.2.2 15 (by show 15<23;decide),h1.2.2 16 (by show 16<23;decide)⟩
theorem zB1 (h:zKh ka kb x tv W) (hne:kb ≠ ka) (j:Nat) (u:Value):zKh ka kb x tv (W.setCell ⟨kb,j,none⟩ u):=by
 obtain ⟨h12,h13,h14,h15,h16,g12,g13,g14,g15,g16⟩:=h;refine ⟨?_,?_,?_,?_,?_,?_,?_,?_,?_,?_⟩;any_goals rw [World.cell?_setCell_far _ _ _ _ (by simpa using hne)];assumption
 all_goals rw [World.frozen?_setCell];assumption
theorem zGx (x:Wc.In) (av:Option Addr) (n c:Nat) (tl:List Int) (w:World) (hk:x.op=8) (hz:RdZ w (.slice av n c) tl) (hl:tl.length<=1000000) :
  CR 33 #[inV x (.slice av n c)] w (.bool (Wpl.rightA x.ar.s x.ar.t x.ar.l x.ar.b x.ar.r && (smI x ⟨8,0,0,v0I,c0I,x.ar,a0I⟩ && decide (tl=[])))):=by
 have C:=(λw=>zAn x.ar.s x.ar.t x.ar.l x.ar.b x.ar.r w:∀ w:World,CR 60 #[.agg #[.int .i64 x.ar.s,.int .i64 x.ar.t,.int .i64 x.ar.l,.int .i64 x.ar.b,.int .i64 x.ar.r]] w (.bool (Wpl.rightA x.ar.s x.ar.t x.ar.l x.ar.b x.ar.r)))
 have CS:∀ w',Below w.heap.size w w'->Calls prog 62 #[.agg (zAD x (.slice av n c)).toArray,.agg (zAD ⟨8,0,0,v0I,c0I,x.ar,a0I⟩ zAG).toArray] w' λe w''=>e=.returned (.bool (smI x ⟨8,0,0,v0I,c0I,x.ar,a0I⟩ && decide (tl=[])))/\Below w'.heap.size w' w'':=λw' hb=>zAV x ⟨8,0,0,v0I,c0I,x.ar,a0I⟩ _ _ tl [] w' (hz.below hb) (RdZ.nil _) hl (by first | exact hl | simp)
 obtain ⟨tv,htv⟩:∃ tv,Value.slice av n c=tv:=⟨_,rfl⟩
 rw [htv] at CS ⊢;generalize (smI x ⟨8,0,0,v0I,c0I,x.ar,a0I⟩ && decide (tl=[]))=R at *;generalize Wpl.rightA x.ar.s x.ar.t x.ar.l x.ar.b x.ar.r=q at *;have pA0:AtL (zAI w x tv) w.heap.size (zAD x tv):=(AtL.new0 w _ _).alloc _;have pO0:AtL (zAI w x tv) (w.heap.size+1) (zAD (zAE 0) zAG):=AtL.new1 w _ _ _;have hth:World.there (zAI w x tv) (w.heap.size+1) 0 (zAD (zAE 8) zAG).toArray.size:=pO0.there;have hne:w.heap.size+1 ≠ w.heap.size:=by omega
 have pA:=pA0.farAll hne 0 (zAD (zAE 8) zAG);have pO:AtL ((zAI w x tv).setCells (w.heap.size+1) 0 (zAD (zAE 8) zAG)) (w.heap.size+1) (zAD (zAE 8) zAG):=pO0.setAll rfl;have hBa:Below w.heap.size w ((zAI w x tv).setCells (w.heap.size+1) 0 (zAD (zAE 8) zAG)):=zA8 (zAJ (zAJ (Below.refl _ w) _) _) (Nat.le_succ _) _ 0;clear pA0 pO0;have n0:(zAD x tv)[0]? = some (.int .i64 8):=by rw [<-hk];rfl
 have a0:World.cell? ((zAI w x tv).setCells (w.heap.size+1) 0 (zAD (zAE 8) zAG)) ⟨w.heap.size,0,none⟩=some (.int .i64 8):=pA.2.1 0 _ n0;show Calls _ _ #[.agg (zAD x tv).toArray] _ _
 have hS:zKh w.heap.size (w.heap.size+1) x tv ((zAI w x tv).setCells (w.heap.size+1) 0 (zAD (zAE 8) zAG)):=zDK pA pO;clear hz hl htv;cases q
 all_goals
  go_enter func33,ntmps33;go_upto_region 1 with fail
  go_upto_region 2 with ((with_reducible refine wpList_store_mid ?_ 52 (.tmp 3) (.tmp 7) ?_ (w.heap.size+1) 0 (zAD (zAE 8) zAG).toArray ?_ ?_ ?_ ?_ ?_ ?_);rfl;rfl;rfl;rfl;exact hth;kernel_rfl;exact zAT _ _ _ _)
  generalize (zAI w x tv).setCells (w.heap.size+1) 0 (zAD (zAE 8) zAG)=W0 at *;clear hth;go_upto_region 20 with fail
  go_region_held3 (zKh w.heap.size (w.heap.size+1) x tv)
   (with_reducible first | exact hS | assumption | exact zDK pA1 pO1 | exact (zB1 (zB1 (zB1 (zB1 (zB1 (by assumption) (by omega) _ _) (by omega) _ _) (by omega) _ _) (by omega) _ _) (by omega) _ _) | exact zDK (AtL.drew pA) (AtL.drew pO))
   (first | (go_at_call 60;refine (C _).mono ?_;rintro e w1 ⟨rfl,hb⟩;have pA1:=AtL.below hb (AtL.drew pA);have pO1:=AtL.below hb (AtL.drew pO);have o12:=pO1.2.1 12 _ rfl;have o13:=pO1.2.1 13 _ rfl;have o14:=pO1.2.1 14 _ rfl;have o15:=pO1.2.1 15 _ rfl;have o16:=pO1.2.1 16 _ rfl;have hB1:=zAB hBa.drew hb))
  all_goals
   clear pA pO hS C hBa o12 o13 o14 o15 o16 a0;have pA2:AtL (((((w1.setCell ⟨w.heap.size+1,12,none⟩ (.int .i64 x.ar.s)).setCell ⟨w.heap.size+1,13,none⟩ (.int .i64 x.ar.t)).setCell ⟨w.heap.size+1,14,none⟩ (.int .i64 x.ar.l)).setCell ⟨w.heap.size+1,15,none⟩ (.int .i64 x.ar.b)).setCell ⟨w.heap.size+1,16,none⟩ (.int .i64 x.ar.r)) w.heap.size (zAD x tv):=(((((pA1.far hne 12 (.int .i64 x.ar.s)).far hne 13 (.int .i64 x.ar.t)).far hne 14 (.int .i64 x.ar.l)).far hne 15 (.int .i64 x.ar.b)).far hne 16 (.int .i64 x.ar.r))
   have pO2:AtL (((((w1.setCell ⟨w.heap.size+1,12,none⟩ (.int .i64 x.ar.s)).setCell ⟨w.heap.size+1,13,none⟩ (.int .i64 x.ar.t)).setCell ⟨w.heap.size+1,14,none⟩ (.int .i64 x.ar.l)).setCell ⟨w.heap.size+1,15,none⟩ (.int .i64 x.ar.b)).setCell ⟨w.heap.size+1,16,none⟩ (.int .i64 x.ar.r)) (w.heap.size+1) (zAD ⟨8,0,0,v0I,c0I,x.ar,a0I⟩ zAG):=(((((pO1.set 12 (.int .i64 x.ar.s)).set 13 (.int .i64 x.ar.t)).set 14 (.int .i64 x.ar.l)).set 15 (.int .i64 x.ar.b)).set 16 (.int .i64 x.ar.r))
   have hB2:Below w.heap.size w (((((w1.setCell ⟨w.heap.size+1,12,none⟩ (.int .i64 x.ar.s)).setCell ⟨w.heap.size+1,13,none⟩ (.int .i64 x.ar.t)).setCell ⟨w.heap.size+1,14,none⟩ (.int .i64 x.ar.l)).setCell ⟨w.heap.size+1,15,none⟩ (.int .i64 x.ar.b)).setCell ⟨w.heap.size+1,16,none⟩ (.int .i64 x.ar.r)):=(clB hB1)
   clear pA1 pO1 hB1;generalize (((((w1.setCell ⟨w.heap.size+1,12,none⟩ (.int .i64 x.ar.s)).setCell ⟨w.heap.size+1,13,none⟩ (.int .i64 x.ar.t)).setCell ⟨w.heap.size+1,14,none⟩ (.int .i64 x.ar.l)).setCell ⟨w.heap.size+1,15,none⟩ (.int .i64 x.ar.b)).setCell ⟨w.heap.size+1,16,none⟩ (.int .i64 x.ar.r))=W2 at *;have rA:=pA2.range;have rO:=pO2.range;clear pA2 pO2;go_wp2_with (first | ((with_reducible refine zAA ?_ 52 (.tmp 1) ?_ w.heap.size 0 ?_ (zAD x tv) _ ?_ underlying52 ?_ ?_ ?_);rfl;rfl;rfl;exact rA;rfl;kernel_rfl) | ((with_reducible refine zAA ?_ 52 (.tmp 3) ?_ (w.heap.size+1) 0 ?_ (zAD ⟨8,0,0,v0I,c0I,x.ar,a0I⟩ zAG) _ ?_ underlying52 ?_ ?_ ?_);rfl;rfl;rfl;exact rO;rfl;kernel_rfl) | (go_at_call 62;refine (CS _ hB2).mono ?_;rintro e w3 ⟨rfl,hb3⟩;have hB3:=zAB hB2 hb3))
   go_wp2;go_ret;first
   | exact ⟨by simp,hB2⟩
   | exact ⟨by simp,hB3⟩
abbrev zKL (ka kb:Nat) (x:Wc.In) (tv:Value) (W:World):Prop :=
 W.cell? ⟨ka,1,none⟩=some (.int .i64 x.a)/\W.cell? ⟨ka,2,none⟩=some (.int .i64 x.b)/\W.frozen? ⟨kb,1,none⟩=false/\W.frozen? ⟨kb,2,none⟩=false
theorem zDY (h0:AtL W ka (zAD x tv)) (h1:AtL W kb (zAD y tu)):zKL ka kb x tv W :=
 ⟨h0.2.1 1 _ rfl,h0.2.1 2 _ rfl,h1.2.2 1 (by show 1<23;decide),h1.2.2 2 (by show 2<23;decide)⟩
theorem zCK (h:zKL ka kb x tv W) (hne:kb ≠ ka) (j:Nat) (u:Value):zKL ka kb x tv (W.setCell ⟨kb,j,none⟩ u):=by
 obtain ⟨h1,h2,g1,g2⟩:=h;refine ⟨?_,?_,?_,?_⟩;any_goals rw [World.cell?_setCell_far _ _ _ _ (by simpa using hne)];assumption
 all_goals rw [World.frozen?_setCell];assumption
theorem zGh (x:Wc.In) (av:Option Addr) (n c:Nat) (tl:List Int) (w:World) (hk:x.op=5) (hz:RdZ w (.slice av n c) tl) (hl:tl.length<=1000000) (hN:NmAt w) :
  CR 33 #[inV x (.slice av n c)] w (.bool (apl x.a x.b && (smI x ⟨5,x.a,x.b,v0I,c0I,a0I,a0I⟩ && decide (tl=[])))):=by
 have C:=(λw' hb=>zDP x.a x.b w' (hN.below hb):∀ w':World,Below w.heap.size w w'->Calls prog 58 #[.int .i64 x.a,.int .i64 x.b] w' λe w''=>e=.returned (.bool (apl x.a x.b))/\Below w'.heap.size w' w'')
 have CS:∀ w',Below w.heap.size w w'->Calls prog 62 #[.agg (zAD x (.slice av n c)).toArray,.agg (zAD ⟨5,x.a,x.b,v0I,c0I,a0I,a0I⟩ zAG).toArray] w' λe w''=>e=.returned (.bool (smI x ⟨5,x.a,x.b,v0I,c0I,a0I,a0I⟩ && decide (tl=[])))/\Below w'.heap.size w' w'':=λw' hb=>zAV x ⟨5,x.a,x.b,v0I,c0I,a0I,a0I⟩ _ _ tl [] w' (hz.below hb) (RdZ.nil _) hl (by first | exact hl | simp)
 obtain ⟨tv,htv⟩:∃ tv,Value.slice av n c=tv:=⟨_,rfl⟩
 rw [htv] at CS ⊢;generalize (smI x ⟨5,x.a,x.b,v0I,c0I,a0I,a0I⟩ && decide (tl=[]))=R at *;generalize apl x.a x.b=q at *;have pA0:AtL (zAI w x tv) w.heap.size (zAD x tv):=(AtL.new0 w _ _).alloc _;have pO0:AtL (zAI w x tv) (w.heap.size+1) (zAD (zAE 0) zAG):=AtL.new1 w _ _ _;have hth:World.there (zAI w x tv) (w.heap.size+1) 0 (zAD (zAE 5) zAG).toArray.size:=pO0.there;have hne:w.heap.size+1 ≠ w.heap.size:=by omega
 have pA:=pA0.farAll hne 0 (zAD (zAE 5) zAG);have pO:AtL ((zAI w x tv).setCells (w.heap.size+1) 0 (zAD (zAE 5) zAG)) (w.heap.size+1) (zAD (zAE 5) zAG):=pO0.setAll rfl;have hBa:Below w.heap.size w ((zAI w x tv).setCells (w.heap.size+1) 0 (zAD (zAE 5) zAG)):=zA8 (zAJ (zAJ (Below.refl _ w) _) _) (Nat.le_succ _) _ 0;clear pA0 pO0;have n0:(zAD x tv)[0]? = some (.int .i64 5):=by rw [<-hk];rfl
 have a0:World.cell? ((zAI w x tv).setCells (w.heap.size+1) 0 (zAD (zAE 5) zAG)) ⟨w.heap.size,0,none⟩=some (.int .i64 5):=pA.2.1 0 _ n0;show Calls _ _ #[.agg (zAD x tv).toArray] _ _
 have hS:zKL w.heap.size (w.heap.size+1) x tv ((zAI w x tv).setCells (w.heap.size+1) 0 (zAD (zAE 5) zAG)):=zDY pA pO;clear hz hl htv hN;cases q
 all_goals
  go_enter func33,ntmps33;go_upto_region 1 with fail
  go_upto_region 2 with ((with_reducible refine wpList_store_mid ?_ 52 (.tmp 3) (.tmp 7) ?_ (w.heap.size+1) 0 (zAD (zAE 5) zAG).toArray ?_ ?_ ?_ ?_ ?_ ?_);rfl;rfl;rfl;rfl;exact hth;kernel_rfl;exact zAT _ _ _ _)
  generalize (zAI w x tv).setCells (w.heap.size+1) 0 (zAD (zAE 5) zAG)=W0 at *;clear hth;go_upto_region 12 with fail
  go_region_held3 (zKL w.heap.size (w.heap.size+1) x tv)
   (with_reducible first | exact hS | assumption | exact zDY pA1 pO1 | exact (zCK (by assumption) (by omega) _ _) | exact (zCK (zCK (by assumption) (by omega) _ _) (by omega) _ _) | exact zDY (AtL.drew pA) (AtL.drew pO))
   (first | (go_at_call 58;refine (C _ hBa.drew).mono ?_;rintro e w1 ⟨rfl,hb⟩;have pA1:=AtL.below hb (AtL.drew pA);have pO1:=AtL.below hb (AtL.drew pO);have o1:=pO1.2.1 1 _ rfl;have o2:=pO1.2.1 2 _ rfl;have hB1:=zAB hBa.drew hb))
  all_goals
   clear pA pO hS C hBa o1 o2 a0;have pA2:AtL ((w1.setCell ⟨w.heap.size+1,1,none⟩ (.int .i64 x.a)).setCell ⟨w.heap.size+1,2,none⟩ (.int .i64 x.b)) w.heap.size (zAD x tv):=((pA1.far hne 1 (.int .i64 x.a)).far hne 2 (.int .i64 x.b))
   have pO2:AtL ((w1.setCell ⟨w.heap.size+1,1,none⟩ (.int .i64 x.a)).setCell ⟨w.heap.size+1,2,none⟩ (.int .i64 x.b)) (w.heap.size+1) (zAD ⟨5,x.a,x.b,v0I,c0I,a0I,a0I⟩ zAG):=((pO1.set 1 (.int .i64 x.a)).set 2 (.int .i64 x.b))
   have hB2:Below w.heap.size w ((w1.setCell ⟨w.heap.size+1,1,none⟩ (.int .i64 x.a)).setCell ⟨w.heap.size+1,2,none⟩ (.int .i64 x.b)):=(clB hB1)
   clear pA1 pO1 hB1;generalize ((w1.setCell ⟨w.heap.size+1,1,none⟩ (.int .i64 x.a)).setCell ⟨w.heap.size+1,2,none⟩ (.int .i64 x.b))=W2 at *;have rA:=pA2.range;have rO:=pO2.range;clear pA2 pO2;go_wp2_with (first | ((with_reducible refine zAA ?_ 52 (.tmp 1) ?_ w.heap.size 0 ?_ (zAD x tv) _ ?_ underlying52 ?_ ?_ ?_);rfl;rfl;rfl;exact rA;rfl;kernel_rfl) | ((with_reducible refine zAA ?_ 52 (.tmp 3) ?_ (w.heap.size+1) 0 ?_ (zAD ⟨5,x.a,x.b,v0I,c0I,a0I,a0I⟩ zAG) _ ?_ underlying52 ?_ ?_ ?_);rfl;rfl;rfl;exact rO;rfl;kernel_rfl) | (go_at_call 62;refine (CS _ hB2).mono ?_;rintro e w3 ⟨rfl,hb3⟩;have hB3:=zAB hB2 hb3))
   go_wp2;go_ret;first
   | exact ⟨by simp,hB2⟩
   | exact ⟨by simp,hB3⟩
