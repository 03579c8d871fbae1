/- KOpenC, KSix, PWalkB, PWalkH. -/
import Derived.Test.YtcddpgfdadpbgaaGreatDoorQ14
set_option maxHeartbeats 4000000
set_option maxRecDepth 100000
namespace Go.Proofs.YtcddpgfdadpbgaaGreatDoor
open Tryz
open Go.RowKit
set_option linter.unusedVariables false
variable {W:World} {ka kb:Nat} {x:Wc.In} {tv:Value}
theorem zIr (id:Int) (vl:List Value) (q:Bool) (w:World) (BG:∀ w,CR 125 #[.int .i64 id] w (.agg vl.toArray))
  (ST:∀ w,Calls prog 124 #[.agg vl.toArray] w λe w'=>(∃ v,e=.returned (.tuple #[v,.bool q]))/\Below w.heap.size w w') :
  Calls prog 89 #[.int .i64 id] w λe w'=>(∃ v,e=.returned (.tuple #[v,.int .i64 (if q=true then 0 else 1)]))/\Below w.heap.size w w':=by
 go_enter func89,ntmps89;go_wp2_with fail
 refine (BG _).mono ?_;rintro e w1 ⟨rfl,hb1⟩;go_wp2_with fail
 refine (ST _).mono ?_;rintro e w2 ⟨⟨v,rfl⟩,hb2⟩;have hB:=zAB hb1 hb2;clear hb1 hb2 BG ST;cases q
 ·go_wp2;go_ret2
  exact ⟨⟨_,rfl⟩,hB⟩
 ·go_wp2;go_ret2
  exact ⟨⟨_,rfl⟩,hB⟩
theorem zL3 {id:Int} (h:fld id=false):∀ p ∈ kT,p.1 ≠ id:=by
 intro p hp e;unfold fld at h;rw [decide_eq_false_iff_not] at h;apply h
 simp only [kT,List.mem_cons,List.not_mem_nil,or_false] at hp;rcases hp with rfl | rfl | rfl | rfl | rfl | rfl | rfl | rfl | rfl | rfl | rfl | rfl | rfl | rfl | rfl | rfl | rfl | rfl | rfl | rfl <;> simp only at e <;> omega
theorem zF1 (id:Int):∃ n k,∀ w:World,CR 125 #[.int .i64 id] w (.agg (zAF id n k).toArray):=by
 by_cases h2:id=2
 ·rw [h2];exact ⟨1,0,zJU⟩
 ·by_cases h11:id=11
  ·rw [h11];exact ⟨0,2,zHv⟩
  ·exact ⟨0,0,λw=>zI3 id w h2 h11⟩
theorem zGI (id n k:Int) (w:World):Calls prog 124 #[.agg (zAF id n k).toArray] w λe w'=>(∃ v,e=.returned (.tuple #[v,.bool (fld id)]))/\Below w.heap.size w w':=by
 cases h:fld id with
 | false=>exact zH2 id n k w (zL3 h)
 | true =>
  have hc:id=1 \/ id=2 \/ id=3 \/ id=4 \/ id=5 \/ id=6 \/ id=7 \/ id=8 \/ id=9 \/ id=10 \/ id=11 \/ id=12 \/ id=13 \/ id=14 \/ id=15 \/ id=20 \/ id=21 \/ id=22 \/ id=23 \/ id=24:=by
   unfold fld at h;rw [decide_eq_true_eq] at h;omega
  rcases hc with rfl | rfl | rfl | rfl | rfl | rfl | rfl | rfl | rfl | rfl | rfl | rfl | rfl | rfl | rfl | rfl | rfl | rfl | rfl | rfl
  ·exact zIk n k w
  ·exact zJ9 n k w
  ·exact zJi n k w
  ·exact zJY n k w
  ·exact zJM n k w
  ·exact zJP n k w
  ·exact zJp n k w
  ·exact zKH n k w
  ·exact zJt n k w
  ·exact zHX n k w
  ·exact zG6 n k w
  ·exact zGk n k w
  ·exact zHe n k w
  ·exact zHS n k w
  ·exact zHl n k w
  ·exact zHG n k w
  ·exact zHw n k w
  ·exact zIG n k w
  ·exact zGo n k w
  ·exact zHj n k w
theorem zGE (id:Int) (w:World):CR 59 #[.int .i64 id] w (.bool (fld id)):=by
 obtain ⟨n,k,BG⟩:=zF1 id;have FO:=zIr id (zAF id n k) (fld id) w BG (zGI id n k);generalize fld id=q at *;clear BG;go_enter func59,ntmps59;go_wp2_with fail
 refine FO.mono ?_;rintro e w1 ⟨⟨v,rfl⟩,hb1⟩;cases q
 ·go_wp2;go_ret;exact ⟨by simp,hb1⟩
 ·go_wp2;go_ret;exact ⟨by simp,hb1⟩
abbrev zLM (ka kb:Nat) (x:Wc.In) (tv:Value) (W:World):Prop :=
 W.cell? ⟨ka,1,none⟩=some (.int .i64 x.a)/\W.frozen? ⟨kb,1,none⟩=false
theorem zDL {y:Wc.In} {tu:Value} (h0:AtL W ka (zAD x tv)) (h1:AtL W kb (zAD y tu)):zLM ka kb x tv W :=
 ⟨h0.2.1 1 _ rfl,h1.2.2 1 (by show 1<23;decide)⟩
theorem zHY (h:zLM ka kb x tv W) (hne:kb ≠ ka) (j:Nat) (u:Value):zLM ka kb x tv (W.setCell ⟨kb,j,none⟩ u):=by
 obtain ⟨h1,g1⟩:=h;refine ⟨?_,?_⟩;any_goals rw [World.cell?_setCell_far _ _ _ _ (by simpa using hne)];assumption
 all_goals rw [World.frozen?_setCell];assumption
theorem zGl (x:Wc.In) (av:Option Addr) (n c:Nat) (tl:List Int) (w:World) (hk:x.op=6) (hz:RdZ w (.slice av n c) tl) (hl:tl.length<=1000000) :
  CR 33 #[inV x (.slice av n c)] w (.bool (fld x.a && (smI x ⟨6,x.a,0,v0I,c0I,a0I,a0I⟩ && decide (tl=[])))):=by
 have C:=(λw=>zGE x.a w:∀ w:World,CR 59 #[.int .i64 x.a] w (.bool (fld x.a)))
 have CS:∀ w',Below w.heap.size w w'->Calls prog 62 #[.agg (zAD x (.slice av n c)).toArray,.agg (zAD ⟨6,x.a,0,v0I,c0I,a0I,a0I⟩ zAG).toArray] w' λe w''=>e=.returned (.bool (smI x ⟨6,x.a,0,v0I,c0I,a0I,a0I⟩ && decide (tl=[])))/\Below w'.heap.size w' w'':=λw' hb=>zAV x ⟨6,x.a,0,v0I,c0I,a0I,a0I⟩ _ _ tl [] w' (hz.below hb) (RdZ.nil _) hl (by first | exact hl | simp)
 obtain ⟨tv,htv⟩:∃ tv,Value.slice av n c=tv:=⟨_,rfl⟩
 rw [htv] at CS ⊢;generalize (smI x ⟨6,x.a,0,v0I,c0I,a0I,a0I⟩ && decide (tl=[]))=R at *;generalize fld x.a=q at *;have pA0:AtL (zAI w x tv) w.heap.size (zAD x tv):=(AtL.new0 w _ _).alloc _;have pO0:AtL (zAI w x tv) (w.heap.size+1) (zAD (zAE 0) zAG):=AtL.new1 w _ _ _;have hth:World.there (zAI w x tv) (w.heap.size+1) 0 (zAD (zAE 6) zAG).toArray.size:=pO0.there;have hne:w.heap.size+1 ≠ w.heap.size:=by omega
 have pA:=pA0.farAll hne 0 (zAD (zAE 6) zAG);have pO:AtL ((zAI w x tv).setCells (w.heap.size+1) 0 (zAD (zAE 6) zAG)) (w.heap.size+1) (zAD (zAE 6) zAG):=pO0.setAll rfl;have hBa:Below w.heap.size w ((zAI w x tv).setCells (w.heap.size+1) 0 (zAD (zAE 6) zAG)):=zA8 (zAJ (zAJ (Below.refl _ w) _) _) (Nat.le_succ _) _ 0;clear pA0 pO0;have n0:(zAD x tv)[0]? = some (.int .i64 6):=by rw [<-hk];rfl
 have a0:World.cell? ((zAI w x tv).setCells (w.heap.size+1) 0 (zAD (zAE 6) zAG)) ⟨w.heap.size,0,none⟩=some (.int .i64 6):=pA.2.1 0 _ n0;show Calls _ _ #[.agg (zAD x tv).toArray] _ _
 have hS:zLM w.heap.size (w.heap.size+1) x tv ((zAI w x tv).setCells (w.heap.size+1) 0 (zAD (zAE 6) zAG)):=zDL pA pO;clear hz hl htv;cases q
 all_goals
  go_enter func33,ntmps33;go_upto_region 1 with fail
  go_upto_region 2 with ((with_reducible refine wpList_store_mid ?_ 52 (.tmp 3) (.tmp 7) ?_ (w.heap.size+1) 0 (zAD (zAE 6) zAG).toArray ?_ ?_ ?_ ?_ ?_ ?_);rfl;rfl;rfl;rfl;exact hth;kernel_rfl;exact zAT _ _ _ _)
  generalize (zAI w x tv).setCells (w.heap.size+1) 0 (zAD (zAE 6) zAG)=W0 at *;clear hth;go_upto_region 14 with fail
  go_region_held3 (zLM w.heap.size (w.heap.size+1) x tv)
   (with_reducible first | exact hS | assumption | exact zDL pA1 pO1 | exact (zHY (by assumption) (by omega) _ _) | exact zDL (AtL.drew pA) (AtL.drew pO))
   (first | (go_at_call 59;refine (C _).mono ?_;rintro e w1 ⟨rfl,hb⟩;have pA1:=AtL.below hb (AtL.drew pA);have pO1:=AtL.below hb (AtL.drew pO);have o1:=pO1.2.1 1 _ rfl;have hB1:=zAB hBa.drew hb))
  all_goals
   clear pA pO hS C hBa o1 a0;have pA2:AtL (w1.setCell ⟨w.heap.size+1,1,none⟩ (.int .i64 x.a)) w.heap.size (zAD x tv):=(pA1.far hne 1 (.int .i64 x.a))
   have pO2:AtL (w1.setCell ⟨w.heap.size+1,1,none⟩ (.int .i64 x.a)) (w.heap.size+1) (zAD ⟨6,x.a,0,v0I,c0I,a0I,a0I⟩ zAG):=(pO1.set 1 (.int .i64 x.a))
   have hB2:Below w.heap.size w (w1.setCell ⟨w.heap.size+1,1,none⟩ (.int .i64 x.a)):=(clB hB1)
   clear pA1 pO1 hB1;generalize (w1.setCell ⟨w.heap.size+1,1,none⟩ (.int .i64 x.a))=W2 at *;have rA:=pA2.range;have rO:=pO2.range;clear pA2 pO2;go_wp2_with (first | ((with_reducible refine zAA ?_ 52 (.tmp 1) ?_ w.heap.size 0 ?_ (zAD x tv) _ ?_ underlying52 ?_ ?_ ?_);rfl;rfl;rfl;exact rA;rfl;kernel_rfl) | ((with_reducible refine zAA ?_ 52 (.tmp 3) ?_ (w.heap.size+1) 0 ?_ (zAD ⟨6,x.a,0,v0I,c0I,a0I,a0I⟩ zAG) _ ?_ underlying52 ?_ ?_ ?_);rfl;rfl;rfl;exact rO;rfl;kernel_rfl) | (go_at_call 62;refine (CS _ hB2).mono ?_;rintro e w3 ⟨rfl,hb3⟩;have hB3:=zAB hB2 hb3))
   go_wp2;go_ret;first
   | exact ⟨by simp,hB2⟩
   | exact ⟨by simp,hB3⟩
def Cells (w:World) (blk off n:Nat) (F:Nat->Wpl.Cl):Prop :=
 ∀ j,j<n->w.cell? ⟨blk,off+j * 3,none⟩=some (.int .i64 (F j).s)/\w.cell? ⟨blk,off+j * 3+1,none⟩=some (.int .i64 (F j).r)/\w.cell? ⟨blk,off+j * 3+2,none⟩=some (.int .i64 (F j).c)
theorem Cells.below {W':World} {blk off n:Nat} {F:Nat->Wpl.Cl} (h:Cells W blk off n F) (hb:blk<W.heap.size) (hB:Below W.heap.size W W'):Cells W' blk off n F:=λj hj =>
 ⟨(hB.cell (p:=⟨blk,off+j * 3,none⟩) hb).trans (h j hj).1,(hB.cell (p:=⟨blk,off+j * 3+1,none⟩) hb).trans (h j hj).2.1,(hB.cell (p:=⟨blk,off+j * 3+2,none⟩) hb).trans (h j hj).2.2⟩
theorem zFA (q:Int) (blk off n cap:Nat) (F:Nat->Wpl.Cl) (w:World) (hn:n<=1000000000000000) (hb:blk<w.heap.size) (hc:Cells w blk off n F) :
  Calls prog 128 #[.slice (some ⟨blk,off,none⟩) n cap,.func (.func 103) #[.int .i64 q] #[]] w λe w'=>∃ v:Int,e=.returned (.int .i64 v)/\decide (0<=v)=Wpl.anyN q F n/\Below w.heap.size w w':=by
 have eg:∀ args w,(callFunc 103 args).run prog w=.ok (.enter 103 args) w:=λ_ _=>by kernel_rfl
 go_enter func128,ntmps128;go_wp2;go_loopw [5,8] (λ_ i wr=>∃ j:Nat,j<=n/\i=.int .i64 j/\Hid (∀ m,m<j->Wpl.lacks q (F m)=false)/\Below w.heap.size w wr) (λ_ i _=>n - (intOf i).toNat)
 case atStart=>exact ⟨0,Nat.zero_le _,rfl,(λm hm=>absurd hm (Nat.not_lt_zero _):∀ m,m<0->Wpl.lacks q (F m)=false),Below.refl _ _⟩
 case round =>
  obtain ⟨j,hj,rfl,A,qB⟩:=hrel;by_cases hlt:j<n
  ·have hltz:(j:Int)<(n:Int):=by omega
   obtain ⟨x0,x1,x2⟩:=hc j hlt;have y0:wr.cell? ⟨blk,off+j * 3,none⟩=some (.int .i64 (F j).s):=(qB.cell (p:=⟨blk,off+j * 3,none⟩) hb).trans x0;have y1:wr.cell? ⟨blk,off+j * 3+1,none⟩=some (.int .i64 (F j).r):=(qB.cell (p:=⟨blk,off+j * 3+1,none⟩) hb).trans x1;have y2:wr.cell? ⟨blk,off+j * 3+2,none⟩=some (.int .i64 (F j).c):=(qB.cell (p:=⟨blk,off+j * 3+2,none⟩) hb).trans x2;have L:=λw=>zEh q (F j).s (F j).r (F j).c w
   clear x0 x1 x2;generalize hq:Wpl.lacks q ⟨(F j).s,(F j).r,(F j).c⟩=b at L;have B:Hid (Wpl.lacks q (F j)=b):=hq;clear hq;generalize (F j).s=sj at *;generalize (F j).r=rj at *;generalize (F j).c=cj at *;cases b with
   | true =>
    go_wp2_with (go_at_call 103;refine (L _).mono ?_;rintro e w1 ⟨rfl,hb1⟩)
    go_ret;exact ⟨_,rfl,by rw [Wpl.anyN_hit hlt B.out];simp,zB8 qB hb1⟩
   | false =>
    go_wp2_with (go_at_call 103;refine (L _).mono ?_;rintro e w1 ⟨rfl,hb1⟩)
    go_roundw
    case rel =>
     refine ⟨j+1,by omega,by go_num,(λm hm=>?_:∀ m,m<j+1->Wpl.lacks q (F m)=false),zB8 qB hb1⟩;by_cases e:m=j
     ·rw [e];exact B.out
     ·exact A.out m (by omega)
    case measure=>simp [intOf];omega
  ·have hltz:¬ (j:Int)<(n:Int):=by omega
   have e:j=n:=by omega
   subst e;go_wp2;go_ret;exact ⟨_,rfl,by rw [Wpl.anyN_miss A.out];rfl,qB⟩
theorem zBO (q:Int) (blk off n cap:Nat) (F:Nat->Wpl.Cl) (w:World) (hn:n<=1000000000000000) (hb:blk<w.heap.size) (hc:Cells w blk off n F) :
  CR 102 #[.slice (some ⟨blk,off,none⟩) n cap,.func (.func 103) #[.int .i64 q] #[]] w (.bool (Wpl.anyN q F n)):=by
 go_enter func102,ntmps102;go_wp2_with fail
 refine (zFA q blk off n cap F _ hn hb hc).mono ?_;rintro e w1 ⟨v,rfl,hv,hb1⟩;have H:Hid (decide (0<=v)=Wpl.anyN q F n):=hv;clear hv;go_wp2;go_ret;exact ⟨by rw [<-H.out];rfl,hb1⟩
theorem zFF (blk off n cap:Nat) (F:Nat->Wpl.Cl) (w:World) (hn0:0<n) (hn:n<=1000000000000000) (hcap:n<=cap) (hcap2:cap<=9223372036854775807) (hb:blk<w.heap.size) (hc:Cells w blk off n F) (hA:Wpl.anyN (F 0).s F n=true) :
  CR 73 #[.slice (some ⟨blk,off,none⟩) n cap] w (.tuple #[.agg #[.int .i64 (Wpl.hullV F n).s,.int .i64 (Wpl.hullV F n).t,.int .i64 (Wpl.hullV F n).l,.int .i64 (Wpl.hullV F n).b,.int .i64 (Wpl.hullV F n).r],.bool (Wpl.hullOk F n)]):=by
 obtain ⟨x0,x1,x2⟩:=hc 0 hn0;simp only [Nat.zero_mul,Nat.add_zero] at x0 x1 x2;have hmf:∀ (fn:Fn) (first cap:Array Value) (w:World),(Instr.makeFunc fn first cap).run prog w=.ok (.func fn first cap) w:=λ_ _ _ _=>rfl
 have C:=λw h1 h2=>zBO (F 0).s blk off n cap F w hn h1 h2
 rw [hA] at C;have HA:Hid (Wpl.anyN (F 0).s F n=true):=hA;clear hA;have E0:Hid (Wpl.hullU F 0=⟨(F 0).s,(F 0).r,(F 0).c,(F 0).r,(F 0).c⟩):=(rfl:Wpl.hullU F 0=⟨(F 0).s,(F 0).r,(F 0).c,(F 0).r,(F 0).c⟩)
 have HO:Hid (Wpl.hullOk F n=false):=by show _=_;unfold Wpl.hullOk;rw [HA.out,decide_eq_true (show n ≠ 0 by omega)];rfl
 have HV:Hid (Wpl.hullV F n=Wpl.nullA):=by show _=_;unfold Wpl.hullV;rw [HO.out];rfl
 clear HA;generalize (F 0).s=s0 at *;generalize (F 0).r=r0 at *;generalize (F 0).c=c0 at *;have hnz:((n:Int) == 0)=false:=by simp;omega
 go_enter func73,ntmps73;go_wp2_with fail
 refine (C _ (by simp [go_sem];omega) (hc.below hb ((Below.refl _ _).alloc (Nat.le_refl _) _))).mono ?_;rintro e w1 ⟨rfl,hb1⟩;have pR:AtL w1 w.heap.size [.int .i64 0,.int .i64 0,.int .i64 0,.int .i64 0,.int .i64 0]:=AtL.below hb1 (AtL.new w _ rfl _);have hB:Below w.heap.size w w1:=clA
 clear hb1;obtain ⟨r0',r1,r2,r3,r4,_,_,_,_,_⟩:=pR.five;go_wp2;refine bodyPost_ret (v:=.tuple #[.agg #[.int .i64 0,.int .i64 0,.int .i64 0,.int .i64 0,.int .i64 0],.bool false]) (by simp [results,results73,go_sem,r0',r1,r2,r3,r4]) rfl ⟨by rw [HV.out,HO.out];rfl,?_⟩;exact zBE hB (Nat.le_refl _) _ _ _ _ _
theorem zGi (blk off n cap:Nat) (F:Nat->Wpl.Cl) (w:World) (hn0:0<n) (hn:n<=1000000000000000) (hcap:n<=cap) (hcap2:cap<=9223372036854775807) (hb:blk<w.heap.size) (hc:Cells w blk off n F) (hA:Wpl.anyN (F 0).s F n=false) (hc1:cap=1) :
  CR 73 #[.slice (some ⟨blk,off,none⟩) n cap] w (.tuple #[.agg #[.int .i64 (Wpl.hullV F n).s,.int .i64 (Wpl.hullV F n).t,.int .i64 (Wpl.hullV F n).l,.int .i64 (Wpl.hullV F n).b,.int .i64 (Wpl.hullV F n).r],.bool (Wpl.hullOk F n)]):=by
 subst hc1;obtain ⟨x0,x1,x2⟩:=hc 0 hn0;simp only [Nat.zero_mul,Nat.add_zero] at x0 x1 x2;have hmf:∀ (fn:Fn) (first cap:Array Value) (w:World),(Instr.makeFunc fn first cap).run prog w=.ok (.func fn first cap) w:=λ_ _ _ _=>rfl
 have C:=λw h1 h2=>zBO (F 0).s blk off n 1 F w hn h1 h2
 rw [hA] at C;have HA:Hid (Wpl.anyN (F 0).s F n=false):=hA;clear hA;have E0:Hid (Wpl.hullU F 0=⟨(F 0).s,(F 0).r,(F 0).c,(F 0).r,(F 0).c⟩):=(rfl:Wpl.hullU F 0=⟨(F 0).s,(F 0).r,(F 0).c,(F 0).r,(F 0).c⟩)
 have HO:Hid (Wpl.hullOk F n=true):=by show _=_;unfold Wpl.hullOk;rw [HA.out,decide_eq_true (show n ≠ 0 by omega)];rfl
 have HV:Hid (Wpl.hullV F n=Wpl.hullU F (n - 1)):=by show _=_;unfold Wpl.hullV;rw [HO.out];rfl
 clear HA;generalize (F 0).s=s0 at *;generalize (F 0).r=r0 at *;generalize (F 0).c=c0 at *;have hnz:((n:Int) == 0)=false:=by simp;omega
 go_enter func73,ntmps73;go_wp2_with fail
 refine (C _ (by simp [go_sem];omega) (hc.below hb ((Below.refl _ _).alloc (Nat.le_refl _) _))).mono ?_;rintro e w1 ⟨rfl,hb1⟩;have pR:AtL w1 w.heap.size [.int .i64 0,.int .i64 0,.int .i64 0,.int .i64 0,.int .i64 0]:=AtL.below hb1 (AtL.new w _ rfl _);have hB:Below w.heap.size w w1:=clA
 have y0:w1.cell? ⟨blk,off,none⟩=some (.int .i64 s0):=(hB.cell (p:=⟨blk,off,none⟩) hb).trans x0;have y1:w1.cell? ⟨blk,off+1,none⟩=some (.int .i64 r0):=(hB.cell (p:=⟨blk,off+1,none⟩) hb).trans x1;have y2:w1.cell? ⟨blk,off+2,none⟩=some (.int .i64 c0):=(hB.cell (p:=⟨blk,off+2,none⟩) hb).trans x2;have hb':blk<w1.heap.size:=Nat.lt_of_lt_of_le hb hB.size;have hz1:=hB.size;clear hb1 x0 x1 x2 C;go_wp2_with fail
 have pA:AtL ((w1.alloc (.cells #[.int .i64 s0,.int .i64 r0,.int .i64 c0] 47)).alloc (.cells #[.int .i64 s0,.int .i64 r0,.int .i64 c0,.int .i64 r0,.int .i64 c0] 49)) (w1.heap.size+1) [.int .i64 s0,.int .i64 r0,.int .i64 c0,.int .i64 r0,.int .i64 c0]:=AtL.new (w1.alloc _) _ (by simp [go_sem]) _;have pR':=(pR.alloc (.cells #[.int .i64 s0,.int .i64 r0,.int .i64 c0] 47)).alloc (.cells #[.int .i64 s0,.int .i64 r0,.int .i64 c0,.int .i64 r0,.int .i64 c0] 49);have pB:=zB4 (zB4 hB (.cells #[.int .i64 s0,.int .i64 r0,.int .i64 c0] 47)) (.cells #[.int .i64 s0,.int .i64 r0,.int .i64 c0,.int .i64 r0,.int .i64 c0] 49);clear y0 y1 y2 pR hB;generalize hk:w1.heap.size+1=k at *;have hkw:w.heap.size<k:=by omega
 generalize (w1.alloc (.cells #[.int .i64 s0,.int .i64 r0,.int .i64 c0] 47)).alloc (.cells #[.int .i64 s0,.int .i64 r0,.int .i64 c0,.int .i64 r0,.int .i64 c0] 49)=W2 at *;go_loopw [7,38] (λ_ i wr=>∃ (j:Nat) (t l b r:Int),j<=n - 1/\i=.int .i64 j/\Hid (Wpl.hullU F j=⟨s0,t,l,b,r⟩)/\Below w.heap.size w wr/\AtL wr w.heap.size [.int .i64 0,.int .i64 0,.int .i64 0,.int .i64 0,.int .i64 0]/\AtL wr k [.int .i64 s0,.int .i64 t,.int .i64 l,.int .i64 b,.int .i64 r]) (λ_ i _=>n - (intOf i).toNat)
 case atStart=>exact ⟨0,r0,c0,r0,c0,Nat.zero_le _,rfl,E0,pB,pR',pA⟩
 case round =>
  clear pB pR' pA;obtain ⟨j,t,l,b,r,hj,rfl,E,qB,qR,qA⟩:=hrel
  ·have hltz:¬ (j:Int)<((n - 1:Nat):Int):=by omega
   have hj':j=n - 1:=by omega
   have HV':Hid (Wpl.hullV F n=⟨s0,t,l,b,r⟩):=by show _=_;rw [HV.out,<-hj',E.out]
   clear hj' E HV;have sR:=qR.put5 (.int .i64 s0) (.int .i64 t) (.int .i64 l) (.int .i64 b) (.int .i64 r);have sB:=zBE qB (Nat.le_refl w.heap.size) (.int .i64 s0) (.int .i64 t) (.int .i64 l) (.int .i64 b) (.int .i64 r);obtain ⟨a0,a1,a2,a3,a4,f0,f1,f2,f3,f4⟩:=qA.five;obtain ⟨z0,z1,z2,z3,z4,g0,g1,g2,g3,g4⟩:=qR.five;go_wp2;obtain ⟨r0',r1,r2,r3,r4,_,_,_,_,_⟩:=sR.five;refine bodyPost_ret (v:=.tuple #[.agg #[.int .i64 s0,.int .i64 t,.int .i64 l,.int .i64 b,.int .i64 r],.bool true]) (by simp [results,results73,go_sem,z0,z1,z2,z3,z4]) rfl ⟨by rw [HV'.out,HO.out],?_⟩;exact sB
theorem zFH (blk off n cap:Nat) (F:Nat->Wpl.Cl) (w:World) (hn0:0<n) (hn:n<=1000000000000000) (hcap:n<=cap) (hcap2:cap<=9223372036854775807) (hb:blk<w.heap.size) (hc:Cells w blk off n F) (hA:Wpl.anyN (F 0).s F n=false) (hc1:¬ cap=1) :
  CR 73 #[.slice (some ⟨blk,off,none⟩) n cap] w (.tuple #[.agg #[.int .i64 (Wpl.hullV F n).s,.int .i64 (Wpl.hullV F n).t,.int .i64 (Wpl.hullV F n).l,.int .i64 (Wpl.hullV F n).b,.int .i64 (Wpl.hullV F n).r],.bool (Wpl.hullOk F n)]):=by
 obtain ⟨x0,x1,x2⟩:=hc 0 hn0;simp only [Nat.zero_mul,Nat.add_zero] at x0 x1 x2;have hmf:∀ (fn:Fn) (first cap:Array Value) (w:World),(Instr.makeFunc fn first cap).run prog w=.ok (.func fn first cap) w:=λ_ _ _ _=>rfl
 have C:=λw h1 h2=>zBO (F 0).s blk off n cap F w hn h1 h2
 rw [hA] at C;have HA:Hid (Wpl.anyN (F 0).s F n=false):=hA;clear hA;have E0:Hid (Wpl.hullU F 0=⟨(F 0).s,(F 0).r,(F 0).c,(F 0).r,(F 0).c⟩):=(rfl:Wpl.hullU F 0=⟨(F 0).s,(F 0).r,(F 0).c,(F 0).r,(F 0).c⟩)
 have HO:Hid (Wpl.hullOk F n=true):=by show _=_;unfold Wpl.hullOk;rw [HA.out,decide_eq_true (show n ≠ 0 by omega)];rfl
 have HV:Hid (Wpl.hullV F n=Wpl.hullU F (n - 1)):=by show _=_;unfold Wpl.hullV;rw [HO.out];rfl
 clear HA;generalize (F 0).s=s0 at *;generalize (F 0).r=r0 at *;generalize (F 0).c=c0 at *;have hnz:((n:Int) == 0)=false:=by simp;omega
 go_enter func73,ntmps73;go_wp2_with fail
 refine (C _ (by simp [go_sem];omega) (hc.below hb ((Below.refl _ _).alloc (Nat.le_refl _) _))).mono ?_;rintro e w1 ⟨rfl,hb1⟩;have pR:AtL w1 w.heap.size [.int .i64 0,.int .i64 0,.int .i64 0,.int .i64 0,.int .i64 0]:=AtL.below hb1 (AtL.new w _ rfl _);have hB:Below w.heap.size w w1:=clA
 have y0:w1.cell? ⟨blk,off,none⟩=some (.int .i64 s0):=(hB.cell (p:=⟨blk,off,none⟩) hb).trans x0;have y1:w1.cell? ⟨blk,off+1,none⟩=some (.int .i64 r0):=(hB.cell (p:=⟨blk,off+1,none⟩) hb).trans x1;have y2:w1.cell? ⟨blk,off+2,none⟩=some (.int .i64 c0):=(hB.cell (p:=⟨blk,off+2,none⟩) hb).trans x2;have hb':blk<w1.heap.size:=Nat.lt_of_lt_of_le hb hB.size;have hz1:=hB.size;clear hb1 x0 x1 x2 C;go_wp2_with fail
 have pA:AtL ((w1.alloc (.cells #[.int .i64 s0,.int .i64 r0,.int .i64 c0] 47)).alloc (.cells #[.int .i64 s0,.int .i64 r0,.int .i64 c0,.int .i64 r0,.int .i64 c0] 49)) (w1.heap.size+1) [.int .i64 s0,.int .i64 r0,.int .i64 c0,.int .i64 r0,.int .i64 c0]:=AtL.new (w1.alloc _) _ (by simp [go_sem]) _;have pR':=(pR.alloc (.cells #[.int .i64 s0,.int .i64 r0,.int .i64 c0] 47)).alloc (.cells #[.int .i64 s0,.int .i64 r0,.int .i64 c0,.int .i64 r0,.int .i64 c0] 49);have pB:=zB4 (zB4 hB (.cells #[.int .i64 s0,.int .i64 r0,.int .i64 c0] 47)) (.cells #[.int .i64 s0,.int .i64 r0,.int .i64 c0,.int .i64 r0,.int .i64 c0] 49);clear y0 y1 y2 pR hB;generalize hk:w1.heap.size+1=k at *;have hkw:w.heap.size<k:=by omega
 generalize (w1.alloc (.cells #[.int .i64 s0,.int .i64 r0,.int .i64 c0] 47)).alloc (.cells #[.int .i64 s0,.int .i64 r0,.int .i64 c0,.int .i64 r0,.int .i64 c0] 49)=W2 at *;go_loopw [7,38] (λ_ i wr=>∃ (j:Nat) (t l b r:Int),j<=n - 1/\i=.int .i64 j/\Hid (Wpl.hullU F j=⟨s0,t,l,b,r⟩)/\Below w.heap.size w wr/\AtL wr w.heap.size [.int .i64 0,.int .i64 0,.int .i64 0,.int .i64 0,.int .i64 0]/\AtL wr k [.int .i64 s0,.int .i64 t,.int .i64 l,.int .i64 b,.int .i64 r]) (λ_ i _=>n - (intOf i).toNat)
 case atStart=>exact ⟨0,r0,c0,r0,c0,Nat.zero_le _,rfl,E0,pB,pR',pA⟩
 case round =>
  clear pB pR' pA;obtain ⟨j,t,l,b,r,hj,rfl,E,qB,qR,qA⟩:=hrel;by_cases hlt:j<n - 1
  ·have hltz:(j:Int)<((n - 1:Nat):Int):=by omega
   obtain ⟨x0,x1,x2⟩:=hc (j+1) (by omega);have y0:wr.cell? ⟨blk,off+3+j * 3,none⟩=some (.int .i64 (F (j+1)).s):=by
    have:=(qB.cell (p:=⟨blk,off+(j+1) * 3,none⟩) hb).trans x0;rwa [show off+(j+1) * 3=off+3+j * 3 by omega] at this
   have y1:wr.cell? ⟨blk,off+3+j * 3+1,none⟩=some (.int .i64 (F (j+1)).r):=by
    have:=(qB.cell (p:=⟨blk,off+(j+1) * 3+1,none⟩) hb).trans x1;rwa [show off+(j+1) * 3+1=off+3+j * 3+1 by omega] at this
   have y2:wr.cell? ⟨blk,off+3+j * 3+2,none⟩=some (.int .i64 (F (j+1)).c):=by
    have:=(qB.cell (p:=⟨blk,off+(j+1) * 3+2,none⟩) hb).trans x2;rwa [show off+(j+1) * 3+2=off+3+j * 3+2 by omega] at this
   have E1:Hid (Wpl.hullU F (j+1)=⟨s0,min t (F (j+1)).r,min l (F (j+1)).c,max b (F (j+1)).r,max r (F (j+1)).c⟩):=by show Wpl.grow (Wpl.hullU F j) (F (j+1))=_;rw [E.out];rfl
   clear x0 x1 x2 E;generalize (F (j+1)).s=sj at *;generalize (F (j+1)).r=rj at *;generalize (F (j+1)).c=cj at *;have sA:=qA.alloc (.cells #[.int .i64 sj,.int .i64 rj,.int .i64 cj] 47);have sR:=qR.alloc (.cells #[.int .i64 sj,.int .i64 rj,.int .i64 cj] 47);have sC:AtL (wr.alloc (.cells #[.int .i64 sj,.int .i64 rj,.int .i64 cj] 47)) wr.heap.size [.int .i64 sj,.int .i64 rj,.int .i64 cj]:=AtL.new wr _ rfl _;have sB:=zB4 qB (.cells #[.int .i64 sj,.int .i64 rj,.int .i64 cj] 47);have hkr:k<wr.heap.size:=qA.lt;go_upto_region 8 with fail
   clear qA qR qB y0 y1 y2;generalize wr.alloc (.cells #[.int .i64 sj,.int .i64 rj,.int .i64 cj] 47)=W3 at *;generalize wr.heap.size=kc at *;obtain ⟨a0,a1,a2,a3,a4,f0,f1,f2,f3,f4⟩:=sA.five;obtain ⟨z0,z1,z2,g0,g1,g2⟩:=sC.three;have hkc:¬ kc=k:=by omega
   go_cut [] (λwx=>Below w.heap.size w wx/\AtL wx w.heap.size [.int .i64 0,.int .i64 0,.int .i64 0,.int .i64 0,.int .i64 0]/\AtL wx kc [.int .i64 sj,.int .i64 rj,.int .i64 cj]/\∃ t' b':Int,Hid (t'=min t rj)/\Hid (b'=max b rj)/\AtL wx k [.int .i64 s0,.int .i64 t',.int .i64 l,.int .i64 b',.int .i64 r])
   case first =>
    go_region
    go_wp2_with fail
    all_goals go_meet
    all_goals
     clear a0 a1 a2 a3 a4 f0 f1 f2 f3 f4 z0 z1 z2 g0 g1 g2;refine ⟨((sB.setCell (p:=⟨k,1,none⟩) (by show w.heap.size<=k;omega) _).setCell (p:=⟨k,3,none⟩) (by show w.heap.size<=k;omega) _).drew,((sR.far (j:=k) (by omega) 1 _).far (j:=k) (by omega) 3 _).drew,((sC.far (j:=k) (by omega) 1 _).far (j:=k) (by omega) 3 _).drew,_,_,?_,?_,((sA.set 1 _).set 3 _).drew⟩
     ·go_light;show _=_;omega
     ·go_light;show _=_;omega
   case rest =>
   clear sA sR sC sB a0 a1 a2 a3 a4 f0 f1 f2 f3 f4 z0 z1 z2 g0 g1 g2;obtain ⟨tB,tR,tC,t',b',Et,Eb,tA⟩:=hcut;rw [<-Et.out,<-Eb.out] at E1;clear Et Eb;go_upto_region 9 with fail
   obtain ⟨a0,a1,a2,a3,a4,f0,f1,f2,f3,f4⟩:=AtL.five tA;obtain ⟨z0,z1,z2,g0,g1,g2⟩:=tC.three;refine zJa λK9 hK9=>?_
   go_cut [] (λwx=>Below w.heap.size w wx/\AtL wx w.heap.size [.int .i64 0,.int .i64 0,.int .i64 0,.int .i64 0,.int .i64 0]/\∃ l' r':Int,Hid (l'=min l cj)/\Hid (r'=max r cj)/\AtL wx k [.int .i64 s0,.int .i64 t',.int .i64 l',.int .i64 b',.int .i64 r'])
   case first =>
    go_region
    go_wp2_with fail
    all_goals go_meet
    all_goals
     clear a0 a1 a2 a3 a4 f0 f1 f2 f3 f4 z0 z1 z2 g0 g1 g2;refine ⟨((tB.setCell (p:=⟨k,2,none⟩) (by show w.heap.size<=k;omega) _).setCell (p:=⟨k,4,none⟩) (by show w.heap.size<=k;omega) _).drew,((tR.far (j:=k) (by omega) 2 _).far (j:=k) (by omega) 4 _).drew,_,_,?_,?_,((AtL.set tA 2 _).set 4 _).drew⟩
     ·go_light;show _=_;omega
     ·go_light;show _=_;omega
   case rest =>
   obtain ⟨vB,vR,l',r',El,Er,vA⟩:=hcut;rw [<-El.out,<-Er.out] at E1;clear El Er;clear tB tR tA tC a0 a1 a2 a3 a4 f0 f1 f2 f3 f4 z0 z1 z2 g0 g1 g2;refine hK9 _ _ ?_;go_wp2_with fail
   go_roundw
   case rel =>
    exact ⟨j+1,t',l',b',r',by omega,by go_num,E1,vB,vR,vA⟩
   case measure=>simp [intOf];omega
  ·have hltz:¬ (j:Int)<((n - 1:Nat):Int):=by omega
   have hj':j=n - 1:=by omega
   have HV':Hid (Wpl.hullV F n=⟨s0,t,l,b,r⟩):=by show _=_;rw [HV.out,<-hj',E.out]
   clear hj' E HV;have sR:=qR.put5 (.int .i64 s0) (.int .i64 t) (.int .i64 l) (.int .i64 b) (.int .i64 r);have sB:=zBE qB (Nat.le_refl w.heap.size) (.int .i64 s0) (.int .i64 t) (.int .i64 l) (.int .i64 b) (.int .i64 r);obtain ⟨a0,a1,a2,a3,a4,f0,f1,f2,f3,f4⟩:=qA.five;obtain ⟨z0,z1,z2,z3,z4,g0,g1,g2,g3,g4⟩:=qR.five;go_wp2;obtain ⟨r0',r1,r2,r3,r4,_,_,_,_,_⟩:=sR.five;refine bodyPost_ret (v:=.tuple #[.agg #[.int .i64 s0,.int .i64 t,.int .i64 l,.int .i64 b,.int .i64 r],.bool true]) (by simp [results,results73,go_sem,z0,z1,z2,z3,z4]) rfl ⟨by rw [HV'.out,HO.out],?_⟩;exact sB
theorem zDi (blk off n cap:Nat) (F:Nat->Wpl.Cl) (w:World) (hn0:0<n) (hn:n<=1000000000000000) (hcap:n<=cap) (hcap2:cap<=9223372036854775807) (hb:blk<w.heap.size) (hc:Cells w blk off n F) :
  CR 73 #[.slice (some ⟨blk,off,none⟩) n cap] w (.tuple #[.agg #[.int .i64 (Wpl.hullV F n).s,.int .i64 (Wpl.hullV F n).t,.int .i64 (Wpl.hullV F n).l,.int .i64 (Wpl.hullV F n).b,.int .i64 (Wpl.hullV F n).r],.bool (Wpl.hullOk F n)]):=by
 cases hA:Wpl.anyN (F 0).s F n with
 | true=>exact zFF blk off n cap F w hn0 hn hcap hcap2 hb hc hA
 | false =>
  by_cases h1:cap=1
  ·exact zGi blk off n cap F w hn0 hn hcap hcap2 hb hc hA h1
  ·exact zFH blk off n cap F w hn0 hn hcap hcap2 hb hc hA h1
