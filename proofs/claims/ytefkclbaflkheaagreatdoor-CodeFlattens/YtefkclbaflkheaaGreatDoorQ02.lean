/- Lemmas. -/
import Derived.Test.YtefkclbaflkheaaGreatDoorQ01
import Derived.Maps.OwnSet
set_option maxHeartbeats 4000000
set_option maxRecDepth 100000
set_option linter.unusedVariables false
namespace Go.Proofs.YtefkclbaflkheaaGreatDoor
open Tryz
open Go.RowKit
theorem atQ {ops:Array Oper} {i:Nat} {o:Oper} (h:ops.toList[i]?=some o):ops[i]?=some o:=by rwa [Array.getElem?_toList] at h
theorem tkQ {P:Program} {ops:Array Oper} {Q:Exit->Act->World->Prop} {md:Region.Mode} {S:World->Prop} {v:Value} {fuel:Nat} {listed l':Array Bool} {a a':Act} {w:World} (i:Nat) {oi:Oper} (h:wpAnyH P md ops Q S fuel l' a' w) (hi:ops.toList[i]?=some oi:=by rfl) (hs:Region.noSelect ops=true:=by kernel_rfl) (hf:Region.free md ops listed i=true:=by kernel_rfl) (hr:(Region.ready md ops listed).contains i=true:=by kernel_rfl) (hQ:∀ c a w,Q (.panic c) (a.put oi.dst v) w->Q (.panic c) a w:=by exact λ_ _ _ h=>h) (hw:Region.wanted oi (yielded ops a.tmps)=true:=by rfl) (hy:∀ w,S w->(execOp a.eval oi).run P w=.ok (.value v) w:=by (intro w hSw;(try dsimp only at hSw);go_simp;(try with_reducible rfl))) (hS:S w:=by assumption) (hp:a.put oi.dst v=a':=by ((try simp only [Act.put,lA,lZ,lS]);(try rfl))) (hl:listed.setIfInBounds i true=l':=by ((try simp only [Act.put,lA,lZ,lS]);(try rfl))):wpAnyH P md ops Q S (fuel+1) listed a w:=by subst hp;subst hl;exact wpAnyH_take (atQ hi) hs hf hr hQ (Or.inl ⟨hw,hy⟩) hS h
theorem tnQ {P:Program} {ops:Array Oper} {Q:Exit->Act->World->Prop} {md:Region.Mode} {S:World->Prop} {fuel:Nat} {listed l':Array Bool} {a a':Act} {w:World} (i:Nat) {oi:Oper} (h:wpAnyH P md ops Q S fuel l' a' w) (hi:ops.toList[i]?=some oi:=by rfl) (hs:Region.noSelect ops=true:=by kernel_rfl) (hf:Region.free md ops listed i=true:=by kernel_rfl) (hr:(Region.ready md ops listed).contains i=true:=by kernel_rfl) (hQ:∀ c a w,Q (.panic c) (a.put oi.dst undef) w->Q (.panic c) a w:=by exact λ_ _ _ h=>h) (hw:Region.wanted oi (yielded ops a.tmps)=false:=by rfl) (hS:S w:=by assumption) (hp:a.put oi.dst undef=a':=by ((try simp only [Act.put,lA,lZ,lS]);(try rfl))) (hl:listed.setIfInBounds i true=l':=by ((try simp only [Act.put,lA,lZ,lS]);(try rfl))):wpAnyH P md ops Q S (fuel+1) listed a w:=by subst hp;subst hl;exact wpAnyH_take (atQ hi) hs hf hr hQ (Or.inr ⟨hw,rfl⟩) hS h
theorem hkQ {S:World->Prop} {W:Act->World->Prop} {K:Act->World->Prop} {a a':Act} {w:World} (hK:Shut (∀ a w,S w->(S w->W a w)->K a w)) (hS:S w) (h:S w->W a' w) (hp:a=a':=by ((try simp only [Act.put,lA,lZ,lS]);(try rfl))):K a w:=by subst hp;exact hK.out _ _ hS h
theorem rdQ {P:Program} {ops:Array Oper} {Q:Exit->Act->World->Prop} {md:Region.Mode} {S:World->Prop} {fuel:Nat} {listed:Array Bool} {a:Act} {w:World} (i:Nat) {o:Oper} (h:∀ K:Act->World->Prop,Shut (∀ a w,S w->(S w->wpAnyH P md ops Q S fuel (listed.setIfInBounds i true) a w)->K a w)->if Region.wanted o (yielded ops a.tmps)=true then Oper.wp P o a w K Q else K (a.put o.dst undef) w) (ho:ops.toList[i]?=some o:=by rfl) (hr:Region.ready md ops listed=[i]:=by kernel_rfl):wpAnyH P md ops Q S (fuel+1) listed a w:=wpAnyH_ready hr (by simp) (AllReadyH.cons (atQ ho) h AllReadyH.nil)
variable {w w' w'':World} {S T:List Nat} {b ck k o:Nat} {es:Array MapEntry} {P:Program} {F:List (Nat × Int)} {v:Value}
open Go.RowKit
def SmA (a:Wpl.Ar):Prop:=(-1000000<=a.t/\a.t<=1000000)/\(-1000000<=a.l/\a.l<=1000000)/\(-1000000<=a.b/\a.b<=1000000)/\(-1000000<=a.r/\a.r<=1000000)
abbrev ar5 (a:Wpl.Ar):List Value:=[.int .i64 a.s,.int .i64 a.t,.int .i64 a.l,.int .i64 a.b,.int .i64 a.r]
def shp (a b:Wpl.Ar):Bool:=(a.b - a.t == b.b - b.t) && (a.r - a.l == b.r - b.l)
theorem zDB (a:Wpl.Ar) (w:World) (h:SmA a):CR 123 #[.agg (ar5 a).toArray] w (.int .i64 (a.b - a.t+1)):=by
 have pA:=AtL.new0 w 53 (ar5 a);have hB:=zAM (Below.refl _ w) (.cells (ar5 a).toArray 53);have c1:(w.alloc (.cells (ar5 a).toArray 53)).cell? ⟨w.heap.size,1,none⟩=some (.int .i64 a.t):=pA.2.1 1 _ rfl;have c3:(w.alloc (.cells (ar5 a).toArray 53)).cell? ⟨w.heap.size,3,none⟩=some (.int .i64 a.b):=pA.2.1 3 _ rfl;obtain ⟨h1,h2,h3,h4⟩:=h;have w1:IntKind.i64.wrap (a.b - a.t)=a.b - a.t:=by rw [IntKind.wrap_i64];omega
 have w2:IntKind.i64.wrap (a.b - a.t+1)=a.b - a.t+1:=by rw [IntKind.wrap_i64];omega
 clear pA h1 h2 h3 h4;go_enter func123,ntmps123;go_upto_region 1 with fail
 generalize (w.alloc (.cells (ar5 a).toArray 53))=W at *;go_wp2;go_ret;exact ⟨by simp,hB⟩
theorem zCp (a:Wpl.Ar) (w:World) (h:SmA a):CR 124 #[.agg (ar5 a).toArray] w (.int .i64 (a.r - a.l+1)):=by
 have pA:=AtL.new0 w 53 (ar5 a);have hB:=zAM (Below.refl _ w) (.cells (ar5 a).toArray 53);have c1:(w.alloc (.cells (ar5 a).toArray 53)).cell? ⟨w.heap.size,2,none⟩=some (.int .i64 a.l):=pA.2.1 2 _ rfl;have c3:(w.alloc (.cells (ar5 a).toArray 53)).cell? ⟨w.heap.size,4,none⟩=some (.int .i64 a.r):=pA.2.1 4 _ rfl;obtain ⟨h1,h2,h3,h4⟩:=h;have w1:IntKind.i64.wrap (a.r - a.l)=a.r - a.l:=by rw [IntKind.wrap_i64];omega
 have w2:IntKind.i64.wrap (a.r - a.l+1)=a.r - a.l+1:=by rw [IntKind.wrap_i64];omega
 clear pA h1 h2 h3 h4;go_enter func124,ntmps124;go_upto_region 1 with fail
 generalize (w.alloc (.cells (ar5 a).toArray 53))=W at *;go_wp2;go_ret;exact ⟨by simp,hB⟩
theorem zFV (a b:Wpl.Ar) (w:World) (h:SmA a) (g:SmA b):CR 57 #[.agg (ar5 a).toArray,.agg (ar5 b).toArray] w (.bool (shp a b)):=by
 have pA:=(AtL.new0 w 53 (ar5 a)).alloc (.cells (ar5 b).toArray 53);have pB:=AtL.new1 w (.cells (ar5 a).toArray 53) 53 (ar5 b);have hB:=zAM (zAM (Below.refl _ w) (.cells (ar5 a).toArray 53)) (.cells (ar5 b).toArray 53);have a1:=pA.2.1 1 _ rfl;have a2:=pA.2.1 2 _ rfl;have a3:=pA.2.1 3 _ rfl;have a4:=pA.2.1 4 _ rfl;have b1:=pB.2.1 1 _ rfl;have b2:=pB.2.1 2 _ rfl;have b3:=pB.2.1 3 _ rfl;have b4:=pB.2.1 4 _ rfl;obtain ⟨h1,h2,h3,h4⟩:=h;obtain ⟨g1,g2,g3,g4⟩:=g;have w1:IntKind.i64.wrap (a.b - a.t)=a.b - a.t:=by rw [IntKind.wrap_i64];omega
 have w2:IntKind.i64.wrap (b.b - b.t)=b.b - b.t:=by rw [IntKind.wrap_i64];omega
 have w3:IntKind.i64.wrap (a.r - a.l)=a.r - a.l:=by rw [IntKind.wrap_i64];omega
 have w4:IntKind.i64.wrap (b.r - b.l)=b.r - b.l:=by rw [IntKind.wrap_i64];omega
 clear pA pB h1 h2 h3 h4 g1 g2 g3 g4;unfold shp;cases hq:(a.b - a.t == b.b - b.t) with
 | false =>
  go_enter func57,ntmps57;go_upto_region 1 with fail
  generalize (w.alloc (.cells (ar5 a).toArray 53)).alloc (.cells (ar5 b).toArray 53)=W at *;go_wp2;go_ret;exact ⟨by simp,hB⟩
 | true =>
  go_enter func57,ntmps57;go_upto_region 1 with fail
  generalize (w.alloc (.cells (ar5 a).toArray 53)).alloc (.cells (ar5 b).toArray 53)=W at *;go_wp2;go_ret;exact ⟨by simp,hB⟩
theorem zCL (a b:Wpl.Ar) (w:World) (h:SmA a) (g:SmA b):CR 96 #[.agg (ar5 a).toArray,.agg (ar5 b).toArray] w (.bool (shp a b)):=by
 have pA:=(AtL.new0 w 53 (ar5 a)).alloc (.cells (ar5 b).toArray 53);have pB:=AtL.new1 w (.cells (ar5 a).toArray 53) 53 (ar5 b);have hB:=zAM (zAM (Below.refl _ w) (.cells (ar5 a).toArray 53)) (.cells (ar5 b).toArray 53);have RA:=λw=>zDB a w h
 have RB:=λw=>zDB b w g
 have CA:=λw=>zCp a w h
 have CB:=λw=>zCp b w g
 have e1:(a.b - a.t+1 == b.b - b.t+1)=(a.b - a.t == b.b - b.t):=by rw [Bool.eq_iff_iff];simp
 have e2:(a.r - a.l+1 == b.r - b.l+1)=(a.r - a.l == b.r - b.l):=by rw [Bool.eq_iff_iff];simp
 unfold shp;rw [<-e1,<-e2];clear e1 e2 h g;generalize a.b - a.t+1=x1 at *;generalize b.b - b.t+1=x2 at *;generalize a.r - a.l+1=y1 at *;generalize b.r - b.l+1=y2 at *;go_enter func96,ntmps96;go_upto_region 1 with fail
 generalize (w.alloc (.cells (ar5 a).toArray 53)).alloc (.cells (ar5 b).toArray 53)=W at *;have pA0:=AtL.drew pA;have pB0:=AtL.drew pB;have hB0:=hB.drew;clear pA pB hB;refine wp_region_held_drew (S:=λW=>W.rangeAt w.heap.size 0 (ar5 a)/\W.rangeAt (w.heap.size+1) 0 (ar5 b)) (by kernel_rfl) ⟨pA0.range,pB0.range⟩ (λhHeld=>?_);generalize W.drew=WD at *;refine wpAnyH_take (i:=0) (v:=.agg (ar5 a).toArray) (atQ rfl) (by kernel_rfl) (by kernel_rfl) (by kernel_rfl) (λ_ _ _ h=>h) (yieldsIf_load_mid (by rfl) 53 (.tmp 2) rfl (w.heap.size) 0 rfl (ar5 a) _ (λ_ h=>h.1) underlying53 rfl (by kernel_rfl)) (by assumption) ?_;try simp only [Act.put,lA,lZ,lS]
 refine wpAnyH_take (i:=2) (v:=.agg (ar5 b).toArray) (atQ rfl) (by kernel_rfl) (by kernel_rfl) (by kernel_rfl) (λ_ _ _ h=>h) (yieldsIf_load_mid (by rfl) 53 (.tmp 3) rfl (w.heap.size+1) 0 rfl (ar5 b) _ (λ_ h=>h.2) underlying53 rfl (by kernel_rfl)) (by assumption) ?_;try simp only [Act.put,lA,lZ,lS]
 refine rdQ 1 (λK hK=>?_);go_simp
 refine (RA _).mono ?_;rintro e w1 ⟨rfl,hb1⟩;have pA1:=AtL.below hb1 pA0;have pB1:=AtL.below hb1 pB0;have hB1:=zAB hB0 hb1;go_wp2_with fail
 refine hkQ hK ⟨pA1.range,pB1.range⟩ (λhHeld=>?_);clear hK K
 refine rdQ 3 (λK hK=>?_);go_simp
 refine (RB _).mono ?_;rintro e w2 ⟨rfl,hb2⟩;have pA2:=AtL.below hb2 pA1;have pB2:=AtL.below hb2 pB1;have hB2:=zAB hB1 hb2;go_wp2_with fail
 refine hkQ hK ⟨pA2.range,pB2.range⟩ (λhHeld=>?_);clear hK K
 cases hq:(x1 == x2) with
 | false =>
  refine tkQ 4 ?_
  refine tkQ 5 ?_
  refine tnQ 6 ?_
  refine tnQ 7 ?_
  refine tnQ 8 ?_
  refine tnQ 9 ?_
  refine tnQ 10 ?_
  refine tkQ 11 ?_
  refine rdQ 12 (λK hK=>?_);go_simp
  refine hkQ hK ⟨pA2.range,pB2.range⟩ (λhHeld=>?_);clear hK K
  refine wpAnyH_done (by kernel_rfl) ?_ _;go_wp2;go_ret;have hq2:=hq;simp only [beq_eq_false_iff_ne,ne_eq] at hq2;exact ⟨by simp [hq2],hB2⟩
 | true =>
  refine tkQ 4 ?_
  refine tkQ 5 ?_
  refine wpAnyH_take (i:=6) (v:=.agg (ar5 a).toArray) (atQ rfl) (by kernel_rfl) (by kernel_rfl) (by kernel_rfl) (λ_ _ _ h=>h) (yieldsIf_load_mid (by rfl) 53 (.tmp 2) rfl (w.heap.size) 0 rfl (ar5 a) _ (λ_ h=>h.1) underlying53 rfl (by kernel_rfl)) (by assumption) ?_;try simp only [Act.put,lA,lZ,lS]
  refine wpAnyH_take (i:=8) (v:=.agg (ar5 b).toArray) (atQ rfl) (by kernel_rfl) (by kernel_rfl) (by kernel_rfl) (λ_ _ _ h=>h) (yieldsIf_load_mid (by rfl) 53 (.tmp 3) rfl (w.heap.size+1) 0 rfl (ar5 b) _ (λ_ h=>h.2) underlying53 rfl (by kernel_rfl)) (by assumption) ?_;try simp only [Act.put,lA,lZ,lS]
  refine rdQ 7 (λK hK=>?_);go_simp
  refine (CA _).mono ?_;rintro e w3 ⟨rfl,hb3⟩;have pA3:=AtL.below hb3 pA2;have pB3:=AtL.below hb3 pB2;have hB3:=zAB hB2 hb3;go_wp2_with fail
  refine hkQ hK ⟨pA3.range,pB3.range⟩ (λhHeld=>?_);clear hK K
  refine rdQ 9 (λK hK=>?_);go_simp
  refine (CB _).mono ?_;rintro e w4 ⟨rfl,hb4⟩;have pA4:=AtL.below hb4 pA3;have pB4:=AtL.below hb4 pB3;have hB4:=zAB hB3 hb4;go_wp2_with fail
  refine hkQ hK ⟨pA4.range,pB4.range⟩ (λhHeld=>?_);clear hK K
  refine tkQ 10 ?_
  refine tkQ 11 ?_
  refine rdQ 12 (λK hK=>?_);go_simp
  refine hkQ hK ⟨pA4.range,pB4.range⟩ (λhHeld=>?_);clear hK K
  refine wpAnyH_done (by kernel_rfl) ?_ _;go_wp2;go_ret;have hq2:=hq;simp only [beq_iff_eq] at hq2;exact ⟨by simp [hq2],hB4⟩
abbrev sg6 (id c:Int) (nm:ByteArray) (l m:Int) (ps:ByteArray):List Value:=[.int .i64 id,.int .i64 c,.string nm,.int .i64 l,.int .i64 m,.string ps]
theorem at6 {W:World} {a b c d e f:Value} (h:AtL W k [a,b,c,d,e,f]) :
  W.cell? ⟨k,0,none⟩=some a/\W.cell? ⟨k,1,none⟩=some b/\W.cell? ⟨k,2,none⟩=some c/\W.cell? ⟨k,3,none⟩=some d/\W.cell? ⟨k,4,none⟩=some e/\W.cell? ⟨k,5,none⟩=some f/\W.frozen? ⟨k,0,none⟩=false/\W.frozen? ⟨k,1,none⟩=false/\W.frozen? ⟨k,2,none⟩=false/\W.frozen? ⟨k,3,none⟩=false/\W.frozen? ⟨k,4,none⟩=false/\W.frozen? ⟨k,5,none⟩=false :=
 ⟨h.2.1 0 a rfl,h.2.1 1 b rfl,h.2.1 2 c rfl,h.2.1 3 d rfl,h.2.1 4 e rfl,h.2.1 5 f rfl,h.2.2 0 (by simp),h.2.2 1 (by simp),h.2.2 2 (by simp),h.2.2 3 (by simp),h.2.2 4 (by simp),h.2.2 5 (by simp)⟩
theorem zA2 (c l m:Int) (ps:ByteArray) (w:World):CR 170 #[.int .i64 c,.int .i64 l,.int .i64 m,.string ps] w (.agg (sg6 0 c ⟨#[]⟩ l m ps).toArray):=by
 have hB:=zAM (Below.refl _ w) (.cells (sg6 0 0 ⟨#[]⟩ 0 0 ⟨#[]⟩).toArray 108);go_enter func170,ntmps170;go_wp2;refine bodyPost_ret (v:=.agg (sg6 0 c ⟨#[]⟩ l m ps).toArray) (by simp [results,results170,go_sem]) rfl ⟨rfl,clA⟩
def zGG (id:Int):List Value :=
 if id=30 then sg6 0 3 ⟨#[]⟩ 2 3 ⟨#[118]⟩ else if id=31 then sg6 0 3 ⟨#[]⟩ 2 2 ⟨#[118]⟩ else sg6 0 3 ⟨#[]⟩ 2 30 ⟨#[118]⟩
theorem zIf (id:Int) (w:World):CR 172 #[.int .i64 id] w (.agg (zGG id).toArray):=by
 have pZ:=AtL.new0 w 108 (sg6 0 0 ⟨#[]⟩ 0 0 ⟨#[]⟩);have hB:=zAM (Below.refl _ w) (.cells (sg6 0 0 ⟨#[]⟩ 0 0 ⟨#[]⟩).toArray 108);unfold zGG;by_cases h30:id=30
 ·subst h30;have AK:=λw=>zA2 3 2 3 ⟨#[118]⟩ w
  go_enter func172,ntmps172;go_wp2_with fail
  refine (AK _).mono ?_;rintro e w1 ⟨rfl,hb1⟩;obtain ⟨b0,b1,b2,b3,b4,b5,k0,k1,k2,k3,k4,k5⟩:=at6 (AtL.below hb1 pZ);have hB1:=zAB hB hb1;go_wp2;refine bodyPost_ret (v:=.agg (sg6 0 3 ⟨#[]⟩ 2 3 ⟨#[118]⟩).toArray) (by simp [results,results172,go_sem,b0,b1,b2,b3,b4,b5]) rfl ⟨rfl,(clB hB1)⟩
 by_cases h31:id=31
 ·subst h31;have AK:=λw=>zA2 3 2 2 ⟨#[118]⟩ w
  go_enter func172,ntmps172;go_wp2_with fail
  refine (AK _).mono ?_;rintro e w1 ⟨rfl,hb1⟩;obtain ⟨b0,b1,b2,b3,b4,b5,k0,k1,k2,k3,k4,k5⟩:=at6 (AtL.below hb1 pZ);have hB1:=zAB hB hb1;go_wp2;refine bodyPost_ret (v:=.agg (sg6 0 3 ⟨#[]⟩ 2 2 ⟨#[118]⟩).toArray) (by simp [results,results172,go_sem,b0,b1,b2,b3,b4,b5]) rfl ⟨rfl,(clB hB1)⟩
 have n30:(id == 30)=false:=by simp [h30]
 have n31:(id == 31)=false:=by simp [h31]
 rw [if_neg (by simp [h30]),if_neg (by simp [h31])];clear h30 h31;have AK:=λw=>zA2 3 2 30 ⟨#[118]⟩ w
 go_enter func172,ntmps172;go_wp2_with fail
 refine (AK _).mono ?_;rintro e w1 ⟨rfl,hb1⟩;obtain ⟨b0,b1,b2,b3,b4,b5,k0,k1,k2,k3,k4,k5⟩:=at6 (AtL.below hb1 pZ);have hB1:=zAB hB hb1;go_wp2;refine bodyPost_ret (v:=.agg (sg6 0 3 ⟨#[]⟩ 2 30 ⟨#[118]⟩).toArray) (by simp [results,results172,go_sem,b0,b1,b2,b3,b4,b5]) rfl ⟨rfl,(clB hB1)⟩
def zFi (id:Int):List Value :=
 if id=20 then sg6 0 2 ⟨#[]⟩ 2 2 ⟨#[118,97]⟩ else if id=21 then sg6 0 2 ⟨#[]⟩ 2 2 ⟨#[97,118]⟩ else if id=22 then sg6 0 2 ⟨#[]⟩ 2 3 ⟨#[97,118,97]⟩ else if id=23 then sg6 0 2 ⟨#[]⟩ 3 3 ⟨#[118,97,97]⟩ else if id=24 then sg6 0 2 ⟨#[]⟩ 2 2 ⟨#[97]⟩ else if id=25 then sg6 0 2 ⟨#[]⟩ 2 3 ⟨#[97,118]⟩ else sg6 0 2 ⟨#[]⟩ 1 1 ⟨#[97]⟩
theorem zH7 (id:Int) (w:World):CR 171 #[.int .i64 id] w (.agg (zFi id).toArray):=by
 have pZ:=AtL.new0 w 108 (sg6 0 0 ⟨#[]⟩ 0 0 ⟨#[]⟩);have hB:=zAM (Below.refl _ w) (.cells (sg6 0 0 ⟨#[]⟩ 0 0 ⟨#[]⟩).toArray 108);unfold zFi;by_cases h20:id=20
 ·subst h20;have AK:=λw=>zA2 2 2 2 ⟨#[118,97]⟩ w
  go_enter func171,ntmps171;go_wp2_with fail
  refine (AK _).mono ?_;rintro e w1 ⟨rfl,hb1⟩;obtain ⟨b0,b1,b2,b3,b4,b5,k0,k1,k2,k3,k4,k5⟩:=at6 (AtL.below hb1 pZ);have hB1:=zAB hB hb1;go_wp2;refine bodyPost_ret (v:=.agg (sg6 0 2 ⟨#[]⟩ 2 2 ⟨#[118,97]⟩).toArray) (by simp [results,results171,go_sem,b0,b1,b2,b3,b4,b5]) rfl ⟨rfl,(clB hB1)⟩
 by_cases h21:id=21
 ·subst h21;have AK:=λw=>zA2 2 2 2 ⟨#[97,118]⟩ w
  go_enter func171,ntmps171;go_wp2_with fail
  refine (AK _).mono ?_;rintro e w1 ⟨rfl,hb1⟩;obtain ⟨b0,b1,b2,b3,b4,b5,k0,k1,k2,k3,k4,k5⟩:=at6 (AtL.below hb1 pZ);have hB1:=zAB hB hb1;go_wp2;refine bodyPost_ret (v:=.agg (sg6 0 2 ⟨#[]⟩ 2 2 ⟨#[97,118]⟩).toArray) (by simp [results,results171,go_sem,b0,b1,b2,b3,b4,b5]) rfl ⟨rfl,(clB hB1)⟩
 by_cases h22:id=22
 ·subst h22;have AK:=λw=>zA2 2 2 3 ⟨#[97,118,97]⟩ w
  go_enter func171,ntmps171;go_wp2_with fail
  refine (AK _).mono ?_;rintro e w1 ⟨rfl,hb1⟩;obtain ⟨b0,b1,b2,b3,b4,b5,k0,k1,k2,k3,k4,k5⟩:=at6 (AtL.below hb1 pZ);have hB1:=zAB hB hb1;go_wp2;refine bodyPost_ret (v:=.agg (sg6 0 2 ⟨#[]⟩ 2 3 ⟨#[97,118,97]⟩).toArray) (by simp [results,results171,go_sem,b0,b1,b2,b3,b4,b5]) rfl ⟨rfl,(clB hB1)⟩
 by_cases h23:id=23
 ·subst h23;have AK:=λw=>zA2 2 3 3 ⟨#[118,97,97]⟩ w
  go_enter func171,ntmps171;go_wp2_with fail
  refine (AK _).mono ?_;rintro e w1 ⟨rfl,hb1⟩;obtain ⟨b0,b1,b2,b3,b4,b5,k0,k1,k2,k3,k4,k5⟩:=at6 (AtL.below hb1 pZ);have hB1:=zAB hB hb1;go_wp2;refine bodyPost_ret (v:=.agg (sg6 0 2 ⟨#[]⟩ 3 3 ⟨#[118,97,97]⟩).toArray) (by simp [results,results171,go_sem,b0,b1,b2,b3,b4,b5]) rfl ⟨rfl,(clB hB1)⟩
 by_cases h24:id=24
 ·subst h24;have AK:=λw=>zA2 2 2 2 ⟨#[97]⟩ w
  go_enter func171,ntmps171;go_wp2_with fail
  refine (AK _).mono ?_;rintro e w1 ⟨rfl,hb1⟩;obtain ⟨b0,b1,b2,b3,b4,b5,k0,k1,k2,k3,k4,k5⟩:=at6 (AtL.below hb1 pZ);have hB1:=zAB hB hb1;go_wp2;refine bodyPost_ret (v:=.agg (sg6 0 2 ⟨#[]⟩ 2 2 ⟨#[97]⟩).toArray) (by simp [results,results171,go_sem,b0,b1,b2,b3,b4,b5]) rfl ⟨rfl,(clB hB1)⟩
 by_cases h25:id=25
 ·subst h25;have AK:=λw=>zA2 2 2 3 ⟨#[97,118]⟩ w
  go_enter func171,ntmps171;go_wp2_with fail
  refine (AK _).mono ?_;rintro e w1 ⟨rfl,hb1⟩;obtain ⟨b0,b1,b2,b3,b4,b5,k0,k1,k2,k3,k4,k5⟩:=at6 (AtL.below hb1 pZ);have hB1:=zAB hB hb1;go_wp2;refine bodyPost_ret (v:=.agg (sg6 0 2 ⟨#[]⟩ 2 3 ⟨#[97,118]⟩).toArray) (by simp [results,results171,go_sem,b0,b1,b2,b3,b4,b5]) rfl ⟨rfl,(clB hB1)⟩
 have n20:(id == 20)=false:=by simp [h20]
 have n21:(id == 21)=false:=by simp [h21]
 have n22:(id == 22)=false:=by simp [h22]
 have n23:(id == 23)=false:=by simp [h23]
 have n24:(id == 24)=false:=by simp [h24]
 have n25:(id == 25)=false:=by simp [h25]
 rw [if_neg (by simp [h20]),if_neg (by simp [h21]),if_neg (by simp [h22]),if_neg (by simp [h23]),if_neg (by simp [h24]),if_neg (by simp [h25])];clear h20 h21 h22 h23 h24 h25;have AK:=λw=>zA2 2 1 1 ⟨#[97]⟩ w
 go_enter func171,ntmps171;go_wp2_with fail
 refine (AK _).mono ?_;rintro e w1 ⟨rfl,hb1⟩;obtain ⟨b0,b1,b2,b3,b4,b5,k0,k1,k2,k3,k4,k5⟩:=at6 (AtL.below hb1 pZ);have hB1:=zAB hB hb1;go_wp2;refine bodyPost_ret (v:=.agg (sg6 0 2 ⟨#[]⟩ 1 1 ⟨#[97]⟩).toArray) (by simp [results,results171,go_sem,b0,b1,b2,b3,b4,b5]) rfl ⟨rfl,(clB hB1)⟩
def zGD (id:Int):List Value :=
 if id=62 then sg6 0 4 ⟨#[]⟩ 0 0 ⟨#[118]⟩ else if id=43 \/ id=49 \/ id=50 then sg6 0 4 ⟨#[]⟩ 1 2 ⟨#[118]⟩ else if id=44 \/ id=45 \/ id=46 \/ id=52 \/ id=53 then sg6 0 4 ⟨#[]⟩ 2 2 ⟨#[118]⟩ else if id=51 then sg6 0 4 ⟨#[]⟩ 3 3 ⟨#[118]⟩ else sg6 0 4 ⟨#[]⟩ 1 1 ⟨#[118]⟩
theorem zIk (id:Int) (w:World):CR 173 #[.int .i64 id] w (.agg (zGD id).toArray):=by
 have pZ:=AtL.new0 w 108 (sg6 0 0 ⟨#[]⟩ 0 0 ⟨#[]⟩);have hB:=zAM (Below.refl _ w) (.cells (sg6 0 0 ⟨#[]⟩ 0 0 ⟨#[]⟩).toArray 108);unfold zGD;by_cases h62:id=62
 ·subst h62;have AK:=λw=>zA2 4 0 0 ⟨#[118]⟩ w
  go_enter func173,ntmps173;go_wp2_with fail
  refine (AK _).mono ?_;rintro e w1 ⟨rfl,hb1⟩;obtain ⟨b0,b1,b2,b3,b4,b5,k0,k1,k2,k3,k4,k5⟩:=at6 (AtL.below hb1 pZ);have hB1:=zAB hB hb1;go_wp2;refine bodyPost_ret (v:=.agg (sg6 0 4 ⟨#[]⟩ 0 0 ⟨#[118]⟩).toArray) (by simp [results,results173,go_sem,b0,b1,b2,b3,b4,b5]) rfl ⟨rfl,(clB hB1)⟩
 by_cases h43:id=43
 ·subst h43;have AK:=λw=>zA2 4 1 2 ⟨#[118]⟩ w
  go_enter func173,ntmps173;go_wp2_with fail
  refine (AK _).mono ?_;rintro e w1 ⟨rfl,hb1⟩;obtain ⟨b0,b1,b2,b3,b4,b5,k0,k1,k2,k3,k4,k5⟩:=at6 (AtL.below hb1 pZ);have hB1:=zAB hB hb1;go_wp2;refine bodyPost_ret (v:=.agg (sg6 0 4 ⟨#[]⟩ 1 2 ⟨#[118]⟩).toArray) (by simp [results,results173,go_sem,b0,b1,b2,b3,b4,b5]) rfl ⟨rfl,(clB hB1)⟩
 by_cases h49:id=49
 ·subst h49;have AK:=λw=>zA2 4 1 2 ⟨#[118]⟩ w
  go_enter func173,ntmps173;go_wp2_with fail
  refine (AK _).mono ?_;rintro e w1 ⟨rfl,hb1⟩;obtain ⟨b0,b1,b2,b3,b4,b5,k0,k1,k2,k3,k4,k5⟩:=at6 (AtL.below hb1 pZ);have hB1:=zAB hB hb1;go_wp2;refine bodyPost_ret (v:=.agg (sg6 0 4 ⟨#[]⟩ 1 2 ⟨#[118]⟩).toArray) (by simp [results,results173,go_sem,b0,b1,b2,b3,b4,b5]) rfl ⟨rfl,(clB hB1)⟩
 by_cases h50:id=50
 ·subst h50;have AK:=λw=>zA2 4 1 2 ⟨#[118]⟩ w
  go_enter func173,ntmps173;go_wp2_with fail
  refine (AK _).mono ?_;rintro e w1 ⟨rfl,hb1⟩;obtain ⟨b0,b1,b2,b3,b4,b5,k0,k1,k2,k3,k4,k5⟩:=at6 (AtL.below hb1 pZ);have hB1:=zAB hB hb1;go_wp2;refine bodyPost_ret (v:=.agg (sg6 0 4 ⟨#[]⟩ 1 2 ⟨#[118]⟩).toArray) (by simp [results,results173,go_sem,b0,b1,b2,b3,b4,b5]) rfl ⟨rfl,(clB hB1)⟩
 by_cases h44:id=44
 ·subst h44;have AK:=λw=>zA2 4 2 2 ⟨#[118]⟩ w
  go_enter func173,ntmps173;go_wp2_with fail
  refine (AK _).mono ?_;rintro e w1 ⟨rfl,hb1⟩;obtain ⟨b0,b1,b2,b3,b4,b5,k0,k1,k2,k3,k4,k5⟩:=at6 (AtL.below hb1 pZ);have hB1:=zAB hB hb1;go_wp2;refine bodyPost_ret (v:=.agg (sg6 0 4 ⟨#[]⟩ 2 2 ⟨#[118]⟩).toArray) (by simp [results,results173,go_sem,b0,b1,b2,b3,b4,b5]) rfl ⟨rfl,(clB hB1)⟩
 by_cases h45:id=45
 ·subst h45;have AK:=λw=>zA2 4 2 2 ⟨#[118]⟩ w
  go_enter func173,ntmps173;go_wp2_with fail
  refine (AK _).mono ?_;rintro e w1 ⟨rfl,hb1⟩;obtain ⟨b0,b1,b2,b3,b4,b5,k0,k1,k2,k3,k4,k5⟩:=at6 (AtL.below hb1 pZ);have hB1:=zAB hB hb1;go_wp2;refine bodyPost_ret (v:=.agg (sg6 0 4 ⟨#[]⟩ 2 2 ⟨#[118]⟩).toArray) (by simp [results,results173,go_sem,b0,b1,b2,b3,b4,b5]) rfl ⟨rfl,(clB hB1)⟩
 by_cases h46:id=46
 ·subst h46;have AK:=λw=>zA2 4 2 2 ⟨#[118]⟩ w
  go_enter func173,ntmps173;go_wp2_with fail
  refine (AK _).mono ?_;rintro e w1 ⟨rfl,hb1⟩;obtain ⟨b0,b1,b2,b3,b4,b5,k0,k1,k2,k3,k4,k5⟩:=at6 (AtL.below hb1 pZ);have hB1:=zAB hB hb1;go_wp2;refine bodyPost_ret (v:=.agg (sg6 0 4 ⟨#[]⟩ 2 2 ⟨#[118]⟩).toArray) (by simp [results,results173,go_sem,b0,b1,b2,b3,b4,b5]) rfl ⟨rfl,(clB hB1)⟩
 by_cases h52:id=52
 ·subst h52;have AK:=λw=>zA2 4 2 2 ⟨#[118]⟩ w
  go_enter func173,ntmps173;go_wp2_with fail
  refine (AK _).mono ?_;rintro e w1 ⟨rfl,hb1⟩;obtain ⟨b0,b1,b2,b3,b4,b5,k0,k1,k2,k3,k4,k5⟩:=at6 (AtL.below hb1 pZ);have hB1:=zAB hB hb1;go_wp2;refine bodyPost_ret (v:=.agg (sg6 0 4 ⟨#[]⟩ 2 2 ⟨#[118]⟩).toArray) (by simp [results,results173,go_sem,b0,b1,b2,b3,b4,b5]) rfl ⟨rfl,(clB hB1)⟩
 by_cases h53:id=53
 ·subst h53;have AK:=λw=>zA2 4 2 2 ⟨#[118]⟩ w
  go_enter func173,ntmps173;go_wp2_with fail
  refine (AK _).mono ?_;rintro e w1 ⟨rfl,hb1⟩;obtain ⟨b0,b1,b2,b3,b4,b5,k0,k1,k2,k3,k4,k5⟩:=at6 (AtL.below hb1 pZ);have hB1:=zAB hB hb1;go_wp2;refine bodyPost_ret (v:=.agg (sg6 0 4 ⟨#[]⟩ 2 2 ⟨#[118]⟩).toArray) (by simp [results,results173,go_sem,b0,b1,b2,b3,b4,b5]) rfl ⟨rfl,(clB hB1)⟩
 by_cases h51:id=51
 ·subst h51;have AK:=λw=>zA2 4 3 3 ⟨#[118]⟩ w
  go_enter func173,ntmps173;go_wp2_with fail
  refine (AK _).mono ?_;rintro e w1 ⟨rfl,hb1⟩;obtain ⟨b0,b1,b2,b3,b4,b5,k0,k1,k2,k3,k4,k5⟩:=at6 (AtL.below hb1 pZ);have hB1:=zAB hB hb1;go_wp2;refine bodyPost_ret (v:=.agg (sg6 0 4 ⟨#[]⟩ 3 3 ⟨#[118]⟩).toArray) (by simp [results,results173,go_sem,b0,b1,b2,b3,b4,b5]) rfl ⟨rfl,(clB hB1)⟩
 have n62:(id == 62)=false:=by simp [h62]
 have n43:(id == 43)=false:=by simp [h43]
 have n49:(id == 49)=false:=by simp [h49]
 have n50:(id == 50)=false:=by simp [h50]
 have n44:(id == 44)=false:=by simp [h44]
 have n45:(id == 45)=false:=by simp [h45]
 have n46:(id == 46)=false:=by simp [h46]
 have n52:(id == 52)=false:=by simp [h52]
 have n53:(id == 53)=false:=by simp [h53]
 have n51:(id == 51)=false:=by simp [h51]
 rw [if_neg (by simp [h62]),if_neg (by simp [h43,h49,h50]),if_neg (by simp [h44,h45,h46,h52,h53]),if_neg (by simp [h51])];clear h62 h43 h49 h50 h44 h45 h46 h52 h53 h51;have AK:=λw=>zA2 4 1 1 ⟨#[118]⟩ w
 go_enter func173,ntmps173;go_wp2_with fail
 refine (AK _).mono ?_;rintro e w1 ⟨rfl,hb1⟩;obtain ⟨b0,b1,b2,b3,b4,b5,k0,k1,k2,k3,k4,k5⟩:=at6 (AtL.below hb1 pZ);have hB1:=zAB hB hb1;go_wp2;refine bodyPost_ret (v:=.agg (sg6 0 4 ⟨#[]⟩ 1 1 ⟨#[118]⟩).toArray) (by simp [results,results173,go_sem,b0,b1,b2,b3,b4,b5]) rfl ⟨rfl,(clB hB1)⟩
structure Sh where
 c:Int
 l:Int
 m:Int
 p:ByteArray
def sh6 (s:Sh):List Value:=sg6 0 s.c ⟨#[]⟩ s.l s.m s.p
def zJR (id:Int):Sh:=if id=30 then ⟨3,2,3,⟨#[118]⟩⟩ else if id=31 then ⟨3,2,2,⟨#[118]⟩⟩ else ⟨3,2,30,⟨#[118]⟩⟩
def zHl (id:Int):Sh:=if id=20 then ⟨2,2,2,⟨#[118,97]⟩⟩ else if id=21 then ⟨2,2,2,⟨#[97,118]⟩⟩ else if id=22 then ⟨2,2,3,⟨#[97,118,97]⟩⟩ else if id=23 then ⟨2,3,3,⟨#[118,97,97]⟩⟩ else if id=24 then ⟨2,2,2,⟨#[97]⟩⟩ else if id=25 then ⟨2,2,3,⟨#[97,118]⟩⟩ else ⟨2,1,1,⟨#[97]⟩⟩
def zIB (id:Int):Sh:=if id=62 then ⟨4,0,0,⟨#[118]⟩⟩ else if id=43 \/ id=49 \/ id=50 then ⟨4,1,2,⟨#[118]⟩⟩ else if id=44 \/ id=45 \/ id=46 \/ id=52 \/ id=53 then ⟨4,2,2,⟨#[118]⟩⟩ else if id=51 then ⟨4,3,3,⟨#[118]⟩⟩ else ⟨4,1,1,⟨#[118]⟩⟩
def zAJ (id:Int):Sh:=if id<=15 then ⟨1,1,30,⟨#[120]⟩⟩ else if id<=27 then zHl id else if id<=32 then zJR id else zIB id
theorem zJc (id:Int):zGG id=sh6 (zJR id):=by
 unfold zGG zJR;split
 ·rfl
 ·split <;> rfl
theorem zK4 (id:Int):zFi id=sh6 (zHl id):=by
 unfold zFi zHl;repeat (split;rfl)
 rfl
theorem zKw (id:Int):zGD id=sh6 (zIB id):=by
 unfold zGD zIB;repeat (split;rfl)
 rfl
theorem zHy (id:Int) (w:World):CR 154 #[.int .i64 id] w (.agg (sh6 (zAJ id)).toArray):=by
 have pZ:=AtL.new0 w 108 (sg6 0 0 ⟨#[]⟩ 0 0 ⟨#[]⟩);have hB:=zAM (Below.refl _ w) (.cells (sg6 0 0 ⟨#[]⟩ 0 0 ⟨#[]⟩).toArray 108);have AK:=λw=>zA2 1 1 30 ⟨#[120]⟩ w
 have SK:=λw=>zH7 id w
 have LK:=λw=>zIf id w
 have CK:=λw=>zIk id w
 rw [zK4] at SK;rw [zJc] at LK;rw [zKw] at CK;unfold zAJ;by_cases h1:id<=15
 ·rw [if_pos h1];clear SK LK CK;go_enter func154,ntmps154;go_wp2_with fail
  refine (AK _).mono ?_;rintro e w1 ⟨rfl,hb1⟩;obtain ⟨b0,b1,b2,b3,b4,b5,k0,k1,k2,k3,k4,k5⟩:=at6 (AtL.below hb1 pZ);have hB1:=zAB hB hb1;go_wp2;refine bodyPost_ret (v:=.agg (sg6 0 1 ⟨#[]⟩ 1 30 ⟨#[120]⟩).toArray) (by simp [results,results154,go_sem,b0,b1,b2,b3,b4,b5]) rfl ⟨rfl,(clB hB1)⟩
 rw [if_neg h1];by_cases h2:id<=27
 ·rw [if_pos h2];clear AK LK CK;generalize zHl id=s at *;unfold sh6 at *;go_enter func154,ntmps154;go_wp2_with fail
  refine (SK _).mono ?_;rintro e w1 ⟨rfl,hb1⟩;obtain ⟨b0,b1,b2,b3,b4,b5,k0,k1,k2,k3,k4,k5⟩:=at6 (AtL.below hb1 pZ);have hB1:=zAB hB hb1;go_wp2;refine bodyPost_ret (v:=.agg (sg6 0 s.c ⟨#[]⟩ s.l s.m s.p).toArray) (by simp [results,results154,go_sem,b0,b1,b2,b3,b4,b5]) rfl ⟨rfl,(clB hB1)⟩
 rw [if_neg h2];by_cases h3:id<=32
 ·rw [if_pos h3];clear AK SK CK;generalize zJR id=s at *;unfold sh6 at *;go_enter func154,ntmps154;go_wp2_with fail
  refine (LK _).mono ?_;rintro e w1 ⟨rfl,hb1⟩;obtain ⟨b0,b1,b2,b3,b4,b5,k0,k1,k2,k3,k4,k5⟩:=at6 (AtL.below hb1 pZ);have hB1:=zAB hB hb1;go_wp2;refine bodyPost_ret (v:=.agg (sg6 0 s.c ⟨#[]⟩ s.l s.m s.p).toArray) (by simp [results,results154,go_sem,b0,b1,b2,b3,b4,b5]) rfl ⟨rfl,(clB hB1)⟩
 rw [if_neg h3];clear AK SK LK;generalize zIB id=s at *;unfold sh6 at *;go_enter func154,ntmps154;go_wp2_with fail
 refine (CK _).mono ?_;rintro e w1 ⟨rfl,hb1⟩;obtain ⟨b0,b1,b2,b3,b4,b5,k0,k1,k2,k3,k4,k5⟩:=at6 (AtL.below hb1 pZ);have hB1:=zAB hB hb1;go_wp2;refine bodyPost_ret (v:=.agg (sg6 0 s.c ⟨#[]⟩ s.l s.m s.p).toArray) (by simp [results,results154,go_sem,b0,b1,b2,b3,b4,b5]) rfl ⟨rfl,(clB hB1)⟩
def fnN:List (List UInt8):=[[],[83,85,77],[80,82,79,68,85,67,84],[67,79,85,78,84],[67,79,85,78,84,65],[77,73,78],[77,65,88],[65,86,69,82,65,71,69],[65,78,68],[79,82],[88,79,82],[67,79,78,67,65,84],[83,85,77,83,81],[71,67,68],[70,73,82,83,84],[76,65,83,84],[],[],[],[],[77,65,84,67,72],[67,79,85,78,84,73,70],[83,85,77,73,70],[76,79,79,75,85,80],[83,85,77,80,82,79,68,85,67,84],[73,78,68,69,88],[82,79,87,83],[67,79,76,85,77,78,83],[],[],[73,70],[73,70,69,82,82,79,82],[67,72,79,79,83,69],[],[],[],[],[],[],[],[65,66,83],[83,73,71,78],[73,78,84],[82,79,85,78,68],[77,79,68],[81,85,79,84,73,69,78,84],[80,79,87,69,82],[78,79,84],[76,69,78],[76,69,70,84],[82,73,71,72,84],[77,73,68],[82,69,80,84],[70,73,78,68],[85,80,80,69,82],[76,79,87,69,82],[84,82,73,77],[86,65,76,85,69],[73,83,78,85,77,66,69,82],[73,83,84,69,88,84],[73,83,66,76,65,78,75],[73,83,69,82,82,79,82],[78,65]]
def nmR:List Value:=fnN.map λl=>.string ⟨l.toArray⟩
def NmAt (w:World):Prop:=w.rangeAt 0 0 nmR
theorem NmAt.below (h:NmAt w) (hb:Below w.heap.size w w'):NmAt w':=λj v hv=>zAC hb (h j v hv)
def zE7 (id:Int):List UInt8:=fnN.getD id.toNat []
def zAb (id:Int):Bool:=decide (0<=id) && (decide (id<63) && !(zE7 id).isEmpty)
theorem zOv (h:NmAt w):0<w.heap.size:=by
 have hc:w.cell? ⟨0,0+0,none⟩=_:=h 0 _ rfl;rcases Nat.lt_or_ge 0 w.heap.size with g | g
 ·exact g
 ·unfold World.cell? at hc;simp only [Array.getElem?_eq_none g] at hc;cases hc
theorem NmAt.cell (h:NmAt w) {id:Int} (h0:0<=id) (h1:id<63):w.cell? ⟨0,id.toNat,none⟩=some (.string ⟨(zE7 id).toArray⟩):=by
 have hl:id.toNat<fnN.length:=by show id.toNat<63;omega
 have:=h id.toNat (.string ⟨(zE7 id).toArray⟩) (by unfold nmR zE7;rw [List.getElem?_map,List.getElem?_eq_getElem hl,List.getD_eq_getElem?_getD,List.getElem?_eq_getElem hl];rfl);rw [Nat.zero_add] at this;exact this
def zero6:List Value:=sg6 0 0 ⟨#[]⟩ 0 0 ⟨#[]⟩
def zCs (id:Int):List Value:=if zAb id=true then sg6 id (zAJ id).c ⟨(zE7 id).toArray⟩ (zAJ id).l (zAJ id).m (zAJ id).p else zero6
theorem zKr (id:Int) (w:World) (hN:NmAt w) (h:id<0):CR 118 #[.int .i64 id] w (.tuple #[.agg zero6.toArray,.bool false]):=by
 have pZ:=AtL.new0 w 108 (sg6 0 0 ⟨#[]⟩ 0 0 ⟨#[]⟩);have hB:=zAM (Below.refl _ w) (.cells (sg6 0 0 ⟨#[]⟩ 0 0 ⟨#[]⟩).toArray 108);obtain ⟨b0,b1,b2,b3,b4,b5,k0,k1,k2,k3,k4,k5⟩:=at6 pZ;clear pZ hN;go_enter func118,ntmps118;go_upto_region 1 with fail
 generalize (w.alloc (.cells (sg6 0 0 ⟨#[]⟩ 0 0 ⟨#[]⟩).toArray 108))=W at *;go_wp2;refine bodyPost_ret (v:=.tuple #[.agg (sg6 0 0 ⟨#[]⟩ 0 0 ⟨#[]⟩).toArray,.bool false]) (by simp [results,results118,go_sem,b0,b1,b2,b3,b4,b5]) rfl ⟨rfl,(clB hB)⟩
theorem zL7 (id:Int) (w:World) (hN:NmAt w) (h:63<=id):CR 118 #[.int .i64 id] w (.tuple #[.agg zero6.toArray,.bool false]):=by
 have pZ:=AtL.new0 w 108 (sg6 0 0 ⟨#[]⟩ 0 0 ⟨#[]⟩);have hB:=zAM (Below.refl _ w) (.cells (sg6 0 0 ⟨#[]⟩ 0 0 ⟨#[]⟩).toArray 108);have h0:¬ id<0:=by omega
 obtain ⟨b0,b1,b2,b3,b4,b5,k0,k1,k2,k3,k4,k5⟩:=at6 pZ;clear pZ hN;go_enter func118,ntmps118;go_upto_region 1 with fail
 generalize (w.alloc (.cells (sg6 0 0 ⟨#[]⟩ 0 0 ⟨#[]⟩).toArray 108))=W at *;go_wp2;refine bodyPost_ret (v:=.tuple #[.agg (sg6 0 0 ⟨#[]⟩ 0 0 ⟨#[]⟩).toArray,.bool false]) (by simp [results,results118,go_sem,b0,b1,b2,b3,b4,b5]) rfl ⟨rfl,(clB hB)⟩
theorem zKj (id:Int) (w:World) (hN:NmAt w) (h0:0<=id) (h1:id<63) (he:zE7 id=[]):CR 118 #[.int .i64 id] w (.tuple #[.agg zero6.toArray,.bool false]):=by
 have pZ:=AtL.new0 w 108 (sg6 0 0 ⟨#[]⟩ 0 0 ⟨#[]⟩);have hB:=zAM (Below.refl _ w) (.cells (sg6 0 0 ⟨#[]⟩ 0 0 ⟨#[]⟩).toArray 108);have hc:=(hN.below hB).cell h0 h1;rw [he] at hc;have h0n:¬ id<0:=by omega
 have h1n:¬ 63<=id:=by omega
 clear he;obtain ⟨b0,b1,b2,b3,b4,b5,k0,k1,k2,k3,k4,k5⟩:=at6 pZ;clear pZ hN;go_enter func118,ntmps118;go_upto_region 1 with fail
 generalize (w.alloc (.cells (sg6 0 0 ⟨#[]⟩ 0 0 ⟨#[]⟩).toArray 108))=W at *;go_wp2;refine bodyPost_ret (v:=.tuple #[.agg (sg6 0 0 ⟨#[]⟩ 0 0 ⟨#[]⟩).toArray,.bool false]) (by simp [results,results118,go_sem,b0,b1,b2,b3,b4,b5]) rfl ⟨rfl,(clB hB)⟩
theorem zJ5 (id c l m:Int) (nm ps:ByteArray):(sg6 id c nm l m ps).toArray.all (·.oneCell')=true:=by simp [Value.oneCell']
theorem zMR (id:Int) (w:World) (hN:NmAt w) (h0:0<=id) (h1:id<63) (he:zE7 id ≠ []):CR 118 #[.int .i64 id] w (.tuple #[.agg (sg6 id (zAJ id).c ⟨(zE7 id).toArray⟩ (zAJ id).l (zAJ id).m (zAJ id).p).toArray,.bool true]):=by
 have pZ:=AtL.new0 w 108 (sg6 0 0 ⟨#[]⟩ 0 0 ⟨#[]⟩);have hB:=zAM (Below.refl _ w) (.cells (sg6 0 0 ⟨#[]⟩ 0 0 ⟨#[]⟩).toArray 108);have hN0:=hN.below hB;have hc:=hN0.cell h0 h1;have SH:=λw=>zHy id w
 unfold sh6 at SH;have hq:((zE7 id).toArray.toList == ([]:List UInt8))=false:=by
  cases hx:zE7 id with
  | nil=>exact absurd hx he
  | cons a t=>rfl
 obtain ⟨nm,hnm⟩:∃ nm:ByteArray,(⟨(zE7 id).toArray⟩:ByteArray)=nm:=⟨_,rfl⟩
 have hq2:(nm.toList == [])=false:=by
  rw [<-hnm,ByteArray.toList_eq];exact hq
 rw [hnm] at hc ⊢;have HC:Hid (∀ W,NmAt W->W.cell? ⟨0,id.toNat,none⟩=some (.string nm)):=λW h=>by rw [<-hnm];exact h.cell h0 h1
 have HN0:Hid (NmAt (w.alloc (.cells (sg6 0 0 ⟨#[]⟩ 0 0 ⟨#[]⟩).toArray 108))):=hN0;have HNw:Hid (NmAt w):=hN;have h0n:¬ id<0:=by omega
 have h1n:¬ 63<=id:=by omega
 generalize zAJ id=s at *;clear hN he hq hnm hN0;go_enter func118,ntmps118;go_upto_region 1 with fail
 generalize (w.alloc (.cells (sg6 0 0 ⟨#[]⟩ 0 0 ⟨#[]⟩).toArray 108))=W at *;go_wp2_with fail
 refine (SH _).mono ?_;rintro e w1 ⟨rfl,hb1⟩;have pZ1:=AtL.below hb1 pZ;have hB1:=zAB hB hb1;have HN1:Hid (NmAt w1):=HN0.out.below hb1;have pS:=AtL.new0 w1 108 (sg6 0 0 ⟨#[]⟩ 0 0 ⟨#[]⟩);have pZ2:=pZ1.alloc (.cells (sg6 0 0 ⟨#[]⟩ 0 0 ⟨#[]⟩).toArray 108);have hB2:=zAM hB1 (.cells (sg6 0 0 ⟨#[]⟩ 0 0 ⟨#[]⟩).toArray 108);have HN2:Hid (NmAt (w1.alloc (.cells (sg6 0 0 ⟨#[]⟩ 0 0 ⟨#[]⟩).toArray 108))):=HN1.out.below (zAM (Below.refl _ _) _);have hth:World.there (w1.alloc (.cells (sg6 0 0 ⟨#[]⟩ 0 0 ⟨#[]⟩).toArray 108)) w1.heap.size 0 (sg6 0 s.c ⟨#[]⟩ s.l s.m s.p).toArray.size:=pS.there;have hlt:=pZ1.lt;clear SH hc pZ pZ1 hB hB1 HN0 HN1 hb1;go_upto_region 4 with ((with_reducible refine wpList_store_mid ?_ 108 (.tmp 4) (.tmp 19) ?_ (w1.heap.size) 0 (sg6 0 s.c ⟨#[]⟩ s.l s.m s.p).toArray ?_ ?_ ?_ ?_ ?_ ?_);rfl;rfl;rfl;rfl;exact hth;kernel_rfl;exact zJ5 _ _ _ _ _ _)
 have pS4:AtL ((w1.alloc (.cells (sg6 0 0 ⟨#[]⟩ 0 0 ⟨#[]⟩).toArray 108)).setCells w1.heap.size 0 (sg6 0 s.c ⟨#[]⟩ s.l s.m s.p)) w1.heap.size (sg6 0 s.c ⟨#[]⟩ s.l s.m s.p):=pS.setAll rfl;have pZ4:=pZ2.farAll (b:=w1.heap.size) (by omega) 0 (sg6 0 s.c ⟨#[]⟩ s.l s.m s.p);have hB4:Below w.heap.size w ((w1.alloc (.cells (sg6 0 0 ⟨#[]⟩ 0 0 ⟨#[]⟩).toArray 108)).setCells w1.heap.size 0 (sg6 0 s.c ⟨#[]⟩ s.l s.m s.p)):=zAv hB2 (by omega) _ 0;have pS5:=AtL.drew pS4;have pZ5:=AtL.drew pZ4;have hB5:=hB4.drew;clear pS pZ2 hB2 HN2 hth pS4 pZ4 hB4;have hc5:=HC.out _ (HNw.out.below hB5);have hne:w1.heap.size ≠ 0:=by have:=zOv HNw.out;omega
 refine wp_region_held_drew (S:=λW=>W.cell? ⟨0,id.toNat,none⟩=some (.string nm)) (by kernel_rfl) hc5 (λhHeld=>?_);generalize (World.setCells (w1.alloc (.cells (sg6 0 0 ⟨#[]⟩ 0 0 ⟨#[]⟩).toArray 108)) w1.heap.size 0 (sg6 0 s.c ⟨#[]⟩ s.l s.m s.p)).drew=WD at *;have s0:=pS5.2.1 0 _ rfl;have f0:=pS5.2.2 0 (by simp);refine tkQ 0 ?_
 refine tkQ 1 ?_
 refine tkQ 2 ?_
 refine tkQ 3 ?_
 refine tkQ 4 ?_
 refine rdQ 5 (λK hK=>?_);go_simp
 refine hkQ hK (by rw [World.cell?_setCell_far _ _ _ _ (by simpa using hne)];exact hc5) (λhHeld=>?_);clear hK K
 have pS6:=pS5.set 0 (.int .i64 id);have pZ6:=pZ5.far (j:=w1.heap.size) (by omega) 0 (.int .i64 id);have hB6:Below w.heap.size w (WD.setCell ⟨w1.heap.size,0,none⟩ (.int .i64 id)):=hB5.setCell (p:=⟨w1.heap.size,0,none⟩) (show w.heap.size<=w1.heap.size by omega) _;have s2:=pS6.2.1 2 _ rfl;have f2:=pS6.2.2 2 (by simp);refine tkQ 6 ?_
 refine rdQ 7 (λK hK=>?_);go_simp
 refine hkQ hK (by rw [World.cell?_setCell_far _ _ _ _ (by simpa using hne)];exact hHeld) (λhHeld=>?_);clear hK K
 refine wpAnyH_done (by kernel_rfl) ?_ _;have pS8:AtL ((WD.setCell ⟨w1.heap.size,0,none⟩ (.int .i64 id)).setCell ⟨w1.heap.size,2,none⟩ (.string nm)) w1.heap.size (sg6 id s.c nm s.l s.m s.p):=pS6.set 2 (.string nm);have pZ8:=pZ6.far (j:=w1.heap.size) (by omega) 2 (.string nm);have hB8:Below w.heap.size w ((WD.setCell ⟨w1.heap.size,0,none⟩ (.int .i64 id)).setCell ⟨w1.heap.size,2,none⟩ (.string nm)):=hB6.setCell (p:=⟨w1.heap.size,2,none⟩) (show w.heap.size<=w1.heap.size by omega) _;clear pS5 pZ5 hB5 hc5 hHeld pS6 pZ6 hB6 s0 f0 s2 f2;generalize (WD.setCell ⟨w1.heap.size,0,none⟩ (.int .i64 id)).setCell ⟨w1.heap.size,2,none⟩ (.string nm)=W8 at *;have rS:=pS8.range;have hth:W8.there w.heap.size 0 (sg6 id s.c nm s.l s.m s.p).toArray.size:=pZ8.there;go_wp2_with (first
  | ((with_reducible refine wpList_load_mid (cs:=sg6 id s.c nm s.l s.m s.p) ?_ 108 (.tmp 4) ?_ (w1.heap.size) 0 ?_ _ ?_ underlying108 ?_ ?_ ?_);rfl;rfl;rfl;exact rS;rfl;kernel_rfl)
  | ((with_reducible refine wpList_store_mid ?_ 108 (.tmp 2) (.tmp 26) ?_ (w.heap.size) 0 (sg6 id s.c nm s.l s.m s.p).toArray ?_ ?_ ?_ ?_ ?_ ?_);rfl;rfl;rfl;rfl;exact hth;kernel_rfl;exact zJ5 _ _ _ _ _ _))
 have pZ9:AtL (W8.setCells w.heap.size 0 (sg6 id s.c nm s.l s.m s.p)) w.heap.size (sg6 id s.c nm s.l s.m s.p):=pZ8.setAll rfl;have hB9:Below w.heap.size w (W8.setCells w.heap.size 0 (sg6 id s.c nm s.l s.m s.p)):=zAv hB8 (Nat.le_refl _) _ 0;obtain ⟨b0,b1,b2,b3,b4,b5,k0,k1,k2,k3,k4,k5⟩:=at6 pZ9;refine bodyPost_ret (v:=.tuple #[.agg (sg6 id s.c nm s.l s.m s.p).toArray,.bool true]) (by simp [results,results118,go_sem,b0,b1,b2,b3,b4,b5]) rfl ⟨rfl,hB9⟩
theorem zF9 (id:Int) (w:World) (hN:NmAt w):CR 118 #[.int .i64 id] w (.tuple #[.agg (zCs id).toArray,.bool (zAb id)]):=by
 unfold zCs;by_cases h0:id<0
 ·have e:zAb id=false:=by unfold zAb;rw [decide_eq_false (by omega)];rfl
  rw [e];exact zKr id w hN h0
 by_cases h1:63<=id
 ·have e:zAb id=false:=by unfold zAb;rw [decide_eq_false (p:=id<63) (by omega),Bool.false_and,Bool.and_false]
  rw [e];exact zL7 id w hN h1
 by_cases he:zE7 id=[]
 ·have e:zAb id=false:=by unfold zAb;rw [he];simp
  rw [e];exact zKj id w hN (by omega) (by omega) he
 ·have e:zAb id=true:=by
   unfold zAb;rw [decide_eq_true (by omega),decide_eq_true (by omega)];cases hx:zE7 id with
   | nil=>exact absurd hx he
   | cons a t=>rfl
  rw [e,if_pos rfl];exact zMR id w hN (by omega) (by omega) he
def apl (id n:Int):Bool:=zAb id && ((zAJ id).c == 4 && (decide ((zAJ id).l<=n) && decide (n<=(zAJ id).m)))
theorem zEy (id n:Int) (w:World) (hN:NmAt w):CR 93 #[.int .i64 id,.int .i64 n] w (.bool (apl id n)):=by
 have BY:=zF9 id w hN;unfold zCs at BY;unfold apl;cases hk:zAb id with
 | false =>
  rw [hk,if_neg (by simp)] at BY;unfold zero6 at BY;clear hk hN;go_enter func93,ntmps93;go_wp2_with fail
  refine BY.mono ?_;rintro e w1 ⟨rfl,hb1⟩;have pZ:=AtL.new0 w1 108 (sg6 0 0 ⟨#[]⟩ 0 0 ⟨#[]⟩);have hB1:=zAM hb1 (.cells (sg6 0 0 ⟨#[]⟩ 0 0 ⟨#[]⟩).toArray 108);obtain ⟨b0,b1,b2,b3,b4,b5,k0,k1,k2,k3,k4,k5⟩:=at6 pZ;clear BY;go_wp2;go_ret;exact ⟨by simp,(clB hb1)⟩
 | true =>
  rw [hk,if_pos rfl] at BY;clear hk hN;generalize zAJ id=s at *;generalize (⟨(zE7 id).toArray⟩:ByteArray)=nm at *;cases h4:(s.c == 4) with
  | false =>
   go_enter func93,ntmps93;go_wp2_with fail
   refine BY.mono ?_;rintro e w1 ⟨rfl,hb1⟩;have pZ:=AtL.new0 w1 108 (sg6 0 0 ⟨#[]⟩ 0 0 ⟨#[]⟩);have hB1:=zAM hb1 (.cells (sg6 0 0 ⟨#[]⟩ 0 0 ⟨#[]⟩).toArray 108);have hth:World.there (w1.alloc (.cells (sg6 0 0 ⟨#[]⟩ 0 0 ⟨#[]⟩).toArray 108)) w1.heap.size 0 (sg6 id s.c nm s.l s.m s.p).toArray.size:=pZ.there;clear BY;go_upto_region 2 with ((with_reducible refine wpList_store_mid ?_ 108 (.tmp 5) (.tmp 10) ?_ (w1.heap.size) 0 (sg6 id s.c nm s.l s.m s.p).toArray ?_ ?_ ?_ ?_ ?_ ?_);rfl;rfl;rfl;rfl;exact hth;kernel_rfl;exact zJ5 _ _ _ _ _ _)
   have pZ9:AtL ((w1.alloc (.cells (sg6 0 0 ⟨#[]⟩ 0 0 ⟨#[]⟩).toArray 108)).setCells w1.heap.size 0 (sg6 id s.c nm s.l s.m s.p)) w1.heap.size (sg6 id s.c nm s.l s.m s.p):=pZ.setAll rfl;have hB9:Below w.heap.size w ((w1.alloc (.cells (sg6 0 0 ⟨#[]⟩ 0 0 ⟨#[]⟩).toArray 108)).setCells w1.heap.size 0 (sg6 id s.c nm s.l s.m s.p)):=zAv hB1 hb1.size _ 0;generalize World.setCells (w1.alloc (.cells (sg6 0 0 ⟨#[]⟩ 0 0 ⟨#[]⟩).toArray 108)) w1.heap.size 0 (sg6 id s.c nm s.l s.m s.p)=W9 at *;obtain ⟨b0,b1,b2,b3,b4,b5,k0,k1,k2,k3,k4,k5⟩:=at6 pZ9;go_wp2;go_ret;exact ⟨by simp,hB9⟩
  | true =>
   by_cases hl:s.l<=n
   ·by_cases hm:n<=s.m
    ·go_enter func93,ntmps93;go_wp2_with fail
     refine BY.mono ?_;rintro e w1 ⟨rfl,hb1⟩;have pZ:=AtL.new0 w1 108 (sg6 0 0 ⟨#[]⟩ 0 0 ⟨#[]⟩);have hB1:=zAM hb1 (.cells (sg6 0 0 ⟨#[]⟩ 0 0 ⟨#[]⟩).toArray 108);have hth:World.there (w1.alloc (.cells (sg6 0 0 ⟨#[]⟩ 0 0 ⟨#[]⟩).toArray 108)) w1.heap.size 0 (sg6 id s.c nm s.l s.m s.p).toArray.size:=pZ.there;clear BY;go_upto_region 2 with ((with_reducible refine wpList_store_mid ?_ 108 (.tmp 5) (.tmp 10) ?_ (w1.heap.size) 0 (sg6 id s.c nm s.l s.m s.p).toArray ?_ ?_ ?_ ?_ ?_ ?_);rfl;rfl;rfl;rfl;exact hth;kernel_rfl;exact zJ5 _ _ _ _ _ _)
     have pZ9:AtL ((w1.alloc (.cells (sg6 0 0 ⟨#[]⟩ 0 0 ⟨#[]⟩).toArray 108)).setCells w1.heap.size 0 (sg6 id s.c nm s.l s.m s.p)) w1.heap.size (sg6 id s.c nm s.l s.m s.p):=pZ.setAll rfl;have hB9:Below w.heap.size w ((w1.alloc (.cells (sg6 0 0 ⟨#[]⟩ 0 0 ⟨#[]⟩).toArray 108)).setCells w1.heap.size 0 (sg6 id s.c nm s.l s.m s.p)):=zAv hB1 hb1.size _ 0;generalize World.setCells (w1.alloc (.cells (sg6 0 0 ⟨#[]⟩ 0 0 ⟨#[]⟩).toArray 108)) w1.heap.size 0 (sg6 id s.c nm s.l s.m s.p)=W9 at *;obtain ⟨b0,b1,b2,b3,b4,b5,k0,k1,k2,k3,k4,k5⟩:=at6 pZ9;go_wp2;go_ret;exact ⟨by simp [hl,hm],hB9⟩
    ·go_enter func93,ntmps93;go_wp2_with fail
     refine BY.mono ?_;rintro e w1 ⟨rfl,hb1⟩;have pZ:=AtL.new0 w1 108 (sg6 0 0 ⟨#[]⟩ 0 0 ⟨#[]⟩);have hB1:=zAM hb1 (.cells (sg6 0 0 ⟨#[]⟩ 0 0 ⟨#[]⟩).toArray 108);have hth:World.there (w1.alloc (.cells (sg6 0 0 ⟨#[]⟩ 0 0 ⟨#[]⟩).toArray 108)) w1.heap.size 0 (sg6 id s.c nm s.l s.m s.p).toArray.size:=pZ.there;clear BY;go_upto_region 2 with ((with_reducible refine wpList_store_mid ?_ 108 (.tmp 5) (.tmp 10) ?_ (w1.heap.size) 0 (sg6 id s.c nm s.l s.m s.p).toArray ?_ ?_ ?_ ?_ ?_ ?_);rfl;rfl;rfl;rfl;exact hth;kernel_rfl;exact zJ5 _ _ _ _ _ _)
     have pZ9:AtL ((w1.alloc (.cells (sg6 0 0 ⟨#[]⟩ 0 0 ⟨#[]⟩).toArray 108)).setCells w1.heap.size 0 (sg6 id s.c nm s.l s.m s.p)) w1.heap.size (sg6 id s.c nm s.l s.m s.p):=pZ.setAll rfl;have hB9:Below w.heap.size w ((w1.alloc (.cells (sg6 0 0 ⟨#[]⟩ 0 0 ⟨#[]⟩).toArray 108)).setCells w1.heap.size 0 (sg6 id s.c nm s.l s.m s.p)):=zAv hB1 hb1.size _ 0;generalize World.setCells (w1.alloc (.cells (sg6 0 0 ⟨#[]⟩ 0 0 ⟨#[]⟩).toArray 108)) w1.heap.size 0 (sg6 id s.c nm s.l s.m s.p)=W9 at *;obtain ⟨b0,b1,b2,b3,b4,b5,k0,k1,k2,k3,k4,k5⟩:=at6 pZ9;go_wp2;go_ret;exact ⟨by simp [hl],hB9⟩
   ·go_enter func93,ntmps93;go_wp2_with fail
    refine BY.mono ?_;rintro e w1 ⟨rfl,hb1⟩;have pZ:=AtL.new0 w1 108 (sg6 0 0 ⟨#[]⟩ 0 0 ⟨#[]⟩);have hB1:=zAM hb1 (.cells (sg6 0 0 ⟨#[]⟩ 0 0 ⟨#[]⟩).toArray 108);have hth:World.there (w1.alloc (.cells (sg6 0 0 ⟨#[]⟩ 0 0 ⟨#[]⟩).toArray 108)) w1.heap.size 0 (sg6 id s.c nm s.l s.m s.p).toArray.size:=pZ.there;clear BY;go_upto_region 2 with ((with_reducible refine wpList_store_mid ?_ 108 (.tmp 5) (.tmp 10) ?_ (w1.heap.size) 0 (sg6 id s.c nm s.l s.m s.p).toArray ?_ ?_ ?_ ?_ ?_ ?_);rfl;rfl;rfl;rfl;exact hth;kernel_rfl;exact zJ5 _ _ _ _ _ _)
    have pZ9:AtL ((w1.alloc (.cells (sg6 0 0 ⟨#[]⟩ 0 0 ⟨#[]⟩).toArray 108)).setCells w1.heap.size 0 (sg6 id s.c nm s.l s.m s.p)) w1.heap.size (sg6 id s.c nm s.l s.m s.p):=pZ.setAll rfl;have hB9:Below w.heap.size w ((w1.alloc (.cells (sg6 0 0 ⟨#[]⟩ 0 0 ⟨#[]⟩).toArray 108)).setCells w1.heap.size 0 (sg6 id s.c nm s.l s.m s.p)):=zAv hB1 hb1.size _ 0;generalize World.setCells (w1.alloc (.cells (sg6 0 0 ⟨#[]⟩ 0 0 ⟨#[]⟩).toArray 108)) w1.heap.size 0 (sg6 id s.c nm s.l s.m s.p)=W9 at *;obtain ⟨b0,b1,b2,b3,b4,b5,k0,k1,k2,k3,k4,k5⟩:=at6 pZ9;go_wp2;go_ret;exact ⟨by simp;omega,hB9⟩
def FoldL (w:World) (b o:Nat) (F:List (Int × Int)):Prop:=∃ av cap,w.cell? ⟨b,o,none⟩=some (.slice av F.length cap)/\∀ i (h:i<F.length),∃ bb off,av=some ⟨bb,off,none⟩/\w.cell? ⟨bb,off+i * 2,none⟩=some (.int .i64 (F[i]).1)/\w.cell? ⟨bb,off+i * 2+1,none⟩=some (.int .i64 (F[i]).2)
theorem FoldL.below {F:List (Int × Int)} (h:FoldL w b o F) (hb:Below w.heap.size w w'):FoldL w' b o F:=by
 obtain ⟨av,cap,h1,h2⟩:=h;refine ⟨av,cap,zAC hb h1,λi hi=>?_⟩;obtain ⟨bb,off,e,h3,h4⟩:=h2 i hi;exact ⟨bb,off,e,zAC hb h3,zAC hb h4⟩
theorem zJG (b o:Nat) (w:World):CR 141 #[.pointer (some ⟨b,o,none⟩),.int .i64 0] w (.tuple #[.agg #[.int .i64 0,.int .i64 0],.bool false]):=by
 have pZ:=AtL.new0 w 193 [.int .i64 0,.int .i64 0];have hB:=zAM (Below.refl _ w) (.cells #[.int .i64 0,.int .i64 0] 193);obtain ⟨b0,b1,k0,k1⟩:=pZ.two;clear pZ;go_enter func141,ntmps141;go_upto_region 1 with fail
 generalize (w.alloc (.cells #[.int .i64 0,.int .i64 0] 193))=W at *;go_wp2;refine bodyPost_ret (v:=.tuple #[.agg #[.int .i64 0,.int .i64 0],.bool false]) (by simp [results,results141,go_sem,b0,b1]) rfl ⟨rfl,(clB hB)⟩
theorem zK6 (b o:Nat) (F:List (Int × Int)) (i:Nat) (w:World) (hF:FoldL w b o F) (hi:i<F.length) (hl:F.length<=1000000):CR 141 #[.pointer (some ⟨b,o,none⟩),.int .i64 ((i:Int)+1)] w (.tuple #[.agg #[.int .i64 (F[i]).1,.int .i64 (F[i]).2],.bool true]):=by
 have pZ:=AtL.new0 w 193 [.int .i64 0,.int .i64 0];have hB:=zAM (Below.refl _ w) (.cells #[.int .i64 0,.int .i64 0] 193);obtain ⟨av,cap,h1,h2⟩:=hF.below hB;obtain ⟨bb,off,rfl,h3,h4⟩:=h2 i hi;obtain ⟨b0,b1,k0,k1⟩:=pZ.two;have n0:((i:Int)+1 == 0)=false:=by simp;omega
 have w1:IntKind.i64.wrap ((i:Int)+1 - 1)=(i:Int):=by rw [IntKind.wrap_i64];omega
 have w2:IntKind.i64.wrap (i:Int)=(i:Int):=by rw [IntKind.wrap_i64];omega
 have l0:(0:Int)<=(i:Int):=by omega
 have l1:(i:Int)<(F.length:Int):=by omega
 generalize (F[i]).1=x at *;generalize (F[i]).2=y at *;clear pZ h2 hF hi hl;go_enter func141,ntmps141;go_upto_region 1 with fail
 generalize (w.alloc (.cells #[.int .i64 0,.int .i64 0] 193))=W at *;go_wp2;refine bodyPost_ret (v:=.tuple #[.agg #[.int .i64 x,.int .i64 y],.bool true]) (by simp [results,results141,go_sem,b0,b1]) rfl ⟨rfl,(clB hB)⟩
def fld (id:Int):Bool:=decide ((1<=id/\id<=15) \/ (20<=id/\id<=24))
def zAE (id n k:Int):List Value:=[.int .i64 id,.int .i64 0,.int .i64 n,.int .i64 1,.int .i64 k,.int .i64 0,.int .i64 0,.string ⟨#[]⟩,.bool false,.int .i64 0,.int .i64 0,.int .i64 0,.int .i64 0,.string ⟨#[]⟩,.bool false,.int .i64 0,.bool false,.bool false,.bool false,.int .i64 0,.int .i64 0]
theorem zB1 (id n k:Int):(zAE id n k).toArray.all (·.oneCell')=true:=by
 apply all_oneCell_toArray
 intro v hv;simp only [zAE,List.mem_cons,List.not_mem_nil,or_false] at hv;rcases hv with rfl | rfl | rfl | rfl | rfl | rfl | rfl | rfl | rfl | rfl | rfl | rfl | rfl | rfl | rfl | rfl | rfl | rfl | rfl | rfl | rfl <;> rfl
open Go.ChangeMaps (setBlock heap_setBlock_same heap_setBlock_other)
open Go.ChangeShapes Go.WideShapes Go.MapKept
theorem zBf (hb:w.heap[b]? = some (.map es ck)) (o:Obj):w.grownBy (setBlock w b o) (some b) :=
 ⟨rfl,rfl,rfl,by simp [setBlock],λi _ hi=>heap_setBlock_other hb _ (λe=>hi (by rw [e]))⟩
theorem zEn {t k e:TypeId} (ht:P.underlying t=some (.map k e)) (hb:w.heap[b]? = some (.map es ck)) {key:Value} (val:Value)
  (hc:(Instr.checkKey false 10000 k key).run P w=.ok () w) (hf:(Instr.findKey k key es.toList).run P w=.ok none w) :
  (Instr.mapUpdate t (.map (some b)) key val).run P w=.ok () (setBlock w b (.map (es.push ⟨key,val,ck⟩) (ck+1))):=by
 simp [Instr.mapUpdate,run_underlying ht,MapKept.run_getObj_map hb,hc,hf,MapKept.run_setObj_map _ hb,Result.andThen,setBlock]
theorem zA3 {t k e:TypeId} (ht:P.underlying t=some (.map k e)) (hb:w.heap[b]? = some (.map es ck)) {key v:Value} {j:Nat}
  (hc:(Instr.checkKey es.isEmpty 10000 k key).run P w=.ok () w) (hf:(Instr.findKey k key es.toList).run P w=.ok (some (j,v)) w) :
  (Instr.lookup t (.map (some b)) key true).run P w=.ok (.tuple #[v,.bool true]) w:=by
 simp [Instr.lookup,run_underlying ht,MapKept.run_getObj_map hb,hc,hf,Result.andThen]
theorem zCn {t k e:TypeId} (ht:P.underlying t=some (.map k e)) (hb:w.heap[b]? = some (.map es ck)) {key z:Value}
  (hc:(Instr.checkKey es.isEmpty 10000 k key).run P w=.ok () w) (hf:(Instr.findKey k key es.toList).run P w=.ok none w) (hz:(zeroValue e).run P w=.ok z w) :
  (Instr.lookup t (.map (some b)) key true).run P w=.ok (.tuple #[z,.bool false]) w:=by
 simp [Instr.lookup,run_underlying ht,MapKept.run_getObj_map hb,hc,hf,hz,Result.andThen]
def zMz:List (Int × Nat)->Array MapEntry
 | []=>#[]
 | (k,f)::r=>(zMz r).push ⟨.int .i64 k,.func (.func f) #[] #[],r.length⟩
def KM (w:World) (b:Nat) (l:List (Int × Nat)):Prop:=w.heap[b]? = some (.map (zMz l) l.length)
theorem zC0 (k:Int):∀ (l:List MapEntry) (i:Nat),(∀ e ∈ l,∃ j,e.key=.int .i64 j/\j ≠ k)->Instr.findNow (.int .i64) (.int .i64 k) l i=some none
 | [],_,_=>rfl
 | e::r,i,h=>by
  obtain ⟨j,hj,hne⟩:=h e (List.mem_cons_self ..);have hs:Instr.sameNow (.int .i64) (.int .i64 k) e.key=some false:=by
   rw [hj];simp [Instr.sameNow];omega
  simp only [Instr.findNow,hs];exact zC0 k r (i+1) λe he=>h e (List.mem_cons_of_mem _ he)
theorem zEF (k:Int):∀ l:List (Int × Nat),(∀ p ∈ l,p.1 ≠ k)->∀ e ∈ (zMz l).toList,∃ j,e.key=.int .i64 j/\j ≠ k
 | [],_,e,he=>by simp [zMz] at he
 | (q,f)::r,h,e,he=>by
  simp only [zMz,Array.toList_push,List.mem_append,List.mem_singleton] at he;rcases he with he | rfl
  ·exact zEF k r (λp hp=>h p (List.mem_cons_of_mem _ hp)) e he
  ·exact ⟨q,rfl,h (q,f) (List.mem_cons_self ..)⟩
theorem zDE (em:Bool) (k:Int) (w:World):(Instr.checkKey em 10000 3 (.int .i64 k)).run prog w=.ok () w:=by kernel_rfl
theorem zHs (l:List (Int × Nat)) (k:Int) (h:∀ p ∈ l,p.1 ≠ k) (w:World):(Instr.findKey 3 (.int .i64 k) (zMz l).toList).run prog w=.ok none w:=by
 have h1:=zC0 k (zMz l).toList 0 (zEF k l h);simp [Instr.findKey,go_sem,h1]
theorem zDD:prog.underlying 224=some (.map 3 222):=by kernel_rfl
theorem zEh {ops:Array Oper} {rest:List Oper} {op:Oper} {a:Act} {Q:Exit->Act->World->Prop} (hgd:op.guard=none) (m x v:Operand) (ho:op.op=.insert 224 m x v) (b:Nat) (hm:a.eval m=.map (some b)) (k:Int) (hx:a.eval x=.int .i64 k) (f:Nat) (hv:a.eval v=.func (.func f) #[] #[])
  (r:List (Int × Nat)) (h:KM w b r) (hn:∀ p ∈ r,p.1 ≠ k)
  (hK:∀ w',KM w' b ((k,f)::r)->w.grownBy w' (some b)->wpList prog ops Q rest (a.put op.dst undef) w'):wpList prog ops Q (op::rest) a w:=by
 refine wpList_plain hgd λK' hK'=>?_
 have hrun:=zEn zDD h (.func (.func f) #[] #[]) (zDE false k w) (zHs r k hn w);unfold Oper.wp;simp [execOp,ho,hm,hx,hv,hrun,Result.andThen];exact hK' _ _ (hK _ (heap_setBlock_same h _) (zBf h _))
def kT:List (Int × Nat):=[(24,197),(23,196),(22,195),(21,194),(20,193),(15,192),(14,191),(13,190),(12,189),(11,188),(10,187),(9,186),(8,185),(7,184),(6,183),(5,182),(4,181),(3,180),(2,179),(1,178)]
theorem zAX (w:World):Calls prog 176 #[] w λe w'=>(∃ b,e=.returned (.map (some b))/\KM w' b kT)/\Below w.heap.size w w':=by
 have hM:KM (w.alloc (.map #[] 0)) w.heap.size []:=by
  show (w.alloc (.map #[] 0)).heap[w.heap.size]? = some (.map #[] 0)
  exact Array.getElem?_push_size
 have hB:=zAM (Below.refl _ w) (.map #[] 0);have hmk:∀ w:World,(Instr.makeMap 224 none).run prog w=.ok (.map (some w.heap.size)) (w.alloc (.map #[] 0)):=λw=>by kernel_rfl
 go_enter func176,ntmps176;go_upto_region 1 with fail
 go_wp2_with (refine zEh rfl _ _ _ rfl w.heap.size rfl _ rfl _ rfl _ hM (by decide) ?_;clear hM;intro wn hM gn;replace hB:=hB.grown gn hB.size (λk e=>by cases e;exact Nat.le_refl _);clear gn)
 go_ret;exact ⟨⟨_,rfl,hM⟩,hB⟩
abbrev fr2 (x:Nat × Int):Value:=.agg #[.int .i64 x.1,.int .i64 x.2]
def zGy:Nat->List (Nat × Int)->List MapEntry
 | _,[]=>[]
 | i,x::r=>⟨fr2 x,.int .i64 ((i:Int)+1),i⟩::zGy (i+1) r
theorem zFX:∀ (F:List (Nat × Int)) (i:Nat) (x:Nat × Int),zGy i (F++[x])=zGy i F++[⟨fr2 x,.int .i64 (((i+F.length:Nat):Int)+1),i+F.length⟩]
 | [],i,x=>rfl
 | y::r,i,x=>by
  show _::zGy (i+1) (r++[x])=_::(zGy (i+1) r++_)
  rw [zFX r (i+1) x];have e:i+1+r.length=i+(r.length+1):=by omega
  rw [e];rfl
def FM (w:World) (b:Nat) (F:List (Nat × Int)):Prop:=∃ es:Array MapEntry,w.heap[b]? = some (.map es F.length)/\es.toList=zGy 0 F
theorem FM.lt (h:FM w b F):b<w.heap.size:=by
 obtain ⟨es,h,_⟩:=h;rcases Nat.lt_or_ge b w.heap.size with g | g
 ·exact g
 ·rw [Array.getElem?_eq_none g] at h;cases h
theorem FM.below (h:FM w b F) (hb:Below w.heap.size w w'):FM w' b F:=by
 have hlt:=h.lt;obtain ⟨es,h1,h2⟩:=h;exact ⟨es,by rw [hb.block b hlt];exact h1,h2⟩
theorem zOj (em:Bool) (x y:Int) (w:World):(Instr.checkKey em 10000 193 (.agg #[.int .i64 x,.int .i64 y])).run prog w=.ok () w:=by kernel_rfl
theorem zNF (x y x' y':Int) (w:World):(Op.equal 193 (.agg #[.int .i64 x,.int .i64 y]) (.agg #[.int .i64 x',.int .i64 y'])).run prog w=.ok ((x == x') && (y == y')) w:=by
 show (Op.equalIn (9998+2) 193 _ _).run _ _=_
 by_cases h1:x=x'
 ·by_cases h2:y=y'
  ·simp [go_sem,h1,h2]
  ·simp [go_sem,h1,h2]
 ·simp [go_sem,h1]
theorem zMa (x y:Nat × Int) (w:World):(Op.equal 193 (fr2 x) (fr2 y)).run prog w=.ok (y == x) w:=by
 rw [zNF];congr 1
 obtain ⟨a,b⟩:=x;obtain ⟨c,d⟩:=y;rw [Bool.eq_iff_iff];simp only [Bool.and_eq_true,beq_iff_eq,Prod.mk.injEq];omega
theorem zNf (x:Nat × Int) (w:World):∀ (F:List (Nat × Int)) (i:Nat),(Instr.findAsking 193 (fr2 x) (zGy i F) i).run prog w=.ok ((F.findIdx? (· == x)).map λk=>(i+k,Value.int .i64 (((i+k:Nat):Int)+1))) w
 | [],i=>rfl
 | y::r,i=>by
  have h:=zNf x w r (i+1);have e:=zMa x y w;unfold zGy;rw [List.findIdx?_cons];cases hq:(y == x) with
  | true =>
   rw [hq] at e;simp [Instr.findAsking,e,Result.andThen]
  | false =>
   rw [hq] at e;simp [Instr.findAsking,e,Result.andThen,h];cases r.findIdx? (· == x) with
   | none=>rfl
   | some k =>
    simp;omega
theorem zPA (x:Nat × Int) (F:List (Nat × Int)) (w:World):(Instr.findKey 193 (fr2 x) (zGy 0 F)).run prog w=.ok ((F.findIdx? (· == x)).map λk=>(k,Value.int .i64 ((k:Int)+1))) w:=by
 have h:=zNf x w F 0;cases F with
 | nil=>simp [Instr.findKey,go_sem,zGy,Instr.findNow]
 | cons y r =>
  simp [Instr.findKey,go_sem,zGy,Instr.findNow,Instr.sameNow];simpa [zGy] using h
structure Fr (S:List Nat) (w w':World):Prop where
 os:w'.os=w.os
 tape:w'.tape=w.tape
 output:w'.output=w.output
 size:w.heap.size<=w'.heap.size
 block:∀ k:Nat,k<w.heap.size->k ∉ S->w'.heap[k]? = w.heap[k]?
theorem Fr.refl (S:List Nat) (w:World):Fr S w w:=⟨rfl,rfl,rfl,Nat.le_refl _,λ_ _ _=>rfl⟩
theorem Fr.of_below (S:List Nat) {w w':World} (h:Below w.heap.size w w'):Fr S w w':=⟨h.os,h.tape,h.output,h.size,λk hk _=>h.block k hk⟩
theorem Fr.of_grown {row:Option Nat} (h:w.grownBy w' row) (hr:∀ k,row=some k->k ∈ S):Fr S w w' :=
 ⟨h.os,h.tape,h.output,h.size,λk hk hn=>h.block k hk (λe=>hn (hr k e.symm))⟩
theorem Fr.trans (h:Fr S w w') (h':Fr S w' w''):Fr S w w'' :=
 ⟨h'.os.trans h.os,h'.tape.trans h.tape,h'.output.trans h.output,Nat.le_trans h.size h'.size,λk hk hn=>(h'.block k (Nat.lt_of_lt_of_le hk h.size) hn).trans (h.block k hk hn)⟩
theorem Fr.mono (h:Fr S w w') (hs:∀ k ∈ S,k ∈ T):Fr T w w':=⟨h.os,h.tape,h.output,h.size,λk hk hn=>h.block k hk (λe=>hn (hs k e))⟩
theorem Fr.new (h:Fr S w w') (h':Fr T w' w'') (hs:∀ k ∈ T,k ∈ S \/ w.heap.size<=k):Fr S w w'' :=
 ⟨h'.os.trans h.os,h'.tape.trans h.tape,h'.output.trans h.output,Nat.le_trans h.size h'.size,λk hk hn=>(h'.block k (Nat.lt_of_lt_of_le hk h.size) (λe=>(hs k e).elim hn (λg=>absurd hk (Nat.not_lt.2 g)))).trans (h.block k hk hn)⟩
theorem Fr.to_below (h:Fr S w w') (hs:∀ k ∈ S,w.heap.size<=k):Below w.heap.size w w' :=
 ⟨h.os,h.tape,h.output,h.size,λk hk=>h.block k hk (λe=>absurd hk (Nat.not_lt.2 (hs k e)))⟩
theorem zA5 (h:w.cell? ⟨b,o,none⟩=some v):b<w.heap.size:=by
 rcases Nat.lt_or_ge b w.heap.size with g | g
 ·exact g
 ·unfold World.cell? at h;simp only [Array.getElem?_eq_none g] at h;cases h
theorem Fr.cell (h:Fr S w w') {b o:Nat} {v:Value} (hc:w.cell? ⟨b,o,none⟩=some v) (hn:b ∉ S):w'.cell? ⟨b,o,none⟩=some v:=by
 rw [<-hc];unfold World.cell?;rw [h.block b (zA5 hc) hn]
theorem Fr.frozen (h:Fr S w w') {b o:Nat} (hb:b<w.heap.size) (hn:b ∉ S):w'.frozen? ⟨b,o,none⟩=w.frozen? ⟨b,o,none⟩:=by
 unfold World.frozen?;rw [h.block b hb hn]
theorem Fr.range (h:Fr S w w') {b o:Nat} {l:List Value} (hr:w.rangeAt b o l) (hn:b ∉ S):w'.rangeAt b o l:=λj v hv=>h.cell (hr j v hv) hn
theorem Fr.fm (h:Fr S w w') {b:Nat} {F:List (Nat × Int)} (hm:FM w b F) (hn:b ∉ S):FM w' b F:=by
 have hlt:=hm.lt;obtain ⟨es,h1,h2⟩:=hm;exact ⟨es,by rw [h.block b hlt hn];exact h1,h2⟩
def zBd:List (Nat × Int)->List Value
 | []=>[]
 | x::r=>.int .i64 x.1 :: .int .i64 x.2::zBd r
theorem zDr:∀ F:List (Nat × Int),(zBd F).length=F.length * 2
 | []=>rfl
 | x::r=>by simp [zBd,zDr r];omega
theorem zCh:∀ (F G:List (Nat × Int)),zBd (F++G)=zBd F++zBd G
 | [],G=>rfl
 | x::r,G=>by simp [zBd,zCh r G]
theorem zDu:∀ (F:List (Nat × Int)) (i:Nat) (h:i<F.length),(zBd F)[i * 2]? = some (.int .i64 (F[i]).1)/\(zBd F)[i * 2+1]? = some (.int .i64 (F[i]).2)
 | x::r,0,_=>⟨rfl,rfl⟩
 | x::r,i+1,h=>by
  have:=zDu r i (by simpa using h);have e:(i+1) * 2=i * 2+2:=by omega
  rw [e];exact this
structure FS (w:World) (b mb:Nat) (lv:Value) (F:List (Nat × Int)):Prop where
 hd:w.cell? ⟨b,1,none⟩=some lv
 hf:w.frozen? ⟨b,1,none⟩=false
 own:w.ownsRow (b+1) 193 2 lv F.length (zBd F)
 mp:w.cell? ⟨b,2,none⟩=some (.map (some mb))
 fm:FM w mb F
 lt:mb<b
theorem zAK {B:Nat} {T:TypeId} {n:Nat} {xs:List Value} (h:w.ownsRow B T k v n xs) {g:Nat} (e:v.ownBlock=some g):B<=g/\g<w.heap.size:=by
 rcases h.2 with ⟨rfl,_⟩ | ⟨g',cap,cur,rfl,hb,hg,_⟩
 ·cases e
 ·have e2:g'=g:=by simpa [Value.ownBlock] using e
  subst e2;refine ⟨hb,?_⟩;rcases Nat.lt_or_ge g' w.heap.size with q | q
  ·exact q
  ·rw [Array.getElem?_eq_none q] at hg;cases hg
theorem zAW (h:Fr S w w') {B:Nat} {T:TypeId} {k:Nat} {v:Value} {n:Nat} {xs:List Value} (ho:w.ownsRow B T k v n xs) (hn:∀ g,v.ownBlock=some g->g ∉ S):w'.ownsRow B T k v n xs:=by
 have hb:=λ{g} (e:v.ownBlock=some g)=>zAK ho e
 refine ⟨ho.1,?_⟩;rcases ho.2 with q | ⟨g,cap,cur,rfl,hb1,hg,r1,r2,r3,r4⟩
 ·exact Or.inl q
 ·exact Or.inr ⟨g,cap,cur,rfl,hb1,by rw [h.block g (hb rfl).2 (hn g rfl)];exact hg,r1,r2,r3,r4⟩
theorem FS.list {mb:Nat} {lv:Value} (h:FS w b mb lv F):FoldL w b 1 (F.map λx=>((x.1:Int),x.2)):=by
 rcases h.own.2 with ⟨e,h0⟩ | ⟨g,cap,cur,e,hb1,hg,r1,r2,r3,r4⟩
 ·have hF:F=[]:=List.eq_nil_of_length_eq_zero h0;subst hF;refine ⟨none,0,by rw [h.hd,e];rfl,λi hi=>absurd hi (Nat.not_lt_zero _)⟩
 ·refine ⟨some ⟨g,0,none⟩,cap,by rw [h.hd,e];simp,λi hi=>⟨g,0,rfl,?_⟩⟩;have hi2:i<F.length:=by simpa using hi
  have hl:=zDr F;have hg2:∀ j v,(zBd F)[j]? = some v->w.cell? ⟨g,j,none⟩=some v:=by
   intro j v hv;have hj:j<F.length * 2:=by
    rw [<-hl];rcases Nat.lt_or_ge j (zBd F).length with q | q
    ·exact q
    ·rw [List.getElem?_eq_none q] at hv;cases hv
   rw [<-r4,List.getElem?_take_of_lt hj] at hv;unfold World.cell?;simp only [hg];simpa using hv
  obtain ⟨q1,q2⟩:=zDu F i hi2;have c1:=hg2 _ _ q1;have c2:=hg2 _ _ q2;simp only [List.getElem_map,Nat.zero_add];exact ⟨c1,c2⟩
