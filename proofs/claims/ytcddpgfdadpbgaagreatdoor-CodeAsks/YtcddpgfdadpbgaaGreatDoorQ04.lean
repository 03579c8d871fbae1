/- KWalkC, KWalkD. -/
import Derived.Test.YtcddpgfdadpbgaaGreatDoorQ03
set_option maxHeartbeats 4000000
set_option maxRecDepth 100000
namespace Go.Proofs.YtcddpgfdadpbgaaGreatDoor
open Tryz
open Go.RowKit
theorem tkQ {P:Program} {ops:Array Oper} {Q:Exit->Act->World->Prop} {md:Region.Mode} {S:World->Prop} {v:Value} {fuel:Nat} {listed l':Array Bool} {a a':Act} {w:World} (i:Nat) (oi:Oper) (h:wpAnyH P md ops Q S fuel l' a' w) (hi:ops[i]?=some oi:=by rfl) (hs:Region.noSelect ops=true:=by kernel_rfl) (hf:Region.free md ops listed i=true:=by kernel_rfl) (hr:(Region.ready md ops listed).contains i=true:=by kernel_rfl) (hQ:∀ c a w,Q (.panic c) (a.put oi.dst v) w->Q (.panic c) a w:=by exact λ_ _ _ h=>h) (hw:Region.wanted oi (yielded ops a.tmps)=true:=by rfl) (hy:∀ w,S w->(execOp a.eval oi).run P w=.ok (.value v) w:=by (intro w hSw;(try dsimp only at hSw);go_simp;(try with_reducible rfl))) (hS:S w:=by assumption) (hp:a.put oi.dst v=a':=by ((try simp only [Act.put,lA,lZ,lS]);(try rfl))) (hl:listed.setIfInBounds i true=l':=by ((try simp only [Act.put,lA,lZ,lS]);(try rfl))):wpAnyH P md ops Q S (fuel+1) listed a w:=by subst hp;subst hl;exact wpAnyH_take hi hs hf hr hQ (Or.inl ⟨hw,hy⟩) hS h
theorem tnQ {P:Program} {ops:Array Oper} {Q:Exit->Act->World->Prop} {md:Region.Mode} {S:World->Prop} {fuel:Nat} {listed l':Array Bool} {a a':Act} {w:World} (i:Nat) (oi:Oper) (h:wpAnyH P md ops Q S fuel l' a' w) (hi:ops[i]?=some oi:=by rfl) (hs:Region.noSelect ops=true:=by kernel_rfl) (hf:Region.free md ops listed i=true:=by kernel_rfl) (hr:(Region.ready md ops listed).contains i=true:=by kernel_rfl) (hQ:∀ c a w,Q (.panic c) (a.put oi.dst undef) w->Q (.panic c) a w:=by exact λ_ _ _ h=>h) (hw:Region.wanted oi (yielded ops a.tmps)=false:=by rfl) (hS:S w:=by assumption) (hp:a.put oi.dst undef=a':=by ((try simp only [Act.put,lA,lZ,lS]);(try rfl))) (hl:listed.setIfInBounds i true=l':=by ((try simp only [Act.put,lA,lZ,lS]);(try rfl))):wpAnyH P md ops Q S (fuel+1) listed a w:=by subst hp;subst hl;exact wpAnyH_take hi hs hf hr hQ (Or.inr ⟨hw,rfl⟩) hS h
theorem hkQ {S:World->Prop} {W:Act->World->Prop} {K:Act->World->Prop} {a a':Act} {w:World} (hK:Shut (∀ a w,S w->(S w->W a w)->K a w)) (hS:S w) (h:S w->W a' w) (hp:a=a':=by ((try simp only [Act.put,lA,lZ,lS]);(try rfl))):K a w:=by subst hp;exact hK.out _ _ hS h
theorem rdQ {P:Program} {ops:Array Oper} {Q:Exit->Act->World->Prop} {md:Region.Mode} {S:World->Prop} {fuel:Nat} {listed:Array Bool} {a:Act} {w:World} (i:Nat) (o:Oper) (h:∀ K:Act->World->Prop,Shut (∀ a w,S w->(S w->wpAnyH P md ops Q S fuel (listed.setIfInBounds i true) a w)->K a w)->if Region.wanted o (yielded ops a.tmps)=true then Oper.wp P o a w K Q else K (a.put o.dst undef) w) (ho:ops[i]?=some o:=by rfl) (hr:Region.ready md ops listed=[i]:=by kernel_rfl):wpAnyH P md ops Q S (fuel+1) listed a w:=wpAnyH_ready hr (by simp) (AllReadyH.cons ho h AllReadyH.nil)
abbrev zLs:Oper:=⟨some 9,.binOp BinOp.eql 3 (.tmp 6) (.tmp 8) 3,4,"formula.go:75",#[⟨1,.data⟩,⟨3,.data⟩],none⟩
abbrev zLt:Oper:=⟨some 10,.move (.tmp 9),4,"formula.go:75",#[⟨4,.data⟩,⟨3,.chain⟩],none⟩
abbrev zLk:Oper:=⟨some 11,.load 49 (.tmp 2),49,"formula.go:75",#[⟨5,.guard⟩],some (5,Bool.true)⟩
abbrev zLq:Oper:=⟨some 12,.call {callee:=Callee.value (Operand.func 93),args:=#[.tmp 11],argTypes:=#[49]},3,"formula.go:75",#[⟨6,.data⟩,⟨5,.chain⟩,⟨5,.guard⟩],some (5,Bool.true)⟩
abbrev zLi:Oper:=⟨some 13,.load 49 (.tmp 3),49,"formula.go:75",#[⟨5,.guard⟩],some (5,Bool.true)⟩
abbrev zMB:Oper:=⟨some 14,.call {callee:=Callee.value (Operand.func 93),args:=#[.tmp 13],argTypes:=#[49]},3,"formula.go:75",#[⟨8,.data⟩,⟨7,.chain⟩,⟨5,.guard⟩],some (5,Bool.true)⟩
abbrev zLl:Oper:=⟨some 15,.binOp BinOp.eql 3 (.tmp 12) (.tmp 14) 3,4,"formula.go:75",#[⟨7,.data⟩,⟨9,.data⟩,⟨5,.guard⟩],some (5,Bool.true)⟩
abbrev zLv:Oper:=⟨some 16,.pick (.tmp 10) (.tmp 15) (Operand.const (Value.bool Bool.false)),4,"formula.go:75",#[⟨5,.data⟩,⟨10,.data⟩],none⟩
abbrev zLx:Oper:=⟨some 4,.assign (.tmp 16),4,"formula.go:75",#[⟨11,.data⟩,⟨9,.chain⟩,⟨0,.phase⟩,⟨1,.phase⟩,⟨2,.phase⟩,⟨3,.phase⟩,⟨4,.phase⟩,⟨5,.phase⟩,⟨6,.phase⟩,⟨7,.phase⟩,⟨8,.phase⟩,⟨9,.phase⟩,⟨10,.phase⟩,⟨11,.phase⟩],none⟩
open Go.RowKit
set_option linter.unusedVariables false
def SmA (a:Wpl.Ar):Prop:=(-1000000<=a.t/\a.t<=1000000)/\(-1000000<=a.l/\a.l<=1000000)/\(-1000000<=a.b/\a.b<=1000000)/\(-1000000<=a.r/\a.r<=1000000)
abbrev ar5 (a:Wpl.Ar):List Value:=[.int .i64 a.s,.int .i64 a.t,.int .i64 a.l,.int .i64 a.b,.int .i64 a.r]
def shp (a b:Wpl.Ar):Bool:=(a.b - a.t == b.b - b.t) && (a.r - a.l == b.r - b.l)
theorem zCg (a:Wpl.Ar) (w:World) (h:SmA a):CR 92 #[.agg (ar5 a).toArray] w (.int .i64 (a.b - a.t+1)):=by
 have pA:=AtL.new0 w 49 (ar5 a);have hB:=zAJ (Below.refl _ w) (.cells (ar5 a).toArray 49);have c1:(w.alloc (.cells (ar5 a).toArray 49)).cell? ⟨w.heap.size,1,none⟩=some (.int .i64 a.t):=pA.2.1 1 _ rfl;have c3:(w.alloc (.cells (ar5 a).toArray 49)).cell? ⟨w.heap.size,3,none⟩=some (.int .i64 a.b):=pA.2.1 3 _ rfl;obtain ⟨h1,h2,h3,h4⟩:=h;have w1:IntKind.i64.wrap (a.b - a.t)=a.b - a.t:=by rw [IntKind.wrap_i64];omega
 have w2:IntKind.i64.wrap (a.b - a.t+1)=a.b - a.t+1:=by rw [IntKind.wrap_i64];omega
 clear pA h1 h2 h3 h4;go_enter func92,ntmps92;go_upto_region 1 with fail
 generalize (w.alloc (.cells (ar5 a).toArray 49))=W at *;go_wp2;go_ret;exact ⟨by simp,hB⟩
theorem zCd (a:Wpl.Ar) (w:World) (h:SmA a):CR 93 #[.agg (ar5 a).toArray] w (.int .i64 (a.r - a.l+1)):=by
 have pA:=AtL.new0 w 49 (ar5 a);have hB:=zAJ (Below.refl _ w) (.cells (ar5 a).toArray 49);have c1:(w.alloc (.cells (ar5 a).toArray 49)).cell? ⟨w.heap.size,2,none⟩=some (.int .i64 a.l):=pA.2.1 2 _ rfl;have c3:(w.alloc (.cells (ar5 a).toArray 49)).cell? ⟨w.heap.size,4,none⟩=some (.int .i64 a.r):=pA.2.1 4 _ rfl;obtain ⟨h1,h2,h3,h4⟩:=h;have w1:IntKind.i64.wrap (a.r - a.l)=a.r - a.l:=by rw [IntKind.wrap_i64];omega
 have w2:IntKind.i64.wrap (a.r - a.l+1)=a.r - a.l+1:=by rw [IntKind.wrap_i64];omega
 clear pA h1 h2 h3 h4;go_enter func93,ntmps93;go_upto_region 1 with fail
 generalize (w.alloc (.cells (ar5 a).toArray 49))=W at *;go_wp2;go_ret;exact ⟨by simp,hB⟩
theorem zDH (a b:Wpl.Ar) (w:World) (h:SmA a) (g:SmA b):CR 71 #[.agg (ar5 a).toArray,.agg (ar5 b).toArray] w (.bool (shp a b)):=by
 have pA:=(AtL.new0 w 49 (ar5 a)).alloc (.cells (ar5 b).toArray 49);have pB:=AtL.new1 w (.cells (ar5 a).toArray 49) 49 (ar5 b);have hB:=zAJ (zAJ (Below.refl _ w) (.cells (ar5 a).toArray 49)) (.cells (ar5 b).toArray 49);have a1:=pA.2.1 1 _ rfl;have a2:=pA.2.1 2 _ rfl;have a3:=pA.2.1 3 _ rfl;have a4:=pA.2.1 4 _ rfl;have b1:=pB.2.1 1 _ rfl;have b2:=pB.2.1 2 _ rfl;have b3:=pB.2.1 3 _ rfl;have b4:=pB.2.1 4 _ rfl;obtain ⟨h1,h2,h3,h4⟩:=h;obtain ⟨g1,g2,g3,g4⟩:=g;have w1:IntKind.i64.wrap (a.b - a.t)=a.b - a.t:=by rw [IntKind.wrap_i64];omega
 have w2:IntKind.i64.wrap (b.b - b.t)=b.b - b.t:=by rw [IntKind.wrap_i64];omega
 have w3:IntKind.i64.wrap (a.r - a.l)=a.r - a.l:=by rw [IntKind.wrap_i64];omega
 have w4:IntKind.i64.wrap (b.r - b.l)=b.r - b.l:=by rw [IntKind.wrap_i64];omega
 clear pA pB h1 h2 h3 h4 g1 g2 g3 g4;unfold shp;cases hq:(a.b - a.t == b.b - b.t) with
 | false =>
  go_enter func71,ntmps71;go_upto_region 1 with fail
  generalize (w.alloc (.cells (ar5 a).toArray 49)).alloc (.cells (ar5 b).toArray 49)=W at *;go_wp2;go_ret;exact ⟨by simp,hB⟩
 | true =>
  go_enter func71,ntmps71;go_upto_region 1 with fail
  generalize (w.alloc (.cells (ar5 a).toArray 49)).alloc (.cells (ar5 b).toArray 49)=W at *;go_wp2;go_ret;exact ⟨by simp,hB⟩
theorem zCC (a b:Wpl.Ar) (w:World) (h:SmA a) (g:SmA b):CR 61 #[.agg (ar5 a).toArray,.agg (ar5 b).toArray] w (.bool (shp a b)):=by
 have pA:=(AtL.new0 w 49 (ar5 a)).alloc (.cells (ar5 b).toArray 49);have pB:=AtL.new1 w (.cells (ar5 a).toArray 49) 49 (ar5 b);have hB:=zAJ (zAJ (Below.refl _ w) (.cells (ar5 a).toArray 49)) (.cells (ar5 b).toArray 49);have RA:=λw=>zCg a w h
 have RB:=λw=>zCg b w g
 have CA:=λw=>zCd a w h
 have CB:=λw=>zCd b w g
 have e1:(a.b - a.t+1 == b.b - b.t+1)=(a.b - a.t == b.b - b.t):=by rw [Bool.eq_iff_iff];simp
 have e2:(a.r - a.l+1 == b.r - b.l+1)=(a.r - a.l == b.r - b.l):=by rw [Bool.eq_iff_iff];simp
 unfold shp;rw [<-e1,<-e2];clear e1 e2 h g;generalize a.b - a.t+1=x1 at *;generalize b.b - b.t+1=x2 at *;generalize a.r - a.l+1=y1 at *;generalize b.r - b.l+1=y2 at *;go_enter func61,ntmps61;go_upto_region 1 with fail
 generalize (w.alloc (.cells (ar5 a).toArray 49)).alloc (.cells (ar5 b).toArray 49)=W at *;have pA0:=AtL.drew pA;have pB0:=AtL.drew pB;have hB0:=hB.drew;clear pA pB hB;refine wp_region_held_drew (S:=λW=>W.rangeAt w.heap.size 0 (ar5 a)/\W.rangeAt (w.heap.size+1) 0 (ar5 b)) (by kernel_rfl) ⟨pA0.range,pB0.range⟩ (λhHeld=>?_);generalize W.drew=WD at *;refine wpAnyH_take (i:=0) (oi:=⟨some 5,.load 49 (.tmp 2),49,"formula.go:75",#[],none⟩) (v:=.agg (ar5 a).toArray) rfl (by kernel_rfl) (by kernel_rfl) (by kernel_rfl) (λ_ _ _ h=>h) (yieldsIf_load_mid (by rfl) 49 (.tmp 2) rfl (w.heap.size) 0 rfl (ar5 a) _ (λ_ h=>h.1) underlying49 rfl (by kernel_rfl)) (by assumption) ?_;try simp only [Act.put,lA,lZ,lS]
 refine wpAnyH_take (i:=2) (oi:=⟨some 7,.load 49 (.tmp 3),49,"formula.go:75",#[],none⟩) (v:=.agg (ar5 b).toArray) rfl (by kernel_rfl) (by kernel_rfl) (by kernel_rfl) (λ_ _ _ h=>h) (yieldsIf_load_mid (by rfl) 49 (.tmp 3) rfl (w.heap.size+1) 0 rfl (ar5 b) _ (λ_ h=>h.2) underlying49 rfl (by kernel_rfl)) (by assumption) ?_;try simp only [Act.put,lA,lZ,lS]
 refine rdQ 1 ⟨some 6,.call {callee:=Callee.value (Operand.func 92),args:=#[.tmp 5],argTypes:=#[49]},3,"formula.go:75",#[⟨0,.data⟩],none⟩ (λK hK=>?_);go_simp
 refine (RA _).mono ?_;rintro e w1 ⟨rfl,hb1⟩;have pA1:=AtL.below hb1 pA0;have pB1:=AtL.below hb1 pB0;have hB1:=zAB hB0 hb1;go_wp2_with fail
 refine hkQ hK ⟨pA1.range,pB1.range⟩ (λhHeld=>?_);clear hK K
 refine rdQ 3 ⟨some 8,.call {callee:=Callee.value (Operand.func 92),args:=#[.tmp 7],argTypes:=#[49]},3,"formula.go:75",#[⟨2,.data⟩,⟨1,.chain⟩],none⟩ (λK hK=>?_);go_simp
 refine (RB _).mono ?_;rintro e w2 ⟨rfl,hb2⟩;have pA2:=AtL.below hb2 pA1;have pB2:=AtL.below hb2 pB1;have hB2:=zAB hB1 hb2;go_wp2_with fail
 refine hkQ hK ⟨pA2.range,pB2.range⟩ (λhHeld=>?_);clear hK K
 cases hq:(x1 == x2) with
 | false =>
  refine tkQ 4 zLs ?_
  refine tkQ 5 zLt ?_
  refine tnQ 6 zLk ?_
  refine tnQ 7 zLq ?_
  refine tnQ 8 zLi ?_
  refine tnQ 9 zMB ?_
  refine tnQ 10 zLl ?_
  refine tkQ 11 zLv ?_
  refine rdQ 12 zLx (λK hK=>?_);go_simp
  refine hkQ hK ⟨pA2.range,pB2.range⟩ (λhHeld=>?_);clear hK K
  refine wpAnyH_done (by kernel_rfl) ?_ _;go_wp2;go_ret;have hq2:=hq;simp only [beq_eq_false_iff_ne,ne_eq] at hq2;exact ⟨by simp [hq2],hB2⟩
 | true =>
  refine tkQ 4 zLs ?_
  refine tkQ 5 zLt ?_
  refine wpAnyH_take (i:=6) (oi:=zLk) (v:=.agg (ar5 a).toArray) rfl (by kernel_rfl) (by kernel_rfl) (by kernel_rfl) (λ_ _ _ h=>h) (yieldsIf_load_mid (by rfl) 49 (.tmp 2) rfl (w.heap.size) 0 rfl (ar5 a) _ (λ_ h=>h.1) underlying49 rfl (by kernel_rfl)) (by assumption) ?_;try simp only [Act.put,lA,lZ,lS]
  refine wpAnyH_take (i:=8) (oi:=zLi) (v:=.agg (ar5 b).toArray) rfl (by kernel_rfl) (by kernel_rfl) (by kernel_rfl) (λ_ _ _ h=>h) (yieldsIf_load_mid (by rfl) 49 (.tmp 3) rfl (w.heap.size+1) 0 rfl (ar5 b) _ (λ_ h=>h.2) underlying49 rfl (by kernel_rfl)) (by assumption) ?_;try simp only [Act.put,lA,lZ,lS]
  refine rdQ 7 zLq (λK hK=>?_);go_simp
  refine (CA _).mono ?_;rintro e w3 ⟨rfl,hb3⟩;have pA3:=AtL.below hb3 pA2;have pB3:=AtL.below hb3 pB2;have hB3:=zAB hB2 hb3;go_wp2_with fail
  refine hkQ hK ⟨pA3.range,pB3.range⟩ (λhHeld=>?_);clear hK K
  refine rdQ 9 zMB (λK hK=>?_);go_simp
  refine (CB _).mono ?_;rintro e w4 ⟨rfl,hb4⟩;have pA4:=AtL.below hb4 pA3;have pB4:=AtL.below hb4 pB3;have hB4:=zAB hB3 hb4;go_wp2_with fail
  refine hkQ hK ⟨pA4.range,pB4.range⟩ (λhHeld=>?_);clear hK K
  refine tkQ 10 zLl ?_
  refine tkQ 11 zLv ?_
  refine rdQ 12 zLx (λK hK=>?_);go_simp
  refine hkQ hK ⟨pA4.range,pB4.range⟩ (λhHeld=>?_);clear hK K
  refine wpAnyH_done (by kernel_rfl) ?_ _;go_wp2;go_ret;have hq2:=hq;simp only [beq_iff_eq] at hq2;exact ⟨by simp [hq2],hB4⟩
