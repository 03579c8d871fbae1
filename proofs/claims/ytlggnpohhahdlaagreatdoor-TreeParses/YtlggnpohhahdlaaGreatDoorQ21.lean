/- TSgB, TSiB, TTie. -/
import Derived.Test.YtlggnpohhahdlaaGreatDoorQ20
set_option maxHeartbeats 8000000
set_option maxRecDepth 100000
namespace Go.Proofs.YtlggnpohhahdlaaGreatDoor
abbrev z20n0:Oper:={dst:=some 11,op:=.load 118 (.tmp 3),type:=118,pos:= "parse.go:136",after:=#[],guard:=none}
abbrev z20n1:Oper:={dst:=some 12,op:=.move (.tmp 0),type:=81,pos:= "parse.go:136",after:=#[],guard:=none}
abbrev z20n2:Oper:={dst:=some 13,op:=.call {callee:=Callee.value (Operand.func 92),args:=#[.tmp 12],argTypes:=#[81]},type:=56,pos:= "parse.go:136",after:=#[⟨1,.data⟩],guard:=none}
open Go.RowKit Go.Shelf
set_option linter.unusedVariables false
theorem signed_lt (kp:Nat) (en:Int) (sub5 sub6:List Wlx.TV→PR) (n:Nat) (HS:∀ m,m<n→FnOk kp en 92 sub5 m) (HP:FnOk kp en 121 sub6 n) (ts:List Wlx.TV) (w:World) (h:PSt w kp ts en) (hn:ts.length≤n) (hts:ts.length≤1024) (hok:∀ t ∈ ts,TokOk t) (hE:Env w) (hk8:8≤kp) :
  Calls Tryz.prog 92 #[.pointer (some ⟨kp,0,none⟩)] w fun e w'=>PPost kp en (psg sub5 sub6 ts) w e w':=by
 have hB0:=ball (Below.refl _ w) (.cells #[.int .i64 0,.int .i64 0,.int .i64 0,.int .i64 0,.string ⟨#[]⟩,.bool false,.int .i64 0,.int .i64 0,.string ⟨#[]⟩,.int .i64 0,.string ⟨#[]⟩,.int .i64 0,.int .i64 0,.bool false,.bool false,.string ⟨#[]⟩,.int .i64 0,.int .i64 0,.bool false,.bool false,.slice none 0 0] 56);have pZ:AtL (w.alloc (.cells #[.int .i64 0,.int .i64 0,.int .i64 0,.int .i64 0,.string ⟨#[]⟩,.bool false,.int .i64 0,.int .i64 0,.string ⟨#[]⟩,.int .i64 0,.string ⟨#[]⟩,.int .i64 0,.int .i64 0,.bool false,.bool false,.string ⟨#[]⟩,.int .i64 0,.int .i64 0,.bool false,.bool false,.slice none 0 0] 56)) w.heap.size (pt21 (bare 0) (.slice none 0 0)):=AtL.new0 w _ _;have h0:=h.below hB0;have hE0:=hE.below hB0;have hkp:=h.lt;have T1:=takeOp_any kp ts en 5 _ h0 hts hE0.1;unfold psg;cases ht:tkOp 5 ts with
 | none =>
  simp only;cases hs:sub6 ts with
  | inr q =>
   obtain ⟨c,p⟩:=q;simp only [PPost];go_enter Tryz.func92,Tryz.ntmps92;go_wp2_with fail
   generalize w.alloc (.cells #[.int .i64 0,.int .i64 0,.int .i64 0,.int .i64 0,.string ⟨#[]⟩,.bool false,.int .i64 0,.int .i64 0,.string ⟨#[]⟩,.int .i64 0,.string ⟨#[]⟩,.int .i64 0,.int .i64 0,.bool false,.bool false,.string ⟨#[]⟩,.int .i64 0,.int .i64 0,.bool false,.bool false,.slice none 0 0] 56)=wa at *;refine T1.mono ?_;rintro e w1 hc;rw [ht] at hc;simp only [TkPost] at hc;obtain ⟨rfl,h1,hg1⟩:=hc;have pZ1:=pZ.grown hg1 (by intro e;have:=Option.some.inj e;omega);have hG1:=grown_trans (below_grown hB0 (some kp)) hg1;have hE1:=hE0.grown hg1 hk8;clear pZ h0 hB0 hE0 T1 hg1;have hb1:=ball (Below.refl _ w1) (.cells #[.int .i64 0,.string ⟨#[]⟩,.int .i64 0] 118);go_wp2_with fail
   refine (HP ts _ (h1.below hb1) hn hts hok (hE1.below hb1)).mono ?_;rintro e w3 hc;rw [hs] at hc;simp only [PPost] at hc;obtain ⟨rfl,hg⟩:=hc;unfold stop;go_wp2;exact ⟨rfl,rfl,grown_trans (grown_trans hG1 (below_grown hb1 (some kp))) hg⟩
  | inl q =>
   obtain ⟨row,r2⟩:=q;simp only [PPost];go_enter Tryz.func92,Tryz.ntmps92;go_wp2_with fail
   generalize w.alloc (.cells #[.int .i64 0,.int .i64 0,.int .i64 0,.int .i64 0,.string ⟨#[]⟩,.bool false,.int .i64 0,.int .i64 0,.string ⟨#[]⟩,.int .i64 0,.string ⟨#[]⟩,.int .i64 0,.int .i64 0,.bool false,.bool false,.string ⟨#[]⟩,.int .i64 0,.int .i64 0,.bool false,.bool false,.slice none 0 0] 56)=wa at *;refine T1.mono ?_;rintro e w1 hc;rw [ht] at hc;simp only [TkPost] at hc;obtain ⟨rfl,h1,hg1⟩:=hc;have pZ1:=pZ.grown hg1 (by intro e;have:=Option.some.inj e;omega);have hG1:=grown_trans (below_grown hB0 (some kp)) hg1;have hE1:=hE0.grown hg1 hk8;clear pZ h0 hB0 hE0 T1 hg1;have hb1:=ball (Below.refl _ w1) (.cells #[.int .i64 0,.string ⟨#[]⟩,.int .i64 0] 118);have hz1:=pZ1.lt;go_wp2_with fail
   refine (HP ts _ (h1.below hb1) hn hts hok (hE1.below hb1)).mono ?_;rintro e w3 hc;rw [hs] at hc;simp only [PPost] at hc;obtain ⟨v,rfl,hP,h3,hg⟩:=hc;have pZ3:=(AtL.below hb1 pZ1).grown hg (by intro e;have:=Option.some.inj e;omega);have hG3:=grown_trans (grown_trans hG1 (below_grown hb1 (some kp))) hg;simp only [World.size_alloc] at hP;obtain ⟨nn,x,sl,rfl,hp⟩:=hP;obtain ⟨av,len,cap,rfl⟩:=hp.one;have hth:World.there w3 w.heap.size 0 (pt21 x (.slice av len cap)).toArray.size:=pZ3.there;clear pZ1 hG1 hE1 h1 hg hb1;unfold ptV;go_wp2_with ((with_reducible refine wpList_store_mid ?_ 56 (.tmp 2) (.tmp 17) ?_ (w.heap.size) 0 (pt21 x (.slice av len cap)).toArray ?_ ?_ ?_ ?_ ?_ ?_);rfl;rfl;rfl;rfl;exact hth;kernel_rfl;exact one21 _ _ rfl)
   have pZ9:AtL (w3.setCells w.heap.size 0 (pt21 x (.slice av len cap))) w.heap.size (pt21 x (.slice av len cap)):=pZ3.setAll rfl;refine bodyPost_ret (results_cell rfl _ _ w.heap.size (pt21 x (.slice av len cap)) _ rfl pZ9.range Tryz.underlying56 rfl (by kernel_rfl)) rfl ?_;exact ⟨_,rfl,(Pt.far (show Pt w3 _ (ptV x (.slice av len cap)) row from ⟨nn,x,_,rfl,hp⟩) (by omega) 0 _).mono (by omega),h3.farAll hkp _ 0,grown_setAll hG3 (Nat.le_refl _) _ 0⟩
 | some q =>
  obtain ⟨⟨o,m,t⟩,r⟩:=q;obtain ⟨hsuf,hlt⟩:=tkOp_suf ht;have hokr:∀ t ∈ r,TokOk t:=fun t h=>hok t (hsuf.subset h)
  simp only;cases hs:sub5 r with
  | inr q =>
   obtain ⟨c,p⟩:=q;simp only [PPost];go_enter Tryz.func92,Tryz.ntmps92;go_wp2_with fail
   generalize w.alloc (.cells #[.int .i64 0,.int .i64 0,.int .i64 0,.int .i64 0,.string ⟨#[]⟩,.bool false,.int .i64 0,.int .i64 0,.string ⟨#[]⟩,.int .i64 0,.string ⟨#[]⟩,.int .i64 0,.int .i64 0,.bool false,.bool false,.string ⟨#[]⟩,.int .i64 0,.int .i64 0,.bool false,.bool false,.slice none 0 0] 56)=wa at *;refine T1.mono ?_;rintro e w1 hc;rw [ht] at hc;simp only [TkPost] at hc;obtain ⟨rfl,h1,hg1⟩:=hc;have pZ1:=pZ.grown hg1 (by intro e;have:=Option.some.inj e;omega);have hG1:=grown_trans (below_grown hB0 (some kp)) hg1;have hE1:=hE0.grown hg1 hk8;clear pZ h0 hB0 hE0 T1 hg1;go_upto_region 3 with fail
   have hb1:=ball (Below.refl _ w1) (.cells #[.int .i64 o,.string ⟨m.toArray⟩,.int .i64 t] 118);have pO:=AtL.new0 w1 118 [.int .i64 o,.string ⟨m.toArray⟩,.int .i64 t];have pZ2:=AtL.below hb1 pZ1;have h2:=h1.below hb1;have hE2:=hE1.below hb1;have hG2:=grown_trans hG1 (below_grown hb1 (some kp));have hko:kp<w1.heap.size:=h1.lt;have hzo:=pZ1.lt;clear pZ1 h1 hE1 hG1 hb1;generalize w1.alloc (.cells #[.int .i64 o,.string ⟨m.toArray⟩,.int .i64 t] 118)=w2 at *;generalize w1.heap.size=ko at *;refine wp_region_held_drew (S:=OpS ko 0 o ⟨m.toArray⟩ t) (by kernel_rfl) (OpS_mk (AtL.drew pO)) (fun hHeld=>?_);refine tkQ 0 z20n0 ?_;try simp only [Act.put,lA,lZ,lS]
   refine tkQ 1 z20n1 ?_;try simp only [Act.put,lA,lZ,lS]
   refine wpAnyH_ready (rs:=[2]) (by kernel_rfl) (by simp) ?_;refine AllReadyH.cons (o:=z20n2) rfl (fun K hK=>?_) AllReadyH.nil;go_simp
   have hbd:Below w2.heap.size w2 w2.drew:=(Below.refl _ _).drew;refine (HS r.length (by omega) r w2.drew (h2.below hbd) (Nat.le_refl _) (by omega) hokr (hE2.below hbd)).mono ?_;rintro e w3 hc;rw [hs] at hc;simp only [PPost] at hc;obtain ⟨rfl,hg⟩:=hc;unfold stop;go_wp2;exact ⟨rfl,rfl,grown_trans (grown_trans hG2 (below_grown hbd (some kp))) hg⟩
  | inl q =>
   obtain ⟨row,r2⟩:=q;simp only [PPost];go_enter Tryz.func92,Tryz.ntmps92;go_wp2_with fail
   generalize w.alloc (.cells #[.int .i64 0,.int .i64 0,.int .i64 0,.int .i64 0,.string ⟨#[]⟩,.bool false,.int .i64 0,.int .i64 0,.string ⟨#[]⟩,.int .i64 0,.string ⟨#[]⟩,.int .i64 0,.int .i64 0,.bool false,.bool false,.string ⟨#[]⟩,.int .i64 0,.int .i64 0,.bool false,.bool false,.slice none 0 0] 56)=wa at *;refine T1.mono ?_;rintro e w1 hc;rw [ht] at hc;simp only [TkPost] at hc;obtain ⟨rfl,h1,hg1⟩:=hc;have pZ1:=pZ.grown hg1 (by intro e;have:=Option.some.inj e;omega);have hG1:=grown_trans (below_grown hB0 (some kp)) hg1;have hE1:=hE0.grown hg1 hk8;clear pZ h0 hB0 hE0 T1 hg1;go_upto_region 3 with fail
   have hb1:=ball (Below.refl _ w1) (.cells #[.int .i64 o,.string ⟨m.toArray⟩,.int .i64 t] 118);have pO:=AtL.new0 w1 118 [.int .i64 o,.string ⟨m.toArray⟩,.int .i64 t];have pZ2:=AtL.below hb1 pZ1;have h2:=h1.below hb1;have hE2:=hE1.below hb1;have hG2:=grown_trans hG1 (below_grown hb1 (some kp));have hko:kp<w1.heap.size:=h1.lt;have hzo:=pZ1.lt;clear pZ1 h1 hE1 hG1 hb1;generalize w1.alloc (.cells #[.int .i64 o,.string ⟨m.toArray⟩,.int .i64 t] 118)=w2 at *;generalize w1.heap.size=ko at *;refine wp_region_held_drew (S:=OpS ko 0 o ⟨m.toArray⟩ t) (by kernel_rfl) (OpS_mk (AtL.drew pO)) (fun hHeld=>?_);refine tkQ 0 z20n0 ?_;try simp only [Act.put,lA,lZ,lS]
   refine tkQ 1 z20n1 ?_;try simp only [Act.put,lA,lZ,lS]
   refine wpAnyH_ready (rs:=[2]) (by kernel_rfl) (by simp) ?_;refine AllReadyH.cons (o:=z20n2) rfl (fun K hK=>?_) AllReadyH.nil;go_simp
   have hbd:Below w2.heap.size w2 w2.drew:=(Below.refl _ _).drew;refine (HS r.length (by omega) r w2.drew (h2.below hbd) (Nat.le_refl _) (by omega) hokr (hE2.below hbd)).mono ?_;rintro e w3 hc;rw [hs] at hc;simp only [PPost] at hc;obtain ⟨v,rfl,hP,h3,hg⟩:=hc;have pZ3:=(AtL.below hbd pZ2).grown hg (by intro e;have:=Option.some.inj e;omega);have pO3:=(AtL.below hbd pO).grown hg (by intro e;have:=Option.some.inj e;omega);have hG3:=grown_trans (grown_trans hG2 (below_grown hbd (some kp))) hg;have hw2:w2.drew.heap.size=w2.heap.size:=rfl;have hz2:=pZ2.lt;have ho2:=pO.lt;obtain ⟨nn,x,sl,rfl,hp⟩:=hP;obtain ⟨av,len,cap,rfl⟩:=hp.one;have hp3:=PtIs.mono (G':=fun b=>w.heap.size+1≤b) (fun b hb=>by have hb':w2.drew.heap.size≤b:=hb;omega) nn hp;clear hp hg hbd;unfold ptV;go_wp2_with fail
   refine hK.out _ _ (OpS_mk pO3) (fun hHeld=>?_);clear hK K;try simp only [Act.put,lA,lZ,lS]
   refine wpAnyH_ready (rs:=[3]) (by kernel_rfl) (by simp) ?_;refine AllReadyH.cons (o:={dst:=some 14,op:=.buildSlice 54 1 #[(0,.tmp 13)],type:=54,pos:= "parse.go:136",after:=#[⟨2,.data⟩],guard:=none}) rfl (fun K hK=>?_) AllReadyH.nil;refine wp_bs1 (.tmp 13) rfl x av len cap rfl ?_;have hb4:=ball (Below.refl _ w3) (.cells (pt21 x (.slice av len cap)).toArray 56);have pB4:=AtL.new0 w3 56 (pt21 x (.slice av len cap));have hlo:w.heap.size+1≤w3.heap.size:=by have:=pZ3.lt;omega
   have hp4:=PtIs.keep (fun k _ h2=>hb4.block k h2) nn hp3;have hun:=PtIs.un (G:=fun b=>w.heap.size+1≤b) (z:=opN (opKd t) o) hp4 hlo pB4.range;have h4:=h3.below hb4;have pZ4:=AtL.below hb4 pZ3;have pO4:=AtL.below hb4 pO3;have hG4:=grown_trans hG3 (below_grown hb4 (some kp));refine hK.out _ _ (OpS_mk pO4) (fun hHeld=>?_);clear hK K pZ3 pO3 h3 hG3 hp3 hp4 pB4 hb4;try simp only [Act.put,lA,lZ,lS]
   refine wpAnyH_ready (rs:=[4]) (by kernel_rfl) (by simp) ?_;refine AllReadyH.cons (o:={dst:=some 15,op:=.call {callee:=Callee.value (Operand.func 94),args:=#[.tmp 11,.tmp 14],argTypes:=#[118,54]},type:=56,pos:= "parse.go:136",after:=#[⟨0,.data⟩,⟨3,.data⟩,⟨2,.chain⟩],guard:=none}) rfl (fun K hK=>?_) AllReadyH.nil;go_simp
   refine (operation_any o ⟨m.toArray⟩ t (some ⟨w3.heap.size,0,none⟩) 1 1 _).mono ?_;rintro e w5 ⟨rfl,hb⟩;have h5:=h4.below hb;have pZ5:=AtL.below hb pZ4;have pO5:=AtL.below hb pO4;have hG5:=grown_trans hG4 (below_grown hb (some kp));have hun5:=PtIs.keep (fun k _ h2=>hb.block k h2) _ hun;clear h4 pZ4 pO4 hG4 hun hb;go_wp2_with fail
   refine hK.out _ _ (OpS_mk pO5) (fun hHeld=>?_);clear hK K;try simp only [Act.put,lA,lZ,lS]
   refine wpAnyH_ready (rs:=[5]) (by kernel_rfl) (by simp) ?_;refine AllReadyH.cons (o:={dst:=none,op:=.store 56 (.tmp 2) (.tmp 15),type:=0,pos:= "parse.go:136",after:=#[⟨4,.data⟩,⟨4,.chain⟩,⟨0,.phase⟩,⟨1,.phase⟩,⟨2,.phase⟩,⟨3,.phase⟩,⟨4,.phase⟩],guard:=none}) rfl (fun K hK=>?_) AllReadyH.nil;unfold ptV;refine wp_store_mid 56 (.tmp 2) (.tmp 15) rfl w.heap.size 0 (pt21 (opN (opKd t) o) (.slice (some ⟨w3.heap.size,0,none⟩) 1 1)).toArray rfl rfl pZ5.there (by kernel_rfl) (one21 _ _ rfl) ?_;have hne:w.heap.size ≠ ko:=by omega
   have pZ6:AtL (w5.setCells w.heap.size 0 (pt21 (opN (opKd t) o) (.slice (some ⟨w3.heap.size,0,none⟩) 1 1))) w.heap.size (pt21 (opN (opKd t) o) (.slice (some ⟨w3.heap.size,0,none⟩) 1 1)):=pZ5.setAll rfl;refine hK.out _ _ (OpS_mk (pO5.farAll hne 0 _)) (fun hHeld=>?_);clear hK K;try simp only [Act.put]
   refine wpAnyH_done (by kernel_rfl) ?_ _;go_wp2_with fail
   refine bodyPost_ret (results_cell rfl _ _ w.heap.size (pt21 (opN (opKd t) o) (.slice (some ⟨w3.heap.size,0,none⟩) 1 1)) _ rfl pZ6.range Tryz.underlying56 rfl (by kernel_rfl)) rfl ?_;exact ⟨_,rfl,(Pt.far (show Pt w5 (w.heap.size+1) (ptV (opN (opKd t) o) _) _ from ⟨_,_,_,rfl,hun5⟩) (Nat.lt_succ_self _) 0 _).mono (Nat.le_succ _),h5.farAll hkp _ 0,grown_setAll hG5 (Nat.le_refl _) _ 0⟩
def FnOkK (kp:Nat) (en:Int) (F:Nat) (K:Int) (sub:List Wlx.TV→PR) (n:Nat):Prop :=
 ∀ (ts:List Wlx.TV) (w:World),PSt w kp ts en→ts.length≤n→ts.length≤1024→(∀ t ∈ ts,TokOk t)→(hd ts en).k=K→Env w→Calls Tryz.prog F #[.pointer (some ⟨kp,0,none⟩)] w fun e w'=>PPost kp en (sub ts) w e w'
theorem single_k (kp:Nat) (en:Int) (subW subB:List Wlx.TV→PR) (n:Nat) (HW:FnOkK kp en 166 3 subW n) (HB:FnOkK kp en 167 5 subB n) (ts:List Wlx.TV) (w:World) (h:PSt w kp ts en) (hn:ts.length≤n) (hts:ts.length≤1024) (hok:∀ t ∈ ts,TokOk t) (hE:Env w) (hk8:8≤kp) :
  Calls Tryz.prog 146 #[.pointer (some ⟨kp,0,none⟩)] w fun e w'=>PPost kp en (psi en subW subB ts) w e w':=by
 have hB0:=ball (Below.refl _ w) (.cells #[.int .i64 0,.int .i64 0,.int .i64 0,.int .i64 0,.string ⟨#[]⟩,.bool false,.int .i64 0,.int .i64 0,.string ⟨#[]⟩,.int .i64 0,.string ⟨#[]⟩,.int .i64 0,.int .i64 0,.bool false,.bool false,.string ⟨#[]⟩,.int .i64 0,.int .i64 0,.bool false,.bool false,.slice none 0 0] 56);have pZ:AtL (w.alloc (.cells #[.int .i64 0,.int .i64 0,.int .i64 0,.int .i64 0,.string ⟨#[]⟩,.bool false,.int .i64 0,.int .i64 0,.string ⟨#[]⟩,.int .i64 0,.string ⟨#[]⟩,.int .i64 0,.int .i64 0,.bool false,.bool false,.string ⟨#[]⟩,.int .i64 0,.int .i64 0,.bool false,.bool false,.slice none 0 0] 56)) w.heap.size (pt21 (bare 0) (.slice none 0 0)):=AtL.new0 w _ _;have h0:=h.below hB0;have hE0:=hE.below hB0;have hkp:=h.lt;have N:=fun w h=>next_any kp ts en w h
 have hfl:=tok_kind;unfold psi;obtain ⟨t,ht⟩:∃ t,hd ts en=t:=⟨_,rfl⟩
 rw [ht] at N ⊢;obtain ⟨k,x0,p0⟩:=t;have hkk:Hid ((hd ts en).k=k):=by show _=_;rw [ht]
 clear ht;unfold tkV at N;simp only at N ⊢;by_cases h3:k=3
 ·subst h3;rw [if_pos rfl];cases hs:subW ts with
  | inr q =>
   obtain ⟨c,p⟩:=q;simp only [PPost];go_enter Tryz.func146,Tryz.ntmps146;go_wp2_with fail
   generalize w.alloc (.cells #[.int .i64 0,.int .i64 0,.int .i64 0,.int .i64 0,.string ⟨#[]⟩,.bool false,.int .i64 0,.int .i64 0,.string ⟨#[]⟩,.int .i64 0,.string ⟨#[]⟩,.int .i64 0,.int .i64 0,.bool false,.bool false,.string ⟨#[]⟩,.int .i64 0,.int .i64 0,.bool false,.bool false,.slice none 0 0] 56)=wa at *;refine (N _ h0).mono ?_;rintro e w1 ⟨rfl,hb⟩;have pZ1:=AtL.below hb pZ;have h1:=h0.below hb;have hE1:=hE0.below hb;have hG1:=below_grown (below_end hB0 hb) (some kp);clear hb pZ h0 hB0 hE0 N;go_wp2_with fail
   refine (HW ts _ h1 hn hts hok hkk.out hE1).mono ?_;rintro e w3 hc;rw [hs] at hc;simp only [PPost] at hc;obtain ⟨rfl,hg⟩:=hc;unfold stop;go_wp2;exact ⟨rfl,rfl,grown_trans hG1 hg⟩
  | inl q =>
   obtain ⟨row,r2⟩:=q;simp only [PPost];go_enter Tryz.func146,Tryz.ntmps146;go_wp2_with fail
   generalize w.alloc (.cells #[.int .i64 0,.int .i64 0,.int .i64 0,.int .i64 0,.string ⟨#[]⟩,.bool false,.int .i64 0,.int .i64 0,.string ⟨#[]⟩,.int .i64 0,.string ⟨#[]⟩,.int .i64 0,.int .i64 0,.bool false,.bool false,.string ⟨#[]⟩,.int .i64 0,.int .i64 0,.bool false,.bool false,.slice none 0 0] 56)=wa at *;refine (N _ h0).mono ?_;rintro e w1 ⟨rfl,hb⟩;have pZ1:=AtL.below hb pZ;have h1:=h0.below hb;have hE1:=hE0.below hb;have hG1:=below_grown (below_end hB0 hb) (some kp);clear hb pZ h0 hB0 hE0 N;have hz1:=pZ1.lt;go_wp2_with fail
   refine (HW ts _ h1 hn hts hok hkk.out hE1).mono ?_;rintro e w3 hc;rw [hs] at hc;simp only [PPost] at hc;obtain ⟨v,rfl,hP,h3,hg⟩:=hc;have pZ3:=pZ1.grown hg (by intro e;have:=Option.some.inj e;omega);have hG3:=grown_trans hG1 hg;obtain ⟨nn,x,sl,rfl,hp⟩:=hP;obtain ⟨av,len,cap,rfl⟩:=hp.one;have hth:World.there w3 w.heap.size 0 (pt21 x (.slice av len cap)).toArray.size:=pZ3.there;clear pZ1 hG1 hE1 h1 hg;unfold ptV;go_wp2_with ((with_reducible refine wpList_store_mid ?_ 56 (.tmp 2) (.tmp 9) ?_ (w.heap.size) 0 (pt21 x (.slice av len cap)).toArray ?_ ?_ ?_ ?_ ?_ ?_);rfl;rfl;rfl;rfl;exact hth;kernel_rfl;exact one21 _ _ rfl)
   have pZ9:AtL (w3.setCells w.heap.size 0 (pt21 x (.slice av len cap))) w.heap.size (pt21 x (.slice av len cap)):=pZ3.setAll rfl;refine bodyPost_ret (results_cell rfl _ _ w.heap.size (pt21 x (.slice av len cap)) _ rfl pZ9.range Tryz.underlying56 rfl (by kernel_rfl)) rfl ?_;exact ⟨_,rfl,(Pt.far (show Pt w3 _ (ptV x (.slice av len cap)) row from ⟨nn,x,_,rfl,hp⟩) (by omega) 0 _).mono (by omega),h3.farAll hkp _ 0,grown_setAll hG3 (Nat.le_refl _) _ 0⟩
 rw [if_neg h3];have h3':(k == 3)=false:=by simp [h3]
 by_cases h5:k=5
 ·subst h5;rw [if_pos rfl];cases hs:subB ts with
  | inr q =>
   obtain ⟨c,p⟩:=q;simp only [PPost];go_enter Tryz.func146,Tryz.ntmps146;go_wp2_with fail
   generalize w.alloc (.cells #[.int .i64 0,.int .i64 0,.int .i64 0,.int .i64 0,.string ⟨#[]⟩,.bool false,.int .i64 0,.int .i64 0,.string ⟨#[]⟩,.int .i64 0,.string ⟨#[]⟩,.int .i64 0,.int .i64 0,.bool false,.bool false,.string ⟨#[]⟩,.int .i64 0,.int .i64 0,.bool false,.bool false,.slice none 0 0] 56)=wa at *;refine (N _ h0).mono ?_;rintro e w1 ⟨rfl,hb⟩;have pZ1:=AtL.below hb pZ;have h1:=h0.below hb;have hE1:=hE0.below hb;have hG1:=below_grown (below_end hB0 hb) (some kp);clear hb pZ h0 hB0 hE0 N;go_wp2_with fail
   refine (HB ts _ h1 hn hts hok hkk.out hE1).mono ?_;rintro e w3 hc;rw [hs] at hc;simp only [PPost] at hc;obtain ⟨rfl,hg⟩:=hc;unfold stop;go_wp2;exact ⟨rfl,rfl,grown_trans hG1 hg⟩
  | inl q =>
   obtain ⟨row,r2⟩:=q;simp only [PPost];go_enter Tryz.func146,Tryz.ntmps146;go_wp2_with fail
   generalize w.alloc (.cells #[.int .i64 0,.int .i64 0,.int .i64 0,.int .i64 0,.string ⟨#[]⟩,.bool false,.int .i64 0,.int .i64 0,.string ⟨#[]⟩,.int .i64 0,.string ⟨#[]⟩,.int .i64 0,.int .i64 0,.bool false,.bool false,.string ⟨#[]⟩,.int .i64 0,.int .i64 0,.bool false,.bool false,.slice none 0 0] 56)=wa at *;refine (N _ h0).mono ?_;rintro e w1 ⟨rfl,hb⟩;have pZ1:=AtL.below hb pZ;have h1:=h0.below hb;have hE1:=hE0.below hb;have hG1:=below_grown (below_end hB0 hb) (some kp);clear hb pZ h0 hB0 hE0 N;have hz1:=pZ1.lt;go_wp2_with fail
   refine (HB ts _ h1 hn hts hok hkk.out hE1).mono ?_;rintro e w3 hc;rw [hs] at hc;simp only [PPost] at hc;obtain ⟨v,rfl,hP,h3,hg⟩:=hc;have pZ3:=pZ1.grown hg (by intro e;have:=Option.some.inj e;omega);have hG3:=grown_trans hG1 hg;obtain ⟨nn,x,sl,rfl,hp⟩:=hP;obtain ⟨av,len,cap,rfl⟩:=hp.one;have hth:World.there w3 w.heap.size 0 (pt21 x (.slice av len cap)).toArray.size:=pZ3.there;clear pZ1 hG1 hE1 h1 hg;unfold ptV;go_wp2_with ((with_reducible refine wpList_store_mid ?_ 56 (.tmp 2) (.tmp 13) ?_ (w.heap.size) 0 (pt21 x (.slice av len cap)).toArray ?_ ?_ ?_ ?_ ?_ ?_);rfl;rfl;rfl;rfl;exact hth;kernel_rfl;exact one21 _ _ rfl)
   have pZ9:AtL (w3.setCells w.heap.size 0 (pt21 x (.slice av len cap))) w.heap.size (pt21 x (.slice av len cap)):=pZ3.setAll rfl;refine bodyPost_ret (results_cell rfl _ _ w.heap.size (pt21 x (.slice av len cap)) _ rfl pZ9.range Tryz.underlying56 rfl (by kernel_rfl)) rfl ?_;exact ⟨_,rfl,(Pt.far (show Pt w3 _ (ptV x (.slice av len cap)) row from ⟨nn,x,_,rfl,hp⟩) (by omega) 0 _).mono (by omega),h3.farAll hkp _ 0,grown_setAll hG3 (Nat.le_refl _) _ 0⟩
 rw [if_neg h5];have h5':(k == 5)=false:=by simp [h5]
 cases hs:pl ts en with
 | inr q =>
  obtain ⟨c,p⟩:=q;simp only [PPost];go_enter Tryz.func146,Tryz.ntmps146;go_wp2_with fail
  generalize w.alloc (.cells #[.int .i64 0,.int .i64 0,.int .i64 0,.int .i64 0,.string ⟨#[]⟩,.bool false,.int .i64 0,.int .i64 0,.string ⟨#[]⟩,.int .i64 0,.string ⟨#[]⟩,.int .i64 0,.int .i64 0,.bool false,.bool false,.string ⟨#[]⟩,.int .i64 0,.int .i64 0,.bool false,.bool false,.slice none 0 0] 56)=wa at *;refine (N _ h0).mono ?_;rintro e w1 ⟨rfl,hb⟩;have pZ1:=AtL.below hb pZ;have h1:=h0.below hb;have hE1:=hE0.below hb;have hG1:=below_grown (below_end hB0 hb) (some kp);clear hb pZ h0 hB0 hE0 N;go_wp2_with fail
  refine (literal_any kp ts en _ h1 hts hok hE1 hk8).mono ?_;rintro e w3 hc;rw [hs] at hc;simp only [PPost] at hc;obtain ⟨rfl,hg⟩:=hc;unfold stop;go_wp2;exact ⟨rfl,rfl,grown_trans hG1 hg⟩
 | inl q =>
  obtain ⟨row,r2⟩:=q;simp only [PPost];go_enter Tryz.func146,Tryz.ntmps146;go_wp2_with fail
  generalize w.alloc (.cells #[.int .i64 0,.int .i64 0,.int .i64 0,.int .i64 0,.string ⟨#[]⟩,.bool false,.int .i64 0,.int .i64 0,.string ⟨#[]⟩,.int .i64 0,.string ⟨#[]⟩,.int .i64 0,.int .i64 0,.bool false,.bool false,.string ⟨#[]⟩,.int .i64 0,.int .i64 0,.bool false,.bool false,.slice none 0 0] 56)=wa at *;refine (N _ h0).mono ?_;rintro e w1 ⟨rfl,hb⟩;have pZ1:=AtL.below hb pZ;have h1:=h0.below hb;have hE1:=hE0.below hb;have hG1:=below_grown (below_end hB0 hb) (some kp);clear hb pZ h0 hB0 hE0 N;have hz1:=pZ1.lt;go_wp2_with fail
  refine (literal_any kp ts en _ h1 hts hok hE1 hk8).mono ?_;rintro e w3 hc;rw [hs] at hc;simp only [PPost] at hc;obtain ⟨v,rfl,hP,h3,hg⟩:=hc;have pZ3:=pZ1.grown hg (by intro e;have:=Option.some.inj e;omega);have hG3:=grown_trans hG1 hg;obtain ⟨nn,x,sl,rfl,hp⟩:=hP;obtain ⟨av,len,cap,rfl⟩:=hp.one;have hth:World.there w3 w.heap.size 0 (pt21 x (.slice av len cap)).toArray.size:=pZ3.there;clear pZ1 hG1 hE1 h1 hg;unfold ptV;go_wp2_with ((with_reducible refine wpList_store_mid ?_ 56 (.tmp 2) (.tmp 15) ?_ (w.heap.size) 0 (pt21 x (.slice av len cap)).toArray ?_ ?_ ?_ ?_ ?_ ?_);rfl;rfl;rfl;rfl;exact hth;kernel_rfl;exact one21 _ _ rfl)
  have pZ9:AtL (w3.setCells w.heap.size 0 (pt21 x (.slice av len cap))) w.heap.size (pt21 x (.slice av len cap)):=pZ3.setAll rfl;refine bodyPost_ret (results_cell rfl _ _ w.heap.size (pt21 x (.slice av len cap)) _ rfl pZ9.range Tryz.underlying56 rfl (by kernel_rfl)) rfl ?_;exact ⟨_,rfl,(Pt.far (show Pt w3 _ (ptV x (.slice av len cap)) row from ⟨nn,x,_,rfl,hp⟩) (by omega) 0 _).mono (by omega),h3.farAll hkp _ 0,grown_setAll hG3 (Nat.le_refl _) _ 0⟩
theorem pargs_eq (sub:List Wlx.TV→PR) (en:Int) (nm:List UInt8) (ts:List Wlx.TV):pargs sub en nm ts=(match paa sub en ts with
  | .inr e=>.inr e
  | .inl (c,rows,r)=>.inl (callN ⟨nm.toArray⟩ c::rows,r)):=by
 unfold pargs paa;cases tk ts [41] with
 | some r=>rfl
 | none =>
  simp only;cases sub ts with
  | inr e=>rfl
  | inl q =>
   obtain ⟨row,r⟩:=q;simp only;cases argl sub en (r.length+1) 1 row r with
   | inr e=>rfl
   | inl q=>rfl
theorem pword_eq (sub:List Wlx.TV→PR) (en:Int) (ts:List Wlx.TV):pword sub en ts=pwd (pca (paa sub en) en) en ts:=by
 unfold pword pwd pca;simp only [pargs_eq];rfl
theorem lv_bt (en:Int) (f k:Nat) (hk:k<5) (ts:List Wlx.TV):lv en (f+1) k ts=pbt (lv en f (k+1)) k ts:=by
 rw [lv,if_pos hk];rfl
theorem lv_sg (en:Int) (f:Nat) (ts:List Wlx.TV):lv en (f+1) 5 ts=psg (lv en f 5) (lv en f 6) ts:=by
 rw [lv,if_neg (by decide),if_pos rfl];rfl
theorem lv_pc (en:Int) (f:Nat) (ts:List Wlx.TV):lv en (f+1) 6 ts=ppc (lv en f 7) ts:=by
 rw [lv,if_neg (by decide),if_neg (by decide),if_pos rfl];rfl
theorem lv_si (en:Int) (f:Nat) (ts:List Wlx.TV):lv en (f+1) 7 ts=psi en (pword (lv en f 0) en) (pbrack (lv en f 0) en) ts:=by
 rw [lv,if_neg (by decide),if_neg (by decide),if_neg (by decide)];rfl
structure Tied (kp:Nat) (en:Int) (f:Nat):Prop where
 bet:∀ k n,k≤5→10 * n+9 - k≤f→BetOk kp en k (lv en f k) n
 sgn:∀ n,10 * n+4≤f→FnOk kp en 92 (lv en f 5) n
 pct:∀ n,10 * n+3≤f→FnOk kp en 121 (lv en f 6) n
 sin:∀ n,10 * n+2≤f→FnOk kp en 146 (lv en f 7) n
theorem Tied.form {kp:Nat} {en:Int} {f:Nat} (h:Tied kp en f) (n:Nat) (hf:10 * n+9≤f):FormOk kp en (lv en f 0) n:=formula_any kp en _ n (h.bet 0 n (by omega) (by omega))
theorem hd_nil (en:Int):(hd [] en).k=0:=rfl
theorem tied (kp:Nat) (en:Int) (hk8:8≤kp):∀ f,Tied kp en f:=by
 intro f;induction f with
 | zero=>exact ⟨fun k n _ h=>by omega,fun n h=>by omega,fun n h=>by omega,fun n h=>by omega⟩
 | succ f ih =>
  have hsub:=fun k=>lv_suf en f k
  have S:∀ n,10 * n+4≤f+1→FnOk kp en 92 (lv en (f+1) 5) n:=by
   intro n hf ts w h hn hts hok hE;rw [lv_sg];exact signed_lt kp en _ _ n (fun m hm=>ih.sgn m (by omega)) (ih.pct n (by omega)) ts w h hn hts hok hE hk8
  refine ⟨?_,S,?_,?_⟩
  ·intro k n hk hf;rcases Nat.lt_or_ge k 5 with h5 | h5
   ·intro ts w h hn hts hok hE;rw [lv_bt en f k h5];exact between_any kp en k h5 _ n (ih.bet (k+1) n (by omega) (by omega)) (hsub (k+1)) ts w h hn hts hok hE hk8
   ·obtain rfl:k=5:=by omega
    exact between_five kp en _ n (S n (by omega))
  ·intro n hf ts w h hn hts hok hE;rw [lv_pc];exact percents_any kp en _ n (ih.sin n (by omega)) (hsub 7) ts w h hn hts hok hE hk8
  ·intro n hf ts w h hn hts hok hE;rw [lv_si];refine single_k kp en _ _ n ?_ ?_ ts w h hn hts hok hE hk8
   ·intro ts w h hn hts hok h3 hE;cases ts with
    | nil=>exact absurd h3 (by rw [hd_nil];decide)
    | cons t r =>
     have HF:=ih.form r.length (by simp at hn;omega);rw [pword_eq];exact word_any kp en _ (r.length+2) (call_any kp en _ r.length (arguments_any kp en _ r.length HF (hsub 0) hk8) hk8) _ w h (by simp) hts hok h3 hE hk8
   ·intro ts w h hn hts hok h3 hE;cases ts with
    | nil=>exact absurd h3 (by rw [hd_nil];decide)
    | cons t r=>exact brackets_any kp en _ r.length (ih.form r.length (by simp at hn;omega)) (hsub 0) _ w h (by simp) hts hok hE hk8
theorem formula_lv (kp:Nat) (en:Int) (hk8:8≤kp) (n:Nat):FormOk kp en (lv en (10 * n+9) 0) n:=(tied kp en hk8 _).form n (Nat.le_refl _)
end Go.Proofs.YtlggnpohhahdlaaGreatDoor
