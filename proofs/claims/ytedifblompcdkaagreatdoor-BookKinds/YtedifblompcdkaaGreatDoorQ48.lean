/- For every input BookKinds answers true, and its arguments read afterwards as they read before; no condition but those of the row (the listed package variables read as the program's text lays them, which the card ties to the text). -/
import Derived.Test.YtedifblompcdkaaGreatDoorQ47
import Derived.OpenShut
import Derived.Deep.DeepHandedRow
set_option maxHeartbeats 400000
set_option maxRecDepth 100000
namespace Go.Proofs.YtedifblompcdkaaGreatDoor.bookKinds
open Go.ChangeShapes Go.WideShapes Go.ChangeAt Go.RowKit Go.Joins Go.Deep
theorem own:ownKnob Tryz.prog.godebug=none:=by kernel_rfl
theorem zKB:laidOutB Tryz.prog=true:=by kernel_rfl
theorem zQN:Tryz.prog.cellsOf 24=3:=by kernel_rfl
theorem zPU {W:World} (h:laidMetH Tryz.prog Rows.bookKindsRow.laid W) (hsh:W.ShapedOpen Tryz.prog):BEnv W:=by
 have h0:laidMet Tryz.prog Rows.bookKindsRow.laid W:=h;refine ⟨⟨?_,?_,MaxAt.shaped hsh,?_⟩,?_,?_⟩
 ·have h2:laidMet Tryz.prog (("whittle/tree.operators",Rows.laid_whittle_tree_operators)::_) W:=h0.tail.tail.tail.tail.tail.tail;have e:(Rows.laid_whittle_tree_operators:DataW Unit)=.agg (Wt.opsT.map λx=>.agg [.lit (.int .i64 x.1),.lit (.string x.2.1),.lit (.int .i64 x.2.2)]):=by kernel_rfl
  rw [e] at h2;exact zQA h2
 ·have h2:laidMet Tryz.prog (("whittle/value.faultNames",Rows.laid_whittle_value_faultNames)::_) W:=h0.tail.tail.tail.tail;have e:(Rows.laid_whittle_value_faultNames:DataW Unit)=.agg (fNames.map λx=>.lit (.string x)):=by kernel_rfl
  rw [e] at h2;exact zQK h2
 ·have h2:laidMet Tryz.prog (("internal/strconv.uint64pow10",Rows.laid_internal_strconv_uint64pow10)::_) W:=h0.tail.tail;have e:(Rows.laid_internal_strconv_uint64pow10:DataW Unit)=Lib.tabData .u64 Lib.pow10Tab:=by kernel_rfl
  rw [e] at h2;exact Lib.tabIs_of_head (g:=6) (t:=385) (e:=120) (n:=20) (by kernel_rfl) (by kernel_rfl) (by kernel_rfl) (by kernel_rfl) (by kernel_rfl) (by kernel_rfl) h2
 ·have h2:laidMet Tryz.prog (("whittle/funcs.names",Rows.laid_whittle_funcs_names)::_) W:=h0.tail.tail.tail.tail.tail;have e:(Rows.laid_whittle_funcs_names:DataW Unit)=.agg (fnN.map λx=>.lit (.string x)):=by kernel_rfl
  rw [e] at h2;exact zRR h2
 ·have h2:laidMet Tryz.prog (("math/bits.deBruijn64tab",Rows.laid_math_bits_deBruijn64tab)::_) W:=h0.tail;obtain ⟨ps,⟨g,t,cs,fuel,p,q,hg,_,hvar,_,_,_⟩,_⟩:=h2;have e:Tryz.prog.globalNamed "math/bits.deBruijn64tab" = some 8:=by kernel_rfl
  obtain rfl:=Option.some.inj (e.symm.trans hg);unfold World.var? at hvar;rw [e] at hvar;simp only [Option.bind_some] at hvar;rcases Nat.lt_or_ge 8 W.heap.size with h | h
  ·exact Nat.le_of_lt h
  ·rw [Array.getElem?_eq_none h] at hvar;cases hvar
theorem zMl (H:Type) (enc:TypeId × Value->H) (W:World) (base:Nat) (args:Array Value) (ds gs:List (DataW H)) (before:List MemPlace)
  (hval:∀ (j:Nat) t v,Tryz.f3.params[j]? = some t->args[j]? = some v->Value.okWide Tryz.prog W .any base t v)
  (hW:DataW.Whole enc Tryz.prog Tryz.f3.params.toList Rows.bookKindsSpec.vars false W args.toList ds gs before)
  (hsz:(DataW.weightsEach Tryz.prog (Tryz.f3.params.toList++(OpenSpec.ofChange Rows.bookKindsSpec).bare.plain.varTypes Tryz.prog) (ds++gs)).all (· <= reachBytes)=true) (hlaid:laidMetH Tryz.prog Rows.bookKindsRow.laid W) (hsh:W.ShapedOpen Tryz.prog) :
  Calls Tryz.prog 3 args W λe W'=>∃ v,e=.returned v/\Rows.bookKindsSpec.post enc Tryz.prog Tryz.f3 false true false false W args v W':=by
 have hW':=hW;have hlt:=hW.lt;obtain ⟨p,q,hA0,hV,rfl,hfz,hnd⟩:=hW;have hA:DataW.TrodAll enc Tryz.prog W 0 (λ_=>true) true Tryz.f3.params.toList args.toList ds p:=hA0;rw [Tryz.params3] at hA hval hsz;obtain ⟨v0,vs0,d0,ds0,p0,q0,hargs,rfl,rfl,h0,r0⟩:=trodAll_cons hA;obtain ⟨v1,vs1,d1,ds1,p1,q1,rfl,rfl,rfl,h1,r1⟩:=trodAll_cons r0;obtain ⟨rfl,rfl,rfl⟩:=trodAll_nil r1;obtain rfl:args=#[v0,v1]:=by cases args;simp_all
 obtain ⟨rfl,rfl⟩:=trodVars_none hV;clear hA0;simp only [List.append_nil] at hW' hlt;have fin:∀ (W':World),Below W.heap.size W W'->∃ v,Ending.returned (Value.bool true)=.returned v/\Rows.bookKindsSpec.post enc Tryz.prog Tryz.f3 false true false false W #[v0,v1] v W':=by
  intro W' hb;exact ⟨_,rfl,_,_,_,[],_,[],hW',(trodAll_cons_mk (shut_bool Tryz.underlying4 _) trodAll_mk0),(trodAll_cons_mk (Below.trod zKB (by kernel_rfl) (of_decide_eq_true (by kernel_rfl)) h0 hb (λx hx=>hlt x (by simp [hx]))) (trodAll_cons_mk (Below.trod zKB (by kernel_rfl) (of_decide_eq_true (by kernel_rfl)) h1 hb (λx hx=>hlt x (by simp [hx]))) trodAll_mk0)),rfl,hb.frame _,λh=>by cases h⟩
 obtain ⟨E_x,av_x,n_x,cap_x,rfl,hr_x,hn_x,hz_x⟩:=zJl (hval 0 22 v0 rfl rfl) h0;obtain ⟨hl_x,ht_x⟩:=hz_x _ _ 0 hsz rfl rfl;simp only [reachBytes] at hl_x ht_x;obtain ⟨c10,c11,c12,y10,y11,y12,m1,rfl,rfl,rfl,hy10,hy11,hy12⟩:=open_agg3 Tryz.underlying24 (by kernel_rfl) zQN (hval 1 24 v1 rfl rfl) h1;obtain ⟨c_s,e10,_,wc_s⟩:=DataW.trod_int Tryz.underlying3 hy10;obtain ⟨c_r,e11,_,wc_r⟩:=DataW.trod_int Tryz.underlying3 hy11;obtain ⟨c_c,e12,_,wc_c⟩:=DataW.trod_int Tryz.underlying3 hy12;simp only [List.cons.injEq,and_true] at e10 e11 e12;subst e10 e11 e12;have bc_s:=bounds_i64 wc_s;have bc_r:=bounds_i64 wc_r;have bc_c:=bounds_i64 wc_c;have hE:=zPU hlaid hsh;refine (zJO E_x av_x n_x cap_x ⟨c_s,c_r,c_c⟩ W hE hr_x hn_x (λ_=>by omega) (λL hL=>⟨by have:=(ht_x L hL).1;omega,λa ha=>by have:=(ht_x L hL).2 a ha;omega⟩)).mono λe W' ⟨he,hb⟩=>?_
 subst he;exact fin W' hb
noncomputable def zDD (os:Os):World :=
 {World.holding Tryz.prog os ⟨#[],#[],[]⟩ with heap:=(((((((((World.holding Tryz.prog os ⟨#[],#[],[]⟩).heap.modify 0 fun
   | .cells _ t frozen=>.cells #[.string ⟨#[]⟩,.string ⟨#[35,68,73,86,47,48,33]⟩,.string ⟨#[35,86,65,76,85,69,33]⟩,.string ⟨#[35,82,69,70,33]⟩,.string ⟨#[35,78,85,77,33]⟩,.string ⟨#[35,78,47,65]⟩,.string ⟨#[35,67,73,82,67,76,69,33]⟩,.string ⟨#[35,76,79,78,71,33]⟩,.string ⟨#[35,65,82,71,33]⟩] t frozen
   | o=>o).modify 1 fun
   | .cells _ t frozen=>.cells #[.int .i64 21,.string ⟨#[61]⟩,.int .i64 0,.int .i64 22,.string ⟨#[60,62]⟩,.int .i64 0,.int .i64 23,.string ⟨#[60]⟩,.int .i64 0,.int .i64 24,.string ⟨#[60,61]⟩,.int .i64 0,.int .i64 25,.string ⟨#[62]⟩,.int .i64 0,.int .i64 26,.string ⟨#[62,61]⟩,.int .i64 0,.int .i64 16,.string ⟨#[38]⟩,.int .i64 1,.int .i64 11,.string ⟨#[43]⟩,.int .i64 2,.int .i64 12,.string ⟨#[45]⟩,.int .i64 2,.int .i64 13,.string ⟨#[42]⟩,.int .i64 3,.int .i64 14,.string ⟨#[47]⟩,.int .i64 3,.int .i64 15,.string ⟨#[94]⟩,.int .i64 4,.int .i64 1,.string ⟨#[45]⟩,.int .i64 5,.int .i64 2,.string ⟨#[43]⟩,.int .i64 5,.int .i64 3,.string ⟨#[37]⟩,.int .i64 6] t frozen
   | o=>o).modify 2 fun
   | .cells _ t frozen=>.cells #[.string ⟨#[]⟩,.string ⟨#[83,85,77]⟩,.string ⟨#[80,82,79,68,85,67,84]⟩,.string ⟨#[67,79,85,78,84]⟩,.string ⟨#[67,79,85,78,84,65]⟩,.string ⟨#[77,73,78]⟩,.string ⟨#[77,65,88]⟩,.string ⟨#[65,86,69,82,65,71,69]⟩,.string ⟨#[65,78,68]⟩,.string ⟨#[79,82]⟩,.string ⟨#[88,79,82]⟩,.string ⟨#[67,79,78,67,65,84]⟩,.string ⟨#[83,85,77,83,81]⟩,.string ⟨#[71,67,68]⟩,.string ⟨#[70,73,82,83,84]⟩,.string ⟨#[76,65,83,84]⟩,.string ⟨#[]⟩,.string ⟨#[]⟩,.string ⟨#[]⟩,.string ⟨#[]⟩,.string ⟨#[77,65,84,67,72]⟩,.string ⟨#[67,79,85,78,84,73,70]⟩,.string ⟨#[83,85,77,73,70]⟩,.string ⟨#[76,79,79,75,85,80]⟩,.string ⟨#[83,85,77,80,82,79,68,85,67,84]⟩,.string ⟨#[73,78,68,69,88]⟩,.string ⟨#[82,79,87,83]⟩,.string ⟨#[67,79,76,85,77,78,83]⟩,.string ⟨#[]⟩,.string ⟨#[]⟩,.string ⟨#[73,70]⟩,.string ⟨#[73,70,69,82,82,79,82]⟩,.string ⟨#[67,72,79,79,83,69]⟩,.string ⟨#[]⟩,.string ⟨#[]⟩,.string ⟨#[]⟩,.string ⟨#[]⟩,.string ⟨#[]⟩,.string ⟨#[]⟩,.string ⟨#[]⟩,.string ⟨#[65,66,83]⟩,.string ⟨#[83,73,71,78]⟩,.string ⟨#[73,78,84]⟩,.string ⟨#[82,79,85,78,68]⟩,.string ⟨#[77,79,68]⟩,.string ⟨#[81,85,79,84,73,69,78,84]⟩,.string ⟨#[80,79,87,69,82]⟩,.string ⟨#[78,79,84]⟩,.string ⟨#[76,69,78]⟩,.string ⟨#[76,69,70,84]⟩,.string ⟨#[82,73,71,72,84]⟩,.string ⟨#[77,73,68]⟩,.string ⟨#[82,69,80,84]⟩,.string ⟨#[70,73,78,68]⟩,.string ⟨#[85,80,80,69,82]⟩,.string ⟨#[76,79,87,69,82]⟩,.string ⟨#[84,82,73,77]⟩,.string ⟨#[86,65,76,85,69]⟩,.string ⟨#[73,83,78,85,77,66,69,82]⟩,.string ⟨#[73,83,84,69,88,84]⟩,.string ⟨#[73,83,66,76,65,78,75]⟩,.string ⟨#[73,83,69,82,82,79,82]⟩,.string ⟨#[78,65]⟩] t frozen
   | o=>o).modify 4 fun
   | .cells _ t frozen=>.cells (Go.Pinned.utf8FirstZ.map λn:Nat=>Value.int .u8 (n:Int)).toArray t frozen
   | o=>o).modify 5 fun
   | .cells _ t frozen=>.cells #[.int .u8 128,.int .u8 191,.int .u8 160,.int .u8 191,.int .u8 128,.int .u8 159,.int .u8 144,.int .u8 191,.int .u8 128,.int .u8 143,.int .u8 0,.int .u8 0,.int .u8 0,.int .u8 0,.int .u8 0,.int .u8 0,.int .u8 0,.int .u8 0,.int .u8 0,.int .u8 0,.int .u8 0,.int .u8 0,.int .u8 0,.int .u8 0,.int .u8 0,.int .u8 0,.int .u8 0,.int .u8 0,.int .u8 0,.int .u8 0,.int .u8 0,.int .u8 0] t frozen
   | o=>o).modify 6 fun
   | .cells _ t frozen=>.cells #[.int .u64 1,.int .u64 10,.int .u64 100,.int .u64 1000,.int .u64 10000,.int .u64 100000,.int .u64 1000000,.int .u64 10000000,.int .u64 100000000,.int .u64 1000000000,.int .u64 10000000000,.int .u64 100000000000,.int .u64 1000000000000,.int .u64 10000000000000,.int .u64 100000000000000,.int .u64 1000000000000000,.int .u64 10000000000000000,.int .u64 100000000000000000,.int .u64 1000000000000000000,.int .u64 10000000000000000000] t frozen
   | o=>o).modify 7 fun
   | .cells _ t frozen=>.cells #[.int .u8 0,.int .u8 1,.int .u8 28,.int .u8 2,.int .u8 29,.int .u8 14,.int .u8 24,.int .u8 3,.int .u8 30,.int .u8 22,.int .u8 20,.int .u8 15,.int .u8 25,.int .u8 17,.int .u8 4,.int .u8 8,.int .u8 31,.int .u8 27,.int .u8 13,.int .u8 23,.int .u8 21,.int .u8 19,.int .u8 16,.int .u8 7,.int .u8 26,.int .u8 12,.int .u8 18,.int .u8 6,.int .u8 11,.int .u8 5,.int .u8 10,.int .u8 9] t frozen
   | o=>o).modify 8 fun
   | .cells _ t frozen=>.cells #[.int .u8 0,.int .u8 1,.int .u8 56,.int .u8 2,.int .u8 57,.int .u8 49,.int .u8 28,.int .u8 3,.int .u8 61,.int .u8 58,.int .u8 42,.int .u8 50,.int .u8 38,.int .u8 29,.int .u8 17,.int .u8 4,.int .u8 62,.int .u8 47,.int .u8 59,.int .u8 36,.int .u8 45,.int .u8 43,.int .u8 51,.int .u8 22,.int .u8 53,.int .u8 39,.int .u8 33,.int .u8 30,.int .u8 24,.int .u8 18,.int .u8 12,.int .u8 5,.int .u8 63,.int .u8 55,.int .u8 48,.int .u8 27,.int .u8 60,.int .u8 41,.int .u8 37,.int .u8 16,.int .u8 46,.int .u8 35,.int .u8 44,.int .u8 21,.int .u8 52,.int .u8 32,.int .u8 23,.int .u8 11,.int .u8 54,.int .u8 26,.int .u8 40,.int .u8 15,.int .u8 34,.int .u8 20,.int .u8 31,.int .u8 10,.int .u8 25,.int .u8 14,.int .u8 19,.int .u8 9,.int .u8 13,.int .u8 8,.int .u8 7,.int .u8 6] t frozen
   | o=>o)}
theorem zLK (os:Os):laidMet Tryz.prog Rows.bookKindsRow.laid ((zDD os).forCall (λ_ _=>0) ⟨#[],#[.slice none 0 0,.agg #[.int .i64 0,.int .i64 0,.int .i64 0]],[]⟩).memory :=
 laidMet_of_run' 8 (by kernel_rfl) (by kernel_rfl)
theorem zQi (os:Os) {H:Type} (enc:TypeId × Value->H):∃ places,DataW.whole enc Tryz.prog ((zDD os).forCall (λ_ _=>0) ⟨#[],#[.slice none 0 0,.agg #[.int .i64 0,.int .i64 0,.int .i64 0]],[]⟩).memory Tryz.f3.params.toList Rows.bookKindsSpec.vars false (#[.slice none 0 0,.agg #[.int .i64 0,.int .i64 0,.int .i64 0]]:Array Value).toList 8=some ([.nil,.agg [.lit (.int .i64 0),.lit (.int .i64 0),.lit (.int .i64 0)]],[],places) :=
 ⟨[],by kernel_rfl⟩
theorem zQO (os:Os) (started:os.Started) (H:Type) (enc:TypeId × Value->H) (F:Stop.Interp) :
  ReturnsInHanded {} Tryz.checked os 3 .any ((OpenSpec.ofChange Rows.bookKindsSpec).preRow enc Tryz.prog Tryz.f3 Rows.bookKindsRow.domain false Rows.bookKindsRow.laid) (((OpenSpec.ofChange Rows.bookKindsSpec).at F).post enc Tryz.prog Tryz.f3 false true false false):=by
 obtain ⟨places,hx⟩:=zQi os enc;refine returnsInHanded_of_row (C:=Tryz.checked) (s:=OpenSpec.ofChange Rows.bookKindsSpec) own started (by kernel_rfl) Tryz.func3
  (witness_row_at (enc:=enc) (C:=Tryz.checked) false (zDD os) #[.slice none 0 0,.agg #[.int .i64 0,.int .i64 0,.int .i64 0]] rfl (by kernel_rfl) (by kernel_rfl) (by kernel_rfl)
   (OpenSpec.preRow_of_cond 8 hx (by kernel_rfl) (λk hk=>by cases hk) (by kernel_rfl) (zLK os))) ?_
 intro W base args ds gs before hval hW _ _ hsz hlaid hsh _;exact zMl H enc W base args ds gs before hval hW hsz hlaid hsh
theorem said:Rows.BookKindsSaid :=
 OpenClaim.holds_of_cond 3 Tryz.f3 rfl rfl rfl rfl rfl rfl rfl ⟨rfl,rfl,rfl,rfl,rfl⟩ rfl rfl rfl rfl rfl zPe Tryz.func3 zL1 zQ3 zPk
  (λos started H enc _ F=>by rw [OpenClaim.pre_eq_preRow];exact zQO os started H enc F)
theorem plain (f:FuncId) (fn:Func) (hf:Tryz.pinned.checked.prog.funcNamed "whittle/whittlelaw11.BookKinds" = some f) (hfn:Tryz.pinned.checked.prog.funcs[f]? = some fn) :
  true=Tryz.pinned.checked.prog.looks []/\∀ (j:Nat) t,fn.params[j]? = some t->Tryz.pinned.checked.prog.wantsStandIn t=false:=by
 obtain rfl:f=3:=Option.some.inj ((show Tryz.prog.funcNamed "whittle/whittlelaw11.BookKinds" = some 3 by kernel_rfl).symm.trans hf) |>.symm
 obtain rfl:fn=Tryz.f3:=(Option.some.inj (Tryz.func3.symm.trans hfn)).symm;refine ⟨zNe,λj t ht=>?_⟩;rw [Tryz.params3] at ht;have hm:t=22 \/ t=24:=by simpa using Array.mem_of_getElem? ht
 rcases hm with rfl | rfl
 ·exact (show Tryz.prog.wantsStandIn 22=false by kernel_rfl)
 ·exact (show Tryz.prog.wantsStandIn 24=false by kernel_rfl)
theorem card:Rows.BookKindsCardSaid :=
 Claim7.holds_tied_plain_at .later [] _ _ _ _ said (λ_ h=>by cases h) (by kernel_rfl) (λ_ h=>by cases h) bookKinds_row_tie rfl ⟨rfl,rfl⟩ (by kernel_rfl) rfl plain (by kernel_rfl)
#print axioms card
end Go.Proofs.YtedifblompcdkaaGreatDoor.bookKinds
