/- For every input MoveCopies answers true, and its arguments read afterwards as they read before; no condition but those of the row (the listed package variables read as the program's text lays them, which the card ties to the text). -/
import Derived.Test.YtdghjlmnlodnlaaGreatDoorQ42
import Derived.Test.YtdghjlmnlodnlaaGreatDoorCards
import Derived.Test.YtdghjlmnlodnlaaGreatDoorTie
import Derived.ProofKit
import Derived.OpenShut
import Derived.Deep.DeepHandedRow
import Derived.Lib.SmallJoins
import Derived.Carry
import Derived.SizedLaws
set_option maxHeartbeats 400000
set_option maxRecDepth 100000
namespace Go.Proofs.YtdghjlmnlodnlaaGreatDoor.moveCopies
open Go.ChangeShapes Go.WideShapes Go.ChangeAt Go.RowKit Go.Joins Go.Deep
open Go.ChangeMaps (open_string shut_string)
theorem own:ownKnob Tryz.prog.godebug=none:=by kernel_rfl
theorem zGn:laidOutB Tryz.prog=true:=by kernel_rfl
theorem zOs {W:World} (h:laidMetH Tryz.prog Rows.moveCopiesRow.laid W) (hsh:W.ShapedOpen Tryz.prog):Env W/\8<=W.heap.size:=by
 have h0:laidMet Tryz.prog Rows.moveCopiesRow.laid W:=h;refine ⟨⟨?_,?_,MaxAt.shaped hsh,?_⟩,?_⟩
 ·have h2:laidMet Tryz.prog (("whittle/tree.operators",Rows.laid_whittle_tree_operators)::_) W:=h0.tail.tail.tail.tail.tail;have e:(Rows.laid_whittle_tree_operators:DataW Unit)=.agg (Wt.opsT.map λx=>.agg [.lit (.int .i64 x.1),.lit (.string x.2.1),.lit (.int .i64 x.2.2)]):=by kernel_rfl
  rw [e] at h2;exact zPp h2
 ·have h2:laidMet Tryz.prog (("whittle/value.faultNames",Rows.laid_whittle_value_faultNames)::_) W:=h0.tail.tail.tail.tail;have e:(Rows.laid_whittle_value_faultNames:DataW Unit)=.agg (fNames.map λx=>.lit (.string x)):=by kernel_rfl
  rw [e] at h2;exact zQE h2
 ·have h2:laidMet Tryz.prog (("internal/strconv.uint64pow10",Rows.laid_internal_strconv_uint64pow10)::_) W:=h0.tail.tail;have e:(Rows.laid_internal_strconv_uint64pow10:DataW Unit)=Lib.tabData .u64 Lib.pow10Tab:=by kernel_rfl
  rw [e] at h2;exact Lib.tabIs_of_head (g:=5) (t:=226) (e:=166) (n:=20) (by kernel_rfl) (by kernel_rfl) (by kernel_rfl) (by kernel_rfl) (by kernel_rfl) (by kernel_rfl) h2
 ·have h2:laidMet Tryz.prog (("math/bits.deBruijn64tab",Rows.laid_math_bits_deBruijn64tab)::_) W:=h0.tail;obtain ⟨ps,⟨g,t,cs,fuel,p,q,hg,_,hvar,_,_,_⟩,_⟩:=h2;have e:Tryz.prog.globalNamed "math/bits.deBruijn64tab" = some 7:=by kernel_rfl
  obtain rfl:=Option.some.inj (e.symm.trans hg);unfold World.var? at hvar;rw [e] at hvar;simp only [Option.bind_some] at hvar;rcases Nat.lt_or_ge 7 W.heap.size with h | h
  ·exact h
  ·rw [Array.getElem?_eq_none h] at hvar;cases hvar
theorem zLQ (H:Type) (enc:TypeId × Value->H) (W:World) (base:Nat) (args:Array Value) (ds gs:List (DataW H)) (before:List MemPlace)
  (hval:∀ (j:Nat) t v,Tryz.f4.params[j]? = some t->args[j]? = some v->Value.okWide Tryz.prog W .any base t v)
  (hW:DataW.Whole enc Tryz.prog Tryz.f4.params.toList Rows.moveCopiesSpec.vars false W args.toList ds gs before)
  (hsz:(DataW.weightsEach Tryz.prog (Tryz.f4.params.toList++(OpenSpec.ofChange Rows.moveCopiesSpec).bare.plain.varTypes Tryz.prog) (ds++gs)).all (· <= reachBytes)=true) (hlaid:laidMetH Tryz.prog Rows.moveCopiesRow.laid W) (hsh:W.ShapedOpen Tryz.prog) :
  Calls Tryz.prog 4 args W λe W'=>∃ v,e=.returned v/\Rows.moveCopiesSpec.post enc Tryz.prog Tryz.f4 false true false false W args v W':=by
 have hW':=hW;have hlt:=hW.lt;obtain ⟨p,q,hA0,hV,rfl,hfz,hnd⟩:=hW;have hA:DataW.TrodAll enc Tryz.prog W 0 (λ_=>true) true Tryz.f4.params.toList args.toList ds p:=hA0;rw [Tryz.params4] at hA hval hsz;obtain ⟨v0,vs0,d0,ds0,p0,q0,hargs,rfl,rfl,h0,r0⟩:=trodAll_cons hA;obtain ⟨v1,vs1,d1,ds1,p1,q1,rfl,rfl,rfl,h1,r1⟩:=trodAll_cons r0;obtain ⟨v2,vs2,d2,ds2,p2,q2,rfl,rfl,rfl,h2,r2⟩:=trodAll_cons r1;obtain ⟨rfl,rfl,rfl⟩:=trodAll_nil r2;obtain rfl:args=#[v0,v1,v2]:=by cases args;simp_all
 obtain ⟨rfl,rfl⟩:=trodVars_none hV;clear hA0;simp only [List.append_nil] at hW' hlt;have fin:∀ (W':World),Below W.heap.size W W'->∃ v,Ending.returned (Value.bool true)=.returned v/\Rows.moveCopiesSpec.post enc Tryz.prog Tryz.f4 false true false false W #[v0,v1,v2] v W':=by
  intro W' hb;exact ⟨_,rfl,_,_,_,[],_,[],hW',(trodAll_cons_mk (shut_bool Tryz.underlying4 _) trodAll_mk0),(trodAll_cons_mk (Below.trod zGn (by kernel_rfl) (of_decide_eq_true (by kernel_rfl)) h0 hb (λx hx=>hlt x (by simp [hx]))) (trodAll_cons_mk (Below.trod zGn (by kernel_rfl) (of_decide_eq_true (by kernel_rfl)) h1 hb (λx hx=>hlt x (by simp [hx]))) (trodAll_cons_mk (Below.trod zGn (by kernel_rfl) (of_decide_eq_true (by kernel_rfl)) h2 hb (λx hx=>hlt x (by simp [hx]))) trodAll_mk0))),rfl,hb.frame _,λh=>by cases h⟩
 obtain ⟨x,rfl,rfl,rfl,hx⟩:=open_string Tryz.underlying9 (hval 0 9 v0 rfl rfl) h0;obtain ⟨k1,rfl,rfl,rfl,wk1⟩:=open_int Tryz.underlying3 (hval 1 3 v1 rfl rfl) h1;have bk1:=bounds_i64 wk1;obtain ⟨k2,rfl,rfl,rfl,wk2⟩:=open_int Tryz.underlying3 (hval 2 3 v2 rfl rfl) h2;have bk2:=bounds_i64 wk2;obtain ⟨hE,hk8⟩:=zOs hlaid hsh;refine (zFh x k1 k2 W hE hk8 (by have q:x.size<=reachBytes:=sized_string hsz (j:=0) rfl rfl;simp only [reachBytes] at q;omega) ⟨by omega,by omega⟩ ⟨by omega,by omega⟩).mono λe W' ⟨he,hb⟩=>?_
 subst he;exact fin W' hb
noncomputable def zDy (os:Os):World :=
 {World.holding Tryz.prog os ⟨#[],#[],[]⟩ with heap:=((((((((World.holding Tryz.prog os ⟨#[],#[],[]⟩).heap.modify 0 fun
   | .cells _ t frozen=>.cells #[.int .i64 21,.string ⟨#[61]⟩,.int .i64 0,.int .i64 22,.string ⟨#[60,62]⟩,.int .i64 0,.int .i64 23,.string ⟨#[60]⟩,.int .i64 0,.int .i64 24,.string ⟨#[60,61]⟩,.int .i64 0,.int .i64 25,.string ⟨#[62]⟩,.int .i64 0,.int .i64 26,.string ⟨#[62,61]⟩,.int .i64 0,.int .i64 16,.string ⟨#[38]⟩,.int .i64 1,.int .i64 11,.string ⟨#[43]⟩,.int .i64 2,.int .i64 12,.string ⟨#[45]⟩,.int .i64 2,.int .i64 13,.string ⟨#[42]⟩,.int .i64 3,.int .i64 14,.string ⟨#[47]⟩,.int .i64 3,.int .i64 15,.string ⟨#[94]⟩,.int .i64 4,.int .i64 1,.string ⟨#[45]⟩,.int .i64 5,.int .i64 2,.string ⟨#[43]⟩,.int .i64 5,.int .i64 3,.string ⟨#[37]⟩,.int .i64 6] t frozen
   | o=>o).modify 1 fun
   | .cells _ t frozen=>.cells #[.string ⟨#[]⟩,.string ⟨#[35,68,73,86,47,48,33]⟩,.string ⟨#[35,86,65,76,85,69,33]⟩,.string ⟨#[35,82,69,70,33]⟩,.string ⟨#[35,78,85,77,33]⟩,.string ⟨#[35,78,47,65]⟩,.string ⟨#[35,67,73,82,67,76,69,33]⟩,.string ⟨#[35,76,79,78,71,33]⟩,.string ⟨#[35,65,82,71,33]⟩] t frozen
   | o=>o).modify 3 fun
   | .cells _ t frozen=>.cells (Go.Pinned.utf8FirstZ.map λn:Nat=>Value.int .u8 (n:Int)).toArray t frozen
   | o=>o).modify 4 fun
   | .cells _ t frozen=>.cells #[.int .u8 128,.int .u8 191,.int .u8 160,.int .u8 191,.int .u8 128,.int .u8 159,.int .u8 144,.int .u8 191,.int .u8 128,.int .u8 143,.int .u8 0,.int .u8 0,.int .u8 0,.int .u8 0,.int .u8 0,.int .u8 0,.int .u8 0,.int .u8 0,.int .u8 0,.int .u8 0,.int .u8 0,.int .u8 0,.int .u8 0,.int .u8 0,.int .u8 0,.int .u8 0,.int .u8 0,.int .u8 0,.int .u8 0,.int .u8 0,.int .u8 0,.int .u8 0] t frozen
   | o=>o).modify 5 fun
   | .cells _ t frozen=>.cells #[.int .u64 1,.int .u64 10,.int .u64 100,.int .u64 1000,.int .u64 10000,.int .u64 100000,.int .u64 1000000,.int .u64 10000000,.int .u64 100000000,.int .u64 1000000000,.int .u64 10000000000,.int .u64 100000000000,.int .u64 1000000000000,.int .u64 10000000000000,.int .u64 100000000000000,.int .u64 1000000000000000,.int .u64 10000000000000000,.int .u64 100000000000000000,.int .u64 1000000000000000000,.int .u64 10000000000000000000] t frozen
   | o=>o).modify 6 fun
   | .cells _ t frozen=>.cells #[.int .u8 0,.int .u8 1,.int .u8 28,.int .u8 2,.int .u8 29,.int .u8 14,.int .u8 24,.int .u8 3,.int .u8 30,.int .u8 22,.int .u8 20,.int .u8 15,.int .u8 25,.int .u8 17,.int .u8 4,.int .u8 8,.int .u8 31,.int .u8 27,.int .u8 13,.int .u8 23,.int .u8 21,.int .u8 19,.int .u8 16,.int .u8 7,.int .u8 26,.int .u8 12,.int .u8 18,.int .u8 6,.int .u8 11,.int .u8 5,.int .u8 10,.int .u8 9] t frozen
   | o=>o).modify 7 fun
   | .cells _ t frozen=>.cells #[.int .u8 0,.int .u8 1,.int .u8 56,.int .u8 2,.int .u8 57,.int .u8 49,.int .u8 28,.int .u8 3,.int .u8 61,.int .u8 58,.int .u8 42,.int .u8 50,.int .u8 38,.int .u8 29,.int .u8 17,.int .u8 4,.int .u8 62,.int .u8 47,.int .u8 59,.int .u8 36,.int .u8 45,.int .u8 43,.int .u8 51,.int .u8 22,.int .u8 53,.int .u8 39,.int .u8 33,.int .u8 30,.int .u8 24,.int .u8 18,.int .u8 12,.int .u8 5,.int .u8 63,.int .u8 55,.int .u8 48,.int .u8 27,.int .u8 60,.int .u8 41,.int .u8 37,.int .u8 16,.int .u8 46,.int .u8 35,.int .u8 44,.int .u8 21,.int .u8 52,.int .u8 32,.int .u8 23,.int .u8 11,.int .u8 54,.int .u8 26,.int .u8 40,.int .u8 15,.int .u8 34,.int .u8 20,.int .u8 31,.int .u8 10,.int .u8 25,.int .u8 14,.int .u8 19,.int .u8 9,.int .u8 13,.int .u8 8,.int .u8 7,.int .u8 6] t frozen
   | o=>o)}
theorem zLm (os:Os):laidMet Tryz.prog Rows.moveCopiesRow.laid ((zDy os).forCall (λ_ _=>0) ⟨#[],#[.string ⟨#[]⟩,.int .i64 0,.int .i64 0],[]⟩).memory :=
 laidMet_of_run' 8 (by kernel_rfl) (by kernel_rfl)
theorem zQx (os:Os) {H:Type} (enc:TypeId × Value->H):∃ places,DataW.whole enc Tryz.prog ((zDy os).forCall (λ_ _=>0) ⟨#[],#[.string ⟨#[]⟩,.int .i64 0,.int .i64 0],[]⟩).memory Tryz.f4.params.toList Rows.moveCopiesSpec.vars false (#[.string ⟨#[]⟩,.int .i64 0,.int .i64 0]:Array Value).toList 8=some ([.lit (.string []),.lit (.int .i64 0),.lit (.int .i64 0)],[],places) :=
 ⟨[],by kernel_rfl⟩
theorem zOk (os:Os) (started:os.Started) (H:Type) (enc:TypeId × Value->H) (F:Stop.Interp) :
  ReturnsInHanded {} Tryz.checked os 4 .any ((OpenSpec.ofChange Rows.moveCopiesSpec).preRow enc Tryz.prog Tryz.f4 Rows.moveCopiesRow.domain false Rows.moveCopiesRow.laid) (((OpenSpec.ofChange Rows.moveCopiesSpec).at F).post enc Tryz.prog Tryz.f4 false true false false):=by
 obtain ⟨places,hx⟩:=zQx os enc;refine returnsInHanded_of_row (C:=Tryz.checked) (s:=OpenSpec.ofChange Rows.moveCopiesSpec) own started (by kernel_rfl) Tryz.func4
  (witness_row_at (enc:=enc) (C:=Tryz.checked) false (zDy os) #[.string ⟨#[]⟩,.int .i64 0,.int .i64 0] rfl (by kernel_rfl) (by kernel_rfl) (by kernel_rfl)
   (OpenSpec.preRow_of_cond 8 hx (by kernel_rfl) (λk hk=>by cases hk) (by kernel_rfl) (zLm os))) ?_
 intro W base args ds gs before hval hW _ _ hsz hlaid hsh _;exact zLQ H enc W base args ds gs before hval hW hsz hlaid hsh
theorem said:Rows.MoveCopiesSaid :=
 OpenClaim.holds_of_cond 4 Tryz.f4 rfl rfl rfl rfl rfl rfl rfl ⟨rfl,rfl,rfl,rfl,rfl⟩ rfl rfl rfl rfl rfl (by kernel_rfl) Tryz.func4 (by kernel_rfl)
  (of_decide_eq_true (by kernel_rfl)) (by unfold Func.isWrapper;first | (rw [if_pos (by decide +kernel)];kernel_rfl) | (rw [if_neg (by decide +kernel)];exact ⟨rfl,rfl⟩))
  (λos started H enc _ F=>by rw [OpenClaim.pre_eq_preRow];exact zOk os started H enc F)
theorem plain (f:FuncId) (fn:Func) (hf:Tryz.pinned.checked.prog.funcNamed "whittle/whittlelaw6.MoveCopies" = some f) (hfn:Tryz.pinned.checked.prog.funcs[f]? = some fn) :
  true=Tryz.pinned.checked.prog.looks []/\∀ (j:Nat) t,fn.params[j]? = some t->Tryz.pinned.checked.prog.wantsStandIn t=false:=by
 obtain rfl:f=4:=Option.some.inj ((show Tryz.prog.funcNamed "whittle/whittlelaw6.MoveCopies" = some 4 by kernel_rfl).symm.trans hf) |>.symm
 obtain rfl:fn=Tryz.f4:=(Option.some.inj (Tryz.func4.symm.trans hfn)).symm;refine ⟨by kernel_rfl,λj t ht=>?_⟩;rw [Tryz.params4] at ht;have hm:t=9 \/ t=3 \/ t=3:=by simpa using Array.mem_of_getElem? ht
 rcases hm with rfl | rfl | rfl
 ·exact (show Tryz.prog.wantsStandIn 9=false by kernel_rfl)
 ·exact (show Tryz.prog.wantsStandIn 3=false by kernel_rfl)
 ·exact (show Tryz.prog.wantsStandIn 3=false by kernel_rfl)
theorem card:Rows.MoveCopiesCardSaid :=
 Claim7.holds_tied_plain_at .later [] _ _ _ _ said (λ_ h=>by cases h) (by kernel_rfl) (λ_ h=>by cases h) moveCopies_row_tie rfl ⟨rfl,rfl⟩ (by kernel_rfl) rfl plain (by kernel_rfl)
#print axioms card
end Go.Proofs.YtdghjlmnlodnlaaGreatDoor.moveCopies
