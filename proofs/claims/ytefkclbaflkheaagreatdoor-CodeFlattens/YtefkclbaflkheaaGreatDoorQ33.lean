/- For every input CodeFlattens answers true, and its arguments read afterwards as they read before; no condition but those of the row (the listed package variables read as the program's text lays them, which the card ties to the text). -/
import Derived.Test.YtefkclbaflkheaaGreatDoorQ32
import Derived.Test.YtefkclbaflkheaaGreatDoorCards
import Derived.Test.YtefkclbaflkheaaGreatDoorTie
import Derived.OpenShut
import Derived.Deep.DeepHandedRow
set_option maxHeartbeats 400000
set_option maxRecDepth 100000
namespace Go.Proofs.YtefkclbaflkheaaGreatDoor.codeFlattens
open Go.ChangeShapes Go.WideShapes Go.ChangeAt Go.RowKit Go.Joins Go.Deep
theorem own:ownKnob Tryz.prog.godebug=none:=by kernel_rfl
theorem zEo:laidOutB Tryz.prog=true:=by kernel_rfl
theorem zO0:Tryz.prog.cellsOf 24=3:=by kernel_rfl
theorem zOD {W:World} (h:laidMetH Tryz.prog Rows.codeFlattensRow.laid W):NmAt W/\OpsAt W:=by
 have h0:laidMet Tryz.prog Rows.codeFlattensRow.laid W:=h;constructor
 ·have h2:laidMet Tryz.prog (("whittle/funcs.names",Rows.laid_whittle_funcs_names)::_) W:=h0;have e:(Rows.laid_whittle_funcs_names:DataW Unit)=.agg (fnN.map λx=>.lit (.string x)):=by kernel_rfl
  rw [e] at h2;exact zOz h2
 ·have h2:laidMet Tryz.prog (("whittle/tree.operators",Rows.laid_whittle_tree_operators)::_) W:=h0.tail;have e:(Rows.laid_whittle_tree_operators:DataW Unit)=.agg (Wt.opsT.map λx=>.agg [.lit (.int .i64 x.1),.lit (.string x.2.1),.lit (.int .i64 x.2.2)]):=by kernel_rfl
  rw [e] at h2;exact zOY h2
theorem zKl (H:Type) (enc:TypeId × Value->H) (W:World) (base:Nat) (args:Array Value) (ds gs:List (DataW H)) (zE5:List MemPlace)
  (hval:∀ (j:Nat) t v,Tryz.f3.params[j]? = some t->args[j]? = some v->Value.okWide Tryz.prog W .any base t v)
  (hW:DataW.Whole enc Tryz.prog Tryz.f3.params.toList Rows.codeFlattensSpec.vars false W args.toList ds gs zE5)
  (hsz:(DataW.weightsEach Tryz.prog (Tryz.f3.params.toList++(OpenSpec.ofChange Rows.codeFlattensSpec).bare.plain.varTypes Tryz.prog) (ds++gs)).all (· <= reachBytes)=true) (hlaid:laidMetH Tryz.prog Rows.codeFlattensRow.laid W) (_:W.ShapedOpen Tryz.prog) :
  Calls Tryz.prog 3 args W λe W'=>∃ v,e=.returned v/\Rows.codeFlattensSpec.post enc Tryz.prog Tryz.f3 false true false false W args v W':=by
 have hW':=hW;have hlt:=hW.lt;obtain ⟨p,q,hA0,hV,rfl,hfz,hnd⟩:=hW;have hA:DataW.TrodAll enc Tryz.prog W 0 (λ_=>true) true Tryz.f3.params.toList args.toList ds p:=hA0;rw [Tryz.params3] at hA hval hsz;obtain ⟨v0,vs0,d0,ds0,p0,q0,hargs,rfl,rfl,h0,r0⟩:=trodAll_cons hA;obtain ⟨v1,vs1,d1,ds1,p1,q1,rfl,rfl,rfl,h1,r1⟩:=trodAll_cons r0;obtain ⟨v2,vs2,d2,ds2,p2,q2,rfl,rfl,rfl,h2,r2⟩:=trodAll_cons r1;obtain ⟨rfl,rfl,rfl⟩:=trodAll_nil r2;obtain rfl:args=#[v0,v1,v2]:=by cases args;simp_all
 obtain ⟨rfl,rfl⟩:=trodVars_none hV;clear hA0;simp only [List.append_nil] at hW' hlt;have fin:∀ (W':World),Below W.heap.size W W'->∃ v,Ending.returned (Value.bool true)=.returned v/\Rows.codeFlattensSpec.post enc Tryz.prog Tryz.f3 false true false false W #[v0,v1,v2] v W':=by
  intro W' hb;exact ⟨_,rfl,_,_,_,[],_,[],hW',(trodAll_cons_mk (shut_bool Tryz.underlying4 _) trodAll_mk0),(trodAll_cons_mk (Below.trod zEo (by kernel_rfl) (of_decide_eq_true (by kernel_rfl)) h0 hb (λx hx=>hlt x (by simp [hx]))) (trodAll_cons_mk (Below.trod zEo (by kernel_rfl) (of_decide_eq_true (by kernel_rfl)) h1 hb (λx hx=>hlt x (by simp [hx]))) (trodAll_cons_mk (Below.trod zEo (by kernel_rfl) (of_decide_eq_true (by kernel_rfl)) h2 hb (λx hx=>hlt x (by simp [hx]))) trodAll_mk0))),rfl,hb.frame _,λh=>by cases h⟩
 obtain ⟨L_x,av_x,cap_x,rfl,hr_x,hf_x,hno_x,hc_x,hb_x,hz_x⟩:=zI5 (hval 0 22 v0 rfl rfl) h0;have hl_x:=hz_x _ _ 0 hsz rfl rfl;simp only [reachBytes] at hl_x;obtain ⟨c10,c11,c12,y10,y11,y12,m1,rfl,rfl,rfl,hy10,hy11,hy12⟩:=open_agg3 Tryz.underlying24 (by kernel_rfl) zO0 (hval 1 24 v1 rfl rfl) h1;obtain ⟨own,e10,_,wown⟩:=DataW.trod_int Tryz.underlying3 hy10;obtain ⟨r,e11,_,wr⟩:=DataW.trod_int Tryz.underlying3 hy11;obtain ⟨c,e12,_,wc⟩:=DataW.trod_int Tryz.underlying3 hy12;simp only [List.cons.injEq,and_true] at e10 e11 e12;subst e10 e11 e12;have bown:=bounds_i64 wown;have br:=bounds_i64 wr;have bc:=bounds_i64 wc;obtain ⟨L_y,av_y,cap_y,rfl,hr_y,hno_y,hc_y,hz_y⟩:=zJi (hval 2 25 v2 rfl rfl) h2;have hl_y:=hz_y _ _ 2 hsz rfl rfl;simp only [reachBytes] at hl_y;have hE:=zOD hlaid;refine (zMH L_x L_y av_x L_x.length cap_x av_y L_y.length cap_y own r c W rfl rfl (λ_=>by omega) (λ_=>by omega) hf_x hr_x hr_y hno_x hno_y bown hE.1 hE.2).mono λe W' ⟨he,hb⟩=>?_
 subst he;exact fin W' hb
noncomputable def zCm (os:Os):World :=
 {World.holding Tryz.prog os ⟨#[],#[],[]⟩ with heap:=(((World.holding Tryz.prog os ⟨#[],#[],[]⟩).heap.modify 0 fun
   | .cells _ t frozen=>.cells #[.string ⟨#[]⟩,.string ⟨#[83,85,77]⟩,.string ⟨#[80,82,79,68,85,67,84]⟩,.string ⟨#[67,79,85,78,84]⟩,.string ⟨#[67,79,85,78,84,65]⟩,.string ⟨#[77,73,78]⟩,.string ⟨#[77,65,88]⟩,.string ⟨#[65,86,69,82,65,71,69]⟩,.string ⟨#[65,78,68]⟩,.string ⟨#[79,82]⟩,.string ⟨#[88,79,82]⟩,.string ⟨#[67,79,78,67,65,84]⟩,.string ⟨#[83,85,77,83,81]⟩,.string ⟨#[71,67,68]⟩,.string ⟨#[70,73,82,83,84]⟩,.string ⟨#[76,65,83,84]⟩,.string ⟨#[]⟩,.string ⟨#[]⟩,.string ⟨#[]⟩,.string ⟨#[]⟩,.string ⟨#[77,65,84,67,72]⟩,.string ⟨#[67,79,85,78,84,73,70]⟩,.string ⟨#[83,85,77,73,70]⟩,.string ⟨#[76,79,79,75,85,80]⟩,.string ⟨#[83,85,77,80,82,79,68,85,67,84]⟩,.string ⟨#[73,78,68,69,88]⟩,.string ⟨#[82,79,87,83]⟩,.string ⟨#[67,79,76,85,77,78,83]⟩,.string ⟨#[]⟩,.string ⟨#[]⟩,.string ⟨#[73,70]⟩,.string ⟨#[73,70,69,82,82,79,82]⟩,.string ⟨#[67,72,79,79,83,69]⟩,.string ⟨#[]⟩,.string ⟨#[]⟩,.string ⟨#[]⟩,.string ⟨#[]⟩,.string ⟨#[]⟩,.string ⟨#[]⟩,.string ⟨#[]⟩,.string ⟨#[65,66,83]⟩,.string ⟨#[83,73,71,78]⟩,.string ⟨#[73,78,84]⟩,.string ⟨#[82,79,85,78,68]⟩,.string ⟨#[77,79,68]⟩,.string ⟨#[81,85,79,84,73,69,78,84]⟩,.string ⟨#[80,79,87,69,82]⟩,.string ⟨#[78,79,84]⟩,.string ⟨#[76,69,78]⟩,.string ⟨#[76,69,70,84]⟩,.string ⟨#[82,73,71,72,84]⟩,.string ⟨#[77,73,68]⟩,.string ⟨#[82,69,80,84]⟩,.string ⟨#[70,73,78,68]⟩,.string ⟨#[85,80,80,69,82]⟩,.string ⟨#[76,79,87,69,82]⟩,.string ⟨#[84,82,73,77]⟩,.string ⟨#[86,65,76,85,69]⟩,.string ⟨#[73,83,78,85,77,66,69,82]⟩,.string ⟨#[73,83,84,69,88,84]⟩,.string ⟨#[73,83,66,76,65,78,75]⟩,.string ⟨#[73,83,69,82,82,79,82]⟩,.string ⟨#[78,65]⟩] t frozen
   | o=>o).modify 1 fun
   | .cells _ t frozen=>.cells #[.int .i64 21,.string ⟨#[61]⟩,.int .i64 0,.int .i64 22,.string ⟨#[60,62]⟩,.int .i64 0,.int .i64 23,.string ⟨#[60]⟩,.int .i64 0,.int .i64 24,.string ⟨#[60,61]⟩,.int .i64 0,.int .i64 25,.string ⟨#[62]⟩,.int .i64 0,.int .i64 26,.string ⟨#[62,61]⟩,.int .i64 0,.int .i64 16,.string ⟨#[38]⟩,.int .i64 1,.int .i64 11,.string ⟨#[43]⟩,.int .i64 2,.int .i64 12,.string ⟨#[45]⟩,.int .i64 2,.int .i64 13,.string ⟨#[42]⟩,.int .i64 3,.int .i64 14,.string ⟨#[47]⟩,.int .i64 3,.int .i64 15,.string ⟨#[94]⟩,.int .i64 4,.int .i64 1,.string ⟨#[45]⟩,.int .i64 5,.int .i64 2,.string ⟨#[43]⟩,.int .i64 5,.int .i64 3,.string ⟨#[37]⟩,.int .i64 6] t frozen
   | o=>o)}
theorem zLO (os:Os):laidMet Tryz.prog Rows.codeFlattensRow.laid ((zCm os).forCall (λ_ _=>0) ⟨#[],#[.slice none 0 0,.agg #[.int .i64 0,.int .i64 0,.int .i64 0],.slice none 0 0],[]⟩).memory :=
 laidMet_of_run' 8 (by kernel_rfl) (by kernel_rfl)
theorem zPC (os:Os) {H:Type} (enc:TypeId × Value->H):∃ places,DataW.whole enc Tryz.prog ((zCm os).forCall (λ_ _=>0) ⟨#[],#[.slice none 0 0,.agg #[.int .i64 0,.int .i64 0,.int .i64 0],.slice none 0 0],[]⟩).memory Tryz.f3.params.toList Rows.codeFlattensSpec.vars false (#[.slice none 0 0,.agg #[.int .i64 0,.int .i64 0,.int .i64 0],.slice none 0 0]:Array Value).toList 8=some ([.nil,.agg [.lit (.int .i64 0),.lit (.int .i64 0),.lit (.int .i64 0)],.nil],[],places) :=
 ⟨[],by kernel_rfl⟩
theorem zO5 (os:Os) (started:os.Started) (H:Type) (enc:TypeId × Value->H) (F:Stop.Interp) :
  ReturnsInHanded {} Tryz.checked os 3 .any ((OpenSpec.ofChange Rows.codeFlattensSpec).preRow enc Tryz.prog Tryz.f3 Rows.codeFlattensRow.domain false Rows.codeFlattensRow.laid) (((OpenSpec.ofChange Rows.codeFlattensSpec).at F).post enc Tryz.prog Tryz.f3 false true false false):=by
 obtain ⟨places,hx⟩:=zPC os enc;refine returnsInHanded_of_row (C:=Tryz.checked) (s:=OpenSpec.ofChange Rows.codeFlattensSpec) own started (by kernel_rfl) Tryz.func3
  (witness_row_at (enc:=enc) (C:=Tryz.checked) false (zCm os) #[.slice none 0 0,.agg #[.int .i64 0,.int .i64 0,.int .i64 0],.slice none 0 0] rfl (by kernel_rfl) (by kernel_rfl) (by kernel_rfl)
   (OpenSpec.preRow_of_cond 8 hx (by kernel_rfl) (λk hk=>by cases hk) (by kernel_rfl) (zLO os))) ?_
 intro W base args ds gs zE5 hval hW _ _ hsz hlaid hsh _;exact zKl H enc W base args ds gs zE5 hval hW hsz hlaid hsh
theorem zPQ:Rows.CodeFlattensSaid :=
 OpenClaim.holds_of_cond 3 Tryz.f3 rfl rfl rfl rfl rfl rfl rfl ⟨rfl,rfl,rfl,rfl,rfl⟩ rfl rfl rfl rfl rfl (by kernel_rfl) Tryz.func3 (by kernel_rfl)
  (of_decide_eq_true (by kernel_rfl)) (by unfold Func.isWrapper;first | (rw [if_pos (by decide +kernel)];kernel_rfl) | (rw [if_neg (by decide +kernel)];exact ⟨rfl,rfl⟩))
  (λos started H enc _ F=>by rw [OpenClaim.pre_eq_preRow];exact zO5 os started H enc F)
theorem plain (f:FuncId) (fn:Func) (hf:Tryz.pinned.checked.prog.funcNamed "whittle/whittlelaw8.CodeFlattens" = some f) (hfn:Tryz.pinned.checked.prog.funcs[f]? = some fn) :
  false=Tryz.pinned.checked.prog.looks []/\∀ (j:Nat) t,fn.params[j]? = some t->Tryz.pinned.checked.prog.wantsStandIn t=false:=by
 obtain rfl:f=3:=Option.some.inj ((show Tryz.prog.funcNamed "whittle/whittlelaw8.CodeFlattens" = some 3 by kernel_rfl).symm.trans hf) |>.symm
 obtain rfl:fn=Tryz.f3:=(Option.some.inj (Tryz.func3.symm.trans hfn)).symm;refine ⟨by kernel_rfl,λj t ht=>?_⟩;rw [Tryz.params3] at ht;have hm:t=22 \/ t=24 \/ t=25:=by simpa using Array.mem_of_getElem? ht
 rcases hm with rfl | rfl | rfl
 ·exact (show Tryz.prog.wantsStandIn 22=false by kernel_rfl)
 ·exact (show Tryz.prog.wantsStandIn 24=false by kernel_rfl)
 ·exact (show Tryz.prog.wantsStandIn 25=false by kernel_rfl)
theorem card:Rows.CodeFlattensCardSaid :=
 Claim7.holds_tied_plain_at .later [] _ _ _ _ zPQ (λ_ h=>by cases h) (by kernel_rfl) (λ_ h=>by cases h) codeFlattens_row_tie rfl ⟨rfl,rfl⟩ (by kernel_rfl) rfl plain (by kernel_rfl)
#print axioms card
end Go.Proofs.YtefkclbaflkheaaGreatDoor.codeFlattens
