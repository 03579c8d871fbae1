/- For every input BookKeeps answers true, and its arguments read afterwards as they read before; no condition but those of the row (the listed package variables read as the program's text lays them, which the card ties to the text). -/
import Derived.Test.YthcblmpncpcfkaaGreatDoorQ08
import Derived.OpenShut
import Derived.Deep.DeepHandedRow
set_option maxHeartbeats 400000
set_option maxRecDepth 100000
namespace Go.Proofs.YthcblmpncpcfkaaGreatDoor.bookKeeps
open Go.ChangeShapes Go.WideShapes Go.ChangeAt Go.RowKit Go.Joins Go.Deep
theorem own:ownKnob Tryz.prog.godebug=none:=kR
theorem zI5:laidOutB Tryz.prog=true:=kR
theorem zPk {W:World} (h:laidMetH Tryz.prog Rows.bookKeepsRow.laid W) (d:W.ShapedOpen Tryz.prog):BEnv W:=by
 have c:laidMet Tryz.prog Rows.bookKeepsRow.laid W:=h;refine⟨⟨?_,?_,MaxAt.shaped d,?_⟩,?_,?_⟩
 ·have b:laidMet Tryz.prog (("whittle/tree.operators",Rows.laid_whittle_tree_operators)::_) W:=c.tail.tail.tail.tail.tail.tail;have e:(Rows.laid_whittle_tree_operators:DataW Unit)=.agg (Wt.opsT.map λx=>.agg [.lit (.int .i64 x.1),.lit (.string x.2.1),.lit (.int .i64 x.2.2)]):=kR
  rw[e]at b;exact zQ1 b
 ·have b:laidMet Tryz.prog (("whittle/value.faultNames",Rows.laid_whittle_value_faultNames)::_) W:=c.tail.tail.tail.tail;have e:(Rows.laid_whittle_value_faultNames:DataW Unit)=.agg (fNames.map λx=>.lit (.string x)):=kR
  rw[e]at b;exact zPw b
 ·have b:laidMet Tryz.prog (("internal/strconv.uint64pow10",Rows.laid_internal_strconv_uint64pow10)::_) W:=c.tail.tail;have e:(Rows.laid_internal_strconv_uint64pow10:DataW Unit)=Lib.tabData .u64 Lib.pow10Tab:=kR
  rw[e]at b;exact Lib.tabIs_of_head (g:=6) (t:=390) (e:=130) (n:=20) kR kR kR kR kR kR b
 ·have b:laidMet Tryz.prog (("whittle/funcs.names",Rows.laid_whittle_funcs_names)::_) W:=c.tail.tail.tail.tail.tail;have e:(Rows.laid_whittle_funcs_names:DataW Unit)=.agg (fnN.map λx=>.lit (.string x)):=kR
  rw[e]at b;exact zRb b
 ·have b:laidMet Tryz.prog (("math/bits.deBruijn64tab",Rows.laid_math_bits_deBruijn64tab)::_) W:=c.tail;obtain⟨j,⟨g,t,cs,f,p,q,i,_,a,_,_,_⟩,_⟩:=b;have e:Tryz.prog.globalNamed "math/bits.deBruijn64tab" = some 8:=kR
  obtain rfl:=Option.some.inj (e.symm.trans i);unfold World.var? at a;rw[e]at a;simp only[Option.bind_some]at a;rcases Nat.lt_or_ge 8 W.heap.size with h|h
  ·exact Nat.le_of_lt h
  ·rw[Array.getElem?_eq_none h]at a;cases a
theorem zMJ(H:Type)(enc:TypeId×Value->H)(W:World)(base:Nat)(args:Array Value)(B M:List (DataW H))(before:List MemPlace)
  (c:∀(j:Nat) t v,Tryz.f3.params[j]?=some t->args[j]?=some v->Value.okWide Tryz.prog W .any base t v)
  (D:DataW.Whole enc Tryz.prog Tryz.f3.params.toList Rows.bookKeepsSpec.vars false W args.toList B M before)
  (k:(DataW.weightsEach Tryz.prog (Tryz.f3.params.toList++(OpenSpec.ofChange Rows.bookKeepsSpec).bare.plain.varTypes Tryz.prog) (B++M)).all (· <= reachBytes)=true) (g:laidMetH Tryz.prog Rows.bookKeepsRow.laid W) (G:W.ShapedOpen Tryz.prog) :
  Calls Tryz.prog 3 args W λe f=>∃v,e=.returned v/\Rows.bookKeepsSpec.post enc Tryz.prog Tryz.f3 false true false false W args v f:=by
 have m:=D;have i:=D.lt;obtain⟨p,q,l,X,rfl,aa,ab⟩:=D;have Q:DataW.TrodAll enc Tryz.prog W 0 (λ_=>true) true Tryz.f3.params.toList args.toList B p:=l;rw[Tryz.params3]at Q c k;obtain⟨v0,ac,d0,R,p0,q0,F,rfl,rfl,N,r0⟩:=trodAll_cons Q;obtain⟨K,ad,d1,S,p1,q1,rfl,rfl,rfl,P,r1⟩:=trodAll_cons r0;obtain⟨rfl,rfl,rfl⟩:=trodAll_nil r1;obtain rfl:args=#[v0,K]:=by cases args;simp_all
 obtain⟨rfl,rfl⟩:=trodVars_none X;clear l;simp only[List.append_nil]at m i;have C:∀(f:World),bL W f->∃v,Ending.returned (Value.bool true)=.returned v/\Rows.bookKeepsSpec.post enc Tryz.prog Tryz.f3 false true false false W #[v0,K] v f:=by
  intro f n;exact⟨_,rfl,_,_,_,[],_,[],m,(trodAll_cons_mk (shut_bool Tryz.underlying4 _) trodAll_mk0),(trodAll_cons_mk (Below.trod zI5 kR (of_decide_eq_true kR) N n (λx I=>i x (by simp[I]))) (trodAll_cons_mk (Below.trod zI5 kR (of_decide_eq_true kR) P n (λx I=>i x (by simp[I]))) trodAll_mk0)),rfl,n.frame _,λh=>by cases h⟩
 obtain⟨E_x,av_x,n_x,cap_x,rfl,w,s,z⟩:=zJC (c 0 22 v0 rfl rfl) N;obtain⟨o,b⟩:=z _ _ 0 k rfl rfl;simp only[reachBytes]at o b;obtain⟨L_y,av_y,n_y,cap_y,rfl,y,u,hno_y,A⟩:=zMX (c 1 23 K rfl rfl) P;obtain⟨r,d⟩:=A _ _ 1 k rfl rfl;simp only[reachBytes]at r d;have T:=zPk g G;refine(zKI E_x av_x n_x cap_x L_y av_y n_y cap_y W T w s (λ_=>by omega) (λL hL=>⟨by have:=(b L hL).1;omega,λa E=>by have:=(b L hL).2 a E;omega⟩) y u hno_y (λ_=>by omega) (λa E=>by have:=d a E;omega)).mono λe f ⟨he,n⟩=>?_
 subst he;exact C f n
noncomputable def zBu(a:Os):World :=
 {World.holding Tryz.prog a ⟨#[],#[],[]⟩with heap:=(((((((((World.holding Tryz.prog a ⟨#[],#[],[]⟩).heap.modify 0 fun
   | .cells _ t frozen=>.cells #[.string ⟨#[]⟩,.string ⟨#[35,68,73,86,47,48,33]⟩,.string ⟨#[35,86,65,76,85,69,33]⟩,.string ⟨#[35,82,69,70,33]⟩,.string ⟨#[35,78,85,77,33]⟩,.string ⟨#[35,78,47,65]⟩,.string ⟨#[35,67,73,82,67,76,69,33]⟩,.string ⟨#[35,76,79,78,71,33]⟩,.string ⟨#[35,65,82,71,33]⟩] t frozen
   |o=>o).modify 1 fun
   | .cells _ t frozen=>.cells #[.int .i64 21,.string ⟨#[61]⟩,.int .i64 0,.int .i64 22,.string ⟨#[60,62]⟩,.int .i64 0,.int .i64 23,.string ⟨#[60]⟩,.int .i64 0,.int .i64 24,.string ⟨#[60,61]⟩,.int .i64 0,.int .i64 25,.string ⟨#[62]⟩,.int .i64 0,.int .i64 26,.string ⟨#[62,61]⟩,.int .i64 0,.int .i64 16,.string ⟨#[38]⟩,.int .i64 1,.int .i64 11,.string ⟨#[43]⟩,.int .i64 2,.int .i64 12,.string ⟨#[45]⟩,.int .i64 2,.int .i64 13,.string ⟨#[42]⟩,.int .i64 3,.int .i64 14,.string ⟨#[47]⟩,.int .i64 3,.int .i64 15,.string ⟨#[94]⟩,.int .i64 4,.int .i64 1,.string ⟨#[45]⟩,.int .i64 5,.int .i64 2,.string ⟨#[43]⟩,.int .i64 5,.int .i64 3,.string ⟨#[37]⟩,.int .i64 6] t frozen
   |o=>o).modify 2 fun
   | .cells _ t frozen=>.cells #[.string ⟨#[]⟩,.string ⟨#[83,85,77]⟩,.string ⟨#[80,82,79,68,85,67,84]⟩,.string ⟨#[67,79,85,78,84]⟩,.string ⟨#[67,79,85,78,84,65]⟩,.string ⟨#[77,73,78]⟩,.string ⟨#[77,65,88]⟩,.string ⟨#[65,86,69,82,65,71,69]⟩,.string ⟨#[65,78,68]⟩,.string ⟨#[79,82]⟩,.string ⟨#[88,79,82]⟩,.string ⟨#[67,79,78,67,65,84]⟩,.string ⟨#[83,85,77,83,81]⟩,.string ⟨#[71,67,68]⟩,.string ⟨#[70,73,82,83,84]⟩,.string ⟨#[76,65,83,84]⟩,.string ⟨#[]⟩,.string ⟨#[]⟩,.string ⟨#[]⟩,.string ⟨#[]⟩,.string ⟨#[77,65,84,67,72]⟩,.string ⟨#[67,79,85,78,84,73,70]⟩,.string ⟨#[83,85,77,73,70]⟩,.string ⟨#[76,79,79,75,85,80]⟩,.string ⟨#[83,85,77,80,82,79,68,85,67,84]⟩,.string ⟨#[73,78,68,69,88]⟩,.string ⟨#[82,79,87,83]⟩,.string ⟨#[67,79,76,85,77,78,83]⟩,.string ⟨#[]⟩,.string ⟨#[]⟩,.string ⟨#[73,70]⟩,.string ⟨#[73,70,69,82,82,79,82]⟩,.string ⟨#[67,72,79,79,83,69]⟩,.string ⟨#[]⟩,.string ⟨#[]⟩,.string ⟨#[]⟩,.string ⟨#[]⟩,.string ⟨#[]⟩,.string ⟨#[]⟩,.string ⟨#[]⟩,.string ⟨#[65,66,83]⟩,.string ⟨#[83,73,71,78]⟩,.string ⟨#[73,78,84]⟩,.string ⟨#[82,79,85,78,68]⟩,.string ⟨#[77,79,68]⟩,.string ⟨#[81,85,79,84,73,69,78,84]⟩,.string ⟨#[80,79,87,69,82]⟩,.string ⟨#[78,79,84]⟩,.string ⟨#[76,69,78]⟩,.string ⟨#[76,69,70,84]⟩,.string ⟨#[82,73,71,72,84]⟩,.string ⟨#[77,73,68]⟩,.string ⟨#[82,69,80,84]⟩,.string ⟨#[70,73,78,68]⟩,.string ⟨#[85,80,80,69,82]⟩,.string ⟨#[76,79,87,69,82]⟩,.string ⟨#[84,82,73,77]⟩,.string ⟨#[86,65,76,85,69]⟩,.string ⟨#[73,83,78,85,77,66,69,82]⟩,.string ⟨#[73,83,84,69,88,84]⟩,.string ⟨#[73,83,66,76,65,78,75]⟩,.string ⟨#[73,83,69,82,82,79,82]⟩,.string ⟨#[78,65]⟩] t frozen
   |o=>o).modify 4 fun
   | .cells _ t frozen=>.cells (Go.Pinned.utf8FirstZ.map λn:Nat=>Value.int .u8 (n:Int)).toArray t frozen
   |o=>o).modify 5 fun
   | .cells _ t frozen=>.cells #[.int .u8 128,.int .u8 191,.int .u8 160,.int .u8 191,.int .u8 128,.int .u8 159,.int .u8 144,.int .u8 191,.int .u8 128,.int .u8 143,.int .u8 0,.int .u8 0,.int .u8 0,.int .u8 0,.int .u8 0,.int .u8 0,.int .u8 0,.int .u8 0,.int .u8 0,.int .u8 0,.int .u8 0,.int .u8 0,.int .u8 0,.int .u8 0,.int .u8 0,.int .u8 0,.int .u8 0,.int .u8 0,.int .u8 0,.int .u8 0,.int .u8 0,.int .u8 0] t frozen
   |o=>o).modify 6 fun
   | .cells _ t frozen=>.cells #[.int .u64 1,.int .u64 10,.int .u64 100,.int .u64 1000,.int .u64 10000,.int .u64 100000,.int .u64 1000000,.int .u64 10000000,.int .u64 100000000,.int .u64 1000000000,.int .u64 10000000000,.int .u64 100000000000,.int .u64 1000000000000,.int .u64 10000000000000,.int .u64 100000000000000,.int .u64 1000000000000000,.int .u64 10000000000000000,.int .u64 100000000000000000,.int .u64 1000000000000000000,.int .u64 10000000000000000000] t frozen
   |o=>o).modify 7 fun
   | .cells _ t frozen=>.cells #[.int .u8 0,.int .u8 1,.int .u8 28,.int .u8 2,.int .u8 29,.int .u8 14,.int .u8 24,.int .u8 3,.int .u8 30,.int .u8 22,.int .u8 20,.int .u8 15,.int .u8 25,.int .u8 17,.int .u8 4,.int .u8 8,.int .u8 31,.int .u8 27,.int .u8 13,.int .u8 23,.int .u8 21,.int .u8 19,.int .u8 16,.int .u8 7,.int .u8 26,.int .u8 12,.int .u8 18,.int .u8 6,.int .u8 11,.int .u8 5,.int .u8 10,.int .u8 9] t frozen
   |o=>o).modify 8 fun
   | .cells _ t frozen=>.cells #[.int .u8 0,.int .u8 1,.int .u8 56,.int .u8 2,.int .u8 57,.int .u8 49,.int .u8 28,.int .u8 3,.int .u8 61,.int .u8 58,.int .u8 42,.int .u8 50,.int .u8 38,.int .u8 29,.int .u8 17,.int .u8 4,.int .u8 62,.int .u8 47,.int .u8 59,.int .u8 36,.int .u8 45,.int .u8 43,.int .u8 51,.int .u8 22,.int .u8 53,.int .u8 39,.int .u8 33,.int .u8 30,.int .u8 24,.int .u8 18,.int .u8 12,.int .u8 5,.int .u8 63,.int .u8 55,.int .u8 48,.int .u8 27,.int .u8 60,.int .u8 41,.int .u8 37,.int .u8 16,.int .u8 46,.int .u8 35,.int .u8 44,.int .u8 21,.int .u8 52,.int .u8 32,.int .u8 23,.int .u8 11,.int .u8 54,.int .u8 26,.int .u8 40,.int .u8 15,.int .u8 34,.int .u8 20,.int .u8 31,.int .u8 10,.int .u8 25,.int .u8 14,.int .u8 19,.int .u8 9,.int .u8 13,.int .u8 8,.int .u8 7,.int .u8 6] t frozen
   |o=>o)}
theorem zLN(a:Os):laidMet Tryz.prog Rows.bookKeepsRow.laid ((zBu a).forCall (λ_ _=>0) ⟨#[],#[.slice none 0 0,.slice none 0 0],[]⟩).memory :=
 laidMet_of_run' 8 kR kR
theorem zRF(b:Os){H:Type}(enc:TypeId×Value->H):∃a,DataW.whole enc Tryz.prog ((zBu b).forCall (λ_ _=>0) ⟨#[],#[.slice none 0 0,.slice none 0 0],[]⟩).memory Tryz.f3.params.toList Rows.bookKeepsSpec.vars false (#[.slice none 0 0,.slice none 0 0]:Array Value).toList 8=some ([.nil,.nil],[],a) :=
 ⟨[],by kernel_rfl⟩
theorem zPS(d:Os)(a:d.Started)(H:Type)(enc:TypeId×Value->H)(F:Stop.Interp) :
  ReturnsInHanded {} Tryz.checked d 3 .any ((OpenSpec.ofChange Rows.bookKeepsSpec).preRow enc Tryz.prog Tryz.f3 Rows.bookKeepsRow.domain false Rows.bookKeepsRow.laid) (((OpenSpec.ofChange Rows.bookKeepsSpec).at F).post enc Tryz.prog Tryz.f3 false true false false):=by
 obtain⟨e,n⟩:=zRF d enc;refine returnsInHanded_of_row (C:=Tryz.checked) (s:=OpenSpec.ofChange Rows.bookKeepsSpec) own a kR Tryz.func3
  (witness_row_at (enc:=enc) (C:=Tryz.checked) false (zBu d) #[.slice none 0 0,.slice none 0 0] rfl kR kR kR
   (OpenSpec.preRow_of_cond 8 n kR (λk m=>by cases m) kR (zLN d))) ?_
 intro W base args i j before c l _ _ g b f _;exact zMJ H enc W base args i j before c l g b f
theorem said:Rows.BookKeepsSaid :=
 OpenClaim.holds_of_cond 3 Tryz.f3 rfl rfl rfl rfl rfl rfl rfl ⟨rfl,rfl,rfl,rfl,rfl⟩ rfl rfl rfl rfl rfl zPx Tryz.func3 zMG zQT zQW
  (λb a H enc _ F=>by rw[OpenClaim.pre_eq_preRow];exact zPS b a H enc F)
theorem plain (f:FuncId) (a:Func) (d:Tryz.pinned.checked.prog.funcNamed "whittle/whittlelaw11.BookKeeps" = some f) (b:Tryz.pinned.checked.prog.funcs[f]?=some a) :
  true=Tryz.pinned.checked.prog.looks []/\∀(j:Nat) t,a.params[j]?=some t->Tryz.pinned.checked.prog.wantsStandIn t=false:=by
 obtain rfl:f=3:=Option.some.inj ((show Tryz.prog.funcNamed "whittle/whittlelaw11.BookKeeps" = some 3 by kernel_rfl).symm.trans d) |>.symm
 obtain rfl:a=Tryz.f3:=(Option.some.inj (Tryz.func3.symm.trans b)).symm;refine⟨zNy,λj t c=>?_⟩;rw[Tryz.params3]at c;have e:t=22\/t=23:=by simpa using Array.mem_of_getElem? c
 rcases e with rfl|rfl
 ·exact(show Tryz.prog.wantsStandIn 22=false by kernel_rfl)
 ·exact(show Tryz.prog.wantsStandIn 23=false by kernel_rfl)
theorem card:Rows.BookKeepsCardSaid :=
 Claim7.holds_tied_plain_at .later [] _ _ _ _ said (λ_ h=>by cases h) kR (λ_ h=>by cases h) bookKeeps_row_tie rfl ⟨rfl,rfl⟩ kR rfl plain kR
#print axioms card
end Go.Proofs.YthcblmpncpcfkaaGreatDoor.bookKeeps
