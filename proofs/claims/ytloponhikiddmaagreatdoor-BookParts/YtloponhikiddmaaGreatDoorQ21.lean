/- For every input BookParts answers true, and its arguments read afterwards as they read before; no condition but those of the row (the listed package variables read as the program's text lays them, which the card ties to the text). -/
import Derived.Test.YtloponhikiddmaaGreatDoorQ20
import Derived.OpenShut
import Derived.Deep.DeepHandedRow
set_option maxHeartbeats 400000
set_option maxRecDepth 100000
namespace Go.Proofs.YtloponhikiddmaaGreatDoor.bookParts
open Go.ChangeShapes Go.WideShapes Go.ChangeAt Go.RowKit Go.Joins Go.Deep
theorem own:ownKnob Tryz.prog.godebug=none:=kR
theorem zNn:laidOutB Tryz.prog=true:=kR
theorem zP7 {W:World} (h:laidMetH Tryz.prog Rows.bookPartsRow.laid W) (d:W.ShapedOpen Tryz.prog):BEnv W:=by
 have c:laidMet Tryz.prog Rows.bookPartsRow.laid W:=h;refine ⟨⟨?_,?_,MaxAt.shaped d,?_⟩,?_,?_⟩
 ·have b:laidMet Tryz.prog (("whittle/tree.operators",Rows.laid_whittle_tree_operators)::_) W:=c.tail.tail.tail.tail.tail.tail;have e:(Rows.laid_whittle_tree_operators:DataW Unit)=.agg (Wt.opsT.map λx=>.agg [.lit (.int .i64 x.1),.lit (.string x.2.1),.lit (.int .i64 x.2.2)]):=kR
  rw [e] at b;exact zPG b
 ·have b:laidMet Tryz.prog (("whittle/value.faultNames",Rows.laid_whittle_value_faultNames)::_) W:=c.tail.tail.tail.tail;have e:(Rows.laid_whittle_value_faultNames:DataW Unit)=.agg (fNames.map λx=>.lit (.string x)):=kR
  rw [e] at b;exact zP3 b
 ·have b:laidMet Tryz.prog (("internal/strconv.uint64pow10",Rows.laid_internal_strconv_uint64pow10)::_) W:=c.tail.tail;have e:(Rows.laid_internal_strconv_uint64pow10:DataW Unit)=Lib.tabData .u64 Lib.pow10Tab:=kR
  rw [e] at b;exact Lib.tabIs_of_head (g:=6) (t:=391) (e:=131) (n:=20) kR kR kR kR kR kR b
 ·have b:laidMet Tryz.prog (("whittle/funcs.names",Rows.laid_whittle_funcs_names)::_) W:=c.tail.tail.tail.tail.tail;have e:(Rows.laid_whittle_funcs_names:DataW Unit)=.agg (fnN.map λx=>.lit (.string x)):=kR
  rw [e] at b;exact zRF b
 ·have b:laidMet Tryz.prog (("math/bits.deBruijn64tab",Rows.laid_math_bits_deBruijn64tab)::_) W:=c.tail;obtain ⟨j,⟨g,t,cs,f,p,q,i,_,a,_,_,_⟩,_⟩:=b;have e:Tryz.prog.globalNamed "math/bits.deBruijn64tab" = some 8:=kR
  obtain rfl:=Option.some.inj (e.symm.trans i);unfold World.var? at a;rw [e] at a;simp only [Option.bind_some] at a;rcases Nat.lt_or_ge 8 W.heap.size with h | h
  ·exact Nat.le_of_lt h
  ·rw [Array.getElem?_eq_none h] at a;cases a
theorem zLt (H:Type) (enc:TypeId × Value->H) (W:World) (base:Nat) (args:Array Value) (u B:List (DataW H)) (before:List MemPlace)
  (c:∀ (j:Nat) t v,Tryz.f4.params[j]? = some t->args[j]? = some v->Value.okWide Tryz.prog W .any base t v)
  (y:DataW.Whole enc Tryz.prog Tryz.f4.params.toList Rows.bookPartsSpec.vars false W args.toList u B before)
  (o:(DataW.weightsEach Tryz.prog (Tryz.f4.params.toList++(OpenSpec.ofChange Rows.bookPartsSpec).bare.plain.varTypes Tryz.prog) (u++B)).all (· <= reachBytes)=true) (f:laidMetH Tryz.prog Rows.bookPartsRow.laid W) (A:W.ShapedOpen Tryz.prog) :
  Calls Tryz.prog 4 args W λe d=>∃ v,e=.returned v/\Rows.bookPartsSpec.post enc Tryz.prog Tryz.f4 false true false false W args v d:=by
 have i:=y;have l:=y.lt;obtain ⟨p,q,g,G,rfl,M,N⟩:=y;have D:DataW.TrodAll enc Tryz.prog W 0 (λ_=>true) true Tryz.f4.params.toList args.toList u p:=g;rw [Tryz.params4] at D c o;obtain ⟨v0,Q,R,E,S,T,z,rfl,rfl,C,r0⟩:=trodAll_cons D;obtain ⟨rfl,rfl,rfl⟩:=trodAll_nil r0;obtain rfl:args=#[v0]:=by cases args;simp_all
 obtain ⟨rfl,rfl⟩:=trodVars_none G;clear g;simp only [List.append_nil] at i l;have w:∀ (d:World),bL W d->∃ v,Ending.returned (Value.bool true)=.returned v/\Rows.bookPartsSpec.post enc Tryz.prog Tryz.f4 false true false false W #[v0] v d:=by
  intro d s;exact ⟨_,rfl,_,_,_,[],_,[],i,(trodAll_cons_mk (shut_bool Tryz.underlying4 _) trodAll_mk0),(trodAll_cons_mk (Below.trod zNn kR (of_decide_eq_true kR) C s (λx P=>l x (by simp [P]))) trodAll_mk0),rfl,s.frame _,λh=>by cases h⟩
 obtain ⟨E_x,av_x,n_x,cap_x,rfl,n,m,r⟩:=zIy (c 0 22 v0 rfl rfl) C;obtain ⟨k,b⟩:=r _ _ 0 o rfl rfl;simp only [reachBytes] at k b;have F:=zP7 f A;refine (zq0 E_x av_x n_x cap_x W F n m (λ_=>by omega) (λL hL=>⟨by have:=(b L hL).1;omega,λa I=>by have:=(b L hL).2 a I;omega⟩)).mono λe d ⟨K,s⟩=>?_
 subst K;exact w d s
noncomputable def zBh (a:Os):World :=
 {World.holding Tryz.prog a ⟨#[],#[],[]⟩ with heap:=(((((((((World.holding Tryz.prog a ⟨#[],#[],[]⟩).heap.modify 0 fun
   | .cells _ t frozen=>.cells #[.string ⟨#[]⟩,.string ⟨#[35,68,73,86,47,48,33]⟩,.string ⟨#[35,86,65,76,85,69,33]⟩,.string ⟨#[35,82,69,70,33]⟩,.string ⟨#[35,78,85,77,33]⟩,.string ⟨#[35,78,47,65]⟩,.string ⟨#[35,67,73,82,67,76,69,33]⟩,.string ⟨#[35,76,79,78,71,33]⟩,.string ⟨#[35,65,82,71,33]⟩] t frozen
   | o=>o).modify 1 fun
   | .cells _ t frozen=>.cells #[.int .i64 21,.string ⟨#[61]⟩,.int .i64 0,.int .i64 22,.string ⟨#[60,62]⟩,.int .i64 0,.int .i64 23,.string ⟨#[60]⟩,.int .i64 0,.int .i64 24,.string ⟨#[60,61]⟩,.int .i64 0,.int .i64 25,.string ⟨#[62]⟩,.int .i64 0,.int .i64 26,.string ⟨#[62,61]⟩,.int .i64 0,.int .i64 16,.string ⟨#[38]⟩,.int .i64 1,.int .i64 11,.string ⟨#[43]⟩,.int .i64 2,.int .i64 12,.string ⟨#[45]⟩,.int .i64 2,.int .i64 13,.string ⟨#[42]⟩,.int .i64 3,.int .i64 14,.string ⟨#[47]⟩,.int .i64 3,.int .i64 15,.string ⟨#[94]⟩,.int .i64 4,.int .i64 1,.string ⟨#[45]⟩,.int .i64 5,.int .i64 2,.string ⟨#[43]⟩,.int .i64 5,.int .i64 3,.string ⟨#[37]⟩,.int .i64 6] t frozen
   | o=>o).modify 2 fun
   | .cells _ t frozen=>.cells #[.string ⟨#[]⟩,.string ⟨#[83,85,77]⟩,.string ⟨#[80,82,79,68,85,67,84]⟩,.string ⟨#[67,79,85,78,84]⟩,.string ⟨#[67,79,85,78,84,65]⟩,.string ⟨#[77,73,78]⟩,.string ⟨#[77,65,88]⟩,.string ⟨#[65,86,69,82,65,71,69]⟩,.string ⟨#[65,78,68]⟩,.string ⟨#[79,82]⟩,.string ⟨#[88,79,82]⟩,.string ⟨#[67,79,78,67,65,84]⟩,.string ⟨#[83,85,77,83,81]⟩,.string ⟨#[71,67,68]⟩,.string ⟨#[70,73,82,83,84]⟩,.string ⟨#[76,65,83,84]⟩,.string ⟨#[]⟩,.string ⟨#[]⟩,.string ⟨#[]⟩,.string ⟨#[]⟩,.string ⟨#[77,65,84,67,72]⟩,.string ⟨#[67,79,85,78,84,73,70]⟩,.string ⟨#[83,85,77,73,70]⟩,.string ⟨#[76,79,79,75,85,80]⟩,.string ⟨#[83,85,77,80,82,79,68,85,67,84]⟩,.string ⟨#[73,78,68,69,88]⟩,.string ⟨#[82,79,87,83]⟩,.string ⟨#[67,79,76,85,77,78,83]⟩,.string ⟨#[]⟩,.string ⟨#[]⟩,.string ⟨#[73,70]⟩,.string ⟨#[73,70,69,82,82,79,82]⟩,.string ⟨#[67,72,79,79,83,69]⟩,.string ⟨#[]⟩,.string ⟨#[]⟩,.string ⟨#[]⟩,.string ⟨#[]⟩,.string ⟨#[]⟩,.string ⟨#[]⟩,.string ⟨#[]⟩,.string ⟨#[65,66,83]⟩,.string ⟨#[83,73,71,78]⟩,.string ⟨#[73,78,84]⟩,.string ⟨#[82,79,85,78,68]⟩,.string ⟨#[77,79,68]⟩,.string ⟨#[81,85,79,84,73,69,78,84]⟩,.string ⟨#[80,79,87,69,82]⟩,.string ⟨#[78,79,84]⟩,.string ⟨#[76,69,78]⟩,.string ⟨#[76,69,70,84]⟩,.string ⟨#[82,73,71,72,84]⟩,.string ⟨#[77,73,68]⟩,.string ⟨#[82,69,80,84]⟩,.string ⟨#[70,73,78,68]⟩,.string ⟨#[85,80,80,69,82]⟩,.string ⟨#[76,79,87,69,82]⟩,.string ⟨#[84,82,73,77]⟩,.string ⟨#[86,65,76,85,69]⟩,.string ⟨#[73,83,78,85,77,66,69,82]⟩,.string ⟨#[73,83,84,69,88,84]⟩,.string ⟨#[73,83,66,76,65,78,75]⟩,.string ⟨#[73,83,69,82,82,79,82]⟩,.string ⟨#[78,65]⟩] t frozen
   | o=>o).modify 4 fun
   | .cells _ t frozen=>.cells (Go.Pinned.utf8FirstZ.map λn:Nat=>Value.int .u8 (n:Int)).toArray t frozen
   | o=>o).modify 5 fun
   | .cells _ t frozen=>.cells #[.int .u8 128,.int .u8 191,.int .u8 160,.int .u8 191,.int .u8 128,.int .u8 159,.int .u8 144,.int .u8 191,.int .u8 128,.int .u8 143,.int .u8 0,.int .u8 0,.int .u8 0,.int .u8 0,.int .u8 0,.int .u8 0,.int .u8 0,.int .u8 0,.int .u8 0,.int .u8 0,.int .u8 0,.int .u8 0,.int .u8 0,.int .u8 0,.int .u8 0,.int .u8 0,.int .u8 0,.int .u8 0,.int .u8 0,.int .u8 0,.int .u8 0,.int .u8 0] t frozen
   | o=>o).modify 6 fun
   | .cells _ t frozen=>.cells #[.int .u64 1,.int .u64 10,.int .u64 100,.int .u64 1000,.int .u64 10000,.int .u64 100000,.int .u64 1000000,.int .u64 10000000,.int .u64 100000000,.int .u64 1000000000,.int .u64 10000000000,.int .u64 100000000000,.int .u64 1000000000000,.int .u64 10000000000000,.int .u64 100000000000000,.int .u64 1000000000000000,.int .u64 10000000000000000,.int .u64 100000000000000000,.int .u64 1000000000000000000,.int .u64 10000000000000000000] t frozen
   | o=>o).modify 7 fun
   | .cells _ t frozen=>.cells #[.int .u8 0,.int .u8 1,.int .u8 28,.int .u8 2,.int .u8 29,.int .u8 14,.int .u8 24,.int .u8 3,.int .u8 30,.int .u8 22,.int .u8 20,.int .u8 15,.int .u8 25,.int .u8 17,.int .u8 4,.int .u8 8,.int .u8 31,.int .u8 27,.int .u8 13,.int .u8 23,.int .u8 21,.int .u8 19,.int .u8 16,.int .u8 7,.int .u8 26,.int .u8 12,.int .u8 18,.int .u8 6,.int .u8 11,.int .u8 5,.int .u8 10,.int .u8 9] t frozen
   | o=>o).modify 8 fun
   | .cells _ t frozen=>.cells #[.int .u8 0,.int .u8 1,.int .u8 56,.int .u8 2,.int .u8 57,.int .u8 49,.int .u8 28,.int .u8 3,.int .u8 61,.int .u8 58,.int .u8 42,.int .u8 50,.int .u8 38,.int .u8 29,.int .u8 17,.int .u8 4,.int .u8 62,.int .u8 47,.int .u8 59,.int .u8 36,.int .u8 45,.int .u8 43,.int .u8 51,.int .u8 22,.int .u8 53,.int .u8 39,.int .u8 33,.int .u8 30,.int .u8 24,.int .u8 18,.int .u8 12,.int .u8 5,.int .u8 63,.int .u8 55,.int .u8 48,.int .u8 27,.int .u8 60,.int .u8 41,.int .u8 37,.int .u8 16,.int .u8 46,.int .u8 35,.int .u8 44,.int .u8 21,.int .u8 52,.int .u8 32,.int .u8 23,.int .u8 11,.int .u8 54,.int .u8 26,.int .u8 40,.int .u8 15,.int .u8 34,.int .u8 20,.int .u8 31,.int .u8 10,.int .u8 25,.int .u8 14,.int .u8 19,.int .u8 9,.int .u8 13,.int .u8 8,.int .u8 7,.int .u8 6] t frozen
   | o=>o)}
theorem zKA (a:Os):laidMet Tryz.prog Rows.bookPartsRow.laid ((zBh a).forCall (λ_ _=>0) ⟨#[],#[.slice none 0 0],[]⟩).memory :=
 laidMet_of_run' 8 kR kR
theorem zRH (b:Os) {H:Type} (enc:TypeId × Value->H):∃ a,DataW.whole enc Tryz.prog ((zBh b).forCall (λ_ _=>0) ⟨#[],#[.slice none 0 0],[]⟩).memory Tryz.f4.params.toList Rows.bookPartsSpec.vars false (#[.slice none 0 0]:Array Value).toList 8=some ([.nil],[],a) :=
 ⟨[],by kernel_rfl⟩
theorem zPg (d:Os) (a:d.Started) (H:Type) (enc:TypeId × Value->H) (F:Stop.Interp) :
  ReturnsInHanded {} Tryz.checked d 4 .any ((OpenSpec.ofChange Rows.bookPartsSpec).preRow enc Tryz.prog Tryz.f4 Rows.bookPartsRow.domain false Rows.bookPartsRow.laid) (((OpenSpec.ofChange Rows.bookPartsSpec).at F).post enc Tryz.prog Tryz.f4 false true false false):=by
 obtain ⟨e,n⟩:=zRH d enc;refine returnsInHanded_of_row (C:=Tryz.checked) (s:=OpenSpec.ofChange Rows.bookPartsSpec) own a kR Tryz.func4
  (witness_row_at (enc:=enc) (C:=Tryz.checked) false (zBh d) #[.slice none 0 0] rfl kR kR kR
   (OpenSpec.preRow_of_cond 8 n kR (λk m=>by cases m) kR (zKA d))) ?_
 intro W base args i j before c l _ _ g b f _;exact zLt H enc W base args i j before c l g b f
theorem said:Rows.BookPartsSaid :=
 OpenClaim.holds_of_cond 4 Tryz.f4 rfl rfl rfl rfl rfl rfl rfl ⟨rfl,rfl,rfl,rfl,rfl⟩ rfl rfl rfl rfl rfl zOp Tryz.func4 zLF zPr zOd
  (λb a H enc _ F=>by rw [OpenClaim.pre_eq_preRow];exact zPg b a H enc F)
theorem plain (f:FuncId) (a:Func) (d:Tryz.pinned.checked.prog.funcNamed "whittle/whittlelaw11.BookParts" = some f) (b:Tryz.pinned.checked.prog.funcs[f]? = some a) :
  true=Tryz.pinned.checked.prog.looks []/\∀ (j:Nat) t,a.params[j]? = some t->Tryz.pinned.checked.prog.wantsStandIn t=false:=by
 obtain rfl:f=4:=Option.some.inj ((show Tryz.prog.funcNamed "whittle/whittlelaw11.BookParts" = some 4 by kernel_rfl).symm.trans d) |>.symm
 obtain rfl:a=Tryz.f4:=(Option.some.inj (Tryz.func4.symm.trans b)).symm;refine ⟨zNT,λj t c=>?_⟩;rw [Tryz.params4] at c;obtain rfl:t=22:=by simpa using Array.mem_of_getElem? c
 exact (show Tryz.prog.wantsStandIn 22=false by kernel_rfl)
theorem card:Rows.BookPartsCardSaid :=
 Claim7.holds_tied_plain_at .later [] _ _ _ _ said (λ_ h=>by cases h) kR (λ_ h=>by cases h) bookParts_row_tie rfl ⟨rfl,rfl⟩ kR rfl plain kR
#print axioms card
end Go.Proofs.YtloponhikiddmaaGreatDoor.bookParts
