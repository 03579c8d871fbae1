/- TCall, LAppend, LKeep, TArgs, TArgB. -/
import Derived.Test.YtlggnpohhahdlaaGreatDoorQ19
import Derived.OwnWalk
import Derived.Laws.AppendOwnNone
import Derived.Laws.OwnMore
import Derived.Maps.AppendAt
import Derived.Laws.Tables
import Derived.WalkMore
import Derived.Deep.LoopGhost
set_option maxHeartbeats 16000000
set_option maxRecDepth 100000
namespace Go.Proofs.YtlggnpohhahdlaaGreatDoor
open Go.RowKit Go.Shelf
set_option linter.unusedVariables false
def Pts (w:World) (lo:Nat) (sl:Value) (c:Nat) (rows:List Wt.Nd):Prop :=
 ∃ (n:Nat) (av:Option Addr) (cap:Nat) (ps:List (Wt.Nd × Value)) (rws:List (List Wt.Nd)),sl=.slice av c cap∧ps.length=c∧rws.length=c∧rows=rws.flatten ∧
  ∀ i (h:i<ps.length) (h':i<rws.length),∃ bb,av=some ⟨bb,0,none⟩∧lo≤bb∧w.rangeAt bb (i * 21) (pt21 (ps[i]).1 (ps[i]).2)∧PtIs w (fun b=>lo≤b) n (ps[i]).1 (ps[i]).2 (rws[i])
theorem Pts.node {w:World} {lo:Nat} {sl:Value} {c:Nat} {rows:List Wt.Nd} (h:Pts w lo sl c rows) (x:Wt.Nd):∃ n,PtIs w (fun b=>lo≤b) n x sl (x::rows):=by
 obtain ⟨n,av,cap,ps,rws,rfl,h1,h2,rfl,h3⟩:=h;exact ⟨n+1,av,cap,ps,rws,by rw [h1],by rw [h1,h2],rfl,h3⟩
abbrev AR:Type:=(Nat × List Wt.Nd × List Wlx.TV) ⊕ (Int × Int)
def APost (kp:Nat) (en:Int) (r:AR) (w:World) (e:Ending) (w':World):Prop:=match r with
 | .inl (c,rows,rest)=>∃ sl,e=.returned sl∧Pts w' w.heap.size sl c rows∧PSt w' kp rest en∧w.grownBy w' (some kp)
 | .inr (c,p)=>e=stop c p∧w.grownBy w' (some kp)
def ArgOk (kp:Nat) (en:Int) (sub:List Wlx.TV→AR) (n:Nat):Prop :=
 ∀ (ts:List Wlx.TV) (w:World),PSt w kp ts en→ts.length≤n→ts.length≤1024→(∀ t ∈ ts,TokOk t)→Env w→Calls Tryz.prog 195 #[.pointer (some ⟨kp,0,none⟩)] w fun e w'=>APost kp en (sub ts) w e w'
def pca (suba:List Wlx.TV→AR) (en:Int) (nm:List UInt8) (ts:List Wlx.TV):PR :=
 if Wt.fnNm ⟨nm.toArray⟩ then (match suba (ts.drop 2) with
  | .inr e=>.inr e
  | .inl (c,rows,r)=>.inl (callN ⟨nm.toArray⟩ c::rows,r))
 else .inr (50,pos ts en)
theorem call_any (kp:Nat) (en:Int) (suba:List Wlx.TV→AR) (n:Nat) (HA:ArgOk kp en suba n) (hk8:8≤kp):CallOk kp en (pca suba en) (n+2):=by
 intro nm ts w h hn hts hok hnm hfo hE;have hB0:=ball (Below.refl _ w) (.cells #[.int .i64 0,.int .i64 0,.int .i64 0,.int .i64 0,.string ⟨#[]⟩,.bool false,.int .i64 0,.int .i64 0,.string ⟨#[]⟩,.int .i64 0,.string ⟨#[]⟩,.int .i64 0,.int .i64 0,.bool false,.bool false,.string ⟨#[]⟩,.int .i64 0,.int .i64 0,.bool false,.bool false,.slice none 0 0] 56);have pZ:AtL (w.alloc (.cells #[.int .i64 0,.int .i64 0,.int .i64 0,.int .i64 0,.string ⟨#[]⟩,.bool false,.int .i64 0,.int .i64 0,.string ⟨#[]⟩,.int .i64 0,.string ⟨#[]⟩,.int .i64 0,.int .i64 0,.bool false,.bool false,.string ⟨#[]⟩,.int .i64 0,.int .i64 0,.bool false,.bool false,.slice none 0 0] 56)) w.heap.size (pt21 (bare 0) (.slice none 0 0)):=AtL.new0 w _ _;have h0:=h.below hB0;have hE0:=hE.below hB0;have hkp:=h.lt;obtain ⟨a,b,r,hr⟩:=fol_cons hfo;have hlen:nm.length≤1024:=by rw [←hnm];exact (tokOk_hd en hok).1
 have FN:=fun w=>tfn_any ⟨nm.toArray⟩ w (by show nm.length≤_;omega)
 have M0:=fun w h=>must_false kp ts en w h
 unfold pca;clear hnm hfo;cases hq:Wt.fnNm ⟨nm.toArray⟩ with
 | false =>
  rw [hq] at FN;rw [if_neg (by decide)];simp only [PPost];unfold stop at M0 ⊢;clear hr;go_enter Tryz.func185,Tryz.ntmps185;go_wp2_with fail
  generalize w.alloc (.cells #[.int .i64 0,.int .i64 0,.int .i64 0,.int .i64 0,.string ⟨#[]⟩,.bool false,.int .i64 0,.int .i64 0,.string ⟨#[]⟩,.int .i64 0,.string ⟨#[]⟩,.int .i64 0,.int .i64 0,.bool false,.bool false,.string ⟨#[]⟩,.int .i64 0,.int .i64 0,.bool false,.bool false,.slice none 0 0] 56)=wa at *;refine (FN _).mono ?_;rintro e wb ⟨rfl,rfl⟩;go_wp2_with fail
  refine (M0 _ h0).mono ?_;rintro e w5 ⟨rfl,hb⟩;go_wp2;exact ⟨rfl,rfl,grown_trans (below_grown hB0 (some kp)) (below_grown hb (some kp))⟩
 | true =>
  rw [hq] at FN;rw [if_pos rfl];subst hr;simp only [List.drop_succ_cons,List.drop_zero];cases hs:suba r with
  | inr q =>
   obtain ⟨c,p⟩:=q;simp only [PPost];go_enter Tryz.func185,Tryz.ntmps185;go_wp2_with fail
   generalize w.alloc (.cells #[.int .i64 0,.int .i64 0,.int .i64 0,.int .i64 0,.string ⟨#[]⟩,.bool false,.int .i64 0,.int .i64 0,.string ⟨#[]⟩,.int .i64 0,.string ⟨#[]⟩,.int .i64 0,.int .i64 0,.bool false,.bool false,.string ⟨#[]⟩,.int .i64 0,.int .i64 0,.bool false,.bool false,.slice none 0 0] 56)=wa at *;refine (FN _).mono ?_;rintro e wb ⟨rfl,rfl⟩;go_wp2_with fail
   refine (must_true kp _).mono ?_;rintro e w4 ⟨rfl,rfl⟩;have P:=pass_any 2 kp [a,b] r en _ h0 rfl (by decide) hts;go_wp2_with fail
   refine P.mono ?_;rintro e w1 ⟨rfl,h1,hg1⟩;have hz:=pZ.lt;have pZ1:=pZ.grown hg1 (by intro e;have:=Option.some.inj e;omega);have hG1:=grown_trans (below_grown hB0 (some kp)) hg1;have hE1:=hE0.grown hg1 hk8;have hs1:=hg1.size;clear pZ h0 hB0 hE0 P hg1;go_wp2_with fail
   refine (HA r _ h1 (by simp at hn;omega) (by simp at hts;omega) (fun t ht=>hok t (by simp [ht])) hE1).mono ?_;rintro e w2 hc;rw [hs] at hc;simp only [APost] at hc;obtain ⟨rfl,hg⟩:=hc;unfold stop;go_wp2;exact ⟨rfl,rfl,grown_trans hG1 hg⟩
  | inl q =>
   obtain ⟨c,rows,r2⟩:=q;simp only [PPost];go_enter Tryz.func185,Tryz.ntmps185;go_wp2_with fail
   generalize w.alloc (.cells #[.int .i64 0,.int .i64 0,.int .i64 0,.int .i64 0,.string ⟨#[]⟩,.bool false,.int .i64 0,.int .i64 0,.string ⟨#[]⟩,.int .i64 0,.string ⟨#[]⟩,.int .i64 0,.int .i64 0,.bool false,.bool false,.string ⟨#[]⟩,.int .i64 0,.int .i64 0,.bool false,.bool false,.slice none 0 0] 56)=wa at *;refine (FN _).mono ?_;rintro e wb ⟨rfl,rfl⟩;go_wp2_with fail
   refine (must_true kp _).mono ?_;rintro e w4 ⟨rfl,rfl⟩;have P:=pass_any 2 kp [a,b] r en _ h0 rfl (by decide) hts;go_wp2_with fail
   refine P.mono ?_;rintro e w1 ⟨rfl,h1,hg1⟩;have hz:=pZ.lt;have pZ1:=pZ.grown hg1 (by intro e;have:=Option.some.inj e;omega);have hG1:=grown_trans (below_grown hB0 (some kp)) hg1;have hE1:=hE0.grown hg1 hk8;have hs1:=hg1.size;clear pZ h0 hB0 hE0 P hg1;go_wp2_with fail
   refine (HA r _ h1 (by simp at hn;omega) (by simp at hts;omega) (fun t ht=>hok t (by simp [ht])) hE1).mono ?_;rintro e w2 hc;rw [hs] at hc;simp only [APost] at hc;obtain ⟨sl,rfl,hP,h2,hg⟩:=hc;obtain ⟨nn,hp⟩:=hP.node (callN ⟨nm.toArray⟩ c);obtain ⟨_,av,cap,_,_,rfl,_⟩:=hP;have hz1:=pZ1.lt;have pZ2:=pZ1.grown hg (by intro e;have:=Option.some.inj e;omega);have hG2:=grown_trans hG1 hg;have hth:World.there w2 w.heap.size 0 (pt21 (callN ⟨nm.toArray⟩ c) (.slice av c cap)).toArray.size:=pZ2.there;clear pZ1 hG1 hE1 h1 hg;go_wp2_with ((with_reducible refine wpList_store_mid ?_ 56 (.tmp 4) (.tmp 19) ?_ (w.heap.size) 0 (pt21 (callN ⟨nm.toArray⟩ c) (.slice av c cap)).toArray ?_ ?_ ?_ ?_ ?_ ?_);rfl;rfl;rfl;rfl;exact hth;kernel_rfl;exact one21 _ _ rfl)
   have pZ9:AtL (w2.setCells w.heap.size 0 (pt21 (callN ⟨nm.toArray⟩ c) (.slice av c cap))) w.heap.size (pt21 (callN ⟨nm.toArray⟩ c) (.slice av c cap)):=pZ2.setAll rfl;refine bodyPost_ret (results_cell rfl _ _ w.heap.size (pt21 (callN ⟨nm.toArray⟩ c) (.slice av c cap)) _ rfl pZ9.range Tryz.underlying56 rfl (by kernel_rfl)) rfl ?_;exact ⟨_,rfl,(Pt.far (show Pt w2 _ (ptV (callN ⟨nm.toArray⟩ c) (.slice av c cap)) _ from ⟨nn,_,_,rfl,hp⟩) (by omega) 0 _).mono (by omega),h2.farAll hkp _ 0,grown_setAll hG2 (Nat.le_refl _) _ 0⟩
open Go.RowKit
def tv3 (t:Wlx.TV):List Value:=[.int .i64 t.k,.string ⟨t.t.toArray⟩,.int .i64 t.p]
def rowV (ts:List Wlx.TV):List Value:=ts.flatMap tv3
theorem rowV_app (a b:List Wlx.TV):rowV (a++b)=rowV a++rowV b:=by simp [rowV]
theorem rowV_length (ts:List Wlx.TV):(rowV ts).length=ts.length * 3:=by
 induction ts with
 | nil=>rfl
 | cons t r ih =>
  show (tv3 t++rowV r).length=_
  rw [List.length_append,ih,List.length_cons];show 3+_=_
  omega
theorem rowV_get:∀ (ts:List Wlx.TV) (i:Nat) (h:i<ts.length),(rowV ts)[i * 3]? = some (.int .i64 (ts[i]).k)∧(rowV ts)[i * 3+1]? = some (.string ⟨(ts[i]).t.toArray⟩)∧(rowV ts)[i * 3+2]? = some (.int .i64 (ts[i]).p)
 | [],i,h=>by simp at h
 | t::r,0,_=>⟨rfl,rfl,rfl⟩
 | t::r,i+1,h=>by
  obtain ⟨h0,h1,h2⟩:=rowV_get r i (by simpa using h);have e:∀ j,(rowV (t::r))[j+3]? = (rowV r)[j]?:=fun j=>rfl
  rw [show (i+1) * 3=i * 3+3 by omega,show i * 3+3+1=i * 3+1+3 by omega,show i * 3+3+2=i * 3+2+3 by omega,e,e,e];exact ⟨h0,h1,h2⟩
theorem rowV_tv (ts:List Wlx.Tok):rowV (ts.map Wlx.tv)=rowT ts:=by
 induction ts with
 | nil=>rfl
 | cons t r ih =>
  show tv3 (Wlx.tv t)++rowV (r.map Wlx.tv)=tok3 t++rowT r
  rw [ih];rfl
theorem run_append_keep {P:Program} (w:World) (base:Nat) (t ty e:TypeId) (i:TypeInfo) (z:Value) (size bytes:Nat) (ht:P.underlying t=some (.slice e)) (hi:P.info? e=some i) (hz:i.zero=some z)
  (hsize:i.size=size) (hby:i.bytes=bytes) (hzs:z.cells.size=size) (hsz:0<size)
  (v:Value) (n:Nat) (xs:List Value) (hown:w.ownsRow base e size v n xs)
  (a:Addr) (m c:Nat) (news:List Value) (hl:news.length=m * size) (hnews:∀ j u,news[j]? = some u→w.cell? (a.add j)=some u) (h1:∀ u ∈ news,u.oneCell'=true)
  (h63:n+m≤maxLen) (hbytes:(n+m) * bytes≤140737488355328) (hbase:base≤w.heap.size) :
  ∃ v' w',(Builtin.append_ #[t,t] ty #[v,.slice (some a) m c]).run P w=.ok v' w'∧w'.ownsRow base e size v' (n+m) (xs++news)∧w.grownBy w' v.ownBlock ∧
   (v'.ownBlock=v.ownBlock ∨ v'.ownBlock=some w.heap.size)∧(∀ g j,v.ownBlock=some g→j<n * size→w'.cell? ⟨g,j,none⟩=w.cell? ⟨g,j,none⟩):=by
 obtain ⟨v',w',hr,h2,h3,_,h5⟩:=run_append_own_at (P:=P) w base t ty e i z size bytes ht hi hz hsize hby hzs hsz v n xs hown a m c news hl hnews h1 h63 hbytes hbase;refine ⟨v',w',hr,h2,h3,h5,?_⟩;intro g j hg hj;subst hsize hby;have hsmall:n+m≤9223372036854775807:=by simp only [maxLen] at h63;omega
 rcases hown.2 with ⟨rfl,rfl⟩ | ⟨g',cap,cur,rfl,hbg,hgg,hnc,hcm,hcs,htake⟩
 ·simp [Value.ownBlock] at hg
 ·obtain rfl:g'=g:=by simpa [Value.ownBlock] using hg
  have hjc:j<cur.size:=by
   rw [hcs];exact Nat.lt_of_lt_of_le hj (Nat.mul_le_mul_right _ hnc)
  by_cases hroom:n+m≤cap
  ·have hfit:n * i.size+news.length≤cur.size:=by rw [hl,hcs,←Nat.add_mul];exact Nat.mul_le_mul_right _ hroom
   have hr2:=run_append_room (P:=P) w t ty e i ht hi g' n cap cur hgg a m c news hl hnews h1 hroom hfit;rw [hr2] at hr;simp only [Result.ok.injEq] at hr;obtain ⟨_,rfl⟩:=hr;rw [cell_of_row _ g' j _ e (0,0) (setRow_heap w g' cur _ e _ hgg),cell_of_row w g' j cur e (0,0) hgg];simp only [List.getElem?_toArray];rw [List.append_assoc,List.getElem?_append_left (by rw [List.length_take,Array.length_toList];omega),List.getElem?_take,if_pos hj];simp
  ·have holds:∀ j u,xs[j]? = some u→w.cell? ((⟨g',0,none⟩:Addr).add j)=some u:=hown.cells (g:=g') rfl;have hr2:=run_append_grow (P:=P) w t ty e i z ht hi hz ⟨g',0,none⟩ n cap xs hown.1 holds a m c news hl hnews (by omega) (by omega) (growslice_fits (by omega) hbytes);rw [hr2] at hr;simp only [Result.ok.injEq] at hr;obtain ⟨_,rfl⟩:=hr;have hlt:g' < w.heap.size:=(Array.getElem?_eq_some_iff.1 hgg).1;exact World.cell?_of_block (heap_alloc_old w.drew _ hlt)
theorem wpList_append_keep {P:Program} (w:World) {ops:Array Oper} {rest:List Oper} {o:Oper} {a:Act} {Q:Exit→Act→World→Prop} (hgd:o.guard=none) (s x:Operand) (t:TypeId)
  (ho:o.op=.call {callee:=.builtin .append,args:=#[s,x],argTypes:=#[t,t]})
  (base:Nat) (e:TypeId) (i:TypeInfo) (z:Value) (size bytes:Nat) (ht:P.underlying t=some (.slice e)) (hi:P.info? e=some i) (hz:i.zero=some z)
  (hsize:i.size=size) (hby:i.bytes=bytes) (hzs:z.cells.size=size) (hsz:0<size)
  (v:Value) (n:Nat) (xs:List Value) (hs:a.eval s=v) (hown:w.ownsRow base e size v n xs)
  (ad:Addr) (m c:Nat) (news:List Value) (hx:a.eval x=.slice (some ad) m c) (hl:news.length=m * size) (hnews:∀ j u,news[j]? = some u→w.cell? (ad.add j)=some u) (h1:∀ u ∈ news,u.oneCell'=true)
  (h63:n+m≤maxLen) (hbytes:(n+m) * bytes≤140737488355328) (hbase:base≤w.heap.size)
  (h:∀ v' w',w'.ownsRow base e size v' (n+m) (xs++news)→w.grownBy w' v.ownBlock→(v'.ownBlock=v.ownBlock ∨ v'.ownBlock=some w.heap.size)→(∀ g j,v.ownBlock=some g→j<n * size→w'.cell? ⟨g,j,none⟩=w.cell? ⟨g,j,none⟩)→wpList P ops Q rest (a.put o.dst v') w'):wpList P ops Q (o::rest) a w:=by
 refine wpList_plain hgd fun K hK=>?_
 obtain ⟨v',w',hr,h2,h3,h4,h5⟩:=run_append_keep (P:=P) w base t o.type e i z size bytes ht hi hz hsize hby hzs hsz v n xs hown ad m c news hl hnews h1 h63 hbytes hbase;unfold Oper.wp execOp;simp only [ho,resolve,invoke,builtin,Sem.run_bind,Sem.run_pure,Result.andThen_ok,List.map_toArray,List.map_cons,List.map_nil,hs,hx,hr];exact hK _ _ (h v' w' h2 h3 h4 h5)
abbrev OwnV (w:World) (base:Nat) (v:Value) (ts:List Wlx.TV):Prop:=w.ownsRow base 79 3 v ts.length (rowV ts)
theorem OwnV.of {w:World} {B:Nat} {v:Value} {ts:List Wlx.Tok} (h:OwnT w B v ts):OwnV w B v (ts.map Wlx.tv):=by
 show w.ownsRow B _ 3 v (ts.map Wlx.tv).length (rowV (ts.map Wlx.tv))
 rw [List.length_map,rowV_tv];exact h
theorem OwnV.form {w:World} {B:Nat} {v:Value} {ts:List Wlx.TV} (h:OwnV w B v ts):∃ a c,v=.slice a ts.length c∧(0<ts.length→∃ g,a=some ⟨g,0,none⟩∧B≤g∧g<w.heap.size):=by
 rcases h.2 with ⟨e,h0⟩ | ⟨g,cap,cur,e,hg,hc,_⟩
 ·exact ⟨none,0,by rw [e,h0],fun h=>by omega⟩
 ·exact ⟨some ⟨g,0,none⟩,cap,e,fun _=>⟨g,rfl,hg,(Array.getElem?_eq_some_iff.1 hc).1⟩⟩
theorem OwnV.below {B:Nat} {v:Value} {ts:List Wlx.TV} {w w':World} (h:OwnV w B v ts) (hb:Below w.heap.size w w'):OwnV w' B v ts :=
 h.kept (row:=none) ⟨hb.os,hb.tape,hb.output,hb.size,fun k hk _=>hb.block k hk⟩ (by cases v.ownBlock <;> simp)
def RdV (w:World) (a:Option Addr) (ts:List Wlx.TV):Prop :=
 ∀ i (h:i<ts.length),∃ g,a=some ⟨g,0,none⟩∧g<w.heap.size∧w.cell? ⟨g,i * 3,none⟩=some (.int .i64 (ts[i]).k)∧w.cell? ⟨g,i * 3+1,none⟩=some (.string ⟨(ts[i]).t.toArray⟩)∧w.cell? ⟨g,i * 3+2,none⟩=some (.int .i64 (ts[i]).p)
theorem RdV.own {w:World} {B n c:Nat} {a:Option Addr} {ts:List Wlx.TV} (h:OwnV w B (.slice a n c) ts):RdV w a ts:=by
 intro i hi;rcases h.2 with ⟨_,h0⟩ | ⟨g,cap,cur,e,hg,hc,_⟩
 ·omega
 ·simp only [Value.slice.injEq] at e;obtain ⟨rfl,rfl,rfl⟩:=e;obtain ⟨r0,r1,r2⟩:=rowV_get ts i hi;refine ⟨g,rfl,(Array.getElem?_eq_some_iff.1 hc).1,?_,?_,?_⟩
  ·rw [World.ownsRow.cellAt h _ (by omega),r0]
  ·rw [World.ownsRow.cellAt h _ (by omega),r1]
  ·rw [World.ownsRow.cellAt h _ (by omega),r2]
theorem RdV.grown {w w':World} {row:Option Nat} {a:Option Addr} {ts:List Wlx.TV} (h:RdV w a ts) (hg:w.grownBy w' row) (hk:0<ts.length→∀ g,a=some ⟨g,0,none⟩→some g ≠ row ∨ ∀ j,j<ts.length * 3→w'.cell? ⟨g,j,none⟩=w.cell? ⟨g,j,none⟩):RdV w' a ts:=by
 intro i hi;obtain ⟨g,e,hlt,c0,c1,c2⟩:=h i hi;have hs:=hg.size;refine ⟨g,e,by omega,?_,?_,?_⟩;all_goals
  rcases hk (by omega) g e with hn | hn
  ·rw [World.cell?_of_block (hg.block g hlt hn)];assumption
  ·rw [hn _ (by omega)];assumption
theorem RdV.alloc {w:World} {a:Option Addr} {ts:List Wlx.TV} (h:RdV w a ts) (o:Obj):RdV (w.alloc o) a ts:=by
 intro i hi;obtain ⟨g,e,hlt,c0,c1,c2⟩:=h i hi;refine ⟨g,e,by simp;omega,?_,?_,?_⟩
 ·rw [World.cell?_alloc_past _ _ _ hlt];exact c0
 ·rw [World.cell?_alloc_past _ _ _ hlt];exact c1
 ·rw [World.cell?_alloc_past _ _ _ hlt];exact c2
theorem set_mid (A:List Value) (x y z:Value) (r:List Value) (a b c:Value):(((A++x::y::z::r).set A.length a).set (A.length+1) b).set (A.length+2) c=A++a::b::c::r:=by
 induction A with
 | nil=>rfl
 | cons h t ih=>simp only [List.cons_append,List.length_cons,List.set_cons_succ,ih]
theorem rowV_put (a:List Wlx.TV) (t x:Wlx.TV) (r:List Wlx.TV) (k:Nat) (hk:k=a.length * 3):(((rowV (a++t::r)).set k (.int .i64 x.k)).set (k+1) (.string ⟨x.t.toArray⟩)).set (k+2) (.int .i64 x.p)=rowV (a++[x]++r):=by
 subst hk;rw [←rowV_length,rowV_app];show (((rowV a++(.int .i64 t.k :: .string ⟨t.t.toArray⟩ :: .int .i64 t.p::rowV r)).set _ _).set _ _).set _ _=_
 rw [set_mid,rowV_app,rowV_app,List.append_assoc];rfl
theorem OwnV.put {w:World} {B g n cap:Nat} {a:List Wlx.TV} {t:Wlx.TV} {r:List Wlx.TV} (h:OwnV w B (.slice (some ⟨g,0,none⟩) n cap) (a++t::r)) (x:Wlx.TV) (k:Nat) (hk:k=a.length * 3) (hn:n=(a++t::r).length) :
  OwnV (((w.setCell ⟨g,k,none⟩ (.int .i64 x.k)).setCell ⟨g,k+1,none⟩ (.string ⟨x.t.toArray⟩)).setCell ⟨g,k+2,none⟩ (.int .i64 x.p)) B (.slice (some ⟨g,0,none⟩) n cap) (a++[x]++r):=by
 subst hn;have h3:=(((World.ownsRow.stored h k (.int .i64 x.k)).1.stored (k+1) (.string ⟨x.t.toArray⟩)).1.stored (k+2) (.int .i64 x.p)).1;rw [rowV_put a t x r k hk] at h3;show World.ownsRow _ B _ 3 _ (a++[x]++r).length (rowV (a++[x]++r))
 have hl:(a++[x]++r).length=(a++t::r).length:=by simp
 rw [hl];exact h3
theorem OwnV.far {w:World} {B n c:Nat} {a:Option Addr} {ts:List Wlx.TV} (h:OwnV w B (.slice a n c) ts) {g:Nat} (hg:∀ g',a=some ⟨g',0,none⟩→g' ≠ g) (k:Nat) (u:Value):OwnV (w.setCell ⟨g,k,none⟩ u) B (.slice a n c) ts:=by
 obtain ⟨h1,h2⟩:=h;refine ⟨h1,?_⟩;rcases h2 with h2 | ⟨g',cap,cur,hv,hb,hh,r⟩
 ·exact Or.inl h2
 ·have e:=hv;simp only [Value.slice.injEq] at e;exact Or.inr ⟨g',cap,cur,hv,hb,by rw [Below.heap_setCell _ _ _ _ (hg g' e.1)];exact hh,r⟩
theorem PSt.row {w w':World} {kp:Nat} {ts:List Wlx.TV} {en:Int} {row:Option Nat} (h:PSt w kp ts en) (hg:w.grownBy w' row) (hr:∀ b,row=some b→kp<b):PSt w' kp ts en:=by
 obtain ⟨av,cap,h1,h2,h3⟩:=h;have hn:∀ b,b≤kp→some b ≠ row:=fun b hb e=>by have:=hr b e.symm;omega
 refine ⟨av,cap,h1,h2.grown hg (hn kp (Nat.le_refl _)),fun i hi=>?_⟩;obtain ⟨bb,off,e,hb,c0,c1,c2⟩:=h3 i hi;exact ⟨bb,off,e,hb,hg.cell c0 (hn _ (by simp only;omega)),hg.cell c1 (hn _ (by simp only;omega)),hg.cell c2 (hn _ (by simp only;omega))⟩
theorem grown_any {w w':World} (h:w.grownBy w' none) (row:Option Nat):w.grownBy w' row:=⟨h.os,h.tape,h.output,h.size,fun k hk _=>h.block k hk (by simp)⟩
theorem Env.row {w w':World} {row:Option Nat} (h:Env w) (hg:w.grownBy w' row) (hr:∀ b,row=some b→8≤b):Env w':=by
 cases row with
 | none=>exact h.grown (grown_any hg (some 8)) (Nat.le_refl _)
 | some b=>exact h.grown hg (hr b rfl)
theorem grown_mix {w W W':World} {kp:Nat} {row:Option Nat} (h:w.grownBy W (some kp)) (hg:W.grownBy W' row) (hr:∀ b,row=some b→w.heap.size≤b):w.grownBy W' (some kp) :=
 ⟨hg.os.trans h.os,hg.tape.trans h.tape,hg.output.trans h.output,Nat.le_trans h.size hg.size,fun k hk hn=>(hg.block k (Nat.lt_of_lt_of_le hk h.size) (fun e=>by have:=hr k e.symm;omega)).trans (h.block k hk hn)⟩
def ptRow (ps:List (Wt.Nd × Value)):List Value:=ps.flatMap fun p=>pt21 p.1 p.2
theorem ptRow_app (a b:List (Wt.Nd × Value)):ptRow (a++b)=ptRow a++ptRow b:=by simp [ptRow]
theorem ptRow_one (x:Wt.Nd) (sl:Value):ptRow [(x,sl)]=pt21 x sl:=by simp [ptRow]
theorem ptRow_get:∀ (ps:List (Wt.Nd × Value)) (i:Nat) (h:i<ps.length) (j:Nat),j<21→(ptRow ps)[i * 21+j]? = (pt21 (ps[i]).1 (ps[i]).2)[j]?
 | [],i,h,_,_=>by simp at h
 | p::r,0,_,j,hj=>by
  show (pt21 p.1 p.2++ptRow r)[0 * 21+j]? = _
  rw [Nat.zero_mul,Nat.zero_add,List.getElem?_append_left (by show j<21;exact hj)];rfl
 | p::r,i+1,h,j,hj=>by
  show (pt21 p.1 p.2++ptRow r)[(i+1) * 21+j]? = _
  rw [List.getElem?_append_right (by show 21≤_;omega)];rw [show (i+1) * 21+j - (pt21 p.1 p.2).length=i * 21+j by show _ - 21=_;omega];exact ptRow_get r i (by simpa using h) j hj
theorem own_parts {w:World} {base g n cap:Nat} {ps:List (Wt.Nd × Value)} (h:w.ownsRow base 56 21 (.slice (some ⟨g,0,none⟩) n cap) n (ptRow ps)) (hn:n=ps.length) (i:Nat) (hi:i<ps.length):w.rangeAt g (i * 21) (pt21 (ps[i]).1 (ps[i]).2):=by
 intro j v hv;have hj:j<21:=(List.getElem?_eq_some_iff.1 hv).1;rw [World.ownsRow.cellAt h (i * 21+j) (by omega),ptRow_get ps i hi j hj];exact hv
theorem argl_fuel {sub:List Wlx.TV→PR} (hsub:∀ ts row r,sub ts=.inl (row,r)→r <:+ ts) (en:Int):∀ (n m c:Nat) (rows:List Wt.Nd) (ts:List Wlx.TV),ts.length<n→ts.length<m→argl sub en n c rows ts=argl sub en m c rows ts:=by
 intro n;induction n with
 | zero=>intro m c rows ts h1;omega
 | succ n ih =>
  intro m c rows ts h1 h2;cases m with
  | zero=>omega
  | succ m =>
   simp only [argl];cases h:tk ts [41] with
   | some r=>rfl
   | none =>
    simp only;split
    ·rfl
    ·cases h2':tk ts [44] with
     | none=>rfl
     | some r =>
      simp only;have hl:=(tk_suf h2').2;cases hs:sub r with
      | inr e=>rfl
      | inl q =>
       obtain ⟨row,r2⟩:=q;simp only;have:=(hsub _ _ _ hs).length_le;exact ih m _ _ _ (by omega) (by omega)
theorem partInfo:(Tryz.prog.info? 56).map (fun i=>(i.zero,i.size,i.bytes))=some (some (.agg #[.int .i64 0,.int .i64 0,.int .i64 0,.int .i64 0,.string ⟨#[]⟩,.bool false,.int .i64 0,.int .i64 0,.string ⟨#[]⟩,.int .i64 0,.string ⟨#[]⟩,.int .i64 0,.int .i64 0,.bool false,.bool false,.string ⟨#[]⟩,.int .i64 0,.int .i64 0,.bool false,.bool false,.slice none 0 0]),21,200):=by kernel_rfl
def paa (sub:List Wlx.TV→PR) (en:Int) (ts:List Wlx.TV):AR:=match tk ts [41] with
 | some r=>.inl (0,[],r)
 | none=>match sub ts with
  | .inr e=>.inr e
  | .inl (row,r)=>argl sub en (r.length+1) 1 row r
theorem pt_new (w:World) (x:Wt.Nd) (sl:Value) (j:Nat) (u:Value) (hu:(pt21 x sl)[j]? = some u):(w.alloc (.cells (pt21 x sl).toArray 56)).cell? ((⟨w.heap.size,0,none⟩:Addr).add j)=some u:=by
 have hadd:(⟨w.heap.size,0,none⟩:Addr).add j=⟨w.heap.size,0+j,none⟩:=by unfold Addr.add;split <;> simp_all
 rw [hadd];exact (AtL.new0 w 56 (pt21 x sl)).range j u hu
theorem pt_one (x:Wt.Nd) (sl:Value) (h:sl.oneCell'=true) (u:Value) (hu:u ∈ pt21 x sl):u.oneCell'=true:=by
 have:=one21 x sl h;simp only [List.all_toArray,List.all_eq_true] at this;exact this u hu
theorem own_form {w:World} {base n m:Nat} {v:Value} {xs:List Value} (h:w.ownsRow base 56 21 v (n+1) xs):∃ g cap,v=.slice (some ⟨g,0,none⟩) (n+1) cap∧base≤g∧g<w.heap.size:=by
 rcases h.2 with ⟨_,h0⟩ | ⟨g,cap,cur,e,hg,hc,_⟩
 ·omega
 ·exact ⟨g,cap,e,hg,(Array.getElem?_eq_some_iff.1 hc).1⟩
theorem arguments_any (kp:Nat) (en:Int) (sub:List Wlx.TV→PR) (n:Nat) (HF:FormOk kp en sub n) (hsub:∀ ts row r,sub ts=.inl (row,r)→r <:+ ts) (hk8:8≤kp):ArgOk kp en (paa sub en) n:=by
 intro ts w h hn hts hok hE;have hkp:=h.lt;have T1:=take_any kp ts en [41] w h hts;unfold paa;cases ht:tk ts [41] with
 | some r =>
  rw [ht] at T1;simp only [APost] at T1 ⊢;go_enter Tryz.func195,Tryz.ntmps195;go_wp2_with fail
  refine T1.mono ?_;rintro e w1 ⟨rfl,h1,hg1⟩;go_wp2;go_ret;exact ⟨_,rfl,⟨0,none,0,[],[],rfl,rfl,rfl,rfl,fun i h=>absurd h (Nat.not_lt_zero _)⟩,h1,hg1⟩
 | none =>
  rw [ht] at T1;simp only at T1 ⊢;cases hs:sub ts with
  | inr q =>
   obtain ⟨c,p⟩:=q;simp only [APost];go_enter Tryz.func195,Tryz.ntmps195;go_wp2_with fail
   refine T1.mono ?_;rintro e w1 ⟨rfl,h1,hg1⟩;go_wp2_with fail
   refine (HF ts w1 h1 hn hts hok (hE.grown hg1 hk8)).mono ?_;rintro e w2 hc;rw [hs] at hc;simp only [PPost] at hc;obtain ⟨rfl,hg⟩:=hc;unfold stop;go_wp2;exact ⟨rfl,rfl,grown_trans hg1 hg⟩
  | inl q =>
   obtain ⟨row,r1⟩:=q;have hsuf:=hsub _ _ _ hs;have hl1:=hsuf.length_le;simp only;obtain ⟨R,hR⟩:∃ R,argl sub en (r1.length+1) 1 row r1=R:=⟨_,rfl⟩
   rw [hR];obtain ⟨i0,hi,hz0,hz1,hz2⟩:=info_parts partInfo;go_enter Tryz.func195,Tryz.ntmps195;go_wp2_with fail
   refine T1.mono ?_;rintro e w1 ⟨rfl,h1,hg1⟩;go_wp2_with fail
   refine (HF ts w1 h1 hn hts hok (hE.grown hg1 hk8)).mono ?_;rintro e w2 hc;rw [hs] at hc;simp only [PPost] at hc;obtain ⟨v,rfl,hP,h2,hg2⟩:=hc;have hE2:=(hE.grown hg1 hk8).grown hg2 hk8;have hG2:=grown_trans hg1 hg2;have hs1:=hg1.size;have hs2:=hg2.size;obtain ⟨nn,x,sl,rfl,hp⟩:=hP;obtain ⟨av,len,cap,rfl⟩:=hp.one;clear T1 h1 hg1 hg2 hE;unfold ptV;go_wp2_with ((with_reducible refine wpList_bs1 ?_ (.tmp 7) ?_ x av len cap ?_ ?_);rfl;rfl;rfl)
   have hb3:=ball (Below.refl _ w2) (.cells (pt21 x (.slice av len cap)).toArray 56);have O3:Hid ((w2.alloc (.cells (pt21 x (.slice av len cap)).toArray 56)).ownsRow w.heap.size 56 21 (.slice (some ⟨w2.heap.size,0,none⟩) 1 1) 1 (ptRow [(x,.slice av len cap)])):=by
    have:=World.ownsRow_lit (base:=w.heap.size) (e:=56) (size:=21) w2 (pt21 x (.slice av len cap)).toArray 1 (by omega) (by decide) rfl;rw [ptRow_one];exact this
   have P3:Hid (∀ i (h:i < [(x,Value.slice av len cap)].length) (h':i < [row].length),PtIs (w2.alloc (.cells (pt21 x (.slice av len cap)).toArray 56)) (fun b=>w.heap.size≤b∧b ≠ w2.heap.size) nn ([(x,Value.slice av len cap)][i]).1 ([(x,Value.slice av len cap)][i]).2 ([row][i])):=by
    intro i h h';obtain rfl:i=0:=by simp at h;exact h
    exact PtIs.keep (fun k _ h2=>hb3.block k h2) nn (PtIs.inside (fun b hb hl=>⟨by have hb':w1.heap.size≤b:=hb;omega,by omega⟩) nn hp)
   have h3:=h2.below hb3;have hE3:=hE2.below hb3;have hG3:Hid (w.grownBy (w2.alloc (.cells (pt21 x (.slice av len cap)).toArray 56)) (some kp)):=grown_trans hG2 (below_grown hb3 (some kp));have hg3:kp<w2.heap.size:=h2.lt;have R3:Hid (R=argl sub en (r1.length+1) 1 [row].flatten r1):=by show _=_;rw [←hR];simp
   have hw3:w.heap.size≤w2.heap.size:=by omega
   clear h2 hE2 hG2 hb3 hp hR;go_wp2_with fail
   go_loopg [3] (r1.length) (fun gk a wr=>∃ (g c cap nn:Nat) (ps:List (Wt.Nd × Value)) (rws:List (List Wt.Nd)) (us:List Wlx.TV),a=.slice (some ⟨g,0,none⟩) c cap∧gk=us.length∧ps.length=c∧rws.length=c∧1≤c∧c≤30∧us.length≤r1.length∧kp<g∧w.heap.size≤g∧Hid (us <:+ r1)∧Hid (R=argl sub en (us.length+1) c rws.flatten us)∧Hid (wr.ownsRow w.heap.size 56 21 (.slice (some ⟨g,0,none⟩) c cap) c (ptRow ps))∧Hid (∀ i (h:i<ps.length) (h':i<rws.length),PtIs wr (fun b=>w.heap.size≤b∧b ≠ g) nn (ps[i]).1 (ps[i]).2 (rws[i]))∧PSt wr kp us en∧Hid (w.grownBy wr (some kp))∧Env wr)
   case atStart=>exact ⟨w2.heap.size,1,1,nn,[(x,.slice av len cap)],[row],r1,rfl,rfl,rfl,rfl,by omega,by omega,Nat.le_refl _,hg3,hw3,(List.suffix_refl _:r1 <:+ r1),R3,O3,P3,h3,hG3,hE3⟩
   case round =>
    clear O3 P3 h3 hE3 hG3 R3;obtain ⟨g,c,cap',nn',ps,rws,us,rfl,hgk,hps,hrws,hc1,hc30,hle,hkg,hwg,hsu,ER,OW,PP,hS,hG,hEr⟩:=hrel;have TC:=take_any kp us en [41] wr hS (by omega);cases h41:tk us [41] with
    | some r =>
     rw [h41] at TC;simp only at TC;have hR:Hid (R=.inl (c,rws.flatten,r)):=by
      have:=ER.out;simp only [argl,h41] at this;exact this
     go_wp2_with fail
     refine TC.mono ?_;rintro e w3 ⟨rfl,h4,hg4⟩;go_wp2_with fail
     go_ret;rw [hR.out];have OW4:=OW.out.kept hg4 (Or.inr (by intro e;have:g=kp:=Option.some.inj e;omega));exact ⟨_,rfl,⟨nn',some ⟨g,0,none⟩,cap',ps,rws,rfl,hps,hrws,rfl,fun i h h'=>⟨g,rfl,hwg,own_parts OW4 hps.symm i h,PtIs.mono (fun b hb=>hb.1) nn' (PtIs.keep (fun k hk h2=>hg4.block k h2 (by intro e;have:=Option.some.inj e;have:=hk.1;omega)) nn' (PP.out i h h'))⟩⟩,h4,grown_trans hG hg4⟩
    | none =>
     rw [h41] at TC;simp only at TC;have hsu1:=hsu.out;have ha:=ER.out;simp only [argl,h41] at ha;by_cases h30:c=30∧isMk (hd us en) [44]=true
     ·rw [if_pos h30] at ha;have hR:Hid (R=.inr (3,pos us en)):=ha;clear ha ER;obtain ⟨h30c,hm⟩:=h30;have hci:(c:Int)=30:=by omega
      go_wp2_with fail
      refine TC.mono ?_;rintro e w3 ⟨rfl,h4,hg4⟩;go_wp2_with fail
      refine (next_any kp us en _ h4).mono ?_;rintro e w4 ⟨rfl,hb4⟩;go_wp2_with fail
      refine (isMark_any (hd us en) [44] _).mono ?_;rintro e w5 ⟨rfl,hb5⟩;rw [hm];have h5:=(h4.below hb4).below hb5;have hg5:=grown_trans hg4 (grown_trans (below_grown hb4 (some kp)) (below_grown hb5 (some kp)));clear h4 hg4 hb4 hb5;go_wp2_with fail
      refine (refuse_any kp us en 3 _ h5).mono ?_;rintro e w6 ⟨rfl,hb6⟩;unfold stop;go_wp2_with fail
      rw [hR.out];exact ⟨rfl,rfl,grown_trans hG (grown_trans hg5 (below_grown hb6 (some kp)))⟩
     ·rw [if_neg h30] at ha;by_cases h3:c=30
      ·have hm:isMk (hd us en) [44]=false:=by
        cases hq:isMk (hd us en) [44] with
        | false=>rfl
        | true=>exact absurd ⟨h3,hq⟩ h30
       have h44:tk us [44]=none:=by
        cases us with
        | nil=>rfl
        | cons t r =>
         have hm':isMk t [44]=false:=hm;simp only [tk,hm'];rfl
       rw [h44] at ha;have hR:Hid (R=.inr (50,pos us en)):=ha;clear ha ER;have hci:(c:Int)=30:=by omega
       go_wp2_with fail
       refine TC.mono ?_;rintro e w3 ⟨rfl,h4,hg4⟩;go_wp2_with fail
       refine (next_any kp us en _ h4).mono ?_;rintro e w4 ⟨rfl,hb4⟩;go_wp2_with fail
       refine (isMark_any (hd us en) [44] _).mono ?_;rintro e w5 ⟨rfl,hb5⟩;rw [hm];have h5:=(h4.below hb4).below hb5;have hg5:=grown_trans hg4 (grown_trans (below_grown hb4 (some kp)) (below_grown hb5 (some kp)));clear h4 hg4 hb4 hb5;go_wp2_with fail
       refine (take_any kp us en [44] _ h5 (by omega)).mono ?_;rintro e w6 hc;rw [h44] at hc;obtain ⟨rfl,h6,hg6⟩:=hc;go_wp2_with fail
       refine (must_false kp us en _ h6).mono ?_;rintro e w7 ⟨rfl,hb7⟩;unfold stop;go_wp2_with fail
       rw [hR.out];exact ⟨rfl,rfl,grown_trans hG (grown_trans hg5 (grown_trans hg6 (below_grown hb7 (some kp))))⟩
      ·cases h44:tk us [44] with
       | none =>
        rw [h44] at ha;have hR:Hid (R=.inr (50,pos us en)):=ha;clear ha ER;have hci:¬ (c:Int)=30:=by omega
        go_wp2_with fail
        refine TC.mono ?_;rintro e w5 ⟨rfl,h5,hg5⟩;go_wp2_with fail
        refine (take_any kp us en [44] _ h5 (by omega)).mono ?_;rintro e w6 hc;rw [h44] at hc;obtain ⟨rfl,h6,hg6⟩:=hc;go_wp2_with fail
        refine (must_false kp us en _ h6).mono ?_;rintro e w7 ⟨rfl,hb7⟩;unfold stop;go_wp2_with fail
        rw [hR.out];exact ⟨rfl,rfl,grown_trans hG (grown_trans hg5 (grown_trans hg6 (below_grown hb7 (some kp))))⟩
       | some r =>
        rw [h44] at ha;simp only at ha;obtain ⟨hsr,hlr⟩:=tk_suf h44;have hokr:∀ t ∈ r,TokOk t:=fun t ht=>hok t (((hsr.trans hsu1).trans hsuf).subset ht)
        cases hs7:sub r with
        | inr q =>
         obtain ⟨c7,p7⟩:=q;rw [hs7] at ha;have hR:Hid (R=.inr (c7,p7)):=ha;clear ha ER;have hci:¬ (c:Int)=30:=by omega
         go_wp2_with fail
         refine TC.mono ?_;rintro e w5 ⟨rfl,h5,hg5⟩;go_wp2_with fail
         refine (take_any kp us en [44] _ h5 (by omega)).mono ?_;rintro e w6 hc;rw [h44] at hc;obtain ⟨rfl,h6,hg6⟩:=hc;go_wp2_with fail
         refine (must_true kp _).mono ?_;rintro e w6b ⟨rfl,rfl⟩;have hG6:=grown_trans (grown_trans hG hg5) hg6;have hE6:=(hEr.grown hg5 hk8).grown hg6 hk8;go_wp2_with fail
         refine (HF r _ h6 (by omega) (by omega) hokr hE6).mono ?_;rintro e w7 hc;rw [hs7] at hc;simp only [PPost] at hc;obtain ⟨rfl,hg7⟩:=hc;unfold stop;go_wp2_with fail
         rw [hR.out];exact ⟨rfl,rfl,grown_trans hG6 hg7⟩
        | inl q =>
         obtain ⟨row2,r2⟩:=q;rw [hs7] at ha;simp only at ha;have hs72:=hsub _ _ _ hs7;have hl2:=hs72.length_le;have hR:Hid (R=argl sub en (r2.length+1) (c+1) (rws++[row2]).flatten r2):=by
          show _=_
          rw [ha,argl_fuel hsub en us.length (r2.length+1) _ _ _ (by omega) (by omega)];simp
         clear ha ER;have hci:¬ (c:Int)=30:=by omega
         go_wp2_with fail
         refine TC.mono ?_;rintro e w5 ⟨rfl,h5,hg5⟩;go_wp2_with fail
         refine (take_any kp us en [44] _ h5 (by omega)).mono ?_;rintro e w6 hc;rw [h44] at hc;obtain ⟨rfl,h6,hg6⟩:=hc;go_wp2_with fail
         refine (must_true kp _).mono ?_;rintro e w6b ⟨rfl,rfl⟩;have hG6:=grown_trans (grown_trans hG hg5) hg6;have hE6:=(hEr.grown hg5 hk8).grown hg6 hk8;go_wp2_with fail
         refine (HF r _ h6 (by omega) (by omega) hokr hE6).mono ?_;rintro e w7 hc;rw [hs7] at hc;simp only [PPost] at hc;obtain ⟨v,rfl,hP,h7,hg7⟩:=hc;obtain ⟨n7,x7,sl7,rfl,hp⟩:=hP;obtain ⟨av7,len7,cap7,rfl⟩:=hp.one;have hG7:=grown_trans hG6 hg7;have hE7:=hE6.grown hg7 hk8;have gg:=grown_trans hg5 (grown_trans hg6 hg7);have hgs:=(OW.out.lt g rfl).2;have OW7:=OW.out.kept gg (Or.inr (by intro e;have:g=kp:=Option.some.inj e;omega));have hsz:=gg.size;have hs57:=hg7.size;have hs56:=(grown_trans hg5 hg6).size;unfold ptV;go_wp2_with (first | ((with_reducible refine wpList_bs1 ?_ (.tmp 28) ?_ x7 av7 len7 cap7 ?_ ?_);rfl;rfl;rfl) | (at_builtin;refine wpList_append_keep _ rfl _ _ 54 rfl w.heap.size 56 i0 (.agg #[.int .i64 0,.int .i64 0,.int .i64 0,.int .i64 0,.string ⟨#[]⟩,.bool false,.int .i64 0,.int .i64 0,.string ⟨#[]⟩,.int .i64 0,.string ⟨#[]⟩,.int .i64 0,.int .i64 0,.bool false,.bool false,.string ⟨#[]⟩,.int .i64 0,.int .i64 0,.bool false,.bool false,.slice none 0 0]) 21 200 Tryz.underlying54 hi hz0 hz1 hz2 rfl (by decide) _ _ _ rfl (OW7.alloc _) ⟨w7.heap.size,0,none⟩ 1 1 (pt21 x7 (.slice av7 len7 cap7)) rfl rfl (pt_new _ _ _) (pt_one _ _ rfl) (by unfold maxLen;omega) (by omega) (by simp;omega) ?_))
         intro vg w9 hown9 hgrow hat hkeep;have hb8:=ball (Below.refl _ w7) (.cells (pt21 x7 (.slice av7 len7 cap7)).toArray 56);obtain ⟨g',cap9,rfl,hwg9,hlt9⟩:=own_form (m:=0) hown9;have hat9:g'=g ∨ g'=w7.heap.size+1:=by
          rcases hat with h | h
          ·left;exact Option.some.inj h
          ·right;have:=Option.some.inj h;simpa using this
         have hkg9:kp<g':=by rcases hat9 with h | h <;> omega
         have OW9:Hid (w9.ownsRow w.heap.size 56 21 (.slice (some ⟨g',0,none⟩) (c+1) cap9) (c+1) (ptRow (ps++[(x7,.slice av7 len7 cap7)]))):=by
          show World.ownsRow _ _ _ _ _ _ _
          rw [ptRow_app,ptRow_one];exact hown9
         have K9:∀ {m:Nat} {x:Wt.Nd} {sl:Value} {row:List Wt.Nd},PtIs w7 (fun b=>w.heap.size≤b∧b ≠ g) m x sl row→PtIs w9 (fun b=>w.heap.size≤b∧b ≠ g') m x sl row:=fun {m} {_} {_} {_} hq =>
          PtIs.mono (G:=fun b=>(w.heap.size≤b∧b ≠ g)∧b ≠ g') (fun b hb=>⟨hb.1.1,hb.2⟩) m (PtIs.keep (fun k hk h2=>hgrow.block k h2 (by intro e;have:k=g:=Option.some.inj e;exact hk.1.2 this)) m (PtIs.keep (fun k _ h2=>hb8.block k h2) m (PtIs.inside (fun b hb hl=>⟨hb,by rcases hat9 with h | h;exact h ▸ hb.2;omega⟩) m hq)))
         have PP9:Hid (∀ i (h:i<(ps++[(x7,Value.slice av7 len7 cap7)]).length) (h':i<(rws++[row2]).length),PtIs w9 (fun b=>w.heap.size≤b∧b ≠ g') (max nn' n7) ((ps++[(x7,Value.slice av7 len7 cap7)])[i]).1 ((ps++[(x7,Value.slice av7 len7 cap7)])[i]).2 ((rws++[row2])[i])):=by
          intro i h h';by_cases hi9:i<ps.length
          ·have hi8:i<rws.length:=by omega
           rw [List.getElem_append_left hi9,List.getElem_append_left hi8];exact K9 ((PtIs.keep (fun k hk h2=>gg.block k h2 (by intro e;have:=Option.some.inj e;have:=hk.1;omega)) nn' (PP.out i hi9 hi8)).upto (Nat.le_max_left _ _))
          ·have hi8:i=ps.length:=by simp at h;omega
           have e1:(ps++[(x7,Value.slice av7 len7 cap7)])[i]=(x7,Value.slice av7 len7 cap7):=by subst hi8;simp
           have e2:(rws++[row2])[i]=row2:=by
            have:i=rws.length:=by omega
            subst this;simp
           rw [e1,e2];exact K9 ((PtIs.mono (fun b hb=>⟨by have hb':w6.heap.size≤b:=hb;omega,by have hb':w6.heap.size≤b:=hb;omega⟩) n7 hp).upto (Nat.le_max_right _ _))
         have S9:=(h7.below hb8).row hgrow (fun b e=>by have:g=b:=Option.some.inj e;omega);have G9:Hid (w.grownBy w9 (some kp)):=grown_mix (grown_trans hG7 (below_grown hb8 (some kp))) hgrow (fun b e=>by have:g=b:=Option.some.inj e;omega);have E9:=(hE7.below hb8).row hgrow (fun b e=>by have:g=b:=Option.some.inj e;omega);have hsu9:Hid (r2 <:+ r1):=(hs72.trans hsr).trans hsu1;clear hgrow hown9 hat hkeep hb8 OW7 K9 hp PP OW h7 hE7 hG7 h6 hg6 hE6 hG6 h5 hg5 hg7 gg hS hG hEr TC;go_wp2_with fail
         go_roundg r2.length
         case rel=>exact ⟨g',c+1,cap9,max nn' n7,ps++[(x7,.slice av7 len7 cap7)],rws++[row2],r2,rfl,rfl,by simp;omega,by simp;omega,by omega,by omega,by omega,hkg9,hwg9,hsu9,hR,OW9,PP9,S9,G9,E9⟩
         case measure=>omega
end Go.Proofs.YtlggnpohhahdlaaGreatDoor
