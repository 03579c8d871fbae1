/- LKeep, TArgs, TArgB, TSgB. -/
import Derived.Test.YtedifblompcdkaaGreatDoorQ35
import Derived.Laws.Tables
import Derived.WalkMore
set_option maxHeartbeats 16000000
set_option maxRecDepth 100000
namespace Go.Proofs.YtedifblompcdkaaGreatDoor
open Tryz
variable {w w':World} {B n base:Nat} {v:Value} {ts:List Wlx.TV} {P:Program}
open Go.RowKit
set_option linter.unusedVariables false
theorem zDS (w:World) (base:Nat) (t ty e:TypeId) (i:TypeInfo) (z:Value) (size bytes:Nat) (ht:P.underlying t=some (.slice e)) (hi:P.info? e=some i) (hz:i.zero=some z)
  (hsize:i.size=size) (hby:i.bytes=bytes) (hzs:z.cells.size=size) (hsz:0<size)
  (v:Value) (n:Nat) (xs:List Value) (hown:w.ownsRow base e size v n xs)
  (a:Addr) (m c:Nat) (news:List Value) (hl:news.length=m * size) (hnews:∀ j u,news[j]? = some u->w.cell? (a.add j)=some u) (h1:∀ u ∈ news,u.oneCell'=true)
  (h63:n+m<=maxLen) (hbytes:(n+m) * bytes<=140737488355328) (hbase:base<=w.heap.size) :
  ∃ v' w',(Builtin.append_ #[t,t] ty #[v,.slice (some a) m c]).run P w=.ok v' w'/\w'.ownsRow base e size v' (n+m) (xs++news)/\w.grownBy w' v.ownBlock /\
   (v'.ownBlock=v.ownBlock \/ v'.ownBlock=some w.heap.size)/\(∀ g j,v.ownBlock=some g->j<n * size->w'.cell? ⟨g,j,none⟩=w.cell? ⟨g,j,none⟩):=by
 obtain ⟨v',w',hr,h2,h3,_,h5⟩:=run_append_own_at (P:=P) w base t ty e i z size bytes ht hi hz hsize hby hzs hsz v n xs hown a m c news hl hnews h1 h63 hbytes hbase;refine ⟨v',w',hr,h2,h3,h5,?_⟩;intro g j hg hj;subst hsize hby;have hsmall:n+m<=9223372036854775807:=by simp only [maxLen] at h63;omega
 rcases hown.2 with ⟨rfl,rfl⟩ | ⟨g',cap,cur,rfl,hbg,hgg,hnc,hcm,hcs,htake⟩
 ·simp [Value.ownBlock] at hg
 ·obtain rfl:g'=g:=by simpa [Value.ownBlock] using hg
  have hjc:j<cur.size:=by
   rw [hcs];exact Nat.lt_of_lt_of_le hj (Nat.mul_le_mul_right _ hnc)
  by_cases hroom:n+m<=cap
  ·have hfit:n * i.size+news.length<=cur.size:=by rw [hl,hcs,<-Nat.add_mul];exact Nat.mul_le_mul_right _ hroom
   have hr2:=run_append_room (P:=P) w t ty e i ht hi g' n cap cur hgg a m c news hl hnews h1 hroom hfit;rw [hr2] at hr;simp only [Result.ok.injEq] at hr;obtain ⟨_,rfl⟩:=hr;rw [cell_of_row _ g' j _ e (0,0) (setRow_heap w g' cur _ e _ hgg),cell_of_row w g' j cur e (0,0) hgg];simp only [List.getElem?_toArray];rw [List.append_assoc,List.getElem?_append_left (by rw [List.length_take,Array.length_toList];omega),List.getElem?_take,if_pos hj];simp
  ·have holds:∀ j u,xs[j]? = some u->w.cell? ((⟨g',0,none⟩:Addr).add j)=some u:=hown.cells (g:=g') rfl;have hr2:=run_append_grow (P:=P) w t ty e i z ht hi hz ⟨g',0,none⟩ n cap xs hown.1 holds a m c news hl hnews (by omega) (by omega) (growslice_fits (by omega) hbytes);rw [hr2] at hr;simp only [Result.ok.injEq] at hr;obtain ⟨_,rfl⟩:=hr;have hlt:g' < w.heap.size:=(Array.getElem?_eq_some_iff.1 hgg).1;exact World.cell?_of_block (heap_alloc_old w.drew _ hlt)
theorem zBP {P:Program} (w:World) {ops:Array Oper} {rest:List Oper} {o:Oper} {a:Act} {Q:Exit->Act->World->Prop} (hgd:o.guard=none) (s x:Operand) (t:TypeId)
  (ho:o.op=.call {callee:=.builtin .append,args:=#[s,x],argTypes:=#[t,t]})
  (base:Nat) (e:TypeId) (i:TypeInfo) (z:Value) (size bytes:Nat) (ht:P.underlying t=some (.slice e)) (hi:P.info? e=some i) (hz:i.zero=some z)
  (hsize:i.size=size) (hby:i.bytes=bytes) (hzs:z.cells.size=size) (hsz:0<size)
  (v:Value) (n:Nat) (xs:List Value) (hs:a.eval s=v) (hown:w.ownsRow base e size v n xs)
  (ad:Addr) (m c:Nat) (news:List Value) (hx:a.eval x=.slice (some ad) m c) (hl:news.length=m * size) (hnews:∀ j u,news[j]? = some u->w.cell? (ad.add j)=some u) (h1:∀ u ∈ news,u.oneCell'=true)
  (h63:n+m<=maxLen) (hbytes:(n+m) * bytes<=140737488355328) (hbase:base<=w.heap.size)
  (h:∀ v' w',w'.ownsRow base e size v' (n+m) (xs++news)->w.grownBy w' v.ownBlock->(v'.ownBlock=v.ownBlock \/ v'.ownBlock=some w.heap.size)->(∀ g j,v.ownBlock=some g->j<n * size->w'.cell? ⟨g,j,none⟩=w.cell? ⟨g,j,none⟩)->wpList P ops Q rest (a.put o.dst v') w'):wpList P ops Q (o::rest) a w:=by
 refine wpList_plain hgd λK hK=>?_
 obtain ⟨v',w',hr,h2,h3,h4,h5⟩:=zDS (P:=P) w base t o.type e i z size bytes ht hi hz hsize hby hzs hsz v n xs hown ad m c news hl hnews h1 h63 hbytes hbase;unfold Oper.wp execOp;simp only [ho,resolve,invoke,builtin,Sem.run_bind,Sem.run_pure,Result.andThen_ok,List.map_toArray,List.map_cons,List.map_nil,hs,hx,hr];exact hK _ _ (h v' w' h2 h3 h4 h5)
abbrev OwnV (w:World) (base:Nat) (v:Value) (ts:List Wlx.TV):Prop:=w.ownsRow base 219 3 v ts.length (zME ts)
theorem OwnV.of {ts:List Wlx.Tok} (h:zFK w B v ts):OwnV w B v (ts.map Wlx.tv):=by
 show w.ownsRow B _ 3 v (ts.map Wlx.tv).length (zME (ts.map Wlx.tv))
 rw [List.length_map,zOa];exact h
theorem OwnV.form (h:OwnV w B v ts):∃ a c,v=.slice a ts.length c/\(0<ts.length->∃ g,a=some ⟨g,0,none⟩/\B<=g/\g<w.heap.size):=by
 rcases h.2 with ⟨e,h0⟩ | ⟨g,cap,cur,e,hg,hc,_⟩
 ·exact ⟨none,0,by rw [e,h0],λh=>by omega⟩
 ·exact ⟨some ⟨g,0,none⟩,cap,e,λ_=>⟨g,rfl,hg,(Array.getElem?_eq_some_iff.1 hc).1⟩⟩
def RdV (w:World) (a:Option Addr) (ts:List Wlx.TV):Prop :=
 ∀ i (h:i<ts.length),∃ g,a=some ⟨g,0,none⟩/\g<w.heap.size/\w.cell? ⟨g,i * 3,none⟩=some (.int .i64 (ts[i]).k)/\w.cell? ⟨g,i * 3+1,none⟩=some (.string ⟨(ts[i]).t.toArray⟩)/\w.cell? ⟨g,i * 3+2,none⟩=some (.int .i64 (ts[i]).p)
theorem RdV.own {c:Nat} {a:Option Addr} (h:OwnV w B (.slice a n c) ts):RdV w a ts:=by
 intro i hi;rcases h.2 with ⟨_,h0⟩ | ⟨g,cap,cur,e,hg,hc,_⟩
 ·omega
 ·simp only [Value.slice.injEq] at e;obtain ⟨rfl,rfl,rfl⟩:=e;obtain ⟨r0,r1,r2⟩:=zGi ts i hi;refine ⟨g,rfl,(Array.getElem?_eq_some_iff.1 hc).1,?_,?_,?_⟩
  ·rw [World.ownsRow.cellAt h _ (by omega),r0]
  ·rw [World.ownsRow.cellAt h _ (by omega),r1]
  ·rw [World.ownsRow.cellAt h _ (by omega),r2]
open Go.RowKit Go.Shelf
theorem PSt.row {kp:Nat} {en:Int} {row:Option Nat} (h:PSt w kp ts en) (hg:w.grownBy w' row) (hr:∀ b,row=some b->kp<b):PSt w' kp ts en:=by
 obtain ⟨av,cap,h1,h2,h3⟩:=h;have hn:∀ b,b<=kp->some b ≠ row:=λb hb e=>by have:=hr b e.symm;omega
 refine ⟨av,cap,h1,h2.grown hg (hn kp (Nat.le_refl _)),λi hi=>?_⟩;obtain ⟨bb,off,e,hb,c0,c1,c2⟩:=h3 i hi;exact ⟨bb,off,e,hb,hg.cell c0 (hn _ (by simp only;omega)),hg.cell c1 (hn _ (by simp only;omega)),hg.cell c2 (hn _ (by simp only;omega))⟩
theorem zKd (h:w.grownBy w' none) (row:Option Nat):w.grownBy w' row:=⟨h.os,h.tape,h.output,h.size,λk hk _=>h.block k hk (by simp)⟩
theorem Env.row {row:Option Nat} (h:Env w) (hg:w.grownBy w' row) (hr:∀ b,row=some b->8<=b):Env w':=by
 cases row with
 | none=>exact h.grown (zKd hg (some 8)) (Nat.le_refl _)
 | some b=>exact h.grown hg (hr b rfl)
theorem zIk {W W':World} {kp:Nat} {row:Option Nat} (h:w.grownBy W (some kp)) (hg:W.grownBy W' row) (hr:∀ b,row=some b->w.heap.size<=b):w.grownBy W' (some kp) :=
 ⟨hg.os.trans h.os,hg.tape.trans h.tape,hg.output.trans h.output,Nat.le_trans h.size hg.size,λk hk hn=>(hg.block k (Nat.lt_of_lt_of_le hk h.size) (λe=>by have:=hr k e.symm;omega)).trans (h.block k hk hn)⟩
def zCM (ps:List (Wt.Nd × Value)):List Value:=ps.flatMap λp=>zAJ p.1 p.2
theorem zKq (a b:List (Wt.Nd × Value)):zCM (a++b)=zCM a++zCM b:=by simp [zCM]
theorem zEu (x:Wt.Nd) (sl:Value):zCM [(x,sl)]=zAJ x sl:=by simp [zCM]
theorem zEo:∀ (ps:List (Wt.Nd × Value)) (i:Nat) (h:i<ps.length) (j:Nat),j<21->(zCM ps)[i * 21+j]? = (zAJ (ps[i]).1 (ps[i]).2)[j]?
 | [],i,h,_,_=>by simp at h
 | p::r,0,_,j,hj=>by
  show (zAJ p.1 p.2++zCM r)[0 * 21+j]? = _
  rw [Nat.zero_mul,Nat.zero_add,List.getElem?_append_left (by show j<21;exact hj)];rfl
 | p::r,i+1,h,j,hj=>by
  show (zAJ p.1 p.2++zCM r)[(i+1) * 21+j]? = _
  rw [List.getElem?_append_right (by show 21<=_;omega)];rw [show (i+1) * 21+j - (zAJ p.1 p.2).length=i * 21+j by show _ - 21=_;omega];exact zEo r i (by simpa using h) j hj
theorem zJF {g cap:Nat} {ps:List (Wt.Nd × Value)} (h:w.ownsRow base 180 21 (.slice (some ⟨g,0,none⟩) n cap) n (zCM ps)) (hn:n=ps.length) (i:Nat) (hi:i<ps.length):w.rangeAt g (i * 21) (zAJ (ps[i]).1 (ps[i]).2):=by
 intro j v hv;have hj:j<21:=(List.getElem?_eq_some_iff.1 hv).1;rw [World.ownsRow.cellAt h (i * 21+j) (by omega),zEo ps i hi j hj];exact hv
theorem zIh {sub:List Wlx.TV->PR} (hsub:∀ ts row r,sub ts=.inl (row,r)->r <:+ ts) (en:Int):∀ (n m c:Nat) (rows:List Wt.Nd) (ts:List Wlx.TV),ts.length<n->ts.length<m->zDZ sub en n c rows ts=zDZ sub en m c rows ts:=by
 intro n;induction n with
 | zero=>intro m c rows ts h1;omega
 | succ n ih =>
  intro m c rows ts h1 h2;cases m with
  | zero=>omega
  | succ m =>
   simp only [zDZ];cases h:tk ts [41] with
   | some r=>rfl
   | none =>
    simp only;split
    ·rfl
    ·cases h2':tk ts [44] with
     | none=>rfl
     | some r =>
      simp only;have hl:=(zBC h2').2;cases hs:sub r with
      | inr e=>rfl
      | inl q =>
       obtain ⟨row,r2⟩:=q;simp only;have:=(hsub _ _ _ hs).length_le;exact ih m _ _ _ (by omega) (by omega)
theorem zLP:(prog.info? 180).map (λi=>(i.zero,i.size,i.bytes))=some (some (.agg #[.int .i64 0,.int .i64 0,.int .i64 0,.int .i64 0,.string ⟨#[]⟩,.bool false,.int .i64 0,.int .i64 0,.string ⟨#[]⟩,.int .i64 0,.string ⟨#[]⟩,.int .i64 0,.int .i64 0,.bool false,.bool false,.string ⟨#[]⟩,.int .i64 0,.int .i64 0,.bool false,.bool false,.slice none 0 0]),21,200):=by kernel_rfl
def paa (sub:List Wlx.TV->PR) (en:Int) (ts:List Wlx.TV):AR:=match tk ts [41] with
 | some r=>.inl (0,[],r)
 | none=>match sub ts with
  | .inr e=>.inr e
  | .inl (row,r)=>zDZ sub en (r.length+1) 1 row r
theorem zPz (w:World) (x:Wt.Nd) (sl:Value) (j:Nat) (u:Value) (hu:(zAJ x sl)[j]? = some u):(w.alloc (.cells (zAJ x sl).toArray 180)).cell? ((⟨w.heap.size,0,none⟩:Addr).add j)=some u:=by
 have hadd:(⟨w.heap.size,0,none⟩:Addr).add j=⟨w.heap.size,0+j,none⟩:=by unfold Addr.add;split <;> simp_all
 rw [hadd];exact (AtL.new0 w 180 (zAJ x sl)).range j u hu
theorem zNU (x:Wt.Nd) (sl:Value) (h:sl.oneCell'=true) (u:Value) (hu:u ∈ zAJ x sl):u.oneCell'=true:=by
 have:=zAi x sl h;simp only [List.all_toArray,List.all_eq_true] at this;exact this u hu
theorem zLT {m:Nat} {xs:List Value} (h:w.ownsRow base 180 21 v (n+1) xs):∃ g cap,v=.slice (some ⟨g,0,none⟩) (n+1) cap/\base<=g/\g<w.heap.size:=by
 rcases h.2 with ⟨_,h0⟩ | ⟨g,cap,cur,e,hg,hc,_⟩
 ·omega
 ·exact ⟨g,cap,e,hg,(Array.getElem?_eq_some_iff.1 hc).1⟩
theorem zDt (kp:Nat) (en:Int) (sub:List Wlx.TV->PR) (n:Nat) (HF:zDp kp en sub n) (hsub:∀ ts row r,sub ts=.inl (row,r)->r <:+ ts) (hk8:8<=kp):zPZ kp en (paa sub en) n:=by
 intro ts w h hn hts hok hE;have hkp:=h.lt;have T1:=zAk kp ts en [41] w h hts;unfold paa;cases ht:tk ts [41] with
 | some r =>
  rw [ht] at T1;simp only [zI1] at T1 ⊢;go_enter func253,ntmps253;go_wp2_with fail
  refine T1.mono ?_;rintro e w1 ⟨rfl,h1,hg1⟩;go_wp2;go_ret;exact ⟨_,rfl,⟨0,none,0,[],[],rfl,rfl,rfl,rfl,λi h=>absurd h (Nat.not_lt_zero _)⟩,h1,hg1⟩
 | none =>
  rw [ht] at T1;simp only at T1 ⊢;cases hs:sub ts with
  | inr q =>
   obtain ⟨c,p⟩:=q;simp only [zI1];go_enter func253,ntmps253;go_wp2_with fail
   refine T1.mono ?_;rintro e w1 ⟨rfl,h1,hg1⟩;go_wp2_with fail
   refine (HF ts w1 h1 hn hts hok (hE.grown hg1 hk8)).mono ?_;rintro e w2 hc;rw [hs] at hc;simp only [zAQ] at hc;obtain ⟨rfl,hg⟩:=hc;unfold zB2;go_wp2;exact ⟨rfl,rfl,zAD hg1 hg⟩
  | inl q =>
   obtain ⟨row,r1⟩:=q;have hsuf:=hsub _ _ _ hs;have hl1:=hsuf.length_le;simp only;obtain ⟨R,hR⟩:∃ R,zDZ sub en (r1.length+1) 1 row r1=R:=⟨_,rfl⟩
   rw [hR];obtain ⟨i0,hi,hz0,hz1,hz2⟩:=info_parts zLP;go_enter func253,ntmps253;go_wp2_with fail
   refine T1.mono ?_;rintro e w1 ⟨rfl,h1,hg1⟩;go_wp2_with fail
   refine (HF ts w1 h1 hn hts hok (hE.grown hg1 hk8)).mono ?_;rintro e w2 hc;rw [hs] at hc;simp only [zAQ] at hc;obtain ⟨v,rfl,hP,h2,hg2⟩:=hc;have hE2:=(hE.grown hg1 hk8).grown hg2 hk8;have hG2:=zAD hg1 hg2;have hs1:=hg1.size;have hs2:=hg2.size;obtain ⟨nn,x,sl,rfl,hp⟩:=hP;obtain ⟨av,len,cap,rfl⟩:=hp.one;clear T1 h1 hg1 hg2 hE;unfold ptV;go_wp2_with ((with_reducible refine zCK ?_ (.tmp 7) ?_ x av len cap ?_ ?_);rfl;rfl;rfl)
   have hb3:=zAH (Below.refl _ w2) (.cells (zAJ x (.slice av len cap)).toArray 180);have O3:Hid ((w2.alloc (.cells (zAJ x (.slice av len cap)).toArray 180)).ownsRow w.heap.size 180 21 (.slice (some ⟨w2.heap.size,0,none⟩) 1 1) 1 (zCM [(x,.slice av len cap)])):=by
    have:=World.ownsRow_lit (base:=w.heap.size) (e:=180) (size:=21) w2 (zAJ x (.slice av len cap)).toArray 1 (by omega) (by decide) rfl;rw [zEu];exact this
   have P3:Hid (∀ i (h:i < [(x,Value.slice av len cap)].length) (h':i < [row].length),PtIs (w2.alloc (.cells (zAJ x (.slice av len cap)).toArray 180)) (λb=>w.heap.size<=b/\b ≠ w2.heap.size) nn ([(x,Value.slice av len cap)][i]).1 ([(x,Value.slice av len cap)][i]).2 ([row][i])):=by
    intro i h h';obtain rfl:i=0:=by simp at h;exact h
    exact PtIs.keep (λk _ h2=>hb3.block k h2) nn (PtIs.inside (λb hb hl=>⟨by have hb':w1.heap.size<=b:=hb;omega,by omega⟩) nn hp)
   have h3:=h2.below hb3;have hE3:=hE2.below hb3;have hG3:Hid (w.grownBy (w2.alloc (.cells (zAJ x (.slice av len cap)).toArray 180)) (some kp)):=zAD hG2 (zAE hb3 (some kp));have hg3:kp<w2.heap.size:=h2.lt;have R3:Hid (R=zDZ sub en (r1.length+1) 1 [row].flatten r1):=by show _=_;rw [<-hR];simp
   have hw3:w.heap.size<=w2.heap.size:=by omega
   clear h2 hE2 hG2 hb3 hp hR;go_wp2_with fail
   go_loopg [3] (r1.length) (λgk a wr=>∃ (g c cap nn:Nat) (ps:List (Wt.Nd × Value)) (rws:List (List Wt.Nd)) (us:List Wlx.TV),a=.slice (some ⟨g,0,none⟩) c cap/\gk=us.length/\ps.length=c/\rws.length=c/\1<=c/\c<=30/\us.length<=r1.length/\kp<g/\w.heap.size<=g/\Hid (us <:+ r1)/\Hid (R=zDZ sub en (us.length+1) c rws.flatten us)/\Hid (wr.ownsRow w.heap.size 180 21 (.slice (some ⟨g,0,none⟩) c cap) c (zCM ps))/\Hid (∀ i (h:i<ps.length) (h':i<rws.length),PtIs wr (λb=>w.heap.size<=b/\b ≠ g) nn (ps[i]).1 (ps[i]).2 (rws[i]))/\PSt wr kp us en/\Hid (w.grownBy wr (some kp))/\Env wr)
   case atStart=>exact ⟨w2.heap.size,1,1,nn,[(x,.slice av len cap)],[row],r1,rfl,rfl,rfl,rfl,by omega,by omega,Nat.le_refl _,hg3,hw3,(List.suffix_refl _:r1 <:+ r1),R3,O3,P3,h3,hG3,hE3⟩
   case round =>
    clear O3 P3 h3 hE3 hG3 R3;obtain ⟨g,c,cap',nn',ps,rws,us,rfl,hgk,hps,hrws,hc1,hc30,hle,hkg,hwg,hsu,ER,OW,PP,hS,hG,hEr⟩:=hrel;have TC:=zAk kp us en [41] wr hS (by omega);cases h41:tk us [41] with
    | some r =>
     rw [h41] at TC;simp only at TC;have hR:Hid (R=.inl (c,rws.flatten,r)):=by
      have:=ER.out;simp only [zDZ,h41] at this;exact this
     go_wp2_with fail
     refine TC.mono ?_;rintro e w3 ⟨rfl,h4,hg4⟩;go_wp2_with fail
     go_ret;rw [hR.out];have OW4:=OW.out.kept hg4 (Or.inr (by intro e;have:g=kp:=Option.some.inj e;omega));exact ⟨_,rfl,⟨nn',some ⟨g,0,none⟩,cap',ps,rws,rfl,hps,hrws,rfl,λi h h'=>⟨g,rfl,hwg,zJF OW4 hps.symm i h,PtIs.mono (λb hb=>hb.1) nn' (PtIs.keep (λk hk h2=>hg4.block k h2 (by intro e;have:=Option.some.inj e;have:=hk.1;omega)) nn' (PP.out i h h'))⟩⟩,h4,zAD hG hg4⟩
    | none =>
     rw [h41] at TC;simp only at TC;have hsu1:=hsu.out;have ha:=ER.out;simp only [zDZ,h41] at ha;by_cases h30:c=30/\zIE (hd us en) [44]=true
     ·rw [if_pos h30] at ha;have hR:Hid (R=.inr (3,pos us en)):=ha;clear ha ER;obtain ⟨h30c,hm⟩:=h30;have hci:(c:Int)=30:=by omega
      go_wp2_with fail
      refine TC.mono ?_;rintro e w3 ⟨rfl,h4,hg4⟩;go_wp2_with fail
      refine (zBH kp us en _ h4).mono ?_;rintro e w4 ⟨rfl,hb4⟩;go_wp2_with fail
      refine (zBd (hd us en) [44] _).mono ?_;rintro e w5 ⟨rfl,hb5⟩;rw [hm];have h5:=(h4.below hb4).below hb5;have hg5:=zAD hg4 (zAD (zAE hb4 (some kp)) (zAE hb5 (some kp)));clear h4 hg4 hb4 hb5;go_wp2_with fail
      refine (zDl kp us en 3 _ h5).mono ?_;rintro e w6 ⟨rfl,hb6⟩;unfold zB2;go_wp2_with fail
      rw [hR.out];exact ⟨rfl,rfl,zAD hG (zAD hg5 (zAE hb6 (some kp)))⟩
     ·rw [if_neg h30] at ha;by_cases h3:c=30
      ·have hm:zIE (hd us en) [44]=false:=by
        cases hq:zIE (hd us en) [44] with
        | false=>rfl
        | true=>exact absurd ⟨h3,hq⟩ h30
       have h44:tk us [44]=none:=by
        cases us with
        | nil=>rfl
        | cons t r =>
         have hm':zIE t [44]=false:=hm;simp only [tk,hm'];rfl
       rw [h44] at ha;have hR:Hid (R=.inr (50,pos us en)):=ha;clear ha ER;have hci:(c:Int)=30:=by omega
       go_wp2_with fail
       refine TC.mono ?_;rintro e w3 ⟨rfl,h4,hg4⟩;go_wp2_with fail
       refine (zBH kp us en _ h4).mono ?_;rintro e w4 ⟨rfl,hb4⟩;go_wp2_with fail
       refine (zBd (hd us en) [44] _).mono ?_;rintro e w5 ⟨rfl,hb5⟩;rw [hm];have h5:=(h4.below hb4).below hb5;have hg5:=zAD hg4 (zAD (zAE hb4 (some kp)) (zAE hb5 (some kp)));clear h4 hg4 hb4 hb5;go_wp2_with fail
       refine (zAk kp us en [44] _ h5 (by omega)).mono ?_;rintro e w6 hc;rw [h44] at hc;obtain ⟨rfl,h6,hg6⟩:=hc;go_wp2_with fail
       refine (zAe kp us en _ h6).mono ?_;rintro e w7 ⟨rfl,hb7⟩;unfold zB2;go_wp2_with fail
       rw [hR.out];exact ⟨rfl,rfl,zAD hG (zAD hg5 (zAD hg6 (zAE hb7 (some kp))))⟩
      ·cases h44:tk us [44] with
       | none =>
        rw [h44] at ha;have hR:Hid (R=.inr (50,pos us en)):=ha;clear ha ER;have hci:¬ (c:Int)=30:=by omega
        go_wp2_with fail
        refine TC.mono ?_;rintro e w5 ⟨rfl,h5,hg5⟩;go_wp2_with fail
        refine (zAk kp us en [44] _ h5 (by omega)).mono ?_;rintro e w6 hc;rw [h44] at hc;obtain ⟨rfl,h6,hg6⟩:=hc;go_wp2_with fail
        refine (zAe kp us en _ h6).mono ?_;rintro e w7 ⟨rfl,hb7⟩;unfold zB2;go_wp2_with fail
        rw [hR.out];exact ⟨rfl,rfl,zAD hG (zAD hg5 (zAD hg6 (zAE hb7 (some kp))))⟩
       | some r =>
        rw [h44] at ha;simp only at ha;obtain ⟨hsr,hlr⟩:=zBC h44;have hokr:∀ t ∈ r,zA5 t:=λt ht=>hok t (((hsr.trans hsu1).trans hsuf).subset ht)
        cases hs7:sub r with
        | inr q =>
         obtain ⟨c7,p7⟩:=q;rw [hs7] at ha;have hR:Hid (R=.inr (c7,p7)):=ha;clear ha ER;have hci:¬ (c:Int)=30:=by omega
         go_wp2_with fail
         refine TC.mono ?_;rintro e w5 ⟨rfl,h5,hg5⟩;go_wp2_with fail
         refine (zAk kp us en [44] _ h5 (by omega)).mono ?_;rintro e w6 hc;rw [h44] at hc;obtain ⟨rfl,h6,hg6⟩:=hc;go_wp2_with fail
         refine (zA3 kp _).mono ?_;rintro e w6b ⟨rfl,rfl⟩;have hG6:=zAD (zAD hG hg5) hg6;have hE6:=(hEr.grown hg5 hk8).grown hg6 hk8;go_wp2_with fail
         refine (HF r _ h6 (by omega) (by omega) hokr hE6).mono ?_;rintro e w7 hc;rw [hs7] at hc;simp only [zAQ] at hc;obtain ⟨rfl,hg7⟩:=hc;unfold zB2;go_wp2_with fail
         rw [hR.out];exact ⟨rfl,rfl,zAD hG6 hg7⟩
        | inl q =>
         obtain ⟨row2,r2⟩:=q;rw [hs7] at ha;simp only at ha;have hs72:=hsub _ _ _ hs7;have hl2:=hs72.length_le;have hR:Hid (R=zDZ sub en (r2.length+1) (c+1) (rws++[row2]).flatten r2):=by
          show _=_
          rw [ha,zIh hsub en us.length (r2.length+1) _ _ _ (by omega) (by omega)];simp
         clear ha ER;have hci:¬ (c:Int)=30:=by omega
         go_wp2_with fail
         refine TC.mono ?_;rintro e w5 ⟨rfl,h5,hg5⟩;go_wp2_with fail
         refine (zAk kp us en [44] _ h5 (by omega)).mono ?_;rintro e w6 hc;rw [h44] at hc;obtain ⟨rfl,h6,hg6⟩:=hc;go_wp2_with fail
         refine (zA3 kp _).mono ?_;rintro e w6b ⟨rfl,rfl⟩;have hG6:=zAD (zAD hG hg5) hg6;have hE6:=(hEr.grown hg5 hk8).grown hg6 hk8;go_wp2_with fail
         refine (HF r _ h6 (by omega) (by omega) hokr hE6).mono ?_;rintro e w7 hc;rw [hs7] at hc;simp only [zAQ] at hc;obtain ⟨v,rfl,hP,h7,hg7⟩:=hc;obtain ⟨n7,x7,sl7,rfl,hp⟩:=hP;obtain ⟨av7,len7,cap7,rfl⟩:=hp.one;have hG7:=zAD hG6 hg7;have hE7:=hE6.grown hg7 hk8;have gg:=zAD hg5 (zAD hg6 hg7);have hgs:=(OW.out.lt g rfl).2;have OW7:=OW.out.kept gg (Or.inr (by intro e;have:g=kp:=Option.some.inj e;omega));have hsz:=gg.size;have hs57:=hg7.size;have hs56:=(zAD hg5 hg6).size;unfold ptV;go_wp2_with (first | ((with_reducible refine zCK ?_ (.tmp 28) ?_ x7 av7 len7 cap7 ?_ ?_);rfl;rfl;rfl) | (at_builtin;refine zBP _ rfl _ _ 178 rfl w.heap.size 180 i0 (.agg #[.int .i64 0,.int .i64 0,.int .i64 0,.int .i64 0,.string ⟨#[]⟩,.bool false,.int .i64 0,.int .i64 0,.string ⟨#[]⟩,.int .i64 0,.string ⟨#[]⟩,.int .i64 0,.int .i64 0,.bool false,.bool false,.string ⟨#[]⟩,.int .i64 0,.int .i64 0,.bool false,.bool false,.slice none 0 0]) 21 200 underlying178 hi hz0 hz1 hz2 rfl (by decide) _ _ _ rfl (OW7.alloc _) ⟨w7.heap.size,0,none⟩ 1 1 (zAJ x7 (.slice av7 len7 cap7)) rfl rfl (zPz _ _ _) (zNU _ _ rfl) (by unfold maxLen;omega) (by omega) (by simp;omega) ?_))
         intro vg w9 hown9 hgrow hat hkeep;have hb8:=zAH (Below.refl _ w7) (.cells (zAJ x7 (.slice av7 len7 cap7)).toArray 180);obtain ⟨g',cap9,rfl,hwg9,hlt9⟩:=zLT (m:=0) hown9;have hat9:g'=g \/ g'=w7.heap.size+1:=by
          rcases hat with h | h
          ·left;exact Option.some.inj h
          ·right;have:=Option.some.inj h;simpa using this
         have hkg9:kp<g':=by rcases hat9 with h | h <;> omega
         have OW9:Hid (w9.ownsRow w.heap.size 180 21 (.slice (some ⟨g',0,none⟩) (c+1) cap9) (c+1) (zCM (ps++[(x7,.slice av7 len7 cap7)]))):=by
          show World.ownsRow _ _ _ _ _ _ _
          rw [zKq,zEu];exact hown9
         have K9:∀ {m:Nat} {x:Wt.Nd} {sl:Value} {row:List Wt.Nd},PtIs w7 (λb=>w.heap.size<=b/\b ≠ g) m x sl row->PtIs w9 (λb=>w.heap.size<=b/\b ≠ g') m x sl row:=λ{m} {_} {_} {_} hq =>
          PtIs.mono (G:=λb=>(w.heap.size<=b/\b ≠ g)/\b ≠ g') (λb hb=>⟨hb.1.1,hb.2⟩) m (PtIs.keep (λk hk h2=>hgrow.block k h2 (by intro e;have:k=g:=Option.some.inj e;exact hk.1.2 this)) m (PtIs.keep (λk _ h2=>hb8.block k h2) m (PtIs.inside (λb hb hl=>⟨hb,by rcases hat9 with h | h;exact h ▸ hb.2;omega⟩) m hq)))
         have PP9:Hid (∀ i (h:i<(ps++[(x7,Value.slice av7 len7 cap7)]).length) (h':i<(rws++[row2]).length),PtIs w9 (λb=>w.heap.size<=b/\b ≠ g') (max nn' n7) ((ps++[(x7,Value.slice av7 len7 cap7)])[i]).1 ((ps++[(x7,Value.slice av7 len7 cap7)])[i]).2 ((rws++[row2])[i])):=by
          intro i h h';by_cases hi9:i<ps.length
          ·have hi8:i<rws.length:=by omega
           rw [List.getElem_append_left hi9,List.getElem_append_left hi8];exact K9 ((PtIs.keep (λk hk h2=>gg.block k h2 (by intro e;have:=Option.some.inj e;have:=hk.1;omega)) nn' (PP.out i hi9 hi8)).upto (Nat.le_max_left _ _))
          ·have hi8:i=ps.length:=by simp at h;omega
           have e1:(ps++[(x7,Value.slice av7 len7 cap7)])[i]=(x7,Value.slice av7 len7 cap7):=by subst hi8;simp
           have e2:(rws++[row2])[i]=row2:=by
            have:i=rws.length:=by omega
            subst this;simp
           rw [e1,e2];exact K9 ((PtIs.mono (λb hb=>⟨by have hb':w6.heap.size<=b:=hb;omega,by have hb':w6.heap.size<=b:=hb;omega⟩) n7 hp).upto (Nat.le_max_right _ _))
         have S9:=(h7.below hb8).row hgrow (λb e=>by have:g=b:=Option.some.inj e;omega);have G9:Hid (w.grownBy w9 (some kp)):=zIk (zAD hG7 (zAE hb8 (some kp))) hgrow (λb e=>by have:g=b:=Option.some.inj e;omega);have E9:=(hE7.below hb8).row hgrow (λb e=>by have:g=b:=Option.some.inj e;omega);have hsu9:Hid (r2 <:+ r1):=(hs72.trans hsr).trans hsu1;clear hgrow hown9 hat hkeep hb8 OW7 K9 hp PP OW h7 hE7 hG7 h6 hg6 hE6 hG6 h5 hg5 hg7 gg hS hG hEr TC;go_wp2_with fail
         go_roundg r2.length
         case rel=>exact ⟨g',c+1,cap9,max nn' n7,ps++[(x7,.slice av7 len7 cap7)],rws++[row2],r2,rfl,rfl,by simp;omega,by simp;omega,by omega,by omega,by omega,hkg9,hwg9,hsu9,hR,OW9,PP9,S9,G9,E9⟩
         case measure=>omega
theorem zJM (kp:Nat) (en:Int) (sub5 sub6:List Wlx.TV->PR) (n:Nat) (HS:∀ m,m<n->zNQ kp en 172 sub5 m) (HP:zNQ kp en 198 sub6 n) (ts:List Wlx.TV) (w:World) (h:PSt w kp ts en) (hn:ts.length<=n) (hts:ts.length<=1024) (hok:∀ t ∈ ts,zA5 t) (hE:Env w) (hk8:8<=kp) :
  Calls prog 172 #[.pointer (some ⟨kp,0,none⟩)] w λe w'=>zAQ kp en (psg sub5 sub6 ts) w e w':=by
 have hB0:=zAH (Below.refl _ w) (.cells zP0 180);have pZ:AtL (w.alloc (.cells zP0 180)) w.heap.size (zAJ (bare 0) (.slice none 0 0)):=AtL.new0 w _ _;have h0:=h.below hB0;have hE0:=hE.below hB0;have hkp:=h.lt;have T1:=zBK kp ts en 5 _ h0 hts hE0.1;unfold psg;cases ht:zBk 5 ts with
 | none =>
  simp only;cases hs:sub6 ts with
  | inr q =>
   obtain ⟨c,p⟩:=q;simp only [zAQ];go_enter func172,ntmps172;go_wp2_with fail
   generalize w.alloc (.cells zP0 180)=wa at *;refine T1.mono ?_;rintro e w1 hc;rw [ht] at hc;simp only [zBO] at hc;obtain ⟨rfl,h1,hg1⟩:=hc;have pZ1:=pZ.grown hg1 (by intro e;have:=Option.some.inj e;omega);have hG1:=zAD (zAE hB0 (some kp)) hg1;have hE1:=hE0.grown hg1 hk8;clear pZ h0 hB0 hE0 T1 hg1;have hb1:=zAH (Below.refl _ w1) (.cells #[.int .i64 0,.string ⟨#[]⟩,.int .i64 0] 211);go_wp2_with fail
   refine (HP ts _ (h1.below hb1) hn hts hok (hE1.below hb1)).mono ?_;rintro e w3 hc;rw [hs] at hc;simp only [zAQ] at hc;obtain ⟨rfl,hg⟩:=hc;unfold zB2;go_wp2;exact ⟨rfl,rfl,zAD (zAD hG1 (zAE hb1 (some kp))) hg⟩
  | inl q =>
   obtain ⟨row,r2⟩:=q;simp only [zAQ];go_enter func172,ntmps172;go_wp2_with fail
   generalize w.alloc (.cells zP0 180)=wa at *;refine T1.mono ?_;rintro e w1 hc;rw [ht] at hc;simp only [zBO] at hc;obtain ⟨rfl,h1,hg1⟩:=hc;have pZ1:=pZ.grown hg1 (by intro e;have:=Option.some.inj e;omega);have hG1:=zAD (zAE hB0 (some kp)) hg1;have hE1:=hE0.grown hg1 hk8;clear pZ h0 hB0 hE0 T1 hg1;have hb1:=zAH (Below.refl _ w1) (.cells #[.int .i64 0,.string ⟨#[]⟩,.int .i64 0] 211);have hz1:=pZ1.lt;go_wp2_with fail
   refine (HP ts _ (h1.below hb1) hn hts hok (hE1.below hb1)).mono ?_;rintro e w3 hc;rw [hs] at hc;simp only [zAQ] at hc;obtain ⟨v,rfl,hP,h3,hg⟩:=hc;have pZ3:=(AtL.below hb1 pZ1).grown hg (by intro e;have:=Option.some.inj e;omega);have hG3:=zAD (zAD hG1 (zAE hb1 (some kp))) hg;simp only [World.size_alloc] at hP;obtain ⟨nn,x,sl,rfl,hp⟩:=hP;obtain ⟨av,len,cap,rfl⟩:=hp.one;have hth:World.there w3 w.heap.size 0 (zAJ x (.slice av len cap)).toArray.size:=pZ3.there;clear pZ1 hG1 hE1 h1 hg hb1;unfold ptV;go_wp2_with ((with_reducible refine wpList_store_mid ?_ 180 (.tmp 2) (.tmp 17) ?_ (w.heap.size) 0 (zAJ x (.slice av len cap)).toArray ?_ ?_ ?_ ?_ ?_ ?_);rfl;rfl;rfl;rfl;exact hth;kernel_rfl;exact zAi _ _ rfl)
   have pZ9:AtL (w3.setCells w.heap.size 0 (zAJ x (.slice av len cap))) w.heap.size (zAJ x (.slice av len cap)):=pZ3.setAll rfl;refine bodyPost_ret (zAO rfl _ _ w.heap.size (zAJ x (.slice av len cap)) _ rfl pZ9.range underlying180 rfl (by kernel_rfl)) rfl ?_;exact ⟨_,rfl,(Pt.far (show Pt w3 _ (ptV x (.slice av len cap)) row from ⟨nn,x,_,rfl,hp⟩) (by omega) 0 _).mono (by omega),h3.farAll hkp _ 0,zAN hG3 (Nat.le_refl _) _ 0⟩
 | some q =>
  obtain ⟨⟨o,m,t⟩,r⟩:=q;obtain ⟨hsuf,hlt⟩:=zAl ht;have hokr:∀ t ∈ r,zA5 t:=λt h=>hok t (hsuf.subset h)
  simp only;cases hs:sub5 r with
  | inr q =>
   obtain ⟨c,p⟩:=q;simp only [zAQ];go_enter func172,ntmps172;go_wp2_with fail
   generalize w.alloc (.cells zP0 180)=wa at *;refine T1.mono ?_;rintro e w1 hc;rw [ht] at hc;simp only [zBO] at hc;obtain ⟨rfl,h1,hg1⟩:=hc;have pZ1:=pZ.grown hg1 (by intro e;have:=Option.some.inj e;omega);have hG1:=zAD (zAE hB0 (some kp)) hg1;have hE1:=hE0.grown hg1 hk8;clear pZ h0 hB0 hE0 T1 hg1;go_upto_region 3 with fail
   have hb1:=zAH (Below.refl _ w1) (.cells #[.int .i64 o,.string ⟨m.toArray⟩,.int .i64 t] 211);have pO:=AtL.new0 w1 211 [.int .i64 o,.string ⟨m.toArray⟩,.int .i64 t];have pZ2:=AtL.below hb1 pZ1;have h2:=h1.below hb1;have hE2:=hE1.below hb1;have hG2:=zAD hG1 (zAE hb1 (some kp));have hko:kp<w1.heap.size:=h1.lt;have hzo:=pZ1.lt;clear pZ1 h1 hE1 hG1 hb1;generalize w1.alloc (.cells #[.int .i64 o,.string ⟨m.toArray⟩,.int .i64 t] 211)=w2 at *;generalize w1.heap.size=ko at *;refine wp_region_held_drew (S:=OpS ko 0 o ⟨m.toArray⟩ t) (by kernel_rfl) (zAg (AtL.drew pO)) (λhHeld=>?_);refine tkQ 0 ?_
   refine tkQ 1 ?_
   refine rdQ 2 (λK hK=>?_);go_simp
   have hbd:Below w2.heap.size w2 w2.drew:=(Below.refl _ _).drew;refine (HS r.length (by omega) r w2.drew (h2.below hbd) (Nat.le_refl _) (by omega) hokr (hE2.below hbd)).mono ?_;rintro e w3 hc;rw [hs] at hc;simp only [zAQ] at hc;obtain ⟨rfl,hg⟩:=hc;unfold zB2;go_wp2;exact ⟨rfl,rfl,zAD (zAD hG2 (zAE hbd (some kp))) hg⟩
  | inl q =>
   obtain ⟨row,r2⟩:=q;simp only [zAQ];go_enter func172,ntmps172;go_wp2_with fail
   generalize w.alloc (.cells zP0 180)=wa at *;refine T1.mono ?_;rintro e w1 hc;rw [ht] at hc;simp only [zBO] at hc;obtain ⟨rfl,h1,hg1⟩:=hc;have pZ1:=pZ.grown hg1 (by intro e;have:=Option.some.inj e;omega);have hG1:=zAD (zAE hB0 (some kp)) hg1;have hE1:=hE0.grown hg1 hk8;clear pZ h0 hB0 hE0 T1 hg1;go_upto_region 3 with fail
   have hb1:=zAH (Below.refl _ w1) (.cells #[.int .i64 o,.string ⟨m.toArray⟩,.int .i64 t] 211);have pO:=AtL.new0 w1 211 [.int .i64 o,.string ⟨m.toArray⟩,.int .i64 t];have pZ2:=AtL.below hb1 pZ1;have h2:=h1.below hb1;have hE2:=hE1.below hb1;have hG2:=zAD hG1 (zAE hb1 (some kp));have hko:kp<w1.heap.size:=h1.lt;have hzo:=pZ1.lt;clear pZ1 h1 hE1 hG1 hb1;generalize w1.alloc (.cells #[.int .i64 o,.string ⟨m.toArray⟩,.int .i64 t] 211)=w2 at *;generalize w1.heap.size=ko at *;refine wp_region_held_drew (S:=OpS ko 0 o ⟨m.toArray⟩ t) (by kernel_rfl) (zAg (AtL.drew pO)) (λhHeld=>?_);refine tkQ 0 ?_
   refine tkQ 1 ?_
   refine rdQ 2 (λK hK=>?_);go_simp
   have hbd:Below w2.heap.size w2 w2.drew:=(Below.refl _ _).drew;refine (HS r.length (by omega) r w2.drew (h2.below hbd) (Nat.le_refl _) (by omega) hokr (hE2.below hbd)).mono ?_;rintro e w3 hc;rw [hs] at hc;simp only [zAQ] at hc;obtain ⟨v,rfl,hP,h3,hg⟩:=hc;have pZ3:=(AtL.below hbd pZ2).grown hg (by intro e;have:=Option.some.inj e;omega);have pO3:=(AtL.below hbd pO).grown hg (by intro e;have:=Option.some.inj e;omega);have hG3:=zAD (zAD hG2 (zAE hbd (some kp))) hg;have hw2:w2.drew.heap.size=w2.heap.size:=rfl;have hz2:=pZ2.lt;have ho2:=pO.lt;obtain ⟨nn,x,sl,rfl,hp⟩:=hP;obtain ⟨av,len,cap,rfl⟩:=hp.one;have hp3:=PtIs.mono (G':=λb=>w.heap.size+1<=b) (λb hb=>by have hb':w2.drew.heap.size<=b:=hb;omega) nn hp;clear hp hg hbd;unfold ptV;go_wp2_with fail
   refine hkQ hK (zAg pO3) (λhHeld=>?_);clear hK K
   refine rdQ 3 (λK hK=>?_);refine zNN (.tmp 13) rfl x av len cap rfl ?_;have hb4:=zAH (Below.refl _ w3) (.cells (zAJ x (.slice av len cap)).toArray 180);have pB4:=AtL.new0 w3 180 (zAJ x (.slice av len cap));have hlo:w.heap.size+1<=w3.heap.size:=by have:=pZ3.lt;omega
   have hp4:=PtIs.keep (λk _ h2=>hb4.block k h2) nn hp3;have hun:=PtIs.un (G:=λb=>w.heap.size+1<=b) (z:=opN (zAo t) o) hp4 hlo pB4.range;have h4:=h3.below hb4;have pZ4:=AtL.below hb4 pZ3;have pO4:=AtL.below hb4 pO3;have hG4:=zAD hG3 (zAE hb4 (some kp));refine hkQ hK (zAg pO4) (λhHeld=>?_);clear hK K pZ3 pO3 h3 hG3 hp3 hp4 pB4 hb4
   refine rdQ 4 (λK hK=>?_);go_simp
   refine (zBE o ⟨m.toArray⟩ t (some ⟨w3.heap.size,0,none⟩) 1 1 _).mono ?_;rintro e w5 ⟨rfl,hb⟩;have h5:=h4.below hb;have pZ5:=AtL.below hb pZ4;have pO5:=AtL.below hb pO4;have hG5:=zAD hG4 (zAE hb (some kp));have hun5:=PtIs.keep (λk _ h2=>hb.block k h2) _ hun;clear h4 pZ4 pO4 hG4 hun hb;go_wp2_with fail
   refine hkQ hK (zAg pO5) (λhHeld=>?_);clear hK K
   refine rdQ 5 (λK hK=>?_);unfold ptV;refine wp_store_mid 180 (.tmp 2) (.tmp 15) rfl w.heap.size 0 (zAJ (opN (zAo t) o) (.slice (some ⟨w3.heap.size,0,none⟩) 1 1)).toArray rfl rfl pZ5.there (by kernel_rfl) (zAi _ _ rfl) ?_;have hne:w.heap.size ≠ ko:=by omega
   have pZ6:AtL (w5.setCells w.heap.size 0 (zAJ (opN (zAo t) o) (.slice (some ⟨w3.heap.size,0,none⟩) 1 1))) w.heap.size (zAJ (opN (zAo t) o) (.slice (some ⟨w3.heap.size,0,none⟩) 1 1)):=pZ5.setAll rfl;refine hK.out _ _ (zAg (pO5.farAll hne 0 _)) (λhHeld=>?_);clear hK K;try simp only [Act.put]
   refine wpAnyH_done (by kernel_rfl) ?_ _;go_wp2_with fail
   refine bodyPost_ret (zAO rfl _ _ w.heap.size (zAJ (opN (zAo t) o) (.slice (some ⟨w3.heap.size,0,none⟩) 1 1)) _ rfl pZ6.range underlying180 rfl (by kernel_rfl)) rfl ?_;exact ⟨_,rfl,(Pt.far (show Pt w5 (w.heap.size+1) (ptV (opN (zAo t) o) _) _ from ⟨_,_,_,rfl,hun5⟩) (Nat.lt_succ_self _) 0 _).mono (Nat.le_succ _),h5.farAll hkp _ 0,zAN hG5 (Nat.le_refl _) _ 0⟩
