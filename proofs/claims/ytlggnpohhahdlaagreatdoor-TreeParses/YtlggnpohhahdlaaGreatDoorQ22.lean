/- TRow, TFit. -/
import Derived.Test.YtlggnpohhahdlaaGreatDoorQ21
set_option maxHeartbeats 8000000
set_option maxRecDepth 100000
namespace Go.Proofs.YtlggnpohhahdlaaGreatDoor
open Go.RowKit Go.Shelf
set_option linter.unusedVariables false
theorem stop_here {P:Prop} (h:Hid P):P:=h.out
theorem row_trans {a b c:World} {row:Option Nat} (h1:a.grownBy b row) (h2:b.grownBy c row):a.grownBy c row :=
 ⟨h2.os.trans h1.os,h2.tape.trans h1.tape,h2.output.trans h1.output,Nat.le_trans h1.size h2.size,fun k hk hn=>(h2.block k (Nat.lt_of_lt_of_le hk h1.size) hn).trans (h1.block k hk hn)⟩
theorem PtIs.pos {w:World} {G:Nat→Prop} {n:Nat} {x:Wt.Nd} {sl:Value} {row:List Wt.Nd} (h:PtIs w G n x sl row):0<row.length:=by
 cases n with
 | zero=>exact absurd h (by simp [PtIs])
 | succ n =>
  obtain ⟨_,_,_,_,_,_,rfl,_⟩:=h;simp
theorem flat_ge:∀ (rows:List (List Wt.Nd)),(∀ r ∈ rows,0<r.length)→rows.length≤rows.flatten.length
 | [],_=>by simp
 | r::l,h=>by
  have h1:=h r (by simp);have h2:=flat_ge l (fun q hq=>h q (by simp [hq]));simp only [List.length_cons,List.flatten_cons,List.length_append];omega
theorem bs1n (x:Wt.Nd) (w:World):(Instr.buildSlice 22 1 #[(0,.agg (nd20 x).toArray)]).run Tryz.prog w=.ok (.slice (some ⟨w.heap.size,0,none⟩) 1 1) (w.alloc (.cells (nd20 x).toArray 45)):=by kernel_rfl
theorem wp_bs1n {op:Oper} {a:Act} {w:World} {K:Act→World→Prop} {Q:Exit→Act→World→Prop} (y:Operand) (ho:op.op=.buildSlice 22 1 #[(0,y)]) (x:Wt.Nd) (hy:a.eval y=.agg (nd20 x).toArray)
  (h:K (a.put op.dst (.slice (some ⟨w.heap.size,0,none⟩) 1 1)) (w.alloc (.cells (nd20 x).toArray 45))):op.wp Tryz.prog a w K Q:=by
 unfold Oper.wp execOp;simp only [ho,List.map_toArray,List.map_cons,List.map_nil,hy,Sem.run_bind,Sem.run_pure,Result.andThen_ok,bs1n];exact h
theorem wpList_bs1n {ops:Array Oper} {rest:List Oper} {op:Oper} {a:Act} {w:World} {Q:Exit→Act→World→Prop} (hgd:op.guard=none) (y:Operand) (ho:op.op=.buildSlice 22 1 #[(0,y)]) (x:Wt.Nd) (hy:a.eval y=.agg (nd20 x).toArray)
  (h:wpList Tryz.prog ops Q rest (a.put op.dst (.slice (some ⟨w.heap.size,0,none⟩) 1 1)) (w.alloc (.cells (nd20 x).toArray 45))):wpList Tryz.prog ops Q (op::rest) a w :=
 wpList_plain hgd fun _ hK=>wp_bs1n y ho x hy (hK _ _ h)
theorem nd_new (w:World) (x:Wt.Nd) (j:Nat) (u:Value) (hu:(nd20 x)[j]? = some u):(w.alloc (.cells (nd20 x).toArray 45)).cell? ((⟨w.heap.size,0,none⟩:Addr).add j)=some u:=by
 have hadd:(⟨w.heap.size,0,none⟩:Addr).add j=⟨w.heap.size,0+j,none⟩:=by unfold Addr.add;split <;> simp_all
 rw [hadd];exact (AtL.new0 w 45 (nd20 x)).range j u hu
theorem nd_one (x:Wt.Nd) (u:Value) (hu:u ∈ nd20 x):u.oneCell'=true:=pt_one x (.slice none 0 0) rfl u (by unfold pt21;exact List.mem_append_left _ hu)
def ndRow (l:List Wt.Nd):List Value:=l.flatMap nd20
theorem ndRow_app (a b:List Wt.Nd):ndRow (a++b)=ndRow a++ndRow b:=by simp [ndRow]
theorem ndRow_one (x:Wt.Nd):ndRow [x]=nd20 x:=by simp [ndRow]
def RPost (base:Nat) (v:Value) (l:List Wt.Nd) (w:World) (e:Ending) (w':World):Prop :=
 ∃ v',e=.returned v'∧w'.ownsRow base 45 20 v' l.length (ndRow l)∧w.grownBy w' v.ownBlock∧(v'.ownBlock=v.ownBlock ∨ ∃ b,v'.ownBlock=some b∧w.heap.size≤b)
theorem row_any (base:Nat):∀ (n:Nat) (x:Wt.Nd) (sl:Value) (row:List Wt.Nd) (G:Nat→Prop) (v:Value) (pre:List Wt.Nd) (w:World),PtIs w G n x sl row→w.ownsRow base 45 20 v pre.length (ndRow pre)→(∀ b,G b→some b ≠ v.ownBlock)→base≤w.heap.size→pre.length+row.length≤100000 →
  Calls Tryz.prog 23 #[ptV x sl,v] w fun e w'=>RPost base v (pre++row) w e w':=by
 intro n;induction n with
 | zero=>intro x sl row G v pre w h;exact absurd h (by simp [PtIs])
 | succ n ih =>
  intro x sl row G v pre w h hown hG hbase hlen;obtain ⟨av,cap,ps,rows,rfl,hl,rfl,hp⟩:=h;obtain ⟨i0,hi,hz0,hz1,hz2⟩:=info_parts nodeInfo;unfold ptV;have pX:=AtL.new0 w 56 (pt21 x (.slice av ps.length cap));have rX:(w.alloc (.cells (pt21 x (.slice av ps.length cap)).toArray 56)).rangeAt w.heap.size 0 (nd20 x):=fun j u hu=>pX.range j u (by
   unfold pt21;rw [List.getElem?_append_left (List.getElem?_eq_some_iff.1 hu).1];exact hu)
  have cX:(w.alloc (.cells (pt21 x (.slice av ps.length cap)).toArray 56)).cell? ⟨w.heap.size,20,none⟩=some (.slice av ps.length cap):=pX.range 20 _ rfl;have hlo:∀ k,v.ownBlock=some k→k<w.heap.size:=fun k hk=>(hown.lt k hk).2
  have hpl:ps.length≤100000:=by
   have:=flat_ge rows (fun r hr=>by
    obtain ⟨j,hj,e⟩:=List.getElem_of_mem hr;obtain ⟨_,_,_,_,hq⟩:=hp j (by omega) hj;rw [←e];exact hq.pos)
   simp only [List.length_cons] at hlen;omega
  have hln:pre.length+1≤100000:=by simp at hlen;omega
  have hs1:(w.alloc (.cells (pt21 x (.slice av ps.length cap)).toArray 56)).heap.size=w.heap.size+1:=by simp
  have N5:∀ j u,(nd20 x)[j]? = some u→((w.alloc (.cells (pt21 x (.slice av ps.length cap)).toArray 56)).alloc (.cells (nd20 x).toArray 45)).cell? ((⟨w.heap.size+1,0,none⟩:Addr).add j)=some u:=by
   intro j u hu;have:=nd_new (w.alloc (.cells (pt21 x (.slice av ps.length cap)).toArray 56)) x j u hu;rw [hs1] at this;exact this
  have hb5:base≤((w.alloc (.cells (pt21 x (.slice av ps.length cap)).toArray 56)).alloc (.cells (nd20 x).toArray 45)).heap.size:=by simp;omega
  have hown2:=(hown.alloc (.cells (pt21 x (.slice av ps.length cap)).toArray 56)).alloc (.cells (nd20 x).toArray 45);go_enter Tryz.func23,Tryz.ntmps23;go_wp2_with (first | ((with_reducible refine wpList_load_mid (cs:=nd20 x) ?_ 45 (.tmp 8) ?_ w.heap.size 0 ?_ _ ?_ Tryz.underlying45 ?_ ?_ ?_);rfl;rfl;rfl;exact rX;rfl;kernel_rfl) | ((with_reducible refine wpList_bs1n ?_ (.tmp 9) ?_ x ?_ ?_);rfl;rfl;rfl) | (at_builtin;refine stop_here ?_))
  show wpList _ _ _ _ _ _
  refine wpList_append_keep _ rfl _ _ 22 rfl base 45 i0 (.agg #[.int .i64 0,.int .i64 0,.int .i64 0,.int .i64 0,.string ⟨#[]⟩,.bool false,.int .i64 0,.int .i64 0,.string ⟨#[]⟩,.int .i64 0,.string ⟨#[]⟩,.int .i64 0,.int .i64 0,.bool false,.bool false,.string ⟨#[]⟩,.int .i64 0,.int .i64 0,.bool false,.bool false]) 20 176 Tryz.underlying22 hi hz0 hz1 hz2 rfl (by decide) _ _ _ rfl hown2 ⟨w.heap.size+1,0,none⟩ 1 1 (nd20 x) rfl rfl N5 (nd_one x) (by unfold maxLen;omega) (by omega) hb5 ?_;intro v5 w5 hown5 hgrow hat hkeep;have hg2:((w.alloc (.cells (pt21 x (.slice av ps.length cap)).toArray 56)).alloc (.cells (nd20 x).toArray 45)).grownBy w5 v.ownBlock:=hgrow;have hne:some w.heap.size ≠ v.ownBlock:=fun e=>by have:=hlo _ e.symm;omega
  have c5:w5.cell? ⟨w.heap.size,20,none⟩=some (.slice av ps.length cap):=hg2.cell ((World.grownBy_alloc _ _ v.ownBlock).cell cX hne) hne;have g5:w.grownBy w5 v.ownBlock:=row_trans (World.grownBy_alloc w _ _) (row_trans (World.grownBy_alloc _ _ _) hg2);have own5:Hid (w5.ownsRow base 45 20 v5 (pre++[x]).length (ndRow (pre++[x]))):=by
   show World.ownsRow _ _ _ _ _ _ _
   rw [ndRow_app,ndRow_one,List.length_append];exact hown5
  have at5:Hid (v5.ownBlock=v.ownBlock ∨ ∃ b,v5.ownBlock=some b∧w.heap.size≤b):=by
   rcases hat with h | h
   ·exact .inl h
   ·exact .inr ⟨_,h,by simp;omega⟩
  have hform:∃ a c,v5=.slice a (pre.length+1) c:=by
   rcases hown5.2 with ⟨_,h0⟩ | ⟨g,cap,cur,e,_⟩
   ·omega
   ·exact ⟨_,_,e⟩
  have G5:Hid (w.grownBy w5 v.ownBlock):=g5;clear hgrow hg2 hat hkeep hown5 hown2 cX rX pX N5 hb5 hs1;go_wp2_with fail
  go_loopg [1,15] (ps.length) (fun gk a b wr=>∃ i:Nat,b=.int .i64 i∧gk=ps.length - i∧i≤ps.length∧Hid (wr.ownsRow base 45 20 a (pre++x::(rows.take i).flatten).length (ndRow (pre++x::(rows.take i).flatten)))∧Hid (w.grownBy wr v.ownBlock)∧Hid (a.ownBlock=v.ownBlock ∨ ∃ b,a.ownBlock=some b∧w.heap.size≤b))
  case atStart=>exact ⟨0,rfl,rfl,by omega,own5,G5,at5⟩
  case round =>
   clear own5 G5 at5;obtain ⟨i,rfl,hgk,hile,OW,GR,AT⟩:=hrel;by_cases hlt:i<ps.length
   ·have hlti:(i:Int)<ps.length:=by omega
    obtain ⟨bb,rfl,hGb,hr,hpt⟩:=hp i hlt (by omega);have hrr:wr.rangeAt bb (i * 21) (pt21 (ps[i]).1 (ps[i]).2):=fun j u hu=>GR.out.cell (hr j u hu) (hG bb hGb)
    obtain ⟨av',len',cap',hsl⟩:=hpt.one;generalize hxx:(ps[i]).1=x' at *;generalize hss:(ps[i]).2=sl' at *;subst hsl;have pN:=AtL.new0 wr 56 (pt21 (bare 0) (.slice none 0 0));have hthN:World.there (wr.alloc (.cells #[.int .i64 0,.int .i64 0,.int .i64 0,.int .i64 0,.string ⟨#[]⟩,.bool false,.int .i64 0,.int .i64 0,.string ⟨#[]⟩,.int .i64 0,.string ⟨#[]⟩,.int .i64 0,.int .i64 0,.bool false,.bool false,.string ⟨#[]⟩,.int .i64 0,.int .i64 0,.bool false,.bool false,.slice none 0 0] 56)) wr.heap.size 0 (pt21 x' (.slice av' len' cap')).toArray.size:=pN.there;have pM:AtL ((wr.alloc (.cells #[.int .i64 0,.int .i64 0,.int .i64 0,.int .i64 0,.string ⟨#[]⟩,.bool false,.int .i64 0,.int .i64 0,.string ⟨#[]⟩,.int .i64 0,.string ⟨#[]⟩,.int .i64 0,.int .i64 0,.bool false,.bool false,.string ⟨#[]⟩,.int .i64 0,.int .i64 0,.bool false,.bool false,.slice none 0 0] 56)).setCells wr.heap.size 0 (pt21 x' (.slice av' len' cap'))) wr.heap.size (pt21 x' (.slice av' len' cap')):=AtL.setAll pN rfl;have rM:=pM.range;have hbM:=bset (ball (Below.refl _ wr) (.cells #[.int .i64 0,.int .i64 0,.int .i64 0,.int .i64 0,.string ⟨#[]⟩,.bool false,.int .i64 0,.int .i64 0,.string ⟨#[]⟩,.int .i64 0,.string ⟨#[]⟩,.int .i64 0,.int .i64 0,.bool false,.bool false,.string ⟨#[]⟩,.int .i64 0,.int .i64 0,.bool false,.bool false,.slice none 0 0] 56)) (Nat.le_refl wr.heap.size) (pt21 x' (.slice av' len' cap')) 0;go_wp2_with (first | ((with_reducible refine wpList_load_mid (cs:=pt21 x' (.slice av' len' cap')) ?_ 56 (.tmp 17) ?_ bb (i * 21) ?_ _ ?_ Tryz.underlying56 ?_ ?_ ?_);rfl;rfl;rfl;exact hrr;rfl;kernel_rfl) | ((with_reducible refine wpList_store_mid ?_ 56 (.tmp 6) (.tmp 18) ?_ (wr.heap.size) 0 (pt21 x' (.slice av' len' cap')).toArray ?_ ?_ ?_ ?_ ?_ ?_);rfl;rfl;rfl;rfl;exact hthN;kernel_rfl;exact one21 _ _ rfl) | ((with_reducible refine wpList_load_mid (cs:=pt21 x' (.slice av' len' cap')) ?_ 56 (.tmp 6) ?_ wr.heap.size 0 ?_ _ ?_ Tryz.underlying56 ?_ ?_ ?_);rfl;rfl;rfl;exact rM;rfl;kernel_rfl))
    generalize ((wr.alloc (.cells #[.int .i64 0,.int .i64 0,.int .i64 0,.int .i64 0,.string ⟨#[]⟩,.bool false,.int .i64 0,.int .i64 0,.string ⟨#[]⟩,.int .i64 0,.string ⟨#[]⟩,.int .i64 0,.int .i64 0,.bool false,.bool false,.string ⟨#[]⟩,.int .i64 0,.int .i64 0,.bool false,.bool false,.slice none 0 0] 56)).setCells wr.heap.size 0 (pt21 x' (.slice av' len' cap')))=wM at *;have hir:i<rows.length:=by omega
    have htk:rows.take (i+1)=rows.take i++[rows[i]]:=by rw [List.take_add_one,List.getElem?_eq_getElem hir];rfl
    have hfl:(rows.take i).flatten.length+(rows[i]).length≤rows.flatten.length:=by
     have:=congrArg (fun l=>l.flatten.length) (List.take_append_drop (i+1) rows);simp only [htk,List.flatten_append,List.length_append,List.flatten_cons,List.flatten_nil,List.append_nil] at this;omega
    have hsz1:=GR.out.size;have hsz2:=hbM.size;have hP1:=PtIs.inside (G':=fun b=>G b∧b<w.heap.size) (fun b hb hl=>⟨hb,hl⟩) n hpt;have hP2:=PtIs.keep (fun k hk h2=>GR.out.block k h2 (hG k hk.1)) n hP1;have hP3:=PtIs.keep (fun k hk h2=>hbM.block k h2) n hP2;have OWM:=OW.out.kept (row:=none) ⟨hbM.os,hbM.tape,hbM.output,hbM.size,fun k hk _=>hbM.block k hk⟩ (by cases u1.ownBlock <;> simp);have hGM:∀ b,G b∧b<w.heap.size→some b ≠ u1.ownBlock:=by
     intro b hb e;rcases AT.out with h | ⟨b',h,h'⟩
     ·exact hG b hb.1 (e.trans h)
     ·rw [h] at e;have:=Option.some.inj e;omega
    refine (ih x' (.slice av' len' cap') (rows[i]) _ u1 _ wM hP3 OWM hGM (by omega) (by simp only [List.length_append,List.length_cons] at hlen ⊢;omega)).mono ?_;rintro e w7 ⟨v7,rfl,own7,g7,at7⟩;have hsz3:=g7.size;have OW7:Hid (w7.ownsRow base 45 20 v7 (pre++x::(rows.take (i+1)).flatten).length (ndRow (pre++x::(rows.take (i+1)).flatten))):=by
     show World.ownsRow _ _ _ _ _ _ _
     rw [htk,List.flatten_append,List.flatten_cons,List.flatten_nil,List.append_nil,←List.cons_append,←List.append_assoc];exact own7
    have G7:Hid (w.grownBy w7 v.ownBlock):=⟨g7.os.trans (hbM.os.trans GR.out.os),g7.tape.trans (hbM.tape.trans GR.out.tape),g7.output.trans (hbM.output.trans GR.out.output),by omega,fun k hk hn=>(g7.block k (by omega) (by
      intro e;rcases AT.out with h | ⟨b',h,h'⟩
      ·exact hn (e.trans h)
      ·rw [h] at e;have:=Option.some.inj e;omega)).trans ((hbM.block k (by omega)).trans (GR.out.block k hk hn))⟩
    have A7:Hid (v7.ownBlock=v.ownBlock ∨ ∃ b,v7.ownBlock=some b∧w.heap.size≤b):=by
     rcases at7 with h | ⟨b,h,h'⟩
     ·rcases AT.out with h2 | ⟨b',h2,h3⟩
      ·exact .inl (h.trans h2)
      ·exact .inr ⟨b',h.trans h2,h3⟩
     ·exact .inr ⟨b,h,by omega⟩
    clear own7 g7 at7 OWM hP1 hP2 hP3 hbM pM rM hthN pN OW GR AT hGM;go_wp2_with fail
    go_roundg (ps.length - (i+1))
    case rel=>exact ⟨i+1,rfl,rfl,by omega,OW7,G7,A7⟩
    case measure=>omega
   ·obtain rfl:i=ps.length:=by omega
    have hlti:¬ (ps.length:Int)<ps.length:=by omega
    go_wp2_with fail
    go_ret;have hfull:rows.take ps.length=rows:=by rw [←hl];exact List.take_length
    have OW':=OW.out;rw [hfull] at OW';exact ⟨_,rfl,OW',GR.out,AT.out⟩
theorem fit_v0:Wt.FitV Wt.v0:=⟨by decide,by decide,by decide⟩
theorem e0:(⟨#[]⟩:ByteArray).size≤9223372036854775807:=by decide
theorem fit_op (k o:Int):Wt.FitN (opN k o):=⟨fit_v0,e0,e0,e0⟩
theorem fit_call {nm:List UInt8} (c:Nat) (h:nm.length≤1024):Wt.FitN (callN ⟨nm.toArray⟩ c):=⟨fit_v0,by show nm.length≤_;omega,e0,e0⟩
theorem fit_leaf {v:Wt.Vl} (h:Wt.FitV v):Wt.FitN (leafN v):=⟨h,e0,e0,e0⟩
theorem fit_lit {t:Wlx.TV} (ht:TokOk t) {v:Wt.Vl} (h:litV t=some v):Wt.FitV v:=by
 unfold litV at h;split at h
 ·split at h
  ·rw [←Option.some.inj h];generalize Wnum.oN (Wnum.rdO ⟨t.t.toArray⟩)=a;generalize Wnum.oD (Wnum.rdO ⟨t.t.toArray⟩)=b;obtain ⟨n1,n2⟩:=Wnum.cN_bd a b;obtain ⟨n3,n4⟩:=Wnum.cD_bd a b;refine ⟨?_,?_,e0⟩
   ·show _≤Wnum.cN a b∧Wnum.cN a b≤_
    omega
   ·show _≤Wnum.cD a b∧Wnum.cD a b≤_
    omega
  ·cases h
 split at h
 ·split at h
  ·rw [←Option.some.inj h];unfold vText;split
   ·split
    ·exact ⟨⟨by decide,by decide⟩,⟨by decide,by decide⟩,e0⟩
    ·exact ⟨⟨by simp,by simp⟩,⟨by simp,by simp⟩,by show t.t.length≤_;omega⟩
   ·exact ⟨⟨by decide,by decide⟩,⟨by decide,by decide⟩,e0⟩
  ·cases h
 split at h
 ·rw [←Option.some.inj h];exact ⟨⟨by simp,by simp⟩,⟨by simp,by simp⟩,e0⟩
 ·cases h
theorem rw1_s {l:List UInt8} {a:Wt.Rf} (h:rw1 l=some a):a.s=⟨#[]⟩:=by
 unfold rw1 at h;split at h
 ·split at h
  ·rw [←Option.some.inj h];rfl
  ·cases h
 ·cases h
theorem pc_fit {ts:List Wlx.TV} {en:Int} {a:Wt.Rf} {r:List Wlx.TV} (h:pc ts en=.inl (a,r)):a.s=⟨#[]⟩∧r.length<ts.length:=by
 have hr:=pc_rest h;unfold pc at h;split at h
 ·rename_i hk
  split at h
  ·cases h
  split at h
  ·cases h
  split at h
  ·rename_i a' ha
   simp only [Sum.inl.injEq,Prod.mk.injEq] at h;refine ⟨by rw [←h.1];exact rw1_s ha,?_⟩;cases ts with
   | nil=>exact absurd hk (by rw [hd_nil];decide)
   | cons t q=>rw [hr];simp
  ·cases h
 ·cases h
def Fits (n:Nat) (row:List Wt.Nd) (r:List Wlx.TV):Prop:=(∀ x ∈ row,Wt.FitN x)∧row.length+r.length≤n
theorem pl_fit {ts:List Wlx.TV} {en:Int} (hok:∀ t ∈ ts,TokOk t) {row:List Wt.Nd} {r:List Wlx.TV} (h:pl ts en=.inl (row,r)):Fits ts.length row r:=by
 unfold pl at h;split at h
 ·rename_i v hv
  simp only [Sum.inl.injEq,Prod.mk.injEq] at h;obtain ⟨q,hq⟩:=litV_cons hv;refine ⟨?_,?_⟩
  ·rw [←h.1];intro x hx;rw [List.mem_singleton.1 hx];exact fit_leaf (fit_lit (tokOk_hd en hok) hv)
  ·rw [←h.1,←h.2];rw [hq];simp;omega
 ·cases h
theorem fit_cell (k:Int) {s:ByteArray} (hs:s.size≤1024) (a b:Wt.Rf) (hb:b.s=⟨#[]⟩):Wt.FitN ⟨k,Wt.v0,0,⟨#[]⟩,0,⟨s,a.r,a.c,a.fr,a.fc⟩,b⟩:=⟨fit_v0,e0,by show s.size≤_;omega,by show b.s.size≤_;rw [hb];exact e0⟩
theorem pcs_fit {s:ByteArray} (hs:s.size≤1024) {ts:List Wlx.TV} {en:Int} {row:List Wt.Nd} {r:List Wlx.TV} (h:pcs s ts en=.inl (row,r)):Fits ts.length row r:=by
 unfold pcs at h;cases h1:pc ts en with
 | inr e=>rw [h1] at h;cases h
 | inl q =>
  obtain ⟨a,r1⟩:=q;rw [h1] at h;simp only at h;have f1:=pc_fit h1;cases h2:tk r1 [58] with
  | none =>
   rw [h2] at h;simp only [Sum.inl.injEq,Prod.mk.injEq] at h;rw [←h.1,←h.2];exact ⟨fun x hx=>by rw [List.mem_singleton.1 hx];exact fit_cell 2 hs a Wt.r0 rfl,by simp;omega⟩
  | some r2 =>
   rw [h2] at h;simp only at h;have s2:=(tk_suf h2).2;cases h3:pc r2 en with
   | inr e=>rw [h3] at h;cases h
   | inl q =>
    obtain ⟨b,r3⟩:=q;rw [h3] at h;simp only [Sum.inl.injEq,Prod.mk.injEq] at h;have f3:=pc_fit h3;rw [←h.1,←h.2];exact ⟨fun x hx=>by rw [List.mem_singleton.1 hx];exact fit_cell 3 hs a b f3.1,by simp;omega⟩
theorem ok_suf {ts r:List Wlx.TV} (hok:∀ t ∈ ts,TokOk t) (h:r <:+ ts):∀ t ∈ r,TokOk t:=fun t ht=>hok t (h.subset ht)
theorem more_fit {sub:List Wlx.TV→PR} (hsub:∀ ts row r,sub ts=.inl (row,r)→r <:+ ts) (hfit:∀ ts row r,(∀ t ∈ ts,TokOk t)→sub ts=.inl (row,r)→Fits ts.length row r) (k:Int):∀ (n:Nat) (row:List Wt.Nd) (ts:List Wlx.TV) (row':List Wt.Nd) (r:List Wlx.TV),(∀ t ∈ ts,TokOk t)→(∀ x ∈ row,Wt.FitN x)→more sub k n row ts=.inl (row',r)→Fits (row.length+ts.length) row' r:=by
 intro n;induction n with
 | zero=>intro row ts row' r hok hf h;simp only [more,Sum.inl.injEq,Prod.mk.injEq] at h;rw [←h.2,←h.1];exact ⟨hf,Nat.le_refl _⟩
 | succ n ih =>
  intro row ts row' r hok hf h;simp only [more] at h;cases h1:tkOp k ts with
  | none=>rw [h1] at h;simp only [Sum.inl.injEq,Prod.mk.injEq] at h;rw [←h.2,←h.1];exact ⟨hf,Nat.le_refl _⟩
  | some q =>
   obtain ⟨o,r1⟩:=q;rw [h1] at h;simp only at h;have s1:=tkOp_suf h1;cases h2:sub r1 with
   | inr e=>rw [h2] at h;cases h
   | inl q =>
    obtain ⟨row2,r2⟩:=q;rw [h2] at h;simp only at h;have f2:=hfit _ _ _ (ok_suf hok s1.1) h2;have s2:=hsub _ _ _ h2;have:=ih _ _ _ _ (ok_suf hok (s2.trans s1.1)) (by
     intro x hx;rcases List.mem_cons.1 hx with rfl | hx
     ·exact fit_op _ _
     rcases List.mem_append.1 hx with hx | hx
     ·exact hf x hx
     ·exact f2.1 x hx) h
    refine ⟨this.1,Nat.le_trans this.2 ?_⟩;have:=f2.2;simp only [List.length_cons,List.length_append];omega
theorem argl_fit {sub:List Wlx.TV→PR} (hsub:∀ ts row r,sub ts=.inl (row,r)→r <:+ ts) (hfit:∀ ts row r,(∀ t ∈ ts,TokOk t)→sub ts=.inl (row,r)→Fits ts.length row r) (en:Int):∀ (n c:Nat) (rows:List Wt.Nd) (ts:List Wlx.TV) (c':Nat) (rows':List Wt.Nd) (r:List Wlx.TV),(∀ t ∈ ts,TokOk t)→(∀ x ∈ rows,Wt.FitN x)→argl sub en n c rows ts=.inl (c',rows',r)→(∀ x ∈ rows',Wt.FitN x)∧rows'.length+r.length<rows.length+ts.length:=by
 intro n;induction n with
 | zero=>intro c rows ts c' rows' r _ _ h;cases h
 | succ n ih =>
  intro c rows ts c' rows' r hok hf h;simp only [argl] at h;cases h1:tk ts [41] with
  | some q=>rw [h1] at h;simp only [Sum.inl.injEq,Prod.mk.injEq] at h;have:=(tk_suf h1).2;rw [←h.2.2,←h.2.1];exact ⟨hf,by omega⟩
  | none =>
   rw [h1] at h;simp only at h;split at h
   ·cases h
   ·cases h2:tk ts [44] with
    | none=>rw [h2] at h;cases h
    | some r1 =>
     rw [h2] at h;simp only at h;have s1:=tk_suf h2;cases h3:sub r1 with
     | inr e=>rw [h3] at h;cases h
     | inl q =>
      obtain ⟨row,r2⟩:=q;rw [h3] at h;simp only at h;have f2:=hfit _ _ _ (ok_suf hok s1.1) h3;have s2:=hsub _ _ _ h3;have:=ih _ _ _ _ _ _ (ok_suf hok (s2.trans s1.1)) (by
       intro x hx;rcases List.mem_append.1 hx with hx | hx
       ·exact hf x hx
       ·exact f2.1 x hx) h
      have f3:=f2.2;refine ⟨this.1,Nat.lt_of_lt_of_le this.2 ?_⟩;simp only [List.length_append];omega
theorem pargs_fit {sub:List Wlx.TV→PR} (hsub:∀ ts row r,sub ts=.inl (row,r)→r <:+ ts) (hfit:∀ ts row r,(∀ t ∈ ts,TokOk t)→sub ts=.inl (row,r)→Fits ts.length row r) (en:Int) (nm:List UInt8) (hnm:nm.length≤1024) (ts:List Wlx.TV) (row:List Wt.Nd) (r:List Wlx.TV) (hok:∀ t ∈ ts,TokOk t) (h:pargs sub en nm ts=.inl (row,r)):Fits ts.length row r:=by
 unfold pargs at h;cases h1:tk ts [41] with
 | some q =>
  rw [h1] at h;simp only [Sum.inl.injEq,Prod.mk.injEq] at h;have:=(tk_suf h1).2;rw [←h.2,←h.1];exact ⟨fun x hx=>by rw [List.mem_singleton.1 hx];exact fit_call 0 hnm,by simp;omega⟩
 | none =>
  rw [h1] at h;simp only at h;cases h2:sub ts with
  | inr e=>rw [h2] at h;cases h
  | inl q =>
   obtain ⟨row1,r1⟩:=q;rw [h2] at h;simp only at h;have f2:=hfit _ _ _ hok h2;have s2:=hsub _ _ _ h2;cases h3:argl sub en (r1.length+1) 1 row1 r1 with
   | inr e=>rw [h3] at h;cases h
   | inl q =>
    obtain ⟨c,rows,r2⟩:=q;rw [h3] at h;simp only [Sum.inl.injEq,Prod.mk.injEq] at h;have f3:=argl_fit hsub hfit en _ _ _ _ _ _ _ (ok_suf hok s2) f2.1 h3;rw [←h.2,←h.1];refine ⟨?_,?_⟩
    ·intro x hx;rcases List.mem_cons.1 hx with rfl | hx
     ·exact fit_call c hnm
     ·exact f3.1 x hx
    ·have:=f3.2;have:=f2.2;simp only [List.length_cons];omega
theorem pword_fit {sub:List Wlx.TV→PR} (hsub:∀ ts row r,sub ts=.inl (row,r)→r <:+ ts) (hfit:∀ ts row r,(∀ t ∈ ts,TokOk t)→sub ts=.inl (row,r)→Fits ts.length row r) (en:Int) (ts:List Wlx.TV) (row:List Wt.Nd) (r:List Wlx.TV) (hok:∀ t ∈ ts,TokOk t) (h3:(hd ts en).k=3) (h:pword sub en ts=.inl (row,r)):Fits ts.length row r:=by
 have hl:=(tokOk_hd en hok).1;have hne:0<ts.length:=by
  cases ts with
  | nil=>exact absurd h3 (by rw [hd_nil];decide)
  | cons t q=>simp
 have hdr:∀ k,(ts.drop k).length≤ts.length:=fun k=>by rw [List.length_drop];omega
 have hb:ByteArray.size ⟨(hd ts en).t.toArray⟩≤1024:=hl;unfold pword at h;split at h
 ·split at h
  ·have:=pargs_fit hsub hfit en _ hl _ _ _ (ok_suf hok (List.drop_suffix 2 ts)) h;exact ⟨this.1,Nat.le_trans this.2 (hdr 2)⟩
  ·cases h
 split at h
 ·split at h
  ·have:=pcs_fit hb h;exact ⟨this.1,Nat.le_trans this.2 (hdr 2)⟩
  ·cases h
 split at h
 ·simp only [Sum.inl.injEq,Prod.mk.injEq] at h;rw [←h.2,←h.1];exact ⟨fun x hx=>by rw [List.mem_singleton.1 hx];exact fit_leaf ⟨by decide,by decide,by decide⟩,by simp;omega⟩
 split at h
 ·simp only [Sum.inl.injEq,Prod.mk.injEq] at h;rw [←h.2,←h.1];exact ⟨fun x hx=>by rw [List.mem_singleton.1 hx];exact fit_leaf ⟨by decide,by decide,by decide⟩,by simp;omega⟩
 ·exact pcs_fit (by decide) h
theorem pbrack_fit {sub:List Wlx.TV→PR}  (hfit:∀ ts row r,(∀ t ∈ ts,TokOk t)→sub ts=.inl (row,r)→Fits ts.length row r) (en:Int) (ts:List Wlx.TV) (row:List Wt.Nd) (r:List Wlx.TV) (hok:∀ t ∈ ts,TokOk t) (h:pbrack sub en ts=.inl (row,r)):Fits ts.length row r:=by
 unfold pbrack at h;cases h1:tk ts [40] with
 | none=>rw [h1] at h;cases h
 | some r1 =>
  rw [h1] at h;simp only at h;have s1:=tk_suf h1;cases h2:sub r1 with
  | inr e=>rw [h2] at h;cases h
  | inl q =>
   obtain ⟨row2,r2⟩:=q;rw [h2] at h;simp only at h;have f2:=hfit _ _ _ (ok_suf hok s1.1) h2;cases h3:tk r2 [41] with
   | none=>rw [h3] at h;cases h
   | some r3 =>
    rw [h3] at h;simp only [Sum.inl.injEq,Prod.mk.injEq] at h;have s3:=tk_suf h3;have:=f2.2;rw [←h.2,←h.1];exact ⟨f2.1,by omega⟩
theorem pct_fit:∀ (n:Nat) (row:List Wt.Nd) (ts:List Wlx.TV) (row':List Wt.Nd) (r:List Wlx.TV),(∀ x ∈ row,Wt.FitN x)→pct n row ts=.inl (row',r)→Fits (row.length+ts.length) row' r:=by
 intro n;induction n with
 | zero=>intro row ts row' r hf h;simp only [pct,Sum.inl.injEq,Prod.mk.injEq] at h;rw [←h.2,←h.1];exact ⟨hf,Nat.le_refl _⟩
 | succ n ih =>
  intro row ts row' r hf h;simp only [pct] at h;cases h1:tkOp 6 ts with
  | none=>rw [h1] at h;simp only [Sum.inl.injEq,Prod.mk.injEq] at h;rw [←h.2,←h.1];exact ⟨hf,Nat.le_refl _⟩
  | some q =>
   obtain ⟨o,r1⟩:=q;rw [h1] at h;simp only at h;have s1:=tkOp_suf h1;have:=ih _ _ _ _ (fun x hx=>by
    rcases List.mem_cons.1 hx with rfl | hx
    ·exact fit_op _ _
    ·exact hf x hx) h
   refine ⟨this.1,Nat.le_trans this.2 ?_⟩;simp only [List.length_cons];omega
theorem lv_fit (en:Int):∀ (f k:Nat) (ts:List Wlx.TV) (row:List Wt.Nd) (r:List Wlx.TV),(∀ t ∈ ts,TokOk t)→lv en f k ts=.inl (row,r)→Fits ts.length row r:=by
 intro f;induction f with
 | zero=>intro k ts row r _ h;cases h
 | succ f ih =>
  intro k ts row r hok h;simp only [lv] at h;split at h
  ·cases h1:lv en f (k+1) ts with
   | inr e=>rw [h1] at h;cases h
   | inl q =>
    obtain ⟨row1,r1⟩:=q;rw [h1] at h;simp only at h;have f1:=ih _ _ _ _ hok h1;have:=more_fit (lv_suf en f (k+1)) (ih (k+1)) _ _ _ _ _ _ (ok_suf hok (lv_suf en _ _ _ _ _ h1)) f1.1 h;exact ⟨this.1,Nat.le_trans this.2 f1.2⟩
  split at h
  ·cases h1:tkOp 5 ts with
   | none=>rw [h1] at h;exact ih _ _ _ _ hok h
   | some q =>
    obtain ⟨o,r1⟩:=q;rw [h1] at h;simp only at h;have s1:=tkOp_suf h1;cases h2:lv en f 5 r1 with
    | inr e=>rw [h2] at h;cases h
    | inl q =>
     obtain ⟨row2,r2⟩:=q;rw [h2] at h;simp only [Sum.inl.injEq,Prod.mk.injEq] at h;have f2:=ih _ _ _ _ (ok_suf hok s1.1) h2;rw [←h.2,←h.1];refine ⟨fun x hx=>?_,?_⟩
     ·rcases List.mem_cons.1 hx with rfl | hx
      ·exact fit_op _ _
      ·exact f2.1 x hx
     ·have:=f2.2;simp only [List.length_cons];omega
  split at h
  ·cases h1:lv en f 7 ts with
   | inr e=>rw [h1] at h;cases h
   | inl q =>
    obtain ⟨row1,r1⟩:=q;rw [h1] at h;simp only at h;have f1:=ih _ _ _ _ hok h1;have:=pct_fit _ _ _ _ _ f1.1 h;exact ⟨this.1,Nat.le_trans this.2 f1.2⟩
  split at h
  ·rename_i h3
   exact pword_fit (lv_suf en f 0) (ih 0) _ _ _ _ hok h3 h
  split at h
  ·exact pbrack_fit (ih 0) _ _ _ _ hok h
  ·exact pl_fit hok h
end Go.Proofs.YtlggnpohhahdlaaGreatDoor
