/- TBetw. -/
import Derived.Test.YtedifblompcdkaaGreatDoorQ33
set_option maxHeartbeats 16000000
set_option maxRecDepth 100000
namespace Go.Proofs.YtedifblompcdkaaGreatDoor
open Tryz
variable {sub:List Wlx.TV->PR}
open Go.RowKit Go.Shelf
set_option linter.unusedVariables false
def nxt (sub:List Wlx.TV->PR) (k:Nat) (o t:Int) (row:List Wt.Nd) (us:List Wlx.TV):PR:=match sub us with
 | .inr e=>.inr e
 | .inl (row2,r2)=>more sub k r2.length (opN (zAo t) o::(row++row2)) r2
theorem zKX (hsub:∀ ts row r,sub ts=.inl (row,r)->r <:+ ts) (k:Int):∀ (n m:Nat) (row:List Wt.Nd) (ts:List Wlx.TV),ts.length<=n->ts.length<=m->more sub k n row ts=more sub k m row ts:=by
 intro n;induction n with
 | zero =>
  intro m row ts h1 h2;obtain rfl:=List.eq_nil_of_length_eq_zero (Nat.le_zero.1 h1);cases m <;> rfl
 | succ n ih =>
  intro m row ts h1 h2;cases m with
  | zero =>
   obtain rfl:=List.eq_nil_of_length_eq_zero (Nat.le_zero.1 h2);rfl
  | succ m =>
   simp only [more];cases h:zBk k ts with
   | none=>rfl
   | some q =>
    obtain ⟨o,r⟩:=q;simp only;have hl:=(zAl h).2;cases hs:sub r with
    | inr e=>rfl
    | inl q =>
     obtain ⟨row2,r2⟩:=q;simp only;have:=(hsub _ _ _ hs).length_le;exact ih m _ _ (by omega) (by omega)
theorem zCr {kp:Nat} {en:Int} {k:Nat} {us0:List Wlx.TV} {w w':World} {e:Ending} (hsub:∀ ts row r,sub ts=.inl (row,r)->r <:+ ts) (row:List Wt.Nd) (h:zBO kp en us0 (zBk k us0) w e w'):∃ (o:Int) (m:List UInt8) (t:Int) (q:Bool) (us:List Wlx.TV),e=.returned (.tuple #[.agg #[.int .i64 o,.string ⟨m.toArray⟩,.int .i64 t],.bool q])/\PSt w' kp us en/\w.grownBy w' (some kp)/\more sub k us0.length row us0=(if q then nxt sub k o t row us else .inl (row,us))/\us.length+(if q then 1 else 0)<=us0.length/\us <:+ us0:=by
 cases h1:zBk k us0 with
 | none =>
  rw [h1] at h;simp only [zBO] at h;refine ⟨0,[],0,false,us0,h.1,h.2.1,h.2.2,?_,by simp,List.suffix_refl _⟩;cases us0 with
  | nil=>rfl
  | cons a b=>show more sub k (b.length+1) row (a::b)=_;simp only [more,h1];rfl
 | some z =>
  obtain ⟨⟨o,m,t⟩,r⟩:=z;rw [h1] at h;simp only [zBO] at h;obtain ⟨s1,s2⟩:=zAl h1;refine ⟨o,m,t,true,r,h.1,h.2.1,h.2.2,?_,by simp;omega,s1⟩;obtain ⟨n,hn⟩:∃ n,us0.length=n+1:=⟨us0.length - 1,by omega⟩
  rw [hn];simp only [more,h1,nxt,if_true];cases hs:sub r with
  | inr e=>rfl
  | inl q =>
   obtain ⟨row2,r2⟩:=q;simp only;have:=(hsub _ _ _ hs).length_le;exact zKX hsub _ _ _ _ _ (by omega) (Nat.le_refl _)
def pbt (sub:List Wlx.TV->PR) (k:Nat) (ts:List Wlx.TV):PR:=match sub ts with
 | .inr e=>.inr e
 | .inl (row,r)=>more sub k r.length row r
theorem zGU (kp:Nat) (en:Int) (k:Nat) (hk5:k<5) (sub:List Wlx.TV->PR) (n:Nat) (HB:zLJ kp en (k+1) sub n) (hsub:∀ ts row r,sub ts=.inl (row,r)->r <:+ ts) (ts:List Wlx.TV) (w:World) (h:PSt w kp ts en) (hn:ts.length<=n) (hts:ts.length<=1024) (hok:∀ t ∈ ts,zA5 t) (hE:Env w) (hk8:8<=kp) :
  Calls prog 155 #[.pointer (some ⟨kp,0,none⟩),.int .i64 k] w λe w'=>zAQ kp en (pbt sub k ts) w e w':=by
 have hB0:=zAH (Below.refl _ w) (.cells zP0 180);have pZ:AtL (w.alloc (.cells zP0 180)) w.heap.size (zAJ (bare 0) (.slice none 0 0)):=AtL.new0 w _ _;have h0:=h.below hB0;have hE0:=hE.below hB0;have hkp:=h.lt;have hkk:((k:Int) == 5)=false:=by rw [beq_eq_false_iff_ne];omega
 have hwk:IntKind.i64.wrap ((k:Int)+1)=(k:Int)+1:=IntWalk.i64_in _ (by omega);have HB:∀ (ts:List Wlx.TV) (w:World),PSt w kp ts en->ts.length<=n->ts.length<=1024->(∀ t ∈ ts,zA5 t)->Env w->Calls prog 155 #[.pointer (some ⟨kp,0,none⟩),.int .i64 ((k:Int)+1)] w λe w'=>zAQ kp en (sub ts) w e w':=HB
 unfold pbt;cases hs:sub ts with
 | inr q =>
  obtain ⟨c,p⟩:=q;simp only [zAQ];go_enter func155,ntmps155;go_wp2_with fail
  generalize w.alloc (.cells zP0 180)=wa at *;refine (HB ts _ h0 hn hts hok hE0).mono ?_;rintro e w1 hc;rw [hs] at hc;simp only [zAQ] at hc;obtain ⟨rfl,hg⟩:=hc;unfold zB2;go_wp2;exact ⟨rfl,rfl,zAD (zAE hB0 (some kp)) hg⟩
 | inl q =>
  obtain ⟨row,r1⟩:=q;have hsuf:=hsub _ _ _ hs;have hl1:=hsuf.length_le;simp only;obtain ⟨R,hR⟩:∃ R,more sub k r1.length row r1=R:=⟨_,rfl⟩
  rw [hR];go_enter func155,ntmps155;go_wp2_with fail
  generalize w.alloc (.cells zP0 180)=wa at *;refine (HB ts _ h0 hn hts hok hE0).mono ?_;rintro e w1 hc;rw [hs] at hc;simp only [zAQ] at hc;obtain ⟨v,rfl,hP,h1,hg⟩:=hc;have hza:=pZ.lt;have pZ1:=pZ.grown hg (by intro e;have:=Option.some.inj e;omega);have hG1:=zAD (zAE hB0 (some kp)) hg;have hE1:=hE0.grown hg hk8;obtain ⟨nn,x,sl,rfl,hp⟩:=hP;obtain ⟨av,len,cap,rfl⟩:=hp.one;clear pZ h0 hB0 hE0 hg;unfold ptV;have pX0:AtL (w1.alloc (.cells zP0 180)) w1.heap.size (zAJ (bare 0) (.slice none 0 0)):=AtL.new0 w1 _ _;have hthX:World.there (w1.alloc (.cells zP0 180)) w1.heap.size 0 (zAJ x (.slice av len cap)).toArray.size:=pX0.there;go_upto_region 4 with ((with_reducible refine wpList_store_mid ?_ 180 (.tmp 5) (.tmp 15) ?_ (w1.heap.size) 0 (zAJ x (.slice av len cap)).toArray ?_ ?_ ?_ ?_ ?_ ?_);rfl;rfl;rfl;rfl;exact hthX;kernel_rfl;exact zAi _ _ rfl)
  have hbX:=zBJ (zAH (Below.refl _ w1) (.cells zP0 180)) (Nat.le_refl w1.heap.size) (zAJ x (.slice av len cap)) 0;have pX:AtL ((w1.alloc (.cells zP0 180)).setCells w1.heap.size 0 (zAJ x (.slice av len cap))) w1.heap.size (zAJ x (.slice av len cap)):=pX0.setAll rfl;have pZ2:=AtL.below hbX pZ1;have h2:=h1.below hbX;have hE2:=hE1.below hbX;have hG2:=zAD hG1 (zAE hbX (some kp));have hp1:PtIs w1 (λb=>w.heap.size+1<=b/\b ≠ w1.heap.size) nn x (.slice av len cap) row:=PtIs.inside (λb hb hl=>⟨by have hb':wa.heap.size<=b:=hb;omega,by omega⟩) nn hp;have hp2:=PtIs.keep (λk _ h2=>hbX.block k h2) nn hp1;have hkx:kp<w1.heap.size:=h1.lt;have hzx:=pZ1.lt;clear pX0 hthX hbX pZ1 h1 hE1 hG1 hp hp1;generalize (w1.alloc (.cells zP0 180)).setCells w1.heap.size 0 (zAJ x (.slice av len cap))=w2 at *;generalize w1.heap.size=kx at *;have T1:=zBK kp r1 en k w2 h2 (by omega) hE2.1;go_wp2_with fail
  refine T1.mono ?_;rintro e w3 hc;obtain ⟨o,m,t,q,us,rfl,h3,hg3,hq,hle,hsu0⟩:=zCr hsub row hc;rw [hR] at hq;have E0:Hid (R=if q then nxt sub k o t row us else .inl (row,us)):=hq;have hb4:=zAH (Below.refl _ w3) (.cells #[.int .i64 o,.string ⟨m.toArray⟩,.int .i64 t] 211);have hx2:=pX.lt;have hs3:=hg3.size;have A1:Hid (AtL (w3.alloc (.cells #[.int .i64 o,.string ⟨m.toArray⟩,.int .i64 t] 211)) w3.heap.size [.int .i64 o,.string ⟨m.toArray⟩,.int .i64 t]):=AtL.new0 w3 211 [.int .i64 o,.string ⟨m.toArray⟩,.int .i64 t];have A2:Hid (AtL (w3.alloc (.cells #[.int .i64 o,.string ⟨m.toArray⟩,.int .i64 t] 211)) kx (zAJ x (.slice av len cap))):=AtL.below hb4 (pX.grown hg3 (by intro e;have:=Option.some.inj e;omega));have A3:Hid (AtL (w3.alloc (.cells #[.int .i64 o,.string ⟨m.toArray⟩,.int .i64 t] 211)) w.heap.size (zAJ (bare 0) (.slice none 0 0))):=AtL.below hb4 (pZ2.grown hg3 (by intro e;have:=Option.some.inj e;omega));have A4:Hid (PtIs (w3.alloc (.cells #[.int .i64 o,.string ⟨m.toArray⟩,.int .i64 t] 211)) (λb=>w.heap.size+1<=b/\b ≠ kx) nn x (.slice av len cap) row):=PtIs.keep (λk _ h2=>hb4.block k h2) nn (PtIs.keep (λk hk h2=>hg3.block k h2 (by intro e;have:=Option.some.inj e;have:=hk.1;omega)) nn hp2);have A5:=h3.below hb4;have A6:Hid (w.grownBy (w3.alloc (.cells #[.int .i64 o,.string ⟨m.toArray⟩,.int .i64 t] 211)) (some kp)):=zAD (zAD hG2 hg3) (zAE hb4 (some kp))
  have A7:=(hE2.grown hg3 hk8).below hb4;have hko:kx<w3.heap.size:=by omega
  have hsu1:Hid (us <:+ r1):=hsu0;clear hc hq T1 hb4 pX pZ2 h2 hE2 hG2 hp2 h3 hg3 hR hs;go_wp2_with fail
  go_loopg [6,7] (us.length+(if q then 1 else 0)) (λgk a b wr=>∃ (ko:Nat) (o:Int) (m:List UInt8) (t:Int) (q:Bool) (nn:Nat) (x:Wt.Nd) (av:Option Addr) (len cap:Nat) (row:List Wt.Nd) (us:List Wlx.TV),a=.pointer (some ⟨ko,0,none⟩)/\b=.bool q/\gk=us.length+(if q then 1 else 0)/\us.length+(if q then 1 else 0)<=r1.length/\us.length<=1024/\kx<ko/\Hid (us <:+ r1)/\Hid (R=if q then nxt sub k o t row us else .inl (row,us))/\Hid (AtL wr ko [.int .i64 o,.string ⟨m.toArray⟩,.int .i64 t])/\Hid (AtL wr kx (zAJ x (.slice av len cap)))/\Hid (AtL wr w.heap.size (zAJ (bare 0) (.slice none 0 0)))/\Hid (PtIs wr (λb=>w.heap.size+1<=b/\b ≠ kx) nn x (.slice av len cap) row)/\PSt wr kp us en/\Hid (w.grownBy wr (some kp))/\Env wr)
  case atStart=>exact ⟨w3.heap.size,o,m,t,q,nn,x,av,len,cap,row,us,rfl,rfl,rfl,hle,by omega,hko,hsu1,E0,A1,A2,A3,A4,A5,A6,A7⟩
  case round =>
   clear A1 A2 A3 A4 A5 A6 A7 E0 hko hsu1 hsu0;obtain ⟨ko,o,m,t,q,nn,x,av,len,cap,row,us,rfl,rfl,hgk,hle,hus,hko,hsu,E,A1,A2,A3,A4,h5,A6,hE5⟩:=hrel;cases q
   ·have hR:Hid (R=.inl (row,us)):=E.out;have rX:=A2.out.range;have hth:World.there wr w.heap.size 0 (zAJ x (.slice av len cap)).toArray.size:=A3.out.there;clear E;go_wp2_with (first | ((with_reducible refine wpList_load_mid (cs:=zAJ x (.slice av len cap)) ?_ 180 (.tmp 5) ?_ kx 0 ?_ _ ?_ underlying180 ?_ ?_ ?_);rfl;rfl;rfl;exact rX;rfl;kernel_rfl) | ((with_reducible refine wpList_store_mid ?_ 180 (.tmp 4) (.tmp 38) ?_ (w.heap.size) 0 (zAJ x (.slice av len cap)).toArray ?_ ?_ ?_ ?_ ?_ ?_);rfl;rfl;rfl;rfl;exact hth;kernel_rfl;exact zAi _ _ rfl))
    have pZ9:AtL (wr.setCells w.heap.size 0 (zAJ x (.slice av len cap))) w.heap.size (zAJ x (.slice av len cap)):=A3.out.setAll rfl;refine bodyPost_ret (zAO rfl _ _ w.heap.size (zAJ x (.slice av len cap)) _ rfl pZ9.range underlying180 rfl (by kernel_rfl)) rfl ?_;rw [hR.out];simp only [zAQ];refine ⟨_,rfl,?_,h5.farAll hkp _ 0,zAN A6.out (Nat.le_refl _) _ 0⟩;exact (Pt.far (show Pt wr (w.heap.size+1) (ptV x (.slice av len cap)) row from ⟨nn,x,_,rfl,PtIs.mono (λb hb=>hb.1) nn A4.out⟩) (Nat.lt_succ_self _) 0 _).mono (Nat.le_succ _)
   ·have hle1:us.length+1<=r1.length:=by simpa using hle
    have hoku:∀ t ∈ us,zA5 t:=λt ht=>hok t (hsuf.subset (hsu.out.subset ht))
    have hx2:=A2.out.lt;have hz2:=A3.out.lt;have ho2:=A1.out.lt;cases hs:sub us with
    | inr q2 =>
     obtain ⟨c,p⟩:=q2;have ER:Hid (R=.inr (c,p)):=by show _=_;rw [E.out];simp only [if_true,nxt,hs]
     clear E;go_upto_region 7 with fail
     obtain ⟨wd,hwd⟩:∃ wd,wd=wr.drew:=⟨_,rfl⟩
     have hbd:Below wr.heap.size wr wd:=by rw [hwd];exact (Below.refl _ _).drew
     have hsd:wd.heap.size=wr.heap.size:=by rw [hwd];rfl
     have pO:=AtL.below hbd A1.out;have pX:=AtL.below hbd A2.out;have pZ:=AtL.below hbd A3.out;have hPx:=PtIs.keep (λk _ h2=>hbd.block k h2) nn A4.out;have hG:=zAD A6.out (zAE hbd (some kp));replace h5:=h5.below hbd
     replace hE5:=hE5.below hbd
     have rX:=pX.range;have hx2:=pX.lt;have hz2:=pZ.lt;have ho2:=pO.lt;refine wp_region_held_drew (S:=OpS ko 0 o ⟨m.toArray⟩ t) (by kernel_rfl) (by rw [<-hwd];exact zAg pO) (λhHeld=>?_);rw [<-hwd] at hHeld ⊢;clear hwd hbd A1 A2 A3 A4 A6;refine tkQ 0 ?_
     refine tkQ 2 ?_
     refine tkQ 3 ?_
     refine tkQ 4 ?_
     refine wpAnyH_ready (rs:=[1,5]) (by kernel_rfl) (by simp) ?_;refine AllReadyH.cons (atQ rfl) (λK hK=>?_) (AllReadyH.cons (atQ rfl) (λK hK=>?_) AllReadyH.nil)
     ·refine wp_load_mid 180 (.tmp 5) rfl kx 0 rfl (zAJ x (.slice av len cap)) _ rX underlying180 rfl (by kernel_rfl) ?_;refine hkQ hK (zAg pO) (λhHeld=>?_);clear hK K
      refine rdQ 5 (λK hK=>?_);go_simp
      refine (HB us wd h5 (by omega) hus hoku hE5).mono ?_;rintro e w3 hc;rw [hs] at hc;simp only [zAQ] at hc;obtain ⟨rfl,hg⟩:=hc;unfold zB2;go_wp2;refine ⟨rfl,?_⟩;rw [ER.out];exact ⟨rfl,zAD hG hg⟩
     ·go_simp
      refine (HB us wd h5 (by omega) hus hoku hE5).mono ?_;rintro e w3 hc;rw [hs] at hc;simp only [zAQ] at hc;obtain ⟨rfl,hg⟩:=hc;unfold zB2;go_wp2;refine ⟨rfl,?_⟩;rw [ER.out];exact ⟨rfl,zAD hG hg⟩
    | inl q2 =>
     obtain ⟨row2,r2⟩:=q2;have hsu2:=hsub _ _ _ hs;have hl2:=hsu2.length_le;have ER:Hid (R=more sub k r2.length (opN (zAo t) o::(row++row2)) r2):=by show _=_;rw [E.out];simp only [if_true,nxt,hs]
     clear E;go_upto_region 7 with fail
     obtain ⟨wd,hwd⟩:∃ wd,wd=wr.drew:=⟨_,rfl⟩
     have hbd:Below wr.heap.size wr wd:=by rw [hwd];exact (Below.refl _ _).drew
     have hsd:wd.heap.size=wr.heap.size:=by rw [hwd];rfl
     have pO:=AtL.below hbd A1.out;have pX:=AtL.below hbd A2.out;have pZ:=AtL.below hbd A3.out;have hPx:=PtIs.keep (λk _ h2=>hbd.block k h2) nn A4.out;have hG:=zAD A6.out (zAE hbd (some kp));replace h5:=h5.below hbd
     replace hE5:=hE5.below hbd
     have rX:=pX.range;have hx2:=pX.lt;have hz2:=pZ.lt;have ho2:=pO.lt;refine wp_region_held_drew (S:=OpS ko 0 o ⟨m.toArray⟩ t) (by kernel_rfl) (by rw [<-hwd];exact zAg pO) (λhHeld=>?_);rw [<-hwd] at hHeld ⊢;clear hwd hbd A1 A2 A3 A4 A6;refine tkQ 0 ?_
     refine tkQ 2 ?_
     refine tkQ 3 ?_
     refine tkQ 4 ?_
     refine wpAnyH_ready (rs:=[1,5]) (by kernel_rfl) (by simp) ?_;refine AllReadyH.cons (atQ rfl) (λK hK=>?_) (AllReadyH.cons (atQ rfl) (λK hK=>?_) AllReadyH.nil)
     ·refine wp_load_mid 180 (.tmp 5) rfl kx 0 rfl (zAJ x (.slice av len cap)) _ rX underlying180 rfl (by kernel_rfl) ?_;refine hkQ hK (zAg pO) (λhHeld=>?_);clear hK K
      refine rdQ 5 (λK hK=>?_);go_simp
      refine (HB us wd h5 (by omega) hus hoku hE5).mono ?_;rintro e w3 hc;rw [hs] at hc;simp only [zAQ] at hc;obtain ⟨v,rfl,hP,h3,hg⟩:=hc;obtain ⟨n2,y,sl2,rfl,hp2⟩:=hP;obtain ⟨bv,ben,bap,rfl⟩:=hp2.one;unfold ptV;go_wp2_with fail
      replace pO:=pO.grown hg (by intro e;have:=Option.some.inj e;omega)
      replace pX:=pX.grown hg (by intro e;have:=Option.some.inj e;omega)
      replace pZ:=pZ.grown hg (by intro e;have:=Option.some.inj e;omega)
      replace hPx:=PtIs.keep (λk hk h2=>hg.block k h2 (by intro e;have:=Option.some.inj e;have:=hk.1;omega)) nn hPx
      have hPy:PtIs w3 (λb=>w.heap.size+1<=b/\b ≠ kx) n2 y (.slice bv ben bap) row2:=PtIs.mono (λb hb=>⟨by have hb':wd.heap.size<=b:=hb;omega,by have hb':wd.heap.size<=b:=hb;omega⟩) n2 hp2;replace hG:=zAD hG hg
      replace hE5:=hE5.grown hg hk8
      refine hkQ hK (zAg pO) (λhHeld=>?_);clear hK K hg hp2 h5
      refine rdQ 6 (λK hK=>?_);refine zNR (.tmp 30) (.tmp 34) rfl x av len cap y bv ben bap rfl rfl ?_;have hb4:=zAH (Below.refl _ w3) (.cells (zAJ x (.slice av len cap)++zAJ y (.slice bv ben bap)).toArray 180);obtain ⟨rg1,rg2⟩:=zFM w3 180 (zAJ x (.slice av len cap)) (zAJ y (.slice bv ben bap));have hx3:=pX.lt;have hz3:=pZ.lt;have hun:=PtIs.bin (G:=λb=>w.heap.size+1<=b/\b ≠ kx) (z:=opN (zAo t) o) (PtIs.keep (λk _ h2=>hb4.block k h2) nn hPx) (PtIs.keep (λk _ h2=>hb4.block k h2) n2 hPy) (⟨by omega,by omega⟩:w.heap.size+1<=w3.heap.size/\w3.heap.size ≠ kx) rg1 rg2;replace h3:=h3.below hb4
      replace pO:=AtL.below hb4 pO
      replace pX:=AtL.below hb4 pX
      replace pZ:=AtL.below hb4 pZ
      replace hG:=zAD hG (zAE hb4 (some kp))
      replace hE5:=hE5.below hb4
      refine hkQ hK (zAg pO) (λhHeld=>?_);clear hK K hb4 rg1 rg2 hPx hPy
      refine rdQ 7 (λK hK=>?_);go_simp
      refine (zBE o ⟨m.toArray⟩ t (some ⟨w3.heap.size,0,none⟩) 2 2 _).mono ?_;rintro e w6 ⟨rfl,hb⟩;replace h3:=h3.below hb
      replace pO:=AtL.below hb pO
      replace pX:=AtL.below hb pX
      replace pZ:=AtL.below hb pZ
      replace hG:=zAD hG (zAE hb (some kp))
      replace hE5:=hE5.below hb
      replace hun:=PtIs.keep (λk _ h2=>hb.block k h2) _ hun
      clear hb;go_wp2_with fail
      refine hkQ hK (zAg pO) (λhHeld=>?_);clear hK K
      refine rdQ 8 (λK hK=>?_);unfold ptV;refine wp_store_mid 180 (.tmp 5) (.tmp 36) rfl kx 0 (zAJ (opN (zAo t) o) (.slice (some ⟨w3.heap.size,0,none⟩) 2 2)).toArray rfl rfl pX.there (by kernel_rfl) (zAi _ _ rfl) ?_;have pX7:AtL (w6.setCells kx 0 (zAJ (opN (zAo t) o) (.slice (some ⟨w3.heap.size,0,none⟩) 2 2))) kx (zAJ (opN (zAo t) o) (.slice (some ⟨w3.heap.size,0,none⟩) 2 2)):=pX.setAll rfl;have pO7:=pO.farAll (b:=kx) (by omega) 0 (zAJ (opN (zAo t) o) (.slice (some ⟨w3.heap.size,0,none⟩) 2 2));have pZ7:=pZ.farAll (b:=kx) (by omega) 0 (zAJ (opN (zAo t) o) (.slice (some ⟨w3.heap.size,0,none⟩) 2 2));have hun7:=PtIs.keep (w':=w6.setCells kx 0 (zAJ (opN (zAo t) o) (.slice (some ⟨w3.heap.size,0,none⟩) 2 2))) (λk hk _=>zA9 kx k hk.2 _ 0 w6) _ hun;have h7:=h3.farAll hkx (zAJ (opN (zAo t) o) (.slice (some ⟨w3.heap.size,0,none⟩) 2 2)) 0;have hG7:=zAN hG (b:=kx) (by omega) (zAJ (opN (zAo t) o) (.slice (some ⟨w3.heap.size,0,none⟩) 2 2)) 0;have hE7:=hE5.grown (zB6 w6 kx (zAJ (opN (zAo t) o) (.slice (some ⟨w3.heap.size,0,none⟩) 2 2)) 0) (by omega);refine hK.out _ _ (zAg pO7) (λhHeld=>?_);clear hK K pX pO pZ hun h3 hG hE5 rX;try simp only [Act.put]
      refine wpAnyH_done (by kernel_rfl) ?_ _;generalize w6.setCells kx 0 (zAJ (opN (zAo t) o) (.slice (some ⟨w3.heap.size,0,none⟩) 2 2))=w7 at *;obtain ⟨c0,c1,c2⟩:=pO7.f3;have hb8:=zAH (Below.refl _ w7) (.cells #[.int .i64 o,.string ⟨m.toArray⟩,.int .i64 t] 211);have T8:=zBK kp r2 en k _ (h7.below hb8) (by omega) (hE7.below hb8).1;go_wp2_with fail
      refine T8.mono ?_;rintro e w8 hc;obtain ⟨o',m',t',q',us',rfl,h9,hg9,hq,hle9,hs9⟩:=zCr hsub (opN (zAo t) o::(row++row2)) hc;have hx7:=pX7.lt;have hz7:=pZ7.lt;have hk7:=h7.lt;have E9:Hid (R=if q' then nxt sub k o' t' (opN (zAo t) o::(row++row2)) us' else .inl (opN (zAo t) o::(row++row2),us')):=by
       show _=_
       rw [<-hq];exact ER.out
      have hsu9:Hid (us' <:+ r1):=(hs9.trans hsu2).trans hsu.out;have pN9:=(AtL.new0 w7 211 [.int .i64 o,.string ⟨m.toArray⟩,.int .i64 t]).grown hg9 (by intro e;have:=Option.some.inj e;omega);have pX9:=(AtL.below hb8 pX7).grown hg9 (by intro e;have:=Option.some.inj e;omega);have pZ9:=(AtL.below hb8 pZ7).grown hg9 (by intro e;have:=Option.some.inj e;omega);have hun7b:=PtIs.inside (G':=λb=>(w.heap.size+1<=b/\b ≠ kx)/\b ≠ w7.heap.size) (λb hb hl=>⟨hb,by omega⟩) _ hun7;have hun9:=PtIs.keep (λk hk h2=>hg9.block k h2 (by intro e;have:=Option.some.inj e;have:=hk.1.1;omega)) _ (PtIs.keep (λk _ h2=>hb8.block k h2) _ hun7b);have hG9:=zAD (zAD hG7 (zAE hb8 (some kp))) hg9;have hE9:=(hE7.below hb8).grown hg9 hk8;clear hc hq T8 hb8 pX7 pO7 pZ7 hun7 hun7b h7 hG7 hE7 hg9 c0 c1 c2 ER;obtain ⟨c0,c1,c2,f0,f1,f2⟩:=pN9.three;have hw7:w.heap.size<=w7.heap.size:=by omega
      have hun10:=λa b c=>PtIs.mono (G':=λb=>w.heap.size+1<=b/\b ≠ kx) (λb hb=>hb.1) _ (PtIs.keep (w':=((w8.setCell ⟨w7.heap.size,0,none⟩ a).setCell ⟨w7.heap.size,1,none⟩ b).setCell ⟨w7.heap.size,2,none⟩ c) (λk hk h2=>zEH hk.2 a b c) _ hun9)
      go_wp2_with fail
      go_roundg (us'.length+(if q' then 1 else 0))
      case rel =>
       have B1:=AtL.put3 pN9 (.int .i64 o') (.string ⟨m'.toArray⟩) (.int .i64 t');exact ⟨w7.heap.size,o',m',t',q',_,_,_,_,_,_,us',rfl,rfl,rfl,by omega,by omega,by omega,hsu9,E9,B1,pX9.far3 (by omega) _ _ _,pZ9.far3 (by omega) _ _ _,hun10 _ _ _,((h9.far (by omega) _ _).far (by omega) _ _).far (by omega) _ _,zAS (zAS (zAS hG9 hw7 _ _) hw7 _ _) hw7 _ _,hE9.grown (zBj w8 w7.heap.size _ _ _) (by omega)⟩
      case measure =>
       have hgk1:gk=us.length+1:=hgk;omega
     ·go_simp
      refine (HB us wd h5 (by omega) hus hoku hE5).mono ?_;rintro e w3 hc;rw [hs] at hc;simp only [zAQ] at hc;obtain ⟨v,rfl,hP,h3,hg⟩:=hc;obtain ⟨n2,y,sl2,rfl,hp2⟩:=hP;obtain ⟨bv,ben,bap,rfl⟩:=hp2.one;unfold ptV;go_wp2_with fail
      replace pO:=pO.grown hg (by intro e;have:=Option.some.inj e;omega)
      replace pX:=pX.grown hg (by intro e;have:=Option.some.inj e;omega)
      replace pZ:=pZ.grown hg (by intro e;have:=Option.some.inj e;omega)
      replace hPx:=PtIs.keep (λk hk h2=>hg.block k h2 (by intro e;have:=Option.some.inj e;have:=hk.1;omega)) nn hPx
      have hPy:PtIs w3 (λb=>w.heap.size+1<=b/\b ≠ kx) n2 y (.slice bv ben bap) row2:=PtIs.mono (λb hb=>⟨by have hb':wd.heap.size<=b:=hb;omega,by have hb':wd.heap.size<=b:=hb;omega⟩) n2 hp2;replace hG:=zAD hG hg
      replace hE5:=hE5.grown hg hk8
      refine hkQ hK (zAg pO) (λhHeld=>?_);clear hK K hg hp2 h5
      have rX:=pX.range;refine rdQ 1 (λK hK=>?_);refine wp_load_mid 180 (.tmp 5) rfl kx 0 rfl (zAJ x (.slice av len cap)) _ rX underlying180 rfl (by kernel_rfl) ?_;refine hkQ hK (zAg pO) (λhHeld=>?_);clear hK K
      refine rdQ 6 (λK hK=>?_);refine zNR (.tmp 30) (.tmp 34) rfl x av len cap y bv ben bap rfl rfl ?_;have hb4:=zAH (Below.refl _ w3) (.cells (zAJ x (.slice av len cap)++zAJ y (.slice bv ben bap)).toArray 180);obtain ⟨rg1,rg2⟩:=zFM w3 180 (zAJ x (.slice av len cap)) (zAJ y (.slice bv ben bap));have hx3:=pX.lt;have hz3:=pZ.lt;have hun:=PtIs.bin (G:=λb=>w.heap.size+1<=b/\b ≠ kx) (z:=opN (zAo t) o) (PtIs.keep (λk _ h2=>hb4.block k h2) nn hPx) (PtIs.keep (λk _ h2=>hb4.block k h2) n2 hPy) (⟨by omega,by omega⟩:w.heap.size+1<=w3.heap.size/\w3.heap.size ≠ kx) rg1 rg2;replace h3:=h3.below hb4
      replace pO:=AtL.below hb4 pO
      replace pX:=AtL.below hb4 pX
      replace pZ:=AtL.below hb4 pZ
      replace hG:=zAD hG (zAE hb4 (some kp))
      replace hE5:=hE5.below hb4
      refine hkQ hK (zAg pO) (λhHeld=>?_);clear hK K hb4 rg1 rg2 hPx hPy
      refine rdQ 7 (λK hK=>?_);go_simp
      refine (zBE o ⟨m.toArray⟩ t (some ⟨w3.heap.size,0,none⟩) 2 2 _).mono ?_;rintro e w6 ⟨rfl,hb⟩;replace h3:=h3.below hb
      replace pO:=AtL.below hb pO
      replace pX:=AtL.below hb pX
      replace pZ:=AtL.below hb pZ
      replace hG:=zAD hG (zAE hb (some kp))
      replace hE5:=hE5.below hb
      replace hun:=PtIs.keep (λk _ h2=>hb.block k h2) _ hun
      clear hb;go_wp2_with fail
      refine hkQ hK (zAg pO) (λhHeld=>?_);clear hK K
      refine rdQ 8 (λK hK=>?_);unfold ptV;refine wp_store_mid 180 (.tmp 5) (.tmp 36) rfl kx 0 (zAJ (opN (zAo t) o) (.slice (some ⟨w3.heap.size,0,none⟩) 2 2)).toArray rfl rfl pX.there (by kernel_rfl) (zAi _ _ rfl) ?_;have pX7:AtL (w6.setCells kx 0 (zAJ (opN (zAo t) o) (.slice (some ⟨w3.heap.size,0,none⟩) 2 2))) kx (zAJ (opN (zAo t) o) (.slice (some ⟨w3.heap.size,0,none⟩) 2 2)):=pX.setAll rfl;have pO7:=pO.farAll (b:=kx) (by omega) 0 (zAJ (opN (zAo t) o) (.slice (some ⟨w3.heap.size,0,none⟩) 2 2));have pZ7:=pZ.farAll (b:=kx) (by omega) 0 (zAJ (opN (zAo t) o) (.slice (some ⟨w3.heap.size,0,none⟩) 2 2));have hun7:=PtIs.keep (w':=w6.setCells kx 0 (zAJ (opN (zAo t) o) (.slice (some ⟨w3.heap.size,0,none⟩) 2 2))) (λk hk _=>zA9 kx k hk.2 _ 0 w6) _ hun;have h7:=h3.farAll hkx (zAJ (opN (zAo t) o) (.slice (some ⟨w3.heap.size,0,none⟩) 2 2)) 0;have hG7:=zAN hG (b:=kx) (by omega) (zAJ (opN (zAo t) o) (.slice (some ⟨w3.heap.size,0,none⟩) 2 2)) 0;have hE7:=hE5.grown (zB6 w6 kx (zAJ (opN (zAo t) o) (.slice (some ⟨w3.heap.size,0,none⟩) 2 2)) 0) (by omega);refine hK.out _ _ (zAg pO7) (λhHeld=>?_);clear hK K pX pO pZ hun h3 hG hE5 rX;try simp only [Act.put]
      refine wpAnyH_done (by kernel_rfl) ?_ _;generalize w6.setCells kx 0 (zAJ (opN (zAo t) o) (.slice (some ⟨w3.heap.size,0,none⟩) 2 2))=w7 at *;obtain ⟨c0,c1,c2⟩:=pO7.f3;have hb8:=zAH (Below.refl _ w7) (.cells #[.int .i64 o,.string ⟨m.toArray⟩,.int .i64 t] 211);have T8:=zBK kp r2 en k _ (h7.below hb8) (by omega) (hE7.below hb8).1;go_wp2_with fail
      refine T8.mono ?_;rintro e w8 hc;obtain ⟨o',m',t',q',us',rfl,h9,hg9,hq,hle9,hs9⟩:=zCr hsub (opN (zAo t) o::(row++row2)) hc;have hx7:=pX7.lt;have hz7:=pZ7.lt;have hk7:=h7.lt;have E9:Hid (R=if q' then nxt sub k o' t' (opN (zAo t) o::(row++row2)) us' else .inl (opN (zAo t) o::(row++row2),us')):=by
       show _=_
       rw [<-hq];exact ER.out
      have hsu9:Hid (us' <:+ r1):=(hs9.trans hsu2).trans hsu.out;have pN9:=(AtL.new0 w7 211 [.int .i64 o,.string ⟨m.toArray⟩,.int .i64 t]).grown hg9 (by intro e;have:=Option.some.inj e;omega);have pX9:=(AtL.below hb8 pX7).grown hg9 (by intro e;have:=Option.some.inj e;omega);have pZ9:=(AtL.below hb8 pZ7).grown hg9 (by intro e;have:=Option.some.inj e;omega);have hun7b:=PtIs.inside (G':=λb=>(w.heap.size+1<=b/\b ≠ kx)/\b ≠ w7.heap.size) (λb hb hl=>⟨hb,by omega⟩) _ hun7;have hun9:=PtIs.keep (λk hk h2=>hg9.block k h2 (by intro e;have:=Option.some.inj e;have:=hk.1.1;omega)) _ (PtIs.keep (λk _ h2=>hb8.block k h2) _ hun7b);have hG9:=zAD (zAD hG7 (zAE hb8 (some kp))) hg9;have hE9:=(hE7.below hb8).grown hg9 hk8;clear hc hq T8 hb8 pX7 pO7 pZ7 hun7 hun7b h7 hG7 hE7 hg9 c0 c1 c2 ER;obtain ⟨c0,c1,c2,f0,f1,f2⟩:=pN9.three;have hw7:w.heap.size<=w7.heap.size:=by omega
      have hun10:=λa b c=>PtIs.mono (G':=λb=>w.heap.size+1<=b/\b ≠ kx) (λb hb=>hb.1) _ (PtIs.keep (w':=((w8.setCell ⟨w7.heap.size,0,none⟩ a).setCell ⟨w7.heap.size,1,none⟩ b).setCell ⟨w7.heap.size,2,none⟩ c) (λk hk h2=>zEH hk.2 a b c) _ hun9)
      go_wp2_with fail
      go_roundg (us'.length+(if q' then 1 else 0))
      case rel =>
       have B1:=AtL.put3 pN9 (.int .i64 o') (.string ⟨m'.toArray⟩) (.int .i64 t');exact ⟨w7.heap.size,o',m',t',q',_,_,_,_,_,_,us',rfl,rfl,rfl,by omega,by omega,by omega,hsu9,E9,B1,pX9.far3 (by omega) _ _ _,pZ9.far3 (by omega) _ _ _,hun10 _ _ _,((h9.far (by omega) _ _).far (by omega) _ _).far (by omega) _ _,zAS (zAS (zAS hG9 hw7 _ _) hw7 _ _) hw7 _ _,hE9.grown (zBj w8 w7.heap.size _ _ _) (by omega)⟩
      case measure =>
       have hgk1:gk=us.length+1:=hgk;omega
