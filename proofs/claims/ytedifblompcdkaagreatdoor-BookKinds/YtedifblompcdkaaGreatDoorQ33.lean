/- TPct. -/
import Derived.Test.YtedifblompcdkaaGreatDoorQ32
set_option maxHeartbeats 8000000
set_option maxRecDepth 100000
namespace Go.Proofs.YtedifblompcdkaaGreatDoor
open Tryz
open Go.RowKit Go.Shelf
set_option linter.unusedVariables false
def ppc (sub7:List Wlx.TV->PR) (ts:List Wlx.TV):PR:=match sub7 ts with
 | .inr e=>.inr e
 | .inl (row,r)=>pct r.length row r
theorem zMY (row:List Wt.Nd) (us:List Wlx.TV):pct us.length row us=match zBk 6 us with
  | none=>.inl (row,us)
  | some (o,r)=>pct r.length (opN (zAo o.2.2) o.1::row) r:=by
 cases us with
 | nil=>rfl
 | cons t r =>
  show pct (r.length+1) row (t::r)=_
  simp only [pct];cases h:zBk 6 (t::r) with
  | none=>rfl
  | some q =>
   obtain ⟨o,r2⟩:=q;have:r2=r:=by
    unfold zBk at h;simp only at h;split at h
    ·cases ha:Wt.opAs t.t 6 with
     | none=>rw [ha] at h;cases h
     | some x=>rw [ha] at h;simp only [Option.map_some,Option.some.injEq,Prod.mk.injEq] at h;exact h.2.symm
    ·cases h
   subst this;rfl
theorem zEH {w:World} {b k:Nat} (hk:k ≠ b) (x y z:Value):(((w.setCell ⟨b,0,none⟩ x).setCell ⟨b,1,none⟩ y).setCell ⟨b,2,none⟩ z).heap[k]? = w.heap[k]?:=by
 rw [Below.heap_setCell _ _ _ _ hk,Below.heap_setCell _ _ _ _ hk,Below.heap_setCell _ _ _ _ hk]
theorem zBj (w:World) (b:Nat) (x y z:Value):w.grownBy (((w.setCell ⟨b,0,none⟩ x).setCell ⟨b,1,none⟩ y).setCell ⟨b,2,none⟩ z) (some b) :=
 zAD (zAD (zA0 _ _ _ _) (zA0 _ _ _ _)) (zA0 _ _ _ _)
theorem zB6 (w:World) (b:Nat):∀ (vs:List Value) (o:Nat),w.grownBy (w.setCells b o vs) (some b):=λvs o=>by
 have h:∀ (vs:List Value) (o:Nat) (W:World),w.grownBy W (some b)->w.grownBy (W.setCells b o vs) (some b):=by
  intro vs;induction vs with
  | nil=>intro o W h;exact h
  | cons v r ih=>intro o W h;rw [World.setCells];exact ih (o+1) _ (zAD h (zA0 W b o v))
 exact h vs o w (World.grownBy.refl _ _)
theorem zG2 {kp:Nat} {en:Int} {us0:List Wlx.TV} {w w':World} {e:Ending} (row:List Wt.Nd) (h:zBO kp en us0 (zBk 6 us0) w e w'):∃ (o:Int) (m:List UInt8) (t:Int) (q:Bool) (us:List Wlx.TV),e=.returned (.tuple #[.agg #[.int .i64 o,.string ⟨m.toArray⟩,.int .i64 t],.bool q])/\PSt w' kp us en/\w.grownBy w' (some kp)/\pct us0.length row us0=(if q then pct us.length (opN (zAo t) o::row) us else .inl (row,us))/\us.length+(if q then 1 else 0)<=us0.length:=by
 rw [zMY];cases h1:zBk 6 us0 with
 | none =>
  rw [h1] at h;simp only [zBO] at h;exact ⟨0,[],0,false,us0,h.1,h.2.1,h.2.2,rfl,by simp⟩
 | some z =>
  obtain ⟨⟨o,m,t⟩,r⟩:=z;rw [h1] at h;simp only [zBO] at h;have:=(zAl h1).2;exact ⟨o,m,t,true,r,h.1,h.2.1,h.2.2,rfl,by simp;omega⟩
theorem zEl (kp:Nat) (en:Int) (sub7:List Wlx.TV->PR) (n:Nat) (HS:zNQ kp en 233 sub7 n) (hsub:∀ ts row r,sub7 ts=.inl (row,r)->r <:+ ts) (ts:List Wlx.TV) (w:World) (h:PSt w kp ts en) (hn:ts.length<=n) (hts:ts.length<=1024) (hok:∀ t ∈ ts,zA5 t) (hE:Env w) (hk8:8<=kp) :
  Calls prog 198 #[.pointer (some ⟨kp,0,none⟩)] w λe w'=>zAQ kp en (ppc sub7 ts) w e w':=by
 have hB0:=zAH (Below.refl _ w) (.cells zP0 180);have pZ:AtL (w.alloc (.cells zP0 180)) w.heap.size (zAJ (bare 0) (.slice none 0 0)):=AtL.new0 w _ _;have h0:=h.below hB0;have hE0:=hE.below hB0;have hkp:=h.lt;unfold ppc;cases hs:sub7 ts with
 | inr q =>
  obtain ⟨c,p⟩:=q;simp only [zAQ];go_enter func198,ntmps198;go_wp2_with fail
  generalize w.alloc (.cells zP0 180)=wa at *;refine (HS ts _ h0 hn hts hok hE0).mono ?_;rintro e w1 hc;rw [hs] at hc;simp only [zAQ] at hc;obtain ⟨rfl,hg⟩:=hc;unfold zB2;go_wp2;exact ⟨rfl,rfl,zAD (zAE hB0 (some kp)) hg⟩
 | inl q =>
  obtain ⟨row,r1⟩:=q;have hl1:=(hsub _ _ _ hs).length_le;simp only;obtain ⟨R,hR⟩:∃ R,pct r1.length row r1=R:=⟨_,rfl⟩
  rw [hR];go_enter func198,ntmps198;go_wp2_with fail
  generalize w.alloc (.cells zP0 180)=wa at *;refine (HS ts _ h0 hn hts hok hE0).mono ?_;rintro e w1 hc;rw [hs] at hc;simp only [zAQ] at hc;obtain ⟨v,rfl,hP,h1,hg⟩:=hc;have hza:=pZ.lt;have pZ1:=pZ.grown hg (by intro e;have:=Option.some.inj e;omega);have hG1:=zAD (zAE hB0 (some kp)) hg;have hE1:=hE0.grown hg hk8;obtain ⟨nn,x,sl,rfl,hp⟩:=hP;obtain ⟨av,len,cap,rfl⟩:=hp.one;clear pZ h0 hB0 hE0 hg;unfold ptV;have pX0:AtL (w1.alloc (.cells zP0 180)) w1.heap.size (zAJ (bare 0) (.slice none 0 0)):=AtL.new0 w1 _ _;have hthX:World.there (w1.alloc (.cells zP0 180)) w1.heap.size 0 (zAJ x (.slice av len cap)).toArray.size:=pX0.there;go_upto_region 2 with ((with_reducible refine wpList_store_mid ?_ 180 (.tmp 3) (.tmp 7) ?_ (w1.heap.size) 0 (zAJ x (.slice av len cap)).toArray ?_ ?_ ?_ ?_ ?_ ?_);rfl;rfl;rfl;rfl;exact hthX;kernel_rfl;exact zAi _ _ rfl)
  have hbX:=zBJ (zAH (Below.refl _ w1) (.cells zP0 180)) (Nat.le_refl w1.heap.size) (zAJ x (.slice av len cap)) 0;have pX:AtL ((w1.alloc (.cells zP0 180)).setCells w1.heap.size 0 (zAJ x (.slice av len cap))) w1.heap.size (zAJ x (.slice av len cap)):=pX0.setAll rfl;have pZ2:=AtL.below hbX pZ1;have h2:=h1.below hbX;have hE2:=hE1.below hbX;have hG2:=zAD hG1 (zAE hbX (some kp));have hp1:PtIs w1 (λb=>w.heap.size+1<=b/\b ≠ w1.heap.size) nn x (.slice av len cap) row:=PtIs.inside (λb hb hl=>⟨by have hb':wa.heap.size<=b:=hb;omega,by omega⟩) nn hp;have hp2:=PtIs.keep (λk _ h2=>hbX.block k h2) nn hp1;have hkx:kp<w1.heap.size:=h1.lt;have hzx:=pZ1.lt;clear pX0 hthX hbX pZ1 h1 hE1 hG1 hp hp1;generalize (w1.alloc (.cells zP0 180)).setCells w1.heap.size 0 (zAJ x (.slice av len cap))=w2 at *;generalize w1.heap.size=kx at *;have T1:=zBK kp r1 en 6 w2 h2 (by omega) hE2.1;go_wp2_with fail
  refine T1.mono ?_;rintro e w3 hc;obtain ⟨o,m,t,q,us,rfl,h3,hg3,hq,hle⟩:=zG2 row hc;rw [hR] at hq;have E0:Hid (R=if q then pct us.length (opN (zAo t) o::row) us else .inl (row,us)):=hq;have hb4:=zAH (Below.refl _ w3) (.cells #[.int .i64 o,.string ⟨m.toArray⟩,.int .i64 t] 211);have hx2:=pX.lt;have hs3:=hg3.size;have A1:Hid (AtL (w3.alloc (.cells #[.int .i64 o,.string ⟨m.toArray⟩,.int .i64 t] 211)) w3.heap.size [.int .i64 o,.string ⟨m.toArray⟩,.int .i64 t]):=AtL.new0 w3 211 [.int .i64 o,.string ⟨m.toArray⟩,.int .i64 t];have A2:Hid (AtL (w3.alloc (.cells #[.int .i64 o,.string ⟨m.toArray⟩,.int .i64 t] 211)) kx (zAJ x (.slice av len cap))):=AtL.below hb4 (pX.grown hg3 (by intro e;have:=Option.some.inj e;omega));have A3:Hid (AtL (w3.alloc (.cells #[.int .i64 o,.string ⟨m.toArray⟩,.int .i64 t] 211)) w.heap.size (zAJ (bare 0) (.slice none 0 0))):=AtL.below hb4 (pZ2.grown hg3 (by intro e;have:=Option.some.inj e;omega));have A4:Hid (PtIs (w3.alloc (.cells #[.int .i64 o,.string ⟨m.toArray⟩,.int .i64 t] 211)) (λb=>w.heap.size+1<=b/\b ≠ kx) nn x (.slice av len cap) row):=PtIs.keep (λk _ h2=>hb4.block k h2) nn (PtIs.keep (λk hk h2=>hg3.block k h2 (by intro e;have:=Option.some.inj e;have:=hk.1;omega)) nn hp2);have A5:=h3.below hb4;have A6:Hid (w.grownBy (w3.alloc (.cells #[.int .i64 o,.string ⟨m.toArray⟩,.int .i64 t] 211)) (some kp)):=zAD (zAD hG2 hg3) (zAE hb4 (some kp))
  have A7:=(hE2.grown hg3 hk8).below hb4;have hko:kx<w3.heap.size:=by omega
  clear hc hq T1 hb4 pX pZ2 h2 hE2 hG2 hp2 h3 hg3 hR;go_wp2_with fail
  go_loopg [4,5] (us.length+(if q then 1 else 0)) (λgk a b wr=>∃ (ko:Nat) (o:Int) (m:List UInt8) (t:Int) (q:Bool) (nn:Nat) (x:Wt.Nd) (av:Option Addr) (len cap:Nat) (row:List Wt.Nd) (us:List Wlx.TV),a=.pointer (some ⟨ko,0,none⟩)/\b=.bool q/\gk=us.length+(if q then 1 else 0)/\us.length+(if q then 1 else 0)<=r1.length/\us.length<=1024/\kx<ko/\Hid (R=if q then pct us.length (opN (zAo t) o::row) us else .inl (row,us))/\Hid (AtL wr ko [.int .i64 o,.string ⟨m.toArray⟩,.int .i64 t])/\Hid (AtL wr kx (zAJ x (.slice av len cap)))/\Hid (AtL wr w.heap.size (zAJ (bare 0) (.slice none 0 0)))/\Hid (PtIs wr (λb=>w.heap.size+1<=b/\b ≠ kx) nn x (.slice av len cap) row)/\PSt wr kp us en/\Hid (w.grownBy wr (some kp))/\Env wr)
  case atStart=>exact ⟨w3.heap.size,o,m,t,q,nn,x,av,len,cap,row,us,rfl,rfl,rfl,hle,by omega,hko,E0,A1,A2,A3,A4,A5,A6,A7⟩
  case round =>
   clear A1 A2 A3 A4 A5 A6 A7 E0 hko;obtain ⟨ko,o,m,t,q,nn,x,av,len,cap,row,us,rfl,rfl,hgk,hle,hus,hko,E,A1,A2,A3,A4,h5,A6,hE5⟩:=hrel;cases q
   ·have hR:Hid (R=.inl (row,us)):=E.out;have rX:=A2.out.range;have hth:World.there wr w.heap.size 0 (zAJ x (.slice av len cap)).toArray.size:=A3.out.there;clear E;go_wp2_with (first | ((with_reducible refine wpList_load_mid (cs:=zAJ x (.slice av len cap)) ?_ 180 (.tmp 3) ?_ kx 0 ?_ _ ?_ underlying180 ?_ ?_ ?_);rfl;rfl;rfl;exact rX;rfl;kernel_rfl) | ((with_reducible refine wpList_store_mid ?_ 180 (.tmp 2) (.tmp 24) ?_ (w.heap.size) 0 (zAJ x (.slice av len cap)).toArray ?_ ?_ ?_ ?_ ?_ ?_);rfl;rfl;rfl;rfl;exact hth;kernel_rfl;exact zAi _ _ rfl))
    have pZ9:AtL (wr.setCells w.heap.size 0 (zAJ x (.slice av len cap))) w.heap.size (zAJ x (.slice av len cap)):=A3.out.setAll rfl;refine bodyPost_ret (zAO rfl _ _ w.heap.size (zAJ x (.slice av len cap)) _ rfl pZ9.range underlying180 rfl (by kernel_rfl)) rfl ?_;rw [hR.out];simp only [zAQ];refine ⟨_,rfl,?_,h5.farAll hkp _ 0,zAN A6.out (Nat.le_refl _) _ 0⟩;exact (Pt.far (show Pt wr (w.heap.size+1) (ptV x (.slice av len cap)) row from ⟨nn,x,_,rfl,PtIs.mono (λb hb=>hb.1) nn A4.out⟩) (Nat.lt_succ_self _) 0 _).mono (Nat.le_succ _)
   ·have hle1:us.length+1<=r1.length:=by simpa using hle
    have rX:=A2.out.range;obtain ⟨c0,c1,c2⟩:=A1.out.f3;have hx2:=A2.out.lt;have hz2:=A3.out.lt;have ho2:=A1.out.lt;go_wp2_with (first | ((with_reducible refine wpList_load_mid (cs:=zAJ x (.slice av len cap)) ?_ 180 (.tmp 3) ?_ kx 0 ?_ _ ?_ underlying180 ?_ ?_ ?_);rfl;rfl;rfl;exact rX;rfl;kernel_rfl) | ((with_reducible refine zCK ?_ (.tmp 20) ?_ x av len cap ?_ ?_);rfl;rfl;rfl))
    have hbA:=zAH (Below.refl _ wr) (.cells (zAJ x (.slice av len cap)).toArray 180);have pB:=AtL.new0 wr 180 (zAJ x (.slice av len cap));refine (zBE o ⟨m.toArray⟩ t (some ⟨wr.heap.size,0,none⟩) 1 1 _).mono ?_;rintro e w6 ⟨rfl,hb⟩;have hb6:=zAA hbA hb;have hun:=PtIs.un (G:=λb=>w.heap.size+1<=b/\b ≠ kx) (z:=opN (zAo t) o) (PtIs.keep (λk _ h2=>hbA.block k h2) nn A4.out) (⟨by omega,by omega⟩:w.heap.size+1<=wr.heap.size/\wr.heap.size ≠ kx) pB.range;have hun6:=PtIs.keep (λk _ h2=>hb.block k h2) _ hun;have pO6:=AtL.below hb6 A1.out;have pX6:=AtL.below hb6 A2.out;have pZ6:=AtL.below hb6 A3.out;have h6:=h5.below hb6;have hE6:=hE5.below hb6;have hG6:=zAD A6.out (zAE hb6 (some kp));have hth:World.there w6 kx 0 (zAJ (opN (zAo t) o) (.slice (some ⟨wr.heap.size,0,none⟩) 1 1)).toArray.size:=pX6.there;clear hbA pB hb hb6 hun A1 A2 A3 A4 h5 hE5 A6 rX c0 c1 c2;unfold ptV;go_upto_region 6 with ((with_reducible refine wpList_store_mid ?_ 180 (.tmp 3) (.tmp 22) ?_ (kx) 0 (zAJ (opN (zAo t) o) (.slice (some ⟨wr.heap.size,0,none⟩) 1 1)).toArray ?_ ?_ ?_ ?_ ?_ ?_);rfl;rfl;rfl;rfl;exact hth;kernel_rfl;exact zAi _ _ rfl)
    have pX7:AtL (w6.setCells kx 0 (zAJ (opN (zAo t) o) (.slice (some ⟨wr.heap.size,0,none⟩) 1 1))) kx (zAJ (opN (zAo t) o) (.slice (some ⟨wr.heap.size,0,none⟩) 1 1)):=pX6.setAll rfl;have pO7:=pO6.farAll (b:=kx) (by omega) 0 (zAJ (opN (zAo t) o) (.slice (some ⟨wr.heap.size,0,none⟩) 1 1));have pZ7:=pZ6.farAll (b:=kx) (by omega) 0 (zAJ (opN (zAo t) o) (.slice (some ⟨wr.heap.size,0,none⟩) 1 1));have hun7:=PtIs.keep (w':=w6.setCells kx 0 (zAJ (opN (zAo t) o) (.slice (some ⟨wr.heap.size,0,none⟩) 1 1))) (λk hk _=>zA9 kx k hk.2 _ 0 w6) _ hun6;have h7:=h6.farAll hkx (zAJ (opN (zAo t) o) (.slice (some ⟨wr.heap.size,0,none⟩) 1 1)) 0;have hG7:=zAN hG6 (b:=kx) (by omega) (zAJ (opN (zAo t) o) (.slice (some ⟨wr.heap.size,0,none⟩) 1 1)) 0;have hE7:=hE6.grown (zB6 w6 kx (zAJ (opN (zAo t) o) (.slice (some ⟨wr.heap.size,0,none⟩) 1 1)) 0) (by omega);have hs7:Hid (_=_):=zBD kx (zAJ (opN (zAo t) o) (.slice (some ⟨wr.heap.size,0,none⟩) 1 1)) 0 w6;clear pX6 pO6 pZ6 hun6 h6 hG6 hE6 hth;generalize w6.setCells kx 0 (zAJ (opN (zAo t) o) (.slice (some ⟨wr.heap.size,0,none⟩) 1 1))=w7 at *;obtain ⟨c0,c1,c2⟩:=pO7.f3;have hb8:=zAH (Below.refl _ w7) (.cells #[.int .i64 o,.string ⟨m.toArray⟩,.int .i64 t] 211);have T8:=zBK kp us en 6 _ (h7.below hb8) hus (hE7.below hb8).1;go_wp2_with fail
    refine T8.mono ?_;rintro e w8 hc;obtain ⟨o',m',t',q',us',rfl,h9,hg9,hq,hle9⟩:=zG2 (opN (zAo t) o::row) hc;have hx7:=pX7.lt;have hz7:=pZ7.lt;have hk7:=h7.lt;have E9:Hid (R=if q' then pct us'.length (opN (zAo t') o'::opN (zAo t) o::row) us' else .inl (opN (zAo t) o::row,us')):=by
     show _=_
     rw [<-hq];exact E.out
    have pN9:=(AtL.new0 w7 211 [.int .i64 o,.string ⟨m.toArray⟩,.int .i64 t]).grown hg9 (by intro e;have:=Option.some.inj e;omega);have pX9:=(AtL.below hb8 pX7).grown hg9 (by intro e;have:=Option.some.inj e;omega);have pZ9:=(AtL.below hb8 pZ7).grown hg9 (by intro e;have:=Option.some.inj e;omega);have hun7b:=PtIs.inside (G':=λb=>(w.heap.size+1<=b/\b ≠ kx)/\b ≠ w7.heap.size) (λb hb hl=>⟨hb,by omega⟩) _ hun7;have hun9:=PtIs.keep (λk hk h2=>hg9.block k h2 (by intro e;have:=Option.some.inj e;have:=hk.1.1;omega)) _ (PtIs.keep (λk _ h2=>hb8.block k h2) _ hun7b);have hG9:=zAD (zAD hG7 (zAE hb8 (some kp))) hg9;have hE9:=(hE7.below hb8).grown hg9 hk8;clear hc hq T8 hb8 pX7 pO7 pZ7 hun7 hun7b h7 hG7 hE7 hg9 c0 c1 c2 E;obtain ⟨c0,c1,c2,f0,f1,f2⟩:=pN9.three;have hw7:w.heap.size<=w7.heap.size:=by omega
    have hun10:=λa b c=>PtIs.mono (G':=λb=>w.heap.size+1<=b/\b ≠ kx) (λb hb=>hb.1) _ (PtIs.keep (w':=((w8.setCell ⟨w7.heap.size,0,none⟩ a).setCell ⟨w7.heap.size,1,none⟩ b).setCell ⟨w7.heap.size,2,none⟩ c) (λk hk h2=>zEH hk.2 a b c) _ hun9)
    go_wp2_with fail
    go_roundg (us'.length+(if q' then 1 else 0))
    case rel =>
     have B1:=AtL.put3 pN9 (.int .i64 o') (.string ⟨m'.toArray⟩) (.int .i64 t');exact ⟨w7.heap.size,o',m',t',q',_,_,_,_,_,_,us',rfl,rfl,rfl,by omega,by omega,by omega,E9,B1,pX9.far3 (by omega) _ _ _,pZ9.far3 (by omega) _ _ _,hun10 _ _ _,((h9.far (by omega) _ _).far (by omega) _ _).far (by omega) _ _,zAS (zAS (zAS hG9 hw7 _ _) hw7 _ _) hw7 _ _,hE9.grown (zBj w8 w7.heap.size _ _ _) (by omega)⟩
    case measure =>
     have hgk1:gk=us.length+1:=hgk;omega
