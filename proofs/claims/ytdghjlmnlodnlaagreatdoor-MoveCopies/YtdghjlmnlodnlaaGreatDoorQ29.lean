/- TWrC, TWrF, TPrint, PlainW, TAblP, MCopyP. -/
import Derived.Test.YtdghjlmnlodnlaaGreatDoorQ28
set_option maxHeartbeats 8000000
set_option maxRecDepth 100000
set_option linter.unusedVariables false
namespace Go.Proofs.YtdghjlmnlodnlaaGreatDoor
open Tryz
open Go.RowKit Go.Shelf
variable {x:Wt.Nd} {k:Nat} {W:World}
theorem Bx.zero (w:World):Bx (w.alloc (.cells #[.int .i64 0,.int .i64 0,.int .i64 0,.int .i64 0,.string ⟨#[]⟩,.bool false,.int .i64 0,.int .i64 0,.string ⟨#[]⟩,.int .i64 0,.string ⟨#[]⟩,.int .i64 0,.int .i64 0,.bool false,.bool false,.string ⟨#[]⟩,.int .i64 0,.int .i64 0,.bool false,.bool false] 30)) w.heap.size [.int .i64 0,.int .i64 0,.int .i64 0,.int .i64 0,.string ⟨#[]⟩,.bool false,.int .i64 0,.int .i64 0,.string ⟨#[]⟩,.int .i64 0,.string ⟨#[]⟩,.int .i64 0,.int .i64 0,.bool false,.bool false,.string ⟨#[]⟩,.int .i64 0,.int .i64 0,.bool false,.bool false] 30:=Bx.new w _ _
theorem zNX (kw f:Nat) (N:zNI kw f):zC2 kw (f+1):=by
 intro least l acc w s d hfit hone hst hE hk8 hlen;cases l with
 | nil=>simp [Wt.one] at hone
 | cons x r =>
  obtain ⟨hx,a,b,hm,rfl,rfl⟩:=zE6 hone;have hKn:=zBv hx;have hfx:Wt.FitN x:=hfit x (by simp);have hfr:∀ y ∈ r,Wt.FitN y:=λy hy=>hfit y (by simp [hy])
  have HM:Hid (Wt.many (Wt.one f) (Wt.parts x).toNat r=some (a,b)):=hm;have HKn:Hid (Knd x):=hKn;have HFx:Hid (Wt.FitN x):=hfx;have HFr:Hid (∀ y ∈ r,Wt.FitN y):=hfr;have HE:Hid (Env w):=hE;clear hm hKn hx hone hfit hfx hfr hE;have HLen:True->acc.length+1000 * (a+1)<=1000000:=λ_=>hlen
  clear hlen;have hkw:=hst.lt;obtain ⟨av,cap,hcap,hIs,hcells⟩:=hst;obtain ⟨bb,off,rfl,hbb,hx0⟩:=hcells 0 (by simp);simp only [List.getElem_cons_zero,Nat.zero_mul,Nat.add_zero] at hx0;obtain ⟨l2,f2⟩:=hIs.left;simp only [List.length_cons] at hcap l2 hIs;have hB0:=zAI (Below.refl _ w) (.cells zN0 30);have bZ:=Bx.zero w;have hth:=bZ.there;have hB1:=zAu hB0 (Nat.le_refl _) (zAD x) 0;have bx1:Bx _ w.heap.size (zAD x) 30:=bZ.setAll rfl;have hIs1:=hIs.below hB1;obtain ⟨l21,f21⟩:=hIs1.left;have rx1:=bx1.atl.range;obtain ⟨TX,hTX⟩:∃ TX,TX=(pr (f+1) least (x::r)).1:=⟨_,rfl⟩
  rw [<-hTX,List.drop_succ_cons];have HTX:Hid (TX=if least<=tgh x then (prN (pr f) x r).1 else 40::(prN (pr f) x r).1++[41]):=by
   show TX=_
   rw [hTX];simp only [pr];split <;> rfl
  clear hTX;obtain ⟨tt,htt⟩:∃ tt,tgh x=tt:=⟨_,rfl⟩
  have HTT:Hid (tgh x=tt):=htt;rw [htt] at HTX;clear htt;go_enter func37,ntmps37;go_upto_region 1 with (first | ((with_reducible refine wpList_load_mid (cs:=zAD x) ?_ 30 (.tmp 10) ?_ bb off ?_ _ ?_ underlying30 ?_ ?_ ?_);rfl;rfl;rfl;exact hx0;rfl;kernel_rfl) | ((with_reducible refine wpList_store_mid ?_ 30 (.tmp 4) (.tmp 11) ?_ (w.heap.size) 0 (zAD x).toArray ?_ ?_ ?_ ?_ ?_ ?_);rfl;rfl;rfl;rfl;exact hth;kernel_rfl;exact zAc _))
  generalize (w.alloc (.cells zN0 30)).setCells w.heap.size 0 (zAD x)=W1 at *;clear l2 f2 hIs hB0 bZ hth hx0;go_upto_region 2 with fail
  obtain ⟨av',hav⟩:∃ av',av'=if cap=1 then some (⟨bb,off,none⟩:Addr) else some ⟨bb,off+20,none⟩:=⟨_,rfl⟩
  rw [<-hav];have hav':0<r.length->av'=some ⟨bb,off+20,none⟩:=λh=>by rw [hav,if_neg (by omega)]
  clear hav l21 f21 rx1;have hIs2:=hIs1.set2 (.slice av' r.length (cap - 1));have bx2:Bx (W1.setCell ⟨kw,2,none⟩ (.slice av' r.length (cap - 1))) w.heap.size (zAD x) 30:=(Below.heap_setCell _ _ _ _ (by simp only;omega)).trans bx1;have hF2:WF kw w (W1.setCell ⟨kw,2,none⟩ (.slice av' r.length (cap - 1))):=⟨(hB1.mono (Nat.le_of_lt hkw)).setCell (p:=⟨kw,2,none⟩) (Nat.le_refl _) _,(zEM (B:=kw) hB1).setCell ⟨kw,2,none⟩ rfl _⟩
  have hS2:WSt (W1.setCell ⟨kw,2,none⟩ (.slice av' r.length (cap - 1))) kw acc r:=by
   refine ⟨av',cap - 1,by omega,hIs2,λi hi=>?_⟩;obtain ⟨bb',off',e,hlt,hr⟩:=hcells (i+1) (by simp only [List.length_cons];omega);simp only [Option.some.injEq,Addr.mk.injEq,and_true] at e;obtain ⟨rfl,rfl⟩:=e;refine ⟨bb,off+20,hav' (by omega),hbb,λj v hv=>?_⟩;rw [World.cell?_setCell_far _ _ _ _ (by simp;omega),show off+20+i * 20+j=off+(i+1) * 20+j by omega];exact zAM hB1 (hr j v (by simpa using hv))
  have hs2:(W1.setCell ⟨kw,2,none⟩ (.slice av' r.length (cap - 1))).heap.size=W1.heap.size:=World.size_setCell ..;have hsz:=hB1.size;have ltx:=(Array.getElem?_eq_some_iff.1 bx1).1;clear hIs2 hIs1 bx1 hcells hav' hcap hB1;generalize W1.setCell ⟨kw,2,none⟩ (.slice av' r.length (cap - 1))=W2 at *;have HE2:Hid (Env W2):=HE.out.wf hF2 hk8;have T:=zIf x W2 HE2.out.1;rw [HTT.out] at T;have RX:=bx2.atl.range;go_wp2_with ((with_reducible refine wpList_load_mid (cs:=zAD x) ?_ 30 (.tmp 4) ?_ w.heap.size 0 ?_ _ ?_ underlying30 ?_ ?_ ?_);rfl;rfl;rfl;exact RX;rfl;kernel_rfl)
  refine T.mono ?_;rintro e w3 ⟨rfl,hb⟩;have hS3:=hS2.below hb;have bx3:=bx2.below hb;have hF3:=hF2.trans (WF.of (kw:=kw) hb (by omega));have HE3:Hid (Env w3):=HE.out.wf hF3 hk8;clear hb RX T hS2 bx2 hF2 HE2;have RX:=bx3.atl.range;have HPn:True->(prN (pr f) x r).1.length<=1000 * a+900:=λ_=>(zNG (zDn f) HKn.out HM.out).2
  have NN:=N x r acc w3 a b HKn.out HFx.out HFr.out HM.out hS3 HE3.out hk8 (by have:=HLen trivial;omega);rw [HTT.out] at NN;by_cases hle:least<=tt
  ·rw [if_pos hle] at HTX;go_wp2_with ((with_reducible refine wpList_load_mid (cs:=zAD x) ?_ 30 (.tmp 4) ?_ w.heap.size 0 ?_ _ ?_ underlying30 ?_ ?_ ?_);rfl;rfl;rfl;exact RX;rfl;kernel_rfl)
   refine NN.mono ?_;rintro e w4 ⟨rfl,hS4,hF4⟩;go_wp2;first | go_end0 | refine bodyPost_ret (results_none rfl _ _ _) rfl ?_
   exact ⟨rfl,by rw [HTX.out];exact hS4,hF3.trans hF4⟩
  ·rw [if_neg hle] at HTX;have hle':¬ (least<=tt):=hle;have WR:=hS3.write [40] w3 (by simp only [List.length_cons,List.length_nil];have:=HLen trivial;omega);clear NN;go_wp2_with fail
   refine WR.mono ?_;rintro e w4 ⟨rfl,hS4,hF4⟩;have bx4:=bx3.kept hF4 (by omega) (by decide);have HE4:Hid (Env w4):=HE3.out.wf hF4 hk8;have NN:=N x r (acc++[40]) w4 a b HKn.out HFx.out HFr.out HM.out hS4 HE4.out hk8 (by simp only [List.length_append,List.length_cons,List.length_nil];have:=HLen trivial;omega);rw [HTT.out] at NN;clear RX WR;have RX:=bx4.atl.range;go_wp2_with ((with_reducible refine wpList_load_mid (cs:=zAD x) ?_ 30 (.tmp 4) ?_ w.heap.size 0 ?_ _ ?_ underlying30 ?_ ?_ ?_);rfl;rfl;rfl;exact RX;rfl;kernel_rfl)
   refine NN.mono ?_;rintro e w5 ⟨rfl,hS5,hF5⟩;have WR:=hS5.write [41] w5 (by simp only [List.length_append,List.length_cons,List.length_nil];have:=HLen trivial;have:=HPn trivial;omega);go_wp2_with fail
   refine WR.mono ?_;rintro e w6 ⟨rfl,hS6,hF6⟩;go_wp2;first | go_end0 | refine bodyPost_ret (results_none rfl _ _ _) rfl ?_
   exact ⟨rfl,by rw [HTX.out];simpa using hS6,hF3.trans (hF4.trans (hF5.trans hF6))⟩
abbrev SvS (k:Nat) (x:Wt.Nd) (W:World):Prop:=W.cell? ⟨k,1,none⟩=some (.int .i64 x.v.k)/\W.cell? ⟨k,2,none⟩=some (.int .i64 x.v.n)/\W.cell? ⟨k,3,none⟩=some (.int .i64 x.v.d)/\W.cell? ⟨k,4,none⟩=some (.string x.v.t)/\W.cell? ⟨k,5,none⟩=some (.bool x.v.b)/\W.cell? ⟨k,6,none⟩=some (.int .i64 x.v.f)
theorem zKe (h:AtL W k (zAD x)):SvS k x W:=⟨h.2.1 1 _ rfl,h.2.1 2 _ rfl,h.2.1 3 _ rfl,h.2.1 4 _ rfl,h.2.1 5 _ rfl,h.2.1 6 _ rfl⟩
abbrev SaS (k:Nat) (x:Wt.Nd) (W:World):Prop:=W.cell? ⟨k,10,none⟩=some (.string x.a.s)/\W.cell? ⟨k,11,none⟩=some (.int .i64 x.a.r)/\W.cell? ⟨k,12,none⟩=some (.int .i64 x.a.c)/\W.cell? ⟨k,13,none⟩=some (.bool x.a.fr)/\W.cell? ⟨k,14,none⟩=some (.bool x.a.fc)
theorem zJ8 (h:AtL W k (zAD x)):SaS k x W:=⟨h.2.1 10 _ rfl,h.2.1 11 _ rfl,h.2.1 12 _ rfl,h.2.1 13 _ rfl,h.2.1 14 _ rfl⟩
abbrev SbS (k:Nat) (x:Wt.Nd) (W:World):Prop:=W.cell? ⟨k,10,none⟩=some (.string x.a.s)/\W.cell? ⟨k,11,none⟩=some (.int .i64 x.a.r)/\W.cell? ⟨k,12,none⟩=some (.int .i64 x.a.c)/\W.cell? ⟨k,13,none⟩=some (.bool x.a.fr)/\W.cell? ⟨k,14,none⟩=some (.bool x.a.fc)/\W.cell? ⟨k,15,none⟩=some (.string x.b.s)/\W.cell? ⟨k,16,none⟩=some (.int .i64 x.b.r)/\W.cell? ⟨k,17,none⟩=some (.int .i64 x.b.c)/\W.cell? ⟨k,18,none⟩=some (.bool x.b.fr)/\W.cell? ⟨k,19,none⟩=some (.bool x.b.fc)
theorem zHI (h:AtL W k (zAD x)):SbS k x W:=⟨h.2.1 10 _ rfl,h.2.1 11 _ rfl,h.2.1 12 _ rfl,h.2.1 13 _ rfl,h.2.1 14 _ rfl,h.2.1 15 _ rfl,h.2.1 16 _ rfl,h.2.1 17 _ rfl,h.2.1 18 _ rfl,h.2.1 19 _ rfl⟩
theorem zR4 (a b:List UInt8):(⟨a.toArray⟩:ByteArray)++⟨#[58]⟩++⟨b.toArray⟩=⟨(a++(58::b)).toArray⟩:=by
 apply ByteArray.ext
 apply Array.ext'
 simp
theorem zPR (kw:Nat) (x:Wt.Nd) (r:List Wt.Nd) (acc:List UInt8) (w:World) (h1:x.k=1) (hv:Wt.vlOk x.v=true) (hfx:Wt.FitN x) (hst:WSt w kw acc r) (hE:Env w) (hk8:8<=kw) (hlen:acc.length+950<=1000000) :
  Calls prog 88 #[.pointer (some ⟨kw,0,none⟩),.agg (zAD x).toArray] w λe w'=>e=.returned (.tuple #[])/\WSt w' kw (acc++zFx x.v) r/\WF kw w w':=by
 have hkw:=hst.lt;have hB0:=zAI (Below.refl _ w) (.cells (zAD x).toArray 30);have bx1:=Bx.new w (zAD x) 30;have hS1:=hst.below hB0;have hF1:=WF.of (kw:=kw) hB0 (Nat.le_of_lt hkw);have hE1:=hE.below hB0;have hkx:w.heap.size ≠ kw:=by omega
 have c0:=bx1.atl.2.1 0 _ rfl;rw [h1] at c0;have hl:=zHQ hv;have C:=λw hE=>zOB x.v w hv hfx.1 hE
 simp only [vlV,vl6] at C;generalize zFx x.v=tx at *;go_enter func88,ntmps88;go_upto_region 3 with fail
 have hsz1:kw<=(w.alloc (.cells (zAD x).toArray 30)).heap.size:=by simp only [World.size_alloc];omega
 generalize w.alloc (.cells (zAD x).toArray 30)=w1 at *;refine wp_region_held_drew (S:=SvS w.heap.size x) (by kernel_rfl) (zKe bx1.drew.atl) (λhHeld=>?_);refine tkQ 0 ⟨some 8,.move (.tmp 0),111,"print.go:66",#[],none⟩ ?_
 refine tkQ 1 ⟨some 9,.nilCheck (.tmp 8),0,"print.go:66",#[⟨0,.data⟩],none⟩ ?_
 refine tkQ 2 ⟨some 10,.fieldAddr 86 (.tmp 9) 0,0,"print.go:66",#[⟨1,.data⟩],none⟩ ?_
 refine tkQ 3 ⟨some 11,.fieldAddr 30 (.tmp 3) 1,0,"print.go:66",#[],none⟩ ?_
 refine tkQ 4 ⟨some 12,.load 26 (.tmp 11),26,"print.go:66",#[⟨3,.data⟩],none⟩ ?_
 refine rdQ 5 ⟨some 13,.call {callee:=Callee.value (Operand.func 116),args:=#[.tmp 12],argTypes:=#[26]},9,"print.go:66",#[⟨4,.data⟩],none⟩ (λK hK=>?_);go_simp
 refine (C _ hE1.drew).mono ?_;rintro e w5 ⟨rfl,hbw5⟩;have bxw5:=bx1.drew.below hbw5;have hSw5:=hS1.drew.below hbw5;have hEw5:=hE1.drew.below hbw5;have hFw5:=hF1.drew.trans (WF.of (kw:=kw) hbw5 (by exact hsz1));have szw5:=hbw5.size;go_wp2_with fail
 refine hkQ hK (zKe bxw5.atl) (λhHeld=>?_);clear hK K
 refine rdQ 6 ⟨some 14,.call {callee:=Callee.value (Operand.func 59),args:=#[.tmp 10,.tmp 13],argTypes:=#[84,9]},115,"print.go:66",#[⟨2,.data⟩,⟨5,.data⟩,⟨5,.chain⟩],none⟩ (λK hK=>?_);go_simp
 refine (hSw5.write tx _ (by first | omega | (simp only [List.length_append,List.length_cons];omega))).mono ?_;rintro e w9 ⟨rfl,hS9,hF9⟩;have bx9:=bxw5.kept hF9 hkx (by decide);go_wp2_with fail
 refine hkQ hK (zKe bx9.atl) (λhHeld=>?_);clear hK K
 refine wpAnyH_done (by kernel_rfl) ?_ _;go_wp2;first | go_end0 | refine bodyPost_ret (results_none rfl _ _ _) rfl ?_
 exact ⟨rfl,hS9,hFw5.trans hF9⟩
theorem zPL (kw:Nat) (x:Wt.Nd) (r:List Wt.Nd) (acc:List UInt8) (w:World) (h1:x.k=2) (hv:Wt.rfOk x.a=true) (hst:WSt w kw acc r) (hE:Env w) (hk8:8<=kw) (hlen:acc.length+950<=1000000) :
  Calls prog 88 #[.pointer (some ⟨kw,0,none⟩),.agg (zAD x).toArray] w λe w'=>e=.returned (.tuple #[])/\WSt w' kw (acc++zCG x.a) r/\WF kw w w':=by
 have hkw:=hst.lt;have hB0:=zAI (Below.refl _ w) (.cells (zAD x).toArray 30);have bx1:=Bx.new w (zAD x) 30;have hS1:=hst.below hB0;have hF1:=WF.of (kw:=kw) hB0 (Nat.le_of_lt hkw);have hE1:=hE.below hB0;have hkx:w.heap.size ≠ kw:=by omega
 have c0:=bx1.atl.2.1 0 _ rfl;rw [h1] at c0;have hl:=zBy hv;have C:=λw hE=>zG2 x.a w hv hE
 simp only [rfV,rf5] at C;generalize zCG x.a=tx at *;go_enter func88,ntmps88;go_upto_region 5 with fail
 have hsz1:kw<=(w.alloc (.cells (zAD x).toArray 30)).heap.size:=by simp only [World.size_alloc];omega
 generalize w.alloc (.cells (zAD x).toArray 30)=w1 at *;refine wp_region_held_drew (S:=SaS w.heap.size x) (by kernel_rfl) (zJ8 bx1.drew.atl) (λhHeld=>?_);refine tkQ 0 ⟨some 17,.move (.tmp 0),111,"print.go:68",#[],none⟩ ?_
 refine tkQ 1 ⟨some 18,.nilCheck (.tmp 17),0,"print.go:68",#[⟨0,.data⟩],none⟩ ?_
 refine tkQ 2 ⟨some 19,.fieldAddr 86 (.tmp 18) 0,0,"print.go:68",#[⟨1,.data⟩],none⟩ ?_
 refine tkQ 3 ⟨some 20,.fieldAddr 30 (.tmp 3) 5,0,"print.go:68",#[],none⟩ ?_
 refine tkQ 4 ⟨some 21,.load 28 (.tmp 20),28,"print.go:68",#[⟨3,.data⟩],none⟩ ?_
 refine rdQ 5 ⟨some 22,.call {callee:=Callee.value (Operand.func 117),args:=#[.tmp 21],argTypes:=#[28]},9,"print.go:68",#[⟨4,.data⟩],none⟩ (λK hK=>?_);go_simp
 refine (C _ hE1.drew).mono ?_;rintro e w5 ⟨rfl,hbw5⟩;have bxw5:=bx1.drew.below hbw5;have hSw5:=hS1.drew.below hbw5;have hEw5:=hE1.drew.below hbw5;have hFw5:=hF1.drew.trans (WF.of (kw:=kw) hbw5 (by exact hsz1));have szw5:=hbw5.size;go_wp2_with fail
 refine hkQ hK (zJ8 bxw5.atl) (λhHeld=>?_);clear hK K
 refine rdQ 6 ⟨some 23,.call {callee:=Callee.value (Operand.func 59),args:=#[.tmp 19,.tmp 22],argTypes:=#[84,9]},115,"print.go:68",#[⟨2,.data⟩,⟨5,.data⟩,⟨5,.chain⟩],none⟩ (λK hK=>?_);go_simp
 refine (hSw5.write tx _ (by first | omega | (simp only [List.length_append,List.length_cons];omega))).mono ?_;rintro e w9 ⟨rfl,hS9,hF9⟩;have bx9:=bxw5.kept hF9 hkx (by decide);go_wp2_with fail
 refine hkQ hK (zJ8 bx9.atl) (λhHeld=>?_);clear hK K
 refine wpAnyH_done (by kernel_rfl) ?_ _;go_wp2;first | go_end0 | refine bodyPost_ret (results_none rfl _ _ _) rfl ?_
 exact ⟨rfl,hS9,hFw5.trans hF9⟩
theorem zPZ (kw:Nat) (x:Wt.Nd) (r:List Wt.Nd) (acc:List UInt8) (w:World) (h1:x.k=3) (hv:Wt.rfOk x.a=true) (hv2:Wt.rfOk x.b=true) (hst:WSt w kw acc r) (hE:Env w) (hk8:8<=kw) (hlen:acc.length+950<=1000000) :
  Calls prog 88 #[.pointer (some ⟨kw,0,none⟩),.agg (zAD x).toArray] w λe w'=>e=.returned (.tuple #[])/\WSt w' kw (acc++(zCG x.a++58::zCG x.b)) r/\WF kw w w':=by
 have hkw:=hst.lt;have hB0:=zAI (Below.refl _ w) (.cells (zAD x).toArray 30);have bx1:=Bx.new w (zAD x) 30;have hS1:=hst.below hB0;have hF1:=WF.of (kw:=kw) hB0 (Nat.le_of_lt hkw);have hE1:=hE.below hB0;have hkx:w.heap.size ≠ kw:=by omega
 have c0:=bx1.atl.2.1 0 _ rfl;rw [h1] at c0;have hl:=zBy hv;have hl2:=zBy hv2;have C:=λw hE=>zG2 x.a w hv hE
 have C2:=λw hE=>zG2 x.b w hv2 hE
 simp only [rfV,rf5] at C C2;generalize zCG x.a=tx at *;generalize zCG x.b=ty at *;have lx1:¬ 9223372036854775807<tx.length+1:=by omega
 have lx2:¬ 9223372036854775807<tx.length+1+ty.length:=by omega
 go_enter func88,ntmps88;go_upto_region 7 with fail
 have hsz1:kw<=(w.alloc (.cells (zAD x).toArray 30)).heap.size:=by simp only [World.size_alloc];omega
 generalize w.alloc (.cells (zAD x).toArray 30)=w1 at *;refine wp_region_held_drew (S:=SbS w.heap.size x) (by kernel_rfl) (zHI bx1.drew.atl) (λhHeld=>?_);refine tkQ 0 ⟨some 26,.move (.tmp 0),111,"print.go:70",#[],none⟩ ?_
 refine tkQ 1 ⟨some 27,.nilCheck (.tmp 26),0,"print.go:70",#[⟨0,.data⟩],none⟩ ?_
 refine tkQ 2 ⟨some 28,.fieldAddr 86 (.tmp 27) 0,0,"print.go:70",#[⟨1,.data⟩],none⟩ ?_
 refine tkQ 3 ⟨some 29,.fieldAddr 30 (.tmp 3) 5,0,"print.go:70",#[],none⟩ ?_
 refine tkQ 4 ⟨some 30,.load 28 (.tmp 29),28,"print.go:70",#[⟨3,.data⟩],none⟩ ?_
 refine tkQ 7 ⟨some 33,.fieldAddr 30 (.tmp 3) 6,0,"print.go:70",#[],none⟩ ?_
 refine tkQ 8 ⟨some 34,.load 28 (.tmp 33),28,"print.go:70",#[⟨7,.data⟩],none⟩ ?_
 refine rdQ 5 ⟨some 31,.call {callee:=Callee.value (Operand.func 117),args:=#[.tmp 30],argTypes:=#[28]},9,"print.go:70",#[⟨4,.data⟩],none⟩ (λK hK=>?_);go_simp
 refine (C _ hE1.drew).mono ?_;rintro e w5 ⟨rfl,hbw5⟩;have bxw5:=bx1.drew.below hbw5;have hSw5:=hS1.drew.below hbw5;have hEw5:=hE1.drew.below hbw5;have hFw5:=hF1.drew.trans (WF.of (kw:=kw) hbw5 (by exact hsz1));have szw5:=hbw5.size;go_wp2_with fail
 refine hkQ hK (zHI bxw5.atl) (λhHeld=>?_);clear hK K
 refine tkQ 6 ⟨some 32,.binOp BinOp.add 9 (.tmp 31) (Operand.const (Value.string {data:=#[58]})) 9,9,"print.go:70",#[⟨5,.data⟩],none⟩ ?_
 refine rdQ 9 ⟨some 35,.call {callee:=Callee.value (Operand.func 117),args:=#[.tmp 34],argTypes:=#[28]},9,"print.go:70",#[⟨8,.data⟩,⟨5,.chain⟩],none⟩ (λK hK=>?_);go_simp
 refine (C2 _ hEw5).mono ?_;rintro e w6 ⟨rfl,hbw6⟩;have bxw6:=bxw5.below hbw6;have hSw6:=hSw5.below hbw6;have hEw6:=hEw5.below hbw6;have hFw6:=hFw5.trans (WF.of (kw:=kw) hbw6 (by exact Nat.le_trans hsz1 szw5));have szw6:=hbw6.size;go_wp2_with fail
 refine hkQ hK (zHI bxw6.atl) (λhHeld=>?_);clear hK K
 refine tkQ 10 ⟨some 36,.binOp BinOp.add 9 (.tmp 32) (.tmp 35) 9,9,"print.go:70",#[⟨6,.data⟩,⟨9,.data⟩],none⟩ ?_
 refine rdQ 11 ⟨some 37,.call {callee:=Callee.value (Operand.func 59),args:=#[.tmp 28,.tmp 36],argTypes:=#[84,9]},115,"print.go:70",#[⟨2,.data⟩,⟨10,.data⟩,⟨9,.chain⟩],none⟩ (λK hK=>?_);go_simp
 rw [zR4];refine (hSw6.write (tx++58::ty) _ (by first | omega | (simp only [List.length_append,List.length_cons];omega))).mono ?_;rintro e w9 ⟨rfl,hS9,hF9⟩;have bx9:=bxw6.kept hF9 hkx (by decide);go_wp2_with fail
 refine hkQ hK (zHI bx9.atl) (λhHeld=>?_);clear hK K
 refine wpAnyH_done (by kernel_rfl) ?_ _;go_wp2;first | go_end0 | refine bodyPost_ret (results_none rfl _ _ _) rfl ?_
 exact ⟨rfl,hS9,hFw6.trans hF9⟩
theorem zP4 (kw f:Nat) (P:zC2 kw f) (x:Wt.Nd) (r:List Wt.Nd) (acc:List UInt8) (w:World) (n a b:Nat) (h1:x.k=6) (hn:x.ar=n) (hn30:n<=30) (hnm:x.nm.data.toList.length<=16) (hfr:∀ y ∈ r,Wt.FitN y) (hm:Wt.many (Wt.one f) n r=some (a,b)) (hst:WSt w kw acc r) (hE:Env w) (hk8:8<=kw) (hlen:acc.length+1000 * a+950<=1000000) :
  Calls prog 88 #[.pointer (some ⟨kw,0,none⟩),.agg (zAD x).toArray] w λe w'=>e=.returned (.tuple #[])/\WSt w' kw (acc++(x.nm.data.toList++[40]++(prA (pr f) n true r).1++[41])) (r.drop a)/\WF kw w w':=by
 have hkw:=hst.lt;have hB0:=zAI (Below.refl _ w) (.cells (zAD x).toArray 30);have bx1:=Bx.new w (zAD x) 30;have hS1:=hst.below hB0;have hF1:=WF.of (kw:=kw) hB0 (Nat.le_of_lt hkw);have hE1:=hE.below hB0;have hkx:w.heap.size ≠ kw:=by omega
 have c0:=bx1.atl.2.1 0 _ rfl;rw [h1] at c0;have CC:=zOA kw f P x r acc _ n a b hn hn30 hnm hfr hm hS1 hE1 hk8 hlen;have RX:=bx1.atl.range;generalize x.nm.data.toList++[40]++(prA (pr f) n true r).1++[41]=tx at *;go_enter func88,ntmps88;go_wp2_with ((with_reducible refine wpList_load_mid (cs:=zAD x) ?_ 30 (.tmp 3) ?_ w.heap.size 0 ?_ _ ?_ underlying30 ?_ ?_ ?_);rfl;rfl;rfl;exact RX;rfl;kernel_rfl)
 refine CC.mono ?_;rintro e w3 ⟨rfl,hS3,hF3⟩;go_wp2;first | go_end0 | refine bodyPost_ret (results_none rfl _ _ _) rfl ?_
 exact ⟨rfl,hS3,hF1.trans hF3⟩
theorem zNo (kw f:Nat) (P:zC2 kw f):zKI kw f:=by
 intro x r acc w a b hKn hk hfx hfr hm hst hE hk8 hlen;have hK2:=hKn;unfold prS ndV;rcases hKn with ⟨h,h1,e⟩ | ⟨h,h1,e⟩ | ⟨h,h1,h2,h3,e⟩ | ⟨h,h2,-⟩ | ⟨h,h2,-⟩ | ⟨h,h1,h2,h3,e⟩
 ·rw [zBS hK2 (Or.inl h)] at hm;simp only [Int.toNat_zero,Wt.many,Option.some.injEq,Prod.mk.injEq] at hm;obtain ⟨rfl,rfl⟩:=hm;rw [if_pos h,List.drop_zero];exact zPR kw x r acc w h h1 hfx hst hE hk8 (by omega)
 ·rw [zBS hK2 (Or.inr (Or.inl h))] at hm;simp only [Int.toNat_zero,Wt.many,Option.some.injEq,Prod.mk.injEq] at hm;obtain ⟨rfl,rfl⟩:=hm;rw [if_neg (by omega),if_pos h,List.drop_zero];exact zPL kw x r acc w h h1 hst hE hk8 (by omega)
 ·rw [zBS hK2 (Or.inr (Or.inr h))] at hm;simp only [Int.toNat_zero,Wt.many,Option.some.injEq,Prod.mk.injEq] at hm;obtain ⟨rfl,rfl⟩:=hm;rw [if_neg (by omega),if_neg (by omega),if_pos h,List.drop_zero];exact zPZ kw x r acc w h h1 h2 hst hE hk8 (by omega)
 ·omega
 ·omega
 ·rw [zCp h] at hm;rw [if_neg (by omega),if_neg (by omega),if_neg (by omega)];exact zP4 kw f P x r acc w x.ar.toNat a b h (by omega) (by omega) (zBo h1).2 hfr hm hst hE hk8 hlen
theorem zE8 (kw:Nat):∀ f,zC2 kw f
 | 0=>λleast l acc w s d _ h=>by simp [Wt.one] at h
 | f+1=>zNX kw f (zOZ kw f (zE8 kw f) (zNo kw f (zE8 kw f)))
theorem zND (n:Nat):0<(Lib.decDigits n).length:=by
 rw [Lib.decDigits];split
 ·simp
 ·simp
theorem zNa (N:Int) (D:Nat):0<(Wnum.txt N D).length:=by
 unfold Wnum.txt;rw [List.length_append];split
 ·simp only [List.length_append,List.length_cons];omega
 split
 ·have:=zND (N.natAbs / D);omega
 ·simp only [List.length_append,List.length_cons];omega
theorem zMA {v:Wt.Vl} (h:Wt.vlOk v=true):0<(zFx v).length:=by
 unfold zFx;split
 ·exact zNa _ _
 split
 ·simp
 split
 ·split <;> decide
 rename_i h1 h2 h3
 unfold Wt.vlOk at h;split at h
 ·cases h
 unfold Wv.right at h;rw [if_neg (by assumption),if_neg h1,if_neg h2,if_neg h3] at h;split at h
 ·simp only [Bool.and_eq_true,decide_eq_true_eq,Wv.flt] at h;have hf:=h.1.1.1.1;obtain ⟨g,hg⟩:∃ g:Nat,v.f=g:=⟨v.f.toNat,by omega⟩
  rw [hg,Int.toNat_natCast];have:g=1 \/ g=2 \/ g=3 \/ g=4 \/ g=5 \/ g=6 \/ g=7 \/ g=8:=by omega
  rcases this with rfl | rfl | rfl | rfl | rfl | rfl | rfl | rfl <;> decide
 ·cases h
theorem zMc (a:Wt.Rf):0<(zCG a).length:=by
 have:0<(cw a).length:=by
  unfold cw;have:=zND (a.r+1).toNat;simp only [List.length_append];omega
 unfold zCG;split
 ·exact this
 ·simp only [List.length_append,List.length_cons];omega
theorem zKE {o:Int × List UInt8 × Int} (h:Wt.opOf x.op=some o):0<(mrk x).length:=by
 unfold mrk;rw [h];have:=List.mem_of_find?_eq_some h;simp only [Wt.opsT,List.mem_cons,List.not_mem_nil,or_false] at this;rcases this with rfl | rfl | rfl | rfl | rfl | rfl | rfl | rfl | rfl | rfl | rfl | rfl | rfl | rfl | rfl <;> decide
theorem zPb {f:Nat} {l:List Wt.Nd} {s d:Nat} (h:Wt.one f l=some (s,d)) (least:Int):0<(pr f least l).1.length:=by
 cases f with
 | zero=>simp [Wt.one] at h
 | succ f =>
  cases l with
  | nil=>simp [Wt.one] at h
  | cons x r =>
   obtain ⟨hx,a,b,hm,rfl,rfl⟩:=zE6 h;have hK:=zBv hx;have:0<(prN (pr f) x r).1.length:=by
    unfold prN;rcases zFA hK with ⟨h7,-,hk⟩ | ⟨h56,hp,o,ho⟩ | ⟨h04,hp,o,ho⟩
    ·rw [if_pos h7];unfold prS;rcases hK with ⟨h,h1,e⟩ | ⟨h,h1,e⟩ | ⟨h,h1,h2,h3,e⟩ | ⟨h,h2,-⟩ | ⟨h,h2,-⟩ | ⟨h,h1,h2,h3,e⟩
     ·rw [if_pos h];exact zMA h1
     ·rw [if_neg (by omega),if_pos h];exact zMc _
     ·rw [if_neg (by omega),if_neg (by omega),if_pos h];simp only [List.length_append,List.length_cons];omega
     ·omega
     ·omega
     ·rw [if_neg (by omega),if_neg (by omega),if_neg (by omega)];simp only [List.length_append,List.length_cons];omega
    ·have:=zKE ho;rw [if_neg (by omega)];split
     ·simp only [List.length_append];omega
     split
     ·simp only [List.length_append];omega
     ·simp only [List.length_append];omega
    ·have:=zKE ho;rw [if_neg (by omega),if_neg (by omega),if_neg (by omega)];simp only [List.length_append];omega
   simp only [pr];split
   ·exact this
   ·simp
def zIO (L:List Wt.Nd):List UInt8:=if Wt.check L=0 then (pr (L.length+1) 0 L).1 else []
theorem zJJ (av:Option Addr) (cap:Nat) (L:List Wt.Nd) (w:World) (hL:L.length<=9223372036854775807) (hF:∀ x ∈ L,Wt.FitN x) (hE:Env w) (hr:RdN w av L) (hcap:L.length<=cap) (hk8:8<=w.heap.size) :
  CR 20 #[.slice av L.length cap] w (.tuple #[.string ⟨(zIO L).toArray⟩,.int .i64 (Wt.check L)]):=by
 have CK:=zDe av cap L w hL hF hE.1 hr;unfold zIO;by_cases hc:Wt.check L=0
 ·rw [if_pos hc];rw [hc] at CK ⊢;obtain ⟨h256,d,hone,hd⟩:=zA8 hc;have hpos:=zPb hone 0;have hlen:=(zDn _ _ _ _ hone 0).2;have PP:=λkw=>zE8 kw (L.length+1) 0 L
  clear hc;generalize (pr (L.length+1) 0 L).1=tx at *;go_enter func20,ntmps20;go_wp2_with fail
  refine CK.mono ?_;rintro e w1 ⟨rfl,hb⟩;have hE1:=hE.below hb;have hr1:=hr.below hb;have hs1:=hb.size;have hB2:=zAI hb (.cells #[.pointer none,.slice none 0 0,.slice av L.length cap] 86);have hS2:WSt (w1.alloc (.cells #[.pointer none,.slice none 0 0,.slice av L.length cap] 86)) w1.heap.size [] L:=by
   refine ⟨av,cap,hcap,Or.inl ⟨Nat.le_refl _,.slice none 0 0,heap_alloc_new w1 _,World.ownsRow_nil _ _ _ _,by simp [Value.ownBlock]⟩,λi hi=>?_⟩;obtain ⟨bb,off,e,hx⟩:=hr1 i hi;have hlt:bb<w1.heap.size:=World.block_lt_of_cell? _ _ (hx 0 _ rfl);exact ⟨bb,off,e,hlt,λj v hv=>zAM (zAI (Below.refl _ w1) _) (hx j v hv)⟩
  have hE2:=hE.below hB2;go_wp2_with fail
  refine (PP w1.heap.size [] _ L.length d hF hone hS2 hE2 (by omega) (by simp only [List.length_nil];omega)).mono ?_;rintro e w3 ⟨rfl,hS3,hF3⟩;obtain ⟨av',cap',-,hI,-⟩:=hS3;rw [List.nil_append] at hI;have ST:=zLt _ _ _ _ w3 hI (λe=>by rw [e] at hpos;simp at hpos);have hB3:Below w.heap.size w w3:=hB2.trans (hF3.1.mono hs1);go_wp2_with fail
  refine ST.mono ?_;rintro e w4 ⟨rfl,hb4⟩;go_wp2;go_ret2
  exact ⟨rfl,hB3.trans (hb4.mono hs1)⟩
 ·rw [if_neg hc];generalize Wt.check L=ck at *;have hci:(ck != 0)=true:=by simp [hc]
  go_enter func20,ntmps20;go_wp2_with fail
  refine CK.mono ?_;rintro e w1 ⟨rfl,hb⟩;go_wp2;go_ret2
  exact ⟨rfl,hb⟩
end Go.Proofs.YtdghjlmnlodnlaaGreatDoor
namespace Go.Proofs.YtdghjlmnlodnlaaGreatDoor.Wnum
theorem zBY {q:Nat} (h:q<=9):(UInt8.ofNat (48+q)).toNat=48+q:=by
 rw [UInt8.toNat_ofNat'];exact Nat.mod_eq_of_lt (by omega)
end Go.Proofs.YtdghjlmnlodnlaaGreatDoor.Wnum
namespace Go.Proofs.YtdghjlmnlodnlaaGreatDoor
open Go.RowKit Go.Shelf
variable {ts r:List Wlx.TV} {row:List Wt.Nd} {en:Int} {f n:Nat}
def abR:Wt.Rf:=⟨⟨#[]⟩,0,0,false,false⟩
theorem zS7:Lib.decDigits 1=[49]:=by rw [Lib.decDigits_one (by decide)];rfl
theorem zQn:zIQ [65,49]=abR:=by
 unfold zIQ abR;have h1:Wpl.rdR (zBx [65,49])=0:=by decide
 have h2:Wpl.rdC (zBx [65,49])=0:=by decide
 rw [h1,h2];rfl
theorem zRB:cw abR=[65,49]:=by
 unfold cw;show fx false++Wpl.colS 0++fx false++Lib.decDigits 1=_
 rw [zS7];decide
theorem zRM:rw1 [65,49]=some abR:=by
 unfold rw1;rw [if_pos (by decide),zQn,zRB,if_pos rfl]
theorem zMO {sub:List Wlx.TV->PR} {k:Int} (h:zB0 k ts=none):more sub k n row ts=.inl (row,ts):=by cases n with
 | zero=>rfl
 | succ n=>simp only [more,h]
theorem zNv (h:zB0 6 ts=none):pct n row ts=.inl (row,ts):=by cases n with
 | zero=>rfl
 | succ n=>simp only [pct,h]
theorem up {k:Nat} (hk:k<5) (h:lv en f (k+1) ts=.inl (row,r)) (hn:zB0 k r=none):lv en (f+1) k ts=.inl (row,r):=by
 rw [zLH _ _ _ hk];unfold pbt;rw [h];exact zMO hn
theorem up6 (h:lv en f 7 ts=.inl (row,r)) (hn:zB0 6 r=none):lv en (f+1) 6 ts=.inl (row,r):=by
 rw [zLg];unfold ppc;rw [h];exact zNv hn
theorem up5 {q:PR} (hn:zB0 5 ts=none) (h:lv en f 6 ts=q):lv en (f+1) 5 ts=q:=by
 rw [zM2];unfold psg;rw [hn];exact h
def zJn (u:List UInt8):List UInt8 × Int:=if 1023<u.length then ([],2) else (61::u,0)
def cpF (x y:Int) (r:List Wt.Nd ⊕ (Int × Int)):List UInt8 × Int:=match r with
 | .inr (c,_)=>([],c)
 | .inl row=>zJn (zIO (row.map (mvN x y)))
def cpR (x y:Int) (l:List UInt8):List UInt8 × Int:=if l.head? = some 61 then cpF x y (zHB l.tail) else (l,0)
theorem zH4 {L:List Wt.Nd} (hc:Wt.check L=0):(zIO L).length<=256000:=by
 obtain ⟨h256,d,hone,hd⟩:=zA8 hc;have h:=(zDn _ _ _ _ hone 0).2;unfold zIO;rw [if_pos hc];omega
def cA (r:Int):Wt.Nd:=⟨2,Wt.v0,0,⟨#[]⟩,0,⟨⟨#[]⟩,r,0,false,false⟩,Wt.r0⟩
theorem zSN:Lib.decDigits 2=[50]:=by rw [Lib.decDigits_one (by decide)];rfl
theorem zQr:cw ⟨⟨#[]⟩,1,0,false,false⟩=[65,50]:=by
 unfold cw;show fx false++Wpl.colS 0++fx false++Lib.decDigits 2=_
 rw [zSN];decide
theorem zPQ (r:Int) (h:r=0 \/ r=1):Wt.check [cA r]=0:=by
 rcases h with rfl | rfl <;> decide +kernel
theorem zP5 (r:Int) (h:r=0 \/ r=1):zIO [cA r]=cw ⟨⟨#[]⟩,r,0,false,false⟩:=by
 unfold zIO;rw [if_pos (zPQ r h)];rfl
def tA:Wlx.TV:=⟨3,[65,49],0⟩
theorem zPo:zAX [65,49]=Wlx.Res.ok [⟨3,[65,49],0⟩]:=by
 unfold zAX;rw [if_neg (by decide)];rw [Wlx.scan_tok (k:=3) (n:=2) (by decide) (by decide) (by decide) (by decide) (by decide)];show Wlx.Res.cons _ (Wlx.scan 2 [])=_
 rw [Wlx.scan_nil];rfl
theorem zSY (f:Nat):lv 2 (f+5) 3 [tA]=.inl ([cA 0],[]):=by
 refine up (by decide) (up (by decide) (up5 (by decide) (up6 ?_ (by decide))) (by decide)) (by decide);rw [zMN];unfold psi;rw [if_pos (by decide)];unfold zCF;rw [if_neg (by decide),if_neg (by decide),if_neg (by decide),if_neg (by decide)];unfold pcs pc;rw [if_pos (by decide),if_neg (by decide),if_neg (by decide)];rw [show (hd [tA] 2).t=[65,49] from rfl,zRM];rfl
theorem zPd:zHB [65,49]=.inl [cA 0]:=by
 unfold zHB;rw [zPo];show zI6 2 [tA]=_
 unfold zI6;show (match zI8 (lv 2 19 0) 2 [tA] with | .inr e=>_ | .inl (row,_)=>_)=_
 have h0:lv 2 19 0 [tA]=.inl ([cA 0],[]):=up (by decide) (up (by decide) (up (by decide) (zSY 11) (by decide)) (by decide)) (by decide);unfold zI8;rw [h0];simp only;rw [if_pos (zPQ 0 (Or.inl rfl))]
theorem zKO (x y:Int) (t:List UInt8):cpR x y (61::t)=cpF x y (zHB t):=if_pos (show (61::t).head? = some 61 from rfl)
theorem zNV:cpR 1 0 [61,65,49]=([61,65,50],0):=by
 rw [zKO,zPd];have e:[cA 0].map (mvN 1 0)=[cA 1]:=by
  show [mvN 1 0 (cA 0)]=[cA 1]
  have:mvN 1 0 (cA 0)=cA 1:=(zAb _ _).1 (by decide +kernel);rw [this]
 unfold cpF;simp only [e];unfold zJn;rw [zP5 1 (Or.inr rfl),zQr,if_neg (by decide)]
