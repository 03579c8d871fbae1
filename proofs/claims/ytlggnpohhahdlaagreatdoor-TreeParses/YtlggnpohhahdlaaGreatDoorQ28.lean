/- TWrC, TWrF, TPrint. -/
import Derived.Test.YtlggnpohhahdlaaGreatDoorQ27
set_option maxHeartbeats 8000000
set_option maxRecDepth 100000
namespace Go.Proofs.YtlggnpohhahdlaaGreatDoor
open Go.RowKit Go.Shelf
set_option linter.unusedVariables false
theorem Bx.zero (w:World):Bx (w.alloc (.cells #[.int .i64 0,.int .i64 0,.int .i64 0,.int .i64 0,.string ⟨#[]⟩,.bool false,.int .i64 0,.int .i64 0,.string ⟨#[]⟩,.int .i64 0,.string ⟨#[]⟩,.int .i64 0,.int .i64 0,.bool false,.bool false,.string ⟨#[]⟩,.int .i64 0,.int .i64 0,.bool false,.bool false] 45)) w.heap.size [.int .i64 0,.int .i64 0,.int .i64 0,.int .i64 0,.string ⟨#[]⟩,.bool false,.int .i64 0,.int .i64 0,.string ⟨#[]⟩,.int .i64 0,.string ⟨#[]⟩,.int .i64 0,.int .i64 0,.bool false,.bool false,.string ⟨#[]⟩,.int .i64 0,.int .i64 0,.bool false,.bool false] 45:=Bx.new w _ _
theorem part_of (kw f:Nat) (N:NodeOk kw f):PartOk kw (f+1):=by
 intro least l acc w s d hfit hone hst hE hk8 hlen;cases l with
 | nil=>simp [Wt.one] at hone
 | cons x r =>
  obtain ⟨hx,a,b,hm,rfl,rfl⟩:=one_unf hone;have hKn:=right_knd hx;have hfx:Wt.FitN x:=hfit x (by simp);have hfr:∀ y ∈ r,Wt.FitN y:=fun y hy=>hfit y (by simp [hy])
  have HM:Hid (Wt.many (Wt.one f) (Wt.parts x).toNat r=some (a,b)):=hm;have HKn:Hid (Knd x):=hKn;have HFx:Hid (Wt.FitN x):=hfx;have HFr:Hid (∀ y ∈ r,Wt.FitN y):=hfr;have HE:Hid (Env w):=hE;clear hm hKn hx hone hfit hfx hfr hE;have HLen:True→acc.length+1000 * (a+1)≤1000000:=fun _=>hlen
  clear hlen;have hkw:=hst.lt;obtain ⟨av,cap,hcap,hIs,hcells⟩:=hst;obtain ⟨bb,off,rfl,hbb,hx0⟩:=hcells 0 (by simp);simp only [List.getElem_cons_zero,Nat.zero_mul,Nat.add_zero] at hx0;obtain ⟨l2,f2⟩:=hIs.left;simp only [List.length_cons] at hcap l2 hIs;have hB0:=ball (Below.refl _ w) (.cells zN0 45);have bZ:=Bx.zero w;have hth:=bZ.there;have hB1:=bset hB0 (Nat.le_refl _) (nd20 x) 0;have bx1:Bx _ w.heap.size (nd20 x) 45:=bZ.setAll rfl;have hIs1:=hIs.below hB1;obtain ⟨l21,f21⟩:=hIs1.left;have rx1:=bx1.atl.range;obtain ⟨TX,hTX⟩:∃ TX,TX=(pr (f+1) least (x::r)).1:=⟨_,rfl⟩
  rw [←hTX,List.drop_succ_cons];have HTX:Hid (TX=if least≤tgh x then (prN (pr f) x r).1 else 40::(prN (pr f) x r).1++[41]):=by
   show TX=_
   rw [hTX];simp only [pr];split <;> rfl
  clear hTX;obtain ⟨tt,htt⟩:∃ tt,tgh x=tt:=⟨_,rfl⟩
  have HTT:Hid (tgh x=tt):=htt;rw [htt] at HTX;clear htt;go_enter Tryz.func27,Tryz.ntmps27;go_upto_region 1 with (first | ((with_reducible refine wpList_load_mid (cs:=nd20 x) ?_ 45 (.tmp 10) ?_ bb off ?_ _ ?_ Tryz.underlying45 ?_ ?_ ?_);rfl;rfl;rfl;exact hx0;rfl;kernel_rfl) | ((with_reducible refine wpList_store_mid ?_ 45 (.tmp 4) (.tmp 11) ?_ (w.heap.size) 0 (nd20 x).toArray ?_ ?_ ?_ ?_ ?_ ?_);rfl;rfl;rfl;rfl;exact hth;kernel_rfl;exact one20 _))
  generalize (w.alloc (.cells zN0 45)).setCells w.heap.size 0 (nd20 x)=W1 at *;clear l2 f2 hIs hB0 bZ hth hx0;go_upto_region 2 with fail
  obtain ⟨av',hav⟩:∃ av',av'=if cap=1 then some (⟨bb,off,none⟩:Addr) else some ⟨bb,off+20,none⟩:=⟨_,rfl⟩
  rw [←hav];have hav':0<r.length→av'=some ⟨bb,off+20,none⟩:=fun h=>by rw [hav,if_neg (by omega)]
  clear hav l21 f21 rx1;have hIs2:=hIs1.set2 (.slice av' r.length (cap - 1));have bx2:Bx (W1.setCell ⟨kw,2,none⟩ (.slice av' r.length (cap - 1))) w.heap.size (nd20 x) 45:=(Below.heap_setCell _ _ _ _ (by simp only;omega)).trans bx1;have hF2:WF kw w (W1.setCell ⟨kw,2,none⟩ (.slice av' r.length (cap - 1))):=⟨(hB1.mono (Nat.le_of_lt hkw)).setCell (p:=⟨kw,2,none⟩) (Nat.le_refl _) _,(kept_below (B:=kw) hB1).setCell ⟨kw,2,none⟩ rfl _⟩
  have hS2:WSt (W1.setCell ⟨kw,2,none⟩ (.slice av' r.length (cap - 1))) kw acc r:=by
   refine ⟨av',cap - 1,by omega,hIs2,fun i hi=>?_⟩;obtain ⟨bb',off',e,hlt,hr⟩:=hcells (i+1) (by simp only [List.length_cons];omega);simp only [Option.some.injEq,Addr.mk.injEq,and_true] at e;obtain ⟨rfl,rfl⟩:=e;refine ⟨bb,off+20,hav' (by omega),hbb,fun j v hv=>?_⟩;rw [World.cell?_setCell_far _ _ _ _ (by simp;omega),show off+20+i * 20+j=off+(i+1) * 20+j by omega];exact cell_below hB1 (hr j v (by simpa using hv))
  have hs2:(W1.setCell ⟨kw,2,none⟩ (.slice av' r.length (cap - 1))).heap.size=W1.heap.size:=World.size_setCell ..;have hsz:=hB1.size;have ltx:=(Array.getElem?_eq_some_iff.1 bx1).1;clear hIs2 hIs1 bx1 hcells hav' hcap hB1;generalize W1.setCell ⟨kw,2,none⟩ (.slice av' r.length (cap - 1))=W2 at *;have HE2:Hid (Env W2):=HE.out.wf hF2 hk8;have T:=tight_any x W2 HE2.out.1;rw [HTT.out] at T;have RX:=bx2.atl.range;go_wp2_with ((with_reducible refine wpList_load_mid (cs:=nd20 x) ?_ 45 (.tmp 4) ?_ w.heap.size 0 ?_ _ ?_ Tryz.underlying45 ?_ ?_ ?_);rfl;rfl;rfl;exact RX;rfl;kernel_rfl)
  refine T.mono ?_;rintro e w3 ⟨rfl,hb⟩;have hS3:=hS2.below hb;have bx3:=bx2.below hb;have hF3:=hF2.trans (WF.of (kw:=kw) hb (by omega));have HE3:Hid (Env w3):=HE.out.wf hF3 hk8;clear hb RX T hS2 bx2 hF2 HE2;have RX:=bx3.atl.range;have HPn:True→(prN (pr f) x r).1.length≤1000 * a+900:=fun _=>(prN_ok (pr_ok f) HKn.out HM.out).2
  have NN:=N x r acc w3 a b HKn.out HFx.out HFr.out HM.out hS3 HE3.out hk8 (by have:=HLen trivial;omega);rw [HTT.out] at NN;by_cases hle:least≤tt
  ·rw [if_pos hle] at HTX;go_wp2_with ((with_reducible refine wpList_load_mid (cs:=nd20 x) ?_ 45 (.tmp 4) ?_ w.heap.size 0 ?_ _ ?_ Tryz.underlying45 ?_ ?_ ?_);rfl;rfl;rfl;exact RX;rfl;kernel_rfl)
   refine NN.mono ?_;rintro e w4 ⟨rfl,hS4,hF4⟩;go_wp2;first | go_end0 | refine bodyPost_ret (results_none rfl _ _ _) rfl ?_
   exact ⟨rfl,by rw [HTX.out];exact hS4,hF3.trans hF4⟩
  ·rw [if_neg hle] at HTX;have hle':¬ (least≤tt):=hle;have WR:=hS3.write [40] w3 (by simp only [List.length_cons,List.length_nil];have:=HLen trivial;omega);clear NN;go_wp2_with fail
   refine WR.mono ?_;rintro e w4 ⟨rfl,hS4,hF4⟩;have bx4:=bx3.kept hF4 (by omega) (by decide);have HE4:Hid (Env w4):=HE3.out.wf hF4 hk8;have NN:=N x r (acc++[40]) w4 a b HKn.out HFx.out HFr.out HM.out hS4 HE4.out hk8 (by simp only [List.length_append,List.length_cons,List.length_nil];have:=HLen trivial;omega);rw [HTT.out] at NN;clear RX WR;have RX:=bx4.atl.range;go_wp2_with ((with_reducible refine wpList_load_mid (cs:=nd20 x) ?_ 45 (.tmp 4) ?_ w.heap.size 0 ?_ _ ?_ Tryz.underlying45 ?_ ?_ ?_);rfl;rfl;rfl;exact RX;rfl;kernel_rfl)
   refine NN.mono ?_;rintro e w5 ⟨rfl,hS5,hF5⟩;have WR:=hS5.write [41] w5 (by simp only [List.length_append,List.length_cons,List.length_nil];have:=HLen trivial;have:=HPn trivial;omega);go_wp2_with fail
   refine WR.mono ?_;rintro e w6 ⟨rfl,hS6,hF6⟩;go_wp2;first | go_end0 | refine bodyPost_ret (results_none rfl _ _ _) rfl ?_
   exact ⟨rfl,by rw [HTX.out];simpa using hS6,hF3.trans (hF4.trans (hF5.trans hF6))⟩
abbrev SvS (k:Nat) (x:Wt.Nd) (W:World):Prop:=W.cell? ⟨k,1,none⟩=some (.int .i64 x.v.k)∧W.cell? ⟨k,2,none⟩=some (.int .i64 x.v.n)∧W.cell? ⟨k,3,none⟩=some (.int .i64 x.v.d)∧W.cell? ⟨k,4,none⟩=some (.string x.v.t)∧W.cell? ⟨k,5,none⟩=some (.bool x.v.b)∧W.cell? ⟨k,6,none⟩=some (.int .i64 x.v.f)
theorem SvS_mk {k:Nat} {x:Wt.Nd} {W:World} (h:AtL W k (nd20 x)):SvS k x W:=⟨h.2.1 1 _ rfl,h.2.1 2 _ rfl,h.2.1 3 _ rfl,h.2.1 4 _ rfl,h.2.1 5 _ rfl,h.2.1 6 _ rfl⟩
abbrev SaS (k:Nat) (x:Wt.Nd) (W:World):Prop:=W.cell? ⟨k,10,none⟩=some (.string x.a.s)∧W.cell? ⟨k,11,none⟩=some (.int .i64 x.a.r)∧W.cell? ⟨k,12,none⟩=some (.int .i64 x.a.c)∧W.cell? ⟨k,13,none⟩=some (.bool x.a.fr)∧W.cell? ⟨k,14,none⟩=some (.bool x.a.fc)
theorem SaS_mk {k:Nat} {x:Wt.Nd} {W:World} (h:AtL W k (nd20 x)):SaS k x W:=⟨h.2.1 10 _ rfl,h.2.1 11 _ rfl,h.2.1 12 _ rfl,h.2.1 13 _ rfl,h.2.1 14 _ rfl⟩
abbrev SbS (k:Nat) (x:Wt.Nd) (W:World):Prop:=W.cell? ⟨k,10,none⟩=some (.string x.a.s)∧W.cell? ⟨k,11,none⟩=some (.int .i64 x.a.r)∧W.cell? ⟨k,12,none⟩=some (.int .i64 x.a.c)∧W.cell? ⟨k,13,none⟩=some (.bool x.a.fr)∧W.cell? ⟨k,14,none⟩=some (.bool x.a.fc)∧W.cell? ⟨k,15,none⟩=some (.string x.b.s)∧W.cell? ⟨k,16,none⟩=some (.int .i64 x.b.r)∧W.cell? ⟨k,17,none⟩=some (.int .i64 x.b.c)∧W.cell? ⟨k,18,none⟩=some (.bool x.b.fr)∧W.cell? ⟨k,19,none⟩=some (.bool x.b.fc)
theorem SbS_mk {k:Nat} {x:Wt.Nd} {W:World} (h:AtL W k (nd20 x)):SbS k x W:=⟨h.2.1 10 _ rfl,h.2.1 11 _ rfl,h.2.1 12 _ rfl,h.2.1 13 _ rfl,h.2.1 14 _ rfl,h.2.1 15 _ rfl,h.2.1 16 _ rfl,h.2.1 17 _ rfl,h.2.1 18 _ rfl,h.2.1 19 _ rfl⟩
theorem cat58 (a b:List UInt8):(⟨a.toArray⟩:ByteArray)++⟨#[58]⟩++⟨b.toArray⟩=⟨(a++(58::b)).toArray⟩:=by
 apply ByteArray.ext
 apply Array.ext'
 simp
theorem sing_1 (kw:Nat) (x:Wt.Nd) (r:List Wt.Nd) (acc:List UInt8) (w:World) (h1:x.k=1) (hv:Wt.vlOk x.v=true) (hfx:Wt.FitN x) (hst:WSt w kw acc r) (hE:Env w) (hk8:8≤kw) (hlen:acc.length+950≤1000000) :
  Calls Tryz.prog 72 #[.pointer (some ⟨kw,0,none⟩),.agg (nd20 x).toArray] w fun e w'=>e=.returned (.tuple #[])∧WSt w' kw (acc++litT x.v) r∧WF kw w w':=by
 have hkw:=hst.lt;have hB0:=ball (Below.refl _ w) (.cells (nd20 x).toArray 45);have bx1:=Bx.new w (nd20 x) 45;have hS1:=hst.below hB0;have hF1:=WF.of (kw:=kw) hB0 (Nat.le_of_lt hkw);have hE1:=hE.below hB0;have hkx:w.heap.size ≠ kw:=by omega
 have c0:=bx1.atl.2.1 0 _ rfl;rw [h1] at c0;have hl:=litT_len hv;have C:=fun w hE=>lit_any x.v w hv hfx.1 hE
 simp only [vlV,vl6] at C;generalize litT x.v=tx at *;go_enter Tryz.func72,Tryz.ntmps72;go_upto_region 3 with fail
 have hsz1:kw≤(w.alloc (.cells (nd20 x).toArray 45)).heap.size:=by simp only [World.size_alloc];omega
 generalize w.alloc (.cells (nd20 x).toArray 45)=w1 at *;refine wp_region_held_drew (S:=SvS w.heap.size x) (by kernel_rfl) (SvS_mk bx1.drew.atl) (fun hHeld=>?_);refine tkQ 0 {dst:=some 8,op:=.move (.tmp 0),type:=86,pos:= "print.go:66",after:=#[],guard:=none} ?_;try simp only [Act.put,lA,lZ,lS]
 refine tkQ 1 {dst:=some 9,op:=.nilCheck (.tmp 8),type:=0,pos:= "print.go:66",after:=#[⟨0,.data⟩],guard:=none} ?_;try simp only [Act.put,lA,lZ,lS]
 refine tkQ 2 {dst:=some 10,op:=.fieldAddr 67 (.tmp 9) 0,type:=0,pos:= "print.go:66",after:=#[⟨1,.data⟩],guard:=none} ?_;try simp only [Act.put,lA,lZ,lS]
 refine tkQ 3 {dst:=some 11,op:=.fieldAddr 45 (.tmp 3) 1,type:=0,pos:= "print.go:66",after:=#[],guard:=none} ?_;try simp only [Act.put,lA,lZ,lS]
 refine tkQ 4 {dst:=some 12,op:=.load 41 (.tmp 11),type:=41,pos:= "print.go:66",after:=#[⟨3,.data⟩],guard:=none} ?_;try simp only [Act.put,lA,lZ,lS]
 refine wpAnyH_ready (rs:=[5]) (by kernel_rfl) (by simp) ?_;refine AllReadyH.cons (o:={dst:=some 13,op:=.call {callee:=Callee.value (Operand.func 97),args:=#[.tmp 12],argTypes:=#[41]},type:=9,pos:= "print.go:66",after:=#[⟨4,.data⟩],guard:=none}) rfl (fun K hK=>?_) AllReadyH.nil;go_simp
 refine (C _ hE1.drew).mono ?_;rintro e w5 ⟨rfl,hbw5⟩;have bxw5:=bx1.drew.below hbw5;have hSw5:=hS1.drew.below hbw5;have hEw5:=hE1.drew.below hbw5;have hFw5:=hF1.drew.trans (WF.of (kw:=kw) hbw5 (by exact hsz1));have szw5:=hbw5.size;go_wp2_with fail
 refine hK.out _ _ (SvS_mk bxw5.atl) (fun hHeld=>?_);clear hK K;try simp only [Act.put,lA,lZ,lS]
 refine wpAnyH_ready (rs:=[6]) (by kernel_rfl) (by simp) ?_;refine AllReadyH.cons (o:={dst:=some 14,op:=.call {callee:=Callee.value (Operand.func 46),args:=#[.tmp 10,.tmp 13],argTypes:=#[65,9]},type:=90,pos:= "print.go:66",after:=#[⟨2,.data⟩,⟨5,.data⟩,⟨5,.chain⟩],guard:=none}) rfl (fun K hK=>?_) AllReadyH.nil;go_simp
 refine (hSw5.write tx _ (by first | omega | (simp only [List.length_append,List.length_cons];omega))).mono ?_;rintro e w9 ⟨rfl,hS9,hF9⟩;have bx9:=bxw5.kept hF9 hkx (by decide);go_wp2_with fail
 refine hK.out _ _ (SvS_mk bx9.atl) (fun hHeld=>?_);clear hK K;try simp only [Act.put,lA,lZ,lS]
 refine wpAnyH_done (by kernel_rfl) ?_ _;go_wp2;first | go_end0 | refine bodyPost_ret (results_none rfl _ _ _) rfl ?_
 exact ⟨rfl,hS9,hFw5.trans hF9⟩
theorem sing_2 (kw:Nat) (x:Wt.Nd) (r:List Wt.Nd) (acc:List UInt8) (w:World) (h1:x.k=2) (hv:Wt.rfOk x.a=true) (hst:WSt w kw acc r) (hE:Env w) (hk8:8≤kw) (hlen:acc.length+950≤1000000) :
  Calls Tryz.prog 72 #[.pointer (some ⟨kw,0,none⟩),.agg (nd20 x).toArray] w fun e w'=>e=.returned (.tuple #[])∧WSt w' kw (acc++celT x.a) r∧WF kw w w':=by
 have hkw:=hst.lt;have hB0:=ball (Below.refl _ w) (.cells (nd20 x).toArray 45);have bx1:=Bx.new w (nd20 x) 45;have hS1:=hst.below hB0;have hF1:=WF.of (kw:=kw) hB0 (Nat.le_of_lt hkw);have hE1:=hE.below hB0;have hkx:w.heap.size ≠ kw:=by omega
 have c0:=bx1.atl.2.1 0 _ rfl;rw [h1] at c0;have hl:=celT_len hv;have C:=fun w hE=>cel_any x.a w hv hE
 simp only [rfV,rf5] at C;generalize celT x.a=tx at *;go_enter Tryz.func72,Tryz.ntmps72;go_upto_region 5 with fail
 have hsz1:kw≤(w.alloc (.cells (nd20 x).toArray 45)).heap.size:=by simp only [World.size_alloc];omega
 generalize w.alloc (.cells (nd20 x).toArray 45)=w1 at *;refine wp_region_held_drew (S:=SaS w.heap.size x) (by kernel_rfl) (SaS_mk bx1.drew.atl) (fun hHeld=>?_);refine tkQ 0 {dst:=some 17,op:=.move (.tmp 0),type:=86,pos:= "print.go:68",after:=#[],guard:=none} ?_;try simp only [Act.put,lA,lZ,lS]
 refine tkQ 1 {dst:=some 18,op:=.nilCheck (.tmp 17),type:=0,pos:= "print.go:68",after:=#[⟨0,.data⟩],guard:=none} ?_;try simp only [Act.put,lA,lZ,lS]
 refine tkQ 2 {dst:=some 19,op:=.fieldAddr 67 (.tmp 18) 0,type:=0,pos:= "print.go:68",after:=#[⟨1,.data⟩],guard:=none} ?_;try simp only [Act.put,lA,lZ,lS]
 refine tkQ 3 {dst:=some 20,op:=.fieldAddr 45 (.tmp 3) 5,type:=0,pos:= "print.go:68",after:=#[],guard:=none} ?_;try simp only [Act.put,lA,lZ,lS]
 refine tkQ 4 {dst:=some 21,op:=.load 43 (.tmp 20),type:=43,pos:= "print.go:68",after:=#[⟨3,.data⟩],guard:=none} ?_;try simp only [Act.put,lA,lZ,lS]
 refine wpAnyH_ready (rs:=[5]) (by kernel_rfl) (by simp) ?_;refine AllReadyH.cons (o:={dst:=some 22,op:=.call {callee:=Callee.value (Operand.func 98),args:=#[.tmp 21],argTypes:=#[43]},type:=9,pos:= "print.go:68",after:=#[⟨4,.data⟩],guard:=none}) rfl (fun K hK=>?_) AllReadyH.nil;go_simp
 refine (C _ hE1.drew).mono ?_;rintro e w5 ⟨rfl,hbw5⟩;have bxw5:=bx1.drew.below hbw5;have hSw5:=hS1.drew.below hbw5;have hEw5:=hE1.drew.below hbw5;have hFw5:=hF1.drew.trans (WF.of (kw:=kw) hbw5 (by exact hsz1));have szw5:=hbw5.size;go_wp2_with fail
 refine hK.out _ _ (SaS_mk bxw5.atl) (fun hHeld=>?_);clear hK K;try simp only [Act.put,lA,lZ,lS]
 refine wpAnyH_ready (rs:=[6]) (by kernel_rfl) (by simp) ?_;refine AllReadyH.cons (o:={dst:=some 23,op:=.call {callee:=Callee.value (Operand.func 46),args:=#[.tmp 19,.tmp 22],argTypes:=#[65,9]},type:=90,pos:= "print.go:68",after:=#[⟨2,.data⟩,⟨5,.data⟩,⟨5,.chain⟩],guard:=none}) rfl (fun K hK=>?_) AllReadyH.nil;go_simp
 refine (hSw5.write tx _ (by first | omega | (simp only [List.length_append,List.length_cons];omega))).mono ?_;rintro e w9 ⟨rfl,hS9,hF9⟩;have bx9:=bxw5.kept hF9 hkx (by decide);go_wp2_with fail
 refine hK.out _ _ (SaS_mk bx9.atl) (fun hHeld=>?_);clear hK K;try simp only [Act.put,lA,lZ,lS]
 refine wpAnyH_done (by kernel_rfl) ?_ _;go_wp2;first | go_end0 | refine bodyPost_ret (results_none rfl _ _ _) rfl ?_
 exact ⟨rfl,hS9,hFw5.trans hF9⟩
theorem sing_3 (kw:Nat) (x:Wt.Nd) (r:List Wt.Nd) (acc:List UInt8) (w:World) (h1:x.k=3) (hv:Wt.rfOk x.a=true) (hv2:Wt.rfOk x.b=true) (hst:WSt w kw acc r) (hE:Env w) (hk8:8≤kw) (hlen:acc.length+950≤1000000) :
  Calls Tryz.prog 72 #[.pointer (some ⟨kw,0,none⟩),.agg (nd20 x).toArray] w fun e w'=>e=.returned (.tuple #[])∧WSt w' kw (acc++(celT x.a++58::celT x.b)) r∧WF kw w w':=by
 have hkw:=hst.lt;have hB0:=ball (Below.refl _ w) (.cells (nd20 x).toArray 45);have bx1:=Bx.new w (nd20 x) 45;have hS1:=hst.below hB0;have hF1:=WF.of (kw:=kw) hB0 (Nat.le_of_lt hkw);have hE1:=hE.below hB0;have hkx:w.heap.size ≠ kw:=by omega
 have c0:=bx1.atl.2.1 0 _ rfl;rw [h1] at c0;have hl:=celT_len hv;have hl2:=celT_len hv2;have C:=fun w hE=>cel_any x.a w hv hE
 have C2:=fun w hE=>cel_any x.b w hv2 hE
 simp only [rfV,rf5] at C C2;generalize celT x.a=tx at *;generalize celT x.b=ty at *;have lx1:¬ 9223372036854775807<tx.length+1:=by omega
 have lx2:¬ 9223372036854775807<tx.length+1+ty.length:=by omega
 go_enter Tryz.func72,Tryz.ntmps72;go_upto_region 7 with fail
 have hsz1:kw≤(w.alloc (.cells (nd20 x).toArray 45)).heap.size:=by simp only [World.size_alloc];omega
 generalize w.alloc (.cells (nd20 x).toArray 45)=w1 at *;refine wp_region_held_drew (S:=SbS w.heap.size x) (by kernel_rfl) (SbS_mk bx1.drew.atl) (fun hHeld=>?_);refine tkQ 0 {dst:=some 26,op:=.move (.tmp 0),type:=86,pos:= "print.go:70",after:=#[],guard:=none} ?_;try simp only [Act.put,lA,lZ,lS]
 refine tkQ 1 {dst:=some 27,op:=.nilCheck (.tmp 26),type:=0,pos:= "print.go:70",after:=#[⟨0,.data⟩],guard:=none} ?_;try simp only [Act.put,lA,lZ,lS]
 refine tkQ 2 {dst:=some 28,op:=.fieldAddr 67 (.tmp 27) 0,type:=0,pos:= "print.go:70",after:=#[⟨1,.data⟩],guard:=none} ?_;try simp only [Act.put,lA,lZ,lS]
 refine tkQ 3 {dst:=some 29,op:=.fieldAddr 45 (.tmp 3) 5,type:=0,pos:= "print.go:70",after:=#[],guard:=none} ?_;try simp only [Act.put,lA,lZ,lS]
 refine tkQ 4 {dst:=some 30,op:=.load 43 (.tmp 29),type:=43,pos:= "print.go:70",after:=#[⟨3,.data⟩],guard:=none} ?_;try simp only [Act.put,lA,lZ,lS]
 refine tkQ 7 {dst:=some 33,op:=.fieldAddr 45 (.tmp 3) 6,type:=0,pos:= "print.go:70",after:=#[],guard:=none} ?_;try simp only [Act.put,lA,lZ,lS]
 refine tkQ 8 {dst:=some 34,op:=.load 43 (.tmp 33),type:=43,pos:= "print.go:70",after:=#[⟨7,.data⟩],guard:=none} ?_;try simp only [Act.put,lA,lZ,lS]
 refine wpAnyH_ready (rs:=[5]) (by kernel_rfl) (by simp) ?_;refine AllReadyH.cons (o:={dst:=some 31,op:=.call {callee:=Callee.value (Operand.func 98),args:=#[.tmp 30],argTypes:=#[43]},type:=9,pos:= "print.go:70",after:=#[⟨4,.data⟩],guard:=none}) rfl (fun K hK=>?_) AllReadyH.nil;go_simp
 refine (C _ hE1.drew).mono ?_;rintro e w5 ⟨rfl,hbw5⟩;have bxw5:=bx1.drew.below hbw5;have hSw5:=hS1.drew.below hbw5;have hEw5:=hE1.drew.below hbw5;have hFw5:=hF1.drew.trans (WF.of (kw:=kw) hbw5 (by exact hsz1));have szw5:=hbw5.size;go_wp2_with fail
 refine hK.out _ _ (SbS_mk bxw5.atl) (fun hHeld=>?_);clear hK K;try simp only [Act.put,lA,lZ,lS]
 refine tkQ 6 {dst:=some 32,op:=.binOp BinOp.add 9 (.tmp 31) (Operand.const (Value.string {data:=#[58]})) 9,type:=9,pos:= "print.go:70",after:=#[⟨5,.data⟩],guard:=none} ?_;try simp only [Act.put,lA,lZ,lS]
 refine wpAnyH_ready (rs:=[9]) (by kernel_rfl) (by simp) ?_;refine AllReadyH.cons (o:={dst:=some 35,op:=.call {callee:=Callee.value (Operand.func 98),args:=#[.tmp 34],argTypes:=#[43]},type:=9,pos:= "print.go:70",after:=#[⟨8,.data⟩,⟨5,.chain⟩],guard:=none}) rfl (fun K hK=>?_) AllReadyH.nil;go_simp
 refine (C2 _ hEw5).mono ?_;rintro e w6 ⟨rfl,hbw6⟩;have bxw6:=bxw5.below hbw6;have hSw6:=hSw5.below hbw6;have hEw6:=hEw5.below hbw6;have hFw6:=hFw5.trans (WF.of (kw:=kw) hbw6 (by exact Nat.le_trans hsz1 szw5));have szw6:=hbw6.size;go_wp2_with fail
 refine hK.out _ _ (SbS_mk bxw6.atl) (fun hHeld=>?_);clear hK K;try simp only [Act.put,lA,lZ,lS]
 refine tkQ 10 {dst:=some 36,op:=.binOp BinOp.add 9 (.tmp 32) (.tmp 35) 9,type:=9,pos:= "print.go:70",after:=#[⟨6,.data⟩,⟨9,.data⟩],guard:=none} ?_;try simp only [Act.put,lA,lZ,lS]
 refine wpAnyH_ready (rs:=[11]) (by kernel_rfl) (by simp) ?_;refine AllReadyH.cons (o:={dst:=some 37,op:=.call {callee:=Callee.value (Operand.func 46),args:=#[.tmp 28,.tmp 36],argTypes:=#[65,9]},type:=90,pos:= "print.go:70",after:=#[⟨2,.data⟩,⟨10,.data⟩,⟨9,.chain⟩],guard:=none}) rfl (fun K hK=>?_) AllReadyH.nil;go_simp
 rw [cat58];refine (hSw6.write (tx++58::ty) _ (by first | omega | (simp only [List.length_append,List.length_cons];omega))).mono ?_;rintro e w9 ⟨rfl,hS9,hF9⟩;have bx9:=bxw6.kept hF9 hkx (by decide);go_wp2_with fail
 refine hK.out _ _ (SbS_mk bx9.atl) (fun hHeld=>?_);clear hK K;try simp only [Act.put,lA,lZ,lS]
 refine wpAnyH_done (by kernel_rfl) ?_ _;go_wp2;first | go_end0 | refine bodyPost_ret (results_none rfl _ _ _) rfl ?_
 exact ⟨rfl,hS9,hFw6.trans hF9⟩
theorem sing_6 (kw f:Nat) (P:PartOk kw f) (x:Wt.Nd) (r:List Wt.Nd) (acc:List UInt8) (w:World) (n a b:Nat) (h1:x.k=6) (hn:x.ar=n) (hn30:n≤30) (hnm:x.nm.data.toList.length≤16) (hfr:∀ y ∈ r,Wt.FitN y) (hm:Wt.many (Wt.one f) n r=some (a,b)) (hst:WSt w kw acc r) (hE:Env w) (hk8:8≤kw) (hlen:acc.length+1000 * a+950≤1000000) :
  Calls Tryz.prog 72 #[.pointer (some ⟨kw,0,none⟩),.agg (nd20 x).toArray] w fun e w'=>e=.returned (.tuple #[])∧WSt w' kw (acc++(x.nm.data.toList++[40]++(prA (pr f) n true r).1++[41])) (r.drop a)∧WF kw w w':=by
 have hkw:=hst.lt;have hB0:=ball (Below.refl _ w) (.cells (nd20 x).toArray 45);have bx1:=Bx.new w (nd20 x) 45;have hS1:=hst.below hB0;have hF1:=WF.of (kw:=kw) hB0 (Nat.le_of_lt hkw);have hE1:=hE.below hB0;have hkx:w.heap.size ≠ kw:=by omega
 have c0:=bx1.atl.2.1 0 _ rfl;rw [h1] at c0;have CC:=call_of kw f P x r acc _ n a b hn hn30 hnm hfr hm hS1 hE1 hk8 hlen;have RX:=bx1.atl.range;generalize x.nm.data.toList++[40]++(prA (pr f) n true r).1++[41]=tx at *;go_enter Tryz.func72,Tryz.ntmps72;go_wp2_with ((with_reducible refine wpList_load_mid (cs:=nd20 x) ?_ 45 (.tmp 3) ?_ w.heap.size 0 ?_ _ ?_ Tryz.underlying45 ?_ ?_ ?_);rfl;rfl;rfl;exact RX;rfl;kernel_rfl)
 refine CC.mono ?_;rintro e w3 ⟨rfl,hS3,hF3⟩;go_wp2;first | go_end0 | refine bodyPost_ret (results_none rfl _ _ _) rfl ?_
 exact ⟨rfl,hS3,hF1.trans hF3⟩
theorem sing_of (kw f:Nat) (P:PartOk kw f):SingOk kw f:=by
 intro x r acc w a b hKn hk hfx hfr hm hst hE hk8 hlen;have hK2:=hKn;unfold prS ndV;rcases hKn with ⟨h,h1,e⟩ | ⟨h,h1,e⟩ | ⟨h,h1,h2,h3,e⟩ | ⟨h,h2,-⟩ | ⟨h,h2,-⟩ | ⟨h,h1,h2,h3,e⟩
 ·rw [knd_parts0 hK2 (Or.inl h)] at hm;simp only [Int.toNat_zero,Wt.many,Option.some.injEq,Prod.mk.injEq] at hm;obtain ⟨rfl,rfl⟩:=hm;rw [if_pos h,List.drop_zero];exact sing_1 kw x r acc w h h1 hfx hst hE hk8 (by omega)
 ·rw [knd_parts0 hK2 (Or.inr (Or.inl h))] at hm;simp only [Int.toNat_zero,Wt.many,Option.some.injEq,Prod.mk.injEq] at hm;obtain ⟨rfl,rfl⟩:=hm;rw [if_neg (by omega),if_pos h,List.drop_zero];exact sing_2 kw x r acc w h h1 hst hE hk8 (by omega)
 ·rw [knd_parts0 hK2 (Or.inr (Or.inr h))] at hm;simp only [Int.toNat_zero,Wt.many,Option.some.injEq,Prod.mk.injEq] at hm;obtain ⟨rfl,rfl⟩:=hm;rw [if_neg (by omega),if_neg (by omega),if_pos h,List.drop_zero];exact sing_3 kw x r acc w h h1 h2 hst hE hk8 (by omega)
 ·omega
 ·omega
 ·rw [knd_parts6 h] at hm;rw [if_neg (by omega),if_neg (by omega),if_neg (by omega)];exact sing_6 kw f P x r acc w x.ar.toNat a b h (by omega) (by omega) (isNm_len h1).2 hfr hm hst hE hk8 hlen
theorem part_any (kw:Nat):∀ f,PartOk kw f
 | 0=>fun least l acc w s d _ h=>by simp [Wt.one] at h
 | f+1=>part_of kw f (node_of kw f (part_any kw f) (sing_of kw f (part_any kw f)))
theorem dd_pos (n:Nat):0<(Lib.decDigits n).length:=by
 rw [Lib.decDigits];split
 ·simp
 ·simp
theorem txt_pos (N:Int) (D:Nat):0<(Wnum.txt N D).length:=by
 unfold Wnum.txt;rw [List.length_append];split
 ·simp only [List.length_append,List.length_cons];omega
 split
 ·have:=dd_pos (N.natAbs / D);omega
 ·simp only [List.length_append,List.length_cons];omega
theorem litT_pos {v:Wt.Vl} (h:Wt.vlOk v=true):0<(litT v).length:=by
 unfold litT;split
 ·exact txt_pos _ _
 split
 ·simp
 split
 ·split <;> decide
 rename_i h1 h2 h3
 unfold Wt.vlOk at h;split at h
 ·cases h
 unfold Wv.right at h;rw [if_neg (by assumption),if_neg h1,if_neg h2,if_neg h3] at h;split at h
 ·simp only [Bool.and_eq_true,decide_eq_true_eq,Wv.flt] at h;have hf:=h.1.1.1.1;obtain ⟨g,hg⟩:∃ g:Nat,v.f=g:=⟨v.f.toNat,by omega⟩
  rw [hg,Int.toNat_natCast];have:g=1 ∨ g=2 ∨ g=3 ∨ g=4 ∨ g=5 ∨ g=6 ∨ g=7 ∨ g=8:=by omega
  rcases this with rfl | rfl | rfl | rfl | rfl | rfl | rfl | rfl <;> decide
 ·cases h
theorem celT_pos (a:Wt.Rf):0<(celT a).length:=by
 have:0<(cw a).length:=by
  unfold cw;have:=dd_pos (a.r+1).toNat;simp only [List.length_append];omega
 unfold celT;split
 ·exact this
 ·simp only [List.length_append,List.length_cons];omega
theorem mrk_pos {x:Wt.Nd} {o:Int × List UInt8 × Int} (h:Wt.opOf x.op=some o):0<(mrk x).length:=by
 unfold mrk;rw [h];have:=List.mem_of_find?_eq_some h;simp only [Wt.opsT,List.mem_cons,List.not_mem_nil,or_false] at this;rcases this with rfl | rfl | rfl | rfl | rfl | rfl | rfl | rfl | rfl | rfl | rfl | rfl | rfl | rfl | rfl <;> decide
theorem pr_pos {f:Nat} {l:List Wt.Nd} {s d:Nat} (h:Wt.one f l=some (s,d)) (least:Int):0<(pr f least l).1.length:=by
 cases f with
 | zero=>simp [Wt.one] at h
 | succ f =>
  cases l with
  | nil=>simp [Wt.one] at h
  | cons x r =>
   obtain ⟨hx,a,b,hm,rfl,rfl⟩:=one_unf h;have hK:=right_knd hx;have:0<(prN (pr f) x r).1.length:=by
    unfold prN;rcases knd_tgh hK with ⟨h7,-,hk⟩ | ⟨h56,hp,o,ho⟩ | ⟨h04,hp,o,ho⟩
    ·rw [if_pos h7];unfold prS;rcases hK with ⟨h,h1,e⟩ | ⟨h,h1,e⟩ | ⟨h,h1,h2,h3,e⟩ | ⟨h,h2,-⟩ | ⟨h,h2,-⟩ | ⟨h,h1,h2,h3,e⟩
     ·rw [if_pos h];exact litT_pos h1
     ·rw [if_neg (by omega),if_pos h];exact celT_pos _
     ·rw [if_neg (by omega),if_neg (by omega),if_pos h];simp only [List.length_append,List.length_cons];omega
     ·omega
     ·omega
     ·rw [if_neg (by omega),if_neg (by omega),if_neg (by omega)];simp only [List.length_append,List.length_cons];omega
    ·have:=mrk_pos ho;rw [if_neg (by omega)];split
     ·simp only [List.length_append];omega
     split
     ·simp only [List.length_append];omega
     ·simp only [List.length_append];omega
    ·have:=mrk_pos ho;rw [if_neg (by omega),if_neg (by omega),if_neg (by omega)];simp only [List.length_append];omega
   simp only [pr];split
   ·exact this
   ·simp
def prnt (L:List Wt.Nd):List UInt8:=if Wt.check L=0 then (pr (L.length+1) 0 L).1 else []
theorem print_any (av:Option Addr) (cap:Nat) (L:List Wt.Nd) (w:World) (hL:L.length≤9223372036854775807) (hF:∀ x ∈ L,Wt.FitN x) (hE:Env w) (hr:RdN w av L) (hcap:L.length≤cap) (hk8:8≤w.heap.size) :
  Calls Tryz.prog 12 #[.slice av L.length cap] w fun e w'=>e=.returned (.tuple #[.string ⟨(prnt L).toArray⟩,.int .i64 (Wt.check L)])∧Below w.heap.size w w':=by
 have CK:=check_any av cap L w hL hF hE.1 hr;unfold prnt;by_cases hc:Wt.check L=0
 ·rw [if_pos hc];rw [hc] at CK ⊢;obtain ⟨h256,d,hone,hd⟩:=check_zero hc;have hpos:=pr_pos hone 0;have hlen:=(pr_ok _ _ _ _ hone 0).2;have PP:=fun kw=>part_any kw (L.length+1) 0 L
  clear hc;generalize (pr (L.length+1) 0 L).1=tx at *;go_enter Tryz.func12,Tryz.ntmps12;go_wp2_with fail
  refine CK.mono ?_;rintro e w1 ⟨rfl,hb⟩;have hE1:=hE.below hb;have hr1:=hr.below hb;have hs1:=hb.size;have hB2:=ball hb (.cells #[.pointer none,.slice none 0 0,.slice av L.length cap] 67);have hS2:WSt (w1.alloc (.cells #[.pointer none,.slice none 0 0,.slice av L.length cap] 67)) w1.heap.size [] L:=by
   refine ⟨av,cap,hcap,Or.inl ⟨Nat.le_refl _,.slice none 0 0,heap_alloc_new w1 _,World.ownsRow_nil _ _ _ _,by simp [Value.ownBlock]⟩,fun i hi=>?_⟩;obtain ⟨bb,off,e,hx⟩:=hr1 i hi;have hlt:bb<w1.heap.size:=World.block_lt_of_cell? _ _ (hx 0 _ rfl);exact ⟨bb,off,e,hlt,fun j v hv=>cell_below (ball (Below.refl _ w1) _) (hx j v hv)⟩
  have hE2:=hE.below hB2;go_wp2_with fail
  refine (PP w1.heap.size [] _ L.length d hF hone hS2 hE2 (by omega) (by simp only [List.length_nil];omega)).mono ?_;rintro e w3 ⟨rfl,hS3,hF3⟩;obtain ⟨av',cap',-,hI,-⟩:=hS3;rw [List.nil_append] at hI;have ST:=wstr_any _ _ _ _ w3 hI (fun e=>by rw [e] at hpos;simp at hpos);have hB3:Below w.heap.size w w3:=hB2.trans (hF3.1.mono hs1);go_wp2_with fail
  refine ST.mono ?_;rintro e w4 ⟨rfl,hb4⟩;go_wp2;go_ret2
  exact ⟨rfl,hB3.trans (hb4.mono hs1)⟩
 ·rw [if_neg hc];generalize Wt.check L=ck at *;have hci:(ck != 0)=true:=by simp [hc]
  go_enter Tryz.func12,Tryz.ntmps12;go_wp2_with fail
  refine CK.mono ?_;rintro e w1 ⟨rfl,hb⟩;go_wp2;go_ret2
  exact ⟨rfl,hb⟩
end Go.Proofs.YtlggnpohhahdlaaGreatDoor
