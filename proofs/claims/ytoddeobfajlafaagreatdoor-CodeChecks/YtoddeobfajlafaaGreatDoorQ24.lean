/- KHand, KTwin, KLay. -/
import Derived.Test.YtoddeobfajlafaaGreatDoorQ23
set_option maxHeartbeats 4000000
set_option maxRecDepth 100000
namespace Go.Proofs.YtoddeobfajlafaaGreatDoor
open Tryz
variable {w w':World} {B mk b n:Nat} {a:Act} {Q:Exit->Act->World->Prop} {tv v:Value} {tl:List Int} {M:List (Option (Int × Nat))} {ops:Array Oper} {rest:List Oper} {op o:Oper} {A:List (Wc.In × Value)} {K:Act->World->Prop}
abbrev zOU:Oper:=⟨some 35,.move (.tmp 0),78,"heights.go:63",#[],none⟩
abbrev zOd:Oper:=⟨some 36,.nilCheck (.tmp 35),0,"heights.go:63",#[⟨0,.data⟩],none⟩
abbrev zPe:Oper:=⟨some 37,.fieldAddr 128 (.tmp 36) 0,0,"heights.go:63",#[⟨1,.data⟩],none⟩
abbrev zOp:Oper:=⟨some 38,.load 122 (.tmp 37),122,"heights.go:63",#[⟨2,.data⟩],none⟩
abbrev zOb:Oper:=⟨some 39,.move (.tmp 8),3,"heights.go:63",#[],none⟩
abbrev zO3:Oper:=⟨some 40,.load 130 (.tmp 4),130,"heights.go:63",#[],none⟩
abbrev zPr:Oper:=⟨some 41,.build 132 #[(0,.tmp 40),(1,Operand.const (Value.bool Bool.true))],132,"heights.go:63",#[⟨5,.data⟩],none⟩
abbrev zPd:Oper:=⟨some 42,.indexAddr 122 (.tmp 38) (.tmp 39),0,"heights.go:63",#[⟨3,.data⟩,⟨4,.data⟩,⟨0,.phase⟩,⟨1,.phase⟩,⟨2,.phase⟩,⟨3,.phase⟩,⟨4,.phase⟩,⟨5,.phase⟩,⟨6,.phase⟩],none⟩
abbrev zOY:Oper:=⟨none,.store 132 (.tmp 42) (.tmp 41),0,"heights.go:63",#[⟨7,.data⟩,⟨6,.data⟩,⟨0,.phase⟩,⟨1,.phase⟩,⟨2,.phase⟩,⟨3,.phase⟩,⟨4,.phase⟩,⟨5,.phase⟩,⟨6,.phase⟩],none⟩
abbrev zPW:Oper:=⟨some 8,.load 36 (.tmp 7),36,"writer.go:17",#[⟨3,.data⟩],none⟩
abbrev zLb:Oper:=⟨some 10,.buildSlice 36 1 #[(0,.tmp 9)],36,"writer.go:17",#[⟨5,.data⟩],none⟩
abbrev zLn:Oper:=⟨some 11,.call {callee:=Callee.builtin Builtin.append,args:=#[.tmp 8,.tmp 10],argTypes:=#[36,36]},36,"writer.go:17",#[⟨4,.data⟩,⟨6,.data⟩],none⟩
abbrev zLj:Oper:=⟨some 12,.nilCheck (.tmp 4),0,"writer.go:17",#[⟨0,.data⟩,⟨0,.phase⟩,⟨1,.phase⟩,⟨2,.phase⟩,⟨3,.phase⟩,⟨4,.phase⟩,⟨5,.phase⟩,⟨6,.phase⟩,⟨7,.phase⟩],none⟩
abbrev zL6:Oper:=⟨some 13,.fieldAddr 68 (.tmp 12) 1,0,"writer.go:17",#[⟨8,.data⟩,⟨0,.phase⟩,⟨1,.phase⟩,⟨2,.phase⟩,⟨3,.phase⟩,⟨4,.phase⟩,⟨5,.phase⟩,⟨6,.phase⟩,⟨7,.phase⟩],none⟩
abbrev zL0:Oper:=⟨none,.store 36 (.tmp 13) (.tmp 11),0,"writer.go:17",#[⟨9,.data⟩,⟨7,.data⟩,⟨7,.chain⟩,⟨0,.phase⟩,⟨1,.phase⟩,⟨2,.phase⟩,⟨3,.phase⟩,⟨4,.phase⟩,⟨5,.phase⟩,⟨6,.phase⟩,⟨7,.phase⟩],none⟩
open Go.RowKit
set_option linter.unusedVariables false
def mkC (M:List (Option (Int × Nat))) (j:Nat):List Value:=match M.getD j none with
 | none=>[.int .i64 0,.int .i64 0,.bool false]
 | some (v,m)=>[.int .i64 v,.int .i64 (m:Int),.bool (decide (j ≠ 0))]
structure MkS (w:World) (b mk n:Nat) (M:List (Option (Int × Nat))):Prop where
 hd:w.cell? ⟨b,0,none⟩=some (.slice (some ⟨mk,0,none⟩) n n)
 at':∀ j:Nat,j<n->w.rangeAt mk (j * 3) (mkC M j)
 fz:∀ i:Nat,i<n * 3->w.frozen? ⟨mk,i,none⟩=false
 len:M.length=n
 mlt:mk<w.heap.size
theorem MkS.fr {S:List Nat} (h:MkS w b mk n M) (hf:Fr S w w') (hb:b ∉ S) (hm:mk ∉ S):MkS w' b mk n M :=
 ⟨hf.cell h.hd hb,λj hj=>hf.range (h.at' j hj) hm,λi hi=>by rw [hf.frozen h.mlt hm];exact h.fz i hi,h.len,Nat.lt_of_lt_of_le h.mlt hf.size⟩
theorem zEP (M:List (Option (Int × Nat))) (j:Nat):∃ a c d,mkC M j=[.int .i64 a,.int .i64 c,.bool d]:=by
 unfold mkC;split
 ·exact ⟨_,_,_,rfl⟩
 ·exact ⟨_,_,_,rfl⟩
theorem MkS.three (h:MkS w b mk n M) {j:Nat} (hj:j<n):(∃ a:Int,w.cell? ⟨mk,j * 3,none⟩=some (.int .i64 a))/\(∃ a:Int,w.cell? ⟨mk,j * 3+1,none⟩=some (.int .i64 a))/\∃ d,w.cell? ⟨mk,j * 3+2,none⟩=some (.bool d):=by
 obtain ⟨a,c,d,e⟩:=zEP M j;have hr:=h.at' j hj;rw [e] at hr;exact ⟨⟨a,hr 0 _ rfl⟩,⟨c,hr 1 _ rfl⟩,⟨d,hr 2 _ rfl⟩⟩
theorem MkS.set (h:MkS w b mk n M) {j:Nat} (hj:j<n) (j0:j ≠ 0) (hbm:b ≠ mk) (v:Int) (m:Nat):MkS (((w.setCell ⟨mk,j * 3,none⟩ (.int .i64 v)).setCell ⟨mk,j * 3+1,none⟩ (.int .i64 (m:Int))).setCell ⟨mk,j * 3+2,none⟩ (.bool true)) b mk n (M.set j (some (v,m))):=by
 have fr:Fr [mk] w (((w.setCell ⟨mk,j * 3,none⟩ (.int .i64 v)).setCell ⟨mk,j * 3+1,none⟩ (.int .i64 (m:Int))).setCell ⟨mk,j * 3+2,none⟩ (.bool true)) :=
  ((Fr.of_grown (zAM _ _ _ _) (λk e=>by cases e;simp)).trans (Fr.of_grown (zAM _ _ _ _) (λk e=>by cases e;simp))).trans (Fr.of_grown (zAM _ _ _ _) (λk e=>by cases e;simp))
 obtain ⟨⟨y0,e0⟩,⟨y1,e1⟩,⟨y2,e2⟩⟩:=h.three hj;refine ⟨fr.cell h.hd (by simpa using hbm),λi hi=>?_,λi hi=>by rw [World.frozen?_setCell,World.frozen?_setCell,World.frozen?_setCell];exact h.fz i hi,by rw [List.length_set];exact h.len,Nat.lt_of_lt_of_le h.mlt fr.size⟩;by_cases e:i=j
 ·subst e;have hc:mkC (M.set i (some (v,m))) i=[.int .i64 v,.int .i64 (m:Int),.bool true]:=by
   unfold mkC;rw [Wc.getD_set M i i _ (by rw [h.len];exact hj),if_pos rfl];simp [j0]
  rw [hc];intro q u hq;match q,hq with
  | 0,hq =>
   cases hq
   rw [zAS _ _ _ (by omega),zAS _ _ _ (by omega)];exact zAX e0 _
  | 1,hq =>
   cases hq
   rw [zAS _ _ _ (by omega)];exact zAX (by rw [zAS _ _ _ (by omega)];exact e1) _
  | 2,hq =>
   cases hq
   exact zAX (by rw [zAS _ _ _ (by omega),zAS _ _ _ (by omega)];exact e2) _
 ·have hc:mkC (M.set j (some (v,m))) i=mkC M i:=by
   unfold mkC;rw [Wc.getD_set M j i _ (by rw [h.len];exact hj),if_neg (λq=>e q.symm)]
  rw [hc];obtain ⟨a,c,d,ee⟩:=zEP M i;have hr:=h.at' i hi;rw [ee] at hr ⊢;intro q u hq;have hq3:q<3:=by
   rcases Nat.lt_or_ge q 3 with g | g
   ·exact g
   ·rw [List.getElem?_eq_none (by simpa using g)] at hq;cases hq
  have:=hr q u hq;rw [zAS _ _ _ (by omega),zAS _ _ _ (by omega),zAS _ _ _ (by omega)];exact this
theorem zCt {i1 i2 i3:Nat} {v1 v2 v3:Value}:Fr [mk] w (((w.setCell ⟨mk,i1,none⟩ v1).setCell ⟨mk,i2,none⟩ v2).setCell ⟨mk,i3,none⟩ v3) :=
 ((Fr.of_grown (zAM _ _ _ _) (λk e=>by cases e;simp)).trans (Fr.of_grown (zAM _ _ _ _) (λk e=>by cases e;simp))).trans (Fr.of_grown (zAM _ _ _ _) (λk e=>by cases e;simp))
theorem zJq (x y x' y':Int) (w:World):(binOp .neq 130 (.agg #[.int .i64 x,.int .i64 y]) (.agg #[.int .i64 x',.int .i64 y'])).run prog w=.ok (.bool (!((x == x') && (y == y')))) w:=by
 by_cases h1:x=x'
 ·by_cases h2:y=y'
  ·simp [go_sem,h1,h2]
  ·simp [go_sem,h1,h2]
 ·simp [go_sem,h1]
def zQT (r:Option (List (Option (Int × Nat)))) (b mk n:Nat) (w:World) (e:Ending) (w':World):Prop:=match r with
 | some M2=>e=.returned (.bool true)/\MkS w' b mk n M2/\Fr [mk] w w'
 | none=>e=.returned (.bool false)/\Fr [mk] w w'
theorem zCM (b mk n:Nat) (M:List (Option (Int × Nat))) (v:Int) (m:Nat) (pl:List Int) (pv:Value) (w:World) (hM:MkS w b mk n M) (hbm:b ≠ mk) (hp:RdZ w pv pl) (hpl:∀ j ∈ pl,0<j/\j<(n:Int)) (hl:pl.length<=1000000) (hn:n<=1000000) (hpb:pl ≠ []->∀ g,pv.ownBlock=some g->g ≠ mk) :
  Calls prog 66 #[.pointer (some ⟨b,0,none⟩),.agg #[.int .i64 v,.int .i64 (m:Int)],pv] w λe w'=>zQT (Wc.handP (v,m) pl M) b mk n w e w':=by
 obtain ⟨a1,c1,rfl,r1⟩:=hp;have HR:Hid (RdZ w (.slice a1 pl.length c1) pl):=⟨a1,c1,rfl,r1⟩
 have HPB:Hid (pl ≠ []->∀ g,(Value.slice a1 pl.length c1).ownBlock=some g->g ≠ mk):=hpb;have HPL:Hid (∀ j ∈ pl,0<j/\j<(n:Int)):=hpl;obtain ⟨k,hk⟩:∃ k,pl.length=k:=⟨_,rfl⟩
 have HK:Hid (pl.length=k):=hk;rw [hk] at hl ⊢;obtain ⟨q,hq⟩:∃ q,Wc.handP (v,m) pl M=q:=⟨_,rfl⟩
 have HQ:Hid (Wc.handP (v,m) (pl.drop 0) M=q):=hq;rw [hq];have pH:=AtL.new0 w 130 [.int .i64 v,.int .i64 (m:Int)];have hb0:=zAJ (Below.refl _ w) (.cells #[.int .i64 v,.int .i64 (m:Int)] 130);have hM0:=hM.fr (Fr.of_below [] hb0) (by simp) (by simp);have hF0:=Fr.of_below [mk] hb0;have h0:=pH.2.1 0 _ rfl;have h1:=pH.2.1 1 _ rfl;have nb:b ∉ [mk]:=by simpa using hbm
 have nw:w.heap.size ∉ [mk]:=by have:=hM.mlt;simp;omega
 clear r1 hpl hk hq pH hM hpb;go_enter func66,ntmps66;go_upto_region 1 with fail
 generalize (w.alloc (.cells #[.int .i64 v,.int .i64 (m:Int)] 130))=w0 at *;have HB0:Hid (Below w.heap.size w w0):=hb0;clear hb0;go_wp2_with fail
 go_loopg [11] k (λgk x wr=>∃ (i:Nat) (Mi:List (Option (Int × Nat))),x=.int .i64 i/\gk=k - i/\i<=k/\Hid (Wc.handP (v,m) (pl.drop i) Mi=q)/\Hid (MkS wr b mk n Mi)/\Hid (Fr [mk] w wr)/\wr.cell? ⟨w.heap.size,0,none⟩=some (.int .i64 v)/\wr.cell? ⟨w.heap.size,1,none⟩=some (.int .i64 (m:Int)))
 case atStart=>exact ⟨0,M,rfl,rfl,Nat.zero_le _,HQ,hM0,hF0,h0,h1⟩
 case round =>
  clear h0 h1 hM0 hF0 HQ;obtain ⟨i,Mi,rfl,hg,hi,HQ,HMi,HFi,h0,h1⟩:=hrel;by_cases hlt:i<k
  ·have hli:(i:Int)<(k:Int):=by omega
   have hwi:IntKind.i64.wrap ((i:Int)+1)=(i:Int)+1:=by rw [IntKind.wrap_i64];omega
   have hil:i<pl.length:=by rw [HK.out];exact hlt
   have hM:=HMi.out;have hF:=HFi.out;have H0:=HR.out;rw [HK.out] at H0;obtain ⟨q1,d1,e1,f1⟩:=H0;simp only [Value.slice.injEq] at e1;obtain ⟨ex1,ex2,ex3⟩:=e1;subst ex1;subst ex3;clear ex2;obtain ⟨bb,off,rfl,t1⟩:=f1 i hil;have hlb:=zA0 t1;have t2:wr.cell? ⟨bb,off+i,none⟩=some (.int .i64 (pl[i])):=hF.cell t1 (by have:=HPB.out (by intro e;rw [e] at hil;simp at hil) bb rfl;simpa using this);obtain ⟨hj1,hj2⟩:=HPL.out pl[i] (List.getElem_mem _);obtain ⟨j,hj⟩:∃ j:Nat,pl[i]=(j:Int):=⟨pl[i].toNat,by omega⟩
   have HQ1:Hid (Wc.handP (v,m) ((j:Int)::pl.drop (i+1)) Mi=q):=by
    show _=q
    rw [<-HQ.out,List.drop_eq_getElem_cons hil,hj]
   rw [hj] at t2 hj1 hj2;have hjn:j<n:=by omega
   have hj0:j ≠ 0:=by omega
   have hjz:(0:Int)<=(j:Int):=by omega
   have hr:=hM.at' j hjn;have c0:=hM.hd;clear f1 t1 hil hj hj1 HMi HFi HQ;cases hgj:Mi.getD j none with
   | none =>
    have HQ2:Hid (Wc.handP (v,m) (pl.drop (i+1)) (Mi.set j (some (v,m)))=q):=by
     show _=q
     rw [<-HQ1.out];simp only [Wc.handP,Int.toNat_natCast,hgj]
    have e2:wr.cell? ⟨mk,j * 3+2,none⟩=some (.bool false):=by
     have:=hr 2 (.bool false) (by unfold mkC;rw [hgj];rfl);exact this
    clear hr;go_upto_region 4 with fail
    go_quiet (fail)
    go_upto_region 6 with fail
    have hbd:Below wr.heap.size wr (wr.drewN nq).drew:=(zAs (Below.refl _ wr) nq).drew;replace hM:=hM.fr (Fr.of_below [] hbd) (by simp) (by simp)
    replace hF:=hF.trans (Fr.of_below [mk] hbd)
    replace h0:=zAC hbd h0
    replace h1:=zAC hbd h1
    clear hbd;have c0:=hM.hd;refine wp_region_held_drew (S:=λW=>W.cell? ⟨b,0,none⟩=some (.slice (some ⟨mk,0,none⟩) n n)/\W.cell? ⟨w.heap.size,0,none⟩=some (.int .i64 v)/\W.cell? ⟨w.heap.size,1,none⟩=some (.int .i64 (m:Int))) (by kernel_rfl) ⟨c0,h0,h1⟩ (λhHeld=>?_);generalize (wr.drewN nq).drew=wd at *;refine tkQ 0 zOU ?_
    refine tkQ 1 zOd ?_
    refine tkQ 2 zPe ?_
    refine tkQ 3 zOp ?_
    refine tkQ 4 zOb ?_
    refine tkQ 5 zO3 ?_
    refine tkQ 6 zPr ?_
    refine tkQ 7 zPd ?_
    have fq:=hM.fz;have f0:=fq (j * 3) (by omega);have f1:=fq (j * 3+1) (by omega);have f2:=fq (j * 3+2) (by omega);obtain ⟨⟨y0,e0⟩,⟨y1,e1⟩,⟨y2,e2⟩⟩:=hM.three hjn;have hMS:=hM.set hjn hj0 hbm v m;have fr3:Fr [mk] wd (((wd.setCell ⟨mk,j * 3,none⟩ (.int .i64 v)).setCell ⟨mk,j * 3+1,none⟩ (.int .i64 (m:Int))).setCell ⟨mk,j * 3+2,none⟩ (.bool true)):=zCt;have k0:=fr3.cell c0 nb;have k1:=fr3.cell h0 nw;have k2:=fr3.cell h1 nw;clear fq;refine rdQ 8 zOY (λK hK=>?_);go_simp
    refine hkQ hK (⟨k0,k1,k2⟩) (λhHeld=>?_);clear hK K
    refine wpAnyH_done (by kernel_rfl) ?_ _;clear hHeld f0 f1 f2 e0 e1 e2 c0 h0 h1 hM;have HMS:Hid (MkS (((wd.setCell ⟨mk,j * 3,none⟩ (.int .i64 v)).setCell ⟨mk,j * 3+1,none⟩ (.int .i64 (m:Int))).setCell ⟨mk,j * 3+2,none⟩ (.bool true)) b mk n (Mi.set j (some (v,m)))):=hMS;have HF3:Hid (Fr [mk] w (((wd.setCell ⟨mk,j * 3,none⟩ (.int .i64 v)).setCell ⟨mk,j * 3+1,none⟩ (.int .i64 (m:Int))).setCell ⟨mk,j * 3+2,none⟩ (.bool true))):=hF.trans fr3;have H1:Hid _:=k1;have H2:Hid _:=k2;clear hMS hF fr3 k0 k1 k2;generalize (((wd.setCell ⟨mk,j * 3,none⟩ (.int .i64 v)).setCell ⟨mk,j * 3+1,none⟩ (.int .i64 (m:Int))).setCell ⟨mk,j * 3+2,none⟩ (.bool true))=w9 at *;go_wp2_with fail
    go_roundg (k - (i+1))
    case rel=>exact ⟨i+1,Mi.set j (some (v,m)),by simp,rfl,hlt,HQ2,HMS,HF3,H1.out,H2.out⟩
    case measure=>omega
   | some gg =>
    obtain ⟨gv,gm⟩:=gg;have a0:wr.cell? ⟨mk,j * 3,none⟩=some (.int .i64 gv):=hr 0 (.int .i64 gv) (by unfold mkC;rw [hgj];rfl);have a1:wr.cell? ⟨mk,j * 3+1,none⟩=some (.int .i64 (gm:Int)):=hr 1 (.int .i64 (gm:Int)) (by unfold mkC;rw [hgj];rfl);have e2:wr.cell? ⟨mk,j * 3+2,none⟩=some (.bool true):=hr 2 (.bool true) (by unfold mkC;rw [hgj];simp [hj0]);have NH:=λw=>zJq gv (gm:Int) v (m:Int) w
    clear hr;by_cases hgh:(gv,gm)=(v,m)
    ·have HQ2:Hid (Wc.handP (v,m) (pl.drop (i+1)) (Mi.set j (some (v,m)))=q):=by
      show _=q
      rw [<-HQ1.out];simp only [Wc.handP,Int.toNat_natCast,hgj,if_pos hgh]
     have hx:(!((gv == v) && ((gm:Int) == (m:Int))))=false:=by
      obtain ⟨h2,h3⟩:=Prod.mk.inj hgh;rw [h2,h3];simp
     rw [hx] at NH;clear hx hgh;go_upto_region 4 with fail
     go_quiet (fail)
     go_upto_region 6 with fail
     have hbd:Below wr.heap.size wr (wr.drewN nq).drew:=(zAs (Below.refl _ wr) nq).drew;replace hM:=hM.fr (Fr.of_below [] hbd) (by simp) (by simp)
     replace hF:=hF.trans (Fr.of_below [mk] hbd)
     replace h0:=zAC hbd h0
     replace h1:=zAC hbd h1
     clear hbd;have c0:=hM.hd;refine wp_region_held_drew (S:=λW=>W.cell? ⟨b,0,none⟩=some (.slice (some ⟨mk,0,none⟩) n n)/\W.cell? ⟨w.heap.size,0,none⟩=some (.int .i64 v)/\W.cell? ⟨w.heap.size,1,none⟩=some (.int .i64 (m:Int))) (by kernel_rfl) ⟨c0,h0,h1⟩ (λhHeld=>?_);generalize (wr.drewN nq).drew=wd at *;refine tkQ 0 zOU ?_
     refine tkQ 1 zOd ?_
     refine tkQ 2 zPe ?_
     refine tkQ 3 zOp ?_
     refine tkQ 4 zOb ?_
     refine tkQ 5 zO3 ?_
     refine tkQ 6 zPr ?_
     refine tkQ 7 zPd ?_
     have fq:=hM.fz;have f0:=fq (j * 3) (by omega);have f1:=fq (j * 3+1) (by omega);have f2:=fq (j * 3+2) (by omega);obtain ⟨⟨y0,e0⟩,⟨y1,e1⟩,⟨y2,e2⟩⟩:=hM.three hjn;have hMS:=hM.set hjn hj0 hbm v m;have fr3:Fr [mk] wd (((wd.setCell ⟨mk,j * 3,none⟩ (.int .i64 v)).setCell ⟨mk,j * 3+1,none⟩ (.int .i64 (m:Int))).setCell ⟨mk,j * 3+2,none⟩ (.bool true)):=zCt;have k0:=fr3.cell c0 nb;have k1:=fr3.cell h0 nw;have k2:=fr3.cell h1 nw;clear fq;refine rdQ 8 zOY (λK hK=>?_);go_simp
     refine hkQ hK (⟨k0,k1,k2⟩) (λhHeld=>?_);clear hK K
     refine wpAnyH_done (by kernel_rfl) ?_ _;clear hHeld f0 f1 f2 e0 e1 e2 c0 h0 h1 hM;have HMS:Hid (MkS (((wd.setCell ⟨mk,j * 3,none⟩ (.int .i64 v)).setCell ⟨mk,j * 3+1,none⟩ (.int .i64 (m:Int))).setCell ⟨mk,j * 3+2,none⟩ (.bool true)) b mk n (Mi.set j (some (v,m)))):=hMS;have HF3:Hid (Fr [mk] w (((wd.setCell ⟨mk,j * 3,none⟩ (.int .i64 v)).setCell ⟨mk,j * 3+1,none⟩ (.int .i64 (m:Int))).setCell ⟨mk,j * 3+2,none⟩ (.bool true))):=hF.trans fr3;have H1:Hid _:=k1;have H2:Hid _:=k2;clear hMS hF fr3 k0 k1 k2;generalize (((wd.setCell ⟨mk,j * 3,none⟩ (.int .i64 v)).setCell ⟨mk,j * 3+1,none⟩ (.int .i64 (m:Int))).setCell ⟨mk,j * 3+2,none⟩ (.bool true))=w9 at *;go_wp2_with fail
     go_roundg (k - (i+1))
     case rel=>exact ⟨i+1,Mi.set j (some (v,m)),by simp,rfl,hlt,HQ2,HMS,HF3,H1.out,H2.out⟩
     case measure=>omega
    ·have HQ2:Hid (none=q):=by
      show _=q
      rw [<-HQ1.out];simp only [Wc.handP,Int.toNat_natCast,hgj,if_neg hgh]
     have hx:(!((gv == v) && ((gm:Int) == (m:Int))))=true:=by
      rw [Bool.not_eq_true',Bool.and_eq_false_iff];by_cases h2:gv=v
      ·right
       have h3:gm ≠ m:=λe=>hgh (by rw [h2,e])
       simp;omega
      ·left
       simpa using h2
     rw [hx] at NH;clear hx hgh;go_upto_region 4 with fail
     go_quiet (fail)
     go_wp2;go_ret;show zQT q b mk n w _ _
     rw [<-HQ2.out];exact ⟨rfl,hF.trans (Fr.of_below _ (zAs (Below.refl wr.heap.size wr) nq))⟩
  ·have hli:¬ (i:Int)<(k:Int):=by omega
   have hqe:some Mi=q:=by
    rw [<-HQ.out,List.drop_eq_nil_of_le (by rw [HK.out];omega)];rfl
   go_wp2;go_ret;show zQT q b mk n w _ _
   rw [<-hqe];exact ⟨rfl,HMi.out,HFi.out⟩
theorem zF5 (w:World) (o:Obj):w.heap.size<(w.alloc o).heap.size:=by
 show w.heap.size<(w.heap.push o).size
 simp
def zA7:List (Wc.In × Value)->List Value
 | []=>[]
 | x::r=>zAD x.1 x.2++zA7 r
theorem zCd:∀ A:List (Wc.In × Value),(zA7 A).length=A.length * 23
 | []=>rfl
 | x::r=>by simp [zA7,zCd r,zAD];omega
theorem zCX:∀ (A C:List (Wc.In × Value)),zA7 (A++C)=zA7 A++zA7 C
 | [],C=>rfl
 | x::r,C=>by simp [zA7,zCX r C]
def OwnI (w:World) (B:Nat) (v:Value) (A:List (Wc.In × Value)):Prop:=w.ownsRow B 56 23 v A.length (zA7 A)
theorem OwnI.nil (w:World) (B:Nat):OwnI w B (.slice none 0 0) []:=⟨rfl,Or.inl ⟨rfl,rfl⟩⟩
theorem OwnI.below (h:OwnI w B v A) (hb:Below w.heap.size w w'):OwnI w' B v A:=zA2 (Fr.of_below [] hb) h (by simp)
def TwR (w:World) (B:Nat) (tv:Value) (tl:List Int):Prop:=∃ g cap,tv=.slice (some ⟨g,0,none⟩) tl.length cap/\OwnZ w B (.slice (some ⟨g,0,none⟩) (tl.length+2) cap) (tl++[771,772])
theorem TwR.below (h:TwR w B tv tl) (hb:Below w.heap.size w w'):TwR w' B tv tl:=by
 obtain ⟨g,cap,e,h⟩:=h;exact ⟨g,cap,e,h.below hb⟩
theorem TwR.app {C:Nat} (h:TwR w B tv tl) (ho:OwnI w C v A) (hg:w.grownBy w' v.ownBlock):TwR w' B tv tl:=by
 obtain ⟨g,cap,e,h⟩:=h;refine ⟨g,cap,e,zA2 (Fr.of_grown (S:=v.ownBlock.toList) hg (λk q=>by simp [q])) h (λk hk hm=>?_)⟩;have hk2:g=k:=by simpa [Value.ownBlock] using hk
 subst hk2;have hm2:v.ownBlock=some g:=by simpa using hm
 rcases h.2 with ⟨q,_⟩ | ⟨g1,c1,cur1,q1,_,r1,_⟩
 ·cases q
 ·simp only [Value.slice.injEq,Option.some.injEq,Addr.mk.injEq] at q1;rw [<-q1.1.1] at r1;rcases ho.2 with ⟨q,_⟩ | ⟨g2,c2,cur2,q2,_,r2,_⟩
  ·rw [q] at hm2;cases hm2
  ·rw [q2] at hm2;have:g2=g:=by simpa [Value.ownBlock] using hm2
   subst this;rw [r1] at r2;cases r2
theorem TwR.rd (h:TwR w B tv tl):RdZ w tv tl:=by
 obtain ⟨g,cap,e,h⟩:=h;obtain ⟨av,cp,e1,f⟩:=h.rd;simp only [Value.slice.injEq] at e1;refine ⟨some ⟨g,0,none⟩,cap,e,λi hi=>?_⟩;obtain ⟨bb,off,q1,q2⟩:=f i (by simp;omega);rw [<-e1.1] at q1;cases q1
 refine ⟨g,0,rfl,?_⟩;rw [List.getElem_append_left hi] at q2;exact q2
theorem zHq:(prog.info? 56).map (λi=>(i.zero,i.size,i.bytes))=some (some (.agg (zAD (zAE 0) zAG).toArray),23,208):=by kernel_rfl
def Tw (w:World) (B:Nat):List (Wc.In × Value)->List (Wc.In × List Int)->Prop
 | [],[]=>True
 | p::r,x::s=>(p.1=x.1/\TwR w B p.2 x.2)/\Tw w B r s
 | _,_=>False
theorem Tw.len:∀ (P:List (Wc.In × Value)) (L:List (Wc.In × List Int)),Tw w B P L->P.length=L.length:=by
 intro P;induction P with
 | nil =>
  intro L h;cases L with
  | nil=>rfl
  | cons x s=>exact h.elim
 | cons p r ih =>
  intro L h;cases L with
  | nil=>exact h.elim
  | cons x s=>rw [List.length_cons,List.length_cons,ih s h.2]
theorem Tw.turn (ht:∀ tv tl,TwR w B tv tl->TwR w' B tv tl):∀ (P:List (Wc.In × Value)) (L:List (Wc.In × List Int)),Tw w B P L->Tw w' B P L:=by
 intro P;induction P with
 | nil =>
  intro L h;cases L with
  | nil=>trivial
  | cons x s=>exact h.elim
 | cons p r ih =>
  intro L h;cases L with
  | nil=>exact h.elim
  | cons x s=>exact ⟨⟨h.1.1,ht _ _ h.1.2⟩,ih s h.2⟩
theorem Tw.app {y:Wc.In} (ht:TwR w B tv tl):∀ (P:List (Wc.In × Value)) (L:List (Wc.In × List Int)),Tw w B P L->Tw w B (P++[(y,tv)]) (L++[(y,tl)]):=by
 intro P;induction P with
 | nil =>
  intro L h;cases L with
  | nil=>exact ⟨⟨rfl,ht⟩,trivial⟩
  | cons x s=>exact h.elim
 | cons p r ih =>
  intro L h;cases L with
  | nil=>exact h.elim
  | cons x s=>exact ⟨h.1,ih s h.2⟩
theorem zC4:∀ (A:List (Wc.In × Value)),(∀ p ∈ A,∃ av n c,p.2=.slice av n c)->∀ v ∈ zA7 A,v.oneCell'=true
 | [],_,v,h=>by cases h
 | x::r,hs,v,h=>by
  obtain ⟨av,n,c,e⟩:=hs x (List.mem_cons_self ..);simp only [zA7,List.mem_append] at h;rcases h with h | h
  ·rw [e] at h;exact zL5 _ _ _ _ v h
  ·exact zC4 r (λp hp=>hs p (List.mem_cons_of_mem _ hp)) v h
theorem zB0 {ops:Array Oper} {rest:List Oper} {a:Act} {Q:Exit->Act->World->Prop} (hgd:o.guard=none) (s x:Operand) (ho:o.op=.call {callee:=.builtin .append,args:=#[s,x],argTypes:=#[36,36]})
  (w:World) (B:Nat) (hB:B<=w.heap.size) (v:Value) (A:List (Wc.In × Value)) (hs:a.eval s=v) (hown:OwnI w B v A) (g n:Nat) (L:List (Wc.In × Value)) (hn:n=L.length) (hx:a.eval x=.slice (some ⟨g,0,none⟩) n n) (hat:AtL w g (zA7 L)) (hsl:∀ p ∈ L,∃ av n c,p.2=.slice av n c) (hl:A.length+L.length<=2000000)
  (h:∀ v' w',OwnI w' B v' (A++L)->w.grownBy w' v.ownBlock->wpList prog ops Q rest (a.put o.dst v') w'):wpList prog ops Q (o::rest) a w:=by
 subst hn;obtain ⟨i0,hi0,hz0,hz1,hz2⟩:=info_parts zHq;refine wpList_plain hgd λK hK=>?_
 refine wp_append_own _ s x 36 ho B 56 i0 _ 23 208 underlying36 hi0 hz0 hz1 hz2 rfl (by decide) v A.length (zA7 A) hs hown ⟨g,0,none⟩ L.length L.length (zA7 L) hx (zCd L) (λj u hj=>?_) (zC4 L hsl) (by unfold maxLen;omega) (by omega) hB ?_
 ·have:=hat.2.1 j u hj;rw [show (⟨g,0,none⟩:Addr).add j=⟨g,j,none⟩ from by
   simp [Addr.add];try (intro h0;omega)]
  exact this
 ·intro v' w' own hg _;refine hK _ _ (h v' w' ?_ hg);unfold OwnI;rw [List.length_append,zCX];exact own
theorem zQr (x:Wc.In) (av:Option Addr) (n c:Nat) (w:World):(Instr.buildSlice 36 1 #[(0,.agg (zAD x (.slice av n c)).toArray)]).run prog w=.ok (.slice (some ⟨w.heap.size,0,none⟩) 1 1) (w.alloc (.cells (zAD x (.slice av n c)).toArray 56)):=by kernel_rfl
theorem zR6 (x y:Wc.In) (w:World):(Instr.buildSlice 36 2 #[(0,.agg (zAD x zAG).toArray),(1,.agg (zAD y zAG).toArray)]).run prog w=.ok (.slice (some ⟨w.heap.size,0,none⟩) 2 2) (w.alloc (.cells (zA7 [(x,zAG),(y,zAG)]).toArray 56)):=by kernel_rfl
theorem zBq (hgd:op.guard=none) (y:Operand) (ho:op.op=.buildSlice 36 1 #[(0,y)]) (x:Wc.In) (av:Option Addr) (n c:Nat) (hy:a.eval y=.agg (zAD x (.slice av n c)).toArray)
  (h:wpList prog ops Q rest (a.put op.dst (.slice (some ⟨w.heap.size,0,none⟩) 1 1)) (w.alloc (.cells (zAD x (.slice av n c)).toArray 56))):wpList prog ops Q (op::rest) a w:=by
 refine wpList_plain hgd λK hK=>?_
 unfold Oper.wp execOp;simp only [ho,List.map_toArray,List.map_cons,List.map_nil,hy,Sem.run_bind,Sem.run_pure,Result.andThen_ok,zQr];exact hK _ _ h
theorem zEj (hgd:op.guard=none) (y z:Operand) (ho:op.op=.buildSlice 36 2 #[(0,y),(1,z)]) (x u:Wc.In) (hy:a.eval y=.agg (zAD x zAG).toArray) (hz:a.eval z=.agg (zAD u zAG).toArray)
  (h:wpList prog ops Q rest (a.put op.dst (.slice (some ⟨w.heap.size,0,none⟩) 2 2)) (w.alloc (.cells (zA7 [(x,zAG),(u,zAG)]).toArray 56))):wpList prog ops Q (op::rest) a w:=by
 refine wpList_plain hgd λK hK=>?_
 unfold Oper.wp execOp;simp only [ho,List.map_toArray,List.map_cons,List.map_nil,hy,hz,Sem.run_bind,Sem.run_pure,Result.andThen_ok,zR6];exact hK _ _ h
def TwP (L:List (Wc.In × List Int)) (w:World) (e:Ending) (w':World):Prop:=∃ G cap B P,e=.returned (.slice (some ⟨G,0,none⟩) L.length cap)/\w.heap.size<=B/\OwnI w' B (.slice (some ⟨G,0,none⟩) (L.length+2) cap) (P++[(zAE 771,zAG),(zAE 772,zAG)])/\Tw w' B P L
theorem zJI (y:Operand) (ho:op.op=.buildSlice 36 1 #[(0,y)]) (x:Wc.In) (av:Option Addr) (n c:Nat) (hy:a.eval y=.agg (zAD x (.slice av n c)).toArray)
  (h:K (a.put op.dst (.slice (some ⟨w.heap.size,0,none⟩) 1 1)) (w.alloc (.cells (zAD x (.slice av n c)).toArray 56))):op.wp prog a w K Q:=by
 unfold Oper.wp execOp;simp only [ho,List.map_toArray,List.map_cons,List.map_nil,hy,Sem.run_bind,Sem.run_pure,Result.andThen_ok,zQr];exact h
theorem zHQ {a:Act} {K:Act->World->Prop} {Q:Exit->Act->World->Prop} (s x:Operand) (ho:o.op=.call {callee:=.builtin .append,args:=#[s,x],argTypes:=#[36,36]})
  (w:World) (B:Nat) (hB:B<=w.heap.size) (v:Value) (A:List (Wc.In × Value)) (hs:a.eval s=v) (hown:OwnI w B v A) (g n:Nat) (L:List (Wc.In × Value)) (hn:n=L.length) (hx:a.eval x=.slice (some ⟨g,0,none⟩) n n) (hat:AtL w g (zA7 L)) (hsl:∀ p ∈ L,∃ av n c,p.2=.slice av n c) (hl:A.length+L.length<=2000000)
  (h:∀ v' w',OwnI w' B v' (A++L)->w.grownBy w' v.ownBlock->(v'.ownBlock=v.ownBlock \/ v'.ownBlock=some w.heap.size)->K (a.put o.dst v') w'):o.wp prog a w K Q:=by
 subst hn;obtain ⟨i0,hi0,hz0,hz1,hz2⟩:=info_parts zHq;have hnews:∀ j u,(zA7 L)[j]? = some u->w.cell? ((⟨g,0,none⟩:Addr).add j)=some u:=λj u hj=>by
  have:=hat.2.1 j u hj;rw [show (⟨g,0,none⟩:Addr).add j=⟨g,j,none⟩ from by
   simp [Addr.add];try (intro h0;omega)]
  exact this
 obtain ⟨v',w',hr,own,hg,_,hb⟩:=run_append_own_at (P:=prog) w B 36 o.type 56 i0 _ 23 208 underlying36 hi0 hz0 hz1 hz2 rfl (by decide) v A.length (zA7 A) hown ⟨g,0,none⟩ L.length L.length (zA7 L) (zCd L) hnews (zC4 L hsl) (by unfold maxLen;omega) (by omega) hB;unfold Oper.wp execOp;simp only [ho,resolve,invoke,builtin,Sem.run_bind,Sem.run_pure,Result.andThen_ok,List.map_toArray,List.map_cons,List.map_nil,hs,hx,hr];refine h v' w' ?_ hg hb;unfold OwnI;rw [List.length_append,zCX];exact own
theorem zHD (k B:Nat) (x:Wc.In) (s0 s1 lv:Value) (A:List (Wc.In × Value)) (w:World) (hw:AtL w k [s0,s1,lv]) (ho:OwnI w B lv A) (hkB:k<B) (hB:B<=w.heap.size) (hl:A.length<=1000000) :
  Calls prog 28 #[.pointer (some ⟨k,0,none⟩),.agg (zAD x zAG).toArray] w λe w'=>(∃ lv',e=.returned (.tuple #[])/\AtL w' k [s0,s1,lv']/\OwnI w' B lv' (A++[(x,zAG)])/\∀ j,lv'.ownBlock=some j->lv.ownBlock=some j \/ w.heap.size<=j)/\Fr (k::lv.ownBlock.toList) w w':=by
 have pI0:=AtL.new0 w 56 (zAD x zAG);have hb0:=zAJ (Below.refl _ w) (.cells (zAD x zAG).toArray 56);have pW0:=AtL.below hb0 hw;have HO0:Hid (OwnI (w.alloc (.cells (zAD x zAG).toArray 56)) B lv A):=ho.below hb0;have HF0:Hid (Fr (k::lv.ownBlock.toList) w (w.alloc (.cells (zAD x zAG).toArray 56))):=Fr.of_below _ hb0;have HS0:Hid (B<=(w.alloc (.cells (zAD x zAG).toArray 56)).heap.size/\w.heap.size<(w.alloc (.cells (zAD x zAG).toArray 56)).heap.size):=⟨Nat.le_trans hB hb0.size,pI0.1⟩
 have HL:Hid (A.length<=1000000):=hl;have HKB:Hid (k<B/\B<=w.heap.size):=⟨hkB,hB⟩
 have HLB:Hid (∀ j,lv.ownBlock=some j->B<=j/\j<w.heap.size):=λj e=>zAN ho e
 clear hw ho hl hb0 hkB hB;go_enter func28,ntmps28;go_upto_region 1 with fail
 generalize (w.alloc (.cells (zAD x zAG).toArray 56))=W1 at *;have rb:=(Below.refl W1.heap.size W1).drew;have sI:=zAH rb pI0.range;have pW:=AtL.below rb pW0;have sW:=pW.2.1 2 _ rfl;have HO1:Hid (OwnI W1.drew B lv A):=HO0.out.below rb;have HF1:Hid (Fr (k::lv.ownBlock.toList) w W1.drew):=HF0.out.trans (Fr.of_below _ rb);have HS1:Hid (B<=W1.drew.heap.size/\w.heap.size<W1.drew.heap.size):=HS0.out;clear rb pI0 pW0 HO0 HF0 HS0;refine wp_region_held_drew (S:=λW=>W.rangeAt w.heap.size 0 (zAD x zAG)) (by kernel_rfl) sI (λhHeld=>?_);generalize W1.drew=WD at *;refine tkQ 0 ⟨some 4,.move (.tmp 0),101,"writer.go:17",#[],none⟩ ?_
 refine tkQ 1 ⟨some 5,.move (.tmp 0),101,"writer.go:17",#[],none⟩ ?_
 refine tkQ 2 ⟨some 6,.nilCheck (.tmp 5),0,"writer.go:17",#[⟨1,.data⟩],none⟩ ?_
 refine tkQ 3 ⟨some 7,.fieldAddr 68 (.tmp 6) 1,0,"writer.go:17",#[⟨2,.data⟩],none⟩ ?_
 refine wpAnyH_take (i:=5) (oi:=⟨some 9,.load 56 (.tmp 3),56,"writer.go:17",#[],none⟩) (v:=.agg (zAD x zAG).toArray) rfl (by kernel_rfl) (by kernel_rfl) (by kernel_rfl) (λ_ _ _ h=>h) (yieldsIf_load_mid (by rfl) 56 (.tmp 3) rfl w.heap.size 0 rfl (zAD x zAG) _ (λ_ h=>h) underlying56 rfl (by kernel_rfl)) (by assumption) ?_;try simp only [Act.put,lA,lZ,lS]
 refine wpAnyH_ready (rs:=[4,6]) (by kernel_rfl) (by simp) ?_;refine AllReadyH.cons (o:=zPW) rfl (λK hK=>?_) (AllReadyH.cons (o:=zLb) rfl (λK hK=>?_) AllReadyH.nil)
 ·go_simp
  refine hkQ hK sI (λhHeld=>?_);clear hK K
  refine rdQ 6 zLb (λK hK=>?_);refine zJI (.tmp 9) rfl x none 0 0 rfl ?_;have hb2:=zAJ (Below.refl _ WD) (.cells (zAD x zAG).toArray 56);have HA2:Hid (AtL (WD.alloc (.cells (zAD x zAG).toArray 56)) WD.heap.size (zA7 [(x,zAG)])):=by show AtL _ _ _;rw [show zA7 [(x,zAG)]=(zAD x zAG) from by simp [zA7]];exact AtL.new0 WD _ _
  have HO2:Hid (OwnI (WD.alloc (.cells (zAD x zAG).toArray 56)) B lv A):=HO1.out.below hb2;have HF2:Hid (Fr (k::lv.ownBlock.toList) w (WD.alloc (.cells (zAD x zAG).toArray 56))):=HF1.out.trans (Fr.of_below _ hb2);have HS2:Hid (B<=(WD.alloc (.cells (zAD x zAG).toArray 56)).heap.size/\w.heap.size<WD.heap.size):=⟨Nat.le_trans HS1.out.1 hb2.size,HS1.out.2⟩
  have sI2:=zAH hb2 sI;have pW2:=AtL.below hb2 pW;have sW2:=zAC hb2 sW;clear hb2 HO1 HF1 HS1 sI pW sW;refine hkQ hK sI2 (λhHeld=>?_);clear hK K
  generalize (WD.alloc (.cells (zAD x zAG).toArray 56))=W2 at *;obtain ⟨g,hg⟩:∃ g,WD.heap.size=g:=⟨_,rfl⟩
  rw [hg] at HA2 HS2;try simp only [hg]
  clear hg;refine rdQ 7 zLn (λK hK=>?_);refine zHQ (.tmp 8) (.tmp 10) rfl W2 B HS2.out.1 lv A rfl HO2.out g 1 [(x,zAG)] rfl rfl HA2.out (λp hp=>by simp at hp;subst hp;exact ⟨_,_,_,rfl⟩) (by have:=HL.out;simp;omega) ?_;intro v3 W3 own3 hg3 hv3;have HNX:Hid (∀ j,v3.ownBlock=some j->lv.ownBlock=some j \/ w.heap.size<=j):=(λj e=>by
   rcases hv3 with hv3 | hv3
   ·exact Or.inl (by rw [<-hv3];exact e)
   ·rw [hv3] at e;cases e;exact Or.inr HF2.out.size:∀ j,v3.ownBlock=some j->lv.ownBlock=some j \/ w.heap.size<=j)
  clear hv3;obtain ⟨g3,cap3,ev,hcp⟩:∃ g cap,v3=.slice (some ⟨g,0,none⟩) (A.length+1) cap/\B<=g:=by
   rcases own3.2 with ⟨_,h0⟩ | ⟨g,cap,cur,e,hbb,_,hc,_⟩
   ·simp at h0
   ·exact ⟨g,cap,by rw [e];simp,hbb⟩
  subst ev;have fr3:Fr lv.ownBlock.toList W2 W3:=Fr.of_grown hg3 (λk e=>by simp [e]);have hbk:∀ j,lv.ownBlock=some j->B<=j/\j<W2.heap.size:=λj e=>zAN HO2.out e
  have sI3:=fr3.range sI2 (λe=>by have:=(HLB.out w.heap.size (by simpa using e)).2;omega);have pW3:=pW2.fr fr3 (λe=>by have:=(hbk k (by simpa using e)).1;have:=HKB.out;omega);have HF3:Hid (Fr (k::lv.ownBlock.toList) w W3):=HF2.out.trans (fr3.mono (λj hj=>List.mem_cons_of_mem _ hj));have HO3:Hid (OwnI W3 B (.slice (some ⟨g3,0,none⟩) (A.length+1) cap3) (A++[(x,zAG)])):=own3;clear own3 hg3 fr3 hbk HF2 HO2 HA2 pW2 sI2 sW2;have sW3:=pW3.2.1 2 _ rfl;have zW3:=pW3.2.2 2 (by simp);refine hkQ hK sI3 (λhHeld=>?_);clear hK K
  refine tkQ 8 zLj ?_
  refine tkQ 9 zL6 ?_
  refine rdQ 10 zL0 (λK hK=>?_);go_simp
  have pW4:=pW3.set 2 (.slice (some ⟨g3,0,none⟩) (A.length+1) cap3);have fr4:Fr [k] W3 (W3.setCell ⟨k,2,none⟩ (.slice (some ⟨g3,0,none⟩) (A.length+1) cap3)):=Fr.of_grown (zAM _ _ _ _) (λj e=>by cases e;simp);have HF4:Hid (Fr (k::lv.ownBlock.toList) w (W3.setCell ⟨k,2,none⟩ (.slice (some ⟨g3,0,none⟩) (A.length+1) cap3))):=HF3.out.trans (fr4.mono (λj hj=>by simp at hj;subst hj;exact List.mem_cons_self ..));have HO4:Hid (OwnI (W3.setCell ⟨k,2,none⟩ (.slice (some ⟨g3,0,none⟩) (A.length+1) cap3)) B (.slice (some ⟨g3,0,none⟩) (A.length+1) cap3) (A++[(x,zAG)])):=zA2 fr4 HO3.out (λj e=>by have:=(zAN HO3.out e).1;have:=HKB.out;simp;omega);have sI4:=fr4.range sI3 (by have:=HKB.out;simp;omega);have HP4:Hid (AtL (W3.setCell ⟨k,2,none⟩ (.slice (some ⟨g3,0,none⟩) (A.length+1) cap3)) k [s0,s1,.slice (some ⟨g3,0,none⟩) (A.length+1) cap3]):=pW4;generalize (W3.setCell ⟨k,2,none⟩ (.slice (some ⟨g3,0,none⟩) (A.length+1) cap3))=W4 at *;refine hkQ hK sI4 (λhHeld=>?_);clear hK K
  refine wpAnyH_done (by kernel_rfl) ?_ _;clear hHeld sI4 sI3 pW4 fr4;go_wp2;go_end0
  exact ⟨⟨_,rfl,HP4.out,HO4.out,HNX.out⟩,HF4.out⟩
 ·refine zJI (.tmp 9) rfl x none 0 0 rfl ?_;have hb2:=zAJ (Below.refl _ WD) (.cells (zAD x zAG).toArray 56);have HA2:Hid (AtL (WD.alloc (.cells (zAD x zAG).toArray 56)) WD.heap.size (zA7 [(x,zAG)])):=by show AtL _ _ _;rw [show zA7 [(x,zAG)]=(zAD x zAG) from by simp [zA7]];exact AtL.new0 WD _ _
  have HO2:Hid (OwnI (WD.alloc (.cells (zAD x zAG).toArray 56)) B lv A):=HO1.out.below hb2;have HF2:Hid (Fr (k::lv.ownBlock.toList) w (WD.alloc (.cells (zAD x zAG).toArray 56))):=HF1.out.trans (Fr.of_below _ hb2);have HS2:Hid (B<=(WD.alloc (.cells (zAD x zAG).toArray 56)).heap.size/\w.heap.size<WD.heap.size):=⟨Nat.le_trans HS1.out.1 hb2.size,HS1.out.2⟩
  have sI2:=zAH hb2 sI;have pW2:=AtL.below hb2 pW;have sW2:=zAC hb2 sW;clear hb2 HO1 HF1 HS1 sI pW sW;refine hkQ hK sI2 (λhHeld=>?_);clear hK K
  generalize (WD.alloc (.cells (zAD x zAG).toArray 56))=W2 at *;obtain ⟨g,hg⟩:∃ g,WD.heap.size=g:=⟨_,rfl⟩
  rw [hg] at HA2 HS2;try simp only [hg]
  clear hg;refine rdQ 4 zPW (λK hK=>?_);try clear hHeld
  go_simp
  refine hkQ hK sI2 (λhHeld=>?_);clear hK K
  refine rdQ 7 zLn (λK hK=>?_);refine zHQ (.tmp 8) (.tmp 10) rfl W2 B HS2.out.1 lv A rfl HO2.out g 1 [(x,zAG)] rfl rfl HA2.out (λp hp=>by simp at hp;subst hp;exact ⟨_,_,_,rfl⟩) (by have:=HL.out;simp;omega) ?_;intro v3 W3 own3 hg3 hv3;have HNX:Hid (∀ j,v3.ownBlock=some j->lv.ownBlock=some j \/ w.heap.size<=j):=(λj e=>by
   rcases hv3 with hv3 | hv3
   ·exact Or.inl (by rw [<-hv3];exact e)
   ·rw [hv3] at e;cases e;exact Or.inr HF2.out.size:∀ j,v3.ownBlock=some j->lv.ownBlock=some j \/ w.heap.size<=j)
  clear hv3;obtain ⟨g3,cap3,ev,hcp⟩:∃ g cap,v3=.slice (some ⟨g,0,none⟩) (A.length+1) cap/\B<=g:=by
   rcases own3.2 with ⟨_,h0⟩ | ⟨g,cap,cur,e,hbb,_,hc,_⟩
   ·simp at h0
   ·exact ⟨g,cap,by rw [e];simp,hbb⟩
  subst ev;have fr3:Fr lv.ownBlock.toList W2 W3:=Fr.of_grown hg3 (λk e=>by simp [e]);have hbk:∀ j,lv.ownBlock=some j->B<=j/\j<W2.heap.size:=λj e=>zAN HO2.out e
  have sI3:=fr3.range sI2 (λe=>by have:=(HLB.out w.heap.size (by simpa using e)).2;omega);have pW3:=pW2.fr fr3 (λe=>by have:=(hbk k (by simpa using e)).1;have:=HKB.out;omega);have HF3:Hid (Fr (k::lv.ownBlock.toList) w W3):=HF2.out.trans (fr3.mono (λj hj=>List.mem_cons_of_mem _ hj));have HO3:Hid (OwnI W3 B (.slice (some ⟨g3,0,none⟩) (A.length+1) cap3) (A++[(x,zAG)])):=own3;clear own3 hg3 fr3 hbk HF2 HO2 HA2 pW2 sI2 sW2;have sW3:=pW3.2.1 2 _ rfl;have zW3:=pW3.2.2 2 (by simp);refine hkQ hK sI3 (λhHeld=>?_);clear hK K
  refine tkQ 8 zLj ?_
  refine tkQ 9 zL6 ?_
  refine rdQ 10 zL0 (λK hK=>?_);go_simp
  have pW4:=pW3.set 2 (.slice (some ⟨g3,0,none⟩) (A.length+1) cap3);have fr4:Fr [k] W3 (W3.setCell ⟨k,2,none⟩ (.slice (some ⟨g3,0,none⟩) (A.length+1) cap3)):=Fr.of_grown (zAM _ _ _ _) (λj e=>by cases e;simp);have HF4:Hid (Fr (k::lv.ownBlock.toList) w (W3.setCell ⟨k,2,none⟩ (.slice (some ⟨g3,0,none⟩) (A.length+1) cap3))):=HF3.out.trans (fr4.mono (λj hj=>by simp at hj;subst hj;exact List.mem_cons_self ..));have HO4:Hid (OwnI (W3.setCell ⟨k,2,none⟩ (.slice (some ⟨g3,0,none⟩) (A.length+1) cap3)) B (.slice (some ⟨g3,0,none⟩) (A.length+1) cap3) (A++[(x,zAG)])):=zA2 fr4 HO3.out (λj e=>by have:=(zAN HO3.out e).1;have:=HKB.out;simp;omega);have sI4:=fr4.range sI3 (by have:=HKB.out;simp;omega);have HP4:Hid (AtL (W3.setCell ⟨k,2,none⟩ (.slice (some ⟨g3,0,none⟩) (A.length+1) cap3)) k [s0,s1,.slice (some ⟨g3,0,none⟩) (A.length+1) cap3]):=pW4;generalize (W3.setCell ⟨k,2,none⟩ (.slice (some ⟨g3,0,none⟩) (A.length+1) cap3))=W4 at *;refine hkQ hK sI4 (λhHeld=>?_);clear hK K
  refine wpAnyH_done (by kernel_rfl) ?_ _;clear hHeld sI4 sI3 pW4 fr4;go_wp2;go_end0
  exact ⟨⟨_,rfl,HP4.out,HO4.out,HNX.out⟩,HF4.out⟩
