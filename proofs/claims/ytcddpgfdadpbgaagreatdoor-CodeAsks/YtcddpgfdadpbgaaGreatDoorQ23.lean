/- KHand, KPlacA, KWalkL. -/
import Derived.Test.YtcddpgfdadpbgaaGreatDoorQ22
set_option maxHeartbeats 4000000
set_option maxRecDepth 100000
namespace Go.Proofs.YtcddpgfdadpbgaaGreatDoor
open Tryz
variable {w:World} {mk b n:Nat} {M:List (Option (Int × Nat))}
abbrev zLR:Oper:=⟨some 35,.move (.tmp 0),53,"heights.go:63",#[],none⟩
abbrev zKr:Oper:=⟨some 36,.nilCheck (.tmp 35),0,"heights.go:63",#[⟨0,.data⟩],none⟩
abbrev zLN:Oper:=⟨some 37,.fieldAddr 97 (.tmp 36) 0,0,"heights.go:63",#[⟨1,.data⟩],none⟩
abbrev zK9:Oper:=⟨some 38,.load 91 (.tmp 37),91,"heights.go:63",#[⟨2,.data⟩],none⟩
abbrev zLQ:Oper:=⟨some 39,.move (.tmp 8),3,"heights.go:63",#[],none⟩
abbrev zLO:Oper:=⟨some 40,.load 99 (.tmp 4),99,"heights.go:63",#[],none⟩
abbrev zLL:Oper:=⟨some 41,.build 101 #[(0,.tmp 40),(1,Operand.const (Value.bool Bool.true))],101,"heights.go:63",#[⟨5,.data⟩],none⟩
abbrev zKc:Oper:=⟨some 42,.indexAddr 91 (.tmp 38) (.tmp 39),0,"heights.go:63",#[⟨3,.data⟩,⟨4,.data⟩,⟨0,.phase⟩,⟨1,.phase⟩,⟨2,.phase⟩,⟨3,.phase⟩,⟨4,.phase⟩,⟨5,.phase⟩,⟨6,.phase⟩],none⟩
abbrev zKy:Oper:=⟨none,.store 101 (.tmp 42) (.tmp 41),0,"heights.go:63",#[⟨7,.data⟩,⟨6,.data⟩,⟨0,.phase⟩,⟨1,.phase⟩,⟨2,.phase⟩,⟨3,.phase⟩,⟨4,.phase⟩,⟨5,.phase⟩,⟨6,.phase⟩],none⟩
open Go.RowKit
set_option linter.unusedVariables false
def mkC (M:List (Option (Int × Nat))) (j:Nat):List Value:=match M.getD j none with
 | none=>[.int .i64 0,.int .i64 0,.bool false]
 | some (v,m)=>[.int .i64 v,.int .i64 (m:Int),.bool (decide (j ≠ 0))]
structure MkS (w:World) (b mk n:Nat) (M:List (Option (Int × Nat))):Prop where
 hd:w.cell? ⟨b,0,none⟩=some (.slice (some ⟨mk,0,none⟩) n n)
 at':∀ j:Nat,j<n->w.rangeAt mk (j * 3) (mkC M j)
 fz:∀ i:Nat,i<n * 3->w.frozen? ⟨mk,i,none⟩=false
 len:M.length=n
 mlt:mk<w.heap.size
theorem MkS.fr {S:List Nat} {w':World} (h:MkS w b mk n M) (hf:Fr S w w') (hb:b ∉ S) (hm:mk ∉ S):MkS w' b mk n M :=
 ⟨hf.cell h.hd hb,λj hj=>hf.range (h.at' j hj) hm,λi hi=>by rw [hf.frozen h.mlt hm];exact h.fz i hi,h.len,Nat.lt_of_lt_of_le h.mlt hf.size⟩
theorem zCV (M:List (Option (Int × Nat))) (j:Nat):∃ a c d,mkC M j=[.int .i64 a,.int .i64 c,.bool d]:=by
 unfold mkC;split
 ·exact ⟨_,_,_,rfl⟩
 ·exact ⟨_,_,_,rfl⟩
theorem MkS.three (h:MkS w b mk n M) {j:Nat} (hj:j<n):(∃ a:Int,w.cell? ⟨mk,j * 3,none⟩=some (.int .i64 a))/\(∃ a:Int,w.cell? ⟨mk,j * 3+1,none⟩=some (.int .i64 a))/\∃ d,w.cell? ⟨mk,j * 3+2,none⟩=some (.bool d):=by
 obtain ⟨a,c,d,e⟩:=zCV M j;have hr:=h.at' j hj;rw [e] at hr;exact ⟨⟨a,hr 0 _ rfl⟩,⟨c,hr 1 _ rfl⟩,⟨d,hr 2 _ rfl⟩⟩
theorem MkS.set (h:MkS w b mk n M) {j:Nat} (hj:j<n) (j0:j ≠ 0) (hbm:b ≠ mk) (v:Int) (m:Nat):MkS (((w.setCell ⟨mk,j * 3,none⟩ (.int .i64 v)).setCell ⟨mk,j * 3+1,none⟩ (.int .i64 (m:Int))).setCell ⟨mk,j * 3+2,none⟩ (.bool true)) b mk n (M.set j (some (v,m))):=by
 have fr:Fr [mk] w (((w.setCell ⟨mk,j * 3,none⟩ (.int .i64 v)).setCell ⟨mk,j * 3+1,none⟩ (.int .i64 (m:Int))).setCell ⟨mk,j * 3+2,none⟩ (.bool true)) :=
  ((Fr.of_grown (zAL _ _ _ _) (λk e=>by cases e;simp)).trans (Fr.of_grown (zAL _ _ _ _) (λk e=>by cases e;simp))).trans (Fr.of_grown (zAL _ _ _ _) (λk e=>by cases e;simp))
 obtain ⟨⟨y0,e0⟩,⟨y1,e1⟩,⟨y2,e2⟩⟩:=h.three hj;refine ⟨fr.cell h.hd (by simpa using hbm),λi hi=>?_,λi hi=>by rw [World.frozen?_setCell,World.frozen?_setCell,World.frozen?_setCell];exact h.fz i hi,by rw [List.length_set];exact h.len,Nat.lt_of_lt_of_le h.mlt fr.size⟩;by_cases e:i=j
 ·subst e;have hc:mkC (M.set i (some (v,m))) i=[.int .i64 v,.int .i64 (m:Int),.bool true]:=by
   unfold mkC;rw [Wc.getD_set M i i _ (by rw [h.len];exact hj),if_pos rfl];simp [j0]
  rw [hc];intro q u hq;match q,hq with
  | 0,hq =>
   cases hq
   rw [zAP _ _ _ (by omega),zAP _ _ _ (by omega)];exact zAQ e0 _
  | 1,hq =>
   cases hq
   rw [zAP _ _ _ (by omega)];exact zAQ (by rw [zAP _ _ _ (by omega)];exact e1) _
  | 2,hq =>
   cases hq
   exact zAQ (by rw [zAP _ _ _ (by omega),zAP _ _ _ (by omega)];exact e2) _
 ·have hc:mkC (M.set j (some (v,m))) i=mkC M i:=by
   unfold mkC;rw [Wc.getD_set M j i _ (by rw [h.len];exact hj),if_neg (λq=>e q.symm)]
  rw [hc];obtain ⟨a,c,d,ee⟩:=zCV M i;have hr:=h.at' i hi;rw [ee] at hr ⊢;intro q u hq;have hq3:q<3:=by
   rcases Nat.lt_or_ge q 3 with g | g
   ·exact g
   ·rw [List.getElem?_eq_none (by simpa using g)] at hq;cases hq
  have:=hr q u hq;rw [zAP _ _ _ (by omega),zAP _ _ _ (by omega),zAP _ _ _ (by omega)];exact this
theorem zCD {i1 i2 i3:Nat} {v1 v2 v3:Value}:Fr [mk] w (((w.setCell ⟨mk,i1,none⟩ v1).setCell ⟨mk,i2,none⟩ v2).setCell ⟨mk,i3,none⟩ v3) :=
 ((Fr.of_grown (zAL _ _ _ _) (λk e=>by cases e;simp)).trans (Fr.of_grown (zAL _ _ _ _) (λk e=>by cases e;simp))).trans (Fr.of_grown (zAL _ _ _ _) (λk e=>by cases e;simp))
theorem zHt (x y x' y':Int) (w:World):(binOp .neq 99 (.agg #[.int .i64 x,.int .i64 y]) (.agg #[.int .i64 x',.int .i64 y'])).run prog w=.ok (.bool (!((x == x') && (y == y')))) w:=by
 by_cases h1:x=x'
 ·by_cases h2:y=y'
  ·simp [go_sem,h1,h2]
  ·simp [go_sem,h1,h2]
 ·simp [go_sem,h1]
def zLd (r:Option (List (Option (Int × Nat)))) (b mk n:Nat) (w:World) (e:Ending) (w':World):Prop:=match r with
 | some M2=>e=.returned (.bool true)/\MkS w' b mk n M2/\Fr [mk] w w'
 | none=>e=.returned (.bool false)/\Fr [mk] w w'
theorem zBd (b mk n:Nat) (M:List (Option (Int × Nat))) (v:Int) (m:Nat) (pl:List Int) (pv:Value) (w:World) (hM:MkS w b mk n M) (hbm:b ≠ mk) (hp:RdZ w pv pl) (hpl:∀ j ∈ pl,0<j/\j<(n:Int)) (hl:pl.length<=1000000) (hn:n<=1000000) (hpb:pl ≠ []->∀ g,pv.ownBlock=some g->g ≠ mk) :
  Calls prog 38 #[.pointer (some ⟨b,0,none⟩),.agg #[.int .i64 v,.int .i64 (m:Int)],pv] w λe w'=>zLd (Wc.handP (v,m) pl M) b mk n w e w':=by
 obtain ⟨a1,c1,rfl,r1⟩:=hp;have HR:Hid (RdZ w (.slice a1 pl.length c1) pl):=⟨a1,c1,rfl,r1⟩
 have HPB:Hid (pl ≠ []->∀ g,(Value.slice a1 pl.length c1).ownBlock=some g->g ≠ mk):=hpb;have HPL:Hid (∀ j ∈ pl,0<j/\j<(n:Int)):=hpl;obtain ⟨k,hk⟩:∃ k,pl.length=k:=⟨_,rfl⟩
 have HK:Hid (pl.length=k):=hk;rw [hk] at hl ⊢;obtain ⟨q,hq⟩:∃ q,Wc.handP (v,m) pl M=q:=⟨_,rfl⟩
 have HQ:Hid (Wc.handP (v,m) (pl.drop 0) M=q):=hq;rw [hq];have pH:=AtL.new0 w 99 [.int .i64 v,.int .i64 (m:Int)];have hb0:=zAJ (Below.refl _ w) (.cells #[.int .i64 v,.int .i64 (m:Int)] 99);have hM0:=hM.fr (Fr.of_below [] hb0) (by simp) (by simp);have hF0:=Fr.of_below [mk] hb0;have h0:=pH.2.1 0 _ rfl;have h1:=pH.2.1 1 _ rfl;have nb:b ∉ [mk]:=by simpa using hbm
 have nw:w.heap.size ∉ [mk]:=by have:=hM.mlt;simp;omega
 clear r1 hpl hk hq pH hM hpb;go_enter func38,ntmps38;go_upto_region 1 with fail
 generalize (w.alloc (.cells #[.int .i64 v,.int .i64 (m:Int)] 99))=w0 at *;have HB0:Hid (Below w.heap.size w w0):=hb0;clear hb0;go_wp2_with fail
 go_loopg [11] k (λgk x wr=>∃ (i:Nat) (Mi:List (Option (Int × Nat))),x=.int .i64 i/\gk=k - i/\i<=k/\Hid (Wc.handP (v,m) (pl.drop i) Mi=q)/\Hid (MkS wr b mk n Mi)/\Hid (Fr [mk] w wr)/\wr.cell? ⟨w.heap.size,0,none⟩=some (.int .i64 v)/\wr.cell? ⟨w.heap.size,1,none⟩=some (.int .i64 (m:Int)))
 case atStart=>exact ⟨0,M,rfl,rfl,Nat.zero_le _,HQ,hM0,hF0,h0,h1⟩
 case round =>
  clear h0 h1 hM0 hF0 HQ;obtain ⟨i,Mi,rfl,hg,hi,HQ,HMi,HFi,h0,h1⟩:=hrel;by_cases hlt:i<k
  ·have hli:(i:Int)<(k:Int):=by omega
   have hwi:IntKind.i64.wrap ((i:Int)+1)=(i:Int)+1:=by rw [IntKind.wrap_i64];omega
   have hil:i<pl.length:=by rw [HK.out];exact hlt
   have hM:=HMi.out;have hF:=HFi.out;have H0:=HR.out;rw [HK.out] at H0;obtain ⟨q1,d1,e1,f1⟩:=H0;simp only [Value.slice.injEq] at e1;obtain ⟨ex1,ex2,ex3⟩:=e1;subst ex1;subst ex3;clear ex2;obtain ⟨bb,off,rfl,t1⟩:=f1 i hil;have hlb:=zA1 t1;have t2:wr.cell? ⟨bb,off+i,none⟩=some (.int .i64 (pl[i])):=hF.cell t1 (by have:=HPB.out (by intro e;rw [e] at hil;simp at hil) bb rfl;simpa using this);obtain ⟨hj1,hj2⟩:=HPL.out pl[i] (List.getElem_mem _);obtain ⟨j,hj⟩:∃ j:Nat,pl[i]=(j:Int):=⟨pl[i].toNat,by omega⟩
   have HQ1:Hid (Wc.handP (v,m) ((j:Int)::pl.drop (i+1)) Mi=q):=by
    show _=q
    rw [<-HQ.out,List.drop_eq_getElem_cons hil,hj]
   rw [hj] at t2 hj1 hj2;have hjn:j<n:=by omega
   have hj0:j ≠ 0:=by omega
   have hjz:(0:Int)<=(j:Int):=by omega
   have hr:=hM.at' j hjn;have c0:=hM.hd;clear f1 t1 hil hj hj1 HMi HFi HQ;cases hgj:Mi.getD j none with
   | none =>
    have HQ2:Hid (Wc.handP (v,m) (pl.drop (i+1)) (Mi.set j (some (v,m)))=q):=by
     show _=q
     rw [<-HQ1.out];simp only [Wc.handP,Int.toNat_natCast,hgj]
    have e2:wr.cell? ⟨mk,j * 3+2,none⟩=some (.bool false):=by
     have:=hr 2 (.bool false) (by unfold mkC;rw [hgj];rfl);exact this
    clear hr;go_upto_region 4 with fail
    go_quiet (fail)
    go_upto_region 6 with fail
    have hbd:Below wr.heap.size wr (wr.drewN nq).drew:=(zAf (Below.refl _ wr) nq).drew;replace hM:=hM.fr (Fr.of_below [] hbd) (by simp) (by simp)
    replace hF:=hF.trans (Fr.of_below [mk] hbd)
    replace h0:=zAC hbd h0
    replace h1:=zAC hbd h1
    clear hbd;have c0:=hM.hd;refine wp_region_held_drew (S:=λW=>W.cell? ⟨b,0,none⟩=some (.slice (some ⟨mk,0,none⟩) n n)/\W.cell? ⟨w.heap.size,0,none⟩=some (.int .i64 v)/\W.cell? ⟨w.heap.size,1,none⟩=some (.int .i64 (m:Int))) (by kernel_rfl) ⟨c0,h0,h1⟩ (λhHeld=>?_);generalize (wr.drewN nq).drew=wd at *;refine tkQ 0 zLR ?_
    refine tkQ 1 zKr ?_
    refine tkQ 2 zLN ?_
    refine tkQ 3 zK9 ?_
    refine tkQ 4 zLQ ?_
    refine tkQ 5 zLO ?_
    refine tkQ 6 zLL ?_
    refine tkQ 7 zKc ?_
    have fq:=hM.fz;have f0:=fq (j * 3) (by omega);have f1:=fq (j * 3+1) (by omega);have f2:=fq (j * 3+2) (by omega);obtain ⟨⟨y0,e0⟩,⟨y1,e1⟩,⟨y2,e2⟩⟩:=hM.three hjn;have hMS:=hM.set hjn hj0 hbm v m;have fr3:Fr [mk] wd (((wd.setCell ⟨mk,j * 3,none⟩ (.int .i64 v)).setCell ⟨mk,j * 3+1,none⟩ (.int .i64 (m:Int))).setCell ⟨mk,j * 3+2,none⟩ (.bool true)):=zCD;have k0:=fr3.cell c0 nb;have k1:=fr3.cell h0 nw;have k2:=fr3.cell h1 nw;clear fq;refine rdQ 8 zKy (λK hK=>?_);go_simp
    refine hkQ hK (⟨k0,k1,k2⟩) (λhHeld=>?_);clear hK K
    refine wpAnyH_done (by kernel_rfl) ?_ _;clear hHeld f0 f1 f2 e0 e1 e2 c0 h0 h1 hM;have HMS:Hid (MkS (((wd.setCell ⟨mk,j * 3,none⟩ (.int .i64 v)).setCell ⟨mk,j * 3+1,none⟩ (.int .i64 (m:Int))).setCell ⟨mk,j * 3+2,none⟩ (.bool true)) b mk n (Mi.set j (some (v,m)))):=hMS;have HF3:Hid (Fr [mk] w (((wd.setCell ⟨mk,j * 3,none⟩ (.int .i64 v)).setCell ⟨mk,j * 3+1,none⟩ (.int .i64 (m:Int))).setCell ⟨mk,j * 3+2,none⟩ (.bool true))):=hF.trans fr3;have H1:Hid _:=k1;have H2:Hid _:=k2;clear hMS hF fr3 k0 k1 k2;generalize (((wd.setCell ⟨mk,j * 3,none⟩ (.int .i64 v)).setCell ⟨mk,j * 3+1,none⟩ (.int .i64 (m:Int))).setCell ⟨mk,j * 3+2,none⟩ (.bool true))=w9 at *;go_wp2_with fail
    go_roundg (k - (i+1))
    case rel=>exact ⟨i+1,Mi.set j (some (v,m)),by simp,rfl,hlt,HQ2,HMS,HF3,H1.out,H2.out⟩
    case measure=>omega
   | some gg =>
    obtain ⟨gv,gm⟩:=gg;have a0:wr.cell? ⟨mk,j * 3,none⟩=some (.int .i64 gv):=hr 0 (.int .i64 gv) (by unfold mkC;rw [hgj];rfl);have a1:wr.cell? ⟨mk,j * 3+1,none⟩=some (.int .i64 (gm:Int)):=hr 1 (.int .i64 (gm:Int)) (by unfold mkC;rw [hgj];rfl);have e2:wr.cell? ⟨mk,j * 3+2,none⟩=some (.bool true):=hr 2 (.bool true) (by unfold mkC;rw [hgj];simp [hj0]);have NH:=λw=>zHt gv (gm:Int) v (m:Int) w
    clear hr;by_cases hgh:(gv,gm)=(v,m)
    ·have HQ2:Hid (Wc.handP (v,m) (pl.drop (i+1)) (Mi.set j (some (v,m)))=q):=by
      show _=q
      rw [<-HQ1.out];simp only [Wc.handP,Int.toNat_natCast,hgj,if_pos hgh]
     have hx:(!((gv == v) && ((gm:Int) == (m:Int))))=false:=by
      obtain ⟨h2,h3⟩:=Prod.mk.inj hgh;rw [h2,h3];simp
     rw [hx] at NH;clear hx hgh;go_upto_region 4 with fail
     go_quiet (fail)
     go_upto_region 6 with fail
     have hbd:Below wr.heap.size wr (wr.drewN nq).drew:=(zAf (Below.refl _ wr) nq).drew;replace hM:=hM.fr (Fr.of_below [] hbd) (by simp) (by simp)
     replace hF:=hF.trans (Fr.of_below [mk] hbd)
     replace h0:=zAC hbd h0
     replace h1:=zAC hbd h1
     clear hbd;have c0:=hM.hd;refine wp_region_held_drew (S:=λW=>W.cell? ⟨b,0,none⟩=some (.slice (some ⟨mk,0,none⟩) n n)/\W.cell? ⟨w.heap.size,0,none⟩=some (.int .i64 v)/\W.cell? ⟨w.heap.size,1,none⟩=some (.int .i64 (m:Int))) (by kernel_rfl) ⟨c0,h0,h1⟩ (λhHeld=>?_);generalize (wr.drewN nq).drew=wd at *;refine tkQ 0 zLR ?_
     refine tkQ 1 zKr ?_
     refine tkQ 2 zLN ?_
     refine tkQ 3 zK9 ?_
     refine tkQ 4 zLQ ?_
     refine tkQ 5 zLO ?_
     refine tkQ 6 zLL ?_
     refine tkQ 7 zKc ?_
     have fq:=hM.fz;have f0:=fq (j * 3) (by omega);have f1:=fq (j * 3+1) (by omega);have f2:=fq (j * 3+2) (by omega);obtain ⟨⟨y0,e0⟩,⟨y1,e1⟩,⟨y2,e2⟩⟩:=hM.three hjn;have hMS:=hM.set hjn hj0 hbm v m;have fr3:Fr [mk] wd (((wd.setCell ⟨mk,j * 3,none⟩ (.int .i64 v)).setCell ⟨mk,j * 3+1,none⟩ (.int .i64 (m:Int))).setCell ⟨mk,j * 3+2,none⟩ (.bool true)):=zCD;have k0:=fr3.cell c0 nb;have k1:=fr3.cell h0 nw;have k2:=fr3.cell h1 nw;clear fq;refine rdQ 8 zKy (λK hK=>?_);go_simp
     refine hkQ hK (⟨k0,k1,k2⟩) (λhHeld=>?_);clear hK K
     refine wpAnyH_done (by kernel_rfl) ?_ _;clear hHeld f0 f1 f2 e0 e1 e2 c0 h0 h1 hM;have HMS:Hid (MkS (((wd.setCell ⟨mk,j * 3,none⟩ (.int .i64 v)).setCell ⟨mk,j * 3+1,none⟩ (.int .i64 (m:Int))).setCell ⟨mk,j * 3+2,none⟩ (.bool true)) b mk n (Mi.set j (some (v,m)))):=hMS;have HF3:Hid (Fr [mk] w (((wd.setCell ⟨mk,j * 3,none⟩ (.int .i64 v)).setCell ⟨mk,j * 3+1,none⟩ (.int .i64 (m:Int))).setCell ⟨mk,j * 3+2,none⟩ (.bool true))):=hF.trans fr3;have H1:Hid _:=k1;have H2:Hid _:=k2;clear hMS hF fr3 k0 k1 k2;generalize (((wd.setCell ⟨mk,j * 3,none⟩ (.int .i64 v)).setCell ⟨mk,j * 3+1,none⟩ (.int .i64 (m:Int))).setCell ⟨mk,j * 3+2,none⟩ (.bool true))=w9 at *;go_wp2_with fail
     go_roundg (k - (i+1))
     case rel=>exact ⟨i+1,Mi.set j (some (v,m)),by simp,rfl,hlt,HQ2,HMS,HF3,H1.out,H2.out⟩
     case measure=>omega
    ·have HQ2:Hid (none=q):=by
      show _=q
      rw [<-HQ1.out];simp only [Wc.handP,Int.toNat_natCast,hgj,if_neg hgh]
     have hx:(!((gv == v) && ((gm:Int) == (m:Int))))=true:=by
      rw [Bool.not_eq_true',Bool.and_eq_false_iff];by_cases h2:gv=v
      ·right
       have h3:gm ≠ m:=λe=>hgh (by rw [h2,e])
       simp;omega
      ·left
       simpa using h2
     rw [hx] at NH;clear hx hgh;go_upto_region 4 with fail
     go_quiet (fail)
     go_wp2;go_ret;show zLd q b mk n w _ _
     rw [<-HQ2.out];exact ⟨rfl,hF.trans (Fr.of_below _ (zAf (Below.refl wr.heap.size wr) nq))⟩
  ·have hli:¬ (i:Int)<(k:Int):=by omega
   have hqe:some Mi=q:=by
    rw [<-HQ.out,List.drop_eq_nil_of_le (by rw [HK.out];omega)];rfl
   go_wp2;go_ret;show zLd q b mk n w _ _
   rw [<-hqe];exact ⟨rfl,HMi.out,HFi.out⟩
def zBa (at' n:Int) (j:Int):Bool:=decide (j<=at' \/ n<=j)
theorem zFw (tp at':Int) (p q:Addr) (av:Option Addr) (n cap:Nat) (w:World) (hp:w.cell? p=some (.int .i64 at')) (hq:w.cell? q=some (.slice av n cap)) :
  CR 34 #[.int .i64 tp,.pointer (some p),.pointer (some q)] w (.bool (zBa at' n tp)):=by
 by_cases h1:tp<=at'
 ·have hs:zBa at' n tp=true:=decide_eq_true (Or.inl h1);rw [hs];go_enter func34,ntmps34;go_wp2;go_ret;exact ⟨by simp,Below.refl _ _⟩
 ·by_cases h2:(n:Int)<=tp
  ·have hs:zBa at' n tp=true:=decide_eq_true (Or.inr h2);rw [hs];go_enter func34,ntmps34;go_wp2;go_ret;exact ⟨by simp,Below.refl _ _⟩
  ·have hs:zBa at' n tp=false:=decide_eq_false (by omega);rw [hs];go_enter func34,ntmps34;go_wp2;go_ret;exact ⟨by simp,Below.refl _ _⟩
theorem zEO (l:List Int) (v:Value) (at':Int) (pb qb:Nat) (av:Option Addr) (n cap:Nat) (w:World) (h:RdZ w v l) (hl:l.length<=1000000) (hp:w.cell? ⟨pb,0,none⟩=some (.int .i64 at')) (hq:w.cell? ⟨qb,0,none⟩=some (.slice av n cap)) :
  Calls prog 63 #[v,.func (.func 34) #[] #[.pointer (some ⟨pb,0,none⟩),.pointer (some ⟨qb,0,none⟩)]] w λe w'=>(∃ z:Int,e=.returned (.int .i64 z)/\decide (0<=z)=l.any (zBa at' n))/\Below w.heap.size w w':=by
 have eg:∀ args w,(callFunc 34 args).run prog w=.ok (.enter 34 args) w:=λ_ _=>by kernel_rfl
 obtain ⟨a1,c1,rfl,r1⟩:=h;have H1:Hid (∀ i (h:i<l.length),∃ bb off,a1=some ⟨bb,off,none⟩/\w.cell? ⟨bb,off+i,none⟩=some (.int .i64 (l[i]))):=r1;obtain ⟨k,hk⟩:∃ k,l.length=k:=⟨_,rfl⟩
 have HK:Hid (l.length=k):=hk;rw [hk] at hl ⊢;have HP:Hid (w.cell? ⟨pb,0,none⟩=some (.int .i64 at')):=hp;have HQ:Hid (w.cell? ⟨qb,0,none⟩=some (.slice av n cap)):=hq;clear r1 hk hp hq;go_enter func63,ntmps63;go_wp2_with fail
 go_loopg [5,8] k (λgk y x wr=>∃ i:Nat,x=.int .i64 i/\gk=k - i/\i<=k/\Hid (∀ m (hm:m<l.length),m<i->zBa at' n l[m]=false)/\Below w.heap.size w wr)
 case atStart=>exact ⟨0,rfl,rfl,Nat.zero_le _,(λm hm h=>absurd h (Nat.not_lt_zero _):∀ m (hm:m<l.length),m<0->zBa at' n l[m]=false),Below.refl _ _⟩
 case round =>
  obtain ⟨i,rfl,hg,hi,HT,hb⟩:=hrel;by_cases hlt:i<k
  ·have hli:(i:Int)<(k:Int):=by omega
   have hwi:IntKind.i64.wrap ((i:Int)+1)=(i:Int)+1:=by rw [IntKind.wrap_i64];omega
   have hil:i<l.length:=by rw [HK.out];exact hlt
   obtain ⟨b1,o1,rfl,q1⟩:=H1.out i hil;have d1:=zAC hb q1;have SA:=λw2 (hb2:Below wr.heap.size wr w2)=>zFw l[i] at' ⟨pb,0,none⟩ ⟨qb,0,none⟩ av n cap w2 (zAC hb2 (zAC hb HP.out)) (zAC hb2 (zAC hb HQ.out))
   obtain ⟨x,hx⟩:∃ x,l[i]=x:=⟨_,rfl⟩
   obtain ⟨r,hr⟩:∃ r,zBa at' n l[i]=r:=⟨_,rfl⟩
   have HR:Hid (zBa at' n l[i]=r):=hr;rw [hx] at d1 SA;rw [hx] at hr;rw [hr] at SA;have SA0:=SA wr (Below.refl _ _);clear q1 hx hr SA;cases r with
   | true =>
    go_wp2_with (go_at_call 34;refine SA0.mono ?_;rintro e w1 ⟨rfl,hb1⟩)
    go_ret;refine ⟨⟨_,rfl,?_⟩,zAB hb hb1⟩;have:l.any (zBa at' n)=true:=List.any_eq_true.2 ⟨l[i],List.getElem_mem _,HR.out⟩;rw [this];simp
   | false =>
    go_wp2_with (go_at_call 34;refine SA0.mono ?_;rintro e w1 ⟨rfl,hb1⟩)
    go_roundg (k - (i+1))
    case rel =>
     refine ⟨i+1,by simp,rfl,hlt,(λm hm hmi=>?_:∀ m (hm:m<l.length),m<i+1->zBa at' n l[m]=false),zAB hb hb1⟩;by_cases e:m=i
     ·subst e;exact HR.out
     ·exact HT.out m hm (by omega)
    case measure=>omega
  ·have hli:¬ (i:Int)<(k:Int):=by omega
   go_wp2;go_ret;refine ⟨⟨_,rfl,?_⟩,hb⟩;have:l.any (zBa at' n)=false:=by
    rw [List.any_eq_false];intro y hy;obtain ⟨m,hm,rfl⟩:=List.getElem_of_mem hy;rw [HT.out m hm (by have:=HK.out;omega)];simp
   rw [this];simp
theorem zAm (l:List Int) (v:Value) (at':Int) (pb qb:Nat) (av:Option Addr) (n cap:Nat) (w:World) (h:RdZ w v l) (hl:l.length<=1000000) (hp:w.cell? ⟨pb,0,none⟩=some (.int .i64 at')) (hq:w.cell? ⟨qb,0,none⟩=some (.slice av n cap)) :
  CR 36 #[v,.func (.func 34) #[] #[.pointer (some ⟨pb,0,none⟩),.pointer (some ⟨qb,0,none⟩)]] w (.bool (l.any (zBa at' n))):=by
 have I:=zEO l v at' pb qb av n cap w h hl hp hq;clear h hl hp hq;go_enter func36,ntmps36;go_wp2_with fail
 refine I.mono ?_;rintro e w1 ⟨⟨z,rfl,hv⟩,hb1⟩;have H:Hid (decide (0<=z)=l.any (zBa at' n)):=hv;clear hv I;go_wp2;go_ret;exact ⟨by rw [<-H.out];rfl,hb1⟩
theorem zKe (l:List Int) (v1 v2:Value) (w:World) (h1:RdZ w v1 l) (h2:RdZ w v2 l) (hl:l.length<=1000000) :
  CR 72 #[v1,v2] w (.bool true):=by
 obtain ⟨a1,c1,rfl,r1⟩:=h1;obtain ⟨a2,c2,rfl,r2⟩:=h2;have H1:Hid (∀ i (h:i<l.length),∃ bb off,a1=some ⟨bb,off,none⟩/\w.cell? ⟨bb,off+i,none⟩=some (.int .i64 (l[i]))):=r1;have H2:Hid (∀ i (h:i<l.length),∃ bb off,a2=some ⟨bb,off,none⟩/\w.cell? ⟨bb,off+i,none⟩=some (.int .i64 (l[i]))):=r2;obtain ⟨n,hn⟩:∃ n,l.length=n:=⟨_,rfl⟩
 rw [hn] at hl ⊢;clear r1 r2;go_enter func72,ntmps72;go_wp2_with fail
 go_loopg [5] n (λgk x wr=>∃ i:Nat,x=.int .i64 i/\gk=n - i/\i<=n/\Below w.heap.size w wr)
 case atStart=>exact ⟨0,rfl,rfl,Nat.zero_le _,Below.refl _ _⟩
 case round =>
  obtain ⟨i,rfl,hg,hi,hb⟩:=hrel;by_cases hlt:i<n
  ·have hli:(i:Int)<(n:Int):=by omega
   have hwi:IntKind.i64.wrap ((i:Int)+1)=(i:Int)+1:=by rw [IntKind.wrap_i64];omega
   obtain ⟨b1,o1,rfl,q1⟩:=H1.out i (by omega);obtain ⟨b2,o2,rfl,q2⟩:=H2.out i (by omega);have d1:=zAC hb q1;have d2:=zAC hb q2;generalize l[i]=x at d1 d2;clear q1 q2;go_upto_region 6 with fail
   go_quiet (fail)
   go_wp2_with fail
   go_roundg (n - (i+1))
   case rel=>exact ⟨i+1,by simp,rfl,hlt,(clB hb)⟩
   case measure=>omega
  ·have hli:¬ (i:Int)<(n:Int):=by omega
   go_wp2;go_ret;exact ⟨rfl,hb⟩
