/- KHand, KTwin. -/
import Derived.Test.YtefkclbaflkheaaGreatDoorQ22
set_option maxHeartbeats 4000000
set_option maxRecDepth 100000
namespace Go.Proofs.YtefkclbaflkheaaGreatDoor
open Tryz
variable {w w':World} {B mk b n:Nat} {tv v:Value} {tl:List Int} {M:List (Option (Int × Nat))} {ops:Array Oper} {rest:List Oper} {a:Act} {Q:Exit->Act->World->Prop} {A:List (Wc.In × Value)} {op:Oper}
open Go.RowKit
set_option linter.unusedVariables false
def mkC (M:List (Option (Int × Nat))) (j:Nat):List Value:=match M.getD j none with
 | none=>[.int .i64 0,.int .i64 0,.bool false]
 | some (v,m)=>[.int .i64 v,.int .i64 (m:Int),.bool (decide (j ≠ 0))]
structure MkS (w:World) (b mk n:Nat) (M:List (Option (Int × Nat))):Prop where
 hd:w.cell? ⟨b,0,none⟩=some (.slice (some ⟨mk,0,none⟩) n n)
 at':∀ j:Nat,j<n->w.rangeAt mk (j * 3) (mkC M j)
 fz:∀ i:Nat,i<n * 3->w.frozen? ⟨mk,i,none⟩=false
 len:M.length=n
 mlt:mk<w.heap.size
theorem MkS.fr {S:List Nat} (h:MkS w b mk n M) (hf:Fr S w w') (hb:b ∉ S) (hm:mk ∉ S):MkS w' b mk n M :=
 ⟨hf.cell h.hd hb,λj hj=>hf.range (h.at' j hj) hm,λi hi=>by rw [hf.frozen h.mlt hm];exact h.fz i hi,h.len,Nat.lt_of_lt_of_le h.mlt hf.size⟩
theorem zDK (M:List (Option (Int × Nat))) (j:Nat):∃ a c d,mkC M j=[.int .i64 a,.int .i64 c,.bool d]:=by
 unfold mkC;split
 ·exact ⟨_,_,_,rfl⟩
 ·exact ⟨_,_,_,rfl⟩
theorem MkS.three (h:MkS w b mk n M) {j:Nat} (hj:j<n):(∃ a:Int,w.cell? ⟨mk,j * 3,none⟩=some (.int .i64 a))/\(∃ a:Int,w.cell? ⟨mk,j * 3+1,none⟩=some (.int .i64 a))/\∃ d,w.cell? ⟨mk,j * 3+2,none⟩=some (.bool d):=by
 obtain ⟨a,c,d,e⟩:=zDK M j;have hr:=h.at' j hj;rw [e] at hr;exact ⟨⟨a,hr 0 _ rfl⟩,⟨c,hr 1 _ rfl⟩,⟨d,hr 2 _ rfl⟩⟩
theorem MkS.set (h:MkS w b mk n M) {j:Nat} (hj:j<n) (j0:j ≠ 0) (hbm:b ≠ mk) (v:Int) (m:Nat):MkS (((w.setCell ⟨mk,j * 3,none⟩ (.int .i64 v)).setCell ⟨mk,j * 3+1,none⟩ (.int .i64 (m:Int))).setCell ⟨mk,j * 3+2,none⟩ (.bool true)) b mk n (M.set j (some (v,m))):=by
 have fr:Fr [mk] w (((w.setCell ⟨mk,j * 3,none⟩ (.int .i64 v)).setCell ⟨mk,j * 3+1,none⟩ (.int .i64 (m:Int))).setCell ⟨mk,j * 3+2,none⟩ (.bool true)) :=
  ((Fr.of_grown (zAL _ _ _ _) (λk e=>by cases e;simp)).trans (Fr.of_grown (zAL _ _ _ _) (λk e=>by cases e;simp))).trans (Fr.of_grown (zAL _ _ _ _) (λk e=>by cases e;simp))
 obtain ⟨⟨y0,e0⟩,⟨y1,e1⟩,⟨y2,e2⟩⟩:=h.three hj;refine ⟨fr.cell h.hd (by simpa using hbm),λi hi=>?_,λi hi=>by rw [World.frozen?_setCell,World.frozen?_setCell,World.frozen?_setCell];exact h.fz i hi,by rw [List.length_set];exact h.len,Nat.lt_of_lt_of_le h.mlt fr.size⟩;by_cases e:i=j
 ·subst e;have hc:mkC (M.set i (some (v,m))) i=[.int .i64 v,.int .i64 (m:Int),.bool true]:=by
   unfold mkC;rw [Wc.getD_set M i i _ (by rw [h.len];exact hj),if_pos rfl];simp [j0]
  rw [hc];intro q u hq;match q,hq with
  | 0,hq =>
   cases hq
   rw [zAM _ _ _ (by omega),zAM _ _ _ (by omega)];exact zAQ e0 _
  | 1,hq =>
   cases hq
   rw [zAM _ _ _ (by omega)];exact zAQ (by rw [zAM _ _ _ (by omega)];exact e1) _
  | 2,hq =>
   cases hq
   exact zAQ (by rw [zAM _ _ _ (by omega),zAM _ _ _ (by omega)];exact e2) _
 ·have hc:mkC (M.set j (some (v,m))) i=mkC M i:=by
   unfold mkC;rw [Wc.getD_set M j i _ (by rw [h.len];exact hj),if_neg (λq=>e q.symm)]
  rw [hc];obtain ⟨a,c,d,ee⟩:=zDK M i;have hr:=h.at' i hi;rw [ee] at hr ⊢;intro q u hq;have hq3:q<3:=by
   rcases Nat.lt_or_ge q 3 with g | g
   ·exact g
   ·rw [List.getElem?_eq_none (by simpa using g)] at hq;cases hq
  have:=hr q u hq;rw [zAM _ _ _ (by omega),zAM _ _ _ (by omega),zAM _ _ _ (by omega)];exact this
theorem zC8 {i1 i2 i3:Nat} {v1 v2 v3:Value}:Fr [mk] w (((w.setCell ⟨mk,i1,none⟩ v1).setCell ⟨mk,i2,none⟩ v2).setCell ⟨mk,i3,none⟩ v3) :=
 ((Fr.of_grown (zAL _ _ _ _) (λk e=>by cases e;simp)).trans (Fr.of_grown (zAL _ _ _ _) (λk e=>by cases e;simp))).trans (Fr.of_grown (zAL _ _ _ _) (λk e=>by cases e;simp))
theorem zIQ (x y x' y':Int) (w:World):(binOp .neq 130 (.agg #[.int .i64 x,.int .i64 y]) (.agg #[.int .i64 x',.int .i64 y'])).run prog w=.ok (.bool (!((x == x') && (y == y')))) w:=by
 by_cases h1:x=x'
 ·by_cases h2:y=y'
  ·simp [go_sem,h1,h2]
  ·simp [go_sem,h1,h2]
 ·simp [go_sem,h1]
def zMU (r:Option (List (Option (Int × Nat)))) (b mk n:Nat) (w:World) (e:Ending) (w':World):Prop:=match r with
 | some M2=>e=.returned (.bool true)/\MkS w' b mk n M2/\Fr [mk] w w'
 | none=>e=.returned (.bool false)/\Fr [mk] w w'
theorem zBq (b mk n:Nat) (M:List (Option (Int × Nat))) (v:Int) (m:Nat) (pl:List Int) (pv:Value) (w:World) (hM:MkS w b mk n M) (hbm:b ≠ mk) (hp:RdZ w pv pl) (hpl:∀ j ∈ pl,0<j/\j<(n:Int)) (hl:pl.length<=1000000) (hn:n<=1000000) (hpb:pl ≠ []->∀ g,pv.ownBlock=some g->g ≠ mk) :
  Calls prog 66 #[.pointer (some ⟨b,0,none⟩),.agg #[.int .i64 v,.int .i64 (m:Int)],pv] w λe w'=>zMU (Wc.handP (v,m) pl M) b mk n w e w':=by
 obtain ⟨a1,c1,rfl,r1⟩:=hp;have HR:Hid (RdZ w (.slice a1 pl.length c1) pl):=⟨a1,c1,rfl,r1⟩
 have HPB:Hid (pl ≠ []->∀ g,(Value.slice a1 pl.length c1).ownBlock=some g->g ≠ mk):=hpb;have HPL:Hid (∀ j ∈ pl,0<j/\j<(n:Int)):=hpl;obtain ⟨k,hk⟩:∃ k,pl.length=k:=⟨_,rfl⟩
 have HK:Hid (pl.length=k):=hk;rw [hk] at hl ⊢;obtain ⟨q,hq⟩:∃ q,Wc.handP (v,m) pl M=q:=⟨_,rfl⟩
 have HQ:Hid (Wc.handP (v,m) (pl.drop 0) M=q):=hq;rw [hq];have pH:=AtL.new0 w 130 [.int .i64 v,.int .i64 (m:Int)];have hb0:=zAK (Below.refl _ w) (.cells #[.int .i64 v,.int .i64 (m:Int)] 130);have hM0:=hM.fr (Fr.of_below [] hb0) (by simp) (by simp);have hF0:=Fr.of_below [mk] hb0;have h0:=pH.2.1 0 _ rfl;have h1:=pH.2.1 1 _ rfl;have nb:b ∉ [mk]:=by simpa using hbm
 have nw:w.heap.size ∉ [mk]:=by have:=hM.mlt;simp;omega
 clear r1 hpl hk hq pH hM hpb;go_enter func66,ntmps66;go_upto_region 1 with fail
 generalize (w.alloc (.cells #[.int .i64 v,.int .i64 (m:Int)] 130))=w0 at *;have HB0:Hid (Below w.heap.size w w0):=hb0;clear hb0;go_wp2_with fail
 go_loopg [11] k (λgk x wr=>∃ (i:Nat) (Mi:List (Option (Int × Nat))),x=.int .i64 i/\gk=k - i/\i<=k/\Hid (Wc.handP (v,m) (pl.drop i) Mi=q)/\Hid (MkS wr b mk n Mi)/\Hid (Fr [mk] w wr)/\wr.cell? ⟨w.heap.size,0,none⟩=some (.int .i64 v)/\wr.cell? ⟨w.heap.size,1,none⟩=some (.int .i64 (m:Int)))
 case atStart=>exact ⟨0,M,rfl,rfl,Nat.zero_le _,HQ,hM0,hF0,h0,h1⟩
 case round =>
  clear h0 h1 hM0 hF0 HQ;obtain ⟨i,Mi,rfl,hg,hi,HQ,HMi,HFi,h0,h1⟩:=hrel;by_cases hlt:i<k
  ·have hli:(i:Int)<(k:Int):=by omega
   have hwi:IntKind.i64.wrap ((i:Int)+1)=(i:Int)+1:=by rw [IntKind.wrap_i64];omega
   have hil:i<pl.length:=by rw [HK.out];exact hlt
   have hM:=HMi.out;have hF:=HFi.out;have H0:=HR.out;rw [HK.out] at H0;obtain ⟨q1,d1,e1,f1⟩:=H0;simp only [Value.slice.injEq] at e1;obtain ⟨ex1,ex2,ex3⟩:=e1;subst ex1;subst ex3;clear ex2;obtain ⟨bb,off,rfl,t1⟩:=f1 i hil;have hlb:=zAV t1;have t2:wr.cell? ⟨bb,off+i,none⟩=some (.int .i64 (pl[i])):=hF.cell t1 (by have:=HPB.out (by intro e;rw [e] at hil;simp at hil) bb rfl;simpa using this);obtain ⟨hj1,hj2⟩:=HPL.out pl[i] (List.getElem_mem _);obtain ⟨j,hj⟩:∃ j:Nat,pl[i]=(j:Int):=⟨pl[i].toNat,by omega⟩
   have HQ1:Hid (Wc.handP (v,m) ((j:Int)::pl.drop (i+1)) Mi=q):=by
    show _=q
    rw [<-HQ.out,List.drop_eq_getElem_cons hil,hj]
   rw [hj] at t2 hj1 hj2;have hjn:j<n:=by omega
   have hj0:j ≠ 0:=by omega
   have hjz:(0:Int)<=(j:Int):=by omega
   have hr:=hM.at' j hjn;have c0:=hM.hd;clear f1 t1 hil hj hj1 HMi HFi HQ;cases hgj:Mi.getD j none with
   | none =>
    have HQ2:Hid (Wc.handP (v,m) (pl.drop (i+1)) (Mi.set j (some (v,m)))=q):=by
     show _=q
     rw [<-HQ1.out];simp only [Wc.handP,Int.toNat_natCast,hgj]
    have e2:wr.cell? ⟨mk,j * 3+2,none⟩=some (.bool false):=by
     have:=hr 2 (.bool false) (by unfold mkC;rw [hgj];rfl);exact this
    clear hr;go_upto_region 4 with fail
    go_quiet (fail)
    go_upto_region 6 with fail
    have hbd:Below wr.heap.size wr (wr.drewN nq).drew:=(zAo (Below.refl _ wr) nq).drew;replace hM:=hM.fr (Fr.of_below [] hbd) (by simp) (by simp)
    replace hF:=hF.trans (Fr.of_below [mk] hbd)
    replace h0:=zAC hbd h0
    replace h1:=zAC hbd h1
    clear hbd;have c0:=hM.hd;refine wp_region_held_drew (S:=λW=>W.cell? ⟨b,0,none⟩=some (.slice (some ⟨mk,0,none⟩) n n)/\W.cell? ⟨w.heap.size,0,none⟩=some (.int .i64 v)/\W.cell? ⟨w.heap.size,1,none⟩=some (.int .i64 (m:Int))) (by kernel_rfl) ⟨c0,h0,h1⟩ (λhHeld=>?_);generalize (wr.drewN nq).drew=wd at *;refine tkQ 0 ?_
    refine tkQ 1 ?_
    refine tkQ 2 ?_
    refine tkQ 3 ?_
    refine tkQ 4 ?_
    refine tkQ 5 ?_
    refine tkQ 6 ?_
    refine tkQ 7 ?_
    have fq:=hM.fz;have f0:=fq (j * 3) (by omega);have f1:=fq (j * 3+1) (by omega);have f2:=fq (j * 3+2) (by omega);obtain ⟨⟨y0,e0⟩,⟨y1,e1⟩,⟨y2,e2⟩⟩:=hM.three hjn;have hMS:=hM.set hjn hj0 hbm v m;have fr3:Fr [mk] wd (((wd.setCell ⟨mk,j * 3,none⟩ (.int .i64 v)).setCell ⟨mk,j * 3+1,none⟩ (.int .i64 (m:Int))).setCell ⟨mk,j * 3+2,none⟩ (.bool true)):=zC8;have k0:=fr3.cell c0 nb;have k1:=fr3.cell h0 nw;have k2:=fr3.cell h1 nw;clear fq;refine rdQ 8 (λK hK=>?_);go_simp
    refine hkQ hK (⟨k0,k1,k2⟩) (λhHeld=>?_);clear hK K
    refine wpAnyH_done (by kernel_rfl) ?_ _;clear hHeld f0 f1 f2 e0 e1 e2 c0 h0 h1 hM;have HMS:Hid (MkS (((wd.setCell ⟨mk,j * 3,none⟩ (.int .i64 v)).setCell ⟨mk,j * 3+1,none⟩ (.int .i64 (m:Int))).setCell ⟨mk,j * 3+2,none⟩ (.bool true)) b mk n (Mi.set j (some (v,m)))):=hMS;have HF3:Hid (Fr [mk] w (((wd.setCell ⟨mk,j * 3,none⟩ (.int .i64 v)).setCell ⟨mk,j * 3+1,none⟩ (.int .i64 (m:Int))).setCell ⟨mk,j * 3+2,none⟩ (.bool true))):=hF.trans fr3;have H1:Hid _:=k1;have H2:Hid _:=k2;clear hMS hF fr3 k0 k1 k2;generalize (((wd.setCell ⟨mk,j * 3,none⟩ (.int .i64 v)).setCell ⟨mk,j * 3+1,none⟩ (.int .i64 (m:Int))).setCell ⟨mk,j * 3+2,none⟩ (.bool true))=w9 at *;go_wp2_with fail
    go_roundg (k - (i+1))
    case rel=>exact ⟨i+1,Mi.set j (some (v,m)),by simp,rfl,hlt,HQ2,HMS,HF3,H1.out,H2.out⟩
    case measure=>omega
   | some gg =>
    obtain ⟨gv,gm⟩:=gg;have a0:wr.cell? ⟨mk,j * 3,none⟩=some (.int .i64 gv):=hr 0 (.int .i64 gv) (by unfold mkC;rw [hgj];rfl);have a1:wr.cell? ⟨mk,j * 3+1,none⟩=some (.int .i64 (gm:Int)):=hr 1 (.int .i64 (gm:Int)) (by unfold mkC;rw [hgj];rfl);have e2:wr.cell? ⟨mk,j * 3+2,none⟩=some (.bool true):=hr 2 (.bool true) (by unfold mkC;rw [hgj];simp [hj0]);have NH:=λw=>zIQ gv (gm:Int) v (m:Int) w
    clear hr;by_cases hgh:(gv,gm)=(v,m)
    ·have HQ2:Hid (Wc.handP (v,m) (pl.drop (i+1)) (Mi.set j (some (v,m)))=q):=by
      show _=q
      rw [<-HQ1.out];simp only [Wc.handP,Int.toNat_natCast,hgj,if_pos hgh]
     have hx:(!((gv == v) && ((gm:Int) == (m:Int))))=false:=by
      obtain ⟨h2,h3⟩:=Prod.mk.inj hgh;rw [h2,h3];simp
     rw [hx] at NH;clear hx hgh;go_upto_region 4 with fail
     go_quiet (fail)
     go_upto_region 6 with fail
     have hbd:Below wr.heap.size wr (wr.drewN nq).drew:=(zAo (Below.refl _ wr) nq).drew;replace hM:=hM.fr (Fr.of_below [] hbd) (by simp) (by simp)
     replace hF:=hF.trans (Fr.of_below [mk] hbd)
     replace h0:=zAC hbd h0
     replace h1:=zAC hbd h1
     clear hbd;have c0:=hM.hd;refine wp_region_held_drew (S:=λW=>W.cell? ⟨b,0,none⟩=some (.slice (some ⟨mk,0,none⟩) n n)/\W.cell? ⟨w.heap.size,0,none⟩=some (.int .i64 v)/\W.cell? ⟨w.heap.size,1,none⟩=some (.int .i64 (m:Int))) (by kernel_rfl) ⟨c0,h0,h1⟩ (λhHeld=>?_);generalize (wr.drewN nq).drew=wd at *;refine tkQ 0 ?_
     refine tkQ 1 ?_
     refine tkQ 2 ?_
     refine tkQ 3 ?_
     refine tkQ 4 ?_
     refine tkQ 5 ?_
     refine tkQ 6 ?_
     refine tkQ 7 ?_
     have fq:=hM.fz;have f0:=fq (j * 3) (by omega);have f1:=fq (j * 3+1) (by omega);have f2:=fq (j * 3+2) (by omega);obtain ⟨⟨y0,e0⟩,⟨y1,e1⟩,⟨y2,e2⟩⟩:=hM.three hjn;have hMS:=hM.set hjn hj0 hbm v m;have fr3:Fr [mk] wd (((wd.setCell ⟨mk,j * 3,none⟩ (.int .i64 v)).setCell ⟨mk,j * 3+1,none⟩ (.int .i64 (m:Int))).setCell ⟨mk,j * 3+2,none⟩ (.bool true)):=zC8;have k0:=fr3.cell c0 nb;have k1:=fr3.cell h0 nw;have k2:=fr3.cell h1 nw;clear fq;refine rdQ 8 (λK hK=>?_);go_simp
     refine hkQ hK (⟨k0,k1,k2⟩) (λhHeld=>?_);clear hK K
     refine wpAnyH_done (by kernel_rfl) ?_ _;clear hHeld f0 f1 f2 e0 e1 e2 c0 h0 h1 hM;have HMS:Hid (MkS (((wd.setCell ⟨mk,j * 3,none⟩ (.int .i64 v)).setCell ⟨mk,j * 3+1,none⟩ (.int .i64 (m:Int))).setCell ⟨mk,j * 3+2,none⟩ (.bool true)) b mk n (Mi.set j (some (v,m)))):=hMS;have HF3:Hid (Fr [mk] w (((wd.setCell ⟨mk,j * 3,none⟩ (.int .i64 v)).setCell ⟨mk,j * 3+1,none⟩ (.int .i64 (m:Int))).setCell ⟨mk,j * 3+2,none⟩ (.bool true))):=hF.trans fr3;have H1:Hid _:=k1;have H2:Hid _:=k2;clear hMS hF fr3 k0 k1 k2;generalize (((wd.setCell ⟨mk,j * 3,none⟩ (.int .i64 v)).setCell ⟨mk,j * 3+1,none⟩ (.int .i64 (m:Int))).setCell ⟨mk,j * 3+2,none⟩ (.bool true))=w9 at *;go_wp2_with fail
     go_roundg (k - (i+1))
     case rel=>exact ⟨i+1,Mi.set j (some (v,m)),by simp,rfl,hlt,HQ2,HMS,HF3,H1.out,H2.out⟩
     case measure=>omega
    ·have HQ2:Hid (none=q):=by
      show _=q
      rw [<-HQ1.out];simp only [Wc.handP,Int.toNat_natCast,hgj,if_neg hgh]
     have hx:(!((gv == v) && ((gm:Int) == (m:Int))))=true:=by
      rw [Bool.not_eq_true',Bool.and_eq_false_iff];by_cases h2:gv=v
      ·right
       have h3:gm ≠ m:=λe=>hgh (by rw [h2,e])
       simp;omega
      ·left
       simpa using h2
     rw [hx] at NH;clear hx hgh;go_upto_region 4 with fail
     go_quiet (fail)
     go_wp2;go_ret;show zMU q b mk n w _ _
     rw [<-HQ2.out];exact ⟨rfl,hF.trans (Fr.of_below _ (zAo (Below.refl wr.heap.size wr) nq))⟩
  ·have hli:¬ (i:Int)<(k:Int):=by omega
   have hqe:some Mi=q:=by
    rw [<-HQ.out,List.drop_eq_nil_of_le (by rw [HK.out];omega)];rfl
   go_wp2;go_ret;show zMU q b mk n w _ _
   rw [<-hqe];exact ⟨rfl,HMi.out,HFi.out⟩
theorem zEQ (w:World) (o:Obj):w.heap.size<(w.alloc o).heap.size:=by
 show w.heap.size<(w.heap.push o).size
 simp
def zA9:List (Wc.In × Value)->List Value
 | []=>[]
 | x::r=>zAD x.1 x.2++zA9 r
theorem zBs:∀ A:List (Wc.In × Value),(zA9 A).length=A.length * 23
 | []=>rfl
 | x::r=>by simp [zA9,zBs r,zAD];omega
theorem zCE:∀ (A C:List (Wc.In × Value)),zA9 (A++C)=zA9 A++zA9 C
 | [],C=>rfl
 | x::r,C=>by simp [zA9,zCE r C]
def OwnI (w:World) (B:Nat) (v:Value) (A:List (Wc.In × Value)):Prop:=w.ownsRow B 56 23 v A.length (zA9 A)
theorem OwnI.nil (w:World) (B:Nat):OwnI w B (.slice none 0 0) []:=⟨rfl,Or.inl ⟨rfl,rfl⟩⟩
theorem OwnI.below (h:OwnI w B v A) (hb:Below w.heap.size w w'):OwnI w' B v A:=zAc (Fr.of_below [] hb) h (by simp)
def TwR (w:World) (B:Nat) (tv:Value) (tl:List Int):Prop:=∃ g cap,tv=.slice (some ⟨g,0,none⟩) tl.length cap/\OwnZ w B (.slice (some ⟨g,0,none⟩) (tl.length+2) cap) (tl++[771,772])
theorem TwR.below (h:TwR w B tv tl) (hb:Below w.heap.size w w'):TwR w' B tv tl:=by
 obtain ⟨g,cap,e,h⟩:=h;exact ⟨g,cap,e,h.below hb⟩
theorem TwR.app {C:Nat} (h:TwR w B tv tl) (ho:OwnI w C v A) (hg:w.grownBy w' v.ownBlock):TwR w' B tv tl:=by
 obtain ⟨g,cap,e,h⟩:=h;refine ⟨g,cap,e,zAc (Fr.of_grown (S:=v.ownBlock.toList) hg (λk q=>by simp [q])) h (λk hk hm=>?_)⟩;have hk2:g=k:=by simpa [Value.ownBlock] using hk
 subst hk2;have hm2:v.ownBlock=some g:=by simpa using hm
 rcases h.2 with ⟨q,_⟩ | ⟨g1,c1,cur1,q1,_,r1,_⟩
 ·cases q
 ·simp only [Value.slice.injEq,Option.some.injEq,Addr.mk.injEq] at q1;rw [<-q1.1.1] at r1;rcases ho.2 with ⟨q,_⟩ | ⟨g2,c2,cur2,q2,_,r2,_⟩
  ·rw [q] at hm2;cases hm2
  ·rw [q2] at hm2;have:g2=g:=by simpa [Value.ownBlock] using hm2
   subst this;rw [r1] at r2;cases r2
theorem TwR.rd (h:TwR w B tv tl):RdZ w tv tl:=by
 obtain ⟨g,cap,e,h⟩:=h;obtain ⟨av,cp,e1,f⟩:=h.rd;simp only [Value.slice.injEq] at e1;refine ⟨some ⟨g,0,none⟩,cap,e,λi hi=>?_⟩;obtain ⟨bb,off,q1,q2⟩:=f i (by simp;omega);rw [<-e1.1] at q1;cases q1
 refine ⟨g,0,rfl,?_⟩;rw [List.getElem_append_left hi] at q2;exact q2
theorem zGc:(prog.info? 56).map (λi=>(i.zero,i.size,i.bytes))=some (some (.agg (zAD (zAE 0) zAG).toArray),23,208):=by kernel_rfl
def Tw (w:World) (B:Nat):List (Wc.In × Value)->List (Wc.In × List Int)->Prop
 | [],[]=>True
 | p::r,x::s=>(p.1=x.1/\TwR w B p.2 x.2)/\Tw w B r s
 | _,_=>False
theorem Tw.len:∀ (P:List (Wc.In × Value)) (L:List (Wc.In × List Int)),Tw w B P L->P.length=L.length:=by
 intro P;induction P with
 | nil =>
  intro L h;cases L with
  | nil=>rfl
  | cons x s=>exact h.elim
 | cons p r ih =>
  intro L h;cases L with
  | nil=>exact h.elim
  | cons x s=>rw [List.length_cons,List.length_cons,ih s h.2]
theorem Tw.turn (ht:∀ tv tl,TwR w B tv tl->TwR w' B tv tl):∀ (P:List (Wc.In × Value)) (L:List (Wc.In × List Int)),Tw w B P L->Tw w' B P L:=by
 intro P;induction P with
 | nil =>
  intro L h;cases L with
  | nil=>trivial
  | cons x s=>exact h.elim
 | cons p r ih =>
  intro L h;cases L with
  | nil=>exact h.elim
  | cons x s=>exact ⟨⟨h.1.1,ht _ _ h.1.2⟩,ih s h.2⟩
theorem Tw.app {y:Wc.In} (ht:TwR w B tv tl):∀ (P:List (Wc.In × Value)) (L:List (Wc.In × List Int)),Tw w B P L->Tw w B (P++[(y,tv)]) (L++[(y,tl)]):=by
 intro P;induction P with
 | nil =>
  intro L h;cases L with
  | nil=>exact ⟨⟨rfl,ht⟩,trivial⟩
  | cons x s=>exact h.elim
 | cons p r ih =>
  intro L h;cases L with
  | nil=>exact h.elim
  | cons x s=>exact ⟨h.1,ih s h.2⟩
theorem zBv:∀ (A:List (Wc.In × Value)),(∀ p ∈ A,∃ av n c,p.2=.slice av n c)->∀ v ∈ zA9 A,v.oneCell'=true
 | [],_,v,h=>by cases h
 | x::r,hs,v,h=>by
  obtain ⟨av,n,c,e⟩:=hs x (List.mem_cons_self ..);simp only [zA9,List.mem_append] at h;rcases h with h | h
  ·rw [e] at h;exact zJZ _ _ _ _ v h
  ·exact zBv r (λp hp=>hs p (List.mem_cons_of_mem _ hp)) v h
theorem zBE {ops:Array Oper} {rest:List Oper} {o:Oper} {a:Act} {Q:Exit->Act->World->Prop} (hgd:o.guard=none) (s x:Operand) (ho:o.op=.call {callee:=.builtin .append,args:=#[s,x],argTypes:=#[36,36]})
  (w:World) (B:Nat) (hB:B<=w.heap.size) (v:Value) (A:List (Wc.In × Value)) (hs:a.eval s=v) (hown:OwnI w B v A) (g n:Nat) (L:List (Wc.In × Value)) (hn:n=L.length) (hx:a.eval x=.slice (some ⟨g,0,none⟩) n n) (hat:AtL w g (zA9 L)) (hsl:∀ p ∈ L,∃ av n c,p.2=.slice av n c) (hl:A.length+L.length<=2000000)
  (h:∀ v' w',OwnI w' B v' (A++L)->w.grownBy w' v.ownBlock->wpList prog ops Q rest (a.put o.dst v') w'):wpList prog ops Q (o::rest) a w:=by
 subst hn;obtain ⟨i0,hi0,hz0,hz1,hz2⟩:=info_parts zGc;refine wpList_plain hgd λK hK=>?_
 refine wp_append_own _ s x 36 ho B 56 i0 _ 23 208 underlying36 hi0 hz0 hz1 hz2 rfl (by decide) v A.length (zA9 A) hs hown ⟨g,0,none⟩ L.length L.length (zA9 L) hx (zBs L) (λj u hj=>?_) (zBv L hsl) (by unfold maxLen;omega) (by omega) hB ?_
 ·have:=hat.2.1 j u hj;rw [show (⟨g,0,none⟩:Addr).add j=⟨g,j,none⟩ from by
   simp [Addr.add];try (intro h0;omega)]
  exact this
 ·intro v' w' own hg _;refine hK _ _ (h v' w' ?_ hg);unfold OwnI;rw [List.length_append,zCE];exact own
theorem zMe (x:Wc.In) (av:Option Addr) (n c:Nat) (w:World):(Instr.buildSlice 36 1 #[(0,.agg (zAD x (.slice av n c)).toArray)]).run prog w=.ok (.slice (some ⟨w.heap.size,0,none⟩) 1 1) (w.alloc (.cells (zAD x (.slice av n c)).toArray 56)):=by kernel_rfl
theorem zNC (x y:Wc.In) (w:World):(Instr.buildSlice 36 2 #[(0,.agg (zAD x zAG).toArray),(1,.agg (zAD y zAG).toArray)]).run prog w=.ok (.slice (some ⟨w.heap.size,0,none⟩) 2 2) (w.alloc (.cells (zA9 [(x,zAG),(y,zAG)]).toArray 56)):=by kernel_rfl
theorem zB4 (hgd:op.guard=none) (y:Operand) (ho:op.op=.buildSlice 36 1 #[(0,y)]) (x:Wc.In) (av:Option Addr) (n c:Nat) (hy:a.eval y=.agg (zAD x (.slice av n c)).toArray)
  (h:wpList prog ops Q rest (a.put op.dst (.slice (some ⟨w.heap.size,0,none⟩) 1 1)) (w.alloc (.cells (zAD x (.slice av n c)).toArray 56))):wpList prog ops Q (op::rest) a w:=by
 refine wpList_plain hgd λK hK=>?_
 unfold Oper.wp execOp;simp only [ho,List.map_toArray,List.map_cons,List.map_nil,hy,Sem.run_bind,Sem.run_pure,Result.andThen_ok,zMe];exact hK _ _ h
theorem zDb (hgd:op.guard=none) (y z:Operand) (ho:op.op=.buildSlice 36 2 #[(0,y),(1,z)]) (x u:Wc.In) (hy:a.eval y=.agg (zAD x zAG).toArray) (hz:a.eval z=.agg (zAD u zAG).toArray)
  (h:wpList prog ops Q rest (a.put op.dst (.slice (some ⟨w.heap.size,0,none⟩) 2 2)) (w.alloc (.cells (zA9 [(x,zAG),(u,zAG)]).toArray 56))):wpList prog ops Q (op::rest) a w:=by
 refine wpList_plain hgd λK hK=>?_
 unfold Oper.wp execOp;simp only [ho,List.map_toArray,List.map_cons,List.map_nil,hy,hz,Sem.run_bind,Sem.run_pure,Result.andThen_ok,zNC];exact hK _ _ h
def TwP (L:List (Wc.In × List Int)) (w:World) (e:Ending) (w':World):Prop:=∃ G cap B P,e=.returned (.slice (some ⟨G,0,none⟩) L.length cap)/\w.heap.size<=B/\OwnI w' B (.slice (some ⟨G,0,none⟩) (L.length+2) cap) (P++[(zAE 771,zAG),(zAE 772,zAG)])/\Tw w' B P L
