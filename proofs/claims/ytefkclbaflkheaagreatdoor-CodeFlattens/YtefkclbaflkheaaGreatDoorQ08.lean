/- Lemmas. -/
import Derived.Test.YtefkclbaflkheaaGreatDoorQ07
set_option maxHeartbeats 4000000
set_option maxRecDepth 100000
set_option linter.unusedVariables false
namespace Go.Proofs.YtefkclbaflkheaaGreatDoor
open Tryz
open Go.RowKit Wf
variable {w w':World} {s:ByteArray} {ops:Array Oper} {rest:List Oper} {op:Oper} {a:Act} {Q:Exit->Act->World->Prop} {x:Wt.Nd} {n b0 pb bb off:Nat} {sv:Value} {av:Option Addr} {P:Program}
theorem zG5 (x:Wt.Nd) (w:World):CR 77 #[.agg (zAG x).toArray] w (.int .i64 (Wt.parts x)):=by
 have p:=AtL.new0 w 35 (zAG x);have hb:=zAM (Below.refl _ w) (.cells (zAG x).toArray 35);have c0:(w.alloc (.cells (zAG x).toArray 35)).cell? ⟨w.heap.size,0,none⟩=some (.int .i64 x.k):=p.2.1 0 _ rfl;have c9:(w.alloc (.cells (zAG x).toArray 35)).cell? ⟨w.heap.size,9,none⟩=some (.int .i64 x.ar):=p.2.1 9 _ rfl;clear p;unfold Wt.parts;by_cases h4:x.k=4
 ·rw [if_pos h4];rw [h4] at c0;clear h4;go_enter func77,ntmps77;go_upto_region 1 with fail
  generalize (w.alloc (.cells (zAG x).toArray 35))=W at *;go_wp2;go_ret;exact ⟨rfl,hb⟩
 rw [if_neg h4];by_cases h5:x.k=5
 ·rw [if_pos h5];rw [h5] at c0;clear h4 h5;go_enter func77,ntmps77;go_upto_region 1 with fail
  generalize (w.alloc (.cells (zAG x).toArray 35))=W at *;go_wp2;go_ret;exact ⟨rfl,hb⟩
 rw [if_neg h5];have e4:(x.k == 4)=false:=by simpa using h4
 have e5:(x.k == 5)=false:=by simpa using h5
 go_enter func77,ntmps77;go_upto_region 1 with fail
 generalize (w.alloc (.cells (zAG x).toArray 35))=W at *;go_wp2;go_ret;exact ⟨rfl,hb⟩
theorem zNU (w:World) (g o m cap:Nat):(Instr.sliceAt 22 (.slice (some ⟨g,o,none⟩) (m+1) cap) (some (.int .i64 1)) none none).run prog w=.ok (sliced (some ⟨g,o,none⟩) 1 (m+1) cap 20) w:=by
 have hu:prog.underlying 22=some (.slice (prog.elem 22)):=by kernel_rfl
 have hz:(sizeOf (prog.elem 22)).run prog w=.ok 20 w:=by kernel_rfl
 rw [run_sliceAt_slice w _ _ _ _ _ hu,run_slice_l w _ _ _ _ hu _ 1 (by omega) (by omega),hz];rfl
theorem zGX (hgd:op.guard=none) (s:Operand) (ho:op.op=.slice 22 s (some (.const (.int .i64 1))) none none) (g o m cap:Nat) (hs:a.eval s=.slice (some ⟨g,o,none⟩) (m+1) cap) (hc:m+1<=cap)
  (h:∀ X C:Nat,(m ≠ 0->X=o+20)->m<=C->wpList prog ops Q rest (a.put op.dst (.slice (some ⟨g,X,none⟩) m C)) w):wpList prog ops Q (op::rest) a w:=by
 refine wpList_plain hgd λK hK=>?_
 unfold Oper.wp execOp;have hr:=zNU w g o m cap;have he:sliced (some ⟨g,o,none⟩) 1 (m+1) cap 20=.slice (some ⟨g,(if cap=1 then o else o+20),none⟩) m (cap - 1):=by
  unfold sliced;by_cases hc1:cap=1
  ·rw [if_pos hc1,if_pos hc1];rfl
  ·rw [if_neg hc1,if_neg hc1];rfl
 rw [he] at hr;have hv:a.eval (.const (.int .i64 1))=.int .i64 1:=rfl;simp only [ho,hs,hv,Option.map_some,Option.map_none,Sem.run_bind,Sem.run_pure,Result.andThen_ok,hr];exact hK _ _ (h _ _ (λhm=>by rw [if_neg (by omega)]) (by omega))
theorem RdN.tail {X:Nat} {r:List Wt.Nd} (h:RdN w (some ⟨bb,off,none⟩) (x::r)) (hX:r.length ≠ 0->X=off+20):RdN w (some ⟨bb,X,none⟩) r:=λi hi=>by
 obtain ⟨b2,o2,e,hr⟩:=h (i+1) (by simp;omega);cases e
 refine ⟨bb,X,rfl,?_⟩;rw [hX (by omega),show off+20+i * 20=off+(i+1) * 20 from by omega];exact hr
structure GrS (n b0:Nat) (w:World) (pb:Nat) (x:Wt.Nd) (sv:Value) (ps:List (Tr n × Value)):Prop where
 at':AtL w pb (zAN x sv)
 own:OwnP w (pb+1) sv (ps.map λp=>(hd n p.1,p.2))
 kids:∀ p ∈ ps,∃ lo hi,b0<=lo/\hi<=w.heap.size/\(∀ j,sv.ownBlock=some j->j<lo \/ hi<=j)/\pb<lo/\PA n lo hi w p.1 p.2
theorem GrS.below {ps:List (Tr n × Value)} (h:GrS n b0 w pb x sv ps) (hb:Below w.heap.size w w'):GrS n b0 w' pb x sv ps :=
 ⟨AtL.below hb h.at',h.own.below hb,λp hp=>by
  obtain ⟨lo,hi,h1,h2,h3,h4,h5⟩:=h.kids p hp;exact ⟨lo,hi,h1,Nat.le_trans h2 hb.size,h3,h4,PA.kept (Kept.of_below hb) n _ _ h5⟩⟩
theorem GrS.done {ps:List (Tr n × Value)} (h:GrS n b0 w pb x sv ps) (t:Tr (n+1)) (ht:ps.map (·.1)=Br.ks t):PA (n+1) pb w.heap.size w t sv:=by
 have hk:∀ p ∈ ps,PA n pb w.heap.size w p.1 p.2:=λp hp=>by
  obtain ⟨lo,hi,h1,h2,h3,h4,h5⟩:=h.kids p hp;exact PA.wide (Nat.le_of_lt h4) h2 n _ _ h5
 have hl:(ps.map λp=>(hd n p.1,p.2)).length=ps.length:=by simp
 rcases OwnP.cases h.own with ⟨e,hp⟩ | ⟨g,cap,e,h1,h2,h3⟩
 ·have hp':ps=[]:=by simpa using hp
  subst hp';exact ⟨none,0,[],ht,e,Nat.le_refl _,λi hi=>absurd hi (Nat.not_lt_zero _),hk⟩
 ·rw [hl] at e;refine ⟨_,cap,ps,ht,e,?_,λi hi=>?_,hk⟩
  ·rcases h.own.2 with ⟨e2,h0⟩ | ⟨g2,cap2,cur,e2,_,_,r1,_⟩
   ·rw [e2] at e;cases e
   ·rw [e2] at e;simp only [Value.slice.injEq,List.length_map] at e r1;omega
  ·refine ⟨g,0,by omega,h2,rfl,?_⟩;have:=h3 i (by rw [hl];exact hi);simp only [List.getElem_map] at this;rw [Nat.zero_add];exact this
theorem GrS.app {w1:World} {v':Value} {ps:List (Tr n × Value)} (h:GrS n b0 w pb x sv ps) {k:Tr n} {sl:Value} {lo hi:Nat} (hk:PA n lo hi w k sl) (h1:b0<=lo) (h2:hi<=w.heap.size) (h3:∀ j,sv.ownBlock=some j->j<lo) (h4:pb<lo)
  (own:OwnP w1 (pb+1) v' ((ps.map λp=>(hd n p.1,p.2))++[(hd n k,sl)])) (hg:w.grownBy w1 sv.ownBlock) (hv:v'.ownBlock=sv.ownBlock \/ v'.ownBlock=some w.heap.size) :
  GrS n b0 (w1.setCell ⟨pb,20,none⟩ v') pb x v' (ps++[(k,sl)])/\Fr (pb::sv.ownBlock.toList) w (w1.setCell ⟨pb,20,none⟩ v'):=by
 have f1:Fr sv.ownBlock.toList w w1:=Fr.of_grown hg (λj e=>by simp [e]);have f2:Fr [pb] w1 (w1.setCell ⟨pb,20,none⟩ v'):=Fr.of_grown (zAP _ _ _ _) (λj e=>by cases e;simp);have ha:AtL w1 pb (zAN x sv):=h.at'.fr f1 (λe=>by have:=(zAK h.own (show sv.ownBlock=some pb by simpa using e)).1;omega);have hkeep:∀ (t:Tr n) (u:Value) (lo hi:Nat),(∀ j,sv.ownBlock=some j->j<lo \/ hi<=j)->pb<lo->PA n lo hi w t u->PA n lo hi (w1.setCell ⟨pb,20,none⟩ v') t u:=λt u lo hi q1 q2 q3 =>
  PA.kept (Kept.of_fr f2 (λj hj=>by simp at hj;omega)) n _ _ (PA.kept (Kept.of_fr f1 (λj hj=>q1 j (by simpa using hj))) n _ _ q3)
 have hs2:w.heap.size<=(w1.setCell ⟨pb,20,none⟩ v').heap.size:=Nat.le_trans f1.size f2.size;refine ⟨⟨ha.set 20 v',?_,λp hp=>?_⟩,(f1.mono (λj hj=>List.mem_cons_of_mem _ hj)).trans (f2.mono (λj hj=>by simp at hj;subst hj;exact List.mem_cons_self ..))⟩
 ·have:=zAW f2 own (λj e=>by have:=(zAK own e).1;simp;omega);simpa [OwnP] using this
 ·rcases List.mem_append.1 hp with hp | hp
  ·obtain ⟨lo',hi',q1,q2,q3,q4,q5⟩:=h.kids p hp;refine ⟨lo',hi',q1,Nat.le_trans q2 hs2,λj e=>?_,q4,hkeep _ _ _ _ q3 q4 q5⟩;rcases hv with hv | hv
   ·exact q3 j (by rw [<-hv];exact e)
   ·rw [hv] at e;cases e;exact Or.inr q2
  ·simp only [List.mem_singleton] at hp;subst hp;refine ⟨lo,hi,h1,Nat.le_trans h2 hs2,λj e=>?_,h4,hkeep _ _ _ _ (λj e=>Or.inl (h3 j e)) h4 hk⟩;rcases hv with hv | hv
   ·exact Or.inl (h3 j (by rw [<-hv];exact e))
   ·rw [hv] at e;cases e;exact Or.inr h2
def GrP (n:Nat) (t:Tr n) (bb:Nat) (R:List Wt.Nd) (w:World) (e:Ending) (w':World):Prop :=
 (∃ (sl:Value) (X L C:Nat),e=.returned (.tuple #[.agg (zAN (hd n t) sl).toArray,.slice (some ⟨bb,X,none⟩) L C])/\L=R.length/\PA n w.heap.size w'.heap.size w' t sl/\RdN w' (some ⟨bb,X,none⟩) R/\L<=C)/\Below w.heap.size w w'
def GrC (n:Nat):Prop:=∀ (t:Tr n) (bb off L cap:Nat) (R:List Wt.Nd) (w:World),zAz n t->L=(row n t++R).length->L<=300->L<=cap->RdN w (some ⟨bb,off,none⟩) (row n t++R) ->
 Calls prog 45 #[.slice (some ⟨bb,off,none⟩) L cap] w (GrP n t bb R w)
theorem RdN.fr {S:List Nat} {L:List Wt.Nd} (h:RdN w (some ⟨bb,off,none⟩) L) (hf:Fr S w w') (hn:bb ∉ S):RdN w' (some ⟨bb,off,none⟩) L:=λi hi=>by
 obtain ⟨b2,o2,e,hr⟩:=h i hi;cases e
 exact ⟨bb,off,rfl,hf.range hr hn⟩
theorem zJP (n:Nat) (ih:GrC n):GrC (n+1):=by
 intro t bb off L cap R w hF hLe hL hC hR;obtain ⟨x,ks⟩:Br (Tr n):=t;obtain ⟨hx,hp,hks⟩:=hF;replace hx:Wt.right x=true:=hx
 replace hp:Wt.parts x=(ks.length:Int):=hp
 replace hks:∀ k ∈ ks,zAz n k:=hks
 have hrow:row (n+1) (⟨x,ks⟩:Br (Tr n))=x::(ks.map (row n)).flatten:=rfl;rw [hrow,List.cons_append] at hLe hR;unfold GrP;have hhd:hd (n+1) (⟨x,ks⟩:Br (Tr n))=x:=rfl;simp only [hhd];obtain ⟨b9,o9,e9,hr0⟩:=hR 0 (by simp);cases e9
 have HBB:Hid (bb<w.heap.size):=zA5 (hr0 0 _ rfl);have HF:Hid (∀ k ∈ ks,zAz n k):=hks;have HP:Hid (Wt.parts x=(ks.length:Int)):=hp;have HCO:Hid (∀ w:World,CR 77 #[.agg (zAG x).toArray] w (.int .i64 (ks.length:Int))):=λw=>by rw [<-hp];exact zG5 x w
 have HIH:Hid (GrC n):=ih;have HKL:Hid (ks.length<=30):=by have:=(Wt.parts_le hx).2;show ks.length<=30;omega
 simp only [List.length_cons] at hLe;obtain ⟨m,hm⟩:∃ m,((ks.map (row n)).flatten++R).length=m:=⟨_,rfl⟩
 rw [hm] at hLe;subst hLe;have HM:Hid (((ks.map (row n)).flatten++R).length=m/\m+1<=300):=⟨hm,hL⟩
 simp only [List.getElem_cons_zero,Nat.zero_mul,Nat.add_zero] at hr0;have HR:Hid (RdN w (some ⟨bb,off,none⟩) (x::((ks.map (row n)).flatten++R))):=hR;have hmi:(0:Int)<((m+1:Nat):Int):=by omega
 clear hx hp hks hR hL hm ih hrow;have pR0:AtL (w.alloc (.cells zeros21 64)) w.heap.size zeros21.toList:=AtL.new0 w _ _;have hb1:=zAM (Below.refl _ w) (.cells zeros21 64);have h1:=zAF hb1 hr0;have HR1:Hid (RdN (w.alloc (.cells zeros21 64)) (some ⟨bb,off,none⟩) (x::((ks.map (row n)).flatten++R))):=HR.out.below hb1;clear hr0 HR;go_enter func45,ntmps45;go_upto_region 1 with fail
 generalize (w.alloc (.cells zeros21 64))=W1 at *;have pP0:AtL (W1.alloc (.cells zeros21 64)) W1.heap.size zeros21.toList:=AtL.new0 W1 _ _;have hth:World.there (W1.alloc (.cells zeros21 64)) W1.heap.size 0 (zAN x (.slice none 0 0)).toArray.size:=pP0.there;clear pP0;go_upto_region 2 with (first | (refine zAA (by rfl) 35 (.tmp 8) rfl bb off rfl (zAG x) _ h1 underlying35 rfl (by kernel_rfl) ?_) | (refine zEp rfl (.tmp 9) rfl x rfl ?_) | ((with_reducible refine wpList_store_mid ?_ 64 (.tmp 4) (.tmp 10) ?_ W1.heap.size 0 (zAN x (.slice none 0 0)).toArray ?_ ?_ ?_ ?_ ?_ ?_);rfl;rfl;rfl;rfl;exact hth;kernel_rfl;exact zAk _ _ _ _))
 have pP:AtL ((W1.alloc (.cells zeros21 64)).setCells W1.heap.size 0 (zAN x (.slice none 0 0))) W1.heap.size (zAN x (.slice none 0 0)):=(AtL.new0 W1 _ _:AtL (W1.alloc (.cells zeros21 64)) W1.heap.size zeros21.toList).setAll rfl;have hb2:Below W1.heap.size W1 ((W1.alloc (.cells zeros21 64)).setCells W1.heap.size 0 (zAN x (.slice none 0 0))):=zAv (zAM (Below.refl _ W1) _) (Nat.le_refl _) _ 0;have pR1:=AtL.below hb2 pR0;have hB2:=zAB hb1 hb2;have HR2:Hid (RdN ((W1.alloc (.cells zeros21 64)).setCells W1.heap.size 0 (zAN x (.slice none 0 0))) (some ⟨bb,off,none⟩) (x::((ks.map (row n)).flatten++R))):=HR1.out.below hb2;have HK1:Hid (w.heap.size<W1.heap.size):=pR0.lt;clear hth pR0 h1 hb1 hb2 HR1;generalize ((W1.alloc (.cells zeros21 64)).setCells W1.heap.size 0 (zAN x (.slice none 0 0)))=W2 at *;obtain ⟨k1,hk1⟩:∃ k,W1.heap.size=k:=⟨_,rfl⟩
 rw [hk1] at pP HK1;simp only [hk1];clear hk1;have rN:=zCZ pP.range;have CO:=HCO.out W2;go_wp2_with (first | (refine zGX rfl (.tmp 11) rfl bb off m cap rfl hC ?_;intro X C hX hmC) | (refine zAA (by rfl) 35 (.tmp 13) rfl k1 0 rfl (zAG x) _ rN underlying35 rfl (by kernel_rfl) ?_))
 refine CO.mono ?_;rintro e w3 ⟨rfl,hb3⟩;have HG:Hid (GrS n w.heap.size w3 k1 x (.slice none 0 0) []):=⟨AtL.below hb3 pP,OwnP.nil _ _,λp hp=>by cases hp⟩
 have HZ:Hid (AtL w3 w.heap.size zeros21.toList):=AtL.below hb3 pR1;have HB3:Hid (Below w.heap.size w w3):=zAB hB2 hb3;have HR3:Hid (RdN w3 (some ⟨bb,X,none⟩) ((ks.map (row n)).flatten++R)):=(HR2.out.tail (λh=>hX (by have:=HM.out.1;omega))).below hb3;have HC3:Hid (m<=C):=hmC;have HL3:Hid (((ks.map (row n)).flatten++R).length=m):=HM.out.1;have HM2:Hid (m<=300):=by have:=HM.out.2;show m<=300;omega
 clear CO rN pP pR1 hB2 hb3 HCO HR2 hX hmC hC hmi HM hhd;go_wp2_with fail
 go_loopg [0,16] ks.length (λgk a b wr=>∃ (i L2 X2 C2:Nat) (sv:Value) (ps:List (Tr n × Value)),a=.slice (some ⟨bb,X2,none⟩) L2 C2/\b=.int .i64 (i:Int)/\gk=ks.length - i/\i<=ks.length/\Hid (ps.map (·.1)=ks.take i)/\Hid (RdN wr (some ⟨bb,X2,none⟩) (((ks.drop i).map (row n)).flatten++R))/\Hid (L2=(((ks.drop i).map (row n)).flatten++R).length)/\Hid (L2<=C2)/\Hid (L2<=300)/\Hid (GrS n w.heap.size wr k1 x sv ps)/\Hid (AtL wr w.heap.size zeros21.toList)/\Hid (Below w.heap.size w wr))
 case atStart=>exact ⟨0,_,_,_,_,[],rfl,rfl,rfl,Nat.zero_le _,(by simp:([]:List (Tr n × Value)).map (·.1)=ks.take 0),(by rw [List.drop_zero];exact HR3.out:RdN w3 _ _),(by rw [List.drop_zero];exact HL3.out.symm:m=_),HC3,HM2,HG,HZ,HB3⟩
 case round =>
  clear HR3 HC3 HL3 HM2 HG HZ HB3;obtain ⟨i,L2,X2,C2,sv,ps,rfl,rfl,hg,hi,HPS,HR,HL,HC,HM,HG,HZ,HB⟩:=hrel;by_cases hlt:i<ks.length
  ·have hli:(i:Int)<(ks.length:Int):=by omega
   have hwi:IntKind.i64.wrap ((i:Int)+1)=(i:Int)+1:=by have:=HKL.out;rw [IntKind.wrap_i64];omega
   have hdr:((ks.drop i).map (row n)).flatten++R=row n ks[i]++(((ks.drop (i+1)).map (row n)).flatten++R):=by
    rw [List.drop_eq_getElem_cons hlt,List.map_cons,List.flatten_cons,List.append_assoc]
   rw [hdr] at HR HL;have GR:=HIH.out ks[i] bb X2 L2 C2 (((ks.drop (i+1)).map (row n)).flatten++R) wr (HF.out _ (List.getElem_mem hlt)) HL.out HM.out HC.out HR.out;have HPS2:Hid (ps.map (·.1)++[ks[i]]=ks.take (i+1)):=by show _=_;rw [HPS.out,List.take_succ_eq_append_getElem hlt]
   have HM3:Hid ((((ks.drop (i+1)).map (row n)).flatten++R).length<=300):=by have:=HM.out;have h2:=HL.out;rw [List.length_append] at h2;show _<=300;omega
   have HPL:Hid (ps.length<=30):=by have:=congrArg List.length HPS.out;have:=HKL.out;simp at *;show _<=30;omega
   clear hdr HR HC HM HL HPS;obtain ⟨kk,hkk⟩:∃ kk,ks[i]=kk:=⟨_,rfl⟩
   rw [hkk] at GR HPS2;clear hkk;obtain ⟨R2,hR2⟩:∃ R2,((ks.drop (i+1)).map (row n)).flatten++R=R2:=⟨_,rfl⟩
   rw [hR2] at GR HM3;have HR2:Hid (((ks.drop (i+1)).map (row n)).flatten++R=R2):=hR2;clear hR2;unfold GrP at GR;go_wp2_with fail
   refine GR.mono ?_;rintro e w4 ⟨⟨sl,X3,L3,C3,rfl,hl4,hpa,hr4,hc4⟩,hb4⟩;obtain ⟨av5,m5,c5,rfl⟩:=hpa.slice;have HG4:Hid (GrS n w.heap.size w4 k1 x sv ps):=HG.out.below hb4;have HZ4:Hid (AtL w4 w.heap.size zeros21.toList):=AtL.below hb4 HZ.out;have HB4:Hid (Below w.heap.size w w4):=zAB HB.out hb4;have HPA:Hid (PA n wr.heap.size w4.heap.size w4 kk (.slice av5 m5 c5)):=hpa;have HR4:Hid (RdN w4 (some ⟨bb,X3,none⟩) R2):=hr4;have HL4:Hid (L3=R2.length/\L3<=C3):=⟨hl4,hc4⟩
   have HS4:Hid (k1<wr.heap.size/\wr.heap.size<=w4.heap.size/\w.heap.size<=wr.heap.size/\∀ j,sv.ownBlock=some j->k1+1<=j/\j<wr.heap.size):=⟨HG.out.at'.lt,hb4.size,HB.out.size,λj e=>zAK HG.out.own e⟩
   clear hpa hr4 hl4 hc4 hb4 HG HZ HB GR;have hth:World.there (w4.alloc (.cells zeros21 64)) w4.heap.size 0 (zAN (hd n kk) (.slice av5 m5 c5)).toArray.size:=(AtL.new0 w4 _ _:AtL (w4.alloc (.cells zeros21 64)) w4.heap.size zeros21.toList).there;have HPI:Hid (AtL ((w4.alloc (.cells zeros21 64)).setCells w4.heap.size 0 (zAN (hd n kk) (.slice av5 m5 c5))) w4.heap.size (zAN (hd n kk) (.slice av5 m5 c5))):=(AtL.new0 w4 _ _:AtL (w4.alloc (.cells zeros21 64)) w4.heap.size zeros21.toList).setAll rfl;have hb5:Below w4.heap.size w4 ((w4.alloc (.cells zeros21 64)).setCells w4.heap.size 0 (zAN (hd n kk) (.slice av5 m5 c5))):=zAv (zAM (Below.refl _ w4) _) (Nat.le_refl _) _ 0;have HHB:Hid (Below w4.heap.size w4 ((w4.alloc (.cells zeros21 64)).setCells w4.heap.size 0 (zAN (hd n kk) (.slice av5 m5 c5)))):=hb5;clear hb5;obtain ⟨y,hy⟩:∃ y,hd n kk=y:=⟨_,rfl⟩
   have HY:Hid (hd n kk=y):=hy;rw [hy] at hth HPI HHB ⊢;clear hy;go_upto_region 6 with (first | ((with_reducible refine wpList_store_mid ?_ 64 (.tmp 5) (.tmp 21) ?_ w4.heap.size 0 (zAN y (.slice av5 m5 c5)).toArray ?_ ?_ ?_ ?_ ?_ ?_);rfl;rfl;rfl;rfl;exact hth;kernel_rfl;exact zAk _ _ _ _))
   clear hth;have hb5:=HHB.out;have HG5:Hid (GrS n w.heap.size ((w4.alloc (.cells zeros21 64)).setCells w4.heap.size 0 (zAN y (.slice av5 m5 c5))) k1 x sv ps):=HG4.out.below hb5;have HZ5:Hid (AtL ((w4.alloc (.cells zeros21 64)).setCells w4.heap.size 0 (zAN y (.slice av5 m5 c5))) w.heap.size zeros21.toList):=AtL.below hb5 HZ4.out;have HB5:Hid (Below w.heap.size w ((w4.alloc (.cells zeros21 64)).setCells w4.heap.size 0 (zAN y (.slice av5 m5 c5)))):=zAB HB4.out hb5;have HPA5:Hid (PA n wr.heap.size w4.heap.size ((w4.alloc (.cells zeros21 64)).setCells w4.heap.size 0 (zAN y (.slice av5 m5 c5))) kk (.slice av5 m5 c5)):=PA.kept (Kept.of_below hb5) n _ _ HPA.out;have HR5:Hid (RdN ((w4.alloc (.cells zeros21 64)).setCells w4.heap.size 0 (zAN y (.slice av5 m5 c5))) (some ⟨bb,X3,none⟩) R2):=HR4.out.below hb5;have HS5:Hid (w4.heap.size<=((w4.alloc (.cells zeros21 64)).setCells w4.heap.size 0 (zAN y (.slice av5 m5 c5))).heap.size):=hb5.size;clear hb5 HHB HG4 HZ4 HB4 HPA HR4;generalize ((w4.alloc (.cells zeros21 64)).setCells w4.heap.size 0 (zAN y (.slice av5 m5 c5)))=W5 at *;obtain ⟨ib,hib⟩:∃ k,w4.heap.size=k:=⟨_,rfl⟩
   rw [hib] at HPI HPA5 HS4 HS5;simp only [hib];clear hib;have rI:=HPI.out.range;have c20:W5.cell? ⟨k1,20,none⟩=some sv:=HG5.out.at'.2.1 20 sv rfl;have hb6:=zAM (Below.refl _ W5) (.cells (zAN y (.slice av5 m5 c5)).toArray 64);have HAT:Hid ((W5.alloc (.cells (zAN y (.slice av5 m5 c5)).toArray 64)).rangeAt W5.heap.size 0 (zAN y (.slice av5 m5 c5))):=(AtL.new0 W5 64 (zAN y (.slice av5 m5 c5))).range;have HG6:Hid (GrS n w.heap.size (W5.alloc (.cells (zAN y (.slice av5 m5 c5)).toArray 64)) k1 x sv ps):=HG5.out.below hb6;have HZ6:Hid (AtL (W5.alloc (.cells (zAN y (.slice av5 m5 c5)).toArray 64)) w.heap.size zeros21.toList):=AtL.below hb6 HZ5.out;have HB6:Hid (Below w.heap.size w (W5.alloc (.cells (zAN y (.slice av5 m5 c5)).toArray 64))):=zAB HB5.out hb6;have HPA6:Hid (PA n wr.heap.size ib (W5.alloc (.cells (zAN y (.slice av5 m5 c5)).toArray 64)) kk (.slice av5 m5 c5)):=PA.kept (Kept.of_below hb6) n _ _ HPA5.out;have HR6:Hid (RdN (W5.alloc (.cells (zAN y (.slice av5 m5 c5)).toArray 64)) (some ⟨bb,X3,none⟩) R2):=HR5.out.below hb6;have HS6:Hid (ib<=(W5.alloc (.cells (zAN y (.slice av5 m5 c5)).toArray 64)).heap.size):=Nat.le_trans HS5.out hb6.size;have HKS:Hid (k1+1<=(W5.alloc (.cells (zAN y (.slice av5 m5 c5)).toArray 64)).heap.size):=HG6.out.at'.lt;clear hb6 HG5 HZ5 HB5 HPA5 HR5 HS5 HPI;go_wp2_with (first
    | (refine zAA (by rfl) 64 (.tmp 5) rfl ib 0 rfl (zAN y (.slice av5 m5 c5)) _ rI underlying64 rfl (by kernel_rfl) ?_)
    | (refine zCC rfl (.tmp 25) rfl y av5 m5 c5 rfl ?_;clear rI c20)
    | (
      refine zCF rfl (.tmp 24) (.tmp 26) rfl (W5.alloc (.cells (zAN y (.slice av5 m5 c5)).toArray 64)) (k1+1) HKS.out sv (ps.map λp=>(hd n p.1,p.2)) rfl HG6.out.own W5.heap.size y av5 m5 c5 rfl HAT.out (λ_=>by have:=HPL.out;simp;omega) ?_;intro v7 w7 own7 hg7 hv7;obtain ⟨a8,m8,c8,rfl⟩:=own7.slice;have HGF:=HG6.out.app HPA6.out (by have:=HS4.out;omega) HS6.out (λj e=>(HS4.out.2.2.2 j e).2) HS4.out.1 (by rw [HY.out];exact own7) hg7 hv7;have f7:Fr sv.ownBlock.toList (W5.alloc (.cells (zAN y (.slice av5 m5 c5)).toArray 64)) w7:=Fr.of_grown hg7 (λj e=>by simp [e]);have a7:=HG6.out.at'.fr f7 (λe=>by have:=(HS4.out.2.2.2 k1 (by simpa using e)).1;omega);have c7:w7.cell? ⟨k1,20,none⟩=some sv:=a7.2.1 20 sv rfl;have z7:=a7.2.2 20 (by rw [zCc];omega);have HH:Hid (GrS n w.heap.size (w7.setCell ⟨k1,20,none⟩ (.slice a8 m8 c8)) k1 x (.slice a8 m8 c8) (ps++[(kk,.slice av5 m5 c5)])/\Fr (k1::sv.ownBlock.toList) (W5.alloc (.cells (zAN y (.slice av5 m5 c5)).toArray 64)) (w7.setCell ⟨k1,20,none⟩ (.slice a8 m8 c8))):=HGF;clear HGF f7 a7 own7 hg7 hv7))
   have hfr:=HH.out.2;have HZ7:Hid (AtL (w7.setCell ⟨k1,20,none⟩ (.slice a8 m8 c8)) w.heap.size zeros21.toList):=HZ6.out.fr hfr (λe=>by
    have h9:=HS4.out;have:=HK1.out;rcases List.mem_cons.1 e with q | q
    ·omega
    ·have:=(h9.2.2.2 w.heap.size (by simpa using q)).1;omega)
   have HB7:Hid (Below w.heap.size w (w7.setCell ⟨k1,20,none⟩ (.slice a8 m8 c8))):=zCT HB6.out hfr (λj e=>by
    have h9:=HS4.out;have:=HK1.out;rcases List.mem_cons.1 e with q | q
    ·omega
    ·have:=(h9.2.2.2 j (by simpa using q)).1;omega)
   have HR7:Hid (RdN (w7.setCell ⟨k1,20,none⟩ (.slice a8 m8 c8)) (some ⟨bb,X3,none⟩) R2):=HR6.out.fr hfr (λe=>by
    have h9:=HS4.out;have:=HK1.out;have:=HBB.out;rcases List.mem_cons.1 e with q | q
    ·omega
    ·have:=(h9.2.2.2 bb (by simpa using q)).1;omega)
   have HG7:Hid (GrS n w.heap.size (w7.setCell ⟨k1,20,none⟩ (.slice a8 m8 c8)) k1 x (.slice a8 m8 c8) (ps++[(kk,.slice av5 m5 c5)])):=HH.out.1;clear hfr HH HZ6 HB6 HR6 HG6 HPA6 HAT HS6 HKS c7 z7;go_roundg (ks.length - (i+1))
   case rel =>
    refine ⟨i+1,_,_,_,_,ps++[(kk,.slice av5 m5 c5)],rfl,by simp,rfl,hlt,(by rw [List.map_append];exact HPS2.out:_=_),(by rw [HR2.out];exact HR7.out:RdN _ _ _),(by rw [HR2.out];exact HL4.out.1:_=_),HL4.out.2,(by have:=HL4.out.1;have:=HM3.out;omega:L3<=300),HG7,HZ7,HB7⟩
   case measure=>omega
  ·have hli:¬ (i:Int)<(ks.length:Int):=by omega
   have hik:i=ks.length:=by omega
   subst hik;have HLR:Hid (L2=R.length):=by show _=_;have:=HL.out;rw [List.drop_length] at this;simpa using this
   have HRR:Hid (RdN wr (some ⟨bb,X2,none⟩) R):=by show RdN _ _ _;have:=HR.out;rw [List.drop_length] at this;simpa using this
   obtain ⟨av5,m5,c5,rfl⟩:=HG.out.own.slice;have rP:=HG.out.at'.range;have hth:World.there wr w.heap.size 0 (zAN x (.slice av5 m5 c5)).toArray.size:=HZ.out.there;have pF:AtL (wr.setCells w.heap.size 0 (zAN x (.slice av5 m5 c5))) w.heap.size (zAN x (.slice av5 m5 c5)):=HZ.out.setAll rfl;have HPF:Hid ((wr.setCells w.heap.size 0 (zAN x (.slice av5 m5 c5))).rangeAt w.heap.size 0 (zAN x (.slice av5 m5 c5))):=pF.range;have HBF:Hid (Below w.heap.size w (wr.setCells w.heap.size 0 (zAN x (.slice av5 m5 c5)))):=zAv HB.out (Nat.le_refl _) _ 0;have HPAF:Hid (PA (n+1) k1 wr.heap.size wr (⟨x,ks⟩:Br (Tr n)) (.slice av5 m5 c5)):=HG.out.done _ (by rw [HPS.out,List.take_length]);have HFF:Hid (Fr [w.heap.size] wr (wr.setCells w.heap.size 0 (zAN x (.slice av5 m5 c5)))):=zCQ _ _ _ _;clear pF HG HZ HB HR HL HPS;go_wp2_with (first | (refine zAA (by rfl) 64 (.tmp 4) rfl k1 0 rfl (zAN x (.slice av5 m5 c5)) _ rP underlying64 rfl (by kernel_rfl) ?_) | ((with_reducible refine wpList_store_mid ?_ 64 (.tmp 2) (.tmp 31) ?_ w.heap.size 0 (zAN x (.slice av5 m5 c5)).toArray ?_ ?_ ?_ ?_ ?_ ?_);rfl;rfl;rfl;rfl;exact hth;kernel_rfl;exact zAk _ _ _ _))
   have hk1:=HK1.out;have hFF:=HFF.out;refine bodyPost_ret (zDU (by rfl) _ _ w.heap.size (zAN x (.slice av5 m5 c5)) _ (by rfl) HPF.out underlying64 rfl (by kernel_rfl)) rfl ⟨⟨_,_,_,_,rfl,HLR.out,PA.wide (Nat.le_of_lt hk1) hFF.size (n+1) _ _ (PA.kept (Kept.of_fr hFF (λj hj=>by simp at hj;omega)) (n+1) _ _ HPAF.out),HRR.out.fr hFF (by have:=HBB.out;simp;omega),HC.out⟩,HBF.out⟩
theorem zFb:∀ n,GrC n
 | 0=>λt=>Empty.elim t
 | n+1=>zJP n (zFb n)
def RdS (w:World) (av:Option Addr) (L:List ByteArray):Prop:=∀ i (h:i<L.length),∃ bb off,av=some ⟨bb,off,none⟩/\w.cell? ⟨bb,off+i,none⟩=some (.string (L[i]))
theorem RdS.below {L:List ByteArray} (h:RdS w av L) (hb:Below w.heap.size w w'):RdS w' av L:=λi hi=>by
 obtain ⟨bb,off,e,hc⟩:=h i hi;exact ⟨bb,off,e,zAC hb hc⟩
theorem str_eqb {x:ByteArray}:s.toList=x.toList ↔ s=x:=by
 refine ⟨λh=>?_,λh=>by rw [h]⟩;rw [ByteArray.toList_eq,ByteArray.toList_eq] at h;exact ByteArray.ext (Array.toList_inj.mp h)
theorem zEL {x:ByteArray} (h:¬ s=x):(s.toList == x.toList)=false:=by
 rw [beq_eq_false_iff_ne];exact λe=>h (str_eqb.1 e)
theorem zKo (h:¬ s=⟨#[]⟩):s.toList.isEmpty=false:=by
 cases hs:s.toList with
 | nil=>exact absurd (str_eqb.1 (hs.trans (by rw [ByteArray.toList_eq]))) h
 | cons a r=>rfl
theorem zJE (s:ByteArray) (nm:List ByteArray) (av:Option Addr) (m cap:Nat) (w:World) (hm:m=nm.length) (hl:nm.length<=16) (hR:RdS w av nm):CR 114 #[.slice av m cap,.string s] w (.int .i64 (idx s nm 0)):=by
 generalize hq:idx s nm 0=q;have HM:Hid (m=nm.length/\nm.length<=16):=⟨hm,hl⟩
 have HR:Hid (RdS w av nm):=hR;clear hm hl hR;go_enter func114,ntmps114;go_wp2_with fail
 go_loopg [5,8] m (λgk u x wr=>∃ i:Nat,x=.int .i64 (i:Int)/\gk=m - i/\i<=m/\Hid (idx s (nm.drop i) i=q)/\w=wr)
 case atStart=>exact ⟨0,rfl,rfl,Nat.zero_le _,(by rw [List.drop_zero];exact hq:_=_),rfl⟩
 case round =>
  obtain ⟨i,rfl,hg,hi,HQ,rfl⟩:=hrel;by_cases hlt:i<m
  ·have hli:(i:Int)<(m:Int):=by omega
   have hiz:(0:Int)<=(i:Int):=by omega
   have hwi:IntKind.i64.wrap ((i:Int)+1)=(i:Int)+1:=by have:=HM.out;rw [IntKind.wrap_i64];omega
   have hln:i<nm.length:=by have:=HM.out;omega
   obtain ⟨bb,off,rfl,hc⟩:=HR.out i hln;have hd1:=List.drop_eq_getElem_cons hln;rw [hd1] at HQ;simp only [idx] at HQ;obtain ⟨x,hx⟩:∃ x,nm[i]=x:=⟨_,rfl⟩
   rw [hx] at HQ hc;clear hd1 hx hq hln;by_cases he:x=s
   ·subst he;rw [if_pos rfl] at HQ;go_wp2;go_ret;exact ⟨congrArg (λz=>Ending.returned (Value.int .i64 z)) HQ.out,Below.refl _ _⟩
   ·rw [if_neg he] at HQ;have he3:(s.toList == x.toList)=false:=zEL (λh=>he h.symm);have he4:¬ s.toList=x.toList:=λh=>he (str_eqb.1 h).symm
    clear he;go_wp2;go_roundg (m - (i+1))
    case rel=>exact ⟨i+1,by simp,rfl,hlt,HQ,rfl⟩
    case measure=>omega
  ·have hli:¬ (i:Int)<(m:Int):=by omega
   have HQ2:Hid (-1=q):=by
    have hie:i=nm.length:=by have:=HM.out;omega
    rw [hie,List.drop_length] at HQ;exact HQ
   clear HQ hq;go_wp2;go_ret;exact ⟨congrArg (λz=>Ending.returned (Value.int .i64 z)) HQ2.out,Below.refl _ _⟩
abbrev zCS (own:Int) (av:Option Addr) (m cap:Nat):Value:=.agg #[.int .i64 own,.slice av m cap]
theorem zCf (own:Int) (nm:List ByteArray) (s:ByteArray) (av:Option Addr) (m cap:Nat) (w:World) (hm:m=nm.length) (hl:nm.length<=16) (hR:RdS w av nm):CR 78 #[zCS own av m cap,.string s] w (.int .i64 (shN own nm s)):=by
 have hb:=zAM (Below.refl _ w) (.cells #[.int .i64 own,.slice av m cap] 60);have p:=AtL.new0 w 60 [.int .i64 own,.slice av m cap];have c0:=p.2.1 0 _ rfl;have c1:=p.2.1 1 _ rfl;have IX:=λ(w2:World) (h:RdS w2 av nm)=>zJE s nm av m cap w2 hm hl h
 have hR2:=hR.below hb;clear p hm hl hR;unfold shN;by_cases he:s=⟨#[]⟩
 ·subst he;rw [if_pos rfl];clear IX hR2;go_enter func78,ntmps78;go_upto_region 1 with fail
  generalize (w.alloc (.cells [.int .i64 own,.slice av m cap].toArray 60))=W at *;go_wp2;go_ret;exact ⟨rfl,hb⟩
 ·rw [if_neg he];have he3:s.toList.isEmpty=false:=zKo he;have he4:¬ s.toList=[]:=λh=>by rw [h] at he3;cases he3
  go_enter func78,ntmps78;go_upto_region 1 with fail
  generalize (w.alloc (.cells [.int .i64 own,.slice av m cap].toArray 60))=W at *;go_wp2_with fail
  refine (IX _ hR2).mono ?_;rintro e w1 ⟨rfl,hb1⟩;have hB:=zAB hb hb1;go_wp2;go_ret;exact ⟨rfl,hB⟩
def RdQ (w:World) (av:Option Addr) (L:List (Wt.Nd × Value)):Prop:=∀ i (h:i<L.length),∃ bb off,av=some ⟨bb,off,none⟩/\w.rangeAt bb (off+i * 21) (zAN (L[i]).1 (L[i]).2)
theorem RdQ.below {L:List (Wt.Nd × Value)} (h:RdQ w av L) (hb:Below w.heap.size w w'):RdQ w' av L:=λi hi=>by
 obtain ⟨bb,off,e,hr⟩:=h i hi;exact ⟨bb,off,e,zAF hb hr⟩
theorem RdT.q {lo hi:Nat} {ps:List (Tr n × Value)} (h:RdT n lo hi w av ps):RdQ w av (ps.map λp=>(hd n p.1,p.2)):=λi hi'=>by
 obtain ⟨bb,off,_,_,e,hr⟩:=h i (by simpa using hi');exact ⟨bb,off,e,by simpa using hr⟩
theorem zBY (x:Wt.Nd) (sl:Value) (w:World):CR 26 #[.agg (zAN x sl).toArray] w (.bool (isA x)):=by
 have hb:=zAM (Below.refl _ w) (.cells (zAN x sl).toArray 64);have p:=AtL.new0 w 64 (zAN x sl);have c0:(w.alloc (.cells (zAN x sl).toArray 64)).cell? ⟨w.heap.size,0,none⟩=some (.int .i64 x.k):=p.2.1 0 _ rfl;clear p;go_enter func26,ntmps26;go_upto_region 1 with fail
 generalize (w.alloc (.cells (zAN x sl).toArray 64))=W at *;go_wp2;go_ret;exact ⟨rfl,hb⟩
theorem zGV (L:List (Wt.Nd × Value)) (av:Option Addr) (m cap:Nat) (w:World) (hm:m=L.length) (hl:L.length<=30) (hR:RdQ w av L):Calls prog 115 #[.slice av m cap,.func (.func 26) #[] #[]] w λe w'=>(∃ v:Int,e=.returned (.int .i64 v)/\decide (0<=v)=L.any (λp=>isA p.1))/\Below w.heap.size w w':=by
 have eg:∀ args w,(callFunc 26 args).run prog w=.ok (.enter 26 args) w:=λ_ _=>by kernel_rfl
 generalize hq:L.any (λp=>isA p.1)=q;have HM:Hid (m=L.length/\L.length<=30):=⟨hm,hl⟩
 have HR:Hid (RdQ w av L):=hR;clear hm hl hR;go_enter func115,ntmps115;go_wp2_with fail
 go_loopg [5,8] m (λgk u x wr=>∃ i:Nat,x=.int .i64 (i:Int)/\gk=m - i/\i<=m/\Hid ((L.drop i).any (λp=>isA p.1)=q)/\Hid (Below w.heap.size w wr))
 case atStart=>exact ⟨0,rfl,rfl,Nat.zero_le _,(by rw [List.drop_zero];exact hq:_=_),Below.refl _ _⟩
 case round =>
  obtain ⟨i,rfl,hg,hi,HQ,HB⟩:=hrel;by_cases hlt:i<m
  ·have hli:(i:Int)<(m:Int):=by omega
   have hiz:(0:Int)<=(i:Int):=by omega
   have hwi:IntKind.i64.wrap ((i:Int)+1)=(i:Int)+1:=by have:=HM.out;rw [IntKind.wrap_i64];omega
   have hln:i<L.length:=by have:=HM.out;omega
   obtain ⟨bb,off,rfl,hr⟩:=(HR.out.below HB.out) i hln;have hd1:=List.drop_eq_getElem_cons hln;rw [hd1,List.any_cons] at HQ;obtain ⟨x,hx⟩:∃ x,L[i]=x:=⟨_,rfl⟩
   rw [hx] at HQ hr;obtain ⟨x,sl⟩:=x;simp only at HQ hr;have IA:=λw=>zBY x sl w
   clear hd1 hx hq hln;cases hb:isA x with
   | true =>
    rw [hb] at IA;rw [hb,Bool.true_or] at HQ;go_wp2_with (first | (refine zAA (by rfl) 64 (.tmp 14) rfl bb (off+i * 21) rfl (zAN x sl) _ hr underlying64 rfl (by kernel_rfl) ?_) | (go_at_call 26;refine (IA _).mono ?_;rintro e w1 ⟨rfl,hb1⟩))
    go_ret;exact ⟨⟨_,rfl,by rw [<-HQ.out];simp⟩,zAB HB.out hb1⟩
   | false =>
    rw [hb] at IA;rw [hb,Bool.false_or] at HQ;go_wp2_with (first | (refine zAA (by rfl) 64 (.tmp 14) rfl bb (off+i * 21) rfl (zAN x sl) _ hr underlying64 rfl (by kernel_rfl) ?_) | (go_at_call 26;refine (IA _).mono ?_;rintro e w1 ⟨rfl,hb1⟩))
    have HB1:Hid (Below w.heap.size w w1):=zAB HB.out hb1;clear hb1 HB;go_roundg (m - (i+1))
    case rel=>exact ⟨i+1,by simp,rfl,hlt,HQ,HB1⟩
    case measure=>omega
  ·have hli:¬ (i:Int)<(m:Int):=by omega
   have HQ2:Hid (false=q):=by
    have hie:i=L.length:=by have:=HM.out;omega
    rw [hie,List.drop_length] at HQ;exact HQ
   clear HQ hq;go_wp2;go_ret;exact ⟨⟨_,rfl,by rw [<-HQ2.out];simp⟩,HB.out⟩
theorem zDe (L:List (Wt.Nd × Value)) (av:Option Addr) (m cap:Nat) (w:World) (hm:m=L.length) (hl:L.length<=30) (hR:RdQ w av L):CR 79 #[.slice av m cap,.func (.func 26) #[] #[]] w (.bool (L.any (λp=>isA p.1))):=by
 have IX:=zGV L av m cap w hm hl hR;clear hm hl hR;generalize L.any (λp=>isA p.1)=q at *;go_enter func79,ntmps79;go_wp2_with fail
 refine IX.mono ?_;rintro e w1 ⟨⟨v,rfl,hv⟩,hb1⟩;have H:Hid (decide (0<=v)=q):=hv;clear hv;go_wp2;go_ret;exact ⟨by rw [<-H.out];rfl,hb1⟩
theorem zIR (s:ByteArray):zA1 s<=63:=List.findIdx_le_length
theorem zKG {i:Nat} (h:i<63) (hn:∀ j,j<i->¬ (⟨(fnN.getD j []).toArray⟩:ByteArray)=s) (he:(⟨(fnN.getD i []).toArray⟩:ByteArray)=s):zA1 s=i:=by
 have hl:i<fnN.length:=h;unfold zA1;rw [List.findIdx_eq hl];refine ⟨?_,λj hj=>?_⟩
 ·rw [List.getD_eq_getElem?_getD,List.getElem?_eq_getElem hl] at he;simpa using he
 ·have:=hn j hj;have hlj:j<fnN.length:=Nat.lt_trans hj hl;rw [List.getD_eq_getElem?_getD,List.getElem?_eq_getElem hlj] at this;simpa using this
theorem zJI (hn:∀ j,j<63->¬ (⟨(fnN.getD j []).toArray⟩:ByteArray)=s):zA1 s=63:=by
 have hl:fnN.length=63:=rfl;unfold zA1;rw [<-hl,List.findIdx_eq_length];intro x hx;obtain ⟨j,hj,rfl⟩:=List.getElem_of_mem hx;have:=hn j hj;rw [List.getD_eq_getElem?_getD,List.getElem?_eq_getElem hj] at this;simpa using this
theorem zC4 (hgd:op.guard=none) (T:TypeId) (s i:Operand) (ho:op.op=.index T s i) (cs:Array Value) (hs:a.eval s=.agg cs) (k:Nat) (hi:a.eval i=.int .i64 (k:Int)) (v:Value) (hr:(Instr.index T (.agg cs) (.int .i64 (k:Int))).run P w=.ok v w)
  (h:wpList P ops Q rest (a.put op.dst v) w):wpList P ops Q (op::rest) a w:=by
 refine wpList_plain hgd λK hK=>?_
 unfold Oper.wp execOp;simp only [ho,hs,hi,Sem.run_bind,Sem.run_pure,Result.andThen_ok,hr];exact hK _ _ h
theorem zNd (w:World):∀ i:Nat,i<63->(Instr.index 178 (.agg nmR.toArray) (.int .i64 (i:Int))).run prog w=.ok (.string ⟨(fnN.getD i []).toArray⟩) w
 | 0,_=>by kernel_rfl
 | 1,_=>by kernel_rfl
 | 2,_=>by kernel_rfl
 | 3,_=>by kernel_rfl
 | 4,_=>by kernel_rfl
 | 5,_=>by kernel_rfl
 | 6,_=>by kernel_rfl
 | 7,_=>by kernel_rfl
 | 8,_=>by kernel_rfl
 | 9,_=>by kernel_rfl
 | 10,_=>by kernel_rfl
 | 11,_=>by kernel_rfl
 | 12,_=>by kernel_rfl
 | 13,_=>by kernel_rfl
 | 14,_=>by kernel_rfl
 | 15,_=>by kernel_rfl
 | 16,_=>by kernel_rfl
 | 17,_=>by kernel_rfl
 | 18,_=>by kernel_rfl
 | 19,_=>by kernel_rfl
 | 20,_=>by kernel_rfl
 | 21,_=>by kernel_rfl
 | 22,_=>by kernel_rfl
 | 23,_=>by kernel_rfl
 | 24,_=>by kernel_rfl
 | 25,_=>by kernel_rfl
 | 26,_=>by kernel_rfl
 | 27,_=>by kernel_rfl
 | 28,_=>by kernel_rfl
 | 29,_=>by kernel_rfl
 | 30,_=>by kernel_rfl
 | 31,_=>by kernel_rfl
 | 32,_=>by kernel_rfl
 | 33,_=>by kernel_rfl
 | 34,_=>by kernel_rfl
 | 35,_=>by kernel_rfl
 | 36,_=>by kernel_rfl
 | 37,_=>by kernel_rfl
 | 38,_=>by kernel_rfl
 | 39,_=>by kernel_rfl
 | 40,_=>by kernel_rfl
 | 41,_=>by kernel_rfl
 | 42,_=>by kernel_rfl
 | 43,_=>by kernel_rfl
 | 44,_=>by kernel_rfl
 | 45,_=>by kernel_rfl
 | 46,_=>by kernel_rfl
 | 47,_=>by kernel_rfl
 | 48,_=>by kernel_rfl
 | 49,_=>by kernel_rfl
 | 50,_=>by kernel_rfl
 | 51,_=>by kernel_rfl
 | 52,_=>by kernel_rfl
 | 53,_=>by kernel_rfl
 | 54,_=>by kernel_rfl
 | 55,_=>by kernel_rfl
 | 56,_=>by kernel_rfl
 | 57,_=>by kernel_rfl
 | 58,_=>by kernel_rfl
 | 59,_=>by kernel_rfl
 | 60,_=>by kernel_rfl
 | 61,_=>by kernel_rfl
 | 62,_=>by kernel_rfl
 | n+63,h=>absurd h (by omega)
theorem zFZ (s:ByteArray) (w:World) (hN:NmAt w):CR 81 #[.string s] w (.tuple #[.agg (zCs (zA1 s:Nat)).toArray,.bool (zAb (zA1 s:Nat))]):=by
 have pZ:=AtL.new0 w 108 (sg6 0 0 ⟨#[]⟩ 0 0 ⟨#[]⟩);have hB:=zAM (Below.refl _ w) (.cells (sg6 0 0 ⟨#[]⟩ 0 0 ⟨#[]⟩).toArray 108);have hN1:=hN.below hB;have HID:Hid (∀ (w:World),NmAt w->CR 118 #[.int .i64 (zA1 s:Nat)] w (.tuple #[.agg (zCs (zA1 s:Nat)).toArray,.bool (zAb (zA1 s:Nat))])):=λw h=>zF9 _ w h
 have h63:zA1 s=63->zAb (zA1 s:Nat)=false/\zCs (zA1 s:Nat)=zero6:=λh=>by rw [h];exact ⟨by kernel_rfl,by kernel_rfl⟩
 have H63:Hid (zA1 s=63->zAb (zA1 s:Nat)=false/\zCs (zA1 s:Nat)=zero6):=h63;have hsg:∃ a b c d e f,zCs (zA1 s:Nat)=sg6 a b c d e f:=by
  unfold zCs;split
  ·exact ⟨_,_,_,_,_,_,rfl⟩
  ·exact ⟨_,_,_,_,_,_,rfl⟩
 obtain ⟨a1,a2,a3,a4,a5,a6,hsg⟩:=hsg;rw [hsg] at HID H63 ⊢;generalize zAb (zA1 s:Nat)=kb at *;clear hsg;clear hN h63;go_enter func81,ntmps81;go_upto_region 1 with fail
 generalize (w.alloc (.cells (sg6 0 0 ⟨#[]⟩ 0 0 ⟨#[]⟩).toArray 108))=W at *;have HN:Hid (NmAt W):=hN1;have HZ:Hid (AtL W w.heap.size (sg6 0 0 ⟨#[]⟩ 0 0 ⟨#[]⟩)):=pZ;have HB:Hid (Below w.heap.size w W):=hB;unfold NmAt at hN1;clear pZ hB;go_wp2_with (first | (refine zAA (by rfl) 178 (.global 0) rfl 0 0 rfl nmR _ hN1 underlying178 rfl (by kernel_rfl) ?_))
 clear hN1;have HRUN:Hid (∀ (w:World) (i:Nat),i<63->(Instr.index 178 (.agg nmR.toArray) (.int .i64 (i:Int))).run prog w=.ok (.string ⟨(fnN.getD i []).toArray⟩) w):=zNd;generalize nmR.toArray=NA at *;go_loopg [4,5,7] 63 (λgk u v x wr=>∃ i:Nat,x=.int .i64 (i:Int)/\gk=63 - i/\i<=63/\Hid (∀ j,j<i->¬ (⟨(fnN.getD j []).toArray⟩:ByteArray)=s)/\W=wr)
 case atStart=>exact ⟨0,rfl,rfl,Nat.zero_le _,(λj hj=>absurd hj (Nat.not_lt_zero _):∀ j,j<0->¬ (⟨(fnN.getD j []).toArray⟩:ByteArray)=s),rfl⟩
 case round =>
  obtain ⟨i,rfl,hg,hi,HQ,rfl⟩:=hrel;by_cases hlt:i<63
  ·have hli:(i:Int)<63:=by omega
   have hiz:(0:Int)<=(i:Int):=by omega
   have hwi:IntKind.i64.wrap ((i:Int)+1)=(i:Int)+1:=by rw [IntKind.wrap_i64];omega
   have hr:=HRUN.out W i hlt;obtain ⟨y,hy⟩:∃ y,(⟨(fnN.getD i []).toArray⟩:ByteArray)=y:=⟨_,rfl⟩
   rw [hy] at hr;by_cases he:y=s
   ·subst he;have e1:zA1 y=i:=zKG hlt HQ.out hy;have BY:=HID.out W HN.out;rw [e1] at BY;clear hy e1 HQ;go_wp2_with (first | (refine zC4 rfl 178 (.tmp 6) (.tmp 7) rfl NA rfl i rfl _ hr ?_))
    refine BY.mono ?_;rintro e w1 ⟨rfl,hb1⟩;obtain ⟨b0,b1,b2,b3,b4,b5,k0,k1,k2,k3,k4,k5⟩:=at6 (AtL.below hb1 HZ.out);have hB1:=zAB HB.out hb1;clear BY;go_wp2;refine bodyPost_ret (v:=.tuple #[.agg (sg6 a1 a2 a3 a4 a5 a6).toArray,.bool kb]) (by simp [results,results81,go_sem,b0,b1,b2,b3,b4,b5]) rfl ⟨rfl,(clB hB1)⟩
   ·have HQ2:Hid (∀ j,j<i+1->¬ (⟨(fnN.getD j []).toArray⟩:ByteArray)=s):=(λj hj=>by
     by_cases e:j=i
     ·subst e;rw [hy];exact he
     ·exact HQ.out j (by omega):∀ j,j<i+1->¬ (⟨(fnN.getD j []).toArray⟩:ByteArray)=s)
    have he3:(y.toList == s.toList)=false:=zEL he;have he4:¬ y.toList=s.toList:=λh=>he (str_eqb.1 h)
    clear hy he HQ;go_wp2_with (first | (refine zC4 rfl 178 (.tmp 6) (.tmp 7) rfl NA rfl i rfl _ hr ?_))
    go_roundg (63 - (i+1))
    case rel=>exact ⟨i+1,by simp,rfl,hlt,HQ2,rfl⟩
    case measure=>omega
  ·have hli:¬ (i:Int)<63:=by omega
   have hi63:i=63:=by omega
   subst hi63;have e1:zA1 s=63:=zJI HQ.out;have HE:=H63.out e1;unfold zero6 at HE;have HE2:Hid (kb=false/\sg6 a1 a2 a3 a4 a5 a6=sg6 0 0 ⟨#[]⟩ 0 0 ⟨#[]⟩):=HE;clear e1 HE;obtain ⟨b0,b1,b2,b3,b4,b5,k0,k1,k2,k3,k4,k5⟩:=at6 HZ.out;have hB1:=HB.out;go_wp2;refine bodyPost_ret (v:=.tuple #[.agg (sg6 0 0 ⟨#[]⟩ 0 0 ⟨#[]⟩).toArray,.bool false]) (by simp [results,results81,go_sem,b0,b1,b2,b3,b4,b5]) rfl ⟨by rw [HE2.out.1,HE2.out.2],(clB hB1)⟩
theorem zIm:allS.all (λs=>decide (((zA1 s.nm:Nat):Int)=s.id) && decide ((zAJ s.id).p=s.p))=true:=by kernel_rfl
theorem zBD {s:Sg} (h:s ∈ allS):((zA1 s.nm:Nat):Int)=s.id/\(zAJ s.id).p=s.p:=by
 have:=List.all_eq_true.1 zIm s h;simpa using this
theorem zMm {a b:ByteArray} (h:zA1 a=zA1 b) (h63:zA1 a<63):a=b:=by
 have hl:fnN.length=63:=by kernel_rfl
 have e1:=List.findIdx_getElem (xs:=fnN) (p:=λl=>decide ((⟨l.toArray⟩:ByteArray)=a)) (w:=by rw [hl];exact h63);have e2:=List.findIdx_getElem (xs:=fnN) (p:=λl=>decide ((⟨l.toArray⟩:ByteArray)=b)) (w:=by rw [hl];show zA1 b<63;omega);have e1:=of_decide_eq_true e1;have e2:=of_decide_eq_true e2;rw [<-e1,<-e2];congr 2
 have h':List.findIdx (λl=>decide ((⟨l.toArray⟩:ByteArray)=a)) fnN=List.findIdx (λl=>decide ((⟨l.toArray⟩:ByteArray)=b)) fnN:=h;simp only [h']
theorem zK0 {nm:ByteArray} (h:zAb (zA1 nm:Nat)=true):∃ s ∈ allS,s.nm=nm:=by
 obtain ⟨s,hs,he⟩:=zLw h;refine ⟨s,hs,?_⟩;have h2:=(zBD hs).1;have h3:zA1 s.nm=zA1 nm:=by omega
 refine zMm h3 ?_;rw [h3];unfold zAb at h;simp at h;exact_mod_cast h.1
theorem zG3 (ALL:∀ w:World,Calls prog 86 #[] w λe w'=>(∃ r B,e=.returned r/\OwnS w' B r allS/\w.heap.size<=B)/\Below w.heap.size w w') (nm:ByteArray) (w:World) :
  Calls prog 54 #[.string nm] w λe w'=>(∃ s:Sg,e=.returned (.tuple #[.agg (sg6 s.id s.c s.nm s.l s.m s.p).toArray,.bool (zAb (zA1 nm:Nat))])/\(zAb (zA1 nm:Nat)=true->s ∈ allS/\s.nm=nm))/\Below w.heap.size w w':=by
 have pZ:=AtL.new0 w 108 (sg6 0 0 ⟨#[]⟩ 0 0 ⟨#[]⟩);have hB:=zAM (Below.refl _ w) (.cells (sg6 0 0 ⟨#[]⟩ 0 0 ⟨#[]⟩).toArray 108);have HALL:Hid (∀ w:World,Calls prog 86 #[] w λe w'=>(∃ r B,e=.returned r/\OwnS w' B r allS/\w.heap.size<=B)/\Below w.heap.size w w'):=ALL;clear ALL;go_enter func54,ntmps54;go_upto_region 1 with fail
 generalize (w.alloc (.cells (sg6 0 0 ⟨#[]⟩ 0 0 ⟨#[]⟩).toArray 108))=W at *;have AL:=HALL.out W;go_wp2_with fail
 refine AL.mono ?_;rintro e w1 ⟨⟨r,B,rfl,own,hWB⟩,hb1⟩;obtain ⟨G,cap,rfl,hBG⟩:=own.shape zDa;have HO:Hid (OwnS w1 B (.slice (some ⟨G,0,none⟩) 49 cap) allS):=own;have pZ1:=AtL.below hb1 pZ;have HZ:Hid (AtL w1 w.heap.size (sg6 0 0 ⟨#[]⟩ 0 0 ⟨#[]⟩)):=pZ1;have HB:Hid (Below w.heap.size w w1):=zAB hB hb1;have HGN:Hid (G ≠ w.heap.size):=by have:=pZ.1;show G ≠ _;omega
 clear AL HALL own pZ pZ1 hB hb1 hBG hWB;go_wp2_with fail
 go_loopg [5] 49 (λgk x wr=>∃ i:Nat,x=.int .i64 i/\gk=49 - i/\i<=49/\w1=wr/\Hid (∀ (j:Nat) (hj:j<allS.length),j<i->(allS[j]).nm ≠ nm))
 case atStart=>exact ⟨0,rfl,rfl,Nat.zero_le _,rfl,(λj hj h=>absurd h (Nat.not_lt_zero _):∀ (j:Nat) (hj:j<allS.length),j<0->(allS[j]).nm ≠ nm)⟩
 case round =>
  obtain ⟨i,rfl,hg,hi,rfl,HP⟩:=hrel;by_cases hlt:i<49
  ·have hli:(i:Int)<49:=by omega
   have hiz:(0:Int)<=(i:Int):=Int.natCast_nonneg _;have hil:i<allS.length:=by rw [zDa];exact hlt
   have hwi:IntKind.i64.wrap ((i:Int)+1)=(i:Int)+1:=by rw [IntKind.wrap_i64];omega
   obtain ⟨s,hs⟩:∃ s,allS[i]=s:=⟨_,rfl⟩
   have e0:=HO.out.cell hil (j:=0) (v:=.int .i64 s.id) (by rw [hs];rfl);have e1:=HO.out.cell hil (j:=1) (v:=.int .i64 s.c) (by rw [hs];rfl);have e2:=HO.out.cell hil (j:=2) (v:=.string s.nm) (by rw [hs];rfl);have e3:=HO.out.cell hil (j:=3) (v:=.int .i64 s.l) (by rw [hs];rfl);have e4:=HO.out.cell hil (j:=4) (v:=.int .i64 s.m) (by rw [hs];rfl);have e5:=HO.out.cell hil (j:=5) (v:=.string s.p) (by rw [hs];rfl);have HS:Hid (s ∈ allS):=by rw [<-hs];exact List.getElem_mem _
   have HSI:Hid (∀ hj:i<allS.length,allS[i]=s):=λ_=>hs
   simp only [Nat.add_zero] at e0;clear hs hil;by_cases hid:s.nm=nm
   ·subst hid;have HKN:Hid (zAb (zA1 s.nm:Nat)=true):=by
     show _=true
     rw [(zBD HS.out).1];exact (zBP HS.out).1
    obtain ⟨b0,b1,b2,b3,b4,b5,k0,k1,k2,k3,k4,k5⟩:=at6 HZ.out;have hth:World.there w1 w.heap.size 0 (sg6 s.id s.c s.nm s.l s.m s.p).toArray.size:=HZ.out.there;have pF:AtL (w1.setCells w.heap.size 0 (sg6 s.id s.c s.nm s.l s.m s.p)) w.heap.size (sg6 s.id s.c s.nm s.l s.m s.p):=HZ.out.setAll rfl;have hBF:Below w.heap.size w (w1.setCells w.heap.size 0 (sg6 s.id s.c s.nm s.l s.m s.p)):=zAv HB.out (Nat.le_refl _) _ 0;obtain ⟨r0,r1,r2,r3,r4,r5,_,_,_,_,_,_⟩:=at6 pF;have HRR:Hid _:=(⟨r0,r1,r2,r3,r4,r5⟩:_/\_/\_/\_/\_/\_)
    have HBF:Hid _:=hBF;clear b0 b1 b2 b3 b4 b5 k0 k1 k2 k3 k4 k5 pF hBF r0 r1 r2 r3 r4 r5;go_wp2_with (first | ((with_reducible refine wpList_store_mid ?_ 108 (.tmp 2) (.tmp 23) ?_ w.heap.size 0 (sg6 s.id s.c s.nm s.l s.m s.p).toArray ?_ ?_ ?_ ?_ ?_ ?_);rfl;rfl;rfl;rfl;exact hth;kernel_rfl;exact zJ5 _ _ _ _ _ _))
    refine bodyPost_ret (v:=.tuple #[.agg (sg6 s.id s.c s.nm s.l s.m s.p).toArray,.bool true]) (by obtain ⟨r0,r1,r2,r3,r4,r5⟩:=HRR.out;simp [results,results54,go_sem,r0,r1,r2,r3,r4,r5]) rfl ⟨⟨s,?_,λ_=>⟨HS.out,rfl⟩⟩,HBF.out⟩;rw [HKN.out]
   ·have HP2:Hid (∀ (j:Nat) (hj:j<allS.length),j<i+1->(allS[j]).nm ≠ nm):=by
     intro j hj hji;by_cases e:j=i
     ·subst e;rw [HSI.out];exact hid
     ·exact HP.out j hj (by omega)
    clear e0 e1 e3 e4 e5;have he3:(s.nm.toList == nm.toList)=false:=zEL hid;go_wp2_with fail
    go_roundg (49 - (i+1))
    case rel=>exact ⟨i+1,by simp,rfl,hlt,rfl,HP2⟩
    case measure=>omega
  ·have hli:¬ (i:Int)<49:=by omega
   have hi49:i=49:=by omega
   subst hi49;have HKN:Hid (zAb (zA1 nm:Nat)=false):=by
    show _=false
    cases hk:zAb (zA1 nm:Nat) with
    | false=>rfl
    | true =>
     obtain ⟨s,hs,he⟩:=zK0 hk;obtain ⟨j,hj,rfl⟩:=List.getElem_of_mem hs;exact absurd he (HP.out j hj (by rw [zDa] at hj;exact hj))
   have hth:World.there w1 w.heap.size 0 (sg6 0 0 ⟨#[]⟩ 0 0 ⟨#[]⟩).toArray.size:=HZ.out.there;have pF:AtL (w1.setCells w.heap.size 0 (sg6 0 0 ⟨#[]⟩ 0 0 ⟨#[]⟩)) w.heap.size (sg6 0 0 ⟨#[]⟩ 0 0 ⟨#[]⟩):=HZ.out.setAll rfl;have hBF:Below w.heap.size w (w1.setCells w.heap.size 0 (sg6 0 0 ⟨#[]⟩ 0 0 ⟨#[]⟩)):=zAv HB.out (Nat.le_refl _) _ 0;obtain ⟨r0,r1,r2,r3,r4,r5,_,_,_,_,_,_⟩:=at6 pF;have HRR:Hid _:=(⟨r0,r1,r2,r3,r4,r5⟩:_/\_/\_/\_/\_/\_)
   have HBF:Hid _:=hBF;clear pF hBF r0 r1 r2 r3 r4 r5;go_wp2_with (first | ((with_reducible refine wpList_store_mid ?_ 108 (.tmp 2) (.tmp 24) ?_ w.heap.size 0 (sg6 0 0 ⟨#[]⟩ 0 0 ⟨#[]⟩).toArray ?_ ?_ ?_ ?_ ?_ ?_);rfl;rfl;rfl;rfl;exact hth;kernel_rfl;exact zJ5 _ _ _ _ _ _))
   refine bodyPost_ret (v:=.tuple #[.agg (sg6 0 0 ⟨#[]⟩ 0 0 ⟨#[]⟩).toArray,.bool false]) (by obtain ⟨r0,r1,r2,r3,r4,r5⟩:=HRR.out;simp [results,results54,go_sem,r0,r1,r2,r3,r4,r5]) rfl ⟨⟨⟨0,0,⟨#[]⟩,0,0,⟨#[]⟩⟩,?_,λh=>?_⟩,HBF.out⟩
   ·rw [HKN.out]
   ·rw [HKN.out] at h;cases h
theorem zBu {P:Program} {ops:Array Oper} {rest:List Oper} {a:Act} {w:World} {Q:Exit->Act->World->Prop} (hgd:op.guard=none) (x y:Operand) (ts:Array TypeId) (ho:op.op=.call {callee:=.builtin .min,args:=#[x,y],argTypes:=ts}) (i j k:Int) (hx:a.eval x=.int .i64 i) (hy:a.eval y=.int .i64 j) (hk:(if j<i then j else i)=k)
  (h:wpList P ops Q rest (a.put op.dst (.int .i64 k)) w):wpList P ops Q (op::rest) a w:=by
 refine wpList_plain hgd λK hK=>?_
 have hr:=run_min_int2 (P:=P) (w:=w) ts op.type .i64 .i64 i j;rw [hk] at hr;unfold Oper.wp execOp;simp only [ho,resolve,invoke,builtin,Sem.run_bind,Sem.run_pure,Result.andThen_ok,List.map_toArray,List.map_cons,List.map_nil,hx,hy,hr];exact hK _ _ h
theorem zBx (hgd:op.guard=none) (T:TypeId) (s i:Operand) (ho:op.op=.index T s i) (b:ByteArray) (hs:a.eval s=.string b) (k:Nat) (hi:a.eval i=.int .i64 (k:Int)) (hu:P.underlying T=some .string) (c:UInt8) (hk:k<b.size) (hc:b[k]=c)
  (h:wpList P ops Q rest (a.put op.dst (.int .u8 (c.toNat:Int))) w):wpList P ops Q (op::rest) a w:=by
 refine wpList_plain hgd λK hK=>?_
 have hr:=run_index_string (P:=P) (w:=w) T b .i64 (k:Int) hu;rw [dif_pos (by omega)] at hr;simp only [Int.toNat_natCast,hc] at hr;unfold Oper.wp execOp;simp only [ho,hs,hi,Sem.run_bind,Sem.run_pure,Result.andThen_ok,hr];exact hK _ _ h
theorem zJ8 {c d:UInt8} (h:¬ c=d):¬ c.toNat=d.toNat:=λe=>h (UInt8.toNat_inj.1 e)
theorem zIq (a1 a2:Int) (a3:ByteArray) (a4 a5:Int) (p:ByteArray) (L:List (Wt.Nd × Value)) (av:Option Addr) (m cap:Nat) (w:World) (hp:0<p.size/\p.size<=10) (hm:m=L.length) (hl:L.length<=30) (hsl:∀ q ∈ L,∃ a b c,q.2=.slice a b c) (hR:RdQ w av L) :
  CR 116 #[.agg (sg6 a1 a2 a3 a4 a5 p).toArray,.slice av m cap] w (.bool (zA0 p.data.toList (L.map (·.1)) 0)):=by
 generalize hq:zA0 p.data.toList (L.map (·.1)) 0=q;have pS:=AtL.new0 w 108 (sg6 a1 a2 a3 a4 a5 p);have hB:=zAM (Below.refl _ w) (.cells (sg6 a1 a2 a3 a4 a5 p).toArray 108);have HM:Hid (m=L.length/\L.length<=30):=⟨hm,hl⟩
 have HSL:Hid (∀ q ∈ L,∃ a b c,q.2=.slice a b c):=hsl;have HR:Hid (RdQ (w.alloc (.cells (sg6 a1 a2 a3 a4 a5 p).toArray 108)) av L):=hR.below hB;have HQ0:Hid (zA0 p.data.toList ((L.drop 0).map (·.1)) 0=q):=hq;have HP:Hid (0<p.size/\p.size<=10):=hp;clear hm hl hsl hR hq hp;go_enter func116,ntmps116;go_upto_region 1 with fail
 generalize (w.alloc (.cells (sg6 a1 a2 a3 a4 a5 p).toArray 108))=W at *;have HS:Hid (AtL W w.heap.size (sg6 a1 a2 a3 a4 a5 p)):=pS;have HB:Hid (Below w.heap.size w W):=hB;clear pS hB;go_wp2_with fail
 go_loopg [5,6,7,10] m (λgk u5 u6 u7 x wr=>∃ i:Nat,x=.int .i64 (i:Int)/\gk=m - i/\i<=m/\Hid (zA0 p.data.toList ((L.drop i).map (·.1)) i=q)/\Hid (Below W.heap.size W wr))
 case atStart=>exact ⟨0,rfl,rfl,Nat.zero_le _,HQ0,Below.refl _ _⟩
 case round =>
  clear HQ0;obtain ⟨i,rfl,hg,hi,HQ,HBr⟩:=hrel;by_cases hlt:i<m
  ·have hli:(i:Int)<(m:Int):=by omega
   have hiz:(0:Int)<=(i:Int):=by omega
   have hwi:IntKind.i64.wrap ((i:Int)+1)=(i:Int)+1:=by have:=HM.out;rw [IntKind.wrap_i64];omega
   have hln:i<L.length:=by have:=HM.out;omega
   obtain ⟨bb,off,rfl,hr⟩:=(HR.out.below HBr.out) i hln;have hd1:=List.drop_eq_getElem_cons hln;have hs1:=HSL.out L[i] (List.getElem_mem hln);rw [hd1,List.map_cons] at HQ;obtain ⟨x,hx⟩:∃ x,L[i]=x:=⟨_,rfl⟩
   rw [hx] at HQ hr hs1;obtain ⟨x,sl⟩:=x;simp only at HQ hr hs1;obtain ⟨sa,sb,sc,rfl⟩:=hs1;have IA:=λw=>zBY x (.slice sa sb sc) w
   clear hd1 hx hln;obtain ⟨k,hk⟩:∃ k,min i (p.data.toList.length - 1)=k:=⟨_,rfl⟩
   have hps:p.data.toList.length=p.size:=by show p.data.toList.length=p.data.size;exact Array.length_toList
   have hkp:k<p.size:=by have:=HP.out;omega
   have hmn:min (i:Int) ((p.size:Int) - 1)=(k:Int):=by have:=HP.out;omega
   obtain ⟨c,hc⟩:∃ c,p[k]=c:=⟨_,rfl⟩
   have hlp:p.data.toList.getD k 0=c:=by
    rw [<-hc];rw [List.getD_eq_getElem?_getD,List.getElem?_eq_getElem (by rw [hps];exact hkp)];rfl
   simp only [zA0,hk,hlp] at HQ;have hsb:IntKind.i64.wrap ((p.size:Int) - 1)=(p.size:Int) - 1:=by have:=HP.out;rw [IntKind.wrap_i64];omega
   have HMN:Hid ((if (p.size:Int) - 1<(i:Int) then (p.size:Int) - 1 else (i:Int))=(k:Int)):=by show _=_;have:=HP.out;split <;> omega
   have HKC:Hid (k<p.size/\∀ h:k<p.size,p[k]=c):=⟨hkp,λ_=>hc⟩
   clear hk hps hlp hmn hc hkp;have hth:World.there (wr.alloc (.cells zeros21 64)) wr.heap.size 0 (zAN x (.slice sa sb sc)).toArray.size:=(AtL.new0 wr _ _:AtL (wr.alloc (.cells zeros21 64)) wr.heap.size zeros21.toList).there;have HPI:Hid (AtL ((wr.alloc (.cells zeros21 64)).setCells wr.heap.size 0 (zAN x (.slice sa sb sc))) wr.heap.size (zAN x (.slice sa sb sc))):=(AtL.new0 wr _ _:AtL (wr.alloc (.cells zeros21 64)) wr.heap.size zeros21.toList).setAll rfl;have HHB:Hid (Below wr.heap.size wr ((wr.alloc (.cells zeros21 64)).setCells wr.heap.size 0 (zAN x (.slice sa sb sc)))):=zAv (zAM (Below.refl _ wr) _) (Nat.le_refl _) _ 0;go_upto_region 4 with (first | (refine zAA (by rfl) 64 (.tmp 13) rfl bb (off+i * 21) rfl (zAN x (.slice sa sb sc)) _ hr underlying64 rfl (by kernel_rfl) ?_) | ((with_reducible refine wpList_store_mid ?_ 64 (.tmp 6) (.tmp 14) ?_ wr.heap.size 0 (zAN x (.slice sa sb sc)).toArray ?_ ?_ ?_ ?_ ?_ ?_);rfl;rfl;rfl;rfl;exact hth;kernel_rfl;exact zAk _ _ _ _))
   have HB2:Hid (Below W.heap.size W ((wr.alloc (.cells zeros21 64)).setCells wr.heap.size 0 (zAN x (.slice sa sb sc)))):=zAB HBr.out HHB.out;clear hth hr HHB HBr;generalize ((wr.alloc (.cells zeros21 64)).setCells wr.heap.size 0 (zAN x (.slice sa sb sc)))=W2 at *;obtain ⟨ib,hib⟩:∃ k,wr.heap.size=k:=⟨_,rfl⟩
   rw [hib] at HPI;simp only [hib];clear hib;have rI:=HPI.out.range;have s5:=(AtL.below HB2.out HS.out).2.1 5 _ rfl;go_upto_region 5 with (first | (refine zBu rfl (.tmp 17) (.tmp 21) _ rfl (i:Int) ((p.size:Int) - 1) (k:Int) rfl rfl HMN.out ?_) | (refine zBx rfl 9 (.tmp 16) (.tmp 22) rfl p rfl k rfl (by kernel_rfl) c HKC.out.1 (HKC.out.2 _) ?_))
   clear s5;by_cases h97:c=97
   ·subst h97;cases hb:isA x with
    | true =>
     rw [hb] at IA;simp only [hb,show ((97:UInt8) == 97)=true from rfl,show ((97:UInt8) == 118)=false from rfl,Bool.not_true,Bool.and_false,Bool.false_and,Bool.or_self,Bool.false_eq_true,if_false] at HQ;go_wp2_with (first | (refine zAA (by rfl) 64 (.tmp 6) rfl ib 0 rfl (zAN x (.slice sa sb sc)) _ rI underlying64 rfl (by kernel_rfl) ?_) | (go_at_call 26;refine (IA _).mono ?_;rintro e w1 ⟨rfl,hb1⟩))
     have HB3:Hid (Below W.heap.size W w1):=zAB HB2.out hb1;clear hb1 HB2;go_roundg (m - (i+1))
     case rel=>exact ⟨i+1,by simp,rfl,hlt,HQ,HB3⟩
     case measure=>omega
    | false =>
     rw [hb] at IA;simp only [hb,show ((97:UInt8) == 97)=true from rfl,Bool.not_false,Bool.and_self,Bool.true_or,if_true] at HQ;go_wp2_with (first | (refine zAA (by rfl) 64 (.tmp 6) rfl ib 0 rfl (zAN x (.slice sa sb sc)) _ rI underlying64 rfl (by kernel_rfl) ?_) | (go_at_call 26;refine (IA _).mono ?_;rintro e w1 ⟨rfl,hb1⟩))
     go_ret;exact ⟨congrArg (λz=>Ending.returned (Value.bool z)) HQ.out,zAB HB.out (zAB HB2.out hb1)⟩
   ·have m97:¬ c.toNat=97:=zJ8 (d:=97) h97;have b97:(c == 97)=false:=by simpa using h97
    have n97:¬ (c.toNat:Int)=97:=by omega
    by_cases h118:c=118
    ·subst h118;cases hb:isA x with
     | true =>
      rw [hb] at IA;simp only [hb,b97,show ((118:UInt8) == 118)=true from rfl,Bool.false_and,Bool.and_self,Bool.false_or,if_true] at HQ;go_wp2_with (first | (refine zAA (by rfl) 64 (.tmp 6) rfl ib 0 rfl (zAN x (.slice sa sb sc)) _ rI underlying64 rfl (by kernel_rfl) ?_) | (go_at_call 26;refine (IA _).mono ?_;rintro e w1 ⟨rfl,hb1⟩))
      go_ret;exact ⟨congrArg (λz=>Ending.returned (Value.bool z)) HQ.out,zAB HB.out (zAB HB2.out hb1)⟩
     | false =>
      rw [hb] at IA;simp only [hb,b97,Bool.false_and,Bool.and_false,Bool.or_self,Bool.false_eq_true,if_false] at HQ;go_wp2_with (first | (refine zAA (by rfl) 64 (.tmp 6) rfl ib 0 rfl (zAN x (.slice sa sb sc)) _ rI underlying64 rfl (by kernel_rfl) ?_) | (go_at_call 26;refine (IA _).mono ?_;rintro e w1 ⟨rfl,hb1⟩))
      have HB3:Hid (Below W.heap.size W w1):=zAB HB2.out hb1;clear hb1 HB2;go_roundg (m - (i+1))
      case rel=>exact ⟨i+1,by simp,rfl,hlt,HQ,HB3⟩
      case measure=>omega
    ·have m118:¬ c.toNat=118:=zJ8 (d:=118) h118;have b118:(c == 118)=false:=by simpa using h118
     have n118:¬ (c.toNat:Int)=118:=by omega
     simp only [b97,b118,Bool.false_and,Bool.or_self,Bool.false_eq_true,if_false] at HQ;clear IA h97 h118 b97 b118;go_wp2_with fail
     go_roundg (m - (i+1))
     case rel=>exact ⟨i+1,by simp,rfl,hlt,HQ,HB2⟩
     case measure=>omega
  ·have hli:¬ (i:Int)<(m:Int):=by omega
   have HQ2:Hid (true=q):=by
    have hie:i=L.length:=by have:=HM.out;omega
    rw [hie,List.drop_length] at HQ;exact HQ
   clear HQ;go_wp2;go_ret;exact ⟨congrArg (λz=>Ending.returned (Value.bool z)) HQ2.out,zAB HB.out HBr.out⟩
def ltP (p:ByteArray) (i:Nat):UInt8:=p.data.toList.getD (min i (p.data.toList.length - 1)) 0
theorem zEl (a1 a2:Int) (a3:ByteArray) (a4 a5:Int) (p:ByteArray) (i:Nat) (w:World) (hp:0<p.size/\p.size<=10) :
  CR 55 #[.agg (sg6 a1 a2 a3 a4 a5 p).toArray,.int .i64 (i:Int)] w (.int .u8 ((ltP p i).toNat:Int)):=by
 have pS:=AtL.new0 w 108 (sg6 a1 a2 a3 a4 a5 p);have hB:=zAM (Below.refl _ w) (.cells (sg6 a1 a2 a3 a4 a5 p).toArray 108);have c5:=pS.2.1 5 (.string p) rfl;obtain ⟨k,hk⟩:∃ k,min i (p.data.toList.length - 1)=k:=⟨_,rfl⟩
 have hps:p.data.toList.length=p.size:=by show p.data.toList.length=p.data.size;exact Array.length_toList
 have hkp:k<p.size:=by omega
 obtain ⟨c,hc⟩:∃ c,p[k]=c:=⟨_,rfl⟩
 have hlp:ltP p i=c:=by
  unfold ltP;rw [hk,<-hc,List.getD_eq_getElem?_getD,List.getElem?_eq_getElem (by rw [hps];exact hkp)];rfl
 rw [hlp];have HKC:Hid (k<p.size/\∀ h:k<p.size,p[k]=c):=⟨hkp,λ_=>hc⟩
 have hsb:IntKind.i64.wrap ((p.size:Int) - 1)=(p.size:Int) - 1:=by rw [IntKind.wrap_i64];omega
 have hge:(i:Int) ≥ (p.size:Int)/\(p.size:Int) - 1=(k:Int) \/ ¬ (i:Int) ≥ (p.size:Int)/\i=k:=by omega
 clear pS hk hps hlp hc hkp;rcases hge with ⟨h1,h2⟩ | ⟨h1,rfl⟩
 ·rw [h2] at hsb;go_enter func55,ntmps55;go_upto_region 1 with fail
  generalize (w.alloc (.cells (sg6 a1 a2 a3 a4 a5 p).toArray 108))=W at *;go_wp2_with (first | (refine zBx rfl 9 (.tmp 15) (.tmp 16) rfl p rfl k rfl rfl c HKC.out.1 (HKC.out.2 _) ?_))
  go_ret;exact ⟨rfl,hB⟩
 ·go_enter func55,ntmps55;go_upto_region 1 with fail
  generalize (w.alloc (.cells (sg6 a1 a2 a3 a4 a5 p).toArray 108))=W at *;go_wp2_with (first | (refine zBx rfl 9 (.tmp 15) (.tmp 16) rfl p rfl i rfl rfl c HKC.out.1 (HKC.out.2 _) ?_))
  go_ret;exact ⟨rfl,hB⟩
def prs (id args:Int):Int × Int:=if id=22/\args=3 then (0,2) else if id=23 then (1,2) else if id=24 then (0,1) else (-1,-1)
theorem zGu (id args:Int) (w:World):Calls prog 56 #[.int .i64 id,.int .i64 args] w λe w'=>e=.returned (.tuple #[.int .i64 (prs id args).1,.int .i64 (prs id args).2])/\w=w':=by
 unfold prs;by_cases h22:id=22
 ·subst h22;by_cases h3:args=3
  ·subst h3;go_enter func56,ntmps56;go_wp2;refine bodyPost_ret (v:=.tuple #[.int .i64 0,.int .i64 2]) (by simp [results,results56,go_sem]) rfl ⟨rfl,rfl⟩
  ·rw [if_neg (by omega),if_neg (by omega),if_neg (by omega)];go_enter func56,ntmps56;go_wp2;refine bodyPost_ret (v:=.tuple #[.int .i64 (-1),.int .i64 (-1)]) (by simp [results,results56,go_sem]) rfl ⟨rfl,rfl⟩
 rw [if_neg (by omega)];by_cases h23:id=23
 ·subst h23;go_enter func56,ntmps56;go_wp2;refine bodyPost_ret (v:=.tuple #[.int .i64 1,.int .i64 2]) (by simp [results,results56,go_sem]) rfl ⟨rfl,rfl⟩
 rw [if_neg h23];by_cases h24:id=24
 ·subst h24;go_enter func56,ntmps56;go_wp2;refine bodyPost_ret (v:=.tuple #[.int .i64 0,.int .i64 1]) (by simp [results,results56,go_sem]) rfl ⟨rfl,rfl⟩
 rw [if_neg h24];go_enter func56,ntmps56;go_wp2;refine bodyPost_ret (v:=.tuple #[.int .i64 (-1),.int .i64 (-1)]) (by simp [results,results56,go_sem]) rfl ⟨rfl,rfl⟩
open Go.RowKit
theorem zDz (av:Option Addr) (cap:Nat) (L:List Wt.Nd) (w:World) (hL:L.length<=9223372036854775807) (hF:∀ x ∈ L,Wt.FitN x) (hO:OpsAt w) (hr:RdN w av L) :
  CR 21 #[.slice av L.length cap] w (.int .i64 (Wt.check L)):=by
 unfold Wt.check;by_cases h:256<L.length
 ·rw [if_pos h];have hi:(256:Int)<(L.length:Int):=by omega
  go_enter func21,ntmps21;go_wp2;go_ret;exact ⟨rfl,Below.refl _ _⟩
 rw [if_neg h];have hi:¬ (256:Int)<(L.length:Int):=by omega
 have M:=zLY av cap L (by omega) hF (L.length+1) (by omega) 0 w (by omega) (by omega) hO hr;rw [List.drop_zero] at M;have h1:=zEO (L.length+1) L;cases hone:Wt.one (L.length+1) L with
 | none =>
  rw [hone] at M;clear h1;go_enter func21,ntmps21;go_wp2_with fail
  refine M.mono ?_;rintro e w1 ⟨rfl,hb⟩;simp only [MP];go_wp2;go_ret;exact ⟨rfl,hb⟩
 | some q =>
  obtain ⟨s,d⟩:=q;rw [hone] at M;have h2:=zBO _ _ _ _ hone;replace h1:=h1 s d hone
  simp only [MP,Nat.zero_add] at M;simp only;by_cases hs:s=L.length
  ·rw [if_neg (by omega)];have hsi:((s:Int) == (L.length:Int))=true:=by rw [beq_iff_eq];omega
   have hsi2:(s:Int)=(L.length:Int):=by omega
   by_cases hd:32<d
   ·rw [if_pos hd];have hdi:(32:Int)<(d:Int):=by omega
    go_enter func21,ntmps21;go_wp2_with fail
    refine M.mono ?_;rintro e w1 ⟨rfl,hb⟩;go_wp2;go_ret;exact ⟨rfl,hb⟩
   ·rw [if_neg hd];have hdi:¬ (32:Int)<(d:Int):=by omega
    go_enter func21,ntmps21;go_wp2_with fail
    refine M.mono ?_;rintro e w1 ⟨rfl,hb⟩;go_wp2;go_ret;exact ⟨rfl,hb⟩
  ·rw [if_pos hs];have hsi:((s:Int) == (L.length:Int))=false:=by rw [beq_eq_false_iff_ne];omega
   have hsi2:¬ (s:Int)=(L.length:Int):=by omega
   go_enter func21,ntmps21;go_wp2_with fail
   refine M.mono ?_;rintro e w1 ⟨rfl,hb⟩;go_wp2;go_ret;exact ⟨rfl,hb⟩
def zBl (f:Nat):Nat->Nat->List Wt.Nd->List Nat
 | 0,_,_=>[]
 | k+1,p,l=>p::(match Wt.one f l with | some (s,_)=>zBl f k (p+s) (l.drop s) | none=>[])
def zBa (L:List Wt.Nd) (i:Nat):List Nat:=match L.drop i with
 | []=>[]
 | x::r=>zBl (L.length+1) (Wt.parts x).toNat (i+1) r
def zMj (ks:List Nat):List Value:=ks.map λ(k:Nat)=>.int .i64 (k:Int)
def x5_OwnI (w:World) (B:Nat) (v:Value) (ks:List Nat):Prop:=w.ownsRow B 3 1 v ks.length (zMj ks)
theorem x5_OwnI.below {B:Nat} {v:Value} {ks:List Nat} (h:x5_OwnI w B v ks) (hb:Below w.heap.size w w'):x5_OwnI w' B v ks :=
 World.ownsRow.kept h (row:=none) ⟨hb.os,hb.tape,hb.output,hb.size,λk hk _=>hb.block k hk⟩ (by cases v.ownBlock <;> simp)
end Go.Proofs.YtefkclbaflkheaaGreatDoor
namespace Go.Proofs.YtefkclbaflkheaaGreatDoor.Wf
open Go.Proofs.YtefkclbaflkheaaGreatDoor
def kp (n:Nat):Nat->List (Tr n)->List Nat
 | _,[]=>[]
 | p,k::r=>p::kp n (p+(row n k).length) r
def rows (n:Nat) (ks:List (Tr n)):List Wt.Nd:=(ks.map (row n)).flatten
theorem zBZ (n:Nat) (k:Tr n) (ks:List (Tr n)) (r:List Wt.Nd):rows n (k::ks)++r=row n k++(rows n ks++r):=by simp [rows]
theorem zGC (n:Nat) (k:Tr n) (ks:List (Tr n)):(rows n (k::ks)).length=(row n k).length+(rows n ks).length:=by simp [rows]
theorem zF6 {n:Nat} (ih:∀ t,zAz n t->∀ r,∃ d,Wt.one n (row n t++r)=some ((row n t).length,d)) :
  ∀ (ks:List (Tr n)),(∀ k ∈ ks,zAz n k)->∀ r,∃ d,Wt.many (Wt.one n) ks.length (rows n ks++r)=some ((rows n ks).length,d)
 | [],_,r=>⟨0,rfl⟩
 | k::ks,h,r=>by
  obtain ⟨d1,e1⟩:=ih k (h k (List.mem_cons_self ..)) (rows n ks++r);obtain ⟨d2,e2⟩:=zF6 ih ks (λx hx=>h x (List.mem_cons_of_mem _ hx)) r;refine ⟨max d1 d2,?_⟩;rw [zBZ,zGC];simp only [List.length_cons,Wt.many,e1,List.drop_left,e2]
theorem zHZ:∀ (n:Nat) (t:Tr n),zAz n t->∀ r,∃ d,Wt.one n (row n t++r)=some ((row n t).length,d)
 | 0,t,_,_=>Empty.elim t
 | n+1,t,h,r=>by
  obtain ⟨h1,h2,h3⟩:=h;obtain ⟨d,e⟩:=zF6 (zHZ n) (Br.ks t) h3 r;refine ⟨d+1,?_⟩;have hp:(Wt.parts (Br.x t)).toNat=(Br.ks t).length:=by rw [h2];simp
  show Wt.one (n+1) (Br.x t::(rows n (Br.ks t)++r))=some ((rows n (Br.ks t)).length+1,d+1)
  unfold Wt.one;rw [if_pos h1,hp,e]
theorem zDs {n F:Nat} (hF:n<=F):∀ (ks:List (Tr n)) (p:Nat) (r:List Wt.Nd),(∀ k ∈ ks,zAz n k)->zBl F ks.length p (rows n ks++r)=kp n p ks
 | [],p,r,_=>rfl
 | k::ks,p,r,h=>by
  obtain ⟨d,e⟩:=zHZ n k (h k (List.mem_cons_self ..)) (rows n ks++r);have e2:Wt.one F (row n k++(rows n ks++r))=some ((row n k).length,d):=zFk e (Nat.le_trans (zBO _ _ _ _ e) hF) rfl;rw [zBZ];simp only [List.length_cons,zBl,e2,List.drop_left,kp];rw [zDs hF ks _ r (λx hx=>h x (List.mem_cons_of_mem _ hx))]
theorem zDj (n:Nat):∀ (ks:List (Tr n)) (p:Nat),(kp n p ks).length=ks.length
 | [],_=>rfl
 | k::ks,p=>by simp [kp,zDj n ks]
def Sub (L:List Wt.Nd) (i n:Nat) (t:Tr n):Prop:=∃ r,L.drop i=row n t++r
theorem Sub.kids {L:List Wt.Nd} {i n:Nat} {t:Tr (n+1)} (h:Sub L i (n+1) t) (hf:zAz (n+1) t) (hn:n<=L.length+1):zBa L i=kp n (i+1) (Br.ks t):=by
 obtain ⟨r,e⟩:=h;have e:L.drop i=Br.x t::(rows n (Br.ks t)++r):=e;have hp:(Wt.parts (Br.x t)).toNat=(Br.ks t).length:=by rw [hf.2.1];simp
 unfold zBa;rw [e];show zBl (L.length+1) (Wt.parts (Br.x t)).toNat (i+1) _=_
 rw [hp,zDs hn _ _ _ hf.2.2]
theorem Sub.hd {L:List Wt.Nd}:∀ {i n:Nat} {t:Tr n},Sub L i n t->L[i]? = some (hd n t)
 | i,0,t,_=>Empty.elim t
 | i,n+1,t,h=>by
  obtain ⟨r,e⟩:=h;have e2:(L.drop i)[0]? = some (Br.x t):=by rw [e];rfl
  rw [List.getElem?_drop] at e2;exact e2
theorem zLo {L:List Wt.Nd} {n:Nat}:∀ (ks:List (Tr n)) (p:Nat) (r:List Wt.Nd),L.drop p=rows n ks++r->∀ j (hj:j<ks.length) (hj':j<(kp n p ks).length),p<=(kp n p ks)[j]/\Sub L (kp n p ks)[j] n ks[j]
 | k::ks,p,r,h,0,_,_=>⟨Nat.le_refl _,rows n ks++r,by rw [<-zBZ];exact h⟩
 | k::ks,p,r,h,j+1,hj,hj'=>by
  have h2:L.drop (p+(row n k).length)=rows n ks++r:=by
   rw [<-List.drop_drop,h,zBZ,List.drop_left]
  obtain ⟨a,b⟩:=zLo ks _ r h2 j (by simpa using hj) (by simpa [kp] using hj');exact ⟨Nat.le_trans (Nat.le_add_right _ _) a,b⟩
theorem Sub.kid {L:List Wt.Nd} {i n:Nat} {t:Tr (n+1)} (h:Sub L i (n+1) t) {j:Nat} (hj:j<(Br.ks t).length) (hj':j<(kp n (i+1) (Br.ks t)).length):i+1<=(kp n (i+1) (Br.ks t))[j]/\Sub L (kp n (i+1) (Br.ks t))[j] n (Br.ks t)[j]:=by
 obtain ⟨r,e⟩:=h;have e2:L.drop (i+1)=rows n (Br.ks t)++r:=by
  rw [<-List.drop_drop,e];rfl
 exact zLo _ _ r e2 j hj hj'
def zn:Wt.Nd:=⟨0,Wt.v0,0,⟨#[]⟩,0,Wt.r0,Wt.r0⟩
theorem Sub.getD {L:List Wt.Nd} {i n:Nat} {t:Tr n} (h:Sub L i n t):L.getD i zn=Wf.hd n t:=by
 rw [List.getD_eq_getElem?_getD,h.hd];rfl
def kidN (L:List Wt.Nd) (i:Nat):List Wt.Nd:=(zBa L i).map λq=>L.getD q zn
theorem Sub.kidN {L:List Wt.Nd} {i n:Nat} {t:Tr (n+1)} (h:Sub L i (n+1) t) (hf:zAz (n+1) t) (hn:n<=L.length+1):kidN L i=(Br.ks t).map (Wf.hd n):=by
 unfold Wf.kidN;rw [h.kids hf hn];refine List.ext_getElem (by simp [zDj]) λj h1 h2=>?_
 have hj:j<(Br.ks t).length:=by simpa using h2
 have hj':j<(kp n (i+1) (Br.ks t)).length:=by simpa using h1
 rw [List.getElem_map,List.getElem_map];exact (h.kid hj hj').2.getD
section
variable (own:Int) (nm:List ByteArray)
def wrN (L:List Wt.Nd) (i:Nat):Int :=
 if zB2 own nm (L.getD i zn) (kidN L i) ≠ 0 then zB2 own nm (L.getD i zn) (kidN L i) else if (L.getD i zn).k=3/\i=0 then 82 else 0
theorem zGM:∀ a b:List Int,zBz (a++b)=if zBz a=0 then zBz b else zBz a
 | [],b=>by simp [zBz]
 | x::a,b=>by
  simp only [List.cons_append,zBz];split
  ·exact zGM a b
  ·simp_all
theorem zE9 {L:List Wt.Nd} {n:Nat} (ih:∀ (i:Nat) (t:Tr n),1<=i->Sub L i n t->zAz n t->zBz ((List.range' i (row n t).length).map (wrN own nm L))=zBB own nm n t) :
  ∀ (ks:List (Tr n)) (p:Nat) (r:List Wt.Nd),1<=p->L.drop p=rows n ks++r->(∀ k ∈ ks,zAz n k)->zBz ((List.range' p (rows n ks).length).map (wrN own nm L))=zBz (ks.map (zBB own nm n))
 | [],p,r,_,_,_=>rfl
 | k::ks,p,r,hp,h,hf=>by
  have h2:L.drop (p+(row n k).length)=rows n ks++r:=by
   rw [<-List.drop_drop,h,zBZ,List.drop_left]
  have e1:=ih p k hp ⟨rows n ks++r,by rw [<-zBZ];exact h⟩ (hf k (List.mem_cons_self ..));have e2:=zE9 ih ks _ r (by omega) h2 (λx hx=>hf x (List.mem_cons_of_mem _ hx));rw [zGC,<-List.range'_append_1,List.map_append,zGM,e1,e2];simp only [List.map_cons,zBz]
theorem zHH {L:List Wt.Nd}:∀ (n i:Nat) (t:Tr n),n<=L.length+1->1<=i->Sub L i n t->zAz n t->zBz ((List.range' i (row n t).length).map (wrN own nm L))=zBB own nm n t
 | 0,i,t,_,_,_,_=>Empty.elim t
 | n+1,i,t,hn,hi,h,hf=>by
  have hk:=h.kidN hf (by omega);have hg:=h.getD;obtain ⟨r,e⟩:=id h;have e2:L.drop (i+1)=rows n (Br.ks t)++r:=by
   rw [<-List.drop_drop,e];rfl
  have e3:=zE9 own nm (λj u hj hs hu=>zHH n j u (by omega) hj hs hu) (Br.ks t) (i+1) r (by omega) e2 hf.2.2;show zBz ((List.range' i ((rows n (Br.ks t)).length+1)).map (wrN own nm L))=zBz (zB2 own nm (Br.x t) ((Br.ks t).map (Wf.hd n))::(Br.ks t).map (zBB own nm n))
  rw [List.range'_succ,List.map_cons];have e4:wrN own nm L i=zB2 own nm (Br.x t) ((Br.ks t).map (Wf.hd n)):=by
   unfold wrN;rw [hk,hg];show (if zB2 own nm (Br.x t) _ ≠ 0 then _ else _)=_
   split
   ·rfl
   ·rename_i h0
    rw [if_neg (λq=>by omega)];exact (Decidable.not_not.1 h0).symm
  simp only [zBz,e3,e4]
theorem zNR {L:List Wt.Nd} {n:Nat} {t:Tr (n+1)} (hn:n<=L.length) (hr:row (n+1) t=L) (hf:zAz (n+1) t) (h3:(Br.x t).k=3->Br.ks t=[]) :
  zBz ((List.range' 0 L.length).map (wrN own nm L))=if zBB own nm (n+1) t ≠ 0 then zBB own nm (n+1) t else if isA (Br.x t) then 82 else 0:=by
 have h:Sub L 0 (n+1) t:=⟨[],by simp [hr]⟩
 have hk:=h.kidN hf (by omega);have hg:=h.getD;have e2:L.drop 1=rows n (Br.ks t)++[]:=by
  rw [<-hr,List.append_nil];rfl
 have e3:=zE9 own nm (λj u hj hs hu=>zHH own nm n j u (by omega) hj hs hu) (Br.ks t) 1 [] (by omega) e2 hf.2.2;have hl:L.length=(rows n (Br.ks t)).length+1:=by rw [<-hr];rfl
 rw [hl,List.range'_succ,List.map_cons];show zBz (wrN own nm L 0::_)=if zBz (zB2 own nm (Br.x t) ((Br.ks t).map (Wf.hd n))::(Br.ks t).map (zBB own nm n)) ≠ 0 then zBz (zB2 own nm (Br.x t) ((Br.ks t).map (Wf.hd n))::(Br.ks t).map (zBB own nm n)) else _
 have hg:L.getD 0 zn=Br.x t:=hg;simp only [zBz,Nat.zero_add,e3];unfold wrN;rw [hk,hg];by_cases h0:zB2 own nm (Br.x t) ((Br.ks t).map (Wf.hd n))=0
 ·simp only [h0,ne_eq,not_true_eq_false,if_false,if_true,and_true];by_cases hx:(Br.x t).k=3
  ·rw [h3 hx];simp [zBz,isA,hx]
  ·simp [isA,hx]
 ·simp [h0]
end
end Go.Proofs.YtefkclbaflkheaaGreatDoor.Wf
namespace Go.Proofs.YtefkclbaflkheaaGreatDoor
open Tryz
open Go.RowKit
def Cells (w:World) (blk off n:Nat) (F:Nat->Wpl.Cl):Prop :=
 ∀ j,j<n->w.cell? ⟨blk,off+j * 3,none⟩=some (.int .i64 (F j).s)/\w.cell? ⟨blk,off+j * 3+1,none⟩=some (.int .i64 (F j).r)/\w.cell? ⟨blk,off+j * 3+2,none⟩=some (.int .i64 (F j).c)
theorem Cells.below {W W':World} {blk off n:Nat} {F:Nat->Wpl.Cl} (h:Cells W blk off n F) (hb:blk<W.heap.size) (hB:Below W.heap.size W W'):Cells W' blk off n F:=λj hj =>
 ⟨(hB.cell (p:=⟨blk,off+j * 3,none⟩) hb).trans (h j hj).1,(hB.cell (p:=⟨blk,off+j * 3+1,none⟩) hb).trans (h j hj).2.1,(hB.cell (p:=⟨blk,off+j * 3+2,none⟩) hb).trans (h j hj).2.2⟩
theorem zHY (q:Int) (blk off n cap:Nat) (F:Nat->Wpl.Cl) (w:World) (hn:n<=1000000000000000) (hb:blk<w.heap.size) (hc:Cells w blk off n F) :
  Calls prog 167 #[.slice (some ⟨blk,off,none⟩) n cap,.func (.func 148) #[.int .i64 q] #[]] w λe w'=>∃ v:Int,e=.returned (.int .i64 v)/\decide (0<=v)=Wpl.anyN q F n/\Below w.heap.size w w':=by
 have eg:∀ args w,(callFunc 148 args).run prog w=.ok (.enter 148 args) w:=λ_ _=>by kernel_rfl
 go_enter func167,ntmps167;go_wp2;go_loopw [5,8] (λ_ i wr=>∃ j:Nat,j<=n/\i=.int .i64 j/\Hid (∀ m,m<j->Wpl.lacks q (F m)=false)/\Below w.heap.size w wr) (λ_ i _=>n - (intOf i).toNat)
 case atStart=>exact ⟨0,Nat.zero_le _,rfl,(λm hm=>absurd hm (Nat.not_lt_zero _):∀ m,m<0->Wpl.lacks q (F m)=false),Below.refl _ _⟩
 case round =>
  obtain ⟨j,hj,rfl,A,qB⟩:=hrel;by_cases hlt:j<n
  ·have hltz:(j:Int)<(n:Int):=by omega
   obtain ⟨x0,x1,x2⟩:=hc j hlt;have y0:wr.cell? ⟨blk,off+j * 3,none⟩=some (.int .i64 (F j).s):=(qB.cell (p:=⟨blk,off+j * 3,none⟩) hb).trans x0;have y1:wr.cell? ⟨blk,off+j * 3+1,none⟩=some (.int .i64 (F j).r):=(qB.cell (p:=⟨blk,off+j * 3+1,none⟩) hb).trans x1;have y2:wr.cell? ⟨blk,off+j * 3+2,none⟩=some (.int .i64 (F j).c):=(qB.cell (p:=⟨blk,off+j * 3+2,none⟩) hb).trans x2;have L:=λw=>zHQ q (F j).s (F j).r (F j).c w
   clear x0 x1 x2;generalize hq:Wpl.lacks q ⟨(F j).s,(F j).r,(F j).c⟩=b at L;have B:Hid (Wpl.lacks q (F j)=b):=hq;clear hq;generalize (F j).s=sj at *;generalize (F j).r=rj at *;generalize (F j).c=cj at *;cases b with
   | true =>
    go_wp2_with (go_at_call 148;refine (L _).mono ?_;rintro e w1 ⟨rfl,hb1⟩)
    go_ret;exact ⟨_,rfl,by rw [Wpl.anyN_hit hlt B.out];simp,zAo qB hb1⟩
   | false =>
    go_wp2_with (go_at_call 148;refine (L _).mono ?_;rintro e w1 ⟨rfl,hb1⟩)
    go_roundw
    case rel =>
     refine ⟨j+1,by omega,by go_num,(λm hm=>?_:∀ m,m<j+1->Wpl.lacks q (F m)=false),zAo qB hb1⟩;by_cases e:m=j
     ·rw [e];exact B.out
     ·exact A.out m (by omega)
    case measure=>simp [intOf];omega
  ·have hltz:¬ (j:Int)<(n:Int):=by omega
   have e:j=n:=by omega
   subst e;go_wp2;go_ret;exact ⟨_,rfl,by rw [Wpl.anyN_miss A.out];rfl,qB⟩
theorem zBg (q:Int) (blk off n cap:Nat) (F:Nat->Wpl.Cl) (w:World) (hn:n<=1000000000000000) (hb:blk<w.heap.size) (hc:Cells w blk off n F) :
  CR 147 #[.slice (some ⟨blk,off,none⟩) n cap,.func (.func 148) #[.int .i64 q] #[]] w (.bool (Wpl.anyN q F n)):=by
 go_enter func147,ntmps147;go_wp2_with fail
 refine (zHY q blk off n cap F _ hn hb hc).mono ?_;rintro e w1 ⟨v,rfl,hv,hb1⟩;have H:Hid (decide (0<=v)=Wpl.anyN q F n):=hv;clear hv;go_wp2;go_ret;exact ⟨by rw [<-H.out];rfl,hb1⟩
