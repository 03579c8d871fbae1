/- KGrow, KGrowB, KSite, PWalkB. -/
import Derived.Test.YtefkclbaflkheaaGreatDoorQ11
set_option maxHeartbeats 1600000
set_option maxRecDepth 100000
namespace Go.Proofs.YtefkclbaflkheaaGreatDoor
open Tryz
open Go.RowKit Wf
set_option linter.unusedVariables false
variable {w w':World} {n off b0 pb bb:Nat} {x:Wt.Nd} {sv:Value} {av:Option Addr} {s:ByteArray}
theorem zFE (x:Wt.Nd) (w:World):CR 77 #[.agg (zAN x).toArray] w (.int .i64 (Wt.parts x)):=by
 have p:=AtL.new0 w 35 (zAN x);have hb:=zAK (Below.refl _ w) (.cells (zAN x).toArray 35);have c0:(w.alloc (.cells (zAN x).toArray 35)).cell? ⟨w.heap.size,0,none⟩=some (.int .i64 x.k):=p.2.1 0 _ rfl;have c9:(w.alloc (.cells (zAN x).toArray 35)).cell? ⟨w.heap.size,9,none⟩=some (.int .i64 x.ar):=p.2.1 9 _ rfl;clear p;unfold Wt.parts;by_cases h4:x.k=4
 ·rw [if_pos h4];rw [h4] at c0;clear h4;go_enter func77,ntmps77;go_upto_region 1 with fail
  generalize (w.alloc (.cells (zAN x).toArray 35))=W at *;go_wp2;go_ret;exact ⟨rfl,hb⟩
 rw [if_neg h4];by_cases h5:x.k=5
 ·rw [if_pos h5];rw [h5] at c0;clear h4 h5;go_enter func77,ntmps77;go_upto_region 1 with fail
  generalize (w.alloc (.cells (zAN x).toArray 35))=W at *;go_wp2;go_ret;exact ⟨rfl,hb⟩
 rw [if_neg h5];have e4:(x.k == 4)=false:=by simpa using h4
 have e5:(x.k == 5)=false:=by simpa using h5
 go_enter func77,ntmps77;go_upto_region 1 with fail
 generalize (w.alloc (.cells (zAN x).toArray 35))=W at *;go_wp2;go_ret;exact ⟨rfl,hb⟩
theorem zKG (w:World) (g o m cap:Nat):(Instr.sliceAt 22 (.slice (some ⟨g,o,none⟩) (m+1) cap) (some (.int .i64 1)) none none).run prog w=.ok (sliced (some ⟨g,o,none⟩) 1 (m+1) cap 20) w:=by
 have hu:prog.underlying 22=some (.slice (prog.elem 22)):=by kernel_rfl
 have hz:(sizeOf (prog.elem 22)).run prog w=.ok 20 w:=by kernel_rfl
 rw [run_sliceAt_slice w _ _ _ _ _ hu,run_slice_l w _ _ _ _ hu _ 1 (by omega) (by omega),hz];rfl
theorem zFH {ops:Array Oper} {rest:List Oper} {op:Oper} {a:Act} {Q:Exit->Act->World->Prop} (hgd:op.guard=none) (s:Operand) (ho:op.op=.slice 22 s (some (.const (.int .i64 1))) none none) (g o m cap:Nat) (hs:a.eval s=.slice (some ⟨g,o,none⟩) (m+1) cap) (hc:m+1<=cap)
  (h:∀ X C:Nat,(m ≠ 0->X=o+20)->m<=C->wpList prog ops Q rest (a.put op.dst (.slice (some ⟨g,X,none⟩) m C)) w):wpList prog ops Q (op::rest) a w:=by
 refine wpList_plain hgd λK hK=>?_
 unfold Oper.wp execOp;have hr:=zKG w g o m cap;have he:sliced (some ⟨g,o,none⟩) 1 (m+1) cap 20=.slice (some ⟨g,(if cap=1 then o else o+20),none⟩) m (cap - 1):=by
  unfold sliced;by_cases hc1:cap=1
  ·rw [if_pos hc1,if_pos hc1];rfl
  ·rw [if_neg hc1,if_neg hc1];rfl
 rw [he] at hr;have hv:a.eval (.const (.int .i64 1))=.int .i64 1:=rfl;simp only [ho,hs,hv,Option.map_some,Option.map_none,Sem.run_bind,Sem.run_pure,Result.andThen_ok,hr];exact hK _ _ (h _ _ (λhm=>by rw [if_neg (by omega)]) (by omega))
theorem RdN.tail {X:Nat} {r:List Wt.Nd} (h:RdN w (some ⟨bb,off,none⟩) (x::r)) (hX:r.length ≠ 0->X=off+20):RdN w (some ⟨bb,X,none⟩) r:=λi hi=>by
 obtain ⟨b2,o2,e,hr⟩:=h (i+1) (by simp;omega);cases e
 refine ⟨bb,X,rfl,?_⟩;rw [hX (by omega),show off+20+i * 20=off+(i+1) * 20 from by omega];exact hr
structure GrS (n b0:Nat) (w:World) (pb:Nat) (x:Wt.Nd) (sv:Value) (ps:List (Tr n × Value)):Prop where
 at':AtL w pb (zAP x sv)
 own:OwnP w (pb+1) sv (ps.map λp=>(hd n p.1,p.2))
 kids:∀ p ∈ ps,∃ lo hi,b0<=lo/\hi<=w.heap.size/\(∀ j,sv.ownBlock=some j->j<lo \/ hi<=j)/\pb<lo/\PA n lo hi w p.1 p.2
theorem GrS.below {ps:List (Tr n × Value)} (h:GrS n b0 w pb x sv ps) (hb:Below w.heap.size w w'):GrS n b0 w' pb x sv ps :=
 ⟨AtL.below hb h.at',h.own.below hb,λp hp=>by
  obtain ⟨lo,hi,h1,h2,h3,h4,h5⟩:=h.kids p hp;exact ⟨lo,hi,h1,Nat.le_trans h2 hb.size,h3,h4,PA.kept (Kept.of_below hb) n _ _ h5⟩⟩
theorem GrS.done {ps:List (Tr n × Value)} (h:GrS n b0 w pb x sv ps) (t:Tr (n+1)) (ht:ps.map (·.1)=Br.ks t):PA (n+1) pb w.heap.size w t sv:=by
 have hk:∀ p ∈ ps,PA n pb w.heap.size w p.1 p.2:=λp hp=>by
  obtain ⟨lo,hi,h1,h2,h3,h4,h5⟩:=h.kids p hp;exact PA.wide (Nat.le_of_lt h4) h2 n _ _ h5
 have hl:(ps.map λp=>(hd n p.1,p.2)).length=ps.length:=by simp
 rcases OwnP.cases h.own with ⟨e,hp⟩ | ⟨g,cap,e,h1,h2,h3⟩
 ·have hp':ps=[]:=by simpa using hp
  subst hp';exact ⟨none,0,[],ht,e,Nat.le_refl _,λi hi=>absurd hi (Nat.not_lt_zero _),hk⟩
 ·rw [hl] at e;refine ⟨_,cap,ps,ht,e,?_,λi hi=>?_,hk⟩
  ·rcases h.own.2 with ⟨e2,h0⟩ | ⟨g2,cap2,cur,e2,_,_,r1,_⟩
   ·rw [e2] at e;cases e
   ·rw [e2] at e;simp only [Value.slice.injEq,List.length_map] at e r1;omega
  ·refine ⟨g,0,by omega,h2,rfl,?_⟩;have:=h3 i (by rw [hl];exact hi);simp only [List.getElem_map] at this;rw [Nat.zero_add];exact this
theorem GrS.app {w1:World} {v':Value} {ps:List (Tr n × Value)} (h:GrS n b0 w pb x sv ps) {k:Tr n} {sl:Value} {lo hi:Nat} (hk:PA n lo hi w k sl) (h1:b0<=lo) (h2:hi<=w.heap.size) (h3:∀ j,sv.ownBlock=some j->j<lo) (h4:pb<lo)
  (own:OwnP w1 (pb+1) v' ((ps.map λp=>(hd n p.1,p.2))++[(hd n k,sl)])) (hg:w.grownBy w1 sv.ownBlock) (hv:v'.ownBlock=sv.ownBlock \/ v'.ownBlock=some w.heap.size) :
  GrS n b0 (w1.setCell ⟨pb,20,none⟩ v') pb x v' (ps++[(k,sl)])/\Fr (pb::sv.ownBlock.toList) w (w1.setCell ⟨pb,20,none⟩ v'):=by
 have f1:Fr sv.ownBlock.toList w w1:=Fr.of_grown hg (λj e=>by simp [e]);have f2:Fr [pb] w1 (w1.setCell ⟨pb,20,none⟩ v'):=Fr.of_grown (zAL _ _ _ _) (λj e=>by cases e;simp);have ha:AtL w1 pb (zAP x sv):=h.at'.fr f1 (λe=>by have:=(zAT h.own (show sv.ownBlock=some pb by simpa using e)).1;omega);have hkeep:∀ (t:Tr n) (u:Value) (lo hi:Nat),(∀ j,sv.ownBlock=some j->j<lo \/ hi<=j)->pb<lo->PA n lo hi w t u->PA n lo hi (w1.setCell ⟨pb,20,none⟩ v') t u:=λt u lo hi q1 q2 q3 =>
  PA.kept (Kept.of_fr f2 (λj hj=>by simp at hj;omega)) n _ _ (PA.kept (Kept.of_fr f1 (λj hj=>q1 j (by simpa using hj))) n _ _ q3)
 have hs2:w.heap.size<=(w1.setCell ⟨pb,20,none⟩ v').heap.size:=Nat.le_trans f1.size f2.size;refine ⟨⟨ha.set 20 v',?_,λp hp=>?_⟩,(f1.mono (λj hj=>List.mem_cons_of_mem _ hj)).trans (f2.mono (λj hj=>by simp at hj;subst hj;exact List.mem_cons_self ..))⟩
 ·have:=zAc f2 own (λj e=>by have:=(zAT own e).1;simp;omega);simpa [OwnP] using this
 ·rcases List.mem_append.1 hp with hp | hp
  ·obtain ⟨lo',hi',q1,q2,q3,q4,q5⟩:=h.kids p hp;refine ⟨lo',hi',q1,Nat.le_trans q2 hs2,λj e=>?_,q4,hkeep _ _ _ _ q3 q4 q5⟩;rcases hv with hv | hv
   ·exact q3 j (by rw [<-hv];exact e)
   ·rw [hv] at e;cases e;exact Or.inr q2
  ·simp only [List.mem_singleton] at hp;subst hp;refine ⟨lo,hi,h1,Nat.le_trans h2 hs2,λj e=>?_,h4,hkeep _ _ _ _ (λj e=>Or.inl (h3 j e)) h4 hk⟩;rcases hv with hv | hv
   ·exact Or.inl (h3 j (by rw [<-hv];exact e))
   ·rw [hv] at e;cases e;exact Or.inr h2
def GrP (n:Nat) (t:Tr n) (bb:Nat) (R:List Wt.Nd) (w:World) (e:Ending) (w':World):Prop :=
 (∃ (sl:Value) (X L C:Nat),e=.returned (.tuple #[.agg (zAP (hd n t) sl).toArray,.slice (some ⟨bb,X,none⟩) L C])/\L=R.length/\PA n w.heap.size w'.heap.size w' t sl/\RdN w' (some ⟨bb,X,none⟩) R/\L<=C)/\Below w.heap.size w w'
def GrC (n:Nat):Prop:=∀ (t:Tr n) (bb off L cap:Nat) (R:List Wt.Nd) (w:World),zCi n t->L=(row n t++R).length->L<=300->L<=cap->RdN w (some ⟨bb,off,none⟩) (row n t++R) ->
 Calls prog 45 #[.slice (some ⟨bb,off,none⟩) L cap] w (GrP n t bb R w)
theorem RdN.fr {S:List Nat} {L:List Wt.Nd} (h:RdN w (some ⟨bb,off,none⟩) L) (hf:Fr S w w') (hn:bb ∉ S):RdN w' (some ⟨bb,off,none⟩) L:=λi hi=>by
 obtain ⟨b2,o2,e,hr⟩:=h i hi;cases e
 exact ⟨bb,off,rfl,hf.range hr hn⟩
theorem zG4 (n:Nat) (ih:GrC n):GrC (n+1):=by
 intro t bb off L cap R w hF hLe hL hC hR;obtain ⟨x,ks⟩:Br (Tr n):=t;obtain ⟨hx,hp,hks⟩:=hF;replace hx:Wt.right x=true:=hx
 replace hp:Wt.parts x=(ks.length:Int):=hp
 replace hks:∀ k ∈ ks,zCi n k:=hks
 have hrow:row (n+1) (⟨x,ks⟩:Br (Tr n))=x::(ks.map (row n)).flatten:=rfl;rw [hrow,List.cons_append] at hLe hR;unfold GrP;have hhd:hd (n+1) (⟨x,ks⟩:Br (Tr n))=x:=rfl;simp only [hhd];obtain ⟨b9,o9,e9,hr0⟩:=hR 0 (by simp);cases e9
 have HBB:Hid (bb<w.heap.size):=zAV (hr0 0 _ rfl);have HF:Hid (∀ k ∈ ks,zCi n k):=hks;have HP:Hid (Wt.parts x=(ks.length:Int)):=hp;have HCO:Hid (∀ w:World,CR 77 #[.agg (zAN x).toArray] w (.int .i64 (ks.length:Int))):=λw=>by rw [<-hp];exact zFE x w
 have HIH:Hid (GrC n):=ih;have HKL:Hid (ks.length<=30):=by have:=(Wt.parts_le hx).2;show ks.length<=30;omega
 simp only [List.length_cons] at hLe;obtain ⟨m,hm⟩:∃ m,((ks.map (row n)).flatten++R).length=m:=⟨_,rfl⟩
 rw [hm] at hLe;subst hLe;have HM:Hid (((ks.map (row n)).flatten++R).length=m/\m+1<=300):=⟨hm,hL⟩
 simp only [List.getElem_cons_zero,Nat.zero_mul,Nat.add_zero] at hr0;have HR:Hid (RdN w (some ⟨bb,off,none⟩) (x::((ks.map (row n)).flatten++R))):=hR;have hmi:(0:Int)<((m+1:Nat):Int):=by omega
 clear hx hp hks hR hL hm ih hrow;have pR0:AtL (w.alloc (.cells zeros21 64)) w.heap.size zeros21.toList:=AtL.new0 w _ _;have hb1:=zAK (Below.refl _ w) (.cells zeros21 64);have h1:=zAI hb1 hr0;have HR1:Hid (RdN (w.alloc (.cells zeros21 64)) (some ⟨bb,off,none⟩) (x::((ks.map (row n)).flatten++R))):=HR.out.below hb1;clear hr0 HR;go_enter func45,ntmps45;go_upto_region 1 with fail
 generalize (w.alloc (.cells zeros21 64))=W1 at *;have pP0:AtL (W1.alloc (.cells zeros21 64)) W1.heap.size zeros21.toList:=AtL.new0 W1 _ _;have hth:World.there (W1.alloc (.cells zeros21 64)) W1.heap.size 0 (zAP x (.slice none 0 0)).toArray.size:=pP0.there;clear pP0;go_upto_region 2 with (first | (refine zAA (by rfl) 35 (.tmp 8) rfl bb off rfl (zAN x) _ h1 underlying35 rfl (by kernel_rfl) ?_) | (refine zDZ rfl (.tmp 9) rfl x rfl ?_) | ((with_reducible refine wpList_store_mid ?_ 64 (.tmp 4) (.tmp 10) ?_ W1.heap.size 0 (zAP x (.slice none 0 0)).toArray ?_ ?_ ?_ ?_ ?_ ?_);rfl;rfl;rfl;rfl;exact hth;kernel_rfl;exact zBV _ _ _ _))
 have pP:AtL ((W1.alloc (.cells zeros21 64)).setCells W1.heap.size 0 (zAP x (.slice none 0 0))) W1.heap.size (zAP x (.slice none 0 0)):=(AtL.new0 W1 _ _:AtL (W1.alloc (.cells zeros21 64)) W1.heap.size zeros21.toList).setAll rfl;have hb2:Below W1.heap.size W1 ((W1.alloc (.cells zeros21 64)).setCells W1.heap.size 0 (zAP x (.slice none 0 0))):=zAa (zAK (Below.refl _ W1) _) (Nat.le_refl _) _ 0;have pR1:=AtL.below hb2 pR0;have hB2:=zAB hb1 hb2;have HR2:Hid (RdN ((W1.alloc (.cells zeros21 64)).setCells W1.heap.size 0 (zAP x (.slice none 0 0))) (some ⟨bb,off,none⟩) (x::((ks.map (row n)).flatten++R))):=HR1.out.below hb2;have HK1:Hid (w.heap.size<W1.heap.size):=pR0.lt;clear hth pR0 h1 hb1 hb2 HR1;generalize ((W1.alloc (.cells zeros21 64)).setCells W1.heap.size 0 (zAP x (.slice none 0 0)))=W2 at *;obtain ⟨k1,hk1⟩:∃ k,W1.heap.size=k:=⟨_,rfl⟩
 rw [hk1] at pP HK1;simp only [hk1];clear hk1;have rN:=zKm pP.range;have CO:=HCO.out W2;go_wp2_with (first | (refine zFH rfl (.tmp 11) rfl bb off m cap rfl hC ?_;intro X C hX hmC) | (refine zAA (by rfl) 35 (.tmp 13) rfl k1 0 rfl (zAN x) _ rN underlying35 rfl (by kernel_rfl) ?_))
 refine CO.mono ?_;rintro e w3 ⟨rfl,hb3⟩;have HG:Hid (GrS n w.heap.size w3 k1 x (.slice none 0 0) []):=⟨AtL.below hb3 pP,OwnP.nil _ _,λp hp=>by cases hp⟩
 have HZ:Hid (AtL w3 w.heap.size zeros21.toList):=AtL.below hb3 pR1;have HB3:Hid (Below w.heap.size w w3):=zAB hB2 hb3;have HR3:Hid (RdN w3 (some ⟨bb,X,none⟩) ((ks.map (row n)).flatten++R)):=(HR2.out.tail (λh=>hX (by have:=HM.out.1;omega))).below hb3;have HC3:Hid (m<=C):=hmC;have HL3:Hid (((ks.map (row n)).flatten++R).length=m):=HM.out.1;have HM2:Hid (m<=300):=by have:=HM.out.2;show m<=300;omega
 clear CO rN pP pR1 hB2 hb3 HCO HR2 hX hmC hC hmi HM hhd;go_wp2_with fail
 go_loopg [0,16] ks.length (λgk a b wr=>∃ (i L2 X2 C2:Nat) (sv:Value) (ps:List (Tr n × Value)),a=.slice (some ⟨bb,X2,none⟩) L2 C2/\b=.int .i64 (i:Int)/\gk=ks.length - i/\i<=ks.length/\Hid (ps.map (·.1)=ks.take i)/\Hid (RdN wr (some ⟨bb,X2,none⟩) (((ks.drop i).map (row n)).flatten++R))/\Hid (L2=(((ks.drop i).map (row n)).flatten++R).length)/\Hid (L2<=C2)/\Hid (L2<=300)/\Hid (GrS n w.heap.size wr k1 x sv ps)/\Hid (AtL wr w.heap.size zeros21.toList)/\Hid (Below w.heap.size w wr))
 case atStart=>exact ⟨0,_,_,_,_,[],rfl,rfl,rfl,Nat.zero_le _,(by simp:([]:List (Tr n × Value)).map (·.1)=ks.take 0),(by rw [List.drop_zero];exact HR3.out:RdN w3 _ _),(by rw [List.drop_zero];exact HL3.out.symm:m=_),HC3,HM2,HG,HZ,HB3⟩
 case round =>
  clear HR3 HC3 HL3 HM2 HG HZ HB3;obtain ⟨i,L2,X2,C2,sv,ps,rfl,rfl,hg,hi,HPS,HR,HL,HC,HM,HG,HZ,HB⟩:=hrel;by_cases hlt:i<ks.length
  ·have hli:(i:Int)<(ks.length:Int):=by omega
   have hwi:IntKind.i64.wrap ((i:Int)+1)=(i:Int)+1:=by have:=HKL.out;rw [IntKind.wrap_i64];omega
   have hdr:((ks.drop i).map (row n)).flatten++R=row n ks[i]++(((ks.drop (i+1)).map (row n)).flatten++R):=by
    rw [List.drop_eq_getElem_cons hlt,List.map_cons,List.flatten_cons,List.append_assoc]
   rw [hdr] at HR HL;have GR:=HIH.out ks[i] bb X2 L2 C2 (((ks.drop (i+1)).map (row n)).flatten++R) wr (HF.out _ (List.getElem_mem hlt)) HL.out HM.out HC.out HR.out;have HPS2:Hid (ps.map (·.1)++[ks[i]]=ks.take (i+1)):=by show _=_;rw [HPS.out,List.take_succ_eq_append_getElem hlt]
   have HM3:Hid ((((ks.drop (i+1)).map (row n)).flatten++R).length<=300):=by have:=HM.out;have h2:=HL.out;rw [List.length_append] at h2;show _<=300;omega
   have HPL:Hid (ps.length<=30):=by have:=congrArg List.length HPS.out;have:=HKL.out;simp at *;show _<=30;omega
   clear hdr HR HC HM HL HPS;obtain ⟨kk,hkk⟩:∃ kk,ks[i]=kk:=⟨_,rfl⟩
   rw [hkk] at GR HPS2;clear hkk;obtain ⟨R2,hR2⟩:∃ R2,((ks.drop (i+1)).map (row n)).flatten++R=R2:=⟨_,rfl⟩
   rw [hR2] at GR HM3;have HR2:Hid (((ks.drop (i+1)).map (row n)).flatten++R=R2):=hR2;clear hR2;unfold GrP at GR;go_wp2_with fail
   refine GR.mono ?_;rintro e w4 ⟨⟨sl,X3,L3,C3,rfl,hl4,hpa,hr4,hc4⟩,hb4⟩;obtain ⟨av5,m5,c5,rfl⟩:=hpa.slice;have HG4:Hid (GrS n w.heap.size w4 k1 x sv ps):=HG.out.below hb4;have HZ4:Hid (AtL w4 w.heap.size zeros21.toList):=AtL.below hb4 HZ.out;have HB4:Hid (Below w.heap.size w w4):=zAB HB.out hb4;have HPA:Hid (PA n wr.heap.size w4.heap.size w4 kk (.slice av5 m5 c5)):=hpa;have HR4:Hid (RdN w4 (some ⟨bb,X3,none⟩) R2):=hr4;have HL4:Hid (L3=R2.length/\L3<=C3):=⟨hl4,hc4⟩
   have HS4:Hid (k1<wr.heap.size/\wr.heap.size<=w4.heap.size/\w.heap.size<=wr.heap.size/\∀ j,sv.ownBlock=some j->k1+1<=j/\j<wr.heap.size):=⟨HG.out.at'.lt,hb4.size,HB.out.size,λj e=>zAT HG.out.own e⟩
   clear hpa hr4 hl4 hc4 hb4 HG HZ HB GR;have hth:World.there (w4.alloc (.cells zeros21 64)) w4.heap.size 0 (zAP (hd n kk) (.slice av5 m5 c5)).toArray.size:=(AtL.new0 w4 _ _:AtL (w4.alloc (.cells zeros21 64)) w4.heap.size zeros21.toList).there;have HPI:Hid (AtL ((w4.alloc (.cells zeros21 64)).setCells w4.heap.size 0 (zAP (hd n kk) (.slice av5 m5 c5))) w4.heap.size (zAP (hd n kk) (.slice av5 m5 c5))):=(AtL.new0 w4 _ _:AtL (w4.alloc (.cells zeros21 64)) w4.heap.size zeros21.toList).setAll rfl;have hb5:Below w4.heap.size w4 ((w4.alloc (.cells zeros21 64)).setCells w4.heap.size 0 (zAP (hd n kk) (.slice av5 m5 c5))):=zAa (zAK (Below.refl _ w4) _) (Nat.le_refl _) _ 0;have HHB:Hid (Below w4.heap.size w4 ((w4.alloc (.cells zeros21 64)).setCells w4.heap.size 0 (zAP (hd n kk) (.slice av5 m5 c5)))):=hb5;clear hb5;obtain ⟨y,hy⟩:∃ y,hd n kk=y:=⟨_,rfl⟩
   have HY:Hid (hd n kk=y):=hy;rw [hy] at hth HPI HHB ⊢;clear hy;go_upto_region 6 with (first | ((with_reducible refine wpList_store_mid ?_ 64 (.tmp 5) (.tmp 21) ?_ w4.heap.size 0 (zAP y (.slice av5 m5 c5)).toArray ?_ ?_ ?_ ?_ ?_ ?_);rfl;rfl;rfl;rfl;exact hth;kernel_rfl;exact zBV _ _ _ _))
   clear hth;have hb5:=HHB.out;have HG5:Hid (GrS n w.heap.size ((w4.alloc (.cells zeros21 64)).setCells w4.heap.size 0 (zAP y (.slice av5 m5 c5))) k1 x sv ps):=HG4.out.below hb5;have HZ5:Hid (AtL ((w4.alloc (.cells zeros21 64)).setCells w4.heap.size 0 (zAP y (.slice av5 m5 c5))) w.heap.size zeros21.toList):=AtL.below hb5 HZ4.out;have HB5:Hid (Below w.heap.size w ((w4.alloc (.cells zeros21 64)).setCells w4.heap.size 0 (zAP y (.slice av5 m5 c5)))):=zAB HB4.out hb5;have HPA5:Hid (PA n wr.heap.size w4.heap.size ((w4.alloc (.cells zeros21 64)).setCells w4.heap.size 0 (zAP y (.slice av5 m5 c5))) kk (.slice av5 m5 c5)):=PA.kept (Kept.of_below hb5) n _ _ HPA.out;have HR5:Hid (RdN ((w4.alloc (.cells zeros21 64)).setCells w4.heap.size 0 (zAP y (.slice av5 m5 c5))) (some ⟨bb,X3,none⟩) R2):=HR4.out.below hb5;have HS5:Hid (w4.heap.size<=((w4.alloc (.cells zeros21 64)).setCells w4.heap.size 0 (zAP y (.slice av5 m5 c5))).heap.size):=hb5.size;clear hb5 HHB HG4 HZ4 HB4 HPA HR4;generalize ((w4.alloc (.cells zeros21 64)).setCells w4.heap.size 0 (zAP y (.slice av5 m5 c5)))=W5 at *;obtain ⟨ib,hib⟩:∃ k,w4.heap.size=k:=⟨_,rfl⟩
   rw [hib] at HPI HPA5 HS4 HS5;simp only [hib];clear hib;have rI:=HPI.out.range;have c20:W5.cell? ⟨k1,20,none⟩=some sv:=HG5.out.at'.2.1 20 sv rfl;have hb6:=zAK (Below.refl _ W5) (.cells (zAP y (.slice av5 m5 c5)).toArray 64);have HAT:Hid ((W5.alloc (.cells (zAP y (.slice av5 m5 c5)).toArray 64)).rangeAt W5.heap.size 0 (zAP y (.slice av5 m5 c5))):=(AtL.new0 W5 64 (zAP y (.slice av5 m5 c5))).range;have HG6:Hid (GrS n w.heap.size (W5.alloc (.cells (zAP y (.slice av5 m5 c5)).toArray 64)) k1 x sv ps):=HG5.out.below hb6;have HZ6:Hid (AtL (W5.alloc (.cells (zAP y (.slice av5 m5 c5)).toArray 64)) w.heap.size zeros21.toList):=AtL.below hb6 HZ5.out;have HB6:Hid (Below w.heap.size w (W5.alloc (.cells (zAP y (.slice av5 m5 c5)).toArray 64))):=zAB HB5.out hb6;have HPA6:Hid (PA n wr.heap.size ib (W5.alloc (.cells (zAP y (.slice av5 m5 c5)).toArray 64)) kk (.slice av5 m5 c5)):=PA.kept (Kept.of_below hb6) n _ _ HPA5.out;have HR6:Hid (RdN (W5.alloc (.cells (zAP y (.slice av5 m5 c5)).toArray 64)) (some ⟨bb,X3,none⟩) R2):=HR5.out.below hb6;have HS6:Hid (ib<=(W5.alloc (.cells (zAP y (.slice av5 m5 c5)).toArray 64)).heap.size):=Nat.le_trans HS5.out hb6.size;have HKS:Hid (k1+1<=(W5.alloc (.cells (zAP y (.slice av5 m5 c5)).toArray 64)).heap.size):=HG6.out.at'.lt;clear hb6 HG5 HZ5 HB5 HPA5 HR5 HS5 HPI;go_wp2_with (first
    | (refine zAA (by rfl) 64 (.tmp 5) rfl ib 0 rfl (zAP y (.slice av5 m5 c5)) _ rI underlying64 rfl (by kernel_rfl) ?_)
    | (refine zED rfl (.tmp 25) rfl y av5 m5 c5 rfl ?_;clear rI c20)
    | (
      refine zEC rfl (.tmp 24) (.tmp 26) rfl (W5.alloc (.cells (zAP y (.slice av5 m5 c5)).toArray 64)) (k1+1) HKS.out sv (ps.map λp=>(hd n p.1,p.2)) rfl HG6.out.own W5.heap.size y av5 m5 c5 rfl HAT.out (λ_=>by have:=HPL.out;simp;omega) ?_;intro v7 w7 own7 hg7 hv7;obtain ⟨a8,m8,c8,rfl⟩:=own7.slice;have HGF:=HG6.out.app HPA6.out (by have:=HS4.out;omega) HS6.out (λj e=>(HS4.out.2.2.2 j e).2) HS4.out.1 (by rw [HY.out];exact own7) hg7 hv7;have f7:Fr sv.ownBlock.toList (W5.alloc (.cells (zAP y (.slice av5 m5 c5)).toArray 64)) w7:=Fr.of_grown hg7 (λj e=>by simp [e]);have a7:=HG6.out.at'.fr f7 (λe=>by have:=(HS4.out.2.2.2 k1 (by simpa using e)).1;omega);have c7:w7.cell? ⟨k1,20,none⟩=some sv:=a7.2.1 20 sv rfl;have z7:=a7.2.2 20 (by rw [zBl];omega);have HH:Hid (GrS n w.heap.size (w7.setCell ⟨k1,20,none⟩ (.slice a8 m8 c8)) k1 x (.slice a8 m8 c8) (ps++[(kk,.slice av5 m5 c5)])/\Fr (k1::sv.ownBlock.toList) (W5.alloc (.cells (zAP y (.slice av5 m5 c5)).toArray 64)) (w7.setCell ⟨k1,20,none⟩ (.slice a8 m8 c8))):=HGF;clear HGF f7 a7 own7 hg7 hv7))
   have hfr:=HH.out.2;have HZ7:Hid (AtL (w7.setCell ⟨k1,20,none⟩ (.slice a8 m8 c8)) w.heap.size zeros21.toList):=HZ6.out.fr hfr (λe=>by
    have h9:=HS4.out;have:=HK1.out;rcases List.mem_cons.1 e with q | q
    ·omega
    ·have:=(h9.2.2.2 w.heap.size (by simpa using q)).1;omega)
   have HB7:Hid (Below w.heap.size w (w7.setCell ⟨k1,20,none⟩ (.slice a8 m8 c8))):=zDs HB6.out hfr (λj e=>by
    have h9:=HS4.out;have:=HK1.out;rcases List.mem_cons.1 e with q | q
    ·omega
    ·have:=(h9.2.2.2 j (by simpa using q)).1;omega)
   have HR7:Hid (RdN (w7.setCell ⟨k1,20,none⟩ (.slice a8 m8 c8)) (some ⟨bb,X3,none⟩) R2):=HR6.out.fr hfr (λe=>by
    have h9:=HS4.out;have:=HK1.out;have:=HBB.out;rcases List.mem_cons.1 e with q | q
    ·omega
    ·have:=(h9.2.2.2 bb (by simpa using q)).1;omega)
   have HG7:Hid (GrS n w.heap.size (w7.setCell ⟨k1,20,none⟩ (.slice a8 m8 c8)) k1 x (.slice a8 m8 c8) (ps++[(kk,.slice av5 m5 c5)])):=HH.out.1;clear hfr HH HZ6 HB6 HR6 HG6 HPA6 HAT HS6 HKS c7 z7;go_roundg (ks.length - (i+1))
   case rel =>
    refine ⟨i+1,_,_,_,_,ps++[(kk,.slice av5 m5 c5)],rfl,by simp,rfl,hlt,(by rw [List.map_append];exact HPS2.out:_=_),(by rw [HR2.out];exact HR7.out:RdN _ _ _),(by rw [HR2.out];exact HL4.out.1:_=_),HL4.out.2,(by have:=HL4.out.1;have:=HM3.out;omega:L3<=300),HG7,HZ7,HB7⟩
   case measure=>omega
  ·have hli:¬ (i:Int)<(ks.length:Int):=by omega
   have hik:i=ks.length:=by omega
   subst hik;have HLR:Hid (L2=R.length):=by show _=_;have:=HL.out;rw [List.drop_length] at this;simpa using this
   have HRR:Hid (RdN wr (some ⟨bb,X2,none⟩) R):=by show RdN _ _ _;have:=HR.out;rw [List.drop_length] at this;simpa using this
   obtain ⟨av5,m5,c5,rfl⟩:=HG.out.own.slice;have rP:=HG.out.at'.range;have hth:World.there wr w.heap.size 0 (zAP x (.slice av5 m5 c5)).toArray.size:=HZ.out.there;have pF:AtL (wr.setCells w.heap.size 0 (zAP x (.slice av5 m5 c5))) w.heap.size (zAP x (.slice av5 m5 c5)):=HZ.out.setAll rfl;have HPF:Hid ((wr.setCells w.heap.size 0 (zAP x (.slice av5 m5 c5))).rangeAt w.heap.size 0 (zAP x (.slice av5 m5 c5))):=pF.range;have HBF:Hid (Below w.heap.size w (wr.setCells w.heap.size 0 (zAP x (.slice av5 m5 c5)))):=zAa HB.out (Nat.le_refl _) _ 0;have HPAF:Hid (PA (n+1) k1 wr.heap.size wr (⟨x,ks⟩:Br (Tr n)) (.slice av5 m5 c5)):=HG.out.done _ (by rw [HPS.out,List.take_length]);have HFF:Hid (Fr [w.heap.size] wr (wr.setCells w.heap.size 0 (zAP x (.slice av5 m5 c5)))):=zBn _ _ _ _;clear pF HG HZ HB HR HL HPS;go_wp2_with (first | (refine zAA (by rfl) 64 (.tmp 4) rfl k1 0 rfl (zAP x (.slice av5 m5 c5)) _ rP underlying64 rfl (by kernel_rfl) ?_) | ((with_reducible refine wpList_store_mid ?_ 64 (.tmp 2) (.tmp 31) ?_ w.heap.size 0 (zAP x (.slice av5 m5 c5)).toArray ?_ ?_ ?_ ?_ ?_ ?_);rfl;rfl;rfl;rfl;exact hth;kernel_rfl;exact zBV _ _ _ _))
   have hk1:=HK1.out;have hFF:=HFF.out;refine bodyPost_ret (zC7 (by rfl) _ _ w.heap.size (zAP x (.slice av5 m5 c5)) _ (by rfl) HPF.out underlying64 rfl (by kernel_rfl)) rfl ⟨⟨_,_,_,_,rfl,HLR.out,PA.wide (Nat.le_of_lt hk1) hFF.size (n+1) _ _ (PA.kept (Kept.of_fr hFF (λj hj=>by simp at hj;omega)) (n+1) _ _ HPAF.out),HRR.out.fr hFF (by have:=HBB.out;simp;omega),HC.out⟩,HBF.out⟩
theorem zEg:∀ n,GrC n
 | 0=>λt=>Empty.elim t
 | n+1=>zG4 n (zEg n)
def RdS (w:World) (av:Option Addr) (L:List ByteArray):Prop:=∀ i (h:i<L.length),∃ bb off,av=some ⟨bb,off,none⟩/\w.cell? ⟨bb,off+i,none⟩=some (.string (L[i]))
theorem RdS.below {L:List ByteArray} (h:RdS w av L) (hb:Below w.heap.size w w'):RdS w' av L:=λi hi=>by
 obtain ⟨bb,off,e,hc⟩:=h i hi;exact ⟨bb,off,e,zAC hb hc⟩
theorem str_eqb {x:ByteArray}:s.toList=x.toList ↔ s=x:=by
 refine ⟨λh=>?_,λh=>by rw [h]⟩;rw [ByteArray.toList_eq,ByteArray.toList_eq] at h;exact ByteArray.ext (Array.toList_inj.mp h)
theorem zMA {x:ByteArray} (h:¬ s=x):(s.toList == x.toList)=false:=by
 rw [beq_eq_false_iff_ne];exact λe=>h (str_eqb.1 e)
theorem zH9 (h:¬ s=⟨#[]⟩):s.toList.isEmpty=false:=by
 cases hs:s.toList with
 | nil=>exact absurd (str_eqb.1 (hs.trans (by rw [ByteArray.toList_eq]))) h
 | cons a r=>rfl
theorem zG2 (s:ByteArray) (nm:List ByteArray) (av:Option Addr) (m cap:Nat) (w:World) (hm:m=nm.length) (hl:nm.length<=16) (hR:RdS w av nm):CR 114 #[.slice av m cap,.string s] w (.int .i64 (idx s nm 0)):=by
 generalize hq:idx s nm 0=q;have HM:Hid (m=nm.length/\nm.length<=16):=⟨hm,hl⟩
 have HR:Hid (RdS w av nm):=hR;clear hm hl hR;go_enter func114,ntmps114;go_wp2_with fail
 go_loopg [5,8] m (λgk u x wr=>∃ i:Nat,x=.int .i64 (i:Int)/\gk=m - i/\i<=m/\Hid (idx s (nm.drop i) i=q)/\w=wr)
 case atStart=>exact ⟨0,rfl,rfl,Nat.zero_le _,(by rw [List.drop_zero];exact hq:_=_),rfl⟩
 case round =>
  obtain ⟨i,rfl,hg,hi,HQ,rfl⟩:=hrel;by_cases hlt:i<m
  ·have hli:(i:Int)<(m:Int):=by omega
   have hiz:(0:Int)<=(i:Int):=by omega
   have hwi:IntKind.i64.wrap ((i:Int)+1)=(i:Int)+1:=by have:=HM.out;rw [IntKind.wrap_i64];omega
   have hln:i<nm.length:=by have:=HM.out;omega
   obtain ⟨bb,off,rfl,hc⟩:=HR.out i hln;have hd1:=List.drop_eq_getElem_cons hln;rw [hd1] at HQ;simp only [idx] at HQ;obtain ⟨x,hx⟩:∃ x,nm[i]=x:=⟨_,rfl⟩
   rw [hx] at HQ hc;clear hd1 hx hq hln;by_cases he:x=s
   ·subst he;rw [if_pos rfl] at HQ;go_wp2;go_ret;exact ⟨congrArg (λz=>Ending.returned (Value.int .i64 z)) HQ.out,Below.refl _ _⟩
   ·rw [if_neg he] at HQ;have he3:(s.toList == x.toList)=false:=zMA (λh=>he h.symm);have he4:¬ s.toList=x.toList:=λh=>he (str_eqb.1 h).symm
    clear he;go_wp2;go_roundg (m - (i+1))
    case rel=>exact ⟨i+1,by simp,rfl,hlt,HQ,rfl⟩
    case measure=>omega
  ·have hli:¬ (i:Int)<(m:Int):=by omega
   have HQ2:Hid (-1=q):=by
    have hie:i=nm.length:=by have:=HM.out;omega
    rw [hie,List.drop_length] at HQ;exact HQ
   clear HQ hq;go_wp2;go_ret;exact ⟨congrArg (λz=>Ending.returned (Value.int .i64 z)) HQ2.out,Below.refl _ _⟩
abbrev zBx (own:Int) (av:Option Addr) (m cap:Nat):Value:=.agg #[.int .i64 own,.slice av m cap]
theorem zCl (own:Int) (nm:List ByteArray) (s:ByteArray) (av:Option Addr) (m cap:Nat) (w:World) (hm:m=nm.length) (hl:nm.length<=16) (hR:RdS w av nm):CR 78 #[zBx own av m cap,.string s] w (.int .i64 (shN own nm s)):=by
 have hb:=zAK (Below.refl _ w) (.cells #[.int .i64 own,.slice av m cap] 60);have p:=AtL.new0 w 60 [.int .i64 own,.slice av m cap];have c0:=p.2.1 0 _ rfl;have c1:=p.2.1 1 _ rfl;have IX:=λ(w2:World) (h:RdS w2 av nm)=>zG2 s nm av m cap w2 hm hl h
 have hR2:=hR.below hb;clear p hm hl hR;unfold shN;by_cases he:s=⟨#[]⟩
 ·subst he;rw [if_pos rfl];clear IX hR2;go_enter func78,ntmps78;go_upto_region 1 with fail
  generalize (w.alloc (.cells [.int .i64 own,.slice av m cap].toArray 60))=W at *;go_wp2;go_ret;exact ⟨rfl,hb⟩
 ·rw [if_neg he];have he3:s.toList.isEmpty=false:=zH9 he;have he4:¬ s.toList=[]:=λh=>by rw [h] at he3;cases he3
  go_enter func78,ntmps78;go_upto_region 1 with fail
  generalize (w.alloc (.cells [.int .i64 own,.slice av m cap].toArray 60))=W at *;go_wp2_with fail
  refine (IX _ hR2).mono ?_;rintro e w1 ⟨rfl,hb1⟩;have hB:=zAB hb hb1;go_wp2;go_ret;exact ⟨rfl,hB⟩
def RdQ (w:World) (av:Option Addr) (L:List (Wt.Nd × Value)):Prop:=∀ i (h:i<L.length),∃ bb off,av=some ⟨bb,off,none⟩/\w.rangeAt bb (off+i * 21) (zAP (L[i]).1 (L[i]).2)
theorem RdQ.below {L:List (Wt.Nd × Value)} (h:RdQ w av L) (hb:Below w.heap.size w w'):RdQ w' av L:=λi hi=>by
 obtain ⟨bb,off,e,hr⟩:=h i hi;exact ⟨bb,off,e,zAI hb hr⟩
theorem RdT.q {lo hi:Nat} {ps:List (Tr n × Value)} (h:RdT n lo hi w av ps):RdQ w av (ps.map λp=>(hd n p.1,p.2)):=λi hi'=>by
 obtain ⟨bb,off,_,_,e,hr⟩:=h i (by simpa using hi');exact ⟨bb,off,e,by simpa using hr⟩
theorem zCV (x:Wt.Nd) (sl:Value) (w:World):CR 26 #[.agg (zAP x sl).toArray] w (.bool (isA x)):=by
 have hb:=zAK (Below.refl _ w) (.cells (zAP x sl).toArray 64);have p:=AtL.new0 w 64 (zAP x sl);have c0:(w.alloc (.cells (zAP x sl).toArray 64)).cell? ⟨w.heap.size,0,none⟩=some (.int .i64 x.k):=p.2.1 0 _ rfl;clear p;go_enter func26,ntmps26;go_upto_region 1 with fail
 generalize (w.alloc (.cells (zAP x sl).toArray 64))=W at *;go_wp2;go_ret;exact ⟨rfl,hb⟩
theorem zFN (L:List (Wt.Nd × Value)) (av:Option Addr) (m cap:Nat) (w:World) (hm:m=L.length) (hl:L.length<=30) (hR:RdQ w av L):Calls prog 115 #[.slice av m cap,.func (.func 26) #[] #[]] w λe w'=>(∃ v:Int,e=.returned (.int .i64 v)/\decide (0<=v)=L.any (λp=>isA p.1))/\Below w.heap.size w w':=by
 have eg:∀ args w,(callFunc 26 args).run prog w=.ok (.enter 26 args) w:=λ_ _=>by kernel_rfl
 generalize hq:L.any (λp=>isA p.1)=q;have HM:Hid (m=L.length/\L.length<=30):=⟨hm,hl⟩
 have HR:Hid (RdQ w av L):=hR;clear hm hl hR;go_enter func115,ntmps115;go_wp2_with fail
 go_loopg [5,8] m (λgk u x wr=>∃ i:Nat,x=.int .i64 (i:Int)/\gk=m - i/\i<=m/\Hid ((L.drop i).any (λp=>isA p.1)=q)/\Hid (Below w.heap.size w wr))
 case atStart=>exact ⟨0,rfl,rfl,Nat.zero_le _,(by rw [List.drop_zero];exact hq:_=_),Below.refl _ _⟩
 case round =>
  obtain ⟨i,rfl,hg,hi,HQ,HB⟩:=hrel;by_cases hlt:i<m
  ·have hli:(i:Int)<(m:Int):=by omega
   have hiz:(0:Int)<=(i:Int):=by omega
   have hwi:IntKind.i64.wrap ((i:Int)+1)=(i:Int)+1:=by have:=HM.out;rw [IntKind.wrap_i64];omega
   have hln:i<L.length:=by have:=HM.out;omega
   obtain ⟨bb,off,rfl,hr⟩:=(HR.out.below HB.out) i hln;have hd1:=List.drop_eq_getElem_cons hln;rw [hd1,List.any_cons] at HQ;obtain ⟨x,hx⟩:∃ x,L[i]=x:=⟨_,rfl⟩
   rw [hx] at HQ hr;obtain ⟨x,sl⟩:=x;simp only at HQ hr;have IA:=λw=>zCV x sl w
   clear hd1 hx hq hln;cases hb:isA x with
   | true =>
    rw [hb] at IA;rw [hb,Bool.true_or] at HQ;go_wp2_with (first | (refine zAA (by rfl) 64 (.tmp 14) rfl bb (off+i * 21) rfl (zAP x sl) _ hr underlying64 rfl (by kernel_rfl) ?_) | (go_at_call 26;refine (IA _).mono ?_;rintro e w1 ⟨rfl,hb1⟩))
    go_ret;exact ⟨⟨_,rfl,by rw [<-HQ.out];simp⟩,zAB HB.out hb1⟩
   | false =>
    rw [hb] at IA;rw [hb,Bool.false_or] at HQ;go_wp2_with (first | (refine zAA (by rfl) 64 (.tmp 14) rfl bb (off+i * 21) rfl (zAP x sl) _ hr underlying64 rfl (by kernel_rfl) ?_) | (go_at_call 26;refine (IA _).mono ?_;rintro e w1 ⟨rfl,hb1⟩))
    have HB1:Hid (Below w.heap.size w w1):=zAB HB.out hb1;clear hb1 HB;go_roundg (m - (i+1))
    case rel=>exact ⟨i+1,by simp,rfl,hlt,HQ,HB1⟩
    case measure=>omega
  ·have hli:¬ (i:Int)<(m:Int):=by omega
   have HQ2:Hid (false=q):=by
    have hie:i=L.length:=by have:=HM.out;omega
    rw [hie,List.drop_length] at HQ;exact HQ
   clear HQ hq;go_wp2;go_ret;exact ⟨⟨_,rfl,by rw [<-HQ2.out];simp⟩,HB.out⟩
theorem zC2 (L:List (Wt.Nd × Value)) (av:Option Addr) (m cap:Nat) (w:World) (hm:m=L.length) (hl:L.length<=30) (hR:RdQ w av L):CR 79 #[.slice av m cap,.func (.func 26) #[] #[]] w (.bool (L.any (λp=>isA p.1))):=by
 have IX:=zFN L av m cap w hm hl hR;clear hm hl hR;generalize L.any (λp=>isA p.1)=q at *;go_enter func79,ntmps79;go_wp2_with fail
 refine IX.mono ?_;rintro e w1 ⟨⟨v,rfl,hv⟩,hb1⟩;have H:Hid (decide (0<=v)=q):=hv;clear hv;go_wp2;go_ret;exact ⟨by rw [<-H.out];rfl,hb1⟩
open Go.RowKit
def Cells (w:World) (blk off n:Nat) (F:Nat->Wpl.Cl):Prop :=
 ∀ j,j<n->w.cell? ⟨blk,off+j * 3,none⟩=some (.int .i64 (F j).s)/\w.cell? ⟨blk,off+j * 3+1,none⟩=some (.int .i64 (F j).r)/\w.cell? ⟨blk,off+j * 3+2,none⟩=some (.int .i64 (F j).c)
theorem Cells.below {W W':World} {blk:Nat} {F:Nat->Wpl.Cl} (h:Cells W blk off n F) (hb:blk<W.heap.size) (hB:Below W.heap.size W W'):Cells W' blk off n F:=λj hj =>
 ⟨(hB.cell (p:=⟨blk,off+j * 3,none⟩) hb).trans (h j hj).1,(hB.cell (p:=⟨blk,off+j * 3+1,none⟩) hb).trans (h j hj).2.1,(hB.cell (p:=⟨blk,off+j * 3+2,none⟩) hb).trans (h j hj).2.2⟩
theorem zGw (q:Int) (blk off n cap:Nat) (F:Nat->Wpl.Cl) (w:World) (hn:n<=1000000000000000) (hb:blk<w.heap.size) (hc:Cells w blk off n F) :
  Calls prog 167 #[.slice (some ⟨blk,off,none⟩) n cap,.func (.func 148) #[.int .i64 q] #[]] w λe w'=>∃ v:Int,e=.returned (.int .i64 v)/\decide (0<=v)=Wpl.anyN q F n/\Below w.heap.size w w':=by
 have eg:∀ args w,(callFunc 148 args).run prog w=.ok (.enter 148 args) w:=λ_ _=>by kernel_rfl
 go_enter func167,ntmps167;go_wp2;go_loopw [5,8] (λ_ i wr=>∃ j:Nat,j<=n/\i=.int .i64 j/\Hid (∀ m,m<j->Wpl.lacks q (F m)=false)/\Below w.heap.size w wr) (λ_ i _=>n - (intOf i).toNat)
 case atStart=>exact ⟨0,Nat.zero_le _,rfl,(λm hm=>absurd hm (Nat.not_lt_zero _):∀ m,m<0->Wpl.lacks q (F m)=false),Below.refl _ _⟩
 case round =>
  obtain ⟨j,hj,rfl,A,qB⟩:=hrel;by_cases hlt:j<n
  ·have hltz:(j:Int)<(n:Int):=by omega
   obtain ⟨x0,x1,x2⟩:=hc j hlt;have y0:wr.cell? ⟨blk,off+j * 3,none⟩=some (.int .i64 (F j).s):=(qB.cell (p:=⟨blk,off+j * 3,none⟩) hb).trans x0;have y1:wr.cell? ⟨blk,off+j * 3+1,none⟩=some (.int .i64 (F j).r):=(qB.cell (p:=⟨blk,off+j * 3+1,none⟩) hb).trans x1;have y2:wr.cell? ⟨blk,off+j * 3+2,none⟩=some (.int .i64 (F j).c):=(qB.cell (p:=⟨blk,off+j * 3+2,none⟩) hb).trans x2;have L:=λw=>zGg q (F j).s (F j).r (F j).c w
   clear x0 x1 x2;generalize hq:Wpl.lacks q ⟨(F j).s,(F j).r,(F j).c⟩=b at L;have B:Hid (Wpl.lacks q (F j)=b):=hq;clear hq;generalize (F j).s=sj at *;generalize (F j).r=rj at *;generalize (F j).c=cj at *;cases b with
   | true =>
    go_wp2_with (go_at_call 148;refine (L _).mono ?_;rintro e w1 ⟨rfl,hb1⟩)
    go_ret;exact ⟨_,rfl,by rw [Wpl.anyN_hit hlt B.out];simp,zAh qB hb1⟩
   | false =>
    go_wp2_with (go_at_call 148;refine (L _).mono ?_;rintro e w1 ⟨rfl,hb1⟩)
    go_roundw
    case rel =>
     refine ⟨j+1,by omega,by go_num,(λm hm=>?_:∀ m,m<j+1->Wpl.lacks q (F m)=false),zAh qB hb1⟩;by_cases e:m=j
     ·rw [e];exact B.out
     ·exact A.out m (by omega)
    case measure=>simp [intOf];omega
  ·have hltz:¬ (j:Int)<(n:Int):=by omega
   have e:j=n:=by omega
   subst e;go_wp2;go_ret;exact ⟨_,rfl,by rw [Wpl.anyN_miss A.out];rfl,qB⟩
theorem zBO (q:Int) (blk off n cap:Nat) (F:Nat->Wpl.Cl) (w:World) (hn:n<=1000000000000000) (hb:blk<w.heap.size) (hc:Cells w blk off n F) :
  CR 147 #[.slice (some ⟨blk,off,none⟩) n cap,.func (.func 148) #[.int .i64 q] #[]] w (.bool (Wpl.anyN q F n)):=by
 go_enter func147,ntmps147;go_wp2_with fail
 refine (zGw q blk off n cap F _ hn hb hc).mono ?_;rintro e w1 ⟨v,rfl,hv,hb1⟩;have H:Hid (decide (0<=v)=Wpl.anyN q F n):=hv;clear hv;go_wp2;go_ret;exact ⟨by rw [<-H.out];rfl,hb1⟩
