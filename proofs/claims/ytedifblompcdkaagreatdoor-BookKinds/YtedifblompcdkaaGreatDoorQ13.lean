/- KGrowB, KSite, KFnOf, KTakes, PWalkB. -/
import Derived.Test.YtedifblompcdkaaGreatDoorQ12
set_option maxHeartbeats 1600000
set_option maxRecDepth 100000
namespace Go.Proofs.YtedifblompcdkaaGreatDoor
open Tryz
open Go.RowKit Wf
set_option linter.unusedVariables false
variable {w w':World} {s x:ByteArray} {av:Option Addr} {P:Program} {ops:Array Oper} {rest:List Oper} {op:Oper} {a:Act} {Q:Exit->Act->World->Prop} {off n:Nat}
def GrP (n:Nat) (t:Tr n) (bb:Nat) (R:List Wt.Nd) (w:World) (e:Ending) (w':World):Prop :=
 (∃ (sl:Value) (X L C:Nat),e=.returned (.tuple #[.agg (zAI (hd n t) sl).toArray,.slice (some ⟨bb,X,none⟩) L C])/\L=R.length/\PA n w.heap.size w'.heap.size w' t sl/\RdN w' (some ⟨bb,X,none⟩) R/\L<=C)/\Below w.heap.size w w'
def GrC (n:Nat):Prop:=∀ (t:Tr n) (bb off L cap:Nat) (R:List Wt.Nd) (w:World),zDT n t->L=(row n t++R).length->L<=300->L<=cap->RdN w (some ⟨bb,off,none⟩) (row n t++R) ->
 Calls prog 130 #[.slice (some ⟨bb,off,none⟩) L cap] w (GrP n t bb R w)
theorem RdN.fr {S:List Nat} {bb:Nat} {L:List Wt.Nd} (h:RdN w (some ⟨bb,off,none⟩) L) (hf:Fr S w w') (hn:bb ∉ S):RdN w' (some ⟨bb,off,none⟩) L:=λi hi=>by
 obtain ⟨b2,o2,e,hr⟩:=h i hi;cases e
 exact ⟨bb,off,rfl,hf.range hr hn⟩
theorem zI2 (n:Nat) (ih:GrC n):GrC (n+1):=by
 intro t bb off L cap R w hF hLe hL hC hR;obtain ⟨x,ks⟩:Br (Tr n):=t;obtain ⟨hx,hp,hks⟩:=hF;replace hx:Wt.right x=true:=hx
 replace hp:Wt.parts x=(ks.length:Int):=hp
 replace hks:∀ k ∈ ks,zDT n k:=hks
 have hrow:row (n+1) (⟨x,ks⟩:Br (Tr n))=x::(ks.map (row n)).flatten:=rfl;rw [hrow,List.cons_append] at hLe hR;unfold GrP;have hhd:hd (n+1) (⟨x,ks⟩:Br (Tr n))=x:=rfl;simp only [hhd];obtain ⟨b9,o9,e9,hr0⟩:=hR 0 (by simp);cases e9
 have HBB:Hid (bb<w.heap.size):=zAp (hr0 0 _ rfl);have HF:Hid (∀ k ∈ ks,zDT n k):=hks;have HP:Hid (Wt.parts x=(ks.length:Int)):=hp;have HCO:Hid (∀ w:World,CR 157 #[.agg (zAK x).toArray] w (.int .i64 (ks.length:Int))):=λw=>by rw [<-hp];exact zHZ x w
 have HIH:Hid (GrC n):=ih;have HKL:Hid (ks.length<=30):=by have:=(Wt.parts_le hx).2;show ks.length<=30;omega
 simp only [List.length_cons] at hLe;obtain ⟨m,hm⟩:∃ m,((ks.map (row n)).flatten++R).length=m:=⟨_,rfl⟩
 rw [hm] at hLe;subst hLe;have HM:Hid (((ks.map (row n)).flatten++R).length=m/\m+1<=300):=⟨hm,hL⟩
 simp only [List.getElem_cons_zero,Nat.zero_mul,Nat.add_zero] at hr0;have HR:Hid (RdN w (some ⟨bb,off,none⟩) (x::((ks.map (row n)).flatten++R))):=hR;have hmi:(0:Int)<((m+1:Nat):Int):=by omega
 clear hx hp hks hR hL hm ih hrow;have pR0:AtL (w.alloc (.cells zeros21 188)) w.heap.size zeros21.toList:=AtL.new0 w _ _;have hb1:=zAH (Below.refl _ w) (.cells zeros21 188);have h1:=zAF hb1 hr0;have HR1:Hid (RdN (w.alloc (.cells zeros21 188)) (some ⟨bb,off,none⟩) (x::((ks.map (row n)).flatten++R))):=HR.out.below hb1;clear hr0 HR;go_enter func130,ntmps130;go_upto_region 1 with fail
 generalize (w.alloc (.cells zeros21 188))=W1 at *;have pP0:AtL (W1.alloc (.cells zeros21 188)) W1.heap.size zeros21.toList:=AtL.new0 W1 _ _;have hth:World.there (W1.alloc (.cells zeros21 188)) W1.heap.size 0 (zAI x (.slice none 0 0)).toArray.size:=pP0.there;clear pP0;go_upto_region 2 with (first | (refine zAB (by rfl) 102 (.tmp 8) rfl bb off rfl (zAK x) _ h1 underlying102 rfl (by kernel_rfl) ?_) | (refine zFb rfl (.tmp 9) rfl x rfl ?_) | ((with_reducible refine wpList_store_mid ?_ 188 (.tmp 4) (.tmp 10) ?_ W1.heap.size 0 (zAI x (.slice none 0 0)).toArray ?_ ?_ ?_ ?_ ?_ ?_);rfl;rfl;rfl;rfl;exact hth;kernel_rfl;exact zAn _ _ _ _))
 have pP:AtL ((W1.alloc (.cells zeros21 188)).setCells W1.heap.size 0 (zAI x (.slice none 0 0))) W1.heap.size (zAI x (.slice none 0 0)):=(AtL.new0 W1 _ _:AtL (W1.alloc (.cells zeros21 188)) W1.heap.size zeros21.toList).setAll rfl;have hb2:Below W1.heap.size W1 ((W1.alloc (.cells zeros21 188)).setCells W1.heap.size 0 (zAI x (.slice none 0 0))):=zBJ (zAH (Below.refl _ W1) _) (Nat.le_refl _) _ 0;have pR1:=AtL.below hb2 pR0;have hB2:=zAA hb1 hb2;have HR2:Hid (RdN ((W1.alloc (.cells zeros21 188)).setCells W1.heap.size 0 (zAI x (.slice none 0 0))) (some ⟨bb,off,none⟩) (x::((ks.map (row n)).flatten++R))):=HR1.out.below hb2;have HK1:Hid (w.heap.size<W1.heap.size):=pR0.lt;clear hth pR0 h1 hb1 hb2 HR1;generalize ((W1.alloc (.cells zeros21 188)).setCells W1.heap.size 0 (zAI x (.slice none 0 0)))=W2 at *;obtain ⟨k1,hk1⟩:∃ k,W1.heap.size=k:=⟨_,rfl⟩
 rw [hk1] at pP HK1;simp only [hk1];clear hk1;have rN:=zCP pP.range;have CO:=HCO.out W2;go_wp2_with (first | (refine zH3 rfl (.tmp 11) rfl bb off m cap rfl hC ?_;intro X C hX hmC) | (refine zAB (by rfl) 102 (.tmp 13) rfl k1 0 rfl (zAK x) _ rN underlying102 rfl (by kernel_rfl) ?_))
 refine CO.mono ?_;rintro e w3 ⟨rfl,hb3⟩;have HG:Hid (GrS n w.heap.size w3 k1 x (.slice none 0 0) []):=⟨AtL.below hb3 pP,OwnP.nil _ _,λp hp=>by cases hp⟩
 have HZ:Hid (AtL w3 w.heap.size zeros21.toList):=AtL.below hb3 pR1;have HB3:Hid (Below w.heap.size w w3):=zAA hB2 hb3;have HR3:Hid (RdN w3 (some ⟨bb,X,none⟩) ((ks.map (row n)).flatten++R)):=(HR2.out.tail (λh=>hX (by have:=HM.out.1;omega))).below hb3;have HC3:Hid (m<=C):=hmC;have HL3:Hid (((ks.map (row n)).flatten++R).length=m):=HM.out.1;have HM2:Hid (m<=300):=by have:=HM.out.2;show m<=300;omega
 clear CO rN pP pR1 hB2 hb3 HCO HR2 hX hmC hC hmi HM hhd;go_wp2_with fail
 go_loopg [0,16] ks.length (λgk a b wr=>∃ (i L2 X2 C2:Nat) (sv:Value) (ps:List (Tr n × Value)),a=.slice (some ⟨bb,X2,none⟩) L2 C2/\b=.int .i64 (i:Int)/\gk=ks.length - i/\i<=ks.length/\Hid (ps.map (·.1)=ks.take i)/\Hid (RdN wr (some ⟨bb,X2,none⟩) (((ks.drop i).map (row n)).flatten++R))/\Hid (L2=(((ks.drop i).map (row n)).flatten++R).length)/\Hid (L2<=C2)/\Hid (L2<=300)/\Hid (GrS n w.heap.size wr k1 x sv ps)/\Hid (AtL wr w.heap.size zeros21.toList)/\Hid (Below w.heap.size w wr))
 case atStart=>exact ⟨0,_,_,_,_,[],rfl,rfl,rfl,Nat.zero_le _,(by simp:([]:List (Tr n × Value)).map (·.1)=ks.take 0),(by rw [List.drop_zero];exact HR3.out:RdN w3 _ _),(by rw [List.drop_zero];exact HL3.out.symm:m=_),HC3,HM2,HG,HZ,HB3⟩
 case round =>
  clear HR3 HC3 HL3 HM2 HG HZ HB3;obtain ⟨i,L2,X2,C2,sv,ps,rfl,rfl,hg,hi,HPS,HR,HL,HC,HM,HG,HZ,HB⟩:=hrel;by_cases hlt:i<ks.length
  ·have hli:(i:Int)<(ks.length:Int):=by omega
   have hwi:IntKind.i64.wrap ((i:Int)+1)=(i:Int)+1:=by have:=HKL.out;rw [IntKind.wrap_i64];omega
   have hdr:((ks.drop i).map (row n)).flatten++R=row n ks[i]++(((ks.drop (i+1)).map (row n)).flatten++R):=by
    rw [List.drop_eq_getElem_cons hlt,List.map_cons,List.flatten_cons,List.append_assoc]
   rw [hdr] at HR HL;have GR:=HIH.out ks[i] bb X2 L2 C2 (((ks.drop (i+1)).map (row n)).flatten++R) wr (HF.out _ (List.getElem_mem hlt)) HL.out HM.out HC.out HR.out;have HPS2:Hid (ps.map (·.1)++[ks[i]]=ks.take (i+1)):=by show _=_;rw [HPS.out,List.take_succ_eq_append_getElem hlt]
   have HM3:Hid ((((ks.drop (i+1)).map (row n)).flatten++R).length<=300):=by have:=HM.out;have h2:=HL.out;rw [List.length_append] at h2;show _<=300;omega
   have HPL:Hid (ps.length<=30):=by have:=congrArg List.length HPS.out;have:=HKL.out;simp at *;show _<=30;omega
   clear hdr HR HC HM HL HPS;obtain ⟨kk,hkk⟩:∃ kk,ks[i]=kk:=⟨_,rfl⟩
   rw [hkk] at GR HPS2;clear hkk;obtain ⟨R2,hR2⟩:∃ R2,((ks.drop (i+1)).map (row n)).flatten++R=R2:=⟨_,rfl⟩
   rw [hR2] at GR HM3;have HR2:Hid (((ks.drop (i+1)).map (row n)).flatten++R=R2):=hR2;clear hR2;unfold GrP at GR;go_wp2_with fail
   refine GR.mono ?_;rintro e w4 ⟨⟨sl,X3,L3,C3,rfl,hl4,hpa,hr4,hc4⟩,hb4⟩;obtain ⟨av5,m5,c5,rfl⟩:=hpa.slice;have HG4:Hid (GrS n w.heap.size w4 k1 x sv ps):=HG.out.below hb4;have HZ4:Hid (AtL w4 w.heap.size zeros21.toList):=AtL.below hb4 HZ.out;have HB4:Hid (Below w.heap.size w w4):=zAA HB.out hb4;have HPA:Hid (PA n wr.heap.size w4.heap.size w4 kk (.slice av5 m5 c5)):=hpa;have HR4:Hid (RdN w4 (some ⟨bb,X3,none⟩) R2):=hr4;have HL4:Hid (L3=R2.length/\L3<=C3):=⟨hl4,hc4⟩
   have HS4:Hid (k1<wr.heap.size/\wr.heap.size<=w4.heap.size/\w.heap.size<=wr.heap.size/\∀ j,sv.ownBlock=some j->k1+1<=j/\j<wr.heap.size):=⟨HG.out.at'.lt,hb4.size,HB.out.size,λj e=>zAL HG.out.own e⟩
   clear hpa hr4 hl4 hc4 hb4 HG HZ HB GR;have hth:World.there (w4.alloc (.cells zeros21 188)) w4.heap.size 0 (zAI (hd n kk) (.slice av5 m5 c5)).toArray.size:=(AtL.new0 w4 _ _:AtL (w4.alloc (.cells zeros21 188)) w4.heap.size zeros21.toList).there;have HPI:Hid (AtL ((w4.alloc (.cells zeros21 188)).setCells w4.heap.size 0 (zAI (hd n kk) (.slice av5 m5 c5))) w4.heap.size (zAI (hd n kk) (.slice av5 m5 c5))):=(AtL.new0 w4 _ _:AtL (w4.alloc (.cells zeros21 188)) w4.heap.size zeros21.toList).setAll rfl;have hb5:Below w4.heap.size w4 ((w4.alloc (.cells zeros21 188)).setCells w4.heap.size 0 (zAI (hd n kk) (.slice av5 m5 c5))):=zBJ (zAH (Below.refl _ w4) _) (Nat.le_refl _) _ 0;have HHB:Hid (Below w4.heap.size w4 ((w4.alloc (.cells zeros21 188)).setCells w4.heap.size 0 (zAI (hd n kk) (.slice av5 m5 c5)))):=hb5;clear hb5;obtain ⟨y,hy⟩:∃ y,hd n kk=y:=⟨_,rfl⟩
   have HY:Hid (hd n kk=y):=hy;rw [hy] at hth HPI HHB ⊢;clear hy;go_upto_region 6 with (first | ((with_reducible refine wpList_store_mid ?_ 188 (.tmp 5) (.tmp 21) ?_ w4.heap.size 0 (zAI y (.slice av5 m5 c5)).toArray ?_ ?_ ?_ ?_ ?_ ?_);rfl;rfl;rfl;rfl;exact hth;kernel_rfl;exact zAn _ _ _ _))
   clear hth;have hb5:=HHB.out;have HG5:Hid (GrS n w.heap.size ((w4.alloc (.cells zeros21 188)).setCells w4.heap.size 0 (zAI y (.slice av5 m5 c5))) k1 x sv ps):=HG4.out.below hb5;have HZ5:Hid (AtL ((w4.alloc (.cells zeros21 188)).setCells w4.heap.size 0 (zAI y (.slice av5 m5 c5))) w.heap.size zeros21.toList):=AtL.below hb5 HZ4.out;have HB5:Hid (Below w.heap.size w ((w4.alloc (.cells zeros21 188)).setCells w4.heap.size 0 (zAI y (.slice av5 m5 c5)))):=zAA HB4.out hb5;have HPA5:Hid (PA n wr.heap.size w4.heap.size ((w4.alloc (.cells zeros21 188)).setCells w4.heap.size 0 (zAI y (.slice av5 m5 c5))) kk (.slice av5 m5 c5)):=PA.kept (Kept.of_below hb5) n _ _ HPA.out;have HR5:Hid (RdN ((w4.alloc (.cells zeros21 188)).setCells w4.heap.size 0 (zAI y (.slice av5 m5 c5))) (some ⟨bb,X3,none⟩) R2):=HR4.out.below hb5;have HS5:Hid (w4.heap.size<=((w4.alloc (.cells zeros21 188)).setCells w4.heap.size 0 (zAI y (.slice av5 m5 c5))).heap.size):=hb5.size;clear hb5 HHB HG4 HZ4 HB4 HPA HR4;generalize ((w4.alloc (.cells zeros21 188)).setCells w4.heap.size 0 (zAI y (.slice av5 m5 c5)))=W5 at *;obtain ⟨ib,hib⟩:∃ k,w4.heap.size=k:=⟨_,rfl⟩
   rw [hib] at HPI HPA5 HS4 HS5;simp only [hib];clear hib;have rI:=HPI.out.range;have c20:W5.cell? ⟨k1,20,none⟩=some sv:=HG5.out.at'.2.1 20 sv rfl;have hb6:=zAH (Below.refl _ W5) (.cells (zAI y (.slice av5 m5 c5)).toArray 188);have HAT:Hid ((W5.alloc (.cells (zAI y (.slice av5 m5 c5)).toArray 188)).rangeAt W5.heap.size 0 (zAI y (.slice av5 m5 c5))):=(AtL.new0 W5 188 (zAI y (.slice av5 m5 c5))).range;have HG6:Hid (GrS n w.heap.size (W5.alloc (.cells (zAI y (.slice av5 m5 c5)).toArray 188)) k1 x sv ps):=HG5.out.below hb6;have HZ6:Hid (AtL (W5.alloc (.cells (zAI y (.slice av5 m5 c5)).toArray 188)) w.heap.size zeros21.toList):=AtL.below hb6 HZ5.out;have HB6:Hid (Below w.heap.size w (W5.alloc (.cells (zAI y (.slice av5 m5 c5)).toArray 188))):=zAA HB5.out hb6;have HPA6:Hid (PA n wr.heap.size ib (W5.alloc (.cells (zAI y (.slice av5 m5 c5)).toArray 188)) kk (.slice av5 m5 c5)):=PA.kept (Kept.of_below hb6) n _ _ HPA5.out;have HR6:Hid (RdN (W5.alloc (.cells (zAI y (.slice av5 m5 c5)).toArray 188)) (some ⟨bb,X3,none⟩) R2):=HR5.out.below hb6;have HS6:Hid (ib<=(W5.alloc (.cells (zAI y (.slice av5 m5 c5)).toArray 188)).heap.size):=Nat.le_trans HS5.out hb6.size;have HKS:Hid (k1+1<=(W5.alloc (.cells (zAI y (.slice av5 m5 c5)).toArray 188)).heap.size):=HG6.out.at'.lt;clear hb6 HG5 HZ5 HB5 HPA5 HR5 HS5 HPI;go_wp2_with (first
    | (refine zAB (by rfl) 188 (.tmp 5) rfl ib 0 rfl (zAI y (.slice av5 m5 c5)) _ rI underlying188 rfl (by kernel_rfl) ?_)
    | (refine zBo rfl (.tmp 25) rfl y av5 m5 c5 rfl ?_;clear rI c20)
    | (
      refine zBh rfl (.tmp 24) (.tmp 26) rfl (W5.alloc (.cells (zAI y (.slice av5 m5 c5)).toArray 188)) (k1+1) HKS.out sv (ps.map λp=>(hd n p.1,p.2)) rfl HG6.out.own W5.heap.size y av5 m5 c5 rfl HAT.out (λ_=>by have:=HPL.out;simp;omega) ?_;intro v7 w7 own7 hg7 hv7;obtain ⟨a8,m8,c8,rfl⟩:=own7.slice;have HGF:=HG6.out.app HPA6.out (by have:=HS4.out;omega) HS6.out (λj e=>(HS4.out.2.2.2 j e).2) HS4.out.1 (by rw [HY.out];exact own7) hg7 hv7;have f7:Fr sv.ownBlock.toList (W5.alloc (.cells (zAI y (.slice av5 m5 c5)).toArray 188)) w7:=Fr.of_grown hg7 (λj e=>by simp [e]);have a7:=HG6.out.at'.fr f7 (λe=>by have:=(HS4.out.2.2.2 k1 (by simpa using e)).1;omega);have c7:w7.cell? ⟨k1,20,none⟩=some sv:=a7.2.1 20 sv rfl;have z7:=a7.2.2 20 (by rw [zCj];omega);have HH:Hid (GrS n w.heap.size (w7.setCell ⟨k1,20,none⟩ (.slice a8 m8 c8)) k1 x (.slice a8 m8 c8) (ps++[(kk,.slice av5 m5 c5)])/\Fr (k1::sv.ownBlock.toList) (W5.alloc (.cells (zAI y (.slice av5 m5 c5)).toArray 188)) (w7.setCell ⟨k1,20,none⟩ (.slice a8 m8 c8))):=HGF;clear HGF f7 a7 own7 hg7 hv7))
   have hfr:=HH.out.2;have HZ7:Hid (AtL (w7.setCell ⟨k1,20,none⟩ (.slice a8 m8 c8)) w.heap.size zeros21.toList):=HZ6.out.fr hfr (λe=>by
    have h9:=HS4.out;have:=HK1.out;rcases List.mem_cons.1 e with q | q
    ·omega
    ·have:=(h9.2.2.2 w.heap.size (by simpa using q)).1;omega)
   have HB7:Hid (Below w.heap.size w (w7.setCell ⟨k1,20,none⟩ (.slice a8 m8 c8))):=zDL HB6.out hfr (λj e=>by
    have h9:=HS4.out;have:=HK1.out;rcases List.mem_cons.1 e with q | q
    ·omega
    ·have:=(h9.2.2.2 j (by simpa using q)).1;omega)
   have HR7:Hid (RdN (w7.setCell ⟨k1,20,none⟩ (.slice a8 m8 c8)) (some ⟨bb,X3,none⟩) R2):=HR6.out.fr hfr (λe=>by
    have h9:=HS4.out;have:=HK1.out;have:=HBB.out;rcases List.mem_cons.1 e with q | q
    ·omega
    ·have:=(h9.2.2.2 bb (by simpa using q)).1;omega)
   have HG7:Hid (GrS n w.heap.size (w7.setCell ⟨k1,20,none⟩ (.slice a8 m8 c8)) k1 x (.slice a8 m8 c8) (ps++[(kk,.slice av5 m5 c5)])):=HH.out.1;clear hfr HH HZ6 HB6 HR6 HG6 HPA6 HAT HS6 HKS c7 z7;go_roundg (ks.length - (i+1))
   case rel =>
    refine ⟨i+1,_,_,_,_,ps++[(kk,.slice av5 m5 c5)],rfl,by simp,rfl,hlt,(by rw [List.map_append];exact HPS2.out:_=_),(by rw [HR2.out];exact HR7.out:RdN _ _ _),(by rw [HR2.out];exact HL4.out.1:_=_),HL4.out.2,(by have:=HL4.out.1;have:=HM3.out;omega:L3<=300),HG7,HZ7,HB7⟩
   case measure=>omega
  ·have hli:¬ (i:Int)<(ks.length:Int):=by omega
   have hik:i=ks.length:=by omega
   subst hik;have HLR:Hid (L2=R.length):=by show _=_;have:=HL.out;rw [List.drop_length] at this;simpa using this
   have HRR:Hid (RdN wr (some ⟨bb,X2,none⟩) R):=by show RdN _ _ _;have:=HR.out;rw [List.drop_length] at this;simpa using this
   obtain ⟨av5,m5,c5,rfl⟩:=HG.out.own.slice;have rP:=HG.out.at'.range;have hth:World.there wr w.heap.size 0 (zAI x (.slice av5 m5 c5)).toArray.size:=HZ.out.there;have pF:AtL (wr.setCells w.heap.size 0 (zAI x (.slice av5 m5 c5))) w.heap.size (zAI x (.slice av5 m5 c5)):=HZ.out.setAll rfl;have HPF:Hid ((wr.setCells w.heap.size 0 (zAI x (.slice av5 m5 c5))).rangeAt w.heap.size 0 (zAI x (.slice av5 m5 c5))):=pF.range;have HBF:Hid (Below w.heap.size w (wr.setCells w.heap.size 0 (zAI x (.slice av5 m5 c5)))):=zBJ HB.out (Nat.le_refl _) _ 0;have HPAF:Hid (PA (n+1) k1 wr.heap.size wr (⟨x,ks⟩:Br (Tr n)) (.slice av5 m5 c5)):=HG.out.done _ (by rw [HPS.out,List.take_length]);have HFF:Hid (Fr [w.heap.size] wr (wr.setCells w.heap.size 0 (zAI x (.slice av5 m5 c5)))):=zAf _ _ _ _;clear pF HG HZ HB HR HL HPS;go_wp2_with (first | (refine zAB (by rfl) 188 (.tmp 4) rfl k1 0 rfl (zAI x (.slice av5 m5 c5)) _ rP underlying188 rfl (by kernel_rfl) ?_) | ((with_reducible refine wpList_store_mid ?_ 188 (.tmp 2) (.tmp 31) ?_ w.heap.size 0 (zAI x (.slice av5 m5 c5)).toArray ?_ ?_ ?_ ?_ ?_ ?_);rfl;rfl;rfl;rfl;exact hth;kernel_rfl;exact zAn _ _ _ _))
   have hk1:=HK1.out;have hFF:=HFF.out;refine bodyPost_ret (zEA (by rfl) _ _ w.heap.size (zAI x (.slice av5 m5 c5)) _ (by rfl) HPF.out underlying188 rfl (by kernel_rfl)) rfl ⟨⟨_,_,_,_,rfl,HLR.out,PA.wide (Nat.le_of_lt hk1) hFF.size (n+1) _ _ (PA.kept (Kept.of_fr hFF (λj hj=>by simp at hj;omega)) (n+1) _ _ HPAF.out),HRR.out.fr hFF (by have:=HBB.out;simp;omega),HC.out⟩,HBF.out⟩
theorem zG9:∀ n,GrC n
 | 0=>λt=>Empty.elim t
 | n+1=>zI2 n (zG9 n)
def RdS (w:World) (av:Option Addr) (L:List ByteArray):Prop:=∀ i (h:i<L.length),∃ bb off,av=some ⟨bb,off,none⟩/\w.cell? ⟨bb,off+i,none⟩=some (.string (L[i]))
theorem RdS.below {L:List ByteArray} (h:RdS w av L) (hb:Below w.heap.size w w'):RdS w' av L:=λi hi=>by
 obtain ⟨bb,off,e,hc⟩:=h i hi;exact ⟨bb,off,e,zAC hb hc⟩
theorem str_eqb:s.toList=x.toList ↔ s=x:=by
 refine ⟨λh=>?_,λh=>by rw [h]⟩;rw [ByteArray.toList_eq,ByteArray.toList_eq] at h;exact ByteArray.ext (Array.toList_inj.mp h)
theorem zNY (h:¬ s=x):(s.toList == x.toList)=false:=by
 rw [beq_eq_false_iff_ne];exact λe=>h (str_eqb.1 e)
theorem zMU (h:¬ s=⟨#[]⟩):s.toList.isEmpty=false:=by
 cases hs:s.toList with
 | nil=>exact absurd (str_eqb.1 (hs.trans (by rw [ByteArray.toList_eq]))) h
 | cons a r=>rfl
theorem zJT (s:ByteArray) (nm:List ByteArray) (av:Option Addr) (m cap:Nat) (w:World) (hm:m=nm.length) (hl:nm.length<=16) (hR:RdS w av nm):CR 32 #[.slice av m cap,.string s] w (.int .i64 (idx s nm 0)):=by
 generalize hq:idx s nm 0=q;have HM:Hid (m=nm.length/\nm.length<=16):=⟨hm,hl⟩
 have HR:Hid (RdS w av nm):=hR;clear hm hl hR;go_enter func32,ntmps32;go_wp2_with fail
 go_loopg [5,8] m (λgk u x wr=>∃ i:Nat,x=.int .i64 (i:Int)/\gk=m - i/\i<=m/\Hid (idx s (nm.drop i) i=q)/\w=wr)
 case atStart=>exact ⟨0,rfl,rfl,Nat.zero_le _,(by rw [List.drop_zero];exact hq:_=_),rfl⟩
 case round =>
  obtain ⟨i,rfl,hg,hi,HQ,rfl⟩:=hrel;by_cases hlt:i<m
  ·have hli:(i:Int)<(m:Int):=by omega
   have hiz:(0:Int)<=(i:Int):=by omega
   have hwi:IntKind.i64.wrap ((i:Int)+1)=(i:Int)+1:=by have:=HM.out;rw [IntKind.wrap_i64];omega
   have hln:i<nm.length:=by have:=HM.out;omega
   obtain ⟨bb,off,rfl,hc⟩:=HR.out i hln;have hd1:=List.drop_eq_getElem_cons hln;rw [hd1] at HQ;simp only [idx] at HQ;obtain ⟨x,hx⟩:∃ x,nm[i]=x:=⟨_,rfl⟩
   rw [hx] at HQ hc;clear hd1 hx hq hln;by_cases he:x=s
   ·subst he;rw [if_pos rfl] at HQ;go_wp2;go_ret;exact ⟨congrArg (λz=>Ending.returned (Value.int .i64 z)) HQ.out,Below.refl _ _⟩
   ·rw [if_neg he] at HQ;have he3:(s.toList == x.toList)=false:=zNY (λh=>he h.symm);have he4:¬ s.toList=x.toList:=λh=>he (str_eqb.1 h).symm
    clear he;go_wp2;go_roundg (m - (i+1))
    case rel=>exact ⟨i+1,by simp,rfl,hlt,HQ,rfl⟩
    case measure=>omega
  ·have hli:¬ (i:Int)<(m:Int):=by omega
   have HQ2:Hid (-1=q):=by
    have hie:i=nm.length:=by have:=HM.out;omega
    rw [hie,List.drop_length] at HQ;exact HQ
   clear HQ hq;go_wp2;go_ret;exact ⟨congrArg (λz=>Ending.returned (Value.int .i64 z)) HQ2.out,Below.refl _ _⟩
abbrev zCc (own:Int) (av:Option Addr) (m cap:Nat):Value:=.agg #[.int .i64 own,.slice av m cap]
theorem zCw (own:Int) (nm:List ByteArray) (s:ByteArray) (av:Option Addr) (m cap:Nat) (w:World) (hm:m=nm.length) (hl:nm.length<=16) (hR:RdS w av nm):CR 158 #[zCc own av m cap,.string s] w (.int .i64 (shN own nm s)):=by
 have hb:=zAH (Below.refl _ w) (.cells #[.int .i64 own,.slice av m cap] 184);have p:=AtL.new0 w 184 [.int .i64 own,.slice av m cap];have c0:=p.2.1 0 _ rfl;have c1:=p.2.1 1 _ rfl;have IX:=λ(w2:World) (h:RdS w2 av nm)=>zJT s nm av m cap w2 hm hl h
 have hR2:=hR.below hb;clear p hm hl hR;unfold shN;by_cases he:s=⟨#[]⟩
 ·subst he;rw [if_pos rfl];clear IX hR2;go_enter func158,ntmps158;go_upto_region 1 with fail
  generalize (w.alloc (.cells [.int .i64 own,.slice av m cap].toArray 184))=W at *;go_wp2;go_ret;exact ⟨rfl,hb⟩
 ·rw [if_neg he];have he3:s.toList.isEmpty=false:=zMU he;have he4:¬ s.toList=[]:=λh=>by rw [h] at he3;cases he3
  go_enter func158,ntmps158;go_upto_region 1 with fail
  generalize (w.alloc (.cells [.int .i64 own,.slice av m cap].toArray 184))=W at *;go_wp2_with fail
  refine (IX _ hR2).mono ?_;rintro e w1 ⟨rfl,hb1⟩;have hB:=zAA hb hb1;go_wp2;go_ret;exact ⟨rfl,hB⟩
def RdQ (w:World) (av:Option Addr) (L:List (Wt.Nd × Value)):Prop:=∀ i (h:i<L.length),∃ bb off,av=some ⟨bb,off,none⟩/\w.rangeAt bb (off+i * 21) (zAI (L[i]).1 (L[i]).2)
theorem RdQ.below {L:List (Wt.Nd × Value)} (h:RdQ w av L) (hb:Below w.heap.size w w'):RdQ w' av L:=λi hi=>by
 obtain ⟨bb,off,e,hr⟩:=h i hi;exact ⟨bb,off,e,zAF hb hr⟩
theorem RdT.q {lo hi:Nat} {ps:List (Tr n × Value)} (h:RdT n lo hi w av ps):RdQ w av (ps.map λp=>(hd n p.1,p.2)):=λi hi'=>by
 obtain ⟨bb,off,_,_,e,hr⟩:=h i (by simpa using hi');exact ⟨bb,off,e,by simpa using hr⟩
theorem zBW (x:Wt.Nd) (sl:Value) (w:World):CR 101 #[.agg (zAI x sl).toArray] w (.bool (isA x)):=by
 have hb:=zAH (Below.refl _ w) (.cells (zAI x sl).toArray 188);have p:=AtL.new0 w 188 (zAI x sl);have c0:(w.alloc (.cells (zAI x sl).toArray 188)).cell? ⟨w.heap.size,0,none⟩=some (.int .i64 x.k):=p.2.1 0 _ rfl;clear p;go_enter func101,ntmps101;go_upto_region 1 with fail
 generalize (w.alloc (.cells (zAI x sl).toArray 188))=W at *;go_wp2;go_ret;exact ⟨rfl,hb⟩
theorem zH0 (L:List (Wt.Nd × Value)) (av:Option Addr) (m cap:Nat) (w:World) (hm:m=L.length) (hl:L.length<=30) (hR:RdQ w av L):Calls prog 176 #[.slice av m cap,.func (.func 101) #[] #[]] w λe w'=>(∃ v:Int,e=.returned (.int .i64 v)/\decide (0<=v)=L.any (λp=>isA p.1))/\Below w.heap.size w w':=by
 have eg:∀ args w,(callFunc 101 args).run prog w=.ok (.enter 101 args) w:=λ_ _=>by kernel_rfl
 generalize hq:L.any (λp=>isA p.1)=q;have HM:Hid (m=L.length/\L.length<=30):=⟨hm,hl⟩
 have HR:Hid (RdQ w av L):=hR;clear hm hl hR;go_enter func176,ntmps176;go_wp2_with fail
 go_loopg [5,8] m (λgk u x wr=>∃ i:Nat,x=.int .i64 (i:Int)/\gk=m - i/\i<=m/\Hid ((L.drop i).any (λp=>isA p.1)=q)/\Hid (Below w.heap.size w wr))
 case atStart=>exact ⟨0,rfl,rfl,Nat.zero_le _,(by rw [List.drop_zero];exact hq:_=_),Below.refl _ _⟩
 case round =>
  obtain ⟨i,rfl,hg,hi,HQ,HB⟩:=hrel;by_cases hlt:i<m
  ·have hli:(i:Int)<(m:Int):=by omega
   have hiz:(0:Int)<=(i:Int):=by omega
   have hwi:IntKind.i64.wrap ((i:Int)+1)=(i:Int)+1:=by have:=HM.out;rw [IntKind.wrap_i64];omega
   have hln:i<L.length:=by have:=HM.out;omega
   obtain ⟨bb,off,rfl,hr⟩:=(HR.out.below HB.out) i hln;have hd1:=List.drop_eq_getElem_cons hln;rw [hd1,List.any_cons] at HQ;obtain ⟨x,hx⟩:∃ x,L[i]=x:=⟨_,rfl⟩
   rw [hx] at HQ hr;obtain ⟨x,sl⟩:=x;simp only at HQ hr;have IA:=λw=>zBW x sl w
   clear hd1 hx hq hln;cases hb:isA x with
   | true =>
    rw [hb] at IA;rw [hb,Bool.true_or] at HQ;go_wp2_with (first | (refine zAB (by rfl) 188 (.tmp 14) rfl bb (off+i * 21) rfl (zAI x sl) _ hr underlying188 rfl (by kernel_rfl) ?_) | (go_at_call 101;refine (IA _).mono ?_;rintro e w1 ⟨rfl,hb1⟩))
    go_ret;exact ⟨⟨_,rfl,by rw [<-HQ.out];simp⟩,zAA HB.out hb1⟩
   | false =>
    rw [hb] at IA;rw [hb,Bool.false_or] at HQ;go_wp2_with (first | (refine zAB (by rfl) 188 (.tmp 14) rfl bb (off+i * 21) rfl (zAI x sl) _ hr underlying188 rfl (by kernel_rfl) ?_) | (go_at_call 101;refine (IA _).mono ?_;rintro e w1 ⟨rfl,hb1⟩))
    have HB1:Hid (Below w.heap.size w w1):=zAA HB.out hb1;clear hb1 HB;go_roundg (m - (i+1))
    case rel=>exact ⟨i+1,by simp,rfl,hlt,HQ,HB1⟩
    case measure=>omega
  ·have hli:¬ (i:Int)<(m:Int):=by omega
   have HQ2:Hid (false=q):=by
    have hie:i=L.length:=by have:=HM.out;omega
    rw [hie,List.drop_length] at HQ;exact HQ
   clear HQ hq;go_wp2;go_ret;exact ⟨⟨_,rfl,by rw [<-HQ2.out];simp⟩,HB.out⟩
theorem zEV (L:List (Wt.Nd × Value)) (av:Option Addr) (m cap:Nat) (w:World) (hm:m=L.length) (hl:L.length<=30) (hR:RdQ w av L):CR 159 #[.slice av m cap,.func (.func 101) #[] #[]] w (.bool (L.any (λp=>isA p.1))):=by
 have IX:=zH0 L av m cap w hm hl hR;clear hm hl hR;generalize L.any (λp=>isA p.1)=q at *;go_enter func159,ntmps159;go_wp2_with fail
 refine IX.mono ?_;rintro e w1 ⟨⟨v,rfl,hv⟩,hb1⟩;have H:Hid (decide (0<=v)=q):=hv;clear hv;go_wp2;go_ret;exact ⟨by rw [<-H.out];rfl,hb1⟩
theorem zIY (s:ByteArray):zAu s<=63:=List.findIdx_le_length
theorem zLV {i:Nat} (h:i<63) (hn:∀ j,j<i->¬ (⟨(fnN.getD j []).toArray⟩:ByteArray)=s) (he:(⟨(fnN.getD i []).toArray⟩:ByteArray)=s):zAu s=i:=by
 have hl:i<fnN.length:=h;unfold zAu;rw [List.findIdx_eq hl];refine ⟨?_,λj hj=>?_⟩
 ·rw [List.getD_eq_getElem?_getD,List.getElem?_eq_getElem hl] at he;simpa using he
 ·have:=hn j hj;have hlj:j<fnN.length:=Nat.lt_trans hj hl;rw [List.getD_eq_getElem?_getD,List.getElem?_eq_getElem hlj] at this;simpa using this
theorem zKT (hn:∀ j,j<63->¬ (⟨(fnN.getD j []).toArray⟩:ByteArray)=s):zAu s=63:=by
 have hl:fnN.length=63:=rfl;unfold zAu;rw [<-hl,List.findIdx_eq_length];intro x hx;obtain ⟨j,hj,rfl⟩:=List.getElem_of_mem hx;have:=hn j hj;rw [List.getD_eq_getElem?_getD,List.getElem?_eq_getElem hj] at this;simpa using this
theorem zCZ (hgd:op.guard=none) (T:TypeId) (s i:Operand) (ho:op.op=.index T s i) (cs:Array Value) (hs:a.eval s=.agg cs) (k:Nat) (hi:a.eval i=.int .i64 (k:Int)) (v:Value) (hr:(Instr.index T (.agg cs) (.int .i64 (k:Int))).run P w=.ok v w)
  (h:wpList P ops Q rest (a.put op.dst v) w):wpList P ops Q (op::rest) a w:=by
 refine wpList_plain hgd λK hK=>?_
 unfold Oper.wp execOp;simp only [ho,hs,hi,Sem.run_bind,Sem.run_pure,Result.andThen_ok,hr];exact hK _ _ h
theorem zPc (w:World):∀ i:Nat,i<63->(Instr.index 256 (.agg nmR.toArray) (.int .i64 (i:Int))).run prog w=.ok (.string ⟨(fnN.getD i []).toArray⟩) w
 | 0,_=>by kernel_rfl
 | 1,_=>by kernel_rfl
 | 2,_=>by kernel_rfl
 | 3,_=>by kernel_rfl
 | 4,_=>by kernel_rfl
 | 5,_=>by kernel_rfl
 | 6,_=>by kernel_rfl
 | 7,_=>by kernel_rfl
 | 8,_=>by kernel_rfl
 | 9,_=>by kernel_rfl
 | 10,_=>by kernel_rfl
 | 11,_=>by kernel_rfl
 | 12,_=>by kernel_rfl
 | 13,_=>by kernel_rfl
 | 14,_=>by kernel_rfl
 | 15,_=>by kernel_rfl
 | 16,_=>by kernel_rfl
 | 17,_=>by kernel_rfl
 | 18,_=>by kernel_rfl
 | 19,_=>by kernel_rfl
 | 20,_=>by kernel_rfl
 | 21,_=>by kernel_rfl
 | 22,_=>by kernel_rfl
 | 23,_=>by kernel_rfl
 | 24,_=>by kernel_rfl
 | 25,_=>by kernel_rfl
 | 26,_=>by kernel_rfl
 | 27,_=>by kernel_rfl
 | 28,_=>by kernel_rfl
 | 29,_=>by kernel_rfl
 | 30,_=>by kernel_rfl
 | 31,_=>by kernel_rfl
 | 32,_=>by kernel_rfl
 | 33,_=>by kernel_rfl
 | 34,_=>by kernel_rfl
 | 35,_=>by kernel_rfl
 | 36,_=>by kernel_rfl
 | 37,_=>by kernel_rfl
 | 38,_=>by kernel_rfl
 | 39,_=>by kernel_rfl
 | 40,_=>by kernel_rfl
 | 41,_=>by kernel_rfl
 | 42,_=>by kernel_rfl
 | 43,_=>by kernel_rfl
 | 44,_=>by kernel_rfl
 | 45,_=>by kernel_rfl
 | 46,_=>by kernel_rfl
 | 47,_=>by kernel_rfl
 | 48,_=>by kernel_rfl
 | 49,_=>by kernel_rfl
 | 50,_=>by kernel_rfl
 | 51,_=>by kernel_rfl
 | 52,_=>by kernel_rfl
 | 53,_=>by kernel_rfl
 | 54,_=>by kernel_rfl
 | 55,_=>by kernel_rfl
 | 56,_=>by kernel_rfl
 | 57,_=>by kernel_rfl
 | 58,_=>by kernel_rfl
 | 59,_=>by kernel_rfl
 | 60,_=>by kernel_rfl
 | 61,_=>by kernel_rfl
 | 62,_=>by kernel_rfl
 | n+63,h=>absurd h (by omega)
theorem zHR (s:ByteArray) (w:World) (hN:NmAt w):CR 161 #[.string s] w (.tuple #[.agg (zD3 (zAu s:Nat)).toArray,.bool (zBT (zAu s:Nat))]):=by
 have pZ:=AtL.new0 w 230 (sg6 0 0 ⟨#[]⟩ 0 0 ⟨#[]⟩);have hB:=zAH (Below.refl _ w) (.cells (sg6 0 0 ⟨#[]⟩ 0 0 ⟨#[]⟩).toArray 230);have hN1:=hN.below hB;have HID:Hid (∀ (w:World),NmAt w->CR 136 #[.int .i64 (zAu s:Nat)] w (.tuple #[.agg (zD3 (zAu s:Nat)).toArray,.bool (zBT (zAu s:Nat))])):=λw h=>zLb _ w h
 have h63:zAu s=63->zBT (zAu s:Nat)=false/\zD3 (zAu s:Nat)=zero6:=λh=>by rw [h];exact ⟨by kernel_rfl,by kernel_rfl⟩
 have H63:Hid (zAu s=63->zBT (zAu s:Nat)=false/\zD3 (zAu s:Nat)=zero6):=h63;have hsg:∃ a b c d e f,zD3 (zAu s:Nat)=sg6 a b c d e f:=by
  unfold zD3;split
  ·exact ⟨_,_,_,_,_,_,rfl⟩
  ·exact ⟨_,_,_,_,_,_,rfl⟩
 obtain ⟨a1,a2,a3,a4,a5,a6,hsg⟩:=hsg;rw [hsg] at HID H63 ⊢;generalize zBT (zAu s:Nat)=kb at *;clear hsg;clear hN h63;go_enter func161,ntmps161;go_upto_region 1 with fail
 generalize (w.alloc (.cells (sg6 0 0 ⟨#[]⟩ 0 0 ⟨#[]⟩).toArray 230))=W at *;have HN:Hid (NmAt W):=hN1;have HZ:Hid (AtL W w.heap.size (sg6 0 0 ⟨#[]⟩ 0 0 ⟨#[]⟩)):=pZ;have HB:Hid (Below w.heap.size w W):=hB;unfold NmAt at hN1;clear pZ hB;go_wp2_with (first | (refine zAB (by rfl) 256 (.global 2) rfl 2 0 rfl nmR _ hN1 underlying256 rfl (by kernel_rfl) ?_))
 clear hN1;have HRUN:Hid (∀ (w:World) (i:Nat),i<63->(Instr.index 256 (.agg nmR.toArray) (.int .i64 (i:Int))).run prog w=.ok (.string ⟨(fnN.getD i []).toArray⟩) w):=zPc;generalize nmR.toArray=NA at *;go_loopg [4,5,7] 63 (λgk u v x wr=>∃ i:Nat,x=.int .i64 (i:Int)/\gk=63 - i/\i<=63/\Hid (∀ j,j<i->¬ (⟨(fnN.getD j []).toArray⟩:ByteArray)=s)/\W=wr)
 case atStart=>exact ⟨0,rfl,rfl,Nat.zero_le _,(λj hj=>absurd hj (Nat.not_lt_zero _):∀ j,j<0->¬ (⟨(fnN.getD j []).toArray⟩:ByteArray)=s),rfl⟩
 case round =>
  obtain ⟨i,rfl,hg,hi,HQ,rfl⟩:=hrel;by_cases hlt:i<63
  ·have hli:(i:Int)<63:=by omega
   have hiz:(0:Int)<=(i:Int):=by omega
   have hwi:IntKind.i64.wrap ((i:Int)+1)=(i:Int)+1:=by rw [IntKind.wrap_i64];omega
   have hr:=HRUN.out W i hlt;obtain ⟨y,hy⟩:∃ y,(⟨(fnN.getD i []).toArray⟩:ByteArray)=y:=⟨_,rfl⟩
   rw [hy] at hr;by_cases he:y=s
   ·subst he;have e1:zAu y=i:=zLV hlt HQ.out hy;have BY:=HID.out W HN.out;rw [e1] at BY;clear hy e1 HQ;go_wp2_with (first | (refine zCZ rfl 256 (.tmp 6) (.tmp 7) rfl NA rfl i rfl _ hr ?_))
    refine BY.mono ?_;rintro e w1 ⟨rfl,hb1⟩;obtain ⟨b0,b1,b2,b3,b4,b5,k0,k1,k2,k3,k4,k5⟩:=at6 (AtL.below hb1 HZ.out);have hB1:=zAA HB.out hb1;clear BY;go_wp2;refine bodyPost_ret (v:=.tuple #[.agg (sg6 a1 a2 a3 a4 a5 a6).toArray,.bool kb]) (by simp [results,results161,go_sem,b0,b1,b2,b3,b4,b5]) rfl ⟨rfl,(clB hB1)⟩
   ·have HQ2:Hid (∀ j,j<i+1->¬ (⟨(fnN.getD j []).toArray⟩:ByteArray)=s):=(λj hj=>by
     by_cases e:j=i
     ·subst e;rw [hy];exact he
     ·exact HQ.out j (by omega):∀ j,j<i+1->¬ (⟨(fnN.getD j []).toArray⟩:ByteArray)=s)
    have he3:(y.toList == s.toList)=false:=zNY he;have he4:¬ y.toList=s.toList:=λh=>he (str_eqb.1 h)
    clear hy he HQ;go_wp2_with (first | (refine zCZ rfl 256 (.tmp 6) (.tmp 7) rfl NA rfl i rfl _ hr ?_))
    go_roundg (63 - (i+1))
    case rel=>exact ⟨i+1,by simp,rfl,hlt,HQ2,rfl⟩
    case measure=>omega
  ·have hli:¬ (i:Int)<63:=by omega
   have hi63:i=63:=by omega
   subst hi63;have e1:zAu s=63:=zKT HQ.out;have HE:=H63.out e1;unfold zero6 at HE;have HE2:Hid (kb=false/\sg6 a1 a2 a3 a4 a5 a6=sg6 0 0 ⟨#[]⟩ 0 0 ⟨#[]⟩):=HE;clear e1 HE;obtain ⟨b0,b1,b2,b3,b4,b5,k0,k1,k2,k3,k4,k5⟩:=at6 HZ.out;have hB1:=HB.out;go_wp2;refine bodyPost_ret (v:=.tuple #[.agg (sg6 0 0 ⟨#[]⟩ 0 0 ⟨#[]⟩).toArray,.bool false]) (by simp [results,results161,go_sem,b0,b1,b2,b3,b4,b5]) rfl ⟨by rw [HE2.out.1,HE2.out.2],(clB hB1)⟩
theorem zFr {P:Program} {ops:Array Oper} {rest:List Oper} {a:Act} {w:World} {Q:Exit->Act->World->Prop} (hgd:op.guard=none) (x y:Operand) (ts:Array TypeId) (ho:op.op=.call {callee:=.builtin .min,args:=#[x,y],argTypes:=ts}) (i j k:Int) (hx:a.eval x=.int .i64 i) (hy:a.eval y=.int .i64 j) (hk:(if j<i then j else i)=k)
  (h:wpList P ops Q rest (a.put op.dst (.int .i64 k)) w):wpList P ops Q (op::rest) a w:=by
 refine wpList_plain hgd λK hK=>?_
 have hr:=run_min_int2 (P:=P) (w:=w) ts op.type .i64 .i64 i j;rw [hk] at hr;unfold Oper.wp execOp;simp only [ho,resolve,invoke,builtin,Sem.run_bind,Sem.run_pure,Result.andThen_ok,List.map_toArray,List.map_cons,List.map_nil,hx,hy,hr];exact hK _ _ h
theorem zFl (hgd:op.guard=none) (T:TypeId) (s i:Operand) (ho:op.op=.index T s i) (b:ByteArray) (hs:a.eval s=.string b) (k:Nat) (hi:a.eval i=.int .i64 (k:Int)) (hu:P.underlying T=some .string) (c:UInt8) (hk:k<b.size) (hc:b[k]=c)
  (h:wpList P ops Q rest (a.put op.dst (.int .u8 (c.toNat:Int))) w):wpList P ops Q (op::rest) a w:=by
 refine wpList_plain hgd λK hK=>?_
 have hr:=run_index_string (P:=P) (w:=w) T b .i64 (k:Int) hu;rw [dif_pos (by omega)] at hr;simp only [Int.toNat_natCast,hc] at hr;unfold Oper.wp execOp;simp only [ho,hs,hi,Sem.run_bind,Sem.run_pure,Result.andThen_ok,hr];exact hK _ _ h
theorem zPW {c d:UInt8} (h:¬ c=d):¬ c.toNat=d.toNat:=λe=>h (UInt8.toNat_inj.1 e)
theorem zKv (a1 a2:Int) (a3:ByteArray) (a4 a5:Int) (p:ByteArray) (L:List (Wt.Nd × Value)) (av:Option Addr) (m cap:Nat) (w:World) (hp:0<p.size/\p.size<=10) (hm:m=L.length) (hl:L.length<=30) (hsl:∀ q ∈ L,∃ a b c,q.2=.slice a b c) (hR:RdQ w av L) :
  CR 177 #[.agg (sg6 a1 a2 a3 a4 a5 p).toArray,.slice av m cap] w (.bool (zBA p.data.toList (L.map (·.1)) 0)):=by
 generalize hq:zBA p.data.toList (L.map (·.1)) 0=q;have pS:=AtL.new0 w 230 (sg6 a1 a2 a3 a4 a5 p);have hB:=zAH (Below.refl _ w) (.cells (sg6 a1 a2 a3 a4 a5 p).toArray 230);have HM:Hid (m=L.length/\L.length<=30):=⟨hm,hl⟩
 have HSL:Hid (∀ q ∈ L,∃ a b c,q.2=.slice a b c):=hsl;have HR:Hid (RdQ (w.alloc (.cells (sg6 a1 a2 a3 a4 a5 p).toArray 230)) av L):=hR.below hB;have HQ0:Hid (zBA p.data.toList ((L.drop 0).map (·.1)) 0=q):=hq;have HP:Hid (0<p.size/\p.size<=10):=hp;clear hm hl hsl hR hq hp;go_enter func177,ntmps177;go_upto_region 1 with fail
 generalize (w.alloc (.cells (sg6 a1 a2 a3 a4 a5 p).toArray 230))=W at *;have HS:Hid (AtL W w.heap.size (sg6 a1 a2 a3 a4 a5 p)):=pS;have HB:Hid (Below w.heap.size w W):=hB;clear pS hB;go_wp2_with fail
 go_loopg [5,6,7,10] m (λgk u5 u6 u7 x wr=>∃ i:Nat,x=.int .i64 (i:Int)/\gk=m - i/\i<=m/\Hid (zBA p.data.toList ((L.drop i).map (·.1)) i=q)/\Hid (Below W.heap.size W wr))
 case atStart=>exact ⟨0,rfl,rfl,Nat.zero_le _,HQ0,Below.refl _ _⟩
 case round =>
  clear HQ0;obtain ⟨i,rfl,hg,hi,HQ,HBr⟩:=hrel;by_cases hlt:i<m
  ·have hli:(i:Int)<(m:Int):=by omega
   have hiz:(0:Int)<=(i:Int):=by omega
   have hwi:IntKind.i64.wrap ((i:Int)+1)=(i:Int)+1:=by have:=HM.out;rw [IntKind.wrap_i64];omega
   have hln:i<L.length:=by have:=HM.out;omega
   obtain ⟨bb,off,rfl,hr⟩:=(HR.out.below HBr.out) i hln;have hd1:=List.drop_eq_getElem_cons hln;have hs1:=HSL.out L[i] (List.getElem_mem hln);rw [hd1,List.map_cons] at HQ;obtain ⟨x,hx⟩:∃ x,L[i]=x:=⟨_,rfl⟩
   rw [hx] at HQ hr hs1;obtain ⟨x,sl⟩:=x;simp only at HQ hr hs1;obtain ⟨sa,sb,sc,rfl⟩:=hs1;have IA:=λw=>zBW x (.slice sa sb sc) w
   clear hd1 hx hln;obtain ⟨k,hk⟩:∃ k,min i (p.data.toList.length - 1)=k:=⟨_,rfl⟩
   have hps:p.data.toList.length=p.size:=by show p.data.toList.length=p.data.size;exact Array.length_toList
   have hkp:k<p.size:=by have:=HP.out;omega
   have hmn:min (i:Int) ((p.size:Int) - 1)=(k:Int):=by have:=HP.out;omega
   obtain ⟨c,hc⟩:∃ c,p[k]=c:=⟨_,rfl⟩
   have hlp:p.data.toList.getD k 0=c:=by
    rw [<-hc];rw [List.getD_eq_getElem?_getD,List.getElem?_eq_getElem (by rw [hps];exact hkp)];rfl
   simp only [zBA,hk,hlp] at HQ;have hsb:IntKind.i64.wrap ((p.size:Int) - 1)=(p.size:Int) - 1:=by have:=HP.out;rw [IntKind.wrap_i64];omega
   have HMN:Hid ((if (p.size:Int) - 1<(i:Int) then (p.size:Int) - 1 else (i:Int))=(k:Int)):=by show _=_;have:=HP.out;split <;> omega
   have HKC:Hid (k<p.size/\∀ h:k<p.size,p[k]=c):=⟨hkp,λ_=>hc⟩
   clear hk hps hlp hmn hc hkp;have hth:World.there (wr.alloc (.cells zeros21 188)) wr.heap.size 0 (zAI x (.slice sa sb sc)).toArray.size:=(AtL.new0 wr _ _:AtL (wr.alloc (.cells zeros21 188)) wr.heap.size zeros21.toList).there;have HPI:Hid (AtL ((wr.alloc (.cells zeros21 188)).setCells wr.heap.size 0 (zAI x (.slice sa sb sc))) wr.heap.size (zAI x (.slice sa sb sc))):=(AtL.new0 wr _ _:AtL (wr.alloc (.cells zeros21 188)) wr.heap.size zeros21.toList).setAll rfl;have HHB:Hid (Below wr.heap.size wr ((wr.alloc (.cells zeros21 188)).setCells wr.heap.size 0 (zAI x (.slice sa sb sc)))):=zBJ (zAH (Below.refl _ wr) _) (Nat.le_refl _) _ 0;go_upto_region 4 with (first | (refine zAB (by rfl) 188 (.tmp 13) rfl bb (off+i * 21) rfl (zAI x (.slice sa sb sc)) _ hr underlying188 rfl (by kernel_rfl) ?_) | ((with_reducible refine wpList_store_mid ?_ 188 (.tmp 6) (.tmp 14) ?_ wr.heap.size 0 (zAI x (.slice sa sb sc)).toArray ?_ ?_ ?_ ?_ ?_ ?_);rfl;rfl;rfl;rfl;exact hth;kernel_rfl;exact zAn _ _ _ _))
   have HB2:Hid (Below W.heap.size W ((wr.alloc (.cells zeros21 188)).setCells wr.heap.size 0 (zAI x (.slice sa sb sc)))):=zAA HBr.out HHB.out;clear hth hr HHB HBr;generalize ((wr.alloc (.cells zeros21 188)).setCells wr.heap.size 0 (zAI x (.slice sa sb sc)))=W2 at *;obtain ⟨ib,hib⟩:∃ k,wr.heap.size=k:=⟨_,rfl⟩
   rw [hib] at HPI;simp only [hib];clear hib;have rI:=HPI.out.range;have s5:=(AtL.below HB2.out HS.out).2.1 5 _ rfl;go_upto_region 5 with (first | (refine zFr rfl (.tmp 17) (.tmp 21) _ rfl (i:Int) ((p.size:Int) - 1) (k:Int) rfl rfl HMN.out ?_) | (refine zFl rfl 9 (.tmp 16) (.tmp 22) rfl p rfl k rfl (by kernel_rfl) c HKC.out.1 (HKC.out.2 _) ?_))
   clear s5;by_cases h97:c=97
   ·subst h97;cases hb:isA x with
    | true =>
     rw [hb] at IA;simp only [hb,show ((97:UInt8) == 97)=true from rfl,show ((97:UInt8) == 118)=false from rfl,Bool.not_true,Bool.and_false,Bool.false_and,Bool.or_self,Bool.false_eq_true,if_false] at HQ;go_wp2_with (first | (refine zAB (by rfl) 188 (.tmp 6) rfl ib 0 rfl (zAI x (.slice sa sb sc)) _ rI underlying188 rfl (by kernel_rfl) ?_) | (go_at_call 101;refine (IA _).mono ?_;rintro e w1 ⟨rfl,hb1⟩))
     have HB3:Hid (Below W.heap.size W w1):=zAA HB2.out hb1;clear hb1 HB2;go_roundg (m - (i+1))
     case rel=>exact ⟨i+1,by simp,rfl,hlt,HQ,HB3⟩
     case measure=>omega
    | false =>
     rw [hb] at IA;simp only [hb,show ((97:UInt8) == 97)=true from rfl,Bool.not_false,Bool.and_self,Bool.true_or,if_true] at HQ;go_wp2_with (first | (refine zAB (by rfl) 188 (.tmp 6) rfl ib 0 rfl (zAI x (.slice sa sb sc)) _ rI underlying188 rfl (by kernel_rfl) ?_) | (go_at_call 101;refine (IA _).mono ?_;rintro e w1 ⟨rfl,hb1⟩))
     go_ret;exact ⟨congrArg (λz=>Ending.returned (Value.bool z)) HQ.out,zAA HB.out (zAA HB2.out hb1)⟩
   ·have m97:¬ c.toNat=97:=zPW (d:=97) h97;have b97:(c == 97)=false:=by simpa using h97
    have n97:¬ (c.toNat:Int)=97:=by omega
    by_cases h118:c=118
    ·subst h118;cases hb:isA x with
     | true =>
      rw [hb] at IA;simp only [hb,b97,show ((118:UInt8) == 118)=true from rfl,Bool.false_and,Bool.and_self,Bool.false_or,if_true] at HQ;go_wp2_with (first | (refine zAB (by rfl) 188 (.tmp 6) rfl ib 0 rfl (zAI x (.slice sa sb sc)) _ rI underlying188 rfl (by kernel_rfl) ?_) | (go_at_call 101;refine (IA _).mono ?_;rintro e w1 ⟨rfl,hb1⟩))
      go_ret;exact ⟨congrArg (λz=>Ending.returned (Value.bool z)) HQ.out,zAA HB.out (zAA HB2.out hb1)⟩
     | false =>
      rw [hb] at IA;simp only [hb,b97,Bool.false_and,Bool.and_false,Bool.or_self,Bool.false_eq_true,if_false] at HQ;go_wp2_with (first | (refine zAB (by rfl) 188 (.tmp 6) rfl ib 0 rfl (zAI x (.slice sa sb sc)) _ rI underlying188 rfl (by kernel_rfl) ?_) | (go_at_call 101;refine (IA _).mono ?_;rintro e w1 ⟨rfl,hb1⟩))
      have HB3:Hid (Below W.heap.size W w1):=zAA HB2.out hb1;clear hb1 HB2;go_roundg (m - (i+1))
      case rel=>exact ⟨i+1,by simp,rfl,hlt,HQ,HB3⟩
      case measure=>omega
    ·have m118:¬ c.toNat=118:=zPW (d:=118) h118;have b118:(c == 118)=false:=by simpa using h118
     have n118:¬ (c.toNat:Int)=118:=by omega
     simp only [b97,b118,Bool.false_and,Bool.or_self,Bool.false_eq_true,if_false] at HQ;clear IA h97 h118 b97 b118;go_wp2_with fail
     go_roundg (m - (i+1))
     case rel=>exact ⟨i+1,by simp,rfl,hlt,HQ,HB2⟩
     case measure=>omega
  ·have hli:¬ (i:Int)<(m:Int):=by omega
   have HQ2:Hid (true=q):=by
    have hie:i=L.length:=by have:=HM.out;omega
    rw [hie,List.drop_length] at HQ;exact HQ
   clear HQ;go_wp2;go_ret;exact ⟨congrArg (λz=>Ending.returned (Value.bool z)) HQ2.out,zAA HB.out HBr.out⟩
open Go.RowKit
def Cells (w:World) (blk off n:Nat) (F:Nat->Wpl.Cl):Prop :=
 ∀ j,j<n->w.cell? ⟨blk,off+j * 3,none⟩=some (.int .i64 (F j).s)/\w.cell? ⟨blk,off+j * 3+1,none⟩=some (.int .i64 (F j).r)/\w.cell? ⟨blk,off+j * 3+2,none⟩=some (.int .i64 (F j).c)
theorem Cells.below {W W':World} {blk:Nat} {F:Nat->Wpl.Cl} (h:Cells W blk off n F) (hb:blk<W.heap.size) (hB:Below W.heap.size W W'):Cells W' blk off n F:=λj hj =>
 ⟨(hB.cell (p:=⟨blk,off+j * 3,none⟩) hb).trans (h j hj).1,(hB.cell (p:=⟨blk,off+j * 3+1,none⟩) hb).trans (h j hj).2.1,(hB.cell (p:=⟨blk,off+j * 3+2,none⟩) hb).trans (h j hj).2.2⟩
theorem zJC (q:Int) (blk off n cap:Nat) (F:Nat->Wpl.Cl) (w:World) (hn:n<=1000000000000000) (hb:blk<w.heap.size) (hc:Cells w blk off n F) :
  Calls prog 146 #[.slice (some ⟨blk,off,none⟩) n cap,.func (.func 117) #[.int .i64 q] #[]] w λe w'=>∃ v:Int,e=.returned (.int .i64 v)/\decide (0<=v)=Wpl.anyN q F n/\Below w.heap.size w w':=by
 have eg:∀ args w,(callFunc 117 args).run prog w=.ok (.enter 117 args) w:=λ_ _=>by kernel_rfl
 go_enter func146,ntmps146;go_wp2;go_loopw [5,8] (λ_ i wr=>∃ j:Nat,j<=n/\i=.int .i64 j/\Hid (∀ m,m<j->Wpl.lacks q (F m)=false)/\Below w.heap.size w wr) (λ_ i _=>n - (intOf i).toNat)
 case atStart=>exact ⟨0,Nat.zero_le _,rfl,(λm hm=>absurd hm (Nat.not_lt_zero _):∀ m,m<0->Wpl.lacks q (F m)=false),Below.refl _ _⟩
 case round =>
  obtain ⟨j,hj,rfl,A,qB⟩:=hrel;by_cases hlt:j<n
  ·have hltz:(j:Int)<(n:Int):=by omega
   obtain ⟨x0,x1,x2⟩:=hc j hlt;have y0:wr.cell? ⟨blk,off+j * 3,none⟩=some (.int .i64 (F j).s):=(qB.cell (p:=⟨blk,off+j * 3,none⟩) hb).trans x0;have y1:wr.cell? ⟨blk,off+j * 3+1,none⟩=some (.int .i64 (F j).r):=(qB.cell (p:=⟨blk,off+j * 3+1,none⟩) hb).trans x1;have y2:wr.cell? ⟨blk,off+j * 3+2,none⟩=some (.int .i64 (F j).c):=(qB.cell (p:=⟨blk,off+j * 3+2,none⟩) hb).trans x2;have L:=λw=>zKx q (F j).s (F j).r (F j).c w
   clear x0 x1 x2;generalize hq:Wpl.lacks q ⟨(F j).s,(F j).r,(F j).c⟩=b at L;have B:Hid (Wpl.lacks q (F j)=b):=hq;clear hq;generalize (F j).s=sj at *;generalize (F j).r=rj at *;generalize (F j).c=cj at *;cases b with
   | true =>
    go_wp2_with (go_at_call 117;refine (L _).mono ?_;rintro e w1 ⟨rfl,hb1⟩)
    go_ret;exact ⟨_,rfl,by rw [Wpl.anyN_hit hlt B.out];simp,zC1 qB hb1⟩
   | false =>
    go_wp2_with (go_at_call 117;refine (L _).mono ?_;rintro e w1 ⟨rfl,hb1⟩)
    go_roundw
    case rel =>
     refine ⟨j+1,by omega,by go_num,(λm hm=>?_:∀ m,m<j+1->Wpl.lacks q (F m)=false),zC1 qB hb1⟩;by_cases e:m=j
     ·rw [e];exact B.out
     ·exact A.out m (by omega)
    case measure=>simp [intOf];omega
  ·have hltz:¬ (j:Int)<(n:Int):=by omega
   have e:j=n:=by omega
   subst e;go_wp2;go_ret;exact ⟨_,rfl,by rw [Wpl.anyN_miss A.out];rfl,qB⟩
theorem zB4 (q:Int) (blk off n cap:Nat) (F:Nat->Wpl.Cl) (w:World) (hn:n<=1000000000000000) (hb:blk<w.heap.size) (hc:Cells w blk off n F) :
  CR 116 #[.slice (some ⟨blk,off,none⟩) n cap,.func (.func 117) #[.int .i64 q] #[]] w (.bool (Wpl.anyN q F n)):=by
 go_enter func116,ntmps116;go_wp2_with fail
 refine (zJC q blk off n cap F _ hn hb hc).mono ?_;rintro e w1 ⟨v,rfl,hv,hb1⟩;have H:Hid (decide (0<=v)=Wpl.anyN q F n):=hv;clear hv;go_wp2;go_ret;exact ⟨by rw [<-H.out];rfl,hb1⟩
