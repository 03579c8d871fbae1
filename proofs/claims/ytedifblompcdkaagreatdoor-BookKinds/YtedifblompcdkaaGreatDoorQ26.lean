/- TCheck, KFlat, BPlain, BHas. -/
import Derived.Test.YtedifblompcdkaaGreatDoorQ25
set_option maxHeartbeats 3200000
set_option maxRecDepth 100000
namespace Go.Proofs.YtedifblompcdkaaGreatDoor
open Tryz
variable {w w':World} {lo n:Nat} {S:List Nat} {F:List (Wpl.Cl × Ct)} {v:Value} {xs:List Value} {na:Option Addr} {nm:List ByteArray}
open Go.RowKit
set_option linter.unusedVariables false
theorem zCo (av:Option Addr) (cap:Nat) (L:List Wt.Nd) (w:World) (hL:L.length<=9223372036854775807) (hF:∀ x ∈ L,Wt.FitN x) (hO:OpsAt w) (hr:RdN w av L) :
  CR 47 #[.slice av L.length cap] w (.int .i64 (Wt.check L)):=by
 unfold Wt.check;by_cases h:256<L.length
 ·rw [if_pos h];have hi:(256:Int)<(L.length:Int):=by omega
  go_enter func47,ntmps47;go_wp2;go_ret;exact ⟨rfl,Below.refl _ _⟩
 rw [if_neg h];have hi:¬ (256:Int)<(L.length:Int):=by omega
 have M:=zLL av cap L (by omega) hF (L.length+1) (by omega) 0 w (by omega) (by omega) hO hr;rw [List.drop_zero] at M;have h1:=zIn (L.length+1) L;cases hone:Wt.one (L.length+1) L with
 | none =>
  rw [hone] at M;clear h1;go_enter func47,ntmps47;go_wp2_with fail
  refine M.mono ?_;rintro e w1 ⟨rfl,hb⟩;simp only [MP];go_wp2;go_ret;exact ⟨rfl,hb⟩
 | some q =>
  obtain ⟨s,d⟩:=q;rw [hone] at M;have h2:=zEK _ _ _ _ hone;replace h1:=h1 s d hone
  simp only [MP,Nat.zero_add] at M;simp only;by_cases hs:s=L.length
  ·rw [if_neg (by omega)];have hsi:((s:Int) == (L.length:Int))=true:=by rw [beq_iff_eq];omega
   have hsi2:(s:Int)=(L.length:Int):=by omega
   by_cases hd:32<d
   ·rw [if_pos hd];have hdi:(32:Int)<(d:Int):=by omega
    go_enter func47,ntmps47;go_wp2_with fail
    refine M.mono ?_;rintro e w1 ⟨rfl,hb⟩;go_wp2;go_ret;exact ⟨rfl,hb⟩
   ·rw [if_neg hd];have hdi:¬ (32:Int)<(d:Int):=by omega
    go_enter func47,ntmps47;go_wp2_with fail
    refine M.mono ?_;rintro e w1 ⟨rfl,hb⟩;go_wp2;go_ret;exact ⟨rfl,hb⟩
  ·rw [if_pos hs];have hsi:((s:Int) == (L.length:Int))=false:=by rw [beq_eq_false_iff_ne];omega
   have hsi2:¬ (s:Int)=(L.length:Int):=by omega
   go_enter func47,ntmps47;go_wp2_with fail
   refine M.mono ?_;rintro e w1 ⟨rfl,hb⟩;go_wp2;go_ret;exact ⟨rfl,hb⟩
open Go.RowKit Wf
theorem zOw (n:Nat) (t:Tr n) (bb off L cap:Nat) (w:World) (hF:zDT n t) (hL:L=(row n t).length) (hl:L<=300) (hc:L<=cap) (hR:RdN w (some ⟨bb,off,none⟩) (row n t)):Calls prog 99 #[.slice (some ⟨bb,off,none⟩) L cap] w λe w'=>(∃ sl,e=.returned (.agg (zAI (hd n t) sl).toArray)/\PA n w.heap.size w'.heap.size w' t sl)/\Below w.heap.size w w':=by
 have pR0:AtL (w.alloc (.cells zeros21 188)) w.heap.size zeros21.toList:=AtL.new0 w _ _;have hb1:=zAH (Below.refl _ w) (.cells zeros21 188);have GR:=zG9 n t bb off L cap [] _ hF (by rw [List.append_nil];exact hL) hl hc (by rw [List.append_nil];exact hR.below hb1);unfold GrP at GR;have HZ0:Hid (AtL (w.alloc (.cells zeros21 188)) w.heap.size zeros21.toList):=pR0;have HB1:Hid (Below w.heap.size w (w.alloc (.cells zeros21 188))):=hb1;clear pR0 hb1 hF hL hl hc hR;go_enter func99,ntmps99;go_upto_region 1 with fail
 generalize (w.alloc (.cells zeros21 188))=W1 at *;go_wp2_with fail
 refine GR.mono ?_;rintro e w2 ⟨⟨sl,X,L2,C2,rfl,_,hpa,_,_⟩,hb2⟩;obtain ⟨sa,sb,sc,rfl⟩:=hpa.slice;have hth:World.there (w2.alloc (.cells zeros21 188)) w2.heap.size 0 (zAI (hd n t) (.slice sa sb sc)).toArray.size:=(AtL.new0 w2 _ _:AtL (w2.alloc (.cells zeros21 188)) w2.heap.size zeros21.toList).there;have HPI:Hid (AtL ((w2.alloc (.cells zeros21 188)).setCells w2.heap.size 0 (zAI (hd n t) (.slice sa sb sc))) w2.heap.size (zAI (hd n t) (.slice sa sb sc))):=(AtL.new0 w2 _ _:AtL (w2.alloc (.cells zeros21 188)) w2.heap.size zeros21.toList).setAll rfl;have hb3:Below w2.heap.size w2 ((w2.alloc (.cells zeros21 188)).setCells w2.heap.size 0 (zAI (hd n t) (.slice sa sb sc))):=zBJ (zAH (Below.refl _ w2) _) (Nat.le_refl _) _ 0;have HPA3:Hid (PA n W1.heap.size w2.heap.size ((w2.alloc (.cells zeros21 188)).setCells w2.heap.size 0 (zAI (hd n t) (.slice sa sb sc))) t (.slice sa sb sc)/\w2.heap.size<=((w2.alloc (.cells zeros21 188)).setCells w2.heap.size 0 (zAI (hd n t) (.slice sa sb sc))).heap.size/\w.heap.size<W1.heap.size):=⟨PA.kept (Kept.of_below hb3) n _ _ hpa,hb3.size,HZ0.out.lt⟩
 have HZ3:Hid (AtL ((w2.alloc (.cells zeros21 188)).setCells w2.heap.size 0 (zAI (hd n t) (.slice sa sb sc))) w.heap.size zeros21.toList):=AtL.below hb3 (AtL.below hb2 HZ0.out);have HB3:Hid (Below w.heap.size w ((w2.alloc (.cells zeros21 188)).setCells w2.heap.size 0 (zAI (hd n t) (.slice sa sb sc)))):=zAA (zAA HB1.out hb2) hb3;clear GR hpa hb2 hb3 HZ0 HB1;obtain ⟨y,hy⟩:∃ y,hd n t=y:=⟨_,rfl⟩
 have HY:Hid (hd n t=y):=hy;rw [hy] at hth HPI HPA3 HZ3 HB3 ⊢;clear hy;go_upto_region 2 with (first | ((with_reducible refine wpList_store_mid ?_ 188 (.tmp 3) (.tmp 8) ?_ w2.heap.size 0 (zAI y (.slice sa sb sc)).toArray ?_ ?_ ?_ ?_ ?_ ?_);rfl;rfl;rfl;rfl;exact hth;kernel_rfl;exact zAn _ _ _ _))
 clear hth;generalize ((w2.alloc (.cells zeros21 188)).setCells w2.heap.size 0 (zAI y (.slice sa sb sc)))=W3 at *;have rI:=HPI.out.range;have hth:World.there W3 w.heap.size 0 (zAI y (.slice sa sb sc)).toArray.size:=HZ3.out.there;have pF:AtL (W3.setCells w.heap.size 0 (zAI y (.slice sa sb sc))) w.heap.size (zAI y (.slice sa sb sc)):=HZ3.out.setAll rfl;have HPF:Hid ((W3.setCells w.heap.size 0 (zAI y (.slice sa sb sc))).rangeAt w.heap.size 0 (zAI y (.slice sa sb sc))):=pF.range;have HBF:Hid (Below w.heap.size w (W3.setCells w.heap.size 0 (zAI y (.slice sa sb sc)))):=zBJ HB3.out (Nat.le_refl _) _ 0;have HFF:Hid (Fr [w.heap.size] W3 (W3.setCells w.heap.size 0 (zAI y (.slice sa sb sc)))):=zAf _ _ _ _;clear pF HPI HZ3 HB3;go_wp2_with (first | (refine zAB (by rfl) 188 (.tmp 3) rfl w2.heap.size 0 rfl (zAI y (.slice sa sb sc)) _ rI underlying188 rfl (by kernel_rfl) ?_) | ((with_reducible refine wpList_store_mid ?_ 188 (.tmp 2) (.tmp 10) ?_ w.heap.size 0 (zAI y (.slice sa sb sc)).toArray ?_ ?_ ?_ ?_ ?_ ?_);rfl;rfl;rfl;rfl;exact hth;kernel_rfl;exact zAn _ _ _ _))
 obtain ⟨a1,a2,a3⟩:=HPA3.out;have hFF:=HFF.out;refine bodyPost_ret (zA2 (by rfl) _ _ w.heap.size (zAI y (.slice sa sb sc)) _ (by rfl) HPF.out underlying188 rfl (by kernel_rfl)) rfl ⟨⟨_,by rw [HY.out],PA.wide (Nat.le_of_lt a3) (Nat.le_trans a2 hFF.size) n _ _ (PA.kept (Kept.of_fr hFF (λj hj=>by simp at hj;omega)) n _ _ a1)⟩,HBF.out⟩
def FlP (E:Int) (C:List I) (w:World) (e:Ending) (w':World):Prop :=
 ((E ≠ 0/\e=.returned (.tuple #[.slice none 0 0,.int .i64 E])) \/ (E=0/\∃ lv P,e=.returned (.tuple #[lv,.int .i64 0])/\OwnI w' w.heap.size lv P/\P.length=C.length/\(∀ i (h:i<P.length) (h':i<C.length),(P[i]).1=(C[i]).1/\OwnZ w' w.heap.size (P[i]).2 (C[i]).2)/\∀ i j (h:i<P.length) (h':j<P.length) b,(P[i]).2.ownBlock=some b->(P[j]).2.ownBlock=some b->i=j))/\Below w.heap.size w w'
def flE (own r c:Int) (nm:List ByteArray) (n:Nat) (t:Tr n):Int :=
 if Wpl.rightC own r c=false then 110 else if (nm.length:Int)<=own then 84
 else if zC8 own (nm.take 16) n t ≠ 0 then zC8 own (nm.take 16) n t else if isA (hd n t) then 82 else 0
def flC (own:Int) (nm:List ByteArray) (n:Nat) (t:Tr n):List I:=cod own (nm.take 16) n t 0++[ins 16 0 0]
theorem zEz {w1 w2:World} (h:Below w.heap.size w w1) (f:Fr S w1 w2) (hs:∀ k ∈ S,w.heap.size<=k):Below w.heap.size w w2 :=
 ((Fr.of_below [] h).new f (λk hk=>Or.inr (hs k hk))).to_below (by simp)
theorem zHH {B C T0 k:Nat} (h:w.ownsRow C T0 k v n xs) (hb:B<=C):w.ownsRow B T0 k v n xs:=by
 refine ⟨h.1,?_⟩;rcases h.2 with q | ⟨g,cap,cur,e,hg,q⟩
 ·exact Or.inl q
 ·exact Or.inr ⟨g,cap,cur,e,Nat.le_trans hb hg,q⟩
theorem RdS.take {av:Option Addr} {L:List ByteArray} (h:RdS w av L) (k:Nat):RdS w av (L.take k):=λi hi=>by
 have hi2:i<L.length:=by rw [List.length_take] at hi;omega
 obtain ⟨bb,off,e,hc⟩:=h i hi2;exact ⟨bb,off,e,by rw [List.getElem_take];exact hc⟩
theorem zRs (own:Int) (av:Option Addr) (m cap:Nat) (w:World):(Instr.build 192 #[(0,zCc own av m cap)]).run prog w=.ok (.agg #[.int .i64 own,.slice av m cap,.slice none 0 0]) w:=by kernel_rfl
theorem zGY {ops:Array Oper} {rest:List Oper} {op:Oper} {a:Act} {Q:Exit->Act->World->Prop} (hgd:op.guard=none) (y:Operand) (ho:op.op=.build 192 #[(0,y)]) (own:Int) (av:Option Addr) (m cap:Nat) (hy:a.eval y=zCc own av m cap)
  (h:wpList prog ops Q rest (a.put op.dst (.agg #[.int .i64 own,.slice av m cap,.slice none 0 0])) w):wpList prog ops Q (op::rest) a w:=by
 refine wpList_plain hgd λK hK=>?_
 unfold Oper.wp execOp;simp only [ho,List.map_toArray,List.map_cons,List.map_nil,hy,Sem.run_bind,Sem.run_pure,Result.andThen_ok,zRs];exact hK _ _ h
theorem zGh (n:Nat) (t:Tr n) (bb off cap:Nat) (l:List Wt.Nd) (own r c:Int) (av3:Option Addr) (nm:List ByteArray) (m3 cap3:Nat) (w:World) (hF:∀ x ∈ l,Wt.FitN x) (hO:OpsAt w) (hN:NmAt w) (hr:RdN w (some ⟨bb,off,none⟩) l) (hS:RdS w av3 nm) (hE:Wt.check l=0) (hrow:row n t=l) (hT:zDT n t) (hl:l.length<=256) (hcap:l.length<=cap) (m:Nat) (hm:m=l.length) (hm3:m3=nm.length) (hc3:m3<=cap3) (hn3:nm.length<=1000000) (hown:-9223372036854775808<=own/\own<=9223372036854775807) :
  Calls prog 74 #[.slice (some ⟨bb,off,none⟩) m cap,.agg #[.int .i64 own,.int .i64 r,.int .i64 c],.slice av3 m3 cap3] w (FlP (flE own r c nm n t) (flC own nm n t) w):=by
 have hb0:=zAH (Below.refl _ w) (.cells #[.int .i64 own,.int .i64 r,.int .i64 c] 24);have pC:=AtL.new0 w 24 [.int .i64 own,.int .i64 r,.int .i64 c];have CK:=zCo (some ⟨bb,off,none⟩) cap l _ (by omega) hF (hO.below hb0) (hr.below hb0);rw [<-hm,hE] at CK;have HRI:Hid (∀ W:World,Calls prog 71 #[.agg #[.int .i64 own,.int .i64 r,.int .i64 c]] W λe w'=>e=.returned (.bool (Wpl.rightC own r c))/\Below W.heap.size W w'):=λW=>zAr own r c W
 have HPC:Hid (AtL (w.alloc (.cells #[.int .i64 own,.int .i64 r,.int .i64 c] 24)) w.heap.size [.int .i64 own,.int .i64 r,.int .i64 c]):=pC;have HB0:Hid (Below w.heap.size w (w.alloc (.cells #[.int .i64 own,.int .i64 r,.int .i64 c] 24))):=hb0;unfold flE;generalize hq:Wpl.rightC own r c=qr at *;have HQR:Hid (Wpl.rightC own r c=qr):=hq;clear hq;cases qr with
 | false =>
  rw [if_pos rfl];clear hF hO hN hr hS hE hrow hT hl hcap hm hm3 hc3 hn3 hown hb0 pC;go_enter func74,ntmps74;go_upto_region 1 with fail
  generalize (w.alloc (.cells #[.int .i64 own,.int .i64 r,.int .i64 c] 24))=W at *;go_wp2_with fail
  refine CK.mono ?_;rintro e w1 ⟨rfl,hb1⟩;have pC1:=AtL.below hb1 HPC.out;obtain ⟨c0,c1,c2,_,_,_⟩:=pC1.three;have RI:=HRI.out w1;clear CK pC1 HPC HRI;go_wp2_with fail
  refine RI.mono ?_;rintro e w2 ⟨rfl,hb2⟩;have HB2:Hid (Below w.heap.size w w2):=zAA (zAA HB0.out hb1) hb2;clear RI hb1 hb2 c0 c1 c2;go_wp2;go_ret2
  exact ⟨Or.inl ⟨by omega,rfl⟩,HB2.out⟩
 | true =>
  rw [if_neg (by simp)];by_cases h84:(nm.length:Int)<=own
  ·rw [if_pos h84];rw [<-hm3] at h84;clear hF hO hN hr hS hE hrow hT hl hcap hm hm3 hc3 hn3 hb0 pC;go_enter func74,ntmps74;go_upto_region 1 with fail
   generalize (w.alloc (.cells #[.int .i64 own,.int .i64 r,.int .i64 c] 24))=W at *;go_wp2_with fail
   refine CK.mono ?_;rintro e w1 ⟨rfl,hb1⟩;have pC1:=AtL.below hb1 HPC.out;obtain ⟨c0,c1,c2,_,_,_⟩:=pC1.three;have RI:=HRI.out w1;clear CK HPC HRI;go_wp2_with fail
   refine RI.mono ?_;rintro e w2 ⟨rfl,hb2⟩;have d0:=zAC hb2 c0;have HB2:Hid (Below w.heap.size w w2):=zAA (zAA HB0.out hb1) hb2;clear RI hb1 hb2 c0 c1 c2 pC1;go_wp2;go_ret2
   exact ⟨Or.inl ⟨by omega,rfl⟩,HB2.out⟩
  ·rw [if_neg h84];have hr0:=Wpl.rightC_iff.1 HQR.out;have hnp:0<nm.length:=by omega
   obtain ⟨b9,o9,rfl,h9⟩:=hS 0 hnp;have hb9:b9<w.heap.size:=zAp h9;obtain ⟨q,hq⟩:∃ q,min m3 16=q:=⟨_,rfl⟩
   have hq2:q=(nm.take 16).length:=by rw [List.length_take,<-hq,hm3,Nat.min_comm]
   have hq16:(nm.take 16).length<=16:=by rw [List.length_take];omega
   have HAT:Hid (∀ W:World,Calls prog 98 #[.agg #[.int .i64 own,.int .i64 r,.int .i64 c],.slice (some ⟨b9,o9,none⟩) m3 cap3] W λe w'=>e=.returned (zCc own (some ⟨b9,o9,none⟩) q cap3)/\Below W.heap.size W w'):=λW=>zP1 own r c _ m3 cap3 W q hq.symm hc3 (λh=>by cases h)
   have HOF:Hid (∀ W:World,Below w.heap.size w W->Calls prog 99 #[.slice (some ⟨bb,off,none⟩) m cap] W λe w'=>(∃ sl,e=.returned (.agg (zAI (hd n t) sl).toArray)/\PA n W.heap.size w'.heap.size w' t sl)/\Below W.heap.size W w'):=λW hb=>zOw n t bb off m cap W hT (by rw [hrow];exact hm) (by omega) (by omega) (by rw [hrow];exact hr.below hb)
   have HRF:Hid (∀ (sl:Value) (lo hi:Nat) (W:World),Below w.heap.size w W->PA n lo hi W t sl->Calls prog 100 #[.agg (zAI (hd n t) sl).toArray,zCc own (some ⟨b9,o9,none⟩) q cap3] W λe w'=>e=.returned (.int .i64 (zC8 own (nm.take 16) n t))/\Below W.heap.size W w'):=λsl lo hi W hb hp=>zDA own (nm.take 16) _ q cap3 hq2 hq16 n t sl lo hi W hT hp (hN.below hb) ((hS.take 16).below hb)
   have hG:2<w.heap.size:=zAp (hN.cell (id:=0) (by omega) (by omega));have HEN:Hid (∀ (W:World) (k hi:Nat),Below w.heap.size w W->w.heap.size<=k->hi<=k->k+1<=W.heap.size->En own (nm.take 16) (some ⟨b9,o9,none⟩) q cap3 k (k+1) (λ_=>k+1) hi W):=λW k hi hb h1 h2 h3=>⟨hN.below hb,(hS.take 16).below hb,hq2,hq16,λb o e=>by cases e;omega,by omega,h2,Nat.lt_succ_self _,h3,λ_=>h3⟩
   have HCL:Hid ((cod own (nm.take 16) n t 0).length<=900000):=by
    show _<=_
    have h7:=zI0 own (nm.take 16) n t 0;rw [hrow] at h7;omega
   have HT:Hid (zDT n t):=hT;have HFC:Hid (flC own nm n t=cod own (nm.take 16) n t 0++[ins 16 0 0]):=rfl;have h84i:¬ (m3:Int)<=own:=by rw [hm3];exact h84
   obtain ⟨rt,hrt⟩:∃ rt,zC8 own (nm.take 16) n t=rt:=⟨_,rfl⟩
   obtain ⟨y,hy⟩:∃ y,hd n t=y:=⟨_,rfl⟩
   have HRT:Hid (zC8 own (nm.take 16) n t=rt):=hrt;have HY:Hid (hd n t=y):=hy;rw [hrt,hy] at HRF;rw [hy] at HOF;rw [hrt,hy];obtain ⟨E,hE9⟩:∃ E,(if rt ≠ 0 then rt else if isA y=true then 82 else 0:Int)=E:=⟨_,rfl⟩
   have HE:Hid ((if rt ≠ 0 then rt else if isA y=true then 82 else 0:Int)=E):=hE9;rw [hE9];clear hE9;clear hF hO hN hr hS hE hrow hT hl hcap hm hm3 hc3 hn3 hb0 pC h84 hr0 hnp h9 hb9 hq hq2 hq16 hG hrt hy hown;go_enter func74,ntmps74;go_upto_region 1 with fail
   generalize (w.alloc (.cells #[.int .i64 own,.int .i64 r,.int .i64 c] 24))=W at *;go_wp2_with fail
   refine CK.mono ?_;rintro e w1 ⟨rfl,hb1⟩;have pC1:=AtL.below hb1 HPC.out;obtain ⟨c0,c1,c2,_,_,_⟩:=pC1.three;have RI:=HRI.out w1;clear CK HPC HRI;go_wp2_with fail
   refine RI.mono ?_;rintro e w2 ⟨rfl,hb2⟩;have pC2:=AtL.below hb2 pC1;clear c0 c1 c2 pC1 RI;obtain ⟨c0,c1,c2,_,_,_⟩:=pC2.three;have HB2:Hid (Below w.heap.size w w2):=zAA (zAA HB0.out hb1) hb2;have AT:=HAT.out w2;clear hb1 hb2 HB0 HAT;go_wp2_with fail
   refine AT.mono ?_;rintro e w3 ⟨rfl,hb3⟩;have HB3:Hid (Below w.heap.size w w3):=zAA HB2.out hb3;have OF:=HOF.out w3 HB3.out;clear AT hb3 HB2 HOF c0 c1 c2 pC2;go_wp2_with fail
   refine OF.mono ?_;rintro e w4 ⟨⟨sl,rfl,hpa⟩,hb4⟩;obtain ⟨sa,sb,sc,rfl⟩:=hpa.slice;have HB4:Hid (Below w.heap.size w w4):=zAA HB3.out hb4;have HPA4:Hid (PA n w3.heap.size w4.heap.size w4 t (.slice sa sb sc)):=hpa;clear OF hpa hb4 HB3;have pS:AtL ((w4.alloc (.cells #[.int .i64 own,.slice (some ⟨b9,o9,none⟩) q cap3] 184)).alloc (.cells zeros21 188)) w4.heap.size [.int .i64 own,.slice (some ⟨b9,o9,none⟩) q cap3]:=(AtL.new0 w4 184 [.int .i64 own,.slice (some ⟨b9,o9,none⟩) q cap3]).alloc (.cells zeros21 188);have pQ:AtL ((w4.alloc (.cells #[.int .i64 own,.slice (some ⟨b9,o9,none⟩) q cap3] 184)).alloc (.cells zeros21 188)) (w4.heap.size+1) zeros21.toList:=AtL.new1 w4 _ 188 zeros21.toList;have hb5:=zAH (zAH (Below.refl _ w4) (.cells #[.int .i64 own,.slice (some ⟨b9,o9,none⟩) q cap3] 184)) (.cells zeros21 188);have hthP:World.there ((w4.alloc (.cells #[.int .i64 own,.slice (some ⟨b9,o9,none⟩) q cap3] 184)).alloc (.cells zeros21 188)) (w4.heap.size+1) 0 (zAI y (.slice sa sb sc)).toArray.size:=pQ.there;have pS2:=pS.farAll (b:=w4.heap.size+1) (by omega) 0 (zAI y (.slice sa sb sc));have pP2:=pQ.setAll (vs:=zAI y (.slice sa sb sc)) rfl;have hb6:=zBJ hb5 (Nat.le_succ _) (zAI y (.slice sa sb sc)) 0;obtain ⟨W6,hW6⟩:∃ W6,((w4.alloc (.cells #[.int .i64 own,.slice (some ⟨b9,o9,none⟩) q cap3] 184)).alloc (.cells zeros21 188)).setCells (w4.heap.size+1) 0 (zAI y (.slice sa sb sc))=W6:=⟨_,rfl⟩
   rw [hW6] at pS2 pP2 hb6;have HS6:Hid (AtL W6 w4.heap.size [.int .i64 own,.slice (some ⟨b9,o9,none⟩) q cap3]):=pS2;have HP6:Hid (AtL W6 (w4.heap.size+1) (zAI y (.slice sa sb sc))):=pP2;have HB6:Hid (Below w.heap.size w W6):=zAA HB4.out hb6;have HPA6:Hid (PA n w3.heap.size w4.heap.size W6 t (.slice sa sb sc)):=PA.kept (Kept.of_below hb6) n _ _ HPA4.out;have HW6:Hid (((w4.alloc (.cells #[.int .i64 own,.slice (some ⟨b9,o9,none⟩) q cap3] 184)).alloc (.cells zeros21 188)).setCells (w4.heap.size+1) 0 (zAI y (.slice sa sb sc))=W6):=hW6;have HSZ:Hid (w.heap.size<=w4.heap.size):=HB4.out.size;clear pS pQ pS2 pP2 hb5 hb6 hW6 HB4 HPA4;go_upto_region 9 with ((with_reducible refine wpList_store_mid ?_ 188 (.tmp 10) (.tmp 33) ?_ (w4.heap.size+1) 0 (zAI y (.slice sa sb sc)).toArray ?_ ?_ ?_ ?_ ?_ ?_);rfl;rfl;rfl;rfl;exact hthP;kernel_rfl;exact zAn _ _ _ _)
   rw [HW6.out];clear HW6 hthP;obtain ⟨k4,hk4⟩:∃ k,w4.heap.size=k:=⟨_,rfl⟩
   rw [hk4] at HS6 HP6 HPA6 HSZ;simp only [hk4];clear hk4;have RF:=HRF.out (.slice sa sb sc) w3.heap.size k4 W6 HB6.out HPA6.out;have rP:=HP6.out.range;have rS:=HS6.out.range;clear HRF;go_wp2_with (first | (refine zAB (by rfl) 188 (.tmp 10) rfl (k4+1) 0 rfl (zAI y (.slice sa sb sc)) _ rP underlying188 rfl (by kernel_rfl) ?_) | (refine zAB (by rfl) 184 (.tmp 9) rfl k4 0 rfl [.int .i64 own,.slice (some ⟨b9,o9,none⟩) q cap3] _ rS underlying184 rfl (by kernel_rfl) ?_))
   refine RF.mono ?_;rintro e w7 ⟨rfl,hb7⟩;have HB7:Hid (Below w.heap.size w w7):=zAA HB6.out hb7;have HS7:Hid (AtL w7 k4 [.int .i64 own,.slice (some ⟨b9,o9,none⟩) q cap3]):=AtL.below hb7 HS6.out;have HP7:Hid (AtL w7 (k4+1) (zAI y (.slice sa sb sc))):=AtL.below hb7 HP6.out;have HPA7:Hid (PA n w3.heap.size k4 w7 t (.slice sa sb sc)):=PA.kept (Kept.of_below hb7) n _ _ HPA6.out;clear RF hb7 HB6 HS6 HP6 HPA6 rP rS;by_cases hrt0:rt=0
   ·have IA:=zBW y (.slice sa sb sc) w7;have rP:=HP7.out.range;cases hya:isA y with
    | true =>
     have hE2:=HE.out;rw [if_neg (by simp [hrt0]),if_pos hya] at hE2;rw [hya] at IA;subst hrt0;go_wp2_with (first | (refine zAB (by rfl) 188 (.tmp 10) rfl (k4+1) 0 rfl (zAI y (.slice sa sb sc)) _ rP underlying188 rfl (by kernel_rfl) ?_))
     refine IA.mono ?_;rintro e w8 ⟨rfl,hb8⟩;have HB8:Hid (Below w.heap.size w w8):=zAA HB7.out hb8;clear IA hb8 rP;go_wp2;go_ret2
     exact ⟨Or.inl ⟨by omega,by rw [<-hE2];rfl⟩,HB8.out⟩
    | false =>
     have hE2:=HE.out;rw [if_neg (by simp [hrt0]),if_neg (by simp [hya])] at hE2;rw [hya] at IA;have HWR:Hid (Wr own (nm.take 16) n t):=⟨HT.out,by rw [HRT.out];exact hrt0,by rw [HY.out];exact hya⟩
     clear HE;subst hrt0;subst hE2;go_wp2_with (first | (refine zAB (by rfl) 188 (.tmp 10) rfl (k4+1) 0 rfl (zAI y (.slice sa sb sc)) _ rP underlying188 rfl (by kernel_rfl) ?_))
     refine IA.mono ?_;rintro e w8 ⟨rfl,hb8⟩;have HB8:Hid (Below w.heap.size w w8):=zAA HB7.out hb8;have rS:=zAF hb8 HS7.out.range;have hP8:=AtL.below hb8 HP7.out;have hPA8:=PA.kept (Kept.of_below hb8) n _ _ HPA7.out;have hkk:k4+1<w8.heap.size:=hP8.lt;have hb9:=zAH (Below.refl _ w8) (.cells #[.int .i64 own,.slice (some ⟨b9,o9,none⟩) q cap3,.slice none 0 0] 192);have HB9:Hid (Below w.heap.size w (w8.alloc (.cells #[.int .i64 own,.slice (some ⟨b9,o9,none⟩) q cap3,.slice none 0 0] 192))):=zAA HB8.out hb9;have rP9:=zAF hb9 hP8.range;have hPA9:=PA.kept (Kept.of_below hb9) n _ _ hPA8;have hsz9:w8.heap.size+1<=(w8.alloc (.cells #[.int .i64 own,.slice (some ⟨b9,o9,none⟩) q cap3,.slice none 0 0] 192)).heap.size:=by rw [World.size_alloc];exact Nat.le_refl _
     have EN:=HEN.out _ w8.heap.size k4 HB9.out HB8.out.size (by omega) hsz9;have hws:WS w8.heap.size (w8.heap.size+1) (λ_=>w8.heap.size+1) (w8.alloc (.cells #[.int .i64 own,.slice (some ⟨b9,o9,none⟩) q cap3,.slice none 0 0] 192)) (.int .i64 own) (.slice (some ⟨b9,o9,none⟩) q cap3) [] (.slice none 0 0) []:=⟨AtL.new0 w8 192 _,OwnI.nil _ _,rfl,λi h=>absurd h (Nat.not_lt_zero _),λ_=>Nat.le_refl _,λi j h=>absurd h (Nat.not_lt_zero _)⟩
     have PT:=zHB own (nm.take 16) (some ⟨b9,o9,none⟩) q cap3 n t (.slice sa sb sc) w3.heap.size k4 w8.heap.size (w8.heap.size+1) (λ_=>w8.heap.size+1) _ [] (.slice none 0 0) [] HWR.out hPA9 EN hws (by have:=HCL.out;simpa using this);rw [HY.out] at PT;clear IA hb8 hb9 rP hP8 hPA8 hPA9 EN hws HS7 HP7 HPA7 HB7;go_upto_region 15 with (first | (refine zAB (by rfl) 184 (.tmp 9) rfl k4 0 rfl [.int .i64 own,.slice (some ⟨b9,o9,none⟩) q cap3] _ rS underlying184 rfl (by kernel_rfl) ?_) | (refine zGY rfl (.tmp 42) rfl own (some ⟨b9,o9,none⟩) q cap3 rfl ?_;clear rS))
     generalize (w8.alloc (.cells #[.int .i64 own,.slice (some ⟨b9,o9,none⟩) q cap3,.slice none 0 0] 192))=W9 at *;have HK8:Hid (w.heap.size<=w8.heap.size/\w8.heap.size+1<=W9.heap.size):=⟨HB8.out.size,hsz9⟩
     clear HB8 hsz9 hkk;obtain ⟨k8,hk8⟩:∃ k,w8.heap.size=k:=⟨_,rfl⟩
     rw [hk8] at HK8 PT;simp only [hk8];clear hk8;go_wp2_with (first | (refine zAB (by rfl) 188 (.tmp 10) rfl (k4+1) 0 rfl (zAI y (.slice sa sb sc)) _ rP9 underlying188 rfl (by kernel_rfl) ?_))
     refine PT.mono ?_;rintro e w10 ⟨⟨lv1,P1,rfl,ws1,hn1⟩,fr1⟩;have HBA:Hid (Below w.heap.size w w10):=zEz HB9.out fr1 (λj hj=>by
      have:=HK8.out.1;simp [Value.ownBlock] at hj;omega)
     have LA:=zAs k8 (k8+1) (λ_=>k8+1) (ins 16 0 0).1 _ _ _ lv1 P1 w10 ws1 (Nat.lt_succ_self _) (Nat.le_trans HK8.out.2 fr1.size) (by have:=HCL.out;simp only [List.nil_append,List.length_nil];omega);have HO1:Hid (∀ g,lv1.ownBlock=some g->k8+1<=g):=λg e=>(zAL ws1.own e).1
     clear PT rP9 ws1 hn1 fr1 HB9;go_wp2_with fail
     refine LA.mono ?_;rintro e w11 ⟨⟨lv2,P2,rfl,ws2,hn2⟩,fr2⟩;have HBB:Hid (Below w.heap.size w w11):=zEz HBA.out fr2 (λj hj=>by
      have h1:=HK8.out.1;rcases List.mem_cons.1 hj with q | q
      ·omega
      ·have:=HO1.out j (by simpa using q);omega)
     have hsl:∃ a b c,lv2=Value.slice a b c:=by
      rcases ws2.own.2 with ⟨q,_⟩ | ⟨g,c,cur,q,_⟩
      ·exact ⟨_,_,_,q⟩
      ·exact ⟨_,_,_,q⟩
     obtain ⟨la,lb,lc,rfl⟩:=hsl;obtain ⟨_,_,c2,_,_,_⟩:=ws2.at'.three;have HWS:Hid (WS k8 (k8+1) (λ_=>k8+1) w11 (.int .i64 own) (.slice (some ⟨b9,o9,none⟩) q cap3) (flC own nm n t) (.slice la lb lc) P2):=ws2;clear LA ws2 hn2 fr2 HBA;go_wp2_with fail
     go_ret2
     have hws:=HWS.out;have hk:=HK8.out.1;exact ⟨Or.inr ⟨rfl,_,P2,rfl,zHH hws.own (by omega),hws.len,λi h h'=>⟨(hws.ins i h h').1,zHH (hws.ins i h h').2 (by omega)⟩,hws.dis⟩,HBB.out⟩
   ·have hE2:=HE.out;rw [if_pos hrt0] at hE2;clear HE;go_wp2;go_ret2
    exact ⟨Or.inl ⟨by omega,by rw [<-hE2];rfl⟩,HB7.out⟩
structure Ce where
 t:ByteArray
 c:List I
abbrev ce0:Ce:=⟨⟨#[]⟩,[]⟩
def CdP (w:World) (lo:Nat) (v:Value) (C:List I):Prop:=∃ P,OwnI w lo v P/\P.length=C.length/\∀ i (h:i<P.length) (h':i<C.length),(P[i]).1=(C[i]).1/\OwnZ w lo (P[i]).2 (C[i]).2
theorem CdP.nil (w:World) (lo:Nat):CdP w lo (.slice none 0 0) []:=⟨[],OwnI.nil _ _,rfl,λi h=>absurd h (Nat.not_lt_zero _)⟩
theorem CdP.fr (hf:Fr S w w') {lo:Nat} {v:Value} {C:List I} (h:CdP w lo v C) (hs:∀ k ∈ S,k<lo):CdP w' lo v C:=by
 obtain ⟨P,h1,h2,h3⟩:=h;refine ⟨P,zAZ hf h1 (λg e hg=>?_),h2,λi a b=>⟨(h3 i a b).1,zAZ hf (h3 i a b).2 (λg e hg=>?_)⟩⟩
 ·have:=(zAL h1 e).1;have:=hs g hg;omega
 ·have:=(zAL (h3 i a b).2 e).1;have:=hs g hg;omega
theorem zKl {base base':Nat} {e:TypeId} {size:Nat} (h:w.ownsRow base e size v n xs) (hb:base'<=base):w.ownsRow base' e size v n xs :=
 ⟨h.1,h.2.imp id λ⟨g,cap,cur,h1,h2,h3⟩=>⟨g,cap,cur,h1,Nat.le_trans hb h2,h3⟩⟩
theorem CdP.mono {lo':Nat} {C:List I} (h:CdP w lo v C) (hb:lo'<=lo):CdP w lo' v C:=by
 obtain ⟨P,h1,h2,h3⟩:=h;exact ⟨P,zKl h1 hb,h2,λi a b=>⟨(h3 i a b).1,zKl (h3 i a b).2 hb⟩⟩
def CeP (w:World) (lo:Nat) (f:Ct) (g:Ce):Prop:=f.t=g.t/\CdP w lo f.v g.c
theorem CeP.zero (w:World) (lo:Nat):CeP w lo ct0 ce0:=⟨rfl,CdP.nil w lo⟩
def Mt (w:World) (lo:Nat):List (Wpl.Cl × Ct)->List (Wpl.Cl × Ce)->Prop
 | [],[]=>True
 | f::F,g::G=>(f.1=g.1/\CeP w lo f.2 g.2)/\Mt w lo F G
 | [],_::_=>False
 | _::_,[]=>False
theorem Mt.fr {S:List Nat} {w w':World} (hf:Fr S w w') {lo:Nat} (hs:∀ k ∈ S,k<lo):∀ {F:List (Wpl.Cl × Ct)} {G:List (Wpl.Cl × Ce)},Mt w lo F G->Mt w' lo F G
 | [],[],_=>trivial
 | f::F,g::G,h=>⟨⟨h.1.1,h.1.2.1,h.1.2.2.fr hf hs⟩,Mt.fr hf hs h.2⟩
 | [],_::_,h=>h.elim
 | _::_,[],h=>h.elim
theorem Mt.len {w:World} {lo:Nat}:∀ {F:List (Wpl.Cl × Ct)} {G:List (Wpl.Cl × Ce)},Mt w lo F G->F.length=G.length
 | [],[],_=>rfl
 | f::F,g::G,h=>by rw [List.length_cons,List.length_cons,Mt.len h.2]
 | [],_::_,h=>h.elim
 | _::_,[],h=>h.elim
theorem Mt.keys {w:World} {lo:Nat}:∀ {F:List (Wpl.Cl × Ct)} {G:List (Wpl.Cl × Ce)},Mt w lo F G->F.map (λp=>p.1)=G.map (λp=>p.1)
 | [],[],_=>rfl
 | f::F,g::G,h=>by rw [List.map_cons,List.map_cons,Mt.keys h.2,h.1.1]
 | [],_::_,h=>h.elim
 | _::_,[],h=>h.elim
theorem Mt.find {w:World} {lo:Nat} (x:Wpl.Cl):∀ {F:List (Wpl.Cl × Ct)} {G:List (Wpl.Cl × Ce)} (i:Nat),Mt w lo F G->(fnB x F i=none/\fnB x G i=none) \/ ∃ k f g,fnB x F i=some (k,f)/\fnB x G i=some (k,g)/\CeP w lo f g
 | [],[],i,_=>Or.inl ⟨rfl,rfl⟩
 | f::F,g::G,i,h=>by
  unfold fnB;rw [h.1.1];cases eqB g.1 x with
  | true=>exact Or.inr ⟨i,f.2,g.2,rfl,rfl,h.1.2⟩
  | false=>exact Mt.find x (i+1) h.2
 | [],_::_,i,h=>h.elim
 | _::_,[],i,h=>h.elim
theorem Mt.set {w:World} {lo:Nat} {x:Wpl.Cl} {f:Ct} {g:Ce} (hc:CeP w lo f g):∀ {F:List (Wpl.Cl × Ct)} {G:List (Wpl.Cl × Ce)} (i:Nat),Mt w lo F G->Mt w lo (F.set i (x,f)) (G.set i (x,g))
 | [],[],i,_=>trivial
 | a::F,b::G,0,h=>⟨⟨rfl,hc⟩,h.2⟩
 | a::F,b::G,i+1,h=>⟨h.1,Mt.set hc i h.2⟩
 | [],_::_,i,h=>h.elim
 | _::_,[],i,h=>h.elim
theorem Mt.app {w:World} {lo:Nat} {x:Wpl.Cl} {f:Ct} {g:Ce} (hc:CeP w lo f g):∀ {F:List (Wpl.Cl × Ct)} {G:List (Wpl.Cl × Ce)},Mt w lo F G->Mt w lo (F++[(x,f)]) (G++[(x,g)])
 | [],[],_=>⟨⟨rfl,hc⟩,trivial⟩
 | a::F,b::G,h=>⟨h.1,Mt.app hc h.2⟩
 | [],_::_,h=>h.elim
 | _::_,[],h=>h.elim
theorem Mt.ers {w:World} {lo:Nat}:∀ {F:List (Wpl.Cl × Ct)} {G:List (Wpl.Cl × Ce)} (i:Nat),Mt w lo F G->Mt w lo (F.eraseIdx i) (G.eraseIdx i)
 | [],[],i,_=>trivial
 | a::F,b::G,0,h=>h.2
 | a::F,b::G,i+1,h=>⟨h.1,Mt.ers i h.2⟩
 | [],_::_,i,h=>h.elim
 | _::_,[],i,h=>h.elim
theorem Mt.put {G:List (Wpl.Cl × Ce)} (h:Mt w lo F G) (x:Wpl.Cl) {f:Ct} {g:Ce} (hc:CeP w lo f g):Mt w lo (zF3 x f F) (zF3 x g G):=by
 unfold zF3;rcases h.find x 0 with ⟨e1,e2⟩ | ⟨k,a,b,e1,e2,_⟩
 ·rw [e1,e2];exact h.app hc
 ·rw [e1,e2];exact h.set hc k
theorem Mt.del {G:List (Wpl.Cl × Ce)} (h:Mt w lo F G) (x:Wpl.Cl):Mt w lo (zHh x F) (zHh x G):=by
 unfold zHh;rcases h.find x 0 with ⟨e1,e2⟩ | ⟨k,a,b,e1,e2,_⟩
 ·rw [e1,e2];exact h
 ·rw [e1,e2];exact h.ers k
def gtE (x:Wpl.Cl) (G:List (Wpl.Cl × Ce)):Ce:=((fnB x G 0).map (λq=>q.2)).getD ce0
theorem Mt.get {G:List (Wpl.Cl × Ce)} (h:Mt w lo F G) (x:Wpl.Cl):CeP w lo (gtC x F) (gtE x G)/\gtH x F=(fnB x G 0).isSome:=by
 unfold gtC gtE gtH;rcases h.find x 0 with ⟨e1,e2⟩ | ⟨k,a,b,e1,e2,e3⟩
 ·rw [e1,e2];exact ⟨CeP.zero w lo,rfl⟩
 ·rw [e1,e2];exact ⟨e3,rfl⟩
theorem zGv {G:List (Wpl.Cl × Ce)} {x:Wpl.Cl}:gtE x G=ce0 \/ (x,gtE x G) ∈ G:=by
 unfold gtE;cases hq:fnB x G 0 with
 | none=>exact Or.inl rfl
 | some q =>
  obtain ⟨j,h1,h2⟩:=zDB x G 0 q hq;exact Or.inr (List.mem_of_getElem? h2)
theorem zP9 {G:List (Wpl.Cl × Ce)} (h:KB G) {x:Wpl.Cl} {e:Ce} (he:(x,e) ∈ G):gtE x G=e:=by
 unfold gtE;cases hq:fnB x G 0 with
 | none=>exact absurd rfl (zCm x G 0 hq _ he)
 | some q =>
  obtain ⟨j,h1,h2⟩:=zDB x G 0 q hq;exact h.one (List.mem_of_getElem? h2) he
structure BK (w:World) (bb mb lo:Nat) (na:Option Addr) (nk:Nat) (nm:List ByteArray) (ver:Int) (G:List (Wpl.Cl × Ce)):Prop where
 hd:AtL w bb [.slice na nm.length nk,.int .i64 ver,.map (some mb)]
 rs:RdS w na nm
 kp:nm.length<=nk
 nb:∀ g o,na=some ⟨g,o,none⟩->g ≠ bb/\g ≠ mb
 mp:∃ F,MB w mb F/\Mt w lo F G
 lt:bb<lo/\mb<lo/\lo<=w.heap.size
 ne:bb ≠ mb
theorem MB.fr {b:Nat} (h:MB w b F) (hf:Fr S w w') (hn:b ∉ S):MB w' b F:=by
 have hlt:=h.lt;obtain ⟨es,ck,h1,h2⟩:=h;exact ⟨es,ck,by rw [hf.block b hlt hn];exact h1,h2⟩
theorem RdS.fr (h:RdS w na nm) (hf:Fr S w w') (hn:∀ g o,na=some ⟨g,o,none⟩->g ∉ S):RdS w' na nm:=λi hi=>by
 obtain ⟨bb,off,e,hc⟩:=h i hi;exact ⟨bb,off,e,hf.cell hc (hn bb off e)⟩
theorem BK.below {bb mb:Nat} {nk:Nat} {ver:Int} {G:List (Wpl.Cl × Ce)} (h:BK w bb mb lo na nk nm ver G) (hb:Below w.heap.size w w'):BK w' bb mb lo na nk nm ver G:=by
 obtain ⟨F,m1,m2⟩:=h.mp;exact ⟨AtL.below hb h.hd,RdS.fr h.rs (Fr.of_below [] hb) (by simp),h.kp,h.nb,⟨F,m1.fr (Fr.of_below [] hb) (by simp),m2.fr (Fr.of_below [] hb) (by simp)⟩,⟨h.lt.1,h.lt.2.1,Nat.le_trans h.lt.2.2 hb.size⟩,h.ne⟩
theorem Mt.mono {w:World} {lo lo':Nat} (hb:lo'<=lo):∀ {F:List (Wpl.Cl × Ct)} {G:List (Wpl.Cl × Ce)},Mt w lo F G->Mt w lo' F G
 | [],[],_=>trivial
 | f::F,g::G,h=>⟨⟨h.1.1,h.1.2.1,h.1.2.2.mono hb⟩,Mt.mono hb h.2⟩
 | [],_::_,h=>h.elim
 | _::_,[],h=>h.elim
def zEW (n:Nat) (x:Wpl.Cl):Bool:=Wpl.rightC x.s x.r x.c && decide (x.s<(n:Int))
theorem zM5 (bb mb:Nat) (na:Option Addr) (nn nk:Nat) (ver:Int) (x:Wpl.Cl) (w:World) (h:AtL w bb [.slice na nn nk,.int .i64 ver,.map (some mb)]) :
  CR 48 #[.pointer (some ⟨bb,0,none⟩),.agg #[.int .i64 x.s,.int .i64 x.r,.int .i64 x.c]] w (.bool (zEW nn x)):=by
 have RI:=λW=>zAr x.s x.r x.c W
 have hb0:=zAH (Below.refl _ w) (.cells #[.int .i64 x.s,.int .i64 x.r,.int .i64 x.c] 24);have p:=AtL.f3 (AtL.new0 w 24 [.int .i64 x.s,.int .i64 x.r,.int .i64 x.c]);obtain ⟨c0,_,_,_⟩:=(AtL.below hb0 h).three;have HB0:Hid (Below w.heap.size w (w.alloc (.cells #[.int .i64 x.s,.int .i64 x.r,.int .i64 x.c] 24))):=hb0;clear h hb0;unfold zEW;cases hq:Wpl.rightC x.s x.r x.c with
 | false =>
  rw [hq] at RI;clear hq;go_enter func48,ntmps48;go_upto_region 1 with fail
  generalize w.alloc (.cells #[.int .i64 x.s,.int .i64 x.r,.int .i64 x.c] 24)=W0 at *;have t3:zAt W0 w.heap.size (.int .i64 x.s) (.int .i64 x.r) (.int .i64 x.c):=p;clear p;have hb1:=(Below.refl W0.heap.size W0).drew;refine wp_region_held_drew (S:=λW=>W.cell? ⟨bb,0,none⟩=some (.slice na nn nk)/\zAt W w.heap.size (.int .i64 x.s) (.int .i64 x.r) (.int .i64 x.c)) (by kernel_rfl) ⟨zAC hb1 c0,zAG hb1 t3⟩ (λhHeld=>?_);have HB1:Hid (Below w.heap.size w W0.drew):=zAA HB0.out hb1;replace t3:=zAG hb1 t3
  replace c0:=zAC hb1 c0
  clear hb1 HB0;generalize W0.drew=W1 at *;refine tkQ 0 ?_
  refine rdQ 1 (λK hK=>?_);go_simp
  refine (RI _).mono ?_;rintro e w2 ⟨rfl,hb2⟩;have HB2:Hid (Below w.heap.size w w2):=zAA HB1.out hb2;replace t3:=zAG hb2 t3
  replace c0:=zAC hb2 c0
  clear hb2 HB1 RI;go_wp2_with fail
  refine hkQ hK ⟨c0,t3⟩ (λhHeld=>?_);clear hK K
  refine tkQ 2 ?_
  refine tnQ 3 ?_
  refine tnQ 4 ?_
  refine tnQ 5 ?_
  refine tnQ 6 ?_
  refine tnQ 7 ?_
  refine tnQ 8 ?_
  refine tnQ 9 ?_
  refine tnQ 10 ?_
  refine tkQ 11 ?_
  refine rdQ 12 (λK hK=>?_);go_simp
  refine hkQ hK ⟨c0,t3⟩ (λhHeld=>?_);clear hK K
  refine wpAnyH_done (by kernel_rfl) ?_ _;clear hHeld;go_wp2;go_ret;exact ⟨rfl,HB2.out⟩
 | true =>
  rw [hq] at RI;clear hq;go_enter func48,ntmps48;go_upto_region 1 with fail
  generalize w.alloc (.cells #[.int .i64 x.s,.int .i64 x.r,.int .i64 x.c] 24)=W0 at *;have t3:zAt W0 w.heap.size (.int .i64 x.s) (.int .i64 x.r) (.int .i64 x.c):=p;clear p;have hb1:=(Below.refl W0.heap.size W0).drew;refine wp_region_held_drew (S:=λW=>W.cell? ⟨bb,0,none⟩=some (.slice na nn nk)/\zAt W w.heap.size (.int .i64 x.s) (.int .i64 x.r) (.int .i64 x.c)) (by kernel_rfl) ⟨zAC hb1 c0,zAG hb1 t3⟩ (λhHeld=>?_);have HB1:Hid (Below w.heap.size w W0.drew):=zAA HB0.out hb1;replace t3:=zAG hb1 t3
  replace c0:=zAC hb1 c0
  clear hb1 HB0;generalize W0.drew=W1 at *;refine tkQ 0 ?_
  refine rdQ 1 (λK hK=>?_);go_simp
  refine (RI _).mono ?_;rintro e w2 ⟨rfl,hb2⟩;have HB2:Hid (Below w.heap.size w w2):=zAA HB1.out hb2;replace t3:=zAG hb2 t3
  replace c0:=zAC hb2 c0
  clear hb2 HB1 RI;go_wp2_with fail
  refine hkQ hK ⟨c0,t3⟩ (λhHeld=>?_);clear hK K
  refine tkQ 2 ?_
  refine tkQ 3 ?_
  refine tkQ 4 ?_
  refine tkQ 5 ?_
  refine tkQ 6 ?_
  refine tkQ 7 ?_
  refine tkQ 8 ?_
  refine tkQ 9 ?_
  refine tkQ 10 ?_
  refine tkQ 11 ?_
  refine rdQ 12 (λK hK=>?_);go_simp
  refine hkQ hK ⟨c0,t3⟩ (λhHeld=>?_);clear hK K
  refine wpAnyH_done (by kernel_rfl) ?_ _;clear hHeld;go_wp2;go_ret;exact ⟨rfl,HB2.out⟩
