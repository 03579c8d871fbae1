/- KFlat, KRtA, KRtB. -/
import Derived.Test.YtnloiaoogofklaaGreatDoorQ32
set_option maxHeartbeats 3200000
set_option maxRecDepth 100000
set_option linter.unusedVariables false
namespace Go.Proofs.YtnloiaoogofklaaGreatDoor
open Tryz
open Go.RowKit Wf
variable {w:World}
theorem zOJ (n:Nat) (t:Tr n) (bb off L cap:Nat) (w:World) (hF:zC0 n t) (hL:L=(row n t).length) (hl:L<=300) (hc:L<=cap) (hR:RdN w (some ⟨bb,off,none⟩) (row n t)):Calls prog 25 #[.slice (some ⟨bb,off,none⟩) L cap] w λe w'=>(∃ sl,e=.returned (.agg (zAK (hd n t) sl).toArray)/\PA n w.heap.size w'.heap.size w' t sl)/\Below w.heap.size w w':=by
 have pR0:AtL (w.alloc (.cells zeros21 76)) w.heap.size zeros21.toList:=AtL.new0 w _ _;have hb1:=zAL (Below.refl _ w) (.cells zeros21 76);have GR:=zGW n t bb off L cap [] _ hF (by rw [List.append_nil];exact hL) hl hc (by rw [List.append_nil];exact hR.below hb1);unfold GrP at GR;have HZ0:Hid (AtL (w.alloc (.cells zeros21 76)) w.heap.size zeros21.toList):=pR0;have HB1:Hid (Below w.heap.size w (w.alloc (.cells zeros21 76))):=hb1;clear pR0 hb1 hF hL hl hc hR;go_enter func25,ntmps25;go_upto_region 1 with fail
 generalize (w.alloc (.cells zeros21 76))=W1 at *;go_wp2_with fail
 refine GR.mono ?_;rintro e w2 ⟨⟨sl,X,L2,C2,rfl,_,hpa,_,_⟩,hb2⟩;obtain ⟨sa,sb,sc,rfl⟩:=hpa.slice;have hth:World.there (w2.alloc (.cells zeros21 76)) w2.heap.size 0 (zAK (hd n t) (.slice sa sb sc)).toArray.size:=(AtL.new0 w2 _ _:AtL (w2.alloc (.cells zeros21 76)) w2.heap.size zeros21.toList).there;have HPI:Hid (AtL ((w2.alloc (.cells zeros21 76)).setCells w2.heap.size 0 (zAK (hd n t) (.slice sa sb sc))) w2.heap.size (zAK (hd n t) (.slice sa sb sc))):=(AtL.new0 w2 _ _:AtL (w2.alloc (.cells zeros21 76)) w2.heap.size zeros21.toList).setAll rfl;have hb3:Below w2.heap.size w2 ((w2.alloc (.cells zeros21 76)).setCells w2.heap.size 0 (zAK (hd n t) (.slice sa sb sc))):=zAs (zAL (Below.refl _ w2) _) (Nat.le_refl _) _ 0;have HPA3:Hid (PA n W1.heap.size w2.heap.size ((w2.alloc (.cells zeros21 76)).setCells w2.heap.size 0 (zAK (hd n t) (.slice sa sb sc))) t (.slice sa sb sc)/\w2.heap.size<=((w2.alloc (.cells zeros21 76)).setCells w2.heap.size 0 (zAK (hd n t) (.slice sa sb sc))).heap.size/\w.heap.size<W1.heap.size):=⟨PA.kept (Kept.of_below hb3) n _ _ hpa,hb3.size,HZ0.out.lt⟩
 have HZ3:Hid (AtL ((w2.alloc (.cells zeros21 76)).setCells w2.heap.size 0 (zAK (hd n t) (.slice sa sb sc))) w.heap.size zeros21.toList):=AtL.below hb3 (AtL.below hb2 HZ0.out);have HB3:Hid (Below w.heap.size w ((w2.alloc (.cells zeros21 76)).setCells w2.heap.size 0 (zAK (hd n t) (.slice sa sb sc)))):=zAB (zAB HB1.out hb2) hb3;clear GR hpa hb2 hb3 HZ0 HB1;obtain ⟨y,hy⟩:∃ y,hd n t=y:=⟨_,rfl⟩
 have HY:Hid (hd n t=y):=hy;rw [hy] at hth HPI HPA3 HZ3 HB3 ⊢;clear hy;go_upto_region 2 with (first | ((with_reducible refine wpList_store_mid ?_ 76 (.tmp 3) (.tmp 8) ?_ w2.heap.size 0 (zAK y (.slice sa sb sc)).toArray ?_ ?_ ?_ ?_ ?_ ?_);rfl;rfl;rfl;rfl;exact hth;kernel_rfl;exact zC1 _ _ _ _))
 clear hth;generalize ((w2.alloc (.cells zeros21 76)).setCells w2.heap.size 0 (zAK y (.slice sa sb sc)))=W3 at *;have rI:=HPI.out.range;have hth:World.there W3 w.heap.size 0 (zAK y (.slice sa sb sc)).toArray.size:=HZ3.out.there;have pF:AtL (W3.setCells w.heap.size 0 (zAK y (.slice sa sb sc))) w.heap.size (zAK y (.slice sa sb sc)):=HZ3.out.setAll rfl;have HPF:Hid ((W3.setCells w.heap.size 0 (zAK y (.slice sa sb sc))).rangeAt w.heap.size 0 (zAK y (.slice sa sb sc))):=pF.range;have HBF:Hid (Below w.heap.size w (W3.setCells w.heap.size 0 (zAK y (.slice sa sb sc)))):=zAs HB3.out (Nat.le_refl _) _ 0;have HFF:Hid (Fr [w.heap.size] W3 (W3.setCells w.heap.size 0 (zAK y (.slice sa sb sc)))):=zCB _ _ _ _;clear pF HPI HZ3 HB3;go_wp2_with (first | (refine zAA (by rfl) 76 (.tmp 3) rfl w2.heap.size 0 rfl (zAK y (.slice sa sb sc)) _ rI underlying76 rfl (by kernel_rfl) ?_) | ((with_reducible refine wpList_store_mid ?_ 76 (.tmp 2) (.tmp 10) ?_ w.heap.size 0 (zAK y (.slice sa sb sc)).toArray ?_ ?_ ?_ ?_ ?_ ?_);rfl;rfl;rfl;rfl;exact hth;kernel_rfl;exact zC1 _ _ _ _))
 obtain ⟨a1,a2,a3⟩:=HPA3.out;have hFF:=HFF.out;refine bodyPost_ret (zB2 (by rfl) _ _ w.heap.size (zAK y (.slice sa sb sc)) _ (by rfl) HPF.out underlying76 rfl (by kernel_rfl)) rfl ⟨⟨_,by rw [HY.out],PA.wide (Nat.le_of_lt a3) (Nat.le_trans a2 hFF.size) n _ _ (PA.kept (Kept.of_fr hFF (λj hj=>by simp at hj;omega)) n _ _ a1)⟩,HBF.out⟩
def FlP (E:Int) (C:List I) (w:World) (e:Ending) (w':World):Prop :=
 ((E ≠ 0/\e=.returned (.tuple #[.slice none 0 0,.int .i64 E])) \/ (E=0/\∃ lv P,e=.returned (.tuple #[lv,.int .i64 0])/\OwnI w' w.heap.size lv P/\P.length=C.length/\(∀ i (h:i<P.length) (h':i<C.length),(P[i]).1=(C[i]).1/\OwnZ w' w.heap.size (P[i]).2 (C[i]).2)/\∀ i j (h:i<P.length) (h':j<P.length) b,(P[i]).2.ownBlock=some b->(P[j]).2.ownBlock=some b->i=j))/\Below w.heap.size w w'
def flE (own r c:Int) (nm:List ByteArray) (n:Nat) (t:Tr n):Int :=
 if Wpl.rightC own r c=false then 110 else if (nm.length:Int)<=own then 84
 else if zCA own (nm.take 16) n t ≠ 0 then zCA own (nm.take 16) n t else if isA (hd n t) then 82 else 0
def flC (own:Int) (nm:List ByteArray) (n:Nat) (t:Tr n):List I:=cod own (nm.take 16) n t 0++[ins 16 0 0]
theorem zJn (av:Option Addr) (cap:Nat) (l:List Wt.Nd) (own r c:Int) (av3:Option Addr) (m3 cap3:Nat) (w:World) (hL:l.length<=9223372036854775807) (hF:∀ x ∈ l,Wt.FitN x) (hO:OpsAt w) (hr:RdN w av l) (hE:Wt.check l ≠ 0) (m:Nat) (hm:m=l.length) :
  Calls prog 11 #[.slice av m cap,.agg #[.int .i64 own,.int .i64 r,.int .i64 c],.slice av3 m3 cap3] w (FlP (Wt.check l) [] w):=by
 have hb0:=zAL (Below.refl _ w) (.cells #[.int .i64 own,.int .i64 r,.int .i64 c] 24);have CK:=zEe av cap l _ hL hF (hO.below hb0) (hr.below hb0);rw [<-hm] at CK;generalize Wt.check l=E at *;have HE:Hid (E ≠ 0):=hE;have hE2:¬ E=0:=hE;clear hL hF hO hr hm hE;go_enter func11,ntmps11;go_upto_region 1 with fail
 generalize (w.alloc (.cells #[.int .i64 own,.int .i64 r,.int .i64 c] 24))=W at *;go_wp2_with fail
 refine CK.mono ?_;rintro e w1 ⟨rfl,hb1⟩;have HB1:Hid (Below w.heap.size w w1):=zAB hb0 hb1;clear CK hb0 hb1;go_wp2;go_ret2
 exact ⟨Or.inl ⟨HE.out,rfl⟩,HB1.out⟩
theorem zAu {S:List Nat} {w1 w2:World} (h:Below w.heap.size w w1) (f:Fr S w1 w2) (hs:∀ k ∈ S,w.heap.size<=k):Below w.heap.size w w2 :=
 ((Fr.of_below [] h).new f (λk hk=>Or.inr (hs k hk))).to_below (by simp)
theorem zAd {B C T0 k n:Nat} {v:Value} {xs:List Value} (h:w.ownsRow C T0 k v n xs) (hb:B<=C):w.ownsRow B T0 k v n xs:=by
 refine ⟨h.1,?_⟩;rcases h.2 with q | ⟨g,cap,cur,e,hg,q⟩
 ·exact Or.inl q
 ·exact Or.inr ⟨g,cap,cur,e,Nat.le_trans hb hg,q⟩
theorem RdS.take {av:Option Addr} {L:List ByteArray} (h:RdS w av L) (k:Nat):RdS w av (L.take k):=λi hi=>by
 have hi2:i<L.length:=by rw [List.length_take] at hi;omega
 obtain ⟨bb,off,e,hc⟩:=h i hi2;exact ⟨bb,off,e,by rw [List.getElem_take];exact hc⟩
theorem zSG (own:Int) (av:Option Addr) (m cap:Nat) (w:World):(Instr.build 80 #[(0,zC3 own av m cap)]).run prog w=.ok (.agg #[.int .i64 own,.slice av m cap,.slice none 0 0]) w:=by kernel_rfl
theorem zFO {ops:Array Oper} {rest:List Oper} {op:Oper} {a:Act} {Q:Exit->Act->World->Prop} (hgd:op.guard=none) (y:Operand) (ho:op.op=.build 80 #[(0,y)]) (own:Int) (av:Option Addr) (m cap:Nat) (hy:a.eval y=zC3 own av m cap)
  (h:wpList prog ops Q rest (a.put op.dst (.agg #[.int .i64 own,.slice av m cap,.slice none 0 0])) w):wpList prog ops Q (op::rest) a w:=by
 refine wpList_plain hgd λK hK=>?_
 unfold Oper.wp execOp;simp only [ho,List.map_toArray,List.map_cons,List.map_nil,hy,Sem.run_bind,Sem.run_pure,Result.andThen_ok,zSG];exact hK _ _ h
theorem zFc (n:Nat) (t:Tr n) (bb off cap:Nat) (l:List Wt.Nd) (own r c:Int) (av3:Option Addr) (nm:List ByteArray) (m3 cap3:Nat) (w:World) (hF:∀ x ∈ l,Wt.FitN x) (hO:OpsAt w) (hN:NmAt w) (hr:RdN w (some ⟨bb,off,none⟩) l) (hS:RdS w av3 nm) (hE:Wt.check l=0) (hrow:row n t=l) (hT:zC0 n t) (hl:l.length<=256) (hcap:l.length<=cap) (m:Nat) (hm:m=l.length) (hm3:m3=nm.length) (hc3:m3<=cap3) (hn3:nm.length<=1000000) (hown:-9223372036854775808<=own/\own<=9223372036854775807) :
  Calls prog 11 #[.slice (some ⟨bb,off,none⟩) m cap,.agg #[.int .i64 own,.int .i64 r,.int .i64 c],.slice av3 m3 cap3] w (FlP (flE own r c nm n t) (flC own nm n t) w):=by
 have hb0:=zAL (Below.refl _ w) (.cells #[.int .i64 own,.int .i64 r,.int .i64 c] 24);have pC:=AtL.new0 w 24 [.int .i64 own,.int .i64 r,.int .i64 c];have CK:=zEe (some ⟨bb,off,none⟩) cap l _ (by omega) hF (hO.below hb0) (hr.below hb0);rw [<-hm,hE] at CK;have HRI:Hid (∀ W:World,Calls prog 23 #[.agg #[.int .i64 own,.int .i64 r,.int .i64 c]] W λe w'=>e=.returned (.bool (Wpl.rightC own r c))/\Below W.heap.size W w'):=λW=>zAj own r c W
 have HPC:Hid (AtL (w.alloc (.cells #[.int .i64 own,.int .i64 r,.int .i64 c] 24)) w.heap.size [.int .i64 own,.int .i64 r,.int .i64 c]):=pC;have HB0:Hid (Below w.heap.size w (w.alloc (.cells #[.int .i64 own,.int .i64 r,.int .i64 c] 24))):=hb0;unfold flE;generalize hq:Wpl.rightC own r c=qr at *;have HQR:Hid (Wpl.rightC own r c=qr):=hq;clear hq;cases qr with
 | false =>
  rw [if_pos rfl];clear hF hO hN hr hS hE hrow hT hl hcap hm hm3 hc3 hn3 hown hb0 pC;go_enter func11,ntmps11;go_upto_region 1 with fail
  generalize (w.alloc (.cells #[.int .i64 own,.int .i64 r,.int .i64 c] 24))=W at *;go_wp2_with fail
  refine CK.mono ?_;rintro e w1 ⟨rfl,hb1⟩;have pC1:=AtL.below hb1 HPC.out;obtain ⟨c0,c1,c2,_,_,_⟩:=pC1.three;have RI:=HRI.out w1;clear CK pC1 HPC HRI;go_wp2_with fail
  refine RI.mono ?_;rintro e w2 ⟨rfl,hb2⟩;have HB2:Hid (Below w.heap.size w w2):=zAB (zAB HB0.out hb1) hb2;clear RI hb1 hb2 c0 c1 c2;go_wp2;go_ret2
  exact ⟨Or.inl ⟨by omega,rfl⟩,HB2.out⟩
 | true =>
  rw [if_neg (by simp)];by_cases h84:(nm.length:Int)<=own
  ·rw [if_pos h84];rw [<-hm3] at h84;clear hF hO hN hr hS hE hrow hT hl hcap hm hm3 hc3 hn3 hb0 pC;go_enter func11,ntmps11;go_upto_region 1 with fail
   generalize (w.alloc (.cells #[.int .i64 own,.int .i64 r,.int .i64 c] 24))=W at *;go_wp2_with fail
   refine CK.mono ?_;rintro e w1 ⟨rfl,hb1⟩;have pC1:=AtL.below hb1 HPC.out;obtain ⟨c0,c1,c2,_,_,_⟩:=pC1.three;have RI:=HRI.out w1;clear CK HPC HRI;go_wp2_with fail
   refine RI.mono ?_;rintro e w2 ⟨rfl,hb2⟩;have d0:=zAC hb2 c0;have HB2:Hid (Below w.heap.size w w2):=zAB (zAB HB0.out hb1) hb2;clear RI hb1 hb2 c0 c1 c2 pC1;go_wp2;go_ret2
   exact ⟨Or.inl ⟨by omega,rfl⟩,HB2.out⟩
  ·rw [if_neg h84];have hr0:=Wpl.rightC_iff.1 HQR.out;have hnp:0<nm.length:=by omega
   obtain ⟨b9,o9,rfl,h9⟩:=hS 0 hnp;have hb9:b9<w.heap.size:=zA3 h9;obtain ⟨q,hq⟩:∃ q,min m3 16=q:=⟨_,rfl⟩
   have hq2:q=(nm.take 16).length:=by rw [List.length_take,<-hq,hm3,Nat.min_comm]
   have hq16:(nm.take 16).length<=16:=by rw [List.length_take];omega
   have HAT:Hid (∀ W:World,Calls prog 24 #[.agg #[.int .i64 own,.int .i64 r,.int .i64 c],.slice (some ⟨b9,o9,none⟩) m3 cap3] W λe w'=>e=.returned (zC3 own (some ⟨b9,o9,none⟩) q cap3)/\Below W.heap.size W w'):=λW=>zPa own r c _ m3 cap3 W q hq.symm hc3 (λh=>by cases h)
   have HOF:Hid (∀ W:World,Below w.heap.size w W->Calls prog 25 #[.slice (some ⟨bb,off,none⟩) m cap] W λe w'=>(∃ sl,e=.returned (.agg (zAK (hd n t) sl).toArray)/\PA n W.heap.size w'.heap.size w' t sl)/\Below W.heap.size W w'):=λW hb=>zOJ n t bb off m cap W hT (by rw [hrow];exact hm) (by omega) (by omega) (by rw [hrow];exact hr.below hb)
   have HRF:Hid (∀ (sl:Value) (lo hi:Nat) (W:World),Below w.heap.size w W->PA n lo hi W t sl->Calls prog 26 #[.agg (zAK (hd n t) sl).toArray,zC3 own (some ⟨b9,o9,none⟩) q cap3] W λe w'=>e=.returned (.int .i64 (zCA own (nm.take 16) n t))/\Below W.heap.size W w'):=λsl lo hi W hb hp=>zCl own (nm.take 16) _ q cap3 hq2 hq16 n t sl lo hi W hT hp (hN.below hb) ((hS.take 16).below hb)
   have hG:0<w.heap.size:=zA3 (hN.cell (id:=0) (by omega) (by omega));have HEN:Hid (∀ (W:World) (k hi:Nat),Below w.heap.size w W->w.heap.size<=k->hi<=k->k+1<=W.heap.size->En own (nm.take 16) (some ⟨b9,o9,none⟩) q cap3 k (k+1) (λ_=>k+1) hi W):=λW k hi hb h1 h2 h3=>⟨hN.below hb,(hS.take 16).below hb,hq2,hq16,λb o e=>by cases e;omega,by omega,h2,Nat.lt_succ_self _,h3,λ_=>h3⟩
   have HCL:Hid ((cod own (nm.take 16) n t 0).length<=900000):=by
    show _<=_
    have h7:=zIy own (nm.take 16) n t 0;rw [hrow] at h7;omega
   have HT:Hid (zC0 n t):=hT;have HFC:Hid (flC own nm n t=cod own (nm.take 16) n t 0++[ins 16 0 0]):=rfl;have h84i:¬ (m3:Int)<=own:=by rw [hm3];exact h84
   obtain ⟨rt,hrt⟩:∃ rt,zCA own (nm.take 16) n t=rt:=⟨_,rfl⟩
   obtain ⟨y,hy⟩:∃ y,hd n t=y:=⟨_,rfl⟩
   have HRT:Hid (zCA own (nm.take 16) n t=rt):=hrt;have HY:Hid (hd n t=y):=hy;rw [hrt,hy] at HRF;rw [hy] at HOF;rw [hrt,hy];obtain ⟨E,hE9⟩:∃ E,(if rt ≠ 0 then rt else if isA y=true then 82 else 0:Int)=E:=⟨_,rfl⟩
   have HE:Hid ((if rt ≠ 0 then rt else if isA y=true then 82 else 0:Int)=E):=hE9;rw [hE9];clear hE9;clear hF hO hN hr hS hE hrow hT hl hcap hm hm3 hc3 hn3 hb0 pC h84 hr0 hnp h9 hb9 hq hq2 hq16 hG hrt hy hown;go_enter func11,ntmps11;go_upto_region 1 with fail
   generalize (w.alloc (.cells #[.int .i64 own,.int .i64 r,.int .i64 c] 24))=W at *;go_wp2_with fail
   refine CK.mono ?_;rintro e w1 ⟨rfl,hb1⟩;have pC1:=AtL.below hb1 HPC.out;obtain ⟨c0,c1,c2,_,_,_⟩:=pC1.three;have RI:=HRI.out w1;clear CK HPC HRI;go_wp2_with fail
   refine RI.mono ?_;rintro e w2 ⟨rfl,hb2⟩;have pC2:=AtL.below hb2 pC1;clear c0 c1 c2 pC1 RI;obtain ⟨c0,c1,c2,_,_,_⟩:=pC2.three;have HB2:Hid (Below w.heap.size w w2):=zAB (zAB HB0.out hb1) hb2;have AT:=HAT.out w2;clear hb1 hb2 HB0 HAT;go_wp2_with fail
   refine AT.mono ?_;rintro e w3 ⟨rfl,hb3⟩;have HB3:Hid (Below w.heap.size w w3):=zAB HB2.out hb3;have OF:=HOF.out w3 HB3.out;clear AT hb3 HB2 HOF c0 c1 c2 pC2;go_wp2_with fail
   refine OF.mono ?_;rintro e w4 ⟨⟨sl,rfl,hpa⟩,hb4⟩;obtain ⟨sa,sb,sc,rfl⟩:=hpa.slice;have HB4:Hid (Below w.heap.size w w4):=zAB HB3.out hb4;have HPA4:Hid (PA n w3.heap.size w4.heap.size w4 t (.slice sa sb sc)):=hpa;clear OF hpa hb4 HB3;have pS:AtL ((w4.alloc (.cells #[.int .i64 own,.slice (some ⟨b9,o9,none⟩) q cap3] 72)).alloc (.cells zeros21 76)) w4.heap.size [.int .i64 own,.slice (some ⟨b9,o9,none⟩) q cap3]:=(AtL.new0 w4 72 [.int .i64 own,.slice (some ⟨b9,o9,none⟩) q cap3]).alloc (.cells zeros21 76);have pQ:AtL ((w4.alloc (.cells #[.int .i64 own,.slice (some ⟨b9,o9,none⟩) q cap3] 72)).alloc (.cells zeros21 76)) (w4.heap.size+1) zeros21.toList:=AtL.new1 w4 _ 76 zeros21.toList;have hb5:=zAL (zAL (Below.refl _ w4) (.cells #[.int .i64 own,.slice (some ⟨b9,o9,none⟩) q cap3] 72)) (.cells zeros21 76);have hthP:World.there ((w4.alloc (.cells #[.int .i64 own,.slice (some ⟨b9,o9,none⟩) q cap3] 72)).alloc (.cells zeros21 76)) (w4.heap.size+1) 0 (zAK y (.slice sa sb sc)).toArray.size:=pQ.there;have pS2:=pS.farAll (b:=w4.heap.size+1) (by omega) 0 (zAK y (.slice sa sb sc));have pP2:=pQ.setAll (vs:=zAK y (.slice sa sb sc)) rfl;have hb6:=zAs hb5 (Nat.le_succ _) (zAK y (.slice sa sb sc)) 0;obtain ⟨W6,hW6⟩:∃ W6,((w4.alloc (.cells #[.int .i64 own,.slice (some ⟨b9,o9,none⟩) q cap3] 72)).alloc (.cells zeros21 76)).setCells (w4.heap.size+1) 0 (zAK y (.slice sa sb sc))=W6:=⟨_,rfl⟩
   rw [hW6] at pS2 pP2 hb6;have HS6:Hid (AtL W6 w4.heap.size [.int .i64 own,.slice (some ⟨b9,o9,none⟩) q cap3]):=pS2;have HP6:Hid (AtL W6 (w4.heap.size+1) (zAK y (.slice sa sb sc))):=pP2;have HB6:Hid (Below w.heap.size w W6):=zAB HB4.out hb6;have HPA6:Hid (PA n w3.heap.size w4.heap.size W6 t (.slice sa sb sc)):=PA.kept (Kept.of_below hb6) n _ _ HPA4.out;have HW6:Hid (((w4.alloc (.cells #[.int .i64 own,.slice (some ⟨b9,o9,none⟩) q cap3] 72)).alloc (.cells zeros21 76)).setCells (w4.heap.size+1) 0 (zAK y (.slice sa sb sc))=W6):=hW6;have HSZ:Hid (w.heap.size<=w4.heap.size):=HB4.out.size;clear pS pQ pS2 pP2 hb5 hb6 hW6 HB4 HPA4;go_upto_region 9 with ((with_reducible refine wpList_store_mid ?_ 76 (.tmp 10) (.tmp 33) ?_ (w4.heap.size+1) 0 (zAK y (.slice sa sb sc)).toArray ?_ ?_ ?_ ?_ ?_ ?_);rfl;rfl;rfl;rfl;exact hthP;kernel_rfl;exact zC1 _ _ _ _)
   rw [HW6.out];clear HW6 hthP;obtain ⟨k4,hk4⟩:∃ k,w4.heap.size=k:=⟨_,rfl⟩
   rw [hk4] at HS6 HP6 HPA6 HSZ;simp only [hk4];clear hk4;have RF:=HRF.out (.slice sa sb sc) w3.heap.size k4 W6 HB6.out HPA6.out;have rP:=HP6.out.range;have rS:=HS6.out.range;clear HRF;go_wp2_with (first | (refine zAA (by rfl) 76 (.tmp 10) rfl (k4+1) 0 rfl (zAK y (.slice sa sb sc)) _ rP underlying76 rfl (by kernel_rfl) ?_) | (refine zAA (by rfl) 72 (.tmp 9) rfl k4 0 rfl [.int .i64 own,.slice (some ⟨b9,o9,none⟩) q cap3] _ rS underlying72 rfl (by kernel_rfl) ?_))
   refine RF.mono ?_;rintro e w7 ⟨rfl,hb7⟩;have HB7:Hid (Below w.heap.size w w7):=zAB HB6.out hb7;have HS7:Hid (AtL w7 k4 [.int .i64 own,.slice (some ⟨b9,o9,none⟩) q cap3]):=AtL.below hb7 HS6.out;have HP7:Hid (AtL w7 (k4+1) (zAK y (.slice sa sb sc))):=AtL.below hb7 HP6.out;have HPA7:Hid (PA n w3.heap.size k4 w7 t (.slice sa sb sc)):=PA.kept (Kept.of_below hb7) n _ _ HPA6.out;clear RF hb7 HB6 HS6 HP6 HPA6 rP rS;by_cases hrt0:rt=0
   ·have IA:=zBZ y (.slice sa sb sc) w7;have rP:=HP7.out.range;cases hya:isA y with
    | true =>
     have hE2:=HE.out;rw [if_neg (by simp [hrt0]),if_pos hya] at hE2;rw [hya] at IA;subst hrt0;go_wp2_with (first | (refine zAA (by rfl) 76 (.tmp 10) rfl (k4+1) 0 rfl (zAK y (.slice sa sb sc)) _ rP underlying76 rfl (by kernel_rfl) ?_))
     refine IA.mono ?_;rintro e w8 ⟨rfl,hb8⟩;have HB8:Hid (Below w.heap.size w w8):=zAB HB7.out hb8;clear IA hb8 rP;go_wp2;go_ret2
     exact ⟨Or.inl ⟨by omega,by rw [<-hE2];rfl⟩,HB8.out⟩
    | false =>
     have hE2:=HE.out;rw [if_neg (by simp [hrt0]),if_neg (by simp [hya])] at hE2;rw [hya] at IA;have HWR:Hid (Wr own (nm.take 16) n t):=⟨HT.out,by rw [HRT.out];exact hrt0,by rw [HY.out];exact hya⟩
     clear HE;subst hrt0;subst hE2;go_wp2_with (first | (refine zAA (by rfl) 76 (.tmp 10) rfl (k4+1) 0 rfl (zAK y (.slice sa sb sc)) _ rP underlying76 rfl (by kernel_rfl) ?_))
     refine IA.mono ?_;rintro e w8 ⟨rfl,hb8⟩;have HB8:Hid (Below w.heap.size w w8):=zAB HB7.out hb8;have rS:=zAF hb8 HS7.out.range;have hP8:=AtL.below hb8 HP7.out;have hPA8:=PA.kept (Kept.of_below hb8) n _ _ HPA7.out;have hkk:k4+1<w8.heap.size:=hP8.lt;have hb9:=zAL (Below.refl _ w8) (.cells #[.int .i64 own,.slice (some ⟨b9,o9,none⟩) q cap3,.slice none 0 0] 80);have HB9:Hid (Below w.heap.size w (w8.alloc (.cells #[.int .i64 own,.slice (some ⟨b9,o9,none⟩) q cap3,.slice none 0 0] 80))):=zAB HB8.out hb9;have rP9:=zAF hb9 hP8.range;have hPA9:=PA.kept (Kept.of_below hb9) n _ _ hPA8;have hsz9:w8.heap.size+1<=(w8.alloc (.cells #[.int .i64 own,.slice (some ⟨b9,o9,none⟩) q cap3,.slice none 0 0] 80)).heap.size:=by rw [World.size_alloc];exact Nat.le_refl _
     have EN:=HEN.out _ w8.heap.size k4 HB9.out HB8.out.size (by omega) hsz9;have hws:WS w8.heap.size (w8.heap.size+1) (λ_=>w8.heap.size+1) (w8.alloc (.cells #[.int .i64 own,.slice (some ⟨b9,o9,none⟩) q cap3,.slice none 0 0] 80)) (.int .i64 own) (.slice (some ⟨b9,o9,none⟩) q cap3) [] (.slice none 0 0) []:=⟨AtL.new0 w8 80 _,OwnI.nil _ _,rfl,λi h=>absurd h (Nat.not_lt_zero _),λ_=>Nat.le_refl _,λi j h=>absurd h (Nat.not_lt_zero _)⟩
     have PT:=zGM own (nm.take 16) (some ⟨b9,o9,none⟩) q cap3 n t (.slice sa sb sc) w3.heap.size k4 w8.heap.size (w8.heap.size+1) (λ_=>w8.heap.size+1) _ [] (.slice none 0 0) [] HWR.out hPA9 EN hws (by have:=HCL.out;simpa using this);rw [HY.out] at PT;clear IA hb8 hb9 rP hP8 hPA8 hPA9 EN hws HS7 HP7 HPA7 HB7;go_upto_region 15 with (first | (refine zAA (by rfl) 72 (.tmp 9) rfl k4 0 rfl [.int .i64 own,.slice (some ⟨b9,o9,none⟩) q cap3] _ rS underlying72 rfl (by kernel_rfl) ?_) | (refine zFO rfl (.tmp 42) rfl own (some ⟨b9,o9,none⟩) q cap3 rfl ?_;clear rS))
     generalize (w8.alloc (.cells #[.int .i64 own,.slice (some ⟨b9,o9,none⟩) q cap3,.slice none 0 0] 80))=W9 at *;have HK8:Hid (w.heap.size<=w8.heap.size/\w8.heap.size+1<=W9.heap.size):=⟨HB8.out.size,hsz9⟩
     clear HB8 hsz9 hkk;obtain ⟨k8,hk8⟩:∃ k,w8.heap.size=k:=⟨_,rfl⟩
     rw [hk8] at HK8 PT;simp only [hk8];clear hk8;go_wp2_with (first | (refine zAA (by rfl) 76 (.tmp 10) rfl (k4+1) 0 rfl (zAK y (.slice sa sb sc)) _ rP9 underlying76 rfl (by kernel_rfl) ?_))
     refine PT.mono ?_;rintro e w10 ⟨⟨lv1,P1,rfl,ws1,hn1⟩,fr1⟩;have HBA:Hid (Below w.heap.size w w10):=zAu HB9.out fr1 (λj hj=>by
      have:=HK8.out.1;simp [Value.ownBlock] at hj;omega)
     have LA:=zAk k8 (k8+1) (λ_=>k8+1) (ins 16 0 0).1 _ _ _ lv1 P1 w10 ws1 (Nat.lt_succ_self _) (Nat.le_trans HK8.out.2 fr1.size) (by have:=HCL.out;simp only [List.nil_append,List.length_nil];omega);have HO1:Hid (∀ g,lv1.ownBlock=some g->k8+1<=g):=λg e=>(zAI ws1.own e).1
     clear PT rP9 ws1 hn1 fr1 HB9;go_wp2_with fail
     refine LA.mono ?_;rintro e w11 ⟨⟨lv2,P2,rfl,ws2,hn2⟩,fr2⟩;have HBB:Hid (Below w.heap.size w w11):=zAu HBA.out fr2 (λj hj=>by
      have h1:=HK8.out.1;rcases List.mem_cons.1 hj with q | q
      ·omega
      ·have:=HO1.out j (by simpa using q);omega)
     have hsl:∃ a b c,lv2=Value.slice a b c:=by
      rcases ws2.own.2 with ⟨q,_⟩ | ⟨g,c,cur,q,_⟩
      ·exact ⟨_,_,_,q⟩
      ·exact ⟨_,_,_,q⟩
     obtain ⟨la,lb,lc,rfl⟩:=hsl;obtain ⟨_,_,c2,_,_,_⟩:=ws2.at'.three;have HWS:Hid (WS k8 (k8+1) (λ_=>k8+1) w11 (.int .i64 own) (.slice (some ⟨b9,o9,none⟩) q cap3) (flC own nm n t) (.slice la lb lc) P2):=ws2;clear LA ws2 hn2 fr2 HBA;go_wp2_with fail
     go_ret2
     have hws:=HWS.out;have hk:=HK8.out.1;exact ⟨Or.inr ⟨rfl,_,P2,rfl,zAd hws.own (by omega),hws.len,λi h h'=>⟨(hws.ins i h h').1,zAd (hws.ins i h h').2 (by omega)⟩,hws.dis⟩,HBB.out⟩
   ·have hE2:=HE.out;rw [if_pos hrt0] at hE2;clear HE;go_wp2;go_ret2
    exact ⟨Or.inl ⟨by omega,by rw [<-hE2];rfl⟩,HB7.out⟩
end Go.Proofs.YtnloiaoogofklaaGreatDoor
namespace Go.Proofs.YtnloiaoogofklaaGreatDoor.Wc
abbrev Hg:=Int × List Int
def zDo (rg:In->List Int->Bool) (n:Nat):Nat->List (In × List Int)->RS->Option RS
 | _,[],S=>some S
 | i,x::r,S=>(srI rg n i x S).bind (zDo rg n (i+1) r)
theorem zBm (rg:In->List Int->Bool) (n:Nat):∀ (l m:List (In × List Int)) (i:Nat) (S:RS),zDo rg n i (l++m) S=(zDo rg n i l S).bind (zDo rg n (i+l.length) m)
 | [],m,i,S=>rfl
 | x::l,m,i,S=>by
  simp only [List.cons_append,zDo,List.length_cons];cases srI rg n i x S with
  | none=>rfl
  | some T =>
   simp only [Option.bind_some];rw [zBm rg n l m (i+1) T,show i+1+l.length=i+(l.length+1) by omega]
theorem zIk (rg:In->List Int->Bool) (n:Nat):∀ (l:List (In × List Int)) (i:Nat) (S T:RS),zDo rg n i l S=some T->zLM (srI rg n) i l S=true
 | [],i,S,T,h=>rfl
 | x::l,i,S,T,h=>by
  simp only [zDo] at h;simp only [zLM];cases e:srI rg n i x S with
  | none=>rw [e] at h;cases h
  | some U=>rw [e] at h;exact zIk rg n l (i+1) U T h
theorem zGK (n i:Nat) (g:Nat->Hg):∀ (p:List (Int × Hg)) (S:RS),S.length=n->(∀ x ∈ p,(i:Int)<x.1/\x.1<(n:Int))->(∀ x ∈ p,x.2=g x.1.toNat)->(∀ x ∈ p,S.getD x.1.toNat none=none \/ S.getD x.1.toNat none=some x.2) ->
  ∃ S',zAw n i p S=some S'/\S'.length=n/\(∀ x ∈ p,S'.getD x.1.toNat none=some x.2)/\∀ k,(∀ x ∈ p,x.1.toNat ≠ k)->S'.getD k none=S.getD k none:=by
 intro p;induction p with
 | nil=>intro S hl _ _ _;exact ⟨S,rfl,hl,λx hx=>(by cases hx),λ_ _=>rfl⟩
 | cons x r ih =>
  intro S hl h1 h2 h3;obtain ⟨j,h⟩:=x;have hj:=h1 _ (List.mem_cons_self ..);have hg:=h2 _ (List.mem_cons_self ..);have hs:=h3 _ (List.mem_cons_self ..);simp only at hj hg hs;have hjn:j.toNat<S.length:=by omega
  obtain ⟨S',e1,e2,e3,e4⟩:=ih (S.set j.toNat (some h)) (by simp [hl]) (λx hx=>h1 x (List.mem_cons_of_mem _ hx)) (λx hx=>h2 x (List.mem_cons_of_mem _ hx)) (λx hx=>by
   rw [getD_set S _ _ _ hjn];by_cases q:j.toNat=x.1.toNat
   ·rw [if_pos q,h2 x (List.mem_cons_of_mem _ hx),<-q,hg];exact Or.inr rfl
   ·rw [if_neg q];exact h3 x (List.mem_cons_of_mem _ hx))
  have e0:zAw n i ((j,h)::r) S=zAw n i r (S.set j.toNat (some h)):=by
   simp only [zAw];rw [if_neg (by omega)];rcases hs with hs | hs
   ·rw [hs]
   ·rw [hs];simp
  refine ⟨S',e0.trans e1,e2,λx hx=>?_,λk hk=>?_⟩
  ·rcases List.mem_cons.1 hx with rfl | hx
   ·simp only;by_cases q:∃ y ∈ r,y.1.toNat=j.toNat
    ·obtain ⟨y,hy,hq⟩:=q;have:=e3 y hy;rw [hq,h2 y (List.mem_cons_of_mem _ hy),hq,<-hg] at this;exact this
    ·rw [e4 _ (λy hy hq=>q ⟨y,hy,hq⟩),getD_set S _ _ _ hjn,if_pos rfl]
   ·exact e3 x hx
  ·rw [e4 k (λy hy=>hk y (List.mem_cons_of_mem _ hy)),getD_set S _ _ _ hjn,if_neg (hk (j,h) (List.mem_cons_self ..))]
section
variable (rg:In->List Int->Bool) (n:Nat)
structure Runs (a:Nat) (C:List (In × List Int)) (h h':Hg):Prop where
 nil:C.length=0->h=h'
 run:∀ S:RS,S.length=n->a+C.length<n->S.getD a none=some h->(∀ j,a<j->j<a+C.length->S.getD j none=none)->(0<C.length->S.getD (a+C.length) none=none \/ S.getD (a+C.length) none=some h') ->
  ∃ S',zDo rg n a C S=some S'/\S'.length=n/\S'.getD (a+C.length) none=some h'/\∀ j,a+C.length<j->S'.getD j none=S.getD j none
end
section
variable {rg:In->List Int->Bool} {n:Nat}
theorem Runs.refl (a:Nat) (h:Hg):Runs rg n a [] h h:=⟨λ_=>rfl,λS hl _ hs _ _=>⟨S,rfl,hl,by simpa using hs,λ_ _=>rfl⟩⟩
theorem Runs.app {a:Nat} {C D:List (In × List Int)} {h h1 h2:Hg} (p:Runs rg n a C h h1) (q:Runs rg n (a+C.length) D h1 h2):Runs rg n a (C++D) h h2:=by
 refine ⟨λe=>?_,λS hl hn hs hin hend=>?_⟩
 ·rw [List.length_append] at e;exact (p.nil (by omega)).trans (q.nil (by omega))
 ·rw [List.length_append] at hn hin hend;obtain ⟨S1,e1,l1,t1,k1⟩:=p.run S hl (by omega) hs (λj h1 h2=>hin j h1 (by omega)) (λhp=>by
   rcases Nat.eq_zero_or_pos D.length with h0 | h0
   ·have:=hend (by omega);rw [q.nil h0];rw [h0] at this;exact this
   ·exact Or.inl (hin _ (by omega) (by omega)))
  obtain ⟨S2,e2,l2,t2,k2⟩:=q.run S1 l1 (by omega) t1 (λj h1 h2=>by rw [k1 j h1];exact hin j (by omega) (by omega)) (λhp=>by
   rw [k1 _ (by omega),Nat.add_assoc];exact hend (by omega))
  refine ⟨S2,?_,l2,?_,λj hj=>?_⟩
  ·rw [zBm,e1];exact e2
  ·rw [List.length_append,<-Nat.add_assoc];exact t2
  ·rw [List.length_append] at hj;rw [k2 j (by omega),k1 j (by omega)]
theorem Runs.one {a:Nat} {x:In × List Int} {v:Int} {f:List Int} {h':Hg} (hr:rg x.1 x.2=true) (ho:x.1.op ≠ 12/\x.1.op ≠ 13/\x.1.op ≠ 14/\x.1.op ≠ 15/\x.1.op ≠ 16) (hs:zBD n a x.1.op x.1.b v f=true) (e:h'=(v+(nds x.1.op x.1.b).2.2,zBb x.1.op x.1.a f)):Runs rg n a [x] (v,f) h':=by
 refine ⟨λq=>(by simp at q),λS hl hn hS hin hend=>?_⟩;simp only [List.length_cons,List.length_nil,Nat.zero_add] at hn hend;have ea:ahd x.1.op x.1.a x.1.b x.2 a v (nds x.1.op x.1.b).2.2=[((a:Int)+1,v+(nds x.1.op x.1.b).2.2)]:=by
  unfold ahd;rw [if_neg ho.2.2.2.2,if_neg ho.1,if_neg ho.2.1,if_neg ho.2.2.1,if_neg ho.2.2.2.1]
 have et:((a:Int)+1).toNat=a+1:=by omega
 obtain ⟨S',e1,e2,e3,e4⟩:=zGK n a (λ_=>h') [((a:Int)+1,h')] S hl (λy hy=>by simp at hy;subst hy;simp only;omega) (λy hy=>by simp at hy;subst hy;rfl) (λy hy=>by
  simp at hy;subst hy;simp only [et];exact hend (by omega))
 refine ⟨S',?_,e2,?_,λj hj=>?_⟩
 ·simp only [zDo,srI];rw [if_pos hr];simp only [zDn,hS];rw [if_pos hs,ea];simp only [List.map_cons,List.map_nil];rw [<-e,e1];rfl
 ·have:=e3 _ (List.mem_cons_self ..);simp only [et] at this;exact this
 ·simp only [List.length_cons,List.length_nil,Nat.zero_add] at hj;exact e4 j (λy hy=>by simp at hy;subst hy;simp only [et];omega)
theorem zCk {a:Nat} {x:In × List Int} {v:Int} {f:List Int} (g:Nat->Hg) {p:List (Int × Hg)} {S:RS} (hl:S.length=n) (hr:rg x.1 x.2=true) (hS:S.getD a none=some (v,f)) (hs:zBD n a x.1.op x.1.b v f=true) (ep:(ahd x.1.op x.1.a x.1.b x.2 a v (nds x.1.op x.1.b).2.2).map (λp=>(p.1,(p.2,zBb x.1.op x.1.a f)))=p) (h1:∀ x ∈ p,(a:Int)<x.1/\x.1<(n:Int)) (h2:∀ x ∈ p,x.2=g x.1.toNat) (h3:∀ x ∈ p,S.getD x.1.toNat none=none \/ S.getD x.1.toNat none=some x.2) :
  ∃ S',srI rg n a x S=some S'/\S'.length=n/\(∀ x ∈ p,S'.getD x.1.toNat none=some x.2)/\∀ k,(∀ x ∈ p,x.1.toNat ≠ k)->S'.getD k none=S.getD k none:=by
 obtain ⟨S',e1,e2⟩:=zGK n a g p S hl h1 h2 h3;refine ⟨S',?_,e2⟩;simp only [srI];rw [if_pos hr];simp only [zDn,hS];rw [if_pos hs,ep];exact e1
theorem Runs.bran {a m e:Nat} {x j:In × List Int} {Y Z:List (In × List Int)} {v:Int} {f:List Int} (hx:x.1.op=12/\x.1.a=(m:Nat)/\x.1.b=(e:Nat)) (hj:j.1.op=13/\j.1.a=(e:Nat)) (rx:rg x.1 x.2=true) (rj:rg j.1 j.2=true) (hv:0<=v) (hm:m=a+1+Y.length+1) (he:e=m+Z.length) (hY:0<Y.length) (hZ:0<Z.length)
  (p:Runs rg n (a+1) Y (v,f) (v+1,f)) (q:Runs rg n m Z (v,f) (v+1,f)):Runs rg n a (x::(Y++j::Z)) (v+1,f) (v+1,f):=by
 refine ⟨λq=>(by simp at q),λS hl hn hS hin hend=>?_⟩;have hC:(x::(Y++j::Z)).length=Y.length+Z.length+2:=by simp;omega
 rw [hC] at hn hin hend;have hae:a+(Y.length+Z.length+2)=e:=by omega
 rw [hae] at hn hin hend;have en:=nds x.1.op x.1.b;have n1:nds x.1.op x.1.b=(1,0,-1):=by rw [hx.1];rfl
 have n2:nds j.1.op j.1.b=(0,0,0):=by rw [hj.1];rfl
 have t1:((a:Int)+1).toNat=a+1:=by omega
 have t2:((m:Nat):Int).toNat=m:=by omega
 have t3:((e:Nat):Int).toNat=e:=by omega
 obtain ⟨S1,e1,l1,s1,k1⟩:=zCk (rg:=rg) (n:=n) (x:=x) (v:=v+1) (f:=f) (λk=>if k=e then (v+1,f) else (v,f)) (p:=[((a:Int)+1,(v,f)),((m:Nat),(v,f)),((e:Nat),(v+1,f))]) hl rx hS (by
   unfold zBD;rw [n1,hx.1];simp;omega) (by
   rw [n1,hx.1,hx.2.1,hx.2.2];simp [ahd,zBb];omega) (λy hy=>by
   simp only [List.mem_cons,List.not_mem_nil,or_false] at hy;rcases hy with rfl | rfl | rfl <;> simp only <;> omega) (λy hy=>by
   simp only [List.mem_cons,List.not_mem_nil,or_false] at hy;rcases hy with rfl | rfl | rfl
   ·simp only [t1];rw [if_neg (by omega)]
   ·simp only [t2];rw [if_neg (by omega)]
   ·simp only [t3,if_true]) (λy hy=>by
   simp only [List.mem_cons,List.not_mem_nil,or_false] at hy;rcases hy with rfl | rfl | rfl
   ·simp only [t1];exact Or.inl (hin _ (by omega) (by omega))
   ·simp only [t2];exact Or.inl (hin _ (by omega) (by omega))
   ·simp only [t3];exact hend (by omega))
 have s1a:=s1 ((a:Int)+1,(v,f)) (by simp);have s1m:=s1 ((m:Nat),(v,f)) (by simp);have s1e:=s1 ((e:Nat),(v+1,f)) (by simp);simp only [t1,t2,t3] at s1a s1m s1e;have k1':∀ k,k ≠ a+1->k ≠ m->k ≠ e->S1.getD k none=S.getD k none:=λk h1 h2 h3=>k1 k (λy hy=>by
  simp only [List.mem_cons,List.not_mem_nil,or_false] at hy;rcases hy with rfl | rfl | rfl <;> simp only [t1,t2,t3] <;> omega)
 obtain ⟨S2,e2,l2,s2,k2⟩:=p.run S1 l1 (by omega) s1a (λk h1 h2=>by rw [k1' k (by omega) (by omega) (by omega)];exact hin k (by omega) (by omega)) (λ_=>by rw [k1' _ (by omega) (by omega) (by omega)];exact Or.inl (hin _ (by omega) (by omega)));obtain ⟨S3,e3,l3,s3,k3⟩:=zCk (rg:=rg) (n:=n) (a:=a+1+Y.length) (x:=j) (v:=v+1) (f:=f) (λ_=>(v+1,f)) (p:=[((e:Nat),(v+1,f))]) l2 rj s2 (by
   unfold zBD;rw [n2,hj.1];simp;omega) (by
   rw [n2,hj.1,hj.2];simp [ahd,zBb]) (λy hy=>by
   simp only [List.mem_cons,List.not_mem_nil,or_false] at hy;subst hy;simp only;omega) (λy hy=>by
   simp only [List.mem_cons,List.not_mem_nil,or_false] at hy;subst hy;rfl) (λy hy=>by
   simp only [List.mem_cons,List.not_mem_nil,or_false] at hy;subst hy;simp only [t3];rw [k2 e (by omega)];exact Or.inr s1e)
 have s3e:=s3 ((e:Nat),(v+1,f)) (by simp);simp only [t3] at s3e;have k3':∀ k,k ≠ e->S3.getD k none=S2.getD k none:=λk h1=>k3 k (λy hy=>by
  simp only [List.mem_cons,List.not_mem_nil,or_false] at hy;subst hy;simp only [t3];omega)
 obtain ⟨S4,e4,l4,s4,k4⟩:=q.run S3 l3 (by omega) (by rw [k3' m (by omega),k2 m (by omega)];exact s1m) (λk h1 h2=>by rw [k3' k (by omega),k2 k (by omega),k1' k (by omega) (by omega) (by omega)];exact hin k (by omega) (by omega)) (λ_=>by rw [<-he];exact Or.inr s3e);refine ⟨S4,?_,l4,?_,λk hk=>?_⟩
 ·simp only [zDo];rw [e1];simp only [Option.bind_some];rw [zBm,e2];simp only [Option.bind_some,zDo];rw [e3];simp only [Option.bind_some];rw [show a+1+Y.length+1=m by omega];exact e4
 ·rw [hC,hae,he];exact s4
 ·rw [hC,hae] at hk;rw [k4 k (by omega),k3' k (by omega),k2 k (by omega),k1' k (by omega) (by omega) (by omega)]
theorem Runs.guard {a e:Nat} {x:In × List Int} {U:List (In × List Int)} {v:Int} {f:List Int} (hx:x.1.op=14/\x.1.a=(e:Nat)) (rx:rg x.1 x.2=true) (hv:0<=v) (he:e=a+1+U.length) (hU:0<U.length) (p:Runs rg n (a+1) U (v,f) (v+1,f)):Runs rg n a (x::U) (v+1,f) (v+1,f):=by
 refine ⟨λq=>(by simp at q),λS hl hn hS hin hend=>?_⟩;have hC:(x::U).length=U.length+1:=rfl;rw [hC] at hn hin hend;have hae:a+(U.length+1)=e:=by omega
 rw [hae] at hn hin hend;have n1:nds x.1.op x.1.b=(1,0,-1):=by rw [hx.1];rfl
 have t1:((a:Int)+1).toNat=a+1:=by omega
 have t3:((e:Nat):Int).toNat=e:=by omega
 obtain ⟨S1,e1,l1,s1,k1⟩:=zCk (rg:=rg) (n:=n) (x:=x) (v:=v+1) (f:=f) (λk=>if k=e then (v+1,f) else (v,f)) (p:=[((e:Nat),(v+1,f)),((a:Int)+1,(v,f))]) hl rx hS (by
   unfold zBD;rw [n1,hx.1];simp;omega) (by
   rw [n1,hx.1,hx.2];simp [ahd,zBb];omega) (λy hy=>by
   simp only [List.mem_cons,List.not_mem_nil,or_false] at hy;rcases hy with rfl | rfl <;> simp only <;> omega) (λy hy=>by
   simp only [List.mem_cons,List.not_mem_nil,or_false] at hy;rcases hy with rfl | rfl
   ·simp only [t3,if_true]
   ·simp only [t1];rw [if_neg (by omega)]) (λy hy=>by
   simp only [List.mem_cons,List.not_mem_nil,or_false] at hy;rcases hy with rfl | rfl
   ·simp only [t3];exact hend (by omega)
   ·simp only [t1];exact Or.inl (hin _ (by omega) (by omega)))
 have s1a:=s1 ((a:Int)+1,(v,f)) (by simp);have s1e:=s1 ((e:Nat),(v+1,f)) (by simp);simp only [t1,t3] at s1a s1e;have k1':∀ k,k ≠ a+1->k ≠ e->S1.getD k none=S.getD k none:=λk h1 h3=>k1 k (λy hy=>by
  simp only [List.mem_cons,List.not_mem_nil,or_false] at hy;rcases hy with rfl | rfl <;> simp only [t1,t3] <;> omega)
 obtain ⟨S2,e2,l2,s2,k2⟩:=p.run S1 l1 (by omega) s1a (λk h1 h2=>by rw [k1' k (by omega) (by omega)];exact hin k (by omega) (by omega)) (λ_=>by rw [<-he];exact Or.inr s1e);refine ⟨S2,?_,l2,?_,λk hk=>?_⟩
 ·simp only [zDo];rw [e1];exact e2
 ·rw [hC,hae,he];exact s2
 ·rw [hC,hae] at hk;rw [k2 k (by omega),k1' k (by omega) (by omega)]
end
end Go.Proofs.YtnloiaoogofklaaGreatDoor.Wc
namespace Go.Proofs.YtnloiaoogofklaaGreatDoor.Wf
open Go.Proofs.YtnloiaoogofklaaGreatDoor Wc
section
variable {α:Type} {rg:In->List Int->Bool} {n:Nat} {f:α->Nat->List I}
theorem zCF {F:List Int}:∀ (ks:List α) (a:Nat) (v:Int),0<=v->(∀ k ∈ ks,∀ a v,0<=v->Runs rg n a (f k a) (v,F) (v+1,F))->Runs rg n a (zA6 f ks a) (v,F) (v+ks.length,F)
 | [],a,v,hv,h=>by
  simp only [zA6,List.length_nil];rw [show v+((0:Nat):Int)=v by omega];exact Runs.refl a _
 | k::r,a,v,hv,h=>by
  simp only [zA6,List.length_cons];have p:=h k (List.mem_cons_self ..) a v hv;have q:=zCF r (a+(f k a).length) (v+1) (by omega) (λx hx=>h x (List.mem_cons_of_mem _ hx));rw [show v+((r.length+1:Nat):Int)=v+1+(r.length:Int) by omega];exact p.app q
theorem zCp {F:List Int}:∀ (ks:List α) (a:Nat) (v:Int),0<=v->(∀ k ∈ ks,∀ a v,0<=v->Runs rg n a (f k a) (v,F) (v,F))->Runs rg n a (zA6 f ks a) (v,F) (v,F)
 | [],a,v,hv,h=>Runs.refl a _
 | k::r,a,v,hv,h=>by
  simp only [zA6];exact (h k (List.mem_cons_self ..) a v hv).app (zCp r _ v hv (λx hx=>h x (List.mem_cons_of_mem _ hx)))
theorem zCy (e:Int):∀ (r:List α) (a:Nat),(chB f e r a).length=(chB f 0 r a).length
 | [],_=>rfl
 | k::r,a=>by simp only [chB,List.length_cons,List.length_append,zCy e r]
theorem zJL (hp:∀ (r:List α),(∀ k ∈ r,∀ a,0<(f k a).length)->True):∀ (r:List α) (a:Nat),(∀ k ∈ r,∀ a,0<(f k a).length)->∀ t ∈ chT f r a,(a:Int)<t/\t<((a+(chB f 0 r a).length:Nat):Int)
 | [],a,_,t,ht=>by cases ht
 | k::r,a,h,t,ht=>by
  simp only [chT] at ht;simp only [chB,List.length_cons,List.length_append];have h0:=h k (List.mem_cons_self ..) (a+1);rcases List.mem_cons.1 ht with rfl | ht
  ·omega
  ·have:=zJL hp r _ (λx hx=>h x (List.mem_cons_of_mem _ hx)) t ht;omega
theorem zHK:∀ (r:List α) (a:Nat),(chT f r a).length=r.length
 | [],_=>rfl
 | k::r,a=>by simp only [chT,List.length_cons,zHK r]
theorem zGI {F:List Int} {v:Int} (hv:0<=v) (e:Nat) (hj:rg (ins 13 (e:Nat) 0).1 []=true):∀ (r:List α) (a:Nat) (S:RS),(∀ k ∈ r,∀ a,0<(f k a).length)->(∀ k ∈ r,∀ a,Runs rg n a (f k a) (v,F) (v+1,F))->S.length=n->e=a+(chB f 0 r a).length->e<n->(0<r.length->S.getD a none=some (v+1,F))->S.getD e none=some (v+1,F)->(∀ t ∈ chT f r a,S.getD t.toNat none=some (v,F))->(∀ j,a<j->j<e->(∀ t ∈ chT f r a,t.toNat ≠ j)->S.getD j none=none) ->
  ∃ S',zDo rg n a (chB f (e:Nat) r a) S=some S'/\S'.length=n/\S'.getD e none=some (v+1,F)/\∀ j,e<j->S'.getD j none=S.getD j none
 | [],a,S,_,_,hl,he,hn,hs,hse,ht,hin=>⟨S,rfl,hl,hse,λ_ _=>rfl⟩
 | k::r,a,S,hpos,hrun,hl,he,hn,hs,hse,ht,hin=>by
  have hp0:=hpos k (List.mem_cons_self ..) (a+1);have hposr:∀ x ∈ r,∀ a,0<(f x a).length:=λx hx=>hpos x (List.mem_cons_of_mem _ hx)
  have hrunr:∀ x ∈ r,∀ a,Runs rg n a (f x a) (v,F) (v+1,F):=λx hx=>hrun x (List.mem_cons_of_mem _ hx)
  have p:=hrun k (List.mem_cons_self ..) (a+1);simp only [chB,List.length_cons,List.length_append] at he;simp only [chT] at ht hin;obtain ⟨Y,hY⟩:∃ Y,f k (a+1)=Y:=⟨_,rfl⟩
  rw [hY] at hp0 p he ht hin;obtain ⟨b,hb⟩:∃ b,a+1+Y.length=b:=⟨_,rfl⟩
  rw [hb] at he ht hin;have hct:=zJL (f:=f) (λ_ _=>trivial) r b hposr;have t3:((e:Nat):Int).toNat=e:=by omega
  have t1:(((a+1:Nat):Nat):Int).toNat=a+1:=by omega
  have hbe:b<=e:=by omega
  obtain ⟨S1,e1,l1,s1,k1⟩:=zCk (rg:=rg) (n:=n) (a:=a) (x:=ins 13 (e:Nat) 0) (v:=v+1) (f:=F) (λ_=>(v+1,F)) (p:=[((e:Int),(v+1,F))]) hl hj (hs (by simp)) (by
    unfold zBD;show decide _=true
    simp [ins,nds];omega) (by
    simp [ins,ahd,zBb,nds]) (λy hy=>by
    simp only [List.mem_cons,List.not_mem_nil,or_false] at hy;subst hy;simp only;omega) (λy hy=>by
    simp only [List.mem_cons,List.not_mem_nil,or_false] at hy;subst hy;rfl) (λy hy=>by
    simp only [List.mem_cons,List.not_mem_nil,or_false] at hy;subst hy;simp only [t3];exact Or.inr hse)
  have s1e:=s1 ((e:Int),(v+1,F)) (by simp);simp only [t3] at s1e;have k1':∀ k,k ≠ e->S1.getD k none=S.getD k none:=λk h1=>k1 k (λy hy=>by
   simp only [List.mem_cons,List.not_mem_nil,or_false] at hy;subst hy;simp only [t3];omega)
  have hta:=ht _ (List.mem_cons_self ..);rw [t1] at hta;have hfree:∀ j,a+1<j->j<=b->j<e->S.getD j none=none:=λj h1 h2 h3=>hin j (by omega) h3 (λt hm=>by
   rcases List.mem_cons.1 hm with rfl | hm
   ·omega
   ·have:=hct t hm;omega)
  obtain ⟨S2,e2,l2,s2,k2⟩:=p.run S1 l1 (by omega) (by rw [k1' _ (by omega)];exact hta) (λj h1 h2=>by rw [k1' j (by omega)];exact hfree j h1 (by omega) (by omega)) (λ_=>by
   rw [hb];by_cases q:b=e
   ·rw [q];exact Or.inr s1e
   ·rw [k1' b q];exact Or.inl (hfree b (by omega) (Nat.le_refl _) (by omega)))
  rw [hb] at s2 k2;obtain ⟨S3,e3,l3,s3,k3⟩:=zGI hv e hj r b S2 hposr hrunr l2 (by omega) hn (λ_=>s2) (by
    by_cases q:b=e
    ·rw [<-q];exact s2
    ·rw [k2 e (by omega)];exact s1e) (λt hm=>by
    have:=hct t hm;rw [k2 _ (by omega),k1' _ (by omega)];exact ht t (List.mem_cons_of_mem _ hm)) (λj h1 h2 h3=>by
    rw [k2 j (by omega),k1' j (by omega)];exact hin j (by omega) h2 (λt hm=>by
     rcases List.mem_cons.1 hm with rfl | hm
     ·omega
     ·exact h3 t hm))
  refine ⟨S3,?_,l3,s3,λj hj=>?_⟩
  ·simp only [chB,zDo];rw [e1];simp only [Option.bind_some];rw [zBm,hY,e2,hb];exact e3
  ·rw [k3 j hj,k2 j (by omega),k1' j (by omega)]
theorem zIT {F:List Int} {v:Int} (hv:0<=v) (hj:∀ e:Int,rg (ins 13 e 0).1 []=true) (hc:∀ (b:Int) (tl:List Int),1<=tl.length->tl.length<=30->rg ⟨15,0,b,v0I,c0I,a0I,a0I⟩ tl=true) (l:List α) (hl1:1<=l.length) (hl2:l.length<=30) (a:Nat) (hpos:∀ k ∈ l,∀ a,0<(f k a).length) (hrun:∀ k ∈ l,∀ a,Runs rg n a (f k a) (v,F) (v+1,F)):Runs rg n a (zCM f l a) (v+1,F) (v+1,F):=by
 match l,hl1 with
 | k::r,_ =>
  have hp0:=hpos k (List.mem_cons_self ..) (a+1);have p:=hrun k (List.mem_cons_self ..) (a+1);have hposr:∀ x ∈ r,∀ a,0<(f x a).length:=λx hx=>hpos x (List.mem_cons_of_mem _ hx)
  have hrunr:∀ x ∈ r,∀ a,Runs rg n a (f x a) (v,F) (v+1,F):=λx hx=>hrun x (List.mem_cons_of_mem _ hx)
  have hlr:r.length+1<=30:=by simpa using hl2
  unfold zCM;simp only;obtain ⟨Y,hY⟩:∃ Y,f k (a+1)=Y:=⟨_,rfl⟩
  rw [hY] at hp0 p ⊢;obtain ⟨b,hb⟩:∃ b,a+1+Y.length=b:=⟨_,rfl⟩
  simp only [hb];obtain ⟨e,he⟩:∃ e,b+(chB f 0 r b).length=e:=⟨_,rfl⟩
  simp only [he];have hct:=zJL (f:=f) (λ_ _=>trivial) r b hposr;have htl:=zHK (f:=f) r b;have hBl:=zCy (f:=f) (e:Int) r b;refine ⟨λq=>(by simp at q),λS hl hn hS hin hend=>?_⟩;have hC:a+((((⟨15,0,(e:Nat),v0I,c0I,a0I,a0I⟩:In),((a+1:Nat):Int)::chT f r b):I)::(Y++chB f e r b)).length=e:=by
   simp only [List.length_cons,List.length_append];omega
  rw [hC] at hn hin hend;have t3:((e:Nat):Int).toNat=e:=by omega
  have t1:(((a+1:Nat):Nat):Int).toNat=a+1:=by omega
  obtain ⟨T,hT⟩:∃ T,((a+1:Nat):Int)::chT f r b=T:=⟨_,rfl⟩
  have hTm:∀ t ∈ T,(a:Int)<t/\t<(e:Int):=λt hm=>by
   rw [<-hT] at hm;rcases List.mem_cons.1 hm with rfl | hm
   ·omega
   ·have:=hct t hm;omega
  have hTl:1<=T.length/\T.length<=30:=by
   rw [<-hT];simp only [List.length_cons];omega
  obtain ⟨S1,e1,l1,s1,k1⟩:=zCk (rg:=rg) (n:=n) (a:=a) (x:=(⟨15,0,(e:Nat),v0I,c0I,a0I,a0I⟩,T)) (v:=v+1) (f:=F) (λk=>if k=e then (v+1,F) else (v,F)) (p:=T.map (λj=>(j,(v,F)))++[((e:Int),(v+1,F))]) hl (hc _ _ hTl.1 hTl.2) hS (by
    unfold zBD;simp [nds];omega) (by
    simp [ahd,zBb,nds];intro t _;omega) (λy hy=>by
    rcases List.mem_append.1 hy with hy | hy
    ·obtain ⟨t,ht,rfl⟩:=List.mem_map.1 hy;have:=hTm t ht;simp only;omega
    ·simp only [List.mem_cons,List.not_mem_nil,or_false] at hy;subst hy;simp only;omega) (λy hy=>by
    rcases List.mem_append.1 hy with hy | hy
    ·obtain ⟨t,ht,rfl⟩:=List.mem_map.1 hy;have:=hTm t ht;simp only;rw [if_neg (by omega)]
    ·simp only [List.mem_cons,List.not_mem_nil,or_false] at hy;subst hy;simp only [t3,if_true]) (λy hy=>by
    rcases List.mem_append.1 hy with hy | hy
    ·obtain ⟨t,ht,rfl⟩:=List.mem_map.1 hy;have:=hTm t ht;simp only;exact Or.inl (hin _ (by omega) (by omega))
    ·simp only [List.mem_cons,List.not_mem_nil,or_false] at hy;subst hy;simp only [t3];exact hend (by simp))
  have s1e:=s1 ((e:Int),(v+1,F)) (by simp);simp only [t3] at s1e;have s1t:∀ t ∈ T,S1.getD t.toNat none=some (v,F):=λt hm=>s1 (t,(v,F)) (List.mem_append_left _ (List.mem_map.2 ⟨t,hm,rfl⟩))
  have k1':∀ k,k ≠ e->(∀ t ∈ T,t.toNat ≠ k)->S1.getD k none=S.getD k none:=λk h1 h2=>k1 k (λy hy=>by
   rcases List.mem_append.1 hy with hy | hy
   ·obtain ⟨t,ht,rfl⟩:=List.mem_map.1 hy;exact h2 t ht
   ·simp only [List.mem_cons,List.not_mem_nil,or_false] at hy;subst hy;simp only [t3];omega)
  have hnt:∀ j,a+1<j->j<=b->∀ t ∈ T,t.toNat ≠ j:=λj h1 h2 t hm=>by
   rw [<-hT] at hm;rcases List.mem_cons.1 hm with rfl | hm
   ·omega
   ·have:=hct t hm;omega
  have hbe:b<=e:=by omega
  have s1a:=s1t ((a+1:Nat):Int) (by rw [<-hT];exact List.mem_cons_self ..);rw [t1] at s1a;obtain ⟨S2,e2,l2,s2,k2⟩:=p.run S1 l1 (by omega) s1a (λj h1 h2=>by
    rw [k1' j (by omega) (hnt j h1 (by omega))];exact hin j (by omega) (by omega)) (λ_=>by
    rw [hb];by_cases q:b=e
    ·rw [q];exact Or.inr s1e
    ·rw [k1' b q (hnt b (by omega) (Nat.le_refl _))];exact Or.inl (hin _ (by omega) (by omega)))
  rw [hb] at s2 k2;obtain ⟨S3,e3,l3,s3,k3⟩:=zGI hv e (hj _) r b S2 hposr hrunr l2 he.symm hn (λ_=>s2) (by
    by_cases q:b=e
    ·rw [<-q];exact s2
    ·rw [k2 e (by omega)];exact s1e) (λt hm=>by
    have:=hct t hm;rw [k2 _ (by omega)];exact s1t t (by rw [<-hT];exact List.mem_cons_of_mem _ hm)) (λj h1 h2 h3=>by
    rw [k2 j (by omega),k1' j (by omega) (λt hm=>by
     rw [<-hT] at hm;rcases List.mem_cons.1 hm with rfl | hm
     ·omega
     ·exact h3 t hm)]
    exact hin j (by omega) h2)
  refine ⟨S3,?_,l3,?_,λj hj=>?_⟩
  ·simp only [zDo];rw [hT,e1];simp only [Option.bind_some];rw [zBm,e2,hb];exact e3
  ·rw [hC];exact s3
  ·rw [hC] at hj;rw [k3 j hj,k2 j (by omega),k1' j (by omega) (λt hm=>by have:=hTm t hm;omega)]
end
end Go.Proofs.YtnloiaoogofklaaGreatDoor.Wf
