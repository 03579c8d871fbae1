/- KFlat, PWalkD, PWalkI, KUsP, KOfP. -/
import Derived.Test.YtefkclbaflkheaaGreatDoorQ25
set_option maxHeartbeats 3200000
set_option maxRecDepth 100000
set_option linter.unusedVariables false
namespace Go.Proofs.YtefkclbaflkheaaGreatDoor
open Tryz
open Go.RowKit Wf
variable {w w':World} {v:Value} {F A:List Wpl.Ar} {B b k mb:Nat} {ops:Array Oper} {rest:List Oper} {a:Act} {Q:Exit->Act->World->Prop} {S:List Nat} {op:Oper}
theorem zK6 (n:Nat) (t:Tr n) (bb off L cap:Nat) (w:World) (hF:zCi n t) (hL:L=(row n t).length) (hl:L<=300) (hc:L<=cap) (hR:RdN w (some ⟨bb,off,none⟩) (row n t)):Calls prog 24 #[.slice (some ⟨bb,off,none⟩) L cap] w λe w'=>(∃ sl,e=.returned (.agg (zAP (hd n t) sl).toArray)/\PA n w.heap.size w'.heap.size w' t sl)/\Below w.heap.size w w':=by
 have pR0:AtL (w.alloc (.cells zeros21 64)) w.heap.size zeros21.toList:=AtL.new0 w _ _;have hb1:=zAK (Below.refl _ w) (.cells zeros21 64);have GR:=zEg n t bb off L cap [] _ hF (by rw [List.append_nil];exact hL) hl hc (by rw [List.append_nil];exact hR.below hb1);unfold GrP at GR;have HZ0:Hid (AtL (w.alloc (.cells zeros21 64)) w.heap.size zeros21.toList):=pR0;have HB1:Hid (Below w.heap.size w (w.alloc (.cells zeros21 64))):=hb1;clear pR0 hb1 hF hL hl hc hR;go_enter func24,ntmps24;go_upto_region 1 with fail
 generalize (w.alloc (.cells zeros21 64))=W1 at *;go_wp2_with fail
 refine GR.mono ?_;rintro e w2 ⟨⟨sl,X,L2,C2,rfl,_,hpa,_,_⟩,hb2⟩;obtain ⟨sa,sb,sc,rfl⟩:=hpa.slice;have hth:World.there (w2.alloc (.cells zeros21 64)) w2.heap.size 0 (zAP (hd n t) (.slice sa sb sc)).toArray.size:=(AtL.new0 w2 _ _:AtL (w2.alloc (.cells zeros21 64)) w2.heap.size zeros21.toList).there;have HPI:Hid (AtL ((w2.alloc (.cells zeros21 64)).setCells w2.heap.size 0 (zAP (hd n t) (.slice sa sb sc))) w2.heap.size (zAP (hd n t) (.slice sa sb sc))):=(AtL.new0 w2 _ _:AtL (w2.alloc (.cells zeros21 64)) w2.heap.size zeros21.toList).setAll rfl;have hb3:Below w2.heap.size w2 ((w2.alloc (.cells zeros21 64)).setCells w2.heap.size 0 (zAP (hd n t) (.slice sa sb sc))):=zAa (zAK (Below.refl _ w2) _) (Nat.le_refl _) _ 0;have HPA3:Hid (PA n W1.heap.size w2.heap.size ((w2.alloc (.cells zeros21 64)).setCells w2.heap.size 0 (zAP (hd n t) (.slice sa sb sc))) t (.slice sa sb sc)/\w2.heap.size<=((w2.alloc (.cells zeros21 64)).setCells w2.heap.size 0 (zAP (hd n t) (.slice sa sb sc))).heap.size/\w.heap.size<W1.heap.size):=⟨PA.kept (Kept.of_below hb3) n _ _ hpa,hb3.size,HZ0.out.lt⟩
 have HZ3:Hid (AtL ((w2.alloc (.cells zeros21 64)).setCells w2.heap.size 0 (zAP (hd n t) (.slice sa sb sc))) w.heap.size zeros21.toList):=AtL.below hb3 (AtL.below hb2 HZ0.out);have HB3:Hid (Below w.heap.size w ((w2.alloc (.cells zeros21 64)).setCells w2.heap.size 0 (zAP (hd n t) (.slice sa sb sc)))):=zAB (zAB HB1.out hb2) hb3;clear GR hpa hb2 hb3 HZ0 HB1;obtain ⟨y,hy⟩:∃ y,hd n t=y:=⟨_,rfl⟩
 have HY:Hid (hd n t=y):=hy;rw [hy] at hth HPI HPA3 HZ3 HB3 ⊢;clear hy;go_upto_region 2 with (first | ((with_reducible refine wpList_store_mid ?_ 64 (.tmp 3) (.tmp 8) ?_ w2.heap.size 0 (zAP y (.slice sa sb sc)).toArray ?_ ?_ ?_ ?_ ?_ ?_);rfl;rfl;rfl;rfl;exact hth;kernel_rfl;exact zBV _ _ _ _))
 clear hth;generalize ((w2.alloc (.cells zeros21 64)).setCells w2.heap.size 0 (zAP y (.slice sa sb sc)))=W3 at *;have rI:=HPI.out.range;have hth:World.there W3 w.heap.size 0 (zAP y (.slice sa sb sc)).toArray.size:=HZ3.out.there;have pF:AtL (W3.setCells w.heap.size 0 (zAP y (.slice sa sb sc))) w.heap.size (zAP y (.slice sa sb sc)):=HZ3.out.setAll rfl;have HPF:Hid ((W3.setCells w.heap.size 0 (zAP y (.slice sa sb sc))).rangeAt w.heap.size 0 (zAP y (.slice sa sb sc))):=pF.range;have HBF:Hid (Below w.heap.size w (W3.setCells w.heap.size 0 (zAP y (.slice sa sb sc)))):=zAa HB3.out (Nat.le_refl _) _ 0;have HFF:Hid (Fr [w.heap.size] W3 (W3.setCells w.heap.size 0 (zAP y (.slice sa sb sc)))):=zBn _ _ _ _;clear pF HPI HZ3 HB3;go_wp2_with (first | (refine zAA (by rfl) 64 (.tmp 3) rfl w2.heap.size 0 rfl (zAP y (.slice sa sb sc)) _ rI underlying64 rfl (by kernel_rfl) ?_) | ((with_reducible refine wpList_store_mid ?_ 64 (.tmp 2) (.tmp 10) ?_ w.heap.size 0 (zAP y (.slice sa sb sc)).toArray ?_ ?_ ?_ ?_ ?_ ?_);rfl;rfl;rfl;rfl;exact hth;kernel_rfl;exact zBV _ _ _ _))
 obtain ⟨a1,a2,a3⟩:=HPA3.out;have hFF:=HFF.out;refine bodyPost_ret (zAm (by rfl) _ _ w.heap.size (zAP y (.slice sa sb sc)) _ (by rfl) HPF.out underlying64 rfl (by kernel_rfl)) rfl ⟨⟨_,by rw [HY.out],PA.wide (Nat.le_of_lt a3) (Nat.le_trans a2 hFF.size) n _ _ (PA.kept (Kept.of_fr hFF (λj hj=>by simp at hj;omega)) n _ _ a1)⟩,HBF.out⟩
def FlP (E:Int) (C:List I) (w:World) (e:Ending) (w':World):Prop :=
 ((E ≠ 0/\e=.returned (.tuple #[.slice none 0 0,.int .i64 E])) \/ (E=0/\∃ lv P,e=.returned (.tuple #[lv,.int .i64 0])/\OwnI w' w.heap.size lv P/\P.length=C.length/\(∀ i (h:i<P.length) (h':i<C.length),(P[i]).1=(C[i]).1/\OwnZ w' w.heap.size (P[i]).2 (C[i]).2)/\∀ i j (h:i<P.length) (h':j<P.length) b,(P[i]).2.ownBlock=some b->(P[j]).2.ownBlock=some b->i=j))/\Below w.heap.size w w'
def flE (own r c:Int) (nm:List ByteArray) (n:Nat) (t:Tr n):Int :=
 if Wpl.rightC own r c=false then 110 else if (nm.length:Int)<=own then 84
 else if zCJ own (nm.take 16) n t ≠ 0 then zCJ own (nm.take 16) n t else if isA (hd n t) then 82 else 0
def flC (own:Int) (nm:List ByteArray) (n:Nat) (t:Tr n):List I:=cod own (nm.take 16) n t 0++[ins 16 0 0]
theorem zCq {w1 w2:World} (h:Below w.heap.size w w1) (f:Fr S w1 w2) (hs:∀ k ∈ S,w.heap.size<=k):Below w.heap.size w w2 :=
 ((Fr.of_below [] h).new f (λk hk=>Or.inr (hs k hk))).to_below (by simp)
theorem zEV {C T0 n:Nat} {xs:List Value} (h:w.ownsRow C T0 k v n xs) (hb:B<=C):w.ownsRow B T0 k v n xs:=by
 refine ⟨h.1,?_⟩;rcases h.2 with q | ⟨g,cap,cur,e,hg,q⟩
 ·exact Or.inl q
 ·exact Or.inr ⟨g,cap,cur,e,Nat.le_trans hb hg,q⟩
theorem RdS.take {av:Option Addr} {L:List ByteArray} (h:RdS w av L) (k:Nat):RdS w av (L.take k):=λi hi=>by
 have hi2:i<L.length:=by rw [List.length_take] at hi;omega
 obtain ⟨bb,off,e,hc⟩:=h i hi2;exact ⟨bb,off,e,by rw [List.getElem_take];exact hc⟩
theorem zMw (own:Int) (av:Option Addr) (m cap:Nat) (w:World):(Instr.build 68 #[(0,zBx own av m cap)]).run prog w=.ok (.agg #[.int .i64 own,.slice av m cap,.slice none 0 0]) w:=by kernel_rfl
theorem zD3 (hgd:op.guard=none) (y:Operand) (ho:op.op=.build 68 #[(0,y)]) (own:Int) (av:Option Addr) (m cap:Nat) (hy:a.eval y=zBx own av m cap)
  (h:wpList prog ops Q rest (a.put op.dst (.agg #[.int .i64 own,.slice av m cap,.slice none 0 0])) w):wpList prog ops Q (op::rest) a w:=by
 refine wpList_plain hgd λK hK=>?_
 unfold Oper.wp execOp;simp only [ho,List.map_toArray,List.map_cons,List.map_nil,hy,Sem.run_bind,Sem.run_pure,Result.andThen_ok,zMw];exact hK _ _ h
theorem zHM (n:Nat) (t:Tr n) (bb off cap:Nat) (l:List Wt.Nd) (own r c:Int) (av3:Option Addr) (nm:List ByteArray) (m3 cap3:Nat) (w:World) (hF:∀ x ∈ l,Wt.FitN x) (hO:OpsAt w) (hN:NmAt w) (hr:RdN w (some ⟨bb,off,none⟩) l) (hS:RdS w av3 nm) (hE:Wt.check l=0) (hrow:row n t=l) (hT:zCi n t) (hl:l.length<=256) (hcap:l.length<=cap) (m:Nat) (hm:m=l.length) (hm3:m3=nm.length) (hc3:m3<=cap3) (hn3:nm.length<=1000000) (hown:-9223372036854775808<=own/\own<=9223372036854775807) (hGR:∀ q,q=(nm.take 16).length->RfT own (nm.take 16) av3 q cap3 n t) (hGP:∀ q,PtT own (nm.take 16) av3 q cap3 n t) :
  Calls prog 8 #[.slice (some ⟨bb,off,none⟩) m cap,.agg #[.int .i64 own,.int .i64 r,.int .i64 c],.slice av3 m3 cap3] w (FlP (flE own r c nm n t) (flC own nm n t) w):=by
 have HGR:Hid (∀ q,q=(nm.take 16).length->RfT own (nm.take 16) av3 q cap3 n t):=hGR;have HGP:Hid (∀ q,PtT own (nm.take 16) av3 q cap3 n t):=hGP;clear hGR hGP;have hb0:=zAK (Below.refl _ w) (.cells #[.int .i64 own,.int .i64 r,.int .i64 c] 24);have pC:=AtL.new0 w 24 [.int .i64 own,.int .i64 r,.int .i64 c];have CK:=zFX (some ⟨bb,off,none⟩) cap l _ (by omega) hF (hO.below hb0) (hr.below hb0);rw [<-hm,hE] at CK;have HRI:Hid (∀ W:World,Calls prog 22 #[.agg #[.int .i64 own,.int .i64 r,.int .i64 c]] W λe w'=>e=.returned (.bool (Wpl.rightC own r c))/\Below W.heap.size W w'):=λW=>zAg own r c W
 have HPC:Hid (AtL (w.alloc (.cells #[.int .i64 own,.int .i64 r,.int .i64 c] 24)) w.heap.size [.int .i64 own,.int .i64 r,.int .i64 c]):=pC;have HB0:Hid (Below w.heap.size w (w.alloc (.cells #[.int .i64 own,.int .i64 r,.int .i64 c] 24))):=hb0;unfold flE;generalize hq:Wpl.rightC own r c=qr at *;have HQR:Hid (Wpl.rightC own r c=qr):=hq;clear hq;cases qr with
 | false =>
  rw [if_pos rfl];clear hF hO hN hr hS hE hrow hT hl hcap hm hm3 hc3 hn3 hown hb0 pC;go_enter func8,ntmps8;go_upto_region 1 with fail
  generalize (w.alloc (.cells #[.int .i64 own,.int .i64 r,.int .i64 c] 24))=W at *;go_wp2_with fail
  refine CK.mono ?_;rintro e w1 ⟨rfl,hb1⟩;have pC1:=AtL.below hb1 HPC.out;obtain ⟨c0,c1,c2,_,_,_⟩:=pC1.three;have RI:=HRI.out w1;clear CK pC1 HPC HRI;go_wp2_with fail
  refine RI.mono ?_;rintro e w2 ⟨rfl,hb2⟩;have HB2:Hid (Below w.heap.size w w2):=zAB (zAB HB0.out hb1) hb2;clear RI hb1 hb2 c0 c1 c2;go_wp2;go_ret2
  exact ⟨Or.inl ⟨by omega,rfl⟩,HB2.out⟩
 | true =>
  rw [if_neg (by simp)];by_cases h84:(nm.length:Int)<=own
  ·rw [if_pos h84];rw [<-hm3] at h84;clear hF hO hN hr hS hE hrow hT hl hcap hm hm3 hc3 hn3 hb0 pC;go_enter func8,ntmps8;go_upto_region 1 with fail
   generalize (w.alloc (.cells #[.int .i64 own,.int .i64 r,.int .i64 c] 24))=W at *;go_wp2_with fail
   refine CK.mono ?_;rintro e w1 ⟨rfl,hb1⟩;have pC1:=AtL.below hb1 HPC.out;obtain ⟨c0,c1,c2,_,_,_⟩:=pC1.three;have RI:=HRI.out w1;clear CK HPC HRI;go_wp2_with fail
   refine RI.mono ?_;rintro e w2 ⟨rfl,hb2⟩;have d0:=zAC hb2 c0;have HB2:Hid (Below w.heap.size w w2):=zAB (zAB HB0.out hb1) hb2;clear RI hb1 hb2 c0 c1 c2 pC1;go_wp2;go_ret2
   exact ⟨Or.inl ⟨by omega,rfl⟩,HB2.out⟩
  ·rw [if_neg h84];have hr0:=Wpl.rightC_iff.1 HQR.out;have hnp:0<nm.length:=by omega
   obtain ⟨b9,o9,rfl,h9⟩:=hS 0 hnp;have hb9:b9<w.heap.size:=zAV h9;obtain ⟨q,hq⟩:∃ q,min m3 16=q:=⟨_,rfl⟩
   have hq2:q=(nm.take 16).length:=by rw [List.length_take,<-hq,hm3,Nat.min_comm]
   have hq16:(nm.take 16).length<=16:=by rw [List.length_take];omega
   have HAT:Hid (∀ W:World,Calls prog 23 #[.agg #[.int .i64 own,.int .i64 r,.int .i64 c],.slice (some ⟨b9,o9,none⟩) m3 cap3] W λe w'=>e=.returned (zBx own (some ⟨b9,o9,none⟩) q cap3)/\Below W.heap.size W w'):=λW=>zLk own r c _ m3 cap3 W q hq.symm hc3 (λh=>by cases h)
   have HOF:Hid (∀ W:World,Below w.heap.size w W->Calls prog 24 #[.slice (some ⟨bb,off,none⟩) m cap] W λe w'=>(∃ sl,e=.returned (.agg (zAP (hd n t) sl).toArray)/\PA n W.heap.size w'.heap.size w' t sl)/\Below W.heap.size W w'):=λW hb=>zK6 n t bb off m cap W hT (by rw [hrow];exact hm) (by omega) (by omega) (by rw [hrow];exact hr.below hb)
   have HRF:Hid (∀ (sl:Value) (lo hi:Nat) (W:World),Below w.heap.size w W->PA n lo hi W t sl->Calls prog 25 #[.agg (zAP (hd n t) sl).toArray,zBx own (some ⟨b9,o9,none⟩) q cap3] W λe w'=>e=.returned (.int .i64 (zCJ own (nm.take 16) n t))/\Below W.heap.size W w'):=λsl lo hi W hb hp=>HGR.out q hq2 sl lo hi W hT hp (hN.below hb) ((hS.take 16).below hb)
   have hG:0<w.heap.size:=zAV (hN.cell (id:=0) (by omega) (by omega));have HEN:Hid (∀ (W:World) (k hi:Nat),Below w.heap.size w W->w.heap.size<=k->hi<=k->k+1<=W.heap.size->En own (nm.take 16) (some ⟨b9,o9,none⟩) q cap3 k (k+1) (λ_=>k+1) hi W):=λW k hi hb h1 h2 h3=>⟨hN.below hb,(hS.take 16).below hb,hq2,hq16,λb o e=>by cases e;omega,by omega,h2,Nat.lt_succ_self _,h3,λ_=>h3⟩
   have HCL:Hid ((cod own (nm.take 16) n t 0).length<=900000):=by
    show _<=_
    have h7:=zJO own (nm.take 16) n t 0;rw [hrow] at h7;omega
   have HT:Hid (zCi n t):=hT;have HFC:Hid (flC own nm n t=cod own (nm.take 16) n t 0++[ins 16 0 0]):=rfl;have h84i:¬ (m3:Int)<=own:=by rw [hm3];exact h84
   obtain ⟨rt,hrt⟩:∃ rt,zCJ own (nm.take 16) n t=rt:=⟨_,rfl⟩
   obtain ⟨y,hy⟩:∃ y,hd n t=y:=⟨_,rfl⟩
   have HRT:Hid (zCJ own (nm.take 16) n t=rt):=hrt;have HY:Hid (hd n t=y):=hy;rw [hrt,hy] at HRF;rw [hy] at HOF;rw [hrt,hy];obtain ⟨E,hE9⟩:∃ E,(if rt ≠ 0 then rt else if isA y=true then 82 else 0:Int)=E:=⟨_,rfl⟩
   have HE:Hid ((if rt ≠ 0 then rt else if isA y=true then 82 else 0:Int)=E):=hE9;rw [hE9];clear hE9;clear hF hO hN hr hS hE hrow hT hl hcap hm hm3 hc3 hn3 hb0 pC h84 hr0 hnp h9 hb9 hq hq2 hq16 hG hrt hy hown;go_enter func8,ntmps8;go_upto_region 1 with fail
   generalize (w.alloc (.cells #[.int .i64 own,.int .i64 r,.int .i64 c] 24))=W at *;go_wp2_with fail
   refine CK.mono ?_;rintro e w1 ⟨rfl,hb1⟩;have pC1:=AtL.below hb1 HPC.out;obtain ⟨c0,c1,c2,_,_,_⟩:=pC1.three;have RI:=HRI.out w1;clear CK HPC HRI;go_wp2_with fail
   refine RI.mono ?_;rintro e w2 ⟨rfl,hb2⟩;have pC2:=AtL.below hb2 pC1;clear c0 c1 c2 pC1 RI;obtain ⟨c0,c1,c2,_,_,_⟩:=pC2.three;have HB2:Hid (Below w.heap.size w w2):=zAB (zAB HB0.out hb1) hb2;have AT:=HAT.out w2;clear hb1 hb2 HB0 HAT;go_wp2_with fail
   refine AT.mono ?_;rintro e w3 ⟨rfl,hb3⟩;have HB3:Hid (Below w.heap.size w w3):=zAB HB2.out hb3;have OF:=HOF.out w3 HB3.out;clear AT hb3 HB2 HOF c0 c1 c2 pC2;go_wp2_with fail
   refine OF.mono ?_;rintro e w4 ⟨⟨sl,rfl,hpa⟩,hb4⟩;obtain ⟨sa,sb,sc,rfl⟩:=hpa.slice;have HB4:Hid (Below w.heap.size w w4):=zAB HB3.out hb4;have HPA4:Hid (PA n w3.heap.size w4.heap.size w4 t (.slice sa sb sc)):=hpa;clear OF hpa hb4 HB3;have pS:AtL ((w4.alloc (.cells #[.int .i64 own,.slice (some ⟨b9,o9,none⟩) q cap3] 60)).alloc (.cells zeros21 64)) w4.heap.size [.int .i64 own,.slice (some ⟨b9,o9,none⟩) q cap3]:=(AtL.new0 w4 60 [.int .i64 own,.slice (some ⟨b9,o9,none⟩) q cap3]).alloc (.cells zeros21 64);have pQ:AtL ((w4.alloc (.cells #[.int .i64 own,.slice (some ⟨b9,o9,none⟩) q cap3] 60)).alloc (.cells zeros21 64)) (w4.heap.size+1) zeros21.toList:=AtL.new1 w4 _ 64 zeros21.toList;have hb5:=zAK (zAK (Below.refl _ w4) (.cells #[.int .i64 own,.slice (some ⟨b9,o9,none⟩) q cap3] 60)) (.cells zeros21 64);have hthP:World.there ((w4.alloc (.cells #[.int .i64 own,.slice (some ⟨b9,o9,none⟩) q cap3] 60)).alloc (.cells zeros21 64)) (w4.heap.size+1) 0 (zAP y (.slice sa sb sc)).toArray.size:=pQ.there;have pS2:=pS.farAll (b:=w4.heap.size+1) (by omega) 0 (zAP y (.slice sa sb sc));have pP2:=pQ.setAll (vs:=zAP y (.slice sa sb sc)) rfl;have hb6:=zAa hb5 (Nat.le_succ _) (zAP y (.slice sa sb sc)) 0;obtain ⟨W6,hW6⟩:∃ W6,((w4.alloc (.cells #[.int .i64 own,.slice (some ⟨b9,o9,none⟩) q cap3] 60)).alloc (.cells zeros21 64)).setCells (w4.heap.size+1) 0 (zAP y (.slice sa sb sc))=W6:=⟨_,rfl⟩
   rw [hW6] at pS2 pP2 hb6;have HS6:Hid (AtL W6 w4.heap.size [.int .i64 own,.slice (some ⟨b9,o9,none⟩) q cap3]):=pS2;have HP6:Hid (AtL W6 (w4.heap.size+1) (zAP y (.slice sa sb sc))):=pP2;have HB6:Hid (Below w.heap.size w W6):=zAB HB4.out hb6;have HPA6:Hid (PA n w3.heap.size w4.heap.size W6 t (.slice sa sb sc)):=PA.kept (Kept.of_below hb6) n _ _ HPA4.out;have HW6:Hid (((w4.alloc (.cells #[.int .i64 own,.slice (some ⟨b9,o9,none⟩) q cap3] 60)).alloc (.cells zeros21 64)).setCells (w4.heap.size+1) 0 (zAP y (.slice sa sb sc))=W6):=hW6;have HSZ:Hid (w.heap.size<=w4.heap.size):=HB4.out.size;clear pS pQ pS2 pP2 hb5 hb6 hW6 HB4 HPA4;go_upto_region 9 with ((with_reducible refine wpList_store_mid ?_ 64 (.tmp 10) (.tmp 33) ?_ (w4.heap.size+1) 0 (zAP y (.slice sa sb sc)).toArray ?_ ?_ ?_ ?_ ?_ ?_);rfl;rfl;rfl;rfl;exact hthP;kernel_rfl;exact zBV _ _ _ _)
   rw [HW6.out];clear HW6 hthP;obtain ⟨k4,hk4⟩:∃ k,w4.heap.size=k:=⟨_,rfl⟩
   rw [hk4] at HS6 HP6 HPA6 HSZ;simp only [hk4];clear hk4;have RF:=HRF.out (.slice sa sb sc) w3.heap.size k4 W6 HB6.out HPA6.out;have rP:=HP6.out.range;have rS:=HS6.out.range;clear HRF;go_wp2_with (first | (refine zAA (by rfl) 64 (.tmp 10) rfl (k4+1) 0 rfl (zAP y (.slice sa sb sc)) _ rP underlying64 rfl (by kernel_rfl) ?_) | (refine zAA (by rfl) 60 (.tmp 9) rfl k4 0 rfl [.int .i64 own,.slice (some ⟨b9,o9,none⟩) q cap3] _ rS underlying60 rfl (by kernel_rfl) ?_))
   refine RF.mono ?_;rintro e w7 ⟨rfl,hb7⟩;have HB7:Hid (Below w.heap.size w w7):=zAB HB6.out hb7;have HS7:Hid (AtL w7 k4 [.int .i64 own,.slice (some ⟨b9,o9,none⟩) q cap3]):=AtL.below hb7 HS6.out;have HP7:Hid (AtL w7 (k4+1) (zAP y (.slice sa sb sc))):=AtL.below hb7 HP6.out;have HPA7:Hid (PA n w3.heap.size k4 w7 t (.slice sa sb sc)):=PA.kept (Kept.of_below hb7) n _ _ HPA6.out;clear RF hb7 HB6 HS6 HP6 HPA6 rP rS;by_cases hrt0:rt=0
   ·have IA:=zCV y (.slice sa sb sc) w7;have rP:=HP7.out.range;cases hya:isA y with
    | true =>
     have hE2:=HE.out;rw [if_neg (by simp [hrt0]),if_pos hya] at hE2;rw [hya] at IA;subst hrt0;go_wp2_with (first | (refine zAA (by rfl) 64 (.tmp 10) rfl (k4+1) 0 rfl (zAP y (.slice sa sb sc)) _ rP underlying64 rfl (by kernel_rfl) ?_))
     refine IA.mono ?_;rintro e w8 ⟨rfl,hb8⟩;have HB8:Hid (Below w.heap.size w w8):=zAB HB7.out hb8;clear IA hb8 rP;go_wp2;go_ret2
     exact ⟨Or.inl ⟨by omega,by rw [<-hE2];rfl⟩,HB8.out⟩
    | false =>
     have hE2:=HE.out;rw [if_neg (by simp [hrt0]),if_neg (by simp [hya])] at hE2;rw [hya] at IA;have HWR:Hid (Wr own (nm.take 16) n t):=⟨HT.out,by rw [HRT.out];exact hrt0,by rw [HY.out];exact hya⟩
     clear HE;subst hrt0;subst hE2;go_wp2_with (first | (refine zAA (by rfl) 64 (.tmp 10) rfl (k4+1) 0 rfl (zAP y (.slice sa sb sc)) _ rP underlying64 rfl (by kernel_rfl) ?_))
     refine IA.mono ?_;rintro e w8 ⟨rfl,hb8⟩;have HB8:Hid (Below w.heap.size w w8):=zAB HB7.out hb8;have rS:=zAI hb8 HS7.out.range;have hP8:=AtL.below hb8 HP7.out;have hPA8:=PA.kept (Kept.of_below hb8) n _ _ HPA7.out;have hkk:k4+1<w8.heap.size:=hP8.lt;have hb9:=zAK (Below.refl _ w8) (.cells #[.int .i64 own,.slice (some ⟨b9,o9,none⟩) q cap3,.slice none 0 0] 68);have HB9:Hid (Below w.heap.size w (w8.alloc (.cells #[.int .i64 own,.slice (some ⟨b9,o9,none⟩) q cap3,.slice none 0 0] 68))):=zAB HB8.out hb9;have rP9:=zAI hb9 hP8.range;have hPA9:=PA.kept (Kept.of_below hb9) n _ _ hPA8;have hsz9:w8.heap.size+1<=(w8.alloc (.cells #[.int .i64 own,.slice (some ⟨b9,o9,none⟩) q cap3,.slice none 0 0] 68)).heap.size:=by rw [World.size_alloc];exact Nat.le_refl _
     have EN:=HEN.out _ w8.heap.size k4 HB9.out HB8.out.size (by omega) hsz9;have hws:WS w8.heap.size (w8.heap.size+1) (λ_=>w8.heap.size+1) (w8.alloc (.cells #[.int .i64 own,.slice (some ⟨b9,o9,none⟩) q cap3,.slice none 0 0] 68)) (.int .i64 own) (.slice (some ⟨b9,o9,none⟩) q cap3) [] (.slice none 0 0) []:=⟨AtL.new0 w8 68 _,OwnI.nil _ _,rfl,λi h=>absurd h (Nat.not_lt_zero _),λ_=>Nat.le_refl _,λi j h=>absurd h (Nat.not_lt_zero _)⟩
     have PT:=HGP.out q (.slice sa sb sc) w3.heap.size k4 w8.heap.size (w8.heap.size+1) (λ_=>w8.heap.size+1) _ [] (.slice none 0 0) [] HWR.out hPA9 EN hws (by have:=HCL.out;simpa using this);rw [HY.out] at PT;clear IA hb8 hb9 rP hP8 hPA8 hPA9 EN hws HS7 HP7 HPA7 HB7;go_upto_region 15 with (first | (refine zAA (by rfl) 60 (.tmp 9) rfl k4 0 rfl [.int .i64 own,.slice (some ⟨b9,o9,none⟩) q cap3] _ rS underlying60 rfl (by kernel_rfl) ?_) | (refine zD3 rfl (.tmp 42) rfl own (some ⟨b9,o9,none⟩) q cap3 rfl ?_;clear rS))
     generalize (w8.alloc (.cells #[.int .i64 own,.slice (some ⟨b9,o9,none⟩) q cap3,.slice none 0 0] 68))=W9 at *;have HK8:Hid (w.heap.size<=w8.heap.size/\w8.heap.size+1<=W9.heap.size):=⟨HB8.out.size,hsz9⟩
     clear HB8 hsz9 hkk;obtain ⟨k8,hk8⟩:∃ k,w8.heap.size=k:=⟨_,rfl⟩
     rw [hk8] at HK8 PT;simp only [hk8];clear hk8;go_wp2_with (first | (refine zAA (by rfl) 64 (.tmp 10) rfl (k4+1) 0 rfl (zAP y (.slice sa sb sc)) _ rP9 underlying64 rfl (by kernel_rfl) ?_))
     refine PT.mono ?_;rintro e w10 ⟨⟨lv1,P1,rfl,ws1,hn1⟩,fr1⟩;have HBA:Hid (Below w.heap.size w w10):=zCq HB9.out fr1 (λj hj=>by
      have:=HK8.out.1;simp [Value.ownBlock] at hj;omega)
     have LA:=zEU k8 (k8+1) (λ_=>k8+1) (ins 16 0 0).1 _ _ _ lv1 P1 w10 ws1 (Nat.lt_succ_self _) (Nat.le_trans HK8.out.2 fr1.size) (by have:=HCL.out;simp only [List.nil_append,List.length_nil];omega);have HO1:Hid (∀ g,lv1.ownBlock=some g->k8+1<=g):=λg e=>(zAT ws1.own e).1
     clear PT rP9 ws1 hn1 fr1 HB9;go_wp2_with fail
     refine LA.mono ?_;rintro e w11 ⟨⟨lv2,P2,rfl,ws2,hn2⟩,fr2⟩;have HBB:Hid (Below w.heap.size w w11):=zCq HBA.out fr2 (λj hj=>by
      have h1:=HK8.out.1;rcases List.mem_cons.1 hj with q | q
      ·omega
      ·have:=HO1.out j (by simpa using q);omega)
     have hsl:∃ a b c,lv2=Value.slice a b c:=by
      rcases ws2.own.2 with ⟨q,_⟩ | ⟨g,c,cur,q,_⟩
      ·exact ⟨_,_,_,q⟩
      ·exact ⟨_,_,_,q⟩
     obtain ⟨la,lb,lc,rfl⟩:=hsl;obtain ⟨_,_,c2,_,_,_⟩:=ws2.at'.three;have HWS:Hid (WS k8 (k8+1) (λ_=>k8+1) w11 (.int .i64 own) (.slice (some ⟨b9,o9,none⟩) q cap3) (flC own nm n t) (.slice la lb lc) P2):=ws2;clear LA ws2 hn2 fr2 HBA;go_wp2_with fail
     go_ret2
     have hws:=HWS.out;have hk:=HK8.out.1;exact ⟨Or.inr ⟨rfl,_,P2,rfl,zEV hws.own (by omega),hws.len,λi h h'=>⟨(hws.ins i h h').1,zEV (hws.ins i h h').2 (by omega)⟩,hws.dis⟩,HBB.out⟩
   ·have hE2:=HE.out;rw [if_pos hrt0] at hE2;clear HE;go_wp2;go_ret2
    exact ⟨Or.inl ⟨by omega,by rw [<-hE2];rfl⟩,HB7.out⟩
open Go.RowKit
theorem zHE (s t l b r:Int) (w:World) (h0:0<=l) (h1:l<=r) (h2:r<256) :
  CR 149 #[.agg #[.int .i64 s,.int .i64 t,.int .i64 l,.int .i64 b,.int .i64 r]] w (.int .i64 (r - l+1)):=by
 go_enter func149,ntmps149;go_wp2;go_ret;exact ⟨rfl,clA⟩
theorem zDj (s t l b r:Int) (w:World) :
  CR 108 #[.agg #[.int .i64 s,.int .i64 t,.int .i64 l,.int .i64 b,.int .i64 r]] w (.int .i64 (Wpl.sizeA s t l b r)):=by
 have R:=λw=>zAl s t l b r w
 cases h:Wpl.rightA s t l b r with
 | false =>
  have e1:Hid (Wpl.sizeA s t l b r=0):=by show _=_;unfold Wpl.sizeA;rw [h];rfl
  rw [h] at R;clear h;go_enter func108,ntmps108;go_wp2_with fail
  refine (R _).mono ?_;rintro e w1 ⟨rfl,hb1⟩;go_wp2;go_ret;exact ⟨by rw [e1.out];rfl,clA⟩
 | true =>
  have hh:=Wpl.rightA_iff.1 h;have e1:Hid (Wpl.sizeA s t l b r=(b - t+1) * (r - l+1)):=by show _=_;unfold Wpl.sizeA;rw [h];rfl
  have m0:0<=(b - t+1) * (r - l+1):=Int.mul_nonneg (by omega) (by omega);have m1:(b - t+1) * (r - l+1)<=65536 * 256:=Int.mul_le_mul (by omega) (by omega) (by omega) (by omega);have wa:IntKind.i64.wrap (b - t)=b - t:=IntWalk.i64_in _ (by omega);have wb:IntKind.i64.wrap (b - t+1)=b - t+1:=IntWalk.i64_in _ (by omega);have wc:IntKind.i64.wrap ((b - t+1) * (r - l+1))=(b - t+1) * (r - l+1):=IntWalk.i64_in _ (by omega);rw [h] at R;clear h;have Wd:=λw=>zHE s t l b r w (by omega) (by omega) (by omega)
  go_enter func108,ntmps108;go_wp2_with fail
  refine (R _).mono ?_;rintro e w1 ⟨rfl,hb1⟩;have pA:AtL w1 w.heap.size [.int .i64 s,.int .i64 t,.int .i64 l,.int .i64 b,.int .i64 r]:=AtL.below hb1 (AtL.new0 w 53 _);have hB:Below w.heap.size w w1:=clA
  clear hb1;obtain ⟨a0,a1,a2,a3,a4,_,_,_,_,_⟩:=pA.five;go_wp2_with fail
  go_region_held3 (λW=>W.cell? ⟨w.heap.size,0,none⟩=some (.int .i64 s)/\W.cell? ⟨w.heap.size,1,none⟩=some (.int .i64 t)/\W.cell? ⟨w.heap.size,2,none⟩=some (.int .i64 l)/\W.cell? ⟨w.heap.size,3,none⟩=some (.int .i64 b)/\W.cell? ⟨w.heap.size,4,none⟩=some (.int .i64 r))
   (with_reducible first | exact ⟨a0,a1,a2,a3,a4⟩ | assumption | exact zFv ⟨a0,a1,a2,a3,a4⟩ | exact zCQ hb4 (by assumption))
   (first
   | (go_at_call 149;refine (Wd _).mono ?_;rintro e w4 ⟨rfl,hb4⟩))
  all_goals
   go_wp2;go_ret;refine ⟨by rw [e1.out,<-wc,<-wb,<-wa];first | rfl | (rw [wa,wb,wc];rfl),clA⟩
theorem zEP (s r c:Int):Wpl.hullOk (λ_=>⟨s,r,c⟩) 1=Wpl.rightC s r c:=by
 simp [Wpl.hullOk,Wpl.anyN,Wpl.lacks]
def zBj (s r c:Int):Wpl.Ar:=if Wpl.rightC s r c then ⟨s,r,c,r,c⟩ else Wpl.nullA
theorem zKI (s r c:Int):Wpl.hullV (λ_=>⟨s,r,c⟩) 1=zBj s r c:=by
 unfold Wpl.hullV zBj;rw [zEP];rfl
theorem zFV {W:World} {s r c:Int} (h:AtL W k [.int .i64 s,.int .i64 r,.int .i64 c]):Cells W k 0 1 (λ_=>⟨s,r,c⟩):=λj hj=>by
 obtain rfl:j=0:=by omega
 exact ⟨h.2.1 0 _ rfl,h.2.1 1 _ rfl,h.2.1 2 _ rfl⟩
theorem zEh (s r c:Int) (w:World) :
  CR 71 #[.agg #[.int .i64 s,.int .i64 r,.int .i64 c]] w (.tuple #[.agg #[.int .i64 (zBj s r c).s,.int .i64 (zBj s r c).t,.int .i64 (zBj s r c).l,.int .i64 (zBj s r c).b,.int .i64 (zBj s r c).r],.bool (Wpl.rightC s r c)]):=by
 have HL:=λ(k:Nat) (w:World) (hk:AtL w k [.int .i64 s,.int .i64 r,.int .i64 c])=>zHW k 0 1 1 (λ_=>⟨s,r,c⟩) w (by omega) (by omega) (by omega) (by omega) hk.lt (zFV hk)
 simp only [zEP,zKI] at HL;generalize zBj s r c=V at *;generalize Wpl.rightC s r c=ok at *;obtain ⟨v0,v1,v2,v3,v4⟩:=V;go_enter func71,ntmps71;go_wp2_with fail
 refine (HL _ _ (by with_reducible first | exact AtL.new0 _ _ _ | exact AtL.new1 _ _ _ _ | exact AtL.new ((w.alloc _).alloc _) _ (by simp only [World.size_alloc]) _)).mono ?_;rintro e w1 ⟨rfl,hb1⟩;have pR:AtL w1 (w.heap.size+1) [.int .i64 0,.int .i64 0,.int .i64 0,.int .i64 0,.int .i64 0]:=AtL.below hb1 ((AtL.new1 w _ _ _).alloc _);have hB:Below w.heap.size w w1:=clA
 clear hb1;obtain ⟨r0,r1,r2,r3,r4,f0,f1,f2,f3,f4⟩:=pR.five;go_wp2;refine bodyPost_ret (v:=.tuple #[.agg #[.int .i64 v0,.int .i64 v1,.int .i64 v2,.int .i64 v3,.int .i64 v4],.bool ok]) (by simp [results,results71,go_sem,r0,r1,r2,r3,r4]) rfl ⟨rfl,?_⟩;exact zAx hB (by omega) _ _ _ _ _
open Go.ChangeMaps (setBlock heap_setBlock_same heap_setBlock_other)
open Go.ChangeShapes Go.WideShapes Go.MapKept
abbrev zAb (x:Wpl.Ar):List Value:=[.int .i64 x.s,.int .i64 x.t,.int .i64 x.l,.int .i64 x.b,.int .i64 x.r]
abbrev arV (x:Wpl.Ar):Value:=.agg #[.int .i64 x.s,.int .i64 x.t,.int .i64 x.l,.int .i64 x.b,.int .i64 x.r]
def rdA (x:Wc.In):List Wpl.Ar:=if x.op=2 then [zBj x.ce.s x.ce.r x.ce.c] else if x.op=8 \/ x.op=11 then [x.ar] else if x.op=9 then [x.ar,x.pr] else []
def ddA (out:List Wpl.Ar):List Wpl.Ar->List Wpl.Ar
 | []=>out
 | a::r=>if out.any (λy=>zBJ y a)=true then ddA out r else ddA (out++[a]) r
theorem zEF (A C:List Wpl.Ar):∀ (out:List Wpl.Ar),ddA out (A++C)=ddA (ddA out A) C:=by
 induction A with
 | nil=>intro out;rfl
 | cons a r ih =>
  intro out;simp only [List.cons_append,ddA];split
  ·exact ih _
  ·exact ih _
theorem zBz:∀ (A out:List Wpl.Ar),(ddA out A).length<=out.length+A.length
 | [],out=>Nat.le_refl _
 | a::r,out=>by
  simp only [ddA];split
  ·have:=zBz r out;simp;omega
  ·have:=zBz r (out++[a]);simp at this ⊢;omega
def zBM (L:List (Wc.In × List Int)):List Wpl.Ar:=L.flatMap λx=>rdA x.1
theorem zGl (x:Wc.In):(rdA x).length<=2:=by
 unfold rdA;repeat' split
 all_goals simp
theorem zB8:∀ (L:List (Wc.In × List Int)),(zBM L).length<=2 * L.length
 | []=>Nat.le_refl _
 | x::r=>by
  have h1:=zB8 r;have h2:=zGl x.1;unfold zBM at h1 ⊢;simp only [List.flatMap_cons,List.length_append,List.length_cons];omega
theorem zDH {L:List (Wc.In × List Int)} {i:Nat} (h:i<L.length):zBM (L.take (i+1))=zBM (L.take i)++rdA (L[i]).1:=by
 unfold zBM;rw [List.take_succ_eq_append_getElem h,List.flatMap_append];simp
def zFP:Nat->List Wpl.Ar->List MapEntry
 | _,[]=>[]
 | i,x::r=>⟨arV x,.agg #[],i⟩::zFP (i+1) r
theorem zE5:∀ (F:List Wpl.Ar) (i:Nat) (x:Wpl.Ar),zFP i (F++[x])=zFP i F++[⟨arV x,.agg #[],i+F.length⟩]
 | [],i,x=>rfl
 | y::r,i,x=>by
  show _::zFP (i+1) (r++[x])=_::(zFP (i+1) r++_)
  rw [zE5 r (i+1) x];have e:i+1+r.length=i+(r.length+1):=by omega
  rw [e];rfl
def AM (w:World) (b:Nat) (F:List Wpl.Ar):Prop:=∃ es:Array MapEntry,w.heap[b]? = some (.map es F.length)/\es.toList=zFP 0 F
theorem AM.lt (h:AM w b F):b<w.heap.size:=by
 obtain ⟨es,h,_⟩:=h;rcases Nat.lt_or_ge b w.heap.size with g | g
 ·exact g
 ·rw [Array.getElem?_eq_none g] at h;cases h
theorem AM.fr (h:AM w b F) (hf:Fr S w w') (hn:b ∉ S):AM w' b F:=by
 have hlt:=h.lt;obtain ⟨es,h1,h2⟩:=h;exact ⟨es,by rw [hf.block b hlt hn];exact h1,h2⟩
theorem AM.below (h:AM w b F) (hb:Below w.heap.size w w'):AM w' b F:=h.fr (Fr.of_below [] hb) (by simp)
theorem zMI (em:Bool) (x:Wpl.Ar) (w:World):(Instr.checkKey em 10000 53 (arV x)).run prog w=.ok () w:=by kernel_rfl
theorem zKJ (x y:Wpl.Ar) (w:World):(Op.equal 53 (arV x) (arV y)).run prog w=.ok (zBJ x y) w:=by
 show (Op.equalIn (9998+2) 53 _ _).run _ _=_
 unfold zBJ;by_cases h1:x.s=y.s
 ·by_cases h2:x.t=y.t
  ·by_cases h3:x.l=y.l
   ·by_cases h4:x.b=y.b
    ·by_cases h5:x.r=y.r
     ·simp [go_sem,h1,h2,h3,h4,h5]
     ·simp [go_sem,h1,h2,h3,h4,h5]
    ·simp [go_sem,h1,h2,h3,h4]
   ·simp [go_sem,h1,h2,h3]
  ·simp [go_sem,h1,h2]
 ·simp [go_sem,h1]
theorem zGi (x y:Wpl.Ar):zBJ x y=zBJ y x:=by
 rw [Bool.eq_iff_iff,zEG,zEG];exact ⟨λh=>h.symm,λh=>h.symm⟩
theorem zLl (x:Wpl.Ar) (w:World):∀ (F:List Wpl.Ar) (i:Nat),(Instr.findAsking 53 (arV x) (zFP i F) i).run prog w=.ok ((F.findIdx? (λy=>zBJ y x)).map λk=>(i+k,Value.agg #[])) w
 | [],i=>rfl
 | y::r,i=>by
  have h:=zLl x w r (i+1);have e:=zKJ x y w;rw [zGi] at e;unfold zFP;rw [List.findIdx?_cons];cases hq:zBJ y x with
  | true =>
   rw [hq] at e;simp [Instr.findAsking,e,Result.andThen]
  | false =>
   rw [hq] at e;simp [Instr.findAsking,e,Result.andThen,h];cases r.findIdx? (λy=>zBJ y x) with
   | none=>rfl
   | some k =>
    simp;omega
theorem zMc (x:Wpl.Ar) (F:List Wpl.Ar) (w:World):(Instr.findKey 53 (arV x) (zFP 0 F)).run prog w=.ok ((F.findIdx? (λy=>zBJ y x)).map λk=>(k,Value.agg #[])) w:=by
 have h:=zLl x w F 0;cases F with
 | nil=>simp [Instr.findKey,go_sem,zFP,Instr.findNow]
 | cons y r =>
  simp [Instr.findKey,go_sem,zFP,Instr.findNow,Instr.sameNow];simpa [zFP] using h
theorem zKP:prog.underlying 84=some (.map 53 86):=by kernel_rfl
theorem zC1 (F:List Wpl.Ar) (x:Wpl.Ar):F.findIdx? (λy=>zBJ y x)=none ↔ F.any (λy=>zBJ y x)=false:=by
 rw [List.findIdx?_eq_none_iff,List.any_eq_false];exact ⟨λh y hy=>by simp [h y hy],λh y hy=>by simpa using h y hy⟩
theorem zM2 (h:AM w mb F) (x:Wpl.Ar):(Instr.lookup 84 (.map (some mb)) (arV x) true).run prog w=.ok (.tuple #[.agg #[],.bool (F.any (λy=>zBJ y x))]) w:=by
 obtain ⟨es,h1,h2⟩:=h;cases hk:F.findIdx? (λy=>zBJ y x) with
 | none =>
  rw [(zC1 F x).1 hk];refine zCC zKP h1 (zMI _ _ _) ?_ (by kernel_rfl);rw [h2,zMc,hk];rfl
 | some k =>
  have:F.any (λy=>zBJ y x)=true:=by
   cases q:F.any (λy=>zBJ y x) with
   | true=>rfl
   | false=>rw [(zC1 F x).2 q] at hk;cases hk
  rw [this];refine zAX (j:=k) zKP h1 (zMI _ _ _) ?_;rw [h2,zMc,hk];rfl
theorem zM3 (h:AM w mb F) {x:Wpl.Ar} (hk:F.any (λy=>zBJ y x)=false):∃ w',(Instr.mapUpdate 84 (.map (some mb)) (arV x) (.agg #[])).run prog w=.ok () w'/\AM w' mb (F++[x])/\w.grownBy w' (some mb):=by
 obtain ⟨es,h1,h2⟩:=h;refine ⟨_,zDq zKP h1 _ (zMI _ _ _) (by rw [h2,zMc,(zC1 F x).2 hk];rfl),⟨es.push ⟨arV x,.agg #[],F.length⟩,?_,?_⟩,zBQ h1 _⟩
 ·rw [heap_setBlock_same h1,List.length_append];rfl
 ·rw [Array.toList_push,h2,zE5];simp
theorem zCo (hgd:op.guard=none) (m x v:Operand) (ho:op.op=.mapUpdate 84 m x v) (b:Nat) (hm:a.eval m=.map (some b)) (y:Wpl.Ar) (hx:a.eval x=arV y) (hv:a.eval v=.agg #[])
  (F:List Wpl.Ar) (hb:AM w b F) (hk:F.any (λz=>zBJ z y)=false) (h:∀ w',AM w' b (F++[y])->w.grownBy w' (some b)->wpList prog ops Q rest (a.put op.dst (.tuple #[])) w'):wpList prog ops Q (op::rest) a w:=by
 obtain ⟨w',e,hA,hg⟩:=zM3 hb hk;refine wpList_plain hgd λK hK=>?_
 unfold Oper.wp execOp;simp only [ho,hm,hx,hv,Sem.run_bind,Sem.run_pure,Result.andThen_ok,e];exact hK _ _ (h w' hA hg)
def zA8:List Wpl.Ar->List Value
 | []=>[]
 | x::r=>zAb x++zA8 r
theorem zBa:∀ A:List Wpl.Ar,(zA8 A).length=A.length * 5
 | []=>rfl
 | x::r=>by simp [zA8,zBa r];omega
theorem zCF:∀ (A C:List Wpl.Ar),zA8 (A++C)=zA8 A++zA8 C
 | [],C=>rfl
 | x::r,C=>by simp [zA8,zCF r C]
theorem zCG:∀ (A:List Wpl.Ar),∀ v ∈ zA8 A,v.oneCell'=true
 | [],v,h=>by cases h
 | x::r,v,h=>by
  simp only [zA8,zAb,List.mem_append,List.mem_cons,List.not_mem_nil,or_false] at h;rcases h with (rfl | rfl | rfl | rfl | rfl) | h
  ·rfl
  ·rfl
  ·rfl
  ·rfl
  ·rfl
  ·exact zCG r v h
theorem zDV:∀ (A:List Wpl.Ar) (i j:Nat) (h:i<A.length),j<5->(zA8 A)[i * 5+j]? = (zAb (A[i]))[j]?
 | x::r,0,j,_,hj=>by
  show (zAb x++zA8 r)[0 * 5+j]? = _
  rw [List.getElem?_append_left (by simp;omega)];simp
 | x::r,i+1,j,h,hj=>by
  have ih:=zDV r i j (by simpa using h) hj;show (zAb x++zA8 r)[(i+1) * 5+j]? = _
  rw [List.getElem?_append_right (by simp;omega)];have e:(i+1) * 5+j - (zAb x).length=i * 5+j:=by simp;omega
  rw [e,ih];rfl
def OwnA (w:World) (B:Nat) (v:Value) (A:List Wpl.Ar):Prop:=w.ownsRow B 53 5 v A.length (zA8 A)
theorem OwnA.nil (w:World) (B:Nat):OwnA w B (.slice none 0 0) []:=⟨rfl,Or.inl ⟨rfl,rfl⟩⟩
theorem OwnA.blk (h:OwnA w B v A) {g:Nat} (e:v.ownBlock=some g):B<=g/\g<w.heap.size:=zAT h e
theorem OwnA.below (h:OwnA w B v A) (hb:Below w.heap.size w w'):OwnA w' B v A:=zAc (Fr.of_below [] hb) h (by simp)
def RdA (w:World) (v:Value) (A:List Wpl.Ar):Prop:=∃ av cap,v=.slice av A.length cap/\∀ i (h:i<A.length),∃ bb off,av=some ⟨bb,off,none⟩/\w.rangeAt bb (off+i * 5) (zAb (A[i]))
theorem RdA.below (h:RdA w v A) (hb:Below w.heap.size w w'):RdA w' v A:=by
 obtain ⟨av,cap,e,h⟩:=h;refine ⟨av,cap,e,λi hi=>?_⟩;obtain ⟨bb,off,e1,h1⟩:=h i hi;exact ⟨bb,off,e1,λj v hv=>zAC hb (h1 j v hv)⟩
theorem RdA.nil (w:World):RdA w (.slice none 0 0) []:=⟨none,0,rfl,λi hi=>absurd hi (Nat.not_lt_zero _)⟩
theorem RdA.at0 {cap:Nat} (h:∀ j u,(zA8 A)[j]? = some u->w.cell? ⟨b,j,none⟩=some u):RdA w (.slice (some ⟨b,0,none⟩) A.length cap) A:=by
 refine ⟨_,_,rfl,λi hi=>⟨b,0,rfl,λj u hu=>?_⟩⟩;have hj:j<5:=by
  rcases Nat.lt_or_ge j 5 with q | q
  ·exact q
  ·rw [List.getElem?_eq_none (by simpa using q)] at hu;cases hu
 rw [Nat.zero_add];exact h _ _ (by rw [zDV A i j hi hj];exact hu)
theorem OwnA.rd (h:OwnA w B v A):RdA w v A:=by
 rcases h.2 with ⟨e,h0⟩ | ⟨g,cap,cur,e,hb,hg,h1,h2,h3,h4⟩
 ·have hA:A=[]:=List.eq_nil_of_length_eq_zero h0;subst hA;rw [e];exact RdA.nil w
 ·rw [e];refine RdA.at0 λj u hu=>?_
  have hl:=zBa A;have hj:j<A.length * 5:=by
   rw [<-hl];rcases Nat.lt_or_ge j (zA8 A).length with q | q
   ·exact q
   ·rw [List.getElem?_eq_none q] at hu;cases hu
  rw [<-h4,List.getElem?_take_of_lt (by omega)] at hu;unfold World.cell?;simp only [hg];simpa using hu
theorem zCp:(prog.info? 53).map (λi=>(i.zero,i.size,i.bytes))=some (some (.agg #[.int .i64 0,.int .i64 0,.int .i64 0,.int .i64 0,.int .i64 0]),5,40):=by kernel_rfl
theorem zAs {ops:Array Oper} {rest:List Oper} {o:Oper} {a:Act} {Q:Exit->Act->World->Prop} (hgd:o.guard=none) (s x:Operand) (ho:o.op=.call {callee:=.builtin .append,args:=#[s,x],argTypes:=#[47,47]})
  (w:World) (B:Nat) (hB:B<=w.heap.size) (v:Value) (A:List Wpl.Ar) (hs:a.eval s=v) (hown:OwnA w B v A) (g n:Nat) (L:List Wpl.Ar) (hn:n=L.length) (hx:a.eval x=.slice (some ⟨g,0,none⟩) n n) (hat:AtL w g (zA8 L)) (hl:A.length+L.length<=4000000)
  (h:∀ v' w',OwnA w' B v' (A++L)->w.grownBy w' v.ownBlock->wpList prog ops Q rest (a.put o.dst v') w'):wpList prog ops Q (o::rest) a w:=by
 subst hn;obtain ⟨i0,hi0,hz0,hz1,hz2⟩:=info_parts zCp;refine wpList_plain hgd λK hK=>?_
 refine wp_append_own _ s x 47 ho B 53 i0 _ 5 40 underlying47 hi0 hz0 hz1 hz2 rfl (by decide) v A.length (zA8 A) hs hown ⟨g,0,none⟩ L.length L.length (zA8 L) hx (zBa L) (λj u hj=>?_) (zCG L) (by unfold maxLen;omega) (by omega) hB ?_
 ·have:=hat.2.1 j u hj;rw [show (⟨g,0,none⟩:Addr).add j=⟨g,j,none⟩ from by
   simp [Addr.add];try (intro h0;omega)]
  exact this
 ·intro v' w' own hg _;refine hK _ _ (h v' w' ?_ hg);unfold OwnA;rw [List.length_append,zCF];exact own
theorem zAi (i:Nat) (x:Wc.In) (tl:List Int) (M:List (Option (Int × Nat))) (F:List (Nat × Int)):Wc.spI i (x,tl) (M,F)=match M.getD i none with
  | none=>none
  | some (v,m)=>match zE4 F x v m with
   | none=>none
   | some (h2,F2)=>match Wc.handP h2 (onw x.op x.a x.b tl i).1 M with
    | none=>none
    | some M1=>match Wc.handP (v,m) (onw x.op x.a x.b tl i).2 M1 with
     | none=>none
     | some M2=>some (M2,F2):=by
 unfold Wc.spI Wc.stepP zE4;simp only;cases M.getD i none with
 | none=>rfl
 | some q =>
  obtain ⟨v,m⟩:=q;simp only;cases Wc.behF F x.op x.a m with
  | none=>rfl
  | some q =>
   obtain ⟨m2,F2⟩:=q;simp only;split
   ·rfl
   ·rfl
theorem zJE {F:List (Nat × Int)} {o a:Int} {m m2:Nat} {F2:List (Nat × Int)} (h:Wc.behF F o a m=some (m2,F2)):F2.length<=F.length+1:=by
 unfold Wc.behF at h;repeat' split at h
 all_goals first
  | cases h;done
  | (cases h;simp)
theorem zLv {F:List (Nat × Int)} (hr:Wc.Rows F) {o a:Int} {m m2:Nat} {F2:List (Nat × Int)} (hm:m<=F.length) (h:Wc.behF F o a m=some (m2,F2)):Wc.Beh F o a m m2 F2:=by
 cases hb:Wc.bst o (Wc.rw0 F m) with
 | false=>rw [Wc.beh_none hr hm hb] at h;cases h
 | true =>
  obtain ⟨m3,F3,h3,B⟩:=Wc.beh_some (a:=a) hr hm hb;rw [h] at h3;cases h3
  exact B
structure PInv (i:Nat) (M:List (Option (Int × Nat))) (F:List (Nat × Int)):Prop where
 len:F.length<=i
 rows:Wc.Rows F
 zero:M.getD 0 none=some (0,0)
 at':∀ (j:Nat) (v:Int) (m:Nat),M.getD j none=some (v,m)->0<=v/\v<=i/\m<=F.length
theorem zDS {α:Type} (l:List (Option α)) (i j:Nat) (x:Option α):(l.set i x).getD j none=if i=j/\i<l.length then x else l.getD j none:=by
 by_cases hi:i<l.length
 ·rw [Wc.getD_set l i j x hi];by_cases h:i=j
  ·simp [h,h ▸ hi]
  ·simp [h]
 ·rw [List.set_eq_of_length_le (by omega),if_neg (by omega)]
theorem zDN {h:Int × Nat}:∀ (pl:List Int) (M M2:List (Option (Int × Nat))),Wc.handP h pl M=some M2->(∀ j ∈ pl,0<j)->M2.getD 0 none=M.getD 0 none/\∀ (j:Nat) (g:Int × Nat),M2.getD j none=some g->g=h \/ M.getD j none=some g:=by
 intro pl;induction pl with
 | nil =>
  intro M M2 e _;cases e
  exact ⟨rfl,λj g q=>Or.inr q⟩
 | cons p r ih =>
  intro M M2 e hp;have hp0:=hp p (List.mem_cons_self ..);have hr:∀ j ∈ r,0<j:=λj hj=>hp j (List.mem_cons_of_mem _ hj)
  have key:Wc.handP h r (M.set p.toNat (some h))=some M2->M2.getD 0 none=M.getD 0 none/\∀ (j:Nat) (g:Int × Nat),M2.getD j none=some g->g=h \/ M.getD j none=some g:=by
   intro e2;obtain ⟨h1,h2⟩:=ih _ _ e2 hr;refine ⟨by rw [h1,zDS,if_neg (by omega)],λj g q=>?_⟩;rcases h2 j g q with q2 | q2
   ·exact Or.inl q2
   ·rw [zDS] at q2;split at q2
    ·exact Or.inl (by cases q2;rfl)
    ·exact Or.inr q2
  simp only [Wc.handP] at e;split at e
  ·exact key e
  ·split at e
   ·exact key e
   ·cases e
theorem zKp {x:Wc.In} {tl:List Int} (h:rgt x tl=true):0<=(Wc.swO x.op x.b).1/\(Wc.swO x.op x.b).1<=1000/\0<=(Wc.swO x.op x.b).2/\(Wc.swO x.op x.b).2<=1:=by
 by_cases h5:x.op=5
 ·rw [zIV h5,Bool.and_eq_true] at h;have ha:=h.1;unfold apl at ha;simp only [Bool.and_eq_true,decide_eq_true_eq] at ha;have hb:0<=(zA7 x.a).l/\(zA7 x.a).m<=30:=by
   unfold zA7;split
   ·exact ⟨by decide,by decide⟩
   ·split
    ·unfold zGz;repeat' split
     all_goals exact ⟨by decide,by decide⟩
    ·split
     ·unfold zHI;repeat' split
      all_goals exact ⟨by decide,by decide⟩
     ·unfold zF6;repeat' split
      all_goals exact ⟨by decide,by decide⟩
  have hs:Wc.swO x.op x.b=(x.b,1):=by simp [Wc.swO,h5]
  rw [hs];simp only;omega
 ·by_cases h11:x.op=11
  ·rw [zES h11,Bool.and_eq_true,Bool.and_eq_true] at h;have hb:=h.1.2;simp only [Bool.or_eq_true,beq_iff_eq] at hb;have hs:Wc.swO x.op x.b=(x.b,1):=by simp [Wc.swO,h11]
   rw [hs];simp only;omega
  ·unfold Wc.swO;rw [if_neg (show ¬ (x.op=5 \/ x.op=11) by omega)];repeat' split
   all_goals exact ⟨by decide,by decide,by decide,by decide⟩
