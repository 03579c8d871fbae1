/- Lemmas. -/
import Derived.Test.YtefkclbaflkheaaGreatDoorQ29
import Derived.Laws.AppendOwnNone
import Derived.BigFrame
set_option maxHeartbeats 3200000
set_option maxRecDepth 100000
set_option linter.unusedVariables false
namespace Go.Proofs.YtefkclbaflkheaaGreatDoor
open Tryz
open Go.RowKit Wf
variable {w w':World} {a:Act} {Q:Exit->Act->World->Prop} {ops:Array Oper} {rest:List Oper} {o op:Oper} {B b k n m mb:Nat} {v:Value} {F A:List Wpl.Ar} {av:Option Addr} {L:List ByteArray} {S:List Nat} {xs:List Value} {K:Act->World->Prop} {x:Wf.I} {C:List Wf.I}
theorem zMX (n:Nat) (t:Tr n) (bb off L cap:Nat) (w:World) (hF:zAz n t) (hL:L=(row n t).length) (hl:L<=300) (hc:L<=cap) (hR:RdN w (some ⟨bb,off,none⟩) (row n t)):Calls prog 24 #[.slice (some ⟨bb,off,none⟩) L cap] w λe w'=>(∃ sl,e=.returned (.agg (zAN (hd n t) sl).toArray)/\PA n w.heap.size w'.heap.size w' t sl)/\Below w.heap.size w w':=by
 have pR0:AtL (w.alloc (.cells zeros21 64)) w.heap.size zeros21.toList:=AtL.new0 w _ _;have hb1:=zAM (Below.refl _ w) (.cells zeros21 64);have GR:=zFb n t bb off L cap [] _ hF (by rw [List.append_nil];exact hL) hl hc (by rw [List.append_nil];exact hR.below hb1);unfold GrP at GR;have HZ0:Hid (AtL (w.alloc (.cells zeros21 64)) w.heap.size zeros21.toList):=pR0;have HB1:Hid (Below w.heap.size w (w.alloc (.cells zeros21 64))):=hb1;clear pR0 hb1 hF hL hl hc hR;go_enter func24,ntmps24;go_upto_region 1 with fail
 generalize (w.alloc (.cells zeros21 64))=W1 at *;go_wp2_with fail
 refine GR.mono ?_;rintro e w2 ⟨⟨sl,X,L2,C2,rfl,_,hpa,_,_⟩,hb2⟩;obtain ⟨sa,sb,sc,rfl⟩:=hpa.slice;have hth:World.there (w2.alloc (.cells zeros21 64)) w2.heap.size 0 (zAN (hd n t) (.slice sa sb sc)).toArray.size:=(AtL.new0 w2 _ _:AtL (w2.alloc (.cells zeros21 64)) w2.heap.size zeros21.toList).there;have HPI:Hid (AtL ((w2.alloc (.cells zeros21 64)).setCells w2.heap.size 0 (zAN (hd n t) (.slice sa sb sc))) w2.heap.size (zAN (hd n t) (.slice sa sb sc))):=(AtL.new0 w2 _ _:AtL (w2.alloc (.cells zeros21 64)) w2.heap.size zeros21.toList).setAll rfl;have hb3:Below w2.heap.size w2 ((w2.alloc (.cells zeros21 64)).setCells w2.heap.size 0 (zAN (hd n t) (.slice sa sb sc))):=zAv (zAM (Below.refl _ w2) _) (Nat.le_refl _) _ 0;have HPA3:Hid (PA n W1.heap.size w2.heap.size ((w2.alloc (.cells zeros21 64)).setCells w2.heap.size 0 (zAN (hd n t) (.slice sa sb sc))) t (.slice sa sb sc)/\w2.heap.size<=((w2.alloc (.cells zeros21 64)).setCells w2.heap.size 0 (zAN (hd n t) (.slice sa sb sc))).heap.size/\w.heap.size<W1.heap.size):=⟨PA.kept (Kept.of_below hb3) n _ _ hpa,hb3.size,HZ0.out.lt⟩
 have HZ3:Hid (AtL ((w2.alloc (.cells zeros21 64)).setCells w2.heap.size 0 (zAN (hd n t) (.slice sa sb sc))) w.heap.size zeros21.toList):=AtL.below hb3 (AtL.below hb2 HZ0.out);have HB3:Hid (Below w.heap.size w ((w2.alloc (.cells zeros21 64)).setCells w2.heap.size 0 (zAN (hd n t) (.slice sa sb sc)))):=zAB (zAB HB1.out hb2) hb3;clear GR hpa hb2 hb3 HZ0 HB1;obtain ⟨y,hy⟩:∃ y,hd n t=y:=⟨_,rfl⟩
 have HY:Hid (hd n t=y):=hy;rw [hy] at hth HPI HPA3 HZ3 HB3 ⊢;clear hy;go_upto_region 2 with (first | ((with_reducible refine wpList_store_mid ?_ 64 (.tmp 3) (.tmp 8) ?_ w2.heap.size 0 (zAN y (.slice sa sb sc)).toArray ?_ ?_ ?_ ?_ ?_ ?_);rfl;rfl;rfl;rfl;exact hth;kernel_rfl;exact zAk _ _ _ _))
 clear hth;generalize ((w2.alloc (.cells zeros21 64)).setCells w2.heap.size 0 (zAN y (.slice sa sb sc)))=W3 at *;have rI:=HPI.out.range;have hth:World.there W3 w.heap.size 0 (zAN y (.slice sa sb sc)).toArray.size:=HZ3.out.there;have pF:AtL (W3.setCells w.heap.size 0 (zAN y (.slice sa sb sc))) w.heap.size (zAN y (.slice sa sb sc)):=HZ3.out.setAll rfl;have HPF:Hid ((W3.setCells w.heap.size 0 (zAN y (.slice sa sb sc))).rangeAt w.heap.size 0 (zAN y (.slice sa sb sc))):=pF.range;have HBF:Hid (Below w.heap.size w (W3.setCells w.heap.size 0 (zAN y (.slice sa sb sc)))):=zAv HB3.out (Nat.le_refl _) _ 0;have HFF:Hid (Fr [w.heap.size] W3 (W3.setCells w.heap.size 0 (zAN y (.slice sa sb sc)))):=zCQ _ _ _ _;clear pF HPI HZ3 HB3;go_wp2_with (first | (refine zAA (by rfl) 64 (.tmp 3) rfl w2.heap.size 0 rfl (zAN y (.slice sa sb sc)) _ rI underlying64 rfl (by kernel_rfl) ?_) | ((with_reducible refine wpList_store_mid ?_ 64 (.tmp 2) (.tmp 10) ?_ w.heap.size 0 (zAN y (.slice sa sb sc)).toArray ?_ ?_ ?_ ?_ ?_ ?_);rfl;rfl;rfl;rfl;exact hth;kernel_rfl;exact zAk _ _ _ _))
 obtain ⟨a1,a2,a3⟩:=HPA3.out;have hFF:=HFF.out;refine bodyPost_ret (zAq (by rfl) _ _ w.heap.size (zAN y (.slice sa sb sc)) _ (by rfl) HPF.out underlying64 rfl (by kernel_rfl)) rfl ⟨⟨_,by rw [HY.out],PA.wide (Nat.le_of_lt a3) (Nat.le_trans a2 hFF.size) n _ _ (PA.kept (Kept.of_fr hFF (λj hj=>by simp at hj;omega)) n _ _ a1)⟩,HBF.out⟩
def FlP (E:Int) (C:List I) (w:World) (e:Ending) (w':World):Prop :=
 ((E ≠ 0/\e=.returned (.tuple #[.slice none 0 0,.int .i64 E])) \/ (E=0/\∃ lv P,e=.returned (.tuple #[lv,.int .i64 0])/\OwnI w' w.heap.size lv P/\P.length=C.length/\(∀ i (h:i<P.length) (h':i<C.length),(P[i]).1=(C[i]).1/\OwnZ w' w.heap.size (P[i]).2 (C[i]).2)/\∀ i j (h:i<P.length) (h':j<P.length) b,(P[i]).2.ownBlock=some b->(P[j]).2.ownBlock=some b->i=j))/\Below w.heap.size w w'
def flE (own r c:Int) (nm:List ByteArray) (n:Nat) (t:Tr n):Int :=
 if Wpl.rightC own r c=false then 110 else if (nm.length:Int)<=own then 84
 else if zBB own (nm.take 16) n t ≠ 0 then zBB own (nm.take 16) n t else if isA (hd n t) then 82 else 0
def flC (own:Int) (nm:List ByteArray) (n:Nat) (t:Tr n):List I:=cod own (nm.take 16) n t 0++[ins 16 0 0]
theorem zKm (av:Option Addr) (cap:Nat) (l:List Wt.Nd) (own r c:Int) (av3:Option Addr) (m3 cap3:Nat) (w:World) (hL:l.length<=9223372036854775807) (hF:∀ x ∈ l,Wt.FitN x) (hO:OpsAt w) (hr:RdN w av l) (hE:Wt.check l ≠ 0) (m:Nat) (hm:m=l.length) :
  Calls prog 8 #[.slice av m cap,.agg #[.int .i64 own,.int .i64 r,.int .i64 c],.slice av3 m3 cap3] w (FlP (Wt.check l) [] w):=by
 have hb0:=zAM (Below.refl _ w) (.cells #[.int .i64 own,.int .i64 r,.int .i64 c] 24);have CK:=zDz av cap l _ hL hF (hO.below hb0) (hr.below hb0);rw [<-hm] at CK;generalize Wt.check l=E at *;have HE:Hid (E ≠ 0):=hE;have hE2:¬ E=0:=hE;clear hL hF hO hr hm hE;go_enter func8,ntmps8;go_upto_region 1 with fail
 generalize (w.alloc (.cells #[.int .i64 own,.int .i64 r,.int .i64 c] 24))=W at *;go_wp2_with fail
 refine CK.mono ?_;rintro e w1 ⟨rfl,hb1⟩;have HB1:Hid (Below w.heap.size w w1):=zAB hb0 hb1;clear CK hb0 hb1;go_wp2;go_ret2
 exact ⟨Or.inl ⟨HE.out,rfl⟩,HB1.out⟩
theorem zBA {w1 w2:World} (h:Below w.heap.size w w1) (f:Fr S w1 w2) (hs:∀ k ∈ S,w.heap.size<=k):Below w.heap.size w w2 :=
 ((Fr.of_below [] h).new f (λk hk=>Or.inr (hs k hk))).to_below (by simp)
theorem zCb {C T0:Nat} (h:w.ownsRow C T0 k v n xs) (hb:B<=C):w.ownsRow B T0 k v n xs:=by
 refine ⟨h.1,?_⟩;rcases h.2 with q | ⟨g,cap,cur,e,hg,q⟩
 ·exact Or.inl q
 ·exact Or.inr ⟨g,cap,cur,e,Nat.le_trans hb hg,q⟩
theorem RdS.take (h:RdS w av L) (k:Nat):RdS w av (L.take k):=λi hi=>by
 have hi2:i<L.length:=by rw [List.length_take] at hi;omega
 obtain ⟨bb,off,e,hc⟩:=h i hi2;exact ⟨bb,off,e,by rw [List.getElem_take];exact hc⟩
theorem zPm (own:Int) (av:Option Addr) (m cap:Nat) (w:World):(Instr.build 68 #[(0,zCS own av m cap)]).run prog w=.ok (.agg #[.int .i64 own,.slice av m cap,.slice none 0 0]) w:=by kernel_rfl
theorem zEw (hgd:op.guard=none) (y:Operand) (ho:op.op=.build 68 #[(0,y)]) (own:Int) (av:Option Addr) (m cap:Nat) (hy:a.eval y=zCS own av m cap)
  (h:wpList prog ops Q rest (a.put op.dst (.agg #[.int .i64 own,.slice av m cap,.slice none 0 0])) w):wpList prog ops Q (op::rest) a w:=by
 refine wpList_plain hgd λK hK=>?_
 unfold Oper.wp execOp;simp only [ho,List.map_toArray,List.map_cons,List.map_nil,hy,Sem.run_bind,Sem.run_pure,Result.andThen_ok,zPm];exact hK _ _ h
theorem zFh (n:Nat) (t:Tr n) (bb off cap:Nat) (l:List Wt.Nd) (own r c:Int) (av3:Option Addr) (nm:List ByteArray) (m3 cap3:Nat) (w:World) (hF:∀ x ∈ l,Wt.FitN x) (hO:OpsAt w) (hN:NmAt w) (hr:RdN w (some ⟨bb,off,none⟩) l) (hS:RdS w av3 nm) (hE:Wt.check l=0) (hrow:row n t=l) (hT:zAz n t) (hl:l.length<=256) (hcap:l.length<=cap) (m:Nat) (hm:m=l.length) (hm3:m3=nm.length) (hc3:m3<=cap3) (hn3:nm.length<=1000000) (hown:-9223372036854775808<=own/\own<=9223372036854775807) (hGR:∀ q,q=(nm.take 16).length->RfT own (nm.take 16) av3 q cap3 n t) (hGP:∀ q,PtT own (nm.take 16) av3 q cap3 n t) :
  Calls prog 8 #[.slice (some ⟨bb,off,none⟩) m cap,.agg #[.int .i64 own,.int .i64 r,.int .i64 c],.slice av3 m3 cap3] w (FlP (flE own r c nm n t) (flC own nm n t) w):=by
 have HGR:Hid (∀ q,q=(nm.take 16).length->RfT own (nm.take 16) av3 q cap3 n t):=hGR;have HGP:Hid (∀ q,PtT own (nm.take 16) av3 q cap3 n t):=hGP;clear hGR hGP;have hb0:=zAM (Below.refl _ w) (.cells #[.int .i64 own,.int .i64 r,.int .i64 c] 24);have pC:=AtL.new0 w 24 [.int .i64 own,.int .i64 r,.int .i64 c];have CK:=zDz (some ⟨bb,off,none⟩) cap l _ (by omega) hF (hO.below hb0) (hr.below hb0);rw [<-hm,hE] at CK;have HRI:Hid (∀ W:World,Calls prog 22 #[.agg #[.int .i64 own,.int .i64 r,.int .i64 c]] W λe w'=>e=.returned (.bool (Wpl.rightC own r c))/\Below W.heap.size W w'):=λW=>zAn own r c W
 have HPC:Hid (AtL (w.alloc (.cells #[.int .i64 own,.int .i64 r,.int .i64 c] 24)) w.heap.size [.int .i64 own,.int .i64 r,.int .i64 c]):=pC;have HB0:Hid (Below w.heap.size w (w.alloc (.cells #[.int .i64 own,.int .i64 r,.int .i64 c] 24))):=hb0;unfold flE;generalize hq:Wpl.rightC own r c=qr at *;have HQR:Hid (Wpl.rightC own r c=qr):=hq;clear hq;cases qr with
 | false =>
  rw [if_pos rfl];clear hF hO hN hr hS hE hrow hT hl hcap hm hm3 hc3 hn3 hown hb0 pC;go_enter func8,ntmps8;go_upto_region 1 with fail
  generalize (w.alloc (.cells #[.int .i64 own,.int .i64 r,.int .i64 c] 24))=W at *;go_wp2_with fail
  refine CK.mono ?_;rintro e w1 ⟨rfl,hb1⟩;have pC1:=AtL.below hb1 HPC.out;obtain ⟨c0,c1,c2,_,_,_⟩:=pC1.three;have RI:=HRI.out w1;clear CK pC1 HPC HRI;go_wp2_with fail
  refine RI.mono ?_;rintro e w2 ⟨rfl,hb2⟩;have HB2:Hid (Below w.heap.size w w2):=zAB (zAB HB0.out hb1) hb2;clear RI hb1 hb2 c0 c1 c2;go_wp2;go_ret2
  exact ⟨Or.inl ⟨by omega,rfl⟩,HB2.out⟩
 | true =>
  rw [if_neg (by simp)];by_cases h84:(nm.length:Int)<=own
  ·rw [if_pos h84];rw [<-hm3] at h84;clear hF hO hN hr hS hE hrow hT hl hcap hm hm3 hc3 hn3 hb0 pC;go_enter func8,ntmps8;go_upto_region 1 with fail
   generalize (w.alloc (.cells #[.int .i64 own,.int .i64 r,.int .i64 c] 24))=W at *;go_wp2_with fail
   refine CK.mono ?_;rintro e w1 ⟨rfl,hb1⟩;have pC1:=AtL.below hb1 HPC.out;obtain ⟨c0,c1,c2,_,_,_⟩:=pC1.three;have RI:=HRI.out w1;clear CK HPC HRI;go_wp2_with fail
   refine RI.mono ?_;rintro e w2 ⟨rfl,hb2⟩;have d0:=zAC hb2 c0;have HB2:Hid (Below w.heap.size w w2):=zAB (zAB HB0.out hb1) hb2;clear RI hb1 hb2 c0 c1 c2 pC1;go_wp2;go_ret2
   exact ⟨Or.inl ⟨by omega,rfl⟩,HB2.out⟩
  ·rw [if_neg h84];have hr0:=Wpl.rightC_iff.1 HQR.out;have hnp:0<nm.length:=by omega
   obtain ⟨b9,o9,rfl,h9⟩:=hS 0 hnp;have hb9:b9<w.heap.size:=zA5 h9;obtain ⟨q,hq⟩:∃ q,min m3 16=q:=⟨_,rfl⟩
   have hq2:q=(nm.take 16).length:=by rw [List.length_take,<-hq,hm3,Nat.min_comm]
   have hq16:(nm.take 16).length<=16:=by rw [List.length_take];omega
   have HAT:Hid (∀ W:World,Calls prog 23 #[.agg #[.int .i64 own,.int .i64 r,.int .i64 c],.slice (some ⟨b9,o9,none⟩) m3 cap3] W λe w'=>e=.returned (zCS own (some ⟨b9,o9,none⟩) q cap3)/\Below W.heap.size W w'):=λW=>zNt own r c _ m3 cap3 W q hq.symm hc3 (λh=>by cases h)
   have HOF:Hid (∀ W:World,Below w.heap.size w W->Calls prog 24 #[.slice (some ⟨bb,off,none⟩) m cap] W λe w'=>(∃ sl,e=.returned (.agg (zAN (hd n t) sl).toArray)/\PA n W.heap.size w'.heap.size w' t sl)/\Below W.heap.size W w'):=λW hb=>zMX n t bb off m cap W hT (by rw [hrow];exact hm) (by omega) (by omega) (by rw [hrow];exact hr.below hb)
   have HRF:Hid (∀ (sl:Value) (lo hi:Nat) (W:World),Below w.heap.size w W->PA n lo hi W t sl->Calls prog 25 #[.agg (zAN (hd n t) sl).toArray,zCS own (some ⟨b9,o9,none⟩) q cap3] W λe w'=>e=.returned (.int .i64 (zBB own (nm.take 16) n t))/\Below W.heap.size W w'):=λsl lo hi W hb hp=>HGR.out q hq2 sl lo hi W hT hp (hN.below hb) ((hS.take 16).below hb)
   have hG:0<w.heap.size:=zA5 (hN.cell (id:=0) (by omega) (by omega));have HEN:Hid (∀ (W:World) (k hi:Nat),Below w.heap.size w W->w.heap.size<=k->hi<=k->k+1<=W.heap.size->En own (nm.take 16) (some ⟨b9,o9,none⟩) q cap3 k (k+1) (λ_=>k+1) hi W):=λW k hi hb h1 h2 h3=>⟨hN.below hb,(hS.take 16).below hb,hq2,hq16,λb o e=>by cases e;omega,by omega,h2,Nat.lt_succ_self _,h3,λ_=>h3⟩
   have HCL:Hid ((cod own (nm.take 16) n t 0).length<=900000):=by
    show _<=_
    have h7:=zF2 own (nm.take 16) n t 0;rw [hrow] at h7;omega
   have HT:Hid (zAz n t):=hT;have HFC:Hid (flC own nm n t=cod own (nm.take 16) n t 0++[ins 16 0 0]):=rfl;have h84i:¬ (m3:Int)<=own:=by rw [hm3];exact h84
   obtain ⟨rt,hrt⟩:∃ rt,zBB own (nm.take 16) n t=rt:=⟨_,rfl⟩
   obtain ⟨y,hy⟩:∃ y,hd n t=y:=⟨_,rfl⟩
   have HRT:Hid (zBB own (nm.take 16) n t=rt):=hrt;have HY:Hid (hd n t=y):=hy;rw [hrt,hy] at HRF;rw [hy] at HOF;rw [hrt,hy];obtain ⟨E,hE9⟩:∃ E,(if rt ≠ 0 then rt else if isA y=true then 82 else 0:Int)=E:=⟨_,rfl⟩
   have HE:Hid ((if rt ≠ 0 then rt else if isA y=true then 82 else 0:Int)=E):=hE9;rw [hE9];clear hE9;clear hF hO hN hr hS hE hrow hT hl hcap hm hm3 hc3 hn3 hb0 pC h84 hr0 hnp h9 hb9 hq hq2 hq16 hG hrt hy hown;go_enter func8,ntmps8;go_upto_region 1 with fail
   generalize (w.alloc (.cells #[.int .i64 own,.int .i64 r,.int .i64 c] 24))=W at *;go_wp2_with fail
   refine CK.mono ?_;rintro e w1 ⟨rfl,hb1⟩;have pC1:=AtL.below hb1 HPC.out;obtain ⟨c0,c1,c2,_,_,_⟩:=pC1.three;have RI:=HRI.out w1;clear CK HPC HRI;go_wp2_with fail
   refine RI.mono ?_;rintro e w2 ⟨rfl,hb2⟩;have pC2:=AtL.below hb2 pC1;clear c0 c1 c2 pC1 RI;obtain ⟨c0,c1,c2,_,_,_⟩:=pC2.three;have HB2:Hid (Below w.heap.size w w2):=zAB (zAB HB0.out hb1) hb2;have AT:=HAT.out w2;clear hb1 hb2 HB0 HAT;go_wp2_with fail
   refine AT.mono ?_;rintro e w3 ⟨rfl,hb3⟩;have HB3:Hid (Below w.heap.size w w3):=zAB HB2.out hb3;have OF:=HOF.out w3 HB3.out;clear AT hb3 HB2 HOF c0 c1 c2 pC2;go_wp2_with fail
   refine OF.mono ?_;rintro e w4 ⟨⟨sl,rfl,hpa⟩,hb4⟩;obtain ⟨sa,sb,sc,rfl⟩:=hpa.slice;have HB4:Hid (Below w.heap.size w w4):=zAB HB3.out hb4;have HPA4:Hid (PA n w3.heap.size w4.heap.size w4 t (.slice sa sb sc)):=hpa;clear OF hpa hb4 HB3;have pS:AtL ((w4.alloc (.cells #[.int .i64 own,.slice (some ⟨b9,o9,none⟩) q cap3] 60)).alloc (.cells zeros21 64)) w4.heap.size [.int .i64 own,.slice (some ⟨b9,o9,none⟩) q cap3]:=(AtL.new0 w4 60 [.int .i64 own,.slice (some ⟨b9,o9,none⟩) q cap3]).alloc (.cells zeros21 64);have pQ:AtL ((w4.alloc (.cells #[.int .i64 own,.slice (some ⟨b9,o9,none⟩) q cap3] 60)).alloc (.cells zeros21 64)) (w4.heap.size+1) zeros21.toList:=AtL.new1 w4 _ 64 zeros21.toList;have hb5:=zAM (zAM (Below.refl _ w4) (.cells #[.int .i64 own,.slice (some ⟨b9,o9,none⟩) q cap3] 60)) (.cells zeros21 64);have hthP:World.there ((w4.alloc (.cells #[.int .i64 own,.slice (some ⟨b9,o9,none⟩) q cap3] 60)).alloc (.cells zeros21 64)) (w4.heap.size+1) 0 (zAN y (.slice sa sb sc)).toArray.size:=pQ.there;have pS2:=pS.farAll (b:=w4.heap.size+1) (by omega) 0 (zAN y (.slice sa sb sc));have pP2:=pQ.setAll (vs:=zAN y (.slice sa sb sc)) rfl;have hb6:=zAv hb5 (Nat.le_succ _) (zAN y (.slice sa sb sc)) 0;obtain ⟨W6,hW6⟩:∃ W6,((w4.alloc (.cells #[.int .i64 own,.slice (some ⟨b9,o9,none⟩) q cap3] 60)).alloc (.cells zeros21 64)).setCells (w4.heap.size+1) 0 (zAN y (.slice sa sb sc))=W6:=⟨_,rfl⟩
   rw [hW6] at pS2 pP2 hb6;have HS6:Hid (AtL W6 w4.heap.size [.int .i64 own,.slice (some ⟨b9,o9,none⟩) q cap3]):=pS2;have HP6:Hid (AtL W6 (w4.heap.size+1) (zAN y (.slice sa sb sc))):=pP2;have HB6:Hid (Below w.heap.size w W6):=zAB HB4.out hb6;have HPA6:Hid (PA n w3.heap.size w4.heap.size W6 t (.slice sa sb sc)):=PA.kept (Kept.of_below hb6) n _ _ HPA4.out;have HW6:Hid (((w4.alloc (.cells #[.int .i64 own,.slice (some ⟨b9,o9,none⟩) q cap3] 60)).alloc (.cells zeros21 64)).setCells (w4.heap.size+1) 0 (zAN y (.slice sa sb sc))=W6):=hW6;have HSZ:Hid (w.heap.size<=w4.heap.size):=HB4.out.size;clear pS pQ pS2 pP2 hb5 hb6 hW6 HB4 HPA4;go_upto_region 9 with ((with_reducible refine wpList_store_mid ?_ 64 (.tmp 10) (.tmp 33) ?_ (w4.heap.size+1) 0 (zAN y (.slice sa sb sc)).toArray ?_ ?_ ?_ ?_ ?_ ?_);rfl;rfl;rfl;rfl;exact hthP;kernel_rfl;exact zAk _ _ _ _)
   rw [HW6.out];clear HW6 hthP;obtain ⟨k4,hk4⟩:∃ k,w4.heap.size=k:=⟨_,rfl⟩
   rw [hk4] at HS6 HP6 HPA6 HSZ;simp only [hk4];clear hk4;have RF:=HRF.out (.slice sa sb sc) w3.heap.size k4 W6 HB6.out HPA6.out;have rP:=HP6.out.range;have rS:=HS6.out.range;clear HRF;go_wp2_with (first | (refine zAA (by rfl) 64 (.tmp 10) rfl (k4+1) 0 rfl (zAN y (.slice sa sb sc)) _ rP underlying64 rfl (by kernel_rfl) ?_) | (refine zAA (by rfl) 60 (.tmp 9) rfl k4 0 rfl [.int .i64 own,.slice (some ⟨b9,o9,none⟩) q cap3] _ rS underlying60 rfl (by kernel_rfl) ?_))
   refine RF.mono ?_;rintro e w7 ⟨rfl,hb7⟩;have HB7:Hid (Below w.heap.size w w7):=zAB HB6.out hb7;have HS7:Hid (AtL w7 k4 [.int .i64 own,.slice (some ⟨b9,o9,none⟩) q cap3]):=AtL.below hb7 HS6.out;have HP7:Hid (AtL w7 (k4+1) (zAN y (.slice sa sb sc))):=AtL.below hb7 HP6.out;have HPA7:Hid (PA n w3.heap.size k4 w7 t (.slice sa sb sc)):=PA.kept (Kept.of_below hb7) n _ _ HPA6.out;clear RF hb7 HB6 HS6 HP6 HPA6 rP rS;by_cases hrt0:rt=0
   ·have IA:=zBY y (.slice sa sb sc) w7;have rP:=HP7.out.range;cases hya:isA y with
    | true =>
     have hE2:=HE.out;rw [if_neg (by simp [hrt0]),if_pos hya] at hE2;rw [hya] at IA;subst hrt0;go_wp2_with (first | (refine zAA (by rfl) 64 (.tmp 10) rfl (k4+1) 0 rfl (zAN y (.slice sa sb sc)) _ rP underlying64 rfl (by kernel_rfl) ?_))
     refine IA.mono ?_;rintro e w8 ⟨rfl,hb8⟩;have HB8:Hid (Below w.heap.size w w8):=zAB HB7.out hb8;clear IA hb8 rP;go_wp2;go_ret2
     exact ⟨Or.inl ⟨by omega,by rw [<-hE2];rfl⟩,HB8.out⟩
    | false =>
     have hE2:=HE.out;rw [if_neg (by simp [hrt0]),if_neg (by simp [hya])] at hE2;rw [hya] at IA;have HWR:Hid (Wr own (nm.take 16) n t):=⟨HT.out,by rw [HRT.out];exact hrt0,by rw [HY.out];exact hya⟩
     clear HE;subst hrt0;subst hE2;go_wp2_with (first | (refine zAA (by rfl) 64 (.tmp 10) rfl (k4+1) 0 rfl (zAN y (.slice sa sb sc)) _ rP underlying64 rfl (by kernel_rfl) ?_))
     refine IA.mono ?_;rintro e w8 ⟨rfl,hb8⟩;have HB8:Hid (Below w.heap.size w w8):=zAB HB7.out hb8;have rS:=zAF hb8 HS7.out.range;have hP8:=AtL.below hb8 HP7.out;have hPA8:=PA.kept (Kept.of_below hb8) n _ _ HPA7.out;have hkk:k4+1<w8.heap.size:=hP8.lt;have hb9:=zAM (Below.refl _ w8) (.cells #[.int .i64 own,.slice (some ⟨b9,o9,none⟩) q cap3,.slice none 0 0] 68);have HB9:Hid (Below w.heap.size w (w8.alloc (.cells #[.int .i64 own,.slice (some ⟨b9,o9,none⟩) q cap3,.slice none 0 0] 68))):=zAB HB8.out hb9;have rP9:=zAF hb9 hP8.range;have hPA9:=PA.kept (Kept.of_below hb9) n _ _ hPA8;have hsz9:w8.heap.size+1<=(w8.alloc (.cells #[.int .i64 own,.slice (some ⟨b9,o9,none⟩) q cap3,.slice none 0 0] 68)).heap.size:=by rw [World.size_alloc];exact Nat.le_refl _
     have EN:=HEN.out _ w8.heap.size k4 HB9.out HB8.out.size (by omega) hsz9;have hws:WS w8.heap.size (w8.heap.size+1) (λ_=>w8.heap.size+1) (w8.alloc (.cells #[.int .i64 own,.slice (some ⟨b9,o9,none⟩) q cap3,.slice none 0 0] 68)) (.int .i64 own) (.slice (some ⟨b9,o9,none⟩) q cap3) [] (.slice none 0 0) []:=⟨AtL.new0 w8 68 _,OwnI.nil _ _,rfl,λi h=>absurd h (Nat.not_lt_zero _),λ_=>Nat.le_refl _,λi j h=>absurd h (Nat.not_lt_zero _)⟩
     have PT:=HGP.out q (.slice sa sb sc) w3.heap.size k4 w8.heap.size (w8.heap.size+1) (λ_=>w8.heap.size+1) _ [] (.slice none 0 0) [] HWR.out hPA9 EN hws (by have:=HCL.out;simpa using this);rw [HY.out] at PT;clear IA hb8 hb9 rP hP8 hPA8 hPA9 EN hws HS7 HP7 HPA7 HB7;go_upto_region 15 with (first | (refine zAA (by rfl) 60 (.tmp 9) rfl k4 0 rfl [.int .i64 own,.slice (some ⟨b9,o9,none⟩) q cap3] _ rS underlying60 rfl (by kernel_rfl) ?_) | (refine zEw rfl (.tmp 42) rfl own (some ⟨b9,o9,none⟩) q cap3 rfl ?_;clear rS))
     generalize (w8.alloc (.cells #[.int .i64 own,.slice (some ⟨b9,o9,none⟩) q cap3,.slice none 0 0] 68))=W9 at *;have HK8:Hid (w.heap.size<=w8.heap.size/\w8.heap.size+1<=W9.heap.size):=⟨HB8.out.size,hsz9⟩
     clear HB8 hsz9 hkk;obtain ⟨k8,hk8⟩:∃ k,w8.heap.size=k:=⟨_,rfl⟩
     rw [hk8] at HK8 PT;simp only [hk8];clear hk8;go_wp2_with (first | (refine zAA (by rfl) 64 (.tmp 10) rfl (k4+1) 0 rfl (zAN y (.slice sa sb sc)) _ rP9 underlying64 rfl (by kernel_rfl) ?_))
     refine PT.mono ?_;rintro e w10 ⟨⟨lv1,P1,rfl,ws1,hn1⟩,fr1⟩;have HBA:Hid (Below w.heap.size w w10):=zBA HB9.out fr1 (λj hj=>by
      have:=HK8.out.1;simp [Value.ownBlock] at hj;omega)
     have LA:=zAp k8 (k8+1) (λ_=>k8+1) (ins 16 0 0).1 _ _ _ lv1 P1 w10 ws1 (Nat.lt_succ_self _) (Nat.le_trans HK8.out.2 fr1.size) (by have:=HCL.out;simp only [List.nil_append,List.length_nil];omega);have HO1:Hid (∀ g,lv1.ownBlock=some g->k8+1<=g):=λg e=>(zAK ws1.own e).1
     clear PT rP9 ws1 hn1 fr1 HB9;go_wp2_with fail
     refine LA.mono ?_;rintro e w11 ⟨⟨lv2,P2,rfl,ws2,hn2⟩,fr2⟩;have HBB:Hid (Below w.heap.size w w11):=zBA HBA.out fr2 (λj hj=>by
      have h1:=HK8.out.1;rcases List.mem_cons.1 hj with q | q
      ·omega
      ·have:=HO1.out j (by simpa using q);omega)
     have hsl:∃ a b c,lv2=Value.slice a b c:=by
      rcases ws2.own.2 with ⟨q,_⟩ | ⟨g,c,cur,q,_⟩
      ·exact ⟨_,_,_,q⟩
      ·exact ⟨_,_,_,q⟩
     obtain ⟨la,lb,lc,rfl⟩:=hsl;obtain ⟨_,_,c2,_,_,_⟩:=ws2.at'.three;have HWS:Hid (WS k8 (k8+1) (λ_=>k8+1) w11 (.int .i64 own) (.slice (some ⟨b9,o9,none⟩) q cap3) (flC own nm n t) (.slice la lb lc) P2):=ws2;clear LA ws2 hn2 fr2 HBA;go_wp2_with fail
     go_ret2
     have hws:=HWS.out;have hk:=HK8.out.1;exact ⟨Or.inr ⟨rfl,_,P2,rfl,zCb hws.own (by omega),hws.len,λi h h'=>⟨(hws.ins i h h').1,zCb (hws.ins i h h').2 (by omega)⟩,hws.dis⟩,HBB.out⟩
   ·have hE2:=HE.out;rw [if_pos hrt0] at hE2;clear HE;go_wp2;go_ret2
    exact ⟨Or.inl ⟨by omega,by rw [<-hE2];rfl⟩,HB7.out⟩
theorem zLR (n:Nat) (t:Tr n) (bb off cap:Nat) (l:List Wt.Nd) (own r c:Int) (av3:Option Addr) (nm:List ByteArray) (m3 cap3:Nat) (w:World) (hF:∀ x ∈ l,Wt.FitN x) (hO:OpsAt w) (hN:NmAt w) (hr:RdN w (some ⟨bb,off,none⟩) l) (hS:RdS w av3 nm) (hE:Wt.check l=0) (hrow:row n t=l) (hT:zAz n t) (hl:l.length<=256) (hcap:l.length<=cap) (m:Nat) (hm:m=l.length) (hm3:m3=nm.length) (hc3:m3<=cap3) (hn3:nm.length<=1000000) (hown:-9223372036854775808<=own/\own<=9223372036854775807) :
  Calls prog 8 #[.slice (some ⟨bb,off,none⟩) m cap,.agg #[.int .i64 own,.int .i64 r,.int .i64 c],.slice av3 m3 cap3] w (FlP (flE own r c nm n t) (flC own nm n t) w) :=
 zFh n t bb off cap l own r c av3 nm m3 cap3 w hF hO hN hr hS hE hrow hT hl hcap m hm hm3 hc3 hn3 hown (λq hq=>zCq own (nm.take 16) av3 q cap3 hq (by rw [List.length_take];omega) n t) (λq=>zGF own (nm.take 16) av3 q cap3 n t)
open Go.RowKit
theorem zD7 (s r c:Int) (w:World) :
  CR 30 #[.agg #[.int .i64 s,.int .i64 r,.int .i64 c]] w (.bool (Wpl.rightC s r c)):=by
 by_cases h0:0<=s
 ·by_cases h1:s<16
  ·by_cases h2:0<=r
   ·by_cases h3:r<65536
    ·by_cases h4:0<=c
     ·have e:Hid (Wpl.rightC s r c=decide (c<256)):=by
       show _=_;rw [Bool.eq_iff_iff,Wpl.rightC_iff];simp;omega
      go_enter func30,ntmps30;go_wp2;go_ret;exact ⟨by rw [e.out];rfl,clA⟩
     ·have e:Hid (Wpl.rightC s r c=false):=by show _=_;rw [Wpl.rightC_not];omega
      go_enter func30,ntmps30;go_wp2;go_ret;exact ⟨by rw [e.out];rfl,clA⟩
    ·have e:Hid (Wpl.rightC s r c=false):=by show _=_;rw [Wpl.rightC_not];omega
     go_enter func30,ntmps30;go_wp2;go_ret;exact ⟨by rw [e.out];rfl,clA⟩
   ·have e:Hid (Wpl.rightC s r c=false):=by show _=_;rw [Wpl.rightC_not];omega
    go_enter func30,ntmps30;go_wp2;go_ret;exact ⟨by rw [e.out];rfl,clA⟩
  ·have e:Hid (Wpl.rightC s r c=false):=by show _=_;rw [Wpl.rightC_not];omega
   go_enter func30,ntmps30;go_wp2;go_ret;exact ⟨by rw [e.out];rfl,clA⟩
 ·have e:Hid (Wpl.rightC s r c=false):=by show _=_;rw [Wpl.rightC_not];omega
  go_enter func30,ntmps30;go_wp2;go_ret;exact ⟨by rw [e.out];rfl,clA⟩
theorem zHx {x:Wt.Nd} (hx:Wt.right x=true) (h:x.k=3):x.ar=0:=by
 unfold Wt.right at hx;rw [if_neg (by omega),if_neg (by omega),if_pos h] at hx;simp only [Bool.and_eq_true] at hx;rw [(zBe _ _).1 hx.2]
theorem zPe (av:Option Addr) (m cap:Nat) (own:Int) (av3:Option Addr) (m3 cap3:Nat) (w:World):(Instr.build 74 #[(0,.slice av m cap),(1,.int .i64 own),(2,.slice av3 m3 cap3)]).run prog w=.ok (.agg #[.slice av m cap,.int .i64 own,.slice av3 m3 cap3,.slice none 0 0]) w:=by kernel_rfl
theorem zEs (hgd:op.guard=none) (x y z:Operand) (ho:op.op=.build 74 #[(0,x),(1,y),(2,z)]) (av:Option Addr) (m cap:Nat) (own:Int) (av3:Option Addr) (m3 cap3:Nat) (hx:a.eval x=.slice av m cap) (hy:a.eval y=.int .i64 own) (hz:a.eval z=.slice av3 m3 cap3)
  (h:wpList prog ops Q rest (a.put op.dst (.agg #[.slice av m cap,.int .i64 own,.slice av3 m3 cap3,.slice none 0 0])) w):wpList prog ops Q (op::rest) a w:=by
 refine wpList_plain hgd λK hK=>?_
 unfold Oper.wp execOp;simp only [ho,List.map_toArray,List.map_cons,List.map_nil,hx,hy,hz,Sem.run_bind,Sem.run_pure,Result.andThen_ok,zPe];exact hK _ _ h
theorem zJV (av:Option Addr) (cap:Nat) (l:List Wt.Nd) (own r c:Int) (av3:Option Addr) (m3 cap3:Nat) (w:World) (hL:l.length<=9223372036854775807) (hF:∀ x ∈ l,Wt.FitN x) (hr:RdN w av l) (hE:Wt.check l ≠ 0) (m:Nat) (hm:m=l.length) :
  Calls prog 9 #[.slice av m cap,.agg #[.int .i64 own,.int .i64 r,.int .i64 c],.slice av3 m3 cap3] w (FlP (Wt.check l) [] w):=by
 have hb0:=zAM (Below.refl _ w) (.cells #[.int .i64 own,.int .i64 r,.int .i64 c] 24);have CK:=zDO av cap l _ hL hF (hr.below hb0);rw [<-hm] at CK;generalize Wt.check l=E at *;have HE:Hid (E ≠ 0):=hE;have hE2:¬ E=0:=hE;clear hL hF hr hE hm;go_enter func9,ntmps9;go_upto_region 1 with fail
 generalize (w.alloc (.cells #[.int .i64 own,.int .i64 r,.int .i64 c] 24))=W at *;go_wp2_with fail
 refine CK.mono ?_;rintro e w1 ⟨rfl,hb1⟩;have HB1:Hid (Below w.heap.size w w1):=zAB hb0 hb1;clear CK hb0 hb1;go_wp2;go_ret2
 exact ⟨Or.inl ⟨HE.out,rfl⟩,HB1.out⟩
theorem zI4 (n:Nat) (t:Tr (n+1)) (bb off cap:Nat) (l:List Wt.Nd) (own r c:Int) (av3:Option Addr) (nm:List ByteArray) (cap3:Nat) (w:World) (hF:∀ x ∈ l,Wt.FitN x) (hr:RdN w (some ⟨bb,off,none⟩) l) (hS:RdS w av3 nm) (hE:Wt.check l=0) (hrow:row (n+1) t=l) (hT:zAz (n+1) t) (hl:l.length<=256) (hn:n<=l.length) (m:Nat) (hm:m=l.length) (m3:Nat) (hm3:m3=nm.length) (hn3:nm.length<=1000000) :
  Calls prog 9 #[.slice (some ⟨bb,off,none⟩) m cap,.agg #[.int .i64 own,.int .i64 r,.int .i64 c],.slice av3 m3 cap3] w (FlP (flE own r c nm (n+1) t) (flC own nm (n+1) t) w):=by
 have hb0:=zAM (Below.refl _ w) (.cells #[.int .i64 own,.int .i64 r,.int .i64 c] 24);have pC:=AtL.new0 w 24 [.int .i64 own,.int .i64 r,.int .i64 c];have CK:=zDO (some ⟨bb,off,none⟩) cap l _ (by omega) hF (hr.below hb0);rw [<-hm,hE] at CK;have HRI:Hid (∀ W:World,Calls prog 30 #[.agg #[.int .i64 own,.int .i64 r,.int .i64 c]] W λe w'=>e=.returned (.bool (Wpl.rightC own r c))/\Below W.heap.size W w'):=λW=>zD7 own r c W
 have HPC:Hid (AtL (w.alloc (.cells #[.int .i64 own,.int .i64 r,.int .i64 c] 24)) w.heap.size [.int .i64 own,.int .i64 r,.int .i64 c]):=pC;have HB0:Hid (Below w.heap.size w (w.alloc (.cells #[.int .i64 own,.int .i64 r,.int .i64 c] 24))):=hb0;unfold flE;generalize hq:Wpl.rightC own r c=qr at *;have HQR:Hid (Wpl.rightC own r c=qr):=hq;clear hq;cases qr with
 | false =>
  rw [if_pos rfl];clear hF hr hS hE hrow hT hl hm hm3 hn3 hn hb0 pC;go_enter func9,ntmps9;go_upto_region 1 with fail
  generalize (w.alloc (.cells #[.int .i64 own,.int .i64 r,.int .i64 c] 24))=W at *;go_wp2_with fail
  refine CK.mono ?_;rintro e w1 ⟨rfl,hb1⟩;have pC1:=AtL.below hb1 HPC.out;obtain ⟨c0,c1,c2,_,_,_⟩:=pC1.three;have RI:=HRI.out w1;clear CK pC1 HPC HRI;go_wp2_with fail
  refine RI.mono ?_;rintro e w2 ⟨rfl,hb2⟩;have HB2:Hid (Below w.heap.size w w2):=zAB (zAB HB0.out hb1) hb2;clear RI hb1 hb2 c0 c1 c2;go_wp2;go_ret2
  exact ⟨Or.inl ⟨by omega,rfl⟩,HB2.out⟩
 | true =>
  rw [if_neg (by simp)];by_cases h84:(nm.length:Int)<=own
  ·rw [if_pos h84];rw [<-hm3] at h84;clear hF hr hS hE hrow hT hl hm hm3 hn3 hn hb0 pC;go_enter func9,ntmps9;go_upto_region 1 with fail
   generalize (w.alloc (.cells #[.int .i64 own,.int .i64 r,.int .i64 c] 24))=W at *;go_wp2_with fail
   refine CK.mono ?_;rintro e w1 ⟨rfl,hb1⟩;have pC1:=AtL.below hb1 HPC.out;obtain ⟨c0,c1,c2,_,_,_⟩:=pC1.three;have RI:=HRI.out w1;clear CK HPC HRI;go_wp2_with fail
   refine RI.mono ?_;rintro e w2 ⟨rfl,hb2⟩;have d0:=zAC hb2 c0;have HB2:Hid (Below w.heap.size w w2):=zAB (zAB HB0.out hb1) hb2;clear RI hb1 hb2 c0 c1 c2 pC1;go_wp2;go_ret2
   exact ⟨Or.inl ⟨by omega,rfl⟩,HB2.out⟩
  ·rw [if_neg h84];have h84i:¬ (m3:Int)<=own:=by rw [hm3];exact h84
   have hr0:=Wpl.rightC_iff.1 HQR.out;have hnp:0<nm.length:=by omega
   have hav:∀ b o,av3=some ⟨b,o,none⟩->b<w.heap.size:=λb o e=>by
    obtain ⟨b9,o9,e9,h9⟩:=hS 0 hnp;rw [e] at e9;cases e9
    exact zA5 h9
   have hbb:bb<w.heap.size:=by
    have h0:0<l.length:=by rw [<-hrow];exact zFP _ t
    obtain ⟨b9,o9,e9,h9⟩:=hr 0 h0;cases e9
    exact zA5 (h9 0 _ rfl)
   have hc7:=zF2 own (nm.take 16) (n+1) t 0;rw [hrow] at hc7;obtain ⟨E,hE9⟩:∃ E,(if zBB own (nm.take 16) (n+1) t ≠ 0 then zBB own (nm.take 16) (n+1) t else if isA (hd (n+1) t)=true then 82 else 0:Int)=E:=⟨_,rfl⟩
   have hwr:zBz ((List.range' 0 l.length).map (wrN own (nm.take 16) l))=E:=by
    rw [zNR own (nm.take 16) hn hrow hT (λh3=>by
     have h9:=hT.2.1;unfold Wt.parts at h9;rw [if_neg (by omega),if_neg (by omega),zHx hT.1 h3] at h9;exact List.eq_nil_of_length_eq_zero (by omega))]
    exact hE9
   have HWG:Hid (E=0->Wr own (nm.take 16) (n+1) t):=λh0=>by
    rw [h0] at hE9;by_cases h1:zBB own (nm.take 16) (n+1) t=0
    ·refine ⟨hT,h1,?_⟩;rw [if_neg (by simp [h1])] at hE9;cases h2:isA (hd (n+1) t) with
     | false=>rfl
     | true=>rw [h2] at hE9;simp at hE9
    ·rw [if_pos h1] at hE9;exact absurd hE9 h1
   rw [hE9];have HWR:Hid (∀ (W:World) (i:Nat),Below w.heap.size w W->i<l.length->Calls prog 31 #[.slice (some ⟨bb,off,none⟩) m cap,.int .i64 (i:Int),.int .i64 own,.slice av3 m3 cap3] W λe w'=>e=.returned (.int .i64 (wrN own (nm.take 16) l i))/\Below W.heap.size W w'):=λW i hb hi=>by
    have h9:=zGY l bb off cap i own nm av3 m3 cap3 W hi hE hF (hr.below hb) (hS.below hb) hm3 hn3;rw [<-hm] at h9;exact h9
   have HEN:Hid (∀ (W:World) (k:Nat),Below w.heap.size w W->w.heap.size<=k->MEn l bb off nm av3 k W):=λW k hb hk=>⟨hr.below hb,hS.below hb,by omega,λb o e=>by have:=hav b o e;omega,hE,hF,hn3⟩
   have HND:Hid (YNd l bb off cap own nm av3 cap3 (n+1)):=zIt (n+1) (by omega);have HSU:Hid (Sub l 0 (n+1) t):=⟨[],by simp [hrow]⟩
   have HCL:Hid ((cod own (nm.take 16) (n+1) t 0).length<=800000):=by show _<=_;omega
   have HML:Hid (m=l.length/\l.length<=256/\m3=nm.length):=⟨hm,hl,hm3⟩
   have HWQ:Hid (zBz ((List.range' 0 (l.length - 0)).map (wrN own (nm.take 16) l))=E):=hwr;clear hF hr hS hE hrow hT hl hm hm3 hn3 hn hb0 pC h84 hc7 hE9 hwr hbb hav hr0 hnp;go_enter func9,ntmps9;go_upto_region 1 with fail
   generalize (w.alloc (.cells #[.int .i64 own,.int .i64 r,.int .i64 c] 24))=W at *;go_wp2_with fail
   refine CK.mono ?_;rintro e w1 ⟨rfl,hb1⟩;have pC1:=AtL.below hb1 HPC.out;obtain ⟨c0,c1,c2,_,_,_⟩:=pC1.three;have RI:=HRI.out w1;clear CK HPC HRI;go_wp2_with fail
   refine RI.mono ?_;rintro e w2 ⟨rfl,hb2⟩;have pC2:=AtL.below hb2 pC1;clear c0 c1 c2 pC1 RI;have d0:=pC2.2.1 0 _ rfl;have HD0:Hid (w2.cell? ⟨w.heap.size,0,none⟩=some (.int .i64 own)):=d0;have HB2:Hid (Below w.heap.size w w2):=zAB (zAB HB0.out hb1) hb2;clear hb1 hb2 HB0 pC2;go_wp2_with fail
   clear d0;go_loopg [10] m (λgk y wr=>∃ i:Nat,y=.int .i64 (i:Int)/\gk=m - i/\i<=m/\Hid (zBz ((List.range' i (l.length - i)).map (wrN own (nm.take 16) l))=E)/\Hid (Below w2.heap.size w2 wr))
   case atStart=>exact ⟨0,rfl,rfl,Nat.zero_le _,HWQ,Below.refl _ _⟩
   case round =>
    clear HWQ;obtain ⟨i,rfl,hg,him,HQ,HB⟩:=hrel;have d0:=zAC HB.out HD0.out;have hB:=zAB HB2.out HB.out;by_cases hlt:i<m
    ·have hli:(i:Int)<(m:Int):=by omega
     have hiz:(0:Int)<=(i:Int):=by omega
     have hwi:IntKind.i64.wrap ((i:Int)+1)=(i:Int)+1:=by have:=HML.out;rw [IntKind.wrap_i64];omega
     have WR:=HWR.out wr i hB (by have:=HML.out;omega);obtain ⟨b,hbw⟩:∃ b,wrN own (nm.take 16) l i=b:=⟨_,rfl⟩
     have hq:=HQ.out;rw [show l.length - i=(l.length - (i+1))+1 from by have:=HML.out;omega,List.range'_succ,List.map_cons,hbw] at hq;rw [hbw] at WR;have HQ2:Hid (zBz (b::(List.range' (i+1) (l.length - (i+1))).map (wrN own (nm.take 16) l))=E):=hq;clear hbw hq HQ;go_wp2_with fail
     refine WR.mono ?_;rintro e w4 ⟨rfl,hb4⟩;have hB4:=zAB hB hb4;have HB4:Hid (Below w2.heap.size w2 w4):=zAB HB.out hb4;by_cases hb0:b=0
     ·subst hb0;have HQ3:Hid (zBz ((List.range' (i+1) (l.length - (i+1))).map (wrN own (nm.take 16) l))=E):=HQ2.out;clear WR hb4 d0 hB hB4 HQ2;go_wp2_with fail
      go_roundg (m - (i+1))
      case rel=>exact ⟨i+1,by simp,rfl,hlt,HQ3,HB4⟩
      case measure=>omega
     ·have hEb:b=E:=by
       have h9:=HQ2.out;unfold zBz at h9;rw [if_neg hb0] at h9;exact h9
      subst hEb;clear WR hb4 d0 hB HB4 HQ2;go_wp2;go_ret2
      exact ⟨Or.inl ⟨hb0,rfl⟩,hB4⟩
    ·have hli:¬ (i:Int)<(m:Int):=by omega
     have hE0:E=0:=by
      have h9:=HQ.out;rw [show l.length - i=0 from by have:=HML.out;omega] at h9;exact h9.symm
     subst hE0;have hW:=HWG.out rfl;have HWB:Hid (Below w.heap.size w wr):=hB;clear HQ HB HB2 hg him hlt hB;have pM:=AtL.new0 wr 74 [.slice (some ⟨bb,off,none⟩) m cap,.int .i64 own,.slice av3 m3 cap3,.slice none 0 0];have hb5:=zAM (Below.refl _ wr) (.cells #[.slice (some ⟨bb,off,none⟩) m cap,.int .i64 own,.slice av3 m3 cap3,.slice none 0 0] 74);have hys:YS wr.heap.size (wr.alloc (.cells #[.slice (some ⟨bb,off,none⟩) m cap,.int .i64 own,.slice av3 m3 cap3,.slice none 0 0] 74)) (.slice (some ⟨bb,off,none⟩) m cap) (.int .i64 own) (.slice av3 m3 cap3) [] (.slice none 0 0) []:=⟨pM,OwnI.nil _ _,rfl,λi h=>absurd h (Nat.not_lt_zero _),λi j h=>absurd h (Nat.not_lt_zero _),λi h=>absurd h (Nat.not_lt_zero _)⟩
     have hB5:=zAB HWB.out hb5;have hen:=HEN.out _ wr.heap.size hB5 HWB.out.size;have ev0:yv0 l bb off cap=.slice (some ⟨bb,off,none⟩) m cap:=by unfold yv0;rw [<-HML.out.1]
     have ev2:yv2 nm av3 cap3=.slice av3 m3 cap3:=by unfold yv2;rw [<-HML.out.2.2]
     have ND:=HND.out t 0 wr.heap.size _ [] (.slice none 0 0) [] HSU.out hW hen (by rw [ev0,ev2];exact hys) (by have:=HCL.out;simpa using this);rw [ev0,ev2] at ND;clear ev0 ev2;have HB5:Hid (Below w.heap.size w (wr.alloc (.cells #[.slice (some ⟨bb,off,none⟩) m cap,.int .i64 own,.slice av3 m3 cap3,.slice none 0 0] 74))):=hB5;have hks:wr.heap.size<(wr.alloc (.cells #[.slice (some ⟨bb,off,none⟩) m cap,.int .i64 own,.slice av3 m3 cap3,.slice none 0 0] 74)).heap.size:=pM.lt;clear pM hb5 hys hB5 hen hW HEN HND;go_upto_region 16 with (refine zEs rfl (.tmp 42) (.tmp 44) (.tmp 45) rfl (some ⟨bb,off,none⟩) m cap own av3 m3 cap3 rfl rfl rfl ?_)
     generalize (wr.alloc (.cells #[.slice (some ⟨bb,off,none⟩) m cap,.int .i64 own,.slice av3 m3 cap3,.slice none 0 0] 74))=W5 at *;have HK:Hid (w.heap.size<=wr.heap.size/\wr.heap.size<W5.heap.size):=⟨HWB.out.size,hks⟩
     obtain ⟨k,hk⟩:∃ k,wr.heap.size=k:=⟨_,rfl⟩
     rw [hk] at HK ND;simp only [hk];clear hk hks d0 HWB;go_wp2_with fail
     refine ND.mono ?_;rintro e w6 ⟨⟨lv6,P6,rfl,hy6,hn6⟩,hf6⟩;have HB6:Hid (Below w.heap.size w w6):=zBA HB5.out hf6 (λj hj=>by
      have:=HK.out.1;simp [Value.ownBlock] at hj;omega)
     have LA:=zI6 (ins 16 0 0).1 hy6 (by have:=HCL.out;simp;omega);have HO6:Hid (∀ g,lv6.ownBlock=some g->k+1<=g):=λg e=>(zAK hy6.own e).1
     clear ND hy6 hn6 hf6 HB5;go_wp2_with (first | (refine zAQ rfl 16 rfl ?_))
     refine LA.mono ?_;rintro e w7 ⟨⟨lv7,P7,rfl,hy7,hn7⟩,hf7⟩;have HB7:Hid (Below w.heap.size w w7):=zBA HB6.out hf7 (λj hj=>by
      have h1:=HK.out.1;rcases List.mem_cons.1 hj with q | q
      ·omega
      ·have:=HO6.out j (by simpa using q);omega)
     have hsl:∃ a b c,lv7=Value.slice a b c:=by
      rcases hy7.own.2 with ⟨q,_⟩ | ⟨g,c,cur,q,_⟩
      ·exact ⟨_,_,_,q⟩
      ·exact ⟨_,_,_,q⟩
     obtain ⟨la,lb,lc,rfl⟩:=hsl;have c3:=hy7.at'.2.1 3 _ rfl;have HYS:Hid (YS k w7 (.slice (some ⟨bb,off,none⟩) m cap) (.int .i64 own) (.slice av3 m3 cap3) (flC own nm (n+1) t) (.slice la lb lc) P7):=hy7;clear LA hy7 hn7 hf7 HB6;go_wp2_with fail
     go_ret2
     have hyy:=HYS.out;have hk:=HK.out.1;exact ⟨Or.inr ⟨rfl,_,P7,rfl,zCb hyy.own (by omega),hyy.len,λi h h'=>⟨(hyy.ins i h h').1,zCb (hyy.ins i h h').2 (by omega)⟩,hyy.dis⟩,HB7.out⟩
theorem zBL (x:Wt.Nd):(zAG x).length=20:=rfl
def zBb (l:List Wt.Nd):List Value:=l.flatMap zAG
def zJy (w:World) (B:Nat) (v:Value) (row:List Wt.Nd):Prop:=w.ownsRow B 35 20 v row.length (zBb row)
theorem zBh (l:List Wt.Nd):(zBb l).length=l.length * 20:=by
 induction l with
 | nil=>rfl
 | cons x r ih =>
  have e:zBb (x::r)=zAG x++zBb r:=by simp [zBb]
  rw [e,List.length_append,ih,zBL,List.length_cons];omega
theorem zDp (l:List Wt.Nd):∀ (i:Nat) (h:i<l.length) (j:Nat),j<20->(zBb l)[i * 20+j]? = (zAG (l[i]))[j]?:=by
 induction l with
 | nil=>intro i h;exact absurd h (Nat.not_lt_zero _)
 | cons x r ih =>
  intro i h j hj;have e:zBb (x::r)=zAG x++zBb r:=by simp [zBb]
  rw [e];cases i with
  | zero=>rw [List.getElem?_append_left (by rw [zBL];omega)];simp
  | succ i =>
   rw [List.getElem?_append_right (by rw [zBL];omega),zBL,show (i+1) * 20+j - 20=i * 20+j by omega];rw [ih i (by simpa using h) j hj];simp
theorem zN5 {L:List Wt.Nd} (h:zJy w B v L):∃ av cap,v=.slice av L.length cap/\L.length<=cap/\RdN w av L/\(0<L.length->∃ g,av=some ⟨g,0,none⟩):=by
 rcases h.2 with ⟨e,h0⟩ | ⟨g,cap,cur,e,hb,hg,h1,h2,h3,h4⟩
 ·exact ⟨none,0,by rw [e,h0],by omega,λi hi=>by omega,λhp=>by omega⟩
 ·refine ⟨some ⟨g,0,none⟩,cap,e,h1,λi hi=>⟨g,0,rfl,λj u hu=>?_⟩,λ_=>⟨g,rfl⟩⟩;have hj:j<20:=by
   have:=(List.getElem?_eq_some_iff.1 hu).1;rw [zBL] at this;exact this
  have hx:=zDp L i hi j hj;rw [hu,<-h4,List.getElem?_take_of_lt (by omega)] at hx;unfold World.cell?;simp only [hg];simpa using hx
theorem RdN.flat {L:List Wt.Nd} (h:RdN w av L):∀ ad,av=some ad->∀ j u,(zBb L)[j]? = some u->w.cell? (ad.add j)=some u:=by
 intro ad had j u hu;have hj:j<L.length * 20:=by
  have:=(List.getElem?_eq_some_iff.1 hu).1;rw [zBh] at this;exact this
 have hd:j / 20<L.length:=by omega
 obtain ⟨bb,off,e,hc⟩:=h (j / 20) hd;rw [had] at e;obtain rfl:=Option.some.inj e;have h1:=zDp L (j / 20) hd (j % 20) (Nat.mod_lt _ (by omega));rw [show j / 20 * 20+j % 20=j by omega,hu] at h1;have h2:=hc (j % 20) u h1.symm;rw [show off+j / 20 * 20+j % 20=off+j by omega] at h2;rw [Addr.add_mid];exact h2
theorem zDq (l:List Wt.Nd):∀ u ∈ zBb l,u.oneCell'=true:=by
 intro u hu;unfold zBb at hu;obtain ⟨x,_,hu⟩:=List.mem_flatMap.1 hu;exact zH9 x u hu
theorem zHI:(prog.info? 9).map (λi=>(i.zero,i.size,i.bytes))=some (some (.string ⟨#[]⟩),1,16):=by kernel_rfl
theorem zFu (w:World) (T:TypeId) (k:Nat):(w.alloc (.cells #[] T)).ownsRow w.heap.size T k (.slice (some ⟨w.heap.size,0,none⟩) 0 0) 0 []:=by
 refine ⟨by simp,.inr ⟨w.heap.size,0,#[],rfl,Nat.le_refl _,heap_alloc_new w _,Nat.le_refl _,by unfold maxLen;omega,by simp,by simp⟩⟩
theorem zME (h:w.ownsRow B 9 1 v L.length (L.map Value.string)):∃ av cap,v=.slice av L.length cap/\L.length<=cap/\RdS w av L:=by
 rcases h.2 with ⟨e,h0⟩ | ⟨g,cap,cur,e,hb,hg,h1,h2,h3,h4⟩
 ·refine ⟨none,0,by rw [e,h0],by omega,λi hi=>by omega⟩
 ·refine ⟨some ⟨g,0,none⟩,cap,e,h1,λi hi=>⟨g,0,rfl,?_⟩⟩;have hx:(L.map Value.string)[i]? = some (.string (L[i])):=by simp [hi]
  rw [<-h4,List.getElem?_take_of_lt (by omega)] at hx;unfold World.cell?;simp only [hg];simpa using hx
def OwnT (w:World) (B:Nat) (v:Value) (L:List ByteArray):Prop:=w.ownsRow B 9 1 v L.length (L.map Value.string)
theorem OwnT.below (h:OwnT w B v L) (hb:Below w.heap.size w w'):OwnT w' B v L:=zAW (Fr.of_below [] hb) h (by simp)
theorem zO3 {a:Act} {K:Act->World->Prop} {Q:Exit->Act->World->Prop} (s x:Operand) (ho:o.op=.call {callee:=.builtin .append,args:=#[s,x],argTypes:=#[22,22]})
  (B:Nat) (w:World) (hB:B<=w.heap.size) (v:Value) (hs:a.eval s=v) (hown:w.ownsRow B 35 20 v 0 []) (av:Option Addr) (L:List Wt.Nd) (m cap:Nat) (hm:m=L.length) (hx:a.eval x=.slice av m cap) (hr:RdN w av L) (hno:av=none->m=0/\cap=0) (hl:True->L.length<=799644820177)
  (h:∀ v' w',zJy w' B v' L->w.grownBy w' v.ownBlock->K (a.put o.dst v') w'):o.wp prog a w K Q:=by
 obtain ⟨i0,hi0,hz0,hz1,hz2⟩:=info_parts zF1;have hl:=hl trivial;subst hm;cases av with
 | some ad =>
  refine wp_append_own _ s x 22 ho B 35 i0 _ 20 176 underlying22 hi0 hz0 hz1 hz2 rfl (by decide) _ 0 [] hs hown ad L.length cap (zBb L) hx (zBh L) (hr.flat ad rfl) (zDq L) (by unfold maxLen;omega) (by omega) hB ?_;intro v' w' own hg _;rw [Nat.zero_add,List.nil_append] at own;exact h v' w' own hg
 | none =>
  obtain ⟨h0,rfl⟩:=hno rfl;have hL:L=[]:=List.eq_nil_of_length_eq_zero h0;subst hL;have hrun:=run_append_owned_none (P:=prog) (w:=w) B 22 o.type 35 i0 20 underlying22 hi0 _ 0 [] hown;have hx:a.eval x=.slice none 0 0:=hx;unfold Oper.wp;simp only [execOp,ho,resolve,invoke,builtin,Sem.run_bind,Sem.run_pure,Result.andThen_ok,List.map_toArray,List.map_cons,List.map_nil,hs,hx,hrun];exact h _ _ hown (World.grownBy.refl _ _)
theorem zOG {a:Act} {K:Act->World->Prop} {Q:Exit->Act->World->Prop} (s x:Operand) (ho:o.op=.call {callee:=.builtin .append,args:=#[s,x],argTypes:=#[25,25]})
  (B:Nat) (w:World) (hB:B<=w.heap.size) (v:Value) (hs:a.eval s=v) (hown:w.ownsRow B 9 1 v 0 []) (av:Option Addr) (L:List ByteArray) (m cap:Nat) (hm:m=L.length) (hx:a.eval x=.slice av m cap) (hr:RdS w av L) (hno:av=none->m=0/\cap=0) (hl:True->L.length<=20000)
  (h:∀ v' w',OwnT w' B v' L->w.grownBy w' v.ownBlock->K (a.put o.dst v') w'):o.wp prog a w K Q:=by
 obtain ⟨i0,hi0,hz0,hz1,hz2⟩:=info_parts zHI;have hl:=hl trivial;subst hm;cases av with
 | some ad =>
  refine wp_append_own _ s x 25 ho B 9 i0 _ 1 16 underlying25 hi0 hz0 hz1 hz2 rfl (by decide) _ 0 [] hs hown ad L.length cap (L.map Value.string) hx (by simp) ?_ ?_ (by unfold maxLen;omega) (by omega) hB ?_
  ·intro j u hu;have hj:j<L.length:=by
    have:=(List.getElem?_eq_some_iff.1 hu).1;simpa using this
   obtain ⟨bb,off,e2,hc⟩:=hr j hj;cases e2
   rw [List.getElem?_map,List.getElem?_eq_getElem hj] at hu;simp at hu;rw [<-hu,Addr.add_mid];exact hc
  ·intro u hu;obtain ⟨b,_,rfl⟩:=List.mem_map.1 hu;rfl
  ·intro v' w' own hg _;rw [Nat.zero_add,List.nil_append] at own;exact h v' w' own hg
 | none =>
  obtain ⟨h0,rfl⟩:=hno rfl;have hL:L=[]:=List.eq_nil_of_length_eq_zero h0;subst hL;have hrun:=run_append_owned_none (P:=prog) (w:=w) B 25 o.type 9 i0 1 underlying25 hi0 _ 0 [] hown;have hx:a.eval x=.slice none 0 0:=hx;unfold Oper.wp;simp only [execOp,ho,resolve,invoke,builtin,Sem.run_bind,Sem.run_pure,Result.andThen_ok,List.map_toArray,List.map_cons,List.map_nil,hs,hx,hrun];exact h _ _ hown (World.grownBy.refl _ _)
theorem zLD {T:TypeId} {g o c:Nat} (h:w.ownsRow B T k (.slice (some ⟨g,o,none⟩) m c) n xs):B<=g:=by
 rcases h.2 with ⟨q,_⟩ | ⟨a,cap,cur,q,hb,_⟩
 ·cases q
 ·cases q;exact hb
theorem zG7 {ops:Array Oper} {rest:List Oper} {a:Act} {Q:Exit->Act->World->Prop} (hgd:o.guard=none) (s x:Operand) (ho:o.op=.call {callee:=.builtin .append,args:=#[s,x],argTypes:=#[22,22]})
  (B:Nat) (w:World) (hB:B<=w.heap.size) (v:Value) (hs:a.eval s=v) (hown:w.ownsRow B 35 20 v 0 []) (av:Option Addr) (L:List Wt.Nd) (m cap:Nat) (hm:m=L.length) (hx:a.eval x=.slice av m cap) (hr:RdN w av L) (hno:av=none->m=0/\cap=0) (hl:True->L.length<=799644820177)
  (h:∀ v' w',zJy w' B v' L->w.grownBy w' v.ownBlock->wpList prog ops Q rest (a.put o.dst v') w'):wpList prog ops Q (o::rest) a w :=
 wpList_plain hgd λK hK=>zO3 s x ho B w hB v hs hown av L m cap hm hx hr hno hl λv' w' h1 h2=>hK _ _ (h v' w' h1 h2)
theorem zGl {ops:Array Oper} {rest:List Oper} {a:Act} {Q:Exit->Act->World->Prop} (hgd:o.guard=none) (s x:Operand) (ho:o.op=.call {callee:=.builtin .append,args:=#[s,x],argTypes:=#[25,25]})
  (B:Nat) (w:World) (hB:B<=w.heap.size) (v:Value) (hs:a.eval s=v) (hown:w.ownsRow B 9 1 v 0 []) (av:Option Addr) (L:List ByteArray) (m cap:Nat) (hm:m=L.length) (hx:a.eval x=.slice av m cap) (hr:RdS w av L) (hno:av=none->m=0/\cap=0) (hl:True->L.length<=20000)
  (h:∀ v' w',OwnT w' B v' L->w.grownBy w' v.ownBlock->wpList prog ops Q rest (a.put o.dst v') w'):wpList prog ops Q (o::rest) a w :=
 wpList_plain hgd λK hK=>zOG s x ho B w hB v hs hown av L m cap hm hx hr hno hl λv' w' h1 h2=>hK _ _ (h v' w' h1 h2)
theorem zIa (a b:List Wt.Nd):zBb (a++b)=zBb a++zBb b:=by simp [zBb]
theorem zGZ {ops:Array Oper} {rest:List Oper} {a:Act} {Q:Exit->Act->World->Prop} (hgd:o.guard=none) (s x:Operand) (ho:o.op=.call {callee:=.builtin .append,args:=#[s,x],argTypes:=#[22,22]})
  (B:Nat) (w:World) (hB:B<=w.heap.size) (v:Value) (A:List Wt.Nd) (hs:a.eval s=v) (hown:zJy w B v A) (ad:Addr) (L:List Wt.Nd) (m cap:Nat) (hm:m=L.length) (hx:a.eval x=.slice (some ad) m cap) (hr:RdN w (some ad) L) (hl:True->A.length+L.length<=799644820179)
  (h:∀ v' w',zJy w' B v' (A++L)->w.grownBy w' v.ownBlock->wpList prog ops Q rest (a.put o.dst v') w'):wpList prog ops Q (o::rest) a w:=by
 obtain ⟨i0,hi0,hz0,hz1,hz2⟩:=info_parts zF1;have hl:=hl trivial;subst hm;refine wpList_plain hgd λK hK=>?_
 refine wp_append_own _ s x 22 ho B 35 i0 _ 20 176 underlying22 hi0 hz0 hz1 hz2 rfl (by decide) v A.length (zBb A) hs hown ad L.length cap (zBb L) hx (zBh L) (hr.flat _ rfl) (zDq L) (by unfold maxLen;omega) (by omega) hB ?_;intro v' w' own hg _;refine hK _ _ (h v' w' ?_ hg);unfold zJy;rw [List.length_append,zIa];exact own
theorem zGf {ops:Array Oper} {rest:List Oper} {a:Act} {Q:Exit->Act->World->Prop} (hgd:o.guard=none) (s x:Operand) (ho:o.op=.call {callee:=.builtin .append,args:=#[s,x],argTypes:=#[25,25]})
  (B:Nat) (w:World) (hB:B<=w.heap.size) (v:Value) (A:List ByteArray) (hs:a.eval s=v) (hown:OwnT w B v A) (ad:Addr) (L:List ByteArray) (m cap:Nat) (hm:m=L.length) (hx:a.eval x=.slice (some ad) m cap) (hr:RdS w (some ad) L) (hl:True->A.length+L.length<=20002)
  (h:∀ v' w',OwnT w' B v' (A++L)->w.grownBy w' v.ownBlock->wpList prog ops Q rest (a.put o.dst v') w'):wpList prog ops Q (o::rest) a w:=by
 obtain ⟨i0,hi0,hz0,hz1,hz2⟩:=info_parts zHI;have hl:=hl trivial;subst hm;refine wpList_plain hgd λK hK=>?_
 refine wp_append_own _ s x 25 ho B 9 i0 _ 1 16 underlying25 hi0 hz0 hz1 hz2 rfl (by decide) v A.length (A.map Value.string) hs hown ad L.length cap (L.map Value.string) hx (by simp) ?_ ?_ (by unfold maxLen;omega) (by omega) hB ?_
 ·intro j u hu;have hj:j<L.length:=by
   have:=(List.getElem?_eq_some_iff.1 hu).1;simpa using this
  obtain ⟨bb,off,e2,hc⟩:=hr j hj;cases e2
  rw [List.getElem?_map,List.getElem?_eq_getElem hj] at hu;simp at hu;rw [<-hu,Addr.add_mid];exact hc
 ·intro u hu;obtain ⟨b,_,rfl⟩:=List.mem_map.1 hu;rfl
 ·intro v' w' own hg _;refine hK _ _ (h v' w' ?_ hg);unfold OwnT;rw [List.length_append,List.map_append];exact own
def ndK (k:Int):Wt.Nd:=⟨0,Wt.v0,0,⟨#[]⟩,k,Wt.r0,Wt.r0⟩
theorem zOi (k:Int) (w:World):(Instr.build 35 #[(4,.int .i64 k)]).run prog w=.ok (.agg (zAG (ndK k)).toArray) w:=by kernel_rfl
theorem zC2 (hgd:op.guard=none) (k:Int) (ho:op.op=.build 35 #[(4,.const (.int .i64 k))])
  (h:wpList prog ops Q rest (a.put op.dst (.agg (zAG (ndK k)).toArray)) w):wpList prog ops Q (op::rest) a w:=by
 refine wpList_plain hgd λK hK=>?_
 unfold Oper.wp execOp;simp only [ho,List.map_toArray,List.map_cons,List.map_nil,Act.eval,Sem.run_bind,Sem.run_pure,Result.andThen_ok,zOi];exact hK _ _ h
theorem zP6 (w:World):(Instr.buildSlice 22 2 #[(0,.agg (zAG (ndK 77)).toArray),(1,.agg (zAG (ndK 78)).toArray)]).run prog w=.ok (.slice (some ⟨w.heap.size,0,none⟩) 2 2) (w.alloc (.cells (zAG (ndK 77)++zAG (ndK 78)).toArray 35)):=by kernel_rfl
theorem zFA (hgd:op.guard=none) (y z:Operand) (ho:op.op=.buildSlice 22 2 #[(0,y),(1,z)]) (hy:a.eval y=.agg (zAG (ndK 77)).toArray) (hz:a.eval z=.agg (zAG (ndK 78)).toArray)
  (h:wpList prog ops Q rest (a.put op.dst (.slice (some ⟨w.heap.size,0,none⟩) 2 2)) (w.alloc (.cells (zAG (ndK 77)++zAG (ndK 78)).toArray 35))):wpList prog ops Q (op::rest) a w:=by
 refine wpList_plain hgd λK hK=>?_
 unfold Oper.wp execOp;simp only [ho,List.map_toArray,List.map_cons,List.map_nil,hy,hz,Sem.run_bind,Sem.run_pure,Result.andThen_ok,zP6];exact hK _ _ h
theorem zPi (w:World):RdN (w.alloc (.cells (zAG (ndK 77)++zAG (ndK 78)).toArray 35)) (some ⟨w.heap.size,0,none⟩) [ndK 77,ndK 78]:=λi hi=>by
 have h:=(AtL.new0 w 35 (zAG (ndK 77)++zAG (ndK 78))).2.1;refine ⟨w.heap.size,0,rfl,λj v hv=>?_⟩;have hi2:i=0 \/ i=1:=by simp at hi;omega
 have hj:j<20:=(List.getElem?_eq_some_iff.1 hv).1;rcases hi2 with rfl | rfl
 ·have:=h j v (by rw [List.getElem?_append_left hj];exact hv);simpa using this
 ·have:=h (20+j) v (by rw [List.getElem?_append_right (by simp [zAG]),show 20+j - (zAG (ndK 77)).length=j from by simp [zAG]];exact hv);simpa using this
theorem zPj (w:World):RdS (w.alloc (.cells #[.string ⟨#[120,55]⟩,.string ⟨#[120,56]⟩] 9)) (some ⟨w.heap.size,0,none⟩) [⟨#[120,55]⟩,⟨#[120,56]⟩]:=λi hi=>by
 have h:=(AtL.new0 w 9 [.string ⟨#[120,55]⟩,.string ⟨#[120,56]⟩]).2.1;have hi2:i=0 \/ i=1:=by simp at hi;omega
 rcases hi2 with rfl | rfl
 ·exact ⟨w.heap.size,0,rfl,h 0 _ rfl⟩
 ·exact ⟨w.heap.size,0,rfl,h 1 _ rfl⟩
theorem RdN.left {A L:List Wt.Nd} (h:RdN w av (A++L)):RdN w av A:=λi hi=>by
 obtain ⟨b,o,e,hc⟩:=h i (by rw [List.length_append];omega);rw [List.getElem_append_left hi] at hc;exact ⟨b,o,e,hc⟩
theorem RdS.left {A:List ByteArray} (h:RdS w av (A++L)):RdS w av A:=λi hi=>by
 obtain ⟨b,o,e,hc⟩:=h i (by rw [List.length_append];omega);rw [List.getElem_append_left hi] at hc;exact ⟨b,o,e,hc⟩
theorem zHu {P:Program} (v:Value) (h0:(Region.wanted o (yielded ops a.tmps)=true/\(execOp a.eval o).run P w=.ok (.value v) w) \/ (Region.wanted o (yielded ops a.tmps)=false/\v=undef)) (h:wpList P ops Q rest (a.put o.dst v) w):wpList P ops Q (o::rest) a w:=by
 rcases h0 with ⟨hw,hr⟩ | ⟨hw,rfl⟩
 ·refine BigFrame.wpList_want hw λK hK=>?_
  unfold Oper.wp;rw [hr];exact hK _ _ h
 ·exact wpList_skip hw h
theorem zPo (w:World):(Instr.buildSlice 22 0 #[]).run prog w=.ok (.slice (some ⟨w.heap.size,0,none⟩) 0 0) (w.alloc (.cells #[] 35)):=by kernel_rfl
theorem zPg (w:World):(Instr.buildSlice 25 0 #[]).run prog w=.ok (.slice (some ⟨w.heap.size,0,none⟩) 0 0) (w.alloc (.cells #[] 9)):=by kernel_rfl
theorem zP4 (w:World):(Instr.buildSlice 25 2 #[(0,.string ⟨#[120,55]⟩),(1,.string ⟨#[120,56]⟩)]).run prog w=.ok (.slice (some ⟨w.heap.size,0,none⟩) 2 2) (w.alloc (.cells #[.string ⟨#[120,55]⟩,.string ⟨#[120,56]⟩] 9)):=by kernel_rfl
section
variable {ops:Array Oper} {rest:List Oper} {op:Oper} {a:Act} {w:World} {Q:Exit->Act->World->Prop}
theorem zFD (hgd:op.guard=none) (ho:op.op=.buildSlice 22 0 #[]) (h:wpList prog ops Q rest (a.put op.dst (.slice (some ⟨w.heap.size,0,none⟩) 0 0)) (w.alloc (.cells #[] 35))):wpList prog ops Q (op::rest) a w:=by
 refine wpList_plain hgd λK hK=>?_
 unfold Oper.wp execOp;simp only [ho,List.map_toArray,List.map_nil,Sem.run_bind,Sem.run_pure,Result.andThen_ok,zPo];exact hK _ _ h
theorem zEq (hgd:op.guard=none) (ho:op.op=.buildSlice 25 0 #[]) (h:wpList prog ops Q rest (a.put op.dst (.slice (some ⟨w.heap.size,0,none⟩) 0 0)) (w.alloc (.cells #[] 9))):wpList prog ops Q (op::rest) a w:=by
 refine wpList_plain hgd λK hK=>?_
 unfold Oper.wp execOp;simp only [ho,List.map_toArray,List.map_nil,Sem.run_bind,Sem.run_pure,Result.andThen_ok,zPg];exact hK _ _ h
theorem zFM (hgd:op.guard=none) (ho:op.op=.buildSlice 25 2 #[(0,.const (.string ⟨#[120,55]⟩)),(1,.const (.string ⟨#[120,56]⟩))]) (h:wpList prog ops Q rest (a.put op.dst (.slice (some ⟨w.heap.size,0,none⟩) 2 2)) (w.alloc (.cells #[.string ⟨#[120,55]⟩,.string ⟨#[120,56]⟩] 9))):wpList prog ops Q (op::rest) a w:=by
 refine wpList_plain hgd λK hK=>?_
 unfold Oper.wp execOp;simp only [ho,List.map_toArray,List.map_cons,List.map_nil,Act.eval,Sem.run_bind,Sem.run_pure,Result.andThen_ok,zP4];exact hK _ _ h
end
theorem zJt (x:Wt.Nd) (w:World):(binOp .neq 35 (ndV x) (ndV x)).run prog w=.ok (.bool false) w:=by
 have h:=zBC x x w;have e:eqN x x=true:=(zBe x x).2 rfl;rw [e] at h;unfold ndV at h ⊢;rw [run_eql_struct] at h;rw [run_neq_struct];revert h
 generalize (Op.equalIn 10000 35 (.agg (zAG x).toArray) (.agg (zAG x).toArray)).run prog w=r;intro h;cases r <;> simp_all [Result.andThen]
theorem zIJ (x:Wt.Nd) (w:World) {a:Operand->Value} {ex ey:Operand} (h1:a ex=.agg (zAG x).toArray) (h2:a ey=.agg (zAG x).toArray) {d:Option Nat} {ty:TypeId} {p:String} {af:Array Edge} {g:Option (Nat × Bool)} :
  (execOp a {dst:=d,op:=.binOp BinOp.neq 35 ex ey 35,type:=ty,pos:=p,after:=af,guard:=g}).run prog w=.ok (.value (.bool false)) w:=by
 unfold execOp;simp only [h1,h2];have h3:=zJt x w;unfold ndV at h3;have h4:(eqGuard .neq 35 ex ey (.agg (zAG x).toArray) (.agg (zAG x).toArray)).run prog w=.ok () w:=by kernel_rfl
 simp only [Sem.run_bind,h3,h4,Result.andThen_ok,Sem.run_pure]
open Go.RowKit Wf
def TosOk (C:List I):Prop:=∀ x ∈ C,x.2.length<=30
theorem TosOk.nil:TosOk []:=λx hx=>by cases hx
theorem TosOk.cons (h:x.2.length<=30) (hC:TosOk C):TosOk (x::C):=λy hy=>by
 rcases List.mem_cons.1 hy with rfl | q
 ·exact h
 ·exact hC y q
theorem TosOk.app {A:List I} (hA:TosOk A) (hC:TosOk C):TosOk (A++C):=λy hy=>by
 rcases List.mem_append.1 hy with q | q
 ·exact hA y q
 ·exact hC y q
theorem TosOk.one (h:x.2.length<=30):TosOk [x]:=TosOk.nil.cons h
section
variable {α:Type} (f:α->Nat->List I)
theorem zBk:∀ (l:List α) (a:Nat),(∀ k ∈ l,∀ a,TosOk (f k a))->TosOk (zAR f l a)
 | [],_,_=>TosOk.nil
 | k::r,a,h=>(h k (by simp) a).app (zBk r _ λx hx=>h x (List.mem_cons_of_mem _ hx))
theorem zIF (e:Int):∀ (l:List α) (a:Nat),(∀ k ∈ l,∀ a,TosOk (f k a))->TosOk (chB f e l a)
 | [],_,_=>TosOk.nil
 | k::r,a,h=>((h k (by simp) _).app (zIF e r _ λx hx=>h x (List.mem_cons_of_mem _ hx))).cons (by simp [ins])
theorem zKP (e:Int) (l:List α) (a:Nat) (h:∀ k ∈ l,∀ a,TosOk (f k a)):TosOk (zAO f e l a):=by
 cases l with
 | nil=>exact TosOk.nil
 | cons k r=>exact (h k (by simp) a).app (zIF f e r _ λx hx=>h x (List.mem_cons_of_mem _ hx))
theorem zGK (k:α) (a:Nat) (h:TosOk (f k a)):TosOk (zAY f k a):=h.app (TosOk.one (by simp [ins]))
end
theorem zHi (own:Int) (nm:List ByteArray):∀ (n:Nat) (t:Tr n) (a:Nat),zAz n t->TosOk (cod own nm n t a)
 | 0,t,_,_=>Empty.elim t
 | n+1,t,a,h=>by
  obtain ⟨x,ks⟩:Br (Tr n):=t;have hx:Wt.right x=true:=h.1;have hp:Wt.parts x=(ks.length:Int):=h.2.1;have hl:ks.length<=30:=by have:=(Wt.parts_le hx).2;omega
  have ih:∀ t ∈ ks,∀ a,TosOk (cod own nm n t a):=λt ht a=>zHi own nm n t a (h.2.2 t ht)
  show TosOk (zAh own nm (hd n) (cod own nm n) x ks a)
  generalize cod own nm n=f at ih ⊢;unfold zAh;split
  ·exact TosOk.one (by simp [zBU])
  split
  ·exact TosOk.one (by simp [zIC])
  split
  ·exact (zBk f ks a ih).app (TosOk.one (by simp [ins]))
  split
  ·exact (zBk f ks a ih).app (TosOk.one (by simp [ins]))
  split
  ·unfold zAg;simp only;split
   ·exact (zBk f ks a ih).app (TosOk.one (by simp [ins]))
   split
   ·refine TosOk.cons (by simp [ins]) (TosOk.app (zBk _ ks _ λk hk a=>?_) (TosOk.one (by simp [ins])));unfold zCA;split
    ·exact TosOk.one (by simp [zAa])
    ·exact zGK f k a (ih k hk a)
   split
   ·unfold zAw;simp only;have iv:∀ t ∈ ks.filter (λk=>!isA (hd n k)),∀ a,TosOk (f t a):=λt ht a=>ih t (List.mem_filter.1 ht).1 a
    split
    ·exact TosOk.one (by simp [zBU])
    split
    ·exact TosOk.one (by simp [zBU])
    split
    ·exact (zBk f _ a iv).app (TosOk.one (by simp [zAa]))
    ·refine TosOk.cons (by simp [ins]) (TosOk.app (zBk _ _ _ λk hk a=>zGK f k a (iv k hk a)) (TosOk.cons ?_ (TosOk.one (by simp [ins]))));split <;> simp [zAa]
   ·cases ks with
    | nil=>exact TosOk.nil
    | cons c r =>
     have ir:∀ t ∈ r,∀ a,TosOk (f t a):=λt ht=>ih t (List.mem_cons_of_mem _ ht)
     have ch:∀ a,TosOk (zCW f r a):=λa=>by
      rw [zCG];refine TosOk.cons ?_ (zKP f _ r _ ir);simp only [zFB];simp at hl;omega
     simp only [zAr];refine (ih c (by simp) a).app ?_;cases r with
     | nil =>
      simp only;split
      ·exact ch _
      ·exact TosOk.nil
     | cons u no =>
      simp only;split
      ·unfold zC5;simp only;refine TosOk.cons (by simp [ins]) ((ir u (by simp) _).app (TosOk.cons (by simp [ins]) ?_));split
       ·exact TosOk.one (by simp [zBU])
       ·exact zBk f no _ λt ht=>ir t (List.mem_cons_of_mem _ ht)
      split
      ·exact (ir u (by simp) _).cons (by simp [ins])
      ·exact ch _
  ·exact TosOk.nil
theorem zNP (own:Int) (nm:List ByteArray) (n:Nat) (t:Tr n) (h:zAz n t):∀ x ∈ flC own nm n t,x.2.length<=1000000:=λx hx=>by
 have:=(zHi own (nm.take 16) n t 0 h).app (TosOk.one (x:=ins 16 0 0) (by simp [ins])) x hx;omega
open Go.RowKit
theorem zF5 (s r c:Int):Wpl.hullOk (λ_=>⟨s,r,c⟩) 1=Wpl.rightC s r c:=by
 simp [Wpl.hullOk,Wpl.anyN,Wpl.lacks]
def zE6 (s r c:Int):Wpl.Ar:=if Wpl.rightC s r c then ⟨s,r,c,r,c⟩ else Wpl.nullA
theorem zMs (s r c:Int):Wpl.hullV (λ_=>⟨s,r,c⟩) 1=zE6 s r c:=by
 unfold Wpl.hullV zE6;rw [zF5];rfl
theorem zHg {W:World} {s r c:Int} (h:AtL W k [.int .i64 s,.int .i64 r,.int .i64 c]):Cells W k 0 1 (λ_=>⟨s,r,c⟩):=λj hj=>by
 obtain rfl:j=0:=by omega
 exact ⟨h.2.1 0 _ rfl,h.2.1 1 _ rfl,h.2.1 2 _ rfl⟩
theorem zGn (s r c:Int) (w:World) :
  CR 71 #[.agg #[.int .i64 s,.int .i64 r,.int .i64 c]] w (.tuple #[.agg #[.int .i64 (zE6 s r c).s,.int .i64 (zE6 s r c).t,.int .i64 (zE6 s r c).l,.int .i64 (zE6 s r c).b,.int .i64 (zE6 s r c).r],.bool (Wpl.rightC s r c)]):=by
 have HL:=λ(k:Nat) (w:World) (hk:AtL w k [.int .i64 s,.int .i64 r,.int .i64 c])=>zFm k 0 1 1 (λ_=>⟨s,r,c⟩) w (by omega) (by omega) (by omega) (by omega) hk.lt (zHg hk)
 simp only [zF5,zMs] at HL;generalize zE6 s r c=V at *;generalize Wpl.rightC s r c=ok at *;obtain ⟨v0,v1,v2,v3,v4⟩:=V;go_enter func71,ntmps71;go_wp2_with fail
 refine (HL _ _ (by with_reducible first | exact AtL.new0 _ _ _ | exact AtL.new1 _ _ _ _ | exact AtL.new ((w.alloc _).alloc _) _ (by simp only [World.size_alloc]) _)).mono ?_;rintro e w1 ⟨rfl,hb1⟩;have pR:AtL w1 (w.heap.size+1) [.int .i64 0,.int .i64 0,.int .i64 0,.int .i64 0,.int .i64 0]:=AtL.below hb1 ((AtL.new1 w _ _ _).alloc _);have hB:Below w.heap.size w w1:=clA
 clear hb1;obtain ⟨r0,r1,r2,r3,r4,f0,f1,f2,f3,f4⟩:=pR.five;go_wp2;refine bodyPost_ret (v:=.tuple #[.agg #[.int .i64 v0,.int .i64 v1,.int .i64 v2,.int .i64 v3,.int .i64 v4],.bool ok]) (by simp [results,results71,go_sem,r0,r1,r2,r3,r4]) rfl ⟨rfl,?_⟩;exact zBt hB (by omega) _ _ _ _ _
open Go.ChangeMaps (setBlock heap_setBlock_same heap_setBlock_other)
open Go.ChangeShapes Go.WideShapes Go.MapKept
abbrev zB3 (x:Wpl.Ar):List Value:=[.int .i64 x.s,.int .i64 x.t,.int .i64 x.l,.int .i64 x.b,.int .i64 x.r]
abbrev arV (x:Wpl.Ar):Value:=.agg #[.int .i64 x.s,.int .i64 x.t,.int .i64 x.l,.int .i64 x.b,.int .i64 x.r]
def rdA (x:Wc.In):List Wpl.Ar:=if x.op=2 then [zE6 x.ce.s x.ce.r x.ce.c] else if x.op=8 \/ x.op=11 then [x.ar] else if x.op=9 then [x.ar,x.pr] else []
def ddA (out:List Wpl.Ar):List Wpl.Ar->List Wpl.Ar
 | []=>out
 | a::r=>if out.any (λy=>zCN y a)=true then ddA out r else ddA (out++[a]) r
theorem zMw (A C:List Wpl.Ar):∀ (out:List Wpl.Ar),ddA out (A++C)=ddA (ddA out A) C:=by
 induction A with
 | nil=>intro out;rfl
 | cons a r ih =>
  intro out;simp only [List.cons_append,ddA];split
  ·exact ih _
  ·exact ih _
theorem zEd:∀ (A out:List Wpl.Ar),(ddA out A).length<=out.length+A.length
 | [],out=>Nat.le_refl _
 | a::r,out=>by
  simp only [ddA];split
  ·have:=zEd r out;simp;omega
  ·have:=zEd r (out++[a]);simp at this ⊢;omega
def zD2 (L:List (Wc.In × List Int)):List Wpl.Ar:=L.flatMap λx=>rdA x.1
theorem zH8 (x:Wc.In):(rdA x).length<=2:=by
 unfold rdA;repeat' split
 all_goals simp
theorem zFg:∀ (L:List (Wc.In × List Int)),(zD2 L).length<=2 * L.length
 | []=>Nat.le_refl _
 | x::r=>by
  have h1:=zFg r;have h2:=zH8 x.1;unfold zD2 at h1 ⊢;simp only [List.flatMap_cons,List.length_append,List.length_cons];omega
theorem zHO {L:List (Wc.In × List Int)} {i:Nat} (h:i<L.length):zD2 (L.take (i+1))=zD2 (L.take i)++rdA (L[i]).1:=by
 unfold zD2;rw [List.take_succ_eq_append_getElem h,List.flatMap_append];simp
def zGx:Nat->List Wpl.Ar->List MapEntry
 | _,[]=>[]
 | i,x::r=>⟨arV x,.agg #[],i⟩::zGx (i+1) r
theorem zFz:∀ (F:List Wpl.Ar) (i:Nat) (x:Wpl.Ar),zGx i (F++[x])=zGx i F++[⟨arV x,.agg #[],i+F.length⟩]
 | [],i,x=>rfl
 | y::r,i,x=>by
  show _::zGx (i+1) (r++[x])=_::(zGx (i+1) r++_)
  rw [zFz r (i+1) x];have e:i+1+r.length=i+(r.length+1):=by omega
  rw [e];rfl
def AM (w:World) (b:Nat) (F:List Wpl.Ar):Prop:=∃ es:Array MapEntry,w.heap[b]? = some (.map es F.length)/\es.toList=zGx 0 F
theorem AM.lt (h:AM w b F):b<w.heap.size:=by
 obtain ⟨es,h,_⟩:=h;rcases Nat.lt_or_ge b w.heap.size with g | g
 ·exact g
 ·rw [Array.getElem?_eq_none g] at h;cases h
theorem AM.fr (h:AM w b F) (hf:Fr S w w') (hn:b ∉ S):AM w' b F:=by
 have hlt:=h.lt;obtain ⟨es,h1,h2⟩:=h;exact ⟨es,by rw [hf.block b hlt hn];exact h1,h2⟩
theorem AM.below (h:AM w b F) (hb:Below w.heap.size w w'):AM w' b F:=h.fr (Fr.of_below [] hb) (by simp)
theorem zPF (em:Bool) (x:Wpl.Ar) (w:World):(Instr.checkKey em 10000 53 (arV x)).run prog w=.ok () w:=by kernel_rfl
theorem zMP (x y:Wpl.Ar) (w:World):(Op.equal 53 (arV x) (arV y)).run prog w=.ok (zCN x y) w:=by
 show (Op.equalIn (9998+2) 53 _ _).run _ _=_
 unfold zCN;by_cases h1:x.s=y.s
 ·by_cases h2:x.t=y.t
  ·by_cases h3:x.l=y.l
   ·by_cases h4:x.b=y.b
    ·by_cases h5:x.r=y.r
     ·simp [go_sem,h1,h2,h3,h4,h5]
     ·simp [go_sem,h1,h2,h3,h4,h5]
    ·simp [go_sem,h1,h2,h3,h4]
   ·simp [go_sem,h1,h2,h3]
  ·simp [go_sem,h1,h2]
 ·simp [go_sem,h1]
theorem zJB (x y:Wpl.Ar):zCN x y=zCN y x:=by
 rw [Bool.eq_iff_iff,zGJ,zGJ];exact ⟨λh=>h.symm,λh=>h.symm⟩
theorem zOQ (x:Wpl.Ar) (w:World):∀ (F:List Wpl.Ar) (i:Nat),(Instr.findAsking 53 (arV x) (zGx i F) i).run prog w=.ok ((F.findIdx? (λy=>zCN y x)).map λk=>(i+k,Value.agg #[])) w
 | [],i=>rfl
 | y::r,i=>by
  have h:=zOQ x w r (i+1);have e:=zMP x y w;rw [zJB] at e;unfold zGx;rw [List.findIdx?_cons];cases hq:zCN y x with
  | true =>
   rw [hq] at e;simp [Instr.findAsking,e,Result.andThen]
  | false =>
   rw [hq] at e;simp [Instr.findAsking,e,Result.andThen,h];cases r.findIdx? (λy=>zCN y x) with
   | none=>rfl
   | some k =>
    simp;omega
theorem zPD (x:Wpl.Ar) (F:List Wpl.Ar) (w:World):(Instr.findKey 53 (arV x) (zGx 0 F)).run prog w=.ok ((F.findIdx? (λy=>zCN y x)).map λk=>(k,Value.agg #[])) w:=by
 have h:=zOQ x w F 0;cases F with
 | nil=>simp [Instr.findKey,go_sem,zGx,Instr.findNow]
 | cons y r =>
  simp [Instr.findKey,go_sem,zGx,Instr.findNow,Instr.sameNow];simpa [zGx] using h
theorem zLv:prog.underlying 84=some (.map 53 86):=by kernel_rfl
theorem zDb (F:List Wpl.Ar) (x:Wpl.Ar):F.findIdx? (λy=>zCN y x)=none ↔ F.any (λy=>zCN y x)=false:=by
 rw [List.findIdx?_eq_none_iff,List.any_eq_false];exact ⟨λh y hy=>by simp [h y hy],λh y hy=>by simpa using h y hy⟩
theorem zOy (h:AM w mb F) (x:Wpl.Ar):(Instr.lookup 84 (.map (some mb)) (arV x) true).run prog w=.ok (.tuple #[.agg #[],.bool (F.any (λy=>zCN y x))]) w:=by
 obtain ⟨es,h1,h2⟩:=h;cases hk:F.findIdx? (λy=>zCN y x) with
 | none =>
  rw [(zDb F x).1 hk];refine zCn zLv h1 (zPF _ _ _) ?_ (by kernel_rfl);rw [h2,zPD,hk];rfl
 | some k =>
  have:F.any (λy=>zCN y x)=true:=by
   cases q:F.any (λy=>zCN y x) with
   | true=>rfl
   | false=>rw [(zDb F x).2 q] at hk;cases hk
  rw [this];refine zA3 (j:=k) zLv h1 (zPF _ _ _) ?_;rw [h2,zPD,hk];rfl
theorem zPB (h:AM w mb F) {x:Wpl.Ar} (hk:F.any (λy=>zCN y x)=false):∃ w',(Instr.mapUpdate 84 (.map (some mb)) (arV x) (.agg #[])).run prog w=.ok () w'/\AM w' mb (F++[x])/\w.grownBy w' (some mb):=by
 obtain ⟨es,h1,h2⟩:=h;refine ⟨_,zEn zLv h1 _ (zPF _ _ _) (by rw [h2,zPD,(zDb F x).2 hk];rfl),⟨es.push ⟨arV x,.agg #[],F.length⟩,?_,?_⟩,zBf h1 _⟩
 ·rw [heap_setBlock_same h1,List.length_append];rfl
 ·rw [Array.toList_push,h2,zFz];simp
theorem zDh (hgd:op.guard=none) (m x v:Operand) (ho:op.op=.mapUpdate 84 m x v) (b:Nat) (hm:a.eval m=.map (some b)) (y:Wpl.Ar) (hx:a.eval x=arV y) (hv:a.eval v=.agg #[])
  (F:List Wpl.Ar) (hb:AM w b F) (hk:F.any (λz=>zCN z y)=false) (h:∀ w',AM w' b (F++[y])->w.grownBy w' (some b)->wpList prog ops Q rest (a.put op.dst (.tuple #[])) w'):wpList prog ops Q (op::rest) a w:=by
 obtain ⟨w',e,hA,hg⟩:=zPB hb hk;refine wpList_plain hgd λK hK=>?_
 unfold Oper.wp execOp;simp only [ho,hm,hx,hv,Sem.run_bind,Sem.run_pure,Result.andThen_ok,e];exact hK _ _ (h w' hA hg)
def zBQ:List Wpl.Ar->List Value
 | []=>[]
 | x::r=>zB3 x++zBQ r
theorem zE0:∀ A:List Wpl.Ar,(zBQ A).length=A.length * 5
 | []=>rfl
 | x::r=>by simp [zBQ,zE0 r];omega
theorem zET:∀ (A C:List Wpl.Ar),zBQ (A++C)=zBQ A++zBQ C
 | [],C=>rfl
 | x::r,C=>by simp [zBQ,zET r C]
theorem zDv:∀ (A:List Wpl.Ar),∀ v ∈ zBQ A,v.oneCell'=true
 | [],v,h=>by cases h
 | x::r,v,h=>by
  simp only [zBQ,zB3,List.mem_append,List.mem_cons,List.not_mem_nil,or_false] at h;rcases h with (rfl | rfl | rfl | rfl | rfl) | h
  ·rfl
  ·rfl
  ·rfl
  ·rfl
  ·rfl
  ·exact zDv r v h
theorem zE2:∀ (A:List Wpl.Ar) (i j:Nat) (h:i<A.length),j<5->(zBQ A)[i * 5+j]? = (zB3 (A[i]))[j]?
 | x::r,0,j,_,hj=>by
  show (zB3 x++zBQ r)[0 * 5+j]? = _
  rw [List.getElem?_append_left (by simp;omega)];simp
 | x::r,i+1,j,h,hj=>by
  have ih:=zE2 r i j (by simpa using h) hj;show (zB3 x++zBQ r)[(i+1) * 5+j]? = _
  rw [List.getElem?_append_right (by simp;omega)];have e:(i+1) * 5+j - (zB3 x).length=i * 5+j:=by simp;omega
  rw [e,ih];rfl
def OwnA (w:World) (B:Nat) (v:Value) (A:List Wpl.Ar):Prop:=w.ownsRow B 53 5 v A.length (zBQ A)
theorem OwnA.nil (w:World) (B:Nat):OwnA w B (.slice none 0 0) []:=⟨rfl,Or.inl ⟨rfl,rfl⟩⟩
theorem OwnA.blk (h:OwnA w B v A) {g:Nat} (e:v.ownBlock=some g):B<=g/\g<w.heap.size:=zAK h e
theorem OwnA.below (h:OwnA w B v A) (hb:Below w.heap.size w w'):OwnA w' B v A:=zAW (Fr.of_below [] hb) h (by simp)
def RdA (w:World) (v:Value) (A:List Wpl.Ar):Prop:=∃ av cap,v=.slice av A.length cap/\∀ i (h:i<A.length),∃ bb off,av=some ⟨bb,off,none⟩/\w.rangeAt bb (off+i * 5) (zB3 (A[i]))
theorem RdA.below (h:RdA w v A) (hb:Below w.heap.size w w'):RdA w' v A:=by
 obtain ⟨av,cap,e,h⟩:=h;refine ⟨av,cap,e,λi hi=>?_⟩;obtain ⟨bb,off,e1,h1⟩:=h i hi;exact ⟨bb,off,e1,λj v hv=>zAC hb (h1 j v hv)⟩
theorem RdA.nil (w:World):RdA w (.slice none 0 0) []:=⟨none,0,rfl,λi hi=>absurd hi (Nat.not_lt_zero _)⟩
theorem RdA.at0 {cap:Nat} (h:∀ j u,(zBQ A)[j]? = some u->w.cell? ⟨b,j,none⟩=some u):RdA w (.slice (some ⟨b,0,none⟩) A.length cap) A:=by
 refine ⟨_,_,rfl,λi hi=>⟨b,0,rfl,λj u hu=>?_⟩⟩;have hj:j<5:=by
  rcases Nat.lt_or_ge j 5 with q | q
  ·exact q
  ·rw [List.getElem?_eq_none (by simpa using q)] at hu;cases hu
 rw [Nat.zero_add];exact h _ _ (by rw [zE2 A i j hi hj];exact hu)
theorem zJU:(prog.info? 53).map (λi=>(i.zero,i.size,i.bytes))=some (some (.agg #[.int .i64 0,.int .i64 0,.int .i64 0,.int .i64 0,.int .i64 0]),5,40):=by kernel_rfl
theorem zDl {ops:Array Oper} {rest:List Oper} {a:Act} {Q:Exit->Act->World->Prop} (hgd:o.guard=none) (s x:Operand) (ho:o.op=.call {callee:=.builtin .append,args:=#[s,x],argTypes:=#[47,47]})
  (w:World) (B:Nat) (hB:B<=w.heap.size) (v:Value) (A:List Wpl.Ar) (hs:a.eval s=v) (hown:OwnA w B v A) (g n:Nat) (L:List Wpl.Ar) (hn:n=L.length) (hx:a.eval x=.slice (some ⟨g,0,none⟩) n n) (hat:AtL w g (zBQ L)) (hl:A.length+L.length<=4000000)
  (h:∀ v' w',OwnA w' B v' (A++L)->w.grownBy w' v.ownBlock->wpList prog ops Q rest (a.put o.dst v') w'):wpList prog ops Q (o::rest) a w:=by
 subst hn;obtain ⟨i0,hi0,hz0,hz1,hz2⟩:=info_parts zJU;refine wpList_plain hgd λK hK=>?_
 refine wp_append_own _ s x 47 ho B 53 i0 _ 5 40 underlying47 hi0 hz0 hz1 hz2 rfl (by decide) v A.length (zBQ A) hs hown ⟨g,0,none⟩ L.length L.length (zBQ L) hx (zE0 L) (λj u hj=>?_) (zDv L) (by unfold maxLen;omega) (by omega) hB ?_
 ·have:=hat.2.1 j u hj;rw [show (⟨g,0,none⟩:Addr).add j=⟨g,j,none⟩ from by
   simp [Addr.add];try (intro h0;omega)]
  exact this
 ·intro v' w' own hg _;refine hK _ _ (h v' w' ?_ hg);unfold OwnA;rw [List.length_append,zET];exact own
theorem zAu (i:Nat) (x:Wc.In) (tl:List Int) (M:List (Option (Int × Nat))) (F:List (Nat × Int)):Wc.spI i (x,tl) (M,F)=match M.getD i none with
  | none=>none
  | some (v,m)=>match zFY F x v m with
   | none=>none
   | some (h2,F2)=>match Wc.handP h2 (onw x.op x.a x.b tl i).1 M with
    | none=>none
    | some M1=>match Wc.handP (v,m) (onw x.op x.a x.b tl i).2 M1 with
     | none=>none
     | some M2=>some (M2,F2):=by
 unfold Wc.spI Wc.stepP zFY;simp only;cases M.getD i none with
 | none=>rfl
 | some q =>
  obtain ⟨v,m⟩:=q;simp only;cases Wc.behF F x.op x.a m with
  | none=>rfl
  | some q =>
   obtain ⟨m2,F2⟩:=q;simp only;split
   ·rfl
   ·rfl
theorem zKd {F:List (Nat × Int)} {o a:Int} {m2:Nat} {F2:List (Nat × Int)} (h:Wc.behF F o a m=some (m2,F2)):F2.length<=F.length+1:=by
 unfold Wc.behF at h;repeat' split at h
 all_goals first
  | cases h;done
  | (cases h;simp)
theorem zOI {F:List (Nat × Int)} (hr:Wc.Rows F) {o a:Int} {m m2:Nat} {F2:List (Nat × Int)} (hm:m<=F.length) (h:Wc.behF F o a m=some (m2,F2)):Wc.Beh F o a m m2 F2:=by
 cases hb:Wc.bst o (Wc.rw0 F m) with
 | false=>rw [Wc.beh_none hr hm hb] at h;cases h
 | true =>
  obtain ⟨m3,F3,h3,B⟩:=Wc.beh_some (a:=a) hr hm hb;rw [h] at h3;cases h3
  exact B
structure PInv (i:Nat) (M:List (Option (Int × Nat))) (F:List (Nat × Int)):Prop where
 len:F.length<=i
 rows:Wc.Rows F
 zero:M.getD 0 none=some (0,0)
 at':∀ (j:Nat) (v:Int) (m:Nat),M.getD j none=some (v,m)->0<=v/\v<=i/\m<=F.length
theorem zEE {α:Type} (l:List (Option α)) (i j:Nat) (x:Option α):(l.set i x).getD j none=if i=j/\i<l.length then x else l.getD j none:=by
 by_cases hi:i<l.length
 ·rw [Wc.getD_set l i j x hi];by_cases h:i=j
  ·simp [h,h ▸ hi]
  ·simp [h]
 ·rw [List.set_eq_of_length_le (by omega),if_neg (by omega)]
theorem zDy {h:Int × Nat}:∀ (pl:List Int) (M M2:List (Option (Int × Nat))),Wc.handP h pl M=some M2->(∀ j ∈ pl,0<j)->M2.getD 0 none=M.getD 0 none/\∀ (j:Nat) (g:Int × Nat),M2.getD j none=some g->g=h \/ M.getD j none=some g:=by
 intro pl;induction pl with
 | nil =>
  intro M M2 e _;cases e
  exact ⟨rfl,λj g q=>Or.inr q⟩
 | cons p r ih =>
  intro M M2 e hp;have hp0:=hp p (List.mem_cons_self ..);have hr:∀ j ∈ r,0<j:=λj hj=>hp j (List.mem_cons_of_mem _ hj)
  have key:Wc.handP h r (M.set p.toNat (some h))=some M2->M2.getD 0 none=M.getD 0 none/\∀ (j:Nat) (g:Int × Nat),M2.getD j none=some g->g=h \/ M.getD j none=some g:=by
   intro e2;obtain ⟨h1,h2⟩:=ih _ _ e2 hr;refine ⟨by rw [h1,zEE,if_neg (by omega)],λj g q=>?_⟩;rcases h2 j g q with q2 | q2
   ·exact Or.inl q2
   ·rw [zEE] at q2;split at q2
    ·exact Or.inl (by cases q2;rfl)
    ·exact Or.inr q2
  simp only [Wc.handP] at e;split at e
  ·exact key e
  ·split at e
   ·exact key e
   ·cases e
theorem zOF {x:Wc.In} {tl:List Int} (h:rgt x tl=true):0<=(Wc.swO x.op x.b).1/\(Wc.swO x.op x.b).1<=1000/\0<=(Wc.swO x.op x.b).2/\(Wc.swO x.op x.b).2<=1:=by
 by_cases h5:x.op=5
 ·rw [zOP h5,Bool.and_eq_true] at h;have ha:=h.1;unfold apl at ha;simp only [Bool.and_eq_true,decide_eq_true_eq] at ha;have hb:0<=(zAJ x.a).l/\(zAJ x.a).m<=30:=by
   unfold zAJ;split
   ·exact ⟨by decide,by decide⟩
   ·split
    ·unfold zHl;repeat' split
     all_goals exact ⟨by decide,by decide⟩
    ·split
     ·unfold zJR;repeat' split
      all_goals exact ⟨by decide,by decide⟩
     ·unfold zIB;repeat' split
      all_goals exact ⟨by decide,by decide⟩
  have hs:Wc.swO x.op x.b=(x.b,1):=by simp [Wc.swO,h5]
  rw [hs];simp only;omega
 ·by_cases h11:x.op=11
  ·rw [zLe h11,Bool.and_eq_true,Bool.and_eq_true] at h;have hb:=h.1.2;simp only [Bool.or_eq_true,beq_iff_eq] at hb;have hs:Wc.swO x.op x.b=(x.b,1):=by simp [Wc.swO,h11]
   rw [hs];simp only;omega
  ·unfold Wc.swO;rw [if_neg (show ¬ (x.op=5 \/ x.op=11) by omega)];repeat' split
   all_goals exact ⟨by decide,by decide,by decide,by decide⟩
