/- KFrom, KBnd. -/
import Derived.Test.YtefkclbaflkheaaGreatDoorQ38
set_option maxHeartbeats 4000000
set_option maxRecDepth 100000
namespace Go.Proofs.YtefkclbaflkheaaGreatDoor
open Tryz
open Go.RowKit
set_option linter.unusedVariables false
variable {w w':World} {n ab:Nat} {D:BD}
theorem fr_one {mk i1:Nat} {v1:Value}:Fr [mk] w (w.setCell ⟨mk,i1,none⟩ v1) :=
 Fr.of_grown (zAL _ _ _ _) (λk e=>by cases e;simp)
structure AtD (w:World) (ab n:Nat) (D:BD):Prop where
 len:D.length=n
 at':∀ j:Nat,j<n->w.cell? ⟨ab,j * 2,none⟩=some (.int .i64 (bat D (j:Int)).1)/\w.cell? ⟨ab,j * 2+1,none⟩=some (.int .i64 (bat D (j:Int)).2)
theorem AtD.fr {S:List Nat} (h:AtD w ab n D) (hf:Fr S w w') (hn:ab ∉ S):AtD w' ab n D:=⟨h.len,λj hj=>⟨hf.cell (h.at' j hj).1 hn,hf.cell (h.at' j hj).2 hn⟩⟩
theorem AtD.below (h:AtD w ab n D) (hb:Below w.heap.size w w'):AtD w' ab n D:=h.fr (Fr.of_below [] hb) (by simp)
theorem zIM (x:Wc.In) (p:Option Addr) (mm kk:Nat) (tl:List Int) (i n ab c:Nat) (D:BD) (w:World) (hz:RdZ w (.slice p mm kk) tl) (hnp:Np (.slice p mm kk)) (htl:tl.length<=1000000) (hi:i<=1000000) (hD:AtD w ab n D) (hI:BInv c D) (hc:c<=1000000)
  (hnx:∀ j ∈ (onw x.op x.a x.b tl i).1++(onw x.op x.a x.b tl i).2,0<=j/\j<(n:Int)) :
  CR 39 #[.agg (zAD x (.slice p mm kk)).toArray,.int .i64 (i:Int),.slice (some ⟨ab,0,none⟩) n n] w (.agg #[.int .i64 (zCK x ((onw x.op x.a x.b tl i).1++(onw x.op x.a x.b tl i).2) D).1,.int .i64 (zCK x ((onw x.op x.a x.b tl i).1++(onw x.op x.a x.b tl i).2) D).2]):=by
 obtain ⟨u,hu⟩:∃ u,onw x.op x.a x.b tl i=u:=⟨_,rfl⟩
 have HUL:=zCe (o:=x.op) (a:=x.a) (b:=x.b) (at':=i) htl;have HOW:Hid (∀ W:World,Below w.heap.size w W->Calls prog 63 #[.agg (zAD x (.slice p mm kk)).toArray,.int .i64 (i:Int)] W λe w'=>OnQ W (.slice p mm kk) w' u e/\Below W.heap.size W w'):=λW hb=>by
  have:=zIt x p mm kk tl i W ⟨by omega,by omega⟩ (hz.below hb) hnp;rw [hu] at this;exact this
 rw [hu] at hnx HUL ⊢;obtain ⟨u1,u2⟩:=u;simp only at hnx HUL ⊢;have HUL2:Hid (u1.length<=1000000/\u2.length<=1000000):=HUL;obtain ⟨nx,hnxe⟩:∃ l,u1++u2=l:=⟨_,rfl⟩
 have HNX:Hid (u1++u2=nx):=hnxe;rw [hnxe] at hnx ⊢;obtain ⟨sv,hsv⟩:∃ s,zCK x nx D=s:=⟨_,rfl⟩
 have HSV:Hid (zCK x nx D=sv):=hsv;rw [hsv];have HD:Hid (AtD w ab n D):=hD;have HI:Hid (BInv c D):=hI;have HC:Hid (c<=1000000):=hc;have HR:Hid (∀ j ∈ nx,0<=j/\j<(n:Int)):=hnx;have hb0:=zAK (zAK (Below.refl _ w) (.cells (zAD x (.slice p mm kk)).toArray 56)) (.cells #[.int .i64 0,.int .i64 0] 90);have pI:=(AtL.new0 w 56 (zAD x (.slice p mm kk))).alloc (.cells #[.int .i64 0,.int .i64 0] 90);have pR:=AtL.new1 w (.cells (zAD x (.slice p mm kk)).toArray 56) 90 [.int .i64 0,.int .i64 0];clear hu hnxe hsv hz hnp htl hi hD hI hc hnx HUL;go_enter func39,ntmps39;go_upto_region 1 with fail
 generalize ((w.alloc (.cells (zAD x (.slice p mm kk)).toArray 56)).alloc (.cells [.int .i64 0,.int .i64 0].toArray 90))=W0 at *;have OW:=HOW.out W0 hb0;have rI:=pI.range;go_wp2_with (first | (refine zAA (by rfl) 56 (.tmp 3) rfl w.heap.size 0 rfl (zAD x (.slice p mm kk)) _ rI underlying56 rfl (by kernel_rfl) ?_))
 refine OW.mono ?_;rintro e w1 ⟨⟨cv,kv,rfl,z1,z2,_,_,n1,n2⟩,hb1⟩;replace pI:=AtL.below hb1 pI
 replace pR:=AtL.below hb1 pR
 have hB1:=zAB hb0 hb1;obtain ⟨a1,c1,e1,_⟩:=id z1;obtain ⟨a2,c2,e2,_⟩:=id z2;have hbs:=zAK (Below.refl _ w1) (.cells #[cv,kv] 54);have HCO:Hid (Calls prog 72 #[.slice (some ⟨w1.heap.size,0,none⟩) 2 2] (w1.alloc (.cells #[cv,kv] 54)) λe w'=>(∃ r,e=.returned r/\OwnZ w' (w1.alloc (.cells #[cv,kv] 54)).heap.size r nx)/\Below (w1.alloc (.cells #[cv,kv] 54)).heap.size (w1.alloc (.cells #[cv,kv] 54)) w'):=by
  have:=zEw u1 u2 cv kv w1.heap.size (w1.alloc (.cells #[cv,kv] 54)) (z1.below hbs) (z2.below hbs) n1 n2 HUL2.out.1 HUL2.out.2 (AtL.new0 w1 54 [cv,kv]);rw [HNX.out] at this;exact this
 replace pI:=AtL.below hbs pI
 replace pR:=AtL.below hbs pR
 have hB2:=zAB hB1 hbs;clear z1 z2 n1 n2 OW HOW rI hb0 hb1 hB1 hbs;simp only at e1 e2;subst e1;subst e2;go_wp2_with fail
 refine HCO.out.mono ?_;rintro e w3 ⟨⟨r,rfl,own⟩,hb3⟩;replace pI:=AtL.below hb3 pI
 replace pR:=AtL.below hb3 pR
 have hB3:=zAB hB2 hb3;have HD3:Hid (AtD w3 ab n D):=HD.out.below hB3;have HO3:Hid (OwnZ w3 (w1.alloc (.cells #[.slice a1 u1.length c1,.slice a2 u2.length c2] 54)).heap.size r nx):=own;clear HCO own hb3 hB2;cases nx with
 | nil =>
  have HE:Hid (sv=(1,1)):=by show _=_;rw [<-HSV.out];rfl
  obtain ⟨ra,rc,er,_⟩:=HO3.out.rd;subst er;have k0:=pR.2.1 0 _ rfl;have k1:=pR.2.1 1 _ rfl;have z0:=pR.2.2 0 (by simp);have z1:=pR.2.2 1 (by simp);have pF:AtL (w3.setCells (w.heap.size+1) 0 [.int .i64 1,.int .i64 1]) (w.heap.size+1) [.int .i64 1,.int .i64 1]:=pR.setAll rfl;have HPF:Hid (((w3.setCell ⟨w.heap.size+1,0,none⟩ (.int .i64 1)).setCell ⟨w.heap.size+1,1,none⟩ (.int .i64 1)).rangeAt (w.heap.size+1) 0 [.int .i64 1,.int .i64 1]):=pF.range;have HBF:Hid (Below w.heap.size w ((w3.setCell ⟨w.heap.size+1,0,none⟩ (.int .i64 1)).setCell ⟨w.heap.size+1,1,none⟩ (.int .i64 1))):=zAa (k:=w.heap.size+1) hB3 (by omega) [.int .i64 1,.int .i64 1] 0;clear pF pI pR;go_wp2;refine bodyPost_ret (zAm (by rfl) _ _ (w.heap.size+1) [.int .i64 1,.int .i64 1] _ (by rfl) HPF.out underlying90 rfl (by kernel_rfl)) rfl ⟨by rw [HE.out],HBF.out⟩
 | cons j rr =>
  obtain ⟨hj0,hjn⟩:=HR.out j (List.mem_cons_self ..);obtain ⟨jn,rfl⟩:∃ jn:Nat,j=(jn:Int):=⟨j.toNat,by omega⟩
  obtain ⟨g,cap,er,hcp,hgB⟩:∃ g cap,r=.slice (some ⟨g,0,none⟩) (rr.length+1) cap/\rr.length+1<=cap/\(w1.alloc (.cells #[.slice a1 u1.length c1,.slice a2 u2.length c2] 54)).heap.size<=g:=by
   rcases HO3.out.2 with ⟨_,h0⟩ | ⟨g,cap,cur,e,hb,_,hc,_⟩
   ·simp at h0
   ·exact ⟨g,cap,by rw [e];simp,by simpa using hc,hb⟩
  subst er;have HRZ:Hid (RdZ w3 (.slice (some ⟨g,0,none⟩) (rr.length+1) cap) ((jn:Int)::rr)):=by show RdZ _ _ _;have:=HO3.out.rd;simpa using this
  have hcell:∀ (W:World),RdZ W (.slice (some ⟨g,0,none⟩) (rr.length+1) cap) ((jn:Int)::rr)->W.cell? ⟨g,0,none⟩=some (.int .i64 (jn:Int))/\∀ (k:Nat) (hk:k<rr.length),W.cell? ⟨g,1+k,none⟩=some (.int .i64 (rr[k])):=by
   intro W hW;obtain ⟨x1,x2,x3,x4⟩:=hW;simp only [Value.slice.injEq] at x3;refine ⟨?_,λk hk=>?_⟩
   ·obtain ⟨x5,x6,x7,x8⟩:=x4 0 (by simp);rw [<-x3.1] at x7;cases x7
    exact x8
   ·obtain ⟨x5,x6,x7,x8⟩:=x4 (k+1) (by simp;omega);rw [<-x3.1] at x7;cases x7
    rw [show (0:Nat)+(k+1)=1+k by omega] at x8;exact x8
  have HCE:Hid _:=hcell;have c0:=(hcell w3 HRZ.out).1;have hjl:(jn:Int)<(n:Int):=hjn;have hjz:(0:Int)<=(jn:Int):=hj0;have d0:=(HD3.out.at' jn (by omega)).1;have d1:=(HD3.out.at' jn (by omega)).2;have hz1:¬ ((rr.length:Int)+1=0):=by omega
  have hz2:(((rr.length:Int)+1) == 0)=false:=by simp;omega
  have hz3:(0:Int)<(rr.length:Int)+1:=by omega
  have HLR:Hid (rr.length<=2000000):=by show _<=_;have h1:=HUL2.out;have h2:=congrArg List.length HNX.out;simp at h2;omega
  clear hcell hj0 hjn;have hgB2:g<w3.heap.size:=zAV c0;have habB:ab<w3.heap.size:=zAV d0;have hrB:w.heap.size+1<w3.heap.size:=pR.lt;go_upto_region 6 with fail
  have pB:=AtL.new0 w3 90 [.int .i64 (bat D (jn:Int)).1,.int .i64 (bat D (jn:Int)).2];have hbB:=zAK (Below.refl _ w3) (.cells #[.int .i64 (bat D (jn:Int)).1,.int .i64 (bat D (jn:Int)).2] 90);have HB4:Hid (Below w.heap.size w (w3.alloc (.cells #[.int .i64 (bat D (jn:Int)).1,.int .i64 (bat D (jn:Int)).2] 90))):=zAB hB3 hbB;have HD4:Hid (AtD (w3.alloc (.cells #[.int .i64 (bat D (jn:Int)).1,.int .i64 (bat D (jn:Int)).2] 90)) ab n D):=HD3.out.below hbB;have HC4:Hid (∀ (k:Nat) (hk:k<rr.length),(w3.alloc (.cells #[.int .i64 (bat D (jn:Int)).1,.int .i64 (bat D (jn:Int)).2] 90)).cell? ⟨g,1+k,none⟩=some (.int .i64 (rr[k]))):=λk hk=>zAC hbB ((HCE.out w3 HRZ.out).2 k hk)
  replace pI:=AtL.below hbB pI
  replace pR:=AtL.below hbB pR
  clear HRZ HCE c0 d0 d1 hbB HD3 HO3 hgB HD hB3 HNX HUL2 hz1 hz2 hz3 hjz hjl;generalize (w3.alloc (.cells #[.int .i64 (bat D (jn:Int)).1,.int .i64 (bat D (jn:Int)).2] 90))=W4 at *;obtain ⟨BH,hBH⟩:∃ k,w3.heap.size=k:=⟨_,rfl⟩
  simp only [hBH] at pB hgB2 habB hrB ⊢;clear hBH;have habH:ab ≠ BH:=by omega
  have hgH:g ≠ BH:=by omega
  obtain ⟨tot,htot⟩:∃ t,zBX D (bat D (jn:Int)) rr=t:=⟨_,rfl⟩
  have HTO:Hid (zBX D (bat D (jn:Int)) (rr.drop 0)=tot):=htot;have HSV2:Hid (sv=(tot.1+1,tot.2+lng x)):=by show _=_;rw [<-HSV.out,<-htot];rfl
  have HB0:=HI.out (jn:Int);obtain ⟨b0,hb0⟩:∃ b,bat D (jn:Int)=b:=⟨_,rfl⟩
  rw [hb0] at pB HTO HB0;simp only [hb0];have HPB:Hid (AtL W4 BH [.int .i64 b0.1,.int .i64 b0.2]):=pB;have HPI:Hid (AtL W4 w.heap.size (zAD x (.slice p mm kk))):=pI;have HPR:Hid (AtL W4 (w.heap.size+1) [.int .i64 0,.int .i64 0]):=pR;have HBB:Hid (0<=b0.1/\b0.1<=(c:Int)/\0<=b0.2/\b0.2<=(c:Int) * 33554432):=HB0;clear hb0 htot HSV pB pI pR HB0;go_wp2_with (first | (refine zFA rfl (.tmp 33) rfl g rr.length cap rfl hcp (λX C hX=>?_)))
  go_loopg [36] rr.length (λgk u wr=>∃ (k:Nat) (b1 b2:Int),u=.int .i64 k/\gk=rr.length - k/\k<=rr.length/\Hid (zBX D (b1,b2) (rr.drop k)=tot)/\Hid (0<=b1/\b1<=(c:Int)/\0<=b2/\b2<=(c:Int) * 33554432)/\Hid (AtL wr BH [.int .i64 b1,.int .i64 b2])/\Hid (Fr [BH] W4 wr))
  case atStart=>exact ⟨0,b0.1,b0.2,rfl,rfl,Nat.zero_le _,HTO,HBB,HPB,Fr.refl _ _⟩
  case round =>
   clear HTO HBB HPB;obtain ⟨k,b1,b2,rfl,hg,hk,HT,HBB,HPB,HF⟩:=hrel;by_cases hkr:k<rr.length
   ·obtain rfl:X=1:=hX (by omega);have hkl:(k:Int)<(rr.length:Int):=by omega
    have hkz:(0:Int)<=(k:Int):=by omega
    have hwk:IntKind.i64.wrap ((k:Int)+1)=(k:Int)+1:=by rw [IntKind.wrap_i64];have:=HLR.out;omega
    obtain ⟨ti,hti⟩:∃ t,rr[k]=t:=⟨_,rfl⟩
    have htr:=HR.out ti (List.mem_cons_of_mem _ (hti ▸ List.getElem_mem hkr));obtain ⟨tn,rfl⟩:∃ tn:Nat,ti=(tn:Int):=⟨ti.toNat,by omega⟩
    have htl:(tn:Int)<(n:Int):=htr.2;have htz:(0:Int)<=(tn:Int):=htr.1;have ck:=HF.out.cell (HC4.out k hkr) (by simpa using hgH);rw [hti] at ck;have e0:=HF.out.cell (HD4.out.at' tn (by omega)).1 (by simpa using habH);have e1:=HF.out.cell (HD4.out.at' tn (by omega)).2 (by simpa using habH);have HEB:=HI.out (tn:Int);have HT2:Hid (zBX D (b1,b2) ((tn:Int)::rr.drop (k+1))=tot):=by show _=_;rw [<-HT.out,List.drop_eq_getElem_cons hkr,hti]
    have HT3:Hid (zBX D (min b1 (bat D (tn:Int)).1,max b2 (bat D (tn:Int)).2) (rr.drop (k+1))=tot):=HT2.out;obtain ⟨ea,hea⟩:∃ a,(bat D (tn:Int)).1=a:=⟨_,rfl⟩
    obtain ⟨eb,heb⟩:∃ a,(bat D (tn:Int)).2=a:=⟨_,rfl⟩
    rw [hea,heb] at HT3 HEB;rw [hea] at e0;rw [heb] at e1;have HEB2:Hid (0<=ea/\ea<=(c:Int)/\0<=eb/\eb<=(c:Int) * 33554432):=HEB;have pB:=HPB.out;clear hea heb htr hti HEB HT2 HT HPB;go_upto_region 9 with fail
    clear ck;have rb:=(Below.refl wr.heap.size wr).drew;have sa:=zAC rb e0;have sb:=zAC rb e1;have pBd:=AtL.below rb pB;have fr0:Fr [BH] wr wr.drew:=Fr.of_below _ rb;have HF2:Hid (Fr [BH] W4 wr.drew):=HF.out.trans fr0;clear rb fr0 pB HF e0 e1;refine wp_region_held_drew (S:=λW=>W.cell? ⟨ab,tn * 2,none⟩=some (.int .i64 ea)) (by kernel_rfl) sa (λhHeld=>?_);generalize wr.drew=WD at *;refine tkQ 0 ?_
    refine tkQ 2 ?_
    refine tkQ 3 ?_
    refine tkQ 4 ?_
    refine tkQ 5 ?_
    refine tkQ 6 ?_
    have k0:=pBd.2.1 0 _ rfl;have z0:=pBd.2.2 0 (by simp);refine rdQ 1 (λK hK=>?_);go_simp
    refine hkQ hK sa (λhHeld=>?_);clear hK K
    refine tkQ 7 ?_
    refine tkQ 8 ?_
    refine rdQ 9 (λK hK=>?_);go_simp
    have fr:Fr [BH] WD (WD.setCell ⟨BH,0,none⟩ (.int .i64 (if ea<b1 then ea else b1))):=fr_one;have pN:=pBd.set 0 (.int .i64 (if ea<b1 then ea else b1));refine hkQ hK (fr.cell sa (by simpa using habH)) (λhHeld=>?_);clear hK K
    refine wpAnyH_done (by kernel_rfl) ?_ _;have e0:=fr.cell sa (by simpa using habH);have e1:=fr.cell sb (by simpa using habH);have HF:Hid (Fr [BH] W4 (WD.setCell ⟨BH,0,none⟩ (.int .i64 (if ea<b1 then ea else b1)))):=HF2.out.trans fr;clear hHeld k0 z0 sa sb HF2 fr pBd;generalize (WD.setCell ⟨BH,0,none⟩ (.int .i64 (if ea<b1 then ea else b1)))=wr at *;replace pN:AtL wr BH [.int .i64 (if ea<b1 then ea else b1),.int .i64 b2]:=pN
    have pB:=pN;clear pN;go_upto_region 10 with fail
    have rb:=(Below.refl wr.heap.size wr).drew;have sa:=zAC rb e0;have sb:=zAC rb e1;have pBd:=AtL.below rb pB;have fr0:Fr [BH] wr wr.drew:=Fr.of_below _ rb;have HF2:Hid (Fr [BH] W4 wr.drew):=HF.out.trans fr0;clear rb fr0 pB HF e0 e1;refine wp_region_held_drew (S:=λW=>W.cell? ⟨ab,tn * 2+1,none⟩=some (.int .i64 eb)) (by kernel_rfl) sb (λhHeld=>?_);generalize wr.drew=WD at *;refine tkQ 0 ?_
    refine tkQ 2 ?_
    refine tkQ 3 ?_
    refine tkQ 4 ?_
    refine tkQ 5 ?_
    refine tkQ 6 ?_
    have k0:=pBd.2.1 1 _ rfl;have z0:=pBd.2.2 1 (by simp);refine rdQ 1 (λK hK=>?_);go_simp
    refine hkQ hK sb (λhHeld=>?_);clear hK K
    refine tkQ 7 ?_
    refine tkQ 8 ?_
    refine rdQ 9 (λK hK=>?_);go_simp
    have fr:Fr [BH] WD (WD.setCell ⟨BH,1,none⟩ (.int .i64 (if b2<eb then eb else b2))):=fr_one;have pN:=pBd.set 1 (.int .i64 (if b2<eb then eb else b2));refine hkQ hK (fr.cell sb (by simpa using habH)) (λhHeld=>?_);clear hK K
    refine wpAnyH_done (by kernel_rfl) ?_ _;have e0:=fr.cell sa (by simpa using habH);have e1:=fr.cell sb (by simpa using habH);have HF:Hid (Fr [BH] W4 (WD.setCell ⟨BH,1,none⟩ (.int .i64 (if b2<eb then eb else b2)))):=HF2.out.trans fr;clear hHeld k0 z0 sa sb HF2 fr pBd;generalize (WD.setCell ⟨BH,1,none⟩ (.int .i64 (if b2<eb then eb else b2)))=wr at *;replace pN:AtL wr BH [.int .i64 (if ea<b1 then ea else b1),.int .i64 (if b2<eb then eb else b2)]:=pN
    have pB:=pN;clear pN;have hm1:(if ea<b1 then ea else b1)=min b1 ea:=by split <;> omega
    have hm2:(if b2<eb then eb else b2)=max b2 eb:=by split <;> omega
    rw [hm1,hm2] at pB;simp only [hm1,hm2];have HB5:Hid (0<=min b1 ea/\min b1 ea<=(c:Int)/\0<=max b2 eb/\max b2 eb<=(c:Int) * 33554432):=by have h1:=HBB.out;have h2:=HEB2.out;show _/\_/\_/\_;omega
    have HP5:Hid (AtL wr BH [.int .i64 (min b1 ea),.int .i64 (max b2 eb)]):=pB;clear hm1 hm2 pB e0 e1 HBB HEB2;generalize min b1 ea=m1 at *;generalize max b2 eb=m2 at *;go_wp2_with fail
    go_roundg (rr.length - (k+1))
    case rel=>exact ⟨k+1,m1,m2,by simp,rfl,by omega,HT3,HB5,HP5,HF⟩
    case measure=>omega
   ·have hkn:¬ ((k:Int)<(rr.length:Int)):=by omega
    have HTE:Hid (sv=(b1+1,b2+lng x)):=by
     have h1:=HT.out;rw [List.drop_of_length_le (by omega)] at h1;show _=_
     rw [HSV2.out,<-h1];rfl
    have hw1:IntKind.i64.wrap (b1+1)=b1+1:=by rw [IntKind.wrap_i64];have:=HBB.out;have:=HC.out;omega
    obtain ⟨lx,hlx⟩:∃ z,lng x=z:=⟨_,rfl⟩
    have hle:=zJN x;have LG:=λW=>zDn x (.slice p mm kk) W
    rw [hlx] at HTE hle;simp only [hlx] at LG;have hw2:IntKind.i64.wrap (b2+lx)=b2+lx:=by rw [IntKind.wrap_i64];have:=HBB.out;have:=HC.out;omega
    have HLG:Hid (∀ W:World,Calls prog 73 #[.agg (zAD x (.slice p mm kk)).toArray] W λe w'=>e=.returned (.int .i64 lx)/\Below W.heap.size W w'):=LG;clear LG hle hlx HT HSV2 HBB HI HR HD4 HC4;go_upto_region 12 with fail
    have rb:=(Below.refl wr.heap.size wr).drew;have pB1:=AtL.below rb HPB.out;have fr1:=HF.out.trans (Fr.of_below [BH] rb);have pI1:=HPI.out.fr fr1 (by simp;omega);have pR1:=HPR.out.fr fr1 (by simp;omega);have hB1:Below w.heap.size w wr.drew:=(((Fr.of_below [] HB4.out).new fr1 (λq hq=>Or.inr (by simp at hq;omega))).to_below (by simp))
    have s0:=pB1.2.1 0 _ rfl;have s1:=pB1.2.1 1 _ rfl;have s2:=pI1.range;clear rb HPB HF HPI HPR HB4 fr1 pB1 pI1;refine wp_region_held_drew (S:=λW=>W.rangeAt w.heap.size 0 (zAD x (.slice p mm kk))/\W.cell? ⟨BH,0,none⟩=some (.int .i64 b1)/\W.cell? ⟨BH,1,none⟩=some (.int .i64 b2)) (by kernel_rfl) ⟨s2,s0,s1⟩ (λhHeld=>?_);generalize wr.drew=WD at *;refine tkQ 0 ?_
    refine tkQ 1 ?_
    refine tkQ 2 ?_
    refine tkQ 3 ?_
    refine tkQ 4 ?_
    refine wpAnyH_take (i:=5) (v:=.agg (zAD x (.slice p mm kk)).toArray) (atQ rfl) (by kernel_rfl) (by kernel_rfl) (by kernel_rfl) (λ_ _ _ h=>h) (yieldsIf_load_mid (by rfl) 56 (.tmp 3) rfl w.heap.size 0 rfl (zAD x (.slice p mm kk)) _ (λ_ h=>h.1) underlying56 rfl (by kernel_rfl)) (by assumption) ?_;try simp only [Act.put,lA,lZ,lS]
    refine rdQ 6 (λK hK=>?_);go_simp
    refine (HLG.out _).mono ?_;rintro e w6 ⟨rfl,hb6⟩;go_wp2_with fail
    have t2:=zAI hb6 s2;have t0:=zAC hb6 s0;have t1:=zAC hb6 s1;have pR6:=AtL.below hb6 pR1;have hB6:=zAB hB1 hb6;refine hkQ hK ⟨t2,t0,t1⟩ (λhHeld=>?_);clear hK K s0 s1 s2 pR1 hB1 hb6 HLG
    refine tkQ 7 ?_
    refine tkQ 8 ?_
    have k0:=pR6.2.1 0 _ rfl;have k1:=pR6.2.1 1 _ rfl;have z0:=pR6.2.2 0 (by simp);have z1:=pR6.2.2 1 (by simp);refine rdQ 9 (λK hK=>?_);go_simp
    have fr:Fr [w.heap.size+1] w6 ((w6.setCell ⟨w.heap.size+1,0,none⟩ (.int .i64 (b1+1))).setCell ⟨w.heap.size+1,1,none⟩ (.int .i64 (b2+lx))):=fr_one.trans fr_one;have pF:AtL (w6.setCells (w.heap.size+1) 0 [.int .i64 (b1+1),.int .i64 (b2+lx)]) (w.heap.size+1) [.int .i64 (b1+1),.int .i64 (b2+lx)]:=pR6.setAll rfl;have HPF:Hid (((w6.setCell ⟨w.heap.size+1,0,none⟩ (.int .i64 (b1+1))).setCell ⟨w.heap.size+1,1,none⟩ (.int .i64 (b2+lx))).rangeAt (w.heap.size+1) 0 [.int .i64 (b1+1),.int .i64 (b2+lx)]):=pF.range;have HBF:Hid (Below w.heap.size w ((w6.setCell ⟨w.heap.size+1,0,none⟩ (.int .i64 (b1+1))).setCell ⟨w.heap.size+1,1,none⟩ (.int .i64 (b2+lx)))):=zAa (k:=w.heap.size+1) hB6 (by omega) [.int .i64 (b1+1),.int .i64 (b2+lx)] 0;refine hkQ hK ⟨fr.range t2 (by simp),fr.cell t0 (by simp;omega),fr.cell t1 (by simp;omega)⟩ (λhHeld=>?_);clear hK K
    refine wpAnyH_done (by kernel_rfl) ?_ _;clear hHeld fr pF k0 k1 z0 z1 pR6 hB6 t0 t1 t2;generalize ((w6.setCell ⟨w.heap.size+1,0,none⟩ (.int .i64 (b1+1))).setCell ⟨w.heap.size+1,1,none⟩ (.int .i64 (b2+lx)))=WF at *;go_wp2;refine bodyPost_ret (zAm (by rfl) _ _ (w.heap.size+1) [.int .i64 (b1+1),.int .i64 (b2+lx)] _ (by rfl) HPF.out underlying90 rfl (by kernel_rfl)) rfl ⟨by rw [HTE.out],HBF.out⟩
theorem zK5:(prog.info? 90).map (λi=>(i.zero,i.size,i.bytes))=some (some (.agg #[.int .i64 0,.int .i64 0]),2,16):=by kernel_rfl
theorem zMY (n j:Nat) (hj:j<n):(madeCells (Value.agg #[.int .i64 0,.int .i64 0]).cells (n * 2)).toList[j * 2]? = some (.int .i64 0)/\(madeCells (Value.agg #[.int .i64 0,.int .i64 0]).cells (n * 2)).toList[j * 2+1]? = some (.int .i64 0):=by
 have e0:j * 2 % 2=0:=by omega
 have e1:(j * 2+1) % 2=1:=by omega
 refine ⟨?_,?_⟩
 ·simp [madeCells,Value.cells,show j * 2<n * 2 by omega,e0]
 ·simp [madeCells,Value.cells,show j * 2+1<n * 2 by omega,e1]
structure AtW (w:World) (ab n:Nat) (D:BD):Prop where
 rd:AtD w ab n D
 fz:∀ o:Nat,w.frozen? ⟨ab,o,none⟩=false
 lt:ab<w.heap.size
theorem AtW.below (h:AtW w ab n D) (hb:Below w.heap.size w w'):AtW w' ab n D:=⟨h.rd.below hb,λo=>by rw [(Fr.of_below [] hb).frozen h.lt (by simp)];exact h.fz o,Nat.lt_of_lt_of_le h.lt hb.size⟩
theorem zBP {i:Nat} (hi:i<D.length) (b:Int × Int) (j:Nat):bat (D.set i b) (j:Int)=if i=j then b else bat D (j:Int):=by
 unfold bat;simp only [Int.toNat_natCast,List.getD_eq_getElem?_getD,List.getElem?_set];by_cases h:i=j
 ·subst h;simp [hi]
 ·simp [h]
theorem AtW.set (h:AtW w ab n D) {i:Nat} (hi:i<n) (b:Int × Int):AtW ((w.setCell ⟨ab,i * 2,none⟩ (.int .i64 b.1)).setCell ⟨ab,i * 2+1,none⟩ (.int .i64 b.2)) ab n (D.set i b):=by
 have fr:Fr [ab] w ((w.setCell ⟨ab,i * 2,none⟩ (.int .i64 b.1)).setCell ⟨ab,i * 2+1,none⟩ (.int .i64 b.2)):=fr_one.trans fr_one;refine ⟨⟨by rw [List.length_set];exact h.rd.len,λj hj=>?_⟩,λo=>by rw [World.frozen?_setCell,World.frozen?_setCell];exact h.fz o,Nat.lt_of_lt_of_le h.lt fr.size⟩;obtain ⟨c0,c1⟩:=h.rd.at' j hj;rw [zBP (by rw [h.rd.len];exact hi)];by_cases e:i=j
 ·subst e;rw [if_pos rfl];refine ⟨?_,?_⟩
  ·rw [zAM _ _ _ (by omega)];exact zAQ c0 _
  ·exact zAQ (by rw [zAM _ _ _ (by omega)];exact c1) _
 ·rw [if_neg e];refine ⟨?_,?_⟩
  ·rw [zAM _ _ _ (by omega),zAM _ _ _ (by omega)];exact c0
  ·rw [zAM _ _ _ (by omega),zAM _ _ _ (by omega)];exact c1
theorem zD4 (n:Nat) (j:Int):bat (List.replicate n (0,0)) j=(0,0):=by
 unfold bat;simp only [List.getD_eq_getElem?_getD,List.getElem?_replicate];split <;> rfl
theorem zMj {w2:World} (hk:w.heap.size<w2.heap.size) (own2:w2.ownsRow w.heap.size 90 2 (.slice (some ⟨w.heap.size,0,none⟩) n n) n (madeCells (Value.agg #[.int .i64 0,.int .i64 0]).cells (n * 2)).toList):AtW w2 w.heap.size n (List.replicate n (0,0)):=by
 have hcl:=own2.cells (g:=w.heap.size) rfl;have hcl2:∀ (j:Nat) (u:Value),(madeCells (Value.agg #[.int .i64 0,.int .i64 0]).cells (n * 2)).toList[j]? = some u->w2.cell? ⟨w.heap.size,j,none⟩=some u:=by
  intro j u hu;have:=hcl j u hu;rwa [show (⟨w.heap.size,0,none⟩:Addr).add j=⟨w.heap.size,j,none⟩ from by simp [Addr.add];intro h;exact h.symm] at this
 refine ⟨⟨by simp,λj hj=>?_⟩,λi=>?_,hk⟩
 ·obtain ⟨d0,d1⟩:=zMY n j hj;rw [zD4];exact ⟨hcl2 _ _ d0,hcl2 _ _ d1⟩
 ·rcases own2.2 with ⟨e,_⟩ | ⟨g,cap',cur,e,_,hg,_,_,hs,_⟩
  ·cases e
  ·simp only [Value.slice.injEq,Option.some.injEq,Addr.mk.injEq] at e;obtain ⟨⟨e1,-,-⟩,-,-⟩:=e;rw [<-e1] at hg;simp [World.frozen?,hg]
theorem zEW (L:List (Wc.In × List Int)) {n i:Nat} (hn:L.length=n) (hi:i<n):bkL (stA L) n (n - i)=(bkL (stA L) n (n - (i+1))).set i (zCK (L[i]'(by omega)).1 ((onw (L[i]'(by omega)).1.op (L[i]'(by omega)).1.a (L[i]'(by omega)).1.b (L[i]'(by omega)).2 i).1++(onw (L[i]'(by omega)).1.op (L[i]'(by omega)).1.a (L[i]'(by omega)).1.b (L[i]'(by omega)).2 i).2) (bkL (stA L) n (n - (i+1)))):=by
 rw [zLM,<-zEe (by omega:i<L.length)];have e:n - i=(n - (i+1))+1:=by omega
 rw [e];have e2:n - 1 - (n - (i+1))=i:=by omega
 show (bkL (stA L) n (n - (i+1))).set (n - 1 - (n - (i+1))) (stA L (n - 1 - (n - (i+1))) (bkL (stA L) n (n - (i+1))))=_
 rw [e2]
theorem zFK (L:List (Wc.In × List Int)) (v:Value) (w:World) (h:RdC w v L) (hl:L.length<=1000000) (ht:∀ x ∈ L,x.2.length<=1000000/\Wt.FitV x.1.v) (hN:NmAt w) :
  CR 17 #[v] w (.tuple #[.int .i64 (zHL L).1,.int .i64 (zHL L).2]):=by
 have CK:=zCS L v w h hl ht hN;have hbn:zHL L=if Wc.chkP rgt L=true then bat (bkL (stA L) L.length L.length) 0 else (0,0):=rfl
 have hpl:Wc.chkP rgt L=true->Wc.plcs rgt L.length 0 L=true/\0<L.length:=λq=>by
  unfold Wc.chkP at q;simp only [Bool.and_eq_true,decide_eq_true_eq] at q;exact ⟨q.1,q.2.1⟩
 obtain ⟨B,hB⟩:∃ B,zHL L=B:=⟨_,rfl⟩
 rw [hB] at hbn ⊢;clear hB;obtain ⟨a1,c1,rfl,r1⟩:=h;have HR:Hid (RdC w (.slice a1 L.length c1) L):=⟨a1,c1,rfl,r1⟩
 have HT:Hid (∀ x ∈ L,x.2.length<=1000000):=λx hx=>(ht x hx).1
 clear r1 ht hN;cases hq:Wc.chkP rgt L with
 | false =>
  rw [hq] at CK hbn;simp only [Bool.false_eq_true,if_false] at CK hbn;subst hbn;have HCK:Hid (CR 13 #[.slice a1 L.length c1] w (.int .i64 85)):=CK;clear CK hpl HR HT hq;go_enter func17,ntmps17;go_wp2_with fail
  refine HCK.out.mono ?_;rintro e w1 ⟨rfl,hb1⟩;go_wp2;go_ret2
  exact ⟨rfl,hb1⟩
 | true =>
  obtain ⟨hp,h0⟩:=hpl hq;rw [hq] at CK hbn;simp only [if_true] at CK hbn;have HPL:Hid (∀ (k:Nat) (hk:k<L.length),Wc.plc rgt L.length k (L[k])=true):=λk hk=>by have:=(Wc.plcs_iff rgt L.length L 0).1 hp k hk;rwa [Nat.zero_add] at this
  have HCK:Hid (CR 13 #[.slice a1 L.length c1] w (.int .i64 0)):=CK;clear CK hpl hp hq;obtain ⟨n,hn⟩:∃ n,L.length=n:=⟨_,rfl⟩
  have HL:Hid (L.length=n):=hn;rw [hn] at hl h0 HR HCK hbn ⊢;have HBN:Hid (B=bat (bkL (stA L) n n) ((0:Nat):Int)):=hbn;have HN:Hid (0<n/\n<=1000000):=⟨h0,hl⟩
  obtain ⟨i0,hi0,hz0,hz1,hz2⟩:=info_parts zK5;have hw0:IntKind.i64.wrap ((n:Int) - 1)=(n:Int) - 1:=by rw [IntKind.wrap_i64];omega
  clear hn hbn;go_enter func17,ntmps17;go_wp2_with fail
  refine HCK.out.mono ?_;rintro e w1 ⟨rfl,hb1⟩;go_upto_region 4 with (refine wpList_make_full w1 rfl (.tmp 10) (.tmp 10) 88 rfl w1.heap.size 90 i0 _ 2 underlying88 hi0 hz0 hz1 .i64 .i64 _ _ n rfl rfl rfl rfl (by rw [hz2];omega) (by unfold maxLen;omega) (Nat.le_refl _) ?_;intro w2 own2 hg2)
  have hbg:Below w1.heap.size w1 w2:=⟨hg2.os,hg2.tape,hg2.output,hg2.size,λk hk=>hg2.block k hk (by simp)⟩
  have hk2:w1.heap.size<w2.heap.size:=(zAT own2 (g:=w1.heap.size) rfl).2;have HW0:Hid (AtW w2 w1.heap.size n (bkL (stA L) n 0)):=zMj hk2 own2;have HB0:Hid (Below w.heap.size w w2):=zAB hb1 hbg;have HAB:Hid (w.heap.size<=w1.heap.size):=hb1.size;clear hbg hk2 own2 hg2 hi0 hz0 hz1 hz2 i0 hb1 HCK;obtain ⟨ab,hab⟩:∃ b,w1.heap.size=b:=⟨_,rfl⟩
  rw [hab] at HW0 HAB;simp only [hab];clear hab;go_wp2_with fail
  go_loopg [5] n (λgk u wr=>∃ (d:Nat) (z:Int),u=.int .i64 z/\z+1=(d:Int)/\gk=d/\d<=n/\Hid (AtW wr ab n (bkL (stA L) n (n - d)))/\Hid (Below w.heap.size w wr))
  case atStart=>exact ⟨n,(n:Int) - 1,rfl,by omega,rfl,Nat.le_refl _,by rw [Nat.sub_self];exact HW0,HB0⟩
  case round =>
   clear HW0 HB0 hw0;obtain ⟨d,z,rfl,hz,hg,hd,HW,HB⟩:=hrel;cases d with
   | zero =>
    obtain rfl:z = -1:=by simp at hz;omega
    have hn0:(0:Int)<(n:Int):=by have:=HN.out;omega
    have hnz:¬ ((n:Int)=0):=by omega
    go_upto_region 8 with fail
    have rb:=(Below.refl wr.heap.size wr).drew;have W1:=HW.out.below rb;have HB1:Hid (Below w.heap.size w wr.drew):=zAB HB.out rb;obtain ⟨s0,s1⟩:=W1.rd.at' 0 HN.out.1;rw [Nat.sub_zero,<-HBN.out] at s0 s1;rw [Nat.zero_mul] at s0 s1;rw [Nat.zero_add] at s1;clear rb HW HB W1;refine wp_region_held_drew (S:=λW=>W.cell? ⟨ab,0,none⟩=some (.int .i64 B.1)/\W.cell? ⟨ab,1,none⟩=some (.int .i64 B.2)) (by kernel_rfl) ⟨s0,s1⟩ (λhHeld=>?_);generalize wr.drew=WD at *;refine tkQ 0 ?_
    refine tkQ 1 ?_
    refine tkQ 2 ?_
    refine tkQ 3 ?_
    refine tkQ 4 ?_
    refine tkQ 5 ?_
    refine tkQ 6 ?_
    refine tkQ 7 ?_
    refine rdQ 8 (λK hK=>?_);go_simp
    refine hkQ hK ⟨s0,s1⟩ (λhHeld=>?_);clear hK K
    refine rdQ 9 (λK hK=>?_);go_simp
    refine hkQ hK ⟨s0,s1⟩ (λhHeld=>?_);clear hK K
    refine wpAnyH_done (by kernel_rfl) ?_ _;clear hHeld s0 s1;go_wp2;go_ret2
    exact ⟨rfl,HB1.out⟩
   | succ i =>
    obtain rfl:z=(i:Int):=by omega
    have hiz:(0:Int)<=(i:Int):=by omega
    have hin:(i:Int)<(n:Int):=by omega
    have hwi:IntKind.i64.wrap ((i:Int) - 1)=(i:Int) - 1:=by rw [IntKind.wrap_i64];have:=HN.out;omega
    have hil:i<L.length:=by rw [HL.out];omega
    have H0:=HR.out.below HB.out;obtain ⟨q1,d1,e1,f1⟩:=H0;simp only [Value.slice.injEq] at e1;obtain ⟨ex1,ex2,ex3⟩:=e1;obtain ⟨bb,off,p,mm,kk,ee,t1,t2,t3⟩:=f1 i hil;rw [ee] at ex1;subst ex1;have HNX:=zEW L HL.out (by omega:i<n);have HPI:=(Wc.plc_iff rgt L.length i (L[i])).1 (HPL.out i hil);have HTI:=HT.out (L[i]) (List.getElem_mem hil);obtain ⟨y,tl,hyt⟩:∃ y tl,L[i]=(y,tl):=⟨_,_,rfl⟩
    simp only [hyt] at t1 t2 HNX HPI HTI;obtain ⟨D,hD⟩:∃ D,bkL (stA L) n (n - (i+1))=D:=⟨_,rfl⟩
    have HIV:=zC3 L HL.out (n - (i+1)) (by omega);rw [hD] at HW HNX HIV;have FR:=zIM y p mm kk tl i n ab (n - (i+1)) D wr t2 (λl c e=>by cases e;exact t3 rfl) HTI (by have:=HN.out;omega) HW.out.rd HIV (by have:=HN.out;omega) (λj hj=>by
     have:=HL.out;rcases List.mem_append.1 hj with hj | hj
     ·have:=HPI.2.2.1 j hj;omega
     ·have:=HPI.2.2.2 j hj;omega)
    obtain ⟨sv,hsv⟩:∃ s,zCK y ((onw y.op y.a y.b tl i).1++(onw y.op y.a y.b tl i).2) D=s:=⟨_,rfl⟩
    rw [hsv] at FR HNX;have HFR:Hid (Calls prog 39 #[.agg (zAD y (.slice p mm kk)).toArray,.int .i64 (i:Int),.slice (some ⟨ab,0,none⟩) n n] wr λe w'=>e=.returned (.agg #[.int .i64 sv.1,.int .i64 sv.2])/\Below wr.heap.size wr w'):=FR;have HNX2:Hid (bkL (stA L) n (n - i)=D.set i sv):=HNX;clear FR HNX HPI HTI hyt hD HIV hsv t2 t3 f1 ee ex2 ex3;go_wp2_with (first | (refine zAA (by rfl) 56 (.tmp 23) rfl bb (off+i * 23) rfl (zAD y (.slice p mm kk)) _ t1 underlying56 rfl (by kernel_rfl) ?_))
    refine HFR.out.mono ?_;rintro e w6 ⟨rfl,hb6⟩;have W6:=HW.out.below hb6;have HB6:Hid (Below w.heap.size w w6):=zAB HB.out hb6;obtain ⟨k0,k1⟩:=W6.rd.at' i (by omega);have z0:=W6.fz (i * 2);have z1:=W6.fz (i * 2+1);have HW7:Hid (AtW ((w6.setCell ⟨ab,i * 2,none⟩ (.int .i64 sv.1)).setCell ⟨ab,i * 2+1,none⟩ (.int .i64 sv.2)) ab n (bkL (stA L) n (n - i))):=by rw [HNX2.out];exact W6.set (by omega) sv
    have HB7:Hid (Below w.heap.size w ((w6.setCell ⟨ab,i * 2,none⟩ (.int .i64 sv.1)).setCell ⟨ab,i * 2+1,none⟩ (.int .i64 sv.2))):=zAO HB6.out (fr_one.trans fr_one:Fr [ab] _ _) (λk hk=>by simp at hk;have:=HAB.out;omega);clear HFR HW HB W6 hb6 t1 HNX2 HB6;go_wp2_with fail
    go_roundg i
    case rel=>exact ⟨i,(i:Int) - 1,by simp,by omega,rfl,by omega,HW7,HB7⟩
    case measure=>omega
