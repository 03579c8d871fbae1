/- KFrom. -/
import Derived.Test.YtpkdhcijcndgnaaGreatDoorQ41
set_option maxHeartbeats 4000000
set_option maxRecDepth 100000
namespace Go.Proofs.YtpkdhcijcndgnaaGreatDoor
open Tryz
open Go.RowKit
set_option linter.unusedVariables false
variable {w w':World} {ab n:Nat} {D:BD}
theorem fr_one {mk i1:Nat} {v1:Value}:Fr [mk] w (w.setCell ⟨mk,i1,none⟩ v1) :=
 Fr.of_grown (zAO _ _ _ _) (λk e=>by cases e;simp)
structure AtD (w:World) (ab n:Nat) (D:BD):Prop where
 len:D.length=n
 at':∀ j:Nat,j<n->w.cell? ⟨ab,j * 2,none⟩=some (.int .i64 (bat D (j:Int)).1)/\w.cell? ⟨ab,j * 2+1,none⟩=some (.int .i64 (bat D (j:Int)).2)
theorem AtD.fr {S:List Nat} (h:AtD w ab n D) (hf:Fr S w w') (hn:ab ∉ S):AtD w' ab n D:=⟨h.len,λj hj=>⟨hf.cell (h.at' j hj).1 hn,hf.cell (h.at' j hj).2 hn⟩⟩
theorem AtD.below (h:AtD w ab n D) (hb:Below w.heap.size w w'):AtD w' ab n D:=h.fr (Fr.of_below [] hb) (by simp)
theorem zM2 (x:Wc.In) (p:Option Addr) (mm kk:Nat) (tl:List Int) (i n ab c:Nat) (D:BD) (w:World) (hz:RdZ w (.slice p mm kk) tl) (hnp:Np (.slice p mm kk)) (htl:tl.length<=1000000) (hi:i<=1000000) (hD:AtD w ab n D) (hI:BInv c D) (hc:c<=1000000)
  (hnx:∀ j ∈ (onw x.op x.a x.b tl i).1++(onw x.op x.a x.b tl i).2,0<=j/\j<(n:Int)) :
  CR 31 #[.agg (zAD x (.slice p mm kk)).toArray,.int .i64 (i:Int),.slice (some ⟨ab,0,none⟩) n n] w (.agg #[.int .i64 (zCh x ((onw x.op x.a x.b tl i).1++(onw x.op x.a x.b tl i).2) D).1,.int .i64 (zCh x ((onw x.op x.a x.b tl i).1++(onw x.op x.a x.b tl i).2) D).2]):=by
 obtain ⟨u,hu⟩:∃ u,onw x.op x.a x.b tl i=u:=⟨_,rfl⟩
 have HUL:=zDz (o:=x.op) (a:=x.a) (b:=x.b) (at':=i) htl;have HOW:Hid (∀ W:World,Below w.heap.size w W->Calls prog 47 #[.agg (zAD x (.slice p mm kk)).toArray,.int .i64 (i:Int)] W λe w'=>OnQ W (.slice p mm kk) w' u e/\Below W.heap.size W w'):=λW hb=>by
  have:=zLy x p mm kk tl i W ⟨by omega,by omega⟩ (hz.below hb) hnp;rw [hu] at this;exact this
 rw [hu] at hnx HUL ⊢;obtain ⟨u1,u2⟩:=u;simp only at hnx HUL ⊢;have HUL2:Hid (u1.length<=1000000/\u2.length<=1000000):=HUL;obtain ⟨nx,hnxe⟩:∃ l,u1++u2=l:=⟨_,rfl⟩
 have HNX:Hid (u1++u2=nx):=hnxe;rw [hnxe] at hnx ⊢;obtain ⟨sv,hsv⟩:∃ s,zCh x nx D=s:=⟨_,rfl⟩
 have HSV:Hid (zCh x nx D=sv):=hsv;rw [hsv];have HD:Hid (AtD w ab n D):=hD;have HI:Hid (BInv c D):=hI;have HC:Hid (c<=1000000):=hc;have HR:Hid (∀ j ∈ nx,0<=j/\j<(n:Int)):=hnx;have hb0:=zAJ (zAJ (Below.refl _ w) (.cells (zAD x (.slice p mm kk)).toArray 48)) (.cells #[.int .i64 0,.int .i64 0] 89);have pI:=(AtL.new0 w 48 (zAD x (.slice p mm kk))).alloc (.cells #[.int .i64 0,.int .i64 0] 89);have pR:=AtL.new1 w (.cells (zAD x (.slice p mm kk)).toArray 48) 89 [.int .i64 0,.int .i64 0];clear hu hnxe hsv hz hnp htl hi hD hI hc hnx HUL;go_enter func31,ntmps31;go_upto_region 1 with fail
 generalize ((w.alloc (.cells (zAD x (.slice p mm kk)).toArray 48)).alloc (.cells [.int .i64 0,.int .i64 0].toArray 89))=W0 at *;have OW:=HOW.out W0 hb0;have rI:=pI.range;go_wp2_with (first | (refine zAA (by rfl) 48 (.tmp 3) rfl w.heap.size 0 rfl (zAD x (.slice p mm kk)) _ rI underlying48 rfl (by kernel_rfl) ?_))
 refine OW.mono ?_;rintro e w1 ⟨⟨cv,kv,rfl,z1,z2,_,_,n1,n2⟩,hb1⟩;replace pI:=AtL.below hb1 pI
 replace pR:=AtL.below hb1 pR
 have hB1:=zAB hb0 hb1;obtain ⟨a1,c1,e1,_⟩:=id z1;obtain ⟨a2,c2,e2,_⟩:=id z2;have hbs:=zAJ (Below.refl _ w1) (.cells #[cv,kv] 46);have HCO:Hid (Calls prog 48 #[.slice (some ⟨w1.heap.size,0,none⟩) 2 2] (w1.alloc (.cells #[cv,kv] 46)) λe w'=>(∃ r,e=.returned r/\OwnZ w' (w1.alloc (.cells #[cv,kv] 46)).heap.size r nx)/\Below (w1.alloc (.cells #[cv,kv] 46)).heap.size (w1.alloc (.cells #[cv,kv] 46)) w'):=by
  have:=zH8 u1 u2 cv kv w1.heap.size (w1.alloc (.cells #[cv,kv] 46)) (z1.below hbs) (z2.below hbs) n1 n2 HUL2.out.1 HUL2.out.2 (AtL.new0 w1 46 [cv,kv]);rw [HNX.out] at this;exact this
 replace pI:=AtL.below hbs pI
 replace pR:=AtL.below hbs pR
 have hB2:=zAB hB1 hbs;clear z1 z2 n1 n2 OW HOW rI hb0 hb1 hB1 hbs;simp only at e1 e2;subst e1;subst e2;go_wp2_with fail
 refine HCO.out.mono ?_;rintro e w3 ⟨⟨r,rfl,own⟩,hb3⟩;replace pI:=AtL.below hb3 pI
 replace pR:=AtL.below hb3 pR
 have hB3:=zAB hB2 hb3;have HD3:Hid (AtD w3 ab n D):=HD.out.below hB3;have HO3:Hid (OwnZ w3 (w1.alloc (.cells #[.slice a1 u1.length c1,.slice a2 u2.length c2] 46)).heap.size r nx):=own;clear HCO own hb3 hB2;cases nx with
 | nil =>
  have HE:Hid (sv=(1,1)):=by show _=_;rw [<-HSV.out];rfl
  obtain ⟨ra,rc,er,_⟩:=HO3.out.rd;subst er;have k0:=pR.2.1 0 _ rfl;have k1:=pR.2.1 1 _ rfl;have z0:=pR.2.2 0 (by simp);have z1:=pR.2.2 1 (by simp);have pF:AtL (w3.setCells (w.heap.size+1) 0 [.int .i64 1,.int .i64 1]) (w.heap.size+1) [.int .i64 1,.int .i64 1]:=pR.setAll rfl;have HPF:Hid (((w3.setCell ⟨w.heap.size+1,0,none⟩ (.int .i64 1)).setCell ⟨w.heap.size+1,1,none⟩ (.int .i64 1)).rangeAt (w.heap.size+1) 0 [.int .i64 1,.int .i64 1]):=pF.range;have HBF:Hid (Below w.heap.size w ((w3.setCell ⟨w.heap.size+1,0,none⟩ (.int .i64 1)).setCell ⟨w.heap.size+1,1,none⟩ (.int .i64 1))):=zAt (k:=w.heap.size+1) hB3 (by omega) [.int .i64 1,.int .i64 1] 0;clear pF pI pR;go_wp2;refine bodyPost_ret (zAh (by rfl) _ _ (w.heap.size+1) [.int .i64 1,.int .i64 1] _ (by rfl) HPF.out underlying89 rfl (by kernel_rfl)) rfl ⟨by rw [HE.out],HBF.out⟩
 | cons j rr =>
  obtain ⟨hj0,hjn⟩:=HR.out j (List.mem_cons_self ..);obtain ⟨jn,rfl⟩:∃ jn:Nat,j=(jn:Int):=⟨j.toNat,by omega⟩
  obtain ⟨g,cap,er,hcp,hgB⟩:∃ g cap,r=.slice (some ⟨g,0,none⟩) (rr.length+1) cap/\rr.length+1<=cap/\(w1.alloc (.cells #[.slice a1 u1.length c1,.slice a2 u2.length c2] 46)).heap.size<=g:=by
   rcases HO3.out.2 with ⟨_,h0⟩ | ⟨g,cap,cur,e,hb,_,hc,_⟩
   ·simp at h0
   ·exact ⟨g,cap,by rw [e];simp,by simpa using hc,hb⟩
  subst er;have HRZ:Hid (RdZ w3 (.slice (some ⟨g,0,none⟩) (rr.length+1) cap) ((jn:Int)::rr)):=by show RdZ _ _ _;have:=HO3.out.rd;simpa using this
  have hcell:∀ (W:World),RdZ W (.slice (some ⟨g,0,none⟩) (rr.length+1) cap) ((jn:Int)::rr)->W.cell? ⟨g,0,none⟩=some (.int .i64 (jn:Int))/\∀ (k:Nat) (hk:k<rr.length),W.cell? ⟨g,1+k,none⟩=some (.int .i64 (rr[k])):=by
   intro W hW;obtain ⟨x1,x2,x3,x4⟩:=hW;simp only [Value.slice.injEq] at x3;refine ⟨?_,λk hk=>?_⟩
   ·obtain ⟨x5,x6,x7,x8⟩:=x4 0 (by simp);rw [<-x3.1] at x7;cases x7
    exact x8
   ·obtain ⟨x5,x6,x7,x8⟩:=x4 (k+1) (by simp;omega);rw [<-x3.1] at x7;cases x7
    rw [show (0:Nat)+(k+1)=1+k by omega] at x8;exact x8
  have HCE:Hid _:=hcell;have c0:=(hcell w3 HRZ.out).1;have hjl:(jn:Int)<(n:Int):=hjn;have hjz:(0:Int)<=(jn:Int):=hj0;have d0:=(HD3.out.at' jn (by omega)).1;have d1:=(HD3.out.at' jn (by omega)).2;have hz1:¬ ((rr.length:Int)+1=0):=by omega
  have hz2:(((rr.length:Int)+1) == 0)=false:=by simp;omega
  have hz3:(0:Int)<(rr.length:Int)+1:=by omega
  have HLR:Hid (rr.length<=2000000):=by show _<=_;have h1:=HUL2.out;have h2:=congrArg List.length HNX.out;simp at h2;omega
  clear hcell hj0 hjn;have hgB2:g<w3.heap.size:=zA1 c0;have habB:ab<w3.heap.size:=zA1 d0;have hrB:w.heap.size+1<w3.heap.size:=pR.lt;go_upto_region 6 with fail
  have pB:=AtL.new0 w3 89 [.int .i64 (bat D (jn:Int)).1,.int .i64 (bat D (jn:Int)).2];have hbB:=zAJ (Below.refl _ w3) (.cells #[.int .i64 (bat D (jn:Int)).1,.int .i64 (bat D (jn:Int)).2] 89);have HB4:Hid (Below w.heap.size w (w3.alloc (.cells #[.int .i64 (bat D (jn:Int)).1,.int .i64 (bat D (jn:Int)).2] 89))):=zAB hB3 hbB;have HD4:Hid (AtD (w3.alloc (.cells #[.int .i64 (bat D (jn:Int)).1,.int .i64 (bat D (jn:Int)).2] 89)) ab n D):=HD3.out.below hbB;have HC4:Hid (∀ (k:Nat) (hk:k<rr.length),(w3.alloc (.cells #[.int .i64 (bat D (jn:Int)).1,.int .i64 (bat D (jn:Int)).2] 89)).cell? ⟨g,1+k,none⟩=some (.int .i64 (rr[k]))):=λk hk=>zAC hbB ((HCE.out w3 HRZ.out).2 k hk)
  replace pI:=AtL.below hbB pI
  replace pR:=AtL.below hbB pR
  clear HRZ HCE c0 d0 d1 hbB HD3 HO3 hgB HD hB3 HNX HUL2 hz1 hz2 hz3 hjz hjl;generalize (w3.alloc (.cells #[.int .i64 (bat D (jn:Int)).1,.int .i64 (bat D (jn:Int)).2] 89))=W4 at *;obtain ⟨BH,hBH⟩:∃ k,w3.heap.size=k:=⟨_,rfl⟩
  simp only [hBH] at pB hgB2 habB hrB ⊢;clear hBH;have habH:ab ≠ BH:=by omega
  have hgH:g ≠ BH:=by omega
  obtain ⟨tot,htot⟩:∃ t,zBW D (bat D (jn:Int)) rr=t:=⟨_,rfl⟩
  have HTO:Hid (zBW D (bat D (jn:Int)) (rr.drop 0)=tot):=htot;have HSV2:Hid (sv=(tot.1+1,tot.2+lng x)):=by show _=_;rw [<-HSV.out,<-htot];rfl
  have HB0:=HI.out (jn:Int);obtain ⟨b0,hb0⟩:∃ b,bat D (jn:Int)=b:=⟨_,rfl⟩
  rw [hb0] at pB HTO HB0;simp only [hb0];have HPB:Hid (AtL W4 BH [.int .i64 b0.1,.int .i64 b0.2]):=pB;have HPI:Hid (AtL W4 w.heap.size (zAD x (.slice p mm kk))):=pI;have HPR:Hid (AtL W4 (w.heap.size+1) [.int .i64 0,.int .i64 0]):=pR;have HBB:Hid (0<=b0.1/\b0.1<=(c:Int)/\0<=b0.2/\b0.2<=(c:Int) * 33554432):=HB0;clear hb0 htot HSV pB pI pR HB0;go_wp2_with (first | (refine zHP rfl (.tmp 33) rfl g rr.length cap rfl hcp (λX C hX=>?_)))
  go_loopg [36] rr.length (λgk u wr=>∃ (k:Nat) (b1 b2:Int),u=.int .i64 k/\gk=rr.length - k/\k<=rr.length/\Hid (zBW D (b1,b2) (rr.drop k)=tot)/\Hid (0<=b1/\b1<=(c:Int)/\0<=b2/\b2<=(c:Int) * 33554432)/\Hid (AtL wr BH [.int .i64 b1,.int .i64 b2])/\Hid (Fr [BH] W4 wr))
  case atStart=>exact ⟨0,b0.1,b0.2,rfl,rfl,Nat.zero_le _,HTO,HBB,HPB,Fr.refl _ _⟩
  case round =>
   clear HTO HBB HPB;obtain ⟨k,b1,b2,rfl,hg,hk,HT,HBB,HPB,HF⟩:=hrel;by_cases hkr:k<rr.length
   ·obtain rfl:X=1:=hX (by omega);have hkl:(k:Int)<(rr.length:Int):=by omega
    have hkz:(0:Int)<=(k:Int):=by omega
    have hwk:IntKind.i64.wrap ((k:Int)+1)=(k:Int)+1:=by rw [IntKind.wrap_i64];have:=HLR.out;omega
    obtain ⟨ti,hti⟩:∃ t,rr[k]=t:=⟨_,rfl⟩
    have htr:=HR.out ti (List.mem_cons_of_mem _ (hti ▸ List.getElem_mem hkr));obtain ⟨tn,rfl⟩:∃ tn:Nat,ti=(tn:Int):=⟨ti.toNat,by omega⟩
    have htl:(tn:Int)<(n:Int):=htr.2;have htz:(0:Int)<=(tn:Int):=htr.1;have ck:=HF.out.cell (HC4.out k hkr) (by simpa using hgH);rw [hti] at ck;have e0:=HF.out.cell (HD4.out.at' tn (by omega)).1 (by simpa using habH);have e1:=HF.out.cell (HD4.out.at' tn (by omega)).2 (by simpa using habH);have HEB:=HI.out (tn:Int);have HT2:Hid (zBW D (b1,b2) ((tn:Int)::rr.drop (k+1))=tot):=by show _=_;rw [<-HT.out,List.drop_eq_getElem_cons hkr,hti]
    have HT3:Hid (zBW D (min b1 (bat D (tn:Int)).1,max b2 (bat D (tn:Int)).2) (rr.drop (k+1))=tot):=HT2.out;obtain ⟨ea,hea⟩:∃ a,(bat D (tn:Int)).1=a:=⟨_,rfl⟩
    obtain ⟨eb,heb⟩:∃ a,(bat D (tn:Int)).2=a:=⟨_,rfl⟩
    rw [hea,heb] at HT3 HEB;rw [hea] at e0;rw [heb] at e1;have HEB2:Hid (0<=ea/\ea<=(c:Int)/\0<=eb/\eb<=(c:Int) * 33554432):=HEB;have pB:=HPB.out;clear hea heb htr hti HEB HT2 HT HPB;go_upto_region 9 with fail
    clear ck;have rb:=(Below.refl wr.heap.size wr).drew;have sa:=zAC rb e0;have sb:=zAC rb e1;have pBd:=AtL.below rb pB;have fr0:Fr [BH] wr wr.drew:=Fr.of_below _ rb;have HF2:Hid (Fr [BH] W4 wr.drew):=HF.out.trans fr0;clear rb fr0 pB HF e0 e1;refine wp_region_held_drew (S:=λW=>W.cell? ⟨ab,tn * 2,none⟩=some (.int .i64 ea)) (by kernel_rfl) sa (λhHeld=>?_);generalize wr.drew=WD at *;refine tkQ 0 ⟨some 40,.fieldAddr 89 (.tmp 10) 0,0,"code.go:108",#[],none⟩ ?_
    refine tkQ 2 ⟨some 42,.move (.tmp 2),87,"code.go:108",#[],none⟩ ?_
    refine tkQ 3 ⟨some 43,.move (.tmp 12),3,"code.go:108",#[],none⟩ ?_
    refine tkQ 4 ⟨some 44,.indexAddr 87 (.tmp 42) (.tmp 43),0,"code.go:108",#[⟨2,.data⟩,⟨3,.data⟩],none⟩ ?_
    refine tkQ 5 ⟨some 45,.fieldAddr 89 (.tmp 44) 0,0,"code.go:108",#[⟨4,.data⟩],none⟩ ?_
    refine tkQ 6 ⟨some 46,.load 3 (.tmp 45),3,"code.go:108",#[⟨5,.data⟩],none⟩ ?_
    have k0:=pBd.2.1 0 _ rfl;have z0:=pBd.2.2 0 (by simp);refine rdQ 1 ⟨some 41,.load 3 (.tmp 40),3,"code.go:108",#[⟨0,.data⟩],none⟩ (λK hK=>?_);go_simp
    refine hkQ hK sa (λhHeld=>?_);clear hK K
    refine tkQ 7 ⟨some 47,.call {callee:=Callee.builtin Builtin.min,args:=#[.tmp 41,.tmp 46],argTypes:=#[3,3]},3,"code.go:108",#[⟨1,.data⟩,⟨6,.data⟩],none⟩ ?_
    refine tkQ 8 ⟨some 48,.fieldAddr 89 (.tmp 10) 0,0,"code.go:108",#[⟨0,.phase⟩,⟨1,.phase⟩,⟨2,.phase⟩,⟨3,.phase⟩,⟨4,.phase⟩,⟨5,.phase⟩,⟨6,.phase⟩,⟨7,.phase⟩],none⟩ ?_
    refine rdQ 9 ⟨none,.store 3 (.tmp 48) (.tmp 47),0,"code.go:108",#[⟨8,.data⟩,⟨7,.data⟩,⟨0,.phase⟩,⟨1,.phase⟩,⟨2,.phase⟩,⟨3,.phase⟩,⟨4,.phase⟩,⟨5,.phase⟩,⟨6,.phase⟩,⟨7,.phase⟩],none⟩ (λK hK=>?_);go_simp
    have fr:Fr [BH] WD (WD.setCell ⟨BH,0,none⟩ (.int .i64 (if ea<b1 then ea else b1))):=fr_one;have pN:=pBd.set 0 (.int .i64 (if ea<b1 then ea else b1));refine hkQ hK (fr.cell sa (by simpa using habH)) (λhHeld=>?_);clear hK K
    refine wpAnyH_done (by kernel_rfl) ?_ _;have e0:=fr.cell sa (by simpa using habH);have e1:=fr.cell sb (by simpa using habH);have HF:Hid (Fr [BH] W4 (WD.setCell ⟨BH,0,none⟩ (.int .i64 (if ea<b1 then ea else b1)))):=HF2.out.trans fr;clear hHeld k0 z0 sa sb HF2 fr pBd;generalize (WD.setCell ⟨BH,0,none⟩ (.int .i64 (if ea<b1 then ea else b1)))=wr at *;replace pN:AtL wr BH [.int .i64 (if ea<b1 then ea else b1),.int .i64 b2]:=pN
    have pB:=pN;clear pN;go_upto_region 10 with fail
    have rb:=(Below.refl wr.heap.size wr).drew;have sa:=zAC rb e0;have sb:=zAC rb e1;have pBd:=AtL.below rb pB;have fr0:Fr [BH] wr wr.drew:=Fr.of_below _ rb;have HF2:Hid (Fr [BH] W4 wr.drew):=HF.out.trans fr0;clear rb fr0 pB HF e0 e1;refine wp_region_held_drew (S:=λW=>W.cell? ⟨ab,tn * 2+1,none⟩=some (.int .i64 eb)) (by kernel_rfl) sb (λhHeld=>?_);generalize wr.drew=WD at *;refine tkQ 0 ⟨some 49,.fieldAddr 89 (.tmp 10) 1,0,"code.go:109",#[],none⟩ ?_
    refine tkQ 2 ⟨some 51,.move (.tmp 2),87,"code.go:109",#[],none⟩ ?_
    refine tkQ 3 ⟨some 52,.move (.tmp 12),3,"code.go:109",#[],none⟩ ?_
    refine tkQ 4 ⟨some 53,.indexAddr 87 (.tmp 51) (.tmp 52),0,"code.go:109",#[⟨2,.data⟩,⟨3,.data⟩],none⟩ ?_
    refine tkQ 5 ⟨some 54,.fieldAddr 89 (.tmp 53) 1,0,"code.go:109",#[⟨4,.data⟩],none⟩ ?_
    refine tkQ 6 ⟨some 55,.load 3 (.tmp 54),3,"code.go:109",#[⟨5,.data⟩],none⟩ ?_
    have k0:=pBd.2.1 1 _ rfl;have z0:=pBd.2.2 1 (by simp);refine rdQ 1 ⟨some 50,.load 3 (.tmp 49),3,"code.go:109",#[⟨0,.data⟩],none⟩ (λK hK=>?_);go_simp
    refine hkQ hK sb (λhHeld=>?_);clear hK K
    refine tkQ 7 ⟨some 56,.call {callee:=Callee.builtin Builtin.max,args:=#[.tmp 50,.tmp 55],argTypes:=#[3,3]},3,"code.go:109",#[⟨1,.data⟩,⟨6,.data⟩],none⟩ ?_
    refine tkQ 8 ⟨some 57,.fieldAddr 89 (.tmp 10) 1,0,"code.go:109",#[⟨0,.phase⟩,⟨1,.phase⟩,⟨2,.phase⟩,⟨3,.phase⟩,⟨4,.phase⟩,⟨5,.phase⟩,⟨6,.phase⟩,⟨7,.phase⟩],none⟩ ?_
    refine rdQ 9 ⟨none,.store 3 (.tmp 57) (.tmp 56),0,"code.go:109",#[⟨8,.data⟩,⟨7,.data⟩,⟨0,.phase⟩,⟨1,.phase⟩,⟨2,.phase⟩,⟨3,.phase⟩,⟨4,.phase⟩,⟨5,.phase⟩,⟨6,.phase⟩,⟨7,.phase⟩],none⟩ (λK hK=>?_);go_simp
    have fr:Fr [BH] WD (WD.setCell ⟨BH,1,none⟩ (.int .i64 (if b2<eb then eb else b2))):=fr_one;have pN:=pBd.set 1 (.int .i64 (if b2<eb then eb else b2));refine hkQ hK (fr.cell sb (by simpa using habH)) (λhHeld=>?_);clear hK K
    refine wpAnyH_done (by kernel_rfl) ?_ _;have e0:=fr.cell sa (by simpa using habH);have e1:=fr.cell sb (by simpa using habH);have HF:Hid (Fr [BH] W4 (WD.setCell ⟨BH,1,none⟩ (.int .i64 (if b2<eb then eb else b2)))):=HF2.out.trans fr;clear hHeld k0 z0 sa sb HF2 fr pBd;generalize (WD.setCell ⟨BH,1,none⟩ (.int .i64 (if b2<eb then eb else b2)))=wr at *;replace pN:AtL wr BH [.int .i64 (if ea<b1 then ea else b1),.int .i64 (if b2<eb then eb else b2)]:=pN
    have pB:=pN;clear pN;have hm1:(if ea<b1 then ea else b1)=min b1 ea:=by split <;> omega
    have hm2:(if b2<eb then eb else b2)=max b2 eb:=by split <;> omega
    rw [hm1,hm2] at pB;simp only [hm1,hm2];have HB5:Hid (0<=min b1 ea/\min b1 ea<=(c:Int)/\0<=max b2 eb/\max b2 eb<=(c:Int) * 33554432):=by have h1:=HBB.out;have h2:=HEB2.out;show _/\_/\_/\_;omega
    have HP5:Hid (AtL wr BH [.int .i64 (min b1 ea),.int .i64 (max b2 eb)]):=pB;clear hm1 hm2 pB e0 e1 HBB HEB2;generalize min b1 ea=m1 at *;generalize max b2 eb=m2 at *;go_wp2_with fail
    go_roundg (rr.length - (k+1))
    case rel=>exact ⟨k+1,m1,m2,by simp,rfl,by omega,HT3,HB5,HP5,HF⟩
    case measure=>omega
   ·have hkn:¬ ((k:Int)<(rr.length:Int)):=by omega
    have HTE:Hid (sv=(b1+1,b2+lng x)):=by
     have h1:=HT.out;rw [List.drop_of_length_le (by omega)] at h1;show _=_
     rw [HSV2.out,<-h1];rfl
    have hw1:IntKind.i64.wrap (b1+1)=b1+1:=by rw [IntKind.wrap_i64];have:=HBB.out;have:=HC.out;omega
    obtain ⟨lx,hlx⟩:∃ z,lng x=z:=⟨_,rfl⟩
    have hle:=zNC x;have LG:=λW=>zFZ x (.slice p mm kk) W
    rw [hlx] at HTE hle;simp only [hlx] at LG;have hw2:IntKind.i64.wrap (b2+lx)=b2+lx:=by rw [IntKind.wrap_i64];have:=HBB.out;have:=HC.out;omega
    have HLG:Hid (∀ W:World,Calls prog 49 #[.agg (zAD x (.slice p mm kk)).toArray] W λe w'=>e=.returned (.int .i64 lx)/\Below W.heap.size W w'):=LG;clear LG hle hlx HT HSV2 HBB HI HR HD4 HC4;go_upto_region 12 with fail
    have rb:=(Below.refl wr.heap.size wr).drew;have pB1:=AtL.below rb HPB.out;have fr1:=HF.out.trans (Fr.of_below [BH] rb);have pI1:=HPI.out.fr fr1 (by simp;omega);have pR1:=HPR.out.fr fr1 (by simp;omega);have hB1:Below w.heap.size w wr.drew:=(((Fr.of_below [] HB4.out).new fr1 (λq hq=>Or.inr (by simp at hq;omega))).to_below (by simp))
    have s0:=pB1.2.1 0 _ rfl;have s1:=pB1.2.1 1 _ rfl;have s2:=pI1.range;clear rb HPB HF HPI HPR HB4 fr1 pB1 pI1;refine wp_region_held_drew (S:=λW=>W.rangeAt w.heap.size 0 (zAD x (.slice p mm kk))/\W.cell? ⟨BH,0,none⟩=some (.int .i64 b1)/\W.cell? ⟨BH,1,none⟩=some (.int .i64 b2)) (by kernel_rfl) ⟨s2,s0,s1⟩ (λhHeld=>?_);generalize wr.drew=WD at *;refine tkQ 0 ⟨some 59,.fieldAddr 89 (.tmp 10) 0,0,"code.go:111",#[],none⟩ ?_
    refine tkQ 1 ⟨some 60,.load 3 (.tmp 59),3,"code.go:111",#[⟨0,.data⟩],none⟩ ?_
    refine tkQ 2 ⟨some 61,.binOp BinOp.add 3 (.tmp 60) (Operand.const (Value.int IntKind.i64 1)) 3,3,"code.go:111",#[⟨1,.data⟩],none⟩ ?_
    refine tkQ 3 ⟨some 62,.fieldAddr 89 (.tmp 10) 1,0,"code.go:111",#[],none⟩ ?_
    refine tkQ 4 ⟨some 63,.load 3 (.tmp 62),3,"code.go:111",#[⟨3,.data⟩],none⟩ ?_
    refine wpAnyH_take (i:=5) (oi:=⟨some 64,.load 48 (.tmp 3),48,"code.go:111",#[],none⟩) (v:=.agg (zAD x (.slice p mm kk)).toArray) rfl (by kernel_rfl) (by kernel_rfl) (by kernel_rfl) (λ_ _ _ h=>h) (yieldsIf_load_mid (by rfl) 48 (.tmp 3) rfl w.heap.size 0 rfl (zAD x (.slice p mm kk)) _ (λ_ h=>h.1) underlying48 rfl (by kernel_rfl)) (by assumption) ?_;try simp only [Act.put,lA,lZ,lS]
    refine rdQ 6 ⟨some 65,.call {callee:=Callee.value (Operand.func 49),args:=#[.tmp 64],argTypes:=#[48]},3,"code.go:111",#[⟨5,.data⟩],none⟩ (λK hK=>?_);go_simp
    refine (HLG.out _).mono ?_;rintro e w6 ⟨rfl,hb6⟩;go_wp2_with fail
    have t2:=zAF hb6 s2;have t0:=zAC hb6 s0;have t1:=zAC hb6 s1;have pR6:=AtL.below hb6 pR1;have hB6:=zAB hB1 hb6;refine hkQ hK ⟨t2,t0,t1⟩ (λhHeld=>?_);clear hK K s0 s1 s2 pR1 hB1 hb6 HLG
    refine tkQ 7 ⟨some 66,.binOp BinOp.add 3 (.tmp 63) (.tmp 65) 3,3,"code.go:111",#[⟨4,.data⟩,⟨6,.data⟩],none⟩ ?_
    refine tkQ 8 ⟨some 67,.build 89 #[(0,.tmp 61),(1,.tmp 66)],89,"code.go:111",#[⟨2,.data⟩,⟨7,.data⟩],none⟩ ?_
    have k0:=pR6.2.1 0 _ rfl;have k1:=pR6.2.1 1 _ rfl;have z0:=pR6.2.2 0 (by simp);have z1:=pR6.2.2 1 (by simp);refine rdQ 9 ⟨none,.store 89 (.tmp 6) (.tmp 67),0,"code.go:111",#[⟨8,.data⟩,⟨6,.chain⟩,⟨0,.phase⟩,⟨1,.phase⟩,⟨2,.phase⟩,⟨3,.phase⟩,⟨4,.phase⟩,⟨5,.phase⟩,⟨6,.phase⟩,⟨7,.phase⟩,⟨8,.phase⟩],none⟩ (λK hK=>?_);go_simp
    have fr:Fr [w.heap.size+1] w6 ((w6.setCell ⟨w.heap.size+1,0,none⟩ (.int .i64 (b1+1))).setCell ⟨w.heap.size+1,1,none⟩ (.int .i64 (b2+lx))):=fr_one.trans fr_one;have pF:AtL (w6.setCells (w.heap.size+1) 0 [.int .i64 (b1+1),.int .i64 (b2+lx)]) (w.heap.size+1) [.int .i64 (b1+1),.int .i64 (b2+lx)]:=pR6.setAll rfl;have HPF:Hid (((w6.setCell ⟨w.heap.size+1,0,none⟩ (.int .i64 (b1+1))).setCell ⟨w.heap.size+1,1,none⟩ (.int .i64 (b2+lx))).rangeAt (w.heap.size+1) 0 [.int .i64 (b1+1),.int .i64 (b2+lx)]):=pF.range;have HBF:Hid (Below w.heap.size w ((w6.setCell ⟨w.heap.size+1,0,none⟩ (.int .i64 (b1+1))).setCell ⟨w.heap.size+1,1,none⟩ (.int .i64 (b2+lx)))):=zAt (k:=w.heap.size+1) hB6 (by omega) [.int .i64 (b1+1),.int .i64 (b2+lx)] 0;refine hkQ hK ⟨fr.range t2 (by simp),fr.cell t0 (by simp;omega),fr.cell t1 (by simp;omega)⟩ (λhHeld=>?_);clear hK K
    refine wpAnyH_done (by kernel_rfl) ?_ _;clear hHeld fr pF k0 k1 z0 z1 pR6 hB6 t0 t1 t2;generalize ((w6.setCell ⟨w.heap.size+1,0,none⟩ (.int .i64 (b1+1))).setCell ⟨w.heap.size+1,1,none⟩ (.int .i64 (b2+lx)))=WF at *;go_wp2;refine bodyPost_ret (zAh (by rfl) _ _ (w.heap.size+1) [.int .i64 (b1+1),.int .i64 (b2+lx)] _ (by rfl) HPF.out underlying89 rfl (by kernel_rfl)) rfl ⟨by rw [HTE.out],HBF.out⟩
