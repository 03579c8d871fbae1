/- Lemmas. -/
import Derived.Test.YtefkclbaflkheaaGreatDoorQ28
set_option maxHeartbeats 3200000
set_option maxRecDepth 100000
set_option linter.unusedVariables false
namespace Go.Proofs.YtefkclbaflkheaaGreatDoor
open Go.RowKit Wf
variable {x:Wt.Nd}
section
open Tryz
variable {L:List Wt.Nd} {bb off cap:Nat} {own:Int} {nm:List ByteArray} {av2:Option Addr} {cap2 k:Nat} {w:World} {Lc:List I} {lv:Value} {P:List (Wc.In × Value)} {kv:Value} {ks:List Nat}
theorem zMY {n:Nat} (ih:YNd L bb off cap own nm av2 cap2 n) {x:Wt.Nd} {kts:List (Tr n)} (hen:MEn L bb off nm av2 k w) (hys:YS k w (yv0 L bb off cap) (.int .i64 own) (yv2 nm av2 cap2) Lc lv P) (hkd:x5_OwnI w (k+1) kv ks) (hK:Kds L own nm n ks kts) (hkn:zAb (zA1 x.nm:Nat)=true) (hk30:kts.length<=30) (hc:(zAJ (zA1 x.nm:Nat)).c=1) (hb:Lc.length+(zAg own (nm.take 16) (Wf.hd n) (cod own (nm.take 16) n) x kts Lc.length).length<=800000) :
  Calls prog 59 #[.pointer (some ⟨k,0,none⟩),.agg (zAG x).toArray,kv] w (YP k (.tuple #[]) (yv0 L bb off cap) (.int .i64 own) (yv2 nm av2 cap2) (Lc++zAg own (nm.take 16) (Wf.hd n) (cod own (nm.take 16) n) x kts Lc.length) lv w):=by
 obtain ⟨id,hidd⟩:∃ id:Int,((zA1 x.nm:Nat):Int)=id:=⟨_,rfl⟩
 have hcc:zAg own (nm.take 16) (Wf.hd n) (cod own (nm.take 16) n) x kts Lc.length=ins 6 id 0::(zAR (zCA own (nm.take 16) (Wf.hd n) (cod own (nm.take 16) n)) kts (Lc.length+1)++[ins 10 0 0]):=by
  unfold zAg;simp only;rw [if_neg (by omega),if_pos hc,hidd]
 rw [hcc] at hb ⊢;obtain ⟨f,hf⟩:∃ f,zCA own (nm.take 16) (Wf.hd n) (cod own (nm.take 16) n)=f:=⟨_,rfl⟩
 rw [hf] at hb ⊢;have HFF:Hid (zCA own (nm.take 16) (Wf.hd n) (cod own (nm.take 16) n)=f):=hf;obtain ⟨C,hC⟩:∃ C,zAR f kts (Lc.length+1)=C:=⟨_,rfl⟩
 rw [hC] at hb ⊢;have HC:Hid (zAR f kts (Lc.length+1)=C):=hC;have HBD:Hid (Lc.length+C.length+2<=800000):=by show _<=_;simp at hb;omega
 have HKK:Hid (Kds L own nm n ks kts):=hK;have H30:Hid (kts.length<=30):=hk30;have HIH:Hid (YNd L bb off cap own nm av2 cap2 n):=ih;clear hcc hC hb hK hk30 ih hf;have h0:YSt L bb off cap own nm av2 cap2 k w lv w Lc lv P kv ks:=⟨hen,hys,Nx.refl _ _,Fr.refl _ _,hkd⟩
 obtain ⟨avk,capk,rfl,_⟩:=h0.kid;have pX:=AtL.new0 w 35 (zAG x);have hb0:=zAM (Below.refl _ w) (.cells (zAG x).toArray 35);have c8:=pX.2.1 8 (.string x.nm) rfl;have RO:=zG3 (λw=>zBI w) x.nm (w.alloc (.cells (zAG x).toArray 35));rw [hkn] at RO;clear pX hen hys hkd hkn;go_enter func59,ntmps59;go_upto_region 1 with fail
 generalize (w.alloc (.cells (zAG x).toArray 35))=W1 at *;go_wp2_with fail
 refine RO.mono ?_;rintro e w2 ⟨⟨s,rfl,hsk⟩,hb2⟩;obtain ⟨hmem,hnm⟩:=hsk (by first | rfl | trivial);have HNM:Hid (s.nm=x.nm):=hnm;clear hnm;obtain ⟨h3,pS,HSB⟩:=zOC h0 (zAB hb0 hb2) s;obtain ⟨sb,hsb⟩:∃ sb,w2.heap.size=sb:=⟨_,rfl⟩
 clear RO hb2 hb0 h0 c8 hsk;go_upto_region 7 with fail
 generalize (w2.alloc (.cells (sg6 s.id s.c s.nm s.l s.m s.p).toArray 108))=W3 at *;rw [hsb] at pS HSB;try simp only [hsb]
 clear hsb;have t0:=pS.2.1 0 (.int .i64 s.id) rfl;have t1:=pS.2.1 1 (.int .i64 s.c) rfl;obtain ⟨hid,hsp⟩:=zBD hmem;obtain ⟨_,hsc,hsl,hsm⟩:=zBP hmem;rw [HNM.out] at hid;rw [hidd] at hid;rw [hidd,hid,hsc] at hc;rw [hc] at t1;subst hid;clear hidd;have LA:=h3.lay (ins 6 s.id 0).1 (by have:=HBD.out;omega);have hkl:ks.length<=30:=by have:=HKK.out.len;have:=H30.out;omega
 clear h3 hsp hsl hsm hmem hsc hc pS;go_wp2_with (first | (refine zA4 rfl 6 (.tmp 44) rfl s.id rfl ?_))
 refine LA.mono ?_;rintro e w4 ⟨rfl,lv4,P4,h4⟩;have HG0:Hid (YSt L bb off cap own nm av2 cap2 k w lv w4 (Lc++[ins 6 s.id 0]++zAR f (kts.take 0) (Lc.length+1)) lv4 P4 (.slice avk ks.length capk) ks):=by
  show YSt _ _ _ _ _ _ _ _ _ _ _ _ _ _ _ _ _
  simp only [List.take_zero,zAR,List.append_nil];exact h4
 clear LA h4 t0 t1;go_wp2_with fail
 go_loopg [8] ks.length (λgk y wr=>∃ j:Nat,y=.int .i64 (j:Int)/\gk=ks.length - j/\j<=ks.length/\Hid (∃ lvj Pj,YSt L bb off cap own nm av2 cap2 k w lv wr (Lc++[ins 6 s.id 0]++zAR f (kts.take j) (Lc.length+1)) lvj Pj (.slice avk ks.length capk) ks))
 case atStart=>exact ⟨0,rfl,rfl,Nat.zero_le _,⟨lv4,P4,HG0.out⟩⟩
 case round =>
  clear HG0;obtain ⟨j,rfl,hg,hj,HS⟩:=hrel;by_cases hlt:j<ks.length
  ·have hli:(j:Int)<(ks.length:Int):=by omega
   have hjz:(0:Int)<=(j:Int):=by omega
   have hwj:IntKind.i64.wrap ((j:Int)+1)=(j:Int)+1:=by rw [IntKind.wrap_i64];omega
   obtain ⟨lvj,Pj,hj1⟩:=HS.out;have hj2:j<kts.length:=by have:=HKK.out.len;omega
   obtain ⟨_,_,e9,hrj⟩:=hj1.kid;cases e9
   obtain ⟨bk,ok,rfl,hck⟩:=hrj j hlt;have hmem:=List.getElem_mem hj2;have hstep:=zBX f kts j hj2 (Lc.length+1);have hle:=zCX f kts (j+1) (Lc.length+1);rw [HC.out,hstep,List.length_append] at hle;have hsub:=HKK.out.sub j hlt hj2;have hfin:=HKK.out.fin _ hmem;have hln:(Lc++[ins 6 s.id 0]++zAR f (kts.take j) (Lc.length+1)).length=Lc.length+1+(zAR f (kts.take j) (Lc.length+1)).length:=by simp;omega
   have HST:Hid (Lc++[ins 6 s.id 0]++zAR f (kts.take (j+1)) (Lc.length+1)=Lc++[ins 6 s.id 0]++zAR f (kts.take j) (Lc.length+1)++f kts[j] (Lc++[ins 6 s.id 0]++zAR f (kts.take j) (Lc.length+1)).length):=by
    show _=_
    rw [hln,hstep];simp only [List.append_assoc]
   rw [<-hln] at hle;have HLE:Hid ((Lc++[ins 6 s.id 0]++zAR f (kts.take j) (Lc.length+1)).length+(f kts[j] (Lc++[ins 6 s.id 0]++zAR f (kts.take j) (Lc.length+1)).length).length<=799999):=by
    show _<=_
    have:=HBD.out;rw [hln] at hle ⊢;omega
   obtain ⟨X,hX⟩:∃ X,Lc++[ins 6 s.id 0]++zAR f (kts.take j) (Lc.length+1)=X:=⟨_,rfl⟩
   rw [hX] at hj1 HST HLE;obtain ⟨tq,htq⟩:∃ t,kts[j]=t:=⟨_,rfl⟩
   rw [htq] at hsub hfin HST HLE;obtain ⟨q,hq⟩:∃ q,ks[j]=q:=⟨_,rfl⟩
   rw [hq] at hsub hck;obtain ⟨hqL,hqe⟩:=List.getElem?_eq_some_iff.1 hsub.hd;have hyc:=hj1.en.at hqL;rw [hqe] at hyc;obtain ⟨y,hy⟩:∃ y,Wf.hd n tq=y:=⟨_,rfl⟩
   rw [hy] at hyc;have hy0:=hyc 0 (.int .i64 y.k) rfl;simp only [Nat.add_zero] at hy0;have rb:=(Below.refl wr.heap.size wr).drew;have hSD:wr.drew.cell? ⟨k,0,none⟩=some (.slice (some ⟨bb,off,none⟩) L.length cap)/\wr.drew.cell? ⟨bk,ok+j,none⟩=some (.int .i64 (q:Int))/\wr.drew.cell? ⟨bb,off+q * 20,none⟩=some (.int .i64 y.k):=⟨zAC rb (hj1.ys.at'.2.1 0 _ rfl),zAC rb hck,zAC rb hy0⟩
   have hD:=hj1.below rb;have hckD:=zAC rb hck;have hq0:(0:Int)<=(q:Int):=by omega
   have hq1:(q:Int)<(L.length:Int):=by omega
   have HSU:Hid (Sub L q n tq/\(zAz n tq/\zBB own (nm.take 16) n tq=0)/\Wf.hd n tq=y):=⟨hsub,hfin,hy⟩
   clear hj1 hrj hmem hstep hle HS hj2 hln hX htq hq hqL hqe hyc hy0 rb hck hsub hfin hy;go_upto_region 12 with fail
   refine wp_region_held_drew (S:=λW=>W.cell? ⟨k,0,none⟩=some (.slice (some ⟨bb,off,none⟩) L.length cap)/\W.cell? ⟨bk,ok+j,none⟩=some (.int .i64 (q:Int))/\W.cell? ⟨bb,off+q * 20,none⟩=some (.int .i64 y.k)) (by kernel_rfl) hSD (λhHeld=>?_);generalize wr.drew=WD at *;refine tkQ 0 ?_
   refine tkQ 1 ?_
   refine tkQ 2 ?_
   refine tkQ 3 ?_
   refine tkQ 4 ?_
   refine tkQ 5 ?_
   refine tkQ 6 ?_
   refine tkQ 7 ?_
   refine tkQ 8 ?_
   refine tkQ 9 ?_
   refine tkQ 10 ?_
   refine tkQ 11 ?_
   refine wpAnyH_done (by kernel_rfl) ?_ _;clear hHeld hSD;by_cases hy3:y.k=3
   ·have HFX:Hid (f tq X.length=[zAa 8 0 (areaN own (nm.take 16) y) a0I]):=by
     show _=_
     rw [<-HFF.out];unfold zCA;rw [HSU.out.2.2,if_pos (by simp [isA,hy3])]
    have AR:=hD.areaN HSU.out.1;rw [HSU.out.2.2] at AR;go_wp2_with fail
    refine AR.mono ?_;rintro e w6 ⟨rfl,hb6⟩;have LB:=(hD.below hb6).lay (zAa 8 0 (areaN own (nm.take 16) y) a0I).1 (by have:=HLE.out;omega);clear AR hD hb6 hckD;go_wp2_with (first | (refine zBc rfl (.tmp 71) rfl (areaN own (nm.take 16) y) rfl ?_))
    refine LB.mono ?_;rintro e w7 ⟨rfl,lv7,P7,h7⟩;have HS2:Hid (∃ lvj Pj,YSt L bb off cap own nm av2 cap2 k w lv w7 (Lc++[ins 6 s.id 0]++zAR f (kts.take (j+1)) (Lc.length+1)) lvj Pj (.slice (some ⟨bk,ok,none⟩) ks.length capk) ks):=by
     refine ⟨lv7,P7,?_⟩;rw [HST.out,HFX.out];exact h7
    clear LB h7;go_wp2_with fail
    go_roundg (ks.length - (j+1))
    case rel=>exact ⟨j+1,by simp,rfl,hlt,HS2⟩
    case measure=>omega
   ·have HFX:Hid (f tq X.length=zAY (cod own (nm.take 16) n) tq X.length):=by
     show _=_
     rw [<-HFF.out];unfold zCA;rw [HSU.out.2.2,if_neg (by simp [isA,hy3])]
    have FE:=hD.fed HIH.out HSU.out.1 ⟨HSU.out.2.1.1,HSU.out.2.1.2,by rw [HSU.out.2.2];simp [isA,hy3]⟩ (by
     have h1:=HLE.out;rw [HFX.out] at h1;simp [zAY] at h1;omega)
    clear hD;go_wp2_with fail
    refine FE.mono ?_;rintro e w7 ⟨rfl,lv7,P7,h7⟩;have HS2:Hid (∃ lvj Pj,YSt L bb off cap own nm av2 cap2 k w lv w7 (Lc++[ins 6 s.id 0]++zAR f (kts.take (j+1)) (Lc.length+1)) lvj Pj (.slice (some ⟨bk,ok,none⟩) ks.length capk) ks):=by
     refine ⟨lv7,P7,?_⟩;rw [HST.out,HFX.out];exact h7
    clear FE h7 hckD;go_wp2_with fail
    go_roundg (ks.length - (j+1))
    case rel=>exact ⟨j+1,by simp,rfl,hlt,HS2⟩
    case measure=>omega
  ·have hli:¬ (j:Int)<(ks.length:Int):=by omega
   obtain ⟨lvj,Pj,hj1⟩:=HS.out;rw [show kts.take j=kts from List.take_of_length_le (by have:=HKK.out.len;omega),HC.out] at hj1;have LC:=hj1.lay (ins 10 0 0).1 (by have:=HBD.out;simp;omega);clear hj1 HS;go_wp2_with (first | (refine zAQ rfl 10 rfl ?_))
   refine LC.mono ?_;rintro e w6 ⟨rfl,lv6,P6,h6⟩;have HR:Hid (YP k (.tuple #[]) (yv0 L bb off cap) (.int .i64 own) (yv2 nm av2 cap2) (Lc++ins 6 s.id 0::(C++[ins 10 0 0])) lv w (.returned (.tuple #[])) w6):=by
    have h8:=h6.yp;simp only [List.append_assoc,List.cons_append,List.nil_append] at h8;exact h8
   clear LC h6;go_wp2;go_end0
   exact HR.out
end
open Go.RowKit Wf
theorem zGS:∀ {n:Nat} {t:Tr n},zAz n t->Wt.right (Wf.hd n t)=true
 | 0,t,_=>Empty.elim t
 | _+1,_,h=>h.1
section
open Tryz
variable {L:List Wt.Nd} {bb off cap:Nat} {own:Int} {nm:List ByteArray} {av2:Option Addr} {cap2 k:Nat} {w:World} {Lc:List I} {lv:Value} {P:List (Wc.In × Value)} {kv:Value} {ks:List Nat}
theorem zDm {n:Nat} (ih:YNd L bb off cap own nm av2 cap2 n) {x:Wt.Nd} {tq:Tr n} {q0:Nat} (hen:MEn L bb off nm av2 k w) (hys:YS k w (yv0 L bb off cap) (.int .i64 own) (yv2 nm av2 cap2) Lc lv P) (hkd:x5_OwnI w (k+1) kv [q0]) (hK:Kds L own nm n [q0] [tq]) (hkn:zAb (zA1 x.nm:Nat)=true) (hfi:zA1 x.nm=26 \/ zA1 x.nm=27) (hA:isA (Wf.hd n tq)=true) (hb:Lc.length<=800000) :
  Calls prog 59 #[.pointer (some ⟨k,0,none⟩),.agg (zAG x).toArray,kv] w (YP k (.tuple #[]) (yv0 L bb off cap) (.int .i64 own) (yv2 nm av2 cap2) (Lc++zAg own (nm.take 16) (Wf.hd n) (cod own (nm.take 16) n) x [tq] Lc.length) lv w):=by
 obtain ⟨hi,lo,hHL⟩:∃ hi lo:Int,(zA1 x.nm=26/\(areaN own (nm.take 16) (Wf.hd n tq)).b=hi/\(areaN own (nm.take 16) (Wf.hd n tq)).t=lo) \/ (zA1 x.nm=27/\(areaN own (nm.take 16) (Wf.hd n tq)).r=hi/\(areaN own (nm.take 16) (Wf.hd n tq)).l=lo):=by
  rcases hfi with h | h
  ·exact ⟨_,_,Or.inl ⟨h,rfl,rfl⟩⟩
  ·exact ⟨_,_,Or.inr ⟨h,rfl,rfl⟩⟩
 have hcc:zAg own (nm.take 16) (Wf.hd n) (cod own (nm.take 16) n) x [tq] Lc.length=[zBU (zDF (hi - lo+1))]:=by
  have h1:(zAJ (zA1 x.nm:Nat)).c=2:=by rcases hfi with h | h <;> rw [h] <;> kernel_rfl
  unfold zAg;simp only;rw [if_neg (by omega),if_neg (by omega),if_pos h1];rcases hHL with ⟨h,rfl,rfl⟩ | ⟨h,rfl,rfl⟩
  all_goals
   rw [h];simp [zAw,zAe,hA]
 rw [hcc];have hrt:=zBr (zGS (hK.fin tq (by simp)).1) (by simpa [isA] using hA);have hbd:0<=hi - lo/\hi - lo<=65535/\0<=lo/\hi<=65535:=by
  obtain ⟨h1,h2⟩:=hrt;simp only [Wt.inR,Bool.and_eq_true,decide_eq_true_eq] at h1 h2;simp only [areaN,zBR] at hHL;omega
 have hsub:=hK.sub 0 (by simp) (by simp);simp only [List.getElem_cons_zero] at hsub;obtain ⟨A,hAA⟩:∃ A,areaN own (nm.take 16) (Wf.hd n tq)=A:=⟨_,rfl⟩
 rw [hAA] at hHL;have HHL:Hid ((zA1 x.nm=26/\A.b=hi/\A.t=lo) \/ (zA1 x.nm=27/\A.r=hi/\A.l=lo)):=hHL;have HAR:Hid (∀ {w0:World} {lv0:Value} {W:World} {LC:List I} {lv:Value} {P:List (Wc.In × Value)},YSt L bb off cap own nm av2 cap2 k w0 lv0 W LC lv P kv [q0]->Calls prog 87 #[.pointer (some ⟨k,0,none⟩),.int .i64 (q0:Int)] W λe w'=>e=.returned (.agg (ar5 A).toArray)/\Below W.heap.size W w'):=λh=>by have:=h.areaN hsub;rwa [hAA] at this
 have HNU:Hid (∀ W:World,Calls prog 89 #[.agg #[.int .i64 (hi - lo+1),.int .i64 1]] W λe w'=>e=.returned (.agg (vl6 (zDF (hi - lo+1))).toArray)/\Below W.heap.size W w'):=λW=>by
  have:=zFG (hi - lo+1) 1 W (by omega) (by omega) (by omega) (by omega);have hvn:zLh (hi - lo+1) 1=zDF (hi - lo+1):=by
   have hr:Wnum.rightB (hi - lo+1) 1=true:=by
    unfold Wnum.rightB;simp;omega
   simp [zLh,zDF,Wnum.cN,Wnum.cD,hr]
  rwa [hvn] at this
 have w1:IntKind.i64.wrap (hi - lo)=hi - lo:=by rw [IntKind.wrap_i64];omega
 have w2:IntKind.i64.wrap (hi - lo+1)=hi - lo+1:=by rw [IntKind.wrap_i64];omega
 have HLL:Hid (Lc.length<=1000000):=by show _<=_;omega
 clear hcc hrt hbd hsub hAA hK hA ih hb;have h0:YSt L bb off cap own nm av2 cap2 k w lv w Lc lv P kv [q0]:=⟨hen,hys,Nx.refl _ _,Fr.refl _ _,hkd⟩
 obtain ⟨avk,capk,rfl,hr0⟩:=h0.kid;obtain ⟨bk,ok,rfl,_⟩:=hr0 0 (by simp);clear hr0;have pX:=AtL.new0 w 35 (zAG x);have hb0:=zAM (Below.refl _ w) (.cells (zAG x).toArray 35);have c8:=pX.2.1 8 (.string x.nm) rfl;have RO:=zG3 (λw=>zBI w) x.nm (w.alloc (.cells (zAG x).toArray 35));rw [hkn] at RO;clear pX hen hys hkd hkn;go_enter func59,ntmps59;go_upto_region 1 with fail
 generalize (w.alloc (.cells (zAG x).toArray 35))=W1 at *;go_wp2_with fail
 refine RO.mono ?_;rintro e w2 ⟨⟨s,rfl,hsk⟩,hb2⟩;obtain ⟨hmem,hnm⟩:=hsk (by first | rfl | trivial);have HNM:Hid (s.nm=x.nm):=hnm;clear hnm;obtain ⟨h3,pS,HSB⟩:=zOC h0 (zAB hb0 hb2) s;obtain ⟨sb,hsb⟩:∃ sb,w2.heap.size=sb:=⟨_,rfl⟩
 clear RO hb2 hb0 h0 c8 hsk;go_upto_region 7 with fail
 generalize (w2.alloc (.cells (sg6 s.id s.c s.nm s.l s.m s.p).toArray 108))=W3 at *;rw [hsb] at pS HSB;try simp only [hsb]
 clear hsb;have t0:=pS.2.1 0 (.int .i64 s.id) rfl;have t1:=pS.2.1 1 (.int .i64 s.c) rfl;obtain ⟨hid,hsp⟩:=zBD hmem;obtain ⟨_,hsc,hsl,hsm⟩:=zBP hmem;rw [HNM.out] at hid;have AR:=HAR.out h3;have k0:=h3.cellAt (j:=0) rfl;simp only [Nat.add_zero] at k0;have hc2:s.c=2:=by
  rw [<-hsc,<-hid];rcases hfi with h | h <;> rw [h] <;> kernel_rfl
 rw [hc2] at t1;rcases HHL.out with ⟨hf,e1,e2⟩ | ⟨hf,e1,e2⟩
 all_goals
  first
  | rw [show s.id=26 from by omega] at t0
  | rw [show s.id=27 from by omega] at t0
  have E1:Hid (_=hi):=e1;have E2:Hid (_=lo):=e2;clear hsp hsl hsm hmem hsc hc2 hid pS HAR hfi HHL hHL e1 e2;go_wp2_with fail
  refine AR.mono ?_;rintro e w4 ⟨rfl,hb4⟩;have h4:=h3.below hb4;have hb5:=zAM (Below.refl _ w4) (.cells (ar5 A).toArray 53);have pA:=AtL.new0 w4 53 (ar5 A);have h5:=h4.below hb5;clear AR h3 h4 hb4 hb5 k0 t0 t1;first
  | (have hz:zA1 x.nm=26:=hf;clear hz;go_upto_region 24 with fail)
  | (have hz:zA1 x.nm=27:=hf;clear hz;go_upto_region 27 with fail)
  generalize (w4.alloc (.cells (ar5 A).toArray 53))=W5 at *;obtain ⟨ab,hab⟩:∃ ab,w4.heap.size=ab:=⟨_,rfl⟩
  rw [hab] at pA;try simp only [hab]
  clear hab;first
  | (have a1:=pA.2.1 3 (.int .i64 A.b) rfl;have a2:=pA.2.1 1 (.int .i64 A.t) rfl;rw [E1.out] at a1;rw [E2.out] at a2)
  | (have a1:=pA.2.1 4 (.int .i64 A.r) rfl;have a2:=pA.2.1 2 (.int .i64 A.l) rfl;rw [E1.out] at a1;rw [E2.out] at a2)
  have NU:=HNU.out W5;clear pA HNU E1 E2 hf;go_wp2_with fail
  refine NU.mono ?_;rintro e w6 ⟨rfl,hb6⟩;have LA:=(h5.below hb6).lay (zBU (zDF (hi - lo+1))).1 HLL.out;generalize zDF (hi - lo+1)=nv at *;clear NU h5 hb6 a1 a2;go_wp2_with (first | (refine zBN rfl (.tmp 127) rfl nv rfl ?_) | (refine zBN rfl (.tmp 147) rfl nv rfl ?_))
  refine LA.mono ?_;rintro e w7 ⟨rfl,lv7,P7,h7⟩;have HR:Hid (YP k (.tuple #[]) (yv0 L bb off cap) (.int .i64 own) (yv2 nm av2 cap2) (Lc++[zBU nv]) lv w (.returned (.tuple #[])) w7):=h7.yp;clear LA h7;go_wp2;go_end0
  exact HR.out
end
open Go.RowKit Wf
section
open Tryz
variable {L:List Wt.Nd} {bb off cap:Nat} {own:Int} {nm:List ByteArray} {av2:Option Addr} {cap2 k:Nat} {w:World} {Lc:List I} {lv:Value} {P:List (Wc.In × Value)} {kv:Value} {ks:List Nat}
theorem zKZ {n:Nat} (ih:YNd L bb off cap own nm av2 cap2 n) {x:Wt.Nd} {th:Tr n} {r:List (Tr n)} (hen:MEn L bb off nm av2 k w) (hys:YS k w (yv0 L bb off cap) (.int .i64 own) (yv2 nm av2 cap2) Lc lv P) (hkd:x5_OwnI w (k+1) kv ks) (hK:Kds L own nm n ks (th::r)) (hkn:zAb (zA1 x.nm:Nat)=true) (hk30:r.length<=29) (hfi:zA1 x.nm=25) (hA:isA (Wf.hd n th)=true) (hAr:∀ t ∈ r,isA (Wf.hd n t)=false) (hb:Lc.length+(zAg own (nm.take 16) (Wf.hd n) (cod own (nm.take 16) n) x (th::r) Lc.length).length<=800000) :
  Calls prog 59 #[.pointer (some ⟨k,0,none⟩),.agg (zAG x).toArray,kv] w (YP k (.tuple #[]) (yv0 L bb off cap) (.int .i64 own) (yv2 nm av2 cap2) (Lc++zAg own (nm.take 16) (Wf.hd n) (cod own (nm.take 16) n) x (th::r) Lc.length) lv w):=by
 have hcc:zAg own (nm.take 16) (Wf.hd n) (cod own (nm.take 16) n) x (th::r) Lc.length=zAR (cod own (nm.take 16) n) r Lc.length++[zAa 11 r.length (areaN own (nm.take 16) (Wf.hd n th)) a0I]:=by
  have h1:(zAJ (25:Nat)).c=2:=by kernel_rfl
  have h2:(th::r).filter (λk=>!isA (Wf.hd n k))=r:=by
   rw [List.filter_cons_of_neg (by simp [hA]),List.filter_eq_self.2 (λt ht=>by simp [hAr t ht])]
  unfold zAg;simp only [hfi];rw [if_neg (by rw [h1];omega),if_neg (by rw [h1];omega),if_pos h1];unfold zAw;simp only [h2];simp [zAe,hA]
 rw [hcc] at hb ⊢;replace hb:Lc.length+(zAR (cod own (nm.take 16) n) r Lc.length).length<=800000:=by rw [List.length_append] at hb;omega
 have hlen:ks.length=r.length+1:=by have:=hK.len;simpa using this
 have hsub:=hK.sub 0 (by omega) (by simp);simp only [List.getElem_cons_zero] at hsub;have HKJ:Hid (∀ j (h1:j<ks.length) (h2:1<=j),∃ (tq:Tr n),Sub L ks[j] n tq/\Wr own (nm.take 16) n tq/\zAR (cod own (nm.take 16) n) (r.take j) Lc.length=zAR (cod own (nm.take 16) n) (r.take (j - 1)) Lc.length++cod own (nm.take 16) n tq (Lc.length+(zAR (cod own (nm.take 16) n) (r.take (j - 1)) Lc.length).length)):=λj h1 h2=>by
  obtain ⟨i,rfl⟩:∃ i,j=i+1:=⟨j - 1,by omega⟩
  have hi:i<r.length:=by omega
  have hs:=hK.sub (i+1) h1 (by simp;omega);simp only [List.getElem_cons_succ] at hs;have hm:=List.getElem_mem hi;exact ⟨r[i],hs,⟨(hK.fin _ (List.mem_cons_of_mem _ hm)).1,(hK.fin _ (List.mem_cons_of_mem _ hm)).2,hAr _ hm⟩,zBX _ r i hi Lc.length⟩
 obtain ⟨q0,hq0⟩:∃ q0,ks[0]? = some q0:=⟨_,List.getElem?_eq_getElem (by omega:0<ks.length)⟩
 have hq1:=(List.getElem?_eq_some_iff.1 hq0).2;rw [hq1] at hsub;obtain ⟨A,hAA⟩:∃ A,areaN own (nm.take 16) (Wf.hd n th)=A:=⟨_,rfl⟩
 rw [hAA];have HAR:Hid (∀ {w0:World} {lv0:Value} {W:World} {LC:List I} {lv:Value} {P:List (Wc.In × Value)},YSt L bb off cap own nm av2 cap2 k w0 lv0 W LC lv P kv ks->Calls prog 87 #[.pointer (some ⟨k,0,none⟩),.int .i64 (q0:Int)] W λe w'=>e=.returned (.agg (ar5 A).toArray)/\Below W.heap.size W w'):=λh=>by have:=h.areaN hsub;rwa [hAA] at this
 obtain ⟨C,hC⟩:∃ C,zAR (cod own (nm.take 16) n) r Lc.length=C:=⟨_,rfl⟩
 rw [hC] at hb ⊢;have HC:Hid (zAR (cod own (nm.take 16) n) r Lc.length=C):=hC;have HBD:Hid (Lc.length+C.length<=800000):=hb;have HLN:Hid (ks.length=r.length+1/\r.length<=29):=⟨hlen,hk30⟩
 have HIH:Hid (YNd L bb off cap own nm av2 cap2 n):=ih;have HQ0:Hid (ks[0]? = some q0):=hq0;clear hcc hsub hAA hK hA hAr ih hb hC hlen hk30 hq0 hq1;have h0:YSt L bb off cap own nm av2 cap2 k w lv w Lc lv P kv ks:=⟨hen,hys,Nx.refl _ _,Fr.refl _ _,hkd⟩
 obtain ⟨avk,capk,rfl,_⟩:=h0.kid;have pX:=AtL.new0 w 35 (zAG x);have hb0:=zAM (Below.refl _ w) (.cells (zAG x).toArray 35);have c8:=pX.2.1 8 (.string x.nm) rfl;have RO:=zG3 (λw=>zBI w) x.nm (w.alloc (.cells (zAG x).toArray 35));rw [hkn] at RO;clear pX hen hys hkd hkn;go_enter func59,ntmps59;go_upto_region 1 with fail
 generalize (w.alloc (.cells (zAG x).toArray 35))=W1 at *;go_wp2_with fail
 refine RO.mono ?_;rintro e w2 ⟨⟨s,rfl,hsk⟩,hb2⟩;obtain ⟨hmem,hnm⟩:=hsk (by first | rfl | trivial);have HNM:Hid (s.nm=x.nm):=hnm;clear hnm;obtain ⟨h3,pS,HSB⟩:=zOC h0 (zAB hb0 hb2) s;obtain ⟨sb,hsb⟩:∃ sb,w2.heap.size=sb:=⟨_,rfl⟩
 clear RO hb2 hb0 h0 c8 hsk;go_upto_region 7 with fail
 generalize (w2.alloc (.cells (sg6 s.id s.c s.nm s.l s.m s.p).toArray 108))=W3 at *;rw [hsb] at pS HSB;try simp only [hsb]
 clear hsb;have t0:=pS.2.1 0 (.int .i64 s.id) rfl;have t1:=pS.2.1 1 (.int .i64 s.c) rfl;obtain ⟨hid,hsp⟩:=zBD hmem;obtain ⟨_,hsc,hsl,hsm⟩:=zBP hmem;rw [HNM.out] at hid;rw [hfi] at hid;have hid2:s.id=25:=by omega
 have hc2:s.c=2:=by rw [<-hsc,hid2];kernel_rfl
 rw [hc2] at t1;rw [hid2] at t0;have HG0:Hid (YSt L bb off cap own nm av2 cap2 k w lv W3 (Lc++zAR (cod own (nm.take 16) n) (r.take (1 - 1)) Lc.length) lv P (.slice avk ks.length capk) ks):=by
  show YSt _ _ _ _ _ _ _ _ _ _ _ _ _ _ _ _ _
  simp only [Nat.sub_self,List.take_zero,zAR,List.append_nil];exact h3
 have hkl:ks.length<=30:=by have:=HLN.out;omega
 have hk1:1<=ks.length:=by have:=HLN.out;omega
 clear hsp hsl hsm hmem hsc hc2 hid2 hid pS hfi h3;go_wp2_with fail
 clear t0 t1;go_loopg [9] (ks.length - 1) (λgk y wr=>∃ j:Nat,y=.int .i64 (j:Int)/\gk=ks.length - j/\j<=ks.length/\1<=j/\Hid (∃ lvj Pj,YSt L bb off cap own nm av2 cap2 k w lv wr (Lc++zAR (cod own (nm.take 16) n) (r.take (j - 1)) Lc.length) lvj Pj (.slice avk ks.length capk) ks))
 case atStart=>exact ⟨1,rfl,rfl,hk1,Nat.le_refl _,⟨lv,P,HG0.out⟩⟩
 case round =>
  clear HG0;obtain ⟨j,rfl,hg,hj,hj1l,HS⟩:=hrel;by_cases hlt:j<ks.length
  ·have hli:(j:Int)<(ks.length:Int):=by omega
   have hjz:(0:Int)<=(j:Int):=by omega
   have hwj:IntKind.i64.wrap ((j:Int)+1)=(j:Int)+1:=by rw [IntKind.wrap_i64];omega
   obtain ⟨lvj,Pj,hj1⟩:=HS.out;obtain ⟨_,_,e9,hrj⟩:=hj1.kid;cases e9
   obtain ⟨bk,ok,rfl,hck⟩:=hrj j hlt;obtain ⟨tq,hsub,hwr,hstep⟩:=HKJ.out j hlt hj1l;have hle:=zCX (cod own (nm.take 16) n) r j Lc.length;rw [HC.out,hstep,List.length_append] at hle;have ND:=hj1.node HIH.out hsub hwr (by
    have:=HBD.out;rw [List.length_append];omega)
   have HST:Hid (Lc++zAR (cod own (nm.take 16) n) (r.take (j - 1)) Lc.length++cod own (nm.take 16) n tq (Lc++zAR (cod own (nm.take 16) n) (r.take (j - 1)) Lc.length).length=Lc++zAR (cod own (nm.take 16) n) (r.take (j+1 - 1)) Lc.length):=by
    show _=_
    rw [Nat.add_sub_cancel,hstep,List.length_append,List.append_assoc]
   rw [HST.out] at ND;generalize ks[j]=q at *;clear hj1 hrj hstep hle HS HST hsub hwr;go_wp2_with fail
   refine ND.mono ?_;rintro e w5 ⟨rfl,lv5,P5,h5⟩;have HS2:Hid (∃ lvj Pj,YSt L bb off cap own nm av2 cap2 k w lv w5 (Lc++zAR (cod own (nm.take 16) n) (r.take (j+1 - 1)) Lc.length) lvj Pj (.slice (some ⟨bk,ok,none⟩) ks.length capk) ks):=⟨lv5,P5,h5⟩
   clear ND h5 hck;go_wp2_with fail
   go_roundg (ks.length - (j+1))
   case rel=>exact ⟨j+1,by simp,rfl,hlt,by omega,HS2⟩
   case measure=>omega
  ·have hli:¬ (j:Int)<(ks.length:Int):=by omega
   obtain ⟨lvj,Pj,hj1⟩:=HS.out;rw [show r.take (j - 1)=r from List.take_of_length_le (by have:=HLN.out;omega),HC.out] at hj1;obtain ⟨_,_,e9,hrj⟩:=hj1.kid;cases e9
   obtain ⟨bk,ok,rfl,_⟩:=hrj 0 (by omega);have k0:=hj1.cellAt HQ0.out;simp only [Nat.add_zero] at k0;have AR:=HAR.out hj1;have hl0:(0:Int)<(ks.length:Int):=by omega
   have hws:IntKind.i64.wrap ((ks.length:Int) - 1)=(ks.length:Int) - 1:=by rw [IntKind.wrap_i64];omega
   have HLR:Hid ((ks.length:Int) - 1=(r.length:Int)):=by show _=_;have:=HLN.out;omega
   clear HS hrj HAR;go_wp2_with fail
   refine AR.mono ?_;rintro e w4 ⟨rfl,hb4⟩;have LA:=(hj1.below hb4).lay (zAa 11 ((ks.length:Int) - 1) A a0I).1 (by have:=HBD.out;rw [List.length_append];omega);clear AR hj1 hb4 k0;go_wp2_with (first | (refine zCl rfl (.tmp 104) (.tmp 107) rfl A ((ks.length:Int) - 1) rfl rfl ?_))
   refine LA.mono ?_;rintro e w7 ⟨rfl,lv7,P7,h7⟩;have HR:Hid (YP k (.tuple #[]) (yv0 L bb off cap) (.int .i64 own) (yv2 nm av2 cap2) (Lc++(C++[zAa 11 r.length A a0I])) lv w (.returned (.tuple #[])) w7):=by
    have h8:=h7.yp;rw [HLR.out,List.append_assoc] at h8;exact h8
   clear LA h7;go_wp2;go_end0
   exact HR.out
end
open Go.RowKit Wf
theorem sh25:(zAJ 25).p.data.toList=[97,118]/\(zAJ 25).l=2/\(zAJ 25).m=3:=⟨by kernel_rfl,by kernel_rfl,by kernel_rfl⟩
theorem sh26:(zAJ 26).p.data.toList=[97]/\(zAJ 26).l=1/\(zAJ 26).m=1:=⟨by kernel_rfl,by kernel_rfl,by kernel_rfl⟩
theorem sh27:(zAJ 27).p.data.toList=[97]/\(zAJ 27).l=1/\(zAJ 27).m=1:=⟨by kernel_rfl,by kernel_rfl,by kernel_rfl⟩
theorem zHW {ks:List Wt.Nd} (h:zDC x ks=0):zAb ((zA1 x.nm:Nat):Int)=true/\((zAJ ((zA1 x.nm:Nat):Int)).l<=x.ar/\x.ar<=(zAJ ((zA1 x.nm:Nat):Int)).m)/\zA0 (zAJ ((zA1 x.nm:Nat):Int)).p.data.toList ks 0=true:=by
 obtain ⟨h1,h2,h3⟩:=zCM h;refine ⟨h1,⟨h2,?_⟩,h3⟩;unfold zDC at h;simp only at h;rw [if_neg (by rw [h1];simp)] at h;by_cases hm:(zAJ ((zA1 x.nm:Nat):Int)).m<x.ar
 ·rw [if_pos (Or.inr hm)] at h;omega
 ·omega
theorem zFn:∀ (l:List Wt.Nd) {i:Nat},zA0 [97,118] l (i+1)=true->∀ x ∈ l,isA x=false
 | [],i,h,x,hx=>by cases hx
 | y::r,i,h,x,hx=>by
  unfold zA0 at h;have e1:([97,118]:List UInt8).getD (min (i+1) (([97,118]:List UInt8).length - 1)) 0=118:=by
   rw [show min (i+1) (([97,118]:List UInt8).length - 1)=1 from by simp];rfl
  rw [e1] at h;cases hy:isA y with
  | true=>rw [hy] at h;simp at h
  | false =>
   rw [hy] at h;simp at h;rcases List.mem_cons.1 hx with rfl | hx
   ·exact hy
   ·exact zFn r h x hx
section
open Tryz
variable {L:List Wt.Nd} {bb off cap:Nat} {own:Int} {nm:List ByteArray} {av2:Option Addr} {cap2 k:Nat} {w:World} {Lc:List I} {lv:Value} {P:List (Wc.In × Value)} {kv:Value} {ks:List Nat}
theorem zFp {n:Nat} (ih:YNd L bb off cap own nm av2 cap2 n) {x:Wt.Nd} {kts:List (Tr n)} (hen:MEn L bb off nm av2 k w) (hys:YS k w (yv0 L bb off cap) (.int .i64 own) (yv2 nm av2 cap2) Lc lv P) (hkd:x5_OwnI w (k+1) kv ks) (hK:Kds L own nm n ks kts) (hkn:zAb (zA1 x.nm:Nat)=true) (hk30:kts.length<=30) (hq:((zAJ (zA1 x.nm:Nat)).c=2/\20<=zA1 x.nm/\zA1 x.nm<=24) \/ ((zAJ (zA1 x.nm:Nat)).c=3/\(zA1 x.nm=30 \/ zA1 x.nm=31 \/ zA1 x.nm=32)/\2<=kts.length/\∀ t ∈ kts,isA (Wf.hd n t)=false)) (hlm:(zAJ (zA1 x.nm:Nat)).l<=(kts.length:Int)/\(kts.length:Int)<=(zAJ (zA1 x.nm:Nat)).m) (htk:zA0 (zAJ (zA1 x.nm:Nat)).p.data.toList (kts.map (Wf.hd n)) 0=true) (hb:Lc.length+(zAg own (nm.take 16) (Wf.hd n) (cod own (nm.take 16) n) x kts Lc.length).length<=800000) :
  Calls prog 59 #[.pointer (some ⟨k,0,none⟩),.agg (zAG x).toArray,kv] w (YP k (.tuple #[]) (yv0 L bb off cap) (.int .i64 own) (yv2 nm av2 cap2) (Lc++zAg own (nm.take 16) (Wf.hd n) (cod own (nm.take 16) n) x kts Lc.length) lv w):=by
 obtain ⟨C,hC⟩:∃ C,zAg own (nm.take 16) (Wf.hd n) (cod own (nm.take 16) n) x kts Lc.length=C:=⟨_,rfl⟩
 obtain ⟨id,hidd⟩:∃ id:Int,((zA1 x.nm:Nat):Int)=id:=⟨_,rfl⟩
 have HSK:Hid (((zAJ id).c=2/\∀ {w0:World} {lv0:Value} {W:World},YSt L bb off cap own nm av2 cap2 k w0 lv0 W Lc lv P kv ks->Calls prog 90 #[.pointer (.some ⟨k,0,none⟩),.int .i64 id,kv] W λe w'=>e=.returned (.tuple #[])/\∃ lv' P',YSt L bb off cap own nm av2 cap2 k w0 lv0 w' (Lc++C) lv' P' kv ks) \/ ((zAJ id).c=3/\∀ {w0:World} {lv0:Value} {W:World},YSt L bb off cap own nm av2 cap2 k w0 lv0 W Lc lv P kv ks->Calls prog 91 #[.pointer (.some ⟨k,0,none⟩),.int .i64 id,kv] W λe w'=>e=.returned (.tuple #[])/\∃ lv' P',YSt L bb off cap own nm av2 cap2 k w0 lv0 w' (Lc++C) lv' P' kv ks)):=by
  rw [hidd] at hlm htk hq;unfold zAg at hC;simp only at hC;rw [hidd] at hC;rcases hq with ⟨hc,hr⟩ | ⟨hc,hr,h2,hv⟩
  ·rw [if_neg (by omega),if_neg (by omega),if_pos hc] at hC;refine Or.inl ⟨hc,λh=>?_⟩;have h9:=zJS ih h id (by omega) hK hlm htk;rw [hC] at h9;exact h9 (by rw [<-hC];unfold zAg at hb;simp only at hb;rw [hidd,if_neg (by omega),if_neg (by omega),if_pos hc] at hb;exact hb)
  ·rw [if_neg (by omega),if_neg (by omega),if_neg (by omega)] at hC;refine Or.inr ⟨hc,λh=>?_⟩;have h9:=zI3 ih id (by omega) h hK h2 hk30 hlm.2 hv;rw [hC] at h9;exact h9 (by rw [<-hC];unfold zAg at hb;simp only at hb;rw [hidd,if_neg (by omega),if_neg (by omega),if_neg (by omega)] at hb;exact hb)
 have hio:¬ id=25/\¬ id=26/\¬ id=27:=by omega
 rw [hC];have n1:(id == 25)=false:=by simpa using hio.1
 have n2:(id == 26)=false:=by simpa using hio.2.1
 have n3:(id == 27)=false:=by simpa using hio.2.2
 clear hC hb hK hk30 ih hlm htk hio hq;have h0:YSt L bb off cap own nm av2 cap2 k w lv w Lc lv P kv ks:=⟨hen,hys,Nx.refl _ _,Fr.refl _ _,hkd⟩
 obtain ⟨avk,capk,rfl,_⟩:=h0.kid;have pX:=AtL.new0 w 35 (zAG x);have hb0:=zAM (Below.refl _ w) (.cells (zAG x).toArray 35);have c8:=pX.2.1 8 (.string x.nm) rfl;have RO:=zG3 (λw=>zBI w) x.nm (w.alloc (.cells (zAG x).toArray 35));rw [hkn] at RO;clear pX hen hys hkd hkn;go_enter func59,ntmps59;go_upto_region 1 with fail
 generalize (w.alloc (.cells (zAG x).toArray 35))=W1 at *;go_wp2_with fail
 refine RO.mono ?_;rintro e w2 ⟨⟨s,rfl,hsk⟩,hb2⟩;obtain ⟨hmem,hnm⟩:=hsk (by first | rfl | trivial);have HNM:Hid (s.nm=x.nm):=hnm;clear hnm;obtain ⟨h3,pS,HSB⟩:=zOC h0 (zAB hb0 hb2) s;obtain ⟨sb,hsb⟩:∃ sb,w2.heap.size=sb:=⟨_,rfl⟩
 clear RO hb2 hb0 h0 c8 hsk;go_upto_region 7 with fail
 generalize (w2.alloc (.cells (sg6 s.id s.c s.nm s.l s.m s.p).toArray 108))=W3 at *;rw [hsb] at pS HSB;try simp only [hsb]
 clear hsb;have t0:=pS.2.1 0 (.int .i64 s.id) rfl;have t1:=pS.2.1 1 (.int .i64 s.c) rfl;obtain ⟨hid,hsp⟩:=zBD hmem;obtain ⟨_,hsc,hsl,hsm⟩:=zBP hmem;rw [HNM.out] at hid;rw [hidd] at hid;have hcd:s.c=(zAJ id).c:=by rw [hid];exact hsc.symm
 rw [hcd] at t1;subst hid;clear hidd hcd hsp hsl hsm hmem hsc pS;rcases HSK.out with ⟨hc,SE⟩ | ⟨hc,SE⟩
 all_goals
  have SE:=SE h3;rw [hc] at t1;clear h3 hc HSK;go_wp2_with fail
  refine SE.mono ?_;rintro e w6 ⟨rfl,lv6,P6,h6⟩;have HR:Hid (YP k (.tuple #[]) (yv0 L bb off cap) (.int .i64 own) (yv2 nm av2 cap2) (Lc++C) lv w (.returned (.tuple #[])) w6):=h6.yp;clear SE h6 t0 t1;go_wp2;go_end0
  exact HR.out
theorem zHV {n:Nat} (ih:YNd L bb off cap own nm av2 cap2 n) {x:Wt.Nd} {kts:List (Tr n)} (hen:MEn L bb off nm av2 k w) (hys:YS k w (yv0 L bb off cap) (.int .i64 own) (yv2 nm av2 cap2) Lc lv P) (hkd:x5_OwnI w (k+1) kv ks) (hK:Kds L own nm n ks kts) (hrc:zDC x (kts.map (Wf.hd n))=0) (har:x.ar=kts.length) (hk30:kts.length<=30) (hb:Lc.length+(zAg own (nm.take 16) (Wf.hd n) (cod own (nm.take 16) n) x kts Lc.length).length<=800000) :
  Calls prog 59 #[.pointer (some ⟨k,0,none⟩),.agg (zAG x).toArray,kv] w (YP k (.tuple #[]) (yv0 L bb off cap) (.int .i64 own) (yv2 nm av2 cap2) (Lc++zAg own (nm.take 16) (Wf.hd n) (cod own (nm.take 16) n) x kts Lc.length) lv w):=by
 obtain ⟨hkn,hlm,htk⟩:=zHW hrc;rw [har] at hlm;have hone:∀ {p:List UInt8},p=[97]->zA0 p (kts.map (Wf.hd n)) 0=true->kts.length=1->∃ tq q0,kts=[tq]/\ks=[q0]/\isA (Wf.hd n tq)=true:=by
  intro p hp ht hl;subst hp;have hlen:=hK.len;match kts,ks,hl,hlen,ht with
  | [tq],[q0],_,_,ht =>
   refine ⟨tq,q0,rfl,rfl,?_⟩;simp only [List.map_cons,List.map_nil,zA0] at ht;cases h:isA (Wf.hd n tq) <;> simp [h] at ht ⊢
 rcases zGP x.nm hkn with h9 | h9 | h9 | h9
 ·exact zMY ih hen hys hkd hK hkn hk30 h9.1 hb
 ·by_cases h24:zA1 x.nm<=24
  ·exact zFp ih hen hys hkd hK hkn hk30 (Or.inl ⟨h9.1,h9.2.1,h24⟩) hlm htk hb
  ·have hi:zA1 x.nm=25 \/ zA1 x.nm=26 \/ zA1 x.nm=27:=by omega
   rcases hi with hi | hi | hi
   ·have hz:((zA1 x.nm:Nat):Int)=25:=by omega
    rw [hz,sh25.1] at htk;rw [hz,sh25.2.1,sh25.2.2] at hlm;match kts,hlm,htk,hK,hb,har,hk30 with
    | th::r,hlm,htk,hK,hb,_,hk30 =>
     have hA:isA (Wf.hd n th)=true:=by
      simp only [List.map_cons,zA0] at htk;cases h:isA (Wf.hd n th) <;> simp [h] at htk ⊢
     have hAr:∀ t ∈ r,isA (Wf.hd n t)=false:=λt ht=>by
      simp only [List.map_cons,zA0] at htk;rw [hA] at htk;simp at htk;exact zFn _ htk _ (List.mem_map.2 ⟨t,ht,rfl⟩)
     exact zKZ ih hen hys hkd hK hkn (by simp at hk30;omega) hi hA hAr hb
    | [],hlm,_,_,_,_,_=>simp at hlm
   ·have hz:((zA1 x.nm:Nat):Int)=26:=by omega
    rw [hz,sh26.1] at htk;rw [hz,sh26.2.1,sh26.2.2] at hlm;obtain ⟨tq,q0,rfl,rfl,hA⟩:=hone rfl htk (by omega);exact zDm ih hen hys hkd hK hkn (Or.inl hi) hA (by omega)
   ·have hz:((zA1 x.nm:Nat):Int)=27:=by omega
    rw [hz,sh27.1] at htk;rw [hz,sh27.2.1,sh27.2.2] at hlm;obtain ⟨tq,q0,rfl,rfl,hA⟩:=hone rfl htk (by omega);exact zDm ih hen hys hkd hK hkn (Or.inr hi) hA (by omega)
 ·have htk2:=htk;rw [h9.2.1] at htk2;exact zFp ih hen hys hkd hK hkn hk30 (Or.inr ⟨h9.1,h9.2.2.1,by omega,λt ht=>zCi _ 0 htk2 _ (List.mem_map.2 ⟨t,ht,rfl⟩)⟩) hlm htk hb
 ·rw [h9.2] at htk;exact zM6 ih hen hys hkd hK hkn hk30 h9.1 (λt ht=>zCi _ 0 htk _ (List.mem_map.2 ⟨t,ht,rfl⟩)) har hb
end
open Go.RowKit Wf
theorem zKY {w:World} {k:Nat} (h:w.rangeAt k 0 (zAG x)):w.rangeAt k 1 (vl6 x.v):=λj v hv=>by
 have:=h (1+j) v (by
  match j,hv with
  | 0,hv=>exact hv
  | 1,hv=>exact hv
  | 2,hv=>exact hv
  | 3,hv=>exact hv
  | 4,hv=>exact hv
  | 5,hv=>exact hv
  | j+6,hv=>simp [vl6] at hv)
 rw [Nat.zero_add] at this;exact this
section
open Tryz
variable {L:List Wt.Nd} {bb off cap:Nat} {own:Int} {nm:List ByteArray} {av2:Option Addr} {cap2:Nat}
theorem zJx {n:Nat} (ih:YNd L bb off cap own nm av2 cap2 n) (hn:n<=L.length+1):YNd L bb off cap own nm av2 cap2 (n+1):=by
 intro t i k w Lc lv P hs hw hen hys hb;obtain ⟨x,ks⟩:Br (Tr n):=t;obtain ⟨hF,hR,hA⟩:=hw;have hx:Wt.right x=true:=hF.1;have hp:Wt.parts x=(ks.length:Int):=hF.2.1;have hks:∀ t ∈ ks,zAz n t:=hF.2.2;have hA':isA x=false:=hA;have hgx:L[i]? = some x:=hs.hd;obtain ⟨hi,hge⟩:=List.getElem?_eq_some_iff.1 hgx;have hkp:zBa L i=kp n (i+1) ks:=hs.kids hF hn;have hzz:∀ a ∈ zB2 own (nm.take 16) x (ks.map (hd n))::ks.map (zBB own (nm.take 16) n),a=0:=zBW hR;have hrn:zB2 own (nm.take 16) x (ks.map (hd n))=0:=hzz _ (List.mem_cons_self ..);have hrk:∀ t ∈ ks,zBB own (nm.take 16) n t=0:=λt ht=>hzz _ (List.mem_cons_of_mem _ (List.mem_map.2 ⟨t,ht,rfl⟩))
 have hl30:ks.length<=30:=by have:=(Wt.parts_le hx).2;omega
 have HKD:Hid (Kds L own nm n (kp n (i+1) ks) ks):=⟨zDj n ks (i+1),λj h1 h2=>(hs.kid h2 h1).2,λt ht=>⟨hks t ht,hrk t ht⟩⟩
 have hcd:cod own (nm.take 16) (n+1) (⟨x,ks⟩:Br (Tr n)) Lc.length=zAh own (nm.take 16) (hd n) (cod own (nm.take 16) n) x ks Lc.length:=rfl;rw [hcd] at hb ⊢;have hb0:Below w.heap.size w ((w.alloc (.cells zN0 35)).setCells w.heap.size 0 (zAG x)):=zAv (zAM (Below.refl _ w) _) (Nat.le_refl _) _ 0;have hth:World.there (w.alloc (.cells zN0 35)) w.heap.size 0 (zAG x).toArray.size:=(AtL.new0 w 35 [.int .i64 0,.int .i64 0,.int .i64 0,.int .i64 0,.string ⟨#[]⟩,.bool false,.int .i64 0,.int .i64 0,.string ⟨#[]⟩,.int .i64 0,.string ⟨#[]⟩,.int .i64 0,.int .i64 0,.bool false,.bool false,.string ⟨#[]⟩,.int .i64 0,.int .i64 0,.bool false,.bool false]).there;have pX:AtL ((w.alloc (.cells zN0 35)).setCells w.heap.size 0 (zAG x)) w.heap.size (zAG x):=(AtL.new0 w 35 [.int .i64 0,.int .i64 0,.int .i64 0,.int .i64 0,.string ⟨#[]⟩,.bool false,.int .i64 0,.int .i64 0,.string ⟨#[]⟩,.int .i64 0,.string ⟨#[]⟩,.int .i64 0,.int .i64 0,.bool false,.bool false,.string ⟨#[]⟩,.int .i64 0,.int .i64 0,.bool false,.bool false]).setAll rfl;have hr:w.rangeAt bb (off+i * 20) (zAG x):=by have:=hen.at hi;rw [hge] at this;exact this
 have hbd:k<w.heap.size:=hys.at'.lt;have ck0:=hys.at'.2.1 0 _ rfl;have ck1:=(hys.below hb0).at'.2.1 0 _ rfl;have ST:=zBy (some ⟨bb,off,none⟩) cap L i _ hen.hF (hen.rn.below hb0) hi hen.hc;rw [hkp] at ST;have HYS:Hid (YS k w (yv0 L bb off cap) (.int .i64 own) (yv2 nm av2 cap2) Lc lv P):=hys;have HEN:Hid (MEn L bb off nm av2 k w):=hen;have HB:Hid (Lc.length+(zAh own (nm.take 16) (hd n) (cod own (nm.take 16) n) x ks Lc.length).length<=800000):=hb;have HIH:Hid (YNd L bb off cap own nm av2 cap2 n):=ih;have HRN:Hid (zB2 own (nm.take 16) x (ks.map (hd n))=0):=hrn;have HPP:Hid (Wt.parts x=(ks.length:Int)/\ks.length<=30/\isA x=false/\Wt.right x=true):=⟨hp,hl30,hA',hx⟩
 have hi0:(0:Int)<=(i:Int):=by omega
 have hi1:(i:Int)<(L.length:Int):=by omega
 have HKW:Hid (k<w.heap.size/\∀ j,lv.ownBlock=some j->j<w.heap.size):=⟨hbd,λj e=>(zAK hys.own e).2⟩
 clear hs hF hR hA hx hp hks hA' hgx hi hge hkp hzz hrn hrk hl30 hcd hb hen hys ih hbd hn;go_enter func32,ntmps32;go_upto_region 1 with (first | (refine zAA (by rfl) 35 (.tmp 11) rfl bb (off+i * 20) rfl (zAG x) _ hr underlying35 rfl (by kernel_rfl) ?_) | ((with_reducible refine wpList_store_mid ?_ 35 (.tmp 4) (.tmp 12) ?_ w.heap.size 0 (zAG x).toArray ?_ ?_ ?_ ?_ ?_ ?_);rfl;rfl;rfl;rfl;exact hth;kernel_rfl;exact zC6 _))
 have HPX:Hid (AtL ((w.alloc (.cells zN0 35)).setCells w.heap.size 0 (zAG x)) w.heap.size (zAG x)):=pX;have HB0:Hid (Below w.heap.size w ((w.alloc (.cells zN0 35)).setCells w.heap.size 0 (zAG x))):=hb0;generalize ((w.alloc (.cells zN0 35)).setCells w.heap.size 0 (zAG x))=W at *;clear hth hr pX hb0 ck0;go_wp2_with fail
 refine ST.mono ?_;rintro e w1 ⟨v,rfl,own1,hb1⟩;obtain ⟨avk,capk,rfl,_⟩:=zCa own1;have hB1:=zAB HB0.out hb1;have hst:YSt L bb off cap own nm av2 cap2 k w lv w1 Lc lv P (.slice avk (kp n (i+1) ks).length capk) (kp n (i+1) ks):=⟨HEN.out.below hB1,HYS.out.below hB1,Nx.refl _ _,Fr.of_below _ hB1,zN4 own1 (by have:=HB0.out.size;have:=HKW.out.1;omega)⟩
 have HST:Hid (YSt L bb off cap own nm av2 cap2 k w lv w1 Lc lv P (.slice avk (kp n (i+1) ks).length capk) (kp n (i+1) ks)):=hst;have pX1:=AtL.below hb1 HPX.out;have HX1:Hid (AtL w1 w.heap.size (zAG x)):=pX1;have HSB:Hid (w.heap.size ∉ k::lv.ownBlock.toList):=λhm=>by
  rcases List.mem_cons.1 hm with q | q
  ·have:=HKW.out.1;omega
  ·have:=HKW.out.2 _ (show lv.ownBlock=some w.heap.size by simpa using q);omega
 have c0:=pX1.2.1 0 (.int .i64 x.k) rfl;have hk:=zDY HPP.out.2.2.2;have hk3:¬ x.k=3:=λh=>by have:=HPP.out.2.2.1;simp [isA,h] at this
 clear ST own1 hb1 hB1 hst pX1 HPX HB0 HEN HYS ck1;rcases hk with h | h | h | h | h | h
 ·have hn1:zAh own (nm.take 16) (hd n) (cod own (nm.take 16) n) x ks Lc.length=[zBU x.v]:=by unfold zAh;rw [if_pos h]
  have HN1:Hid (_=_):=hn1;have hbb:=HB.out;rw [hn1] at hbb;rw [h] at c0;have rv:=zKY HX1.out.range;have LA:=HST.out.lay (zBU x.v).1 (by simp at hbb;omega);clear h hn1 hk3 hbb;go_wp2_with (first | (refine zAA (by rfl) 31 (.tmp 24) rfl w.heap.size 1 rfl (vl6 x.v) _ rv underlying31 rfl (by kernel_rfl) ?_) | (refine zBN rfl (.tmp 25) rfl x.v rfl ?_))
  refine LA.mono ?_;rintro e w5 ⟨rfl,lv5,P5,h5⟩;have HR:Hid (YP k (.tuple #[]) (yv0 L bb off cap) (.int .i64 own) (yv2 nm av2 cap2) (Lc++[zBU x.v]) lv w (.returned (.tuple #[])) w5):=h5.yp;clear LA h5 rv c0;go_wp2;go_end0
  rw [HN1.out];exact HR.out
 ·have hn1:zAh own (nm.take 16) (hd n) (cod own (nm.take 16) n) x ks Lc.length=[zIC (zDG own (nm.take 16) x)]:=by unfold zAh;rw [if_neg (by omega),if_pos h]
  have HN1:Hid (_=_):=hn1;have hbb:=HB.out;rw [hn1] at hbb;rw [h] at c0;have hD:=HST.out.below (Below.refl w1.heap.size w1).drew;have d10:w1.drew.cell? ⟨w.heap.size,10,none⟩=some (.string x.a.s):=HX1.out.2.1 10 _ rfl;have d11:w1.drew.cell? ⟨w.heap.size,11,none⟩=some (.int .i64 x.a.r):=HX1.out.2.1 11 _ rfl;have d12:w1.drew.cell? ⟨w.heap.size,12,none⟩=some (.int .i64 x.a.c):=HX1.out.2.1 12 _ rfl;have NU:=λ(W:World) (h:RdS W av2 nm)=>zB7 x.a.s own nm av2 nm.length cap2 W rfl hD.en.hl h
  have LA:=hD.base.lay (zIC (zDG own (nm.take 16) x)).1 (by simp at hbb;omega);clear h hn1 hk3 hbb;go_upto_region 6 with fail
  refine wp_region_held_drew (S:=λW=>W.cell? ⟨k,1,none⟩=some (.int .i64 own)/\W.cell? ⟨k,2,none⟩=some (yv2 nm av2 cap2)/\W.cell? ⟨w.heap.size,10,none⟩=some (.string x.a.s)/\W.cell? ⟨w.heap.size,11,none⟩=some (.int .i64 x.a.r)/\W.cell? ⟨w.heap.size,12,none⟩=some (.int .i64 x.a.c)) (by kernel_rfl) ⟨hD.ys.at'.2.1 1 _ rfl,hD.ys.at'.2.1 2 _ rfl,d10,d11,d12⟩ (λhHeld=>?_);generalize w1.drew=WD at *;refine tkQ 0 ?_
  refine tkQ 1 ?_
  refine tkQ 2 ?_
  refine tkQ 3 ?_
  refine tkQ 4 ?_
  refine tkQ 5 ?_
  refine tkQ 6 ?_
  refine tkQ 7 ?_
  refine tkQ 8 ?_
  refine tkQ 9 ?_
  refine tkQ 10 ?_
  refine tkQ 11 ?_
  refine tkQ 13 ?_
  refine tkQ 14 ?_
  refine tkQ 15 ?_
  refine tkQ 16 ?_
  refine tkQ 17 ?_
  refine tkQ 18 ?_
  refine rdQ 12 (λK hK=>?_);go_simp
  refine (NU WD hD.en.rs).mono ?_;rintro e w4 ⟨rfl,rfl⟩;go_wp2_with fail
  refine hkQ hK ⟨hD.ys.at'.2.1 1 _ rfl,hD.ys.at'.2.1 2 _ rfl,d10,d11,d12⟩ (λhHeld=>?_);clear hK K
  refine tkQ 19 ?_
  refine wpAnyH_take (i:=20) (v:=.agg (zAD (zIC (zDG own (nm.take 16) x)).1 zAH).toArray) (atQ rfl) (by kernel_rfl) (by kernel_rfl) (by kernel_rfl) (λ_ _ _ h=>h) (Or.inl ⟨by rfl,λW _=>zEY (.tmp 49) rfl (zDG own (nm.take 16) x) rfl W⟩) (by assumption) ?_;try simp only [Act.put,lA,lZ,lS]
  refine rdQ 21 (λK hK=>?_);go_simp
  refine LA.mono ?_;rintro e w5 ⟨rfl,lv5,P5,h5⟩;go_wp2_with fail
  have HR:Hid (YP k (.tuple #[]) (yv0 L bb off cap) (.int .i64 own) (yv2 nm av2 cap2) (Lc++[zIC (zDG own (nm.take 16) x)]) lv w (.returned (.tuple #[])) w5):=(hD.over h5).yp;have e10:=h5.fr.cell d10 HSB.out;have e11:=h5.fr.cell d11 HSB.out;have e12:=h5.fr.cell d12 HSB.out;refine hkQ hK ⟨h5.ys.at'.2.1 1 _ rfl,h5.ys.at'.2.1 2 _ rfl,e10,e11,e12⟩ (λhHeld=>?_);clear hK K
  refine wpAnyH_done (by kernel_rfl) ?_ _;clear hHeld;go_wp2;go_end0
  rw [HN1.out];exact HR.out
 ·exact absurd h hk3
 ·have hn1:zAh own (nm.take 16) (hd n) (cod own (nm.take 16) n) x ks Lc.length=zAR (cod own (nm.take 16) n) ks Lc.length++[ins 3 x.op 0]:=by unfold zAh;rw [if_neg (by omega),if_neg (by omega),if_pos h]
  have hpp:=HPP.out.1;unfold Wt.parts at hpp;rw [if_pos h] at hpp;have hrn:=HRN.out;unfold zB2 at hrn;rw [if_neg (by omega),if_pos (Or.inl h)] at hrn;obtain ⟨ta,rfl⟩:∃ ta,ks=[ta]:=by
   match ks,hpp with
   | [ta],_=>exact ⟨ta,rfl⟩
   | [],hpp=>simp at hpp
   | _::_::_,hpp=>simp at hpp;omega
  have hva:isA (hd n ta)=false:=by
   cases hq:isA (hd n ta) with
   | false=>rfl
   | true=>simp [hq] at hrn
  have hsq:zAR (cod own (nm.take 16) n) [ta] Lc.length=cod own (nm.take 16) n ta Lc.length:=by simp [zAR]
  rw [hsq] at hn1;have hbb:=HB.out;rw [hn1,List.length_append] at hbb;rw [h] at c0;have hsa:=HKD.out.sub 0 (by simp [kp]) (by simp);have hfa:=HKD.out.fin ta (by simp);have NA:=HST.out.base.node HIH.out hsa ⟨hfa.1,hfa.2,hva⟩ (by simp at hbb ⊢;omega);obtain ⟨bk,ok,ck,hbk⟩:=HST.out.kidv (by simp [kp]);cases hbk
  have k0:=HST.out.cellAt (j:=0) (q:=(kp n (i+1) [ta])[0]'(by simp [kp])) rfl;simp only [Nat.add_zero] at k0;generalize (kp n (i+1) [ta])[0]'(by simp [kp])=q0 at *;obtain ⟨C,hC⟩:∃ C,cod own (nm.take 16) n ta Lc.length=C:=⟨_,rfl⟩
  simp only [List.getElem_cons_zero] at NA;rw [hC] at hbb NA hn1;have HN1:Hid (_=_):=hn1;have HBB:Hid (Lc.length+C.length+1<=800000):=by show _<=_;simp at hbb;omega
  have hkl:(kp n (i+1) [ta]).length=1:=by simp [kp]
  simp only [hkl];clear h hn1 hk3 hbb hpp hrn hva hsq hsa hfa hC;go_wp2_with fail
  refine NA.mono ?_;rintro e w4 ⟨rfl,lv4,P4,h4⟩;have h5:=HST.out.over h4;have d7:=h4.fr.cell (HX1.out.2.1 7 (.int .i64 x.op) rfl) HSB.out;have LA:=h5.lay (ins 3 x.op 0).1 (by rw [List.length_append];have:=HBB.out;omega);clear NA h4 h5 k0 c0 hkl;go_wp2_with (first | (refine zA4 rfl 3 (.tmp 61) rfl x.op rfl ?_))
  refine LA.mono ?_;rintro e w6 ⟨rfl,lv6,P6,h6⟩;have HR:Hid (YP k (.tuple #[]) (yv0 L bb off cap) (.int .i64 own) (yv2 nm av2 cap2) (Lc++(C++[ins 3 x.op 0])) lv w (.returned (.tuple #[])) w6):=by
   have h9:=h6.yp;rw [List.append_assoc] at h9;exact h9
  clear LA h6 d7;go_wp2;go_end0
  rw [HN1.out];exact HR.out
 ·have hn1:zAh own (nm.take 16) (hd n) (cod own (nm.take 16) n) x ks Lc.length=zAR (cod own (nm.take 16) n) ks Lc.length++[ins 4 x.op 0]:=by unfold zAh;rw [if_neg (by omega),if_neg (by omega),if_neg (by omega),if_pos h]
  have hpp:=HPP.out.1;unfold Wt.parts at hpp;rw [if_neg (by omega),if_pos h] at hpp;have hrn:=HRN.out;unfold zB2 at hrn;rw [if_neg (by omega),if_pos (Or.inr h)] at hrn;obtain ⟨ta,tb,rfl⟩:∃ ta tb,ks=[ta,tb]:=by
   match ks,hpp with
   | [ta,tb],_=>exact ⟨ta,tb,rfl⟩
   | [],hpp=>simp at hpp
   | [_],hpp=>simp at hpp
   | _::_::_::_,hpp=>simp at hpp;omega
  have hva:isA (hd n ta)=false/\isA (hd n tb)=false:=by
   cases hq:isA (hd n ta) <;> cases hq2:isA (hd n tb) <;> simp [hq,hq2] at hrn ⊢
  obtain ⟨C,hC⟩:∃ C,cod own (nm.take 16) n ta Lc.length=C:=⟨_,rfl⟩
  obtain ⟨D,hD⟩:∃ D,cod own (nm.take 16) n tb (Lc.length+C.length)=D:=⟨_,rfl⟩
  have hsq:zAR (cod own (nm.take 16) n) [ta,tb] Lc.length=C++D:=by simp [zAR,hC,hD]
  rw [hsq] at hn1;have HN1:Hid (_=_):=hn1;have hbb:=HB.out;rw [hn1,List.length_append,List.length_append] at hbb;rw [h] at c0;have hsa:=HKD.out.sub 0 (by simp [kp]) (by simp);have hfa:=HKD.out.fin ta (by simp);have hsb:=HKD.out.sub 1 (by simp [kp]) (by simp);have hfb:=HKD.out.fin tb (by simp);have NA:=HST.out.base.node HIH.out hsa ⟨hfa.1,hfa.2,hva.1⟩ (by simp only [List.getElem_cons_zero];rw [hC];simp at hbb ⊢;omega);obtain ⟨bk,ok,ck,hbk⟩:=HST.out.kidv (by simp [kp]);cases hbk
  have k0:=HST.out.cellAt (j:=0) (q:=(kp n (i+1) [ta,tb])[0]'(by simp [kp])) rfl;simp only [Nat.add_zero] at k0;obtain ⟨q0,hq0⟩:∃ q,(kp n (i+1) [ta,tb])[0]'(by simp [kp])=q:=⟨_,rfl⟩
  obtain ⟨q1,hq1⟩:∃ q,(kp n (i+1) [ta,tb])[1]'(by simp [kp])=q:=⟨_,rfl⟩
  have HQ1:Hid ((kp n (i+1) [ta,tb])[1]? = some q1/\Sub L q1 n tb/\Wr own (nm.take 16) n tb):=⟨by rw [<-hq1];exact List.getElem?_eq_getElem _,by rw [<-hq1];exact hsb,hfb.1,hfb.2,hva.2⟩
  rw [hq0] at NA k0;simp only [List.getElem_cons_zero] at NA;rw [hC] at NA;have HBB:Hid (Lc.length+C.length+D.length+1<=800000):=by show _<=_;simp at hbb;omega
  have HDD:Hid (cod own (nm.take 16) n tb (Lc++C).length=D):=by show _=_;rw [List.length_append];exact hD
  have hkl:(kp n (i+1) [ta,tb]).length=2:=by simp [kp]
  simp only [hkl];clear h hn1 hk3 hbb hpp hrn hva hsq hsa hfa hsb hfb hC hD hq0 hq1;go_wp2_with fail
  refine NA.mono ?_;rintro e w4 ⟨rfl,lv4,P4,h4⟩;have k1:=h4.cellAt (j:=1) HQ1.out.1;have NB:=h4.node HIH.out HQ1.out.2.1 HQ1.out.2.2 (by rw [HDD.out,List.length_append];have:=HBB.out;omega);rw [HDD.out] at NB;clear NA h4 k0 c0;go_wp2_with fail
  refine NB.mono ?_;rintro e w5 ⟨rfl,lv5,P5,h5⟩;have h6:=HST.out.over h5;have d7:=h5.fr.cell (HX1.out.2.1 7 (.int .i64 x.op) rfl) HSB.out;have LA:=h6.lay (ins 4 x.op 0).1 (by rw [List.length_append,List.length_append];have:=HBB.out;omega);clear NB h5 h6 k1 hkl;go_wp2_with (first | (refine zA4 rfl 4 (.tmp 78) rfl x.op rfl ?_))
  refine LA.mono ?_;rintro e w7 ⟨rfl,lv7,P7,h7⟩;have HR:Hid (YP k (.tuple #[]) (yv0 L bb off cap) (.int .i64 own) (yv2 nm av2 cap2) (Lc++(C++D++[ins 4 x.op 0])) lv w (.returned (.tuple #[])) w7):=by
   have h9:=h7.yp;rw [List.append_assoc,List.append_assoc,<-List.append_assoc C] at h9;exact h9
  clear LA h7 d7;go_wp2;go_end0
  rw [HN1.out];exact HR.out
 ·have hn1:zAh own (nm.take 16) (hd n) (cod own (nm.take 16) n) x ks Lc.length=zAg own (nm.take 16) (hd n) (cod own (nm.take 16) n) x ks Lc.length:=by unfold zAh;rw [if_neg (by omega),if_neg (by omega),if_neg (by omega),if_neg (by omega),if_pos h]
  have HN1:Hid (_=_):=hn1;have hbb:=HB.out;rw [hn1] at hbb;have hpp:=HPP.out.1;unfold Wt.parts at hpp;rw [if_neg (by omega),if_neg (by omega)] at hpp;have hrn:=HRN.out;unfold zB2 at hrn;rw [if_neg (by omega),if_neg (by omega),if_pos h] at hrn;rw [h] at c0;have rX:=HX1.out.range;have hs0:=HST.out;have CA:=zHV HIH.out hs0.en hs0.ys hs0.kd HKD.out hrn hpp HPP.out.2.1 hbb;clear h hn1 hk3 hbb hpp hrn hs0;go_wp2_with (first | (refine zAA (by rfl) 35 (.tmp 4) rfl w.heap.size 0 rfl (zAG x) _ rX underlying35 rfl (by kernel_rfl) ?_))
  refine CA.mono ?_;rintro e w5 ⟨⟨lv5,P5,rfl,hy5,hn5⟩,hf5⟩;have HR:Hid (YP k (.tuple #[]) (yv0 L bb off cap) (.int .i64 own) (yv2 nm av2 cap2) (Lc++zAg own (nm.take 16) (hd n) (cod own (nm.take 16) n) x ks Lc.length) lv w (.returned (.tuple #[])) w5):=(HST.out.step hf5 hn5 hy5).yp;clear CA hy5 hn5 hf5 rX c0;go_wp2;go_end0
  rw [HN1.out];exact HR.out
theorem zIt:∀ n,n<=L.length+2->YNd L bb off cap own nm av2 cap2 n
 | 0,_=>λt=>Empty.elim t
 | n+1,h=>zJx (zIt n (by omega)) (by omega)
end
end Go.Proofs.YtefkclbaflkheaaGreatDoor
namespace Go.Proofs.YtefkclbaflkheaaGreatDoor.Wf
open Go.Proofs.YtefkclbaflkheaaGreatDoor
section
variable {α:Type} (r:α->Nat)
def zEM (l:List α):Nat:=(l.map r).sum
theorem zF0 (g:α->Nat->List I) (c:Nat):∀ (l:List α),(∀ k ∈ l,∀ a,(g k a).length+c<=6 * r k)->∀ a,(zAR g l a).length+c * l.length<=6 * zEM r l
 | [],_,a=>by simp [zAR,zEM]
 | k::l,h,a=>by
  have h1:=h k (List.mem_cons_self ..) a;have h2:=zF0 g c l (λx hx=>h x (List.mem_cons_of_mem _ hx)) (a+(g k a).length);simp only [zAR,List.length_append,List.length_cons,zEM,List.map_cons,List.sum_cons] at *;rw [Nat.mul_add,Nat.mul_add,Nat.mul_one];omega
theorem zLm (g:α->Nat->List I) (e:Int):∀ (l:List α),(∀ k ∈ l,∀ a,(g k a).length+2<=6 * r k)->∀ a,(chB g e l a).length<=6 * zEM r l
 | [],_,a=>by simp [chB]
 | k::l,h,a=>by
  have h1:=h k (List.mem_cons_self ..) (a+1);have h2:=zLm g e l (λx hx=>h x (List.mem_cons_of_mem _ hx)) (a+1+(g k (a+1)).length);simp only [chB,List.length_append,List.length_cons,zEM,List.map_cons,List.sum_cons] at *;omega
theorem zCg (q:α->Bool):∀ (l:List α),zEM r (l.filter q)<=zEM r l
 | []=>Nat.le_refl _
 | k::l=>by
  have:=zCg q l;by_cases h:q k=true
  ·rw [List.filter_cons_of_pos h];simp only [zEM,List.map_cons,List.sum_cons] at *;omega
  ·rw [List.filter_cons_of_neg h];simp only [zEM,List.map_cons,List.sum_cons] at *;omega
end
theorem zJW (n:Nat) (x:Wt.Nd) (ks:List (Tr n)):(row (n+1) (⟨x,ks⟩:Br (Tr n))).length=1+zEM (λk=>(row n k).length) ks:=by
 show (x::(ks.map (row n)).flatten).length=_
 rw [List.length_cons,List.length_flatten,zEM,List.map_map];rw [Nat.add_comm];rfl
theorem zFP:∀ (n:Nat) (t:Tr n),1<=(row n t).length
 | 0,t=>Empty.elim t
 | n+1,t=>by
  obtain ⟨x,ks⟩:Br (Tr n):=t;rw [zJW];omega
theorem zF2 (own:Int) (nm:List ByteArray):∀ (n:Nat) (t:Tr n) (a:Nat),(cod own nm n t a).length+2<=6 * (row n t).length
 | 0,t,_=>Empty.elim t
 | n+1,t,a=>by
  obtain ⟨x,ks⟩:Br (Tr n):=t;have ih:=zF2 own nm n;have hrp:=zFP n;rw [zJW];show (zAh own nm (hd n) (cod own nm n) x ks a).length+2<=_
  have hsq:∀ (l:List (Tr n)) (a:Nat),(zAR (cod own nm n) l a).length<=6 * zEM (λk=>(row n k).length) l:=λl a=>by
   have:=zF0 (λk=>(row n k).length) (cod own nm n) 2 l (λk _ a=>ih k a) a;omega
  have hfe:∀ (l:List (Tr n)) (a:Nat),(zAR (zAY (cod own nm n)) l a).length<=6 * zEM (λk=>(row n k).length) l:=λl a=>by
   have:=zF0 (λk=>(row n k).length) (zAY (cod own nm n)) 1 l (λk _ a=>by have:=ih k a;simp only [zAY,List.length_append,List.length_cons,List.length_nil];omega) a;omega
  unfold zAh;split
  ·simp;omega
  split
  ·simp;omega
  split
  ·have:=hsq ks a;simp only [List.length_append,List.length_cons,List.length_nil];omega
  split
  ·have:=hsq ks a;simp only [List.length_append,List.length_cons,List.length_nil];omega
  split
  ·unfold zAg;simp only;split
   ·have:=hsq ks a;simp only [List.length_append,List.length_cons,List.length_nil];omega
   split
   ·have:=zF0 (λk=>(row n k).length) (zCA own nm (hd n) (cod own nm n)) 1 ks (λk _ a=>by
     have h1:=ih k a;have h2:=hrp k;unfold zCA;split
     ·simp;omega
     ·simp only [zAY,List.length_append,List.length_cons,List.length_nil];omega) (a+1)
    simp only [List.length_append,List.length_cons,List.length_nil];omega
   split
   ·unfold zAw;simp only;have hf:=zCg (λk=>(row n k).length) (λk=>!isA (hd n k)) ks;split
    ·simp;omega
    split
    ·simp;omega
    split
    ·have:=hsq (ks.filter (λk=>!isA (hd n k))) a;simp only [List.length_append,List.length_cons,List.length_nil];omega
    ·have:=hfe (ks.filter (λk=>!isA (hd n k))) (a+1);simp only [List.length_append,List.length_cons,List.length_nil];omega
   ·match ks with
    | []=>simp [zAr];omega
    | c::rr =>
     have h1:=ih c a;simp only [zAr,List.length_append];match rr with
     | [] =>
      simp only [zEM,List.map_cons,List.map_nil,List.sum_cons,List.sum_nil];split
      ·simp [zCW];omega
      ·simp;omega
     | u::no =>
      simp only [zEM,List.map_cons,List.sum_cons];have hno:=λa=>hsq no a
      simp only [zEM] at hno;have hu:=λa=>ih u a
      have hru:=hrp u;split
      ·simp only [zC5,List.length_cons,List.length_append];have h2:=hu (a+(cod own nm n c a).length+1);split
       ·simp;omega
       ·have h3:=hno (a+(cod own nm n c a).length+1+(cod own nm n u (a+(cod own nm n c a).length+1)).length+1);omega
      ·split
       ·have h2:=hu (a+(cod own nm n c a).length+1);simp only [List.length_cons];omega
       ·simp only [zCW,List.length_cons,List.length_append];have h2:=hu (a+(cod own nm n c a).length+1);have h3:=zLm (λk=>(row n k).length) (cod own nm n) ((a+(cod own nm n c a).length+1+(cod own nm n u (a+(cod own nm n c a).length+1)).length+(chB (cod own nm n) 0 no (a+(cod own nm n c a).length+1+(cod own nm n u (a+(cod own nm n c a).length+1)).length)).length:Nat):Int) no (λk _ a=>ih k a) (a+(cod own nm n c a).length+1+(cod own nm n u (a+(cod own nm n c a).length+1)).length);simp only [zEM] at h3;omega
  ·simp;omega
end Go.Proofs.YtefkclbaflkheaaGreatDoor.Wf
namespace Go.Proofs.YtefkclbaflkheaaGreatDoor
open Tryz
open Go.RowKit Wf
variable {op:Oper} {a:Act}
theorem zKS {P:Program} {a:Act} (x y:Operand) (ts:Array TypeId) (ho:op.op=.call {callee:=.builtin .min,args:=#[x,y],argTypes:=ts}) (i j k:Int) (hx:a.eval x=.int .i64 i) (hy:a.eval y=.int .i64 j) (hk:(if j<i then j else i)=k) (w:World):(execOp a.eval op).run P w=.ok (.value (.int .i64 k)) w:=by
 have hr:=run_min_int2 (P:=P) (w:=w) ts op.type .i64 .i64 i j;rw [hk] at hr;unfold execOp;simp only [ho,resolve,invoke,builtin,Sem.run_bind,Sem.run_pure,Result.andThen_ok,List.map_toArray,List.map_cons,List.map_nil,hx,hy,hr]
theorem zGB (s h:Operand) (ho:op.op=.slice 25 s none (some h) none) (av:Option Addr) (m cap q:Nat) (hs:a.eval s=.slice av m cap) (hh:a.eval h=.int .i64 (q:Int)) (hq:q<=m) (hc:m<=cap) (hn:av=none->cap=0) (W:World):(execOp a.eval op).run prog W=.ok (.value (.slice av q cap)) W:=by
 have hu:prog.underlying 25=some (.slice (prog.elem 25)):=by kernel_rfl
 have hz:(sizeOf (prog.elem 25)).run prog W=.ok 1 W:=by kernel_rfl
 have hr:(Instr.sliceAt 25 (.slice av m cap) none (some (.int .i64 (q:Int))) none).run prog W=.ok (.slice av q cap) W:=by
  rw [run_sliceAt_slice W _ _ _ _ _ hu,run_slice_h W _ _ _ _ hu _ (q:Int) (by omega) (by omega),hz];have he:sliced av 0 q cap 1=.slice av q cap:=by
   unfold sliced;split
   ·rfl
   ·cases av <;> simp [Addr.add]
  rw [<-he];rfl
 unfold execOp;simp only [ho,hs,hh,Option.map_some,Option.map_none,Sem.run_bind,Sem.run_pure,Result.andThen_ok,hr]
theorem zNt (s r c:Int) (av:Option Addr) (m cap:Nat) (w:World) (q:Nat) (hq:q=min m 16) (hc:m<=cap) (hn:av=none->cap=0):CR 23 #[.agg #[.int .i64 s,.int .i64 r,.int .i64 c],.slice av m cap] w (zCS s av q cap):=by
 have HQ:Hid ((if (16:Int)<(m:Int) then (16:Int) else (m:Int))=(q:Int)):=by show _=_;split <;> omega
 have HQM:Hid (q<=m/\m<=cap):=⟨by omega,hc⟩
 have HQM2:Hid (av=none->cap=0):=hn;have hB0:=zAM (zAM (Below.refl _ w) (.cells #[.int .i64 s,.int .i64 r,.int .i64 c] 24)) (.cells #[.int .i64 0,.slice none 0 0] 60);have pC:=(AtL.new0 w 24 [.int .i64 s,.int .i64 r,.int .i64 c]).alloc (.cells #[.int .i64 0,.slice none 0 0] 60);have pR0:=AtL.new1 w (.cells #[.int .i64 s,.int .i64 r,.int .i64 c] 24) 60 [.int .i64 0,.slice none 0 0];clear hq hc hn;go_enter func23,ntmps23;go_upto_region 1 with fail
 generalize ((w.alloc (.cells #[.int .i64 s,.int .i64 r,.int .i64 c] 24)).alloc (.cells #[.int .i64 0,.slice none 0 0] 60))=W at *;have hdr:=(Below.refl W.heap.size W).drew;have c0:=(AtL.below hdr pC).2.1 0 _ rfl;have pR:=AtL.below hdr pR0;have hB:=zAB hB0 hdr;clear hdr pC pR0 hB0;refine wp_region_held_drew (S:=λW=>W.cell? ⟨w.heap.size,0,none⟩=some (.int .i64 s)) (by kernel_rfl) c0 (λhHeld=>?_);generalize W.drew=WD at *;refine tkQ 0 ?_
 refine tkQ 1 ?_
 refine tkQ 2 ?_
 refine tkQ 3 ?_
 refine tkQ 4 ?_
 refine wpAnyH_take (i:=5) (v:=.int .i64 (q:Int)) (atQ rfl) (by kernel_rfl) (by kernel_rfl) (by kernel_rfl) (λ_ _ _ h=>h) (Or.inl ⟨by rfl,λW _=>zKS (.tmp 9) (.const (.int .i64 16)) _ rfl (m:Int) 16 (q:Int) rfl rfl HQ.out W⟩) (by assumption) ?_;try simp only [Act.put,lA,lZ,lS]
 refine wpAnyH_take (i:=6) (v:=.slice av q cap) (atQ rfl) (by kernel_rfl) (by kernel_rfl) (by kernel_rfl) (λ_ _ _ h=>h) (Or.inl ⟨by rfl,λW _=>zGB (.tmp 7) (.tmp 10) rfl av m cap q rfl rfl HQM.out.1 HQM.out.2 HQM2.out W⟩) (by assumption) ?_;try simp only [Act.put,lA,lZ,lS]
 refine tkQ 7 ?_
 have k0:=pR.2.1 0 _ rfl;have k1:=pR.2.1 1 _ rfl;have z0:=pR.2.2 0 (by simp);have z1:=pR.2.2 1 (by simp);refine rdQ 8 (λK hK=>?_);go_simp
 have fr:Fr [w.heap.size+1] WD ((WD.setCell ⟨w.heap.size+1,0,none⟩ (.int .i64 s)).setCell ⟨w.heap.size+1,1,none⟩ (.slice av q cap)):=zCQ (w.heap.size+1) [.int .i64 s,.slice av q cap] 0 WD;have pF:AtL ((WD.setCell ⟨w.heap.size+1,0,none⟩ (.int .i64 s)).setCell ⟨w.heap.size+1,1,none⟩ (.slice av q cap)) (w.heap.size+1) [.int .i64 s,.slice av q cap]:=pR.setAll (vs:=[.int .i64 s,.slice av q cap]) rfl;have HPF:Hid (((WD.setCell ⟨w.heap.size+1,0,none⟩ (.int .i64 s)).setCell ⟨w.heap.size+1,1,none⟩ (.slice av q cap)).rangeAt (w.heap.size+1) 0 [.int .i64 s,.slice av q cap]):=pF.range;have HBF:Hid (Below w.heap.size w ((WD.setCell ⟨w.heap.size+1,0,none⟩ (.int .i64 s)).setCell ⟨w.heap.size+1,1,none⟩ (.slice av q cap))):=zCT hB fr (λk hk=>by simp at hk;omega);refine hkQ hK (fr.cell c0 (by simp)) (λhHeld=>?_);clear hK K
 refine wpAnyH_done (by kernel_rfl) ?_ _;clear hHeld fr pF k0 k1 z0 z1 pR hB c0;generalize ((WD.setCell ⟨w.heap.size+1,0,none⟩ (.int .i64 s)).setCell ⟨w.heap.size+1,1,none⟩ (.slice av q cap))=WF at *;go_wp2;refine bodyPost_ret (zAq (by rfl) _ _ (w.heap.size+1) [.int .i64 s,.slice av q cap] _ (by rfl) HPF.out underlying60 rfl (by kernel_rfl)) rfl ⟨rfl,HBF.out⟩
