/- KChk, KReads, KUses, BCode, BUse. -/
import Derived.Test.YtedifblompcdkaaGreatDoorQ43
set_option maxHeartbeats 4000000
set_option maxRecDepth 100000
namespace Go.Proofs.YtedifblompcdkaaGreatDoor
open Tryz
open Go.RowKit
set_option linter.unusedVariables false
variable {w:World} {B:Nat} {C:List Wf.I}
theorem zHt (L:List (Wc.In × List Int)) (v:Value) (w:World) (h:RdC w v L) (hl:L.length<=1000000) (ht:∀ x ∈ L,x.2.length<=1000000/\Wt.FitV x.1.v) (hN:NmAt w) (hCR:∀ x ∈ L,zGH x) :
  CR 45 #[v] w (.int .i64 (if Wc.chkP rgt L=true then 0 else 85)):=by
 have PL:=zHy L v w h hl ht hN hCR;have OF:=λw1 (hb:Below w.heap.size w w1) (h0:0<L.length) (hp:Wc.plcs rgt L.length 0 L=true)=>zNb L v w1 (h.below hb) hl h0 (λx hx=>(ht x hx).1) hp (λx hx=>(hCR x hx).1)
 clear hCR;have hc:Wc.chkP rgt L=(Wc.plcs rgt L.length 0 L && (decide (0<L.length) && Wc.runP Wc.spI 0 L (Wc.sP L.length))):=rfl;obtain ⟨q1,h1⟩:∃ q,Wc.plcs rgt L.length 0 L=q:=⟨_,rfl⟩
 obtain ⟨q2,h2⟩:∃ q,decide (0<L.length)=q:=⟨_,rfl⟩
 obtain ⟨q3,h3⟩:∃ q,Wc.runP Wc.spI 0 L (Wc.sP L.length)=q:=⟨_,rfl⟩
 rw [h1,h2,h3] at hc;rw [h1,h2] at PL;rw [hc];rw [h1,h3] at OF;have H2:Hid (decide (0<L.length)=q2):=h2;clear hc h1 h2 h3 h ht hN hl;cases q1 with
 | false =>
  clear OF;go_enter func45,ntmps45;go_wp2_with fail
  refine PL.mono ?_;rintro e w1 ⟨rfl,hb1⟩;go_wp2;go_ret;exact ⟨by simp,hb1⟩
 | true =>
  cases q2 with
  | false =>
   clear OF;go_enter func45,ntmps45;go_wp2_with fail
   refine PL.mono ?_;rintro e w1 ⟨rfl,hb1⟩;go_wp2;go_ret;exact ⟨by simp,hb1⟩
  | true =>
   have OF1:=λw1 hb=>OF w1 hb (of_decide_eq_true H2.out) rfl
   have HOF:Hid (∀ w1:World,Below w.heap.size w w1->Calls prog 68 #[v] w1 λe w'=>(∃ p,e=.returned (.tuple #[p,.bool q3]))/\Below w1.heap.size w1 w'):=OF1;clear OF OF1;go_enter func45,ntmps45;go_wp2_with fail
   refine PL.mono ?_;rintro e w1 ⟨rfl,hb1⟩;have OF2:=HOF.out w1 hb1;go_wp2_with fail
   refine OF2.mono ?_;rintro e w2 ⟨⟨p,rfl⟩,hb2⟩;have hB:=zAA hb1 hb2;cases q3
   ·go_wp2;go_ret;exact ⟨by simp,hB⟩
   ·go_wp2;go_ret;exact ⟨by simp,hB⟩
def RdP (A:List Wpl.Ar) (w:World) (e:Ending) (w':World):Prop:=∃ r,e=.returned r/\RdA w' r A/\(∀ g,r.ownBlock=some g->w.heap.size<=g)
theorem RdP.one {W:World} {x:Wpl.Ar} (hw:w.heap.size<=W.heap.size):RdP [x] w (.returned (.slice (some ⟨W.heap.size,0,none⟩) 1 1)) (W.alloc (.cells (zBY x).toArray 64)) :=
 ⟨_,rfl,RdA.at0 (A:=[x]) (λj u hu=>(AtL.new0 W 64 (zBY x)).2.1 j u (by simpa [zBU] using hu)),λg e=>by
  have e2:W.heap.size=g:=by simpa [Value.ownBlock] using e
  omega⟩
theorem zJi (x:Wc.In) (tv:Value) (w:World):Calls prog 46 #[.agg (zAM x tv).toArray] w λe w'=>RdP (rdA x) w e w'/\Below w.heap.size w w':=by
 have ON:=zHq x.ce.s x.ce.r x.ce.c;have HON:Hid (∀ w:World,CR 69 #[.agg #[.int .i64 x.ce.s,.int .i64 x.ce.r,.int .i64 x.ce.c]] w (.tuple #[.agg #[.int .i64 (zF2 x.ce.s x.ce.r x.ce.c).s,.int .i64 (zF2 x.ce.s x.ce.r x.ce.c).t,.int .i64 (zF2 x.ce.s x.ce.r x.ce.c).l,.int .i64 (zF2 x.ce.s x.ce.r x.ce.c).b,.int .i64 (zF2 x.ce.s x.ce.r x.ce.c).r],.bool (Wpl.rightC x.ce.s x.ce.r x.ce.c)])):=ON;clear ON;have hb:=zAH (Below.refl _ w) (.cells (zAM x tv).toArray 67);have p:=AtL.new0 w 67 (zAM x tv);have c0:=p.2.1 0 _ rfl;obtain ⟨q,hq⟩:∃ q,rdA x=q:=⟨_,rfl⟩
 have HQ:Hid (rdA x=q):=hq;rw [hq];clear hq;go_enter func46,ntmps46;go_upto_region 1 with fail
 generalize (w.alloc (.cells (zAM x tv).toArray 67))=W at *;have HSW:Hid (w.heap.size<=W.heap.size):=hb.size;by_cases h2:x.op=2
 ·have h2b:(x.op == 2)=true:=by simp [h2]
  have HR:Hid (q=[zF2 x.ce.s x.ce.r x.ce.c]):=by show _=_;rw [<-HQ.out];simp [rdA,h2]
  have c9:=p.2.1 9 _ rfl;have c10:=p.2.1 10 _ rfl;have c11:=p.2.1 11 _ rfl;have ON:=HON.out W;generalize zF2 x.ce.s x.ce.r x.ce.c=V at *;clear p h2 HON HQ;go_wp2_with fail
  refine ON.mono ?_;rintro e w1 ⟨rfl,hb1⟩;have hB1:=zAA hb hb1;have hb2:=zAH (Below.refl _ w1) (.cells (zBY V).toArray 64);have p2:=AtL.new0 w1 64 (zBY V);have q0:=p2.2.1 0 _ rfl;have q1:=p2.2.1 1 _ rfl;have q2:=p2.2.1 2 _ rfl;have q3:=p2.2.1 3 _ rfl;have q4:=p2.2.1 4 _ rfl;have hB2:=zAA hB1 hb2;clear p2 hb2 ON hb hb1 c0 c9 c10 c11;go_upto_region 4 with fail
  generalize (w1.alloc (.cells (zBY V).toArray 64))=W2 at *;have HB3:Hid (Below w.heap.size w (W2.alloc (.cells (zBY V).toArray 64))):=zAH hB2 _;have HP3:Hid (RdP [V] w (.returned (.slice (some ⟨W2.heap.size,0,none⟩) 1 1)) (W2.alloc (.cells (zBY V).toArray 64))):=RdP.one hB2.size;clear hB2 hB1;go_wp2;go_ret;exact ⟨by rw [HR.out];exact HP3.out,HB3.out⟩
 ·have h2b:(x.op == 2)=false:=by simp [h2]
  by_cases h8:x.op=8 \/ x.op=11
  ·have HR:Hid (q=[x.ar]):=by show _=_;rw [<-HQ.out];simp [rdA,h2,h8]
   have q0:=p.2.1 12 _ rfl;have q1:=p.2.1 13 _ rfl;have q2:=p.2.1 14 _ rfl;have q3:=p.2.1 15 _ rfl;have q4:=p.2.1 16 _ rfl;have HB3:Hid (Below w.heap.size w (W.alloc (.cells (zBY x.ar).toArray 64))):=zAH hb _;have HP3:Hid (RdP [x.ar] w (.returned (.slice (some ⟨W.heap.size,0,none⟩) 1 1)) (W.alloc (.cells (zBY x.ar).toArray 64))):=RdP.one HSW.out;have hc:((x.op == 8)=true) \/ ((x.op == 8)=false/\(x.op == 11)=true):=by
    rcases h8 with h | h
    ·left;simp [h]
    ·right;simp [h]
   clear p h8 h2 HON HQ;rcases hc with e8 | ⟨e8,e11⟩
   ·go_wp2;go_ret;exact ⟨by rw [HR.out];exact HP3.out,HB3.out⟩
   ·go_wp2;go_ret;exact ⟨by rw [HR.out];exact HP3.out,HB3.out⟩
  ·have e8:(x.op == 8)=false:=by simp;omega
   have e11:(x.op == 11)=false:=by simp;omega
   by_cases h9:x.op=9
   ·have HR:Hid (q=[x.ar,x.pr]):=by show _=_;rw [<-HQ.out];simp [rdA,h9]
    have e9:(x.op == 9)=true:=by simp [h9]
    have q0:=p.2.1 12 _ rfl;have q1:=p.2.1 13 _ rfl;have q2:=p.2.1 14 _ rfl;have q3:=p.2.1 15 _ rfl;have q4:=p.2.1 16 _ rfl;have r0:=p.2.1 17 _ rfl;have r1:=p.2.1 18 _ rfl;have r2:=p.2.1 19 _ rfl;have r3:=p.2.1 20 _ rfl;have r4:=p.2.1 21 _ rfl;have HB3:Hid (Below w.heap.size w (W.alloc (.cells (zBY x.ar++zBY x.pr).toArray 64))):=zAH hb _;have HP3:Hid (RdP [x.ar,x.pr] w (.returned (.slice (some ⟨W.heap.size,0,none⟩) 2 2)) (W.alloc (.cells (zBY x.ar++zBY x.pr).toArray 64))) :=
     ⟨_,rfl,RdA.at0 (A:=[x.ar,x.pr]) (λj u hu=>(AtL.new0 W 64 (zBY x.ar++zBY x.pr)).2.1 j u (by simpa [zBU] using hu)),λg e=>by
      have e2:W.heap.size=g:=by simpa [Value.ownBlock] using e
      have:=HSW.out;omega⟩
    clear p h8 h2 h9 HON HQ;go_wp2;go_ret;exact ⟨by rw [HR.out];exact HP3.out,HB3.out⟩
   ·have HR:Hid (q=[]):=by show _=_;rw [<-HQ.out];simp [rdA,h2,h8,h9]
    have e9:(x.op == 9)=false:=by simp [h9]
    clear p h8 h2 h9 HON HQ;go_wp2;go_ret;exact ⟨by rw [HR.out];exact ⟨_,rfl,RdA.nil _,λg e=>by cases e⟩,hb⟩
def usA (L:List (Wc.In × List Int)):List Wpl.Ar:=if Wc.chkP rgt L=true then ddA [] (zEI L) else []
theorem zLG (L:List (Wc.In × List Int)) (v:Value) (w:World) (h:RdC w v L) (hl:L.length<=1000000) (ht:∀ x ∈ L,x.2.length<=1000000/\Wt.FitV x.1.v) (hN:NmAt w) (hCR:∀ x ∈ L,zGH x) :
  Calls prog 25 #[v] w λe w'=>(∃ r B,e=.returned r/\OwnA w' B r (usA L)/\w.heap.size<=B)/\Below w.heap.size w w':=by
 have CK:=zHt L v w h hl ht hN hCR;clear hCR;obtain ⟨a1,c1,rfl,r1⟩:=h;have HR:Hid (RdC w (.slice a1 L.length c1) L):=⟨a1,c1,rfl,r1⟩
 obtain ⟨n,hn⟩:∃ n,L.length=n:=⟨_,rfl⟩
 have HL:Hid (L.length=n):=hn;have HN:Hid (n<=1000000):=by show n<=_;omega
 rw [hn] at CK ⊢;have hmk:∀ w:World,(Instr.makeMap 95 none).run prog w=.ok (.map (some w.heap.size)) (w.alloc (.map #[] 0)):=λw=>by kernel_rfl
 obtain ⟨qc,hqc⟩:∃ b,Wc.chkP rgt L=b:=⟨_,rfl⟩
 have HU:Hid (usA L=if qc=true then ddA [] (zEI L) else []):=by show _=_;rw [<-hqc];rfl
 rw [hqc] at CK;obtain ⟨us,hus⟩:∃ u,usA L=u:=⟨_,rfl⟩
 rw [hus] at HU ⊢;clear hqc hus r1 hl ht hN hn;cases qc with
 | false =>
  have HE:Hid (us=[]):=HU;go_enter func25,ntmps25;go_wp2_with fail
  refine CK.mono ?_;rintro e w1 ⟨rfl,hb1⟩;go_wp2;go_ret;exact ⟨by rw [HE.out];exact ⟨_,_,rfl,OwnA.nil _ w.heap.size,Nat.le_refl _⟩,hb1⟩
 | true =>
  have HE:Hid (us=ddA [] (zEI L)):=HU;clear HU;go_enter func25,ntmps25;go_wp2_with fail
  refine CK.mono ?_;rintro e w1 ⟨rfl,hb1⟩;go_upto_region 5 with fail
  have hbm:=zAH (Below.refl _ w1) (.map #[] 0);have HB2:Hid (Below w.heap.size w (w1.alloc (.map #[] 0))):=zAA hb1 hbm;have HM2:Hid (AM (w1.alloc (.map #[] 0)) w1.heap.size []):=⟨#[],zBt _ _ _ rfl,rfl⟩
  have HMW:Hid (w.heap.size<=w1.heap.size):=hb1.size;have HBS:Hid (w1.heap.size<(w1.alloc (.map #[] 0)).heap.size):=zMZ _ _;clear CK hbm hb1 hmk;generalize (w1.alloc (.map #[] 0))=w2 at *;obtain ⟨mb,hmb⟩:∃ k,w1.heap.size=k:=⟨_,rfl⟩
  rw [hmb] at HM2 HMW HBS;simp only [hmb];clear hmb;have HO2:Hid (OwnA w2 w2.heap.size (.slice none 0 0) (ddA [] (zEI (L.take 0)))):=by show OwnA _ _ _ _;rw [List.take_zero];exact OwnA.nil _ _
  have HM20:Hid (AM w2 mb (ddA [] (zEI (L.take 0)))):=by show AM _ _ _;rw [List.take_zero];exact HM2.out
  obtain ⟨B,hBB⟩:∃ b,w2.heap.size=b:=⟨_,rfl⟩
  rw [hBB] at HO2 HBS;have HBW:Hid (B<=w2.heap.size/\w.heap.size<=B/\mb<B):=⟨by omega,by have:=HB2.out.size;omega,HBS.out⟩
  clear HM2 hBB HBS;go_wp2_with fail
  go_loopg [3,17] n (λgk u3 u17 wr=>∃ (i:Nat) (lv:Value),lv=u3/\u17=.int .i64 i/\gk=n - i/\i<=n/\Hid (Below w.heap.size w wr)/\Hid (OwnA wr B lv (ddA [] (zEI (L.take i))))/\Hid (AM wr mb (ddA [] (zEI (L.take i))))/\Hid (B<=wr.heap.size))
  case atStart=>exact ⟨0,_,rfl,rfl,rfl,Nat.zero_le _,HB2,HO2,HM20,HBW.out.1⟩
  case round =>
   clear HB2 HO2 HM20;obtain ⟨i,lv,rfl,rfl,hg,hi,HB,HO,HM,HBH⟩:=hrel;by_cases hlt:i<n
   ·have hli:(i:Int)<(n:Int):=by omega
    have hiz:(0:Int)<=(i:Int):=by omega
    have hwi:IntKind.i64.wrap ((i:Int)+1)=(i:Int)+1:=by rw [IntKind.wrap_i64];have:=HN.out;omega
    have hil:i<L.length:=by rw [HL.out];exact hlt
    have H0:=HR.out.below HB.out;obtain ⟨q1,d1,e1,f1⟩:=H0;simp only [Value.slice.injEq] at e1;obtain ⟨ex1,ex2,ex3⟩:=e1;obtain ⟨bb,off,p,mm,kk,ee,t1,_,_⟩:=f1 i hil;rw [ee] at ex1;subst ex1;obtain ⟨y,tl,hyt⟩:∃ y tl,L[i]=(y,tl):=⟨_,_,rfl⟩
    rw [hyt] at t1;have HTK:Hid (zEI (L.take (i+1))=zEI (L.take i)++rdA y):=by show _=_;rw [zJa hil,hyt]
    have HCL:Hid ((ddA [] (zEI (L.take i))).length<=2000000):=by show _<=_;have h1:=zGC (zEI (L.take i)) [];have h2:=zGo (L.take i);have:=HN.out;have:=HL.out;simp at h1 h2;omega
    obtain ⟨cur,hcur⟩:∃ c,(ddA [] (zEI (L.take i)))=c:=⟨_,rfl⟩
    have HCU:Hid ((ddA [] (zEI (L.take i)))=cur):=hcur;rw [hcur] at HO HM HCL;have hth:World.there (wr.alloc (.cells zeros23 67)) wr.heap.size 0 (zAM y (.slice p mm kk)).toArray.size:=(AtL.new0 wr _ _:AtL (wr.alloc (.cells zeros23 67)) wr.heap.size zeros23.toList).there;clear f1 hyt ee ex2 ex3 hcur;go_upto_region 8 with (first | (refine zAB (by rfl) 67 (.tmp 19) rfl bb (off+i * 23) rfl (zAM y (.slice p mm kk)) _ t1 underlying67 rfl (by kernel_rfl) ?_) | ((with_reducible refine wpList_store_mid ?_ 67 (.tmp 6) (.tmp 20) ?_ wr.heap.size 0 (zAM y (.slice p mm kk)).toArray ?_ ?_ ?_ ?_ ?_ ?_);rfl;rfl;rfl;rfl;exact hth;kernel_rfl;exact zHc _ _ _ _))
    have pI:AtL ((wr.alloc (.cells zeros23 67)).setCells wr.heap.size 0 (zAM y (.slice p mm kk))) wr.heap.size (zAM y (.slice p mm kk)):=(AtL.new0 wr _ _:AtL (wr.alloc (.cells zeros23 67)) wr.heap.size zeros23.toList).setAll rfl;have hbI:Below wr.heap.size wr ((wr.alloc (.cells zeros23 67)).setCells wr.heap.size 0 (zAM y (.slice p mm kk))):=zBJ (zAH (Below.refl _ wr) _) (Nat.le_refl _) _ 0;have HB3:Hid (Below w.heap.size w ((wr.alloc (.cells zeros23 67)).setCells wr.heap.size 0 (zAM y (.slice p mm kk)))):=zAA HB.out hbI;have HM3:Hid (AM ((wr.alloc (.cells zeros23 67)).setCells wr.heap.size 0 (zAM y (.slice p mm kk))) mb cur):=HM.out.below hbI;have HO3:Hid (OwnA ((wr.alloc (.cells zeros23 67)).setCells wr.heap.size 0 (zAM y (.slice p mm kk))) B lv cur):=HO.out.below hbI;have HS3:Hid (B<=((wr.alloc (.cells zeros23 67)).setCells wr.heap.size 0 (zAM y (.slice p mm kk))).heap.size):=Nat.le_trans HBH.out hbI.size;clear hth t1 hbI HM HB HO HBH;generalize ((wr.alloc (.cells zeros23 67)).setCells wr.heap.size 0 (zAM y (.slice p mm kk)))=w3 at *;obtain ⟨X,hX⟩:∃ k,wr.heap.size=k:=⟨_,rfl⟩
    rw [hX] at pI;simp only [hX];clear hX;have rI:=pI.range;have RL:=zJi y (.slice p mm kk) w3;go_wp2_with (first | (refine zAB (by rfl) 67 (.tmp 6) rfl X 0 rfl (zAM y (.slice p mm kk)) _ rI underlying67 rfl (by kernel_rfl) ?_))
    refine RL.mono ?_;rintro e w4 ⟨⟨r,rfl,hr,hgr⟩,hb4⟩;have HB4:Hid (Below w.heap.size w w4):=zAA HB3.out hb4;have HM4:Hid (AM w4 mb cur):=HM3.out.below hb4;have HO4:Hid (OwnA w4 B lv cur):=HO3.out.below hb4;have HS4:Hid (B<=w4.heap.size):=Nat.le_trans HS3.out hb4.size;have HSP:Hid (∀ g k,r.ownBlock=some g->lv.ownBlock=some k->k ≠ g):=λg k e1 e2=>by have:=hgr g e1;have:=(HO3.out.blk e2).2;omega
    have HMG:Hid (∀ g,r.ownBlock=some g->mb ≠ g):=λg e=>by have:=hgr g e;have:=HM3.out.lt;omega
    obtain ⟨A,hA⟩:∃ A,rdA y=A:=⟨_,rfl⟩
    have HA2:Hid (A.length<=2):=by show _<=_;rw [<-hA];exact zKJ y
    rw [hA] at hr HTK;obtain ⟨m,hm⟩:∃ m,A.length=m:=⟨_,rfl⟩
    have HAM:Hid (A.length=m):=hm;have HRA0:Hid (RdA w4 r A):=hr;obtain ⟨ar,cr,er,_⟩:=hr;rw [hm] at er;subst er;have HRA:Hid (RdA w4 (.slice ar m cr) A):=HRA0.out;have HDD:Hid (ddA cur (A.drop 0)=ddA cur A):=rfl;clear RL rI pI hb4 HB3 HM3 HO3 HS3 HRA0 hA hm hgr;go_wp2_with fail
    go_loopg [3,24] m (λgk u3 u24 wr=>∃ (j:Nat) (lw:Value) (cj:List Wpl.Ar),lw=u3/\u24=.int .i64 j/\gk=m - j/\j<=m/\Hid (Below w.heap.size w wr)/\Hid (OwnA wr B lw cj)/\Hid (AM wr mb cj)/\Hid (B<=wr.heap.size)/\Hid (ddA cj (A.drop j)=ddA cur A)/\Hid (cj.length<=2000000+j)/\Hid (j<m->RdA wr (.slice ar m cr) A/\(j=0->∀ g k,(Value.slice ar m cr).ownBlock=some g->lw.ownBlock=some k->k ≠ g)))
    case atStart=>exact ⟨0,_,cur,rfl,rfl,rfl,Nat.zero_le _,HB4,HO4,HM4,HS4,HDD,HCL,(λ_=>⟨HRA.out,λ_=>HSP.out⟩:0<m->RdA w4 (.slice ar m cr) A/\(0=0->∀ g k,(Value.slice ar m cr).ownBlock=some g->lv.ownBlock=some k->k ≠ g))⟩
    case round =>
     clear HB4 HO4 HM4 HS4 HDD HCL HRA HSP;obtain ⟨j,lw,cj,rfl,rfl,hgj,hj,HB5,HO5,HM5,HS5,HDJ,HCJ,HRJ⟩:=hrel;by_cases hjl:j<m
     ·have hjm:(j:Int)<(m:Int):=by omega
      have hjz:(0:Int)<=(j:Int):=by omega
      have hwj:IntKind.i64.wrap ((j:Int)+1)=(j:Int)+1:=by rw [IntKind.wrap_i64];have:=HA2.out;have:=HAM.out;omega
      have hjA:j<A.length:=by rw [HAM.out];exact hjl
      obtain ⟨hrd,hsep⟩:=HRJ.out hjl;obtain ⟨z,hz⟩:∃ z,A[j]=z:=⟨_,rfl⟩
      have cJ0:∃ bq oq,ar=some ⟨bq,oq,none⟩/\wr.rangeAt bq (oq+j * 5) (zBY z):=by
       obtain ⟨x1,x2,x3,x4⟩:=hrd;obtain ⟨x5,x6,x7,x8⟩:=x4 j hjA;simp only [Value.slice.injEq] at x3;rw [hz] at x8;exact ⟨x5,x6,by rw [x3.1];exact x7,x8⟩
      have HRD:Hid (RdA wr (.slice ar m cr) A):=hrd;have HSE:Hid (j=0->∀ g k,(Value.slice ar m cr).ownBlock=some g->lw.ownBlock=some k->k ≠ g):=hsep;obtain ⟨bq,oq,rfl,cJ⟩:=cJ0;have HDC:Hid (A.drop j=z::A.drop (j+1)):=by show _=_;rw [List.drop_eq_getElem_cons hjA,hz]
      rw [HDC.out] at HDJ;clear hz hjA hrd hsep HRJ;have q0:wr.cell? ⟨bq,oq+j * 5,none⟩=some (.int .i64 z.s):=by have:=cJ 0 _ rfl;simpa using this
      have q1:=cJ 1 _ rfl;have q2:=cJ 2 _ rfl;have q3:=cJ 3 _ rfl;have q4:=cJ 4 _ rfl;have hb6:=zAH (Below.refl _ wr) (.cells (zBY z).toArray 64);have p6:=AtL.new0 wr 64 (zBY z);have HB6:Hid (Below w.heap.size w (wr.alloc (.cells (zBY z).toArray 64))):=zAA HB5.out hb6;have hm6:AM (wr.alloc (.cells (zBY z).toArray 64)) mb cj:=HM5.out.below hb6;have HO6:Hid (OwnA (wr.alloc (.cells (zBY z).toArray 64)) B lw cj):=HO5.out.below hb6;have HS6:Hid (B<=(wr.alloc (.cells (zBY z).toArray 64)).heap.size):=Nat.le_trans HS5.out hb6.size;have HR6:Hid (RdA (wr.alloc (.cells (zBY z).toArray 64)) (.slice (some ⟨bq,oq,none⟩) m cr) A):=HRD.out.below hb6;have HAB:Hid (mb<wr.heap.size/\∀ k,lw.ownBlock=some k->k<wr.heap.size):=⟨HM5.out.lt,λk e=>(HO5.out.blk e).2⟩
      clear hb6 cJ HB5 HM5 HO5 HS5 HRD;go_upto_region 11 with fail
      generalize (wr.alloc (.cells (zBY z).toArray 64))=w6 at *;obtain ⟨AB,hAB⟩:∃ k,wr.heap.size=k:=⟨_,rfl⟩
      rw [hAB] at p6 HAB;simp only [hAB];clear hAB q0 q1 q2 q3 q4;have q0:=p6.2.1 0 _ rfl;have q1:=p6.2.1 1 _ rfl;have q2:=p6.2.1 2 _ rfl;have q3:=p6.2.1 3 _ rfl;have q4:=p6.2.1 4 _ rfl;have hlk:=zRE hm6 z;obtain ⟨qa,hqa⟩:∃ b,cj.any (λy=>zCF y z)=b:=⟨_,rfl⟩
      have HQA:Hid (cj.any (λy=>zCF y z)=qa):=hqa;rw [hqa] at hlk;clear hqa;go_upto_region 12 with fail
      have hb7:=zAH (Below.refl _ w6) (.cells #[] 97);have p7:=AtL.below hb7 p6;have HB7:Hid (Below w.heap.size w (w6.alloc (.cells #[] 97))):=zAA HB6.out hb7;have HM7:Hid (AM (w6.alloc (.cells #[] 97)) mb cj):=hm6.below hb7;have HO7:Hid (OwnA (w6.alloc (.cells #[] 97)) B lw cj):=HO6.out.below hb7;have HS7:Hid (B<=(w6.alloc (.cells #[] 97)).heap.size):=Nat.le_trans HS6.out hb7.size;have HR7:Hid (RdA (w6.alloc (.cells #[] 97)) (.slice (some ⟨bq,oq,none⟩) m cr) A):=HR6.out.below hb7;clear hlk q0 q1 q2 q3 q4 hb7 p6 hm6 HB6 HO6 HS6 HR6;generalize (w6.alloc (.cells #[] 97))=w7 at *;cases qa with
      | true =>
       have HD9:Hid (ddA cj (A.drop (j+1))=ddA cur A):=by show _=_;rw [<-HDJ.out];simp only [ddA,HQA.out,if_true]
       have HC9:Hid (cj.length<=2000000+(j+1)):=by show _<=_;have:=HCJ.out;omega
       have HR9:Hid (j+1<m->RdA w7 (.slice (some ⟨bq,oq,none⟩) m cr) A/\(j+1=0->∀ g k,(Value.slice (some ⟨bq,oq,none⟩) m cr).ownBlock=some g->lw.ownBlock=some k->k ≠ g)):=λ_=>⟨HR7.out,λh=>by omega⟩
       clear HDJ HCJ HR7 p7;go_wp2_with fail
       go_roundg (m - (j+1))
       case rel=>exact ⟨j+1,lw,cj,rfl,by simp,rfl,hjl,HB7,HO7,HM7,HS7,HD9,HC9,HR9⟩
       case measure=>omega
      | false =>
       have q0:=p7.2.1 0 _ rfl;have q1:=p7.2.1 1 _ rfl;have q2:=p7.2.1 2 _ rfl;have q3:=p7.2.1 3 _ rfl;have q4:=p7.2.1 4 _ rfl;go_upto_region 13 with fail
       go_upto_region 14 with (first | (refine zFC rfl (.tmp 35) (.tmp 36) (.tmp 37) rfl mb rfl z rfl rfl cj HM7.out HQA.out ?_;intro w8 am8 hg8))
       have fr8:Fr [mb] w7 w8:=Fr.of_grown hg8 (λk e=>by cases e;simp);have p8:=p7.fr fr8 (by have:=HAB.out;simp;omega);have HB8:Hid (Below w.heap.size w w8):=zAa HB7.out fr8 (λk hk=>by have:=HMW.out;simp at hk;omega);have HO8:Hid (OwnA w8 B lw cj):=zAZ fr8 HO7.out (λg e=>by have:=(HO7.out.blk e).1;have:=HBW.out;simp;omega);have HS8:Hid (B<=w8.heap.size):=Nat.le_trans HS7.out fr8.size;have HM8:Hid (AM w8 mb (cj++[z])):=am8;have HR8:Hid (RdA w8 (.slice (some ⟨bq,oq,none⟩) m cr) A):=by
        obtain ⟨x1,x2,x3,x4⟩:=HR7.out;refine ⟨x1,x2,x3,λi hi=>?_⟩;obtain ⟨x5,x6,x7,x8⟩:=x4 i hi;refine ⟨x5,x6,x7,fr8.range x8 ?_⟩;simp only [Value.slice.injEq] at x3;have:=HMG.out x5 (by rw [x3.1,x7];rfl);simp;omega
       clear q0 q1 q2 q3 q4 p7 HM7 HB7 HO7 HS7 HR7 fr8 hg8 am8;have q0:=p8.2.1 0 _ rfl;have q1:=p8.2.1 1 _ rfl;have q2:=p8.2.1 2 _ rfl;have q3:=p8.2.1 3 _ rfl;have q4:=p8.2.1 4 _ rfl;have hb9:=zAH (Below.refl _ w8) (.cells (zBY z).toArray 64);have HPA:Hid (AtL (w8.alloc (.cells (zBY z).toArray 64)) w8.heap.size (zBU [z])):=AtL.new0 w8 64 (zBU [z]);have HB9:Hid (Below w.heap.size w (w8.alloc (.cells (zBY z).toArray 64))):=zAA HB8.out hb9;have HO9:Hid (OwnA (w8.alloc (.cells (zBY z).toArray 64)) B lw cj):=HO8.out.below hb9;have HM9:Hid (AM (w8.alloc (.cells (zBY z).toArray 64)) mb (cj++[z])):=HM8.out.below hb9;have HS9:Hid (B<=(w8.alloc (.cells (zBY z).toArray 64)).heap.size):=Nat.le_trans HS8.out hb9.size;have HR9:Hid (RdA (w8.alloc (.cells (zBY z).toArray 64)) (.slice (some ⟨bq,oq,none⟩) m cr) A):=HR8.out.below hb9;clear p8 HB8 HO8 HM8 HS8 HR8 hb9;go_wp2_with (first | (refine zEv rfl (.tmp 38) (.tmp 40) rfl (w8.alloc (.cells (zBY z).toArray 64)) B HS9.out lw cj rfl HO9.out w8.heap.size 1 [z] rfl rfl HPA.out (by have:=HCJ.out;have:=HA2.out;have:=HAM.out;simp;omega) ?_;intro v9 w9 own9 hg9))
       have fr9:Fr lw.ownBlock.toList (w8.alloc (.cells (zBY z).toArray 64)) w9:=Fr.of_grown hg9 (λk e=>by simp [e]);have HBZ:Hid (Below w.heap.size w w9):=zAa HB9.out fr9 (λk hk=>by have:=(HO9.out.blk (g:=k) (by simpa using hk)).1;have:=HBW.out;omega);have HMZ:Hid (AM w9 mb (cj++[z])):=HM9.out.fr fr9 (λe=>by have:=(HO9.out.blk (g:=mb) (by simpa using e)).1;have:=HBW.out;omega);have HOZ:Hid (OwnA w9 B v9 (cj++[z])):=own9;have HSZ:Hid (B<=w9.heap.size):=Nat.le_trans HS9.out fr9.size;have HDZ:Hid (ddA (cj++[z]) (A.drop (j+1))=ddA cur A):=by show _=_;rw [<-HDJ.out];simp [ddA,HQA.out]
       have HCZ:Hid ((cj++[z]).length<=2000000+(j+1)):=by show _<=_;have:=HCJ.out;simp;omega
       have HRZ:Hid (j+1<m->RdA w9 (.slice (some ⟨bq,oq,none⟩) m cr) A/\(j+1=0->∀ g k,(Value.slice (some ⟨bq,oq,none⟩) m cr).ownBlock=some g->v9.ownBlock=some k->k ≠ g)):=by
        intro hj1;have hj0:j=0:=by have:=HA2.out;have:=HAM.out;omega
        refine ⟨?_,λh=>by omega⟩;obtain ⟨x1,x2,x3,x4⟩:=HR9.out;refine ⟨x1,x2,x3,λi hi=>?_⟩;obtain ⟨x5,x6,x7,x8⟩:=x4 i hi;refine ⟨x5,x6,x7,fr9.range x8 (λe=>?_)⟩;simp only [Value.slice.injEq] at x3;exact HSE.out hj0 x5 x5 (by rw [x3.1,x7];rfl) (by simpa using e) rfl
       clear own9 hg9 fr9 q0 q1 q2 q3 q4 HPA HB9 HO9 HM9 HS9 HR9 HDJ HCJ HQA;go_roundg (m - (j+1))
       case rel=>exact ⟨j+1,v9,cj++[z],rfl,by simp,rfl,hjl,HBZ,HOZ,HMZ,HSZ,HDZ,HCZ,HRZ⟩
       case measure=>omega
     ·have hjm:¬ (j:Int)<(m:Int):=by omega
      have hje:j=m:=by omega
      have HCE:Hid (cj=ddA [] (zEI (L.take (i+1)))):=by
       show _=_
       have e:A.drop j=[]:=List.drop_eq_nil_of_le (by rw [HAM.out];omega);have:=HDJ.out;rw [e] at this;rw [HTK.out,zOt,HCU.out,<-this];rfl
      rw [HCE.out] at HO5 HM5;clear HRJ HDJ HCJ hje;go_wp2_with fail
      go_roundg (n - (i+1))
      case rel=>exact ⟨i+1,lw,rfl,by simp,rfl,hlt,HB5,HO5,HM5,HS5⟩
      case measure=>omega
   ·have hli:¬ (i:Int)<(n:Int):=by omega
    have HTT:Hid (L.take i=L):=List.take_of_length_le (by rw [HL.out];omega);rw [HTT.out,<-HE.out] at HO;go_wp2;go_ret;exact ⟨⟨_,rfl,_,HO.out,HBW.out.2.1⟩,HB.out⟩
open Go.RowKit Wf
theorem zCL:∀ (A:List (Wc.In × Value)) (i j:Nat) (h:i<A.length),j<23->(zAj A)[i * 23+j]? = (zAM (A[i]).1 (A[i]).2)[j]?
 | x::r,0,j,_,hj=>by
  show (zAM x.1 x.2++zAj r)[0 * 23+j]? = _
  rw [List.getElem?_append_left (by simp [zAM];omega)];simp
 | x::r,i+1,j,h,hj=>by
  have ih:=zCL r i j (by simpa using h) hj;show (zAM x.1 x.2++zAj r)[(i+1) * 23+j]? = _
  rw [List.getElem?_append_right (by simp [zAM];omega)];have e:(i+1) * 23+j - (zAM x.1 x.2).length=i * 23+j:=by simp [zAM];omega
  rw [e,ih];rfl
theorem zEg (bb mb lo:Nat) (nv:Value) (ver:Int) (F:List (Wpl.Cl × Ct)) (x:Wpl.Cl) (C:List I) (w:World) (h:AtL w bb [nv,.int .i64 ver,.map (some mb)]) (hm:MB w mb F) (hC:CdP w lo (gtC x F).v C) (hN:True->C.length<=1000000) (hZ:∀ p ∈ C,p.2.length<=1000000) :
  Calls prog 10 #[.pointer (some ⟨bb,0,none⟩),.agg #[.int .i64 x.s,.int .i64 x.r,.int .i64 x.c]] w λe w'=>(∃ av cap,e=.returned (.slice av C.length cap))/\Below w.heap.size w w':=by
 have hb0:=zAH (Below.refl _ w) (.cells #[.int .i64 x.s,.int .i64 x.r,.int .i64 x.c] 24);have p:=AtL.f3 (AtL.new0 w 24 [.int .i64 x.s,.int .i64 x.r,.int .i64 x.c]);have h':=AtL.below hb0 h;obtain ⟨_,_,c2,_⟩:=h'.three;have HM0:Hid (MB (w.alloc (.cells #[.int .i64 x.s,.int .i64 x.r,.int .i64 x.c] 24)) mb F):=hm.below hb0;have HB0:Hid (Below w.heap.size w (w.alloc (.cells #[.int .i64 x.s,.int .i64 x.r,.int .i64 x.c] 24))):=hb0;obtain ⟨g,hg⟩:∃ g,gtC x F=g:=⟨_,rfl⟩
 have HG:Hid (gtC x F=g):=hg;rw [hg] at hC;obtain ⟨gt,ga,gn,gk⟩:=g;have HD0:Hid (CdP w lo (.slice ga gn gk) C):=hC;have HZ:Hid (∀ p ∈ C,p.2.length<=1000000):=hZ;clear h hm h' hb0 hg hC hZ;go_enter func10,ntmps10;go_upto_region 1 with fail
 generalize w.alloc (.cells #[.int .i64 x.s,.int .i64 x.r,.int .i64 x.c] 24)=W0 at *;have t3:zAt W0 w.heap.size (.int .i64 x.s) (.int .i64 x.r) (.int .i64 x.c):=p;clear p;have hb1:=(Below.refl W0.heap.size W0).drew;refine wp_region_held_drew (S:=λW=>W.cell? ⟨bb,2,none⟩=some (.map (some mb))/\zAt W w.heap.size (.int .i64 x.s) (.int .i64 x.r) (.int .i64 x.c)) (by kernel_rfl) ⟨zAC hb1 c2,zAG hb1 t3⟩ (λhHeld=>?_);have HM1:Hid (MB W0.drew mb F):=MB.below HM0.out hb1;have HB1:Hid (Below w.heap.size w W0.drew):=zAA HB0.out hb1;have HD1:Hid (CdP W0.drew lo (.slice ga gn gk) C):=HD0.out.fr (Fr.of_below [] (zAA HB0.out hb1)) (by simp);replace t3:=zAG hb1 t3
 replace c2:=zAC hb1 c2
 clear hb1 HM0 HB0;generalize W0.drew=W1 at *;refine tkQ 0 ?_
 refine tkQ 1 ?_
 refine tkQ 2 ?_
 refine tkQ 3 ?_
 refine tkQ 4 ?_
 refine rdQ 5 (λK hK=>?_);have hlk:(Instr.lookup 55 (.map (some mb)) (.agg #[.int .i64 x.s,.int .i64 x.r,.int .i64 x.c]) false).run prog W1=.ok (.agg #[.string gt,.slice ga gn gk]) W1:=by have:=zEi HM1.out x;rw [HG.out] at this;exact this
 go_simp
 refine hkQ hK ⟨c2,t3⟩ (λhHeld=>?_);clear hK K hlk
 have f1:=λw=>zRY gt ga gn gk w
 refine tkQ 6 ?_
 obtain ⟨P,o1,hPl,hPi⟩:=HD1.out;obtain ⟨n,hn⟩:∃ n,P.length=n:=⟨_,rfl⟩
 have hsl:∀ p ∈ P,∃ av m c,p.2=.slice av m c:=λp hp=>by
  obtain ⟨i,hi,e⟩:=List.mem_iff_getElem.1 hp;have:=OwnZ.slice (hPi i hi (by rw [<-hPl];exact hi)).2;rw [e] at this;exact this
 have CL:=zP2 (.slice ga gn gk) P.length (zAj P) lo W1 o1 (zDG P hsl) (λ_=>by have:=hN trivial;omega);have HP:Hid (P.length=C.length/\P.length=n/\(∀ p ∈ P,∃ av m c,p.2=.slice av m c)/\∀ i (h:i<P.length),∃ Z,OwnZ W1 lo (P[i]).2 Z/\Z.length<=1000000):=⟨hPl,hn,hsl,λi h=>⟨_,(hPi i h (by rw [<-hPl];exact h)).2,HZ.out _ (List.getElem_mem _)⟩⟩
 clear hPl hPi hsl o1 HD1;refine rdQ 7 (λK hK=>?_);go_simp
 refine CL.mono ?_;rintro e w2 ⟨⟨lv,rfl,o2⟩,hb2⟩;have HB2:Hid (Below w.heap.size w w2):=zAA HB1.out hb2;have HZ2:Hid (∀ i (h:i<P.length),∃ Z,OwnZ W1 lo (P[i]).2 Z/\Z.length<=1000000):=HP.out.2.2.2;have HW1:Hid (w.heap.size<=W1.heap.size):=HB1.out.size;have HB12:Hid (Below W1.heap.size W1 w2):=hb2;replace t3:=zAG hb2 t3
 replace c2:=zAC hb2 c2
 clear hb2 HB1 CL HM1;go_wp2_with fail
 refine hkQ hK ⟨c2,t3⟩ (λhHeld=>?_);clear hK K
 refine rdQ 8 (λK hK=>?_);go_simp
 refine hkQ hK ⟨c2,t3⟩ (λhHeld=>?_);clear hK K
 refine wpAnyH_done (by kernel_rfl) ?_ _;clear hHeld c2 t3;have hnC:C.length=n:=by rw [<-HP.out.1];exact HP.out.2.1
 rw [HP.out.2.1] at o2;have HNC:Hid (C.length=n):=hnC;have hN2:True->n<=1000000:=λ_=>by have:=hN trivial;omega
 rcases o2.2 with ⟨e,h0⟩ | ⟨g,cap,cur,e,hbg,_⟩
 ·subst e;clear o2 HZ2 HP HZ;subst h0;go_upto_region 3 with fail
  go_loopg [17] 1 (λgk u wr=>u=.int .i64 0/\wr=w2)
  case atStart=>exact ⟨rfl,rfl⟩
  case round =>
   obtain ⟨rfl,rfl⟩:=hrel;go_wp2;go_ret;exact ⟨⟨none,0,by rw [HNC.out];rfl⟩,HB2.out⟩
 ·subst e;have HO0:Hid (w2.ownsRow W1.heap.size 67 23 (.slice (some ⟨g,0,none⟩) n cap) n (zAj P)):=o2;have HBG:Hid (W1.heap.size<=g):=hbg;have HPn:Hid (P.length=n):=HP.out.2.1;have HSL:Hid (∀ p ∈ P,∃ av m c,p.2=.slice av m c):=HP.out.2.2.1;clear o2 hbg HP HZ hnC;go_upto_region 3 with fail
  go_loopg [17] n (λgk u wr=>∃ (i:Nat) (xs:List Value),u=.int .i64 (i:Int)/\gk=n - i/\Hid (i<=n)/\Hid (wr.ownsRow W1.heap.size 67 23 (.slice (some ⟨g,0,none⟩) n cap) n xs)/\Hid (∀ j (h:j<P.length),i<=j->xs[j * 23+22]? = some (P[j]).2)/\Hid (Fr [g] w2 wr))
  case atStart=>exact ⟨0,zAj P,rfl,rfl,Nat.zero_le _,HO0,λj h _=>by rw [zCL P j 22 h (by decide)];rfl,Fr.refl _ _⟩
  case round =>
   obtain ⟨i,xs,rfl,hg,HI,HO,HX,HF⟩:=hrel;generalize hw9:wr=W at *;clear hw9 HO0;by_cases hlt:i<n
   ·have hii:(i:Int)<(n:Int):=by omega
    have hiz:(0:Int)<=(i:Int):=by omega
    have hwi:IntKind.i64.wrap ((i:Int)+1)=(i:Int)+1:=by have:=hN2 trivial;rw [IntKind.wrap_i64];omega
    have hiP:i<P.length:=by rw [HPn.out];exact hlt
    have hBW:Below W1.heap.size W1 W:=(Fr.new (Fr.of_below [] HB12.out) HF.out (λk hk=>Or.inr (by simp at hk;have:=HBG.out;omega))).to_below (by simp);obtain ⟨za,zm,zc,hz⟩:=HSL.out (P[i]) (List.getElem_mem _);obtain ⟨Z,z1,z2⟩:=HZ2.out i hiP;rw [hz] at z1;have CL:=zQG (.slice za zm zc) Z.length (Z.map (Value.int .i64)) lo W (z1.below hBW) (λu hu=>by obtain ⟨a,_,rfl⟩:=List.mem_map.1 hu;rfl) (λ_=>by omega);have k0:W.cell? ⟨g,i * 23+22,none⟩=some (.slice za zm zc):=by
     have hx:=HX.out i hiP (Nat.le_refl _);rw [hz] at hx;have hc:=HO.out.cells (g:=g) rfl (i * 23+22) _ hx;rwa [show (⟨g,0,none⟩:Addr).add (i * 23+22)=⟨g,i * 23+22,none⟩ from by simp [Addr.add]] at hc
    clear z1 z2 hz hBW;go_wp2_with fail
    refine CL.mono ?_;rintro e w3 ⟨⟨nv,rfl,on⟩,hb3⟩;have o3:w3.ownsRow W1.heap.size 67 23 (.slice (some ⟨g,0,none⟩) n cap) n xs:=zAZ (Fr.of_below [] hb3) HO.out (by simp);obtain ⟨o4,hg4⟩:=World.ownsRow.stored o3 (i * 23+22) nv;have k3:=zAC hb3 k0;have k4:w3.frozen? ⟨g,i * 23+22,none⟩=false:=by
     rcases o3.2 with ⟨e,_⟩ | ⟨g',cap',cur',e,_,hgg,_⟩
     ·cases e
     ·simp only [Value.slice.injEq,Option.some.injEq,Addr.mk.injEq] at e;obtain ⟨⟨rfl,_⟩,_⟩:=e;simp [World.frozen?,hgg]
    obtain ⟨nva,nvm,nvc,hnv⟩:∃ a m c,nv=.slice a m c:=by
     rcases on.2 with ⟨e,_⟩ | ⟨_,_,_,e,_⟩
     ·exact ⟨_,_,_,e⟩
     ·exact ⟨_,_,_,e⟩
    subst hnv;have HO4:Hid ((w3.setCell ⟨g,i * 23+22,none⟩ (.slice nva nvm nvc)).ownsRow W1.heap.size 67 23 (.slice (some ⟨g,0,none⟩) n cap) n (xs.set (i * 23+22) (.slice nva nvm nvc))):=o4;have HX4:Hid (∀ j (h:j<P.length),i+1<=j->(xs.set (i * 23+22) (.slice nva nvm nvc))[j * 23+22]? = some (P[j]).2):=λj h hj=>by
     rw [List.getElem?_set_ne (by omega)];exact HX.out j h (by omega)
    have HF4:Hid (Fr [g] w2 (w3.setCell ⟨g,i * 23+22,none⟩ (.slice nva nvm nvc))):=(HF.out.trans (Fr.of_below _ hb3)).trans (zAf g [.slice nva nvm nvc] (i * 23+22) w3);clear CL on o3 o4 hg4 hb3 k0 HO HX HF;go_wp2_with fail
    go_roundg (n - (i+1))
    case rel=>exact ⟨i+1,_,by simp,rfl,hlt,HO4,HX4,HF4⟩
    case measure=>omega
   ·have hii:¬ (i:Int)<(n:Int):=by omega
    have HE:Hid (Below w.heap.size w W):=(Fr.new (Fr.of_below [] HB2.out) HF.out (λk hk=>Or.inr (by simp at hk;have:=HBG.out;have:=HW1.out;omega))).to_below (by simp);clear HO HX HF;go_wp2;go_ret;exact ⟨⟨_,_,by rw [HNC.out];rfl⟩,HE.out⟩
theorem OwnI.cellB {G n cap:Nat} {A:List (Wc.In × Value)} (h:OwnI w B (.slice (some ⟨G,0,none⟩) n cap) A) {i:Nat} (hi:i<A.length):w.rangeAt G (i * 23) (zAM (A[i]).1 (A[i]).2):=by
 intro j v hv;have hj:j<23:=by
  rcases Nat.lt_or_ge j 23 with q | q
  ·exact q
  ·rw [List.getElem?_eq_none (by simp [zAM];omega)] at hv;cases hv
 have hc:=h.cells (g:=G) rfl (i * 23+j) v (by rw [zCL A i j hi hj];exact hv);rwa [show (⟨G,0,none⟩:Addr).add (i * 23+j)=⟨G,i * 23+j,none⟩ from by
  simp [Addr.add];try (intro h0;omega)] at hc
theorem zMO {lv:Value} {P:List (Wc.In × Value)} (h:OwnI w B lv P) (hl:P.length=C.length) (hi:∀ i (h:i<P.length) (h':i<C.length),(P[i]).1=(C[i]).1/\OwnZ w B (P[i]).2 (C[i]).2):RdC w lv C:=by
 rcases h.2 with ⟨e,h0⟩ | ⟨G,cap,cur,e,hb,hg,r⟩
 ·subst e;refine ⟨none,0,by rw [<-hl,h0],λi hi=>?_⟩;omega
 ·subst e;refine ⟨some ⟨G,0,none⟩,cap,by rw [<-hl],λi hi2=>?_⟩;have hi3:i<P.length:=by omega
  have c:=OwnI.cellB h (i:=i) hi3;obtain ⟨q1,q2⟩:=hi i hi3 hi2;have rz:=q2.rd;rcases q2.2 with ⟨e2,h2⟩ | ⟨G2,cap2,cur2,e2,_⟩
  ·rw [q1,e2] at c;rw [e2] at rz;exact ⟨G,0,none,0,0,rfl,by rw [Nat.zero_add];exact c,rz,λ_=>rfl⟩
  ·rw [q1,e2] at c;rw [e2] at rz;exact ⟨G,0,_,_,_,rfl,by rw [Nat.zero_add];exact c,rz,λh=>by cases h⟩
theorem CdP.rdc {lo:Nat} {v:Value} (h:CdP w lo v C):RdC w v C:=by
 obtain ⟨P,h1,h2,h3⟩:=h;exact zMO h1 h2 h3
theorem zNT (bb mb lo:Nat) (nv:Value) (ver:Int) (F:List (Wpl.Cl × Ct)) (x:Wpl.Cl) (C:List I) (w:World) (h:AtL w bb [nv,.int .i64 ver,.map (some mb)]) (hm:MB w mb F) (hC:CdP w lo (gtC x F).v C) (hN:NmAt w) (hl:C.length<=1000000) (hZ:∀ p ∈ C,p.2.length<=1000000/\Wt.FitV p.1.v) (hR:∀ p ∈ C,zGH p) :
  Calls prog 12 #[.pointer (some ⟨bb,0,none⟩),.agg #[.int .i64 x.s,.int .i64 x.r,.int .i64 x.c]] w λe w'=>(∃ av cap,e=.returned (.slice av (usA C).length cap))/\Below w.heap.size w w':=by
 have hb0:=zAH (Below.refl _ w) (.cells #[.int .i64 x.s,.int .i64 x.r,.int .i64 x.c] 24);have p:=AtL.f3 (AtL.new0 w 24 [.int .i64 x.s,.int .i64 x.r,.int .i64 x.c]);have h':=AtL.below hb0 h;obtain ⟨_,_,c2,_⟩:=h'.three;have HM0:Hid (MB (w.alloc (.cells #[.int .i64 x.s,.int .i64 x.r,.int .i64 x.c] 24)) mb F):=hm.below hb0;have HB0:Hid (Below w.heap.size w (w.alloc (.cells #[.int .i64 x.s,.int .i64 x.r,.int .i64 x.c] 24))):=hb0;obtain ⟨g,hg⟩:∃ g,gtC x F=g:=⟨_,rfl⟩
 have HG:Hid (gtC x F=g):=hg;rw [hg] at hC;obtain ⟨gt,ga,gn,gk⟩:=g;have HU0:Hid (∀ W,Below w.heap.size w W->Calls prog 25 #[.slice ga gn gk] W λe w'=>(∃ av cap,e=.returned (.slice av (usA C).length cap))/\Below W.heap.size W w'):=λW hb=>by
  refine Calls.mono (zLG C (.slice ga gn gk) W (RdC.below hC.rdc hb) hl hZ (hN.below hb) hR) ?_;rintro e w' ⟨⟨r,B,rfl,ho,_⟩,hb'⟩;refine ⟨?_,hb'⟩;rcases ho.2 with ⟨e,h0⟩ | ⟨g,c,cur,e,_⟩
  ·exact ⟨none,0,by rw [e,h0]⟩
  ·exact ⟨_,_,by rw [e]⟩
 clear h hm h' hb0 hg hC hZ hN hl hR;go_enter func12,ntmps12;go_upto_region 1 with fail
 generalize w.alloc (.cells #[.int .i64 x.s,.int .i64 x.r,.int .i64 x.c] 24)=W0 at *;have t3:zAt W0 w.heap.size (.int .i64 x.s) (.int .i64 x.r) (.int .i64 x.c):=p;clear p;have hb1:=(Below.refl W0.heap.size W0).drew;refine wp_region_held_drew (S:=λW=>W.cell? ⟨bb,2,none⟩=some (.map (some mb))/\zAt W w.heap.size (.int .i64 x.s) (.int .i64 x.r) (.int .i64 x.c)) (by kernel_rfl) ⟨zAC hb1 c2,zAG hb1 t3⟩ (λhHeld=>?_);have HM1:Hid (MB W0.drew mb F):=MB.below HM0.out hb1;have HB1:Hid (Below w.heap.size w W0.drew):=zAA HB0.out hb1;have US:=HU0.out W0.drew (zAA HB0.out hb1);replace t3:=zAG hb1 t3
 replace c2:=zAC hb1 c2
 clear hb1 HM0 HB0 HU0;generalize W0.drew=W1 at *;refine tkQ 0 ?_
 refine tkQ 1 ?_
 refine tkQ 2 ?_
 refine tkQ 3 ?_
 refine tkQ 4 ?_
 refine rdQ 5 (λK hK=>?_);have hlk:(Instr.lookup 55 (.map (some mb)) (.agg #[.int .i64 x.s,.int .i64 x.r,.int .i64 x.c]) false).run prog W1=.ok (.agg #[.string gt,.slice ga gn gk]) W1:=by have:=zEi HM1.out x;rw [HG.out] at this;exact this
 go_simp
 refine hkQ hK ⟨c2,t3⟩ (λhHeld=>?_);clear hK K hlk
 have f1:=λw=>zRY gt ga gn gk w
 refine tkQ 6 ?_
 refine rdQ 7 (λK hK=>?_);go_simp
 refine US.mono ?_;rintro e w2 ⟨⟨av,cap,rfl⟩,hb2⟩;have HB2:Hid (Below w.heap.size w w2):=zAA HB1.out hb2;replace t3:=zAG hb2 t3
 replace c2:=zAC hb2 c2
 clear hb2 HB1 US HM1;go_wp2_with fail
 refine hkQ hK ⟨c2,t3⟩ (λhHeld=>?_);clear hK K
 refine rdQ 8 (λK hK=>?_);go_simp
 refine hkQ hK ⟨c2,t3⟩ (λhHeld=>?_);clear hK K
 refine wpAnyH_done (by kernel_rfl) ?_ _;clear hHeld c2 t3;go_wp2;go_ret;exact ⟨⟨av,cap,rfl⟩,HB2.out⟩
theorem zOD:∀ p ∈ [ins 2 0 0,ins 16 0 0],zGH p:=by
 intro p hp;simp only [List.mem_cons,List.not_mem_nil,or_false] at hp;rcases hp with rfl | rfl
 ·refine ⟨zOp (by decide),?_⟩;intro av n c w hz hl hf hN;rw [zQk rfl];exact zMd _ av n c _ w rfl hz hl
 ·refine ⟨zQT rfl,?_⟩;intro av n c w hz hl hf hN;rw [zPR rfl];exact zJ8 _ av n c _ w rfl hz hl
theorem zQC:(usA [ins 2 0 0,ins 16 0 0]).length=1:=by kernel_rfl
theorem zOu:∀ x ∈ [ins 2 0 0,ins 16 0 0],x.2.length<=1000000/\Wt.FitV x.1.v:=by
 intro x hx;simp only [List.mem_cons,List.not_mem_nil,or_false] at hx;rcases hx with rfl | rfl
 ·exact ⟨by simp [ins],by unfold Wt.FitV;decide⟩
 ·exact ⟨by simp [ins],by unfold Wt.FitV;decide⟩
