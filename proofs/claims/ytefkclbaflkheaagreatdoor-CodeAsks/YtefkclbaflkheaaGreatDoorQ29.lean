/- KReads, KUses. -/
import Derived.Test.YtefkclbaflkheaaGreatDoorQ28
set_option maxHeartbeats 4000000
set_option maxRecDepth 100000
namespace Go.Proofs.YtefkclbaflkheaaGreatDoor
open Tryz
open Go.RowKit
set_option linter.unusedVariables false
def RdP (A:List Wpl.Ar) (w:World) (e:Ending) (w':World):Prop:=∃ r,e=.returned r/\RdA w' r A/\(∀ g,r.ownBlock=some g->w.heap.size<=g)
theorem RdP.one {w W:World} {x:Wpl.Ar} (hw:w.heap.size<=W.heap.size):RdP [x] w (.returned (.slice (some ⟨W.heap.size,0,none⟩) 1 1)) (W.alloc (.cells (zAb x).toArray 53)) :=
 ⟨_,rfl,RdA.at0 (A:=[x]) (λj u hu=>(AtL.new0 W 53 (zAb x)).2.1 j u (by simpa [zA8] using hu)),λg e=>by
  have e2:W.heap.size=g:=by simpa [Value.ownBlock] using e
  omega⟩
theorem zFt (x:Wc.In) (tv:Value) (w:World):Calls prog 38 #[.agg (zAD x tv).toArray] w λe w'=>RdP (rdA x) w e w'/\Below w.heap.size w w':=by
 have ON:=zEh x.ce.s x.ce.r x.ce.c;have HON:Hid (∀ w:World,CR 71 #[.agg #[.int .i64 x.ce.s,.int .i64 x.ce.r,.int .i64 x.ce.c]] w (.tuple #[.agg #[.int .i64 (zBj x.ce.s x.ce.r x.ce.c).s,.int .i64 (zBj x.ce.s x.ce.r x.ce.c).t,.int .i64 (zBj x.ce.s x.ce.r x.ce.c).l,.int .i64 (zBj x.ce.s x.ce.r x.ce.c).b,.int .i64 (zBj x.ce.s x.ce.r x.ce.c).r],.bool (Wpl.rightC x.ce.s x.ce.r x.ce.c)])):=ON;clear ON;have hb:=zAK (Below.refl _ w) (.cells (zAD x tv).toArray 56);have p:=AtL.new0 w 56 (zAD x tv);have c0:=p.2.1 0 _ rfl;obtain ⟨q,hq⟩:∃ q,rdA x=q:=⟨_,rfl⟩
 have HQ:Hid (rdA x=q):=hq;rw [hq];clear hq;go_enter func38,ntmps38;go_upto_region 1 with fail
 generalize (w.alloc (.cells (zAD x tv).toArray 56))=W at *;have HSW:Hid (w.heap.size<=W.heap.size):=hb.size;by_cases h2:x.op=2
 ·have h2b:(x.op == 2)=true:=by simp [h2]
  have HR:Hid (q=[zBj x.ce.s x.ce.r x.ce.c]):=by show _=_;rw [<-HQ.out];simp [rdA,h2]
  have c9:=p.2.1 9 _ rfl;have c10:=p.2.1 10 _ rfl;have c11:=p.2.1 11 _ rfl;have ON:=HON.out W;generalize zBj x.ce.s x.ce.r x.ce.c=V at *;clear p h2 HON HQ;go_wp2_with fail
  refine ON.mono ?_;rintro e w1 ⟨rfl,hb1⟩;have hB1:=zAB hb hb1;have hb2:=zAK (Below.refl _ w1) (.cells (zAb V).toArray 53);have p2:=AtL.new0 w1 53 (zAb V);have q0:=p2.2.1 0 _ rfl;have q1:=p2.2.1 1 _ rfl;have q2:=p2.2.1 2 _ rfl;have q3:=p2.2.1 3 _ rfl;have q4:=p2.2.1 4 _ rfl;have hB2:=zAB hB1 hb2;clear p2 hb2 ON hb hb1 c0 c9 c10 c11;go_upto_region 4 with fail
  generalize (w1.alloc (.cells (zAb V).toArray 53))=W2 at *;have HB3:Hid (Below w.heap.size w (W2.alloc (.cells (zAb V).toArray 53))):=zAK hB2 _;have HP3:Hid (RdP [V] w (.returned (.slice (some ⟨W2.heap.size,0,none⟩) 1 1)) (W2.alloc (.cells (zAb V).toArray 53))):=RdP.one hB2.size;clear hB2 hB1;go_wp2;go_ret;exact ⟨by rw [HR.out];exact HP3.out,HB3.out⟩
 ·have h2b:(x.op == 2)=false:=by simp [h2]
  by_cases h8:x.op=8 \/ x.op=11
  ·have HR:Hid (q=[x.ar]):=by show _=_;rw [<-HQ.out];simp [rdA,h2,h8]
   have q0:=p.2.1 12 _ rfl;have q1:=p.2.1 13 _ rfl;have q2:=p.2.1 14 _ rfl;have q3:=p.2.1 15 _ rfl;have q4:=p.2.1 16 _ rfl;have HB3:Hid (Below w.heap.size w (W.alloc (.cells (zAb x.ar).toArray 53))):=zAK hb _;have HP3:Hid (RdP [x.ar] w (.returned (.slice (some ⟨W.heap.size,0,none⟩) 1 1)) (W.alloc (.cells (zAb x.ar).toArray 53))):=RdP.one HSW.out;have hc:((x.op == 8)=true) \/ ((x.op == 8)=false/\(x.op == 11)=true):=by
    rcases h8 with h | h
    ·left;simp [h]
    ·right;simp [h]
   clear p h8 h2 HON HQ;rcases hc with e8 | ⟨e8,e11⟩
   ·go_wp2;go_ret;exact ⟨by rw [HR.out];exact HP3.out,HB3.out⟩
   ·go_wp2;go_ret;exact ⟨by rw [HR.out];exact HP3.out,HB3.out⟩
  ·have e8:(x.op == 8)=false:=by simp;omega
   have e11:(x.op == 11)=false:=by simp;omega
   by_cases h9:x.op=9
   ·have HR:Hid (q=[x.ar,x.pr]):=by show _=_;rw [<-HQ.out];simp [rdA,h9]
    have e9:(x.op == 9)=true:=by simp [h9]
    have q0:=p.2.1 12 _ rfl;have q1:=p.2.1 13 _ rfl;have q2:=p.2.1 14 _ rfl;have q3:=p.2.1 15 _ rfl;have q4:=p.2.1 16 _ rfl;have r0:=p.2.1 17 _ rfl;have r1:=p.2.1 18 _ rfl;have r2:=p.2.1 19 _ rfl;have r3:=p.2.1 20 _ rfl;have r4:=p.2.1 21 _ rfl;have HB3:Hid (Below w.heap.size w (W.alloc (.cells (zAb x.ar++zAb x.pr).toArray 53))):=zAK hb _;have HP3:Hid (RdP [x.ar,x.pr] w (.returned (.slice (some ⟨W.heap.size,0,none⟩) 2 2)) (W.alloc (.cells (zAb x.ar++zAb x.pr).toArray 53))) :=
     ⟨_,rfl,RdA.at0 (A:=[x.ar,x.pr]) (λj u hu=>(AtL.new0 W 53 (zAb x.ar++zAb x.pr)).2.1 j u (by simpa [zA8] using hu)),λg e=>by
      have e2:W.heap.size=g:=by simpa [Value.ownBlock] using e
      have:=HSW.out;omega⟩
    clear p h8 h2 h9 HON HQ;go_wp2;go_ret;exact ⟨by rw [HR.out];exact HP3.out,HB3.out⟩
   ·have HR:Hid (q=[]):=by show _=_;rw [<-HQ.out];simp [rdA,h2,h8,h9]
    have e9:(x.op == 9)=false:=by simp [h9]
    clear p h8 h2 h9 HON HQ;go_wp2;go_ret;exact ⟨by rw [HR.out];exact ⟨_,rfl,RdA.nil _,λg e=>by cases e⟩,hb⟩
def usA (L:List (Wc.In × List Int)):List Wpl.Ar:=if Wc.chkP rgt L=true then ddA [] (zBM L) else []
theorem zHU (L:List (Wc.In × List Int)) (v:Value) (w:World) (h:RdC w v L) (hl:L.length<=1000000) (ht:∀ x ∈ L,x.2.length<=1000000/\Wt.FitV x.1.v) (hN:NmAt w) (hCR:∀ x ∈ L,zEx x) :
  Calls prog 16 #[v] w λe w'=>(∃ r B,e=.returned r/\OwnA w' B r (usA L)/\w.heap.size<=B)/\Below w.heap.size w w':=by
 have CK:=zCT L v w h hl ht hN hCR;clear hCR;obtain ⟨a1,c1,rfl,r1⟩:=h;have HR:Hid (RdC w (.slice a1 L.length c1) L):=⟨a1,c1,rfl,r1⟩
 obtain ⟨n,hn⟩:∃ n,L.length=n:=⟨_,rfl⟩
 have HL:Hid (L.length=n):=hn;have HN:Hid (n<=1000000):=by show n<=_;omega
 rw [hn] at CK ⊢;have hmk:∀ w:World,(Instr.makeMap 84 none).run prog w=.ok (.map (some w.heap.size)) (w.alloc (.map #[] 0)):=λw=>by kernel_rfl
 obtain ⟨qc,hqc⟩:∃ b,Wc.chkP rgt L=b:=⟨_,rfl⟩
 have HU:Hid (usA L=if qc=true then ddA [] (zBM L) else []):=by show _=_;rw [<-hqc];rfl
 rw [hqc] at CK;obtain ⟨us,hus⟩:∃ u,usA L=u:=⟨_,rfl⟩
 rw [hus] at HU ⊢;clear hqc hus r1 hl ht hN hn;cases qc with
 | false =>
  have HE:Hid (us=[]):=HU;go_enter func16,ntmps16;go_wp2_with fail
  refine CK.mono ?_;rintro e w1 ⟨rfl,hb1⟩;go_wp2;go_ret;exact ⟨by rw [HE.out];exact ⟨_,_,rfl,OwnA.nil _ w.heap.size,Nat.le_refl _⟩,hb1⟩
 | true =>
  have HE:Hid (us=ddA [] (zBM L)):=HU;clear HU;go_enter func16,ntmps16;go_wp2_with fail
  refine CK.mono ?_;rintro e w1 ⟨rfl,hb1⟩;go_upto_region 5 with fail
  have hbm:=zAK (Below.refl _ w1) (.map #[] 0);have HB2:Hid (Below w.heap.size w (w1.alloc (.map #[] 0))):=zAB hb1 hbm;have HM2:Hid (AM (w1.alloc (.map #[] 0)) w1.heap.size []):=⟨#[],zAq _ _ _ rfl,rfl⟩
  have HMW:Hid (w.heap.size<=w1.heap.size):=hb1.size;have HBS:Hid (w1.heap.size<(w1.alloc (.map #[] 0)).heap.size):=zEQ _ _;clear CK hbm hb1 hmk;generalize (w1.alloc (.map #[] 0))=w2 at *;obtain ⟨mb,hmb⟩:∃ k,w1.heap.size=k:=⟨_,rfl⟩
  rw [hmb] at HM2 HMW HBS;simp only [hmb];clear hmb;have HO2:Hid (OwnA w2 w2.heap.size (.slice none 0 0) (ddA [] (zBM (L.take 0)))):=by show OwnA _ _ _ _;rw [List.take_zero];exact OwnA.nil _ _
  have HM20:Hid (AM w2 mb (ddA [] (zBM (L.take 0)))):=by show AM _ _ _;rw [List.take_zero];exact HM2.out
  obtain ⟨B,hBB⟩:∃ b,w2.heap.size=b:=⟨_,rfl⟩
  rw [hBB] at HO2 HBS;have HBW:Hid (B<=w2.heap.size/\w.heap.size<=B/\mb<B):=⟨by omega,by have:=HB2.out.size;omega,HBS.out⟩
  clear HM2 hBB HBS;go_wp2_with fail
  go_loopg [3,17] n (λgk u3 u17 wr=>∃ (i:Nat) (lv:Value),lv=u3/\u17=.int .i64 i/\gk=n - i/\i<=n/\Hid (Below w.heap.size w wr)/\Hid (OwnA wr B lv (ddA [] (zBM (L.take i))))/\Hid (AM wr mb (ddA [] (zBM (L.take i))))/\Hid (B<=wr.heap.size))
  case atStart=>exact ⟨0,_,rfl,rfl,rfl,Nat.zero_le _,HB2,HO2,HM20,HBW.out.1⟩
  case round =>
   clear HB2 HO2 HM20;obtain ⟨i,lv,rfl,rfl,hg,hi,HB,HO,HM,HBH⟩:=hrel;by_cases hlt:i<n
   ·have hli:(i:Int)<(n:Int):=by omega
    have hiz:(0:Int)<=(i:Int):=by omega
    have hwi:IntKind.i64.wrap ((i:Int)+1)=(i:Int)+1:=by rw [IntKind.wrap_i64];have:=HN.out;omega
    have hil:i<L.length:=by rw [HL.out];exact hlt
    have H0:=HR.out.below HB.out;obtain ⟨q1,d1,e1,f1⟩:=H0;simp only [Value.slice.injEq] at e1;obtain ⟨ex1,ex2,ex3⟩:=e1;obtain ⟨bb,off,p,mm,kk,ee,t1,_,_⟩:=f1 i hil;rw [ee] at ex1;subst ex1;obtain ⟨y,tl,hyt⟩:∃ y tl,L[i]=(y,tl):=⟨_,_,rfl⟩
    rw [hyt] at t1;have HTK:Hid (zBM (L.take (i+1))=zBM (L.take i)++rdA y):=by show _=_;rw [zDH hil,hyt]
    have HCL:Hid ((ddA [] (zBM (L.take i))).length<=2000000):=by show _<=_;have h1:=zBz (zBM (L.take i)) [];have h2:=zB8 (L.take i);have:=HN.out;have:=HL.out;simp at h1 h2;omega
    obtain ⟨cur,hcur⟩:∃ c,(ddA [] (zBM (L.take i)))=c:=⟨_,rfl⟩
    have HCU:Hid ((ddA [] (zBM (L.take i)))=cur):=hcur;rw [hcur] at HO HM HCL;have hth:World.there (wr.alloc (.cells zeros23 56)) wr.heap.size 0 (zAD y (.slice p mm kk)).toArray.size:=(AtL.new0 wr _ _:AtL (wr.alloc (.cells zeros23 56)) wr.heap.size zeros23.toList).there;clear f1 hyt ee ex2 ex3 hcur;go_upto_region 8 with (first | (refine zAA (by rfl) 56 (.tmp 19) rfl bb (off+i * 23) rfl (zAD y (.slice p mm kk)) _ t1 underlying56 rfl (by kernel_rfl) ?_) | ((with_reducible refine wpList_store_mid ?_ 56 (.tmp 6) (.tmp 20) ?_ wr.heap.size 0 (zAD y (.slice p mm kk)).toArray ?_ ?_ ?_ ?_ ?_ ?_);rfl;rfl;rfl;rfl;exact hth;kernel_rfl;exact zAZ _ _ _ _))
    have pI:AtL ((wr.alloc (.cells zeros23 56)).setCells wr.heap.size 0 (zAD y (.slice p mm kk))) wr.heap.size (zAD y (.slice p mm kk)):=(AtL.new0 wr _ _:AtL (wr.alloc (.cells zeros23 56)) wr.heap.size zeros23.toList).setAll rfl;have hbI:Below wr.heap.size wr ((wr.alloc (.cells zeros23 56)).setCells wr.heap.size 0 (zAD y (.slice p mm kk))):=zAa (zAK (Below.refl _ wr) _) (Nat.le_refl _) _ 0;have HB3:Hid (Below w.heap.size w ((wr.alloc (.cells zeros23 56)).setCells wr.heap.size 0 (zAD y (.slice p mm kk)))):=zAB HB.out hbI;have HM3:Hid (AM ((wr.alloc (.cells zeros23 56)).setCells wr.heap.size 0 (zAD y (.slice p mm kk))) mb cur):=HM.out.below hbI;have HO3:Hid (OwnA ((wr.alloc (.cells zeros23 56)).setCells wr.heap.size 0 (zAD y (.slice p mm kk))) B lv cur):=HO.out.below hbI;have HS3:Hid (B<=((wr.alloc (.cells zeros23 56)).setCells wr.heap.size 0 (zAD y (.slice p mm kk))).heap.size):=Nat.le_trans HBH.out hbI.size;clear hth t1 hbI HM HB HO HBH;generalize ((wr.alloc (.cells zeros23 56)).setCells wr.heap.size 0 (zAD y (.slice p mm kk)))=w3 at *;obtain ⟨X,hX⟩:∃ k,wr.heap.size=k:=⟨_,rfl⟩
    rw [hX] at pI;simp only [hX];clear hX;have rI:=pI.range;have RL:=zFt y (.slice p mm kk) w3;go_wp2_with (first | (refine zAA (by rfl) 56 (.tmp 6) rfl X 0 rfl (zAD y (.slice p mm kk)) _ rI underlying56 rfl (by kernel_rfl) ?_))
    refine RL.mono ?_;rintro e w4 ⟨⟨r,rfl,hr,hgr⟩,hb4⟩;have HB4:Hid (Below w.heap.size w w4):=zAB HB3.out hb4;have HM4:Hid (AM w4 mb cur):=HM3.out.below hb4;have HO4:Hid (OwnA w4 B lv cur):=HO3.out.below hb4;have HS4:Hid (B<=w4.heap.size):=Nat.le_trans HS3.out hb4.size;have HSP:Hid (∀ g k,r.ownBlock=some g->lv.ownBlock=some k->k ≠ g):=λg k e1 e2=>by have:=hgr g e1;have:=(HO3.out.blk e2).2;omega
    have HMG:Hid (∀ g,r.ownBlock=some g->mb ≠ g):=λg e=>by have:=hgr g e;have:=HM3.out.lt;omega
    obtain ⟨A,hA⟩:∃ A,rdA y=A:=⟨_,rfl⟩
    have HA2:Hid (A.length<=2):=by show _<=_;rw [<-hA];exact zGl y
    rw [hA] at hr HTK;obtain ⟨m,hm⟩:∃ m,A.length=m:=⟨_,rfl⟩
    have HAM:Hid (A.length=m):=hm;have HRA0:Hid (RdA w4 r A):=hr;obtain ⟨ar,cr,er,_⟩:=hr;rw [hm] at er;subst er;have HRA:Hid (RdA w4 (.slice ar m cr) A):=HRA0.out;have HDD:Hid (ddA cur (A.drop 0)=ddA cur A):=rfl;clear RL rI pI hb4 HB3 HM3 HO3 HS3 HRA0 hA hm hgr;go_wp2_with fail
    go_loopg [3,24] m (λgk u3 u24 wr=>∃ (j:Nat) (lw:Value) (cj:List Wpl.Ar),lw=u3/\u24=.int .i64 j/\gk=m - j/\j<=m/\Hid (Below w.heap.size w wr)/\Hid (OwnA wr B lw cj)/\Hid (AM wr mb cj)/\Hid (B<=wr.heap.size)/\Hid (ddA cj (A.drop j)=ddA cur A)/\Hid (cj.length<=2000000+j)/\Hid (j<m->RdA wr (.slice ar m cr) A/\(j=0->∀ g k,(Value.slice ar m cr).ownBlock=some g->lw.ownBlock=some k->k ≠ g)))
    case atStart=>exact ⟨0,_,cur,rfl,rfl,rfl,Nat.zero_le _,HB4,HO4,HM4,HS4,HDD,HCL,(λ_=>⟨HRA.out,λ_=>HSP.out⟩:0<m->RdA w4 (.slice ar m cr) A/\(0=0->∀ g k,(Value.slice ar m cr).ownBlock=some g->lv.ownBlock=some k->k ≠ g))⟩
    case round =>
     clear HB4 HO4 HM4 HS4 HDD HCL HRA HSP;obtain ⟨j,lw,cj,rfl,rfl,hgj,hj,HB5,HO5,HM5,HS5,HDJ,HCJ,HRJ⟩:=hrel;by_cases hjl:j<m
     ·have hjm:(j:Int)<(m:Int):=by omega
      have hjz:(0:Int)<=(j:Int):=by omega
      have hwj:IntKind.i64.wrap ((j:Int)+1)=(j:Int)+1:=by rw [IntKind.wrap_i64];have:=HA2.out;have:=HAM.out;omega
      have hjA:j<A.length:=by rw [HAM.out];exact hjl
      obtain ⟨hrd,hsep⟩:=HRJ.out hjl;obtain ⟨z,hz⟩:∃ z,A[j]=z:=⟨_,rfl⟩
      have cJ0:∃ bq oq,ar=some ⟨bq,oq,none⟩/\wr.rangeAt bq (oq+j * 5) (zAb z):=by
       obtain ⟨x1,x2,x3,x4⟩:=hrd;obtain ⟨x5,x6,x7,x8⟩:=x4 j hjA;simp only [Value.slice.injEq] at x3;rw [hz] at x8;exact ⟨x5,x6,by rw [x3.1];exact x7,x8⟩
      have HRD:Hid (RdA wr (.slice ar m cr) A):=hrd;have HSE:Hid (j=0->∀ g k,(Value.slice ar m cr).ownBlock=some g->lw.ownBlock=some k->k ≠ g):=hsep;obtain ⟨bq,oq,rfl,cJ⟩:=cJ0;have HDC:Hid (A.drop j=z::A.drop (j+1)):=by show _=_;rw [List.drop_eq_getElem_cons hjA,hz]
      rw [HDC.out] at HDJ;clear hz hjA hrd hsep HRJ;have q0:wr.cell? ⟨bq,oq+j * 5,none⟩=some (.int .i64 z.s):=by have:=cJ 0 _ rfl;simpa using this
      have q1:=cJ 1 _ rfl;have q2:=cJ 2 _ rfl;have q3:=cJ 3 _ rfl;have q4:=cJ 4 _ rfl;have hb6:=zAK (Below.refl _ wr) (.cells (zAb z).toArray 53);have p6:=AtL.new0 wr 53 (zAb z);have HB6:Hid (Below w.heap.size w (wr.alloc (.cells (zAb z).toArray 53))):=zAB HB5.out hb6;have hm6:AM (wr.alloc (.cells (zAb z).toArray 53)) mb cj:=HM5.out.below hb6;have HO6:Hid (OwnA (wr.alloc (.cells (zAb z).toArray 53)) B lw cj):=HO5.out.below hb6;have HS6:Hid (B<=(wr.alloc (.cells (zAb z).toArray 53)).heap.size):=Nat.le_trans HS5.out hb6.size;have HR6:Hid (RdA (wr.alloc (.cells (zAb z).toArray 53)) (.slice (some ⟨bq,oq,none⟩) m cr) A):=HRD.out.below hb6;have HAB:Hid (mb<wr.heap.size/\∀ k,lw.ownBlock=some k->k<wr.heap.size):=⟨HM5.out.lt,λk e=>(HO5.out.blk e).2⟩
      clear hb6 cJ HB5 HM5 HO5 HS5 HRD;go_upto_region 11 with fail
      generalize (wr.alloc (.cells (zAb z).toArray 53))=w6 at *;obtain ⟨AB,hAB⟩:∃ k,wr.heap.size=k:=⟨_,rfl⟩
      rw [hAB] at p6 HAB;simp only [hAB];clear hAB q0 q1 q2 q3 q4;have q0:=p6.2.1 0 _ rfl;have q1:=p6.2.1 1 _ rfl;have q2:=p6.2.1 2 _ rfl;have q3:=p6.2.1 3 _ rfl;have q4:=p6.2.1 4 _ rfl;have hlk:=zM2 hm6 z;obtain ⟨qa,hqa⟩:∃ b,cj.any (λy=>zBJ y z)=b:=⟨_,rfl⟩
      have HQA:Hid (cj.any (λy=>zBJ y z)=qa):=hqa;rw [hqa] at hlk;clear hqa;go_upto_region 12 with fail
      have hb7:=zAK (Below.refl _ w6) (.cells #[] 86);have p7:=AtL.below hb7 p6;have HB7:Hid (Below w.heap.size w (w6.alloc (.cells #[] 86))):=zAB HB6.out hb7;have HM7:Hid (AM (w6.alloc (.cells #[] 86)) mb cj):=hm6.below hb7;have HO7:Hid (OwnA (w6.alloc (.cells #[] 86)) B lw cj):=HO6.out.below hb7;have HS7:Hid (B<=(w6.alloc (.cells #[] 86)).heap.size):=Nat.le_trans HS6.out hb7.size;have HR7:Hid (RdA (w6.alloc (.cells #[] 86)) (.slice (some ⟨bq,oq,none⟩) m cr) A):=HR6.out.below hb7;clear hlk q0 q1 q2 q3 q4 hb7 p6 hm6 HB6 HO6 HS6 HR6;generalize (w6.alloc (.cells #[] 86))=w7 at *;cases qa with
      | true =>
       have HD9:Hid (ddA cj (A.drop (j+1))=ddA cur A):=by show _=_;rw [<-HDJ.out];simp only [ddA,HQA.out,if_true]
       have HC9:Hid (cj.length<=2000000+(j+1)):=by show _<=_;have:=HCJ.out;omega
       have HR9:Hid (j+1<m->RdA w7 (.slice (some ⟨bq,oq,none⟩) m cr) A/\(j+1=0->∀ g k,(Value.slice (some ⟨bq,oq,none⟩) m cr).ownBlock=some g->lw.ownBlock=some k->k ≠ g)):=λ_=>⟨HR7.out,λh=>by omega⟩
       clear HDJ HCJ HR7 p7;go_wp2_with fail
       go_roundg (m - (j+1))
       case rel=>exact ⟨j+1,lw,cj,rfl,by simp,rfl,hjl,HB7,HO7,HM7,HS7,HD9,HC9,HR9⟩
       case measure=>omega
      | false =>
       have q0:=p7.2.1 0 _ rfl;have q1:=p7.2.1 1 _ rfl;have q2:=p7.2.1 2 _ rfl;have q3:=p7.2.1 3 _ rfl;have q4:=p7.2.1 4 _ rfl;go_upto_region 13 with fail
       go_upto_region 14 with (first | (refine zCo rfl (.tmp 35) (.tmp 36) (.tmp 37) rfl mb rfl z rfl rfl cj HM7.out HQA.out ?_;intro w8 am8 hg8))
       have fr8:Fr [mb] w7 w8:=Fr.of_grown hg8 (λk e=>by cases e;simp);have p8:=p7.fr fr8 (by have:=HAB.out;simp;omega);have HB8:Hid (Below w.heap.size w w8):=zAO HB7.out fr8 (λk hk=>by have:=HMW.out;simp at hk;omega);have HO8:Hid (OwnA w8 B lw cj):=zAc fr8 HO7.out (λg e=>by have:=(HO7.out.blk e).1;have:=HBW.out;simp;omega);have HS8:Hid (B<=w8.heap.size):=Nat.le_trans HS7.out fr8.size;have HM8:Hid (AM w8 mb (cj++[z])):=am8;have HR8:Hid (RdA w8 (.slice (some ⟨bq,oq,none⟩) m cr) A):=by
        obtain ⟨x1,x2,x3,x4⟩:=HR7.out;refine ⟨x1,x2,x3,λi hi=>?_⟩;obtain ⟨x5,x6,x7,x8⟩:=x4 i hi;refine ⟨x5,x6,x7,fr8.range x8 ?_⟩;simp only [Value.slice.injEq] at x3;have:=HMG.out x5 (by rw [x3.1,x7];rfl);simp;omega
       clear q0 q1 q2 q3 q4 p7 HM7 HB7 HO7 HS7 HR7 fr8 hg8 am8;have q0:=p8.2.1 0 _ rfl;have q1:=p8.2.1 1 _ rfl;have q2:=p8.2.1 2 _ rfl;have q3:=p8.2.1 3 _ rfl;have q4:=p8.2.1 4 _ rfl;have hb9:=zAK (Below.refl _ w8) (.cells (zAb z).toArray 53);have HPA:Hid (AtL (w8.alloc (.cells (zAb z).toArray 53)) w8.heap.size (zA8 [z])):=AtL.new0 w8 53 (zA8 [z]);have HB9:Hid (Below w.heap.size w (w8.alloc (.cells (zAb z).toArray 53))):=zAB HB8.out hb9;have HO9:Hid (OwnA (w8.alloc (.cells (zAb z).toArray 53)) B lw cj):=HO8.out.below hb9;have HM9:Hid (AM (w8.alloc (.cells (zAb z).toArray 53)) mb (cj++[z])):=HM8.out.below hb9;have HS9:Hid (B<=(w8.alloc (.cells (zAb z).toArray 53)).heap.size):=Nat.le_trans HS8.out hb9.size;have HR9:Hid (RdA (w8.alloc (.cells (zAb z).toArray 53)) (.slice (some ⟨bq,oq,none⟩) m cr) A):=HR8.out.below hb9;clear p8 HB8 HO8 HM8 HS8 HR8 hb9;go_wp2_with (first | (refine zAs rfl (.tmp 38) (.tmp 40) rfl (w8.alloc (.cells (zAb z).toArray 53)) B HS9.out lw cj rfl HO9.out w8.heap.size 1 [z] rfl rfl HPA.out (by have:=HCJ.out;have:=HA2.out;have:=HAM.out;simp;omega) ?_;intro v9 w9 own9 hg9))
       have fr9:Fr lw.ownBlock.toList (w8.alloc (.cells (zAb z).toArray 53)) w9:=Fr.of_grown hg9 (λk e=>by simp [e]);have HBZ:Hid (Below w.heap.size w w9):=zAO HB9.out fr9 (λk hk=>by have:=(HO9.out.blk (g:=k) (by simpa using hk)).1;have:=HBW.out;omega);have HMZ:Hid (AM w9 mb (cj++[z])):=HM9.out.fr fr9 (λe=>by have:=(HO9.out.blk (g:=mb) (by simpa using e)).1;have:=HBW.out;omega);have HOZ:Hid (OwnA w9 B v9 (cj++[z])):=own9;have HSZ:Hid (B<=w9.heap.size):=Nat.le_trans HS9.out fr9.size;have HDZ:Hid (ddA (cj++[z]) (A.drop (j+1))=ddA cur A):=by show _=_;rw [<-HDJ.out];simp [ddA,HQA.out]
       have HCZ:Hid ((cj++[z]).length<=2000000+(j+1)):=by show _<=_;have:=HCJ.out;simp;omega
       have HRZ:Hid (j+1<m->RdA w9 (.slice (some ⟨bq,oq,none⟩) m cr) A/\(j+1=0->∀ g k,(Value.slice (some ⟨bq,oq,none⟩) m cr).ownBlock=some g->v9.ownBlock=some k->k ≠ g)):=by
        intro hj1;have hj0:j=0:=by have:=HA2.out;have:=HAM.out;omega
        refine ⟨?_,λh=>by omega⟩;obtain ⟨x1,x2,x3,x4⟩:=HR9.out;refine ⟨x1,x2,x3,λi hi=>?_⟩;obtain ⟨x5,x6,x7,x8⟩:=x4 i hi;refine ⟨x5,x6,x7,fr9.range x8 (λe=>?_)⟩;simp only [Value.slice.injEq] at x3;exact HSE.out hj0 x5 x5 (by rw [x3.1,x7];rfl) (by simpa using e) rfl
       clear own9 hg9 fr9 q0 q1 q2 q3 q4 HPA HB9 HO9 HM9 HS9 HR9 HDJ HCJ HQA;go_roundg (m - (j+1))
       case rel=>exact ⟨j+1,v9,cj++[z],rfl,by simp,rfl,hjl,HBZ,HOZ,HMZ,HSZ,HDZ,HCZ,HRZ⟩
       case measure=>omega
     ·have hjm:¬ (j:Int)<(m:Int):=by omega
      have hje:j=m:=by omega
      have HCE:Hid (cj=ddA [] (zBM (L.take (i+1)))):=by
       show _=_
       have e:A.drop j=[]:=List.drop_eq_nil_of_le (by rw [HAM.out];omega);have:=HDJ.out;rw [e] at this;rw [HTK.out,zEF,HCU.out,<-this];rfl
      rw [HCE.out] at HO5 HM5;clear HRJ HDJ HCJ hje;go_wp2_with fail
      go_roundg (n - (i+1))
      case rel=>exact ⟨i+1,lw,rfl,by simp,rfl,hlt,HB5,HO5,HM5,HS5⟩
      case measure=>omega
   ·have hli:¬ (i:Int)<(n:Int):=by omega
    have HTT:Hid (L.take i=L):=List.take_of_length_le (by rw [HL.out];omega);rw [HTT.out,<-HE.out] at HO;go_wp2;go_ret;exact ⟨⟨_,rfl,_,HO.out,HBW.out.2.1⟩,HB.out⟩
theorem zEf (L:List (Wc.In × List Int)) (v:Value) (w:World) (h:RdC w v L) (hl:L.length<=1000000) (ht:∀ x ∈ L,x.2.length<=1000000/\Wt.FitV x.1.v) (hN:NmAt w) :
  Calls prog 16 #[v] w λe w'=>(∃ r B,e=.returned r/\OwnA w' B r (usA L)/\w.heap.size<=B)/\Below w.heap.size w w':=zHU L v w h hl ht hN (λx _=>zGO x)
