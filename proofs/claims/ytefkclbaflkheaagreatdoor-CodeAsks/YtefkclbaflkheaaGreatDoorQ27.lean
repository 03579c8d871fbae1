/- KOf. -/
import Derived.Test.YtefkclbaflkheaaGreatDoorQ26
set_option maxHeartbeats 4000000
set_option maxRecDepth 100000
namespace Go.Proofs.YtefkclbaflkheaaGreatDoor
open Tryz
variable {w w':World} {b mk n mb m2 k:Nat} {M:List (Option (Int × Nat))} {S:List Nat} {r:Option ((Int × Nat) × List (Nat × Int))} {v2:Int} {F:List (Nat × Int)} {tl:List Int} {ok:Bool}
open Go.RowKit
set_option linter.unusedVariables false
theorem zI8:(prog.info? 132).map (λi=>(i.zero,i.size,i.bytes))=some (some (.agg #[.int .i64 0,.int .i64 0,.bool false]),3,24):=by kernel_rfl
theorem MkS.call (h:MkS w b mk n M) (hf:Fr S w w') (hd:w'.cell? ⟨b,0,none⟩=some (.slice (some ⟨mk,0,none⟩) n n)) (hm:mk ∉ S):MkS w' b mk n M :=
 ⟨hd,λj hj=>hf.range (h.at' j hj) hm,λi hi=>by rw [hf.frozen h.mlt hm];exact h.fz i hi,h.len,Nat.lt_of_lt_of_le h.mlt hf.size⟩
theorem zHD {lv:Value} {e:Ending} (hfs:FS w b mb lv F) (h:zKH r b mb lv w e w'):∃ (v2:Int) (m2:Nat) (ok:Bool),e=.returned (.tuple #[.agg #[.int .i64 v2,.int .i64 (m2:Int)],.bool ok])/\Fr (b::mb::lv.ownBlock.toList) w w' /\
  ((ok=false/\r=none) \/ (ok=true/\∃ F2,r=some ((v2,m2),F2)/\(∃ lv',FS w' b mb lv' F2)/\(∀ u,w.cell? ⟨b,0,none⟩=some u->w'.cell? ⟨b,0,none⟩=some u))):=by
 cases r with
 | none=>exact ⟨0,0,false,h.1,h.2,Or.inl ⟨rfl,rfl⟩⟩
 | some q =>
  obtain ⟨⟨v,k⟩,F2⟩:=q;exact ⟨v,k,true,h.1,h.2.2.1,Or.inr ⟨rfl,F2,rfl,h.2.1,h.2.2.2⟩⟩
theorem zM9 (n j:Nat) (hj:j<n):(madeCells (Value.agg #[.int .i64 0,.int .i64 0,.bool false]).cells (n * 3)).toList[j * 3]? = some (.int .i64 0)/\(madeCells (Value.agg #[.int .i64 0,.int .i64 0,.bool false]).cells (n * 3)).toList[j * 3+1]? = some (.int .i64 0)/\(madeCells (Value.agg #[.int .i64 0,.int .i64 0,.bool false]).cells (n * 3)).toList[j * 3+2]? = some (.bool false):=by
 have e0:j * 3 % 3=0:=by omega
 have e1:(j * 3+1) % 3=1:=by omega
 have e2:(j * 3+2) % 3=2:=by omega
 refine ⟨?_,?_,?_⟩
 ·simp [madeCells,Value.cells,show j * 3<n * 3 by omega,e0]
 ·simp [madeCells,Value.cells,show j * 3+1<n * 3 by omega,e1]
 ·simp [madeCells,Value.cells,show j * 3+2<n * 3 by omega,e2]
theorem mk0 (n j:Nat) (hn:0<n):mkC ((List.replicate n none).set 0 (some ((0:Int),(0:Nat)))) j=[.int .i64 0,.int .i64 0,.bool false]:=by
 unfold mkC;rw [Wc.getD_set _ 0 j _ (by simpa using hn)];by_cases h:0=j
 ·rw [if_pos h];subst h;rfl
 ·have e:(if j<n then some (none:Option (Int × Nat)) else none).getD none=none:=by split <;> rfl
  rw [if_neg h,List.getD_eq_getElem?_getD,List.getElem?_replicate,e]
theorem zM0 (n:Nat) (hn:0<n):PInv 0 ((List.replicate n none).set 0 (some ((0:Int),(0:Nat)))) []:=by
 refine ⟨Nat.le_refl _,Wc.Rows.nil,by rw [Wc.getD_set _ 0 0 _ (by simpa using hn),if_pos rfl],λj v m e=>?_⟩;rw [Wc.getD_set _ 0 j _ (by simpa using hn)] at e;split at e
 ·cases e
  exact ⟨Int.le_refl _,Int.le_refl _,Nat.le_refl _⟩
 ·rw [List.getD_eq_getElem?_getD,List.getElem?_replicate] at e;split at e <;> cases e
theorem zDQ {i:Nat} {M1 M2:List (Option (Int × Nat))} {F2:List (Nat × Int)} {x:Wc.In} {v:Int} {m:Nat} (h:PInv i M F) (hg:M.getD i none=some (v,m)) (hr:rgt x tl=true) (hc:zE4 F x v m=some ((v2,m2),F2)) {pl1 pl2:List Int} (h1:Wc.handP (v2,m2) pl1 M=some M1) (h2:Wc.handP (v,m) pl2 M1=some M2) (p1:∀ j ∈ pl1,0<j) (p2:∀ j ∈ pl2,0<j):PInv (i+1) M2 F2:=by
 obtain ⟨g1,g2,g3⟩:=h.at' i v m hg;have hs:=zKp hr;unfold zE4 at hc;cases hb:Wc.behF F x.op x.a m with
 | none=>rw [hb] at hc;cases hc
 | some q =>
  obtain ⟨m3,F3⟩:=q;rw [hb] at hc;simp only at hc;split at hc
  ·cases hc
  ·rename_i hq
   cases hc
   have hl:=zJE hb;have B:=zLv h.rows g3 hb;obtain ⟨a1,a2⟩:=zDN _ _ _ h1 p1;obtain ⟨b1,b2⟩:=zDN _ _ _ h2 p2;have hlen:=h.len;refine ⟨by omega,B.rows,by rw [b1,a1];exact h.zero,λj u k e=>?_⟩;have hle:=B.le;have hle2:=B.le2;rcases b2 j _ e with q | q
   ·cases q
    exact ⟨g1,by omega,by omega⟩
   ·rcases a2 j _ q with q | q
    ·cases q
     refine ⟨by omega,by omega,hle2⟩
    ·obtain ⟨k1,k2,k3⟩:=h.at' j u k q;exact ⟨k1,by omega,by omega⟩
theorem zLX {wa:World} {p:Option Addr} {mm kk:Nat} {u:List Int} (h:RdZ w (.slice p mm kk) tl) (h2:RdZ wa (.slice p mm kk) u) (hne:u ≠ []) {g:Nat} (e:(Value.slice p mm kk).ownBlock=some g):g<w.heap.size:=by
 obtain ⟨a1,c1,e1,f1⟩:=h;obtain ⟨a2,c2,e2,f2⟩:=h2;simp only [Value.slice.injEq] at e1 e2;have hl:tl.length=u.length:=by omega
 have hu:0<u.length:=List.length_pos_iff.2 hne;obtain ⟨bb,off,q1,q2⟩:=f1 0 (by omega);rw [e1.1,q1] at e;have e3:bb=g:=by simpa [Value.ownBlock] using e
 subst e3;exact zAV q2
theorem zCs {v:Value} {l:List Int} (h:RdZ w v l) (hf:Fr S w w') (hb:l ≠ []->∀ g,v.ownBlock=some g->g ∉ S):RdZ w' v l:=by
 obtain ⟨av,cap,e,f⟩:=h;refine ⟨av,cap,e,λi hi=>?_⟩;obtain ⟨bb,off,q1,q2⟩:=f i hi;refine ⟨bb,off,q1,hf.cell q2 (hb (by intro q;rw [q] at hi;simp at hi) bb ?_)⟩;rw [e,q1];rfl
def OKF (w:World) (b mb mk n:Nat) (M:List (Option (Int × Nat))) (r:Option ((Int × Nat) × List (Nat × Int))) (ok:Bool) (v2:Int) (m2:Nat):Prop:=(ok=false/\r=none) \/ (ok=true/\∃ F2,r=some ((v2,m2),F2)/\(∃ lv',FS w b mb lv' F2)/\MkS w b mk n M)
theorem OKF.below (h:OKF w b mb mk n M r ok v2 m2) (hb:Below w.heap.size w w'):OKF w' b mb mk n M r ok v2 m2:=by
 rcases h with h | ⟨h1,F2,h2,⟨lv',h3⟩,h4⟩
 ·exact Or.inl h
 ·exact Or.inr ⟨h1,F2,h2,⟨lv',h3.below hb⟩,h4.fr (Fr.of_below [] hb) (by simp) (by simp)⟩
theorem zJT (h:∃ c f,w.heap[k]? = some (.cells c 130 f)) (i:Nat) (v:Value):∃ c f,(w.setCell ⟨k,i,none⟩ v).heap[k]? = some (.cells c 130 f):=by
 obtain ⟨c,f,h⟩:=h;exact ⟨c.setIfInBounds i v,f,by simp [World.setCell,Array.getElem?_modify,h]⟩
theorem OKF.set (h:OKF w b mb mk n M r ok v2 m2) (hb:b<k) (hm:mk<k) (hty:∃ c f,w.heap[k]? = some (.cells c 130 f)) (i:Nat) (u:Value):OKF (w.setCell ⟨k,i,none⟩ u) b mb mk n M r ok v2 m2:=by
 rcases h with h | ⟨h1,F2,h2,⟨lv',h3⟩,h4⟩
 ·exact Or.inl h
 ·obtain ⟨c,f,hty⟩:=hty;have fr:Fr [k] w (w.setCell ⟨k,i,none⟩ u):=Fr.of_grown (zAL _ _ _ _) (λj e=>by cases e;simp);have hlt:=h3.lt;refine Or.inr ⟨h1,F2,h2,⟨lv',h3.fr fr (by simp;omega) (by simp;omega) (λg e hg=>?_)⟩,h4.fr fr (by simp;omega) (by simp;omega)⟩;simp at hg;subst hg;rcases h3.own.2 with ⟨q,_⟩ | ⟨g',cap,cur,q,_,q2,_⟩
  ·rw [q] at e;cases e
  ·rw [q] at e;have e2:g'=g:=by simpa [Value.ownBlock] using e
   subst e2;rw [hty] at q2;cases q2
theorem zAO {w1 w2:World} (h:Below w.heap.size w w1) (f:Fr S w1 w2) (hs:∀ k ∈ S,w.heap.size<=k):Below w.heap.size w w2 :=
 ((Fr.of_below [] h).new f (λk hk=>Or.inr (hs k hk))).to_below (by simp)
theorem zKT (L:List (Wc.In × List Int)) (v:Value) (w:World) (h:RdC w v L) (hl:L.length<=1000000) (h0:0<L.length) (ht:∀ x ∈ L,x.2.length<=1000000) (hpl:Wc.plcs rgt L.length 0 L=true) (hBI:∀ x ∈ L,zCz x.1) :
  Calls prog 36 #[v] w λe w'=>(∃ p,e=.returned (.tuple #[p,.bool (Wc.runP Wc.spI 0 L (Wc.sP L.length))]))/\Below w.heap.size w w':=by
 obtain ⟨a1,c1,rfl,r1⟩:=h;have HR:Hid (RdC w (.slice a1 L.length c1) L):=⟨a1,c1,rfl,r1⟩
 have HT:Hid (∀ x ∈ L,x.2.length<=1000000):=ht;have HBI:Hid (∀ x ∈ L,zCz x.1):=hBI;clear hBI;have HPL:Hid (∀ (k:Nat) (hk:k<L.length),Wc.plc rgt L.length k (L[k])=true):=λk hk=>by have:=(Wc.plcs_iff rgt L.length L 0).1 hpl k hk;rwa [Nat.zero_add] at this
 obtain ⟨n,hn⟩:∃ n,L.length=n:=⟨_,rfl⟩
 have HL:Hid (L.length=n):=hn;rw [hn] at hl h0 ⊢;obtain ⟨q,hq⟩:∃ q,Wc.runP Wc.spI 0 L (Wc.sP n)=q:=⟨_,rfl⟩
 have HQ:Hid (Wc.runP Wc.spI 0 (L.drop 0) ((List.replicate n none).set 0 (some ((0:Int),(0:Nat))),[])=q):=hq;rw [hq];have HN:Hid (0<n/\n<=1000000):=⟨h0,hl⟩
 obtain ⟨i0,hi0,hz0,hz1,hz2⟩:=info_parts zI8;have hmk:∀ w:World,(Instr.makeMap 123 none).run prog w=.ok (.map (some w.heap.size)) (w.alloc (.map #[] 0)):=λw=>by kernel_rfl
 clear r1 ht hpl hn hq;go_enter func36,ntmps36;go_upto_region 1 with fail
 go_upto_region 2 with (refine wpList_make_full w rfl (.tmp 13) (.tmp 13) 122 rfl w.heap.size 132 i0 _ 3 underlying122 hi0 hz0 hz1 .i64 .i64 _ _ n rfl rfl rfl rfl (by rw [hz2];omega) (by unfold maxLen;omega) (Nat.le_refl _) ?_;intro w2 own2 hg2)
 have hbg:Below w.heap.size w w2:=⟨hg2.os,hg2.tape,hg2.output,hg2.size,λk hk=>hg2.block k hk (by simp)⟩
 have hk2:w.heap.size<w2.heap.size:=(zAT own2 (g:=w.heap.size) rfl).2;have hba:=zAK (zAK (Below.refl _ w2) (.map #[] 0)) (.cells #[.slice (some ⟨w.heap.size,0,none⟩) n n,.slice none 0 0,.map (some w2.heap.size)] 128);have hB0:=zAB hbg hba;have pB:=AtL.new1 w2 (.map #[] 0) 128 [.slice (some ⟨w.heap.size,0,none⟩) n n,.slice none 0 0,.map (some w2.heap.size)];have hmp:FM ((w2.alloc (.map #[] 0)).alloc (.cells #[.slice (some ⟨w.heap.size,0,none⟩) n n,.slice none 0 0,.map (some w2.heap.size)] 128)) w2.heap.size []:=FM.below (w:=w2.alloc (.map #[] 0)) ⟨#[],zAq _ _ _ rfl,rfl⟩ (zAK (Below.refl _ _) _);have HS0:Hid (FS ((w2.alloc (.map #[] 0)).alloc (.cells #[.slice (some ⟨w.heap.size,0,none⟩) n n,.slice none 0 0,.map (some w2.heap.size)] 128)) (w2.heap.size+1) w2.heap.size (.slice none 0 0) []):=⟨pB.2.1 1 _ rfl,pB.2.2 1 (by simp),⟨rfl,Or.inl ⟨rfl,rfl⟩⟩,pB.2.1 2 _ rfl,hmp,Nat.lt_succ_self _⟩
 have HM0:Hid (MkS ((w2.alloc (.map #[] 0)).alloc (.cells #[.slice (some ⟨w.heap.size,0,none⟩) n n,.slice none 0 0,.map (some w2.heap.size)] 128)) (w2.heap.size+1) w.heap.size n ((List.replicate n none).set 0 (some ((0:Int),(0:Nat))))):=by
  have hcl:=own2.cells (g:=w.heap.size) rfl;have hcl2:∀ (j:Nat) (u:Value),(madeCells (Value.agg #[.int .i64 0,.int .i64 0,.bool false]).cells (n * 3)).toList[j]? = some u->w2.cell? ⟨w.heap.size,j,none⟩=some u:=by
   intro j u hu;have:=hcl j u hu;rwa [show (⟨w.heap.size,0,none⟩:Addr).add j=⟨w.heap.size,j,none⟩ from by simp [Addr.add];intro h;exact h.symm] at this
  refine ⟨pB.2.1 0 _ rfl,λj hj=>?_,λi hi=>?_,by simp,Nat.lt_of_lt_of_le hk2 hba.size⟩
  ·rw [mk0 n j h0];obtain ⟨d0,d1,d2⟩:=zM9 n j hj;intro r u hu;match r,hu with
   | 0,hu=>cases hu;exact zAC hba (hcl2 _ _ d0)
   | 1,hu=>cases hu;exact zAC hba (hcl2 _ _ d1)
   | 2,hu=>cases hu;exact zAC hba (hcl2 _ _ d2)
  ·have hfz:w2.frozen? ⟨w.heap.size,i,none⟩=false:=by
    rcases own2.2 with ⟨e,_⟩ | ⟨g,cap',cur,e,_,hg,_,_,hs,_⟩
    ·cases e
    ·simp only [Value.slice.injEq,Option.some.injEq,Addr.mk.injEq] at e;obtain ⟨⟨e1,-,-⟩,-,-⟩:=e;rw [<-e1] at hg;simp [World.frozen?,hg]
   rw [(Fr.of_below [] hba).frozen hk2 (by simp)];exact hfz
 have HI0:Hid (PInv 0 ((List.replicate n none).set 0 (some ((0:Int),(0:Nat)))) []):=zM0 n h0;have HB0:Hid (Below w.heap.size w ((w2.alloc (.map #[] 0)).alloc (.cells #[.slice (some ⟨w.heap.size,0,none⟩) n n,.slice none 0 0,.map (some w2.heap.size)] 128))):=hB0;have HKK:Hid (w.heap.size<w2.heap.size):=hk2;clear hbg hk2 hba hB0 pB hmp own2 hg2 hi0 hz0 hz1 hz2 hmk i0;obtain ⟨b,hb⟩:∃ b,w2.heap.size+1=b:=⟨_,rfl⟩
 obtain ⟨mb,hmb⟩:∃ b,w2.heap.size=b:=⟨_,rfl⟩
 obtain ⟨mk,hmkk⟩:∃ b,w.heap.size=b:=⟨_,rfl⟩
 have HBM:Hid (mk<mb/\mb+1=b/\w.heap.size=mk):=⟨by rw [<-hmkk,<-hmb];exact HKK.out,by rw [<-hmb];exact hb,hmkk⟩
 generalize ((w2.alloc (.map #[] 0)).alloc (.cells #[.slice (some ⟨w.heap.size,0,none⟩) n n,.slice none 0 0,.map (some w2.heap.size)] 128))=w0 at *;rw [hb,hmkk] at HM0;rw [hb,hmb] at HS0;simp only [hmb,hmkk];simp only [HBM.out.2.1];clear HKK;go_wp2_with fail
 go_loopg [21] n (λgk x wr=>∃ (i:Nat) (M:List (Option (Int × Nat))) (F:List (Nat × Int)) (lv:Value),x=.int .i64 i/\gk=n - i/\i<=n/\Hid (Wc.runP Wc.spI i (L.drop i) (M,F)=q)/\Hid (MkS wr b mk n M)/\Hid (FS wr b mb lv F)/\Hid (PInv i M F)/\Hid (Below w.heap.size w wr))
 case atStart=>exact ⟨0,_,[],_,rfl,rfl,Nat.zero_le _,HQ,HM0,HS0,HI0,HB0⟩
 case round =>
  clear HQ HM0 HS0 HI0 HB0;obtain ⟨i,M,F,lv,rfl,hg,hi,HQ,HM,HS,HI,HB⟩:=hrel;by_cases hlt:i<n
  ·have hli:(i:Int)<(n:Int):=by omega
   have hwi:IntKind.i64.wrap ((i:Int)+1)=(i:Int)+1:=by rw [IntKind.wrap_i64];have:=HN.out;omega
   have hil:i<L.length:=by rw [HL.out];exact hlt
   have hB:=HB.out;have H0:=HR.out;rw [HL.out] at H0;obtain ⟨q1,d1,e1,f1⟩:=H0;simp only [Value.slice.injEq] at e1;obtain ⟨ex1,ex2,ex3⟩:=e1;subst ex1;subst ex3;clear ex2;obtain ⟨bb,off,p,mm,kk,rfl,t1w,y1w,_⟩:=f1 i hil;obtain ⟨y,tl,hyt⟩:∃ y tl,L[i]=(y,tl):=⟨_,_,rfl⟩
   have htl:=HT.out L[i] (List.getElem_mem _);have HBY:Hid (zCz y):=by have:=HBI.out (L[i]) (List.getElem_mem _);rw [hyt] at this;exact this
   rw [hyt] at htl t1w y1w;have hpc:=HPL.out i hil;rw [HL.out,hyt] at hpc;obtain ⟨prg,_,pp1,pp2⟩:=(Wc.plc_iff _ _ _ _).1 hpc;have HRG:Hid (rgt y tl=true):=prg;have HSW:0<=(Wc.swO y.op y.b).1/\(Wc.swO y.op y.b).1<=1000/\0<=(Wc.swO y.op y.b).2/\(Wc.swO y.op y.b).2<=1:=zKp prg;have HPP:Hid (∀ u1 u2:List Int,onw y.op y.a y.b tl i=(u1,u2)->(∀ j ∈ u1,0<j/\j<(n:Int))/\(∀ j ∈ u2,0<j/\j<(n:Int))/\u1.length<=1000000/\u2.length<=1000000):=by
    intro u1 u2 hu;have hle:=zCe (o:=y.op) (a:=y.a) (b:=y.b) (at':=i) htl;simp only at pp1 pp2;rw [hu] at pp1 pp2 hle;exact ⟨λj hj=>by have:=pp1 j hj;omega,λj hj=>by have:=pp2 j hj;omega,hle.1,hle.2⟩
   have HZ:Hid (RdZ w (.slice p mm kk) tl):=y1w;have HTO:Hid (∀ (wa:World) (cv:Value) (u:List Int) (wb:World),u ≠ []->RdZ wa cv u->Bk wb (.slice p mm kk) cv->mk<wb.heap.size->∀ g,cv.ownBlock=some g->g ≠ mk):=by
    intro wa cv u wb hne hrd hbk hmw g e;rcases hbk with hbk | hbk
    ·subst hbk;have hg:=zLX y1w hrd hne e;have:=HBM.out;omega
    ·have:=hbk g e;omega
   have HQ1:Hid ((match Wc.spI i (y,tl) (M,F) with | none=>false | some s2=>Wc.runP Wc.spI (i+1) (L.drop (i+1)) s2)=q):=by
    show _=q
    rw [<-HQ.out,List.drop_eq_getElem_cons hil,hyt];rfl
   have t1:=zAI hB t1w;have pI0:AtL (wr.alloc (.cells zeros23 56)) wr.heap.size zeros23.toList:=AtL.new0 wr _ _;have hth:World.there (wr.alloc (.cells zeros23 56)) wr.heap.size 0 (zAD y (.slice p mm kk)).toArray.size:=pI0.there;clear pI0 f1 hyt HQ hil hB y1w t1w htl hpc prg pp1 pp2;go_upto_region 5 with (first | (refine zAA (by rfl) 56 (.tmp 24) rfl bb (off+i * 23) rfl (zAD y (.slice p mm kk)) _ t1 underlying56 rfl (by kernel_rfl) ?_) | ((with_reducible refine wpList_store_mid ?_ 56 (.tmp 6) (.tmp 25) ?_ wr.heap.size 0 (zAD y (.slice p mm kk)).toArray ?_ ?_ ?_ ?_ ?_ ?_);rfl;rfl;rfl;rfl;exact hth;kernel_rfl;exact zAZ _ _ _ _))
   have pI0:AtL (wr.alloc (.cells zeros23 56)) wr.heap.size zeros23.toList:=AtL.new0 wr _ _;have pI:AtL ((wr.alloc (.cells zeros23 56)).setCells wr.heap.size 0 (zAD y (.slice p mm kk))) wr.heap.size (zAD y (.slice p mm kk)):=pI0.setAll rfl;have hBw:Below wr.heap.size wr ((wr.alloc (.cells zeros23 56)).setCells wr.heap.size 0 (zAD y (.slice p mm kk))):=zAa (zAK (Below.refl _ wr) _) (Nat.le_refl _) _ 0;have hM:=HM.out.fr (Fr.of_below [] hBw) (by simp) (by simp);have hS:=HS.out.below hBw;have hB:=zAB HB.out hBw;have HGO:Hid (∀ g,lv.ownBlock=some g->b+1<=g/\g<wr.heap.size):=λg e=>zAT HS.out.own e
   have HBW:Hid (b<wr.heap.size):=zAV HS.out.hd;clear pI0 hth t1 HM HS HB hBw;generalize (wr.alloc (.cells zeros23 56)).setCells wr.heap.size 0 (zAD y (.slice p mm kk))=W4 at *;have c0:=hM.hd;have hr:=hM.at' i hlt;cases hgi:M.getD i none with
   | none =>
    have hi0:i ≠ 0:=λe=>by rw [e,HI.out.zero] at hgi;cases hgi
    have hiz:(0:Int)<(i:Int):=by omega
    have e2:W4.cell? ⟨mk,i * 3+2,none⟩=some (.bool false):=hr 2 (.bool false) (by unfold mkC;rw [hgi];rfl);clear hr;go_wp2;go_ret2
    have hqf:q=false:=by
     rw [<-HQ1.out,zAi];simp only [hgi]
    exact ⟨⟨.pointer none,by rw [hqf];rfl⟩,by first | exact hB | (rw [<-HBM.out.2.2];exact hB)⟩
   | some gg =>
    obtain ⟨v,m⟩:=gg;have HGI:Hid (M.getD i none=some (v,m)):=hgi;have a0:W4.cell? ⟨mk,i * 3,none⟩=some (.int .i64 v):=hr 0 (.int .i64 v) (by unfold mkC;rw [hgi];rfl);have a1:W4.cell? ⟨mk,i * 3+1,none⟩=some (.int .i64 (m:Int)):=hr 1 (.int .i64 (m:Int)) (by unfold mkC;rw [hgi];rfl);have e2:W4.cell? ⟨mk,i * 3+2,none⟩=some (.bool (decide (i ≠ 0))):=hr 2 (.bool (decide (i ≠ 0))) (by unfold mkC;rw [hgi];rfl);have hor:(¬ (0:Int)<(i:Int)/\W4.cell? ⟨mk,i * 3+2,none⟩=some (.bool false)) \/ ((0:Int)<(i:Int)/\W4.cell? ⟨mk,i * 3+2,none⟩=some (.bool true)):=by
     rcases Nat.eq_zero_or_pos i with hz | hz
     ·left
      exact ⟨by omega,by rw [e2];simp [hz]⟩
     ·right
      exact ⟨by omega,by rw [e2];simp;omega⟩
    have HM0:Hid (MkS W4 b mk n M):=hM;have HS0:Hid (FS W4 b mb lv F):=hS;clear hr hgi e2 hM hS;rcases hor with ⟨hiz,e2⟩ | ⟨hiz,e2⟩
    all_goals
     go_upto_region 7 with fail
     clear e2;go_upto_region 8 with fail
     have pH:=AtL.new0 W4 130 [.int .i64 v,.int .i64 (m:Int)];have hb7:Below W4.heap.size W4 (W4.alloc (.cells #[.int .i64 v,.int .i64 (m:Int)] 130)).drew:=(zAK (Below.refl _ W4) (.cells #[.int .i64 v,.int .i64 (m:Int)] 130)).drew;have h0:=(AtL.drew pH).2.1 0 _ rfl;have h1:=(AtL.drew pH).2.1 1 _ rfl;have HMLT:Hid (mk<W4.heap.size):=HM0.out.mlt;have HWZ0:Hid (W4.heap.size<(W4.alloc (.cells #[.int .i64 v,.int .i64 (m:Int)] 130)).drew.heap.size):=(AtL.drew pH).1;have HKI:Hid (wr.heap.size<W4.heap.size):=pI.1;replace pI:=AtL.below hb7 pI
     replace hB:=zAB hB hb7
     have HM7:Hid (MkS (W4.alloc (.cells #[.int .i64 v,.int .i64 (m:Int)] 130)).drew b mk n M):=HM0.out.fr (Fr.of_below [] hb7) (by simp) (by simp);have HS7:Hid (FS (W4.alloc (.cells #[.int .i64 v,.int .i64 (m:Int)] 130)).drew b mb lv F):=HS0.out.below hb7;clear pH hb7 HM0 HS0 a0 a1 c0;refine wp_region_held_drew (S:=λW=>W.rangeAt wr.heap.size 0 (zAD y (.slice p mm kk))/\W.cell? ⟨W4.heap.size,0,none⟩=some (.int .i64 v)/\W.cell? ⟨W4.heap.size,1,none⟩=some (.int .i64 (m:Int))) (by kernel_rfl) ⟨pI.range,h0,h1⟩ (λhHeld=>?_);generalize (W4.alloc (.cells #[.int .i64 v,.int .i64 (m:Int)] 130)).drew=wc at *;have HPV:=HI.out.at' i v m HGI.out;have hsm:∀ k,k ∈ b::mb::lv.ownBlock.toList->k<wr.heap.size:=by
      intro k hk;have h1:=HBW.out;have h2:=HBM.out;simp only [List.mem_cons,Option.mem_toList] at hk;rcases hk with rfl | rfl | hk
      ·exact h1
      ·omega
      ·exact (HGO.out k hk).2
     have hsk:∀ k,k ∈ b::mb::lv.ownBlock.toList->mk<k:=by
      intro k hk;have h2:=HBM.out;simp only [List.mem_cons,Option.mem_toList] at hk;rcases hk with rfl | rfl | hk
      ·omega
      ·omega
      ·have:=(HGO.out k hk).1;omega
     have HSM:Hid (wr.heap.size ∉ b::mb::lv.ownBlock.toList/\W4.heap.size ∉ b::mb::lv.ownBlock.toList/\(∀ k,wr.heap.size<=k->k ∉ b::mb::lv.ownBlock.toList)/\mk ∉ b::mb::lv.ownBlock.toList/\∀ k ∈ b::mb::lv.ownBlock.toList,w.heap.size<=k) :=
      ⟨λe=>by have:=hsm _ e;omega,λe=>by have:=hsm _ e;have:=HKI.out;omega,λk hk e=>by have:=hsm _ e;omega,λe=>by have:=hsk _ e;omega,λk hk=>by have:=hsk k hk;have:=HBM.out;omega⟩
     clear hsm hsk;have HCH:Hid (∀ wx:World,FS wx b mb lv F->Calls prog 65 #[.pointer (some ⟨b,1,none⟩),inV y (.slice p mm kk),.agg #[.int .i64 v,.int .i64 (m:Int)]] wx λe w'=>zKH (zE4 F y v m) b mb lv wx e w'):=λwx hx=>zEr y (.slice p mm kk) b mb lv F m v wx hx HPV.2.2 (by have:=HI.out.len;have:=HN.out;omega) (by have:=HN.out;omega) (by omega) HBY.out
     clear HBY;clear HPV HSW;refine tkQ 0 ?_
     refine tkQ 1 ?_
     refine tkQ 2 ?_
     refine wpAnyH_take (i:=3) (v:=.agg (zAD y (.slice p mm kk)).toArray) (atQ rfl) (by kernel_rfl) (by kernel_rfl) (by kernel_rfl) (λ_ _ _ h=>h) (yieldsIf_load_mid (by rfl) 56 (.tmp 6) rfl wr.heap.size 0 rfl (zAD y (.slice p mm kk)) _ (λ_ h=>h.1) underlying56 rfl (by kernel_rfl)) (by assumption) ?_;try simp only [Act.put,lA,lZ,lS]
     refine tkQ 4 ?_
     refine wpAnyH_ready (rs:=[5,9]) (by kernel_rfl) (by simp) ?_;refine AllReadyH.cons (atQ rfl) (λK hK=>?_) (AllReadyH.cons (atQ rfl) (λK hK=>?_) AllReadyH.nil)
     ·have CH:=HCH.out wc HS7.out;go_simp
      refine CH.mono ?_;intro e w8 hP;obtain ⟨v2,m2,ok,rfl,f8,hok⟩:=zHD HS7.out hP;replace pI:=pI.fr f8 HSM.out.1
      replace h0:=f8.cell h0 HSM.out.2.1
      replace h1:=f8.cell h1 HSM.out.2.1
      replace hB:=zAO hB f8 HSM.out.2.2.2.2
      have HWZ1:Hid (W4.heap.size<w8.heap.size):=Nat.lt_of_lt_of_le HWZ0.out f8.size;have HOK0:Hid (OKF w8 b mb mk n M (zE4 F y v m) ok v2 m2):=by
       rcases hok with h | ⟨h1,F2,h2,h3,h4⟩
       ·exact Or.inl h
       ·exact Or.inr ⟨h1,F2,h2,h3,HM7.out.call f8 (h4 _ HM7.out.hd) HSM.out.2.2.2.1⟩
      clear hP hok f8 HM7 HS7 CH HCH;go_wp2_with fail
      refine hkQ hK ⟨pI.range,h0,h1⟩ (λhHeld=>?_);clear hK K
      refine tkQ 6 ?_
      refine tkQ 7 ?_
      refine tkQ 8 ?_
      have hba:=zAK (Below.refl _ w8) (.cells #[.int .i64 0,.int .i64 0] 130);have pK:=AtL.new0 w8 130 [.int .i64 0,.int .i64 0];replace pI:=AtL.below hba pI
      replace h0:=zAC hba h0
      replace h1:=zAC hba h1
      replace hB:=zAB hB hba
      have HOK1:Hid (OKF (w8.alloc (.cells #[.int .i64 0,.int .i64 0] 130)) b mb mk n M (zE4 F y v m) ok v2 m2):=HOK0.out.below hba;have HWZ:Hid (W4.heap.size<w8.heap.size):=HWZ1.out;have hty:∃ c f,(w8.alloc (.cells #[.int .i64 0,.int .i64 0] 130)).heap[w8.heap.size]? = some (.cells c 130 f):=⟨_,_,zAq _ _ _ rfl⟩
      clear hba;refine rdQ 9 (λK hK=>?_);go_simp
      refine hkQ hK ⟨pI.range,h0,h1⟩ (λhHeld=>?_);clear hK K
      generalize hky:(w8.alloc (.cells #[.int .i64 0,.int .i64 0] 130))=wy at *;clear hky;obtain ⟨k8,hk8⟩:∃ k,w8.heap.size=k:=⟨_,rfl⟩
      rw [hk8] at pK hty HWZ;simp only [hk8];clear hk8 HWZ1 HOK0;have k0:=pK.2.1 0 _ rfl;have k1:=pK.2.1 1 _ rfl;have z0:=pK.2.2 0 (by simp);have z1:=pK.2.2 1 (by simp);have nki:wr.heap.size ∉ [k8]:=by have:=HWZ.out;have:=HKI.out;simp;omega
      have nkh:W4.heap.size ∉ [k8]:=by have:=HWZ.out;simp;omega
      have frS:Fr [k8] wy ((wy.setCell ⟨k8,0,none⟩ (.int .i64 v2)).setCell ⟨k8,1,none⟩ (.int .i64 (m2:Int))):=(Fr.of_grown (zAL _ _ _ _) (λj e=>by cases e;simp)).trans (Fr.of_grown (zAL _ _ _ _) (λj e=>by cases e;simp));have g0:((wy.setCell ⟨k8,0,none⟩ (.int .i64 v2)).setCell ⟨k8,1,none⟩ (.int .i64 (m2:Int))).cell? ⟨k8,0,none⟩=some (.int .i64 v2):=by rw [zAM _ _ _ (by decide)];exact zAQ k0 _
      have g1:((wy.setCell ⟨k8,0,none⟩ (.int .i64 v2)).setCell ⟨k8,1,none⟩ (.int .i64 (m2:Int))).cell? ⟨k8,1,none⟩=some (.int .i64 (m2:Int)):=zAQ (by rw [zAM _ _ _ (by decide)];exact k1) _;refine rdQ 10 (λK hK=>?_);go_simp
      refine hkQ hK ⟨frS.range pI.range nki,frS.cell h0 nkh,frS.cell h1 nkh⟩ (λhHeld=>?_);clear hK K
      replace pI:=pI.fr frS nki
      replace h0:=frS.cell h0 nkh
      replace h1:=frS.cell h1 nkh
      replace hB:=zAO hB frS (λk hk=>by have:=HWZ.out;have:=HMLT.out;have:=HBM.out;simp at hk;omega)
      have HOK:Hid (OKF ((wy.setCell ⟨k8,0,none⟩ (.int .i64 v2)).setCell ⟨k8,1,none⟩ (.int .i64 (m2:Int))) b mb mk n M (zE4 F y v m) ok v2 m2):=(HOK1.out.set (by have:=HWZ.out;have:=HKI.out;have:=HBW.out;omega) (by have:=HWZ.out;have:=HMLT.out;omega) hty 0 _).set (by have:=HWZ.out;have:=HKI.out;have:=HBW.out;omega) (by have:=HWZ.out;have:=HMLT.out;omega) (zJT hty 0 _) 1 _;have HWS:Hid (W4.heap.size<((wy.setCell ⟨k8,0,none⟩ (.int .i64 v2)).setCell ⟨k8,1,none⟩ (.int .i64 (m2:Int))).heap.size):=zAV h0;clear k0 k1 z0 z1 nki nkh frS HOK1 hty pK;generalize ((wy.setCell ⟨k8,0,none⟩ (.int .i64 v2)).setCell ⟨k8,1,none⟩ (.int .i64 (m2:Int)))=wz at *;refine rdQ 11 (λK hK=>?_);go_simp
      refine hkQ hK ⟨pI.range,h0,h1⟩ (λhHeld=>?_);clear hK K
      refine wpAnyH_done (by kernel_rfl) ?_ _;clear hHeld;have rI:=pI.range;have OW:=zBW y p mm kk tl i wz ⟨by omega,by have:=HN.out;omega⟩ (HZ.out.below hB);obtain ⟨u,hu⟩:∃ u,onw y.op y.a y.b tl i=u:=⟨_,rfl⟩
      have HU:Hid (onw y.op y.a y.b tl i=u):=hu;rw [hu] at OW;obtain ⟨u1,u2⟩:=u;clear hu;go_wp2_with (first | (refine zAA (by rfl) 56 (.tmp 6) rfl wr.heap.size 0 rfl (zAD y (.slice p mm kk)) _ rI underlying56 rfl (by kernel_rfl) ?_))
      refine OW.mono ?_;rintro e w9 ⟨⟨cv1,cv2,rfl,zz1,zz2,bk1,bk2⟩,hb9⟩;have HZS:Hid (mk<wz.heap.size):=Nat.lt_trans HMLT.out HWS.out;replace h0:=zAC hb9 h0
      replace h1:=zAC hb9 h1
      replace g0:=zAC hb9 g0
      replace g1:=zAC hb9 g1
      replace hB:=zAB hB hb9
      have Z1:Hid (RdZ w9 cv1 u1):=zz1;have Z2:Hid (RdZ w9 cv2 u2):=zz2;have BK1:Hid (Bk wz (.slice p mm kk) cv1):=bk1;have BK2:Hid (Bk wz (.slice p mm kk) cv2):=bk2;clear zz1 zz2 bk1 bk2 rI OW pI;rcases HOK.out with ⟨hok,hcn⟩ | ⟨hok,F2,hcs,⟨lv',hFS⟩,hMS⟩
      ·subst hok;go_wp2;go_ret2
       have hqf:q=false:=by
        rw [<-HQ1.out,zAi];simp only [HGI.out,hcn]
       exact ⟨⟨.pointer none,by rw [hqf];rfl⟩,by first | exact hB | (rw [<-HBM.out.2.2];exact hB)⟩
      ·subst hok;replace hFS:=hFS.below hb9
       replace hMS:=hMS.fr (Fr.of_below [] hb9) (by simp) (by simp)
       have HFS:Hid (FS w9 b mb lv' F2):=hFS;have HMS:Hid (MkS w9 b mk n M):=hMS;have HAN1:=zBq b mk n M v2 m2 u1 cv1 w9 hMS (by have:=HBM.out;omega) Z1.out (HPP.out _ _ HU.out).1 (HPP.out _ _ HU.out).2.2.1 HN.out.2 (λhne g e=>HTO.out w9 cv1 u1 wz hne Z1.out BK1.out HZS.out g e);have HCS:Hid (zE4 F y v m=some ((v2,m2),F2)):=hcs;clear hFS hMS hcs hb9;go_wp2_with fail
       refine HAN1.mono ?_;intro e w10 hP10;clear HAN1;cases hh1:Wc.handP (v2,m2) u1 M with
       | none =>
        rw [hh1] at hP10;obtain ⟨rfl,f10⟩:=hP10;replace hB:=zAO hB f10 (λk hk=>by have:=HBM.out;simp at hk;omega)
        go_wp2;go_ret2
        have hqf:q=false:=by
         rw [<-HQ1.out,zAi];simp only [HGI.out,HCS.out,HU.out,hh1]
        exact ⟨⟨.pointer none,by rw [hqf];rfl⟩,by first | exact hB | (rw [<-HBM.out.2.2];exact hB)⟩
       | some M1 =>
        rw [hh1] at hP10;obtain ⟨rfl,hM1,f10⟩:=hP10;have nk7:W4.heap.size ∉ [mk]:=by have:=HMLT.out;simp;omega
        replace h0:=f10.cell h0 nk7
        replace h1:=f10.cell h1 nk7
        replace hB:=zAO hB f10 (λk hk=>by have:=HBM.out;simp at hk;omega)
        have HAN2:=zBq b mk n M1 v m u2 cv2 w10 hM1 (by have:=HBM.out;omega) (zCs Z2.out f10 (λhne g e=>by have:=HTO.out w9 cv2 u2 wz hne Z2.out BK2.out HZS.out g e;simpa using this)) (HPP.out _ _ HU.out).2.1 (HPP.out _ _ HU.out).2.2.2 HN.out.2 (λhne g e=>HTO.out w9 cv2 u2 wz hne Z2.out BK2.out HZS.out g e);have HFS2:Hid (FS w10 b mb lv' F2):=HFS.out.fr f10 (by have:=HBM.out;simp;omega) (by have:=HBM.out;simp;omega) (λg e=>by have:=(zAT HFS.out.own e).1;have:=HBM.out;simp;omega);have HH1:Hid (Wc.handP (v2,m2) u1 M=some M1):=hh1;clear hM1 f10 hh1;go_wp2_with fail
        refine HAN2.mono ?_;intro e w11 hP11;clear HAN2;cases hh2:Wc.handP (v,m) u2 M1 with
        | none =>
         rw [hh2] at hP11;obtain ⟨rfl,f11⟩:=hP11;replace hB:=zAO hB f11 (λk hk=>by have:=HBM.out;simp at hk;omega)
         go_wp2;go_ret2
         have hqf:q=false:=by
          rw [<-HQ1.out,zAi];simp only [HGI.out,HCS.out,HU.out,HH1.out,hh2]
         exact ⟨⟨.pointer none,by rw [hqf];rfl⟩,by first | exact hB | (rw [<-HBM.out.2.2];exact hB)⟩
        | some M2 =>
         rw [hh2] at hP11;obtain ⟨rfl,hM2,f11⟩:=hP11;replace hB:=zAO hB f11 (λk hk=>by have:=HBM.out;simp at hk;omega)
         have HQ3:Hid (Wc.runP Wc.spI (i+1) (L.drop (i+1)) (M2,F2)=q):=by
          show _=q
          rw [<-HQ1.out,zAi];simp only [HGI.out,HCS.out,HU.out,HH1.out,hh2]
         have HI3:Hid (PInv (i+1) M2 F2):=zDQ HI.out HGI.out HRG.out HCS.out HH1.out hh2 (λj hj=>((HPP.out _ _ HU.out).1 j hj).1) (λj hj=>((HPP.out _ _ HU.out).2.1 j hj).1);have HFS3:Hid (FS w11 b mb lv' F2):=HFS2.out.fr f11 (by have:=HBM.out;simp;omega) (by have:=HBM.out;simp;omega) (λg e=>by have:=(zAT HFS2.out.own e).1;have:=HBM.out;simp;omega);have HM3:Hid (MkS w11 b mk n M2):=hM2;have HB3:Hid (Below w.heap.size w w11):=hB;clear hM2 f11 hh2 hB h0 h1 g0 g1;go_wp2_with fail
         go_roundg (n - (i+1))
         case rel=>exact ⟨i+1,M2,F2,lv',by simp,rfl,hlt,HQ3,HM3,HFS3,HI3,HB3⟩
         case measure=>omega
     ·have hba:=zAK (Below.refl _ wc) (.cells #[.int .i64 0,.int .i64 0] 130);have pK:=AtL.new0 wc 130 [.int .i64 0,.int .i64 0];replace pI:=AtL.below hba pI
      replace h0:=zAC hba h0
      replace h1:=zAC hba h1
      replace hB:=zAB hB hba
      have HS8:Hid (FS (wc.alloc (.cells #[.int .i64 0,.int .i64 0] 130)) b mb lv F):=HS7.out.below hba;have HM8:Hid (MkS (wc.alloc (.cells #[.int .i64 0,.int .i64 0] 130)) b mk n M):=HM7.out.fr (Fr.of_below [] hba) (by simp) (by simp);have HWZ:Hid (W4.heap.size<wc.heap.size):=HWZ0.out;have hty0:(wc.alloc (.cells #[.int .i64 0,.int .i64 0] 130)).heap[wc.heap.size]? = some (.cells #[.int .i64 0,.int .i64 0] 130 (0,0)):=zAq _ _ _ rfl;clear hba HS7 HM7;go_simp
      refine hkQ hK ⟨pI.range,h0,h1⟩ (λhHeld=>?_);clear hK K
      generalize hky:(wc.alloc (.cells #[.int .i64 0,.int .i64 0] 130))=wb at *;clear hky;obtain ⟨k8,hk8⟩:∃ k,wc.heap.size=k:=⟨_,rfl⟩
      rw [hk8] at pK hty0 HWZ;simp only [hk8];clear hk8 HWZ0;refine rdQ 5 (λK hK=>?_);have CH:=HCH.out wb HS8.out;go_simp
      refine CH.mono ?_;intro e w8 hP;obtain ⟨v2,m2,ok,rfl,f8,hok⟩:=zHD HS8.out hP;replace pI:=pI.fr f8 HSM.out.1
      replace h0:=f8.cell h0 HSM.out.2.1
      replace h1:=f8.cell h1 HSM.out.2.1
      replace hB:=zAO hB f8 HSM.out.2.2.2.2
      have nk8:k8 ∉ b::mb::lv.ownBlock.toList:=HSM.out.2.2.1 k8 (by have:=HWZ.out;have:=HKI.out;omega);have hty:∃ c f,w8.heap[k8]? = some (.cells c 130 f):=⟨_,_,(f8.block k8 pK.1 nk8).trans hty0⟩
      replace pK:=pK.fr f8 nk8
      have HOK1:Hid (OKF w8 b mb mk n M (zE4 F y v m) ok v2 m2):=by
       rcases hok with h | ⟨h1,F2,h2,h3,h4⟩
       ·exact Or.inl h
       ·exact Or.inr ⟨h1,F2,h2,h3,HM8.out.call f8 (h4 _ HM8.out.hd) HSM.out.2.2.2.1⟩
      clear hP hok f8 HM8 HS8 CH HCH;go_wp2_with fail
      refine hkQ hK ⟨pI.range,h0,h1⟩ (λhHeld=>?_);clear hK K
      refine tkQ 6 ?_
      refine tkQ 7 ?_
      refine tkQ 8 ?_
      have k0:=pK.2.1 0 _ rfl;have k1:=pK.2.1 1 _ rfl;have z0:=pK.2.2 0 (by simp);have z1:=pK.2.2 1 (by simp);have nki:wr.heap.size ∉ [k8]:=by have:=HWZ.out;have:=HKI.out;simp;omega
      have nkh:W4.heap.size ∉ [k8]:=by have:=HWZ.out;simp;omega
      have frS:Fr [k8] w8 ((w8.setCell ⟨k8,0,none⟩ (.int .i64 v2)).setCell ⟨k8,1,none⟩ (.int .i64 (m2:Int))):=(Fr.of_grown (zAL _ _ _ _) (λj e=>by cases e;simp)).trans (Fr.of_grown (zAL _ _ _ _) (λj e=>by cases e;simp));have g0:((w8.setCell ⟨k8,0,none⟩ (.int .i64 v2)).setCell ⟨k8,1,none⟩ (.int .i64 (m2:Int))).cell? ⟨k8,0,none⟩=some (.int .i64 v2):=by rw [zAM _ _ _ (by decide)];exact zAQ k0 _
      have g1:((w8.setCell ⟨k8,0,none⟩ (.int .i64 v2)).setCell ⟨k8,1,none⟩ (.int .i64 (m2:Int))).cell? ⟨k8,1,none⟩=some (.int .i64 (m2:Int)):=zAQ (by rw [zAM _ _ _ (by decide)];exact k1) _;refine rdQ 10 (λK hK=>?_);go_simp
      refine hkQ hK ⟨frS.range pI.range nki,frS.cell h0 nkh,frS.cell h1 nkh⟩ (λhHeld=>?_);clear hK K
      replace pI:=pI.fr frS nki
      replace h0:=frS.cell h0 nkh
      replace h1:=frS.cell h1 nkh
      replace hB:=zAO hB frS (λk hk=>by have:=HWZ.out;have:=HMLT.out;have:=HBM.out;simp at hk;omega)
      have HOK:Hid (OKF ((w8.setCell ⟨k8,0,none⟩ (.int .i64 v2)).setCell ⟨k8,1,none⟩ (.int .i64 (m2:Int))) b mb mk n M (zE4 F y v m) ok v2 m2):=(HOK1.out.set (by have:=HWZ.out;have:=HKI.out;have:=HBW.out;omega) (by have:=HWZ.out;have:=HMLT.out;omega) hty 0 _).set (by have:=HWZ.out;have:=HKI.out;have:=HBW.out;omega) (by have:=HWZ.out;have:=HMLT.out;omega) (zJT hty 0 _) 1 _;have HWS:Hid (W4.heap.size<((w8.setCell ⟨k8,0,none⟩ (.int .i64 v2)).setCell ⟨k8,1,none⟩ (.int .i64 (m2:Int))).heap.size):=zAV h0;clear k0 k1 z0 z1 nki nkh frS HOK1 hty pK;generalize ((w8.setCell ⟨k8,0,none⟩ (.int .i64 v2)).setCell ⟨k8,1,none⟩ (.int .i64 (m2:Int)))=wz at *;refine rdQ 11 (λK hK=>?_);go_simp
      refine hkQ hK ⟨pI.range,h0,h1⟩ (λhHeld=>?_);clear hK K
      refine wpAnyH_done (by kernel_rfl) ?_ _;clear hHeld;have rI:=pI.range;have OW:=zBW y p mm kk tl i wz ⟨by omega,by have:=HN.out;omega⟩ (HZ.out.below hB);obtain ⟨u,hu⟩:∃ u,onw y.op y.a y.b tl i=u:=⟨_,rfl⟩
      have HU:Hid (onw y.op y.a y.b tl i=u):=hu;rw [hu] at OW;obtain ⟨u1,u2⟩:=u;clear hu;go_wp2_with (first | (refine zAA (by rfl) 56 (.tmp 6) rfl wr.heap.size 0 rfl (zAD y (.slice p mm kk)) _ rI underlying56 rfl (by kernel_rfl) ?_))
      refine OW.mono ?_;rintro e w9 ⟨⟨cv1,cv2,rfl,zz1,zz2,bk1,bk2⟩,hb9⟩;have HZS:Hid (mk<wz.heap.size):=Nat.lt_trans HMLT.out HWS.out;replace h0:=zAC hb9 h0
      replace h1:=zAC hb9 h1
      replace g0:=zAC hb9 g0
      replace g1:=zAC hb9 g1
      replace hB:=zAB hB hb9
      have Z1:Hid (RdZ w9 cv1 u1):=zz1;have Z2:Hid (RdZ w9 cv2 u2):=zz2;have BK1:Hid (Bk wz (.slice p mm kk) cv1):=bk1;have BK2:Hid (Bk wz (.slice p mm kk) cv2):=bk2;clear zz1 zz2 bk1 bk2 rI OW pI;rcases HOK.out with ⟨hok,hcn⟩ | ⟨hok,F2,hcs,⟨lv',hFS⟩,hMS⟩
      ·subst hok;go_wp2;go_ret2
       have hqf:q=false:=by
        rw [<-HQ1.out,zAi];simp only [HGI.out,hcn]
       exact ⟨⟨.pointer none,by rw [hqf];rfl⟩,by first | exact hB | (rw [<-HBM.out.2.2];exact hB)⟩
      ·subst hok;replace hFS:=hFS.below hb9
       replace hMS:=hMS.fr (Fr.of_below [] hb9) (by simp) (by simp)
       have HFS:Hid (FS w9 b mb lv' F2):=hFS;have HMS:Hid (MkS w9 b mk n M):=hMS;have HAN1:=zBq b mk n M v2 m2 u1 cv1 w9 hMS (by have:=HBM.out;omega) Z1.out (HPP.out _ _ HU.out).1 (HPP.out _ _ HU.out).2.2.1 HN.out.2 (λhne g e=>HTO.out w9 cv1 u1 wz hne Z1.out BK1.out HZS.out g e);have HCS:Hid (zE4 F y v m=some ((v2,m2),F2)):=hcs;clear hFS hMS hcs hb9;go_wp2_with fail
       refine HAN1.mono ?_;intro e w10 hP10;clear HAN1;cases hh1:Wc.handP (v2,m2) u1 M with
       | none =>
        rw [hh1] at hP10;obtain ⟨rfl,f10⟩:=hP10;replace hB:=zAO hB f10 (λk hk=>by have:=HBM.out;simp at hk;omega)
        go_wp2;go_ret2
        have hqf:q=false:=by
         rw [<-HQ1.out,zAi];simp only [HGI.out,HCS.out,HU.out,hh1]
        exact ⟨⟨.pointer none,by rw [hqf];rfl⟩,by first | exact hB | (rw [<-HBM.out.2.2];exact hB)⟩
       | some M1 =>
        rw [hh1] at hP10;obtain ⟨rfl,hM1,f10⟩:=hP10;have nk7:W4.heap.size ∉ [mk]:=by have:=HMLT.out;simp;omega
        replace h0:=f10.cell h0 nk7
        replace h1:=f10.cell h1 nk7
        replace hB:=zAO hB f10 (λk hk=>by have:=HBM.out;simp at hk;omega)
        have HAN2:=zBq b mk n M1 v m u2 cv2 w10 hM1 (by have:=HBM.out;omega) (zCs Z2.out f10 (λhne g e=>by have:=HTO.out w9 cv2 u2 wz hne Z2.out BK2.out HZS.out g e;simpa using this)) (HPP.out _ _ HU.out).2.1 (HPP.out _ _ HU.out).2.2.2 HN.out.2 (λhne g e=>HTO.out w9 cv2 u2 wz hne Z2.out BK2.out HZS.out g e);have HFS2:Hid (FS w10 b mb lv' F2):=HFS.out.fr f10 (by have:=HBM.out;simp;omega) (by have:=HBM.out;simp;omega) (λg e=>by have:=(zAT HFS.out.own e).1;have:=HBM.out;simp;omega);have HH1:Hid (Wc.handP (v2,m2) u1 M=some M1):=hh1;clear hM1 f10 hh1;go_wp2_with fail
        refine HAN2.mono ?_;intro e w11 hP11;clear HAN2;cases hh2:Wc.handP (v,m) u2 M1 with
        | none =>
         rw [hh2] at hP11;obtain ⟨rfl,f11⟩:=hP11;replace hB:=zAO hB f11 (λk hk=>by have:=HBM.out;simp at hk;omega)
         go_wp2;go_ret2
         have hqf:q=false:=by
          rw [<-HQ1.out,zAi];simp only [HGI.out,HCS.out,HU.out,HH1.out,hh2]
         exact ⟨⟨.pointer none,by rw [hqf];rfl⟩,by first | exact hB | (rw [<-HBM.out.2.2];exact hB)⟩
        | some M2 =>
         rw [hh2] at hP11;obtain ⟨rfl,hM2,f11⟩:=hP11;replace hB:=zAO hB f11 (λk hk=>by have:=HBM.out;simp at hk;omega)
         have HQ3:Hid (Wc.runP Wc.spI (i+1) (L.drop (i+1)) (M2,F2)=q):=by
          show _=q
          rw [<-HQ1.out,zAi];simp only [HGI.out,HCS.out,HU.out,HH1.out,hh2]
         have HI3:Hid (PInv (i+1) M2 F2):=zDQ HI.out HGI.out HRG.out HCS.out HH1.out hh2 (λj hj=>((HPP.out _ _ HU.out).1 j hj).1) (λj hj=>((HPP.out _ _ HU.out).2.1 j hj).1);have HFS3:Hid (FS w11 b mb lv' F2):=HFS2.out.fr f11 (by have:=HBM.out;simp;omega) (by have:=HBM.out;simp;omega) (λg e=>by have:=(zAT HFS2.out.own e).1;have:=HBM.out;simp;omega);have HM3:Hid (MkS w11 b mk n M2):=hM2;have HB3:Hid (Below w.heap.size w w11):=hB;clear hM2 f11 hh2 hB h0 h1 g0 g1;go_wp2_with fail
         go_roundg (n - (i+1))
         case rel=>exact ⟨i+1,M2,F2,lv',by simp,rfl,hlt,HQ3,HM3,HFS3,HI3,HB3⟩
         case measure=>omega
  ·have hli:¬ (i:Int)<(n:Int):=by omega
   have hqt:Hid (true=q):=by
    show true=q
    rw [<-HQ.out,List.drop_eq_nil_of_le (by rw [HL.out];omega)];rfl
   go_wp2;go_ret2
   exact ⟨⟨_,by rw [<-hqt.out];rfl⟩,by rw [<-HBM.out.2.2];exact HB.out⟩
