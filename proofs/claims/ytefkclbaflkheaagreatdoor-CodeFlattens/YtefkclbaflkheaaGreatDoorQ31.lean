/- Lemmas. -/
import Derived.Test.YtefkclbaflkheaaGreatDoorQ30
set_option maxHeartbeats 4000000
set_option maxRecDepth 100000
namespace Go.Proofs.YtefkclbaflkheaaGreatDoor
open Tryz
variable {w w':World} {b n mk mb m2 k B:Nat} {M:List (Option (Int × Nat))} {S:List Nat} {r:Option ((Int × Nat) × List (Nat × Int))} {v2:Int} {lv:Value} {F:List (Nat × Int)} {tl:List Int} {ok:Bool}
open Go.RowKit
set_option linter.unusedVariables false
theorem zKF:(prog.info? 132).map (λi=>(i.zero,i.size,i.bytes))=some (some (.agg #[.int .i64 0,.int .i64 0,.bool false]),3,24):=by kernel_rfl
theorem MkS.call (h:MkS w b mk n M) (hf:Fr S w w') (hd:w'.cell? ⟨b,0,none⟩=some (.slice (some ⟨mk,0,none⟩) n n)) (hm:mk ∉ S):MkS w' b mk n M :=
 ⟨hd,λj hj=>hf.range (h.at' j hj) hm,λi hi=>by rw [hf.frozen h.mlt hm];exact h.fz i hi,h.len,Nat.lt_of_lt_of_le h.mlt hf.size⟩
theorem zHz {e:Ending} (hfs:FS w b mb lv F) (h:zNH r b mb lv w e w'):∃ (v2:Int) (m2:Nat) (ok:Bool),e=.returned (.tuple #[.agg #[.int .i64 v2,.int .i64 (m2:Int)],.bool ok])/\Fr (b::mb::lv.ownBlock.toList) w w' /\
  ((ok=false/\r=none) \/ (ok=true/\∃ F2,r=some ((v2,m2),F2)/\(∃ lv',FS w' b mb lv' F2)/\(∀ u,w.cell? ⟨b,0,none⟩=some u->w'.cell? ⟨b,0,none⟩=some u))):=by
 cases r with
 | none=>exact ⟨0,0,false,h.1,h.2,Or.inl ⟨rfl,rfl⟩⟩
 | some q =>
  obtain ⟨⟨v,k⟩,F2⟩:=q;exact ⟨v,k,true,h.1,h.2.2.1,Or.inr ⟨rfl,F2,rfl,h.2.1,h.2.2.2⟩⟩
theorem zPH (n j:Nat) (hj:j<n):(madeCells (Value.agg #[.int .i64 0,.int .i64 0,.bool false]).cells (n * 3)).toList[j * 3]? = some (.int .i64 0)/\(madeCells (Value.agg #[.int .i64 0,.int .i64 0,.bool false]).cells (n * 3)).toList[j * 3+1]? = some (.int .i64 0)/\(madeCells (Value.agg #[.int .i64 0,.int .i64 0,.bool false]).cells (n * 3)).toList[j * 3+2]? = some (.bool false):=by
 have e0:j * 3 % 3=0:=by omega
 have e1:(j * 3+1) % 3=1:=by omega
 have e2:(j * 3+2) % 3=2:=by omega
 refine ⟨?_,?_,?_⟩
 ·simp [madeCells,Value.cells,show j * 3<n * 3 by omega,e0]
 ·simp [madeCells,Value.cells,show j * 3+1<n * 3 by omega,e1]
 ·simp [madeCells,Value.cells,show j * 3+2<n * 3 by omega,e2]
theorem mk0 (n j:Nat) (hn:0<n):mkC ((List.replicate n none).set 0 (some ((0:Int),(0:Nat)))) j=[.int .i64 0,.int .i64 0,.bool false]:=by
 unfold mkC;rw [Wc.getD_set _ 0 j _ (by simpa using hn)];by_cases h:0=j
 ·rw [if_pos h];subst h;rfl
 ·have e:(if j<n then some (none:Option (Int × Nat)) else none).getD none=none:=by split <;> rfl
  rw [if_neg h,List.getD_eq_getElem?_getD,List.getElem?_replicate,e]
theorem zOg (n:Nat) (hn:0<n):PInv 0 ((List.replicate n none).set 0 (some ((0:Int),(0:Nat)))) []:=by
 refine ⟨Nat.le_refl _,Wc.Rows.nil,by rw [Wc.getD_set _ 0 0 _ (by simpa using hn),if_pos rfl],λj v m e=>?_⟩;rw [Wc.getD_set _ 0 j _ (by simpa using hn)] at e;split at e
 ·cases e
  exact ⟨Int.le_refl _,Int.le_refl _,Nat.le_refl _⟩
 ·rw [List.getD_eq_getElem?_getD,List.getElem?_replicate] at e;split at e <;> cases e
theorem zEQ {i:Nat} {M1 M2:List (Option (Int × Nat))} {F2:List (Nat × Int)} {x:Wc.In} {v:Int} {m:Nat} (h:PInv i M F) (hg:M.getD i none=some (v,m)) (hr:rgt x tl=true) (hc:zFY F x v m=some ((v2,m2),F2)) {pl1 pl2:List Int} (h1:Wc.handP (v2,m2) pl1 M=some M1) (h2:Wc.handP (v,m) pl2 M1=some M2) (p1:∀ j ∈ pl1,0<j) (p2:∀ j ∈ pl2,0<j):PInv (i+1) M2 F2:=by
 obtain ⟨g1,g2,g3⟩:=h.at' i v m hg;have hs:=zOF hr;unfold zFY at hc;cases hb:Wc.behF F x.op x.a m with
 | none=>rw [hb] at hc;cases hc
 | some q =>
  obtain ⟨m3,F3⟩:=q;rw [hb] at hc;simp only at hc;split at hc
  ·cases hc
  ·rename_i hq
   cases hc
   have hl:=zKd hb;have B:=zOI h.rows g3 hb;obtain ⟨a1,a2⟩:=zDy _ _ _ h1 p1;obtain ⟨b1,b2⟩:=zDy _ _ _ h2 p2;have hlen:=h.len;refine ⟨by omega,B.rows,by rw [b1,a1];exact h.zero,λj u k e=>?_⟩;have hle:=B.le;have hle2:=B.le2;rcases b2 j _ e with q | q
   ·cases q
    exact ⟨g1,by omega,by omega⟩
   ·rcases a2 j _ q with q | q
    ·cases q
     refine ⟨by omega,by omega,hle2⟩
    ·obtain ⟨k1,k2,k3⟩:=h.at' j u k q;exact ⟨k1,by omega,by omega⟩
theorem zOZ {wa:World} {p:Option Addr} {mm kk:Nat} {u:List Int} (h:RdZ w (.slice p mm kk) tl) (h2:RdZ wa (.slice p mm kk) u) (hne:u ≠ []) {g:Nat} (e:(Value.slice p mm kk).ownBlock=some g):g<w.heap.size:=by
 obtain ⟨a1,c1,e1,f1⟩:=h;obtain ⟨a2,c2,e2,f2⟩:=h2;simp only [Value.slice.injEq] at e1 e2;have hl:tl.length=u.length:=by omega
 have hu:0<u.length:=List.length_pos_iff.2 hne;obtain ⟨bb,off,q1,q2⟩:=f1 0 (by omega);rw [e1.1,q1] at e;have e3:bb=g:=by simpa [Value.ownBlock] using e
 subst e3;exact zA5 q2
theorem zLi {v:Value} {l:List Int} (h:RdZ w v l) (hf:Fr S w w') (hb:l ≠ []->∀ g,v.ownBlock=some g->g ∉ S):RdZ w' v l:=by
 obtain ⟨av,cap,e,f⟩:=h;refine ⟨av,cap,e,λi hi=>?_⟩;obtain ⟨bb,off,q1,q2⟩:=f i hi;refine ⟨bb,off,q1,hf.cell q2 (hb (by intro q;rw [q] at hi;simp at hi) bb ?_)⟩;rw [e,q1];rfl
def OKF (w:World) (b mb mk n:Nat) (M:List (Option (Int × Nat))) (r:Option ((Int × Nat) × List (Nat × Int))) (ok:Bool) (v2:Int) (m2:Nat):Prop:=(ok=false/\r=none) \/ (ok=true/\∃ F2,r=some ((v2,m2),F2)/\(∃ lv',FS w b mb lv' F2)/\MkS w b mk n M)
theorem OKF.below (h:OKF w b mb mk n M r ok v2 m2) (hb:Below w.heap.size w w'):OKF w' b mb mk n M r ok v2 m2:=by
 rcases h with h | ⟨h1,F2,h2,⟨lv',h3⟩,h4⟩
 ·exact Or.inl h
 ·exact Or.inr ⟨h1,F2,h2,⟨lv',h3.below hb⟩,h4.fr (Fr.of_below [] hb) (by simp) (by simp)⟩
theorem zLn (h:∃ c f,w.heap[k]? = some (.cells c 130 f)) (i:Nat) (v:Value):∃ c f,(w.setCell ⟨k,i,none⟩ v).heap[k]? = some (.cells c 130 f):=by
 obtain ⟨c,f,h⟩:=h;exact ⟨c.setIfInBounds i v,f,by simp [World.setCell,Array.getElem?_modify,h]⟩
theorem OKF.set (h:OKF w b mb mk n M r ok v2 m2) (hb:b<k) (hm:mk<k) (hty:∃ c f,w.heap[k]? = some (.cells c 130 f)) (i:Nat) (u:Value):OKF (w.setCell ⟨k,i,none⟩ u) b mb mk n M r ok v2 m2:=by
 rcases h with h | ⟨h1,F2,h2,⟨lv',h3⟩,h4⟩
 ·exact Or.inl h
 ·obtain ⟨c,f,hty⟩:=hty;have fr:Fr [k] w (w.setCell ⟨k,i,none⟩ u):=Fr.of_grown (zAP _ _ _ _) (λj e=>by cases e;simp);have hlt:=h3.lt;refine Or.inr ⟨h1,F2,h2,⟨lv',h3.fr fr (by simp;omega) (by simp;omega) (λg e hg=>?_)⟩,h4.fr fr (by simp;omega) (by simp;omega)⟩;simp at hg;subst hg;rcases h3.own.2 with ⟨q,_⟩ | ⟨g',cap,cur,q,_,q2,_⟩
  ·rw [q] at e;cases e
  ·rw [q] at e;have e2:g'=g:=by simpa [Value.ownBlock] using e
   subst e2;rw [hty] at q2;cases q2
theorem zAf {w1 w2:World} (h:Below w.heap.size w w1) (f:Fr S w1 w2) (hs:∀ k ∈ S,w.heap.size<=k):Below w.heap.size w w2 :=
 ((Fr.of_below [] h).new f (λk hk=>Or.inr (hs k hk))).to_below (by simp)
theorem zMk (L:List (Wc.In × List Int)) (v:Value) (w:World) (h:RdC w v L) (hl:L.length<=1000000) (h0:0<L.length) (ht:∀ x ∈ L,x.2.length<=1000000) (hpl:Wc.plcs rgt L.length 0 L=true) (hBI:∀ x ∈ L,zEK x.1) :
  Calls prog 36 #[v] w λe w'=>(∃ p,e=.returned (.tuple #[p,.bool (Wc.runP Wc.spI 0 L (Wc.sP L.length))]))/\Below w.heap.size w w':=by
 obtain ⟨a1,c1,rfl,r1⟩:=h;have HR:Hid (RdC w (.slice a1 L.length c1) L):=⟨a1,c1,rfl,r1⟩
 have HT:Hid (∀ x ∈ L,x.2.length<=1000000):=ht;have HBI:Hid (∀ x ∈ L,zEK x.1):=hBI;clear hBI;have HPL:Hid (∀ (k:Nat) (hk:k<L.length),Wc.plc rgt L.length k (L[k])=true):=λk hk=>by have:=(Wc.plcs_iff rgt L.length L 0).1 hpl k hk;rwa [Nat.zero_add] at this
 obtain ⟨n,hn⟩:∃ n,L.length=n:=⟨_,rfl⟩
 have HL:Hid (L.length=n):=hn;rw [hn] at hl h0 ⊢;obtain ⟨q,hq⟩:∃ q,Wc.runP Wc.spI 0 L (Wc.sP n)=q:=⟨_,rfl⟩
 have HQ:Hid (Wc.runP Wc.spI 0 (L.drop 0) ((List.replicate n none).set 0 (some ((0:Int),(0:Nat))),[])=q):=hq;rw [hq];have HN:Hid (0<n/\n<=1000000):=⟨h0,hl⟩
 obtain ⟨i0,hi0,hz0,hz1,hz2⟩:=info_parts zKF;have hmk:∀ w:World,(Instr.makeMap 123 none).run prog w=.ok (.map (some w.heap.size)) (w.alloc (.map #[] 0)):=λw=>by kernel_rfl
 clear r1 ht hpl hn hq;go_enter func36,ntmps36;go_upto_region 1 with fail
 go_upto_region 2 with (refine wpList_make_full w rfl (.tmp 13) (.tmp 13) 122 rfl w.heap.size 132 i0 _ 3 underlying122 hi0 hz0 hz1 .i64 .i64 _ _ n rfl rfl rfl rfl (by rw [hz2];omega) (by unfold maxLen;omega) (Nat.le_refl _) ?_;intro w2 own2 hg2)
 have hbg:Below w.heap.size w w2:=⟨hg2.os,hg2.tape,hg2.output,hg2.size,λk hk=>hg2.block k hk (by simp)⟩
 have hk2:w.heap.size<w2.heap.size:=(zAK own2 (g:=w.heap.size) rfl).2;have hba:=zAM (zAM (Below.refl _ w2) (.map #[] 0)) (.cells #[.slice (some ⟨w.heap.size,0,none⟩) n n,.slice none 0 0,.map (some w2.heap.size)] 128);have hB0:=zAB hbg hba;have pB:=AtL.new1 w2 (.map #[] 0) 128 [.slice (some ⟨w.heap.size,0,none⟩) n n,.slice none 0 0,.map (some w2.heap.size)];have hmp:FM ((w2.alloc (.map #[] 0)).alloc (.cells #[.slice (some ⟨w.heap.size,0,none⟩) n n,.slice none 0 0,.map (some w2.heap.size)] 128)) w2.heap.size []:=FM.below (w:=w2.alloc (.map #[] 0)) ⟨#[],zB6 _ _ _ rfl,rfl⟩ (zAM (Below.refl _ _) _);have HS0:Hid (FS ((w2.alloc (.map #[] 0)).alloc (.cells #[.slice (some ⟨w.heap.size,0,none⟩) n n,.slice none 0 0,.map (some w2.heap.size)] 128)) (w2.heap.size+1) w2.heap.size (.slice none 0 0) []):=⟨pB.2.1 1 _ rfl,pB.2.2 1 (by simp),⟨rfl,Or.inl ⟨rfl,rfl⟩⟩,pB.2.1 2 _ rfl,hmp,Nat.lt_succ_self _⟩
 have HM0:Hid (MkS ((w2.alloc (.map #[] 0)).alloc (.cells #[.slice (some ⟨w.heap.size,0,none⟩) n n,.slice none 0 0,.map (some w2.heap.size)] 128)) (w2.heap.size+1) w.heap.size n ((List.replicate n none).set 0 (some ((0:Int),(0:Nat))))):=by
  have hcl:=own2.cells (g:=w.heap.size) rfl;have hcl2:∀ (j:Nat) (u:Value),(madeCells (Value.agg #[.int .i64 0,.int .i64 0,.bool false]).cells (n * 3)).toList[j]? = some u->w2.cell? ⟨w.heap.size,j,none⟩=some u:=by
   intro j u hu;have:=hcl j u hu;rwa [show (⟨w.heap.size,0,none⟩:Addr).add j=⟨w.heap.size,j,none⟩ from by simp [Addr.add];intro h;exact h.symm] at this
  refine ⟨pB.2.1 0 _ rfl,λj hj=>?_,λi hi=>?_,by simp,Nat.lt_of_lt_of_le hk2 hba.size⟩
  ·rw [mk0 n j h0];obtain ⟨d0,d1,d2⟩:=zPH n j hj;intro r u hu;match r,hu with
   | 0,hu=>cases hu;exact zAC hba (hcl2 _ _ d0)
   | 1,hu=>cases hu;exact zAC hba (hcl2 _ _ d1)
   | 2,hu=>cases hu;exact zAC hba (hcl2 _ _ d2)
  ·have hfz:w2.frozen? ⟨w.heap.size,i,none⟩=false:=by
    rcases own2.2 with ⟨e,_⟩ | ⟨g,cap',cur,e,_,hg,_,_,hs,_⟩
    ·cases e
    ·simp only [Value.slice.injEq,Option.some.injEq,Addr.mk.injEq] at e;obtain ⟨⟨e1,-,-⟩,-,-⟩:=e;rw [<-e1] at hg;simp [World.frozen?,hg]
   rw [(Fr.of_below [] hba).frozen hk2 (by simp)];exact hfz
 have HI0:Hid (PInv 0 ((List.replicate n none).set 0 (some ((0:Int),(0:Nat)))) []):=zOg n h0;have HB0:Hid (Below w.heap.size w ((w2.alloc (.map #[] 0)).alloc (.cells #[.slice (some ⟨w.heap.size,0,none⟩) n n,.slice none 0 0,.map (some w2.heap.size)] 128))):=hB0;have HKK:Hid (w.heap.size<w2.heap.size):=hk2;clear hbg hk2 hba hB0 pB hmp own2 hg2 hi0 hz0 hz1 hz2 hmk i0;obtain ⟨b,hb⟩:∃ b,w2.heap.size+1=b:=⟨_,rfl⟩
 obtain ⟨mb,hmb⟩:∃ b,w2.heap.size=b:=⟨_,rfl⟩
 obtain ⟨mk,hmkk⟩:∃ b,w.heap.size=b:=⟨_,rfl⟩
 have HBM:Hid (mk<mb/\mb+1=b/\w.heap.size=mk):=⟨by rw [<-hmkk,<-hmb];exact HKK.out,by rw [<-hmb];exact hb,hmkk⟩
 generalize ((w2.alloc (.map #[] 0)).alloc (.cells #[.slice (some ⟨w.heap.size,0,none⟩) n n,.slice none 0 0,.map (some w2.heap.size)] 128))=w0 at *;rw [hb,hmkk] at HM0;rw [hb,hmb] at HS0;simp only [hmb,hmkk];simp only [HBM.out.2.1];clear HKK;go_wp2_with fail
 go_loopg [21] n (λgk x wr=>∃ (i:Nat) (M:List (Option (Int × Nat))) (F:List (Nat × Int)) (lv:Value),x=.int .i64 i/\gk=n - i/\i<=n/\Hid (Wc.runP Wc.spI i (L.drop i) (M,F)=q)/\Hid (MkS wr b mk n M)/\Hid (FS wr b mb lv F)/\Hid (PInv i M F)/\Hid (Below w.heap.size w wr))
 case atStart=>exact ⟨0,_,[],_,rfl,rfl,Nat.zero_le _,HQ,HM0,HS0,HI0,HB0⟩
 case round =>
  clear HQ HM0 HS0 HI0 HB0;obtain ⟨i,M,F,lv,rfl,hg,hi,HQ,HM,HS,HI,HB⟩:=hrel;by_cases hlt:i<n
  ·have hli:(i:Int)<(n:Int):=by omega
   have hwi:IntKind.i64.wrap ((i:Int)+1)=(i:Int)+1:=by rw [IntKind.wrap_i64];have:=HN.out;omega
   have hil:i<L.length:=by rw [HL.out];exact hlt
   have hB:=HB.out;have H0:=HR.out;rw [HL.out] at H0;obtain ⟨q1,d1,e1,f1⟩:=H0;simp only [Value.slice.injEq] at e1;obtain ⟨ex1,ex2,ex3⟩:=e1;subst ex1;subst ex3;clear ex2;obtain ⟨bb,off,p,mm,kk,rfl,t1w,y1w,_⟩:=f1 i hil;obtain ⟨y,tl,hyt⟩:∃ y tl,L[i]=(y,tl):=⟨_,_,rfl⟩
   have htl:=HT.out L[i] (List.getElem_mem _);have HBY:Hid (zEK y):=by have:=HBI.out (L[i]) (List.getElem_mem _);rw [hyt] at this;exact this
   rw [hyt] at htl t1w y1w;have hpc:=HPL.out i hil;rw [HL.out,hyt] at hpc;obtain ⟨prg,_,pp1,pp2⟩:=(Wc.plc_iff _ _ _ _).1 hpc;have HRG:Hid (rgt y tl=true):=prg;have HSW:0<=(Wc.swO y.op y.b).1/\(Wc.swO y.op y.b).1<=1000/\0<=(Wc.swO y.op y.b).2/\(Wc.swO y.op y.b).2<=1:=zOF prg;have HPP:Hid (∀ u1 u2:List Int,onw y.op y.a y.b tl i=(u1,u2)->(∀ j ∈ u1,0<j/\j<(n:Int))/\(∀ j ∈ u2,0<j/\j<(n:Int))/\u1.length<=1000000/\u2.length<=1000000):=by
    intro u1 u2 hu;have hle:=zEa (o:=y.op) (a:=y.a) (b:=y.b) (at':=i) htl;simp only at pp1 pp2;rw [hu] at pp1 pp2 hle;exact ⟨λj hj=>by have:=pp1 j hj;omega,λj hj=>by have:=pp2 j hj;omega,hle.1,hle.2⟩
   have HZ:Hid (RdZ w (.slice p mm kk) tl):=y1w;have HTO:Hid (∀ (wa:World) (cv:Value) (u:List Int) (wb:World),u ≠ []->RdZ wa cv u->Bk wb (.slice p mm kk) cv->mk<wb.heap.size->∀ g,cv.ownBlock=some g->g ≠ mk):=by
    intro wa cv u wb hne hrd hbk hmw g e;rcases hbk with hbk | hbk
    ·subst hbk;have hg:=zOZ y1w hrd hne e;have:=HBM.out;omega
    ·have:=hbk g e;omega
   have HQ1:Hid ((match Wc.spI i (y,tl) (M,F) with | none=>false | some s2=>Wc.runP Wc.spI (i+1) (L.drop (i+1)) s2)=q):=by
    show _=q
    rw [<-HQ.out,List.drop_eq_getElem_cons hil,hyt];rfl
   have t1:=zAF hB t1w;have pI0:AtL (wr.alloc (.cells zeros23 56)) wr.heap.size zeros23.toList:=AtL.new0 wr _ _;have hth:World.there (wr.alloc (.cells zeros23 56)) wr.heap.size 0 (zAD y (.slice p mm kk)).toArray.size:=pI0.there;clear pI0 f1 hyt HQ hil hB y1w t1w htl hpc prg pp1 pp2;go_upto_region 5 with (first | (refine zAA (by rfl) 56 (.tmp 24) rfl bb (off+i * 23) rfl (zAD y (.slice p mm kk)) _ t1 underlying56 rfl (by kernel_rfl) ?_) | ((with_reducible refine wpList_store_mid ?_ 56 (.tmp 6) (.tmp 25) ?_ wr.heap.size 0 (zAD y (.slice p mm kk)).toArray ?_ ?_ ?_ ?_ ?_ ?_);rfl;rfl;rfl;rfl;exact hth;kernel_rfl;exact zAj _ _ _ _))
   have pI0:AtL (wr.alloc (.cells zeros23 56)) wr.heap.size zeros23.toList:=AtL.new0 wr _ _;have pI:AtL ((wr.alloc (.cells zeros23 56)).setCells wr.heap.size 0 (zAD y (.slice p mm kk))) wr.heap.size (zAD y (.slice p mm kk)):=pI0.setAll rfl;have hBw:Below wr.heap.size wr ((wr.alloc (.cells zeros23 56)).setCells wr.heap.size 0 (zAD y (.slice p mm kk))):=zAv (zAM (Below.refl _ wr) _) (Nat.le_refl _) _ 0;have hM:=HM.out.fr (Fr.of_below [] hBw) (by simp) (by simp);have hS:=HS.out.below hBw;have hB:=zAB HB.out hBw;have HGO:Hid (∀ g,lv.ownBlock=some g->b+1<=g/\g<wr.heap.size):=λg e=>zAK HS.out.own e
   have HBW:Hid (b<wr.heap.size):=zA5 HS.out.hd;clear pI0 hth t1 HM HS HB hBw;generalize (wr.alloc (.cells zeros23 56)).setCells wr.heap.size 0 (zAD y (.slice p mm kk))=W4 at *;have c0:=hM.hd;have hr:=hM.at' i hlt;cases hgi:M.getD i none with
   | none =>
    have hi0:i ≠ 0:=λe=>by rw [e,HI.out.zero] at hgi;cases hgi
    have hiz:(0:Int)<(i:Int):=by omega
    have e2:W4.cell? ⟨mk,i * 3+2,none⟩=some (.bool false):=hr 2 (.bool false) (by unfold mkC;rw [hgi];rfl);clear hr;go_wp2;go_ret2
    have hqf:q=false:=by
     rw [<-HQ1.out,zAu];simp only [hgi]
    exact ⟨⟨.pointer none,by rw [hqf];rfl⟩,by first | exact hB | (rw [<-HBM.out.2.2];exact hB)⟩
   | some gg =>
    obtain ⟨v,m⟩:=gg;have HGI:Hid (M.getD i none=some (v,m)):=hgi;have a0:W4.cell? ⟨mk,i * 3,none⟩=some (.int .i64 v):=hr 0 (.int .i64 v) (by unfold mkC;rw [hgi];rfl);have a1:W4.cell? ⟨mk,i * 3+1,none⟩=some (.int .i64 (m:Int)):=hr 1 (.int .i64 (m:Int)) (by unfold mkC;rw [hgi];rfl);have e2:W4.cell? ⟨mk,i * 3+2,none⟩=some (.bool (decide (i ≠ 0))):=hr 2 (.bool (decide (i ≠ 0))) (by unfold mkC;rw [hgi];rfl);have hor:(¬ (0:Int)<(i:Int)/\W4.cell? ⟨mk,i * 3+2,none⟩=some (.bool false)) \/ ((0:Int)<(i:Int)/\W4.cell? ⟨mk,i * 3+2,none⟩=some (.bool true)):=by
     rcases Nat.eq_zero_or_pos i with hz | hz
     ·left
      exact ⟨by omega,by rw [e2];simp [hz]⟩
     ·right
      exact ⟨by omega,by rw [e2];simp;omega⟩
    have HM0:Hid (MkS W4 b mk n M):=hM;have HS0:Hid (FS W4 b mb lv F):=hS;clear hr hgi e2 hM hS;rcases hor with ⟨hiz,e2⟩ | ⟨hiz,e2⟩
    all_goals
     go_upto_region 7 with fail
     clear e2;go_upto_region 8 with fail
     have pH:=AtL.new0 W4 130 [.int .i64 v,.int .i64 (m:Int)];have hb7:Below W4.heap.size W4 (W4.alloc (.cells #[.int .i64 v,.int .i64 (m:Int)] 130)).drew:=(zAM (Below.refl _ W4) (.cells #[.int .i64 v,.int .i64 (m:Int)] 130)).drew;have h0:=(AtL.drew pH).2.1 0 _ rfl;have h1:=(AtL.drew pH).2.1 1 _ rfl;have HMLT:Hid (mk<W4.heap.size):=HM0.out.mlt;have HWZ0:Hid (W4.heap.size<(W4.alloc (.cells #[.int .i64 v,.int .i64 (m:Int)] 130)).drew.heap.size):=(AtL.drew pH).1;have HKI:Hid (wr.heap.size<W4.heap.size):=pI.1;replace pI:=AtL.below hb7 pI
     replace hB:=zAB hB hb7
     have HM7:Hid (MkS (W4.alloc (.cells #[.int .i64 v,.int .i64 (m:Int)] 130)).drew b mk n M):=HM0.out.fr (Fr.of_below [] hb7) (by simp) (by simp);have HS7:Hid (FS (W4.alloc (.cells #[.int .i64 v,.int .i64 (m:Int)] 130)).drew b mb lv F):=HS0.out.below hb7;clear pH hb7 HM0 HS0 a0 a1 c0;refine wp_region_held_drew (S:=λW=>W.rangeAt wr.heap.size 0 (zAD y (.slice p mm kk))/\W.cell? ⟨W4.heap.size,0,none⟩=some (.int .i64 v)/\W.cell? ⟨W4.heap.size,1,none⟩=some (.int .i64 (m:Int))) (by kernel_rfl) ⟨pI.range,h0,h1⟩ (λhHeld=>?_);generalize (W4.alloc (.cells #[.int .i64 v,.int .i64 (m:Int)] 130)).drew=wc at *;have HPV:=HI.out.at' i v m HGI.out;have hsm:∀ k,k ∈ b::mb::lv.ownBlock.toList->k<wr.heap.size:=by
      intro k hk;have h1:=HBW.out;have h2:=HBM.out;simp only [List.mem_cons,Option.mem_toList] at hk;rcases hk with rfl | rfl | hk
      ·exact h1
      ·omega
      ·exact (HGO.out k hk).2
     have hsk:∀ k,k ∈ b::mb::lv.ownBlock.toList->mk<k:=by
      intro k hk;have h2:=HBM.out;simp only [List.mem_cons,Option.mem_toList] at hk;rcases hk with rfl | rfl | hk
      ·omega
      ·omega
      ·have:=(HGO.out k hk).1;omega
     have HSM:Hid (wr.heap.size ∉ b::mb::lv.ownBlock.toList/\W4.heap.size ∉ b::mb::lv.ownBlock.toList/\(∀ k,wr.heap.size<=k->k ∉ b::mb::lv.ownBlock.toList)/\mk ∉ b::mb::lv.ownBlock.toList/\∀ k ∈ b::mb::lv.ownBlock.toList,w.heap.size<=k) :=
      ⟨λe=>by have:=hsm _ e;omega,λe=>by have:=hsm _ e;have:=HKI.out;omega,λk hk e=>by have:=hsm _ e;omega,λe=>by have:=hsk _ e;omega,λk hk=>by have:=hsk k hk;have:=HBM.out;omega⟩
     clear hsm hsk;have HCH:Hid (∀ wx:World,FS wx b mb lv F->Calls prog 65 #[.pointer (some ⟨b,1,none⟩),inV y (.slice p mm kk),.agg #[.int .i64 v,.int .i64 (m:Int)]] wx λe w'=>zNH (zFY F y v m) b mb lv wx e w'):=λwx hx=>zGg y (.slice p mm kk) b mb lv F m v wx hx HPV.2.2 (by have:=HI.out.len;have:=HN.out;omega) (by have:=HN.out;omega) (by omega) HBY.out
     clear HBY;clear HPV HSW;refine tkQ 0 ?_
     refine tkQ 1 ?_
     refine tkQ 2 ?_
     refine wpAnyH_take (i:=3) (v:=.agg (zAD y (.slice p mm kk)).toArray) (atQ rfl) (by kernel_rfl) (by kernel_rfl) (by kernel_rfl) (λ_ _ _ h=>h) (yieldsIf_load_mid (by rfl) 56 (.tmp 6) rfl wr.heap.size 0 rfl (zAD y (.slice p mm kk)) _ (λ_ h=>h.1) underlying56 rfl (by kernel_rfl)) (by assumption) ?_;try simp only [Act.put,lA,lZ,lS]
     refine tkQ 4 ?_
     refine wpAnyH_ready (rs:=[5,9]) (by kernel_rfl) (by simp) ?_;refine AllReadyH.cons (atQ rfl) (λK hK=>?_) (AllReadyH.cons (atQ rfl) (λK hK=>?_) AllReadyH.nil)
     ·have CH:=HCH.out wc HS7.out;go_simp
      refine CH.mono ?_;intro e w8 hP;obtain ⟨v2,m2,ok,rfl,f8,hok⟩:=zHz HS7.out hP;replace pI:=pI.fr f8 HSM.out.1
      replace h0:=f8.cell h0 HSM.out.2.1
      replace h1:=f8.cell h1 HSM.out.2.1
      replace hB:=zAf hB f8 HSM.out.2.2.2.2
      have HWZ1:Hid (W4.heap.size<w8.heap.size):=Nat.lt_of_lt_of_le HWZ0.out f8.size;have HOK0:Hid (OKF w8 b mb mk n M (zFY F y v m) ok v2 m2):=by
       rcases hok with h | ⟨h1,F2,h2,h3,h4⟩
       ·exact Or.inl h
       ·exact Or.inr ⟨h1,F2,h2,h3,HM7.out.call f8 (h4 _ HM7.out.hd) HSM.out.2.2.2.1⟩
      clear hP hok f8 HM7 HS7 CH HCH;go_wp2_with fail
      refine hkQ hK ⟨pI.range,h0,h1⟩ (λhHeld=>?_);clear hK K
      refine tkQ 6 ?_
      refine tkQ 7 ?_
      refine tkQ 8 ?_
      have hba:=zAM (Below.refl _ w8) (.cells #[.int .i64 0,.int .i64 0] 130);have pK:=AtL.new0 w8 130 [.int .i64 0,.int .i64 0];replace pI:=AtL.below hba pI
      replace h0:=zAC hba h0
      replace h1:=zAC hba h1
      replace hB:=zAB hB hba
      have HOK1:Hid (OKF (w8.alloc (.cells #[.int .i64 0,.int .i64 0] 130)) b mb mk n M (zFY F y v m) ok v2 m2):=HOK0.out.below hba;have HWZ:Hid (W4.heap.size<w8.heap.size):=HWZ1.out;have hty:∃ c f,(w8.alloc (.cells #[.int .i64 0,.int .i64 0] 130)).heap[w8.heap.size]? = some (.cells c 130 f):=⟨_,_,zB6 _ _ _ rfl⟩
      clear hba;refine rdQ 9 (λK hK=>?_);go_simp
      refine hkQ hK ⟨pI.range,h0,h1⟩ (λhHeld=>?_);clear hK K
      generalize hky:(w8.alloc (.cells #[.int .i64 0,.int .i64 0] 130))=wy at *;clear hky;obtain ⟨k8,hk8⟩:∃ k,w8.heap.size=k:=⟨_,rfl⟩
      rw [hk8] at pK hty HWZ;simp only [hk8];clear hk8 HWZ1 HOK0;have k0:=pK.2.1 0 _ rfl;have k1:=pK.2.1 1 _ rfl;have z0:=pK.2.2 0 (by simp);have z1:=pK.2.2 1 (by simp);have nki:wr.heap.size ∉ [k8]:=by have:=HWZ.out;have:=HKI.out;simp;omega
      have nkh:W4.heap.size ∉ [k8]:=by have:=HWZ.out;simp;omega
      have frS:Fr [k8] wy ((wy.setCell ⟨k8,0,none⟩ (.int .i64 v2)).setCell ⟨k8,1,none⟩ (.int .i64 (m2:Int))):=(Fr.of_grown (zAP _ _ _ _) (λj e=>by cases e;simp)).trans (Fr.of_grown (zAP _ _ _ _) (λj e=>by cases e;simp));have g0:((wy.setCell ⟨k8,0,none⟩ (.int .i64 v2)).setCell ⟨k8,1,none⟩ (.int .i64 (m2:Int))).cell? ⟨k8,0,none⟩=some (.int .i64 v2):=by rw [zAZ _ _ _ (by decide)];exact zA7 k0 _
      have g1:((wy.setCell ⟨k8,0,none⟩ (.int .i64 v2)).setCell ⟨k8,1,none⟩ (.int .i64 (m2:Int))).cell? ⟨k8,1,none⟩=some (.int .i64 (m2:Int)):=zA7 (by rw [zAZ _ _ _ (by decide)];exact k1) _;refine rdQ 10 (λK hK=>?_);go_simp
      refine hkQ hK ⟨frS.range pI.range nki,frS.cell h0 nkh,frS.cell h1 nkh⟩ (λhHeld=>?_);clear hK K
      replace pI:=pI.fr frS nki
      replace h0:=frS.cell h0 nkh
      replace h1:=frS.cell h1 nkh
      replace hB:=zAf hB frS (λk hk=>by have:=HWZ.out;have:=HMLT.out;have:=HBM.out;simp at hk;omega)
      have HOK:Hid (OKF ((wy.setCell ⟨k8,0,none⟩ (.int .i64 v2)).setCell ⟨k8,1,none⟩ (.int .i64 (m2:Int))) b mb mk n M (zFY F y v m) ok v2 m2):=(HOK1.out.set (by have:=HWZ.out;have:=HKI.out;have:=HBW.out;omega) (by have:=HWZ.out;have:=HMLT.out;omega) hty 0 _).set (by have:=HWZ.out;have:=HKI.out;have:=HBW.out;omega) (by have:=HWZ.out;have:=HMLT.out;omega) (zLn hty 0 _) 1 _;have HWS:Hid (W4.heap.size<((wy.setCell ⟨k8,0,none⟩ (.int .i64 v2)).setCell ⟨k8,1,none⟩ (.int .i64 (m2:Int))).heap.size):=zA5 h0;clear k0 k1 z0 z1 nki nkh frS HOK1 hty pK;generalize ((wy.setCell ⟨k8,0,none⟩ (.int .i64 v2)).setCell ⟨k8,1,none⟩ (.int .i64 (m2:Int)))=wz at *;refine rdQ 11 (λK hK=>?_);go_simp
      refine hkQ hK ⟨pI.range,h0,h1⟩ (λhHeld=>?_);clear hK K
      refine wpAnyH_done (by kernel_rfl) ?_ _;clear hHeld;have rI:=pI.range;have OW:=zBs y p mm kk tl i wz ⟨by omega,by have:=HN.out;omega⟩ (HZ.out.below hB);obtain ⟨u,hu⟩:∃ u,onw y.op y.a y.b tl i=u:=⟨_,rfl⟩
      have HU:Hid (onw y.op y.a y.b tl i=u):=hu;rw [hu] at OW;obtain ⟨u1,u2⟩:=u;clear hu;go_wp2_with (first | (refine zAA (by rfl) 56 (.tmp 6) rfl wr.heap.size 0 rfl (zAD y (.slice p mm kk)) _ rI underlying56 rfl (by kernel_rfl) ?_))
      refine OW.mono ?_;rintro e w9 ⟨⟨cv1,cv2,rfl,zz1,zz2,bk1,bk2⟩,hb9⟩;have HZS:Hid (mk<wz.heap.size):=Nat.lt_trans HMLT.out HWS.out;replace h0:=zAC hb9 h0
      replace h1:=zAC hb9 h1
      replace g0:=zAC hb9 g0
      replace g1:=zAC hb9 g1
      replace hB:=zAB hB hb9
      have Z1:Hid (RdZ w9 cv1 u1):=zz1;have Z2:Hid (RdZ w9 cv2 u2):=zz2;have BK1:Hid (Bk wz (.slice p mm kk) cv1):=bk1;have BK2:Hid (Bk wz (.slice p mm kk) cv2):=bk2;clear zz1 zz2 bk1 bk2 rI OW pI;rcases HOK.out with ⟨hok,hcn⟩ | ⟨hok,F2,hcs,⟨lv',hFS⟩,hMS⟩
      ·subst hok;go_wp2;go_ret2
       have hqf:q=false:=by
        rw [<-HQ1.out,zAu];simp only [HGI.out,hcn]
       exact ⟨⟨.pointer none,by rw [hqf];rfl⟩,by first | exact hB | (rw [<-HBM.out.2.2];exact hB)⟩
      ·subst hok;replace hFS:=hFS.below hb9
       replace hMS:=hMS.fr (Fr.of_below [] hb9) (by simp) (by simp)
       have HFS:Hid (FS w9 b mb lv' F2):=hFS;have HMS:Hid (MkS w9 b mk n M):=hMS;have HAN1:=zC7 b mk n M v2 m2 u1 cv1 w9 hMS (by have:=HBM.out;omega) Z1.out (HPP.out _ _ HU.out).1 (HPP.out _ _ HU.out).2.2.1 HN.out.2 (λhne g e=>HTO.out w9 cv1 u1 wz hne Z1.out BK1.out HZS.out g e);have HCS:Hid (zFY F y v m=some ((v2,m2),F2)):=hcs;clear hFS hMS hcs hb9;go_wp2_with fail
       refine HAN1.mono ?_;intro e w10 hP10;clear HAN1;cases hh1:Wc.handP (v2,m2) u1 M with
       | none =>
        rw [hh1] at hP10;obtain ⟨rfl,f10⟩:=hP10;replace hB:=zAf hB f10 (λk hk=>by have:=HBM.out;simp at hk;omega)
        go_wp2;go_ret2
        have hqf:q=false:=by
         rw [<-HQ1.out,zAu];simp only [HGI.out,HCS.out,HU.out,hh1]
        exact ⟨⟨.pointer none,by rw [hqf];rfl⟩,by first | exact hB | (rw [<-HBM.out.2.2];exact hB)⟩
       | some M1 =>
        rw [hh1] at hP10;obtain ⟨rfl,hM1,f10⟩:=hP10;have nk7:W4.heap.size ∉ [mk]:=by have:=HMLT.out;simp;omega
        replace h0:=f10.cell h0 nk7
        replace h1:=f10.cell h1 nk7
        replace hB:=zAf hB f10 (λk hk=>by have:=HBM.out;simp at hk;omega)
        have HAN2:=zC7 b mk n M1 v m u2 cv2 w10 hM1 (by have:=HBM.out;omega) (zLi Z2.out f10 (λhne g e=>by have:=HTO.out w9 cv2 u2 wz hne Z2.out BK2.out HZS.out g e;simpa using this)) (HPP.out _ _ HU.out).2.1 (HPP.out _ _ HU.out).2.2.2 HN.out.2 (λhne g e=>HTO.out w9 cv2 u2 wz hne Z2.out BK2.out HZS.out g e);have HFS2:Hid (FS w10 b mb lv' F2):=HFS.out.fr f10 (by have:=HBM.out;simp;omega) (by have:=HBM.out;simp;omega) (λg e=>by have:=(zAK HFS.out.own e).1;have:=HBM.out;simp;omega);have HH1:Hid (Wc.handP (v2,m2) u1 M=some M1):=hh1;clear hM1 f10 hh1;go_wp2_with fail
        refine HAN2.mono ?_;intro e w11 hP11;clear HAN2;cases hh2:Wc.handP (v,m) u2 M1 with
        | none =>
         rw [hh2] at hP11;obtain ⟨rfl,f11⟩:=hP11;replace hB:=zAf hB f11 (λk hk=>by have:=HBM.out;simp at hk;omega)
         go_wp2;go_ret2
         have hqf:q=false:=by
          rw [<-HQ1.out,zAu];simp only [HGI.out,HCS.out,HU.out,HH1.out,hh2]
         exact ⟨⟨.pointer none,by rw [hqf];rfl⟩,by first | exact hB | (rw [<-HBM.out.2.2];exact hB)⟩
        | some M2 =>
         rw [hh2] at hP11;obtain ⟨rfl,hM2,f11⟩:=hP11;replace hB:=zAf hB f11 (λk hk=>by have:=HBM.out;simp at hk;omega)
         have HQ3:Hid (Wc.runP Wc.spI (i+1) (L.drop (i+1)) (M2,F2)=q):=by
          show _=q
          rw [<-HQ1.out,zAu];simp only [HGI.out,HCS.out,HU.out,HH1.out,hh2]
         have HI3:Hid (PInv (i+1) M2 F2):=zEQ HI.out HGI.out HRG.out HCS.out HH1.out hh2 (λj hj=>((HPP.out _ _ HU.out).1 j hj).1) (λj hj=>((HPP.out _ _ HU.out).2.1 j hj).1);have HFS3:Hid (FS w11 b mb lv' F2):=HFS2.out.fr f11 (by have:=HBM.out;simp;omega) (by have:=HBM.out;simp;omega) (λg e=>by have:=(zAK HFS2.out.own e).1;have:=HBM.out;simp;omega);have HM3:Hid (MkS w11 b mk n M2):=hM2;have HB3:Hid (Below w.heap.size w w11):=hB;clear hM2 f11 hh2 hB h0 h1 g0 g1;go_wp2_with fail
         go_roundg (n - (i+1))
         case rel=>exact ⟨i+1,M2,F2,lv',by simp,rfl,hlt,HQ3,HM3,HFS3,HI3,HB3⟩
         case measure=>omega
     ·have hba:=zAM (Below.refl _ wc) (.cells #[.int .i64 0,.int .i64 0] 130);have pK:=AtL.new0 wc 130 [.int .i64 0,.int .i64 0];replace pI:=AtL.below hba pI
      replace h0:=zAC hba h0
      replace h1:=zAC hba h1
      replace hB:=zAB hB hba
      have HS8:Hid (FS (wc.alloc (.cells #[.int .i64 0,.int .i64 0] 130)) b mb lv F):=HS7.out.below hba;have HM8:Hid (MkS (wc.alloc (.cells #[.int .i64 0,.int .i64 0] 130)) b mk n M):=HM7.out.fr (Fr.of_below [] hba) (by simp) (by simp);have HWZ:Hid (W4.heap.size<wc.heap.size):=HWZ0.out;have hty0:(wc.alloc (.cells #[.int .i64 0,.int .i64 0] 130)).heap[wc.heap.size]? = some (.cells #[.int .i64 0,.int .i64 0] 130 (0,0)):=zB6 _ _ _ rfl;clear hba HS7 HM7;go_simp
      refine hkQ hK ⟨pI.range,h0,h1⟩ (λhHeld=>?_);clear hK K
      generalize hky:(wc.alloc (.cells #[.int .i64 0,.int .i64 0] 130))=wb at *;clear hky;obtain ⟨k8,hk8⟩:∃ k,wc.heap.size=k:=⟨_,rfl⟩
      rw [hk8] at pK hty0 HWZ;simp only [hk8];clear hk8 HWZ0;refine rdQ 5 (λK hK=>?_);have CH:=HCH.out wb HS8.out;go_simp
      refine CH.mono ?_;intro e w8 hP;obtain ⟨v2,m2,ok,rfl,f8,hok⟩:=zHz HS8.out hP;replace pI:=pI.fr f8 HSM.out.1
      replace h0:=f8.cell h0 HSM.out.2.1
      replace h1:=f8.cell h1 HSM.out.2.1
      replace hB:=zAf hB f8 HSM.out.2.2.2.2
      have nk8:k8 ∉ b::mb::lv.ownBlock.toList:=HSM.out.2.2.1 k8 (by have:=HWZ.out;have:=HKI.out;omega);have hty:∃ c f,w8.heap[k8]? = some (.cells c 130 f):=⟨_,_,(f8.block k8 pK.1 nk8).trans hty0⟩
      replace pK:=pK.fr f8 nk8
      have HOK1:Hid (OKF w8 b mb mk n M (zFY F y v m) ok v2 m2):=by
       rcases hok with h | ⟨h1,F2,h2,h3,h4⟩
       ·exact Or.inl h
       ·exact Or.inr ⟨h1,F2,h2,h3,HM8.out.call f8 (h4 _ HM8.out.hd) HSM.out.2.2.2.1⟩
      clear hP hok f8 HM8 HS8 CH HCH;go_wp2_with fail
      refine hkQ hK ⟨pI.range,h0,h1⟩ (λhHeld=>?_);clear hK K
      refine tkQ 6 ?_
      refine tkQ 7 ?_
      refine tkQ 8 ?_
      have k0:=pK.2.1 0 _ rfl;have k1:=pK.2.1 1 _ rfl;have z0:=pK.2.2 0 (by simp);have z1:=pK.2.2 1 (by simp);have nki:wr.heap.size ∉ [k8]:=by have:=HWZ.out;have:=HKI.out;simp;omega
      have nkh:W4.heap.size ∉ [k8]:=by have:=HWZ.out;simp;omega
      have frS:Fr [k8] w8 ((w8.setCell ⟨k8,0,none⟩ (.int .i64 v2)).setCell ⟨k8,1,none⟩ (.int .i64 (m2:Int))):=(Fr.of_grown (zAP _ _ _ _) (λj e=>by cases e;simp)).trans (Fr.of_grown (zAP _ _ _ _) (λj e=>by cases e;simp));have g0:((w8.setCell ⟨k8,0,none⟩ (.int .i64 v2)).setCell ⟨k8,1,none⟩ (.int .i64 (m2:Int))).cell? ⟨k8,0,none⟩=some (.int .i64 v2):=by rw [zAZ _ _ _ (by decide)];exact zA7 k0 _
      have g1:((w8.setCell ⟨k8,0,none⟩ (.int .i64 v2)).setCell ⟨k8,1,none⟩ (.int .i64 (m2:Int))).cell? ⟨k8,1,none⟩=some (.int .i64 (m2:Int)):=zA7 (by rw [zAZ _ _ _ (by decide)];exact k1) _;refine rdQ 10 (λK hK=>?_);go_simp
      refine hkQ hK ⟨frS.range pI.range nki,frS.cell h0 nkh,frS.cell h1 nkh⟩ (λhHeld=>?_);clear hK K
      replace pI:=pI.fr frS nki
      replace h0:=frS.cell h0 nkh
      replace h1:=frS.cell h1 nkh
      replace hB:=zAf hB frS (λk hk=>by have:=HWZ.out;have:=HMLT.out;have:=HBM.out;simp at hk;omega)
      have HOK:Hid (OKF ((w8.setCell ⟨k8,0,none⟩ (.int .i64 v2)).setCell ⟨k8,1,none⟩ (.int .i64 (m2:Int))) b mb mk n M (zFY F y v m) ok v2 m2):=(HOK1.out.set (by have:=HWZ.out;have:=HKI.out;have:=HBW.out;omega) (by have:=HWZ.out;have:=HMLT.out;omega) hty 0 _).set (by have:=HWZ.out;have:=HKI.out;have:=HBW.out;omega) (by have:=HWZ.out;have:=HMLT.out;omega) (zLn hty 0 _) 1 _;have HWS:Hid (W4.heap.size<((w8.setCell ⟨k8,0,none⟩ (.int .i64 v2)).setCell ⟨k8,1,none⟩ (.int .i64 (m2:Int))).heap.size):=zA5 h0;clear k0 k1 z0 z1 nki nkh frS HOK1 hty pK;generalize ((w8.setCell ⟨k8,0,none⟩ (.int .i64 v2)).setCell ⟨k8,1,none⟩ (.int .i64 (m2:Int)))=wz at *;refine rdQ 11 (λK hK=>?_);go_simp
      refine hkQ hK ⟨pI.range,h0,h1⟩ (λhHeld=>?_);clear hK K
      refine wpAnyH_done (by kernel_rfl) ?_ _;clear hHeld;have rI:=pI.range;have OW:=zBs y p mm kk tl i wz ⟨by omega,by have:=HN.out;omega⟩ (HZ.out.below hB);obtain ⟨u,hu⟩:∃ u,onw y.op y.a y.b tl i=u:=⟨_,rfl⟩
      have HU:Hid (onw y.op y.a y.b tl i=u):=hu;rw [hu] at OW;obtain ⟨u1,u2⟩:=u;clear hu;go_wp2_with (first | (refine zAA (by rfl) 56 (.tmp 6) rfl wr.heap.size 0 rfl (zAD y (.slice p mm kk)) _ rI underlying56 rfl (by kernel_rfl) ?_))
      refine OW.mono ?_;rintro e w9 ⟨⟨cv1,cv2,rfl,zz1,zz2,bk1,bk2⟩,hb9⟩;have HZS:Hid (mk<wz.heap.size):=Nat.lt_trans HMLT.out HWS.out;replace h0:=zAC hb9 h0
      replace h1:=zAC hb9 h1
      replace g0:=zAC hb9 g0
      replace g1:=zAC hb9 g1
      replace hB:=zAB hB hb9
      have Z1:Hid (RdZ w9 cv1 u1):=zz1;have Z2:Hid (RdZ w9 cv2 u2):=zz2;have BK1:Hid (Bk wz (.slice p mm kk) cv1):=bk1;have BK2:Hid (Bk wz (.slice p mm kk) cv2):=bk2;clear zz1 zz2 bk1 bk2 rI OW pI;rcases HOK.out with ⟨hok,hcn⟩ | ⟨hok,F2,hcs,⟨lv',hFS⟩,hMS⟩
      ·subst hok;go_wp2;go_ret2
       have hqf:q=false:=by
        rw [<-HQ1.out,zAu];simp only [HGI.out,hcn]
       exact ⟨⟨.pointer none,by rw [hqf];rfl⟩,by first | exact hB | (rw [<-HBM.out.2.2];exact hB)⟩
      ·subst hok;replace hFS:=hFS.below hb9
       replace hMS:=hMS.fr (Fr.of_below [] hb9) (by simp) (by simp)
       have HFS:Hid (FS w9 b mb lv' F2):=hFS;have HMS:Hid (MkS w9 b mk n M):=hMS;have HAN1:=zC7 b mk n M v2 m2 u1 cv1 w9 hMS (by have:=HBM.out;omega) Z1.out (HPP.out _ _ HU.out).1 (HPP.out _ _ HU.out).2.2.1 HN.out.2 (λhne g e=>HTO.out w9 cv1 u1 wz hne Z1.out BK1.out HZS.out g e);have HCS:Hid (zFY F y v m=some ((v2,m2),F2)):=hcs;clear hFS hMS hcs hb9;go_wp2_with fail
       refine HAN1.mono ?_;intro e w10 hP10;clear HAN1;cases hh1:Wc.handP (v2,m2) u1 M with
       | none =>
        rw [hh1] at hP10;obtain ⟨rfl,f10⟩:=hP10;replace hB:=zAf hB f10 (λk hk=>by have:=HBM.out;simp at hk;omega)
        go_wp2;go_ret2
        have hqf:q=false:=by
         rw [<-HQ1.out,zAu];simp only [HGI.out,HCS.out,HU.out,hh1]
        exact ⟨⟨.pointer none,by rw [hqf];rfl⟩,by first | exact hB | (rw [<-HBM.out.2.2];exact hB)⟩
       | some M1 =>
        rw [hh1] at hP10;obtain ⟨rfl,hM1,f10⟩:=hP10;have nk7:W4.heap.size ∉ [mk]:=by have:=HMLT.out;simp;omega
        replace h0:=f10.cell h0 nk7
        replace h1:=f10.cell h1 nk7
        replace hB:=zAf hB f10 (λk hk=>by have:=HBM.out;simp at hk;omega)
        have HAN2:=zC7 b mk n M1 v m u2 cv2 w10 hM1 (by have:=HBM.out;omega) (zLi Z2.out f10 (λhne g e=>by have:=HTO.out w9 cv2 u2 wz hne Z2.out BK2.out HZS.out g e;simpa using this)) (HPP.out _ _ HU.out).2.1 (HPP.out _ _ HU.out).2.2.2 HN.out.2 (λhne g e=>HTO.out w9 cv2 u2 wz hne Z2.out BK2.out HZS.out g e);have HFS2:Hid (FS w10 b mb lv' F2):=HFS.out.fr f10 (by have:=HBM.out;simp;omega) (by have:=HBM.out;simp;omega) (λg e=>by have:=(zAK HFS.out.own e).1;have:=HBM.out;simp;omega);have HH1:Hid (Wc.handP (v2,m2) u1 M=some M1):=hh1;clear hM1 f10 hh1;go_wp2_with fail
        refine HAN2.mono ?_;intro e w11 hP11;clear HAN2;cases hh2:Wc.handP (v,m) u2 M1 with
        | none =>
         rw [hh2] at hP11;obtain ⟨rfl,f11⟩:=hP11;replace hB:=zAf hB f11 (λk hk=>by have:=HBM.out;simp at hk;omega)
         go_wp2;go_ret2
         have hqf:q=false:=by
          rw [<-HQ1.out,zAu];simp only [HGI.out,HCS.out,HU.out,HH1.out,hh2]
         exact ⟨⟨.pointer none,by rw [hqf];rfl⟩,by first | exact hB | (rw [<-HBM.out.2.2];exact hB)⟩
        | some M2 =>
         rw [hh2] at hP11;obtain ⟨rfl,hM2,f11⟩:=hP11;replace hB:=zAf hB f11 (λk hk=>by have:=HBM.out;simp at hk;omega)
         have HQ3:Hid (Wc.runP Wc.spI (i+1) (L.drop (i+1)) (M2,F2)=q):=by
          show _=q
          rw [<-HQ1.out,zAu];simp only [HGI.out,HCS.out,HU.out,HH1.out,hh2]
         have HI3:Hid (PInv (i+1) M2 F2):=zEQ HI.out HGI.out HRG.out HCS.out HH1.out hh2 (λj hj=>((HPP.out _ _ HU.out).1 j hj).1) (λj hj=>((HPP.out _ _ HU.out).2.1 j hj).1);have HFS3:Hid (FS w11 b mb lv' F2):=HFS2.out.fr f11 (by have:=HBM.out;simp;omega) (by have:=HBM.out;simp;omega) (λg e=>by have:=(zAK HFS2.out.own e).1;have:=HBM.out;simp;omega);have HM3:Hid (MkS w11 b mk n M2):=hM2;have HB3:Hid (Below w.heap.size w w11):=hB;clear hM2 f11 hh2 hB h0 h1 g0 g1;go_wp2_with fail
         go_roundg (n - (i+1))
         case rel=>exact ⟨i+1,M2,F2,lv',by simp,rfl,hlt,HQ3,HM3,HFS3,HI3,HB3⟩
         case measure=>omega
  ·have hli:¬ (i:Int)<(n:Int):=by omega
   have hqt:Hid (true=q):=by
    show true=q
    rw [<-HQ.out,List.drop_eq_nil_of_le (by rw [HL.out];omega)];rfl
   go_wp2;go_ret2
   exact ⟨⟨_,by rw [<-hqt.out];rfl⟩,by rw [<-HBM.out.2.2];exact HB.out⟩
theorem zDJ (L:List (Wc.In × List Int)) (v:Value) (w:World) (h:RdC w v L) (hl:L.length<=1000000) (ht:∀ x ∈ L,x.2.length<=1000000/\Wt.FitV x.1.v) (hN:NmAt w) (hCR:∀ x ∈ L,zGe x) :
  CR 13 #[v] w (.int .i64 (if Wc.chkP rgt L=true then 0 else 85)):=by
 have PL:=zGW L v w h hl ht hN hCR;have OF:=λw1 (hb:Below w.heap.size w w1) (h0:0<L.length) (hp:Wc.plcs rgt L.length 0 L=true)=>zMk L v w1 (h.below hb) hl h0 (λx hx=>(ht x hx).1) hp (λx hx=>(hCR x hx).1)
 clear hCR;have hc:Wc.chkP rgt L=(Wc.plcs rgt L.length 0 L && (decide (0<L.length) && Wc.runP Wc.spI 0 L (Wc.sP L.length))):=rfl;obtain ⟨q1,h1⟩:∃ q,Wc.plcs rgt L.length 0 L=q:=⟨_,rfl⟩
 obtain ⟨q2,h2⟩:∃ q,decide (0<L.length)=q:=⟨_,rfl⟩
 obtain ⟨q3,h3⟩:∃ q,Wc.runP Wc.spI 0 L (Wc.sP L.length)=q:=⟨_,rfl⟩
 rw [h1,h2,h3] at hc;rw [h1,h2] at PL;rw [hc];rw [h1,h3] at OF;have H2:Hid (decide (0<L.length)=q2):=h2;clear hc h1 h2 h3 h ht hN hl;cases q1 with
 | false =>
  clear OF;go_enter func13,ntmps13;go_wp2_with fail
  refine PL.mono ?_;rintro e w1 ⟨rfl,hb1⟩;go_wp2;go_ret;exact ⟨by simp,hb1⟩
 | true =>
  cases q2 with
  | false =>
   clear OF;go_enter func13,ntmps13;go_wp2_with fail
   refine PL.mono ?_;rintro e w1 ⟨rfl,hb1⟩;go_wp2;go_ret;exact ⟨by simp,hb1⟩
  | true =>
   have OF1:=λw1 hb=>OF w1 hb (of_decide_eq_true H2.out) rfl
   have HOF:Hid (∀ w1:World,Below w.heap.size w w1->Calls prog 36 #[v] w1 λe w'=>(∃ p,e=.returned (.tuple #[p,.bool q3]))/\Below w1.heap.size w1 w'):=OF1;clear OF OF1;go_enter func13,ntmps13;go_wp2_with fail
   refine PL.mono ?_;rintro e w1 ⟨rfl,hb1⟩;have OF2:=HOF.out w1 hb1;go_wp2_with fail
   refine OF2.mono ?_;rintro e w2 ⟨⟨p,rfl⟩,hb2⟩;have hB:=zAB hb1 hb2;cases q3
   ·go_wp2;go_ret;exact ⟨by simp,hB⟩
   ·go_wp2;go_ret;exact ⟨by simp,hB⟩
theorem zGk (L:List (Wc.In × List Int)) (v:Value) (w:World) (h:RdC w v L) (hl:L.length<=1000000) (ht:∀ x ∈ L,x.2.length<=1000000/\Wt.FitV x.1.v) (hN:NmAt w) :
  CR 13 #[v] w (.int .i64 (if Wc.chkP rgt L=true then 0 else 85)):=zDJ L v w h hl ht hN (λx _=>zJO x)
def RdP (A:List Wpl.Ar) (w:World) (e:Ending) (w':World):Prop:=∃ r,e=.returned r/\RdA w' r A/\(∀ g,r.ownBlock=some g->w.heap.size<=g)
theorem RdP.one {W:World} {x:Wpl.Ar} (hw:w.heap.size<=W.heap.size):RdP [x] w (.returned (.slice (some ⟨W.heap.size,0,none⟩) 1 1)) (W.alloc (.cells (zB3 x).toArray 53)) :=
 ⟨_,rfl,RdA.at0 (A:=[x]) (λj u hu=>(AtL.new0 W 53 (zB3 x)).2.1 j u (by simpa [zBQ] using hu)),λg e=>by
  have e2:W.heap.size=g:=by simpa [Value.ownBlock] using e
  omega⟩
theorem zI9 (x:Wc.In) (tv:Value) (w:World):Calls prog 38 #[.agg (zAD x tv).toArray] w λe w'=>RdP (rdA x) w e w'/\Below w.heap.size w w':=by
 have ON:=zGn x.ce.s x.ce.r x.ce.c;have HON:Hid (∀ w:World,CR 71 #[.agg #[.int .i64 x.ce.s,.int .i64 x.ce.r,.int .i64 x.ce.c]] w (.tuple #[.agg #[.int .i64 (zE6 x.ce.s x.ce.r x.ce.c).s,.int .i64 (zE6 x.ce.s x.ce.r x.ce.c).t,.int .i64 (zE6 x.ce.s x.ce.r x.ce.c).l,.int .i64 (zE6 x.ce.s x.ce.r x.ce.c).b,.int .i64 (zE6 x.ce.s x.ce.r x.ce.c).r],.bool (Wpl.rightC x.ce.s x.ce.r x.ce.c)])):=ON;clear ON;have hb:=zAM (Below.refl _ w) (.cells (zAD x tv).toArray 56);have p:=AtL.new0 w 56 (zAD x tv);have c0:=p.2.1 0 _ rfl;obtain ⟨q,hq⟩:∃ q,rdA x=q:=⟨_,rfl⟩
 have HQ:Hid (rdA x=q):=hq;rw [hq];clear hq;go_enter func38,ntmps38;go_upto_region 1 with fail
 generalize (w.alloc (.cells (zAD x tv).toArray 56))=W at *;have HSW:Hid (w.heap.size<=W.heap.size):=hb.size;by_cases h2:x.op=2
 ·have h2b:(x.op == 2)=true:=by simp [h2]
  have HR:Hid (q=[zE6 x.ce.s x.ce.r x.ce.c]):=by show _=_;rw [<-HQ.out];simp [rdA,h2]
  have c9:=p.2.1 9 _ rfl;have c10:=p.2.1 10 _ rfl;have c11:=p.2.1 11 _ rfl;have ON:=HON.out W;generalize zE6 x.ce.s x.ce.r x.ce.c=V at *;clear p h2 HON HQ;go_wp2_with fail
  refine ON.mono ?_;rintro e w1 ⟨rfl,hb1⟩;have hB1:=zAB hb hb1;have hb2:=zAM (Below.refl _ w1) (.cells (zB3 V).toArray 53);have p2:=AtL.new0 w1 53 (zB3 V);have q0:=p2.2.1 0 _ rfl;have q1:=p2.2.1 1 _ rfl;have q2:=p2.2.1 2 _ rfl;have q3:=p2.2.1 3 _ rfl;have q4:=p2.2.1 4 _ rfl;have hB2:=zAB hB1 hb2;clear p2 hb2 ON hb hb1 c0 c9 c10 c11;go_upto_region 4 with fail
  generalize (w1.alloc (.cells (zB3 V).toArray 53))=W2 at *;have HB3:Hid (Below w.heap.size w (W2.alloc (.cells (zB3 V).toArray 53))):=zAM hB2 _;have HP3:Hid (RdP [V] w (.returned (.slice (some ⟨W2.heap.size,0,none⟩) 1 1)) (W2.alloc (.cells (zB3 V).toArray 53))):=RdP.one hB2.size;clear hB2 hB1;go_wp2;go_ret;exact ⟨by rw [HR.out];exact HP3.out,HB3.out⟩
 ·have h2b:(x.op == 2)=false:=by simp [h2]
  by_cases h8:x.op=8 \/ x.op=11
  ·have HR:Hid (q=[x.ar]):=by show _=_;rw [<-HQ.out];simp [rdA,h2,h8]
   have q0:=p.2.1 12 _ rfl;have q1:=p.2.1 13 _ rfl;have q2:=p.2.1 14 _ rfl;have q3:=p.2.1 15 _ rfl;have q4:=p.2.1 16 _ rfl;have HB3:Hid (Below w.heap.size w (W.alloc (.cells (zB3 x.ar).toArray 53))):=zAM hb _;have HP3:Hid (RdP [x.ar] w (.returned (.slice (some ⟨W.heap.size,0,none⟩) 1 1)) (W.alloc (.cells (zB3 x.ar).toArray 53))):=RdP.one HSW.out;have hc:((x.op == 8)=true) \/ ((x.op == 8)=false/\(x.op == 11)=true):=by
    rcases h8 with h | h
    ·left;simp [h]
    ·right;simp [h]
   clear p h8 h2 HON HQ;rcases hc with e8 | ⟨e8,e11⟩
   ·go_wp2;go_ret;exact ⟨by rw [HR.out];exact HP3.out,HB3.out⟩
   ·go_wp2;go_ret;exact ⟨by rw [HR.out];exact HP3.out,HB3.out⟩
  ·have e8:(x.op == 8)=false:=by simp;omega
   have e11:(x.op == 11)=false:=by simp;omega
   by_cases h9:x.op=9
   ·have HR:Hid (q=[x.ar,x.pr]):=by show _=_;rw [<-HQ.out];simp [rdA,h9]
    have e9:(x.op == 9)=true:=by simp [h9]
    have q0:=p.2.1 12 _ rfl;have q1:=p.2.1 13 _ rfl;have q2:=p.2.1 14 _ rfl;have q3:=p.2.1 15 _ rfl;have q4:=p.2.1 16 _ rfl;have r0:=p.2.1 17 _ rfl;have r1:=p.2.1 18 _ rfl;have r2:=p.2.1 19 _ rfl;have r3:=p.2.1 20 _ rfl;have r4:=p.2.1 21 _ rfl;have HB3:Hid (Below w.heap.size w (W.alloc (.cells (zB3 x.ar++zB3 x.pr).toArray 53))):=zAM hb _;have HP3:Hid (RdP [x.ar,x.pr] w (.returned (.slice (some ⟨W.heap.size,0,none⟩) 2 2)) (W.alloc (.cells (zB3 x.ar++zB3 x.pr).toArray 53))) :=
     ⟨_,rfl,RdA.at0 (A:=[x.ar,x.pr]) (λj u hu=>(AtL.new0 W 53 (zB3 x.ar++zB3 x.pr)).2.1 j u (by simpa [zBQ] using hu)),λg e=>by
      have e2:W.heap.size=g:=by simpa [Value.ownBlock] using e
      have:=HSW.out;omega⟩
    clear p h8 h2 h9 HON HQ;go_wp2;go_ret;exact ⟨by rw [HR.out];exact HP3.out,HB3.out⟩
   ·have HR:Hid (q=[]):=by show _=_;rw [<-HQ.out];simp [rdA,h2,h8,h9]
    have e9:(x.op == 9)=false:=by simp [h9]
    clear p h8 h2 h9 HON HQ;go_wp2;go_ret;exact ⟨by rw [HR.out];exact ⟨_,rfl,RdA.nil _,λg e=>by cases e⟩,hb⟩
def usA (L:List (Wc.In × List Int)):List Wpl.Ar:=if Wc.chkP rgt L=true then ddA [] (zD2 L) else []
theorem zKE (L:List (Wc.In × List Int)) (v:Value) (w:World) (h:RdC w v L) (hl:L.length<=1000000) (ht:∀ x ∈ L,x.2.length<=1000000/\Wt.FitV x.1.v) (hN:NmAt w) (hCR:∀ x ∈ L,zGe x) :
  Calls prog 16 #[v] w λe w'=>(∃ r B,e=.returned r/\OwnA w' B r (usA L)/\w.heap.size<=B)/\Below w.heap.size w w':=by
 have CK:=zDJ L v w h hl ht hN hCR;clear hCR;obtain ⟨a1,c1,rfl,r1⟩:=h;have HR:Hid (RdC w (.slice a1 L.length c1) L):=⟨a1,c1,rfl,r1⟩
 obtain ⟨n,hn⟩:∃ n,L.length=n:=⟨_,rfl⟩
 have HL:Hid (L.length=n):=hn;have HN:Hid (n<=1000000):=by show n<=_;omega
 rw [hn] at CK ⊢;have hmk:∀ w:World,(Instr.makeMap 84 none).run prog w=.ok (.map (some w.heap.size)) (w.alloc (.map #[] 0)):=λw=>by kernel_rfl
 obtain ⟨qc,hqc⟩:∃ b,Wc.chkP rgt L=b:=⟨_,rfl⟩
 have HU:Hid (usA L=if qc=true then ddA [] (zD2 L) else []):=by show _=_;rw [<-hqc];rfl
 rw [hqc] at CK;obtain ⟨us,hus⟩:∃ u,usA L=u:=⟨_,rfl⟩
 rw [hus] at HU ⊢;clear hqc hus r1 hl ht hN hn;cases qc with
 | false =>
  have HE:Hid (us=[]):=HU;go_enter func16,ntmps16;go_wp2_with fail
  refine CK.mono ?_;rintro e w1 ⟨rfl,hb1⟩;go_wp2;go_ret;exact ⟨by rw [HE.out];exact ⟨_,_,rfl,OwnA.nil _ w.heap.size,Nat.le_refl _⟩,hb1⟩
 | true =>
  have HE:Hid (us=ddA [] (zD2 L)):=HU;clear HU;go_enter func16,ntmps16;go_wp2_with fail
  refine CK.mono ?_;rintro e w1 ⟨rfl,hb1⟩;go_upto_region 5 with fail
  have hbm:=zAM (Below.refl _ w1) (.map #[] 0);have HB2:Hid (Below w.heap.size w (w1.alloc (.map #[] 0))):=zAB hb1 hbm;have HM2:Hid (AM (w1.alloc (.map #[] 0)) w1.heap.size []):=⟨#[],zB6 _ _ _ rfl,rfl⟩
  have HMW:Hid (w.heap.size<=w1.heap.size):=hb1.size;have HBS:Hid (w1.heap.size<(w1.alloc (.map #[] 0)).heap.size):=zFj _ _;clear CK hbm hb1 hmk;generalize (w1.alloc (.map #[] 0))=w2 at *;obtain ⟨mb,hmb⟩:∃ k,w1.heap.size=k:=⟨_,rfl⟩
  rw [hmb] at HM2 HMW HBS;simp only [hmb];clear hmb;have HO2:Hid (OwnA w2 w2.heap.size (.slice none 0 0) (ddA [] (zD2 (L.take 0)))):=by show OwnA _ _ _ _;rw [List.take_zero];exact OwnA.nil _ _
  have HM20:Hid (AM w2 mb (ddA [] (zD2 (L.take 0)))):=by show AM _ _ _;rw [List.take_zero];exact HM2.out
  obtain ⟨B,hBB⟩:∃ b,w2.heap.size=b:=⟨_,rfl⟩
  rw [hBB] at HO2 HBS;have HBW:Hid (B<=w2.heap.size/\w.heap.size<=B/\mb<B):=⟨by omega,by have:=HB2.out.size;omega,HBS.out⟩
  clear HM2 hBB HBS;go_wp2_with fail
  go_loopg [3,17] n (λgk u3 u17 wr=>∃ (i:Nat) (lv:Value),lv=u3/\u17=.int .i64 i/\gk=n - i/\i<=n/\Hid (Below w.heap.size w wr)/\Hid (OwnA wr B lv (ddA [] (zD2 (L.take i))))/\Hid (AM wr mb (ddA [] (zD2 (L.take i))))/\Hid (B<=wr.heap.size))
  case atStart=>exact ⟨0,_,rfl,rfl,rfl,Nat.zero_le _,HB2,HO2,HM20,HBW.out.1⟩
  case round =>
   clear HB2 HO2 HM20;obtain ⟨i,lv,rfl,rfl,hg,hi,HB,HO,HM,HBH⟩:=hrel;by_cases hlt:i<n
   ·have hli:(i:Int)<(n:Int):=by omega
    have hiz:(0:Int)<=(i:Int):=by omega
    have hwi:IntKind.i64.wrap ((i:Int)+1)=(i:Int)+1:=by rw [IntKind.wrap_i64];have:=HN.out;omega
    have hil:i<L.length:=by rw [HL.out];exact hlt
    have H0:=HR.out.below HB.out;obtain ⟨q1,d1,e1,f1⟩:=H0;simp only [Value.slice.injEq] at e1;obtain ⟨ex1,ex2,ex3⟩:=e1;obtain ⟨bb,off,p,mm,kk,ee,t1,_,_⟩:=f1 i hil;rw [ee] at ex1;subst ex1;obtain ⟨y,tl,hyt⟩:∃ y tl,L[i]=(y,tl):=⟨_,_,rfl⟩
    rw [hyt] at t1;have HTK:Hid (zD2 (L.take (i+1))=zD2 (L.take i)++rdA y):=by show _=_;rw [zHO hil,hyt]
    have HCL:Hid ((ddA [] (zD2 (L.take i))).length<=2000000):=by show _<=_;have h1:=zEd (zD2 (L.take i)) [];have h2:=zFg (L.take i);have:=HN.out;have:=HL.out;simp at h1 h2;omega
    obtain ⟨cur,hcur⟩:∃ c,(ddA [] (zD2 (L.take i)))=c:=⟨_,rfl⟩
    have HCU:Hid ((ddA [] (zD2 (L.take i)))=cur):=hcur;rw [hcur] at HO HM HCL;have hth:World.there (wr.alloc (.cells zeros23 56)) wr.heap.size 0 (zAD y (.slice p mm kk)).toArray.size:=(AtL.new0 wr _ _:AtL (wr.alloc (.cells zeros23 56)) wr.heap.size zeros23.toList).there;clear f1 hyt ee ex2 ex3 hcur;go_upto_region 8 with (first | (refine zAA (by rfl) 56 (.tmp 19) rfl bb (off+i * 23) rfl (zAD y (.slice p mm kk)) _ t1 underlying56 rfl (by kernel_rfl) ?_) | ((with_reducible refine wpList_store_mid ?_ 56 (.tmp 6) (.tmp 20) ?_ wr.heap.size 0 (zAD y (.slice p mm kk)).toArray ?_ ?_ ?_ ?_ ?_ ?_);rfl;rfl;rfl;rfl;exact hth;kernel_rfl;exact zAj _ _ _ _))
    have pI:AtL ((wr.alloc (.cells zeros23 56)).setCells wr.heap.size 0 (zAD y (.slice p mm kk))) wr.heap.size (zAD y (.slice p mm kk)):=(AtL.new0 wr _ _:AtL (wr.alloc (.cells zeros23 56)) wr.heap.size zeros23.toList).setAll rfl;have hbI:Below wr.heap.size wr ((wr.alloc (.cells zeros23 56)).setCells wr.heap.size 0 (zAD y (.slice p mm kk))):=zAv (zAM (Below.refl _ wr) _) (Nat.le_refl _) _ 0;have HB3:Hid (Below w.heap.size w ((wr.alloc (.cells zeros23 56)).setCells wr.heap.size 0 (zAD y (.slice p mm kk)))):=zAB HB.out hbI;have HM3:Hid (AM ((wr.alloc (.cells zeros23 56)).setCells wr.heap.size 0 (zAD y (.slice p mm kk))) mb cur):=HM.out.below hbI;have HO3:Hid (OwnA ((wr.alloc (.cells zeros23 56)).setCells wr.heap.size 0 (zAD y (.slice p mm kk))) B lv cur):=HO.out.below hbI;have HS3:Hid (B<=((wr.alloc (.cells zeros23 56)).setCells wr.heap.size 0 (zAD y (.slice p mm kk))).heap.size):=Nat.le_trans HBH.out hbI.size;clear hth t1 hbI HM HB HO HBH;generalize ((wr.alloc (.cells zeros23 56)).setCells wr.heap.size 0 (zAD y (.slice p mm kk)))=w3 at *;obtain ⟨X,hX⟩:∃ k,wr.heap.size=k:=⟨_,rfl⟩
    rw [hX] at pI;simp only [hX];clear hX;have rI:=pI.range;have RL:=zI9 y (.slice p mm kk) w3;go_wp2_with (first | (refine zAA (by rfl) 56 (.tmp 6) rfl X 0 rfl (zAD y (.slice p mm kk)) _ rI underlying56 rfl (by kernel_rfl) ?_))
    refine RL.mono ?_;rintro e w4 ⟨⟨r,rfl,hr,hgr⟩,hb4⟩;have HB4:Hid (Below w.heap.size w w4):=zAB HB3.out hb4;have HM4:Hid (AM w4 mb cur):=HM3.out.below hb4;have HO4:Hid (OwnA w4 B lv cur):=HO3.out.below hb4;have HS4:Hid (B<=w4.heap.size):=Nat.le_trans HS3.out hb4.size;have HSP:Hid (∀ g k,r.ownBlock=some g->lv.ownBlock=some k->k ≠ g):=λg k e1 e2=>by have:=hgr g e1;have:=(HO3.out.blk e2).2;omega
    have HMG:Hid (∀ g,r.ownBlock=some g->mb ≠ g):=λg e=>by have:=hgr g e;have:=HM3.out.lt;omega
    obtain ⟨A,hA⟩:∃ A,rdA y=A:=⟨_,rfl⟩
    have HA2:Hid (A.length<=2):=by show _<=_;rw [<-hA];exact zH8 y
    rw [hA] at hr HTK;obtain ⟨m,hm⟩:∃ m,A.length=m:=⟨_,rfl⟩
    have HAM:Hid (A.length=m):=hm;have HRA0:Hid (RdA w4 r A):=hr;obtain ⟨ar,cr,er,_⟩:=hr;rw [hm] at er;subst er;have HRA:Hid (RdA w4 (.slice ar m cr) A):=HRA0.out;have HDD:Hid (ddA cur (A.drop 0)=ddA cur A):=rfl;clear RL rI pI hb4 HB3 HM3 HO3 HS3 HRA0 hA hm hgr;go_wp2_with fail
    go_loopg [3,24] m (λgk u3 u24 wr=>∃ (j:Nat) (lw:Value) (cj:List Wpl.Ar),lw=u3/\u24=.int .i64 j/\gk=m - j/\j<=m/\Hid (Below w.heap.size w wr)/\Hid (OwnA wr B lw cj)/\Hid (AM wr mb cj)/\Hid (B<=wr.heap.size)/\Hid (ddA cj (A.drop j)=ddA cur A)/\Hid (cj.length<=2000000+j)/\Hid (j<m->RdA wr (.slice ar m cr) A/\(j=0->∀ g k,(Value.slice ar m cr).ownBlock=some g->lw.ownBlock=some k->k ≠ g)))
    case atStart=>exact ⟨0,_,cur,rfl,rfl,rfl,Nat.zero_le _,HB4,HO4,HM4,HS4,HDD,HCL,(λ_=>⟨HRA.out,λ_=>HSP.out⟩:0<m->RdA w4 (.slice ar m cr) A/\(0=0->∀ g k,(Value.slice ar m cr).ownBlock=some g->lv.ownBlock=some k->k ≠ g))⟩
    case round =>
     clear HB4 HO4 HM4 HS4 HDD HCL HRA HSP;obtain ⟨j,lw,cj,rfl,rfl,hgj,hj,HB5,HO5,HM5,HS5,HDJ,HCJ,HRJ⟩:=hrel;by_cases hjl:j<m
     ·have hjm:(j:Int)<(m:Int):=by omega
      have hjz:(0:Int)<=(j:Int):=by omega
      have hwj:IntKind.i64.wrap ((j:Int)+1)=(j:Int)+1:=by rw [IntKind.wrap_i64];have:=HA2.out;have:=HAM.out;omega
      have hjA:j<A.length:=by rw [HAM.out];exact hjl
      obtain ⟨hrd,hsep⟩:=HRJ.out hjl;obtain ⟨z,hz⟩:∃ z,A[j]=z:=⟨_,rfl⟩
      have cJ0:∃ bq oq,ar=some ⟨bq,oq,none⟩/\wr.rangeAt bq (oq+j * 5) (zB3 z):=by
       obtain ⟨x1,x2,x3,x4⟩:=hrd;obtain ⟨x5,x6,x7,x8⟩:=x4 j hjA;simp only [Value.slice.injEq] at x3;rw [hz] at x8;exact ⟨x5,x6,by rw [x3.1];exact x7,x8⟩
      have HRD:Hid (RdA wr (.slice ar m cr) A):=hrd;have HSE:Hid (j=0->∀ g k,(Value.slice ar m cr).ownBlock=some g->lw.ownBlock=some k->k ≠ g):=hsep;obtain ⟨bq,oq,rfl,cJ⟩:=cJ0;have HDC:Hid (A.drop j=z::A.drop (j+1)):=by show _=_;rw [List.drop_eq_getElem_cons hjA,hz]
      rw [HDC.out] at HDJ;clear hz hjA hrd hsep HRJ;have q0:wr.cell? ⟨bq,oq+j * 5,none⟩=some (.int .i64 z.s):=by have:=cJ 0 _ rfl;simpa using this
      have q1:=cJ 1 _ rfl;have q2:=cJ 2 _ rfl;have q3:=cJ 3 _ rfl;have q4:=cJ 4 _ rfl;have hb6:=zAM (Below.refl _ wr) (.cells (zB3 z).toArray 53);have p6:=AtL.new0 wr 53 (zB3 z);have HB6:Hid (Below w.heap.size w (wr.alloc (.cells (zB3 z).toArray 53))):=zAB HB5.out hb6;have hm6:AM (wr.alloc (.cells (zB3 z).toArray 53)) mb cj:=HM5.out.below hb6;have HO6:Hid (OwnA (wr.alloc (.cells (zB3 z).toArray 53)) B lw cj):=HO5.out.below hb6;have HS6:Hid (B<=(wr.alloc (.cells (zB3 z).toArray 53)).heap.size):=Nat.le_trans HS5.out hb6.size;have HR6:Hid (RdA (wr.alloc (.cells (zB3 z).toArray 53)) (.slice (some ⟨bq,oq,none⟩) m cr) A):=HRD.out.below hb6;have HAB:Hid (mb<wr.heap.size/\∀ k,lw.ownBlock=some k->k<wr.heap.size):=⟨HM5.out.lt,λk e=>(HO5.out.blk e).2⟩
      clear hb6 cJ HB5 HM5 HO5 HS5 HRD;go_upto_region 11 with fail
      generalize (wr.alloc (.cells (zB3 z).toArray 53))=w6 at *;obtain ⟨AB,hAB⟩:∃ k,wr.heap.size=k:=⟨_,rfl⟩
      rw [hAB] at p6 HAB;simp only [hAB];clear hAB q0 q1 q2 q3 q4;have q0:=p6.2.1 0 _ rfl;have q1:=p6.2.1 1 _ rfl;have q2:=p6.2.1 2 _ rfl;have q3:=p6.2.1 3 _ rfl;have q4:=p6.2.1 4 _ rfl;have hlk:=zOy hm6 z;obtain ⟨qa,hqa⟩:∃ b,cj.any (λy=>zCN y z)=b:=⟨_,rfl⟩
      have HQA:Hid (cj.any (λy=>zCN y z)=qa):=hqa;rw [hqa] at hlk;clear hqa;go_upto_region 12 with fail
      have hb7:=zAM (Below.refl _ w6) (.cells #[] 86);have p7:=AtL.below hb7 p6;have HB7:Hid (Below w.heap.size w (w6.alloc (.cells #[] 86))):=zAB HB6.out hb7;have HM7:Hid (AM (w6.alloc (.cells #[] 86)) mb cj):=hm6.below hb7;have HO7:Hid (OwnA (w6.alloc (.cells #[] 86)) B lw cj):=HO6.out.below hb7;have HS7:Hid (B<=(w6.alloc (.cells #[] 86)).heap.size):=Nat.le_trans HS6.out hb7.size;have HR7:Hid (RdA (w6.alloc (.cells #[] 86)) (.slice (some ⟨bq,oq,none⟩) m cr) A):=HR6.out.below hb7;clear hlk q0 q1 q2 q3 q4 hb7 p6 hm6 HB6 HO6 HS6 HR6;generalize (w6.alloc (.cells #[] 86))=w7 at *;cases qa with
      | true =>
       have HD9:Hid (ddA cj (A.drop (j+1))=ddA cur A):=by show _=_;rw [<-HDJ.out];simp only [ddA,HQA.out,if_true]
       have HC9:Hid (cj.length<=2000000+(j+1)):=by show _<=_;have:=HCJ.out;omega
       have HR9:Hid (j+1<m->RdA w7 (.slice (some ⟨bq,oq,none⟩) m cr) A/\(j+1=0->∀ g k,(Value.slice (some ⟨bq,oq,none⟩) m cr).ownBlock=some g->lw.ownBlock=some k->k ≠ g)):=λ_=>⟨HR7.out,λh=>by omega⟩
       clear HDJ HCJ HR7 p7;go_wp2_with fail
       go_roundg (m - (j+1))
       case rel=>exact ⟨j+1,lw,cj,rfl,by simp,rfl,hjl,HB7,HO7,HM7,HS7,HD9,HC9,HR9⟩
       case measure=>omega
      | false =>
       have q0:=p7.2.1 0 _ rfl;have q1:=p7.2.1 1 _ rfl;have q2:=p7.2.1 2 _ rfl;have q3:=p7.2.1 3 _ rfl;have q4:=p7.2.1 4 _ rfl;go_upto_region 13 with fail
       go_upto_region 14 with (first | (refine zDh rfl (.tmp 35) (.tmp 36) (.tmp 37) rfl mb rfl z rfl rfl cj HM7.out HQA.out ?_;intro w8 am8 hg8))
       have fr8:Fr [mb] w7 w8:=Fr.of_grown hg8 (λk e=>by cases e;simp);have p8:=p7.fr fr8 (by have:=HAB.out;simp;omega);have HB8:Hid (Below w.heap.size w w8):=zAf HB7.out fr8 (λk hk=>by have:=HMW.out;simp at hk;omega);have HO8:Hid (OwnA w8 B lw cj):=zAW fr8 HO7.out (λg e=>by have:=(HO7.out.blk e).1;have:=HBW.out;simp;omega);have HS8:Hid (B<=w8.heap.size):=Nat.le_trans HS7.out fr8.size;have HM8:Hid (AM w8 mb (cj++[z])):=am8;have HR8:Hid (RdA w8 (.slice (some ⟨bq,oq,none⟩) m cr) A):=by
        obtain ⟨x1,x2,x3,x4⟩:=HR7.out;refine ⟨x1,x2,x3,λi hi=>?_⟩;obtain ⟨x5,x6,x7,x8⟩:=x4 i hi;refine ⟨x5,x6,x7,fr8.range x8 ?_⟩;simp only [Value.slice.injEq] at x3;have:=HMG.out x5 (by rw [x3.1,x7];rfl);simp;omega
       clear q0 q1 q2 q3 q4 p7 HM7 HB7 HO7 HS7 HR7 fr8 hg8 am8;have q0:=p8.2.1 0 _ rfl;have q1:=p8.2.1 1 _ rfl;have q2:=p8.2.1 2 _ rfl;have q3:=p8.2.1 3 _ rfl;have q4:=p8.2.1 4 _ rfl;have hb9:=zAM (Below.refl _ w8) (.cells (zB3 z).toArray 53);have HPA:Hid (AtL (w8.alloc (.cells (zB3 z).toArray 53)) w8.heap.size (zBQ [z])):=AtL.new0 w8 53 (zBQ [z]);have HB9:Hid (Below w.heap.size w (w8.alloc (.cells (zB3 z).toArray 53))):=zAB HB8.out hb9;have HO9:Hid (OwnA (w8.alloc (.cells (zB3 z).toArray 53)) B lw cj):=HO8.out.below hb9;have HM9:Hid (AM (w8.alloc (.cells (zB3 z).toArray 53)) mb (cj++[z])):=HM8.out.below hb9;have HS9:Hid (B<=(w8.alloc (.cells (zB3 z).toArray 53)).heap.size):=Nat.le_trans HS8.out hb9.size;have HR9:Hid (RdA (w8.alloc (.cells (zB3 z).toArray 53)) (.slice (some ⟨bq,oq,none⟩) m cr) A):=HR8.out.below hb9;clear p8 HB8 HO8 HM8 HS8 HR8 hb9;go_wp2_with (first | (refine zDl rfl (.tmp 38) (.tmp 40) rfl (w8.alloc (.cells (zB3 z).toArray 53)) B HS9.out lw cj rfl HO9.out w8.heap.size 1 [z] rfl rfl HPA.out (by have:=HCJ.out;have:=HA2.out;have:=HAM.out;simp;omega) ?_;intro v9 w9 own9 hg9))
       have fr9:Fr lw.ownBlock.toList (w8.alloc (.cells (zB3 z).toArray 53)) w9:=Fr.of_grown hg9 (λk e=>by simp [e]);have HBZ:Hid (Below w.heap.size w w9):=zAf HB9.out fr9 (λk hk=>by have:=(HO9.out.blk (g:=k) (by simpa using hk)).1;have:=HBW.out;omega);have HMZ:Hid (AM w9 mb (cj++[z])):=HM9.out.fr fr9 (λe=>by have:=(HO9.out.blk (g:=mb) (by simpa using e)).1;have:=HBW.out;omega);have HOZ:Hid (OwnA w9 B v9 (cj++[z])):=own9;have HSZ:Hid (B<=w9.heap.size):=Nat.le_trans HS9.out fr9.size;have HDZ:Hid (ddA (cj++[z]) (A.drop (j+1))=ddA cur A):=by show _=_;rw [<-HDJ.out];simp [ddA,HQA.out]
       have HCZ:Hid ((cj++[z]).length<=2000000+(j+1)):=by show _<=_;have:=HCJ.out;simp;omega
       have HRZ:Hid (j+1<m->RdA w9 (.slice (some ⟨bq,oq,none⟩) m cr) A/\(j+1=0->∀ g k,(Value.slice (some ⟨bq,oq,none⟩) m cr).ownBlock=some g->v9.ownBlock=some k->k ≠ g)):=by
        intro hj1;have hj0:j=0:=by have:=HA2.out;have:=HAM.out;omega
        refine ⟨?_,λh=>by omega⟩;obtain ⟨x1,x2,x3,x4⟩:=HR9.out;refine ⟨x1,x2,x3,λi hi=>?_⟩;obtain ⟨x5,x6,x7,x8⟩:=x4 i hi;refine ⟨x5,x6,x7,fr9.range x8 (λe=>?_)⟩;simp only [Value.slice.injEq] at x3;exact HSE.out hj0 x5 x5 (by rw [x3.1,x7];rfl) (by simpa using e) rfl
       clear own9 hg9 fr9 q0 q1 q2 q3 q4 HPA HB9 HO9 HM9 HS9 HR9 HDJ HCJ HQA;go_roundg (m - (j+1))
       case rel=>exact ⟨j+1,v9,cj++[z],rfl,by simp,rfl,hjl,HBZ,HOZ,HMZ,HSZ,HDZ,HCZ,HRZ⟩
       case measure=>omega
     ·have hjm:¬ (j:Int)<(m:Int):=by omega
      have hje:j=m:=by omega
      have HCE:Hid (cj=ddA [] (zD2 (L.take (i+1)))):=by
       show _=_
       have e:A.drop j=[]:=List.drop_eq_nil_of_le (by rw [HAM.out];omega);have:=HDJ.out;rw [e] at this;rw [HTK.out,zMw,HCU.out,<-this];rfl
      rw [HCE.out] at HO5 HM5;clear HRJ HDJ HCJ hje;go_wp2_with fail
      go_roundg (n - (i+1))
      case rel=>exact ⟨i+1,lw,rfl,by simp,rfl,hlt,HB5,HO5,HM5,HS5⟩
      case measure=>omega
   ·have hli:¬ (i:Int)<(n:Int):=by omega
    have HTT:Hid (L.take i=L):=List.take_of_length_le (by rw [HL.out];omega);rw [HTT.out,<-HE.out] at HO;go_wp2;go_ret;exact ⟨⟨_,rfl,_,HO.out,HBW.out.2.1⟩,HB.out⟩
theorem zJj (L:List (Wc.In × List Int)) (v:Value) (w:World) (h:RdC w v L) (hl:L.length<=1000000) (ht:∀ x ∈ L,x.2.length<=1000000/\Wt.FitV x.1.v) (hN:NmAt w) :
  Calls prog 16 #[v] w λe w'=>(∃ r B,e=.returned r/\OwnA w' B r (usA L)/\w.heap.size<=B)/\Below w.heap.size w w':=zKE L v w h hl ht hN (λx _=>zJO x)
theorem zER:∀ (A:List (Wc.In × Value)) (i j:Nat) (h:i<A.length),j<23->(zAc A)[i * 23+j]? = (zAD (A[i]).1 (A[i]).2)[j]?
 | x::r,0,j,_,hj=>by
  show (zAD x.1 x.2++zAc r)[0 * 23+j]? = _
  rw [List.getElem?_append_left (by simp [zAD];omega)];simp
 | x::r,i+1,j,h,hj=>by
  have ih:=zER r i j (by simpa using h) hj;show (zAD x.1 x.2++zAc r)[(i+1) * 23+j]? = _
  rw [List.getElem?_append_right (by simp [zAD];omega)];have e:(i+1) * 23+j - (zAD x.1 x.2).length=i * 23+j:=by simp [zAD];omega
  rw [e,ih];rfl
theorem OwnI.cell {G cap:Nat} {A:List (Wc.In × Value)} (h:OwnI w B (.slice (some ⟨G,0,none⟩) n cap) A) {i:Nat} (hi:i<A.length):w.rangeAt G (i * 23) (zAD (A[i]).1 (A[i]).2):=by
 intro j v hv;have hj:j<23:=by
  rcases Nat.lt_or_ge j 23 with q | q
  ·exact q
  ·rw [List.getElem?_eq_none (by simp [zAD];omega)] at hv;cases hv
 have hc:=h.cells (g:=G) rfl (i * 23+j) v (by rw [zER A i j hi hj];exact hv);rwa [show (⟨G,0,none⟩:Addr).add (i * 23+j)=⟨G,i * 23+j,none⟩ from by
  simp [Addr.add];try (intro h0;omega)] at hc
open Go.RowKit Wf
theorem zHC {P:List (Wc.In × Value)} {C:List I} (h:OwnI w B lv P) (hl:P.length=C.length) (hi:∀ i (h:i<P.length) (h':i<C.length),(P[i]).1=(C[i]).1/\OwnZ w B (P[i]).2 (C[i]).2):RdC w lv C:=by
 rcases h.2 with ⟨e,h0⟩ | ⟨G,cap,cur,e,hb,hg,r⟩
 ·subst e;refine ⟨none,0,by rw [<-hl,h0],λi hi=>?_⟩;omega
 ·subst e;refine ⟨some ⟨G,0,none⟩,cap,by rw [<-hl],λi hi2=>?_⟩;have hi3:i<P.length:=by omega
  have c:=OwnI.cell h (i:=i) hi3;obtain ⟨q1,q2⟩:=hi i hi3 hi2;have rz:=q2.rd;rcases q2.2 with ⟨e2,h2⟩ | ⟨G2,cap2,cur2,e2,_⟩
  ·rw [q1,e2] at c;rw [e2] at rz;exact ⟨G,0,none,0,0,rfl,by rw [Nat.zero_add];exact c,rz,λ_=>rfl⟩
  ·rw [q1,e2] at c;rw [e2] at rz;exact ⟨G,0,_,_,_,rfl,by rw [Nat.zero_add];exact c,rz,λh=>by cases h⟩
