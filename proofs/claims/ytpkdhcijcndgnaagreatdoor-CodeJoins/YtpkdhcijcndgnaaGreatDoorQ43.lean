/- KBnd, KNames. -/
import Derived.Test.YtpkdhcijcndgnaaGreatDoorQ42
set_option maxHeartbeats 4000000
set_option maxRecDepth 100000
namespace Go.Proofs.YtpkdhcijcndgnaaGreatDoor
open Tryz
open Go.RowKit
set_option linter.unusedVariables false
variable {w:World} {n ab:Nat} {D:BD}
theorem zPL:(prog.info? 89).map (λi=>(i.zero,i.size,i.bytes))=some (some (.agg #[.int .i64 0,.int .i64 0]),2,16):=by kernel_rfl
theorem zSC (n j:Nat) (hj:j<n):(madeCells (Value.agg #[.int .i64 0,.int .i64 0]).cells (n * 2)).toList[j * 2]? = some (.int .i64 0)/\(madeCells (Value.agg #[.int .i64 0,.int .i64 0]).cells (n * 2)).toList[j * 2+1]? = some (.int .i64 0):=by
 have e0:j * 2 % 2=0:=by omega
 have e1:(j * 2+1) % 2=1:=by omega
 refine ⟨?_,?_⟩
 ·simp [madeCells,Value.cells,show j * 2<n * 2 by omega,e0]
 ·simp [madeCells,Value.cells,show j * 2+1<n * 2 by omega,e1]
structure AtW (w:World) (ab n:Nat) (D:BD):Prop where
 rd:AtD w ab n D
 fz:∀ o:Nat,w.frozen? ⟨ab,o,none⟩=false
 lt:ab<w.heap.size
theorem AtW.below {w':World} (h:AtW w ab n D) (hb:Below w.heap.size w w'):AtW w' ab n D:=⟨h.rd.below hb,λo=>by rw [(Fr.of_below [] hb).frozen h.lt (by simp)];exact h.fz o,Nat.lt_of_lt_of_le h.lt hb.size⟩
theorem zOt {i:Nat} (hi:i<D.length) (b:Int × Int) (j:Nat):bat (D.set i b) (j:Int)=if i=j then b else bat D (j:Int):=by
 unfold bat;simp only [Int.toNat_natCast,List.getD_eq_getElem?_getD,List.getElem?_set];by_cases h:i=j
 ·subst h;simp [hi]
 ·simp [h]
theorem AtW.set (h:AtW w ab n D) {i:Nat} (hi:i<n) (b:Int × Int):AtW ((w.setCell ⟨ab,i * 2,none⟩ (.int .i64 b.1)).setCell ⟨ab,i * 2+1,none⟩ (.int .i64 b.2)) ab n (D.set i b):=by
 have fr:Fr [ab] w ((w.setCell ⟨ab,i * 2,none⟩ (.int .i64 b.1)).setCell ⟨ab,i * 2+1,none⟩ (.int .i64 b.2)):=fr_one.trans fr_one;refine ⟨⟨by rw [List.length_set];exact h.rd.len,λj hj=>?_⟩,λo=>by rw [World.frozen?_setCell,World.frozen?_setCell];exact h.fz o,Nat.lt_of_lt_of_le h.lt fr.size⟩;obtain ⟨c0,c1⟩:=h.rd.at' j hj;rw [zOt (by rw [h.rd.len];exact hi)];by_cases e:i=j
 ·subst e;rw [if_pos rfl];refine ⟨?_,?_⟩
  ·rw [zAQ _ _ _ (by omega)];exact zAZ c0 _
  ·exact zAZ (by rw [zAQ _ _ _ (by omega)];exact c1) _
 ·rw [if_neg e];refine ⟨?_,?_⟩
  ·rw [zAQ _ _ _ (by omega),zAQ _ _ _ (by omega)];exact c0
  ·rw [zAQ _ _ _ (by omega),zAQ _ _ _ (by omega)];exact c1
theorem zPQ (n:Nat) (j:Int):bat (List.replicate n (0,0)) j=(0,0):=by
 unfold bat;simp only [List.getD_eq_getElem?_getD,List.getElem?_replicate];split <;> rfl
theorem zT1 {w2:World} (hk:w.heap.size<w2.heap.size) (own2:w2.ownsRow w.heap.size 89 2 (.slice (some ⟨w.heap.size,0,none⟩) n n) n (madeCells (Value.agg #[.int .i64 0,.int .i64 0]).cells (n * 2)).toList):AtW w2 w.heap.size n (List.replicate n (0,0)):=by
 have hcl:=own2.cells (g:=w.heap.size) rfl;have hcl2:∀ (j:Nat) (u:Value),(madeCells (Value.agg #[.int .i64 0,.int .i64 0]).cells (n * 2)).toList[j]? = some u->w2.cell? ⟨w.heap.size,j,none⟩=some u:=by
  intro j u hu;have:=hcl j u hu;rwa [show (⟨w.heap.size,0,none⟩:Addr).add j=⟨w.heap.size,j,none⟩ from by simp [Addr.add];intro h;exact h.symm] at this
 refine ⟨⟨by simp,λj hj=>?_⟩,λi=>?_,hk⟩
 ·obtain ⟨d0,d1⟩:=zSC n j hj;rw [zPQ];exact ⟨hcl2 _ _ d0,hcl2 _ _ d1⟩
 ·rcases own2.2 with ⟨e,_⟩ | ⟨g,cap',cur,e,_,hg,_,_,hs,_⟩
  ·cases e
  ·simp only [Value.slice.injEq,Option.some.injEq,Addr.mk.injEq] at e;obtain ⟨⟨e1,-,-⟩,-,-⟩:=e;rw [<-e1] at hg;simp [World.frozen?,hg]
theorem zLv (L:List (Wc.In × List Int)) {n i:Nat} (hn:L.length=n) (hi:i<n):bkL (stA L) n (n - i)=(bkL (stA L) n (n - (i+1))).set i (zCh (L[i]'(by omega)).1 ((onw (L[i]'(by omega)).1.op (L[i]'(by omega)).1.a (L[i]'(by omega)).1.b (L[i]'(by omega)).2 i).1++(onw (L[i]'(by omega)).1.op (L[i]'(by omega)).1.a (L[i]'(by omega)).1.b (L[i]'(by omega)).2 i).2) (bkL (stA L) n (n - (i+1)))):=by
 rw [zQP,<-zDm (by omega:i<L.length)];have e:n - i=(n - (i+1))+1:=by omega
 rw [e];have e2:n - 1 - (n - (i+1))=i:=by omega
 show (bkL (stA L) n (n - (i+1))).set (n - 1 - (n - (i+1))) (stA L (n - 1 - (n - (i+1))) (bkL (stA L) n (n - (i+1))))=_
 rw [e2]
theorem zHX (L:List (Wc.In × List Int)) (v:Value) (w:World) (h:RdC w v L) (hl:L.length<=1000000) (ht:∀ x ∈ L,x.2.length<=1000000/\Wt.FitV x.1.v) (hN:NmAt w) :
  CR 16 #[v] w (.tuple #[.int .i64 (zB3 L).1,.int .i64 (zB3 L).2]):=by
 have CK:=zC5 L v w h hl ht hN;have hbn:zB3 L=if Wc.chkP rgt L=true then bat (bkL (stA L) L.length L.length) 0 else (0,0):=rfl
 have hpl:Wc.chkP rgt L=true->Wc.plcs rgt L.length 0 L=true/\0<L.length:=λq=>by
  unfold Wc.chkP at q;simp only [Bool.and_eq_true,decide_eq_true_eq] at q;exact ⟨q.1,q.2.1⟩
 obtain ⟨B,hB⟩:∃ B,zB3 L=B:=⟨_,rfl⟩
 rw [hB] at hbn ⊢;clear hB;obtain ⟨a1,c1,rfl,r1⟩:=h;have HR:Hid (RdC w (.slice a1 L.length c1) L):=⟨a1,c1,rfl,r1⟩
 have HT:Hid (∀ x ∈ L,x.2.length<=1000000):=λx hx=>(ht x hx).1
 clear r1 ht hN;cases hq:Wc.chkP rgt L with
 | false =>
  rw [hq] at CK hbn;simp only [Bool.false_eq_true,if_false] at CK hbn;subst hbn;have HCK:Hid (CR 17 #[.slice a1 L.length c1] w (.int .i64 85)):=CK;clear CK hpl HR HT hq;go_enter func16,ntmps16;go_wp2_with fail
  refine HCK.out.mono ?_;rintro e w1 ⟨rfl,hb1⟩;go_wp2;go_ret2
  exact ⟨rfl,hb1⟩
 | true =>
  obtain ⟨hp,h0⟩:=hpl hq;rw [hq] at CK hbn;simp only [if_true] at CK hbn;have HPL:Hid (∀ (k:Nat) (hk:k<L.length),Wc.plc rgt L.length k (L[k])=true):=λk hk=>by have:=(Wc.plcs_iff rgt L.length L 0).1 hp k hk;rwa [Nat.zero_add] at this
  have HCK:Hid (CR 17 #[.slice a1 L.length c1] w (.int .i64 0)):=CK;clear CK hpl hp hq;obtain ⟨n,hn⟩:∃ n,L.length=n:=⟨_,rfl⟩
  have HL:Hid (L.length=n):=hn;rw [hn] at hl h0 HR HCK hbn ⊢;have HBN:Hid (B=bat (bkL (stA L) n n) ((0:Nat):Int)):=hbn;have HN:Hid (0<n/\n<=1000000):=⟨h0,hl⟩
  obtain ⟨i0,hi0,hz0,hz1,hz2⟩:=info_parts zPL;have hw0:IntKind.i64.wrap ((n:Int) - 1)=(n:Int) - 1:=by rw [IntKind.wrap_i64];omega
  clear hn hbn;go_enter func16,ntmps16;go_wp2_with fail
  refine HCK.out.mono ?_;rintro e w1 ⟨rfl,hb1⟩;go_upto_region 4 with (refine wpList_make_full w1 rfl (.tmp 10) (.tmp 10) 87 rfl w1.heap.size 89 i0 _ 2 underlying87 hi0 hz0 hz1 .i64 .i64 _ _ n rfl rfl rfl rfl (by rw [hz2];omega) (by unfold maxLen;omega) (Nat.le_refl _) ?_;intro w2 own2 hg2)
  have hbg:Below w1.heap.size w1 w2:=⟨hg2.os,hg2.tape,hg2.output,hg2.size,λk hk=>hg2.block k hk (by simp)⟩
  have hk2:w1.heap.size<w2.heap.size:=(zAK own2 (g:=w1.heap.size) rfl).2;have HW0:Hid (AtW w2 w1.heap.size n (bkL (stA L) n 0)):=zT1 hk2 own2;have HB0:Hid (Below w.heap.size w w2):=zAB hb1 hbg;have HAB:Hid (w.heap.size<=w1.heap.size):=hb1.size;clear hbg hk2 own2 hg2 hi0 hz0 hz1 hz2 i0 hb1 HCK;obtain ⟨ab,hab⟩:∃ b,w1.heap.size=b:=⟨_,rfl⟩
  rw [hab] at HW0 HAB;simp only [hab];clear hab;go_wp2_with fail
  go_loopg [5] n (λgk u wr=>∃ (d:Nat) (z:Int),u=.int .i64 z/\z+1=(d:Int)/\gk=d/\d<=n/\Hid (AtW wr ab n (bkL (stA L) n (n - d)))/\Hid (Below w.heap.size w wr))
  case atStart=>exact ⟨n,(n:Int) - 1,rfl,by omega,rfl,Nat.le_refl _,by rw [Nat.sub_self];exact HW0,HB0⟩
  case round =>
   clear HW0 HB0 hw0;obtain ⟨d,z,rfl,hz,hg,hd,HW,HB⟩:=hrel;cases d with
   | zero =>
    obtain rfl:z = -1:=by simp at hz;omega
    have hn0:(0:Int)<(n:Int):=by have:=HN.out;omega
    have hnz:¬ ((n:Int)=0):=by omega
    go_upto_region 8 with fail
    have rb:=(Below.refl wr.heap.size wr).drew;have W1:=HW.out.below rb;have HB1:Hid (Below w.heap.size w wr.drew):=zAB HB.out rb;obtain ⟨s0,s1⟩:=W1.rd.at' 0 HN.out.1;rw [Nat.sub_zero,<-HBN.out] at s0 s1;rw [Nat.zero_mul] at s0 s1;rw [Nat.zero_add] at s1;clear rb HW HB W1;refine wp_region_held_drew (S:=λW=>W.cell? ⟨ab,0,none⟩=some (.int .i64 B.1)/\W.cell? ⟨ab,1,none⟩=some (.int .i64 B.2)) (by kernel_rfl) ⟨s0,s1⟩ (λhHeld=>?_);generalize wr.drew=WD at *;refine tkQ 0 ⟨some 29,.move (.tmp 4),87,"code.go:93",#[],none⟩ ?_
    refine tkQ 1 ⟨some 30,.indexAddr 87 (.tmp 29) (Operand.const (Value.int IntKind.i64 0)),0,"code.go:93",#[⟨0,.data⟩],none⟩ ?_
    refine tkQ 2 ⟨some 31,.fieldAddr 89 (.tmp 30) 0,0,"code.go:93",#[⟨1,.data⟩],none⟩ ?_
    refine tkQ 3 ⟨some 32,.load 3 (.tmp 31),3,"code.go:93",#[⟨2,.data⟩],none⟩ ?_
    refine tkQ 4 ⟨some 33,.move (.tmp 4),87,"code.go:93",#[⟨8,.gcOnly .lateStores⟩],none⟩ ?_
    refine tkQ 5 ⟨some 34,.indexAddr 87 (.tmp 33) (Operand.const (Value.int IntKind.i64 0)),0,"code.go:93",#[⟨4,.data⟩,⟨8,.gcOnly .lateStores⟩],none⟩ ?_
    refine tkQ 6 ⟨some 35,.fieldAddr 89 (.tmp 34) 1,0,"code.go:93",#[⟨5,.data⟩,⟨8,.gcOnly .lateStores⟩],none⟩ ?_
    refine tkQ 7 ⟨some 36,.load 3 (.tmp 35),3,"code.go:93",#[⟨6,.data⟩,⟨8,.gcOnly .lateStores⟩],none⟩ ?_
    refine rdQ 8 ⟨some 2,.assign (.tmp 32),3,"code.go:93",#[⟨3,.data⟩,⟨0,.phase⟩,⟨1,.phase⟩,⟨2,.phase⟩,⟨3,.phase⟩,⟨4,.textOnly .lateStores⟩,⟨5,.textOnly .lateStores⟩,⟨6,.textOnly .lateStores⟩,⟨7,.textOnly .lateStores⟩],none⟩ (λK hK=>?_);go_simp
    refine hkQ hK ⟨s0,s1⟩ (λhHeld=>?_);clear hK K
    refine rdQ 9 ⟨some 3,.assign (.tmp 36),3,"code.go:93",#[⟨7,.data⟩,⟨8,.chain⟩,⟨0,.phase⟩,⟨1,.phase⟩,⟨2,.phase⟩,⟨3,.phase⟩,⟨4,.phase⟩,⟨5,.phase⟩,⟨6,.phase⟩,⟨7,.phase⟩,⟨8,.phase⟩],none⟩ (λK hK=>?_);go_simp
    refine hkQ hK ⟨s0,s1⟩ (λhHeld=>?_);clear hK K
    refine wpAnyH_done (by kernel_rfl) ?_ _;clear hHeld s0 s1;go_wp2;go_ret2
    exact ⟨rfl,HB1.out⟩
   | succ i =>
    obtain rfl:z=(i:Int):=by omega
    have hiz:(0:Int)<=(i:Int):=by omega
    have hin:(i:Int)<(n:Int):=by omega
    have hwi:IntKind.i64.wrap ((i:Int) - 1)=(i:Int) - 1:=by rw [IntKind.wrap_i64];have:=HN.out;omega
    have hil:i<L.length:=by rw [HL.out];omega
    have H0:=HR.out.below HB.out;obtain ⟨q1,d1,e1,f1⟩:=H0;simp only [Value.slice.injEq] at e1;obtain ⟨ex1,ex2,ex3⟩:=e1;obtain ⟨bb,off,p,mm,kk,ee,t1,t2,t3⟩:=f1 i hil;rw [ee] at ex1;subst ex1;have HNX:=zLv L HL.out (by omega:i<n);have HPI:=(Wc.plc_iff rgt L.length i (L[i])).1 (HPL.out i hil);have HTI:=HT.out (L[i]) (List.getElem_mem hil);obtain ⟨y,tl,hyt⟩:∃ y tl,L[i]=(y,tl):=⟨_,_,rfl⟩
    simp only [hyt] at t1 t2 HNX HPI HTI;obtain ⟨D,hD⟩:∃ D,bkL (stA L) n (n - (i+1))=D:=⟨_,rfl⟩
    have HIV:=zF5 L HL.out (n - (i+1)) (by omega);rw [hD] at HW HNX HIV;have FR:=zM2 y p mm kk tl i n ab (n - (i+1)) D wr t2 (λl c e=>by cases e;exact t3 rfl) HTI (by have:=HN.out;omega) HW.out.rd HIV (by have:=HN.out;omega) (λj hj=>by
     have:=HL.out;rcases List.mem_append.1 hj with hj | hj
     ·have:=HPI.2.2.1 j hj;omega
     ·have:=HPI.2.2.2 j hj;omega)
    obtain ⟨sv,hsv⟩:∃ s,zCh y ((onw y.op y.a y.b tl i).1++(onw y.op y.a y.b tl i).2) D=s:=⟨_,rfl⟩
    rw [hsv] at FR HNX;have HFR:Hid (Calls prog 31 #[.agg (zAD y (.slice p mm kk)).toArray,.int .i64 (i:Int),.slice (some ⟨ab,0,none⟩) n n] wr λe w'=>e=.returned (.agg #[.int .i64 sv.1,.int .i64 sv.2])/\Below wr.heap.size wr w'):=FR;have HNX2:Hid (bkL (stA L) n (n - i)=D.set i sv):=HNX;clear FR HNX HPI HTI hyt hD HIV hsv t2 t3 f1 ee ex2 ex3;go_wp2_with (first | (refine zAA (by rfl) 48 (.tmp 23) rfl bb (off+i * 23) rfl (zAD y (.slice p mm kk)) _ t1 underlying48 rfl (by kernel_rfl) ?_))
    refine HFR.out.mono ?_;rintro e w6 ⟨rfl,hb6⟩;have W6:=HW.out.below hb6;have HB6:Hid (Below w.heap.size w w6):=zAB HB.out hb6;obtain ⟨k0,k1⟩:=W6.rd.at' i (by omega);have z0:=W6.fz (i * 2);have z1:=W6.fz (i * 2+1);have HW7:Hid (AtW ((w6.setCell ⟨ab,i * 2,none⟩ (.int .i64 sv.1)).setCell ⟨ab,i * 2+1,none⟩ (.int .i64 sv.2)) ab n (bkL (stA L) n (n - i))):=by rw [HNX2.out];exact W6.set (by omega) sv
    have HB7:Hid (Below w.heap.size w ((w6.setCell ⟨ab,i * 2,none⟩ (.int .i64 sv.1)).setCell ⟨ab,i * 2+1,none⟩ (.int .i64 sv.2))):=zAW HB6.out (fr_one.trans fr_one:Fr [ab] _ _) (λk hk=>by simp at hk;have:=HAB.out;omega);clear HFR HW HB W6 hb6 t1 HNX2 HB6;go_wp2_with fail
    go_roundg i
    case rel=>exact ⟨i,(i:Int) - 1,by simp,by omega,rfl,by omega,HW7,HB7⟩
    case measure=>omega
open Go.RowKit Wf
def NaP (m:Nat) (w:World) (e:Ending) (w':World):Prop:=(∃ b,e=.returned (.bool b)/\(b=false->m<=20000))/\Below w.heap.size w w'
theorem zJH (nm:List ByteArray) (av:Option Addr) (m cap:Nat) (w:World) (hm:m=nm.length) (hl:nm.length<=9223372036854775807) (hR:RdS w av nm):Calls prog 10 #[.slice av m cap] w (NaP m w):=by
 have HM:Hid (m=nm.length/\nm.length<=9223372036854775807):=⟨hm,hl⟩
 have HR:Hid (RdS w av nm):=hR;clear hm hl hR;go_enter func10,ntmps10;go_wp2_with fail
 go_loopg [3,4] m (λgk u x wr=>∃ (i:Nat) (T:Int),u=.int .i64 T/\x=.int .i64 (i:Int)/\gk=m - i/\i<=m/\Hid (20000<m->T=(m:Int))/\w=wr)
 case atStart=>exact ⟨0,(m:Int),rfl,rfl,rfl,Nat.zero_le _,(λ_=>rfl:20000<m->(m:Int)=(m:Int)),rfl⟩
 case round =>
  obtain ⟨i,T,rfl,rfl,hg,hi,HQ,rfl⟩:=hrel;by_cases hlt:i<m
  ·have hli:(i:Int)<(m:Int):=by omega
   by_cases hT:T<=20000
   ·have hiz:(0:Int)<=(i:Int):=by omega
    have hwi:IntKind.i64.wrap ((i:Int)+1)=(i:Int)+1:=by have:=HM.out;rw [IntKind.wrap_i64];omega
    have hln:i<nm.length:=by have:=HM.out;omega
    obtain ⟨bb,off,rfl,hc⟩:=HR.out i hln;obtain ⟨x,hx⟩:∃ x,nm[i]=x:=⟨_,rfl⟩
    rw [hx] at hc;have HQ2:Hid (¬ 20000<m):=λh=>by have:=HQ.out h;omega
    clear hx hln HQ;go_wp2;go_roundg (m - (i+1))
    case rel=>exact ⟨i+1,_,rfl,by simp,rfl,hlt,(λh=>absurd h HQ2.out:20000<m->_),rfl⟩
    case measure=>omega
   ·have hT2:20000<T:=by omega
    clear HQ;go_wp2;go_ret;exact ⟨⟨true,rfl,λh=>by cases h⟩,Below.refl _ _⟩
  ·have hli:¬ (i:Int)<(m:Int):=by omega
   have HT:Hid (¬ 20000<T->m<=20000):=λh=>by
    rcases Nat.lt_or_ge 20000 m with q | q
    ·have:=HQ.out q;omega
    ·exact q
   clear HQ;by_cases hT:20000<T
   ·go_wp2;go_ret;exact ⟨⟨true,rfl,λh=>by cases h⟩,Below.refl _ _⟩
   ·go_wp2;go_ret;exact ⟨⟨false,rfl,λ_=>HT.out (by omega)⟩,Below.refl _ _⟩
