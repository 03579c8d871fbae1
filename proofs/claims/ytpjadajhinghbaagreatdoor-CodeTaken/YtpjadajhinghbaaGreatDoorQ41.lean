/- KBnd, KBndQ, KNames. -/
import Derived.Test.YtpjadajhinghbaaGreatDoorQ40
set_option maxHeartbeats 4000000
set_option maxRecDepth 100000
namespace Go.Proofs.YtpjadajhinghbaaGreatDoor
open Tryz
open Go.RowKit
set_option linter.unusedVariables false
variable {D:BD} {w:World} {n ab i:Nat} {L:List (Wc.In × List Int)} {tl:List Int} {x:Wc.In} {b:Int}
theorem zOU:(prog.info? 89).map (λi=>(i.zero,i.size,i.bytes))=some (some (.agg #[.int .i64 0,.int .i64 0]),2,16):=by kernel_rfl
theorem zQ3 (n j:Nat) (hj:j<n):(madeCells (Value.agg #[.int .i64 0,.int .i64 0]).cells (n * 2)).toList[j * 2]? = some (.int .i64 0)/\(madeCells (Value.agg #[.int .i64 0,.int .i64 0]).cells (n * 2)).toList[j * 2+1]? = some (.int .i64 0):=by
 have e0:j * 2 % 2=0:=by omega
 have e1:(j * 2+1) % 2=1:=by omega
 refine ⟨?_,?_⟩
 ·simp [madeCells,Value.cells,show j * 2<n * 2 by omega,e0]
 ·simp [madeCells,Value.cells,show j * 2+1<n * 2 by omega,e1]
structure AtW (w:World) (ab n:Nat) (D:BD):Prop where
 rd:AtD w ab n D
 fz:∀ o:Nat,w.frozen? ⟨ab,o,none⟩=false
 lt:ab<w.heap.size
theorem AtW.below {w':World} (h:AtW w ab n D) (hb:Below w.heap.size w w'):AtW w' ab n D:=⟨h.rd.below hb,λo=>by rw [(Fr.of_below [] hb).frozen h.lt (by simp)];exact h.fz o,Nat.lt_of_lt_of_le h.lt hb.size⟩
theorem zND (hi:i<D.length) (b:Int × Int) (j:Nat):bat (D.set i b) (j:Int)=if i=j then b else bat D (j:Int):=by
 unfold bat;simp only [Int.toNat_natCast,List.getD_eq_getElem?_getD,List.getElem?_set];by_cases h:i=j
 ·subst h;simp [hi]
 ·simp [h]
theorem AtW.set (h:AtW w ab n D) {i:Nat} (hi:i<n) (b:Int × Int):AtW ((w.setCell ⟨ab,i * 2,none⟩ (.int .i64 b.1)).setCell ⟨ab,i * 2+1,none⟩ (.int .i64 b.2)) ab n (D.set i b):=by
 have fr:Fr [ab] w ((w.setCell ⟨ab,i * 2,none⟩ (.int .i64 b.1)).setCell ⟨ab,i * 2+1,none⟩ (.int .i64 b.2)):=fr_one.trans fr_one;refine ⟨⟨by rw [List.length_set];exact h.rd.len,λj hj=>?_⟩,λo=>by rw [World.frozen?_setCell,World.frozen?_setCell];exact h.fz o,Nat.lt_of_lt_of_le h.lt fr.size⟩;obtain ⟨c0,c1⟩:=h.rd.at' j hj;rw [zND (by rw [h.rd.len];exact hi)];by_cases e:i=j
 ·subst e;rw [if_pos rfl];refine ⟨?_,?_⟩
  ·rw [zAP _ _ _ (by omega)];exact zAY c0 _
  ·exact zAY (by rw [zAP _ _ _ (by omega)];exact c1) _
 ·rw [if_neg e];refine ⟨?_,?_⟩
  ·rw [zAP _ _ _ (by omega),zAP _ _ _ (by omega)];exact c0
  ·rw [zAP _ _ _ (by omega),zAP _ _ _ (by omega)];exact c1
theorem zNn (n:Nat) (j:Int):bat (List.replicate n (0,0)) j=(0,0):=by
 unfold bat;simp only [List.getD_eq_getElem?_getD,List.getElem?_replicate];split <;> rfl
theorem zSU {w2:World} (hk:w.heap.size<w2.heap.size) (own2:w2.ownsRow w.heap.size 89 2 (.slice (some ⟨w.heap.size,0,none⟩) n n) n (madeCells (Value.agg #[.int .i64 0,.int .i64 0]).cells (n * 2)).toList):AtW w2 w.heap.size n (List.replicate n (0,0)):=by
 have hcl:=own2.cells (g:=w.heap.size) rfl;have hcl2:∀ (j:Nat) (u:Value),(madeCells (Value.agg #[.int .i64 0,.int .i64 0]).cells (n * 2)).toList[j]? = some u->w2.cell? ⟨w.heap.size,j,none⟩=some u:=by
  intro j u hu;have:=hcl j u hu;rwa [show (⟨w.heap.size,0,none⟩:Addr).add j=⟨w.heap.size,j,none⟩ from by simp [Addr.add];intro h;exact h.symm] at this
 refine ⟨⟨by simp,λj hj=>?_⟩,λi=>?_,hk⟩
 ·obtain ⟨d0,d1⟩:=zQ3 n j hj;rw [zNn];exact ⟨hcl2 _ _ d0,hcl2 _ _ d1⟩
 ·rcases own2.2 with ⟨e,_⟩ | ⟨g,cap',cur,e,_,hg,_,_,hs,_⟩
  ·cases e
  ·simp only [Value.slice.injEq,Option.some.injEq,Addr.mk.injEq] at e;obtain ⟨⟨e1,-,-⟩,-,-⟩:=e;rw [<-e1] at hg;simp [World.frozen?,hg]
theorem zKJ (L:List (Wc.In × List Int)) {n i:Nat} (hn:L.length=n) (hi:i<n):bkL (stA L) n (n - i)=(bkL (stA L) n (n - (i+1))).set i (zDF (L[i]'(by omega)).1 ((onw (L[i]'(by omega)).1.op (L[i]'(by omega)).1.a (L[i]'(by omega)).1.b (L[i]'(by omega)).2 i).1++(onw (L[i]'(by omega)).1.op (L[i]'(by omega)).1.a (L[i]'(by omega)).1.b (L[i]'(by omega)).2 i).2) (bkL (stA L) n (n - (i+1)))):=by
 rw [zPp,<-zDN (by omega:i<L.length)];have e:n - i=(n - (i+1))+1:=by omega
 rw [e];have e2:n - 1 - (n - (i+1))=i:=by omega
 show (bkL (stA L) n (n - (i+1))).set (n - 1 - (n - (i+1))) (stA L (n - 1 - (n - (i+1))) (bkL (stA L) n (n - (i+1))))=_
 rw [e2]
theorem zGg (L:List (Wc.In × List Int)) (v:Value) (w:World) (h:RdC w v L) (hl:L.length<=1000000) (ht:∀ x ∈ L,x.2.length<=1000000/\Wt.FitV x.1.v) (hN:NmAt w) :
  CR 16 #[v] w (.tuple #[.int .i64 (zJM L).1,.int .i64 (zJM L).2]):=by
 have CK:=zBe L v w h hl ht hN;have hbn:zJM L=if Wc.chkP rgt L=true then bat (bkL (stA L) L.length L.length) 0 else (0,0):=rfl
 have hpl:Wc.chkP rgt L=true->Wc.plcs rgt L.length 0 L=true/\0<L.length:=λq=>by
  unfold Wc.chkP at q;simp only [Bool.and_eq_true,decide_eq_true_eq] at q;exact ⟨q.1,q.2.1⟩
 obtain ⟨B,hB⟩:∃ B,zJM L=B:=⟨_,rfl⟩
 rw [hB] at hbn ⊢;clear hB;obtain ⟨a1,c1,rfl,r1⟩:=h;have HR:Hid (RdC w (.slice a1 L.length c1) L):=⟨a1,c1,rfl,r1⟩
 have HT:Hid (∀ x ∈ L,x.2.length<=1000000):=λx hx=>(ht x hx).1
 clear r1 ht hN;cases hq:Wc.chkP rgt L with
 | false =>
  rw [hq] at CK hbn;simp only [Bool.false_eq_true,if_false] at CK hbn;subst hbn;have HCK:Hid (CR 17 #[.slice a1 L.length c1] w (.int .i64 85)):=CK;clear CK hpl HR HT hq;go_enter func16,ntmps16;go_wp2_with fail
  refine HCK.out.mono ?_;rintro e w1 ⟨rfl,hb1⟩;go_wp2;go_ret2
  exact ⟨rfl,hb1⟩
 | true =>
  obtain ⟨hp,h0⟩:=hpl hq;rw [hq] at CK hbn;simp only [if_true] at CK hbn;have HPL:Hid (∀ (k:Nat) (hk:k<L.length),Wc.plc rgt L.length k (L[k])=true):=λk hk=>by have:=(Wc.plcs_iff rgt L.length L 0).1 hp k hk;rwa [Nat.zero_add] at this
  have HCK:Hid (CR 17 #[.slice a1 L.length c1] w (.int .i64 0)):=CK;clear CK hpl hp hq;obtain ⟨n,hn⟩:∃ n,L.length=n:=⟨_,rfl⟩
  have HL:Hid (L.length=n):=hn;rw [hn] at hl h0 HR HCK hbn ⊢;have HBN:Hid (B=bat (bkL (stA L) n n) ((0:Nat):Int)):=hbn;have HN:Hid (0<n/\n<=1000000):=⟨h0,hl⟩
  obtain ⟨i0,hi0,hz0,hz1,hz2⟩:=info_parts zOU;have hw0:IntKind.i64.wrap ((n:Int) - 1)=(n:Int) - 1:=by rw [IntKind.wrap_i64];omega
  clear hn hbn;go_enter func16,ntmps16;go_wp2_with fail
  refine HCK.out.mono ?_;rintro e w1 ⟨rfl,hb1⟩;go_upto_region 4 with (refine wpList_make_full w1 rfl (.tmp 10) (.tmp 10) 87 rfl w1.heap.size 89 i0 _ 2 underlying87 hi0 hz0 hz1 .i64 .i64 _ _ n rfl rfl rfl rfl (by rw [hz2];omega) (by unfold maxLen;omega) (Nat.le_refl _) ?_;intro w2 own2 hg2)
  have hbg:Below w1.heap.size w1 w2:=⟨hg2.os,hg2.tape,hg2.output,hg2.size,λk hk=>hg2.block k hk (by simp)⟩
  have hk2:w1.heap.size<w2.heap.size:=(zAL own2 (g:=w1.heap.size) rfl).2;have HW0:Hid (AtW w2 w1.heap.size n (bkL (stA L) n 0)):=zSU hk2 own2;have HB0:Hid (Below w.heap.size w w2):=zAB hb1 hbg;have HAB:Hid (w.heap.size<=w1.heap.size):=hb1.size;clear hbg hk2 own2 hg2 hi0 hz0 hz1 hz2 i0 hb1 HCK;obtain ⟨ab,hab⟩:∃ b,w1.heap.size=b:=⟨_,rfl⟩
  rw [hab] at HW0 HAB;simp only [hab];clear hab;go_wp2_with fail
  go_loopg [5] n (λgk u wr=>∃ (d:Nat) (z:Int),u=.int .i64 z/\z+1=(d:Int)/\gk=d/\d<=n/\Hid (AtW wr ab n (bkL (stA L) n (n - d)))/\Hid (Below w.heap.size w wr))
  case atStart=>exact ⟨n,(n:Int) - 1,rfl,by omega,rfl,Nat.le_refl _,by rw [Nat.sub_self];exact HW0,HB0⟩
  case round =>
   clear HW0 HB0 hw0;obtain ⟨d,z,rfl,hz,hg,hd,HW,HB⟩:=hrel;cases d with
   | zero =>
    obtain rfl:z = -1:=by simp at hz;omega
    have hn0:(0:Int)<(n:Int):=by have:=HN.out;omega
    have hnz:¬ ((n:Int)=0):=by omega
    go_upto_region 8 with fail
    have rb:=(Below.refl wr.heap.size wr).drew;have W1:=HW.out.below rb;have HB1:Hid (Below w.heap.size w wr.drew):=zAB HB.out rb;obtain ⟨s0,s1⟩:=W1.rd.at' 0 HN.out.1;rw [Nat.sub_zero,<-HBN.out] at s0 s1;rw [Nat.zero_mul] at s0 s1;rw [Nat.zero_add] at s1;clear rb HW HB W1;refine wp_region_held_drew (S:=λW=>W.cell? ⟨ab,0,none⟩=some (.int .i64 B.1)/\W.cell? ⟨ab,1,none⟩=some (.int .i64 B.2)) (by kernel_rfl) ⟨s0,s1⟩ (λhHeld=>?_);generalize wr.drew=WD at *;refine tkQ 0 ⟨some 29,.move (.tmp 4),87,"code.go:93",#[],none⟩ ?_
    refine tkQ 1 ⟨some 30,.indexAddr 87 (.tmp 29) (Operand.const (Value.int IntKind.i64 0)),0,"code.go:93",#[⟨0,.data⟩],none⟩ ?_
    refine tkQ 2 ⟨some 31,.fieldAddr 89 (.tmp 30) 0,0,"code.go:93",#[⟨1,.data⟩],none⟩ ?_
    refine tkQ 3 ⟨some 32,.load 3 (.tmp 31),3,"code.go:93",#[⟨2,.data⟩],none⟩ ?_
    refine tkQ 4 ⟨some 33,.move (.tmp 4),87,"code.go:93",#[⟨8,.gcOnly .lateStores⟩],none⟩ ?_
    refine tkQ 5 ⟨some 34,.indexAddr 87 (.tmp 33) (Operand.const (Value.int IntKind.i64 0)),0,"code.go:93",#[⟨4,.data⟩,⟨8,.gcOnly .lateStores⟩],none⟩ ?_
    refine tkQ 6 ⟨some 35,.fieldAddr 89 (.tmp 34) 1,0,"code.go:93",#[⟨5,.data⟩,⟨8,.gcOnly .lateStores⟩],none⟩ ?_
    refine tkQ 7 ⟨some 36,.load 3 (.tmp 35),3,"code.go:93",#[⟨6,.data⟩,⟨8,.gcOnly .lateStores⟩],none⟩ ?_
    refine rdQ 8 ⟨some 2,.assign (.tmp 32),3,"code.go:93",#[⟨3,.data⟩,⟨0,.phase⟩,⟨1,.phase⟩,⟨2,.phase⟩,⟨3,.phase⟩,⟨4,.textOnly .lateStores⟩,⟨5,.textOnly .lateStores⟩,⟨6,.textOnly .lateStores⟩,⟨7,.textOnly .lateStores⟩],none⟩ (λK hK=>?_);go_simp
    refine hkQ hK ⟨s0,s1⟩ (λhHeld=>?_);clear hK K
    refine rdQ 9 ⟨some 3,.assign (.tmp 36),3,"code.go:93",#[⟨7,.data⟩,⟨8,.chain⟩,⟨0,.phase⟩,⟨1,.phase⟩,⟨2,.phase⟩,⟨3,.phase⟩,⟨4,.phase⟩,⟨5,.phase⟩,⟨6,.phase⟩,⟨7,.phase⟩,⟨8,.phase⟩],none⟩ (λK hK=>?_);go_simp
    refine hkQ hK ⟨s0,s1⟩ (λhHeld=>?_);clear hK K
    refine wpAnyH_done (by kernel_rfl) ?_ _;clear hHeld s0 s1;go_wp2;go_ret2
    exact ⟨rfl,HB1.out⟩
   | succ i =>
    obtain rfl:z=(i:Int):=by omega
    have hiz:(0:Int)<=(i:Int):=by omega
    have hin:(i:Int)<(n:Int):=by omega
    have hwi:IntKind.i64.wrap ((i:Int) - 1)=(i:Int) - 1:=by rw [IntKind.wrap_i64];have:=HN.out;omega
    have hil:i<L.length:=by rw [HL.out];omega
    have H0:=HR.out.below HB.out;obtain ⟨q1,d1,e1,f1⟩:=H0;simp only [Value.slice.injEq] at e1;obtain ⟨ex1,ex2,ex3⟩:=e1;obtain ⟨bb,off,p,mm,kk,ee,t1,t2,t3⟩:=f1 i hil;rw [ee] at ex1;subst ex1;have HNX:=zKJ L HL.out (by omega:i<n);have HPI:=(Wc.plc_iff rgt L.length i (L[i])).1 (HPL.out i hil);have HTI:=HT.out (L[i]) (List.getElem_mem hil);obtain ⟨y,tl,hyt⟩:∃ y tl,L[i]=(y,tl):=⟨_,_,rfl⟩
    simp only [hyt] at t1 t2 HNX HPI HTI;obtain ⟨D,hD⟩:∃ D,bkL (stA L) n (n - (i+1))=D:=⟨_,rfl⟩
    have HIV:=zIH L HL.out (n - (i+1)) (by omega);rw [hD] at HW HNX HIV;have FR:=zJ7 y p mm kk tl i n ab (n - (i+1)) D wr t2 (λl c e=>by cases e;exact t3 rfl) HTI (by have:=HN.out;omega) HW.out.rd HIV (by have:=HN.out;omega) (λj hj=>by
     have:=HL.out;rcases List.mem_append.1 hj with hj | hj
     ·have:=HPI.2.2.1 j hj;omega
     ·have:=HPI.2.2.2 j hj;omega)
    obtain ⟨sv,hsv⟩:∃ s,zDF y ((onw y.op y.a y.b tl i).1++(onw y.op y.a y.b tl i).2) D=s:=⟨_,rfl⟩
    rw [hsv] at FR HNX;have HFR:Hid (Calls prog 31 #[.agg (zAD y (.slice p mm kk)).toArray,.int .i64 (i:Int),.slice (some ⟨ab,0,none⟩) n n] wr λe w'=>e=.returned (.agg #[.int .i64 sv.1,.int .i64 sv.2])/\Below wr.heap.size wr w'):=FR;have HNX2:Hid (bkL (stA L) n (n - i)=D.set i sv):=HNX;clear FR HNX HPI HTI hyt hD HIV hsv t2 t3 f1 ee ex2 ex3;go_wp2_with (first | (refine zAA (by rfl) 48 (.tmp 23) rfl bb (off+i * 23) rfl (zAD y (.slice p mm kk)) _ t1 underlying48 rfl (by kernel_rfl) ?_))
    refine HFR.out.mono ?_;rintro e w6 ⟨rfl,hb6⟩;have W6:=HW.out.below hb6;have HB6:Hid (Below w.heap.size w w6):=zAB HB.out hb6;obtain ⟨k0,k1⟩:=W6.rd.at' i (by omega);have z0:=W6.fz (i * 2);have z1:=W6.fz (i * 2+1);have HW7:Hid (AtW ((w6.setCell ⟨ab,i * 2,none⟩ (.int .i64 sv.1)).setCell ⟨ab,i * 2+1,none⟩ (.int .i64 sv.2)) ab n (bkL (stA L) n (n - i))):=by rw [HNX2.out];exact W6.set (by omega) sv
    have HB7:Hid (Below w.heap.size w ((w6.setCell ⟨ab,i * 2,none⟩ (.int .i64 sv.1)).setCell ⟨ab,i * 2+1,none⟩ (.int .i64 sv.2))):=zAV HB6.out (fr_one.trans fr_one:Fr [ab] _ _) (λk hk=>by simp at hk;have:=HAB.out;omega);clear HFR HW HB W6 hb6 t1 HNX2 HB6;go_wp2_with fail
    go_roundg i
    case rel=>exact ⟨i,(i:Int) - 1,by simp,by omega,rfl,by omega,HW7,HB7⟩
    case measure=>omega
open Wc
theorem zI2 (h:Wc.chkP rgt L=true):∀ (k:Nat) (hk:k<L.length),rgt (L[k]).1 (L[k]).2=true/\((L[k]).1.op=16 ↔ k+1=L.length)/\(∀ j ∈ (onw (L[k]).1.op (L[k]).1.a (L[k]).1.b (L[k]).2 k).1,(k:Int)<j/\j<(L.length:Int))/\∀ j ∈ (onw (L[k]).1.op (L[k]).1.a (L[k]).1.b (L[k]).2 k).2,(k:Int)<j/\j<(L.length:Int):=by
 intro k hk;unfold Wc.chkP at h;rw [Bool.and_eq_true] at h;have h1:=(plcs_iff _ _ _ _).1 h.1 k hk;rw [Nat.zero_add] at h1;exact (plc_iff _ _ _ _).1 h1
theorem zNK (h:rgt x tl=true):(x.op=1/\Wv.right x.v.k x.v.n x.v.d x.v.t x.v.b x.v.f=true/\tl=[]) \/ (x.v=v0I/\tl.length<=30):=by
 have key:∀ (p:Bool) (y:Wc.In),y.v=v0I->(p && (smI x y && decide (tl=[])))=true->x.v=v0I/\tl.length<=30:=λp y hy q=>by
  simp only [Bool.and_eq_true,smI,zC1,decide_eq_true_eq] at q;exact ⟨q.2.1.2.2.1.trans hy,by rw [q.2.2];simp⟩
 by_cases h1:x.op=1
 ·rw [zN5 h1] at h;simp only [Bool.and_eq_true,decide_eq_true_eq] at h;exact Or.inl ⟨h1,h.1,h.2.2⟩
 refine Or.inr ?_;by_cases h2:x.op=2
 ·rw [zNX h2] at h;exact key _ _ rfl h
 by_cases h3:x.op=3
 ·rw [zN6 h3] at h;exact key _ _ rfl h
 by_cases h4:x.op=4
 ·rw [zOG h4] at h;exact key _ _ rfl h
 by_cases h5:x.op=5
 ·rw [zK5 h5] at h;exact key _ _ rfl h
 by_cases h6:x.op=6
 ·rw [zNp h6] at h;exact key _ _ rfl h
 by_cases h7:x.op=7
 ·rw [zMR h7] at h;exact key _ _ rfl h
 by_cases h8:x.op=8
 ·rw [zJz h8] at h;exact key _ _ rfl h
 by_cases h9:x.op=9
 ·rw [zLM h9] at h;exact key _ _ rfl h
 by_cases h10:x.op=10
 ·rw [zJL h10] at h;exact key _ _ rfl h
 by_cases h11:x.op=11
 ·rw [zFl h11] at h;exact key _ _ rfl h
 by_cases h12:x.op=12
 ·rw [zIc h12] at h;exact key _ _ rfl h
 by_cases h13:x.op=13
 ·rw [zJX h13] at h;exact key _ _ rfl h
 by_cases h14:x.op=14
 ·rw [zHm h14] at h;exact key _ _ rfl h
 by_cases h16:x.op=16
 ·rw [zH2 h16] at h;exact key _ _ rfl h
 by_cases h15:x.op=15
 ·rw [zIu h15] at h;simp only [Bool.and_eq_true,smI,zC1,decide_eq_true_eq] at h;exact ⟨h.2.1.2.2.1,by omega⟩
 unfold rgt at h;rw [if_neg h1,if_neg h2,if_neg h3,if_neg h4,if_neg h5,if_neg h6,if_neg h7,if_neg h8,if_neg h9,if_neg h10,if_neg h11,if_neg h12,if_neg h13,if_neg h14,if_neg h15,if_neg h16] at h;cases h
theorem zPC {v:Wt.Vl} (h:Wv.right v.k v.n v.d v.t v.b v.f=true):Wt.FitV v:=by
 unfold Wv.right at h;unfold Wt.FitV;have ht:∀ {t:ByteArray},t=⟨#[]⟩->t.size=0:=λe=>by rw [e];rfl
 repeat' split at h
 all_goals try simp only [Bool.and_eq_true,decide_eq_true_eq,Wnum.rightB] at h
 ·have:=ht h.1.1.2;omega
 ·have:=ht h.1.1.2;omega
 ·omega
 ·have:=ht h.1.2;omega
 ·have:=ht h.1.2;omega
 ·cases h
theorem zNu (h:Wc.chkP rgt L=true):∀ x ∈ L,x.2.length<=1000000/\Wt.FitV x.1.v:=by
 intro x hx;obtain ⟨k,hk,rfl⟩:=List.mem_iff_getElem.1 hx;rcases zNK (zI2 h k hk).1 with ⟨_,h2,h3⟩ | ⟨h2,h3⟩
 ·exact ⟨by rw [h3];simp,zPC h2⟩
 ·refine ⟨by omega,?_⟩;rw [h2];unfold Wt.FitV;decide
theorem zGJ {s t l r:Int} (h:Wpl.rightA s t l b r=true):1<=Wpl.sizeA s t l b r:=by
 unfold Wpl.sizeA;rw [h,if_pos rfl];have h2:=Wpl.rightA_iff.1 h;have h3:1 * 1<=(b - t+1) * (r - l+1):=Int.mul_le_mul (by omega) (by omega) (by omega) (by omega);omega
theorem zMK (h:rgt x tl=true):1<=lng x:=by
 unfold lng;split
 ·rename_i h8
  rw [zJz h8] at h;simp only [Bool.and_eq_true] at h;exact zGJ h.1
 ·split
  ·rename_i h9
   rw [zLM h9] at h;simp only [Bool.and_eq_true] at h;have:=zGJ h.1.1.1;omega
  ·omega
theorem zIq {b:Int × Int}:∀ {l:List Int},(∀ j ∈ l,1<=(bat D j).1/\(bat D j).1<=(bat D j).2)->1<=b.1/\b.1<=b.2->1<=(zBl D b l).1/\(zBl D b l).1<=(zBl D b l).2:=by
 intro l;induction l generalizing b with
 | nil=>intro _ h;exact h
 | cons j r ih =>
  intro h1 h2;have hj:=h1 j (List.mem_cons_self ..);exact ih (λk hk=>h1 k (List.mem_cons_of_mem _ hk)) (by simp only;omega)
theorem zKx {b:Int × Int} (hi:i<D.length) (j:Int):bat (D.set i b) j=if i=j.toNat then b else bat D j:=by
 unfold bat;rw [List.getD_eq_getElem?_getD,List.getElem?_set];by_cases q:i=j.toNat
 ·simp [q,show j.toNat<D.length by omega]
 ·rw [if_neg q,if_neg q,List.getD_eq_getElem?_getD]
theorem zQt {o a:Int} {i:Int} (h:o ≠ 16):(onw o a b tl i).1++(onw o a b tl i).2 ≠ []:=by
 unfold onw;repeat' split
 all_goals first | (simp;done) | omega
theorem zHZ {L:List (Wc.In × List Int)} (h:Wc.chkP rgt L=true):∀ c,c<=L.length->∀ j:Nat,L.length - c<=j->j<L.length->1<=(bat (bkL (stA L) L.length c) j).1/\(bat (bkL (stA L) L.length c) j).1<=(bat (bkL (stA L) L.length c) j).2/\(j+1<L.length->2<=(bat (bkL (stA L) L.length c) j).1)
 | 0,_,j,h1,h2=>by omega
 | c+1,hc,j,h1,h2=>by
  have ih:=zHZ h c (by omega);simp only [bkL];rw [zKx (by rw [zEb];omega)];by_cases q:L.length - 1 - c=(j:Int).toNat
  ·rw [if_pos q];have hj:L.length - 1 - c=j:=by omega
   rw [hj,zDN h2,<-zPp];obtain ⟨p1,p2,p3,p4⟩:=zI2 h j h2;have hl:=zMK p1;have hall:∀ k ∈ (onw (L[j]).1.op (L[j]).1.a (L[j]).1.b (L[j]).2 j).1++(onw (L[j]).1.op (L[j]).1.a (L[j]).1.b (L[j]).2 j).2,(j:Int)<k/\k<(L.length:Int):=λk hk=>by
    rcases List.mem_append.1 hk with hk | hk
    ·exact p3 k hk
    ·exact p4 k hk
   by_cases hlast:j+1=L.length
   ·have h16:=p2.2 hlast;have e:(onw (L[j]).1.op (L[j]).1.a (L[j]).1.b (L[j]).2 j).1++(onw (L[j]).1.op (L[j]).1.a (L[j]).1.b (L[j]).2 j).2=[]:=by
     rw [h16];simp [onw]
    rw [e];simp only [zDF];omega
   ·have hne:=zQt (o:=(L[j]).1.op) (a:=(L[j]).1.a) (b:=(L[j]).1.b) (tl:=(L[j]).2) (i:=(j:Int)) (λq=>hlast (p2.1 q));generalize (onw (L[j]).1.op (L[j]).1.a (L[j]).1.b (L[j]).2 j).1++(onw (L[j]).1.op (L[j]).1.a (L[j]).1.b (L[j]).2 j).2=nx at *;cases nx with
    | nil=>exact absurd rfl hne
    | cons k r =>
     have hD:∀ t ∈ k::r,1<=(bat (bkL (stA L) L.length c) t).1/\(bat (bkL (stA L) L.length c) t).1<=(bat (bkL (stA L) L.length c) t).2:=λt ht=>by
      have h3:=hall t ht;have h4:=ih t.toNat (by omega) (by omega);rw [show ((t.toNat:Nat):Int)=t by omega] at h4;exact ⟨h4.1,h4.2.1⟩
     have hk:=hD k (List.mem_cons_self ..);have:=zIq (D:=bkL (stA L) L.length c) (b:=bat (bkL (stA L) L.length c) k) (λt ht=>hD t (List.mem_cons_of_mem _ ht)) hk;simp only [zDF];omega
  ·rw [if_neg q];exact ih j (by omega) h2
theorem zNo (h:Wc.chkP rgt L=true) (h2:2<=L.length):2<=(zJM L).1/\(zJM L).1<=(zJM L).2:=by
 unfold zJM;rw [if_pos h];have:=zHZ h L.length (Nat.le_refl _) 0 (by omega) (by omega);have h3:=this.2.2 (by omega);exact ⟨h3,this.2.1⟩
open Go.RowKit Wf
def NaP (m:Nat) (w:World) (e:Ending) (w':World):Prop:=(∃ b,e=.returned (.bool b)/\(b=false->m<=20000))/\Below w.heap.size w w'
theorem zHP (nm:List ByteArray) (av:Option Addr) (m cap:Nat) (w:World) (hm:m=nm.length) (hl:nm.length<=9223372036854775807) (hR:RdS w av nm):Calls prog 10 #[.slice av m cap] w (NaP m w):=by
 have HM:Hid (m=nm.length/\nm.length<=9223372036854775807):=⟨hm,hl⟩
 have HR:Hid (RdS w av nm):=hR;clear hm hl hR;go_enter func10,ntmps10;go_wp2_with fail
 go_loopg [3,4] m (λgk u x wr=>∃ (i:Nat) (T:Int),u=.int .i64 T/\x=.int .i64 (i:Int)/\gk=m - i/\i<=m/\Hid (20000<m->T=(m:Int))/\w=wr)
 case atStart=>exact ⟨0,(m:Int),rfl,rfl,rfl,Nat.zero_le _,(λ_=>rfl:20000<m->(m:Int)=(m:Int)),rfl⟩
 case round =>
  obtain ⟨i,T,rfl,rfl,hg,hi,HQ,rfl⟩:=hrel;by_cases hlt:i<m
  ·have hli:(i:Int)<(m:Int):=by omega
   by_cases hT:T<=20000
   ·have hiz:(0:Int)<=(i:Int):=by omega
    have hwi:IntKind.i64.wrap ((i:Int)+1)=(i:Int)+1:=by have:=HM.out;rw [IntKind.wrap_i64];omega
    have hln:i<nm.length:=by have:=HM.out;omega
    obtain ⟨bb,off,rfl,hc⟩:=HR.out i hln;obtain ⟨x,hx⟩:∃ x,nm[i]=x:=⟨_,rfl⟩
    rw [hx] at hc;have HQ2:Hid (¬ 20000<m):=λh=>by have:=HQ.out h;omega
    clear hx hln HQ;go_wp2;go_roundg (m - (i+1))
    case rel=>exact ⟨i+1,_,rfl,by simp,rfl,hlt,(λh=>absurd h HQ2.out:20000<m->_),rfl⟩
    case measure=>omega
   ·have hT2:20000<T:=by omega
    clear HQ;go_wp2;go_ret;exact ⟨⟨true,rfl,λh=>by cases h⟩,Below.refl _ _⟩
  ·have hli:¬ (i:Int)<(m:Int):=by omega
   have HT:Hid (¬ 20000<T->m<=20000):=λh=>by
    rcases Nat.lt_or_ge 20000 m with q | q
    ·have:=HQ.out q;omega
    ·exact q
   clear HQ;by_cases hT:20000<T
   ·go_wp2;go_ret;exact ⟨⟨true,rfl,λh=>by cases h⟩,Below.refl _ _⟩
   ·go_wp2;go_ret;exact ⟨⟨false,rfl,λ_=>HT.out (by omega)⟩,Below.refl _ _⟩
