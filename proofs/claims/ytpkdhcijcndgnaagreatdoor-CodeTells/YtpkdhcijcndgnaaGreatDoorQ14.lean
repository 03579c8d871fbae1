/- KTakes, PWalkB, PWalkH, PWalkR, KRect, KApart. -/
import Derived.Test.YtpkdhcijcndgnaaGreatDoorQ13
set_option maxHeartbeats 1600000
set_option maxRecDepth 100000
namespace Go.Proofs.YtpkdhcijcndgnaaGreatDoor
open Tryz
open Go.RowKit Wf
set_option linter.unusedVariables false
variable {w w1:World} {B:Nat} {va vb:Value} {LA LB:List (Wt.Nd × Value)} {x:Wt.Nd} {P:Program} {ops:Array Oper} {rest:List Oper} {op:Oper} {a:Act} {Q:Exit->Act->World->Prop}
theorem zGH {P:Program} {ops:Array Oper} {rest:List Oper} {a:Act} {w:World} {Q:Exit->Act->World->Prop} (hgd:op.guard=none) (x y:Operand) (ts:Array TypeId) (ho:op.op=.call {callee:=.builtin .min,args:=#[x,y],argTypes:=ts}) (i j k:Int) (hx:a.eval x=.int .i64 i) (hy:a.eval y=.int .i64 j) (hk:(if j<i then j else i)=k)
  (h:wpList P ops Q rest (a.put op.dst (.int .i64 k)) w):wpList P ops Q (op::rest) a w:=by
 refine wpList_plain hgd λK hK=>?_
 have hr:=run_min_int2 (P:=P) (w:=w) ts op.type .i64 .i64 i j;rw [hk] at hr;unfold Oper.wp execOp;simp only [ho,resolve,invoke,builtin,Sem.run_bind,Sem.run_pure,Result.andThen_ok,List.map_toArray,List.map_cons,List.map_nil,hx,hy,hr];exact hK _ _ h
theorem zFm (hgd:op.guard=none) (T:TypeId) (s i:Operand) (ho:op.op=.index T s i) (b:ByteArray) (hs:a.eval s=.string b) (k:Nat) (hi:a.eval i=.int .i64 (k:Int)) (hu:P.underlying T=some .string) (c:UInt8) (hk:k<b.size) (hc:b[k]=c)
  (h:wpList P ops Q rest (a.put op.dst (.int .u8 (c.toNat:Int))) w):wpList P ops Q (op::rest) a w:=by
 refine wpList_plain hgd λK hK=>?_
 have hr:=run_index_string (P:=P) (w:=w) T b .i64 (k:Int) hu;rw [dif_pos (by omega)] at hr;simp only [Int.toNat_natCast,hc] at hr;unfold Oper.wp execOp;simp only [ho,hs,hi,Sem.run_bind,Sem.run_pure,Result.andThen_ok,hr];exact hK _ _ h
theorem zQ5 {c d:UInt8} (h:¬ c=d):¬ c.toNat=d.toNat:=λe=>h (UInt8.toNat_inj.1 e)
theorem zJL (a1 a2:Int) (a3:ByteArray) (a4 a5:Int) (p:ByteArray) (L:List (Wt.Nd × Value)) (av:Option Addr) (m cap:Nat) (w:World) (hp:0<p.size/\p.size<=10) (hm:m=L.length) (hl:L.length<=30) (hsl:∀ q ∈ L,∃ a b c,q.2=.slice a b c) (hR:RdQ w av L) :
  CR 89 #[.agg (sg6 a1 a2 a3 a4 a5 p).toArray,.slice av m cap] w (.bool (zAi p.data.toList (L.map (·.1)) 0)):=by
 generalize hq:zAi p.data.toList (L.map (·.1)) 0=q;have pS:=AtL.new0 w 66 (sg6 a1 a2 a3 a4 a5 p);have hB:=zAJ (Below.refl _ w) (.cells (sg6 a1 a2 a3 a4 a5 p).toArray 66);have HM:Hid (m=L.length/\L.length<=30):=⟨hm,hl⟩
 have HSL:Hid (∀ q ∈ L,∃ a b c,q.2=.slice a b c):=hsl;have HR:Hid (RdQ (w.alloc (.cells (sg6 a1 a2 a3 a4 a5 p).toArray 66)) av L):=hR.below hB;have HQ0:Hid (zAi p.data.toList ((L.drop 0).map (·.1)) 0=q):=hq;have HP:Hid (0<p.size/\p.size<=10):=hp;clear hm hl hsl hR hq hp;go_enter func89,ntmps89;go_upto_region 1 with fail
 generalize (w.alloc (.cells (sg6 a1 a2 a3 a4 a5 p).toArray 66))=W at *;have HS:Hid (AtL W w.heap.size (sg6 a1 a2 a3 a4 a5 p)):=pS;have HB:Hid (Below w.heap.size w W):=hB;clear pS hB;go_wp2_with fail
 go_loopg [5,6,7,10] m (λgk u5 u6 u7 x wr=>∃ i:Nat,x=.int .i64 (i:Int)/\gk=m - i/\i<=m/\Hid (zAi p.data.toList ((L.drop i).map (·.1)) i=q)/\Hid (Below W.heap.size W wr))
 case atStart=>exact ⟨0,rfl,rfl,Nat.zero_le _,HQ0,Below.refl _ _⟩
 case round =>
  clear HQ0;obtain ⟨i,rfl,hg,hi,HQ,HBr⟩:=hrel;by_cases hlt:i<m
  ·have hli:(i:Int)<(m:Int):=by omega
   have hiz:(0:Int)<=(i:Int):=by omega
   have hwi:IntKind.i64.wrap ((i:Int)+1)=(i:Int)+1:=by have:=HM.out;rw [IntKind.wrap_i64];omega
   have hln:i<L.length:=by have:=HM.out;omega
   obtain ⟨bb,off,rfl,hr⟩:=(HR.out.below HBr.out) i hln;have hd1:=List.drop_eq_getElem_cons hln;have hs1:=HSL.out L[i] (List.getElem_mem hln);rw [hd1,List.map_cons] at HQ;obtain ⟨x,hx⟩:∃ x,L[i]=x:=⟨_,rfl⟩
   rw [hx] at HQ hr hs1;obtain ⟨x,sl⟩:=x;simp only at HQ hr hs1;obtain ⟨sa,sb,sc,rfl⟩:=hs1;have IA:=λw=>zB0 x (.slice sa sb sc) w
   clear hd1 hx hln;obtain ⟨k,hk⟩:∃ k,min i (p.data.toList.length - 1)=k:=⟨_,rfl⟩
   have hps:p.data.toList.length=p.size:=by show p.data.toList.length=p.data.size;exact Array.length_toList
   have hkp:k<p.size:=by have:=HP.out;omega
   have hmn:min (i:Int) ((p.size:Int) - 1)=(k:Int):=by have:=HP.out;omega
   obtain ⟨c,hc⟩:∃ c,p[k]=c:=⟨_,rfl⟩
   have hlp:p.data.toList.getD k 0=c:=by
    rw [<-hc];rw [List.getD_eq_getElem?_getD,List.getElem?_eq_getElem (by rw [hps];exact hkp)];rfl
   simp only [zAi,hk,hlp] at HQ;have hsb:IntKind.i64.wrap ((p.size:Int) - 1)=(p.size:Int) - 1:=by have:=HP.out;rw [IntKind.wrap_i64];omega
   have HMN:Hid ((if (p.size:Int) - 1<(i:Int) then (p.size:Int) - 1 else (i:Int))=(k:Int)):=by show _=_;have:=HP.out;split <;> omega
   have HKC:Hid (k<p.size/\∀ h:k<p.size,p[k]=c):=⟨hkp,λ_=>hc⟩
   clear hk hps hlp hmn hc hkp;have hth:World.there (wr.alloc (.cells zeros21 76)) wr.heap.size 0 (zAL x (.slice sa sb sc)).toArray.size:=(AtL.new0 wr _ _:AtL (wr.alloc (.cells zeros21 76)) wr.heap.size zeros21.toList).there;have HPI:Hid (AtL ((wr.alloc (.cells zeros21 76)).setCells wr.heap.size 0 (zAL x (.slice sa sb sc))) wr.heap.size (zAL x (.slice sa sb sc))):=(AtL.new0 wr _ _:AtL (wr.alloc (.cells zeros21 76)) wr.heap.size zeros21.toList).setAll rfl;have HHB:Hid (Below wr.heap.size wr ((wr.alloc (.cells zeros21 76)).setCells wr.heap.size 0 (zAL x (.slice sa sb sc)))):=zAt (zAJ (Below.refl _ wr) _) (Nat.le_refl _) _ 0;go_upto_region 4 with (first | (refine zAA (by rfl) 76 (.tmp 13) rfl bb (off+i * 21) rfl (zAL x (.slice sa sb sc)) _ hr underlying76 rfl (by kernel_rfl) ?_) | ((with_reducible refine wpList_store_mid ?_ 76 (.tmp 6) (.tmp 14) ?_ wr.heap.size 0 (zAL x (.slice sa sb sc)).toArray ?_ ?_ ?_ ?_ ?_ ?_);rfl;rfl;rfl;rfl;exact hth;kernel_rfl;exact zCg _ _ _ _))
   have HB2:Hid (Below W.heap.size W ((wr.alloc (.cells zeros21 76)).setCells wr.heap.size 0 (zAL x (.slice sa sb sc)))):=zAB HBr.out HHB.out;clear hth hr HHB HBr;generalize ((wr.alloc (.cells zeros21 76)).setCells wr.heap.size 0 (zAL x (.slice sa sb sc)))=W2 at *;obtain ⟨ib,hib⟩:∃ k,wr.heap.size=k:=⟨_,rfl⟩
   rw [hib] at HPI;simp only [hib];clear hib;have rI:=HPI.out.range;have s5:=(AtL.below HB2.out HS.out).2.1 5 _ rfl;go_upto_region 5 with (first | (refine zGH rfl (.tmp 17) (.tmp 21) _ rfl (i:Int) ((p.size:Int) - 1) (k:Int) rfl rfl HMN.out ?_) | (refine zFm rfl 9 (.tmp 16) (.tmp 22) rfl p rfl k rfl (by kernel_rfl) c HKC.out.1 (HKC.out.2 _) ?_))
   clear s5;by_cases h97:c=97
   ·subst h97;cases hb:isA x with
    | true =>
     rw [hb] at IA;simp only [hb,show ((97:UInt8) == 97)=true from rfl,show ((97:UInt8) == 118)=false from rfl,Bool.not_true,Bool.and_false,Bool.false_and,Bool.or_self,Bool.false_eq_true,if_false] at HQ;go_wp2_with (first | (refine zAA (by rfl) 76 (.tmp 6) rfl ib 0 rfl (zAL x (.slice sa sb sc)) _ rI underlying76 rfl (by kernel_rfl) ?_) | (go_at_call 27;refine (IA _).mono ?_;rintro e w1 ⟨rfl,hb1⟩))
     have HB3:Hid (Below W.heap.size W w1):=zAB HB2.out hb1;clear hb1 HB2;go_roundg (m - (i+1))
     case rel=>exact ⟨i+1,by simp,rfl,hlt,HQ,HB3⟩
     case measure=>omega
    | false =>
     rw [hb] at IA;simp only [hb,show ((97:UInt8) == 97)=true from rfl,Bool.not_false,Bool.and_self,Bool.true_or,if_true] at HQ;go_wp2_with (first | (refine zAA (by rfl) 76 (.tmp 6) rfl ib 0 rfl (zAL x (.slice sa sb sc)) _ rI underlying76 rfl (by kernel_rfl) ?_) | (go_at_call 27;refine (IA _).mono ?_;rintro e w1 ⟨rfl,hb1⟩))
     go_ret;exact ⟨congrArg (λz=>Ending.returned (Value.bool z)) HQ.out,zAB HB.out (zAB HB2.out hb1)⟩
   ·have m97:¬ c.toNat=97:=zQ5 (d:=97) h97;have b97:(c == 97)=false:=by simpa using h97
    have n97:¬ (c.toNat:Int)=97:=by omega
    by_cases h118:c=118
    ·subst h118;cases hb:isA x with
     | true =>
      rw [hb] at IA;simp only [hb,b97,show ((118:UInt8) == 118)=true from rfl,Bool.false_and,Bool.and_self,Bool.false_or,if_true] at HQ;go_wp2_with (first | (refine zAA (by rfl) 76 (.tmp 6) rfl ib 0 rfl (zAL x (.slice sa sb sc)) _ rI underlying76 rfl (by kernel_rfl) ?_) | (go_at_call 27;refine (IA _).mono ?_;rintro e w1 ⟨rfl,hb1⟩))
      go_ret;exact ⟨congrArg (λz=>Ending.returned (Value.bool z)) HQ.out,zAB HB.out (zAB HB2.out hb1)⟩
     | false =>
      rw [hb] at IA;simp only [hb,b97,Bool.false_and,Bool.and_false,Bool.or_self,Bool.false_eq_true,if_false] at HQ;go_wp2_with (first | (refine zAA (by rfl) 76 (.tmp 6) rfl ib 0 rfl (zAL x (.slice sa sb sc)) _ rI underlying76 rfl (by kernel_rfl) ?_) | (go_at_call 27;refine (IA _).mono ?_;rintro e w1 ⟨rfl,hb1⟩))
      have HB3:Hid (Below W.heap.size W w1):=zAB HB2.out hb1;clear hb1 HB2;go_roundg (m - (i+1))
      case rel=>exact ⟨i+1,by simp,rfl,hlt,HQ,HB3⟩
      case measure=>omega
    ·have m118:¬ c.toNat=118:=zQ5 (d:=118) h118;have b118:(c == 118)=false:=by simpa using h118
     have n118:¬ (c.toNat:Int)=118:=by omega
     simp only [b97,b118,Bool.false_and,Bool.or_self,Bool.false_eq_true,if_false] at HQ;clear IA h97 h118 b97 b118;go_wp2_with fail
     go_roundg (m - (i+1))
     case rel=>exact ⟨i+1,by simp,rfl,hlt,HQ,HB2⟩
     case measure=>omega
  ·have hli:¬ (i:Int)<(m:Int):=by omega
   have HQ2:Hid (true=q):=by
    have hie:i=L.length:=by have:=HM.out;omega
    rw [hie,List.drop_length] at HQ;exact HQ
   clear HQ;go_wp2;go_ret;exact ⟨congrArg (λz=>Ending.returned (Value.bool z)) HQ2.out,zAB HB.out HBr.out⟩
open Go.RowKit
def Cells (w:World) (blk off n:Nat) (F:Nat->Wpl.Cl):Prop :=
 ∀ j,j<n->w.cell? ⟨blk,off+j * 3,none⟩=some (.int .i64 (F j).s)/\w.cell? ⟨blk,off+j * 3+1,none⟩=some (.int .i64 (F j).r)/\w.cell? ⟨blk,off+j * 3+2,none⟩=some (.int .i64 (F j).c)
theorem Cells.below {W W':World} {blk off n:Nat} {F:Nat->Wpl.Cl} (h:Cells W blk off n F) (hb:blk<W.heap.size) (hB:Below W.heap.size W W'):Cells W' blk off n F:=λj hj =>
 ⟨(hB.cell (p:=⟨blk,off+j * 3,none⟩) hb).trans (h j hj).1,(hB.cell (p:=⟨blk,off+j * 3+1,none⟩) hb).trans (h j hj).2.1,(hB.cell (p:=⟨blk,off+j * 3+2,none⟩) hb).trans (h j hj).2.2⟩
theorem zIV (q:Int) (blk off n cap:Nat) (F:Nat->Wpl.Cl) (w:World) (hn:n<=1000000000000000) (hb:blk<w.heap.size) (hc:Cells w blk off n F) :
  Calls prog 57 #[.slice (some ⟨blk,off,none⟩) n cap,.func (.func 36) #[.int .i64 q] #[]] w λe w'=>∃ v:Int,e=.returned (.int .i64 v)/\decide (0<=v)=Wpl.anyN q F n/\Below w.heap.size w w':=by
 have eg:∀ args w,(callFunc 36 args).run prog w=.ok (.enter 36 args) w:=λ_ _=>by kernel_rfl
 go_enter func57,ntmps57;go_wp2;go_loopw [5,8] (λ_ i wr=>∃ j:Nat,j<=n/\i=.int .i64 j/\Hid (∀ m,m<j->Wpl.lacks q (F m)=false)/\Below w.heap.size w wr) (λ_ i _=>n - (intOf i).toNat)
 case atStart=>exact ⟨0,Nat.zero_le _,rfl,(λm hm=>absurd hm (Nat.not_lt_zero _):∀ m,m<0->Wpl.lacks q (F m)=false),Below.refl _ _⟩
 case round =>
  obtain ⟨j,hj,rfl,A,qB⟩:=hrel;by_cases hlt:j<n
  ·have hltz:(j:Int)<(n:Int):=by omega
   obtain ⟨x0,x1,x2⟩:=hc j hlt;have y0:wr.cell? ⟨blk,off+j * 3,none⟩=some (.int .i64 (F j).s):=(qB.cell (p:=⟨blk,off+j * 3,none⟩) hb).trans x0;have y1:wr.cell? ⟨blk,off+j * 3+1,none⟩=some (.int .i64 (F j).r):=(qB.cell (p:=⟨blk,off+j * 3+1,none⟩) hb).trans x1;have y2:wr.cell? ⟨blk,off+j * 3+2,none⟩=some (.int .i64 (F j).c):=(qB.cell (p:=⟨blk,off+j * 3+2,none⟩) hb).trans x2;have L:=λw=>zIg q (F j).s (F j).r (F j).c w
   clear x0 x1 x2;generalize hq:Wpl.lacks q ⟨(F j).s,(F j).r,(F j).c⟩=b at L;have B:Hid (Wpl.lacks q (F j)=b):=hq;clear hq;generalize (F j).s=sj at *;generalize (F j).r=rj at *;generalize (F j).c=cj at *;cases b with
   | true =>
    go_wp2_with (go_at_call 36;refine (L _).mono ?_;rintro e w1 ⟨rfl,hb1⟩)
    go_ret;exact ⟨_,rfl,by rw [Wpl.anyN_hit hlt B.out];simp,zAn qB hb1⟩
   | false =>
    go_wp2_with (go_at_call 36;refine (L _).mono ?_;rintro e w1 ⟨rfl,hb1⟩)
    go_roundw
    case rel =>
     refine ⟨j+1,by omega,by go_num,(λm hm=>?_:∀ m,m<j+1->Wpl.lacks q (F m)=false),zAn qB hb1⟩;by_cases e:m=j
     ·rw [e];exact B.out
     ·exact A.out m (by omega)
    case measure=>simp [intOf];omega
  ·have hltz:¬ (j:Int)<(n:Int):=by omega
   have e:j=n:=by omega
   subst e;go_wp2;go_ret;exact ⟨_,rfl,by rw [Wpl.anyN_miss A.out];rfl,qB⟩
theorem zBo (q:Int) (blk off n cap:Nat) (F:Nat->Wpl.Cl) (w:World) (hn:n<=1000000000000000) (hb:blk<w.heap.size) (hc:Cells w blk off n F) :
  CR 35 #[.slice (some ⟨blk,off,none⟩) n cap,.func (.func 36) #[.int .i64 q] #[]] w (.bool (Wpl.anyN q F n)):=by
 go_enter func35,ntmps35;go_wp2_with fail
 refine (zIV q blk off n cap F _ hn hb hc).mono ?_;rintro e w1 ⟨v,rfl,hv,hb1⟩;have H:Hid (decide (0<=v)=Wpl.anyN q F n):=hv;clear hv;go_wp2;go_ret;exact ⟨by rw [<-H.out];rfl,hb1⟩
theorem zI4 (blk off n cap:Nat) (F:Nat->Wpl.Cl) (w:World) (hn0:0<n) (hn:n<=1000000000000000) (hcap:n<=cap) (hcap2:cap<=9223372036854775807) (hb:blk<w.heap.size) (hc:Cells w blk off n F) (hA:Wpl.anyN (F 0).s F n=true) :
  CR 20 #[.slice (some ⟨blk,off,none⟩) n cap] w (.tuple #[.agg #[.int .i64 (Wpl.hullV F n).s,.int .i64 (Wpl.hullV F n).t,.int .i64 (Wpl.hullV F n).l,.int .i64 (Wpl.hullV F n).b,.int .i64 (Wpl.hullV F n).r],.bool (Wpl.hullOk F n)]):=by
 obtain ⟨x0,x1,x2⟩:=hc 0 hn0;simp only [Nat.zero_mul,Nat.add_zero] at x0 x1 x2;have hmf:∀ (fn:Fn) (first cap:Array Value) (w:World),(Instr.makeFunc fn first cap).run prog w=.ok (.func fn first cap) w:=λ_ _ _ _=>rfl
 have C:=λw h1 h2=>zBo (F 0).s blk off n cap F w hn h1 h2
 rw [hA] at C;have HA:Hid (Wpl.anyN (F 0).s F n=true):=hA;clear hA;have E0:Hid (Wpl.hullU F 0=⟨(F 0).s,(F 0).r,(F 0).c,(F 0).r,(F 0).c⟩):=(rfl:Wpl.hullU F 0=⟨(F 0).s,(F 0).r,(F 0).c,(F 0).r,(F 0).c⟩)
 have HO:Hid (Wpl.hullOk F n=false):=by show _=_;unfold Wpl.hullOk;rw [HA.out,decide_eq_true (show n ≠ 0 by omega)];rfl
 have HV:Hid (Wpl.hullV F n=Wpl.nullA):=by show _=_;unfold Wpl.hullV;rw [HO.out];rfl
 clear HA;generalize (F 0).s=s0 at *;generalize (F 0).r=r0 at *;generalize (F 0).c=c0 at *;have hnz:((n:Int) == 0)=false:=by simp;omega
 go_enter func20,ntmps20;go_wp2_with fail
 refine (C _ (by simp [go_sem];omega) (hc.below hb ((Below.refl _ _).alloc (Nat.le_refl _) _))).mono ?_;rintro e w1 ⟨rfl,hb1⟩;have pR:AtL w1 w.heap.size [.int .i64 0,.int .i64 0,.int .i64 0,.int .i64 0,.int .i64 0]:=AtL.below hb1 (AtL.new w _ rfl _);have hB:Below w.heap.size w w1:=clA
 clear hb1;obtain ⟨r0',r1,r2,r3,r4,_,_,_,_,_⟩:=pR.five;go_wp2;refine bodyPost_ret (v:=.tuple #[.agg #[.int .i64 0,.int .i64 0,.int .i64 0,.int .i64 0,.int .i64 0],.bool false]) (by simp [results,results20,go_sem,r0',r1,r2,r3,r4]) rfl ⟨by rw [HV.out,HO.out];rfl,?_⟩;exact zCA hB (Nat.le_refl _) _ _ _ _ _
theorem zKi (blk off n cap:Nat) (F:Nat->Wpl.Cl) (w:World) (hn0:0<n) (hn:n<=1000000000000000) (hcap:n<=cap) (hcap2:cap<=9223372036854775807) (hb:blk<w.heap.size) (hc:Cells w blk off n F) (hA:Wpl.anyN (F 0).s F n=false) (hc1:cap=1) :
  CR 20 #[.slice (some ⟨blk,off,none⟩) n cap] w (.tuple #[.agg #[.int .i64 (Wpl.hullV F n).s,.int .i64 (Wpl.hullV F n).t,.int .i64 (Wpl.hullV F n).l,.int .i64 (Wpl.hullV F n).b,.int .i64 (Wpl.hullV F n).r],.bool (Wpl.hullOk F n)]):=by
 subst hc1;obtain ⟨x0,x1,x2⟩:=hc 0 hn0;simp only [Nat.zero_mul,Nat.add_zero] at x0 x1 x2;have hmf:∀ (fn:Fn) (first cap:Array Value) (w:World),(Instr.makeFunc fn first cap).run prog w=.ok (.func fn first cap) w:=λ_ _ _ _=>rfl
 have C:=λw h1 h2=>zBo (F 0).s blk off n 1 F w hn h1 h2
 rw [hA] at C;have HA:Hid (Wpl.anyN (F 0).s F n=false):=hA;clear hA;have E0:Hid (Wpl.hullU F 0=⟨(F 0).s,(F 0).r,(F 0).c,(F 0).r,(F 0).c⟩):=(rfl:Wpl.hullU F 0=⟨(F 0).s,(F 0).r,(F 0).c,(F 0).r,(F 0).c⟩)
 have HO:Hid (Wpl.hullOk F n=true):=by show _=_;unfold Wpl.hullOk;rw [HA.out,decide_eq_true (show n ≠ 0 by omega)];rfl
 have HV:Hid (Wpl.hullV F n=Wpl.hullU F (n - 1)):=by show _=_;unfold Wpl.hullV;rw [HO.out];rfl
 clear HA;generalize (F 0).s=s0 at *;generalize (F 0).r=r0 at *;generalize (F 0).c=c0 at *;have hnz:((n:Int) == 0)=false:=by simp;omega
 go_enter func20,ntmps20;go_wp2_with fail
 refine (C _ (by simp [go_sem];omega) (hc.below hb ((Below.refl _ _).alloc (Nat.le_refl _) _))).mono ?_;rintro e w1 ⟨rfl,hb1⟩;have pR:AtL w1 w.heap.size [.int .i64 0,.int .i64 0,.int .i64 0,.int .i64 0,.int .i64 0]:=AtL.below hb1 (AtL.new w _ rfl _);have hB:Below w.heap.size w w1:=clA
 have y0:w1.cell? ⟨blk,off,none⟩=some (.int .i64 s0):=(hB.cell (p:=⟨blk,off,none⟩) hb).trans x0;have y1:w1.cell? ⟨blk,off+1,none⟩=some (.int .i64 r0):=(hB.cell (p:=⟨blk,off+1,none⟩) hb).trans x1;have y2:w1.cell? ⟨blk,off+2,none⟩=some (.int .i64 c0):=(hB.cell (p:=⟨blk,off+2,none⟩) hb).trans x2;have hb':blk<w1.heap.size:=Nat.lt_of_lt_of_le hb hB.size;have hz1:=hB.size;clear hb1 x0 x1 x2 C;go_wp2_with fail
 have pA:AtL ((w1.alloc (.cells #[.int .i64 s0,.int .i64 r0,.int .i64 c0] 24)).alloc (.cells #[.int .i64 s0,.int .i64 r0,.int .i64 c0,.int .i64 r0,.int .i64 c0] 45)) (w1.heap.size+1) [.int .i64 s0,.int .i64 r0,.int .i64 c0,.int .i64 r0,.int .i64 c0]:=AtL.new (w1.alloc _) _ (by simp [go_sem]) _;have pR':=(pR.alloc (.cells #[.int .i64 s0,.int .i64 r0,.int .i64 c0] 24)).alloc (.cells #[.int .i64 s0,.int .i64 r0,.int .i64 c0,.int .i64 r0,.int .i64 c0] 45);have pB:=zC3 (zC3 hB (.cells #[.int .i64 s0,.int .i64 r0,.int .i64 c0] 24)) (.cells #[.int .i64 s0,.int .i64 r0,.int .i64 c0,.int .i64 r0,.int .i64 c0] 45);clear y0 y1 y2 pR hB;generalize hk:w1.heap.size+1=k at *;have hkw:w.heap.size<k:=by omega
 generalize (w1.alloc (.cells #[.int .i64 s0,.int .i64 r0,.int .i64 c0] 24)).alloc (.cells #[.int .i64 s0,.int .i64 r0,.int .i64 c0,.int .i64 r0,.int .i64 c0] 45)=W2 at *;go_loopw [7,38] (λ_ i wr=>∃ (j:Nat) (t l b r:Int),j<=n - 1/\i=.int .i64 j/\Hid (Wpl.hullU F j=⟨s0,t,l,b,r⟩)/\Below w.heap.size w wr/\AtL wr w.heap.size [.int .i64 0,.int .i64 0,.int .i64 0,.int .i64 0,.int .i64 0]/\AtL wr k [.int .i64 s0,.int .i64 t,.int .i64 l,.int .i64 b,.int .i64 r]) (λ_ i _=>n - (intOf i).toNat)
 case atStart=>exact ⟨0,r0,c0,r0,c0,Nat.zero_le _,rfl,E0,pB,pR',pA⟩
 case round =>
  clear pB pR' pA;obtain ⟨j,t,l,b,r,hj,rfl,E,qB,qR,qA⟩:=hrel
  ·have hltz:¬ (j:Int)<((n - 1:Nat):Int):=by omega
   have hj':j=n - 1:=by omega
   have HV':Hid (Wpl.hullV F n=⟨s0,t,l,b,r⟩):=by show _=_;rw [HV.out,<-hj',E.out]
   clear hj' E HV;have sR:=qR.put5 (.int .i64 s0) (.int .i64 t) (.int .i64 l) (.int .i64 b) (.int .i64 r);have sB:=zCA qB (Nat.le_refl w.heap.size) (.int .i64 s0) (.int .i64 t) (.int .i64 l) (.int .i64 b) (.int .i64 r);obtain ⟨a0,a1,a2,a3,a4,f0,f1,f2,f3,f4⟩:=qA.five;obtain ⟨z0,z1,z2,z3,z4,g0,g1,g2,g3,g4⟩:=qR.five;go_wp2;obtain ⟨r0',r1,r2,r3,r4,_,_,_,_,_⟩:=sR.five;refine bodyPost_ret (v:=.tuple #[.agg #[.int .i64 s0,.int .i64 t,.int .i64 l,.int .i64 b,.int .i64 r],.bool true]) (by simp [results,results20,go_sem,z0,z1,z2,z3,z4]) rfl ⟨by rw [HV'.out,HO.out],?_⟩;exact sB
theorem zJ9 (blk off n cap:Nat) (F:Nat->Wpl.Cl) (w:World) (hn0:0<n) (hn:n<=1000000000000000) (hcap:n<=cap) (hcap2:cap<=9223372036854775807) (hb:blk<w.heap.size) (hc:Cells w blk off n F) (hA:Wpl.anyN (F 0).s F n=false) (hc1:¬ cap=1) :
  CR 20 #[.slice (some ⟨blk,off,none⟩) n cap] w (.tuple #[.agg #[.int .i64 (Wpl.hullV F n).s,.int .i64 (Wpl.hullV F n).t,.int .i64 (Wpl.hullV F n).l,.int .i64 (Wpl.hullV F n).b,.int .i64 (Wpl.hullV F n).r],.bool (Wpl.hullOk F n)]):=by
 obtain ⟨x0,x1,x2⟩:=hc 0 hn0;simp only [Nat.zero_mul,Nat.add_zero] at x0 x1 x2;have hmf:∀ (fn:Fn) (first cap:Array Value) (w:World),(Instr.makeFunc fn first cap).run prog w=.ok (.func fn first cap) w:=λ_ _ _ _=>rfl
 have C:=λw h1 h2=>zBo (F 0).s blk off n cap F w hn h1 h2
 rw [hA] at C;have HA:Hid (Wpl.anyN (F 0).s F n=false):=hA;clear hA;have E0:Hid (Wpl.hullU F 0=⟨(F 0).s,(F 0).r,(F 0).c,(F 0).r,(F 0).c⟩):=(rfl:Wpl.hullU F 0=⟨(F 0).s,(F 0).r,(F 0).c,(F 0).r,(F 0).c⟩)
 have HO:Hid (Wpl.hullOk F n=true):=by show _=_;unfold Wpl.hullOk;rw [HA.out,decide_eq_true (show n ≠ 0 by omega)];rfl
 have HV:Hid (Wpl.hullV F n=Wpl.hullU F (n - 1)):=by show _=_;unfold Wpl.hullV;rw [HO.out];rfl
 clear HA;generalize (F 0).s=s0 at *;generalize (F 0).r=r0 at *;generalize (F 0).c=c0 at *;have hnz:((n:Int) == 0)=false:=by simp;omega
 go_enter func20,ntmps20;go_wp2_with fail
 refine (C _ (by simp [go_sem];omega) (hc.below hb ((Below.refl _ _).alloc (Nat.le_refl _) _))).mono ?_;rintro e w1 ⟨rfl,hb1⟩;have pR:AtL w1 w.heap.size [.int .i64 0,.int .i64 0,.int .i64 0,.int .i64 0,.int .i64 0]:=AtL.below hb1 (AtL.new w _ rfl _);have hB:Below w.heap.size w w1:=clA
 have y0:w1.cell? ⟨blk,off,none⟩=some (.int .i64 s0):=(hB.cell (p:=⟨blk,off,none⟩) hb).trans x0;have y1:w1.cell? ⟨blk,off+1,none⟩=some (.int .i64 r0):=(hB.cell (p:=⟨blk,off+1,none⟩) hb).trans x1;have y2:w1.cell? ⟨blk,off+2,none⟩=some (.int .i64 c0):=(hB.cell (p:=⟨blk,off+2,none⟩) hb).trans x2;have hb':blk<w1.heap.size:=Nat.lt_of_lt_of_le hb hB.size;have hz1:=hB.size;clear hb1 x0 x1 x2 C;go_wp2_with fail
 have pA:AtL ((w1.alloc (.cells #[.int .i64 s0,.int .i64 r0,.int .i64 c0] 24)).alloc (.cells #[.int .i64 s0,.int .i64 r0,.int .i64 c0,.int .i64 r0,.int .i64 c0] 45)) (w1.heap.size+1) [.int .i64 s0,.int .i64 r0,.int .i64 c0,.int .i64 r0,.int .i64 c0]:=AtL.new (w1.alloc _) _ (by simp [go_sem]) _;have pR':=(pR.alloc (.cells #[.int .i64 s0,.int .i64 r0,.int .i64 c0] 24)).alloc (.cells #[.int .i64 s0,.int .i64 r0,.int .i64 c0,.int .i64 r0,.int .i64 c0] 45);have pB:=zC3 (zC3 hB (.cells #[.int .i64 s0,.int .i64 r0,.int .i64 c0] 24)) (.cells #[.int .i64 s0,.int .i64 r0,.int .i64 c0,.int .i64 r0,.int .i64 c0] 45);clear y0 y1 y2 pR hB;generalize hk:w1.heap.size+1=k at *;have hkw:w.heap.size<k:=by omega
 generalize (w1.alloc (.cells #[.int .i64 s0,.int .i64 r0,.int .i64 c0] 24)).alloc (.cells #[.int .i64 s0,.int .i64 r0,.int .i64 c0,.int .i64 r0,.int .i64 c0] 45)=W2 at *;go_loopw [7,38] (λ_ i wr=>∃ (j:Nat) (t l b r:Int),j<=n - 1/\i=.int .i64 j/\Hid (Wpl.hullU F j=⟨s0,t,l,b,r⟩)/\Below w.heap.size w wr/\AtL wr w.heap.size [.int .i64 0,.int .i64 0,.int .i64 0,.int .i64 0,.int .i64 0]/\AtL wr k [.int .i64 s0,.int .i64 t,.int .i64 l,.int .i64 b,.int .i64 r]) (λ_ i _=>n - (intOf i).toNat)
 case atStart=>exact ⟨0,r0,c0,r0,c0,Nat.zero_le _,rfl,E0,pB,pR',pA⟩
 case round =>
  clear pB pR' pA;obtain ⟨j,t,l,b,r,hj,rfl,E,qB,qR,qA⟩:=hrel;by_cases hlt:j<n - 1
  ·have hltz:(j:Int)<((n - 1:Nat):Int):=by omega
   obtain ⟨x0,x1,x2⟩:=hc (j+1) (by omega);have y0:wr.cell? ⟨blk,off+3+j * 3,none⟩=some (.int .i64 (F (j+1)).s):=by
    have:=(qB.cell (p:=⟨blk,off+(j+1) * 3,none⟩) hb).trans x0;rwa [show off+(j+1) * 3=off+3+j * 3 by omega] at this
   have y1:wr.cell? ⟨blk,off+3+j * 3+1,none⟩=some (.int .i64 (F (j+1)).r):=by
    have:=(qB.cell (p:=⟨blk,off+(j+1) * 3+1,none⟩) hb).trans x1;rwa [show off+(j+1) * 3+1=off+3+j * 3+1 by omega] at this
   have y2:wr.cell? ⟨blk,off+3+j * 3+2,none⟩=some (.int .i64 (F (j+1)).c):=by
    have:=(qB.cell (p:=⟨blk,off+(j+1) * 3+2,none⟩) hb).trans x2;rwa [show off+(j+1) * 3+2=off+3+j * 3+2 by omega] at this
   have E1:Hid (Wpl.hullU F (j+1)=⟨s0,min t (F (j+1)).r,min l (F (j+1)).c,max b (F (j+1)).r,max r (F (j+1)).c⟩):=by show Wpl.grow (Wpl.hullU F j) (F (j+1))=_;rw [E.out];rfl
   clear x0 x1 x2 E;generalize (F (j+1)).s=sj at *;generalize (F (j+1)).r=rj at *;generalize (F (j+1)).c=cj at *;have sA:=qA.alloc (.cells #[.int .i64 sj,.int .i64 rj,.int .i64 cj] 24);have sR:=qR.alloc (.cells #[.int .i64 sj,.int .i64 rj,.int .i64 cj] 24);have sC:AtL (wr.alloc (.cells #[.int .i64 sj,.int .i64 rj,.int .i64 cj] 24)) wr.heap.size [.int .i64 sj,.int .i64 rj,.int .i64 cj]:=AtL.new wr _ rfl _;have sB:=zC3 qB (.cells #[.int .i64 sj,.int .i64 rj,.int .i64 cj] 24);have hkr:k<wr.heap.size:=qA.lt;go_upto_region 8 with fail
   clear qA qR qB y0 y1 y2;generalize wr.alloc (.cells #[.int .i64 sj,.int .i64 rj,.int .i64 cj] 24)=W3 at *;generalize wr.heap.size=kc at *;obtain ⟨a0,a1,a2,a3,a4,f0,f1,f2,f3,f4⟩:=sA.five;obtain ⟨z0,z1,z2,g0,g1,g2⟩:=sC.three;have hkc:¬ kc=k:=by omega
   go_cut [] (λwx=>Below w.heap.size w wx/\AtL wx w.heap.size [.int .i64 0,.int .i64 0,.int .i64 0,.int .i64 0,.int .i64 0]/\AtL wx kc [.int .i64 sj,.int .i64 rj,.int .i64 cj]/\∃ t' b':Int,Hid (t'=min t rj)/\Hid (b'=max b rj)/\AtL wx k [.int .i64 s0,.int .i64 t',.int .i64 l,.int .i64 b',.int .i64 r])
   case first =>
    go_region
    go_wp2_with fail
    all_goals go_meet
    all_goals
     clear a0 a1 a2 a3 a4 f0 f1 f2 f3 f4 z0 z1 z2 g0 g1 g2;refine ⟨((sB.setCell (p:=⟨k,1,none⟩) (by show w.heap.size<=k;omega) _).setCell (p:=⟨k,3,none⟩) (by show w.heap.size<=k;omega) _).drew,((sR.far (j:=k) (by omega) 1 _).far (j:=k) (by omega) 3 _).drew,((sC.far (j:=k) (by omega) 1 _).far (j:=k) (by omega) 3 _).drew,_,_,?_,?_,((sA.set 1 _).set 3 _).drew⟩
     ·go_light;show _=_;omega
     ·go_light;show _=_;omega
   case rest =>
   clear sA sR sC sB a0 a1 a2 a3 a4 f0 f1 f2 f3 f4 z0 z1 z2 g0 g1 g2;obtain ⟨tB,tR,tC,t',b',Et,Eb,tA⟩:=hcut;rw [<-Et.out,<-Eb.out] at E1;clear Et Eb;go_upto_region 9 with fail
   obtain ⟨a0,a1,a2,a3,a4,f0,f1,f2,f3,f4⟩:=AtL.five tA;obtain ⟨z0,z1,z2,g0,g1,g2⟩:=tC.three;refine zN9 λK9 hK9=>?_
   go_cut [] (λwx=>Below w.heap.size w wx/\AtL wx w.heap.size [.int .i64 0,.int .i64 0,.int .i64 0,.int .i64 0,.int .i64 0]/\∃ l' r':Int,Hid (l'=min l cj)/\Hid (r'=max r cj)/\AtL wx k [.int .i64 s0,.int .i64 t',.int .i64 l',.int .i64 b',.int .i64 r'])
   case first =>
    go_region
    go_wp2_with fail
    all_goals go_meet
    all_goals
     clear a0 a1 a2 a3 a4 f0 f1 f2 f3 f4 z0 z1 z2 g0 g1 g2;refine ⟨((tB.setCell (p:=⟨k,2,none⟩) (by show w.heap.size<=k;omega) _).setCell (p:=⟨k,4,none⟩) (by show w.heap.size<=k;omega) _).drew,((tR.far (j:=k) (by omega) 2 _).far (j:=k) (by omega) 4 _).drew,_,_,?_,?_,((AtL.set tA 2 _).set 4 _).drew⟩
     ·go_light;show _=_;omega
     ·go_light;show _=_;omega
   case rest =>
   obtain ⟨vB,vR,l',r',El,Er,vA⟩:=hcut;rw [<-El.out,<-Er.out] at E1;clear El Er;clear tB tR tA tC a0 a1 a2 a3 a4 f0 f1 f2 f3 f4 z0 z1 z2 g0 g1 g2;refine hK9 _ _ ?_;go_wp2_with fail
   go_roundw
   case rel =>
    exact ⟨j+1,t',l',b',r',by omega,by go_num,E1,vB,vR,vA⟩
   case measure=>simp [intOf];omega
  ·have hltz:¬ (j:Int)<((n - 1:Nat):Int):=by omega
   have hj':j=n - 1:=by omega
   have HV':Hid (Wpl.hullV F n=⟨s0,t,l,b,r⟩):=by show _=_;rw [HV.out,<-hj',E.out]
   clear hj' E HV;have sR:=qR.put5 (.int .i64 s0) (.int .i64 t) (.int .i64 l) (.int .i64 b) (.int .i64 r);have sB:=zCA qB (Nat.le_refl w.heap.size) (.int .i64 s0) (.int .i64 t) (.int .i64 l) (.int .i64 b) (.int .i64 r);obtain ⟨a0,a1,a2,a3,a4,f0,f1,f2,f3,f4⟩:=qA.five;obtain ⟨z0,z1,z2,z3,z4,g0,g1,g2,g3,g4⟩:=qR.five;go_wp2;obtain ⟨r0',r1,r2,r3,r4,_,_,_,_,_⟩:=sR.five;refine bodyPost_ret (v:=.tuple #[.agg #[.int .i64 s0,.int .i64 t,.int .i64 l,.int .i64 b,.int .i64 r],.bool true]) (by simp [results,results20,go_sem,z0,z1,z2,z3,z4]) rfl ⟨by rw [HV'.out,HO.out],?_⟩;exact sB
theorem zGv (blk off n cap:Nat) (F:Nat->Wpl.Cl) (w:World) (hn0:0<n) (hn:n<=1000000000000000) (hcap:n<=cap) (hcap2:cap<=9223372036854775807) (hb:blk<w.heap.size) (hc:Cells w blk off n F) :
  CR 20 #[.slice (some ⟨blk,off,none⟩) n cap] w (.tuple #[.agg #[.int .i64 (Wpl.hullV F n).s,.int .i64 (Wpl.hullV F n).t,.int .i64 (Wpl.hullV F n).l,.int .i64 (Wpl.hullV F n).b,.int .i64 (Wpl.hullV F n).r],.bool (Wpl.hullOk F n)]):=by
 cases hA:Wpl.anyN (F 0).s F n with
 | true=>exact zI4 blk off n cap F w hn0 hn hcap hcap2 hb hc hA
 | false =>
  by_cases h1:cap=1
  ·exact zKi blk off n cap F w hn0 hn hcap hcap2 hb hc hA h1
  ·exact zJ9 blk off n cap F w hn0 hn hcap hcap2 hb hc hA h1
theorem zDY (s t l b r:Int):(Wpl.rightC s t l && (Wpl.rightC s b r && (decide (t<=b) && decide (l<=r))))=Wpl.rightA s t l b r:=by
 rw [Bool.eq_iff_iff];simp only [Bool.and_eq_true,Wpl.rightC_iff,Wpl.rightA_iff,decide_eq_true_eq];omega
theorem zAq (s t l b r:Int) (w:World) :
  CR 72 #[.agg #[.int .i64 s,.int .i64 t,.int .i64 l,.int .i64 b,.int .i64 r]] w (.bool (Wpl.rightA s t l b r)):=by
 have RH:Hid ((Wpl.rightC s t l && (Wpl.rightC s b r && (decide (t<=b) && decide (l<=r))))=Wpl.rightA s t l b r):=zDY s t l b r;have R1:=λw=>zAm s t l w
 have R2:=λw=>zAm s b r w
 have F:=λw=>zJN s t l b r w
 have L:=λw=>zKy s t l b r w
 generalize Wpl.rightC s t l=q1 at *;generalize Wpl.rightC s b r=q2 at *;generalize Wpl.rightA s t l b r=A at *;have pA:=AtL.new0 w 45 [.int .i64 s,.int .i64 t,.int .i64 l,.int .i64 b,.int .i64 r];have hB:=zC3 (Below.refl _ w) (.cells #[.int .i64 s,.int .i64 t,.int .i64 l,.int .i64 b,.int .i64 r] 45);go_enter func72,ntmps72;go_upto_region 1 with fail
 generalize w.alloc (.cells #[.int .i64 s,.int .i64 t,.int .i64 l,.int .i64 b,.int .i64 r] 45)=W0 at *;obtain ⟨a0,a1,a2,a3,a4,_,_,_,_,_⟩:=pA.five;go_wp2_with fail
 refine (F _).mono ?_;rintro e w1 ⟨rfl,hb1⟩;replace pA:=AtL.below hb1 pA
 replace hB:=zAn hB hb1
 clear a0 a1 a2 a3 a4 hb1 F;go_wp2_with fail
 refine (R1 _).mono ?_;rintro e w2 ⟨rfl,hb2⟩;replace pA:=AtL.below hb2 pA
 replace hB:=zAn hB hb2
 clear hb2 R1;obtain ⟨a0,a1,a2,a3,a4,_,_,_,_,_⟩:=pA.five;cases q1 with
 | false =>
  go_wp2;go_ret;exact ⟨by rw [<-RH.out];rfl,hB⟩
 | true =>
  go_wp2_with fail
  refine (L _).mono ?_;rintro e w3 ⟨rfl,hb3⟩;replace pA:=AtL.below hb3 pA
  replace hB:=zAn hB hb3
  clear a0 a1 a2 a3 a4 hb3 L;go_wp2_with fail
  refine (R2 _).mono ?_;rintro e w4 ⟨rfl,hb4⟩;replace pA:=AtL.below hb4 pA
  replace hB:=zAn hB hb4
  clear hb4 R2;obtain ⟨a0,a1,a2,a3,a4,_,_,_,_,_⟩:=pA.five;cases q2 with
  | false =>
   go_wp2;go_ret;exact ⟨by rw [<-RH.out];rfl,hB⟩
  | true =>
   by_cases h1:t<=b
   ·by_cases h2:l<=r
    ·go_wp2;go_ret;exact ⟨by rw [<-RH.out];simp [h1,h2],hB⟩
    ·go_wp2;go_ret;exact ⟨by rw [<-RH.out];simp [h1],hB⟩
   ·go_wp2;go_ret;exact ⟨by rw [<-RH.out];simp;omega,hB⟩
def RtN (x:Wt.Nd):Prop:=Wt.inR x.a.r x.a.c=true/\Wt.inR x.b.r x.b.c=true
theorem zDn (h:Wt.right x=true) (hk:x.k=3):RtN x:=by
 unfold Wt.right at h;rw [if_neg (by omega),if_neg (by omega),if_pos hk] at h;simp only [Bool.and_eq_true,Wt.rfOk] at h;exact ⟨h.1.1.1.1,h.1.1.2.1⟩
theorem zIB (h:RtN x):Wpl.hullV (λi=>if i=0 then ⟨0,x.a.r,x.a.c⟩ else ⟨0,x.b.r,x.b.c⟩) 2=zCN x:=by
 obtain ⟨h1,h2⟩:=h;simp only [Wt.inR,Bool.and_eq_true,decide_eq_true_eq] at h1 h2;have ho:Wpl.hullOk (λi=>if i=0 then ⟨0,x.a.r,x.a.c⟩ else ⟨0,x.b.r,x.b.c⟩) 2=true:=by
  simp [Wpl.hullOk,Wpl.anyN,Wpl.lacks,Wpl.rightC,Wpl.inB];omega
 unfold Wpl.hullV;rw [ho,if_pos rfl];show Wpl.grow (Wpl.oneA ⟨0,x.a.r,x.a.c⟩) ⟨0,x.b.r,x.b.c⟩=zCN x
 simp [Wpl.grow,Wpl.oneA,zCN]
theorem zF4 (h:RtN x):SmA (zCN x):=by
 obtain ⟨h1,h2⟩:=h;simp only [Wt.inR,Bool.and_eq_true,decide_eq_true_eq] at h1 h2;simp only [SmA,zCN];omega
theorem zDo (x:Wt.Nd) (w:World) (hx:RtN x):CR 115 #[.agg (zAM x).toArray] w (.agg (ar5 (zCN x)).toArray):=by
 obtain ⟨r,hrx⟩:∃ r,zCN x=r:=⟨_,rfl⟩
 have hh:=zIB hx;rw [hrx] at hh;rw [hrx];clear hrx;have HH:Hid (Wpl.hullV (λi=>if i=0 then ⟨0,x.a.r,x.a.c⟩ else ⟨0,x.b.r,x.b.c⟩) 2=r):=hh;have hb1:=zAJ (zAJ (Below.refl _ w) (.cells (zAM x).toArray 56)) (.cells #[.int .i64 0,.int .i64 0,.int .i64 0,.int .i64 0,.int .i64 0] 45);have pN:=(AtL.new0 w 56 (zAM x)).alloc (.cells #[.int .i64 0,.int .i64 0,.int .i64 0,.int .i64 0,.int .i64 0] 45);have pA:=AtL.new1 w (.cells (zAM x).toArray 56) 45 [.int .i64 0,.int .i64 0,.int .i64 0,.int .i64 0,.int .i64 0];have c11:=pN.2.1 11 (.int .i64 x.a.r) rfl;have c12:=pN.2.1 12 (.int .i64 x.a.c) rfl;have c16:=pN.2.1 16 (.int .i64 x.b.r) rfl;have c17:=pN.2.1 17 (.int .i64 x.b.c) rfl;clear pN hx hh;go_enter func115,ntmps115;go_upto_region 1 with fail
 generalize ((w.alloc (.cells (zAM x).toArray 56)).alloc (.cells [.int .i64 0,.int .i64 0,.int .i64 0,.int .i64 0,.int .i64 0].toArray 45))=W at *;have pC:=AtL.new0 W 24 [.int .i64 0,.int .i64 x.a.r,.int .i64 x.a.c,.int .i64 0,.int .i64 x.b.r,.int .i64 x.b.c];have hbC:=zAJ (Below.refl _ W) (.cells #[.int .i64 0,.int .i64 x.a.r,.int .i64 x.a.c,.int .i64 0,.int .i64 x.b.r,.int .i64 x.b.c] 24);have hC:Cells (W.alloc (.cells #[.int .i64 0,.int .i64 x.a.r,.int .i64 x.a.c,.int .i64 0,.int .i64 x.b.r,.int .i64 x.b.c] 24)) W.heap.size 0 2 (λi=>if i=0 then ⟨0,x.a.r,x.a.c⟩ else ⟨0,x.b.r,x.b.c⟩):=λj hj=>by
  rcases (show j=0 \/ j=1 by omega) with rfl | rfl
  ·exact ⟨pC.2.1 0 _ rfl,pC.2.1 1 _ rfl,pC.2.1 2 _ rfl⟩
  ·exact ⟨pC.2.1 3 _ rfl,pC.2.1 4 _ rfl,pC.2.1 5 _ rfl⟩
 have HL:=zGv W.heap.size 0 2 2 _ _ (by omega) (by omega) (by omega) (by omega) pC.lt hC;rw [HH.out] at HL;generalize Wpl.hullOk (λi=>if i=0 then (⟨0,x.a.r,x.a.c⟩:Wpl.Cl) else ⟨0,x.b.r,x.b.c⟩) 2=ok at HL;have hB2:=zAB hb1 hbC;have pA2:=AtL.below hbC pA;clear hC pC hbC hb1 pA HH;go_wp2_with fail
 refine HL.mono ?_;rintro e w1 ⟨rfl,hb3⟩;have hB3:=zAB hB2 hb3;have pA3:=AtL.below hb3 pA2;have hb4:=zAJ (Below.refl _ w1) (.cells (ar5 r).toArray 45);have pR:=AtL.new0 w1 45 (ar5 r);have hB4:=zAB hB3 hb4;have pA4:=AtL.below hb4 pA3;clear c11 c12 c16 c17 HL hb3 hb4 pA3 pA2 hB2 hB3;go_upto_region 2 with fail
 generalize (w1.alloc (.cells (ar5 r).toArray 45))=W4 at *;obtain ⟨b0,b1,b2,b3,b4,k0,k1,k2,k3,k4⟩:=pA4.five;obtain ⟨r0,r1,r2,r3,r4,_,_,_,_,_⟩:=pR.five;go_wp2;have HLT:=pA4.lt;refine bodyPost_ret (v:=.agg (ar5 r).toArray) (by simp [results,results115,go_sem,b0,b1,b2,b3,b4]) rfl ⟨rfl,(clB hB4)⟩
structure ApS (B:Nat) (w:World) (va vb:Value) (LA LB:List (Wt.Nd × Value)):Prop where
 a:OwnP w B va LA
 b:OwnP w B vb LB
 ne:∀ j,va.ownBlock=some j->¬ vb.ownBlock=some j
theorem ApS.below {w':World} (h:ApS B w va vb LA LB) (hb:Below w.heap.size w w'):ApS B w' va vb LA LB:=⟨h.a.below hb,h.b.below hb,h.ne⟩
theorem ApS.symm (h:ApS B w va vb LA LB):ApS B w vb va LB LA:=⟨h.b,h.a,λj e f=>h.ne j f e⟩
theorem ApS.app {v':Value} {LC:List (Wt.Nd × Value)} (h:ApS B w va vb LA LB) (own:OwnP w1 B v' LC) (hg:w.grownBy w1 va.ownBlock) (hv:v'.ownBlock=va.ownBlock \/ v'.ownBlock=some w.heap.size):ApS B w1 v' vb LC LB:=by
 have f1:Fr va.ownBlock.toList w w1:=Fr.of_grown hg (λj e=>by simp [e]);refine ⟨own,zAP f1 h.b (λj e hm=>h.ne j (by simpa using hm) e),λj e f=>?_⟩;rcases hv with hv | hv
 ·exact h.ne j (by rw [<-hv];exact e) f
 ·rw [hv] at e;cases e
  have:=(zAK h.b f).2;omega
theorem ApS.fr (h:ApS B w va vb LA LB) (hg:w.grownBy w1 va.ownBlock) {w0:World} (h0:Below w0.heap.size w0 w) (hB:w0.heap.size<=B):Below w0.heap.size w0 w1 :=
 zCs h0 (Fr.of_grown (S:=va.ownBlock.toList) hg (λj e=>by simp [e])) (λj hj=>by have:=(zAK h.a (show va.ownBlock=some j by simpa using hj)).1;omega)
def ApP (L:List (Wt.Nd × Value)) (w:World) (e:Ending) (w':World):Prop:=(∃ va vb,e=.returned (.tuple #[va,vb])/\OwnP w' w.heap.size va (L.filter λp=>isA p.1)/\OwnP w' w.heap.size vb (L.filter λp=>!isA p.1))/\Below w.heap.size w w'
theorem zEg (L:List (Wt.Nd × Value)) (av:Option Addr) (m cap:Nat) (w:World) (hm:m=L.length) (hl:L.length<=30) (hsl:∀ q ∈ L,∃ a b c,q.2=.slice a b c) (hR:RdQ w av L):Calls prog 93 #[.slice av m cap] w (ApP L w):=by
 unfold ApP;have HM:Hid (m=L.length/\L.length<=30):=⟨hm,hl⟩
 have HSL:Hid (∀ q ∈ L,∃ a b c,q.2=.slice a b c):=hsl;have HR:Hid (RdQ w av L):=hR;clear hm hl hsl hR;go_enter func93,ntmps93;go_wp2_with fail
 go_loopg [2,3,5,8] m (λgk u2 u3 u5 x wr=>∃ (i:Nat) (va vb:Value),va=u2/\vb=u3/\x=.int .i64 (i:Int)/\gk=m - i/\i<=m/\Hid (ApS w.heap.size wr va vb ((L.take i).filter λp=>isA p.1) ((L.take i).filter λp=>!isA p.1))/\Hid (Below w.heap.size w wr))
 case atStart=>exact ⟨0,_,_,rfl,rfl,rfl,rfl,Nat.zero_le _,⟨OwnP.nil _ _,OwnP.nil _ _,λj e=>by cases e⟩,Below.refl _ _⟩
 case round =>
  obtain ⟨i,va,vb,rfl,rfl,rfl,hg,hi,HA,HB⟩:=hrel;by_cases hlt:i<m
  ·have hli:(i:Int)<(m:Int):=by omega
   have hiz:(0:Int)<=(i:Int):=by omega
   have hwi:IntKind.i64.wrap ((i:Int)+1)=(i:Int)+1:=by have:=HM.out;rw [IntKind.wrap_i64];omega
   have hln:i<L.length:=by have:=HM.out;omega
   obtain ⟨bb,off,rfl,hr⟩:=(HR.out.below HB.out) i hln;have hs1:=HSL.out L[i] (List.getElem_mem hln);have HT:Hid (L.take (i+1)=L.take i++[L[i]]):=(List.take_succ_eq_append_getElem hln:_=_)
   have HLL:Hid (∀ (f:Wt.Nd × Value->Bool),((L.take i).filter f).length<=1000):=(λf=>by
    have h1:=List.length_filter_le f (L.take i);have h2:(L.take i).length<=L.length:=by rw [List.length_take];omega
    have:=HM.out.2;omega:∀ (f:Wt.Nd × Value->Bool),((L.take i).filter f).length<=1000)
   obtain ⟨x,hx⟩:∃ x,L[i]=x:=⟨_,rfl⟩
   rw [hx] at hr hs1 HT;obtain ⟨x,sl⟩:=x;simp only at hr hs1;obtain ⟨sa,sb,sc,rfl⟩:=hs1;have IA:=λw=>zB0 x (.slice sa sb sc) w
   clear hx hln;have hth:World.there (wr.alloc (.cells zeros21 76)) wr.heap.size 0 (zAL x (.slice sa sb sc)).toArray.size:=(AtL.new0 wr _ _:AtL (wr.alloc (.cells zeros21 76)) wr.heap.size zeros21.toList).there;have HPI:Hid (AtL ((wr.alloc (.cells zeros21 76)).setCells wr.heap.size 0 (zAL x (.slice sa sb sc))) wr.heap.size (zAL x (.slice sa sb sc))):=(AtL.new0 wr _ _:AtL (wr.alloc (.cells zeros21 76)) wr.heap.size zeros21.toList).setAll rfl;have HHB:Hid (Below wr.heap.size wr ((wr.alloc (.cells zeros21 76)).setCells wr.heap.size 0 (zAL x (.slice sa sb sc)))):=zAt (zAJ (Below.refl _ wr) _) (Nat.le_refl _) _ 0;go_upto_region 4 with (first | (refine zAA (by rfl) 76 (.tmp 10) rfl bb (off+i * 21) rfl (zAL x (.slice sa sb sc)) _ hr underlying76 rfl (by kernel_rfl) ?_) | ((with_reducible refine wpList_store_mid ?_ 76 (.tmp 5) (.tmp 11) ?_ wr.heap.size 0 (zAL x (.slice sa sb sc)).toArray ?_ ?_ ?_ ?_ ?_ ?_);rfl;rfl;rfl;rfl;exact hth;kernel_rfl;exact zCg _ _ _ _))
   have HB2:Hid (Below w.heap.size w ((wr.alloc (.cells zeros21 76)).setCells wr.heap.size 0 (zAL x (.slice sa sb sc)))):=zAB HB.out HHB.out;have HA2:=HA.out.below HHB.out;have HA3:Hid (ApS w.heap.size ((wr.alloc (.cells zeros21 76)).setCells wr.heap.size 0 (zAL x (.slice sa sb sc))) va vb ((L.take i).filter λp=>isA p.1) ((L.take i).filter λp=>!isA p.1)):=HA2;clear hth hr HHB HA2 HA HB;generalize ((wr.alloc (.cells zeros21 76)).setCells wr.heap.size 0 (zAL x (.slice sa sb sc)))=W2 at *;obtain ⟨ib,hib⟩:∃ k,wr.heap.size=k:=⟨_,rfl⟩
   rw [hib] at HPI;simp only [hib];clear hib;have rI:=HPI.out.range;have IA2:=IA W2;clear IA;cases hb:isA x with
   | true =>
    rw [hb] at IA2;go_wp2_with (first | (refine zAA (by rfl) 76 (.tmp 5) rfl ib 0 rfl (zAL x (.slice sa sb sc)) _ rI underlying76 rfl (by kernel_rfl) ?_))
    refine IA2.mono ?_;rintro e w3 ⟨rfl,hb3⟩;have rI3:=zAF hb3 rI;have hb4:=zAB hb3 (zAJ (Below.refl _ w3) (.cells (zAL x (.slice sa sb sc)).toArray 76));have HA4:Hid (ApS w.heap.size (w3.alloc (.cells (zAL x (.slice sa sb sc)).toArray 76)) va vb ((L.take i).filter λp=>isA p.1) ((L.take i).filter λp=>!isA p.1)):=HA3.out.below hb4;have HB4:Hid (Below w.heap.size w (w3.alloc (.cells (zAL x (.slice sa sb sc)).toArray 76))):=zAB HB2.out hb4;have HAT:Hid ((w3.alloc (.cells (zAL x (.slice sa sb sc)).toArray 76)).rangeAt w3.heap.size 0 (zAL x (.slice sa sb sc))):=(AtL.new0 w3 76 (zAL x (.slice sa sb sc))).range;clear hb3 hb4 rI HA3 HB2 HPI IA2;go_wp2_with (first
     | (refine zAA (by rfl) 76 (.tmp 5) rfl ib 0 rfl (zAL x (.slice sa sb sc)) _ rI3 underlying76 rfl (by kernel_rfl) ?_)
     | (refine zCM rfl (.tmp 15) rfl x sa sb sc rfl ?_;clear rI3)
     | (
       refine zCF rfl (.tmp 14) (.tmp 16) rfl (w3.alloc (.cells (zAL x (.slice sa sb sc)).toArray 76)) w.heap.size HB4.out.size va ((L.take i).filter λp=>isA p.1) rfl HA4.out.a w3.heap.size x sa sb sc rfl HAT.out (λ_=>HLL.out _) ?_;intro v7 w7 own7 hg7 hv7;have HA5:Hid (ApS w.heap.size w7 v7 vb ((L.take (i+1)).filter λp=>isA p.1) ((L.take (i+1)).filter λp=>!isA p.1)):=by
        show ApS _ _ _ _ _ _
        rw [HT.out,List.filter_append,List.filter_append,show [(x,Value.slice sa sb sc)].filter (λp=>isA p.1)=[(x,Value.slice sa sb sc)] from by simp [hb],show [(x,Value.slice sa sb sc)].filter (λp=>!isA p.1)=[] from by simp [hb],List.append_nil];exact HA4.out.app own7 hg7 hv7
       have HB5:Hid (Below w.heap.size w w7):=HA4.out.fr hg7 HB4.out (Nat.le_refl _);clear own7 hg7 hv7))
    go_roundg (m - (i+1))
    case rel=>exact ⟨i+1,_,_,rfl,rfl,by simp,rfl,hlt,HA5,HB5⟩
    case measure=>omega
   | false =>
    rw [hb] at IA2;go_wp2_with (first | (refine zAA (by rfl) 76 (.tmp 5) rfl ib 0 rfl (zAL x (.slice sa sb sc)) _ rI underlying76 rfl (by kernel_rfl) ?_))
    refine IA2.mono ?_;rintro e w3 ⟨rfl,hb3⟩;have rI3:=zAF hb3 rI;have hb4:=zAB hb3 (zAJ (Below.refl _ w3) (.cells (zAL x (.slice sa sb sc)).toArray 76));have HA4:Hid (ApS w.heap.size (w3.alloc (.cells (zAL x (.slice sa sb sc)).toArray 76)) va vb ((L.take i).filter λp=>isA p.1) ((L.take i).filter λp=>!isA p.1)):=HA3.out.below hb4;have HB4:Hid (Below w.heap.size w (w3.alloc (.cells (zAL x (.slice sa sb sc)).toArray 76))):=zAB HB2.out hb4;have HAT:Hid ((w3.alloc (.cells (zAL x (.slice sa sb sc)).toArray 76)).rangeAt w3.heap.size 0 (zAL x (.slice sa sb sc))):=(AtL.new0 w3 76 (zAL x (.slice sa sb sc))).range;clear hb3 hb4 rI HA3 HB2 HPI IA2;go_wp2_with (first
     | (refine zAA (by rfl) 76 (.tmp 5) rfl ib 0 rfl (zAL x (.slice sa sb sc)) _ rI3 underlying76 rfl (by kernel_rfl) ?_)
     | (refine zCM rfl (.tmp 19) rfl x sa sb sc rfl ?_;clear rI3)
     | (
       refine zCF rfl (.tmp 18) (.tmp 20) rfl (w3.alloc (.cells (zAL x (.slice sa sb sc)).toArray 76)) w.heap.size HB4.out.size vb ((L.take i).filter λp=>!isA p.1) rfl HA4.out.b w3.heap.size x sa sb sc rfl HAT.out (λ_=>HLL.out _) ?_;intro v7 w7 own7 hg7 hv7;have HA5:Hid (ApS w.heap.size w7 va v7 ((L.take (i+1)).filter λp=>isA p.1) ((L.take (i+1)).filter λp=>!isA p.1)):=by
        show ApS _ _ _ _ _ _
        rw [HT.out,List.filter_append,List.filter_append,show [(x,Value.slice sa sb sc)].filter (λp=>isA p.1)=[] from by simp [hb],show [(x,Value.slice sa sb sc)].filter (λp=>!isA p.1)=[(x,Value.slice sa sb sc)] from by simp [hb],List.append_nil];exact (HA4.out.symm.app own7 hg7 hv7).symm
       have HB5:Hid (Below w.heap.size w w7):=HA4.out.symm.fr hg7 HB4.out (Nat.le_refl _);clear own7 hg7 hv7))
    go_roundg (m - (i+1))
    case rel=>exact ⟨i+1,_,_,rfl,rfl,by simp,rfl,hlt,HA5,HB5⟩
    case measure=>omega
  ·have hli:¬ (i:Int)<(m:Int):=by omega
   have HA2:Hid (ApS w.heap.size wr va vb (L.filter λp=>isA p.1) (L.filter λp=>!isA p.1)):=by
    show ApS _ _ _ _ _ _
    have hie:i=L.length:=by have:=HM.out;omega
    have:=HA.out;rw [hie,List.take_length] at this;exact this
   clear HA;go_wp2;go_ret2
   exact ⟨⟨_,_,rfl,HA2.out.a,HA2.out.b⟩,HB.out⟩
