/- WalkF, TRefA, TRefB, PWalkS, PWalkN, KFormA, KFormB, KFormC. -/
import Derived.Test.YtefkclbaflkheaaGreatDoorQ33
set_option maxHeartbeats 4000000
set_option maxRecDepth 100000
namespace Go.Proofs.YtefkclbaflkheaaGreatDoor
open Tryz
open Go.RowKit
set_option linter.unusedVariables false
theorem zIu (a b:Nat) (w:World) (h1:a<=18446744073709551615) (h2:b<=18446744073709551615) :
  Calls prog 165 #[.int .u64 (a:Int),.int .u64 (b:Int)] w λe w'=>e=.returned (.int .u64 (Nat.gcd a b:Int))/\w=w':=by
 go_enter func165,ntmps165;go_wp2;go_loop [0,1,5] (λx y _=>∃ p q:Nat,x=.int .u64 p/\y=.int .u64 q/\p<=18446744073709551615/\q<=18446744073709551615/\Hid (Nat.gcd p q=Nat.gcd a b)) (λ_ y _=>(intOf y).toNat)
 case atStart=>exact ⟨a,b,rfl,rfl,h1,h2,(rfl:Nat.gcd a b=Nat.gcd a b)⟩
 case round =>
  obtain ⟨p,q,rfl,rfl,hp,hq,hg⟩:=hrel;by_cases hz:q=0
  ·subst hz;go_wp2;go_ret;exact ⟨zBg (by rw [<-hg.out,Nat.gcd_zero_right]),rfl⟩
  ·have hz':((q:Int) != 0)=true:=by simp;omega
   go_wp2;go_round
   case rel=>exact ⟨q,p % q,rfl,by go_num,hq,by have:=Nat.mod_lt p (Nat.pos_of_ne_zero hz);omega,by exact (show Nat.gcd q (p % q)=Nat.gcd a b by rw [<-hg.out,Nat.gcd_comm p q,Nat.gcd_rec q p,Nat.gcd_comm])⟩
   case measure=>simp [intOf];have:=Nat.mod_lt p (Nat.pos_of_ne_zero hz);omega
theorem zIm (a b:Int) (w:World) (h0:0<=a) (h1:a<=18446744073709551615) (h2:0<=b) (h3:b<=18446744073709551615) :
  Calls prog 165 #[.int .u64 a,.int .u64 b] w λe w'=>e=.returned (.int .u64 (Int.gcd a b:Int))/\w=w':=by
 obtain ⟨x,rfl⟩:=Int.eq_ofNat_of_zero_le h0;obtain ⟨y,rfl⟩:=Int.eq_ofNat_of_zero_le h2;exact zIu x y w (by omega) (by omega)
theorem zJ2 {P:Program} {f:FuncId} {args:Array Value} {w:World} {v:Value} (h:Calls P f args w λe w'=>e=.returned v/\w=w'):Calls P f args w λe w'=>e=.returned v/\w'=w :=
 h.mono λ_ _ ⟨a,b⟩=>⟨a,b.symm⟩
theorem zJf (n:Int) (w:World) (h1:-9223372036854775808<=n) (h2:n<=9223372036854775807) :
  Calls prog 166 #[.int .i64 n] w λe w'=>e=.returned (.int .u64 (n.natAbs:Int))/\w=w':=by
 by_cases h:n<0
 ·go_enter func166,ntmps166;go_wp2;go_ret;exact ⟨zBg (by omega),rfl⟩
 ·go_enter func166,ntmps166;go_wp2;go_ret;exact ⟨zBg (by omega),rfl⟩
theorem zEk (n d:Int) (w:World) (h1:-9223372036854775808<=n) (h2:n<=9223372036854775807) (h3:-9223372036854775808<=d) (h4:d<=9223372036854775807) :
  CR 144 #[.agg #[.int .i64 n,.int .i64 d]] w (.bool (Wnum.rightB n d)):=by
 by_cases c3:d<1
 ·have e:Hid (Wnum.rightB n d=false):=by show Wnum.rightB n d=false;unfold Wnum.rightB;rw [decide_eq_false_iff_not];omega
  rw [e.out];clear e;go_enter func144,ntmps144;go_wp2;go_ret;exact ⟨rfl,clA⟩
 by_cases c4:1000000<d
 ·have e:Hid (Wnum.rightB n d=false):=by show Wnum.rightB n d=false;unfold Wnum.rightB;rw [decide_eq_false_iff_not];omega
  rw [e.out];clear e;go_enter func144,ntmps144;go_wp2;go_ret;exact ⟨rfl,clA⟩
 by_cases c1:n < -1000000000000
 ·have e:Hid (Wnum.rightB n d=false):=by show Wnum.rightB n d=false;unfold Wnum.rightB;rw [decide_eq_false_iff_not];omega
  rw [e.out];clear e;go_enter func144,ntmps144;go_wp2;go_ret;exact ⟨rfl,clA⟩
 by_cases c2:1000000000000<n
 ·have e:Hid (Wnum.rightB n d=false):=by show Wnum.rightB n d=false;unfold Wnum.rightB;rw [decide_eq_false_iff_not];omega
  rw [e.out];clear e;go_enter func144,ntmps144;go_wp2;go_ret;exact ⟨rfl,clA⟩
 have e:Hid ((((Int.gcd (n.natAbs:Int) d:Nat):Int) == 1)=Wnum.rightB n d):=by
  show _=_
  have e0:Int.gcd (n.natAbs:Int) d=Int.gcd n d:=by simp [Int.gcd]
  rw [e0];unfold Wnum.rightB;by_cases g:Int.gcd n d=1
  ·rw [g,decide_eq_true (by omega)];rfl
  ·rw [decide_eq_false (by omega),beq_eq_false_iff_ne];omega
 rw [<-e.out];clear e;have hw:IntKind.u64.wrap d=d:=IntWalk.u64_in _ (by omega);have b0:(0:Int)<=(n.natAbs:Int):=by omega
 have b1:(n.natAbs:Int)<=18446744073709551615:=by omega
 have b2:0<=d:=by omega
 have b3:d<=18446744073709551615:=by omega
 go_enter func144,ntmps144;go_wp2;go_quiet (first | (go_at_call 166;exact Calls.quiet_of_same (zJ2 (zJf _ _ h1 h2))) | (go_at_call 165;exact Calls.quiet_of_same (zJ2 (zIm _ _ _ b0 b1 b2 b3))))
 go_wp2;go_ret;exact ⟨rfl,clA⟩
theorem zD7 (b:ByteArray) (w:World) (hs:b.size<=9223372036854775807):Calls prog 145 #[.string b] w λe w'=>e=.returned (.bool (Wv.prts b.data.toList))/\w=w':=by
 obtain ⟨R,hR⟩:∃ R,Wv.prts b.data.toList=R:=⟨_,rfl⟩
 have E0:Hid (R=Wv.prts (b.data.toList.drop 0)):=hR.symm;rw [hR];clear hR;go_enter func145,ntmps145;go_wp2_with fail
 go_loopg [3] (b.size) (λgk x wr=>∃ j:Nat,x=.int .i64 j/\gk=b.size - j/\j<=b.size/\Hid (R=Wv.prts (b.data.toList.drop j))/\wr=w)
 case atStart=>exact ⟨0,rfl,rfl,Nat.zero_le _,E0,rfl⟩
 case round =>
  obtain ⟨j,rfl,hg,hj,HR,rfl⟩:=hrel;by_cases hlt:j<b.size
  ·have hli:(j:Int)<(b.size:Int):=by omega
   have hd:=zBw b j hlt;have hp:=zFb (b[j]);by_cases c1:((b[j]).toNat:Int)<32
   ·have E:Hid (R=false):=by show _=_;rw [HR.out,hd,Wv.prts_cons,hp,decide_eq_false (by omega)];rfl
    clear HR hd hp;go_wp2;go_ret;exact ⟨by rw [E.out];rfl,rfl⟩
   ·by_cases c2:(126:Int)<((b[j]).toNat:Int)
    ·have E:Hid (R=false):=by show _=_;rw [HR.out,hd,Wv.prts_cons,hp,decide_eq_false (p:=((b[j]).toNat:Int)<=126) (by omega)];simp
     clear HR hd hp;go_wp2;go_ret;exact ⟨by rw [E.out];rfl,rfl⟩
    ·have E:Hid (R=Wv.prts (b.data.toList.drop (j+1))):=by show _=_;rw [HR.out,hd,Wv.prts_cons,hp,decide_eq_true (by omega),decide_eq_true (by omega)];rfl
     clear HR hd hp;go_wp2_with fail
     go_roundg (b.size - (j+1))
     case rel=>exact ⟨j+1,by simp,rfl,hlt,E,by first | trivial | rfl⟩
     case measure=>omega
  ·have hli:¬ (j:Int)<(b.size:Int):=by omega
   have E:Hid (R=true):=by show _=_;rw [HR.out,zB6 b j hlt];rfl
   clear HR;go_wp2;go_ret;exact ⟨by rw [E.out];rfl,rfl⟩
theorem zGx (n d:Int) (t:ByteArray) (b:Bool) (f:Int) (w:World) :
  CR 102 #[.agg #[.int .i64 0,.int .i64 n,.int .i64 d,.string t,.bool b,.int .i64 f]] w (.bool (Wv.right 0 n d t b f)):=by
 rw [<-zLL];have hq:=zAu 0 n d t b f 0 0 0 ⟨#[]⟩ false 0;generalize eqV 0 n d t b f 0 0 0 ⟨#[]⟩ false 0=R at *;go_enter func102,ntmps102;go_wp2;go_ret;exact ⟨rfl,clA⟩
theorem zGM (n d:Int) (t:ByteArray) (b:Bool) (f:Int) (w:World) (h1:-9223372036854775808<=n) (h2:n<=9223372036854775807) (h3:-9223372036854775808<=d) (h4:d<=9223372036854775807) :
  CR 102 #[.agg #[.int .i64 1,.int .i64 n,.int .i64 d,.string t,.bool b,.int .i64 f]] w (.bool (Wv.right 1 n d t b f)):=by
 rw [<-zLb];have C:=λw=>zEk n d w h1 h2 h3 h4
 have hq:=zAu 1 n d t b f 1 n d ⟨#[]⟩ false 0;generalize eqV 1 n d t b f 1 n d ⟨#[]⟩ false 0=R at *;generalize Wnum.rightB n d=q at *;have pA:AtL (w.alloc (.cells #[.int .i64 1,.int .i64 n,.int .i64 d,.string t,.bool b,.int .i64 f] 31)) w.heap.size [.int .i64 1,.int .i64 n,.int .i64 d,.string t,.bool b,.int .i64 f]:=AtL.new0 w _ _;cases q
 all_goals
  go_enter func102,ntmps102;go_wp2_with fail
  refine (C _).mono ?_;rintro e w1 ⟨rfl,hb⟩;have pA1:=AtL.below hb pA;obtain ⟨a0,a1,a2,a3,a4,a5⟩:=pA1.f6;have hB1:=zAB (zAK (Below.refl _ w) _) hb;go_wp2;go_ret;exact ⟨by simp,hB1⟩
theorem zGV (n d:Int) (t:ByteArray) (b:Bool) (f:Int) (w:World) (hs:t.size<=9223372036854775807) :
  CR 102 #[.agg #[.int .i64 2,.int .i64 n,.int .i64 d,.string t,.bool b,.int .i64 f]] w (.bool (Wv.right 2 n d t b f)):=by
 rw [<-zLK];have C:=λw=>zD7 t w hs
 have hq:=zAu 2 n d t b f 2 0 0 t false 0;generalize eqV 2 n d t b f 2 0 0 t false 0=R at *;generalize Wv.prts t.data.toList=q at *;by_cases hl:t.size<=256
 ·have hli:(t.size:Int)<=256:=by omega
  rw [decide_eq_true hl];cases q
  all_goals
   go_enter func102,ntmps102;go_wp2_with fail
   refine (C _).mono ?_;rintro e w1 ⟨rfl,rfl⟩;go_wp2;go_ret;exact ⟨by simp,clA⟩
 ·have hli:¬ (t.size:Int)<=256:=by omega
  rw [decide_eq_false hl];cases q
  all_goals
   go_enter func102,ntmps102;go_wp2_with fail
   refine (C _).mono ?_;rintro e w1 ⟨rfl,rfl⟩;go_wp2;go_ret;exact ⟨by simp,clA⟩
theorem zHG (n d:Int) (t:ByteArray) (b:Bool) (f:Int) (w:World) :
  CR 102 #[.agg #[.int .i64 3,.int .i64 n,.int .i64 d,.string t,.bool b,.int .i64 f]] w (.bool (Wv.right 3 n d t b f)):=by
 rw [<-zLr];have hq:=zAu 3 n d t b f 3 0 0 ⟨#[]⟩ b 0;generalize eqV 3 n d t b f 3 0 0 ⟨#[]⟩ b 0=R at *;go_enter func102,ntmps102;go_wp2;go_ret;exact ⟨rfl,clA⟩
theorem zG9 (n d:Int) (t:ByteArray) (b:Bool) (f:Int) (w:World) :
  CR 102 #[.agg #[.int .i64 4,.int .i64 n,.int .i64 d,.string t,.bool b,.int .i64 f]] w (.bool (Wv.right 4 n d t b f)):=by
 rw [<-zLN];have hq:=zAu 4 n d t b f 4 0 0 ⟨#[]⟩ false f;generalize eqV 4 n d t b f 4 0 0 ⟨#[]⟩ false f=R at *;unfold Wv.flt;by_cases h1:1<=f
 ·by_cases h8:f<=8
  ·rw [decide_eq_true h1,decide_eq_true h8];go_enter func102,ntmps102;go_wp2;go_ret;exact ⟨by simp,clA⟩
  ·rw [decide_eq_true h1,decide_eq_false h8];go_enter func102,ntmps102;go_wp2;go_ret;exact ⟨by simp,clA⟩
 ·rw [decide_eq_false h1];go_enter func102,ntmps102;go_wp2;go_ret;exact ⟨by simp,clA⟩
theorem zHB (k n d:Int) (t:ByteArray) (b:Bool) (f:Int) (w:World) (hk:k<0 \/ 4<k) :
  CR 102 #[.agg #[.int .i64 k,.int .i64 n,.int .i64 d,.string t,.bool b,.int .i64 f]] w (.bool (Wv.right k n d t b f)):=by
 have E:Hid (Wv.right k n d t b f=false):=by
  show _=_
  unfold Wv.right;rw [if_neg (by omega),if_neg (by omega),if_neg (by omega),if_neg (by omega),if_neg (by omega)]
 rw [E.out];clear E;have k0:(k == 0)=false:=by rw [beq_eq_false_iff_ne];omega
 have k1:(k == 1)=false:=by rw [beq_eq_false_iff_ne];omega
 have k2:(k == 2)=false:=by rw [beq_eq_false_iff_ne];omega
 have k3:(k == 3)=false:=by rw [beq_eq_false_iff_ne];omega
 have k4:(k == 4)=false:=by rw [beq_eq_false_iff_ne];omega
 clear hk;go_enter func102,ntmps102;go_wp2;go_ret;exact ⟨rfl,clA⟩
theorem zEA (v:Wt.Vl) (w:World) (hf:Wt.FitV v) :
  CR 102 #[.agg #[.int .i64 v.k,.int .i64 v.n,.int .i64 v.d,.string v.t,.bool v.b,.int .i64 v.f]] w (.bool (Wv.right v.k v.n v.d v.t v.b v.f)):=by
 obtain ⟨k,n,d,t,b,f⟩:=v;obtain ⟨⟨h1,h2⟩,⟨h3,h4⟩,hs⟩:=hf;simp only at *;by_cases k0:k=0
 ·subst k0;exact zGx n d t b f w
 by_cases k1:k=1
 ·subst k1;exact zGM n d t b f w h1 h2 h3 h4
 by_cases k2:k=2
 ·subst k2;exact zGV n d t b f w hs
 by_cases k3:k=3
 ·subst k3;exact zHG n d t b f w
 by_cases k4:k=4
 ·subst k4;exact zG9 n d t b f w
 exact zHB k n d t b f w (by omega)
def zFQ (small:Bool) (c:UInt8):Bool:=Wlx.cap c || (small && Wlx.low c)
def zFB (small:Bool) (j:Nat) (l:List UInt8):Bool:=(decide (0<j) || zFQ small (l.headD 0) || l.isEmpty) && l.all (λc=>zFQ small c || Wlx.dig c)
theorem zFe (small:Bool) (j:Nat) (l:List UInt8):zFB small (j+1) l=l.all (λc=>zFQ small c || Wlx.dig c):=by simp [zFB]
theorem zFm (small:Bool) (l:List UInt8) (h0:1<=l.length) (h1:l.length<=16):Wt.isNm (zFQ small) l=zFB small 0 l:=by
 unfold Wt.isNm zFB;cases l with
 | nil=>simp at h0
 | cons c r=>rw [decide_eq_true h0,decide_eq_true h1];simp
theorem zFx (small:Bool) (j:Nat) (c:UInt8) (r:List UInt8):zFB small j (c::r)=((zFQ small c || (decide (0<j) && Wlx.dig c)) && zFB small (j+1) r):=by
 rw [zFe];unfold zFB;simp only [List.headD_cons,List.isEmpty_cons,List.all_cons,Bool.or_false];cases decide (0<j) <;> cases zFQ small c <;> cases Wlx.dig c <;> simp
theorem zL0 (small:Bool) (b:ByteArray) (w:World) (hs:b.size<=9223372036854775807) :
  Calls prog 131 #[.string b,.bool small] w λe w'=>e=.returned (.bool (Wt.isNm (zFQ small) b.data.toList))/\w=w':=by
 have hl:b.data.toList.length=b.size:=rfl;by_cases h1:(b.size:Int)<1
 ·have E:Hid (Wt.isNm (zFQ small) b.data.toList=false):=by
   show _=_
   unfold Wt.isNm;rw [hl,decide_eq_false (by omega)];simp
  rw [E.out];clear E;go_enter func131,ntmps131;go_wp2;go_ret;exact ⟨rfl,rfl⟩
 by_cases h16:(16:Int)<(b.size:Int)
 ·have E:Hid (Wt.isNm (zFQ small) b.data.toList=false):=by
   show _=_
   unfold Wt.isNm;rw [hl,decide_eq_false (p:=b.size<=16) (by omega)];simp
  rw [E.out];clear E;go_enter func131,ntmps131;go_wp2;go_ret;exact ⟨rfl,rfl⟩
 obtain ⟨R,hR⟩:∃ R,Wt.isNm (zFQ small) b.data.toList=R:=⟨_,rfl⟩
 have E0:Hid (R=zFB small 0 (b.data.toList.drop 0)):=by
  show _=_
  rw [<-hR,List.drop_zero];exact zFm small _ (by omega) (by omega)
 rw [hR];clear hR;go_enter func131,ntmps131;go_wp2_with fail
 go_loopg [5] (b.size) (λgk x wr=>∃ j:Nat,x=.int .i64 j/\gk=b.size - j/\j<=b.size/\Hid (R=zFB small j (b.data.toList.drop j))/\wr=w)
 case atStart=>exact ⟨0,rfl,rfl,Nat.zero_le _,E0,rfl⟩
 case round =>
  clear E0;obtain ⟨j,rfl,hg,hj,HR,rfl⟩:=hrel;by_cases hlt:j<b.size
  ·have hli:(j:Int)<(b.size:Int):=by omega
   have hd:=zBw b j hlt;have HR2:Hid (R=((zFQ small (b[j]) || (decide (0<j) && Wlx.dig (b[j]))) && zFB small (j+1) (b.data.toList.drop (j+1)))):=by show _=_;rw [HR.out,hd,zFx]
   clear HR hd;obtain ⟨T,hT⟩:∃ T,zFB small (j+1) (b.data.toList.drop (j+1))=T:=⟨_,rfl⟩
   have HT:Hid (T=zFB small (j+1) (b.data.toList.drop (j+1))):=hT.symm;rw [hT] at HR2;clear hT;unfold zFQ Wlx.cap Wlx.low Wlx.dig at HR2;by_cases a1:65<=((b[j]).toNat:Int) <;> by_cases a2:((b[j]).toNat:Int)<=90 <;> by_cases a3:97<=((b[j]).toNat:Int) <;> by_cases a4:((b[j]).toNat:Int)<=122 <;> by_cases a5:48<=((b[j]).toNat:Int) <;> by_cases a6:((b[j]).toNat:Int)<=57
   any_goals (exfalso;omega)
   all_goals by_cases j0:(0:Int)<(j:Int)
   all_goals have j0':decide (0<j)=decide ((0:Int)<(j:Int)):=by rw [decide_eq_decide];omega
   all_goals rw [j0'] at HR2
   all_goals clear j0'
   all_goals cases small
   all_goals first
    | (
      have E:Hid (R=false):=by (show _=_;rw [HR2.out];simp only [a1,a2,a3,a4,a5,a6,j0,decide_true,decide_false,Bool.true_and,Bool.false_and,Bool.and_true,Bool.and_false,Bool.or_false,Bool.or_true])
      clear HR2 HT;go_wp2;go_ret;exact ⟨by rw [E.out];rfl,rfl⟩)
    | (
      have E:Hid (R=T):=by (show _=_;rw [HR2.out];simp only [a1,a2,a3,a4,a5,a6,j0,decide_true,decide_false,Bool.true_and,Bool.and_true,Bool.and_false,Bool.or_false,Bool.or_true])
      clear HR2;go_wp2_with fail
      go_roundg (b.size - (j+1))
      case rel=>exact ⟨j+1,by simp,rfl,hlt,E.out.trans HT.out,by first | trivial | rfl⟩
      case measure=>omega)
  ·have hli:¬ (j:Int)<(b.size:Int):=by omega
   have E:Hid (R=true):=by
    show _=_
    rw [HR.out,zB6 b j hlt];simp [zFB]
   clear HR;go_wp2;go_ret;exact ⟨by rw [E.out];rfl,rfl⟩
theorem zHX (o:Int) (w:World):Calls prog 103 #[.int .i64 o] w λe w'=>e=.returned (.bool (Wt.isBin o))/\w=w':=by
 unfold Wt.isBin;by_cases a1:11<=o <;> by_cases a2:o<=16 <;> by_cases a3:21<=o <;> by_cases a4:o<=26
 any_goals (exfalso;omega)
 all_goals
  go_enter func103,ntmps103;go_wp2;go_ret;exact ⟨zAf (by simp [a1,a2,a3,a4]),rfl⟩
theorem zB7 (s r c:Int) (w:World) :
  CR 30 #[.agg #[.int .i64 s,.int .i64 r,.int .i64 c]] w (.bool (Wpl.rightC s r c)):=by
 by_cases h0:0<=s
 ·by_cases h1:s<16
  ·by_cases h2:0<=r
   ·by_cases h3:r<65536
    ·by_cases h4:0<=c
     ·have e:Hid (Wpl.rightC s r c=decide (c<256)):=by
       show _=_;rw [Bool.eq_iff_iff,Wpl.rightC_iff];simp;omega
      go_enter func30,ntmps30;go_wp2;go_ret;exact ⟨by rw [e.out];rfl,clA⟩
     ·have e:Hid (Wpl.rightC s r c=false):=by show _=_;rw [Wpl.rightC_not];omega
      go_enter func30,ntmps30;go_wp2;go_ret;exact ⟨by rw [e.out];rfl,clA⟩
    ·have e:Hid (Wpl.rightC s r c=false):=by show _=_;rw [Wpl.rightC_not];omega
     go_enter func30,ntmps30;go_wp2;go_ret;exact ⟨by rw [e.out];rfl,clA⟩
   ·have e:Hid (Wpl.rightC s r c=false):=by show _=_;rw [Wpl.rightC_not];omega
    go_enter func30,ntmps30;go_wp2;go_ret;exact ⟨by rw [e.out];rfl,clA⟩
  ·have e:Hid (Wpl.rightC s r c=false):=by show _=_;rw [Wpl.rightC_not];omega
   go_enter func30,ntmps30;go_wp2;go_ret;exact ⟨by rw [e.out];rfl,clA⟩
 ·have e:Hid (Wpl.rightC s r c=false):=by show _=_;rw [Wpl.rightC_not];omega
  go_enter func30,ntmps30;go_wp2;go_ret;exact ⟨by rw [e.out];rfl,clA⟩
theorem zAe (s t l b r:Int) (w:World) :
  CR 74 #[.agg #[.int .i64 s,.int .i64 t,.int .i64 l,.int .i64 b,.int .i64 r]] w (.bool (Wpl.rightA s t l b r)):=by
 have E:Hid (Wpl.rightA s t l b r=decide (0<=s/\s<16/\0<=t/\t<=b/\b<65536/\0<=l/\l<=r/\r<256)):=(rfl:Wpl.rightA s t l b r=_)
 go_enter func74,ntmps74;go_wp2;all_goals
  go_ret;refine ⟨?_,clA⟩;rw [E.out];refine zD2 ?_;first | (simp [*];done) | (rw [Bool.eq_iff_iff];simp;omega)
theorem zFZ (s t l b r:Int) (w:World) :
  CR 41 #[.agg #[.int .i64 s,.int .i64 t,.int .i64 l,.int .i64 b,.int .i64 r]] w (.int .i64 (Wpl.sizeA s t l b r)):=by
 have R:=λw=>zAe s t l b r w
 cases h:Wpl.rightA s t l b r with
 | false =>
  have e1:Hid (Wpl.sizeA s t l b r=0):=by show _=_;unfold Wpl.sizeA;rw [h];rfl
  rw [h] at R;clear h;go_enter func41,ntmps41;go_wp2_with fail
  refine (R _).mono ?_;rintro e w1 ⟨rfl,hb1⟩;go_wp2;go_ret;exact ⟨by rw [e1.out];rfl,clA⟩
 | true =>
  have hh:=Wpl.rightA_iff.1 h;have e1:Hid (Wpl.sizeA s t l b r=(b - t+1) * (r - l+1)):=by show _=_;unfold Wpl.sizeA;rw [h];rfl
  have m0:0<=(b - t+1) * (r - l+1):=Int.mul_nonneg (by omega) (by omega);have m1:(b - t+1) * (r - l+1)<=65536 * 256:=Int.mul_le_mul (by omega) (by omega) (by omega) (by omega);have wa:IntKind.i64.wrap (b - t)=b - t:=IntWalk.i64_in _ (by omega);have wb:IntKind.i64.wrap (b - t+1)=b - t+1:=IntWalk.i64_in _ (by omega);have wc:IntKind.i64.wrap ((b - t+1) * (r - l+1))=(b - t+1) * (r - l+1):=IntWalk.i64_in _ (by omega);have wd:IntKind.i64.wrap (r - l)=r - l:=IntWalk.i64_in _ (by omega);have we:IntKind.i64.wrap (r - l+1)=r - l+1:=IntWalk.i64_in _ (by omega);rw [h] at R;clear h;go_enter func41,ntmps41;go_wp2_with fail
  refine (R _).mono ?_;rintro e w1 ⟨rfl,hb1⟩;have pA:AtL w1 w.heap.size [.int .i64 s,.int .i64 t,.int .i64 l,.int .i64 b,.int .i64 r]:=AtL.below hb1 (AtL.new0 w 53 _);have hB:Below w.heap.size w w1:=clA
  clear hb1;obtain ⟨a0,a1,a2,a3,a4⟩:=pA.f5;go_wp2;go_ret;refine ⟨by rw [e1.out];first | rfl | (simp only [wa,wb,wc,wd,we]),clA⟩
theorem zKL (x:Wc.In) (av:Option Addr) (c:Nat) (w:World) (hk:x.op=7) :
  CR 67 #[inV x (.slice av 0 c)] w (.bool (smI x ⟨7,0,0,v0I,c0I,a0I,a0I⟩)):=by
 have BA:∀ w1:World,Calls prog 101 #[.agg (zAD x (.slice av 0 c)).toArray,.agg (zAD ⟨7,0,0,v0I,c0I,a0I,a0I⟩ zAG).toArray] w1 λe w'=>e=.returned (.bool (smI x ⟨7,0,0,v0I,c0I,a0I,a0I⟩))/\Below w1.heap.size w1 w':=λw1=>by
  have h:=zA2 x ⟨7,0,0,v0I,c0I,a0I,a0I⟩ (.slice av 0 c) zAG w1;have e:(x.op == (⟨7,0,0,v0I,c0I,a0I,a0I⟩:Wc.In).op)=true:=by show (x.op == 7)=true;rw [hk];rfl
  rw [e,Bool.true_and] at h;exact h
 obtain ⟨tv,htv⟩:∃ tv,Value.slice av 0 c=tv:=⟨_,rfl⟩
 have T22:(zAD x tv)[22]? = some (.slice av 0 c):=by rw [htv];rfl
 rw [htv] at BA ⊢;generalize smI x ⟨7,0,0,v0I,c0I,a0I,a0I⟩=qb at *;have pA0:AtL (zAJ w x tv) w.heap.size (zAD x tv):=(AtL.new0 w _ _).alloc _;have pO0:AtL (zAJ w x tv) (w.heap.size+1) (zAD (zAE 0) zAG):=AtL.new1 w _ _ _;have hth:World.there (zAJ w x tv) (w.heap.size+1) 0 (zAD (zAE 7) zAG).toArray.size:=pO0.there;have hne:w.heap.size+1 ≠ w.heap.size:=by omega
 have pA:=pA0.farAll hne 0 (zAD (zAE 7) zAG);have pO:AtL ((zAJ w x tv).setCells (w.heap.size+1) 0 (zAD (zAE 7) zAG)) (w.heap.size+1) (zAD (zAE 7) zAG):=pO0.setAll rfl;have hBa:Below w.heap.size w ((zAJ w x tv).setCells (w.heap.size+1) 0 (zAD (zAE 7) zAG)):=zAa (zAK (zAK (Below.refl _ w) _) _) (Nat.le_succ _) _ 0;clear pA0 pO0;have n0:(zAD x tv)[0]? = some (.int .i64 7):=by rw [<-hk];rfl
 have a0:World.cell? ((zAJ w x tv).setCells (w.heap.size+1) 0 (zAD (zAE 7) zAG)) ⟨w.heap.size,0,none⟩=some (.int .i64 7):=pA.2.1 0 _ n0;show Calls _ _ #[.agg (zAD x tv).toArray] _ _
 have cA0:(zAJ w x tv).cell? ⟨w.heap.size,0,none⟩=some (.int .i64 7):=((AtL.new0 w _ _).alloc _:AtL (zAJ w x tv) w.heap.size (zAD x tv)).2.1 0 _ n0;have pX:=AtL.new0 w 56 (zAD x tv);have c0A:=pX.2.1 0 _ n0;have c22:=pX.2.1 22 _ T22;clear htv T22 cA0 pX;go_enter func67,ntmps67;go_upto_region 3 with fail
 go_upto_region 4 with ((with_reducible refine wpList_store_mid ?_ 56 (.tmp 3) (.tmp 19) ?_ (w.heap.size+1) 0 (zAD (zAE 7) zAG).toArray ?_ ?_ ?_ ?_ ?_ ?_);rfl;rfl;rfl;rfl;exact hth;kernel_rfl;exact zAZ _ _ _ _)
 generalize (zAJ w x tv).setCells (w.heap.size+1) 0 (zAD (zAE 7) zAG)=W0 at *;clear hth c0A c22;have pA1:=pA;have pO1:=pO;have hB1:=hBa;clear pA pO hBa;have pOY:AtL W0 (w.heap.size+1) (zAD ⟨7,0,0,v0I,c0I,a0I,a0I⟩ zAG):=pO1;have rA:=pA1.range;have rO:=pOY.range;clear pO1 pOY;go_upto_region 29 with fail
 clear a0;go_wp2_with (first | (refine zAA (by rfl) 56 (.tmp 1) rfl w.heap.size 0 rfl (zAD x tv) _ rA underlying56 rfl (by kernel_rfl) ?_) | (refine zAA (by rfl) 56 (.tmp 3) rfl (w.heap.size+1) 0 rfl (zAD ⟨7,0,0,v0I,c0I,a0I,a0I⟩ zAG) _ rO underlying56 rfl (by kernel_rfl) ?_))
 refine (BA _).mono ?_;rintro e w5 ⟨rfl,hb5⟩;have hB5:=zAB hB1 hb5;clear BA rA rO;go_wp2;go_ret;exact ⟨by simp,hB5⟩
theorem zIq (x:Wc.In) (av:Option Addr) (c:Nat) (w:World) (hk:x.op=10) :
  CR 67 #[inV x (.slice av 0 c)] w (.bool (smI x ⟨10,0,0,v0I,c0I,a0I,a0I⟩)):=by
 have BA:∀ w1:World,Calls prog 101 #[.agg (zAD x (.slice av 0 c)).toArray,.agg (zAD ⟨10,0,0,v0I,c0I,a0I,a0I⟩ zAG).toArray] w1 λe w'=>e=.returned (.bool (smI x ⟨10,0,0,v0I,c0I,a0I,a0I⟩))/\Below w1.heap.size w1 w':=λw1=>by
  have h:=zA2 x ⟨10,0,0,v0I,c0I,a0I,a0I⟩ (.slice av 0 c) zAG w1;have e:(x.op == (⟨10,0,0,v0I,c0I,a0I,a0I⟩:Wc.In).op)=true:=by show (x.op == 10)=true;rw [hk];rfl
  rw [e,Bool.true_and] at h;exact h
 obtain ⟨tv,htv⟩:∃ tv,Value.slice av 0 c=tv:=⟨_,rfl⟩
 have T22:(zAD x tv)[22]? = some (.slice av 0 c):=by rw [htv];rfl
 rw [htv] at BA ⊢;generalize smI x ⟨10,0,0,v0I,c0I,a0I,a0I⟩=qb at *;have pA0:AtL (zAJ w x tv) w.heap.size (zAD x tv):=(AtL.new0 w _ _).alloc _;have pO0:AtL (zAJ w x tv) (w.heap.size+1) (zAD (zAE 0) zAG):=AtL.new1 w _ _ _;have hth:World.there (zAJ w x tv) (w.heap.size+1) 0 (zAD (zAE 10) zAG).toArray.size:=pO0.there;have hne:w.heap.size+1 ≠ w.heap.size:=by omega
 have pA:=pA0.farAll hne 0 (zAD (zAE 10) zAG);have pO:AtL ((zAJ w x tv).setCells (w.heap.size+1) 0 (zAD (zAE 10) zAG)) (w.heap.size+1) (zAD (zAE 10) zAG):=pO0.setAll rfl;have hBa:Below w.heap.size w ((zAJ w x tv).setCells (w.heap.size+1) 0 (zAD (zAE 10) zAG)):=zAa (zAK (zAK (Below.refl _ w) _) _) (Nat.le_succ _) _ 0;clear pA0 pO0;have n0:(zAD x tv)[0]? = some (.int .i64 10):=by rw [<-hk];rfl
 have a0:World.cell? ((zAJ w x tv).setCells (w.heap.size+1) 0 (zAD (zAE 10) zAG)) ⟨w.heap.size,0,none⟩=some (.int .i64 10):=pA.2.1 0 _ n0;show Calls _ _ #[.agg (zAD x tv).toArray] _ _
 have cA0:(zAJ w x tv).cell? ⟨w.heap.size,0,none⟩=some (.int .i64 10):=((AtL.new0 w _ _).alloc _:AtL (zAJ w x tv) w.heap.size (zAD x tv)).2.1 0 _ n0;have pX:=AtL.new0 w 56 (zAD x tv);have c0A:=pX.2.1 0 _ n0;have c22:=pX.2.1 22 _ T22;clear htv T22 cA0 pX;go_enter func67,ntmps67;go_upto_region 3 with fail
 go_upto_region 4 with ((with_reducible refine wpList_store_mid ?_ 56 (.tmp 3) (.tmp 19) ?_ (w.heap.size+1) 0 (zAD (zAE 10) zAG).toArray ?_ ?_ ?_ ?_ ?_ ?_);rfl;rfl;rfl;rfl;exact hth;kernel_rfl;exact zAZ _ _ _ _)
 generalize (zAJ w x tv).setCells (w.heap.size+1) 0 (zAD (zAE 10) zAG)=W0 at *;clear hth c0A c22;have pA1:=pA;have pO1:=pO;have hB1:=hBa;clear pA pO hBa;have pOY:AtL W0 (w.heap.size+1) (zAD ⟨10,0,0,v0I,c0I,a0I,a0I⟩ zAG):=pO1;have rA:=pA1.range;have rO:=pOY.range;clear pO1 pOY;go_upto_region 29 with fail
 clear a0;go_wp2_with (first | (refine zAA (by rfl) 56 (.tmp 1) rfl w.heap.size 0 rfl (zAD x tv) _ rA underlying56 rfl (by kernel_rfl) ?_) | (refine zAA (by rfl) 56 (.tmp 3) rfl (w.heap.size+1) 0 rfl (zAD ⟨10,0,0,v0I,c0I,a0I,a0I⟩ zAG) _ rO underlying56 rfl (by kernel_rfl) ?_))
 refine (BA _).mono ?_;rintro e w5 ⟨rfl,hb5⟩;have hB5:=zAB hB1 hb5;clear BA rA rO;go_wp2;go_ret;exact ⟨by simp,hB5⟩
theorem zHV (x:Wc.In) (av:Option Addr) (c:Nat) (w:World) (hk:x.op=16) :
  CR 67 #[inV x (.slice av 0 c)] w (.bool (smI x ⟨16,0,0,v0I,c0I,a0I,a0I⟩)):=by
 have BA:∀ w1:World,Calls prog 101 #[.agg (zAD x (.slice av 0 c)).toArray,.agg (zAD ⟨16,0,0,v0I,c0I,a0I,a0I⟩ zAG).toArray] w1 λe w'=>e=.returned (.bool (smI x ⟨16,0,0,v0I,c0I,a0I,a0I⟩))/\Below w1.heap.size w1 w':=λw1=>by
  have h:=zA2 x ⟨16,0,0,v0I,c0I,a0I,a0I⟩ (.slice av 0 c) zAG w1;have e:(x.op == (⟨16,0,0,v0I,c0I,a0I,a0I⟩:Wc.In).op)=true:=by show (x.op == 16)=true;rw [hk];rfl
  rw [e,Bool.true_and] at h;exact h
 obtain ⟨tv,htv⟩:∃ tv,Value.slice av 0 c=tv:=⟨_,rfl⟩
 have T22:(zAD x tv)[22]? = some (.slice av 0 c):=by rw [htv];rfl
 rw [htv] at BA ⊢;generalize smI x ⟨16,0,0,v0I,c0I,a0I,a0I⟩=qb at *;have pA0:AtL (zAJ w x tv) w.heap.size (zAD x tv):=(AtL.new0 w _ _).alloc _;have pO0:AtL (zAJ w x tv) (w.heap.size+1) (zAD (zAE 0) zAG):=AtL.new1 w _ _ _;have hth:World.there (zAJ w x tv) (w.heap.size+1) 0 (zAD (zAE 16) zAG).toArray.size:=pO0.there;have hne:w.heap.size+1 ≠ w.heap.size:=by omega
 have pA:=pA0.farAll hne 0 (zAD (zAE 16) zAG);have pO:AtL ((zAJ w x tv).setCells (w.heap.size+1) 0 (zAD (zAE 16) zAG)) (w.heap.size+1) (zAD (zAE 16) zAG):=pO0.setAll rfl;have hBa:Below w.heap.size w ((zAJ w x tv).setCells (w.heap.size+1) 0 (zAD (zAE 16) zAG)):=zAa (zAK (zAK (Below.refl _ w) _) _) (Nat.le_succ _) _ 0;clear pA0 pO0;have n0:(zAD x tv)[0]? = some (.int .i64 16):=by rw [<-hk];rfl
 have a0:World.cell? ((zAJ w x tv).setCells (w.heap.size+1) 0 (zAD (zAE 16) zAG)) ⟨w.heap.size,0,none⟩=some (.int .i64 16):=pA.2.1 0 _ n0;show Calls _ _ #[.agg (zAD x tv).toArray] _ _
 have cA0:(zAJ w x tv).cell? ⟨w.heap.size,0,none⟩=some (.int .i64 16):=((AtL.new0 w _ _).alloc _:AtL (zAJ w x tv) w.heap.size (zAD x tv)).2.1 0 _ n0;have pX:=AtL.new0 w 56 (zAD x tv);have c0A:=pX.2.1 0 _ n0;have c22:=pX.2.1 22 _ T22;clear htv T22 cA0 pX;go_enter func67,ntmps67;go_upto_region 3 with fail
 go_upto_region 4 with ((with_reducible refine wpList_store_mid ?_ 56 (.tmp 3) (.tmp 19) ?_ (w.heap.size+1) 0 (zAD (zAE 16) zAG).toArray ?_ ?_ ?_ ?_ ?_ ?_);rfl;rfl;rfl;rfl;exact hth;kernel_rfl;exact zAZ _ _ _ _)
 generalize (zAJ w x tv).setCells (w.heap.size+1) 0 (zAD (zAE 16) zAG)=W0 at *;clear hth c0A c22;have pA1:=pA;have pO1:=pO;have hB1:=hBa;clear pA pO hBa;have pOY:AtL W0 (w.heap.size+1) (zAD ⟨16,0,0,v0I,c0I,a0I,a0I⟩ zAG):=pO1;have rA:=pA1.range;have rO:=pOY.range;clear pO1 pOY;go_upto_region 29 with fail
 clear a0;go_wp2_with (first | (refine zAA (by rfl) 56 (.tmp 1) rfl w.heap.size 0 rfl (zAD x tv) _ rA underlying56 rfl (by kernel_rfl) ?_) | (refine zAA (by rfl) 56 (.tmp 3) rfl (w.heap.size+1) 0 rfl (zAD ⟨16,0,0,v0I,c0I,a0I,a0I⟩ zAG) _ rO underlying56 rfl (by kernel_rfl) ?_))
 refine (BA _).mono ?_;rintro e w5 ⟨rfl,hb5⟩;have hB5:=zAB hB1 hb5;clear BA rA rO;go_wp2;go_ret;exact ⟨by simp,hB5⟩
theorem zHb (x:Wc.In) (av:Option Addr) (c:Nat) (w:World) (hk:x.op=12) :
  CR 67 #[inV x (.slice av 0 c)] w (.bool (smI x ⟨12,x.a,x.b,v0I,c0I,a0I,a0I⟩)):=by
 have BA:∀ w1:World,Calls prog 101 #[.agg (zAD x (.slice av 0 c)).toArray,.agg (zAD ⟨12,x.a,x.b,v0I,c0I,a0I,a0I⟩ zAG).toArray] w1 λe w'=>e=.returned (.bool (smI x ⟨12,x.a,x.b,v0I,c0I,a0I,a0I⟩))/\Below w1.heap.size w1 w':=λw1=>by
  have h:=zA2 x ⟨12,x.a,x.b,v0I,c0I,a0I,a0I⟩ (.slice av 0 c) zAG w1;have e:(x.op == (⟨12,x.a,x.b,v0I,c0I,a0I,a0I⟩:Wc.In).op)=true:=by show (x.op == 12)=true;rw [hk];rfl
  rw [e,Bool.true_and] at h;exact h
 obtain ⟨tv,htv⟩:∃ tv,Value.slice av 0 c=tv:=⟨_,rfl⟩
 have T22:(zAD x tv)[22]? = some (.slice av 0 c):=by rw [htv];rfl
 rw [htv] at BA ⊢;generalize smI x ⟨12,x.a,x.b,v0I,c0I,a0I,a0I⟩=qb at *;have pA0:AtL (zAJ w x tv) w.heap.size (zAD x tv):=(AtL.new0 w _ _).alloc _;have pO0:AtL (zAJ w x tv) (w.heap.size+1) (zAD (zAE 0) zAG):=AtL.new1 w _ _ _;have hth:World.there (zAJ w x tv) (w.heap.size+1) 0 (zAD (zAE 12) zAG).toArray.size:=pO0.there;have hne:w.heap.size+1 ≠ w.heap.size:=by omega
 have pA:=pA0.farAll hne 0 (zAD (zAE 12) zAG);have pO:AtL ((zAJ w x tv).setCells (w.heap.size+1) 0 (zAD (zAE 12) zAG)) (w.heap.size+1) (zAD (zAE 12) zAG):=pO0.setAll rfl;have hBa:Below w.heap.size w ((zAJ w x tv).setCells (w.heap.size+1) 0 (zAD (zAE 12) zAG)):=zAa (zAK (zAK (Below.refl _ w) _) _) (Nat.le_succ _) _ 0;clear pA0 pO0;have n0:(zAD x tv)[0]? = some (.int .i64 12):=by rw [<-hk];rfl
 have a0:World.cell? ((zAJ w x tv).setCells (w.heap.size+1) 0 (zAD (zAE 12) zAG)) ⟨w.heap.size,0,none⟩=some (.int .i64 12):=pA.2.1 0 _ n0;show Calls _ _ #[.agg (zAD x tv).toArray] _ _
 have cA0:(zAJ w x tv).cell? ⟨w.heap.size,0,none⟩=some (.int .i64 12):=((AtL.new0 w _ _).alloc _:AtL (zAJ w x tv) w.heap.size (zAD x tv)).2.1 0 _ n0;have pX:=AtL.new0 w 56 (zAD x tv);have c0A:=pX.2.1 0 _ n0;have c22:=pX.2.1 22 _ T22;clear htv T22 cA0 pX;go_enter func67,ntmps67;go_upto_region 3 with fail
 go_upto_region 4 with ((with_reducible refine wpList_store_mid ?_ 56 (.tmp 3) (.tmp 19) ?_ (w.heap.size+1) 0 (zAD (zAE 12) zAG).toArray ?_ ?_ ?_ ?_ ?_ ?_);rfl;rfl;rfl;rfl;exact hth;kernel_rfl;exact zAZ _ _ _ _)
 generalize (zAJ w x tv).setCells (w.heap.size+1) 0 (zAD (zAE 12) zAG)=W0 at *;clear hth c0A c22;have pA1:=pA;have pO1:=pO;have hB1:=hBa;clear pA pO hBa;have a1:=pA1.2.1 1 _ rfl;have o1:=pO1.2.1 1 _ rfl;have f1:=pO1.2.2 1 (by show 1<23;decide);go_upto_region 43 with fail
 have pA2:AtL (W0.setCell ⟨w.heap.size+1,1,none⟩ (.int .i64 x.a)) w.heap.size (zAD x tv):=(pA1.far hne 1 (.int .i64 x.a))
 have pO2:=(pO1.set 1 (.int .i64 x.a))
 have hB2:Below w.heap.size w (W0.setCell ⟨w.heap.size+1,1,none⟩ (.int .i64 x.a)):=(clB hB1)
 clear pA1 pO1 hB1 a1 o1 f1;generalize (W0.setCell ⟨w.heap.size+1,1,none⟩ (.int .i64 x.a))=W1 at *;have pA1:=pA2;have pO1:=pO2;have hB1:=hB2;clear pA2 pO2 hB2;have a2:=pA1.2.1 2 _ rfl;have o2:=pO1.2.1 2 _ rfl;have f2:=pO1.2.2 2 (by show 2<23;decide);go_upto_region 44 with fail
 have pA2:AtL (W1.setCell ⟨w.heap.size+1,2,none⟩ (.int .i64 x.b)) w.heap.size (zAD x tv):=(pA1.far hne 2 (.int .i64 x.b))
 have pO2:=(pO1.set 2 (.int .i64 x.b))
 have hB2:Below w.heap.size w (W1.setCell ⟨w.heap.size+1,2,none⟩ (.int .i64 x.b)):=(clB hB1)
 clear pA1 pO1 hB1 a2 o2 f2;generalize (W1.setCell ⟨w.heap.size+1,2,none⟩ (.int .i64 x.b))=W2 at *;have pA1:=pA2;have pO1:=pO2;have hB1:=hB2;clear pA2 pO2 hB2;have pOY:AtL W2 (w.heap.size+1) (zAD ⟨12,x.a,x.b,v0I,c0I,a0I,a0I⟩ zAG):=pO1;have rA:=pA1.range;have rO:=pOY.range;clear pO1 pOY;clear a0;go_wp2_with (first | (refine zAA (by rfl) 56 (.tmp 1) rfl w.heap.size 0 rfl (zAD x tv) _ rA underlying56 rfl (by kernel_rfl) ?_) | (refine zAA (by rfl) 56 (.tmp 3) rfl (w.heap.size+1) 0 rfl (zAD ⟨12,x.a,x.b,v0I,c0I,a0I,a0I⟩ zAG) _ rO underlying56 rfl (by kernel_rfl) ?_))
 refine (BA _).mono ?_;rintro e w5 ⟨rfl,hb5⟩;have hB5:=zAB hB1 hb5;clear BA rA rO;go_wp2;go_ret;exact ⟨by simp,hB5⟩
theorem zKZ (x:Wc.In) (av:Option Addr) (c:Nat) (w:World) (hk:x.op=1) (hf:Wt.FitV x.v) :
  CR 67 #[inV x (.slice av 0 c)] w (.bool (smI x ⟨1,0,0,x.v,c0I,a0I,a0I⟩ && Wv.right x.v.k x.v.n x.v.d x.v.t x.v.b x.v.f)):=by
 have BA:∀ w1:World,Calls prog 101 #[.agg (zAD x (.slice av 0 c)).toArray,.agg (zAD ⟨1,0,0,x.v,c0I,a0I,a0I⟩ zAG).toArray] w1 λe w'=>e=.returned (.bool (smI x ⟨1,0,0,x.v,c0I,a0I,a0I⟩))/\Below w1.heap.size w1 w':=λw1=>by
  have h:=zA2 x ⟨1,0,0,x.v,c0I,a0I,a0I⟩ (.slice av 0 c) zAG w1;have e:(x.op == (⟨1,0,0,x.v,c0I,a0I,a0I⟩:Wc.In).op)=true:=by show (x.op == 1)=true;rw [hk];rfl
  rw [e,Bool.true_and] at h;exact h
 have CC:=(λw=>zEA x.v w hf:∀ w:World,CR 102 #[.agg #[.int .i64 x.v.k,.int .i64 x.v.n,.int .i64 x.v.d,.string x.v.t,.bool x.v.b,.int .i64 x.v.f]] w (.bool (Wv.right x.v.k x.v.n x.v.d x.v.t x.v.b x.v.f)))
 obtain ⟨tv,htv⟩:∃ tv,Value.slice av 0 c=tv:=⟨_,rfl⟩
 have T22:(zAD x tv)[22]? = some (.slice av 0 c):=by rw [htv];rfl
 rw [htv] at BA ⊢;generalize smI x ⟨1,0,0,x.v,c0I,a0I,a0I⟩=qb at *;generalize Wv.right x.v.k x.v.n x.v.d x.v.t x.v.b x.v.f=qc at *;have pA0:AtL (zAJ w x tv) w.heap.size (zAD x tv):=(AtL.new0 w _ _).alloc _;have pO0:AtL (zAJ w x tv) (w.heap.size+1) (zAD (zAE 0) zAG):=AtL.new1 w _ _ _;have hth:World.there (zAJ w x tv) (w.heap.size+1) 0 (zAD (zAE 1) zAG).toArray.size:=pO0.there;have hne:w.heap.size+1 ≠ w.heap.size:=by omega
 have pA:=pA0.farAll hne 0 (zAD (zAE 1) zAG);have pO:AtL ((zAJ w x tv).setCells (w.heap.size+1) 0 (zAD (zAE 1) zAG)) (w.heap.size+1) (zAD (zAE 1) zAG):=pO0.setAll rfl;have hBa:Below w.heap.size w ((zAJ w x tv).setCells (w.heap.size+1) 0 (zAD (zAE 1) zAG)):=zAa (zAK (zAK (Below.refl _ w) _) _) (Nat.le_succ _) _ 0;clear pA0 pO0;have n0:(zAD x tv)[0]? = some (.int .i64 1):=by rw [<-hk];rfl
 have a0:World.cell? ((zAJ w x tv).setCells (w.heap.size+1) 0 (zAD (zAE 1) zAG)) ⟨w.heap.size,0,none⟩=some (.int .i64 1):=pA.2.1 0 _ n0;show Calls _ _ #[.agg (zAD x tv).toArray] _ _
 have cA0:(zAJ w x tv).cell? ⟨w.heap.size,0,none⟩=some (.int .i64 1):=((AtL.new0 w _ _).alloc _:AtL (zAJ w x tv) w.heap.size (zAD x tv)).2.1 0 _ n0;have pX:=AtL.new0 w 56 (zAD x tv);have c0A:=pX.2.1 0 _ n0;have c22:=pX.2.1 22 _ T22;clear htv T22 cA0 pX;go_enter func67,ntmps67;go_upto_region 3 with fail
 go_upto_region 4 with ((with_reducible refine wpList_store_mid ?_ 56 (.tmp 3) (.tmp 19) ?_ (w.heap.size+1) 0 (zAD (zAE 1) zAG).toArray ?_ ?_ ?_ ?_ ?_ ?_);rfl;rfl;rfl;rfl;exact hth;kernel_rfl;exact zAZ _ _ _ _)
 generalize (zAJ w x tv).setCells (w.heap.size+1) 0 (zAD (zAE 1) zAG)=W0 at *;clear hth c0A c22;have pA1:=pA;have pO1:=pO;have hB1:=hBa;clear pA pO hBa;have a3:=pA1.2.1 3 _ rfl;have o3:=pO1.2.1 3 _ rfl;have f3:=pO1.2.2 3 (by show 3<23;decide);have a4:=pA1.2.1 4 _ rfl;have o4:=pO1.2.1 4 _ rfl;have f4:=pO1.2.2 4 (by show 4<23;decide);have a5:=pA1.2.1 5 _ rfl;have o5:=pO1.2.1 5 _ rfl;have f5:=pO1.2.2 5 (by show 5<23;decide);have a6:=pA1.2.1 6 _ rfl;have o6:=pO1.2.1 6 _ rfl;have f6:=pO1.2.2 6 (by show 6<23;decide);have a7:=pA1.2.1 7 _ rfl;have o7:=pO1.2.1 7 _ rfl;have f7:=pO1.2.2 7 (by show 7<23;decide);have a8:=pA1.2.1 8 _ rfl;have o8:=pO1.2.1 8 _ rfl;have f8:=pO1.2.2 8 (by show 8<23;decide);go_upto_region 7 with fail
 have pA2:AtL ((((((W0.setCell ⟨w.heap.size+1,3,none⟩ (.int .i64 x.v.k)).setCell ⟨w.heap.size+1,4,none⟩ (.int .i64 x.v.n)).setCell ⟨w.heap.size+1,5,none⟩ (.int .i64 x.v.d)).setCell ⟨w.heap.size+1,6,none⟩ (.string x.v.t)).setCell ⟨w.heap.size+1,7,none⟩ (.bool x.v.b)).setCell ⟨w.heap.size+1,8,none⟩ (.int .i64 x.v.f)) w.heap.size (zAD x tv):=((((((pA1.far hne 3 (.int .i64 x.v.k)).far hne 4 (.int .i64 x.v.n)).far hne 5 (.int .i64 x.v.d)).far hne 6 (.string x.v.t)).far hne 7 (.bool x.v.b)).far hne 8 (.int .i64 x.v.f))
 have pO2:=((((((pO1.set 3 (.int .i64 x.v.k)).set 4 (.int .i64 x.v.n)).set 5 (.int .i64 x.v.d)).set 6 (.string x.v.t)).set 7 (.bool x.v.b)).set 8 (.int .i64 x.v.f))
 have hB2:Below w.heap.size w ((((((W0.setCell ⟨w.heap.size+1,3,none⟩ (.int .i64 x.v.k)).setCell ⟨w.heap.size+1,4,none⟩ (.int .i64 x.v.n)).setCell ⟨w.heap.size+1,5,none⟩ (.int .i64 x.v.d)).setCell ⟨w.heap.size+1,6,none⟩ (.string x.v.t)).setCell ⟨w.heap.size+1,7,none⟩ (.bool x.v.b)).setCell ⟨w.heap.size+1,8,none⟩ (.int .i64 x.v.f)):=(clB hB1)
 clear pA1 pO1 hB1 a3 o3 f3 a4 o4 f4 a5 o5 f5 a6 o6 f6 a7 o7 f7 a8 o8 f8;generalize ((((((W0.setCell ⟨w.heap.size+1,3,none⟩ (.int .i64 x.v.k)).setCell ⟨w.heap.size+1,4,none⟩ (.int .i64 x.v.n)).setCell ⟨w.heap.size+1,5,none⟩ (.int .i64 x.v.d)).setCell ⟨w.heap.size+1,6,none⟩ (.string x.v.t)).setCell ⟨w.heap.size+1,7,none⟩ (.bool x.v.b)).setCell ⟨w.heap.size+1,8,none⟩ (.int .i64 x.v.f))=W1 at *;have pA1:=pA2;have pO1:=pO2;have hB1:=hB2;clear pA2 pO2 hB2;have pOY:AtL W1 (w.heap.size+1) (zAD ⟨1,0,0,x.v,c0I,a0I,a0I⟩ zAG):=pO1;have rA:=pA1.range;have rO:=pOY.range;clear pO1 pOY;have e3:=pA1.2.1 3 _ rfl;have e4:=pA1.2.1 4 _ rfl;have e5:=pA1.2.1 5 _ rfl;have e6:=pA1.2.1 6 _ rfl;have e7:=pA1.2.1 7 _ rfl;have e8:=pA1.2.1 8 _ rfl;clear a0;go_wp2_with (first | (refine zAA (by rfl) 56 (.tmp 1) rfl w.heap.size 0 rfl (zAD x tv) _ rA underlying56 rfl (by kernel_rfl) ?_) | (refine zAA (by rfl) 56 (.tmp 3) rfl (w.heap.size+1) 0 rfl (zAD ⟨1,0,0,x.v,c0I,a0I,a0I⟩ zAG) _ rO underlying56 rfl (by kernel_rfl) ?_))
 refine (BA _).mono ?_;rintro e w5 ⟨rfl,hb5⟩;have hB5:=zAB hB1 hb5;clear BA rA rO;cases qb with
 | false =>
  go_wp2;go_ret;exact ⟨by simp,hB5⟩
 | true =>
  replace e3:=zAC hb5 e3
  replace e4:=zAC hb5 e4
  replace e5:=zAC hb5 e5
  replace e6:=zAC hb5 e6
  replace e7:=zAC hb5 e7
  replace e8:=zAC hb5 e8
  go_wp2_with fail
  refine (CC _).mono ?_;rintro e w6 ⟨rfl,hb6⟩;have hB6:=zAB hB5 hb6;cases qc
  ·go_wp2;go_ret;exact ⟨by simp,hB6⟩
  ·go_wp2;go_ret;exact ⟨by simp,hB6⟩
