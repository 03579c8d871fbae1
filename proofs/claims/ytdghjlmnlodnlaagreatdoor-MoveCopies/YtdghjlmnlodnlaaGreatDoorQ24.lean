/- TRefA, TRefB, TRefC. -/
import Derived.Test.YtdghjlmnlodnlaaGreatDoorQ23
set_option maxHeartbeats 4000000
set_option maxRecDepth 100000
namespace Go.Proofs.YtdghjlmnlodnlaaGreatDoor
open Go.RowKit Tryz
set_option linter.unusedVariables false
theorem zDi (b:ByteArray) (w:World) (hs:b.size<=9223372036854775807):Calls prog 135 #[.string b] w λe w'=>e=.returned (.bool (Wv.prts b.data.toList))/\w=w':=by
 obtain ⟨R,hR⟩:∃ R,Wv.prts b.data.toList=R:=⟨_,rfl⟩
 have E0:Hid (R=Wv.prts (b.data.toList.drop 0)):=hR.symm;rw [hR];clear hR;go_enter func135,ntmps135;go_wp2_with fail
 go_loopg [3] (b.size) (λgk x wr=>∃ j:Nat,x=.int .i64 j/\gk=b.size - j/\j<=b.size/\Hid (R=Wv.prts (b.data.toList.drop j))/\wr=w)
 case atStart=>exact ⟨0,rfl,rfl,Nat.zero_le _,E0,rfl⟩
 case round =>
  obtain ⟨j,rfl,hg,hj,HR,rfl⟩:=hrel;by_cases hlt:j<b.size
  ·have hli:(j:Int)<(b.size:Int):=by omega
   have hd:=zA9 b j hlt;have hp:=zKw (b[j]);by_cases c1:((b[j]).toNat:Int)<32
   ·have E:Hid (R=false):=by show _=_;rw [HR.out,hd,Wv.prts_cons,hp,decide_eq_false (by omega)];rfl
    clear HR hd hp;go_wp2;go_ret;exact ⟨by rw [E.out];rfl,rfl⟩
   ·by_cases c2:(126:Int)<((b[j]).toNat:Int)
    ·have E:Hid (R=false):=by show _=_;rw [HR.out,hd,Wv.prts_cons,hp,decide_eq_false (p:=((b[j]).toNat:Int)<=126) (by omega)];simp
     clear HR hd hp;go_wp2;go_ret;exact ⟨by rw [E.out];rfl,rfl⟩
    ·have E:Hid (R=Wv.prts (b.data.toList.drop (j+1))):=by show _=_;rw [HR.out,hd,Wv.prts_cons,hp,decide_eq_true (by omega),decide_eq_true (by omega)];rfl
     clear HR hd hp;go_wp2_with fail
     go_roundg (b.size - (j+1))
     case rel=>exact ⟨j+1,by simp,rfl,hlt,E,by first | trivial | rfl⟩
     case measure=>omega
  ·have hli:¬ (j:Int)<(b.size:Int):=by omega
   have E:Hid (R=true):=by show _=_;rw [HR.out,zAl b j hlt];rfl
   clear HR;go_wp2;go_ret;exact ⟨by rw [E.out];rfl,rfl⟩
theorem zJU (n d:Int) (t:ByteArray) (b:Bool) (f:Int) (w:World) :
  CR 109 #[.agg #[.int .i64 0,.int .i64 n,.int .i64 d,.string t,.bool b,.int .i64 f]] w (.bool (Wv.right 0 n d t b f)):=by
 rw [<-zQV];have hq:=zBe 0 n d t b f 0 0 0 ⟨#[]⟩ false 0;generalize eqV 0 n d t b f 0 0 0 ⟨#[]⟩ false 0=R at *;go_enter func109,ntmps109;go_wp2;go_ret;exact ⟨rfl,clA⟩
theorem zJb (n d:Int) (t:ByteArray) (b:Bool) (f:Int) (w:World) (h1:-9223372036854775808<=n) (h2:n<=9223372036854775807) (h3:-9223372036854775808<=d) (h4:d<=9223372036854775807) :
  CR 109 #[.agg #[.int .i64 1,.int .i64 n,.int .i64 d,.string t,.bool b,.int .i64 f]] w (.bool (Wv.right 1 n d t b f)):=by
 rw [<-zQ3];have C:=λw=>zDC n d w h1 h2 h3 h4
 have hq:=zBe 1 n d t b f 1 n d ⟨#[]⟩ false 0;generalize eqV 1 n d t b f 1 n d ⟨#[]⟩ false 0=R at *;generalize Wnum.rightB n d=q at *;have pA:AtL (w.alloc (.cells #[.int .i64 1,.int .i64 n,.int .i64 d,.string t,.bool b,.int .i64 f] 26)) w.heap.size [.int .i64 1,.int .i64 n,.int .i64 d,.string t,.bool b,.int .i64 f]:=AtL.new0 w _ _;cases q
 all_goals
  go_enter func109,ntmps109;go_wp2_with fail
  refine (C _).mono ?_;rintro e w1 ⟨rfl,hb⟩;have pA1:=AtL.below hb pA;obtain ⟨a0,a1,a2,a3,a4,a5⟩:=pA1.f6;have hB1:=zAA (zAI (Below.refl _ w) _) hb;go_wp2;go_ret;exact ⟨by simp,hB1⟩
theorem zKA (n d:Int) (t:ByteArray) (b:Bool) (f:Int) (w:World) (hs:t.size<=9223372036854775807) :
  CR 109 #[.agg #[.int .i64 2,.int .i64 n,.int .i64 d,.string t,.bool b,.int .i64 f]] w (.bool (Wv.right 2 n d t b f)):=by
 rw [<-zQK];have C:=λw=>zDi t w hs
 have hq:=zBe 2 n d t b f 2 0 0 t false 0;generalize eqV 2 n d t b f 2 0 0 t false 0=R at *;generalize Wv.prts t.data.toList=q at *;by_cases hl:t.size<=256
 ·have hli:(t.size:Int)<=256:=by omega
  rw [decide_eq_true hl];cases q
  all_goals
   go_enter func109,ntmps109;go_wp2_with fail
   refine (C _).mono ?_;rintro e w1 ⟨rfl,rfl⟩;go_wp2;go_ret;exact ⟨by simp,clA⟩
 ·have hli:¬ (t.size:Int)<=256:=by omega
  rw [decide_eq_false hl];cases q
  all_goals
   go_enter func109,ntmps109;go_wp2_with fail
   refine (C _).mono ?_;rintro e w1 ⟨rfl,rfl⟩;go_wp2;go_ret;exact ⟨by simp,clA⟩
theorem zJ9 (n d:Int) (t:ByteArray) (b:Bool) (f:Int) (w:World) :
  CR 109 #[.agg #[.int .i64 3,.int .i64 n,.int .i64 d,.string t,.bool b,.int .i64 f]] w (.bool (Wv.right 3 n d t b f)):=by
 rw [<-zQh];have hq:=zBe 3 n d t b f 3 0 0 ⟨#[]⟩ b 0;generalize eqV 3 n d t b f 3 0 0 ⟨#[]⟩ b 0=R at *;go_enter func109,ntmps109;go_wp2;go_ret;exact ⟨rfl,clA⟩
theorem zKa (n d:Int) (t:ByteArray) (b:Bool) (f:Int) (w:World) :
  CR 109 #[.agg #[.int .i64 4,.int .i64 n,.int .i64 d,.string t,.bool b,.int .i64 f]] w (.bool (Wv.right 4 n d t b f)):=by
 rw [<-zPa];have hq:=zBe 4 n d t b f 4 0 0 ⟨#[]⟩ false f;generalize eqV 4 n d t b f 4 0 0 ⟨#[]⟩ false f=R at *;unfold Wv.flt;by_cases h1:1<=f
 ·by_cases h8:f<=8
  ·rw [decide_eq_true h1,decide_eq_true h8];go_enter func109,ntmps109;go_wp2;go_ret;exact ⟨by simp,clA⟩
  ·rw [decide_eq_true h1,decide_eq_false h8];go_enter func109,ntmps109;go_wp2;go_ret;exact ⟨by simp,clA⟩
 ·rw [decide_eq_false h1];go_enter func109,ntmps109;go_wp2;go_ret;exact ⟨by simp,clA⟩
theorem zJh (k n d:Int) (t:ByteArray) (b:Bool) (f:Int) (w:World) (hk:k<0 \/ 4<k) :
  CR 109 #[.agg #[.int .i64 k,.int .i64 n,.int .i64 d,.string t,.bool b,.int .i64 f]] w (.bool (Wv.right k n d t b f)):=by
 have E:Hid (Wv.right k n d t b f=false):=by
  show _=_
  unfold Wv.right;rw [if_neg (by omega),if_neg (by omega),if_neg (by omega),if_neg (by omega),if_neg (by omega)]
 rw [E.out];clear E;have k0:(k == 0)=false:=by rw [beq_eq_false_iff_ne];omega
 have k1:(k == 1)=false:=by rw [beq_eq_false_iff_ne];omega
 have k2:(k == 2)=false:=by rw [beq_eq_false_iff_ne];omega
 have k3:(k == 3)=false:=by rw [beq_eq_false_iff_ne];omega
 have k4:(k == 4)=false:=by rw [beq_eq_false_iff_ne];omega
 clear hk;go_enter func109,ntmps109;go_wp2;go_ret;exact ⟨rfl,clA⟩
theorem zEB (v:Wt.Vl) (w:World) (hf:Wt.FitV v) :
  CR 109 #[.agg #[.int .i64 v.k,.int .i64 v.n,.int .i64 v.d,.string v.t,.bool v.b,.int .i64 v.f]] w (.bool (Wv.right v.k v.n v.d v.t v.b v.f)):=by
 obtain ⟨k,n,d,t,b,f⟩:=v;obtain ⟨⟨h1,h2⟩,⟨h3,h4⟩,hs⟩:=hf;simp only at *;by_cases k0:k=0
 ·subst k0;exact zJU n d t b f w
 by_cases k1:k=1
 ·subst k1;exact zJb n d t b f w h1 h2 h3 h4
 by_cases k2:k=2
 ·subst k2;exact zKA n d t b f w hs
 by_cases k3:k=3
 ·subst k3;exact zJ9 n d t b f w
 by_cases k4:k=4
 ·subst k4;exact zKa n d t b f w
 exact zJh k n d t b f w (by omega)
def zGF (small:Bool) (c:UInt8):Bool:=Wlx.cap c || (small && Wlx.low c)
theorem zOO:zGF false=Wlx.cap:=by funext c;simp [zGF]
theorem zOQ:zGF true=Wt.ltr:=by funext c;simp [zGF,Wt.ltr]
def zHx (small:Bool) (j:Nat) (l:List UInt8):Bool:=(decide (0<j) || zGF small (l.headD 0) || l.isEmpty) && l.all (λc=>zGF small c || Wlx.dig c)
theorem zJZ (small:Bool) (j:Nat) (l:List UInt8):zHx small (j+1) l=l.all (λc=>zGF small c || Wlx.dig c):=by simp [zHx]
theorem zKq (small:Bool) (l:List UInt8) (h0:1<=l.length) (h1:l.length<=16):Wt.isNm (zGF small) l=zHx small 0 l:=by
 unfold Wt.isNm zHx;cases l with
 | nil=>simp at h0
 | cons c r=>rw [decide_eq_true h0,decide_eq_true h1];simp
theorem zJ6 (small:Bool) (j:Nat) (c:UInt8) (r:List UInt8):zHx small j (c::r)=((zGF small c || (decide (0<j) && Wlx.dig c)) && zHx small (j+1) r):=by
 rw [zJZ];unfold zHx;simp only [List.headD_cons,List.isEmpty_cons,List.all_cons,Bool.or_false];cases decide (0<j) <;> cases zGF small c <;> cases Wlx.dig c <;> simp
theorem zFe (small:Bool) (b:ByteArray) (w:World) (hs:b.size<=9223372036854775807) :
  Calls prog 79 #[.string b,.bool small] w λe w'=>e=.returned (.bool (Wt.isNm (zGF small) b.data.toList))/\w=w':=by
 have hl:b.data.toList.length=b.size:=rfl;by_cases h1:(b.size:Int)<1
 ·have E:Hid (Wt.isNm (zGF small) b.data.toList=false):=by
   show _=_
   unfold Wt.isNm;rw [hl,decide_eq_false (by omega)];simp
  rw [E.out];clear E;go_enter func79,ntmps79;go_wp2;go_ret;exact ⟨rfl,rfl⟩
 by_cases h16:(16:Int)<(b.size:Int)
 ·have E:Hid (Wt.isNm (zGF small) b.data.toList=false):=by
   show _=_
   unfold Wt.isNm;rw [hl,decide_eq_false (p:=b.size<=16) (by omega)];simp
  rw [E.out];clear E;go_enter func79,ntmps79;go_wp2;go_ret;exact ⟨rfl,rfl⟩
 obtain ⟨R,hR⟩:∃ R,Wt.isNm (zGF small) b.data.toList=R:=⟨_,rfl⟩
 have E0:Hid (R=zHx small 0 (b.data.toList.drop 0)):=by
  show _=_
  rw [<-hR,List.drop_zero];exact zKq small _ (by omega) (by omega)
 rw [hR];clear hR;go_enter func79,ntmps79;go_wp2_with fail
 go_loopg [5] (b.size) (λgk x wr=>∃ j:Nat,x=.int .i64 j/\gk=b.size - j/\j<=b.size/\Hid (R=zHx small j (b.data.toList.drop j))/\wr=w)
 case atStart=>exact ⟨0,rfl,rfl,Nat.zero_le _,E0,rfl⟩
 case round =>
  clear E0;obtain ⟨j,rfl,hg,hj,HR,rfl⟩:=hrel;by_cases hlt:j<b.size
  ·have hli:(j:Int)<(b.size:Int):=by omega
   have hd:=zA9 b j hlt;have HR2:Hid (R=((zGF small (b[j]) || (decide (0<j) && Wlx.dig (b[j]))) && zHx small (j+1) (b.data.toList.drop (j+1)))):=by show _=_;rw [HR.out,hd,zJ6]
   clear HR hd;obtain ⟨T,hT⟩:∃ T,zHx small (j+1) (b.data.toList.drop (j+1))=T:=⟨_,rfl⟩
   have HT:Hid (T=zHx small (j+1) (b.data.toList.drop (j+1))):=hT.symm;rw [hT] at HR2;clear hT;unfold zGF Wlx.cap Wlx.low Wlx.dig at HR2;by_cases a1:65<=((b[j]).toNat:Int) <;> by_cases a2:((b[j]).toNat:Int)<=90 <;> by_cases a3:97<=((b[j]).toNat:Int) <;> by_cases a4:((b[j]).toNat:Int)<=122 <;> by_cases a5:48<=((b[j]).toNat:Int) <;> by_cases a6:((b[j]).toNat:Int)<=57
   any_goals (exfalso;omega)
   all_goals by_cases j0:(0:Int)<(j:Int)
   all_goals have j0':decide (0<j)=decide ((0:Int)<(j:Int)):=by rw [decide_eq_decide];omega
   all_goals rw [j0'] at HR2
   all_goals clear j0'
   all_goals cases small
   all_goals first
    | (
      have E:Hid (R=false):=by (show _=_;rw [HR2.out];simp only [a1,a2,a3,a4,a5,a6,j0,decide_true,decide_false,Bool.true_and,Bool.false_and,Bool.and_true,Bool.and_false,Bool.or_false,Bool.or_true])
      clear HR2 HT;go_wp2;go_ret;exact ⟨by rw [E.out];rfl,rfl⟩)
    | (
      have E:Hid (R=T):=by (show _=_;rw [HR2.out];simp only [a1,a2,a3,a4,a5,a6,j0,decide_true,decide_false,Bool.true_and,Bool.and_true,Bool.and_false,Bool.or_false,Bool.or_true])
      clear HR2;go_wp2_with fail
      go_roundg (b.size - (j+1))
      case rel=>exact ⟨j+1,by simp,rfl,hlt,E.out.trans HT.out,by first | trivial | rfl⟩
      case measure=>omega)
  ·have hli:¬ (j:Int)<(b.size:Int):=by omega
   have E:Hid (R=true):=by
    show _=_
    rw [HR.out,zAl b j hlt];simp [zHx]
   clear HR;go_wp2;go_ret;exact ⟨by rw [E.out];rfl,rfl⟩
theorem zEo (b:ByteArray) (w:World) (hs:b.size<=9223372036854775807):Calls prog 79 #[.string b,.bool false] w λe w'=>e=.returned (.bool (Wt.fnNm b))/\w=w':=by
 have h:=zFe false b w hs;rw [zOO] at h;exact h
theorem zEb (b:ByteArray) (w:World) (hs:b.size<=9223372036854775807):Calls prog 79 #[.string b,.bool true] w λe w'=>e=.returned (.bool (Wt.shNm b))/\w=w':=by
 have h:=zFe true b w hs;rw [zOQ] at h;exact h
theorem zME (o:Int) (w:World):Calls prog 78 #[.int .i64 o] w λe w'=>e=.returned (.bool (Wt.isBin o))/\w=w':=by
 unfold Wt.isBin;by_cases a1:11<=o <;> by_cases a2:o<=16 <;> by_cases a3:21<=o <;> by_cases a4:o<=26
 any_goals (exfalso;omega)
 all_goals
  go_enter func78,ntmps78;go_wp2;go_ret;exact ⟨zA3 (by simp [a1,a2,a3,a4]),rfl⟩
theorem zGX (a:Wt.Rf) (w:World) (hs:a.s.size<=9223372036854775807):CR 77 #[.agg #[.string a.s,.int .i64 a.r,.int .i64 a.c,.bool a.fr,.bool a.fc]] w (.bool (Wt.rfOk a)):=by
 obtain ⟨s,r,c,fr,fc⟩:=a;unfold Wt.rfOk Wt.inR;simp only at hs ⊢;have C:=λw=>zEb s w hs
 by_cases r0:r<0
 ·have r0':¬ 0<=r:=by omega
  rw [decide_eq_false r0'];go_enter func77,ntmps77;go_wp2;go_ret;exact ⟨zA3 (by simp),clA⟩
 by_cases r1:65536<=r
 ·rw [decide_eq_false (p:=r<65536) (by omega)];go_enter func77,ntmps77;go_wp2;go_ret;exact ⟨zA3 (by simp),clA⟩
 by_cases c0:c<0
 ·rw [decide_eq_false (p:=0<=c) (by omega)];go_enter func77,ntmps77;go_wp2;go_ret;exact ⟨zA3 (by simp),clA⟩
 by_cases c1:256<=c
 ·rw [decide_eq_false (p:=c<256) (by omega)];go_enter func77,ntmps77;go_wp2;go_ret;exact ⟨zA3 (by simp),clA⟩
 rw [decide_eq_true (p:=0<=r) (by omega),decide_eq_true (p:=r<65536) (by omega),decide_eq_true (p:=0<=c) (by omega),decide_eq_true (p:=c<256) (by omega)];by_cases h0:s=⟨#[]⟩
 ·subst h0;go_enter func77,ntmps77;go_wp2;go_ret;exact ⟨rfl,clA⟩
 ·have hE:=zEa h0;rw [decide_eq_false h0];generalize Wt.shNm s=q at *;go_enter func77,ntmps77;go_wp2_with fail
  refine (C _).mono ?_;rintro e w2 ⟨rfl,rfl⟩;go_wp2;go_ret;exact ⟨by simp,clA⟩
theorem zLH (v:Wt.Vl) (w:World) (hf:Wt.FitV v):CR 76 #[.agg #[.int .i64 v.k,.int .i64 v.n,.int .i64 v.d,.string v.t,.bool v.b,.int .i64 v.f]] w (.bool (Wt.vlOk v)):=by
 have C:=λw=>zEB v w hf
 obtain ⟨k,n,d,t,b,f⟩:=v;obtain ⟨⟨h1,h2⟩,⟨h3,h4⟩,hs⟩:=hf;unfold Wt.vlOk;simp only at h1 h2 h3 h4 hs C ⊢;by_cases e0:k=0
 ·subst e0;rw [if_pos rfl];generalize Wv.right 0 n d t b f=q at *;cases q
  all_goals
   go_enter func76,ntmps76;go_wp2_with fail
   refine (C _).mono ?_;rintro e w1 ⟨rfl,hb⟩;have hB:=zAA (zAI (Below.refl _ w) _) hb;obtain ⟨c0,c1,c2,c3,c4,c5⟩:=(AtL.below hb (AtL.new0 w _ [.int .i64 0,.int .i64 n,.int .i64 d,.string t,.bool b,.int .i64 f])).f6;go_wp2;go_ret;exact ⟨rfl,hB⟩
 rw [if_neg e0];by_cases e1:k=1
 ·subst e1;rw [if_pos rfl];have hr:Wv.right 1 n d t b f=true->1<=d:=by
   unfold Wv.right;rw [if_neg (by decide),if_pos rfl];intro h;simp only [Bool.and_eq_true] at h;have:=h.1.1.1;unfold Wnum.rightB at this;have:=of_decide_eq_true this;omega
  generalize Wv.right 1 n d t b f=q at *;cases q
  ·go_enter func76,ntmps76;go_wp2_with fail
   refine (C _).mono ?_;rintro e w1 ⟨rfl,hb⟩;have hB:=zAA (zAI (Below.refl _ w) _) hb;obtain ⟨c0,c1,c2,c3,c4,c5⟩:=(AtL.below hb (AtL.new0 w _ [.int .i64 1,.int .i64 n,.int .i64 d,.string t,.bool b,.int .i64 f])).f6;go_wp2;go_ret;exact ⟨rfl,hB⟩
  have hd:=hr rfl;clear hr;by_cases hn:0<=n
  ·have hd0:¬ d=0:=by omega
   have hdm:¬ d = -1:=by omega
   rw [decide_eq_true hn];go_enter func76,ntmps76;go_wp2_with fail
   refine (C _).mono ?_;rintro e w1 ⟨rfl,hb⟩;have hB:=zAA (zAI (Below.refl _ w) _) hb;obtain ⟨c0,c1,c2,c3,c4,c5⟩:=(AtL.below hb (AtL.new0 w _ [.int .i64 1,.int .i64 n,.int .i64 d,.string t,.bool b,.int .i64 f])).f6;go_wp2;go_ret;refine ⟨zA3 ?_,hB⟩;rw [Bool.eq_iff_iff];simp
  ·rw [decide_eq_false hn];go_enter func76,ntmps76;go_wp2_with fail
   refine (C _).mono ?_;rintro e w1 ⟨rfl,hb⟩;have hB:=zAA (zAI (Below.refl _ w) _) hb;obtain ⟨c0,c1,c2,c3,c4,c5⟩:=(AtL.below hb (AtL.new0 w _ [.int .i64 1,.int .i64 n,.int .i64 d,.string t,.bool b,.int .i64 f])).f6;go_wp2;go_ret;exact ⟨zA3 (by simp),hB⟩
 rw [if_neg e1];generalize Wv.right k n d t b f=q at *;have e0':(k == 0)=false:=by simp [e0]
 have e1':(k != 1)=true:=by simp [e1]
 cases q
 all_goals
  go_enter func76,ntmps76;go_wp2_with fail
  refine (C _).mono ?_;rintro e w1 ⟨rfl,hb⟩;have hB:=zAA (zAI (Below.refl _ w) _) hb;obtain ⟨c0,c1,c2,c3,c4,c5⟩:=(AtL.below hb (AtL.new0 w _ [.int .i64 k,.int .i64 n,.int .i64 d,.string t,.bool b,.int .i64 f])).f6;go_wp2;go_ret;exact ⟨rfl,hB⟩
def nps (x:Wt.Nd):Int:=if x.k=4 then 1 else if x.k=5 then 2 else if x.k=6 then x.ar else 0
theorem zFl {x:Wt.Nd} (h:Wt.right x=true):nps x=Wt.parts x:=by
 unfold Wt.right at h;unfold Wt.parts nps;by_cases h4:x.k=4
 ·rw [if_pos h4,if_pos h4]
 rw [if_neg h4,if_neg h4];by_cases h5:x.k=5
 ·rw [if_pos h5,if_pos h5]
 rw [if_neg h5,if_neg h5];by_cases h6:x.k=6
 ·rw [if_pos h6]
 rw [if_neg h6];by_cases h1:x.k=1
 ·rw [if_pos h1,Bool.and_eq_true,zAd] at h;have:=congrArg Wt.Nd.ar h.2;simp only at this;omega
 rw [if_neg h1] at h;by_cases h1:x.k=2
 ·rw [if_pos h1,Bool.and_eq_true,zAd] at h;have:=congrArg Wt.Nd.ar h.2;simp only at this;omega
 rw [if_neg h1] at h;by_cases h1:x.k=3
 ·rw [if_pos h1,Bool.and_eq_true,zAd] at h;have:=congrArg Wt.Nd.ar h.2;simp only at this;omega
 rw [if_neg h1,if_neg h4,if_neg h5,if_neg h6] at h;cases h
theorem zIx (o:Int) (w:World):CR 78 #[.int .i64 o] w (.bool (Wt.isBin o)):=(zME o w).mono λe w' h=>⟨h.1,h.2 ▸ Below.refl _ _⟩
theorem zNw (x:Wt.Nd) (w:World) (hk:x.k=1) (hf:Wt.FitV x.v) :
  CR 48 #[ndV x] w (.tuple #[.int .i64 0,.bool (Wt.vlOk x.v && eqN x ⟨1,x.v,0,⟨#[]⟩,0,Wt.r0,Wt.r0⟩)]):=by
 have hq:∀ w:World,(binOp .eql 30 (.agg (zAE x).toArray) (.agg #[.int .i64 1,.int .i64 x.v.k,.int .i64 x.v.n,.int .i64 x.v.d,.string x.v.t,.bool x.v.b,.int .i64 x.v.f,.int .i64 0,.string ⟨#[]⟩,.int .i64 0,.string ⟨#[]⟩,.int .i64 0,.int .i64 0,.bool false,.bool false,.string ⟨#[]⟩,.int .i64 0,.int .i64 0,.bool false,.bool false])).run prog w=.ok (.bool (eqN x ⟨1,x.v,0,⟨#[]⟩,0,Wt.r0,Wt.r0⟩)) w:=λw=>zBK x ⟨1,x.v,0,⟨#[]⟩,0,Wt.r0,Wt.r0⟩ w
 generalize eqN x ⟨1,x.v,0,⟨#[]⟩,0,Wt.r0,Wt.r0⟩=R at *;have C:=λw=>zLH x.v w hf
 generalize Wt.vlOk x.v=q at *;have pA:AtL (w.alloc (.cells (zAE x).toArray 30)) w.heap.size (zAE x):=AtL.new0 w _ _;have hBa:Below w.heap.size w (w.alloc (.cells (zAE x).toArray 30)):=zAI (Below.refl _ w) _;show Calls _ _ #[.agg (zAE x).toArray] _ _
 cases R
 ·go_enter func48,ntmps48;go_upto_region 1 with fail
  generalize (w.alloc (.cells (zAE x).toArray 30))=W0 at *;have rA:=pA.range;have a0:W0.cell? ⟨w.heap.size,0,none⟩=some (.int .i64 1):=by rw [<-hk];exact pA.2.1 0 _ rfl
  have a1:=pA.2.1 1 _ rfl;have a2:=pA.2.1 2 _ rfl;have a3:=pA.2.1 3 _ rfl;have a4:=pA.2.1 4 _ rfl;have a5:=pA.2.1 5 _ rfl;have a6:=pA.2.1 6 _ rfl;go_wp2_with ((with_reducible refine zAF ?_ 30 (.tmp 1) ?_ w.heap.size 0 ?_ (zAE x) _ ?_ underlying30 ?_ ?_ ?_);rfl;rfl;rfl;exact rA;rfl;kernel_rfl)
  go_ret2
  exact ⟨by simp,hBa⟩
 ·go_enter func48,ntmps48;go_upto_region 1 with fail
  generalize (w.alloc (.cells (zAE x).toArray 30))=W0 at *;have rA:=pA.range;have a0:W0.cell? ⟨w.heap.size,0,none⟩=some (.int .i64 1):=by rw [<-hk];exact pA.2.1 0 _ rfl
  have a1:=pA.2.1 1 _ rfl;have a2:=pA.2.1 2 _ rfl;have a3:=pA.2.1 3 _ rfl;have a4:=pA.2.1 4 _ rfl;have a5:=pA.2.1 5 _ rfl;have a6:=pA.2.1 6 _ rfl;go_wp2_with ((with_reducible refine zAF ?_ 30 (.tmp 1) ?_ w.heap.size 0 ?_ (zAE x) _ ?_ underlying30 ?_ ?_ ?_);rfl;rfl;rfl;exact rA;rfl;kernel_rfl)
  refine (C _).mono ?_;rintro e w1 ⟨rfl,hb⟩;have hB1:=zAA hBa hb;go_wp2;go_ret2
  exact ⟨by simp,hB1⟩
theorem zOu (x:Wt.Nd) (w:World) (hk:x.k=2) (hs:x.a.s.size<=9223372036854775807) :
  CR 48 #[ndV x] w (.tuple #[.int .i64 0,.bool (Wt.rfOk x.a && eqN x ⟨2,Wt.v0,0,⟨#[]⟩,0,x.a,Wt.r0⟩)]):=by
 have hq:∀ w:World,(binOp .eql 30 (.agg (zAE x).toArray) (.agg #[.int .i64 2,.int .i64 0,.int .i64 0,.int .i64 0,.string ⟨#[]⟩,.bool false,.int .i64 0,.int .i64 0,.string ⟨#[]⟩,.int .i64 0,.string x.a.s,.int .i64 x.a.r,.int .i64 x.a.c,.bool x.a.fr,.bool x.a.fc,.string ⟨#[]⟩,.int .i64 0,.int .i64 0,.bool false,.bool false])).run prog w=.ok (.bool (eqN x ⟨2,Wt.v0,0,⟨#[]⟩,0,x.a,Wt.r0⟩)) w:=λw=>zBK x ⟨2,Wt.v0,0,⟨#[]⟩,0,x.a,Wt.r0⟩ w
 generalize eqN x ⟨2,Wt.v0,0,⟨#[]⟩,0,x.a,Wt.r0⟩=R at *;have C:=λw=>zGX x.a w hs
 generalize Wt.rfOk x.a=q at *;have pA:AtL (w.alloc (.cells (zAE x).toArray 30)) w.heap.size (zAE x):=AtL.new0 w _ _;have hBa:Below w.heap.size w (w.alloc (.cells (zAE x).toArray 30)):=zAI (Below.refl _ w) _;show Calls _ _ #[.agg (zAE x).toArray] _ _
 cases R
 ·go_enter func48,ntmps48;go_upto_region 1 with fail
  generalize (w.alloc (.cells (zAE x).toArray 30))=W0 at *;have rA:=pA.range;have a0:W0.cell? ⟨w.heap.size,0,none⟩=some (.int .i64 2):=by rw [<-hk];exact pA.2.1 0 _ rfl
  have a10:=pA.2.1 10 _ rfl;have a11:=pA.2.1 11 _ rfl;have a12:=pA.2.1 12 _ rfl;have a13:=pA.2.1 13 _ rfl;have a14:=pA.2.1 14 _ rfl;go_wp2_with ((with_reducible refine zAF ?_ 30 (.tmp 1) ?_ w.heap.size 0 ?_ (zAE x) _ ?_ underlying30 ?_ ?_ ?_);rfl;rfl;rfl;exact rA;rfl;kernel_rfl)
  go_ret2
  exact ⟨by simp,hBa⟩
 ·go_enter func48,ntmps48;go_upto_region 1 with fail
  generalize (w.alloc (.cells (zAE x).toArray 30))=W0 at *;have rA:=pA.range;have a0:W0.cell? ⟨w.heap.size,0,none⟩=some (.int .i64 2):=by rw [<-hk];exact pA.2.1 0 _ rfl
  have a10:=pA.2.1 10 _ rfl;have a11:=pA.2.1 11 _ rfl;have a12:=pA.2.1 12 _ rfl;have a13:=pA.2.1 13 _ rfl;have a14:=pA.2.1 14 _ rfl;go_wp2_with ((with_reducible refine zAF ?_ 30 (.tmp 1) ?_ w.heap.size 0 ?_ (zAE x) _ ?_ underlying30 ?_ ?_ ?_);rfl;rfl;rfl;exact rA;rfl;kernel_rfl)
  refine (C _).mono ?_;rintro e w1 ⟨rfl,hb⟩;have hB1:=zAA hBa hb;go_wp2;go_ret2
  exact ⟨by simp,hB1⟩
theorem zNg (x:Wt.Nd) (w:World) (hk:x.k=5) :
  CR 48 #[ndV x] w (.tuple #[.int .i64 2,.bool (Wt.isBin x.op && eqN x ⟨5,Wt.v0,x.op,⟨#[]⟩,0,Wt.r0,Wt.r0⟩)]):=by
 have hq:∀ w:World,(binOp .eql 30 (.agg (zAE x).toArray) (.agg #[.int .i64 5,.int .i64 0,.int .i64 0,.int .i64 0,.string ⟨#[]⟩,.bool false,.int .i64 0,.int .i64 x.op,.string ⟨#[]⟩,.int .i64 0,.string ⟨#[]⟩,.int .i64 0,.int .i64 0,.bool false,.bool false,.string ⟨#[]⟩,.int .i64 0,.int .i64 0,.bool false,.bool false])).run prog w=.ok (.bool (eqN x ⟨5,Wt.v0,x.op,⟨#[]⟩,0,Wt.r0,Wt.r0⟩)) w:=λw=>zBK x ⟨5,Wt.v0,x.op,⟨#[]⟩,0,Wt.r0,Wt.r0⟩ w
 generalize eqN x ⟨5,Wt.v0,x.op,⟨#[]⟩,0,Wt.r0,Wt.r0⟩=R at *;have C:=λw=>zIx x.op w
 generalize Wt.isBin x.op=q at *;have pA:AtL (w.alloc (.cells (zAE x).toArray 30)) w.heap.size (zAE x):=AtL.new0 w _ _;have hBa:Below w.heap.size w (w.alloc (.cells (zAE x).toArray 30)):=zAI (Below.refl _ w) _;show Calls _ _ #[.agg (zAE x).toArray] _ _
 cases R
 ·go_enter func48,ntmps48;go_upto_region 1 with fail
  generalize (w.alloc (.cells (zAE x).toArray 30))=W0 at *;have rA:=pA.range;have a0:W0.cell? ⟨w.heap.size,0,none⟩=some (.int .i64 5):=by rw [<-hk];exact pA.2.1 0 _ rfl
  have a7:=pA.2.1 7 _ rfl;go_wp2_with ((with_reducible refine zAF ?_ 30 (.tmp 1) ?_ w.heap.size 0 ?_ (zAE x) _ ?_ underlying30 ?_ ?_ ?_);rfl;rfl;rfl;exact rA;rfl;kernel_rfl)
  go_ret2
  exact ⟨by simp,hBa⟩
 ·go_enter func48,ntmps48;go_upto_region 1 with fail
  generalize (w.alloc (.cells (zAE x).toArray 30))=W0 at *;have rA:=pA.range;have a0:W0.cell? ⟨w.heap.size,0,none⟩=some (.int .i64 5):=by rw [<-hk];exact pA.2.1 0 _ rfl
  have a7:=pA.2.1 7 _ rfl;go_wp2_with ((with_reducible refine zAF ?_ 30 (.tmp 1) ?_ w.heap.size 0 ?_ (zAE x) _ ?_ underlying30 ?_ ?_ ?_);rfl;rfl;rfl;exact rA;rfl;kernel_rfl)
  refine (C _).mono ?_;rintro e w1 ⟨rfl,hb⟩;have hB1:=zAA hBa hb;go_wp2;go_ret2
  exact ⟨by simp,hB1⟩
end Go.Proofs.YtdghjlmnlodnlaaGreatDoor
