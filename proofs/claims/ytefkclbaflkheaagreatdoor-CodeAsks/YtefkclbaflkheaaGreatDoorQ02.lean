/- TWalkA, TWalkB, TEq, TRightA. -/
import Derived.Test.YtefkclbaflkheaaGreatDoorQ01
import Derived.OwnWalk
set_option maxHeartbeats 4000000
set_option maxRecDepth 100000
namespace Go.Proofs.YtefkclbaflkheaaGreatDoor
open Tryz
open Go.RowKit
set_option linter.unusedVariables false
variable {ka kb:Nat} {x y:Wt.Nd} {W:World}
theorem zEX (c:UInt8) (w:World):Calls prog 152 #[.int .u8 c.toNat] w λe w'=>e=.returned (.bool (Wlx.cap c))/\w=w':=by
 unfold Wlx.cap;go_enter func152,ntmps152;by_cases a:65<=(c.toNat:Int)
 ·go_wp2;go_ret;exact ⟨zAf (by simp [a]),rfl⟩
 ·go_wp2;go_ret;exact ⟨zAf (by rw [decide_eq_false (by omega)];rfl),rfl⟩
theorem zE2 (c:UInt8) (w:World):Calls prog 169 #[.int .u8 c.toNat] w λe w'=>e=.returned (.bool (Wlx.dig c))/\w=w':=by
 unfold Wlx.dig;go_enter func169,ntmps169;by_cases a:48<=(c.toNat:Int)
 ·go_wp2;go_ret;exact ⟨zAf (by simp [a]),rfl⟩
 ·go_wp2;go_ret;exact ⟨zAf (by rw [decide_eq_false (by omega)];rfl),rfl⟩
theorem zHf (c:UInt8) (w:World):Calls prog 168 #[.int .u8 c.toNat] w λe w'=>e=.returned (.bool (Wt.ltr c))/\w=w':=by
 unfold Wt.ltr;have C:=zEX c w;unfold Wlx.low;generalize Wlx.cap c=q at *;go_enter func168,ntmps168;cases q
 ·by_cases a:97<=(c.toNat:Int)
  ·go_wp2_with fail
   refine C.mono ?_;rintro e w1 ⟨rfl,rfl⟩;go_wp2;go_ret;exact ⟨zAf (by simp [a]),rfl⟩
  ·go_wp2_with fail
   refine C.mono ?_;rintro e w1 ⟨rfl,rfl⟩;go_wp2;go_ret;exact ⟨zAf (by rw [decide_eq_false (p:=97<=(c.toNat:Int)) (by omega)];rfl),rfl⟩
 ·go_wp2_with fail
  refine C.mono ?_;rintro e w1 ⟨rfl,rfl⟩;go_wp2;go_ret;exact ⟨zAf (by simp),rfl⟩
theorem zGW (b:ByteArray) (h:0<b.size):b.data.toList.headD 0=b[0]:=by
 have:=zBw b 0 h;rw [List.drop_zero] at this;rw [this];rfl
theorem zDT (p:UInt8->Bool) (b:ByteArray) (j:Nat) (h:j<b.size):(b.data.toList.drop j).all p=(p (b[j]) && (b.data.toList.drop (j+1)).all p):=by
 rw [zBw b j h];rfl
theorem zGb (b:ByteArray) (w:World) (hs:b.size<=9223372036854775807) :
  Calls prog 151 #[.string b,.func (.func 152) #[] #[]] w λe w'=>e=.returned (.bool (Wt.isNm Wlx.cap b.data.toList))/\w=w':=by
 have C:∀ (c:UInt8) (w:World),Calls prog 152 #[.int .u8 c.toNat] w λe w'=>e=.returned (.bool (Wlx.cap c))/\w=w':=zEX
 have hl:b.data.toList.length=b.size:=rfl;by_cases h0:b=⟨#[]⟩
 ·subst h0;go_enter func151,ntmps151;go_wp2;go_ret;exact ⟨rfl,rfl⟩
 have h1:0<b.size:=by
  rcases Nat.eq_zero_or_pos b.size with h | h
  ·exact absurd (ByteArray.size_eq_zero_iff.1 h) h0
  ·exact h
 have hb0:b.toList.isEmpty=false:=by
  rw [ByteArray.toList_eq];cases hh:b.data.toList with
  | nil=>rw [hh] at hl;exact absurd hl (by show ¬ 0=_;omega)
  | cons _ _=>rfl
 by_cases h16:16<b.size
 ·have h16i:(16:Int)<(b.size:Int):=by omega
  have E:Hid (Wt.isNm Wlx.cap b.data.toList=false):=by
   show _=_
   unfold Wt.isNm;rw [hl,decide_eq_false (p:=b.size<=16) (by omega)];simp
  rw [E.out];clear E;go_enter func151,ntmps151;go_wp2;go_ret;exact ⟨rfl,rfl⟩
 have h16i:¬ (16:Int)<(b.size:Int):=by omega
 have E0:Wt.isNm Wlx.cap b.data.toList=(Wlx.cap (b[0]) && b.data.toList.all (λc=>Wlx.cap c || Wlx.dig c)):=by
  unfold Wt.isNm;rw [hl,decide_eq_true (by omega),decide_eq_true (by omega),zGW b h1];simp
 rw [E0];clear E0;have C0:=C (b[0]) w;cases hp:Wlx.cap (b[0]) with
 | false =>
  rw [hp] at C0;go_enter func151,ntmps151;go_wp2_with fail
  refine C0.mono ?_;rintro e w1 ⟨rfl,rfl⟩;go_wp2;go_ret;exact ⟨rfl,rfl⟩
 | true =>
  rw [hp] at C0;clear hp;obtain ⟨R,hR⟩:∃ R,b.data.toList.all (λc=>Wlx.cap c || Wlx.dig c)=R:=⟨_,rfl⟩
  have E0:Hid (R=(b.data.toList.drop 0).all (λc=>Wlx.cap c || Wlx.dig c)):=hR.symm;rw [hR];clear hR;go_enter func151,ntmps151;go_wp2_with fail
  refine C0.mono ?_;rintro e w1 ⟨rfl,rfl⟩;go_wp2_with fail
  go_loopg [22] (b.size) (λgk x wr=>∃ j:Nat,x=.int .i64 j/\gk=b.size - j/\j<=b.size/\Hid (R=(b.data.toList.drop j).all (λc=>Wlx.cap c || Wlx.dig c))/\wr=w)
  case atStart=>exact ⟨0,rfl,rfl,Nat.zero_le _,E0,rfl⟩
  case round =>
   obtain ⟨j,rfl,hg,hj,HR,rfl⟩:=hrel;by_cases hlt:j<b.size
   ·have hli:(j:Int)<(b.size:Int):=by omega
    have hd:=zDT (λc=>Wlx.cap c || Wlx.dig c) b j hlt;have C1:=C (b[j]) wr;have C2:=zE2 (b[j]) wr;cases h1:Wlx.cap (b[j]) with
    | true =>
     have E:Hid (R=(b.data.toList.drop (j+1)).all (λc=>Wlx.cap c || Wlx.dig c)):=by show _=_;rw [HR.out,hd,h1];rfl
     rw [h1] at C1;clear HR hd h1 C2 C0;go_wp2_with fail
     refine C1.mono ?_;rintro e w1 ⟨rfl,rfl⟩;go_wp2_with fail
     go_roundg (b.size - (j+1))
     case rel=>exact ⟨j+1,by simp,rfl,hlt,E,by first | trivial | rfl⟩
     case measure=>omega
    | false =>
     cases h2:Wlx.dig (b[j]) with
     | true =>
      have E:Hid (R=(b.data.toList.drop (j+1)).all (λc=>Wlx.cap c || Wlx.dig c)):=by show _=_;rw [HR.out,hd,h1,h2];rfl
      rw [h1] at C1;rw [h2] at C2;clear HR hd h1 h2 C0;go_wp2_with fail
      refine C1.mono ?_;rintro e w1 ⟨rfl,rfl⟩;go_wp2_with fail
      refine C2.mono ?_;rintro e w1 ⟨rfl,rfl⟩;go_wp2_with fail
      go_roundg (b.size - (j+1))
      case rel=>exact ⟨j+1,by simp,rfl,hlt,E,by first | trivial | rfl⟩
      case measure=>omega
     | false =>
      have E:Hid (R=false):=by show _=_;rw [HR.out,hd,h1,h2];rfl
      rw [h1] at C1;rw [h2] at C2;clear HR hd h1 h2 C0;go_wp2_with fail
      refine C1.mono ?_;rintro e w1 ⟨rfl,rfl⟩;go_wp2_with fail
      refine C2.mono ?_;rintro e w1 ⟨rfl,rfl⟩;go_wp2;go_ret;exact ⟨by rw [E.out];rfl,rfl⟩
   ·have hli:¬ (j:Int)<(b.size:Int):=by omega
    have E:Hid (R=true):=by show _=_;rw [HR.out,zB6 b j hlt];rfl
    clear HR C0;go_wp2;go_ret;exact ⟨by rw [E.out];rfl,rfl⟩
theorem zFk (b:ByteArray) (w:World) (hs:b.size<=9223372036854775807) :
  Calls prog 151 #[.string b,.func (.func 168) #[] #[]] w λe w'=>e=.returned (.bool (Wt.isNm Wt.ltr b.data.toList))/\w=w':=by
 have C:∀ (c:UInt8) (w:World),Calls prog 168 #[.int .u8 c.toNat] w λe w'=>e=.returned (.bool (Wt.ltr c))/\w=w':=zHf
 have hl:b.data.toList.length=b.size:=rfl;by_cases h0:b=⟨#[]⟩
 ·subst h0;go_enter func151,ntmps151;go_wp2;go_ret;exact ⟨rfl,rfl⟩
 have h1:0<b.size:=by
  rcases Nat.eq_zero_or_pos b.size with h | h
  ·exact absurd (ByteArray.size_eq_zero_iff.1 h) h0
  ·exact h
 have hb0:b.toList.isEmpty=false:=by
  rw [ByteArray.toList_eq];cases hh:b.data.toList with
  | nil=>rw [hh] at hl;exact absurd hl (by show ¬ 0=_;omega)
  | cons _ _=>rfl
 by_cases h16:16<b.size
 ·have h16i:(16:Int)<(b.size:Int):=by omega
  have E:Hid (Wt.isNm Wt.ltr b.data.toList=false):=by
   show _=_
   unfold Wt.isNm;rw [hl,decide_eq_false (p:=b.size<=16) (by omega)];simp
  rw [E.out];clear E;go_enter func151,ntmps151;go_wp2;go_ret;exact ⟨rfl,rfl⟩
 have h16i:¬ (16:Int)<(b.size:Int):=by omega
 have E0:Wt.isNm Wt.ltr b.data.toList=(Wt.ltr (b[0]) && b.data.toList.all (λc=>Wt.ltr c || Wlx.dig c)):=by
  unfold Wt.isNm;rw [hl,decide_eq_true (by omega),decide_eq_true (by omega),zGW b h1];simp
 rw [E0];clear E0;have C0:=C (b[0]) w;cases hp:Wt.ltr (b[0]) with
 | false =>
  rw [hp] at C0;go_enter func151,ntmps151;go_wp2_with fail
  refine C0.mono ?_;rintro e w1 ⟨rfl,rfl⟩;go_wp2;go_ret;exact ⟨rfl,rfl⟩
 | true =>
  rw [hp] at C0;clear hp;obtain ⟨R,hR⟩:∃ R,b.data.toList.all (λc=>Wt.ltr c || Wlx.dig c)=R:=⟨_,rfl⟩
  have E0:Hid (R=(b.data.toList.drop 0).all (λc=>Wt.ltr c || Wlx.dig c)):=hR.symm;rw [hR];clear hR;go_enter func151,ntmps151;go_wp2_with fail
  refine C0.mono ?_;rintro e w1 ⟨rfl,rfl⟩;go_wp2_with fail
  go_loopg [22] (b.size) (λgk x wr=>∃ j:Nat,x=.int .i64 j/\gk=b.size - j/\j<=b.size/\Hid (R=(b.data.toList.drop j).all (λc=>Wt.ltr c || Wlx.dig c))/\wr=w)
  case atStart=>exact ⟨0,rfl,rfl,Nat.zero_le _,E0,rfl⟩
  case round =>
   obtain ⟨j,rfl,hg,hj,HR,rfl⟩:=hrel;by_cases hlt:j<b.size
   ·have hli:(j:Int)<(b.size:Int):=by omega
    have hd:=zDT (λc=>Wt.ltr c || Wlx.dig c) b j hlt;have C1:=C (b[j]) wr;have C2:=zE2 (b[j]) wr;cases h1:Wt.ltr (b[j]) with
    | true =>
     have E:Hid (R=(b.data.toList.drop (j+1)).all (λc=>Wt.ltr c || Wlx.dig c)):=by show _=_;rw [HR.out,hd,h1];rfl
     rw [h1] at C1;clear HR hd h1 C2 C0;go_wp2_with fail
     refine C1.mono ?_;rintro e w1 ⟨rfl,rfl⟩;go_wp2_with fail
     go_roundg (b.size - (j+1))
     case rel=>exact ⟨j+1,by simp,rfl,hlt,E,by first | trivial | rfl⟩
     case measure=>omega
    | false =>
     cases h2:Wlx.dig (b[j]) with
     | true =>
      have E:Hid (R=(b.data.toList.drop (j+1)).all (λc=>Wt.ltr c || Wlx.dig c)):=by show _=_;rw [HR.out,hd,h1,h2];rfl
      rw [h1] at C1;rw [h2] at C2;clear HR hd h1 h2 C0;go_wp2_with fail
      refine C1.mono ?_;rintro e w1 ⟨rfl,rfl⟩;go_wp2_with fail
      refine C2.mono ?_;rintro e w1 ⟨rfl,rfl⟩;go_wp2_with fail
      go_roundg (b.size - (j+1))
      case rel=>exact ⟨j+1,by simp,rfl,hlt,E,by first | trivial | rfl⟩
      case measure=>omega
     | false =>
      have E:Hid (R=false):=by show _=_;rw [HR.out,hd,h1,h2];rfl
      rw [h1] at C1;rw [h2] at C2;clear HR hd h1 h2 C0;go_wp2_with fail
      refine C1.mono ?_;rintro e w1 ⟨rfl,rfl⟩;go_wp2_with fail
      refine C2.mono ?_;rintro e w1 ⟨rfl,rfl⟩;go_wp2;go_ret;exact ⟨by rw [E.out];rfl,rfl⟩
   ·have hli:¬ (j:Int)<(b.size:Int):=by omega
    have E:Hid (R=true):=by show _=_;rw [HR.out,zB6 b j hlt];rfl
    clear HR C0;go_wp2;go_ret;exact ⟨by rw [E.out];rfl,rfl⟩
theorem zJ9 (b:ByteArray) (w:World) (hs:b.size<=9223372036854775807):Calls prog 113 #[.string b] w λe w'=>e=.returned (.bool (Wt.fnNm b))/\w=w':=by
 have C:=zGb b w hs;unfold Wt.fnNm;generalize Wt.isNm Wlx.cap b.data.toList=R at *;go_enter func113,ntmps113;go_wp2_with fail
 refine C.mono ?_;rintro e w1 ⟨rfl,rfl⟩;go_wp2;go_ret;exact ⟨rfl,rfl⟩
theorem zJt (b:ByteArray) (w:World) (hs:b.size<=9223372036854775807):Calls prog 150 #[.string b] w λe w'=>e=.returned (.bool (Wt.shNm b))/\w=w':=by
 have C:=zFk b w hs;unfold Wt.shNm;generalize Wt.isNm Wt.ltr b.data.toList=R at *;go_enter func150,ntmps150;go_wp2_with fail
 refine C.mono ?_;rintro e w1 ⟨rfl,rfl⟩;go_wp2;go_ret;exact ⟨rfl,rfl⟩
theorem zLP (r c:Int):Wpl.rightC 0 r c=Wt.inR r c:=by
 unfold Wpl.rightC Wpl.inB Wt.inR;rw [Bool.eq_iff_iff];simp
theorem zHu {b:ByteArray} (h:¬ b=⟨#[]⟩):b.toList.isEmpty=false:=by
 rw [ByteArray.toList_eq];cases hh:b.data.toList with
 | nil=>exact absurd (by obtain ⟨⟨l⟩⟩:=b;simp at hh;subst hh;rfl) h
 | cons _ _=>rfl
theorem zDp (a:Wt.Rf) (w:World) (hs:a.s.size<=9223372036854775807):CR 110 #[rfV a] w (.bool (Wt.rfOk a)):=by
 obtain ⟨s,r,c,fr,fc⟩:=a;unfold Wt.rfOk;simp only;show Calls _ _ #[.agg #[.string s,.int .i64 r,.int .i64 c,.bool fr,.bool fc]] _ _
 have C1:=λw=>zAg 0 r c w
 rw [zLP] at C1;have C2:=λw=>zJt s w hs
 generalize Wt.inR r c=q at *;cases q
 ·go_enter func110,ntmps110;go_wp2_with fail
  refine (C1 _).mono ?_;rintro e w1 ⟨rfl,hb⟩;have hB:=zAB (zAK (Below.refl _ w) _) hb;go_wp2;go_ret;exact ⟨rfl,hB⟩
 by_cases h0:s=⟨#[]⟩
 ·subst h0;go_enter func110,ntmps110;go_wp2_with fail
  refine (C1 _).mono ?_;rintro e w1 ⟨rfl,hb⟩;have hB:=zAB (zAK (Below.refl _ w) _) hb;obtain ⟨c0,c1,c2,c3,c4⟩:=(AtL.below hb (AtL.new0 w _ [.string ⟨#[]⟩,.int .i64 r,.int .i64 c,.bool fr,.bool fc])).f5;go_wp2;go_ret;exact ⟨rfl,hB⟩
 ·have hE:=zHu h0;rw [decide_eq_false h0];generalize Wt.shNm s=q at *;go_enter func110,ntmps110;go_wp2_with fail
  refine (C1 _).mono ?_;rintro e w1 ⟨rfl,hb⟩;have hB:=zAB (zAK (Below.refl _ w) _) hb;obtain ⟨c0,c1,c2,c3,c4⟩:=(AtL.below hb (AtL.new0 w _ [.string s,.int .i64 r,.int .i64 c,.bool fr,.bool fc])).f5;go_wp2_with fail
  refine (C2 _).mono ?_;rintro e w2 ⟨rfl,rfl⟩;go_wp2;go_ret;exact ⟨by simp,hB⟩
theorem zCR (v:Wt.Vl) (w:World) (h1:-9223372036854775808<=v.n) (h2:v.n<=9223372036854775807) (h3:-9223372036854775808<=v.d) (h4:v.d<=9223372036854775807) (hs:v.t.size<=9223372036854775807) :
  CR 92 #[vlV v] w (.bool (Wv.right v.k v.n v.d v.t v.b v.f)):=by
 obtain ⟨k,n,d,t,b,f⟩:=v;simp only at h1 h2 h3 h4 hs ⊢;show Calls _ _ #[.agg #[.int .i64 k,.int .i64 n,.int .i64 d,.string t,.bool b,.int .i64 f]] _ _
 by_cases e0:k=0
 ·subst e0;exact zIn n d t b f w
 by_cases e0:k=1
 ·subst e0;exact zHc n d t b f w h1 h2 h3 h4
 by_cases e0:k=2
 ·subst e0;exact zHm n d t b f w hs
 by_cases e0:k=3
 ·subst e0;exact zIp n d t b f w
 by_cases e0:k=4
 ·subst e0;exact zHk n d t b f w
 exact zHj k n d t b f w (by omega)
theorem zJh (v:Wt.Vl) (w:World) (h1:-9223372036854775808<=v.n) (h2:v.n<=9223372036854775807) (h3:-9223372036854775808<=v.d) (h4:v.d<=9223372036854775807) (hs:v.t.size<=9223372036854775807) :
  CR 109 #[vlV v] w (.bool (Wt.vlOk v)):=by
 have C:=λw=>zCR v w h1 h2 h3 h4 hs
 obtain ⟨k,n,d,t,b,f⟩:=v;unfold Wt.vlOk;simp only [vlV,vl6] at h1 h2 h3 h4 hs C ⊢;show Calls _ _ #[.agg #[.int .i64 k,.int .i64 n,.int .i64 d,.string t,.bool b,.int .i64 f]] _ _
 by_cases e0:k=0
 ·subst e0;go_enter func109,ntmps109;go_wp2;go_ret;exact ⟨rfl,clA⟩
 rw [if_neg e0];by_cases e1:k=1
 ·subst e1;rw [if_pos rfl];have hr:Wv.right 1 n d t b f=true->1<=d:=by
   unfold Wv.right;rw [if_neg (by decide),if_pos rfl];intro h;simp only [Bool.and_eq_true] at h;have:=h.1.1.1;unfold Wnum.rightB at this;have:=of_decide_eq_true this;omega
  generalize Wv.right 1 n d t b f=q at *;cases q
  ·go_enter func109,ntmps109;go_wp2_with fail
   refine (C _).mono ?_;rintro e w1 ⟨rfl,hb⟩;have hB:=zAB (zAK (Below.refl _ w) _) hb;go_wp2;go_ret;exact ⟨rfl,hB⟩
  have hd:=hr rfl;clear hr;by_cases hn:0<=n
  ·have hd0:¬ d=0:=by omega
   have hdm:¬ d = -1:=by omega
   rw [decide_eq_true hn];go_enter func109,ntmps109;go_wp2_with fail
   refine (C _).mono ?_;rintro e w1 ⟨rfl,hb⟩;have hB:=zAB (zAK (Below.refl _ w) _) hb;obtain ⟨c0,c1,c2,c3,c4,c5⟩:=(AtL.below hb (AtL.new0 w _ [.int .i64 1,.int .i64 n,.int .i64 d,.string t,.bool b,.int .i64 f])).f6;go_wp2;go_ret;refine ⟨zAf ?_,hB⟩;rw [Bool.eq_iff_iff];simp
  ·rw [decide_eq_false hn];go_enter func109,ntmps109;go_wp2_with fail
   refine (C _).mono ?_;rintro e w1 ⟨rfl,hb⟩;have hB:=zAB (zAK (Below.refl _ w) _) hb;obtain ⟨c0,c1,c2,c3,c4,c5⟩:=(AtL.below hb (AtL.new0 w _ [.int .i64 1,.int .i64 n,.int .i64 d,.string t,.bool b,.int .i64 f])).f6;go_wp2;go_ret;exact ⟨zAf (by simp),hB⟩
 rw [if_neg e1];generalize Wv.right k n d t b f=q at *;have e0':(k == 0)=false:=by simp [e0]
 have e1':(k == 1)=false:=by simp [e1]
 go_enter func109,ntmps109;go_wp2_with fail
 refine (C _).mono ?_;rintro e w1 ⟨rfl,hb⟩;have hB:=zAB (zAK (Below.refl _ w) _) hb;go_wp2;go_ret;exact ⟨rfl,hB⟩
theorem zFj (o:Int) (m:ByteArray) (tt:Int) (w:World):CR 112 #[.agg #[.int .i64 o,.string m,.int .i64 tt]] w (.int .i64 (if tt<5 then 5 else 4)):=by
 by_cases h:tt<5
 ·rw [if_pos h];go_enter func112,ntmps112;go_wp2;go_ret;exact ⟨rfl,clA⟩
 ·rw [if_neg h];go_enter func112,ntmps112;go_wp2;go_ret;exact ⟨rfl,clA⟩
def opV (x:Option (Int × List UInt8 × Int)):Value:=match x with
 | some (o,m,t)=>.tuple #[.agg #[.int .i64 o,.string ⟨m.toArray⟩,.int .i64 t],.bool true]
 | none=>.tuple #[.agg #[.int .i64 0,.string ⟨#[]⟩,.int .i64 0],.bool false]
theorem zGJ:∀ (j:Nat) (h:j<Wt.opsT.length) (w:World),(Instr.index 204 (.agg opsR.toArray) (.int .i64 (j:Int))).run prog w=.ok (.agg #[.int .i64 (Wt.opsT[j]).1,.string ⟨(Wt.opsT[j]).2.1.toArray⟩,.int .i64 (Wt.opsT[j]).2.2]) w
 | 0,_,w=>by kernel_rfl
 | 1,_,w=>by kernel_rfl
 | 2,_,w=>by kernel_rfl
 | 3,_,w=>by kernel_rfl
 | 4,_,w=>by kernel_rfl
 | 5,_,w=>by kernel_rfl
 | 6,_,w=>by kernel_rfl
 | 7,_,w=>by kernel_rfl
 | 8,_,w=>by kernel_rfl
 | 9,_,w=>by kernel_rfl
 | 10,_,w=>by kernel_rfl
 | 11,_,w=>by kernel_rfl
 | 12,_,w=>by kernel_rfl
 | 13,_,w=>by kernel_rfl
 | 14,_,w=>by kernel_rfl
 | j+15,h,w=>absurd h (by show ¬ j+15<15;omega)
theorem zGI (o:Int) (w:World) (hO:OpsAt w):CR 111 #[.int .i64 o] w (opV (Wt.opOf o)):=by
 have E0:Hid (Wt.opOf o=(Wt.opsT.drop 0).find? λx=>x.1 == o):=(rfl:Wt.opOf o=_)
 obtain ⟨R,hR⟩:∃ R,Wt.opOf o=R:=⟨_,rfl⟩
 rw [hR] at E0 ⊢;clear hR;have hO2:World.rangeAt (w.alloc (.cells #[.int .i64 0,.string ⟨#[]⟩,.int .i64 0] 169)) 1 0 opsR:=hO.alloc (.cells #[.int .i64 0,.string ⟨#[]⟩,.int .i64 0] 169);go_enter func111,ntmps111;go_upto_region 1 with fail
 go_wp2_with ((with_reducible refine wpList_load_mid (cs:=opsR) ?_ 204 (.global 1) ?_ 1 0 ?_ _ hO2 underlying204 ?_ ?_ ?_);rfl;rfl;rfl;rfl;kernel_rfl)
 go_loopg [7] 15 (λgk x wr=>∃ j:Nat,x=.int .i64 j/\gk=15 - j/\j<=15/\Hid (R=(Wt.opsT.drop j).find? λx=>x.1 == o)/\Below w.heap.size w wr/\Hid (AtL wr w.heap.size [.int .i64 0,.string ⟨#[]⟩,.int .i64 0]))
 case atStart=>exact ⟨0,rfl,rfl,Nat.zero_le _,E0,zAK (Below.refl _ _) _,AtL.new0 w _ [.int .i64 0,.string ⟨#[]⟩,.int .i64 0]⟩
 case round =>
  obtain ⟨j,rfl,hg,hj,HR,hb,HA⟩:=hrel;by_cases hlt:j<15
  ·have hli:(j:Int)<15:=by omega
   have hix:=zGJ j hlt;have hd:=List.drop_eq_getElem_cons (l:=Wt.opsT) hlt;generalize Wt.opsT[j]=x at *;obtain ⟨oj,mj,tj⟩:=x;simp only at hix;rw [hd] at HR;clear hd;have P0:=AtL.alloc HA.out (.cells #[.int .i64 oj,.string ⟨mj.toArray⟩,.int .i64 tj] 169);have hb2:=zAK hb (.cells #[.int .i64 oj,.string ⟨mj.toArray⟩,.int .i64 tj] 169);obtain ⟨a0,a1,a2,f0,f1,f2⟩:=HA.out.three;have hsz:=HA.out.1;have hne:¬ w.heap.size=wr.heap.size:=by omega
   have hne2:¬ wr.heap.size=w.heap.size:=by omega
   by_cases ho:oj=o
   ·have E:Hid (R=some (oj,mj,tj)):=by show _=_;rw [HR.out,List.find?_cons_of_pos (by simp [ho])]
    clear HR;subst ho;go_wp2;refine bodyPost_ret (v:=.tuple #[.agg #[.int .i64 oj,.string ⟨mj.toArray⟩,.int .i64 tj],.bool true]) (by simp [results,results111,go_sem, *]) rfl ⟨by rw [E.out];rfl,?_⟩;exact (clB hb)
   ·have ho2:(oj == o)=false:=by simp [ho]
    have E:Hid (R=(Wt.opsT.drop (j+1)).find? λx=>x.1 == o):=by show _=_;rw [HR.out,List.find?_cons_of_neg (by simp [ho])]
    clear HR;go_wp2_with fail
    go_roundg (15 - (j+1))
    case rel=>exact ⟨j+1,by simp,rfl,hlt,E,hb2,P0⟩
    case measure=>omega
  ·have hli:¬ (j:Int)<15:=by omega
   have E:Hid (R=none):=by
    show _=_
    rw [HR.out,List.drop_eq_nil_of_le (by show 15<=j;omega)];rfl
   clear HR;obtain ⟨a0,a1,a2,f0,f1,f2⟩:=HA.out.three;go_wp2;refine bodyPost_ret (v:=.tuple #[.agg #[.int .i64 0,.string ⟨#[]⟩,.int .i64 0],.bool false]) (by simp [results,results111,go_sem, *]) rfl ⟨by rw [E.out];rfl,?_⟩;exact (clB hb)
theorem zEj (x:Wt.Nd) (w:World):CR 76 #[ndV x] w (.int .i64 (Wt.parts x)):=by
 obtain ⟨k,⟨vk,vn,vd,vt,vb,vf⟩,op,nm,ar,⟨sa,ra,ca,fra,fca⟩,⟨sb,rb,cb,frb,fcb⟩⟩:=x;unfold Wt.parts;simp only [ndV,zAN];by_cases h4:k=4
 ·subst h4;go_enter func76,ntmps76;go_wp2;go_ret;exact ⟨rfl,clA⟩
 have h4':(k == 4)=false:=by simp [h4]
 rw [if_neg h4];by_cases h5:k=5
 ·subst h5;go_enter func76,ntmps76;go_wp2;go_ret;exact ⟨rfl,clA⟩
 have h5':(k == 5)=false:=by simp [h5]
 rw [if_neg h5];go_enter func76,ntmps76;go_wp2;go_ret;exact ⟨rfl,clA⟩
def zI6 (x y:Wt.Vl):Bool:=eqV x.k x.n x.d x.t x.b x.f y.k y.n y.d y.t y.b y.f
def zL1 (x y:Wt.Rf):Bool:=eqR x.s x.r x.c x.fr x.fc y.s y.r y.c y.fr y.fc
def eqN (x y:Wt.Nd):Bool:=(x.k == y.k) && (zI6 x.v y.v && ((x.op == y.op) && ((x.nm == y.nm) && ((x.ar == y.ar) && (zL1 x.a y.a && zL1 x.b y.b)))))
theorem zH2 (x y:Wt.Vl):zI6 x y=true ↔ x=y:=by
 obtain ⟨k,n,d,t,b,f⟩:=x;obtain ⟨k',n',d',t',b',f'⟩:=y;simp [zI6,eqV,zBh]
theorem zHo (x y:Wt.Rf):zL1 x y=true ↔ x=y:=by
 obtain ⟨k,n,d,t,b⟩:=x;obtain ⟨k',n',d',t',b'⟩:=y;simp [zL1,eqR,zBh]
theorem zDm (x y:Wt.Nd):eqN x y=true ↔ x=y:=by
 obtain ⟨k,v,op,nm,ar,a,b⟩:=x;obtain ⟨k',v',op',nm',ar',a',b'⟩:=y;simp [eqN,zBh,zH2,zHo]
theorem zCA (x y:Wt.Nd) (w:World):(binOp .eql 35 (ndV x) (ndV y)).run prog w=.ok (.bool (eqN x y)) w:=by
 obtain ⟨k,⟨vk,vn,vd,vt,vb,vf⟩,op,nm,ar,⟨sa,ra,ca,fra,fca⟩,⟨sb,rb,cb,frb,fcb⟩⟩:=x;obtain ⟨k',⟨vk',vn',vd',vt',vb',vf'⟩,op',nm',ar',⟨sa',ra',ca',fra',fca'⟩,⟨sb',rb',cb',frb',fcb'⟩⟩:=y;have e1:=λw=>zJR 9996 vk vn vd vt vb vf vk' vn' vd' vt' vb' vf' w
 have e2:=λw=>zJP 9997 sa ra ca fra fca sa' ra' ca' fra' fca' w
 have e3:=λw=>zJP 9997 sb rb cb frb fcb sb' rb' cb' frb' fcb' w
 simp only [Nat.reduceAdd] at e1 e2 e3;simp only [ndV,zAN,eqN,zI6,zL1];generalize eqV vk vn vd vt vb vf vk' vn' vd' vt' vb' vf'=q1 at *;generalize eqR sa ra ca fra fca sa' ra' ca' fra' fca'=q2 at *;generalize eqR sb rb cb frb fcb sb' rb' cb' frb' fcb'=q3 at *;rw [run_eql_struct,beq_toListBytes];by_cases h1:k=k'
 ·cases q1
  ·simp [go_sem,h1,e1]
  ·by_cases h2:op=op'
   ·by_cases h3:nm.toList=nm'.toList
    ·by_cases h4:ar=ar'
     ·cases q2
      ·simp [go_sem,h1,h2,h3,h4,e1,e2]
      ·cases q3 <;> simp [go_sem,h1,h2,h3,h4,e1,e2,e3]
     ·simp [go_sem,h1,h2,h3,h4,e1]
    ·simp [go_sem,h1,h2,h3,e1]
   ·simp [go_sem,h1,h2,e1]
 ·simp [go_sem,h1]
theorem zAA {P:Program} {ops:Array Oper} {rest:List Oper} {op:Oper} {a:Act} {w:World} {Q:Exit->Act->World->Prop} (hw:Region.wanted op (yielded ops a.tmps)=true) (ty:TypeId) (x:Operand) (ho:op.op=.load ty x)
  (b o:Nat) (hx:a.eval x=.pointer (some ⟨b,o,none⟩)) (cs:List Value) (d:TypeDesc) (hc:w.rangeAt b o cs)
  (hu:P.underlying ty=some d) (hd:d.isRow=true) (hi:(P.info? ty).map (·.size)=some cs.length)
  (h:wpList P ops Q rest (a.put op.dst (.agg cs.toArray)) w):wpList P ops Q (op::rest) a w :=
 BigFrame.wpList_want hw λ_ hK=>wp_load_mid ty x ho b o hx cs d hc hu hd hi (hK _ _ h)
def bare (k:Int):Wt.Nd:=⟨k,Wt.v0,0,⟨#[]⟩,0,Wt.r0,Wt.r0⟩
abbrev two (w:World) (x:Wt.Nd):World:=(w.alloc (.cells (zAN x).toArray 35)).alloc (.cells #[.int .i64 0,.int .i64 0,.int .i64 0,.int .i64 0,.string ⟨#[]⟩,.bool false,.int .i64 0,.int .i64 0,.string ⟨#[]⟩,.int .i64 0,.string ⟨#[]⟩,.int .i64 0,.int .i64 0,.bool false,.bool false,.string ⟨#[]⟩,.int .i64 0,.int .i64 0,.bool false,.bool false] 35)
theorem zJQ (x:Wt.Nd):∀ v ∈ zAN x,v.oneCell'=true:=by
 intro v hv;simp only [zAN,List.mem_cons,List.not_mem_nil,or_false] at hv;rcases hv with rfl | rfl | rfl | rfl | rfl | rfl | rfl | rfl | rfl | rfl | rfl | rfl | rfl | rfl | rfl | rfl | rfl | rfl | rfl | rfl <;> rfl
theorem zCZ (x:Wt.Nd):(zAN x).toArray.all (·.oneCell')=true:=all_oneCell_toArray (zJQ x)
abbrev zLz (ka kb:Nat) (x:Wt.Nd) (W:World):Prop :=
 W.cell? ⟨ka,1,none⟩=some (.int .i64 x.v.k)/\W.cell? ⟨ka,2,none⟩=some (.int .i64 x.v.n)/\W.cell? ⟨ka,3,none⟩=some (.int .i64 x.v.d)/\W.cell? ⟨ka,4,none⟩=some (.string x.v.t)/\W.cell? ⟨ka,5,none⟩=some (.bool x.v.b)/\W.cell? ⟨ka,6,none⟩=some (.int .i64 x.v.f)/\W.frozen? ⟨kb,1,none⟩=false/\W.frozen? ⟨kb,2,none⟩=false/\W.frozen? ⟨kb,3,none⟩=false/\W.frozen? ⟨kb,4,none⟩=false/\W.frozen? ⟨kb,5,none⟩=false/\W.frozen? ⟨kb,6,none⟩=false
theorem zD9 (h0:AtL W ka (zAN x)) (h1:AtL W kb (zAN y)):zLz ka kb x W :=
 ⟨h0.2.1 1 _ rfl,h0.2.1 2 _ rfl,h0.2.1 3 _ rfl,h0.2.1 4 _ rfl,h0.2.1 5 _ rfl,h0.2.1 6 _ rfl,h1.2.2 1 (by show 1<20;decide),h1.2.2 2 (by show 2<20;decide),h1.2.2 3 (by show 3<20;decide),h1.2.2 4 (by show 4<20;decide),h1.2.2 5 (by show 5<20;decide),h1.2.2 6 (by show 6<20;decide)⟩
theorem zBT (h:zLz ka kb x W) (hne:kb ≠ ka) (j:Nat) (u:Value):zLz ka kb x (W.setCell ⟨kb,j,none⟩ u):=by
 obtain ⟨h1,h2,h3,h4,h5,h6,g1,g2,g3,g4,g5,g6⟩:=h;refine ⟨?_,?_,?_,?_,?_,?_,?_,?_,?_,?_,?_,?_⟩;any_goals rw [World.cell?_setCell_far _ _ _ _ (by simpa using hne)];assumption
 all_goals rw [World.frozen?_setCell];assumption
theorem zI5 (x:Wt.Nd) (w:World) (hk:x.k=1) (h1:-9223372036854775808<=x.v.n) (h2:x.v.n<=9223372036854775807) (h3:-9223372036854775808<=x.v.d) (h4:x.v.d<=9223372036854775807) (hs:x.v.t.size<=9223372036854775807) :
  CR 75 #[ndV x] w (.bool (Wt.vlOk x.v && eqN x ⟨1,x.v,0,⟨#[]⟩,0,Wt.r0,Wt.r0⟩)):=by
 have C:=(λw=>zJh x.v w h1 h2 h3 h4 hs:∀ w:World,CR 109 #[.agg #[.int .i64 x.v.k,.int .i64 x.v.n,.int .i64 x.v.d,.string x.v.t,.bool x.v.b,.int .i64 x.v.f]] w (.bool (Wt.vlOk x.v)))
 have hq:∀ w:World,(binOp .eql 35 (.agg (zAN x).toArray) (.agg (zAN ⟨1,x.v,0,⟨#[]⟩,0,Wt.r0,Wt.r0⟩).toArray)).run prog w=.ok (.bool (eqN x ⟨1,x.v,0,⟨#[]⟩,0,Wt.r0,Wt.r0⟩)) w:=λw=>zCA x ⟨1,x.v,0,⟨#[]⟩,0,Wt.r0,Wt.r0⟩ w
 generalize eqN x ⟨1,x.v,0,⟨#[]⟩,0,Wt.r0,Wt.r0⟩=R at *;generalize Wt.vlOk x.v=q at *;have pA0:AtL (two w x) w.heap.size (zAN x):=(AtL.new0 w _ _).alloc _;have pO0:AtL (two w x) (w.heap.size+1) (zAN (bare 0)):=AtL.new1 w _ _ _;have hth:World.there (two w x) (w.heap.size+1) 0 (zAN (bare 1)).toArray.size:=pO0.there;have hne:w.heap.size+1 ≠ w.heap.size:=by omega
 have pA:=pA0.farAll hne 0 (zAN (bare 1));have pO:AtL ((two w x).setCells (w.heap.size+1) 0 (zAN (bare 1))) (w.heap.size+1) (zAN (bare 1)):=pO0.setAll rfl;have hBa:Below w.heap.size w ((two w x).setCells (w.heap.size+1) 0 (zAN (bare 1))):=zAa (zAK (zAK (Below.refl _ w) _) _) (Nat.le_succ _) _ 0;clear pA0 pO0;have n0:(zAN x)[0]? = some (.int .i64 1):=by rw [<-hk];rfl
 have a0:World.cell? ((two w x).setCells (w.heap.size+1) 0 (zAN (bare 1))) ⟨w.heap.size,0,none⟩=some (.int .i64 1):=pA.2.1 0 _ n0;show Calls _ _ #[.agg (zAN x).toArray] _ _
 have hS:zLz w.heap.size (w.heap.size+1) x ((two w x).setCells (w.heap.size+1) 0 (zAN (bare 1))):=zD9 pA pO;cases q
 all_goals
  go_enter func75,ntmps75;go_upto_region 1 with fail
  go_upto_region 2 with ((with_reducible refine wpList_store_mid ?_ 35 (.tmp 3) (.tmp 9) ?_ (w.heap.size+1) 0 (zAN (bare 1)).toArray ?_ ?_ ?_ ?_ ?_ ?_);rfl;rfl;rfl;rfl;exact hth;kernel_rfl;exact zCZ _)
  generalize (two w x).setCells (w.heap.size+1) 0 (zAN (bare 1))=W0 at *;clear hth;go_upto_region 4 with fail
  go_region_held3 (zLz w.heap.size (w.heap.size+1) x)
   (with_reducible first | exact hS | assumption | exact zD9 pA1 pO1 | exact (zBT (zBT (zBT (zBT (zBT (zBT (by assumption) (by omega) _ _) (by omega) _ _) (by omega) _ _) (by omega) _ _) (by omega) _ _) (by omega) _ _) | exact zD9 (AtL.drew pA) (AtL.drew pO))
   (first | (go_at_call 109;refine (C _).mono ?_;rintro e w1 ⟨rfl,hb⟩;have pA1:=AtL.below hb (AtL.drew pA);have pO1:=AtL.below hb (AtL.drew pO);have o1:=pO1.2.1 1 _ rfl;have o2:=pO1.2.1 2 _ rfl;have o3:=pO1.2.1 3 _ rfl;have o4:=pO1.2.1 4 _ rfl;have o5:=pO1.2.1 5 _ rfl;have o6:=pO1.2.1 6 _ rfl;have hB1:=zAB hBa.drew hb))
  all_goals
   clear pA pO hS C hBa o1 o2 o3 o4 o5 o6 a0;have pA2:AtL ((((((w1.setCell ⟨w.heap.size+1,1,none⟩ (.int .i64 x.v.k)).setCell ⟨w.heap.size+1,2,none⟩ (.int .i64 x.v.n)).setCell ⟨w.heap.size+1,3,none⟩ (.int .i64 x.v.d)).setCell ⟨w.heap.size+1,4,none⟩ (.string x.v.t)).setCell ⟨w.heap.size+1,5,none⟩ (.bool x.v.b)).setCell ⟨w.heap.size+1,6,none⟩ (.int .i64 x.v.f)) w.heap.size (zAN x):=((((((pA1.far hne 1 (.int .i64 x.v.k)).far hne 2 (.int .i64 x.v.n)).far hne 3 (.int .i64 x.v.d)).far hne 4 (.string x.v.t)).far hne 5 (.bool x.v.b)).far hne 6 (.int .i64 x.v.f))
   have pO2:AtL ((((((w1.setCell ⟨w.heap.size+1,1,none⟩ (.int .i64 x.v.k)).setCell ⟨w.heap.size+1,2,none⟩ (.int .i64 x.v.n)).setCell ⟨w.heap.size+1,3,none⟩ (.int .i64 x.v.d)).setCell ⟨w.heap.size+1,4,none⟩ (.string x.v.t)).setCell ⟨w.heap.size+1,5,none⟩ (.bool x.v.b)).setCell ⟨w.heap.size+1,6,none⟩ (.int .i64 x.v.f)) (w.heap.size+1) (zAN ⟨1,x.v,0,⟨#[]⟩,0,Wt.r0,Wt.r0⟩):=((((((pO1.set 1 (.int .i64 x.v.k)).set 2 (.int .i64 x.v.n)).set 3 (.int .i64 x.v.d)).set 4 (.string x.v.t)).set 5 (.bool x.v.b)).set 6 (.int .i64 x.v.f))
   have hB2:Below w.heap.size w ((((((w1.setCell ⟨w.heap.size+1,1,none⟩ (.int .i64 x.v.k)).setCell ⟨w.heap.size+1,2,none⟩ (.int .i64 x.v.n)).setCell ⟨w.heap.size+1,3,none⟩ (.int .i64 x.v.d)).setCell ⟨w.heap.size+1,4,none⟩ (.string x.v.t)).setCell ⟨w.heap.size+1,5,none⟩ (.bool x.v.b)).setCell ⟨w.heap.size+1,6,none⟩ (.int .i64 x.v.f)):=(clB hB1)
   clear pA1 pO1 hB1;generalize ((((((w1.setCell ⟨w.heap.size+1,1,none⟩ (.int .i64 x.v.k)).setCell ⟨w.heap.size+1,2,none⟩ (.int .i64 x.v.n)).setCell ⟨w.heap.size+1,3,none⟩ (.int .i64 x.v.d)).setCell ⟨w.heap.size+1,4,none⟩ (.string x.v.t)).setCell ⟨w.heap.size+1,5,none⟩ (.bool x.v.b)).setCell ⟨w.heap.size+1,6,none⟩ (.int .i64 x.v.f))=W2 at *;have rA:=pA2.range;have rO:=pO2.range;clear pA2 pO2;go_wp2_with (first | ((with_reducible refine zAA ?_ 35 (.tmp 1) ?_ w.heap.size 0 ?_ (zAN x) _ ?_ underlying35 ?_ ?_ ?_);rfl;rfl;rfl;exact rA;rfl;kernel_rfl) | ((with_reducible refine zAA ?_ 35 (.tmp 3) ?_ (w.heap.size+1) 0 ?_ (zAN ⟨1,x.v,0,⟨#[]⟩,0,Wt.r0,Wt.r0⟩) _ ?_ underlying35 ?_ ?_ ?_);rfl;rfl;rfl;exact rO;rfl;kernel_rfl))
   go_wp2;go_ret;exact ⟨by simp,hB2⟩
abbrev zLw (ka kb:Nat) (x:Wt.Nd) (W:World):Prop :=
 W.cell? ⟨ka,10,none⟩=some (.string x.a.s)/\W.cell? ⟨ka,11,none⟩=some (.int .i64 x.a.r)/\W.cell? ⟨ka,12,none⟩=some (.int .i64 x.a.c)/\W.cell? ⟨ka,13,none⟩=some (.bool x.a.fr)/\W.cell? ⟨ka,14,none⟩=some (.bool x.a.fc)/\W.frozen? ⟨kb,10,none⟩=false/\W.frozen? ⟨kb,11,none⟩=false/\W.frozen? ⟨kb,12,none⟩=false/\W.frozen? ⟨kb,13,none⟩=false/\W.frozen? ⟨kb,14,none⟩=false
theorem zDg (h0:AtL W ka (zAN x)) (h1:AtL W kb (zAN y)):zLw ka kb x W :=
 ⟨h0.2.1 10 _ rfl,h0.2.1 11 _ rfl,h0.2.1 12 _ rfl,h0.2.1 13 _ rfl,h0.2.1 14 _ rfl,h1.2.2 10 (by show 10<20;decide),h1.2.2 11 (by show 11<20;decide),h1.2.2 12 (by show 12<20;decide),h1.2.2 13 (by show 13<20;decide),h1.2.2 14 (by show 14<20;decide)⟩
theorem zBe (h:zLw ka kb x W) (hne:kb ≠ ka) (j:Nat) (u:Value):zLw ka kb x (W.setCell ⟨kb,j,none⟩ u):=by
 obtain ⟨h10,h11,h12,h13,h14,g10,g11,g12,g13,g14⟩:=h;refine ⟨?_,?_,?_,?_,?_,?_,?_,?_,?_,?_⟩;any_goals rw [World.cell?_setCell_far _ _ _ _ (by simpa using hne)];assumption
 all_goals rw [World.frozen?_setCell];assumption
theorem zIv (x:Wt.Nd) (w:World) (hk:x.k=2) (hs:x.a.s.size<=9223372036854775807) :
  CR 75 #[ndV x] w (.bool (Wt.rfOk x.a && eqN x ⟨2,Wt.v0,0,⟨#[]⟩,0,x.a,Wt.r0⟩)):=by
 have C:=(λw=>zDp x.a w hs:∀ w:World,CR 110 #[.agg #[.string x.a.s,.int .i64 x.a.r,.int .i64 x.a.c,.bool x.a.fr,.bool x.a.fc]] w (.bool (Wt.rfOk x.a)))
 have hq:∀ w:World,(binOp .eql 35 (.agg (zAN x).toArray) (.agg (zAN ⟨2,Wt.v0,0,⟨#[]⟩,0,x.a,Wt.r0⟩).toArray)).run prog w=.ok (.bool (eqN x ⟨2,Wt.v0,0,⟨#[]⟩,0,x.a,Wt.r0⟩)) w:=λw=>zCA x ⟨2,Wt.v0,0,⟨#[]⟩,0,x.a,Wt.r0⟩ w
 generalize eqN x ⟨2,Wt.v0,0,⟨#[]⟩,0,x.a,Wt.r0⟩=R at *;generalize Wt.rfOk x.a=q at *;have pA0:AtL (two w x) w.heap.size (zAN x):=(AtL.new0 w _ _).alloc _;have pO0:AtL (two w x) (w.heap.size+1) (zAN (bare 0)):=AtL.new1 w _ _ _;have hth:World.there (two w x) (w.heap.size+1) 0 (zAN (bare 2)).toArray.size:=pO0.there;have hne:w.heap.size+1 ≠ w.heap.size:=by omega
 have pA:=pA0.farAll hne 0 (zAN (bare 2));have pO:AtL ((two w x).setCells (w.heap.size+1) 0 (zAN (bare 2))) (w.heap.size+1) (zAN (bare 2)):=pO0.setAll rfl;have hBa:Below w.heap.size w ((two w x).setCells (w.heap.size+1) 0 (zAN (bare 2))):=zAa (zAK (zAK (Below.refl _ w) _) _) (Nat.le_succ _) _ 0;clear pA0 pO0;have n0:(zAN x)[0]? = some (.int .i64 2):=by rw [<-hk];rfl
 have a0:World.cell? ((two w x).setCells (w.heap.size+1) 0 (zAN (bare 2))) ⟨w.heap.size,0,none⟩=some (.int .i64 2):=pA.2.1 0 _ n0;show Calls _ _ #[.agg (zAN x).toArray] _ _
 have hS:zLw w.heap.size (w.heap.size+1) x ((two w x).setCells (w.heap.size+1) 0 (zAN (bare 2))):=zDg pA pO;cases q
 all_goals
  go_enter func75,ntmps75;go_upto_region 1 with fail
  go_upto_region 2 with ((with_reducible refine wpList_store_mid ?_ 35 (.tmp 3) (.tmp 9) ?_ (w.heap.size+1) 0 (zAN (bare 2)).toArray ?_ ?_ ?_ ?_ ?_ ?_);rfl;rfl;rfl;rfl;exact hth;kernel_rfl;exact zCZ _)
  generalize (two w x).setCells (w.heap.size+1) 0 (zAN (bare 2))=W0 at *;clear hth;go_upto_region 6 with fail
  go_region_held3 (zLw w.heap.size (w.heap.size+1) x)
   (with_reducible first | exact hS | assumption | exact zDg pA1 pO1 | exact (zBe (zBe (zBe (zBe (zBe (by assumption) (by omega) _ _) (by omega) _ _) (by omega) _ _) (by omega) _ _) (by omega) _ _) | exact zDg (AtL.drew pA) (AtL.drew pO))
   (first | (go_at_call 110;refine (C _).mono ?_;rintro e w1 ⟨rfl,hb⟩;have pA1:=AtL.below hb (AtL.drew pA);have pO1:=AtL.below hb (AtL.drew pO);have o10:=pO1.2.1 10 _ rfl;have o11:=pO1.2.1 11 _ rfl;have o12:=pO1.2.1 12 _ rfl;have o13:=pO1.2.1 13 _ rfl;have o14:=pO1.2.1 14 _ rfl;have hB1:=zAB hBa.drew hb))
  all_goals
   clear pA pO hS C hBa o10 o11 o12 o13 o14 a0;have pA2:AtL (((((w1.setCell ⟨w.heap.size+1,10,none⟩ (.string x.a.s)).setCell ⟨w.heap.size+1,11,none⟩ (.int .i64 x.a.r)).setCell ⟨w.heap.size+1,12,none⟩ (.int .i64 x.a.c)).setCell ⟨w.heap.size+1,13,none⟩ (.bool x.a.fr)).setCell ⟨w.heap.size+1,14,none⟩ (.bool x.a.fc)) w.heap.size (zAN x):=(((((pA1.far hne 10 (.string x.a.s)).far hne 11 (.int .i64 x.a.r)).far hne 12 (.int .i64 x.a.c)).far hne 13 (.bool x.a.fr)).far hne 14 (.bool x.a.fc))
   have pO2:AtL (((((w1.setCell ⟨w.heap.size+1,10,none⟩ (.string x.a.s)).setCell ⟨w.heap.size+1,11,none⟩ (.int .i64 x.a.r)).setCell ⟨w.heap.size+1,12,none⟩ (.int .i64 x.a.c)).setCell ⟨w.heap.size+1,13,none⟩ (.bool x.a.fr)).setCell ⟨w.heap.size+1,14,none⟩ (.bool x.a.fc)) (w.heap.size+1) (zAN ⟨2,Wt.v0,0,⟨#[]⟩,0,x.a,Wt.r0⟩):=(((((pO1.set 10 (.string x.a.s)).set 11 (.int .i64 x.a.r)).set 12 (.int .i64 x.a.c)).set 13 (.bool x.a.fr)).set 14 (.bool x.a.fc))
   have hB2:Below w.heap.size w (((((w1.setCell ⟨w.heap.size+1,10,none⟩ (.string x.a.s)).setCell ⟨w.heap.size+1,11,none⟩ (.int .i64 x.a.r)).setCell ⟨w.heap.size+1,12,none⟩ (.int .i64 x.a.c)).setCell ⟨w.heap.size+1,13,none⟩ (.bool x.a.fr)).setCell ⟨w.heap.size+1,14,none⟩ (.bool x.a.fc)):=(clB hB1)
   clear pA1 pO1 hB1;generalize (((((w1.setCell ⟨w.heap.size+1,10,none⟩ (.string x.a.s)).setCell ⟨w.heap.size+1,11,none⟩ (.int .i64 x.a.r)).setCell ⟨w.heap.size+1,12,none⟩ (.int .i64 x.a.c)).setCell ⟨w.heap.size+1,13,none⟩ (.bool x.a.fr)).setCell ⟨w.heap.size+1,14,none⟩ (.bool x.a.fc))=W2 at *;have rA:=pA2.range;have rO:=pO2.range;clear pA2 pO2;go_wp2_with (first | ((with_reducible refine zAA ?_ 35 (.tmp 1) ?_ w.heap.size 0 ?_ (zAN x) _ ?_ underlying35 ?_ ?_ ?_);rfl;rfl;rfl;exact rA;rfl;kernel_rfl) | ((with_reducible refine zAA ?_ 35 (.tmp 3) ?_ (w.heap.size+1) 0 ?_ (zAN ⟨2,Wt.v0,0,⟨#[]⟩,0,x.a,Wt.r0⟩) _ ?_ underlying35 ?_ ?_ ?_);rfl;rfl;rfl;exact rO;rfl;kernel_rfl))
   go_wp2;go_ret;exact ⟨by simp,hB2⟩
