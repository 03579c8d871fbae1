/- TWalkA, TWalkB, TEq. -/
import Derived.Test.YtlggnpohhahdlaaGreatDoorQ02
import Derived.OwnWalk
set_option maxHeartbeats 4000000
set_option maxRecDepth 100000
namespace Go.Proofs.YtlggnpohhahdlaaGreatDoor
open Go.RowKit
set_option linter.unusedVariables false
theorem tcap_any (c:UInt8) (w:World):Calls Tryz.prog 116 #[.int .u8 c.toNat] w fun e w'=>e=.returned (.bool (Wlx.cap c))∧w=w':=by
 unfold Wlx.cap;go_enter Tryz.func116,Tryz.ntmps116;by_cases a:65≤(c.toNat:Int)
 ·go_wp2;go_ret;exact ⟨ret_bool (by simp [a]),rfl⟩
 ·go_wp2;go_ret;exact ⟨ret_bool (by rw [decide_eq_false (by omega)];rfl),rfl⟩
theorem tdig_any (c:UInt8) (w:World):Calls Tryz.prog 140 #[.int .u8 c.toNat] w fun e w'=>e=.returned (.bool (Wlx.dig c))∧w=w':=by
 unfold Wlx.dig;go_enter Tryz.func140,Tryz.ntmps140;by_cases a:48≤(c.toNat:Int)
 ·go_wp2;go_ret;exact ⟨ret_bool (by simp [a]),rfl⟩
 ·go_wp2;go_ret;exact ⟨ret_bool (by rw [decide_eq_false (by omega)];rfl),rfl⟩
theorem tltr_any (c:UInt8) (w:World):Calls Tryz.prog 139 #[.int .u8 c.toNat] w fun e w'=>e=.returned (.bool (Wt.ltr c))∧w=w':=by
 unfold Wt.ltr;have C:=tcap_any c w;unfold Wlx.low;generalize Wlx.cap c=q at *;go_enter Tryz.func139,Tryz.ntmps139;cases q
 ·by_cases a:97≤(c.toNat:Int)
  ·go_wp2_with fail
   refine C.mono ?_;rintro e w1 ⟨rfl,rfl⟩;go_wp2;go_ret;exact ⟨ret_bool (by simp [a]),rfl⟩
  ·go_wp2_with fail
   refine C.mono ?_;rintro e w1 ⟨rfl,rfl⟩;go_wp2;go_ret;exact ⟨ret_bool (by rw [decide_eq_false (p:=97≤(c.toNat:Int)) (by omega)];rfl),rfl⟩
 ·go_wp2_with fail
  refine C.mono ?_;rintro e w1 ⟨rfl,rfl⟩;go_wp2;go_ret;exact ⟨ret_bool (by simp),rfl⟩
theorem head_at (b:ByteArray) (h:0<b.size):b.data.toList.headD 0=b[0]:=by
 have:=drop_at b 0 h;rw [List.drop_zero] at this;rw [this];rfl
theorem all_dropS (p:UInt8→Bool) (b:ByteArray) (j:Nat) (h:j<b.size):(b.data.toList.drop j).all p=(p (b[j]) && (b.data.toList.drop (j+1)).all p):=by
 rw [drop_at b j h];rfl
theorem tname_cap (b:ByteArray) (w:World) (hs:b.size≤9223372036854775807) :
  Calls Tryz.prog 115 #[.string b,.func (.func 116) #[] #[]] w fun e w'=>e=.returned (.bool (Wt.isNm Wlx.cap b.data.toList))∧w=w':=by
 have C:∀ (c:UInt8) (w:World),Calls Tryz.prog 116 #[.int .u8 c.toNat] w fun e w'=>e=.returned (.bool (Wlx.cap c))∧w=w':=tcap_any
 have hl:b.data.toList.length=b.size:=rfl;by_cases h0:b=⟨#[]⟩
 ·subst h0;go_enter Tryz.func115,Tryz.ntmps115;go_wp2;go_ret;exact ⟨rfl,rfl⟩
 have h1:0<b.size:=by
  rcases Nat.eq_zero_or_pos b.size with h | h
  ·exact absurd (ByteArray.size_eq_zero_iff.1 h) h0
  ·exact h
 have hb0:b.toList.isEmpty=false:=by
  rw [ByteArray.toList_eq];cases hh:b.data.toList with
  | nil=>rw [hh] at hl;exact absurd hl (by show ¬ 0=_;omega)
  | cons _ _=>rfl
 by_cases h16:16<b.size
 ·have h16i:(16:Int)<(b.size:Int):=by omega
  have E:Hid (Wt.isNm Wlx.cap b.data.toList=false):=by
   show _=_
   unfold Wt.isNm;rw [hl,decide_eq_false (p:=b.size≤16) (by omega)];simp
  rw [E.out];clear E;go_enter Tryz.func115,Tryz.ntmps115;go_wp2;go_ret;exact ⟨rfl,rfl⟩
 have h16i:¬ (16:Int)<(b.size:Int):=by omega
 have E0:Wt.isNm Wlx.cap b.data.toList=(Wlx.cap (b[0]) && b.data.toList.all (fun c=>Wlx.cap c || Wlx.dig c)):=by
  unfold Wt.isNm;rw [hl,decide_eq_true (by omega),decide_eq_true (by omega),head_at b h1];simp
 rw [E0];clear E0;have C0:=C (b[0]) w;cases hp:Wlx.cap (b[0]) with
 | false =>
  rw [hp] at C0;go_enter Tryz.func115,Tryz.ntmps115;go_wp2_with fail
  refine C0.mono ?_;rintro e w1 ⟨rfl,rfl⟩;go_wp2;go_ret;exact ⟨rfl,rfl⟩
 | true =>
  rw [hp] at C0;clear hp;obtain ⟨R,hR⟩:∃ R,b.data.toList.all (fun c=>Wlx.cap c || Wlx.dig c)=R:=⟨_,rfl⟩
  have E0:Hid (R=(b.data.toList.drop 0).all (fun c=>Wlx.cap c || Wlx.dig c)):=hR.symm;rw [hR];clear hR;go_enter Tryz.func115,Tryz.ntmps115;go_wp2_with fail
  refine C0.mono ?_;rintro e w1 ⟨rfl,rfl⟩;go_wp2_with fail
  go_loopg [22] (b.size) (fun gk x wr=>∃ j:Nat,x=.int .i64 j∧gk=b.size - j∧j≤b.size∧Hid (R=(b.data.toList.drop j).all (fun c=>Wlx.cap c || Wlx.dig c))∧wr=w)
  case atStart=>exact ⟨0,rfl,rfl,Nat.zero_le _,E0,rfl⟩
  case round =>
   obtain ⟨j,rfl,hg,hj,HR,rfl⟩:=hrel;by_cases hlt:j<b.size
   ·have hli:(j:Int)<(b.size:Int):=by omega
    have hd:=all_dropS (fun c=>Wlx.cap c || Wlx.dig c) b j hlt;have C1:=C (b[j]) wr;have C2:=tdig_any (b[j]) wr;cases h1:Wlx.cap (b[j]) with
    | true =>
     have E:Hid (R=(b.data.toList.drop (j+1)).all (fun c=>Wlx.cap c || Wlx.dig c)):=by show _=_;rw [HR.out,hd,h1];rfl
     rw [h1] at C1;clear HR hd h1 C2 C0;go_wp2_with fail
     refine C1.mono ?_;rintro e w1 ⟨rfl,rfl⟩;go_wp2_with fail
     go_roundg (b.size - (j+1))
     case rel=>exact ⟨j+1,by simp,rfl,hlt,E,by first | trivial | rfl⟩
     case measure=>omega
    | false =>
     cases h2:Wlx.dig (b[j]) with
     | true =>
      have E:Hid (R=(b.data.toList.drop (j+1)).all (fun c=>Wlx.cap c || Wlx.dig c)):=by show _=_;rw [HR.out,hd,h1,h2];rfl
      rw [h1] at C1;rw [h2] at C2;clear HR hd h1 h2 C0;go_wp2_with fail
      refine C1.mono ?_;rintro e w1 ⟨rfl,rfl⟩;go_wp2_with fail
      refine C2.mono ?_;rintro e w1 ⟨rfl,rfl⟩;go_wp2_with fail
      go_roundg (b.size - (j+1))
      case rel=>exact ⟨j+1,by simp,rfl,hlt,E,by first | trivial | rfl⟩
      case measure=>omega
     | false =>
      have E:Hid (R=false):=by show _=_;rw [HR.out,hd,h1,h2];rfl
      rw [h1] at C1;rw [h2] at C2;clear HR hd h1 h2 C0;go_wp2_with fail
      refine C1.mono ?_;rintro e w1 ⟨rfl,rfl⟩;go_wp2_with fail
      refine C2.mono ?_;rintro e w1 ⟨rfl,rfl⟩;go_wp2;go_ret;exact ⟨by rw [E.out];rfl,rfl⟩
   ·have hli:¬ (j:Int)<(b.size:Int):=by omega
    have E:Hid (R=true):=by show _=_;rw [HR.out,drop_end b j hlt];rfl
    clear HR C0;go_wp2;go_ret;exact ⟨by rw [E.out];rfl,rfl⟩
theorem tname_ltr (b:ByteArray) (w:World) (hs:b.size≤9223372036854775807) :
  Calls Tryz.prog 115 #[.string b,.func (.func 139) #[] #[]] w fun e w'=>e=.returned (.bool (Wt.isNm Wt.ltr b.data.toList))∧w=w':=by
 have C:∀ (c:UInt8) (w:World),Calls Tryz.prog 139 #[.int .u8 c.toNat] w fun e w'=>e=.returned (.bool (Wt.ltr c))∧w=w':=tltr_any
 have hl:b.data.toList.length=b.size:=rfl;by_cases h0:b=⟨#[]⟩
 ·subst h0;go_enter Tryz.func115,Tryz.ntmps115;go_wp2;go_ret;exact ⟨rfl,rfl⟩
 have h1:0<b.size:=by
  rcases Nat.eq_zero_or_pos b.size with h | h
  ·exact absurd (ByteArray.size_eq_zero_iff.1 h) h0
  ·exact h
 have hb0:b.toList.isEmpty=false:=by
  rw [ByteArray.toList_eq];cases hh:b.data.toList with
  | nil=>rw [hh] at hl;exact absurd hl (by show ¬ 0=_;omega)
  | cons _ _=>rfl
 by_cases h16:16<b.size
 ·have h16i:(16:Int)<(b.size:Int):=by omega
  have E:Hid (Wt.isNm Wt.ltr b.data.toList=false):=by
   show _=_
   unfold Wt.isNm;rw [hl,decide_eq_false (p:=b.size≤16) (by omega)];simp
  rw [E.out];clear E;go_enter Tryz.func115,Tryz.ntmps115;go_wp2;go_ret;exact ⟨rfl,rfl⟩
 have h16i:¬ (16:Int)<(b.size:Int):=by omega
 have E0:Wt.isNm Wt.ltr b.data.toList=(Wt.ltr (b[0]) && b.data.toList.all (fun c=>Wt.ltr c || Wlx.dig c)):=by
  unfold Wt.isNm;rw [hl,decide_eq_true (by omega),decide_eq_true (by omega),head_at b h1];simp
 rw [E0];clear E0;have C0:=C (b[0]) w;cases hp:Wt.ltr (b[0]) with
 | false =>
  rw [hp] at C0;go_enter Tryz.func115,Tryz.ntmps115;go_wp2_with fail
  refine C0.mono ?_;rintro e w1 ⟨rfl,rfl⟩;go_wp2;go_ret;exact ⟨rfl,rfl⟩
 | true =>
  rw [hp] at C0;clear hp;obtain ⟨R,hR⟩:∃ R,b.data.toList.all (fun c=>Wt.ltr c || Wlx.dig c)=R:=⟨_,rfl⟩
  have E0:Hid (R=(b.data.toList.drop 0).all (fun c=>Wt.ltr c || Wlx.dig c)):=hR.symm;rw [hR];clear hR;go_enter Tryz.func115,Tryz.ntmps115;go_wp2_with fail
  refine C0.mono ?_;rintro e w1 ⟨rfl,rfl⟩;go_wp2_with fail
  go_loopg [22] (b.size) (fun gk x wr=>∃ j:Nat,x=.int .i64 j∧gk=b.size - j∧j≤b.size∧Hid (R=(b.data.toList.drop j).all (fun c=>Wt.ltr c || Wlx.dig c))∧wr=w)
  case atStart=>exact ⟨0,rfl,rfl,Nat.zero_le _,E0,rfl⟩
  case round =>
   obtain ⟨j,rfl,hg,hj,HR,rfl⟩:=hrel;by_cases hlt:j<b.size
   ·have hli:(j:Int)<(b.size:Int):=by omega
    have hd:=all_dropS (fun c=>Wt.ltr c || Wlx.dig c) b j hlt;have C1:=C (b[j]) wr;have C2:=tdig_any (b[j]) wr;cases h1:Wt.ltr (b[j]) with
    | true =>
     have E:Hid (R=(b.data.toList.drop (j+1)).all (fun c=>Wt.ltr c || Wlx.dig c)):=by show _=_;rw [HR.out,hd,h1];rfl
     rw [h1] at C1;clear HR hd h1 C2 C0;go_wp2_with fail
     refine C1.mono ?_;rintro e w1 ⟨rfl,rfl⟩;go_wp2_with fail
     go_roundg (b.size - (j+1))
     case rel=>exact ⟨j+1,by simp,rfl,hlt,E,by first | trivial | rfl⟩
     case measure=>omega
    | false =>
     cases h2:Wlx.dig (b[j]) with
     | true =>
      have E:Hid (R=(b.data.toList.drop (j+1)).all (fun c=>Wt.ltr c || Wlx.dig c)):=by show _=_;rw [HR.out,hd,h1,h2];rfl
      rw [h1] at C1;rw [h2] at C2;clear HR hd h1 h2 C0;go_wp2_with fail
      refine C1.mono ?_;rintro e w1 ⟨rfl,rfl⟩;go_wp2_with fail
      refine C2.mono ?_;rintro e w1 ⟨rfl,rfl⟩;go_wp2_with fail
      go_roundg (b.size - (j+1))
      case rel=>exact ⟨j+1,by simp,rfl,hlt,E,by first | trivial | rfl⟩
      case measure=>omega
     | false =>
      have E:Hid (R=false):=by show _=_;rw [HR.out,hd,h1,h2];rfl
      rw [h1] at C1;rw [h2] at C2;clear HR hd h1 h2 C0;go_wp2_with fail
      refine C1.mono ?_;rintro e w1 ⟨rfl,rfl⟩;go_wp2_with fail
      refine C2.mono ?_;rintro e w1 ⟨rfl,rfl⟩;go_wp2;go_ret;exact ⟨by rw [E.out];rfl,rfl⟩
   ·have hli:¬ (j:Int)<(b.size:Int):=by omega
    have E:Hid (R=true):=by show _=_;rw [HR.out,drop_end b j hlt];rfl
    clear HR C0;go_wp2;go_ret;exact ⟨by rw [E.out];rfl,rfl⟩
theorem tfn_any (b:ByteArray) (w:World) (hs:b.size≤9223372036854775807):Calls Tryz.prog 84 #[.string b] w fun e w'=>e=.returned (.bool (Wt.fnNm b))∧w=w':=by
 have C:=tname_cap b w hs;unfold Wt.fnNm;generalize Wt.isNm Wlx.cap b.data.toList=R at *;go_enter Tryz.func84,Tryz.ntmps84;go_wp2_with fail
 refine C.mono ?_;rintro e w1 ⟨rfl,rfl⟩;go_wp2;go_ret;exact ⟨rfl,rfl⟩
theorem tsh_any (b:ByteArray) (w:World) (hs:b.size≤9223372036854775807):Calls Tryz.prog 114 #[.string b] w fun e w'=>e=.returned (.bool (Wt.shNm b))∧w=w':=by
 have C:=tname_ltr b w hs;unfold Wt.shNm;generalize Wt.isNm Wt.ltr b.data.toList=R at *;go_enter Tryz.func114,Tryz.ntmps114;go_wp2_with fail
 refine C.mono ?_;rintro e w1 ⟨rfl,rfl⟩;go_wp2;go_ret;exact ⟨rfl,rfl⟩
theorem inR_eq (r c:Int):Wpl.rightC 0 r c=Wt.inR r c:=by
 unfold Wpl.rightC Wpl.inB Wt.inR;rw [Bool.eq_iff_iff];simp
theorem empty_of {b:ByteArray} (h:¬ b=⟨#[]⟩):b.toList.isEmpty=false:=by
 rw [ByteArray.toList_eq];cases hh:b.data.toList with
 | nil=>exact absurd (by obtain ⟨⟨l⟩⟩:=b;simp at hh;subst hh;rfl) h
 | cons _ _=>rfl
theorem trf_any (a:Wt.Rf) (w:World) (hs:a.s.size≤9223372036854775807):Calls Tryz.prog 82 #[rfV a] w fun e w'=>e=.returned (.bool (Wt.rfOk a))∧Below w.heap.size w w':=by
 obtain ⟨s,r,c,fr,fc⟩:=a;unfold Wt.rfOk;simp only;show Calls _ _ #[.agg #[.string s,.int .i64 r,.int .i64 c,.bool fr,.bool fc]] _ _
 have C1:=fun w=>x3_right_any 0 r c w
 rw [inR_eq] at C1;have C2:=fun w=>tsh_any s w hs
 generalize Wt.inR r c=q at *;cases q
 ·go_enter Tryz.func82,Tryz.ntmps82;go_wp2_with fail
  refine (C1 _).mono ?_;rintro e w1 ⟨rfl,hb⟩;have hB:=below_end (ball (Below.refl _ w) _) hb;go_wp2;go_ret;exact ⟨rfl,hB⟩
 by_cases h0:s=⟨#[]⟩
 ·subst h0;go_enter Tryz.func82,Tryz.ntmps82;go_wp2_with fail
  refine (C1 _).mono ?_;rintro e w1 ⟨rfl,hb⟩;have hB:=below_end (ball (Below.refl _ w) _) hb;obtain ⟨c0,c1,c2,c3,c4⟩:=(AtL.below hb (AtL.new0 w _ [.string ⟨#[]⟩,.int .i64 r,.int .i64 c,.bool fr,.bool fc])).f5;go_wp2;go_ret;exact ⟨rfl,hB⟩
 ·have hE:=empty_of h0;rw [decide_eq_false h0];generalize Wt.shNm s=q at *;go_enter Tryz.func82,Tryz.ntmps82;go_wp2_with fail
  refine (C1 _).mono ?_;rintro e w1 ⟨rfl,hb⟩;have hB:=below_end (ball (Below.refl _ w) _) hb;obtain ⟨c0,c1,c2,c3,c4⟩:=(AtL.below hb (AtL.new0 w _ [.string s,.int .i64 r,.int .i64 c,.bool fr,.bool fc])).f5;go_wp2_with fail
  refine (C2 _).mono ?_;rintro e w2 ⟨rfl,rfl⟩;go_wp2;go_ret;exact ⟨by simp,hB⟩
theorem vright_any (v:Wt.Vl) (w:World) (h1:-9223372036854775808≤v.n) (h2:v.n≤9223372036854775807) (h3:-9223372036854775808≤v.d) (h4:v.d≤9223372036854775807) (hs:v.t.size≤9223372036854775807) :
  Calls Tryz.prog 112 #[vlV v] w fun e w'=>e=.returned (.bool (Wv.right v.k v.n v.d v.t v.b v.f))∧Below w.heap.size w w':=by
 obtain ⟨k,n,d,t,b,f⟩:=v;simp only at h1 h2 h3 h4 hs ⊢;show Calls _ _ #[.agg #[.int .i64 k,.int .i64 n,.int .i64 d,.string t,.bool b,.int .i64 f]] _ _
 by_cases e0:k=0
 ·subst e0;exact vright_0 n d t b f w
 by_cases e0:k=1
 ·subst e0;exact vright_1 n d t b f w h1 h2 h3 h4
 by_cases e0:k=2
 ·subst e0;exact vright_2 n d t b f w hs
 by_cases e0:k=3
 ·subst e0;exact vright_3 n d t b f w
 by_cases e0:k=4
 ·subst e0;exact vright_4 n d t b f w
 exact vright_n k n d t b f w (by omega)
theorem tvl_any (v:Wt.Vl) (w:World) (h1:-9223372036854775808≤v.n) (h2:v.n≤9223372036854775807) (h3:-9223372036854775808≤v.d) (h4:v.d≤9223372036854775807) (hs:v.t.size≤9223372036854775807) :
  Calls Tryz.prog 81 #[vlV v] w fun e w'=>e=.returned (.bool (Wt.vlOk v))∧Below w.heap.size w w':=by
 have C:=fun w=>vright_any v w h1 h2 h3 h4 hs
 obtain ⟨k,n,d,t,b,f⟩:=v;unfold Wt.vlOk;simp only [vlV,vl6] at h1 h2 h3 h4 hs C ⊢;show Calls _ _ #[.agg #[.int .i64 k,.int .i64 n,.int .i64 d,.string t,.bool b,.int .i64 f]] _ _
 by_cases e0:k=0
 ·subst e0;go_enter Tryz.func81,Tryz.ntmps81;go_wp2;go_ret;exact ⟨rfl,by with_reducible repeat (first | exact Below.refl _ _ | refine below_drewN ?_ _ | refine Below.setCell ?_ (by first | (simp;done) | (simp;omega) | omega) _ | refine Below.drew ?_ | refine below_end ?_ (by assumption) | refine ball ?_ _)⟩
 rw [if_neg e0];by_cases e1:k=1
 ·subst e1;rw [if_pos rfl];have hr:Wv.right 1 n d t b f=true→1≤d:=by
   unfold Wv.right;rw [if_neg (by decide),if_pos rfl];intro h;simp only [Bool.and_eq_true] at h;have:=h.1.1.1;unfold Wnum.rightB at this;have:=of_decide_eq_true this;omega
  generalize Wv.right 1 n d t b f=q at *;cases q
  ·go_enter Tryz.func81,Tryz.ntmps81;go_wp2_with fail
   refine (C _).mono ?_;rintro e w1 ⟨rfl,hb⟩;have hB:=below_end (ball (Below.refl _ w) _) hb;go_wp2;go_ret;exact ⟨rfl,hB⟩
  have hd:=hr rfl;clear hr;by_cases hn:0≤n
  ·have hd0:¬ d=0:=by omega
   have hdm:¬ d = -1:=by omega
   rw [decide_eq_true hn];go_enter Tryz.func81,Tryz.ntmps81;go_wp2_with fail
   refine (C _).mono ?_;rintro e w1 ⟨rfl,hb⟩;have hB:=below_end (ball (Below.refl _ w) _) hb;obtain ⟨c0,c1,c2,c3,c4,c5⟩:=(AtL.below hb (AtL.new0 w _ [.int .i64 1,.int .i64 n,.int .i64 d,.string t,.bool b,.int .i64 f])).f6;go_wp2;go_ret;refine ⟨ret_bool ?_,hB⟩;rw [Bool.eq_iff_iff];simp
  ·rw [decide_eq_false hn];go_enter Tryz.func81,Tryz.ntmps81;go_wp2_with fail
   refine (C _).mono ?_;rintro e w1 ⟨rfl,hb⟩;have hB:=below_end (ball (Below.refl _ w) _) hb;obtain ⟨c0,c1,c2,c3,c4,c5⟩:=(AtL.below hb (AtL.new0 w _ [.int .i64 1,.int .i64 n,.int .i64 d,.string t,.bool b,.int .i64 f])).f6;go_wp2;go_ret;exact ⟨ret_bool (by simp),hB⟩
 rw [if_neg e1];generalize Wv.right k n d t b f=q at *;have e0':(k == 0)=false:=by simp [e0]
 have e1':(k == 1)=false:=by simp [e1]
 go_enter Tryz.func81,Tryz.ntmps81;go_wp2_with fail
 refine (C _).mono ?_;rintro e w1 ⟨rfl,hb⟩;have hB:=below_end (ball (Below.refl _ w) _) hb;go_wp2;go_ret;exact ⟨rfl,hB⟩
theorem tkind_any (o:Int) (m:ByteArray) (tt:Int) (w:World):Calls Tryz.prog 83 #[.agg #[.int .i64 o,.string m,.int .i64 tt]] w fun e w'=>e=.returned (.int .i64 (if tt<5 then 5 else 4))∧Below w.heap.size w w':=by
 by_cases h:tt<5
 ·rw [if_pos h];go_enter Tryz.func83,Tryz.ntmps83;go_wp2;go_ret;exact ⟨rfl,by with_reducible repeat (first | exact Below.refl _ _ | refine below_drewN ?_ _ | refine Below.setCell ?_ (by first | (simp;done) | (simp;omega) | omega) _ | refine Below.drew ?_ | refine below_end ?_ (by assumption) | refine ball ?_ _)⟩
 ·rw [if_neg h];go_enter Tryz.func83,Tryz.ntmps83;go_wp2;go_ret;exact ⟨rfl,by with_reducible repeat (first | exact Below.refl _ _ | refine below_drewN ?_ _ | refine Below.setCell ?_ (by first | (simp;done) | (simp;omega) | omega) _ | refine Below.drew ?_ | refine below_end ?_ (by assumption) | refine ball ?_ _)⟩
def opV (x:Option (Int × List UInt8 × Int)):Value:=match x with
 | some (o,m,t)=>.tuple #[.agg #[.int .i64 o,.string ⟨m.toArray⟩,.int .i64 t],.bool true]
 | none=>.tuple #[.agg #[.int .i64 0,.string ⟨#[]⟩,.int .i64 0],.bool false]
theorem ops_index:∀ (j:Nat) (h:j<Wt.opsT.length) (w:World),(Instr.index 137 (.agg opsR.toArray) (.int .i64 (j:Int))).run Tryz.prog w=.ok (.agg #[.int .i64 (Wt.opsT[j]).1,.string ⟨(Wt.opsT[j]).2.1.toArray⟩,.int .i64 (Wt.opsT[j]).2.2]) w
 | 0,_,w=>by kernel_rfl
 | 1,_,w=>by kernel_rfl
 | 2,_,w=>by kernel_rfl
 | 3,_,w=>by kernel_rfl
 | 4,_,w=>by kernel_rfl
 | 5,_,w=>by kernel_rfl
 | 6,_,w=>by kernel_rfl
 | 7,_,w=>by kernel_rfl
 | 8,_,w=>by kernel_rfl
 | 9,_,w=>by kernel_rfl
 | 10,_,w=>by kernel_rfl
 | 11,_,w=>by kernel_rfl
 | 12,_,w=>by kernel_rfl
 | 13,_,w=>by kernel_rfl
 | 14,_,w=>by kernel_rfl
 | j+15,h,w=>absurd h (by show ¬ j+15<15;omega)
theorem topOf_any (o:Int) (w:World) (hO:OpsAt w):Calls Tryz.prog 71 #[.int .i64 o] w fun e w'=>e=.returned (opV (Wt.opOf o))∧Below w.heap.size w w':=by
 have E0:Hid (Wt.opOf o=(Wt.opsT.drop 0).find? fun x=>x.1 == o):=(rfl:Wt.opOf o=_)
 obtain ⟨R,hR⟩:∃ R,Wt.opOf o=R:=⟨_,rfl⟩
 rw [hR] at E0 ⊢;clear hR;have hO2:World.rangeAt (w.alloc (.cells #[.int .i64 0,.string ⟨#[]⟩,.int .i64 0] 118)) 0 0 opsR:=hO.alloc (.cells #[.int .i64 0,.string ⟨#[]⟩,.int .i64 0] 118);go_enter Tryz.func71,Tryz.ntmps71;go_upto_region 1 with fail
 go_wp2_with ((with_reducible refine wpList_load_mid (cs:=opsR) ?_ 137 (.global 0) ?_ 0 0 ?_ _ hO2 Tryz.underlying137 ?_ ?_ ?_);rfl;rfl;rfl;rfl;kernel_rfl)
 go_loopg [7] 15 (fun gk x wr=>∃ j:Nat,x=.int .i64 j∧gk=15 - j∧j≤15∧Hid (R=(Wt.opsT.drop j).find? fun x=>x.1 == o)∧Below w.heap.size w wr∧Hid (AtL wr w.heap.size [.int .i64 0,.string ⟨#[]⟩,.int .i64 0]))
 case atStart=>exact ⟨0,rfl,rfl,Nat.zero_le _,E0,ball (Below.refl _ _) _,AtL.new0 w _ [.int .i64 0,.string ⟨#[]⟩,.int .i64 0]⟩
 case round =>
  obtain ⟨j,rfl,hg,hj,HR,hb,HA⟩:=hrel;by_cases hlt:j<15
  ·have hli:(j:Int)<15:=by omega
   have hix:=ops_index j hlt;have hd:=List.drop_eq_getElem_cons (l:=Wt.opsT) hlt;generalize Wt.opsT[j]=x at *;obtain ⟨oj,mj,tj⟩:=x;simp only at hix;rw [hd] at HR;clear hd;have P0:=AtL.alloc HA.out (.cells #[.int .i64 oj,.string ⟨mj.toArray⟩,.int .i64 tj] 118);have hb2:=ball hb (.cells #[.int .i64 oj,.string ⟨mj.toArray⟩,.int .i64 tj] 118);obtain ⟨a0,a1,a2,f0,f1,f2⟩:=HA.out.three;have hsz:=HA.out.1;have hne:¬ w.heap.size=wr.heap.size:=by omega
   have hne2:¬ wr.heap.size=w.heap.size:=by omega
   by_cases ho:oj=o
   ·have E:Hid (R=some (oj,mj,tj)):=by show _=_;rw [HR.out,List.find?_cons_of_pos (by simp [ho])]
    clear HR;subst ho;go_wp2;refine bodyPost_ret (v:=.tuple #[.agg #[.int .i64 oj,.string ⟨mj.toArray⟩,.int .i64 tj],.bool true]) (by simp [results,Tryz.results71,go_sem, *]) rfl ⟨by rw [E.out];rfl,?_⟩;exact by with_reducible repeat (first | exact hb | refine ball ?_ _ | refine Below.setCell ?_ (by first | (simp;done) | (simp;omega) | omega) _ | refine Below.drew ?_ | refine below_drewN ?_ _)
   ·have ho2:(oj == o)=false:=by simp [ho]
    have E:Hid (R=(Wt.opsT.drop (j+1)).find? fun x=>x.1 == o):=by show _=_;rw [HR.out,List.find?_cons_of_neg (by simp [ho])]
    clear HR;go_wp2_with fail
    go_roundg (15 - (j+1))
    case rel=>exact ⟨j+1,by simp,rfl,hlt,E,hb2,P0⟩
    case measure=>omega
  ·have hli:¬ (j:Int)<15:=by omega
   have E:Hid (R=none):=by
    show _=_
    rw [HR.out,List.drop_eq_nil_of_le (by show 15≤j;omega)];rfl
   clear HR;obtain ⟨a0,a1,a2,f0,f1,f2⟩:=HA.out.three;go_wp2;refine bodyPost_ret (v:=.tuple #[.agg #[.int .i64 0,.string ⟨#[]⟩,.int .i64 0],.bool false]) (by simp [results,Tryz.results71,go_sem, *]) rfl ⟨by rw [E.out];rfl,?_⟩;exact by with_reducible repeat (first | exact hb | refine ball ?_ _ | refine Below.setCell ?_ (by first | (simp;done) | (simp;omega) | omega) _ | refine Below.drew ?_ | refine below_drewN ?_ _)
theorem topAs_any (m:ByteArray) (tt:Int) (w:World) (hO:OpsAt w):Calls Tryz.prog 122 #[.string m,.int .i64 tt] w fun e w'=>e=.returned (opV (Wt.opAs m.data.toList tt))∧Below w.heap.size w w':=by
 have E0:Hid (Wt.opAs m.data.toList tt=(Wt.opsT.drop 0).find? fun x=>(x.2.1 == m.data.toList) && (x.2.2 == tt)):=(rfl:Wt.opAs m.data.toList tt=_)
 obtain ⟨R,hR⟩:∃ R,Wt.opAs m.data.toList tt=R:=⟨_,rfl⟩
 rw [hR] at E0 ⊢;clear hR;have hO2:World.rangeAt (w.alloc (.cells #[.int .i64 0,.string ⟨#[]⟩,.int .i64 0] 118)) 0 0 opsR:=hO.alloc (.cells #[.int .i64 0,.string ⟨#[]⟩,.int .i64 0] 118);go_enter Tryz.func122,Tryz.ntmps122;go_upto_region 1 with fail
 go_wp2_with ((with_reducible refine wpList_load_mid (cs:=opsR) ?_ 137 (.global 0) ?_ 0 0 ?_ _ hO2 Tryz.underlying137 ?_ ?_ ?_);rfl;rfl;rfl;rfl;kernel_rfl)
 go_loopg [9] 15 (fun gk x wr=>∃ j:Nat,x=.int .i64 j∧gk=15 - j∧j≤15∧Hid (R=(Wt.opsT.drop j).find? fun x=>(x.2.1 == m.data.toList) && (x.2.2 == tt))∧Below w.heap.size w wr∧Hid (AtL wr w.heap.size [.int .i64 0,.string ⟨#[]⟩,.int .i64 0]))
 case atStart=>exact ⟨0,rfl,rfl,Nat.zero_le _,E0,ball (Below.refl _ _) _,AtL.new0 w _ [.int .i64 0,.string ⟨#[]⟩,.int .i64 0]⟩
 case round =>
  obtain ⟨j,rfl,hg,hj,HR,hb,HA⟩:=hrel;by_cases hlt:j<15
  ·have hli:(j:Int)<15:=by omega
   have hix:=ops_index j hlt;have hd:=List.drop_eq_getElem_cons (l:=Wt.opsT) hlt;generalize Wt.opsT[j]=x at *;obtain ⟨oj,mj,tj⟩:=x;simp only at hix;rw [hd] at HR;clear hd;have P0:=AtL.alloc HA.out (.cells #[.int .i64 oj,.string ⟨mj.toArray⟩,.int .i64 tj] 118);have hb2:=ball hb (.cells #[.int .i64 oj,.string ⟨mj.toArray⟩,.int .i64 tj] 118);obtain ⟨a0,a1,a2,f0,f1,f2⟩:=HA.out.three;have hsz:=HA.out.1;have hne:¬ w.heap.size=wr.heap.size:=by omega
   have hne2:¬ wr.heap.size=w.heap.size:=by omega
   by_cases hm3:mj=m.toList
   ·subst hm3;have hm:m.toList=m.data.toList:=ByteArray.toList_eq m;by_cases ho:tj=tt
    ·have E:Hid (R=some (oj,m.toList,tj)):=by show _=_;rw [HR.out,List.find?_cons_of_pos (by simp [ho,hm])]
     clear HR hm;subst ho;go_wp2;refine bodyPost_ret (v:=.tuple #[.agg #[.int .i64 oj,.string ⟨m.toList.toArray⟩,.int .i64 tj],.bool true]) (by simp [results,Tryz.results122,go_sem, *]) rfl ⟨by rw [E.out];rfl,?_⟩;exact by with_reducible repeat (first | exact hb | refine ball ?_ _ | refine Below.setCell ?_ (by first | (simp;done) | (simp;omega) | omega) _ | refine Below.drew ?_ | refine below_drewN ?_ _)
    ·have ho2:(tj == tt)=false:=by simp [ho]
     have E:Hid (R=(Wt.opsT.drop (j+1)).find? fun x=>(x.2.1 == m.data.toList) && (x.2.2 == tt)):=by show _=_;rw [HR.out,List.find?_cons_of_neg (by simp [ho])]
     clear HR hm;go_wp2_with fail
     go_roundg (15 - (j+1))
     case rel=>exact ⟨j+1,by simp,rfl,hlt,E,hb2,P0⟩
     case measure=>omega
   ·have hm:¬ mj=m.data.toList:=by rw [←ByteArray.toList_eq];exact hm3
    have hm4:(mj == m.toList)=false:=by simp [hm3]
    have E:Hid (R=(Wt.opsT.drop (j+1)).find? fun x=>(x.2.1 == m.data.toList) && (x.2.2 == tt)):=by show _=_;rw [HR.out,List.find?_cons_of_neg (by simp [hm])]
    clear HR hm;go_wp2_with fail
    go_roundg (15 - (j+1))
    case rel=>exact ⟨j+1,by simp,rfl,hlt,E,hb2,P0⟩
    case measure=>omega
  ·have hli:¬ (j:Int)<15:=by omega
   have E:Hid (R=none):=by
    show _=_
    rw [HR.out,List.drop_eq_nil_of_le (by show 15≤j;omega)];rfl
   clear HR;obtain ⟨a0,a1,a2,f0,f1,f2⟩:=HA.out.three;go_wp2;refine bodyPost_ret (v:=.tuple #[.agg #[.int .i64 0,.string ⟨#[]⟩,.int .i64 0],.bool false]) (by simp [results,Tryz.results122,go_sem, *]) rfl ⟨by rw [E.out];rfl,?_⟩;exact by with_reducible repeat (first | exact hb | refine ball ?_ _ | refine Below.setCell ?_ (by first | (simp;done) | (simp;omega) | omega) _ | refine Below.drew ?_ | refine below_drewN ?_ _)
theorem tparts_any (x:Wt.Nd) (w:World):Calls Tryz.prog 32 #[ndV x] w fun e w'=>e=.returned (.int .i64 (Wt.parts x))∧Below w.heap.size w w':=by
 obtain ⟨k,⟨vk,vn,vd,vt,vb,vf⟩,op,nm,ar,⟨sa,ra,ca,fra,fca⟩,⟨sb,rb,cb,frb,fcb⟩⟩:=x;unfold Wt.parts;simp only [ndV,nd20];by_cases h4:k=4
 ·subst h4;go_enter Tryz.func32,Tryz.ntmps32;go_wp2;go_ret;exact ⟨rfl,by with_reducible repeat (first | exact Below.refl _ _ | refine below_drewN ?_ _ | refine Below.setCell ?_ (by first | (simp;done) | (simp;omega) | omega) _ | refine Below.drew ?_ | refine below_end ?_ (by assumption) | refine ball ?_ _)⟩
 have h4':(k == 4)=false:=by simp [h4]
 rw [if_neg h4];by_cases h5:k=5
 ·subst h5;go_enter Tryz.func32,Tryz.ntmps32;go_wp2;go_ret;exact ⟨rfl,by with_reducible repeat (first | exact Below.refl _ _ | refine below_drewN ?_ _ | refine Below.setCell ?_ (by first | (simp;done) | (simp;omega) | omega) _ | refine Below.drew ?_ | refine below_end ?_ (by assumption) | refine ball ?_ _)⟩
 have h5':(k == 5)=false:=by simp [h5]
 rw [if_neg h5];go_enter Tryz.func32,Tryz.ntmps32;go_wp2;go_ret;exact ⟨rfl,by with_reducible repeat (first | exact Below.refl _ _ | refine below_drewN ?_ _ | refine Below.setCell ?_ (by first | (simp;done) | (simp;omega) | omega) _ | refine Below.drew ?_ | refine below_end ?_ (by assumption) | refine ball ?_ _)⟩
def eqVl (x y:Wt.Vl):Bool:=eqV x.k x.n x.d x.t x.b x.f y.k y.n y.d y.t y.b y.f
def eqRf (x y:Wt.Rf):Bool:=eqR x.s x.r x.c x.fr x.fc y.s y.r y.c y.fr y.fc
def eqN (x y:Wt.Nd):Bool:=(x.k == y.k) && (eqVl x.v y.v && ((x.op == y.op) && ((x.nm == y.nm) && ((x.ar == y.ar) && (eqRf x.a y.a && eqRf x.b y.b)))))
theorem eqVl_iff (x y:Wt.Vl):eqVl x y=true ↔ x=y:=by
 obtain ⟨k,n,d,t,b,f⟩:=x;obtain ⟨k',n',d',t',b',f'⟩:=y;simp [eqVl,eqV,ba_beq]
theorem eqRf_iff (x y:Wt.Rf):eqRf x y=true ↔ x=y:=by
 obtain ⟨k,n,d,t,b⟩:=x;obtain ⟨k',n',d',t',b'⟩:=y;simp [eqRf,eqR,ba_beq]
theorem eqN_iff (x y:Wt.Nd):eqN x y=true ↔ x=y:=by
 obtain ⟨k,v,op,nm,ar,a,b⟩:=x;obtain ⟨k',v',op',nm',ar',a',b'⟩:=y;simp [eqN,ba_beq,eqVl_iff,eqRf_iff]
theorem eqN_run (x y:Wt.Nd) (w:World):(binOp .eql 45 (ndV x) (ndV y)).run Tryz.prog w=.ok (.bool (eqN x y)) w:=by
 obtain ⟨k,⟨vk,vn,vd,vt,vb,vf⟩,op,nm,ar,⟨sa,ra,ca,fra,fca⟩,⟨sb,rb,cb,frb,fcb⟩⟩:=x;obtain ⟨k',⟨vk',vn',vd',vt',vb',vf'⟩,op',nm',ar',⟨sa',ra',ca',fra',fca'⟩,⟨sb',rb',cb',frb',fcb'⟩⟩:=y;have e1:=fun w=>eqV_at 9996 vk vn vd vt vb vf vk' vn' vd' vt' vb' vf' w
 have e2:=fun w=>eqR_at 9997 sa ra ca fra fca sa' ra' ca' fra' fca' w
 have e3:=fun w=>eqR_at 9997 sb rb cb frb fcb sb' rb' cb' frb' fcb' w
 simp only [Nat.reduceAdd] at e1 e2 e3;simp only [ndV,nd20,eqN,eqVl,eqRf];generalize eqV vk vn vd vt vb vf vk' vn' vd' vt' vb' vf'=q1 at *;generalize eqR sa ra ca fra fca sa' ra' ca' fra' fca'=q2 at *;generalize eqR sb rb cb frb fcb sb' rb' cb' frb' fcb'=q3 at *;rw [run_eql_struct,beq_toListBytes];by_cases h1:k=k'
 ·cases q1
  ·simp [go_sem,h1,e1]
  ·by_cases h2:op=op'
   ·by_cases h3:nm.toList=nm'.toList
    ·by_cases h4:ar=ar'
     ·cases q2
      ·simp [go_sem,h1,h2,h3,h4,e1,e2]
      ·cases q3 <;> simp [go_sem,h1,h2,h3,h4,e1,e2,e3]
     ·simp [go_sem,h1,h2,h3,h4,e1]
    ·simp [go_sem,h1,h2,h3,e1]
   ·simp [go_sem,h1,h2,e1]
 ·simp [go_sem,h1]
end Go.Proofs.YtlggnpohhahdlaaGreatDoor
