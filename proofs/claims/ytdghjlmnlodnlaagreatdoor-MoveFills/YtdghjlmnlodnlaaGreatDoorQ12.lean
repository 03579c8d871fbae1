/- TWord, NPlainB, NWalkE, NPlainC, NWalkK, TWordB, TWordC, TPart. -/
import Derived.Test.YtdghjlmnlodnlaaGreatDoorQ11
import Derived.Shelf.Strings.Search1
set_option maxHeartbeats 4000000
set_option maxRecDepth 100000
set_option linter.unusedVariables false
namespace Go.Proofs.YtdghjlmnlodnlaaGreatDoor
open Tryz
open Go.RowKit
def fx (b:Bool):List UInt8:=if b then [36] else []
theorem zFd (b:Bool) (w:World):CR 168 #[.bool b] w (.string ⟨(fx b).toArray⟩):=by
 cases b
 ·go_enter func168,ntmps168;go_wp2;go_ret;exact ⟨rfl,Below.refl _ _⟩
 ·go_enter func168,ntmps168;go_wp2;go_ret;exact ⟨rfl,Below.refl _ _⟩
def cw (a:Wt.Rf):List UInt8:=fx a.fc++Wpl.colS a.c++fx a.fr++Lib.decDigits (a.r+1).toNat
theorem zHf (b:Bool):(fx b).length<=1:=by cases b <;> decide
theorem zDD (a:Wt.Rf) (w:World) (h0:0<=a.r) (h1:a.r<65536) (htab:Lib.TabIs prog w "internal/strconv.uint64pow10" .u64 Lib.pow10Tab) :
  CR 146 #[rfV a] w (.string ⟨(cw a).toArray⟩):=by
 obtain ⟨s,r,c,fr,fc⟩:=a;simp only at h0 h1;unfold cw;simp only;show Calls _ _ #[.agg #[.string s,.int .i64 r,.int .i64 c,.bool fr,.bool fc]] _ _
 have TB:=Lib.tabBelow_of_tabIs htab;clear htab;have F1:=λw=>zFd fc w
 have F2:=λw=>zFd fr w
 have l0:=zHf fc;have l3:=zHf fr;have l1:=Wpl.colS_len c;have l2:=Wpl.dd_len (r+1).toNat (by omega);have CC:=λw=>zNz c w
 have II:=λw ht=>zGR (r+1) w (by omega) (by omega) ht
 rw [zGQ (show 0<=r+1 by omega)] at II;generalize fx fc=u at *;generalize fx fr=v at *;generalize Wpl.colS c=x at *;generalize Lib.decDigits (r+1).toNat=y at *;have hw:IntKind.i64.wrap (r+1)=r+1:=IntWalk.i64_in _ (by omega);have lx1:¬ 9223372036854775807<u.length+x.length:=by omega
 have lx2:¬ 9223372036854775807<u.length+x.length+v.length:=by omega
 have lx3:¬ 9223372036854775807<u.length+x.length+v.length+y.length:=by omega
 have hS0:=(AtL.new0 w 28 [.string s,.int .i64 r,.int .i64 c,.bool fr,.bool fc]).f5;have hB:=zAI (Below.refl _ w) (.cells #[.string s,.int .i64 r,.int .i64 c,.bool fr,.bool fc] 28);go_enter func146,ntmps146;go_upto_region 1 with fail
 go_region_held3 (λW=>W.cell? ⟨w.heap.size,0,none⟩=some (.string s)/\W.cell? ⟨w.heap.size,1,none⟩=some (.int .i64 r)/\W.cell? ⟨w.heap.size,2,none⟩=some (.int .i64 c)/\W.cell? ⟨w.heap.size,3,none⟩=some (.bool fr)/\W.cell? ⟨w.heap.size,4,none⟩=some (.bool fc))
  (with_reducible first | exact hS0 | assumption | exact zKY hS0 | exact zEV hb (by assumption))
  (first
  | (go_at_call 168;refine (F1 _).mono ?_;rintro e w4 ⟨rfl,hb⟩;(with_reducible first | replace hB:=zAA hB.drew hb | replace hB:=zAA hB hb))
  | (go_at_call 168;refine (F2 _).mono ?_;rintro e w4 ⟨rfl,hb⟩;(with_reducible first | replace hB:=zAA hB.drew hb | replace hB:=zAA hB hb))
  | (go_at_call 169;refine (CC _).mono ?_;rintro e w4 ⟨rfl,hb⟩;(with_reducible first | replace hB:=zAA hB.drew hb | replace hB:=zAA hB hb))
  | (go_at_call 161;refine (II _ ((TB.on (by with_reducible first | exact hB | exact hB.drew)).here)).mono ?_;rintro e w4 ⟨rfl,hb⟩;(with_reducible first | replace hB:=zAA hB.drew hb | replace hB:=zAA hB hb)))
 all_goals
  go_wp2;go_ret;refine ⟨?_,hB⟩;refine congrArg (λx=>Ending.returned (Value.string x)) ?_;rw [zBH,zBH,zBH]
end Go.Proofs.YtdghjlmnlodnlaaGreatDoor
namespace Wpl
def isL (c:UInt8):Bool:=decide (65<=c.toNat/\c.toNat<=90)
def isG (c:UInt8):Bool:=decide (48<=c.toNat/\c.toNat<=57)
def rc:Nat->List UInt8->Nat × List UInt8
 | k,[]=>(k,[])
 | k,c::t=>if isL c=true/\k<=256 then rc (k * 26+(c.toNat - 65)+1) t else (k,c::t)
def rd:Nat->List UInt8->Nat × List UInt8
 | k,[]=>(k,[])
 | k,c::t=>if isG c=true/\k<=65536 then rd (k * 10+(c.toNat - 48)) t else (k,c::t)
def rr (l:List UInt8):Nat × List UInt8:=if l.head? = some 48 then (0,l) else rd 0 l
def rdOk (l:List UInt8):Bool:=decide ((rr (rc 0 l).2).2=[]/\1<=(rr (rc 0 l).2).1/\(rr (rc 0 l).2).1<=65536/\1<=(rc 0 l).1/\(rc 0 l).1<=256)
def rdR (l:List UInt8):Int:=if rdOk l then ((rr (rc 0 l).2).1:Int) - 1 else 0
def rdC (l:List UInt8):Int:=if rdOk l then ((rc 0 l).1:Int) - 1 else 0
theorem rc_len (k:Nat) (l:List UInt8):(rc k l).2.length<=l.length:=by
 induction l generalizing k with
 | nil=>simp [rc]
 | cons c t ih =>
  unfold rc;split
  ·have:=ih (k * 26+(c.toNat - 65)+1);simp;omega
  ·simp
theorem rc_bd (k:Nat) (l:List UInt8) (h:k<=6682):(rc k l).1<=6682:=by
 induction l generalizing k with
 | nil=>simpa [rc] using h
 | cons c t ih =>
  unfold rc;split
  ·rename_i hh
   have hc:=hh.1;simp only [isL,decide_eq_true_eq] at hc;exact ih _ (by omega)
  ·exact h
theorem zNc (k:Nat) (l:List UInt8) (h:k<=655369):(rd k l).1<=655369:=by
 induction l generalizing k with
 | nil=>simpa [rd] using h
 | cons c t ih =>
  unfold rd;split
  ·rename_i hh
   have hc:=hh.1;simp only [isG,decide_eq_true_eq] at hc;exact ih _ (by omega)
  ·exact h
theorem rr_bd (l:List UInt8):(rr l).1<=655369:=by
 unfold rr;split
 ·simp
 ·exact zNc 0 l (by omega)
end Wpl
namespace Go.Proofs.YtdghjlmnlodnlaaGreatDoor
open Tryz
open Go.RowKit
theorem zE3 (c:UInt8) (t:List UInt8):ByteArray.extract ⟨(c::t).toArray⟩ 1 (t.length+1)=⟨t.toArray⟩:=by
 apply ByteArray.ext
 simp [ByteArray.data_extract]
theorem zCS (c:UInt8):(0:Int)<=(c.toNat:Int)/\(c.toNat:Int)<=255:=by have:=c.toNat_lt;omega
theorem zGd (s:List UInt8) (w:World) (hs:s.length<=9223372036854775807):Calls prog 224 #[.string ⟨s.toArray⟩] w λe w'=>e=.returned (.tuple #[.int .i64 ((Wpl.rc 0 s).1:Nat),.string ⟨(Wpl.rc 0 s).2.toArray⟩])/\w=w':=by
 go_enter func224,ntmps224;go_wp2;go_loopw [0,2] (λx y wr=>∃ (l:List UInt8) (k:Nat),x=.string ⟨l.toArray⟩/\y=.int .i64 k/\k<=6682/\l.length<=9223372036854775807/\Hid (Wpl.rc 0 s=Wpl.rc k l)/\wr=w) (λx _ _=>match x with | .string b=>b.size | _=>0)
 case atStart=>exact ⟨s,0,rfl,rfl,by omega,hs,(rfl:Wpl.rc 0 s=Wpl.rc 0 s),rfl⟩
 case round =>
  obtain ⟨l,k,rfl,rfl,hk,hl,HR,rfl⟩:=hrel;cases l with
  | nil =>
   have E:Hid (Wpl.rc 0 s=(k,[])):=HR.out;go_wp2;go_ret2
   exact ⟨by rw [E.out];rfl,rfl⟩
  | cons c t =>
   obtain ⟨b0,b1⟩:=zCS c;simp only [List.length_cons] at hl;by_cases h1:65<=(c.toNat:Int)
   ·by_cases h2:(c.toNat:Int)<=90
    ·by_cases h3:(k:Int)<=256
     ·have E:Hid (Wpl.rc 0 s=Wpl.rc (k * 26+(c.toNat - 65)+1) t):=by
       show _=_;rw [HR.out]
       conv=>lhs;unfold Wpl.rc
       rw [if_pos ⟨by simp [Wpl.isL];omega,by omega⟩]
      clear HR;go_wp2_with fail
      go_roundw
      case rel=>exact ⟨t,k * 26+(c.toNat - 65)+1,congrArg Value.string (zE3 c t),congrArg (Value.int IntKind.i64) (by show (k:Int) * 26+((c.toNat:Nat) - 65)+1=_;omega),by omega,by omega,E,trivial⟩
      case measure=>rw [zE3];simp [ByteArray.size]
     ·have E:Hid (Wpl.rc 0 s=(k,c::t)):=by
       show _=_;rw [HR.out]
       conv=>lhs;unfold Wpl.rc
       rw [if_neg (by omega)]
      clear HR;go_wp2;go_ret2
      exact ⟨by rw [E.out];rfl,rfl⟩
    ·have E:Hid (Wpl.rc 0 s=(k,c::t)):=by
      show _=_;rw [HR.out]
      conv=>lhs;unfold Wpl.rc
      rw [if_neg (by simp [Wpl.isL];omega)]
     clear HR;go_wp2;go_ret2
     exact ⟨by rw [E.out];rfl,rfl⟩
   ·have E:Hid (Wpl.rc 0 s=(k,c::t)):=by
     show _=_;rw [HR.out]
     conv=>lhs;unfold Wpl.rc
     rw [if_neg (by simp [Wpl.isL];omega)]
    clear HR;go_wp2;go_ret2
    exact ⟨by rw [E.out];rfl,rfl⟩
theorem zN4 (c:UInt8) (t:List UInt8):((ByteArray.extract ⟨(c::t).toArray⟩ 0 1).toList == [48])=decide (c=48):=by
 have e:ByteArray.extract ⟨(c::t).toArray⟩ 0 1=⟨#[c]⟩:=by
  apply ByteArray.ext
  simp [ByteArray.data_extract]
 rw [e];have e2:(⟨#[c]⟩:ByteArray).toList=[c]:=by
  simp [ByteArray.toList,ByteArray.toList.loop,ByteArray.size,ByteArray.get!]
 rw [e2];by_cases h:c=48
 ·subst h;rfl
 ·rw [decide_eq_false h];simp [h]
theorem zFs (c:UInt8) (t:List UInt8) (w:World) (hs:t.length+1<=9223372036854775807):Calls prog 85 #[.string ⟨(c::t).toArray⟩,.string ⟨#[48]⟩] w λe w'=>e=.returned (.bool (decide (c=48)))/\w=w':=by
 have hp:=zN4 c t;have hl1:(1:Int)<=(t.length:Int)+1:=by omega
 have E:Hid (decide (c=48)=((ByteArray.extract ⟨(c::t).toArray⟩ 0 1).toList == [48])):=hp.symm;generalize decide (c=48)=b at *;go_enter func85,ntmps85;go_wp2;go_ret;exact ⟨rfl,rfl⟩
theorem zGY (w:World):Calls prog 85 #[.string ⟨#[]⟩,.string ⟨#[48]⟩] w λe w'=>e=.returned (.bool false)/\w=w':=by
 go_enter func85,ntmps85;go_wp2;go_ret;exact ⟨rfl,rfl⟩
theorem zGk (s:List UInt8) (w:World) (hs:s.length<=9223372036854775807):Calls prog 225 #[.string ⟨s.toArray⟩] w λe w'=>e=.returned (.tuple #[.int .i64 ((Wpl.rr s).1:Nat),.string ⟨(Wpl.rr s).2.toArray⟩])/\w=w':=by
 cases s with
 | nil =>
  have E:Hid (Wpl.rr []=(0,[])):=(rfl:Wpl.rr []=(0,[]))
  go_enter func225,ntmps225;go_wp2_with fail
  refine (zGY _).mono ?_;rintro e w1 ⟨rfl,rfl⟩;go_wp2;go_loopw [0,2] (λx y wr=>x=.string ⟨#[]⟩/\y=.int .i64 0/\wr=w) (λx _ _=>0)
  case atStart=>exact ⟨rfl,rfl,rfl⟩
  case round =>
   obtain ⟨rfl,rfl,rfl⟩:=hrel;go_wp2;go_ret2
   exact ⟨by rw [E.out];rfl,rfl⟩
 | cons c0 t0 =>
  have hl0:t0.length+1<=9223372036854775807:=by simpa using hs
  have HP:=λw=>zFs c0 t0 w hl0
  by_cases h0:c0=48
  ·have E:Hid (Wpl.rr (c0::t0)=(0,c0::t0)):=by show _=_;unfold Wpl.rr;rw [if_pos (by rw [h0];rfl)]
   rw [decide_eq_true h0] at HP;clear h0;go_enter func225,ntmps225;go_wp2_with fail
   refine (HP _).mono ?_;rintro e w1 ⟨rfl,rfl⟩;go_wp2;go_ret2
   exact ⟨by rw [E.out];rfl,rfl⟩
  ·have E0:Hid (Wpl.rr (c0::t0)=Wpl.rd 0 (c0::t0)):=by show _=_;unfold Wpl.rr;rw [if_neg (by simpa using h0)]
   rw [decide_eq_false h0] at HP;clear h0;go_enter func225,ntmps225;go_wp2_with fail
   refine (HP _).mono ?_;rintro e w1 ⟨rfl,rfl⟩;go_wp2;go_loopw [0,2] (λx y wr=>∃ (l:List UInt8) (k:Nat),x=.string ⟨l.toArray⟩/\y=.int .i64 k/\k<=655369/\l.length<=9223372036854775807/\Hid (Wpl.rr (c0::t0)=Wpl.rd k l)/\wr=w) (λx _ _=>match x with | .string b=>b.size | _=>0)
   case atStart=>exact ⟨c0::t0,0,rfl,rfl,by omega,hs,E0,rfl⟩
   case round =>
    obtain ⟨l,k,rfl,rfl,hk,hl,HR,rfl⟩:=hrel;clear hs;cases l with
    | nil =>
     have E:Hid (Wpl.rr (c0::t0)=(k,[])):=HR.out;go_wp2;go_ret2
     exact ⟨by rw [E.out];rfl,rfl⟩
    | cons c t =>
     obtain ⟨b0,b1⟩:=zCS c;simp only [List.length_cons] at hl;by_cases h1:48<=(c.toNat:Int)
     ·by_cases h2:(c.toNat:Int)<=57
      ·by_cases h3:(k:Int)<=65536
       ·have E:Hid (Wpl.rr (c0::t0)=Wpl.rd (k * 10+(c.toNat - 48)) t):=by
         show _=_;rw [HR.out]
         conv=>lhs;unfold Wpl.rd
         rw [if_pos ⟨by simp [Wpl.isG];omega,by omega⟩]
        clear HR;go_wp2_with fail
        go_roundw
        case rel=>exact ⟨t,k * 10+(c.toNat - 48),congrArg Value.string (zE3 c t),congrArg (Value.int IntKind.i64) (by show (k:Int) * 10+((c.toNat:Nat) - 48)=_;omega),by omega,by omega,E,trivial⟩
        case measure=>rw [zE3];simp [ByteArray.size]
       ·have E:Hid (Wpl.rr (c0::t0)=(k,c::t)):=by
         show _=_;rw [HR.out]
         conv=>lhs;unfold Wpl.rd
         rw [if_neg (by omega)]
        clear HR;go_wp2;go_ret2
        exact ⟨by rw [E.out];rfl,rfl⟩
      ·have E:Hid (Wpl.rr (c0::t0)=(k,c::t)):=by
        show _=_;rw [HR.out]
        conv=>lhs;unfold Wpl.rd
        rw [if_neg (by simp [Wpl.isG];omega)]
       clear HR;go_wp2;go_ret2
       exact ⟨by rw [E.out];rfl,rfl⟩
     ·have E:Hid (Wpl.rr (c0::t0)=(k,c::t)):=by
       show _=_;rw [HR.out]
       conv=>lhs;unfold Wpl.rd
       rw [if_neg (by simp [Wpl.isG];omega)]
      clear HR;go_wp2;go_ret2
      exact ⟨by rw [E.out];rfl,rfl⟩
theorem zGE (s:List UInt8) (w:World) (hs:s.length<=9223372036854775807) :
  CR 219 #[.string ⟨s.toArray⟩] w (.tuple #[.int .i64 (Wpl.rdR s),.int .i64 (Wpl.rdC s),.bool (Wpl.rdOk s)]):=by
 have C1:=λw=>zGd s w hs
 have l1:=Wpl.rc_len 0 s;have C2:=λw=>zGk (Wpl.rc 0 s).2 w (by omega)
 have bc:=Wpl.rc_bd 0 s (by omega);have br:=Wpl.rr_bd (Wpl.rc 0 s).2;have EO:Hid (Wpl.rdOk s=decide ((Wpl.rr (Wpl.rc 0 s).2).2=[]/\1<=(Wpl.rr (Wpl.rc 0 s).2).1/\(Wpl.rr (Wpl.rc 0 s).2).1<=65536/\1<=(Wpl.rc 0 s).1/\(Wpl.rc 0 s).1<=256)):=(rfl:Wpl.rdOk s=_)
 have ER:Hid (Wpl.rdR s=if Wpl.rdOk s then ((Wpl.rr (Wpl.rc 0 s).2).1:Int) - 1 else 0):=(rfl:Wpl.rdR s=_)
 have EC:Hid (Wpl.rdC s=if Wpl.rdOk s then ((Wpl.rc 0 s).1:Int) - 1 else 0):=(rfl:Wpl.rdC s=_)
 generalize Wpl.rdOk s=ok at *;generalize Wpl.rdR s=R at *;generalize Wpl.rdC s=C at *;generalize Wpl.rr (Wpl.rc 0 s).2=q at *;generalize Wpl.rc 0 s=p at *;obtain ⟨k,d⟩:=p;obtain ⟨m,r⟩:=q;simp only at *;have RR:=λw=>zBs 0 ((m:Int) - 1) ((k:Int) - 1) w
 have hr:Hid (Wpl.rightC 0 ((m:Int) - 1) ((k:Int) - 1)=decide (1<=m/\m<=65536/\1<=k/\k<=256)):=by
  show _=_
  rw [Bool.eq_iff_iff,Wpl.rightC_iff];simp;omega
 rw [hr.out] at RR;clear hr l1;go_enter func219,ntmps219;go_wp2_with fail
 refine (C1 _).mono ?_;rintro e w1 ⟨rfl,rfl⟩;go_wp2_with fail
 refine (C2 _).mono ?_;rintro e w2 ⟨rfl,rfl⟩;cases r with
 | cons x t =>
  have E:Hid (ok=false):=by show _=_;rw [EO.out];simp
  go_wp2;go_ret3
  exact ⟨by rw [E.out,ER.out,EC.out,E.out];rfl,clA⟩
 | nil =>
  by_cases hk:1<=m/\m<=65536/\1<=k/\k<=256
  ·have E:Hid (ok=true):=by show _=_;rw [EO.out];simp;omega
   rw [decide_eq_true hk] at RR;go_wp2_with fail
   refine (RR _).mono ?_;rintro e w3 ⟨rfl,hb3⟩;have pC:AtL w3 w.heap.size [.int .i64 0,.int .i64 ((m:Int) - 1),.int .i64 ((k:Int) - 1)]:=AtL.below hb3 (AtL.new0 w 41 _);have hB3:Below w.heap.size w w3:=clA
   clear hb3;obtain ⟨c0,c1,c2⟩:=pC.f3;go_wp2_with fail
   go_region
   all_goals
    go_wp2;go_ret3
    exact ⟨by rw [E.out,ER.out,EC.out,E.out];rfl,clA⟩
  ·have E:Hid (ok=false):=by show _=_;rw [EO.out];simp;omega
   rw [decide_eq_false hk] at RR;go_wp2_with fail
   refine (RR _).mono ?_;rintro e w3 ⟨rfl,hb3⟩;go_wp2;go_ret3
   exact ⟨by rw [E.out,ER.out,EC.out,E.out];rfl,clA⟩
end Go.Proofs.YtdghjlmnlodnlaaGreatDoor
namespace Wpl
def vl (c:UInt8):Nat:=c.toNat - 65+1
def fv (k:Nat) (D:List UInt8):Nat:=D.foldl (λn c=>n * 10+(c.toNat - 48)) k
theorem fv_cons (k:Nat) (c:UInt8) (t:List UInt8):fv k (c::t)=fv (k * 10+(c.toNat - 48)) t:=by unfold fv;rw [List.foldl_cons]
def noL (l:List UInt8):Bool:=match l with | []=>true | c::_=>!isL c
def allG (D:List UInt8):Bool:=D.all isG
theorem zGS (k:Nat) (t:List UInt8) (h:noL t=true):rc k t=(k,t):=by
 cases t with
 | nil=>rfl
 | cons c u =>
  unfold rc;rw [if_neg];simp [noL] at h;simp [h]
theorem zIM {k:Nat} {c:UInt8} (t:List UInt8) (h:isL c=true) (hk:k<=256):rc k (c::t)=rc (k * 26+(c.toNat - 65)+1) t:=by
 conv=>lhs;unfold rc
 rw [if_pos ⟨h,hk⟩]
theorem zPY {k:Nat} {c:UInt8} (t:List UInt8) (h:isG c=true) (hk:k<=65536):rd k (c::t)=rd (k * 10+(c.toNat - 48)) t:=by
 conv=>lhs;unfold rd
 rw [if_pos ⟨h,hk⟩]
theorem rd_inv:∀ (D:List UInt8) (k:Nat),(rd k D).2=[]->allG D=true/\(rd k D).1=fv k D
 | [],k,_=>⟨rfl,rfl⟩
 | c::t,k,h=>by
  by_cases hc:isG c=true/\k<=65536
  ·rw [zPY t hc.1 hc.2] at h ⊢;obtain ⟨h1,h2⟩:=rd_inv t _ h;exact ⟨by simp [allG,hc.1];simpa [allG] using h1,h2⟩
  ·unfold rd at h;rw [if_neg hc] at h;cases h
theorem zNJ:∀ (D:List UInt8) (k:Nat),allG D=true->(k+1) * 10 ^ (D.length - 1)<=65537->rd k D=(fv k D,[])
 | [],k,_,_=>rfl
 | c::t,k,h,hk=>by
  simp only [allG,List.all_cons,Bool.and_eq_true] at h;have hc:=h.1;simp only [isG,decide_eq_true_eq] at hc;have h1:1<=10 ^ t.length:=Nat.one_le_pow _ _ (by omega);have hk':(k+1) * 10 ^ t.length<=65537:=by simpa using hk
  have h2:k+1<=(k+1) * 10 ^ t.length:=Nat.le_mul_of_pos_right _ h1;rw [zPY t h.1 (by omega),fv_cons];cases t with
  | nil=>rfl
  | cons d u =>
   refine zNJ (d::u) _ (by simpa [allG] using h.2) ?_;have e:(d::u).length - 1=u.length:=by simp
   rw [e];have e2:10 ^ (d::u).length=10 * 10 ^ u.length:=by rw [List.length_cons,Nat.pow_succ,Nat.mul_comm]
   rw [e2] at hk';have h3:(k * 10+(c.toNat - 48)+1) * 10 ^ u.length<=((k+1) * 10) * 10 ^ u.length:=Nat.mul_le_mul_right _ (by omega);rw [Nat.mul_assoc] at h3;omega
theorem fv_ge:∀ (D:List UInt8) (k:Nat),k * 10 ^ D.length<=fv k D
 | [],k=>by simp [fv]
 | c::t,k=>by
  rw [fv_cons];have:=fv_ge t (k * 10+(c.toNat - 48));have h2:(k * 10) * 10 ^ t.length<=(k * 10+(c.toNat - 48)) * 10 ^ t.length:=Nat.mul_le_mul_right _ (by omega);rw [List.length_cons,Nat.pow_succ,Nat.mul_comm (10 ^ t.length) 10,<-Nat.mul_assoc];omega
def dgOk (D:List UInt8):Bool:=decide ((rr D).2=[]/\1<=(rr D).1/\(rr D).1<=65536)
theorem dg_nil:dgOk []=false:=by decide
theorem dg_zero (t:List UInt8):dgOk (48::t)=false:=by
 have h:(48::t).head? = some (48:UInt8):=rfl;unfold dgOk rr;rw [if_pos h];simp
theorem dg_not {c:UInt8} {t:List UInt8} (h0:c ≠ 48) (h:allG (c::t)=false):dgOk (c::t)=false:=by
 unfold dgOk rr;rw [if_neg (by simpa using h0),decide_eq_false];rintro ⟨h1,_⟩;rw [(rd_inv _ _ h1).1] at h;cases h
theorem dg_long {c:UInt8} {t:List UInt8} (h0:c ≠ 48) (h:5<=t.length):dgOk (c::t)=false:=by
 unfold dgOk rr;rw [if_neg (by simpa using h0),decide_eq_false];rintro ⟨h1,h2,h3⟩;obtain ⟨g1,g2⟩:=rd_inv _ _ h1;rw [g2,fv_cons] at h3;simp only [allG,List.all_cons,Bool.and_eq_true] at g1;have hc:=g1.1;simp only [isG,decide_eq_true_eq] at hc;have hn:c.toNat ≠ 48:=λe=>h0 (UInt8.toNat_inj.1 (by rw [e];rfl))
 have:=fv_ge t (0 * 10+(c.toNat - 48));have h4:1 * 10 ^ 5<=(0 * 10+(c.toNat - 48)) * 10 ^ t.length:=Nat.mul_le_mul (by omega) (Nat.pow_le_pow_right (by omega) h);omega
theorem dg_in {c:UInt8} {t:List UInt8} (h0:c ≠ 48) (h:allG (c::t)=true) (hl:t.length<5):dgOk (c::t)=decide (fv 0 (c::t)<=65536)/\(rr (c::t)).1=fv 0 (c::t)/\1<=fv 0 (c::t):=by
 have e:rr (c::t)=(fv 0 (c::t),[]):=by
  unfold rr;rw [if_neg (by simpa using h0)];refine zNJ _ _ h ?_;have:10 ^ t.length<=10 ^ 4:=Nat.pow_le_pow_right (by omega) (by omega);simp only [List.length_cons,Nat.add_sub_cancel];omega
 have hp:1<=fv 0 (c::t):=by
  simp only [allG,List.all_cons,Bool.and_eq_true] at h;have hc:=h.1;simp only [isG,decide_eq_true_eq] at hc;have hn:c.toNat ≠ 48:=λe=>h0 (UInt8.toNat_inj.1 (by rw [e];rfl))
  have:=fv_ge t (0 * 10+(c.toNat - 48));have h4:1 * 1<=(0 * 10+(c.toNat - 48)) * 10 ^ t.length:=Nat.mul_le_mul (by omega) (Nat.one_le_pow _ _ (by omega));rw [fv_cons];omega
 refine ⟨?_,by rw [e],hp⟩;unfold dgOk;rw [e,Bool.eq_iff_iff];simp;intro;omega
theorem vl_bd {c:UInt8} (h:isL c=true):1<=vl c/\vl c<=26:=by
 simp only [isL,decide_eq_true_eq] at h;unfold vl;omega
theorem rd_none:rdOk []=false:=by decide
theorem rd_no {a:UInt8} (t:List UInt8) (h:isL a=false):rdOk (a::t)=false:=by
 unfold rdOk;rw [zGS 0 (a::t) (by simp [noL,h])];simp
theorem rd_one {a:UInt8} {t:List UInt8} (h:isL a=true) (hn:noL t=true):rdOk (a::t)=dgOk t/\rc 0 (a::t)=(vl a,t):=by
 have e:rc 0 (a::t)=(vl a,t):=by
  rw [zIM t h (by omega),zGS _ t hn];unfold vl;simp
 refine ⟨?_,e⟩;have hb:=vl_bd h;unfold rdOk dgOk;rw [e,Bool.eq_iff_iff,decide_eq_true_eq,decide_eq_true_eq];constructor
 ·rintro ⟨g1,g2,g3,g4,g5⟩;exact ⟨g1,g2,g3⟩
 ·rintro ⟨g1,g2,g3⟩;exact ⟨g1,g2,g3,by omega,by omega⟩
theorem rd_two {a b:UInt8} {u:List UInt8} (h:isL a=true) (h2:isL b=true) (hn:noL u=true):rdOk (a::b::u)=(decide (vl a * 26+vl b<=256) && dgOk u)/\rc 0 (a::b::u)=(vl a * 26+vl b,u):=by
 have hb:=vl_bd h;have hb2:=vl_bd h2;have e:rc 0 (a::b::u)=(vl a * 26+vl b,u):=by
  rw [zIM _ h (by omega),zIM u h2 (by unfold vl at hb;omega),zGS _ u hn];unfold vl;simp;omega
 refine ⟨?_,e⟩;unfold rdOk dgOk;rw [e,Bool.eq_iff_iff,Bool.and_eq_true,decide_eq_true_eq,decide_eq_true_eq,decide_eq_true_eq];constructor
 ·rintro ⟨g1,g2,g3,g4,g5⟩;exact ⟨g5,g1,g2,g3⟩
 ·rintro ⟨g5,g1,g2,g3⟩;exact ⟨g1,g2,g3,by omega,g5⟩
theorem rd_three {a b c:UInt8} (u:List UInt8) (h:isL a=true) (h2:isL b=true) (h3:isL c=true):rdOk (a::b::c::u)=false:=by
 have hb:=vl_bd h;have hb2:=vl_bd h2;have hb3:=vl_bd h3;have e:(rc 0 (a::b::c::u)).1 > 256:=by
  rw [zIM _ h (by omega),zIM _ h2 (by unfold vl at hb;omega)];by_cases hk:(0 * 26+(a.toNat - 65)+1) * 26+(b.toNat - 65)+1<=256
  ·rw [zIM _ h3 hk];have g:∀ (l:List UInt8) (k:Nat),256<k->(rc k l).1=k:=by
    intro l k hk;cases l with
    | nil=>rfl
    | cons x y=>unfold rc;rw [if_neg (by omega)]
   rw [g _ _ (by unfold vl at hb hb2 hb3;omega)];unfold vl at hb hb2 hb3;omega
  ·unfold rc;rw [if_neg (by omega)];show _ > 256
   omega
 unfold rdOk;rw [decide_eq_false];omega
end Wpl
namespace Go.Proofs.YtdghjlmnlodnlaaGreatDoor
open Tryz
open Go.RowKit Go.Shelf
variable {w w':World} {row:List Wt.Nd} {lo kp n:Nat} {v sl:Value} {x:Wt.Nd} {G:Nat->Prop}
def zCl:Go.Shelf.Ren:=⟨fun | 217=>173 | 266=>191 | n=>n,fun | 9=>9 | 5=>5 | 3=>3 | n=>n,fun | n=>n⟩
theorem zFD:Go.Proofs.Lays.n217 prog zCl:={
 mixed:=by kernel_rfl
 f217:=func173.trans (congrArg some (by kernel_rfl))
 f266:=func191.trans (congrArg some (by kernel_rfl))
 t3:=underlying3
 a3:=Tryz.isAgg3
 z3:=Tryz.sizeOf3
 v3:=Tryz.zeroValue3
 t5:=underlying5
 a5:=Tryz.isAgg5
 z5:=Tryz.sizeOf5
 v5:=Tryz.zeroValue5
 t9:=underlying9
 a9:=Tryz.isAgg9
 z9:=Tryz.sizeOf9
 v9:=Tryz.zeroValue9}
def zBx (l:List UInt8):List UInt8:=l.filter (λc=>!(c == 36))
theorem zJO (l:List UInt8):rep [36] [] l=zBx l:=by
 induction l with
 | nil=>exact zDv (by decide)
 | cons c t ih =>
  by_cases h:c=36
  ·subst h;rw [zGf (by decide) (by simp [List.isPrefixOf])];show rep [36] [] t=_
   rw [ih];rfl
  ·rw [zDP (by decide) (by simp [List.isPrefixOf];exact λe=>h e.symm),ih];unfold zBx;rw [List.filter_cons_of_pos (by simp [h])]
theorem zJZ (b:ByteArray) (w:World) (hm:MaxAt w) (hs:b.size<=1048576):CR 84 #[.string b,.string ⟨#[36]⟩,.string ⟨#[]⟩] w (.string ⟨(zBx b.data.toList).toArray⟩):=by
 obtain ⟨m,hm⟩:=hm;have c:=zBi b ⟨#[36]⟩ (by decide);have h:=Any.strings_ReplaceAll {lays155 with} zCi b ⟨#[36]⟩ ⟨#[]⟩ m w (by omega) hm (by decide) (by show b.size+_ * 0<=_;omega);rw [zGI (by decide),zJO] at h;exact h
def dol (l:List UInt8):Bool:=match l with
 | c::_=>c == 36
 | []=>false
theorem zK1 (c:UInt8) (t:List UInt8):((⟨(c::t).toArray⟩:ByteArray).extract 0 1).toList=[c]:=by rw [ByteArray.toList_eq];simp
theorem zLF (l:List UInt8) (w:World) (hl:l.length<=1048576):Calls prog 85 #[.string ⟨l.toArray⟩,.string ⟨#[36]⟩] w λe w'=>e=.returned (.bool (dol l))/\w=w':=by
 cases l with
 | nil =>
  go_enter func85,ntmps85;go_wp2;go_ret;exact ⟨rfl,rfl⟩
 | cons c t =>
  have hx:(((⟨(c::t).toArray⟩:ByteArray).extract 0 1).toList == [36])=(c == 36):=by rw [zK1];simp
  have hsz:(⟨(c::t).toArray⟩:ByteArray).size=t.length+1:=rfl;have h1:(1:Int)<=((⟨(c::t).toArray⟩:ByteArray).size:Int):=by omega
  unfold dol;simp only;generalize (⟨(c::t).toArray⟩:ByteArray)=s at *;cases hq:(c == 36) with
  | true =>
   rw [hq] at hx;go_enter func85,ntmps85;go_wp2;go_ret;exact ⟨rfl,rfl⟩
  | false =>
   rw [hq] at hx;go_enter func85,ntmps85;go_wp2;go_ret;exact ⟨rfl,rfl⟩
theorem zMa (c:UInt8) (t:List UInt8):(⟨(c::t).toArray⟩:ByteArray).extract 1 (t.length+1)=⟨t.toArray⟩:=by
 apply ByteArray.ext
 simp [ByteArray.data_extract]
theorem zIo (l:List UInt8) (w:World) (hl:l.length<=1048576):Calls prog 221 #[.string ⟨l.toArray⟩,.string ⟨#[36]⟩] w λe w'=>e=.returned (.string ⟨(if dol l then l.drop 1 else l).toArray⟩)/\w=w':=by
 cases l with
 | nil =>
  go_enter func221,ntmps221;go_wp2;go_ret;exact ⟨rfl,rfl⟩
 | cons c t =>
  have hx:(((⟨(c::t).toArray⟩:ByteArray).extract 0 1).toList == [36])=(c == 36):=by rw [zK1];simp
  have hsz:(⟨(c::t).toArray⟩:ByteArray).size=t.length+1:=rfl;have hr:=zMa c t;have h1:(1:Int)<=((⟨(c::t).toArray⟩:ByteArray).size:Int):=by omega
  have hd:dol (c::t)=(c == 36):=rfl;rw [hd];have HR:Hid (ByteArray.extract ⟨(c::t).toArray⟩ 1 (t.length+1)=⟨t.toArray⟩):=hr;clear hr hd;obtain ⟨s,hs⟩:∃ s,(⟨(c::t).toArray⟩:ByteArray)=s:=⟨_,rfl⟩
  rw [hs] at hx hsz h1 HR;cases hq:(c == 36) with
  | true =>
   rw [hq] at hx;rw [if_pos rfl];simp only [List.drop_succ_cons,List.drop_zero];rw [hs,<-HR.out];clear hs;go_enter func221,ntmps221;go_wp2;go_ret;exact ⟨rfl,rfl⟩
  | false =>
   rw [hq] at hx;rw [if_neg (by decide),hs];clear hs HR;go_enter func221,ntmps221;go_wp2;go_ret;exact ⟨rfl,rfl⟩
theorem zHy (s:ByteArray) (w:World) :
  Calls prog 173 #[.string s,.int .u8 36] w λe w'=>e=.returned (.int .i64 (Lib.indexByte s.data.toList 36))/\w=w' :=
 (Any.stringslite_IndexByte zFD s 36 w).mono λe w' ⟨he,hw⟩=>⟨he,hw.symm⟩
theorem zGo (l:List UInt8) (w:World) :
  Calls prog 157 #[.string ⟨l.toArray⟩,.string ⟨#[36]⟩] w λe w'=>e=.returned (.int .i64 (Lib.indexByte l 36))/\w=w':=by
 have I:=λw=>zHy ⟨l.toArray⟩ w
 rw [show (⟨l.toArray⟩:ByteArray).data.toList=l from rfl] at I;have e0:((((⟨#[36]⟩:ByteArray)[0]).toNat:Nat):Int)=36:=rfl;cases h:([36] == l) with
 | true =>
  obtain rfl:[36]=l:=by simpa using h
  have E:Hid (Lib.indexByte [36] 36=0):=(rfl:Lib.indexByte [36] 36=0)
  go_enter func157,ntmps157;go_wp2;go_ret;exact ⟨by rw [E.out];rfl,rfl⟩
 | false =>
  go_enter func157,ntmps157;go_wp2_with fail
  refine (I _).mono ?_;rintro e w1 ⟨rfl,rfl⟩;go_wp2;go_ret;exact ⟨rfl,rfl⟩
theorem zJY (l:List UInt8):decide (0<=Lib.indexByte l 36)=l.any (λc=>c == 36):=by
 induction l with
 | nil=>rfl
 | cons b t ih =>
  have hg:=Lib.indexByte_ge t 36;rw [List.any_cons,<-ih];have e:Lib.indexByte (b::t) 36=if b == 36 then 0 else if Lib.indexByte t 36 == -1 then -1 else Lib.indexByte t 36+1:=rfl
  rw [e];clear e;by_cases h:b=36
  ·subst h;simp
  ·rw [if_neg (by simpa using h)];have h':(b == 36)=false:=by simp [h]
   rw [h',Bool.false_or];by_cases h2:Lib.indexByte t 36 = -1
   ·rw [h2];rfl
   ·rw [if_neg (by simpa using h2),decide_eq_true (by omega),decide_eq_true (by omega)]
theorem zKB (l:List UInt8) (w:World):Calls prog 220 #[.string ⟨l.toArray⟩,.string ⟨#[36]⟩] w λe w'=>e=.returned (.bool (l.any (λc=>c == 36)))/\w=w':=by
 have I:=λw=>zGo l w
 have J:∀ w:World,Calls prog 138 #[.string ⟨l.toArray⟩,.string ⟨#[36]⟩] w λe w'=>e=.returned (.int .i64 (Lib.indexByte l 36))/\w=w':=by
  intro w;go_enter func138,ntmps138;go_wp2_with fail
  refine (I _).mono ?_;rintro e w1 ⟨rfl,rfl⟩;go_wp2;go_ret;exact ⟨rfl,rfl⟩
 have E:Hid (decide (0<=Lib.indexByte l 36)=l.any (λc=>c == 36)):=zJY l;rw [<-E.out];clear I E;generalize Lib.indexByte l 36=n at *;go_enter func220,ntmps220;go_wp2_with fail
 refine (J _).mono ?_;rintro e w1 ⟨rfl,rfl⟩;go_wp2;go_ret;exact ⟨rfl,rfl⟩
def zIQ (l:List UInt8):Wt.Rf:=⟨⟨#[]⟩,Wpl.rdR (zBx l),Wpl.rdC (zBx l),(if dol l then l.drop 1 else l).any (λc=>c == 36),dol l⟩
def rw1 (l:List UInt8):Option Wt.Rf:=if Wpl.rdOk (zBx l)=true then (if cw (zIQ l)=l then some (zIQ l) else none) else none
def RwV (r:Option Wt.Rf):Value:=match r with
 | some a=>.tuple #[rfV a,.bool true]
 | none=>.tuple #[rfV Wt.r0,.bool false]
theorem zNc {l:List UInt8} (h:Wpl.rdOk l=true):0<=Wpl.rdR l/\Wpl.rdR l<65536:=by
 unfold Wpl.rdR;rw [if_pos h];have:=of_decide_eq_true h;omega
theorem zFq (l:List UInt8) (w:World) (hm:MaxAt w) (htab:Lib.TabIs prog w "internal/strconv.uint64pow10" .u64 Lib.pow10Tab) (hl:l.length<=1024) :
  CR 212 #[.string ⟨l.toArray⟩] w (RwV (rw1 l)):=by
 have TB:=Lib.tabBelow_of_tabIs htab;clear htab;have Z:=AtL.new0 w 28 [.string ⟨#[]⟩,.int .i64 0,.int .i64 0,.bool false,.bool false];have hB0:=zAI (Below.refl _ w) (.cells zR0 28);have C1:=zJZ ⟨l.toArray⟩ _ (hm.below hB0) (by show l.length<=_;omega);have hu:(zBx l).length<=l.length:=List.length_filter_le _ _;have C2:=λw=>zGE (zBx l) w (by omega)
 have C3:=λw=>zLF l w (by omega)
 have C4:=λw=>zIo l w (by omega)
 have C5:=λw=>zKB (if dol l then l.drop 1 else l) w
 have bd:=@zNc (zBx l);have C6:=λw h0 h1 h=>zDD (zIQ l) w h0 h1 h
 have e1:(⟨l.toArray⟩:ByteArray).data.toList=l:=rfl;rw [e1] at C1;unfold rw1;obtain ⟨W,hW⟩:∃ W,cw (zIQ l)=W:=⟨_,rfl⟩
 rw [hW] at C6 ⊢;clear hW e1;unfold zIQ at C6 ⊢;generalize zBx l=u at *;generalize (if dol l then l.drop 1 else l)=v at *;generalize dol l=d at *;generalize v.any (λc=>c == 36)=f at *;generalize Wpl.rdR u=r at *;generalize Wpl.rdC u=c at *;generalize Wpl.rdOk u=q at *;simp only [rfV,rf5] at C6;cases q
 ·rw [if_neg (by decide)];clear C6 bd;go_enter func212,ntmps212;go_wp2_with fail
  refine C1.mono ?_;rintro e w1 ⟨rfl,hb⟩;have Z1:=AtL.below hb Z;have hB1:=zAA hB0 hb;clear hb Z hB0;go_wp2_with fail
  refine (C2 _).mono ?_;rintro e w2 ⟨rfl,hb⟩;have Z2:=AtL.below hb Z1;have hB2:=zAA hB1 hb;clear hb Z1 hB1;go_wp2_with fail
  refine (C3 _).mono ?_;rintro e w3 ⟨rfl,rfl⟩;go_wp2_with fail
  refine (C4 _).mono ?_;rintro e w3 ⟨rfl,rfl⟩;go_wp2_with fail
  refine (C5 _).mono ?_;rintro e w3 ⟨rfl,rfl⟩;obtain ⟨a0,a1,a2,a3,a4,g0,g1,g2,g3,g4⟩:=Z2.five;have hlt:=Z2.lt;have hne:¬ w.heap.size=w2.heap.size:=by omega
  have hne2:¬ w2.heap.size=w.heap.size:=by omega
  go_wp2;refine bodyPost_ret (v:=.tuple #[rfV Wt.r0,.bool false]) (by simp [results,results212,go_sem,rfV,rf5,Wt.r0,a0,a1,a2,a3,a4,hlt]) rfl ⟨rfl,?_⟩;exact (clB hB2)
 ·obtain ⟨b0,b1⟩:=bd rfl;rw [if_pos rfl];replace C6:=λw h=>C6 w b0 b1 h
  by_cases hw:W=l
  ·rw [if_pos hw];subst hw;go_enter func212,ntmps212;go_wp2_with fail
   refine C1.mono ?_;rintro e w1 ⟨rfl,hb⟩;have Z1:=AtL.below hb Z;have hB1:=zAA hB0 hb;clear hb Z hB0;go_wp2_with fail
   refine (C2 _).mono ?_;rintro e w2 ⟨rfl,hb⟩;have Z2:=AtL.below hb Z1;have hB2:=zAA hB1 hb;clear hb Z1 hB1;go_wp2_with fail
   refine (C3 _).mono ?_;rintro e w3 ⟨rfl,rfl⟩;go_wp2_with fail
   refine (C4 _).mono ?_;rintro e w3 ⟨rfl,rfl⟩;go_wp2_with fail
   refine (C5 _).mono ?_;rintro e w3 ⟨rfl,rfl⟩;have hB3:=zAI hB2 (.cells #[.string ⟨#[]⟩,.int .i64 r,.int .i64 c,.bool f,.bool d] 28);have hT:=(TB.on hB3).here;have Z3:=AtL.alloc Z2 (.cells #[.string ⟨#[]⟩,.int .i64 r,.int .i64 c,.bool f,.bool d] 28);have Y3:=AtL.new0 w2 28 [.string ⟨#[]⟩,.int .i64 r,.int .i64 c,.bool f,.bool d];clear Z2 hB2 TB;go_wp2_with fail
   refine (C6 _ hT).mono ?_;rintro e w4 ⟨rfl,hb⟩;have Z4:=AtL.below hb Z3;have Y4:=AtL.below hb Y3;have hB4:=zAA hB3 hb;clear hb Z3 Y3 hB3 hT C1 C2 C3 C4 C5 C6;obtain ⟨a0,a1,a2,a3,a4,g0,g1,g2,g3,g4⟩:=Z4.five;obtain ⟨y0,y1,y2,y3,y4⟩:=Y4.f5;have hlt:=Z4.lt;go_wp2;refine bodyPost_ret (v:=.tuple #[rfV ⟨⟨#[]⟩,r,c,f,d⟩,.bool true]) (by simp [results,results212,go_sem,rfV,rf5,a0,a1,a2,a3,a4]) rfl ⟨rfl,?_⟩;exact (clB hB4)
  ·rw [if_neg hw];have hw':(W == l)=false:=by simp [hw]
   go_enter func212,ntmps212;go_wp2_with fail
   refine C1.mono ?_;rintro e w1 ⟨rfl,hb⟩;have Z1:=AtL.below hb Z;have hB1:=zAA hB0 hb;clear hb Z hB0;go_wp2_with fail
   refine (C2 _).mono ?_;rintro e w2 ⟨rfl,hb⟩;have Z2:=AtL.below hb Z1;have hB2:=zAA hB1 hb;clear hb Z1 hB1;go_wp2_with fail
   refine (C3 _).mono ?_;rintro e w3 ⟨rfl,rfl⟩;go_wp2_with fail
   refine (C4 _).mono ?_;rintro e w3 ⟨rfl,rfl⟩;go_wp2_with fail
   refine (C5 _).mono ?_;rintro e w3 ⟨rfl,rfl⟩;have hB3:=zAI hB2 (.cells #[.string ⟨#[]⟩,.int .i64 r,.int .i64 c,.bool f,.bool d] 28);have hT:=(TB.on hB3).here;have Z3:=AtL.alloc Z2 (.cells #[.string ⟨#[]⟩,.int .i64 r,.int .i64 c,.bool f,.bool d] 28);have Y3:=AtL.new0 w2 28 [.string ⟨#[]⟩,.int .i64 r,.int .i64 c,.bool f,.bool d];clear Z2 hB2 TB;go_wp2_with fail
   refine (C6 _ hT).mono ?_;rintro e w4 ⟨rfl,hb⟩;have Z4:=AtL.below hb Z3;have Y4:=AtL.below hb Y3;have hB4:=zAA hB3 hb;clear hb Z3 Y3 hB3 hT C1 C2 C3 C4 C5 C6;obtain ⟨a0,a1,a2,a3,a4,g0,g1,g2,g3,g4⟩:=Z4.five;obtain ⟨y0,y1,y2,y3,y4⟩:=Y4.f5;have hlt:=Z4.lt;go_wp2;refine bodyPost_ret (v:=.tuple #[rfV Wt.r0,.bool false]) (by simp [results,results212,go_sem,rfV,rf5,Wt.r0,a0,a1,a2,a3,a4]) rfl ⟨rfl,?_⟩;exact (clB hB4)
theorem zAF {P:Program} {fn:Func} {t:Tmp} {T:TypeId} (h:fn.results=#[.cell t T]) (tmps:Array Value) (w:World) (b:Nat) (cs:List Value) (d:TypeDesc) (ht:tmps.getD t undef=.pointer (some ⟨b,0,none⟩)) (hc:w.rangeAt b 0 cs)
  (hu:P.underlying T=some d) (hd:d.isRow=true) (hi:(P.info? T).map (·.size)=some cs.length):(results fn tmps).run P w=.ok (.agg cs.toArray) w:=by
 have hl:=run_loadVar_mid (P:=P) w b 0 T cs d hc hu hd hi;have ht':tmps[t]?.getD undef=.pointer (some ⟨b,0,none⟩):=by rw [<-ht];simp
 simp only [results,h];simp [ht',hl,asAddr]
def Env (w:World):Prop:=OpsAt w/\FltAt w/\MaxAt w/\Lib.TabIs prog w "internal/strconv.uint64pow10" .u64 Lib.pow10Tab
theorem Env.below (h:Env w) (hb:Below w.heap.size w w'):Env w':=⟨h.1.below hb,h.2.1.below hb,h.2.2.1.below hb,(Lib.tabBelow_of_tabIs h.2.2.2).on hb |>.here⟩
theorem Env.grown (h:Env w) (hg:w.grownBy w' (some kp)) (hk:8<=kp):Env w':=by
 obtain ⟨h1,h2,⟨m,h3⟩,h4⟩:=h;have hn:∀ g,g<8->some g ≠ some kp:=λg hg e=>by have:=Option.some.inj e;omega
 refine ⟨λj v hv=>hg.cell (h1 j v hv) (hn 0 (by decide)),λj v hv=>hg.cell (h2 j v hv) (hn 1 (by decide)),⟨m,hg.cell h3 (hn _ (by decide))⟩,?_⟩;have e:prog.globalNamed "internal/strconv.uint64pow10" = some 5:=by kernel_rfl
 unfold Lib.TabIs World.var? at h4 ⊢;rw [e] at h4 ⊢;simp only [Option.bind_some] at h4 ⊢;have hlt:5<w.heap.size:=by
  rcases Nat.lt_or_ge 5 w.heap.size with h | h
  ·exact h
  ·rw [Array.getElem?_eq_none h] at h4;cases h4
 rw [hg.block _ hlt (hn _ (by decide))];exact h4
def zAH (x:Wt.Nd) (sl:Value):List Value:=zAD x++[sl]
def ptV (x:Wt.Nd) (sl:Value):Value:=.agg (zAH x sl).toArray
def PtIs (w:World) (G:Nat->Prop):Nat->Wt.Nd->Value->List Wt.Nd->Prop
 | 0,_,_,_=>False
 | n+1,x,sl,row=>∃ (av:Option Addr) (cap:Nat) (ps:List (Wt.Nd × Value)) (rows:List (List Wt.Nd)),sl=.slice av ps.length cap/\rows.length=ps.length/\row=x::rows.flatten /\
   ∀ i (h:i<ps.length) (h':i<rows.length),∃ bb,av=some ⟨bb,0,none⟩/\G bb/\w.rangeAt bb (i * 21) (zAH (ps[i]).1 (ps[i]).2)/\PtIs w G n (ps[i]).1 (ps[i]).2 (rows[i])
theorem zDx {bb o:Nat} (h:w.rangeAt bb o (zAH x sl)):bb<w.heap.size:=World.block_lt_of_cell? _ _ (h 0 _ rfl)
theorem PtIs.keep {w w':World} {G:Nat->Prop} (hk:∀ k,G k->k<w.heap.size->w'.heap[k]? = w.heap[k]?):∀ (n:Nat) {x:Wt.Nd} {sl:Value} {row:List Wt.Nd},PtIs w G n x sl row->PtIs w' G n x sl row
 | 0,_,_,_,h=>h
 | n+1,x,sl,row,⟨av,cap,ps,rows,e,hl,hr,hp⟩=>⟨av,cap,ps,rows,e,hl,hr,λi h h'=>by
   obtain ⟨bb,e1,e2,e3,e4⟩:=hp i h h';exact ⟨bb,e1,e2,λj v hv=>(World.cell?_of_block (a:=⟨bb,i * 21+j,none⟩) (hk bb e2 (zDx e3))).trans (e3 j v hv),PtIs.keep hk n e4⟩⟩
theorem PtIs.mono {w:World} {G G':Nat->Prop} (hlo:∀ b,G b->G' b):∀ (n:Nat) {x:Wt.Nd} {sl:Value} {row:List Wt.Nd},PtIs w G n x sl row->PtIs w G' n x sl row
 | 0,_,_,_,h=>h
 | n+1,x,sl,row,⟨av,cap,ps,rows,e,hl,hr,hp⟩=>⟨av,cap,ps,rows,e,hl,hr,λi h h'=>by
   obtain ⟨bb,e1,e2,e3,e4⟩:=hp i h h';exact ⟨bb,e1,hlo _ e2,e3,PtIs.mono hlo n e4⟩⟩
theorem PtIs.leaf (w:World) (G:Nat->Prop) (x:Wt.Nd):PtIs w G 1 x (.slice none 0 0) [x]:=⟨none,0,[],[],rfl,rfl,rfl,λi h=>absurd h (Nat.not_lt_zero _)⟩
theorem PtIs.more {w:World} {G:Nat->Prop}:∀ {n:Nat} {x:Wt.Nd} {sl:Value} {row:List Wt.Nd},PtIs w G n x sl row->PtIs w G (n+1) x sl row
 | 0,_,_,_,h=>h.elim
 | n+1,x,sl,row,⟨av,cap,ps,rows,e,hl,hr,hp⟩=>⟨av,cap,ps,rows,e,hl,hr,λi h h'=>by
   obtain ⟨bb,e1,e2,e3,e4⟩:=hp i h h';exact ⟨bb,e1,e2,e3,PtIs.more e4⟩⟩
theorem PtIs.upto {m:Nat} (h:PtIs w G n x sl row) (hm:n<=m):PtIs w G m x sl row:=by
 induction m with
 | zero =>
   obtain rfl:n=0:=by omega
   exact h
 | succ m ih =>
  rcases Nat.lt_or_ge n (m+1) with h1 | h1
  ·exact (ih (by omega)).more
  ·obtain rfl:n=m+1:=by omega
   exact h
theorem PtIs.one (h:PtIs w G n x sl row):∃ av len cap,sl=.slice av len cap:=by
 cases n with
 | zero=>exact h.elim
 | succ n=>obtain ⟨av,cap,ps,rows,e,_⟩:=h;exact ⟨av,ps.length,cap,e⟩
def Pt (w:World) (lo:Nat) (v:Value) (row:List Wt.Nd):Prop:=∃ n x sl,v=ptV x sl/\PtIs w (λb=>lo<=b) n x sl row
theorem Pt.grown (h:Pt w lo v row) (hg:w.grownBy w' (some kp)) (hk:kp<lo):Pt w' lo v row:=by
 obtain ⟨n,x,sl,e,h⟩:=h;exact ⟨n,x,sl,e,PtIs.keep (λk h1 h2=>hg.block k h2 (λe=>by have:=Option.some.inj e;omega)) n h⟩
theorem Pt.below (h:Pt w lo v row) (hb:Below w.heap.size w w'):Pt w' lo v row:=by
 obtain ⟨n,x,sl,e,h⟩:=h;exact ⟨n,x,sl,e,PtIs.keep (λk h1 h2=>hb.block k h2) n h⟩
theorem zAh (b k:Nat) (hk:k ≠ b):∀ (vs:List Value) (o:Nat) (w:World),(w.setCells b o vs).heap[k]? = w.heap[k]?
 | [],_,_=>rfl
 | v::r,o,w=>by rw [World.setCells,zAh b k hk r];exact Below.heap_setCell _ _ _ _ hk
theorem Pt.far {b:Nat} (h:Pt w lo v row) (hb:b<lo) (o:Nat) (vs:List Value):Pt (w.setCells b o vs) lo v row:=by
 obtain ⟨n,x,sl,e,h⟩:=h;exact ⟨n,x,sl,e,PtIs.keep (λk h1 h2=>zAh b k (by omega) vs o w) n h⟩
theorem Pt.mono {lo':Nat} (h:Pt w lo v row) (hl:lo'<=lo):Pt w lo' v row:=by
 obtain ⟨n,x,sl,e,h⟩:=h;exact ⟨n,x,sl,e,PtIs.mono (λb hb=>Nat.le_trans hl hb) n h⟩
