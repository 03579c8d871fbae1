/- NWalkE, NWalkK, TWordB, TWordC, TPart, TPartB, TPartC. -/
import Derived.Test.YtedifblompcdkaaGreatDoorQ29
import Derived.Shelf.Strings.Search1
set_option maxHeartbeats 4000000
set_option maxRecDepth 100000
namespace Go.Proofs.YtedifblompcdkaaGreatDoor
open Tryz
open Go.RowKit
set_option linter.unusedVariables false
variable {w w':World} {lo n:Nat} {v sl:Value} {x:Wt.Nd} {G:Nat->Prop}
theorem zEU (c:UInt8) (t:List UInt8):ByteArray.extract ⟨(c::t).toArray⟩ 1 (t.length+1)=⟨t.toArray⟩:=by
 apply ByteArray.ext
 simp [ByteArray.data_extract]
theorem zJn (c:UInt8):(0:Int)<=(c.toNat:Int)/\(c.toNat:Int)<=255:=by have:=c.toNat_lt;omega
theorem zGO (s:List UInt8) (w:World) (hs:s.length<=9223372036854775807):Calls prog 260 #[.string ⟨s.toArray⟩] w λe w'=>e=.returned (.tuple #[.int .i64 ((Wpl.rc 0 s).1:Nat),.string ⟨(Wpl.rc 0 s).2.toArray⟩])/\w=w':=by
 go_enter func260,ntmps260;go_wp2;go_loopw [0,2] (λx y wr=>∃ (l:List UInt8) (k:Nat),x=.string ⟨l.toArray⟩/\y=.int .i64 k/\k<=6682/\l.length<=9223372036854775807/\Hid (Wpl.rc 0 s=Wpl.rc k l)/\wr=w) (λx _ _=>match x with | .string b=>b.size | _=>0)
 case atStart=>exact ⟨s,0,rfl,rfl,by omega,hs,(rfl:Wpl.rc 0 s=Wpl.rc 0 s),rfl⟩
 case round =>
  obtain ⟨l,k,rfl,rfl,hk,hl,HR,rfl⟩:=hrel;cases l with
  | nil =>
   have E:Hid (Wpl.rc 0 s=(k,[])):=HR.out;go_wp2;go_ret2
   exact ⟨by rw [E.out];rfl,rfl⟩
  | cons c t =>
   obtain ⟨b0,b1⟩:=zJn c;simp only [List.length_cons] at hl;by_cases h1:65<=(c.toNat:Int)
   ·by_cases h2:(c.toNat:Int)<=90
    ·by_cases h3:(k:Int)<=256
     ·have E:Hid (Wpl.rc 0 s=Wpl.rc (k * 26+(c.toNat - 65)+1) t):=by
       show _=_;rw [HR.out]
       conv=>lhs;unfold Wpl.rc
       rw [if_pos ⟨by simp [Wpl.isL];omega,by omega⟩]
      clear HR;go_wp2_with fail
      go_roundw
      case rel=>exact ⟨t,k * 26+(c.toNat - 65)+1,congrArg Value.string (zEU c t),congrArg (Value.int IntKind.i64) (by show (k:Int) * 26+((c.toNat:Nat) - 65)+1=_;omega),by omega,by omega,E,trivial⟩
      case measure=>rw [zEU];simp [ByteArray.size]
     ·have E:Hid (Wpl.rc 0 s=(k,c::t)):=by
       show _=_;rw [HR.out]
       conv=>lhs;unfold Wpl.rc
       rw [if_neg (by omega)]
      clear HR;go_wp2;go_ret2
      exact ⟨by rw [E.out];rfl,rfl⟩
    ·have E:Hid (Wpl.rc 0 s=(k,c::t)):=by
      show _=_;rw [HR.out]
      conv=>lhs;unfold Wpl.rc
      rw [if_neg (by simp [Wpl.isL];omega)]
     clear HR;go_wp2;go_ret2
     exact ⟨by rw [E.out];rfl,rfl⟩
   ·have E:Hid (Wpl.rc 0 s=(k,c::t)):=by
     show _=_;rw [HR.out]
     conv=>lhs;unfold Wpl.rc
     rw [if_neg (by simp [Wpl.isL];omega)]
    clear HR;go_wp2;go_ret2
    exact ⟨by rw [E.out];rfl,rfl⟩
theorem zOE (c:UInt8) (t:List UInt8):((ByteArray.extract ⟨(c::t).toArray⟩ 0 1).toList == [48])=decide (c=48):=by
 have e:ByteArray.extract ⟨(c::t).toArray⟩ 0 1=⟨#[c]⟩:=by
  apply ByteArray.ext
  simp [ByteArray.data_extract]
 rw [e];have e2:(⟨#[c]⟩:ByteArray).toList=[c]:=by
  simp [ByteArray.toList,ByteArray.toList.loop,ByteArray.size,ByteArray.get!]
 rw [e2];by_cases h:c=48
 ·subst h;rfl
 ·rw [decide_eq_false h];simp [h]
theorem zEm (c:UInt8) (t:List UInt8) (w:World) (hs:t.length+1<=9223372036854775807):Calls prog 36 #[.string ⟨(c::t).toArray⟩,.string ⟨#[48]⟩] w λe w'=>e=.returned (.bool (decide (c=48)))/\w=w':=by
 have hp:=zOE c t;have hl1:(1:Int)<=(t.length:Int)+1:=by omega
 have E:Hid (decide (c=48)=((ByteArray.extract ⟨(c::t).toArray⟩ 0 1).toList == [48])):=hp.symm;generalize decide (c=48)=b at *;go_enter func36,ntmps36;go_wp2;go_ret;exact ⟨rfl,rfl⟩
theorem zFh (w:World):Calls prog 36 #[.string ⟨#[]⟩,.string ⟨#[48]⟩] w λe w'=>e=.returned (.bool false)/\w=w':=by
 go_enter func36,ntmps36;go_wp2;go_ret;exact ⟨rfl,rfl⟩
theorem zGM (s:List UInt8) (w:World) (hs:s.length<=9223372036854775807):Calls prog 261 #[.string ⟨s.toArray⟩] w λe w'=>e=.returned (.tuple #[.int .i64 ((Wpl.rr s).1:Nat),.string ⟨(Wpl.rr s).2.toArray⟩])/\w=w':=by
 cases s with
 | nil =>
  have E:Hid (Wpl.rr []=(0,[])):=(rfl:Wpl.rr []=(0,[]))
  go_enter func261,ntmps261;go_wp2_with fail
  refine (zFh _).mono ?_;rintro e w1 ⟨rfl,rfl⟩;go_wp2;go_loopw [0,2] (λx y wr=>x=.string ⟨#[]⟩/\y=.int .i64 0/\wr=w) (λx _ _=>0)
  case atStart=>exact ⟨rfl,rfl,rfl⟩
  case round =>
   obtain ⟨rfl,rfl,rfl⟩:=hrel;go_wp2;go_ret2
   exact ⟨by rw [E.out];rfl,rfl⟩
 | cons c0 t0 =>
  have hl0:t0.length+1<=9223372036854775807:=by simpa using hs
  have HP:=λw=>zEm c0 t0 w hl0
  by_cases h0:c0=48
  ·have E:Hid (Wpl.rr (c0::t0)=(0,c0::t0)):=by show _=_;unfold Wpl.rr;rw [if_pos (by rw [h0];rfl)]
   rw [decide_eq_true h0] at HP;clear h0;go_enter func261,ntmps261;go_wp2_with fail
   refine (HP _).mono ?_;rintro e w1 ⟨rfl,rfl⟩;go_wp2;go_ret2
   exact ⟨by rw [E.out];rfl,rfl⟩
  ·have E0:Hid (Wpl.rr (c0::t0)=Wpl.rd 0 (c0::t0)):=by show _=_;unfold Wpl.rr;rw [if_neg (by simpa using h0)]
   rw [decide_eq_false h0] at HP;clear h0;go_enter func261,ntmps261;go_wp2_with fail
   refine (HP _).mono ?_;rintro e w1 ⟨rfl,rfl⟩;go_wp2;go_loopw [0,2] (λx y wr=>∃ (l:List UInt8) (k:Nat),x=.string ⟨l.toArray⟩/\y=.int .i64 k/\k<=655369/\l.length<=9223372036854775807/\Hid (Wpl.rr (c0::t0)=Wpl.rd k l)/\wr=w) (λx _ _=>match x with | .string b=>b.size | _=>0)
   case atStart=>exact ⟨c0::t0,0,rfl,rfl,by omega,hs,E0,rfl⟩
   case round =>
    obtain ⟨l,k,rfl,rfl,hk,hl,HR,rfl⟩:=hrel;clear hs;cases l with
    | nil =>
     have E:Hid (Wpl.rr (c0::t0)=(k,[])):=HR.out;go_wp2;go_ret2
     exact ⟨by rw [E.out];rfl,rfl⟩
    | cons c t =>
     obtain ⟨b0,b1⟩:=zJn c;simp only [List.length_cons] at hl;by_cases h1:48<=(c.toNat:Int)
     ·by_cases h2:(c.toNat:Int)<=57
      ·by_cases h3:(k:Int)<=65536
       ·have E:Hid (Wpl.rr (c0::t0)=Wpl.rd (k * 10+(c.toNat - 48)) t):=by
         show _=_;rw [HR.out]
         conv=>lhs;unfold Wpl.rd
         rw [if_pos ⟨by simp [Wpl.isG];omega,by omega⟩]
        clear HR;go_wp2_with fail
        go_roundw
        case rel=>exact ⟨t,k * 10+(c.toNat - 48),congrArg Value.string (zEU c t),congrArg (Value.int IntKind.i64) (by show (k:Int) * 10+((c.toNat:Nat) - 48)=_;omega),by omega,by omega,E,trivial⟩
        case measure=>rw [zEU];simp [ByteArray.size]
       ·have E:Hid (Wpl.rr (c0::t0)=(k,c::t)):=by
         show _=_;rw [HR.out]
         conv=>lhs;unfold Wpl.rd
         rw [if_neg (by omega)]
        clear HR;go_wp2;go_ret2
        exact ⟨by rw [E.out];rfl,rfl⟩
      ·have E:Hid (Wpl.rr (c0::t0)=(k,c::t)):=by
        show _=_;rw [HR.out]
        conv=>lhs;unfold Wpl.rd
        rw [if_neg (by simp [Wpl.isG];omega)]
       clear HR;go_wp2;go_ret2
       exact ⟨by rw [E.out];rfl,rfl⟩
     ·have E:Hid (Wpl.rr (c0::t0)=(k,c::t)):=by
       show _=_;rw [HR.out]
       conv=>lhs;unfold Wpl.rd
       rw [if_neg (by simp [Wpl.isG];omega)]
      clear HR;go_wp2;go_ret2
      exact ⟨by rw [E.out];rfl,rfl⟩
theorem zGK (s:List UInt8) (w:World) (hs:s.length<=9223372036854775807) :
  CR 256 #[.string ⟨s.toArray⟩] w (.tuple #[.int .i64 (Wpl.rdR s),.int .i64 (Wpl.rdC s),.bool (Wpl.rdOk s)]):=by
 have C1:=λw=>zGO s w hs
 have l1:=Wpl.rc_len 0 s;have C2:=λw=>zGM (Wpl.rc 0 s).2 w (by omega)
 have bc:=Wpl.rc_bd 0 s (by omega);have br:=Wpl.rr_bd (Wpl.rc 0 s).2;have EO:Hid (Wpl.rdOk s=decide ((Wpl.rr (Wpl.rc 0 s).2).2=[]/\1<=(Wpl.rr (Wpl.rc 0 s).2).1/\(Wpl.rr (Wpl.rc 0 s).2).1<=65536/\1<=(Wpl.rc 0 s).1/\(Wpl.rc 0 s).1<=256)):=(rfl:Wpl.rdOk s=_)
 have ER:Hid (Wpl.rdR s=if Wpl.rdOk s then ((Wpl.rr (Wpl.rc 0 s).2).1:Int) - 1 else 0):=(rfl:Wpl.rdR s=_)
 have EC:Hid (Wpl.rdC s=if Wpl.rdOk s then ((Wpl.rc 0 s).1:Int) - 1 else 0):=(rfl:Wpl.rdC s=_)
 generalize Wpl.rdOk s=ok at *;generalize Wpl.rdR s=R at *;generalize Wpl.rdC s=C at *;generalize Wpl.rr (Wpl.rc 0 s).2=q at *;generalize Wpl.rc 0 s=p at *;obtain ⟨k,d⟩:=p;obtain ⟨m,r⟩:=q;simp only at *;have RR:=λw=>zAr 0 ((m:Int) - 1) ((k:Int) - 1) w
 have hr:Hid (Wpl.rightC 0 ((m:Int) - 1) ((k:Int) - 1)=decide (1<=m/\m<=65536/\1<=k/\k<=256)):=by
  show _=_
  rw [Bool.eq_iff_iff,Wpl.rightC_iff];simp;omega
 rw [hr.out] at RR;clear hr l1;go_enter func256,ntmps256;go_wp2_with fail
 refine (C1 _).mono ?_;rintro e w1 ⟨rfl,rfl⟩;go_wp2_with fail
 refine (C2 _).mono ?_;rintro e w2 ⟨rfl,rfl⟩;cases r with
 | cons x t =>
  have E:Hid (ok=false):=by show _=_;rw [EO.out];simp
  go_wp2;go_ret3
  exact ⟨by rw [E.out,ER.out,EC.out,E.out];rfl,clA⟩
 | nil =>
  by_cases hk:1<=m/\m<=65536/\1<=k/\k<=256
  ·have E:Hid (ok=true):=by show _=_;rw [EO.out];simp;omega
   rw [decide_eq_true hk] at RR;go_wp2_with fail
   refine (RR _).mono ?_;rintro e w3 ⟨rfl,hb3⟩;have pC:AtL w3 w.heap.size [.int .i64 0,.int .i64 ((m:Int) - 1),.int .i64 ((k:Int) - 1)]:=AtL.below hb3 (AtL.new0 w 24 _);have hB3:Below w.heap.size w w3:=clA
   clear hb3;obtain ⟨c0,c1,c2⟩:=pC.f3;go_wp2_with fail
   go_region
   all_goals
    go_wp2;go_ret3
    exact ⟨by rw [E.out,ER.out,EC.out,E.out];rfl,clA⟩
  ·have E:Hid (ok=false):=by show _=_;rw [EO.out];simp;omega
   rw [decide_eq_false hk] at RR;go_wp2_with fail
   refine (RR _).mono ?_;rintro e w3 ⟨rfl,hb3⟩;go_wp2;go_ret3
   exact ⟨by rw [E.out,ER.out,EC.out,E.out];rfl,clA⟩
open Go.RowKit Go.Shelf
def zCW:Go.Shelf.Ren:=⟨fun | 217=>237 | 266=>244 | n=>n,fun | 9=>9 | 5=>5 | 3=>3 | n=>n,fun | n=>n⟩
theorem zEF:Go.Proofs.Lays.n217 prog zCW:={
 mixed:=by kernel_rfl
 f217:=func237.trans (congrArg some (by kernel_rfl))
 f266:=func244.trans (congrArg some (by kernel_rfl))
 t3:=underlying3
 a3:=Tryz.isAgg3
 z3:=Tryz.sizeOf3
 v3:=Tryz.zeroValue3
 t5:=underlying5
 a5:=Tryz.isAgg5
 z5:=Tryz.sizeOf5
 v5:=Tryz.zeroValue5
 t9:=underlying9
 a9:=Tryz.isAgg9
 z9:=Tryz.sizeOf9
 v9:=Tryz.zeroValue9}
def zC9 (l:List UInt8):List UInt8:=l.filter (λc=>!(c == 36))
theorem zIS (l:List UInt8):rep [36] [] l=zC9 l:=by
 induction l with
 | nil=>exact zES (by decide)
 | cons c t ih =>
  by_cases h:c=36
  ·subst h;rw [zJH (by decide) (by simp [List.isPrefixOf])];show rep [36] [] t=_
   rw [ih];rfl
  ·rw [zEQ (by decide) (by simp [List.isPrefixOf];exact λe=>h e.symm),ih];unfold zC9;rw [List.filter_cons_of_pos (by simp [h])]
theorem zIt (b:ByteArray) (w:World) (hm:MaxAt w) (hs:b.size<=1048576):CR 154 #[.string b,.string ⟨#[36]⟩,.string ⟨#[]⟩] w (.string ⟨(zC9 b.data.toList).toArray⟩):=by
 obtain ⟨m,hm⟩:=hm;have c:=zBy b ⟨#[36]⟩ (by decide);have h:=Any.strings_ReplaceAll {lays155 with} zGu b ⟨#[36]⟩ ⟨#[]⟩ m w (by omega) hm (by decide) (by show b.size+_ * 0<=_;omega);rw [zKF (by decide),zIS] at h;exact h
def dol (l:List UInt8):Bool:=match l with
 | c::_=>c == 36
 | []=>false
theorem zIT (c:UInt8) (t:List UInt8):((⟨(c::t).toArray⟩:ByteArray).extract 0 1).toList=[c]:=by rw [ByteArray.toList_eq];simp
theorem zM9 (l:List UInt8) (w:World) (hl:l.length<=1048576):Calls prog 36 #[.string ⟨l.toArray⟩,.string ⟨#[36]⟩] w λe w'=>e=.returned (.bool (dol l))/\w=w':=by
 cases l with
 | nil =>
  go_enter func36,ntmps36;go_wp2;go_ret;exact ⟨rfl,rfl⟩
 | cons c t =>
  have hx:(((⟨(c::t).toArray⟩:ByteArray).extract 0 1).toList == [36])=(c == 36):=by rw [zIT];simp
  have hsz:(⟨(c::t).toArray⟩:ByteArray).size=t.length+1:=rfl;have h1:(1:Int)<=((⟨(c::t).toArray⟩:ByteArray).size:Int):=by omega
  unfold dol;simp only;generalize (⟨(c::t).toArray⟩:ByteArray)=s at *;cases hq:(c == 36) with
  | true =>
   rw [hq] at hx;go_enter func36,ntmps36;go_wp2;go_ret;exact ⟨rfl,rfl⟩
  | false =>
   rw [hq] at hx;go_enter func36,ntmps36;go_wp2;go_ret;exact ⟨rfl,rfl⟩
theorem zM3 (c:UInt8) (t:List UInt8):(⟨(c::t).toArray⟩:ByteArray).extract 1 (t.length+1)=⟨t.toArray⟩:=by
 apply ByteArray.ext
 simp [ByteArray.data_extract]
theorem zIv (l:List UInt8) (w:World) (hl:l.length<=1048576):Calls prog 258 #[.string ⟨l.toArray⟩,.string ⟨#[36]⟩] w λe w'=>e=.returned (.string ⟨(if dol l then l.drop 1 else l).toArray⟩)/\w=w':=by
 cases l with
 | nil =>
  go_enter func258,ntmps258;go_wp2;go_ret;exact ⟨rfl,rfl⟩
 | cons c t =>
  have hx:(((⟨(c::t).toArray⟩:ByteArray).extract 0 1).toList == [36])=(c == 36):=by rw [zIT];simp
  have hsz:(⟨(c::t).toArray⟩:ByteArray).size=t.length+1:=rfl;have hr:=zM3 c t;have h1:(1:Int)<=((⟨(c::t).toArray⟩:ByteArray).size:Int):=by omega
  have hd:dol (c::t)=(c == 36):=rfl;rw [hd];have HR:Hid (ByteArray.extract ⟨(c::t).toArray⟩ 1 (t.length+1)=⟨t.toArray⟩):=hr;clear hr hd;obtain ⟨s,hs⟩:∃ s,(⟨(c::t).toArray⟩:ByteArray)=s:=⟨_,rfl⟩
  rw [hs] at hx hsz h1 HR;cases hq:(c == 36) with
  | true =>
   rw [hq] at hx;rw [if_pos rfl];simp only [List.drop_succ_cons,List.drop_zero];rw [hs,<-HR.out];clear hs;go_enter func258,ntmps258;go_wp2;go_ret;exact ⟨rfl,rfl⟩
  | false =>
   rw [hq] at hx;rw [if_neg (by decide),hs];clear hs HR;go_enter func258,ntmps258;go_wp2;go_ret;exact ⟨rfl,rfl⟩
theorem zH8 (s:ByteArray) (w:World) :
  Calls prog 237 #[.string s,.int .u8 36] w λe w'=>e=.returned (.int .i64 (Lib.indexByte s.data.toList 36))/\w=w' :=
 (Any.stringslite_IndexByte zEF s 36 w).mono λe w' ⟨he,hw⟩=>⟨he,hw.symm⟩
theorem zGN (l:List UInt8) (w:World) :
  Calls prog 231 #[.string ⟨l.toArray⟩,.string ⟨#[36]⟩] w λe w'=>e=.returned (.int .i64 (Lib.indexByte l 36))/\w=w':=by
 have I:=λw=>zH8 ⟨l.toArray⟩ w
 rw [show (⟨l.toArray⟩:ByteArray).data.toList=l from rfl] at I;have e0:((((⟨#[36]⟩:ByteArray)[0]).toNat:Nat):Int)=36:=rfl;cases h:([36] == l) with
 | true =>
  obtain rfl:[36]=l:=by simpa using h
  have E:Hid (Lib.indexByte [36] 36=0):=(rfl:Lib.indexByte [36] 36=0)
  go_enter func231,ntmps231;go_wp2;go_ret;exact ⟨by rw [E.out];rfl,rfl⟩
 | false =>
  go_enter func231,ntmps231;go_wp2_with fail
  refine (I _).mono ?_;rintro e w1 ⟨rfl,rfl⟩;go_wp2;go_ret;exact ⟨rfl,rfl⟩
theorem zFP (l:List UInt8):decide (0<=Lib.indexByte l 36)=l.any (λc=>c == 36):=by
 induction l with
 | nil=>rfl
 | cons b t ih =>
  have hg:=Lib.indexByte_ge t 36;rw [List.any_cons,<-ih];have e:Lib.indexByte (b::t) 36=if b == 36 then 0 else if Lib.indexByte t 36 == -1 then -1 else Lib.indexByte t 36+1:=rfl
  rw [e];clear e;by_cases h:b=36
  ·subst h;simp
  ·rw [if_neg (by simpa using h)];have h':(b == 36)=false:=by simp [h]
   rw [h',Bool.false_or];by_cases h2:Lib.indexByte t 36 = -1
   ·rw [h2];rfl
   ·rw [if_neg (by simpa using h2),decide_eq_true (by omega),decide_eq_true (by omega)]
theorem zJz (l:List UInt8) (w:World):Calls prog 257 #[.string ⟨l.toArray⟩,.string ⟨#[36]⟩] w λe w'=>e=.returned (.bool (l.any (λc=>c == 36)))/\w=w':=by
 have I:=λw=>zGN l w
 have J:∀ w:World,Calls prog 194 #[.string ⟨l.toArray⟩,.string ⟨#[36]⟩] w λe w'=>e=.returned (.int .i64 (Lib.indexByte l 36))/\w=w':=by
  intro w;go_enter func194,ntmps194;go_wp2_with fail
  refine (I _).mono ?_;rintro e w1 ⟨rfl,rfl⟩;go_wp2;go_ret;exact ⟨rfl,rfl⟩
 have E:Hid (decide (0<=Lib.indexByte l 36)=l.any (λc=>c == 36)):=zFP l;rw [<-E.out];clear I E;generalize Lib.indexByte l 36=n at *;go_enter func257,ntmps257;go_wp2_with fail
 refine (J _).mono ?_;rintro e w1 ⟨rfl,rfl⟩;go_wp2;go_ret;exact ⟨rfl,rfl⟩
def zNr (l:List UInt8):Wt.Rf:=⟨⟨#[]⟩,Wpl.rdR (zC9 l),Wpl.rdC (zC9 l),(if dol l then l.drop 1 else l).any (λc=>c == 36),dol l⟩
def rw1 (l:List UInt8):Option Wt.Rf:=if Wpl.rdOk (zC9 l)=true then (if cw (zNr l)=l then some (zNr l) else none) else none
def RwV (r:Option Wt.Rf):Value:=match r with
 | some a=>.tuple #[rfV a,.bool true]
 | none=>.tuple #[rfV Wt.r0,.bool false]
theorem zOl {l:List UInt8} (h:Wpl.rdOk l=true):0<=Wpl.rdR l/\Wpl.rdR l<65536:=by
 unfold Wpl.rdR;rw [if_pos h];have:=of_decide_eq_true h;omega
theorem zEe (l:List UInt8) (w:World) (hm:MaxAt w) (htab:Lib.TabIs prog w "internal/strconv.uint64pow10" .u64 Lib.pow10Tab) (hl:l.length<=1024) :
  CR 255 #[.string ⟨l.toArray⟩] w (RwV (rw1 l)):=by
 have TB:=Lib.tabBelow_of_tabIs htab;clear htab;have Z:=AtL.new0 w 100 [.string ⟨#[]⟩,.int .i64 0,.int .i64 0,.bool false,.bool false];have hB0:=zAH (Below.refl _ w) (.cells zR0 100);have C1:=zIt ⟨l.toArray⟩ _ (hm.below hB0) (by show l.length<=_;omega);have hu:(zC9 l).length<=l.length:=List.length_filter_le _ _;have C2:=λw=>zGK (zC9 l) w (by omega)
 have C3:=λw=>zM9 l w (by omega)
 have C4:=λw=>zIv l w (by omega)
 have C5:=λw=>zJz (if dol l then l.drop 1 else l) w
 have bd:=@zOl (zC9 l);have C6:=λw h0 h1 h=>zEd (zNr l) w h0 h1 h
 have e1:(⟨l.toArray⟩:ByteArray).data.toList=l:=rfl;rw [e1] at C1;unfold rw1;obtain ⟨W,hW⟩:∃ W,cw (zNr l)=W:=⟨_,rfl⟩
 rw [hW] at C6 ⊢;clear hW e1;unfold zNr at C6 ⊢;generalize zC9 l=u at *;generalize (if dol l then l.drop 1 else l)=v at *;generalize dol l=d at *;generalize v.any (λc=>c == 36)=f at *;generalize Wpl.rdR u=r at *;generalize Wpl.rdC u=c at *;generalize Wpl.rdOk u=q at *;simp only [rfV,rf5] at C6;cases q
 ·rw [if_neg (by decide)];clear C6 bd;go_enter func255,ntmps255;go_wp2_with fail
  refine C1.mono ?_;rintro e w1 ⟨rfl,hb⟩;have Z1:=AtL.below hb Z;have hB1:=zAA hB0 hb;clear hb Z hB0;go_wp2_with fail
  refine (C2 _).mono ?_;rintro e w2 ⟨rfl,hb⟩;have Z2:=AtL.below hb Z1;have hB2:=zAA hB1 hb;clear hb Z1 hB1;go_wp2_with fail
  refine (C3 _).mono ?_;rintro e w3 ⟨rfl,rfl⟩;go_wp2_with fail
  refine (C4 _).mono ?_;rintro e w3 ⟨rfl,rfl⟩;go_wp2_with fail
  refine (C5 _).mono ?_;rintro e w3 ⟨rfl,rfl⟩;obtain ⟨a0,a1,a2,a3,a4,g0,g1,g2,g3,g4⟩:=Z2.five;have hlt:=Z2.lt;have hne:¬ w.heap.size=w2.heap.size:=by omega
  have hne2:¬ w2.heap.size=w.heap.size:=by omega
  go_wp2;refine bodyPost_ret (v:=.tuple #[rfV Wt.r0,.bool false]) (by simp [results,results255,go_sem,rfV,rf5,Wt.r0,a0,a1,a2,a3,a4,hlt]) rfl ⟨rfl,?_⟩;exact (clB hB2)
 ·obtain ⟨b0,b1⟩:=bd rfl;rw [if_pos rfl];replace C6:=λw h=>C6 w b0 b1 h
  by_cases hw:W=l
  ·rw [if_pos hw];subst hw;go_enter func255,ntmps255;go_wp2_with fail
   refine C1.mono ?_;rintro e w1 ⟨rfl,hb⟩;have Z1:=AtL.below hb Z;have hB1:=zAA hB0 hb;clear hb Z hB0;go_wp2_with fail
   refine (C2 _).mono ?_;rintro e w2 ⟨rfl,hb⟩;have Z2:=AtL.below hb Z1;have hB2:=zAA hB1 hb;clear hb Z1 hB1;go_wp2_with fail
   refine (C3 _).mono ?_;rintro e w3 ⟨rfl,rfl⟩;go_wp2_with fail
   refine (C4 _).mono ?_;rintro e w3 ⟨rfl,rfl⟩;go_wp2_with fail
   refine (C5 _).mono ?_;rintro e w3 ⟨rfl,rfl⟩;have hB3:=zAH hB2 (.cells #[.string ⟨#[]⟩,.int .i64 r,.int .i64 c,.bool f,.bool d] 100);have hT:=(TB.on hB3).here;have Z3:=AtL.alloc Z2 (.cells #[.string ⟨#[]⟩,.int .i64 r,.int .i64 c,.bool f,.bool d] 100);have Y3:=AtL.new0 w2 100 [.string ⟨#[]⟩,.int .i64 r,.int .i64 c,.bool f,.bool d];clear Z2 hB2 TB;go_wp2_with fail
   refine (C6 _ hT).mono ?_;rintro e w4 ⟨rfl,hb⟩;have Z4:=AtL.below hb Z3;have Y4:=AtL.below hb Y3;have hB4:=zAA hB3 hb;clear hb Z3 Y3 hB3 hT C1 C2 C3 C4 C5 C6;obtain ⟨a0,a1,a2,a3,a4,g0,g1,g2,g3,g4⟩:=Z4.five;obtain ⟨y0,y1,y2,y3,y4⟩:=Y4.f5;have hlt:=Z4.lt;go_wp2;refine bodyPost_ret (v:=.tuple #[rfV ⟨⟨#[]⟩,r,c,f,d⟩,.bool true]) (by simp [results,results255,go_sem,rfV,rf5,a0,a1,a2,a3,a4]) rfl ⟨rfl,?_⟩;exact (clB hB4)
  ·rw [if_neg hw];have hw':(W == l)=false:=by simp [hw]
   go_enter func255,ntmps255;go_wp2_with fail
   refine C1.mono ?_;rintro e w1 ⟨rfl,hb⟩;have Z1:=AtL.below hb Z;have hB1:=zAA hB0 hb;clear hb Z hB0;go_wp2_with fail
   refine (C2 _).mono ?_;rintro e w2 ⟨rfl,hb⟩;have Z2:=AtL.below hb Z1;have hB2:=zAA hB1 hb;clear hb Z1 hB1;go_wp2_with fail
   refine (C3 _).mono ?_;rintro e w3 ⟨rfl,rfl⟩;go_wp2_with fail
   refine (C4 _).mono ?_;rintro e w3 ⟨rfl,rfl⟩;go_wp2_with fail
   refine (C5 _).mono ?_;rintro e w3 ⟨rfl,rfl⟩;have hB3:=zAH hB2 (.cells #[.string ⟨#[]⟩,.int .i64 r,.int .i64 c,.bool f,.bool d] 100);have hT:=(TB.on hB3).here;have Z3:=AtL.alloc Z2 (.cells #[.string ⟨#[]⟩,.int .i64 r,.int .i64 c,.bool f,.bool d] 100);have Y3:=AtL.new0 w2 100 [.string ⟨#[]⟩,.int .i64 r,.int .i64 c,.bool f,.bool d];clear Z2 hB2 TB;go_wp2_with fail
   refine (C6 _ hT).mono ?_;rintro e w4 ⟨rfl,hb⟩;have Z4:=AtL.below hb Z3;have Y4:=AtL.below hb Y3;have hB4:=zAA hB3 hb;clear hb Z3 Y3 hB3 hT C1 C2 C3 C4 C5 C6;obtain ⟨a0,a1,a2,a3,a4,g0,g1,g2,g3,g4⟩:=Z4.five;obtain ⟨y0,y1,y2,y3,y4⟩:=Y4.f5;have hlt:=Z4.lt;go_wp2;refine bodyPost_ret (v:=.tuple #[rfV Wt.r0,.bool false]) (by simp [results,results255,go_sem,rfV,rf5,Wt.r0,a0,a1,a2,a3,a4]) rfl ⟨rfl,?_⟩;exact (clB hB4)
theorem zAO {P:Program} {fn:Func} {t:Tmp} {T:TypeId} (h:fn.results=#[.cell t T]) (tmps:Array Value) (w:World) (b:Nat) (cs:List Value) (d:TypeDesc) (ht:tmps.getD t undef=.pointer (some ⟨b,0,none⟩)) (hc:w.rangeAt b 0 cs)
  (hu:P.underlying T=some d) (hd:d.isRow=true) (hi:(P.info? T).map (·.size)=some cs.length):(results fn tmps).run P w=.ok (.agg cs.toArray) w:=by
 have hl:=run_loadVar_mid (P:=P) w b 0 T cs d hc hu hd hi;have ht':tmps[t]?.getD undef=.pointer (some ⟨b,0,none⟩):=by rw [<-ht];simp
 simp only [results,h];simp [ht',hl,asAddr]
def Env (w:World):Prop:=OpsAt w/\FltAt w/\MaxAt w/\Lib.TabIs prog w "internal/strconv.uint64pow10" .u64 Lib.pow10Tab
theorem Env.below (h:Env w) (hb:Below w.heap.size w w'):Env w':=⟨h.1.below hb,h.2.1.below hb,h.2.2.1.below hb,(Lib.tabBelow_of_tabIs h.2.2.2).on hb |>.here⟩
theorem Env.grown {kp:Nat} (h:Env w) (hg:w.grownBy w' (some kp)) (hk:8<=kp):Env w':=by
 obtain ⟨h1,h2,⟨m,h3⟩,h4⟩:=h;have hn:∀ g,g<8->some g ≠ some kp:=λg hg e=>by have:=Option.some.inj e;omega
 refine ⟨λj v hv=>hg.cell (h1 j v hv) (hn 1 (by decide)),λj v hv=>hg.cell (h2 j v hv) (hn 0 (by decide)),⟨m,hg.cell h3 (hn _ (by decide))⟩,?_⟩;have e:prog.globalNamed "internal/strconv.uint64pow10" = some 6:=by kernel_rfl
 unfold Lib.TabIs World.var? at h4 ⊢;rw [e] at h4 ⊢;simp only [Option.bind_some] at h4 ⊢;have hlt:6<w.heap.size:=by
  rcases Nat.lt_or_ge 6 w.heap.size with h | h
  ·exact h
  ·rw [Array.getElem?_eq_none h] at h4;cases h4
 rw [hg.block _ hlt (hn _ (by decide))];exact h4
def zAJ (x:Wt.Nd) (sl:Value):List Value:=zAK x++[sl]
def ptV (x:Wt.Nd) (sl:Value):Value:=.agg (zAJ x sl).toArray
def PtIs (w:World) (G:Nat->Prop):Nat->Wt.Nd->Value->List Wt.Nd->Prop
 | 0,_,_,_=>False
 | n+1,x,sl,row=>∃ (av:Option Addr) (cap:Nat) (ps:List (Wt.Nd × Value)) (rows:List (List Wt.Nd)),sl=.slice av ps.length cap/\rows.length=ps.length/\row=x::rows.flatten /\
   ∀ i (h:i<ps.length) (h':i<rows.length),∃ bb,av=some ⟨bb,0,none⟩/\G bb/\w.rangeAt bb (i * 21) (zAJ (ps[i]).1 (ps[i]).2)/\PtIs w G n (ps[i]).1 (ps[i]).2 (rows[i])
theorem zDW {bb o:Nat} (h:w.rangeAt bb o (zAJ x sl)):bb<w.heap.size:=World.block_lt_of_cell? _ _ (h 0 _ rfl)
theorem PtIs.keep {w w':World} {G:Nat->Prop} (hk:∀ k,G k->k<w.heap.size->w'.heap[k]? = w.heap[k]?):∀ (n:Nat) {x:Wt.Nd} {sl:Value} {row:List Wt.Nd},PtIs w G n x sl row->PtIs w' G n x sl row
 | 0,_,_,_,h=>h
 | n+1,x,sl,row,⟨av,cap,ps,rows,e,hl,hr,hp⟩=>⟨av,cap,ps,rows,e,hl,hr,λi h h'=>by
   obtain ⟨bb,e1,e2,e3,e4⟩:=hp i h h';exact ⟨bb,e1,e2,λj v hv=>(World.cell?_of_block (a:=⟨bb,i * 21+j,none⟩) (hk bb e2 (zDW e3))).trans (e3 j v hv),PtIs.keep hk n e4⟩⟩
theorem PtIs.mono {w:World} {G G':Nat->Prop} (hlo:∀ b,G b->G' b):∀ (n:Nat) {x:Wt.Nd} {sl:Value} {row:List Wt.Nd},PtIs w G n x sl row->PtIs w G' n x sl row
 | 0,_,_,_,h=>h
 | n+1,x,sl,row,⟨av,cap,ps,rows,e,hl,hr,hp⟩=>⟨av,cap,ps,rows,e,hl,hr,λi h h'=>by
   obtain ⟨bb,e1,e2,e3,e4⟩:=hp i h h';exact ⟨bb,e1,hlo _ e2,e3,PtIs.mono hlo n e4⟩⟩
theorem PtIs.leaf (w:World) (G:Nat->Prop) (x:Wt.Nd):PtIs w G 1 x (.slice none 0 0) [x]:=⟨none,0,[],[],rfl,rfl,rfl,λi h=>absurd h (Nat.not_lt_zero _)⟩
theorem PtIs.more {w:World} {G:Nat->Prop}:∀ {n:Nat} {x:Wt.Nd} {sl:Value} {row:List Wt.Nd},PtIs w G n x sl row->PtIs w G (n+1) x sl row
 | 0,_,_,_,h=>h.elim
 | n+1,x,sl,row,⟨av,cap,ps,rows,e,hl,hr,hp⟩=>⟨av,cap,ps,rows,e,hl,hr,λi h h'=>by
   obtain ⟨bb,e1,e2,e3,e4⟩:=hp i h h';exact ⟨bb,e1,e2,e3,PtIs.more e4⟩⟩
theorem PtIs.upto {m:Nat} {row:List Wt.Nd} (h:PtIs w G n x sl row) (hm:n<=m):PtIs w G m x sl row:=by
 induction m with
 | zero =>
   obtain rfl:n=0:=by omega
   exact h
 | succ m ih =>
  rcases Nat.lt_or_ge n (m+1) with h1 | h1
  ·exact (ih (by omega)).more
  ·obtain rfl:n=m+1:=by omega
   exact h
theorem PtIs.one {row:List Wt.Nd} (h:PtIs w G n x sl row):∃ av len cap,sl=.slice av len cap:=by
 cases n with
 | zero=>exact h.elim
 | succ n=>obtain ⟨av,cap,ps,rows,e,_⟩:=h;exact ⟨av,ps.length,cap,e⟩
def Pt (w:World) (lo:Nat) (v:Value) (row:List Wt.Nd):Prop:=∃ n x sl,v=ptV x sl/\PtIs w (λb=>lo<=b) n x sl row
theorem Pt.grown {kp:Nat} {row:List Wt.Nd} (h:Pt w lo v row) (hg:w.grownBy w' (some kp)) (hk:kp<lo):Pt w' lo v row:=by
 obtain ⟨n,x,sl,e,h⟩:=h;exact ⟨n,x,sl,e,PtIs.keep (λk h1 h2=>hg.block k h2 (λe=>by have:=Option.some.inj e;omega)) n h⟩
theorem Pt.below {row:List Wt.Nd} (h:Pt w lo v row) (hb:Below w.heap.size w w'):Pt w' lo v row:=by
 obtain ⟨n,x,sl,e,h⟩:=h;exact ⟨n,x,sl,e,PtIs.keep (λk h1 h2=>hb.block k h2) n h⟩
theorem zA9 (b k:Nat) (hk:k ≠ b):∀ (vs:List Value) (o:Nat) (w:World),(w.setCells b o vs).heap[k]? = w.heap[k]?
 | [],_,_=>rfl
 | v::r,o,w=>by rw [World.setCells,zA9 b k hk r];exact Below.heap_setCell _ _ _ _ hk
theorem Pt.far {b:Nat} {row:List Wt.Nd} (h:Pt w lo v row) (hb:b<lo) (o:Nat) (vs:List Value):Pt (w.setCells b o vs) lo v row:=by
 obtain ⟨n,x,sl,e,h⟩:=h;exact ⟨n,x,sl,e,PtIs.keep (λk h1 h2=>zA9 b k (by omega) vs o w) n h⟩
theorem Pt.mono {lo':Nat} {row:List Wt.Nd} (h:Pt w lo v row) (hl:lo'<=lo):Pt w lo' v row:=by
 obtain ⟨n,x,sl,e,h⟩:=h;exact ⟨n,x,sl,e,PtIs.mono (λb hb=>Nat.le_trans hl hb) n h⟩
theorem zAi (x:Wt.Nd) (sl:Value) (h:sl.oneCell'=true):(zAJ x sl).toArray.all (·.oneCell')=true:=all_oneCell_toArray (λv hv=>by
 unfold zAJ at hv;rcases List.mem_append.1 hv with h1 | h1
 ·exact zKa x v h1
 ·simp only [List.mem_cons,List.not_mem_nil,or_false] at h1;rw [h1];exact h)
def zBN (v:Wt.Vl):Wt.Nd:=⟨1,v,0,⟨#[]⟩,0,Wt.r0,Wt.r0⟩
theorem zDH (v:Wt.Vl) (w:World):CR 249 #[vlV v] w (ptV (zBN v) (.slice none 0 0)):=by
 obtain ⟨vk,vn,vd,vt,vb,vf⟩:=v;show Calls _ _ #[.agg #[.int .i64 vk,.int .i64 vn,.int .i64 vd,.string vt,.bool vb,.int .i64 vf]] _ _
 have pR:AtL ((w.alloc (.cells #[.int .i64 vk,.int .i64 vn,.int .i64 vd,.string vt,.bool vb,.int .i64 vf] 38)).alloc (.cells zP0 180)) (w.heap.size+1) (zAJ (bare 0) (.slice none 0 0)):=AtL.new1 w _ _ _;have hth:World.there ((w.alloc (.cells #[.int .i64 vk,.int .i64 vn,.int .i64 vd,.string vt,.bool vb,.int .i64 vf] 38)).alloc (.cells zP0 180)) (w.heap.size+1) 0 (zAJ ⟨1,⟨vk,vn,vd,vt,vb,vf⟩,0,⟨#[]⟩,0,Wt.r0,Wt.r0⟩ (.slice none 0 0)).toArray.size:=pR.there;have pR2:AtL (((w.alloc (.cells #[.int .i64 vk,.int .i64 vn,.int .i64 vd,.string vt,.bool vb,.int .i64 vf] 38)).alloc (.cells zP0 180)).setCells (w.heap.size+1) 0 (zAJ ⟨1,⟨vk,vn,vd,vt,vb,vf⟩,0,⟨#[]⟩,0,Wt.r0,Wt.r0⟩ (.slice none 0 0))) (w.heap.size+1) (zAJ ⟨1,⟨vk,vn,vd,vt,vb,vf⟩,0,⟨#[]⟩,0,Wt.r0,Wt.r0⟩ (.slice none 0 0)):=pR.setAll rfl;have hB:=zBJ (zAH (zAH (Below.refl _ w) (.cells #[.int .i64 vk,.int .i64 vn,.int .i64 vd,.string vt,.bool vb,.int .i64 vf] 38)) (.cells zP0 180)) (Nat.le_succ w.heap.size) (zAJ ⟨1,⟨vk,vn,vd,vt,vb,vf⟩,0,⟨#[]⟩,0,Wt.r0,Wt.r0⟩ (.slice none 0 0)) 0;go_enter func249,ntmps249;go_upto_region 1 with fail
 go_wp2_with ((with_reducible refine wpList_store_mid ?_ 180 (.tmp 2) (.tmp 5) ?_ (w.heap.size+1) 0 (zAJ ⟨1,⟨vk,vn,vd,vt,vb,vf⟩,0,⟨#[]⟩,0,Wt.r0,Wt.r0⟩ (.slice none 0 0)).toArray ?_ ?_ ?_ ?_ ?_ ?_);rfl;rfl;rfl;rfl;exact hth;kernel_rfl;exact zAi _ _ rfl)
 refine bodyPost_ret (zAO rfl _ _ (w.heap.size+1) (zAJ ⟨1,⟨vk,vn,vd,vt,vb,vf⟩,0,⟨#[]⟩,0,Wt.r0,Wt.r0⟩ (.slice none 0 0)) _ rfl pR2.range underlying180 rfl (by kernel_rfl)) rfl ⟨rfl,hB⟩
abbrev OpS (ka kb:Nat) (o:Int) (m:ByteArray) (t:Int) (W:World):Prop :=
 W.cell? ⟨ka,0,none⟩=some (.int .i64 o)/\W.cell? ⟨ka,1,none⟩=some (.string m)/\W.cell? ⟨ka,2,none⟩=some (.int .i64 t)
theorem zAg {ka kb:Nat} {o:Int} {m:ByteArray} {t:Int} {W:World} (h:AtL W ka [.int .i64 o,.string m,.int .i64 t]):OpS ka kb o m t W:=h.f3
def opN (k o:Int):Wt.Nd:=⟨k,Wt.v0,o,⟨#[]⟩,0,Wt.r0,Wt.r0⟩
def zAo (t:Int):Int:=if t<5 then 5 else 4
theorem zBE (o:Int) (m:ByteArray) (t:Int) (av:Option Addr) (len cap:Nat) (w:World):CR 174 #[.agg #[.int .i64 o,.string m,.int .i64 t],.slice av len cap] w (ptV (opN (zAo t) o) (.slice av len cap)):=by
 have C:=λw=>zE1 o m t w
 have pA:=(AtL.new0 w 211 [.int .i64 o,.string m,.int .i64 t]).alloc (.cells zP0 180);have pR:AtL ((w.alloc (.cells #[.int .i64 o,.string m,.int .i64 t] 211)).alloc (.cells zP0 180)) (w.heap.size+1) (zAJ (bare 0) (.slice none 0 0)):=AtL.new1 w _ _ _;have hB0:=zAH (zAH (Below.refl _ w) (.cells #[.int .i64 o,.string m,.int .i64 t] 211)) (.cells zP0 180);unfold zAo;generalize (if t<5 then (5:Int) else 4)=kd at *;go_enter func174,ntmps174;go_upto_region 1 with fail
 refine wp_region_held_drew (S:=OpS w.heap.size (w.heap.size+1) o m t) (by kernel_rfl) (zAg (AtL.drew pA)) (λhHeld=>?_);refine tkQ 0 ?_
 refine tkQ 2 ?_
 refine tkQ 3 ?_
 refine tkQ 5 ?_
 refine rdQ 1 (λK hK=>?_);go_simp
 refine (C _).mono ?_;rintro e w1 ⟨rfl,hb⟩;have pA1:=AtL.below hb (AtL.drew pA);have pR1:=AtL.below hb (AtL.drew pR);have hB1:=zAA hB0.drew hb;clear hb;go_wp2_with fail
 refine hkQ hK (zAg pA1) (λhHeld=>?_);clear hK K
 refine tkQ 4 ?_
 refine tkQ 6 ?_
 refine rdQ 7 (λK hK=>?_);refine wp_store_mid 180 (.tmp 4) (.tmp 11) rfl (w.heap.size+1) 0 (zAJ (opN kd o) (.slice av len cap)).toArray rfl rfl pR1.there (by kernel_rfl) (zAi _ _ rfl) ?_;have pR2:AtL (w1.setCells (w.heap.size+1) 0 (zAJ (opN kd o) (.slice av len cap))) (w.heap.size+1) (zAJ (opN kd o) (.slice av len cap)):=pR1.setAll rfl;have hB2:Below w.heap.size w (w1.setCells (w.heap.size+1) 0 (zAJ (opN kd o) (.slice av len cap))):=zBJ hB1 (Nat.le_succ _) _ 0;refine hK.out _ _ (zAg (pA1.farAll (by omega) 0 _)) (λhHeld=>?_);clear hK K;try simp only [Act.put]
 refine wpAnyH_done (by kernel_rfl) ?_ _;go_wp2_with fail
 refine bodyPost_ret (zAO rfl _ _ (w.heap.size+1) (zAJ (opN kd o) (.slice av len cap)) _ rfl pR2.range underlying180 rfl (by kernel_rfl)) rfl ⟨rfl,hB2⟩
