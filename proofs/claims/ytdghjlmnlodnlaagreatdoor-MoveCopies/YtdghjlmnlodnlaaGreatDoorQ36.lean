/- NWalkH1, NWalkH2, NWalkL, TQCellA. -/
import Derived.Test.YtdghjlmnlodnlaaGreatDoorQ35
set_option maxHeartbeats 3200000
set_option maxRecDepth 100000
namespace Go.Proofs.YtdghjlmnlodnlaaGreatDoor
open Go.RowKit Tryz
set_option linter.unusedVariables false
theorem zGl (a c:UInt8) (t:List UInt8) (w:World) (hl:t.length+3<=9223372036854775000) (h1:Wpl.isL a=true) (hc:Wpl.isL c=false):Calls prog 190 #[.string ⟨(a::c::t).toArray⟩] w λe w'=>e=.returned (RD (a::c::t))/\w=w':=by
 have hn:Wpl.noL (c::t)=true:=by simp [Wpl.noL,hc]
 obtain ⟨D1,D2⟩:=Wpl.rd_one h1 hn;have hc':=zGk hc;have vb0:=Wpl.vl_bd h1;obtain ⟨p0,q0⟩:=isL_int.1 h1;have v0:Hid (((Wpl.vl a:Nat):Int)=(a.toNat:Int) - 65+1):=by show _=_;unfold Wpl.vl;omega
 have vi0:0<=((Wpl.vl a:Nat):Int)/\((Wpl.vl a:Nat):Int)<=26:=by have:=Wpl.vl_bd h1;omega
 have e0:=zCk (l:=a::c::t) (i:=0) (c:=a) rfl;have ec:=zCk (l:=a::c::t) (i:=1) (c:=c) rfl;obtain ⟨b0,b1⟩:=zCZ c;have hlen:(1:Int)<(t.length:Int)+1+1:=by omega
 have hlen0:(0:Int)<(t.length:Int)+1+1:=by omega
 have hlen1:(1:Int)<(t.length:Int)+1+1:=by omega
 have hne:(((t.length:Int)+1+1) == 1)=false:=by simp;omega
 have DD:Hid (Wpl.rdOk (a::c::t)=Wpl.dgOk (c::t)):=D1;have DR:Hid (Wpl.rc 0 (a::c::t)=(Wpl.vl a,c::t)):=D2;clear D1 D2 h1 hn hc;have NO:Hid (Wpl.dgOk (c::t)=false->RD (a::c::t)=.tuple #[.int .i64 0,.int .i64 0,.bool false]):=λh=>zFH (by rw [DD.out,h])
 have ngc:∀ h:65<=(c.toNat:Int),Wpl.isG c=false:=λh=>by simp [Wpl.isG];omega
 have Hg:Hid (65<=(c.toNat:Int)->Wpl.dgOk (c::t)=false):=λh=>Wpl.dg_not (λe=>by rw [e] at h;exact absurd h (by decide)) (Wpl.all_not (j:=0) rfl (ngc h))
 have Hz:Hid (c=48->Wpl.dgOk (c::t)=false):=λh=>by rw [h];exact Wpl.dg_zero t
 have Hl:Hid (5<=t.length->Wpl.dgOk (c::t)=false):=λh=>by
  by_cases e:c=48
  ·rw [e];exact Wpl.dg_zero t
  ·exact Wpl.dg_long e h
 clear ngc;go_enter func190,ntmps190;go_wp2;go_loopw [5,6] (λx y wr=>∃ (k m:Nat),x=.int .i64 k/\y=.int .i64 m/\(k=0/\m=0 \/ k=1/\m=Wpl.vl a)/\wr=w) (λx _ _=>3 - (intOf x).toNat)
 case atStart=>exact ⟨0,0,rfl,rfl,by omega,rfl⟩
 case round =>
  obtain ⟨k,m,rfl,rfl,hst,rfl⟩:=hrel;rcases hst with ⟨rfl,rfl⟩ | ⟨rfl,rfl⟩
  ·go_wp2_with fail
   go_roundw
   case rel=>exact ⟨1,Wpl.vl a,rfl,congrArg (Value.int IntKind.i64) (by have:=v0.out;first | omega | (push_cast;omega)),by omega,trivial⟩
   case measure=>simp [intOf]
  ·by_cases hge:65<=(c.toNat:Int)
   ·have hle:¬ (c.toNat:Int)<=90:=by omega
    have E:=NO.out (Hg.out hge);have EE:Hid (RD (a::c::t)=.tuple #[.int .i64 0,.int .i64 0,.bool false]):=E;clear E;have h48:((c.toNat:Int) == 48)=false:=by simp;omega
    have h57:(57:Int)<(c.toNat:Int):=by omega
    by_cases hlong:5<=t.length
    ·have hL:((1:Int)+5)<(t.length:Int)+1+1:=by omega
     have hL2:(6:Int)<(t.length:Int)+1+1:=by omega
     go_wp2;go_ret3
     exact ⟨by rw [EE.out];rfl,rfl⟩
    ·have hL2:¬ (6:Int)<(t.length:Int)+1+1:=by omega
     go_wp2;go_loopw [7,8] (λx y wq=>x=.int .i64 0/\y=.int .i64 1/\wq=wr) (λ_ _ _=>0)
     case atStart=>exact ⟨rfl,rfl,rfl⟩
     case round =>
      obtain ⟨rfl,rfl,rfl⟩:=hrel;go_wp2;go_ret3
      exact ⟨by rw [EE.out];rfl,rfl⟩
   ·by_cases hlong:5<=t.length
    ·have EE:Hid (RD (a::c::t)=.tuple #[.int .i64 0,.int .i64 0,.bool false]):=NO.out (Hl.out hlong);have hL2:(6:Int)<(t.length:Int)+1+1:=by omega
     go_wp2;go_ret3
     exact ⟨by rw [EE.out];rfl,rfl⟩
    ·have hL2:¬ (6:Int)<(t.length:Int)+1+1:=by omega
     by_cases h0:c=48
     ·have EE:Hid (RD (a::c::t)=.tuple #[.int .i64 0,.int .i64 0,.bool false]):=NO.out (Hz.out h0);have h48:((c.toNat:Int) == 48)=true:=by rw [h0];rfl
      clear h0;go_wp2;go_ret3
      exact ⟨by rw [EE.out];rfl,rfl⟩
     ·have h48:((c.toNat:Int) == 48)=false:=by simp;exact zSi h0
      have HY:Hid (Wpl.allG (c::t)=true->Wpl.dgOk (c::t)=decide (Wpl.fv 0 (c::t)<=65536)/\(Wpl.rr (c::t)).1=Wpl.fv 0 (c::t)/\1<=Wpl.fv 0 (c::t)):=λh=>Wpl.dg_in h0 h (by omega)
      have HX:Hid (Wpl.allG (c::t)=false->Wpl.dgOk (c::t)=false):=λh=>Wpl.dg_not h0 h
      clear h0 Hg Hz Hl;go_wp2;go_loopw [7,8] (λx y wq=>∃ j:Nat,j<=t.length+1/\x=.int .i64 (Wpl.fv 0 ((c::t).take j):Nat)/\y=.int .i64 ((1+j:Nat):Int)/\Hid (Wpl.allG ((c::t).take j)=true)/\wq=wr) (λ_ y _=>t.length+10 - (intOf y).toNat)
      case atStart=>exact ⟨0,by omega,rfl,rfl,(rfl:Wpl.allG ((c::t).take 0)=true),rfl⟩
      case round =>
       obtain ⟨j,hj,rfl,rfl,HA,rfl⟩:=hrel;by_cases hlt:j<t.length+1
       ·obtain ⟨d,hd⟩:∃ d,(c::t)[j]? = some d:=⟨(c::t)[j]'(by simpa using hlt),List.getElem?_eq_getElem (by simpa using hlt)⟩
        have hd2:(a::c::t)[1+j]? = some d:=by rw [show 1+j=j+1 by omega];exact hd
        have ed:=zCk hd2;obtain ⟨d0,d1⟩:=zCZ d;have fb:=Wpl.fv_five (D:=c::t) (j:=j) (by omega) HA.out;have FT:Hid (Wpl.fv 0 ((c::t).take (j+1))=Wpl.fv 0 ((c::t).take j) * 10+(d.toNat - 48)):=Wpl.fv_take hd;have AT:Hid (Wpl.allG ((c::t).take (j+1))=(Wpl.allG ((c::t).take j) && Wpl.isG d)):=Wpl.all_take hd;have AN:Hid (Wpl.isG d=false->Wpl.allG (c::t)=false):=λh=>Wpl.all_not hd h
        have z1:((1:Int)+(j:Int))<(t.length:Int)+1+1:=by omega
        clear hd;generalize Wpl.fv 0 ((c::t).take j)=rv at *;by_cases g1:(d.toNat:Int)<48
        ·have EE:Hid (RD (a::c::t)=.tuple #[.int .i64 0,.int .i64 0,.bool false]):=NO.out (HX.out (AN.out (by simp [Wpl.isG];omega)));clear AN AT FT HA;go_wp2;go_ret3
         exact ⟨by rw [EE.out];rfl,rfl⟩
        by_cases g2:57<(d.toNat:Int)
        ·have EE:Hid (RD (a::c::t)=.tuple #[.int .i64 0,.int .i64 0,.bool false]):=NO.out (HX.out (AN.out (by simp [Wpl.isG];omega)));clear AN AT FT HA;go_wp2;go_ret3
         exact ⟨by rw [EE.out];rfl,rfl⟩
        have AT':Hid (Wpl.allG ((c::t).take (j+1))=true):=by show _=_;rw [AT.out,HA.out];simp [Wpl.isG];omega
        clear AN AT HA;go_wp2_with fail
        go_roundw
        case rel=>exact ⟨j+1,by omega,congrArg (Value.int IntKind.i64) (by rw [FT.out];first | omega | (push_cast;omega)),congrArg (Value.int IntKind.i64) (by first | omega | (push_cast;omega)),AT',trivial⟩
        case measure=>simp [intOf];omega
       ·obtain rfl:j=t.length+1:=by omega
        have et:(c::t).take (t.length+1)=c::t:=List.take_of_length_le (by simp);rw [et] at HA ⊢;obtain ⟨y1,y2,y3⟩:=HY.out HA.out;have fb:=Wpl.fv_five (D:=c::t) (j:=t.length+1) (by omega) (by rw [et];exact HA.out);rw [et] at fb;have z1:¬ ((1:Int)+((t.length:Int)+1))<(t.length:Int)+1+1:=by omega
        have RY:Hid (Wpl.rdOk (a::c::t)=true->RD (a::c::t)=.tuple #[.int .i64 ((Wpl.fv 0 (c::t):Int) - 1),.int .i64 ((Wpl.vl a:Nat) - 1),.bool true]):=λh=>by
         unfold RD Wpl.rdR Wpl.rdC;rw [h,DR.out];simp only [if_true,y2]
        have RN:Hid (Wpl.rdOk (a::c::t)=false->RD (a::c::t)=.tuple #[.int .i64 0,.int .i64 0,.bool false]):=λh=>zFH h
        rw [y1] at DD;clear y1 y2 HY HX NO DR HA et;generalize Wpl.fv 0 (c::t)=rv at *;by_cases k1:rv<=65536
        ·have E:=RY.out (by rw [DD.out,decide_eq_true k1]);have EE:Hid (RD (a::c::t)=.tuple #[.int .i64 ((rv:Int) - 1),.int .i64 ((Wpl.vl a:Nat) - 1),.bool true]):=E;clear E;have k2:¬ (65536:Int)<(rv:Int):=by omega
         have k3:¬ (256:Int)<((Wpl.vl a:Nat):Int):=by omega
         go_wp2;go_ret3
         exact ⟨by rw [EE.out];rfl,rfl⟩
        ·have E:=RN.out (by rw [DD.out,decide_eq_false k1]);have EE:Hid (RD (a::c::t)=.tuple #[.int .i64 0,.int .i64 0,.bool false]):=E;clear E;have k2:(65536:Int)<(rv:Int):=by omega
         have k3:¬ (256:Int)<((Wpl.vl a:Nat):Int):=by omega
         go_wp2;go_ret3
         exact ⟨by rw [EE.out];rfl,rfl⟩
theorem zGI (a b c:UInt8) (t:List UInt8) (w:World) (hl:t.length+3<=9223372036854775000) (h1:Wpl.isL a=true) (h2:Wpl.isL b=true) (hc:Wpl.isL c=false):Calls prog 190 #[.string ⟨(a::b::c::t).toArray⟩] w λe w'=>e=.returned (RD (a::b::c::t))/\w=w':=by
 have hn:Wpl.noL (c::t)=true:=by simp [Wpl.noL,hc]
 obtain ⟨D1,D2⟩:=Wpl.rd_two h1 h2 hn;have hc':=zGk hc;have vb0:=Wpl.vl_bd h1;obtain ⟨p0,q0⟩:=isL_int.1 h1;have v0:Hid (((Wpl.vl a:Nat):Int)=(a.toNat:Int) - 65+1):=by show _=_;unfold Wpl.vl;omega
 have vi0:0<=((Wpl.vl a:Nat):Int)/\((Wpl.vl a:Nat):Int)<=26:=by have:=Wpl.vl_bd h1;omega
 have e0:=zCk (l:=a::b::c::t) (i:=0) (c:=a) rfl;have vb1:=Wpl.vl_bd h2;obtain ⟨p1,q1⟩:=isL_int.1 h2;have v1:Hid (((Wpl.vl b:Nat):Int)=(b.toNat:Int) - 65+1):=by show _=_;unfold Wpl.vl;omega
 have vi1:0<=((Wpl.vl b:Nat):Int)/\((Wpl.vl b:Nat):Int)<=26:=by have:=Wpl.vl_bd h2;omega
 have e1:=zCk (l:=a::b::c::t) (i:=1) (c:=b) rfl;have ec:=zCk (l:=a::b::c::t) (i:=2) (c:=c) rfl;obtain ⟨b0,b1⟩:=zCZ c;have hlen:(2:Int)<(t.length:Int)+1+1+1:=by omega
 have hlen0:(0:Int)<(t.length:Int)+1+1+1:=by omega
 have hlen1:(1:Int)<(t.length:Int)+1+1+1:=by omega
 have hne:(((t.length:Int)+1+1+1) == 2)=false:=by simp;omega
 have DD:Hid (Wpl.rdOk (a::b::c::t)=(decide (Wpl.vl a * 26+Wpl.vl b<=256) && Wpl.dgOk (c::t))):=D1;have DR:Hid (Wpl.rc 0 (a::b::c::t)=((Wpl.vl a * 26+Wpl.vl b),c::t)):=D2;clear D1 D2 h1 h2 hn hc;have NO:Hid (Wpl.dgOk (c::t)=false->RD (a::b::c::t)=.tuple #[.int .i64 0,.int .i64 0,.bool false]):=λh=>zFH (by rw [DD.out,h];simp)
 have ngc:∀ h:65<=(c.toNat:Int),Wpl.isG c=false:=λh=>by simp [Wpl.isG];omega
 have Hg:Hid (65<=(c.toNat:Int)->Wpl.dgOk (c::t)=false):=λh=>Wpl.dg_not (λe=>by rw [e] at h;exact absurd h (by decide)) (Wpl.all_not (j:=0) rfl (ngc h))
 have Hz:Hid (c=48->Wpl.dgOk (c::t)=false):=λh=>by rw [h];exact Wpl.dg_zero t
 have Hl:Hid (5<=t.length->Wpl.dgOk (c::t)=false):=λh=>by
  by_cases e:c=48
  ·rw [e];exact Wpl.dg_zero t
  ·exact Wpl.dg_long e h
 clear ngc;go_enter func190,ntmps190;go_wp2;go_loopw [5,6] (λx y wr=>∃ (k m:Nat),x=.int .i64 k/\y=.int .i64 m/\(k=0/\m=0 \/ k=1/\m=Wpl.vl a \/ k=2/\m=Wpl.vl a * 26+Wpl.vl b)/\wr=w) (λx _ _=>3 - (intOf x).toNat)
 case atStart=>exact ⟨0,0,rfl,rfl,by omega,rfl⟩
 case round =>
  obtain ⟨k,m,rfl,rfl,hst,rfl⟩:=hrel;rcases hst with ⟨rfl,rfl⟩ | ⟨rfl,rfl⟩ | ⟨rfl,rfl⟩
  ·go_wp2_with fail
   go_roundw
   case rel=>exact ⟨1,Wpl.vl a,rfl,congrArg (Value.int IntKind.i64) (by have:=v0.out;have:=v1.out;first | omega | (push_cast;omega)),by omega,trivial⟩
   case measure=>simp [intOf]
  ·go_wp2_with fail
   go_roundw
   case rel=>exact ⟨2,Wpl.vl a * 26+Wpl.vl b,rfl,congrArg (Value.int IntKind.i64) (by have:=v0.out;have:=v1.out;first | omega | (push_cast;omega)),by omega,trivial⟩
   case measure=>simp [intOf]
  ·by_cases hge:65<=(c.toNat:Int)
   ·have hle:¬ (c.toNat:Int)<=90:=by omega
    have E:=NO.out (Hg.out hge);have EE:Hid (RD (a::b::c::t)=.tuple #[.int .i64 0,.int .i64 0,.bool false]):=E;clear E;have h48:((c.toNat:Int) == 48)=false:=by simp;omega
    have h57:(57:Int)<(c.toNat:Int):=by omega
    by_cases hlong:5<=t.length
    ·have hL:((2:Int)+5)<(t.length:Int)+1+1+1:=by omega
     have hL2:(7:Int)<(t.length:Int)+1+1+1:=by omega
     go_wp2;go_ret3
     exact ⟨by rw [EE.out];rfl,rfl⟩
    ·have hL2:¬ (7:Int)<(t.length:Int)+1+1+1:=by omega
     go_wp2;go_loopw [7,8] (λx y wq=>x=.int .i64 0/\y=.int .i64 2/\wq=wr) (λ_ _ _=>0)
     case atStart=>exact ⟨rfl,rfl,rfl⟩
     case round =>
      obtain ⟨rfl,rfl,rfl⟩:=hrel;go_wp2;go_ret3
      exact ⟨by rw [EE.out];rfl,rfl⟩
   ·by_cases hlong:5<=t.length
    ·have EE:Hid (RD (a::b::c::t)=.tuple #[.int .i64 0,.int .i64 0,.bool false]):=NO.out (Hl.out hlong);have hL2:(7:Int)<(t.length:Int)+1+1+1:=by omega
     go_wp2;go_ret3
     exact ⟨by rw [EE.out];rfl,rfl⟩
    ·have hL2:¬ (7:Int)<(t.length:Int)+1+1+1:=by omega
     by_cases h0:c=48
     ·have EE:Hid (RD (a::b::c::t)=.tuple #[.int .i64 0,.int .i64 0,.bool false]):=NO.out (Hz.out h0);have h48:((c.toNat:Int) == 48)=true:=by rw [h0];rfl
      clear h0;go_wp2;go_ret3
      exact ⟨by rw [EE.out];rfl,rfl⟩
     ·have h48:((c.toNat:Int) == 48)=false:=by simp;exact zSi h0
      have HY:Hid (Wpl.allG (c::t)=true->Wpl.dgOk (c::t)=decide (Wpl.fv 0 (c::t)<=65536)/\(Wpl.rr (c::t)).1=Wpl.fv 0 (c::t)/\1<=Wpl.fv 0 (c::t)):=λh=>Wpl.dg_in h0 h (by omega)
      have HX:Hid (Wpl.allG (c::t)=false->Wpl.dgOk (c::t)=false):=λh=>Wpl.dg_not h0 h
      clear h0 Hg Hz Hl;go_wp2;go_loopw [7,8] (λx y wq=>∃ j:Nat,j<=t.length+1/\x=.int .i64 (Wpl.fv 0 ((c::t).take j):Nat)/\y=.int .i64 ((2+j:Nat):Int)/\Hid (Wpl.allG ((c::t).take j)=true)/\wq=wr) (λ_ y _=>t.length+10 - (intOf y).toNat)
      case atStart=>exact ⟨0,by omega,rfl,rfl,(rfl:Wpl.allG ((c::t).take 0)=true),rfl⟩
      case round =>
       obtain ⟨j,hj,rfl,rfl,HA,rfl⟩:=hrel;by_cases hlt:j<t.length+1
       ·obtain ⟨d,hd⟩:∃ d,(c::t)[j]? = some d:=⟨(c::t)[j]'(by simpa using hlt),List.getElem?_eq_getElem (by simpa using hlt)⟩
        have hd2:(a::b::c::t)[2+j]? = some d:=by rw [show 2+j=j+2 by omega];exact hd
        have ed:=zCk hd2;obtain ⟨d0,d1⟩:=zCZ d;have fb:=Wpl.fv_five (D:=c::t) (j:=j) (by omega) HA.out;have FT:Hid (Wpl.fv 0 ((c::t).take (j+1))=Wpl.fv 0 ((c::t).take j) * 10+(d.toNat - 48)):=Wpl.fv_take hd;have AT:Hid (Wpl.allG ((c::t).take (j+1))=(Wpl.allG ((c::t).take j) && Wpl.isG d)):=Wpl.all_take hd;have AN:Hid (Wpl.isG d=false->Wpl.allG (c::t)=false):=λh=>Wpl.all_not hd h
        have z1:((2:Int)+(j:Int))<(t.length:Int)+1+1+1:=by omega
        clear hd;generalize Wpl.fv 0 ((c::t).take j)=rv at *;by_cases g1:(d.toNat:Int)<48
        ·have EE:Hid (RD (a::b::c::t)=.tuple #[.int .i64 0,.int .i64 0,.bool false]):=NO.out (HX.out (AN.out (by simp [Wpl.isG];omega)));clear AN AT FT HA;go_wp2;go_ret3
         exact ⟨by rw [EE.out];rfl,rfl⟩
        by_cases g2:57<(d.toNat:Int)
        ·have EE:Hid (RD (a::b::c::t)=.tuple #[.int .i64 0,.int .i64 0,.bool false]):=NO.out (HX.out (AN.out (by simp [Wpl.isG];omega)));clear AN AT FT HA;go_wp2;go_ret3
         exact ⟨by rw [EE.out];rfl,rfl⟩
        have AT':Hid (Wpl.allG ((c::t).take (j+1))=true):=by show _=_;rw [AT.out,HA.out];simp [Wpl.isG];omega
        clear AN AT HA;go_wp2_with fail
        go_roundw
        case rel=>exact ⟨j+1,by omega,congrArg (Value.int IntKind.i64) (by rw [FT.out];first | omega | (push_cast;omega)),congrArg (Value.int IntKind.i64) (by first | omega | (push_cast;omega)),AT',trivial⟩
        case measure=>simp [intOf];omega
       ·obtain rfl:j=t.length+1:=by omega
        have et:(c::t).take (t.length+1)=c::t:=List.take_of_length_le (by simp);rw [et] at HA ⊢;obtain ⟨y1,y2,y3⟩:=HY.out HA.out;have fb:=Wpl.fv_five (D:=c::t) (j:=t.length+1) (by omega) (by rw [et];exact HA.out);rw [et] at fb;have z1:¬ ((2:Int)+((t.length:Int)+1))<(t.length:Int)+1+1+1:=by omega
        have RY:Hid (Wpl.rdOk (a::b::c::t)=true->RD (a::b::c::t)=.tuple #[.int .i64 ((Wpl.fv 0 (c::t):Int) - 1),.int .i64 (((Wpl.vl a * 26+Wpl.vl b):Nat) - 1),.bool true]):=λh=>by
         unfold RD Wpl.rdR Wpl.rdC;rw [h,DR.out];simp only [if_true,y2]
        have RN:Hid (Wpl.rdOk (a::b::c::t)=false->RD (a::b::c::t)=.tuple #[.int .i64 0,.int .i64 0,.bool false]):=λh=>zFH h
        rw [y1] at DD;clear y1 y2 HY HX NO DR HA et;generalize Wpl.fv 0 (c::t)=rv at *;by_cases c1:(Wpl.vl a * 26+Wpl.vl b)<=256
        ·by_cases k1:rv<=65536
         ·have E:=RY.out (by rw [DD.out,decide_eq_true k1,decide_eq_true c1];rfl);have EE:Hid (RD (a::b::c::t)=.tuple #[.int .i64 ((rv:Int) - 1),.int .i64 (((Wpl.vl a * 26+Wpl.vl b):Nat) - 1),.bool true]):=E;clear E;have k2:¬ (65536:Int)<(rv:Int):=by omega
          go_wp2;all_goals first | (exfalso;omega) | skip
          all_goals
           go_ret3
           exact ⟨by rw [EE.out];rfl,rfl⟩
         ·have E:=RN.out (by rw [DD.out,decide_eq_false k1];simp);have EE:Hid (RD (a::b::c::t)=.tuple #[.int .i64 0,.int .i64 0,.bool false]):=E;clear E;have k2:(65536:Int)<(rv:Int):=by omega
          go_wp2;all_goals
           go_ret3
           exact ⟨by rw [EE.out];rfl,rfl⟩
        ·have E:=RN.out (by rw [DD.out,decide_eq_false c1];simp);have EE:Hid (RD (a::b::c::t)=.tuple #[.int .i64 0,.int .i64 0,.bool false]):=E;clear E;go_wp2;all_goals first | (exfalso;omega) | skip
         all_goals
          go_ret3
          exact ⟨by rw [EE.out];rfl,rfl⟩
theorem zF4 (s:List UInt8) (w:World) (hs:s.length<=9223372036854774000) :
  Calls prog 190 #[.string ⟨s.toArray⟩] w λe w'=>e=.returned (RD s)/\w=w':=by
 match s,hs with
 | [],_=>exact zIp w
 | a::t,hs =>
  simp only [List.length_cons] at hs;cases h1:Wpl.isL a with
  | false=>exact zLI a t w (by omega) h1
  | true =>
   match t,hs with
   | [],_=>exact zHo a w h1
   | b::u,hs =>
    simp only [List.length_cons] at hs;cases h2:Wpl.isL b with
    | false=>exact zGl a b u w (by omega) h1 h2
    | true =>
     match u,hs with
     | [],_=>exact zIB a b w h1 h2
     | c::v,hs =>
      simp only [List.length_cons] at hs;cases h3:Wpl.isL c with
      | false=>exact zGI a b c v w (by omega) h1 h2 h3
      | true=>exact zG6 a b c v w (by omega) h1 h2 h3
open Go.RowKit Go.Shelf Tryz
def zEL (tn lo kp:Nat) (en:Int) (r:(Wt.Rf × List Wlx.TV) ⊕ (Int × Int)) (w:World) (e:Ending) (w':World):Prop:=w.grownBy w' (some kp)/\match r with
 | .inl (a,rest)=>e=.returned (.agg (rf5 a).toArray)/\RS tn lo kp en w' rest 0 0
 | .inr (c,p)=>¬ c=0/\e=.returned (.agg (rf5 Wt.r0).toArray)/\∃ ts,RS tn lo kp en w' ts c p
theorem zOy (tn lo kp:Nat) (en:Int) (w:World) (h:RS tn lo kp en w [] 0 0) :
  Calls prog 171 #[.pointer (some ⟨kp,0,none⟩)] w λe w'=>zEL tn lo kp en (.inr (50,pos [] en)) w e w':=by
 obtain ⟨hkl,hlo,h1024⟩:=h.lo;have pZ:AtL (w.alloc (.cells zR0 28)) w.heap.size (rf5 Wt.r0):=AtL.new0 w _ _;have hB0:=zAI (Below.refl _ w) (.cells zR0 28);have h0:=h.below hB0;have hkw:kp<w.heap.size:=by omega
 obtain ⟨av,len,cap,a,c0,c1,c3,hal⟩:=zJG h0;have hge:decide (len<=a)=true:=by simp;omega
 have hge2:len<=a:=by omega
 clear h;go_enter func171,ntmps171;go_upto_region 1 with fail
 generalize w.alloc (.cells zR0 28)=W0 at *;go_quiet (fail)
 have hb9:Below W0.heap.size W0 (W0.drewN nq):=zAH (Below.refl _ _) nq;have hB9:=zAA hB0 hb9;have hR9:=h0.below hb9;have pZ9:=AtL.below hb9 pZ;generalize W0.drewN nq=W9 at *;have F:=zAx tn lo kp en 50 W9 _ hR9;go_wp2_with fail
 refine F.mono ?_;rintro e w2 ⟨rfl,hR2,hg2⟩;have hG2:w.grownBy w2 (some kp):=zAB (zAC hB9 _) hg2;have pZ2:AtL w2 w.heap.size (rf5 Wt.r0):=pZ9.grown hg2 (λe=>by have:=Option.some.inj e;omega);have tR:w2.there w.heap.size 0 (rf5 Wt.r0).toArray.size:=pZ2.there;go_wp2_with ((with_reducible refine wpList_store_mid ?_ 28 (.tmp 2) (.tmp 51) ?_ (w.heap.size) 0 (rf5 Wt.r0).toArray ?_ ?_ ?_ ?_ ?_ ?_);rfl;rfl;rfl;rfl;exact tR;kernel_rfl;exact zCO _)
 have rR2:=AtL.setAll pZ2 (vs:=rf5 Wt.r0) rfl;refine bodyPost_ret (v:=.agg (rf5 Wt.r0).toArray) (zAG (by rfl) _ _ w.heap.size (rf5 Wt.r0) _ (by rfl) rR2.range underlying28 rfl (by kernel_rfl)) rfl ?_;exact ⟨zAK hG2 (Nat.le_refl _) _ 0,by decide,rfl,_,hR2.row (zAW w2 w.heap.size _ 0) (λb e=>by have:=Option.some.inj e;omega)⟩
theorem zOd (tn lo kp:Nat) (en:Int) (w:World) (t:Wlx.TV) (r:List Wlx.TV) (h:RS tn lo kp en w (t::r) 0 0) (hk:¬ t.k=3):
  Calls prog 171 #[.pointer (some ⟨kp,0,none⟩)] w λe w'=>zEL tn lo kp en (.inr (50,pos (t::r) en)) w e w':=by
 obtain ⟨hkl,hlo,h1024⟩:=h.lo;have pZ:AtL (w.alloc (.cells zR0 28)) w.heap.size (rf5 Wt.r0):=AtL.new0 w _ _;have hB0:=zAI (Below.refl _ w) (.cells zR0 28);have h0:=h.below hB0;have hkw:kp<w.heap.size:=by omega
 obtain ⟨g,len,cap,a,c0,c1,c3,hal,ha,t0,t1,t2⟩:=zAn h0;have hge:decide (len<=a)=false:=by simp;omega
 have hk3:(t.k != 3)=true:=by simpa using hk
 clear h;go_enter func171,ntmps171;go_upto_region 1 with fail
 generalize w.alloc (.cells zR0 28)=W0 at *;go_quiet (fail)
 have hb9:Below W0.heap.size W0 (W0.drewN nq):=zAH (Below.refl _ _) nq;have hB9:=zAA hB0 hb9;have hR9:=h0.below hb9;have pZ9:=AtL.below hb9 pZ;generalize W0.drewN nq=W9 at *;have F:=zAx tn lo kp en 50 W9 _ hR9;go_wp2_with fail
 refine F.mono ?_;rintro e w2 ⟨rfl,hR2,hg2⟩;have hG2:w.grownBy w2 (some kp):=zAB (zAC hB9 _) hg2;have pZ2:AtL w2 w.heap.size (rf5 Wt.r0):=pZ9.grown hg2 (λe=>by have:=Option.some.inj e;omega);have tR:w2.there w.heap.size 0 (rf5 Wt.r0).toArray.size:=pZ2.there;go_wp2_with ((with_reducible refine wpList_store_mid ?_ 28 (.tmp 2) (.tmp 51) ?_ (w.heap.size) 0 (rf5 Wt.r0).toArray ?_ ?_ ?_ ?_ ?_ ?_);rfl;rfl;rfl;rfl;exact tR;kernel_rfl;exact zCO _)
 have rR2:=AtL.setAll pZ2 (vs:=rf5 Wt.r0) rfl;refine bodyPost_ret (v:=.agg (rf5 Wt.r0).toArray) (zAG (by rfl) _ _ w.heap.size (rf5 Wt.r0) _ (by rfl) rR2.range underlying28 rfl (by kernel_rfl)) rfl ?_;exact ⟨zAK hG2 (Nat.le_refl _) _ 0,by decide,rfl,_,hR2.row (zAW w2 w.heap.size _ 0) (λb e=>by have:=Option.some.inj e;omega)⟩
theorem zOt (tn lo kp:Nat) (en:Int) (w:World) (t:Wlx.TV) (r:List Wlx.TV) (h:RS tn lo kp en w (t::r) 0 0) (hk:t.k=3) (hm:mkk (t::r) 1 [40]=true):
  Calls prog 171 #[.pointer (some ⟨kp,0,none⟩)] w λe w'=>zEL tn lo kp en (.inr (50,pos (t::r) en)) w e w':=by
 obtain ⟨hkl,hlo,h1024⟩:=h.lo;have pZ:AtL (w.alloc (.cells zR0 28)) w.heap.size (rf5 Wt.r0):=AtL.new0 w _ _;have hB0:=zAI (Below.refl _ w) (.cells zR0 28);have h0:=h.below hB0;have hkw:kp<w.heap.size:=by omega
 obtain ⟨g,len,cap,a,c0,c1,c3,hal,ha,t0,t1,t2⟩:=zAn h0;have hge:decide (len<=a)=false:=by simp;omega
 rw [hk] at t0;have K40:∀ n,Calls prog 96 #[.pointer (some ⟨kp,0,none⟩),.int .i64 1,.string ⟨#[40]⟩] ((w.alloc (.cells zR0 28)).drewN n) λe w'=>e=.returned (.bool true)/\(w.alloc (.cells zR0 28)).drewN n=w':=λn=>by
  have:=zAL tn lo kp en _ _ 0 0 1 (by omega) [40] (h0.below (zAH (Below.refl _ _) n));rw [hm] at this;exact this
 clear h;go_enter func171,ntmps171;go_upto_region 1 with fail
 generalize w.alloc (.cells zR0 28)=W0 at *;go_quiet (first | (go_at_call_of 96 (Value.string ⟨#[40]⟩);exact Calls.quiet_of_same (zDK (K40 _))))
 have hb9:Below W0.heap.size W0 (W0.drewN nq):=zAH (Below.refl _ _) nq;have hB9:=zAA hB0 hb9;have hR9:=h0.below hb9;have pZ9:=AtL.below hb9 pZ;generalize W0.drewN nq=W9 at *;have F:=zAx tn lo kp en 50 W9 _ hR9;go_wp2_with fail
 refine F.mono ?_;rintro e w2 ⟨rfl,hR2,hg2⟩;have hG2:w.grownBy w2 (some kp):=zAB (zAC hB9 _) hg2;have pZ2:AtL w2 w.heap.size (rf5 Wt.r0):=pZ9.grown hg2 (λe=>by have:=Option.some.inj e;omega);have tR:w2.there w.heap.size 0 (rf5 Wt.r0).toArray.size:=pZ2.there;go_wp2_with ((with_reducible refine wpList_store_mid ?_ 28 (.tmp 2) (.tmp 51) ?_ (w.heap.size) 0 (rf5 Wt.r0).toArray ?_ ?_ ?_ ?_ ?_ ?_);rfl;rfl;rfl;rfl;exact tR;kernel_rfl;exact zCO _)
 have rR2:=AtL.setAll pZ2 (vs:=rf5 Wt.r0) rfl;refine bodyPost_ret (v:=.agg (rf5 Wt.r0).toArray) (zAG (by rfl) _ _ w.heap.size (rf5 Wt.r0) _ (by rfl) rR2.range underlying28 rfl (by kernel_rfl)) rfl ?_;exact ⟨zAK hG2 (Nat.le_refl _) _ 0,by decide,rfl,_,hR2.row (zAW w2 w.heap.size _ 0) (λb e=>by have:=Option.some.inj e;omega)⟩
theorem zOZ (tn lo kp:Nat) (en:Int) (w:World) (t:Wlx.TV) (r:List Wlx.TV) (h:RS tn lo kp en w (t::r) 0 0) (hk:t.k=3) (hm0:mkk (t::r) 1 [40]=false) (hm:mkk (t::r) 1 [33]=true):
  Calls prog 171 #[.pointer (some ⟨kp,0,none⟩)] w λe w'=>zEL tn lo kp en (.inr (50,pos (t::r) en)) w e w':=by
 obtain ⟨hkl,hlo,h1024⟩:=h.lo;have pZ:AtL (w.alloc (.cells zR0 28)) w.heap.size (rf5 Wt.r0):=AtL.new0 w _ _;have hB0:=zAI (Below.refl _ w) (.cells zR0 28);have h0:=h.below hB0;have hkw:kp<w.heap.size:=by omega
 obtain ⟨g,len,cap,a,c0,c1,c3,hal,ha,t0,t1,t2⟩:=zAn h0;have hge:decide (len<=a)=false:=by simp;omega
 rw [hk] at t0;have K40:∀ n,Calls prog 96 #[.pointer (some ⟨kp,0,none⟩),.int .i64 1,.string ⟨#[40]⟩] ((w.alloc (.cells zR0 28)).drewN n) λe w'=>e=.returned (.bool false)/\(w.alloc (.cells zR0 28)).drewN n=w':=λn=>by
  have:=zAL tn lo kp en _ _ 0 0 1 (by omega) [40] (h0.below (zAH (Below.refl _ _) n));rw [hm0] at this;exact this
 have K33:∀ n,Calls prog 96 #[.pointer (some ⟨kp,0,none⟩),.int .i64 1,.string ⟨#[33]⟩] ((w.alloc (.cells zR0 28)).drewN n) λe w'=>e=.returned (.bool true)/\(w.alloc (.cells zR0 28)).drewN n=w':=λn=>by
  have:=zAL tn lo kp en _ _ 0 0 1 (by omega) [33] (h0.below (zAH (Below.refl _ _) n));rw [hm] at this;exact this
 clear h;go_enter func171,ntmps171;go_upto_region 1 with fail
 generalize w.alloc (.cells zR0 28)=W0 at *;go_quiet (first | (go_at_call_of 96 (Value.string ⟨#[40]⟩);exact Calls.quiet_of_same (zDK (K40 _))) | (go_at_call_of 96 (Value.string ⟨#[33]⟩);exact Calls.quiet_of_same (zDK (K33 _))))
 have hb9:Below W0.heap.size W0 (W0.drewN nq):=zAH (Below.refl _ _) nq;have hB9:=zAA hB0 hb9;have hR9:=h0.below hb9;have pZ9:=AtL.below hb9 pZ;generalize W0.drewN nq=W9 at *;have F:=zAx tn lo kp en 50 W9 _ hR9;go_wp2_with fail
 refine F.mono ?_;rintro e w2 ⟨rfl,hR2,hg2⟩;have hG2:w.grownBy w2 (some kp):=zAB (zAC hB9 _) hg2;have pZ2:AtL w2 w.heap.size (rf5 Wt.r0):=pZ9.grown hg2 (λe=>by have:=Option.some.inj e;omega);have tR:w2.there w.heap.size 0 (rf5 Wt.r0).toArray.size:=pZ2.there;go_wp2_with ((with_reducible refine wpList_store_mid ?_ 28 (.tmp 2) (.tmp 51) ?_ (w.heap.size) 0 (rf5 Wt.r0).toArray ?_ ?_ ?_ ?_ ?_ ?_);rfl;rfl;rfl;rfl;exact tR;kernel_rfl;exact zCO _)
 have rR2:=AtL.setAll pZ2 (vs:=rf5 Wt.r0) rfl;refine bodyPost_ret (v:=.agg (rf5 Wt.r0).toArray) (zAG (by rfl) _ _ w.heap.size (rf5 Wt.r0) _ (by rfl) rR2.range underlying28 rfl (by kernel_rfl)) rfl ?_;exact ⟨zAK hG2 (Nat.le_refl _) _ 0,by decide,rfl,_,hR2.row (zAW w2 w.heap.size _ 0) (λb e=>by have:=Option.some.inj e;omega)⟩
end Go.Proofs.YtdghjlmnlodnlaaGreatDoor
