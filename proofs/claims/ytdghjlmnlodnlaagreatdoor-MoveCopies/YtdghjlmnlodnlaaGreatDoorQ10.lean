/- WalkRd, WalkC, AtKit, WalkF, WalkG, WalkR, PlainT, WalkRf. -/
import Derived.Test.YtdghjlmnlodnlaaGreatDoorQ09
set_option maxHeartbeats 800000
set_option maxRecDepth 100000
namespace Go.Proofs.YtdghjlmnlodnlaaGreatDoor
open Go.RowKit Tryz
set_option linter.unusedVariables false
variable {W W' w:World} {k:Nat} {v0 v1:Value}
theorem zBc (s:ByteArray) (w:World) (hs:s.size<=9223372036854775807) :
  Calls prog 209 #[.string s] w λe w'=>e=.returned (.tuple #[.int .i64 (Wnum.rdV s),.string (Wnum.rdS s),.bool (Wnum.dB s 0)])/\∃ n,w'=w.drewN n:=by
 go_enter func209,ntmps209;go_wp2;go_loop [2,5,6] (λx i _=>∃ j:Nat,∃ a:Int,j<=Wnum.dk s 0/\x=.int .i64 a/\i=.int .i64 j/\0<=a/\a<=1000000000000000000/\Hid (Wnum.say s 0 j=a)) (λ_ i _=>s.size - (intOf i).toNat)
 case atStart=>exact ⟨0,0,Nat.zero_le _,rfl,rfl,by omega,by omega,(rfl:Wnum.say s 0 0=0)⟩
 case round =>
  obtain ⟨j,a,hj,rfl,rfl,ha,hb,ea⟩:=hrel;have hds:Wnum.dk s 0<=s.size:=by have:=Wnum.dk_le s 0;omega
  have HJ:Hid (j<=Wnum.dk s 0):=hj;have HS:Hid (Wnum.dk s 0<=s.size):=hds;clear hj hds;by_cases hlt:j<s.size
  ·have eb:=Wnum.bt_get hlt;obtain ⟨c0,c1⟩:=Wnum.bt_bd s j;obtain ⟨c,ec⟩:∃ c,c=Wnum.bt s j:=⟨_,rfl⟩
   have EC:Hid (Wnum.bt s (0+j)=c):=by show _=_;rw [Nat.zero_add,ec]
   rw [<-ec] at eb c0 c1;clear ec;by_cases d1:48<=c
   ·by_cases d2:c<=57
    ·have lt:=Wnum.dk_more HJ.out (by omega) (by rw [EC.out];exact ⟨d1,d2⟩);have LT:Hid (j<Wnum.dk s 0):=lt;have SS:Hid (Wnum.say s 0 (j+1)=a * 10+(c - 48)):=by show _=_;rw [Wnum.say_succ,ea.out,EC.out]
     clear lt;by_cases ov:(1000000000000000000 - (c - 48)) / 10<a
     ·have f0:=Wnum.over_before (j:=j+1) LT.out (by rw [SS.out];exact Wnum.ten_step.1 ov);obtain ⟨f1,f2⟩:=Wnum.rd_false f0;have F0:Hid (Wnum.dB s 0=false):=f0;have F1:Hid (Wnum.rdV s=0):=f1;have F2:Hid (Wnum.rdS s=⟨#[]⟩):=f2;clear f0 f1 f2;go_wp2;go_ret3
      exact ⟨by rw [F0.out,F1.out,F2.out];rfl,0,rfl⟩
     ·have nv:a * 10+(c - 48)<=1000000000000000000:=by
       have:¬ 1000000000000000000<a * 10+(c - 48):=λh=>ov (Wnum.ten_step.2 h)
       omega
      have n0:0<=a * 10+(c - 48):=by omega
      go_wp2;go_round
      case rel=>exact ⟨j+1,a * 10+(c - 48),LT.out,by go_num,by go_num,n0,nv,SS⟩
      case measure=>simp [intOf];omega
    ·have ek:=Wnum.dk_stop HJ.out (Or.inr (by rw [EC.out];intro h;exact d2 h.2));have d2':decide (c<=57)=false:=decide_eq_false d2;obtain ⟨g1,g2⟩:=Wnum.dB_stop ek (by rw [ea.out];exact hb);rw [ea.out] at g1;by_cases hz:j=0
     ·have f0:Wnum.dB s 0=false:=by rw [g2];exact decide_eq_false (by omega)
      have hz':((j:Int) == 0)=true:=by rw [beq_iff_eq];omega
      obtain ⟨f1,f2⟩:=Wnum.rd_false f0;have F0:Hid (Wnum.dB s 0=false):=f0;have F1:Hid (Wnum.rdV s=0):=f1;have F2:Hid (Wnum.rdS s=⟨#[]⟩):=f2;clear f0 f1 f2 g1 g2 ek hz;go_wp2;go_ret3
      exact ⟨by rw [F0.out,F1.out,F2.out];rfl,0,rfl⟩
     ·have f0:Wnum.dB s 0=true:=by rw [g2];exact decide_eq_true (by omega)
      obtain ⟨f1,f2⟩:=Wnum.rd_true f0;rw [g1] at f1;rw [ek] at f2;have F0:Hid (Wnum.dB s 0=true):=f0;have F1:Hid (Wnum.rdV s=a):=f1;have F2:Hid (Wnum.rdS s=s.extract j s.size):=f2;clear f0 f1 f2 g1 g2 ek;have hz':((j:Int) == 0)=false:=by rw [beq_eq_false_iff_ne];omega
      go_wp2;go_quiet (fail)
      go_wp2;go_ret3
      exact ⟨by rw [F0.out,F1.out,F2.out];rfl,_,rfl⟩
   ·have ek:=Wnum.dk_stop HJ.out (Or.inr (by rw [EC.out];intro h;exact d1 h.1));have d1':decide (48<=c)=false:=decide_eq_false d1;obtain ⟨g1,g2⟩:=Wnum.dB_stop ek (by rw [ea.out];exact hb);rw [ea.out] at g1;by_cases hz:j=0
    ·have f0:Wnum.dB s 0=false:=by rw [g2];exact decide_eq_false (by omega)
     have hz':((j:Int) == 0)=true:=by rw [beq_iff_eq];omega
     obtain ⟨f1,f2⟩:=Wnum.rd_false f0;have F0:Hid (Wnum.dB s 0=false):=f0;have F1:Hid (Wnum.rdV s=0):=f1;have F2:Hid (Wnum.rdS s=⟨#[]⟩):=f2;clear f0 f1 f2 g1 g2 ek hz;go_wp2;go_ret3
     exact ⟨by rw [F0.out,F1.out,F2.out];rfl,0,rfl⟩
    ·have f0:Wnum.dB s 0=true:=by rw [g2];exact decide_eq_true (by omega)
     obtain ⟨f1,f2⟩:=Wnum.rd_true f0;rw [g1] at f1;rw [ek] at f2;have F0:Hid (Wnum.dB s 0=true):=f0;have F1:Hid (Wnum.rdV s=a):=f1;have F2:Hid (Wnum.rdS s=s.extract j s.size):=f2;clear f0 f1 f2 g1 g2 ek;have hz':((j:Int) == 0)=false:=by rw [beq_eq_false_iff_ne];omega
     go_wp2;go_quiet (fail)
     go_wp2;go_ret3
     exact ⟨by rw [F0.out,F1.out,F2.out];rfl,_,rfl⟩
  ·have ek:=Wnum.dk_stop HJ.out (Or.inl (by omega));have ej:j=s.size:=by have:=HJ.out;have:=HS.out;omega
   obtain ⟨g1,g2⟩:=Wnum.dB_stop ek (by rw [ea.out];exact hb);rw [ea.out] at g1;by_cases hz:j=0
   ·have f0:Wnum.dB s 0=false:=by rw [g2];exact decide_eq_false (by omega)
    have hz':((j:Int) == 0)=true:=by rw [beq_iff_eq];omega
    obtain ⟨f1,f2⟩:=Wnum.rd_false f0;have F0:Hid (Wnum.dB s 0=false):=f0;have F1:Hid (Wnum.rdV s=0):=f1;have F2:Hid (Wnum.rdS s=⟨#[]⟩):=f2;clear f0 f1 f2 g1 g2 ek ej hz;go_wp2;go_ret3
    exact ⟨by rw [F0.out,F1.out,F2.out];rfl,0,rfl⟩
   ·have f0:Wnum.dB s 0=true:=by rw [g2];exact decide_eq_true (by omega)
    obtain ⟨f1,f2⟩:=Wnum.rd_true f0;rw [g1] at f1;rw [ek] at f2;have F0:Hid (Wnum.dB s 0=true):=f0;have F1:Hid (Wnum.rdV s=a):=f1;have F2:Hid (Wnum.rdS s=s.extract j s.size):=f2;have jl:j<=s.size:=by omega
    clear f0 f1 f2 g1 g2 ek ej;have hz':((j:Int) == 0)=false:=by rw [beq_eq_false_iff_ne];omega
    go_wp2;go_quiet (fail)
    go_wp2;go_ret3
    exact ⟨by rw [F0.out,F1.out,F2.out];rfl,_,rfl⟩
theorem zMp (n d:Int) (w:World) (h1:-9223372036854775807<=n) (h2:n<=9223372036854775807) (h3:1<=d) (h4:d<=9223372036854775807) :
  CR 201 #[.int .i64 n,.int .i64 d] w (.tuple #[.agg #[.int .i64 (Wnum.oN (some (Rat.divInt n d))),.int .i64 (Wnum.oD (some (Rat.divInt n d)))],.bool (Wnum.oB (some (Rat.divInt n d)))]):=by
 obtain ⟨g1,g2,g3,g4,g5⟩:=Wnum.mk_tdiv h3 h1 h2;have k1:Hid ((Rat.divInt n d).num=n.tdiv ((Int.gcd n d:Nat):Int)):=g4;have g8:d.tdiv ((Int.gcd n d:Nat):Int)=d / ((Int.gcd n d:Nat):Int):=Int.tdiv_eq_ediv_of_nonneg (by omega);have k2:Hid ((((Rat.divInt n d).den:Nat):Int)=d.tdiv ((Int.gcd n d:Nat):Int)):=g5.trans g8.symm;have g6:0<=d / ((Int.gcd n d:Nat):Int):=Int.ediv_nonneg (by omega) (by omega);have g7:d / ((Int.gcd n d:Nat):Int)<=d:=Int.ediv_le_self _ (by omega);rw [<-g8] at g6 g7;have g9:d.tdiv ((Int.gcd n d:Nat):Int)<=9223372036854775807:=by omega
 have g10:-9223372036854775807<=d.tdiv ((Int.gcd n d:Nat):Int):=by omega
 have hw:IntKind.i64.wrap (d.tdiv ((Int.gcd n d:Nat):Int))=d.tdiv ((Int.gcd n d:Nat):Int):=IntWalk.i64_in _ (by omega);have hwn:IntKind.i64.wrap (n.tdiv ((Int.gcd n d:Nat):Int))=n.tdiv ((Int.gcd n d:Nat):Int):=IntWalk.i64_in _ (by omega);clear g4 g5 g8 g7 g6;have t0:(n == -9223372036854775808)=false:=beq_eq_false_iff_ne.2 (by omega);have t1:(d == -9223372036854775808)=false:=beq_eq_false_iff_ne.2 (by omega);have t2:(d == 0)=false:=beq_eq_false_iff_ne.2 (by omega);have t3:decide (d<0)=false:=by simp;omega
 generalize Rat.divInt n d=r at *;go_enter func201,ntmps201;go_wp2_with (go_at_call 152;refine (zCS _ _ _ (by omega) (by omega) (by omega) (by omega)).mono ?_;rintro e w1 ⟨rfl,nq,rfl⟩)
 clear t0 t1 t2 t3;go_region_with ((go_at_call 211;refine (zDV _ _ r _ g2 g3 k1 k2).mono ?_;rintro e w1 ⟨rfl,hb⟩;obtain ⟨hc,hf⟩:=zIb hb;have hz:=bsz (k:=w.heap.size) hb (by simp)))
 all_goals
  go_wp2;refine bodyPost_ret (v:=.tuple #[.agg #[.int .i64 (Wnum.oN (some r)),.int .i64 (Wnum.oD (some r))],.bool (Wnum.oB (some r))]) (by simp [results,results201,go_sem,hc]) rfl ⟨rfl,?_⟩;exact clA
def At (W:World) (k:Nat) (v0 v1:Value):Prop :=
 W.cell? ⟨k,0,none⟩=some v0/\W.cell? ⟨k,1,none⟩=some v1/\W.frozen? ⟨k,0,none⟩=false/\W.frozen? ⟨k,1,none⟩=false
theorem At.lt (h:At W k v0 v1):k<W.heap.size:=World.block_lt_of_cell? W ⟨k,0,none⟩ h.1
theorem At.new (W:World) (t:TypeId) {k:Nat} (hk:k=W.heap.size) (v0 v1:Value):At (W.alloc (.cells #[v0,v1] t)) k v0 v1:=by
 subst hk;exact ⟨by simp [go_sem],by simp [go_sem],by simp [go_sem],by simp [go_sem]⟩
theorem At.below (hb:Below W.heap.size W W') {k:Nat} {v0 v1:Value} (h:At W k v0 v1):At W' k v0 v1:=by
 have hl:=h.lt;obtain ⟨h1,h2,h3,h4⟩:=h;exact ⟨(hb.cell (p:=⟨k,0,none⟩) hl).trans h1,(hb.cell (p:=⟨k,1,none⟩) hl).trans h2,(hb.frozen (p:=⟨k,0,none⟩) hl).trans h3,(hb.frozen (p:=⟨k,1,none⟩) hl).trans h4⟩
theorem At.drewN (h:At W k v0 v1) (n:Nat):At (W.drewN n) k v0 v1:=At.below (zAH (Below.refl _ _) n) h
theorem At.drew (h:At W k v0 v1):At W.drew k v0 v1:=At.below (Below.refl _ _).drew h
theorem At.set0 (h:At W k v0 v1) (u:Value):At (W.setCell ⟨k,0,none⟩ u) k u v1:=by
 obtain ⟨h1,h2,h3,h4⟩:=h;refine ⟨World.cell?_setCell_same _ _ _ h1,?_,?_,?_⟩
 ·rw [World.cell?_setCell_other _ _ _ _ (by simp)];exact h2
 ·rw [World.frozen?_setCell];exact h3
 ·rw [World.frozen?_setCell];exact h4
theorem At.set1 (h:At W k v0 v1) (u:Value):At (W.setCell ⟨k,1,none⟩ u) k v0 u:=by
 obtain ⟨h1,h2,h3,h4⟩:=h;refine ⟨?_,World.cell?_setCell_same _ _ _ h2,?_,?_⟩
 ·rw [World.cell?_setCell_other _ _ _ _ (by simp)];exact h1
 ·rw [World.frozen?_setCell];exact h3
 ·rw [World.frozen?_setCell];exact h4
theorem At.put (h:At W k v0 v1) (u0 u1:Value):At ((W.setCell ⟨k,0,none⟩ u0).setCell ⟨k,1,none⟩ u1) k u0 u1:=(h.set0 u0).set1 u1
theorem zAV (hb:Below w.heap.size w W) (hk:w.heap.size<=k) (u0 u1:Value):Below w.heap.size w ((W.setCell ⟨k,0,none⟩ u0).setCell ⟨k,1,none⟩ u1) :=
 (hb.setCell (p:=⟨k,0,none⟩) hk u0).setCell (p:=⟨k,1,none⟩) hk u1
theorem zQf {a b:Value} (hb:Below W.heap.size W W') (h:W.cell? ⟨k,0,none⟩=some a/\W.cell? ⟨k,1,none⟩=some b):W'.cell? ⟨k,0,none⟩=some a/\W'.cell? ⟨k,1,none⟩=some b :=
 ⟨(hb.cell (p:=⟨k,0,none⟩) (World.block_lt_of_cell? W _ h.1)).trans h.1,(hb.cell (p:=⟨k,1,none⟩) (World.block_lt_of_cell? W _ h.2)).trans h.2⟩
theorem zMA (a b:Nat) (w:World) (h1:a<=18446744073709551615) (h2:b<=18446744073709551615) :
  Calls prog 153 #[.int .u64 (a:Int),.int .u64 (b:Int)] w λe w'=>e=.returned (.int .u64 (Nat.gcd a b:Int))/\w=w':=by
 go_enter func153,ntmps153;go_wp2;go_loop [0,1,5] (λx y _=>∃ p q:Nat,x=.int .u64 p/\y=.int .u64 q/\p<=18446744073709551615/\q<=18446744073709551615/\Hid (Nat.gcd p q=Nat.gcd a b)) (λ_ y _=>(intOf y).toNat)
 case atStart=>exact ⟨a,b,rfl,rfl,h1,h2,(rfl:Nat.gcd a b=Nat.gcd a b)⟩
 case round =>
  obtain ⟨p,q,rfl,rfl,hp,hq,hg⟩:=hrel;by_cases hz:q=0
  ·subst hz;go_wp2;go_ret;exact ⟨zCy (by rw [<-hg.out,Nat.gcd_zero_right]),rfl⟩
  ·have hz':((q:Int) != 0)=true:=by simp;omega
   go_wp2;go_round
   case rel=>exact ⟨q,p % q,rfl,by go_num,hq,by have:=Nat.mod_lt p (Nat.pos_of_ne_zero hz);omega,by exact (show Nat.gcd q (p % q)=Nat.gcd a b by rw [<-hg.out,Nat.gcd_comm p q,Nat.gcd_rec q p,Nat.gcd_comm])⟩
   case measure=>simp [intOf];have:=Nat.mod_lt p (Nat.pos_of_ne_zero hz);omega
theorem zBt (a b:Int) (w:World) (h0:0<=a) (h1:a<=18446744073709551615) (h2:0<=b) (h3:b<=18446744073709551615) :
  Calls prog 153 #[.int .u64 a,.int .u64 b] w λe w'=>e=.returned (.int .u64 (Int.gcd a b:Int))/\w=w':=by
 obtain ⟨x,rfl⟩:=Int.eq_ofNat_of_zero_le h0;obtain ⟨y,rfl⟩:=Int.eq_ofNat_of_zero_le h2;exact zMA x y w (by omega) (by omega)
theorem zDK {P:Program} {f:FuncId} {args:Array Value} {v:Value} (h:Calls P f args w λe w'=>e=.returned v/\w=w'):Calls P f args w λe w'=>e=.returned v/\w'=w :=
 h.mono λ_ _ ⟨a,b⟩=>⟨a,b.symm⟩
theorem zCU (n:Int) (w:World) (h1:-9223372036854775808<=n) (h2:n<=9223372036854775807) :
  Calls prog 122 #[.int .i64 n] w λe w'=>e=.returned (.int .u64 (n.natAbs:Int))/\w=w':=by
 by_cases h:n<0
 ·go_enter func122,ntmps122;go_wp2;go_ret;exact ⟨zCy (by omega),rfl⟩
 ·go_enter func122,ntmps122;go_wp2;go_ret;exact ⟨zCy (by omega),rfl⟩
theorem zDC (n d:Int) (w:World) (h1:-9223372036854775808<=n) (h2:n<=9223372036854775807) (h3:-9223372036854775808<=d) (h4:d<=9223372036854775807) :
  CR 134 #[.agg #[.int .i64 n,.int .i64 d]] w (.bool (Wnum.rightB n d)):=by
 by_cases c3:d<1
 ·have e:Hid (Wnum.rightB n d=false):=by show Wnum.rightB n d=false;unfold Wnum.rightB;rw [decide_eq_false_iff_not];omega
  rw [e.out];clear e;go_enter func134,ntmps134;go_wp2;go_ret;exact ⟨rfl,clA⟩
 by_cases c4:1000000<d
 ·have e:Hid (Wnum.rightB n d=false):=by show Wnum.rightB n d=false;unfold Wnum.rightB;rw [decide_eq_false_iff_not];omega
  rw [e.out];clear e;go_enter func134,ntmps134;go_wp2;go_ret;exact ⟨rfl,clA⟩
 by_cases c1:n < -1000000000000
 ·have e:Hid (Wnum.rightB n d=false):=by show Wnum.rightB n d=false;unfold Wnum.rightB;rw [decide_eq_false_iff_not];omega
  rw [e.out];clear e;go_enter func134,ntmps134;go_wp2;go_ret;exact ⟨rfl,clA⟩
 by_cases c2:1000000000000<n
 ·have e:Hid (Wnum.rightB n d=false):=by show Wnum.rightB n d=false;unfold Wnum.rightB;rw [decide_eq_false_iff_not];omega
  rw [e.out];clear e;go_enter func134,ntmps134;go_wp2;go_ret;exact ⟨rfl,clA⟩
 have e:Hid ((((Int.gcd (n.natAbs:Int) d:Nat):Int) == 1)=Wnum.rightB n d):=by
  show _=_
  have e0:Int.gcd (n.natAbs:Int) d=Int.gcd n d:=by simp [Int.gcd]
  rw [e0];unfold Wnum.rightB;by_cases g:Int.gcd n d=1
  ·rw [g,decide_eq_true (by omega)];rfl
  ·rw [decide_eq_false (by omega),beq_eq_false_iff_ne];omega
 rw [<-e.out];clear e;have hw:IntKind.u64.wrap d=d:=IntWalk.u64_in _ (by omega);have b0:(0:Int)<=(n.natAbs:Int):=by omega
 have b1:(n.natAbs:Int)<=18446744073709551615:=by omega
 have b2:0<=d:=by omega
 have b3:d<=18446744073709551615:=by omega
 go_enter func134,ntmps134;go_wp2;go_quiet (first | (go_at_call 122;exact Calls.quiet_of_same (zDK (zCU _ _ h1 h2))) | (go_at_call 153;exact Calls.quiet_of_same (zDK (zBt _ _ _ b0 b1 b2 b3))))
 go_wp2;go_ret;exact ⟨rfl,clA⟩
theorem zD1 (n d:Int) (w:World) (h1:-9223372036854775808<=n) (h2:n<=9223372036854775807) (h3:-9223372036854775808<=d) (h4:d<=9223372036854775807) :
  CR 121 #[.agg #[.int .i64 n,.int .i64 d]] w (.agg #[.int .i64 (Wnum.cN n d),.int .i64 (Wnum.cD n d)]):=by
 cases hr:Wnum.rightB n d with
 | true =>
  have e1:Wnum.cN n d=n:=by unfold Wnum.cN;rw [if_pos hr]
  have e2:Wnum.cD n d=d:=by unfold Wnum.cD;rw [if_pos hr]
  rw [e1,e2];clear e1 e2;have H:Hid (Wnum.rightB n d=true):=hr;clear hr;go_enter func121,ntmps121;go_wp2_with fail
  refine (zDC _ _ _ h1 h2 h3 h4).mono ?_;rintro e w1 ⟨rfl,hb⟩;rw [H.out];obtain ⟨hc,hf⟩:=zIb hb;have hz:=bsz (k:=w.heap.size+1) hb (by simp);go_wp2;refine bodyPost_ret (v:=.agg #[.int .i64 n,.int .i64 d]) (by simp [results,results121,go_sem,hc]) rfl ⟨rfl,?_⟩;exact clA
 | false =>
  have e1:Wnum.cN n d=0:=by unfold Wnum.cN;rw [hr];rfl
  have e2:Wnum.cD n d=1:=by unfold Wnum.cD;rw [hr];rfl
  rw [e1,e2];clear e1 e2;have H:Hid (Wnum.rightB n d=false):=hr;clear hr;go_enter func121,ntmps121;go_wp2_with fail
  refine (zDC _ _ _ h1 h2 h3 h4).mono ?_;rintro e w1 ⟨rfl,hb⟩;rw [H.out];obtain ⟨hc,hf⟩:=zIb hb;have hz:=bsz (k:=w.heap.size+1) hb (by simp);go_wp2;refine bodyPost_ret (v:=.agg #[.int .i64 0,.int .i64 1]) (by simp [results,results121,go_sem,hc]) rfl ⟨rfl,?_⟩;exact clA
theorem zLm (n d:Int) (w:World) (h1:0<=n) (h2:n<=18446744073709551615) (h3:1<=d) (h4:d<=18446744073709551615) :
  CR 150 #[.bool false,.int .u64 n,.int .u64 d] w (.tuple #[.agg #[.int .i64 (Wnum.oN (some (Rat.divInt (n) d))),.int .i64 (Wnum.oD (some (Rat.divInt (n) d)))],.bool (Wnum.oB (some (Rat.divInt (n) d)))]):=by
 obtain ⟨q1,q2,q3,q4,q5,q6,q7,_,_⟩:=Wnum.made_parts h1 h3;generalize Rat.divInt (n) d=r at *;by_cases c:n / ((Int.gcd n d:Nat):Int)<=1000000000000/\d / ((Int.gcd n d:Nat):Int)<=1000000
 ·obtain ⟨c1,c2⟩:=c;obtain ⟨e1,e2,e3⟩:=Wnum.oNs (r:=r) (Wnum.ok_iff.2 (by omega));rw [e1,e2,e3,q6,q7];clear e1 e2 e3 q6 q7;have t1:decide (1000000000000<n / ((Int.gcd n d:Nat):Int))=false:=by simp;omega
  have t2:decide (1000000<d / ((Int.gcd n d:Nat):Int))=false:=by simp;omega
  go_enter func150,ntmps150;go_wp2_with fail
  refine (zBt _ _ _ h1 h2 (by omega) h4).mono ?_;rintro e w1 ⟨rfl,rfl⟩;go_wp2;refine bodyPost_ret (v:=.tuple #[.agg #[.int .i64 (n / ((Int.gcd n d:Nat):Int)),.int .i64 (d / ((Int.gcd n d:Nat):Int))],.bool true]) (by simp [results,results150,go_sem]) rfl ⟨rfl,?_⟩;exact clA
 ·obtain ⟨e1,e2,e3⟩:=Wnum.oNn (r:=r) (Wnum.ok_not (by omega));rw [e1,e2,e3];clear e1 e2 e3 q6 q7;by_cases c1:n / ((Int.gcd n d:Nat):Int)<=1000000000000
  ·have t1:decide (1000000000000<n / ((Int.gcd n d:Nat):Int))=false:=by simp;omega
   have t2:decide (1000000<d / ((Int.gcd n d:Nat):Int))=true:=by simp;omega
   clear c c1;go_enter func150,ntmps150;go_wp2_with fail
   refine (zBt _ _ _ h1 h2 (by omega) h4).mono ?_;rintro e w1 ⟨rfl,rfl⟩;go_wp2;refine bodyPost_ret (v:=.tuple #[.agg #[.int .i64 0,.int .i64 0],.bool false]) (by simp [results,results150,go_sem]) rfl ⟨rfl,?_⟩;exact clA
  ·have t1:decide (1000000000000<n / ((Int.gcd n d:Nat):Int))=true:=by simp;omega
   clear c c1;go_enter func150,ntmps150;go_wp2_with fail
   refine (zBt _ _ _ h1 h2 (by omega) h4).mono ?_;rintro e w1 ⟨rfl,rfl⟩;go_wp2;refine bodyPost_ret (v:=.tuple #[.agg #[.int .i64 0,.int .i64 0],.bool false]) (by simp [results,results150,go_sem]) rfl ⟨rfl,?_⟩;exact clA
theorem zLL (n d:Int) (w:World) (h1:0<=n) (h2:n<=18446744073709551615) (h3:1<=d) (h4:d<=18446744073709551615) :
  CR 150 #[.bool true,.int .u64 n,.int .u64 d] w (.tuple #[.agg #[.int .i64 (Wnum.oN (some (Rat.divInt (-n) d))),.int .i64 (Wnum.oD (some (Rat.divInt (-n) d)))],.bool (Wnum.oB (some (Rat.divInt (-n) d)))]):=by
 obtain ⟨q1,q2,q3,q4,q5,_,_,q6,q7⟩:=Wnum.made_parts h1 h3;generalize Rat.divInt (-n) d=r at *;by_cases c:n / ((Int.gcd n d:Nat):Int)<=1000000000000/\d / ((Int.gcd n d:Nat):Int)<=1000000
 ·obtain ⟨c1,c2⟩:=c;obtain ⟨e1,e2,e3⟩:=Wnum.oNs (r:=r) (Wnum.ok_iff.2 (by omega));rw [e1,e2,e3,q6,q7];clear e1 e2 e3 q6 q7;have t1:decide (1000000000000<n / ((Int.gcd n d:Nat):Int))=false:=by simp;omega
  have t2:decide (1000000<d / ((Int.gcd n d:Nat):Int))=false:=by simp;omega
  go_enter func150,ntmps150;go_wp2_with fail
  refine (zBt _ _ _ h1 h2 (by omega) h4).mono ?_;rintro e w1 ⟨rfl,rfl⟩;go_wp2;refine bodyPost_ret (v:=.tuple #[.agg #[.int .i64 (-(n / ((Int.gcd n d:Nat):Int))),.int .i64 (d / ((Int.gcd n d:Nat):Int))],.bool true]) (by simp [results,results150,go_sem]) rfl ⟨rfl,?_⟩;exact clA
 ·obtain ⟨e1,e2,e3⟩:=Wnum.oNn (r:=r) (Wnum.ok_not (by omega));rw [e1,e2,e3];clear e1 e2 e3 q6 q7;by_cases c1:n / ((Int.gcd n d:Nat):Int)<=1000000000000
  ·have t1:decide (1000000000000<n / ((Int.gcd n d:Nat):Int))=false:=by simp;omega
   have t2:decide (1000000<d / ((Int.gcd n d:Nat):Int))=true:=by simp;omega
   clear c c1;go_enter func150,ntmps150;go_wp2_with fail
   refine (zBt _ _ _ h1 h2 (by omega) h4).mono ?_;rintro e w1 ⟨rfl,rfl⟩;go_wp2;refine bodyPost_ret (v:=.tuple #[.agg #[.int .i64 0,.int .i64 0],.bool false]) (by simp [results,results150,go_sem]) rfl ⟨rfl,?_⟩;exact clA
  ·have t1:decide (1000000000000<n / ((Int.gcd n d:Nat):Int))=true:=by simp;omega
   clear c c1;go_enter func150,ntmps150;go_wp2_with fail
   refine (zBt _ _ _ h1 h2 (by omega) h4).mono ?_;rintro e w1 ⟨rfl,rfl⟩;go_wp2;refine bodyPost_ret (v:=.tuple #[.agg #[.int .i64 0,.int .i64 0],.bool false]) (by simp [results,results150,go_sem]) rfl ⟨rfl,?_⟩;exact clA
theorem zKz (k:Int) (w:World) (h1:0<=k) (h2:k<=12) :
  Calls prog 218 #[.int .i64 k] w λe w'=>e=.returned (.int .i64 (Wnum.tenP k.toNat))/\w=w':=by
 obtain ⟨K,rfl⟩:=Int.eq_ofNat_of_zero_le h1;rw [Int.toNat_natCast];go_enter func218,ntmps218;go_wp2;go_loop [3,5] (λr i=>∃ j:Nat,j<=K/\r=.int .i64 (Wnum.tenP j)/\i=.int .i64 j) (λ_ i=>K - (intOf i).toNat)
 case atStart=>exact ⟨0,Nat.zero_le _,rfl,rfl⟩
 case round =>
  obtain ⟨j,hj,rfl,rfl⟩:=hrel;have b1:=Wnum.tenP_pos j;have b2:=Wnum.tenP_le12 (k:=j) (by omega);by_cases hlt:j<K
  ·have E:Hid (Wnum.tenP (j+1)=Wnum.tenP j * 10):=Wnum.tenP_succ j;go_wp2;go_round
   case rel=>exact ⟨j+1,by omega,by rw [E.out],by go_num⟩
   case measure=>simp [intOf];omega
  ·have hj':j=K:=by omega
   subst hj';go_wp2;go_ret;exact ⟨rfl,rfl⟩
theorem zLf (k:Int) (w:World) (h1:0<=k) (h2:k<=12) :
  Calls prog 151 #[.int .i64 k] w λe w'=>e=.returned (.int .u64 (Wnum.tenP k.toNat))/\w=w':=by
 obtain ⟨K,rfl⟩:=Int.eq_ofNat_of_zero_le h1;rw [Int.toNat_natCast];go_enter func151,ntmps151;go_wp2;go_loop [3,4] (λr i=>∃ j:Nat,j<=K/\r=.int .u64 (Wnum.tenP j)/\i=.int .i64 j) (λ_ i=>K - (intOf i).toNat)
 case atStart=>exact ⟨0,Nat.zero_le _,rfl,rfl⟩
 case round =>
  obtain ⟨j,hj,rfl,rfl⟩:=hrel;have b1:=Wnum.tenP_pos j;have b2:=Wnum.tenP_le12 (k:=j) (by omega);by_cases hlt:j<K
  ·have E:Hid (Wnum.tenP (j+1)=Wnum.tenP j * 10):=Wnum.tenP_succ j;go_wp2;go_round
   case rel=>exact ⟨j+1,by omega,by rw [E.out],by go_num⟩
   case measure=>simp [intOf];omega
  ·have hj':j=K:=by omega
   subst hj';go_wp2;go_ret;exact ⟨rfl,rfl⟩
end Go.Proofs.YtdghjlmnlodnlaaGreatDoor
namespace Go.Proofs.YtdghjlmnlodnlaaGreatDoor.Wnum
theorem sub_facts {t:ByteArray} {p:Nat} (h:p<=t.size):(t.extract p t.size).size=t.size - p/\∀ i,bt (t.extract p t.size) i=bt t (p+i):=by
 constructor
 ·rw [ByteArray.size_extract];omega
 ·intro i;obtain ⟨⟨l⟩⟩:=t;have hl:(ByteArray.mk ⟨l⟩).size=l.length:=rfl;have e:((ByteArray.mk ⟨l⟩).extract p (ByteArray.mk ⟨l⟩).size).data.toList=l.drop p:=by
   rw [hl];simp;exact List.take_of_length_le (by simp)
  unfold bt;rw [e];show (((l.drop p).getD i 0).toNat:Int)=((l.getD (p+i) 0).toNat:Int)
  simp [List.getD,List.getElem?_drop]
theorem zC8 {t u:ByteArray} {p:Nat} (hsz:u.size=t.size - p) (hbt:∀ i,bt u i=bt t (p+i)) (i:Nat):dk u i=dk t (p+i)/\dv u i=dv t (p+i)/\dB u i=dB t (p+i):=by
 have hc:∀ k j,cnt u j k=cnt t (p+j) k:=by
  intro k;induction k with
  | zero=>intro j;rfl
  | succ k ih =>
   intro j;show (if isD (bt u j) then cnt u (j+1) k+1 else 0)=(if isD (bt t (p+j)) then cnt t (p+j+1) k+1 else 0)
   rw [hbt,ih,show p+(j+1)=p+j+1 by omega]
 have hsay:∀ k j,say u j k=say t (p+j) k:=by
  intro k;induction k with
  | zero=>intro j;rfl
  | succ k ih =>
   intro j;show say u j k * 10+(bt u (j+k) - 48)=say t (p+j) k * 10+(bt t (p+j+k) - 48)
   rw [ih,hbt,show p+(j+k)=p+j+k by omega]
 have h1:dk u i=dk t (p+i):=by
  unfold dk;rw [hc,hsz,show t.size - p - i=t.size - (p+i) by omega]
 have h2:dv u i=dv t (p+i):=by unfold dv;rw [hsay,h1]
 exact ⟨h1,h2,by unfold dB;rw [h1,h2]⟩
def plB (t:ByteArray) (n:Int):Bool:=decide (t.size<=6) && decide (n<=1000000000000) && dB t 0 && decide (dk t 0=t.size)
def plN (t:ByteArray) (n:Int):Int:=if plB t n=true then n * tenP t.size+dv t 0 else 0
def plD (t:ByteArray) (n:Int):Int:=if plB t n=true then tenP t.size else 0
theorem pl_false {t:ByteArray} {n:Int} (h:plB t n=false):plN t n=0/\plD t n=0:=by unfold plN plD;rw [h];exact ⟨rfl,rfl⟩
theorem pl_true {t:ByteArray} {n:Int} (h:plB t n=true):plN t n=n * tenP t.size+dv t 0/\plD t n=tenP t.size:=by unfold plN plD;rw [h];exact ⟨rfl,rfl⟩
def fC (t:ByteArray):Int:=bt t (dk t 0)
def fS (t:ByteArray):ByteArray:=(t.extract (dk t 0) t.size).extract 1 (t.extract (dk t 0) t.size).size
def fB (t:ByteArray):Bool :=
 if dB t 0=false then false else if dk t 0=t.size then true else if fC t=46 then plB (fS t) (dv t 0) else if fC t=47 then dB (fS t) 0 && decide (dk (fS t) 0=(fS t).size) else false
def fN (t:ByteArray):Int :=
 if fB t=false then 0 else if dk t 0=t.size then dv t 0 else if fC t=46 then plN (fS t) (dv t 0) else dv t 0
def fD (t:ByteArray):Int :=
 if fB t=false then 0 else if dk t 0=t.size then 1 else if fC t=46 then plD (fS t) (dv t 0) else dv (fS t) 0
theorem f_false {t:ByteArray} (h:fB t=false):fN t=0/\fD t=0:=⟨if_pos h,if_pos h⟩
theorem f_none {t:ByteArray} (h:dB t 0=false):fB t=false:=if_pos h
theorem f_whole {t:ByteArray} (h:dB t 0=true) (e:dk t 0=t.size):fB t=true/\fN t=dv t 0/\fD t=1:=by
 have h1:fB t=true:=by unfold fB;rw [if_neg (by rw [h];decide),if_pos e]
 exact ⟨h1,by unfold fN;rw [if_neg (by rw [h1];decide),if_pos e],by unfold fD;rw [if_neg (by rw [h1];decide),if_pos e]⟩
theorem f_point {t:ByteArray} (h:dB t 0=true) (e:¬ dk t 0=t.size) (c:fC t=46):fB t=plB (fS t) (dv t 0)/\fN t=plN (fS t) (dv t 0)/\fD t=plD (fS t) (dv t 0):=by
 have h1:fB t=plB (fS t) (dv t 0):=by unfold fB;rw [if_neg (by rw [h];decide),if_neg e,if_pos c]
 refine ⟨h1,?_,?_⟩
 ·cases hb:plB (fS t) (dv t 0) with
  | false=>rw [(f_false (h1.trans hb)).1,(pl_false hb).1]
  | true=>unfold fN;rw [if_neg (by rw [h1,hb];decide),if_neg e,if_pos c]
 ·cases hb:plB (fS t) (dv t 0) with
  | false=>rw [(f_false (h1.trans hb)).2,(pl_false hb).2]
  | true=>unfold fD;rw [if_neg (by rw [h1,hb];decide),if_neg e,if_pos c]
theorem f_over {t:ByteArray} (h:dB t 0=true) (e:¬ dk t 0=t.size) (c:fC t=47):fB t=(dB (fS t) 0 && decide (dk (fS t) 0=(fS t).size))/\(fB t=true->fN t=dv t 0/\fD t=dv (fS t) 0):=by
 have n46:¬ fC t=46:=by omega
 have h1:fB t=(dB (fS t) 0 && decide (dk (fS t) 0=(fS t).size)):=by unfold fB;rw [if_neg (by rw [h];decide),if_neg e,if_neg n46,if_pos c]
 refine ⟨h1,λhb=>⟨?_,?_⟩⟩
 ·unfold fN;rw [if_neg (by rw [hb];decide),if_neg e,if_neg n46]
 ·unfold fD;rw [if_neg (by rw [hb];decide),if_neg e,if_neg n46]
theorem f_other {t:ByteArray} (h:dB t 0=true) (e:¬ dk t 0=t.size) (c:¬ fC t=46) (c':¬ fC t=47):fB t=false:=by
 unfold fB;rw [if_neg (by rw [h];decide),if_neg e,if_neg c,if_neg c']
theorem dB_bd {t:ByteArray} {i:Nat} (h:dB t i=true):0<dk t i/\0<=dv t i/\dv t i<=1000000000000000000:=by
 have:=of_decide_eq_true h;exact ⟨this.1,zFU t i,this.2⟩
theorem say_small {s:ByteArray} {i:Nat}:∀ k,(∀ m,m<k->isD (bt s (i+m)))->say s i k<tenP k:=by
 intro k;induction k with
 | zero=>intro _;exact (by decide:(0:Int)<1)
 | succ k ih =>
  intro h;have h1:=ih (λm hm=>h m (by omega));have h2:=(h k (by omega)).2;rw [say_succ,tenP_succ];omega
end Go.Proofs.YtdghjlmnlodnlaaGreatDoor.Wnum
namespace Go.Proofs.YtdghjlmnlodnlaaGreatDoor
open Go.RowKit Tryz
set_option linter.unusedVariables false
theorem zFj (r:ByteArray):(r.toList == ([]:List UInt8))=decide (r.size=0):=by
 rw [ByteArray.toList_eq];obtain ⟨⟨l⟩⟩:=r;cases l <;> rfl
theorem zEe (r:ByteArray):r.toList.isEmpty=decide (r.size=0):=by
 rw [ByteArray.toList_eq];obtain ⟨⟨l⟩⟩:=r;cases l <;> rfl
theorem zED (n:Int) (t:ByteArray) (w:World) (h1:0<=n) (h2:n<=1000000000000000000) (hs:t.size<=9223372036854775807) :
  Calls prog 210 #[.int .i64 n,.string t] w λe w'=>e=.returned (.tuple #[.int .i64 (Wnum.plN t n),.int .i64 (Wnum.plD t n),.bool (Wnum.plB t n)])/\∃ k,w'=w.drewN k:=by
 by_cases c1:6<t.size
 ·have f0:Wnum.plB t n=false:=by unfold Wnum.plB;rw [decide_eq_false (by omega)];rfl
  rw [(Wnum.pl_false f0).1,(Wnum.pl_false f0).2,f0];clear f0;go_enter func210,ntmps210;go_wp2;go_ret3
  exact ⟨rfl,0,rfl⟩
 have c1':decide ((6:Int)<(t.size:Int))=false:=decide_eq_false (by omega);by_cases c2:1000000000000<n
 ·have f0:Wnum.plB t n=false:=by unfold Wnum.plB;rw [decide_eq_false (p:=n<=1000000000000) (by omega),Bool.and_false,Bool.false_and];rfl
  rw [(Wnum.pl_false f0).1,(Wnum.pl_false f0).2,f0];clear f0;go_enter func210,ntmps210;go_wp2;go_ret3
  exact ⟨rfl,0,rfl⟩
 have c2':decide (1000000000000<n)=false:=decide_eq_false c2;have P:=λw=>zBc t w hs
 cases hb:Wnum.dB t 0 with
 | false =>
  have f0:Wnum.plB t n=false:=by unfold Wnum.plB;rw [hb,Bool.and_false];rfl
  rw [(Wnum.pl_false f0).1,(Wnum.pl_false f0).2,f0];rw [hb,(Wnum.rd_false hb).1,(Wnum.rd_false hb).2] at P;clear f0 hb;go_enter func210,ntmps210;go_wp2_with fail
  refine (P _).mono ?_;rintro e w1 ⟨rfl,k1,rfl⟩;go_wp2;go_ret3
  exact ⟨rfl,k1,rfl⟩
 | true =>
  obtain ⟨b1,b2,b3⟩:=Wnum.dB_bd hb;have kl:=Wnum.dk_le t 0;have es:=(Wnum.sub_facts (t:=t) (p:=Wnum.dk t 0) (by omega)).1;rw [hb,(Wnum.rd_true hb).1,(Wnum.rd_true hb).2] at P;by_cases c3:Wnum.dk t 0=t.size
  ·have f0:Wnum.plB t n=true:=by unfold Wnum.plB;rw [hb,decide_eq_true c3,decide_eq_true (show t.size<=6 by omega),decide_eq_true (show n<=1000000000000 by omega)];rfl
   have sm:Wnum.dv t 0<Wnum.tenP t.size:=by
    have:=Wnum.say_small (s:=t) (i:=0) (Wnum.dk t 0) (Wnum.dk_all t 0);rw [c3] at this;unfold Wnum.dv;rw [c3];exact this
   rw [(Wnum.pl_true f0).1,(Wnum.pl_true f0).2,f0];have q1:=zEe (t.extract (Wnum.dk t 0) t.size);rw [es,decide_eq_true (by omega)] at q1;generalize t.extract (Wnum.dk t 0) t.size=r at *;generalize Wnum.dv t 0=v at *;have t1:=Wnum.tenP_le6 (k:=t.size) (by omega);have t2:=Wnum.tenP_pos t.size;have T:=λw=>zKz (t.size:Int) w (by omega) (by omega)
   rw [Int.toNat_natCast] at T;generalize Wnum.tenP t.size=ten at *;have m1:0<=n * ten:=Int.mul_nonneg h1 (by omega);have m2:n * ten<=1000000000000 * 1000000:=Int.mul_le_mul (by omega) t1 (by omega) (by omega);clear f0 hb es c3 kl b1;go_enter func210,ntmps210;go_wp2_with fail
   refine (P _).mono ?_;rintro e w1 ⟨rfl,k1,rfl⟩;go_wp2_with fail
   refine (T _).mono ?_;rintro e w2 ⟨rfl,rfl⟩;go_wp2;go_ret3
   exact ⟨rfl,k1,rfl⟩
  ·have f0:Wnum.plB t n=false:=by unfold Wnum.plB;rw [decide_eq_false c3,Bool.and_false]
   rw [(Wnum.pl_false f0).1,(Wnum.pl_false f0).2,f0];have q1:=zEe (t.extract (Wnum.dk t 0) t.size);rw [es,decide_eq_false (by omega)] at q1;generalize t.extract (Wnum.dk t 0) t.size=r at *;generalize Wnum.dv t 0=v at *;clear f0 hb es c3 kl b1;go_enter func210,ntmps210;go_wp2_with fail
   refine (P _).mono ?_;rintro e w1 ⟨rfl,k1,rfl⟩;go_wp2;go_ret3
   exact ⟨rfl,k1,rfl⟩
theorem zDO (t:ByteArray) (w:World) (hs:t.size<=9223372036854775807) :
  Calls prog 200 #[.string t] w λe w'=>e=.returned (.tuple #[.int .i64 (Wnum.fN t),.int .i64 (Wnum.fD t),.bool (Wnum.fB t)])/\∃ k,w'=w.drewN k:=by
 have P:=λw=>zBc t w hs
 cases hb:Wnum.dB t 0 with
 | false =>
  have f0:=Wnum.f_none hb;rw [(Wnum.f_false f0).1,(Wnum.f_false f0).2,f0];rw [hb,(Wnum.rd_false hb).1,(Wnum.rd_false hb).2] at P;clear f0 hb;go_enter func200,ntmps200;go_wp2_with fail
  refine (P _).mono ?_;rintro e w1 ⟨rfl,k1,rfl⟩;go_wp2;go_ret3
  exact ⟨rfl,k1,rfl⟩
 | true =>
  obtain ⟨b1,b2,b3⟩:=Wnum.dB_bd hb;have kl:=Wnum.dk_le t 0;obtain ⟨es,eb⟩:=Wnum.sub_facts (t:=t) (p:=Wnum.dk t 0) (by omega);rw [hb,(Wnum.rd_true hb).1,(Wnum.rd_true hb).2] at P;by_cases c3:Wnum.dk t 0=t.size
  ·obtain ⟨f0,f1,f2⟩:=Wnum.f_whole hb c3;rw [f0,f1,f2];have q1:=zFj (t.extract (Wnum.dk t 0) t.size);rw [es,decide_eq_true (by omega)] at q1;generalize t.extract (Wnum.dk t 0) t.size=r at *;generalize Wnum.dv t 0=v at *;clear f0 f1 f2 hb es eb c3 kl b1;go_enter func200,ntmps200;go_wp2_with fail
   refine (P _).mono ?_;rintro e w1 ⟨rfl,k1,rfl⟩;go_wp2;go_ret3
   exact ⟨rfl,k1,rfl⟩
  ·have q1:=zFj (t.extract (Wnum.dk t 0) t.size);rw [es,decide_eq_false (by omega)] at q1;have r0:0<(t.extract (Wnum.dk t 0) t.size).size:=by rw [es];omega
   have rs:(t.extract (Wnum.dk t 0) t.size).size<=9223372036854775807:=by rw [es];omega
   have ec:=Wnum.bt_get r0;rw [eb 0,Nat.add_zero] at ec;have ec:(((t.extract (Wnum.dk t 0) t.size)[0]'r0).toNat:Int)=Wnum.fC t:=ec;have us:(Wnum.fS t).size<=9223372036854775807:=by
    have:=(Wnum.sub_facts (t:=t.extract (Wnum.dk t 0) t.size) (p:=1) (by omega)).1;show (((t.extract (Wnum.dk t 0) t.size)).extract 1 (t.extract (Wnum.dk t 0) t.size).size).size<=_
    omega
   have U:Hid ((t.extract (Wnum.dk t 0) t.size).extract 1 (t.extract (Wnum.dk t 0) t.size).size=Wnum.fS t):=(rfl:(t.extract (Wnum.dk t 0) t.size).extract 1 (t.extract (Wnum.dk t 0) t.size).size=Wnum.fS t)
   by_cases c46:Wnum.fC t=46
   ·obtain ⟨f0,f1,f2⟩:=Wnum.f_point hb c3 c46;rw [f0,f1,f2];have Q:=λw=>zED (Wnum.dv t 0) (Wnum.fS t) w b2 b3 us
    rw [c46] at ec;clear f0 f1 f2 c46;generalize Wnum.fS t=u at *;generalize Wnum.dv t 0=v at *;clear hb es eb c3 kl b1;generalize t.extract (Wnum.dk t 0) t.size=r at *;go_enter func200,ntmps200;go_wp2_with fail
    refine (P _).mono ?_;rintro e w1 ⟨rfl,k1,rfl⟩;go_wp2_with fail
    rw [U.out];refine (Q _).mono ?_;rintro e w2 ⟨rfl,k2,rfl⟩;go_wp2;go_ret3
    exact ⟨rfl,_,rfl⟩
   ·by_cases c47:Wnum.fC t=47
    ·obtain ⟨f0,f1⟩:=Wnum.f_over hb c3 c47;have Q:=λw=>zBc (Wnum.fS t) w us
     rw [c47] at ec;cases hu:Wnum.dB (Wnum.fS t) 0 with
     | false =>
      have f0':Wnum.fB t=false:=by rw [f0,hu];rfl
      rw [(Wnum.f_false f0').1,(Wnum.f_false f0').2,f0'];rw [hu,(Wnum.rd_false hu).1,(Wnum.rd_false hu).2] at Q;clear f0 f1 f0' c46 c47 hu;generalize Wnum.fS t=u at *;generalize Wnum.dv t 0=v at *;clear hb es eb c3 kl b1;generalize t.extract (Wnum.dk t 0) t.size=r at *;go_enter func200,ntmps200;go_wp2_with fail
      refine (P _).mono ?_;rintro e w1 ⟨rfl,k1,rfl⟩;go_wp2_with fail
      rw [U.out];refine (Q _).mono ?_;rintro e w2 ⟨rfl,k2,rfl⟩;go_wp2;go_ret3
      exact ⟨rfl,_,rfl⟩
     | true =>
      have ul:=Wnum.dk_le (Wnum.fS t) 0;have ues:=(Wnum.sub_facts (t:=Wnum.fS t) (p:=Wnum.dk (Wnum.fS t) 0) (by omega)).1;have q2:=zEe ((Wnum.fS t).extract (Wnum.dk (Wnum.fS t) 0) (Wnum.fS t).size);rw [ues] at q2;rw [hu,(Wnum.rd_true hu).1,(Wnum.rd_true hu).2] at Q;by_cases c5:Wnum.dk (Wnum.fS t) 0=(Wnum.fS t).size
      ·have f0':Wnum.fB t=true:=by rw [f0,hu,decide_eq_true c5];rfl
       rw [(f1 f0').1,(f1 f0').2,f0'];rw [decide_eq_true (by omega)] at q2;clear f0 f1 f0' c46 c47 hu c5 ul ues;generalize Wnum.dv (Wnum.fS t) 0=v2 at *;generalize (Wnum.fS t).extract (Wnum.dk (Wnum.fS t) 0) (Wnum.fS t).size=r2 at *;generalize Wnum.fS t=u at *;generalize Wnum.dv t 0=v at *;clear hb es eb c3 kl b1;generalize t.extract (Wnum.dk t 0) t.size=r at *;go_enter func200,ntmps200;go_wp2_with fail
       refine (P _).mono ?_;rintro e w1 ⟨rfl,k1,rfl⟩;go_wp2_with fail
       rw [U.out];refine (Q _).mono ?_;rintro e w2 ⟨rfl,k2,rfl⟩;go_wp2;go_ret3
       exact ⟨rfl,_,rfl⟩
      ·have f0':Wnum.fB t=false:=by rw [f0,decide_eq_false c5,Bool.and_false]
       rw [(Wnum.f_false f0').1,(Wnum.f_false f0').2,f0'];rw [decide_eq_false (by omega)] at q2;clear f0 f1 f0' c46 c47 hu c5 ul ues;generalize Wnum.dv (Wnum.fS t) 0=v2 at *;generalize (Wnum.fS t).extract (Wnum.dk (Wnum.fS t) 0) (Wnum.fS t).size=r2 at *;generalize Wnum.fS t=u at *;generalize Wnum.dv t 0=v at *;clear hb es eb c3 kl b1;generalize t.extract (Wnum.dk t 0) t.size=r at *;go_enter func200,ntmps200;go_wp2_with fail
       refine (P _).mono ?_;rintro e w1 ⟨rfl,k1,rfl⟩;go_wp2_with fail
       rw [U.out];refine (Q _).mono ?_;rintro e w2 ⟨rfl,k2,rfl⟩;go_wp2;go_ret3
       exact ⟨rfl,_,rfl⟩
    ·have f0:=Wnum.f_other hb c3 c46 c47;rw [(Wnum.f_false f0).1,(Wnum.f_false f0).2,f0];have g1:(Wnum.fC t == 46)=false:=beq_eq_false_iff_ne.2 c46;have g2:(Wnum.fC t == 47)=false:=beq_eq_false_iff_ne.2 c47;clear f0 c46 c47 U us;generalize Wnum.fC t=c at *;generalize Wnum.dv t 0=v at *;clear hb es eb c3 kl b1;generalize t.extract (Wnum.dk t 0) t.size=r at *;go_enter func200,ntmps200;go_wp2_with fail
     refine (P _).mono ?_;rintro e w1 ⟨rfl,k1,rfl⟩;go_wp2;go_ret3
     exact ⟨rfl,k1,rfl⟩
end Go.Proofs.YtdghjlmnlodnlaaGreatDoor
