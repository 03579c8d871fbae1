/- WalkRd, WalkC, AtKit, WalkF, WalkG, WalkR, PlainT. -/
import Derived.Test.YtlggnpohhahdlaaGreatDoorQ10
set_option maxHeartbeats 800000
set_option maxRecDepth 100000
namespace Go.Proofs.YtlggnpohhahdlaaGreatDoor
open Go.RowKit
set_option linter.unusedVariables false
theorem readDigits_any (s:ByteArray) (w:World) (hs:s.size≤9223372036854775807) :
  Calls Tryz.prog 201 #[.string s] w fun e w'=>e=.returned (.tuple #[.int .i64 (Wnum.rdV s),.string (Wnum.rdS s),.bool (Wnum.dB s 0)])∧∃ n,w'=w.drewN n:=by
 go_enter Tryz.func201,Tryz.ntmps201;go_wp2;go_loop [2,5,6] (fun x i _=>∃ j:Nat,∃ a:Int,j≤Wnum.dk s 0∧x=.int .i64 a∧i=.int .i64 j∧0≤a∧a≤1000000000000000000∧Hid (Wnum.say s 0 j=a)) (fun _ i _=>s.size - (intOf i).toNat)
 case atStart=>exact ⟨0,0,Nat.zero_le _,rfl,rfl,by omega,by omega,(rfl:Wnum.say s 0 0=0)⟩
 case round =>
  obtain ⟨j,a,hj,rfl,rfl,ha,hb,ea⟩:=hrel;have hds:Wnum.dk s 0≤s.size:=by have:=Wnum.dk_le s 0;omega
  have HJ:Hid (j≤Wnum.dk s 0):=hj;have HS:Hid (Wnum.dk s 0≤s.size):=hds;clear hj hds;by_cases hlt:j<s.size
  ·have eb:=Wnum.bt_get hlt;obtain ⟨c0,c1⟩:=Wnum.bt_bd s j;obtain ⟨c,ec⟩:∃ c,c=Wnum.bt s j:=⟨_,rfl⟩
   have EC:Hid (Wnum.bt s (0+j)=c):=by show _=_;rw [Nat.zero_add,ec]
   rw [←ec] at eb c0 c1;clear ec;by_cases d1:48≤c
   ·by_cases d2:c≤57
    ·have lt:=Wnum.dk_more HJ.out (by omega) (by rw [EC.out];exact ⟨d1,d2⟩);have LT:Hid (j<Wnum.dk s 0):=lt;have SS:Hid (Wnum.say s 0 (j+1)=a * 10+(c - 48)):=by show _=_;rw [Wnum.say_succ,ea.out,EC.out]
     clear lt;by_cases ov:(1000000000000000000 - (c - 48)) / 10<a
     ·have f0:=Wnum.over_before (j:=j+1) LT.out (by rw [SS.out];exact Wnum.ten_step.1 ov);obtain ⟨f1,f2⟩:=Wnum.rd_false f0;have F0:Hid (Wnum.dB s 0=false):=f0;have F1:Hid (Wnum.rdV s=0):=f1;have F2:Hid (Wnum.rdS s=⟨#[]⟩):=f2;clear f0 f1 f2;go_wp2;go_ret3
      exact ⟨by rw [F0.out,F1.out,F2.out];rfl,0,rfl⟩
     ·have nv:a * 10+(c - 48)≤1000000000000000000:=by
       have:¬ 1000000000000000000<a * 10+(c - 48):=fun h=>ov (Wnum.ten_step.2 h)
       omega
      have n0:0≤a * 10+(c - 48):=by omega
      go_wp2;go_round
      case rel=>exact ⟨j+1,a * 10+(c - 48),LT.out,by go_num,by go_num,n0,nv,SS⟩
      case measure=>simp [intOf];omega
    ·have ek:=Wnum.dk_stop HJ.out (Or.inr (by rw [EC.out];intro h;exact d2 h.2));have d2':decide (c≤57)=false:=decide_eq_false d2;obtain ⟨g1,g2⟩:=Wnum.dB_stop ek (by rw [ea.out];exact hb);rw [ea.out] at g1;by_cases hz:j=0
     ·have f0:Wnum.dB s 0=false:=by rw [g2];exact decide_eq_false (by omega)
      have hz':((j:Int) == 0)=true:=by rw [beq_iff_eq];omega
      obtain ⟨f1,f2⟩:=Wnum.rd_false f0;have F0:Hid (Wnum.dB s 0=false):=f0;have F1:Hid (Wnum.rdV s=0):=f1;have F2:Hid (Wnum.rdS s=⟨#[]⟩):=f2;clear f0 f1 f2 g1 g2 ek hz;go_wp2;go_ret3
      exact ⟨by rw [F0.out,F1.out,F2.out];rfl,0,rfl⟩
     ·have f0:Wnum.dB s 0=true:=by rw [g2];exact decide_eq_true (by omega)
      obtain ⟨f1,f2⟩:=Wnum.rd_true f0;rw [g1] at f1;rw [ek] at f2;have F0:Hid (Wnum.dB s 0=true):=f0;have F1:Hid (Wnum.rdV s=a):=f1;have F2:Hid (Wnum.rdS s=s.extract j s.size):=f2;clear f0 f1 f2 g1 g2 ek;have hz':((j:Int) == 0)=false:=by rw [beq_eq_false_iff_ne];omega
      go_wp2;go_quiet (fail)
      go_wp2;go_ret3
      exact ⟨by rw [F0.out,F1.out,F2.out];rfl,_,rfl⟩
   ·have ek:=Wnum.dk_stop HJ.out (Or.inr (by rw [EC.out];intro h;exact d1 h.1));have d1':decide (48≤c)=false:=decide_eq_false d1;obtain ⟨g1,g2⟩:=Wnum.dB_stop ek (by rw [ea.out];exact hb);rw [ea.out] at g1;by_cases hz:j=0
    ·have f0:Wnum.dB s 0=false:=by rw [g2];exact decide_eq_false (by omega)
     have hz':((j:Int) == 0)=true:=by rw [beq_iff_eq];omega
     obtain ⟨f1,f2⟩:=Wnum.rd_false f0;have F0:Hid (Wnum.dB s 0=false):=f0;have F1:Hid (Wnum.rdV s=0):=f1;have F2:Hid (Wnum.rdS s=⟨#[]⟩):=f2;clear f0 f1 f2 g1 g2 ek hz;go_wp2;go_ret3
     exact ⟨by rw [F0.out,F1.out,F2.out];rfl,0,rfl⟩
    ·have f0:Wnum.dB s 0=true:=by rw [g2];exact decide_eq_true (by omega)
     obtain ⟨f1,f2⟩:=Wnum.rd_true f0;rw [g1] at f1;rw [ek] at f2;have F0:Hid (Wnum.dB s 0=true):=f0;have F1:Hid (Wnum.rdV s=a):=f1;have F2:Hid (Wnum.rdS s=s.extract j s.size):=f2;clear f0 f1 f2 g1 g2 ek;have hz':((j:Int) == 0)=false:=by rw [beq_eq_false_iff_ne];omega
     go_wp2;go_quiet (fail)
     go_wp2;go_ret3
     exact ⟨by rw [F0.out,F1.out,F2.out];rfl,_,rfl⟩
  ·have ek:=Wnum.dk_stop HJ.out (Or.inl (by omega));have ej:j=s.size:=by have:=HJ.out;have:=HS.out;omega
   obtain ⟨g1,g2⟩:=Wnum.dB_stop ek (by rw [ea.out];exact hb);rw [ea.out] at g1;by_cases hz:j=0
   ·have f0:Wnum.dB s 0=false:=by rw [g2];exact decide_eq_false (by omega)
    have hz':((j:Int) == 0)=true:=by rw [beq_iff_eq];omega
    obtain ⟨f1,f2⟩:=Wnum.rd_false f0;have F0:Hid (Wnum.dB s 0=false):=f0;have F1:Hid (Wnum.rdV s=0):=f1;have F2:Hid (Wnum.rdS s=⟨#[]⟩):=f2;clear f0 f1 f2 g1 g2 ek ej hz;go_wp2;go_ret3
    exact ⟨by rw [F0.out,F1.out,F2.out];rfl,0,rfl⟩
   ·have f0:Wnum.dB s 0=true:=by rw [g2];exact decide_eq_true (by omega)
    obtain ⟨f1,f2⟩:=Wnum.rd_true f0;rw [g1] at f1;rw [ek] at f2;have F0:Hid (Wnum.dB s 0=true):=f0;have F1:Hid (Wnum.rdV s=a):=f1;have F2:Hid (Wnum.rdS s=s.extract j s.size):=f2;have jl:j≤s.size:=by omega
    clear f0 f1 f2 g1 g2 ek ej;have hz':((j:Int) == 0)=false:=by rw [beq_eq_false_iff_ne];omega
    go_wp2;go_quiet (fail)
    go_wp2;go_ret3
    exact ⟨by rw [F0.out,F1.out,F2.out];rfl,_,rfl⟩
theorem make_pos (n d:Int) (w:World) (h1:-9223372036854775807≤n) (h2:n≤9223372036854775807) (h3:1≤d) (h4:d≤9223372036854775807) :
  Calls Tryz.prog 193 #[.int .i64 n,.int .i64 d] w fun e w'=>e=.returned (.tuple #[.agg #[.int .i64 (Wnum.oN (some (Rat.divInt n d))),.int .i64 (Wnum.oD (some (Rat.divInt n d)))],.bool (Wnum.oB (some (Rat.divInt n d)))])∧Below w.heap.size w w':=by
 obtain ⟨g1,g2,g3,g4,g5⟩:=Wnum.mk_tdiv h3 h1 h2;have k1:Hid ((Rat.divInt n d).num=n.tdiv ((Int.gcd n d:Nat):Int)):=g4;have g8:d.tdiv ((Int.gcd n d:Nat):Int)=d / ((Int.gcd n d:Nat):Int):=Int.tdiv_eq_ediv_of_nonneg (by omega);have k2:Hid ((((Rat.divInt n d).den:Nat):Int)=d.tdiv ((Int.gcd n d:Nat):Int)):=g5.trans g8.symm;have g6:0≤d / ((Int.gcd n d:Nat):Int):=Int.ediv_nonneg (by omega) (by omega);have g7:d / ((Int.gcd n d:Nat):Int)≤d:=Int.ediv_le_self _ (by omega);rw [←g8] at g6 g7;have g9:d.tdiv ((Int.gcd n d:Nat):Int)≤9223372036854775807:=by omega
 have g10:-9223372036854775807≤d.tdiv ((Int.gcd n d:Nat):Int):=by omega
 have hw:IntKind.i64.wrap (d.tdiv ((Int.gcd n d:Nat):Int))=d.tdiv ((Int.gcd n d:Nat):Int):=IntWalk.i64_in _ (by omega);have hwn:IntKind.i64.wrap (n.tdiv ((Int.gcd n d:Nat):Int))=n.tdiv ((Int.gcd n d:Nat):Int):=IntWalk.i64_in _ (by omega);clear g4 g5 g8 g7 g6;have t0:(n == -9223372036854775808)=false:=beq_eq_false_iff_ne.2 (by omega);have t1:(d == -9223372036854775808)=false:=beq_eq_false_iff_ne.2 (by omega);have t2:(d == 0)=false:=beq_eq_false_iff_ne.2 (by omega);have t3:decide (d<0)=false:=by simp;omega
 generalize Rat.divInt n d=r at *;go_enter Tryz.func193,Tryz.ntmps193;go_wp2_with (go_at_call 160;refine (divisor_any _ _ _ (by omega) (by omega) (by omega) (by omega)).mono ?_;rintro e w1 ⟨rfl,nq,rfl⟩)
 clear t0 t1 t2 t3;go_region_with ((go_at_call 203;refine (fitting_any _ _ r _ g2 g3 k1 k2).mono ?_;rintro e w1 ⟨rfl,hb⟩;obtain ⟨hc,hf⟩:=bcell hb;have hz:=bsz (k:=w.heap.size) hb (by simp)))
 all_goals
  go_wp2;refine bodyPost_ret (v:=.tuple #[.agg #[.int .i64 (Wnum.oN (some r)),.int .i64 (Wnum.oD (some r))],.bool (Wnum.oB (some r))]) (by simp [results,Tryz.results193,go_sem,hc]) rfl ⟨rfl,?_⟩;exact (by with_reducible repeat (first | exact Below.refl _ _ | refine below_drewN ?_ _ | refine Below.setCell ?_ (by first | (simp;done) | (simp;omega) | omega) _ | refine Below.drew ?_ | refine below_end ?_ (by assumption) | refine ball ?_ _))
def At (W:World) (k:Nat) (v0 v1:Value):Prop :=
 W.cell? ⟨k,0,none⟩=some v0∧W.cell? ⟨k,1,none⟩=some v1∧W.frozen? ⟨k,0,none⟩=false∧W.frozen? ⟨k,1,none⟩=false
theorem At.lt {W:World} {k:Nat} {v0 v1:Value} (h:At W k v0 v1):k<W.heap.size:=World.block_lt_of_cell? W ⟨k,0,none⟩ h.1
theorem At.new (W:World) (t:TypeId) {k:Nat} (hk:k=W.heap.size) (v0 v1:Value):At (W.alloc (.cells #[v0,v1] t)) k v0 v1:=by
 subst hk;exact ⟨by simp [go_sem],by simp [go_sem],by simp [go_sem],by simp [go_sem]⟩
theorem At.alloc {W:World} {k:Nat} {v0 v1:Value} (h:At W k v0 v1) (o:Obj):At (W.alloc o) k v0 v1:=by
 have hl:=h.lt;obtain ⟨h1,h2,h3,h4⟩:=h;refine ⟨?_,?_,?_,?_⟩
 ·rw [World.cell?_alloc_past _ _ _ hl];exact h1
 ·rw [World.cell?_alloc_past _ _ _ hl];exact h2
 ·rw [World.frozen?_alloc_old _ _ _ (by simp;omega)];exact h3
 ·rw [World.frozen?_alloc_old _ _ _ (by simp;omega)];exact h4
theorem At.below {W W':World} (hb:Below W.heap.size W W') {k:Nat} {v0 v1:Value} (h:At W k v0 v1):At W' k v0 v1:=by
 have hl:=h.lt;obtain ⟨h1,h2,h3,h4⟩:=h;exact ⟨(hb.cell (p:=⟨k,0,none⟩) hl).trans h1,(hb.cell (p:=⟨k,1,none⟩) hl).trans h2,(hb.frozen (p:=⟨k,0,none⟩) hl).trans h3,(hb.frozen (p:=⟨k,1,none⟩) hl).trans h4⟩
theorem At.drewN {W:World} {k:Nat} {v0 v1:Value} (h:At W k v0 v1) (n:Nat):At (W.drewN n) k v0 v1:=At.below (below_drewN (Below.refl _ _) n) h
theorem At.drew {W:World} {k:Nat} {v0 v1:Value} (h:At W k v0 v1):At W.drew k v0 v1:=At.below (Below.refl _ _).drew h
theorem At.far {W:World} {k:Nat} {v0 v1:Value} (h:At W k v0 v1) (j o:Nat) (v:Value) (hj:j ≠ k):At (W.setCell ⟨j,o,none⟩ v) k v0 v1:=by
 obtain ⟨h1,h2,h3,h4⟩:=h;refine ⟨?_,?_,?_,?_⟩
 ·rw [World.cell?_setCell_far _ _ _ _ (by simpa using hj)];exact h1
 ·rw [World.cell?_setCell_far _ _ _ _ (by simpa using hj)];exact h2
 ·rw [World.frozen?_setCell];exact h3
 ·rw [World.frozen?_setCell];exact h4
theorem At.set0 {W:World} {k:Nat} {v0 v1:Value} (h:At W k v0 v1) (u:Value):At (W.setCell ⟨k,0,none⟩ u) k u v1:=by
 obtain ⟨h1,h2,h3,h4⟩:=h;refine ⟨World.cell?_setCell_same _ _ _ h1,?_,?_,?_⟩
 ·rw [World.cell?_setCell_other _ _ _ _ (by simp)];exact h2
 ·rw [World.frozen?_setCell];exact h3
 ·rw [World.frozen?_setCell];exact h4
theorem At.set1 {W:World} {k:Nat} {v0 v1:Value} (h:At W k v0 v1) (u:Value):At (W.setCell ⟨k,1,none⟩ u) k v0 u:=by
 obtain ⟨h1,h2,h3,h4⟩:=h;refine ⟨?_,World.cell?_setCell_same _ _ _ h2,?_,?_⟩
 ·rw [World.cell?_setCell_other _ _ _ _ (by simp)];exact h1
 ·rw [World.frozen?_setCell];exact h3
 ·rw [World.frozen?_setCell];exact h4
theorem At.put {W:World} {k:Nat} {v0 v1:Value} (h:At W k v0 v1) (u0 u1:Value):At ((W.setCell ⟨k,0,none⟩ u0).setCell ⟨k,1,none⟩ u1) k u0 u1:=(h.set0 u0).set1 u1
theorem put_below {w W:World} {k:Nat} (hb:Below w.heap.size w W) (hk:w.heap.size≤k) (u0 u1:Value):Below w.heap.size w ((W.setCell ⟨k,0,none⟩ u0).setCell ⟨k,1,none⟩ u1) :=
 (hb.setCell (p:=⟨k,0,none⟩) hk u0).setCell (p:=⟨k,1,none⟩) hk u1
theorem keep2 {W W':World} {k:Nat} {a b:Value} (hb:Below W.heap.size W W') (h:W.cell? ⟨k,0,none⟩=some a∧W.cell? ⟨k,1,none⟩=some b):W'.cell? ⟨k,0,none⟩=some a∧W'.cell? ⟨k,1,none⟩=some b :=
 ⟨(hb.cell (p:=⟨k,0,none⟩) (World.block_lt_of_cell? W _ h.1)).trans h.1,(hb.cell (p:=⟨k,1,none⟩) (World.block_lt_of_cell? W _ h.2)).trans h.2⟩
theorem rgcd_any (a b:Nat) (w:World) (h1:a≤18446744073709551615) (h2:b≤18446744073709551615) :
  Calls Tryz.prog 159 #[.int .u64 (a:Int),.int .u64 (b:Int)] w fun e w'=>e=.returned (.int .u64 (Nat.gcd a b:Int))∧w=w':=by
 go_enter Tryz.func159,Tryz.ntmps159;go_wp2;go_loop [0,1,5] (fun x y _=>∃ p q:Nat,x=.int .u64 p∧y=.int .u64 q∧p≤18446744073709551615∧q≤18446744073709551615∧Hid (Nat.gcd p q=Nat.gcd a b)) (fun _ y _=>(intOf y).toNat)
 case atStart=>exact ⟨a,b,rfl,rfl,h1,h2,(rfl:Nat.gcd a b=Nat.gcd a b)⟩
 case round =>
  obtain ⟨p,q,rfl,rfl,hp,hq,hg⟩:=hrel;by_cases hz:q=0
  ·subst hz;go_wp2;go_ret;exact ⟨ret_int (by rw [←hg.out,Nat.gcd_zero_right]),rfl⟩
  ·have hz':((q:Int) != 0)=true:=by simp;omega
   go_wp2;go_round
   case rel=>exact ⟨q,p % q,rfl,by go_num,hq,by have:=Nat.mod_lt p (Nat.pos_of_ne_zero hz);omega,by exact (show Nat.gcd q (p % q)=Nat.gcd a b by rw [←hg.out,Nat.gcd_comm p q,Nat.gcd_rec q p,Nat.gcd_comm])⟩
   case measure=>simp [intOf];have:=Nat.mod_lt p (Nat.pos_of_ne_zero hz);omega
theorem rgcd_int (a b:Int) (w:World) (h0:0≤a) (h1:a≤18446744073709551615) (h2:0≤b) (h3:b≤18446744073709551615) :
  Calls Tryz.prog 159 #[.int .u64 a,.int .u64 b] w fun e w'=>e=.returned (.int .u64 (Int.gcd a b:Int))∧w=w':=by
 obtain ⟨x,rfl⟩:=Int.eq_ofNat_of_zero_le h0;obtain ⟨y,rfl⟩:=Int.eq_ofNat_of_zero_le h2;exact rgcd_any x y w (by omega) (by omega)
theorem flip_w {P:Program} {f:FuncId} {args:Array Value} {w:World} {v:Value} (h:Calls P f args w fun e w'=>e=.returned v∧w=w'):Calls P f args w fun e w'=>e=.returned v∧w'=w :=
 h.mono fun _ _ ⟨a,b⟩=>⟨a,b.symm⟩
theorem far_any (n:Int) (w:World) (h1:-9223372036854775808≤n) (h2:n≤9223372036854775807) :
  Calls Tryz.prog 103 #[.int .i64 n] w fun e w'=>e=.returned (.int .u64 (n.natAbs:Int))∧w=w':=by
 by_cases h:n<0
 ·go_enter Tryz.func103,Tryz.ntmps103;go_wp2;go_ret;exact ⟨ret_int (by omega),rfl⟩
 ·go_enter Tryz.func103,Tryz.ntmps103;go_wp2;go_ret;exact ⟨ret_int (by omega),rfl⟩
theorem rright_any (n d:Int) (w:World) (h1:-9223372036854775808≤n) (h2:n≤9223372036854775807) (h3:-9223372036854775808≤d) (h4:d≤9223372036854775807) :
  Calls Tryz.prog 130 #[.agg #[.int .i64 n,.int .i64 d]] w fun e w'=>e=.returned (.bool (Wnum.rightB n d))∧Below w.heap.size w w':=by
 by_cases c3:d<1
 ·have e:Hid (Wnum.rightB n d=false):=by show Wnum.rightB n d=false;unfold Wnum.rightB;rw [decide_eq_false_iff_not];omega
  rw [e.out];clear e;go_enter Tryz.func130,Tryz.ntmps130;go_wp2;go_ret;exact ⟨rfl,by with_reducible repeat (first | exact Below.refl _ _ | refine below_drewN ?_ _ | refine Below.setCell ?_ (by first | (simp;done) | (simp;omega) | omega) _ | refine Below.drew ?_ | refine below_end ?_ (by assumption) | refine ball ?_ _)⟩
 by_cases c4:1000000<d
 ·have e:Hid (Wnum.rightB n d=false):=by show Wnum.rightB n d=false;unfold Wnum.rightB;rw [decide_eq_false_iff_not];omega
  rw [e.out];clear e;go_enter Tryz.func130,Tryz.ntmps130;go_wp2;go_ret;exact ⟨rfl,by with_reducible repeat (first | exact Below.refl _ _ | refine below_drewN ?_ _ | refine Below.setCell ?_ (by first | (simp;done) | (simp;omega) | omega) _ | refine Below.drew ?_ | refine below_end ?_ (by assumption) | refine ball ?_ _)⟩
 by_cases c1:n < -1000000000000
 ·have e:Hid (Wnum.rightB n d=false):=by show Wnum.rightB n d=false;unfold Wnum.rightB;rw [decide_eq_false_iff_not];omega
  rw [e.out];clear e;go_enter Tryz.func130,Tryz.ntmps130;go_wp2;go_ret;exact ⟨rfl,by with_reducible repeat (first | exact Below.refl _ _ | refine below_drewN ?_ _ | refine Below.setCell ?_ (by first | (simp;done) | (simp;omega) | omega) _ | refine Below.drew ?_ | refine below_end ?_ (by assumption) | refine ball ?_ _)⟩
 by_cases c2:1000000000000<n
 ·have e:Hid (Wnum.rightB n d=false):=by show Wnum.rightB n d=false;unfold Wnum.rightB;rw [decide_eq_false_iff_not];omega
  rw [e.out];clear e;go_enter Tryz.func130,Tryz.ntmps130;go_wp2;go_ret;exact ⟨rfl,by with_reducible repeat (first | exact Below.refl _ _ | refine below_drewN ?_ _ | refine Below.setCell ?_ (by first | (simp;done) | (simp;omega) | omega) _ | refine Below.drew ?_ | refine below_end ?_ (by assumption) | refine ball ?_ _)⟩
 have e:Hid ((((Int.gcd (n.natAbs:Int) d:Nat):Int) == 1)=Wnum.rightB n d):=by
  show _=_
  have e0:Int.gcd (n.natAbs:Int) d=Int.gcd n d:=by simp [Int.gcd]
  rw [e0];unfold Wnum.rightB;by_cases g:Int.gcd n d=1
  ·rw [g,decide_eq_true (by omega)];rfl
  ·rw [decide_eq_false (by omega),beq_eq_false_iff_ne];omega
 rw [←e.out];clear e;have hw:IntKind.u64.wrap d=d:=IntWalk.u64_in _ (by omega);have b0:(0:Int)≤(n.natAbs:Int):=by omega
 have b1:(n.natAbs:Int)≤18446744073709551615:=by omega
 have b2:0≤d:=by omega
 have b3:d≤18446744073709551615:=by omega
 go_enter Tryz.func130,Tryz.ntmps130;go_wp2;go_quiet (first | (go_at_call 103;exact Calls.quiet_of_same (flip_w (far_any _ _ h1 h2))) | (go_at_call 159;exact Calls.quiet_of_same (flip_w (rgcd_int _ _ _ b0 b1 b2 b3))))
 go_wp2;go_ret;exact ⟨rfl,by with_reducible repeat (first | exact Below.refl _ _ | refine below_drewN ?_ _ | refine Below.setCell ?_ (by first | (simp;done) | (simp;omega) | omega) _ | refine Below.drew ?_ | refine below_end ?_ (by assumption) | refine ball ?_ _)⟩
theorem of_any (n d:Int) (w:World) (h1:-9223372036854775808≤n) (h2:n≤9223372036854775807) (h3:-9223372036854775808≤d) (h4:d≤9223372036854775807) :
  Calls Tryz.prog 102 #[.agg #[.int .i64 n,.int .i64 d]] w fun e w'=>e=.returned (.agg #[.int .i64 (Wnum.cN n d),.int .i64 (Wnum.cD n d)])∧Below w.heap.size w w':=by
 cases hr:Wnum.rightB n d with
 | true =>
  have e1:Wnum.cN n d=n:=by unfold Wnum.cN;rw [if_pos hr]
  have e2:Wnum.cD n d=d:=by unfold Wnum.cD;rw [if_pos hr]
  rw [e1,e2];clear e1 e2;have H:Hid (Wnum.rightB n d=true):=hr;clear hr;go_enter Tryz.func102,Tryz.ntmps102;go_wp2_with fail
  refine (rright_any _ _ _ h1 h2 h3 h4).mono ?_;rintro e w1 ⟨rfl,hb⟩;rw [H.out];obtain ⟨hc,hf⟩:=bcell hb;have hz:=bsz (k:=w.heap.size+1) hb (by simp);go_wp2;refine bodyPost_ret (v:=.agg #[.int .i64 n,.int .i64 d]) (by simp [results,Tryz.results102,go_sem,hc]) rfl ⟨rfl,?_⟩;exact (by with_reducible repeat (first | exact Below.refl _ _ | refine below_drewN ?_ _ | refine Below.setCell ?_ (by first | (simp;done) | (simp;omega) | omega) _ | refine Below.drew ?_ | refine below_end ?_ (by assumption) | refine ball ?_ _))
 | false =>
  have e1:Wnum.cN n d=0:=by unfold Wnum.cN;rw [hr];rfl
  have e2:Wnum.cD n d=1:=by unfold Wnum.cD;rw [hr];rfl
  rw [e1,e2];clear e1 e2;have H:Hid (Wnum.rightB n d=false):=hr;clear hr;go_enter Tryz.func102,Tryz.ntmps102;go_wp2_with fail
  refine (rright_any _ _ _ h1 h2 h3 h4).mono ?_;rintro e w1 ⟨rfl,hb⟩;rw [H.out];obtain ⟨hc,hf⟩:=bcell hb;have hz:=bsz (k:=w.heap.size+1) hb (by simp);go_wp2;refine bodyPost_ret (v:=.agg #[.int .i64 0,.int .i64 1]) (by simp [results,Tryz.results102,go_sem,hc]) rfl ⟨rfl,?_⟩;exact (by with_reducible repeat (first | exact Below.refl _ _ | refine below_drewN ?_ _ | refine Below.setCell ?_ (by first | (simp;done) | (simp;omega) | omega) _ | refine Below.drew ?_ | refine below_end ?_ (by assumption) | refine ball ?_ _))
theorem made_pos (n d:Int) (w:World) (h1:0≤n) (h2:n≤18446744073709551615) (h3:1≤d) (h4:d≤18446744073709551615) :
  Calls Tryz.prog 133 #[.bool false,.int .u64 n,.int .u64 d] w fun e w'=>e=.returned (.tuple #[.agg #[.int .i64 (Wnum.oN (some (Rat.divInt (n) d))),.int .i64 (Wnum.oD (some (Rat.divInt (n) d)))],.bool (Wnum.oB (some (Rat.divInt (n) d)))])∧Below w.heap.size w w':=by
 obtain ⟨q1,q2,q3,q4,q5,q6,q7,_,_⟩:=Wnum.made_parts h1 h3;generalize Rat.divInt (n) d=r at *;by_cases c:n / ((Int.gcd n d:Nat):Int)≤1000000000000∧d / ((Int.gcd n d:Nat):Int)≤1000000
 ·obtain ⟨c1,c2⟩:=c;obtain ⟨e1,e2,e3⟩:=Wnum.oNs (r:=r) (Wnum.ok_iff.2 (by omega));rw [e1,e2,e3,q6,q7];clear e1 e2 e3 q6 q7;have t1:decide (1000000000000<n / ((Int.gcd n d:Nat):Int))=false:=by simp;omega
  have t2:decide (1000000<d / ((Int.gcd n d:Nat):Int))=false:=by simp;omega
  go_enter Tryz.func133,Tryz.ntmps133;go_wp2_with fail
  refine (rgcd_int _ _ _ h1 h2 (by omega) h4).mono ?_;rintro e w1 ⟨rfl,rfl⟩;go_wp2;refine bodyPost_ret (v:=.tuple #[.agg #[.int .i64 (n / ((Int.gcd n d:Nat):Int)),.int .i64 (d / ((Int.gcd n d:Nat):Int))],.bool true]) (by simp [results,Tryz.results133,go_sem]) rfl ⟨rfl,?_⟩;exact (by with_reducible repeat (first | exact Below.refl _ _ | refine below_drewN ?_ _ | refine Below.setCell ?_ (by first | (simp;done) | (simp;omega) | omega) _ | refine Below.drew ?_ | refine below_end ?_ (by assumption) | refine ball ?_ _))
 ·obtain ⟨e1,e2,e3⟩:=Wnum.oNn (r:=r) (Wnum.ok_not (by omega));rw [e1,e2,e3];clear e1 e2 e3 q6 q7;by_cases c1:n / ((Int.gcd n d:Nat):Int)≤1000000000000
  ·have t1:decide (1000000000000<n / ((Int.gcd n d:Nat):Int))=false:=by simp;omega
   have t2:decide (1000000<d / ((Int.gcd n d:Nat):Int))=true:=by simp;omega
   clear c c1;go_enter Tryz.func133,Tryz.ntmps133;go_wp2_with fail
   refine (rgcd_int _ _ _ h1 h2 (by omega) h4).mono ?_;rintro e w1 ⟨rfl,rfl⟩;go_wp2;refine bodyPost_ret (v:=.tuple #[.agg #[.int .i64 0,.int .i64 0],.bool false]) (by simp [results,Tryz.results133,go_sem]) rfl ⟨rfl,?_⟩;exact (by with_reducible repeat (first | exact Below.refl _ _ | refine below_drewN ?_ _ | refine Below.setCell ?_ (by first | (simp;done) | (simp;omega) | omega) _ | refine Below.drew ?_ | refine below_end ?_ (by assumption) | refine ball ?_ _))
  ·have t1:decide (1000000000000<n / ((Int.gcd n d:Nat):Int))=true:=by simp;omega
   clear c c1;go_enter Tryz.func133,Tryz.ntmps133;go_wp2_with fail
   refine (rgcd_int _ _ _ h1 h2 (by omega) h4).mono ?_;rintro e w1 ⟨rfl,rfl⟩;go_wp2;refine bodyPost_ret (v:=.tuple #[.agg #[.int .i64 0,.int .i64 0],.bool false]) (by simp [results,Tryz.results133,go_sem]) rfl ⟨rfl,?_⟩;exact (by with_reducible repeat (first | exact Below.refl _ _ | refine below_drewN ?_ _ | refine Below.setCell ?_ (by first | (simp;done) | (simp;omega) | omega) _ | refine Below.drew ?_ | refine below_end ?_ (by assumption) | refine ball ?_ _))
theorem made_neg (n d:Int) (w:World) (h1:0≤n) (h2:n≤18446744073709551615) (h3:1≤d) (h4:d≤18446744073709551615) :
  Calls Tryz.prog 133 #[.bool true,.int .u64 n,.int .u64 d] w fun e w'=>e=.returned (.tuple #[.agg #[.int .i64 (Wnum.oN (some (Rat.divInt (-n) d))),.int .i64 (Wnum.oD (some (Rat.divInt (-n) d)))],.bool (Wnum.oB (some (Rat.divInt (-n) d)))])∧Below w.heap.size w w':=by
 obtain ⟨q1,q2,q3,q4,q5,_,_,q6,q7⟩:=Wnum.made_parts h1 h3;generalize Rat.divInt (-n) d=r at *;by_cases c:n / ((Int.gcd n d:Nat):Int)≤1000000000000∧d / ((Int.gcd n d:Nat):Int)≤1000000
 ·obtain ⟨c1,c2⟩:=c;obtain ⟨e1,e2,e3⟩:=Wnum.oNs (r:=r) (Wnum.ok_iff.2 (by omega));rw [e1,e2,e3,q6,q7];clear e1 e2 e3 q6 q7;have t1:decide (1000000000000<n / ((Int.gcd n d:Nat):Int))=false:=by simp;omega
  have t2:decide (1000000<d / ((Int.gcd n d:Nat):Int))=false:=by simp;omega
  go_enter Tryz.func133,Tryz.ntmps133;go_wp2_with fail
  refine (rgcd_int _ _ _ h1 h2 (by omega) h4).mono ?_;rintro e w1 ⟨rfl,rfl⟩;go_wp2;refine bodyPost_ret (v:=.tuple #[.agg #[.int .i64 (-(n / ((Int.gcd n d:Nat):Int))),.int .i64 (d / ((Int.gcd n d:Nat):Int))],.bool true]) (by simp [results,Tryz.results133,go_sem]) rfl ⟨rfl,?_⟩;exact (by with_reducible repeat (first | exact Below.refl _ _ | refine below_drewN ?_ _ | refine Below.setCell ?_ (by first | (simp;done) | (simp;omega) | omega) _ | refine Below.drew ?_ | refine below_end ?_ (by assumption) | refine ball ?_ _))
 ·obtain ⟨e1,e2,e3⟩:=Wnum.oNn (r:=r) (Wnum.ok_not (by omega));rw [e1,e2,e3];clear e1 e2 e3 q6 q7;by_cases c1:n / ((Int.gcd n d:Nat):Int)≤1000000000000
  ·have t1:decide (1000000000000<n / ((Int.gcd n d:Nat):Int))=false:=by simp;omega
   have t2:decide (1000000<d / ((Int.gcd n d:Nat):Int))=true:=by simp;omega
   clear c c1;go_enter Tryz.func133,Tryz.ntmps133;go_wp2_with fail
   refine (rgcd_int _ _ _ h1 h2 (by omega) h4).mono ?_;rintro e w1 ⟨rfl,rfl⟩;go_wp2;refine bodyPost_ret (v:=.tuple #[.agg #[.int .i64 0,.int .i64 0],.bool false]) (by simp [results,Tryz.results133,go_sem]) rfl ⟨rfl,?_⟩;exact (by with_reducible repeat (first | exact Below.refl _ _ | refine below_drewN ?_ _ | refine Below.setCell ?_ (by first | (simp;done) | (simp;omega) | omega) _ | refine Below.drew ?_ | refine below_end ?_ (by assumption) | refine ball ?_ _))
  ·have t1:decide (1000000000000<n / ((Int.gcd n d:Nat):Int))=true:=by simp;omega
   clear c c1;go_enter Tryz.func133,Tryz.ntmps133;go_wp2_with fail
   refine (rgcd_int _ _ _ h1 h2 (by omega) h4).mono ?_;rintro e w1 ⟨rfl,rfl⟩;go_wp2;refine bodyPost_ret (v:=.tuple #[.agg #[.int .i64 0,.int .i64 0],.bool false]) (by simp [results,Tryz.results133,go_sem]) rfl ⟨rfl,?_⟩;exact (by with_reducible repeat (first | exact Below.refl _ _ | refine below_drewN ?_ _ | refine Below.setCell ?_ (by first | (simp;done) | (simp;omega) | omega) _ | refine Below.drew ?_ | refine below_end ?_ (by assumption) | refine ball ?_ _))
theorem tenTo_any (k:Int) (w:World) (h1:0≤k) (h2:k≤12) :
  Calls Tryz.prog 210 #[.int .i64 k] w fun e w'=>e=.returned (.int .i64 (Wnum.tenP k.toNat))∧w=w':=by
 obtain ⟨K,rfl⟩:=Int.eq_ofNat_of_zero_le h1;rw [Int.toNat_natCast];go_enter Tryz.func210,Tryz.ntmps210;go_wp2;go_loop [3,5] (fun r i=>∃ j:Nat,j≤K∧r=.int .i64 (Wnum.tenP j)∧i=.int .i64 j) (fun _ i=>K - (intOf i).toNat)
 case atStart=>exact ⟨0,Nat.zero_le _,rfl,rfl⟩
 case round =>
  obtain ⟨j,hj,rfl,rfl⟩:=hrel;have b1:=Wnum.tenP_pos j;have b2:=Wnum.tenP_le12 (k:=j) (by omega);by_cases hlt:j<K
  ·have E:Hid (Wnum.tenP (j+1)=Wnum.tenP j * 10):=Wnum.tenP_succ j;go_wp2;go_round
   case rel=>exact ⟨j+1,by omega,by rw [E.out],by go_num⟩
   case measure=>simp [intOf];omega
  ·have hj':j=K:=by omega
   subst hj';go_wp2;go_ret;exact ⟨rfl,rfl⟩
theorem rten_any (k:Int) (w:World) (h1:0≤k) (h2:k≤12) :
  Calls Tryz.prog 134 #[.int .i64 k] w fun e w'=>e=.returned (.int .u64 (Wnum.tenP k.toNat))∧w=w':=by
 obtain ⟨K,rfl⟩:=Int.eq_ofNat_of_zero_le h1;rw [Int.toNat_natCast];go_enter Tryz.func134,Tryz.ntmps134;go_wp2;go_loop [3,4] (fun r i=>∃ j:Nat,j≤K∧r=.int .u64 (Wnum.tenP j)∧i=.int .i64 j) (fun _ i=>K - (intOf i).toNat)
 case atStart=>exact ⟨0,Nat.zero_le _,rfl,rfl⟩
 case round =>
  obtain ⟨j,hj,rfl,rfl⟩:=hrel;have b1:=Wnum.tenP_pos j;have b2:=Wnum.tenP_le12 (k:=j) (by omega);by_cases hlt:j<K
  ·have E:Hid (Wnum.tenP (j+1)=Wnum.tenP j * 10):=Wnum.tenP_succ j;go_wp2;go_round
   case rel=>exact ⟨j+1,by omega,by rw [E.out],by go_num⟩
   case measure=>simp [intOf];omega
  ·have hj':j=K:=by omega
   subst hj';go_wp2;go_ret;exact ⟨rfl,rfl⟩
end Go.Proofs.YtlggnpohhahdlaaGreatDoor
namespace Go.Proofs.YtlggnpohhahdlaaGreatDoor.Wnum
theorem sub_facts {t:ByteArray} {p:Nat} (h:p≤t.size):(t.extract p t.size).size=t.size - p∧∀ i,bt (t.extract p t.size) i=bt t (p+i):=by
 constructor
 ·rw [ByteArray.size_extract];omega
 ·intro i;obtain ⟨⟨l⟩⟩:=t;have hl:(ByteArray.mk ⟨l⟩).size=l.length:=rfl;have e:((ByteArray.mk ⟨l⟩).extract p (ByteArray.mk ⟨l⟩).size).data.toList=l.drop p:=by
   rw [hl];simp;exact List.take_of_length_le (by simp)
  unfold bt;rw [e];show (((l.drop p).getD i 0).toNat:Int)=((l.getD (p+i) 0).toNat:Int)
  simp [List.getD,List.getElem?_drop]
theorem same_from {t u:ByteArray} {p:Nat} (hsz:u.size=t.size - p) (hbt:∀ i,bt u i=bt t (p+i)) (i:Nat):dk u i=dk t (p+i)∧dv u i=dv t (p+i)∧dB u i=dB t (p+i):=by
 have hc:∀ k j,cnt u j k=cnt t (p+j) k:=by
  intro k;induction k with
  | zero=>intro j;rfl
  | succ k ih =>
   intro j;show (if isD (bt u j) then cnt u (j+1) k+1 else 0)=(if isD (bt t (p+j)) then cnt t (p+j+1) k+1 else 0)
   rw [hbt,ih,show p+(j+1)=p+j+1 by omega]
 have hsay:∀ k j,say u j k=say t (p+j) k:=by
  intro k;induction k with
  | zero=>intro j;rfl
  | succ k ih =>
   intro j;show say u j k * 10+(bt u (j+k) - 48)=say t (p+j) k * 10+(bt t (p+j+k) - 48)
   rw [ih,hbt,show p+(j+k)=p+j+k by omega]
 have h1:dk u i=dk t (p+i):=by
  unfold dk;rw [hc,hsz,show t.size - p - i=t.size - (p+i) by omega]
 have h2:dv u i=dv t (p+i):=by unfold dv;rw [hsay,h1]
 exact ⟨h1,h2,by unfold dB;rw [h1,h2]⟩
def plB (t:ByteArray) (n:Int):Bool:=decide (t.size≤6) && decide (n≤1000000000000) && dB t 0 && decide (dk t 0=t.size)
def plN (t:ByteArray) (n:Int):Int:=if plB t n=true then n * tenP t.size+dv t 0 else 0
def plD (t:ByteArray) (n:Int):Int:=if plB t n=true then tenP t.size else 0
theorem pl_false {t:ByteArray} {n:Int} (h:plB t n=false):plN t n=0∧plD t n=0:=by unfold plN plD;rw [h];exact ⟨rfl,rfl⟩
theorem pl_true {t:ByteArray} {n:Int} (h:plB t n=true):plN t n=n * tenP t.size+dv t 0∧plD t n=tenP t.size:=by unfold plN plD;rw [h];exact ⟨rfl,rfl⟩
def fC (t:ByteArray):Int:=bt t (dk t 0)
def fS (t:ByteArray):ByteArray:=(t.extract (dk t 0) t.size).extract 1 (t.extract (dk t 0) t.size).size
def fB (t:ByteArray):Bool :=
 if dB t 0=false then false else if dk t 0=t.size then true else if fC t=46 then plB (fS t) (dv t 0) else if fC t=47 then dB (fS t) 0 && decide (dk (fS t) 0=(fS t).size) else false
def fN (t:ByteArray):Int :=
 if fB t=false then 0 else if dk t 0=t.size then dv t 0 else if fC t=46 then plN (fS t) (dv t 0) else dv t 0
def fD (t:ByteArray):Int :=
 if fB t=false then 0 else if dk t 0=t.size then 1 else if fC t=46 then plD (fS t) (dv t 0) else dv (fS t) 0
theorem f_false {t:ByteArray} (h:fB t=false):fN t=0∧fD t=0:=⟨if_pos h,if_pos h⟩
theorem f_none {t:ByteArray} (h:dB t 0=false):fB t=false:=if_pos h
theorem f_whole {t:ByteArray} (h:dB t 0=true) (e:dk t 0=t.size):fB t=true∧fN t=dv t 0∧fD t=1:=by
 have h1:fB t=true:=by unfold fB;rw [if_neg (by rw [h];decide),if_pos e]
 exact ⟨h1,by unfold fN;rw [if_neg (by rw [h1];decide),if_pos e],by unfold fD;rw [if_neg (by rw [h1];decide),if_pos e]⟩
theorem f_point {t:ByteArray} (h:dB t 0=true) (e:¬ dk t 0=t.size) (c:fC t=46):fB t=plB (fS t) (dv t 0)∧fN t=plN (fS t) (dv t 0)∧fD t=plD (fS t) (dv t 0):=by
 have h1:fB t=plB (fS t) (dv t 0):=by unfold fB;rw [if_neg (by rw [h];decide),if_neg e,if_pos c]
 refine ⟨h1,?_,?_⟩
 ·cases hb:plB (fS t) (dv t 0) with
  | false=>rw [(f_false (h1.trans hb)).1,(pl_false hb).1]
  | true=>unfold fN;rw [if_neg (by rw [h1,hb];decide),if_neg e,if_pos c]
 ·cases hb:plB (fS t) (dv t 0) with
  | false=>rw [(f_false (h1.trans hb)).2,(pl_false hb).2]
  | true=>unfold fD;rw [if_neg (by rw [h1,hb];decide),if_neg e,if_pos c]
theorem f_over {t:ByteArray} (h:dB t 0=true) (e:¬ dk t 0=t.size) (c:fC t=47):fB t=(dB (fS t) 0 && decide (dk (fS t) 0=(fS t).size))∧(fB t=true→fN t=dv t 0∧fD t=dv (fS t) 0):=by
 have n46:¬ fC t=46:=by omega
 have h1:fB t=(dB (fS t) 0 && decide (dk (fS t) 0=(fS t).size)):=by unfold fB;rw [if_neg (by rw [h];decide),if_neg e,if_neg n46,if_pos c]
 refine ⟨h1,fun hb=>⟨?_,?_⟩⟩
 ·unfold fN;rw [if_neg (by rw [hb];decide),if_neg e,if_neg n46]
 ·unfold fD;rw [if_neg (by rw [hb];decide),if_neg e,if_neg n46]
theorem f_other {t:ByteArray} (h:dB t 0=true) (e:¬ dk t 0=t.size) (c:¬ fC t=46) (c':¬ fC t=47):fB t=false:=by
 unfold fB;rw [if_neg (by rw [h];decide),if_neg e,if_neg c,if_neg c']
theorem dB_bd {t:ByteArray} {i:Nat} (h:dB t i=true):0<dk t i∧0≤dv t i∧dv t i≤1000000000000000000:=by
 have:=of_decide_eq_true h;exact ⟨this.1,dv_nonneg t i,this.2⟩
theorem say_small {s:ByteArray} {i:Nat}:∀ k,(∀ m,m<k→isD (bt s (i+m)))→say s i k<tenP k:=by
 intro k;induction k with
 | zero=>intro _;exact (by decide:(0:Int)<1)
 | succ k ih =>
  intro h;have h1:=ih (fun m hm=>h m (by omega));have h2:=(h k (by omega)).2;rw [say_succ,tenP_succ];omega
end Go.Proofs.YtlggnpohhahdlaaGreatDoor.Wnum
