/- WalkTx, WalkRt, WalkTy, LTextB, TLitT. -/
import Derived.Test.YtdghjlmnlodnlaaGreatDoorQ26
set_option maxHeartbeats 3200000
set_option maxRecDepth 100000
set_option linter.unusedVariables false
namespace Go.Proofs.YtdghjlmnlodnlaaGreatDoor
open Tryz
open Go.Shelf Go.RowKit
variable {N:Int} {n:Nat}
theorem zJL (n:Int) (w:World) (h0:-9223372036854775808<=n) (h1:n<=9223372036854775807) (htab:Lib.TabIs prog w "internal/strconv.uint64pow10" .u64 Lib.pow10Tab) :
  CR 161 #[.int .i64 n] w (.string ⟨(Lib.itoa n).toArray⟩) :=
 (zLC n h0 h1 w htab).mono λe w' ⟨he,k,os,hw⟩=>⟨he,by rw [hw];exact Lib.below_grow _ w (Nat.le_refl _) k os⟩
theorem zKy (a b:Int) (l:List UInt8) (w:World) (h1:-9223372036854775808<=a) (h2:a<=9223372036854775807) (h3:-9223372036854775808<=b) (h4:b<=9223372036854775807) (hd:(Wnum.cD a b == 1)=true) (hl:Lib.itoa (Wnum.cN a b)=l) (htab:Lib.TabIs prog w "internal/strconv.uint64pow10" .u64 Lib.pow10Tab) :
  CR 143 #[.agg #[.int .i64 a,.int .i64 b]] w (.string ⟨l.toArray⟩):=by
 have TB:=Lib.tabBelow_of_tabIs htab;obtain ⟨n1,n2⟩:=Wnum.cN_bd a b;obtain ⟨n3,n4⟩:=Wnum.cD_bd a b;have L:Hid (Lib.itoa (Wnum.cN a b)=l):=hl;clear hl;go_enter func143,ntmps143;go_wp2_with fail
 refine (zCW _ _ _ h1 h2 h3 h4).mono ?_;rintro e w1 ⟨rfl,hb1⟩;have pA:At w1 w.heap.size (.int .i64 a) (.int .i64 b):=At.below hb1 (At.new w _ rfl _ _);have hB:Below w.heap.size w w1:=clA
 clear hb1;have pA':=pA;obtain ⟨a1,a2,a3,a4⟩:=pA';go_upto_region 2 with fail
 have qA:=pA.put (.int .i64 (Wnum.cN a b)) (.int .i64 (Wnum.cD a b));have qD:=zAW hB (k:=w.heap.size) (by omega) (.int .i64 (Wnum.cN a b)) (.int .i64 (Wnum.cD a b));clear pA hB a1 a2 a3 a4;generalize (w1.setCell ⟨w.heap.size,0,none⟩ (.int .i64 (Wnum.cN a b))).setCell ⟨w.heap.size,1,none⟩ (.int .i64 (Wnum.cD a b))=W1 at *;clear w1;have qA':=qA;obtain ⟨a1,a2,a3,a4⟩:=qA';go_wp2_with fail
 refine (zJL _ _ (by omega) (by omega) (TB.on qD).here).mono ?_;rintro e w2 ⟨rfl,hb2⟩;rw [L.out];have qE:=zAA qD hb2;go_wp2;go_ret;exact ⟨rfl,qE⟩
theorem zJy (a b:Int) (l1 l2:List UInt8) (w:World) (h1:-9223372036854775808<=a) (h2:a<=9223372036854775807) (h3:-9223372036854775808<=b) (h4:b<=9223372036854775807) (hd:(Wnum.cD a b == 1)=false) (hm:(1000000 % Wnum.cD a b != 0)=true) (hl1:Lib.itoa (Wnum.cN a b)=l1) (hl2:Lib.itoa (Wnum.cD a b)=l2) (htab:Lib.TabIs prog w "internal/strconv.uint64pow10" .u64 Lib.pow10Tab) :
  CR 143 #[.agg #[.int .i64 a,.int .i64 b]] w (.string ⟨(l1++47::l2).toArray⟩):=by
 have TB:=Lib.tabBelow_of_tabIs htab;obtain ⟨n1,n2⟩:=Wnum.cN_bd a b;obtain ⟨n3,n4⟩:=Wnum.cD_bd a b;have L1:Hid (Lib.itoa (Wnum.cN a b)=l1):=hl1;have L2:Hid (Lib.itoa (Wnum.cD a b)=l2):=hl2;have s1:l1.length<=21:=by rw [<-hl1];exact Lib.itoa_length_le _ (by omega) (by omega)
 have s2:l2.length<=21:=by rw [<-hl2];exact Lib.itoa_length_le _ (by omega) (by omega)
 clear hl1 hl2;have z1:¬ 9223372036854775807<l1.length+1:=by omega
 have z2:¬ 9223372036854775807<l1.length+1+l2.length:=by omega
 have z3:¬ 9223372036854775807<l1.length+(1+l2.length):=by omega
 have z4:¬ 9223372036854775807<l1.length:=by omega
 have y6:¬ Wnum.cD a b=0:=by omega
 go_enter func143,ntmps143;go_wp2_with fail
 refine (zCW _ _ _ h1 h2 h3 h4).mono ?_;rintro e w1 ⟨rfl,hb1⟩;have pA:At w1 w.heap.size (.int .i64 a) (.int .i64 b):=At.below hb1 (At.new w _ rfl _ _);have hB:Below w.heap.size w w1:=clA
 clear hb1;have pA':=pA;obtain ⟨a1,a2,a3,a4⟩:=pA';go_upto_region 2 with fail
 have qA:=pA.put (.int .i64 (Wnum.cN a b)) (.int .i64 (Wnum.cD a b));have qD:=zAW hB (k:=w.heap.size) (by omega) (.int .i64 (Wnum.cN a b)) (.int .i64 (Wnum.cD a b));clear pA hB a1 a2 a3 a4;generalize (w1.setCell ⟨w.heap.size,0,none⟩ (.int .i64 (Wnum.cN a b))).setCell ⟨w.heap.size,1,none⟩ (.int .i64 (Wnum.cD a b))=W1 at *;clear w1;have qA':=qA;obtain ⟨a1,a2,a3,a4⟩:=qA';have qE:=qD.drew;go_wp2_with fail
 go_region_held3 (λW=>W.cell? ⟨w.heap.size,0,none⟩=some (.int .i64 (Wnum.cN a b))/\W.cell? ⟨w.heap.size,1,none⟩=some (.int .i64 (Wnum.cD a b))) (first | exact ⟨a1,a2⟩ | exact zQD hbq (by assumption) | assumption)
  (first
   | (go_at_call 161;refine (zJL _ _ (by omega) (by omega) (TB.on qE).here).mono ?_;rintro e wq ⟨rfl,hbq⟩;(first | rw [L1.out] | rw [L2.out]);have qE:=zAA qE hbq))
 all_goals
  go_wp2;go_ret;refine ⟨?_,qE⟩;exact congrArg (λx=>Ending.returned (Value.string x)) (by rw [show (ByteArray.mk #[47])=⟨[(47:UInt8)].toArray⟩ from rfl,zAt,zAt,List.append_assoc];rfl)
theorem zI4 (a b:Int) (W0 R0:Nat) (l1 l2 l r:List UInt8) (w:World) (h1:-9223372036854775808<=a) (h2:a<=9223372036854775807) (h3:-9223372036854775808<=b) (h4:b<=9223372036854775807) (hd:(Wnum.cD a b == 1)=false) (hm:(1000000 % Wnum.cD a b != 0)=false) (hm2:1000000 % (Wnum.cD a b).toNat=0) (hW:((Wnum.cN a b).natAbs:Int) / Wnum.cD a b=(W0:Int)) (hR:((Wnum.cN a b).natAbs:Int) % Wnum.cD a b=(R0:Int)) (hW2:(W0:Int)<=1000000000000) (hR2:(R0:Int)<Wnum.cD a b) (hl1:Lib.itoa (W0:Int)=l1) (hl2:Wnum.decs (Wnum.cD a b).toNat 6 R0=l2) (hl:l1++46::l2=l) (hrn:Wnum.cN a b<0->r=45::l) (hrp:¬ Wnum.cN a b<0->r=l) (htab:Lib.TabIs prog w "internal/strconv.uint64pow10" .u64 Lib.pow10Tab) :
  CR 143 #[.agg #[.int .i64 a,.int .i64 b]] w (.string ⟨r.toArray⟩):=by
 have TB:=Lib.tabBelow_of_tabIs htab;obtain ⟨n1,n2⟩:=Wnum.cN_bd a b;obtain ⟨n3,n4⟩:=Wnum.cD_bd a b;have L1:Hid (Lib.itoa (W0:Int)=l1):=hl1;have s1:l1.length<=21:=by rw [<-hl1];exact Lib.itoa_length_le _ (by omega) (by omega)
 have s2:l2.length<=6:=by rw [<-hl2];exact Wnum.decs_length _ _ _
 have DC:=λw=>zFI R0 (Wnum.cD a b).toNat w (by omega) (by omega) (by omega) hm2
 rw [hl2,show (((Wnum.cD a b).toNat:Nat):Int)=Wnum.cD a b by omega] at DC;have LL:Hid (l1++46::l2=l):=hl;have RN:Hid (Wnum.cN a b<0->r=45::l):=hrn;have RP:Hid (0<=Wnum.cN a b->r=l):=λh=>hrp (by omega)
 have sz:l.length<=100:=by rw [<-hl];simp;omega
 clear hl1 hl2 hm2 hl hrn hrp;have z1:¬ 9223372036854775807<l1.length+1:=by omega
 have z2:¬ 9223372036854775807<l1.length+1+l2.length:=by omega
 have z3:¬ 9223372036854775807<l1.length+(1+l2.length):=by omega
 have z4:¬ 9223372036854775807<l1.length:=by omega
 have y6:¬ Wnum.cD a b=0:=by omega
 go_enter func143,ntmps143;go_wp2_with fail
 refine (zCW _ _ _ h1 h2 h3 h4).mono ?_;rintro e w1 ⟨rfl,hb1⟩;have pA:At w1 w.heap.size (.int .i64 a) (.int .i64 b):=At.below hb1 (At.new w _ rfl _ _);have hB:Below w.heap.size w w1:=clA
 clear hb1;have pA':=pA;obtain ⟨a1,a2,a3,a4⟩:=pA';go_upto_region 2 with fail
 have qA:=pA.put (.int .i64 (Wnum.cN a b)) (.int .i64 (Wnum.cD a b));have qD:=zAW hB (k:=w.heap.size) (by omega) (.int .i64 (Wnum.cN a b)) (.int .i64 (Wnum.cD a b));clear pA hB a1 a2 a3 a4;generalize (w1.setCell ⟨w.heap.size,0,none⟩ (.int .i64 (Wnum.cN a b))).setCell ⟨w.heap.size,1,none⟩ (.int .i64 (Wnum.cD a b))=W1 at *;clear w1;have qA':=qA;obtain ⟨a1,a2,a3,a4⟩:=qA';go_wp2_with fail
 go_quiet ((go_at_call 162;exact Calls.quiet_of_same (zDE (zC1 _ _ (by omega) (by omega)))))
 go_wp2_with fail
 have rA:=qA.drewN nq;have rD:=zAG qD nq;clear qA qD a1 a2 a3 a4;generalize W1.drewN nq=W2 at *;clear W1 nq;have rA':=rA;obtain ⟨a1,a2,a3,a4⟩:=rA';have qE:=rD.drew;go_cut [4,5] (λs4 s5 wx=>s4=.int .i64 (R0:Int)/\s5=.string ⟨l.toArray⟩/\Below w.heap.size w wx/\At wx w.heap.size (.int .i64 (Wnum.cN a b)) (.int .i64 (Wnum.cD a b)))
 case first =>
  go_region_held3 (λW=>W.cell? ⟨w.heap.size,0,none⟩=some (.int .i64 (Wnum.cN a b))/\W.cell? ⟨w.heap.size,1,none⟩=some (.int .i64 (Wnum.cD a b))) (first | exact ⟨a1,a2⟩ | exact zQD hbq (by assumption) | assumption)
   (first
    | (go_at_call 161;refine (zJL _ _ (by omega) (by omega) (TB.on qE).here).mono ?_;rintro e wq ⟨rfl,hbq⟩;rw [L1.out];have qE:=zAA qE hbq;have rE:=At.below hbq (by first | exact rE | exact rA.drew))
    | (go_at_call 163;refine (DC _).mono ?_;rintro e wq ⟨rfl,hbq⟩;have qE:=zAA qE hbq;have rE:=At.below hbq (by first | exact rE | exact rA.drew)))
  all_goals
   go_wp2_with fail
   go_meet
   case rel=>exact ⟨rfl,congrArg Value.string (by rw [<-LL.out,show (ByteArray.mk #[46])=⟨[(46:UInt8)].toArray⟩ from rfl,zAt,zAt,List.append_assoc];rfl),qE,rE⟩
 case rest =>
  obtain ⟨h4,h5,hB5,pA5⟩:=hcut;subst h4 h5;obtain ⟨a1,a2,a3,a4⟩:=pA5;clear LL;cases hn:decide (Wnum.cN a b<0)
  ·have hn':¬ Wnum.cN a b<0:=of_decide_eq_false hn;have e5:Hid (r=l):=RP.out (by omega);clear RN RP;clear hn;go_wp2;go_ret;exact ⟨by rw [e5.out];rfl,hB5⟩
  ·have hn':Wnum.cN a b<0:=of_decide_eq_true hn;have e5:Hid (r=45::l):=RN.out hn';clear RN RP;have z5:¬ 9223372036854775807<1+l.length:=by omega
   clear hn;go_wp2;go_ret;refine ⟨?_,hB5⟩;rw [e5.out];exact congrArg (λx=>Ending.returned (Value.string x)) (by rw [show (ByteArray.mk #[45])=⟨[(45:UInt8)].toArray⟩ from rfl,zAt];rfl)
open Go.RowKit
theorem zFi (a b N:Int) (D0:Nat) (l1 l2 res:List UInt8) (w:World) (h1:-9223372036854775808<=a) (h2:a<=9223372036854775807) (h3:-9223372036854775808<=b) (h4:b<=9223372036854775807) (hN:Wnum.cN a b=N) (hD:Wnum.cD a b=(D0:Int)) (hn:decide (N<0)=true) (hm:((1000000:Int) % (D0:Int) != 0)=true) (hl1:Lib.decDigits N.natAbs=l1) (hl2:Lib.decDigits D0=l2) (hr:res=[45]++(l1++47::l2)) :
  CR 99 #[.agg #[.int .i64 a,.int .i64 b]] w (.string ⟨res.toArray⟩):=by
 have bN:=Wnum.cN_bd a b;have bD:=Wnum.cD_bd a b;rw [hN] at bN;rw [hD] at bD;obtain ⟨n1,n2⟩:=bN;obtain ⟨n3,n4⟩:=bD;have EN:Hid (Wnum.cN a b=N):=hN;have ED:Hid (Wnum.cD a b=(D0:Int)):=hD;clear hN hD;have y6:¬ (D0:Int)=0:=by omega
 have y7:IntKind.u64.wrap (D0:Int)=(D0:Int):=by unfold IntKind.wrap;simp [IntKind.bits,IntKind.signed];omega
 have L1:Hid (Lib.decDigits N.natAbs=l1):=hl1;have L2:Hid (Lib.decDigits D0=l2):=hl2;have RR:Hid (res=[45]++(l1++47::l2)):=hr;have s1:l1.length<=21:=by rw [<-hl1];exact dd_len _ (by omega)
 have s2:l2.length<=21:=by rw [<-hl2];exact dd_len _ (by omega)
 clear hl1 hl2 hr;have z0:¬ 9223372036854775807<1+l1.length:=by omega
 have z1:¬ 9223372036854775807<1+l1.length+1:=by omega
 have z2:¬ 9223372036854775807<1+l1.length+1+l2.length:=by omega
 go_enter func99,ntmps99;go_wp2_with fail
 refine (zEA _ _ _ h1 h2 h3 h4).mono ?_;rintro e w1 ⟨rfl,hb1⟩;rw [EN.out,ED.out];have pA:At w1 w.heap.size (.int .i64 a) (.int .i64 b):=At.below hb1 (At.new w _ rfl _ _);have hB:Below w.heap.size w w1:=clA
 clear hb1;have pA':=pA;obtain ⟨a1,a2,a3,a4⟩:=pA';go_upto_region 2 with fail
 have qA:=pA.put (.int .i64 (N)) (.int .i64 ((D0:Int)));have qD:=zAW hB (k:=w.heap.size) (by omega) (.int .i64 (N)) (.int .i64 ((D0:Int)));clear pA hB a1 a2 a3 a4;generalize (w1.setCell ⟨w.heap.size,0,none⟩ (.int .i64 (N))).setCell ⟨w.heap.size,1,none⟩ (.int .i64 ((D0:Int)))=W1 at *;clear w1;have qA':=qA;obtain ⟨a1,a2,a3,a4⟩:=qA';go_wp2_with fail
 refine (zCO _ _ (by omega) (by omega)).mono ?_;rintro e w2 ⟨rfl,rfl⟩;go_wp2_with fail
 refine (zAi _ _ (by omega)).mono ?_;rintro e w3 ⟨rfl,hb3⟩;rw [L1.out];have qE:=zAA qD hb3;go_wp2_with fail
 refine (zAi _ _ (by omega)).mono ?_;rintro e w4 ⟨rfl,hb4⟩;rw [L2.out];have qF:=zAA qE hb4;go_wp2;go_ret;refine ⟨?_,qF⟩;rw [RR.out];exact congrArg (λx=>Ending.returned (Value.string x)) (by rw [show (ByteArray.mk #[45])=⟨[(45:UInt8)].toArray⟩ from rfl,show (ByteArray.mk #[47])=⟨[(47:UInt8)].toArray⟩ from rfl,zAt,zAt,zAt];simp)
theorem zEa (a b N:Int) (D0:Nat) (q:Nat) (l1 res:List UInt8) (w:World) (h1:-9223372036854775808<=a) (h2:a<=9223372036854775807) (h3:-9223372036854775808<=b) (h4:b<=9223372036854775807) (hN:Wnum.cN a b=N) (hD:Wnum.cD a b=(D0:Int)) (hn:decide (N<0)=true) (hm:((1000000:Int) % (D0:Int) != 0)=false) (hq:(N.natAbs:Int) / (D0:Int)=(q:Int)) (hq2:(q:Int)<=1000000000000) (hR:(N.natAbs:Int) % (D0:Int)=0) (hl1:Lib.decDigits q=l1) (hr:res=[45]++l1) :
  CR 99 #[.agg #[.int .i64 a,.int .i64 b]] w (.string ⟨res.toArray⟩):=by
 have bN:=Wnum.cN_bd a b;have bD:=Wnum.cD_bd a b;rw [hN] at bN;rw [hD] at bD;obtain ⟨n1,n2⟩:=bN;obtain ⟨n3,n4⟩:=bD;have EN:Hid (Wnum.cN a b=N):=hN;have ED:Hid (Wnum.cD a b=(D0:Int)):=hD;clear hN hD;have y6:¬ (D0:Int)=0:=by omega
 have y7:IntKind.u64.wrap (D0:Int)=(D0:Int):=by unfold IntKind.wrap;simp [IntKind.bits,IntKind.signed];omega
 have L1:Hid (Lib.decDigits q=l1):=hl1;have s1:l1.length<=21:=by rw [<-hl1];exact dd_len _ (by omega)
 have RR:Hid (res=[45]++l1):=hr;clear hl1 hr;have z0:¬ 9223372036854775807<1+l1.length:=by omega
 go_enter func99,ntmps99;go_wp2_with fail
 refine (zEA _ _ _ h1 h2 h3 h4).mono ?_;rintro e w1 ⟨rfl,hb1⟩;rw [EN.out,ED.out];have pA:At w1 w.heap.size (.int .i64 a) (.int .i64 b):=At.below hb1 (At.new w _ rfl _ _);have hB:Below w.heap.size w w1:=clA
 clear hb1;have pA':=pA;obtain ⟨a1,a2,a3,a4⟩:=pA';go_upto_region 2 with fail
 have qA:=pA.put (.int .i64 (N)) (.int .i64 ((D0:Int)));have qD:=zAW hB (k:=w.heap.size) (by omega) (.int .i64 (N)) (.int .i64 ((D0:Int)));clear pA hB a1 a2 a3 a4;generalize (w1.setCell ⟨w.heap.size,0,none⟩ (.int .i64 (N))).setCell ⟨w.heap.size,1,none⟩ (.int .i64 ((D0:Int)))=W1 at *;clear w1;have qA':=qA;obtain ⟨a1,a2,a3,a4⟩:=qA';go_wp2_with fail
 refine (zCO _ _ (by omega) (by omega)).mono ?_;rintro e w2 ⟨rfl,rfl⟩;go_wp2_with fail
 refine (zAi _ _ (by omega)).mono ?_;rintro e w3 ⟨rfl,hb3⟩;rw [L1.out];have qE:=zAA qD hb3;go_wp2;go_ret;refine ⟨?_,qE⟩;rw [RR.out];exact congrArg (λx=>Ending.returned (Value.string x)) (by rw [show (ByteArray.mk #[45])=⟨[(45:UInt8)].toArray⟩ from rfl,zAt])
theorem zEs (a b N:Int) (D0:Nat) (q R:Nat) (l1 res:List UInt8) (w:World) (h1:-9223372036854775808<=a) (h2:a<=9223372036854775807) (h3:-9223372036854775808<=b) (h4:b<=9223372036854775807) (hN:Wnum.cN a b=N) (hD:Wnum.cD a b=(D0:Int)) (hn:decide (N<0)=true) (hm:((1000000:Int) % (D0:Int) != 0)=false) (hq:(N.natAbs:Int) / (D0:Int)=(q:Int)) (hq2:(q:Int)<=1000000000000) (hR:(N.natAbs:Int) % (D0:Int)=(R:Int)) (hR2:R<D0) (hR3:((R:Int) == 0)=false) (hm2:1000000 % D0=0) (hl1:Lib.decDigits q=l1) (hr:res=[45]++(l1++46::Wnum.decs D0 6 R)) :
  CR 99 #[.agg #[.int .i64 a,.int .i64 b]] w (.string ⟨res.toArray⟩):=by
 have bN:=Wnum.cN_bd a b;have bD:=Wnum.cD_bd a b;rw [hN] at bN;rw [hD] at bD;obtain ⟨n1,n2⟩:=bN;obtain ⟨n3,n4⟩:=bD;have EN:Hid (Wnum.cN a b=N):=hN;have ED:Hid (Wnum.cD a b=(D0:Int)):=hD;clear hN hD;have y6:¬ (D0:Int)=0:=by omega
 have y7:IntKind.u64.wrap (D0:Int)=(D0:Int):=by unfold IntKind.wrap;simp [IntKind.bits,IntKind.signed];omega
 have L1:Hid (Lib.decDigits q=l1):=hl1;have s1:l1.length<=21:=by rw [<-hl1];exact dd_len _ (by omega)
 have RR:Hid (res=([45]++l1++[46])++Wnum.decs D0 6 R):=by show _=_;rw [hr];simp
 have EM:Hid (R * 10 ^ 6 % D0=0):=Wnum.ends_six hm2;clear hl1 hr hm2;have z0:¬ 9223372036854775807<1+l1.length:=by omega
 have z1:¬ 9223372036854775807<1+l1.length+1:=by omega
 go_enter func99,ntmps99;go_wp2_with fail
 refine (zEA _ _ _ h1 h2 h3 h4).mono ?_;rintro e w1 ⟨rfl,hb1⟩;rw [EN.out,ED.out];have pA:At w1 w.heap.size (.int .i64 a) (.int .i64 b):=At.below hb1 (At.new w _ rfl _ _);have hB:Below w.heap.size w w1:=clA
 clear hb1;have pA':=pA;obtain ⟨a1,a2,a3,a4⟩:=pA';go_upto_region 2 with fail
 have qA:=pA.put (.int .i64 (N)) (.int .i64 ((D0:Int)));have qD:=zAW hB (k:=w.heap.size) (by omega) (.int .i64 (N)) (.int .i64 ((D0:Int)));clear pA hB a1 a2 a3 a4;generalize (w1.setCell ⟨w.heap.size,0,none⟩ (.int .i64 (N))).setCell ⟨w.heap.size,1,none⟩ (.int .i64 ((D0:Int)))=W1 at *;clear w1;have qA':=qA;obtain ⟨a1,a2,a3,a4⟩:=qA';go_wp2_with fail
 refine (zCO _ _ (by omega) (by omega)).mono ?_;rintro e w2 ⟨rfl,rfl⟩;go_wp2_with fail
 refine (zAi _ _ (by omega)).mono ?_;rintro e w3 ⟨rfl,hb3⟩;rw [L1.out];have qE:=zAA qD hb3;go_wp2_with fail
 go_loopw [6,7] (λs x wr=>∃ (k r1:Nat) (l:List UInt8),s=.string ⟨l.toArray⟩/\x=.int .u64 (r1:Int)/\r1<D0/\k<=6/\Hid (r1 * 10 ^ k % D0=0)/\Hid (res=l++Wnum.decs D0 k r1)/\l.length+k<=60/\Below w.heap.size w wr) (λ_ x _=>Wnum.fu D0 6 (intOf x).toNat)
 case atStart=>exact ⟨6,R,[45]++l1++[46],congrArg Value.string (by rw [show (ByteArray.mk #[45])=⟨[(45:UInt8)].toArray⟩ from rfl,show (ByteArray.mk #[46])=⟨[(46:UInt8)].toArray⟩ from rfl,zAt,zAt]),by first | rfl | rw [hR],hR2,Nat.le_refl _,EM,RR,by simp;omega,qE⟩
 case round =>
  obtain ⟨k,r1,l,rfl,rfl,h1',hk,HE,HD,hl,qB⟩:=hrel;by_cases h0:r1=0
  ·have E:Hid (res=l):=by show _=_;rw [HD.out,h0,Wnum.decs_zero,List.append_nil]
   have r0:((r1:Int) != 0)=false:=by simp [h0]
   clear h0;go_wp2;go_ret;exact ⟨by rw [E.out];rfl,qB⟩
  ·obtain ⟨k',rfl⟩:∃ k',k=k'+1:=by
    cases k with
    | zero=>exact absurd (Wnum.ends_zero h1' HE.out) h0
    | succ k'=>exact ⟨k',rfl⟩
   have hd:0<D0:=by omega
   have hq':r1 * 10 / D0<=9:=by
    have:r1 * 10 / D0<10:=(Nat.div_lt_iff_lt_mul hd).2 (by omega);omega
   have e1:(r1:Int) * 10 / (D0:Int)=((r1 * 10 / D0:Nat):Int):=by rw [Int.natCast_ediv,Int.natCast_mul];rfl
   have e2:(r1:Int) * 10 % (D0:Int)=((r1 * 10 % D0:Nat):Int):=by rw [Int.natCast_emod,Int.natCast_mul];rfl
   have L:Hid (Wnum.fu D0 6 (r1 * 10 % D0)<Wnum.fu D0 6 r1):=Wnum.fu_less hd h1' h0 hk HE.out;have HE2:Hid (r1 * 10 % D0 * 10 ^ k' % D0=0):=Wnum.ends_step HE.out;have lt2:r1 * 10 % D0<D0:=Nat.mod_lt _ hd;have HD2:Hid (res=(l++[UInt8.ofNat (48+r1 * 10 / D0)])++Wnum.decs D0 k' (r1 * 10 % D0)):=by
    show _=_
    rw [HD.out,Wnum.decs_more h0,List.append_assoc];rfl
   have LD:Hid (Lib.decDigits (r1 * 10 / D0)=[UInt8.ofNat (48+r1 * 10 / D0)]):=by
    show _=_
    rw [zE4 (by omega),Nat.mod_eq_of_lt (by omega)]
   have r0:((r1:Int) != 0)=true:=by rw [bne_iff_ne];omega
   generalize r1 * 10 / D0=q2 at *;generalize hr2:r1 * 10 % D0=r2 at *;clear hr2 HE HD hq hR;generalize hc:UInt8.ofNat (48+q2)=c at *;clear hc;have z9:¬ 9223372036854775807<l.length+1:=by omega
   go_wp2_with fail
   refine (zAi _ _ (by omega)).mono ?_;rintro e w5 ⟨rfl,hb5⟩;rw [LD.out];go_wp2_with fail
   go_roundw
   case rel=>exact ⟨k',r2,l++[c],congrArg Value.string (zAt l [c]),by first | rfl | rw [e2],lt2,by omega,HE2,HD2,by rw [List.length_append,List.length_singleton];omega,zAA qB hb5⟩
   case measure=>simpa [intOf,e2] using L.out
theorem zFl (a b N:Int) (D0:Nat) (l1 l2 res:List UInt8) (w:World) (h1:-9223372036854775808<=a) (h2:a<=9223372036854775807) (h3:-9223372036854775808<=b) (h4:b<=9223372036854775807) (hN:Wnum.cN a b=N) (hD:Wnum.cD a b=(D0:Int)) (hn:decide (N<0)=false) (hm:((1000000:Int) % (D0:Int) != 0)=true) (hl1:Lib.decDigits N.natAbs=l1) (hl2:Lib.decDigits D0=l2) (hr:res=[]++(l1++47::l2)) :
  CR 99 #[.agg #[.int .i64 a,.int .i64 b]] w (.string ⟨res.toArray⟩):=by
 have bN:=Wnum.cN_bd a b;have bD:=Wnum.cD_bd a b;rw [hN] at bN;rw [hD] at bD;obtain ⟨n1,n2⟩:=bN;obtain ⟨n3,n4⟩:=bD;have EN:Hid (Wnum.cN a b=N):=hN;have ED:Hid (Wnum.cD a b=(D0:Int)):=hD;clear hN hD;have y6:¬ (D0:Int)=0:=by omega
 have y7:IntKind.u64.wrap (D0:Int)=(D0:Int):=by unfold IntKind.wrap;simp [IntKind.bits,IntKind.signed];omega
 have L1:Hid (Lib.decDigits N.natAbs=l1):=hl1;have L2:Hid (Lib.decDigits D0=l2):=hl2;have RR:Hid (res=[]++(l1++47::l2)):=hr;have s1:l1.length<=21:=by rw [<-hl1];exact dd_len _ (by omega)
 have s2:l2.length<=21:=by rw [<-hl2];exact dd_len _ (by omega)
 clear hl1 hl2 hr;have z0:¬ 9223372036854775807<l1.length:=by omega
 have z1:¬ 9223372036854775807<l1.length+1:=by omega
 have z2:¬ 9223372036854775807<l1.length+1+l2.length:=by omega
 go_enter func99,ntmps99;go_wp2_with fail
 refine (zEA _ _ _ h1 h2 h3 h4).mono ?_;rintro e w1 ⟨rfl,hb1⟩;rw [EN.out,ED.out];have pA:At w1 w.heap.size (.int .i64 a) (.int .i64 b):=At.below hb1 (At.new w _ rfl _ _);have hB:Below w.heap.size w w1:=clA
 clear hb1;have pA':=pA;obtain ⟨a1,a2,a3,a4⟩:=pA';go_upto_region 2 with fail
 have qA:=pA.put (.int .i64 (N)) (.int .i64 ((D0:Int)));have qD:=zAW hB (k:=w.heap.size) (by omega) (.int .i64 (N)) (.int .i64 ((D0:Int)));clear pA hB a1 a2 a3 a4;generalize (w1.setCell ⟨w.heap.size,0,none⟩ (.int .i64 (N))).setCell ⟨w.heap.size,1,none⟩ (.int .i64 ((D0:Int)))=W1 at *;clear w1;have qA':=qA;obtain ⟨a1,a2,a3,a4⟩:=qA';go_wp2_with fail
 refine (zCO _ _ (by omega) (by omega)).mono ?_;rintro e w2 ⟨rfl,rfl⟩;go_wp2_with fail
 refine (zAi _ _ (by omega)).mono ?_;rintro e w3 ⟨rfl,hb3⟩;rw [L1.out];have qE:=zAA qD hb3;go_wp2_with fail
 refine (zAi _ _ (by omega)).mono ?_;rintro e w4 ⟨rfl,hb4⟩;rw [L2.out];have qF:=zAA qE hb4;go_wp2;go_ret;refine ⟨?_,qF⟩;rw [RR.out];exact congrArg (λx=>Ending.returned (Value.string x)) (by rw [show (ByteArray.mk #[47])=⟨[(47:UInt8)].toArray⟩ from rfl,zAt,zAt,show (ByteArray.mk #[])=⟨([]:List UInt8).toArray⟩ from rfl,zAt];simp)
theorem zE2 (a b N:Int) (D0:Nat) (q:Nat) (l1 res:List UInt8) (w:World) (h1:-9223372036854775808<=a) (h2:a<=9223372036854775807) (h3:-9223372036854775808<=b) (h4:b<=9223372036854775807) (hN:Wnum.cN a b=N) (hD:Wnum.cD a b=(D0:Int)) (hn:decide (N<0)=false) (hm:((1000000:Int) % (D0:Int) != 0)=false) (hq:(N.natAbs:Int) / (D0:Int)=(q:Int)) (hq2:(q:Int)<=1000000000000) (hR:(N.natAbs:Int) % (D0:Int)=0) (hl1:Lib.decDigits q=l1) (hr:res=[]++l1) :
  CR 99 #[.agg #[.int .i64 a,.int .i64 b]] w (.string ⟨res.toArray⟩):=by
 have bN:=Wnum.cN_bd a b;have bD:=Wnum.cD_bd a b;rw [hN] at bN;rw [hD] at bD;obtain ⟨n1,n2⟩:=bN;obtain ⟨n3,n4⟩:=bD;have EN:Hid (Wnum.cN a b=N):=hN;have ED:Hid (Wnum.cD a b=(D0:Int)):=hD;clear hN hD;have y6:¬ (D0:Int)=0:=by omega
 have y7:IntKind.u64.wrap (D0:Int)=(D0:Int):=by unfold IntKind.wrap;simp [IntKind.bits,IntKind.signed];omega
 have L1:Hid (Lib.decDigits q=l1):=hl1;have s1:l1.length<=21:=by rw [<-hl1];exact dd_len _ (by omega)
 have RR:Hid (res=[]++l1):=hr;clear hl1 hr;have z0:¬ 9223372036854775807<l1.length:=by omega
 go_enter func99,ntmps99;go_wp2_with fail
 refine (zEA _ _ _ h1 h2 h3 h4).mono ?_;rintro e w1 ⟨rfl,hb1⟩;rw [EN.out,ED.out];have pA:At w1 w.heap.size (.int .i64 a) (.int .i64 b):=At.below hb1 (At.new w _ rfl _ _);have hB:Below w.heap.size w w1:=clA
 clear hb1;have pA':=pA;obtain ⟨a1,a2,a3,a4⟩:=pA';go_upto_region 2 with fail
 have qA:=pA.put (.int .i64 (N)) (.int .i64 ((D0:Int)));have qD:=zAW hB (k:=w.heap.size) (by omega) (.int .i64 (N)) (.int .i64 ((D0:Int)));clear pA hB a1 a2 a3 a4;generalize (w1.setCell ⟨w.heap.size,0,none⟩ (.int .i64 (N))).setCell ⟨w.heap.size,1,none⟩ (.int .i64 ((D0:Int)))=W1 at *;clear w1;have qA':=qA;obtain ⟨a1,a2,a3,a4⟩:=qA';go_wp2_with fail
 refine (zCO _ _ (by omega) (by omega)).mono ?_;rintro e w2 ⟨rfl,rfl⟩;go_wp2_with fail
 refine (zAi _ _ (by omega)).mono ?_;rintro e w3 ⟨rfl,hb3⟩;rw [L1.out];have qE:=zAA qD hb3;go_wp2;go_ret;refine ⟨?_,qE⟩;rw [RR.out];exact congrArg (λx=>Ending.returned (Value.string x)) (by rw [show (ByteArray.mk #[])=⟨([]:List UInt8).toArray⟩ from rfl,zAt])
theorem zEc (a b N:Int) (D0:Nat) (q R:Nat) (l1 res:List UInt8) (w:World) (h1:-9223372036854775808<=a) (h2:a<=9223372036854775807) (h3:-9223372036854775808<=b) (h4:b<=9223372036854775807) (hN:Wnum.cN a b=N) (hD:Wnum.cD a b=(D0:Int)) (hn:decide (N<0)=false) (hm:((1000000:Int) % (D0:Int) != 0)=false) (hq:(N.natAbs:Int) / (D0:Int)=(q:Int)) (hq2:(q:Int)<=1000000000000) (hR:(N.natAbs:Int) % (D0:Int)=(R:Int)) (hR2:R<D0) (hR3:((R:Int) == 0)=false) (hm2:1000000 % D0=0) (hl1:Lib.decDigits q=l1) (hr:res=[]++(l1++46::Wnum.decs D0 6 R)) :
  CR 99 #[.agg #[.int .i64 a,.int .i64 b]] w (.string ⟨res.toArray⟩):=by
 have bN:=Wnum.cN_bd a b;have bD:=Wnum.cD_bd a b;rw [hN] at bN;rw [hD] at bD;obtain ⟨n1,n2⟩:=bN;obtain ⟨n3,n4⟩:=bD;have EN:Hid (Wnum.cN a b=N):=hN;have ED:Hid (Wnum.cD a b=(D0:Int)):=hD;clear hN hD;have y6:¬ (D0:Int)=0:=by omega
 have y7:IntKind.u64.wrap (D0:Int)=(D0:Int):=by unfold IntKind.wrap;simp [IntKind.bits,IntKind.signed];omega
 have L1:Hid (Lib.decDigits q=l1):=hl1;have s1:l1.length<=21:=by rw [<-hl1];exact dd_len _ (by omega)
 have RR:Hid (res=([]++l1++[46])++Wnum.decs D0 6 R):=by show _=_;rw [hr];simp
 have EM:Hid (R * 10 ^ 6 % D0=0):=Wnum.ends_six hm2;clear hl1 hr hm2;have z0:¬ 9223372036854775807<l1.length:=by omega
 have z1:¬ 9223372036854775807<l1.length+1:=by omega
 go_enter func99,ntmps99;go_wp2_with fail
 refine (zEA _ _ _ h1 h2 h3 h4).mono ?_;rintro e w1 ⟨rfl,hb1⟩;rw [EN.out,ED.out];have pA:At w1 w.heap.size (.int .i64 a) (.int .i64 b):=At.below hb1 (At.new w _ rfl _ _);have hB:Below w.heap.size w w1:=clA
 clear hb1;have pA':=pA;obtain ⟨a1,a2,a3,a4⟩:=pA';go_upto_region 2 with fail
 have qA:=pA.put (.int .i64 (N)) (.int .i64 ((D0:Int)));have qD:=zAW hB (k:=w.heap.size) (by omega) (.int .i64 (N)) (.int .i64 ((D0:Int)));clear pA hB a1 a2 a3 a4;generalize (w1.setCell ⟨w.heap.size,0,none⟩ (.int .i64 (N))).setCell ⟨w.heap.size,1,none⟩ (.int .i64 ((D0:Int)))=W1 at *;clear w1;have qA':=qA;obtain ⟨a1,a2,a3,a4⟩:=qA';go_wp2_with fail
 refine (zCO _ _ (by omega) (by omega)).mono ?_;rintro e w2 ⟨rfl,rfl⟩;go_wp2_with fail
 refine (zAi _ _ (by omega)).mono ?_;rintro e w3 ⟨rfl,hb3⟩;rw [L1.out];have qE:=zAA qD hb3;go_wp2_with fail
 go_loopw [6,7] (λs x wr=>∃ (k r1:Nat) (l:List UInt8),s=.string ⟨l.toArray⟩/\x=.int .u64 (r1:Int)/\r1<D0/\k<=6/\Hid (r1 * 10 ^ k % D0=0)/\Hid (res=l++Wnum.decs D0 k r1)/\l.length+k<=60/\Below w.heap.size w wr) (λ_ x _=>Wnum.fu D0 6 (intOf x).toNat)
 case atStart=>exact ⟨6,R,[]++l1++[46],congrArg Value.string (by rw [show (ByteArray.mk #[])=⟨([]:List UInt8).toArray⟩ from rfl,show (ByteArray.mk #[46])=⟨[(46:UInt8)].toArray⟩ from rfl,zAt,zAt]),by first | rfl | rw [hR],hR2,Nat.le_refl _,EM,RR,by simp;omega,qE⟩
 case round =>
  obtain ⟨k,r1,l,rfl,rfl,h1',hk,HE,HD,hl,qB⟩:=hrel;by_cases h0:r1=0
  ·have E:Hid (res=l):=by show _=_;rw [HD.out,h0,Wnum.decs_zero,List.append_nil]
   have r0:((r1:Int) != 0)=false:=by simp [h0]
   clear h0;go_wp2;go_ret;exact ⟨by rw [E.out];rfl,qB⟩
  ·obtain ⟨k',rfl⟩:∃ k',k=k'+1:=by
    cases k with
    | zero=>exact absurd (Wnum.ends_zero h1' HE.out) h0
    | succ k'=>exact ⟨k',rfl⟩
   have hd:0<D0:=by omega
   have hq':r1 * 10 / D0<=9:=by
    have:r1 * 10 / D0<10:=(Nat.div_lt_iff_lt_mul hd).2 (by omega);omega
   have e1:(r1:Int) * 10 / (D0:Int)=((r1 * 10 / D0:Nat):Int):=by rw [Int.natCast_ediv,Int.natCast_mul];rfl
   have e2:(r1:Int) * 10 % (D0:Int)=((r1 * 10 % D0:Nat):Int):=by rw [Int.natCast_emod,Int.natCast_mul];rfl
   have L:Hid (Wnum.fu D0 6 (r1 * 10 % D0)<Wnum.fu D0 6 r1):=Wnum.fu_less hd h1' h0 hk HE.out;have HE2:Hid (r1 * 10 % D0 * 10 ^ k' % D0=0):=Wnum.ends_step HE.out;have lt2:r1 * 10 % D0<D0:=Nat.mod_lt _ hd;have HD2:Hid (res=(l++[UInt8.ofNat (48+r1 * 10 / D0)])++Wnum.decs D0 k' (r1 * 10 % D0)):=by
    show _=_
    rw [HD.out,Wnum.decs_more h0,List.append_assoc];rfl
   have LD:Hid (Lib.decDigits (r1 * 10 / D0)=[UInt8.ofNat (48+r1 * 10 / D0)]):=by
    show _=_
    rw [zE4 (by omega),Nat.mod_eq_of_lt (by omega)]
   have r0:((r1:Int) != 0)=true:=by rw [bne_iff_ne];omega
   generalize r1 * 10 / D0=q2 at *;generalize hr2:r1 * 10 % D0=r2 at *;clear hr2 HE HD hq hR;generalize hc:UInt8.ofNat (48+q2)=c at *;clear hc;have z9:¬ 9223372036854775807<l.length+1:=by omega
   go_wp2_with fail
   refine (zAi _ _ (by omega)).mono ?_;rintro e w5 ⟨rfl,hb5⟩;rw [LD.out];go_wp2_with fail
   go_roundw
   case rel=>exact ⟨k',r2,l++[c],congrArg Value.string (zAt l [c]),by first | rfl | rw [e2],lt2,by omega,HE2,HD2,by rw [List.length_append,List.length_singleton];omega,zAA qB hb5⟩
   case measure=>simpa [intOf,e2] using L.out
theorem zEb (n:Nat):Lib.itoa (n:Int)=Lib.decDigits n:=by
 rw [Wnum.itoa_sgn];unfold Wnum.sgnT;rw [if_neg (by omega),Int.natAbs_natCast];rfl
theorem zGO (h:1000000 % n ≠ 0):((1000000:Int) % (n:Int) != 0)=true:=by
 rw [bne_iff_ne];intro e;exact h (Int.ofNat_inj.1 ((Int.natCast_emod 1000000 n).trans e))
theorem zDj (h:1000000 % n=0):((1000000:Int) % (n:Int) != 0)=false:=by
 rw [bne_eq_false_iff_eq];exact (Int.natCast_emod 1000000 n).symm.trans (congrArg Int.ofNat h)
theorem zDQ (N:Int) (n:Nat):(N.natAbs:Int) / (n:Int)=((N.natAbs / n:Nat):Int):=(Int.natCast_ediv _ _).symm
theorem zEZ (N:Int) (n:Nat):(N.natAbs:Int) % (n:Int)=((N.natAbs % n:Nat):Int):=(Int.natCast_emod _ _).symm
theorem zFn (n:Nat) (h1:-1000000000000<=N) (h2:N<=1000000000000):((N.natAbs / n:Nat):Int)<=1000000000000:=by
 have:=Nat.div_le_self N.natAbs n;omega
theorem zEm (h:N<0):Wnum.sgnT N=[45]:=if_pos h
theorem zE9 (h:¬ N<0):Wnum.sgnT N=[]:=if_neg h
theorem zM4 (a b:Int) (w:World) (h1:-9223372036854775808<=a) (h2:a<=9223372036854775807) (h3:-9223372036854775808<=b) (h4:b<=9223372036854775807) (htab:Lib.TabIs prog w "internal/strconv.uint64pow10" .u64 Lib.pow10Tab) :
  CR 143 #[.agg #[.int .i64 a,.int .i64 b]] w (.string ⟨(Wnum.txt (Wnum.cN a b) (Wnum.cD a b).toNat).toArray⟩):=by
 obtain ⟨n1,n2⟩:=Wnum.cN_bd a b;obtain ⟨n3,n4⟩:=Wnum.cD_bd a b;obtain ⟨D0,hD⟩:∃ D0,D0=(Wnum.cD a b).toNat:=⟨_,rfl⟩
 have eD:Wnum.cD a b=(D0:Int):=by omega
 by_cases h1':D0=1
 ·refine zKy a b _ w h1 h2 h3 h4 (by rw [beq_iff_eq];omega) ?_ htab;rw [<-hD,h1',Wnum.txt_whole (by decide) (Nat.mod_one _),Nat.div_one,Wnum.itoa_sgn]
 ·have d1:(Wnum.cD a b == 1)=false:=by rw [beq_eq_false_iff_ne];omega
  by_cases hm:1000000 % D0=0
  ·have g:Int.gcd (Wnum.cN a b) (Wnum.cD a b)=1:=(Wnum.right_iff.1 (Wnum.c_right a b)).2.2.2.2;have hR:(Wnum.cN a b).natAbs % D0 ≠ 0:=by
    intro h;have:D0 ∣ Nat.gcd (Wnum.cN a b).natAbs D0:=Nat.dvd_gcd (Nat.dvd_of_mod_eq_zero h) (Nat.dvd_refl _);rw [eD] at g;rw [show Nat.gcd (Wnum.cN a b).natAbs D0=1 from g] at this;exact h1' (Nat.dvd_one.1 this)
   refine zI4 a b ((Wnum.cN a b).natAbs / D0) ((Wnum.cN a b).natAbs % D0) _ _ _ _ w h1 h2 h3 h4 d1 (by rw [eD];exact zDj hm) (by rw [<-hD];exact hm) (by rw [eD];exact zDQ _ _) (by rw [eD];exact zEZ _ _) (zFn _ n1 n2) (by rw [eD];exact Int.ofNat_lt.2 (Nat.mod_lt _ (by omega))) rfl rfl rfl ?_ ?_ htab
   ·intro hn;rw [<-hD,Wnum.txt_point hm hR,zEm hn,zEb];rfl
   ·intro hn;rw [<-hD,Wnum.txt_point hm hR,zE9 hn,zEb];rfl
  ·have:=zJy a b _ _ w h1 h2 h3 h4 d1 (by rw [eD];exact zGO hm) rfl rfl htab;rw [<-hD,Wnum.txt_frac hm];rw [eD,zEb,Wnum.itoa_sgn,List.append_assoc] at this;exact this
theorem zIs (a b:Int) (w:World) (h1:-9223372036854775808<=a) (h2:a<=9223372036854775807) (h3:-9223372036854775808<=b) (h4:b<=9223372036854775807) :
  CR 99 #[.agg #[.int .i64 a,.int .i64 b]] w (.string ⟨(Wnum.txt (Wnum.cN a b) (Wnum.cD a b).toNat).toArray⟩):=by
 obtain ⟨n1,n2⟩:=Wnum.cN_bd a b;obtain ⟨n3,n4⟩:=Wnum.cD_bd a b;obtain ⟨D0,hD⟩:∃ D0,D0=(Wnum.cD a b).toNat:=⟨_,rfl⟩
 have eD:Wnum.cD a b=(D0:Int):=by omega
 rw [<-hD];by_cases hm:1000000 % D0=0
 ·by_cases hR:(Wnum.cN a b).natAbs % D0=0
  ·have hR':((Wnum.cN a b).natAbs:Int) % (D0:Int)=0:=by rw [zEZ,hR];rfl
   by_cases hn:Wnum.cN a b<0
   ·exact zEa a b _ D0 ((Wnum.cN a b).natAbs / D0) _ _ w h1 h2 h3 h4 rfl eD (decide_eq_true hn) (zDj hm) (zDQ _ _) (zFn _ n1 n2) hR' rfl (by rw [Wnum.txt_whole hm hR,zEm hn])
   ·exact zE2 a b _ D0 ((Wnum.cN a b).natAbs / D0) _ _ w h1 h2 h3 h4 rfl eD (decide_eq_false hn) (zDj hm) (zDQ _ _) (zFn _ n1 n2) hR' rfl (by rw [Wnum.txt_whole hm hR,zE9 hn])
  ·have r0:((((Wnum.cN a b).natAbs % D0:Nat):Int) == 0)=false:=by rw [beq_eq_false_iff_ne];omega
   by_cases hn:Wnum.cN a b<0
   ·exact zEs a b _ D0 ((Wnum.cN a b).natAbs / D0) ((Wnum.cN a b).natAbs % D0) _ _ w h1 h2 h3 h4 rfl eD (decide_eq_true hn) (zDj hm) (zDQ _ _) (zFn _ n1 n2) (zEZ _ _) (Nat.mod_lt _ (by omega)) r0 hm rfl (by rw [Wnum.txt_point hm hR,zEm hn])
   ·exact zEc a b _ D0 ((Wnum.cN a b).natAbs / D0) ((Wnum.cN a b).natAbs % D0) _ _ w h1 h2 h3 h4 rfl eD (decide_eq_false hn) (zDj hm) (zDQ _ _) (zFn _ n1 n2) (zEZ _ _) (Nat.mod_lt _ (by omega)) r0 hm rfl (by rw [Wnum.txt_point hm hR,zE9 hn])
 ·by_cases hn:Wnum.cN a b<0
  ·exact zFi a b _ D0 _ _ _ w h1 h2 h3 h4 rfl eD (decide_eq_true hn) (zGO hm) rfl rfl (by rw [Wnum.txt_frac hm,zEm hn])
  ·exact zFl a b _ D0 _ _ _ w h1 h2 h3 h4 rfl eD (decide_eq_false hn) (zGO hm) rfl rfl (by rw [Wnum.txt_frac hm,zE9 hn])
end Go.Proofs.YtdghjlmnlodnlaaGreatDoor
namespace Wlx
theorem wgt_cons (t:TV) (r:List TV):wgt (t::r)=t.t.length+1+wgt r:=by simp [wgt]
theorem wgt_mem:∀ (ts:List TV) (i:Nat) (h:i<ts.length),(ts[i]).t.length+1<=wgt ts
 | [],i,h=>by simp at h
 | t::r,0,_=>by rw [wgt_cons];show t.t.length+1<=_;omega
 | t::r,i+1,h=>by
  have h2:i<r.length:=by simpa using h
  have:=wgt_mem r i h2;rw [wgt_cons,List.getElem_cons_succ];omega
theorem wv_length (t:TV):(wv t).length<=2 * t.t.length+2:=by
 unfold wv;split
 ·have:=dbl_length t.t;simp;omega
 ·omega
theorem joinF_length (ts:List TV):∀ f,(joinF f ts).length<=3 * wgt ts:=by
 induction ts with
 | nil=>intro f;exact Nat.zero_le _
 | cons t r ih =>
  intro f;have h1:=ih false;have h2:=wv_length t;have h3:(if f then ([]:List UInt8) else [32]).length<=1:=by cases f <;> simp
  rw [wgt_cons];show ((if f then ([]:List UInt8) else [32])++wv t++joinF false r).length<=_
  rw [List.length_append,List.length_append];omega
end Wlx
namespace Go.Proofs.YtdghjlmnlodnlaaGreatDoor
open Tryz
open Go.Shelf Go.RowKit
theorem zM1 (w:World) (o:Obj):(w.alloc o).heap[w.heap.size]? = some o:=by
 show (w.heap.push o)[w.heap.size]? = _
 simp
theorem zG6 (v:Value) (ts:List Wlx.TV) (w:World) (hr:zPH w v ts) (hm:MaxAt w) (hw:Wlx.wgt ts<=1048576):CR 144 #[v] w (.string ⟨(Wlx.textV ts).toArray⟩):=by
 obtain ⟨av,cap,rfl,hr⟩:=hr;have hlen:ts.length<=1048576:=by
  have:ts.length<=Wlx.wgt ts:=by
   clear hr hw;induction ts with
   | nil=>exact Nat.zero_le _
   | cons t r ih=>rw [Wlx.wgt_cons];simp only [List.length_cons];omega
  omega
 have hjl:=Wlx.joinF_length ts true;have HT:Hid (∀ i (h:i<ts.length),(ts[i]).t.length<=1048576):=λi h=>by have:=Wlx.wgt_mem ts i h;omega
 have HC:Hid (∀ i (h:i<ts.length),∃ bb off,av=some ⟨bb,off,none⟩/\bb<w.heap.size /\
  w.cell? ⟨bb,off+i * 3,none⟩=some (.int .i64 (ts[i]).k)/\w.cell? ⟨bb,off+i * 3+1,none⟩=some (.string ⟨(ts[i]).t.toArray⟩)/\w.cell? ⟨bb,off+i * 3+2,none⟩=some (.int .i64 (ts[i]).p)):=hr
 obtain ⟨R,hR⟩:∃ R,Wlx.textV ts=R:=⟨_,rfl⟩
 have E0:Hid (R=[]++Wlx.joinF true (ts.drop 0)):=hR.symm;have hRl:R.length<=3145728:=by rw [<-hR];unfold Wlx.textV;omega
 rw [hR];clear hr hjl hR hw;go_enter func144,ntmps144;go_wp2_with fail
 go_loopg [8] (ts.length) (λgk x wr=>∃ (i:Nat) (acc:List UInt8),x=.int .i64 i/\gk=ts.length - i/\i<=ts.length/\Hid (R=acc++Wlx.joinF (decide (i=0)) (ts.drop i))/\Hid (Lib.IsBuilderF 84 5 w.heap.size w.heap.size (Lib.byteCells acc) wr)/\Below w.heap.size w wr)
 case atStart=>exact ⟨0,[],rfl,rfl,Nat.zero_le _,E0,Lib.IsBuilderF.of (Lib.fresh_isBuilder 84 5 w),(Below.refl _ w).alloc (Nat.le_refl _) _⟩
 case round =>
  obtain ⟨i,acc,rfl,hg,hi,HR,HB,hb⟩:=hrel;have sw:=hb.size;by_cases hlt:i<ts.length
  ·have hli:(i:Int)<(ts.length:Int):=by omega
   obtain ⟨bb,off,rfl,hbb,c0,c1,c2⟩:=HC.out i hlt;have htl:=HT.out i hlt;have hd:ts.drop i=ts[i]::ts.drop (i+1):=List.drop_eq_getElem_cons hlt;obtain ⟨x,hx⟩:∃ x,ts[i]=x:=⟨_,rfl⟩
   rw [hx] at c0 c1 c2 htl hd;have c0:=(hb.cell (p:=⟨bb,off+i * 3,none⟩) hbb).trans c0;have c1:=(hb.cell (p:=⟨bb,off+i * 3+1,none⟩) hbb).trans c1;have c2:=(hb.cell (p:=⟨bb,off+i * 3+2,none⟩) hbb).trans c2;have hbw:bb<wr.heap.size:=by omega
   have hne:¬ wr.heap.size=w.heap.size:=by
    obtain ⟨_,_,h2,_⟩ | ⟨_,_,h2,_⟩:=HB.out <;> have:=(Array.getElem?_eq_some_iff.1 h2).1 <;> omega
   have hml:acc.length+(Wlx.wv x).length+1<=9437184:=by
    have h1:=congrArg List.length HR.out;have h2:=Wlx.wv_length x;rw [List.length_append] at h1;omega
   have E:Hid (R=acc++(if i=0 then [] else [32])++Wlx.wv x++Wlx.joinF (decide (i+1=0)) (ts.drop (i+1))):=by
    show _=_
    rw [HR.out,hd,decide_eq_false (show ¬ i+1=0 by omega)];show acc++((if decide (i=0)=true then [] else [32])++Wlx.wv x++Wlx.joinF false (ts.drop (i+1)))=_
    by_cases h:i=0
    ·rw [if_pos (decide_eq_true h),if_pos h];simp
    ·rw [if_neg (by simpa using h),if_neg h];simp
   have hmr:MaxAt wr:=MaxAt.below hm hb;obtain ⟨k,s,p⟩:=x;clear HR hx hd;by_cases h0:i=0
   ·have E2:Hid (R=acc++Wlx.wv ⟨k,s,p⟩++Wlx.joinF (decide (i+1=0)) (ts.drop (i+1))):=by show _=_;rw [E.out,if_pos h0,List.append_nil]
    have hii:¬ (0:Int)<(i:Int):=by omega
    clear E h0;go_wp2_with fail
    refine (zDh k p s _ (MaxAt.below hmr ((Below.refl _ wr).alloc (Nat.le_refl _) _)) htl).mono ?_;rintro e w1 ⟨rfl,hb1⟩;have hb01:Below wr.heap.size wr w1:=((Below.refl _ wr).alloc (Nat.le_refl _) _).trans (hb1.mono (by simp));have HB1:Hid (Lib.IsBuilderF 84 5 w.heap.size w.heap.size (Lib.byteCells acc) w1):=zDV HB.out hb01;clear hb1;go_wp2_with fail
    refine (zNd _ _ acc _ _ HB1.out (by show acc.length+(Wlx.wv ⟨k,s,p⟩).length<=_;omega) (by have:=hb01.size;omega)).mono ?_;rintro e w2 ⟨rfl,hB2,hb2,_⟩;have HB2:Hid (Lib.IsBuilderF 84 5 w.heap.size w.heap.size (Lib.byteCells (acc++Wlx.wv ⟨k,s,p⟩)) w2):=hB2;clear hB2;go_wp2_with fail
    go_roundg (ts.length - (i+1))
    case rel=>exact ⟨i+1,acc++Wlx.wv ⟨k,s,p⟩,by simp,rfl,hlt,E2,HB2,hb.trans ((hb01.mono sw).trans hb2)⟩
    case measure=>omega
   ·have E2:Hid (R=acc++[32]++Wlx.wv ⟨k,s,p⟩++Wlx.joinF (decide (i+1=0)) (ts.drop (i+1))):=by show _=_;rw [E.out,if_neg h0]
    have hii:(0:Int)<(i:Int):=by omega
    clear E h0;go_wp2_with fail
    refine (zNd _ _ acc ⟨#[32]⟩ _ (zDV HB.out ((Below.refl _ wr).alloc (Nat.le_refl _) _)) (by show acc.length+1<=_;omega) (by simp;omega)).mono ?_;rintro e w1 ⟨rfl,hB1,hb1,ho1⟩;have hk1:=ho1 _ _ (zM1 wr (.cells #[.int .i64 k,.string ⟨s.toArray⟩,.int .i64 p] 107)) (λh=>hne (Option.some.inj h)) (λc fz h=>by cases h);have x0:w1.cell? ⟨wr.heap.size,0,none⟩=some (.int .i64 k):=by rw [Lib.cell_of_heap hk1];rfl
    have x1:w1.cell? ⟨wr.heap.size,1,none⟩=some (.string ⟨s.toArray⟩):=by rw [Lib.cell_of_heap hk1];rfl
    have x2:w1.cell? ⟨wr.heap.size,2,none⟩=some (.int .i64 p):=by rw [Lib.cell_of_heap hk1];rfl
    have hb01:Below w.heap.size w w1:=hb.trans (((Below.refl _ wr).alloc (Nat.le_refl _) _).mono sw |>.trans hb1);have HB1:Hid (Lib.IsBuilderF 84 5 w.heap.size w.heap.size (Lib.byteCells (acc++[32])) w1):=hB1;clear hb1 ho1 hk1 hB1 hmr HB;have hm1:MaxAt w1:=MaxAt.below hm hb01;go_wp2_with fail
    refine (zDh k p s _ hm1 htl).mono ?_;rintro e w2 ⟨rfl,hb2⟩;have hb02:Below w.heap.size w w2:=hb01.trans (hb2.mono hb01.size);have HB2:Hid (Lib.IsBuilderF 84 5 w.heap.size w.heap.size (Lib.byteCells (acc++[32])) w2):=zDV HB1.out hb2;clear hb2 HB1;go_wp2_with fail
    refine (zNd _ _ (acc++[32]) _ _ HB2.out (by rw [List.length_append];show acc.length+1+(Wlx.wv ⟨k,s,p⟩).length<=_;omega) hb02.size).mono ?_;rintro e w3 ⟨rfl,hB3,hb3,_⟩;have HB3:Hid (Lib.IsBuilderF 84 5 w.heap.size w.heap.size (Lib.byteCells (acc++[32]++Wlx.wv ⟨k,s,p⟩)) w3):=hB3;clear hB3;go_wp2_with fail
    go_roundg (ts.length - (i+1))
    case rel=>exact ⟨i+1,acc++[32]++Wlx.wv ⟨k,s,p⟩,by simp,rfl,hlt,E2,HB3,hb02.trans hb3⟩
    case measure=>omega
  ·have hli:¬ (i:Int)<(ts.length:Int):=by omega
   have E:Hid (R=acc):=by
    show _=_;rw [HR.out,List.drop_eq_nil_of_le (by omega)];unfold Wlx.joinF;rw [List.append_nil]
   clear HR;go_wp2_with fail
   refine (zRU _ _ acc _ HB.out sw).mono ?_;rintro e w1 ⟨rfl,hb1⟩;go_wp2;go_ret;exact ⟨by rw [E.out];rfl,hb.trans hb1⟩
open Go.RowKit Go.Shelf
theorem zJP (l:List UInt8):Wlx.textV [⟨2,l,0⟩]=34::(Wlx.dbl l++[34]):=by
 simp [Wlx.textV,Wlx.joinF,Wlx.wv]
theorem zOB (v:Wt.Vl) (w:World) (hv:Wt.vlOk v=true) (hf:Wt.FitV v) (hE:Env w):CR 116 #[vlV v] w (.string ⟨(zFx v).toArray⟩):=by
 obtain ⟨k,n,d,t,b,f⟩:=v;have hB0:=zAI (Below.refl _ w) (.cells #[.int .i64 k,.int .i64 n,.int .i64 d,.string t,.bool b,.int .i64 f] 26);unfold Wt.vlOk at hv;unfold Wt.FitV at hf;unfold zFx;simp only [vlV,vl6] at *;by_cases h1:k=1
 ·subst h1;have T:=zM4 n d _ hf.1.1 hf.1.2 hf.2.1.1 hf.2.1.2 (hE.below hB0).2.2.2;rw [if_pos rfl];go_enter func116,ntmps116;go_wp2_with fail
  refine T.mono ?_;rintro e w1 ⟨rfl,hb⟩;have hB1:=zAA hB0 hb;go_wp2;go_ret;exact ⟨rfl,(clB hB1)⟩
 rw [if_neg h1];by_cases h2:k=2
 ·subst h2;rw [if_pos rfl];rw [if_neg (by decide),if_neg (by decide)] at hv;unfold Wv.right at hv;rw [if_neg (by decide),if_neg (by decide),if_pos rfl] at hv;simp only [Bool.and_eq_true,decide_eq_true_eq,Bool.not_eq_true'] at hv;obtain ⟨⟨⟨⟨⟨hs,-⟩,rfl⟩,rfl⟩,rfl⟩,rfl⟩:=hv;have hB2:=zAI hB0 (.cells #[.int .i64 2,.string t,.int .i64 0] 107);have e:t.data.toList.length=t.size:=by rw [Array.length_toList];rfl
  have pT:=AtL.new1 w (.cells #[.int .i64 2,.int .i64 0,.int .i64 0,.string t,.bool false,.int .i64 0] 26) 107 [.int .i64 2,.string t,.int .i64 0];have hR:zPH ((w.alloc (.cells #[.int .i64 2,.int .i64 0,.int .i64 0,.string t,.bool false,.int .i64 0] 26)).alloc (.cells #[.int .i64 2,.string t,.int .i64 0] 107)) (.slice (some ⟨w.heap.size+1,0,none⟩) 1 1) [⟨2,t.data.toList,0⟩]:=by
   refine ⟨_,1,rfl,λi hi=>?_⟩;obtain rfl:i=0:=by simpa using hi
   exact ⟨_,0,rfl,pT.1,pT.2.1 0 _ rfl,pT.2.1 1 _ rfl,pT.2.1 2 _ rfl⟩
  have T:=zG6 _ _ _ hR (hE.below hB2).2.2.1 (by simp only [Wlx.wgt,List.map_cons,List.map_nil,List.sum_cons,List.sum_nil];omega);rw [zJP] at T;generalize (34::(Wlx.dbl t.data.toList++[34]):List UInt8)=tx at *;clear hR pT e;go_enter func116,ntmps116;go_wp2_with fail
  refine T.mono ?_;rintro e w1 ⟨rfl,hb⟩;have hB1:=zAA hB2 hb;go_wp2;go_ret;exact ⟨rfl,(clB hB1)⟩
 rw [if_neg h2];by_cases h3:k=3
 ·subst h3;rw [if_pos rfl];rw [if_neg (by decide),if_neg (by decide)] at hv;unfold Wv.right at hv;rw [if_neg (by decide),if_neg (by decide),if_neg (by decide),if_pos rfl] at hv;simp only [Bool.and_eq_true,decide_eq_true_eq] at hv;obtain ⟨⟨⟨rfl,rfl⟩,rfl⟩,rfl⟩:=hv;have T:=λw=>zHi b w
  generalize (⟨(if b then [84,82,85,69] else [70,65,76,83,69]:List UInt8).toArray⟩:ByteArray)=tx at *;simp only [vlV,vl6,zA1] at T;go_enter func116,ntmps116;go_wp2_with fail
  refine (T _).mono ?_;rintro e w1 ⟨rfl,hb⟩;have hB1:=zAA hB0 hb;go_wp2;go_ret;exact ⟨rfl,(clB hB1)⟩
 rw [if_neg h3];split at hv
 ·cases hv
 unfold Wv.right at hv;rw [if_neg (by assumption),if_neg h1,if_neg h2,if_neg h3] at hv;split at hv
 ·rename_i h0 h4
  subst h4;simp only [Bool.and_eq_true,decide_eq_true_eq,Bool.not_eq_true'] at hv;obtain ⟨⟨⟨⟨hfl,rfl⟩,rfl⟩,rfl⟩,rfl⟩:=hv;unfold Wv.flt at hfl;simp only [Bool.and_eq_true,decide_eq_true_eq] at hfl;obtain ⟨g,rfl⟩:∃ g:Nat,f=g:=⟨f.toNat,by omega⟩
  have T:=zIJ g (by omega) (by omega) _ (hE.below hB0).2.1;rw [Int.toNat_natCast];generalize fNames.getD g []=tx at *;simp only [vlV,vl6] at T;go_enter func116,ntmps116;go_wp2_with fail
  refine T.mono ?_;rintro e w1 ⟨rfl,hb⟩;have hB1:=zAA hB0 hb;go_wp2;go_ret;exact ⟨rfl,(clB hB1)⟩
 ·cases hv
