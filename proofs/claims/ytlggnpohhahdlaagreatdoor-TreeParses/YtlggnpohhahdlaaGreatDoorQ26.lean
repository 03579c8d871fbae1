/- WalkIt, WalkDs, WalkTx, WalkTy, LTextB, TLitT, TCelT. -/
import Derived.Test.YtlggnpohhahdlaaGreatDoorQ25
import Derived.Test.YtlggnpohhahdlaaGreatDoorChecked
import Derived.Shelf.Strconv.Itoa3
import Derived.Lib.AppendIntMem
import Derived.Ground.NamesProg
import Derived.Shelf.Strings.Builder1
import Derived.Deep.DeepCutAuto
set_option maxHeartbeats 3200000
set_option maxRecDepth 100000
namespace Go.Proofs.YtlggnpohhahdlaaGreatDoor
open Go.Shelf Go.RowKit
def laysItoa_ren:Go.Shelf.Ren:=⟨fun | 171=>150 | 243=>170 | 246=>190 | 283=>197 | 284=>198 | 285=>199 | 286=>200 | 129=>206 | 317=>205 | 318=>207 | 319=>208 | 320=>209 | 337=>214 | 338=>215 | n=>n,fun | 3=>3 | 9=>9 | 2=>2 | 4=>4 | 171=>197 | 0=>0 | 53=>141 | 37=>63 | 5=>5 | 173=>200 | 212=>208 | 51=>186 | 20=>20 | 213=>209 | 46=>174 | 232=>215 | 233=>216 | n=>n,fun | 17=>5 | 18=>6 | 19=>7 | n=>n⟩
theorem laysItoa:Go.Proofs.LaysM.n171 Tryz.prog laysItoa_ren:={
 mixed:=by kernel_rfl
 f129:=Tryz.func206.trans (congrArg some (by kernel_rfl))
 f171:=Tryz.func150.trans (congrArg some (by kernel_rfl))
 f243:=Tryz.func170.trans (congrArg some (by kernel_rfl))
 f246:=Tryz.func190.trans (congrArg some (by kernel_rfl))
 f283:=Tryz.func197.trans (congrArg some (by kernel_rfl))
 f284:=Tryz.func198.trans (congrArg some (by kernel_rfl))
 f285:=Tryz.func199.trans (congrArg some (by kernel_rfl))
 f286:=Tryz.func200.trans (congrArg some (by kernel_rfl))
 f317:=Tryz.func205.trans (congrArg some (by kernel_rfl))
 f318:=Tryz.func207.trans (congrArg some (by kernel_rfl))
 f319:=Tryz.func208.trans (congrArg some (by kernel_rfl))
 f320:=Tryz.func209.trans (congrArg some (by kernel_rfl))
 f337:=Tryz.func214.trans (congrArg some (by kernel_rfl))
 f338:=Tryz.func215.trans (congrArg some (by kernel_rfl))
 t0:=Tryz.underlying0
 a0:=Tryz.isAgg0
 z0:=Tryz.sizeOf0
 v0:=Tryz.zeroValue0
 t2:=Tryz.underlying2
 a2:=Tryz.isAgg2
 z2:=Tryz.sizeOf2
 v2:=Tryz.zeroValue2
 t3:=Tryz.underlying3
 a3:=Tryz.isAgg3
 z3:=Tryz.sizeOf3
 v3:=Tryz.zeroValue3
 t4:=Tryz.underlying4
 a4:=Tryz.isAgg4
 z4:=Tryz.sizeOf4
 v4:=Tryz.zeroValue4
 t5:=Tryz.underlying5
 a5:=Tryz.isAgg5
 z5:=Tryz.sizeOf5
 v5:=Tryz.zeroValue5
 t9:=Tryz.underlying9
 a9:=Tryz.isAgg9
 z9:=Tryz.sizeOf9
 v9:=Tryz.zeroValue9
 t20:=Tryz.underlying20
 a20:=Tryz.isAgg20
 z20:=Tryz.sizeOf20
 v20:=Tryz.zeroValue20
 t37:=Tryz.underlying63
 a37:=Tryz.isAgg63
 z37:=Tryz.sizeOf63
 v37:=Tryz.zeroValue63
 t46:=Tryz.underlying174
 a46:=Tryz.isAgg174
 z46:=Tryz.sizeOf174
 v46:=Tryz.zeroValue174
 t51:=Tryz.underlying186
 a51:=Tryz.isAgg186
 z51:=Tryz.sizeOf186
 v51:=Tryz.zeroValue186
 t53:=Tryz.underlying141
 a53:=Tryz.isAgg141
 z53:=Tryz.sizeOf141
 v53:=Tryz.zeroValue141
 t171:=Tryz.underlying197
 a171:=Tryz.isAgg197
 z171:=Tryz.sizeOf197
 v171:=Tryz.zeroValue197
 t173:=Tryz.underlying200
 a173:=Tryz.isAgg200
 z173:=Tryz.sizeOf200
 v173:=Tryz.zeroValue200
 t212:=Tryz.underlying208
 a212:=Tryz.isAgg208
 z212:=Tryz.sizeOf208
 v212:=Tryz.zeroValue208
 t213:=Tryz.underlying209
 a213:=Tryz.isAgg209
 z213:=Tryz.sizeOf209
 t232:=Tryz.underlying215
 a232:=Tryz.isAgg215
 z232:=Tryz.sizeOf215
 v232:=Tryz.zeroValue215
 t233:=Tryz.underlying216
 a233:=Tryz.isAgg216
 z233:=Tryz.sizeOf216
 v233:=Tryz.zeroValue216
 g17:=by kernel_rfl
 g18:=by kernel_rfl
 g19:=by kernel_rfl
 i0:=by kernel_rfl
 i2:=by kernel_rfl
 i3:=by kernel_rfl
 i4:=by kernel_rfl
 i5:=by kernel_rfl
 i9:=by kernel_rfl
 i20:=by kernel_rfl
 i37:=by kernel_rfl
 i46:=by kernel_rfl
 i51:=by kernel_rfl
 i53:=by kernel_rfl
 i171:=by kernel_rfl
 i173:=by kernel_rfl
 i212:=by kernel_rfl
 i232:=by kernel_rfl
 i233:=by kernel_rfl
 m17:=by kernel_rfl
 m18:=by kernel_rfl
 m19:=by kernel_rfl}
theorem itoa_any (n:Int) (h0:-9223372036854775808≤n) (h1:n≤9223372036854775807) (w:World) (htab:Lib.TabIs Tryz.prog w "internal/strconv.uint64pow10" .u64 Lib.pow10Tab) :
  Calls Tryz.prog 150 #[.int .i64 n] w fun e w'=>e=.returned (.string ⟨(Lib.itoa n).toArray⟩)∧∃ k os,w'=Sort.grow (w.drewN k) os:=Any.strconv_Itoa laysItoa n h0 h1 w htab
def lays169_ren:Go.Shelf.Ren:=⟨fun | 169=>28 | n=>n,fun | 70=>62 | 9=>9 | 0=>0 | 72=>65 | 37=>63 | 127=>92 | 3=>3 | 5=>5 | n=>n,fun | n=>n⟩
theorem lays169:Go.Proofs.Lays.n169 Tryz.prog lays169_ren:={
 mixed:=by kernel_rfl
 f169:=Tryz.func28.trans (congrArg some (by kernel_rfl))
 t0:=Tryz.underlying0
 a0:=Tryz.isAgg0
 z0:=Tryz.sizeOf0
 v0:=Tryz.zeroValue0
 t3:=Tryz.underlying3
 a3:=Tryz.isAgg3
 z3:=Tryz.sizeOf3
 v3:=Tryz.zeroValue3
 t9:=Tryz.underlying9
 a9:=Tryz.isAgg9
 z9:=Tryz.sizeOf9
 v9:=Tryz.zeroValue9
 t37:=Tryz.underlying63
 a37:=Tryz.isAgg63
 z37:=Tryz.sizeOf63
 v37:=Tryz.zeroValue63
 t70:=Tryz.underlying62
 a70:=Tryz.isAgg62
 z70:=Tryz.sizeOf62
 v70:=Tryz.zeroValue62
 t72:=Tryz.underlying65
 a72:=Tryz.isAgg65
 z72:=Tryz.sizeOf65
 v72:=Tryz.zeroValue65
 t127:=Tryz.underlying92
 a127:=Tryz.isAgg92
 z127:=Tryz.sizeOf92
 v127:=Tryz.zeroValue92}
theorem extra169:Builder.Extra Tryz.prog lays169_ren:={
 sizeBuilder:=by kernel_rfl
 liesBuilder:=by kernel_rfl
 t5:=Tryz.underlying5
 a5:=Tryz.isAgg5
 z5:=Tryz.sizeOf5
 v5:=Tryz.zeroValue5
 infoByte:=by kernel_rfl
 cellsByte:=by kernel_rfl
 sizeByte:=by kernel_rfl
 neB5:=by decide}
theorem bstring (B b:Nat) (l:List UInt8) (w:World) (h:Lib.IsBuilder 65 5 B b (Lib.byteCells l) w) (hBw:B≤w.heap.size) :
  Calls Tryz.prog 28 #[.pointer (some ⟨b,0,none⟩)] w fun e w'=>e=.returned (.string ⟨l.toArray⟩)∧Below B w w':=Any.Builder_String_any lays169 extra169 B b l w h hBw
theorem q_byte {q:Nat} (h:q≤9):(((UInt8.ofNat (48+q)).toNat:Nat):Int)=48+(q:Int):=by
 have e:(UInt8.ofNat (48+q)).toNat=48+q:=by
  rw [UInt8.toNat_ofNat'];exact Nat.mod_eq_of_lt (by omega)
 rw [e];omega
theorem decimals_any (r d:Nat) (w:World) (hd:0<d) (hd2:d≤1000000) (hr:r<d) (hm:1000000 % d=0) :
  Calls Tryz.prog 152 #[.int .i64 (r:Int),.int .i64 (d:Int)] w fun e w'=>e=.returned (.string ⟨(Wnum.decs d 6 r).toArray⟩)∧Below w.heap.size w w':=by
 have d0:¬ (d:Int)=0:=by omega
 have EM:Hid (r * 10 ^ 6 % d=0):=Wnum.ends_six hm;clear hm;go_enter Tryz.func152,Tryz.ntmps152;go_wp2_with fail
 go_loopw [0] (fun x wr=>∃ (k r1:Nat) (l:List UInt8),x=.int .i64 (r1:Int)∧r1<d∧k≤6∧Hid (r1 * 10 ^ k % d=0)∧Hid (Wnum.decs d 6 r=l++Wnum.decs d k r1)∧l.length+k≤6∧Lib.IsBuilder 65 5 w.heap.size w.heap.size (Lib.byteCells l) wr∧Below w.heap.size w wr) (fun x _=>Wnum.fu d 6 (intOf x).toNat)
 case atStart=>exact ⟨6,r,[],rfl,hr,Nat.le_refl _,EM,(rfl:Wnum.decs d 6 r=[]++Wnum.decs d 6 r),by simp,Lib.fresh_isBuilder 65 5 w,(Below.refl _ w).alloc (Nat.le_refl _) _⟩
 case round =>
  obtain ⟨k,r1,l,rfl,h1,hk,HE,HD,hl,hI,qB⟩:=hrel;have s1:=qB.size;by_cases h0:r1=0
  ·have E:Hid (Wnum.decs d 6 r=l):=by show _=_;rw [HD.out,h0,Wnum.decs_zero,List.append_nil]
   have r0:((r1:Int) != 0)=false:=by simp [h0]
   clear h0;go_wp2_with fail
   refine (bstring _ _ l _ hI s1).mono ?_;rintro e w2 ⟨rfl,hb2⟩;go_wp2;go_ret;exact ⟨by rw [E.out];rfl,qB.trans hb2⟩
  ·obtain ⟨k',rfl⟩:∃ k',k=k'+1:=by
    cases k with
    | zero=>exact absurd (Wnum.ends_zero h1 HE.out) h0
    | succ k'=>exact ⟨k',rfl⟩
   have hq:r1 * 10 / d≤9:=by
    have:r1 * 10 / d<10:=(Nat.div_lt_iff_lt_mul hd).2 (by omega);omega
   have e1:(r1:Int) * 10 / (d:Int)=((r1 * 10 / d:Nat):Int):=by rw [Int.natCast_ediv,Int.natCast_mul];rfl
   have e2:(r1:Int) * 10 % (d:Int)=((r1 * 10 % d:Nat):Int):=by rw [Int.natCast_emod,Int.natCast_mul];rfl
   have L:Hid (Wnum.fu d 6 (r1 * 10 % d)<Wnum.fu d 6 r1):=Wnum.fu_less hd h1 h0 hk HE.out;have HE2:Hid (r1 * 10 % d * 10 ^ k' % d=0):=Wnum.ends_step HE.out;have lt2:r1 * 10 % d<d:=Nat.mod_lt _ hd;have HD2:Hid (Wnum.decs d 6 r=(l++[UInt8.ofNat (48+r1 * 10 / d)])++Wnum.decs d k' (r1 * 10 % d)):=by
    show _=_
    rw [HD.out,Wnum.decs_more h0,List.append_assoc];rfl
   have hb:=q_byte hq;have r0:((r1:Int) != 0)=true:=by rw [bne_iff_ne];omega
   generalize r1 * 10 / d=q at *;generalize hr2:r1 * 10 % d=r2 at *;clear hr2 HE HD;have ec:Lib.byteCells l++[Value.int .u8 (48+(q:Int))]=Lib.byteCells (l++[UInt8.ofNat (48+q)]):=by
    rw [Lib.byteCells_append];show _=Lib.byteCells l++[Value.int .u8 (((UInt8.ofNat (48+q)).toNat:Nat):Int)]
    rw [hb]
   have WB:=wbyte (48+(q:Int)) wr hI (by rw [Lib.byteCells_length];omega) s1;rw [ec] at WB;clear hb ec;go_wp2_with fail
   refine WB.mono ?_;rintro e w2 ⟨rfl,hI2,hb2⟩;go_wp2_with fail
   go_roundw
   case rel=>exact ⟨k',r2,l++[UInt8.ofNat (48+q)],by rw [e2],lt2,by omega,HE2,HD2,by rw [List.length_append,List.length_singleton];omega,hI2,qB.trans hb2⟩
   case measure=>simpa [intOf,e2] using L.out
theorem itoa_b (n:Int) (w:World) (h0:-9223372036854775808≤n) (h1:n≤9223372036854775807) (htab:Lib.TabIs Tryz.prog w "internal/strconv.uint64pow10" .u64 Lib.pow10Tab) :
  Calls Tryz.prog 150 #[.int .i64 n] w fun e w'=>e=.returned (.string ⟨(Lib.itoa n).toArray⟩)∧Below w.heap.size w w' :=
 (itoa_any n h0 h1 w htab).mono fun e w' ⟨he,k,os,hw⟩=>⟨he,by rw [hw];exact Lib.below_grow _ w (Nat.le_refl _) k os⟩
theorem text_one (a b:Int) (l:List UInt8) (w:World) (h1:-9223372036854775808≤a) (h2:a≤9223372036854775807) (h3:-9223372036854775808≤b) (h4:b≤9223372036854775807) (hd:(Wnum.cD a b == 1)=true) (hl:Lib.itoa (Wnum.cN a b)=l) (htab:Lib.TabIs Tryz.prog w "internal/strconv.uint64pow10" .u64 Lib.pow10Tab) :
  Calls Tryz.prog 126 #[.agg #[.int .i64 a,.int .i64 b]] w fun e w'=>e=.returned (.string ⟨l.toArray⟩)∧Below w.heap.size w w':=by
 have TB:=Lib.tabBelow_of_tabIs htab;obtain ⟨n1,n2⟩:=Wnum.cN_bd a b;obtain ⟨n3,n4⟩:=Wnum.cD_bd a b;have L:Hid (Lib.itoa (Wnum.cN a b)=l):=hl;clear hl;go_enter Tryz.func126,Tryz.ntmps126;go_wp2_with fail
 refine (counted_any _ _ _ h1 h2 h3 h4).mono ?_;rintro e w1 ⟨rfl,hb1⟩;have pA:At w1 w.heap.size (.int .i64 a) (.int .i64 b):=At.below hb1 (At.new w _ rfl _ _);have hB:Below w.heap.size w w1:=by with_reducible repeat (first | exact Below.refl _ _ | refine below_drewN ?_ _ | refine Below.setCell ?_ (by first | (simp;done) | (simp;omega) | omega) _ | refine Below.drew ?_ | refine below_end ?_ (by assumption) | refine ball ?_ _)
 clear hb1;have pA':=pA;obtain ⟨a1,a2,a3,a4⟩:=pA';go_upto_region 2 with fail
 have qA:=pA.put (.int .i64 (Wnum.cN a b)) (.int .i64 (Wnum.cD a b));have qD:=put_below hB (k:=w.heap.size) (by omega) (.int .i64 (Wnum.cN a b)) (.int .i64 (Wnum.cD a b));clear pA hB a1 a2 a3 a4;generalize (w1.setCell ⟨w.heap.size,0,none⟩ (.int .i64 (Wnum.cN a b))).setCell ⟨w.heap.size,1,none⟩ (.int .i64 (Wnum.cD a b))=W1 at *;clear w1;have qA':=qA;obtain ⟨a1,a2,a3,a4⟩:=qA';go_wp2_with fail
 refine (itoa_b _ _ (by omega) (by omega) (TB.on qD).here).mono ?_;rintro e w2 ⟨rfl,hb2⟩;rw [L.out];have qE:=below_end qD hb2;go_wp2;go_ret;exact ⟨rfl,qE⟩
theorem text_frac (a b:Int) (l1 l2:List UInt8) (w:World) (h1:-9223372036854775808≤a) (h2:a≤9223372036854775807) (h3:-9223372036854775808≤b) (h4:b≤9223372036854775807) (hd:(Wnum.cD a b == 1)=false) (hm:(1000000 % Wnum.cD a b != 0)=true) (hl1:Lib.itoa (Wnum.cN a b)=l1) (hl2:Lib.itoa (Wnum.cD a b)=l2) (htab:Lib.TabIs Tryz.prog w "internal/strconv.uint64pow10" .u64 Lib.pow10Tab) :
  Calls Tryz.prog 126 #[.agg #[.int .i64 a,.int .i64 b]] w fun e w'=>e=.returned (.string ⟨(l1++47::l2).toArray⟩)∧Below w.heap.size w w':=by
 have TB:=Lib.tabBelow_of_tabIs htab;obtain ⟨n1,n2⟩:=Wnum.cN_bd a b;obtain ⟨n3,n4⟩:=Wnum.cD_bd a b;have L1:Hid (Lib.itoa (Wnum.cN a b)=l1):=hl1;have L2:Hid (Lib.itoa (Wnum.cD a b)=l2):=hl2;have s1:l1.length≤21:=by rw [←hl1];exact Lib.itoa_length_le _ (by omega) (by omega)
 have s2:l2.length≤21:=by rw [←hl2];exact Lib.itoa_length_le _ (by omega) (by omega)
 clear hl1 hl2;have z1:¬ 9223372036854775807<l1.length+1:=by omega
 have z2:¬ 9223372036854775807<l1.length+1+l2.length:=by omega
 have z3:¬ 9223372036854775807<l1.length+(1+l2.length):=by omega
 have z4:¬ 9223372036854775807<l1.length:=by omega
 have y6:¬ Wnum.cD a b=0:=by omega
 go_enter Tryz.func126,Tryz.ntmps126;go_wp2_with fail
 refine (counted_any _ _ _ h1 h2 h3 h4).mono ?_;rintro e w1 ⟨rfl,hb1⟩;have pA:At w1 w.heap.size (.int .i64 a) (.int .i64 b):=At.below hb1 (At.new w _ rfl _ _);have hB:Below w.heap.size w w1:=by with_reducible repeat (first | exact Below.refl _ _ | refine below_drewN ?_ _ | refine Below.setCell ?_ (by first | (simp;done) | (simp;omega) | omega) _ | refine Below.drew ?_ | refine below_end ?_ (by assumption) | refine ball ?_ _)
 clear hb1;have pA':=pA;obtain ⟨a1,a2,a3,a4⟩:=pA';go_upto_region 2 with fail
 have qA:=pA.put (.int .i64 (Wnum.cN a b)) (.int .i64 (Wnum.cD a b));have qD:=put_below hB (k:=w.heap.size) (by omega) (.int .i64 (Wnum.cN a b)) (.int .i64 (Wnum.cD a b));clear pA hB a1 a2 a3 a4;generalize (w1.setCell ⟨w.heap.size,0,none⟩ (.int .i64 (Wnum.cN a b))).setCell ⟨w.heap.size,1,none⟩ (.int .i64 (Wnum.cD a b))=W1 at *;clear w1;have qA':=qA;obtain ⟨a1,a2,a3,a4⟩:=qA';have qE:=qD.drew;go_wp2_with fail
 go_region_held3 (fun W=>W.cell? ⟨w.heap.size,0,none⟩=some (.int .i64 (Wnum.cN a b))∧W.cell? ⟨w.heap.size,1,none⟩=some (.int .i64 (Wnum.cD a b))) (first | exact ⟨a1,a2⟩ | exact keep2 hbq (by assumption) | assumption)
  (first
   | (go_at_call 150;refine (itoa_b _ _ (by omega) (by omega) (TB.on qE).here).mono ?_;rintro e wq ⟨rfl,hbq⟩;(first | rw [L1.out] | rw [L2.out]);have qE:=below_end qE hbq))
 all_goals
  go_wp2;go_ret;refine ⟨?_,qE⟩;exact congrArg (fun x=>Ending.returned (Value.string x)) (by rw [show (ByteArray.mk #[47])=⟨[(47:UInt8)].toArray⟩ from rfl,app_mk,app_mk,List.append_assoc];rfl)
theorem text_point (a b:Int) (W0 R0:Nat) (l1 l2 l r:List UInt8) (w:World) (h1:-9223372036854775808≤a) (h2:a≤9223372036854775807) (h3:-9223372036854775808≤b) (h4:b≤9223372036854775807) (hd:(Wnum.cD a b == 1)=false) (hm:(1000000 % Wnum.cD a b != 0)=false) (hm2:1000000 % (Wnum.cD a b).toNat=0) (hW:((Wnum.cN a b).natAbs:Int) / Wnum.cD a b=(W0:Int)) (hR:((Wnum.cN a b).natAbs:Int) % Wnum.cD a b=(R0:Int)) (hW2:(W0:Int)≤1000000000000) (hR2:(R0:Int)<Wnum.cD a b) (hl1:Lib.itoa (W0:Int)=l1) (hl2:Wnum.decs (Wnum.cD a b).toNat 6 R0=l2) (hl:l1++46::l2=l) (hrn:Wnum.cN a b<0→r=45::l) (hrp:¬ Wnum.cN a b<0→r=l) (htab:Lib.TabIs Tryz.prog w "internal/strconv.uint64pow10" .u64 Lib.pow10Tab) :
  Calls Tryz.prog 126 #[.agg #[.int .i64 a,.int .i64 b]] w fun e w'=>e=.returned (.string ⟨r.toArray⟩)∧Below w.heap.size w w':=by
 have TB:=Lib.tabBelow_of_tabIs htab;obtain ⟨n1,n2⟩:=Wnum.cN_bd a b;obtain ⟨n3,n4⟩:=Wnum.cD_bd a b;have L1:Hid (Lib.itoa (W0:Int)=l1):=hl1;have s1:l1.length≤21:=by rw [←hl1];exact Lib.itoa_length_le _ (by omega) (by omega)
 have s2:l2.length≤6:=by rw [←hl2];exact Wnum.decs_length _ _ _
 have DC:=fun w=>decimals_any R0 (Wnum.cD a b).toNat w (by omega) (by omega) (by omega) hm2
 rw [hl2,show (((Wnum.cD a b).toNat:Nat):Int)=Wnum.cD a b by omega] at DC;have LL:Hid (l1++46::l2=l):=hl;have RN:Hid (Wnum.cN a b<0→r=45::l):=hrn;have RP:Hid (0≤Wnum.cN a b→r=l):=fun h=>hrp (by omega)
 have sz:l.length≤100:=by rw [←hl];simp;omega
 clear hl1 hl2 hm2 hl hrn hrp;have z1:¬ 9223372036854775807<l1.length+1:=by omega
 have z2:¬ 9223372036854775807<l1.length+1+l2.length:=by omega
 have z3:¬ 9223372036854775807<l1.length+(1+l2.length):=by omega
 have z4:¬ 9223372036854775807<l1.length:=by omega
 have y6:¬ Wnum.cD a b=0:=by omega
 go_enter Tryz.func126,Tryz.ntmps126;go_wp2_with fail
 refine (counted_any _ _ _ h1 h2 h3 h4).mono ?_;rintro e w1 ⟨rfl,hb1⟩;have pA:At w1 w.heap.size (.int .i64 a) (.int .i64 b):=At.below hb1 (At.new w _ rfl _ _);have hB:Below w.heap.size w w1:=by with_reducible repeat (first | exact Below.refl _ _ | refine below_drewN ?_ _ | refine Below.setCell ?_ (by first | (simp;done) | (simp;omega) | omega) _ | refine Below.drew ?_ | refine below_end ?_ (by assumption) | refine ball ?_ _)
 clear hb1;have pA':=pA;obtain ⟨a1,a2,a3,a4⟩:=pA';go_upto_region 2 with fail
 have qA:=pA.put (.int .i64 (Wnum.cN a b)) (.int .i64 (Wnum.cD a b));have qD:=put_below hB (k:=w.heap.size) (by omega) (.int .i64 (Wnum.cN a b)) (.int .i64 (Wnum.cD a b));clear pA hB a1 a2 a3 a4;generalize (w1.setCell ⟨w.heap.size,0,none⟩ (.int .i64 (Wnum.cN a b))).setCell ⟨w.heap.size,1,none⟩ (.int .i64 (Wnum.cD a b))=W1 at *;clear w1;have qA':=qA;obtain ⟨a1,a2,a3,a4⟩:=qA';go_wp2_with fail
 go_quiet ((go_at_call 151;exact Calls.quiet_of_same (flip_w (size_any _ _ (by omega) (by omega)))))
 go_wp2_with fail
 have rA:=qA.drewN nq;have rD:=below_drewN qD nq;clear qA qD a1 a2 a3 a4;generalize W1.drewN nq=W2 at *;clear W1 nq;have rA':=rA;obtain ⟨a1,a2,a3,a4⟩:=rA';have qE:=rD.drew;go_cut [4,5] (fun s4 s5 wx=>s4=.int .i64 (R0:Int)∧s5=.string ⟨l.toArray⟩∧Below w.heap.size w wx∧At wx w.heap.size (.int .i64 (Wnum.cN a b)) (.int .i64 (Wnum.cD a b)))
 case first =>
  go_region_held3 (fun W=>W.cell? ⟨w.heap.size,0,none⟩=some (.int .i64 (Wnum.cN a b))∧W.cell? ⟨w.heap.size,1,none⟩=some (.int .i64 (Wnum.cD a b))) (first | exact ⟨a1,a2⟩ | exact keep2 hbq (by assumption) | assumption)
   (first
    | (go_at_call 150;refine (itoa_b _ _ (by omega) (by omega) (TB.on qE).here).mono ?_;rintro e wq ⟨rfl,hbq⟩;rw [L1.out];have qE:=below_end qE hbq;have rE:=At.below hbq (by first | exact rE | exact rA.drew))
    | (go_at_call 152;refine (DC _).mono ?_;rintro e wq ⟨rfl,hbq⟩;have qE:=below_end qE hbq;have rE:=At.below hbq (by first | exact rE | exact rA.drew)))
  all_goals
   go_wp2_with fail
   go_meet
   case rel=>exact ⟨rfl,congrArg Value.string (by rw [←LL.out,show (ByteArray.mk #[46])=⟨[(46:UInt8)].toArray⟩ from rfl,app_mk,app_mk,List.append_assoc];rfl),qE,rE⟩
 case rest =>
  obtain ⟨h4,h5,hB5,pA5⟩:=hcut;subst h4 h5;obtain ⟨a1,a2,a3,a4⟩:=pA5;clear LL;cases hn:decide (Wnum.cN a b<0)
  ·have hn':¬ Wnum.cN a b<0:=of_decide_eq_false hn;have e5:Hid (r=l):=RP.out (by omega);clear RN RP;clear hn;go_wp2;go_ret;exact ⟨by rw [e5.out];rfl,hB5⟩
  ·have hn':Wnum.cN a b<0:=of_decide_eq_true hn;have e5:Hid (r=45::l):=RN.out hn';clear RN RP;have z5:¬ 9223372036854775807<1+l.length:=by omega
   clear hn;go_wp2;go_ret;refine ⟨?_,hB5⟩;rw [e5.out];exact congrArg (fun x=>Ending.returned (Value.string x)) (by rw [show (ByteArray.mk #[45])=⟨[(45:UInt8)].toArray⟩ from rfl,app_mk];rfl)
open Go.RowKit
theorem itoa_nat (n:Nat):Lib.itoa (n:Int)=Lib.decDigits n:=by
 rw [Wnum.itoa_sgn];unfold Wnum.sgnT;rw [if_neg (by omega),Int.natAbs_natCast];rfl
theorem bool_ne {n:Nat} (h:1000000 % n ≠ 0):((1000000:Int) % (n:Int) != 0)=true:=by
 rw [bne_iff_ne];intro e;exact h (Int.ofNat_inj.1 ((Int.natCast_emod 1000000 n).trans e))
theorem bool_eq {n:Nat} (h:1000000 % n=0):((1000000:Int) % (n:Int) != 0)=false:=by
 rw [bne_eq_false_iff_eq];exact (Int.natCast_emod 1000000 n).symm.trans (congrArg Int.ofNat h)
theorem div_nat (N:Int) (n:Nat):(N.natAbs:Int) / (n:Int)=((N.natAbs / n:Nat):Int):=(Int.natCast_ediv _ _).symm
theorem mod_nat (N:Int) (n:Nat):(N.natAbs:Int) % (n:Int)=((N.natAbs % n:Nat):Int):=(Int.natCast_emod _ _).symm
theorem div_bd {N:Int} (n:Nat) (h1:-1000000000000≤N) (h2:N≤1000000000000):((N.natAbs / n:Nat):Int)≤1000000000000:=by
 have:=Nat.div_le_self N.natAbs n;omega
theorem sgn_neg {N:Int} (h:N<0):Wnum.sgnT N=[45]:=if_pos h
theorem sgn_pos {N:Int} (h:¬ N<0):Wnum.sgnT N=[]:=if_neg h
theorem text_any (a b:Int) (w:World) (h1:-9223372036854775808≤a) (h2:a≤9223372036854775807) (h3:-9223372036854775808≤b) (h4:b≤9223372036854775807) (htab:Lib.TabIs Tryz.prog w "internal/strconv.uint64pow10" .u64 Lib.pow10Tab) :
  Calls Tryz.prog 126 #[.agg #[.int .i64 a,.int .i64 b]] w fun e w'=>e=.returned (.string ⟨(Wnum.txt (Wnum.cN a b) (Wnum.cD a b).toNat).toArray⟩)∧Below w.heap.size w w':=by
 obtain ⟨n1,n2⟩:=Wnum.cN_bd a b;obtain ⟨n3,n4⟩:=Wnum.cD_bd a b;obtain ⟨D0,hD⟩:∃ D0,D0=(Wnum.cD a b).toNat:=⟨_,rfl⟩
 have eD:Wnum.cD a b=(D0:Int):=by omega
 by_cases h1':D0=1
 ·refine text_one a b _ w h1 h2 h3 h4 (by rw [beq_iff_eq];omega) ?_ htab;rw [←hD,h1',Wnum.txt_whole (by decide) (Nat.mod_one _),Nat.div_one,Wnum.itoa_sgn]
 ·have d1:(Wnum.cD a b == 1)=false:=by rw [beq_eq_false_iff_ne];omega
  by_cases hm:1000000 % D0=0
  ·have g:Int.gcd (Wnum.cN a b) (Wnum.cD a b)=1:=(Wnum.right_iff.1 (Wnum.c_right a b)).2.2.2.2;have hR:(Wnum.cN a b).natAbs % D0 ≠ 0:=by
    intro h;have:D0 ∣ Nat.gcd (Wnum.cN a b).natAbs D0:=Nat.dvd_gcd (Nat.dvd_of_mod_eq_zero h) (Nat.dvd_refl _);rw [eD] at g;rw [show Nat.gcd (Wnum.cN a b).natAbs D0=1 from g] at this;exact h1' (Nat.dvd_one.1 this)
   refine text_point a b ((Wnum.cN a b).natAbs / D0) ((Wnum.cN a b).natAbs % D0) _ _ _ _ w h1 h2 h3 h4 d1 (by rw [eD];exact bool_eq hm) (by rw [←hD];exact hm) (by rw [eD];exact div_nat _ _) (by rw [eD];exact mod_nat _ _) (div_bd _ n1 n2) (by rw [eD];exact Int.ofNat_lt.2 (Nat.mod_lt _ (by omega))) rfl rfl rfl ?_ ?_ htab
   ·intro hn;rw [←hD,Wnum.txt_point hm hR,sgn_neg hn,itoa_nat];rfl
   ·intro hn;rw [←hD,Wnum.txt_point hm hR,sgn_pos hn,itoa_nat];rfl
  ·have:=text_frac a b _ _ w h1 h2 h3 h4 d1 (by rw [eD];exact bool_ne hm) rfl rfl htab;rw [←hD,Wnum.txt_frac hm];rw [eD,itoa_nat,Wnum.itoa_sgn,List.append_assoc] at this;exact this
end Go.Proofs.YtlggnpohhahdlaaGreatDoor
namespace Wlx
theorem wgt_cons (t:TV) (r:List TV):wgt (t::r)=t.t.length+1+wgt r:=by simp [wgt]
theorem wgt_mem:∀ (ts:List TV) (i:Nat) (h:i<ts.length),(ts[i]).t.length+1≤wgt ts
 | [],i,h=>by simp at h
 | t::r,0,_=>by rw [wgt_cons];show t.t.length+1≤_;omega
 | t::r,i+1,h=>by
  have h2:i<r.length:=by simpa using h
  have:=wgt_mem r i h2;rw [wgt_cons,List.getElem_cons_succ];omega
theorem wv_length (t:TV):(wv t).length≤2 * t.t.length+2:=by
 unfold wv;split
 ·have:=dbl_length t.t;simp;omega
 ·omega
theorem joinF_length (ts:List TV):∀ f,(joinF f ts).length≤3 * wgt ts:=by
 induction ts with
 | nil=>intro f;exact Nat.zero_le _
 | cons t r ih =>
  intro f;have h1:=ih false;have h2:=wv_length t;have h3:(if f then ([]:List UInt8) else [32]).length≤1:=by cases f <;> simp
  rw [wgt_cons];show ((if f then ([]:List UInt8) else [32])++wv t++joinF false r).length≤_
  rw [List.length_append,List.length_append];omega
end Wlx
namespace Go.Proofs.YtlggnpohhahdlaaGreatDoor
open Go.Shelf Go.RowKit
set_option linter.unusedVariables false
theorem new_heap (w:World) (o:Obj):(w.alloc o).heap[w.heap.size]? = some o:=by
 show (w.heap.push o)[w.heap.size]? = _
 simp
theorem x4_text_any (v:Value) (ts:List Wlx.TV) (w:World) (hr:ReadV w v ts) (hm:MaxAt w) (hw:Wlx.wgt ts≤1048576):Calls Tryz.prog 127 #[v] w fun e w'=>e=.returned (.string ⟨(Wlx.textV ts).toArray⟩)∧Below w.heap.size w w':=by
 obtain ⟨av,cap,rfl,hr⟩:=hr;have hlen:ts.length≤1048576:=by
  have:ts.length≤Wlx.wgt ts:=by
   clear hr hw;induction ts with
   | nil=>exact Nat.zero_le _
   | cons t r ih=>rw [Wlx.wgt_cons];simp only [List.length_cons];omega
  omega
 have hjl:=Wlx.joinF_length ts true;have HT:Hid (∀ i (h:i<ts.length),(ts[i]).t.length≤1048576):=fun i h=>by have:=Wlx.wgt_mem ts i h;omega
 have HC:Hid (∀ i (h:i<ts.length),∃ bb off,av=some ⟨bb,off,none⟩∧bb<w.heap.size ∧
  w.cell? ⟨bb,off+i * 3,none⟩=some (.int .i64 (ts[i]).k)∧w.cell? ⟨bb,off+i * 3+1,none⟩=some (.string ⟨(ts[i]).t.toArray⟩)∧w.cell? ⟨bb,off+i * 3+2,none⟩=some (.int .i64 (ts[i]).p)):=hr
 obtain ⟨R,hR⟩:∃ R,Wlx.textV ts=R:=⟨_,rfl⟩
 have E0:Hid (R=[]++Wlx.joinF true (ts.drop 0)):=hR.symm;have hRl:R.length≤3145728:=by rw [←hR];unfold Wlx.textV;omega
 rw [hR];clear hr hjl hR hw;go_enter Tryz.func127,Tryz.ntmps127;go_wp2_with fail
 go_loopg [8] (ts.length) (fun gk x wr=>∃ (i:Nat) (acc:List UInt8),x=.int .i64 i∧gk=ts.length - i∧i≤ts.length∧Hid (R=acc++Wlx.joinF (decide (i=0)) (ts.drop i))∧Hid (Lib.IsBuilderF 65 5 w.heap.size w.heap.size (Lib.byteCells acc) wr)∧Below w.heap.size w wr)
 case atStart=>exact ⟨0,[],rfl,rfl,Nat.zero_le _,E0,Lib.IsBuilderF.of (Lib.fresh_isBuilder 65 5 w),(Below.refl _ w).alloc (Nat.le_refl _) _⟩
 case round =>
  obtain ⟨i,acc,rfl,hg,hi,HR,HB,hb⟩:=hrel;have sw:=hb.size;by_cases hlt:i<ts.length
  ·have hli:(i:Int)<(ts.length:Int):=by omega
   obtain ⟨bb,off,rfl,hbb,c0,c1,c2⟩:=HC.out i hlt;have htl:=HT.out i hlt;have hd:ts.drop i=ts[i]::ts.drop (i+1):=List.drop_eq_getElem_cons hlt;obtain ⟨x,hx⟩:∃ x,ts[i]=x:=⟨_,rfl⟩
   rw [hx] at c0 c1 c2 htl hd;have c0:=(hb.cell (p:=⟨bb,off+i * 3,none⟩) hbb).trans c0;have c1:=(hb.cell (p:=⟨bb,off+i * 3+1,none⟩) hbb).trans c1;have c2:=(hb.cell (p:=⟨bb,off+i * 3+2,none⟩) hbb).trans c2;have hbw:bb<wr.heap.size:=by omega
   have hne:¬ wr.heap.size=w.heap.size:=by
    obtain ⟨_,_,h2,_⟩ | ⟨_,_,h2,_⟩:=HB.out <;> have:=(Array.getElem?_eq_some_iff.1 h2).1 <;> omega
   have hml:acc.length+(Wlx.wv x).length+1≤9437184:=by
    have h1:=congrArg List.length HR.out;have h2:=Wlx.wv_length x;rw [List.length_append] at h1;omega
   have E:Hid (R=acc++(if i=0 then [] else [32])++Wlx.wv x++Wlx.joinF (decide (i+1=0)) (ts.drop (i+1))):=by
    show _=_
    rw [HR.out,hd,decide_eq_false (show ¬ i+1=0 by omega)];show acc++((if decide (i=0)=true then [] else [32])++Wlx.wv x++Wlx.joinF false (ts.drop (i+1)))=_
    by_cases h:i=0
    ·rw [if_pos (decide_eq_true h),if_pos h];simp
    ·rw [if_neg (by simpa using h),if_neg h];simp
   have hmr:MaxAt wr:=MaxAt.below hm hb;obtain ⟨k,s,p⟩:=x;clear HR hx hd;by_cases h0:i=0
   ·have E2:Hid (R=acc++Wlx.wv ⟨k,s,p⟩++Wlx.joinF (decide (i+1=0)) (ts.drop (i+1))):=by show _=_;rw [E.out,if_pos h0,List.append_nil]
    have hii:¬ (0:Int)<(i:Int):=by omega
    clear E h0;go_wp2_with fail
    refine (written_any k p s _ (MaxAt.below hmr ((Below.refl _ wr).alloc (Nat.le_refl _) _)) htl).mono ?_;rintro e w1 ⟨rfl,hb1⟩;have hb01:Below wr.heap.size wr w1:=((Below.refl _ wr).alloc (Nat.le_refl _) _).trans (hb1.mono (by simp));have HB1:Hid (Lib.IsBuilderF 65 5 w.heap.size w.heap.size (Lib.byteCells acc) w1):=isF_below HB.out hb01;clear hb1;go_wp2_with fail
    refine (wstrk _ _ acc _ _ HB1.out (by show acc.length+(Wlx.wv ⟨k,s,p⟩).length≤_;omega) (by have:=hb01.size;omega)).mono ?_;rintro e w2 ⟨rfl,hB2,hb2,_⟩;have HB2:Hid (Lib.IsBuilderF 65 5 w.heap.size w.heap.size (Lib.byteCells (acc++Wlx.wv ⟨k,s,p⟩)) w2):=hB2;clear hB2;go_wp2_with fail
    go_roundg (ts.length - (i+1))
    case rel=>exact ⟨i+1,acc++Wlx.wv ⟨k,s,p⟩,by simp,rfl,hlt,E2,HB2,hb.trans ((hb01.mono sw).trans hb2)⟩
    case measure=>omega
   ·have E2:Hid (R=acc++[32]++Wlx.wv ⟨k,s,p⟩++Wlx.joinF (decide (i+1=0)) (ts.drop (i+1))):=by show _=_;rw [E.out,if_neg h0]
    have hii:(0:Int)<(i:Int):=by omega
    clear E h0;go_wp2_with fail
    refine (wstrk _ _ acc ⟨#[32]⟩ _ (isF_below HB.out ((Below.refl _ wr).alloc (Nat.le_refl _) _)) (by show acc.length+1≤_;omega) (by simp;omega)).mono ?_;rintro e w1 ⟨rfl,hB1,hb1,ho1⟩;have hk1:=ho1 _ _ (new_heap wr (.cells #[.int .i64 k,.string ⟨s.toArray⟩,.int .i64 p] 79)) (fun h=>hne (Option.some.inj h)) (fun c fz h=>by cases h);have x0:w1.cell? ⟨wr.heap.size,0,none⟩=some (.int .i64 k):=by rw [Lib.cell_of_heap hk1];rfl
    have x1:w1.cell? ⟨wr.heap.size,1,none⟩=some (.string ⟨s.toArray⟩):=by rw [Lib.cell_of_heap hk1];rfl
    have x2:w1.cell? ⟨wr.heap.size,2,none⟩=some (.int .i64 p):=by rw [Lib.cell_of_heap hk1];rfl
    have hb01:Below w.heap.size w w1:=hb.trans (((Below.refl _ wr).alloc (Nat.le_refl _) _).mono sw |>.trans hb1);have HB1:Hid (Lib.IsBuilderF 65 5 w.heap.size w.heap.size (Lib.byteCells (acc++[32])) w1):=hB1;clear hb1 ho1 hk1 hB1 hmr HB;have hm1:MaxAt w1:=MaxAt.below hm hb01;go_wp2_with fail
    refine (written_any k p s _ hm1 htl).mono ?_;rintro e w2 ⟨rfl,hb2⟩;have hb02:Below w.heap.size w w2:=hb01.trans (hb2.mono hb01.size);have HB2:Hid (Lib.IsBuilderF 65 5 w.heap.size w.heap.size (Lib.byteCells (acc++[32])) w2):=isF_below HB1.out hb2;clear hb2 HB1;go_wp2_with fail
    refine (wstrk _ _ (acc++[32]) _ _ HB2.out (by rw [List.length_append];show acc.length+1+(Wlx.wv ⟨k,s,p⟩).length≤_;omega) hb02.size).mono ?_;rintro e w3 ⟨rfl,hB3,hb3,_⟩;have HB3:Hid (Lib.IsBuilderF 65 5 w.heap.size w.heap.size (Lib.byteCells (acc++[32]++Wlx.wv ⟨k,s,p⟩)) w3):=hB3;clear hB3;go_wp2_with fail
    go_roundg (ts.length - (i+1))
    case rel=>exact ⟨i+1,acc++[32]++Wlx.wv ⟨k,s,p⟩,by simp,rfl,hlt,E2,HB3,hb02.trans hb3⟩
    case measure=>omega
  ·have hli:¬ (i:Int)<(ts.length:Int):=by omega
   have E:Hid (R=acc):=by
    show _=_;rw [HR.out,List.drop_eq_nil_of_le (by omega)];unfold Wlx.joinF;rw [List.append_nil]
   clear HR;go_wp2_with fail
   refine (bstrk _ _ acc _ HB.out sw).mono ?_;rintro e w1 ⟨rfl,hb1⟩;go_wp2;go_ret;exact ⟨by rw [E.out];rfl,hb.trans hb1⟩
open Go.RowKit Go.Shelf
theorem textV_one (l:List UInt8):Wlx.textV [⟨2,l,0⟩]=34::(Wlx.dbl l++[34]):=by
 simp [Wlx.textV,Wlx.joinF,Wlx.wv]
theorem lit_any (v:Wt.Vl) (w:World) (hv:Wt.vlOk v=true) (hf:Wt.FitV v) (hE:Env w):Calls Tryz.prog 97 #[vlV v] w fun e w'=>e=.returned (.string ⟨(litT v).toArray⟩)∧Below w.heap.size w w':=by
 obtain ⟨k,n,d,t,b,f⟩:=v;have hB0:=ball (Below.refl _ w) (.cells #[.int .i64 k,.int .i64 n,.int .i64 d,.string t,.bool b,.int .i64 f] 41);unfold Wt.vlOk at hv;unfold Wt.FitV at hf;unfold litT;simp only [vlV,vl6] at *;by_cases h1:k=1
 ·subst h1;have T:=text_any n d _ hf.1.1 hf.1.2 hf.2.1.1 hf.2.1.2 (hE.below hB0).2.2.2;rw [if_pos rfl];go_enter Tryz.func97,Tryz.ntmps97;go_wp2_with fail
  refine T.mono ?_;rintro e w1 ⟨rfl,hb⟩;have hB1:=below_end hB0 hb;go_wp2;go_ret;exact ⟨rfl,by with_reducible repeat (first | exact hB1 | refine ball ?_ _ | refine Below.setCell ?_ (by first | (simp;done) | (simp;omega) | omega) _ | refine Below.drew ?_ | refine below_drewN ?_ _)⟩
 rw [if_neg h1];by_cases h2:k=2
 ·subst h2;rw [if_pos rfl];rw [if_neg (by decide),if_neg (by decide)] at hv;unfold Wv.right at hv;rw [if_neg (by decide),if_neg (by decide),if_pos rfl] at hv;simp only [Bool.and_eq_true,decide_eq_true_eq,Bool.not_eq_true'] at hv;obtain ⟨⟨⟨⟨⟨hs,-⟩,rfl⟩,rfl⟩,rfl⟩,rfl⟩:=hv;have hB2:=ball hB0 (.cells #[.int .i64 2,.string t,.int .i64 0] 79);have e:t.data.toList.length=t.size:=by rw [Array.length_toList];rfl
  have pT:=AtL.new1 w (.cells #[.int .i64 2,.int .i64 0,.int .i64 0,.string t,.bool false,.int .i64 0] 41) 79 [.int .i64 2,.string t,.int .i64 0];have hR:ReadV ((w.alloc (.cells #[.int .i64 2,.int .i64 0,.int .i64 0,.string t,.bool false,.int .i64 0] 41)).alloc (.cells #[.int .i64 2,.string t,.int .i64 0] 79)) (.slice (some ⟨w.heap.size+1,0,none⟩) 1 1) [⟨2,t.data.toList,0⟩]:=by
   refine ⟨_,1,rfl,fun i hi=>?_⟩;obtain rfl:i=0:=by simpa using hi
   exact ⟨_,0,rfl,pT.1,pT.2.1 0 _ rfl,pT.2.1 1 _ rfl,pT.2.1 2 _ rfl⟩
  have T:=x4_text_any _ _ _ hR (hE.below hB2).2.2.1 (by simp only [Wlx.wgt,List.map_cons,List.map_nil,List.sum_cons,List.sum_nil];omega);rw [textV_one] at T;generalize (34::(Wlx.dbl t.data.toList++[34]):List UInt8)=tx at *;clear hR pT e;go_enter Tryz.func97,Tryz.ntmps97;go_wp2_with fail
  refine T.mono ?_;rintro e w1 ⟨rfl,hb⟩;have hB1:=below_end hB2 hb;go_wp2;go_ret;exact ⟨rfl,by with_reducible repeat (first | exact hB1 | refine ball ?_ _ | refine Below.setCell ?_ (by first | (simp;done) | (simp;omega) | omega) _ | refine Below.drew ?_ | refine below_drewN ?_ _)⟩
 rw [if_neg h2];by_cases h3:k=3
 ·subst h3;rw [if_pos rfl];rw [if_neg (by decide),if_neg (by decide)] at hv;unfold Wv.right at hv;rw [if_neg (by decide),if_neg (by decide),if_neg (by decide),if_pos rfl] at hv;simp only [Bool.and_eq_true,decide_eq_true_eq] at hv;obtain ⟨⟨⟨rfl,rfl⟩,rfl⟩,rfl⟩:=hv;have T:=fun w=>show_truth b w
  generalize (⟨(if b then [84,82,85,69] else [70,65,76,83,69]:List UInt8).toArray⟩:ByteArray)=tx at *;simp only [vlV,vl6,vTruth] at T;go_enter Tryz.func97,Tryz.ntmps97;go_wp2_with fail
  refine (T _).mono ?_;rintro e w1 ⟨rfl,hb⟩;have hB1:=below_end hB0 hb;go_wp2;go_ret;exact ⟨rfl,by with_reducible repeat (first | exact hB1 | refine ball ?_ _ | refine Below.setCell ?_ (by first | (simp;done) | (simp;omega) | omega) _ | refine Below.drew ?_ | refine below_drewN ?_ _)⟩
 rw [if_neg h3];split at hv
 ·cases hv
 unfold Wv.right at hv;rw [if_neg (by assumption),if_neg h1,if_neg h2,if_neg h3] at hv;split at hv
 ·rename_i h0 h4
  subst h4;simp only [Bool.and_eq_true,decide_eq_true_eq,Bool.not_eq_true'] at hv;obtain ⟨⟨⟨⟨hfl,rfl⟩,rfl⟩,rfl⟩,rfl⟩:=hv;unfold Wv.flt at hfl;simp only [Bool.and_eq_true,decide_eq_true_eq] at hfl;obtain ⟨g,rfl⟩:∃ g:Nat,f=g:=⟨f.toNat,by omega⟩
  have T:=show_fault g (by omega) (by omega) _ (hE.below hB0).2.1;rw [Int.toNat_natCast];generalize fNames.getD g []=tx at *;simp only [vlV,vl6] at T;go_enter Tryz.func97,Tryz.ntmps97;go_wp2_with fail
  refine T.mono ?_;rintro e w1 ⟨rfl,hb⟩;have hB1:=below_end hB0 hb;go_wp2;go_ret;exact ⟨rfl,by with_reducible repeat (first | exact hB1 | refine ball ?_ _ | refine Below.setCell ?_ (by first | (simp;done) | (simp;omega) | omega) _ | refine Below.drew ?_ | refine below_drewN ?_ _)⟩
 ·cases hv
theorem Env.drew {w:World} (h:Env w):Env w.drew:=h.below (Below.refl _ _).drew
theorem cat33 (a l:List UInt8):(⟨a.toArray⟩:ByteArray)++⟨#[33]⟩++⟨l.toArray⟩=⟨(a++(33::l)).toArray⟩:=by
 apply ByteArray.ext
 apply Array.ext'
 simp
theorem cel_any (a:Wt.Rf) (w:World) (ha:Wt.rfOk a=true) (hE:Env w):Calls Tryz.prog 98 #[rfV a] w fun e w'=>e=.returned (.string ⟨(celT a).toArray⟩)∧Below w.heap.size w w':=by
 obtain ⟨⟨h0,h1⟩,h2⟩:=rfOk_in ha;have hB0:=ball (Below.refl _ w) (.cells (rf5 a).toArray 43);have hE0:=hE.below hB0;have pA:=AtL.new0 w 43 (rf5 a);have C:=fun w (hE:Env w)=>cellWord_any a w h0 h1 hE.2.2.2
 have hl:=cw_len a h0 h1;have hsz:a.s.size≤16:=by
  rcases h2 with h | h
  ·rw [h];decide
  ·have:=(isNm_len h).2;rw [Array.length_toList] at this;exact this
 clear h2 ha;unfold celT;by_cases hs:a.s=⟨#[]⟩
 ·rw [if_pos hs];generalize cw a=tx at *;obtain ⟨s,r,c,fr,fc⟩:=a;simp only [rfV,rf5] at *;subst hs;go_enter Tryz.func98,Tryz.ntmps98;go_wp2_with fail
  refine (C _ hE0).mono ?_;rintro e w1 ⟨rfl,hb⟩;have hB1:=below_end hB0 hb;go_wp2;go_ret;exact ⟨rfl,by with_reducible repeat (first | exact hB1 | refine ball ?_ _ | refine Below.setCell ?_ (by first | (simp;done) | (simp;omega) | omega) _ | refine Below.drew ?_ | refine below_drewN ?_ _)⟩
 ·rw [if_neg hs];have E:(⟨(a.s.data.toList++33::cw a).toArray⟩:ByteArray)=a.s++⟨#[33]⟩++⟨(cw a).toArray⟩:=by
   rw [←cat33]
  rw [E];clear E;generalize cw a=tx at *;obtain ⟨s,r,c,fr,fc⟩:=a;simp only [rfV,rf5] at *;have hs':s.toList.isEmpty=false:=by
   cases h:s.toList with
   | nil=>exact absurd (ByteArray.ext (Array.ext' (by rw [←ByteArray.toList_eq];exact h))) hs
   | cons a l=>rfl
  have hs2:(s.toList == [])=false:=by rw [←hs'];cases s.toList <;> rfl
  have lx1:¬ 9223372036854775807<s.size+1:=by omega
  have lx2:¬ 9223372036854775807<s.size+1+tx.length:=by omega
  go_enter Tryz.func98,Tryz.ntmps98;go_upto_region 3 with fail
  refine wp_region_held_drew (S:=fun W=>Five W w.heap.size (.string s) (.int .i64 r) (.int .i64 c) (.bool fr) (.bool fc)) (by kernel_rfl) pA.drew.f5 (fun hHeld=>?_);refine tkQ 0 {dst:=some 8,op:=.fieldAddr 43 (.tmp 1) 0,type:=0,pos:= "print.go:109",after:=#[],guard:=none} ?_;try simp only [Act.put,lA,lZ,lS]
  refine tkQ 1 {dst:=some 9,op:=.load 9 (.tmp 8),type:=9,pos:= "print.go:109",after:=#[⟨0,.data⟩],guard:=none} ?_;try simp only [Act.put,lA,lZ,lS]
  refine tkQ 2 {dst:=some 10,op:=.binOp BinOp.add 9 (.tmp 9) (Operand.const (Value.string {data:=#[33]})) 9,type:=9,pos:= "print.go:109",after:=#[⟨1,.data⟩],guard:=none} ?_;try simp only [Act.put,lA,lZ,lS]
  refine tkQ 3 {dst:=some 11,op:=.load 43 (.tmp 1),type:=43,pos:= "print.go:109",after:=#[],guard:=none} ?_;try simp only [Act.put,lA,lZ,lS]
  refine wpAnyH_ready (rs:=[4]) (by kernel_rfl) (by simp) ?_;refine AllReadyH.cons (o:={dst:=some 12,op:=.call {callee:=Callee.value (Operand.func 129),args:=#[.tmp 11],argTypes:=#[43]},type:=9,pos:= "print.go:109",after:=#[⟨3,.data⟩],guard:=none}) rfl (fun K hK=>?_) AllReadyH.nil;go_simp
  refine (C _ (hE0.drew)).mono ?_;rintro e w1 ⟨rfl,hb⟩;have pA1:=AtL.below hb (AtL.drew pA);have hB1:=below_end hB0.drew hb;clear hb;go_wp2_with fail
  refine hK.out _ _ (pA1.f5) (fun hHeld=>?_);clear hK K;try simp only [Act.put,lA,lZ,lS]
  refine tkQ 5 {dst:=some 13,op:=.binOp BinOp.add 9 (.tmp 10) (.tmp 12) 9,type:=9,pos:= "print.go:109",after:=#[⟨2,.data⟩,⟨4,.data⟩],guard:=none} ?_;try simp only [Act.put,lA,lZ,lS]
  refine wpAnyH_ready (rs:=[6]) (by kernel_rfl) (by simp) ?_;refine AllReadyH.cons (o:={dst:=some 2,op:=.assign (.tmp 13),type:=9,pos:= "print.go:109",after:=#[⟨5,.data⟩,⟨4,.chain⟩,⟨0,.phase⟩,⟨1,.phase⟩,⟨2,.phase⟩,⟨3,.phase⟩,⟨4,.phase⟩,⟨5,.phase⟩],guard:=none}) rfl (fun K hK=>?_) AllReadyH.nil;go_simp
  refine hK.out _ _ (pA1.f5) (fun hHeld=>?_);clear hK K;try simp only [Act.put,lA,lZ,lS]
  refine wpAnyH_done (by kernel_rfl) ?_ _;go_wp2;go_ret;exact ⟨rfl,by with_reducible repeat (first | exact hB1 | refine ball ?_ _ | refine Below.setCell ?_ (by first | (simp;done) | (simp;omega) | omega) _ | refine Below.drew ?_ | refine below_drewN ?_ _)⟩
end Go.Proofs.YtlggnpohhahdlaaGreatDoor
