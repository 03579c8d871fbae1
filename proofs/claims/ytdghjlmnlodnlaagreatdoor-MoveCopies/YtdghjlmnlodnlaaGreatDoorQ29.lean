/- VWalkF, WalkIt, WalkDs, WalkTx. -/
import Derived.Test.YtdghjlmnlodnlaaGreatDoorQ28
import Derived.Shelf.Strings.Builder1
set_option maxHeartbeats 3200000
set_option maxRecDepth 100000
namespace Go.Proofs.YtdghjlmnlodnlaaGreatDoor
open Go.RowKit Tryz
set_option linter.unusedVariables false
theorem zCp (k n d:Int) (t:ByteArray) (b:Bool) (f:Int) (w:World) (hr:Wv.right k n d t b f=true) (C:∀ w,CR 105 #[vlV ⟨k,n,d,t,b,f⟩] w (.bool (Wv.right k n d t b f))) :
  CR 165 #[vlV ⟨k,n,d,t,b,f⟩] w (vlV ⟨k,n,d,t,b,f⟩):=by
 simp only [hr] at C;simp only [vlV,vl6] at C ⊢;have pA:=(AtL.new0 w 26 [.int .i64 k,.int .i64 n,.int .i64 d,.string t,.bool b,.int .i64 f]).alloc (.cells zV0 26);have pR:=vlz (w.alloc (.cells #[.int .i64 k,.int .i64 n,.int .i64 d,.string t,.bool b,.int .i64 f] 26));simp only [World.size_alloc] at pR;have hB0:=zAI (zAI (Below.refl _ w) (.cells #[.int .i64 k,.int .i64 n,.int .i64 d,.string t,.bool b,.int .i64 f] 26)) (.cells zV0 26);go_enter func165,ntmps165;go_wp2_with fail
 refine (C _).mono ?_;rintro e w1 ⟨rfl,hb⟩;have pA1:=AtL.below hb pA;have pR1:=AtL.below hb pR;obtain ⟨a0,a1,a2,a3,a4,a5⟩:=pA1.f6;obtain ⟨c0,c1,c2,c3,c4,c5⟩:=pR1.f6;have g0:=pR1.2.2 0 (by decide);have g1:=pR1.2.2 1 (by decide);have g2:=pR1.2.2 2 (by decide);have g3:=pR1.2.2 3 (by decide);have g4:=pR1.2.2 4 (by decide);have g5:=pR1.2.2 5 (by decide);have hB1:=zAA hB0 hb;go_wp2;refine bodyPost_ret (v:=vlV ⟨k,n,d,t,b,f⟩) (by simp [results,results165,go_sem,vlV,vl6, *]) rfl ⟨rfl,?_⟩;exact (clB hB1)
theorem zFG (b:Bool) (w:World):Calls prog 189 #[.bool b] w λe w'=>e=.returned (.string ⟨(if b then [84,82,85,69] else [70,65,76,83,69]:List UInt8).toArray⟩)/\w=w':=by
 cases b with
 | true =>
  go_enter func189,ntmps189;go_wp2;go_ret;exact ⟨rfl,rfl⟩
 | false =>
  go_enter func189,ntmps189;go_wp2;go_ret;exact ⟨rfl,rfl⟩
theorem zIj (w:World):CR 182 #[] w (vlV Wt.v0):=by
 go_enter func182,ntmps182;go_wp2;refine bodyPost_ret (v:=vlV Wt.v0) (by simp [results,results182,go_sem,vlV,vl6,Wt.v0]) rfl ⟨rfl,?_⟩;exact clA
theorem zFS (b:Bool) (w:World):CR 167 #[vlV (zA1 b)] w (.tuple #[.string ⟨(if b then [84,82,85,69] else [70,65,76,83,69]:List UInt8).toArray⟩,vlV Wt.v0]):=by
 have C:=λw=>zCp 3 0 0 ⟨#[]⟩ b 0 w (by cases b <;> decide) (λw=>zFA 0 0 ⟨#[]⟩ b 0 w)
 have T:=λw=>zFG b w
 have Bl:=λw=>zIj w
 revert T
 generalize (⟨(if b then [84,82,85,69] else [70,65,76,83,69]:List UInt8).toArray⟩:ByteArray)=tx;intro T;simp only [vlV,vl6,zA1,Wt.v0] at C Bl ⊢;have pA:=(AtL.new0 w 26 [.int .i64 3,.int .i64 0,.int .i64 0,.string ⟨#[]⟩,.bool b,.int .i64 0]).alloc (.cells zV0 26);have pR:=vlz (w.alloc (.cells #[.int .i64 3,.int .i64 0,.int .i64 0,.string ⟨#[]⟩,.bool b,.int .i64 0] 26));simp only [World.size_alloc] at pR;have hB0:=zAI (zAI (Below.refl _ w) (.cells #[.int .i64 3,.int .i64 0,.int .i64 0,.string ⟨#[]⟩,.bool b,.int .i64 0] 26)) (.cells zV0 26);go_enter func167,ntmps167;go_wp2_with fail
 refine (C _).mono ?_;rintro e w1 ⟨rfl,hb⟩;have pA1:=AtL.below hb pA;have pR1:=AtL.below hb pR;obtain ⟨a0,a1,a2,a3,a4,a5⟩:=pA1.f6;have f0:=pA1.2.2 0 (by simp);have f1:=pA1.2.2 1 (by simp);have f2:=pA1.2.2 2 (by simp);have f3:=pA1.2.2 3 (by simp);have f4:=pA1.2.2 4 (by simp);have f5:=pA1.2.2 5 (by simp);have hB1:=zAA hB0 hb;clear hb;have hne:w.heap.size ≠ w.heap.size+1:=by omega
 go_wp2_with fail
 refine (T _).mono ?_;rintro e w2 ⟨rfl,rfl⟩;go_wp2_with fail
 refine (Bl _).mono ?_;rintro e w3 ⟨rfl,hb3⟩;have pR2:=AtL.below hb3 (((((pR1.far hne 0 _).far hne 1 _).far hne 2 _).far hne 3 _).far hne 4 _ |>.far hne 5 _);obtain ⟨c0,c1,c2,c3,c4,c5⟩:=pR2.f6;have g0:=pR2.2.2 0 (by decide);have g1:=pR2.2.2 1 (by decide);have g2:=pR2.2.2 2 (by decide);have g3:=pR2.2.2 3 (by decide);have g4:=pR2.2.2 4 (by decide);have g5:=pR2.2.2 5 (by decide);have hB3:Below w.heap.size w w3:=by
  refine zAA ?_ hb3;exact (clB hB1)
 go_wp2;refine bodyPost_ret (v:=.tuple #[.string tx,vlV Wt.v0]) (by simp [results,results167,go_sem,vlV,vl6,Wt.v0, *]) rfl ⟨rfl,?_⟩;exact (clB hB3)
theorem zI7 (b:Bool) (w:World):CR 145 #[vlV (zA1 b)] w (.string ⟨(if b then [84,82,85,69] else [70,65,76,83,69]:List UInt8).toArray⟩):=by
 have C:=λw=>zCp 3 0 0 ⟨#[]⟩ b 0 w (by cases b <;> decide) (λw=>zFA 0 0 ⟨#[]⟩ b 0 w)
 have T:=λw=>zFS b w
 generalize (⟨(if b then [84,82,85,69] else [70,65,76,83,69]:List UInt8).toArray⟩:ByteArray)=tx at *;simp only [vlV,vl6,zA1,Wt.v0] at C T ⊢;have pA:=AtL.new0 w 26 [.int .i64 3,.int .i64 0,.int .i64 0,.string ⟨#[]⟩,.bool b,.int .i64 0];have hB0:=zAI (Below.refl _ w) (.cells #[.int .i64 3,.int .i64 0,.int .i64 0,.string ⟨#[]⟩,.bool b,.int .i64 0] 26);go_enter func145,ntmps145;go_wp2_with fail
 refine (C _).mono ?_;rintro e w1 ⟨rfl,hb⟩;have pA1:=AtL.below hb pA;obtain ⟨a0,a1,a2,a3,a4,a5⟩:=pA1.f6;have f0:=pA1.2.2 0 (by simp);have f1:=pA1.2.2 1 (by simp);have f2:=pA1.2.2 2 (by simp);have f3:=pA1.2.2 3 (by simp);have f4:=pA1.2.2 4 (by simp);have f5:=pA1.2.2 5 (by simp);have hB1:=zAA hB0 hb;clear hb;go_wp2_with fail
 refine (T _).mono ?_;rintro e w2 ⟨rfl,hb2⟩;have hB2:Below w.heap.size w w2:=by
  refine zAA ?_ hb2;exact (clB hB1)
 clear hb2;go_wp2;go_ret;exact ⟨rfl,(clB hB2)⟩
theorem zIS (f:Nat) (h1:1<=f) (h8:f<=8) (w:World) (hF:FltAt w):CR 145 #[vlV ⟨4,0,0,⟨#[]⟩,false,f⟩] w (.string ⟨(fNames.getD f []).toArray⟩):=by
 have hfl:Wv.flt (f:Int)=true:=by unfold Wv.flt;simp;omega
 have hlt:f<fNames.length:=by show f<9;omega
 have hfv:fltR[f]? = some (.string ⟨(fNames.getD f []).toArray⟩):=by unfold fltR;rw [List.getElem?_map,List.getElem?_eq_getElem hlt];simp [List.getD,List.getElem?_eq_getElem hlt]
 have h9:1<w.heap.size:=World.block_lt_of_cell? _ _ (hF 0 _ rfl);generalize fNames.getD f []=nm at *;have C:=λw=>zCp 4 0 0 ⟨#[]⟩ false f w (by unfold Wv.right;simp [hfl]) (λw=>zHD 0 0 ⟨#[]⟩ false f w)
 simp only [vlV,vl6] at C ⊢;have pA:=AtL.new0 w 26 [.int .i64 4,.int .i64 0,.int .i64 0,.string ⟨#[]⟩,.bool false,.int .i64 f];have hB0:=zAI (Below.refl _ w) (.cells #[.int .i64 4,.int .i64 0,.int .i64 0,.string ⟨#[]⟩,.bool false,.int .i64 f] 26);have hF0:=hF.below hB0;go_enter func145,ntmps145;go_wp2_with fail
 refine (C _).mono ?_;rintro e w1 ⟨rfl,hb⟩;have pA1:=AtL.below hb pA;have hF1:=hF0.below hb;obtain ⟨a0,a1,a2,a3,a4,a5⟩:=pA1.f6;have f0:=pA1.2.2 0 (by simp);have f1:=pA1.2.2 1 (by simp);have f2:=pA1.2.2 2 (by simp);have f3:=pA1.2.2 3 (by simp);have f4:=pA1.2.2 4 (by simp);have f5:=pA1.2.2 5 (by simp);have hB1:=zAA hB0 hb;clear hb;have g:w1.cell? ⟨1,f,none⟩=some (.string ⟨nm.toArray⟩):=by
  have:=hF1 f _ hfv;rw [Nat.zero_add] at this;exact this
 have hne:¬ w.heap.size=1:=by omega
 have hi1:¬ (f:Int)<0:=by omega
 have hi2:(f:Int)<9:=by omega
 go_wp2;go_ret;exact ⟨rfl,(clB hB1)⟩
open Go.Shelf Go.RowKit
def zFa:Go.Shelf.Ren:=⟨fun | 171=>161 | 243=>180 | 246=>199 | 283=>205 | 284=>206 | 285=>207 | 286=>208 | 129=>214 | 317=>213 | 318=>215 | 319=>216 | 320=>217 | 337=>222 | 338=>223 | n=>n,fun | 3=>3 | 9=>9 | 2=>2 | 4=>4 | 171=>216 | 0=>0 | 53=>166 | 37=>82 | 5=>5 | 173=>219 | 212=>226 | 51=>205 | 20=>20 | 213=>227 | 46=>195 | 232=>233 | 233=>234 | n=>n,fun | 17=>5 | 18=>6 | 19=>7 | n=>n⟩
theorem zLZ:Go.Proofs.LaysM.n171 prog zFa:={
 mixed:=by kernel_rfl
 f129:=func214.trans (congrArg some (by kernel_rfl))
 f171:=func161.trans (congrArg some (by kernel_rfl))
 f243:=func180.trans (congrArg some (by kernel_rfl))
 f246:=func199.trans (congrArg some (by kernel_rfl))
 f283:=func205.trans (congrArg some (by kernel_rfl))
 f284:=func206.trans (congrArg some (by kernel_rfl))
 f285:=func207.trans (congrArg some (by kernel_rfl))
 f286:=func208.trans (congrArg some (by kernel_rfl))
 f317:=func213.trans (congrArg some (by kernel_rfl))
 f318:=func215.trans (congrArg some (by kernel_rfl))
 f319:=func216.trans (congrArg some (by kernel_rfl))
 f320:=func217.trans (congrArg some (by kernel_rfl))
 f337:=func222.trans (congrArg some (by kernel_rfl))
 f338:=func223.trans (congrArg some (by kernel_rfl))
 t0:=underlying0
 a0:=Tryz.isAgg0
 z0:=Tryz.sizeOf0
 v0:=Tryz.zeroValue0
 t2:=underlying2
 a2:=Tryz.isAgg2
 z2:=Tryz.sizeOf2
 v2:=Tryz.zeroValue2
 t3:=underlying3
 a3:=Tryz.isAgg3
 z3:=Tryz.sizeOf3
 v3:=Tryz.zeroValue3
 t4:=underlying4
 a4:=Tryz.isAgg4
 z4:=Tryz.sizeOf4
 v4:=Tryz.zeroValue4
 t5:=underlying5
 a5:=Tryz.isAgg5
 z5:=Tryz.sizeOf5
 v5:=Tryz.zeroValue5
 t9:=underlying9
 a9:=Tryz.isAgg9
 z9:=Tryz.sizeOf9
 v9:=Tryz.zeroValue9
 t20:=underlying20
 a20:=Tryz.isAgg20
 z20:=Tryz.sizeOf20
 v20:=Tryz.zeroValue20
 t37:=underlying82
 a37:=Tryz.isAgg82
 z37:=Tryz.sizeOf82
 v37:=Tryz.zeroValue82
 t46:=underlying195
 a46:=Tryz.isAgg195
 z46:=Tryz.sizeOf195
 v46:=Tryz.zeroValue195
 t51:=underlying205
 a51:=Tryz.isAgg205
 z51:=Tryz.sizeOf205
 v51:=Tryz.zeroValue205
 t53:=underlying166
 a53:=Tryz.isAgg166
 z53:=Tryz.sizeOf166
 v53:=Tryz.zeroValue166
 t171:=underlying216
 a171:=Tryz.isAgg216
 z171:=Tryz.sizeOf216
 v171:=Tryz.zeroValue216
 t173:=underlying219
 a173:=Tryz.isAgg219
 z173:=Tryz.sizeOf219
 v173:=Tryz.zeroValue219
 t212:=underlying226
 a212:=Tryz.isAgg226
 z212:=Tryz.sizeOf226
 v212:=Tryz.zeroValue226
 t213:=underlying227
 a213:=Tryz.isAgg227
 z213:=Tryz.sizeOf227
 t232:=underlying233
 a232:=Tryz.isAgg233
 z232:=Tryz.sizeOf233
 v232:=Tryz.zeroValue233
 t233:=underlying234
 a233:=Tryz.isAgg234
 z233:=Tryz.sizeOf234
 v233:=Tryz.zeroValue234
 g17:=by kernel_rfl
 g18:=by kernel_rfl
 g19:=by kernel_rfl
 i0:=by kernel_rfl
 i2:=by kernel_rfl
 i3:=by kernel_rfl
 i4:=by kernel_rfl
 i5:=by kernel_rfl
 i9:=by kernel_rfl
 i20:=by kernel_rfl
 i37:=by kernel_rfl
 i46:=by kernel_rfl
 i51:=by kernel_rfl
 i53:=by kernel_rfl
 i171:=by kernel_rfl
 i173:=by kernel_rfl
 i212:=by kernel_rfl
 i232:=by kernel_rfl
 i233:=by kernel_rfl
 m17:=by kernel_rfl
 m18:=by kernel_rfl
 m19:=by kernel_rfl}
theorem zLo (n:Int) (h0:-9223372036854775808<=n) (h1:n<=9223372036854775807) (w:World) (htab:Lib.TabIs prog w "internal/strconv.uint64pow10" .u64 Lib.pow10Tab) :
  Calls prog 161 #[.int .i64 n] w λe w'=>e=.returned (.string ⟨(Lib.itoa n).toArray⟩)/\∃ k os,w'=Sort.grow (w.drewN k) os:=Any.strconv_Itoa zLZ n h0 h1 w htab
def zDw:Go.Shelf.Ren:=⟨fun | 169=>38 | n=>n,fun | 70=>81 | 9=>9 | 0=>0 | 72=>84 | 37=>82 | 127=>117 | 3=>3 | 5=>5 | n=>n,fun | n=>n⟩
theorem zON:Go.Proofs.Lays.n169 prog zDw:={
 mixed:=by kernel_rfl
 f169:=func38.trans (congrArg some (by kernel_rfl))
 t0:=underlying0
 a0:=Tryz.isAgg0
 z0:=Tryz.sizeOf0
 v0:=Tryz.zeroValue0
 t3:=underlying3
 a3:=Tryz.isAgg3
 z3:=Tryz.sizeOf3
 v3:=Tryz.zeroValue3
 t9:=underlying9
 a9:=Tryz.isAgg9
 z9:=Tryz.sizeOf9
 v9:=Tryz.zeroValue9
 t37:=underlying82
 a37:=Tryz.isAgg82
 z37:=Tryz.sizeOf82
 v37:=Tryz.zeroValue82
 t70:=underlying81
 a70:=Tryz.isAgg81
 z70:=Tryz.sizeOf81
 v70:=Tryz.zeroValue81
 t72:=underlying84
 a72:=Tryz.isAgg84
 z72:=Tryz.sizeOf84
 v72:=Tryz.zeroValue84
 t127:=underlying117
 a127:=Tryz.isAgg117
 z127:=Tryz.sizeOf117
 v127:=Tryz.zeroValue117}
theorem zLi:Builder.Extra prog zDw:={
 sizeBuilder:=by kernel_rfl
 liesBuilder:=by kernel_rfl
 t5:=underlying5
 a5:=Tryz.isAgg5
 z5:=Tryz.sizeOf5
 v5:=Tryz.zeroValue5
 infoByte:=by kernel_rfl
 cellsByte:=by kernel_rfl
 sizeByte:=by kernel_rfl
 neB5:=by decide}
theorem zO6 (B b:Nat) (l:List UInt8) (w:World) (h:Lib.IsBuilder 84 5 B b (Lib.byteCells l) w) (hBw:B<=w.heap.size) :
  Calls prog 38 #[.pointer (some ⟨b,0,none⟩)] w λe w'=>e=.returned (.string ⟨l.toArray⟩)/\Below B w w':=Any.Builder_String_any zON zLi B b l w h hBw
theorem zPe {q:Nat} (h:q<=9):(((UInt8.ofNat (48+q)).toNat:Nat):Int)=48+(q:Int):=by
 have e:(UInt8.ofNat (48+q)).toNat=48+q:=by
  rw [UInt8.toNat_ofNat'];exact Nat.mod_eq_of_lt (by omega)
 rw [e];omega
theorem zFR (r d:Nat) (w:World) (hd:0<d) (hd2:d<=1000000) (hr:r<d) (hm:1000000 % d=0) :
  CR 163 #[.int .i64 (r:Int),.int .i64 (d:Int)] w (.string ⟨(Wnum.decs d 6 r).toArray⟩):=by
 have d0:¬ (d:Int)=0:=by omega
 have EM:Hid (r * 10 ^ 6 % d=0):=Wnum.ends_six hm;clear hm;go_enter func163,ntmps163;go_wp2_with fail
 go_loopw [0] (λx wr=>∃ (k r1:Nat) (l:List UInt8),x=.int .i64 (r1:Int)/\r1<d/\k<=6/\Hid (r1 * 10 ^ k % d=0)/\Hid (Wnum.decs d 6 r=l++Wnum.decs d k r1)/\l.length+k<=6/\Lib.IsBuilder 84 5 w.heap.size w.heap.size (Lib.byteCells l) wr/\Below w.heap.size w wr) (λx _=>Wnum.fu d 6 (intOf x).toNat)
 case atStart=>exact ⟨6,r,[],rfl,hr,Nat.le_refl _,EM,(rfl:Wnum.decs d 6 r=[]++Wnum.decs d 6 r),by simp,Lib.fresh_isBuilder 84 5 w,(Below.refl _ w).alloc (Nat.le_refl _) _⟩
 case round =>
  obtain ⟨k,r1,l,rfl,h1,hk,HE,HD,hl,hI,qB⟩:=hrel;have s1:=qB.size;by_cases h0:r1=0
  ·have E:Hid (Wnum.decs d 6 r=l):=by show _=_;rw [HD.out,h0,Wnum.decs_zero,List.append_nil]
   have r0:((r1:Int) != 0)=false:=by simp [h0]
   clear h0;go_wp2_with fail
   refine (zO6 _ _ l _ hI s1).mono ?_;rintro e w2 ⟨rfl,hb2⟩;go_wp2;go_ret;exact ⟨by rw [E.out];rfl,qB.trans hb2⟩
  ·obtain ⟨k',rfl⟩:∃ k',k=k'+1:=by
    cases k with
    | zero=>exact absurd (Wnum.ends_zero h1 HE.out) h0
    | succ k'=>exact ⟨k',rfl⟩
   have hq:r1 * 10 / d<=9:=by
    have:r1 * 10 / d<10:=(Nat.div_lt_iff_lt_mul hd).2 (by omega);omega
   have e1:(r1:Int) * 10 / (d:Int)=((r1 * 10 / d:Nat):Int):=by rw [Int.natCast_ediv,Int.natCast_mul];rfl
   have e2:(r1:Int) * 10 % (d:Int)=((r1 * 10 % d:Nat):Int):=by rw [Int.natCast_emod,Int.natCast_mul];rfl
   have L:Hid (Wnum.fu d 6 (r1 * 10 % d)<Wnum.fu d 6 r1):=Wnum.fu_less hd h1 h0 hk HE.out;have HE2:Hid (r1 * 10 % d * 10 ^ k' % d=0):=Wnum.ends_step HE.out;have lt2:r1 * 10 % d<d:=Nat.mod_lt _ hd;have HD2:Hid (Wnum.decs d 6 r=(l++[UInt8.ofNat (48+r1 * 10 / d)])++Wnum.decs d k' (r1 * 10 % d)):=by
    show _=_
    rw [HD.out,Wnum.decs_more h0,List.append_assoc];rfl
   have hb:=zPe hq;have r0:((r1:Int) != 0)=true:=by rw [bne_iff_ne];omega
   generalize r1 * 10 / d=q at *;generalize hr2:r1 * 10 % d=r2 at *;clear hr2 HE HD;have ec:Lib.byteCells l++[Value.int .u8 (48+(q:Int))]=Lib.byteCells (l++[UInt8.ofNat (48+q)]):=by
    rw [Lib.byteCells_append];show _=Lib.byteCells l++[Value.int .u8 (((UInt8.ofNat (48+q)).toNat:Nat):Int)]
    rw [hb]
   have WB:=zS9 (48+(q:Int)) wr hI (by rw [Lib.byteCells_length];omega) s1;rw [ec] at WB;clear hb ec;go_wp2_with fail
   refine WB.mono ?_;rintro e w2 ⟨rfl,hI2,hb2⟩;go_wp2_with fail
   go_roundw
   case rel=>exact ⟨k',r2,l++[UInt8.ofNat (48+q)],by rw [e2],lt2,by omega,HE2,HD2,by rw [List.length_append,List.length_singleton];omega,hI2,qB.trans hb2⟩
   case measure=>simpa [intOf,e2] using L.out
theorem zKL (n:Int) (w:World) (h0:-9223372036854775808<=n) (h1:n<=9223372036854775807) (htab:Lib.TabIs prog w "internal/strconv.uint64pow10" .u64 Lib.pow10Tab) :
  CR 161 #[.int .i64 n] w (.string ⟨(Lib.itoa n).toArray⟩) :=
 (zLo n h0 h1 w htab).mono λe w' ⟨he,k,os,hw⟩=>⟨he,by rw [hw];exact Lib.below_grow _ w (Nat.le_refl _) k os⟩
theorem zL1 (a b:Int) (l:List UInt8) (w:World) (h1:-9223372036854775808<=a) (h2:a<=9223372036854775807) (h3:-9223372036854775808<=b) (h4:b<=9223372036854775807) (hd:(Wnum.cD a b == 1)=true) (hl:Lib.itoa (Wnum.cN a b)=l) (htab:Lib.TabIs prog w "internal/strconv.uint64pow10" .u64 Lib.pow10Tab) :
  CR 143 #[.agg #[.int .i64 a,.int .i64 b]] w (.string ⟨l.toArray⟩):=by
 have TB:=Lib.tabBelow_of_tabIs htab;obtain ⟨n1,n2⟩:=Wnum.cN_bd a b;obtain ⟨n3,n4⟩:=Wnum.cD_bd a b;have L:Hid (Lib.itoa (Wnum.cN a b)=l):=hl;clear hl;go_enter func143,ntmps143;go_wp2_with fail
 refine (zCV _ _ _ h1 h2 h3 h4).mono ?_;rintro e w1 ⟨rfl,hb1⟩;have pA:At w1 w.heap.size (.int .i64 a) (.int .i64 b):=At.below hb1 (At.new w _ rfl _ _);have hB:Below w.heap.size w w1:=clA
 clear hb1;have pA':=pA;obtain ⟨a1,a2,a3,a4⟩:=pA';go_upto_region 2 with fail
 have qA:=pA.put (.int .i64 (Wnum.cN a b)) (.int .i64 (Wnum.cD a b));have qD:=zAV hB (k:=w.heap.size) (by omega) (.int .i64 (Wnum.cN a b)) (.int .i64 (Wnum.cD a b));clear pA hB a1 a2 a3 a4;generalize (w1.setCell ⟨w.heap.size,0,none⟩ (.int .i64 (Wnum.cN a b))).setCell ⟨w.heap.size,1,none⟩ (.int .i64 (Wnum.cD a b))=W1 at *;clear w1;have qA':=qA;obtain ⟨a1,a2,a3,a4⟩:=qA';go_wp2_with fail
 refine (zKL _ _ (by omega) (by omega) (TB.on qD).here).mono ?_;rintro e w2 ⟨rfl,hb2⟩;rw [L.out];have qE:=zAA qD hb2;go_wp2;go_ret;exact ⟨rfl,qE⟩
theorem zJo (a b:Int) (l1 l2:List UInt8) (w:World) (h1:-9223372036854775808<=a) (h2:a<=9223372036854775807) (h3:-9223372036854775808<=b) (h4:b<=9223372036854775807) (hd:(Wnum.cD a b == 1)=false) (hm:(1000000 % Wnum.cD a b != 0)=true) (hl1:Lib.itoa (Wnum.cN a b)=l1) (hl2:Lib.itoa (Wnum.cD a b)=l2) (htab:Lib.TabIs prog w "internal/strconv.uint64pow10" .u64 Lib.pow10Tab) :
  CR 143 #[.agg #[.int .i64 a,.int .i64 b]] w (.string ⟨(l1++47::l2).toArray⟩):=by
 have TB:=Lib.tabBelow_of_tabIs htab;obtain ⟨n1,n2⟩:=Wnum.cN_bd a b;obtain ⟨n3,n4⟩:=Wnum.cD_bd a b;have L1:Hid (Lib.itoa (Wnum.cN a b)=l1):=hl1;have L2:Hid (Lib.itoa (Wnum.cD a b)=l2):=hl2;have s1:l1.length<=21:=by rw [<-hl1];exact Lib.itoa_length_le _ (by omega) (by omega)
 have s2:l2.length<=21:=by rw [<-hl2];exact Lib.itoa_length_le _ (by omega) (by omega)
 clear hl1 hl2;have z1:¬ 9223372036854775807<l1.length+1:=by omega
 have z2:¬ 9223372036854775807<l1.length+1+l2.length:=by omega
 have z3:¬ 9223372036854775807<l1.length+(1+l2.length):=by omega
 have z4:¬ 9223372036854775807<l1.length:=by omega
 have y6:¬ Wnum.cD a b=0:=by omega
 go_enter func143,ntmps143;go_wp2_with fail
 refine (zCV _ _ _ h1 h2 h3 h4).mono ?_;rintro e w1 ⟨rfl,hb1⟩;have pA:At w1 w.heap.size (.int .i64 a) (.int .i64 b):=At.below hb1 (At.new w _ rfl _ _);have hB:Below w.heap.size w w1:=clA
 clear hb1;have pA':=pA;obtain ⟨a1,a2,a3,a4⟩:=pA';go_upto_region 2 with fail
 have qA:=pA.put (.int .i64 (Wnum.cN a b)) (.int .i64 (Wnum.cD a b));have qD:=zAV hB (k:=w.heap.size) (by omega) (.int .i64 (Wnum.cN a b)) (.int .i64 (Wnum.cD a b));clear pA hB a1 a2 a3 a4;generalize (w1.setCell ⟨w.heap.size,0,none⟩ (.int .i64 (Wnum.cN a b))).setCell ⟨w.heap.size,1,none⟩ (.int .i64 (Wnum.cD a b))=W1 at *;clear w1;have qA':=qA;obtain ⟨a1,a2,a3,a4⟩:=qA';have qE:=qD.drew;go_wp2_with fail
 go_region_held3 (λW=>W.cell? ⟨w.heap.size,0,none⟩=some (.int .i64 (Wnum.cN a b))/\W.cell? ⟨w.heap.size,1,none⟩=some (.int .i64 (Wnum.cD a b))) (first | exact ⟨a1,a2⟩ | exact zQf hbq (by assumption) | assumption)
  (first
   | (go_at_call 161;refine (zKL _ _ (by omega) (by omega) (TB.on qE).here).mono ?_;rintro e wq ⟨rfl,hbq⟩;(first | rw [L1.out] | rw [L2.out]);have qE:=zAA qE hbq))
 all_goals
  go_wp2;go_ret;refine ⟨?_,qE⟩;exact congrArg (λx=>Ending.returned (Value.string x)) (by rw [show (ByteArray.mk #[47])=⟨[(47:UInt8)].toArray⟩ from rfl,zAu,zAu,List.append_assoc];rfl)
theorem zHz (a b:Int) (W0 R0:Nat) (l1 l2 l r:List UInt8) (w:World) (h1:-9223372036854775808<=a) (h2:a<=9223372036854775807) (h3:-9223372036854775808<=b) (h4:b<=9223372036854775807) (hd:(Wnum.cD a b == 1)=false) (hm:(1000000 % Wnum.cD a b != 0)=false) (hm2:1000000 % (Wnum.cD a b).toNat=0) (hW:((Wnum.cN a b).natAbs:Int) / Wnum.cD a b=(W0:Int)) (hR:((Wnum.cN a b).natAbs:Int) % Wnum.cD a b=(R0:Int)) (hW2:(W0:Int)<=1000000000000) (hR2:(R0:Int)<Wnum.cD a b) (hl1:Lib.itoa (W0:Int)=l1) (hl2:Wnum.decs (Wnum.cD a b).toNat 6 R0=l2) (hl:l1++46::l2=l) (hrn:Wnum.cN a b<0->r=45::l) (hrp:¬ Wnum.cN a b<0->r=l) (htab:Lib.TabIs prog w "internal/strconv.uint64pow10" .u64 Lib.pow10Tab) :
  CR 143 #[.agg #[.int .i64 a,.int .i64 b]] w (.string ⟨r.toArray⟩):=by
 have TB:=Lib.tabBelow_of_tabIs htab;obtain ⟨n1,n2⟩:=Wnum.cN_bd a b;obtain ⟨n3,n4⟩:=Wnum.cD_bd a b;have L1:Hid (Lib.itoa (W0:Int)=l1):=hl1;have s1:l1.length<=21:=by rw [<-hl1];exact Lib.itoa_length_le _ (by omega) (by omega)
 have s2:l2.length<=6:=by rw [<-hl2];exact Wnum.decs_length _ _ _
 have DC:=λw=>zFR R0 (Wnum.cD a b).toNat w (by omega) (by omega) (by omega) hm2
 rw [hl2,show (((Wnum.cD a b).toNat:Nat):Int)=Wnum.cD a b by omega] at DC;have LL:Hid (l1++46::l2=l):=hl;have RN:Hid (Wnum.cN a b<0->r=45::l):=hrn;have RP:Hid (0<=Wnum.cN a b->r=l):=λh=>hrp (by omega)
 have sz:l.length<=100:=by rw [<-hl];simp;omega
 clear hl1 hl2 hm2 hl hrn hrp;have z1:¬ 9223372036854775807<l1.length+1:=by omega
 have z2:¬ 9223372036854775807<l1.length+1+l2.length:=by omega
 have z3:¬ 9223372036854775807<l1.length+(1+l2.length):=by omega
 have z4:¬ 9223372036854775807<l1.length:=by omega
 have y6:¬ Wnum.cD a b=0:=by omega
 go_enter func143,ntmps143;go_wp2_with fail
 refine (zCV _ _ _ h1 h2 h3 h4).mono ?_;rintro e w1 ⟨rfl,hb1⟩;have pA:At w1 w.heap.size (.int .i64 a) (.int .i64 b):=At.below hb1 (At.new w _ rfl _ _);have hB:Below w.heap.size w w1:=clA
 clear hb1;have pA':=pA;obtain ⟨a1,a2,a3,a4⟩:=pA';go_upto_region 2 with fail
 have qA:=pA.put (.int .i64 (Wnum.cN a b)) (.int .i64 (Wnum.cD a b));have qD:=zAV hB (k:=w.heap.size) (by omega) (.int .i64 (Wnum.cN a b)) (.int .i64 (Wnum.cD a b));clear pA hB a1 a2 a3 a4;generalize (w1.setCell ⟨w.heap.size,0,none⟩ (.int .i64 (Wnum.cN a b))).setCell ⟨w.heap.size,1,none⟩ (.int .i64 (Wnum.cD a b))=W1 at *;clear w1;have qA':=qA;obtain ⟨a1,a2,a3,a4⟩:=qA';go_wp2_with fail
 go_quiet ((go_at_call 162;exact Calls.quiet_of_same (zDK (zCl _ _ (by omega) (by omega)))))
 go_wp2_with fail
 have rA:=qA.drewN nq;have rD:=zAH qD nq;clear qA qD a1 a2 a3 a4;generalize W1.drewN nq=W2 at *;clear W1 nq;have rA':=rA;obtain ⟨a1,a2,a3,a4⟩:=rA';have qE:=rD.drew;go_cut [4,5] (λs4 s5 wx=>s4=.int .i64 (R0:Int)/\s5=.string ⟨l.toArray⟩/\Below w.heap.size w wx/\At wx w.heap.size (.int .i64 (Wnum.cN a b)) (.int .i64 (Wnum.cD a b)))
 case first =>
  go_region_held3 (λW=>W.cell? ⟨w.heap.size,0,none⟩=some (.int .i64 (Wnum.cN a b))/\W.cell? ⟨w.heap.size,1,none⟩=some (.int .i64 (Wnum.cD a b))) (first | exact ⟨a1,a2⟩ | exact zQf hbq (by assumption) | assumption)
   (first
    | (go_at_call 161;refine (zKL _ _ (by omega) (by omega) (TB.on qE).here).mono ?_;rintro e wq ⟨rfl,hbq⟩;rw [L1.out];have qE:=zAA qE hbq;have rE:=At.below hbq (by first | exact rE | exact rA.drew))
    | (go_at_call 163;refine (DC _).mono ?_;rintro e wq ⟨rfl,hbq⟩;have qE:=zAA qE hbq;have rE:=At.below hbq (by first | exact rE | exact rA.drew)))
  all_goals
   go_wp2_with fail
   go_meet
   case rel=>exact ⟨rfl,congrArg Value.string (by rw [<-LL.out,show (ByteArray.mk #[46])=⟨[(46:UInt8)].toArray⟩ from rfl,zAu,zAu,List.append_assoc];rfl),qE,rE⟩
 case rest =>
  obtain ⟨h4,h5,hB5,pA5⟩:=hcut;subst h4 h5;obtain ⟨a1,a2,a3,a4⟩:=pA5;clear LL;cases hn:decide (Wnum.cN a b<0)
  ·have hn':¬ Wnum.cN a b<0:=of_decide_eq_false hn;have e5:Hid (r=l):=RP.out (by omega);clear RN RP;clear hn;go_wp2;go_ret;exact ⟨by rw [e5.out];rfl,hB5⟩
  ·have hn':Wnum.cN a b<0:=of_decide_eq_true hn;have e5:Hid (r=45::l):=RN.out hn';clear RN RP;have z5:¬ 9223372036854775807<1+l.length:=by omega
   clear hn;go_wp2;go_ret;refine ⟨?_,hB5⟩;rw [e5.out];exact congrArg (λx=>Ending.returned (Value.string x)) (by rw [show (ByteArray.mk #[45])=⟨[(45:UInt8)].toArray⟩ from rfl,zAu];rfl)
end Go.Proofs.YtdghjlmnlodnlaaGreatDoor
