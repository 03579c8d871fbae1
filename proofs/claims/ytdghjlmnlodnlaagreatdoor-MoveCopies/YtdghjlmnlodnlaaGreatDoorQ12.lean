/- NWalkA, NWalkB, NWalkI, PPlainB, PWalkS, NWalkC, TWord, NPlainB, NWalkE, NPlainC. -/
import Derived.Test.YtdghjlmnlodnlaaGreatDoorQ11
import Derived.Lib.Slices
import Derived.Laws.IdiomStrings
import Derived.Shelf.Strconv.Itoa3
import Derived.Lib.AppendIntMem
set_option maxHeartbeats 3200000
set_option maxRecDepth 100000
namespace Go.Proofs.YtdghjlmnlodnlaaGreatDoor
open Go.RowKit Tryz
set_option linter.unusedVariables false
variable {u:Nat}
theorem zID:∀ k:Fin 26,Utf8.encode ((((⟨#[65,66,67,68,69,70,71,72,73,74,75,76,77,78,79,80,81,82,83,84,85,86,87,88,89,90]⟩:ByteArray)[k.val]'(by have:=k.isLt;exact this)).toNat:Nat):Int)=⟨#[UInt8.ofNat (65+k.val)]⟩:=by decide +kernel
theorem zEO {k:Nat} (h:k<26) (h':k<(⟨#[65,66,67,68,69,70,71,72,73,74,75,76,77,78,79,80,81,82,83,84,85,86,87,88,89,90]⟩:ByteArray).size):Utf8.encode ((((⟨#[65,66,67,68,69,70,71,72,73,74,75,76,77,78,79,80,81,82,83,84,85,86,87,88,89,90]⟩:ByteArray)[k]'h').toNat:Nat):Int)=⟨#[UInt8.ofNat (65+k)]⟩:=zID ⟨k,h⟩
theorem zBF (a b:List UInt8):((⟨a.toArray⟩:ByteArray)++(⟨b.toArray⟩:ByteArray))=⟨(a++b).toArray⟩:=by
 apply ByteArray.ext
 rw [ByteArray.data_append];simp
theorem zO5 (c:UInt8) (b:List UInt8):((⟨#[c]⟩:ByteArray)++(⟨b.toArray⟩:ByteArray))=⟨(c::b).toArray⟩:=zBF [c] b
theorem zNa (n:Int) (w:World):CR 169 #[.int .i64 n] w (.string ⟨(Wpl.colS n).toArray⟩):=by
 have B:=λw=>zC6 n 256 w
 cases h:Wpl.inB n 256 with
 | false =>
  have E:Hid (Wpl.colS n=[]):=by show _=_;unfold Wpl.colS;rw [h];rfl
  rw [h] at B;clear h;go_enter func169,ntmps169;go_wp2_with fail
  refine (B _).mono ?_;rintro e w1 ⟨rfl,rfl⟩;go_wp2;go_ret;exact ⟨by rw [E.out];rfl,clA⟩
 | true =>
  have hn:=Wpl.inB_iff.1 h;have E:Hid (Wpl.colS n=Wpl.colT n.toNat):=by show _=_;unfold Wpl.colS;rw [h];rfl
  rw [h] at B;clear h;obtain ⟨m,rfl⟩:=Int.eq_ofNat_of_zero_le hn.1;rw [Int.toNat_natCast] at E;have hm:m<256:=by omega
  go_enter func169,ntmps169;go_wp2_with fail
  refine (B _).mono ?_;rintro e w1 ⟨rfl,rfl⟩;go_wp2_with fail
  go_loopw [0,3] (λx y wr=>∃ (k:Int) (l:List UInt8),x=.int .i64 k /\ -1<=k/\k<256/\y=.string ⟨l.toArray⟩/\l.length<=2/\Hid (Wpl.colT m=(if k<0 then [] else Wpl.colT k.toNat)++l/\(0<=k->l.length=0 \/ l.length=1/\k<26))/\wr=w) (λx _ _=>(intOf x+1).toNat)
  case atStart=>exact ⟨m,[],rfl,by omega,by omega,rfl,by simp,(⟨by rw [if_neg (by omega),Int.toNat_natCast,List.append_nil],λ_=>Or.inl rfl⟩:Wpl.colT m=(if (m:Int)<0 then [] else Wpl.colT (m:Int).toNat)++[]/\_),rfl⟩
  case round =>
   obtain ⟨k,l,rfl,hk0,hk1,rfl,hl,HI,rfl⟩:=hrel;by_cases hk:0<=k
   ·obtain ⟨j,rfl⟩:=Int.eq_ofNat_of_zero_le hk;have h26':j % 26<26:=by omega
    obtain ⟨i1,i2⟩:=HI.out;rw [if_neg (by omega),Int.toNat_natCast] at i1;have i3:=i2 (by omega);have hl2:l.length<=1:=by omega
    have HI':Hid (Wpl.colT m=(if (j:Int) / 26 - 1<0 then [] else Wpl.colT ((j:Int) / 26 - 1).toNat)++(UInt8.ofNat (65+j % 26)::l)/\(0<=(j:Int) / 26 - 1->(UInt8.ofNat (65+j % 26)::l).length=0 \/ (UInt8.ofNat (65+j % 26)::l).length=1/\(j:Int) / 26 - 1<26)):=by
     refine (⟨?_,?_⟩:_/\_)
     ·rw [i1];by_cases h26:j<26
      ·rw [if_pos (by omega)];unfold Wpl.colT;rw [if_pos h26,Nat.mod_eq_of_lt h26];rfl
      ·rw [if_neg (by omega)];have e:((j:Int) / 26 - 1).toNat=j / 26 - 1:=by omega
       rw [e];unfold Wpl.colT;rw [if_neg h26,if_pos (by omega)];rfl
     ·intro h;right
      refine ⟨?_,by omega⟩;rcases i3 with h0 | ⟨_,h1⟩
      ·rw [List.length_cons,h0]
      ·omega
    clear HI i1 i2 i3;have hj:(j:Int)<256:=hk1;go_wp2_with fail
    case isTrue =>
     rename_i hx
     exfalso
     rw [zEO h26'] at hx;have:(⟨#[UInt8.ofNat (65+j % 26)]⟩:ByteArray).size=1:=rfl;omega
    go_roundw
    case rel=>exact ⟨(j:Int) / 26 - 1,UInt8.ofNat (65+j % 26)::l,rfl,by omega,by omega,by rw [zEO h26'];exact congrArg Value.string (zO5 _ l),by simp;omega,HI',trivial⟩
    case measure=>simp [intOf];omega
   ·have e:Wpl.colT m=l:=by have:=HI.out.1;rw [if_pos (by omega)] at this;exact this
    have EE:Hid (Wpl.colT m=l):=e;clear e HI;go_wp2;go_ret;exact ⟨by rw [E.out,EE.out];rfl,Below.refl _ _⟩
theorem zDR (h:u<256):(((UInt8.ofNat u).toNat:Nat):Int)=(u:Int):=by
 rw [UInt8.toNat_ofNat'];have:u % 2 ^ 8=u:=Nat.mod_eq_of_lt (by omega);omega
theorem zQk (x:Int) (c:UInt8) (w:World) (hc:((c.toNat:Nat):Int)=x) :
  (convert 82 9 (.slice (some ⟨w.heap.size,0,none⟩) 1 1)).run prog (w.alloc (.cells #[.int .u8 x] 5))=.ok (.string ⟨#[c]⟩) (w.alloc (.cells #[.int .u8 x] 5)):=by
 have:=run_convert_bytes_back (P:=prog) (w.alloc (.cells #[.int .u8 x] 5)) 82 9 5 ⟨w.heap.size,0,none⟩ 1 [c] underlying82 underlying5 underlying9 (by
  intro j hj;obtain rfl:j=0:=by simp at hj;omega
  simp [Addr.add,go_sem,hc])
 exact this
theorem zSP (x y:Int) (c d:UInt8) (w:World) (hc:((c.toNat:Nat):Int)=x) (hd:((d.toNat:Nat):Int)=y) :
  (convert 82 9 (.slice (some ⟨w.heap.size,0,none⟩) 2 2)).run prog (w.alloc (.cells #[.int .u8 x,.int .u8 y] 5))=.ok (.string ⟨#[c,d]⟩) (w.alloc (.cells #[.int .u8 x,.int .u8 y] 5)):=by
 have:=run_convert_bytes_back (P:=prog) (w.alloc (.cells #[.int .u8 x,.int .u8 y] 5)) 82 9 5 ⟨w.heap.size,0,none⟩ 2 [c,d] underlying82 underlying5 underlying9 (by
  intro j hj;rcases (show j=0 \/ j=1 by simp at hj;omega) with rfl | rfl
  ·simp [Addr.add,go_sem,hc]
  ·simp [Addr.add,go_sem,hd])
 exact this
theorem zHl (n:Int) (w:World):CR 103 #[.int .i64 n] w (.string ⟨(Wpl.colS n).toArray⟩):=by
 by_cases h0:n<0
 ·have E:Hid (Wpl.colS n=[]):=by show _=_;unfold Wpl.colS;rw [Wpl.inB_not.2 (by omega)];rfl
  go_enter func103,ntmps103;go_wp2;go_ret;exact ⟨by rw [E.out];rfl,clA⟩
 by_cases h1:256<=n
 ·have E:Hid (Wpl.colS n=[]):=by show _=_;unfold Wpl.colS;rw [Wpl.inB_not.2 (by omega)];rfl
  go_enter func103,ntmps103;go_wp2;go_ret;exact ⟨by rw [E.out];rfl,clA⟩
 have E:Hid (Wpl.colS n=Wpl.colT n.toNat):=by show _=_;unfold Wpl.colS;rw [Wpl.inB_iff.2 (by omega)];rfl
 obtain ⟨m,rfl⟩:=Int.eq_ofNat_of_zero_le (show 0<=n by omega);rw [Int.toNat_natCast] at E;have h1':(m:Int)<256:=by omega
 by_cases h2:m<26
 ·obtain ⟨c,ec⟩:∃ c,c=UInt8.ofNat (65+m):=⟨_,rfl⟩
  have E2:Hid (Wpl.colS m=[c]):=by show _=_;rw [E.out,ec];unfold Wpl.colT;rw [if_pos h2]
  have hc:=zQk (65+(m:Int)) c w (by rw [ec,zDR (by omega)];omega);clear ec;have h2':(m:Int)<26:=by omega
  clear E;go_enter func103,ntmps103;go_wp2;go_ret;exact ⟨by rw [E2.out];rfl,clA⟩
 ·obtain ⟨c,ec⟩:∃ c,c=UInt8.ofNat (65+(m / 26 - 1)):=⟨_,rfl⟩
  obtain ⟨d,ed⟩:∃ d,d=UInt8.ofNat (65+m % 26):=⟨_,rfl⟩
  have E2:Hid (Wpl.colS m=[c,d]):=by show _=_;rw [E.out,ec,ed];unfold Wpl.colT;rw [if_neg h2]
  have hc:=zSP (65+(m:Int) / 26 - 1) (65+(m:Int) % 26) c d w (by rw [ec,zDR (by omega)];omega) (by rw [ed,zDR (by omega)];omega);clear ec ed;have h2':¬ (m:Int)<26:=by omega
  clear E;go_enter func103,ntmps103;go_wp2;go_ret;exact ⟨by rw [E2.out];rfl,clA⟩
theorem zGT (h:u<10):Lib.decDigits u=[UInt8.ofNat (48+u % 10)]:=by
 unfold Lib.decDigits;rw [dif_pos h,Nat.mod_eq_of_lt h]
theorem zI9 (h:¬ u<10):Lib.decDigits u=Lib.decDigits (u / 10)++[UInt8.ofNat (48+u % 10)]:=by
 conv=>lhs;unfold Lib.decDigits
 rw [dif_neg h]
theorem zGj (n:Nat) (w:World) (hn:n<=1000000000) :
  CR 129 #[.int .i64 (n:Int)] w (.string ⟨(Lib.decDigits n).toArray⟩):=by
 have DL:=Wpl.dd_len n (by omega);go_enter func129,ntmps129;go_wp2;go_loopw [0,3] (λx s wr=>∃ (u:Nat) (l:List UInt8),x=.int .i64 u/\s=.string ⟨l.toArray⟩/\u<=1000000000/\Hid (Lib.decDigits n=Lib.decDigits u++l)/\Below w.heap.size w wr) (λx _ _=>(intOf x).toNat)
 case atStart=>exact ⟨n,[],rfl,rfl,hn,(by rw [List.append_nil]:Lib.decDigits n=Lib.decDigits n++[]),Below.refl _ _⟩
 case round =>
  obtain ⟨u,l,rfl,rfl,hu,HI,qB⟩:=hrel;have ll:l.length<=21:=by
   have:=congrArg List.length HI.out;rw [List.length_append] at this;omega
  obtain ⟨c,ec⟩:∃ c,c=UInt8.ofNat (48+u % 10):=⟨_,rfl⟩
  have hc:((c.toNat:Nat):Int)=48+(u:Int) % 10:=by rw [ec,zDR (by omega)];omega
  have hcv:=zQk (48+(u:Int) % 10) c wr hc;have EC:Hid (c=UInt8.ofNat (48+u % 10)):=ec;clear ec;have hB:=zPA qB (.cells #[.int .u8 (48+(u:Int) % 10)] 5);by_cases h10:u<10
  ·have E:Hid (Lib.decDigits n=c::l):=by show _=_;rw [HI.out,zGT h10,EC.out];rfl
   have q0:((u:Int) / 10 == 0)=true:=by rw [beq_iff_eq];omega
   go_wp2;go_ret;refine ⟨?_,hB⟩;rw [E.out];exact congrArg (λx=>Ending.returned (Value.string x)) (zBF [c] l)
  ·have E:Hid (Lib.decDigits n=Lib.decDigits (u / 10)++(c::l)):=by show _=_;rw [HI.out,zI9 h10,EC.out,List.append_assoc];rfl
   have q0:((u:Int) / 10 == 0)=false:=by rw [beq_eq_false_iff_ne];omega
   go_wp2;go_roundw
   case rel=>exact ⟨u / 10,c::l,by go_num,congrArg Value.string (zBF [c] l),by omega,E,hB⟩
   case measure=>simp [intOf];omega
open Go.Shelf Go.RowKit
def zD3:Go.Shelf.Ren:=⟨fun | 171=>161 | 243=>180 | 246=>199 | 283=>205 | 284=>206 | 285=>207 | 286=>208 | 129=>214 | 317=>213 | 318=>215 | 319=>216 | 320=>217 | 337=>222 | 338=>223 | n=>n,fun | 3=>3 | 9=>9 | 2=>2 | 4=>4 | 171=>216 | 0=>0 | 53=>166 | 37=>82 | 5=>5 | 173=>219 | 212=>226 | 51=>205 | 20=>20 | 213=>227 | 46=>195 | 232=>233 | 233=>234 | n=>n,fun | 17=>5 | 18=>6 | 19=>7 | n=>n⟩
theorem zGM:Go.Proofs.LaysM.n171 prog zD3:={
 mixed:=by kernel_rfl
 f129:=func214.trans (congrArg some (by kernel_rfl))
 f171:=func161.trans (congrArg some (by kernel_rfl))
 f243:=func180.trans (congrArg some (by kernel_rfl))
 f246:=func199.trans (congrArg some (by kernel_rfl))
 f283:=func205.trans (congrArg some (by kernel_rfl))
 f284:=func206.trans (congrArg some (by kernel_rfl))
 f285:=func207.trans (congrArg some (by kernel_rfl))
 f286:=func208.trans (congrArg some (by kernel_rfl))
 f317:=func213.trans (congrArg some (by kernel_rfl))
 f318:=func215.trans (congrArg some (by kernel_rfl))
 f319:=func216.trans (congrArg some (by kernel_rfl))
 f320:=func217.trans (congrArg some (by kernel_rfl))
 f337:=func222.trans (congrArg some (by kernel_rfl))
 f338:=func223.trans (congrArg some (by kernel_rfl))
 t0:=underlying0
 a0:=Tryz.isAgg0
 z0:=Tryz.sizeOf0
 v0:=Tryz.zeroValue0
 t2:=underlying2
 a2:=Tryz.isAgg2
 z2:=Tryz.sizeOf2
 v2:=Tryz.zeroValue2
 t3:=underlying3
 a3:=Tryz.isAgg3
 z3:=Tryz.sizeOf3
 v3:=Tryz.zeroValue3
 t4:=underlying4
 a4:=Tryz.isAgg4
 z4:=Tryz.sizeOf4
 v4:=Tryz.zeroValue4
 t5:=underlying5
 a5:=Tryz.isAgg5
 z5:=Tryz.sizeOf5
 v5:=Tryz.zeroValue5
 t9:=underlying9
 a9:=Tryz.isAgg9
 z9:=Tryz.sizeOf9
 v9:=Tryz.zeroValue9
 t20:=underlying20
 a20:=Tryz.isAgg20
 z20:=Tryz.sizeOf20
 v20:=Tryz.zeroValue20
 t37:=underlying82
 a37:=Tryz.isAgg82
 z37:=Tryz.sizeOf82
 v37:=Tryz.zeroValue82
 t46:=underlying195
 a46:=Tryz.isAgg195
 z46:=Tryz.sizeOf195
 v46:=Tryz.zeroValue195
 t51:=underlying205
 a51:=Tryz.isAgg205
 z51:=Tryz.sizeOf205
 v51:=Tryz.zeroValue205
 t53:=underlying166
 a53:=Tryz.isAgg166
 z53:=Tryz.sizeOf166
 v53:=Tryz.zeroValue166
 t171:=underlying216
 a171:=Tryz.isAgg216
 z171:=Tryz.sizeOf216
 v171:=Tryz.zeroValue216
 t173:=underlying219
 a173:=Tryz.isAgg219
 z173:=Tryz.sizeOf219
 v173:=Tryz.zeroValue219
 t212:=underlying226
 a212:=Tryz.isAgg226
 z212:=Tryz.sizeOf226
 v212:=Tryz.zeroValue226
 t213:=underlying227
 a213:=Tryz.isAgg227
 z213:=Tryz.sizeOf227
 t232:=underlying233
 a232:=Tryz.isAgg233
 z232:=Tryz.sizeOf233
 v232:=Tryz.zeroValue233
 t233:=underlying234
 a233:=Tryz.isAgg234
 z233:=Tryz.sizeOf234
 v233:=Tryz.zeroValue234
 g17:=by kernel_rfl
 g18:=by kernel_rfl
 g19:=by kernel_rfl
 i0:=by kernel_rfl
 i2:=by kernel_rfl
 i3:=by kernel_rfl
 i4:=by kernel_rfl
 i5:=by kernel_rfl
 i9:=by kernel_rfl
 i20:=by kernel_rfl
 i37:=by kernel_rfl
 i46:=by kernel_rfl
 i51:=by kernel_rfl
 i53:=by kernel_rfl
 i171:=by kernel_rfl
 i173:=by kernel_rfl
 i212:=by kernel_rfl
 i232:=by kernel_rfl
 i233:=by kernel_rfl
 m17:=by kernel_rfl
 m18:=by kernel_rfl
 m19:=by kernel_rfl}
theorem zGZ (n:Int) (w:World) (h0:-9223372036854775808<=n) (h1:n<=9223372036854775807) (htab:Lib.TabIs prog w "internal/strconv.uint64pow10" .u64 Lib.pow10Tab) :
  CR 161 #[.int .i64 n] w (.string ⟨(Lib.itoa n).toArray⟩) :=
 (Any.strconv_Itoa zGM n h0 h1 w htab).mono λe w' ⟨he,k,os,hw⟩=>⟨he,by rw [hw];exact Lib.below_grow _ w (Nat.le_refl _) k os⟩
end Go.Proofs.YtdghjlmnlodnlaaGreatDoor
namespace Wpl
def num (s t l r k:Int):Cl:=⟨s,t+k / (r - l+1),l+k % (r - l+1)⟩
end Wpl
namespace Go.Proofs.YtdghjlmnlodnlaaGreatDoor
open Go.RowKit Tryz
set_option linter.unusedVariables false
theorem zEv (s r c:Int) (w:World) :
  CR 26 #[.agg #[.int .i64 s,.int .i64 r,.int .i64 c]] w (.bool (Wpl.rightC s r c)):=by
 by_cases h0:0<=s
 ·by_cases h1:s<16
  ·by_cases h2:0<=r
   ·by_cases h3:r<65536
    ·by_cases h4:0<=c
     ·have e:Hid (Wpl.rightC s r c=decide (c<256)):=by
       show _=_;rw [Bool.eq_iff_iff,Wpl.rightC_iff];simp;omega
      go_enter func26,ntmps26;go_wp2;go_ret;exact ⟨by rw [e.out];rfl,clA⟩
     ·have e:Hid (Wpl.rightC s r c=false):=by show _=_;rw [Wpl.rightC_not];omega
      go_enter func26,ntmps26;go_wp2;go_ret;exact ⟨by rw [e.out];rfl,clA⟩
    ·have e:Hid (Wpl.rightC s r c=false):=by show _=_;rw [Wpl.rightC_not];omega
     go_enter func26,ntmps26;go_wp2;go_ret;exact ⟨by rw [e.out];rfl,clA⟩
   ·have e:Hid (Wpl.rightC s r c=false):=by show _=_;rw [Wpl.rightC_not];omega
    go_enter func26,ntmps26;go_wp2;go_ret;exact ⟨by rw [e.out];rfl,clA⟩
  ·have e:Hid (Wpl.rightC s r c=false):=by show _=_;rw [Wpl.rightC_not];omega
   go_enter func26,ntmps26;go_wp2;go_ret;exact ⟨by rw [e.out];rfl,clA⟩
 ·have e:Hid (Wpl.rightC s r c=false):=by show _=_;rw [Wpl.rightC_not];omega
  go_enter func26,ntmps26;go_wp2;go_ret;exact ⟨by rw [e.out];rfl,clA⟩
theorem zGa {n:Int} (h:0<=n):Lib.itoa n=Lib.decDigits n.toNat:=by unfold Lib.itoa;rw [if_neg (by omega)]
theorem zJ2 (s r c:Int) (w:World) :
  CR 104 #[.agg #[.int .i64 s,.int .i64 r,.int .i64 c]] w (.string ⟨(Wpl.nameS s r c).toArray⟩):=by
 have R:=λw=>zEv s r c w
 cases h:Wpl.rightC s r c with
 | false =>
  have E:Hid (Wpl.nameS s r c=[]):=Wpl.nameS_neg h;rw [h] at R;clear h;go_enter func104,ntmps104;go_wp2_with fail
  refine (R _).mono ?_;rintro e w1 ⟨rfl,hb1⟩;go_wp2;go_ret;exact ⟨by rw [E.out];rfl,clA⟩
 | true =>
  have hh:=Wpl.rightC_iff.1 h;have l1:=Wpl.colS_len c;have l2:=Wpl.dd_len (r+1).toNat (by omega);have E:Hid (Wpl.nameS s r c=Wpl.colS c++Lib.decDigits (r+1).toNat):=Wpl.nameS_pos h;have CC:=λw=>zHl c w
  have II:=λw=>zGj (r+1).toNat w (by omega)
  rw [show (((r+1).toNat:Nat):Int)=r+1 by omega] at II;rw [h] at R;clear h;generalize Wpl.colS c=x at *;generalize Lib.decDigits (r+1).toNat=y at *;have hw:IntKind.i64.wrap (r+1)=r+1:=IntWalk.i64_in _ (by omega);have lx:¬ 9223372036854775807<x.length+y.length:=by omega
  go_enter func104,ntmps104;go_wp2_with fail
  refine (R _).mono ?_;rintro e w1 ⟨rfl,hb1⟩;have pC:AtL w1 w.heap.size [.int .i64 s,.int .i64 r,.int .i64 c]:=AtL.below hb1 (AtL.new0 w 41 _);have hB:Below w.heap.size w w1:=clA
  clear hb1;have hS:zFF w1 w.heap.size (.int .i64 s) (.int .i64 r) (.int .i64 c):=pC.f3;clear pC;go_wp2_with fail
  go_region_held3 (λW=>W.cell? ⟨w.heap.size,0,none⟩=some (.int .i64 s)/\W.cell? ⟨w.heap.size,1,none⟩=some (.int .i64 r)/\W.cell? ⟨w.heap.size,2,none⟩=some (.int .i64 c))
   (with_reducible first | exact hS | assumption | exact zIF hS | exact zDg hb (by assumption))
   (first
   | (go_at_call 103;refine (CC _).mono ?_;rintro e w4 ⟨rfl,hb⟩;(with_reducible first | replace hB:=zBb hB.drew hb | replace hB:=zBb hB hb))
   | (go_at_call 129;refine (II _).mono ?_;rintro e w4 ⟨rfl,hb⟩;(with_reducible first | replace hB:=zBb hB.drew hb | replace hB:=zBb hB hb)))
  all_goals
   go_wp2;go_ret;refine ⟨?_,hB⟩;rw [E.out];exact congrArg (λx=>Ending.returned (Value.string x)) (zBF x y)
def fx (b:Bool):List UInt8:=if b then [36] else []
theorem zF1 (b:Bool) (w:World):CR 168 #[.bool b] w (.string ⟨(fx b).toArray⟩):=by
 cases b
 ·go_enter func168,ntmps168;go_wp2;go_ret;exact ⟨rfl,Below.refl _ _⟩
 ·go_enter func168,ntmps168;go_wp2;go_ret;exact ⟨rfl,Below.refl _ _⟩
def cw (a:Wt.Rf):List UInt8:=fx a.fc++Wpl.colS a.c++fx a.fr++Lib.decDigits (a.r+1).toNat
theorem zHZ (b:Bool):(fx b).length<=1:=by cases b <;> decide
theorem zDF (a:Wt.Rf) (w:World) (h0:0<=a.r) (h1:a.r<65536) (htab:Lib.TabIs prog w "internal/strconv.uint64pow10" .u64 Lib.pow10Tab) :
  CR 146 #[rfV a] w (.string ⟨(cw a).toArray⟩):=by
 obtain ⟨s,r,c,fr,fc⟩:=a;simp only at h0 h1;unfold cw;simp only;show Calls _ _ #[.agg #[.string s,.int .i64 r,.int .i64 c,.bool fr,.bool fc]] _ _
 have TB:=Lib.tabBelow_of_tabIs htab;clear htab;have F1:=λw=>zF1 fc w
 have F2:=λw=>zF1 fr w
 have l0:=zHZ fc;have l3:=zHZ fr;have l1:=Wpl.colS_len c;have l2:=Wpl.dd_len (r+1).toNat (by omega);have CC:=λw=>zNa c w
 have II:=λw ht=>zGZ (r+1) w (by omega) (by omega) ht
 rw [zGa (show 0<=r+1 by omega)] at II;generalize fx fc=u at *;generalize fx fr=v at *;generalize Wpl.colS c=x at *;generalize Lib.decDigits (r+1).toNat=y at *;have hw:IntKind.i64.wrap (r+1)=r+1:=IntWalk.i64_in _ (by omega);have lx1:¬ 9223372036854775807<u.length+x.length:=by omega
 have lx2:¬ 9223372036854775807<u.length+x.length+v.length:=by omega
 have lx3:¬ 9223372036854775807<u.length+x.length+v.length+y.length:=by omega
 have hS0:=(AtL.new0 w 28 [.string s,.int .i64 r,.int .i64 c,.bool fr,.bool fc]).f5;have hB:=zAI (Below.refl _ w) (.cells #[.string s,.int .i64 r,.int .i64 c,.bool fr,.bool fc] 28);go_enter func146,ntmps146;go_upto_region 1 with fail
 go_region_held3 (λW=>W.cell? ⟨w.heap.size,0,none⟩=some (.string s)/\W.cell? ⟨w.heap.size,1,none⟩=some (.int .i64 r)/\W.cell? ⟨w.heap.size,2,none⟩=some (.int .i64 c)/\W.cell? ⟨w.heap.size,3,none⟩=some (.bool fr)/\W.cell? ⟨w.heap.size,4,none⟩=some (.bool fc))
  (with_reducible first | exact hS0 | assumption | exact zIn hS0 | exact zEQ hb (by assumption))
  (first
  | (go_at_call 168;refine (F1 _).mono ?_;rintro e w4 ⟨rfl,hb⟩;(with_reducible first | replace hB:=zAA hB.drew hb | replace hB:=zAA hB hb))
  | (go_at_call 168;refine (F2 _).mono ?_;rintro e w4 ⟨rfl,hb⟩;(with_reducible first | replace hB:=zAA hB.drew hb | replace hB:=zAA hB hb))
  | (go_at_call 169;refine (CC _).mono ?_;rintro e w4 ⟨rfl,hb⟩;(with_reducible first | replace hB:=zAA hB.drew hb | replace hB:=zAA hB hb))
  | (go_at_call 161;refine (II _ ((TB.on (by with_reducible first | exact hB | exact hB.drew)).here)).mono ?_;rintro e w4 ⟨rfl,hb⟩;(with_reducible first | replace hB:=zAA hB.drew hb | replace hB:=zAA hB hb)))
 all_goals
  go_wp2;go_ret;refine ⟨?_,hB⟩;refine congrArg (λx=>Ending.returned (Value.string x)) ?_;rw [zBF,zBF,zBF]
end Go.Proofs.YtdghjlmnlodnlaaGreatDoor
namespace Wpl
def isL (c:UInt8):Bool:=decide (65<=c.toNat/\c.toNat<=90)
def isG (c:UInt8):Bool:=decide (48<=c.toNat/\c.toNat<=57)
def rc:Nat->List UInt8->Nat × List UInt8
 | k,[]=>(k,[])
 | k,c::t=>if isL c=true/\k<=256 then rc (k * 26+(c.toNat - 65)+1) t else (k,c::t)
def rd:Nat->List UInt8->Nat × List UInt8
 | k,[]=>(k,[])
 | k,c::t=>if isG c=true/\k<=65536 then rd (k * 10+(c.toNat - 48)) t else (k,c::t)
def rr (l:List UInt8):Nat × List UInt8:=if l.head? = some 48 then (0,l) else rd 0 l
def rdOk (l:List UInt8):Bool:=decide ((rr (rc 0 l).2).2=[]/\1<=(rr (rc 0 l).2).1/\(rr (rc 0 l).2).1<=65536/\1<=(rc 0 l).1/\(rc 0 l).1<=256)
def rdR (l:List UInt8):Int:=if rdOk l then ((rr (rc 0 l).2).1:Int) - 1 else 0
def rdC (l:List UInt8):Int:=if rdOk l then ((rc 0 l).1:Int) - 1 else 0
theorem rc_len (k:Nat) (l:List UInt8):(rc k l).2.length<=l.length:=by
 induction l generalizing k with
 | nil=>simp [rc]
 | cons c t ih =>
  unfold rc;split
  ·have:=ih (k * 26+(c.toNat - 65)+1);simp;omega
  ·simp
theorem rc_bd (k:Nat) (l:List UInt8) (h:k<=6682):(rc k l).1<=6682:=by
 induction l generalizing k with
 | nil=>simpa [rc] using h
 | cons c t ih =>
  unfold rc;split
  ·rename_i hh
   have hc:=hh.1;simp only [isL,decide_eq_true_eq] at hc;exact ih _ (by omega)
  ·exact h
theorem zOf (k:Nat) (l:List UInt8) (h:k<=655369):(rd k l).1<=655369:=by
 induction l generalizing k with
 | nil=>simpa [rd] using h
 | cons c t ih =>
  unfold rd;split
  ·rename_i hh
   have hc:=hh.1;simp only [isG,decide_eq_true_eq] at hc;exact ih _ (by omega)
  ·exact h
theorem rr_bd (l:List UInt8):(rr l).1<=655369:=by
 unfold rr;split
 ·simp
 ·exact zOf 0 l (by omega)
end Wpl
namespace Go.Proofs.YtdghjlmnlodnlaaGreatDoor
open Go.RowKit Tryz
set_option linter.unusedVariables false
theorem zE8 (c:UInt8) (t:List UInt8):ByteArray.extract ⟨(c::t).toArray⟩ 1 (t.length+1)=⟨t.toArray⟩:=by
 apply ByteArray.ext
 simp [ByteArray.data_extract]
theorem zCZ (c:UInt8):(0:Int)<=(c.toNat:Int)/\(c.toNat:Int)<=255:=by have:=c.toNat_lt;omega
theorem zGP (s:List UInt8) (w:World) (hs:s.length<=9223372036854775807):Calls prog 224 #[.string ⟨s.toArray⟩] w λe w'=>e=.returned (.tuple #[.int .i64 ((Wpl.rc 0 s).1:Nat),.string ⟨(Wpl.rc 0 s).2.toArray⟩])/\w=w':=by
 go_enter func224,ntmps224;go_wp2;go_loopw [0,2] (λx y wr=>∃ (l:List UInt8) (k:Nat),x=.string ⟨l.toArray⟩/\y=.int .i64 k/\k<=6682/\l.length<=9223372036854775807/\Hid (Wpl.rc 0 s=Wpl.rc k l)/\wr=w) (λx _ _=>match x with | .string b=>b.size | _=>0)
 case atStart=>exact ⟨s,0,rfl,rfl,by omega,hs,(rfl:Wpl.rc 0 s=Wpl.rc 0 s),rfl⟩
 case round =>
  obtain ⟨l,k,rfl,rfl,hk,hl,HR,rfl⟩:=hrel;cases l with
  | nil =>
   have E:Hid (Wpl.rc 0 s=(k,[])):=HR.out;go_wp2;go_ret2
   exact ⟨by rw [E.out];rfl,rfl⟩
  | cons c t =>
   obtain ⟨b0,b1⟩:=zCZ c;simp only [List.length_cons] at hl;by_cases h1:65<=(c.toNat:Int)
   ·by_cases h2:(c.toNat:Int)<=90
    ·by_cases h3:(k:Int)<=256
     ·have E:Hid (Wpl.rc 0 s=Wpl.rc (k * 26+(c.toNat - 65)+1) t):=by
       show _=_;rw [HR.out]
       conv=>lhs;unfold Wpl.rc
       rw [if_pos ⟨by simp [Wpl.isL];omega,by omega⟩]
      clear HR;go_wp2_with fail
      go_roundw
      case rel=>exact ⟨t,k * 26+(c.toNat - 65)+1,congrArg Value.string (zE8 c t),congrArg (Value.int IntKind.i64) (by show (k:Int) * 26+((c.toNat:Nat) - 65)+1=_;omega),by omega,by omega,E,trivial⟩
      case measure=>rw [zE8];simp [ByteArray.size]
     ·have E:Hid (Wpl.rc 0 s=(k,c::t)):=by
       show _=_;rw [HR.out]
       conv=>lhs;unfold Wpl.rc
       rw [if_neg (by omega)]
      clear HR;go_wp2;go_ret2
      exact ⟨by rw [E.out];rfl,rfl⟩
    ·have E:Hid (Wpl.rc 0 s=(k,c::t)):=by
      show _=_;rw [HR.out]
      conv=>lhs;unfold Wpl.rc
      rw [if_neg (by simp [Wpl.isL];omega)]
     clear HR;go_wp2;go_ret2
     exact ⟨by rw [E.out];rfl,rfl⟩
   ·have E:Hid (Wpl.rc 0 s=(k,c::t)):=by
     show _=_;rw [HR.out]
     conv=>lhs;unfold Wpl.rc
     rw [if_neg (by simp [Wpl.isL];omega)]
    clear HR;go_wp2;go_ret2
    exact ⟨by rw [E.out];rfl,rfl⟩
theorem zOv (c:UInt8) (t:List UInt8):((ByteArray.extract ⟨(c::t).toArray⟩ 0 1).toList == [48])=decide (c=48):=by
 have e:ByteArray.extract ⟨(c::t).toArray⟩ 0 1=⟨#[c]⟩:=by
  apply ByteArray.ext
  simp [ByteArray.data_extract]
 rw [e];have e2:(⟨#[c]⟩:ByteArray).toList=[c]:=by
  simp [ByteArray.toList,ByteArray.toList.loop,ByteArray.size,ByteArray.get!]
 rw [e2];by_cases h:c=48
 ·subst h;rfl
 ·rw [decide_eq_false h];simp [h]
theorem zFf (c:UInt8) (t:List UInt8) (w:World) (hs:t.length+1<=9223372036854775807):Calls prog 85 #[.string ⟨(c::t).toArray⟩,.string ⟨#[48]⟩] w λe w'=>e=.returned (.bool (decide (c=48)))/\w=w':=by
 have hp:=zOv c t;have hl1:(1:Int)<=(t.length:Int)+1:=by omega
 have E:Hid (decide (c=48)=((ByteArray.extract ⟨(c::t).toArray⟩ 0 1).toList == [48])):=hp.symm;generalize decide (c=48)=b at *;go_enter func85,ntmps85;go_wp2;go_ret;exact ⟨rfl,rfl⟩
theorem zGv (w:World):Calls prog 85 #[.string ⟨#[]⟩,.string ⟨#[48]⟩] w λe w'=>e=.returned (.bool false)/\w=w':=by
 go_enter func85,ntmps85;go_wp2;go_ret;exact ⟨rfl,rfl⟩
theorem zGO (s:List UInt8) (w:World) (hs:s.length<=9223372036854775807):Calls prog 225 #[.string ⟨s.toArray⟩] w λe w'=>e=.returned (.tuple #[.int .i64 ((Wpl.rr s).1:Nat),.string ⟨(Wpl.rr s).2.toArray⟩])/\w=w':=by
 cases s with
 | nil =>
  have E:Hid (Wpl.rr []=(0,[])):=(rfl:Wpl.rr []=(0,[]))
  go_enter func225,ntmps225;go_wp2_with fail
  refine (zGv _).mono ?_;rintro e w1 ⟨rfl,rfl⟩;go_wp2;go_loopw [0,2] (λx y wr=>x=.string ⟨#[]⟩/\y=.int .i64 0/\wr=w) (λx _ _=>0)
  case atStart=>exact ⟨rfl,rfl,rfl⟩
  case round =>
   obtain ⟨rfl,rfl,rfl⟩:=hrel;go_wp2;go_ret2
   exact ⟨by rw [E.out];rfl,rfl⟩
 | cons c0 t0 =>
  have hl0:t0.length+1<=9223372036854775807:=by simpa using hs
  have HP:=λw=>zFf c0 t0 w hl0
  by_cases h0:c0=48
  ·have E:Hid (Wpl.rr (c0::t0)=(0,c0::t0)):=by show _=_;unfold Wpl.rr;rw [if_pos (by rw [h0];rfl)]
   rw [decide_eq_true h0] at HP;clear h0;go_enter func225,ntmps225;go_wp2_with fail
   refine (HP _).mono ?_;rintro e w1 ⟨rfl,rfl⟩;go_wp2;go_ret2
   exact ⟨by rw [E.out];rfl,rfl⟩
  ·have E0:Hid (Wpl.rr (c0::t0)=Wpl.rd 0 (c0::t0)):=by show _=_;unfold Wpl.rr;rw [if_neg (by simpa using h0)]
   rw [decide_eq_false h0] at HP;clear h0;go_enter func225,ntmps225;go_wp2_with fail
   refine (HP _).mono ?_;rintro e w1 ⟨rfl,rfl⟩;go_wp2;go_loopw [0,2] (λx y wr=>∃ (l:List UInt8) (k:Nat),x=.string ⟨l.toArray⟩/\y=.int .i64 k/\k<=655369/\l.length<=9223372036854775807/\Hid (Wpl.rr (c0::t0)=Wpl.rd k l)/\wr=w) (λx _ _=>match x with | .string b=>b.size | _=>0)
   case atStart=>exact ⟨c0::t0,0,rfl,rfl,by omega,hs,E0,rfl⟩
   case round =>
    obtain ⟨l,k,rfl,rfl,hk,hl,HR,rfl⟩:=hrel;clear hs;cases l with
    | nil =>
     have E:Hid (Wpl.rr (c0::t0)=(k,[])):=HR.out;go_wp2;go_ret2
     exact ⟨by rw [E.out];rfl,rfl⟩
    | cons c t =>
     obtain ⟨b0,b1⟩:=zCZ c;simp only [List.length_cons] at hl;by_cases h1:48<=(c.toNat:Int)
     ·by_cases h2:(c.toNat:Int)<=57
      ·by_cases h3:(k:Int)<=65536
       ·have E:Hid (Wpl.rr (c0::t0)=Wpl.rd (k * 10+(c.toNat - 48)) t):=by
         show _=_;rw [HR.out]
         conv=>lhs;unfold Wpl.rd
         rw [if_pos ⟨by simp [Wpl.isG];omega,by omega⟩]
        clear HR;go_wp2_with fail
        go_roundw
        case rel=>exact ⟨t,k * 10+(c.toNat - 48),congrArg Value.string (zE8 c t),congrArg (Value.int IntKind.i64) (by show (k:Int) * 10+((c.toNat:Nat) - 48)=_;omega),by omega,by omega,E,trivial⟩
        case measure=>rw [zE8];simp [ByteArray.size]
       ·have E:Hid (Wpl.rr (c0::t0)=(k,c::t)):=by
         show _=_;rw [HR.out]
         conv=>lhs;unfold Wpl.rd
         rw [if_neg (by omega)]
        clear HR;go_wp2;go_ret2
        exact ⟨by rw [E.out];rfl,rfl⟩
      ·have E:Hid (Wpl.rr (c0::t0)=(k,c::t)):=by
        show _=_;rw [HR.out]
        conv=>lhs;unfold Wpl.rd
        rw [if_neg (by simp [Wpl.isG];omega)]
       clear HR;go_wp2;go_ret2
       exact ⟨by rw [E.out];rfl,rfl⟩
     ·have E:Hid (Wpl.rr (c0::t0)=(k,c::t)):=by
       show _=_;rw [HR.out]
       conv=>lhs;unfold Wpl.rd
       rw [if_neg (by simp [Wpl.isG];omega)]
      clear HR;go_wp2;go_ret2
      exact ⟨by rw [E.out];rfl,rfl⟩
theorem zGs (s:List UInt8) (w:World) (hs:s.length<=9223372036854775807) :
  CR 219 #[.string ⟨s.toArray⟩] w (.tuple #[.int .i64 (Wpl.rdR s),.int .i64 (Wpl.rdC s),.bool (Wpl.rdOk s)]):=by
 have C1:=λw=>zGP s w hs
 have l1:=Wpl.rc_len 0 s;have C2:=λw=>zGO (Wpl.rc 0 s).2 w (by omega)
 have bc:=Wpl.rc_bd 0 s (by omega);have br:=Wpl.rr_bd (Wpl.rc 0 s).2;have EO:Hid (Wpl.rdOk s=decide ((Wpl.rr (Wpl.rc 0 s).2).2=[]/\1<=(Wpl.rr (Wpl.rc 0 s).2).1/\(Wpl.rr (Wpl.rc 0 s).2).1<=65536/\1<=(Wpl.rc 0 s).1/\(Wpl.rc 0 s).1<=256)):=(rfl:Wpl.rdOk s=_)
 have ER:Hid (Wpl.rdR s=if Wpl.rdOk s then ((Wpl.rr (Wpl.rc 0 s).2).1:Int) - 1 else 0):=(rfl:Wpl.rdR s=_)
 have EC:Hid (Wpl.rdC s=if Wpl.rdOk s then ((Wpl.rc 0 s).1:Int) - 1 else 0):=(rfl:Wpl.rdC s=_)
 generalize Wpl.rdOk s=ok at *;generalize Wpl.rdR s=R at *;generalize Wpl.rdC s=C at *;generalize Wpl.rr (Wpl.rc 0 s).2=q at *;generalize Wpl.rc 0 s=p at *;obtain ⟨k,d⟩:=p;obtain ⟨m,r⟩:=q;simp only at *;have RR:=λw=>zBw 0 ((m:Int) - 1) ((k:Int) - 1) w
 have hr:Hid (Wpl.rightC 0 ((m:Int) - 1) ((k:Int) - 1)=decide (1<=m/\m<=65536/\1<=k/\k<=256)):=by
  show _=_
  rw [Bool.eq_iff_iff,Wpl.rightC_iff];simp;omega
 rw [hr.out] at RR;clear hr l1;go_enter func219,ntmps219;go_wp2_with fail
 refine (C1 _).mono ?_;rintro e w1 ⟨rfl,rfl⟩;go_wp2_with fail
 refine (C2 _).mono ?_;rintro e w2 ⟨rfl,rfl⟩;cases r with
 | cons x t =>
  have E:Hid (ok=false):=by show _=_;rw [EO.out];simp
  go_wp2;go_ret3
  exact ⟨by rw [E.out,ER.out,EC.out,E.out];rfl,clA⟩
 | nil =>
  by_cases hk:1<=m/\m<=65536/\1<=k/\k<=256
  ·have E:Hid (ok=true):=by show _=_;rw [EO.out];simp;omega
   rw [decide_eq_true hk] at RR;go_wp2_with fail
   refine (RR _).mono ?_;rintro e w3 ⟨rfl,hb3⟩;have pC:AtL w3 w.heap.size [.int .i64 0,.int .i64 ((m:Int) - 1),.int .i64 ((k:Int) - 1)]:=AtL.below hb3 (AtL.new0 w 41 _);have hB3:Below w.heap.size w w3:=clA
   clear hb3;obtain ⟨c0,c1,c2⟩:=pC.f3;go_wp2_with fail
   go_region
   all_goals
    go_wp2;go_ret3
    exact ⟨by rw [E.out,ER.out,EC.out,E.out];rfl,clA⟩
  ·have E:Hid (ok=false):=by show _=_;rw [EO.out];simp;omega
   rw [decide_eq_false hk] at RR;go_wp2_with fail
   refine (RR _).mono ?_;rintro e w3 ⟨rfl,hb3⟩;go_wp2;go_ret3
   exact ⟨by rw [E.out,ER.out,EC.out,E.out];rfl,clA⟩
end Go.Proofs.YtdghjlmnlodnlaaGreatDoor
namespace Wpl
def vl (c:UInt8):Nat:=c.toNat - 65+1
def fv (k:Nat) (D:List UInt8):Nat:=D.foldl (λn c=>n * 10+(c.toNat - 48)) k
theorem fv_cons (k:Nat) (c:UInt8) (t:List UInt8):fv k (c::t)=fv (k * 10+(c.toNat - 48)) t:=by unfold fv;rw [List.foldl_cons]
def noL (l:List UInt8):Bool:=match l with | []=>true | c::_=>!isL c
def allG (D:List UInt8):Bool:=D.all isG
theorem zGx (k:Nat) (t:List UInt8) (h:noL t=true):rc k t=(k,t):=by
 cases t with
 | nil=>rfl
 | cons c u =>
  unfold rc;rw [if_neg];simp [noL] at h;simp [h]
theorem zIG {k:Nat} {c:UInt8} (t:List UInt8) (h:isL c=true) (hk:k<=256):rc k (c::t)=rc (k * 26+(c.toNat - 65)+1) t:=by
 conv=>lhs;unfold rc
 rw [if_pos ⟨h,hk⟩]
theorem zQE {k:Nat} {c:UInt8} (t:List UInt8) (h:isG c=true) (hk:k<=65536):rd k (c::t)=rd (k * 10+(c.toNat - 48)) t:=by
 conv=>lhs;unfold rd
 rw [if_pos ⟨h,hk⟩]
theorem rd_inv:∀ (D:List UInt8) (k:Nat),(rd k D).2=[]->allG D=true/\(rd k D).1=fv k D
 | [],k,_=>⟨rfl,rfl⟩
 | c::t,k,h=>by
  by_cases hc:isG c=true/\k<=65536
  ·rw [zQE t hc.1 hc.2] at h ⊢;obtain ⟨h1,h2⟩:=rd_inv t _ h;exact ⟨by simp [allG,hc.1];simpa [allG] using h1,h2⟩
  ·unfold rd at h;rw [if_neg hc] at h;cases h
theorem zNQ:∀ (D:List UInt8) (k:Nat),allG D=true->(k+1) * 10 ^ (D.length - 1)<=65537->rd k D=(fv k D,[])
 | [],k,_,_=>rfl
 | c::t,k,h,hk=>by
  simp only [allG,List.all_cons,Bool.and_eq_true] at h;have hc:=h.1;simp only [isG,decide_eq_true_eq] at hc;have h1:1<=10 ^ t.length:=Nat.one_le_pow _ _ (by omega);have hk':(k+1) * 10 ^ t.length<=65537:=by simpa using hk
  have h2:k+1<=(k+1) * 10 ^ t.length:=Nat.le_mul_of_pos_right _ h1;rw [zQE t h.1 (by omega),fv_cons];cases t with
  | nil=>rfl
  | cons d u =>
   refine zNQ (d::u) _ (by simpa [allG] using h.2) ?_;have e:(d::u).length - 1=u.length:=by simp
   rw [e];have e2:10 ^ (d::u).length=10 * 10 ^ u.length:=by rw [List.length_cons,Nat.pow_succ,Nat.mul_comm]
   rw [e2] at hk';have h3:(k * 10+(c.toNat - 48)+1) * 10 ^ u.length<=((k+1) * 10) * 10 ^ u.length:=Nat.mul_le_mul_right _ (by omega);rw [Nat.mul_assoc] at h3;omega
theorem fv_ge:∀ (D:List UInt8) (k:Nat),k * 10 ^ D.length<=fv k D
 | [],k=>by simp [fv]
 | c::t,k=>by
  rw [fv_cons];have:=fv_ge t (k * 10+(c.toNat - 48));have h2:(k * 10) * 10 ^ t.length<=(k * 10+(c.toNat - 48)) * 10 ^ t.length:=Nat.mul_le_mul_right _ (by omega);rw [List.length_cons,Nat.pow_succ,Nat.mul_comm (10 ^ t.length) 10,<-Nat.mul_assoc];omega
def dgOk (D:List UInt8):Bool:=decide ((rr D).2=[]/\1<=(rr D).1/\(rr D).1<=65536)
theorem dg_nil:dgOk []=false:=by decide
theorem dg_zero (t:List UInt8):dgOk (48::t)=false:=by
 have h:(48::t).head? = some (48:UInt8):=rfl;unfold dgOk rr;rw [if_pos h];simp
theorem dg_not {c:UInt8} {t:List UInt8} (h0:c ≠ 48) (h:allG (c::t)=false):dgOk (c::t)=false:=by
 unfold dgOk rr;rw [if_neg (by simpa using h0),decide_eq_false];rintro ⟨h1,_⟩;rw [(rd_inv _ _ h1).1] at h;cases h
theorem dg_long {c:UInt8} {t:List UInt8} (h0:c ≠ 48) (h:5<=t.length):dgOk (c::t)=false:=by
 unfold dgOk rr;rw [if_neg (by simpa using h0),decide_eq_false];rintro ⟨h1,h2,h3⟩;obtain ⟨g1,g2⟩:=rd_inv _ _ h1;rw [g2,fv_cons] at h3;simp only [allG,List.all_cons,Bool.and_eq_true] at g1;have hc:=g1.1;simp only [isG,decide_eq_true_eq] at hc;have hn:c.toNat ≠ 48:=λe=>h0 (UInt8.toNat_inj.1 (by rw [e];rfl))
 have:=fv_ge t (0 * 10+(c.toNat - 48));have h4:1 * 10 ^ 5<=(0 * 10+(c.toNat - 48)) * 10 ^ t.length:=Nat.mul_le_mul (by omega) (Nat.pow_le_pow_right (by omega) h);omega
theorem dg_in {c:UInt8} {t:List UInt8} (h0:c ≠ 48) (h:allG (c::t)=true) (hl:t.length<5):dgOk (c::t)=decide (fv 0 (c::t)<=65536)/\(rr (c::t)).1=fv 0 (c::t)/\1<=fv 0 (c::t):=by
 have e:rr (c::t)=(fv 0 (c::t),[]):=by
  unfold rr;rw [if_neg (by simpa using h0)];refine zNQ _ _ h ?_;have:10 ^ t.length<=10 ^ 4:=Nat.pow_le_pow_right (by omega) (by omega);simp only [List.length_cons,Nat.add_sub_cancel];omega
 have hp:1<=fv 0 (c::t):=by
  simp only [allG,List.all_cons,Bool.and_eq_true] at h;have hc:=h.1;simp only [isG,decide_eq_true_eq] at hc;have hn:c.toNat ≠ 48:=λe=>h0 (UInt8.toNat_inj.1 (by rw [e];rfl))
  have:=fv_ge t (0 * 10+(c.toNat - 48));have h4:1 * 1<=(0 * 10+(c.toNat - 48)) * 10 ^ t.length:=Nat.mul_le_mul (by omega) (Nat.one_le_pow _ _ (by omega));rw [fv_cons];omega
 refine ⟨?_,by rw [e],hp⟩;unfold dgOk;rw [e,Bool.eq_iff_iff];simp;intro;omega
theorem vl_bd {c:UInt8} (h:isL c=true):1<=vl c/\vl c<=26:=by
 simp only [isL,decide_eq_true_eq] at h;unfold vl;omega
theorem rd_none:rdOk []=false:=by decide
theorem rd_no {a:UInt8} (t:List UInt8) (h:isL a=false):rdOk (a::t)=false:=by
 unfold rdOk;rw [zGx 0 (a::t) (by simp [noL,h])];simp
theorem rd_one {a:UInt8} {t:List UInt8} (h:isL a=true) (hn:noL t=true):rdOk (a::t)=dgOk t/\rc 0 (a::t)=(vl a,t):=by
 have e:rc 0 (a::t)=(vl a,t):=by
  rw [zIG t h (by omega),zGx _ t hn];unfold vl;simp
 refine ⟨?_,e⟩;have hb:=vl_bd h;unfold rdOk dgOk;rw [e,Bool.eq_iff_iff,decide_eq_true_eq,decide_eq_true_eq];constructor
 ·rintro ⟨g1,g2,g3,g4,g5⟩;exact ⟨g1,g2,g3⟩
 ·rintro ⟨g1,g2,g3⟩;exact ⟨g1,g2,g3,by omega,by omega⟩
theorem rd_two {a b:UInt8} {u:List UInt8} (h:isL a=true) (h2:isL b=true) (hn:noL u=true):rdOk (a::b::u)=(decide (vl a * 26+vl b<=256) && dgOk u)/\rc 0 (a::b::u)=(vl a * 26+vl b,u):=by
 have hb:=vl_bd h;have hb2:=vl_bd h2;have e:rc 0 (a::b::u)=(vl a * 26+vl b,u):=by
  rw [zIG _ h (by omega),zIG u h2 (by unfold vl at hb;omega),zGx _ u hn];unfold vl;simp;omega
 refine ⟨?_,e⟩;unfold rdOk dgOk;rw [e,Bool.eq_iff_iff,Bool.and_eq_true,decide_eq_true_eq,decide_eq_true_eq,decide_eq_true_eq];constructor
 ·rintro ⟨g1,g2,g3,g4,g5⟩;exact ⟨g5,g1,g2,g3⟩
 ·rintro ⟨g5,g1,g2,g3⟩;exact ⟨g1,g2,g3,by omega,g5⟩
theorem rd_three {a b c:UInt8} (u:List UInt8) (h:isL a=true) (h2:isL b=true) (h3:isL c=true):rdOk (a::b::c::u)=false:=by
 have hb:=vl_bd h;have hb2:=vl_bd h2;have hb3:=vl_bd h3;have e:(rc 0 (a::b::c::u)).1 > 256:=by
  rw [zIG _ h (by omega),zIG _ h2 (by unfold vl at hb;omega)];by_cases hk:(0 * 26+(a.toNat - 65)+1) * 26+(b.toNat - 65)+1<=256
  ·rw [zIG _ h3 hk];have g:∀ (l:List UInt8) (k:Nat),256<k->(rc k l).1=k:=by
    intro l k hk;cases l with
    | nil=>rfl
    | cons x y=>unfold rc;rw [if_neg (by omega)]
   rw [g _ _ (by unfold vl at hb hb2 hb3;omega)];unfold vl at hb hb2 hb3;omega
  ·unfold rc;rw [if_neg (by omega)];show _ > 256
   omega
 unfold rdOk;rw [decide_eq_false];omega
end Wpl
