/- WalkI, PlainU, WalkRr, VWalkE, TLit, TLitB, NPlain, NWalkA, NWalkI, PPlainB, NWalkC, TWord, NPlainB. -/
import Derived.Test.YtedifblompcdkaaGreatDoorQ28
import Derived.Lib.ItoaNum
import Derived.Lib.ItoaLen
import Derived.Lib.Slices
import Derived.Laws.IdiomStrings
import Derived.Shelf.Strconv.Itoa3
import Derived.Lib.AppendIntMem
set_option maxHeartbeats 4000000
set_option maxRecDepth 100000
set_option linter.unusedVariables false
namespace Go.Proofs.YtedifblompcdkaaGreatDoor
open Tryz
open Go.RowKit
theorem make_neg' (n d N D:Int) (w:World) (eN:Hid (-n=N)) (eD:Hid (-d=D)) (h1:-9223372036854775807<=n) (h2:n<=9223372036854775807) (h3:-9223372036854775807<=d) (h4:d <= -1)
  (hN1:-9223372036854775807<=N) (hN2:N<=9223372036854775807) (hD:1<=D) (hD2:D<=9223372036854775807) :
  CR 64 #[.int .i64 n,.int .i64 d] w (.tuple #[.agg #[.int .i64 (Wnum.oN (some (Rat.divInt N D))),.int .i64 (Wnum.oD (some (Rat.divInt N D)))],.bool (Wnum.oB (some (Rat.divInt N D)))]):=by
 obtain ⟨g1,g2,g3,g4,g5⟩:=Wnum.mk_tdiv (n:=N) (d:=D) hD hN1 hN2;have k1:Hid ((Rat.divInt (N) (D)).num=Int.tdiv (N) ((Int.gcd (N) (D):Nat):Int)):=g4;have g8:Int.tdiv (D) ((Int.gcd (N) (D):Nat):Int)=(D) / ((Int.gcd (N) (D):Nat):Int):=Int.tdiv_eq_ediv_of_nonneg (by omega);have k2:Hid ((((Rat.divInt (N) (D)).den:Nat):Int)=Int.tdiv (D) ((Int.gcd (N) (D):Nat):Int)):=g5.trans g8.symm;have g6:0<=(D) / ((Int.gcd (N) (D):Nat):Int):=Int.ediv_nonneg (by omega) (by omega);have g7:(D) / ((Int.gcd (N) (D):Nat):Int)<=(D):=Int.ediv_le_self _ (by omega);rw [<-g8] at g6 g7;have g9:Int.tdiv (D) ((Int.gcd (N) (D):Nat):Int)<=9223372036854775807:=by omega
 have g10:-9223372036854775807<=Int.tdiv (D) ((Int.gcd (N) (D):Nat):Int):=by omega
 have hw:IntKind.i64.wrap (Int.tdiv (D) ((Int.gcd (N) (D):Nat):Int))=Int.tdiv (D) ((Int.gcd (N) (D):Nat):Int):=IntWalk.i64_in _ (by omega);have hwn:IntKind.i64.wrap (Int.tdiv (N) ((Int.gcd (N) (D):Nat):Int))=Int.tdiv (N) ((Int.gcd (N) (D):Nat):Int):=IntWalk.i64_in _ (by omega);clear g4 g5 g8 g7 g6;generalize Rat.divInt (N) (D)=r at *;have t0:(n == -9223372036854775808)=false:=beq_eq_false_iff_ne.2 (by omega);have t1:(d == -9223372036854775808)=false:=beq_eq_false_iff_ne.2 (by omega);have t2:(d == 0)=false:=beq_eq_false_iff_ne.2 (by omega);have t3:decide (d<0)=true:=by simp;omega
 go_enter func64,ntmps64;go_wp2_with fail
 rw [eN.out,eD.out];refine (zBn _ _ _ (by omega) (by omega) (by omega) (by omega)).mono ?_;rintro e w1 ⟨rfl,nq,rfl⟩;clear t0 t1 t2 t3;go_wp2_with fail
 go_region_with ((go_at_call 83;refine (zCs _ _ r _ g2 g3 k1 k2).mono ?_;rintro e w1 ⟨rfl,hb⟩;obtain ⟨hc,hf⟩:=zQI hb;have hz:=bsz (k:=w.heap.size) hb (by simp)))
 all_goals
  go_wp2;refine bodyPost_ret (v:=.tuple #[.agg #[.int .i64 (Wnum.oN (some r)),.int .i64 (Wnum.oD (some r))],.bool (Wnum.oB (some r))]) (by simp [results,results64,go_sem,hc]) rfl ⟨rfl,?_⟩;exact clA
theorem zLm (n d:Int) (w:World) (h1:-9223372036854775807<=n) (h2:n<=9223372036854775807) (h3:-9223372036854775807<=d) (h4:d <= -1) :
  CR 64 #[.int .i64 n,.int .i64 d] w (.tuple #[.agg #[.int .i64 (Wnum.oN (some (Rat.divInt (-n) (-d)))),.int .i64 (Wnum.oD (some (Rat.divInt (-n) (-d))))],.bool (Wnum.oB (some (Rat.divInt (-n) (-d))))]) :=
 make_neg' n d (-n) (-d) w (rfl:-n = -n) (rfl:-d = -d) h1 h2 h3 h4 (by omega) (by omega) (by omega) (by omega)
theorem zKH (n:Int) (w:World) (h1:-9223372036854775807<=n) (h2:n<=9223372036854775807) :
  CR 64 #[.int .i64 n,.int .i64 0] w (.tuple #[.agg #[.int .i64 0,.int .i64 0],.bool false]):=by
 have t0:(n == -9223372036854775808)=false:=beq_eq_false_iff_ne.2 (by omega);go_enter func64,ntmps64;go_wp2;refine bodyPost_ret (v:=.tuple #[.agg #[.int .i64 0,.int .i64 0],.bool false]) (by simp [results,results64,go_sem]) rfl ⟨rfl,?_⟩;exact clA
theorem zE8 (n d:Int) (w:World) (h1:-9223372036854775807<=n) (h2:n<=9223372036854775807) (h3:-9223372036854775807<=d) (h4:d<=9223372036854775807) :
  CR 64 #[.int .i64 n,.int .i64 d] w (.tuple #[.agg #[.int .i64 (Wnum.oN (Wnum.mk n d)),.int .i64 (Wnum.oD (Wnum.mk n d))],.bool (Wnum.oB (Wnum.mk n d))]):=by
 rcases Int.lt_trichotomy d 0 with h | h | h
 ·rw [Wnum.mk_pos (show d ≠ 0 by omega),<-Rat.neg_divInt_neg];exact zLm n d w h1 h2 h3 (by omega)
 ·subst h;rw [Wnum.mk_zero];exact zKH n w h1 h2
 ·rw [Wnum.mk_pos (show d ≠ 0 by omega)];exact zLj n d w h1 h2 (by omega) h4
end Go.Proofs.YtedifblompcdkaaGreatDoor
namespace Go.Proofs.YtedifblompcdkaaGreatDoor.Wnum
def minusB (s:ByteArray):Bool:=decide (0<s.size/\bt s 0=45)
def body (s:ByteArray):ByteArray:=if minusB s=true then s.extract 1 s.size else s
def sgnd (b:Bool) (n:Int):Int:=if b=true then -n else n
def rdO (s:ByteArray):Option Rat:=if fB (body s)=true then mk (sgnd (minusB s) (fN (body s))) (fD (body s)) else none
def aOf (s:ByteArray):Nat:=if minusB s=true then 1 else 0
theorem body_facts (s:ByteArray):(body s).size=s.size - aOf s/\(∀ i,bt (body s) i=bt s (aOf s+i))/\aOf s<=s.size:=by
 unfold body aOf;cases h:minusB s with
 | true =>
  have:=(of_decide_eq_true h).1;obtain ⟨h1,h2⟩:=sub_facts (t:=s) (p:=1) (by omega);exact ⟨h1,h2,by show 1<=s.size;omega⟩
 | false=>exact ⟨rfl,λi=>by show bt s i=bt s (0+i);rw [Nat.zero_add],Nat.zero_le _⟩
theorem f_bd (t:ByteArray):0<=fN t/\fN t<=1000000000001000000/\0<=fD t/\fD t<=1000000000000000000:=by
 cases hf:fB t with
 | false=>rw [(f_false hf).1,(f_false hf).2];omega
 | true =>
  cases hb:dB t 0 with
  | false=>rw [f_none hb] at hf;cases hf
  | true =>
   obtain ⟨b1,b2,b3⟩:=dB_bd hb;by_cases e:dk t 0=t.size
   ·rw [(f_whole hb e).2.1,(f_whole hb e).2.2];omega
   ·by_cases c:fC t=46
    ·obtain ⟨g0,g1,g2⟩:=f_point hb e c;rw [g0] at hf;have hp:=hf;unfold plB at hp;simp only [Bool.and_eq_true,decide_eq_true_iff] at hp;obtain ⟨⟨⟨p1,p2⟩,p3⟩,p4⟩:=hp;have sm:=say_small (s:=fS t) (i:=0) (dk (fS t) 0) (dk_all (fS t) 0);have t1:=tenP_le6 (k:=(fS t).size) p1;have t2:=tenP_pos (fS t).size;have sv:dv (fS t) 0<tenP (fS t).size:=by unfold dv;rw [p4] at sm ⊢;exact sm
     have s0:=zFX (fS t) 0;rw [g1,g2,(pl_true hf).1,(pl_true hf).2];have m1:0<=dv t 0 * tenP (fS t).size:=Int.mul_nonneg b2 (by omega);have m2:dv t 0 * tenP (fS t).size<=1000000000000 * 1000000:=Int.mul_le_mul p2 t1 (by omega) (by omega);omega
    ·by_cases c':fC t=47
     ·obtain ⟨g0,g1⟩:=f_over hb e c';have hd:dB (fS t) 0=true:=by rw [g0,Bool.and_eq_true] at hf;exact hf.1
      obtain ⟨d1,d2,d3⟩:=dB_bd hd;rw [(g1 hf).1,(g1 hf).2];omega
     ·rw [f_other hb e c c'] at hf;cases hf
end Go.Proofs.YtedifblompcdkaaGreatDoor.Wnum
namespace Go.Proofs.YtedifblompcdkaaGreatDoor
open Tryz
open Go.RowKit
variable {ka kb:Nat} {k p:Int} {x:List UInt8} {W:World}
theorem zOn (s:ByteArray) (h:0<s.size):((s.extract 0 1).toList == [(45:UInt8)])=decide (Wnum.bt s 0=45):=by
 rw [ByteArray.toList_eq];obtain ⟨⟨l⟩⟩:=s;cases l with
 | nil=>exact absurd h (Nat.lt_irrefl 0)
 | cons b l =>
  have e:((ByteArray.mk ⟨b::l⟩).extract 0 1).data.toList=[b]:=by simp
  rw [e];have e2:Wnum.bt (ByteArray.mk ⟨b::l⟩) 0=(b.toNat:Int):=rfl;rw [e2];by_cases hb:b=45
  ·subst hb;rfl
  ·have h1:([b] == [(45:UInt8)])=false:=by simp [hb]
   have h2:¬ ((b.toNat:Nat):Int)=45:=λx=>hb (UInt8.toNat_inj.1 (by
     have:b.toNat=45:=by omega
     rw [this];rfl))
   rw [h1,decide_eq_false h2]
theorem zOJ (s:ByteArray) (w:World) (hs:s.size<=9223372036854775807) :
  Calls prog 37 #[.string s,.string ⟨#[45]⟩] w λe w'=>e=.returned (.tuple #[.string (Wnum.body s),.bool (Wnum.minusB s)])/\w=w':=by
 by_cases h0:0<s.size
 ·have hx:=zOn s h0;by_cases hc:Wnum.bt s 0=45
  ·have m:Wnum.minusB s=true:=decide_eq_true ⟨h0,hc⟩;have e:Wnum.body s=s.extract 1 s.size:=by unfold Wnum.body;rw [m];rfl
   rw [m,e];rw [decide_eq_true hc] at hx;have h1:(1:Int)<=(s.size:Int):=by omega
   clear m e hc;go_enter func37,ntmps37;go_wp2;go_ret2
   exact ⟨rfl,rfl⟩
  ·have m:Wnum.minusB s=false:=decide_eq_false (λx=>hc x.2);have e:Wnum.body s=s:=by unfold Wnum.body;rw [m];rfl
   rw [m,e];rw [decide_eq_false hc] at hx;have h1:(1:Int)<=(s.size:Int):=by omega
   clear m e hc;go_enter func37,ntmps37;go_wp2;go_ret2
   exact ⟨rfl,rfl⟩
 ·have m:Wnum.minusB s=false:=decide_eq_false (λx=>h0 x.1);have e:Wnum.body s=s:=by unfold Wnum.body;rw [m];rfl
  rw [m,e];have h1:decide ((1:Int)<=(s.size:Int))=false:=decide_eq_false (by omega);clear m e;go_enter func37,ntmps37;go_wp2;go_ret2
  exact ⟨rfl,rfl⟩
theorem zHC (s:ByteArray) (w:World) (hs:s.size<=9223372036854775807) :
  CR 39 #[.string s] w (.tuple #[.agg #[.int .i64 (Wnum.oN (Wnum.rdO s)),.int .i64 (Wnum.oD (Wnum.rdO s))],.bool (Wnum.oB (Wnum.rdO s))]):=by
 have C:=λw=>zOJ s w hs
 have hbs:(Wnum.body s).size<=9223372036854775807:=by have:=(Wnum.body_facts s).1;omega
 have R:=λw=>zCa (Wnum.body s) w hbs
 obtain ⟨b1,b2,b3,b4⟩:=Wnum.f_bd (Wnum.body s);cases hf:Wnum.fB (Wnum.body s) with
 | false =>
  have e:Wnum.rdO s=none:=by unfold Wnum.rdO;rw [hf];rfl
  rw [e];rw [hf,(Wnum.f_false hf).1,(Wnum.f_false hf).2] at R;clear e hf b1 b2 b3 b4 hbs;generalize Wnum.body s=t at *;generalize Wnum.minusB s=m at *;go_enter func39,ntmps39;go_wp2_with fail
  refine (C _).mono ?_;rintro e w1 ⟨rfl,rfl⟩;go_wp2_with fail
  refine (R _).mono ?_;rintro e w1 ⟨rfl,k1,rfl⟩;go_wp2;refine bodyPost_ret (v:=.tuple #[.agg #[.int .i64 0,.int .i64 0],.bool false]) (by simp [results,results39,go_sem]) rfl ⟨rfl,?_⟩;exact clA
 | true =>
  have e:Wnum.rdO s=Wnum.mk (Wnum.sgnd (Wnum.minusB s) (Wnum.fN (Wnum.body s))) (Wnum.fD (Wnum.body s)):=by unfold Wnum.rdO;rw [hf];rfl
  rw [e];rw [hf] at R;clear e hf hbs;generalize Wnum.fN (Wnum.body s)=n at *;generalize Wnum.fD (Wnum.body s)=d at *;generalize Wnum.body s=t at *;cases hm:Wnum.minusB s with
  | false =>
   rw [hm] at C;have M:=λw=>zE8 n d w (by omega) (by omega) (by omega) (by omega)
   rw [show Wnum.sgnd false n=n from rfl];generalize Wnum.mk n d=o at *;clear hm;go_enter func39,ntmps39;go_wp2_with fail
   refine (C _).mono ?_;rintro e w1 ⟨rfl,rfl⟩;go_wp2_with fail
   refine (R _).mono ?_;rintro e w1 ⟨rfl,k1,rfl⟩;go_wp2_with fail
   refine (M _).mono ?_;rintro e w2 ⟨rfl,hb2⟩;have pC:At w2 w.heap.size (.int .i64 0) (.int .i64 0):=At.below hb2 (At.drewN (At.new w _ rfl _ _) _);have hB:Below w.heap.size w w2:=zAA (zAX ((Below.refl _ w).alloc (Nat.le_refl _) _) _) hb2;obtain ⟨c1,c2,c3,c4⟩:=pC;go_wp2;refine bodyPost_ret (v:=.tuple #[.agg #[.int .i64 (Wnum.oN o),.int .i64 (Wnum.oD o)],.bool (Wnum.oB o)]) (by simp [results,results39,go_sem,c1,c2]) rfl ⟨rfl,?_⟩;exact zE9 hB (by omega) _ _
  | true =>
   rw [hm] at C;have M:=λw=>zE8 (-n) d w (by omega) (by omega) (by omega) (by omega)
   rw [show Wnum.sgnd true n = -n from rfl];generalize Wnum.mk (-n) d=o at *;clear hm;go_enter func39,ntmps39;go_wp2_with fail
   refine (C _).mono ?_;rintro e w1 ⟨rfl,rfl⟩;go_wp2_with fail
   refine (R _).mono ?_;rintro e w1 ⟨rfl,k1,rfl⟩;go_wp2_with fail
   refine (M _).mono ?_;rintro e w2 ⟨rfl,hb2⟩;have pC:At w2 w.heap.size (.int .i64 0) (.int .i64 0):=At.below hb2 (At.drewN (At.new w _ rfl _ _) _);have hB:Below w.heap.size w w2:=zAA (zAX ((Below.refl _ w).alloc (Nat.le_refl _) _) _) hb2;obtain ⟨c1,c2,c3,c4⟩:=pC;go_wp2;refine bodyPost_ret (v:=.tuple #[.agg #[.int .i64 (Wnum.oN o),.int .i64 (Wnum.oD o)],.bool (Wnum.oB o)]) (by simp [results,results39,go_sem,c1,c2]) rfl ⟨rfl,?_⟩;exact zE9 hB (by omega) _ _
def fNames:List (List UInt8):=[[],[35,68,73,86,47,48,33],[35,86,65,76,85,69,33],[35,82,69,70,33],[35,78,85,77,33],[35,78,47,65],[35,67,73,82,67,76,69,33],[35,76,79,78,71,33],[35,65,82,71,33]]
def fltR:List Value:=fNames.map λx=>.string ⟨x.toArray⟩
def FltAt (w:World):Prop:=w.rangeAt 0 0 fltR
theorem FltAt.below {w w':World} (h:FltAt w) (hb:Below w.heap.size w w'):FltAt w':=λj v hv=>zAC hb (h j v hv)
theorem zJj:∀ (j:Nat) (h:j<fNames.length) (w:World),(Instr.index 125 (.agg fltR.toArray) (.int .i64 (j:Int))).run prog w=.ok (.string ⟨(fNames[j]).toArray⟩) w
 | 0,_,w=>by kernel_rfl
 | 1,_,w=>by kernel_rfl
 | 2,_,w=>by kernel_rfl
 | 3,_,w=>by kernel_rfl
 | 4,_,w=>by kernel_rfl
 | 5,_,w=>by kernel_rfl
 | 6,_,w=>by kernel_rfl
 | 7,_,w=>by kernel_rfl
 | 8,_,w=>by kernel_rfl
 | j+9,h,w=>absurd h (by show ¬ j+9<9;omega)
def fi (s:List UInt8):Nat->List (List UInt8)->Nat
 | _,[]=>0
 | j,n::r=>if n=s then j else fi s (j+1) r
theorem zEP (s:ByteArray) (w:World) (hF:FltAt w):Calls prog 43 #[.string s] w λe w'=>e=.returned (.int .i64 (fi s.toList 0 fNames:Nat))/\w=w':=by
 obtain ⟨R,hR⟩:∃ R,fi s.toList 0 fNames=R:=⟨_,rfl⟩
 have E0:Hid (R=fi s.toList 0 (fNames.drop 0)):=hR.symm;rw [hR];clear hR;have hF2:World.rangeAt w 0 0 fltR:=hF;go_enter func43,ntmps43;go_upto_region 1 with fail
 go_wp2_with ((with_reducible refine wpList_load_mid (cs:=fltR) ?_ 125 (.global 0) ?_ 0 0 ?_ _ hF2 underlying125 ?_ ?_ ?_);rfl;rfl;rfl;rfl;kernel_rfl)
 go_loopg [6] 9 (λgk x wr=>∃ j:Nat,x=.int .i64 j/\gk=9 - j/\j<=9/\Hid (R=fi s.toList j (fNames.drop j))/\wr=w)
 case atStart=>exact ⟨0,rfl,rfl,Nat.zero_le _,E0,rfl⟩
 case round =>
  obtain ⟨j,rfl,hg,hj,HR,rfl⟩:=hrel;by_cases hlt:j<9
  ·have hli:(j:Int)<9:=by omega
   have hix:=zJj j hlt;have hd:=List.drop_eq_getElem_cons (l:=fNames) hlt;generalize fNames[j]=x at *;rw [hd] at HR;clear hd;by_cases hm:x=s.toList
   ·have E:Hid (R=j):=by show _=_;rw [HR.out,fi,if_pos hm]
    subst hm;clear HR;go_wp2;go_ret;exact ⟨by rw [E.out];rfl,rfl⟩
   ·have hm4:(x == s.toList)=false:=by simp [hm]
    have E:Hid (R=fi s.toList (j+1) (fNames.drop (j+1))):=by show _=_;rw [HR.out,fi,if_neg hm]
    clear HR;go_wp2_with fail
    go_roundg (9 - (j+1))
    case rel=>exact ⟨j+1,by simp,rfl,hlt,E,by first | trivial | rfl⟩
    case measure=>omega
  ·have hli:¬ (j:Int)<9:=by omega
   have E:Hid (R=0):=by
    show _=_
    rw [HR.out,List.drop_eq_nil_of_le (by show 9<=j;omega)];rfl
   clear HR;go_wp2;go_ret;exact ⟨by rw [E.out];rfl,rfl⟩
theorem zD8 (s:ByteArray) (w:World) (h1:¬ s.toList=[84,82,85,69]) (h2:¬ s.toList=[70,65,76,83,69]):Calls prog 41 #[.string s] w λe w'=>e=.returned (.tuple #[.bool false,.bool false])/\w=w':=by
 have h1':(s.toList == [84,82,85,69])=false:=by simp [h1]
 have h2':(s.toList == [70,65,76,83,69])=false:=by simp [h2]
 go_enter func41,ntmps41;go_wp2;go_ret2
 exact ⟨rfl,rfl⟩
theorem zK8 (s:ByteArray) (w:World) (h0:0<s.size) (hx:((s.extract 0 1).toList == [39])=false) :
  Calls prog 37 #[.string s,.string ⟨#[39]⟩] w λe w'=>e=.returned (.tuple #[.string s,.bool false])/\w=w':=by
 have h1:(1:Int)<=(s.size:Int):=by omega
 go_enter func37,ntmps37;go_wp2;go_ret2
 exact ⟨rfl,rfl⟩
theorem zL0 (s:ByteArray) (c:Nat) (w:World) (hF:FltAt w) (h0:0<s.size) (hs:s.size<=1024) (hx:((s.extract 0 1).toList == [39])=false) (hr:Wnum.rdO s=none) (h1:¬ s.toList=[84,82,85,69]) (h2:¬ s.toList=[70,65,76,83,69]) (hc:fi s.toList 0 fNames=c) (hc1:1<=c) (hc8:c<=8) :
  CR 24 #[.string s] w (vlV ⟨4,0,0,⟨#[]⟩,false,c⟩):=by
 have hne:s.toList.isEmpty=false:=zHN (λe=>by subst e;exact absurd h0 (by decide));have C1:=λw=>zK8 s w h0 hx
 have C2:=λw=>zHC s w (by omega)
 rw [hr] at C2;have C3:=λw=>zD8 s w h1 h2
 have C4:=λw h=>zEP s w h
 rw [hc] at C4;have C5:=λw=>zCU (c:Int) w
 have e5:zDb (c:Int)=⟨4,0,0,⟨#[]⟩,false,c⟩:=by
  unfold zDb Wv.flt;rw [decide_eq_true (by omega),decide_eq_true (by omega)];rfl
 rw [e5] at C5;clear e5 hx hr hc;simp only [vlV,vl6] at C5;have eo:Wnum.oB (none:Option Rat)=false:=rfl;have en:Wnum.oN (none:Option Rat)=0:=rfl;have ed:Wnum.oD (none:Option Rat)=0:=rfl;rw [eo,en,ed] at C2;have hcn:((c:Int) == 0)=false:=by rw [beq_eq_false_iff_ne];omega
 have pR:=vlz w;have hB0:=zAH (Below.refl _ w) (.cells zV0 38);have hF0:=hF.below hB0;go_enter func24,ntmps24;go_wp2_with fail
 refine (C1 _).mono ?_;rintro e w1 ⟨rfl,rfl⟩;go_wp2_with fail
 refine (C2 _).mono ?_;rintro e w2 ⟨rfl,hb⟩;have pR1:=AtL.below hb pR;have hB1:=zAA hB0 hb;have hF1:=hF0.below hb;clear pR hB0 hF0 hb;go_wp2_with fail
 refine (C3 _).mono ?_;rintro e w3 ⟨rfl,rfl⟩;have hF2:=hF1.below ((Below.refl _ _).alloc (Nat.le_refl _) (.cells #[.int .i64 0,.int .i64 0] 36));go_wp2_with fail
 refine (C4 _ hF2).mono ?_;rintro e w3 ⟨rfl,rfl⟩;go_wp2_with fail
 refine (C5 _).mono ?_;rintro e w4 ⟨rfl,hb⟩;have pR2:=AtL.below hb (AtL.alloc pR1 _);have hB2:=zAA (zAH hB1 _) hb;obtain ⟨c0,c1,c2,c3,c4,c5⟩:=pR2.f6;have g0:=pR2.2.2 0 (by decide);have g1:=pR2.2.2 1 (by decide);have g2:=pR2.2.2 2 (by decide);have g3:=pR2.2.2 3 (by decide);have g4:=pR2.2.2 4 (by decide);have g5:=pR2.2.2 5 (by decide);go_wp2;refine bodyPost_ret (v:=vlV ⟨4,0,0,⟨#[]⟩,false,c⟩) (by simp [results,results24,go_sem,vlV,vl6, *]) rfl ⟨rfl,?_⟩;exact (clB hB2)
def zLB (t:Wlx.TV):Option Wt.Vl :=
 if t.k=1 then (if Wnum.oB (Wnum.rdO ⟨t.t.toArray⟩)=true then some (zOe (Wnum.oN (Wnum.rdO ⟨t.t.toArray⟩)) (Wnum.oD (Wnum.rdO ⟨t.t.toArray⟩))) else none)
 else if t.k=2 then (if t.t.length<=256 then some (zHp ⟨t.t.toArray⟩) else none)
 else if t.k=4 then some ⟨4,0,0,⟨#[]⟩,false,(fi t.t 0 fNames:Nat)⟩
 else none
def zA5 (t:Wlx.TV):Prop:=t.t.length<=1024/\(t.k=4->∃ i,∃ h:i<9,1<=i/\t.t=fNames[i]'h)
def zDC (t:Wlx.TV) (e:Ending):Prop:=∃ v ok,e=.returned (.tuple #[vlV v,.bool ok])/\zLB t=if ok then some v else none
theorem zB8 (b:UInt8) (l:List UInt8) (c:Nat) (w:World) (hF:FltAt w) (hs:l.length<1024) (hb:(b == 39)=false) (hr:Wnum.rdO ⟨(b::l).toArray⟩=none) (h1:¬ b::l=[84,82,85,69]) (h2:¬ b::l=[70,65,76,83,69]) (hc:fi (b::l) 0 fNames=c) (hc1:1<=c) (hc8:c<=8) :
  CR 24 #[.string ⟨(b::l).toArray⟩] w (vlV ⟨4,0,0,⟨#[]⟩,false,((fi (b::l) 0 fNames:Nat):Int)⟩):=by
 have e:(⟨(b::l).toArray⟩:ByteArray).toList=b::l:=by rw [ByteArray.toList_eq]
 have e2:((⟨(b::l).toArray⟩:ByteArray).extract 0 1).toList=[b]:=by rw [ByteArray.toList_eq];simp
 rw [hc];exact zL0 ⟨(b::l).toArray⟩ c w hF (by show 0<(b::l).length;simp) (by show (b::l).length<=1024;simp;omega) (by rw [e2];simpa using hb) hr (by rw [e];exact h1) (by rw [e];exact h2) (by rw [e];exact hc) hc1 hc8
theorem zJw:∀ (i:Nat) (h:i<9),1<=i->∀ (w:World),FltAt w->CR 24 #[.string ⟨(fNames[i]'h).toArray⟩] w (vlV ⟨4,0,0,⟨#[]⟩,false,((fi (fNames[i]'h) 0 fNames:Nat):Int)⟩)
 | 0,_,h,_,_=>absurd h (by decide)
 | 1,_,_,w,hF=>zB8 35 [68,73,86,47,48,33] 1 w hF (by decide) (by decide) (by decide +kernel) (by decide) (by decide) (by decide) (by decide) (by decide)
 | 2,_,_,w,hF=>zB8 35 [86,65,76,85,69,33] 2 w hF (by decide) (by decide) (by decide +kernel) (by decide) (by decide) (by decide) (by decide) (by decide)
 | 3,_,_,w,hF=>zB8 35 [82,69,70,33] 3 w hF (by decide) (by decide) (by decide +kernel) (by decide) (by decide) (by decide) (by decide) (by decide)
 | 4,_,_,w,hF=>zB8 35 [78,85,77,33] 4 w hF (by decide) (by decide) (by decide +kernel) (by decide) (by decide) (by decide) (by decide) (by decide)
 | 5,_,_,w,hF=>zB8 35 [78,47,65] 5 w hF (by decide) (by decide) (by decide +kernel) (by decide) (by decide) (by decide) (by decide) (by decide)
 | 6,_,_,w,hF=>zB8 35 [67,73,82,67,76,69,33] 6 w hF (by decide) (by decide) (by decide +kernel) (by decide) (by decide) (by decide) (by decide) (by decide)
 | 7,_,_,w,hF=>zB8 35 [76,79,78,71,33] 7 w hF (by decide) (by decide) (by decide +kernel) (by decide) (by decide) (by decide) (by decide) (by decide)
 | 8,_,_,w,hF=>zB8 35 [65,82,71,33] 8 w hF (by decide) (by decide) (by decide +kernel) (by decide) (by decide) (by decide) (by decide) (by decide)
 | j+9,h,_,_,_=>absurd h (by omega)
theorem zQJ (s:ByteArray):(-9223372036854775808<=Wnum.oN (Wnum.rdO s)/\Wnum.oN (Wnum.rdO s)<=9223372036854775807)/\(-9223372036854775808<=Wnum.oD (Wnum.rdO s)/\Wnum.oD (Wnum.rdO s)<=9223372036854775807):=by
 cases Wnum.rdO s with
 | none=>exact ⟨⟨by decide,by decide⟩,by decide,by decide⟩
 | some r =>
  simp only [Wnum.oN,Wnum.oD];by_cases h:Wnum.okQ r=true
  ·rw [if_pos h,if_pos h];have:=of_decide_eq_true h;omega
  ·rw [if_neg h,if_neg h];omega
abbrev LvS (ka kb:Nat) (k:Int) (x:List UInt8) (p:Int) (W:World):Prop :=
 W.cell? ⟨ka,0,none⟩=some (.int .i64 k)/\W.cell? ⟨ka,1,none⟩=some (.string ⟨x.toArray⟩)/\W.cell? ⟨ka,2,none⟩=some (.int .i64 p)/\W.frozen? ⟨kb,0,none⟩=false/\W.frozen? ⟨kb,1,none⟩=false/\W.frozen? ⟨kb,2,none⟩=false/\W.frozen? ⟨kb,3,none⟩=false/\W.frozen? ⟨kb,4,none⟩=false/\W.frozen? ⟨kb,5,none⟩=false
theorem zIq {us:List Value} (h0:AtL W ka [.int .i64 k,.string ⟨x.toArray⟩,.int .i64 p]) (h1:AtL W kb us) (hl:us.length=6):LvS ka kb k x p W :=
 ⟨h0.2.1 0 _ rfl,h0.2.1 1 _ rfl,h0.2.1 2 _ rfl,h1.2.2 0 (by omega),h1.2.2 1 (by omega),h1.2.2 2 (by omega),h1.2.2 3 (by omega),h1.2.2 4 (by omega),h1.2.2 5 (by omega)⟩
theorem zCX (h:LvS ka kb k x p W) (hne:kb ≠ ka) (j:Nat) (u:Value):LvS ka kb k x p (W.setCell ⟨kb,j,none⟩ u):=by
 obtain ⟨h0,h1,h2,g0,g1,g2,g3,g4,g5⟩:=h;refine ⟨?_,?_,?_,?_,?_,?_,?_,?_,?_⟩;any_goals rw [World.cell?_setCell_far _ _ _ _ (by simpa using hne)];assumption
 all_goals rw [World.frozen?_setCell];assumption
theorem zLu (t:Wlx.TV) (w:World) (hF:FltAt w) (ht:zA5 t):Calls prog 251 #[tkV t] w λe w'=>zDC t e/\Below w.heap.size w w':=by
 obtain ⟨k,x,p⟩:=t;obtain ⟨hx,h4⟩:=ht;simp only at hx h4;have hxs:(⟨x.toArray⟩:ByteArray).size=x.length:=rfl;show Calls _ _ #[.agg #[.int .i64 k,.string ⟨x.toArray⟩,.int .i64 p]] _ _
 have pA:=(AtL.new0 w 219 [.int .i64 k,.string ⟨x.toArray⟩,.int .i64 p]).alloc (.cells zV0 38);have pR:=vlz (w.alloc (.cells #[.int .i64 k,.string ⟨x.toArray⟩,.int .i64 p] 219));simp only [World.size_alloc] at pR;have hB0:=zAH (zAH (Below.refl _ w) (.cells #[.int .i64 k,.string ⟨x.toArray⟩,.int .i64 p] 219)) (.cells zV0 38);have hF0:=hF.below hB0;by_cases h1:k=1
 ·subst h1;have C1:=λw=>zHC ⟨x.toArray⟩ w (by omega)
  have bd:∀ q:Option Rat,q=Wnum.rdO ⟨x.toArray⟩->(-9223372036854775808<=Wnum.oN q/\Wnum.oN q<=9223372036854775807)/\(-9223372036854775808<=Wnum.oD q/\Wnum.oD q<=9223372036854775807):=by
   intro q hq;subst hq;exact zQJ _
  obtain ⟨⟨b1,b2⟩,b3,b4⟩:=bd _ rfl;have C2:=λw=>zG7 (Wnum.oN (Wnum.rdO ⟨x.toArray⟩)) (Wnum.oD (Wnum.rdO ⟨x.toArray⟩)) w b1 b2 b3 b4
  have hp:zDC ⟨1,x,p⟩ (.returned (.tuple #[vlV (zOe (Wnum.oN (Wnum.rdO ⟨x.toArray⟩)) (Wnum.oD (Wnum.rdO ⟨x.toArray⟩))),.bool (Wnum.oB (Wnum.rdO ⟨x.toArray⟩))])):=by
   refine ⟨_,_,rfl,?_⟩;unfold zLB;rw [if_pos rfl]
  generalize zOe (Wnum.oN (Wnum.rdO ⟨x.toArray⟩)) (Wnum.oD (Wnum.rdO ⟨x.toArray⟩))=V at *;generalize Wnum.oN (Wnum.rdO ⟨x.toArray⟩)=qn at *;generalize Wnum.oD (Wnum.rdO ⟨x.toArray⟩)=qd at *;generalize Wnum.oB (Wnum.rdO ⟨x.toArray⟩)=qb at *;clear bd b1 b2 b3 b4;obtain ⟨v1,v2,v3,v4,v5,v6⟩:=V;simp only [vlV,vl6] at C2;go_enter func251,ntmps251;go_wp2_with fail
  refine (C1 _).mono ?_;rintro e w1 ⟨rfl,hb⟩;have pR1:=AtL.below hb pR;have hB1:=zAA hB0 hb;clear pA pR hB0 hb;go_wp2_with fail
  refine (C2 _).mono ?_;rintro e w2 ⟨rfl,hb⟩;have pR2:=AtL.below hb (AtL.alloc pR1 _);have hB2:=zAA (zAH hB1 _) hb;clear pR1 hB1 hb;obtain ⟨c0,c1,c2,c3,c4,c5⟩:=pR2.f6;have g0:=pR2.2.2 0 (by decide);have g1:=pR2.2.2 1 (by decide);have g2:=pR2.2.2 2 (by decide);have g3:=pR2.2.2 3 (by decide);have g4:=pR2.2.2 4 (by decide);have g5:=pR2.2.2 5 (by decide);go_wp2;refine bodyPost_ret (v:=.tuple #[vlV ⟨v1,v2,v3,v4,v5,v6⟩,.bool qb]) (by simp [results,results251,go_sem,vlV,vl6,c0,c1,c2,c3,c4,c5]) rfl ⟨hp,?_⟩;exact (clB hB2)
 by_cases h2:k=2
 ·subst h2;have C1:=λw=>zKn ⟨x.toArray⟩ w (by omega)
  have hp:zDC ⟨2,x,p⟩ (.returned (.tuple #[vlV (zHp ⟨x.toArray⟩),.bool (decide ((x.length:Int)<=256))])):=by
   refine ⟨_,_,rfl,?_⟩;unfold zLB;rw [if_neg h1,if_pos rfl];by_cases hl:x.length<=256
   ·simp only;rw [if_pos hl,decide_eq_true (by omega)];rfl
   ·simp only;rw [if_neg hl,decide_eq_false (by omega)];rfl
  generalize zHp ⟨x.toArray⟩=V at *;obtain ⟨v1,v2,v3,v4,v5,v6⟩:=V;simp only [vlV,vl6] at C1;have hS:=zIq pA pR rfl;go_enter func251,ntmps251;go_upto_region 6 with fail
  go_region_held3 (LvS w.heap.size (w.heap.size+1) 2 x p)
   (with_reducible first | exact hS | assumption | exact zIq pA1 pR1 rfl | exact (zCX (zCX (zCX (zCX (zCX (zCX (by assumption) (by omega) _ _) (by omega) _ _) (by omega) _ _) (by omega) _ _) (by omega) _ _) (by omega) _ _) | exact zIq (AtL.drew pA) (AtL.drew pR) rfl)
   (first | (go_at_call 38;refine (C1 _).mono ?_;rintro e w1 ⟨rfl,hb⟩;have pA1:=AtL.below hb (AtL.drew pA);have pR1:=AtL.below hb (AtL.drew pR);obtain ⟨c0,c1,c2,c3,c4,c5⟩:=pR1.f6;have hB1:=zAA hB0.drew hb))
  all_goals
   have pR2:AtL ((((((w1.setCell ⟨w.heap.size+1,0,none⟩ (.int .i64 v1)).setCell ⟨w.heap.size+1,1,none⟩ (.int .i64 v2)).setCell ⟨w.heap.size+1,2,none⟩ (.int .i64 v3)).setCell ⟨w.heap.size+1,3,none⟩ (.string v4)).setCell ⟨w.heap.size+1,4,none⟩ (.bool v5)).setCell ⟨w.heap.size+1,5,none⟩ (.int .i64 v6)) (w.heap.size+1) [.int .i64 v1,.int .i64 v2,.int .i64 v3,.string v4,.bool v5,.int .i64 v6]:=(((((pR1.set 0 _).set 1 _).set 2 _).set 3 _).set 4 _).set 5 _;have hB2:Below w.heap.size w ((((((w1.setCell ⟨w.heap.size+1,0,none⟩ (.int .i64 v1)).setCell ⟨w.heap.size+1,1,none⟩ (.int .i64 v2)).setCell ⟨w.heap.size+1,2,none⟩ (.int .i64 v3)).setCell ⟨w.heap.size+1,3,none⟩ (.string v4)).setCell ⟨w.heap.size+1,4,none⟩ (.bool v5)).setCell ⟨w.heap.size+1,5,none⟩ (.int .i64 v6)):=(clB hB1)
   generalize ((((((w1.setCell ⟨w.heap.size+1,0,none⟩ (.int .i64 v1)).setCell ⟨w.heap.size+1,1,none⟩ (.int .i64 v2)).setCell ⟨w.heap.size+1,2,none⟩ (.int .i64 v3)).setCell ⟨w.heap.size+1,3,none⟩ (.string v4)).setCell ⟨w.heap.size+1,4,none⟩ (.bool v5)).setCell ⟨w.heap.size+1,5,none⟩ (.int .i64 v6))=W2 at *;clear c0 c1 c2 c3 c4 c5;obtain ⟨c0,c1,c2,c3,c4,c5⟩:=pR2.f6;go_wp2;refine bodyPost_ret (v:=.tuple #[vlV ⟨v1,v2,v3,v4,v5,v6⟩,.bool (decide ((x.length:Int)<=256))]) (by simp [results,results251,go_sem,vlV,vl6,c0,c1,c2,c3,c4,c5]) rfl ⟨hp,hB2⟩
 by_cases h4k:k=4
 ·subst h4k;obtain ⟨i,hi,hi1,hxi⟩:=h4 rfl;have C1:=λw h=>zJw i hi hi1 w h
  rw [<-hxi] at C1;clear hxi h4;have hp:zDC ⟨4,x,p⟩ (.returned (.tuple #[vlV ⟨4,0,0,⟨#[]⟩,false,((fi x 0 fNames:Nat):Int)⟩,.bool true])):=⟨_,_,rfl,rfl⟩
  generalize ((fi x 0 fNames:Nat):Int)=c at *;simp only [vlV,vl6] at C1;go_enter func251,ntmps251;go_wp2_with fail
  refine (C1 _ hF0).mono ?_;rintro e w1 ⟨rfl,hb⟩;have pR2:=AtL.below hb pR;have hB2:=zAA hB0 hb;obtain ⟨c0,c1,c2,c3,c4,c5⟩:=pR2.f6;have g0:=pR2.2.2 0 (by decide);have g1:=pR2.2.2 1 (by decide);have g2:=pR2.2.2 2 (by decide);have g3:=pR2.2.2 3 (by decide);have g4:=pR2.2.2 4 (by decide);have g5:=pR2.2.2 5 (by decide);go_wp2;refine bodyPost_ret (v:=.tuple #[vlV ⟨4,0,0,⟨#[]⟩,false,c⟩,.bool true]) (by simp [results,results251,go_sem,vlV,vl6,c0,c1,c2,c3,c4,c5]) rfl ⟨hp,?_⟩;exact (clB hB2)
 have hp:zDC ⟨k,x,p⟩ (.returned (.tuple #[vlV ⟨0,0,0,⟨#[]⟩,false,0⟩,.bool false])):=by
  refine ⟨_,_,rfl,?_⟩;unfold zLB;rw [if_neg h1,if_neg h2,if_neg h4k];rfl
 have e1:(k == 1)=false:=by simp [h1]
 have e2:(k == 2)=false:=by simp [h2]
 have e4:(k == 4)=false:=by simp [h4k]
 go_enter func251,ntmps251;go_wp2;refine bodyPost_ret (v:=.tuple #[vlV ⟨0,0,0,⟨#[]⟩,false,0⟩,.bool false]) (by simp [results,results251,go_sem,vlV,vl6]) rfl ⟨hp,?_⟩;exact clA
end Go.Proofs.YtedifblompcdkaaGreatDoor
namespace Wpl
def colT (n:Nat):List UInt8:=if n<26 then [UInt8.ofNat (65+n)] else [UInt8.ofNat (65+(n / 26 - 1)),UInt8.ofNat (65+n % 26)]
def colS (n:Int):List UInt8:=if inB n 256 then colT n.toNat else []
theorem zMH (n:Nat):(colT n).length<=2:=by unfold colT;split <;> simp
theorem colS_len (n:Int):(colS n).length<=2:=by unfold colS;split;exact zMH _;simp
theorem dd_len (n:Nat) (h:n<=9223372036854775807):(Go.Lib.decDigits n).length<=21:=by
 have:=Go.Lib.itoa_length_le (n:Int) (by omega) (by omega);unfold Go.Lib.itoa at this;rw [if_neg (by omega),Int.toNat_natCast] at this;exact this
end Wpl
namespace Go.Proofs.YtedifblompcdkaaGreatDoor
open Tryz
open Go.RowKit
theorem zHb:∀ k:Fin 26,Utf8.encode ((((⟨#[65,66,67,68,69,70,71,72,73,74,75,76,77,78,79,80,81,82,83,84,85,86,87,88,89,90]⟩:ByteArray)[k.val]'(by have:=k.isLt;exact this)).toNat:Nat):Int)=⟨#[UInt8.ofNat (65+k.val)]⟩:=by decide +kernel
theorem zDf {k:Nat} (h:k<26) (h':k<(⟨#[65,66,67,68,69,70,71,72,73,74,75,76,77,78,79,80,81,82,83,84,85,86,87,88,89,90]⟩:ByteArray).size):Utf8.encode ((((⟨#[65,66,67,68,69,70,71,72,73,74,75,76,77,78,79,80,81,82,83,84,85,86,87,88,89,90]⟩:ByteArray)[k]'h').toNat:Nat):Int)=⟨#[UInt8.ofNat (65+k)]⟩:=zHb ⟨k,h⟩
theorem zBs (a b:List UInt8):((⟨a.toArray⟩:ByteArray)++(⟨b.toArray⟩:ByteArray))=⟨(a++b).toArray⟩:=by
 apply ByteArray.ext
 rw [ByteArray.data_append];simp
theorem zO9 (c:UInt8) (b:List UInt8):((⟨#[c]⟩:ByteArray)++(⟨b.toArray⟩:ByteArray))=⟨(c::b).toArray⟩:=zBs [c] b
theorem zOK (n:Int) (w:World):CR 264 #[.int .i64 n] w (.string ⟨(Wpl.colS n).toArray⟩):=by
 have B:=λw=>zCD n 256 w
 cases h:Wpl.inB n 256 with
 | false =>
  have E:Hid (Wpl.colS n=[]):=by show _=_;unfold Wpl.colS;rw [h];rfl
  rw [h] at B;clear h;go_enter func264,ntmps264;go_wp2_with fail
  refine (B _).mono ?_;rintro e w1 ⟨rfl,rfl⟩;go_wp2;go_ret;exact ⟨by rw [E.out];rfl,clA⟩
 | true =>
  have hn:=Wpl.inB_iff.1 h;have E:Hid (Wpl.colS n=Wpl.colT n.toNat):=by show _=_;unfold Wpl.colS;rw [h];rfl
  rw [h] at B;clear h;obtain ⟨m,rfl⟩:=Int.eq_ofNat_of_zero_le hn.1;rw [Int.toNat_natCast] at E;have hm:m<256:=by omega
  go_enter func264,ntmps264;go_wp2_with fail
  refine (B _).mono ?_;rintro e w1 ⟨rfl,rfl⟩;go_wp2_with fail
  go_loopw [0,3] (λx y wr=>∃ (k:Int) (l:List UInt8),x=.int .i64 k /\ -1<=k/\k<256/\y=.string ⟨l.toArray⟩/\l.length<=2/\Hid (Wpl.colT m=(if k<0 then [] else Wpl.colT k.toNat)++l/\(0<=k->l.length=0 \/ l.length=1/\k<26))/\wr=w) (λx _ _=>(intOf x+1).toNat)
  case atStart=>exact ⟨m,[],rfl,by omega,by omega,rfl,by simp,(⟨by rw [if_neg (by omega),Int.toNat_natCast,List.append_nil],λ_=>Or.inl rfl⟩:Wpl.colT m=(if (m:Int)<0 then [] else Wpl.colT (m:Int).toNat)++[]/\_),rfl⟩
  case round =>
   obtain ⟨k,l,rfl,hk0,hk1,rfl,hl,HI,rfl⟩:=hrel;by_cases hk:0<=k
   ·obtain ⟨j,rfl⟩:=Int.eq_ofNat_of_zero_le hk;have h26':j % 26<26:=by omega
    obtain ⟨i1,i2⟩:=HI.out;rw [if_neg (by omega),Int.toNat_natCast] at i1;have i3:=i2 (by omega);have hl2:l.length<=1:=by omega
    have HI':Hid (Wpl.colT m=(if (j:Int) / 26 - 1<0 then [] else Wpl.colT ((j:Int) / 26 - 1).toNat)++(UInt8.ofNat (65+j % 26)::l)/\(0<=(j:Int) / 26 - 1->(UInt8.ofNat (65+j % 26)::l).length=0 \/ (UInt8.ofNat (65+j % 26)::l).length=1/\(j:Int) / 26 - 1<26)):=by
     refine (⟨?_,?_⟩:_/\_)
     ·rw [i1];by_cases h26:j<26
      ·rw [if_pos (by omega)];unfold Wpl.colT;rw [if_pos h26,Nat.mod_eq_of_lt h26];rfl
      ·rw [if_neg (by omega)];have e:((j:Int) / 26 - 1).toNat=j / 26 - 1:=by omega
       rw [e];unfold Wpl.colT;rw [if_neg h26,if_pos (by omega)];rfl
     ·intro h;right
      refine ⟨?_,by omega⟩;rcases i3 with h0 | ⟨_,h1⟩
      ·rw [List.length_cons,h0]
      ·omega
    clear HI i1 i2 i3;have hj:(j:Int)<256:=hk1;go_wp2_with fail
    case isTrue =>
     rename_i hx
     exfalso
     rw [zDf h26'] at hx;have:(⟨#[UInt8.ofNat (65+j % 26)]⟩:ByteArray).size=1:=rfl;omega
    go_roundw
    case rel=>exact ⟨(j:Int) / 26 - 1,UInt8.ofNat (65+j % 26)::l,rfl,by omega,by omega,by rw [zDf h26'];exact congrArg Value.string (zO9 _ l),by simp;omega,HI',trivial⟩
    case measure=>simp [intOf];omega
   ·have e:Wpl.colT m=l:=by have:=HI.out.1;rw [if_pos (by omega)] at this;exact this
    have EE:Hid (Wpl.colT m=l):=e;clear e HI;go_wp2;go_ret;exact ⟨by rw [E.out,EE.out];rfl,Below.refl _ _⟩
open Go.Shelf Go.RowKit
def zDN:Go.Shelf.Ren:=⟨fun | 171=>265 | 243=>266 | 246=>267 | 283=>268 | 284=>269 | 285=>270 | 286=>271 | 129=>59 | 317=>272 | 318=>273 | 319=>274 | 320=>275 | 337=>276 | 338=>277 | n=>n,fun | 3=>3 | 9=>9 | 2=>2 | 4=>4 | 171=>380 | 0=>0 | 53=>120 | 37=>288 | 5=>5 | 173=>382 | 212=>385 | 51=>118 | 20=>20 | 213=>386 | 46=>82 | 232=>387 | 233=>388 | n=>n,fun | 17=>6 | 18=>7 | 19=>8 | n=>n⟩
theorem zFc:Go.Proofs.LaysM.n171 prog zDN:={
 mixed:=by kernel_rfl
 f129:=func59.trans (congrArg some (by kernel_rfl))
 f171:=func265.trans (congrArg some (by kernel_rfl))
 f243:=func266.trans (congrArg some (by kernel_rfl))
 f246:=func267.trans (congrArg some (by kernel_rfl))
 f283:=func268.trans (congrArg some (by kernel_rfl))
 f284:=func269.trans (congrArg some (by kernel_rfl))
 f285:=func270.trans (congrArg some (by kernel_rfl))
 f286:=func271.trans (congrArg some (by kernel_rfl))
 f317:=func272.trans (congrArg some (by kernel_rfl))
 f318:=func273.trans (congrArg some (by kernel_rfl))
 f319:=func274.trans (congrArg some (by kernel_rfl))
 f320:=func275.trans (congrArg some (by kernel_rfl))
 f337:=func276.trans (congrArg some (by kernel_rfl))
 f338:=func277.trans (congrArg some (by kernel_rfl))
 t0:=underlying0
 a0:=Tryz.isAgg0
 z0:=Tryz.sizeOf0
 v0:=Tryz.zeroValue0
 t2:=underlying2
 a2:=Tryz.isAgg2
 z2:=Tryz.sizeOf2
 v2:=Tryz.zeroValue2
 t3:=underlying3
 a3:=Tryz.isAgg3
 z3:=Tryz.sizeOf3
 v3:=Tryz.zeroValue3
 t4:=underlying4
 a4:=Tryz.isAgg4
 z4:=Tryz.sizeOf4
 v4:=Tryz.zeroValue4
 t5:=underlying5
 a5:=Tryz.isAgg5
 z5:=Tryz.sizeOf5
 v5:=Tryz.zeroValue5
 t9:=underlying9
 a9:=Tryz.isAgg9
 z9:=Tryz.sizeOf9
 v9:=Tryz.zeroValue9
 t20:=underlying20
 a20:=Tryz.isAgg20
 z20:=Tryz.sizeOf20
 v20:=Tryz.zeroValue20
 t37:=underlying288
 a37:=Tryz.isAgg288
 z37:=Tryz.sizeOf288
 v37:=Tryz.zeroValue288
 t46:=underlying82
 a46:=Tryz.isAgg82
 z46:=Tryz.sizeOf82
 v46:=Tryz.zeroValue82
 t51:=underlying118
 a51:=Tryz.isAgg118
 z51:=Tryz.sizeOf118
 v51:=Tryz.zeroValue118
 t53:=underlying120
 a53:=Tryz.isAgg120
 z53:=Tryz.sizeOf120
 v53:=Tryz.zeroValue120
 t171:=underlying380
 a171:=Tryz.isAgg380
 z171:=Tryz.sizeOf380
 v171:=Tryz.zeroValue380
 t173:=underlying382
 a173:=Tryz.isAgg382
 z173:=Tryz.sizeOf382
 v173:=Tryz.zeroValue382
 t212:=underlying385
 a212:=Tryz.isAgg385
 z212:=Tryz.sizeOf385
 v212:=Tryz.zeroValue385
 t213:=underlying386
 a213:=Tryz.isAgg386
 z213:=Tryz.sizeOf386
 t232:=underlying387
 a232:=Tryz.isAgg387
 z232:=Tryz.sizeOf387
 v232:=Tryz.zeroValue387
 t233:=underlying388
 a233:=Tryz.isAgg388
 z233:=Tryz.sizeOf388
 v233:=Tryz.zeroValue388
 g17:=by kernel_rfl
 g18:=by kernel_rfl
 g19:=by kernel_rfl
 i0:=by kernel_rfl
 i2:=by kernel_rfl
 i3:=by kernel_rfl
 i4:=by kernel_rfl
 i5:=by kernel_rfl
 i9:=by kernel_rfl
 i20:=by kernel_rfl
 i37:=by kernel_rfl
 i46:=by kernel_rfl
 i51:=by kernel_rfl
 i53:=by kernel_rfl
 i171:=by kernel_rfl
 i173:=by kernel_rfl
 i212:=by kernel_rfl
 i232:=by kernel_rfl
 i233:=by kernel_rfl
 m17:=by kernel_rfl
 m18:=by kernel_rfl
 m19:=by kernel_rfl}
theorem zGG (n:Int) (w:World) (h0:-9223372036854775808<=n) (h1:n<=9223372036854775807) (htab:Lib.TabIs prog w "internal/strconv.uint64pow10" .u64 Lib.pow10Tab) :
  CR 265 #[.int .i64 n] w (.string ⟨(Lib.itoa n).toArray⟩) :=
 (Any.strconv_Itoa zFc n h0 h1 w htab).mono λe w' ⟨he,k,os,hw⟩=>⟨he,by rw [hw];exact Lib.below_grow _ w (Nat.le_refl _) k os⟩
end Go.Proofs.YtedifblompcdkaaGreatDoor
namespace Wpl
def num (s t l r k:Int):Cl:=⟨s,t+k / (r - l+1),l+k % (r - l+1)⟩
end Wpl
namespace Go.Proofs.YtedifblompcdkaaGreatDoor
open Tryz
open Go.RowKit
theorem zF9 {n:Int} (h:0<=n):Lib.itoa n=Lib.decDigits n.toNat:=by unfold Lib.itoa;rw [if_neg (by omega)]
def fx (b:Bool):List UInt8:=if b then [36] else []
theorem zFD (b:Bool) (w:World):CR 263 #[.bool b] w (.string ⟨(fx b).toArray⟩):=by
 cases b
 ·go_enter func263,ntmps263;go_wp2;go_ret;exact ⟨rfl,Below.refl _ _⟩
 ·go_enter func263,ntmps263;go_wp2;go_ret;exact ⟨rfl,Below.refl _ _⟩
def cw (a:Wt.Rf):List UInt8:=fx a.fc++Wpl.colS a.c++fx a.fr++Lib.decDigits (a.r+1).toNat
theorem zNJ (b:Bool):(fx b).length<=1:=by cases b <;> decide
theorem zEd (a:Wt.Rf) (w:World) (h0:0<=a.r) (h1:a.r<65536) (htab:Lib.TabIs prog w "internal/strconv.uint64pow10" .u64 Lib.pow10Tab) :
  CR 259 #[rfV a] w (.string ⟨(cw a).toArray⟩):=by
 obtain ⟨s,r,c,fr,fc⟩:=a;simp only at h0 h1;unfold cw;simp only;show Calls _ _ #[.agg #[.string s,.int .i64 r,.int .i64 c,.bool fr,.bool fc]] _ _
 have TB:=Lib.tabBelow_of_tabIs htab;clear htab;have F1:=λw=>zFD fc w
 have F2:=λw=>zFD fr w
 have l0:=zNJ fc;have l3:=zNJ fr;have l1:=Wpl.colS_len c;have l2:=Wpl.dd_len (r+1).toNat (by omega);have CC:=λw=>zOK c w
 have II:=λw ht=>zGG (r+1) w (by omega) (by omega) ht
 rw [zF9 (show 0<=r+1 by omega)] at II;generalize fx fc=u at *;generalize fx fr=v at *;generalize Wpl.colS c=x at *;generalize Lib.decDigits (r+1).toNat=y at *;have hw:IntKind.i64.wrap (r+1)=r+1:=IntWalk.i64_in _ (by omega);have lx1:¬ 9223372036854775807<u.length+x.length:=by omega
 have lx2:¬ 9223372036854775807<u.length+x.length+v.length:=by omega
 have lx3:¬ 9223372036854775807<u.length+x.length+v.length+y.length:=by omega
 have hS0:=(AtL.new0 w 100 [.string s,.int .i64 r,.int .i64 c,.bool fr,.bool fc]).f5;have hB:=zAH (Below.refl _ w) (.cells #[.string s,.int .i64 r,.int .i64 c,.bool fr,.bool fc] 100);go_enter func259,ntmps259;go_upto_region 1 with fail
 go_region_held3 (λW=>W.cell? ⟨w.heap.size,0,none⟩=some (.string s)/\W.cell? ⟨w.heap.size,1,none⟩=some (.int .i64 r)/\W.cell? ⟨w.heap.size,2,none⟩=some (.int .i64 c)/\W.cell? ⟨w.heap.size,3,none⟩=some (.bool fr)/\W.cell? ⟨w.heap.size,4,none⟩=some (.bool fc))
  (with_reducible first | exact hS0 | assumption | exact zKI hS0 | exact zDg hb (by assumption))
  (first
  | (go_at_call 263;refine (F1 _).mono ?_;rintro e w4 ⟨rfl,hb⟩;(with_reducible first | replace hB:=zAA hB.drew hb | replace hB:=zAA hB hb))
  | (go_at_call 263;refine (F2 _).mono ?_;rintro e w4 ⟨rfl,hb⟩;(with_reducible first | replace hB:=zAA hB.drew hb | replace hB:=zAA hB hb))
  | (go_at_call 264;refine (CC _).mono ?_;rintro e w4 ⟨rfl,hb⟩;(with_reducible first | replace hB:=zAA hB.drew hb | replace hB:=zAA hB hb))
  | (go_at_call 265;refine (II _ ((TB.on (by with_reducible first | exact hB | exact hB.drew)).here)).mono ?_;rintro e w4 ⟨rfl,hb⟩;(with_reducible first | replace hB:=zAA hB.drew hb | replace hB:=zAA hB hb)))
 all_goals
  go_wp2;go_ret;refine ⟨?_,hB⟩;refine congrArg (λx=>Ending.returned (Value.string x)) ?_;rw [zBs,zBs,zBs]
end Go.Proofs.YtedifblompcdkaaGreatDoor
namespace Wpl
def isL (c:UInt8):Bool:=decide (65<=c.toNat/\c.toNat<=90)
def isG (c:UInt8):Bool:=decide (48<=c.toNat/\c.toNat<=57)
def rc:Nat->List UInt8->Nat × List UInt8
 | k,[]=>(k,[])
 | k,c::t=>if isL c=true/\k<=256 then rc (k * 26+(c.toNat - 65)+1) t else (k,c::t)
def rd:Nat->List UInt8->Nat × List UInt8
 | k,[]=>(k,[])
 | k,c::t=>if isG c=true/\k<=65536 then rd (k * 10+(c.toNat - 48)) t else (k,c::t)
def rr (l:List UInt8):Nat × List UInt8:=if l.head? = some 48 then (0,l) else rd 0 l
def rdOk (l:List UInt8):Bool:=decide ((rr (rc 0 l).2).2=[]/\1<=(rr (rc 0 l).2).1/\(rr (rc 0 l).2).1<=65536/\1<=(rc 0 l).1/\(rc 0 l).1<=256)
def rdR (l:List UInt8):Int:=if rdOk l then ((rr (rc 0 l).2).1:Int) - 1 else 0
def rdC (l:List UInt8):Int:=if rdOk l then ((rc 0 l).1:Int) - 1 else 0
theorem rc_len (k:Nat) (l:List UInt8):(rc k l).2.length<=l.length:=by
 induction l generalizing k with
 | nil=>simp [rc]
 | cons c t ih =>
  unfold rc;split
  ·have:=ih (k * 26+(c.toNat - 65)+1);simp;omega
  ·simp
theorem rc_bd (k:Nat) (l:List UInt8) (h:k<=6682):(rc k l).1<=6682:=by
 induction l generalizing k with
 | nil=>simpa [rc] using h
 | cons c t ih =>
  unfold rc;split
  ·rename_i hh
   have hc:=hh.1;simp only [isL,decide_eq_true_eq] at hc;exact ih _ (by omega)
  ·exact h
theorem zOl (k:Nat) (l:List UInt8) (h:k<=655369):(rd k l).1<=655369:=by
 induction l generalizing k with
 | nil=>simpa [rd] using h
 | cons c t ih =>
  unfold rd;split
  ·rename_i hh
   have hc:=hh.1;simp only [isG,decide_eq_true_eq] at hc;exact ih _ (by omega)
  ·exact h
theorem rr_bd (l:List UInt8):(rr l).1<=655369:=by
 unfold rr;split
 ·simp
 ·exact zOl 0 l (by omega)
end Wpl
