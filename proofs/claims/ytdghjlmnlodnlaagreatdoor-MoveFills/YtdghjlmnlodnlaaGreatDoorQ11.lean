/- WalkRr, VWalkE, TLit, TLitB, PWalkB, NPlain, NWalkA, NWalkB, NWalkI, PWalkS, NWalkC. -/
import Derived.Test.YtdghjlmnlodnlaaGreatDoorQ10
import Derived.Lib.ItoaNum
import Derived.Lib.ItoaLen
import Derived.Lib.Slices
import Derived.Laws.IdiomStrings
import Derived.Shelf.Strconv.Itoa3
import Derived.Lib.AppendIntMem
set_option maxHeartbeats 4000000
set_option maxRecDepth 100000
set_option linter.unusedVariables false
namespace Go.Proofs.YtdghjlmnlodnlaaGreatDoor
open Tryz
open Go.RowKit
variable {ka kb:Nat} {k p:Int} {x:List UInt8} {W:World}
theorem zNx (s:ByteArray) (h:0<s.size):((s.extract 0 1).toList == [(45:UInt8)])=decide (Wnum.bt s 0=45):=by
 rw [ByteArray.toList_eq];obtain ⟨⟨l⟩⟩:=s;cases l with
 | nil=>exact absurd h (Nat.lt_irrefl 0)
 | cons b l =>
  have e:((ByteArray.mk ⟨b::l⟩).extract 0 1).data.toList=[b]:=by simp
  rw [e];have e2:Wnum.bt (ByteArray.mk ⟨b::l⟩) 0=(b.toNat:Int):=rfl;rw [e2];by_cases hb:b=45
  ·subst hb;rfl
  ·have h1:([b] == [(45:UInt8)])=false:=by simp [hb]
   have h2:¬ ((b.toNat:Nat):Int)=45:=λx=>hb (UInt8.toNat_inj.1 (by
     have:b.toNat=45:=by omega
     rw [this];rfl))
   rw [h1,decide_eq_false h2]
theorem zO5 (s:ByteArray) (w:World) (hs:s.size<=9223372036854775807) :
  Calls prog 18 #[.string s,.string ⟨#[45]⟩] w λe w'=>e=.returned (.tuple #[.string (Wnum.body s),.bool (Wnum.minusB s)])/\w=w':=by
 by_cases h0:0<s.size
 ·have hx:=zNx s h0;by_cases hc:Wnum.bt s 0=45
  ·have m:Wnum.minusB s=true:=decide_eq_true ⟨h0,hc⟩;have e:Wnum.body s=s.extract 1 s.size:=by unfold Wnum.body;rw [m];rfl
   rw [m,e];rw [decide_eq_true hc] at hx;have h1:(1:Int)<=(s.size:Int):=by omega
   clear m e hc;go_enter func18,ntmps18;go_wp2;go_ret2
   exact ⟨rfl,rfl⟩
  ·have m:Wnum.minusB s=false:=decide_eq_false (λx=>hc x.2);have e:Wnum.body s=s:=by unfold Wnum.body;rw [m];rfl
   rw [m,e];rw [decide_eq_false hc] at hx;have h1:(1:Int)<=(s.size:Int):=by omega
   clear m e hc;go_enter func18,ntmps18;go_wp2;go_ret2
   exact ⟨rfl,rfl⟩
 ·have m:Wnum.minusB s=false:=decide_eq_false (λx=>h0 x.1);have e:Wnum.body s=s:=by unfold Wnum.body;rw [m];rfl
  rw [m,e];have h1:decide ((1:Int)<=(s.size:Int))=false:=decide_eq_false (by omega);clear m e;go_enter func18,ntmps18;go_wp2;go_ret2
  exact ⟨rfl,rfl⟩
theorem zHM (s:ByteArray) (w:World) (hs:s.size<=9223372036854775807) :
  CR 184 #[.string s] w (.tuple #[.agg #[.int .i64 (Wnum.oN (Wnum.rdO s)),.int .i64 (Wnum.oD (Wnum.rdO s))],.bool (Wnum.oB (Wnum.rdO s))]):=by
 have C:=λw=>zO5 s w hs
 have hbs:(Wnum.body s).size<=9223372036854775807:=by have:=(Wnum.body_facts s).1;omega
 have R:=λw=>zDJ (Wnum.body s) w hbs
 obtain ⟨b1,b2,b3,b4⟩:=Wnum.f_bd (Wnum.body s);cases hf:Wnum.fB (Wnum.body s) with
 | false =>
  have e:Wnum.rdO s=none:=by unfold Wnum.rdO;rw [hf];rfl
  rw [e];rw [hf,(Wnum.f_false hf).1,(Wnum.f_false hf).2] at R;clear e hf b1 b2 b3 b4 hbs;generalize Wnum.body s=t at *;generalize Wnum.minusB s=m at *;go_enter func184,ntmps184;go_wp2_with fail
  refine (C _).mono ?_;rintro e w1 ⟨rfl,rfl⟩;go_wp2_with fail
  refine (R _).mono ?_;rintro e w1 ⟨rfl,k1,rfl⟩;go_wp2;refine bodyPost_ret (v:=.tuple #[.agg #[.int .i64 0,.int .i64 0],.bool false]) (by simp [results,results184,go_sem]) rfl ⟨rfl,?_⟩;exact clA
 | true =>
  have e:Wnum.rdO s=Wnum.mk (Wnum.sgnd (Wnum.minusB s) (Wnum.fN (Wnum.body s))) (Wnum.fD (Wnum.body s)):=by unfold Wnum.rdO;rw [hf];rfl
  rw [e];rw [hf] at R;clear e hf hbs;generalize Wnum.fN (Wnum.body s)=n at *;generalize Wnum.fD (Wnum.body s)=d at *;generalize Wnum.body s=t at *;cases hm:Wnum.minusB s with
  | false =>
   rw [hm] at C;have M:=λw=>zFU n d w (by omega) (by omega) (by omega) (by omega)
   rw [show Wnum.sgnd false n=n from rfl];generalize Wnum.mk n d=o at *;clear hm;go_enter func184,ntmps184;go_wp2_with fail
   refine (C _).mono ?_;rintro e w1 ⟨rfl,rfl⟩;go_wp2_with fail
   refine (R _).mono ?_;rintro e w1 ⟨rfl,k1,rfl⟩;go_wp2_with fail
   refine (M _).mono ?_;rintro e w2 ⟨rfl,hb2⟩;have pC:At w2 w.heap.size (.int .i64 0) (.int .i64 0):=At.below hb2 (At.drewN (At.new w _ rfl _ _) _);have hB:Below w.heap.size w w2:=zAA (zAG ((Below.refl _ w).alloc (Nat.le_refl _) _) _) hb2;obtain ⟨c1,c2,c3,c4⟩:=pC;go_wp2;refine bodyPost_ret (v:=.tuple #[.agg #[.int .i64 (Wnum.oN o),.int .i64 (Wnum.oD o)],.bool (Wnum.oB o)]) (by simp [results,results184,go_sem,c1,c2]) rfl ⟨rfl,?_⟩;exact zAW hB (by omega) _ _
  | true =>
   rw [hm] at C;have M:=λw=>zFU (-n) d w (by omega) (by omega) (by omega) (by omega)
   rw [show Wnum.sgnd true n = -n from rfl];generalize Wnum.mk (-n) d=o at *;clear hm;go_enter func184,ntmps184;go_wp2_with fail
   refine (C _).mono ?_;rintro e w1 ⟨rfl,rfl⟩;go_wp2_with fail
   refine (R _).mono ?_;rintro e w1 ⟨rfl,k1,rfl⟩;go_wp2_with fail
   refine (M _).mono ?_;rintro e w2 ⟨rfl,hb2⟩;have pC:At w2 w.heap.size (.int .i64 0) (.int .i64 0):=At.below hb2 (At.drewN (At.new w _ rfl _ _) _);have hB:Below w.heap.size w w2:=zAA (zAG ((Below.refl _ w).alloc (Nat.le_refl _) _) _) hb2;obtain ⟨c1,c2,c3,c4⟩:=pC;go_wp2;refine bodyPost_ret (v:=.tuple #[.agg #[.int .i64 (Wnum.oN o),.int .i64 (Wnum.oD o)],.bool (Wnum.oB o)]) (by simp [results,results184,go_sem,c1,c2]) rfl ⟨rfl,?_⟩;exact zAW hB (by omega) _ _
def fNames:List (List UInt8):=[[],[35,68,73,86,47,48,33],[35,86,65,76,85,69,33],[35,82,69,70,33],[35,78,85,77,33],[35,78,47,65],[35,67,73,82,67,76,69,33],[35,76,79,78,71,33],[35,65,82,71,33]]
def fltR:List Value:=fNames.map λx=>.string ⟨x.toArray⟩
def FltAt (w:World):Prop:=w.rangeAt 1 0 fltR
theorem FltAt.below {w w':World} (h:FltAt w) (hb:Below w.heap.size w w'):FltAt w':=λj v hv=>zAM hb (h j v hv)
theorem zKr:∀ (j:Nat) (h:j<fNames.length) (w:World),(Instr.index 190 (.agg fltR.toArray) (.int .i64 (j:Int))).run prog w=.ok (.string ⟨(fNames[j]).toArray⟩) w
 | 0,_,w=>by kernel_rfl
 | 1,_,w=>by kernel_rfl
 | 2,_,w=>by kernel_rfl
 | 3,_,w=>by kernel_rfl
 | 4,_,w=>by kernel_rfl
 | 5,_,w=>by kernel_rfl
 | 6,_,w=>by kernel_rfl
 | 7,_,w=>by kernel_rfl
 | 8,_,w=>by kernel_rfl
 | j+9,h,w=>absurd h (by show ¬ j+9<9;omega)
def fi (s:List UInt8):Nat->List (List UInt8)->Nat
 | _,[]=>0
 | j,n::r=>if n=s then j else fi s (j+1) r
theorem zEk (s:ByteArray) (w:World) (hF:FltAt w):Calls prog 188 #[.string s] w λe w'=>e=.returned (.int .i64 (fi s.toList 0 fNames:Nat))/\w=w':=by
 obtain ⟨R,hR⟩:∃ R,fi s.toList 0 fNames=R:=⟨_,rfl⟩
 have E0:Hid (R=fi s.toList 0 (fNames.drop 0)):=hR.symm;rw [hR];clear hR;have hF2:World.rangeAt w 1 0 fltR:=hF;go_enter func188,ntmps188;go_upto_region 1 with fail
 go_wp2_with ((with_reducible refine wpList_load_mid (cs:=fltR) ?_ 190 (.global 1) ?_ 1 0 ?_ _ hF2 underlying190 ?_ ?_ ?_);rfl;rfl;rfl;rfl;kernel_rfl)
 go_loopg [6] 9 (λgk x wr=>∃ j:Nat,x=.int .i64 j/\gk=9 - j/\j<=9/\Hid (R=fi s.toList j (fNames.drop j))/\wr=w)
 case atStart=>exact ⟨0,rfl,rfl,Nat.zero_le _,E0,rfl⟩
 case round =>
  obtain ⟨j,rfl,hg,hj,HR,rfl⟩:=hrel;by_cases hlt:j<9
  ·have hli:(j:Int)<9:=by omega
   have hix:=zKr j hlt;have hd:=List.drop_eq_getElem_cons (l:=fNames) hlt;generalize fNames[j]=x at *;rw [hd] at HR;clear hd;by_cases hm:x=s.toList
   ·have E:Hid (R=j):=by show _=_;rw [HR.out,fi,if_pos hm]
    subst hm;clear HR;go_wp2;go_ret;exact ⟨by rw [E.out];rfl,rfl⟩
   ·have hm4:(x == s.toList)=false:=by simp [hm]
    have E:Hid (R=fi s.toList (j+1) (fNames.drop (j+1))):=by show _=_;rw [HR.out,fi,if_neg hm]
    clear HR;go_wp2_with fail
    go_roundg (9 - (j+1))
    case rel=>exact ⟨j+1,by simp,rfl,hlt,E,by first | trivial | rfl⟩
    case measure=>omega
  ·have hli:¬ (j:Int)<9:=by omega
   have E:Hid (R=0):=by
    show _=_
    rw [HR.out,List.drop_eq_nil_of_le (by show 9<=j;omega)];rfl
   clear HR;go_wp2;go_ret;exact ⟨by rw [E.out];rfl,rfl⟩
theorem zEF (s:ByteArray) (w:World) (h1:¬ s.toList=[84,82,85,69]) (h2:¬ s.toList=[70,65,76,83,69]):Calls prog 186 #[.string s] w λe w'=>e=.returned (.tuple #[.bool false,.bool false])/\w=w':=by
 have h1':(s.toList == [84,82,85,69])=false:=by simp [h1]
 have h2':(s.toList == [70,65,76,83,69])=false:=by simp [h2]
 go_enter func186,ntmps186;go_wp2;go_ret2
 exact ⟨rfl,rfl⟩
theorem zJV (s:ByteArray) (w:World) (h0:0<s.size) (hx:((s.extract 0 1).toList == [39])=false) :
  Calls prog 18 #[.string s,.string ⟨#[39]⟩] w λe w'=>e=.returned (.tuple #[.string s,.bool false])/\w=w':=by
 have h1:(1:Int)<=(s.size:Int):=by omega
 go_enter func18,ntmps18;go_wp2;go_ret2
 exact ⟨rfl,rfl⟩
theorem zLq (s:ByteArray) (c:Nat) (w:World) (hF:FltAt w) (h0:0<s.size) (hs:s.size<=1024) (hx:((s.extract 0 1).toList == [39])=false) (hr:Wnum.rdO s=none) (h1:¬ s.toList=[84,82,85,69]) (h2:¬ s.toList=[70,65,76,83,69]) (hc:fi s.toList 0 fNames=c) (hc1:1<=c) (hc8:c<=8) :
  CR 166 #[.string s] w (vlV ⟨4,0,0,⟨#[]⟩,false,c⟩):=by
 have hne:s.toList.isEmpty=false:=zEv (λe=>by subst e;exact absurd h0 (by decide));have C1:=λw=>zJV s w h0 hx
 have C2:=λw=>zHM s w (by omega)
 rw [hr] at C2;have C3:=λw=>zEF s w h1 h2
 have C4:=λw h=>zEk s w h
 rw [hc] at C4;have C5:=λw=>zBU (c:Int) w
 have e5:zC9 (c:Int)=⟨4,0,0,⟨#[]⟩,false,c⟩:=by
  unfold zC9 Wv.flt;rw [decide_eq_true (by omega),decide_eq_true (by omega)];rfl
 rw [e5] at C5;clear e5 hx hr hc;simp only [vlV,vl6] at C5;have eo:Wnum.oB (none:Option Rat)=false:=rfl;have en:Wnum.oN (none:Option Rat)=0:=rfl;have ed:Wnum.oD (none:Option Rat)=0:=rfl;rw [eo,en,ed] at C2;have hcn:((c:Int) == 0)=false:=by rw [beq_eq_false_iff_ne];omega
 have pR:=vlz w;have hB0:=zAI (Below.refl _ w) (.cells zV0 26);have hF0:=hF.below hB0;go_enter func166,ntmps166;go_wp2_with fail
 refine (C1 _).mono ?_;rintro e w1 ⟨rfl,rfl⟩;go_wp2_with fail
 refine (C2 _).mono ?_;rintro e w2 ⟨rfl,hb⟩;have pR1:=AtL.below hb pR;have hB1:=zAA hB0 hb;have hF1:=hF0.below hb;clear pR hB0 hF0 hb;go_wp2_with fail
 refine (C3 _).mono ?_;rintro e w3 ⟨rfl,rfl⟩;have hF2:=hF1.below ((Below.refl _ _).alloc (Nat.le_refl _) (.cells #[.int .i64 0,.int .i64 0] 24));go_wp2_with fail
 refine (C4 _ hF2).mono ?_;rintro e w3 ⟨rfl,rfl⟩;go_wp2_with fail
 refine (C5 _).mono ?_;rintro e w4 ⟨rfl,hb⟩;have pR2:=AtL.below hb (AtL.alloc pR1 _);have hB2:=zAA (zAI hB1 _) hb;obtain ⟨c0,c1,c2,c3,c4,c5⟩:=pR2.f6;have g0:=pR2.2.2 0 (by decide);have g1:=pR2.2.2 1 (by decide);have g2:=pR2.2.2 2 (by decide);have g3:=pR2.2.2 3 (by decide);have g4:=pR2.2.2 4 (by decide);have g5:=pR2.2.2 5 (by decide);go_wp2;refine bodyPost_ret (v:=vlV ⟨4,0,0,⟨#[]⟩,false,c⟩) (by simp [results,results166,go_sem,vlV,vl6, *]) rfl ⟨rfl,?_⟩;exact (clB hB2)
def zJt (t:Wlx.TV):Option Wt.Vl :=
 if t.k=1 then (if Wnum.oB (Wnum.rdO ⟨t.t.toArray⟩)=true then some (zIR (Wnum.oN (Wnum.rdO ⟨t.t.toArray⟩)) (Wnum.oD (Wnum.rdO ⟨t.t.toArray⟩))) else none)
 else if t.k=2 then (if t.t.length<=256 then some (zCZ ⟨t.t.toArray⟩) else none)
 else if t.k=4 then some ⟨4,0,0,⟨#[]⟩,false,(fi t.t 0 fNames:Nat)⟩
 else none
def zAP (t:Wlx.TV):Prop:=t.t.length<=1024/\(t.k=4->∃ i,∃ h:i<9,1<=i/\t.t=fNames[i]'h)
def zDk (t:Wlx.TV) (e:Ending):Prop:=∃ v ok,e=.returned (.tuple #[vlV v,.bool ok])/\zJt t=if ok then some v else none
theorem zBw (b:UInt8) (l:List UInt8) (c:Nat) (w:World) (hF:FltAt w) (hs:l.length<1024) (hb:(b == 39)=false) (hr:Wnum.rdO ⟨(b::l).toArray⟩=none) (h1:¬ b::l=[84,82,85,69]) (h2:¬ b::l=[70,65,76,83,69]) (hc:fi (b::l) 0 fNames=c) (hc1:1<=c) (hc8:c<=8) :
  CR 166 #[.string ⟨(b::l).toArray⟩] w (vlV ⟨4,0,0,⟨#[]⟩,false,((fi (b::l) 0 fNames:Nat):Int)⟩):=by
 have e:(⟨(b::l).toArray⟩:ByteArray).toList=b::l:=by rw [ByteArray.toList_eq]
 have e2:((⟨(b::l).toArray⟩:ByteArray).extract 0 1).toList=[b]:=by rw [ByteArray.toList_eq];simp
 rw [hc];exact zLq ⟨(b::l).toArray⟩ c w hF (by show 0<(b::l).length;simp) (by show (b::l).length<=1024;simp;omega) (by rw [e2];simpa using hb) hr (by rw [e];exact h1) (by rw [e];exact h2) (by rw [e];exact hc) hc1 hc8
theorem zJM:∀ (i:Nat) (h:i<9),1<=i->∀ (w:World),FltAt w->CR 166 #[.string ⟨(fNames[i]'h).toArray⟩] w (vlV ⟨4,0,0,⟨#[]⟩,false,((fi (fNames[i]'h) 0 fNames:Nat):Int)⟩)
 | 0,_,h,_,_=>absurd h (by decide)
 | 1,_,_,w,hF=>zBw 35 [68,73,86,47,48,33] 1 w hF (by decide) (by decide) (by decide +kernel) (by decide) (by decide) (by decide) (by decide) (by decide)
 | 2,_,_,w,hF=>zBw 35 [86,65,76,85,69,33] 2 w hF (by decide) (by decide) (by decide +kernel) (by decide) (by decide) (by decide) (by decide) (by decide)
 | 3,_,_,w,hF=>zBw 35 [82,69,70,33] 3 w hF (by decide) (by decide) (by decide +kernel) (by decide) (by decide) (by decide) (by decide) (by decide)
 | 4,_,_,w,hF=>zBw 35 [78,85,77,33] 4 w hF (by decide) (by decide) (by decide +kernel) (by decide) (by decide) (by decide) (by decide) (by decide)
 | 5,_,_,w,hF=>zBw 35 [78,47,65] 5 w hF (by decide) (by decide) (by decide +kernel) (by decide) (by decide) (by decide) (by decide) (by decide)
 | 6,_,_,w,hF=>zBw 35 [67,73,82,67,76,69,33] 6 w hF (by decide) (by decide) (by decide +kernel) (by decide) (by decide) (by decide) (by decide) (by decide)
 | 7,_,_,w,hF=>zBw 35 [76,79,78,71,33] 7 w hF (by decide) (by decide) (by decide +kernel) (by decide) (by decide) (by decide) (by decide) (by decide)
 | 8,_,_,w,hF=>zBw 35 [65,82,71,33] 8 w hF (by decide) (by decide) (by decide +kernel) (by decide) (by decide) (by decide) (by decide) (by decide)
 | j+9,h,_,_,_=>absurd h (by omega)
theorem zJx (s:ByteArray):(-9223372036854775808<=Wnum.oN (Wnum.rdO s)/\Wnum.oN (Wnum.rdO s)<=9223372036854775807)/\(-9223372036854775808<=Wnum.oD (Wnum.rdO s)/\Wnum.oD (Wnum.rdO s)<=9223372036854775807):=by
 cases Wnum.rdO s with
 | none=>exact ⟨⟨by decide,by decide⟩,by decide,by decide⟩
 | some r =>
  simp only [Wnum.oN,Wnum.oD];by_cases h:Wnum.okQ r=true
  ·rw [if_pos h,if_pos h];have:=of_decide_eq_true h;omega
  ·rw [if_neg h,if_neg h];omega
abbrev LvS (ka kb:Nat) (k:Int) (x:List UInt8) (p:Int) (W:World):Prop :=
 W.cell? ⟨ka,0,none⟩=some (.int .i64 k)/\W.cell? ⟨ka,1,none⟩=some (.string ⟨x.toArray⟩)/\W.cell? ⟨ka,2,none⟩=some (.int .i64 p)/\W.frozen? ⟨kb,0,none⟩=false/\W.frozen? ⟨kb,1,none⟩=false/\W.frozen? ⟨kb,2,none⟩=false/\W.frozen? ⟨kb,3,none⟩=false/\W.frozen? ⟨kb,4,none⟩=false/\W.frozen? ⟨kb,5,none⟩=false
theorem zJ6 {us:List Value} (h0:AtL W ka [.int .i64 k,.string ⟨x.toArray⟩,.int .i64 p]) (h1:AtL W kb us) (hl:us.length=6):LvS ka kb k x p W :=
 ⟨h0.2.1 0 _ rfl,h0.2.1 1 _ rfl,h0.2.1 2 _ rfl,h1.2.2 0 (by omega),h1.2.2 1 (by omega),h1.2.2 2 (by omega),h1.2.2 3 (by omega),h1.2.2 4 (by omega),h1.2.2 5 (by omega)⟩
theorem zCx (h:LvS ka kb k x p W) (hne:kb ≠ ka) (j:Nat) (u:Value):LvS ka kb k x p (W.setCell ⟨kb,j,none⟩ u):=by
 obtain ⟨h0,h1,h2,g0,g1,g2,g3,g4,g5⟩:=h;refine ⟨?_,?_,?_,?_,?_,?_,?_,?_,?_⟩;any_goals rw [World.cell?_setCell_far _ _ _ _ (by simpa using hne)];assumption
 all_goals rw [World.frozen?_setCell];assumption
theorem zM7 (t:Wlx.TV) (w:World) (hF:FltAt w) (ht:zAP t):Calls prog 198 #[tkV t] w λe w'=>zDk t e/\Below w.heap.size w w':=by
 obtain ⟨k,x,p⟩:=t;obtain ⟨hx,h4⟩:=ht;simp only at hx h4;have hxs:(⟨x.toArray⟩:ByteArray).size=x.length:=rfl;show Calls _ _ #[.agg #[.int .i64 k,.string ⟨x.toArray⟩,.int .i64 p]] _ _
 have pA:=(AtL.new0 w 107 [.int .i64 k,.string ⟨x.toArray⟩,.int .i64 p]).alloc (.cells zV0 26);have pR:=vlz (w.alloc (.cells #[.int .i64 k,.string ⟨x.toArray⟩,.int .i64 p] 107));simp only [World.size_alloc] at pR;have hB0:=zAI (zAI (Below.refl _ w) (.cells #[.int .i64 k,.string ⟨x.toArray⟩,.int .i64 p] 107)) (.cells zV0 26);have hF0:=hF.below hB0;by_cases h1:k=1
 ·subst h1;have C1:=λw=>zHM ⟨x.toArray⟩ w (by omega)
  have bd:∀ q:Option Rat,q=Wnum.rdO ⟨x.toArray⟩->(-9223372036854775808<=Wnum.oN q/\Wnum.oN q<=9223372036854775807)/\(-9223372036854775808<=Wnum.oD q/\Wnum.oD q<=9223372036854775807):=by
   intro q hq;subst hq;exact zJx _
  obtain ⟨⟨b1,b2⟩,b3,b4⟩:=bd _ rfl;have C2:=λw=>zMK (Wnum.oN (Wnum.rdO ⟨x.toArray⟩)) (Wnum.oD (Wnum.rdO ⟨x.toArray⟩)) w b1 b2 b3 b4
  have hp:zDk ⟨1,x,p⟩ (.returned (.tuple #[vlV (zIR (Wnum.oN (Wnum.rdO ⟨x.toArray⟩)) (Wnum.oD (Wnum.rdO ⟨x.toArray⟩))),.bool (Wnum.oB (Wnum.rdO ⟨x.toArray⟩))])):=by
   refine ⟨_,_,rfl,?_⟩;unfold zJt;rw [if_pos rfl]
  generalize zIR (Wnum.oN (Wnum.rdO ⟨x.toArray⟩)) (Wnum.oD (Wnum.rdO ⟨x.toArray⟩))=V at *;generalize Wnum.oN (Wnum.rdO ⟨x.toArray⟩)=qn at *;generalize Wnum.oD (Wnum.rdO ⟨x.toArray⟩)=qd at *;generalize Wnum.oB (Wnum.rdO ⟨x.toArray⟩)=qb at *;clear bd b1 b2 b3 b4;obtain ⟨v1,v2,v3,v4,v5,v6⟩:=V;simp only [vlV,vl6] at C2;go_enter func198,ntmps198;go_wp2_with fail
  refine (C1 _).mono ?_;rintro e w1 ⟨rfl,hb⟩;have pR1:=AtL.below hb pR;have hB1:=zAA hB0 hb;clear pA pR hB0 hb;go_wp2_with fail
  refine (C2 _).mono ?_;rintro e w2 ⟨rfl,hb⟩;have pR2:=AtL.below hb (AtL.alloc pR1 _);have hB2:=zAA (zAI hB1 _) hb;clear pR1 hB1 hb;obtain ⟨c0,c1,c2,c3,c4,c5⟩:=pR2.f6;have g0:=pR2.2.2 0 (by decide);have g1:=pR2.2.2 1 (by decide);have g2:=pR2.2.2 2 (by decide);have g3:=pR2.2.2 3 (by decide);have g4:=pR2.2.2 4 (by decide);have g5:=pR2.2.2 5 (by decide);go_wp2;refine bodyPost_ret (v:=.tuple #[vlV ⟨v1,v2,v3,v4,v5,v6⟩,.bool qb]) (by simp [results,results198,go_sem,vlV,vl6,c0,c1,c2,c3,c4,c5]) rfl ⟨hp,?_⟩;exact (clB hB2)
 by_cases h2:k=2
 ·subst h2;have C1:=λw=>zIr ⟨x.toArray⟩ w (by omega)
  have hp:zDk ⟨2,x,p⟩ (.returned (.tuple #[vlV (zCZ ⟨x.toArray⟩),.bool (decide ((x.length:Int)<=256))])):=by
   refine ⟨_,_,rfl,?_⟩;unfold zJt;rw [if_neg h1,if_pos rfl];by_cases hl:x.length<=256
   ·simp only;rw [if_pos hl,decide_eq_true (by omega)];rfl
   ·simp only;rw [if_neg hl,decide_eq_false (by omega)];rfl
  generalize zCZ ⟨x.toArray⟩=V at *;obtain ⟨v1,v2,v3,v4,v5,v6⟩:=V;simp only [vlV,vl6] at C1;have hS:=zJ6 pA pR rfl;go_enter func198,ntmps198;go_upto_region 6 with fail
  go_region_held3 (LvS w.heap.size (w.heap.size+1) 2 x p)
   (with_reducible first | exact hS | assumption | exact zJ6 pA1 pR1 rfl | exact (zCx (zCx (zCx (zCx (zCx (zCx (by assumption) (by omega) _ _) (by omega) _ _) (by omega) _ _) (by omega) _ _) (by omega) _ _) (by omega) _ _) | exact zJ6 (AtL.drew pA) (AtL.drew pR) rfl)
   (first | (go_at_call 183;refine (C1 _).mono ?_;rintro e w1 ⟨rfl,hb⟩;have pA1:=AtL.below hb (AtL.drew pA);have pR1:=AtL.below hb (AtL.drew pR);obtain ⟨c0,c1,c2,c3,c4,c5⟩:=pR1.f6;have hB1:=zAA hB0.drew hb))
  all_goals
   have pR2:AtL ((((((w1.setCell ⟨w.heap.size+1,0,none⟩ (.int .i64 v1)).setCell ⟨w.heap.size+1,1,none⟩ (.int .i64 v2)).setCell ⟨w.heap.size+1,2,none⟩ (.int .i64 v3)).setCell ⟨w.heap.size+1,3,none⟩ (.string v4)).setCell ⟨w.heap.size+1,4,none⟩ (.bool v5)).setCell ⟨w.heap.size+1,5,none⟩ (.int .i64 v6)) (w.heap.size+1) [.int .i64 v1,.int .i64 v2,.int .i64 v3,.string v4,.bool v5,.int .i64 v6]:=(((((pR1.set 0 _).set 1 _).set 2 _).set 3 _).set 4 _).set 5 _;have hB2:Below w.heap.size w ((((((w1.setCell ⟨w.heap.size+1,0,none⟩ (.int .i64 v1)).setCell ⟨w.heap.size+1,1,none⟩ (.int .i64 v2)).setCell ⟨w.heap.size+1,2,none⟩ (.int .i64 v3)).setCell ⟨w.heap.size+1,3,none⟩ (.string v4)).setCell ⟨w.heap.size+1,4,none⟩ (.bool v5)).setCell ⟨w.heap.size+1,5,none⟩ (.int .i64 v6)):=(clB hB1)
   generalize ((((((w1.setCell ⟨w.heap.size+1,0,none⟩ (.int .i64 v1)).setCell ⟨w.heap.size+1,1,none⟩ (.int .i64 v2)).setCell ⟨w.heap.size+1,2,none⟩ (.int .i64 v3)).setCell ⟨w.heap.size+1,3,none⟩ (.string v4)).setCell ⟨w.heap.size+1,4,none⟩ (.bool v5)).setCell ⟨w.heap.size+1,5,none⟩ (.int .i64 v6))=W2 at *;clear c0 c1 c2 c3 c4 c5;obtain ⟨c0,c1,c2,c3,c4,c5⟩:=pR2.f6;go_wp2;refine bodyPost_ret (v:=.tuple #[vlV ⟨v1,v2,v3,v4,v5,v6⟩,.bool (decide ((x.length:Int)<=256))]) (by simp [results,results198,go_sem,vlV,vl6,c0,c1,c2,c3,c4,c5]) rfl ⟨hp,hB2⟩
 by_cases h4k:k=4
 ·subst h4k;obtain ⟨i,hi,hi1,hxi⟩:=h4 rfl;have C1:=λw h=>zJM i hi hi1 w h
  rw [<-hxi] at C1;clear hxi h4;have hp:zDk ⟨4,x,p⟩ (.returned (.tuple #[vlV ⟨4,0,0,⟨#[]⟩,false,((fi x 0 fNames:Nat):Int)⟩,.bool true])):=⟨_,_,rfl,rfl⟩
  generalize ((fi x 0 fNames:Nat):Int)=c at *;simp only [vlV,vl6] at C1;go_enter func198,ntmps198;go_wp2_with fail
  refine (C1 _ hF0).mono ?_;rintro e w1 ⟨rfl,hb⟩;have pR2:=AtL.below hb pR;have hB2:=zAA hB0 hb;obtain ⟨c0,c1,c2,c3,c4,c5⟩:=pR2.f6;have g0:=pR2.2.2 0 (by decide);have g1:=pR2.2.2 1 (by decide);have g2:=pR2.2.2 2 (by decide);have g3:=pR2.2.2 3 (by decide);have g4:=pR2.2.2 4 (by decide);have g5:=pR2.2.2 5 (by decide);go_wp2;refine bodyPost_ret (v:=.tuple #[vlV ⟨4,0,0,⟨#[]⟩,false,c⟩,.bool true]) (by simp [results,results198,go_sem,vlV,vl6,c0,c1,c2,c3,c4,c5]) rfl ⟨hp,?_⟩;exact (clB hB2)
 have hp:zDk ⟨k,x,p⟩ (.returned (.tuple #[vlV ⟨0,0,0,⟨#[]⟩,false,0⟩,.bool false])):=by
  refine ⟨_,_,rfl,?_⟩;unfold zJt;rw [if_neg h1,if_neg h2,if_neg h4k];rfl
 have e1:(k == 1)=false:=by simp [h1]
 have e2:(k == 2)=false:=by simp [h2]
 have e4:(k == 4)=false:=by simp [h4k]
 go_enter func198,ntmps198;go_wp2;refine bodyPost_ret (v:=.tuple #[vlV ⟨0,0,0,⟨#[]⟩,false,0⟩,.bool false]) (by simp [results,results198,go_sem,vlV,vl6]) rfl ⟨hp,?_⟩;exact clA
def zSW (w:World) (blk off n:Nat) (F:Nat->Wpl.Cl):Prop :=
 ∀ j,j<n->w.cell? ⟨blk,off+j * 3,none⟩=some (.int .i64 (F j).s)/\w.cell? ⟨blk,off+j * 3+1,none⟩=some (.int .i64 (F j).r)/\w.cell? ⟨blk,off+j * 3+2,none⟩=some (.int .i64 (F j).c)
end Go.Proofs.YtdghjlmnlodnlaaGreatDoor
namespace Wpl
def colT (n:Nat):List UInt8:=if n<26 then [UInt8.ofNat (65+n)] else [UInt8.ofNat (65+(n / 26 - 1)),UInt8.ofNat (65+n % 26)]
def colS (n:Int):List UInt8:=if inB n 256 then colT n.toNat else []
theorem zLd (n:Nat):(colT n).length<=2:=by unfold colT;split <;> simp
theorem colS_len (n:Int):(colS n).length<=2:=by unfold colS;split;exact zLd _;simp
def nameS (s r c:Int):List UInt8:=if rightC s r c then colS c++Go.Lib.decDigits (r+1).toNat else []
theorem dd_len (n:Nat) (h:n<=9223372036854775807):(Go.Lib.decDigits n).length<=21:=by
 have:=Go.Lib.itoa_length_le (n:Int) (by omega) (by omega);unfold Go.Lib.itoa at this;rw [if_neg (by omega),Int.toNat_natCast] at this;exact this
def zS4 (r c:Int):List UInt8:=colS c++Go.Lib.decDigits (r+1).toNat
theorem nameS_pos {s r c:Int} (h:rightC s r c=true):nameS s r c=zS4 r c:=by unfold nameS;rw [h];rfl
theorem nameS_neg {s r c:Int} (h:rightC s r c=false):nameS s r c=[]:=by unfold nameS;rw [h];rfl
end Wpl
namespace Go.Proofs.YtdghjlmnlodnlaaGreatDoor
open Tryz
open Go.RowKit
variable {u:Nat}
theorem zI1:∀ k:Fin 26,Utf8.encode ((((⟨#[65,66,67,68,69,70,71,72,73,74,75,76,77,78,79,80,81,82,83,84,85,86,87,88,89,90]⟩:ByteArray)[k.val]'(by have:=k.isLt;exact this)).toNat:Nat):Int)=⟨#[UInt8.ofNat (65+k.val)]⟩:=by decide +kernel
theorem zEK {k:Nat} (h:k<26) (h':k<(⟨#[65,66,67,68,69,70,71,72,73,74,75,76,77,78,79,80,81,82,83,84,85,86,87,88,89,90]⟩:ByteArray).size):Utf8.encode ((((⟨#[65,66,67,68,69,70,71,72,73,74,75,76,77,78,79,80,81,82,83,84,85,86,87,88,89,90]⟩:ByteArray)[k]'h').toNat:Nat):Int)=⟨#[UInt8.ofNat (65+k)]⟩:=zI1 ⟨k,h⟩
theorem zBH (a b:List UInt8):((⟨a.toArray⟩:ByteArray)++(⟨b.toArray⟩:ByteArray))=⟨(a++b).toArray⟩:=by
 apply ByteArray.ext
 rw [ByteArray.data_append];simp
theorem zNS (c:UInt8) (b:List UInt8):((⟨#[c]⟩:ByteArray)++(⟨b.toArray⟩:ByteArray))=⟨(c::b).toArray⟩:=zBH [c] b
theorem zNz (n:Int) (w:World):CR 169 #[.int .i64 n] w (.string ⟨(Wpl.colS n).toArray⟩):=by
 have B:=λw=>zCa n 256 w
 cases h:Wpl.inB n 256 with
 | false =>
  have E:Hid (Wpl.colS n=[]):=by show _=_;unfold Wpl.colS;rw [h];rfl
  rw [h] at B;clear h;go_enter func169,ntmps169;go_wp2_with fail
  refine (B _).mono ?_;rintro e w1 ⟨rfl,rfl⟩;go_wp2;go_ret;exact ⟨by rw [E.out];rfl,clA⟩
 | true =>
  have hn:=Wpl.inB_iff.1 h;have E:Hid (Wpl.colS n=Wpl.colT n.toNat):=by show _=_;unfold Wpl.colS;rw [h];rfl
  rw [h] at B;clear h;obtain ⟨m,rfl⟩:=Int.eq_ofNat_of_zero_le hn.1;rw [Int.toNat_natCast] at E;have hm:m<256:=by omega
  go_enter func169,ntmps169;go_wp2_with fail
  refine (B _).mono ?_;rintro e w1 ⟨rfl,rfl⟩;go_wp2_with fail
  go_loopw [0,3] (λx y wr=>∃ (k:Int) (l:List UInt8),x=.int .i64 k /\ -1<=k/\k<256/\y=.string ⟨l.toArray⟩/\l.length<=2/\Hid (Wpl.colT m=(if k<0 then [] else Wpl.colT k.toNat)++l/\(0<=k->l.length=0 \/ l.length=1/\k<26))/\wr=w) (λx _ _=>(intOf x+1).toNat)
  case atStart=>exact ⟨m,[],rfl,by omega,by omega,rfl,by simp,(⟨by rw [if_neg (by omega),Int.toNat_natCast,List.append_nil],λ_=>Or.inl rfl⟩:Wpl.colT m=(if (m:Int)<0 then [] else Wpl.colT (m:Int).toNat)++[]/\_),rfl⟩
  case round =>
   obtain ⟨k,l,rfl,hk0,hk1,rfl,hl,HI,rfl⟩:=hrel;by_cases hk:0<=k
   ·obtain ⟨j,rfl⟩:=Int.eq_ofNat_of_zero_le hk;have h26':j % 26<26:=by omega
    obtain ⟨i1,i2⟩:=HI.out;rw [if_neg (by omega),Int.toNat_natCast] at i1;have i3:=i2 (by omega);have hl2:l.length<=1:=by omega
    have HI':Hid (Wpl.colT m=(if (j:Int) / 26 - 1<0 then [] else Wpl.colT ((j:Int) / 26 - 1).toNat)++(UInt8.ofNat (65+j % 26)::l)/\(0<=(j:Int) / 26 - 1->(UInt8.ofNat (65+j % 26)::l).length=0 \/ (UInt8.ofNat (65+j % 26)::l).length=1/\(j:Int) / 26 - 1<26)):=by
     refine (⟨?_,?_⟩:_/\_)
     ·rw [i1];by_cases h26:j<26
      ·rw [if_pos (by omega)];unfold Wpl.colT;rw [if_pos h26,Nat.mod_eq_of_lt h26];rfl
      ·rw [if_neg (by omega)];have e:((j:Int) / 26 - 1).toNat=j / 26 - 1:=by omega
       rw [e];unfold Wpl.colT;rw [if_neg h26,if_pos (by omega)];rfl
     ·intro h;right
      refine ⟨?_,by omega⟩;rcases i3 with h0 | ⟨_,h1⟩
      ·rw [List.length_cons,h0]
      ·omega
    clear HI i1 i2 i3;have hj:(j:Int)<256:=hk1;go_wp2_with fail
    case isTrue =>
     rename_i hx
     exfalso
     rw [zEK h26'] at hx;have:(⟨#[UInt8.ofNat (65+j % 26)]⟩:ByteArray).size=1:=rfl;omega
    go_roundw
    case rel=>exact ⟨(j:Int) / 26 - 1,UInt8.ofNat (65+j % 26)::l,rfl,by omega,by omega,by rw [zEK h26'];exact congrArg Value.string (zNS _ l),by simp;omega,HI',trivial⟩
    case measure=>simp [intOf];omega
   ·have e:Wpl.colT m=l:=by have:=HI.out.1;rw [if_pos (by omega)] at this;exact this
    have EE:Hid (Wpl.colT m=l):=e;clear e HI;go_wp2;go_ret;exact ⟨by rw [E.out,EE.out];rfl,Below.refl _ _⟩
theorem zDK (h:u<256):(((UInt8.ofNat u).toNat:Nat):Int)=(u:Int):=by
 rw [UInt8.toNat_ofNat'];have:u % 2 ^ 8=u:=Nat.mod_eq_of_lt (by omega);omega
theorem zPz (x:Int) (c:UInt8) (w:World) (hc:((c.toNat:Nat):Int)=x) :
  (convert 82 9 (.slice (some ⟨w.heap.size,0,none⟩) 1 1)).run prog (w.alloc (.cells #[.int .u8 x] 5))=.ok (.string ⟨#[c]⟩) (w.alloc (.cells #[.int .u8 x] 5)):=by
 have:=run_convert_bytes_back (P:=prog) (w.alloc (.cells #[.int .u8 x] 5)) 82 9 5 ⟨w.heap.size,0,none⟩ 1 [c] underlying82 underlying5 underlying9 (by
  intro j hj;obtain rfl:j=0:=by simp at hj;omega
  simp [Addr.add,go_sem,hc])
 exact this
theorem zQq (x y:Int) (c d:UInt8) (w:World) (hc:((c.toNat:Nat):Int)=x) (hd:((d.toNat:Nat):Int)=y) :
  (convert 82 9 (.slice (some ⟨w.heap.size,0,none⟩) 2 2)).run prog (w.alloc (.cells #[.int .u8 x,.int .u8 y] 5))=.ok (.string ⟨#[c,d]⟩) (w.alloc (.cells #[.int .u8 x,.int .u8 y] 5)):=by
 have:=run_convert_bytes_back (P:=prog) (w.alloc (.cells #[.int .u8 x,.int .u8 y] 5)) 82 9 5 ⟨w.heap.size,0,none⟩ 2 [c,d] underlying82 underlying5 underlying9 (by
  intro j hj;rcases (show j=0 \/ j=1 by simp at hj;omega) with rfl | rfl
  ·simp [Addr.add,go_sem,hc]
  ·simp [Addr.add,go_sem,hd])
 exact this
theorem zHG (n:Int) (w:World):CR 103 #[.int .i64 n] w (.string ⟨(Wpl.colS n).toArray⟩):=by
 by_cases h0:n<0
 ·have E:Hid (Wpl.colS n=[]):=by show _=_;unfold Wpl.colS;rw [Wpl.inB_not.2 (by omega)];rfl
  go_enter func103,ntmps103;go_wp2;go_ret;exact ⟨by rw [E.out];rfl,clA⟩
 by_cases h1:256<=n
 ·have E:Hid (Wpl.colS n=[]):=by show _=_;unfold Wpl.colS;rw [Wpl.inB_not.2 (by omega)];rfl
  go_enter func103,ntmps103;go_wp2;go_ret;exact ⟨by rw [E.out];rfl,clA⟩
 have E:Hid (Wpl.colS n=Wpl.colT n.toNat):=by show _=_;unfold Wpl.colS;rw [Wpl.inB_iff.2 (by omega)];rfl
 obtain ⟨m,rfl⟩:=Int.eq_ofNat_of_zero_le (show 0<=n by omega);rw [Int.toNat_natCast] at E;have h1':(m:Int)<256:=by omega
 by_cases h2:m<26
 ·obtain ⟨c,ec⟩:∃ c,c=UInt8.ofNat (65+m):=⟨_,rfl⟩
  have E2:Hid (Wpl.colS m=[c]):=by show _=_;rw [E.out,ec];unfold Wpl.colT;rw [if_pos h2]
  have hc:=zPz (65+(m:Int)) c w (by rw [ec,zDK (by omega)];omega);clear ec;have h2':(m:Int)<26:=by omega
  clear E;go_enter func103,ntmps103;go_wp2;go_ret;exact ⟨by rw [E2.out];rfl,clA⟩
 ·obtain ⟨c,ec⟩:∃ c,c=UInt8.ofNat (65+(m / 26 - 1)):=⟨_,rfl⟩
  obtain ⟨d,ed⟩:∃ d,d=UInt8.ofNat (65+m % 26):=⟨_,rfl⟩
  have E2:Hid (Wpl.colS m=[c,d]):=by show _=_;rw [E.out,ec,ed];unfold Wpl.colT;rw [if_neg h2]
  have hc:=zQq (65+(m:Int) / 26 - 1) (65+(m:Int) % 26) c d w (by rw [ec,zDK (by omega)];omega) (by rw [ed,zDK (by omega)];omega);clear ec ed;have h2':¬ (m:Int)<26:=by omega
  clear E;go_enter func103,ntmps103;go_wp2;go_ret;exact ⟨by rw [E2.out];rfl,clA⟩
theorem zGU (h:u<10):Lib.decDigits u=[UInt8.ofNat (48+u % 10)]:=by
 unfold Lib.decDigits;rw [dif_pos h,Nat.mod_eq_of_lt h]
theorem zIL (h:¬ u<10):Lib.decDigits u=Lib.decDigits (u / 10)++[UInt8.ofNat (48+u % 10)]:=by
 conv=>lhs;unfold Lib.decDigits
 rw [dif_neg h]
theorem zGW (n:Nat) (w:World) (hn:n<=1000000000) :
  CR 129 #[.int .i64 (n:Int)] w (.string ⟨(Lib.decDigits n).toArray⟩):=by
 have DL:=Wpl.dd_len n (by omega);go_enter func129,ntmps129;go_wp2;go_loopw [0,3] (λx s wr=>∃ (u:Nat) (l:List UInt8),x=.int .i64 u/\s=.string ⟨l.toArray⟩/\u<=1000000000/\Hid (Lib.decDigits n=Lib.decDigits u++l)/\Below w.heap.size w wr) (λx _ _=>(intOf x).toNat)
 case atStart=>exact ⟨n,[],rfl,rfl,hn,(by rw [List.append_nil]:Lib.decDigits n=Lib.decDigits n++[]),Below.refl _ _⟩
 case round =>
  obtain ⟨u,l,rfl,rfl,hu,HI,qB⟩:=hrel;have ll:l.length<=21:=by
   have:=congrArg List.length HI.out;rw [List.length_append] at this;omega
  obtain ⟨c,ec⟩:∃ c,c=UInt8.ofNat (48+u % 10):=⟨_,rfl⟩
  have hc:((c.toNat:Nat):Int)=48+(u:Int) % 10:=by rw [ec,zDK (by omega)];omega
  have hcv:=zPz (48+(u:Int) % 10) c wr hc;have EC:Hid (c=UInt8.ofNat (48+u % 10)):=ec;clear ec;have hB:=zOK qB (.cells #[.int .u8 (48+(u:Int) % 10)] 5);by_cases h10:u<10
  ·have E:Hid (Lib.decDigits n=c::l):=by show _=_;rw [HI.out,zGU h10,EC.out];rfl
   have q0:((u:Int) / 10 == 0)=true:=by rw [beq_iff_eq];omega
   go_wp2;go_ret;refine ⟨?_,hB⟩;rw [E.out];exact congrArg (λx=>Ending.returned (Value.string x)) (zBH [c] l)
  ·have E:Hid (Lib.decDigits n=Lib.decDigits (u / 10)++(c::l)):=by show _=_;rw [HI.out,zIL h10,EC.out,List.append_assoc];rfl
   have q0:((u:Int) / 10 == 0)=false:=by rw [beq_eq_false_iff_ne];omega
   go_wp2;go_roundw
   case rel=>exact ⟨u / 10,c::l,by go_num,congrArg Value.string (zBH [c] l),by omega,E,hB⟩
   case measure=>simp [intOf];omega
open Go.Shelf Go.RowKit
def zDf:Go.Shelf.Ren:=⟨fun | 171=>161 | 243=>180 | 246=>199 | 283=>205 | 284=>206 | 285=>207 | 286=>208 | 129=>214 | 317=>213 | 318=>215 | 319=>216 | 320=>217 | 337=>222 | 338=>223 | n=>n,fun | 3=>3 | 9=>9 | 2=>2 | 4=>4 | 171=>216 | 0=>0 | 53=>166 | 37=>82 | 5=>5 | 173=>219 | 212=>226 | 51=>205 | 20=>20 | 213=>227 | 46=>195 | 232=>233 | 233=>234 | n=>n,fun | 17=>5 | 18=>6 | 19=>7 | n=>n⟩
theorem zGH:Go.Proofs.LaysM.n171 prog zDf:={
 mixed:=by kernel_rfl
 f129:=func214.trans (congrArg some (by kernel_rfl))
 f171:=func161.trans (congrArg some (by kernel_rfl))
 f243:=func180.trans (congrArg some (by kernel_rfl))
 f246:=func199.trans (congrArg some (by kernel_rfl))
 f283:=func205.trans (congrArg some (by kernel_rfl))
 f284:=func206.trans (congrArg some (by kernel_rfl))
 f285:=func207.trans (congrArg some (by kernel_rfl))
 f286:=func208.trans (congrArg some (by kernel_rfl))
 f317:=func213.trans (congrArg some (by kernel_rfl))
 f318:=func215.trans (congrArg some (by kernel_rfl))
 f319:=func216.trans (congrArg some (by kernel_rfl))
 f320:=func217.trans (congrArg some (by kernel_rfl))
 f337:=func222.trans (congrArg some (by kernel_rfl))
 f338:=func223.trans (congrArg some (by kernel_rfl))
 t0:=underlying0
 a0:=Tryz.isAgg0
 z0:=Tryz.sizeOf0
 v0:=Tryz.zeroValue0
 t2:=underlying2
 a2:=Tryz.isAgg2
 z2:=Tryz.sizeOf2
 v2:=Tryz.zeroValue2
 t3:=underlying3
 a3:=Tryz.isAgg3
 z3:=Tryz.sizeOf3
 v3:=Tryz.zeroValue3
 t4:=underlying4
 a4:=Tryz.isAgg4
 z4:=Tryz.sizeOf4
 v4:=Tryz.zeroValue4
 t5:=underlying5
 a5:=Tryz.isAgg5
 z5:=Tryz.sizeOf5
 v5:=Tryz.zeroValue5
 t9:=underlying9
 a9:=Tryz.isAgg9
 z9:=Tryz.sizeOf9
 v9:=Tryz.zeroValue9
 t20:=underlying20
 a20:=Tryz.isAgg20
 z20:=Tryz.sizeOf20
 v20:=Tryz.zeroValue20
 t37:=underlying82
 a37:=Tryz.isAgg82
 z37:=Tryz.sizeOf82
 v37:=Tryz.zeroValue82
 t46:=underlying195
 a46:=Tryz.isAgg195
 z46:=Tryz.sizeOf195
 v46:=Tryz.zeroValue195
 t51:=underlying205
 a51:=Tryz.isAgg205
 z51:=Tryz.sizeOf205
 v51:=Tryz.zeroValue205
 t53:=underlying166
 a53:=Tryz.isAgg166
 z53:=Tryz.sizeOf166
 v53:=Tryz.zeroValue166
 t171:=underlying216
 a171:=Tryz.isAgg216
 z171:=Tryz.sizeOf216
 v171:=Tryz.zeroValue216
 t173:=underlying219
 a173:=Tryz.isAgg219
 z173:=Tryz.sizeOf219
 v173:=Tryz.zeroValue219
 t212:=underlying226
 a212:=Tryz.isAgg226
 z212:=Tryz.sizeOf226
 v212:=Tryz.zeroValue226
 t213:=underlying227
 a213:=Tryz.isAgg227
 z213:=Tryz.sizeOf227
 t232:=underlying233
 a232:=Tryz.isAgg233
 z232:=Tryz.sizeOf233
 v232:=Tryz.zeroValue233
 t233:=underlying234
 a233:=Tryz.isAgg234
 z233:=Tryz.sizeOf234
 v233:=Tryz.zeroValue234
 g17:=by kernel_rfl
 g18:=by kernel_rfl
 g19:=by kernel_rfl
 i0:=by kernel_rfl
 i2:=by kernel_rfl
 i3:=by kernel_rfl
 i4:=by kernel_rfl
 i5:=by kernel_rfl
 i9:=by kernel_rfl
 i20:=by kernel_rfl
 i37:=by kernel_rfl
 i46:=by kernel_rfl
 i51:=by kernel_rfl
 i53:=by kernel_rfl
 i171:=by kernel_rfl
 i173:=by kernel_rfl
 i212:=by kernel_rfl
 i232:=by kernel_rfl
 i233:=by kernel_rfl
 m17:=by kernel_rfl
 m18:=by kernel_rfl
 m19:=by kernel_rfl}
theorem zGR (n:Int) (w:World) (h0:-9223372036854775808<=n) (h1:n<=9223372036854775807) (htab:Lib.TabIs prog w "internal/strconv.uint64pow10" .u64 Lib.pow10Tab) :
  CR 161 #[.int .i64 n] w (.string ⟨(Lib.itoa n).toArray⟩) :=
 (Any.strconv_Itoa zGH n h0 h1 w htab).mono λe w' ⟨he,k,os,hw⟩=>⟨he,by rw [hw];exact Lib.below_grow _ w (Nat.le_refl _) k os⟩
theorem zEe (s r c:Int) (w:World) :
  CR 26 #[.agg #[.int .i64 s,.int .i64 r,.int .i64 c]] w (.bool (Wpl.rightC s r c)):=by
 by_cases h0:0<=s
 ·by_cases h1:s<16
  ·by_cases h2:0<=r
   ·by_cases h3:r<65536
    ·by_cases h4:0<=c
     ·have e:Hid (Wpl.rightC s r c=decide (c<256)):=by
       show _=_;rw [Bool.eq_iff_iff,Wpl.rightC_iff];simp;omega
      go_enter func26,ntmps26;go_wp2;go_ret;exact ⟨by rw [e.out];rfl,clA⟩
     ·have e:Hid (Wpl.rightC s r c=false):=by show _=_;rw [Wpl.rightC_not];omega
      go_enter func26,ntmps26;go_wp2;go_ret;exact ⟨by rw [e.out];rfl,clA⟩
    ·have e:Hid (Wpl.rightC s r c=false):=by show _=_;rw [Wpl.rightC_not];omega
     go_enter func26,ntmps26;go_wp2;go_ret;exact ⟨by rw [e.out];rfl,clA⟩
   ·have e:Hid (Wpl.rightC s r c=false):=by show _=_;rw [Wpl.rightC_not];omega
    go_enter func26,ntmps26;go_wp2;go_ret;exact ⟨by rw [e.out];rfl,clA⟩
  ·have e:Hid (Wpl.rightC s r c=false):=by show _=_;rw [Wpl.rightC_not];omega
   go_enter func26,ntmps26;go_wp2;go_ret;exact ⟨by rw [e.out];rfl,clA⟩
 ·have e:Hid (Wpl.rightC s r c=false):=by show _=_;rw [Wpl.rightC_not];omega
  go_enter func26,ntmps26;go_wp2;go_ret;exact ⟨by rw [e.out];rfl,clA⟩
theorem zGQ {n:Int} (h:0<=n):Lib.itoa n=Lib.decDigits n.toNat:=by unfold Lib.itoa;rw [if_neg (by omega)]
theorem zK0 (s r c:Int) (w:World) :
  CR 104 #[.agg #[.int .i64 s,.int .i64 r,.int .i64 c]] w (.string ⟨(Wpl.nameS s r c).toArray⟩):=by
 have R:=λw=>zEe s r c w
 cases h:Wpl.rightC s r c with
 | false =>
  have E:Hid (Wpl.nameS s r c=[]):=Wpl.nameS_neg h;rw [h] at R;clear h;go_enter func104,ntmps104;go_wp2_with fail
  refine (R _).mono ?_;rintro e w1 ⟨rfl,hb1⟩;go_wp2;go_ret;exact ⟨by rw [E.out];rfl,clA⟩
 | true =>
  have hh:=Wpl.rightC_iff.1 h;have l1:=Wpl.colS_len c;have l2:=Wpl.dd_len (r+1).toNat (by omega);have E:Hid (Wpl.nameS s r c=Wpl.colS c++Lib.decDigits (r+1).toNat):=Wpl.nameS_pos h;have CC:=λw=>zHG c w
  have II:=λw=>zGW (r+1).toNat w (by omega)
  rw [show (((r+1).toNat:Nat):Int)=r+1 by omega] at II;rw [h] at R;clear h;generalize Wpl.colS c=x at *;generalize Lib.decDigits (r+1).toNat=y at *;have hw:IntKind.i64.wrap (r+1)=r+1:=IntWalk.i64_in _ (by omega);have lx:¬ 9223372036854775807<x.length+y.length:=by omega
  go_enter func104,ntmps104;go_wp2_with fail
  refine (R _).mono ?_;rintro e w1 ⟨rfl,hb1⟩;have pC:AtL w1 w.heap.size [.int .i64 s,.int .i64 r,.int .i64 c]:=AtL.below hb1 (AtL.new0 w 41 _);have hB:Below w.heap.size w w1:=clA
  clear hb1;have hS:zEw w1 w.heap.size (.int .i64 s) (.int .i64 r) (.int .i64 c):=pC.f3;clear pC;go_wp2_with fail
  go_region_held3 (λW=>W.cell? ⟨w.heap.size,0,none⟩=some (.int .i64 s)/\W.cell? ⟨w.heap.size,1,none⟩=some (.int .i64 r)/\W.cell? ⟨w.heap.size,2,none⟩=some (.int .i64 c))
   (with_reducible first | exact hS | assumption | exact zIV hS | exact zDr hb (by assumption))
   (first
   | (go_at_call 103;refine (CC _).mono ?_;rintro e w4 ⟨rfl,hb⟩;(with_reducible first | replace hB:=zB5 hB.drew hb | replace hB:=zB5 hB hb))
   | (go_at_call 129;refine (II _).mono ?_;rintro e w4 ⟨rfl,hb⟩;(with_reducible first | replace hB:=zB5 hB.drew hb | replace hB:=zB5 hB hb)))
  all_goals
   go_wp2;go_ret;refine ⟨?_,hB⟩;rw [E.out];exact congrArg (λx=>Ending.returned (Value.string x)) (zBH x y)
