/- KRight, KOfP. -/
import Derived.Test.YtcddpgfdadpbgaaGreatDoorQ21
set_option maxHeartbeats 400000
set_option maxRecDepth 100000
set_option linter.unusedVariables false
namespace Go.Proofs.YtcddpgfdadpbgaaGreatDoor
open Go.RowKit
variable {x:Wc.In} {tl:List Int} {F:List (Nat × Int)}
def rgt (x:Wc.In) (tl:List Int):Bool :=
 if x.op=1 then Wv.right x.v.k x.v.n x.v.d x.v.t x.v.b x.v.f && (smI x ⟨1,0,0,x.v,c0I,a0I,a0I⟩ && decide (tl=[]))
 else if x.op=2 then Wpl.rightC x.ce.s x.ce.r x.ce.c && (smI x ⟨2,0,0,v0I,x.ce,a0I,a0I⟩ && decide (tl=[]))
 else if x.op=3 then (decide (1<=x.a) && decide (x.a<=3)) && (smI x ⟨3,x.a,0,v0I,c0I,a0I,a0I⟩ && decide (tl=[]))
 else if x.op=4 then Wt.isBin x.a && (smI x ⟨4,x.a,0,v0I,c0I,a0I,a0I⟩ && decide (tl=[]))
 else if x.op=5 then apl x.a x.b && (smI x ⟨5,x.a,x.b,v0I,c0I,a0I,a0I⟩ && decide (tl=[]))
 else if x.op=6 then fld x.a && (smI x ⟨6,x.a,0,v0I,c0I,a0I,a0I⟩ && decide (tl=[]))
 else if x.op=7 then true && (smI x ⟨7,0,0,v0I,c0I,a0I,a0I⟩ && decide (tl=[]))
 else if x.op=8 then Wpl.rightA x.ar.s x.ar.t x.ar.l x.ar.b x.ar.r && (smI x ⟨8,0,0,v0I,c0I,x.ar,a0I⟩ && decide (tl=[]))
 else if x.op=9 then ((Wpl.rightA x.ar.s x.ar.t x.ar.l x.ar.b x.ar.r && Wpl.rightA x.pr.s x.pr.t x.pr.l x.pr.b x.pr.r) && shp x.ar x.pr) && (smI x ⟨9,0,0,v0I,c0I,x.ar,x.pr⟩ && decide (tl=[]))
 else if x.op=10 then true && (smI x ⟨10,0,0,v0I,c0I,a0I,a0I⟩ && decide (tl=[]))
 else if x.op=11 then (Wpl.rightA x.ar.s x.ar.t x.ar.l x.ar.b x.ar.r && (x.b == 1 || x.b == 2)) && (smI x ⟨11,0,x.b,v0I,c0I,x.ar,a0I⟩ && decide (tl=[]))
 else if x.op=12 then true && (smI x ⟨12,x.a,x.b,v0I,c0I,a0I,a0I⟩ && decide (tl=[]))
 else if x.op=13 then true && (smI x ⟨13,x.a,0,v0I,c0I,a0I,a0I⟩ && decide (tl=[]))
 else if x.op=14 then true && (smI x ⟨14,x.a,0,v0I,c0I,a0I,a0I⟩ && decide (tl=[]))
 else if x.op=15 then (decide (1<=(tl.length:Int)) && decide ((tl.length:Int)<=30)) && (smI x ⟨15,0,x.b,v0I,c0I,a0I,a0I⟩ && decide (tl=tl))
 else if x.op=16 then true && (smI x ⟨16,0,0,v0I,c0I,a0I,a0I⟩ && decide (tl=[]))
 else false
theorem zJu (h:x.op=1):rgt x tl=(Wv.right x.v.k x.v.n x.v.d x.v.t x.v.b x.v.f && (smI x ⟨1,0,0,x.v,c0I,a0I,a0I⟩ && decide (tl=[]))):=by
 unfold rgt;rw [if_pos h]
theorem zJ4 (h:x.op=2):rgt x tl=(Wpl.rightC x.ce.s x.ce.r x.ce.c && (smI x ⟨2,0,0,v0I,x.ce,a0I,a0I⟩ && decide (tl=[]))):=by
 unfold rgt;rw [if_neg (by omega),if_pos h]
theorem zJL (h:x.op=3):rgt x tl=((decide (1<=x.a) && decide (x.a<=3)) && (smI x ⟨3,x.a,0,v0I,c0I,a0I,a0I⟩ && decide (tl=[]))):=by
 unfold rgt;rw [if_neg (by omega),if_neg (by omega),if_pos h]
theorem zIn (h:x.op=4):rgt x tl=(Wt.isBin x.a && (smI x ⟨4,x.a,0,v0I,c0I,a0I,a0I⟩ && decide (tl=[]))):=by
 unfold rgt;rw [if_neg (by omega),if_neg (by omega),if_neg (by omega),if_pos h]
theorem zGR (h:x.op=5):rgt x tl=(apl x.a x.b && (smI x ⟨5,x.a,x.b,v0I,c0I,a0I,a0I⟩ && decide (tl=[]))):=by
 unfold rgt;rw [if_neg (by omega),if_neg (by omega),if_neg (by omega),if_neg (by omega),if_pos h]
theorem zHf (h:x.op=6):rgt x tl=(fld x.a && (smI x ⟨6,x.a,0,v0I,c0I,a0I,a0I⟩ && decide (tl=[]))):=by
 unfold rgt;rw [if_neg (by omega),if_neg (by omega),if_neg (by omega),if_neg (by omega),if_neg (by omega),if_pos h]
theorem zIm (h:x.op=7):rgt x tl=(true && (smI x ⟨7,0,0,v0I,c0I,a0I,a0I⟩ && decide (tl=[]))):=by
 unfold rgt;rw [if_neg (by omega),if_neg (by omega),if_neg (by omega),if_neg (by omega),if_neg (by omega),if_neg (by omega),if_pos h]
theorem zJG (h:x.op=8):rgt x tl=(Wpl.rightA x.ar.s x.ar.t x.ar.l x.ar.b x.ar.r && (smI x ⟨8,0,0,v0I,c0I,x.ar,a0I⟩ && decide (tl=[]))):=by
 unfold rgt;rw [if_neg (by omega),if_neg (by omega),if_neg (by omega),if_neg (by omega),if_neg (by omega),if_neg (by omega),if_neg (by omega),if_pos h]
theorem zJ1 (h:x.op=9):rgt x tl=(((Wpl.rightA x.ar.s x.ar.t x.ar.l x.ar.b x.ar.r && Wpl.rightA x.pr.s x.pr.t x.pr.l x.pr.b x.pr.r) && shp x.ar x.pr) && (smI x ⟨9,0,0,v0I,c0I,x.ar,x.pr⟩ && decide (tl=[]))):=by
 unfold rgt;rw [if_neg (by omega),if_neg (by omega),if_neg (by omega),if_neg (by omega),if_neg (by omega),if_neg (by omega),if_neg (by omega),if_neg (by omega),if_pos h]
theorem zEy (h:x.op=10):rgt x tl=(true && (smI x ⟨10,0,0,v0I,c0I,a0I,a0I⟩ && decide (tl=[]))):=by
 unfold rgt;rw [if_neg (by omega),if_neg (by omega),if_neg (by omega),if_neg (by omega),if_neg (by omega),if_neg (by omega),if_neg (by omega),if_neg (by omega),if_neg (by omega),if_pos h]
theorem zDp (h:x.op=11):rgt x tl=((Wpl.rightA x.ar.s x.ar.t x.ar.l x.ar.b x.ar.r && (x.b == 1 || x.b == 2)) && (smI x ⟨11,0,x.b,v0I,c0I,x.ar,a0I⟩ && decide (tl=[]))):=by
 unfold rgt;rw [if_neg (by omega),if_neg (by omega),if_neg (by omega),if_neg (by omega),if_neg (by omega),if_neg (by omega),if_neg (by omega),if_neg (by omega),if_neg (by omega),if_neg (by omega),if_pos h]
theorem zFe (h:x.op=12):rgt x tl=(true && (smI x ⟨12,x.a,x.b,v0I,c0I,a0I,a0I⟩ && decide (tl=[]))):=by
 unfold rgt;rw [if_neg (by omega),if_neg (by omega),if_neg (by omega),if_neg (by omega),if_neg (by omega),if_neg (by omega),if_neg (by omega),if_neg (by omega),if_neg (by omega),if_neg (by omega),if_neg (by omega),if_pos h]
theorem zFh (h:x.op=13):rgt x tl=(true && (smI x ⟨13,x.a,0,v0I,c0I,a0I,a0I⟩ && decide (tl=[]))):=by
 unfold rgt;rw [if_neg (by omega),if_neg (by omega),if_neg (by omega),if_neg (by omega),if_neg (by omega),if_neg (by omega),if_neg (by omega),if_neg (by omega),if_neg (by omega),if_neg (by omega),if_neg (by omega),if_neg (by omega),if_pos h]
theorem zEv (h:x.op=14):rgt x tl=(true && (smI x ⟨14,x.a,0,v0I,c0I,a0I,a0I⟩ && decide (tl=[]))):=by
 unfold rgt;rw [if_neg (by omega),if_neg (by omega),if_neg (by omega),if_neg (by omega),if_neg (by omega),if_neg (by omega),if_neg (by omega),if_neg (by omega),if_neg (by omega),if_neg (by omega),if_neg (by omega),if_neg (by omega),if_neg (by omega),if_pos h]
theorem zFO (h:x.op=15):rgt x tl=((decide (1<=(tl.length:Int)) && decide ((tl.length:Int)<=30)) && (smI x ⟨15,0,x.b,v0I,c0I,a0I,a0I⟩ && decide (tl=tl))):=by
 unfold rgt;rw [if_neg (by omega),if_neg (by omega),if_neg (by omega),if_neg (by omega),if_neg (by omega),if_neg (by omega),if_neg (by omega),if_neg (by omega),if_neg (by omega),if_neg (by omega),if_neg (by omega),if_neg (by omega),if_neg (by omega),if_neg (by omega),if_pos h]
theorem zFQ (h:x.op=16):rgt x tl=(true && (smI x ⟨16,0,0,v0I,c0I,a0I,a0I⟩ && decide (tl=[]))):=by
 unfold rgt;rw [if_neg (by omega),if_neg (by omega),if_neg (by omega),if_neg (by omega),if_neg (by omega),if_neg (by omega),if_neg (by omega),if_neg (by omega),if_neg (by omega),if_neg (by omega),if_neg (by omega),if_neg (by omega),if_neg (by omega),if_neg (by omega),if_neg (by omega),if_pos h]
theorem zKA (h:x.op<1 \/ 16<x.op):rgt x tl=false:=by
 unfold rgt;rw [if_neg (by omega),if_neg (by omega),if_neg (by omega),if_neg (by omega),if_neg (by omega),if_neg (by omega),if_neg (by omega),if_neg (by omega),if_neg (by omega),if_neg (by omega),if_neg (by omega),if_neg (by omega),if_neg (by omega),if_neg (by omega),if_neg (by omega),if_neg (by omega)]
theorem zEN (x:Wc.In) (av:Option Addr) (n c:Nat) (tl:List Int) (w:World) (hz:RdZ w (.slice av n c) tl) (hl:tl.length<=1000000) (hf:Wt.FitV x.v) (hN:NmAt w) :
  CR 33 #[inV x (.slice av n c)] w (.bool (rgt x tl)):=by
 rcases zD0 x.op with h | h | h | h | h | h | h | h | h | h | h | h | h | h | h | h | h
 ·rw [zJu h];exact zGp x av n c tl w h hz hl hf.1.1 hf.1.2 hf.2.1.1 hf.2.1.2 hf.2.2
 ·rw [zJ4 h];exact zHi x av n c tl w h hz hl
 ·rw [zJL h];exact zGc x av n c tl w h hz hl
 ·rw [zIn h];exact zHp x av n c tl w h hz hl
 ·rw [zGR h];exact zGh x av n c tl w h hz hl hN
 ·rw [zHf h];exact zGl x av n c tl w h hz hl
 ·rw [zIm h];exact zHs x av n c tl w h hz hl
 ·rw [zJG h];exact zGx x av n c tl w h hz hl
 ·rw [zJ1 h];exact zG4 x av n c tl w h hz hl
 ·rw [zEy h];exact zEx x av n c tl w h hz hl
 ·rw [zDp h];exact zEk x av n c tl w h hz hl
 ·rw [zFe h];exact zFa x av n c tl w h hz hl
 ·rw [zFh h];exact zGN x av n c tl w h hz hl
 ·rw [zEv h];exact zEi x av n c tl w h hz hl
 ·rw [zFO h];exact zFf x av n c tl w h hz hl
 ·rw [zFQ h];exact zFc x av n c tl w h hz hl
 ·rw [zKA h];refine (zHP x av n c tl w hz hl h).mono ?_;rintro e w' ⟨rfl,hb⟩;exact ⟨by rw [Bool.false_and],hb⟩
theorem zAb (i:Nat) (x:Wc.In) (tl:List Int) (M:List (Option (Int × Nat))) (F:List (Nat × Int)):Wc.spI i (x,tl) (M,F)=match M.getD i none with
  | none=>none
  | some (v,m)=>match zDa F x v m with
   | none=>none
   | some (h2,F2)=>match Wc.handP h2 (onw x.op x.a x.b tl i).1 M with
    | none=>none
    | some M1=>match Wc.handP (v,m) (onw x.op x.a x.b tl i).2 M1 with
     | none=>none
     | some M2=>some (M2,F2):=by
 unfold Wc.spI Wc.stepP zDa;simp only;cases M.getD i none with
 | none=>rfl
 | some q =>
  obtain ⟨v,m⟩:=q;simp only;cases Wc.behF F x.op x.a m with
  | none=>rfl
  | some q =>
   obtain ⟨m2,F2⟩:=q;simp only;split
   ·rfl
   ·rfl
theorem zIE {o a:Int} {m m2:Nat} {F2:List (Nat × Int)} (h:Wc.behF F o a m=some (m2,F2)):F2.length<=F.length+1:=by
 unfold Wc.behF at h;repeat' split at h
 all_goals first
  | cases h;done
  | (cases h;simp)
theorem zKo (hr:Wc.Rows F) {o a:Int} {m m2:Nat} {F2:List (Nat × Int)} (hm:m<=F.length) (h:Wc.behF F o a m=some (m2,F2)):Wc.Beh F o a m m2 F2:=by
 cases hb:Wc.bst o (Wc.rw0 F m) with
 | false=>rw [Wc.beh_none hr hm hb] at h;cases h
 | true =>
  obtain ⟨m3,F3,h3,B⟩:=Wc.beh_some (a:=a) hr hm hb;rw [h] at h3;cases h3
  exact B
structure PInv (i:Nat) (M:List (Option (Int × Nat))) (F:List (Nat × Int)):Prop where
 len:F.length<=i
 rows:Wc.Rows F
 zero:M.getD 0 none=some (0,0)
 at':∀ (j:Nat) (v:Int) (m:Nat),M.getD j none=some (v,m)->0<=v/\v<=i/\m<=F.length
theorem zCx {α:Type} (l:List (Option α)) (i j:Nat) (x:Option α):(l.set i x).getD j none=if i=j/\i<l.length then x else l.getD j none:=by
 by_cases hi:i<l.length
 ·rw [Wc.getD_set l i j x hi];by_cases h:i=j
  ·simp [h,h ▸ hi]
  ·simp [h]
 ·rw [List.set_eq_of_length_le (by omega),if_neg (by omega)]
theorem zCu {h:Int × Nat}:∀ (pl:List Int) (M M2:List (Option (Int × Nat))),Wc.handP h pl M=some M2->(∀ j ∈ pl,0<j)->M2.getD 0 none=M.getD 0 none/\∀ (j:Nat) (g:Int × Nat),M2.getD j none=some g->g=h \/ M.getD j none=some g:=by
 intro pl;induction pl with
 | nil =>
  intro M M2 e _;cases e
  exact ⟨rfl,λj g q=>Or.inr q⟩
 | cons p r ih =>
  intro M M2 e hp;have hp0:=hp p (List.mem_cons_self ..);have hr:∀ j ∈ r,0<j:=λj hj=>hp j (List.mem_cons_of_mem _ hj)
  have key:Wc.handP h r (M.set p.toNat (some h))=some M2->M2.getD 0 none=M.getD 0 none/\∀ (j:Nat) (g:Int × Nat),M2.getD j none=some g->g=h \/ M.getD j none=some g:=by
   intro e2;obtain ⟨h1,h2⟩:=ih _ _ e2 hr;refine ⟨by rw [h1,zCx,if_neg (by omega)],λj g q=>?_⟩;rcases h2 j g q with q2 | q2
   ·exact Or.inl q2
   ·rw [zCx] at q2;split at q2
    ·exact Or.inl (by cases q2;rfl)
    ·exact Or.inr q2
  simp only [Wc.handP] at e;split at e
  ·exact key e
  ·split at e
   ·exact key e
   ·cases e
theorem zJx (h:rgt x tl=true):0<=(Wc.swO x.op x.b).1/\(Wc.swO x.op x.b).1<=1000/\0<=(Wc.swO x.op x.b).2/\(Wc.swO x.op x.b).2<=1:=by
 by_cases h5:x.op=5
 ·rw [zGR h5,Bool.and_eq_true] at h;have ha:=h.1;unfold apl at ha;simp only [Bool.and_eq_true,decide_eq_true_eq] at ha;have hb:0<=(zA5 x.a).l/\(zA5 x.a).m<=30:=by
   unfold zA5;split
   ·exact ⟨by decide,by decide⟩
   ·split
    ·unfold zGM;repeat' split
     all_goals exact ⟨by decide,by decide⟩
    ·split
     ·unfold zFX;repeat' split
      all_goals exact ⟨by decide,by decide⟩
     ·unfold zFp;repeat' split
      all_goals exact ⟨by decide,by decide⟩
  have hs:Wc.swO x.op x.b=(x.b,1):=by simp [Wc.swO,h5]
  rw [hs];simp only;omega
 ·by_cases h11:x.op=11
  ·rw [zDp h11,Bool.and_eq_true,Bool.and_eq_true] at h;have hb:=h.1.2;simp only [Bool.or_eq_true,beq_iff_eq] at hb;have hs:Wc.swO x.op x.b=(x.b,1):=by simp [Wc.swO,h11]
   rw [hs];simp only;omega
  ·unfold Wc.swO;rw [if_neg (show ¬ (x.op=5 \/ x.op=11) by omega)];repeat' split
   all_goals exact ⟨by decide,by decide,by decide,by decide⟩
