/- TPlainB, TRight, TMeas, KTr, KPlain, KKit, KWalkA, KWalkB, KWalkC. -/
import Derived.Test.YtnloiaoogofklaaGreatDoorQ05
import Derived.Laws.AppendOwn
set_option maxHeartbeats 4000000
set_option maxRecDepth 100000
set_option linter.unusedVariables false
namespace Go.Proofs.YtnloiaoogofklaaGreatDoor.Wt
open Go.Proofs.YtnloiaoogofklaaGreatDoor
def right (x:Nd):Bool :=
 if x.k=1 then vlOk x.v && eqN x ⟨1,x.v,0,⟨#[]⟩,0,Wt.r0,Wt.r0⟩
 else if x.k=2 then rfOk x.a && eqN x ⟨2,Wt.v0,0,⟨#[]⟩,0,x.a,Wt.r0⟩
 else if x.k=3 then (rfOk x.a && rfOk x.b && x.b.s.toList.isEmpty) && eqN x ⟨3,Wt.v0,0,⟨#[]⟩,0,x.a,x.b⟩
 else if x.k=4 then opK x.op == 4 && eqN x ⟨4,Wt.v0,x.op,⟨#[]⟩,0,Wt.r0,Wt.r0⟩
 else if x.k=5 then opK x.op == 5 && eqN x ⟨5,Wt.v0,x.op,⟨#[]⟩,0,Wt.r0,Wt.r0⟩
 else if x.k=6 then (fnNm x.nm && decide (0<=x.ar) && decide (x.ar<=30)) && eqN x ⟨6,Wt.v0,0,x.nm,x.ar,Wt.r0,Wt.r0⟩
 else false
def FitV (v:Vl):Prop:=(-9223372036854775808<=v.n/\v.n<=9223372036854775807)/\(-9223372036854775808<=v.d/\v.d<=9223372036854775807)/\v.t.size<=9223372036854775807
def FitN (x:Nd):Prop:=FitV x.v/\x.nm.size<=9223372036854775807/\x.a.s.size<=9223372036854775807/\x.b.s.size<=9223372036854775807
theorem parts_le {x:Nd} (h:right x=true):0<=parts x/\parts x<=30:=by
 unfold right at h;unfold parts;by_cases h4:x.k=4
 ·rw [if_pos h4];omega
 rw [if_neg h4];by_cases h5:x.k=5
 ·rw [if_pos h5];omega
 rw [if_neg h5];by_cases h1:x.k=1
 ·rw [if_pos h1,Bool.and_eq_true,zEx] at h;have:=congrArg Nd.ar h.2;simp only at this;omega
 rw [if_neg h1] at h;by_cases h1:x.k=2
 ·rw [if_pos h1,Bool.and_eq_true,zEx] at h;have:=congrArg Nd.ar h.2;simp only at this;omega
 rw [if_neg h1] at h;by_cases h1:x.k=3
 ·rw [if_pos h1,Bool.and_eq_true,zEx] at h;have:=congrArg Nd.ar h.2;simp only at this;omega
 rw [if_neg h1,if_neg h4,if_neg h5] at h;by_cases h1:x.k=6
 ·rw [if_pos h1] at h;simp only [Bool.and_eq_true,decide_eq_true_eq] at h;omega
 ·rw [if_neg h1] at h;cases h
def many (sub:List Nd->Option (Nat × Nat)):Nat->List Nd->Option (Nat × Nat)
 | 0,_=>some (0,0)
 | k+1,l=>match sub l with
  | none=>none
  | some (s,d)=>match many sub k (l.drop s) with
   | none=>none
   | some (s',d')=>some (s+s',max d d')
def one:Nat->List Nd->Option (Nat × Nat)
 | 0,_=>none
 | _+1,[]=>none
 | f+1,x::r=>if right x then (match many (one f) (parts x).toNat r with | none=>none | some (s,d)=>some (s+1,d+1)) else none
def check (l:List Nd):Int :=
 if 256<l.length then 52
 else match one (l.length+1) l with
  | none=>53
  | some (s,d)=>if s ≠ l.length then 53 else if 32<d then 51 else 0
end Go.Proofs.YtnloiaoogofklaaGreatDoor.Wt
namespace Go.Proofs.YtnloiaoogofklaaGreatDoor
open Tryz
open Go.RowKit
variable {f k e d:Nat} {L:List Wt.Nd} {x:Wt.Nd}
theorem zLO (x:Wt.Nd) (w:World) (h1:(x.k == 1)=false) (h2:(x.k == 2)=false) (h3:(x.k == 3)=false) (h4:(x.k == 4)=false) (h5:(x.k == 5)=false) (h6:(x.k == 6)=false) :
  CR 55 #[ndV x] w (.bool false):=by
 obtain ⟨k,hk⟩:∃ k,x.k=k:=⟨_,rfl⟩
 rw [hk] at h1 h2 h3 h4 h5 h6;have pA0:AtL (two w x) w.heap.size (zAM x):=(AtL.new0 w _ _).alloc _;have pO0:AtL (two w x) (w.heap.size+1) (zAM (bare 0)):=AtL.new1 w _ _ _;have hth:World.there (two w x) (w.heap.size+1) 0 (zAM (bare k)).toArray.size:=pO0.there;have hne:w.heap.size+1 ≠ w.heap.size:=by omega
 have pA:=pA0.farAll hne 0 (zAM (bare k));have pO:AtL ((two w x).setCells (w.heap.size+1) 0 (zAM (bare k))) (w.heap.size+1) (zAM (bare k)):=pO0.setAll rfl;have hBa:Below w.heap.size w ((two w x).setCells (w.heap.size+1) 0 (zAM (bare k))):=zAs (zAL (zAL (Below.refl _ w) _) _) (Nat.le_succ _) _ 0;clear pA0 pO0;have n0:(zAM x)[0]? = some (.int .i64 k):=by rw [<-hk];rfl
 have a0:World.cell? ((two w x).setCells (w.heap.size+1) 0 (zAM (bare k))) ⟨w.heap.size,0,none⟩=some (.int .i64 k):=pA.2.1 0 _ n0;show Calls _ _ #[.agg (zAM x).toArray] _ _
 go_enter func55,ntmps55;go_upto_region 1 with fail
 go_upto_region 2 with ((with_reducible refine wpList_store_mid ?_ 56 (.tmp 3) (.tmp 9) ?_ (w.heap.size+1) 0 (zAM (bare k)).toArray ?_ ?_ ?_ ?_ ?_ ?_);rfl;rfl;rfl;rfl;exact hth;kernel_rfl;exact zDe _)
 generalize (two w x).setCells (w.heap.size+1) 0 (zAM (bare k))=W0 at *;clear hth;go_wp2;go_ret;exact ⟨rfl,hBa⟩
theorem zG8 (x:Wt.Nd) (w:World) (hf:Wt.FitN x) (hO:OpsAt w):CR 55 #[ndV x] w (.bool (Wt.right x)):=by
 obtain ⟨⟨⟨f1,f2⟩,⟨f3,f4⟩,f5⟩,f6,f7,f8⟩:=hf;unfold Wt.right;by_cases h1:x.k=1
 ·rw [if_pos h1];exact zKw x w h1 f1 f2 f3 f4 f5
 rw [if_neg h1];by_cases h2:x.k=2
 ·rw [if_pos h2];exact zJo x w h2 f7
 rw [if_neg h2];by_cases h3:x.k=3
 ·rw [if_pos h3];exact zKR x w h3 f7 f8
 rw [if_neg h3];by_cases h4:x.k=4
 ·rw [if_pos h4];exact zKj x w h4 hO
 rw [if_neg h4];by_cases h5:x.k=5
 ·rw [if_pos h5];exact zJg x w h5 hO
 rw [if_neg h5];by_cases h6:x.k=6
 ·rw [if_pos h6];exact zKf x w h6 f6
 rw [if_neg h6];exact zLO x w (by simp [h1]) (by simp [h2]) (by simp [h3]) (by simp [h4]) (by simp [h5]) (by simp [h6])
def RdN (w:World) (av:Option Addr) (L:List Wt.Nd):Prop:=∀ i (h:i<L.length),∃ bb off,av=some ⟨bb,off,none⟩/\w.rangeAt bb (off+i * 20) (zAM (L[i]))
theorem RdN.below {w w':World} {av:Option Addr} (h:RdN w av L) (hb:Below w.heap.size w w'):RdN w' av L:=λi hi=>by
 obtain ⟨bb,off,e,hr⟩:=h i hi;exact ⟨bb,off,e,λj v hv=>zAC hb (hr j v hv)⟩
def MP (r:Option (Nat × Nat)) (p:Nat):Value:=match r with
 | some (s,d)=>.tuple #[.int .i64 ((p+s:Nat):Int),.int .i64 (d:Int),.bool true]
 | none=>.tuple #[.int .i64 0,.int .i64 0,.bool false]
def left (f k:Nat) (L:List Wt.Nd) (e d:Nat):Option (Nat × Nat):=match Wt.many (Wt.one f) k (L.drop e) with
 | some (s,d')=>some (e+s,max d d')
 | none=>none
theorem zIp (f:Nat) (L:List Wt.Nd) (e d:Nat):left f 0 L e d=some (e,d):=by simp [left,Wt.many]
theorem zHa (h:Wt.one f (L.drop e)=none):left f (k+1) L e d=none:=by simp [left,Wt.many,h]
theorem zIv {s d':Nat} (h:Wt.one f (L.drop e)=some (s,d')):left f (k+1) L e d=left f k L (e+s) (max d d'):=by
 simp only [left,Wt.many,h,List.drop_drop];cases Wt.many (Wt.one f) k (List.drop (e+s) L) with
 | none=>rfl
 | some q=>obtain ⟨a,b⟩:=q;simp only [Option.some.injEq,Prod.mk.injEq];omega
theorem zN7 (ih:∀ (l:List Wt.Nd) (s d:Nat),Wt.one f l=some (s,d)->s<=l.length):∀ (k:Nat) (l:List Wt.Nd) (s d:Nat),Wt.many (Wt.one f) k l=some (s,d)->s<=l.length:=by
 intro k;induction k with
 | zero=>intro l s d h;simp only [Wt.many,Option.some.injEq,Prod.mk.injEq] at h;omega
 | succ k ihk =>
  intro l s d h;simp only [Wt.many] at h;cases h1:Wt.one f l with
  | none=>rw [h1] at h;cases h
  | some q =>
   obtain ⟨a,b⟩:=q;rw [h1] at h;simp only at h;cases h2:Wt.many (Wt.one f) k (l.drop a) with
   | none=>rw [h2] at h;cases h
   | some q2 =>
    obtain ⟨a2,b2⟩:=q2;rw [h2] at h;simp only [Option.some.injEq,Prod.mk.injEq] at h;have:=ih l a b h1;have:=ihk _ a2 b2 h2;rw [List.length_drop] at this;omega
theorem zJO:∀ (f:Nat) (l:List Wt.Nd) (s d:Nat),Wt.one f l=some (s,d)->s<=l.length
 | 0,l,s,d,h=>by simp [Wt.one] at h
 | f+1,[],s,d,h=>by simp [Wt.one] at h
 | f+1,x::r,s,d,h=>by
  unfold Wt.one at h;split at h
  ·cases h1:Wt.many (Wt.one f) (Wt.parts x).toNat r with
   | none=>rw [h1] at h;cases h
   | some q =>
    obtain ⟨a,b⟩:=q;rw [h1] at h;simp only [Option.some.injEq,Prod.mk.injEq] at h;have:=zN7 (zJO f) _ _ _ _ h1;simp only [List.length_cons];omega
  ·cases h
theorem zId (ih:∀ (l:List Wt.Nd) (s d:Nat),Wt.one f l=some (s,d)->d<=f):∀ (k:Nat) (l:List Wt.Nd) (s d:Nat),Wt.many (Wt.one f) k l=some (s,d)->d<=f:=by
 intro k;induction k with
 | zero=>intro l s d h;simp only [Wt.many,Option.some.injEq,Prod.mk.injEq] at h;omega
 | succ k ihk =>
  intro l s d h;simp only [Wt.many] at h;cases h1:Wt.one f l with
  | none=>rw [h1] at h;cases h
  | some q =>
   obtain ⟨a,b⟩:=q;rw [h1] at h;simp only at h;cases h2:Wt.many (Wt.one f) k (l.drop a) with
   | none=>rw [h2] at h;cases h
   | some q2 =>
    obtain ⟨a2,b2⟩:=q2;rw [h2] at h;simp only [Option.some.injEq,Prod.mk.injEq] at h;have:=ih l a b h1;have:=ihk _ a2 b2 h2;omega
theorem zD9:∀ (f:Nat) (l:List Wt.Nd) (s d:Nat),Wt.one f l=some (s,d)->d<=f
 | 0,l,s,d,h=>by simp [Wt.one] at h
 | f+1,[],s,d,h=>by simp [Wt.one] at h
 | f+1,x::r,s,d,h=>by
  unfold Wt.one at h;split at h
  ·cases h1:Wt.many (Wt.one f) (Wt.parts x).toNat r with
   | none=>rw [h1] at h;cases h
   | some q =>
    obtain ⟨a,b⟩:=q;rw [h1] at h;simp only [Option.some.injEq,Prod.mk.injEq] at h;have:=zId (zD9 f) _ _ _ _ h1;omega
  ·cases h
def MR (r:Option (Nat × Nat)):Value:=match r with
 | some (e,d)=>.tuple #[.int .i64 (e:Int),.int .i64 ((d:Int)+1),.bool true]
 | none=>.tuple #[.int .i64 0,.int .i64 0,.bool false]
theorem zNu (h:Wt.right x=true) (f:Nat) (L:List Wt.Nd) (p:Nat):MP (Wt.one (f+1) (x::L.drop (p+1))) p=MR (left f (Wt.parts x).toNat L (p+1) 0):=by
 unfold left;simp only [Wt.one];rw [if_pos h];cases Wt.many (Wt.one f) (Wt.parts x).toNat (L.drop (p+1)) with
 | none=>rfl
 | some q =>
  obtain ⟨s,d⟩:=q;simp only [MP,MR];rw [show ((p+(s+1):Nat):Int)=((p+1+s:Nat):Int) by omega,show ((d+1:Nat):Int)=((max 0 d:Nat):Int)+1 by omega]
theorem zMQ (h:Wt.right x=false) (f:Nat) (r:List Wt.Nd):Wt.one (f+1) (x::r)=none:=by
 simp only [Wt.one];rw [if_neg (by rw [h];decide)]
theorem zKF (av:Option Addr) (cap:Nat) (L:List Wt.Nd) (hL:L.length<=256) (hF:∀ x ∈ L,Wt.FitN x) (f:Nat):f<=1000->∀ (p:Nat) (w:World),L.length<f+p->p<=256->OpsAt w->RdN w av L ->
  CR 34 #[.slice av L.length cap,.int .i64 p] w (MP (Wt.one f (L.drop p)) p):=by
 have past:∀ (f p:Nat) (w:World),¬ p<L.length->p<=256->CR 34 #[.slice av L.length cap,.int .i64 p] w (MP (Wt.one f (L.drop p)) p):=by
  intro f p w hlt hp;have hd:L.drop p=[]:=List.drop_eq_nil_of_le (by omega);have E:Hid (Wt.one f (L.drop p)=none):=by
   show _=_
   rw [hd];cases f <;> rfl
  rw [E.out];clear E hd;have hli:(L.length:Int)<=(p:Int):=by omega
  go_enter func34,ntmps34;go_wp2;go_ret3
  exact ⟨rfl,Below.refl _ _⟩
 induction f with
 | zero=>intro _ p w hf hp hO hr;exact past 0 p w (by omega) hp
 | succ f ih =>
  intro hf1 p w hf hp hO hr;by_cases hlt:p<L.length
  ·clear past;replace ih:=ih (by omega)
   obtain ⟨bb,off,rfl,hx⟩:=hr p hlt;have hd:=List.drop_eq_getElem_cons hlt;have hfit:=hF _ (List.getElem_mem hlt);have HR:Hid (RdN w (some ⟨bb,off,none⟩) L):=hr;clear hr;rw [hd];generalize L[p]=x at *;have C:=zG8 x w hfit hO;have hple:=@Wt.parts_le x;have hli:¬ (L.length:Int)<=(p:Int):=by omega
   cases hq:Wt.right x with
   | false =>
    rw [hq] at C;rw [zMQ hq];clear ih;go_enter func34,ntmps34;go_wp2_with ((with_reducible refine zAA ?_ 56 (.tmp 17) ?_ bb (off+p * 20) ?_ (zAM x) _ ?_ underlying56 ?_ ?_ ?_);rfl;rfl;rfl;exact hx;rfl;kernel_rfl)
    refine C.mono ?_;rintro e w1 ⟨rfl,hb⟩;go_wp2;go_ret3
    exact ⟨rfl,hb⟩
   | true =>
    rw [hq] at C;obtain ⟨hk0,hk1⟩:=hple hq;rw [zNu hq];clear hple hq;have D:=λw=>zGc x w
    obtain ⟨k,hk⟩:∃ k:Nat,(Wt.parts x).toNat=k:=⟨_,rfl⟩
    have hkk:Wt.parts x=(k:Int):=by omega
    rw [hk];rw [hkk] at D;have hk2:k<=30:=by omega
    clear hk0 hk1 hk hkk;obtain ⟨R,hR⟩:∃ R,left f k L (p+1) 0=R:=⟨_,rfl⟩
    have E0:Hid (R=left f (k - 0) L (p+1) 0):=hR.symm;rw [hR];clear hR;have IH:Hid (∀ (p:Nat) (w:World),L.length<f+p->p<=256->OpsAt w->RdN w (some ⟨bb,off,none⟩) L->CR 34 #[.slice (some ⟨bb,off,none⟩) L.length cap,.int .i64 p] w (MP (Wt.one f (L.drop p)) p)):=ih;clear ih;go_enter func34,ntmps34;go_wp2_with ((with_reducible refine zAA ?_ 56 (.tmp 17) ?_ bb (off+p * 20) ?_ (zAM x) _ ?_ underlying56 ?_ ?_ ?_);rfl;rfl;rfl;exact hx;rfl;kernel_rfl)
    refine C.mono ?_;rintro e w1 ⟨rfl,hb⟩;have hx1:w1.rangeAt bb (off+p * 20) (zAM x):=λj v hv=>zAC hb (hx j v hv)
    have hO1:=hO.below hb;have HR1:Hid (RdN w1 (some ⟨bb,off,none⟩) L):=HR.out.below hb;clear C hx HR;go_wp2_with ((with_reducible refine zAA ?_ 56 (.tmp 26) ?_ bb (off+p * 20) ?_ (zAM x) _ ?_ underlying56 ?_ ?_ ?_);rfl;rfl;rfl;exact hx1;rfl;kernel_rfl)
    refine (D _).mono ?_;rintro e w2 ⟨rfl,hb2⟩;have hB2:=zAB hb hb2;have hO2:=hO1.below hb2;have HR2:Hid (RdN w2 (some ⟨bb,off,none⟩) L):=HR1.out.below hb2;clear hb hb2 hO1 HR1 D hx1 hfit;go_wp2_with fail
    go_loopg [4,5,29] k (λgk a b c wr=>∃ j e d:Nat,a=.int .i64 e/\b=.int .i64 d/\c=.int .i64 j/\gk=k - j/\j<=k/\p+1<=e/\e<=L.length/\d<=f/\Hid (R=left f (k - j) L e d)/\Below w.heap.size w wr/\OpsAt wr/\Hid (RdN wr (some ⟨bb,off,none⟩) L))
    case atStart=>exact ⟨0,p+1,0,by simp,rfl,rfl,rfl,Nat.zero_le _,Nat.le_refl _,hlt,Nat.zero_le _,E0,hB2,hO2,HR2⟩
    case round =>
     obtain ⟨j,e,d,rfl,rfl,rfl,hg,hj,he1,he2,hdd,HE,hB,hO3,HR3⟩:=hrel;by_cases hjk:j<k
     ·have hji:(j:Int)<(k:Int):=by omega
      have M:=IH.out e wr (by omega) (by omega) hO3 HR3.out;have hkj:k - j=(k - (j+1))+1:=by omega
      rw [hkj] at HE;cases hone:Wt.one f (L.drop e) with
      | none =>
       have E:Hid (R=none):=by show _=_;rw [HE.out,zHa hone]
       rw [hone] at M;clear HE hone IH;go_wp2_with fail
       refine M.mono ?_;rintro e9 w3 ⟨rfl,hb⟩;have hB3:=zAB hB hb;simp only [MP];go_wp2;go_ret3
       exact ⟨by rw [E.out];rfl,hB3⟩
      | some q =>
       obtain ⟨s,d'⟩:=q;have h1:=zJO _ _ _ _ hone;have h2:=zD9 _ _ _ _ hone;rw [List.length_drop] at h1;have E:Hid (R=left f (k - (j+1)) L (e+s) (max d d')):=by show _=_;rw [HE.out,zIv hone]
       rw [hone] at M;clear HE hone IH;go_wp2_with fail
       refine M.mono ?_;rintro e9 w3 ⟨rfl,hb⟩;have hB3:=zAB hB hb;have hO4:=hO3.below hb;have HR4:Hid (RdN w3 (some ⟨bb,off,none⟩) L):=HR3.out.below hb;simp only [MP];go_wp2_with fail
       ·go_roundg (k - (j+1))
        case rel=>exact ⟨j+1,e+s,max d d',by simp,by simp;omega,by simp,rfl,hjk,by omega,by omega,by omega,E,hB3,hO4,HR4⟩
        case measure=>omega
       ·go_roundg (k - (j+1))
        case rel=>exact ⟨j+1,e+s,max d d',by simp,by simp;omega,by simp,rfl,hjk,by omega,by omega,by omega,E,hB3,hO4,HR4⟩
        case measure=>omega
     ·have hji:¬ (j:Int)<(k:Int):=by omega
      have E:Hid (R=some (e,d)):=by show _=_;rw [HE.out,show k - j=0 by omega,zIp]
      clear HE IH;go_wp2;go_ret3
      exact ⟨by rw [E.out];rfl,hB⟩
  ·exact past (f+1) p w hlt hp
end Go.Proofs.YtnloiaoogofklaaGreatDoor
namespace Go.Proofs.YtnloiaoogofklaaGreatDoor.Wf
open Go.Proofs.YtnloiaoogofklaaGreatDoor
structure Br (α:Type) where
 x:Wt.Nd
 ks:List α
def Tr:Nat->Type
 | 0=>Empty
 | n+1=>Br (Tr n)
def hd:(n:Nat)->Tr n->Wt.Nd
 | 0,t=>Empty.elim t
 | _+1,t=>Br.x t
def row:(n:Nat)->Tr n->List Wt.Nd
 | 0,t=>Empty.elim t
 | n+1,t=>Br.x t::((Br.ks t).map (row n)).flatten
def zC0:(n:Nat)->Tr n->Prop
 | 0,t=>Empty.elim t
 | n+1,t=>Wt.right (Br.x t)=true/\Wt.parts (Br.x t)=((Br.ks t).length:Int)/\∀ k ∈ Br.ks t,zC0 n k
theorem zJU {f:Nat} (ih:∀ (l:List Wt.Nd) (s d:Nat),Wt.one f l=some (s,d)->∃ t:Tr f,row f t=l.take s/\zC0 f t) :
  ∀ (k:Nat) (l:List Wt.Nd) (s d:Nat),Wt.many (Wt.one f) k l=some (s,d)->∃ ks:List (Tr f),ks.length=k/\(ks.map (row f)).flatten=l.take s/\∀ t ∈ ks,zC0 f t:=by
 intro k;induction k with
 | zero=>intro l s d h;simp only [Wt.many,Option.some.injEq,Prod.mk.injEq] at h;obtain ⟨rfl,rfl⟩:=h;exact ⟨[],rfl,by simp,λt ht=>by cases ht⟩
 | succ k ihk =>
  intro l s d h;simp only [Wt.many] at h;cases h1:Wt.one f l with
  | none=>rw [h1] at h;cases h
  | some q =>
   obtain ⟨a,b⟩:=q;rw [h1] at h;simp only at h;cases h2:Wt.many (Wt.one f) k (l.drop a) with
   | none=>rw [h2] at h;cases h
   | some q2 =>
    obtain ⟨a2,b2⟩:=q2;rw [h2] at h;simp only [Option.some.injEq,Prod.mk.injEq] at h;obtain ⟨rfl,rfl⟩:=h;obtain ⟨t,e1,f1⟩:=ih l a b h1;obtain ⟨ks,e2,e3,f2⟩:=ihk _ a2 b2 h2;refine ⟨t::ks,by simp [e2],?_,λu hu=>?_⟩
    ·simp only [List.map_cons,List.flatten_cons,e1,e3];rw [List.take_add]
    ·rcases List.mem_cons.1 hu with rfl | hu
     ·exact f1
     ·exact f2 u hu
theorem zGQ:∀ (f:Nat) (l:List Wt.Nd) (s d:Nat),Wt.one f l=some (s,d)->∃ t:Tr f,row f t=l.take s/\zC0 f t
 | 0,l,s,d,h=>by simp [Wt.one] at h
 | f+1,[],s,d,h=>by simp [Wt.one] at h
 | f+1,x::r,s,d,h=>by
  unfold Wt.one at h;split at h
  ·rename_i hx
   cases h1:Wt.many (Wt.one f) (Wt.parts x).toNat r with
   | none=>rw [h1] at h;cases h
   | some q =>
    obtain ⟨a,b⟩:=q;rw [h1] at h;simp only [Option.some.injEq,Prod.mk.injEq] at h;obtain ⟨rfl,rfl⟩:=h;obtain ⟨ks,e1,e2,f1⟩:=zJU (zGQ f) _ _ _ _ h1;refine ⟨(⟨x,ks⟩:Br (Tr f)),?_,hx,?_,f1⟩
    ·show x::(ks.map (row f)).flatten=(x::r).take (a+1)
     rw [e2,List.take_succ_cons]
    ·show Wt.parts x=(ks.length:Int)
     have:=(Wt.parts_le hx).1;omega
  ·cases h
theorem zHA {l:List Wt.Nd} (h:Wt.check l=0):∃ t:Tr (l.length+1),row _ t=l/\zC0 _ t/\l.length<=256:=by
 unfold Wt.check at h;split at h
 ·omega
 ·rename_i hl
  split at h
  ·omega
  ·rename_i s d h1
   split at h
   ·omega
   ·rename_i hs
    obtain ⟨t,e,f⟩:=zGQ _ _ _ _ h1;refine ⟨t,?_,f,by omega⟩;rw [e,show s=l.length from by omega,List.take_length]
end Go.Proofs.YtnloiaoogofklaaGreatDoor.Wf
namespace Go.Proofs.YtnloiaoogofklaaGreatDoor.Wc
structure In where
 op:Int
 a:Int
 b:Int
 v:Wt.Vl
 ce:Wpl.Cl
 ar:Wpl.Ar
 pr:Wpl.Ar
def pairs (id:Int):Bool:=id == 22 || (id == 23 || id == 24)
def swO (o b:Int):Int × Int :=
 if o=1 \/ o=2 \/ o=10 then (0,1) else if o=3 then (1,1) else if o=4 then (2,1) else if o=5 \/ o=11 then (b,1)
 else if o=7 \/ o=12 \/ o=14 \/ o=15 \/ o=16 then (1,0) else (0,0)
def nds (o b:Int):Int × Int × Int :=
 if o=1 \/ o=2 then (0,0,1) else if o=3 then (1,0,0) else if o=4 then (2,0,-1) else if o=5 \/ o=11 then (b,0,1 - b)
 else if o=7 then (1,1,-1) else if o=8 \/ o=9 then (0,1,0) else if o=10 then (0,1,1)
 else if o=12 \/ o=15 \/ o=14 then (1,0,-1) else (0,0,0)
end Go.Proofs.YtnloiaoogofklaaGreatDoor.Wc
namespace Go.Proofs.YtnloiaoogofklaaGreatDoor
open Tryz
open Go.RowKit
variable {w:World} {b:Nat} {tv:Value} {x:Int}
def zAD (x:Wc.In) (tv:Value):List Value :=
 [.int .i64 x.op,.int .i64 x.a,.int .i64 x.b,.int .i64 x.v.k,.int .i64 x.v.n,.int .i64 x.v.d,.string x.v.t,.bool x.v.b,.int .i64 x.v.f,
  .int .i64 x.ce.s,.int .i64 x.ce.r,.int .i64 x.ce.c,
  .int .i64 x.ar.s,.int .i64 x.ar.t,.int .i64 x.ar.l,.int .i64 x.ar.b,.int .i64 x.ar.r,
  .int .i64 x.pr.s,.int .i64 x.pr.t,.int .i64 x.pr.l,.int .i64 x.pr.b,.int .i64 x.pr.r,tv]
abbrev inV (x:Wc.In) (tv:Value):Value:=.agg (zAD x tv).toArray
theorem zBl (id:Int) (w:World):Calls prog 111 #[.int .i64 id] w λe w'=>e=.returned (.bool (Wc.pairs id))/\w=w':=by
 have e:∀ b,Wc.pairs id=b->Hid (Wc.pairs id=b):=λ_ h=>h
 unfold Wc.pairs;by_cases h1:id=22
 ·subst h1;clear e;go_enter func111,ntmps111;go_wp2;go_ret;exact ⟨by simp,rfl⟩
 by_cases h2:id=23
 ·subst h2;clear e;go_enter func111,ntmps111;go_wp2;go_ret;exact ⟨by simp,rfl⟩
 have q1:(id == 22)=false:=by simp [h1]
 have q2:(id == 23)=false:=by simp [h2]
 rw [q1,q2];clear e h1 h2;go_enter func111,ntmps111;go_wp2;go_ret;exact ⟨by simp,rfl⟩
theorem zJc (o:Int):o=1 \/ o=2 \/ o=3 \/ o=4 \/ o=5 \/ o=6 \/ o=7 \/ o=8 \/ o=9 \/ o=10 \/ o=11 \/ o=12 \/ o=13 \/ o=14 \/ o=15 \/ o=16 \/ (o<1 \/ 16<o):=by omega
theorem zGr (x:Wc.In) (tv:Value) (w:World):CR 76 #[inV x tv] w (.tuple #[.int .i64 (Wc.swO x.op x.b).1,.int .i64 (Wc.swO x.op x.b).2]):=by
 have pA:=AtL.new0 w 48 (zAD x tv);have hB:=zAL (Below.refl _ w) (.cells (zAD x tv).toArray 48);have c0:(w.alloc (.cells (zAD x tv).toArray 48)).cell? ⟨w.heap.size,0,none⟩=some (.int .i64 x.op):=pA.2.1 0 _ rfl;have c2:(w.alloc (.cells (zAD x tv).toArray 48)).cell? ⟨w.heap.size,2,none⟩=some (.int .i64 x.b):=pA.2.1 2 _ rfl;obtain ⟨q,hq⟩:∃ q,Wc.swO x.op x.b=q:=⟨_,rfl⟩
 rw [hq];have HQ:Hid (Wc.swO x.op x.b=q):=hq;clear hq pA;rcases zJc x.op with h | h | h | h | h | h | h | h | h | h | h | h | h | h | h | h | h
 case inr.inr.inr.inr.inr.inr.inr.inr.inr.inr.inr.inr.inr.inr.inr.inr =>
  have e:q=(0,0):=by
   have:=HQ.out;unfold Wc.swO at this;rw [<-this];repeat rw [if_neg (by omega)]
  have n1:(x.op == 1)=false:=by simp;omega
  have n2:(x.op == 2)=false:=by simp;omega
  have n3:(x.op == 3)=false:=by simp;omega
  have n4:(x.op == 4)=false:=by simp;omega
  have n5:(x.op == 5)=false:=by simp;omega
  have n6:(x.op == 6)=false:=by simp;omega
  have n7:(x.op == 7)=false:=by simp;omega
  have n8:(x.op == 8)=false:=by simp;omega
  have n9:(x.op == 9)=false:=by simp;omega
  have n10:(x.op == 10)=false:=by simp;omega
  have n11:(x.op == 11)=false:=by simp;omega
  have n12:(x.op == 12)=false:=by simp;omega
  have n13:(x.op == 13)=false:=by simp;omega
  have n14:(x.op == 14)=false:=by simp;omega
  have n15:(x.op == 15)=false:=by simp;omega
  have n16:(x.op == 16)=false:=by simp;omega
  clear HQ h;subst e;go_enter func76,ntmps76;go_upto_region 1 with fail
  generalize (w.alloc (.cells (zAD x tv).toArray 48))=W at *;go_wp2;go_ret2
  exact ⟨rfl,hB⟩
 all_goals
  have e:=HQ.out;rw [h] at c0 e;subst e;clear HQ h;go_enter func76,ntmps76;go_upto_region 1 with fail
  generalize (w.alloc (.cells (zAD x tv).toArray 48))=W at *;go_wp2;go_ret2
  exact ⟨rfl,hB⟩
def RdZ (w:World) (v:Value) (l:List Int):Prop:=∃ av cap,v=.slice av l.length cap/\∀ i (h:i<l.length),∃ bb off,av=some ⟨bb,off,none⟩/\w.cell? ⟨bb,off+i,none⟩=some (.int .i64 (l[i]))
theorem RdZ.below {w':World} {v:Value} {l:List Int} (h:RdZ w v l) (hb:Below w.heap.size w w'):RdZ w' v l:=by
 obtain ⟨av,cap,e,h⟩:=h;refine ⟨av,cap,e,λi hi=>?_⟩;obtain ⟨bb,off,e1,h1⟩:=h i hi;exact ⟨bb,off,e1,zAC hb h1⟩
theorem RdZ.nil (w:World):RdZ w (.slice none 0 0) []:=⟨none,0,rfl,λi hi=>absurd hi (Nat.not_lt_zero _)⟩
theorem RdZ.one (h:w.cell? ⟨b,0,none⟩=some (.int .i64 x)):RdZ w (.slice (some ⟨b,0,none⟩) 1 1) [x]:=by
 refine ⟨_,1,rfl,λi hi=>⟨b,0,rfl,?_⟩⟩;have:i=0:=by simp at hi;omega
 subst this;exact h
theorem RdZ.two {y:Int} (h:w.cell? ⟨b,0,none⟩=some (.int .i64 x)) (h2:w.cell? ⟨b,1,none⟩=some (.int .i64 y)):RdZ w (.slice (some ⟨b,0,none⟩) 2 2) [x,y]:=by
 refine ⟨_,2,rfl,λi hi=>⟨b,0,rfl,?_⟩⟩;have:i=0 \/ i=1:=by simp at hi;omega
 rcases this with rfl | rfl
 ·exact h
 ·exact h2
def onw (o a b:Int) (tl:List Int) (at':Int):List Int × List Int :=
 if o=12 then ([at'+1,a],[b]) else if o=13 then ([],[a]) else if o=14 then ([at'+1],[a]) else if o=15 then (tl,[b]) else if o=16 then ([],[]) else ([at'+1],[])
def Bk (w:World) (tv v:Value):Prop:=v=tv \/ ∀ g,v.ownBlock=some g->w.heap.size<=g
theorem Bk.nil:Bk w tv (.slice none 0 0):=Or.inr λg e=>by cases e
theorem Bk.new {n c:Nat} (h:w.heap.size<=b):Bk w tv (.slice (some ⟨b,0,none⟩) n c):=Or.inr λg e=>by
 have e2:b=g:=by simpa [Value.ownBlock] using e
 subst e2;exact h
theorem Bk.own:Bk w tv tv:=Or.inl rfl
def OnP (w:World) (tv:Value) (w':World) (q:List Int × List Int) (e:Ending):Prop:=∃ c k,e=.returned (.tuple #[c,k])/\RdZ w' c q.1/\RdZ w' k q.2/\Bk w tv c/\Bk w tv k
theorem zIA (x:Wc.In) (tv:Value) (at':Int) (w:World) (h:x.op=12) (ha:0<=at'/\at'<=1000000):Calls prog 47 #[inV x tv,.int .i64 at'] w λe w'=>OnP w tv w' ([at'+1,x.a],[x.b]) e/\Below w.heap.size w w':=by
 have pA:=AtL.new0 w 48 (zAD x tv);have hB:=zAL (Below.refl _ w) (.cells (zAD x tv).toArray 48);have c0:(w.alloc (.cells (zAD x tv).toArray 48)).cell? ⟨w.heap.size,0,none⟩=some (.int .i64 x.op):=pA.2.1 0 _ rfl;have c1:(w.alloc (.cells (zAD x tv).toArray 48)).cell? ⟨w.heap.size,1,none⟩=some (.int .i64 x.a):=pA.2.1 1 _ rfl;have c2:(w.alloc (.cells (zAD x tv).toArray 48)).cell? ⟨w.heap.size,2,none⟩=some (.int .i64 x.b):=pA.2.1 2 _ rfl;have hlt:=pA.lt;have hw:IntKind.i64.wrap (at'+1)=at'+1:=by rw [IntKind.wrap_i64];omega
 rw [h] at c0;clear pA h ha;go_enter func47,ntmps47;go_upto_region 1 with fail
 generalize (w.alloc (.cells (zAD x tv).toArray 48))=W at *;go_upto_region 3 with fail
 go_region
 all_goals
  go_wp2_with fail
  go_ret2
  refine ⟨⟨_,_,rfl,RdZ.two ?_ ?_,RdZ.one ?_,Bk.new ?_,Bk.new ?_⟩,(clB hB)⟩;all_goals first
   | (simp;done)
   | (simp;omega)
   | omega
theorem zJD (x:Wc.In) (av:Option Addr) (n cap:Nat) (tl:List Int) (at':Int) (w:World) (h:x.op=13) (ha:0<=at'/\at'<=1000000) (hz:RdZ w (.slice av n cap) tl):Calls prog 47 #[inV x (.slice av n cap),.int .i64 at'] w λe w'=>OnP w (.slice av n cap) w' ([],[x.a]) e/\Below w.heap.size w w':=by
 have pA:=AtL.new0 w 48 (zAD x (.slice av n cap));have hB:=zAL (Below.refl _ w) (.cells (zAD x (.slice av n cap)).toArray 48);have c0:(w.alloc (.cells (zAD x (.slice av n cap)).toArray 48)).cell? ⟨w.heap.size,0,none⟩=some (.int .i64 x.op):=pA.2.1 0 _ rfl;have c1:(w.alloc (.cells (zAD x (.slice av n cap)).toArray 48)).cell? ⟨w.heap.size,1,none⟩=some (.int .i64 x.a):=pA.2.1 1 _ rfl;have c2:(w.alloc (.cells (zAD x (.slice av n cap)).toArray 48)).cell? ⟨w.heap.size,2,none⟩=some (.int .i64 x.b):=pA.2.1 2 _ rfl;have c22:(w.alloc (.cells (zAD x (.slice av n cap)).toArray 48)).cell? ⟨w.heap.size,22,none⟩=some (.slice av n cap):=pA.2.1 22 _ rfl;have hlt:=pA.lt;have hw:IntKind.i64.wrap (at'+1)=at'+1:=by rw [IntKind.wrap_i64];omega
 have HZ:Hid (RdZ w (.slice av n cap) tl):=hz;rw [h] at c0;clear pA h ha hz;go_enter func47,ntmps47;go_upto_region 1 with fail
 generalize (w.alloc (.cells (zAD x (.slice av n cap)).toArray 48))=W at *;go_upto_region 5 with fail
 go_region
 all_goals
  go_wp2_with fail
  go_ret2
  refine ⟨⟨_,_,rfl,RdZ.nil _,RdZ.one ?_,Bk.nil,Bk.new ?_⟩,(clB hB)⟩;all_goals first
   | (simp;done)
   | (simp;omega)
   | omega
theorem zH6 (x:Wc.In) (av:Option Addr) (n cap:Nat) (tl:List Int) (at':Int) (w:World) (h:x.op=14) (ha:0<=at'/\at'<=1000000) (hz:RdZ w (.slice av n cap) tl):Calls prog 47 #[inV x (.slice av n cap),.int .i64 at'] w λe w'=>OnP w (.slice av n cap) w' ([at'+1],[x.a]) e/\Below w.heap.size w w':=by
 have pA:=AtL.new0 w 48 (zAD x (.slice av n cap));have hB:=zAL (Below.refl _ w) (.cells (zAD x (.slice av n cap)).toArray 48);have c0:(w.alloc (.cells (zAD x (.slice av n cap)).toArray 48)).cell? ⟨w.heap.size,0,none⟩=some (.int .i64 x.op):=pA.2.1 0 _ rfl;have c1:(w.alloc (.cells (zAD x (.slice av n cap)).toArray 48)).cell? ⟨w.heap.size,1,none⟩=some (.int .i64 x.a):=pA.2.1 1 _ rfl;have c2:(w.alloc (.cells (zAD x (.slice av n cap)).toArray 48)).cell? ⟨w.heap.size,2,none⟩=some (.int .i64 x.b):=pA.2.1 2 _ rfl;have c22:(w.alloc (.cells (zAD x (.slice av n cap)).toArray 48)).cell? ⟨w.heap.size,22,none⟩=some (.slice av n cap):=pA.2.1 22 _ rfl;have hlt:=pA.lt;have hw:IntKind.i64.wrap (at'+1)=at'+1:=by rw [IntKind.wrap_i64];omega
 have HZ:Hid (RdZ w (.slice av n cap) tl):=hz;rw [h] at c0;clear pA h ha hz;go_enter func47,ntmps47;go_upto_region 1 with fail
 generalize (w.alloc (.cells (zAD x (.slice av n cap)).toArray 48))=W at *;go_upto_region 7 with fail
 go_region
 all_goals
  go_wp2_with fail
  go_ret2
  refine ⟨⟨_,_,rfl,RdZ.one ?_,RdZ.one ?_,Bk.new ?_,Bk.new ?_⟩,(clB hB)⟩;all_goals first
   | (simp;done)
   | (simp;omega)
   | omega
theorem zJR (x:Wc.In) (av:Option Addr) (n cap:Nat) (tl:List Int) (at':Int) (w:World) (h:x.op=15) (ha:0<=at'/\at'<=1000000) (hz:RdZ w (.slice av n cap) tl):Calls prog 47 #[inV x (.slice av n cap),.int .i64 at'] w λe w'=>OnP w (.slice av n cap) w' (tl,[x.b]) e/\Below w.heap.size w w':=by
 have pA:=AtL.new0 w 48 (zAD x (.slice av n cap));have hB:=zAL (Below.refl _ w) (.cells (zAD x (.slice av n cap)).toArray 48);have c0:(w.alloc (.cells (zAD x (.slice av n cap)).toArray 48)).cell? ⟨w.heap.size,0,none⟩=some (.int .i64 x.op):=pA.2.1 0 _ rfl;have c1:(w.alloc (.cells (zAD x (.slice av n cap)).toArray 48)).cell? ⟨w.heap.size,1,none⟩=some (.int .i64 x.a):=pA.2.1 1 _ rfl;have c2:(w.alloc (.cells (zAD x (.slice av n cap)).toArray 48)).cell? ⟨w.heap.size,2,none⟩=some (.int .i64 x.b):=pA.2.1 2 _ rfl;have c22:(w.alloc (.cells (zAD x (.slice av n cap)).toArray 48)).cell? ⟨w.heap.size,22,none⟩=some (.slice av n cap):=pA.2.1 22 _ rfl;have hlt:=pA.lt;have hw:IntKind.i64.wrap (at'+1)=at'+1:=by rw [IntKind.wrap_i64];omega
 have HZ:Hid (RdZ w (.slice av n cap) tl):=hz;rw [h] at c0;clear pA h ha hz;go_enter func47,ntmps47;go_upto_region 1 with fail
 generalize (w.alloc (.cells (zAD x (.slice av n cap)).toArray 48))=W at *;go_upto_region 9 with fail
 go_region
 all_goals
  go_wp2_with fail
  go_ret2
  refine ⟨⟨_,_,rfl,HZ.out.below (clB hB),RdZ.one ?_,Bk.own,Bk.new ?_⟩,(clB hB)⟩;all_goals first
   | (simp;done)
   | (simp;omega)
   | omega
theorem zI3 (x:Wc.In) (av:Option Addr) (n cap:Nat) (tl:List Int) (at':Int) (w:World) (h:x.op=16) (ha:0<=at'/\at'<=1000000) (hz:RdZ w (.slice av n cap) tl):Calls prog 47 #[inV x (.slice av n cap),.int .i64 at'] w λe w'=>OnP w (.slice av n cap) w' ([],[]) e/\Below w.heap.size w w':=by
 have pA:=AtL.new0 w 48 (zAD x (.slice av n cap));have hB:=zAL (Below.refl _ w) (.cells (zAD x (.slice av n cap)).toArray 48);have c0:(w.alloc (.cells (zAD x (.slice av n cap)).toArray 48)).cell? ⟨w.heap.size,0,none⟩=some (.int .i64 x.op):=pA.2.1 0 _ rfl;have c1:(w.alloc (.cells (zAD x (.slice av n cap)).toArray 48)).cell? ⟨w.heap.size,1,none⟩=some (.int .i64 x.a):=pA.2.1 1 _ rfl;have c2:(w.alloc (.cells (zAD x (.slice av n cap)).toArray 48)).cell? ⟨w.heap.size,2,none⟩=some (.int .i64 x.b):=pA.2.1 2 _ rfl;have c22:(w.alloc (.cells (zAD x (.slice av n cap)).toArray 48)).cell? ⟨w.heap.size,22,none⟩=some (.slice av n cap):=pA.2.1 22 _ rfl;have hlt:=pA.lt;have hw:IntKind.i64.wrap (at'+1)=at'+1:=by rw [IntKind.wrap_i64];omega
 have HZ:Hid (RdZ w (.slice av n cap) tl):=hz;rw [h] at c0;clear pA h ha hz;go_enter func47,ntmps47;go_upto_region 1 with fail
 generalize (w.alloc (.cells (zAD x (.slice av n cap)).toArray 48))=W at *;all_goals
  go_wp2;go_ret2
  exact ⟨⟨_,_,rfl,RdZ.nil _,RdZ.nil _,Bk.nil,Bk.nil⟩,hB⟩
theorem zKV (x:Wc.In) (av:Option Addr) (n cap:Nat) (at':Int) (w:World) (h:¬ (12<=x.op/\x.op<=16)) (ha:0<=at'/\at'<=1000000):Calls prog 47 #[inV x (.slice av n cap),.int .i64 at'] w λe w'=>OnP w (.slice av n cap) w' ([at'+1],[]) e/\Below w.heap.size w w':=by
 have pA:=AtL.new0 w 48 (zAD x (.slice av n cap));have hB:=zAL (Below.refl _ w) (.cells (zAD x (.slice av n cap)).toArray 48);have c0:(w.alloc (.cells (zAD x (.slice av n cap)).toArray 48)).cell? ⟨w.heap.size,0,none⟩=some (.int .i64 x.op):=pA.2.1 0 _ rfl;have c1:(w.alloc (.cells (zAD x (.slice av n cap)).toArray 48)).cell? ⟨w.heap.size,1,none⟩=some (.int .i64 x.a):=pA.2.1 1 _ rfl;have c2:(w.alloc (.cells (zAD x (.slice av n cap)).toArray 48)).cell? ⟨w.heap.size,2,none⟩=some (.int .i64 x.b):=pA.2.1 2 _ rfl;have c22:(w.alloc (.cells (zAD x (.slice av n cap)).toArray 48)).cell? ⟨w.heap.size,22,none⟩=some (.slice av n cap):=pA.2.1 22 _ rfl;have hlt:=pA.lt;have hw:IntKind.i64.wrap (at'+1)=at'+1:=by rw [IntKind.wrap_i64];omega
 have n12:(x.op == 12)=false:=by simp;omega
 have n13:(x.op == 13)=false:=by simp;omega
 have n14:(x.op == 14)=false:=by simp;omega
 have n15:(x.op == 15)=false:=by simp;omega
 have n16:(x.op == 16)=false:=by simp;omega
 clear pA h ha;go_enter func47,ntmps47;go_upto_region 1 with fail
 generalize (w.alloc (.cells (zAD x (.slice av n cap)).toArray 48))=W at *;go_wp2;go_ret2
 refine ⟨⟨_,_,rfl,RdZ.one ?_,RdZ.nil _,Bk.new ?_,Bk.nil⟩,(clB hB)⟩;all_goals first
  | (simp;done)
  | (simp;omega)
  | omega
theorem zBi (x:Wc.In) (av:Option Addr) (n cap:Nat) (tl:List Int) (at':Int) (w:World) (ha:0<=at'/\at'<=1000000) (hz:RdZ w (.slice av n cap) tl):Calls prog 47 #[inV x (.slice av n cap),.int .i64 at'] w λe w'=>OnP w (.slice av n cap) w' (onw x.op x.a x.b tl at') e/\Below w.heap.size w w':=by
 unfold onw;by_cases h12:x.op=12
 ·rw [if_pos h12];exact zIA x _ at' w h12 ha
 by_cases h13:x.op=13
 ·rw [if_neg h12,if_pos h13];exact zJD x av n cap tl at' w h13 ha hz
 by_cases h14:x.op=14
 ·rw [if_neg h12,if_neg h13,if_pos h14];exact zH6 x av n cap tl at' w h14 ha hz
 by_cases h15:x.op=15
 ·rw [if_neg h12,if_neg h13,if_neg h14,if_pos h15];exact zJR x av n cap tl at' w h15 ha hz
 by_cases h16:x.op=16
 ·rw [if_neg h12,if_neg h13,if_neg h14,if_neg h15,if_pos h16];exact zI3 x av n cap tl at' w h16 ha hz
 rw [if_neg h12,if_neg h13,if_neg h14,if_neg h15,if_neg h16];exact zKV x av n cap at' w (by omega) ha
def SmA (a:Wpl.Ar):Prop:=(-1000000<=a.t/\a.t<=1000000)/\(-1000000<=a.l/\a.l<=1000000)/\(-1000000<=a.b/\a.b<=1000000)/\(-1000000<=a.r/\a.r<=1000000)
abbrev ar5 (a:Wpl.Ar):List Value:=[.int .i64 a.s,.int .i64 a.t,.int .i64 a.l,.int .i64 a.b,.int .i64 a.r]
def shp (a b:Wpl.Ar):Bool:=(a.b - a.t == b.b - b.t) && (a.r - a.l == b.r - b.l)
theorem zCx (a:Wpl.Ar) (w:World) (h:SmA a):CR 95 #[.agg (ar5 a).toArray] w (.int .i64 (a.b - a.t+1)):=by
 have pA:=AtL.new0 w 45 (ar5 a);have hB:=zAL (Below.refl _ w) (.cells (ar5 a).toArray 45);have c1:(w.alloc (.cells (ar5 a).toArray 45)).cell? ⟨w.heap.size,1,none⟩=some (.int .i64 a.t):=pA.2.1 1 _ rfl;have c3:(w.alloc (.cells (ar5 a).toArray 45)).cell? ⟨w.heap.size,3,none⟩=some (.int .i64 a.b):=pA.2.1 3 _ rfl;obtain ⟨h1,h2,h3,h4⟩:=h;have w1:IntKind.i64.wrap (a.b - a.t)=a.b - a.t:=by rw [IntKind.wrap_i64];omega
 have w2:IntKind.i64.wrap (a.b - a.t+1)=a.b - a.t+1:=by rw [IntKind.wrap_i64];omega
 clear pA h1 h2 h3 h4;go_enter func95,ntmps95;go_upto_region 1 with fail
 generalize (w.alloc (.cells (ar5 a).toArray 45))=W at *;go_wp2;go_ret;exact ⟨by simp,hB⟩
theorem zCt (a:Wpl.Ar) (w:World) (h:SmA a):CR 96 #[.agg (ar5 a).toArray] w (.int .i64 (a.r - a.l+1)):=by
 have pA:=AtL.new0 w 45 (ar5 a);have hB:=zAL (Below.refl _ w) (.cells (ar5 a).toArray 45);have c1:(w.alloc (.cells (ar5 a).toArray 45)).cell? ⟨w.heap.size,2,none⟩=some (.int .i64 a.l):=pA.2.1 2 _ rfl;have c3:(w.alloc (.cells (ar5 a).toArray 45)).cell? ⟨w.heap.size,4,none⟩=some (.int .i64 a.r):=pA.2.1 4 _ rfl;obtain ⟨h1,h2,h3,h4⟩:=h;have w1:IntKind.i64.wrap (a.r - a.l)=a.r - a.l:=by rw [IntKind.wrap_i64];omega
 have w2:IntKind.i64.wrap (a.r - a.l+1)=a.r - a.l+1:=by rw [IntKind.wrap_i64];omega
 clear pA h1 h2 h3 h4;go_enter func96,ntmps96;go_upto_region 1 with fail
 generalize (w.alloc (.cells (ar5 a).toArray 45))=W at *;go_wp2;go_ret;exact ⟨by simp,hB⟩
