/- TPlainB, TRight, TMeas, TTree, MPlain, PWalkC, PWalkT, TCheck, LName. -/
import Derived.Test.YtdghjlmnlodnlaaGreatDoorQ06
import Derived.Lib.Strings
set_option maxHeartbeats 4000000
set_option maxRecDepth 100000
namespace Go.Proofs.YtdghjlmnlodnlaaGreatDoor.Wt
open Go.Proofs.YtdghjlmnlodnlaaGreatDoor
def right (x:Nd):Bool :=
 if x.k=1 then vlOk x.v && eqN x ⟨1,x.v,0,⟨#[]⟩,0,Wt.r0,Wt.r0⟩
 else if x.k=2 then rfOk x.a && eqN x ⟨2,Wt.v0,0,⟨#[]⟩,0,x.a,Wt.r0⟩
 else if x.k=3 then (rfOk x.a && rfOk x.b && x.b.s.toList.isEmpty) && eqN x ⟨3,Wt.v0,0,⟨#[]⟩,0,x.a,x.b⟩
 else if x.k=4 then opK x.op == 4 && eqN x ⟨4,Wt.v0,x.op,⟨#[]⟩,0,Wt.r0,Wt.r0⟩
 else if x.k=5 then opK x.op == 5 && eqN x ⟨5,Wt.v0,x.op,⟨#[]⟩,0,Wt.r0,Wt.r0⟩
 else if x.k=6 then (fnNm x.nm && decide (0<=x.ar) && decide (x.ar<=30)) && eqN x ⟨6,Wt.v0,0,x.nm,x.ar,Wt.r0,Wt.r0⟩
 else false
def FitV (v:Vl):Prop:=(-9223372036854775808<=v.n/\v.n<=9223372036854775807)/\(-9223372036854775808<=v.d/\v.d<=9223372036854775807)/\v.t.size<=9223372036854775807
def FitN (x:Nd):Prop:=FitV x.v/\x.nm.size<=9223372036854775807/\x.a.s.size<=9223372036854775807/\x.b.s.size<=9223372036854775807
theorem parts_le {x:Nd} (h:right x=true):0<=parts x/\parts x<=30:=by
 unfold right at h;unfold parts;by_cases h4:x.k=4
 ·rw [if_pos h4];omega
 rw [if_neg h4];by_cases h5:x.k=5
 ·rw [if_pos h5];omega
 rw [if_neg h5];by_cases h1:x.k=1
 ·rw [if_pos h1,Bool.and_eq_true,zAb] at h;have:=congrArg Nd.ar h.2;simp only at this;omega
 rw [if_neg h1] at h;by_cases h1:x.k=2
 ·rw [if_pos h1,Bool.and_eq_true,zAb] at h;have:=congrArg Nd.ar h.2;simp only at this;omega
 rw [if_neg h1] at h;by_cases h1:x.k=3
 ·rw [if_pos h1,Bool.and_eq_true,zAb] at h;have:=congrArg Nd.ar h.2;simp only at this;omega
 rw [if_neg h1,if_neg h4,if_neg h5] at h;by_cases h1:x.k=6
 ·rw [if_pos h1] at h;simp only [Bool.and_eq_true,decide_eq_true_eq] at h;omega
 ·rw [if_neg h1] at h;cases h
def many (sub:List Nd->Option (Nat × Nat)):Nat->List Nd->Option (Nat × Nat)
 | 0,_=>some (0,0)
 | k+1,l=>match sub l with
  | none=>none
  | some (s,d)=>match many sub k (l.drop s) with
   | none=>none
   | some (s',d')=>some (s+s',max d d')
def one:Nat->List Nd->Option (Nat × Nat)
 | 0,_=>none
 | _+1,[]=>none
 | f+1,x::r=>if right x then (match many (one f) (parts x).toNat r with | none=>none | some (s,d)=>some (s+1,d+1)) else none
def check (l:List Nd):Int :=
 if 256<l.length then 52
 else match one (l.length+1) l with
  | none=>53
  | some (s,d)=>if s ≠ l.length then 53 else if 32<d then 51 else 0
end Go.Proofs.YtdghjlmnlodnlaaGreatDoor.Wt
namespace Go.Proofs.YtdghjlmnlodnlaaGreatDoor
open Tryz
open Go.RowKit
set_option linter.unusedVariables false
variable {f d s k e:Nat} {x y:Int} {n:Wt.Nd} {L l:List Wt.Nd} {a:Wt.Rf} {c:UInt8}
theorem zMJ (x:Wt.Nd) (w:World) (h1:(x.k == 1)=false) (h2:(x.k == 2)=false) (h3:(x.k == 3)=false) (h4:(x.k == 4)=false) (h5:(x.k == 5)=false) (h6:(x.k == 6)=false) :
  CR 44 #[ndV x] w (.bool false):=by
 obtain ⟨k,hk⟩:∃ k,x.k=k:=⟨_,rfl⟩
 rw [hk] at h1 h2 h3 h4 h5 h6;have pA0:AtL (two w x) w.heap.size (zAD x):=(AtL.new0 w _ _).alloc _;have pO0:AtL (two w x) (w.heap.size+1) (zAD (bare 0)):=AtL.new1 w _ _ _;have hth:World.there (two w x) (w.heap.size+1) 0 (zAD (bare k)).toArray.size:=pO0.there;have hne:w.heap.size+1 ≠ w.heap.size:=by omega
 have pA:=pA0.farAll hne 0 (zAD (bare k));have pO:AtL ((two w x).setCells (w.heap.size+1) 0 (zAD (bare k))) (w.heap.size+1) (zAD (bare k)):=pO0.setAll rfl;have hBa:Below w.heap.size w ((two w x).setCells (w.heap.size+1) 0 (zAD (bare k))):=zAu (zAI (zAI (Below.refl _ w) _) _) (Nat.le_succ _) _ 0;clear pA0 pO0;have n0:(zAD x)[0]? = some (.int .i64 k):=by rw [<-hk];rfl
 have a0:World.cell? ((two w x).setCells (w.heap.size+1) 0 (zAD (bare k))) ⟨w.heap.size,0,none⟩=some (.int .i64 k):=pA.2.1 0 _ n0;show Calls _ _ #[.agg (zAD x).toArray] _ _
 go_enter func44,ntmps44;go_upto_region 1 with fail
 go_upto_region 2 with ((with_reducible refine wpList_store_mid ?_ 30 (.tmp 3) (.tmp 9) ?_ (w.heap.size+1) 0 (zAD (bare k)).toArray ?_ ?_ ?_ ?_ ?_ ?_);rfl;rfl;rfl;rfl;exact hth;kernel_rfl;exact zAc _)
 generalize (two w x).setCells (w.heap.size+1) 0 (zAD (bare k))=W0 at *;clear hth;go_wp2;go_ret;exact ⟨rfl,hBa⟩
theorem zIA (x:Wt.Nd) (w:World) (hf:Wt.FitN x) (hO:OpsAt w):CR 44 #[ndV x] w (.bool (Wt.right x)):=by
 obtain ⟨⟨⟨f1,f2⟩,⟨f3,f4⟩,f5⟩,f6,f7,f8⟩:=hf;unfold Wt.right;by_cases h1:x.k=1
 ·rw [if_pos h1];exact zLx x w h1 f1 f2 f3 f4 f5
 rw [if_neg h1];by_cases h2:x.k=2
 ·rw [if_pos h2];exact zMh x w h2 f7
 rw [if_neg h2];by_cases h3:x.k=3
 ·rw [if_pos h3];exact zM6 x w h3 f7 f8
 rw [if_neg h3];by_cases h4:x.k=4
 ·rw [if_pos h4];exact zM0 x w h4 hO
 rw [if_neg h4];by_cases h5:x.k=5
 ·rw [if_pos h5];exact zL8 x w h5 hO
 rw [if_neg h5];by_cases h6:x.k=6
 ·rw [if_pos h6];exact zL4 x w h6 f6
 rw [if_neg h6];exact zMJ x w (by simp [h1]) (by simp [h2]) (by simp [h3]) (by simp [h4]) (by simp [h5]) (by simp [h6])
def RdN (w:World) (av:Option Addr) (L:List Wt.Nd):Prop:=∀ i (h:i<L.length),∃ bb off,av=some ⟨bb,off,none⟩/\w.rangeAt bb (off+i * 20) (zAD (L[i]))
theorem RdN.below {w w':World} {av:Option Addr} (h:RdN w av L) (hb:Below w.heap.size w w'):RdN w' av L:=λi hi=>by
 obtain ⟨bb,off,e,hr⟩:=h i hi;exact ⟨bb,off,e,λj v hv=>zAM hb (hr j v hv)⟩
def MP (r:Option (Nat × Nat)) (p:Nat):Value:=match r with
 | some (s,d)=>.tuple #[.int .i64 ((p+s:Nat):Int),.int .i64 (d:Int),.bool true]
 | none=>.tuple #[.int .i64 0,.int .i64 0,.bool false]
def left (f k:Nat) (L:List Wt.Nd) (e d:Nat):Option (Nat × Nat):=match Wt.many (Wt.one f) k (L.drop e) with
 | some (s,d')=>some (e+s,max d d')
 | none=>none
theorem zFj (f:Nat) (L:List Wt.Nd) (e d:Nat):left f 0 L e d=some (e,d):=by simp [left,Wt.many]
theorem zF5 (h:Wt.one f (L.drop e)=none):left f (k+1) L e d=none:=by simp [left,Wt.many,h]
theorem zFH {d':Nat} (h:Wt.one f (L.drop e)=some (s,d')):left f (k+1) L e d=left f k L (e+s) (max d d'):=by
 simp only [left,Wt.many,h,List.drop_drop];cases Wt.many (Wt.one f) k (List.drop (e+s) L) with
 | none=>rfl
 | some q=>obtain ⟨a,b⟩:=q;simp only [Option.some.injEq,Prod.mk.injEq];omega
theorem zJj (ih:∀ (l:List Wt.Nd) (s d:Nat),Wt.one f l=some (s,d)->s<=l.length):∀ (k:Nat) (l:List Wt.Nd) (s d:Nat),Wt.many (Wt.one f) k l=some (s,d)->s<=l.length:=by
 intro k;induction k with
 | zero=>intro l s d h;simp only [Wt.many,Option.some.injEq,Prod.mk.injEq] at h;omega
 | succ k ihk =>
  intro l s d h;simp only [Wt.many] at h;cases h1:Wt.one f l with
  | none=>rw [h1] at h;cases h
  | some q =>
   obtain ⟨a,b⟩:=q;rw [h1] at h;simp only at h;cases h2:Wt.many (Wt.one f) k (l.drop a) with
   | none=>rw [h2] at h;cases h
   | some q2 =>
    obtain ⟨a2,b2⟩:=q2;rw [h2] at h;simp only [Option.some.injEq,Prod.mk.injEq] at h;have:=ih l a b h1;have:=ihk _ a2 b2 h2;rw [List.length_drop] at this;omega
theorem zD4:∀ (f:Nat) (l:List Wt.Nd) (s d:Nat),Wt.one f l=some (s,d)->s<=l.length
 | 0,l,s,d,h=>by simp [Wt.one] at h
 | f+1,[],s,d,h=>by simp [Wt.one] at h
 | f+1,x::r,s,d,h=>by
  unfold Wt.one at h;split at h
  ·cases h1:Wt.many (Wt.one f) (Wt.parts x).toNat r with
   | none=>rw [h1] at h;cases h
   | some q =>
    obtain ⟨a,b⟩:=q;rw [h1] at h;simp only [Option.some.injEq,Prod.mk.injEq] at h;have:=zJj (zD4 f) _ _ _ _ h1;simp only [List.length_cons];omega
  ·cases h
theorem zJH (ih:∀ (l:List Wt.Nd) (s d:Nat),Wt.one f l=some (s,d)->d<=f):∀ (k:Nat) (l:List Wt.Nd) (s d:Nat),Wt.many (Wt.one f) k l=some (s,d)->d<=f:=by
 intro k;induction k with
 | zero=>intro l s d h;simp only [Wt.many,Option.some.injEq,Prod.mk.injEq] at h;omega
 | succ k ihk =>
  intro l s d h;simp only [Wt.many] at h;cases h1:Wt.one f l with
  | none=>rw [h1] at h;cases h
  | some q =>
   obtain ⟨a,b⟩:=q;rw [h1] at h;simp only at h;cases h2:Wt.many (Wt.one f) k (l.drop a) with
   | none=>rw [h2] at h;cases h
   | some q2 =>
    obtain ⟨a2,b2⟩:=q2;rw [h2] at h;simp only [Option.some.injEq,Prod.mk.injEq] at h;have:=ih l a b h1;have:=ihk _ a2 b2 h2;omega
theorem zBk:∀ (f:Nat) (l:List Wt.Nd) (s d:Nat),Wt.one f l=some (s,d)->d<=f
 | 0,l,s,d,h=>by simp [Wt.one] at h
 | f+1,[],s,d,h=>by simp [Wt.one] at h
 | f+1,x::r,s,d,h=>by
  unfold Wt.one at h;split at h
  ·cases h1:Wt.many (Wt.one f) (Wt.parts x).toNat r with
   | none=>rw [h1] at h;cases h
   | some q =>
    obtain ⟨a,b⟩:=q;rw [h1] at h;simp only [Option.some.injEq,Prod.mk.injEq] at h;have:=zJH (zBk f) _ _ _ _ h1;omega
  ·cases h
def MR (r:Option (Nat × Nat)):Value:=match r with
 | some (e,d)=>.tuple #[.int .i64 (e:Int),.int .i64 ((d:Int)+1),.bool true]
 | none=>.tuple #[.int .i64 0,.int .i64 0,.bool false]
theorem zKl {x:Wt.Nd} (h:Wt.right x=true) (f:Nat) (L:List Wt.Nd) (p:Nat):MP (Wt.one (f+1) (x::L.drop (p+1))) p=MR (left f (Wt.parts x).toNat L (p+1) 0):=by
 unfold left;simp only [Wt.one];rw [if_pos h];cases Wt.many (Wt.one f) (Wt.parts x).toNat (L.drop (p+1)) with
 | none=>rfl
 | some q =>
  obtain ⟨s,d⟩:=q;simp only [MP,MR];rw [show ((p+(s+1):Nat):Int)=((p+1+s:Nat):Int) by omega,show ((d+1:Nat):Int)=((max 0 d:Nat):Int)+1 by omega]
theorem zIw {x:Wt.Nd} (h:Wt.right x=false) (f:Nat) (r:List Wt.Nd):Wt.one (f+1) (x::r)=none:=by
 simp only [Wt.one];rw [if_neg (by rw [h];decide)]
theorem zLR (av:Option Addr) (cap:Nat) (L:List Wt.Nd) (hL:L.length<=256) (hF:∀ x ∈ L,Wt.FitN x) (f:Nat):f<=1000->∀ (p:Nat) (w:World),L.length<f+p->p<=256->OpsAt w->RdN w av L ->
  CR 27 #[.slice av L.length cap,.int .i64 p] w (MP (Wt.one f (L.drop p)) p):=by
 have past:∀ (f p:Nat) (w:World),¬ p<L.length->p<=256->CR 27 #[.slice av L.length cap,.int .i64 p] w (MP (Wt.one f (L.drop p)) p):=by
  intro f p w hlt hp;have hd:L.drop p=[]:=List.drop_eq_nil_of_le (by omega);have E:Hid (Wt.one f (L.drop p)=none):=by
   show _=_
   rw [hd];cases f <;> rfl
  rw [E.out];clear E hd;have hli:(L.length:Int)<=(p:Int):=by omega
  go_enter func27,ntmps27;go_wp2;go_ret3
  exact ⟨rfl,Below.refl _ _⟩
 induction f with
 | zero=>intro _ p w hf hp hO hr;exact past 0 p w (by omega) hp
 | succ f ih =>
  intro hf1 p w hf hp hO hr;by_cases hlt:p<L.length
  ·clear past;replace ih:=ih (by omega)
   obtain ⟨bb,off,rfl,hx⟩:=hr p hlt;have hd:=List.drop_eq_getElem_cons hlt;have hfit:=hF _ (List.getElem_mem hlt);have HR:Hid (RdN w (some ⟨bb,off,none⟩) L):=hr;clear hr;rw [hd];generalize L[p]=x at *;have C:=zIA x w hfit hO;have hple:=@Wt.parts_le x;have hli:¬ (L.length:Int)<=(p:Int):=by omega
   cases hq:Wt.right x with
   | false =>
    rw [hq] at C;rw [zIw hq];clear ih;go_enter func27,ntmps27;go_wp2_with ((with_reducible refine zAE ?_ 30 (.tmp 17) ?_ bb (off+p * 20) ?_ (zAD x) _ ?_ underlying30 ?_ ?_ ?_);rfl;rfl;rfl;exact hx;rfl;kernel_rfl)
    refine C.mono ?_;rintro e w1 ⟨rfl,hb⟩;go_wp2;go_ret3
    exact ⟨rfl,hb⟩
   | true =>
    rw [hq] at C;obtain ⟨hk0,hk1⟩:=hple hq;rw [zKl hq];clear hple hq;have D:=λw=>zHo x w
    obtain ⟨k,hk⟩:∃ k:Nat,(Wt.parts x).toNat=k:=⟨_,rfl⟩
    have hkk:Wt.parts x=(k:Int):=by omega
    rw [hk];rw [hkk] at D;have hk2:k<=30:=by omega
    clear hk0 hk1 hk hkk;obtain ⟨R,hR⟩:∃ R,left f k L (p+1) 0=R:=⟨_,rfl⟩
    have E0:Hid (R=left f (k - 0) L (p+1) 0):=hR.symm;rw [hR];clear hR;have IH:Hid (∀ (p:Nat) (w:World),L.length<f+p->p<=256->OpsAt w->RdN w (some ⟨bb,off,none⟩) L->CR 27 #[.slice (some ⟨bb,off,none⟩) L.length cap,.int .i64 p] w (MP (Wt.one f (L.drop p)) p)):=ih;clear ih;go_enter func27,ntmps27;go_wp2_with ((with_reducible refine zAE ?_ 30 (.tmp 17) ?_ bb (off+p * 20) ?_ (zAD x) _ ?_ underlying30 ?_ ?_ ?_);rfl;rfl;rfl;exact hx;rfl;kernel_rfl)
    refine C.mono ?_;rintro e w1 ⟨rfl,hb⟩;have hx1:w1.rangeAt bb (off+p * 20) (zAD x):=λj v hv=>zAM hb (hx j v hv)
    have hO1:=hO.below hb;have HR1:Hid (RdN w1 (some ⟨bb,off,none⟩) L):=HR.out.below hb;clear C hx HR;go_wp2_with ((with_reducible refine zAE ?_ 30 (.tmp 26) ?_ bb (off+p * 20) ?_ (zAD x) _ ?_ underlying30 ?_ ?_ ?_);rfl;rfl;rfl;exact hx1;rfl;kernel_rfl)
    refine (D _).mono ?_;rintro e w2 ⟨rfl,hb2⟩;have hB2:=zAA hb hb2;have hO2:=hO1.below hb2;have HR2:Hid (RdN w2 (some ⟨bb,off,none⟩) L):=HR1.out.below hb2;clear hb hb2 hO1 HR1 D hx1 hfit;go_wp2_with fail
    go_loopg [4,5,29] k (λgk a b c wr=>∃ j e d:Nat,a=.int .i64 e/\b=.int .i64 d/\c=.int .i64 j/\gk=k - j/\j<=k/\p+1<=e/\e<=L.length/\d<=f/\Hid (R=left f (k - j) L e d)/\Below w.heap.size w wr/\OpsAt wr/\Hid (RdN wr (some ⟨bb,off,none⟩) L))
    case atStart=>exact ⟨0,p+1,0,by simp,rfl,rfl,rfl,Nat.zero_le _,Nat.le_refl _,hlt,Nat.zero_le _,E0,hB2,hO2,HR2⟩
    case round =>
     obtain ⟨j,e,d,rfl,rfl,rfl,hg,hj,he1,he2,hdd,HE,hB,hO3,HR3⟩:=hrel;by_cases hjk:j<k
     ·have hji:(j:Int)<(k:Int):=by omega
      have M:=IH.out e wr (by omega) (by omega) hO3 HR3.out;have hkj:k - j=(k - (j+1))+1:=by omega
      rw [hkj] at HE;cases hone:Wt.one f (L.drop e) with
      | none =>
       have E:Hid (R=none):=by show _=_;rw [HE.out,zF5 hone]
       rw [hone] at M;clear HE hone IH;go_wp2_with fail
       refine M.mono ?_;rintro e9 w3 ⟨rfl,hb⟩;have hB3:=zAA hB hb;simp only [MP];go_wp2;go_ret3
       exact ⟨by rw [E.out];rfl,hB3⟩
      | some q =>
       obtain ⟨s,d'⟩:=q;have h1:=zD4 _ _ _ _ hone;have h2:=zBk _ _ _ _ hone;rw [List.length_drop] at h1;have E:Hid (R=left f (k - (j+1)) L (e+s) (max d d')):=by show _=_;rw [HE.out,zFH hone]
       rw [hone] at M;clear HE hone IH;go_wp2_with fail
       refine M.mono ?_;rintro e9 w3 ⟨rfl,hb⟩;have hB3:=zAA hB hb;have hO4:=hO3.below hb;have HR4:Hid (RdN w3 (some ⟨bb,off,none⟩) L):=HR3.out.below hb;simp only [MP];go_wp2_with fail
       ·go_roundg (k - (j+1))
        case rel=>exact ⟨j+1,e+s,max d d',by simp,by simp;omega,by simp,rfl,hjk,by omega,by omega,by omega,E,hB3,hO4,HR4⟩
        case measure=>omega
       ·go_roundg (k - (j+1))
        case rel=>exact ⟨j+1,e+s,max d d',by simp,by simp;omega,by simp,rfl,hjk,by omega,by omega,by omega,E,hB3,hO4,HR4⟩
        case measure=>omega
     ·have hji:¬ (j:Int)<(k:Int):=by omega
      have E:Hid (R=some (e,d)):=by show _=_;rw [HE.out,show k - j=0 by omega,zFj]
      clear HE IH;go_wp2;go_ret3
      exact ⟨by rw [E.out];rfl,hB⟩
  ·exact past (f+1) p w hlt hp
theorem zK7 {α:Type} {m l:List α} {a:Nat} (h:m.take s=l.take s) (ha:a<=s):m.take a=l.take a:=by
 have:=congrArg (List.take a) h;rwa [List.take_take,List.take_take,Nat.min_eq_left ha] at this
theorem zGc {α:Type} {m l:List α} {a b:Nat} (h:m.take (a+b)=l.take (a+b)):(m.drop a).take b=(l.drop a).take b:=by
 have:=congrArg (List.drop a) h;rwa [List.drop_take,List.drop_take,Nat.add_sub_cancel_left] at this
def Loc (f:Nat):Prop:=∀ (l:List Wt.Nd) (s d:Nat),Wt.one f l=some (s,d)->1<=d/\d<=s/\∀ g m,d<=g->m.take s=l.take s->Wt.one g m=some (s,d)
theorem zH3 (ih:Loc f):∀ (k:Nat) (l:List Wt.Nd) (s d:Nat),Wt.many (Wt.one f) k l=some (s,d)->d<=s/\∀ g m,d<=g->m.take s=l.take s->Wt.many (Wt.one g) k m=some (s,d):=by
 intro k;induction k with
 | zero=>intro l s d h;simp only [Wt.many,Option.some.injEq,Prod.mk.injEq] at h;obtain ⟨rfl,rfl⟩:=h;exact ⟨Nat.le_refl _,λg m _ _=>rfl⟩
 | succ k ihk =>
  intro l s d h;simp only [Wt.many] at h;cases h1:Wt.one f l with
  | none=>rw [h1] at h;cases h
  | some q =>
   obtain ⟨a,b⟩:=q;rw [h1] at h;simp only at h;cases h2:Wt.many (Wt.one f) k (l.drop a) with
   | none=>rw [h2] at h;cases h
   | some q2 =>
    obtain ⟨a2,b2⟩:=q2;rw [h2] at h;simp only [Option.some.injEq,Prod.mk.injEq] at h;obtain ⟨rfl,rfl⟩:=h;obtain ⟨i0,i1,i2⟩:=ih l a b h1;obtain ⟨j1,j2⟩:=ihk _ a2 b2 h2;refine ⟨by omega,λg m hg hm=>?_⟩;have e1:=i2 g m (by omega) (zK7 hm (by omega));have e2:=j2 g (m.drop a) (by omega) (zGc hm);simp only [Wt.many,e1,e2]
theorem zCP:∀ (f:Nat),Loc f
 | 0,l,s,d,h=>by simp [Wt.one] at h
 | f+1,[],s,d,h=>by simp [Wt.one] at h
 | f+1,x::r,s,d,h=>by
  unfold Wt.one at h;split at h
  ·rename_i hx
   cases h1:Wt.many (Wt.one f) (Wt.parts x).toNat r with
   | none=>rw [h1] at h;cases h
   | some q =>
    obtain ⟨a,b⟩:=q;rw [h1] at h;simp only [Option.some.injEq,Prod.mk.injEq] at h;obtain ⟨rfl,rfl⟩:=h;obtain ⟨j1,j2⟩:=zH3 (zCP f) _ _ _ _ h1;refine ⟨by omega,by omega,λg m hg hm=>?_⟩;cases m with
    | nil=>simp at hm
    | cons y t =>
     obtain ⟨g,rfl⟩:∃ g',g=g'+1:=⟨g - 1,by omega⟩
     simp only [List.take_succ_cons,List.cons.injEq] at hm;obtain ⟨rfl,hm⟩:=hm;unfold Wt.one;rw [if_pos hx,j2 g t (by omega) hm]
  ·cases h
theorem zGu {g:Nat} {m:List Wt.Nd} (h:Wt.one f l=some (s,d)) (hg:d<=g) (hm:m.take s=l.take s):Wt.one g m=some (s,d):=(zCP f l s d h).2.2 g m hg hm
def zRy (f:Nat):Prop:=∀ (l:List Wt.Nd) (s d:Nat),Wt.one f l=some (s,d)->∀ j,j<s->∃ s' d',Wt.one f (l.drop j)=some (s',d')/\j+s'<=s/\d'<=d
theorem zJg (ih:zRy f):∀ (k:Nat) (l:List Wt.Nd) (s d:Nat),Wt.many (Wt.one f) k l=some (s,d)->∀ j,j<s->∃ s' d',Wt.one f (l.drop j)=some (s',d')/\j+s'<=s/\d'<=d:=by
 intro k;induction k with
 | zero=>intro l s d h j hj;simp only [Wt.many,Option.some.injEq,Prod.mk.injEq] at h;omega
 | succ k ihk =>
  intro l s d h j hj;simp only [Wt.many] at h;cases h1:Wt.one f l with
  | none=>rw [h1] at h;cases h
  | some q =>
   obtain ⟨a,b⟩:=q;rw [h1] at h;simp only at h;cases h2:Wt.many (Wt.one f) k (l.drop a) with
   | none=>rw [h2] at h;cases h
   | some q2 =>
    obtain ⟨a2,b2⟩:=q2;rw [h2] at h;simp only [Option.some.injEq,Prod.mk.injEq] at h;obtain ⟨rfl,rfl⟩:=h;rcases Nat.lt_or_ge j a with hja | hja
    ·obtain ⟨s',d',e1,e2,e3⟩:=ih l a b h1 j hja;exact ⟨s',d',e1,by omega,by omega⟩
    ·obtain ⟨s',d',e1,e2,e3⟩:=ihk _ a2 b2 h2 (j - a) (by omega);rw [List.drop_drop,show a+(j - a)=j by omega] at e1;exact ⟨s',d',e1,by omega,by omega⟩
theorem zEi:∀ (f:Nat),zRy f
 | 0,l,s,d,h=>by simp [Wt.one] at h
 | f+1,[],s,d,h=>by simp [Wt.one] at h
 | f+1,x::r,s,d,h=>λj hj=>by
  cases j with
  | zero=>exact ⟨s,d,h,by omega,Nat.le_refl _⟩
  | succ j =>
   unfold Wt.one at h;split at h
   ·rename_i hx
    cases h1:Wt.many (Wt.one f) (Wt.parts x).toNat r with
    | none=>rw [h1] at h;cases h
    | some q =>
     obtain ⟨a,b⟩:=q;rw [h1] at h;simp only [Option.some.injEq,Prod.mk.injEq] at h;obtain ⟨rfl,rfl⟩:=h;obtain ⟨s',d',e1,e2,e3⟩:=zJg (zEi f) _ _ _ _ h1 j (by omega);have l1:=(zCP f _ _ _ e1)
     have l2:=zBk _ _ _ _ e1;exact ⟨s',d',zGu e1 (by omega) rfl,by omega,by omega⟩
   ·cases h
theorem zH6 {x:Wt.Nd} {r:List Wt.Nd} (h:Wt.one f (x::r)=some (s,d)):Wt.right x=true/\∃ a b,Wt.many (Wt.one f) (Wt.parts x).toNat r=some (a,b)/\s=a+1/\d=b+1:=by
 cases f with
 | zero=>simp [Wt.one] at h
 | succ f =>
  unfold Wt.one at h;split at h
  ·rename_i hx
   cases h1:Wt.many (Wt.one f) (Wt.parts x).toNat r with
   | none=>rw [h1] at h;cases h
   | some q =>
    obtain ⟨a,b⟩:=q;rw [h1] at h;simp only [Option.some.injEq,Prod.mk.injEq] at h;have l1:=zBk (f+1) (x::r) s d (by unfold Wt.one;rw [if_pos hx,h1];simp [h]);exact ⟨hx,a,b,(zH3 (zCP f) _ _ _ _ h1).2 (f+1) r (by omega) rfl,by omega,by omega⟩
  ·cases h
theorem zA8 (h:Wt.check L=0):L.length<=256/\∃ d,Wt.one (L.length+1) L=some (L.length,d)/\d<=32:=by
 unfold Wt.check at h;split at h
 ·omega
 rename_i h1
 split at h
 ·omega
 rename_i s d h2
 split at h
 ·omega
 rename_i h3
 split at h
 ·omega
 rename_i h4
 have:s=L.length:=by omega
 subst this;exact ⟨by omega,d,h2,by omega⟩
def mvX (x:Int) (b:Bool):Int:=if b then 0 else x
def okR (x y:Int) (a:Wt.Rf):Bool:=Wpl.shiftOk 0 a.r a.c (mvX x a.fr) (mvX y a.fc)
def mvR (x y:Int) (a:Wt.Rf):Wt.Rf:=⟨a.s,(Wpl.shiftV 0 a.r a.c (mvX x a.fr) (mvX y a.fc)).r,(Wpl.shiftV 0 a.r a.c (mvX x a.fr) (mvX y a.fc)).c,a.fr,a.fc⟩
def zA0:Wt.Nd:=⟨1,⟨4,0,0,⟨#[]⟩,false,3⟩,0,⟨#[]⟩,0,Wt.r0,Wt.r0⟩
def mvN (x y:Int) (n:Wt.Nd):Wt.Nd :=
 if n.k=2 then (if okR x y n.a then ⟨n.k,n.v,n.op,n.nm,n.ar,mvR x y n.a,n.b⟩ else zA0)
 else if n.k=3 then (if okR x y n.a && okR x y n.b then ⟨n.k,n.v,n.op,n.nm,n.ar,mvR x y n.a,mvR x y n.b⟩ else zA0)
 else n
theorem zMr (h:okR x y a=true):mvR x y a=⟨a.s,a.r+mvX x a.fr,a.c+mvX y a.fc,a.fr,a.fc⟩:=by
 unfold okR at h;unfold mvR Wpl.shiftV;rw [h];rfl
theorem zJm:okR x y a=true ↔ (0<=a.r/\a.r<65536/\0<=a.c/\a.c<256)/\(0<=a.r+mvX x a.fr/\a.r+mvX x a.fr<65536)/\(0<=a.c+mvX y a.fc/\a.c+mvX y a.fc<256):=by
 unfold okR Wpl.shiftOk;rw [Bool.and_eq_true,Bool.and_eq_true,Wpl.rightC_iff,Wpl.inB_iff,Wpl.inB_iff];omega
theorem zJN {r c:Int}:Wt.inR r c=true ↔ 0<=r/\r<65536/\0<=c/\c<256:=by
 simp [Wt.inR];omega
theorem zHb (h:Wt.rfOk a=true):0<=a.r/\a.r<65536/\0<=a.c/\a.c<256:=by
 unfold Wt.rfOk at h;rw [Bool.and_eq_true,zJN] at h;exact h.1
theorem zG8 (h:Wt.rfOk a=true) (hk:okR x y a=true):Wt.rfOk (mvR x y a)=true:=by
 rw [zMr hk];rw [zJm] at hk;unfold Wt.rfOk at h ⊢;rw [Bool.and_eq_true,zJN] at h ⊢;exact ⟨by simp only;omega,h.2⟩
theorem zCj (h:Wt.right n=true) (hk:n.k=2):Wt.rfOk n.a=true/\n=⟨2,Wt.v0,0,⟨#[]⟩,0,n.a,Wt.r0⟩:=by
 unfold Wt.right at h;rw [if_neg (by omega),if_pos hk,Bool.and_eq_true,zAb] at h;exact h
theorem zCk (h:Wt.right n=true) (hk:n.k=3):Wt.rfOk n.a=true/\Wt.rfOk n.b=true/\n.b.s.toList.isEmpty=true/\n=⟨3,Wt.v0,0,⟨#[]⟩,0,n.a,n.b⟩:=by
 unfold Wt.right at h;rw [if_neg (by omega),if_neg (by omega),if_pos hk,Bool.and_eq_true,Bool.and_eq_true,Bool.and_eq_true,zAb] at h;exact ⟨h.1.1.1,h.1.1.2,h.1.2,h.2⟩
theorem zES:Wt.right zA0=true:=by decide +kernel
theorem zJq (h:Wt.right n=true):Wt.right (mvN x y n)=true:=by
 unfold mvN;split
 ·rename_i hk
  obtain ⟨h1,h2⟩:=zCj h hk;split
  ·rename_i h3
   have h4:=zG8 h1 h3;rw [h2];unfold Wt.right;rw [if_neg (by simp),if_pos rfl,Bool.and_eq_true,zAb];exact ⟨h4,rfl⟩
  ·exact zES
 ·split
  ·rename_i hk
   obtain ⟨h1,h2,h3,h4⟩:=zCk h hk;split
   ·rename_i h5
    rw [Bool.and_eq_true] at h5;have h6:=zG8 h1 h5.1;have h7:=zG8 h2 h5.2;rw [h4];unfold Wt.right;rw [if_neg (by simp),if_neg (by simp),if_pos rfl,Bool.and_eq_true,Bool.and_eq_true,Bool.and_eq_true,zAb];exact ⟨⟨⟨h6,h7⟩,h3⟩,rfl⟩
   ·exact zES
  ·exact h
theorem zKa (h:Wt.right n=true):Wt.parts (mvN x y n)=Wt.parts n:=by
 unfold mvN;split
 ·rename_i hk
  obtain ⟨h1,h2⟩:=zCj h hk;have h3:n.ar=0:=by rw [h2]
  unfold Wt.parts;split
  ·rfl
  ·simp [hk,h3,zA0]
 ·split
  ·rename_i hk
   obtain ⟨h1,h2,h3,h4⟩:=zCk h hk;have h5:n.ar=0:=by rw [h4]
   unfold Wt.parts;split
   ·rfl
   ·simp [hk,h5,zA0]
  ·rfl
theorem zOE (ih:∀ (l:List Wt.Nd) (s d:Nat),Wt.one f l=some (s,d)->Wt.one f (l.map (mvN x y))=some (s,d)):∀ (k:Nat) (l:List Wt.Nd) (s d:Nat),Wt.many (Wt.one f) k l=some (s,d)->Wt.many (Wt.one f) k (l.map (mvN x y))=some (s,d):=by
 intro k;induction k with
 | zero=>intro l s d h;exact h
 | succ k ihk =>
  intro l s d h;simp only [Wt.many] at h ⊢;cases h1:Wt.one f l with
  | none=>rw [h1] at h;cases h
  | some q =>
   obtain ⟨a,b⟩:=q;rw [h1] at h;simp only at h;rw [ih _ _ _ h1];simp only;cases h2:Wt.many (Wt.one f) k (l.drop a) with
   | none=>rw [h2] at h;cases h
   | some q2 =>
    obtain ⟨a2,b2⟩:=q2;rw [h2] at h;have h3:=ihk _ _ _ h2;rw [List.map_drop] at h3;rw [h3];exact h
theorem zMl (x y:Int):∀ (f:Nat) (l:List Wt.Nd) (s d:Nat),Wt.one f l=some (s,d)->Wt.one f (l.map (mvN x y))=some (s,d)
 | 0,l,s,d,h=>by simp [Wt.one] at h
 | f+1,[],s,d,h=>by simp [Wt.one] at h
 | f+1,n::r,s,d,h=>by
  rw [List.map_cons];unfold Wt.one at h ⊢;cases hr:Wt.right n with
  | false=>rw [hr] at h;cases h
  | true =>
   rw [zJq hr,zKa hr,if_pos rfl];rw [hr,if_pos rfl] at h;cases h1:Wt.many (Wt.one f) (Wt.parts n).toNat r with
   | none=>rw [h1] at h;cases h
   | some q =>
    obtain ⟨a,b⟩:=q;rw [h1] at h;rw [zOE (zMl x y f) _ _ _ _ h1];exact h
theorem zHc (h:Wt.check l=0) (x y:Int):Wt.check (l.map (mvN x y))=0:=by
 obtain ⟨h1,d,h2,h3⟩:=zA8 h;unfold Wt.check;rw [List.length_map,if_neg (by omega),zMl x y _ _ _ _ h2];simp only;rw [if_neg (by simp),if_neg (by omega)]
theorem zNH (h:Wt.FitN n) (x y:Int):Wt.FitN (mvN x y n):=by
 have hl:Wt.FitN zA0:=⟨⟨by decide,by decide,by decide⟩,by decide,by decide,by decide⟩
 unfold mvN;split
 ·split
  ·exact h
  ·exact hl
 ·split
  ·split
   ·exact h
   ·exact hl
  ·exact h
theorem zFX (n x m:Int) (w:World) (h0:0<=n) (h1:n<m) (h2:m<=65536) :
  Calls prog 75 #[.int .i64 n,.int .i64 x,.int .i64 m] w λe w'=>e=.returned (.bool (Wpl.inB (n+x) m))/\w=w':=by
 have e:Wpl.inB (n+x) m=(decide (-n<=x) && decide (x<m - n)):=by
  rw [Bool.eq_iff_iff,Wpl.inB_iff];simp;omega
 rw [e];clear e;by_cases h:-n<=x
 ·rw [decide_eq_true h];go_enter func75,ntmps75;go_wp2;go_ret;exact ⟨by simp,rfl⟩
 ·rw [decide_eq_false h];go_enter func75,ntmps75;go_wp2;go_ret;exact ⟨by simp,rfl⟩
theorem zK3 (s r c x y:Int) (w:World) :
  CR 46 #[.agg #[.int .i64 s,.int .i64 r,.int .i64 c],.int .i64 x,.int .i64 y] w (.tuple #[.agg #[.int .i64 (Wpl.shiftV s r c x y).s,.int .i64 (Wpl.shiftV s r c x y).r,.int .i64 (Wpl.shiftV s r c x y).c],.bool (Wpl.shiftOk s r c x y)]):=by
 have R:=λw=>zBs s r c w
 cases h1:Wpl.rightC s r c with
 | false =>
  have e1:Hid (Wpl.shiftOk s r c x y=false):=by show _=_;unfold Wpl.shiftOk;rw [h1];rfl
  have e2:Hid (Wpl.shiftV s r c x y=⟨0,0,0⟩):=by show _=_;unfold Wpl.shiftV;rw [e1.out];rfl
  rw [h1] at R;clear h1;go_enter func46,ntmps46;go_wp2_with fail
  refine (R _).mono ?_;rintro e w1 ⟨rfl,hb1⟩;have pC:AtL w1 (w.heap.size+1) [.int .i64 0,.int .i64 0,.int .i64 0]:=AtL.below hb1 (AtL.new1 w _ 41 _);have hB:Below w.heap.size w w1:=clA
  clear hb1;obtain ⟨c0,c1,c2,f0,f1,f2⟩:=pC.three;go_wp2;refine bodyPost_ret (v:=.tuple #[.agg #[.int .i64 0,.int .i64 0,.int .i64 0],.bool false]) (by simp [results,results46,go_sem,c0,c1,c2]) rfl ⟨by rw [e1.out,e2.out],?_⟩;exact zAe hB (by omega) _ _ _
 | true =>
  have hh:=Wpl.rightC_iff.1 h1;rw [h1] at R;have S1:=λw=>zFX r x 65536 w (by omega) (by omega) (by omega)
  have S2:=λw=>zFX c y 256 w (by omega) (by omega) (by omega)
  have e0:Hid (Wpl.shiftOk s r c x y=(Wpl.inB (r+x) 65536 && Wpl.inB (c+y) 256)):=by show _=_;unfold Wpl.shiftOk;rw [h1];rfl
  clear h1;cases h2:Wpl.inB (r+x) 65536 with
  | false =>
   have e1:Hid (Wpl.shiftOk s r c x y=false):=by show _=_;rw [e0.out,h2];rfl
   have e2:Hid (Wpl.shiftV s r c x y=⟨0,0,0⟩):=by show _=_;unfold Wpl.shiftV;rw [e1.out];rfl
   rw [h2] at S1;clear h2 e0;go_enter func46,ntmps46;go_wp2_with fail
   refine (R _).mono ?_;rintro e w1 ⟨rfl,hb1⟩;have pA:AtL w1 w.heap.size [.int .i64 s,.int .i64 r,.int .i64 c]:=AtL.below hb1 ((AtL.new0 w 41 _).alloc _);have pC:AtL w1 (w.heap.size+1) [.int .i64 0,.int .i64 0,.int .i64 0]:=AtL.below hb1 (AtL.new1 w _ 41 _);have hB:Below w.heap.size w w1:=clA
   clear hb1;obtain ⟨c0,c1,c2,f0,f1,f2⟩:=pC.three;obtain ⟨a0,a1,a2,g0,g1,g2⟩:=pA.three;go_wp2_with fail
   refine (S1 _).mono ?_;rintro e w2 ⟨rfl,rfl⟩;go_wp2;refine bodyPost_ret (v:=.tuple #[.agg #[.int .i64 0,.int .i64 0,.int .i64 0],.bool false]) (by simp [results,results46,go_sem,c0,c1,c2]) rfl ⟨by rw [e1.out,e2.out],?_⟩;exact zAe hB (by omega) _ _ _
  | true =>
   rw [h2] at S1;cases h3:Wpl.inB (c+y) 256 with
   | false =>
    have e1:Hid (Wpl.shiftOk s r c x y=false):=by show _=_;rw [e0.out,h2,h3];rfl
    have e2:Hid (Wpl.shiftV s r c x y=⟨0,0,0⟩):=by show _=_;unfold Wpl.shiftV;rw [e1.out];rfl
    rw [h3] at S2;clear h2 h3 e0;go_enter func46,ntmps46;go_wp2_with fail
    refine (R _).mono ?_;rintro e w1 ⟨rfl,hb1⟩;have pA:AtL w1 w.heap.size [.int .i64 s,.int .i64 r,.int .i64 c]:=AtL.below hb1 ((AtL.new0 w 41 _).alloc _);have pC:AtL w1 (w.heap.size+1) [.int .i64 0,.int .i64 0,.int .i64 0]:=AtL.below hb1 (AtL.new1 w _ 41 _);have hB:Below w.heap.size w w1:=clA
    clear hb1;obtain ⟨c0,c1,c2,f0,f1,f2⟩:=pC.three;obtain ⟨a0,a1,a2,g0,g1,g2⟩:=pA.three;go_wp2_with fail
    refine (S1 _).mono ?_;rintro e w2 ⟨rfl,rfl⟩;go_wp2_with fail
    refine (S2 _).mono ?_;rintro e w2 ⟨rfl,rfl⟩;go_wp2;refine bodyPost_ret (v:=.tuple #[.agg #[.int .i64 0,.int .i64 0,.int .i64 0],.bool false]) (by simp [results,results46,go_sem,c0,c1,c2]) rfl ⟨by rw [e1.out,e2.out],?_⟩;exact zAe hB (by omega) _ _ _
   | true =>
    have e1:Hid (Wpl.shiftOk s r c x y=true):=by show _=_;rw [e0.out,h2,h3];rfl
    have e2:Hid (Wpl.shiftV s r c x y=⟨s,r+x,c+y⟩):=by show _=_;unfold Wpl.shiftV;rw [e1.out];rfl
    have b2:=Wpl.inB_iff.1 h2;have b3:=Wpl.inB_iff.1 h3;rw [h3] at S2;clear h2 h3 e0;go_enter func46,ntmps46;go_wp2_with fail
    refine (R _).mono ?_;rintro e w1 ⟨rfl,hb1⟩;have pA:AtL w1 w.heap.size [.int .i64 s,.int .i64 r,.int .i64 c]:=AtL.below hb1 ((AtL.new0 w 41 _).alloc _);have pC:AtL w1 (w.heap.size+1) [.int .i64 0,.int .i64 0,.int .i64 0]:=AtL.below hb1 (AtL.new1 w _ 41 _);have hB:Below w.heap.size w w1:=clA
    clear hb1;obtain ⟨c0,c1,c2,f0,f1,f2⟩:=pC.three;obtain ⟨a0,a1,a2,g0,g1,g2⟩:=pA.three;go_wp2_with fail
    refine (S1 _).mono ?_;rintro e w2 ⟨rfl,rfl⟩;go_wp2_with fail
    refine (S2 _).mono ?_;rintro e w2 ⟨rfl,rfl⟩;have hne:¬ w.heap.size=w.heap.size+1:=by omega
    go_wp2;refine bodyPost_ret (v:=.tuple #[.agg #[.int .i64 s,.int .i64 (r+x),.int .i64 (c+y)],.bool true]) (by simp [results,results46,go_sem,c0,c1,c2]) rfl ⟨by rw [e1.out,e2.out],?_⟩;with_reducible exact zAe ((hB.setCell (p:=⟨w.heap.size,1,none⟩) (Nat.le_refl _) _).setCell (p:=⟨w.heap.size,2,none⟩) (Nat.le_refl _) _) (by omega) _ _ _
theorem zDe (av:Option Addr) (cap:Nat) (L:List Wt.Nd) (w:World) (hL:L.length<=9223372036854775807) (hF:∀ x ∈ L,Wt.FitN x) (hO:OpsAt w) (hr:RdN w av L) :
  CR 14 #[.slice av L.length cap] w (.int .i64 (Wt.check L)):=by
 unfold Wt.check;by_cases h:256<L.length
 ·rw [if_pos h];have hi:(256:Int)<(L.length:Int):=by omega
  go_enter func14,ntmps14;go_wp2;go_ret;exact ⟨rfl,Below.refl _ _⟩
 rw [if_neg h];have hi:¬ (256:Int)<(L.length:Int):=by omega
 have M:=zLR av cap L (by omega) hF (L.length+1) (by omega) 0 w (by omega) (by omega) hO hr;rw [List.drop_zero] at M;have h1:=zD4 (L.length+1) L;cases hone:Wt.one (L.length+1) L with
 | none =>
  rw [hone] at M;clear h1;go_enter func14,ntmps14;go_wp2_with fail
  refine M.mono ?_;rintro e w1 ⟨rfl,hb⟩;simp only [MP];go_wp2;go_ret;exact ⟨rfl,hb⟩
 | some q =>
  obtain ⟨s,d⟩:=q;rw [hone] at M;have h2:=zBk _ _ _ _ hone;replace h1:=h1 s d hone
  simp only [MP,Nat.zero_add] at M;simp only;by_cases hs:s=L.length
  ·rw [if_neg (by omega)];have hsi:((s:Int) == (L.length:Int))=true:=by rw [beq_iff_eq];omega
   have hsi2:(s:Int)=(L.length:Int):=by omega
   by_cases hd:32<d
   ·rw [if_pos hd];have hdi:(32:Int)<(d:Int):=by omega
    go_enter func14,ntmps14;go_wp2_with fail
    refine M.mono ?_;rintro e w1 ⟨rfl,hb⟩;go_wp2;go_ret;exact ⟨rfl,hb⟩
   ·rw [if_neg hd];have hdi:¬ (32:Int)<(d:Int):=by omega
    go_enter func14,ntmps14;go_wp2_with fail
    refine M.mono ?_;rintro e w1 ⟨rfl,hb⟩;go_wp2;go_ret;exact ⟨rfl,hb⟩
  ·rw [if_pos hs];have hsi:((s:Int) == (L.length:Int))=false:=by rw [beq_eq_false_iff_ne];omega
   have hsi2:¬ (s:Int)=(L.length:Int):=by omega
   go_enter func14,ntmps14;go_wp2_with fail
   refine M.mono ?_;rintro e w1 ⟨rfl,hb⟩;go_wp2;go_ret;exact ⟨rfl,hb⟩
theorem zD6 (p:List UInt8):∀ l:List UInt8,Wlx.begins p l=(decide (p.length<=l.length) && (l.take p.length == p)):=by
 induction p with
 | nil=>intro l;simp [Wlx.begins]
 | cons a p ih =>
  intro l;cases l with
  | nil=>simp [Wlx.begins]
  | cons b t =>
   have e:((b::t).take (a::p).length == a::p)=(decide (a=b) && (t.take p.length == p)):=by
    simp only [List.length_cons,List.take_succ_cons];by_cases h:a=b
    ·subst h;simp
    ·have h2:¬ b=a:=λe=>h e.symm
     simp [h,h2]
   rw [e];have e2:decide ((a::p).length<=(b::t).length)=decide (p.length<=t.length):=by simp
   rw [e2];show (decide (a=b) && Wlx.begins p t)=_
   rw [ih t];cases decide (a=b) <;> cases decide (p.length<=t.length) <;> rfl
theorem zIE (b p:ByteArray) (w:World) (hs:b.size<=9223372036854775807):Calls prog 49 #[.string b,.string p] w λe w'=>e=.returned (.bool (Wlx.begins p.data.toList b.data.toList))/\w=w':=by
 have E:Hid (Wlx.begins p.data.toList b.data.toList=(decide (p.size<=b.size) && ((b.extract 0 p.size).toList == p.toList))):=by
  show _=_
  rw [zD6,Lib.extract_toList,Lib.toList_data];rfl
 by_cases h:p.size<=b.size
 ·have E2:Hid (Wlx.begins p.data.toList b.data.toList=((b.extract 0 p.size).toList == p.toList)):=by
   show _=_;rw [E.out,decide_eq_true h];rfl
  clear E;have h1:(p.size:Int)<=(b.size:Int):=by omega
  generalize Wlx.begins p.data.toList b.data.toList=r at *;go_enter func49,ntmps49;go_wp2;go_ret;exact ⟨by rw [E2.out];rfl,rfl⟩
 ·have E2:Hid (Wlx.begins p.data.toList b.data.toList=false):=by
   show _=_;rw [E.out,decide_eq_false h];rfl
  clear E;have h1:¬ (p.size:Int)<=(b.size:Int):=by omega
  generalize Wlx.begins p.data.toList b.data.toList=r at *;go_enter func49,ntmps49;go_wp2;go_ret;exact ⟨by rw [E2.out];rfl,rfl⟩
theorem zBP (b p:ByteArray) (w:World) (hs:b.size<=9223372036854775807):Calls prog 85 #[.string b,.string p] w λe w'=>e=.returned (.bool (Wlx.begins p.data.toList b.data.toList))/\w=w':=by
 go_enter func85,ntmps85;go_wp2_with fail
 refine (zIE _ _ _ hs).mono ?_;rintro e w1 ⟨rfl,rfl⟩;go_wp2;go_ret;exact ⟨rfl,rfl⟩
theorem zF0 (b:ByteArray) (k:Nat) (ns:List (List UInt8)) (n:Nat) (w:World) (hs:b.size<=9223372036854775807) (hn:n=ns.length) (hn2:ns.length<=100) (hns:∀ x ∈ ns,x.length<=100)
  (hc:∀ i (h:i<ns.length),w.cell? ⟨k,i,none⟩=some (.string ⟨(ns[i]).toArray⟩)) :
  Calls prog 83 #[.string b,.slice (some ⟨k,0,none⟩) n n] w λe w'=>e=.returned (.int .i64 (Wlx.nameSz b.data.toList ns:Nat))/\w=w':=by
 subst hn;have HC:Hid (∀ i (h:i<ns.length),w.cell? ⟨k,i,none⟩=some (.string ⟨(ns[i]).toArray⟩)):=hc;clear hc;go_enter func83,ntmps83;go_wp2_with fail
 go_loopw [9] (λx wr=>∃ i:Nat,x=.int .i64 i/\i<=ns.length/\Hid (Wlx.nameSz b.data.toList ns=Wlx.nameSz b.data.toList (ns.drop i))/\wr=w) (λx _=>match x with | .int _ i=>ns.length - i.toNat | _=>0)
 case atStart=>exact ⟨0,rfl,Nat.zero_le _,(rfl:Wlx.nameSz b.data.toList ns=_),rfl⟩
 case round =>
  obtain ⟨i,rfl,hi,HR,rfl⟩:=hrel;by_cases hlt:i<ns.length
  ·have hli:(i:Int)<(ns.length:Int):=by omega
   have ci:=HC.out i hlt;obtain ⟨x,hx⟩:∃ x,ns[i]=x:=⟨_,rfl⟩
   have hxl:x.length<=100:=hns x (by rw [<-hx];exact List.getElem_mem hlt);rw [hx] at ci;have E0:Hid (Wlx.nameSz b.data.toList ns=if Wlx.begins x b.data.toList then x.length else Wlx.nameSz b.data.toList (ns.drop (i+1))):=by
    show _=_
    rw [HR.out,List.drop_eq_getElem_cons hlt,hx];rfl
   clear HR hx;have HP:=zBP b ⟨x.toArray⟩ wr hs;cases hbx:Wlx.begins x b.data.toList with
   | true =>
    have E:Hid (Wlx.nameSz b.data.toList ns=x.length):=by show _=_;rw [E0.out,if_pos hbx]
    have e1:Wlx.begins (⟨x.toArray⟩:ByteArray).data.toList b.data.toList=true:=by simpa using hbx
    rw [e1] at HP;clear E0 e1 hbx;go_wp2_with fail
    refine HP.mono ?_;rintro e w1 ⟨rfl,rfl⟩;go_wp2;go_ret;exact ⟨by rw [E.out];simp,rfl⟩
   | false =>
    have E:Hid (Wlx.nameSz b.data.toList ns=Wlx.nameSz b.data.toList (ns.drop (i+1))):=by show _=_;rw [E0.out,if_neg (by rw [hbx];decide)]
    have e1:Wlx.begins (⟨x.toArray⟩:ByteArray).data.toList b.data.toList=false:=by simpa using hbx
    rw [e1] at HP;clear E0 e1 hbx;go_wp2_with fail
    refine HP.mono ?_;rintro e w1 ⟨rfl,rfl⟩;go_wp2_with fail
    go_roundw
    case rel=>exact ⟨i+1,by simp,hlt,E,by first | trivial | rfl⟩
    case measure=>simp;omega
  ·have hli:¬ (i:Int)<(ns.length:Int):=by omega
   have E:Hid (Wlx.nameSz b.data.toList ns=0):=by
    show _=_;rw [HR.out,List.drop_eq_nil_of_le (by omega)];rfl
   clear HR;go_wp2;go_ret;exact ⟨by rw [E.out];rfl,rfl⟩
theorem zBz (b:ByteArray) (n:Nat):(b.extract n b.size).data.toList=b.data.toList.drop n:=by
 rw [Lib.extract_data];exact List.take_of_length_le (by rw [List.length_drop];exact Nat.le_refl _)
theorem zCv (c:UInt8) (l:List UInt8):Wlx.begins [c] l=match l with | []=>false | d::_=>decide (c=d):=by
 cases l with
 | nil=>rfl
 | cons d t=>show (decide (c=d) && Wlx.begins [] t)=_;simp [Wlx.begins]
theorem zEC (b:ByteArray) (w:World) (hs:b.size<=9223372036854775806):CR 80 #[.string b] w (.int .i64 (Wlx.numSz b.data.toList:Nat)):=by
 obtain ⟨n,hn⟩:∃ n,Wlx.runP Wlx.dig b.data.toList=n:=⟨_,rfl⟩
 have hle:n<=b.size:=by rw [<-hn];exact Wlx.runP_le _ _
 have R1:=zFQ b w (by omega);rw [hn] at R1;have E0:Hid (Wlx.numSz b.data.toList=if n=0 then 0 else Wlx.numTl n (b.data.toList.drop n)):=by
  show _=_;unfold Wlx.numSz;rw [hn]
 clear hn;by_cases h0:n=0
 ·subst h0;have E:Hid (Wlx.numSz b.data.toList=0):=by show _=_;rw [E0.out,if_pos rfl]
  clear E0;go_enter func80,ntmps80;go_wp2_with fail
  refine R1.mono ?_;rintro e w1 ⟨rfl,hb1⟩;go_wp2;go_ret;exact ⟨by rw [E.out];rfl,hb1⟩
 ·have hn0:((n:Int) == 0)=false:=beq_eq_false_iff_ne.2 (by omega);have c1:(n:Int)<=(b.size:Int):=by omega
  have c0:(0:Int)<=(n:Int):=by omega
  have HP:=λw=>zBP (b.extract n b.size) ⟨#[46]⟩ w (by rw [ByteArray.size_extract];omega)
  rw [zBz,zCv] at HP;cases hd:b.data.toList.drop n with
  | nil =>
   have E:Hid (Wlx.numSz b.data.toList=n):=by show _=_;rw [E0.out,if_neg h0,hd];rfl
   simp only [hd] at HP;clear E0 hd;go_enter func80,ntmps80;go_wp2_with fail
   refine R1.mono ?_;rintro e w1 ⟨rfl,hb1⟩;go_wp2_with fail
   refine (HP _).mono ?_;rintro e w2 ⟨rfl,rfl⟩;go_wp2;go_ret;exact ⟨by rw [E.out];rfl,hb1⟩
  | cons c t =>
   simp only [hd] at HP;by_cases hc:c=46
   ·subst hc;have hsz:n+1+t.length=b.size:=by
     have:=congrArg List.length hd;simp only [List.length_drop,List.length_cons] at this;have e:b.data.toList.length=b.size:=rfl;omega
    have c2:(n:Int)+1<=(b.size:Int):=by omega
    have R2:=λw=>zFQ (b.extract (n+1) b.size) w (by rw [ByteArray.size_extract];omega)
    have e2:b.data.toList.drop (n+1)=t:=by rw [show n+1=n+1 from rfl,<-List.drop_drop,hd];rfl
    rw [zBz,e2] at R2;obtain ⟨m,hm⟩:∃ m,Wlx.runP Wlx.dig t=m:=⟨_,rfl⟩
    have hml:m<=t.length:=by rw [<-hm];exact Wlx.runP_le _ _
    rw [hm] at R2;by_cases h1:0<m
    ·have E:Hid (Wlx.numSz b.data.toList=n+1+m):=by show _=_;rw [E0.out,if_neg h0,hd];rw [Wlx.numTl_cons,hm,if_pos ⟨rfl,h1⟩]
     have h1i:(0:Int)<(m:Int):=by omega
     clear E0 hd e2 hm;go_enter func80,ntmps80;go_wp2_with fail
     refine R1.mono ?_;rintro e w1 ⟨rfl,hb1⟩;go_wp2_with fail
     refine (HP _).mono ?_;rintro e w2 ⟨rfl,rfl⟩;go_wp2_with fail
     refine (R2 _).mono ?_;rintro e w2 ⟨rfl,hb2⟩;go_wp2;go_ret;exact ⟨by rw [E.out];exact zIY (by omega),hb1.trans (hb2.mono hb1.size)⟩
    ·have E:Hid (Wlx.numSz b.data.toList=n):=by show _=_;rw [E0.out,if_neg h0,hd];rw [Wlx.numTl_cons,hm,if_neg (λh=>h1 h.2)]
     have h1i:¬ (0:Int)<(m:Int):=by omega
     clear E0 hd e2 hm;go_enter func80,ntmps80;go_wp2_with fail
     refine R1.mono ?_;rintro e w1 ⟨rfl,hb1⟩;go_wp2_with fail
     refine (HP _).mono ?_;rintro e w2 ⟨rfl,rfl⟩;go_wp2_with fail
     refine (R2 _).mono ?_;rintro e w2 ⟨rfl,hb2⟩;go_wp2;go_ret;exact ⟨by rw [E.out];rfl,hb1.trans (hb2.mono hb1.size)⟩
   ·have hc':¬ (46:UInt8)=c:=λe=>hc e.symm
    rw [decide_eq_false hc'] at HP;have E:Hid (Wlx.numSz b.data.toList=n):=by show _=_;rw [E0.out,if_neg h0,hd];rw [Wlx.numTl_cons,if_neg (λh=>hc h.1)]
    clear E0 hd hc hc';go_enter func80,ntmps80;go_wp2_with fail
    refine R1.mono ?_;rintro e w1 ⟨rfl,hb1⟩;go_wp2_with fail
    refine (HP _).mono ?_;rintro e w2 ⟨rfl,rfl⟩;go_wp2;go_ret;exact ⟨by rw [E.out];rfl,hb1⟩
theorem quo_hit (w:Bool) (i:Nat) (t:List UInt8):Wlx.quo w i (34::t)=Wlx.quo (!w) (i+1) t:=by
 conv=>lhs;unfold Wlx.quo
 rw [if_pos rfl]
theorem quo_in (h:¬ c=34) (i:Nat) (t:List UInt8):Wlx.quo true i (c::t)=Wlx.quo true (i+1) t:=by
 conv=>lhs;unfold Wlx.quo
 rw [if_neg h,if_pos rfl]
theorem quo_out (h:¬ c=34) (i:Nat) (t:List UInt8):Wlx.quo false i (c::t)=i:=by
 conv=>lhs;unfold Wlx.quo
 rw [if_neg h,if_neg (by decide)]
