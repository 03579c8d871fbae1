/- Lemmas. -/
import Derived.Test.YtefkclbaflkheaaGreatDoorQ06
import Derived.Maps.AppendAt
set_option maxHeartbeats 4000000
set_option maxRecDepth 100000
set_option linter.unusedVariables false
namespace Go.Proofs.YtefkclbaflkheaaGreatDoor
open Tryz
open Go.RowKit
variable {f d s k e a:Nat} {L:List Wt.Nd} {x:Wt.Nd}
def RdN (w:World) (av:Option Addr) (L:List Wt.Nd):Prop:=∀ i (h:i<L.length),∃ bb off,av=some ⟨bb,off,none⟩/\w.rangeAt bb (off+i * 20) (zAG (L[i]))
theorem RdN.below {w w':World} {av:Option Addr} (h:RdN w av L) (hb:Below w.heap.size w w'):RdN w' av L:=λi hi=>by
 obtain ⟨bb,off,e,hr⟩:=h i hi;exact ⟨bb,off,e,λj v hv=>zAC hb (hr j v hv)⟩
def MP (r:Option (Nat × Nat)) (p:Nat):Value:=match r with
 | some (s,d)=>.tuple #[.int .i64 ((p+s:Nat):Int),.int .i64 (d:Int),.bool true]
 | none=>.tuple #[.int .i64 0,.int .i64 0,.bool false]
def left (f k:Nat) (L:List Wt.Nd) (e d:Nat):Option (Nat × Nat):=match Wt.many (Wt.one f) k (L.drop e) with
 | some (s,d')=>some (e+s,max d d')
 | none=>none
theorem zEH (f:Nat) (L:List Wt.Nd) (e d:Nat):left f 0 L e d=some (e,d):=by simp [left,Wt.many]
theorem zEP (h:Wt.one f (L.drop e)=none):left f (k+1) L e d=none:=by simp [left,Wt.many,h]
theorem zEZ {d':Nat} (h:Wt.one f (L.drop e)=some (s,d')):left f (k+1) L e d=left f k L (e+s) (max d d'):=by
 simp only [left,Wt.many,h,List.drop_drop];cases Wt.many (Wt.one f) k (List.drop (e+s) L) with
 | none=>rfl
 | some q=>obtain ⟨a,b⟩:=q;simp only [Option.some.injEq,Prod.mk.injEq];omega
theorem zMT (ih:∀ (l:List Wt.Nd) (s d:Nat),Wt.one f l=some (s,d)->s<=l.length):∀ (k:Nat) (l:List Wt.Nd) (s d:Nat),Wt.many (Wt.one f) k l=some (s,d)->s<=l.length:=by
 intro k;induction k with
 | zero=>intro l s d h;simp only [Wt.many,Option.some.injEq,Prod.mk.injEq] at h;omega
 | succ k ihk =>
  intro l s d h;simp only [Wt.many] at h;cases h1:Wt.one f l with
  | none=>rw [h1] at h;cases h
  | some q =>
   obtain ⟨a,b⟩:=q;rw [h1] at h;simp only at h;cases h2:Wt.many (Wt.one f) k (l.drop a) with
   | none=>rw [h2] at h;cases h
   | some q2 =>
    obtain ⟨a2,b2⟩:=q2;rw [h2] at h;simp only [Option.some.injEq,Prod.mk.injEq] at h;have:=ih l a b h1;have:=ihk _ a2 b2 h2;rw [List.length_drop] at this;omega
theorem zEO:∀ (f:Nat) (l:List Wt.Nd) (s d:Nat),Wt.one f l=some (s,d)->s<=l.length
 | 0,l,s,d,h=>by simp [Wt.one] at h
 | f+1,[],s,d,h=>by simp [Wt.one] at h
 | f+1,x::r,s,d,h=>by
  unfold Wt.one at h;split at h
  ·cases h1:Wt.many (Wt.one f) (Wt.parts x).toNat r with
   | none=>rw [h1] at h;cases h
   | some q =>
    obtain ⟨a,b⟩:=q;rw [h1] at h;simp only [Option.some.injEq,Prod.mk.injEq] at h;have:=zMT (zEO f) _ _ _ _ h1;simp only [List.length_cons];omega
  ·cases h
theorem zIM (ih:∀ (l:List Wt.Nd) (s d:Nat),Wt.one f l=some (s,d)->d<=f):∀ (k:Nat) (l:List Wt.Nd) (s d:Nat),Wt.many (Wt.one f) k l=some (s,d)->d<=f:=by
 intro k;induction k with
 | zero=>intro l s d h;simp only [Wt.many,Option.some.injEq,Prod.mk.injEq] at h;omega
 | succ k ihk =>
  intro l s d h;simp only [Wt.many] at h;cases h1:Wt.one f l with
  | none=>rw [h1] at h;cases h
  | some q =>
   obtain ⟨a,b⟩:=q;rw [h1] at h;simp only at h;cases h2:Wt.many (Wt.one f) k (l.drop a) with
   | none=>rw [h2] at h;cases h
   | some q2 =>
    obtain ⟨a2,b2⟩:=q2;rw [h2] at h;simp only [Option.some.injEq,Prod.mk.injEq] at h;have:=ih l a b h1;have:=ihk _ a2 b2 h2;omega
theorem zBO:∀ (f:Nat) (l:List Wt.Nd) (s d:Nat),Wt.one f l=some (s,d)->d<=f
 | 0,l,s,d,h=>by simp [Wt.one] at h
 | f+1,[],s,d,h=>by simp [Wt.one] at h
 | f+1,x::r,s,d,h=>by
  unfold Wt.one at h;split at h
  ·cases h1:Wt.many (Wt.one f) (Wt.parts x).toNat r with
   | none=>rw [h1] at h;cases h
   | some q =>
    obtain ⟨a,b⟩:=q;rw [h1] at h;simp only [Option.some.injEq,Prod.mk.injEq] at h;have:=zIM (zBO f) _ _ _ _ h1;omega
  ·cases h
def MR (r:Option (Nat × Nat)):Value:=match r with
 | some (e,d)=>.tuple #[.int .i64 (e:Int),.int .i64 ((d:Int)+1),.bool true]
 | none=>.tuple #[.int .i64 0,.int .i64 0,.bool false]
theorem zIr (h:Wt.right x=true) (f:Nat) (L:List Wt.Nd) (p:Nat):MP (Wt.one (f+1) (x::L.drop (p+1))) p=MR (left f (Wt.parts x).toNat L (p+1) 0):=by
 unfold left;simp only [Wt.one];rw [if_pos h];cases Wt.many (Wt.one f) (Wt.parts x).toNat (L.drop (p+1)) with
 | none=>rfl
 | some q =>
  obtain ⟨s,d⟩:=q;simp only [MP,MR];rw [show ((p+(s+1):Nat):Int)=((p+1+s:Nat):Int) by omega,show ((d+1:Nat):Int)=((max 0 d:Nat):Int)+1 by omega]
theorem zJQ (h:Wt.right x=false) (f:Nat) (r:List Wt.Nd):Wt.one (f+1) (x::r)=none:=by
 simp only [Wt.one];rw [if_neg (by rw [h];decide)]
theorem zLY (av:Option Addr) (cap:Nat) (L:List Wt.Nd) (hL:L.length<=256) (hF:∀ x ∈ L,Wt.FitN x) (f:Nat):f<=1000->∀ (p:Nat) (w:World),L.length<f+p->p<=256->OpsAt w->RdN w av L ->
  CR 43 #[.slice av L.length cap,.int .i64 p] w (MP (Wt.one f (L.drop p)) p):=by
 have past:∀ (f p:Nat) (w:World),¬ p<L.length->p<=256->CR 43 #[.slice av L.length cap,.int .i64 p] w (MP (Wt.one f (L.drop p)) p):=by
  intro f p w hlt hp;have hd:L.drop p=[]:=List.drop_eq_nil_of_le (by omega);have E:Hid (Wt.one f (L.drop p)=none):=by
   show _=_
   rw [hd];cases f <;> rfl
  rw [E.out];clear E hd;have hli:(L.length:Int)<=(p:Int):=by omega
  go_enter func43,ntmps43;go_wp2;go_ret3
  exact ⟨rfl,Below.refl _ _⟩
 induction f with
 | zero=>intro _ p w hf hp hO hr;exact past 0 p w (by omega) hp
 | succ f ih =>
  intro hf1 p w hf hp hO hr;by_cases hlt:p<L.length
  ·clear past;replace ih:=ih (by omega)
   obtain ⟨bb,off,rfl,hx⟩:=hr p hlt;have hd:=List.drop_eq_getElem_cons hlt;have hfit:=hF _ (List.getElem_mem hlt);have HR:Hid (RdN w (some ⟨bb,off,none⟩) L):=hr;clear hr;rw [hd];generalize L[p]=x at *;have C:=zG6 x w hfit hO;have hple:=@Wt.parts_le x;have hli:¬ (L.length:Int)<=(p:Int):=by omega
   cases hq:Wt.right x with
   | false =>
    rw [hq] at C;rw [zJQ hq];clear ih;go_enter func43,ntmps43;go_wp2_with ((with_reducible refine zAA ?_ 35 (.tmp 17) ?_ bb (off+p * 20) ?_ (zAG x) _ ?_ underlying35 ?_ ?_ ?_);rfl;rfl;rfl;exact hx;rfl;kernel_rfl)
    refine C.mono ?_;rintro e w1 ⟨rfl,hb⟩;go_wp2;go_ret3
    exact ⟨rfl,hb⟩
   | true =>
    rw [hq] at C;obtain ⟨hk0,hk1⟩:=hple hq;rw [zIr hq];clear hple hq;have D:=λw=>zGt x w
    obtain ⟨k,hk⟩:∃ k:Nat,(Wt.parts x).toNat=k:=⟨_,rfl⟩
    have hkk:Wt.parts x=(k:Int):=by omega
    rw [hk];rw [hkk] at D;have hk2:k<=30:=by omega
    clear hk0 hk1 hk hkk;obtain ⟨R,hR⟩:∃ R,left f k L (p+1) 0=R:=⟨_,rfl⟩
    have E0:Hid (R=left f (k - 0) L (p+1) 0):=hR.symm;rw [hR];clear hR;have IH:Hid (∀ (p:Nat) (w:World),L.length<f+p->p<=256->OpsAt w->RdN w (some ⟨bb,off,none⟩) L->CR 43 #[.slice (some ⟨bb,off,none⟩) L.length cap,.int .i64 p] w (MP (Wt.one f (L.drop p)) p)):=ih;clear ih;go_enter func43,ntmps43;go_wp2_with ((with_reducible refine zAA ?_ 35 (.tmp 17) ?_ bb (off+p * 20) ?_ (zAG x) _ ?_ underlying35 ?_ ?_ ?_);rfl;rfl;rfl;exact hx;rfl;kernel_rfl)
    refine C.mono ?_;rintro e w1 ⟨rfl,hb⟩;have hx1:w1.rangeAt bb (off+p * 20) (zAG x):=λj v hv=>zAC hb (hx j v hv)
    have hO1:=hO.below hb;have HR1:Hid (RdN w1 (some ⟨bb,off,none⟩) L):=HR.out.below hb;clear C hx HR;go_wp2_with ((with_reducible refine zAA ?_ 35 (.tmp 26) ?_ bb (off+p * 20) ?_ (zAG x) _ ?_ underlying35 ?_ ?_ ?_);rfl;rfl;rfl;exact hx1;rfl;kernel_rfl)
    refine (D _).mono ?_;rintro e w2 ⟨rfl,hb2⟩;have hB2:=zAB hb hb2;have hO2:=hO1.below hb2;have HR2:Hid (RdN w2 (some ⟨bb,off,none⟩) L):=HR1.out.below hb2;clear hb hb2 hO1 HR1 D hx1 hfit;go_wp2_with fail
    go_loopg [4,5,29] k (λgk a b c wr=>∃ j e d:Nat,a=.int .i64 e/\b=.int .i64 d/\c=.int .i64 j/\gk=k - j/\j<=k/\p+1<=e/\e<=L.length/\d<=f/\Hid (R=left f (k - j) L e d)/\Below w.heap.size w wr/\OpsAt wr/\Hid (RdN wr (some ⟨bb,off,none⟩) L))
    case atStart=>exact ⟨0,p+1,0,by simp,rfl,rfl,rfl,Nat.zero_le _,Nat.le_refl _,hlt,Nat.zero_le _,E0,hB2,hO2,HR2⟩
    case round =>
     obtain ⟨j,e,d,rfl,rfl,rfl,hg,hj,he1,he2,hdd,HE,hB,hO3,HR3⟩:=hrel;by_cases hjk:j<k
     ·have hji:(j:Int)<(k:Int):=by omega
      have M:=IH.out e wr (by omega) (by omega) hO3 HR3.out;have hkj:k - j=(k - (j+1))+1:=by omega
      rw [hkj] at HE;cases hone:Wt.one f (L.drop e) with
      | none =>
       have E:Hid (R=none):=by show _=_;rw [HE.out,zEP hone]
       rw [hone] at M;clear HE hone IH;go_wp2_with fail
       refine M.mono ?_;rintro e9 w3 ⟨rfl,hb⟩;have hB3:=zAB hB hb;simp only [MP];go_wp2;go_ret3
       exact ⟨by rw [E.out];rfl,hB3⟩
      | some q =>
       obtain ⟨s,d'⟩:=q;have h1:=zEO _ _ _ _ hone;have h2:=zBO _ _ _ _ hone;rw [List.length_drop] at h1;have E:Hid (R=left f (k - (j+1)) L (e+s) (max d d')):=by show _=_;rw [HE.out,zEZ hone]
       rw [hone] at M;clear HE hone IH;go_wp2_with fail
       refine M.mono ?_;rintro e9 w3 ⟨rfl,hb⟩;have hB3:=zAB hB hb;have hO4:=hO3.below hb;have HR4:Hid (RdN w3 (some ⟨bb,off,none⟩) L):=HR3.out.below hb;simp only [MP];go_wp2_with fail
       ·go_roundg (k - (j+1))
        case rel=>exact ⟨j+1,e+s,max d d',by simp,by simp;omega,by simp,rfl,hjk,by omega,by omega,by omega,E,hB3,hO4,HR4⟩
        case measure=>omega
       ·go_roundg (k - (j+1))
        case rel=>exact ⟨j+1,e+s,max d d',by simp,by simp;omega,by simp,rfl,hjk,by omega,by omega,by omega,E,hB3,hO4,HR4⟩
        case measure=>omega
     ·have hji:¬ (j:Int)<(k:Int):=by omega
      have E:Hid (R=some (e,d)):=by show _=_;rw [HE.out,show k - j=0 by omega,zEH]
      clear HE IH;go_wp2;go_ret3
      exact ⟨by rw [E.out];rfl,hB⟩
  ·exact past (f+1) p w hlt hp
theorem zHN {α:Type} {m l:List α} (h:m.take s=l.take s) (ha:a<=s):m.take a=l.take a:=by
 have:=congrArg (List.take a) h;rwa [List.take_take,List.take_take,Nat.min_eq_left ha] at this
theorem zFC {α:Type} {m l:List α} {b:Nat} (h:m.take (a+b)=l.take (a+b)):(m.drop a).take b=(l.drop a).take b:=by
 have:=congrArg (List.drop a) h;rwa [List.drop_take,List.drop_take,Nat.add_sub_cancel_left] at this
def Loc (f:Nat):Prop:=∀ (l:List Wt.Nd) (s d:Nat),Wt.one f l=some (s,d)->1<=d/\d<=s/\∀ g m,d<=g->m.take s=l.take s->Wt.one g m=some (s,d)
theorem zF7 (ih:Loc f):∀ (k:Nat) (l:List Wt.Nd) (s d:Nat),Wt.many (Wt.one f) k l=some (s,d)->d<=s/\∀ g m,d<=g->m.take s=l.take s->Wt.many (Wt.one g) k m=some (s,d):=by
 intro k;induction k with
 | zero=>intro l s d h;simp only [Wt.many,Option.some.injEq,Prod.mk.injEq] at h;obtain ⟨rfl,rfl⟩:=h;exact ⟨Nat.le_refl _,λg m _ _=>rfl⟩
 | succ k ihk =>
  intro l s d h;simp only [Wt.many] at h;cases h1:Wt.one f l with
  | none=>rw [h1] at h;cases h
  | some q =>
   obtain ⟨a,b⟩:=q;rw [h1] at h;simp only at h;cases h2:Wt.many (Wt.one f) k (l.drop a) with
   | none=>rw [h2] at h;cases h
   | some q2 =>
    obtain ⟨a2,b2⟩:=q2;rw [h2] at h;simp only [Option.some.injEq,Prod.mk.injEq] at h;obtain ⟨rfl,rfl⟩:=h;obtain ⟨i0,i1,i2⟩:=ih l a b h1;obtain ⟨j1,j2⟩:=ihk _ a2 b2 h2;refine ⟨by omega,λg m hg hm=>?_⟩;have e1:=i2 g m (by omega) (zHN hm (by omega));have e2:=j2 g (m.drop a) (by omega) (zFC hm);simp only [Wt.many,e1,e2]
theorem zD3:∀ (f:Nat),Loc f
 | 0,l,s,d,h=>by simp [Wt.one] at h
 | f+1,[],s,d,h=>by simp [Wt.one] at h
 | f+1,x::r,s,d,h=>by
  unfold Wt.one at h;split at h
  ·rename_i hx
   cases h1:Wt.many (Wt.one f) (Wt.parts x).toNat r with
   | none=>rw [h1] at h;cases h
   | some q =>
    obtain ⟨a,b⟩:=q;rw [h1] at h;simp only [Option.some.injEq,Prod.mk.injEq] at h;obtain ⟨rfl,rfl⟩:=h;obtain ⟨j1,j2⟩:=zF7 (zD3 f) _ _ _ _ h1;refine ⟨by omega,by omega,λg m hg hm=>?_⟩;cases m with
    | nil=>simp at hm
    | cons y t =>
     obtain ⟨g,rfl⟩:∃ g',g=g'+1:=⟨g - 1,by omega⟩
     simp only [List.take_succ_cons,List.cons.injEq] at hm;obtain ⟨rfl,hm⟩:=hm;unfold Wt.one;rw [if_pos hx,j2 g t (by omega) hm]
  ·cases h
theorem zFk {g:Nat} {l m:List Wt.Nd} (h:Wt.one f l=some (s,d)) (hg:d<=g) (hm:m.take s=l.take s):Wt.one g m=some (s,d):=(zD3 f l s d h).2.2 g m hg hm
def zPR (f:Nat):Prop:=∀ (l:List Wt.Nd) (s d:Nat),Wt.one f l=some (s,d)->∀ j,j<s->∃ s' d',Wt.one f (l.drop j)=some (s',d')/\j+s'<=s/\d'<=d
theorem zIO (ih:zPR f):∀ (k:Nat) (l:List Wt.Nd) (s d:Nat),Wt.many (Wt.one f) k l=some (s,d)->∀ j,j<s->∃ s' d',Wt.one f (l.drop j)=some (s',d')/\j+s'<=s/\d'<=d:=by
 intro k;induction k with
 | zero=>intro l s d h j hj;simp only [Wt.many,Option.some.injEq,Prod.mk.injEq] at h;omega
 | succ k ihk =>
  intro l s d h j hj;simp only [Wt.many] at h;cases h1:Wt.one f l with
  | none=>rw [h1] at h;cases h
  | some q =>
   obtain ⟨a,b⟩:=q;rw [h1] at h;simp only at h;cases h2:Wt.many (Wt.one f) k (l.drop a) with
   | none=>rw [h2] at h;cases h
   | some q2 =>
    obtain ⟨a2,b2⟩:=q2;rw [h2] at h;simp only [Option.some.injEq,Prod.mk.injEq] at h;obtain ⟨rfl,rfl⟩:=h;rcases Nat.lt_or_ge j a with hja | hja
    ·obtain ⟨s',d',e1,e2,e3⟩:=ih l a b h1 j hja;exact ⟨s',d',e1,by omega,by omega⟩
    ·obtain ⟨s',d',e1,e2,e3⟩:=ihk _ a2 b2 h2 (j - a) (by omega);rw [List.drop_drop,show a+(j - a)=j by omega] at e1;exact ⟨s',d',e1,by omega,by omega⟩
theorem zDQ:∀ (f:Nat),zPR f
 | 0,l,s,d,h=>by simp [Wt.one] at h
 | f+1,[],s,d,h=>by simp [Wt.one] at h
 | f+1,x::r,s,d,h=>λj hj=>by
  cases j with
  | zero=>exact ⟨s,d,h,by omega,Nat.le_refl _⟩
  | succ j =>
   unfold Wt.one at h;split at h
   ·rename_i hx
    cases h1:Wt.many (Wt.one f) (Wt.parts x).toNat r with
    | none=>rw [h1] at h;cases h
    | some q =>
     obtain ⟨a,b⟩:=q;rw [h1] at h;simp only [Option.some.injEq,Prod.mk.injEq] at h;obtain ⟨rfl,rfl⟩:=h;obtain ⟨s',d',e1,e2,e3⟩:=zIO (zDQ f) _ _ _ _ h1 j (by omega);have l1:=(zD3 f _ _ _ e1)
     have l2:=zBO _ _ _ _ e1;exact ⟨s',d',zFk e1 (by omega) rfl,by omega,by omega⟩
   ·cases h
theorem zJ0 {r:List Wt.Nd} (h:Wt.one f (x::r)=some (s,d)):Wt.right x=true/\∃ a b,Wt.many (Wt.one f) (Wt.parts x).toNat r=some (a,b)/\s=a+1/\d=b+1:=by
 cases f with
 | zero=>simp [Wt.one] at h
 | succ f =>
  unfold Wt.one at h;split at h
  ·rename_i hx
   cases h1:Wt.many (Wt.one f) (Wt.parts x).toNat r with
   | none=>rw [h1] at h;cases h
   | some q =>
    obtain ⟨a,b⟩:=q;rw [h1] at h;simp only [Option.some.injEq,Prod.mk.injEq] at h;have l1:=zBO (f+1) (x::r) s d (by unfold Wt.one;rw [if_pos hx,h1];simp [h]);exact ⟨hx,a,b,(zF7 (zD3 f) _ _ _ _ h1).2 (f+1) r (by omega) rfl,by omega,by omega⟩
  ·cases h
theorem zDK (h:Wt.check L=0):L.length<=256/\∃ d,Wt.one (L.length+1) L=some (L.length,d)/\d<=32:=by
 unfold Wt.check at h;split at h
 ·omega
 rename_i h1
 split at h
 ·omega
 rename_i s d h2
 split at h
 ·omega
 rename_i h3
 split at h
 ·omega
 rename_i h4
 have:s=L.length:=by omega
 subst this;exact ⟨by omega,d,h2,by omega⟩
end Go.Proofs.YtefkclbaflkheaaGreatDoor
namespace Go.Proofs.YtefkclbaflkheaaGreatDoor.Wf
open Go.Proofs.YtefkclbaflkheaaGreatDoor
structure Br (α:Type) where
 x:Wt.Nd
 ks:List α
def Tr:Nat->Type
 | 0=>Empty
 | n+1=>Br (Tr n)
def hd:(n:Nat)->Tr n->Wt.Nd
 | 0,t=>Empty.elim t
 | _+1,t=>Br.x t
def row:(n:Nat)->Tr n->List Wt.Nd
 | 0,t=>Empty.elim t
 | n+1,t=>Br.x t::((Br.ks t).map (row n)).flatten
def zAz:(n:Nat)->Tr n->Prop
 | 0,t=>Empty.elim t
 | n+1,t=>Wt.right (Br.x t)=true/\Wt.parts (Br.x t)=((Br.ks t).length:Int)/\∀ k ∈ Br.ks t,zAz n k
theorem zHJ {f:Nat} (ih:∀ (l:List Wt.Nd) (s d:Nat),Wt.one f l=some (s,d)->∃ t:Tr f,row f t=l.take s/\zAz f t) :
  ∀ (k:Nat) (l:List Wt.Nd) (s d:Nat),Wt.many (Wt.one f) k l=some (s,d)->∃ ks:List (Tr f),ks.length=k/\(ks.map (row f)).flatten=l.take s/\∀ t ∈ ks,zAz f t:=by
 intro k;induction k with
 | zero=>intro l s d h;simp only [Wt.many,Option.some.injEq,Prod.mk.injEq] at h;obtain ⟨rfl,rfl⟩:=h;exact ⟨[],rfl,by simp,λt ht=>by cases ht⟩
 | succ k ihk =>
  intro l s d h;simp only [Wt.many] at h;cases h1:Wt.one f l with
  | none=>rw [h1] at h;cases h
  | some q =>
   obtain ⟨a,b⟩:=q;rw [h1] at h;simp only at h;cases h2:Wt.many (Wt.one f) k (l.drop a) with
   | none=>rw [h2] at h;cases h
   | some q2 =>
    obtain ⟨a2,b2⟩:=q2;rw [h2] at h;simp only [Option.some.injEq,Prod.mk.injEq] at h;obtain ⟨rfl,rfl⟩:=h;obtain ⟨t,e1,f1⟩:=ih l a b h1;obtain ⟨ks,e2,e3,f2⟩:=ihk _ a2 b2 h2;refine ⟨t::ks,by simp [e2],?_,λu hu=>?_⟩
    ·simp only [List.map_cons,List.flatten_cons,e1,e3];rw [List.take_add]
    ·rcases List.mem_cons.1 hu with rfl | hu
     ·exact f1
     ·exact f2 u hu
theorem zDW:∀ (f:Nat) (l:List Wt.Nd) (s d:Nat),Wt.one f l=some (s,d)->∃ t:Tr f,row f t=l.take s/\zAz f t
 | 0,l,s,d,h=>by simp [Wt.one] at h
 | f+1,[],s,d,h=>by simp [Wt.one] at h
 | f+1,x::r,s,d,h=>by
  unfold Wt.one at h;split at h
  ·rename_i hx
   cases h1:Wt.many (Wt.one f) (Wt.parts x).toNat r with
   | none=>rw [h1] at h;cases h
   | some q =>
    obtain ⟨a,b⟩:=q;rw [h1] at h;simp only [Option.some.injEq,Prod.mk.injEq] at h;obtain ⟨rfl,rfl⟩:=h;obtain ⟨ks,e1,e2,f1⟩:=zHJ (zDW f) _ _ _ _ h1;refine ⟨(⟨x,ks⟩:Br (Tr f)),?_,hx,?_,f1⟩
    ·show x::(ks.map (row f)).flatten=(x::r).take (a+1)
     rw [e2,List.take_succ_cons]
    ·show Wt.parts x=(ks.length:Int)
     have:=(Wt.parts_le hx).1;omega
  ·cases h
theorem zGh {l:List Wt.Nd} (h:Wt.check l=0):∃ t:Tr (l.length+1),row _ t=l/\zAz _ t/\l.length<=256:=by
 unfold Wt.check at h;split at h
 ·omega
 ·rename_i hl
  split at h
  ·omega
  ·rename_i s d h1
   split at h
   ·omega
   ·rename_i hs
    obtain ⟨t,e,f⟩:=zDW _ _ _ _ h1;refine ⟨t,?_,f,by omega⟩;rw [e,show s=l.length from by omega,List.take_length]
end Go.Proofs.YtefkclbaflkheaaGreatDoor.Wf
namespace Go.Proofs.YtefkclbaflkheaaGreatDoor
open Tryz
open Go.RowKit
variable {ka kb:Nat} {x:Wc.In} {tv:Value} {W:World}
theorem zJM {l m:List Int} {i:Nat} (h:l.take i=m.take i) (hl:i<l.length) (hm:i<m.length) (e:l[i]=m[i]):l.take (i+1)=m.take (i+1):=by
 rw [List.take_succ_eq_append_getElem hl,List.take_succ_eq_append_getElem hm,h,e]
theorem zHa (l m:List Int) (v1 v2:Value) (w:World) (h1:RdZ w v1 l) (h2:RdZ w v2 m) (hl:l.length<=1000000) (hm:m.length<=1000000) :
  CR 140 #[v1,v2] w (.bool (decide (l=m))):=by
 obtain ⟨a1,c1,rfl,r1⟩:=h1;obtain ⟨a2,c2,rfl,r2⟩:=h2;by_cases hlen:l.length=m.length
 ·have H1:Hid (∀ i (h:i<l.length),∃ bb off,a1=some ⟨bb,off,none⟩/\w.cell? ⟨bb,off+i,none⟩=some (.int .i64 (l[i]))):=r1;have H2:Hid (∀ i (h:i<m.length),∃ bb off,a2=some ⟨bb,off,none⟩/\w.cell? ⟨bb,off+i,none⟩=some (.int .i64 (m[i]))):=r2;obtain ⟨n,hn⟩:∃ n,l.length=n:=⟨_,rfl⟩
  have hm2:m.length=n:=by omega
  obtain ⟨q,hq⟩:∃ q,decide (l=m)=q:=⟨_,rfl⟩
  rw [hq,hn,hm2];rw [hn] at hl;have HQ:Hid (decide (l=m)=q):=hq;have HN:Hid (l.length=n):=hn;have HM:Hid (m.length=n):=hm2;clear r1 r2 hq hlen hm hn hm2;go_enter func140,ntmps140;go_wp2_with fail
  go_loopg [5,13] n (λgk y x wr=>∃ i:Nat,x=.int .i64 i/\gk=n - i/\i<=n/\Hid (l.take i=m.take i)/\Below w.heap.size w wr)
  case atStart=>exact ⟨0,rfl,rfl,Nat.zero_le _,(rfl:l.take 0=m.take 0),Below.refl _ _⟩
  case round =>
   obtain ⟨i,rfl,hg,hi,HT,hb⟩:=hrel;by_cases hlt:i<n
   ·have hli:(i:Int)<(n:Int):=by omega
    have hwi:IntKind.i64.wrap ((i:Int)+1)=(i:Int)+1:=by rw [IntKind.wrap_i64];omega
    have hil:i<l.length:=by rw [HN.out];exact hlt
    have him:i<m.length:=by rw [HM.out];exact hlt
    obtain ⟨b1,o1,rfl,q1⟩:=H1.out i hil;obtain ⟨b2,o2,rfl,q2⟩:=H2.out i him;have d1:=zAC hb q1;have d2:=zAC hb q2;have X:Hid (∃ z,l[i]=z/\z=l[i]):=⟨_,rfl,rfl⟩
    obtain ⟨x,hx⟩:∃ x,l[i]=x:=⟨_,rfl⟩
    obtain ⟨y,hy⟩:∃ y,m[i]=y:=⟨_,rfl⟩
    rw [hx] at d1;rw [hy] at d2;have HX:Hid (l[i]=x):=hx;have HY:Hid (m[i]=y):=hy;clear q1 q2 hx hy X;by_cases hxy:x=y
    ·have HT2:Hid (l.take (i+1)=m.take (i+1)):=zJM HT.out hil him (by rw [HX.out,HY.out];exact hxy);subst hxy;go_upto_region 6 with fail
     go_quiet (fail)
     go_wp2_with fail
     go_roundg (n - (i+1))
     case rel=>exact ⟨i+1,by simp,rfl,hlt,HT2,(clB hb)⟩
     case measure=>omega
    ·have hne:Hid (q=false):=by
      show q=false
      rw [<-HQ.out];refine decide_eq_false λe=>hxy ?_
      rw [<-HX.out,<-HY.out];simp only [e]
     go_upto_region 6 with fail
     go_quiet (fail)
     go_wp2;go_ret;exact ⟨by rw [hne.out];rfl,(clB hb)⟩
   ·have hli:¬ (i:Int)<(n:Int):=by omega
    have hqt:Hid (q=true):=by
     show q=true
     rw [<-HQ.out];have h:=HT.out;rw [List.take_of_length_le (by rw [HN.out];omega),List.take_of_length_le (by rw [HM.out];omega)] at h;exact decide_eq_true h
    go_wp2;go_ret;exact ⟨by rw [hqt.out];rfl,hb⟩
 ·have hne:decide (l=m)=false:=decide_eq_false λe=>hlen (by rw [e])
  have hz:¬ ((l.length:Int)=(m.length:Int)):=by omega
  rw [hne];clear r1 r2 hl hm;go_enter func140,ntmps140;go_wp2;go_ret;exact ⟨rfl,Below.refl _ _⟩
def zNr (x y:Wpl.Cl):Bool:=(x.s == y.s) && ((x.r == y.r) && (x.c == y.c))
def zCN (x y:Wpl.Ar):Bool:=(x.s == y.s) && ((x.t == y.t) && ((x.l == y.l) && ((x.b == y.b) && (x.r == y.r))))
theorem zGJ (x y:Wpl.Ar):zCN x y=true ↔ x=y:=by
 obtain ⟨a,b,c,g,i⟩:=x;obtain ⟨d,e,f,h,j⟩:=y;simp [zCN]
theorem zKA (x y:Wpl.Cl) (w:World):(binOp .eql 24 (.agg #[.int .i64 x.s,.int .i64 x.r,.int .i64 x.c]) (.agg #[.int .i64 y.s,.int .i64 y.r,.int .i64 y.c])).run prog w=.ok (.bool (zNr x y)) w:=by
 rw [run_eql_struct];unfold zNr;by_cases h1:x.s=y.s
 ·by_cases h2:x.r=y.r
  ·by_cases h3:x.c=y.c
   ·simp [go_sem,h1,h2,h3]
   ·simp [go_sem,h1,h2,h3]
  ·simp [go_sem,h1,h2]
 ·simp [go_sem,h1]
theorem zGI (x y:Wpl.Ar) (w:World):(binOp .eql 53 (.agg #[.int .i64 x.s,.int .i64 x.t,.int .i64 x.l,.int .i64 x.b,.int .i64 x.r]) (.agg #[.int .i64 y.s,.int .i64 y.t,.int .i64 y.l,.int .i64 y.b,.int .i64 y.r])).run prog w=.ok (.bool (zCN x y)) w:=by
 rw [run_eql_struct];unfold zCN;by_cases h1:x.s=y.s
 ·by_cases h2:x.t=y.t
  ·by_cases h3:x.l=y.l
   ·by_cases h4:x.b=y.b
    ·by_cases h5:x.r=y.r
     ·simp [go_sem,h1,h2,h3,h4,h5]
     ·simp [go_sem,h1,h2,h3,h4,h5]
    ·simp [go_sem,h1,h2,h3,h4]
   ·simp [go_sem,h1,h2,h3]
  ·simp [go_sem,h1,h2]
 ·simp [go_sem,h1]
def smI (x y:Wc.In):Bool:=(x.a == y.a) && ((x.b == y.b) && (zMd x.v y.v && (zNr x.ce y.ce && (zCN x.ar y.ar && zCN x.pr y.pr))))
theorem zA6 (x y:Wc.In) (t1 t2:Value) (l1 l2:List Int) (w:World) (h1:RdZ w t1 l1) (h2:RdZ w t2 l2) (hl:l1.length<=1000000) (hm:l2.length<=1000000) :
  CR 97 #[inV x t1,inV y t2] w (.bool (smI x y && decide (l1=l2))):=by
 have pA:=(AtL.new0 w 56 (zAD x t1)).alloc (.cells (zAD y t2).toArray 56);have pB:=AtL.new1 w (.cells (zAD x t1).toArray 56) 56 (zAD y t2);have hB:=zAM (zAM (Below.refl _ w) (.cells (zAD x t1).toArray 56)) (.cells (zAD y t2).toArray 56);have Z:∀ w',Below ((w.alloc (.cells (zAD x t1).toArray 56)).alloc (.cells (zAD y t2).toArray 56)).heap.size ((w.alloc (.cells (zAD x t1).toArray 56)).alloc (.cells (zAD y t2).toArray 56)) w'->_:=λw' hb=>zHa l1 l2 t1 t2 w' ((h1.below hB).below hb) ((h2.below hB).below hb) hl hm
 clear h1 h2 hl hm;have EV:=λw=>zBM x.v.k x.v.n x.v.d x.v.t x.v.b x.v.f y.v.k y.v.n y.v.d y.v.t y.v.b y.v.f w
 have EC:=λw=>zKA x.ce y.ce w
 have ER:=λw=>zGI x.ar y.ar w
 have EP:=λw=>zGI x.pr y.pr w
 have HV:Hid (∃ q,zMd x.v y.v=q):=⟨_,rfl⟩
 have HC:Hid (∃ q,zNr x.ce y.ce=q):=⟨_,rfl⟩
 have HR:Hid (∃ q,zCN x.ar y.ar=q):=⟨_,rfl⟩
 have HP:Hid (∃ q,zCN x.pr y.pr=q):=⟨_,rfl⟩
 obtain ⟨qv,hv⟩:=HV.out;obtain ⟨qc,hc⟩:=HC.out;obtain ⟨qr,hr⟩:=HR.out;obtain ⟨qp,hp⟩:=HP.out;clear HV HC HR HP;rw [show eqV x.v.k x.v.n x.v.d x.v.t x.v.b x.v.f y.v.k y.v.n y.v.d y.v.t y.v.b y.v.f=qv from hv] at EV;rw [hc] at EC;rw [hr] at ER;rw [hp] at EP;have HV:Hid (zMd x.v y.v=qv):=hv;have HC:Hid (zNr x.ce y.ce=qc):=hc;have HR:Hid (zCN x.ar y.ar=qr):=hr;have HP:Hid (zCN x.pr y.pr=qp):=hp;clear hv hc hr hp;go_enter func97,ntmps97;go_upto_region 1 with fail
 generalize ((w.alloc (.cells (zAD x t1).toArray 56)).alloc (.cells (zAD y t2).toArray 56))=W at *;have e0:W.cell? ⟨w.heap.size,0,none⟩=some (.int .i64 x.op):=pA.2.1 0 _ rfl;have d0:W.cell? ⟨w.heap.size+1,0,none⟩=some (.int .i64 y.op):=pB.2.1 0 _ rfl;have e1:W.cell? ⟨w.heap.size,1,none⟩=some (.int .i64 x.a):=pA.2.1 1 _ rfl;have d1:W.cell? ⟨w.heap.size+1,1,none⟩=some (.int .i64 y.a):=pB.2.1 1 _ rfl;have e2:W.cell? ⟨w.heap.size,2,none⟩=some (.int .i64 x.b):=pA.2.1 2 _ rfl;have d2:W.cell? ⟨w.heap.size+1,2,none⟩=some (.int .i64 y.b):=pB.2.1 2 _ rfl;have e3:W.cell? ⟨w.heap.size,3,none⟩=some (.int .i64 x.v.k):=pA.2.1 3 _ rfl;have d3:W.cell? ⟨w.heap.size+1,3,none⟩=some (.int .i64 y.v.k):=pB.2.1 3 _ rfl;have e4:W.cell? ⟨w.heap.size,4,none⟩=some (.int .i64 x.v.n):=pA.2.1 4 _ rfl;have d4:W.cell? ⟨w.heap.size+1,4,none⟩=some (.int .i64 y.v.n):=pB.2.1 4 _ rfl;have e5:W.cell? ⟨w.heap.size,5,none⟩=some (.int .i64 x.v.d):=pA.2.1 5 _ rfl;have d5:W.cell? ⟨w.heap.size+1,5,none⟩=some (.int .i64 y.v.d):=pB.2.1 5 _ rfl;have e6:W.cell? ⟨w.heap.size,6,none⟩=some (.string x.v.t):=pA.2.1 6 _ rfl;have d6:W.cell? ⟨w.heap.size+1,6,none⟩=some (.string y.v.t):=pB.2.1 6 _ rfl;have e7:W.cell? ⟨w.heap.size,7,none⟩=some (.bool x.v.b):=pA.2.1 7 _ rfl;have d7:W.cell? ⟨w.heap.size+1,7,none⟩=some (.bool y.v.b):=pB.2.1 7 _ rfl;have e8:W.cell? ⟨w.heap.size,8,none⟩=some (.int .i64 x.v.f):=pA.2.1 8 _ rfl
 have d8:W.cell? ⟨w.heap.size+1,8,none⟩=some (.int .i64 y.v.f):=pB.2.1 8 _ rfl;have e9:W.cell? ⟨w.heap.size,9,none⟩=some (.int .i64 x.ce.s):=pA.2.1 9 _ rfl;have d9:W.cell? ⟨w.heap.size+1,9,none⟩=some (.int .i64 y.ce.s):=pB.2.1 9 _ rfl;have e10:W.cell? ⟨w.heap.size,10,none⟩=some (.int .i64 x.ce.r):=pA.2.1 10 _ rfl;have d10:W.cell? ⟨w.heap.size+1,10,none⟩=some (.int .i64 y.ce.r):=pB.2.1 10 _ rfl;have e11:W.cell? ⟨w.heap.size,11,none⟩=some (.int .i64 x.ce.c):=pA.2.1 11 _ rfl;have d11:W.cell? ⟨w.heap.size+1,11,none⟩=some (.int .i64 y.ce.c):=pB.2.1 11 _ rfl;have e12:W.cell? ⟨w.heap.size,12,none⟩=some (.int .i64 x.ar.s):=pA.2.1 12 _ rfl;have d12:W.cell? ⟨w.heap.size+1,12,none⟩=some (.int .i64 y.ar.s):=pB.2.1 12 _ rfl;have e13:W.cell? ⟨w.heap.size,13,none⟩=some (.int .i64 x.ar.t):=pA.2.1 13 _ rfl;have d13:W.cell? ⟨w.heap.size+1,13,none⟩=some (.int .i64 y.ar.t):=pB.2.1 13 _ rfl;have e14:W.cell? ⟨w.heap.size,14,none⟩=some (.int .i64 x.ar.l):=pA.2.1 14 _ rfl;have d14:W.cell? ⟨w.heap.size+1,14,none⟩=some (.int .i64 y.ar.l):=pB.2.1 14 _ rfl;have e15:W.cell? ⟨w.heap.size,15,none⟩=some (.int .i64 x.ar.b):=pA.2.1 15 _ rfl;have d15:W.cell? ⟨w.heap.size+1,15,none⟩=some (.int .i64 y.ar.b):=pB.2.1 15 _ rfl;have e16:W.cell? ⟨w.heap.size,16,none⟩=some (.int .i64 x.ar.r):=pA.2.1 16 _ rfl;have d16:W.cell? ⟨w.heap.size+1,16,none⟩=some (.int .i64 y.ar.r):=pB.2.1 16 _ rfl
 have e17:W.cell? ⟨w.heap.size,17,none⟩=some (.int .i64 x.pr.s):=pA.2.1 17 _ rfl;have d17:W.cell? ⟨w.heap.size+1,17,none⟩=some (.int .i64 y.pr.s):=pB.2.1 17 _ rfl;have e18:W.cell? ⟨w.heap.size,18,none⟩=some (.int .i64 x.pr.t):=pA.2.1 18 _ rfl;have d18:W.cell? ⟨w.heap.size+1,18,none⟩=some (.int .i64 y.pr.t):=pB.2.1 18 _ rfl;have e19:W.cell? ⟨w.heap.size,19,none⟩=some (.int .i64 x.pr.l):=pA.2.1 19 _ rfl;have d19:W.cell? ⟨w.heap.size+1,19,none⟩=some (.int .i64 y.pr.l):=pB.2.1 19 _ rfl;have e20:W.cell? ⟨w.heap.size,20,none⟩=some (.int .i64 x.pr.b):=pA.2.1 20 _ rfl;have d20:W.cell? ⟨w.heap.size+1,20,none⟩=some (.int .i64 y.pr.b):=pB.2.1 20 _ rfl;have e21:W.cell? ⟨w.heap.size,21,none⟩=some (.int .i64 x.pr.r):=pA.2.1 21 _ rfl;have d21:W.cell? ⟨w.heap.size+1,21,none⟩=some (.int .i64 y.pr.r):=pB.2.1 21 _ rfl;have e22:W.cell? ⟨w.heap.size,22,none⟩=some t1:=pA.2.1 22 _ rfl;have d22:W.cell? ⟨w.heap.size+1,22,none⟩=some t2:=pB.2.1 22 _ rfl;clear pA pB;by_cases h_a:x.a=y.a
 ·by_cases h_b:x.b=y.b
  ·cases qv with
   | false =>
    go_wp2;go_ret;exact ⟨by simp [smI,HV.out,HC.out,HR.out,HP.out],(clB hB)⟩
   | true =>
    cases qc with
    | false =>
     go_wp2;go_ret;exact ⟨by simp [smI,HV.out,HC.out,HR.out,HP.out],(clB hB)⟩
    | true =>
     cases qr with
     | false =>
      go_wp2;go_ret;exact ⟨by simp [smI,HV.out,HC.out,HR.out,HP.out],(clB hB)⟩
     | true =>
      cases qp with
      | false =>
       go_wp2;go_ret;exact ⟨by simp [smI,HV.out,HC.out,HR.out,HP.out],(clB hB)⟩
      | true =>
       go_wp2_with fail
       refine (Z _ (Below.refl _ _)).mono ?_;rintro e w1 ⟨rfl,hb1⟩;have hB1:=zAB hB hb1;go_wp2;go_ret;exact ⟨by simp [smI,h_a,h_b,HV.out,HC.out,HR.out,HP.out],(clB hB1)⟩
  ·go_wp2;go_ret;exact ⟨by simp [smI,h_a,h_b],(clB hB)⟩
 ·go_wp2;go_ret;exact ⟨by simp [smI,h_a],(clB hB)⟩
def v0I:Wt.Vl:=⟨0,0,0,⟨#[]⟩,false,0⟩
def c0I:Wpl.Cl:=⟨0,0,0⟩
def a0I:Wpl.Ar:=⟨0,0,0,0,0⟩
def zAI (k:Int):Wc.In:=⟨k,0,0,v0I,c0I,a0I,a0I⟩
abbrev zAH:Value:=.slice none 0 0
abbrev zAU (w:World) (x:Wc.In) (tv:Value):World:=(w.alloc (.cells (zAD x tv).toArray 56)).alloc (.cells #[.int .i64 0,.int .i64 0,.int .i64 0,.int .i64 0,.int .i64 0,.int .i64 0,.string ⟨#[]⟩,.bool false,.int .i64 0,.int .i64 0,.int .i64 0,.int .i64 0,.int .i64 0,.int .i64 0,.int .i64 0,.int .i64 0,.int .i64 0,.int .i64 0,.int .i64 0,.int .i64 0,.int .i64 0,.int .i64 0,.slice none 0 0] 56)
theorem zLf (x:Wc.In) (av:Option Addr) (n c:Nat):∀ v ∈ zAD x (.slice av n c),v.oneCell'=true:=by
 intro v hv;simp only [zAD,List.mem_cons,List.not_mem_nil,or_false] at hv;rcases hv with rfl | rfl | rfl | rfl | rfl | rfl | rfl | rfl | rfl | rfl | rfl | rfl | rfl | rfl | rfl | rfl | rfl | rfl | rfl | rfl | rfl | rfl | rfl <;> rfl
theorem zAj (x:Wc.In) (av:Option Addr) (n c:Nat):(zAD x (.slice av n c)).toArray.all (·.oneCell')=true:=all_oneCell_toArray (zLf x av n c)
abbrev zOS (ka kb:Nat) (x:Wc.In) (tv:Value) (W:World):Prop :=
 W.cell? ⟨ka,3,none⟩=some (.int .i64 x.v.k)/\W.cell? ⟨ka,4,none⟩=some (.int .i64 x.v.n)/\W.cell? ⟨ka,5,none⟩=some (.int .i64 x.v.d)/\W.cell? ⟨ka,6,none⟩=some (.string x.v.t)/\W.cell? ⟨ka,7,none⟩=some (.bool x.v.b)/\W.cell? ⟨ka,8,none⟩=some (.int .i64 x.v.f)/\W.frozen? ⟨kb,3,none⟩=false/\W.frozen? ⟨kb,4,none⟩=false/\W.frozen? ⟨kb,5,none⟩=false/\W.frozen? ⟨kb,6,none⟩=false/\W.frozen? ⟨kb,7,none⟩=false/\W.frozen? ⟨kb,8,none⟩=false
theorem zFE {y:Wc.In} {tu:Value} (h0:AtL W ka (zAD x tv)) (h1:AtL W kb (zAD y tu)):zOS ka kb x tv W :=
 ⟨h0.2.1 3 _ rfl,h0.2.1 4 _ rfl,h0.2.1 5 _ rfl,h0.2.1 6 _ rfl,h0.2.1 7 _ rfl,h0.2.1 8 _ rfl,h1.2.2 3 (by show 3<23;decide),h1.2.2 4 (by show 4<23;decide),h1.2.2 5 (by show 5<23;decide),h1.2.2 6 (by show 6<23;decide),h1.2.2 7 (by show 7<23;decide),h1.2.2 8 (by show 8<23;decide)⟩
theorem zBq (h:zOS ka kb x tv W) (hne:kb ≠ ka) (j:Nat) (u:Value):zOS ka kb x tv (W.setCell ⟨kb,j,none⟩ u):=by
 obtain ⟨h3,h4,h5,h6,h7,h8,g3,g4,g5,g6,g7,g8⟩:=h;refine ⟨?_,?_,?_,?_,?_,?_,?_,?_,?_,?_,?_,?_⟩;any_goals rw [World.cell?_setCell_far _ _ _ _ (by simpa using hne)];assumption
 all_goals rw [World.frozen?_setCell];assumption
theorem zKt (x:Wc.In) (av:Option Addr) (n c:Nat) (tl:List Int) (w:World) (hk:x.op=1) (hz:RdZ w (.slice av n c) tl) (hl:tl.length<=1000000) (h1:-9223372036854775808<=x.v.n) (h2:x.v.n<=9223372036854775807) (h3:-9223372036854775808<=x.v.d) (h4:x.v.d<=9223372036854775807) (hs:x.v.t.size<=9223372036854775807) :
  CR 61 #[inV x (.slice av n c)] w (.bool (Wv.right x.v.k x.v.n x.v.d x.v.t x.v.b x.v.f && (smI x ⟨1,0,0,x.v,c0I,a0I,a0I⟩ && decide (tl=[])))):=by
 have C:=(λw=>zDN x.v w h1 h2 h3 h4 hs:∀ w:World,CR 92 #[.agg #[.int .i64 x.v.k,.int .i64 x.v.n,.int .i64 x.v.d,.string x.v.t,.bool x.v.b,.int .i64 x.v.f]] w (.bool (Wv.right x.v.k x.v.n x.v.d x.v.t x.v.b x.v.f)))
 have CS:∀ w',Below w.heap.size w w'->Calls prog 97 #[.agg (zAD x (.slice av n c)).toArray,.agg (zAD ⟨1,0,0,x.v,c0I,a0I,a0I⟩ zAH).toArray] w' λe w''=>e=.returned (.bool (smI x ⟨1,0,0,x.v,c0I,a0I,a0I⟩ && decide (tl=[])))/\Below w'.heap.size w' w'':=λw' hb=>zA6 x ⟨1,0,0,x.v,c0I,a0I,a0I⟩ _ _ tl [] w' (hz.below hb) (RdZ.nil _) hl (by first | exact hl | simp)
 obtain ⟨tv,htv⟩:∃ tv,Value.slice av n c=tv:=⟨_,rfl⟩
 rw [htv] at CS ⊢;generalize (smI x ⟨1,0,0,x.v,c0I,a0I,a0I⟩ && decide (tl=[]))=R at *;generalize Wv.right x.v.k x.v.n x.v.d x.v.t x.v.b x.v.f=q at *;have pA0:AtL (zAU w x tv) w.heap.size (zAD x tv):=(AtL.new0 w _ _).alloc _;have pO0:AtL (zAU w x tv) (w.heap.size+1) (zAD (zAI 0) zAH):=AtL.new1 w _ _ _;have hth:World.there (zAU w x tv) (w.heap.size+1) 0 (zAD (zAI 1) zAH).toArray.size:=pO0.there;have hne:w.heap.size+1 ≠ w.heap.size:=by omega
 have pA:=pA0.farAll hne 0 (zAD (zAI 1) zAH);have pO:AtL ((zAU w x tv).setCells (w.heap.size+1) 0 (zAD (zAI 1) zAH)) (w.heap.size+1) (zAD (zAI 1) zAH):=pO0.setAll rfl;have hBa:Below w.heap.size w ((zAU w x tv).setCells (w.heap.size+1) 0 (zAD (zAI 1) zAH)):=zAv (zAM (zAM (Below.refl _ w) _) _) (Nat.le_succ _) _ 0;clear pA0 pO0;have n0:(zAD x tv)[0]? = some (.int .i64 1):=by rw [<-hk];rfl
 have a0:World.cell? ((zAU w x tv).setCells (w.heap.size+1) 0 (zAD (zAI 1) zAH)) ⟨w.heap.size,0,none⟩=some (.int .i64 1):=pA.2.1 0 _ n0;show Calls _ _ #[.agg (zAD x tv).toArray] _ _
 have hS:zOS w.heap.size (w.heap.size+1) x tv ((zAU w x tv).setCells (w.heap.size+1) 0 (zAD (zAI 1) zAH)):=zFE pA pO;clear hz hl htv;cases q
 all_goals
  go_enter func61,ntmps61;go_upto_region 1 with fail
  go_upto_region 2 with ((with_reducible refine wpList_store_mid ?_ 56 (.tmp 3) (.tmp 7) ?_ (w.heap.size+1) 0 (zAD (zAI 1) zAH).toArray ?_ ?_ ?_ ?_ ?_ ?_);rfl;rfl;rfl;rfl;exact hth;kernel_rfl;exact zAj _ _ _ _)
  generalize (zAU w x tv).setCells (w.heap.size+1) 0 (zAD (zAI 1) zAH)=W0 at *;clear hth;go_upto_region 4 with fail
  go_region_held3 (zOS w.heap.size (w.heap.size+1) x tv)
   (with_reducible first | exact hS | assumption | exact zFE pA1 pO1 | exact (zBq (zBq (zBq (zBq (zBq (zBq (by assumption) (by omega) _ _) (by omega) _ _) (by omega) _ _) (by omega) _ _) (by omega) _ _) (by omega) _ _) | exact zFE (AtL.drew pA) (AtL.drew pO))
   (first | (go_at_call 92;refine (C _).mono ?_;rintro e w1 ⟨rfl,hb⟩;have pA1:=AtL.below hb (AtL.drew pA);have pO1:=AtL.below hb (AtL.drew pO);have o3:=pO1.2.1 3 _ rfl;have o4:=pO1.2.1 4 _ rfl;have o5:=pO1.2.1 5 _ rfl;have o6:=pO1.2.1 6 _ rfl;have o7:=pO1.2.1 7 _ rfl;have o8:=pO1.2.1 8 _ rfl;have hB1:=zAB hBa.drew hb))
  all_goals
   clear pA pO hS C hBa o3 o4 o5 o6 o7 o8 a0;have pA2:AtL ((((((w1.setCell ⟨w.heap.size+1,3,none⟩ (.int .i64 x.v.k)).setCell ⟨w.heap.size+1,4,none⟩ (.int .i64 x.v.n)).setCell ⟨w.heap.size+1,5,none⟩ (.int .i64 x.v.d)).setCell ⟨w.heap.size+1,6,none⟩ (.string x.v.t)).setCell ⟨w.heap.size+1,7,none⟩ (.bool x.v.b)).setCell ⟨w.heap.size+1,8,none⟩ (.int .i64 x.v.f)) w.heap.size (zAD x tv):=((((((pA1.far hne 3 (.int .i64 x.v.k)).far hne 4 (.int .i64 x.v.n)).far hne 5 (.int .i64 x.v.d)).far hne 6 (.string x.v.t)).far hne 7 (.bool x.v.b)).far hne 8 (.int .i64 x.v.f))
   have pO2:AtL ((((((w1.setCell ⟨w.heap.size+1,3,none⟩ (.int .i64 x.v.k)).setCell ⟨w.heap.size+1,4,none⟩ (.int .i64 x.v.n)).setCell ⟨w.heap.size+1,5,none⟩ (.int .i64 x.v.d)).setCell ⟨w.heap.size+1,6,none⟩ (.string x.v.t)).setCell ⟨w.heap.size+1,7,none⟩ (.bool x.v.b)).setCell ⟨w.heap.size+1,8,none⟩ (.int .i64 x.v.f)) (w.heap.size+1) (zAD ⟨1,0,0,x.v,c0I,a0I,a0I⟩ zAH):=((((((pO1.set 3 (.int .i64 x.v.k)).set 4 (.int .i64 x.v.n)).set 5 (.int .i64 x.v.d)).set 6 (.string x.v.t)).set 7 (.bool x.v.b)).set 8 (.int .i64 x.v.f))
   have hB2:Below w.heap.size w ((((((w1.setCell ⟨w.heap.size+1,3,none⟩ (.int .i64 x.v.k)).setCell ⟨w.heap.size+1,4,none⟩ (.int .i64 x.v.n)).setCell ⟨w.heap.size+1,5,none⟩ (.int .i64 x.v.d)).setCell ⟨w.heap.size+1,6,none⟩ (.string x.v.t)).setCell ⟨w.heap.size+1,7,none⟩ (.bool x.v.b)).setCell ⟨w.heap.size+1,8,none⟩ (.int .i64 x.v.f)):=(clB hB1)
   clear pA1 pO1 hB1;generalize ((((((w1.setCell ⟨w.heap.size+1,3,none⟩ (.int .i64 x.v.k)).setCell ⟨w.heap.size+1,4,none⟩ (.int .i64 x.v.n)).setCell ⟨w.heap.size+1,5,none⟩ (.int .i64 x.v.d)).setCell ⟨w.heap.size+1,6,none⟩ (.string x.v.t)).setCell ⟨w.heap.size+1,7,none⟩ (.bool x.v.b)).setCell ⟨w.heap.size+1,8,none⟩ (.int .i64 x.v.f))=W2 at *;have rA:=pA2.range;have rO:=pO2.range;clear pA2 pO2;go_wp2_with (first | ((with_reducible refine zAA ?_ 56 (.tmp 1) ?_ w.heap.size 0 ?_ (zAD x tv) _ ?_ underlying56 ?_ ?_ ?_);rfl;rfl;rfl;exact rA;rfl;kernel_rfl) | ((with_reducible refine zAA ?_ 56 (.tmp 3) ?_ (w.heap.size+1) 0 ?_ (zAD ⟨1,0,0,x.v,c0I,a0I,a0I⟩ zAH) _ ?_ underlying56 ?_ ?_ ?_);rfl;rfl;rfl;exact rO;rfl;kernel_rfl) | (go_at_call 97;refine (CS _ hB2).mono ?_;rintro e w3 ⟨rfl,hb3⟩;have hB3:=zAB hB2 hb3))
   go_wp2;go_ret;first
   | exact ⟨by simp,hB2⟩
   | exact ⟨by simp,hB3⟩
end Go.Proofs.YtefkclbaflkheaaGreatDoor
namespace Go.Proofs.YtefkclbaflkheaaGreatDoor.Wf
open Go.Proofs.YtefkclbaflkheaaGreatDoor
def idx (s:ByteArray):List ByteArray->Nat->Int
 | [],_=>-1
 | t::r,i=>if t=s then (i:Int) else idx s r (i+1)
def shN (own:Int) (nm:List ByteArray) (s:ByteArray):Int:=if s=⟨#[]⟩ then own else idx s nm 0
def zBR (x:Wt.Nd):Wpl.Ar:=⟨0,min x.a.r x.b.r,min x.a.c x.b.c,max x.a.r x.b.r,max x.a.c x.b.c⟩
def areaN (own:Int) (nm:List ByteArray) (x:Wt.Nd):Wpl.Ar:={zBR x with s:=shN own nm x.a.s}
def zDG (own:Int) (nm:List ByteArray) (x:Wt.Nd):Wpl.Cl:=⟨shN own nm x.a.s,x.a.r,x.a.c⟩
def isA (x:Wt.Nd):Bool:=x.k == 3
def zA1 (s:ByteArray):Nat:=fnN.findIdx (λl=>decide ((⟨l.toArray⟩:ByteArray)=s))
def zA0 (p:List UInt8):List Wt.Nd->Nat->Bool
 | [],_=>true
 | x::r,i=>if (p.getD (min i (p.length - 1)) 0 == 97 && !isA x) || (p.getD (min i (p.length - 1)) 0 == 118 && isA x) then false else zA0 p r (i+1)
def zAe (l:List Wt.Nd):List Wt.Nd:=l.filter isA
def zAd (id:Int) (l:List Wt.Nd):Bool :=
 if Wc.pairs id then
  let a:=zBR ((zAe l).headD ⟨0,v0I,0,⟨#[]⟩,0,Wt.r0,Wt.r0⟩)
  let b:=zBR ((zAe l).getLastD ⟨0,v0I,0,⟨#[]⟩,0,Wt.r0,Wt.r0⟩)
  (a.b - a.t == b.b - b.t) && (a.r - a.l == b.r - b.l)
 else true
def zDC (x:Wt.Nd) (ks:List Wt.Nd):Int :=
 let id:Int:=(zA1 x.nm:Nat)
 if zAb id=false then 80
 else if x.ar<(zAJ id).l \/ (zAJ id).m<x.ar then 81
 else if zA0 (zAJ id).p.data.toList ks 0=false then 82
 else if zAd id ks=false then 83 else 0
def zB2 (own:Int) (nm:List ByteArray) (x:Wt.Nd) (ks:List Wt.Nd):Int :=
 if x.k=2 \/ x.k=3 then (if shN own nm x.a.s<0 then 84 else 0)
 else if x.k=4 \/ x.k=5 then (if ks.any isA then 82 else 0)
 else if x.k=6 then zDC x ks else 0
def zBz:List Int->Int
 | []=>0
 | a::r=>if a=0 then zBz r else a
def zBB (own:Int) (nm:List ByteArray):(n:Nat)->Tr n->Int
 | 0,t=>Empty.elim t
 | n+1,t=>zBz (zB2 own nm (Br.x t) ((Br.ks t).map (hd n))::(Br.ks t).map (zBB own nm n))
abbrev I:=Wc.In × List Int
def ins (o a b:Int):I:=(⟨o,a,b,v0I,c0I,a0I,a0I⟩,[])
def zBU (v:Wt.Vl):I:=(⟨1,0,0,v,c0I,a0I,a0I⟩,[])
def zIC (c:Wpl.Cl):I:=(⟨2,0,0,v0I,c,a0I,a0I⟩,[])
def zAa (o b:Int) (a p:Wpl.Ar):I:=(⟨o,0,b,v0I,c0I,a,p⟩,[])
def zDF (k:Int):Wt.Vl:=⟨1,k,1,⟨#[]⟩,false,0⟩
def zHq:Wt.Vl:=⟨3,0,0,⟨#[]⟩,false,0⟩
def zAR {α:Type} (f:α->Nat->List I):List α->Nat->List I
 | [],_=>[]
 | k::r,a=>f k a++zAR f r (a+(f k a).length)
def zAY {α:Type} (f:α->Nat->List I) (k:α) (a:Nat):List I:=f k a++[ins 7 0 0]
section
variable (own:Int) (nm:List ByteArray)
def zCA {α:Type} (h:α->Wt.Nd) (f:α->Nat->List I) (k:α) (a:Nat):List I :=
 if isA (h k) then [zAa 8 0 (areaN own nm (h k)) a0I] else zAY f k a
def zAw {α:Type} (h:α->Wt.Nd) (f:α->Nat->List I) (id:Int) (ks:List α) (a:Nat):List I :=
 let ars:=zAe (ks.map h)
 let vs:=ks.filter (λk=>!isA (h k))
 let x:=areaN own nm (ars.headD ⟨0,v0I,0,⟨#[]⟩,0,Wt.r0,Wt.r0⟩)
 let y:=areaN own nm (ars.getLastD ⟨0,v0I,0,⟨#[]⟩,0,Wt.r0,Wt.r0⟩)
 if id=26 then [zBU (zDF (x.b - x.t+1))]
 else if id=27 then [zBU (zDF (x.r - x.l+1))]
 else if id=25 then zAR f vs a++[zAa 11 vs.length x a0I]
 else ins 6 id 0::(zAR (zAY f) vs (a+1)++[if Wc.pairs id then zAa 9 0 x y else zAa 8 0 x a0I,ins 10 0 0])
def zC5 {α:Type} (f:α->Nat->List I) (yes:α) (no:List α) (a:Nat):List I :=
 let y:=f yes (a+1)
 let m:=a+1+y.length+1
 let z:=if no.isEmpty then [zBU zHq] else zAR f no m
 ins 12 m (m+z.length:Nat)::(y++ins 13 (m+z.length:Nat) 0::z)
def chB {α:Type} (f:α->Nat->List I) (e:Int):List α->Nat->List I
 | [],_=>[]
 | k::r,a=>ins 13 e 0::(f k (a+1)++chB f e r (a+1+(f k (a+1)).length))
def chT {α:Type} (f:α->Nat->List I):List α->Nat->List Int
 | [],_=>[]
 | k::r,a=>((a+1:Nat):Int)::chT f r (a+1+(f k (a+1)).length)
def zCW {α:Type} (f:α->Nat->List I) (l:List α) (a:Nat):List I :=
 match l with
 | []=>[(⟨15,0,(a+1:Nat),v0I,c0I,a0I,a0I⟩,[])]
 | k::r =>
  let y:=f k (a+1)
  let m:=a+1+y.length
  let e:=m+(chB f 0 r m).length
  (⟨15,0,(e:Nat),v0I,c0I,a0I,a0I⟩,((a+1:Nat):Int)::chT f r m)::(y++chB f e r m)
def zAr {α:Type} (f:α->Nat->List I) (id:Int) (ks:List α) (a:Nat):List I :=
 match ks with
 | []=>[]
 | c::r =>
  let y:=f c a
  y++(match r with
   | []=>if id=32 then zCW f [] (a+y.length) else []
   | u::no=>if id=30 then zC5 f u no (a+y.length)
    else if id=31 then ins 14 (a+y.length+1+(f u (a+y.length+1)).length:Nat) 0::f u (a+y.length+1)
    else zCW f (u::no) (a+y.length))
def zAg {α:Type} (h:α->Wt.Nd) (f:α->Nat->List I) (x:Wt.Nd) (ks:List α) (a:Nat):List I :=
 let id:Int:=(zA1 x.nm:Nat)
 let c:=(zAJ id).c
 if c=4 then zAR f ks a++[ins 5 id x.ar]
 else if c=1 then ins 6 id 0::(zAR (zCA own nm h f) ks (a+1)++[ins 10 0 0])
 else if c=2 then zAw own nm h f id ks a
 else zAr f id ks a
def zAh {α:Type} (h:α->Wt.Nd) (f:α->Nat->List I) (x:Wt.Nd) (ks:List α) (a:Nat):List I :=
 if x.k=1 then [zBU x.v]
 else if x.k=2 then [zIC (zDG own nm x)]
 else if x.k=4 then zAR f ks a++[ins 3 x.op 0]
 else if x.k=5 then zAR f ks a++[ins 4 x.op 0]
 else if x.k=6 then zAg own nm h f x ks a else []
def cod:(n:Nat)->Tr n->Nat->List I
 | 0,t,_=>Empty.elim t
 | n+1,t,a=>zAh own nm (hd n) (cod n) (Br.x t) (Br.ks t) a
end
end Go.Proofs.YtefkclbaflkheaaGreatDoor.Wf
namespace Go.Proofs.YtefkclbaflkheaaGreatDoor
open Tryz
open Go.RowKit
variable {w w':World} {v:Value} {ops:Array Oper} {rest:List Oper} {a:Act} {Q:Exit->Act->World->Prop} {B lo hi:Nat} {A:List (Wt.Nd × Value)} {P:Program} {fn:Func} {t:Tmp} {op:Oper} {S:List Nat}
theorem zNi (l:List Int) (v1 v2:Value) (w:World) (h1:RdZ w v1 l) (h2:RdZ w v2 l) (hl:l.length<=1000000) :
  CR 60 #[v1,v2] w (.bool true):=by
 obtain ⟨a1,c1,rfl,r1⟩:=h1;obtain ⟨a2,c2,rfl,r2⟩:=h2;have H1:Hid (∀ i (h:i<l.length),∃ bb off,a1=some ⟨bb,off,none⟩/\w.cell? ⟨bb,off+i,none⟩=some (.int .i64 (l[i]))):=r1;have H2:Hid (∀ i (h:i<l.length),∃ bb off,a2=some ⟨bb,off,none⟩/\w.cell? ⟨bb,off+i,none⟩=some (.int .i64 (l[i]))):=r2;obtain ⟨n,hn⟩:∃ n,l.length=n:=⟨_,rfl⟩
 rw [hn] at hl ⊢;clear r1 r2;go_enter func60,ntmps60;go_wp2_with fail
 go_loopg [5] n (λgk x wr=>∃ i:Nat,x=.int .i64 i/\gk=n - i/\i<=n/\Below w.heap.size w wr)
 case atStart=>exact ⟨0,rfl,rfl,Nat.zero_le _,Below.refl _ _⟩
 case round =>
  obtain ⟨i,rfl,hg,hi,hb⟩:=hrel;by_cases hlt:i<n
  ·have hli:(i:Int)<(n:Int):=by omega
   have hwi:IntKind.i64.wrap ((i:Int)+1)=(i:Int)+1:=by rw [IntKind.wrap_i64];omega
   obtain ⟨b1,o1,rfl,q1⟩:=H1.out i (by omega);obtain ⟨b2,o2,rfl,q2⟩:=H2.out i (by omega);have d1:=zAC hb q1;have d2:=zAC hb q2;generalize l[i]=x at d1 d2;clear q1 q2;go_upto_region 6 with fail
   go_quiet (fail)
   go_wp2_with fail
   go_roundg (n - (i+1))
   case rel=>exact ⟨i+1,by simp,rfl,hlt,(clB hb)⟩
   case measure=>omega
  ·have hli:¬ (i:Int)<(n:Int):=by omega
   go_wp2;go_ret;exact ⟨rfl,hb⟩
theorem zOp (x:Wc.In) (tl:List Int) (a1 a2:Option Addr) (n1 n2 c1 c2:Nat) (w:World) (h1:RdZ w (.slice a1 n1 c1) tl) (h2:RdZ w (.slice a2 n2 c2) tl) (hl:tl.length<=1000000) :
  CR 34 #[inV x (.slice a1 n1 c1),inV x (.slice a2 n2 c2)] w (.bool true):=by
 have pA:=(AtL.new0 w 56 (zAD x (.slice a1 n1 c1))).alloc (.cells (zAD x (.slice a2 n2 c2)).toArray 56);have pB:=AtL.new1 w (.cells (zAD x (.slice a1 n1 c1)).toArray 56) 56 (zAD x (.slice a2 n2 c2));have hB:=zAM (zAM (Below.refl _ w) (.cells (zAD x (.slice a1 n1 c1)).toArray 56)) (.cells (zAD x (.slice a2 n2 c2)).toArray 56);have IZ:=λw h1 h2=>zNi tl (.slice a1 n1 c1) (.slice a2 n2 c2) w h1 h2 hl
 have g1:=h1.below hB;have g2:=h2.below hB;have e0:((w.alloc (.cells (zAD x (.slice a1 n1 c1)).toArray 56)).alloc (.cells (zAD x (.slice a2 n2 c2)).toArray 56)).cell? ⟨w.heap.size,0,none⟩=some (.int .i64 x.op):=pA.2.1 0 _ rfl;have d0:((w.alloc (.cells (zAD x (.slice a1 n1 c1)).toArray 56)).alloc (.cells (zAD x (.slice a2 n2 c2)).toArray 56)).cell? ⟨w.heap.size+1,0,none⟩=some (.int .i64 x.op):=pB.2.1 0 _ rfl;have e1:((w.alloc (.cells (zAD x (.slice a1 n1 c1)).toArray 56)).alloc (.cells (zAD x (.slice a2 n2 c2)).toArray 56)).cell? ⟨w.heap.size,1,none⟩=some (.int .i64 x.a):=pA.2.1 1 _ rfl;have d1:((w.alloc (.cells (zAD x (.slice a1 n1 c1)).toArray 56)).alloc (.cells (zAD x (.slice a2 n2 c2)).toArray 56)).cell? ⟨w.heap.size+1,1,none⟩=some (.int .i64 x.a):=pB.2.1 1 _ rfl;have e2:((w.alloc (.cells (zAD x (.slice a1 n1 c1)).toArray 56)).alloc (.cells (zAD x (.slice a2 n2 c2)).toArray 56)).cell? ⟨w.heap.size,2,none⟩=some (.int .i64 x.b):=pA.2.1 2 _ rfl;have d2:((w.alloc (.cells (zAD x (.slice a1 n1 c1)).toArray 56)).alloc (.cells (zAD x (.slice a2 n2 c2)).toArray 56)).cell? ⟨w.heap.size+1,2,none⟩=some (.int .i64 x.b):=pB.2.1 2 _ rfl;have e3:((w.alloc (.cells (zAD x (.slice a1 n1 c1)).toArray 56)).alloc (.cells (zAD x (.slice a2 n2 c2)).toArray 56)).cell? ⟨w.heap.size,3,none⟩=some (.int .i64 x.v.k):=pA.2.1 3 _ rfl;have d3:((w.alloc (.cells (zAD x (.slice a1 n1 c1)).toArray 56)).alloc (.cells (zAD x (.slice a2 n2 c2)).toArray 56)).cell? ⟨w.heap.size+1,3,none⟩=some (.int .i64 x.v.k):=pB.2.1 3 _ rfl
 have e4:((w.alloc (.cells (zAD x (.slice a1 n1 c1)).toArray 56)).alloc (.cells (zAD x (.slice a2 n2 c2)).toArray 56)).cell? ⟨w.heap.size,4,none⟩=some (.int .i64 x.v.n):=pA.2.1 4 _ rfl;have d4:((w.alloc (.cells (zAD x (.slice a1 n1 c1)).toArray 56)).alloc (.cells (zAD x (.slice a2 n2 c2)).toArray 56)).cell? ⟨w.heap.size+1,4,none⟩=some (.int .i64 x.v.n):=pB.2.1 4 _ rfl;have e5:((w.alloc (.cells (zAD x (.slice a1 n1 c1)).toArray 56)).alloc (.cells (zAD x (.slice a2 n2 c2)).toArray 56)).cell? ⟨w.heap.size,5,none⟩=some (.int .i64 x.v.d):=pA.2.1 5 _ rfl;have d5:((w.alloc (.cells (zAD x (.slice a1 n1 c1)).toArray 56)).alloc (.cells (zAD x (.slice a2 n2 c2)).toArray 56)).cell? ⟨w.heap.size+1,5,none⟩=some (.int .i64 x.v.d):=pB.2.1 5 _ rfl;have e6:((w.alloc (.cells (zAD x (.slice a1 n1 c1)).toArray 56)).alloc (.cells (zAD x (.slice a2 n2 c2)).toArray 56)).cell? ⟨w.heap.size,6,none⟩=some (.string x.v.t):=pA.2.1 6 _ rfl;have d6:((w.alloc (.cells (zAD x (.slice a1 n1 c1)).toArray 56)).alloc (.cells (zAD x (.slice a2 n2 c2)).toArray 56)).cell? ⟨w.heap.size+1,6,none⟩=some (.string x.v.t):=pB.2.1 6 _ rfl;have e7:((w.alloc (.cells (zAD x (.slice a1 n1 c1)).toArray 56)).alloc (.cells (zAD x (.slice a2 n2 c2)).toArray 56)).cell? ⟨w.heap.size,7,none⟩=some (.bool x.v.b):=pA.2.1 7 _ rfl;have d7:((w.alloc (.cells (zAD x (.slice a1 n1 c1)).toArray 56)).alloc (.cells (zAD x (.slice a2 n2 c2)).toArray 56)).cell? ⟨w.heap.size+1,7,none⟩=some (.bool x.v.b):=pB.2.1 7 _ rfl
 have e8:((w.alloc (.cells (zAD x (.slice a1 n1 c1)).toArray 56)).alloc (.cells (zAD x (.slice a2 n2 c2)).toArray 56)).cell? ⟨w.heap.size,8,none⟩=some (.int .i64 x.v.f):=pA.2.1 8 _ rfl;have d8:((w.alloc (.cells (zAD x (.slice a1 n1 c1)).toArray 56)).alloc (.cells (zAD x (.slice a2 n2 c2)).toArray 56)).cell? ⟨w.heap.size+1,8,none⟩=some (.int .i64 x.v.f):=pB.2.1 8 _ rfl;have e9:((w.alloc (.cells (zAD x (.slice a1 n1 c1)).toArray 56)).alloc (.cells (zAD x (.slice a2 n2 c2)).toArray 56)).cell? ⟨w.heap.size,9,none⟩=some (.int .i64 x.ce.s):=pA.2.1 9 _ rfl;have d9:((w.alloc (.cells (zAD x (.slice a1 n1 c1)).toArray 56)).alloc (.cells (zAD x (.slice a2 n2 c2)).toArray 56)).cell? ⟨w.heap.size+1,9,none⟩=some (.int .i64 x.ce.s):=pB.2.1 9 _ rfl;have e10:((w.alloc (.cells (zAD x (.slice a1 n1 c1)).toArray 56)).alloc (.cells (zAD x (.slice a2 n2 c2)).toArray 56)).cell? ⟨w.heap.size,10,none⟩=some (.int .i64 x.ce.r):=pA.2.1 10 _ rfl;have d10:((w.alloc (.cells (zAD x (.slice a1 n1 c1)).toArray 56)).alloc (.cells (zAD x (.slice a2 n2 c2)).toArray 56)).cell? ⟨w.heap.size+1,10,none⟩=some (.int .i64 x.ce.r):=pB.2.1 10 _ rfl;have e11:((w.alloc (.cells (zAD x (.slice a1 n1 c1)).toArray 56)).alloc (.cells (zAD x (.slice a2 n2 c2)).toArray 56)).cell? ⟨w.heap.size,11,none⟩=some (.int .i64 x.ce.c):=pA.2.1 11 _ rfl;have d11:((w.alloc (.cells (zAD x (.slice a1 n1 c1)).toArray 56)).alloc (.cells (zAD x (.slice a2 n2 c2)).toArray 56)).cell? ⟨w.heap.size+1,11,none⟩=some (.int .i64 x.ce.c):=pB.2.1 11 _ rfl
 have e12:((w.alloc (.cells (zAD x (.slice a1 n1 c1)).toArray 56)).alloc (.cells (zAD x (.slice a2 n2 c2)).toArray 56)).cell? ⟨w.heap.size,12,none⟩=some (.int .i64 x.ar.s):=pA.2.1 12 _ rfl;have d12:((w.alloc (.cells (zAD x (.slice a1 n1 c1)).toArray 56)).alloc (.cells (zAD x (.slice a2 n2 c2)).toArray 56)).cell? ⟨w.heap.size+1,12,none⟩=some (.int .i64 x.ar.s):=pB.2.1 12 _ rfl;have e13:((w.alloc (.cells (zAD x (.slice a1 n1 c1)).toArray 56)).alloc (.cells (zAD x (.slice a2 n2 c2)).toArray 56)).cell? ⟨w.heap.size,13,none⟩=some (.int .i64 x.ar.t):=pA.2.1 13 _ rfl;have d13:((w.alloc (.cells (zAD x (.slice a1 n1 c1)).toArray 56)).alloc (.cells (zAD x (.slice a2 n2 c2)).toArray 56)).cell? ⟨w.heap.size+1,13,none⟩=some (.int .i64 x.ar.t):=pB.2.1 13 _ rfl;have e14:((w.alloc (.cells (zAD x (.slice a1 n1 c1)).toArray 56)).alloc (.cells (zAD x (.slice a2 n2 c2)).toArray 56)).cell? ⟨w.heap.size,14,none⟩=some (.int .i64 x.ar.l):=pA.2.1 14 _ rfl;have d14:((w.alloc (.cells (zAD x (.slice a1 n1 c1)).toArray 56)).alloc (.cells (zAD x (.slice a2 n2 c2)).toArray 56)).cell? ⟨w.heap.size+1,14,none⟩=some (.int .i64 x.ar.l):=pB.2.1 14 _ rfl;have e15:((w.alloc (.cells (zAD x (.slice a1 n1 c1)).toArray 56)).alloc (.cells (zAD x (.slice a2 n2 c2)).toArray 56)).cell? ⟨w.heap.size,15,none⟩=some (.int .i64 x.ar.b):=pA.2.1 15 _ rfl;have d15:((w.alloc (.cells (zAD x (.slice a1 n1 c1)).toArray 56)).alloc (.cells (zAD x (.slice a2 n2 c2)).toArray 56)).cell? ⟨w.heap.size+1,15,none⟩=some (.int .i64 x.ar.b):=pB.2.1 15 _ rfl
 have e16:((w.alloc (.cells (zAD x (.slice a1 n1 c1)).toArray 56)).alloc (.cells (zAD x (.slice a2 n2 c2)).toArray 56)).cell? ⟨w.heap.size,16,none⟩=some (.int .i64 x.ar.r):=pA.2.1 16 _ rfl;have d16:((w.alloc (.cells (zAD x (.slice a1 n1 c1)).toArray 56)).alloc (.cells (zAD x (.slice a2 n2 c2)).toArray 56)).cell? ⟨w.heap.size+1,16,none⟩=some (.int .i64 x.ar.r):=pB.2.1 16 _ rfl;have e17:((w.alloc (.cells (zAD x (.slice a1 n1 c1)).toArray 56)).alloc (.cells (zAD x (.slice a2 n2 c2)).toArray 56)).cell? ⟨w.heap.size,17,none⟩=some (.int .i64 x.pr.s):=pA.2.1 17 _ rfl;have d17:((w.alloc (.cells (zAD x (.slice a1 n1 c1)).toArray 56)).alloc (.cells (zAD x (.slice a2 n2 c2)).toArray 56)).cell? ⟨w.heap.size+1,17,none⟩=some (.int .i64 x.pr.s):=pB.2.1 17 _ rfl;have e18:((w.alloc (.cells (zAD x (.slice a1 n1 c1)).toArray 56)).alloc (.cells (zAD x (.slice a2 n2 c2)).toArray 56)).cell? ⟨w.heap.size,18,none⟩=some (.int .i64 x.pr.t):=pA.2.1 18 _ rfl;have d18:((w.alloc (.cells (zAD x (.slice a1 n1 c1)).toArray 56)).alloc (.cells (zAD x (.slice a2 n2 c2)).toArray 56)).cell? ⟨w.heap.size+1,18,none⟩=some (.int .i64 x.pr.t):=pB.2.1 18 _ rfl;have e19:((w.alloc (.cells (zAD x (.slice a1 n1 c1)).toArray 56)).alloc (.cells (zAD x (.slice a2 n2 c2)).toArray 56)).cell? ⟨w.heap.size,19,none⟩=some (.int .i64 x.pr.l):=pA.2.1 19 _ rfl;have d19:((w.alloc (.cells (zAD x (.slice a1 n1 c1)).toArray 56)).alloc (.cells (zAD x (.slice a2 n2 c2)).toArray 56)).cell? ⟨w.heap.size+1,19,none⟩=some (.int .i64 x.pr.l):=pB.2.1 19 _ rfl
 have e20:((w.alloc (.cells (zAD x (.slice a1 n1 c1)).toArray 56)).alloc (.cells (zAD x (.slice a2 n2 c2)).toArray 56)).cell? ⟨w.heap.size,20,none⟩=some (.int .i64 x.pr.b):=pA.2.1 20 _ rfl;have d20:((w.alloc (.cells (zAD x (.slice a1 n1 c1)).toArray 56)).alloc (.cells (zAD x (.slice a2 n2 c2)).toArray 56)).cell? ⟨w.heap.size+1,20,none⟩=some (.int .i64 x.pr.b):=pB.2.1 20 _ rfl;have e21:((w.alloc (.cells (zAD x (.slice a1 n1 c1)).toArray 56)).alloc (.cells (zAD x (.slice a2 n2 c2)).toArray 56)).cell? ⟨w.heap.size,21,none⟩=some (.int .i64 x.pr.r):=pA.2.1 21 _ rfl;have d21:((w.alloc (.cells (zAD x (.slice a1 n1 c1)).toArray 56)).alloc (.cells (zAD x (.slice a2 n2 c2)).toArray 56)).cell? ⟨w.heap.size+1,21,none⟩=some (.int .i64 x.pr.r):=pB.2.1 21 _ rfl;have e22:((w.alloc (.cells (zAD x (.slice a1 n1 c1)).toArray 56)).alloc (.cells (zAD x (.slice a2 n2 c2)).toArray 56)).cell? ⟨w.heap.size,22,none⟩=some (.slice a1 n1 c1):=pA.2.1 22 _ rfl;have d22:((w.alloc (.cells (zAD x (.slice a1 n1 c1)).toArray 56)).alloc (.cells (zAD x (.slice a2 n2 c2)).toArray 56)).cell? ⟨w.heap.size+1,22,none⟩=some (.slice a2 n2 c2):=pB.2.1 22 _ rfl;have Z:=IZ _ g1 g2;clear pA pB h1 h2 hl IZ g1 g2;go_enter func34,ntmps34;go_upto_region 1 with fail
 generalize ((w.alloc (.cells (zAD x (.slice a1 n1 c1)).toArray 56)).alloc (.cells (zAD x (.slice a2 n2 c2)).toArray 56))=W at *;go_wp2_with fail
 refine Z.mono ?_;rintro e w1 ⟨rfl,hb1⟩;have hB1:=zAB hB hb1;go_wp2;go_ret;exact ⟨by simp,hB1⟩
theorem zAF (hb:Below w.heap.size w w') {b o:Nat} {l:List Value} (h:w.rangeAt b o l):w'.rangeAt b o l:=λj v hv=>zAC hb (h j v hv)
def RdC (w:World) (v:Value) (L:List (Wc.In × List Int)):Prop:=∃ av cap,v=.slice av L.length cap/\∀ i (h:i<L.length),∃ bb off p m k,av=some ⟨bb,off,none⟩/\w.rangeAt bb (off+i * 23) (zAD (L[i]).1 (.slice p m k))/\RdZ w (.slice p m k) (L[i]).2/\(p=none->k=0)
theorem RdC.below {L:List (Wc.In × List Int)} (h:RdC w v L) (hb:Below w.heap.size w w'):RdC w' v L:=by
 obtain ⟨av,cap,e,h⟩:=h;refine ⟨av,cap,e,λi hi=>?_⟩;obtain ⟨bb,off,p,m,k,e1,h1,h2,h3⟩:=h i hi;exact ⟨bb,off,p,m,k,e1,zAF hb h1,h2.below hb,h3⟩
theorem zNl (L:List (Wc.In × List Int)) (v1 v2:Value) (w:World) (h1:RdC w v1 L) (h2:RdC w v2 L) (hl:L.length<=1000000) (ht:∀ x ∈ L,x.2.length<=1000000) :
  CR 10 #[v1,v2] w (.bool true):=by
 obtain ⟨a1,c1,rfl,r1⟩:=h1;obtain ⟨a2,c2,rfl,r2⟩:=h2;have H1:Hid (RdC w (.slice a1 L.length c1) L):=⟨a1,c1,rfl,r1⟩
 have H2:Hid (RdC w (.slice a2 L.length c2) L):=⟨a2,c2,rfl,r2⟩
 have HT:Hid (∀ x ∈ L,x.2.length<=1000000):=ht;obtain ⟨n,hn⟩:∃ n,L.length=n:=⟨_,rfl⟩
 rw [hn] at hl ⊢;clear r1 r2 ht;go_enter func10,ntmps10;go_wp2_with fail
 go_loopg [5] n (λgk x wr=>∃ i:Nat,x=.int .i64 i/\gk=n - i/\i<=n/\Below w.heap.size w wr)
 case atStart=>exact ⟨0,rfl,rfl,Nat.zero_le _,Below.refl _ _⟩
 case round =>
  obtain ⟨i,rfl,hg,hi,hb⟩:=hrel;by_cases hlt:i<n
  ·have hli:(i:Int)<(n:Int):=by omega
   have hwi:IntKind.i64.wrap ((i:Int)+1)=(i:Int)+1:=by rw [IntKind.wrap_i64];omega
   obtain ⟨q1,d1,e1,f1⟩:=H1.out.below hb;obtain ⟨q2,d2,e2,f2⟩:=H2.out.below hb;simp only [Value.slice.injEq,true_and] at e1 e2;obtain ⟨rfl,rfl⟩:=e1;obtain ⟨rfl,rfl⟩:=e2;obtain ⟨b1,o1,p1,m1,k1,rfl,t1,y1,_⟩:=f1 i (by omega);obtain ⟨b2,o2,p2,m2,k2,rfl,t2,y2,_⟩:=f2 i (by omega);have htl:=HT.out (L[i]) (List.getElem_mem _);generalize (L[i]).1=y at *;generalize (L[i]).2=tl at *;clear f1 f2;go_upto_region 6 with fail
   have rb:=(Below.refl wr.heap.size wr).drew;have s1:=zAF rb t1;have s2:=zAF rb t2;have z1:=y1.below rb;have z2:=y2.below rb;have hbd:=zAB hb rb;clear t1 t2 y1 y2;refine wp_region_held_drew (S:=λW=>W.rangeAt b1 (o1+i * 23) (zAD y (.slice p1 m1 k1))/\W.rangeAt b2 (o2+i * 23) (zAD y (.slice p2 m2 k2))) (by kernel_rfl) ⟨s1,s2⟩ (λhHeld=>?_);generalize wr.drew=WD at *;refine tkQ 0 ?_
   refine tkQ 1 ?_
   refine tkQ 2 ?_
   refine wpAnyH_take (i:=3) (v:=.agg (zAD y (.slice p1 m1 k1)).toArray) (atQ rfl) (by kernel_rfl) (by kernel_rfl) (by kernel_rfl) (λ_ _ _ h=>h) (yieldsIf_load_mid (by rfl) 56 (.tmp 19) rfl (b1) (o1+i * 23) rfl (zAD y (.slice p1 m1 k1)) _ (λ_ h=>h.1) underlying56 rfl (by kernel_rfl)) (by assumption) ?_;try simp only [Act.put,lA,lZ,lS]
   refine tkQ 4 ?_
   refine tkQ 5 ?_
   refine tkQ 6 ?_
   refine wpAnyH_take (i:=7) (v:=.agg (zAD y (.slice p2 m2 k2)).toArray) (atQ rfl) (by kernel_rfl) (by kernel_rfl) (by kernel_rfl) (λ_ _ _ h=>h) (yieldsIf_load_mid (by rfl) 56 (.tmp 23) rfl (b2) (o2+i * 23) rfl (zAD y (.slice p2 m2 k2)) _ (λ_ h=>h.2) underlying56 rfl (by kernel_rfl)) (by assumption) ?_;try simp only [Act.put,lA,lZ,lS]
   refine rdQ 8 (λK hK=>?_);go_simp
   refine (zOp y tl p1 p2 m1 m2 k1 k2 WD z1 z2 (by omega)).mono ?_;rintro e w1 ⟨rfl,hb1⟩;have hB1:=zAB hbd hb1;go_wp2_with fail
   refine hkQ hK ⟨zAF hb1 s1,zAF hb1 s2⟩ (λhHeld=>?_);clear hK K
   refine tkQ 9 ?_
   refine wpAnyH_done (by kernel_rfl) ?_ _;have HB1:Hid (Below w.heap.size w w1):=hB1;clear hHeld s1 s2 z1 z2 hb1 hbd hB1 hb;go_wp2_with fail
   go_roundg (n - (i+1))
   case rel=>exact ⟨i+1,by simp,rfl,hlt,HB1.out⟩
   case measure=>omega
  ·have hli:¬ (i:Int)<(n:Int):=by omega
   go_wp2;go_ret;exact ⟨rfl,hb⟩
theorem zDU {s:Tmp} {T:TypeId} (h:fn.results=#[.cell t T,.tmp s]) (tmps:Array Value) (w:World) (b:Nat) (cs:List Value) (d:TypeDesc) (ht:tmps.getD t undef=.pointer (some ⟨b,0,none⟩)) (hc:w.rangeAt b 0 cs)
  (hu:P.underlying T=some d) (hd:d.isRow=true) (hi:(P.info? T).map (·.size)=some cs.length):(results fn tmps).run P w=.ok (.tuple #[.agg cs.toArray,tmps.getD s undef]) w:=by
 have hl:=run_loadVar_mid (P:=P) w b 0 T cs d hc hu hd hi;have ht':tmps[t]?.getD undef=.pointer (some ⟨b,0,none⟩):=by rw [<-ht];simp
 simp only [results,h];simp [ht',hl,asAddr]
theorem zAq {T:TypeId} (h:fn.results=#[.cell t T]) (tmps:Array Value) (w:World) (b:Nat) (cs:List Value) (d:TypeDesc) (ht:tmps.getD t undef=.pointer (some ⟨b,0,none⟩)) (hc:w.rangeAt b 0 cs)
  (hu:P.underlying T=some d) (hd:d.isRow=true) (hi:(P.info? T).map (·.size)=some cs.length):(results fn tmps).run P w=.ok (.agg cs.toArray) w:=by
 have hl:=run_loadVar_mid (P:=P) w b 0 T cs d hc hu hd hi;have ht':tmps[t]?.getD undef=.pointer (some ⟨b,0,none⟩):=by rw [<-ht];simp
 simp only [results,h];simp [ht',hl,asAddr]
def zAN (x:Wt.Nd) (sl:Value):List Value:=zAG x++[sl]
theorem zCc (x:Wt.Nd) (sl:Value):(zAN x sl).length=21:=rfl
theorem zLb (x:Wt.Nd) (av:Option Addr) (n c:Nat):∀ v ∈ zAN x (.slice av n c),v.oneCell'=true:=by
 intro v hv;rcases List.mem_append.1 hv with h | h
 ·exact zH9 x v h
 ·simp at h;subst h;rfl
theorem zAk (x:Wt.Nd) (av:Option Addr) (n c:Nat):(zAN x (.slice av n c)).toArray.all (·.oneCell')=true:=all_oneCell_toArray (zLb x av n c)
theorem zP3 (x:Wt.Nd) (w:World):(Instr.build 64 #[(0,.agg (zAG x).toArray)]).run prog w=.ok (.agg (zAN x (.slice none 0 0)).toArray) w:=by kernel_rfl
theorem zEp (hgd:op.guard=none) (y:Operand) (ho:op.op=.build 64 #[(0,y)]) (x:Wt.Nd) (hy:a.eval y=.agg (zAG x).toArray)
  (h:wpList prog ops Q rest (a.put op.dst (.agg (zAN x (.slice none 0 0)).toArray)) w):wpList prog ops Q (op::rest) a w:=by
 refine wpList_plain hgd λK hK=>?_
 unfold Oper.wp execOp;simp only [ho,List.map_toArray,List.map_cons,List.map_nil,hy,Sem.run_bind,Sem.run_pure,Result.andThen_ok,zP3];exact hK _ _ h
theorem zCZ {k o:Nat} {x:Wt.Nd} {sl:Value} (h:w.rangeAt k o (zAN x sl)):w.rangeAt k o (zAG x):=λj v hv=>h j v (by
 unfold zAN;have hj:j<(zAG x).length:=by
  rcases Nat.lt_or_ge j (zAG x).length with q | q
  ·exact q
  ·rw [List.getElem?_eq_none q] at hv;cases hv
 rw [List.getElem?_append_left hj];exact hv)
abbrev zeros21:Array Value:=#[.int .i64 0,.int .i64 0,.int .i64 0,.int .i64 0,.string ⟨#[]⟩,.bool false,.int .i64 0,.int .i64 0,.string ⟨#[]⟩,.int .i64 0,.string ⟨#[]⟩,.int .i64 0,.int .i64 0,.bool false,.bool false,.string ⟨#[]⟩,.int .i64 0,.int .i64 0,.bool false,.bool false,.slice none 0 0]
def zBm:List (Wt.Nd × Value)->List Value
 | []=>[]
 | p::r=>zAN p.1 p.2++zBm r
theorem zEA:∀ A:List (Wt.Nd × Value),(zBm A).length=A.length * 21
 | []=>rfl
 | x::r=>by simp [zBm,zEA r,zCc];omega
theorem zEW:∀ (A C:List (Wt.Nd × Value)),zBm (A++C)=zBm A++zBm C
 | [],C=>rfl
 | x::r,C=>by simp [zBm,zEW r C]
theorem zES:∀ (A:List (Wt.Nd × Value)),(∀ p ∈ A,∃ av n c,p.2=.slice av n c)->∀ v ∈ zBm A,v.oneCell'=true
 | [],_,v,h=>by cases h
 | x::r,hs,v,h=>by
  obtain ⟨av,n,c,e⟩:=hs x (List.mem_cons_self ..);simp only [zBm,List.mem_append] at h;rcases h with h | h
  ·rw [e] at h;exact zLb _ _ _ _ v h
  ·exact zES r (λp hp=>hs p (List.mem_cons_of_mem _ hp)) v h
theorem zEJ:∀ (A:List (Wt.Nd × Value)) (i:Nat) (h:i<A.length) (j:Nat) (v:Value),(zAN (A[i]).1 (A[i]).2)[j]? = some v->(zBm A)[i * 21+j]? = some v
 | [],i,h,_,_,_=>absurd h (Nat.not_lt_zero _)
 | x::r,0,h,j,v,hv=>by
  have hj:j<(zAN x.1 x.2).length:=by
   rcases Nat.lt_or_ge j (zAN x.1 x.2).length with q | q
   ·exact q
   ·simp only [List.getElem_cons_zero] at hv;rw [List.getElem?_eq_none q] at hv;cases hv
  simp only [zBm,Nat.zero_mul,Nat.zero_add];rw [List.getElem?_append_left hj];exact hv
 | x::r,i+1,h,j,v,hv=>by
  simp only [zBm];rw [List.getElem?_append_right (by rw [zCc];omega),zCc,show (i+1) * 21+j - 21=i * 21+j from by omega];exact zEJ r i (by simpa using h) j v (by simpa using hv)
def OwnP (w:World) (B:Nat) (v:Value) (A:List (Wt.Nd × Value)):Prop:=w.ownsRow B 64 21 v A.length (zBm A)
theorem OwnP.nil (w:World) (B:Nat):OwnP w B (.slice none 0 0) []:=⟨rfl,Or.inl ⟨rfl,rfl⟩⟩
theorem OwnP.below (h:OwnP w B v A) (hb:Below w.heap.size w w'):OwnP w' B v A:=zAW (Fr.of_below [] hb) h (by simp)
theorem OwnP.cases (h:OwnP w B v A):(v=.slice none 0 0/\A=[]) \/ ∃ g cap,v=.slice (some ⟨g,0,none⟩) A.length cap/\B<=g/\g<w.heap.size/\∀ i (hi:i<A.length),w.rangeAt g (i * 21) (zAN (A[i]).1 (A[i]).2):=by
 rcases h.2 with ⟨e,h0⟩ | ⟨g,cap,cur,e,hb1,hg,r1,r2,r3,r4⟩
 ·exact Or.inl ⟨e,List.eq_nil_of_length_eq_zero h0⟩
 ·refine Or.inr ⟨g,cap,e,hb1,(zAK h (by rw [e];rfl)).2,λi hi j v hv=>?_⟩;have:=h.cells (by rw [e];rfl) (i * 21+j) v (zEJ A i hi j v hv);rw [show (⟨g,0,none⟩:Addr).add (i * 21+j)=⟨g,i * 21+j,none⟩ from by
   simp [Addr.add];try (intro h0;omega)] at this
  exact this
theorem OwnP.slice (h:OwnP w B v A):∃ a m c,v=.slice a m c:=by
 rcases OwnP.cases h with ⟨e,_⟩ | ⟨g,cap,e,_⟩
 ·exact ⟨_,_,_,e⟩
 ·exact ⟨_,_,_,e⟩
theorem zFK:(prog.info? 64).map (λi=>(i.zero,i.size,i.bytes))=some (some (.agg zeros21),21,200):=by kernel_rfl
theorem zCF {ops:Array Oper} {rest:List Oper} {o:Oper} {a:Act} {Q:Exit->Act->World->Prop} (hgd:o.guard=none) (s x:Operand) (ho:o.op=.call {callee:=.builtin .append,args:=#[s,x],argTypes:=#[62,62]})
  (w:World) (B:Nat) (hB:B<=w.heap.size) (v:Value) (A:List (Wt.Nd × Value)) (hs:a.eval s=v) (hown:OwnP w B v A) (g:Nat) (y:Wt.Nd) (av:Option Addr) (n c:Nat) (hx:a.eval x=.slice (some ⟨g,0,none⟩) 1 1) (hat:w.rangeAt g 0 (zAN y (.slice av n c))) (hl:True->A.length<=1000)
  (h:∀ v' w',OwnP w' B v' (A++[(y,.slice av n c)])->w.grownBy w' v.ownBlock->(v'.ownBlock=v.ownBlock \/ v'.ownBlock=some w.heap.size)->wpList prog ops Q rest (a.put o.dst v') w'):wpList prog ops Q (o::rest) a w:=by
 obtain ⟨i0,hi0,hz0,hz1,hz2⟩:=info_parts zFK;have hl:=hl trivial;refine wpList_plain hgd λK hK=>?_
 have hnews:∀ j u,(zBm [(y,.slice av n c)])[j]? = some u->w.cell? ((⟨g,0,none⟩:Addr).add j)=some u:=λj u hj=>by
  simp only [zBm,List.append_nil] at hj;have:=hat j u hj;rw [Nat.zero_add] at this;rw [show (⟨g,0,none⟩:Addr).add j=⟨g,j,none⟩ from by
   simp [Addr.add];try (intro h0;omega)]
  exact this
 obtain ⟨v',w',hr,own,hg,_,hb⟩:=run_append_own_at (P:=prog) w B 62 o.type 64 i0 _ 21 200 underlying62 hi0 hz0 hz1 hz2 rfl (by decide) v A.length (zBm A) hown ⟨g,0,none⟩ 1 1 (zBm [(y,.slice av n c)]) (zEA _) hnews (zES _ (λp hp=>by simp at hp;subst hp;exact ⟨_,_,_,rfl⟩)) (by unfold maxLen;omega) (by omega) hB;unfold Oper.wp execOp;simp only [ho,resolve,invoke,builtin,Sem.run_bind,Sem.run_pure,Result.andThen_ok,List.map_toArray,List.map_cons,List.map_nil,hs,hx,hr];refine hK _ _ (h v' w' ?_ hg hb);unfold OwnP;rw [List.length_append,zEW];exact own
theorem zP7 (x:Wt.Nd) (av:Option Addr) (n c:Nat) (w:World):(Instr.buildSlice 62 1 #[(0,.agg (zAN x (.slice av n c)).toArray)]).run prog w=.ok (.slice (some ⟨w.heap.size,0,none⟩) 1 1) (w.alloc (.cells (zAN x (.slice av n c)).toArray 64)):=by kernel_rfl
theorem zCC (hgd:op.guard=none) (y:Operand) (ho:op.op=.buildSlice 62 1 #[(0,y)]) (x:Wt.Nd) (av:Option Addr) (n c:Nat) (hy:a.eval y=.agg (zAN x (.slice av n c)).toArray)
  (h:wpList prog ops Q rest (a.put op.dst (.slice (some ⟨w.heap.size,0,none⟩) 1 1)) (w.alloc (.cells (zAN x (.slice av n c)).toArray 64))):wpList prog ops Q (op::rest) a w:=by
 refine wpList_plain hgd λK hK=>?_
 unfold Oper.wp execOp;simp only [ho,List.map_toArray,List.map_cons,List.map_nil,hy,Sem.run_bind,Sem.run_pure,Result.andThen_ok,zP7];exact hK _ _ h
theorem zCQ (b:Nat):∀ (vs:List Value) (o:Nat) (w:World),Fr [b] w (w.setCells b o vs)
 | [],o,w=>Fr.refl _ _
 | v::r,o,w=>(Fr.of_grown (zAP w b o v) (λj e=>by cases e;simp)).trans (zCQ b r (o+1) _)
theorem zCT {w1 w2:World} (h:Below w.heap.size w w1) (f:Fr S w1 w2) (hs:∀ k ∈ S,w.heap.size<=k):Below w.heap.size w w2:=(Fr.new (Fr.of_below [] h) f (λk hk=>Or.inr (hs k hk))).to_below (λk hk=>absurd hk (by simp))
open Wf
def RdT (n lo hi:Nat) (w:World) (av:Option Addr) (ps:List (Tr n × Value)):Prop:=∀ i (h:i<ps.length),∃ bb off,lo<=bb/\bb<hi/\av=some ⟨bb,off,none⟩/\w.rangeAt bb (off+i * 21) (zAN (hd n (ps[i]).1) (ps[i]).2)
def PA:(n:Nat)->Nat->Nat->World->Tr n->Value->Prop
 | 0,_,_,_,t,_=>Empty.elim t
 | n+1,lo,hi,w,t,sl=>∃ (av:Option Addr) (cap:Nat) (ps:List (Tr n × Value)),ps.map (·.1)=Br.ks t/\sl=.slice av ps.length cap/\ps.length<=cap/\RdT n lo hi w av ps/\∀ p ∈ ps,PA n lo hi w p.1 p.2
def Kept (lo hi:Nat) (w w':World):Prop:=∀ b o v,lo<=b->b<hi->w.cell? ⟨b,o,none⟩=some v->w'.cell? ⟨b,o,none⟩=some v
theorem Kept.of_fr (h:Fr S w w') (hs:∀ k ∈ S,k<lo \/ hi<=k):Kept lo hi w w':=λb o v h1 h2 hc=>h.cell hc (λhm=>by have:=hs b hm;omega)
theorem Kept.of_below (h:Below w.heap.size w w'):Kept lo hi w w':=λb o v _ _ hc=>zAC h hc
theorem RdT.kept {n:Nat} {av:Option Addr} {ps:List (Tr n × Value)} (h:RdT n lo hi w av ps) (hk:Kept lo hi w w'):RdT n lo hi w' av ps:=λi hi'=>by
 obtain ⟨bb,off,h1,h2,h3,h4⟩:=h i hi';exact ⟨bb,off,h1,h2,h3,λj v hv=>hk _ _ _ h1 h2 (h4 j v hv)⟩
theorem PA.kept {lo hi:Nat} {w w':World} (hk:Kept lo hi w w'):∀ (n:Nat) (t:Tr n) (sl:Value),PA n lo hi w t sl->PA n lo hi w' t sl
 | 0,t,_,_=>Empty.elim t
 | n+1,t,sl,h=>by
  obtain ⟨av,cap,ps,h1,h2,h2c,h3,h4⟩:=h;exact ⟨av,cap,ps,h1,h2,h2c,h3.kept hk,λp hp=>PA.kept hk n p.1 p.2 (h4 p hp)⟩
theorem PA.wide {lo hi lo' hi':Nat} {w:World} (h1:lo'<=lo) (h2:hi<=hi'):∀ (n:Nat) (t:Tr n) (sl:Value),PA n lo hi w t sl->PA n lo' hi' w t sl
 | 0,t,_,_=>Empty.elim t
 | n+1,t,sl,h=>by
  obtain ⟨av,cap,ps,q1,q2,q2c,q3,q4⟩:=h;refine ⟨av,cap,ps,q1,q2,q2c,λi hi=>?_,λp hp=>PA.wide h1 h2 n p.1 p.2 (q4 p hp)⟩;obtain ⟨bb,off,r1,r2,r3,r4⟩:=q3 i hi;exact ⟨bb,off,by omega,by omega,r3,r4⟩
theorem PA.slice {lo hi:Nat} {w:World}:∀ {n:Nat} {t:Tr n} {sl:Value},PA n lo hi w t sl->∃ av m c,sl=.slice av m c
 | 0,t,_,_=>Empty.elim t
 | n+1,t,sl,h=>by
  obtain ⟨av,cap,ps,q1,q2,q2c,q3,q4⟩:=h;exact ⟨_,_,_,q2⟩
