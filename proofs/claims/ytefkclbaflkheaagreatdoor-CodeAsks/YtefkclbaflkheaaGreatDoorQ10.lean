/- KHts, KHtD. -/
import Derived.Test.YtefkclbaflkheaaGreatDoorQ09
set_option maxHeartbeats 1600000
set_option maxRecDepth 100000
namespace Go.Proofs.YtefkclbaflkheaaGreatDoor.Wc
def rw0 (F:List (Nat × Int)) (m:Nat):List Int:=zFS F m m
theorem zEL (F:List (Nat × Int)):rw0 F 0=[]:=rfl
theorem zFl {F:List (Nat × Int)} (h:Rows F) (x:Nat × Int) {m:Nat} (hm:m<=F.length):rw0 (F++[x]) m=rw0 F m:=zI7 h x m m hm
theorem zF7 {F:List (Nat × Int)} (h:Rows F) {m n:Nat} (hm:m<=F.length) (hn:n<=F.length) (e:rw0 F m=rw0 F n):m=n:=by
 unfold rw0 at e;rw [zCD h m m F.length (Nat.le_refl _) hm hm,zCD h n n F.length (Nat.le_refl _) hn hn] at e;exact zHg h F.length m n hm hn hm hn e
theorem zCd {F:List (Nat × Int)} (h:Rows F) {k:Nat} {x:Nat × Int} (e:F[k]? = some x):rw0 F (k+1)=rw0 F x.1++[x.2]:=by
 have hk:k<F.length:=by
  rcases Nat.lt_or_ge k F.length with g | g
  ·exact g
  ·rw [List.getElem?_eq_none g] at e;cases e
 have ha:=h.ahead k x e;unfold rw0;rw [zAj F k k x e,zCD h k x.1 x.1 ha (Nat.le_refl _) (by omega)]
def handP (h:Int × Nat):List Int->List (Option (Int × Nat))->Option (List (Option (Int × Nat)))
 | [],M=>some M
 | j::r,M=>match M.getD j.toNat none with
  | none=>handP h r (M.set j.toNat (some h))
  | some g=>if g=h then handP h r (M.set j.toNat (some h)) else none
def handR (n i:Nat):List (Int × (Int × List Int))->List (Option (Int × List Int))->Option (List (Option (Int × List Int)))
 | [],S=>some S
 | (j,h)::r,S=>if j<=(i:Int) \/ (n:Int)<=j then none else match S.getD j.toNat none with
  | none=>handR n i r (S.set j.toNat (some h))
  | some g=>if g=h then handR n i r (S.set j.toNat (some h)) else none
def behF (F:List (Nat × Int)) (o a:Int) (m:Nat):Option (Nat × List (Nat × Int)) :=
 if o=6 then (match F.findIdx? (· == (m,a)) with | some k=>some (k+1,F) | none=>some (F.length+1,F++[(m,a)]))
 else if o=7 then (if m=0 then none else some (m,F))
 else if o=8 then (if m=0 \/ pairs (F.getD (m - 1) (0,0)).2=true then none else some (m,F))
 else if o=9 then (if m=0 \/ pairs (F.getD (m - 1) (0,0)).2=false then none else some (m,F))
 else if o=10 then (if m=0 then none else some ((F.getD (m - 1) (0,0)).1,F))
 else if o=16 then (if m=0 then some (m,F) else none)
 else some (m,F)
abbrev PS:=List (Option (Int × Nat)) × List (Nat × Int)
abbrev RS:=List (Option (Int × List Int))
def stepP (i:Nat) (o a b:Int) (tl:List Int) (s:PS):Option PS :=
 match s.1.getD i none with
 | none=>none
 | some (v,m)=>match behF s.2 o a m with
  | none=>none
  | some (m2,F2)=>if v<(swO o b).1 \/ (o=16/\(swO o b).1<v) then none else
   match handP (v - (swO o b).1+(swO o b).2,m2) (onw o a b tl i).1 s.1 with
   | none=>none
   | some M1=>match handP (v,m) (onw o a b tl i).2 M1 with
    | none=>none
    | some M2=>some (M2,F2)
def fldR (o a:Int) (f:List Int):List Int:=if o=6 then f++[a] else if o=10 then f.dropLast else f
def ahd (o a b:Int) (tl:List Int) (i v dv:Int):List (Int × Int) :=
 if o=16 then [] else if o=12 then [(i+1,v+dv),(a,v+dv),(b,v)] else if o=13 then [(a,v+dv)] else if o=14 then [(a,v),(i+1,v+dv)]
 else if o=15 then tl.map (λj=>(j,v+dv))++[(b,v)] else [(i+1,v+dv)]
def stand (n i:Nat) (o b:Int) (v:Int) (f:List Int):Bool :=
 decide (¬(o=16/\i+1<n)/\(nds o b).1<=v/\(nds o b).2.1<=f.length/\(o=16->v=1/\f.length=0)/\(o=8 \/ o=9->pairs (f.getLastD 0)=decide (o=9)))
def stepR (n i:Nat) (o a b:Int) (tl:List Int) (S:RS):Option RS :=
 match S.getD i none with
 | none=>none
 | some (v,f)=>if stand n i o b v f=true then handR n i ((ahd o a b tl i v (nds o b).2.2).map λp=>(p.1,(p.2,fldR o a f))) S else none
structure Sim (n:Nat) (s:PS) (S:RS):Prop where
 lp:s.1.length=n
 lr:S.length=n
 rows:Rows s.2
 at':∀ j:Nat,(s.1.getD j none=none/\S.getD j none=none) \/ ∃ v m,s.1.getD j none=some (v,m)/\m<=s.2.length/\S.getD j none=some (v,rw0 s.2 m)
def zLj (n:Nat):Option PS->Option RS->Prop
 | none,none=>True
 | some s,some S=>Sim n s S
 | _,_=>False
theorem getD_set {α:Type} (l:List (Option α)) (i j:Nat) (x:Option α) (hi:i<l.length):(l.set i x).getD j none=if i=j then x else l.getD j none:=by
 simp only [List.getD_eq_getElem?_getD,List.getElem?_set];by_cases h:i=j
 ·subst h;simp [hi]
 ·simp [h]
theorem Sim.set {n:Nat} {M:List (Option (Int × Nat))} {F:List (Nat × Int)} {S:RS} (h:Sim n (M,F) S) {j:Nat} (hj:j<n) {v:Int} {m:Nat} (hm:m<=F.length):Sim n (M.set j (some (v,m)),F) (S.set j (some (v,rw0 F m))):=by
 have h1:=h.lp;have h2:=h.lr;simp only at h1;refine ⟨by simp [h1],by simp [h2],h.rows,λk=>?_⟩;show ((M.set j _).getD k none=none/\_) \/ ∃ v m,(M.set j _).getD k none=some (v,m)/\_
 rw [getD_set M j k _ (by omega),getD_set S j k _ (by omega)];by_cases hk:j=k
 ·rw [if_pos hk,if_pos hk];exact Or.inr ⟨v,m,rfl,hm,rfl⟩
 ·rw [if_neg hk,if_neg hk];exact h.at' k
theorem zEa {n i:Nat} {F:List (Nat × Int)} {v:Int} {m:Nat} (hm:m<=F.length):∀ (pl:List Int) (M:List (Option (Int × Nat))) (S:RS),Sim n (M,F) S->(∀ j ∈ pl,(i:Int)<j/\j<(n:Int)) ->
  zLj n ((handP (v,m) pl M).map λM'=>(M',F)) (handR n i (pl.map λj=>(j,(v,rw0 F m))) S):=by
 intro pl;induction pl with
 | nil=>intro M S h _;exact h
 | cons j r ih =>
  intro M S h hp;obtain ⟨g1,g2⟩:=hp j (List.mem_cons_self ..);have hr:∀ k ∈ r,(i:Int)<k/\k<(n:Int):=λk hk=>hp k (List.mem_cons_of_mem _ hk)
  have hj:j.toNat<n:=by omega
  show zLj n (Option.map _ (match M.getD j.toNat none with | none=>_ | some g=>_)) (if _ then none else match S.getD j.toNat none with | none=>_ | some g=>_)
  rw [if_neg (by omega)];rcases h.at' j.toNat with ⟨e1,e2⟩ | ⟨v0,m0,e1,e2,e3⟩
  ·simp only at e1;rw [e1,e2];exact ih _ _ (h.set hj hm) hr
  ·simp only at e1 e2 e3;rw [e1,e3];by_cases q:(v0,m0)=(v,m)
   ·have q2:(v0,rw0 F m0)=(v,rw0 F m):=by rw [(Prod.mk.inj q).1,(Prod.mk.inj q).2]
    simp only [if_pos q,if_pos q2];exact ih _ _ (h.set hj hm) hr
   ·have q2:¬ (v0,rw0 F m0)=(v,rw0 F m):=by
     intro e;obtain ⟨a1,a2⟩:=Prod.mk.inj e;exact q (by rw [a1,zF7 h.rows e2 hm a2])
    simp only [if_neg q,if_neg q2];trivial
theorem zG1 (n i:Nat):∀ (p q:List (Int × (Int × List Int))) (S:RS),handR n i (p++q) S=(handR n i p S).bind (handR n i q):=by
 intro p;induction p with
 | nil=>intro q S;rfl
 | cons x r ih =>
  intro q S;obtain ⟨j,h⟩:=x;simp only [List.cons_append,handR];split
  ·rfl
  ·split
   ·exact ih _ _
   ·split
    ·exact ih _ _
    ·rfl
theorem zDd (n i:Nat):∀ (p:List (Int × (Int × List Int))) (S T:RS),handR n i p S=some T->∀ x ∈ p,(i:Int)<x.1/\x.1<(n:Int):=by
 intro p;induction p with
 | nil=>intro S T _ x hx;cases hx
 | cons x r ih =>
  intro S T e y hy;obtain ⟨j,h⟩:=x;simp only [handR] at e;split at e
  ·cases e
  ·rename_i hc
   have hj:(i:Int)<j/\j<(n:Int):=by omega
   rcases List.mem_cons.1 hy with rfl | hy
   ·exact hj
   ·split at e
    ·exact ih _ _ e y hy
    ·split at e
     ·exact ih _ _ e y hy
     ·cases e
theorem zFL (n i:Nat) (S:RS) (hl:S.length=n) (j k:Int) (g h:Int × List Int) (hne:g ≠ h):handR n i [(j,g),(k,h)] S=handR n i [(k,h),(j,g)] S:=by
 simp only [handR];by_cases hj:j<=(i:Int) \/ (n:Int)<=j
 ·rw [if_pos hj];by_cases hk:k<=(i:Int) \/ (n:Int)<=k
  ·rw [if_pos hk]
  ·rw [if_neg hk];split
   ·rw [if_pos hj]
   ·split
    ·first
     | rw [if_pos hj]
     | rfl
    ·rfl
 ·rw [if_neg hj];by_cases hk:k<=(i:Int) \/ (n:Int)<=k
  ·simp only [if_pos hk];split
   ·rfl
   ·split <;> rfl
  ·simp only [if_neg hk,if_neg hj];have hjn:j.toNat<S.length:=by omega
   have hkn:k.toNat<S.length:=by omega
   rw [getD_set S _ _ _ hjn,getD_set S _ _ _ hkn];by_cases e:j.toNat=k.toNat
   ·have e2:k.toNat=j.toNat:=e.symm;simp only [if_pos e,if_pos e2];rw [e];have hne2:¬ h=g:=λq=>hne q.symm
    cases S.getD k.toNat none with
    | none=>simp only [if_neg hne,if_neg hne2]
    | some q =>
     by_cases q1:q=g
     ·have q2:¬ q=h:=λz=>hne (q1 ▸ z)
      simp only [if_pos q1,if_neg q2,if_neg hne]
     ·by_cases q2:q=h
      ·simp only [if_neg q1,if_pos q2,if_neg hne2]
      ·simp only [if_neg q1,if_neg q2]
   ·have e2:¬ k.toNat=j.toNat:=λz=>e z.symm
    simp only [if_neg e,if_neg e2];rw [List.set_comm _ _ e];cases S.getD j.toNat none <;> cases S.getD k.toNat none <;> simp <;> (repeat' split) <;> first | rfl | simp_all
theorem ops17 (o:Int):o=6 \/ o=7 \/ o=8 \/ o=9 \/ o=10 \/ o=16 \/ (o ≠ 6/\o ≠ 7/\o ≠ 8/\o ≠ 9/\o ≠ 10/\o ≠ 16):=by omega
theorem zGm {F:List (Nat × Int)} (h:Rows F) {m:Nat} (hm:m<=F.length) (h0:m ≠ 0):(F.getD (m - 1) (0,0)).1<=F.length/\rw0 F m=rw0 F (F.getD (m - 1) (0,0)).1++[(F.getD (m - 1) (0,0)).2]:=by
 cases m with
 | zero=>exact absurd rfl h0
 | succ k =>
  obtain ⟨x,hx⟩:∃ x,F[k]? = some x:=⟨_,List.getElem?_eq_getElem (by omega)⟩
  have e:F.getD (k+1 - 1) (0,0)=x:=by rw [Nat.add_sub_cancel,List.getD_eq_getElem?_getD,hx];rfl
  rw [e];have ha:=h.ahead k x hx;exact ⟨by omega,zCd h hx⟩
def bst (o:Int) (f:List Int):Bool :=
 decide ((o=7 \/ o=8 \/ o=9 \/ o=10->1<=f.length)/\(o=16->f.length=0)/\(o=8 \/ o=9->pairs (f.getLastD 0)=decide (o=9)))
structure Beh (F:List (Nat × Int)) (o a:Int) (m m2:Nat) (F2:List (Nat × Int)):Prop where
 rows:Rows F2
 le:F.length<=F2.length
 old:∀ k:Nat,k<=F.length->rw0 F2 k=rw0 F k
 le2:m2<=F2.length
 row:rw0 F2 m2=fldR o a (rw0 F m)
theorem beh_some {F:List (Nat × Int)} (h:Rows F) {o a:Int} {m:Nat} (hm:m<=F.length) (hb:bst o (rw0 F m)=true):∃ m2 F2,behF F o a m=some (m2,F2)/\Beh F o a m m2 F2:=by
 simp only [bst,decide_eq_true_eq] at hb;obtain ⟨b1,b2,b3⟩:=hb;rcases ops17 o with rfl | rfl | rfl | rfl | rfl | rfl | ⟨n1,n2,n3,n4,n5,n6⟩
 ·have e0:behF F 6 a m=(match F.findIdx? (· == (m,a)) with | some k=>some (k+1,F) | none=>some (F.length+1,F++[(m,a)])):=by simp [behF]
  rw [e0];cases e:F.findIdx? (· == (m,a)) with
  | some k =>
   rw [List.findIdx?_eq_some_iff_getElem] at e;obtain ⟨g1,g2,_⟩:=e;have g3:F[k]=(m,a):=by simpa using g2
   have g4:F[k]? = some (m,a):=by rw [List.getElem?_eq_getElem g1,g3]
   exact ⟨k+1,F,rfl,h,Nat.le_refl _,λ_ _=>rfl,g1,by rw [zCd h g4];simp [fldR]⟩
  | none =>
   rw [List.findIdx?_eq_none_iff] at e;have hno:∀ k:Nat,F[k]? ≠ some (m,a):=by
    intro k hk;have:=e (m,a) (List.mem_of_getElem? hk);simp at this
   have hr:=h.app (x:=(m,a)) hm hno;refine ⟨F.length+1,F++[(m,a)],rfl,hr,by simp,λk hk=>zFl h _ hk,by simp,?_⟩;have g:(F++[(m,a)])[F.length]? = some (m,a):=by simp
   rw [zCd hr g,zFl h _ hm];simp [fldR]
 all_goals
  try
   have h0:m ≠ 0:=by
    intro e;subst e;simp [zEL] at b1
   obtain ⟨t1,t2⟩:=zGm h hm h0;rw [t2] at b3;simp only [List.getLastD_concat] at b3
 ·exact ⟨m,F,by simp [behF,h0],h,Nat.le_refl _,λ_ _=>rfl,hm,by simp [fldR]⟩
 ·have b4:=b3 (by simp);exact ⟨m,F,by simp only [behF];rw [b4];simp [h0],h,Nat.le_refl _,λ_ _=>rfl,hm,by simp [fldR]⟩
 ·have b4:=b3 (by simp);exact ⟨m,F,by simp only [behF];rw [b4];simp [h0],h,Nat.le_refl _,λ_ _=>rfl,hm,by simp [fldR]⟩
 ·exact ⟨_,F,by simp [behF,h0],h,Nat.le_refl _,λ_ _=>rfl,t1,by rw [t2];simp [fldR]⟩
 ·have h0:m=0:=by
   have q:=b2 rfl;have q2:rw0 F m=rw0 F 0:=by rw [zEL];exact List.eq_nil_of_length_eq_zero q
   exact zF7 h hm (Nat.zero_le _) q2
  exact ⟨m,F,by simp [behF,h0],h,Nat.le_refl _,λ_ _=>rfl,hm,by simp [fldR]⟩
 ·exact ⟨m,F,by simp [behF,n1,n2,n3,n4,n5,n6],h,Nat.le_refl _,λ_ _=>rfl,hm,by simp [fldR,n1,n5]⟩
theorem beh_none {F:List (Nat × Int)} (h:Rows F) {o a:Int} {m:Nat} (hm:m<=F.length) (hb:bst o (rw0 F m)=false):behF F o a m=none:=by
 simp only [bst,decide_eq_false_iff_not] at hb;rcases ops17 o with rfl | rfl | rfl | rfl | rfl | rfl | ⟨n1,n2,n3,n4,n5,n6⟩
 ·exact absurd ⟨λq=>by omega,λq=>by omega,λq=>by omega⟩ hb
 all_goals
  try
   rcases Nat.eq_zero_or_pos m with h0 | hp
   ·subst h0;simp [behF]
   obtain ⟨t1,t2⟩:=zGm h hm (by omega);have h0:m ≠ 0:=by omega
   rw [t2] at hb;simp only [List.getLastD_concat,List.length_append,List.length_cons,List.length_nil] at hb
 ·exact absurd ⟨λq=>by omega,λq=>by omega,λq=>by omega⟩ hb
 ·simp only [behF];cases hq:pairs (F.getD (m - 1) (0,0)).2 with
  | true=>simp
  | false=>rw [hq] at hb;exact absurd ⟨λq=>by omega,λq=>by omega,λq=>rfl⟩ hb
 ·simp only [behF];cases hq:pairs (F.getD (m - 1) (0,0)).2 with
  | false=>simp
  | true=>rw [hq] at hb;exact absurd ⟨λq=>by omega,λq=>by omega,λq=>rfl⟩ hb
 ·exact absurd ⟨λq=>by omega,λq=>by omega,λq=>by omega⟩ hb
 ·have h0:m ≠ 0:=by
   intro e;subst e;exact hb ⟨λq=>by omega,λ_=>rfl,λq=>by omega⟩
  simp [behF,h0]
 ·exact absurd ⟨λq=>by omega,λq=>by omega,λq=>by omega⟩ hb
theorem zHy (n i:Nat) (o b v:Int) (f:List Int) (hs:o=16->i+1=n):stand n i o b v f=(bst o f && decide (¬ (v<(swO o b).1 \/ (o=16/\(swO o b).1<v)))):=by
 rw [stand,bst,<-Bool.decide_and];apply decide_eq_decide.2
 rcases zD1 o with rfl | rfl | rfl | rfl | rfl | rfl | rfl | rfl | rfl | rfl | rfl | rfl | rfl | rfl | rfl | rfl | ho
 case inr.inr.inr.inr.inr.inr.inr.inr.inr.inr.inr.inr.inr.inr.inr.inr =>
  have m1:o ≠ 1:=by omega
  have m2:o ≠ 2:=by omega
  have m3:o ≠ 3:=by omega
  have m4:o ≠ 4:=by omega
  have m5:o ≠ 5:=by omega
  have m7:o ≠ 7:=by omega
  have m8:o ≠ 8:=by omega
  have m9:o ≠ 9:=by omega
  have m10:o ≠ 10:=by omega
  have m11:o ≠ 11:=by omega
  have m12:o ≠ 12:=by omega
  have m14:o ≠ 14:=by omega
  have m15:o ≠ 15:=by omega
  have m16:o ≠ 16:=by omega
  simp [nds,swO,m1,m2,m3,m4,m5,m7,m8,m9,m10,m11,m12,m14,m15,m16]
 case inr.inr.inr.inr.inr.inr.inr.inr.inr.inr.inr.inr.inr.inr.inr.inl =>
  have:=hs rfl;rw [List.length_eq_zero_iff] ;constructor
  ·rintro ⟨_,_,_,h4,_⟩;have:=h4 rfl;simp [swO,this]
  ·rintro ⟨⟨_,h2,_⟩,h4⟩;have h5:=h2 rfl;simp [swO] at h4;simp [nds,h5];omega
 all_goals
  generalize pairs (f.getLastD 0)=q;try simp [nds,swO]
 all_goals
  try omega
 all_goals
  constructor
  ·rintro ⟨h1,h2,h3⟩;exact ⟨⟨by omega,h3⟩,h1⟩
  ·rintro ⟨⟨h1,h2⟩,h3⟩;exact ⟨h3,by omega,h2⟩
theorem zJ4 (n i:Nat) (o a b:Int) (tl:List Int) (v:Int) (f:List Int) (S:RS) (hl:S.length=n) :
  handR n i ((ahd o a b tl i v (nds o b).2.2).map λp=>(p.1,(p.2,fldR o a f))) S =
  (handR n i ((onw o a b tl i).1.map λj=>(j,(v - (swO o b).1+(swO o b).2,fldR o a f))) S).bind (handR n i ((onw o a b tl i).2.map λj=>(j,(v,f)))):=by
 rw [<-zG1];rcases zD1 o with rfl | rfl | rfl | rfl | rfl | rfl | rfl | rfl | rfl | rfl | rfl | rfl | rfl | rfl | rfl | rfl | ho
 case inr.inr.inr.inr.inr.inr.inr.inr.inr.inr.inr.inr.inr.inl =>
  simp only [ahd,nds,swO,onw,fldR];have e:v + -1=v - 1+0:=by omega
  simp;rw [e];simp;exact zFL n i S hl a (i+1) (v,f) (v - 1,f) (by intro q;have:=(Prod.mk.inj q).1;omega)
 case inr.inr.inr.inr.inr.inr.inr.inr.inr.inr.inr.inr.inr.inr.inr.inr =>
  have m1:o ≠ 1:=by omega
  have m2:o ≠ 2:=by omega
  have m3:o ≠ 3:=by omega
  have m4:o ≠ 4:=by omega
  have m5:o ≠ 5:=by omega
  have m6:o ≠ 6:=by omega
  have m7:o ≠ 7:=by omega
  have m8:o ≠ 8:=by omega
  have m9:o ≠ 9:=by omega
  have m10:o ≠ 10:=by omega
  have m11:o ≠ 11:=by omega
  have m12:o ≠ 12:=by omega
  have m13:o ≠ 13:=by omega
  have m14:o ≠ 14:=by omega
  have m15:o ≠ 15:=by omega
  have m16:o ≠ 16:=by omega
  simp [ahd,onw,fldR,nds,swO,m1,m2,m3,m4,m5,m6,m7,m8,m9,m10,m11,m12,m13,m14,m15,m16]
 all_goals
  simp [ahd,nds,swO,onw,fldR,Function.comp_def]
 all_goals
  first
  | rw [show v - 1=v + -1 from by omega]
  | rw [show v - 2+1=v + -1 from by omega]
  | rw [show v - b+1=v+(1 - b) from by omega]
  | skip
theorem zJG {n i:Nat} {o a b:Int} {tl:List Int} {s:PS} {S:RS} (h:Sim n s S) (hs:o=16->i+1=n) (hp1:∀ j ∈ (onw o a b tl i).1,(i:Int)<j/\j<(n:Int)) (hp2:∀ j ∈ (onw o a b tl i).2,(i:Int)<j/\j<(n:Int)) :
  zLj n (stepP i o a b tl s) (stepR n i o a b tl S):=by
 obtain ⟨M,F⟩:=s;rcases h.at' i with ⟨e1,e2⟩ | ⟨v,m,e1,e2,e3⟩
 ·simp only at e1;simp only [stepP,stepR,e1,e2];trivial
 ·simp only at e1 e2 e3;simp only [stepP,stepR,e1,e3];rw [zHy n i o b v _ hs,zJ4 n i o a b tl v (rw0 F m) S h.lr];cases hb:bst o (rw0 F m) with
  | false =>
   rw [beh_none h.rows e2 hb];simp [zLj]
  | true =>
   obtain ⟨m2,F2,hq,B⟩:=beh_some (a:=a) h.rows e2 hb;rw [hq];by_cases hc:v<(swO o b).1 \/ (o=16/\(swO o b).1<v)
   ·simp only [if_pos hc];rw [if_neg (by simp [hc])];trivial
   ·simp only [if_neg hc];rw [if_pos (by simp [hc])];have h2:Sim n (M,F2) S:=by
     refine ⟨h.lp,h.lr,B.rows,λj=>?_⟩;rcases h.at' j with g | ⟨v',m',g1,g2,g3⟩
     ·exact Or.inl g
     ·exact Or.inr ⟨v',m',g1,Nat.le_trans g2 B.le,by rw [g3];simp only at g2;show some (v',rw0 F m')=some (v',rw0 F2 m');rw [B.old m' g2]⟩
    have k1:=zEa (i:=i) (v:=v - (swO o b).1+(swO o b).2) B.le2 _ M S h2 hp1;rw [B.row] at k1;revert k1
    cases handP (v - (swO o b).1+(swO o b).2,m2) (onw o a b tl i).1 M with
    | none =>
     cases handR n i ((onw o a b tl i).1.map λj=>(j,(v - (swO o b).1+(swO o b).2,fldR o a (rw0 F m)))) S with
     | none=>intro _;trivial
     | some T=>intro k;exact k.elim
    | some M1 =>
     cases handR n i ((onw o a b tl i).1.map λj=>(j,(v - (swO o b).1+(swO o b).2,fldR o a (rw0 F m)))) S with
     | none=>intro k;exact k.elim
     | some T =>
      intro k;have k2:=zEa (i:=i) (v:=v) (Nat.le_trans e2 B.le) _ M1 T k hp2;rw [B.old m e2] at k2;revert k2
      simp only [Option.bind_some];cases handP (v,m) (onw o a b tl i).2 M1 with
      | none =>
       cases handR n i ((onw o a b tl i).2.map λj=>(j,(v,rw0 F m))) T with
       | none=>intro _;trivial
       | some T2=>intro k;exact k.elim
      | some M2 =>
       cases handR n i ((onw o a b tl i).2.map λj=>(j,(v,rw0 F m))) T with
       | none=>intro k;exact k.elim
       | some T2=>intro k;exact k
def runP {α:Type} (st:Nat->α->PS->Option PS):Nat->List α->PS->Bool
 | _,[],_=>true
 | i,x::r,s=>match st i x s with
  | none=>false
  | some s2=>runP st (i+1) r s2
def runR {α:Type} (st:Nat->α->RS->Option RS):Nat->List α->RS->Bool
 | _,[],_=>true
 | i,x::r,S=>match st i x S with
  | none=>false
  | some S2=>runR st (i+1) r S2
theorem zJx {α:Type} (n:Nat) (sp:Nat->α->PS->Option PS) (sr:Nat->α->RS->Option RS):∀ (l:List α) (i:Nat) (s:PS) (S:RS),Sim n s S ->
  (∀ (k:Nat) (hk:k<l.length) (s:PS) (S:RS),Sim n s S->zLj n (sp (i+k) (l[k]) s) (sr (i+k) (l[k]) S))->runP sp i l s=runR sr i l S:=by
 intro l;induction l with
 | nil=>intro i s S _ _;rfl
 | cons x r ih =>
  intro i s S h hst;have h0:=hst 0 (by simp) s S h;simp only [Nat.add_zero,List.getElem_cons_zero] at h0;show (match sp i x s with | none=>false | some s2=>runP sp (i+1) r s2)=(match sr i x S with | none=>false | some S2=>runR sr (i+1) r S2)
  revert h0
  cases sp i x s with
  | none =>
   cases sr i x S with
   | none=>intro _;rfl
   | some T=>intro k;exact k.elim
  | some s2 =>
   cases sr i x S with
   | none=>intro k;exact k.elim
   | some T =>
    intro k;refine ih (i+1) s2 T k λq hq s' S' hs'=>?_
    have:=hst (q+1) (by simp;omega) s' S' hs';simp only [List.getElem_cons_succ] at this;rw [show i+1+q=i+(q+1) from by omega];exact this
theorem zH0 {α:Type} (sr:Nat->α->RS->Option RS):∀ (l:List α) (i:Nat) (S:RS),runR sr i l S=true->∀ (k:Nat) (hk:k<l.length),∃ S1 S2,sr (i+k) (l[k]) S1=some S2:=by
 intro l;induction l with
 | nil=>intro i S _ k hk;cases hk
 | cons x r ih =>
  intro i S h k hk;simp only [runR] at h;cases e:sr i x S with
  | none=>rw [e] at h;cases h
  | some T =>
   rw [e] at h;cases k with
   | zero=>exact ⟨S,T,e⟩
   | succ q =>
    obtain ⟨S1,S2,g⟩:=ih (i+1) T h q (by simp at hk;omega);refine ⟨S1,S2,?_⟩;simp only [List.getElem_cons_succ];rw [show i+(q+1)=i+1+q from by omega];exact g
def plc (rg:In->List Int->Bool) (n i:Nat) (x:In × List Int):Bool :=
 rg x.1 x.2 && (((x.1.op == 16) == (i+1 == n)) && (!(onw x.1.op x.1.a x.1.b x.2 i).1.any (λj=>decide (j<=(i:Int) \/ (n:Int)<=j)) && !(onw x.1.op x.1.a x.1.b x.2 i).2.any (λj=>decide (j<=(i:Int) \/ (n:Int)<=j))))
def plcs (rg:In->List Int->Bool) (n:Nat):Nat->List (In × List Int)->Bool
 | _,[]=>true
 | i,x::r=>plc rg n i x && plcs rg n (i+1) r
theorem plcs_iff (rg:In->List Int->Bool) (n:Nat):∀ (l:List (In × List Int)) (i:Nat),plcs rg n i l=true ↔ ∀ (k:Nat) (hk:k<l.length),plc rg n (i+k) (l[k])=true:=by
 intro l;induction l with
 | nil=>intro i;exact ⟨λ_ k hk=>absurd hk (Nat.not_lt_zero _),λ_=>rfl⟩
 | cons x r ih =>
  intro i;simp only [plcs,Bool.and_eq_true,ih (i+1)];constructor
  ·rintro ⟨h1,h2⟩ k hk;cases k with
   | zero=>exact h1
   | succ q =>
    have:=h2 q (by simp at hk;omega);simp only [List.getElem_cons_succ];rw [show i+(q+1)=i+1+q from by omega];exact this
  ·intro h;refine ⟨h 0 (by simp),λk hk=>?_⟩;have:=h (k+1) (by simp;omega);simp only [List.getElem_cons_succ] at this;rw [show i+1+k=i+(k+1) from by omega];exact this
def spI (i:Nat) (x:In × List Int) (s:PS):Option PS:=stepP i x.1.op x.1.a x.1.b x.2 s
def srI (rg:In->List Int->Bool) (n i:Nat) (x:In × List Int) (S:RS):Option RS:=if rg x.1 x.2=true then stepR n i x.1.op x.1.a x.1.b x.2 S else none
def sP (n:Nat):PS:=((List.replicate n none).set 0 (some (0,0)),[])
def sR (n:Nat):RS:=(List.replicate n none).set 0 (some (0,[]))
def chkP (rg:In->List Int->Bool) (L:List (In × List Int)):Bool:=plcs rg L.length 0 L && (decide (0<L.length) && runP spI 0 L (sP L.length))
def chkR (rg:In->List Int->Bool) (L:List (In × List Int)):Bool:=match L.getLast? with
 | none=>false
 | some x=>x.1.op == 16 && runR (srI rg L.length) 0 L (sR L.length)
theorem zMr (n:Nat) (hn:0<n):Sim n (sP n) (sR n):=by
 refine ⟨by simp [sP],by simp [sR],Rows.nil,λj=>?_⟩;show (((List.replicate n none).set 0 (some ((0:Int),(0:Nat)))).getD j none=none/\((List.replicate n none).set 0 (some ((0:Int),([]:List Int)))).getD j none=none) \/ ∃ v m,((List.replicate n none).set 0 (some ((0:Int),(0:Nat)))).getD j none=some (v,m)/\m<=0/\((List.replicate n none).set 0 (some ((0:Int),([]:List Int)))).getD j none=some (v,rw0 [] m)
 rw [getD_set _ _ _ _ (by simp;omega),getD_set _ _ _ _ (by simp;omega)];by_cases h:0=j
 ·rw [if_pos h,if_pos h];exact Or.inr ⟨0,0,rfl,Nat.le_refl _,rfl⟩
 ·rw [if_neg h,if_neg h];left
  constructor <;> (rw [List.getD_eq_getElem?_getD,List.getElem?_replicate];split <;> rfl)
theorem zJS {l:List Int} {i n:Nat}:(!l.any (λj=>decide (j<=(i:Int) \/ (n:Int)<=j)))=true ↔ ∀ j ∈ l,(i:Int)<j/\j<(n:Int):=by
 simp only [Bool.not_eq_true',List.any_eq_false,decide_eq_true_eq];exact ⟨λh j hj=>by have:=h j hj;omega,λh j hj=>by have:=h j hj;omega⟩
theorem plc_iff (rg:In->List Int->Bool) (n i:Nat) (x:In × List Int):plc rg n i x=true ↔ rg x.1 x.2=true/\(x.1.op=16 ↔ i+1=n)/\(∀ j ∈ (onw x.1.op x.1.a x.1.b x.2 i).1,(i:Int)<j/\j<(n:Int))/\∀ j ∈ (onw x.1.op x.1.a x.1.b x.2 i).2,(i:Int)<j/\j<(n:Int):=by
 unfold plc;rw [Bool.and_eq_true,Bool.and_eq_true,Bool.and_eq_true,zJS,zJS];have e:((x.1.op == 16) == (i+1 == n))=true ↔ (x.1.op=16 ↔ i+1=n):=by
  rw [beq_iff_eq,Bool.eq_iff_iff,beq_iff_eq,beq_iff_eq]
 rw [e]
theorem zJW (rg:In->List Int->Bool) (L:List (In × List Int)) (hL:0<L.length) (hp:plcs rg L.length 0 L=true):runP spI 0 L (sP L.length)=runR (srI rg L.length) 0 L (sR L.length):=by
 rw [plcs_iff] at hp;refine zJx L.length spI (srI rg L.length) L 0 _ _ (zMr _ hL) λk hk s S h=>?_
 obtain ⟨h1,h2,h3,h4⟩:=(plc_iff _ _ _ _).1 (hp k hk);rw [srI,if_pos h1];exact zJG h (λq=>h2.1 q) h3 h4
theorem zJz (o a b:Int) (tl:List Int) (i v dv j:Int) (h:j ∈ (onw o a b tl i).1 \/ j ∈ (onw o a b tl i).2):∃ p ∈ ahd o a b tl i v dv,p.1=j:=by
 unfold onw at h;unfold ahd;repeat' split at h
 all_goals simp only [List.mem_cons,List.not_mem_nil,or_false,false_or] at h
 all_goals first
  | (rename_i e1;subst e1;simp;omega)
  | skip
 all_goals simp_all
 all_goals first
  | omega
  | (
    rcases h with h | h
    ·exact Or.inl ⟨_,j,h,rfl,rfl⟩
    ·exact Or.inr h.symm)
  | skip
theorem chk_eq (rg:In->List Int->Bool) (L:List (In × List Int)):chkP rg L=chkR rg L:=by
 cases e:L.getLast? with
 | none =>
  rw [List.getLast?_eq_none_iff] at e;subst e;rfl
 | some x =>
  have hne:L ≠ []:=by intro q;rw [q] at e;cases e
  have hL:0<L.length:=List.length_pos_iff.2 hne;have hx:L[L.length - 1]=x:=by
   rw [List.getLast?_eq_getElem?,List.getElem?_eq_getElem (by omega)] at e;exact Option.some.inj e
  rw [Bool.eq_iff_iff];simp only [chkP,chkR,e,Bool.and_eq_true,beq_iff_eq,decide_eq_true_eq];constructor
  ·rintro ⟨h1,_,h3⟩;refine ⟨?_,?_⟩
   ·have h2:=(plc_iff _ _ _ _).1 ((plcs_iff _ _ _ _).1 h1 (L.length - 1) (by omega));rw [hx] at h2;exact h2.2.1.2 (by omega)
   ·rw [<-zJW rg L hL h1];exact h3
  ·rintro ⟨h1,h2⟩;have hp:plcs rg L.length 0 L=true:=by
    rw [plcs_iff];intro k hk;obtain ⟨S1,S2,g⟩:=zH0 _ L 0 _ h2 k hk;rw [Nat.zero_add] at g;unfold srI at g;split at g
    ·rename_i hr
     unfold stepR at g;split at g
     ·cases g
     ·rename_i v f hv
      split at g
      ·rename_i hst
       simp only [stand,decide_eq_true_eq] at hst;have hrg:=zDd _ _ _ _ _ g;have hall:∀ j,(j ∈ (onw (L[k]).1.op (L[k]).1.a (L[k]).1.b (L[k]).2 k).1 \/ j ∈ (onw (L[k]).1.op (L[k]).1.a (L[k]).1.b (L[k]).2 k).2)->(k:Int)<j/\j<(L.length:Int):=by
        intro j hj;obtain ⟨p,hp,rfl⟩:=zJz _ _ _ _ _ v (nds (L[k]).1.op (L[k]).1.b).2.2 j hj;exact hrg _ (List.mem_map.2 ⟨p,hp,rfl⟩)
       rw [plc_iff,Nat.zero_add];refine ⟨hr,⟨λq=>?_,λq=>?_⟩,λj hj=>hall j (Or.inl hj),λj hj=>hall j (Or.inr hj)⟩
       ·have:=hst.1;omega
       ·have e2:L[k]=x:=by rw [<-hx];congr 1;omega
        rw [e2];exact h1
      ·cases g
    ·cases g
   exact ⟨hp,hL,by rw [zJW rg L hL hp];exact h2⟩
end Go.Proofs.YtefkclbaflkheaaGreatDoor.Wc
namespace Go.Proofs.YtefkclbaflkheaaGreatDoor
open Tryz
open Go.RowKit
set_option linter.unusedVariables false
variable {b mb:Nat} {lv:Value} {w:World} {F:List (Nat × Int)}
def BPost (b mb:Nat) (lv:Value) (w w':World) (F2:List (Nat × Int)):Prop:=(∃ lv',FS w' b mb lv' F2)/\Fr (b::mb::lv.ownBlock.toList) w w'/\(∀ u,w.cell? ⟨b,0,none⟩=some u->w'.cell? ⟨b,0,none⟩=some u)
theorem BPost.of_below {w':World} (h:FS w b mb lv F) (hb:Below w.heap.size w w'):BPost b mb lv w w' F:=⟨⟨lv,h.below hb⟩,Fr.of_below _ hb,λu hu=>zAC hb hu⟩
theorem BPost.front {w1 w2:World} (hb:Below w.heap.size w w1) (h:BPost b mb lv w1 w2 F):BPost b mb lv w w2 F:=⟨h.1,(Fr.of_below _ hb).trans h.2.1,λu hu=>h.2.2 u (zAC hb hu)⟩
theorem zHt (b mb:Nat) (lv:Value) (F:List (Nat × Int)) (m:Nat) (a:Int) (w:World) (hfs:FS w b mb lv F) (hlF:F.length<=1000000) :
  Calls prog 142 #[.pointer (some ⟨b,1,none⟩),.int .i64 (m:Int),.int .i64 a] w λe w'=>∃ k F2,Wc.behF F 6 a m=some (k,F2)/\e=.returned (.int .i64 (k:Int))/\BPost b mb lv w w' F2:=by
 cases hk:F.findIdx? (· == (m,a)) with
 | some k =>
  refine (zIO b mb lv F m a k w hfs hk).mono ?_;rintro e w' ⟨rfl,hb⟩;exact ⟨k+1,F,by simp [Wc.behF,hk],by simp,BPost.of_below hfs hb⟩
 | none =>
  refine (zGB b mb lv F m a w hfs hlF hk).mono ?_;rintro e w' ⟨rfl,h1,h2,h3⟩;exact ⟨F.length+1,F++[(m,a)],by simp [Wc.behF,hk],by simp,h1,h2,h3⟩
def zCy (F:List (Nat × Int)) (m:Nat):Nat × Int:=if m=0 then (0,0) else F.getD (m - 1) (0,0)
theorem zBF (b mb:Nat) (lv:Value) (F:List (Nat × Int)) (m:Nat) (w:World) (hfs:FS w b mb lv F) (hm:m<=F.length) (hlF:F.length<=1000000) :
  CR 141 #[.pointer (some ⟨b,1,none⟩),.int .i64 (m:Int)] w (.tuple #[.agg #[.int .i64 ((zCy F m).1:Int),.int .i64 (zCy F m).2],.bool (decide (m ≠ 0))]):=by
 cases m with
 | zero=>exact zGS b 1 w
 | succ i =>
  have h:=zIW b 1 (F.map λx=>((x.1:Int),x.2)) i w hfs.list (by simp;omega) (by simpa using hlF);have e:zCy F (i+1)=F[i]'(by omega):=by
   unfold zCy;rw [if_neg (by omega),Nat.add_sub_cancel,List.getD_eq_getElem?_getD,List.getElem?_eq_getElem (by omega)];rfl
  rw [e];simp only [List.getElem_map] at h;exact h
theorem zIJ (x:Wc.In) (tv:Value) (b mb:Nat) (lv:Value) (F:List (Nat × Int)) (m:Nat) (w:World) (hfs:FS w b mb lv F) (hm:m<=F.length) (hlF:F.length<=1000000) (hk:x.op=6) :
  Calls prog 100 #[.pointer (some ⟨b,1,none⟩),inV x tv,.int .i64 (m:Int)] w λe w'=>∃ k F2,Wc.behF F 6 x.a m=some (k,F2)/\e=.returned (.tuple #[.int .i64 (k:Int),.bool true])/\BPost b mb lv w w' F2:=by
 have pA:=AtL.new0 w 56 (zAD x tv);have hB:=zAK (Below.refl _ w) (.cells (zAD x tv).toArray 56);have TP:=λw1 (hb:Below w.heap.size w w1)=>zBF b mb lv F m w1 (hfs.below hb) hm hlF
 obtain ⟨tp,htp⟩:∃ t,zCy F m=t:=⟨_,rfl⟩
 rw [htp] at TP;obtain ⟨tn,ti⟩:=tp;simp only at TP;obtain ⟨sm,hsm⟩:∃ s,decide (m ≠ 0)=s:=⟨_,rfl⟩
 rw [hsm] at TP;go_enter func100,ntmps100;go_upto_region 1 with fail
 generalize (w.alloc (.cells (zAD x tv).toArray 56))=W at *;have TP1:=TP W hB;clear TP;go_wp2_with fail
 refine TP1.mono ?_;rintro e w1 ⟨rfl,hb1⟩;replace pA:=AtL.below hb1 pA
 replace hB:=zAB hB hb1
 have hk0:(zAD x tv)[0]? = some (.int .i64 (6)):=by rw [<-hk];rfl
 have a0:=pA.2.1 0 _ hk0;have a1:=pA.2.1 1 _ rfl;have p8:=AtL.new0 w1 193 [.int .i64 (tn:Int),.int .i64 ti];have hB8:=zAK (Below.refl _ w1) (.cells #[.int .i64 (tn:Int),.int .i64 ti] 193);replace hB:=zAB hB hB8
 replace a0:=zAC hB8 a0
 replace a1:=zAC hB8 a1
 have t0:=p8.2.1 0 _ rfl;have t1:=p8.2.1 1 _ rfl;clear hb1 pA TP1 p8 hB8;go_upto_region 2 with fail
 generalize (w1.alloc (.cells #[.int .i64 (tn:Int),.int .i64 ti] 193))=W2 at *;have MA:=zHt b mb lv F m x.a W2 (hfs.below hB) hlF;go_wp2_with fail
 refine MA.mono ?_;rintro e w3 ⟨k,F2,hbe,rfl,hP⟩;go_wp2;go_ret2
 exact ⟨k,F2,hbe,rfl,BPost.front hB hP⟩
theorem zHr (x:Wc.In) (tv:Value) (b mb:Nat) (lv:Value) (F:List (Nat × Int)) (m:Nat) (w:World) (hfs:FS w b mb lv F) (hm:m<=F.length) (hlF:F.length<=1000000) (hk:x.op=7) :
  Calls prog 100 #[.pointer (some ⟨b,1,none⟩),inV x tv,.int .i64 (m:Int)] w λe w'=>(e=.returned (.tuple #[.int .i64 (m:Int),.bool (decide (m ≠ 0))]))/\Below w.heap.size w w':=by
 have pA:=AtL.new0 w 56 (zAD x tv);have hB:=zAK (Below.refl _ w) (.cells (zAD x tv).toArray 56);have TP:=λw1 (hb:Below w.heap.size w w1)=>zBF b mb lv F m w1 (hfs.below hb) hm hlF
 obtain ⟨tp,htp⟩:∃ t,zCy F m=t:=⟨_,rfl⟩
 rw [htp] at TP;obtain ⟨tn,ti⟩:=tp;simp only at TP;obtain ⟨sm,hsm⟩:∃ s,decide (m ≠ 0)=s:=⟨_,rfl⟩
 rw [hsm] at TP;rw [hsm];go_enter func100,ntmps100;go_upto_region 1 with fail
 generalize (w.alloc (.cells (zAD x tv).toArray 56))=W at *;have TP1:=TP W hB;clear TP;go_wp2_with fail
 refine TP1.mono ?_;rintro e w1 ⟨rfl,hb1⟩;replace pA:=AtL.below hb1 pA
 replace hB:=zAB hB hb1
 have hk0:(zAD x tv)[0]? = some (.int .i64 (7)):=by rw [<-hk];rfl
 have a0:=pA.2.1 0 _ hk0;have a1:=pA.2.1 1 _ rfl;have p8:=AtL.new0 w1 193 [.int .i64 (tn:Int),.int .i64 ti];have hB8:=zAK (Below.refl _ w1) (.cells #[.int .i64 (tn:Int),.int .i64 ti] 193);replace hB:=zAB hB hB8
 replace a0:=zAC hB8 a0
 replace a1:=zAC hB8 a1
 have t0:=p8.2.1 0 _ rfl;have t1:=p8.2.1 1 _ rfl;clear hb1 pA TP1 p8 hB8;go_upto_region 2 with fail
 generalize (w1.alloc (.cells #[.int .i64 (tn:Int),.int .i64 ti] 193))=W2 at *;cases sm
 ·go_wp2;go_ret2
  exact ⟨by simp,(clB hB)⟩
 ·go_wp2;go_ret2
  exact ⟨by simp,(clB hB)⟩
theorem zIE (x:Wc.In) (tv:Value) (b mb:Nat) (lv:Value) (F:List (Nat × Int)) (m:Nat) (w:World) (hfs:FS w b mb lv F) (hm:m<=F.length) (hlF:F.length<=1000000) (hk:x.op=8) :
  Calls prog 100 #[.pointer (some ⟨b,1,none⟩),inV x tv,.int .i64 (m:Int)] w λe w'=>(e=.returned (.tuple #[.int .i64 (m:Int),.bool (decide (m ≠ 0) && !Wc.pairs (zCy F m).2)]))/\Below w.heap.size w w':=by
 have pA:=AtL.new0 w 56 (zAD x tv);have hB:=zAK (Below.refl _ w) (.cells (zAD x tv).toArray 56);have TP:=λw1 (hb:Below w.heap.size w w1)=>zBF b mb lv F m w1 (hfs.below hb) hm hlF
 obtain ⟨tp,htp⟩:∃ t,zCy F m=t:=⟨_,rfl⟩
 rw [htp] at TP;obtain ⟨tn,ti⟩:=tp;simp only at TP;obtain ⟨sm,hsm⟩:∃ s,decide (m ≠ 0)=s:=⟨_,rfl⟩
 rw [hsm] at TP;have PA:=λw=>zCP ti w
 obtain ⟨pq,hpq⟩:∃ q,Wc.pairs ti=q:=⟨_,rfl⟩
 rw [hpq] at PA;have hres:(decide (m ≠ 0) && !Wc.pairs (zCy F m).2)=(sm && !pq):=by rw [htp,hsm,<-hpq]
 rw [hres];go_enter func100,ntmps100;go_upto_region 1 with fail
 generalize (w.alloc (.cells (zAD x tv).toArray 56))=W at *;have TP1:=TP W hB;clear TP;go_wp2_with fail
 refine TP1.mono ?_;rintro e w1 ⟨rfl,hb1⟩;replace pA:=AtL.below hb1 pA
 replace hB:=zAB hB hb1
 have hk0:(zAD x tv)[0]? = some (.int .i64 (8)):=by rw [<-hk];rfl
 have a0:=pA.2.1 0 _ hk0;have a1:=pA.2.1 1 _ rfl;have p8:=AtL.new0 w1 193 [.int .i64 (tn:Int),.int .i64 ti];have hB8:=zAK (Below.refl _ w1) (.cells #[.int .i64 (tn:Int),.int .i64 ti] 193);replace hB:=zAB hB hB8
 replace a0:=zAC hB8 a0
 replace a1:=zAC hB8 a1
 have t0:=p8.2.1 0 _ rfl;have t1:=p8.2.1 1 _ rfl;clear hb1 pA TP1 p8 hB8;go_upto_region 2 with fail
 generalize (w1.alloc (.cells #[.int .i64 (tn:Int),.int .i64 ti] 193))=W2 at *;cases sm
 ·clear PA;go_wp2;go_ret2
  exact ⟨by simp,(clB hB)⟩
 ·go_wp2_with fail
  refine (PA _).mono ?_;rintro e w3 ⟨rfl,rfl⟩;cases pq
  ·go_wp2;go_ret2
   exact ⟨by simp,(clB hB)⟩
  ·go_wp2;go_ret2
   exact ⟨by simp,(clB hB)⟩
theorem zIT (x:Wc.In) (tv:Value) (b mb:Nat) (lv:Value) (F:List (Nat × Int)) (m:Nat) (w:World) (hfs:FS w b mb lv F) (hm:m<=F.length) (hlF:F.length<=1000000) (hk:x.op=9) :
  Calls prog 100 #[.pointer (some ⟨b,1,none⟩),inV x tv,.int .i64 (m:Int)] w λe w'=>(e=.returned (.tuple #[.int .i64 (m:Int),.bool (decide (m ≠ 0) && Wc.pairs (zCy F m).2)]))/\Below w.heap.size w w':=by
 have pA:=AtL.new0 w 56 (zAD x tv);have hB:=zAK (Below.refl _ w) (.cells (zAD x tv).toArray 56);have TP:=λw1 (hb:Below w.heap.size w w1)=>zBF b mb lv F m w1 (hfs.below hb) hm hlF
 obtain ⟨tp,htp⟩:∃ t,zCy F m=t:=⟨_,rfl⟩
 rw [htp] at TP;obtain ⟨tn,ti⟩:=tp;simp only at TP;obtain ⟨sm,hsm⟩:∃ s,decide (m ≠ 0)=s:=⟨_,rfl⟩
 rw [hsm] at TP;have PA:=λw=>zCP ti w
 obtain ⟨pq,hpq⟩:∃ q,Wc.pairs ti=q:=⟨_,rfl⟩
 rw [hpq] at PA;have hres:(decide (m ≠ 0) && Wc.pairs (zCy F m).2)=(sm && pq):=by rw [htp,hsm,<-hpq]
 rw [hres];go_enter func100,ntmps100;go_upto_region 1 with fail
 generalize (w.alloc (.cells (zAD x tv).toArray 56))=W at *;have TP1:=TP W hB;clear TP;go_wp2_with fail
 refine TP1.mono ?_;rintro e w1 ⟨rfl,hb1⟩;replace pA:=AtL.below hb1 pA
 replace hB:=zAB hB hb1
 have hk0:(zAD x tv)[0]? = some (.int .i64 (9)):=by rw [<-hk];rfl
 have a0:=pA.2.1 0 _ hk0;have a1:=pA.2.1 1 _ rfl;have p8:=AtL.new0 w1 193 [.int .i64 (tn:Int),.int .i64 ti];have hB8:=zAK (Below.refl _ w1) (.cells #[.int .i64 (tn:Int),.int .i64 ti] 193);replace hB:=zAB hB hB8
 replace a0:=zAC hB8 a0
 replace a1:=zAC hB8 a1
 have t0:=p8.2.1 0 _ rfl;have t1:=p8.2.1 1 _ rfl;clear hb1 pA TP1 p8 hB8;go_upto_region 2 with fail
 generalize (w1.alloc (.cells #[.int .i64 (tn:Int),.int .i64 ti] 193))=W2 at *;cases sm
 ·clear PA;go_wp2;go_ret2
  exact ⟨by simp,(clB hB)⟩
 ·go_wp2_with fail
  refine (PA _).mono ?_;rintro e w3 ⟨rfl,rfl⟩;cases pq
  ·go_wp2;go_ret2
   exact ⟨by simp,(clB hB)⟩
  ·go_wp2;go_ret2
   exact ⟨by simp,(clB hB)⟩
theorem zFu (x:Wc.In) (tv:Value) (b mb:Nat) (lv:Value) (F:List (Nat × Int)) (m:Nat) (w:World) (hfs:FS w b mb lv F) (hm:m<=F.length) (hlF:F.length<=1000000) (hk:x.op=10) :
  Calls prog 100 #[.pointer (some ⟨b,1,none⟩),inV x tv,.int .i64 (m:Int)] w λe w'=>(e=.returned (.tuple #[.int .i64 (((zCy F m).1:Int)),.bool (decide (m ≠ 0))]))/\Below w.heap.size w w':=by
 have pA:=AtL.new0 w 56 (zAD x tv);have hB:=zAK (Below.refl _ w) (.cells (zAD x tv).toArray 56);have TP:=λw1 (hb:Below w.heap.size w w1)=>zBF b mb lv F m w1 (hfs.below hb) hm hlF
 obtain ⟨tp,htp⟩:∃ t,zCy F m=t:=⟨_,rfl⟩
 rw [htp] at TP;obtain ⟨tn,ti⟩:=tp;simp only at TP;obtain ⟨sm,hsm⟩:∃ s,decide (m ≠ 0)=s:=⟨_,rfl⟩
 rw [hsm] at TP;rw [hsm,htp];go_enter func100,ntmps100;go_upto_region 1 with fail
 generalize (w.alloc (.cells (zAD x tv).toArray 56))=W at *;have TP1:=TP W hB;clear TP;go_wp2_with fail
 refine TP1.mono ?_;rintro e w1 ⟨rfl,hb1⟩;replace pA:=AtL.below hb1 pA
 replace hB:=zAB hB hb1
 have hk0:(zAD x tv)[0]? = some (.int .i64 (10)):=by rw [<-hk];rfl
 have a0:=pA.2.1 0 _ hk0;have a1:=pA.2.1 1 _ rfl;have p8:=AtL.new0 w1 193 [.int .i64 (tn:Int),.int .i64 ti];have hB8:=zAK (Below.refl _ w1) (.cells #[.int .i64 (tn:Int),.int .i64 ti] 193);replace hB:=zAB hB hB8
 replace a0:=zAC hB8 a0
 replace a1:=zAC hB8 a1
 have t0:=p8.2.1 0 _ rfl;have t1:=p8.2.1 1 _ rfl;clear hb1 pA TP1 p8 hB8;go_upto_region 2 with fail
 generalize (w1.alloc (.cells #[.int .i64 (tn:Int),.int .i64 ti] 193))=W2 at *;cases sm
 ·go_wp2;go_ret2
  exact ⟨by simp,(clB hB)⟩
 ·go_wp2;go_ret2
  exact ⟨by simp,(clB hB)⟩
theorem zHJ (x:Wc.In) (tv:Value) (b mb:Nat) (lv:Value) (F:List (Nat × Int)) (m:Nat) (w:World) (hfs:FS w b mb lv F) (hm:m<=F.length) (hlF:F.length<=1000000) (hk:x.op=16) :
  Calls prog 100 #[.pointer (some ⟨b,1,none⟩),inV x tv,.int .i64 (m:Int)] w λe w'=>(e=.returned (.tuple #[.int .i64 (m:Int),.bool (decide (m=0))]))/\Below w.heap.size w w':=by
 have pA:=AtL.new0 w 56 (zAD x tv);have hB:=zAK (Below.refl _ w) (.cells (zAD x tv).toArray 56);have TP:=λw1 (hb:Below w.heap.size w w1)=>zBF b mb lv F m w1 (hfs.below hb) hm hlF
 obtain ⟨tp,htp⟩:∃ t,zCy F m=t:=⟨_,rfl⟩
 rw [htp] at TP;obtain ⟨tn,ti⟩:=tp;simp only at TP;obtain ⟨sm,hsm⟩:∃ s,decide (m ≠ 0)=s:=⟨_,rfl⟩
 rw [hsm] at TP;have h16:decide (m=0) = !sm:=by rw [<-hsm];simp
 rw [h16];go_enter func100,ntmps100;go_upto_region 1 with fail
 generalize (w.alloc (.cells (zAD x tv).toArray 56))=W at *;have TP1:=TP W hB;clear TP;go_wp2_with fail
 refine TP1.mono ?_;rintro e w1 ⟨rfl,hb1⟩;replace pA:=AtL.below hb1 pA
 replace hB:=zAB hB hb1
 have hk0:(zAD x tv)[0]? = some (.int .i64 (16)):=by rw [<-hk];rfl
 have a0:=pA.2.1 0 _ hk0;have a1:=pA.2.1 1 _ rfl;have p8:=AtL.new0 w1 193 [.int .i64 (tn:Int),.int .i64 ti];have hB8:=zAK (Below.refl _ w1) (.cells #[.int .i64 (tn:Int),.int .i64 ti] 193);replace hB:=zAB hB hB8
 replace a0:=zAC hB8 a0
 replace a1:=zAC hB8 a1
 have t0:=p8.2.1 0 _ rfl;have t1:=p8.2.1 1 _ rfl;clear hb1 pA TP1 p8 hB8;go_upto_region 2 with fail
 generalize (w1.alloc (.cells #[.int .i64 (tn:Int),.int .i64 ti] 193))=W2 at *;cases sm
 ·go_wp2;go_ret2
  exact ⟨by simp,(clB hB)⟩
 ·go_wp2;go_ret2
  exact ⟨by simp,(clB hB)⟩
theorem zIS (x:Wc.In) (tv:Value) (b mb:Nat) (lv:Value) (F:List (Nat × Int)) (m:Nat) (w:World) (hfs:FS w b mb lv F) (hm:m<=F.length) (hlF:F.length<=1000000) (ho:x.op ≠ 6/\x.op ≠ 7/\x.op ≠ 8/\x.op ≠ 9/\x.op ≠ 10/\x.op ≠ 16) :
  Calls prog 100 #[.pointer (some ⟨b,1,none⟩),inV x tv,.int .i64 (m:Int)] w λe w'=>(e=.returned (.tuple #[.int .i64 (m:Int),.bool true]))/\Below w.heap.size w w':=by
 have pA:=AtL.new0 w 56 (zAD x tv);have hB:=zAK (Below.refl _ w) (.cells (zAD x tv).toArray 56);have TP:=λw1 (hb:Below w.heap.size w w1)=>zBF b mb lv F m w1 (hfs.below hb) hm hlF
 obtain ⟨tp,htp⟩:∃ t,zCy F m=t:=⟨_,rfl⟩
 rw [htp] at TP;obtain ⟨tn,ti⟩:=tp;simp only at TP;obtain ⟨sm,hsm⟩:∃ s,decide (m ≠ 0)=s:=⟨_,rfl⟩
 rw [hsm] at TP;have m6:¬ x.op=6:=by omega
 have m7:¬ x.op=7:=by omega
 have m8:¬ x.op=8:=by omega
 have m9:¬ x.op=9:=by omega
 have m10:¬ x.op=10:=by omega
 have m16:¬ x.op=16:=by omega
 go_enter func100,ntmps100;go_upto_region 1 with fail
 generalize (w.alloc (.cells (zAD x tv).toArray 56))=W at *;have TP1:=TP W hB;clear TP;go_wp2_with fail
 refine TP1.mono ?_;rintro e w1 ⟨rfl,hb1⟩;replace pA:=AtL.below hb1 pA
 replace hB:=zAB hB hb1
 have hk0:(zAD x tv)[0]? = some (.int .i64 x.op):=rfl;have a0:=pA.2.1 0 _ hk0;have a1:=pA.2.1 1 _ rfl;have p8:=AtL.new0 w1 193 [.int .i64 (tn:Int),.int .i64 ti];have hB8:=zAK (Below.refl _ w1) (.cells #[.int .i64 (tn:Int),.int .i64 ti] 193);replace hB:=zAB hB hB8
 replace a0:=zAC hB8 a0
 replace a1:=zAC hB8 a1
 have t0:=p8.2.1 0 _ rfl;have t1:=p8.2.1 1 _ rfl;clear hb1 pA TP1 p8 hB8;go_upto_region 2 with fail
 generalize (w1.alloc (.cells #[.int .i64 (tn:Int),.int .i64 ti] 193))=W2 at *;go_wp2;go_ret2
 exact ⟨by simp,(clB hB)⟩
