/- TCell, TLitP, TCells. -/
import Derived.Test.YtedifblompcdkaaGreatDoorQ30
set_option maxHeartbeats 8000000
set_option maxRecDepth 100000
namespace Go.Proofs.YtedifblompcdkaaGreatDoor
open Tryz
open Go.RowKit Go.Shelf
set_option linter.unusedVariables false
variable {ts r:List Wlx.TV} {en:Int} {w:World}
def pc (ts:List Wlx.TV) (en:Int):(Wt.Rf × List Wlx.TV) ⊕ (Int × Int) :=
 if (hd ts en).k=3 then (if fol ts [40] then .inr (50,pos ts en) else if fol ts [33] then .inr (50,pos ts en) else (match rw1 (hd ts en).t with | some a=>.inl (a,ts.tail) | none=>.inr (50,pos ts en))) else .inr (50,pos ts en)
def zE6 (kp:Nat) (en:Int) (r:(Wt.Rf × List Wlx.TV) ⊕ (Int × Int)) (w:World) (e:Ending) (w':World):Prop:=match r with
 | .inl (a,rest)=>e=.returned (rfV a)/\PSt w' kp rest en/\w.grownBy w' (some kp)
 | .inr (c,p)=>e=zB2 c p/\w.grownBy w' (some kp)
theorem zGj (kp:Nat) (ts:List Wlx.TV) (en:Int) (w:World) (h:PSt w kp ts en) (hts:ts.length<=1024) (hok:∀ t ∈ ts,zA5 t) (hE:Env w) (hk8:8<=kp):Calls prog 254 #[.pointer (some ⟨kp,0,none⟩)] w λe w'=>zE6 kp en (pc ts en) w e w':=by
 have hB0:=zAH (Below.refl _ w) (.cells zR0 100);have pZ:=AtL.new0 w 100 [.string ⟨#[]⟩,.int .i64 0,.int .i64 0,.bool false,.bool false];have h0:=h.below hB0;have hE0:=hE.below hB0;have N:=λw h=>zBH kp ts en w h
 have F1:=λw h=>zBZ kp ts en [40] w h hts
 have F2:=λw h=>zBZ kp ts en [33] w h hts
 have hfl:=zG3;have hfl2:=zHV;unfold pc pos;have hne:(hd ts en).k=3->∃ r,ts=hd ts en::r:=by
  intro h3;cases ts with
  | nil=>exact absurd h3 (by show ¬ (0:Int)=3;decide)
  | cons a r=>exact ⟨r,rfl⟩
 have M0:=λw h=>zAe kp ts en w h
 unfold pos zB2 at M0;have hto:(hd ts en).k=3->(hd ts en).t.length<=1024:=by
  intro h3;obtain ⟨r,hr⟩:=hne h3;exact (hok (hd ts en) (by rw [hr];simp [hd])).1
 obtain ⟨t,ht⟩:∃ t,hd ts en=t:=⟨_,rfl⟩
 rw [ht] at N M0 hne hto ⊢;clear ht;obtain ⟨k,x,p⟩:=t;unfold tkV at N;simp only at N M0 hto hne ⊢;have bad:∀ (w1:World) (e:Ending),e=.panicked [{v:=.iface 174 (.agg #[.int .i64 50,.int .i64 p]),recovered:=false}]->Below w.heap.size w w1->zE6 kp en (.inr (50,p)) w e w1:=λw1 e he hb=>⟨he,zAE hb _⟩
 by_cases hk3:k=3
 ·subst hk3;rw [if_pos rfl];cases hf1:fol ts [40] with
  | true =>
   rw [hf1] at F1;rw [if_pos rfl];clear F2;go_enter func254,ntmps254;go_wp2_with fail
   refine (N _ h0).mono ?_;rintro e w1 ⟨rfl,hb⟩;have h1:=h0.below hb;have hB1:=zAA hB0 hb;clear hb h0 hB0;go_wp2_with fail
   refine (F1 _ h1).mono ?_;rintro e w2 ⟨rfl,hb⟩;have h2:=h1.below hb;have hB2:=zAA hB1 hb;clear hb h1 hB1;go_wp2_with fail
   refine (M0 _ h2).mono ?_;rintro e w3 ⟨rfl,hb⟩;have hB3:=zAA hB2 hb;go_wp2;exact ⟨rfl,bad _ _ rfl hB3⟩
  | false =>
   rw [hf1] at F1;rw [if_neg (by decide)];cases hf2:fol ts [33] with
   | true =>
    rw [hf2] at F2;rw [if_pos rfl];go_enter func254,ntmps254;go_wp2_with fail
    refine (N _ h0).mono ?_;rintro e w1 ⟨rfl,hb⟩;have h1:=h0.below hb;have hB1:=zAA hB0 hb;clear hb h0 hB0;go_wp2_with fail
    refine (F1 _ h1).mono ?_;rintro e w2 ⟨rfl,hb⟩;have h2:=h1.below hb;have hB2:=zAA hB1 hb;clear hb h1 hB1;go_wp2_with fail
    refine (F2 _ h2).mono ?_;rintro e w3 ⟨rfl,hb⟩;have h3:=h2.below hb;have hB3:=zAA hB2 hb;clear hb h2 hB2;go_wp2_with fail
    refine (M0 _ h3).mono ?_;rintro e w4 ⟨rfl,hb⟩;have hB4:=zAA hB3 hb;go_wp2;exact ⟨rfl,bad _ _ rfl hB4⟩
   | false =>
    rw [hf2] at F2;rw [if_neg (by decide)];have RW:=λw hm ht=>zEe x w hm ht (hto rfl)
    obtain ⟨r,hr⟩:=hne rfl;cases hrw:rw1 x with
    | none =>
     rw [hrw] at RW;simp only [RwV,rfV,rf5,Wt.r0] at RW;go_enter func254,ntmps254;go_wp2_with fail
     refine (N _ h0).mono ?_;rintro e w1 ⟨rfl,hb⟩;have h1:=h0.below hb;have hB1:=zAA hB0 hb;have pZ1:=AtL.below hb pZ;have hE1:=hE0.below hb;clear hb h0 hB0 pZ hE0;go_wp2_with fail
     refine (F1 _ h1).mono ?_;rintro e w2 ⟨rfl,hb⟩;have h2:=h1.below hb;have hB2:=zAA hB1 hb;have pZ2:=AtL.below hb pZ1;have hE2:=hE1.below hb;clear hb h1 hB1 pZ1 hE1;go_wp2_with fail
     refine (F2 _ h2).mono ?_;rintro e w3 ⟨rfl,hb⟩;have h3:=h2.below hb;have hB3:=zAA hB2 hb;have pZ3:=AtL.below hb pZ2;have hE3:=hE2.below hb;clear hb h2 hB2 pZ2 hE2;go_wp2_with fail
     refine (zA3 kp _).mono ?_;rintro e w4 ⟨rfl,rfl⟩;go_wp2_with fail
     refine (N _ h3).mono ?_;rintro e w4 ⟨rfl,hb⟩;have h4:=h3.below hb;have hB4:=zAA hB3 hb;have pZ4:=AtL.below hb pZ3;have hE4:=hE3.below hb;clear hb h3 hB3 pZ3 hE3;go_wp2_with fail
     refine (RW _ hE4.2.2.1 hE4.2.2.2).mono ?_;rintro e w5 ⟨rfl,hb⟩;have h5:=h4.below hb;have hB5:=zAA hB4 hb;have pZ5:=AtL.below hb pZ4;clear hb h4 hB4 pZ4 hE4 N F1 F2 RW;have h6:=h5.below (zAH (Below.refl _ w5) (.cells zR0 100));have hB6:=zAH hB5 (.cells zR0 100);go_wp2_with fail
     refine (M0 _ h6).mono ?_;rintro e w7 ⟨rfl,hb⟩;have hB7:=zAA hB6 hb;go_wp2;exact ⟨rfl,bad _ _ rfl hB7⟩
    | some a =>
     obtain ⟨as1,ar,ac,afr,afc⟩:=a;rw [hrw] at RW;simp only [RwV,rfV,rf5] at RW;subst hr;go_enter func254,ntmps254;go_wp2_with fail
     refine (N _ h0).mono ?_;rintro e w1 ⟨rfl,hb⟩;have h1:=h0.below hb;have hB1:=zAA hB0 hb;have pZ1:=AtL.below hb pZ;have hE1:=hE0.below hb;clear hb h0 hB0 pZ hE0;go_wp2_with fail
     refine (F1 _ h1).mono ?_;rintro e w2 ⟨rfl,hb⟩;have h2:=h1.below hb;have hB2:=zAA hB1 hb;have pZ2:=AtL.below hb pZ1;have hE2:=hE1.below hb;clear hb h1 hB1 pZ1 hE1;go_wp2_with fail
     refine (F2 _ h2).mono ?_;rintro e w3 ⟨rfl,hb⟩;have h3:=h2.below hb;have hB3:=zAA hB2 hb;have pZ3:=AtL.below hb pZ2;have hE3:=hE2.below hb;clear hb h2 hB2 pZ2 hE2;go_wp2_with fail
     refine (zA3 kp _).mono ?_;rintro e w4 ⟨rfl,rfl⟩;go_wp2_with fail
     refine (N _ h3).mono ?_;rintro e w4 ⟨rfl,hb⟩;have h4:=h3.below hb;have hB4:=zAA hB3 hb;have pZ4:=AtL.below hb pZ3;have hE4:=hE3.below hb;clear hb h3 hB3 pZ3 hE3;go_wp2_with fail
     refine (RW _ hE4.2.2.1 hE4.2.2.2).mono ?_;rintro e w5 ⟨rfl,hb⟩;have h5:=h4.below hb;have hB5:=zAA hB4 hb;have pZ5:=AtL.below hb pZ4;clear hb h4 hB4 pZ4 hE4 N F1 F2 RW;have h6:=h5.below (zAH (Below.refl _ w5) (.cells #[.string as1,.int .i64 ar,.int .i64 ac,.bool afr,.bool afc] 100));have hB6:=zAH hB5 (.cells #[.string as1,.int .i64 ar,.int .i64 ac,.bool afr,.bool afc] 100);have pZ6:=AtL.alloc pZ5 (.cells #[.string as1,.int .i64 ar,.int .i64 ac,.bool afr,.bool afc] 100);have pY6:=AtL.new0 w5 100 [.string as1,.int .i64 ar,.int .i64 ac,.bool afr,.bool afc];have hw5:=hB5.size;have hlt5:=pZ5.lt;have hkp:=h.lt;clear h5 hB5 pZ5;go_wp2_with fail
     refine (zA3 kp _).mono ?_;rintro e w6 ⟨rfl,rfl⟩;have P:=zBB 1 kp [⟨3,x,p⟩] r en _ h6 rfl (by decide) hts;go_wp2_with fail
     refine P.mono ?_;rintro e w7 ⟨rfl,hp,hg⟩;have pZ7:=pZ6.grown hg (by intro e;have:=Option.some.inj e;omega);have pY7:=pY6.grown hg (by intro e;have:=Option.some.inj e;omega);have hG:=zAD (zAE hB6 (some kp)) hg;clear P h6 hB6 pZ6 pY6 hg;obtain ⟨y0,y1,y2,y3,y4⟩:=pY7.f5;obtain ⟨z0,z1,z2,z3,z4,g0,g1,g2,g3,g4⟩:=pZ7.five;go_wp2;have pZ8:=((((pZ7.set 0 (.string as1)).set 1 (.int .i64 ar)).set 2 (.int .i64 ac)).set 3 (.bool afr)).set 4 (.bool afc);refine bodyPost_ret (zAO rfl _ _ w.heap.size [.string as1,.int .i64 ar,.int .i64 ac,.bool afr,.bool afc] _ rfl pZ8.range underlying100 rfl (by kernel_rfl)) rfl ?_;exact ⟨rfl,((((hp.far hkp _ _).far hkp _ _).far hkp _ _).far hkp _ _).far hkp _ _,zAS (zAS (zAS (zAS (zAS hG (Nat.le_refl _) _ _) (Nat.le_refl _) _ _) (Nat.le_refl _) _ _) (Nat.le_refl _) _ _) (Nat.le_refl _) _ _⟩
 ·rw [if_neg hk3];have hk':(k == 3)=false:=by simp [hk3]
  clear F1 F2;go_enter func254,ntmps254;go_wp2_with fail
  refine (N _ h0).mono ?_;rintro e w1 ⟨rfl,hb⟩;have h1:=h0.below hb;have hB1:=zAA hB0 hb;clear hb h0 hB0;go_wp2_with fail
  refine (M0 _ h1).mono ?_;rintro e w2 ⟨rfl,hb⟩;have hB2:=zAA hB1 hb;go_wp2;exact ⟨rfl,bad _ _ rfl hB2⟩
abbrev PR:Type:=(List Wt.Nd × List Wlx.TV) ⊕ (Int × Int)
def zAQ (kp:Nat) (en:Int) (r:PR) (w:World) (e:Ending) (w':World):Prop:=match r with
 | .inl (row,rest)=>∃ v,e=.returned v/\Pt w' w.heap.size v row/\PSt w' kp rest en/\w.grownBy w' (some kp)
 | .inr (c,p)=>e=zB2 c p/\w.grownBy w' (some kp)
theorem PSt.farAll {kp:Nat} (h:PSt w kp ts en) {b:Nat} (hb:kp<b):∀ (vs:List Value) (o:Nat),PSt (w.setCells b o vs) kp ts en:=by
 intro vs;induction vs generalizing w with
 | nil=>intro o;exact h
 | cons v r ih=>intro o;rw [World.setCells];exact ih (h.far hb o v) (o+1)
theorem zAN {W:World} {row:Option Nat} (h:w.grownBy W row) {b:Nat} (hb:w.heap.size<=b):∀ (vs:List Value) (o:Nat),w.grownBy (W.setCells b o vs) row:=by
 intro vs;induction vs generalizing W with
 | nil=>intro o;exact h
 | cons v r ih=>intro o;rw [World.setCells];exact ih (zAS h hb o v) (o+1)
def pl (ts:List Wlx.TV) (en:Int):PR:=match zLB (hd ts en) with
 | some v=>.inl ([zBN v],ts.tail)
 | none=>.inr (50,pos ts en)
theorem zFH {v:Wt.Vl} (h:zLB (hd ts en)=some v):∃ r,ts=hd ts en::r:=by
 cases ts with
 | nil=>exact absurd h (by simp [zLB,hd])
 | cons t r=>exact ⟨r,rfl⟩
theorem zCA (en:Int) (h:∀ t ∈ ts,zA5 t):zA5 (hd ts en):=by
 cases ts with
 | nil=>exact ⟨by show 0<=1024;omega,λh=>absurd h (by show ¬ (0:Int)=4;decide)⟩
 | cons t r=>exact h t (by simp)
theorem zDK (kp:Nat) (ts:List Wlx.TV) (en:Int) (w:World) (h:PSt w kp ts en) (hts:ts.length<=1024) (hok:∀ t ∈ ts,zA5 t) (hE:Env w) (hk8:8<=kp):Calls prog 243 #[.pointer (some ⟨kp,0,none⟩)] w λe w'=>zAQ kp en (pl ts en) w e w':=by
 have hB0:=zAH (Below.refl _ w) (.cells zP0 180);have pZ:AtL (w.alloc (.cells zP0 180)) w.heap.size (zAJ (bare 0) (.slice none 0 0)):=AtL.new0 w _ _;have h0:=h.below hB0;have hE0:=hE.below hB0;have N:=λw h=>zBH kp ts en w h
 have LV:=λw h=>zLu (hd ts en) w h (zCA en hok)
 have M0:=λw h=>zAe kp ts en w h
 have LC:=λv=>@zFH ts en v
 unfold pl;unfold pos at M0 ⊢;obtain ⟨t,ht⟩:∃ t,hd ts en=t:=⟨_,rfl⟩
 rw [ht] at N M0 LV LC ⊢;clear ht;cases hl:zLB t with
 | none =>
  simp only;unfold zB2 at M0;go_enter func243,ntmps243;go_wp2_with fail
  generalize w.alloc (.cells zP0 180)=wa at *;refine (N _ h0).mono ?_;rintro e w1 ⟨rfl,hb⟩;have h1:=h0.below hb;have hB1:=zAA hB0 hb;have hE1:=hE0.below hb;clear hb h0 hB0 hE0;go_wp2_with fail
  refine (LV _ hE1.2.1).mono ?_;rintro e w2 ⟨⟨v,ok,rfl,hv⟩,hb⟩;rw [hl] at hv;have hk:ok=false:=by
   cases ok with
   | false=>rfl
   | true=>exact absurd hv (by simp)
  subst hk;obtain ⟨v1,v2,v3,v4,v5,v6⟩:=v;simp only [vlV,vl6];have h2:=(h1.below hb).below (zAH (Below.refl _ w2) (.cells #[.int .i64 v1,.int .i64 v2,.int .i64 v3,.string v4,.bool v5,.int .i64 v6] 38));have hB2:=zAH (zAA hB1 hb) (.cells #[.int .i64 v1,.int .i64 v2,.int .i64 v3,.string v4,.bool v5,.int .i64 v6] 38);clear hb h1 hB1;go_wp2_with fail
  refine (M0 _ h2).mono ?_;rintro e w3 ⟨rfl,hb⟩;have hB3:=zAA hB2 hb;go_wp2;exact ⟨rfl,rfl,zAE hB3 _⟩
 | some v =>
  simp only;obtain ⟨r,hr⟩:=LC v hl;have hkp:=h.lt;have KC:=λw=>zDH v w
  go_enter func243,ntmps243;go_wp2_with fail
  generalize w.alloc (.cells zP0 180)=wa at *;refine (N _ h0).mono ?_;rintro e w1 ⟨rfl,hb⟩;have h1:=h0.below hb;have hB1:=zAA hB0 hb;have hE1:=hE0.below hb;have pZ1:=AtL.below hb pZ;clear hb h0 hB0 hE0 pZ;go_wp2_with fail
  refine (LV _ hE1.2.1).mono ?_;rintro e w2 ⟨⟨v',ok,rfl,hv⟩,hb⟩;rw [hl] at hv;have hk:ok=true/\v=v':=by
   cases ok with
   | false=>exact absurd hv (by simp)
   | true=>exact ⟨rfl,by simpa using hv⟩
  obtain ⟨rfl,rfl⟩:=hk;obtain ⟨v1,v2,v3,v4,v5,v6⟩:=v;simp only [vlV,vl6] at KC ⊢;have h2:=(h1.below hb).below (zAH (Below.refl _ w2) (.cells #[.int .i64 v1,.int .i64 v2,.int .i64 v3,.string v4,.bool v5,.int .i64 v6] 38));have hB2:=zAH (zAA hB1 hb) (.cells #[.int .i64 v1,.int .i64 v2,.int .i64 v3,.string v4,.bool v5,.int .i64 v6] 38);have pZ2:=(AtL.below hb pZ1).alloc (.cells #[.int .i64 v1,.int .i64 v2,.int .i64 v3,.string v4,.bool v5,.int .i64 v6] 38);have pY2:=AtL.new0 w2 38 [.int .i64 v1,.int .i64 v2,.int .i64 v3,.string v4,.bool v5,.int .i64 v6];have hlt2:=(AtL.below hb pZ1).lt;clear hb h1 hB1 pZ1 hl hv LC M0;subst hr;have P:=zBB 1 kp [t] r en _ h2 rfl (by decide) hts;go_wp2_with fail
  refine (zA3 kp _).mono ?_;rintro e w3 ⟨rfl,rfl⟩;go_wp2_with fail
  refine P.mono ?_;rintro e w3 ⟨rfl,hp,hg⟩;have pZ3:=pZ2.grown hg (by intro e;have:=Option.some.inj e;omega);have pY3:=pY2.grown hg (by intro e;have:=Option.some.inj e;omega);have hG:=zAD (zAE hB2 (some kp)) hg;clear P h2 hB2 pZ2 pY2 hg;obtain ⟨y0,y1,y2,y3,y4,y5⟩:=pY3.f6;go_wp2_with fail
  refine (KC _).mono ?_;rintro e w4 ⟨rfl,hb⟩;have pZ4:=AtL.below hb pZ3;have hp4:=hp.below hb;have hG4:=zAD hG (zAE hb (some kp));have hth:World.there w4 w.heap.size 0 (zAJ (zBN ⟨v1,v2,v3,v4,v5,v6⟩) (.slice none 0 0)).toArray.size:=pZ4.there;clear pZ3 hp hG hb y0 y1 y2 y3 y4 y5 pY3;unfold ptV;go_wp2_with ((with_reducible refine wpList_store_mid ?_ 180 (.tmp 2) (.tmp 17) ?_ (w.heap.size) 0 (zAJ (zBN ⟨v1,v2,v3,v4,v5,v6⟩) (.slice none 0 0)).toArray ?_ ?_ ?_ ?_ ?_ ?_);rfl;rfl;rfl;rfl;exact hth;kernel_rfl;exact zAi _ _ rfl)
  have pZ5:AtL (w4.setCells w.heap.size 0 (zAJ (zBN ⟨v1,v2,v3,v4,v5,v6⟩) (.slice none 0 0))) w.heap.size (zAJ (zBN ⟨v1,v2,v3,v4,v5,v6⟩) (.slice none 0 0)):=pZ4.setAll rfl;refine bodyPost_ret (zAO rfl _ _ w.heap.size (zAJ (zBN ⟨v1,v2,v3,v4,v5,v6⟩) (.slice none 0 0)) _ rfl pZ5.range underlying180 rfl (by kernel_rfl)) rfl ?_;exact ⟨_,rfl,⟨1,_,_,rfl,PtIs.leaf _ _ _⟩,hp4.farAll hkp _ 0,zAN hG4 (Nat.le_refl _) _ 0⟩
def pcs (s:ByteArray) (ts:List Wlx.TV) (en:Int):PR:=match pc ts en with
 | .inr e=>.inr e
 | .inl (a,r)=>match tk r [58] with
  | none=>.inl ([⟨2,Wt.v0,0,⟨#[]⟩,0,⟨s,a.r,a.c,a.fr,a.fc⟩,Wt.r0⟩],r)
  | some r2=>match pc r2 en with
   | .inr e=>.inr e
   | .inl (b,r3)=>.inl ([⟨3,Wt.v0,0,⟨#[]⟩,0,⟨s,a.r,a.c,a.fr,a.fc⟩,b⟩],r3)
theorem zFe {a:Wt.Rf} (h:pc ts en=.inl (a,r)):r=ts.tail:=by
 unfold pc at h;split at h
 ·split at h
  ·cases h
  split at h
  ·cases h
  split at h
  ·simp only [Sum.inl.injEq,Prod.mk.injEq] at h;exact h.2.symm
  ·cases h
 ·cases h
theorem zKh {m:List UInt8} (h:tk ts m=some r):r=ts.tail:=by
 unfold tk at h;cases ts with
 | nil=>cases h
 | cons t q =>
  simp only at h;split at h
  ·exact (Option.some.inj h).symm
  ·cases h
theorem zGy {α:Type} {a:α} {l:List α} (h:a ∈ l.tail):a ∈ l:=List.mem_of_mem_tail h
theorem zBz (kp:Nat) (s:ByteArray) (ts:List Wlx.TV) (en:Int) (w:World) (h:PSt w kp ts en) (hts:ts.length<=1024) (hok:∀ t ∈ ts,zA5 t) (hE:Env w) (hk8:8<=kp):Calls prog 248 #[.pointer (some ⟨kp,0,none⟩),.string s] w λe w'=>zAQ kp en (pcs s ts en) w e w':=by
 have hB0:=zAH (Below.refl _ w) (.cells zP0 180);have pZ:AtL (w.alloc (.cells zP0 180)) w.heap.size (zAJ (bare 0) (.slice none 0 0)):=AtL.new0 w _ _;have h0:=h.below hB0;have hE0:=hE.below hB0;have hkp:=h.lt;have C:=λw h hE=>zGj kp ts en w h hts hok hE hk8
 unfold pcs;cases hpc:pc ts en with
 | inr q =>
  obtain ⟨c,p⟩:=q;simp only [zAQ];go_enter func248,ntmps248;go_wp2_with fail
  generalize w.alloc (.cells zP0 180)=wa at *;refine (C _ h0 hE0).mono ?_;rintro e w1 hc;rw [hpc] at hc;simp only [zE6] at hc;obtain ⟨rfl,hg⟩:=hc;unfold zB2;go_wp2;exact ⟨rfl,rfl,zAD (zAE hB0 (some kp)) hg⟩
 | inl q =>
  obtain ⟨⟨s0,ar,ac,afr,afc⟩,rest⟩:=q;have hrest:=zFe hpc;have hlr:rest.length<=1024:=by rw [hrest,List.length_tail];omega
  have hokr:∀ t ∈ rest,zA5 t:=λt ht=>hok t (zGy (by rw [<-hrest];exact ht))
  simp only;cases htk:tk rest [58] with
  | none =>
   simp only [zAQ];go_enter func248,ntmps248;go_wp2_with fail
   generalize w.alloc (.cells zP0 180)=wa at *;refine (C _ h0 hE0).mono ?_;rintro e w1 hc;rw [hpc] at hc;simp only [zE6] at hc;obtain ⟨rfl,h1,hg⟩:=hc;have pZ1:=pZ.grown hg (by intro e;have:=Option.some.inj e;omega);have hG1:=zAD (zAE hB0 (some kp)) hg;have hE1:=hE0.grown hg hk8;clear hg pZ h0 hB0 hE0 C;simp only [rfV,rf5];have pN0:AtL (w1.alloc (.cells zN0 102)) w1.heap.size (zAK (bare 0)):=AtL.new0 w1 _ _;have hthN:World.there (w1.alloc (.cells zN0 102)) w1.heap.size 0 (zAK ⟨2,Wt.v0,0,⟨#[]⟩,0,⟨s0,ar,ac,afr,afc⟩,Wt.r0⟩).toArray.size:=pN0.there;have hlt1:=pZ1.lt;have hk1:=h1.lt;go_upto_region 2 with ((with_reducible refine wpList_store_mid ?_ 102 (.tmp 5) (.tmp 8) ?_ (w1.heap.size) 0 (zAK ⟨2,Wt.v0,0,⟨#[]⟩,0,⟨s0,ar,ac,afr,afc⟩,Wt.r0⟩).toArray ?_ ?_ ?_ ?_ ?_ ?_);rfl;rfl;rfl;rfl;exact hthN;kernel_rfl;exact zCT _)
   have hbA:=zBJ (zAH (Below.refl _ w1) (.cells zN0 102)) (Nat.le_refl w1.heap.size) (zAK ⟨2,Wt.v0,0,⟨#[]⟩,0,⟨s0,ar,ac,afr,afc⟩,Wt.r0⟩) 0;have pN1:AtL ((w1.alloc (.cells zN0 102)).setCells w1.heap.size 0 (zAK ⟨2,Wt.v0,0,⟨#[]⟩,0,⟨s0,ar,ac,afr,afc⟩,Wt.r0⟩)) w1.heap.size (zAK ⟨2,Wt.v0,0,⟨#[]⟩,0,⟨s0,ar,ac,afr,afc⟩,Wt.r0⟩):=pN0.setAll rfl;have pZ2:=AtL.below hbA pZ1;have h2:=h1.below hbA;have hE2:=hE1.below hbA;have hG2:=zAD hG1 (zAE hbA (some kp));have hneN:w1.heap.size ≠ w.heap.size:=by omega
   have hnek:kp<w1.heap.size:=hk1;have hszw:w.heap.size<=w1.heap.size:=by omega
   clear pN0 hthN hbA pZ1 h1 hE1 hG1;generalize (w1.alloc (.cells zN0 102)).setCells w1.heap.size 0 (zAK ⟨2,Wt.v0,0,⟨#[]⟩,0,⟨s0,ar,ac,afr,afc⟩,Wt.r0⟩)=w2 at *;generalize w1.heap.size=kn at *;have n10:=pN1.2.1 10 _ rfl;have f10:=pN1.2.2 10 (by show 10<20;decide);have pN3:AtL (w2.setCell ⟨kn,10,none⟩ (.string s)) kn (zAK ⟨2,Wt.v0,0,⟨#[]⟩,0,⟨s,ar,ac,afr,afc⟩,Wt.r0⟩):=pN1.set 10 (.string s);have pZ3:=pZ2.far hneN 10 (.string s);have h3:=h2.far hnek 10 (.string s);have hG3:=zAS hG2 hszw 10 (.string s);have hE3:Env (w2.setCell ⟨kn,10,none⟩ (.string s)):=hE2.grown (zA0 w2 kn 10 (.string s)) (by omega);go_upto_region 3 with fail
   clear pN1 pZ2 h2 hG2 n10 f10 hE2;generalize w2.setCell ⟨kn,10,none⟩ (.string s)=w3 at *;have T:=zAk kp rest en [58] w3 h3 (by omega);rw [htk] at T;simp only at T;go_wp2_with fail
   refine T.mono ?_;rintro e w4 ⟨rfl,h4,hg4⟩;have pN4:=pN3.grown hg4 (by intro e;have:=Option.some.inj e;omega);have pZ4:=pZ3.grown hg4 (by intro e;have:=Option.some.inj e;omega);have hG4:=zAD hG3 hg4;have hE4:=hE3.grown hg4 hk8;clear pN3 pZ3 h3 hG3 hE3 T hg4;have rN:=pN4.range;have hth:World.there w4 w.heap.size 0 (zAJ ⟨2,Wt.v0,0,⟨#[]⟩,0,⟨s,ar,ac,afr,afc⟩,Wt.r0⟩ (.slice none 0 0)).toArray.size:=pZ4.there;go_wp2_with (first | ((with_reducible refine wpList_load_mid (cs:=[.int .i64 2,.int .i64 0,.int .i64 0,.int .i64 0,.string ⟨#[]⟩,.bool false,.int .i64 0,.int .i64 0,.string ⟨#[]⟩,.int .i64 0,.string s,.int .i64 ar,.int .i64 ac,.bool afr,.bool afc,.string ⟨#[]⟩,.int .i64 0,.int .i64 0,.bool false,.bool false]) ?_ 102 (.tmp 5) ?_ kn 0 ?_ _ ?_ underlying102 ?_ ?_ ?_);rfl;rfl;rfl;exact rN;rfl;kernel_rfl) | ((with_reducible refine wpList_store_mid ?_ 180 (.tmp 4) (.tmp 19) ?_ (w.heap.size) 0 (zAJ ⟨2,Wt.v0,0,⟨#[]⟩,0,⟨s,ar,ac,afr,afc⟩,Wt.r0⟩ (.slice none 0 0)).toArray ?_ ?_ ?_ ?_ ?_ ?_);rfl;rfl;rfl;rfl;exact hth;kernel_rfl;exact zAi _ _ rfl))
   have pZ9:AtL (World.setCells w4 w.heap.size 0 (zAJ ⟨2,Wt.v0,0,⟨#[]⟩,0,⟨s,ar,ac,afr,afc⟩,Wt.r0⟩ (.slice none 0 0))) w.heap.size (zAJ ⟨2,Wt.v0,0,⟨#[]⟩,0,⟨s,ar,ac,afr,afc⟩,Wt.r0⟩ (.slice none 0 0)):=pZ4.setAll rfl;refine bodyPost_ret (zAO rfl _ _ w.heap.size (zAJ ⟨2,Wt.v0,0,⟨#[]⟩,0,⟨s,ar,ac,afr,afc⟩,Wt.r0⟩ (.slice none 0 0)) _ rfl pZ9.range underlying180 rfl (by kernel_rfl)) rfl ?_;exact ⟨_,rfl,⟨1,_,_,rfl,PtIs.leaf _ _ _⟩,h4.farAll hkp _ 0,zAN hG4 (Nat.le_refl _) _ 0⟩
  | some r2 =>
   have hr2:=zKh htk;have C2:=λw h hE=>zGj kp r2 en w h (by rw [hr2,List.length_tail];omega) (λt ht=>hokr t (zGy (by rw [<-hr2];exact ht))) hE hk8
   simp only;cases hpc2:pc r2 en with
   | inr q =>
    obtain ⟨c,p⟩:=q;simp only [zAQ];go_enter func248,ntmps248;go_wp2_with fail
    generalize w.alloc (.cells zP0 180)=wa at *;refine (C _ h0 hE0).mono ?_;rintro e w1 hc;rw [hpc] at hc;simp only [zE6] at hc;obtain ⟨rfl,h1,hg⟩:=hc;have pZ1:=pZ.grown hg (by intro e;have:=Option.some.inj e;omega);have hG1:=zAD (zAE hB0 (some kp)) hg;have hE1:=hE0.grown hg hk8;clear hg pZ h0 hB0 hE0 C;simp only [rfV,rf5];have pN0:AtL (w1.alloc (.cells zN0 102)) w1.heap.size (zAK (bare 0)):=AtL.new0 w1 _ _;have hthN:World.there (w1.alloc (.cells zN0 102)) w1.heap.size 0 (zAK ⟨2,Wt.v0,0,⟨#[]⟩,0,⟨s0,ar,ac,afr,afc⟩,Wt.r0⟩).toArray.size:=pN0.there;have hlt1:=pZ1.lt;have hk1:=h1.lt;go_upto_region 2 with ((with_reducible refine wpList_store_mid ?_ 102 (.tmp 5) (.tmp 8) ?_ (w1.heap.size) 0 (zAK ⟨2,Wt.v0,0,⟨#[]⟩,0,⟨s0,ar,ac,afr,afc⟩,Wt.r0⟩).toArray ?_ ?_ ?_ ?_ ?_ ?_);rfl;rfl;rfl;rfl;exact hthN;kernel_rfl;exact zCT _)
    have hbA:=zBJ (zAH (Below.refl _ w1) (.cells zN0 102)) (Nat.le_refl w1.heap.size) (zAK ⟨2,Wt.v0,0,⟨#[]⟩,0,⟨s0,ar,ac,afr,afc⟩,Wt.r0⟩) 0;have pN1:AtL ((w1.alloc (.cells zN0 102)).setCells w1.heap.size 0 (zAK ⟨2,Wt.v0,0,⟨#[]⟩,0,⟨s0,ar,ac,afr,afc⟩,Wt.r0⟩)) w1.heap.size (zAK ⟨2,Wt.v0,0,⟨#[]⟩,0,⟨s0,ar,ac,afr,afc⟩,Wt.r0⟩):=pN0.setAll rfl;have pZ2:=AtL.below hbA pZ1;have h2:=h1.below hbA;have hE2:=hE1.below hbA;have hG2:=zAD hG1 (zAE hbA (some kp));have hneN:w1.heap.size ≠ w.heap.size:=by omega
    have hnek:kp<w1.heap.size:=hk1;have hszw:w.heap.size<=w1.heap.size:=by omega
    clear pN0 hthN hbA pZ1 h1 hE1 hG1;generalize (w1.alloc (.cells zN0 102)).setCells w1.heap.size 0 (zAK ⟨2,Wt.v0,0,⟨#[]⟩,0,⟨s0,ar,ac,afr,afc⟩,Wt.r0⟩)=w2 at *;generalize w1.heap.size=kn at *;have n10:=pN1.2.1 10 _ rfl;have f10:=pN1.2.2 10 (by show 10<20;decide);have pN3:AtL (w2.setCell ⟨kn,10,none⟩ (.string s)) kn (zAK ⟨2,Wt.v0,0,⟨#[]⟩,0,⟨s,ar,ac,afr,afc⟩,Wt.r0⟩):=pN1.set 10 (.string s);have pZ3:=pZ2.far hneN 10 (.string s);have h3:=h2.far hnek 10 (.string s);have hG3:=zAS hG2 hszw 10 (.string s);have hE3:Env (w2.setCell ⟨kn,10,none⟩ (.string s)):=hE2.grown (zA0 w2 kn 10 (.string s)) (by omega);go_upto_region 3 with fail
    clear pN1 pZ2 h2 hG2 n10 f10 hE2;generalize w2.setCell ⟨kn,10,none⟩ (.string s)=w3 at *;have T:=zAk kp rest en [58] w3 h3 (by omega);rw [htk] at T;simp only at T;go_wp2_with fail
    refine T.mono ?_;rintro e w4 ⟨rfl,h4,hg4⟩;have pN4:=pN3.grown hg4 (by intro e;have:=Option.some.inj e;omega);have pZ4:=pZ3.grown hg4 (by intro e;have:=Option.some.inj e;omega);have hG4:=zAD hG3 hg4;have hE4:=hE3.grown hg4 hk8;clear pN3 pZ3 h3 hG3 hE3 T hg4;go_wp2_with fail
    refine (C2 _ h4 hE4).mono ?_;rintro e w5 hc;rw [hpc2] at hc;simp only [zE6] at hc;obtain ⟨rfl,hg⟩:=hc;unfold zB2;go_wp2;exact ⟨rfl,rfl,zAD hG4 hg⟩
   | inl q =>
    obtain ⟨⟨bs,br,bc,bfr,bfc⟩,r3⟩:=q;simp only [zAQ];go_enter func248,ntmps248;go_wp2_with fail
    generalize w.alloc (.cells zP0 180)=wa at *;refine (C _ h0 hE0).mono ?_;rintro e w1 hc;rw [hpc] at hc;simp only [zE6] at hc;obtain ⟨rfl,h1,hg⟩:=hc;have pZ1:=pZ.grown hg (by intro e;have:=Option.some.inj e;omega);have hG1:=zAD (zAE hB0 (some kp)) hg;have hE1:=hE0.grown hg hk8;clear hg pZ h0 hB0 hE0 C;simp only [rfV,rf5];have pN0:AtL (w1.alloc (.cells zN0 102)) w1.heap.size (zAK (bare 0)):=AtL.new0 w1 _ _;have hthN:World.there (w1.alloc (.cells zN0 102)) w1.heap.size 0 (zAK ⟨2,Wt.v0,0,⟨#[]⟩,0,⟨s0,ar,ac,afr,afc⟩,Wt.r0⟩).toArray.size:=pN0.there;have hlt1:=pZ1.lt;have hk1:=h1.lt;go_upto_region 2 with ((with_reducible refine wpList_store_mid ?_ 102 (.tmp 5) (.tmp 8) ?_ (w1.heap.size) 0 (zAK ⟨2,Wt.v0,0,⟨#[]⟩,0,⟨s0,ar,ac,afr,afc⟩,Wt.r0⟩).toArray ?_ ?_ ?_ ?_ ?_ ?_);rfl;rfl;rfl;rfl;exact hthN;kernel_rfl;exact zCT _)
    have hbA:=zBJ (zAH (Below.refl _ w1) (.cells zN0 102)) (Nat.le_refl w1.heap.size) (zAK ⟨2,Wt.v0,0,⟨#[]⟩,0,⟨s0,ar,ac,afr,afc⟩,Wt.r0⟩) 0;have pN1:AtL ((w1.alloc (.cells zN0 102)).setCells w1.heap.size 0 (zAK ⟨2,Wt.v0,0,⟨#[]⟩,0,⟨s0,ar,ac,afr,afc⟩,Wt.r0⟩)) w1.heap.size (zAK ⟨2,Wt.v0,0,⟨#[]⟩,0,⟨s0,ar,ac,afr,afc⟩,Wt.r0⟩):=pN0.setAll rfl;have pZ2:=AtL.below hbA pZ1;have h2:=h1.below hbA;have hE2:=hE1.below hbA;have hG2:=zAD hG1 (zAE hbA (some kp));have hneN:w1.heap.size ≠ w.heap.size:=by omega
    have hnek:kp<w1.heap.size:=hk1;have hszw:w.heap.size<=w1.heap.size:=by omega
    clear pN0 hthN hbA pZ1 h1 hE1 hG1;generalize (w1.alloc (.cells zN0 102)).setCells w1.heap.size 0 (zAK ⟨2,Wt.v0,0,⟨#[]⟩,0,⟨s0,ar,ac,afr,afc⟩,Wt.r0⟩)=w2 at *;generalize w1.heap.size=kn at *;have n10:=pN1.2.1 10 _ rfl;have f10:=pN1.2.2 10 (by show 10<20;decide);have pN3:AtL (w2.setCell ⟨kn,10,none⟩ (.string s)) kn (zAK ⟨2,Wt.v0,0,⟨#[]⟩,0,⟨s,ar,ac,afr,afc⟩,Wt.r0⟩):=pN1.set 10 (.string s);have pZ3:=pZ2.far hneN 10 (.string s);have h3:=h2.far hnek 10 (.string s);have hG3:=zAS hG2 hszw 10 (.string s);have hE3:Env (w2.setCell ⟨kn,10,none⟩ (.string s)):=hE2.grown (zA0 w2 kn 10 (.string s)) (by omega);go_upto_region 3 with fail
    clear pN1 pZ2 h2 hG2 n10 f10 hE2;generalize w2.setCell ⟨kn,10,none⟩ (.string s)=w3 at *;have T:=zAk kp rest en [58] w3 h3 (by omega);rw [htk] at T;simp only at T;go_wp2_with fail
    refine T.mono ?_;rintro e w4 ⟨rfl,h4,hg4⟩;have pN4:=pN3.grown hg4 (by intro e;have:=Option.some.inj e;omega);have pZ4:=pZ3.grown hg4 (by intro e;have:=Option.some.inj e;omega);have hG4:=zAD hG3 hg4;have hE4:=hE3.grown hg4 hk8;clear pN3 pZ3 h3 hG3 hE3 T hg4;go_wp2_with fail
    refine (C2 _ h4 hE4).mono ?_;rintro e w5 hc;rw [hpc2] at hc;simp only [zE6] at hc;obtain ⟨rfl,h5,hg⟩:=hc;have pN5:=pN4.grown hg (by intro e;have:=Option.some.inj e;omega);have pZ5:=pZ4.grown hg (by intro e;have:=Option.some.inj e;omega);have hG5:=zAD hG4 hg;clear pN4 pZ4 h4 hG4 hE4 hg C2;simp only [rfV,rf5];have n0:=pN5.2.1 0 _ rfl;have n15:=pN5.2.1 15 _ rfl;have n16:=pN5.2.1 16 _ rfl;have n17:=pN5.2.1 17 _ rfl;have n18:=pN5.2.1 18 _ rfl;have n19:=pN5.2.1 19 _ rfl;have f0:=pN5.2.2 0 (by show 0<20;decide);have f15:=pN5.2.2 15 (by show 15<20;decide);have f16:=pN5.2.2 16 (by show 16<20;decide);have f17:=pN5.2.2 17 (by show 17<20;decide);have f18:=pN5.2.2 18 (by show 18<20;decide);have f19:=pN5.2.2 19 (by show 19<20;decide);have pN6:AtL ((((((w5.setCell ⟨kn,0,none⟩ (.int .i64 3)).setCell ⟨kn,15,none⟩ (.string bs)).setCell ⟨kn,16,none⟩ (.int .i64 br)).setCell ⟨kn,17,none⟩ (.int .i64 bc)).setCell ⟨kn,18,none⟩ (.bool bfr)).setCell ⟨kn,19,none⟩ (.bool bfc)) kn (zAK ⟨3,Wt.v0,0,⟨#[]⟩,0,⟨s,ar,ac,afr,afc⟩,⟨bs,br,bc,bfr,bfc⟩⟩):=(((((pN5.set 0 _).set 15 _).set 16 _).set 17 _).set 18 _).set 19 _;have pZ6:=(((((pZ5.far hneN 0 (.int .i64 3)).far hneN 15 (.string bs)).far hneN 16 (.int .i64 br)).far hneN 17 (.int .i64 bc)).far hneN 18 (.bool bfr)).far hneN 19 (.bool bfc);have h6:=(((((h5.far hnek 0 (.int .i64 3)).far hnek 15 (.string bs)).far hnek 16 (.int .i64 br)).far hnek 17 (.int .i64 bc)).far hnek 18 (.bool bfr)).far hnek 19 (.bool bfc)
    have hG6:=zAS (zAS (zAS (zAS (zAS (zAS hG5 hszw 0 (.int .i64 3)) hszw 15 (.string bs)) hszw 16 (.int .i64 br)) hszw 17 (.int .i64 bc)) hszw 18 (.bool bfr)) hszw 19 (.bool bfc);go_upto_region 5 with fail
    clear pN5 pZ5 h5 hG5 n0 n15 n16 n17 n18 n19 f0 f15 f16 f17 f18 f19;generalize (((((w5.setCell ⟨kn,0,none⟩ (.int .i64 3)).setCell ⟨kn,15,none⟩ (.string bs)).setCell ⟨kn,16,none⟩ (.int .i64 br)).setCell ⟨kn,17,none⟩ (.int .i64 bc)).setCell ⟨kn,18,none⟩ (.bool bfr)).setCell ⟨kn,19,none⟩ (.bool bfc)=w6 at *;have rN:=pN6.range;have hth:World.there w6 w.heap.size 0 (zAJ ⟨3,Wt.v0,0,⟨#[]⟩,0,⟨s,ar,ac,afr,afc⟩,⟨bs,br,bc,bfr,bfc⟩⟩ (.slice none 0 0)).toArray.size:=pZ6.there;go_wp2_with (first | ((with_reducible refine wpList_load_mid (cs:=[.int .i64 3,.int .i64 0,.int .i64 0,.int .i64 0,.string ⟨#[]⟩,.bool false,.int .i64 0,.int .i64 0,.string ⟨#[]⟩,.int .i64 0,.string s,.int .i64 ar,.int .i64 ac,.bool afr,.bool afc,.string bs,.int .i64 br,.int .i64 bc,.bool bfr,.bool bfc]) ?_ 102 (.tmp 5) ?_ kn 0 ?_ _ ?_ underlying102 ?_ ?_ ?_);rfl;rfl;rfl;exact rN;rfl;kernel_rfl) | ((with_reducible refine wpList_store_mid ?_ 180 (.tmp 4) (.tmp 19) ?_ (w.heap.size) 0 (zAJ ⟨3,Wt.v0,0,⟨#[]⟩,0,⟨s,ar,ac,afr,afc⟩,⟨bs,br,bc,bfr,bfc⟩⟩ (.slice none 0 0)).toArray ?_ ?_ ?_ ?_ ?_ ?_);rfl;rfl;rfl;rfl;exact hth;kernel_rfl;exact zAi _ _ rfl))
    have pZ9:AtL (World.setCells w6 w.heap.size 0 (zAJ ⟨3,Wt.v0,0,⟨#[]⟩,0,⟨s,ar,ac,afr,afc⟩,⟨bs,br,bc,bfr,bfc⟩⟩ (.slice none 0 0))) w.heap.size (zAJ ⟨3,Wt.v0,0,⟨#[]⟩,0,⟨s,ar,ac,afr,afc⟩,⟨bs,br,bc,bfr,bfc⟩⟩ (.slice none 0 0)):=pZ6.setAll rfl;refine bodyPost_ret (zAO rfl _ _ w.heap.size (zAJ ⟨3,Wt.v0,0,⟨#[]⟩,0,⟨s,ar,ac,afr,afc⟩,⟨bs,br,bc,bfr,bfc⟩⟩ (.slice none 0 0)) _ rfl pZ9.range underlying180 rfl (by kernel_rfl)) rfl ?_;exact ⟨_,rfl,⟨1,_,_,rfl,PtIs.leaf _ _ _⟩,h6.farAll hkp _ 0,zAN hG6 (Nat.le_refl _) _ 0⟩
