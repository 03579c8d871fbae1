/- TLitP, TCells, TParse. -/
import Derived.Test.YtdghjlmnlodnlaaGreatDoorQ13
set_option maxHeartbeats 8000000
set_option maxRecDepth 100000
namespace Go.Proofs.YtdghjlmnlodnlaaGreatDoor
open Tryz
open Go.RowKit Go.Shelf
set_option linter.unusedVariables false
variable {ts r:List Wlx.TV} {en:Int} {w:World} {a:Wt.Rf} {m:List UInt8} {row:List Wt.Nd}
abbrev PR:Type:=(List Wt.Nd × List Wlx.TV) ⊕ (Int × Int)
def zAN (kp:Nat) (en:Int) (r:PR) (w:World) (e:Ending) (w':World):Prop:=match r with
 | .inl (row,rest)=>∃ v,e=.returned v/\Pt w' w.heap.size v row/\PSt w' kp rest en/\w.grownBy w' (some kp)
 | .inr (c,p)=>e=zBj c p/\w.grownBy w' (some kp)
theorem PSt.farAll {kp:Nat} (h:PSt w kp ts en) {b:Nat} (hb:kp<b):∀ (vs:List Value) (o:Nat),PSt (w.setCells b o vs) kp ts en:=by
 intro vs;induction vs generalizing w with
 | nil=>intro o;exact h
 | cons v r ih=>intro o;rw [World.setCells];exact ih (h.far hb o v) (o+1)
theorem zAJ {W:World} {row:Option Nat} (h:w.grownBy W row) {b:Nat} (hb:w.heap.size<=b):∀ (vs:List Value) (o:Nat),w.grownBy (W.setCells b o vs) row:=by
 intro vs;induction vs generalizing W with
 | nil=>intro o;exact h
 | cons v r ih=>intro o;rw [World.setCells];exact ih (zAS h hb o v) (o+1)
def pl (ts:List Wlx.TV) (en:Int):PR:=match zJt (hd ts en) with
 | some v=>.inl ([zAj v],ts.tail)
 | none=>.inr (50,pos ts en)
theorem zFS {v:Wt.Vl} (h:zJt (hd ts en)=some v):∃ r,ts=hd ts en::r:=by
 cases ts with
 | nil=>exact absurd h (by simp [zJt,hd])
 | cons t r=>exact ⟨r,rfl⟩
theorem zCf (en:Int) (h:∀ t ∈ ts,zAP t):zAP (hd ts en):=by
 cases ts with
 | nil=>exact ⟨by show 0<=1024;omega,λh=>absurd h (by show ¬ (0:Int)=4;decide)⟩
 | cons t r=>exact h t (by simp)
theorem zDa (kp:Nat) (ts:List Wlx.TV) (en:Int) (w:World) (h:PSt w kp ts en) (hts:ts.length<=1024) (hok:∀ t ∈ ts,zAP t) (hE:Env w) (hk8:8<=kp):Calls prog 179 #[.pointer (some ⟨kp,0,none⟩)] w λe w'=>zAN kp en (pl ts en) w e w':=by
 have hB0:=zAI (Below.refl _ w) (.cells zP0 78);have pZ:AtL (w.alloc (.cells zP0 78)) w.heap.size (zAH (bare 0) (.slice none 0 0)):=AtL.new0 w _ _;have h0:=h.below hB0;have hE0:=hE.below hB0;have N:=λw h=>zBO kp ts en w h
 have LV:=λw h=>zM7 (hd ts en) w h (zCf en hok)
 have M0:=λw h=>zAn kp ts en w h
 have LC:=λv=>@zFS ts en v
 unfold pl;unfold pos at M0 ⊢;obtain ⟨t,ht⟩:∃ t,hd ts en=t:=⟨_,rfl⟩
 rw [ht] at N M0 LV LC ⊢;clear ht;cases hl:zJt t with
 | none =>
  simp only;unfold zBj at M0;go_enter func179,ntmps179;go_wp2_with fail
  generalize w.alloc (.cells zP0 78)=wa at *;refine (N _ h0).mono ?_;rintro e w1 ⟨rfl,hb⟩;have h1:=h0.below hb;have hB1:=zAA hB0 hb;have hE1:=hE0.below hb;clear hb h0 hB0 hE0;go_wp2_with fail
  refine (LV _ hE1.2.1).mono ?_;rintro e w2 ⟨⟨v,ok,rfl,hv⟩,hb⟩;rw [hl] at hv;have hk:ok=false:=by
   cases ok with
   | false=>rfl
   | true=>exact absurd hv (by simp)
  subst hk;obtain ⟨v1,v2,v3,v4,v5,v6⟩:=v;simp only [vlV,vl6];have h2:=(h1.below hb).below (zAI (Below.refl _ w2) (.cells #[.int .i64 v1,.int .i64 v2,.int .i64 v3,.string v4,.bool v5,.int .i64 v6] 26));have hB2:=zAI (zAA hB1 hb) (.cells #[.int .i64 v1,.int .i64 v2,.int .i64 v3,.string v4,.bool v5,.int .i64 v6] 26);clear hb h1 hB1;go_wp2_with fail
  refine (M0 _ h2).mono ?_;rintro e w3 ⟨rfl,hb⟩;have hB3:=zAA hB2 hb;go_wp2;exact ⟨rfl,rfl,zAC hB3 _⟩
 | some v =>
  simp only;obtain ⟨r,hr⟩:=LC v hl;have hkp:=h.lt;have KC:=λw=>zDq v w
  go_enter func179,ntmps179;go_wp2_with fail
  generalize w.alloc (.cells zP0 78)=wa at *;refine (N _ h0).mono ?_;rintro e w1 ⟨rfl,hb⟩;have h1:=h0.below hb;have hB1:=zAA hB0 hb;have hE1:=hE0.below hb;have pZ1:=AtL.below hb pZ;clear hb h0 hB0 hE0 pZ;go_wp2_with fail
  refine (LV _ hE1.2.1).mono ?_;rintro e w2 ⟨⟨v',ok,rfl,hv⟩,hb⟩;rw [hl] at hv;have hk:ok=true/\v=v':=by
   cases ok with
   | false=>exact absurd hv (by simp)
   | true=>exact ⟨rfl,by simpa using hv⟩
  obtain ⟨rfl,rfl⟩:=hk;obtain ⟨v1,v2,v3,v4,v5,v6⟩:=v;simp only [vlV,vl6] at KC ⊢;have h2:=(h1.below hb).below (zAI (Below.refl _ w2) (.cells #[.int .i64 v1,.int .i64 v2,.int .i64 v3,.string v4,.bool v5,.int .i64 v6] 26));have hB2:=zAI (zAA hB1 hb) (.cells #[.int .i64 v1,.int .i64 v2,.int .i64 v3,.string v4,.bool v5,.int .i64 v6] 26);have pZ2:=(AtL.below hb pZ1).alloc (.cells #[.int .i64 v1,.int .i64 v2,.int .i64 v3,.string v4,.bool v5,.int .i64 v6] 26);have pY2:=AtL.new0 w2 26 [.int .i64 v1,.int .i64 v2,.int .i64 v3,.string v4,.bool v5,.int .i64 v6];have hlt2:=(AtL.below hb pZ1).lt;clear hb h1 hB1 pZ1 hl hv LC M0;subst hr;have P:=zBB 1 kp [t] r en _ h2 rfl (by decide) hts;go_wp2_with fail
  refine (zA6 kp _).mono ?_;rintro e w3 ⟨rfl,rfl⟩;go_wp2_with fail
  refine P.mono ?_;rintro e w3 ⟨rfl,hp,hg⟩;have pZ3:=pZ2.grown hg (by intro e;have:=Option.some.inj e;omega);have pY3:=pY2.grown hg (by intro e;have:=Option.some.inj e;omega);have hG:=zAB (zAC hB2 (some kp)) hg;clear P h2 hB2 pZ2 pY2 hg;obtain ⟨y0,y1,y2,y3,y4,y5⟩:=pY3.f6;go_wp2_with fail
  refine (KC _).mono ?_;rintro e w4 ⟨rfl,hb⟩;have pZ4:=AtL.below hb pZ3;have hp4:=hp.below hb;have hG4:=zAB hG (zAC hb (some kp));have hth:World.there w4 w.heap.size 0 (zAH (zAj ⟨v1,v2,v3,v4,v5,v6⟩) (.slice none 0 0)).toArray.size:=pZ4.there;clear pZ3 hp hG hb y0 y1 y2 y3 y4 y5 pY3;unfold ptV;go_wp2_with ((with_reducible refine wpList_store_mid ?_ 78 (.tmp 2) (.tmp 17) ?_ (w.heap.size) 0 (zAH (zAj ⟨v1,v2,v3,v4,v5,v6⟩) (.slice none 0 0)).toArray ?_ ?_ ?_ ?_ ?_ ?_);rfl;rfl;rfl;rfl;exact hth;kernel_rfl;exact zAr _ _ rfl)
  have pZ5:AtL (w4.setCells w.heap.size 0 (zAH (zAj ⟨v1,v2,v3,v4,v5,v6⟩) (.slice none 0 0))) w.heap.size (zAH (zAj ⟨v1,v2,v3,v4,v5,v6⟩) (.slice none 0 0)):=pZ4.setAll rfl;refine bodyPost_ret (zAF rfl _ _ w.heap.size (zAH (zAj ⟨v1,v2,v3,v4,v5,v6⟩) (.slice none 0 0)) _ rfl pZ5.range underlying78 rfl (by kernel_rfl)) rfl ?_;exact ⟨_,rfl,⟨1,_,_,rfl,PtIs.leaf _ _ _⟩,hp4.farAll hkp _ 0,zAJ hG4 (Nat.le_refl _) _ 0⟩
def pcs (s:ByteArray) (ts:List Wlx.TV) (en:Int):PR:=match pc ts en with
 | .inr e=>.inr e
 | .inl (a,r)=>match tk r [58] with
  | none=>.inl ([⟨2,Wt.v0,0,⟨#[]⟩,0,⟨s,a.r,a.c,a.fr,a.fc⟩,Wt.r0⟩],r)
  | some r2=>match pc r2 en with
   | .inr e=>.inr e
   | .inl (b,r3)=>.inl ([⟨3,Wt.v0,0,⟨#[]⟩,0,⟨s,a.r,a.c,a.fr,a.fc⟩,b⟩],r3)
theorem zG0 (h:pc ts en=.inl (a,r)):r=ts.tail:=by
 unfold pc at h;split at h
 ·split at h
  ·cases h
  split at h
  ·cases h
  split at h
  ·simp only [Sum.inl.injEq,Prod.mk.injEq] at h;exact h.2.symm
  ·cases h
 ·cases h
theorem zJz (h:tk ts m=some r):r=ts.tail:=by
 unfold tk at h;cases ts with
 | nil=>cases h
 | cons t q =>
  simp only at h;split at h
  ·exact (Option.some.inj h).symm
  ·cases h
theorem zHH {α:Type} {a:α} {l:List α} (h:a ∈ l.tail):a ∈ l:=List.mem_of_mem_tail h
theorem zC5 (kp:Nat) (s:ByteArray) (ts:List Wlx.TV) (en:Int) (w:World) (h:PSt w kp ts en) (hts:ts.length<=1024) (hok:∀ t ∈ ts,zAP t) (hE:Env w) (hk8:8<=kp):Calls prog 195 #[.pointer (some ⟨kp,0,none⟩),.string s] w λe w'=>zAN kp en (pcs s ts en) w e w':=by
 have hB0:=zAI (Below.refl _ w) (.cells zP0 78);have pZ:AtL (w.alloc (.cells zP0 78)) w.heap.size (zAH (bare 0) (.slice none 0 0)):=AtL.new0 w _ _;have h0:=h.below hB0;have hE0:=hE.below hB0;have hkp:=h.lt;have C:=λw h hE=>zHS kp ts en w h hts hok hE hk8
 unfold pcs;cases hpc:pc ts en with
 | inr q =>
  obtain ⟨c,p⟩:=q;simp only [zAN];go_enter func195,ntmps195;go_wp2_with fail
  generalize w.alloc (.cells zP0 78)=wa at *;refine (C _ h0 hE0).mono ?_;rintro e w1 hc;rw [hpc] at hc;simp only [zFw] at hc;obtain ⟨rfl,hg⟩:=hc;unfold zBj;go_wp2;exact ⟨rfl,rfl,zAB (zAC hB0 (some kp)) hg⟩
 | inl q =>
  obtain ⟨⟨s0,ar,ac,afr,afc⟩,rest⟩:=q;have hrest:=zG0 hpc;have hlr:rest.length<=1024:=by rw [hrest,List.length_tail];omega
  have hokr:∀ t ∈ rest,zAP t:=λt ht=>hok t (zHH (by rw [<-hrest];exact ht))
  simp only;cases htk:tk rest [58] with
  | none =>
   simp only [zAN];go_enter func195,ntmps195;go_wp2_with fail
   generalize w.alloc (.cells zP0 78)=wa at *;refine (C _ h0 hE0).mono ?_;rintro e w1 hc;rw [hpc] at hc;simp only [zFw] at hc;obtain ⟨rfl,h1,hg⟩:=hc;have pZ1:=pZ.grown hg (by intro e;have:=Option.some.inj e;omega);have hG1:=zAB (zAC hB0 (some kp)) hg;have hE1:=hE0.grown hg hk8;clear hg pZ h0 hB0 hE0 C;simp only [rfV,rf5];have pN0:AtL (w1.alloc (.cells zN0 30)) w1.heap.size (zAD (bare 0)):=AtL.new0 w1 _ _;have hthN:World.there (w1.alloc (.cells zN0 30)) w1.heap.size 0 (zAD ⟨2,Wt.v0,0,⟨#[]⟩,0,⟨s0,ar,ac,afr,afc⟩,Wt.r0⟩).toArray.size:=pN0.there;have hlt1:=pZ1.lt;have hk1:=h1.lt;go_upto_region 2 with ((with_reducible refine wpList_store_mid ?_ 30 (.tmp 5) (.tmp 8) ?_ (w1.heap.size) 0 (zAD ⟨2,Wt.v0,0,⟨#[]⟩,0,⟨s0,ar,ac,afr,afc⟩,Wt.r0⟩).toArray ?_ ?_ ?_ ?_ ?_ ?_);rfl;rfl;rfl;rfl;exact hthN;kernel_rfl;exact zAc _)
   have hbA:=zAu (zAI (Below.refl _ w1) (.cells zN0 30)) (Nat.le_refl w1.heap.size) (zAD ⟨2,Wt.v0,0,⟨#[]⟩,0,⟨s0,ar,ac,afr,afc⟩,Wt.r0⟩) 0;have pN1:AtL ((w1.alloc (.cells zN0 30)).setCells w1.heap.size 0 (zAD ⟨2,Wt.v0,0,⟨#[]⟩,0,⟨s0,ar,ac,afr,afc⟩,Wt.r0⟩)) w1.heap.size (zAD ⟨2,Wt.v0,0,⟨#[]⟩,0,⟨s0,ar,ac,afr,afc⟩,Wt.r0⟩):=pN0.setAll rfl;have pZ2:=AtL.below hbA pZ1;have h2:=h1.below hbA;have hE2:=hE1.below hbA;have hG2:=zAB hG1 (zAC hbA (some kp));have hneN:w1.heap.size ≠ w.heap.size:=by omega
   have hnek:kp<w1.heap.size:=hk1;have hszw:w.heap.size<=w1.heap.size:=by omega
   clear pN0 hthN hbA pZ1 h1 hE1 hG1;generalize (w1.alloc (.cells zN0 30)).setCells w1.heap.size 0 (zAD ⟨2,Wt.v0,0,⟨#[]⟩,0,⟨s0,ar,ac,afr,afc⟩,Wt.r0⟩)=w2 at *;generalize w1.heap.size=kn at *;have n10:=pN1.2.1 10 _ rfl;have f10:=pN1.2.2 10 (by show 10<20;decide);have pN3:AtL (w2.setCell ⟨kn,10,none⟩ (.string s)) kn (zAD ⟨2,Wt.v0,0,⟨#[]⟩,0,⟨s,ar,ac,afr,afc⟩,Wt.r0⟩):=pN1.set 10 (.string s);have pZ3:=pZ2.far hneN 10 (.string s);have h3:=h2.far hnek 10 (.string s);have hG3:=zAS hG2 hszw 10 (.string s);have hE3:Env (w2.setCell ⟨kn,10,none⟩ (.string s)):=hE2.grown (zAQ w2 kn 10 (.string s)) (by omega);go_upto_region 3 with fail
   clear pN1 pZ2 h2 hG2 n10 f10 hE2;generalize w2.setCell ⟨kn,10,none⟩ (.string s)=w3 at *;have T:=zAv kp rest en [58] w3 h3 (by omega);rw [htk] at T;simp only at T;go_wp2_with fail
   refine T.mono ?_;rintro e w4 ⟨rfl,h4,hg4⟩;have pN4:=pN3.grown hg4 (by intro e;have:=Option.some.inj e;omega);have pZ4:=pZ3.grown hg4 (by intro e;have:=Option.some.inj e;omega);have hG4:=zAB hG3 hg4;have hE4:=hE3.grown hg4 hk8;clear pN3 pZ3 h3 hG3 hE3 T hg4;have rN:=pN4.range;have hth:World.there w4 w.heap.size 0 (zAH ⟨2,Wt.v0,0,⟨#[]⟩,0,⟨s,ar,ac,afr,afc⟩,Wt.r0⟩ (.slice none 0 0)).toArray.size:=pZ4.there;go_wp2_with (first | ((with_reducible refine wpList_load_mid (cs:=[.int .i64 2,.int .i64 0,.int .i64 0,.int .i64 0,.string ⟨#[]⟩,.bool false,.int .i64 0,.int .i64 0,.string ⟨#[]⟩,.int .i64 0,.string s,.int .i64 ar,.int .i64 ac,.bool afr,.bool afc,.string ⟨#[]⟩,.int .i64 0,.int .i64 0,.bool false,.bool false]) ?_ 30 (.tmp 5) ?_ kn 0 ?_ _ ?_ underlying30 ?_ ?_ ?_);rfl;rfl;rfl;exact rN;rfl;kernel_rfl) | ((with_reducible refine wpList_store_mid ?_ 78 (.tmp 4) (.tmp 19) ?_ (w.heap.size) 0 (zAH ⟨2,Wt.v0,0,⟨#[]⟩,0,⟨s,ar,ac,afr,afc⟩,Wt.r0⟩ (.slice none 0 0)).toArray ?_ ?_ ?_ ?_ ?_ ?_);rfl;rfl;rfl;rfl;exact hth;kernel_rfl;exact zAr _ _ rfl))
   have pZ9:AtL (World.setCells w4 w.heap.size 0 (zAH ⟨2,Wt.v0,0,⟨#[]⟩,0,⟨s,ar,ac,afr,afc⟩,Wt.r0⟩ (.slice none 0 0))) w.heap.size (zAH ⟨2,Wt.v0,0,⟨#[]⟩,0,⟨s,ar,ac,afr,afc⟩,Wt.r0⟩ (.slice none 0 0)):=pZ4.setAll rfl;refine bodyPost_ret (zAF rfl _ _ w.heap.size (zAH ⟨2,Wt.v0,0,⟨#[]⟩,0,⟨s,ar,ac,afr,afc⟩,Wt.r0⟩ (.slice none 0 0)) _ rfl pZ9.range underlying78 rfl (by kernel_rfl)) rfl ?_;exact ⟨_,rfl,⟨1,_,_,rfl,PtIs.leaf _ _ _⟩,h4.farAll hkp _ 0,zAJ hG4 (Nat.le_refl _) _ 0⟩
  | some r2 =>
   have hr2:=zJz htk;have C2:=λw h hE=>zHS kp r2 en w h (by rw [hr2,List.length_tail];omega) (λt ht=>hokr t (zHH (by rw [<-hr2];exact ht))) hE hk8
   simp only;cases hpc2:pc r2 en with
   | inr q =>
    obtain ⟨c,p⟩:=q;simp only [zAN];go_enter func195,ntmps195;go_wp2_with fail
    generalize w.alloc (.cells zP0 78)=wa at *;refine (C _ h0 hE0).mono ?_;rintro e w1 hc;rw [hpc] at hc;simp only [zFw] at hc;obtain ⟨rfl,h1,hg⟩:=hc;have pZ1:=pZ.grown hg (by intro e;have:=Option.some.inj e;omega);have hG1:=zAB (zAC hB0 (some kp)) hg;have hE1:=hE0.grown hg hk8;clear hg pZ h0 hB0 hE0 C;simp only [rfV,rf5];have pN0:AtL (w1.alloc (.cells zN0 30)) w1.heap.size (zAD (bare 0)):=AtL.new0 w1 _ _;have hthN:World.there (w1.alloc (.cells zN0 30)) w1.heap.size 0 (zAD ⟨2,Wt.v0,0,⟨#[]⟩,0,⟨s0,ar,ac,afr,afc⟩,Wt.r0⟩).toArray.size:=pN0.there;have hlt1:=pZ1.lt;have hk1:=h1.lt;go_upto_region 2 with ((with_reducible refine wpList_store_mid ?_ 30 (.tmp 5) (.tmp 8) ?_ (w1.heap.size) 0 (zAD ⟨2,Wt.v0,0,⟨#[]⟩,0,⟨s0,ar,ac,afr,afc⟩,Wt.r0⟩).toArray ?_ ?_ ?_ ?_ ?_ ?_);rfl;rfl;rfl;rfl;exact hthN;kernel_rfl;exact zAc _)
    have hbA:=zAu (zAI (Below.refl _ w1) (.cells zN0 30)) (Nat.le_refl w1.heap.size) (zAD ⟨2,Wt.v0,0,⟨#[]⟩,0,⟨s0,ar,ac,afr,afc⟩,Wt.r0⟩) 0;have pN1:AtL ((w1.alloc (.cells zN0 30)).setCells w1.heap.size 0 (zAD ⟨2,Wt.v0,0,⟨#[]⟩,0,⟨s0,ar,ac,afr,afc⟩,Wt.r0⟩)) w1.heap.size (zAD ⟨2,Wt.v0,0,⟨#[]⟩,0,⟨s0,ar,ac,afr,afc⟩,Wt.r0⟩):=pN0.setAll rfl;have pZ2:=AtL.below hbA pZ1;have h2:=h1.below hbA;have hE2:=hE1.below hbA;have hG2:=zAB hG1 (zAC hbA (some kp));have hneN:w1.heap.size ≠ w.heap.size:=by omega
    have hnek:kp<w1.heap.size:=hk1;have hszw:w.heap.size<=w1.heap.size:=by omega
    clear pN0 hthN hbA pZ1 h1 hE1 hG1;generalize (w1.alloc (.cells zN0 30)).setCells w1.heap.size 0 (zAD ⟨2,Wt.v0,0,⟨#[]⟩,0,⟨s0,ar,ac,afr,afc⟩,Wt.r0⟩)=w2 at *;generalize w1.heap.size=kn at *;have n10:=pN1.2.1 10 _ rfl;have f10:=pN1.2.2 10 (by show 10<20;decide);have pN3:AtL (w2.setCell ⟨kn,10,none⟩ (.string s)) kn (zAD ⟨2,Wt.v0,0,⟨#[]⟩,0,⟨s,ar,ac,afr,afc⟩,Wt.r0⟩):=pN1.set 10 (.string s);have pZ3:=pZ2.far hneN 10 (.string s);have h3:=h2.far hnek 10 (.string s);have hG3:=zAS hG2 hszw 10 (.string s);have hE3:Env (w2.setCell ⟨kn,10,none⟩ (.string s)):=hE2.grown (zAQ w2 kn 10 (.string s)) (by omega);go_upto_region 3 with fail
    clear pN1 pZ2 h2 hG2 n10 f10 hE2;generalize w2.setCell ⟨kn,10,none⟩ (.string s)=w3 at *;have T:=zAv kp rest en [58] w3 h3 (by omega);rw [htk] at T;simp only at T;go_wp2_with fail
    refine T.mono ?_;rintro e w4 ⟨rfl,h4,hg4⟩;have pN4:=pN3.grown hg4 (by intro e;have:=Option.some.inj e;omega);have pZ4:=pZ3.grown hg4 (by intro e;have:=Option.some.inj e;omega);have hG4:=zAB hG3 hg4;have hE4:=hE3.grown hg4 hk8;clear pN3 pZ3 h3 hG3 hE3 T hg4;go_wp2_with fail
    refine (C2 _ h4 hE4).mono ?_;rintro e w5 hc;rw [hpc2] at hc;simp only [zFw] at hc;obtain ⟨rfl,hg⟩:=hc;unfold zBj;go_wp2;exact ⟨rfl,rfl,zAB hG4 hg⟩
   | inl q =>
    obtain ⟨⟨bs,br,bc,bfr,bfc⟩,r3⟩:=q;simp only [zAN];go_enter func195,ntmps195;go_wp2_with fail
    generalize w.alloc (.cells zP0 78)=wa at *;refine (C _ h0 hE0).mono ?_;rintro e w1 hc;rw [hpc] at hc;simp only [zFw] at hc;obtain ⟨rfl,h1,hg⟩:=hc;have pZ1:=pZ.grown hg (by intro e;have:=Option.some.inj e;omega);have hG1:=zAB (zAC hB0 (some kp)) hg;have hE1:=hE0.grown hg hk8;clear hg pZ h0 hB0 hE0 C;simp only [rfV,rf5];have pN0:AtL (w1.alloc (.cells zN0 30)) w1.heap.size (zAD (bare 0)):=AtL.new0 w1 _ _;have hthN:World.there (w1.alloc (.cells zN0 30)) w1.heap.size 0 (zAD ⟨2,Wt.v0,0,⟨#[]⟩,0,⟨s0,ar,ac,afr,afc⟩,Wt.r0⟩).toArray.size:=pN0.there;have hlt1:=pZ1.lt;have hk1:=h1.lt;go_upto_region 2 with ((with_reducible refine wpList_store_mid ?_ 30 (.tmp 5) (.tmp 8) ?_ (w1.heap.size) 0 (zAD ⟨2,Wt.v0,0,⟨#[]⟩,0,⟨s0,ar,ac,afr,afc⟩,Wt.r0⟩).toArray ?_ ?_ ?_ ?_ ?_ ?_);rfl;rfl;rfl;rfl;exact hthN;kernel_rfl;exact zAc _)
    have hbA:=zAu (zAI (Below.refl _ w1) (.cells zN0 30)) (Nat.le_refl w1.heap.size) (zAD ⟨2,Wt.v0,0,⟨#[]⟩,0,⟨s0,ar,ac,afr,afc⟩,Wt.r0⟩) 0;have pN1:AtL ((w1.alloc (.cells zN0 30)).setCells w1.heap.size 0 (zAD ⟨2,Wt.v0,0,⟨#[]⟩,0,⟨s0,ar,ac,afr,afc⟩,Wt.r0⟩)) w1.heap.size (zAD ⟨2,Wt.v0,0,⟨#[]⟩,0,⟨s0,ar,ac,afr,afc⟩,Wt.r0⟩):=pN0.setAll rfl;have pZ2:=AtL.below hbA pZ1;have h2:=h1.below hbA;have hE2:=hE1.below hbA;have hG2:=zAB hG1 (zAC hbA (some kp));have hneN:w1.heap.size ≠ w.heap.size:=by omega
    have hnek:kp<w1.heap.size:=hk1;have hszw:w.heap.size<=w1.heap.size:=by omega
    clear pN0 hthN hbA pZ1 h1 hE1 hG1;generalize (w1.alloc (.cells zN0 30)).setCells w1.heap.size 0 (zAD ⟨2,Wt.v0,0,⟨#[]⟩,0,⟨s0,ar,ac,afr,afc⟩,Wt.r0⟩)=w2 at *;generalize w1.heap.size=kn at *;have n10:=pN1.2.1 10 _ rfl;have f10:=pN1.2.2 10 (by show 10<20;decide);have pN3:AtL (w2.setCell ⟨kn,10,none⟩ (.string s)) kn (zAD ⟨2,Wt.v0,0,⟨#[]⟩,0,⟨s,ar,ac,afr,afc⟩,Wt.r0⟩):=pN1.set 10 (.string s);have pZ3:=pZ2.far hneN 10 (.string s);have h3:=h2.far hnek 10 (.string s);have hG3:=zAS hG2 hszw 10 (.string s);have hE3:Env (w2.setCell ⟨kn,10,none⟩ (.string s)):=hE2.grown (zAQ w2 kn 10 (.string s)) (by omega);go_upto_region 3 with fail
    clear pN1 pZ2 h2 hG2 n10 f10 hE2;generalize w2.setCell ⟨kn,10,none⟩ (.string s)=w3 at *;have T:=zAv kp rest en [58] w3 h3 (by omega);rw [htk] at T;simp only at T;go_wp2_with fail
    refine T.mono ?_;rintro e w4 ⟨rfl,h4,hg4⟩;have pN4:=pN3.grown hg4 (by intro e;have:=Option.some.inj e;omega);have pZ4:=pZ3.grown hg4 (by intro e;have:=Option.some.inj e;omega);have hG4:=zAB hG3 hg4;have hE4:=hE3.grown hg4 hk8;clear pN3 pZ3 h3 hG3 hE3 T hg4;go_wp2_with fail
    refine (C2 _ h4 hE4).mono ?_;rintro e w5 hc;rw [hpc2] at hc;simp only [zFw] at hc;obtain ⟨rfl,h5,hg⟩:=hc;have pN5:=pN4.grown hg (by intro e;have:=Option.some.inj e;omega);have pZ5:=pZ4.grown hg (by intro e;have:=Option.some.inj e;omega);have hG5:=zAB hG4 hg;clear pN4 pZ4 h4 hG4 hE4 hg C2;simp only [rfV,rf5];have n0:=pN5.2.1 0 _ rfl;have n15:=pN5.2.1 15 _ rfl;have n16:=pN5.2.1 16 _ rfl;have n17:=pN5.2.1 17 _ rfl;have n18:=pN5.2.1 18 _ rfl;have n19:=pN5.2.1 19 _ rfl;have f0:=pN5.2.2 0 (by show 0<20;decide);have f15:=pN5.2.2 15 (by show 15<20;decide);have f16:=pN5.2.2 16 (by show 16<20;decide);have f17:=pN5.2.2 17 (by show 17<20;decide);have f18:=pN5.2.2 18 (by show 18<20;decide);have f19:=pN5.2.2 19 (by show 19<20;decide);have pN6:AtL ((((((w5.setCell ⟨kn,0,none⟩ (.int .i64 3)).setCell ⟨kn,15,none⟩ (.string bs)).setCell ⟨kn,16,none⟩ (.int .i64 br)).setCell ⟨kn,17,none⟩ (.int .i64 bc)).setCell ⟨kn,18,none⟩ (.bool bfr)).setCell ⟨kn,19,none⟩ (.bool bfc)) kn (zAD ⟨3,Wt.v0,0,⟨#[]⟩,0,⟨s,ar,ac,afr,afc⟩,⟨bs,br,bc,bfr,bfc⟩⟩):=(((((pN5.set 0 _).set 15 _).set 16 _).set 17 _).set 18 _).set 19 _;have pZ6:=(((((pZ5.far hneN 0 (.int .i64 3)).far hneN 15 (.string bs)).far hneN 16 (.int .i64 br)).far hneN 17 (.int .i64 bc)).far hneN 18 (.bool bfr)).far hneN 19 (.bool bfc);have h6:=(((((h5.far hnek 0 (.int .i64 3)).far hnek 15 (.string bs)).far hnek 16 (.int .i64 br)).far hnek 17 (.int .i64 bc)).far hnek 18 (.bool bfr)).far hnek 19 (.bool bfc)
    have hG6:=zAS (zAS (zAS (zAS (zAS (zAS hG5 hszw 0 (.int .i64 3)) hszw 15 (.string bs)) hszw 16 (.int .i64 br)) hszw 17 (.int .i64 bc)) hszw 18 (.bool bfr)) hszw 19 (.bool bfc);go_upto_region 5 with fail
    clear pN5 pZ5 h5 hG5 n0 n15 n16 n17 n18 n19 f0 f15 f16 f17 f18 f19;generalize (((((w5.setCell ⟨kn,0,none⟩ (.int .i64 3)).setCell ⟨kn,15,none⟩ (.string bs)).setCell ⟨kn,16,none⟩ (.int .i64 br)).setCell ⟨kn,17,none⟩ (.int .i64 bc)).setCell ⟨kn,18,none⟩ (.bool bfr)).setCell ⟨kn,19,none⟩ (.bool bfc)=w6 at *;have rN:=pN6.range;have hth:World.there w6 w.heap.size 0 (zAH ⟨3,Wt.v0,0,⟨#[]⟩,0,⟨s,ar,ac,afr,afc⟩,⟨bs,br,bc,bfr,bfc⟩⟩ (.slice none 0 0)).toArray.size:=pZ6.there;go_wp2_with (first | ((with_reducible refine wpList_load_mid (cs:=[.int .i64 3,.int .i64 0,.int .i64 0,.int .i64 0,.string ⟨#[]⟩,.bool false,.int .i64 0,.int .i64 0,.string ⟨#[]⟩,.int .i64 0,.string s,.int .i64 ar,.int .i64 ac,.bool afr,.bool afc,.string bs,.int .i64 br,.int .i64 bc,.bool bfr,.bool bfc]) ?_ 30 (.tmp 5) ?_ kn 0 ?_ _ ?_ underlying30 ?_ ?_ ?_);rfl;rfl;rfl;exact rN;rfl;kernel_rfl) | ((with_reducible refine wpList_store_mid ?_ 78 (.tmp 4) (.tmp 19) ?_ (w.heap.size) 0 (zAH ⟨3,Wt.v0,0,⟨#[]⟩,0,⟨s,ar,ac,afr,afc⟩,⟨bs,br,bc,bfr,bfc⟩⟩ (.slice none 0 0)).toArray ?_ ?_ ?_ ?_ ?_ ?_);rfl;rfl;rfl;rfl;exact hth;kernel_rfl;exact zAr _ _ rfl))
    have pZ9:AtL (World.setCells w6 w.heap.size 0 (zAH ⟨3,Wt.v0,0,⟨#[]⟩,0,⟨s,ar,ac,afr,afc⟩,⟨bs,br,bc,bfr,bfc⟩⟩ (.slice none 0 0))) w.heap.size (zAH ⟨3,Wt.v0,0,⟨#[]⟩,0,⟨s,ar,ac,afr,afc⟩,⟨bs,br,bc,bfr,bfc⟩⟩ (.slice none 0 0)):=pZ6.setAll rfl;refine bodyPost_ret (zAF rfl _ _ w.heap.size (zAH ⟨3,Wt.v0,0,⟨#[]⟩,0,⟨s,ar,ac,afr,afc⟩,⟨bs,br,bc,bfr,bfc⟩⟩ (.slice none 0 0)) _ rfl pZ9.range underlying78 rfl (by kernel_rfl)) rfl ?_;exact ⟨_,rfl,⟨1,_,_,rfl,PtIs.leaf _ _ _⟩,h6.farAll hkp _ 0,zAJ hG6 (Nat.le_refl _) _ 0⟩
def more (sub:List Wlx.TV->PR) (k:Int):Nat->List Wt.Nd->List Wlx.TV->PR
 | 0,row,ts=>.inl (row,ts)
 | n+1,row,ts=>match zB0 k ts with
  | none=>.inl (row,ts)
  | some (o,r)=>match sub r with
   | .inr e=>.inr e
   | .inl (row2,r2)=>more sub k n (opN (zAq o.2.2) o.1::(row++row2)) r2
def pct:Nat->List Wt.Nd->List Wlx.TV->PR
 | 0,row,ts=>.inl (row,ts)
 | n+1,row,ts=>match zB0 6 ts with
  | none=>.inl (row,ts)
  | some (o,r)=>pct n (opN (zAq o.2.2) o.1::row) r
def zCD (sub:List Wlx.TV->PR) (en:Int):Nat->Nat->List Wt.Nd->List Wlx.TV->(Nat × List Wt.Nd × List Wlx.TV) ⊕ (Int × Int)
 | 0,_,_,ts=>.inr (50,pos ts en)
 | n+1,c,rows,ts=>match tk ts [41] with
  | some r=>.inl (c,rows,r)
  | none=>if c=30/\zCX (hd ts en) [44]=true then .inr (3,pos ts en) else
   match tk ts [44] with
   | none=>.inr (50,pos ts en)
   | some r=>match sub r with
    | .inr e=>.inr e
    | .inl (row,r2)=>zCD sub en n (c+1) (rows++row) r2
def zBK (nm:ByteArray) (c:Nat):Wt.Nd:=⟨6,Wt.v0,0,nm,c,Wt.r0,Wt.r0⟩
def zCo (sub:List Wlx.TV->PR) (en:Int) (nm:List UInt8) (ts:List Wlx.TV):PR:=match tk ts [41] with
 | some r=>.inl ([zBK ⟨nm.toArray⟩ 0],r)
 | none=>match sub ts with
  | .inr e=>.inr e
  | .inl (row,r)=>match zCD sub en (r.length+1) 1 row r with
   | .inr e=>.inr e
   | .inl (c,rows,r2)=>.inl (zBK ⟨nm.toArray⟩ c::rows,r2)
def zCF (sub:List Wlx.TV->PR) (en:Int) (ts:List Wlx.TV):PR :=
 if fol ts [40] then (if Wt.fnNm ⟨(hd ts en).t.toArray⟩ then zCo sub en (hd ts en).t (ts.drop 2) else .inr (50,pos ts en))
 else if fol ts [33] then (if Wt.shNm ⟨(hd ts en).t.toArray⟩ then pcs ⟨(hd ts en).t.toArray⟩ (ts.drop 2) en else .inr (50,pos ts en))
 else if (hd ts en).t=[84,82,85,69] then .inl ([zAj (zA1 true)],ts.drop 1)
 else if (hd ts en).t=[70,65,76,83,69] then .inl ([zAj (zA1 false)],ts.drop 1)
 else pcs ⟨#[]⟩ ts en
def zB3 (sub:List Wlx.TV->PR) (en:Int) (ts:List Wlx.TV):PR:=match tk ts [40] with
 | none=>.inr (50,pos ts en)
 | some r=>match sub r with
  | .inr e=>.inr e
  | .inl (row,r2)=>match tk r2 [41] with
   | none=>.inr (50,pos r2 en)
   | some r3=>.inl (row,r3)
def lv (en:Int):Nat->Nat->List Wlx.TV->PR
 | 0,_,_=>.inr (0,0)
 | f+1,k,ts =>
  if k<5 then (match lv en f (k+1) ts with
   | .inr e=>.inr e
   | .inl (row,r)=>more (lv en f (k+1)) k r.length row r)
  else if k=5 then (match zB0 5 ts with
   | some (o,r)=>(match lv en f 5 r with
    | .inr e=>.inr e
    | .inl (row,r2)=>.inl (opN (zAq o.2.2) o.1::row,r2))
   | none=>lv en f 6 ts)
  else if k=6 then (match lv en f 7 ts with
   | .inr e=>.inr e
   | .inl (row,r)=>pct r.length row r)
  else if (hd ts en).k=3 then zCF (lv en f 0) en ts
  else if (hd ts en).k=5 then zB3 (lv en f 0) en ts
  else pl ts en
theorem zBG (h:tk ts m=some r):r <:+ ts/\r.length<ts.length:=by
 cases ts with
 | nil=>cases h
 | cons t q =>
  have:=zJz h;subst this;exact ⟨List.suffix_cons _ _,by simp⟩
theorem zAo {k:Int} {o:Int × List UInt8 × Int} (h:zB0 k ts=some (o,r)):r <:+ ts/\r.length<ts.length:=by
 cases ts with
 | nil=>cases h
 | cons t q =>
  unfold zB0 at h;simp only at h;split at h
  ·cases ha:Wt.opAs t.t k with
   | none=>rw [ha] at h;cases h
   | some x =>
    rw [ha] at h;simp only [Option.map_some,Option.some.injEq,Prod.mk.injEq] at h;rw [<-h.2];exact ⟨List.suffix_cons _ _,by simp⟩
  ·cases h
theorem zH2 (h:pc ts en=.inl (a,r)):r <:+ ts:=by
 rw [zG0 h];exact List.tail_suffix _
theorem zPK (h:pl ts en=.inl (row,r)):r <:+ ts:=by
 unfold pl at h;split at h
 ·simp only [Sum.inl.injEq,Prod.mk.injEq] at h;rw [<-h.2];exact List.tail_suffix _
 ·cases h
theorem zIe {s:ByteArray} (h:pcs s ts en=.inl (row,r)):r <:+ ts:=by
 unfold pcs at h;cases h1:pc ts en with
 | inr e=>rw [h1] at h;cases h
 | inl q =>
  obtain ⟨a,r1⟩:=q;rw [h1] at h;simp only at h;have s1:=zH2 h1;cases h2:tk r1 [58] with
  | none=>rw [h2] at h;simp only [Sum.inl.injEq,Prod.mk.injEq] at h;rw [<-h.2];exact s1
  | some r2 =>
   rw [h2] at h;simp only at h;have s2:=(zBG h2).1;cases h3:pc r2 en with
   | inr e=>rw [h3] at h;cases h
   | inl q =>
    obtain ⟨b,r3⟩:=q;rw [h3] at h;simp only [Sum.inl.injEq,Prod.mk.injEq] at h;rw [<-h.2];exact ((zH2 h3).trans s2).trans s1
theorem zMP {sub:List Wlx.TV->PR} (hsub:∀ ts row r,sub ts=.inl (row,r)->r <:+ ts) (k:Int):∀ (n:Nat) (row:List Wt.Nd) (ts:List Wlx.TV) (row':List Wt.Nd) (r:List Wlx.TV),more sub k n row ts=.inl (row',r)->r <:+ ts:=by
 intro n;induction n with
 | zero=>intro row ts row' r h;simp only [more,Sum.inl.injEq,Prod.mk.injEq] at h;rw [<-h.2];exact List.suffix_refl _
 | succ n ih =>
  intro row ts row' r h;simp only [more] at h;cases h1:zB0 k ts with
  | none=>rw [h1] at h;simp only [Sum.inl.injEq,Prod.mk.injEq] at h;rw [<-h.2];exact List.suffix_refl _
  | some q =>
   obtain ⟨o,r1⟩:=q;rw [h1] at h;simp only at h;cases h2:sub r1 with
   | inr e=>rw [h2] at h;cases h
   | inl q =>
    obtain ⟨row2,r2⟩:=q;rw [h2] at h;simp only at h;exact ((ih _ _ _ _ h).trans (hsub _ _ _ h2)).trans (zAo h1).1
theorem zLP {sub:List Wlx.TV->PR} (hsub:∀ ts row r,sub ts=.inl (row,r)->r <:+ ts) (en:Int):∀ (n c:Nat) (rows:List Wt.Nd) (ts:List Wlx.TV) (c':Nat) (rows':List Wt.Nd) (r:List Wlx.TV),zCD sub en n c rows ts=.inl (c',rows',r)->r <:+ ts:=by
 intro n;induction n with
 | zero=>intro c rows ts c' rows' r h;cases h
 | succ n ih =>
  intro c rows ts c' rows' r h;simp only [zCD] at h;cases h1:tk ts [41] with
  | some q=>rw [h1] at h;simp only [Sum.inl.injEq,Prod.mk.injEq] at h;rw [<-h.2.2];exact (zBG h1).1
  | none =>
   rw [h1] at h;simp only at h;split at h
   ·cases h
   ·cases h2:tk ts [44] with
    | none=>rw [h2] at h;cases h
    | some r1 =>
     rw [h2] at h;simp only at h;cases h3:sub r1 with
     | inr e=>rw [h3] at h;cases h
     | inl q =>
      obtain ⟨row,r2⟩:=q;rw [h3] at h;simp only at h;exact ((ih _ _ _ _ _ _ h).trans (hsub _ _ _ h3)).trans (zBG h2).1
theorem zJ9 {sub:List Wlx.TV->PR} (hsub:∀ ts row r,sub ts=.inl (row,r)->r <:+ ts) (en:Int) (nm:List UInt8) (ts:List Wlx.TV) (row:List Wt.Nd) (r:List Wlx.TV) (h:zCo sub en nm ts=.inl (row,r)):r <:+ ts:=by
 unfold zCo at h;cases h1:tk ts [41] with
 | some q=>rw [h1] at h;simp only [Sum.inl.injEq,Prod.mk.injEq] at h;rw [<-h.2];exact (zBG h1).1
 | none =>
  rw [h1] at h;simp only at h;cases h2:sub ts with
  | inr e=>rw [h2] at h;cases h
  | inl q =>
   obtain ⟨row1,r1⟩:=q;rw [h2] at h;simp only at h;cases h3:zCD sub en (r1.length+1) 1 row1 r1 with
   | inr e=>rw [h3] at h;cases h
   | inl q =>
    obtain ⟨c,rows,r2⟩:=q;rw [h3] at h;simp only [Sum.inl.injEq,Prod.mk.injEq] at h;rw [<-h.2];exact (zLP hsub en _ _ _ _ _ _ _ h3).trans (hsub _ _ _ h2)
theorem zKC {sub:List Wlx.TV->PR} (hsub:∀ ts row r,sub ts=.inl (row,r)->r <:+ ts) (en:Int) (ts:List Wlx.TV) (row:List Wt.Nd) (r:List Wlx.TV) (h:zCF sub en ts=.inl (row,r)):r <:+ ts:=by
 unfold zCF at h;split at h
 ·split at h
  ·exact (zJ9 hsub _ _ _ _ _ h).trans (List.drop_suffix _ _)
  ·cases h
 split at h
 ·split at h
  ·exact (zIe h).trans (List.drop_suffix _ _)
  ·cases h
 split at h
 ·simp only [Sum.inl.injEq,Prod.mk.injEq] at h;rw [<-h.2];exact List.drop_suffix _ _
 split at h
 ·simp only [Sum.inl.injEq,Prod.mk.injEq] at h;rw [<-h.2];exact List.drop_suffix _ _
 ·exact zIe h
theorem zI0 {sub:List Wlx.TV->PR} (hsub:∀ ts row r,sub ts=.inl (row,r)->r <:+ ts) (en:Int) (ts:List Wlx.TV) (row:List Wt.Nd) (r:List Wlx.TV) (h:zB3 sub en ts=.inl (row,r)):r <:+ ts:=by
 unfold zB3 at h;cases h1:tk ts [40] with
 | none=>rw [h1] at h;cases h
 | some r1 =>
  rw [h1] at h;simp only at h;cases h2:sub r1 with
  | inr e=>rw [h2] at h;cases h
  | inl q =>
   obtain ⟨row2,r2⟩:=q;rw [h2] at h;simp only at h;cases h3:tk r2 [41] with
   | none=>rw [h3] at h;cases h
   | some r3 =>
    rw [h3] at h;simp only [Sum.inl.injEq,Prod.mk.injEq] at h;rw [<-h.2];exact ((zBG h3).1.trans (hsub _ _ _ h2)).trans (zBG h1).1
theorem zNu:∀ (n:Nat) (row:List Wt.Nd) (ts:List Wlx.TV) (row':List Wt.Nd) (r:List Wlx.TV),pct n row ts=.inl (row',r)->r <:+ ts:=by
 intro n;induction n with
 | zero=>intro row ts row' r h;simp only [pct,Sum.inl.injEq,Prod.mk.injEq] at h;rw [<-h.2];exact List.suffix_refl _
 | succ n ih =>
  intro row ts row' r h;simp only [pct] at h;cases h1:zB0 6 ts with
  | none=>rw [h1] at h;simp only [Sum.inl.injEq,Prod.mk.injEq] at h;rw [<-h.2];exact List.suffix_refl _
  | some q =>
   obtain ⟨o,r1⟩:=q;rw [h1] at h;simp only at h;exact (ih _ _ _ _ h).trans (zAo h1).1
theorem zCI (en:Int):∀ (f k:Nat) (ts:List Wlx.TV) (row:List Wt.Nd) (r:List Wlx.TV),lv en f k ts=.inl (row,r)->r <:+ ts:=by
 intro f;induction f with
 | zero=>intro k ts row r h;cases h
 | succ f ih =>
  intro k ts row r h;simp only [lv] at h;split at h
  ·cases h1:lv en f (k+1) ts with
   | inr e=>rw [h1] at h;cases h
   | inl q =>
    obtain ⟨row1,r1⟩:=q;rw [h1] at h;simp only at h;exact (zMP (ih (k+1)) _ _ _ _ _ _ h).trans (ih _ _ _ _ h1)
  split at h
  ·cases h1:zB0 5 ts with
   | none=>rw [h1] at h;exact ih _ _ _ _ h
   | some q =>
    obtain ⟨o,r1⟩:=q;rw [h1] at h;simp only at h;cases h2:lv en f 5 r1 with
    | inr e=>rw [h2] at h;cases h
    | inl q =>
     obtain ⟨row2,r2⟩:=q;rw [h2] at h;simp only [Sum.inl.injEq,Prod.mk.injEq] at h;rw [<-h.2];exact (ih _ _ _ _ h2).trans (zAo h1).1
  split at h
  ·cases h1:lv en f 7 ts with
   | inr e=>rw [h1] at h;cases h
   | inl q =>
    obtain ⟨row1,r1⟩:=q;rw [h1] at h;simp only at h;exact (zNu _ _ _ _ _ h).trans (ih _ _ _ _ h1)
  split at h
  ·exact zKC (ih 0) _ _ _ _ h
  split at h
  ·exact zI0 (ih 0) _ _ _ _ h
  ·exact zPK h
