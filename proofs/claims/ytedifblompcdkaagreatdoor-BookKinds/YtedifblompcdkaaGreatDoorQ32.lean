/- TParse, TBrack, TBuild, TSigned, TSingle. -/
import Derived.Test.YtedifblompcdkaaGreatDoorQ31
set_option maxHeartbeats 8000000
set_option maxRecDepth 100000
namespace Go.Proofs.YtedifblompcdkaaGreatDoor
open Tryz
open Go.RowKit Go.Shelf
set_option linter.unusedVariables false
variable {ts r:List Wlx.TV} {sub:List Wlx.TV->PR} {w:World} {en:Int} {op:Oper} {a:Act} {Q:Exit->Act->World->Prop} {K:Act->World->Prop} {G:Nat->Prop} {n b:Nat} {x z:Wt.Nd} {sl:Value}
def more (sub:List Wlx.TV->PR) (k:Int):Nat->List Wt.Nd->List Wlx.TV->PR
 | 0,row,ts=>.inl (row,ts)
 | n+1,row,ts=>match zBk k ts with
  | none=>.inl (row,ts)
  | some (o,r)=>match sub r with
   | .inr e=>.inr e
   | .inl (row2,r2)=>more sub k n (opN (zAo o.2.2) o.1::(row++row2)) r2
def pct:Nat->List Wt.Nd->List Wlx.TV->PR
 | 0,row,ts=>.inl (row,ts)
 | n+1,row,ts=>match zBk 6 ts with
  | none=>.inl (row,ts)
  | some (o,r)=>pct n (opN (zAo o.2.2) o.1::row) r
def zDZ (sub:List Wlx.TV->PR) (en:Int):Nat->Nat->List Wt.Nd->List Wlx.TV->(Nat × List Wt.Nd × List Wlx.TV) ⊕ (Int × Int)
 | 0,_,_,ts=>.inr (50,pos ts en)
 | n+1,c,rows,ts=>match tk ts [41] with
  | some r=>.inl (c,rows,r)
  | none=>if c=30/\zIE (hd ts en) [44]=true then .inr (3,pos ts en) else
   match tk ts [44] with
   | none=>.inr (50,pos ts en)
   | some r=>match sub r with
    | .inr e=>.inr e
    | .inl (row,r2)=>zDZ sub en n (c+1) (rows++row) r2
def zCb (nm:ByteArray) (c:Nat):Wt.Nd:=⟨6,Wt.v0,0,nm,c,Wt.r0,Wt.r0⟩
def zEB (sub:List Wlx.TV->PR) (en:Int) (nm:List UInt8) (ts:List Wlx.TV):PR:=match tk ts [41] with
 | some r=>.inl ([zCb ⟨nm.toArray⟩ 0],r)
 | none=>match sub ts with
  | .inr e=>.inr e
  | .inl (row,r)=>match zDZ sub en (r.length+1) 1 row r with
   | .inr e=>.inr e
   | .inl (c,rows,r2)=>.inl (zCb ⟨nm.toArray⟩ c::rows,r2)
def zCq (sub:List Wlx.TV->PR) (en:Int) (ts:List Wlx.TV):PR :=
 if fol ts [40] then (if Wt.fnNm ⟨(hd ts en).t.toArray⟩ then zEB sub en (hd ts en).t (ts.drop 2) else .inr (50,pos ts en))
 else if fol ts [33] then (if Wt.shNm ⟨(hd ts en).t.toArray⟩ then pcs ⟨(hd ts en).t.toArray⟩ (ts.drop 2) en else .inr (50,pos ts en))
 else if (hd ts en).t=[84,82,85,69] then .inl ([zBN (zA8 true)],ts.drop 1)
 else if (hd ts en).t=[70,65,76,83,69] then .inl ([zBN (zA8 false)],ts.drop 1)
 else pcs ⟨#[]⟩ ts en
def zBg (sub:List Wlx.TV->PR) (en:Int) (ts:List Wlx.TV):PR:=match tk ts [40] with
 | none=>.inr (50,pos ts en)
 | some r=>match sub r with
  | .inr e=>.inr e
  | .inl (row,r2)=>match tk r2 [41] with
   | none=>.inr (50,pos r2 en)
   | some r3=>.inl (row,r3)
def lv (en:Int):Nat->Nat->List Wlx.TV->PR
 | 0,_,_=>.inr (0,0)
 | f+1,k,ts =>
  if k<5 then (match lv en f (k+1) ts with
   | .inr e=>.inr e
   | .inl (row,r)=>more (lv en f (k+1)) k r.length row r)
  else if k=5 then (match zBk 5 ts with
   | some (o,r)=>(match lv en f 5 r with
    | .inr e=>.inr e
    | .inl (row,r2)=>.inl (opN (zAo o.2.2) o.1::row,r2))
   | none=>lv en f 6 ts)
  else if k=6 then (match lv en f 7 ts with
   | .inr e=>.inr e
   | .inl (row,r)=>pct r.length row r)
  else if (hd ts en).k=3 then zCq (lv en f 0) en ts
  else if (hd ts en).k=5 then zBg (lv en f 0) en ts
  else pl ts en
theorem zBC {m:List UInt8} (h:tk ts m=some r):r <:+ ts/\r.length<ts.length:=by
 cases ts with
 | nil=>cases h
 | cons t q =>
  have:=zKh h;subst this;exact ⟨List.suffix_cons _ _,by simp⟩
theorem zAl {k:Int} {o:Int × List UInt8 × Int} (h:zBk k ts=some (o,r)):r <:+ ts/\r.length<ts.length:=by
 cases ts with
 | nil=>cases h
 | cons t q =>
  unfold zBk at h;simp only at h;split at h
  ·cases ha:Wt.opAs t.t k with
   | none=>rw [ha] at h;cases h
   | some x =>
    rw [ha] at h;simp only [Option.map_some,Option.some.injEq,Prod.mk.injEq] at h;rw [<-h.2];exact ⟨List.suffix_cons _ _,by simp⟩
  ·cases h
theorem zNV {a:Wt.Rf} (h:pc ts en=.inl (a,r)):r <:+ ts:=by
 rw [zFe h];exact List.tail_suffix _
theorem zPL {row:List Wt.Nd} (h:pl ts en=.inl (row,r)):r <:+ ts:=by
 unfold pl at h;split at h
 ·simp only [Sum.inl.injEq,Prod.mk.injEq] at h;rw [<-h.2];exact List.tail_suffix _
 ·cases h
theorem zI8 {s:ByteArray} {row:List Wt.Nd} (h:pcs s ts en=.inl (row,r)):r <:+ ts:=by
 unfold pcs at h;cases h1:pc ts en with
 | inr e=>rw [h1] at h;cases h
 | inl q =>
  obtain ⟨a,r1⟩:=q;rw [h1] at h;simp only at h;have s1:=zNV h1;cases h2:tk r1 [58] with
  | none=>rw [h2] at h;simp only [Sum.inl.injEq,Prod.mk.injEq] at h;rw [<-h.2];exact s1
  | some r2 =>
   rw [h2] at h;simp only at h;have s2:=(zBC h2).1;cases h3:pc r2 en with
   | inr e=>rw [h3] at h;cases h
   | inl q =>
    obtain ⟨b,r3⟩:=q;rw [h3] at h;simp only [Sum.inl.injEq,Prod.mk.injEq] at h;rw [<-h.2];exact ((zNV h3).trans s2).trans s1
theorem zLk (hsub:∀ ts row r,sub ts=.inl (row,r)->r <:+ ts) (k:Int):∀ (n:Nat) (row:List Wt.Nd) (ts:List Wlx.TV) (row':List Wt.Nd) (r:List Wlx.TV),more sub k n row ts=.inl (row',r)->r <:+ ts:=by
 intro n;induction n with
 | zero=>intro row ts row' r h;simp only [more,Sum.inl.injEq,Prod.mk.injEq] at h;rw [<-h.2];exact List.suffix_refl _
 | succ n ih =>
  intro row ts row' r h;simp only [more] at h;cases h1:zBk k ts with
  | none=>rw [h1] at h;simp only [Sum.inl.injEq,Prod.mk.injEq] at h;rw [<-h.2];exact List.suffix_refl _
  | some q =>
   obtain ⟨o,r1⟩:=q;rw [h1] at h;simp only at h;cases h2:sub r1 with
   | inr e=>rw [h2] at h;cases h
   | inl q =>
    obtain ⟨row2,r2⟩:=q;rw [h2] at h;simp only at h;exact ((ih _ _ _ _ h).trans (hsub _ _ _ h2)).trans (zAl h1).1
theorem zLe (hsub:∀ ts row r,sub ts=.inl (row,r)->r <:+ ts) (en:Int):∀ (n c:Nat) (rows:List Wt.Nd) (ts:List Wlx.TV) (c':Nat) (rows':List Wt.Nd) (r:List Wlx.TV),zDZ sub en n c rows ts=.inl (c',rows',r)->r <:+ ts:=by
 intro n;induction n with
 | zero=>intro c rows ts c' rows' r h;cases h
 | succ n ih =>
  intro c rows ts c' rows' r h;simp only [zDZ] at h;cases h1:tk ts [41] with
  | some q=>rw [h1] at h;simp only [Sum.inl.injEq,Prod.mk.injEq] at h;rw [<-h.2.2];exact (zBC h1).1
  | none =>
   rw [h1] at h;simp only at h;split at h
   ·cases h
   ·cases h2:tk ts [44] with
    | none=>rw [h2] at h;cases h
    | some r1 =>
     rw [h2] at h;simp only at h;cases h3:sub r1 with
     | inr e=>rw [h3] at h;cases h
     | inl q =>
      obtain ⟨row,r2⟩:=q;rw [h3] at h;simp only at h;exact ((ih _ _ _ _ _ _ h).trans (hsub _ _ _ h3)).trans (zBC h2).1
theorem zKy (hsub:∀ ts row r,sub ts=.inl (row,r)->r <:+ ts) (en:Int) (nm:List UInt8) (ts:List Wlx.TV) (row:List Wt.Nd) (r:List Wlx.TV) (h:zEB sub en nm ts=.inl (row,r)):r <:+ ts:=by
 unfold zEB at h;cases h1:tk ts [41] with
 | some q=>rw [h1] at h;simp only [Sum.inl.injEq,Prod.mk.injEq] at h;rw [<-h.2];exact (zBC h1).1
 | none =>
  rw [h1] at h;simp only at h;cases h2:sub ts with
  | inr e=>rw [h2] at h;cases h
  | inl q =>
   obtain ⟨row1,r1⟩:=q;rw [h2] at h;simp only at h;cases h3:zDZ sub en (r1.length+1) 1 row1 r1 with
   | inr e=>rw [h3] at h;cases h
   | inl q =>
    obtain ⟨c,rows,r2⟩:=q;rw [h3] at h;simp only [Sum.inl.injEq,Prod.mk.injEq] at h;rw [<-h.2];exact (zLe hsub en _ _ _ _ _ _ _ h3).trans (hsub _ _ _ h2)
theorem zIw (hsub:∀ ts row r,sub ts=.inl (row,r)->r <:+ ts) (en:Int) (ts:List Wlx.TV) (row:List Wt.Nd) (r:List Wlx.TV) (h:zCq sub en ts=.inl (row,r)):r <:+ ts:=by
 unfold zCq at h;split at h
 ·split at h
  ·exact (zKy hsub _ _ _ _ _ h).trans (List.drop_suffix _ _)
  ·cases h
 split at h
 ·split at h
  ·exact (zI8 h).trans (List.drop_suffix _ _)
  ·cases h
 split at h
 ·simp only [Sum.inl.injEq,Prod.mk.injEq] at h;rw [<-h.2];exact List.drop_suffix _ _
 split at h
 ·simp only [Sum.inl.injEq,Prod.mk.injEq] at h;rw [<-h.2];exact List.drop_suffix _ _
 ·exact zI8 h
theorem zHa (hsub:∀ ts row r,sub ts=.inl (row,r)->r <:+ ts) (en:Int) (ts:List Wlx.TV) (row:List Wt.Nd) (r:List Wlx.TV) (h:zBg sub en ts=.inl (row,r)):r <:+ ts:=by
 unfold zBg at h;cases h1:tk ts [40] with
 | none=>rw [h1] at h;cases h
 | some r1 =>
  rw [h1] at h;simp only at h;cases h2:sub r1 with
  | inr e=>rw [h2] at h;cases h
  | inl q =>
   obtain ⟨row2,r2⟩:=q;rw [h2] at h;simp only at h;cases h3:tk r2 [41] with
   | none=>rw [h3] at h;cases h
   | some r3 =>
    rw [h3] at h;simp only [Sum.inl.injEq,Prod.mk.injEq] at h;rw [<-h.2];exact ((zBC h3).1.trans (hsub _ _ _ h2)).trans (zBC h1).1
theorem zOk:∀ (n:Nat) (row:List Wt.Nd) (ts:List Wlx.TV) (row':List Wt.Nd) (r:List Wlx.TV),pct n row ts=.inl (row',r)->r <:+ ts:=by
 intro n;induction n with
 | zero=>intro row ts row' r h;simp only [pct,Sum.inl.injEq,Prod.mk.injEq] at h;rw [<-h.2];exact List.suffix_refl _
 | succ n ih =>
  intro row ts row' r h;simp only [pct] at h;cases h1:zBk 6 ts with
  | none=>rw [h1] at h;simp only [Sum.inl.injEq,Prod.mk.injEq] at h;rw [<-h.2];exact List.suffix_refl _
  | some q =>
   obtain ⟨o,r1⟩:=q;rw [h1] at h;simp only at h;exact (ih _ _ _ _ h).trans (zAl h1).1
theorem zC6 (en:Int):∀ (f k:Nat) (ts:List Wlx.TV) (row:List Wt.Nd) (r:List Wlx.TV),lv en f k ts=.inl (row,r)->r <:+ ts:=by
 intro f;induction f with
 | zero=>intro k ts row r h;cases h
 | succ f ih =>
  intro k ts row r h;simp only [lv] at h;split at h
  ·cases h1:lv en f (k+1) ts with
   | inr e=>rw [h1] at h;cases h
   | inl q =>
    obtain ⟨row1,r1⟩:=q;rw [h1] at h;simp only at h;exact (zLk (ih (k+1)) _ _ _ _ _ _ h).trans (ih _ _ _ _ h1)
  split at h
  ·cases h1:zBk 5 ts with
   | none=>rw [h1] at h;exact ih _ _ _ _ h
   | some q =>
    obtain ⟨o,r1⟩:=q;rw [h1] at h;simp only at h;cases h2:lv en f 5 r1 with
    | inr e=>rw [h2] at h;cases h
    | inl q =>
     obtain ⟨row2,r2⟩:=q;rw [h2] at h;simp only [Sum.inl.injEq,Prod.mk.injEq] at h;rw [<-h.2];exact (ih _ _ _ _ h2).trans (zAl h1).1
  split at h
  ·cases h1:lv en f 7 ts with
   | inr e=>rw [h1] at h;cases h
   | inl q =>
    obtain ⟨row1,r1⟩:=q;rw [h1] at h;simp only at h;exact (zOk _ _ _ _ _ h).trans (ih _ _ _ _ h1)
  split at h
  ·exact zIw (ih 0) _ _ _ _ h
  split at h
  ·exact zHa (ih 0) _ _ _ _ h
  ·exact zPL h
def zDp (kp:Nat) (en:Int) (sub:List Wlx.TV->PR) (n:Nat):Prop :=
 ∀ (ts:List Wlx.TV) (w:World),PSt w kp ts en->ts.length<=n->ts.length<=1024->(∀ t ∈ ts,zA5 t)->Env w->Calls prog 128 #[.pointer (some ⟨kp,0,none⟩)] w λe w'=>zAQ kp en (sub ts) w e w'
theorem zFT (kp:Nat) (en:Int) (sub:List Wlx.TV->PR) (n:Nat) (HF:zDp kp en sub n) (hsub:∀ ts row r,sub ts=.inl (row,r)->r <:+ ts) (ts:List Wlx.TV) (w:World) (h:PSt w kp ts en) (hn:ts.length<=n+1) (hts:ts.length<=1024) (hok:∀ t ∈ ts,zA5 t) (hE:Env w) (hk8:8<=kp) :
  Calls prog 242 #[.pointer (some ⟨kp,0,none⟩)] w λe w'=>zAQ kp en (zBg sub en ts) w e w':=by
 have hB0:=zAH (Below.refl _ w) (.cells zP0 180);have pZ:AtL (w.alloc (.cells zP0 180)) w.heap.size (zAJ (bare 0) (.slice none 0 0)):=AtL.new0 w _ _;have h0:=h.below hB0;have hE0:=hE.below hB0;have hkp:=h.lt;have T1:=zAk kp ts en [40] _ h0 hts;unfold zBg;cases ht:tk ts [40] with
 | none =>
  rw [ht] at T1;simp only [zAQ] at T1 ⊢;have M0:=λw h=>zAe kp ts en w h
  unfold zB2 at M0 ⊢;go_enter func242,ntmps242;go_wp2_with fail
  generalize w.alloc (.cells zP0 180)=wa at *;refine T1.mono ?_;rintro e w1 ⟨rfl,h1,hg1⟩;have pZ1:=pZ.grown hg1 (by intro e;have:=Option.some.inj e;omega);have hG1:=zAD (zAE hB0 (some kp)) hg1;have hE1:=hE0.grown hg1 hk8;clear pZ h0 hB0 hE0 T1 hg1;go_wp2_with fail
  refine (M0 _ h1).mono ?_;rintro e w2 ⟨rfl,hb⟩;go_wp2;exact ⟨rfl,rfl,zAD hG1 (zAE hb (some kp))⟩
 | some r =>
  rw [ht] at T1;obtain ⟨hsuf,hlt⟩:=zBC ht;have hokr:∀ t ∈ r,zA5 t:=λt h=>hok t (hsuf.subset h)
  simp only at T1 ⊢;cases hs:sub r with
  | inr q =>
   obtain ⟨c,p⟩:=q;simp only [zAQ];go_enter func242,ntmps242;go_wp2_with fail
   generalize w.alloc (.cells zP0 180)=wa at *;refine T1.mono ?_;rintro e w1 ⟨rfl,h1,hg1⟩;have pZ1:=pZ.grown hg1 (by intro e;have:=Option.some.inj e;omega);have hG1:=zAD (zAE hB0 (some kp)) hg1;have hE1:=hE0.grown hg1 hk8;clear pZ h0 hB0 hE0 T1 hg1;go_wp2_with fail
   refine (zA3 kp _).mono ?_;rintro e w2 ⟨rfl,rfl⟩;go_wp2_with fail
   refine (HF r w1 h1 (by omega) (by omega) hokr hE1).mono ?_;rintro e w2 hc;rw [hs] at hc;simp only [zAQ] at hc;obtain ⟨rfl,hg⟩:=hc;unfold zB2;go_wp2;exact ⟨rfl,rfl,zAD hG1 hg⟩
  | inl q =>
   obtain ⟨row,r2⟩:=q;have hl2:=(hsub _ _ _ hs).length_le;simp only;cases ht2:tk r2 [41] with
   | none =>
    simp only [zAQ];have M0:=λw h=>zAe kp r2 en w h
    unfold zB2 at M0 ⊢;go_enter func242,ntmps242;go_wp2_with fail
    generalize w.alloc (.cells zP0 180)=wa at *;refine T1.mono ?_;rintro e w1 ⟨rfl,h1,hg1⟩;have pZ1:=pZ.grown hg1 (by intro e;have:=Option.some.inj e;omega);have hG1:=zAD (zAE hB0 (some kp)) hg1;have hE1:=hE0.grown hg1 hk8;clear pZ h0 hB0 hE0 T1 hg1;go_wp2_with fail
    refine (zA3 kp _).mono ?_;rintro e w2 ⟨rfl,rfl⟩;go_wp2_with fail
    refine (HF r w1 h1 (by omega) (by omega) hokr hE1).mono ?_;rintro e w2 hc;rw [hs] at hc;simp only [zAQ] at hc;obtain ⟨v,rfl,hP,h2,hg2⟩:=hc;have hsz1:w.heap.size<w1.heap.size:=pZ1.lt;have pZ2:=pZ1.grown hg2 (by intro e;have:=Option.some.inj e;omega);have hG2:=zAD hG1 hg2;obtain ⟨nn,x,sl,rfl,hp⟩:=hP;obtain ⟨av,len,cap,rfl⟩:=hp.one;clear pZ1 hG1 hE1 h1;unfold ptV;have pX0:AtL (w2.alloc (.cells zP0 180)) w2.heap.size (zAJ (bare 0) (.slice none 0 0)):=AtL.new0 w2 _ _;have hthX:World.there (w2.alloc (.cells zP0 180)) w2.heap.size 0 (zAJ x (.slice av len cap)).toArray.size:=pX0.there;go_upto_region 3 with ((with_reducible refine wpList_store_mid ?_ 180 (.tmp 3) (.tmp 9) ?_ (w2.heap.size) 0 (zAJ x (.slice av len cap)).toArray ?_ ?_ ?_ ?_ ?_ ?_);rfl;rfl;rfl;rfl;exact hthX;kernel_rfl;exact zAi _ _ rfl)
    have hbX:=zBJ (zAH (Below.refl _ w2) (.cells zP0 180)) (Nat.le_refl w2.heap.size) (zAJ x (.slice av len cap)) 0;have pX:AtL ((w2.alloc (.cells zP0 180)).setCells w2.heap.size 0 (zAJ x (.slice av len cap))) w2.heap.size (zAJ x (.slice av len cap)):=pX0.setAll rfl;have pZ3:=AtL.below hbX pZ2;have h3:=h2.below hbX;have hG3:=zAD hG2 (zAE hbX (some kp));have hP3:=Pt.below (v:=ptV x (.slice av len cap)) ⟨nn,x,_,rfl,hp⟩ hbX;have hkx:kp<w2.heap.size:=h2.lt;have hzx:=pZ2.lt;clear pX0 hthX hbX pZ2 h2 hG2 hp;generalize (w2.alloc (.cells zP0 180)).setCells w2.heap.size 0 (zAJ x (.slice av len cap))=w3 at *;generalize w2.heap.size=kx at *;have T2:=zAk kp r2 en [41] w3 h3 (by omega);rw [ht2] at T2;simp only at T2;go_wp2_with fail
    refine T2.mono ?_;rintro e w4 ⟨rfl,h4,hg4⟩;have pX4:=pX.grown hg4 (by intro e;have:=Option.some.inj e;omega);have pZ4:=pZ3.grown hg4 (by intro e;have:=Option.some.inj e;omega);have hP4:=Pt.grown hP3 hg4 (by omega);have hG4:=zAD hG3 hg4;clear pX pZ3 h3 hP3 hG3 T2 hg4;go_wp2_with fail
    refine (M0 _ h4).mono ?_;rintro e w5 ⟨rfl,hb⟩;go_wp2;exact ⟨rfl,rfl,zAD hG4 (zAE hb (some kp))⟩
   | some r3 =>
    simp only [zAQ];go_enter func242,ntmps242;go_wp2_with fail
    generalize w.alloc (.cells zP0 180)=wa at *;refine T1.mono ?_;rintro e w1 ⟨rfl,h1,hg1⟩;have pZ1:=pZ.grown hg1 (by intro e;have:=Option.some.inj e;omega);have hG1:=zAD (zAE hB0 (some kp)) hg1;have hE1:=hE0.grown hg1 hk8;clear pZ h0 hB0 hE0 T1 hg1;go_wp2_with fail
    refine (zA3 kp _).mono ?_;rintro e w2 ⟨rfl,rfl⟩;go_wp2_with fail
    refine (HF r w1 h1 (by omega) (by omega) hokr hE1).mono ?_;rintro e w2 hc;rw [hs] at hc;simp only [zAQ] at hc;obtain ⟨v,rfl,hP,h2,hg2⟩:=hc;have hsz1:w.heap.size<w1.heap.size:=pZ1.lt;have pZ2:=pZ1.grown hg2 (by intro e;have:=Option.some.inj e;omega);have hG2:=zAD hG1 hg2;obtain ⟨nn,x,sl,rfl,hp⟩:=hP;obtain ⟨av,len,cap,rfl⟩:=hp.one;clear pZ1 hG1 hE1 h1;unfold ptV;have pX0:AtL (w2.alloc (.cells zP0 180)) w2.heap.size (zAJ (bare 0) (.slice none 0 0)):=AtL.new0 w2 _ _;have hthX:World.there (w2.alloc (.cells zP0 180)) w2.heap.size 0 (zAJ x (.slice av len cap)).toArray.size:=pX0.there;go_upto_region 3 with ((with_reducible refine wpList_store_mid ?_ 180 (.tmp 3) (.tmp 9) ?_ (w2.heap.size) 0 (zAJ x (.slice av len cap)).toArray ?_ ?_ ?_ ?_ ?_ ?_);rfl;rfl;rfl;rfl;exact hthX;kernel_rfl;exact zAi _ _ rfl)
    have hbX:=zBJ (zAH (Below.refl _ w2) (.cells zP0 180)) (Nat.le_refl w2.heap.size) (zAJ x (.slice av len cap)) 0;have pX:AtL ((w2.alloc (.cells zP0 180)).setCells w2.heap.size 0 (zAJ x (.slice av len cap))) w2.heap.size (zAJ x (.slice av len cap)):=pX0.setAll rfl;have pZ3:=AtL.below hbX pZ2;have h3:=h2.below hbX;have hG3:=zAD hG2 (zAE hbX (some kp));have hP3:=Pt.below (v:=ptV x (.slice av len cap)) ⟨nn,x,_,rfl,hp⟩ hbX;have hkx:kp<w2.heap.size:=h2.lt;have hzx:=pZ2.lt;clear pX0 hthX hbX pZ2 h2 hG2 hp;generalize (w2.alloc (.cells zP0 180)).setCells w2.heap.size 0 (zAJ x (.slice av len cap))=w3 at *;generalize w2.heap.size=kx at *;have T2:=zAk kp r2 en [41] w3 h3 (by omega);rw [ht2] at T2;simp only at T2;go_wp2_with fail
    refine T2.mono ?_;rintro e w4 ⟨rfl,h4,hg4⟩;have pX4:=pX.grown hg4 (by intro e;have:=Option.some.inj e;omega);have pZ4:=pZ3.grown hg4 (by intro e;have:=Option.some.inj e;omega);have hP4:=Pt.grown hP3 hg4 (by omega);have hG4:=zAD hG3 hg4;clear pX pZ3 h3 hP3 hG3 T2 hg4;go_wp2_with fail
    refine (zA3 kp _).mono ?_;rintro e w5 ⟨rfl,rfl⟩;have rX:=pX4.range;have hth:World.there w4 w.heap.size 0 (zAJ x (.slice av len cap)).toArray.size:=pZ4.there;go_wp2_with (first | ((with_reducible refine wpList_load_mid (cs:=zAJ x (.slice av len cap)) ?_ 180 (.tmp 3) ?_ kx 0 ?_ _ ?_ underlying180 ?_ ?_ ?_);rfl;rfl;rfl;exact rX;rfl;kernel_rfl) | ((with_reducible refine wpList_store_mid ?_ 180 (.tmp 2) (.tmp 14) ?_ (w.heap.size) 0 (zAJ x (.slice av len cap)).toArray ?_ ?_ ?_ ?_ ?_ ?_);rfl;rfl;rfl;rfl;exact hth;kernel_rfl;exact zAi _ _ rfl))
    have pZ9:AtL (w4.setCells w.heap.size 0 (zAJ x (.slice av len cap))) w.heap.size (zAJ x (.slice av len cap)):=pZ4.setAll rfl;refine bodyPost_ret (zAO rfl _ _ w.heap.size (zAJ x (.slice av len cap)) _ rfl pZ9.range underlying180 rfl (by kernel_rfl)) rfl ?_;exact ⟨_,rfl,(hP4.far (by omega) 0 _).mono (by omega),h4.farAll hkp _ 0,zAN hG4 (Nat.le_refl _) _ 0⟩
theorem bs1 (x:Wt.Nd) (av:Option Addr) (len cap:Nat) (w:World):(Instr.buildSlice 178 1 #[(0,.agg (zAJ x (.slice av len cap)).toArray)]).run prog w=.ok (.slice (some ⟨w.heap.size,0,none⟩) 1 1) (w.alloc (.cells (zAJ x (.slice av len cap)).toArray 180)):=by kernel_rfl
theorem bs2 (x:Wt.Nd) (av:Option Addr) (len cap:Nat) (y:Wt.Nd) (bv:Option Addr) (ben bap:Nat) (w:World):(Instr.buildSlice 178 2 #[(0,.agg (zAJ x (.slice av len cap)).toArray),(1,.agg (zAJ y (.slice bv ben bap)).toArray)]).run prog w=.ok (.slice (some ⟨w.heap.size,0,none⟩) 2 2) (w.alloc (.cells (zAJ x (.slice av len cap)++zAJ y (.slice bv ben bap)).toArray 180)):=by kernel_rfl
theorem zNN (y:Operand) (ho:op.op=.buildSlice 178 1 #[(0,y)]) (x:Wt.Nd) (av:Option Addr) (len cap:Nat) (hy:a.eval y=.agg (zAJ x (.slice av len cap)).toArray)
  (h:K (a.put op.dst (.slice (some ⟨w.heap.size,0,none⟩) 1 1)) (w.alloc (.cells (zAJ x (.slice av len cap)).toArray 180))):op.wp prog a w K Q:=by
 unfold Oper.wp execOp;simp only [ho,List.map_toArray,List.map_cons,List.map_nil,hy,Sem.run_bind,Sem.run_pure,Result.andThen_ok,bs1];exact h
theorem zNR (y z:Operand) (ho:op.op=.buildSlice 178 2 #[(0,y),(1,z)]) (x:Wt.Nd) (av:Option Addr) (len cap:Nat) (u:Wt.Nd) (bv:Option Addr) (ben bap:Nat) (hy:a.eval y=.agg (zAJ x (.slice av len cap)).toArray) (hz:a.eval z=.agg (zAJ u (.slice bv ben bap)).toArray)
  (h:K (a.put op.dst (.slice (some ⟨w.heap.size,0,none⟩) 2 2)) (w.alloc (.cells (zAJ x (.slice av len cap)++zAJ u (.slice bv ben bap)).toArray 180))):op.wp prog a w K Q:=by
 unfold Oper.wp execOp;simp only [ho,List.map_toArray,List.map_cons,List.map_nil,hy,hz,Sem.run_bind,Sem.run_pure,Result.andThen_ok,bs2];exact h
theorem zCK {ops:Array Oper} {rest:List Oper} (hgd:op.guard=none) (y:Operand) (ho:op.op=.buildSlice 178 1 #[(0,y)]) (x:Wt.Nd) (av:Option Addr) (len cap:Nat) (hy:a.eval y=.agg (zAJ x (.slice av len cap)).toArray)
  (h:wpList prog ops Q rest (a.put op.dst (.slice (some ⟨w.heap.size,0,none⟩) 1 1)) (w.alloc (.cells (zAJ x (.slice av len cap)).toArray 180))):wpList prog ops Q (op::rest) a w :=
 wpList_plain hgd λ_ hK=>zNN y ho x av len cap hy (hK _ _ h)
theorem PtIs.inside {w:World} {G G':Nat->Prop} (hlo:∀ b,G b->b<w.heap.size->G' b):∀ (n:Nat) {x:Wt.Nd} {sl:Value} {row:List Wt.Nd},PtIs w G n x sl row->PtIs w G' n x sl row
 | 0,_,_,_,h=>h
 | n+1,x,sl,row,⟨av,cap,ps,rows,e,hl,hr,hp⟩=>⟨av,cap,ps,rows,e,hl,hr,λi h h'=>by
   obtain ⟨bb,e1,e2,e3,e4⟩:=hp i h h';exact ⟨bb,e1,hlo _ e2 (zDW e3),e3,PtIs.inside hlo n e4⟩⟩
theorem PtIs.un {row:List Wt.Nd} (h:PtIs w G n x sl row) (hb:G b) (hr:w.rangeAt b 0 (zAJ x sl)):PtIs w G (n+1) z (.slice (some ⟨b,0,none⟩) 1 1) (z::row):=by
 refine ⟨some ⟨b,0,none⟩,1,[(x,sl)],[row],rfl,rfl,by simp,λi hi hi'=>?_⟩;obtain rfl:i=0:=by simp at hi;exact hi
 exact ⟨b,rfl,hb,hr,h⟩
theorem PtIs.bin {m:Nat} {y:Wt.Nd} {tl:Value} {row rol:List Wt.Nd} (h:PtIs w G n x sl row) (h2:PtIs w G m y tl rol) (hb:G b) (hr:w.rangeAt b 0 (zAJ x sl)) (hr2:w.rangeAt b 21 (zAJ y tl)):PtIs w G (max n m+1) z (.slice (some ⟨b,0,none⟩) 2 2) (z::(row++rol)):=by
 refine ⟨some ⟨b,0,none⟩,2,[(x,sl),(y,tl)],[row,rol],rfl,rfl,by simp,λi hi hi'=>?_⟩;match i,hi with
 | 0,_=>exact ⟨b,rfl,hb,hr,h.upto (by omega)⟩
 | 1,_=>exact ⟨b,rfl,hb,hr2,h2.upto (by omega)⟩
theorem zFM (w:World) (T:TypeId) (a c:List Value):(w.alloc (.cells (a++c).toArray T)).rangeAt w.heap.size 0 a/\(w.alloc (.cells (a++c).toArray T)).rangeAt w.heap.size a.length c:=by
 have h:=AtL.new0 w T (a++c);refine ⟨λj v hv=>?_,λj v hv=>?_⟩
 ·rw [Nat.zero_add];exact h.2.1 j v (by rw [List.getElem?_append_left (List.getElem?_eq_some_iff.1 hv).1];exact hv)
 ·exact h.2.1 (a.length+j) v (by rw [List.getElem?_append_right (Nat.le_add_right _ _),Nat.add_sub_cancel_left];exact hv)
def zNQ (kp:Nat) (en:Int) (F:Nat) (sub:List Wlx.TV->PR) (n:Nat):Prop :=
 ∀ (ts:List Wlx.TV) (w:World),PSt w kp ts en->ts.length<=n->ts.length<=1024->(∀ t ∈ ts,zA5 t)->Env w->Calls prog F #[.pointer (some ⟨kp,0,none⟩)] w λe w'=>zAQ kp en (sub ts) w e w'
def psg (sub5 sub6:List Wlx.TV->PR) (ts:List Wlx.TV):PR:=match zBk 5 ts with
 | some (o,r)=>(match sub5 r with
  | .inr e=>.inr e
  | .inl (row,r2)=>.inl (opN (zAo o.2.2) o.1::row,r2))
 | none=>sub6 ts
def psi (en:Int) (subW subB:List Wlx.TV->PR) (ts:List Wlx.TV):PR :=
 if (hd ts en).k=3 then subW ts else if (hd ts en).k=5 then subB ts else pl ts en
def zLJ (kp:Nat) (en:Int) (k:Nat) (sub:List Wlx.TV->PR) (n:Nat):Prop :=
 ∀ (ts:List Wlx.TV) (w:World),PSt w kp ts en->ts.length<=n->ts.length<=1024->(∀ t ∈ ts,zA5 t)->Env w->Calls prog 155 #[.pointer (some ⟨kp,0,none⟩),.int .i64 k] w λe w'=>zAQ kp en (sub ts) w e w'
theorem zF4 (kp:Nat) (en:Int) (sub:List Wlx.TV->PR) (n:Nat) (HB:zLJ kp en 0 sub n):zDp kp en sub n:=by
 intro ts w h hn hts hok hE;have hB0:=zAH (Below.refl _ w) (.cells zP0 180);have pZ:AtL (w.alloc (.cells zP0 180)) w.heap.size (zAJ (bare 0) (.slice none 0 0)):=AtL.new0 w _ _;have h0:=h.below hB0;have hE0:=hE.below hB0;have hkp:=h.lt;cases hs:sub ts with
 | inr q =>
  obtain ⟨c,p⟩:=q;simp only [zAQ];go_enter func128,ntmps128;have pZ1:=pZ;have h1:=h0;have hE1:=hE0;have hG1:=zAE hB0 (some kp);clear pZ h0 hB0 hE0;go_wp2_with fail
  refine (HB ts _ h1 hn hts hok hE1).mono ?_;rintro e w3 hc;rw [hs] at hc;simp only [zAQ] at hc;obtain ⟨rfl,hg⟩:=hc;unfold zB2;go_wp2;exact ⟨rfl,rfl,zAD hG1 hg⟩
 | inl q =>
  obtain ⟨row,r2⟩:=q;simp only [zAQ];go_enter func128,ntmps128;have pZ1:=pZ;have h1:=h0;have hE1:=hE0;have hG1:=zAE hB0 (some kp);clear pZ h0 hB0 hE0;have hz1:=pZ1.lt;go_wp2_with fail
  refine (HB ts _ h1 hn hts hok hE1).mono ?_;rintro e w3 hc;rw [hs] at hc;simp only [zAQ] at hc;obtain ⟨v,rfl,hP,h3,hg⟩:=hc;have pZ3:=pZ1.grown hg (by intro e;have:=Option.some.inj e;omega);have hG3:=zAD hG1 hg;obtain ⟨nn,x,sl,rfl,hp⟩:=hP;obtain ⟨av,len,cap,rfl⟩:=hp.one;have hth:World.there w3 w.heap.size 0 (zAJ x (.slice av len cap)).toArray.size:=pZ3.there;clear pZ1 hG1 hE1 h1 hg;unfold ptV;go_wp2_with ((with_reducible refine wpList_store_mid ?_ 180 (.tmp 2) (.tmp 4) ?_ (w.heap.size) 0 (zAJ x (.slice av len cap)).toArray ?_ ?_ ?_ ?_ ?_ ?_);rfl;rfl;rfl;rfl;exact hth;kernel_rfl;exact zAi _ _ rfl)
  have pZ9:AtL (w3.setCells w.heap.size 0 (zAJ x (.slice av len cap))) w.heap.size (zAJ x (.slice av len cap)):=pZ3.setAll rfl;refine bodyPost_ret (zAO rfl _ _ w.heap.size (zAJ x (.slice av len cap)) _ rfl pZ9.range underlying180 rfl (by kernel_rfl)) rfl ?_;exact ⟨_,rfl,(Pt.far (show Pt w3 _ (ptV x (.slice av len cap)) row from ⟨nn,x,_,rfl,hp⟩) (by omega) 0 _).mono (by omega),h3.farAll hkp _ 0,zAN hG3 (Nat.le_refl _) _ 0⟩
