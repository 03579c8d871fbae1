/- TParC, BRead, BReadF, BTo. -/
import Derived.Test.YtedifblompcdkaaGreatDoorQ38
set_option maxHeartbeats 1600000
set_option maxRecDepth 100000
namespace Go.Proofs.YtedifblompcdkaaGreatDoor
open Tryz
variable {sub:List Wlx.TV->PR} {N:Nat} {c p en:Int} {ts:List Wlx.TV} {l:List UInt8}
open Go.RowKit Go.Shelf
set_option linter.unusedVariables false
theorem zOF (h:pl ts en=.inr (c,p)):c ≠ 0:=by
 unfold pl at h;split at h
 ·cases h
 ·simp only [Sum.inr.injEq,Prod.mk.injEq] at h;omega
theorem zJs (h:pc ts en=.inr (c,p)):c ≠ 0:=by
 unfold pc at h;repeat' split at h
 all_goals first | (simp only [Sum.inr.injEq,Prod.mk.injEq] at h;omega) | cases h
theorem zHS {s:ByteArray} (h:pcs s ts en=.inr (c,p)):c ≠ 0:=by
 unfold pcs at h;cases h1:pc ts en with
 | inr e=>rw [h1] at h;simp only [Sum.inr.injEq] at h;rw [h] at h1;exact zJs h1
 | inl q =>
  obtain ⟨a,r1⟩:=q;rw [h1] at h;simp only at h;cases h2:tk r1 [58] with
  | none=>rw [h2] at h;cases h
  | some r2 =>
   rw [h2] at h;simp only at h;cases h3:pc r2 en with
   | inr e=>rw [h3] at h;simp only [Sum.inr.injEq] at h;rw [h] at h3;exact zJs h3
   | inl q=>rw [h3] at h;cases h
theorem zIj (hsub:∀ ts row r,sub ts=.inl (row,r)->r <:+ ts) (hcode:∀ ts c p,ts.length<=N->sub ts=.inr (c,p)->c ≠ 0) (k:Int):∀ (n:Nat) (row:List Wt.Nd) (ts:List Wlx.TV) (c p:Int),ts.length<=N->more sub k n row ts=.inr (c,p)->c ≠ 0:=by
 intro n;induction n with
 | zero=>intro row ts c p hN h;cases h
 | succ n ih =>
  intro row ts c p hN h;simp only [more] at h;cases h1:zBk k ts with
  | none=>rw [h1] at h;cases h
  | some q =>
   obtain ⟨o,r1⟩:=q;rw [h1] at h;simp only at h;have s1:=(zAl h1).2;cases h2:sub r1 with
   | inr e=>rw [h2] at h;simp only [Sum.inr.injEq] at h;rw [h] at h2;exact hcode _ _ _ (by omega) h2
   | inl q =>
    obtain ⟨row2,r2⟩:=q;rw [h2] at h;simp only at h;have:=(hsub _ _ _ h2).length_le;exact ih _ _ _ _ (by omega) h
theorem zIu (hsub:∀ ts row r,sub ts=.inl (row,r)->r <:+ ts) (hcode:∀ ts c p,ts.length<=N->sub ts=.inr (c,p)->c ≠ 0) (en:Int):∀ (n c0:Nat) (rows:List Wt.Nd) (ts:List Wlx.TV) (c p:Int),ts.length<=N->zDZ sub en n c0 rows ts=.inr (c,p)->c ≠ 0:=by
 intro n;induction n with
 | zero=>intro c0 rows ts c p hN h;simp only [zDZ,Sum.inr.injEq,Prod.mk.injEq] at h;omega
 | succ n ih =>
  intro c0 rows ts c p hN h;simp only [zDZ] at h;cases h1:tk ts [41] with
  | some q=>rw [h1] at h;cases h
  | none =>
   rw [h1] at h;simp only at h;split at h
   ·simp only [Sum.inr.injEq,Prod.mk.injEq] at h;omega
   ·cases h2:tk ts [44] with
    | none=>rw [h2] at h;simp only [Sum.inr.injEq,Prod.mk.injEq] at h;omega
    | some r1 =>
     rw [h2] at h;simp only at h;have s1:=(zBC h2).2;cases h3:sub r1 with
     | inr e=>rw [h3] at h;simp only [Sum.inr.injEq] at h;rw [h] at h3;exact hcode _ _ _ (by omega) h3
     | inl q =>
      obtain ⟨row,r2⟩:=q;rw [h3] at h;simp only at h;have:=(hsub _ _ _ h3).length_le;exact ih _ _ _ _ _ (by omega) h
theorem zIH (hsub:∀ ts row r,sub ts=.inl (row,r)->r <:+ ts) (hcode:∀ ts c p,ts.length<=N->sub ts=.inr (c,p)->c ≠ 0) (en:Int) (nm:List UInt8) (ts:List Wlx.TV) (c p:Int) (hN:ts.length<=N) (h:zEB sub en nm ts=.inr (c,p)):c ≠ 0:=by
 unfold zEB at h;cases h1:tk ts [41] with
 | some q=>rw [h1] at h;cases h
 | none =>
  rw [h1] at h;simp only at h;cases h2:sub ts with
  | inr e=>rw [h2] at h;simp only [Sum.inr.injEq] at h;rw [h] at h2;exact hcode _ _ _ hN h2
  | inl q =>
   obtain ⟨row1,r1⟩:=q;rw [h2] at h;simp only at h;have:=(hsub _ _ _ h2).length_le;cases h3:zDZ sub en (r1.length+1) 1 row1 r1 with
   | inr e=>rw [h3] at h;simp only [Sum.inr.injEq] at h;rw [h] at h3;exact zIu hsub hcode en _ _ _ _ _ _ (by omega) h3
   | inl q=>rw [h3] at h;cases h
theorem zHf (hsub:∀ ts row r,sub ts=.inl (row,r)->r <:+ ts) (hcode:∀ ts c p,ts.length<=N->sub ts=.inr (c,p)->c ≠ 0) (en:Int) (ts:List Wlx.TV) (c p:Int) (hN:ts.length<=N+2) (h:zCq sub en ts=.inr (c,p)):c ≠ 0:=by
 unfold zCq at h;split at h
 ·split at h
  ·exact zIH hsub hcode en _ _ _ _ (by rw [List.length_drop];omega) h
  ·simp only [Sum.inr.injEq,Prod.mk.injEq] at h;omega
 split at h
 ·split at h
  ·exact zHS h
  ·simp only [Sum.inr.injEq,Prod.mk.injEq] at h;omega
 split at h
 ·cases h
 split at h
 ·cases h
 ·exact zHS h
theorem zFv  (hcode:∀ ts c p,ts.length<=N->sub ts=.inr (c,p)->c ≠ 0) (en:Int) (ts:List Wlx.TV) (c p:Int) (hN:ts.length<=N+1) (h:zBg sub en ts=.inr (c,p)):c ≠ 0:=by
 unfold zBg at h;cases h1:tk ts [40] with
 | none=>rw [h1] at h;simp only [Sum.inr.injEq,Prod.mk.injEq] at h;omega
 | some r1 =>
  rw [h1] at h;simp only at h;have s1:=(zBC h1).2;cases h2:sub r1 with
  | inr e=>rw [h2] at h;simp only [Sum.inr.injEq] at h;rw [h] at h2;exact hcode _ _ _ (by omega) h2
  | inl q =>
   obtain ⟨row2,r2⟩:=q;rw [h2] at h;simp only at h;cases h3:tk r2 [41] with
   | none=>rw [h3] at h;simp only [Sum.inr.injEq,Prod.mk.injEq] at h;omega
   | some r3=>rw [h3] at h;cases h
theorem zMM:∀ (n:Nat) (row:List Wt.Nd) (ts:List Wlx.TV) (c p:Int),pct n row ts=.inr (c,p)->False:=by
 intro n;induction n with
 | zero=>intro row ts c p h;cases h
 | succ n ih =>
  intro row ts c p h;simp only [pct] at h;cases h1:zBk 6 ts with
  | none=>rw [h1] at h;cases h
  | some q=>obtain ⟨o,r1⟩:=q;rw [h1] at h;simp only at h;exact ih _ _ _ _ h
theorem zOZ (en:Int):∀ (f k:Nat) (ts:List Wlx.TV) (c p:Int),k<=7->(if k<5 then 10 * ts.length+9 - k else if k=5 then 10 * ts.length+4 else if k=6 then 10 * ts.length+3 else 10 * ts.length+2)<=f->lv en f k ts=.inr (c,p)->c ≠ 0:=by
 intro f;induction f with
 | zero =>
   intro k ts c p hk hf h;repeat' split at hf
   all_goals omega
 | succ f ih =>
  intro k ts c p hk hf h;by_cases h5:k<5
  ·rw [if_pos h5] at hf;rw [zN7 _ _ _ h5] at h;unfold pbt at h;have hs:∀ us c p,us.length<=ts.length->lv en f (k+1) us=.inr (c,p)->c ≠ 0:=by
    intro us c p hu hh;refine ih (k+1) us c p (by omega) ?_ hh;split
    ·omega
    ·rw [if_pos (by omega)];omega
   cases h1:lv en f (k+1) ts with
   | inr e=>rw [h1] at h;simp only [Sum.inr.injEq] at h;rw [h] at h1;exact hs _ _ _ (Nat.le_refl _) h1
   | inl q =>
    obtain ⟨row1,r1⟩:=q;rw [h1] at h;simp only at h;have:=(zC6 en _ _ _ _ _ h1).length_le;exact zIj (N:=ts.length) (zC6 en f (k+1)) hs _ _ _ _ _ _ (by omega) h
  rw [if_neg h5] at hf;by_cases e5:k=5
  ·subst e5;rw [if_pos rfl] at hf;rw [zOi] at h;unfold psg at h;cases h1:zBk 5 ts with
   | none=>rw [h1] at h;exact ih 6 ts c p (by omega) (by simp;omega) h
   | some q =>
    obtain ⟨o,r1⟩:=q;rw [h1] at h;simp only at h;have s1:=(zAl h1).2;cases h2:lv en f 5 r1 with
    | inr e=>rw [h2] at h;simp only [Sum.inr.injEq] at h;rw [h] at h2;exact ih 5 r1 c p (by omega) (by simp;omega) h2
    | inl q=>rw [h2] at h;cases h
  rw [if_neg e5] at hf;by_cases e6:k=6
  ·subst e6;rw [if_pos rfl] at hf;rw [zPG] at h;unfold ppc at h;cases h1:lv en f 7 ts with
   | inr e=>rw [h1] at h;simp only [Sum.inr.injEq] at h;rw [h] at h1;exact ih 7 ts c p (by omega) (by simp;omega) h1
   | inl q=>obtain ⟨row1,r1⟩:=q;rw [h1] at h;simp only at h;exact (zMM _ _ _ _ _ h).elim
  rw [if_neg e6] at hf;obtain rfl:k=7:=by omega
  rw [zOM] at h;unfold psi at h;split at h
  ·rename_i h3
   cases ts with
   | nil=>exact absurd h3 (by rw [zDm];decide)
   | cons t q =>
    simp only [List.length_cons] at hf;refine zHf (N:=q.length) (zC6 en f 0) (λus c p hu hh=>ih 0 us c p (by omega) (by simp;omega) hh) en _ _ _ (by simp only [List.length_cons];omega) h
  split at h
  ·cases ts with
   | nil=>rename_i h3;exact absurd h3 (by rw [zDm];decide)
   | cons t q =>
    simp only [List.length_cons] at hf;refine zFv (N:=q.length) (λus c p hu hh=>ih 0 us c p (by omega) (by simp;omega) hh) en _ _ _ (by simp only [List.length_cons];omega) h
  ·exact zOF h
theorem zI4 (h:zIO l=.inr (c,p)):c ≠ 0:=by
 unfold zIO at h;cases hr:zA7 l with
 | inr q =>
  obtain ⟨c',p'⟩:=q;rw [hr] at h;simp only [Sum.inr.injEq,Prod.mk.injEq] at h;have:=zFZ hr;omega
 | inl ts =>
  rw [hr] at h;simp only at h;unfold zLD at h;cases hp:zJQ (lv (l.length:Int) (10 * (ts.map Wlx.tv).length+9) 0) (l.length:Int) (ts.map Wlx.tv) with
  | inr q =>
   rw [hp] at h;simp only [Sum.inr.injEq] at h;subst h;unfold zJQ at hp;split at hp
   ·rename_i e he
    simp only [Sum.inr.injEq] at hp;subst hp;exact zOZ _ _ 0 _ _ _ (by omega) (by simp) he
   ·cases hp
   ·simp only [Sum.inr.injEq,Prod.mk.injEq] at hp;omega
  | inl q =>
   obtain ⟨row,rr⟩:=q;rw [hp] at h;simp only at h;split at h
   ·cases h
   ·rename_i hc
    simp only [Sum.inr.injEq,Prod.mk.injEq] at h;omega
theorem zLn {row:List Wt.Nd} (h:zIO l=.inl row):(∀ x ∈ row,Wt.FitN x)/\Wt.check row=0:=by
 unfold zIO at h;cases hr:zA7 l with
 | inr q =>
  obtain ⟨c',p'⟩:=q;rw [hr] at h;cases h
 | inl ts =>
  rw [hr] at h;simp only at h;have hok:∀ t ∈ ts.map Wlx.tv,zA5 t:=by
   unfold zA7 at hr;split at hr
   ·cases hr
   ·exact (zJE _ 0 l (Nat.le_refl _) (by omega) ts hr).2
  unfold zLD at h;cases hp:zJQ (lv (l.length:Int) (10 * (ts.map Wlx.tv).length+9) 0) (l.length:Int) (ts.map Wlx.tv) with
  | inr q=>rw [hp] at h;cases h
  | inl q =>
   obtain ⟨row',rr⟩:=q;rw [hp] at h;simp only at h;split at h
   ·rename_i hc
    simp only [Sum.inl.injEq] at h;subst h;refine ⟨?_,hc⟩;unfold zJQ at hp;split at hp
    ·cases hp
    ·rename_i row'' he
     simp only [Sum.inl.injEq,Prod.mk.injEq] at hp;rw [<-hp.1];exact (zNP _ _ _ _ _ _ hok he).1
    ·cases hp
   ·cases h
open Go.RowKit Wf
theorem zAd {P:Program} {fn:Func} {t s u:Tmp} {T:TypeId} (h:fn.results=#[.cell t T,.tmp s,.tmp u]) (tmps:Array Value) (w:World) (b:Nat) (cs:List Value) (d:TypeDesc) (ht:tmps.getD t undef=.pointer (some ⟨b,0,none⟩)) (hc:w.rangeAt b 0 cs)
  (hu:P.underlying T=some d) (hd:d.isRow=true) (hi:(P.info? T).map (·.size)=some cs.length):(results fn tmps).run P w=.ok (.tuple #[.agg cs.toArray,tmps.getD s undef,tmps.getD u undef]) w:=by
 have hl:=run_loadVar_mid (P:=P) w b 0 T cs d hc hu hd hi;have ht':tmps[t]?.getD undef=.pointer (some ⟨b,0,none⟩):=by rw [<-ht];simp
 simp only [results,h];simp [ht',hl,asAddr]
def BEnv (w:World):Prop:=Env w/\NmAt w/\8<=w.heap.size
theorem BEnv.below {w w':World} (h:BEnv w) (hb:Below w.heap.size w w'):BEnv w':=⟨h.1.below hb,h.2.1.below hb,Nat.le_trans h.2.2 hb.size⟩
def zRi (t:ByteArray) (R:List I ⊕ (Int × Int)) (w:World) (e:Ending) (w':World):Prop :=
 (
   match R with
   | .inl C=>∃ f:Ct,f.t=t/\CdP w' w.heap.size f.v C/\e=.returned (.tuple #[ctV f,.int .i64 0,.int .i64 0])
   | .inr q=>q.1 ≠ 0/\e=.returned (.tuple #[ctV ct0,.int .i64 q.1,.int .i64 q.2]))/\Below w.heap.size w w'
def zE0 (nm:List ByteArray) (x:Wpl.Cl) (t:ByteArray) (R:List I ⊕ (Int × Int)):Prop :=
 ∀ (bb mb:Nat) (na:Option Addr) (nk:Nat) (ver:Int) (w:World),BEnv w->AtL w bb [.slice na nm.length nk,.int .i64 ver,.map (some mb)]->RdS w na nm->nm.length<=nk ->
  Calls prog 49 #[.pointer (some ⟨bb,0,none⟩),.agg #[.int .i64 x.s,.int .i64 x.r,.int .i64 x.c],.string t] w (zRi t R w)
theorem zK5 (nm:List ByteArray) (x:Wpl.Cl) (t:ByteArray) (h:1024<t.size) (hs:t.size<=9223372036854775807):zE0 nm x t (.inr (2,0)):=by
 intro bb mb na nk ver w hE hd hr hk;have hb0:=zAH (zAH (Below.refl _ w) (.cells #[.int .i64 x.s,.int .i64 x.r,.int .i64 x.c] 24)) (.cells #[.string ⟨#[]⟩,.slice none 0 0] 61);have q:=AtL.new1 w (.cells #[.int .i64 x.s,.int .i64 x.r,.int .i64 x.c] 24) 61 [.string ⟨#[]⟩,.slice none 0 0];have hi:(1024:Int)<(t.size:Int):=by omega
 clear hE hd hr hk h;go_enter func49,ntmps49;go_upto_region 1 with fail
 generalize (w.alloc (.cells #[.int .i64 x.s,.int .i64 x.r,.int .i64 x.c] 24)).alloc (.cells #[.string ⟨#[]⟩,.slice none 0 0] 61)=W0 at *;go_upto_region 2 with fail
 have q2:=(q.set 0 (.string ⟨#[]⟩)).set 1 (.slice none 0 0);have hb2:=(hb0.setCell (p:=⟨w.heap.size+1,0,none⟩) (Nat.le_succ _) (.string ⟨#[]⟩)).setCell (p:=⟨w.heap.size+1,1,none⟩) (Nat.le_succ _) (.slice none 0 0);obtain ⟨_,_,z0,z1⟩:=q.two;obtain ⟨_,_,y0,y1⟩:=(q.set 0 (.string ⟨#[]⟩)).two;go_wp2;refine bodyPost_ret (zAd (by rfl) _ _ (w.heap.size+1) [.string ⟨#[]⟩,.slice none 0 0] _ (by rfl) q2.range underlying61 rfl (by kernel_rfl)) rfl ⟨⟨by decide,rfl⟩,hb2⟩
theorem zL2 (nm:List ByteArray) (x:Wpl.Cl) (t:ByteArray) (h:t.size<=1024) (n:Nat) (hf:fgn t.data.toList 0=(n:Int)):zE0 nm x t (.inr (111,(n:Int))):=by
 intro bb mb na nk ver w hE hd hr hk;have hb0:=zAH (zAH (Below.refl _ w) (.cells #[.int .i64 x.s,.int .i64 x.r,.int .i64 x.c] 24)) (.cells #[.string ⟨#[]⟩,.slice none 0 0] 61);have q:=AtL.new1 w (.cells #[.int .i64 x.s,.int .i64 x.r,.int .i64 x.c] 24) 61 [.string ⟨#[]⟩,.slice none 0 0];have hi:¬ (1024:Int)<(t.size:Int):=by omega
 have FG:=λW=>zBM t W h
 rw [hf] at FG;have hn:(0:Int)<=(n:Int):=by omega
 clear hE hd hr hk h hf;go_enter func49,ntmps49;go_upto_region 1 with fail
 generalize (w.alloc (.cells #[.int .i64 x.s,.int .i64 x.r,.int .i64 x.c] 24)).alloc (.cells #[.string ⟨#[]⟩,.slice none 0 0] 61)=W0 at *;go_wp2_with fail
 refine (FG _).mono ?_;rintro e w1 ⟨rfl,hb1⟩;replace q:=AtL.below hb1 q
 replace hb0:=zAA hb0 hb1
 clear FG hb1;go_upto_region 5 with fail
 have q2:=(q.set 0 (.string ⟨#[]⟩)).set 1 (.slice none 0 0);have hb2:=(hb0.setCell (p:=⟨w.heap.size+1,0,none⟩) (Nat.le_succ _) (.string ⟨#[]⟩)).setCell (p:=⟨w.heap.size+1,1,none⟩) (Nat.le_succ _) (.slice none 0 0);obtain ⟨_,_,z0,z1⟩:=q.two;obtain ⟨_,_,y0,y1⟩:=(q.set 0 (.string ⟨#[]⟩)).two;go_wp2;refine bodyPost_ret (zAd (by rfl) _ _ (w.heap.size+1) [.string ⟨#[]⟩,.slice none 0 0] _ (by rfl) q2.range underlying61 rfl (by kernel_rfl)) rfl ⟨⟨by show (111:Int) ≠ 0;decide,rfl⟩,hb2⟩
theorem zGb (nm:List ByteArray) (x:Wpl.Cl) (t:ByteArray) (h:t.size<=1024) (hf:fgn t.data.toList 0 = -1) (hx:¬ t.data.toList.head? = some 61):zE0 nm x t (.inl []):=by
 intro bb mb na nk ver w hE hd hr hk;have hb0:=zAH (zAH (Below.refl _ w) (.cells #[.int .i64 x.s,.int .i64 x.r,.int .i64 x.c] 24)) (.cells #[.string ⟨#[]⟩,.slice none 0 0] 61);have q:=AtL.new1 w (.cells #[.int .i64 x.s,.int .i64 x.r,.int .i64 x.c] 24) 61 [.string ⟨#[]⟩,.slice none 0 0];have hi:¬ (1024:Int)<(t.size:Int):=by omega
 have FG:=λW=>zBM t W h
 have CP:=λW=>zNu t W hx
 rw [hf] at FG;clear hE hd hr hk h hf hx;go_enter func49,ntmps49;go_upto_region 1 with fail
 generalize (w.alloc (.cells #[.int .i64 x.s,.int .i64 x.r,.int .i64 x.c] 24)).alloc (.cells #[.string ⟨#[]⟩,.slice none 0 0] 61)=W0 at *;go_wp2_with fail
 refine (FG _).mono ?_;rintro e w1 ⟨rfl,hb1⟩;replace q:=AtL.below hb1 q
 replace hb0:=zAA hb0 hb1
 clear FG hb1;go_wp2_with fail
 refine (CP _).mono ?_;rintro e w2 ⟨rfl,rfl⟩;clear CP;go_upto_region 8 with fail
 have q2:=(q.set 0 (.string t)).set 1 (.slice none 0 0);have hb2:=(hb0.setCell (p:=⟨w.heap.size+1,0,none⟩) (Nat.le_succ _) (.string t)).setCell (p:=⟨w.heap.size+1,1,none⟩) (Nat.le_succ _) (.slice none 0 0);obtain ⟨_,_,z0,z1⟩:=q.two;obtain ⟨_,_,y0,y1⟩:=(q.set 0 (.string t)).two;go_wp2;refine bodyPost_ret (zAd (by rfl) _ _ (w.heap.size+1) [.string t,.slice none 0 0] _ (by rfl) q2.range underlying61 rfl (by kernel_rfl)) rfl ⟨⟨⟨t,none,0,0⟩,rfl,CdP.nil _ _,rfl⟩,hb2⟩
theorem zMT (nm:List ByteArray) (x:Wpl.Cl) (u:List UInt8) (t:ByteArray) (ht:t=⟨(61::u).toArray⟩) (h:t.size<=1024) (hf:fgn t.data.toList 0 = -1) (c p:Int) (hp:zIO u=.inr (c,p)):zE0 nm x t (.inr (c,wrap64 (p+1))):=by
 intro bb mb na nk ver w hE hd hr hk;have hb0:=zAH (zAH (Below.refl _ w) (.cells #[.int .i64 x.s,.int .i64 x.r,.int .i64 x.c] 24)) (.cells #[.string ⟨#[]⟩,.slice none 0 0] 61);have q:=AtL.new1 w (.cells #[.int .i64 x.s,.int .i64 x.r,.int .i64 x.c] 24) 61 [.string ⟨#[]⟩,.slice none 0 0];have hi:¬ (1024:Int)<(t.size:Int):=by omega
 have FG:=λW=>zBM t W h
 have hul:u.length<=1024:=by
  have:t.size=u.length+1:=by rw [ht];rfl
  omega
 have CP:=λW=>zEC u W (by omega)
 rw [<-ht] at CP;have hc:=zI4 hp;have HPA:Hid (∀ W,BEnv W->Calls prog 73 #[.string ⟨u.toArray⟩] W λe w'=>e=.returned (.tuple #[.slice none 0 0,.int .i64 c,.int .i64 p])/\Below W.heap.size W w'):=λW hW=>by
  have:=zD1 ⟨u.toArray⟩ W hW.1 (by show u.length<=_;omega) hW.2.2;rw [hp] at this;exact this
 have HE:Hid (BEnv w):=hE;rw [hf] at FG;have HC:Hid (c ≠ 0):=hc;have hcn:¬ c=0:=hc;clear hE hd hr hk h hf hp ht hul hc;go_enter func49,ntmps49;go_upto_region 1 with fail
 generalize (w.alloc (.cells #[.int .i64 x.s,.int .i64 x.r,.int .i64 x.c] 24)).alloc (.cells #[.string ⟨#[]⟩,.slice none 0 0] 61)=W0 at *;go_wp2_with fail
 refine (FG _).mono ?_;rintro e w1 ⟨rfl,hb1⟩;replace q:=AtL.below hb1 q
 replace hb0:=zAA hb0 hb1
 have HE1:Hid (BEnv w1):=HE.out.below hb0;clear FG hb1;go_wp2_with fail
 refine (CP _).mono ?_;rintro e w2 ⟨rfl,rfl⟩;clear CP;go_wp2_with fail
 refine (HPA.out _ HE1.out).mono ?_;rintro e w3 ⟨rfl,hb3⟩;replace q:=AtL.below hb3 q
 replace hb0:=zAA hb0 hb3
 clear hb3 HPA HE HE1;go_upto_region 11 with fail
 have q2:=(q.set 0 (.string ⟨#[]⟩)).set 1 (.slice none 0 0);have hb2:=(hb0.setCell (p:=⟨w.heap.size+1,0,none⟩) (Nat.le_succ _) (.string ⟨#[]⟩)).setCell (p:=⟨w.heap.size+1,1,none⟩) (Nat.le_succ _) (.slice none 0 0);obtain ⟨_,_,z0,z1⟩:=q.two;obtain ⟨_,_,y0,y1⟩:=(q.set 0 (.string ⟨#[]⟩)).two;go_wp2;refine bodyPost_ret (zAd (by rfl) _ _ (w.heap.size+1) [.string ⟨#[]⟩,.slice none 0 0] _ (by rfl) q2.range underlying61 rfl (by kernel_rfl)) rfl ⟨⟨HC.out,rfl⟩,hb2⟩
def zPJ (nm:List ByteArray) (x:Wpl.Cl) (row:List Wt.Nd) (E:Int) (C:List I):Prop :=
 ∀ (w:World) (B:Nat) (v:Value) (na:Option Addr) (nk:Nat),NmAt w->OpsAt w->OwnN w B v row->RdS w na nm->nm.length<=nk->Calls prog 74 #[v,.agg #[.int .i64 x.s,.int .i64 x.r,.int .i64 x.c],.slice na nm.length nk] w (FlP E C w)
theorem zJA (nm:List ByteArray) (x:Wpl.Cl) (u:List UInt8) (t:ByteArray) (ht:t=⟨(61::u).toArray⟩) (h:t.size<=1024) (hf:fgn t.data.toList 0 = -1) (row:List Wt.Nd) (hp:zIO u=.inl row) (E:Int) (C:List I) (hfl:zPJ nm x row E C) (hE0:E ≠ 0):zE0 nm x t (.inr (E,0)):=by
 intro bb mb na nk ver w hE hd hr hk;have hb0:=zAH (zAH (Below.refl _ w) (.cells #[.int .i64 x.s,.int .i64 x.r,.int .i64 x.c] 24)) (.cells #[.string ⟨#[]⟩,.slice none 0 0] 61);have q:=AtL.new1 w (.cells #[.int .i64 x.s,.int .i64 x.r,.int .i64 x.c] 24) 61 [.string ⟨#[]⟩,.slice none 0 0];have hi:¬ (1024:Int)<(t.size:Int):=by omega
 have FG:=λW=>zBM t W h
 have hul:u.length<=1024:=by
  have:t.size=u.length+1:=by rw [ht];rfl
  omega
 have CP:=λW=>zEC u W (by omega)
 rw [<-ht] at CP;have HPA:Hid (∀ W,BEnv W->Calls prog 73 #[.string ⟨u.toArray⟩] W λe w'=>(∃ v,e=.returned (.tuple #[v,.int .i64 0,.int .i64 0])/\OwnN w' W.heap.size v row)/\Below W.heap.size W w'):=λW hW=>by
  have:=zD1 ⟨u.toArray⟩ W hW.1 (by show u.length<=_;omega) hW.2.2;rw [hp] at this;exact this
 have HE:Hid (BEnv w):=hE;have HR:Hid (RdS w na nm):=hr;have HK:Hid (nm.length<=nk):=hk;have HFL:Hid (zPJ nm x row E C):=hfl;have t3:=AtL.f3 ((AtL.new0 w 24 [.int .i64 x.s,.int .i64 x.r,.int .i64 x.c]).alloc (.cells #[.string ⟨#[]⟩,.slice none 0 0] 61));obtain ⟨c0,_,_,_⟩:=(AtL.below hb0 hd).three;rw [hf] at FG;have HE0:Hid (E ≠ 0):=hE0;have hcn:¬ E=0:=hE0;clear hE hd hr hk h hf hp ht hul hfl hE0;go_enter func49,ntmps49;go_upto_region 1 with fail
 generalize (w.alloc (.cells #[.int .i64 x.s,.int .i64 x.r,.int .i64 x.c] 24)).alloc (.cells #[.string ⟨#[]⟩,.slice none 0 0] 61)=W0 at *;go_wp2_with fail
 refine (FG _).mono ?_;rintro e w1 ⟨rfl,hb1⟩;replace q:=AtL.below hb1 q
 replace hb0:=zAA hb0 hb1
 replace t3:=zAG hb1 t3
 replace c0:=zAC hb1 c0
 have HE1:Hid (BEnv w1):=HE.out.below hb0;have HR1:Hid (RdS w1 na nm):=RdS.below HR.out hb0;clear FG hb1 HE HR;go_wp2_with fail
 refine (CP _).mono ?_;rintro e w2 ⟨rfl,rfl⟩;clear CP;go_wp2_with fail
 refine (HPA.out _ HE1.out).mono ?_;rintro e w3 ⟨⟨v,rfl,hv⟩,hb3⟩;replace q:=AtL.below hb3 q
 replace hb0:=zAA hb0 hb3
 replace t3:=zAG hb3 t3
 replace c0:=zAC hb3 c0
 have HE3:Hid (BEnv w3):=HE1.out.below hb3;have HR3:Hid (RdS w3 na nm):=RdS.below HR1.out hb3;clear hb3 HPA HE1 HR1;go_upto_region 12 with fail
 have hb4:=(Below.refl w3.heap.size w3).drew;refine wp_region_held_drew (S:=λW=>W.cell? ⟨bb,0,none⟩=some (.slice na nm.length nk)/\zAt W w.heap.size (.int .i64 x.s) (.int .i64 x.r) (.int .i64 x.c)) (by kernel_rfl) ⟨zAC hb4 c0,zAG hb4 t3⟩ (λhHeld=>?_);replace t3:=zAG hb4 t3
 replace c0:=zAC hb4 c0
 replace q:=AtL.below hb4 q
 replace hb0:=zAA hb0 hb4
 have FL:=HFL.out w3.drew _ v na nk (HE3.out.2.1.below hb4) (HE3.out.1.1.below hb4) (hv.below hb4) (HR3.out.below hb4) HK.out;have HS:Hid (w.heap.size<=w3.drew.heap.size/\w.heap.size+1<w3.drew.heap.size):=⟨hb0.size,q.lt⟩
 clear hb4 HE3 HR3 hv HFL;generalize w3.drew=W4 at *;refine tkQ 0 ?_
 refine tkQ 1 ?_
 refine tkQ 2 ?_
 refine tkQ 3 ?_
 refine tkQ 4 ?_
 refine tkQ 5 ?_
 refine rdQ 6 (λK hK=>?_);go_simp
 refine FL.mono ?_;rintro e w5 ⟨⟨_,rfl⟩ | ⟨e0,_⟩,hb5⟩
 case inr=>exact absurd e0 HE0.out
 replace t3:=zAG hb5 t3
 replace c0:=zAC hb5 c0
 replace q:=AtL.below hb5 q
 replace hb0:=zAA hb0 hb5
 clear hb5 FL;go_wp2_with fail
 refine hkQ hK ⟨c0,t3⟩ (λhHeld=>?_);clear hK K
 refine tkQ 7 ?_
 refine tkQ 8 ?_
 refine tkQ 9 ?_
 refine rdQ 10 (λK hK=>?_);go_simp
 refine hkQ hK ⟨c0,t3⟩ (λhHeld=>?_);clear hK K
 refine rdQ 11 (λK hK=>?_);go_simp
 refine hkQ hK ⟨c0,t3⟩ (λhHeld=>?_);clear hK K
 refine wpAnyH_done (by kernel_rfl) ?_ _;clear hHeld c0 t3;go_upto_region 14 with fail
 have q2:=(q.set 0 (.string ⟨#[]⟩)).set 1 (.slice none 0 0);have hb2:=(hb0.setCell (p:=⟨w.heap.size+1,0,none⟩) (Nat.le_succ _) (.string ⟨#[]⟩)).setCell (p:=⟨w.heap.size+1,1,none⟩) (Nat.le_succ _) (.slice none 0 0);obtain ⟨_,_,z0,z1⟩:=q.two;obtain ⟨_,_,y0,y1⟩:=(q.set 0 (.string ⟨#[]⟩)).two;go_wp2;refine bodyPost_ret (zAd (by rfl) _ _ (w.heap.size+1) [.string ⟨#[]⟩,.slice none 0 0] _ (by rfl) q2.range underlying61 rfl (by kernel_rfl)) rfl ⟨⟨HE0.out,rfl⟩,hb2⟩
theorem zFJ (nm:List ByteArray) (x:Wpl.Cl) (u:List UInt8) (t:ByteArray) (ht:t=⟨(61::u).toArray⟩) (h:t.size<=1024) (hf:fgn t.data.toList 0 = -1) (row:List Wt.Nd) (hp:zIO u=.inl row) (E:Int) (C:List I) (hfl:zPJ nm x row E C) (hE0:E=0):zE0 nm x t (.inl C):=by
 intro bb mb na nk ver w hE hd hr hk;have hb0:=zAH (zAH (Below.refl _ w) (.cells #[.int .i64 x.s,.int .i64 x.r,.int .i64 x.c] 24)) (.cells #[.string ⟨#[]⟩,.slice none 0 0] 61);have q:=AtL.new1 w (.cells #[.int .i64 x.s,.int .i64 x.r,.int .i64 x.c] 24) 61 [.string ⟨#[]⟩,.slice none 0 0];have hi:¬ (1024:Int)<(t.size:Int):=by omega
 have FG:=λW=>zBM t W h
 have hul:u.length<=1024:=by
  have:t.size=u.length+1:=by rw [ht];rfl
  omega
 have CP:=λW=>zEC u W (by omega)
 rw [<-ht] at CP;have HPA:Hid (∀ W,BEnv W->Calls prog 73 #[.string ⟨u.toArray⟩] W λe w'=>(∃ v,e=.returned (.tuple #[v,.int .i64 0,.int .i64 0])/\OwnN w' W.heap.size v row)/\Below W.heap.size W w'):=λW hW=>by
  have:=zD1 ⟨u.toArray⟩ W hW.1 (by show u.length<=_;omega) hW.2.2;rw [hp] at this;exact this
 have HE:Hid (BEnv w):=hE;have HR:Hid (RdS w na nm):=hr;have HK:Hid (nm.length<=nk):=hk;have HFL:Hid (zPJ nm x row E C):=hfl;have t3:=AtL.f3 ((AtL.new0 w 24 [.int .i64 x.s,.int .i64 x.r,.int .i64 x.c]).alloc (.cells #[.string ⟨#[]⟩,.slice none 0 0] 61));obtain ⟨c0,_,_,_⟩:=(AtL.below hb0 hd).three;rw [hf] at FG;have HE0:Hid (E=0):=hE0;clear hE hd hr hk h hf hp ht hul hfl hE0;go_enter func49,ntmps49;go_upto_region 1 with fail
 generalize (w.alloc (.cells #[.int .i64 x.s,.int .i64 x.r,.int .i64 x.c] 24)).alloc (.cells #[.string ⟨#[]⟩,.slice none 0 0] 61)=W0 at *;go_wp2_with fail
 refine (FG _).mono ?_;rintro e w1 ⟨rfl,hb1⟩;replace q:=AtL.below hb1 q
 replace hb0:=zAA hb0 hb1
 replace t3:=zAG hb1 t3
 replace c0:=zAC hb1 c0
 have HE1:Hid (BEnv w1):=HE.out.below hb0;have HR1:Hid (RdS w1 na nm):=RdS.below HR.out hb0;clear FG hb1 HE HR;go_wp2_with fail
 refine (CP _).mono ?_;rintro e w2 ⟨rfl,rfl⟩;clear CP;go_wp2_with fail
 refine (HPA.out _ HE1.out).mono ?_;rintro e w3 ⟨⟨v,rfl,hv⟩,hb3⟩;replace q:=AtL.below hb3 q
 replace hb0:=zAA hb0 hb3
 replace t3:=zAG hb3 t3
 replace c0:=zAC hb3 c0
 have HE3:Hid (BEnv w3):=HE1.out.below hb3;have HR3:Hid (RdS w3 na nm):=RdS.below HR1.out hb3;clear hb3 HPA HE1 HR1;go_upto_region 12 with fail
 have hb4:=(Below.refl w3.heap.size w3).drew;refine wp_region_held_drew (S:=λW=>W.cell? ⟨bb,0,none⟩=some (.slice na nm.length nk)/\zAt W w.heap.size (.int .i64 x.s) (.int .i64 x.r) (.int .i64 x.c)) (by kernel_rfl) ⟨zAC hb4 c0,zAG hb4 t3⟩ (λhHeld=>?_);replace t3:=zAG hb4 t3
 replace c0:=zAC hb4 c0
 replace q:=AtL.below hb4 q
 replace hb0:=zAA hb0 hb4
 have FL:=HFL.out w3.drew _ v na nk (HE3.out.2.1.below hb4) (HE3.out.1.1.below hb4) (hv.below hb4) (HR3.out.below hb4) HK.out;have HS:Hid (w.heap.size<=w3.drew.heap.size/\w.heap.size+1<w3.drew.heap.size):=⟨hb0.size,q.lt⟩
 clear hb4 HE3 HR3 hv HFL;generalize w3.drew=W4 at *;refine tkQ 0 ?_
 refine tkQ 1 ?_
 refine tkQ 2 ?_
 refine tkQ 3 ?_
 refine tkQ 4 ?_
 refine tkQ 5 ?_
 refine rdQ 6 (λK hK=>?_);go_simp
 refine FL.mono ?_;rintro e w5 ⟨⟨e0,_⟩ | ⟨_,lv,P,rfl,ho,hpl,hpi,_⟩,hb5⟩
 case inl=>exact absurd HE0.out e0
 obtain ⟨la,lm,lc,rfl⟩:∃ a m c,lv=.slice a m c:=by
  rcases ho.2 with ⟨e,_⟩ | ⟨g,c,cur,e,_⟩
  ·exact ⟨_,_,_,e⟩
  ·exact ⟨_,_,_,e⟩
 have HCD:Hid (CdP w5 W4.heap.size (.slice la lm lc) C):=⟨P,ho,hpl,hpi⟩
 clear ho hpl hpi;replace t3:=zAG hb5 t3
 replace c0:=zAC hb5 c0
 replace q:=AtL.below hb5 q
 replace hb0:=zAA hb0 hb5
 clear hb5 FL;go_wp2_with fail
 refine hkQ hK ⟨c0,t3⟩ (λhHeld=>?_);clear hK K
 refine tkQ 7 ?_
 refine tkQ 8 ?_
 refine tkQ 9 ?_
 refine rdQ 10 (λK hK=>?_);go_simp
 refine hkQ hK ⟨c0,t3⟩ (λhHeld=>?_);clear hK K
 refine rdQ 11 (λK hK=>?_);go_simp
 refine hkQ hK ⟨c0,t3⟩ (λhHeld=>?_);clear hK K
 refine wpAnyH_done (by kernel_rfl) ?_ _;clear hHeld c0 t3;go_upto_region 15 with fail
 have q2:=(q.set 0 (.string t)).set 1 (.slice la lm lc);have hb2:=(hb0.setCell (p:=⟨w.heap.size+1,0,none⟩) (Nat.le_succ _) (.string t)).setCell (p:=⟨w.heap.size+1,1,none⟩) (Nat.le_succ _) (.slice la lm lc);obtain ⟨_,_,z0,z1⟩:=q.two;obtain ⟨_,_,y0,y1⟩:=(q.set 0 (.string t)).two;go_wp2;refine bodyPost_ret (zAd (by rfl) _ _ (w.heap.size+1) [.string t,.slice la lm lc] _ (by rfl) q2.range underlying61 rfl (by kernel_rfl)) rfl ⟨⟨⟨t,la,lm,lc⟩,rfl,((HCD.out.fr (zAf (w.heap.size+1) [.string t,.slice la lm lc] 0 w5) (λk hk=>by simp at hk;rw [hk];exact HS.out.2)).mono HS.out.1),rfl⟩,hb2⟩
end Go.Proofs.YtedifblompcdkaaGreatDoor
namespace Go.Proofs.YtedifblompcdkaaGreatDoor.Wf
open Go.Proofs.YtedifblompcdkaaGreatDoor
def TB (B:Nat) (l:List I):Prop:=∀ p ∈ l,p.2.length<=B
theorem TB.nil (B:Nat):TB B []:=λp hp=>by cases hp
theorem TB.cons {B:Nat} {x:I} {l:List I} (hx:x.2.length<=B) (h:TB B l):TB B (x::l):=λp hp=>by
 rcases List.mem_cons.1 hp with rfl | hp
 ·exact hx
 ·exact h p hp
theorem TB.app {B:Nat} {l m:List I} (h:TB B l) (h':TB B m):TB B (l++m):=λp hp=>by
 rcases List.mem_append.1 hp with hp | hp
 ·exact h p hp
 ·exact h' p hp
theorem TB.one {B:Nat} {x:I} (hx:x.2.length<=B):TB B [x]:=TB.cons hx (TB.nil B)
section
variable {α:Type}
theorem TB.seq {B:Nat} {g:α->Nat->List I}:∀ {l:List α},(∀ k ∈ l,∀ a,TB B (g k a))->∀ a,TB B (zA1 g l a)
 | [],_,_=>TB.nil B
 | k::_,h,a=>TB.app (h k (List.mem_cons_self ..) a) (TB.seq (λx hx=>h x (List.mem_cons_of_mem _ hx)) _)
theorem TB.chB {B:Nat} {g:α->Nat->List I} {e:Int}:∀ {l:List α},(∀ k ∈ l,∀ a,TB B (g k a))->∀ a,TB B (Wf.chB g e l a)
 | [],_,_=>TB.nil B
 | k::_,h,a=>TB.cons (Nat.zero_le _) (TB.app (h k (List.mem_cons_self ..) (a+1)) (TB.chB (λx hx=>h x (List.mem_cons_of_mem _ hx)) _))
theorem zKs (g:α->Nat->List I):∀ (l:List α) (a:Nat),(chT g l a).length=l.length
 | [],_=>rfl
 | _::l,_=>by simp only [chT,List.length_cons,zKs g l]
theorem TB.choo {B:Nat} {g:α->Nat->List I} {l:List α} (h:∀ k ∈ l,∀ a,TB B (g k a)) (hB:l.length<=B) (a:Nat):TB B (zCe g l a):=by
 cases l with
 | nil=>exact TB.one (Nat.zero_le _)
 | cons k r =>
  refine TB.cons ?_ (TB.app (h k (List.mem_cons_self ..) _) (TB.chB (λx hx=>h x (List.mem_cons_of_mem _ hx)) _));simp only [List.length_cons,zKs] at *;exact hB
theorem TB.bran {B:Nat} {g:α->Nat->List I} {u:α} {no:List α} (hu:∀ a,TB B (g u a)) (h:∀ k ∈ no,∀ a,TB B (g k a)) (a:Nat):TB B (zCu g u no a):=by
 unfold zCu;refine TB.cons (Nat.zero_le _) (TB.app (hu _) (TB.cons (Nat.zero_le _) ?_));split
 ·exact TB.one (Nat.zero_le _)
 ·exact TB.seq h _
theorem TB.lazy {B:Nat} {g:α->Nat->List I} {id:Int} {ks:List α} (h:∀ k ∈ ks,∀ a,TB B (g k a)) (hB:ks.length<=B) (a:Nat):TB B (zCy g id ks a):=by
 cases ks with
 | nil=>exact TB.nil B
 | cons c r =>
  refine TB.app (h c (List.mem_cons_self ..) _) ?_;cases r with
  | nil =>
   simp only;split
   ·exact TB.one (Nat.zero_le _)
   ·exact TB.nil B
  | cons u no =>
   have hu:=h u (List.mem_cons_of_mem _ (List.mem_cons_self ..));simp only;split
   ·exact TB.bran hu (λk hk=>h k (List.mem_cons_of_mem _ (List.mem_cons_of_mem _ hk))) _
   ·split
    ·exact TB.cons (Nat.zero_le _) (hu _)
    ·exact TB.choo (λk hk=>h k (List.mem_cons_of_mem _ hk)) (by simp only [List.length_cons] at hB ⊢;omega) _
end
theorem zGr {α:Type} {r:α->Nat}:∀ {l:List α} {k:α},k ∈ l->r k<=zD2 r l
 | [],k,h=>by cases h
 | x::l,k,h=>by
  simp only [zD2,List.map_cons,List.sum_cons];rcases List.mem_cons.1 h with rfl | h
  ·omega
  ·have:=zGr (r:=r) h;simp only [zD2] at this;omega
theorem zHK {α:Type} {r:α->Nat}:∀ {l:List α},(∀ k ∈ l,1<=r k)->l.length<=zD2 r l
 | [],_=>Nat.zero_le _
 | x::l,h=>by
  have h1:=h x (List.mem_cons_self ..);have:=zHK (r:=r) (l:=l) (λk hk=>h k (List.mem_cons_of_mem _ hk));simp only [zD2,List.map_cons,List.sum_cons,List.length_cons] at *;omega
theorem zNW (own:Int) (nm:List ByteArray):∀ (n:Nat) (t:Tr n) (a B:Nat),(row n t).length<=B->TB B (cod own nm n t a)
 | 0,t,_,_,_=>Empty.elim t
 | n+1,t,a,B,hB=>by
  obtain ⟨x,ks⟩:Br (Tr n):=t;have ih:=zNW own nm n;rw [zGX] at hB;have hk:∀ k ∈ ks,∀ a,TB B (cod own nm n k a):=λk hk a=>ih k a B (by have:=zGr (r:=λk=>(row n k).length) hk;omega)
  have hl:ks.length<=B:=by have:=zHK (r:=λk=>(row n k).length) (l:=ks) (λk _=>zFx n k);omega
  show TB B (zBX own nm (hd n) (cod own nm n) x ks a)
  unfold zBX;split
  ·exact TB.one (Nat.zero_le _)
  split
  ·exact TB.one (Nat.zero_le _)
  split
  ·exact TB.app (TB.seq hk _) (TB.one (Nat.zero_le _))
  split
  ·exact TB.app (TB.seq hk _) (TB.one (Nat.zero_le _))
  split
  ·unfold zD4;simp only;split
   ·exact TB.app (TB.seq hk _) (TB.one (Nat.zero_le _))
   split
   ·refine TB.cons (Nat.zero_le _) (TB.app (TB.seq (λk hkk a=>?_) _) (TB.one (Nat.zero_le _)));unfold zCd;split
    ·exact TB.one (Nat.zero_le _)
    ·exact TB.app (hk k hkk a) (TB.one (Nat.zero_le _))
   split
   ·unfold zD7;simp only;have hf:∀ k ∈ ks.filter (λk=>!isA (hd n k)),∀ a,TB B (cod own nm n k a):=λk hkk a=>hk k (List.mem_filter.1 hkk).1 a
    split
    ·exact TB.one (Nat.zero_le _)
    split
    ·exact TB.one (Nat.zero_le _)
    split
    ·exact TB.app (TB.seq hf _) (TB.one (Nat.zero_le _))
    ·refine TB.cons (Nat.zero_le _) (TB.app (TB.seq (λk hkk a=>TB.app (hf k hkk a) (TB.one (Nat.zero_le _))) _) (TB.cons ?_ (TB.one (Nat.zero_le _))));split <;> exact Nat.zero_le _
   ·exact TB.lazy hk hl _
  ·exact TB.nil B
end Go.Proofs.YtedifblompcdkaaGreatDoor.Wf
