/- TParC, TLentA, TKids, TRefG, TQKit, TQApp, TQSig. -/
import Derived.Test.YtdghjlmnlodnlaaGreatDoorQ29
set_option maxHeartbeats 4000000
set_option maxRecDepth 100000
namespace Go.Proofs.YtdghjlmnlodnlaaGreatDoor
open Tryz
open Go.RowKit Go.Shelf
set_option linter.unusedVariables false
variable {w w':World} {en c p E Bad:Int} {kp tn N B:Nat} {ts:List Wlx.TV} {sub:List Wlx.TV->PR} {v:Value} {ops:Array Oper} {rest:List Oper} {a:Act} {Q:Exit->Act->World->Prop} {op:Oper} {L:List Wt.Nd} {l:List UInt8}
theorem zOU (h:pl ts en=.inr (c,p)):c ≠ 0:=by
 unfold pl at h;split at h
 ·cases h
 ·simp only [Sum.inr.injEq,Prod.mk.injEq] at h;omega
theorem zKh (h:pc ts en=.inr (c,p)):c ≠ 0:=by
 unfold pc at h;repeat' split at h
 all_goals first | (simp only [Sum.inr.injEq,Prod.mk.injEq] at h;omega) | cases h
theorem zH0 {s:ByteArray} (h:pcs s ts en=.inr (c,p)):c ≠ 0:=by
 unfold pcs at h;cases h1:pc ts en with
 | inr e=>rw [h1] at h;simp only [Sum.inr.injEq] at h;rw [h] at h1;exact zKh h1
 | inl q =>
  obtain ⟨a,r1⟩:=q;rw [h1] at h;simp only at h;cases h2:tk r1 [58] with
  | none=>rw [h2] at h;cases h
  | some r2 =>
   rw [h2] at h;simp only at h;cases h3:pc r2 en with
   | inr e=>rw [h3] at h;simp only [Sum.inr.injEq] at h;rw [h] at h3;exact zKh h3
   | inl q=>rw [h3] at h;cases h
theorem zJd (hsub:∀ ts row r,sub ts=.inl (row,r)->r <:+ ts) (hcode:∀ ts c p,ts.length<=N->sub ts=.inr (c,p)->c ≠ 0) (k:Int):∀ (n:Nat) (row:List Wt.Nd) (ts:List Wlx.TV) (c p:Int),ts.length<=N->more sub k n row ts=.inr (c,p)->c ≠ 0:=by
 intro n;induction n with
 | zero=>intro row ts c p hN h;cases h
 | succ n ih =>
  intro row ts c p hN h;simp only [more] at h;cases h1:zB0 k ts with
  | none=>rw [h1] at h;cases h
  | some q =>
   obtain ⟨o,r1⟩:=q;rw [h1] at h;simp only at h;have s1:=(zAo h1).2;cases h2:sub r1 with
   | inr e=>rw [h2] at h;simp only [Sum.inr.injEq] at h;rw [h] at h2;exact hcode _ _ _ (by omega) h2
   | inl q =>
    obtain ⟨row2,r2⟩:=q;rw [h2] at h;simp only at h;have:=(hsub _ _ _ h2).length_le;exact ih _ _ _ _ (by omega) h
theorem zJ1 (hsub:∀ ts row r,sub ts=.inl (row,r)->r <:+ ts) (hcode:∀ ts c p,ts.length<=N->sub ts=.inr (c,p)->c ≠ 0) (en:Int):∀ (n c0:Nat) (rows:List Wt.Nd) (ts:List Wlx.TV) (c p:Int),ts.length<=N->zCD sub en n c0 rows ts=.inr (c,p)->c ≠ 0:=by
 intro n;induction n with
 | zero=>intro c0 rows ts c p hN h;simp only [zCD,Sum.inr.injEq,Prod.mk.injEq] at h;omega
 | succ n ih =>
  intro c0 rows ts c p hN h;simp only [zCD] at h;cases h1:tk ts [41] with
  | some q=>rw [h1] at h;cases h
  | none =>
   rw [h1] at h;simp only at h;split at h
   ·simp only [Sum.inr.injEq,Prod.mk.injEq] at h;omega
   ·cases h2:tk ts [44] with
    | none=>rw [h2] at h;simp only [Sum.inr.injEq,Prod.mk.injEq] at h;omega
    | some r1 =>
     rw [h2] at h;simp only at h;have s1:=(zBG h2).2;cases h3:sub r1 with
     | inr e=>rw [h3] at h;simp only [Sum.inr.injEq] at h;rw [h] at h3;exact hcode _ _ _ (by omega) h3
     | inl q =>
      obtain ⟨row,r2⟩:=q;rw [h3] at h;simp only at h;have:=(hsub _ _ _ h3).length_le;exact ih _ _ _ _ _ (by omega) h
theorem zHp (hsub:∀ ts row r,sub ts=.inl (row,r)->r <:+ ts) (hcode:∀ ts c p,ts.length<=N->sub ts=.inr (c,p)->c ≠ 0) (en:Int) (nm:List UInt8) (ts:List Wlx.TV) (c p:Int) (hN:ts.length<=N) (h:zCo sub en nm ts=.inr (c,p)):c ≠ 0:=by
 unfold zCo at h;cases h1:tk ts [41] with
 | some q=>rw [h1] at h;cases h
 | none =>
  rw [h1] at h;simp only at h;cases h2:sub ts with
  | inr e=>rw [h2] at h;simp only [Sum.inr.injEq] at h;rw [h] at h2;exact hcode _ _ _ hN h2
  | inl q =>
   obtain ⟨row1,r1⟩:=q;rw [h2] at h;simp only at h;have:=(hsub _ _ _ h2).length_le;cases h3:zCD sub en (r1.length+1) 1 row1 r1 with
   | inr e=>rw [h3] at h;simp only [Sum.inr.injEq] at h;rw [h] at h3;exact zJ1 hsub hcode en _ _ _ _ _ _ (by omega) h3
   | inl q=>rw [h3] at h;cases h
theorem zI2 (hsub:∀ ts row r,sub ts=.inl (row,r)->r <:+ ts) (hcode:∀ ts c p,ts.length<=N->sub ts=.inr (c,p)->c ≠ 0) (en:Int) (ts:List Wlx.TV) (c p:Int) (hN:ts.length<=N+2) (h:zCF sub en ts=.inr (c,p)):c ≠ 0:=by
 unfold zCF at h;split at h
 ·split at h
  ·exact zHp hsub hcode en _ _ _ _ (by rw [List.length_drop];omega) h
  ·simp only [Sum.inr.injEq,Prod.mk.injEq] at h;omega
 split at h
 ·split at h
  ·exact zH0 h
  ·simp only [Sum.inr.injEq,Prod.mk.injEq] at h;omega
 split at h
 ·cases h
 split at h
 ·cases h
 ·exact zH0 h
theorem zGe  (hcode:∀ ts c p,ts.length<=N->sub ts=.inr (c,p)->c ≠ 0) (en:Int) (ts:List Wlx.TV) (c p:Int) (hN:ts.length<=N+1) (h:zB3 sub en ts=.inr (c,p)):c ≠ 0:=by
 unfold zB3 at h;cases h1:tk ts [40] with
 | none=>rw [h1] at h;simp only [Sum.inr.injEq,Prod.mk.injEq] at h;omega
 | some r1 =>
  rw [h1] at h;simp only at h;have s1:=(zBG h1).2;cases h2:sub r1 with
  | inr e=>rw [h2] at h;simp only [Sum.inr.injEq] at h;rw [h] at h2;exact hcode _ _ _ (by omega) h2
  | inl q =>
   obtain ⟨row2,r2⟩:=q;rw [h2] at h;simp only at h;cases h3:tk r2 [41] with
   | none=>rw [h3] at h;simp only [Sum.inr.injEq,Prod.mk.injEq] at h;omega
   | some r3=>rw [h3] at h;cases h
theorem zMB:∀ (n:Nat) (row:List Wt.Nd) (ts:List Wlx.TV) (c p:Int),pct n row ts=.inr (c,p)->False:=by
 intro n;induction n with
 | zero=>intro row ts c p h;cases h
 | succ n ih =>
  intro row ts c p h;simp only [pct] at h;cases h1:zB0 6 ts with
  | none=>rw [h1] at h;cases h
  | some q=>obtain ⟨o,r1⟩:=q;rw [h1] at h;simp only at h;exact ih _ _ _ _ h
theorem zOT (en:Int):∀ (f k:Nat) (ts:List Wlx.TV) (c p:Int),k<=7->(if k<5 then 10 * ts.length+9 - k else if k=5 then 10 * ts.length+4 else if k=6 then 10 * ts.length+3 else 10 * ts.length+2)<=f->lv en f k ts=.inr (c,p)->c ≠ 0:=by
 intro f;induction f with
 | zero =>
   intro k ts c p hk hf h;repeat' split at hf
   all_goals omega
 | succ f ih =>
  intro k ts c p hk hf h;by_cases h5:k<5
  ·rw [if_pos h5] at hf;rw [zLH _ _ _ h5] at h;unfold pbt at h;have hs:∀ us c p,us.length<=ts.length->lv en f (k+1) us=.inr (c,p)->c ≠ 0:=by
    intro us c p hu hh;refine ih (k+1) us c p (by omega) ?_ hh;split
    ·omega
    ·rw [if_pos (by omega)];omega
   cases h1:lv en f (k+1) ts with
   | inr e=>rw [h1] at h;simp only [Sum.inr.injEq] at h;rw [h] at h1;exact hs _ _ _ (Nat.le_refl _) h1
   | inl q =>
    obtain ⟨row1,r1⟩:=q;rw [h1] at h;simp only at h;have:=(zCI en _ _ _ _ _ h1).length_le;exact zJd (N:=ts.length) (zCI en f (k+1)) hs _ _ _ _ _ _ (by omega) h
  rw [if_neg h5] at hf;by_cases e5:k=5
  ·subst e5;rw [if_pos rfl] at hf;rw [zM2] at h;unfold psg at h;cases h1:zB0 5 ts with
   | none=>rw [h1] at h;exact ih 6 ts c p (by omega) (by simp;omega) h
   | some q =>
    obtain ⟨o,r1⟩:=q;rw [h1] at h;simp only at h;have s1:=(zAo h1).2;cases h2:lv en f 5 r1 with
    | inr e=>rw [h2] at h;simp only [Sum.inr.injEq] at h;rw [h] at h2;exact ih 5 r1 c p (by omega) (by simp;omega) h2
    | inl q=>rw [h2] at h;cases h
  rw [if_neg e5] at hf;by_cases e6:k=6
  ·subst e6;rw [if_pos rfl] at hf;rw [zLg] at h;unfold ppc at h;cases h1:lv en f 7 ts with
   | inr e=>rw [h1] at h;simp only [Sum.inr.injEq] at h;rw [h] at h1;exact ih 7 ts c p (by omega) (by simp;omega) h1
   | inl q=>obtain ⟨row1,r1⟩:=q;rw [h1] at h;simp only at h;exact (zMB _ _ _ _ _ h).elim
  rw [if_neg e6] at hf;obtain rfl:k=7:=by omega
  rw [zMN] at h;unfold psi at h;split at h
  ·rename_i h3
   cases ts with
   | nil=>exact absurd h3 (by rw [zD3];decide)
   | cons t q =>
    simp only [List.length_cons] at hf;refine zI2 (N:=q.length) (zCI en f 0) (λus c p hu hh=>ih 0 us c p (by omega) (by simp;omega) hh) en _ _ _ (by simp only [List.length_cons];omega) h
  split at h
  ·cases ts with
   | nil=>rename_i h3;exact absurd h3 (by rw [zD3];decide)
   | cons t q =>
    simp only [List.length_cons] at hf;refine zGe (N:=q.length) (λus c p hu hh=>ih 0 us c p (by omega) (by simp;omega) hh) en _ _ _ (by simp only [List.length_cons];omega) h
  ·exact zOU h
theorem zFV (h:zHB l=.inr (c,p)):c ≠ 0:=by
 unfold zHB at h;cases hr:zAX l with
 | inr q =>
  obtain ⟨c',p'⟩:=q;rw [hr] at h;simp only [Sum.inr.injEq,Prod.mk.injEq] at h;have:=zDX hr;omega
 | inl ts =>
  rw [hr] at h;simp only at h;unfold zI6 at h;cases hp:zI8 (lv (l.length:Int) (10 * (ts.map Wlx.tv).length+9) 0) (l.length:Int) (ts.map Wlx.tv) with
  | inr q =>
   rw [hp] at h;simp only [Sum.inr.injEq] at h;subst h;unfold zI8 at hp;split at hp
   ·rename_i e he
    simp only [Sum.inr.injEq] at hp;subst hp;exact zOT _ _ 0 _ _ _ (by omega) (by simp) he
   ·cases hp
   ·simp only [Sum.inr.injEq,Prod.mk.injEq] at hp;omega
  | inl q =>
   obtain ⟨row,rr⟩:=q;rw [hp] at h;simp only at h;split at h
   ·cases h
   ·rename_i hc
    simp only [Sum.inr.injEq,Prod.mk.injEq] at h;omega
theorem zHL {row:List Wt.Nd} (h:zHB l=.inl row):(∀ x ∈ row,Wt.FitN x)/\Wt.check row=0:=by
 unfold zHB at h;cases hr:zAX l with
 | inr q =>
  obtain ⟨c',p'⟩:=q;rw [hr] at h;cases h
 | inl ts =>
  rw [hr] at h;simp only at h;have hok:∀ t ∈ ts.map Wlx.tv,zAP t:=by
   unfold zAX at hr;split at hr
   ·cases hr
   ·exact (zGl _ 0 l (Nat.le_refl _) (by omega) ts hr).2
  unfold zI6 at h;cases hp:zI8 (lv (l.length:Int) (10 * (ts.map Wlx.tv).length+9) 0) (l.length:Int) (ts.map Wlx.tv) with
  | inr q=>rw [hp] at h;cases h
  | inl q =>
   obtain ⟨row',rr⟩:=q;rw [hp] at h;simp only at h;split at h
   ·rename_i hc
    simp only [Sum.inl.injEq] at h;subst h;refine ⟨?_,hc⟩;unfold zI8 at hp;split at hp
    ·cases hp
    ·rename_i row'' he
     simp only [Sum.inl.injEq,Prod.mk.injEq] at hp;rw [<-hp.1];exact (zDp _ _ _ _ _ _ hok he).1
    ·cases hp
   ·cases h
theorem rd_two (w:World) (x y:Wt.Nd):RdN (w.alloc (.cells (zAD x++zAD y).toArray 30)) (some ⟨w.heap.size,0,none⟩) [x,y]:=λi hi=>by
 have h:=zDt w 30 (zAD x) (zAD y);refine ⟨w.heap.size,0,rfl,?_⟩;match i,hi with
 | 0,_=>exact h.1
 | 1,_=>exact h.2
open Go.RowKit
def zAy (f:Nat):Nat->Nat->List Wt.Nd->List Nat
 | 0,_,_=>[]
 | k+1,p,l=>p::(match Wt.one f l with | some (s,_)=>zAy f k (p+s) (l.drop s) | none=>[])
def zF2 (L:List Wt.Nd) (i:Nat):List Nat:=match L.drop i with
 | []=>[]
 | x::r=>zAy (L.length+1) (Wt.parts x).toNat (i+1) r
def zNT (ks:List Nat):List Value:=ks.map λ(k:Nat)=>.int .i64 (k:Int)
def OwnI (w:World) (B:Nat) (v:Value) (ks:List Nat):Prop:=w.ownsRow B 3 1 v ks.length (zNT ks)
theorem OwnI.below {ks:List Nat} (h:OwnI w B v ks) (hb:Below w.heap.size w w'):OwnI w' B v ks :=
 World.ownsRow.kept h (row:=none) ⟨hb.os,hb.tape,hb.output,hb.size,λk hk _=>hb.block k hk⟩ (by cases v.ownBlock <;> simp)
theorem zNs:(prog.info? 3).map (λi=>(i.zero,i.size,i.bytes))=some (some (.int .i64 0),1,8):=by kernel_rfl
theorem zAa (av:Option Addr) (cap:Nat) (L:List Wt.Nd) (i:Nat) (w:World) (hF:∀ x ∈ L,Wt.FitN x) (hr:RdN w av L) (hi:i<L.length) (hc:Wt.check L=0) :
  Calls prog 63 #[.slice av L.length cap,.int .i64 i] w λe w'=>∃ v,e=.returned v/\OwnI w' w.heap.size v (zF2 L i)/\Below w.heap.size w w':=by
 obtain ⟨h256,d,hone,hd⟩:=zA8 hc;have hdr:=List.drop_eq_getElem_cons hi;obtain ⟨s',d',hs,hle,hdl⟩:=zEi _ _ _ _ hone i hi;rw [hdr] at hs;obtain ⟨hxr,a,b,hm,rfl,rfl⟩:=zH6 hs;obtain ⟨hp0,hp30⟩:=Wt.parts_le hxr;unfold zF2;rw [hdr];simp only;obtain ⟨bb,off,rfl,hx⟩:=hr i hi;have D:=λw=>zFm (L[i]) w (hF _ (List.getElem_mem hi))
 have hnp:=zFY hxr;generalize L[i]=x at *;obtain ⟨n,hn⟩:∃ n:Nat,(Wt.parts x).toNat=n:=⟨_,rfl⟩
 have hnn:Wt.parts x=(n:Int):=by omega
 rw [hn] at hm ⊢;rw [hnp,hnn,hxr] at D;have hn30:n<=30:=by omega
 have M:=λp w hp hr=>zGs (some ⟨bb,off,none⟩) cap L h256 hF (L.length+1) (by omega) p w (by omega) hp hr
 obtain ⟨KS,hKS⟩:∃ KS,KS=zAy (L.length+1) n (i+1) (L.drop (i+1)):=⟨_,rfl⟩
 rw [<-hKS];have HK:Hid (KS=[]++zAy (L.length+1) (n - 0) (i+1) (L.drop (i+1))):=hKS;have HR:Hid (RdN w (some ⟨bb,off,none⟩) L):=hr;have hi0:¬ (i:Int)<0:=by omega
 have hi1:¬ (L.length:Int)<=(i:Int):=by omega
 obtain ⟨i0,hii,hz0,hz1,hz2⟩:=info_parts zNs;clear hr hKS hdr hs hone hc hxr hp0 hp30 hn hnn hnp;go_enter func63,ntmps63;go_wp2_with ((with_reducible refine wpList_load_mid (cs:=zAD x) ?_ 30 (.tmp 13) ?_ bb (off+i * 20) ?_ _ ?_ underlying30 ?_ ?_ ?_);rfl;rfl;rfl;exact hx;rfl;kernel_rfl)
 refine (D _).mono ?_;rintro e w2 ⟨rfl,hB2⟩;clear D hx;go_wp2_with fail
 go_loopg [5,8,9] n (λgk x y z wr=>∃ (j p c d:Nat) (dn:List Nat),z=.int .i64 j/\y=.int .i64 p/\gk=n - j/\j<=n/\dn.length=j/\Hid (KS=dn++zAy (L.length+1) (n - j) p (L.drop p))/\Hid (OwnI wr w.heap.size x dn)/\Hid (Wt.many (Wt.one (L.length+1)) (n - j) (L.drop p)=some (c,d))/\p+c<=L.length/\Below w.heap.size w wr)
 case atStart =>
  exact ⟨0,i+1,a,b,[],rfl,by simp,rfl,Nat.zero_le _,rfl,HK,World.ownsRow_nil _ _ _ _,hm,by omega,hB2⟩
 case round =>
  obtain ⟨j,p,c,d1,dn,rfl,rfl,hg,hj,hdn,H1,H2,H3,hpc,hB⟩:=hrel;clear HK hB2 hm;by_cases hlt:j<n
  ·have hli:(j:Int)<(n:Int):=by omega
   obtain ⟨m,hmn⟩:∃ m,n - j=m+1:=⟨n - j - 1,by omega⟩
   have hm':n - (j+1)=m:=by omega
   rw [hmn] at H1 H3;have H3':=H3.out;simp only [Wt.many] at H3';cases h1:Wt.one (L.length+1) (L.drop p) with
   | none=>rw [h1] at H3';cases H3'
   | some q =>
    obtain ⟨a1,b1⟩:=q;rw [h1] at H3';simp only at H3';cases h2:Wt.many (Wt.one (L.length+1)) m ((L.drop p).drop a1) with
    | none=>rw [h2] at H3';cases H3'
    | some q2 =>
     obtain ⟨a2,b2⟩:=q2;rw [h2] at H3';simp only [Option.some.injEq,Prod.mk.injEq] at H3';obtain ⟨rfl,rfl⟩:=H3';have H1':=H1.out;simp only [zAy,h1] at H1';have E:Hid (KS=(dn++[p])++zAy (L.length+1) (n - (j+1)) (p+a1) (L.drop (p+a1))):=by
      show KS=_
      rw [H1',hm',List.drop_drop];simp
     rw [List.drop_drop] at h2;have own:=H2.out;have hsz:=hB.size;have news:∀ jj u,[Value.int .i64 (p:Int)][jj]? = some u->(wr.alloc (.cells #[.int .i64 (p:Int)] 3)).cell? ((⟨wr.heap.size,0,none⟩:Addr).add jj)=some u:=by
      intro jj u hj;cases jj with
      | zero=>simp at hj;subst hj;simp [Addr.add,go_sem]
      | succ jj=>simp at hj
     have hic:(zNT dn).length=dn.length:=by simp [zNT]
     go_wp2_with (at_builtin;refine wpList_append_own _ rfl _ _ 121 rfl w.heap.size 3 i0 (.int .i64 0) 1 8 underlying121 hii hz0 hz1 hz2 rfl (by decide) _ _ _ rfl (World.ownsRow.alloc own _) ⟨wr.heap.size,0,none⟩ 1 1 [.int .i64 (p:Int)] rfl rfl news (by intro u hu;simp at hu;subst hu;rfl) (by unfold maxLen;omega) (by omega) (by simp;omega) ?_)
     intro v2 w2 own2 hgrow _;have hB2:Below w.heap.size w w2:=(zAI hB (.cells #[.int .i64 (p:Int)] 3)).grown hgrow (by simp only [World.size_alloc];omega) (λk hk=>(own.lt k hk).1);have own2':OwnI w2 w.heap.size v2 (dn++[p]):=by
      unfold OwnI;have e:zNT (dn++[p])=zNT dn++[.int .i64 (p:Int)]:=by simp [zNT]
      rw [e,List.length_append,hdn];exact own2
     have MM:=M p w2 (by omega) (HR.out.below hB2);rw [h1] at MM;simp only [MP] at MM;clear own2 own H1 H1' H2 H3 news;go_wp2_with fail
     refine MM.mono ?_;rintro e w3 ⟨rfl,hb3⟩;have own3:OwnI w3 w.heap.size v2 (dn++[p]):=own2'.below hb3;have hB3:=zAA hB2 hb3;clear MM hb3 own2' hB2;go_wp2_with fail
     go_roundg (n - (j+1))
     case rel=>exact ⟨j+1,p+a1,a2,b2,dn++[p],by simp,rfl,rfl,hlt,by simp [hdn],E,own3,by show _=_;rw [hm'];exact h2,by omega,hB3⟩
     case measure=>omega
  ·have hli:¬ (j:Int)<(n:Int):=by omega
   have hjn:n - j=0:=by omega
   rw [hjn] at H1;have H1':=H1.out;simp only [zAy,List.append_nil] at H1';go_wp2;go_ret;exact ⟨_,rfl,by first | exact H2.out | (rw [H1'];exact H2.out),hB⟩
def rs5 (av:Option Addr) (len cap:Nat) (a:Nat) (en E Bad:Int):List Value:=[.slice av len cap,.int .i64 (a:Int),.int .i64 en,.int .i64 E,.int .i64 Bad]
def RS (tn lo kp:Nat) (en:Int) (w:World) (ts:List Wlx.TV) (E Bad:Int):Prop:=∃ (av:Option Addr) (cap:Nat) (T:List Wlx.TV) (a:Nat),T.drop a=ts/\a<=T.length/\(T.length<=1024/\T.length=tn)/\kp<lo/\lo<=w.heap.size /\
 AtL w kp (rs5 av T.length cap a en E Bad)/\RdV w av T/\∀ g,av=some ⟨g,0,none⟩->g ≠ kp/\g<lo
theorem RS.row {lo:Nat} {row:Option Nat} (h:RS tn lo kp en w ts E Bad) (hg:w.grownBy w' row) (hr:∀ b,row=some b->lo<=b):RS tn lo kp en w' ts E Bad:=by
 obtain ⟨av,cap,T,a,h1,h2,h3,h4,h5,h6,h7,h8⟩:=h;refine ⟨av,cap,T,a,h1,h2,h3,h4,Nat.le_trans h5 hg.size,h6.grown hg (λe=>?_),h7.grown hg (λ_ g e=>Or.inl λe2=>?_),h8⟩
 ·have:=hr kp e.symm;omega
 ·have:=hr g e2.symm;have:=(h8 g e).2;omega
theorem RS.below {lo:Nat} (h:RS tn lo kp en w ts E Bad) (hb:Below w.heap.size w w'):RS tn lo kp en w' ts E Bad:=h.row (zAC hb none) (by simp)
theorem zGy {lo:Nat} {av:Option Addr} {cap:Nat} {T:List Wlx.TV} {a:Nat} (h2:a<=T.length) (h3:T.length<=1024/\T.length=tn) (h4:kp<lo) (h5:lo<=w.heap.size) (h7:RdV w av T) (h8:∀ g,av=some ⟨g,0,none⟩->g ≠ kp/\g<lo)
  (hg:w.grownBy w' (some kp)) (h6:AtL w' kp (rs5 av T.length cap a en E Bad)):RS tn lo kp en w' (T.drop a) E Bad :=
 ⟨av,cap,T,a,rfl,h2,h3,h4,Nat.le_trans h5 hg.size,h6,h7.grown hg (λ_ g e=>Or.inl λe2=>(h8 g e).1 (Option.some.inj e2)),h8⟩
theorem zLG (T:List Wlx.TV) (a:Nat) (en:Int) (h:a<T.length):pos (T.drop a) en=T[a].p:=by
 rw [List.drop_eq_getElem_cons h];rfl
theorem zN6 (T:List Wlx.TV) (a:Nat) (en:Int) (h:¬ a<T.length):pos (T.drop a) en=en:=by
 rw [List.drop_eq_nil_of_le (by omega)];rfl
theorem zEu (w:World) (b:Nat) (x y:Value) (i j:Nat):w.grownBy ((w.setCell ⟨b,i,none⟩ x).setCell ⟨b,j,none⟩ y) (some b):=zAB (zAQ w b i x) (zAQ _ b j y)
theorem zAw (tn lo kp:Nat) (en c:Int) (w:World) (ts:List Wlx.TV) (h:RS tn lo kp en w ts 0 0):Calls prog 41 #[.pointer (some ⟨kp,0,none⟩),.int .i64 c] w λe w'=>e=.returned (.slice none 0 0)/\RS tn lo kp en w' ts c (pos ts en)/\w.grownBy w' (some kp):=by
 obtain ⟨av,cap,T,a,rfl,h2,h3,h4,h5,h6,h7,h8⟩:=h;have pS:=h6;unfold rs5 at pS;obtain ⟨c0,c1,c2,c3,c4⟩:=pS.f5;have f3:=pS.2.2 3 (by simp);have f4:=pS.2.2 4 (by simp);have q:=(pS.set 3 (.int .i64 c)).set 4 (.int .i64 en);have g2:=zEu w kp (.int .i64 c) (.int .i64 en) 3 4;have r7:=h7.grown g2 (λ_ g e=>Or.inl λe2=>(h8 g e).1 (Option.some.inj e2));by_cases hlt:a<T.length
 ·rw [zLG T a en hlt];have hli:(a:Int)<(T.length:Int):=by omega
  have HQ:Hid (∀ W2,Below ((w.setCell ⟨kp,3,none⟩ (.int .i64 c)).setCell ⟨kp,4,none⟩ (.int .i64 en)).heap.size ((w.setCell ⟨kp,3,none⟩ (.int .i64 c)).setCell ⟨kp,4,none⟩ (.int .i64 en)) W2->RS tn lo kp en (W2.setCell ⟨kp,4,none⟩ (.int .i64 T[a].p)) (T.drop a) c T[a].p/\w.grownBy (W2.setCell ⟨kp,4,none⟩ (.int .i64 T[a].p)) (some kp)):=by
   intro W2 hb;have q2:=AtL.below hb q;have q9:=q2.set 4 (.int .i64 T[a].p);have g9:=zAB (zAB g2 (zAC hb _)) (zAQ _ kp 4 (.int .i64 T[a].p));exact ⟨zGy (E:=c) (Bad:=T[a].p) (cap:=cap) h2 h3 h4 h5 h7 h8 g9 q9,g9⟩
  obtain ⟨g,rfl,hg,t0,t1,t2⟩:=r7 a hlt;have hgk:=(h8 g rfl).1;have hS:AtL ((w.setCell ⟨kp,3,none⟩ (.int .i64 c)).setCell ⟨kp,4,none⟩ (.int .i64 en)) kp [.slice (some ⟨g,0,none⟩) T.length cap,.int .i64 (a:Int),.int .i64 en,.int .i64 c,.int .i64 en]:=q;have q0:=hS.2.1 0 _ rfl;have q1:=hS.2.1 1 _ rfl;generalize T[a].p=tp at *;clear h6 h7 q g2 r7 t0 t1 pS;go_enter func41,ntmps41;go_upto_region 4 with fail
  clear c0 c1 c2 c3 c4 f3 f4;generalize ((w.setCell ⟨kp,3,none⟩ (.int .i64 c)).setCell ⟨kp,4,none⟩ (.int .i64 en))=W at *;go_quiet (fail)
  have hb9:Below W.heap.size W (W.drewN nq):=zAG (Below.refl _ _) nq;have hS9:=AtL.below hb9 hS;have t9:=zAM hb9 t2;have HQ9:Hid (∀ W2,Below (W.drewN nq).heap.size (W.drewN nq) W2->RS tn lo kp en (W2.setCell ⟨kp,4,none⟩ (.int .i64 tp)) (T.drop a) c tp/\w.grownBy (W2.setCell ⟨kp,4,none⟩ (.int .i64 tp)) (some kp)):=λW2 hb=>HQ.out W2 (zAA hb9 hb)
  generalize W.drewN nq=W9 at *;have q0:=hS9.2.1 0 _ rfl;have q1:=hS9.2.1 1 _ rfl;have q4:=hS9.2.1 4 _ rfl;have z4:=hS9.2.2 4 (by simp);clear HQ hS hb9 t2 hS9;go_wp2_with fail
  go_region
  all_goals
   go_wp2;go_ret;first | exact ⟨rfl,HQ9.out _ (Below.refl _ _)⟩ | exact ⟨rfl,HQ9.out _ (Below.refl _ _).drew⟩ | exact ⟨rfl,HQ9.out _ (zAG (Below.refl _ _) _)⟩
 ·rw [zN6 T a en hlt];have hli:¬ (a:Int)<(T.length:Int):=by omega
  have HQ:Hid (∀ W2,Below ((w.setCell ⟨kp,3,none⟩ (.int .i64 c)).setCell ⟨kp,4,none⟩ (.int .i64 en)).heap.size ((w.setCell ⟨kp,3,none⟩ (.int .i64 c)).setCell ⟨kp,4,none⟩ (.int .i64 en)) W2->RS tn lo kp en W2 (T.drop a) c en/\w.grownBy W2 (some kp)):=by
   intro W2 hb;have q2:=AtL.below hb q;have g9:=zAB g2 (zAC hb _);exact ⟨zGy (E:=c) (Bad:=en) (cap:=cap) h2 h3 h4 h5 h7 h8 g9 q2,g9⟩
  have hS:AtL ((w.setCell ⟨kp,3,none⟩ (.int .i64 c)).setCell ⟨kp,4,none⟩ (.int .i64 en)) kp [.slice av T.length cap,.int .i64 (a:Int),.int .i64 en,.int .i64 c,.int .i64 en]:=q;have q0:=hS.2.1 0 _ rfl;have q1:=hS.2.1 1 _ rfl;clear h6 h7 q g2 r7 pS;go_enter func41,ntmps41;go_upto_region 4 with fail
  clear c0 c1 c2 c3 c4 f3 f4;generalize ((w.setCell ⟨kp,3,none⟩ (.int .i64 c)).setCell ⟨kp,4,none⟩ (.int .i64 en))=W at *;go_quiet (fail)
  go_wp2;go_ret;exact ⟨rfl,HQ.out _ (zAG (Below.refl _ _) nq)⟩
theorem zKp (tn lo kp:Nat) (en c E Bad:Int) (hE:¬ E=0) (w:World) (ts:List Wlx.TV) (h:RS tn lo kp en w ts E Bad):Calls prog 41 #[.pointer (some ⟨kp,0,none⟩),.int .i64 c] w λe w'=>e=.returned (.slice none 0 0)/\w=w':=by
 obtain ⟨av,cap,T,a,rfl,h2,h3,h4,h5,h6,h7,h8⟩:=h;have c3:=h6.2.1 3 _ rfl;have hEb:(E == 0)=false:=by simp [hE]
 go_enter func41,ntmps41;go_wp2;go_ret;exact ⟨rfl,rfl⟩
def mkk (ts:List Wlx.TV) (k:Nat) (m:List UInt8):Bool:=match ts[k]? with
 | some t=>zCX t m
 | none=>false
theorem zAK (tn lo kp:Nat) (en:Int) (w:World) (ts:List Wlx.TV) (E Bad:Int) (k:Nat) (hk:k<=1) (m:List UInt8) (h:RS tn lo kp en w ts E Bad):Calls prog 96 #[.pointer (some ⟨kp,0,none⟩),.int .i64 (k:Int),.string ⟨m.toArray⟩] w λe w'=>e=.returned (.bool (decide (E=0) && mkk ts k m))/\w=w':=by
 obtain ⟨av,cap,T,a,rfl,h2,h3,h4,h5,h6,h7,h8⟩:=h;have pS:=h6;unfold rs5 at pS;obtain ⟨c0,c1,c2,c3,c4⟩:=pS.f5;have hT:(T.length:Int)<=1024:=by omega
 have ha:(a:Int)<=1024:=by omega
 by_cases hE:E=0
 ·subst hE;unfold mkk;rw [List.getElem?_drop];by_cases hlt:a+k<T.length
  ·have hli:(a:Int)+(k:Int)<(T.length:Int):=by omega
   rw [List.getElem?_eq_getElem hlt];simp only;obtain ⟨g,rfl,hg,t0,t1,t2⟩:=h7 (a+k) hlt;generalize T[a+k]=tok at *;obtain ⟨tk,tt,tp⟩:=tok;unfold zCX;simp only at t0 t1 t2 ⊢;clear h6 h7 pS;by_cases h5k:tk=5
   ·subst h5k;go_enter func96,ntmps96;go_wp2;go_ret;exact ⟨zA2 (by simp),rfl⟩
   ·have h5b:(tk == 5)=false:=by simp [h5k]
    go_enter func96,ntmps96;go_wp2;go_ret;exact ⟨by simp [h5k],rfl⟩
  ·have hli:¬ (a:Int)+(k:Int)<(T.length:Int):=by omega
   have hlb:decide ((a:Int)+(k:Int)<(T.length:Int))=false:=by simpa using hli
   rw [List.getElem?_eq_none (by omega)];clear h6 h7 pS;go_enter func96,ntmps96;go_wp2;go_ret;exact ⟨rfl,rfl⟩
 ·have hEb:(E == 0)=false:=by simp [hE]
  clear h6 h7 pS;go_enter func96,ntmps96;go_wp2;go_ret;exact ⟨by simp [hE],rfl⟩
theorem zAL {rest:List Oper} {o:Oper} {Q:Exit->Act->World->Prop} (hw:Region.wanted o (yielded ops a.tmps)=true) (s x:Operand) (ho:o.op=.call {callee:=.builtin .append,args:=#[s,x],argTypes:=#[22,22]})
  (w:World) (B:Nat) (hB:B<=w.heap.size) (v:Value) (A:List Wt.Nd) (hs:a.eval s=v) (hown:OwnN w B v A) (vx:Value) (C:Nat) (L:List Wt.Nd) (hx:a.eval x=vx) (hox:OwnN w C vx L) (hl:True->A.length+L.length<=799644820179)
  (h:∀ v' w' row,OwnN w' B v' (A++L)->w.grownBy w' row->(∀ b,row=some b->B<=b)->(∀ b,row=some b->v.ownBlock=some b)->wpList prog ops Q rest (a.put o.dst v') w'):wpList prog ops Q (o::rest) a w:=by
 obtain ⟨i0,hi0,hz0,hz1,hz2⟩:=info_parts zC6;have hl:=hl trivial;refine BigFrame.wpList_want hw λ_ hK=>?_
 have hlt:=hown.lt;rcases hox.2 with ⟨e,h0⟩ | ⟨g,cap,cur,e,hg,hc,hn⟩
 ·subst e;have hL:L=[]:=List.eq_nil_of_length_eq_zero h0;subst hL;have hrun:=run_append_owned_none (P:=prog) (w:=w) B 22 o.type 30 i0 20 underlying22 hi0 v A.length (zA5 A) hown;unfold Oper.wp;simp only [execOp,ho,resolve,invoke,builtin,Sem.run_bind,Sem.run_pure,Result.andThen_ok,List.map_toArray,List.map_cons,List.map_nil,hs,hx,hrun];exact hK _ _ (h v w none (by rw [List.append_nil];exact hown) (World.grownBy.refl _ _) (by simp) (by simp))
 ·subst e;refine wp_append_own _ s x 22 ho B 30 i0 _ 20 176 underlying22 hi0 hz0 hz1 hz2 rfl (by decide) v A.length (zA5 A) hs hown ⟨g,0,none⟩ L.length cap (zA5 L) hx (zA4 L) (World.ownsRow.cells hox (g:=g) rfl) (zDc L) (by unfold maxLen;omega) (by omega) hB ?_;intro v' w' own hg _;refine hK _ _ (h v' w' v.ownBlock ?_ hg (λb e=>(hlt b e).1) (λb e=>e));unfold OwnN;rw [List.length_append,zFa];exact own
theorem zSO (k o:Int) (w:World):(Instr.build 30 #[(0,.int .i64 k),(2,.int .i64 o)]).run prog w=.ok (.agg (zAD (opN k o)).toArray) w:=by kernel_rfl
theorem zAx (hgd:op.guard=none) (x y:Operand) (ho:op.op=.build 30 #[(0,x),(2,y)]) (k o:Int) (hx:a.eval x=.int .i64 k) (hy:a.eval y=.int .i64 o)
  (h:wpList prog ops Q rest (a.put op.dst (.agg (zAD (opN k o)).toArray)) w):wpList prog ops Q (op::rest) a w:=by
 refine wpList_plain hgd λ_ hK=>?_
 unfold Oper.wp execOp;simp only [ho,List.map_toArray,List.map_cons,List.map_nil,hx,hy,Sem.run_bind,Sem.run_pure,Result.andThen_ok,zSO];exact hK _ _ h
theorem zS2 (v:Wt.Vl) (w:World):(Instr.build 30 #[(0,.int .i64 1),(1,.agg (vl6 v).toArray)]).run prog w=.ok (.agg (zAD (zAj v)).toArray) w:=by kernel_rfl
theorem zGP (hgd:op.guard=none) (x y:Operand) (ho:op.op=.build 30 #[(0,x),(1,y)]) (v:Wt.Vl) (hx:a.eval x=.int .i64 1) (hy:a.eval y=.agg (vl6 v).toArray)
  (h:wpList prog ops Q rest (a.put op.dst (.agg (zAD (zAj v)).toArray)) w):wpList prog ops Q (op::rest) a w:=by
 refine wpList_plain hgd λ_ hK=>?_
 unfold Oper.wp execOp;simp only [ho,List.map_toArray,List.map_cons,List.map_nil,hx,hy,Sem.run_bind,Sem.run_pure,Result.andThen_ok,zS2];exact hK _ _ h
theorem zSL (nm:ByteArray) (c:Nat) (w:World):(Instr.build 30 #[(0,.int .i64 6),(3,.string nm),(4,.int .i64 (c:Int))]).run prog w=.ok (.agg (zAD (zBK nm c)).toArray) w:=by kernel_rfl
theorem zDY (hgd:op.guard=none) (x y z:Operand) (ho:op.op=.build 30 #[(0,x),(3,y),(4,z)]) (nm:ByteArray) (c:Nat) (hx:a.eval x=.int .i64 6) (hy:a.eval y=.string nm) (hz:a.eval z=.int .i64 (c:Int))
  (h:wpList prog ops Q rest (a.put op.dst (.agg (zAD (zBK nm c)).toArray)) w):wpList prog ops Q (op::rest) a w:=by
 refine wpList_plain hgd λ_ hK=>?_
 unfold Oper.wp execOp;simp only [ho,List.map_toArray,List.map_cons,List.map_nil,hx,hy,hz,Sem.run_bind,Sem.run_pure,Result.andThen_ok,zSL];exact hK _ _ h
def QPost (tn lo kp:Nat) (en:Int) (n:Nat) (r:PR) (w:World) (e:Ending) (w':World):Prop:=w.grownBy w' (some kp)/\match r with
 | .inl (row,rest)=>∃ v,e=.returned v/\OwnN w' w.heap.size v row/\RS tn lo kp en w' rest 0 0
 | .inr (c,p)=>¬ c=0/\∃ v row ts,e=.returned v/\OwnN w' w.heap.size v row/\row.length<=n+1/\RS tn lo kp en w' ts c p
theorem zAg {lo:Nat} {t:Wlx.TV} {r:List Wlx.TV} (h:RS tn lo kp en w (t::r) 0 0):∃ a:Nat,(a:Int)<=1024/\w.cell? ⟨kp,1,none⟩=some (.int .i64 (a:Int))/\w.frozen? ⟨kp,1,none⟩=false/\RS tn lo kp en (w.setCell ⟨kp,1,none⟩ (.int .i64 ((a:Int)+1))) r 0 0/\w.grownBy (w.setCell ⟨kp,1,none⟩ (.int .i64 ((a:Int)+1))) (some kp):=by
 obtain ⟨av,cap,T,a,e,h2,h3,h4,h5,h6,h7,h8⟩:=h;have hlt:a<T.length:=by
  by_cases hlt:a<T.length
  ·exact hlt
  ·rw [List.drop_eq_nil_of_le (by omega)] at e;cases e
 have er:T.drop (a+1)=r:=by
  rw [List.drop_eq_getElem_cons hlt] at e;exact (List.cons.inj e).2
 have hg:=zAQ w kp 1 (.int .i64 ((a:Int)+1));refine ⟨a,by omega,h6.2.1 1 _ rfl,h6.2.2 1 (by simp [rs5]),?_,hg⟩;rw [<-er];exact zGy (a:=a+1) (cap:=cap) (E:=0) (Bad:=0) (by omega) h3 h4 h5 h7 h8 hg (h6.set 1 _)
theorem zA9 (h:OwnN w B v L) (hg:w.grownBy w' (some kp)) (hk:kp<B):OwnN w' B v L:=by
 refine World.ownsRow.kept h hg ?_;cases hv:v.ownBlock with
 | none=>exact Or.inl rfl
 | some g=>exact Or.inr λe=>by have:=(h.lt g hv).1;rw [Option.some.inj e] at this;omega
theorem zBt {row:Option Nat} (h:OwnN w B v L) (hg:w.grownBy w' row) (hk:∀ b,row=some b->w.heap.size<=b):OwnN w' B v L:=by
 refine World.ownsRow.kept h hg ?_;cases hv:v.ownBlock with
 | none=>exact Or.inl rfl
 | some g=>exact Or.inr λe=>by have:=(h.lt g hv).2;have:=hk g e.symm;omega
theorem zBc {B':Nat} (h:OwnN w B v L) (hb:B'<=B):OwnN w B' v L :=
 ⟨h.1,h.2.imp id λ⟨g,cap,cur,a,b,c⟩=>⟨g,cap,cur,a,Nat.le_trans hb b,c⟩⟩
def QFn (tn lo kp:Nat) (en:Int) (fn:Nat) (sub:List Wlx.TV->PR) (n:Nat):Prop:=∀ (ts:List Wlx.TV) (w:World),ts.length<=n->(∀ t ∈ ts,zAP t)->RS tn lo kp en w ts 0 0->Calls prog fn #[.pointer (some ⟨kp,0,none⟩)] w λe w'=>QPost tn lo kp en ts.length (sub ts) w e w'
def QLv (tn lo kp:Nat) (en:Int) (k:Nat) (sub:List Wlx.TV->PR) (n:Nat):Prop:=∀ (ts:List Wlx.TV) (w:World),ts.length<=n->(∀ t ∈ ts,zAP t)->RS tn lo kp en w ts 0 0->Calls prog 40 #[.pointer (some ⟨kp,0,none⟩),.int .i64 (k:Int)] w λe w'=>QPost tn lo kp en ts.length (sub ts) w e w'
theorem RS.lo {lo:Nat} (h:RS tn lo kp en w ts E Bad):kp<lo/\lo<=w.heap.size/\ts.length<=1024:=by
 obtain ⟨av,cap,T,a,rfl,h2,h3,h4,h5,h6,h7,h8⟩:=h;exact ⟨h4,h5,by rw [List.length_drop];omega⟩
theorem QPost.val {lo:Nat} {n:Nat} {r:PR} {e:Ending} (h:QPost tn lo kp en n r w e w'):∃ v,e=.returned v:=by
 obtain ⟨-,h⟩:=h;cases r with
 | inl q=>obtain ⟨v,e,-⟩:=h;exact ⟨v,e⟩
 | inr q=>obtain ⟨-,v,_,_,e,-⟩:=h;exact ⟨v,e⟩
theorem zDN {fn:Nat} {xs:Array Value} {P:Ending->World->Prop} {G:Prop} (h:Calls prog fn xs w P) (hv:(Calls prog fn xs w λe w'=>(∃ v,e=.returned v)/\P e w')->G) (hp:∀ e w',P e w'->∃ v,e=.returned v):G:=hv (h.mono λe w' q=>⟨hp e w' q,q⟩)
theorem zJT (ts:List Wlx.TV):(∃ t r,ts=t::r/\mkk ts 0 [45]=true/\zB0 5 ts=some ((1,[45],5),r)) \/ (∃ t r,ts=t::r/\mkk ts 0 [45]=false/\mkk ts 0 [43]=true/\zB0 5 ts=some ((2,[43],5),r)) \/ (mkk ts 0 [45]=false/\mkk ts 0 [43]=false/\zB0 5 ts=none):=by
 cases ts with
 | nil=>exact Or.inr (Or.inr ⟨rfl,rfl,rfl⟩)
 | cons t r =>
  have e0:∀ m,mkk (t::r) 0 m=zCX t m:=λm=>rfl
  simp only [e0];unfold zB0 zCX;by_cases hk:t.k=5
  ·simp only [hk,beq_self_eq_true,Bool.true_and,if_true];by_cases h1:t.t=[45]
   ·rw [h1];exact Or.inl ⟨t,r,rfl,rfl,by rfl⟩
   by_cases h2:t.t=[43]
   ·rw [h2];exact Or.inr (Or.inl ⟨t,r,rfl,rfl,rfl,by rfl⟩)
   ·have g1:(t.t == [45])=false:=by simpa using h1
    have g2:(t.t == [43])=false:=by simpa using h2
    refine Or.inr (Or.inr ⟨g1,g2,?_⟩);have e1:([45] == t.t)=false:=by simpa using λh=>h1 h.symm
    have e2:([43] == t.t)=false:=by simpa using λh=>h2 h.symm
    have:Wt.opAs t.t 5=none:=by
     unfold Wt.opAs Wt.opsT;simp [e1,e2]
    rw [this];rfl
  ·have:(t.k == 5)=false:=by simp [hk]
   simp only [if_neg hk,this];exact Or.inr (Or.inr ⟨by simp,by simp,trivial⟩)
theorem zIu (tn lo kp:Nat) (en:Int) (sub5:List Wlx.TV->PR) (n:Nat) (HS:QFn tn lo kp en 61 sub5 n) (t:Wlx.TV) (r:List Wlx.TV) (w:World) (hn:r.length<=n) (hok:∀ x ∈ t::r,zAP x) (hfit:∀ row r2,sub5 r=.inl (row,r2)->row.length<=1024) (h:RS tn lo kp en w (t::r) 0 0) (hm:mkk (t::r) 0 [45]=true) :
  Calls prog 61 #[.pointer (some ⟨kp,0,none⟩)] w λe w'=>QPost tn lo kp en (t::r).length (match sub5 r with | .inr e=>.inr e | .inl (row,r2)=>.inl (opN 4 1::row,r2)) w e w':=by
 obtain ⟨hkl,hlo,h1024⟩:=h.lo;have M1:=zAK tn lo kp en w _ 0 0 0 (by omega) [45] h;rw [hm] at M1;obtain ⟨a,ha,c1,z1,hR,hG⟩:=zAg h;have hkw:kp<w.heap.size:=by omega
 have HR:Hid (RS tn lo kp en (w.setCell ⟨kp,1,none⟩ (.int .i64 ((a:Int)+1))) r 0 0):=hR;have HG:Hid (w.grownBy (w.setCell ⟨kp,1,none⟩ (.int .i64 ((a:Int)+1))) (some kp)):=hG;have hrl:r.length<=1023:=by simp only [List.length_cons] at h1024;omega
 have hok2:∀ x ∈ r,zAP x:=λx hx=>hok x (List.mem_cons_of_mem _ hx)
 have hln:(t::r).length=r.length+1:=rfl;rw [hln];clear hR hG hm h hln h1024 hok;cases hs:sub5 r with
 | inl q =>
  obtain ⟨row,rest⟩:=q;go_enter func61,ntmps61;go_wp2_with fail
  refine M1.mono ?_;rintro e w1 ⟨rfl,rfl⟩;clear M1;go_upto_region 8 with fail
  obtain ⟨W,hW⟩:∃ W,w.setCell ⟨kp,1,none⟩ (.int .i64 ((a:Int)+1))=W:=⟨_,rfl⟩
  rw [hW] at HR HG ⊢;have hR:=HR.out;have hG:=HG.out;have hsW:=hG.size;clear hW HR HG c1 z1;go_wp2_with (first
   | ((with_reducible refine zAx ?_ (.const (.int .i64 4)) (.tmp 27) ?_ 4 1 ?_ ?_ ?_);rfl;rfl;rfl;rfl)
   | ((with_reducible refine zAR ?_ (.tmp 28) ?_ (opN 4 1) ?_ ?_);rfl;rfl;rfl)
   | (at_builtin;refine zAL (by rfl) (.tmp 26) (.tmp 29) (by rfl) _ w.heap.size (by simp only [World.size_alloc];omega) _ [] (by rfl) (World.ownsRow_nil _ _ _ _) _ _ [opN 4 1] (by rfl) (zAf W (opN 4 1)) (λ_=>by simp) ?_))
  intro va wa rowa owna hga hra hva;have hGa:w.grownBy wa (some kp):=zAO (zAB hG (World.grownBy_alloc _ _ _)) hga hra;have hRa:=(hR.row (World.grownBy_alloc W _ none) (by simp)).row hga (λb e=>Nat.le_trans hlo (hra b e));have hsa:=hGa.size;have S:=HS r wa hn hok2 hRa;rw [hs] at S;clear hga hra hva hR hG HS;go_wp2_with fail
  refine S.mono ?_;rintro e w2 ⟨hg2,vb,rfl,ownb,hRb⟩;have hG2:w.grownBy w2 (some kp):=zAB hGa hg2;have hs2:=hg2.size;have own2:=zA9 owna hg2 hkw;clear S owna hGa hg2;have hrw:=hfit row rest hs;clear hfit hs;go_wp2_with (at_builtin;refine zAL (by rfl) (.tmp 33) (.tmp 34) (by rfl) w2 w.heap.size (by omega) va [opN 4 1] (by rfl) own2 vb _ row (by rfl) ownb (λ_=>by simp only [List.length_singleton];omega) ?_)
  intro vc wc rowc ownc hgc hrc _;have hGc:w.grownBy wc (some kp):=zAO hG2 hgc hrc;have hRc:=hRb.row hgc (λb e=>Nat.le_trans hlo (hrc b e));clear own2 ownb hgc hrc;go_wp2;go_ret;exact ⟨hGc,vc,rfl,ownc,hRc⟩
 | inr q =>
  obtain ⟨c,p⟩:=q;go_enter func61,ntmps61;go_wp2_with fail
  refine M1.mono ?_;rintro e w1 ⟨rfl,rfl⟩;clear M1;go_upto_region 8 with fail
  obtain ⟨W,hW⟩:∃ W,w.setCell ⟨kp,1,none⟩ (.int .i64 ((a:Int)+1))=W:=⟨_,rfl⟩
  rw [hW] at HR HG ⊢;have hR:=HR.out;have hG:=HG.out;have hsW:=hG.size;clear hW HR HG c1 z1;go_wp2_with (first
   | ((with_reducible refine zAx ?_ (.const (.int .i64 4)) (.tmp 27) ?_ 4 1 ?_ ?_ ?_);rfl;rfl;rfl;rfl)
   | ((with_reducible refine zAR ?_ (.tmp 28) ?_ (opN 4 1) ?_ ?_);rfl;rfl;rfl)
   | (at_builtin;refine zAL (by rfl) (.tmp 26) (.tmp 29) (by rfl) _ w.heap.size (by simp only [World.size_alloc];omega) _ [] (by rfl) (World.ownsRow_nil _ _ _ _) _ _ [opN 4 1] (by rfl) (zAf W (opN 4 1)) (λ_=>by simp) ?_))
  intro va wa rowa owna hga hra hva;have hGa:w.grownBy wa (some kp):=zAO (zAB hG (World.grownBy_alloc _ _ _)) hga hra;have hRa:=(hR.row (World.grownBy_alloc W _ none) (by simp)).row hga (λb e=>Nat.le_trans hlo (hra b e));have hsa:=hGa.size;have S:=HS r wa hn hok2 hRa;rw [hs] at S;clear hga hra hva hR hG HS;go_wp2_with fail
  refine S.mono ?_;rintro e w2 ⟨hg2,hc,vb,row,ts2,rfl,ownb,hrw,hRb⟩;have hG2:w.grownBy w2 (some kp):=zAB hGa hg2;have hs2:=hg2.size;have own2:=zA9 owna hg2 hkw;clear S owna hGa hg2;clear hfit hs;go_wp2_with (at_builtin;refine zAL (by rfl) (.tmp 33) (.tmp 34) (by rfl) w2 w.heap.size (by omega) va [opN 4 1] (by rfl) own2 vb _ row (by rfl) ownb (λ_=>by simp only [List.length_singleton];omega) ?_)
  intro vc wc rowc ownc hgc hrc _;have hGc:w.grownBy wc (some kp):=zAO hG2 hgc hrc;have hRc:=hRb.row hgc (λb e=>Nat.le_trans hlo (hrc b e));clear own2 ownb hgc hrc;go_wp2;go_ret;exact ⟨hGc,hc,vc,_,ts2,rfl,ownc,by simp only [List.length_cons];omega,hRc⟩
theorem zJb (tn lo kp:Nat) (en:Int) (sub5:List Wlx.TV->PR) (n:Nat) (HS:QFn tn lo kp en 61 sub5 n) (t:Wlx.TV) (r:List Wlx.TV) (w:World) (hn:r.length<=n) (hok:∀ x ∈ t::r,zAP x) (hfit:∀ row r2,sub5 r=.inl (row,r2)->row.length<=1024) (h:RS tn lo kp en w (t::r) 0 0) (hm0:mkk (t::r) 0 [45]=false) (hm:mkk (t::r) 0 [43]=true) :
  Calls prog 61 #[.pointer (some ⟨kp,0,none⟩)] w λe w'=>QPost tn lo kp en (t::r).length (match sub5 r with | .inr e=>.inr e | .inl (row,r2)=>.inl (opN 4 2::row,r2)) w e w':=by
 obtain ⟨hkl,hlo,h1024⟩:=h.lo;have M1:=zAK tn lo kp en w _ 0 0 0 (by omega) [45] h;rw [hm0] at M1;have M2:=zAK tn lo kp en w _ 0 0 0 (by omega) [43] h;rw [hm] at M2;obtain ⟨a,ha,c1,z1,hR,hG⟩:=zAg h;have hkw:kp<w.heap.size:=by omega
 have HR:Hid (RS tn lo kp en (w.setCell ⟨kp,1,none⟩ (.int .i64 ((a:Int)+1))) r 0 0):=hR;have HG:Hid (w.grownBy (w.setCell ⟨kp,1,none⟩ (.int .i64 ((a:Int)+1))) (some kp)):=hG;have hrl:r.length<=1023:=by simp only [List.length_cons] at h1024;omega
 have hok2:∀ x ∈ r,zAP x:=λx hx=>hok x (List.mem_cons_of_mem _ hx)
 have hln:(t::r).length=r.length+1:=rfl;rw [hln];clear hR hG hm h hln h1024 hok;cases hs:sub5 r with
 | inl q =>
  obtain ⟨row,rest⟩:=q;go_enter func61,ntmps61;go_wp2_with fail
  refine M1.mono ?_;rintro e w1 ⟨rfl,rfl⟩;clear M1;go_wp2_with fail
  refine M2.mono ?_;rintro e w1 ⟨rfl,rfl⟩;clear M2;go_upto_region 8 with fail
  obtain ⟨W,hW⟩:∃ W,w.setCell ⟨kp,1,none⟩ (.int .i64 ((a:Int)+1))=W:=⟨_,rfl⟩
  rw [hW] at HR HG ⊢;have hR:=HR.out;have hG:=HG.out;have hsW:=hG.size;clear hW HR HG c1 z1;go_wp2_with (first
   | ((with_reducible refine zAx ?_ (.const (.int .i64 4)) (.tmp 27) ?_ 4 2 ?_ ?_ ?_);rfl;rfl;rfl;rfl)
   | ((with_reducible refine zAR ?_ (.tmp 28) ?_ (opN 4 2) ?_ ?_);rfl;rfl;rfl)
   | (at_builtin;refine zAL (by rfl) (.tmp 26) (.tmp 29) (by rfl) _ w.heap.size (by simp only [World.size_alloc];omega) _ [] (by rfl) (World.ownsRow_nil _ _ _ _) _ _ [opN 4 2] (by rfl) (zAf W (opN 4 2)) (λ_=>by simp) ?_))
  intro va wa rowa owna hga hra hva;have hGa:w.grownBy wa (some kp):=zAO (zAB hG (World.grownBy_alloc _ _ _)) hga hra;have hRa:=(hR.row (World.grownBy_alloc W _ none) (by simp)).row hga (λb e=>Nat.le_trans hlo (hra b e));have hsa:=hGa.size;have S:=HS r wa hn hok2 hRa;rw [hs] at S;clear hga hra hva hR hG HS;go_wp2_with fail
  refine S.mono ?_;rintro e w2 ⟨hg2,vb,rfl,ownb,hRb⟩;have hG2:w.grownBy w2 (some kp):=zAB hGa hg2;have hs2:=hg2.size;have own2:=zA9 owna hg2 hkw;clear S owna hGa hg2;have hrw:=hfit row rest hs;clear hfit hs;go_wp2_with (at_builtin;refine zAL (by rfl) (.tmp 33) (.tmp 34) (by rfl) w2 w.heap.size (by omega) va [opN 4 2] (by rfl) own2 vb _ row (by rfl) ownb (λ_=>by simp only [List.length_singleton];omega) ?_)
  intro vc wc rowc ownc hgc hrc _;have hGc:w.grownBy wc (some kp):=zAO hG2 hgc hrc;have hRc:=hRb.row hgc (λb e=>Nat.le_trans hlo (hrc b e));clear own2 ownb hgc hrc;go_wp2;go_ret;exact ⟨hGc,vc,rfl,ownc,hRc⟩
 | inr q =>
  obtain ⟨c,p⟩:=q;go_enter func61,ntmps61;go_wp2_with fail
  refine M1.mono ?_;rintro e w1 ⟨rfl,rfl⟩;clear M1;go_wp2_with fail
  refine M2.mono ?_;rintro e w1 ⟨rfl,rfl⟩;clear M2;go_upto_region 8 with fail
  obtain ⟨W,hW⟩:∃ W,w.setCell ⟨kp,1,none⟩ (.int .i64 ((a:Int)+1))=W:=⟨_,rfl⟩
  rw [hW] at HR HG ⊢;have hR:=HR.out;have hG:=HG.out;have hsW:=hG.size;clear hW HR HG c1 z1;go_wp2_with (first
   | ((with_reducible refine zAx ?_ (.const (.int .i64 4)) (.tmp 27) ?_ 4 2 ?_ ?_ ?_);rfl;rfl;rfl;rfl)
   | ((with_reducible refine zAR ?_ (.tmp 28) ?_ (opN 4 2) ?_ ?_);rfl;rfl;rfl)
   | (at_builtin;refine zAL (by rfl) (.tmp 26) (.tmp 29) (by rfl) _ w.heap.size (by simp only [World.size_alloc];omega) _ [] (by rfl) (World.ownsRow_nil _ _ _ _) _ _ [opN 4 2] (by rfl) (zAf W (opN 4 2)) (λ_=>by simp) ?_))
  intro va wa rowa owna hga hra hva;have hGa:w.grownBy wa (some kp):=zAO (zAB hG (World.grownBy_alloc _ _ _)) hga hra;have hRa:=(hR.row (World.grownBy_alloc W _ none) (by simp)).row hga (λb e=>Nat.le_trans hlo (hra b e));have hsa:=hGa.size;have S:=HS r wa hn hok2 hRa;rw [hs] at S;clear hga hra hva hR hG HS;go_wp2_with fail
  refine S.mono ?_;rintro e w2 ⟨hg2,hc,vb,row,ts2,rfl,ownb,hrw,hRb⟩;have hG2:w.grownBy w2 (some kp):=zAB hGa hg2;have hs2:=hg2.size;have own2:=zA9 owna hg2 hkw;clear S owna hGa hg2;clear hfit hs;go_wp2_with (at_builtin;refine zAL (by rfl) (.tmp 33) (.tmp 34) (by rfl) w2 w.heap.size (by omega) va [opN 4 2] (by rfl) own2 vb _ row (by rfl) ownb (λ_=>by simp only [List.length_singleton];omega) ?_)
  intro vc wc rowc ownc hgc hrc _;have hGc:w.grownBy wc (some kp):=zAO hG2 hgc hrc;have hRc:=hRb.row hgc (λb e=>Nat.le_trans hlo (hrc b e));clear own2 ownb hgc hrc;go_wp2;go_ret;exact ⟨hGc,hc,vc,_,ts2,rfl,ownc,by simp only [List.length_cons];omega,hRc⟩
theorem zF3 (tn lo kp:Nat) (en:Int) (sub6:List Wlx.TV->PR) (n:Nat) (HP:QFn tn lo kp en 97 sub6 n) (ts:List Wlx.TV) (w:World) (hn:ts.length<=n) (hok:∀ x ∈ ts,zAP x) (h:RS tn lo kp en w ts 0 0) (hm0:mkk ts 0 [45]=false) (hm:mkk ts 0 [43]=false) :
  Calls prog 61 #[.pointer (some ⟨kp,0,none⟩)] w λe w'=>QPost tn lo kp en ts.length (sub6 ts) w e w':=by
 have M1:=zAK tn lo kp en w _ 0 0 0 (by omega) [45] h;rw [hm0] at M1;have M2:=zAK tn lo kp en w _ 0 0 0 (by omega) [43] h;rw [hm] at M2;have S:=HP ts w hn hok h;clear hm hm0 h;refine zDN S (λS=>?_) (λe w' q=>q.val);go_enter func61,ntmps61;go_wp2_with fail
 refine M1.mono ?_;rintro e w1 ⟨rfl,rfl⟩;clear M1;go_wp2_with fail
 refine M2.mono ?_;rintro e w1 ⟨rfl,rfl⟩;clear M2;go_wp2_with fail
 refine S.mono ?_;rintro e w2 ⟨⟨v,rfl⟩,hQ⟩;go_wp2;go_ret;exact hQ
theorem zGa (tn lo kp:Nat) (en:Int) (sub5 sub6:List Wlx.TV->PR) (n:Nat) (HS:QFn tn lo kp en 61 sub5 n) (HP:QFn tn lo kp en 97 sub6 (n+1)) (hfit:∀ ts row r2,(∀ t ∈ ts,zAP t)->sub5 ts=.inl (row,r2)->zE5 ts.length row r2):QFn tn lo kp en 61 (psg sub5 sub6) (n+1):=by
 intro ts w hn hok h;rcases zJT ts with ⟨t,r,rfl,hm,ht⟩ | ⟨t,r,rfl,hm0,hm,ht⟩ | ⟨hm0,hm,ht⟩
 ·have hl:=h.lo.2.2;have:=zIu tn lo kp en sub5 n HS t r w (by simp only [List.length_cons] at hn;omega) hok (λrow r2 e=>by have:=(hfit r row r2 (λx hx=>hok x (List.mem_cons_of_mem _ hx)) e).2;simp only [List.length_cons] at hl;omega) h hm;unfold psg;rw [ht];exact this
 ·have hl:=h.lo.2.2;have:=zJb tn lo kp en sub5 n HS t r w (by simp only [List.length_cons] at hn;omega) hok (λrow r2 e=>by have:=(hfit r row r2 (λx hx=>hok x (List.mem_cons_of_mem _ hx)) e).2;simp only [List.length_cons] at hl;omega) h hm0 hm;unfold psg;rw [ht];exact this
 ·have:=zF3 tn lo kp en sub6 (n+1) HP ts w hn hok h hm0 hm;unfold psg;rw [ht];exact this
