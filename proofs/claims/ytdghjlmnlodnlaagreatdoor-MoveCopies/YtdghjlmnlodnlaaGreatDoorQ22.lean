/- TParA, TFit, LScanB, TTok. -/
import Derived.Test.YtdghjlmnlodnlaaGreatDoorQ21
import Derived.Defers
import Derived.Recover
set_option maxHeartbeats 4000000
set_option maxRecDepth 100000
namespace Go.Proofs.YtdghjlmnlodnlaaGreatDoor
open Go.RowKit Go.Shelf Tryz
set_option linter.unusedVariables false
variable {sub:List Wlx.TV->PR} {ts r:List Wlx.TV} {l:List UInt8} {a:Wt.Rf} {en:Int}
theorem zIT (v:Value) (w:World):(Instr.typeAssert (.iface 72 v) 20 72 true).run prog w=.ok (.tuple #[v,.bool true]) w:=by kernel_rfl
theorem zI2 (w:World):(Instr.typeAssert .nilIface 20 72 true).run prog w=.ok (.tuple #[.agg #[.int .i64 0,.int .i64 0],.bool false]) w:=by kernel_rfl
theorem zFc (a b c:Nat) (cd at':Int) (x y z:Value) (older:List PanicEntry) (w:World) (ha:AtL w a [x]) (hb:AtL w b [y]) (hc:AtL w c [z]) (hab:a ≠ b) (hac:a ≠ c) (hbc:b ≠ c) :
  CallsD prog 34 #[.pointer (some ⟨a,0,none⟩),.pointer (some ⟨b,0,none⟩),.pointer (some ⟨c,0,none⟩)] (.panicking ({v:=.iface 72 (.agg #[.int .i64 cd,.int .i64 at']),recovered:=false} :: older)) w λe u' w' =>
   e=.returned (.tuple #[])/\u'=.panicking ({v:=.iface 72 (.agg #[.int .i64 cd,.int .i64 at']),recovered:=true} :: older)/\AtL w' a [.slice none 0 0]/\AtL w' b [.int .i64 cd]/\AtL w' c [.int .i64 at']/\∀ lo,lo<=a->lo<=b->lo<=c->Below lo w w':=by
 have la:=ha.1;have lb:=hb.1;have lc:=hc.1;have na:a ≠ w.heap.size:=by omega
 have nb:b ≠ w.heap.size:=by omega
 have nc:c ≠ w.heap.size:=by omega
 have hW:∃ W,W=w.alloc (.cells #[.int .i64 cd,.int .i64 at'] 72):=⟨_,rfl⟩
 obtain ⟨W,hW⟩:=hW;have pR:AtL W w.heap.size [.int .i64 cd,.int .i64 at']:=by
  rw [hW];exact AtL.new0 w 72 [.int .i64 cd,.int .i64 at']
 have pa:AtL W a [x]:=by rw [hW];exact ha.alloc _
 have pb:AtL W b [y]:=by rw [hW];exact hb.alloc _
 have pc:AtL W c [z]:=by rw [hW];exact hc.alloc _
 have hB:Below w.heap.size w W:=by rw [hW];exact zAI (Below.refl _ w) _
 refine callsD_of_wpS func34 rfl λc₀ cs hu=>?_
 apply wpS_seq
 apply wpS_region
 simp [wpOpsS,go_sem,recoverD,hu,ntmps34,Exit.thenS,zIT,Array.replicate,List.replicate];rw [<-hW];apply wpS_seq
 apply wpS_region
 simp [wpOpsS,go_sem,Exit.thenS];refine wpS_cond (t:=true) (by simp [Act.eval]) ?_;simp only [if_true];refine wpS_of_wp ?_;clear hW;obtain ⟨r0,r1,q0,q1⟩:=pR.two;have a0:=pa.2.1 0 _ rfl;have b0:=pb.2.1 0 _ rfl;have c0:=pc.2.1 0 _ rfl;have fa:=pa.2.2 0 (by simp);have fb:=pb.2.2 0 (by simp);have fc:=pc.2.2 0 (by simp);go_region
 have E:AtL (((W.setCell ⟨a,0,none⟩ (Value.slice none 0 0)).setCell ⟨b,0,none⟩ (Value.int IntKind.i64 cd)).setCell ⟨c,0,none⟩ (Value.int IntKind.i64 at')).drew a [.slice none 0 0]/\AtL (((W.setCell ⟨a,0,none⟩ (Value.slice none 0 0)).setCell ⟨b,0,none⟩ (Value.int IntKind.i64 cd)).setCell ⟨c,0,none⟩ (Value.int IntKind.i64 at')).drew b [.int .i64 cd]/\AtL (((W.setCell ⟨a,0,none⟩ (Value.slice none 0 0)).setCell ⟨b,0,none⟩ (Value.int IntKind.i64 cd)).setCell ⟨c,0,none⟩ (Value.int IntKind.i64 at')).drew c [.int .i64 at']/\∀ lo,lo<=a->lo<=b->lo<=c->Below lo w (((W.setCell ⟨a,0,none⟩ (Value.slice none 0 0)).setCell ⟨b,0,none⟩ (Value.int IntKind.i64 cd)).setCell ⟨c,0,none⟩ (Value.int IntKind.i64 at')).drew:=by
  refine ⟨(((pa.set 0 _).far (Ne.symm hab) 0 _).far (Ne.symm hac) 0 _).drew,(((pb.far hab 0 _).set 0 _).far (Ne.symm hbc) 0 _).drew,(((pc.far hac 0 _).far hbc 0 _).set 0 _).drew,λlo l1 l2 l3=>?_⟩;exact ((((hB.mono (by omega)).setCell (p:=⟨a,0,none⟩) l1 _).setCell (p:=⟨b,0,none⟩) l2 _).setCell (p:=⟨c,0,none⟩) l3 _).drew
 simpa [bodyPostS,results,results34] using E
theorem zDr (a b c:Nat) (w:World) :
  CallsD prog 34 #[.pointer (some ⟨a,0,none⟩),.pointer (some ⟨b,0,none⟩),.pointer (some ⟨c,0,none⟩)] .returning w λe u' w'=>e=.returned (.tuple #[])/\u'=.returning/\Below w.heap.size w w':=by
 refine callsD_of_wpS func34 rfl λc₀ cs hu=>?_
 apply wpS_seq
 apply wpS_region
 simp [wpOpsS,go_sem,recoverD,hu,ntmps34,Exit.thenS,zI2,Array.replicate,List.replicate];apply wpS_seq
 apply wpS_region
 simp [wpOpsS,go_sem,Exit.thenS];refine wpS_cond (t:=false) (by simp [Act.eval]) ?_;simp only [Bool.false_eq_true,if_false];refine wpS_of_wp (wp_skip ?_);have hB:=zAI (Below.refl _ w) (.cells #[.int .i64 0,.int .i64 0] 72);cases c₀
 simp_all [bodyPostS,results,results34]
theorem zIw:Wt.FitV Wt.v0:=⟨by decide,by decide,by decide⟩
theorem e0:(⟨#[]⟩:ByteArray).size<=9223372036854775807:=by decide
theorem zKE (k o:Int):Wt.FitN (opN k o):=⟨zIw,e0,e0,e0⟩
theorem zHG {nm:List UInt8} (c:Nat) (h:nm.length<=1024):Wt.FitN (zBS ⟨nm.toArray⟩ c):=⟨zIw,by show nm.length<=_;omega,e0,e0⟩
theorem zE9 {v:Wt.Vl} (h:Wt.FitV v):Wt.FitN (zAk v):=⟨h,e0,e0,e0⟩
theorem zNs {t:Wlx.TV} (ht:zAP t) {v:Wt.Vl} (h:zKG t=some v):Wt.FitV v:=by
 unfold zKG at h;split at h
 ·split at h
  ·rw [<-Option.some.inj h];generalize Wnum.oN (Wnum.rdO ⟨t.t.toArray⟩)=a;generalize Wnum.oD (Wnum.rdO ⟨t.t.toArray⟩)=b;obtain ⟨n1,n2⟩:=Wnum.cN_bd a b;obtain ⟨n3,n4⟩:=Wnum.cD_bd a b;refine ⟨?_,?_,e0⟩
   ·show _<=Wnum.cN a b/\Wnum.cN a b<=_
    omega
   ·show _<=Wnum.cD a b/\Wnum.cD a b<=_
    omega
  ·cases h
 split at h
 ·split at h
  ·rw [<-Option.some.inj h];unfold zCg;split
   ·split
    ·exact ⟨⟨by decide,by decide⟩,⟨by decide,by decide⟩,e0⟩
    ·exact ⟨⟨by simp,by simp⟩,⟨by simp,by simp⟩,by show t.t.length<=_;omega⟩
   ·exact ⟨⟨by decide,by decide⟩,⟨by decide,by decide⟩,e0⟩
  ·cases h
 split at h
 ·rw [<-Option.some.inj h];exact ⟨⟨by simp,by simp⟩,⟨by simp,by simp⟩,e0⟩
 ·cases h
theorem zSb (h:rw1 l=some a):a.s=⟨#[]⟩:=by
 unfold rw1 at h;split at h
 ·split at h
  ·rw [<-Option.some.inj h];rfl
  ·cases h
 ·cases h
theorem zNT (h:pc ts en=.inl (a,r)):a.s=⟨#[]⟩/\r.length<ts.length:=by
 have hr:=zGh h;unfold pc at h;split at h
 ·rename_i hk
  split at h
  ·cases h
  split at h
  ·cases h
  split at h
  ·rename_i a' ha
   simp only [Sum.inl.injEq,Prod.mk.injEq] at h;refine ⟨by rw [<-h.1];exact zSb ha,?_⟩;cases ts with
   | nil=>exact absurd hk (by rw [zD0];decide)
   | cons t q=>rw [hr];simp
  ·cases h
 ·cases h
def zEk (n:Nat) (row:List Wt.Nd) (r:List Wlx.TV):Prop:=(∀ x ∈ row,Wt.FitN x)/\row.length+r.length<=n
theorem zQU (hok:∀ t ∈ ts,zAP t) {row:List Wt.Nd} {r:List Wlx.TV} (h:pl ts en=.inl (row,r)):zEk ts.length row r:=by
 unfold pl at h;split at h
 ·rename_i v hv
  simp only [Sum.inl.injEq,Prod.mk.injEq] at h;obtain ⟨q,hq⟩:=zF6 hv;refine ⟨?_,?_⟩
  ·rw [<-h.1];intro x hx;rw [List.mem_singleton.1 hx];exact zE9 (zNs (zC7 en hok) hv)
  ·rw [<-h.1,<-h.2];rw [hq];simp;omega
 ·cases h
theorem zH1 (k:Int) {s:ByteArray} (hs:s.size<=1024) (a b:Wt.Rf) (hb:b.s=⟨#[]⟩):Wt.FitN ⟨k,Wt.v0,0,⟨#[]⟩,0,⟨s,a.r,a.c,a.fr,a.fc⟩,b⟩:=⟨zIw,e0,by show s.size<=_;omega,by show b.s.size<=_;rw [hb];exact e0⟩
theorem zKc {s:ByteArray} (hs:s.size<=1024) {ts:List Wlx.TV} {en:Int} {row:List Wt.Nd} {r:List Wlx.TV} (h:pcs s ts en=.inl (row,r)):zEk ts.length row r:=by
 unfold pcs at h;cases h1:pc ts en with
 | inr e=>rw [h1] at h;cases h
 | inl q =>
  obtain ⟨a,r1⟩:=q;rw [h1] at h;simp only at h;have f1:=zNT h1;cases h2:tk r1 [58] with
  | none =>
   rw [h2] at h;simp only [Sum.inl.injEq,Prod.mk.injEq] at h;rw [<-h.1,<-h.2];exact ⟨λx hx=>by rw [List.mem_singleton.1 hx];exact zH1 2 hs a Wt.r0 rfl,by simp;omega⟩
  | some r2 =>
   rw [h2] at h;simp only at h;have s2:=(zBI h2).2;cases h3:pc r2 en with
   | inr e=>rw [h3] at h;cases h
   | inl q =>
    obtain ⟨b,r3⟩:=q;rw [h3] at h;simp only [Sum.inl.injEq,Prod.mk.injEq] at h;have f3:=zNT h3;rw [<-h.1,<-h.2];exact ⟨λx hx=>by rw [List.mem_singleton.1 hx];exact zH1 3 hs a b f3.1,by simp;omega⟩
theorem zCa (hok:∀ t ∈ ts,zAP t) (h:r <:+ ts):∀ t ∈ r,zAP t:=λt ht=>hok t (h.subset ht)
theorem zLz (hsub:∀ ts row r,sub ts=.inl (row,r)->r <:+ ts) (hfit:∀ ts row r,(∀ t ∈ ts,zAP t)->sub ts=.inl (row,r)->zEk ts.length row r) (k:Int):∀ (n:Nat) (row:List Wt.Nd) (ts:List Wlx.TV) (row':List Wt.Nd) (r:List Wlx.TV),(∀ t ∈ ts,zAP t)->(∀ x ∈ row,Wt.FitN x)->more sub k n row ts=.inl (row',r)->zEk (row.length+ts.length) row' r:=by
 intro n;induction n with
 | zero=>intro row ts row' r hok hf h;simp only [more,Sum.inl.injEq,Prod.mk.injEq] at h;rw [<-h.2,<-h.1];exact ⟨hf,Nat.le_refl _⟩
 | succ n ih =>
  intro row ts row' r hok hf h;simp only [more] at h;cases h1:zB2 k ts with
  | none=>rw [h1] at h;simp only [Sum.inl.injEq,Prod.mk.injEq] at h;rw [<-h.2,<-h.1];exact ⟨hf,Nat.le_refl _⟩
  | some q =>
   obtain ⟨o,r1⟩:=q;rw [h1] at h;simp only at h;have s1:=zAq h1;cases h2:sub r1 with
   | inr e=>rw [h2] at h;cases h
   | inl q =>
    obtain ⟨row2,r2⟩:=q;rw [h2] at h;simp only at h;have f2:=hfit _ _ _ (zCa hok s1.1) h2;have s2:=hsub _ _ _ h2;have:=ih _ _ _ _ (zCa hok (s2.trans s1.1)) (by
     intro x hx;rcases List.mem_cons.1 hx with rfl | hx
     ·exact zKE _ _
     rcases List.mem_append.1 hx with hx | hx
     ·exact hf x hx
     ·exact f2.1 x hx) h
    refine ⟨this.1,Nat.le_trans this.2 ?_⟩;have:=f2.2;simp only [List.length_cons,List.length_append];omega
theorem zMg (hsub:∀ ts row r,sub ts=.inl (row,r)->r <:+ ts) (hfit:∀ ts row r,(∀ t ∈ ts,zAP t)->sub ts=.inl (row,r)->zEk ts.length row r) (en:Int):∀ (n c:Nat) (rows:List Wt.Nd) (ts:List Wlx.TV) (c':Nat) (rows':List Wt.Nd) (r:List Wlx.TV),(∀ t ∈ ts,zAP t)->(∀ x ∈ rows,Wt.FitN x)->zCH sub en n c rows ts=.inl (c',rows',r)->(∀ x ∈ rows',Wt.FitN x)/\rows'.length+r.length<rows.length+ts.length:=by
 intro n;induction n with
 | zero=>intro c rows ts c' rows' r _ _ h;cases h
 | succ n ih =>
  intro c rows ts c' rows' r hok hf h;simp only [zCH] at h;cases h1:tk ts [41] with
  | some q=>rw [h1] at h;simp only [Sum.inl.injEq,Prod.mk.injEq] at h;have:=(zBI h1).2;rw [<-h.2.2,<-h.2.1];exact ⟨hf,by omega⟩
  | none =>
   rw [h1] at h;simp only at h;split at h
   ·cases h
   ·cases h2:tk ts [44] with
    | none=>rw [h2] at h;cases h
    | some r1 =>
     rw [h2] at h;simp only at h;have s1:=zBI h2;cases h3:sub r1 with
     | inr e=>rw [h3] at h;cases h
     | inl q =>
      obtain ⟨row,r2⟩:=q;rw [h3] at h;simp only at h;have f2:=hfit _ _ _ (zCa hok s1.1) h3;have s2:=hsub _ _ _ h3;have:=ih _ _ _ _ _ _ (zCa hok (s2.trans s1.1)) (by
       intro x hx;rcases List.mem_append.1 hx with hx | hx
       ·exact hf x hx
       ·exact f2.1 x hx) h
      have f3:=f2.2;refine ⟨this.1,Nat.lt_of_lt_of_le this.2 ?_⟩;simp only [List.length_append];omega
theorem zKN (hsub:∀ ts row r,sub ts=.inl (row,r)->r <:+ ts) (hfit:∀ ts row r,(∀ t ∈ ts,zAP t)->sub ts=.inl (row,r)->zEk ts.length row r) (en:Int) (nm:List UInt8) (hnm:nm.length<=1024) (ts:List Wlx.TV) (row:List Wt.Nd) (r:List Wlx.TV) (hok:∀ t ∈ ts,zAP t) (h:zDB sub en nm ts=.inl (row,r)):zEk ts.length row r:=by
 unfold zDB at h;cases h1:tk ts [41] with
 | some q =>
  rw [h1] at h;simp only [Sum.inl.injEq,Prod.mk.injEq] at h;have:=(zBI h1).2;rw [<-h.2,<-h.1];exact ⟨λx hx=>by rw [List.mem_singleton.1 hx];exact zHG 0 hnm,by simp;omega⟩
 | none =>
  rw [h1] at h;simp only at h;cases h2:sub ts with
  | inr e=>rw [h2] at h;cases h
  | inl q =>
   obtain ⟨row1,r1⟩:=q;rw [h2] at h;simp only at h;have f2:=hfit _ _ _ hok h2;have s2:=hsub _ _ _ h2;cases h3:zCH sub en (r1.length+1) 1 row1 r1 with
   | inr e=>rw [h3] at h;cases h
   | inl q =>
    obtain ⟨c,rows,r2⟩:=q;rw [h3] at h;simp only [Sum.inl.injEq,Prod.mk.injEq] at h;have f3:=zMg hsub hfit en _ _ _ _ _ _ _ (zCa hok s2) f2.1 h3;rw [<-h.2,<-h.1];refine ⟨?_,?_⟩
    ·intro x hx;rcases List.mem_cons.1 hx with rfl | hx
     ·exact zHG c hnm
     ·exact f3.1 x hx
    ·have:=f3.2;have:=f2.2;simp only [List.length_cons];omega
theorem zJi (hsub:∀ ts row r,sub ts=.inl (row,r)->r <:+ ts) (hfit:∀ ts row r,(∀ t ∈ ts,zAP t)->sub ts=.inl (row,r)->zEk ts.length row r) (en:Int) (ts:List Wlx.TV) (row:List Wt.Nd) (r:List Wlx.TV) (hok:∀ t ∈ ts,zAP t) (h3:(hd ts en).k=3) (h:zCL sub en ts=.inl (row,r)):zEk ts.length row r:=by
 have hl:=(zC7 en hok).1;have hne:0<ts.length:=by
  cases ts with
  | nil=>exact absurd h3 (by rw [zD0];decide)
  | cons t q=>simp
 have hdr:∀ k,(ts.drop k).length<=ts.length:=λk=>by rw [List.length_drop];omega
 have hb:ByteArray.size ⟨(hd ts en).t.toArray⟩<=1024:=hl;unfold zCL at h;split at h
 ·split at h
  ·have:=zKN hsub hfit en _ hl _ _ _ (zCa hok (List.drop_suffix 2 ts)) h;exact ⟨this.1,Nat.le_trans this.2 (hdr 2)⟩
  ·cases h
 split at h
 ·split at h
  ·have:=zKc hb h;exact ⟨this.1,Nat.le_trans this.2 (hdr 2)⟩
  ·cases h
 split at h
 ·simp only [Sum.inl.injEq,Prod.mk.injEq] at h;rw [<-h.2,<-h.1];exact ⟨λx hx=>by rw [List.mem_singleton.1 hx];exact zE9 ⟨by decide,by decide,by decide⟩,by simp;omega⟩
 split at h
 ·simp only [Sum.inl.injEq,Prod.mk.injEq] at h;rw [<-h.2,<-h.1];exact ⟨λx hx=>by rw [List.mem_singleton.1 hx];exact zE9 ⟨by decide,by decide,by decide⟩,by simp;omega⟩
 ·exact zKc (by decide) h
theorem zIc  (hfit:∀ ts row r,(∀ t ∈ ts,zAP t)->sub ts=.inl (row,r)->zEk ts.length row r) (en:Int) (ts:List Wlx.TV) (row:List Wt.Nd) (r:List Wlx.TV) (hok:∀ t ∈ ts,zAP t) (h:zB6 sub en ts=.inl (row,r)):zEk ts.length row r:=by
 unfold zB6 at h;cases h1:tk ts [40] with
 | none=>rw [h1] at h;cases h
 | some r1 =>
  rw [h1] at h;simp only at h;have s1:=zBI h1;cases h2:sub r1 with
  | inr e=>rw [h2] at h;cases h
  | inl q =>
   obtain ⟨row2,r2⟩:=q;rw [h2] at h;simp only at h;have f2:=hfit _ _ _ (zCa hok s1.1) h2;cases h3:tk r2 [41] with
   | none=>rw [h3] at h;cases h
   | some r3 =>
    rw [h3] at h;simp only [Sum.inl.injEq,Prod.mk.injEq] at h;have s3:=zBI h3;have:=f2.2;rw [<-h.2,<-h.1];exact ⟨f2.1,by omega⟩
theorem zN3:∀ (n:Nat) (row:List Wt.Nd) (ts:List Wlx.TV) (row':List Wt.Nd) (r:List Wlx.TV),(∀ x ∈ row,Wt.FitN x)->pct n row ts=.inl (row',r)->zEk (row.length+ts.length) row' r:=by
 intro n;induction n with
 | zero=>intro row ts row' r hf h;simp only [pct,Sum.inl.injEq,Prod.mk.injEq] at h;rw [<-h.2,<-h.1];exact ⟨hf,Nat.le_refl _⟩
 | succ n ih =>
  intro row ts row' r hf h;simp only [pct] at h;cases h1:zB2 6 ts with
  | none=>rw [h1] at h;simp only [Sum.inl.injEq,Prod.mk.injEq] at h;rw [<-h.2,<-h.1];exact ⟨hf,Nat.le_refl _⟩
  | some q =>
   obtain ⟨o,r1⟩:=q;rw [h1] at h;simp only at h;have s1:=zAq h1;have:=ih _ _ _ _ (λx hx=>by
    rcases List.mem_cons.1 hx with rfl | hx
    ·exact zKE _ _
    ·exact hf x hx) h
   refine ⟨this.1,Nat.le_trans this.2 ?_⟩;simp only [List.length_cons];omega
theorem zEC (en:Int):∀ (f k:Nat) (ts:List Wlx.TV) (row:List Wt.Nd) (r:List Wlx.TV),(∀ t ∈ ts,zAP t)->lv en f k ts=.inl (row,r)->zEk ts.length row r:=by
 intro f;induction f with
 | zero=>intro k ts row r _ h;cases h
 | succ f ih =>
  intro k ts row r hok h;simp only [lv] at h;split at h
  ·cases h1:lv en f (k+1) ts with
   | inr e=>rw [h1] at h;cases h
   | inl q =>
    obtain ⟨row1,r1⟩:=q;rw [h1] at h;simp only at h;have f1:=ih _ _ _ _ hok h1;have:=zLz (zCQ en f (k+1)) (ih (k+1)) _ _ _ _ _ _ (zCa hok (zCQ en _ _ _ _ _ h1)) f1.1 h;exact ⟨this.1,Nat.le_trans this.2 f1.2⟩
  split at h
  ·cases h1:zB2 5 ts with
   | none=>rw [h1] at h;exact ih _ _ _ _ hok h
   | some q =>
    obtain ⟨o,r1⟩:=q;rw [h1] at h;simp only at h;have s1:=zAq h1;cases h2:lv en f 5 r1 with
    | inr e=>rw [h2] at h;cases h
    | inl q =>
     obtain ⟨row2,r2⟩:=q;rw [h2] at h;simp only [Sum.inl.injEq,Prod.mk.injEq] at h;have f2:=ih _ _ _ _ (zCa hok s1.1) h2;rw [<-h.2,<-h.1];refine ⟨λx hx=>?_,?_⟩
     ·rcases List.mem_cons.1 hx with rfl | hx
      ·exact zKE _ _
      ·exact f2.1 x hx
     ·have:=f2.2;simp only [List.length_cons];omega
  split at h
  ·cases h1:lv en f 7 ts with
   | inr e=>rw [h1] at h;cases h
   | inl q =>
    obtain ⟨row1,r1⟩:=q;rw [h1] at h;simp only at h;have f1:=ih _ _ _ _ hok h1;have:=zN3 _ _ _ _ _ f1.1 h;exact ⟨this.1,Nat.le_trans this.2 f1.2⟩
  split at h
  ·rename_i h3
   exact zJi (zCQ en f 0) (ih 0) _ _ _ _ hok h3 h
  split at h
  ·exact zIc (ih 0) _ _ _ _ hok h
  ·exact zQU hok h
open Go.Shelf Go.RowKit
theorem zQG {w:World} {B B':Nat} {v:Value} {ts:List Wlx.Tok} (h:zEH w B v ts) (hb:B'<=B):zEH w B' v ts :=
 ⟨h.1,h.2.imp id λ⟨g,cap,cur,a,b,c⟩=>⟨g,cap,cur,a,Nat.le_trans hb b,c⟩⟩
theorem zCP (w:World) (a b c:Value) (t:TypeId):∀ j u,[a,b,c][j]? = some u->(w.alloc (.cells #[a,b,c] t)).cell? ((⟨w.heap.size,0,none⟩:Addr).add j)=some u:=by
 intro j u hj;match j,hj with
 | 0,hj=>simp at hj;subst hj;simp [Addr.add]
 | 1,hj=>simp at hj;subst hj;simp [Addr.add]
 | 2,hj=>simp at hj;subst hj;simp [Addr.add]
 | j+3,hj=>simp at hj
theorem zHU:∀ (l:List UInt8) (i:Nat),(0<Wlx.quo true i l->i+1<=Wlx.quo true i l)/\(0<Wlx.quo false i l->i<=Wlx.quo false i l):=by
 intro l;induction l with
 | nil=>intro i;exact ⟨λh=>absurd h (by show ¬ 0<0;omega),λ_=>Nat.le_refl _⟩
 | cons c t ih =>
  intro i;obtain ⟨h1,h2⟩:=ih (i+1);by_cases hc:c=34
  ·subst hc;rw [quo_hit,quo_hit];exact ⟨h2,λh=>Nat.le_of_succ_le (Nat.le_of_succ_le (h1 h))⟩
  ·rw [quo_in hc,quo_out hc];exact ⟨λh=>by have:=h1 h;omega,λ_=>Nat.le_refl _⟩
theorem zOY (h:0<Wlx.sz 2 l):2<=Wlx.sz 2 l:=by
 cases l with
 | nil=>exact absurd h (by decide)
 | cons c t =>
  have e:Wlx.sz 2 (c::t)=if c=34 then Wlx.quo true 1 t else 0:=rfl
  rw [e] at h ⊢;by_cases hc:c=34
  ·rw [if_pos hc] at h ⊢;exact (zHU t 1).1 h
  ·rw [if_neg hc] at h;omega
theorem zHI (b:ByteArray) (w:World) (hm:MaxAt w) (hs:b.size<=9223372036854775807):Calls prog 33 #[.string b] w λe w'=>zDS w.heap.size (zAX b.data.toList) e w'/\Below w.heap.size w w':=by
 by_cases hL:1024<b.size
 ·have E:Hid (zAX b.data.toList=Wlx.Res.err 2 0):=by
   show _=_;unfold zAX;rw [if_pos (by exact hL)]
  have hLi:(1024:Int)<(b.size:Int):=by omega
  go_enter func33,ntmps33;go_wp2;go_step3
  go_wp2;try rw [Exit.noGoto_ret]
  go_ret3
  refine ⟨?_,Below.refl _ _⟩;rw [E.out];rfl
 ·have E0:Hid (zAX b.data.toList=Wlx.scan 0 b.data.toList):=by
   show _=_;unfold zAX;rw [if_neg (by exact hL)]
  have hLi:¬ (1024:Int)<(b.size:Int):=by omega
  obtain ⟨R,hR⟩:∃ R,zAX b.data.toList=R:=⟨_,rfl⟩
  rw [hR] at E0 ⊢;clear hR;obtain ⟨i0,hi,hz0,hz1,hz2⟩:=info_parts zJ5;go_enter func33,ntmps33;go_wp2_with fail
  go_step3
  go_wp2_with fail
  go_step3
  go_wp2_with fail
  go_loopg [5,6] (b.size) (λgk x y wr=>∃ (e pos q:Nat) (acc:List Wlx.Tok),y=.int .i64 e/\gk=b.size - pos/\pos<=q/\q<=b.size/\(pos<e->q=e)/\(¬ pos<e->q=pos)/\wr.heap[w.heap.size]? = some (.stringIter b pos) /\
   Hid (R=Wlx.Res.pre acc (Wlx.scan q (b.data.toList.drop q)))/\Hid (∀ j,pos<=j->(hj:j<b.size)->j<q->(b[j]).toNat<128)/\Hid (zEH wr (w.heap.size+1) x acc)/\acc.length<=q/\Below w.heap.size w wr)
  case atStart =>
   exact ⟨0,0,0,[],rfl,rfl,Nat.le_refl _,Nat.zero_le _,λh=>absurd h (by omega),λ_=>rfl,World.iter_heap w b 0,E0,(λj a _ c=>by omega:∀ j,0<=j->(hj:j<b.size)->j<0->(b[j]).toNat<128),(World.ownsRow_nil _ _ _ _:zEH _ (w.heap.size+1) _ []),Nat.le_refl _,(Below.refl _ w).alloc (Nat.le_refl _) _⟩
  case round =>
   obtain ⟨lv,hlv⟩:∃ lv,lv=u5:=⟨u5,rfl⟩
   subst hlv;obtain ⟨e,pos,q,acc,rfl,hg,hpq,hqs,hq1,hq2,hit,HR,HA,HO,hac,hb⟩:=hrel;by_cases hlt:pos<b.size
   ·have nx:=λty=>Lib.run_next_any_at (P:=prog) wr w.heap.size b pos ty hit hlt
    have hk2:=λq=>Lib.iterAt_heap wr w.heap.size b pos q hit
    have hb2:=λq=>Lib.below_iterAt hb (Nat.le_refl w.heap.size) b q
    have ho2:=λq=>(ownsRow_iterAt HO.out (Nat.lt_succ_self _) b q:zEH (wr.iterAt w.heap.size b q) (w.heap.size+1) lv acc)
    by_cases hpe:pos<e
    ·obtain rfl:=hq1 hpe;have hc:(b[pos]).toNat<128:=HA.out pos (Nat.le_refl _) hlt hpe;have e:=decode_ascii b pos hlt hc;rw [e] at nx;have hpi:(pos:Int)<(q:Int):=by omega
     have hi2:=hk2 (pos+1);have hbb:=hb2 (pos+1);have HO2:Hid (zEH (wr.iterAt w.heap.size b (pos+1)) (w.heap.size+1) lv acc):=ho2 (pos+1);have HA2:Hid (∀ j,pos+1<=j->(hj:j<b.size)->j<q->(b[j]).toNat<128):=λj a1 a2 a3=>HA.out j (by omega) a2 a3
     clear hk2 hb2 ho2 HA HO e;go_wp2_with fail
     go_roundg (b.size - (pos+1))
     case rel=>exact ⟨q,pos+1,q,acc,rfl,rfl,hpe,hqs,λ_=>rfl,λ_=>by omega,hi2,HR,HA2,HO2,hac,hbb⟩
     case measure=>omega
    ·obtain rfl:=hq2 hpe;have hpi:¬ (q:Int)<(e:Int):=by omega
     obtain ⟨rv,hrv⟩:∃ rv:Nat,(Utf8.decode b q).1=rv:=⟨_,rfl⟩
     obtain ⟨n,hn⟩:∃ n:Nat,(Utf8.decode b q).2=n:=⟨_,rfl⟩
     have facts:1<=n/\q+n<=b.size/\(((rv:Int) == 32)=true->b[q]=32/\n=1)/\(((rv:Int) == 32)=false->¬ b[q]=32)/\((b[q]).toNat<128->n=1):=by
      rcases zD8 b q hlt with ⟨h1,e⟩ | ⟨h1,e⟩
      ·rw [e] at hrv hn;simp only at hrv hn;subst hn hrv;refine ⟨Nat.le_refl _,hlt,λh=>⟨UInt8.toNat_inj.1 (by have:=beq_iff_eq.1 h;show _=32;omega),rfl⟩,λh h2=>?_,λ_=>rfl⟩;rw [h2] at h;exact absurd h (by decide)
      ·obtain ⟨w1,w2,w3⟩:=zEM b q hlt h1;rw [hn] at w1 w2 w3;rw [hrv] at e;refine ⟨w1,w2,λh=>by have:=beq_iff_eq.1 h;omega,λh h2=>?_,λh=>by omega⟩;rw [h2] at h1;exact absurd h1 (by decide)
     obtain ⟨f1,f2,f3,f4,f5⟩:=facts;rw [hrv,hn] at nx;clear hrv hn;have hi2:=hk2 (q+n);have hbb:=hb2 (q+n);have HO2:Hid (zEH (wr.iterAt w.heap.size b (q+n)) (w.heap.size+1) lv acc):=ho2 (q+n);have hsz:(wr.iterAt w.heap.size b (q+n)).heap.size=wr.heap.size:=Lib.iterAt_size _ _ _ _;obtain ⟨W1,hW1⟩:∃ W1,wr.iterAt w.heap.size b (q+n)=W1:=⟨_,rfl⟩
     rw [hW1] at nx hi2 hbb HO2 hsz;clear hk2 hb2 ho2 HA HO hW1;have hd:=zA9 b q hlt;cases h32:((rv:Int) == 32) with
     | true =>
      obtain ⟨e32,rfl⟩:=f3 h32;have E:Hid (R=Wlx.Res.pre acc (Wlx.scan (q+1) (b.data.toList.drop (q+1)))):=by
       show _=_;rw [HR.out,hd,e32,Wlx.scan_blank]
      clear HR f3 f4 f5 e32 hd;go_wp2_with fail
      go_roundg (b.size - (q+1))
      case rel=>exact ⟨e,q+1,q+1,acc,rfl,rfl,Nat.le_refl _,hlt,λh=>by omega,λ_=>rfl,hi2,E,(λj a1 _ a3=>by omega:∀ j,q+1<=j->(hj:j<b.size)->j<q+1->(b[j]).toNat<128),HO2,by omega,hbb⟩
      case measure=>omega
     | false =>
      have hne:=f4 h32;have hmW:MaxAt W1:=MaxAt.below hm hbb;obtain ⟨c,hc⟩:∃ c,b[q]=c:=⟨_,rfl⟩
      obtain ⟨t,ht⟩:∃ t,b.data.toList.drop (q+1)=t:=⟨_,rfl⟩
      rw [hc] at hne f5 hd;rw [ht] at hd;have Hd:Hid (b.data.toList.drop q=c::t):=hd;have Hc:Hid (b[q]=c):=hc;have hlen:t.length+1+q=b.size:=by
       have:=congrArg List.length hd;simp only [List.length_drop,List.length_cons] at this;have e2:b.data.toList.length=b.size:=rfl;omega
      have Hne:Hid (¬ c=32):=hne;clear f3 f4 hd hc hne ht;have qc0:(0:Int)<=(q:Int):=by omega
      have qc1:(q:Int)<=(b.size:Int):=by omega
      go_wp2_with fail
      go_loopg [5,6,9] 5 (λgk z y x wi=>∃ kd:Nat,x=.int .i64 kd/\y=.int .i64 e/\z=lv/\gk=6 - kd/\1<=kd/\kd<=6/\Hid (∀ j,1<=j->j<kd->Wlx.sz j (c::t)=0)/\Below W1.heap.size W1 wi)
      case atStart=>exact ⟨1,rfl,rfl,rfl,rfl,by omega,by omega,(λj a1 a2=>by omega:∀ j,1<=j->j<1->Wlx.sz j (c::t)=0),Below.refl _ _⟩
      case round =>
       obtain ⟨kd,rfl,rfl,rfl,hg2,k1,k6,HZ,hbi⟩:=hrel;have si:=hbi.size;by_cases hk5:kd<=5
       ·obtain ⟨m,hmm⟩:∃ m,Wlx.sz kd (c::t)=m:=⟨_,rfl⟩
        have hml:m<=t.length+1:=by rw [<-hmm];exact Wlx.sz_le kd (c::t)
        have SZ:=zGq kd (b.extract q b.size) wr (by rw [ByteArray.size_extract];omega) k1 hk5;rw [zCJ,Hd.out,hmm] at SZ;have Hm:Hid (Wlx.sz kd (c::t)=m):=hmm;clear hmm;by_cases m0:m=0
        ·subst m0;have HZ2:Hid (∀ j,1<=j->j<kd+1->Wlx.sz j (c::t)=0):=λj a1 a2=>by
          by_cases h:j=kd
          ·rw [h];exact Hm.out
          ·exact HZ.out j a1 (by omega)
         clear HZ Hm;go_wp2_with fail
         refine SZ.mono ?_;rintro e1 w2 ⟨rfl,hb3⟩;go_wp2_with fail
         go_roundg (6 - (kd+1))
         case rel=>exact ⟨kd+1,by simp,rfl,rfl,rfl,by omega,by omega,HZ2,hbi.trans (hb3.mono hbi.size)⟩
         case measure=>omega
        ·have m0i:((m:Int) == 0)=false:=beq_eq_false_iff_ne.2 (by omega);have Hh:Hid (Wlx.hit (c::t)=kd):=Wlx.hit_first k1 hk5 (by rw [Hm.out];omega) HZ.out;have RP:=λw=>zJr (b.extract q (q+m)) w (by rw [ByteArray.size_extract];omega)
         have ee:(b.extract q (q+m)).data.toList=(c::t).take m:=by rw [Lib.extract_data,Hd.out];congr 1;omega
         have es:(b.extract q (q+m)).size=m:=by rw [ByteArray.size_extract];omega
         have SD:=λw hm=>zLM kd (b.extract q (q+m)) w hm (λh=>by rw [es];subst h;rw [<-Hm.out];exact zOY (by rw [Hm.out];omega)) (by rw [es];omega)
         rw [ee] at RP SD;obtain ⟨gd,hgd⟩:∃ gd,Wlx.runP Wlx.prt ((c::t).take m)=gd:=⟨_,rfl⟩
         have hgl:gd<=m:=by
          rw [<-hgd];have:=Wlx.runP_le Wlx.prt ((c::t).take m);rw [List.length_take] at this;omega
         rw [hgd] at RP;have qc2:(q:Int)+(m:Int)<=(b.size:Int):=by omega
         have qc3:(q:Int)<=(q:Int)+(m:Int):=by omega
         clear HZ ee es;by_cases hbad:gd<m
         ·have hbi2:(gd:Int)<(m:Int):=by omega
          have E:Hid (R=Wlx.Res.err 40 (q+gd)):=by
           show _=_
           rw [HR.out,Hd.out,Wlx.scan_bad Hne.out Hh.out (by omega) Hm.out (by rw [hgd];exact hbad),Wlx.Res.pre_err,hgd]
          clear HR Hh Hm hgd HO2;go_wp2_with fail
          refine SZ.mono ?_;rintro e1 w2 ⟨rfl,hb3⟩;go_wp2_with fail
          refine (RP _).mono ?_;rintro e1 w3 ⟨rfl,hb4⟩;go_wp2;try rw [Exit.noGoto_ret]
          go_ret3
          refine ⟨?_,?_⟩
          ·rw [E.out];exact congrArg (λz=>Ending.returned (.tuple #[.slice none 0 0,.int .i64 40,.int .i64 z])) (by omega)
          ·exact hbb.trans ((hbi.trans ((hb3.trans (hb4.mono hb3.size)).mono si)).mono hbb.size)
         ·have hbi2:¬ (gd:Int)<(m:Int):=by omega
          have hall:=zHN ((c::t).take m) (by rw [hgd,List.length_take];simp only [List.length_cons];omega);have hc128:c.toNat<128:=zK9 (hall c (by
           obtain ⟨m',rfl⟩:∃ m',m=m'+1:=⟨m - 1,by omega⟩
           simp))
          obtain rfl:=f5 hc128;have HA2:Hid (∀ j,q+1<=j->(hj:j<b.size)->j<q+m->(b[j]).toNat<128):=λj a1 a2 a3=>zK9 (hall _ (by
           rw [<-Hd.out];refine List.mem_iff_getElem?.2 ⟨j - q,?_⟩;rw [List.getElem?_take,if_pos (by omega),List.getElem?_drop,show q+(j - q)=j by omega];exact List.getElem?_eq_getElem (by exact a2)))
          obtain ⟨tx,htx⟩:∃ tx,Wlx.said kd ((c::t).take m)=tx:=⟨_,rfl⟩
          have E:Hid (R=Wlx.Res.pre (acc++[⟨kd,tx,q⟩]) (Wlx.scan (q+m) (b.data.toList.drop (q+m)))):=by
           show _=_
           rw [HR.out,Hd.out,Wlx.scan_tok Hne.out Hh.out (by omega) Hm.out (by rw [hgd];exact hbad),Wlx.Res.pre_snoc,htx,<-Hd.out,List.drop_drop]
          rw [htx] at SD;clear HR Hh Hm hgd hall htx hc128 Hd Hc Hne f5;go_wp2_with fail
          refine SZ.mono ?_;rintro e1 w2 ⟨rfl,hb3⟩;go_wp2_with fail
          refine (RP _).mono ?_;rintro e1 w3 ⟨rfl,hb4⟩;have hb34:Below W1.heap.size W1 w3:=hbi.trans ((hb3.trans (hb4.mono hb3.size)).mono si);have HS:=SD w3 (MaxAt.below hmW hb34);clear SZ RP SD;go_wp2_with fail
          refine HS.mono ?_;rintro e1 w4 ⟨rfl,hb5⟩;have hb14:Below W1.heap.size W1 w4:=hb34.trans (hb5.mono hb34.size);have own4:zEH w4 (w.heap.size+1) u5 acc:=zFs HO2.out hb14;have hi4:=zI6 hb14 hi2;have hb04:Below w.heap.size w w4:=hbb.trans (hb14.mono hbb.size);have s4:=hb04.size;have klt:w.heap.size<w4.heap.size:=(Array.getElem?_eq_some_iff.1 hi4).1;have own4l:=(own4.lt)
          clear HS HO2 hb3 hb4 hb5 hb34 hb14 hi2 hbb hbi;go_wp2_with (at_builtin;refine wpList_append_own _ rfl _ _ 68 rfl (w.heap.size+1) 107 i0 (.agg #[.int .i64 0,.string ⟨#[]⟩,.int .i64 0]) 3 32 underlying68 hi hz0 hz1 hz2 rfl (by decide) _ _ _ rfl (own4.alloc _) ⟨w4.heap.size,0,none⟩ 1 1 [.int .i64 kd,.string ⟨tx.toArray⟩,.int .i64 q] rfl rfl (zCP _ _ _ _ _) (by intro u hu;simp at hu;rcases hu with rfl | rfl | rfl <;> rfl) (by unfold maxLen;omega) (by omega) (by simp;omega) ?_)
          intro v2 w5 hown2 hgrow _;have hi5:w5.heap[w.heap.size]? = some (.stringIter b (q+1)):=zIN hgrow (by rw [Lib.alloc_old w4 _ _ klt];exact hi4) (λh=>by have:=own4l _ h.symm;omega);have hb5:Below w.heap.size w w5:=(hb04.alloc (by omega) _).grown hgrow (by simp;omega) (λk hk=>by have:=own4l _ hk;omega);have HO5:Hid (zEH w5 (w.heap.size+1) v2 (acc++[⟨kd,tx,q⟩])):=by
           show w5.ownsRow _ _ 3 v2 (acc++[_]).length (zNS (acc++[_]))
           rw [List.length_append,zFh];exact hown2
          clear hown2 hgrow own4 own4l hi4 hb04;go_wp2_with fail
          go_roundg (b.size - (q+1))
          case rel=>exact ⟨q+m,q+1,q+m,acc++[⟨kd,tx,q⟩],by simp,rfl,by omega,by omega,λ_=>rfl,λh=>by omega,hi5,E,HA2,HO5,by simp;omega,hb5⟩
          case measure=>omega
       ·obtain rfl:kd=6:=by omega
        have Hh:Hid (Wlx.hit (c::t)=6):=Wlx.hit_none λj a1 a2=>HZ.out j a1 (by omega)
        have RF:=zGQ (b.extract q b.size) wr (by rw [ByteArray.size_extract];omega);rw [zCJ,Hd.out,zCt] at RF;have e34:(if decide (34=c)=true then (41:Int) else 40)=((if c=34 then 41 else 40:Nat):Int):=by
         by_cases h:c=34
         ·subst h;rfl
         ·rw [if_neg (by simp;exact λe=>h e.symm),if_neg h];rfl
        simp only [] at RF;rw [e34] at RF;have E:Hid (R=Wlx.Res.err (if c=34 then 41 else 40) q):=by
         show _=_
         rw [HR.out,Hd.out,Wlx.scan_none Hne.out Hh.out,Wlx.Res.pre_err]
        generalize (if c=34 then 41 else 40)=er at E RF;clear HR Hh HZ e34 Hd Hc Hne HO2;go_wp2_with fail
        refine RF.mono ?_;rintro e1 w2 ⟨rfl,rfl⟩;go_wp2;try rw [Exit.noGoto_ret]
        go_ret3
        refine ⟨?_,hbb.trans (hbi.mono hbb.size)⟩;rw [E.out];rfl
   ·have nx:=λty=>Lib.run_next_end_at (P:=prog) wr w.heap.size b pos ty hit hlt
    have hqe:q=b.size:=by omega
    have E:Hid (R=Wlx.Res.ok acc):=by
     show _=_
     rw [HR.out,zAl b q (by omega),Wlx.scan_nil,Wlx.Res.pre_ok,List.append_nil]
    have HO2:zEH wr w.heap.size lv acc:=zQG HO.out (by omega);have HO3:Hid (zEH wr w.heap.size lv acc):=HO2;clear HR HA HO HO2;go_wp2;try rw [Exit.noGoto_ret]
    go_ret3
    refine ⟨?_,hb⟩;rw [E.out];exact ⟨_,rfl,HO3.out⟩
theorem zDG:∀ (p l:List UInt8),Wlx.begins p l=true->l.take p.length=p
 | [],_,_=>rfl
 | _::_,[],h=>by simp [Wlx.begins] at h
 | a::p,b::t,h=>by
  simp only [Wlx.begins,Bool.and_eq_true,decide_eq_true_eq] at h;simp only [List.length_cons,List.take_succ_cons,zDG p t h.2,h.1]
theorem zDJ (l:List UInt8):∀ (ns:List (List UInt8)),0<Wlx.nameSz l ns->l.take (Wlx.nameSz l ns) ∈ ns
 | [],h=>by simp [Wlx.nameSz] at h
 | n::r,h=>by
  unfold Wlx.nameSz at h ⊢;by_cases hb:Wlx.begins n l=true
  ·rw [if_pos hb,zDG n l hb];simp
  ·rw [if_neg hb] at h ⊢;exact List.mem_cons_of_mem _ (zDJ l r h)
theorem zLP {x:List UInt8} (h:x ∈ Wlx.faults):∃ i,∃ h:i<9,1<=i/\x=fNames[i]'h:=by
 simp only [Wlx.faults,List.mem_cons,List.not_mem_nil,or_false] at h;rcases h with rfl | rfl | rfl | rfl | rfl | rfl | rfl | rfl
 ·exact ⟨1,by decide,by decide,rfl⟩
 ·exact ⟨2,by decide,by decide,rfl⟩
 ·exact ⟨3,by decide,by decide,rfl⟩
 ·exact ⟨4,by decide,by decide,rfl⟩
 ·exact ⟨5,by decide,by decide,rfl⟩
 ·exact ⟨6,by decide,by decide,rfl⟩
 ·exact ⟨7,by decide,by decide,rfl⟩
 ·exact ⟨8,by decide,by decide,rfl⟩
theorem zFP:∀ (n:Nat) (l:List UInt8),l.length<=n->(Wlx.undbl l).length<=l.length:=by
 intro n;induction n with
 | zero=>intro l h;obtain rfl:=List.eq_nil_of_length_eq_zero (Nat.le_zero.1 h);simp [Wlx.undbl]
 | succ n ih =>
  intro l h;match l,h with
  | [],_=>exact Nat.le_refl _
  | [c],_=>exact Nat.le_refl _
  | c::d::t,h =>
   simp only [List.length_cons] at h;rw [Wlx.undbl];split
   ·have:=ih t (by omega);simp only [List.length_cons];omega
   ·have:=ih (d::t) (by simp only [List.length_cons];omega);simp only [List.length_cons] at this ⊢;omega
theorem zGy (k:Nat) (l:List UInt8):(Wlx.said k l).length<=l.length:=by
 unfold Wlx.said;split
 ·have:=zFP _ ((l.drop 1).take (l.length - 2)) (Nat.le_refl _);have h2:((l.drop 1).take (l.length - 2)).length<=l.length:=by rw [List.length_take,List.length_drop];omega
  omega
 ·exact Nat.le_refl _
theorem zGU:∀ (n:Nat) (p:Nat) (l:List UInt8),l.length<=n->l.length<=1024->∀ ts,Wlx.scan p l=Wlx.Res.ok ts->ts.length<=l.length/\∀ t ∈ ts.map Wlx.tv,zAP t:=by
 intro n;induction n with
 | zero=>intro p l h hl ts hs;obtain rfl:=List.eq_nil_of_length_eq_zero (Nat.le_zero.1 h);rw [Wlx.scan_nil] at hs;cases hs;simp
 | succ n ih =>
  intro p l h hl ts hs;cases l with
  | nil=>rw [Wlx.scan_nil] at hs;cases hs;simp
  | cons c t =>
   rw [Wlx.scan_cons] at hs;simp only [List.length_cons] at h hl ⊢;split at hs
   ·have:=ih _ t (by omega) (by omega) _ hs;exact ⟨by omega,this.2⟩
   split at hs
   ·cases hs
   rename_i h6
   split at hs
   ·cases hs
   have hp:=Wlx.hit_pos h6;have hle:=Wlx.sz_le (Wlx.hit (c::t)) (c::t);revert hs hp hle
   have hk4:Wlx.hit (c::t)=4->Wlx.sz (Wlx.hit (c::t)) (c::t)=Wlx.nameSz (c::t) Wlx.faults:=λh=>by rw [h];rfl
   revert hk4
   generalize Wlx.hit (c::t)=k;generalize Wlx.sz k (c::t)=m;intro hk4 hs hp hle;simp only [List.length_cons] at hle;generalize hR:Wlx.scan (p+m) ((c::t).drop m)=R at hs;cases R with
   | inr q=>cases hs
   | inl us =>
    have hlen:((c::t).drop m).length<=n:=by rw [List.length_drop];simp only [List.length_cons];omega
    have:=ih (p+m) ((c::t).drop m) hlen (by rw [List.length_drop];simp only [List.length_cons];omega) us hR;simp only [Wlx.Res.cons,Wlx.Res.ok,Sum.inl.injEq] at hs;subst hs;rw [List.length_drop] at this;simp only [List.length_cons] at this;refine ⟨by simp only [List.length_cons];omega,λt' ht=>?_⟩;rw [List.map_cons] at ht;rcases List.mem_cons.1 ht with rfl | ht
    ·refine ⟨?_,λh4=>?_⟩
     ·have h1:=zGy k ((c::t).take m);rw [List.length_take] at h1;simp only [List.length_cons] at h1;show (Wlx.said k _).length<=_
      omega
     ·have h4:k=4:=by
       have h4':((k:Nat):Int)=4:=h4;omega
      subst h4;refine zLP ?_;show Wlx.said 4 _ ∈ _
      have e:=hk4 rfl;subst e;exact zDJ (c::t) Wlx.faults hp
    ·exact this.2 t' ht
end Go.Proofs.YtdghjlmnlodnlaaGreatDoor
