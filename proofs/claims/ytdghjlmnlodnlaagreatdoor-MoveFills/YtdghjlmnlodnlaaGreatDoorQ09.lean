/- TStateB, TStateC, VWalkD, PlainF, PlainS, WalkRd, WalkC, AtKit. -/
import Derived.Test.YtdghjlmnlodnlaaGreatDoorQ08
set_option maxHeartbeats 2000000
set_option maxRecDepth 100000
set_option linter.unusedVariables false
namespace Go.Proofs.YtdghjlmnlodnlaaGreatDoor
open Tryz
open Go.RowKit
variable {w W:World} {kp:Nat} {en:Int} {ts:List Wlx.TV} {row:Option Nat}
theorem zAQ (w:World) (kp o:Nat) (v:Value):w.grownBy (w.setCell ⟨kp,o,none⟩ v) (some kp):=by
 have hb:=(Below.refl kp w).setCell (p:=⟨kp,o,none⟩) (Nat.le_refl _) v;refine ⟨hb.os,hb.tape,hb.output,hb.size,λk hk hn=>?_⟩;exact Below.heap_setCell _ _ _ _ (λe=>hn (by rw [e]))
theorem PSt.far (h:PSt w kp ts en) {b:Nat} (hb:kp<b) (o:Nat) (v:Value):PSt (w.setCell ⟨b,o,none⟩ v) kp ts en:=by
 obtain ⟨av,cap,h1,h2,h3⟩:=h;refine ⟨av,cap,h1,h2.far (by omega) o v,λi hi=>?_⟩;obtain ⟨bb,off,e,hn,c0,c1,c2⟩:=h3 i hi;refine ⟨bb,off,e,hn,?_,?_,?_⟩ <;> rw [World.cell?_setCell_far _ _ _ _ (by simp;omega)] <;> assumption
theorem zAS (h:w.grownBy W row) {b:Nat} (hb:w.heap.size<=b) (o:Nat) (v:Value):w.grownBy (W.setCell ⟨b,o,none⟩ v) row:=by
 have q:=(Below.refl b W).setCell (p:=⟨b,o,none⟩) (Nat.le_refl _) v;exact ⟨q.os.trans h.os,q.tape.trans h.tape,q.output.trans h.output,Nat.le_trans h.size q.size,λk hk hn=>(q.block k (by omega)).trans (h.block k hk hn)⟩
theorem PSt.lt (h:PSt w kp ts en):kp<w.heap.size:=by
 obtain ⟨av,cap,h1,h2,h3⟩:=h;exact h2.lt
theorem PSt.moved {n cap:Nat} {av av':Option Addr} {a r:List Wlx.TV} (hn:a.length=n) (hcap:n+r.length<=cap) (h2:AtL w kp [.slice av (a++r).length cap,.int .i64 en])
  (h3:∀ i (h:i<(a++r).length),∃ bb off,av=some ⟨bb,off,none⟩/\bb<kp/\w.cell? ⟨bb,off+i * 3,none⟩=some (.int .i64 ((a++r)[i]).k)/\w.cell? ⟨bb,off+i * 3+1,none⟩=some (.string ⟨((a++r)[i]).t.toArray⟩)/\w.cell? ⟨bb,off+i * 3+2,none⟩=some (.int .i64 ((a++r)[i]).p))
  (hav:0<r.length->av'=av.map (·.add (n * 3))):PSt (w.setCell ⟨kp,0,none⟩ (.slice av' r.length (cap - n))) kp r en:=by
 refine ⟨av',cap - n,by omega,h2.set 0 _,λi hi=>?_⟩;obtain ⟨bb,off,e,hne,d0,d1,d2⟩:=h3 (i+n) (by rw [List.length_append];omega);have hg:(a++r)[i+n]'(by rw [List.length_append];omega)=r[i]:=by
  rw [List.getElem_append_right (by omega)];congr 1
  omega
 rw [hg] at d0 d1 d2;refine ⟨bb,off+n * 3,?_,hne,?_,?_,?_⟩
 ·rw [hav (by omega),e];show some ((⟨bb,off,none⟩:Addr).add (n * 3))=_
  rw [Addr.add_mid]
 ·rw [World.cell?_setCell_far _ _ _ _ (by simp;omega),show off+n * 3+i * 3=off+(i+n) * 3 by omega];exact d0
 ·rw [World.cell?_setCell_far _ _ _ _ (by simp;omega),show off+n * 3+i * 3+1=off+(i+n) * 3+1 by omega];exact d1
 ·rw [World.cell?_setCell_far _ _ _ _ (by simp;omega),show off+n * 3+i * 3+2=off+(i+n) * 3+2 by omega];exact d2
theorem zBB (n:Nat) (kp:Nat) (a r:List Wlx.TV) (en:Int) (w:World) (h:PSt w kp (a++r) en) (hn:a.length=n) (hn2:n<=2) (hts:(a++r).length<=1024):Calls prog 142 #[.pointer (some ⟨kp,0,none⟩),.int .i64 n] w λe w'=>e=.returned (.tuple #[])/\PSt w' kp r en/\w.grownBy w' (some kp):=by
 obtain ⟨av,cap,h1,h2,h3⟩:=h;obtain ⟨c0,c1,f0,f1⟩:=h2.two;have hl:(a++r).length=n+r.length:=by rw [List.length_append,hn]
 rw [hl] at h1 hts;simp only [hl] at c0;have e1:(0:Int)<=(n:Int):=by omega
 have e2:(n:Int)<=((n+r.length:Nat):Int):=by omega
 go_enter func142,ntmps142;go_wp2
 ·go_end0
  refine ⟨rfl,?_,zAQ _ _ _ _⟩;have q:=PSt.moved (av':=av) hn h1 h2 h3 (λq=>by omega);rw [show cap - n=0 by omega] at q;exact q
 ·go_end0
  exact ⟨rfl,PSt.moved hn h1 h2 h3 (λh=>rfl),zAQ _ _ _ _⟩
def pos (ts:List Wlx.TV) (en:Int):Int:=(hd ts en).p
def zBj (c p:Int):Ending:=.panicked [{v:=.iface 72 (.agg #[.int .i64 c,.int .i64 p]),recovered:=false}]
theorem zPV (k:Int) (x:ByteArray) (p:Int) (w:World):(Instr.field 107 (.agg #[.int .i64 k,.string x,.int .i64 p]) 2).run prog w=.ok (.int .i64 p) w:=by kernel_rfl
theorem zHd (k:Int) (x:ByteArray) (p:Int) (w:World):(Instr.field 107 (.agg #[.int .i64 k,.string x,.int .i64 p]) 0).run prog w=.ok (.int .i64 k) w:=by kernel_rfl
theorem zH5 (k:Int) (x:ByteArray) (p:Int) (w:World):(Instr.field 107 (.agg #[.int .i64 k,.string x,.int .i64 p]) 1).run prog w=.ok (.string x) w:=by kernel_rfl
theorem zEU (kp:Nat) (ts:List Wlx.TV) (en c:Int) (w:World) (h:PSt w kp ts en):Calls prog 87 #[.pointer (some ⟨kp,0,none⟩),.int .i64 c] w λe w'=>e=zBj c (pos ts en)/\Below w.heap.size w w':=by
 have N:=zBO kp ts en w h;unfold pos;generalize hd ts en=t at *;obtain ⟨k,x,p⟩:=t;unfold tkV at N;simp only at N ⊢;have hfl:=zPV;go_enter func87,ntmps87;go_wp2_with fail
 refine N.mono ?_;rintro e w1 ⟨rfl,hb⟩;go_wp2;exact ⟨rfl,rfl,hb⟩
theorem zA6 (kp:Nat) (w:World):Calls prog 56 #[.pointer (some ⟨kp,0,none⟩),.bool true] w λe w'=>e=.returned (.tuple #[])/\w=w':=by
 go_enter func56,ntmps56;go_wp2;go_end0
 exact ⟨rfl,rfl⟩
theorem zAn (kp:Nat) (ts:List Wlx.TV) (en:Int) (w:World) (h:PSt w kp ts en):Calls prog 56 #[.pointer (some ⟨kp,0,none⟩),.bool false] w λe w'=>e=zBj 50 (pos ts en)/\Below w.heap.size w w':=by
 have N:=zEU kp ts en 50 w h;unfold zBj at N ⊢;go_enter func56,ntmps56;go_wp2_with fail
 refine N.mono ?_;rintro e w1 ⟨rfl,hb⟩;go_wp2;exact ⟨rfl,rfl,hb⟩
def tk (ts:List Wlx.TV) (m:List UInt8):Option (List Wlx.TV):=match ts with
 | []=>none
 | t::r=>if zCX t m then some r else none
theorem zAv (kp:Nat) (ts:List Wlx.TV) (en:Int) (m:List UInt8) (w:World) (h:PSt w kp ts en) (hts:ts.length<=1024):Calls prog 197 #[.pointer (some ⟨kp,0,none⟩),.string ⟨m.toArray⟩] w λe w' =>
  match tk ts m with
  | some r=>e=.returned (.bool true)/\PSt w' kp r en/\w.grownBy w' (some kp)
  | none=>e=.returned (.bool false)/\PSt w' kp ts en/\w.grownBy w' (some kp):=by
 have N:=zBO kp ts en w h;have M:=λw=>zCB (hd ts en) m w
 cases ts with
 | nil =>
  have e0:zCX (hd [] en) m=false:=rfl;rw [e0] at M;generalize hd [] en=t at *;simp only [tk];go_enter func197,ntmps197;go_wp2_with fail
  refine N.mono ?_;rintro e w1 ⟨rfl,hb1⟩;go_wp2_with fail
  refine (M _).mono ?_;rintro e w2 ⟨rfl,hb2⟩;have hb:=zAA hb1 hb2;go_wp2;go_ret;exact ⟨rfl,h.below hb,zAC hb _⟩
 | cons t r =>
  have e0:hd (t::r) en=t:=rfl;rw [e0] at M N;simp only [tk];cases hq:zCX t m with
  | false =>
   rw [hq] at M;rw [if_neg (by decide)];go_enter func197,ntmps197;go_wp2_with fail
   refine N.mono ?_;rintro e w1 ⟨rfl,hb1⟩;go_wp2_with fail
   refine (M _).mono ?_;rintro e w2 ⟨rfl,hb2⟩;have hb:=zAA hb1 hb2;go_wp2;go_ret;exact ⟨rfl,h.below hb,zAC hb _⟩
  | true =>
   rw [hq] at M;rw [if_pos rfl];go_enter func197,ntmps197;go_wp2_with fail
   refine N.mono ?_;rintro e w1 ⟨rfl,hb1⟩;go_wp2_with fail
   refine (M _).mono ?_;rintro e w2 ⟨rfl,hb2⟩;have hb:=zAA hb1 hb2;have P:=zBB 1 kp [t] r en w2 (h.below hb) rfl (by decide) hts;go_wp2_with fail
   refine P.mono ?_;rintro e w3 ⟨rfl,hp,hg⟩;go_wp2;go_ret;exact ⟨rfl,hp,zAB (zAC hb _) hg⟩
theorem AtL.grown {W':World} {k:Nat} {vs:List Value} (h:AtL W k vs) (hg:W.grownBy W' row) (hne:some k ≠ row):AtL W' k vs:=by
 obtain ⟨h1,h2,h3⟩:=h;have hbk:=hg.block k h1 hne;refine ⟨Nat.lt_of_lt_of_le h1 hg.size,λi v hi=>?_,λi hi=>?_⟩
 ·exact (World.cell?_of_block (a:=⟨k,i,none⟩) hbk).trans (h2 i v hi)
 ·rw [<-h3 i hi];unfold World.frozen?;simp only [hbk]
def zB0 (k:Int) (ts:List Wlx.TV):Option ((Int × List UInt8 × Int) × List Wlx.TV):=match ts with
 | []=>none
 | t::r=>if t.k=5 then (Wt.opAs t.t k).map λo=>(o,r) else none
def zB8 (kp:Nat) (en:Int) (ts:List Wlx.TV) (r:Option ((Int × List UInt8 × Int) × List Wlx.TV)) (w:World) (e:Ending) (w':World):Prop:=match r with
 | some ((o,m,t),r)=>e=.returned (.tuple #[.agg #[.int .i64 o,.string ⟨m.toArray⟩,.int .i64 t],.bool true])/\PSt w' kp r en/\w.grownBy w' (some kp)
 | none=>e=.returned (.tuple #[.agg #[.int .i64 0,.string ⟨#[]⟩,.int .i64 0],.bool false])/\PSt w' kp ts en/\w.grownBy w' (some kp)
theorem zBT (kp:Nat) (ts:List Wlx.TV) (en k:Int) (w:World) (h:PSt w kp ts en) (hts:ts.length<=1024) (hO:OpsAt w):Calls prog 113 #[.pointer (some ⟨kp,0,none⟩),.int .i64 k] w λe w'=>zB8 kp en ts (zB0 k ts) w e w':=by
 have h':PSt (w.alloc (.cells #[.int .i64 0,.string ⟨#[]⟩,.int .i64 0] 131)) kp ts en:=h.below ((Below.refl _ _).alloc (Nat.le_refl _) _);have N:=zBO kp ts en _ h';clear h';have hO0:=hO.alloc (.cells #[.int .i64 0,.string ⟨#[]⟩,.int .i64 0] 131);have pR:=AtL.new0 w 131 [.int .i64 0,.string ⟨#[]⟩,.int .i64 0];have hB0:=zAI (Below.refl _ w) (.cells #[.int .i64 0,.string ⟨#[]⟩,.int .i64 0] 131);obtain ⟨t,ht⟩:∃ t,hd ts en=t:=⟨_,rfl⟩
 have A:=λw h=>zJQ ⟨t.t.toArray⟩ k w h
 have e1:(⟨t.t.toArray⟩:ByteArray).data.toList=t.t:=rfl;rw [e1] at A;clear e1;rw [ht] at N;have hko:zB0 k ts=if t.k=5 then (Wt.opAs t.t k).map λo=>(o,ts.tail) else none:=by
  cases ts with
  | nil=>subst ht;rfl
  | cons a r=>subst ht;rfl
 have hne:t.k=5->∃ r,ts=t::r:=by
  intro h5;cases ts with
  | nil=>subst ht;exact absurd h5 (by show ¬ (0:Int)=5;decide)
  | cons a r=>subst ht;exact ⟨r,rfl⟩
 rw [hko];clear ht hko;obtain ⟨tk,tx,tp⟩:=t;simp only at A hne ⊢;unfold tkV at N;simp only at N;cases ha:Wt.opAs tx k with
 | none =>
  rw [ha] at A;have e2:(if tk=5 then Option.map (λo=>(o,ts.tail)) (none:Option (Int × List UInt8 × Int)) else none)=none:=by split <;> rfl
  rw [e2];simp only [zB8];simp only [opV] at A;go_enter func113,ntmps113;go_wp2_with fail
  refine N.mono ?_;rintro e w1 ⟨rfl,hb1⟩;have pR1:=AtL.below hb1 pR;have hB1:=zAA hB0 hb1;have hO1:=hO0.below hb1;have hA:=A _ (hO1.alloc (.cells #[.int .i64 tk,.string ⟨tx.toArray⟩,.int .i64 tp] 107));have pR2:=AtL.alloc pR1 (.cells #[.int .i64 tk,.string ⟨tx.toArray⟩,.int .i64 tp] 107);have hB2:=zAI hB1 (.cells #[.int .i64 tk,.string ⟨tx.toArray⟩,.int .i64 tp] 107);clear pR hB0 hO0 N hb1 pR1 hB1 hO1 A;go_wp2_with fail
  refine hA.mono ?_;rintro e w2 ⟨rfl,hb2⟩;have pR3:=AtL.below hb2 pR2;have hB3:=zAA hB2 hb2;have hlt:=pR3.lt;have hx:¬ w.heap.size=w2.heap.size:=by omega
  have hx2:¬ w2.heap.size=w.heap.size:=by omega
  obtain ⟨c0,c1,c2,f0,f1,f2⟩:=pR3.three;clear hA pR2 hB2 hb2;go_wp2;refine bodyPost_ret (v:=.tuple #[.agg #[.int .i64 0,.string ⟨#[]⟩,.int .i64 0],.bool false]) (by simp [results,results113,go_sem, *]) rfl ?_;have hf:∀ W:World,Below w.heap.size w W->(Ending.returned (.tuple #[.agg #[.int .i64 0,.string ⟨#[]⟩,.int .i64 0],.bool false])=Ending.returned (.tuple #[.agg #[.int .i64 0,.string ⟨#[]⟩,.int .i64 0],.bool false])/\PSt W kp ts en/\w.grownBy W (some kp)):=λW hW=>⟨rfl,h.below hW,zAC hW _⟩
  exact hf _ (clB hB3)
 | some q =>
  obtain ⟨o,m,t2⟩:=q;rw [ha] at A;simp only [opV] at A;by_cases h5:tk=5
  ·rw [if_pos h5];obtain ⟨r,hr⟩:=hne h5;subst hr;simp only [Option.map_some,List.tail_cons,zB8];subst h5;go_enter func113,ntmps113;go_wp2_with fail
   refine N.mono ?_;rintro e w1 ⟨rfl,hb1⟩;have pR1:=AtL.below hb1 pR;have hB1:=zAA hB0 hb1;have hO1:=hO0.below hb1;have hA:=A _ (hO1.alloc (.cells #[.int .i64 5,.string ⟨tx.toArray⟩,.int .i64 tp] 107));have pR2:=AtL.alloc pR1 (.cells #[.int .i64 5,.string ⟨tx.toArray⟩,.int .i64 tp] 107);have hB2:=zAI hB1 (.cells #[.int .i64 5,.string ⟨tx.toArray⟩,.int .i64 tp] 107);clear pR hB0 hO0 N hb1 pR1 hB1 hO1 A;go_wp2_with fail
   refine hA.mono ?_;rintro e w2 ⟨rfl,hb2⟩;have hb2x:=hb2;have pR3:=AtL.below hb2 pR2;have hB3:=zAA hB2 hb2;have hlt:=pR3.lt;have hx:¬ w.heap.size=w2.heap.size:=by omega
   have hx2:¬ w2.heap.size=w.heap.size:=by omega
   obtain ⟨c0,c1,c2,f0,f1,f2⟩:=pR3.three;clear hA pR2 hB2 hb2;have pT:=AtL.below hb2x (AtL.new0 w1 107 [.int .i64 5,.string ⟨tx.toArray⟩,.int .i64 tp]);obtain ⟨u0,u1,u2⟩:=pT.f3;have hltT:=pT.lt;have pO2:=AtL.new0 w2 131 [.int .i64 o,.string ⟨m.toArray⟩,.int .i64 t2];have P:=zBB 1 kp [⟨5,tx,tp⟩] r en (w2.alloc (.cells #[.int .i64 o,.string ⟨m.toArray⟩,.int .i64 t2] 131)) (h.below (zAI hB3 _)) rfl (by decide) hts;have hB4:=zAI hB3 (.cells #[.int .i64 o,.string ⟨m.toArray⟩,.int .i64 t2] 131);have hkp:=h.lt;go_wp2_with fail
   refine P.mono ?_;rintro e w3 ⟨rfl,hp,hg⟩;have pR4:AtL w3 w.heap.size [.int .i64 0,.string ⟨#[]⟩,.int .i64 0]:=AtL.grown (AtL.alloc pR3 _) hg (by intro e;have:=Option.some.inj e;omega);have pO4:AtL w3 w2.heap.size [.int .i64 o,.string ⟨m.toArray⟩,.int .i64 t2]:=AtL.grown pO2 hg (by intro e;have:=Option.some.inj e;omega);have hG:=zAB (zAC hB4 (some kp)) hg;obtain ⟨c0,c1,c2,f0,f1,f2⟩:=pR4.three;obtain ⟨d0,d1,d2,g0,g1,g2⟩:=pO4.three;go_wp2;refine bodyPost_ret (v:=.tuple #[.agg #[.int .i64 o,.string ⟨m.toArray⟩,.int .i64 t2],.bool true]) (by simp [results,results113,go_sem, *]) rfl ?_;exact ⟨rfl,((hp.far hkp _ _).far hkp _ _).far hkp _ _,zAS (zAS (zAS hG (Nat.le_refl _) _ _) (Nat.le_refl _) _ _) (Nat.le_refl _) _ _⟩
  ·rw [if_neg h5];have h5':(tk == 5)=false:=by simp [h5]
   simp only [zB8];go_enter func113,ntmps113;go_wp2_with fail
   refine N.mono ?_;rintro e w1 ⟨rfl,hb1⟩;have pR1:=AtL.below hb1 pR;have hB1:=zAA hB0 hb1;have hO1:=hO0.below hb1;have hA:=A _ (hO1.alloc (.cells #[.int .i64 tk,.string ⟨tx.toArray⟩,.int .i64 tp] 107));have pR2:=AtL.alloc pR1 (.cells #[.int .i64 tk,.string ⟨tx.toArray⟩,.int .i64 tp] 107);have hB2:=zAI hB1 (.cells #[.int .i64 tk,.string ⟨tx.toArray⟩,.int .i64 tp] 107);clear pR hB0 hO0 N hb1 pR1 hB1 hO1 A;go_wp2_with fail
   refine hA.mono ?_;rintro e w2 ⟨rfl,hb2⟩;have hb2x:=hb2;have pR3:=AtL.below hb2 pR2;have hB3:=zAA hB2 hb2;have hlt:=pR3.lt;have hx:¬ w.heap.size=w2.heap.size:=by omega
   have hx2:¬ w2.heap.size=w.heap.size:=by omega
   obtain ⟨c0,c1,c2,f0,f1,f2⟩:=pR3.three;clear hA pR2 hB2 hb2;have pT:=AtL.below hb2x (AtL.new0 w1 107 [.int .i64 tk,.string ⟨tx.toArray⟩,.int .i64 tp]);obtain ⟨u0,u1,u2⟩:=pT.f3;have hltT:=pT.lt;have hy:¬ w1.heap.size=w2.heap.size:=by omega
   go_wp2;refine bodyPost_ret (v:=.tuple #[.agg #[.int .i64 0,.string ⟨#[]⟩,.int .i64 0],.bool false]) (by simp [results,results113,go_sem, *]) rfl ?_;have hf:∀ W:World,Below w.heap.size w W->(Ending.returned (.tuple #[.agg #[.int .i64 0,.string ⟨#[]⟩,.int .i64 0],.bool false])=Ending.returned (.tuple #[.agg #[.int .i64 0,.string ⟨#[]⟩,.int .i64 0],.bool false])/\PSt W kp ts en/\w.grownBy W (some kp)):=λW hW=>⟨rfl,h.below hW,zAC hW _⟩
   exact hf _ (clB hB3)
theorem vlz (w:World):AtL (w.alloc (.cells #[.int .i64 0,.int .i64 0,.int .i64 0,.string ⟨#[]⟩,.bool false,.int .i64 0] 26)) w.heap.size [.int .i64 0,.int .i64 0,.int .i64 0,.string ⟨#[]⟩,.bool false,.int .i64 0]:=AtL.new0 w _ _
def zC9 (c:Int):Wt.Vl:=⟨4,0,0,⟨#[]⟩,false,if Wv.flt c then c else 2⟩
theorem zBU (c:Int) (w:World):CR 29 #[.int .i64 c] w (vlV (zC9 c)):=by
 have C:=λw=>zEO c w
 unfold zC9;cases hq:Wv.flt c with
 | false =>
  rw [hq] at C;go_enter func29,ntmps29;go_wp2_with fail
  refine (C _).mono ?_;rintro e w1 ⟨rfl,rfl⟩;go_wp2;refine bodyPost_ret (v:=vlV ⟨4,0,0,⟨#[]⟩,false,2⟩) (by simp [results,results29,go_sem,vlV,vl6]) rfl ⟨rfl,?_⟩;exact clA
 | true =>
  rw [hq] at C;go_enter func29,ntmps29;go_wp2_with fail
  refine (C _).mono ?_;rintro e w1 ⟨rfl,rfl⟩;go_wp2;refine bodyPost_ret (v:=vlV ⟨4,0,0,⟨#[]⟩,false,c⟩) (by simp [results,results29,go_sem,vlV,vl6]) rfl ⟨rfl,?_⟩;exact clA
def zA1 (b:Bool):Wt.Vl:=⟨3,0,0,⟨#[]⟩,b,0⟩
theorem zEX (b:Bool) (w:World):CR 187 #[.bool b] w (vlV (zA1 b)):=by
 go_enter func187,ntmps187;go_wp2;refine bodyPost_ret (v:=vlV (zA1 b)) (by simp [results,results187,go_sem,vlV,vl6,zA1]) rfl ⟨rfl,?_⟩;exact clA
def zIR (n d:Int):Wt.Vl:=⟨1,Wnum.cN n d,Wnum.cD n d,⟨#[]⟩,false,0⟩
theorem zMK (n d:Int) (w:World) (h1:-9223372036854775808<=n) (h2:n<=9223372036854775807) (h3:-9223372036854775808<=d) (h4:d<=9223372036854775807) :
  CR 185 #[.agg #[.int .i64 n,.int .i64 d]] w (vlV (zIR n d)):=by
 have C:=λw=>zC7 n d w h1 h2 h3 h4
 unfold zIR Wnum.cN Wnum.cD;have pA:=(AtL.new0 w 24 [.int .i64 n,.int .i64 d]).alloc (.cells zV0 26);have pR:=vlz (w.alloc (.cells #[.int .i64 n,.int .i64 d] 24));simp only [World.size_alloc] at pR;have hB0:=zAI (zAI (Below.refl _ w) (.cells #[.int .i64 n,.int .i64 d] 24)) (.cells zV0 26);cases hq:Wnum.rightB n d with
 | false =>
  rw [hq] at C;go_enter func185,ntmps185;go_wp2_with fail
  refine (C _).mono ?_;rintro e w1 ⟨rfl,hb⟩;have pA1:=AtL.below hb pA;have pR1:=AtL.below hb pR;obtain ⟨a0,a1,f0,f1⟩:=pA1.two;obtain ⟨c0,c1,c2,c3,c4,c5⟩:=pR1.f6;have g0:=pR1.2.2 0 (by decide);have g1:=pR1.2.2 1 (by decide);have g2:=pR1.2.2 2 (by decide);have g3:=pR1.2.2 3 (by decide);have g4:=pR1.2.2 4 (by decide);have g5:=pR1.2.2 5 (by decide);have hB1:=zAA hB0 hb;go_wp2;refine bodyPost_ret (v:=vlV ⟨1,0,1,⟨#[]⟩,false,0⟩) (by simp [results,results185,go_sem,vlV,vl6, *]) rfl ⟨rfl,?_⟩;exact (clB hB1)
 | true =>
  rw [hq] at C;go_enter func185,ntmps185;go_wp2_with fail
  refine (C _).mono ?_;rintro e w1 ⟨rfl,hb⟩;have pA1:=AtL.below hb pA;have pR1:=AtL.below hb pR;obtain ⟨a0,a1,f0,f1⟩:=pA1.two;obtain ⟨c0,c1,c2,c3,c4,c5⟩:=pR1.f6;have g0:=pR1.2.2 0 (by decide);have g1:=pR1.2.2 1 (by decide);have g2:=pR1.2.2 2 (by decide);have g3:=pR1.2.2 3 (by decide);have g4:=pR1.2.2 4 (by decide);have g5:=pR1.2.2 5 (by decide);have hB1:=zAA hB0 hb;go_wp2;refine bodyPost_ret (v:=vlV ⟨1,n,d,⟨#[]⟩,false,0⟩) (by simp [results,results185,go_sem,vlV,vl6, *]) rfl ⟨rfl,?_⟩;exact (clB hB1)
def zCZ (s:ByteArray):Wt.Vl:=if Wv.prts s.data.toList then (if 256<s.size then ⟨4,0,0,⟨#[]⟩,false,7⟩ else ⟨2,0,0,s,false,0⟩) else ⟨4,0,0,⟨#[]⟩,false,2⟩
theorem zIr (s:ByteArray) (w:World) (hs:s.size<=9223372036854775807):CR 183 #[.string s] w (vlV (zCZ s)):=by
 have C:=λw=>zHO s w hs
 have F2:=λw=>zBU 2 w
 have F7:=λw=>zBU 7 w
 have e2:zC9 2=⟨4,0,0,⟨#[]⟩,false,2⟩:=rfl;have e7:zC9 7=⟨4,0,0,⟨#[]⟩,false,7⟩:=rfl;rw [e2] at F2;rw [e7] at F7;simp only [vlV,vl6] at F2 F7;have pR:=vlz w;have hB0:=zAI (Below.refl _ w) (.cells zV0 26);unfold zCZ;cases hq:Wv.prts s.data.toList with
 | false =>
  rw [hq] at C;rw [if_neg (by decide)];go_enter func183,ntmps183;go_wp2_with fail
  refine (C _).mono ?_;rintro e w1 ⟨rfl,rfl⟩;go_wp2_with fail
  refine (F2 _).mono ?_;rintro e w2 ⟨rfl,hb⟩;have pR1:=AtL.below hb pR;obtain ⟨c0,c1,c2,c3,c4,c5⟩:=pR1.f6;have g0:=pR1.2.2 0 (by decide);have g1:=pR1.2.2 1 (by decide);have g2:=pR1.2.2 2 (by decide);have g3:=pR1.2.2 3 (by decide);have g4:=pR1.2.2 4 (by decide);have g5:=pR1.2.2 5 (by decide);have hB1:=zAA hB0 hb;go_wp2;refine bodyPost_ret (v:=vlV ⟨4,0,0,⟨#[]⟩,false,2⟩) (by simp [results,results183,go_sem,vlV,vl6, *]) rfl ⟨rfl,?_⟩;exact (clB hB1)
 | true =>
  rw [hq] at C;rw [if_pos rfl];by_cases hl:256<s.size
  ·have hli:(256:Int)<(s.size:Int):=by omega
   rw [if_pos hl];go_enter func183,ntmps183;go_wp2_with fail
   refine (C _).mono ?_;rintro e w1 ⟨rfl,rfl⟩;go_wp2_with fail
   refine (F7 _).mono ?_;rintro e w2 ⟨rfl,hb⟩;have pR1:=AtL.below hb pR;obtain ⟨c0,c1,c2,c3,c4,c5⟩:=pR1.f6;have g0:=pR1.2.2 0 (by decide);have g1:=pR1.2.2 1 (by decide);have g2:=pR1.2.2 2 (by decide);have g3:=pR1.2.2 3 (by decide);have g4:=pR1.2.2 4 (by decide);have g5:=pR1.2.2 5 (by decide);have hB1:=zAA hB0 hb;go_wp2;refine bodyPost_ret (v:=vlV ⟨4,0,0,⟨#[]⟩,false,7⟩) (by simp [results,results183,go_sem,vlV,vl6, *]) rfl ⟨rfl,?_⟩;exact (clB hB1)
  ·have hli:¬ (256:Int)<(s.size:Int):=by omega
   rw [if_neg hl];go_enter func183,ntmps183;go_wp2_with fail
   refine (C _).mono ?_;rintro e w1 ⟨rfl,rfl⟩;go_wp2;refine bodyPost_ret (v:=vlV ⟨2,0,0,s,false,0⟩) (by simp [results,results183,go_sem,vlV,vl6, *]) rfl ⟨rfl,?_⟩;exact clA
end Go.Proofs.YtdghjlmnlodnlaaGreatDoor
namespace Go.Proofs.YtdghjlmnlodnlaaGreatDoor.Wnum
def tenP (k:Nat):Int:=10 ^ k
theorem tenP_succ (k:Nat):tenP (k+1)=tenP k * 10:=by unfold tenP;exact Int.pow_succ 10 k
theorem tenP_pos (k:Nat):1<=tenP k:=by
 induction k with
 | zero=>exact Int.le_refl _
 | succ k ih=>rw [tenP_succ];omega
theorem zFr (k n:Nat):tenP k<=tenP (k+n):=by
 induction n with
 | zero=>exact Int.le_refl _
 | succ n ih=>rw [<-Nat.add_assoc,tenP_succ];have:=tenP_pos (k+n);omega
theorem zGD:tenP 12=1000000000000:=by decide
theorem zL1:tenP 6=1000000:=by decide
theorem tenP_le12 {k:Nat} (h:k<=12):tenP k<=1000000000000:=by
 have:=zFr k (12 - k);rw [show k+(12 - k)=12 by omega,zGD] at this;exact this
theorem tenP_le6 {k:Nat} (h:k<=6):tenP k<=1000000:=by
 have:=zFr k (6 - k);rw [show k+(6 - k)=6 by omega,zL1] at this;exact this
end Go.Proofs.YtdghjlmnlodnlaaGreatDoor.Wnum
namespace Go.Proofs.YtdghjlmnlodnlaaGreatDoor.Wnum
def bt (s:ByteArray) (i:Nat):Int:=((s.data.toList.getD i 0).toNat:Int)
abbrev isD (b:Int):Prop:=48<=b/\b<=57
def cnt (s:ByteArray):Nat->Nat->Nat
 | _,0=>0
 | i,k+1=>if isD (bt s i) then cnt s (i+1) k+1 else 0
def say (s:ByteArray) (i:Nat):Nat->Int
 | 0=>0
 | k+1=>say s i k * 10+(bt s (i+k) - 48)
theorem bt_bd (s:ByteArray) (i:Nat):0<=bt s i/\bt s i<=255:=by
 unfold bt;have:=(s.data.toList.getD i 0).toNat_lt;omega
theorem bt_get {s:ByteArray} {i:Nat} (h:i<s.size):(((s[i]'h).toNat:Nat):Int)=bt s i:=by
 unfold bt;obtain ⟨⟨l⟩⟩:=s;have hl:i<l.length:=h;have e:(ByteArray.mk ⟨l⟩)[i]'h=l.getD i 0:=by
  simp only [List.getD,List.getElem?_eq_getElem hl,Option.getD_some];rfl
 rw [e]
theorem zOw (s:ByteArray):∀ k i,cnt s i k<=k:=by
 intro k;induction k with
 | zero=>intro i;exact Nat.le_refl _
 | succ k ih =>
  intro i;show (if isD (bt s i) then cnt s (i+1) k+1 else 0)<=k+1
  split
  ·have:=ih (i+1);omega
  ·omega
theorem zNh (s:ByteArray):∀ k i j,j<cnt s i k->isD (bt s (i+j)):=by
 intro k;induction k with
 | zero=>intro i j h;exact absurd h (Nat.not_lt_zero _)
 | succ k ih =>
  intro i j h;have e:cnt s i (k+1)=if isD (bt s i) then cnt s (i+1) k+1 else 0:=rfl
  rw [e] at h;by_cases c:isD (bt s i)
  ·rw [if_pos c] at h;cases j with
   | zero=>exact c
   | succ j =>
    have:=ih (i+1) j (by omega);rw [show i+1+j=i+(j+1) by omega] at this;exact this
  ·rw [if_neg c] at h;omega
theorem zO1 (s:ByteArray):∀ k i,cnt s i k<k->¬ isD (bt s (i+cnt s i k)):=by
 intro k;induction k with
 | zero=>intro i h;omega
 | succ k ih =>
  intro i h;have e:cnt s i (k+1)=if isD (bt s i) then cnt s (i+1) k+1 else 0:=rfl
  rw [e] at h ⊢;by_cases c:isD (bt s i)
  ·rw [if_pos c] at h ⊢;have:=ih (i+1) (by omega);rw [show i+1+cnt s (i+1) k=i+(cnt s (i+1) k+1) by omega] at this;exact this
  ·rw [if_neg c];exact c
theorem zEJ {s:ByteArray} {i:Nat}:∀ k,(∀ m,m<k->isD (bt s (i+m)))->0<=say s i k:=by
 intro k;induction k with
 | zero=>intro _;exact Int.le_refl _
 | succ k ih =>
  intro h;have h1:=ih (λm hm=>h m (by omega));have h2:=(h k (by omega)).1;show 0<=say s i k * 10+(bt s (i+k) - 48)
  omega
theorem zHV {s:ByteArray} {i:Nat}:∀ n k,(∀ m,m<k+n->isD (bt s (i+m)))->say s i k<=say s i (k+n):=by
 intro n;induction n with
 | zero=>intro k _;exact Int.le_refl _
 | succ n ih =>
  intro k h;have h1:=ih k (λm hm=>h m (by omega));have h2:=(h (k+n) (by omega)).1;have h3:=zEJ (s:=s) (i:=i) (k+n) (λm hm=>h m (by omega));show say s i k<=say s i (k+n) * 10+(bt s (i+(k+n)) - 48)
  omega
def dk (s:ByteArray) (i:Nat):Nat:=cnt s i (s.size - i)
def dv (s:ByteArray) (i:Nat):Int:=say s i (dk s i)
def dB (s:ByteArray) (i:Nat):Bool:=decide (0<dk s i/\dv s i<=1000000000000000000)
theorem dk_le (s:ByteArray) (i:Nat):dk s i<=s.size - i:=zOw s _ i
theorem dk_all (s:ByteArray) (i:Nat):∀ m,m<dk s i->isD (bt s (i+m)):=λm h=>zNh s _ i m h
theorem zPl {s:ByteArray} {i:Nat} (h:i+dk s i<s.size):¬ isD (bt s (i+dk s i)):=zO1 s _ i (by unfold dk at *;omega)
theorem zFo (s:ByteArray) (i:Nat):0<=dv s i:=zEJ _ (dk_all s i)
theorem over_before {s:ByteArray} {i j:Nat} (hj:j<=dk s i) (h:1000000000000000000<say s i j):dB s i=false:=by
 have:=zHV (s:=s) (i:=i) (dk s i - j) j (by rw [show j+(dk s i - j)=dk s i by omega];exact dk_all s i);rw [show j+(dk s i - j)=dk s i by omega] at this;unfold dB dv;rw [decide_eq_false_iff_not];omega
theorem ten_step {a d:Int}:(1000000000000000000 - d) / 10<a ↔ 1000000000000000000<a * 10+d:=by omega
def rdV (s:ByteArray):Int:=if dB s 0=true then dv s 0 else 0
def rdS (s:ByteArray):ByteArray:=if dB s 0=true then s.extract (dk s 0) s.size else ⟨#[]⟩
theorem rd_false {s:ByteArray} (h:dB s 0=false):rdV s=0/\rdS s=⟨#[]⟩:=by unfold rdV rdS;rw [h];exact ⟨rfl,rfl⟩
theorem rd_true {s:ByteArray} (h:dB s 0=true):rdV s=dv s 0/\rdS s=s.extract (dk s 0) s.size:=by unfold rdV rdS;rw [h];exact ⟨rfl,rfl⟩
theorem dk_more {s:ByteArray} {i j:Nat} (hj:j<=dk s i) (h1:i+j<s.size) (h2:isD (bt s (i+j))):j<dk s i:=by
 rcases Nat.lt_or_ge j (dk s i) with h | h
 ·exact h
 ·have e:j=dk s i:=by omega
  exact absurd (e ▸ h2) (zPl (by omega))
theorem dk_stop {s:ByteArray} {i j:Nat} (hj:j<=dk s i) (h:s.size<=i+j \/ ¬ isD (bt s (i+j))):dk s i=j:=by
 rcases Nat.lt_or_ge j (dk s i) with c | c
 ·rcases h with h | h
  ·have:=dk_le s i;omega
  ·exact absurd (dk_all s i j c) h
 ·omega
theorem dB_stop {s:ByteArray} {i j:Nat} (e:dk s i=j) (hb:say s i j<=1000000000000000000):dv s i=say s i j/\dB s i=decide (0<j):=by
 have h1:dv s i=say s i j:=by unfold dv;rw [e]
 refine ⟨h1,?_⟩;unfold dB;rw [h1,e];by_cases h:0<j
 ·rw [decide_eq_true h,decide_eq_true ⟨h,hb⟩]
 ·rw [decide_eq_false h,decide_eq_false (λx=>h x.1)]
theorem say_succ (s:ByteArray) (i k:Nat):say s i (k+1)=say s i k * 10+(bt s (i+k) - 48):=rfl
def pcN (s:ByteArray) (p:Nat):Int:=if dv s p<=1000000000000000000 then dv s p else 0
def pcI (s:ByteArray) (p:Nat):Int:=if dv s p<=1000000000000000000 then ((p+dk s p:Nat):Int) else 0
theorem pc_over {s:ByteArray} {p j:Nat} (hj:j<=dk s p) (h:1000000000000000000<say s p j):pcN s p=0/\pcI s p=0/\dB s p=false:=by
 have:=zHV (s:=s) (i:=p) (dk s p - j) j (by rw [show j+(dk s p - j)=dk s p by omega];exact dk_all s p);rw [show j+(dk s p - j)=dk s p by omega] at this;have hv:¬ dv s p<=1000000000000000000:=by unfold dv;omega
 exact ⟨if_neg hv,if_neg hv,over_before hj h⟩
theorem pc_in {s:ByteArray} {p q:Nat} (hq:p<=q) (e:dk s p=q - p) (hb:say s p (q - p)<=1000000000000000000):pcN s p=say s p (q - p)/\pcI s p=(q:Int)/\dB s p=decide (p<q):=by
 obtain ⟨h1,h2⟩:=dB_stop e hb;have hv:dv s p<=1000000000000000000:=by rw [h1];exact hb
 refine ⟨by unfold pcN;rw [if_pos hv,h1],by unfold pcI;rw [if_pos hv,e];omega,?_⟩;rw [h2];by_cases h:p<q
 ·rw [decide_eq_true h,decide_eq_true (by omega)]
 ·rw [decide_eq_false h,decide_eq_false (by omega)]
end Go.Proofs.YtdghjlmnlodnlaaGreatDoor.Wnum
namespace Go.Proofs.YtdghjlmnlodnlaaGreatDoor
open Tryz
open Go.RowKit
variable {W W':World} {k:Nat} {v0 v1:Value}
theorem zB9 (s:ByteArray) (w:World) (hs:s.size<=9223372036854775807) :
  Calls prog 209 #[.string s] w λe w'=>e=.returned (.tuple #[.int .i64 (Wnum.rdV s),.string (Wnum.rdS s),.bool (Wnum.dB s 0)])/\∃ n,w'=w.drewN n:=by
 go_enter func209,ntmps209;go_wp2;go_loop [2,5,6] (λx i _=>∃ j:Nat,∃ a:Int,j<=Wnum.dk s 0/\x=.int .i64 a/\i=.int .i64 j/\0<=a/\a<=1000000000000000000/\Hid (Wnum.say s 0 j=a)) (λ_ i _=>s.size - (intOf i).toNat)
 case atStart=>exact ⟨0,0,Nat.zero_le _,rfl,rfl,by omega,by omega,(rfl:Wnum.say s 0 0=0)⟩
 case round =>
  obtain ⟨j,a,hj,rfl,rfl,ha,hb,ea⟩:=hrel;have hds:Wnum.dk s 0<=s.size:=by have:=Wnum.dk_le s 0;omega
  have HJ:Hid (j<=Wnum.dk s 0):=hj;have HS:Hid (Wnum.dk s 0<=s.size):=hds;clear hj hds;by_cases hlt:j<s.size
  ·have eb:=Wnum.bt_get hlt;obtain ⟨c0,c1⟩:=Wnum.bt_bd s j;obtain ⟨c,ec⟩:∃ c,c=Wnum.bt s j:=⟨_,rfl⟩
   have EC:Hid (Wnum.bt s (0+j)=c):=by show _=_;rw [Nat.zero_add,ec]
   rw [<-ec] at eb c0 c1;clear ec;by_cases d1:48<=c
   ·by_cases d2:c<=57
    ·have lt:=Wnum.dk_more HJ.out (by omega) (by rw [EC.out];exact ⟨d1,d2⟩);have LT:Hid (j<Wnum.dk s 0):=lt;have SS:Hid (Wnum.say s 0 (j+1)=a * 10+(c - 48)):=by show _=_;rw [Wnum.say_succ,ea.out,EC.out]
     clear lt;by_cases ov:(1000000000000000000 - (c - 48)) / 10<a
     ·have f0:=Wnum.over_before (j:=j+1) LT.out (by rw [SS.out];exact Wnum.ten_step.1 ov);obtain ⟨f1,f2⟩:=Wnum.rd_false f0;have F0:Hid (Wnum.dB s 0=false):=f0;have F1:Hid (Wnum.rdV s=0):=f1;have F2:Hid (Wnum.rdS s=⟨#[]⟩):=f2;clear f0 f1 f2;go_wp2;go_ret3
      exact ⟨by rw [F0.out,F1.out,F2.out];rfl,0,rfl⟩
     ·have nv:a * 10+(c - 48)<=1000000000000000000:=by
       have:¬ 1000000000000000000<a * 10+(c - 48):=λh=>ov (Wnum.ten_step.2 h)
       omega
      have n0:0<=a * 10+(c - 48):=by omega
      go_wp2;go_round
      case rel=>exact ⟨j+1,a * 10+(c - 48),LT.out,by go_num,by go_num,n0,nv,SS⟩
      case measure=>simp [intOf];omega
    ·have ek:=Wnum.dk_stop HJ.out (Or.inr (by rw [EC.out];intro h;exact d2 h.2));have d2':decide (c<=57)=false:=decide_eq_false d2;obtain ⟨g1,g2⟩:=Wnum.dB_stop ek (by rw [ea.out];exact hb);rw [ea.out] at g1;by_cases hz:j=0
     ·have f0:Wnum.dB s 0=false:=by rw [g2];exact decide_eq_false (by omega)
      have hz':((j:Int) == 0)=true:=by rw [beq_iff_eq];omega
      obtain ⟨f1,f2⟩:=Wnum.rd_false f0;have F0:Hid (Wnum.dB s 0=false):=f0;have F1:Hid (Wnum.rdV s=0):=f1;have F2:Hid (Wnum.rdS s=⟨#[]⟩):=f2;clear f0 f1 f2 g1 g2 ek hz;go_wp2;go_ret3
      exact ⟨by rw [F0.out,F1.out,F2.out];rfl,0,rfl⟩
     ·have f0:Wnum.dB s 0=true:=by rw [g2];exact decide_eq_true (by omega)
      obtain ⟨f1,f2⟩:=Wnum.rd_true f0;rw [g1] at f1;rw [ek] at f2;have F0:Hid (Wnum.dB s 0=true):=f0;have F1:Hid (Wnum.rdV s=a):=f1;have F2:Hid (Wnum.rdS s=s.extract j s.size):=f2;clear f0 f1 f2 g1 g2 ek;have hz':((j:Int) == 0)=false:=by rw [beq_eq_false_iff_ne];omega
      go_wp2;go_quiet (fail)
      go_wp2;go_ret3
      exact ⟨by rw [F0.out,F1.out,F2.out];rfl,_,rfl⟩
   ·have ek:=Wnum.dk_stop HJ.out (Or.inr (by rw [EC.out];intro h;exact d1 h.1));have d1':decide (48<=c)=false:=decide_eq_false d1;obtain ⟨g1,g2⟩:=Wnum.dB_stop ek (by rw [ea.out];exact hb);rw [ea.out] at g1;by_cases hz:j=0
    ·have f0:Wnum.dB s 0=false:=by rw [g2];exact decide_eq_false (by omega)
     have hz':((j:Int) == 0)=true:=by rw [beq_iff_eq];omega
     obtain ⟨f1,f2⟩:=Wnum.rd_false f0;have F0:Hid (Wnum.dB s 0=false):=f0;have F1:Hid (Wnum.rdV s=0):=f1;have F2:Hid (Wnum.rdS s=⟨#[]⟩):=f2;clear f0 f1 f2 g1 g2 ek hz;go_wp2;go_ret3
     exact ⟨by rw [F0.out,F1.out,F2.out];rfl,0,rfl⟩
    ·have f0:Wnum.dB s 0=true:=by rw [g2];exact decide_eq_true (by omega)
     obtain ⟨f1,f2⟩:=Wnum.rd_true f0;rw [g1] at f1;rw [ek] at f2;have F0:Hid (Wnum.dB s 0=true):=f0;have F1:Hid (Wnum.rdV s=a):=f1;have F2:Hid (Wnum.rdS s=s.extract j s.size):=f2;clear f0 f1 f2 g1 g2 ek;have hz':((j:Int) == 0)=false:=by rw [beq_eq_false_iff_ne];omega
     go_wp2;go_quiet (fail)
     go_wp2;go_ret3
     exact ⟨by rw [F0.out,F1.out,F2.out];rfl,_,rfl⟩
  ·have ek:=Wnum.dk_stop HJ.out (Or.inl (by omega));have ej:j=s.size:=by have:=HJ.out;have:=HS.out;omega
   obtain ⟨g1,g2⟩:=Wnum.dB_stop ek (by rw [ea.out];exact hb);rw [ea.out] at g1;by_cases hz:j=0
   ·have f0:Wnum.dB s 0=false:=by rw [g2];exact decide_eq_false (by omega)
    have hz':((j:Int) == 0)=true:=by rw [beq_iff_eq];omega
    obtain ⟨f1,f2⟩:=Wnum.rd_false f0;have F0:Hid (Wnum.dB s 0=false):=f0;have F1:Hid (Wnum.rdV s=0):=f1;have F2:Hid (Wnum.rdS s=⟨#[]⟩):=f2;clear f0 f1 f2 g1 g2 ek ej hz;go_wp2;go_ret3
    exact ⟨by rw [F0.out,F1.out,F2.out];rfl,0,rfl⟩
   ·have f0:Wnum.dB s 0=true:=by rw [g2];exact decide_eq_true (by omega)
    obtain ⟨f1,f2⟩:=Wnum.rd_true f0;rw [g1] at f1;rw [ek] at f2;have F0:Hid (Wnum.dB s 0=true):=f0;have F1:Hid (Wnum.rdV s=a):=f1;have F2:Hid (Wnum.rdS s=s.extract j s.size):=f2;have jl:j<=s.size:=by omega
    clear f0 f1 f2 g1 g2 ek ej;have hz':((j:Int) == 0)=false:=by rw [beq_eq_false_iff_ne];omega
    go_wp2;go_quiet (fail)
    go_wp2;go_ret3
    exact ⟨by rw [F0.out,F1.out,F2.out];rfl,_,rfl⟩
theorem zLu (n d:Int) (w:World) (h1:-9223372036854775807<=n) (h2:n<=9223372036854775807) (h3:1<=d) (h4:d<=9223372036854775807) :
  CR 201 #[.int .i64 n,.int .i64 d] w (.tuple #[.agg #[.int .i64 (Wnum.oN (some (Rat.divInt n d))),.int .i64 (Wnum.oD (some (Rat.divInt n d)))],.bool (Wnum.oB (some (Rat.divInt n d)))]):=by
 obtain ⟨g1,g2,g3,g4,g5⟩:=Wnum.mk_tdiv h3 h1 h2;have k1:Hid ((Rat.divInt n d).num=n.tdiv ((Int.gcd n d:Nat):Int)):=g4;have g8:d.tdiv ((Int.gcd n d:Nat):Int)=d / ((Int.gcd n d:Nat):Int):=Int.tdiv_eq_ediv_of_nonneg (by omega);have k2:Hid ((((Rat.divInt n d).den:Nat):Int)=d.tdiv ((Int.gcd n d:Nat):Int)):=g5.trans g8.symm;have g6:0<=d / ((Int.gcd n d:Nat):Int):=Int.ediv_nonneg (by omega) (by omega);have g7:d / ((Int.gcd n d:Nat):Int)<=d:=Int.ediv_le_self _ (by omega);rw [<-g8] at g6 g7;have g9:d.tdiv ((Int.gcd n d:Nat):Int)<=9223372036854775807:=by omega
 have g10:-9223372036854775807<=d.tdiv ((Int.gcd n d:Nat):Int):=by omega
 have hw:IntKind.i64.wrap (d.tdiv ((Int.gcd n d:Nat):Int))=d.tdiv ((Int.gcd n d:Nat):Int):=IntWalk.i64_in _ (by omega);have hwn:IntKind.i64.wrap (n.tdiv ((Int.gcd n d:Nat):Int))=n.tdiv ((Int.gcd n d:Nat):Int):=IntWalk.i64_in _ (by omega);clear g4 g5 g8 g7 g6;have t0:(n == -9223372036854775808)=false:=beq_eq_false_iff_ne.2 (by omega);have t1:(d == -9223372036854775808)=false:=beq_eq_false_iff_ne.2 (by omega);have t2:(d == 0)=false:=beq_eq_false_iff_ne.2 (by omega);have t3:decide (d<0)=false:=by simp;omega
 generalize Rat.divInt n d=r at *;go_enter func201,ntmps201;go_wp2_with (go_at_call 152;refine (zCL _ _ _ (by omega) (by omega) (by omega) (by omega)).mono ?_;rintro e w1 ⟨rfl,nq,rfl⟩)
 clear t0 t1 t2 t3;go_region_with ((go_at_call 211;refine (zEB _ _ r _ g2 g3 k1 k2).mono ?_;rintro e w1 ⟨rfl,hb⟩;obtain ⟨hc,hf⟩:=zHj hb;have hz:=bsz (k:=w.heap.size) hb (by simp)))
 all_goals
  go_wp2;refine bodyPost_ret (v:=.tuple #[.agg #[.int .i64 (Wnum.oN (some r)),.int .i64 (Wnum.oD (some r))],.bool (Wnum.oB (some r))]) (by simp [results,results201,go_sem,hc]) rfl ⟨rfl,?_⟩;exact clA
def At (W:World) (k:Nat) (v0 v1:Value):Prop :=
 W.cell? ⟨k,0,none⟩=some v0/\W.cell? ⟨k,1,none⟩=some v1/\W.frozen? ⟨k,0,none⟩=false/\W.frozen? ⟨k,1,none⟩=false
theorem At.lt (h:At W k v0 v1):k<W.heap.size:=World.block_lt_of_cell? W ⟨k,0,none⟩ h.1
theorem At.new (W:World) (t:TypeId) {k:Nat} (hk:k=W.heap.size) (v0 v1:Value):At (W.alloc (.cells #[v0,v1] t)) k v0 v1:=by
 subst hk;exact ⟨by simp [go_sem],by simp [go_sem],by simp [go_sem],by simp [go_sem]⟩
theorem At.below (hb:Below W.heap.size W W') {k:Nat} {v0 v1:Value} (h:At W k v0 v1):At W' k v0 v1:=by
 have hl:=h.lt;obtain ⟨h1,h2,h3,h4⟩:=h;exact ⟨(hb.cell (p:=⟨k,0,none⟩) hl).trans h1,(hb.cell (p:=⟨k,1,none⟩) hl).trans h2,(hb.frozen (p:=⟨k,0,none⟩) hl).trans h3,(hb.frozen (p:=⟨k,1,none⟩) hl).trans h4⟩
theorem At.drewN (h:At W k v0 v1) (n:Nat):At (W.drewN n) k v0 v1:=At.below (zAG (Below.refl _ _) n) h
theorem At.drew (h:At W k v0 v1):At W.drew k v0 v1:=At.below (Below.refl _ _).drew h
theorem At.set0 (h:At W k v0 v1) (u:Value):At (W.setCell ⟨k,0,none⟩ u) k u v1:=by
 obtain ⟨h1,h2,h3,h4⟩:=h;refine ⟨World.cell?_setCell_same _ _ _ h1,?_,?_,?_⟩
 ·rw [World.cell?_setCell_other _ _ _ _ (by simp)];exact h2
 ·rw [World.frozen?_setCell];exact h3
 ·rw [World.frozen?_setCell];exact h4
theorem At.set1 (h:At W k v0 v1) (u:Value):At (W.setCell ⟨k,1,none⟩ u) k v0 u:=by
 obtain ⟨h1,h2,h3,h4⟩:=h;refine ⟨?_,World.cell?_setCell_same _ _ _ h2,?_,?_⟩
 ·rw [World.cell?_setCell_other _ _ _ _ (by simp)];exact h1
 ·rw [World.frozen?_setCell];exact h3
 ·rw [World.frozen?_setCell];exact h4
theorem At.put (h:At W k v0 v1) (u0 u1:Value):At ((W.setCell ⟨k,0,none⟩ u0).setCell ⟨k,1,none⟩ u1) k u0 u1:=(h.set0 u0).set1 u1
theorem zAW {w:World} (hb:Below w.heap.size w W) (hk:w.heap.size<=k) (u0 u1:Value):Below w.heap.size w ((W.setCell ⟨k,0,none⟩ u0).setCell ⟨k,1,none⟩ u1) :=
 (hb.setCell (p:=⟨k,0,none⟩) hk u0).setCell (p:=⟨k,1,none⟩) hk u1
theorem zQD {a b:Value} (hb:Below W.heap.size W W') (h:W.cell? ⟨k,0,none⟩=some a/\W.cell? ⟨k,1,none⟩=some b):W'.cell? ⟨k,0,none⟩=some a/\W'.cell? ⟨k,1,none⟩=some b :=
 ⟨(hb.cell (p:=⟨k,0,none⟩) (World.block_lt_of_cell? W _ h.1)).trans h.1,(hb.cell (p:=⟨k,1,none⟩) (World.block_lt_of_cell? W _ h.2)).trans h.2⟩
