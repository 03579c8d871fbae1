/- TStateB, TStateC, TParA, VWalkD, PlainF, PlainS. -/
import Derived.Test.YtlggnpohhahdlaaGreatDoorQ09
import Derived.Defers
import Derived.Recover
set_option maxHeartbeats 4000000
set_option maxRecDepth 100000
namespace Go.Proofs.YtlggnpohhahdlaaGreatDoor
open Go.RowKit
set_option linter.unusedVariables false
theorem set_grown (w:World) (kp o:Nat) (v:Value):w.grownBy (w.setCell ⟨kp,o,none⟩ v) (some kp):=by
 have hb:=(Below.refl kp w).setCell (p:=⟨kp,o,none⟩) (Nat.le_refl _) v;refine ⟨hb.os,hb.tape,hb.output,hb.size,fun k hk hn=>?_⟩;exact Below.heap_setCell _ _ _ _ (fun e=>hn (by rw [e]))
theorem PSt.far {w:World} {kp:Nat} {ts:List Wlx.TV} {en:Int} (h:PSt w kp ts en) {b:Nat} (hb:kp<b) (o:Nat) (v:Value):PSt (w.setCell ⟨b,o,none⟩ v) kp ts en:=by
 obtain ⟨av,cap,h1,h2,h3⟩:=h;refine ⟨av,cap,h1,h2.far (by omega) o v,fun i hi=>?_⟩;obtain ⟨bb,off,e,hn,c0,c1,c2⟩:=h3 i hi;refine ⟨bb,off,e,hn,?_,?_,?_⟩ <;> rw [World.cell?_setCell_far _ _ _ _ (by simp;omega)] <;> assumption
theorem grown_set {w W:World} {row:Option Nat} (h:w.grownBy W row) {b:Nat} (hb:w.heap.size≤b) (o:Nat) (v:Value):w.grownBy (W.setCell ⟨b,o,none⟩ v) row:=by
 have q:=(Below.refl b W).setCell (p:=⟨b,o,none⟩) (Nat.le_refl _) v;exact ⟨q.os.trans h.os,q.tape.trans h.tape,q.output.trans h.output,Nat.le_trans h.size q.size,fun k hk hn=>(q.block k (by omega)).trans (h.block k hk hn)⟩
theorem PSt.lt {w:World} {kp:Nat} {ts:List Wlx.TV} {en:Int} (h:PSt w kp ts en):kp<w.heap.size:=by
 obtain ⟨av,cap,h1,h2,h3⟩:=h;exact h2.lt
theorem PSt.moved {w:World} {kp n cap:Nat} {av av':Option Addr} {a r:List Wlx.TV} {en:Int} (hn:a.length=n) (hcap:n+r.length≤cap) (h2:AtL w kp [.slice av (a++r).length cap,.int .i64 en])
  (h3:∀ i (h:i<(a++r).length),∃ bb off,av=some ⟨bb,off,none⟩∧bb<kp∧w.cell? ⟨bb,off+i * 3,none⟩=some (.int .i64 ((a++r)[i]).k)∧w.cell? ⟨bb,off+i * 3+1,none⟩=some (.string ⟨((a++r)[i]).t.toArray⟩)∧w.cell? ⟨bb,off+i * 3+2,none⟩=some (.int .i64 ((a++r)[i]).p))
  (hav:0<r.length→av'=av.map (·.add (n * 3))):PSt (w.setCell ⟨kp,0,none⟩ (.slice av' r.length (cap - n))) kp r en:=by
 refine ⟨av',cap - n,by omega,h2.set 0 _,fun i hi=>?_⟩;obtain ⟨bb,off,e,hne,d0,d1,d2⟩:=h3 (i+n) (by rw [List.length_append];omega);have hg:(a++r)[i+n]'(by rw [List.length_append];omega)=r[i]:=by
  rw [List.getElem_append_right (by omega)];congr 1
  omega
 rw [hg] at d0 d1 d2;refine ⟨bb,off+n * 3,?_,hne,?_,?_,?_⟩
 ·rw [hav (by omega),e];show some ((⟨bb,off,none⟩:Addr).add (n * 3))=_
  rw [Addr.add_mid]
 ·rw [World.cell?_setCell_far _ _ _ _ (by simp;omega),show off+n * 3+i * 3=off+(i+n) * 3 by omega];exact d0
 ·rw [World.cell?_setCell_far _ _ _ _ (by simp;omega),show off+n * 3+i * 3+1=off+(i+n) * 3+1 by omega];exact d1
 ·rw [World.cell?_setCell_far _ _ _ _ (by simp;omega),show off+n * 3+i * 3+2=off+(i+n) * 3+2 by omega];exact d2
theorem pass_any (n:Nat) (kp:Nat) (a r:List Wlx.TV) (en:Int) (w:World) (h:PSt w kp (a++r) en) (hn:a.length=n) (hn2:n≤2) (hts:(a++r).length≤1024):Calls Tryz.prog 123 #[.pointer (some ⟨kp,0,none⟩),.int .i64 n] w fun e w'=>e=.returned (.tuple #[])∧PSt w' kp r en∧w.grownBy w' (some kp):=by
 obtain ⟨av,cap,h1,h2,h3⟩:=h;obtain ⟨c0,c1,f0,f1⟩:=h2.two;have hl:(a++r).length=n+r.length:=by rw [List.length_append,hn]
 rw [hl] at h1 hts;simp only [hl] at c0;have e1:(0:Int)≤(n:Int):=by omega
 have e2:(n:Int)≤((n+r.length:Nat):Int):=by omega
 go_enter Tryz.func123,Tryz.ntmps123;go_wp2
 ·go_end0
  refine ⟨rfl,?_,set_grown _ _ _ _⟩;have q:=PSt.moved (av':=av) hn h1 h2 h3 (fun q=>by omega);rw [show cap - n=0 by omega] at q;exact q
 ·go_end0
  exact ⟨rfl,PSt.moved hn h1 h2 h3 (fun h=>rfl),set_grown _ _ _ _⟩
def pos (ts:List Wlx.TV) (en:Int):Int:=(hd ts en).p
def stop (c p:Int):Ending:=.panicked [{v:=.iface 50 (.agg #[.int .i64 c,.int .i64 p]),recovered:=false}]
theorem tok_at (k:Int) (x:ByteArray) (p:Int) (w:World):(Instr.field 79 (.agg #[.int .i64 k,.string x,.int .i64 p]) 2).run Tryz.prog w=.ok (.int .i64 p) w:=by kernel_rfl
theorem tok_kind (k:Int) (x:ByteArray) (p:Int) (w:World):(Instr.field 79 (.agg #[.int .i64 k,.string x,.int .i64 p]) 0).run Tryz.prog w=.ok (.int .i64 k) w:=by kernel_rfl
theorem tok_text (k:Int) (x:ByteArray) (p:Int) (w:World):(Instr.field 79 (.agg #[.int .i64 k,.string x,.int .i64 p]) 1).run Tryz.prog w=.ok (.string x) w:=by kernel_rfl
theorem refuse_any (kp:Nat) (ts:List Wlx.TV) (en c:Int) (w:World) (h:PSt w kp ts en):Calls Tryz.prog 62 #[.pointer (some ⟨kp,0,none⟩),.int .i64 c] w fun e w'=>e=stop c (pos ts en)∧Below w.heap.size w w':=by
 have N:=next_any kp ts en w h;unfold pos;generalize hd ts en=t at *;obtain ⟨k,x,p⟩:=t;unfold tkV at N;simp only at N ⊢;have hfl:=tok_at;go_enter Tryz.func62,Tryz.ntmps62;go_wp2_with fail
 refine N.mono ?_;rintro e w1 ⟨rfl,hb⟩;go_wp2;exact ⟨rfl,rfl,hb⟩
theorem must_true (kp:Nat) (w:World):Calls Tryz.prog 40 #[.pointer (some ⟨kp,0,none⟩),.bool true] w fun e w'=>e=.returned (.tuple #[])∧w=w':=by
 go_enter Tryz.func40,Tryz.ntmps40;go_wp2;go_end0
 exact ⟨rfl,rfl⟩
theorem must_false (kp:Nat) (ts:List Wlx.TV) (en:Int) (w:World) (h:PSt w kp ts en):Calls Tryz.prog 40 #[.pointer (some ⟨kp,0,none⟩),.bool false] w fun e w'=>e=stop 50 (pos ts en)∧Below w.heap.size w w':=by
 have N:=refuse_any kp ts en 50 w h;unfold stop at N ⊢;go_enter Tryz.func40,Tryz.ntmps40;go_wp2_with fail
 refine N.mono ?_;rintro e w1 ⟨rfl,hb⟩;go_wp2;exact ⟨rfl,rfl,hb⟩
def tk (ts:List Wlx.TV) (m:List UInt8):Option (List Wlx.TV):=match ts with
 | []=>none
 | t::r=>if isMk t m then some r else none
theorem take_any (kp:Nat) (ts:List Wlx.TV) (en:Int) (m:List UInt8) (w:World) (h:PSt w kp ts en) (hts:ts.length≤1024):Calls Tryz.prog 188 #[.pointer (some ⟨kp,0,none⟩),.string ⟨m.toArray⟩] w fun e w' =>
  match tk ts m with
  | some r=>e=.returned (.bool true)∧PSt w' kp r en∧w.grownBy w' (some kp)
  | none=>e=.returned (.bool false)∧PSt w' kp ts en∧w.grownBy w' (some kp):=by
 have N:=next_any kp ts en w h;have M:=fun w=>isMark_any (hd ts en) m w
 cases ts with
 | nil =>
  have e0:isMk (hd [] en) m=false:=rfl;rw [e0] at M;generalize hd [] en=t at *;simp only [tk];go_enter Tryz.func188,Tryz.ntmps188;go_wp2_with fail
  refine N.mono ?_;rintro e w1 ⟨rfl,hb1⟩;go_wp2_with fail
  refine (M _).mono ?_;rintro e w2 ⟨rfl,hb2⟩;have hb:=below_end hb1 hb2;go_wp2;go_ret;exact ⟨rfl,h.below hb,below_grown hb _⟩
 | cons t r =>
  have e0:hd (t::r) en=t:=rfl;rw [e0] at M N;simp only [tk];cases hq:isMk t m with
  | false =>
   rw [hq] at M;rw [if_neg (by decide)];go_enter Tryz.func188,Tryz.ntmps188;go_wp2_with fail
   refine N.mono ?_;rintro e w1 ⟨rfl,hb1⟩;go_wp2_with fail
   refine (M _).mono ?_;rintro e w2 ⟨rfl,hb2⟩;have hb:=below_end hb1 hb2;go_wp2;go_ret;exact ⟨rfl,h.below hb,below_grown hb _⟩
  | true =>
   rw [hq] at M;rw [if_pos rfl];go_enter Tryz.func188,Tryz.ntmps188;go_wp2_with fail
   refine N.mono ?_;rintro e w1 ⟨rfl,hb1⟩;go_wp2_with fail
   refine (M _).mono ?_;rintro e w2 ⟨rfl,hb2⟩;have hb:=below_end hb1 hb2;have P:=pass_any 1 kp [t] r en w2 (h.below hb) rfl (by decide) hts;go_wp2_with fail
   refine P.mono ?_;rintro e w3 ⟨rfl,hp,hg⟩;go_wp2;go_ret;exact ⟨rfl,hp,grown_trans (below_grown hb _) hg⟩
theorem AtL.grown {W W':World} {k:Nat} {vs:List Value} {row:Option Nat} (h:AtL W k vs) (hg:W.grownBy W' row) (hne:some k ≠ row):AtL W' k vs:=by
 obtain ⟨h1,h2,h3⟩:=h;have hbk:=hg.block k h1 hne;refine ⟨Nat.lt_of_lt_of_le h1 hg.size,fun i v hi=>?_,fun i hi=>?_⟩
 ·exact (World.cell?_of_block (a:=⟨k,i,none⟩) hbk).trans (h2 i v hi)
 ·rw [←h3 i hi];unfold World.frozen?;simp only [hbk]
def tkOp (k:Int) (ts:List Wlx.TV):Option ((Int × List UInt8 × Int) × List Wlx.TV):=match ts with
 | []=>none
 | t::r=>if t.k=5 then (Wt.opAs t.t k).map fun o=>(o,r) else none
def TkPost (kp:Nat) (en:Int) (ts:List Wlx.TV) (r:Option ((Int × List UInt8 × Int) × List Wlx.TV)) (w:World) (e:Ending) (w':World):Prop:=match r with
 | some ((o,m,t),r)=>e=.returned (.tuple #[.agg #[.int .i64 o,.string ⟨m.toArray⟩,.int .i64 t],.bool true])∧PSt w' kp r en∧w.grownBy w' (some kp)
 | none=>e=.returned (.tuple #[.agg #[.int .i64 0,.string ⟨#[]⟩,.int .i64 0],.bool false])∧PSt w' kp ts en∧w.grownBy w' (some kp)
theorem takeOp_any (kp:Nat) (ts:List Wlx.TV) (en k:Int) (w:World) (h:PSt w kp ts en) (hts:ts.length≤1024) (hO:OpsAt w):Calls Tryz.prog 93 #[.pointer (some ⟨kp,0,none⟩),.int .i64 k] w fun e w'=>TkPost kp en ts (tkOp k ts) w e w':=by
 have h':PSt (w.alloc (.cells #[.int .i64 0,.string ⟨#[]⟩,.int .i64 0] 118)) kp ts en:=h.below ((Below.refl _ _).alloc (Nat.le_refl _) _);have N:=next_any kp ts en _ h';clear h';have hO0:=hO.alloc (.cells #[.int .i64 0,.string ⟨#[]⟩,.int .i64 0] 118);have pR:=AtL.new0 w 118 [.int .i64 0,.string ⟨#[]⟩,.int .i64 0];have hB0:=ball (Below.refl _ w) (.cells #[.int .i64 0,.string ⟨#[]⟩,.int .i64 0] 118);obtain ⟨t,ht⟩:∃ t,hd ts en=t:=⟨_,rfl⟩
 have A:=fun w h=>topAs_any ⟨t.t.toArray⟩ k w h
 have e1:(⟨t.t.toArray⟩:ByteArray).data.toList=t.t:=rfl;rw [e1] at A;clear e1;rw [ht] at N;have hko:tkOp k ts=if t.k=5 then (Wt.opAs t.t k).map fun o=>(o,ts.tail) else none:=by
  cases ts with
  | nil=>subst ht;rfl
  | cons a r=>subst ht;rfl
 have hne:t.k=5→∃ r,ts=t::r:=by
  intro h5;cases ts with
  | nil=>subst ht;exact absurd h5 (by show ¬ (0:Int)=5;decide)
  | cons a r=>subst ht;exact ⟨r,rfl⟩
 rw [hko];clear ht hko;obtain ⟨tk,tx,tp⟩:=t;simp only at A hne ⊢;unfold tkV at N;simp only at N;cases ha:Wt.opAs tx k with
 | none =>
  rw [ha] at A;have e2:(if tk=5 then Option.map (fun o=>(o,ts.tail)) (none:Option (Int × List UInt8 × Int)) else none)=none:=by split <;> rfl
  rw [e2];simp only [TkPost];simp only [opV] at A;go_enter Tryz.func93,Tryz.ntmps93;go_wp2_with fail
  refine N.mono ?_;rintro e w1 ⟨rfl,hb1⟩;have pR1:=AtL.below hb1 pR;have hB1:=below_end hB0 hb1;have hO1:=hO0.below hb1;have hA:=A _ (hO1.alloc (.cells #[.int .i64 tk,.string ⟨tx.toArray⟩,.int .i64 tp] 79));have pR2:=AtL.alloc pR1 (.cells #[.int .i64 tk,.string ⟨tx.toArray⟩,.int .i64 tp] 79);have hB2:=ball hB1 (.cells #[.int .i64 tk,.string ⟨tx.toArray⟩,.int .i64 tp] 79);clear pR hB0 hO0 N hb1 pR1 hB1 hO1 A;go_wp2_with fail
  refine hA.mono ?_;rintro e w2 ⟨rfl,hb2⟩;have pR3:=AtL.below hb2 pR2;have hB3:=below_end hB2 hb2;have hlt:=pR3.lt;have hx:¬ w.heap.size=w2.heap.size:=by omega
  have hx2:¬ w2.heap.size=w.heap.size:=by omega
  obtain ⟨c0,c1,c2,f0,f1,f2⟩:=pR3.three;clear hA pR2 hB2 hb2;go_wp2;refine bodyPost_ret (v:=.tuple #[.agg #[.int .i64 0,.string ⟨#[]⟩,.int .i64 0],.bool false]) (by simp [results,Tryz.results93,go_sem, *]) rfl ?_;have hf:∀ W:World,Below w.heap.size w W→(Ending.returned (.tuple #[.agg #[.int .i64 0,.string ⟨#[]⟩,.int .i64 0],.bool false])=Ending.returned (.tuple #[.agg #[.int .i64 0,.string ⟨#[]⟩,.int .i64 0],.bool false])∧PSt W kp ts en∧w.grownBy W (some kp)):=fun W hW=>⟨rfl,h.below hW,below_grown hW _⟩
  exact hf _ (by with_reducible repeat (first | exact hB3 | refine ball ?_ _ | refine Below.setCell ?_ (by first | (simp;done) | (simp;omega) | omega) _ | refine Below.drew ?_ | refine below_drewN ?_ _))
 | some q =>
  obtain ⟨o,m,t2⟩:=q;rw [ha] at A;simp only [opV] at A;by_cases h5:tk=5
  ·rw [if_pos h5];obtain ⟨r,hr⟩:=hne h5;subst hr;simp only [Option.map_some,List.tail_cons,TkPost];subst h5;go_enter Tryz.func93,Tryz.ntmps93;go_wp2_with fail
   refine N.mono ?_;rintro e w1 ⟨rfl,hb1⟩;have pR1:=AtL.below hb1 pR;have hB1:=below_end hB0 hb1;have hO1:=hO0.below hb1;have hA:=A _ (hO1.alloc (.cells #[.int .i64 5,.string ⟨tx.toArray⟩,.int .i64 tp] 79));have pR2:=AtL.alloc pR1 (.cells #[.int .i64 5,.string ⟨tx.toArray⟩,.int .i64 tp] 79);have hB2:=ball hB1 (.cells #[.int .i64 5,.string ⟨tx.toArray⟩,.int .i64 tp] 79);clear pR hB0 hO0 N hb1 pR1 hB1 hO1 A;go_wp2_with fail
   refine hA.mono ?_;rintro e w2 ⟨rfl,hb2⟩;have hb2x:=hb2;have pR3:=AtL.below hb2 pR2;have hB3:=below_end hB2 hb2;have hlt:=pR3.lt;have hx:¬ w.heap.size=w2.heap.size:=by omega
   have hx2:¬ w2.heap.size=w.heap.size:=by omega
   obtain ⟨c0,c1,c2,f0,f1,f2⟩:=pR3.three;clear hA pR2 hB2 hb2;have pT:=AtL.below hb2x (AtL.new0 w1 79 [.int .i64 5,.string ⟨tx.toArray⟩,.int .i64 tp]);obtain ⟨u0,u1,u2⟩:=pT.f3;have hltT:=pT.lt;have pO2:=AtL.new0 w2 118 [.int .i64 o,.string ⟨m.toArray⟩,.int .i64 t2];have P:=pass_any 1 kp [⟨5,tx,tp⟩] r en (w2.alloc (.cells #[.int .i64 o,.string ⟨m.toArray⟩,.int .i64 t2] 118)) (h.below (ball hB3 _)) rfl (by decide) hts;have hB4:=ball hB3 (.cells #[.int .i64 o,.string ⟨m.toArray⟩,.int .i64 t2] 118);have hkp:=h.lt;go_wp2_with fail
   refine P.mono ?_;rintro e w3 ⟨rfl,hp,hg⟩;have pR4:AtL w3 w.heap.size [.int .i64 0,.string ⟨#[]⟩,.int .i64 0]:=AtL.grown (AtL.alloc pR3 _) hg (by intro e;have:=Option.some.inj e;omega);have pO4:AtL w3 w2.heap.size [.int .i64 o,.string ⟨m.toArray⟩,.int .i64 t2]:=AtL.grown pO2 hg (by intro e;have:=Option.some.inj e;omega);have hG:=grown_trans (below_grown hB4 (some kp)) hg;obtain ⟨c0,c1,c2,f0,f1,f2⟩:=pR4.three;obtain ⟨d0,d1,d2,g0,g1,g2⟩:=pO4.three;go_wp2;refine bodyPost_ret (v:=.tuple #[.agg #[.int .i64 o,.string ⟨m.toArray⟩,.int .i64 t2],.bool true]) (by simp [results,Tryz.results93,go_sem, *]) rfl ?_;exact ⟨rfl,((hp.far hkp _ _).far hkp _ _).far hkp _ _,grown_set (grown_set (grown_set hG (Nat.le_refl _) _ _) (Nat.le_refl _) _ _) (Nat.le_refl _) _ _⟩
  ·rw [if_neg h5];have h5':(tk == 5)=false:=by simp [h5]
   simp only [TkPost];go_enter Tryz.func93,Tryz.ntmps93;go_wp2_with fail
   refine N.mono ?_;rintro e w1 ⟨rfl,hb1⟩;have pR1:=AtL.below hb1 pR;have hB1:=below_end hB0 hb1;have hO1:=hO0.below hb1;have hA:=A _ (hO1.alloc (.cells #[.int .i64 tk,.string ⟨tx.toArray⟩,.int .i64 tp] 79));have pR2:=AtL.alloc pR1 (.cells #[.int .i64 tk,.string ⟨tx.toArray⟩,.int .i64 tp] 79);have hB2:=ball hB1 (.cells #[.int .i64 tk,.string ⟨tx.toArray⟩,.int .i64 tp] 79);clear pR hB0 hO0 N hb1 pR1 hB1 hO1 A;go_wp2_with fail
   refine hA.mono ?_;rintro e w2 ⟨rfl,hb2⟩;have hb2x:=hb2;have pR3:=AtL.below hb2 pR2;have hB3:=below_end hB2 hb2;have hlt:=pR3.lt;have hx:¬ w.heap.size=w2.heap.size:=by omega
   have hx2:¬ w2.heap.size=w.heap.size:=by omega
   obtain ⟨c0,c1,c2,f0,f1,f2⟩:=pR3.three;clear hA pR2 hB2 hb2;have pT:=AtL.below hb2x (AtL.new0 w1 79 [.int .i64 tk,.string ⟨tx.toArray⟩,.int .i64 tp]);obtain ⟨u0,u1,u2⟩:=pT.f3;have hltT:=pT.lt;have hy:¬ w1.heap.size=w2.heap.size:=by omega
   go_wp2;refine bodyPost_ret (v:=.tuple #[.agg #[.int .i64 0,.string ⟨#[]⟩,.int .i64 0],.bool false]) (by simp [results,Tryz.results93,go_sem, *]) rfl ?_;have hf:∀ W:World,Below w.heap.size w W→(Ending.returned (.tuple #[.agg #[.int .i64 0,.string ⟨#[]⟩,.int .i64 0],.bool false])=Ending.returned (.tuple #[.agg #[.int .i64 0,.string ⟨#[]⟩,.int .i64 0],.bool false])∧PSt W kp ts en∧w.grownBy W (some kp)):=fun W hW=>⟨rfl,h.below hW,below_grown hW _⟩
   exact hf _ (by with_reducible repeat (first | exact hB3 | refine ball ?_ _ | refine Below.setCell ?_ (by first | (simp;done) | (simp;omega) | omega) _ | refine Below.drew ?_ | refine below_drewN ?_ _))
open Go.RowKit Go.Shelf
theorem assert_hit (v:Value) (w:World):(Instr.typeAssert (.iface 50 v) 20 50 true).run Tryz.prog w=.ok (.tuple #[v,.bool true]) w:=by kernel_rfl
theorem assert_nil (w:World):(Instr.typeAssert .nilIface 20 50 true).run Tryz.prog w=.ok (.tuple #[.agg #[.int .i64 0,.int .i64 0],.bool false]) w:=by kernel_rfl
theorem catch_panics (a b c:Nat) (cd at':Int) (x y z:Value) (older:List PanicEntry) (w:World) (ha:AtL w a [x]) (hb:AtL w b [y]) (hc:AtL w c [z]) (hab:a ≠ b) (hac:a ≠ c) (hbc:b ≠ c) :
  CallsD Tryz.prog 21 #[.pointer (some ⟨a,0,none⟩),.pointer (some ⟨b,0,none⟩),.pointer (some ⟨c,0,none⟩)] (.panicking ({v:=.iface 50 (.agg #[.int .i64 cd,.int .i64 at']),recovered:=false} :: older)) w fun e u' w' =>
   e=.returned (.tuple #[])∧u'=.panicking ({v:=.iface 50 (.agg #[.int .i64 cd,.int .i64 at']),recovered:=true} :: older)∧AtL w' a [.slice none 0 0]∧AtL w' b [.int .i64 cd]∧AtL w' c [.int .i64 at']∧∀ lo,lo≤a→lo≤b→lo≤c→Below lo w w':=by
 have la:=ha.1;have lb:=hb.1;have lc:=hc.1;have na:a ≠ w.heap.size:=by omega
 have nb:b ≠ w.heap.size:=by omega
 have nc:c ≠ w.heap.size:=by omega
 have hW:∃ W,W=w.alloc (.cells #[.int .i64 cd,.int .i64 at'] 50):=⟨_,rfl⟩
 obtain ⟨W,hW⟩:=hW;have pR:AtL W w.heap.size [.int .i64 cd,.int .i64 at']:=by
  rw [hW];exact AtL.new0 w 50 [.int .i64 cd,.int .i64 at']
 have pa:AtL W a [x]:=by rw [hW];exact ha.alloc _
 have pb:AtL W b [y]:=by rw [hW];exact hb.alloc _
 have pc:AtL W c [z]:=by rw [hW];exact hc.alloc _
 have hB:Below w.heap.size w W:=by rw [hW];exact ball (Below.refl _ w) _
 refine callsD_of_wpS Tryz.func21 rfl fun c₀ cs hu=>?_
 apply wpS_seq
 apply wpS_region
 simp [wpOpsS,go_sem,recoverD,hu,Tryz.ntmps21,Exit.thenS,assert_hit,Array.replicate,List.replicate];rw [←hW];apply wpS_seq
 apply wpS_region
 simp [wpOpsS,go_sem,Exit.thenS];refine wpS_cond (t:=true) (by simp [Act.eval]) ?_;simp only [if_true];refine wpS_of_wp ?_;clear hW;obtain ⟨r0,r1,q0,q1⟩:=pR.two;have a0:=pa.2.1 0 _ rfl;have b0:=pb.2.1 0 _ rfl;have c0:=pc.2.1 0 _ rfl;have fa:=pa.2.2 0 (by simp);have fb:=pb.2.2 0 (by simp);have fc:=pc.2.2 0 (by simp);go_region
 have E:AtL (((W.setCell ⟨a,0,none⟩ (Value.slice none 0 0)).setCell ⟨b,0,none⟩ (Value.int IntKind.i64 cd)).setCell ⟨c,0,none⟩ (Value.int IntKind.i64 at')).drew a [.slice none 0 0]∧AtL (((W.setCell ⟨a,0,none⟩ (Value.slice none 0 0)).setCell ⟨b,0,none⟩ (Value.int IntKind.i64 cd)).setCell ⟨c,0,none⟩ (Value.int IntKind.i64 at')).drew b [.int .i64 cd]∧AtL (((W.setCell ⟨a,0,none⟩ (Value.slice none 0 0)).setCell ⟨b,0,none⟩ (Value.int IntKind.i64 cd)).setCell ⟨c,0,none⟩ (Value.int IntKind.i64 at')).drew c [.int .i64 at']∧∀ lo,lo≤a→lo≤b→lo≤c→Below lo w (((W.setCell ⟨a,0,none⟩ (Value.slice none 0 0)).setCell ⟨b,0,none⟩ (Value.int IntKind.i64 cd)).setCell ⟨c,0,none⟩ (Value.int IntKind.i64 at')).drew:=by
  refine ⟨(((pa.set 0 _).far (Ne.symm hab) 0 _).far (Ne.symm hac) 0 _).drew,(((pb.far hab 0 _).set 0 _).far (Ne.symm hbc) 0 _).drew,(((pc.far hac 0 _).far hbc 0 _).set 0 _).drew,fun lo l1 l2 l3=>?_⟩;exact ((((hB.mono (by omega)).setCell (p:=⟨a,0,none⟩) l1 _).setCell (p:=⟨b,0,none⟩) l2 _).setCell (p:=⟨c,0,none⟩) l3 _).drew
 simpa [bodyPostS,results,Tryz.results21] using E
theorem catch_idles (a b c:Nat) (w:World) :
  CallsD Tryz.prog 21 #[.pointer (some ⟨a,0,none⟩),.pointer (some ⟨b,0,none⟩),.pointer (some ⟨c,0,none⟩)] .returning w fun e u' w'=>e=.returned (.tuple #[])∧u'=.returning∧Below w.heap.size w w':=by
 refine callsD_of_wpS Tryz.func21 rfl fun c₀ cs hu=>?_
 apply wpS_seq
 apply wpS_region
 simp [wpOpsS,go_sem,recoverD,hu,Tryz.ntmps21,Exit.thenS,assert_nil,Array.replicate,List.replicate];apply wpS_seq
 apply wpS_region
 simp [wpOpsS,go_sem,Exit.thenS];refine wpS_cond (t:=false) (by simp [Act.eval]) ?_;simp only [Bool.false_eq_true,if_false];refine wpS_of_wp (wp_skip ?_);have hB:=ball (Below.refl _ w) (.cells #[.int .i64 0,.int .i64 0] 50);cases c₀
 simp_all [bodyPostS,results,Tryz.results21]
theorem vlz (w:World):AtL (w.alloc (.cells #[.int .i64 0,.int .i64 0,.int .i64 0,.string ⟨#[]⟩,.bool false,.int .i64 0] 41)) w.heap.size [.int .i64 0,.int .i64 0,.int .i64 0,.string ⟨#[]⟩,.bool false,.int .i64 0]:=AtL.new0 w _ _
def vFault (c:Int):Wt.Vl:=⟨4,0,0,⟨#[]⟩,false,if Wv.flt c then c else 2⟩
theorem vFault_any (c:Int) (w:World):Calls Tryz.prog 172 #[.int .i64 c] w fun e w'=>e=.returned (vlV (vFault c))∧Below w.heap.size w w':=by
 have C:=fun w=>vfault_any c w
 unfold vFault;cases hq:Wv.flt c with
 | false =>
  rw [hq] at C;go_enter Tryz.func172,Tryz.ntmps172;go_wp2_with fail
  refine (C _).mono ?_;rintro e w1 ⟨rfl,rfl⟩;go_wp2;refine bodyPost_ret (v:=vlV ⟨4,0,0,⟨#[]⟩,false,2⟩) (by simp [results,Tryz.results172,go_sem,vlV,vl6]) rfl ⟨rfl,?_⟩;exact by with_reducible repeat (first | exact Below.refl _ _ | refine below_drewN ?_ _ | refine Below.setCell ?_ (by first | (simp;done) | (simp;omega) | omega) _ | refine Below.drew ?_ | refine below_end ?_ (by assumption) | refine ball ?_ _)
 | true =>
  rw [hq] at C;go_enter Tryz.func172,Tryz.ntmps172;go_wp2_with fail
  refine (C _).mono ?_;rintro e w1 ⟨rfl,rfl⟩;go_wp2;refine bodyPost_ret (v:=vlV ⟨4,0,0,⟨#[]⟩,false,c⟩) (by simp [results,Tryz.results172,go_sem,vlV,vl6]) rfl ⟨rfl,?_⟩;exact by with_reducible repeat (first | exact Below.refl _ _ | refine below_drewN ?_ _ | refine Below.setCell ?_ (by first | (simp;done) | (simp;omega) | omega) _ | refine Below.drew ?_ | refine below_end ?_ (by assumption) | refine ball ?_ _)
def vTruth (b:Bool):Wt.Vl:=⟨3,0,0,⟨#[]⟩,b,0⟩
theorem vTruth_any (b:Bool) (w:World):Calls Tryz.prog 179 #[.bool b] w fun e w'=>e=.returned (vlV (vTruth b))∧Below w.heap.size w w':=by
 go_enter Tryz.func179,Tryz.ntmps179;go_wp2;refine bodyPost_ret (v:=vlV (vTruth b)) (by simp [results,Tryz.results179,go_sem,vlV,vl6,vTruth]) rfl ⟨rfl,?_⟩;exact by with_reducible repeat (first | exact Below.refl _ _ | refine below_drewN ?_ _ | refine Below.setCell ?_ (by first | (simp;done) | (simp;omega) | omega) _ | refine Below.drew ?_ | refine below_end ?_ (by assumption) | refine ball ?_ _)
def vNum (n d:Int):Wt.Vl:=⟨1,Wnum.cN n d,Wnum.cD n d,⟨#[]⟩,false,0⟩
theorem vNum_any (n d:Int) (w:World) (h1:-9223372036854775808≤n) (h2:n≤9223372036854775807) (h3:-9223372036854775808≤d) (h4:d≤9223372036854775807) :
  Calls Tryz.prog 177 #[.agg #[.int .i64 n,.int .i64 d]] w fun e w'=>e=.returned (vlV (vNum n d))∧Below w.heap.size w w':=by
 have C:=fun w=>right_any n d w h1 h2 h3 h4
 unfold vNum Wnum.cN Wnum.cD;have pA:=(AtL.new0 w 39 [.int .i64 n,.int .i64 d]).alloc (.cells #[.int .i64 0,.int .i64 0,.int .i64 0,.string ⟨#[]⟩,.bool false,.int .i64 0] 41);have pR:=vlz (w.alloc (.cells #[.int .i64 n,.int .i64 d] 39));simp only [World.size_alloc] at pR;have hB0:=ball (ball (Below.refl _ w) (.cells #[.int .i64 n,.int .i64 d] 39)) (.cells #[.int .i64 0,.int .i64 0,.int .i64 0,.string ⟨#[]⟩,.bool false,.int .i64 0] 41);cases hq:Wnum.rightB n d with
 | false =>
  rw [hq] at C;go_enter Tryz.func177,Tryz.ntmps177;go_wp2_with fail
  refine (C _).mono ?_;rintro e w1 ⟨rfl,hb⟩;have pA1:=AtL.below hb pA;have pR1:=AtL.below hb pR;obtain ⟨a0,a1,f0,f1⟩:=pA1.two;obtain ⟨c0,c1,c2,c3,c4,c5⟩:=pR1.f6;have g0:=pR1.2.2 0 (by decide);have g1:=pR1.2.2 1 (by decide);have g2:=pR1.2.2 2 (by decide);have g3:=pR1.2.2 3 (by decide);have g4:=pR1.2.2 4 (by decide);have g5:=pR1.2.2 5 (by decide);have hB1:=below_end hB0 hb;go_wp2;refine bodyPost_ret (v:=vlV ⟨1,0,1,⟨#[]⟩,false,0⟩) (by simp [results,Tryz.results177,go_sem,vlV,vl6, *]) rfl ⟨rfl,?_⟩;exact by with_reducible repeat (first | exact hB1 | refine ball ?_ _ | refine Below.setCell ?_ (by first | (simp;done) | (simp;omega) | omega) _ | refine Below.drew ?_ | refine below_drewN ?_ _)
 | true =>
  rw [hq] at C;go_enter Tryz.func177,Tryz.ntmps177;go_wp2_with fail
  refine (C _).mono ?_;rintro e w1 ⟨rfl,hb⟩;have pA1:=AtL.below hb pA;have pR1:=AtL.below hb pR;obtain ⟨a0,a1,f0,f1⟩:=pA1.two;obtain ⟨c0,c1,c2,c3,c4,c5⟩:=pR1.f6;have g0:=pR1.2.2 0 (by decide);have g1:=pR1.2.2 1 (by decide);have g2:=pR1.2.2 2 (by decide);have g3:=pR1.2.2 3 (by decide);have g4:=pR1.2.2 4 (by decide);have g5:=pR1.2.2 5 (by decide);have hB1:=below_end hB0 hb;go_wp2;refine bodyPost_ret (v:=vlV ⟨1,n,d,⟨#[]⟩,false,0⟩) (by simp [results,Tryz.results177,go_sem,vlV,vl6, *]) rfl ⟨rfl,?_⟩;exact by with_reducible repeat (first | exact hB1 | refine ball ?_ _ | refine Below.setCell ?_ (by first | (simp;done) | (simp;omega) | omega) _ | refine Below.drew ?_ | refine below_drewN ?_ _)
def vText (s:ByteArray):Wt.Vl:=if Wv.prts s.data.toList then (if 256<s.size then ⟨4,0,0,⟨#[]⟩,false,7⟩ else ⟨2,0,0,s,false,0⟩) else ⟨4,0,0,⟨#[]⟩,false,2⟩
theorem vText_any (s:ByteArray) (w:World) (hs:s.size≤9223372036854775807):Calls Tryz.prog 175 #[.string s] w fun e w'=>e=.returned (vlV (vText s))∧Below w.heap.size w w':=by
 have C:=fun w=>vprt_any s w hs
 have F2:=fun w=>vFault_any 2 w
 have F7:=fun w=>vFault_any 7 w
 have e2:vFault 2=⟨4,0,0,⟨#[]⟩,false,2⟩:=rfl;have e7:vFault 7=⟨4,0,0,⟨#[]⟩,false,7⟩:=rfl;rw [e2] at F2;rw [e7] at F7;simp only [vlV,vl6] at F2 F7;have pR:=vlz w;have hB0:=ball (Below.refl _ w) (.cells #[.int .i64 0,.int .i64 0,.int .i64 0,.string ⟨#[]⟩,.bool false,.int .i64 0] 41);unfold vText;cases hq:Wv.prts s.data.toList with
 | false =>
  rw [hq] at C;rw [if_neg (by decide)];go_enter Tryz.func175,Tryz.ntmps175;go_wp2_with fail
  refine (C _).mono ?_;rintro e w1 ⟨rfl,rfl⟩;go_wp2_with fail
  refine (F2 _).mono ?_;rintro e w2 ⟨rfl,hb⟩;have pR1:=AtL.below hb pR;obtain ⟨c0,c1,c2,c3,c4,c5⟩:=pR1.f6;have g0:=pR1.2.2 0 (by decide);have g1:=pR1.2.2 1 (by decide);have g2:=pR1.2.2 2 (by decide);have g3:=pR1.2.2 3 (by decide);have g4:=pR1.2.2 4 (by decide);have g5:=pR1.2.2 5 (by decide);have hB1:=below_end hB0 hb;go_wp2;refine bodyPost_ret (v:=vlV ⟨4,0,0,⟨#[]⟩,false,2⟩) (by simp [results,Tryz.results175,go_sem,vlV,vl6, *]) rfl ⟨rfl,?_⟩;exact by with_reducible repeat (first | exact hB1 | refine ball ?_ _ | refine Below.setCell ?_ (by first | (simp;done) | (simp;omega) | omega) _ | refine Below.drew ?_ | refine below_drewN ?_ _)
 | true =>
  rw [hq] at C;rw [if_pos rfl];by_cases hl:256<s.size
  ·have hli:(256:Int)<(s.size:Int):=by omega
   rw [if_pos hl];go_enter Tryz.func175,Tryz.ntmps175;go_wp2_with fail
   refine (C _).mono ?_;rintro e w1 ⟨rfl,rfl⟩;go_wp2_with fail
   refine (F7 _).mono ?_;rintro e w2 ⟨rfl,hb⟩;have pR1:=AtL.below hb pR;obtain ⟨c0,c1,c2,c3,c4,c5⟩:=pR1.f6;have g0:=pR1.2.2 0 (by decide);have g1:=pR1.2.2 1 (by decide);have g2:=pR1.2.2 2 (by decide);have g3:=pR1.2.2 3 (by decide);have g4:=pR1.2.2 4 (by decide);have g5:=pR1.2.2 5 (by decide);have hB1:=below_end hB0 hb;go_wp2;refine bodyPost_ret (v:=vlV ⟨4,0,0,⟨#[]⟩,false,7⟩) (by simp [results,Tryz.results175,go_sem,vlV,vl6, *]) rfl ⟨rfl,?_⟩;exact by with_reducible repeat (first | exact hB1 | refine ball ?_ _ | refine Below.setCell ?_ (by first | (simp;done) | (simp;omega) | omega) _ | refine Below.drew ?_ | refine below_drewN ?_ _)
  ·have hli:¬ (256:Int)<(s.size:Int):=by omega
   rw [if_neg hl];go_enter Tryz.func175,Tryz.ntmps175;go_wp2_with fail
   refine (C _).mono ?_;rintro e w1 ⟨rfl,rfl⟩;go_wp2;refine bodyPost_ret (v:=vlV ⟨2,0,0,s,false,0⟩) (by simp [results,Tryz.results175,go_sem,vlV,vl6, *]) rfl ⟨rfl,?_⟩;exact by with_reducible repeat (first | exact Below.refl _ _ | refine below_drewN ?_ _ | refine Below.setCell ?_ (by first | (simp;done) | (simp;omega) | omega) _ | refine Below.drew ?_ | refine below_end ?_ (by assumption) | refine ball ?_ _)
end Go.Proofs.YtlggnpohhahdlaaGreatDoor
namespace Go.Proofs.YtlggnpohhahdlaaGreatDoor.Wnum
def tenP (k:Nat):Int:=10 ^ k
theorem tenP_succ (k:Nat):tenP (k+1)=tenP k * 10:=by unfold tenP;exact Int.pow_succ 10 k
theorem tenP_pos (k:Nat):1≤tenP k:=by
 induction k with
 | zero=>exact Int.le_refl _
 | succ k ih=>rw [tenP_succ];omega
theorem tenP_mono (k n:Nat):tenP k≤tenP (k+n):=by
 induction n with
 | zero=>exact Int.le_refl _
 | succ n ih=>rw [←Nat.add_assoc,tenP_succ];have:=tenP_pos (k+n);omega
theorem tenP_twelve:tenP 12=1000000000000:=by decide
theorem tenP_six:tenP 6=1000000:=by decide
theorem tenP_le12 {k:Nat} (h:k≤12):tenP k≤1000000000000:=by
 have:=tenP_mono k (12 - k);rw [show k+(12 - k)=12 by omega,tenP_twelve] at this;exact this
theorem tenP_le6 {k:Nat} (h:k≤6):tenP k≤1000000:=by
 have:=tenP_mono k (6 - k);rw [show k+(6 - k)=6 by omega,tenP_six] at this;exact this
end Go.Proofs.YtlggnpohhahdlaaGreatDoor.Wnum
namespace Go.Proofs.YtlggnpohhahdlaaGreatDoor.Wnum
def bt (s:ByteArray) (i:Nat):Int:=((s.data.toList.getD i 0).toNat:Int)
abbrev isD (b:Int):Prop:=48≤b∧b≤57
def cnt (s:ByteArray):Nat→Nat→Nat
 | _,0=>0
 | i,k+1=>if isD (bt s i) then cnt s (i+1) k+1 else 0
def say (s:ByteArray) (i:Nat):Nat→Int
 | 0=>0
 | k+1=>say s i k * 10+(bt s (i+k) - 48)
theorem bt_bd (s:ByteArray) (i:Nat):0≤bt s i∧bt s i≤255:=by
 unfold bt;have:=(s.data.toList.getD i 0).toNat_lt;omega
theorem bt_get {s:ByteArray} {i:Nat} (h:i<s.size):(((s[i]'h).toNat:Nat):Int)=bt s i:=by
 unfold bt;obtain ⟨⟨l⟩⟩:=s;have hl:i<l.length:=h;have e:(ByteArray.mk ⟨l⟩)[i]'h=l.getD i 0:=by
  simp only [List.getD,List.getElem?_eq_getElem hl,Option.getD_some];rfl
 rw [e]
theorem cnt_le (s:ByteArray):∀ k i,cnt s i k≤k:=by
 intro k;induction k with
 | zero=>intro i;exact Nat.le_refl _
 | succ k ih =>
  intro i;show (if isD (bt s i) then cnt s (i+1) k+1 else 0)≤k+1
  split
  ·have:=ih (i+1);omega
  ·omega
theorem cnt_all (s:ByteArray):∀ k i j,j<cnt s i k→isD (bt s (i+j)):=by
 intro k;induction k with
 | zero=>intro i j h;exact absurd h (Nat.not_lt_zero _)
 | succ k ih =>
  intro i j h;have e:cnt s i (k+1)=if isD (bt s i) then cnt s (i+1) k+1 else 0:=rfl
  rw [e] at h;by_cases c:isD (bt s i)
  ·rw [if_pos c] at h;cases j with
   | zero=>exact c
   | succ j =>
    have:=ih (i+1) j (by omega);rw [show i+1+j=i+(j+1) by omega] at this;exact this
  ·rw [if_neg c] at h;omega
theorem cnt_end (s:ByteArray):∀ k i,cnt s i k<k→¬ isD (bt s (i+cnt s i k)):=by
 intro k;induction k with
 | zero=>intro i h;omega
 | succ k ih =>
  intro i h;have e:cnt s i (k+1)=if isD (bt s i) then cnt s (i+1) k+1 else 0:=rfl
  rw [e] at h ⊢;by_cases c:isD (bt s i)
  ·rw [if_pos c] at h ⊢;have:=ih (i+1) (by omega);rw [show i+1+cnt s (i+1) k=i+(cnt s (i+1) k+1) by omega] at this;exact this
  ·rw [if_neg c];exact c
theorem cnt_is {s:ByteArray} {i k j:Nat} (hj:j≤k) (h1:∀ m,m<j→isD (bt s (i+m))) (h2:j<k→¬ isD (bt s (i+j))):cnt s i k=j:=by
 rcases Nat.lt_trichotomy (cnt s i k) j with h | h | h
 ·exact absurd (h1 _ h) (cnt_end s k i (by omega))
 ·exact h
 ·exact absurd (cnt_all s k i j h) (h2 (by have:=cnt_le s k i;omega))
theorem say_nonneg {s:ByteArray} {i:Nat}:∀ k,(∀ m,m<k→isD (bt s (i+m)))→0≤say s i k:=by
 intro k;induction k with
 | zero=>intro _;exact Int.le_refl _
 | succ k ih =>
  intro h;have h1:=ih (fun m hm=>h m (by omega));have h2:=(h k (by omega)).1;show 0≤say s i k * 10+(bt s (i+k) - 48)
  omega
theorem say_mono {s:ByteArray} {i:Nat}:∀ n k,(∀ m,m<k+n→isD (bt s (i+m)))→say s i k≤say s i (k+n):=by
 intro n;induction n with
 | zero=>intro k _;exact Int.le_refl _
 | succ n ih =>
  intro k h;have h1:=ih k (fun m hm=>h m (by omega));have h2:=(h (k+n) (by omega)).1;have h3:=say_nonneg (s:=s) (i:=i) (k+n) (fun m hm=>h m (by omega));show say s i k≤say s i (k+n) * 10+(bt s (i+(k+n)) - 48)
  omega
def dk (s:ByteArray) (i:Nat):Nat:=cnt s i (s.size - i)
def dv (s:ByteArray) (i:Nat):Int:=say s i (dk s i)
def dB (s:ByteArray) (i:Nat):Bool:=decide (0<dk s i∧dv s i≤1000000000000000000)
theorem dk_le (s:ByteArray) (i:Nat):dk s i≤s.size - i:=cnt_le s _ i
theorem dk_all (s:ByteArray) (i:Nat):∀ m,m<dk s i→isD (bt s (i+m)):=fun m h=>cnt_all s _ i m h
theorem dk_end {s:ByteArray} {i:Nat} (h:i+dk s i<s.size):¬ isD (bt s (i+dk s i)):=cnt_end s _ i (by unfold dk at *;omega)
theorem dv_nonneg (s:ByteArray) (i:Nat):0≤dv s i:=say_nonneg _ (dk_all s i)
theorem over_before {s:ByteArray} {i j:Nat} (hj:j≤dk s i) (h:1000000000000000000<say s i j):dB s i=false:=by
 have:=say_mono (s:=s) (i:=i) (dk s i - j) j (by rw [show j+(dk s i - j)=dk s i by omega];exact dk_all s i);rw [show j+(dk s i - j)=dk s i by omega] at this;unfold dB dv;rw [decide_eq_false_iff_not];omega
theorem ten_step {a d:Int}:(1000000000000000000 - d) / 10<a ↔ 1000000000000000000<a * 10+d:=by omega
def rdV (s:ByteArray):Int:=if dB s 0=true then dv s 0 else 0
def rdS (s:ByteArray):ByteArray:=if dB s 0=true then s.extract (dk s 0) s.size else ⟨#[]⟩
theorem rd_false {s:ByteArray} (h:dB s 0=false):rdV s=0∧rdS s=⟨#[]⟩:=by unfold rdV rdS;rw [h];exact ⟨rfl,rfl⟩
theorem rd_true {s:ByteArray} (h:dB s 0=true):rdV s=dv s 0∧rdS s=s.extract (dk s 0) s.size:=by unfold rdV rdS;rw [h];exact ⟨rfl,rfl⟩
theorem dk_more {s:ByteArray} {i j:Nat} (hj:j≤dk s i) (h1:i+j<s.size) (h2:isD (bt s (i+j))):j<dk s i:=by
 rcases Nat.lt_or_ge j (dk s i) with h | h
 ·exact h
 ·have e:j=dk s i:=by omega
  exact absurd (e ▸ h2) (dk_end (by omega))
theorem dk_stop {s:ByteArray} {i j:Nat} (hj:j≤dk s i) (h:s.size≤i+j ∨ ¬ isD (bt s (i+j))):dk s i=j:=by
 rcases Nat.lt_or_ge j (dk s i) with c | c
 ·rcases h with h | h
  ·have:=dk_le s i;omega
  ·exact absurd (dk_all s i j c) h
 ·omega
theorem dB_stop {s:ByteArray} {i j:Nat} (e:dk s i=j) (hb:say s i j≤1000000000000000000):dv s i=say s i j∧dB s i=decide (0<j):=by
 have h1:dv s i=say s i j:=by unfold dv;rw [e]
 refine ⟨h1,?_⟩;unfold dB;rw [h1,e];by_cases h:0<j
 ·rw [decide_eq_true h,decide_eq_true ⟨h,hb⟩]
 ·rw [decide_eq_false h,decide_eq_false (fun x=>h x.1)]
theorem say_succ (s:ByteArray) (i k:Nat):say s i (k+1)=say s i k * 10+(bt s (i+k) - 48):=rfl
def pcN (s:ByteArray) (p:Nat):Int:=if dv s p≤1000000000000000000 then dv s p else 0
def pcI (s:ByteArray) (p:Nat):Int:=if dv s p≤1000000000000000000 then ((p+dk s p:Nat):Int) else 0
theorem pc_over {s:ByteArray} {p j:Nat} (hj:j≤dk s p) (h:1000000000000000000<say s p j):pcN s p=0∧pcI s p=0∧dB s p=false:=by
 have:=say_mono (s:=s) (i:=p) (dk s p - j) j (by rw [show j+(dk s p - j)=dk s p by omega];exact dk_all s p);rw [show j+(dk s p - j)=dk s p by omega] at this;have hv:¬ dv s p≤1000000000000000000:=by unfold dv;omega
 exact ⟨if_neg hv,if_neg hv,over_before hj h⟩
theorem pc_in {s:ByteArray} {p q:Nat} (hq:p≤q) (e:dk s p=q - p) (hb:say s p (q - p)≤1000000000000000000):pcN s p=say s p (q - p)∧pcI s p=(q:Int)∧dB s p=decide (p<q):=by
 obtain ⟨h1,h2⟩:=dB_stop e hb;have hv:dv s p≤1000000000000000000:=by rw [h1];exact hb
 refine ⟨by unfold pcN;rw [if_pos hv,h1],by unfold pcI;rw [if_pos hv,e];omega,?_⟩;rw [h2];by_cases h:p<q
 ·rw [decide_eq_true h,decide_eq_true (by omega)]
 ·rw [decide_eq_false h,decide_eq_false (by omega)]
end Go.Proofs.YtlggnpohhahdlaaGreatDoor.Wnum
