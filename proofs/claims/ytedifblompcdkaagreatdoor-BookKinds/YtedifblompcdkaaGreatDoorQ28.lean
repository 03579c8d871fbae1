/- TStateC, TParA, PlainF, PlainS, WalkRd, WalkC, AtKit, WalkR, PlainT, WalkRf. -/
import Derived.Test.YtedifblompcdkaaGreatDoorQ27
import Derived.Defers
import Derived.Recover
set_option maxHeartbeats 4000000
set_option maxRecDepth 100000
set_option linter.unusedVariables false
namespace Go.Proofs.YtedifblompcdkaaGreatDoor
open Tryz
open Go.RowKit
theorem AtL.grown {W W':World} {k:Nat} {vs:List Value} {row:Option Nat} (h:AtL W k vs) (hg:W.grownBy W' row) (hne:some k ≠ row):AtL W' k vs:=by
 obtain ⟨h1,h2,h3⟩:=h;have hbk:=hg.block k h1 hne;refine ⟨Nat.lt_of_lt_of_le h1 hg.size,λi v hi=>?_,λi hi=>?_⟩
 ·exact (World.cell?_of_block (a:=⟨k,i,none⟩) hbk).trans (h2 i v hi)
 ·rw [<-h3 i hi];unfold World.frozen?;simp only [hbk]
def zBk (k:Int) (ts:List Wlx.TV):Option ((Int × List UInt8 × Int) × List Wlx.TV):=match ts with
 | []=>none
 | t::r=>if t.k=5 then (Wt.opAs t.t k).map λo=>(o,r) else none
def zBO (kp:Nat) (en:Int) (ts:List Wlx.TV) (r:Option ((Int × List UInt8 × Int) × List Wlx.TV)) (w:World) (e:Ending) (w':World):Prop:=match r with
 | some ((o,m,t),r)=>e=.returned (.tuple #[.agg #[.int .i64 o,.string ⟨m.toArray⟩,.int .i64 t],.bool true])/\PSt w' kp r en/\w.grownBy w' (some kp)
 | none=>e=.returned (.tuple #[.agg #[.int .i64 0,.string ⟨#[]⟩,.int .i64 0],.bool false])/\PSt w' kp ts en/\w.grownBy w' (some kp)
theorem zBK (kp:Nat) (ts:List Wlx.TV) (en k:Int) (w:World) (h:PSt w kp ts en) (hts:ts.length<=1024) (hO:OpsAt w):Calls prog 173 #[.pointer (some ⟨kp,0,none⟩),.int .i64 k] w λe w'=>zBO kp en ts (zBk k ts) w e w':=by
 have h':PSt (w.alloc (.cells #[.int .i64 0,.string ⟨#[]⟩,.int .i64 0] 211)) kp ts en:=h.below ((Below.refl _ _).alloc (Nat.le_refl _) _);have N:=zBH kp ts en _ h';clear h';have hO0:=hO.alloc (.cells #[.int .i64 0,.string ⟨#[]⟩,.int .i64 0] 211);have pR:=AtL.new0 w 211 [.int .i64 0,.string ⟨#[]⟩,.int .i64 0];have hB0:=zAH (Below.refl _ w) (.cells #[.int .i64 0,.string ⟨#[]⟩,.int .i64 0] 211);obtain ⟨t,ht⟩:∃ t,hd ts en=t:=⟨_,rfl⟩
 have A:=λw h=>zIe ⟨t.t.toArray⟩ k w h
 have e1:(⟨t.t.toArray⟩:ByteArray).data.toList=t.t:=rfl;rw [e1] at A;clear e1;rw [ht] at N;have hko:zBk k ts=if t.k=5 then (Wt.opAs t.t k).map λo=>(o,ts.tail) else none:=by
  cases ts with
  | nil=>subst ht;rfl
  | cons a r=>subst ht;rfl
 have hne:t.k=5->∃ r,ts=t::r:=by
  intro h5;cases ts with
  | nil=>subst ht;exact absurd h5 (by show ¬ (0:Int)=5;decide)
  | cons a r=>subst ht;exact ⟨r,rfl⟩
 rw [hko];clear ht hko;obtain ⟨tk,tx,tp⟩:=t;simp only at A hne ⊢;unfold tkV at N;simp only at N;cases ha:Wt.opAs tx k with
 | none =>
  rw [ha] at A;have e2:(if tk=5 then Option.map (λo=>(o,ts.tail)) (none:Option (Int × List UInt8 × Int)) else none)=none:=by split <;> rfl
  rw [e2];simp only [zBO];simp only [opV] at A;go_enter func173,ntmps173;go_wp2_with fail
  refine N.mono ?_;rintro e w1 ⟨rfl,hb1⟩;have pR1:=AtL.below hb1 pR;have hB1:=zAA hB0 hb1;have hO1:=hO0.below hb1;have hA:=A _ (hO1.alloc (.cells #[.int .i64 tk,.string ⟨tx.toArray⟩,.int .i64 tp] 219));have pR2:=AtL.alloc pR1 (.cells #[.int .i64 tk,.string ⟨tx.toArray⟩,.int .i64 tp] 219);have hB2:=zAH hB1 (.cells #[.int .i64 tk,.string ⟨tx.toArray⟩,.int .i64 tp] 219);clear pR hB0 hO0 N hb1 pR1 hB1 hO1 A;go_wp2_with fail
  refine hA.mono ?_;rintro e w2 ⟨rfl,hb2⟩;have pR3:=AtL.below hb2 pR2;have hB3:=zAA hB2 hb2;have hlt:=pR3.lt;have hx:¬ w.heap.size=w2.heap.size:=by omega
  have hx2:¬ w2.heap.size=w.heap.size:=by omega
  obtain ⟨c0,c1,c2,f0,f1,f2⟩:=pR3.three;clear hA pR2 hB2 hb2;go_wp2;refine bodyPost_ret (v:=.tuple #[.agg #[.int .i64 0,.string ⟨#[]⟩,.int .i64 0],.bool false]) (by simp [results,results173,go_sem, *]) rfl ?_;have hf:∀ W:World,Below w.heap.size w W->(Ending.returned (.tuple #[.agg #[.int .i64 0,.string ⟨#[]⟩,.int .i64 0],.bool false])=Ending.returned (.tuple #[.agg #[.int .i64 0,.string ⟨#[]⟩,.int .i64 0],.bool false])/\PSt W kp ts en/\w.grownBy W (some kp)):=λW hW=>⟨rfl,h.below hW,zAE hW _⟩
  exact hf _ (clB hB3)
 | some q =>
  obtain ⟨o,m,t2⟩:=q;rw [ha] at A;simp only [opV] at A;by_cases h5:tk=5
  ·rw [if_pos h5];obtain ⟨r,hr⟩:=hne h5;subst hr;simp only [Option.map_some,List.tail_cons,zBO];subst h5;go_enter func173,ntmps173;go_wp2_with fail
   refine N.mono ?_;rintro e w1 ⟨rfl,hb1⟩;have pR1:=AtL.below hb1 pR;have hB1:=zAA hB0 hb1;have hO1:=hO0.below hb1;have hA:=A _ (hO1.alloc (.cells #[.int .i64 5,.string ⟨tx.toArray⟩,.int .i64 tp] 219));have pR2:=AtL.alloc pR1 (.cells #[.int .i64 5,.string ⟨tx.toArray⟩,.int .i64 tp] 219);have hB2:=zAH hB1 (.cells #[.int .i64 5,.string ⟨tx.toArray⟩,.int .i64 tp] 219);clear pR hB0 hO0 N hb1 pR1 hB1 hO1 A;go_wp2_with fail
   refine hA.mono ?_;rintro e w2 ⟨rfl,hb2⟩;have hb2x:=hb2;have pR3:=AtL.below hb2 pR2;have hB3:=zAA hB2 hb2;have hlt:=pR3.lt;have hx:¬ w.heap.size=w2.heap.size:=by omega
   have hx2:¬ w2.heap.size=w.heap.size:=by omega
   obtain ⟨c0,c1,c2,f0,f1,f2⟩:=pR3.three;clear hA pR2 hB2 hb2;have pT:=AtL.below hb2x (AtL.new0 w1 219 [.int .i64 5,.string ⟨tx.toArray⟩,.int .i64 tp]);obtain ⟨u0,u1,u2⟩:=pT.f3;have hltT:=pT.lt;have pO2:=AtL.new0 w2 211 [.int .i64 o,.string ⟨m.toArray⟩,.int .i64 t2];have P:=zBB 1 kp [⟨5,tx,tp⟩] r en (w2.alloc (.cells #[.int .i64 o,.string ⟨m.toArray⟩,.int .i64 t2] 211)) (h.below (zAH hB3 _)) rfl (by decide) hts;have hB4:=zAH hB3 (.cells #[.int .i64 o,.string ⟨m.toArray⟩,.int .i64 t2] 211);have hkp:=h.lt;go_wp2_with fail
   refine P.mono ?_;rintro e w3 ⟨rfl,hp,hg⟩;have pR4:AtL w3 w.heap.size [.int .i64 0,.string ⟨#[]⟩,.int .i64 0]:=AtL.grown (AtL.alloc pR3 _) hg (by intro e;have:=Option.some.inj e;omega);have pO4:AtL w3 w2.heap.size [.int .i64 o,.string ⟨m.toArray⟩,.int .i64 t2]:=AtL.grown pO2 hg (by intro e;have:=Option.some.inj e;omega);have hG:=zAD (zAE hB4 (some kp)) hg;obtain ⟨c0,c1,c2,f0,f1,f2⟩:=pR4.three;obtain ⟨d0,d1,d2,g0,g1,g2⟩:=pO4.three;go_wp2;refine bodyPost_ret (v:=.tuple #[.agg #[.int .i64 o,.string ⟨m.toArray⟩,.int .i64 t2],.bool true]) (by simp [results,results173,go_sem, *]) rfl ?_;exact ⟨rfl,((hp.far hkp _ _).far hkp _ _).far hkp _ _,zAS (zAS (zAS hG (Nat.le_refl _) _ _) (Nat.le_refl _) _ _) (Nat.le_refl _) _ _⟩
  ·rw [if_neg h5];have h5':(tk == 5)=false:=by simp [h5]
   simp only [zBO];go_enter func173,ntmps173;go_wp2_with fail
   refine N.mono ?_;rintro e w1 ⟨rfl,hb1⟩;have pR1:=AtL.below hb1 pR;have hB1:=zAA hB0 hb1;have hO1:=hO0.below hb1;have hA:=A _ (hO1.alloc (.cells #[.int .i64 tk,.string ⟨tx.toArray⟩,.int .i64 tp] 219));have pR2:=AtL.alloc pR1 (.cells #[.int .i64 tk,.string ⟨tx.toArray⟩,.int .i64 tp] 219);have hB2:=zAH hB1 (.cells #[.int .i64 tk,.string ⟨tx.toArray⟩,.int .i64 tp] 219);clear pR hB0 hO0 N hb1 pR1 hB1 hO1 A;go_wp2_with fail
   refine hA.mono ?_;rintro e w2 ⟨rfl,hb2⟩;have hb2x:=hb2;have pR3:=AtL.below hb2 pR2;have hB3:=zAA hB2 hb2;have hlt:=pR3.lt;have hx:¬ w.heap.size=w2.heap.size:=by omega
   have hx2:¬ w2.heap.size=w.heap.size:=by omega
   obtain ⟨c0,c1,c2,f0,f1,f2⟩:=pR3.three;clear hA pR2 hB2 hb2;have pT:=AtL.below hb2x (AtL.new0 w1 219 [.int .i64 tk,.string ⟨tx.toArray⟩,.int .i64 tp]);obtain ⟨u0,u1,u2⟩:=pT.f3;have hltT:=pT.lt;have hy:¬ w1.heap.size=w2.heap.size:=by omega
   go_wp2;refine bodyPost_ret (v:=.tuple #[.agg #[.int .i64 0,.string ⟨#[]⟩,.int .i64 0],.bool false]) (by simp [results,results173,go_sem, *]) rfl ?_;have hf:∀ W:World,Below w.heap.size w W->(Ending.returned (.tuple #[.agg #[.int .i64 0,.string ⟨#[]⟩,.int .i64 0],.bool false])=Ending.returned (.tuple #[.agg #[.int .i64 0,.string ⟨#[]⟩,.int .i64 0],.bool false])/\PSt W kp ts en/\w.grownBy W (some kp)):=λW hW=>⟨rfl,h.below hW,zAE hW _⟩
   exact hf _ (clB hB3)
open Go.RowKit Go.Shelf
theorem zHd (v:Value) (w:World):(Instr.typeAssert (.iface 174 v) 20 174 true).run prog w=.ok (.tuple #[v,.bool true]) w:=by kernel_rfl
theorem zIG (w:World):(Instr.typeAssert .nilIface 20 174 true).run prog w=.ok (.tuple #[.agg #[.int .i64 0,.int .i64 0],.bool false]) w:=by kernel_rfl
theorem zEq (a b c:Nat) (cd at':Int) (x y z:Value) (older:List PanicEntry) (w:World) (ha:AtL w a [x]) (hb:AtL w b [y]) (hc:AtL w c [z]) (hab:a ≠ b) (hac:a ≠ c) (hbc:b ≠ c) :
  CallsD prog 95 #[.pointer (some ⟨a,0,none⟩),.pointer (some ⟨b,0,none⟩),.pointer (some ⟨c,0,none⟩)] (.panicking ({v:=.iface 174 (.agg #[.int .i64 cd,.int .i64 at']),recovered:=false} :: older)) w λe u' w' =>
   e=.returned (.tuple #[])/\u'=.panicking ({v:=.iface 174 (.agg #[.int .i64 cd,.int .i64 at']),recovered:=true} :: older)/\AtL w' a [.slice none 0 0]/\AtL w' b [.int .i64 cd]/\AtL w' c [.int .i64 at']/\∀ lo,lo<=a->lo<=b->lo<=c->Below lo w w':=by
 have la:=ha.1;have lb:=hb.1;have lc:=hc.1;have na:a ≠ w.heap.size:=by omega
 have nb:b ≠ w.heap.size:=by omega
 have nc:c ≠ w.heap.size:=by omega
 have hW:∃ W,W=w.alloc (.cells #[.int .i64 cd,.int .i64 at'] 174):=⟨_,rfl⟩
 obtain ⟨W,hW⟩:=hW;have pR:AtL W w.heap.size [.int .i64 cd,.int .i64 at']:=by
  rw [hW];exact AtL.new0 w 174 [.int .i64 cd,.int .i64 at']
 have pa:AtL W a [x]:=by rw [hW];exact ha.alloc _
 have pb:AtL W b [y]:=by rw [hW];exact hb.alloc _
 have pc:AtL W c [z]:=by rw [hW];exact hc.alloc _
 have hB:Below w.heap.size w W:=by rw [hW];exact zAH (Below.refl _ w) _
 refine callsD_of_wpS func95 rfl λc₀ cs hu=>?_
 apply wpS_seq
 apply wpS_region
 simp [wpOpsS,go_sem,recoverD,hu,ntmps95,Exit.thenS,zHd,Array.replicate,List.replicate];rw [<-hW];apply wpS_seq
 apply wpS_region
 simp [wpOpsS,go_sem,Exit.thenS];refine wpS_cond (t:=true) (by simp [Act.eval]) ?_;simp only [if_true];refine wpS_of_wp ?_;clear hW;obtain ⟨r0,r1,q0,q1⟩:=pR.two;have a0:=pa.2.1 0 _ rfl;have b0:=pb.2.1 0 _ rfl;have c0:=pc.2.1 0 _ rfl;have fa:=pa.2.2 0 (by simp);have fb:=pb.2.2 0 (by simp);have fc:=pc.2.2 0 (by simp);go_region
 have E:AtL (((W.setCell ⟨a,0,none⟩ (Value.slice none 0 0)).setCell ⟨b,0,none⟩ (Value.int IntKind.i64 cd)).setCell ⟨c,0,none⟩ (Value.int IntKind.i64 at')).drew a [.slice none 0 0]/\AtL (((W.setCell ⟨a,0,none⟩ (Value.slice none 0 0)).setCell ⟨b,0,none⟩ (Value.int IntKind.i64 cd)).setCell ⟨c,0,none⟩ (Value.int IntKind.i64 at')).drew b [.int .i64 cd]/\AtL (((W.setCell ⟨a,0,none⟩ (Value.slice none 0 0)).setCell ⟨b,0,none⟩ (Value.int IntKind.i64 cd)).setCell ⟨c,0,none⟩ (Value.int IntKind.i64 at')).drew c [.int .i64 at']/\∀ lo,lo<=a->lo<=b->lo<=c->Below lo w (((W.setCell ⟨a,0,none⟩ (Value.slice none 0 0)).setCell ⟨b,0,none⟩ (Value.int IntKind.i64 cd)).setCell ⟨c,0,none⟩ (Value.int IntKind.i64 at')).drew:=by
  refine ⟨(((pa.set 0 _).far (Ne.symm hab) 0 _).far (Ne.symm hac) 0 _).drew,(((pb.far hab 0 _).set 0 _).far (Ne.symm hbc) 0 _).drew,(((pc.far hac 0 _).far hbc 0 _).set 0 _).drew,λlo l1 l2 l3=>?_⟩;exact ((((hB.mono (by omega)).setCell (p:=⟨a,0,none⟩) l1 _).setCell (p:=⟨b,0,none⟩) l2 _).setCell (p:=⟨c,0,none⟩) l3 _).drew
 simpa [bodyPostS,results,results95] using E
theorem zDV (a b c:Nat) (w:World) :
  CallsD prog 95 #[.pointer (some ⟨a,0,none⟩),.pointer (some ⟨b,0,none⟩),.pointer (some ⟨c,0,none⟩)] .returning w λe u' w'=>e=.returned (.tuple #[])/\u'=.returning/\Below w.heap.size w w':=by
 refine callsD_of_wpS func95 rfl λc₀ cs hu=>?_
 apply wpS_seq
 apply wpS_region
 simp [wpOpsS,go_sem,recoverD,hu,ntmps95,Exit.thenS,zIG,Array.replicate,List.replicate];apply wpS_seq
 apply wpS_region
 simp [wpOpsS,go_sem,Exit.thenS];refine wpS_cond (t:=false) (by simp [Act.eval]) ?_;simp only [Bool.false_eq_true,if_false];refine wpS_of_wp (wp_skip ?_);have hB:=zAH (Below.refl _ w) (.cells #[.int .i64 0,.int .i64 0] 174);cases c₀
 simp_all [bodyPostS,results,results95]
end Go.Proofs.YtedifblompcdkaaGreatDoor
namespace Go.Proofs.YtedifblompcdkaaGreatDoor.Wnum
def tenP (k:Nat):Int:=10 ^ k
theorem tenP_succ (k:Nat):tenP (k+1)=tenP k * 10:=by unfold tenP;exact Int.pow_succ 10 k
theorem tenP_pos (k:Nat):1<=tenP k:=by
 induction k with
 | zero=>exact Int.le_refl _
 | succ k ih=>rw [tenP_succ];omega
theorem zFR (k n:Nat):tenP k<=tenP (k+n):=by
 induction n with
 | zero=>exact Int.le_refl _
 | succ n ih=>rw [<-Nat.add_assoc,tenP_succ];have:=tenP_pos (k+n);omega
theorem zGR:tenP 12=1000000000000:=by decide
theorem zMR:tenP 6=1000000:=by decide
theorem tenP_le12 {k:Nat} (h:k<=12):tenP k<=1000000000000:=by
 have:=zFR k (12 - k);rw [show k+(12 - k)=12 by omega,zGR] at this;exact this
theorem tenP_le6 {k:Nat} (h:k<=6):tenP k<=1000000:=by
 have:=zFR k (6 - k);rw [show k+(6 - k)=6 by omega,zMR] at this;exact this
end Go.Proofs.YtedifblompcdkaaGreatDoor.Wnum
namespace Go.Proofs.YtedifblompcdkaaGreatDoor.Wnum
def bt (s:ByteArray) (i:Nat):Int:=((s.data.toList.getD i 0).toNat:Int)
abbrev isD (b:Int):Prop:=48<=b/\b<=57
def cnt (s:ByteArray):Nat->Nat->Nat
 | _,0=>0
 | i,k+1=>if isD (bt s i) then cnt s (i+1) k+1 else 0
def say (s:ByteArray) (i:Nat):Nat->Int
 | 0=>0
 | k+1=>say s i k * 10+(bt s (i+k) - 48)
theorem bt_bd (s:ByteArray) (i:Nat):0<=bt s i/\bt s i<=255:=by
 unfold bt;have:=(s.data.toList.getD i 0).toNat_lt;omega
theorem bt_get {s:ByteArray} {i:Nat} (h:i<s.size):(((s[i]'h).toNat:Nat):Int)=bt s i:=by
 unfold bt;obtain ⟨⟨l⟩⟩:=s;have hl:i<l.length:=h;have e:(ByteArray.mk ⟨l⟩)[i]'h=l.getD i 0:=by
  simp only [List.getD,List.getElem?_eq_getElem hl,Option.getD_some];rfl
 rw [e]
theorem zQL (s:ByteArray):∀ k i,cnt s i k<=k:=by
 intro k;induction k with
 | zero=>intro i;exact Nat.le_refl _
 | succ k ih =>
  intro i;show (if isD (bt s i) then cnt s (i+1) k+1 else 0)<=k+1
  split
  ·have:=ih (i+1);omega
  ·omega
theorem zPB (s:ByteArray):∀ k i j,j<cnt s i k->isD (bt s (i+j)):=by
 intro k;induction k with
 | zero=>intro i j h;exact absurd h (Nat.not_lt_zero _)
 | succ k ih =>
  intro i j h;have e:cnt s i (k+1)=if isD (bt s i) then cnt s (i+1) k+1 else 0:=rfl
  rw [e] at h;by_cases c:isD (bt s i)
  ·rw [if_pos c] at h;cases j with
   | zero=>exact c
   | succ j =>
    have:=ih (i+1) j (by omega);rw [show i+1+j=i+(j+1) by omega] at this;exact this
  ·rw [if_neg c] at h;omega
theorem zO0 (s:ByteArray):∀ k i,cnt s i k<k->¬ isD (bt s (i+cnt s i k)):=by
 intro k;induction k with
 | zero=>intro i h;omega
 | succ k ih =>
  intro i h;have e:cnt s i (k+1)=if isD (bt s i) then cnt s (i+1) k+1 else 0:=rfl
  rw [e] at h ⊢;by_cases c:isD (bt s i)
  ·rw [if_pos c] at h ⊢;have:=ih (i+1) (by omega);rw [show i+1+cnt s (i+1) k=i+(cnt s (i+1) k+1) by omega] at this;exact this
  ·rw [if_neg c];exact c
theorem zDh {s:ByteArray} {i:Nat}:∀ k,(∀ m,m<k->isD (bt s (i+m)))->0<=say s i k:=by
 intro k;induction k with
 | zero=>intro _;exact Int.le_refl _
 | succ k ih =>
  intro h;have h1:=ih (λm hm=>h m (by omega));have h2:=(h k (by omega)).1;show 0<=say s i k * 10+(bt s (i+k) - 48)
  omega
theorem zLz {s:ByteArray} {i:Nat}:∀ n k,(∀ m,m<k+n->isD (bt s (i+m)))->say s i k<=say s i (k+n):=by
 intro n;induction n with
 | zero=>intro k _;exact Int.le_refl _
 | succ n ih =>
  intro k h;have h1:=ih k (λm hm=>h m (by omega));have h2:=(h (k+n) (by omega)).1;have h3:=zDh (s:=s) (i:=i) (k+n) (λm hm=>h m (by omega));show say s i k<=say s i (k+n) * 10+(bt s (i+(k+n)) - 48)
  omega
def dk (s:ByteArray) (i:Nat):Nat:=cnt s i (s.size - i)
def dv (s:ByteArray) (i:Nat):Int:=say s i (dk s i)
def dB (s:ByteArray) (i:Nat):Bool:=decide (0<dk s i/\dv s i<=1000000000000000000)
theorem dk_le (s:ByteArray) (i:Nat):dk s i<=s.size - i:=zQL s _ i
theorem dk_all (s:ByteArray) (i:Nat):∀ m,m<dk s i->isD (bt s (i+m)):=λm h=>zPB s _ i m h
theorem zPj {s:ByteArray} {i:Nat} (h:i+dk s i<s.size):¬ isD (bt s (i+dk s i)):=zO0 s _ i (by unfold dk at *;omega)
theorem zFX (s:ByteArray) (i:Nat):0<=dv s i:=zDh _ (dk_all s i)
theorem over_before {s:ByteArray} {i j:Nat} (hj:j<=dk s i) (h:1000000000000000000<say s i j):dB s i=false:=by
 have:=zLz (s:=s) (i:=i) (dk s i - j) j (by rw [show j+(dk s i - j)=dk s i by omega];exact dk_all s i);rw [show j+(dk s i - j)=dk s i by omega] at this;unfold dB dv;rw [decide_eq_false_iff_not];omega
theorem ten_step {a d:Int}:(1000000000000000000 - d) / 10<a ↔ 1000000000000000000<a * 10+d:=by omega
def rdV (s:ByteArray):Int:=if dB s 0=true then dv s 0 else 0
def rdS (s:ByteArray):ByteArray:=if dB s 0=true then s.extract (dk s 0) s.size else ⟨#[]⟩
theorem rd_false {s:ByteArray} (h:dB s 0=false):rdV s=0/\rdS s=⟨#[]⟩:=by unfold rdV rdS;rw [h];exact ⟨rfl,rfl⟩
theorem rd_true {s:ByteArray} (h:dB s 0=true):rdV s=dv s 0/\rdS s=s.extract (dk s 0) s.size:=by unfold rdV rdS;rw [h];exact ⟨rfl,rfl⟩
theorem dk_more {s:ByteArray} {i j:Nat} (hj:j<=dk s i) (h1:i+j<s.size) (h2:isD (bt s (i+j))):j<dk s i:=by
 rcases Nat.lt_or_ge j (dk s i) with h | h
 ·exact h
 ·have e:j=dk s i:=by omega
  exact absurd (e ▸ h2) (zPj (by omega))
theorem dk_stop {s:ByteArray} {i j:Nat} (hj:j<=dk s i) (h:s.size<=i+j \/ ¬ isD (bt s (i+j))):dk s i=j:=by
 rcases Nat.lt_or_ge j (dk s i) with c | c
 ·rcases h with h | h
  ·have:=dk_le s i;omega
  ·exact absurd (dk_all s i j c) h
 ·omega
theorem dB_stop {s:ByteArray} {i j:Nat} (e:dk s i=j) (hb:say s i j<=1000000000000000000):dv s i=say s i j/\dB s i=decide (0<j):=by
 have h1:dv s i=say s i j:=by unfold dv;rw [e]
 refine ⟨h1,?_⟩;unfold dB;rw [h1,e];by_cases h:0<j
 ·rw [decide_eq_true h,decide_eq_true ⟨h,hb⟩]
 ·rw [decide_eq_false h,decide_eq_false (λx=>h x.1)]
theorem say_succ (s:ByteArray) (i k:Nat):say s i (k+1)=say s i k * 10+(bt s (i+k) - 48):=rfl
end Go.Proofs.YtedifblompcdkaaGreatDoor.Wnum
namespace Go.Proofs.YtedifblompcdkaaGreatDoor
open Tryz
open Go.RowKit
variable {W:World} {k:Nat} {v0 v1:Value}
theorem zBS (s:ByteArray) (w:World) (hs:s.size<=9223372036854775807) :
  Calls prog 80 #[.string s] w λe w'=>e=.returned (.tuple #[.int .i64 (Wnum.rdV s),.string (Wnum.rdS s),.bool (Wnum.dB s 0)])/\∃ n,w'=w.drewN n:=by
 go_enter func80,ntmps80;go_wp2;go_loop [2,5,6] (λx i _=>∃ j:Nat,∃ a:Int,j<=Wnum.dk s 0/\x=.int .i64 a/\i=.int .i64 j/\0<=a/\a<=1000000000000000000/\Hid (Wnum.say s 0 j=a)) (λ_ i _=>s.size - (intOf i).toNat)
 case atStart=>exact ⟨0,0,Nat.zero_le _,rfl,rfl,by omega,by omega,(rfl:Wnum.say s 0 0=0)⟩
 case round =>
  obtain ⟨j,a,hj,rfl,rfl,ha,hb,ea⟩:=hrel;have hds:Wnum.dk s 0<=s.size:=by have:=Wnum.dk_le s 0;omega
  have HJ:Hid (j<=Wnum.dk s 0):=hj;have HS:Hid (Wnum.dk s 0<=s.size):=hds;clear hj hds;by_cases hlt:j<s.size
  ·have eb:=Wnum.bt_get hlt;obtain ⟨c0,c1⟩:=Wnum.bt_bd s j;obtain ⟨c,ec⟩:∃ c,c=Wnum.bt s j:=⟨_,rfl⟩
   have EC:Hid (Wnum.bt s (0+j)=c):=by show _=_;rw [Nat.zero_add,ec]
   rw [<-ec] at eb c0 c1;clear ec;by_cases d1:48<=c
   ·by_cases d2:c<=57
    ·have lt:=Wnum.dk_more HJ.out (by omega) (by rw [EC.out];exact ⟨d1,d2⟩);have LT:Hid (j<Wnum.dk s 0):=lt;have SS:Hid (Wnum.say s 0 (j+1)=a * 10+(c - 48)):=by show _=_;rw [Wnum.say_succ,ea.out,EC.out]
     clear lt;by_cases ov:(1000000000000000000 - (c - 48)) / 10<a
     ·have f0:=Wnum.over_before (j:=j+1) LT.out (by rw [SS.out];exact Wnum.ten_step.1 ov);obtain ⟨f1,f2⟩:=Wnum.rd_false f0;have F0:Hid (Wnum.dB s 0=false):=f0;have F1:Hid (Wnum.rdV s=0):=f1;have F2:Hid (Wnum.rdS s=⟨#[]⟩):=f2;clear f0 f1 f2;go_wp2;go_ret3
      exact ⟨by rw [F0.out,F1.out,F2.out];rfl,0,rfl⟩
     ·have nv:a * 10+(c - 48)<=1000000000000000000:=by
       have:¬ 1000000000000000000<a * 10+(c - 48):=λh=>ov (Wnum.ten_step.2 h)
       omega
      have n0:0<=a * 10+(c - 48):=by omega
      go_wp2;go_round
      case rel=>exact ⟨j+1,a * 10+(c - 48),LT.out,by go_num,by go_num,n0,nv,SS⟩
      case measure=>simp [intOf];omega
    ·have ek:=Wnum.dk_stop HJ.out (Or.inr (by rw [EC.out];intro h;exact d2 h.2));have d2':decide (c<=57)=false:=decide_eq_false d2;obtain ⟨g1,g2⟩:=Wnum.dB_stop ek (by rw [ea.out];exact hb);rw [ea.out] at g1;by_cases hz:j=0
     ·have f0:Wnum.dB s 0=false:=by rw [g2];exact decide_eq_false (by omega)
      have hz':((j:Int) == 0)=true:=by rw [beq_iff_eq];omega
      obtain ⟨f1,f2⟩:=Wnum.rd_false f0;have F0:Hid (Wnum.dB s 0=false):=f0;have F1:Hid (Wnum.rdV s=0):=f1;have F2:Hid (Wnum.rdS s=⟨#[]⟩):=f2;clear f0 f1 f2 g1 g2 ek hz;go_wp2;go_ret3
      exact ⟨by rw [F0.out,F1.out,F2.out];rfl,0,rfl⟩
     ·have f0:Wnum.dB s 0=true:=by rw [g2];exact decide_eq_true (by omega)
      obtain ⟨f1,f2⟩:=Wnum.rd_true f0;rw [g1] at f1;rw [ek] at f2;have F0:Hid (Wnum.dB s 0=true):=f0;have F1:Hid (Wnum.rdV s=a):=f1;have F2:Hid (Wnum.rdS s=s.extract j s.size):=f2;clear f0 f1 f2 g1 g2 ek;have hz':((j:Int) == 0)=false:=by rw [beq_eq_false_iff_ne];omega
      go_wp2;go_quiet (fail)
      go_wp2;go_ret3
      exact ⟨by rw [F0.out,F1.out,F2.out];rfl,_,rfl⟩
   ·have ek:=Wnum.dk_stop HJ.out (Or.inr (by rw [EC.out];intro h;exact d1 h.1));have d1':decide (48<=c)=false:=decide_eq_false d1;obtain ⟨g1,g2⟩:=Wnum.dB_stop ek (by rw [ea.out];exact hb);rw [ea.out] at g1;by_cases hz:j=0
    ·have f0:Wnum.dB s 0=false:=by rw [g2];exact decide_eq_false (by omega)
     have hz':((j:Int) == 0)=true:=by rw [beq_iff_eq];omega
     obtain ⟨f1,f2⟩:=Wnum.rd_false f0;have F0:Hid (Wnum.dB s 0=false):=f0;have F1:Hid (Wnum.rdV s=0):=f1;have F2:Hid (Wnum.rdS s=⟨#[]⟩):=f2;clear f0 f1 f2 g1 g2 ek hz;go_wp2;go_ret3
     exact ⟨by rw [F0.out,F1.out,F2.out];rfl,0,rfl⟩
    ·have f0:Wnum.dB s 0=true:=by rw [g2];exact decide_eq_true (by omega)
     obtain ⟨f1,f2⟩:=Wnum.rd_true f0;rw [g1] at f1;rw [ek] at f2;have F0:Hid (Wnum.dB s 0=true):=f0;have F1:Hid (Wnum.rdV s=a):=f1;have F2:Hid (Wnum.rdS s=s.extract j s.size):=f2;clear f0 f1 f2 g1 g2 ek;have hz':((j:Int) == 0)=false:=by rw [beq_eq_false_iff_ne];omega
     go_wp2;go_quiet (fail)
     go_wp2;go_ret3
     exact ⟨by rw [F0.out,F1.out,F2.out];rfl,_,rfl⟩
  ·have ek:=Wnum.dk_stop HJ.out (Or.inl (by omega));have ej:j=s.size:=by have:=HJ.out;have:=HS.out;omega
   obtain ⟨g1,g2⟩:=Wnum.dB_stop ek (by rw [ea.out];exact hb);rw [ea.out] at g1;by_cases hz:j=0
   ·have f0:Wnum.dB s 0=false:=by rw [g2];exact decide_eq_false (by omega)
    have hz':((j:Int) == 0)=true:=by rw [beq_iff_eq];omega
    obtain ⟨f1,f2⟩:=Wnum.rd_false f0;have F0:Hid (Wnum.dB s 0=false):=f0;have F1:Hid (Wnum.rdV s=0):=f1;have F2:Hid (Wnum.rdS s=⟨#[]⟩):=f2;clear f0 f1 f2 g1 g2 ek ej hz;go_wp2;go_ret3
    exact ⟨by rw [F0.out,F1.out,F2.out];rfl,0,rfl⟩
   ·have f0:Wnum.dB s 0=true:=by rw [g2];exact decide_eq_true (by omega)
    obtain ⟨f1,f2⟩:=Wnum.rd_true f0;rw [g1] at f1;rw [ek] at f2;have F0:Hid (Wnum.dB s 0=true):=f0;have F1:Hid (Wnum.rdV s=a):=f1;have F2:Hid (Wnum.rdS s=s.extract j s.size):=f2;have jl:j<=s.size:=by omega
    clear f0 f1 f2 g1 g2 ek ej;have hz':((j:Int) == 0)=false:=by rw [beq_eq_false_iff_ne];omega
    go_wp2;go_quiet (fail)
    go_wp2;go_ret3
    exact ⟨by rw [F0.out,F1.out,F2.out];rfl,_,rfl⟩
theorem zLj (n d:Int) (w:World) (h1:-9223372036854775807<=n) (h2:n<=9223372036854775807) (h3:1<=d) (h4:d<=9223372036854775807) :
  CR 64 #[.int .i64 n,.int .i64 d] w (.tuple #[.agg #[.int .i64 (Wnum.oN (some (Rat.divInt n d))),.int .i64 (Wnum.oD (some (Rat.divInt n d)))],.bool (Wnum.oB (some (Rat.divInt n d)))]):=by
 obtain ⟨g1,g2,g3,g4,g5⟩:=Wnum.mk_tdiv h3 h1 h2;have k1:Hid ((Rat.divInt n d).num=n.tdiv ((Int.gcd n d:Nat):Int)):=g4;have g8:d.tdiv ((Int.gcd n d:Nat):Int)=d / ((Int.gcd n d:Nat):Int):=Int.tdiv_eq_ediv_of_nonneg (by omega);have k2:Hid ((((Rat.divInt n d).den:Nat):Int)=d.tdiv ((Int.gcd n d:Nat):Int)):=g5.trans g8.symm;have g6:0<=d / ((Int.gcd n d:Nat):Int):=Int.ediv_nonneg (by omega) (by omega);have g7:d / ((Int.gcd n d:Nat):Int)<=d:=Int.ediv_le_self _ (by omega);rw [<-g8] at g6 g7;have g9:d.tdiv ((Int.gcd n d:Nat):Int)<=9223372036854775807:=by omega
 have g10:-9223372036854775807<=d.tdiv ((Int.gcd n d:Nat):Int):=by omega
 have hw:IntKind.i64.wrap (d.tdiv ((Int.gcd n d:Nat):Int))=d.tdiv ((Int.gcd n d:Nat):Int):=IntWalk.i64_in _ (by omega);have hwn:IntKind.i64.wrap (n.tdiv ((Int.gcd n d:Nat):Int))=n.tdiv ((Int.gcd n d:Nat):Int):=IntWalk.i64_in _ (by omega);clear g4 g5 g8 g7 g6;have t0:(n == -9223372036854775808)=false:=beq_eq_false_iff_ne.2 (by omega);have t1:(d == -9223372036854775808)=false:=beq_eq_false_iff_ne.2 (by omega);have t2:(d == 0)=false:=beq_eq_false_iff_ne.2 (by omega);have t3:decide (d<0)=false:=by simp;omega
 generalize Rat.divInt n d=r at *;go_enter func64,ntmps64;go_wp2_with (go_at_call 82;refine (zBn _ _ _ (by omega) (by omega) (by omega) (by omega)).mono ?_;rintro e w1 ⟨rfl,nq,rfl⟩)
 clear t0 t1 t2 t3;go_region_with ((go_at_call 83;refine (zCs _ _ r _ g2 g3 k1 k2).mono ?_;rintro e w1 ⟨rfl,hb⟩;obtain ⟨hc,hf⟩:=zQI hb;have hz:=bsz (k:=w.heap.size) hb (by simp)))
 all_goals
  go_wp2;refine bodyPost_ret (v:=.tuple #[.agg #[.int .i64 (Wnum.oN (some r)),.int .i64 (Wnum.oD (some r))],.bool (Wnum.oB (some r))]) (by simp [results,results64,go_sem,hc]) rfl ⟨rfl,?_⟩;exact clA
def At (W:World) (k:Nat) (v0 v1:Value):Prop :=
 W.cell? ⟨k,0,none⟩=some v0/\W.cell? ⟨k,1,none⟩=some v1/\W.frozen? ⟨k,0,none⟩=false/\W.frozen? ⟨k,1,none⟩=false
theorem At.lt (h:At W k v0 v1):k<W.heap.size:=World.block_lt_of_cell? W ⟨k,0,none⟩ h.1
theorem At.new (W:World) (t:TypeId) {k:Nat} (hk:k=W.heap.size) (v0 v1:Value):At (W.alloc (.cells #[v0,v1] t)) k v0 v1:=by
 subst hk;exact ⟨by simp [go_sem],by simp [go_sem],by simp [go_sem],by simp [go_sem]⟩
theorem At.below {W':World} (hb:Below W.heap.size W W') {k:Nat} {v0 v1:Value} (h:At W k v0 v1):At W' k v0 v1:=by
 have hl:=h.lt;obtain ⟨h1,h2,h3,h4⟩:=h;exact ⟨(hb.cell (p:=⟨k,0,none⟩) hl).trans h1,(hb.cell (p:=⟨k,1,none⟩) hl).trans h2,(hb.frozen (p:=⟨k,0,none⟩) hl).trans h3,(hb.frozen (p:=⟨k,1,none⟩) hl).trans h4⟩
theorem At.drewN (h:At W k v0 v1) (n:Nat):At (W.drewN n) k v0 v1:=At.below (zAX (Below.refl _ _) n) h
theorem zE9 {w:World} (hb:Below w.heap.size w W) (hk:w.heap.size<=k) (u0 u1:Value):Below w.heap.size w ((W.setCell ⟨k,0,none⟩ u0).setCell ⟨k,1,none⟩ u1) :=
 (hb.setCell (p:=⟨k,0,none⟩) hk u0).setCell (p:=⟨k,1,none⟩) hk u1
theorem zJP (k:Int) (w:World) (h1:0<=k) (h2:k<=12) :
  Calls prog 105 #[.int .i64 k] w λe w'=>e=.returned (.int .i64 (Wnum.tenP k.toNat))/\w=w':=by
 obtain ⟨K,rfl⟩:=Int.eq_ofNat_of_zero_le h1;rw [Int.toNat_natCast];go_enter func105,ntmps105;go_wp2;go_loop [3,5] (λr i=>∃ j:Nat,j<=K/\r=.int .i64 (Wnum.tenP j)/\i=.int .i64 j) (λ_ i=>K - (intOf i).toNat)
 case atStart=>exact ⟨0,Nat.zero_le _,rfl,rfl⟩
 case round =>
  obtain ⟨j,hj,rfl,rfl⟩:=hrel;have b1:=Wnum.tenP_pos j;have b2:=Wnum.tenP_le12 (k:=j) (by omega);by_cases hlt:j<K
  ·have E:Hid (Wnum.tenP (j+1)=Wnum.tenP j * 10):=Wnum.tenP_succ j;go_wp2;go_round
   case rel=>exact ⟨j+1,by omega,by rw [E.out],by go_num⟩
   case measure=>simp [intOf];omega
  ·have hj':j=K:=by omega
   subst hj';go_wp2;go_ret;exact ⟨rfl,rfl⟩
end Go.Proofs.YtedifblompcdkaaGreatDoor
namespace Go.Proofs.YtedifblompcdkaaGreatDoor.Wnum
theorem sub_facts {t:ByteArray} {p:Nat} (h:p<=t.size):(t.extract p t.size).size=t.size - p/\∀ i,bt (t.extract p t.size) i=bt t (p+i):=by
 constructor
 ·rw [ByteArray.size_extract];omega
 ·intro i;obtain ⟨⟨l⟩⟩:=t;have hl:(ByteArray.mk ⟨l⟩).size=l.length:=rfl;have e:((ByteArray.mk ⟨l⟩).extract p (ByteArray.mk ⟨l⟩).size).data.toList=l.drop p:=by
   rw [hl];simp;exact List.take_of_length_le (by simp)
  unfold bt;rw [e];show (((l.drop p).getD i 0).toNat:Int)=((l.getD (p+i) 0).toNat:Int)
  simp [List.getD,List.getElem?_drop]
def plB (t:ByteArray) (n:Int):Bool:=decide (t.size<=6) && decide (n<=1000000000000) && dB t 0 && decide (dk t 0=t.size)
def plN (t:ByteArray) (n:Int):Int:=if plB t n=true then n * tenP t.size+dv t 0 else 0
def plD (t:ByteArray) (n:Int):Int:=if plB t n=true then tenP t.size else 0
theorem pl_false {t:ByteArray} {n:Int} (h:plB t n=false):plN t n=0/\plD t n=0:=by unfold plN plD;rw [h];exact ⟨rfl,rfl⟩
theorem pl_true {t:ByteArray} {n:Int} (h:plB t n=true):plN t n=n * tenP t.size+dv t 0/\plD t n=tenP t.size:=by unfold plN plD;rw [h];exact ⟨rfl,rfl⟩
def fC (t:ByteArray):Int:=bt t (dk t 0)
def fS (t:ByteArray):ByteArray:=(t.extract (dk t 0) t.size).extract 1 (t.extract (dk t 0) t.size).size
def fB (t:ByteArray):Bool :=
 if dB t 0=false then false else if dk t 0=t.size then true else if fC t=46 then plB (fS t) (dv t 0) else if fC t=47 then dB (fS t) 0 && decide (dk (fS t) 0=(fS t).size) else false
def fN (t:ByteArray):Int :=
 if fB t=false then 0 else if dk t 0=t.size then dv t 0 else if fC t=46 then plN (fS t) (dv t 0) else dv t 0
def fD (t:ByteArray):Int :=
 if fB t=false then 0 else if dk t 0=t.size then 1 else if fC t=46 then plD (fS t) (dv t 0) else dv (fS t) 0
theorem f_false {t:ByteArray} (h:fB t=false):fN t=0/\fD t=0:=⟨if_pos h,if_pos h⟩
theorem f_none {t:ByteArray} (h:dB t 0=false):fB t=false:=if_pos h
theorem f_whole {t:ByteArray} (h:dB t 0=true) (e:dk t 0=t.size):fB t=true/\fN t=dv t 0/\fD t=1:=by
 have h1:fB t=true:=by unfold fB;rw [if_neg (by rw [h];decide),if_pos e]
 exact ⟨h1,by unfold fN;rw [if_neg (by rw [h1];decide),if_pos e],by unfold fD;rw [if_neg (by rw [h1];decide),if_pos e]⟩
theorem f_point {t:ByteArray} (h:dB t 0=true) (e:¬ dk t 0=t.size) (c:fC t=46):fB t=plB (fS t) (dv t 0)/\fN t=plN (fS t) (dv t 0)/\fD t=plD (fS t) (dv t 0):=by
 have h1:fB t=plB (fS t) (dv t 0):=by unfold fB;rw [if_neg (by rw [h];decide),if_neg e,if_pos c]
 refine ⟨h1,?_,?_⟩
 ·cases hb:plB (fS t) (dv t 0) with
  | false=>rw [(f_false (h1.trans hb)).1,(pl_false hb).1]
  | true=>unfold fN;rw [if_neg (by rw [h1,hb];decide),if_neg e,if_pos c]
 ·cases hb:plB (fS t) (dv t 0) with
  | false=>rw [(f_false (h1.trans hb)).2,(pl_false hb).2]
  | true=>unfold fD;rw [if_neg (by rw [h1,hb];decide),if_neg e,if_pos c]
theorem f_over {t:ByteArray} (h:dB t 0=true) (e:¬ dk t 0=t.size) (c:fC t=47):fB t=(dB (fS t) 0 && decide (dk (fS t) 0=(fS t).size))/\(fB t=true->fN t=dv t 0/\fD t=dv (fS t) 0):=by
 have n46:¬ fC t=46:=by omega
 have h1:fB t=(dB (fS t) 0 && decide (dk (fS t) 0=(fS t).size)):=by unfold fB;rw [if_neg (by rw [h];decide),if_neg e,if_neg n46,if_pos c]
 refine ⟨h1,λhb=>⟨?_,?_⟩⟩
 ·unfold fN;rw [if_neg (by rw [hb];decide),if_neg e,if_neg n46]
 ·unfold fD;rw [if_neg (by rw [hb];decide),if_neg e,if_neg n46]
theorem f_other {t:ByteArray} (h:dB t 0=true) (e:¬ dk t 0=t.size) (c:¬ fC t=46) (c':¬ fC t=47):fB t=false:=by
 unfold fB;rw [if_neg (by rw [h];decide),if_neg e,if_neg c,if_neg c']
theorem dB_bd {t:ByteArray} {i:Nat} (h:dB t i=true):0<dk t i/\0<=dv t i/\dv t i<=1000000000000000000:=by
 have:=of_decide_eq_true h;exact ⟨this.1,zFX t i,this.2⟩
theorem say_small {s:ByteArray} {i:Nat}:∀ k,(∀ m,m<k->isD (bt s (i+m)))->say s i k<tenP k:=by
 intro k;induction k with
 | zero=>intro _;exact (by decide:(0:Int)<1)
 | succ k ih =>
  intro h;have h1:=ih (λm hm=>h m (by omega));have h2:=(h k (by omega)).2;rw [say_succ,tenP_succ];omega
end Go.Proofs.YtedifblompcdkaaGreatDoor.Wnum
namespace Go.Proofs.YtedifblompcdkaaGreatDoor
open Tryz
open Go.RowKit
theorem zFQ (r:ByteArray):(r.toList == ([]:List UInt8))=decide (r.size=0):=by
 rw [ByteArray.toList_eq];obtain ⟨⟨l⟩⟩:=r;cases l <;> rfl
theorem zDw (r:ByteArray):r.toList.isEmpty=decide (r.size=0):=by
 rw [ByteArray.toList_eq];obtain ⟨⟨l⟩⟩:=r;cases l <;> rfl
theorem zD9 (n:Int) (t:ByteArray) (w:World) (h1:0<=n) (h2:n<=1000000000000000000) (hs:t.size<=9223372036854775807) :
  Calls prog 81 #[.int .i64 n,.string t] w λe w'=>e=.returned (.tuple #[.int .i64 (Wnum.plN t n),.int .i64 (Wnum.plD t n),.bool (Wnum.plB t n)])/\∃ k,w'=w.drewN k:=by
 by_cases c1:6<t.size
 ·have f0:Wnum.plB t n=false:=by unfold Wnum.plB;rw [decide_eq_false (by omega)];rfl
  rw [(Wnum.pl_false f0).1,(Wnum.pl_false f0).2,f0];clear f0;go_enter func81,ntmps81;go_wp2;go_ret3
  exact ⟨rfl,0,rfl⟩
 have c1':decide ((6:Int)<(t.size:Int))=false:=decide_eq_false (by omega);by_cases c2:1000000000000<n
 ·have f0:Wnum.plB t n=false:=by unfold Wnum.plB;rw [decide_eq_false (p:=n<=1000000000000) (by omega),Bool.and_false,Bool.false_and];rfl
  rw [(Wnum.pl_false f0).1,(Wnum.pl_false f0).2,f0];clear f0;go_enter func81,ntmps81;go_wp2;go_ret3
  exact ⟨rfl,0,rfl⟩
 have c2':decide (1000000000000<n)=false:=decide_eq_false c2;have P:=λw=>zBS t w hs
 cases hb:Wnum.dB t 0 with
 | false =>
  have f0:Wnum.plB t n=false:=by unfold Wnum.plB;rw [hb,Bool.and_false];rfl
  rw [(Wnum.pl_false f0).1,(Wnum.pl_false f0).2,f0];rw [hb,(Wnum.rd_false hb).1,(Wnum.rd_false hb).2] at P;clear f0 hb;go_enter func81,ntmps81;go_wp2_with fail
  refine (P _).mono ?_;rintro e w1 ⟨rfl,k1,rfl⟩;go_wp2;go_ret3
  exact ⟨rfl,k1,rfl⟩
 | true =>
  obtain ⟨b1,b2,b3⟩:=Wnum.dB_bd hb;have kl:=Wnum.dk_le t 0;have es:=(Wnum.sub_facts (t:=t) (p:=Wnum.dk t 0) (by omega)).1;rw [hb,(Wnum.rd_true hb).1,(Wnum.rd_true hb).2] at P;by_cases c3:Wnum.dk t 0=t.size
  ·have f0:Wnum.plB t n=true:=by unfold Wnum.plB;rw [hb,decide_eq_true c3,decide_eq_true (show t.size<=6 by omega),decide_eq_true (show n<=1000000000000 by omega)];rfl
   have sm:Wnum.dv t 0<Wnum.tenP t.size:=by
    have:=Wnum.say_small (s:=t) (i:=0) (Wnum.dk t 0) (Wnum.dk_all t 0);rw [c3] at this;unfold Wnum.dv;rw [c3];exact this
   rw [(Wnum.pl_true f0).1,(Wnum.pl_true f0).2,f0];have q1:=zDw (t.extract (Wnum.dk t 0) t.size);rw [es,decide_eq_true (by omega)] at q1;generalize t.extract (Wnum.dk t 0) t.size=r at *;generalize Wnum.dv t 0=v at *;have t1:=Wnum.tenP_le6 (k:=t.size) (by omega);have t2:=Wnum.tenP_pos t.size;have T:=λw=>zJP (t.size:Int) w (by omega) (by omega)
   rw [Int.toNat_natCast] at T;generalize Wnum.tenP t.size=ten at *;have m1:0<=n * ten:=Int.mul_nonneg h1 (by omega);have m2:n * ten<=1000000000000 * 1000000:=Int.mul_le_mul (by omega) t1 (by omega) (by omega);clear f0 hb es c3 kl b1;go_enter func81,ntmps81;go_wp2_with fail
   refine (P _).mono ?_;rintro e w1 ⟨rfl,k1,rfl⟩;go_wp2_with fail
   refine (T _).mono ?_;rintro e w2 ⟨rfl,rfl⟩;go_wp2;go_ret3
   exact ⟨rfl,k1,rfl⟩
  ·have f0:Wnum.plB t n=false:=by unfold Wnum.plB;rw [decide_eq_false c3,Bool.and_false]
   rw [(Wnum.pl_false f0).1,(Wnum.pl_false f0).2,f0];have q1:=zDw (t.extract (Wnum.dk t 0) t.size);rw [es,decide_eq_false (by omega)] at q1;generalize t.extract (Wnum.dk t 0) t.size=r at *;generalize Wnum.dv t 0=v at *;clear f0 hb es c3 kl b1;go_enter func81,ntmps81;go_wp2_with fail
   refine (P _).mono ?_;rintro e w1 ⟨rfl,k1,rfl⟩;go_wp2;go_ret3
   exact ⟨rfl,k1,rfl⟩
theorem zCa (t:ByteArray) (w:World) (hs:t.size<=9223372036854775807) :
  Calls prog 63 #[.string t] w λe w'=>e=.returned (.tuple #[.int .i64 (Wnum.fN t),.int .i64 (Wnum.fD t),.bool (Wnum.fB t)])/\∃ k,w'=w.drewN k:=by
 have P:=λw=>zBS t w hs
 cases hb:Wnum.dB t 0 with
 | false =>
  have f0:=Wnum.f_none hb;rw [(Wnum.f_false f0).1,(Wnum.f_false f0).2,f0];rw [hb,(Wnum.rd_false hb).1,(Wnum.rd_false hb).2] at P;clear f0 hb;go_enter func63,ntmps63;go_wp2_with fail
  refine (P _).mono ?_;rintro e w1 ⟨rfl,k1,rfl⟩;go_wp2;go_ret3
  exact ⟨rfl,k1,rfl⟩
 | true =>
  obtain ⟨b1,b2,b3⟩:=Wnum.dB_bd hb;have kl:=Wnum.dk_le t 0;obtain ⟨es,eb⟩:=Wnum.sub_facts (t:=t) (p:=Wnum.dk t 0) (by omega);rw [hb,(Wnum.rd_true hb).1,(Wnum.rd_true hb).2] at P;by_cases c3:Wnum.dk t 0=t.size
  ·obtain ⟨f0,f1,f2⟩:=Wnum.f_whole hb c3;rw [f0,f1,f2];have q1:=zFQ (t.extract (Wnum.dk t 0) t.size);rw [es,decide_eq_true (by omega)] at q1;generalize t.extract (Wnum.dk t 0) t.size=r at *;generalize Wnum.dv t 0=v at *;clear f0 f1 f2 hb es eb c3 kl b1;go_enter func63,ntmps63;go_wp2_with fail
   refine (P _).mono ?_;rintro e w1 ⟨rfl,k1,rfl⟩;go_wp2;go_ret3
   exact ⟨rfl,k1,rfl⟩
  ·have q1:=zFQ (t.extract (Wnum.dk t 0) t.size);rw [es,decide_eq_false (by omega)] at q1;have r0:0<(t.extract (Wnum.dk t 0) t.size).size:=by rw [es];omega
   have rs:(t.extract (Wnum.dk t 0) t.size).size<=9223372036854775807:=by rw [es];omega
   have ec:=Wnum.bt_get r0;rw [eb 0,Nat.add_zero] at ec;have ec:(((t.extract (Wnum.dk t 0) t.size)[0]'r0).toNat:Int)=Wnum.fC t:=ec;have us:(Wnum.fS t).size<=9223372036854775807:=by
    have:=(Wnum.sub_facts (t:=t.extract (Wnum.dk t 0) t.size) (p:=1) (by omega)).1;show (((t.extract (Wnum.dk t 0) t.size)).extract 1 (t.extract (Wnum.dk t 0) t.size).size).size<=_
    omega
   have U:Hid ((t.extract (Wnum.dk t 0) t.size).extract 1 (t.extract (Wnum.dk t 0) t.size).size=Wnum.fS t):=(rfl:(t.extract (Wnum.dk t 0) t.size).extract 1 (t.extract (Wnum.dk t 0) t.size).size=Wnum.fS t)
   by_cases c46:Wnum.fC t=46
   ·obtain ⟨f0,f1,f2⟩:=Wnum.f_point hb c3 c46;rw [f0,f1,f2];have Q:=λw=>zD9 (Wnum.dv t 0) (Wnum.fS t) w b2 b3 us
    rw [c46] at ec;clear f0 f1 f2 c46;generalize Wnum.fS t=u at *;generalize Wnum.dv t 0=v at *;clear hb es eb c3 kl b1;generalize t.extract (Wnum.dk t 0) t.size=r at *;go_enter func63,ntmps63;go_wp2_with fail
    refine (P _).mono ?_;rintro e w1 ⟨rfl,k1,rfl⟩;go_wp2_with fail
    rw [U.out];refine (Q _).mono ?_;rintro e w2 ⟨rfl,k2,rfl⟩;go_wp2;go_ret3
    exact ⟨rfl,_,rfl⟩
   ·by_cases c47:Wnum.fC t=47
    ·obtain ⟨f0,f1⟩:=Wnum.f_over hb c3 c47;have Q:=λw=>zBS (Wnum.fS t) w us
     rw [c47] at ec;cases hu:Wnum.dB (Wnum.fS t) 0 with
     | false =>
      have f0':Wnum.fB t=false:=by rw [f0,hu];rfl
      rw [(Wnum.f_false f0').1,(Wnum.f_false f0').2,f0'];rw [hu,(Wnum.rd_false hu).1,(Wnum.rd_false hu).2] at Q;clear f0 f1 f0' c46 c47 hu;generalize Wnum.fS t=u at *;generalize Wnum.dv t 0=v at *;clear hb es eb c3 kl b1;generalize t.extract (Wnum.dk t 0) t.size=r at *;go_enter func63,ntmps63;go_wp2_with fail
      refine (P _).mono ?_;rintro e w1 ⟨rfl,k1,rfl⟩;go_wp2_with fail
      rw [U.out];refine (Q _).mono ?_;rintro e w2 ⟨rfl,k2,rfl⟩;go_wp2;go_ret3
      exact ⟨rfl,_,rfl⟩
     | true =>
      have ul:=Wnum.dk_le (Wnum.fS t) 0;have ues:=(Wnum.sub_facts (t:=Wnum.fS t) (p:=Wnum.dk (Wnum.fS t) 0) (by omega)).1;have q2:=zDw ((Wnum.fS t).extract (Wnum.dk (Wnum.fS t) 0) (Wnum.fS t).size);rw [ues] at q2;rw [hu,(Wnum.rd_true hu).1,(Wnum.rd_true hu).2] at Q;by_cases c5:Wnum.dk (Wnum.fS t) 0=(Wnum.fS t).size
      ·have f0':Wnum.fB t=true:=by rw [f0,hu,decide_eq_true c5];rfl
       rw [(f1 f0').1,(f1 f0').2,f0'];rw [decide_eq_true (by omega)] at q2;clear f0 f1 f0' c46 c47 hu c5 ul ues;generalize Wnum.dv (Wnum.fS t) 0=v2 at *;generalize (Wnum.fS t).extract (Wnum.dk (Wnum.fS t) 0) (Wnum.fS t).size=r2 at *;generalize Wnum.fS t=u at *;generalize Wnum.dv t 0=v at *;clear hb es eb c3 kl b1;generalize t.extract (Wnum.dk t 0) t.size=r at *;go_enter func63,ntmps63;go_wp2_with fail
       refine (P _).mono ?_;rintro e w1 ⟨rfl,k1,rfl⟩;go_wp2_with fail
       rw [U.out];refine (Q _).mono ?_;rintro e w2 ⟨rfl,k2,rfl⟩;go_wp2;go_ret3
       exact ⟨rfl,_,rfl⟩
      ·have f0':Wnum.fB t=false:=by rw [f0,decide_eq_false c5,Bool.and_false]
       rw [(Wnum.f_false f0').1,(Wnum.f_false f0').2,f0'];rw [decide_eq_false (by omega)] at q2;clear f0 f1 f0' c46 c47 hu c5 ul ues;generalize Wnum.dv (Wnum.fS t) 0=v2 at *;generalize (Wnum.fS t).extract (Wnum.dk (Wnum.fS t) 0) (Wnum.fS t).size=r2 at *;generalize Wnum.fS t=u at *;generalize Wnum.dv t 0=v at *;clear hb es eb c3 kl b1;generalize t.extract (Wnum.dk t 0) t.size=r at *;go_enter func63,ntmps63;go_wp2_with fail
       refine (P _).mono ?_;rintro e w1 ⟨rfl,k1,rfl⟩;go_wp2_with fail
       rw [U.out];refine (Q _).mono ?_;rintro e w2 ⟨rfl,k2,rfl⟩;go_wp2;go_ret3
       exact ⟨rfl,_,rfl⟩
    ·have f0:=Wnum.f_other hb c3 c46 c47;rw [(Wnum.f_false f0).1,(Wnum.f_false f0).2,f0];have g1:(Wnum.fC t == 46)=false:=beq_eq_false_iff_ne.2 c46;have g2:(Wnum.fC t == 47)=false:=beq_eq_false_iff_ne.2 c47;clear f0 c46 c47 U us;generalize Wnum.fC t=c at *;generalize Wnum.dv t 0=v at *;clear hb es eb c3 kl b1;generalize t.extract (Wnum.dk t 0) t.size=r at *;go_enter func63,ntmps63;go_wp2_with fail
     refine (P _).mono ?_;rintro e w1 ⟨rfl,k1,rfl⟩;go_wp2;go_ret3
     exact ⟨rfl,k1,rfl⟩
