/- TPlainB, TRight, TMeas, TCheck, LName, LQuo, LSize. -/
import Derived.Test.YtlggnpohhahdlaaGreatDoorQ07
import Derived.Lib.Strings
set_option maxHeartbeats 4000000
set_option maxRecDepth 100000
namespace Go.Proofs.YtlggnpohhahdlaaGreatDoor.Wt
open Go.Proofs.YtlggnpohhahdlaaGreatDoor
def right (x:Nd):Bool :=
 if x.k=1 then vlOk x.v && eqN x ⟨1,x.v,0,⟨#[]⟩,0,Wt.r0,Wt.r0⟩
 else if x.k=2 then rfOk x.a && eqN x ⟨2,Wt.v0,0,⟨#[]⟩,0,x.a,Wt.r0⟩
 else if x.k=3 then (rfOk x.a && rfOk x.b && x.b.s.toList.isEmpty) && eqN x ⟨3,Wt.v0,0,⟨#[]⟩,0,x.a,x.b⟩
 else if x.k=4 then opK x.op == 4 && eqN x ⟨4,Wt.v0,x.op,⟨#[]⟩,0,Wt.r0,Wt.r0⟩
 else if x.k=5 then opK x.op == 5 && eqN x ⟨5,Wt.v0,x.op,⟨#[]⟩,0,Wt.r0,Wt.r0⟩
 else if x.k=6 then (fnNm x.nm && decide (0≤x.ar) && decide (x.ar≤30)) && eqN x ⟨6,Wt.v0,0,x.nm,x.ar,Wt.r0,Wt.r0⟩
 else false
def FitV (v:Vl):Prop:=(-9223372036854775808≤v.n∧v.n≤9223372036854775807)∧(-9223372036854775808≤v.d∧v.d≤9223372036854775807)∧v.t.size≤9223372036854775807
def FitN (x:Nd):Prop:=FitV x.v∧x.nm.size≤9223372036854775807∧x.a.s.size≤9223372036854775807∧x.b.s.size≤9223372036854775807
theorem parts_le {x:Nd} (h:right x=true):0≤parts x∧parts x≤30:=by
 unfold right at h;unfold parts;by_cases h4:x.k=4
 ·rw [if_pos h4];omega
 rw [if_neg h4];by_cases h5:x.k=5
 ·rw [if_pos h5];omega
 rw [if_neg h5];by_cases h1:x.k=1
 ·rw [if_pos h1,Bool.and_eq_true,eqN_iff] at h;have:=congrArg Nd.ar h.2;simp only at this;omega
 rw [if_neg h1] at h;by_cases h1:x.k=2
 ·rw [if_pos h1,Bool.and_eq_true,eqN_iff] at h;have:=congrArg Nd.ar h.2;simp only at this;omega
 rw [if_neg h1] at h;by_cases h1:x.k=3
 ·rw [if_pos h1,Bool.and_eq_true,eqN_iff] at h;have:=congrArg Nd.ar h.2;simp only at this;omega
 rw [if_neg h1,if_neg h4,if_neg h5] at h;by_cases h1:x.k=6
 ·rw [if_pos h1] at h;simp only [Bool.and_eq_true,decide_eq_true_eq] at h;omega
 ·rw [if_neg h1] at h;cases h
def many (sub:List Nd→Option (Nat × Nat)):Nat→List Nd→Option (Nat × Nat)
 | 0,_=>some (0,0)
 | k+1,l=>match sub l with
  | none=>none
  | some (s,d)=>match many sub k (l.drop s) with
   | none=>none
   | some (s',d')=>some (s+s',max d d')
def one:Nat→List Nd→Option (Nat × Nat)
 | 0,_=>none
 | _+1,[]=>none
 | f+1,x::r=>if right x then (match many (one f) (parts x).toNat r with | none=>none | some (s,d)=>some (s+1,d+1)) else none
def check (l:List Nd):Int :=
 if 256<l.length then 52
 else match one (l.length+1) l with
  | none=>53
  | some (s,d)=>if s ≠ l.length then 53 else if 32<d then 51 else 0
end Go.Proofs.YtlggnpohhahdlaaGreatDoor.Wt
namespace Go.Proofs.YtlggnpohhahdlaaGreatDoor
open Go.RowKit
set_option linter.unusedVariables false
theorem tright_n (x:Wt.Nd) (w:World) (h1:(x.k == 1)=false) (h2:(x.k == 2)=false) (h3:(x.k == 3)=false) (h4:(x.k == 4)=false) (h5:(x.k == 5)=false) (h6:(x.k == 6)=false) :
  Calls Tryz.prog 53 #[ndV x] w fun e w'=>e=.returned (.bool false)∧Below w.heap.size w w':=by
 obtain ⟨k,hk⟩:∃ k,x.k=k:=⟨_,rfl⟩
 rw [hk] at h1 h2 h3 h4 h5 h6;have pA0:AtL (two w x) w.heap.size (nd20 x):=(AtL.new0 w _ _).alloc _;have pO0:AtL (two w x) (w.heap.size+1) (nd20 (bare 0)):=AtL.new1 w _ _ _;have hth:World.there (two w x) (w.heap.size+1) 0 (nd20 (bare k)).toArray.size:=pO0.there;have hne:w.heap.size+1 ≠ w.heap.size:=by omega
 have pA:=pA0.farAll hne 0 (nd20 (bare k));have pO:AtL ((two w x).setCells (w.heap.size+1) 0 (nd20 (bare k))) (w.heap.size+1) (nd20 (bare k)):=pO0.setAll rfl;have hBa:Below w.heap.size w ((two w x).setCells (w.heap.size+1) 0 (nd20 (bare k))):=bset (ball (ball (Below.refl _ w) _) _) (Nat.le_succ _) _ 0;clear pA0 pO0;have n0:(nd20 x)[0]? = some (.int .i64 k):=by rw [←hk];rfl
 have a0:World.cell? ((two w x).setCells (w.heap.size+1) 0 (nd20 (bare k))) ⟨w.heap.size,0,none⟩=some (.int .i64 k):=pA.2.1 0 _ n0;show Calls _ _ #[.agg (nd20 x).toArray] _ _
 go_enter Tryz.func53,Tryz.ntmps53;go_upto_region 1 with fail
 go_upto_region 2 with ((with_reducible refine wpList_store_mid ?_ 45 (.tmp 3) (.tmp 9) ?_ (w.heap.size+1) 0 (nd20 (bare k)).toArray ?_ ?_ ?_ ?_ ?_ ?_);rfl;rfl;rfl;rfl;exact hth;kernel_rfl;exact one20 _)
 generalize (two w x).setCells (w.heap.size+1) 0 (nd20 (bare k))=W0 at *;clear hth;go_wp2;go_ret;exact ⟨rfl,hBa⟩
theorem tright_any (x:Wt.Nd) (w:World) (hf:Wt.FitN x) (hO:OpsAt w):Calls Tryz.prog 53 #[ndV x] w fun e w'=>e=.returned (.bool (Wt.right x))∧Below w.heap.size w w':=by
 obtain ⟨⟨⟨f1,f2⟩,⟨f3,f4⟩,f5⟩,f6,f7,f8⟩:=hf;unfold Wt.right;by_cases h1:x.k=1
 ·rw [if_pos h1];exact tright_1 x w h1 f1 f2 f3 f4 f5
 rw [if_neg h1];by_cases h2:x.k=2
 ·rw [if_pos h2];exact tright_2 x w h2 f7
 rw [if_neg h2];by_cases h3:x.k=3
 ·rw [if_pos h3];exact tright_3 x w h3 f7 f8
 rw [if_neg h3];by_cases h4:x.k=4
 ·rw [if_pos h4];exact tright_4 x w h4 hO
 rw [if_neg h4];by_cases h5:x.k=5
 ·rw [if_pos h5];exact tright_5 x w h5 hO
 rw [if_neg h5];by_cases h6:x.k=6
 ·rw [if_pos h6];exact tright_6 x w h6 f6
 rw [if_neg h6];exact tright_n x w (by simp [h1]) (by simp [h2]) (by simp [h3]) (by simp [h4]) (by simp [h5]) (by simp [h6])
def RdN (w:World) (av:Option Addr) (L:List Wt.Nd):Prop:=∀ i (h:i<L.length),∃ bb off,av=some ⟨bb,off,none⟩∧w.rangeAt bb (off+i * 20) (nd20 (L[i]))
theorem RdN.below {w w':World} {av:Option Addr} {L:List Wt.Nd} (h:RdN w av L) (hb:Below w.heap.size w w'):RdN w' av L:=fun i hi=>by
 obtain ⟨bb,off,e,hr⟩:=h i hi;exact ⟨bb,off,e,fun j v hv=>cell_below hb (hr j v hv)⟩
def MP (r:Option (Nat × Nat)) (p:Nat):Value:=match r with
 | some (s,d)=>.tuple #[.int .i64 ((p+s:Nat):Int),.int .i64 (d:Int),.bool true]
 | none=>.tuple #[.int .i64 0,.int .i64 0,.bool false]
def left (f k:Nat) (L:List Wt.Nd) (e d:Nat):Option (Nat × Nat):=match Wt.many (Wt.one f) k (L.drop e) with
 | some (s,d')=>some (e+s,max d d')
 | none=>none
theorem left_zero (f:Nat) (L:List Wt.Nd) (e d:Nat):left f 0 L e d=some (e,d):=by simp [left,Wt.many]
theorem left_none {f k:Nat} {L:List Wt.Nd} {e d:Nat} (h:Wt.one f (L.drop e)=none):left f (k+1) L e d=none:=by simp [left,Wt.many,h]
theorem left_some {f k:Nat} {L:List Wt.Nd} {e d s d':Nat} (h:Wt.one f (L.drop e)=some (s,d')):left f (k+1) L e d=left f k L (e+s) (max d d'):=by
 simp only [left,Wt.many,h,List.drop_drop];cases Wt.many (Wt.one f) k (List.drop (e+s) L) with
 | none=>rfl
 | some q=>obtain ⟨a,b⟩:=q;simp only [Option.some.injEq,Prod.mk.injEq];omega
theorem many_le {f:Nat} (ih:∀ (l:List Wt.Nd) (s d:Nat),Wt.one f l=some (s,d)→s≤l.length):∀ (k:Nat) (l:List Wt.Nd) (s d:Nat),Wt.many (Wt.one f) k l=some (s,d)→s≤l.length:=by
 intro k;induction k with
 | zero=>intro l s d h;simp only [Wt.many,Option.some.injEq,Prod.mk.injEq] at h;omega
 | succ k ihk =>
  intro l s d h;simp only [Wt.many] at h;cases h1:Wt.one f l with
  | none=>rw [h1] at h;cases h
  | some q =>
   obtain ⟨a,b⟩:=q;rw [h1] at h;simp only at h;cases h2:Wt.many (Wt.one f) k (l.drop a) with
   | none=>rw [h2] at h;cases h
   | some q2 =>
    obtain ⟨a2,b2⟩:=q2;rw [h2] at h;simp only [Option.some.injEq,Prod.mk.injEq] at h;have:=ih l a b h1;have:=ihk _ a2 b2 h2;rw [List.length_drop] at this;omega
theorem one_le:∀ (f:Nat) (l:List Wt.Nd) (s d:Nat),Wt.one f l=some (s,d)→s≤l.length
 | 0,l,s,d,h=>by simp [Wt.one] at h
 | f+1,[],s,d,h=>by simp [Wt.one] at h
 | f+1,x::r,s,d,h=>by
  unfold Wt.one at h;split at h
  ·cases h1:Wt.many (Wt.one f) (Wt.parts x).toNat r with
   | none=>rw [h1] at h;cases h
   | some q =>
    obtain ⟨a,b⟩:=q;rw [h1] at h;simp only [Option.some.injEq,Prod.mk.injEq] at h;have:=many_le (one_le f) _ _ _ _ h1;simp only [List.length_cons];omega
  ·cases h
theorem many_deep {f:Nat} (ih:∀ (l:List Wt.Nd) (s d:Nat),Wt.one f l=some (s,d)→d≤f):∀ (k:Nat) (l:List Wt.Nd) (s d:Nat),Wt.many (Wt.one f) k l=some (s,d)→d≤f:=by
 intro k;induction k with
 | zero=>intro l s d h;simp only [Wt.many,Option.some.injEq,Prod.mk.injEq] at h;omega
 | succ k ihk =>
  intro l s d h;simp only [Wt.many] at h;cases h1:Wt.one f l with
  | none=>rw [h1] at h;cases h
  | some q =>
   obtain ⟨a,b⟩:=q;rw [h1] at h;simp only at h;cases h2:Wt.many (Wt.one f) k (l.drop a) with
   | none=>rw [h2] at h;cases h
   | some q2 =>
    obtain ⟨a2,b2⟩:=q2;rw [h2] at h;simp only [Option.some.injEq,Prod.mk.injEq] at h;have:=ih l a b h1;have:=ihk _ a2 b2 h2;omega
theorem one_deep:∀ (f:Nat) (l:List Wt.Nd) (s d:Nat),Wt.one f l=some (s,d)→d≤f
 | 0,l,s,d,h=>by simp [Wt.one] at h
 | f+1,[],s,d,h=>by simp [Wt.one] at h
 | f+1,x::r,s,d,h=>by
  unfold Wt.one at h;split at h
  ·cases h1:Wt.many (Wt.one f) (Wt.parts x).toNat r with
   | none=>rw [h1] at h;cases h
   | some q =>
    obtain ⟨a,b⟩:=q;rw [h1] at h;simp only [Option.some.injEq,Prod.mk.injEq] at h;have:=many_deep (one_deep f) _ _ _ _ h1;omega
  ·cases h
def MR (r:Option (Nat × Nat)):Value:=match r with
 | some (e,d)=>.tuple #[.int .i64 (e:Int),.int .i64 ((d:Int)+1),.bool true]
 | none=>.tuple #[.int .i64 0,.int .i64 0,.bool false]
theorem MP_left {x:Wt.Nd} (h:Wt.right x=true) (f:Nat) (L:List Wt.Nd) (p:Nat):MP (Wt.one (f+1) (x::L.drop (p+1))) p=MR (left f (Wt.parts x).toNat L (p+1) 0):=by
 unfold left;simp only [Wt.one];rw [if_pos h];cases Wt.many (Wt.one f) (Wt.parts x).toNat (L.drop (p+1)) with
 | none=>rfl
 | some q =>
  obtain ⟨s,d⟩:=q;simp only [MP,MR];rw [show ((p+(s+1):Nat):Int)=((p+1+s:Nat):Int) by omega,show ((d+1:Nat):Int)=((max 0 d:Nat):Int)+1 by omega]
theorem one_not {x:Wt.Nd} (h:Wt.right x=false) (f:Nat) (r:List Wt.Nd):Wt.one (f+1) (x::r)=none:=by
 simp only [Wt.one];rw [if_neg (by rw [h];decide)]
theorem meas_any (av:Option Addr) (cap:Nat) (L:List Wt.Nd) (hL:L.length≤256) (hF:∀ x ∈ L,Wt.FitN x) (f:Nat):f≤1000→∀ (p:Nat) (w:World),L.length<f+p→p≤256→OpsAt w→RdN w av L →
  Calls Tryz.prog 30 #[.slice av L.length cap,.int .i64 p] w fun e w'=>e=.returned (MP (Wt.one f (L.drop p)) p)∧Below w.heap.size w w':=by
 have past:∀ (f p:Nat) (w:World),¬ p<L.length→p≤256→Calls Tryz.prog 30 #[.slice av L.length cap,.int .i64 p] w fun e w'=>e=.returned (MP (Wt.one f (L.drop p)) p)∧Below w.heap.size w w':=by
  intro f p w hlt hp;have hd:L.drop p=[]:=List.drop_eq_nil_of_le (by omega);have E:Hid (Wt.one f (L.drop p)=none):=by
   show _=_
   rw [hd];cases f <;> rfl
  rw [E.out];clear E hd;have hli:(L.length:Int)≤(p:Int):=by omega
  go_enter Tryz.func30,Tryz.ntmps30;go_wp2;go_ret3
  exact ⟨rfl,Below.refl _ _⟩
 induction f with
 | zero=>intro _ p w hf hp hO hr;exact past 0 p w (by omega) hp
 | succ f ih =>
  intro hf1 p w hf hp hO hr;by_cases hlt:p<L.length
  ·clear past;replace ih:=ih (by omega)
   obtain ⟨bb,off,rfl,hx⟩:=hr p hlt;have hd:=List.drop_eq_getElem_cons hlt;have hfit:=hF _ (List.getElem_mem hlt);have HR:Hid (RdN w (some ⟨bb,off,none⟩) L):=hr;clear hr;rw [hd];generalize L[p]=x at *;have C:=tright_any x w hfit hO;have hple:=@Wt.parts_le x;have hli:¬ (L.length:Int)≤(p:Int):=by omega
   cases hq:Wt.right x with
   | false =>
    rw [hq] at C;rw [one_not hq];clear ih;go_enter Tryz.func30,Tryz.ntmps30;go_wp2_with ((with_reducible refine wpList_load_want ?_ 45 (.tmp 17) ?_ bb (off+p * 20) ?_ (nd20 x) _ ?_ Tryz.underlying45 ?_ ?_ ?_);rfl;rfl;rfl;exact hx;rfl;kernel_rfl)
    refine C.mono ?_;rintro e w1 ⟨rfl,hb⟩;go_wp2;go_ret3
    exact ⟨rfl,hb⟩
   | true =>
    rw [hq] at C;obtain ⟨hk0,hk1⟩:=hple hq;rw [MP_left hq];clear hple hq;have D:=fun w=>tparts_any x w
    obtain ⟨k,hk⟩:∃ k:Nat,(Wt.parts x).toNat=k:=⟨_,rfl⟩
    have hkk:Wt.parts x=(k:Int):=by omega
    rw [hk];rw [hkk] at D;have hk2:k≤30:=by omega
    clear hk0 hk1 hk hkk;obtain ⟨R,hR⟩:∃ R,left f k L (p+1) 0=R:=⟨_,rfl⟩
    have E0:Hid (R=left f (k - 0) L (p+1) 0):=hR.symm;rw [hR];clear hR;have IH:Hid (∀ (p:Nat) (w:World),L.length<f+p→p≤256→OpsAt w→RdN w (some ⟨bb,off,none⟩) L→Calls Tryz.prog 30 #[.slice (some ⟨bb,off,none⟩) L.length cap,.int .i64 p] w fun e w'=>e=.returned (MP (Wt.one f (L.drop p)) p)∧Below w.heap.size w w'):=ih;clear ih;go_enter Tryz.func30,Tryz.ntmps30;go_wp2_with ((with_reducible refine wpList_load_want ?_ 45 (.tmp 17) ?_ bb (off+p * 20) ?_ (nd20 x) _ ?_ Tryz.underlying45 ?_ ?_ ?_);rfl;rfl;rfl;exact hx;rfl;kernel_rfl)
    refine C.mono ?_;rintro e w1 ⟨rfl,hb⟩;have hx1:w1.rangeAt bb (off+p * 20) (nd20 x):=fun j v hv=>cell_below hb (hx j v hv)
    have hO1:=hO.below hb;have HR1:Hid (RdN w1 (some ⟨bb,off,none⟩) L):=HR.out.below hb;clear C hx HR;go_wp2_with ((with_reducible refine wpList_load_want ?_ 45 (.tmp 26) ?_ bb (off+p * 20) ?_ (nd20 x) _ ?_ Tryz.underlying45 ?_ ?_ ?_);rfl;rfl;rfl;exact hx1;rfl;kernel_rfl)
    refine (D _).mono ?_;rintro e w2 ⟨rfl,hb2⟩;have hB2:=below_end hb hb2;have hO2:=hO1.below hb2;have HR2:Hid (RdN w2 (some ⟨bb,off,none⟩) L):=HR1.out.below hb2;clear hb hb2 hO1 HR1 D hx1 hfit;go_wp2_with fail
    go_loopg [4,5,29] k (fun gk a b c wr=>∃ j e d:Nat,a=.int .i64 e∧b=.int .i64 d∧c=.int .i64 j∧gk=k - j∧j≤k∧p+1≤e∧e≤L.length∧d≤f∧Hid (R=left f (k - j) L e d)∧Below w.heap.size w wr∧OpsAt wr∧Hid (RdN wr (some ⟨bb,off,none⟩) L))
    case atStart=>exact ⟨0,p+1,0,by simp,rfl,rfl,rfl,Nat.zero_le _,Nat.le_refl _,hlt,Nat.zero_le _,E0,hB2,hO2,HR2⟩
    case round =>
     obtain ⟨j,e,d,rfl,rfl,rfl,hg,hj,he1,he2,hdd,HE,hB,hO3,HR3⟩:=hrel;by_cases hjk:j<k
     ·have hji:(j:Int)<(k:Int):=by omega
      have M:=IH.out e wr (by omega) (by omega) hO3 HR3.out;have hkj:k - j=(k - (j+1))+1:=by omega
      rw [hkj] at HE;cases hone:Wt.one f (L.drop e) with
      | none =>
       have E:Hid (R=none):=by show _=_;rw [HE.out,left_none hone]
       rw [hone] at M;clear HE hone IH;go_wp2_with fail
       refine M.mono ?_;rintro e9 w3 ⟨rfl,hb⟩;have hB3:=below_end hB hb;simp only [MP];go_wp2;go_ret3
       exact ⟨by rw [E.out];rfl,hB3⟩
      | some q =>
       obtain ⟨s,d'⟩:=q;have h1:=one_le _ _ _ _ hone;have h2:=one_deep _ _ _ _ hone;rw [List.length_drop] at h1;have E:Hid (R=left f (k - (j+1)) L (e+s) (max d d')):=by show _=_;rw [HE.out,left_some hone]
       rw [hone] at M;clear HE hone IH;go_wp2_with fail
       refine M.mono ?_;rintro e9 w3 ⟨rfl,hb⟩;have hB3:=below_end hB hb;have hO4:=hO3.below hb;have HR4:Hid (RdN w3 (some ⟨bb,off,none⟩) L):=HR3.out.below hb;simp only [MP];go_wp2_with fail
       ·go_roundg (k - (j+1))
        case rel=>exact ⟨j+1,e+s,max d d',by simp,by simp;omega,by simp,rfl,hjk,by omega,by omega,by omega,E,hB3,hO4,HR4⟩
        case measure=>omega
       ·go_roundg (k - (j+1))
        case rel=>exact ⟨j+1,e+s,max d d',by simp,by simp;omega,by simp,rfl,hjk,by omega,by omega,by omega,E,hB3,hO4,HR4⟩
        case measure=>omega
     ·have hji:¬ (j:Int)<(k:Int):=by omega
      have E:Hid (R=some (e,d)):=by show _=_;rw [HE.out,show k - j=0 by omega,left_zero]
      clear HE IH;go_wp2;go_ret3
      exact ⟨by rw [E.out];rfl,hB⟩
  ·exact past (f+1) p w hlt hp
theorem check_any (av:Option Addr) (cap:Nat) (L:List Wt.Nd) (w:World) (hL:L.length≤9223372036854775807) (hF:∀ x ∈ L,Wt.FitN x) (hO:OpsAt w) (hr:RdN w av L) :
  Calls Tryz.prog 14 #[.slice av L.length cap] w fun e w'=>e=.returned (.int .i64 (Wt.check L))∧Below w.heap.size w w':=by
 unfold Wt.check;by_cases h:256<L.length
 ·rw [if_pos h];have hi:(256:Int)<(L.length:Int):=by omega
  go_enter Tryz.func14,Tryz.ntmps14;go_wp2;go_ret;exact ⟨rfl,Below.refl _ _⟩
 rw [if_neg h];have hi:¬ (256:Int)<(L.length:Int):=by omega
 have M:=meas_any av cap L (by omega) hF (L.length+1) (by omega) 0 w (by omega) (by omega) hO hr;rw [List.drop_zero] at M;have h1:=one_le (L.length+1) L;cases hone:Wt.one (L.length+1) L with
 | none =>
  rw [hone] at M;clear h1;go_enter Tryz.func14,Tryz.ntmps14;go_wp2_with fail
  refine M.mono ?_;rintro e w1 ⟨rfl,hb⟩;simp only [MP];go_wp2;go_ret;exact ⟨rfl,hb⟩
 | some q =>
  obtain ⟨s,d⟩:=q;rw [hone] at M;have h2:=one_deep _ _ _ _ hone;replace h1:=h1 s d hone
  simp only [MP,Nat.zero_add] at M;simp only;by_cases hs:s=L.length
  ·rw [if_neg (by omega)];have hsi:((s:Int) == (L.length:Int))=true:=by rw [beq_iff_eq];omega
   have hsi2:(s:Int)=(L.length:Int):=by omega
   by_cases hd:32<d
   ·rw [if_pos hd];have hdi:(32:Int)<(d:Int):=by omega
    go_enter Tryz.func14,Tryz.ntmps14;go_wp2_with fail
    refine M.mono ?_;rintro e w1 ⟨rfl,hb⟩;go_wp2;go_ret;exact ⟨rfl,hb⟩
   ·rw [if_neg hd];have hdi:¬ (32:Int)<(d:Int):=by omega
    go_enter Tryz.func14,Tryz.ntmps14;go_wp2_with fail
    refine M.mono ?_;rintro e w1 ⟨rfl,hb⟩;go_wp2;go_ret;exact ⟨rfl,hb⟩
  ·rw [if_pos hs];have hsi:((s:Int) == (L.length:Int))=false:=by rw [beq_eq_false_iff_ne];omega
   have hsi2:¬ (s:Int)=(L.length:Int):=by omega
   go_enter Tryz.func14,Tryz.ntmps14;go_wp2_with fail
   refine M.mono ?_;rintro e w1 ⟨rfl,hb⟩;go_wp2;go_ret;exact ⟨rfl,hb⟩
theorem begins_take (p:List UInt8):∀ l:List UInt8,Wlx.begins p l=(decide (p.length≤l.length) && (l.take p.length == p)):=by
 induction p with
 | nil=>intro l;simp [Wlx.begins]
 | cons a p ih =>
  intro l;cases l with
  | nil=>simp [Wlx.begins]
  | cons b t =>
   have e:((b::t).take (a::p).length == a::p)=(decide (a=b) && (t.take p.length == p)):=by
    simp only [List.length_cons,List.take_succ_cons];by_cases h:a=b
    ·subst h;simp
    ·have h2:¬ b=a:=fun e=>h e.symm
     simp [h,h2]
   rw [e];have e2:decide ((a::p).length≤(b::t).length)=decide (p.length≤t.length):=by simp
   rw [e2];show (decide (a=b) && Wlx.begins p t)=_
   rw [ih t];cases decide (a=b) <;> cases decide (p.length≤t.length) <;> rfl
theorem prefix_any (b p:ByteArray) (w:World) (hs:b.size≤9223372036854775807):Calls Tryz.prog 91 #[.string b,.string p] w fun e w'=>e=.returned (.bool (Wlx.begins p.data.toList b.data.toList))∧w=w':=by
 have E:Hid (Wlx.begins p.data.toList b.data.toList=(decide (p.size≤b.size) && ((b.extract 0 p.size).toList == p.toList))):=by
  show _=_
  rw [begins_take,Lib.extract_toList,Lib.toList_data];rfl
 by_cases h:p.size≤b.size
 ·have E2:Hid (Wlx.begins p.data.toList b.data.toList=((b.extract 0 p.size).toList == p.toList)):=by
   show _=_;rw [E.out,decide_eq_true h];rfl
  clear E;have h1:(p.size:Int)≤(b.size:Int):=by omega
  generalize Wlx.begins p.data.toList b.data.toList=r at *;go_enter Tryz.func91,Tryz.ntmps91;go_wp2;go_ret;exact ⟨by rw [E2.out];rfl,rfl⟩
 ·have E2:Hid (Wlx.begins p.data.toList b.data.toList=false):=by
   show _=_;rw [E.out,decide_eq_false h];rfl
  clear E;have h1:¬ (p.size:Int)≤(b.size:Int):=by omega
  generalize Wlx.begins p.data.toList b.data.toList=r at *;go_enter Tryz.func91,Tryz.ntmps91;go_wp2;go_ret;exact ⟨by rw [E2.out];rfl,rfl⟩
theorem hasPrefix_any (b p:ByteArray) (w:World) (hs:b.size≤9223372036854775807):Calls Tryz.prog 60 #[.string b,.string p] w fun e w'=>e=.returned (.bool (Wlx.begins p.data.toList b.data.toList))∧w=w':=by
 go_enter Tryz.func60,Tryz.ntmps60;go_wp2_with fail
 refine (prefix_any _ _ _ hs).mono ?_;rintro e w1 ⟨rfl,rfl⟩;go_wp2;go_ret;exact ⟨rfl,rfl⟩
theorem nameSize_any (b:ByteArray) (k:Nat) (ns:List (List UInt8)) (n:Nat) (w:World) (hs:b.size≤9223372036854775807) (hn:n=ns.length) (hn2:ns.length≤100) (hns:∀ x ∈ ns,x.length≤100)
  (hc:∀ i (h:i<ns.length),w.cell? ⟨k,i,none⟩=some (.string ⟨(ns[i]).toArray⟩)) :
  Calls Tryz.prog 58 #[.string b,.slice (some ⟨k,0,none⟩) n n] w fun e w'=>e=.returned (.int .i64 (Wlx.nameSz b.data.toList ns:Nat))∧w=w':=by
 subst hn;have HC:Hid (∀ i (h:i<ns.length),w.cell? ⟨k,i,none⟩=some (.string ⟨(ns[i]).toArray⟩)):=hc;clear hc;go_enter Tryz.func58,Tryz.ntmps58;go_wp2_with fail
 go_loopw [9] (fun x wr=>∃ i:Nat,x=.int .i64 i∧i≤ns.length∧Hid (Wlx.nameSz b.data.toList ns=Wlx.nameSz b.data.toList (ns.drop i))∧wr=w) (fun x _=>match x with | .int _ i=>ns.length - i.toNat | _=>0)
 case atStart=>exact ⟨0,rfl,Nat.zero_le _,(rfl:Wlx.nameSz b.data.toList ns=_),rfl⟩
 case round =>
  obtain ⟨i,rfl,hi,HR,rfl⟩:=hrel;by_cases hlt:i<ns.length
  ·have hli:(i:Int)<(ns.length:Int):=by omega
   have ci:=HC.out i hlt;obtain ⟨x,hx⟩:∃ x,ns[i]=x:=⟨_,rfl⟩
   have hxl:x.length≤100:=hns x (by rw [←hx];exact List.getElem_mem hlt);rw [hx] at ci;have E0:Hid (Wlx.nameSz b.data.toList ns=if Wlx.begins x b.data.toList then x.length else Wlx.nameSz b.data.toList (ns.drop (i+1))):=by
    show _=_
    rw [HR.out,List.drop_eq_getElem_cons hlt,hx];rfl
   clear HR hx;have HP:=hasPrefix_any b ⟨x.toArray⟩ wr hs;cases hbx:Wlx.begins x b.data.toList with
   | true =>
    have E:Hid (Wlx.nameSz b.data.toList ns=x.length):=by show _=_;rw [E0.out,if_pos hbx]
    have e1:Wlx.begins (⟨x.toArray⟩:ByteArray).data.toList b.data.toList=true:=by simpa using hbx
    rw [e1] at HP;clear E0 e1 hbx;go_wp2_with fail
    refine HP.mono ?_;rintro e w1 ⟨rfl,rfl⟩;go_wp2;go_ret;exact ⟨by rw [E.out];simp,rfl⟩
   | false =>
    have E:Hid (Wlx.nameSz b.data.toList ns=Wlx.nameSz b.data.toList (ns.drop (i+1))):=by show _=_;rw [E0.out,if_neg (by rw [hbx];decide)]
    have e1:Wlx.begins (⟨x.toArray⟩:ByteArray).data.toList b.data.toList=false:=by simpa using hbx
    rw [e1] at HP;clear E0 e1 hbx;go_wp2_with fail
    refine HP.mono ?_;rintro e w1 ⟨rfl,rfl⟩;go_wp2_with fail
    go_roundw
    case rel=>exact ⟨i+1,by simp,hlt,E,by first | trivial | rfl⟩
    case measure=>simp;omega
  ·have hli:¬ (i:Int)<(ns.length:Int):=by omega
   have E:Hid (Wlx.nameSz b.data.toList ns=0):=by
    show _=_;rw [HR.out,List.drop_eq_nil_of_le (by omega)];rfl
   clear HR;go_wp2;go_ret;exact ⟨by rw [E.out];rfl,rfl⟩
theorem ext_drop (b:ByteArray) (n:Nat):(b.extract n b.size).data.toList=b.data.toList.drop n:=by
 rw [Lib.extract_data];exact List.take_of_length_le (by rw [List.length_drop];exact Nat.le_refl _)
theorem begins_one (c:UInt8) (l:List UInt8):Wlx.begins [c] l=match l with | []=>false | d::_=>decide (c=d):=by
 cases l with
 | nil=>rfl
 | cons d t=>show (decide (c=d) && Wlx.begins [] t)=_;simp [Wlx.begins]
theorem numberSize_any (b:ByteArray) (w:World) (hs:b.size≤9223372036854775806):Calls Tryz.prog 55 #[.string b] w fun e w'=>e=.returned (.int .i64 (Wlx.numSz b.data.toList:Nat))∧Below w.heap.size w w':=by
 obtain ⟨n,hn⟩:∃ n,Wlx.runP Wlx.dig b.data.toList=n:=⟨_,rfl⟩
 have hle:n≤b.size:=by rw [←hn];exact Wlx.runP_le _ _
 have R1:=run_digit b w (by omega);rw [hn] at R1;have E0:Hid (Wlx.numSz b.data.toList=if n=0 then 0 else Wlx.numTl n (b.data.toList.drop n)):=by
  show _=_;unfold Wlx.numSz;rw [hn]
 clear hn;by_cases h0:n=0
 ·subst h0;have E:Hid (Wlx.numSz b.data.toList=0):=by show _=_;rw [E0.out,if_pos rfl]
  clear E0;go_enter Tryz.func55,Tryz.ntmps55;go_wp2_with fail
  refine R1.mono ?_;rintro e w1 ⟨rfl,hb1⟩;go_wp2;go_ret;exact ⟨by rw [E.out];rfl,hb1⟩
 ·have hn0:((n:Int) == 0)=false:=beq_eq_false_iff_ne.2 (by omega);have c1:(n:Int)≤(b.size:Int):=by omega
  have c0:(0:Int)≤(n:Int):=by omega
  have HP:=fun w=>hasPrefix_any (b.extract n b.size) ⟨#[46]⟩ w (by rw [ByteArray.size_extract];omega)
  rw [ext_drop,begins_one] at HP;cases hd:b.data.toList.drop n with
  | nil =>
   have E:Hid (Wlx.numSz b.data.toList=n):=by show _=_;rw [E0.out,if_neg h0,hd];rfl
   simp only [hd] at HP;clear E0 hd;go_enter Tryz.func55,Tryz.ntmps55;go_wp2_with fail
   refine R1.mono ?_;rintro e w1 ⟨rfl,hb1⟩;go_wp2_with fail
   refine (HP _).mono ?_;rintro e w2 ⟨rfl,rfl⟩;go_wp2;go_ret;exact ⟨by rw [E.out];rfl,hb1⟩
  | cons c t =>
   simp only [hd] at HP;by_cases hc:c=46
   ·subst hc;have hsz:n+1+t.length=b.size:=by
     have:=congrArg List.length hd;simp only [List.length_drop,List.length_cons] at this;have e:b.data.toList.length=b.size:=rfl;omega
    have c2:(n:Int)+1≤(b.size:Int):=by omega
    have R2:=fun w=>run_digit (b.extract (n+1) b.size) w (by rw [ByteArray.size_extract];omega)
    have e2:b.data.toList.drop (n+1)=t:=by rw [show n+1=n+1 from rfl,←List.drop_drop,hd];rfl
    rw [ext_drop,e2] at R2;obtain ⟨m,hm⟩:∃ m,Wlx.runP Wlx.dig t=m:=⟨_,rfl⟩
    have hml:m≤t.length:=by rw [←hm];exact Wlx.runP_le _ _
    rw [hm] at R2;by_cases h1:0<m
    ·have E:Hid (Wlx.numSz b.data.toList=n+1+m):=by show _=_;rw [E0.out,if_neg h0,hd];rw [Wlx.numTl_cons,hm,if_pos ⟨rfl,h1⟩]
     have h1i:(0:Int)<(m:Int):=by omega
     clear E0 hd e2 hm;go_enter Tryz.func55,Tryz.ntmps55;go_wp2_with fail
     refine R1.mono ?_;rintro e w1 ⟨rfl,hb1⟩;go_wp2_with fail
     refine (HP _).mono ?_;rintro e w2 ⟨rfl,rfl⟩;go_wp2_with fail
     refine (R2 _).mono ?_;rintro e w2 ⟨rfl,hb2⟩;go_wp2;go_ret;exact ⟨by rw [E.out];exact x3_ret_int (by omega),hb1.trans (hb2.mono hb1.size)⟩
    ·have E:Hid (Wlx.numSz b.data.toList=n):=by show _=_;rw [E0.out,if_neg h0,hd];rw [Wlx.numTl_cons,hm,if_neg (fun h=>h1 h.2)]
     have h1i:¬ (0:Int)<(m:Int):=by omega
     clear E0 hd e2 hm;go_enter Tryz.func55,Tryz.ntmps55;go_wp2_with fail
     refine R1.mono ?_;rintro e w1 ⟨rfl,hb1⟩;go_wp2_with fail
     refine (HP _).mono ?_;rintro e w2 ⟨rfl,rfl⟩;go_wp2_with fail
     refine (R2 _).mono ?_;rintro e w2 ⟨rfl,hb2⟩;go_wp2;go_ret;exact ⟨by rw [E.out];rfl,hb1.trans (hb2.mono hb1.size)⟩
   ·have hc':¬ (46:UInt8)=c:=fun e=>hc e.symm
    rw [decide_eq_false hc'] at HP;have E:Hid (Wlx.numSz b.data.toList=n):=by show _=_;rw [E0.out,if_neg h0,hd];rw [Wlx.numTl_cons,if_neg (fun h=>hc h.1)]
    clear E0 hd hc hc';go_enter Tryz.func55,Tryz.ntmps55;go_wp2_with fail
    refine R1.mono ?_;rintro e w1 ⟨rfl,hb1⟩;go_wp2_with fail
    refine (HP _).mono ?_;rintro e w2 ⟨rfl,rfl⟩;go_wp2;go_ret;exact ⟨by rw [E.out];rfl,hb1⟩
theorem quo_hit (w:Bool) (i:Nat) (t:List UInt8):Wlx.quo w i (34::t)=Wlx.quo (!w) (i+1) t:=by
 conv=>lhs;unfold Wlx.quo
 rw [if_pos rfl]
theorem quo_in {c:UInt8} (h:¬ c=34) (i:Nat) (t:List UInt8):Wlx.quo true i (c::t)=Wlx.quo true (i+1) t:=by
 conv=>lhs;unfold Wlx.quo
 rw [if_neg h,if_pos rfl]
theorem quo_out {c:UInt8} (h:¬ c=34) (i:Nat) (t:List UInt8):Wlx.quo false i (c::t)=i:=by
 conv=>lhs;unfold Wlx.quo
 rw [if_neg h,if_neg (by decide)]
theorem wide_bytes (b:ByteArray) (i:Nat) (h:i<b.size) (hc:128≤(b[i]).toNat):1≤(Utf8.decode b i).2∧i+(Utf8.decode b i).2≤b.size∧∀ j,i≤j→(hj:j<b.size)→j<i+(Utf8.decode b i).2→128≤(b[j]).toNat:=by
 have g:∀ k (hk:i+k<b.size),(b.get! (i+k))=b[i+k]:=by
  intro k hk;simp [ByteArray.get!,getElem!_pos,hk];rfl
 have g0:=g 0 h;have hn:¬ (b[i+0]).toNat<128:=by simpa using hc
 have one:i+1≤b.size∧∀ j,i≤j→(hj:j<b.size)→j<i+1→128≤(b[j]).toNat:=⟨h,fun j h1 h2 h3=>by
  obtain rfl:j=i:=by omega
  exact hc⟩
 have two:∀ k,(decide (i+k<b.size) && (b.get! (i+k)).toNat / 64 == 2)=true→∃ hk:i+k<b.size,128≤(b[i+k]).toNat:=by
  intro k hk;simp only [Bool.and_eq_true,decide_eq_true_eq,beq_iff_eq] at hk;obtain ⟨h1,h2⟩:=hk;rw [g k h1] at h2;exact ⟨h1,by omega⟩
 simp only [Utf8.decode,g0,hn,if_false];split
 ·rename_i c1
  simp only [Bool.and_eq_true] at c1;obtain ⟨k1,b1⟩:=two 1 (by simpa using c1.2);split
  ·refine ⟨by omega,by omega,fun j h1 h2 h3=>?_⟩;have:j=i ∨ j=i+1:=by omega
   rcases this with rfl | rfl
   ·exact hc
   ·exact b1
  ·exact ⟨by omega,one⟩
 ·split
  ·rename_i c1
   simp only [Bool.and_eq_true] at c1;obtain ⟨k1,b1⟩:=two 1 (by simpa using c1.1.2);obtain ⟨k2,b2⟩:=two 2 (by simpa using c1.2);split
   ·refine ⟨by omega,by omega,fun j h1 h2 h3=>?_⟩;have:j=i ∨ j=i+1 ∨ j=i+2:=by omega
    rcases this with rfl | rfl | rfl
    ·exact hc
    ·exact b1
    ·exact b2
   ·exact ⟨by omega,one⟩
  ·split
   ·rename_i c1
    simp only [Bool.and_eq_true] at c1;obtain ⟨k1,b1⟩:=two 1 (by simpa using c1.1.1.2);obtain ⟨k2,b2⟩:=two 2 (by simpa using c1.1.2);obtain ⟨k3,b3⟩:=two 3 (by simpa using c1.2);split
    ·refine ⟨by omega,by omega,fun j h1 h2 h3=>?_⟩;have:j=i ∨ j=i+1 ∨ j=i+2 ∨ j=i+3:=by omega
     rcases this with rfl | rfl | rfl | rfl
     ·exact hc
     ·exact b1
     ·exact b2
     ·exact b3
    ·exact ⟨by omega,one⟩
   ·exact ⟨by omega,one⟩
theorem quo_skip (b:ByteArray) (i:Nat):∀ n,i+n≤b.size→(∀ j,i≤j→(hj:j<b.size)→j<i+n→¬ b[j]=34)→Wlx.quo true i (b.data.toList.drop i)=Wlx.quo true (i+n) (b.data.toList.drop (i+n)):=by
 intro n;induction n with
 | zero=>intro _ _;rfl
 | succ n ih =>
  intro h1 h2;rw [ih (by omega) (fun j a b c=>h2 j a b (by omega)),drop_at b (i+n) (by omega),quo_in (h2 (i+n) (by omega) (by omega) (by omega))];rfl
theorem textSize_any (b:ByteArray) (w:World) (hs:b.size≤9223372036854775806):Calls Tryz.prog 56 #[.string b] w fun e w'=>e=.returned (.int .i64 (Wlx.txtSz b.data.toList:Nat))∧Below w.heap.size w w':=by
 have HP:=hasPrefix_any b ⟨#[34]⟩ w (by omega);rw [begins_one] at HP;cases hl:b.data.toList with
 | nil =>
  simp only [hl] at HP;go_enter Tryz.func56,Tryz.ntmps56;go_wp2_with fail
  refine HP.mono ?_;rintro e w1 ⟨rfl,rfl⟩;go_wp2;go_ret;exact ⟨rfl,Below.refl _ _⟩
 | cons c t =>
  simp only [hl] at HP;by_cases hc:c=34
  ·subst hc;have E0:Hid (Wlx.txtSz (34::t)=Wlx.quo false 0 (b.data.toList)):=by
    show _=_;rw [hl,quo_hit];rfl
   obtain ⟨R,hR⟩:∃ R,Wlx.txtSz (34::t)=R:=⟨_,rfl⟩
   rw [hR] at E0 ⊢;clear hl hR;go_enter Tryz.func56,Tryz.ntmps56;go_wp2_with fail
   refine HP.mono ?_;rintro e w1 ⟨rfl,rfl⟩;go_wp2_with fail
   go_loopw [3] (fun x wr=>∃ (q:Bool) (pos:Nat),x=.bool q∧pos≤b.size∧wr.heap[w.heap.size]? = some (.stringIter b pos)∧Hid (R=Wlx.quo q pos (b.data.toList.drop pos))∧Below w.heap.size w wr) (fun _ wr=>b.size - wr.iterPos w.heap.size)
   case atStart=>exact ⟨false,0,rfl,Nat.zero_le _,World.iter_heap w b 0,E0,(Below.refl _ w).alloc (Nat.le_refl _) _⟩
   case round =>
    obtain ⟨q,pos,rfl,hp,hit,HR,hb⟩:=hrel;by_cases hlt:pos<b.size
    ·have nx:=fun ty=>Lib.run_next_any_at (P:=Tryz.prog) wr w.heap.size b pos ty hit hlt
     have hk2:=fun q=>Lib.iterAt_heap wr w.heap.size b pos q hit
     have hb2:=fun q=>Lib.below_iterAt hb (Nat.le_refl w.heap.size) b q
     have hm:wr.iterPos w.heap.size=pos:=by simp [World.iterPos,hit]
     obtain ⟨rv,hrv⟩:∃ rv:Nat,(Utf8.decode b pos).1=rv:=⟨_,rfl⟩
     obtain ⟨n,hn⟩:∃ n:Nat,(Utf8.decode b pos).2=n:=⟨_,rfl⟩
     have hm2:(wr.iterAt w.heap.size b (pos+n)).iterPos w.heap.size=pos+n:=by simp [World.iterPos,hk2]
     have facts:1≤n∧pos+n≤b.size∧(((rv:Int) == 34)=true→b[pos]=34∧n=1)∧(((rv:Int) == 34)=false→∀ j,pos≤j→(hj:j<b.size)→j<pos+n→¬ b[j]=34):=by
      rcases rune_at b pos hlt with ⟨h1,e⟩ | ⟨h1,e⟩
      ·rw [e] at hrv hn;simp only at hrv hn;subst hn hrv;refine ⟨Nat.le_refl _,hlt,fun h=>⟨UInt8.toNat_inj.1 (by have:=beq_iff_eq.1 h;show _=34;omega),rfl⟩,fun h j a1 a2 a3=>?_⟩;obtain rfl:j=pos:=by omega
       intro h2;rw [h2] at h;exact absurd h (by decide)
      ·obtain ⟨w1,w2,w3⟩:=wide_bytes b pos hlt h1;rw [hn] at w1 w2 w3;rw [hrv] at e;refine ⟨w1,w2,fun h=>by have:=beq_iff_eq.1 h;omega,fun h j a1 a2 a3 h2=>?_⟩;have:=w3 j a1 a2 a3;rw [h2] at this;exact absurd this (by decide)
     obtain ⟨f1,f2,f3,f4⟩:=facts;rw [hrv,hn] at nx;have hi:=hk2 (pos+n);have hbb:=hb2 (pos+n);clear hk2 hb2 hrv hn;cases h34:((rv:Int) == 34) with
     | true =>
      obtain ⟨e34,rfl⟩:=f3 h34;have E:Hid (R=Wlx.quo (!q) (pos+1) (b.data.toList.drop (pos+1))):=by
       show _=_;rw [HR.out,drop_at b pos hlt,e34,quo_hit]
      clear HR f3 f4 e34;go_wp2_with fail
      go_roundw
      case rel=>exact ⟨!q,pos+1,rfl,f2,hi,E,hbb⟩
      case measure=>rw [hm,hm2];omega
     | false =>
      cases q with
      | true =>
       have E:Hid (R=Wlx.quo true (pos+n) (b.data.toList.drop (pos+n))):=by
        show _=_;rw [HR.out,quo_skip b pos n f2 (f4 h34)]
       clear HR f3 f4;go_wp2_with fail
       go_roundw
       case rel=>exact ⟨true,pos+n,rfl,f2,hi,E,hbb⟩
       case measure=>rw [hm,hm2];omega
      | false =>
       have E:Hid (R=pos):=by
        show _=_;rw [HR.out,drop_at b pos hlt,quo_out (f4 h34 pos (Nat.le_refl _) hlt (by omega))]
       clear HR f3 f4;go_wp2;go_ret;exact ⟨by rw [E.out];rfl,hbb⟩
    ·have nx:=fun ty=>Lib.run_next_end_at (P:=Tryz.prog) wr w.heap.size b pos ty hit hlt
     obtain rfl:pos=b.size:=by omega
     have E:Hid (R=if q then 0 else b.size):=by
      show _=_
      rw [HR.out,drop_end b _ hlt];rfl
     clear HR;cases q with
     | true =>
      have E2:Hid (R=0):=by show _=_;rw [E.out];rfl
      clear E;go_wp2;go_ret;exact ⟨by rw [E2.out];rfl,hb⟩
     | false =>
      have E2:Hid (R=b.size):=by show _=_;rw [E.out];rfl
      clear E;go_wp2;go_ret;exact ⟨by rw [E2.out];rfl,hb⟩
  ·have hc':¬ (34:UInt8)=c:=fun e=>hc e.symm
   rw [decide_eq_false hc'] at HP;have E:Hid (Wlx.txtSz (c::t)=0):=by show (if c=34 then _ else 0)=0;rw [if_neg hc]
   clear hl hc hc';go_enter Tryz.func56,Tryz.ntmps56;go_wp2_with fail
   refine HP.mono ?_;rintro e w1 ⟨rfl,rfl⟩;go_wp2;go_ret;exact ⟨by rw [E.out];rfl,Below.refl _ _⟩
def strs (ns:List (List UInt8)):List Value:=ns.map fun n=>.string ⟨n.toArray⟩
theorem nameSize_new (b:ByteArray) (ns:List (List UInt8)) (n:Nat) (w W:World) (t:TypeId) (o:Obj) (hW:W=w.alloc o) (ho:o=.cells (strs ns).toArray t) (hs:b.size≤9223372036854775807) (hn:n=ns.length) (hn2:ns.length≤100) (hns:∀ x ∈ ns,x.length≤100) :
  Calls Tryz.prog 58 #[.string b,.slice (some ⟨w.heap.size,0,none⟩) n n] W fun e w'=>e=.returned (.int .i64 (Wlx.nameSz b.data.toList ns:Nat))∧Below w.heap.size w w':=by
 subst hW ho;refine (nameSize_any b w.heap.size ns n _ hs hn hn2 hns (fun i h=>?_)).mono ?_
 ·exact (AtL.new0 w t (strs ns)).2.1 i _ (by unfold strs;simp [h])
 ·rintro e w1 ⟨rfl,rfl⟩;exact ⟨rfl,(Below.refl _ w).alloc (Nat.le_refl _) _⟩
theorem x4_size_any (k:Nat) (b:ByteArray) (w:World) (hs:b.size≤9223372036854775806) (hk:1≤k) (hk2:k≤5):Calls Tryz.prog 34 #[.int .i64 k,.string b] w fun e w'=>e=.returned (.int .i64 (Wlx.sz k b.data.toList:Nat))∧Below w.heap.size w w':=by
 have:k=1 ∨ k=2 ∨ k=3 ∨ k=4 ∨ k=5:=by omega
 rcases this with rfl | rfl | rfl | rfl | rfl
 ·go_enter Tryz.func34,Tryz.ntmps34;go_wp2_with fail
  refine (numberSize_any _ _ hs).mono ?_;rintro e w1 ⟨rfl,hb⟩;go_wp2;go_ret;exact ⟨rfl,hb⟩
 ·go_enter Tryz.func34,Tryz.ntmps34;go_wp2_with fail
  refine (textSize_any _ _ hs).mono ?_;rintro e w1 ⟨rfl,hb⟩;go_wp2;go_ret;exact ⟨rfl,hb⟩
 ·go_enter Tryz.func34,Tryz.ntmps34;go_wp2_with fail
  refine (run_word _ _ (by omega)).mono ?_;rintro e w1 ⟨rfl,hb⟩;go_wp2;go_ret;exact ⟨rfl,hb⟩
 ·go_enter Tryz.func34,Tryz.ntmps34;go_wp2_with fail
  refine (nameSize_new _ Wlx.faults 8 _ _ 9 _ rfl rfl (by omega) rfl (by decide) (by decide)).mono ?_;rintro e w1 ⟨rfl,hb⟩;go_wp2;go_ret;exact ⟨rfl,hb⟩
 ·go_enter Tryz.func34,Tryz.ntmps34;go_wp2_with fail
  refine (nameSize_new _ Wlx.marks 18 _ _ 9 _ rfl rfl (by omega) rfl (by decide) (by decide)).mono ?_;rintro e w1 ⟨rfl,hb⟩;go_wp2;go_ret;exact ⟨rfl,hb⟩
end Go.Proofs.YtlggnpohhahdlaaGreatDoor
