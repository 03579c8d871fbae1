/- TRefF, TQKit, TQApp. -/
import Derived.Test.YtlggnpohhahdlaaGreatDoorQ32
import Derived.BigQuiet
import Derived.Deep.QuietTactic
set_option maxHeartbeats 4000000
set_option maxRecDepth 100000
namespace Go.Proofs.YtlggnpohhahdlaaGreatDoor
open Go.RowKit
set_option linter.unusedVariables false
theorem opK_none {o:Int} (h21:¬ o=21) (h22:¬ o=22) (h23:¬ o=23) (h24:¬ o=24) (h25:¬ o=25) (h26:¬ o=26) (h16:¬ o=16) (h11:¬ o=11) (h12:¬ o=12) (h13:¬ o=13) (h14:¬ o=14) (h15:¬ o=15) (h1:¬ o=1) (h2:¬ o=2) (h3:¬ o=3):opK o=0:=by
 have e:Wt.opOf o=none:=by
  unfold Wt.opOf;rw [List.find?_eq_none];intro x hx;simp only [Wt.opsT,List.mem_cons,List.not_mem_nil,or_false] at hx;rcases hx with rfl | rfl | rfl | rfl | rfl | rfl | rfl | rfl | rfl | rfl | rfl | rfl | rfl | rfl | rfl <;> simp only [beq_iff_eq] <;> omega
 unfold opK;rw [e]
theorem opK_un (o:Int):(opK o == 4)=isUnB o:=by
 by_cases h21:o=21
 ·subst h21;rfl
 by_cases h22:o=22
 ·subst h22;rfl
 by_cases h23:o=23
 ·subst h23;rfl
 by_cases h24:o=24
 ·subst h24;rfl
 by_cases h25:o=25
 ·subst h25;rfl
 by_cases h26:o=26
 ·subst h26;rfl
 by_cases h16:o=16
 ·subst h16;rfl
 by_cases h11:o=11
 ·subst h11;rfl
 by_cases h12:o=12
 ·subst h12;rfl
 by_cases h13:o=13
 ·subst h13;rfl
 by_cases h14:o=14
 ·subst h14;rfl
 by_cases h15:o=15
 ·subst h15;rfl
 by_cases h1:o=1
 ·subst h1;rfl
 by_cases h2:o=2
 ·subst h2;rfl
 by_cases h3:o=3
 ·subst h3;rfl
 rw [opK_none h21 h22 h23 h24 h25 h26 h16 h11 h12 h13 h14 h15 h1 h2 h3];simp [isUnB,h1,h2,h3]
theorem opK_bin (o:Int):(opK o == 5)=Wt.isBin o:=by
 by_cases h21:o=21
 ·subst h21;rfl
 by_cases h22:o=22
 ·subst h22;rfl
 by_cases h23:o=23
 ·subst h23;rfl
 by_cases h24:o=24
 ·subst h24;rfl
 by_cases h25:o=25
 ·subst h25;rfl
 by_cases h26:o=26
 ·subst h26;rfl
 by_cases h16:o=16
 ·subst h16;rfl
 by_cases h11:o=11
 ·subst h11;rfl
 by_cases h12:o=12
 ·subst h12;rfl
 by_cases h13:o=13
 ·subst h13;rfl
 by_cases h14:o=14
 ·subst h14;rfl
 by_cases h15:o=15
 ·subst h15;rfl
 by_cases h1:o=1
 ·subst h1;rfl
 by_cases h2:o=2
 ·subst h2;rfl
 by_cases h3:o=3
 ·subst h3;rfl
 rw [opK_none h21 h22 h23 h24 h25 h26 h16 h11 h12 h13 h14 h15 h1 h2 h3];unfold Wt.isBin;have e1:(decide (11≤o) && decide (o≤16))=false:=by
  rw [Bool.and_eq_false_iff,decide_eq_false_iff_not,decide_eq_false_iff_not];omega
 have e2:(decide (21≤o) && decide (o≤26))=false:=by
  rw [Bool.and_eq_false_iff,decide_eq_false_iff_not,decide_eq_false_iff_not];omega
 rw [e1,e2];rfl
theorem rnode_n (x:Wt.Nd) (w:World) (h1:(x.k == 1)=false) (h2:(x.k == 2)=false) (h3:(x.k == 3)=false) (h4:(x.k == 4)=false) (h5:(x.k == 5)=false) (h6:(x.k == 6)=false) :
  Calls Tryz.prog 54 #[ndV x] w fun e w'=>e=.returned (.tuple #[.int .i64 0,.bool false])∧Below w.heap.size w w':=by
 obtain ⟨k,hk⟩:∃ k,x.k=k:=⟨_,rfl⟩
 rw [hk] at h1 h2 h3 h4 h5 h6;have pA:AtL (w.alloc (.cells (nd20 x).toArray 45)) w.heap.size (nd20 x):=AtL.new0 w _ _;have hBa:Below w.heap.size w (w.alloc (.cells (nd20 x).toArray 45)):=ball (Below.refl _ w) _;show Calls _ _ #[.agg (nd20 x).toArray] _ _
 go_enter Tryz.func54,Tryz.ntmps54;go_upto_region 1 with fail
 generalize (w.alloc (.cells (nd20 x).toArray 45))=W0 at *;have a0:W0.cell? ⟨w.heap.size,0,none⟩=some (.int .i64 k):=by rw [←hk];exact pA.2.1 0 _ rfl
 go_wp2;go_ret2
 exact ⟨rfl,hBa⟩
theorem rnode_any (x:Wt.Nd) (w:World) (hf:Wt.FitN x):Calls Tryz.prog 54 #[ndV x] w fun e w'=>e=.returned (.tuple #[.int .i64 (nps x),.bool (Wt.right x)])∧Below w.heap.size w w':=by
 obtain ⟨f1,f6,f7,f8⟩:=hf;unfold Wt.right nps;by_cases h1:x.k=1
 ·rw [if_pos h1,if_neg (by omega),if_neg (by omega),if_neg (by omega)];exact rnode_1 x w h1 f1
 rw [if_neg h1];by_cases h2:x.k=2
 ·rw [if_pos h2,if_neg (by omega),if_neg (by omega),if_neg (by omega)];exact rnode_2 x w h2 f7
 rw [if_neg h2];by_cases h3:x.k=3
 ·rw [if_pos h3,if_neg (by omega),if_neg (by omega),if_neg (by omega)];exact rnode_3 x w h3 f7 f8
 rw [if_neg h3];by_cases h4:x.k=4
 ·rw [if_pos h4,if_pos h4,opK_un];exact rnode_4 x w h4
 rw [if_neg h4,if_neg h4];by_cases h5:x.k=5
 ·rw [if_pos h5,if_pos h5,opK_bin];exact rnode_5 x w h5
 rw [if_neg h5,if_neg h5];by_cases h6:x.k=6
 ·rw [if_pos h6,if_pos h6];exact rnode_6 x w h6 f6
 rw [if_neg h6,if_neg h6];exact rnode_n x w (by simp [h1]) (by simp [h2]) (by simp [h3]) (by simp [h4]) (by simp [h5]) (by simp [h6])
theorem rend_any (av:Option Addr) (cap:Nat) (L:List Wt.Nd) (hL:L.length≤256) (hF:∀ x ∈ L,Wt.FitN x) (f:Nat):f≤1000→∀ (p:Nat) (w:World),L.length<f+p→p≤256→RdN w av L →
  Calls Tryz.prog 31 #[.slice av L.length cap,.int .i64 p] w fun e w'=>e=.returned (MP (Wt.one f (L.drop p)) p)∧Below w.heap.size w w':=by
 have past:∀ (f p:Nat) (w:World),¬ p<L.length→p≤256→Calls Tryz.prog 31 #[.slice av L.length cap,.int .i64 p] w fun e w'=>e=.returned (MP (Wt.one f (L.drop p)) p)∧Below w.heap.size w w':=by
  intro f p w hlt hp;have hd:L.drop p=[]:=List.drop_eq_nil_of_le (by omega);have E:Hid (Wt.one f (L.drop p)=none):=by
   show _=_
   rw [hd];cases f <;> rfl
  rw [E.out];clear E hd;have hli:(L.length:Int)≤(p:Int):=by omega
  go_enter Tryz.func31,Tryz.ntmps31;go_wp2;go_ret3
  exact ⟨rfl,Below.refl _ _⟩
 induction f with
 | zero=>intro _ p w hf hp hr;exact past 0 p w (by omega) hp
 | succ f ih =>
  intro hf1 p w hf hp hr;by_cases hlt:p<L.length
  ·clear past;replace ih:=ih (by omega)
   obtain ⟨bb,off,rfl,hx⟩:=hr p hlt;have hd:=List.drop_eq_getElem_cons hlt;have hfit:=hF _ (List.getElem_mem hlt);have HR:Hid (RdN w (some ⟨bb,off,none⟩) L):=hr;clear hr;rw [hd];generalize L[p]=x at *;have C:=rnode_any x w hfit;have hple:=@Wt.parts_le x;have hnp:=@nps_parts x;have hli:¬ (L.length:Int)≤(p:Int):=by omega
   cases hq:Wt.right x with
   | false =>
    rw [hq] at C;rw [one_not hq];generalize nps x=np at *;clear ih hnp hple;go_enter Tryz.func31,Tryz.ntmps31;go_wp2_with ((with_reducible refine wpList_load_want ?_ 45 (.tmp 21) ?_ bb (off+p * 20) ?_ (nd20 x) _ ?_ Tryz.underlying45 ?_ ?_ ?_);rfl;rfl;rfl;exact hx;rfl;kernel_rfl)
    refine C.mono ?_;rintro e w1 ⟨rfl,hb⟩;go_wp2;go_ret3
    exact ⟨rfl,hb⟩
   | true =>
    rw [hq] at C;obtain ⟨hk0,hk1⟩:=hple hq;rw [MP_left hq];rw [hnp hq] at C;clear hple hq hnp;obtain ⟨k,hk⟩:∃ k:Nat,(Wt.parts x).toNat=k:=⟨_,rfl⟩
    have hkk:Wt.parts x=(k:Int):=by omega
    rw [hk];rw [hkk] at C;have hk2:k≤30:=by omega
    clear hk0 hk1 hk hkk;obtain ⟨R,hR⟩:∃ R,left f k L (p+1) 0=R:=⟨_,rfl⟩
    have E0:Hid (R=left f (k - 0) L (p+1) 0):=hR.symm;rw [hR];clear hR;have IH:Hid (∀ (p:Nat) (w:World),L.length<f+p→p≤256→RdN w (some ⟨bb,off,none⟩) L→Calls Tryz.prog 31 #[.slice (some ⟨bb,off,none⟩) L.length cap,.int .i64 p] w fun e w'=>e=.returned (MP (Wt.one f (L.drop p)) p)∧Below w.heap.size w w'):=ih;clear ih;go_enter Tryz.func31,Tryz.ntmps31;go_wp2_with ((with_reducible refine wpList_load_want ?_ 45 (.tmp 21) ?_ bb (off+p * 20) ?_ (nd20 x) _ ?_ Tryz.underlying45 ?_ ?_ ?_);rfl;rfl;rfl;exact hx;rfl;kernel_rfl)
    refine C.mono ?_;rintro e w2 ⟨rfl,hB2⟩;have HR2:Hid (RdN w2 (some ⟨bb,off,none⟩) L):=HR.out.below hB2;clear C hx HR hfit;go_wp2_with fail
    go_loopg [1,9,10] k (fun gk a b c wr=>∃ j e d:Nat,a=.int .i64 e∧b=.int .i64 d∧c=.int .i64 j∧gk=k - j∧j≤k∧p+1≤e∧e≤L.length∧d≤f∧Hid (R=left f (k - j) L e d)∧Below w.heap.size w wr∧Hid (RdN wr (some ⟨bb,off,none⟩) L))
    case atStart=>exact ⟨0,p+1,0,by simp,rfl,rfl,rfl,Nat.zero_le _,Nat.le_refl _,hlt,Nat.zero_le _,E0,hB2,HR2⟩
    case round =>
     obtain ⟨j,e,d,rfl,rfl,rfl,hg,hj,he1,he2,hdd,HE,hB,HR3⟩:=hrel;by_cases hjk:j<k
     ·have hji:(j:Int)<(k:Int):=by omega
      have M:=IH.out e wr (by omega) (by omega) HR3.out;have hkj:k - j=(k - (j+1))+1:=by omega
      rw [hkj] at HE;cases hone:Wt.one f (L.drop e) with
      | none =>
       have E:Hid (R=none):=by show _=_;rw [HE.out,left_none hone]
       rw [hone] at M;clear HE hone IH;go_wp2_with fail
       refine M.mono ?_;rintro e9 w3 ⟨rfl,hb⟩;have hB3:=below_end hB hb;simp only [MP];go_wp2;go_ret3
       exact ⟨by rw [E.out];rfl,hB3⟩
      | some q =>
       obtain ⟨s,d'⟩:=q;have h1:=one_le _ _ _ _ hone;have h2:=one_deep _ _ _ _ hone;rw [List.length_drop] at h1;have E:Hid (R=left f (k - (j+1)) L (e+s) (max d d')):=by show _=_;rw [HE.out,left_some hone]
       rw [hone] at M;clear HE hone IH;go_wp2_with fail
       refine M.mono ?_;rintro e9 w3 ⟨rfl,hb⟩;have hB3:=below_end hB hb;have HR4:Hid (RdN w3 (some ⟨bb,off,none⟩) L):=HR3.out.below hb;simp only [MP];go_wp2_with fail
       all_goals
        go_roundg (k - (j+1))
        case rel=>exact ⟨j+1,e+s,max d d',by simp,by first | (simp;done) | (simp;omega),by simp,rfl,hjk,by omega,by omega,by omega,E,hB3,HR4⟩
        case measure=>omega
     ·have hji:¬ (j:Int)<(k:Int):=by omega
      have E:Hid (R=some (e,d)):=by show _=_;rw [HE.out,show k - j=0 by omega,left_zero]
      clear HE IH;go_wp2;go_ret3
      exact ⟨by rw [E.out];rfl,hB⟩
  ·exact past (f+1) p w hlt hp
theorem rcheck_any (av:Option Addr) (cap:Nat) (L:List Wt.Nd) (w:World) (hL:L.length≤9223372036854775807) (hF:∀ x ∈ L,Wt.FitN x) (hr:RdN w av L) :
  Calls Tryz.prog 15 #[.slice av L.length cap] w fun e w'=>e=.returned (.int .i64 (Wt.check L))∧Below w.heap.size w w':=by
 unfold Wt.check;by_cases h:256<L.length
 ·rw [if_pos h];have hi:(256:Int)<(L.length:Int):=by omega
  go_enter Tryz.func15,Tryz.ntmps15;go_wp2;go_ret;exact ⟨rfl,Below.refl _ _⟩
 rw [if_neg h];have hi:¬ (256:Int)<(L.length:Int):=by omega
 have M:=rend_any av cap L (by omega) hF (L.length+1) (by omega) 0 w (by omega) (by omega) hr;rw [List.drop_zero] at M;have h1:=one_le (L.length+1) L;cases hone:Wt.one (L.length+1) L with
 | none =>
  rw [hone] at M;clear h1;go_enter Tryz.func15,Tryz.ntmps15;go_wp2_with fail
  refine M.mono ?_;rintro e w1 ⟨rfl,hb⟩;simp only [MP];go_wp2;go_ret;exact ⟨rfl,hb⟩
 | some q =>
  obtain ⟨s,d⟩:=q;rw [hone] at M;have h2:=one_deep _ _ _ _ hone;replace h1:=h1 s d hone
  simp only [MP,Nat.zero_add] at M;simp only;by_cases hs:s=L.length
  ·rw [if_neg (by omega)];have hsi:((s:Int) == (L.length:Int))=true:=by rw [beq_iff_eq];omega
   have hsi2:(s:Int)=(L.length:Int):=by omega
   by_cases hd:32<d
   ·rw [if_pos hd];have hdi:(32:Int)<(d:Int):=by omega
    go_enter Tryz.func15,Tryz.ntmps15;go_wp2_with fail
    refine M.mono ?_;rintro e w1 ⟨rfl,hb⟩;go_wp2;go_ret;exact ⟨rfl,hb⟩
   ·rw [if_neg hd];have hdi:¬ (32:Int)<(d:Int):=by omega
    go_enter Tryz.func15,Tryz.ntmps15;go_wp2_with fail
    refine M.mono ?_;rintro e w1 ⟨rfl,hb⟩;go_wp2;go_ret;exact ⟨rfl,hb⟩
  ·rw [if_pos hs];have hsi:((s:Int) == (L.length:Int))=false:=by rw [beq_eq_false_iff_ne];omega
   have hsi2:¬ (s:Int)=(L.length:Int):=by omega
   go_enter Tryz.func15,Tryz.ntmps15;go_wp2_with fail
   refine M.mono ?_;rintro e w1 ⟨rfl,hb⟩;go_wp2;go_ret;exact ⟨rfl,hb⟩
theorem RdN.at {w:World} {bb off:Nat} {L:List Wt.Nd} (h:RdN w (some ⟨bb,off,none⟩) L) (i:Nat) (hi:i<L.length):w.rangeAt bb (off+i * 20) (nd20 L[i]):=by
 obtain ⟨b2,o2,e,hx⟩:=h i hi;simp only [Option.some.injEq,Addr.mk.injEq] at e;obtain ⟨rfl,rfl,-⟩:=e;exact hx
open Go.RowKit Go.Shelf
def rs5 (av:Option Addr) (len cap:Nat) (a:Nat) (en E Bad:Int):List Value:=[.slice av len cap,.int .i64 (a:Int),.int .i64 en,.int .i64 E,.int .i64 Bad]
def RS (tn lo kp:Nat) (en:Int) (w:World) (ts:List Wlx.TV) (E Bad:Int):Prop:=∃ (av:Option Addr) (cap:Nat) (T:List Wlx.TV) (a:Nat),T.drop a=ts∧a≤T.length∧(T.length≤1024∧T.length=tn)∧kp<lo∧lo≤w.heap.size ∧
 AtL w kp (rs5 av T.length cap a en E Bad)∧RdV w av T∧∀ g,av=some ⟨g,0,none⟩→g ≠ kp∧g<lo
theorem RS.row {tn lo kp:Nat} {en:Int} {w w':World} {ts:List Wlx.TV} {E Bad:Int} {row:Option Nat} (h:RS tn lo kp en w ts E Bad) (hg:w.grownBy w' row) (hr:∀ b,row=some b→lo≤b):RS tn lo kp en w' ts E Bad:=by
 obtain ⟨av,cap,T,a,h1,h2,h3,h4,h5,h6,h7,h8⟩:=h;refine ⟨av,cap,T,a,h1,h2,h3,h4,Nat.le_trans h5 hg.size,h6.grown hg (fun e=>?_),h7.grown hg (fun _ g e=>Or.inl fun e2=>?_),h8⟩
 ·have:=hr kp e.symm;omega
 ·have:=hr g e2.symm;have:=(h8 g e).2;omega
theorem RS.below {tn lo kp:Nat} {en:Int} {w w':World} {ts:List Wlx.TV} {E Bad:Int} (h:RS tn lo kp en w ts E Bad) (hb:Below w.heap.size w w'):RS tn lo kp en w' ts E Bad:=h.row (below_grown hb none) (by simp)
theorem rs_set {tn lo kp:Nat} {en:Int} {w w':World} {av:Option Addr} {cap:Nat} {T:List Wlx.TV} {a:Nat} {E Bad:Int} (h2:a≤T.length) (h3:T.length≤1024∧T.length=tn) (h4:kp<lo) (h5:lo≤w.heap.size) (h7:RdV w av T) (h8:∀ g,av=some ⟨g,0,none⟩→g ≠ kp∧g<lo)
  (hg:w.grownBy w' (some kp)) (h6:AtL w' kp (rs5 av T.length cap a en E Bad)):RS tn lo kp en w' (T.drop a) E Bad :=
 ⟨av,cap,T,a,rfl,h2,h3,h4,Nat.le_trans h5 hg.size,h6,h7.grown hg (fun _ g e=>Or.inl fun e2=>(h8 g e).1 (Option.some.inj e2)),h8⟩
theorem pos_drop (T:List Wlx.TV) (a:Nat) (en:Int) (h:a<T.length):pos (T.drop a) en=T[a].p:=by
 rw [List.drop_eq_getElem_cons h];rfl
theorem pos_end (T:List Wlx.TV) (a:Nat) (en:Int) (h:¬ a<T.length):pos (T.drop a) en=en:=by
 rw [List.drop_eq_nil_of_le (by omega)];rfl
theorem two_set_grown (w:World) (b:Nat) (x y:Value) (i j:Nat):w.grownBy ((w.setCell ⟨b,i,none⟩ x).setCell ⟨b,j,none⟩ y) (some b):=grown_trans (set_grown w b i x) (set_grown _ b j y)
theorem qfail_0 (tn lo kp:Nat) (en c:Int) (w:World) (ts:List Wlx.TV) (h:RS tn lo kp en w ts 0 0):Calls Tryz.prog 26 #[.pointer (some ⟨kp,0,none⟩),.int .i64 c] w fun e w'=>e=.returned (.slice none 0 0)∧RS tn lo kp en w' ts c (pos ts en)∧w.grownBy w' (some kp):=by
 obtain ⟨av,cap,T,a,rfl,h2,h3,h4,h5,h6,h7,h8⟩:=h;have pS:=h6;unfold rs5 at pS;obtain ⟨c0,c1,c2,c3,c4⟩:=pS.f5;have f3:=pS.2.2 3 (by simp);have f4:=pS.2.2 4 (by simp);have q:=(pS.set 3 (.int .i64 c)).set 4 (.int .i64 en);have g2:=two_set_grown w kp (.int .i64 c) (.int .i64 en) 3 4;have r7:=h7.grown g2 (fun _ g e=>Or.inl fun e2=>(h8 g e).1 (Option.some.inj e2));by_cases hlt:a<T.length
 ·rw [pos_drop T a en hlt];have hli:(a:Int)<(T.length:Int):=by omega
  have HQ:Hid (∀ W2,Below ((w.setCell ⟨kp,3,none⟩ (.int .i64 c)).setCell ⟨kp,4,none⟩ (.int .i64 en)).heap.size ((w.setCell ⟨kp,3,none⟩ (.int .i64 c)).setCell ⟨kp,4,none⟩ (.int .i64 en)) W2→RS tn lo kp en (W2.setCell ⟨kp,4,none⟩ (.int .i64 T[a].p)) (T.drop a) c T[a].p∧w.grownBy (W2.setCell ⟨kp,4,none⟩ (.int .i64 T[a].p)) (some kp)):=by
   intro W2 hb;have q2:=AtL.below hb q;have q9:=q2.set 4 (.int .i64 T[a].p);have g9:=grown_trans (grown_trans g2 (below_grown hb _)) (set_grown _ kp 4 (.int .i64 T[a].p));exact ⟨rs_set (E:=c) (Bad:=T[a].p) (cap:=cap) h2 h3 h4 h5 h7 h8 g9 q9,g9⟩
  obtain ⟨g,rfl,hg,t0,t1,t2⟩:=r7 a hlt;have hgk:=(h8 g rfl).1;have hS:AtL ((w.setCell ⟨kp,3,none⟩ (.int .i64 c)).setCell ⟨kp,4,none⟩ (.int .i64 en)) kp [.slice (some ⟨g,0,none⟩) T.length cap,.int .i64 (a:Int),.int .i64 en,.int .i64 c,.int .i64 en]:=q;have q0:=hS.2.1 0 _ rfl;have q1:=hS.2.1 1 _ rfl;generalize T[a].p=tp at *;clear h6 h7 q g2 r7 t0 t1 pS;go_enter Tryz.func26,Tryz.ntmps26;go_upto_region 4 with fail
  clear c0 c1 c2 c3 c4 f3 f4;generalize ((w.setCell ⟨kp,3,none⟩ (.int .i64 c)).setCell ⟨kp,4,none⟩ (.int .i64 en))=W at *;go_quiet (fail)
  have hb9:Below W.heap.size W (W.drewN nq):=below_drewN (Below.refl _ _) nq;have hS9:=AtL.below hb9 hS;have t9:=cell_below hb9 t2;have HQ9:Hid (∀ W2,Below (W.drewN nq).heap.size (W.drewN nq) W2→RS tn lo kp en (W2.setCell ⟨kp,4,none⟩ (.int .i64 tp)) (T.drop a) c tp∧w.grownBy (W2.setCell ⟨kp,4,none⟩ (.int .i64 tp)) (some kp)):=fun W2 hb=>HQ.out W2 (below_end hb9 hb)
  generalize W.drewN nq=W9 at *;have q0:=hS9.2.1 0 _ rfl;have q1:=hS9.2.1 1 _ rfl;have q4:=hS9.2.1 4 _ rfl;have z4:=hS9.2.2 4 (by simp);clear HQ hS hb9 t2 hS9;go_wp2_with fail
  go_region
  all_goals
   go_wp2;go_ret;first | exact ⟨rfl,HQ9.out _ (Below.refl _ _)⟩ | exact ⟨rfl,HQ9.out _ (Below.refl _ _).drew⟩ | exact ⟨rfl,HQ9.out _ (below_drewN (Below.refl _ _) _)⟩
 ·rw [pos_end T a en hlt];have hli:¬ (a:Int)<(T.length:Int):=by omega
  have HQ:Hid (∀ W2,Below ((w.setCell ⟨kp,3,none⟩ (.int .i64 c)).setCell ⟨kp,4,none⟩ (.int .i64 en)).heap.size ((w.setCell ⟨kp,3,none⟩ (.int .i64 c)).setCell ⟨kp,4,none⟩ (.int .i64 en)) W2→RS tn lo kp en W2 (T.drop a) c en∧w.grownBy W2 (some kp)):=by
   intro W2 hb;have q2:=AtL.below hb q;have g9:=grown_trans g2 (below_grown hb _);exact ⟨rs_set (E:=c) (Bad:=en) (cap:=cap) h2 h3 h4 h5 h7 h8 g9 q2,g9⟩
  have hS:AtL ((w.setCell ⟨kp,3,none⟩ (.int .i64 c)).setCell ⟨kp,4,none⟩ (.int .i64 en)) kp [.slice av T.length cap,.int .i64 (a:Int),.int .i64 en,.int .i64 c,.int .i64 en]:=q;have q0:=hS.2.1 0 _ rfl;have q1:=hS.2.1 1 _ rfl;clear h6 h7 q g2 r7 pS;go_enter Tryz.func26,Tryz.ntmps26;go_upto_region 4 with fail
  clear c0 c1 c2 c3 c4 f3 f4;generalize ((w.setCell ⟨kp,3,none⟩ (.int .i64 c)).setCell ⟨kp,4,none⟩ (.int .i64 en))=W at *;go_quiet (fail)
  go_wp2;go_ret;exact ⟨rfl,HQ.out _ (below_drewN (Below.refl _ _) nq)⟩
theorem qfail_n (tn lo kp:Nat) (en c E Bad:Int) (hE:¬ E=0) (w:World) (ts:List Wlx.TV) (h:RS tn lo kp en w ts E Bad):Calls Tryz.prog 26 #[.pointer (some ⟨kp,0,none⟩),.int .i64 c] w fun e w'=>e=.returned (.slice none 0 0)∧w=w':=by
 obtain ⟨av,cap,T,a,rfl,h2,h3,h4,h5,h6,h7,h8⟩:=h;have c3:=h6.2.1 3 _ rfl;have hEb:(E == 0)=false:=by simp [hE]
 go_enter Tryz.func26,Tryz.ntmps26;go_wp2;go_ret;exact ⟨rfl,rfl⟩
def mkk (ts:List Wlx.TV) (k:Nat) (m:List UInt8):Bool:=match ts[k]? with
 | some t=>isMk t m
 | none=>false
theorem qmark_any (tn lo kp:Nat) (en:Int) (w:World) (ts:List Wlx.TV) (E Bad:Int) (k:Nat) (hk:k≤1) (m:List UInt8) (h:RS tn lo kp en w ts E Bad):Calls Tryz.prog 69 #[.pointer (some ⟨kp,0,none⟩),.int .i64 (k:Int),.string ⟨m.toArray⟩] w fun e w'=>e=.returned (.bool (decide (E=0) && mkk ts k m))∧w=w':=by
 obtain ⟨av,cap,T,a,rfl,h2,h3,h4,h5,h6,h7,h8⟩:=h;have pS:=h6;unfold rs5 at pS;obtain ⟨c0,c1,c2,c3,c4⟩:=pS.f5;have hT:(T.length:Int)≤1024:=by omega
 have ha:(a:Int)≤1024:=by omega
 by_cases hE:E=0
 ·subst hE;unfold mkk;rw [List.getElem?_drop];by_cases hlt:a+k<T.length
  ·have hli:(a:Int)+(k:Int)<(T.length:Int):=by omega
   rw [List.getElem?_eq_getElem hlt];simp only;obtain ⟨g,rfl,hg,t0,t1,t2⟩:=h7 (a+k) hlt;generalize T[a+k]=tok at *;obtain ⟨tk,tt,tp⟩:=tok;unfold isMk;simp only at t0 t1 t2 ⊢;clear h6 h7 pS;by_cases h5k:tk=5
   ·subst h5k;go_enter Tryz.func69,Tryz.ntmps69;go_wp2;go_ret;exact ⟨ret_bool (by simp),rfl⟩
   ·have h5b:(tk == 5)=false:=by simp [h5k]
    go_enter Tryz.func69,Tryz.ntmps69;go_wp2;go_ret;exact ⟨by simp [h5k],rfl⟩
  ·have hli:¬ (a:Int)+(k:Int)<(T.length:Int):=by omega
   have hlb:decide ((a:Int)+(k:Int)<(T.length:Int))=false:=by simpa using hli
   rw [List.getElem?_eq_none (by omega)];clear h6 h7 pS;go_enter Tryz.func69,Tryz.ntmps69;go_wp2;go_ret;exact ⟨rfl,rfl⟩
 ·have hEb:(E == 0)=false:=by simp [hE]
  clear h6 h7 pS;go_enter Tryz.func69,Tryz.ntmps69;go_wp2;go_ret;exact ⟨by simp [hE],rfl⟩
theorem wpList_appG {ops:Array Oper} {rest:List Oper} {o:Oper} {a:Act} {Q:Exit→Act→World→Prop} (hw:Region.wanted o (yielded ops a.tmps)=true) (s x:Operand) (ho:o.op=.call {callee:=.builtin .append,args:=#[s,x],argTypes:=#[22,22]})
  (w:World) (B:Nat) (hB:B≤w.heap.size) (v:Value) (A:List Wt.Nd) (hs:a.eval s=v) (hown:OwnN w B v A) (vx:Value) (C:Nat) (L:List Wt.Nd) (hx:a.eval x=vx) (hox:OwnN w C vx L) (hl:True→A.length+L.length≤799644820179)
  (h:∀ v' w' row,OwnN w' B v' (A++L)→w.grownBy w' row→(∀ b,row=some b→B≤b)→(∀ b,row=some b→v.ownBlock=some b)→wpList Tryz.prog ops Q rest (a.put o.dst v') w'):wpList Tryz.prog ops Q (o::rest) a w:=by
 obtain ⟨i0,hi0,hz0,hz1,hz2⟩:=info_parts nodeInfo;have hl:=hl trivial;refine BigFrame.wpList_want hw fun _ hK=>?_
 have hlt:=hown.lt;rcases hox.2 with ⟨e,h0⟩ | ⟨g,cap,cur,e,hg,hc,hn⟩
 ·subst e;have hL:L=[]:=List.eq_nil_of_length_eq_zero h0;subst hL;have hrun:=run_append_owned_none (P:=Tryz.prog) (w:=w) B 22 o.type 45 i0 20 Tryz.underlying22 hi0 v A.length (ndRow A) hown;unfold Oper.wp;simp only [execOp,ho,resolve,invoke,builtin,Sem.run_bind,Sem.run_pure,Result.andThen_ok,List.map_toArray,List.map_cons,List.map_nil,hs,hx,hrun];exact hK _ _ (h v w none (by rw [List.append_nil];exact hown) (World.grownBy.refl _ _) (by simp) (by simp))
 ·subst e;refine wp_append_own _ s x 22 ho B 45 i0 _ 20 176 Tryz.underlying22 hi0 hz0 hz1 hz2 rfl (by decide) v A.length (ndRow A) hs hown ⟨g,0,none⟩ L.length cap (ndRow L) hx (ndRow_length L) (World.ownsRow.cells hox (g:=g) rfl) (ndRow_all L) (by unfold maxLen;omega) (by omega) hB ?_;intro v' w' own hg _;refine hK _ _ (h v' w' v.ownBlock ?_ hg (fun b e=>(hlt b e).1) (fun b e=>e));unfold OwnN;rw [List.length_append,ndRow_cat];exact own
theorem bldO (k o:Int) (w:World):(Instr.build 45 #[(0,.int .i64 k),(2,.int .i64 o)]).run Tryz.prog w=.ok (.agg (nd20 (opN k o)).toArray) w:=by kernel_rfl
theorem wpList_bldO {ops:Array Oper} {rest:List Oper} {op:Oper} {a:Act} {w:World} {Q:Exit→Act→World→Prop} (hgd:op.guard=none) (x y:Operand) (ho:op.op=.build 45 #[(0,x),(2,y)]) (k o:Int) (hx:a.eval x=.int .i64 k) (hy:a.eval y=.int .i64 o)
  (h:wpList Tryz.prog ops Q rest (a.put op.dst (.agg (nd20 (opN k o)).toArray)) w):wpList Tryz.prog ops Q (op::rest) a w:=by
 refine wpList_plain hgd fun _ hK=>?_
 unfold Oper.wp execOp;simp only [ho,List.map_toArray,List.map_cons,List.map_nil,hx,hy,Sem.run_bind,Sem.run_pure,Result.andThen_ok,bldO];exact hK _ _ h
theorem bldV (v:Wt.Vl) (w:World):(Instr.build 45 #[(0,.int .i64 1),(1,.agg (vl6 v).toArray)]).run Tryz.prog w=.ok (.agg (nd20 (leafN v)).toArray) w:=by kernel_rfl
theorem wpList_bldV {ops:Array Oper} {rest:List Oper} {op:Oper} {a:Act} {w:World} {Q:Exit→Act→World→Prop} (hgd:op.guard=none) (x y:Operand) (ho:op.op=.build 45 #[(0,x),(1,y)]) (v:Wt.Vl) (hx:a.eval x=.int .i64 1) (hy:a.eval y=.agg (vl6 v).toArray)
  (h:wpList Tryz.prog ops Q rest (a.put op.dst (.agg (nd20 (leafN v)).toArray)) w):wpList Tryz.prog ops Q (op::rest) a w:=by
 refine wpList_plain hgd fun _ hK=>?_
 unfold Oper.wp execOp;simp only [ho,List.map_toArray,List.map_cons,List.map_nil,hx,hy,Sem.run_bind,Sem.run_pure,Result.andThen_ok,bldV];exact hK _ _ h
theorem bldC (nm:ByteArray) (c:Nat) (w:World):(Instr.build 45 #[(0,.int .i64 6),(3,.string nm),(4,.int .i64 (c:Int))]).run Tryz.prog w=.ok (.agg (nd20 (callN nm c)).toArray) w:=by kernel_rfl
theorem wpList_bldC {ops:Array Oper} {rest:List Oper} {op:Oper} {a:Act} {w:World} {Q:Exit→Act→World→Prop} (hgd:op.guard=none) (x y z:Operand) (ho:op.op=.build 45 #[(0,x),(3,y),(4,z)]) (nm:ByteArray) (c:Nat) (hx:a.eval x=.int .i64 6) (hy:a.eval y=.string nm) (hz:a.eval z=.int .i64 (c:Int))
  (h:wpList Tryz.prog ops Q rest (a.put op.dst (.agg (nd20 (callN nm c)).toArray)) w):wpList Tryz.prog ops Q (op::rest) a w:=by
 refine wpList_plain hgd fun _ hK=>?_
 unfold Oper.wp execOp;simp only [ho,List.map_toArray,List.map_cons,List.map_nil,hx,hy,hz,Sem.run_bind,Sem.run_pure,Result.andThen_ok,bldC];exact hK _ _ h
def QPost (tn lo kp:Nat) (en:Int) (n:Nat) (r:PR) (w:World) (e:Ending) (w':World):Prop:=w.grownBy w' (some kp)∧match r with
 | .inl (row,rest)=>∃ v,e=.returned v∧OwnN w' w.heap.size v row∧RS tn lo kp en w' rest 0 0
 | .inr (c,p)=>¬ c=0∧∃ v row ts,e=.returned v∧OwnN w' w.heap.size v row∧row.length≤n+1∧RS tn lo kp en w' ts c p
theorem rs_pass {tn lo kp:Nat} {en:Int} {w:World} {t:Wlx.TV} {r:List Wlx.TV} (h:RS tn lo kp en w (t::r) 0 0):∃ a:Nat,(a:Int)≤1024∧w.cell? ⟨kp,1,none⟩=some (.int .i64 (a:Int))∧w.frozen? ⟨kp,1,none⟩=false∧RS tn lo kp en (w.setCell ⟨kp,1,none⟩ (.int .i64 ((a:Int)+1))) r 0 0∧w.grownBy (w.setCell ⟨kp,1,none⟩ (.int .i64 ((a:Int)+1))) (some kp):=by
 obtain ⟨av,cap,T,a,e,h2,h3,h4,h5,h6,h7,h8⟩:=h;have hlt:a<T.length:=by
  by_cases hlt:a<T.length
  ·exact hlt
  ·rw [List.drop_eq_nil_of_le (by omega)] at e;cases e
 have er:T.drop (a+1)=r:=by
  rw [List.drop_eq_getElem_cons hlt] at e;exact (List.cons.inj e).2
 have hg:=set_grown w kp 1 (.int .i64 ((a:Int)+1));refine ⟨a,by omega,h6.2.1 1 _ rfl,h6.2.2 1 (by simp [rs5]),?_,hg⟩;rw [←er];exact rs_set (a:=a+1) (cap:=cap) (E:=0) (Bad:=0) (by omega) h3 h4 h5 h7 h8 hg (h6.set 1 _)
theorem own_grown {w w':World} {B:Nat} {v:Value} {L:List Wt.Nd} {kp:Nat} (h:OwnN w B v L) (hg:w.grownBy w' (some kp)) (hk:kp<B):OwnN w' B v L:=by
 refine World.ownsRow.kept h hg ?_;cases hv:v.ownBlock with
 | none=>exact Or.inl rfl
 | some g=>exact Or.inr fun e=>by have:=(h.lt g hv).1;rw [Option.some.inj e] at this;omega
theorem own_any {w w':World} {B:Nat} {v:Value} {L:List Wt.Nd} {row:Option Nat} (h:OwnN w B v L) (hg:w.grownBy w' row) (hk:∀ b,row=some b→w.heap.size≤b):OwnN w' B v L:=by
 refine World.ownsRow.kept h hg ?_;cases hv:v.ownBlock with
 | none=>exact Or.inl rfl
 | some g=>exact Or.inr fun e=>by have:=(h.lt g hv).2;have:=hk g e.symm;omega
theorem own_ge {w:World} {B B':Nat} {v:Value} {L:List Wt.Nd} (h:OwnN w B v L) (hb:B'≤B):OwnN w B' v L :=
 ⟨h.1,h.2.imp id fun ⟨g,cap,cur,a,b,c⟩=>⟨g,cap,cur,a,Nat.le_trans hb b,c⟩⟩
end Go.Proofs.YtlggnpohhahdlaaGreatDoor
