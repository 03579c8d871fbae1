/- Lemmas. -/
import Derived.Test.YtefkclbaflkheaaGreatDoorQ10
set_option maxHeartbeats 4000000
set_option maxRecDepth 100000
namespace Go.Proofs.YtefkclbaflkheaaGreatDoor
open Tryz
open Go.RowKit
set_option linter.unusedVariables false
variable {w:World} {L:List Wt.Nd} {ks:List Nat} {ops:Array Oper} {rest:List Oper} {op:Oper} {a:Act} {Q:Exit->Act->World->Prop}
abbrev zPS (k:Nat) (x:Wt.Nd) (W:World):Prop :=
 W.rangeAt k 0 (zAG x)/\W.cell? ⟨k,0,none⟩=some (.int .i64 3)/\W.cell? ⟨k,10,none⟩=some (.string x.a.s)/\W.cell? ⟨k,11,none⟩=some (.int .i64 x.a.r)/\W.cell? ⟨k,12,none⟩=some (.int .i64 x.a.c)/\W.cell? ⟨k,13,none⟩=some (.bool x.a.fr)/\W.cell? ⟨k,14,none⟩=some (.bool x.a.fc)/\W.cell? ⟨k,15,none⟩=some (.string x.b.s)/\W.cell? ⟨k,16,none⟩=some (.int .i64 x.b.r)/\W.cell? ⟨k,17,none⟩=some (.int .i64 x.b.c)/\W.cell? ⟨k,18,none⟩=some (.bool x.b.fr)/\W.cell? ⟨k,19,none⟩=some (.bool x.b.fc)
theorem zFU {k:Nat} {x:Wt.Nd} {W:World} (hk:x.k=3) (h:AtL W k (zAG x)):zPS k x W :=
 ⟨h.range,by rw [<-hk];exact h.2.1 0 _ rfl,h.2.1 10 _ rfl,h.2.1 11 _ rfl,h.2.1 12 _ rfl,h.2.1 13 _ rfl,h.2.1 14 _ rfl,h.2.1 15 _ rfl,h.2.1 16 _ rfl,h.2.1 17 _ rfl,h.2.1 18 _ rfl,h.2.1 19 _ rfl⟩
theorem zMv (x:Wt.Nd) (w:World) (hk:x.k=3) (hs:x.a.s.size<=9223372036854775807) (hsb:x.b.s.size<=9223372036854775807) :
  CR 85 #[ndV x] w (.tuple #[.int .i64 0,.bool ((Wt.rfOk x.a && Wt.rfOk x.b && x.b.s.toList.isEmpty) && eqN x ⟨3,Wt.v0,0,⟨#[]⟩,0,x.a,x.b⟩)]):=by
 have hq:∀ w:World,(binOp .eql 35 (.agg (zAG x).toArray) (.agg #[.int .i64 3,.int .i64 0,.int .i64 0,.int .i64 0,.string ⟨#[]⟩,.bool false,.int .i64 0,.int .i64 0,.string ⟨#[]⟩,.int .i64 0,.string x.a.s,.int .i64 x.a.r,.int .i64 x.a.c,.bool x.a.fr,.bool x.a.fc,.string x.b.s,.int .i64 x.b.r,.int .i64 x.b.c,.bool x.b.fr,.bool x.b.fc])).run prog w=.ok (.bool (eqN x ⟨3,Wt.v0,0,⟨#[]⟩,0,x.a,x.b⟩)) w:=λw=>zBC x ⟨3,Wt.v0,0,⟨#[]⟩,0,x.a,x.b⟩ w
 generalize eqN x ⟨3,Wt.v0,0,⟨#[]⟩,0,x.a,x.b⟩=R at *;have CA:=λw=>zEk x.a w hs
 have CB:=λw=>zEk x.b w hsb
 generalize Wt.rfOk x.a=qa at *;generalize Wt.rfOk x.b=qb at *;have pA:AtL (w.alloc (.cells (zAG x).toArray 35)) w.heap.size (zAG x):=AtL.new0 w _ _;have hBa:Below w.heap.size w (w.alloc (.cells (zAG x).toArray 35)):=zAM (Below.refl _ w) _;show Calls _ _ #[.agg (zAG x).toArray] _ _
 go_enter func85,ntmps85;go_upto_region 1 with fail
 generalize (w.alloc (.cells (zAG x).toArray 35))=W0 at *;have a0:W0.cell? ⟨w.heap.size,0,none⟩=some (.int .i64 3):=by rw [<-hk];exact pA.2.1 0 _ rfl
 go_upto_region 7 with fail
 clear a0;refine wp_region_held_drew (S:=zPS w.heap.size x) (by kernel_rfl) (zFU hk (AtL.drew pA)) (λhHeld=>?_);refine wpAnyH_take (i:=0) (v:=.agg (zAG x).toArray) (atQ rfl) (by kernel_rfl) (by kernel_rfl) (by kernel_rfl) (λ_ _ _ h=>h) (yieldsIf_load_mid (by rfl) 35 (.tmp 1) rfl w.heap.size 0 rfl (zAG x) _ (λw h=>h.1) underlying35 rfl (by kernel_rfl)) (by assumption) ?_;try simp only [Act.put,lA,lZ,lS]
 refine tkQ 1 ?_
 refine tkQ 2 ?_
 refine tkQ 3 ?_
 refine tkQ 4 ?_
 refine tkQ 5 ?_
 refine tkQ 6 ?_
 refine tkQ 7 ?_
 refine tkQ 8 ?_
 refine tkQ 9 ?_
 cases R
 ·clear CA CB;refine tnQ 10 ?_
  refine tnQ 11 ?_
  refine tnQ 12 ?_
  refine tkQ 13 ?_
  refine tkQ 14 ?_
  refine tnQ 15 ?_
  refine tnQ 16 ?_
  refine tnQ 17 ?_
  refine tkQ 18 ?_
  refine tkQ 19 ?_
  refine tnQ 20 ?_
  refine tnQ 21 ?_
  refine tnQ 22 ?_
  refine tnQ 23 ?_
  refine tkQ 24 ?_
  refine rdQ 25 (λK hK=>?_);go_simp
  refine hkQ hK (by assumption) (λhHeld=>?_);clear hK K
  refine rdQ 26 (λK hK=>?_);go_simp
  refine hkQ hK (by assumption) (λhHeld=>?_);clear hK K
  refine wpAnyH_done (by kernel_rfl) ?_ _;go_wp2;go_ret2
  exact ⟨by simp,hBa.drew⟩
 refine tkQ 10 ?_
 refine tkQ 11 ?_
 refine rdQ 12 (λK hK=>?_);go_simp
 refine (CA _).mono ?_;rintro e w1 ⟨rfl,hb⟩;have pA1:=AtL.below hb (AtL.drew pA);have hB1:=zAB hBa.drew hb;clear hb;go_wp2_with fail
 refine hkQ hK (zFU hk pA1) (λhHeld=>?_);clear hK K
 refine tkQ 13 ?_
 refine tkQ 14 ?_
 cases qa
 ·clear CB;refine tnQ 15 ?_
  refine tnQ 16 ?_
  refine tnQ 17 ?_
  refine tkQ 18 ?_
  refine tkQ 19 ?_
  refine tnQ 20 ?_
  refine tnQ 21 ?_
  refine tnQ 22 ?_
  refine tnQ 23 ?_
  refine tkQ 24 ?_
  refine rdQ 25 (λK hK=>?_);go_simp
  refine hkQ hK (by assumption) (λhHeld=>?_);clear hK K
  refine rdQ 26 (λK hK=>?_);go_simp
  refine hkQ hK (by assumption) (λhHeld=>?_);clear hK K
  refine wpAnyH_done (by kernel_rfl) ?_ _;go_wp2;go_ret2
  exact ⟨by simp,hB1⟩
 refine tkQ 15 ?_
 refine tkQ 16 ?_
 refine rdQ 17 (λK hK=>?_);go_simp
 refine (CB _).mono ?_;rintro e w2 ⟨rfl,hb⟩;replace pA1:=AtL.below hb pA1
 replace hB1:=zAB hB1 hb
 clear hb;go_wp2_with fail
 refine hkQ hK (zFU hk pA1) (λhHeld=>?_);clear hK K
 refine tkQ 18 ?_
 refine tkQ 19 ?_
 cases qb
 ·refine tnQ 20 ?_
  refine tnQ 21 ?_
  refine tnQ 22 ?_
  refine tnQ 23 ?_
  refine tkQ 24 ?_
  refine rdQ 25 (λK hK=>?_);go_simp
  refine hkQ hK (by assumption) (λhHeld=>?_);clear hK K
  refine rdQ 26 (λK hK=>?_);go_simp
  refine hkQ hK (by assumption) (λhHeld=>?_);clear hK K
  refine wpAnyH_done (by kernel_rfl) ?_ _;go_wp2;go_ret2
  exact ⟨by simp,hB1⟩
 cases he:x.b.s.toList.isEmpty
 all_goals
  refine tkQ 20 ?_
  refine tkQ 21 ?_
  refine tkQ 22 ?_
  refine tkQ 23 ?_
  refine tkQ 24 ?_
  refine rdQ 25 (λK hK=>?_);go_simp
  refine hkQ hK (by assumption) (λhHeld=>?_);clear hK K
  refine rdQ 26 (λK hK=>?_);go_simp
  refine hkQ hK (by assumption) (λhHeld=>?_);clear hK K
  refine wpAnyH_done (by kernel_rfl) ?_ _;go_wp2;go_ret2
  have he2:=he;simp only [List.isEmpty_iff,List.isEmpty_eq_false_iff] at he2;exact ⟨by simp [he2],hB1⟩
theorem zFx {o:Int} (h21:¬ o=21) (h22:¬ o=22) (h23:¬ o=23) (h24:¬ o=24) (h25:¬ o=25) (h26:¬ o=26) (h16:¬ o=16) (h11:¬ o=11) (h12:¬ o=12) (h13:¬ o=13) (h14:¬ o=14) (h15:¬ o=15) (h1:¬ o=1) (h2:¬ o=2) (h3:¬ o=3):opK o=0:=by
 have e:Wt.opOf o=none:=by
  unfold Wt.opOf;rw [List.find?_eq_none];intro x hx;simp only [Wt.opsT,List.mem_cons,List.not_mem_nil,or_false] at hx;rcases hx with rfl | rfl | rfl | rfl | rfl | rfl | rfl | rfl | rfl | rfl | rfl | rfl | rfl | rfl | rfl <;> simp only [beq_iff_eq] <;> omega
 unfold opK;rw [e]
theorem zOV (o:Int):(opK o == 4)=zDd o:=by
 by_cases h21:o=21
 ·subst h21;rfl
 by_cases h22:o=22
 ·subst h22;rfl
 by_cases h23:o=23
 ·subst h23;rfl
 by_cases h24:o=24
 ·subst h24;rfl
 by_cases h25:o=25
 ·subst h25;rfl
 by_cases h26:o=26
 ·subst h26;rfl
 by_cases h16:o=16
 ·subst h16;rfl
 by_cases h11:o=11
 ·subst h11;rfl
 by_cases h12:o=12
 ·subst h12;rfl
 by_cases h13:o=13
 ·subst h13;rfl
 by_cases h14:o=14
 ·subst h14;rfl
 by_cases h15:o=15
 ·subst h15;rfl
 by_cases h1:o=1
 ·subst h1;rfl
 by_cases h2:o=2
 ·subst h2;rfl
 by_cases h3:o=3
 ·subst h3;rfl
 rw [zFx h21 h22 h23 h24 h25 h26 h16 h11 h12 h13 h14 h15 h1 h2 h3];simp [zDd,h1,h2,h3]
theorem zM8 (o:Int):(opK o == 5)=Wt.isBin o:=by
 by_cases h21:o=21
 ·subst h21;rfl
 by_cases h22:o=22
 ·subst h22;rfl
 by_cases h23:o=23
 ·subst h23;rfl
 by_cases h24:o=24
 ·subst h24;rfl
 by_cases h25:o=25
 ·subst h25;rfl
 by_cases h26:o=26
 ·subst h26;rfl
 by_cases h16:o=16
 ·subst h16;rfl
 by_cases h11:o=11
 ·subst h11;rfl
 by_cases h12:o=12
 ·subst h12;rfl
 by_cases h13:o=13
 ·subst h13;rfl
 by_cases h14:o=14
 ·subst h14;rfl
 by_cases h15:o=15
 ·subst h15;rfl
 by_cases h1:o=1
 ·subst h1;rfl
 by_cases h2:o=2
 ·subst h2;rfl
 by_cases h3:o=3
 ·subst h3;rfl
 rw [zFx h21 h22 h23 h24 h25 h26 h16 h11 h12 h13 h14 h15 h1 h2 h3];unfold Wt.isBin;have e1:(decide (11<=o) && decide (o<=16))=false:=by
  rw [Bool.and_eq_false_iff,decide_eq_false_iff_not,decide_eq_false_iff_not];omega
 have e2:(decide (21<=o) && decide (o<=26))=false:=by
  rw [Bool.and_eq_false_iff,decide_eq_false_iff_not,decide_eq_false_iff_not];omega
 rw [e1,e2];rfl
theorem zN9 (x:Wt.Nd) (w:World) (h1:(x.k == 1)=false) (h2:(x.k == 2)=false) (h3:(x.k == 3)=false) (h4:(x.k == 4)=false) (h5:(x.k == 5)=false) (h6:(x.k == 6)=false) :
  CR 85 #[ndV x] w (.tuple #[.int .i64 0,.bool false]):=by
 obtain ⟨k,hk⟩:∃ k,x.k=k:=⟨_,rfl⟩
 rw [hk] at h1 h2 h3 h4 h5 h6;have pA:AtL (w.alloc (.cells (zAG x).toArray 35)) w.heap.size (zAG x):=AtL.new0 w _ _;have hBa:Below w.heap.size w (w.alloc (.cells (zAG x).toArray 35)):=zAM (Below.refl _ w) _;show Calls _ _ #[.agg (zAG x).toArray] _ _
 go_enter func85,ntmps85;go_upto_region 1 with fail
 generalize (w.alloc (.cells (zAG x).toArray 35))=W0 at *;have a0:W0.cell? ⟨w.heap.size,0,none⟩=some (.int .i64 k):=by rw [<-hk];exact pA.2.1 0 _ rfl
 go_wp2;go_ret2
 exact ⟨rfl,hBa⟩
theorem zEU (x:Wt.Nd) (w:World) (hf:Wt.FitN x):CR 85 #[ndV x] w (.tuple #[.int .i64 (nps x),.bool (Wt.right x)]):=by
 obtain ⟨f1,f6,f7,f8⟩:=hf;unfold Wt.right nps;by_cases h1:x.k=1
 ·rw [if_pos h1,if_neg (by omega),if_neg (by omega),if_neg (by omega)];exact zNJ x w h1 f1
 rw [if_neg h1];by_cases h2:x.k=2
 ·rw [if_pos h2,if_neg (by omega),if_neg (by omega),if_neg (by omega)];exact zM4 x w h2 f7
 rw [if_neg h2];by_cases h3:x.k=3
 ·rw [if_pos h3,if_neg (by omega),if_neg (by omega),if_neg (by omega)];exact zMv x w h3 f7 f8
 rw [if_neg h3];by_cases h4:x.k=4
 ·rw [if_pos h4,if_pos h4,zOV];exact zMO x w h4
 rw [if_neg h4,if_neg h4];by_cases h5:x.k=5
 ·rw [if_pos h5,if_pos h5,zM8];exact zMS x w h5
 rw [if_neg h5,if_neg h5];by_cases h6:x.k=6
 ·rw [if_pos h6,if_pos h6];exact zN7 x w h6 f6
 rw [if_neg h6,if_neg h6];exact zN9 x w (by simp [h1]) (by simp [h2]) (by simp [h3]) (by simp [h4]) (by simp [h5]) (by simp [h6])
theorem zGH (av:Option Addr) (cap:Nat) (L:List Wt.Nd) (hL:L.length<=256) (hF:∀ x ∈ L,Wt.FitN x) (f:Nat):f<=1000->∀ (p:Nat) (w:World),L.length<f+p->p<=256->RdN w av L ->
  CR 51 #[.slice av L.length cap,.int .i64 p] w (MP (Wt.one f (L.drop p)) p):=by
 have past:∀ (f p:Nat) (w:World),¬ p<L.length->p<=256->CR 51 #[.slice av L.length cap,.int .i64 p] w (MP (Wt.one f (L.drop p)) p):=by
  intro f p w hlt hp;have hd:L.drop p=[]:=List.drop_eq_nil_of_le (by omega);have E:Hid (Wt.one f (L.drop p)=none):=by
   show _=_
   rw [hd];cases f <;> rfl
  rw [E.out];clear E hd;have hli:(L.length:Int)<=(p:Int):=by omega
  go_enter func51,ntmps51;go_wp2;go_ret3
  exact ⟨rfl,Below.refl _ _⟩
 induction f with
 | zero=>intro _ p w hf hp hr;exact past 0 p w (by omega) hp
 | succ f ih =>
  intro hf1 p w hf hp hr;by_cases hlt:p<L.length
  ·clear past;replace ih:=ih (by omega)
   obtain ⟨bb,off,rfl,hx⟩:=hr p hlt;have hd:=List.drop_eq_getElem_cons hlt;have hfit:=hF _ (List.getElem_mem hlt);have HR:Hid (RdN w (some ⟨bb,off,none⟩) L):=hr;clear hr;rw [hd];generalize L[p]=x at *;have C:=zEU x w hfit;have hple:=@Wt.parts_le x;have hnp:=@zED x;have hli:¬ (L.length:Int)<=(p:Int):=by omega
   cases hq:Wt.right x with
   | false =>
    rw [hq] at C;rw [zJQ hq];generalize nps x=np at *;clear ih hnp hple;go_enter func51,ntmps51;go_wp2_with ((with_reducible refine zAA ?_ 35 (.tmp 21) ?_ bb (off+p * 20) ?_ (zAG x) _ ?_ underlying35 ?_ ?_ ?_);rfl;rfl;rfl;exact hx;rfl;kernel_rfl)
    refine C.mono ?_;rintro e w1 ⟨rfl,hb⟩;go_wp2;go_ret3
    exact ⟨rfl,hb⟩
   | true =>
    rw [hq] at C;obtain ⟨hk0,hk1⟩:=hple hq;rw [zIr hq];rw [hnp hq] at C;clear hple hq hnp;obtain ⟨k,hk⟩:∃ k:Nat,(Wt.parts x).toNat=k:=⟨_,rfl⟩
    have hkk:Wt.parts x=(k:Int):=by omega
    rw [hk];rw [hkk] at C;have hk2:k<=30:=by omega
    clear hk0 hk1 hk hkk;obtain ⟨R,hR⟩:∃ R,left f k L (p+1) 0=R:=⟨_,rfl⟩
    have E0:Hid (R=left f (k - 0) L (p+1) 0):=hR.symm;rw [hR];clear hR;have IH:Hid (∀ (p:Nat) (w:World),L.length<f+p->p<=256->RdN w (some ⟨bb,off,none⟩) L->CR 51 #[.slice (some ⟨bb,off,none⟩) L.length cap,.int .i64 p] w (MP (Wt.one f (L.drop p)) p)):=ih;clear ih;go_enter func51,ntmps51;go_wp2_with ((with_reducible refine zAA ?_ 35 (.tmp 21) ?_ bb (off+p * 20) ?_ (zAG x) _ ?_ underlying35 ?_ ?_ ?_);rfl;rfl;rfl;exact hx;rfl;kernel_rfl)
    refine C.mono ?_;rintro e w2 ⟨rfl,hB2⟩;have HR2:Hid (RdN w2 (some ⟨bb,off,none⟩) L):=HR.out.below hB2;clear C hx HR hfit;go_wp2_with fail
    go_loopg [1,9,10] k (λgk a b c wr=>∃ j e d:Nat,a=.int .i64 e/\b=.int .i64 d/\c=.int .i64 j/\gk=k - j/\j<=k/\p+1<=e/\e<=L.length/\d<=f/\Hid (R=left f (k - j) L e d)/\Below w.heap.size w wr/\Hid (RdN wr (some ⟨bb,off,none⟩) L))
    case atStart=>exact ⟨0,p+1,0,by simp,rfl,rfl,rfl,Nat.zero_le _,Nat.le_refl _,hlt,Nat.zero_le _,E0,hB2,HR2⟩
    case round =>
     obtain ⟨j,e,d,rfl,rfl,rfl,hg,hj,he1,he2,hdd,HE,hB,HR3⟩:=hrel;by_cases hjk:j<k
     ·have hji:(j:Int)<(k:Int):=by omega
      have M:=IH.out e wr (by omega) (by omega) HR3.out;have hkj:k - j=(k - (j+1))+1:=by omega
      rw [hkj] at HE;cases hone:Wt.one f (L.drop e) with
      | none =>
       have E:Hid (R=none):=by show _=_;rw [HE.out,zEP hone]
       rw [hone] at M;clear HE hone IH;go_wp2_with fail
       refine M.mono ?_;rintro e9 w3 ⟨rfl,hb⟩;have hB3:=zAB hB hb;simp only [MP];go_wp2;go_ret3
       exact ⟨by rw [E.out];rfl,hB3⟩
      | some q =>
       obtain ⟨s,d'⟩:=q;have h1:=zEO _ _ _ _ hone;have h2:=zBO _ _ _ _ hone;rw [List.length_drop] at h1;have E:Hid (R=left f (k - (j+1)) L (e+s) (max d d')):=by show _=_;rw [HE.out,zEZ hone]
       rw [hone] at M;clear HE hone IH;go_wp2_with fail
       refine M.mono ?_;rintro e9 w3 ⟨rfl,hb⟩;have hB3:=zAB hB hb;have HR4:Hid (RdN w3 (some ⟨bb,off,none⟩) L):=HR3.out.below hb;simp only [MP];go_wp2_with fail
       all_goals
        go_roundg (k - (j+1))
        case rel=>exact ⟨j+1,e+s,max d d',by simp,by first | (simp;done) | (simp;omega),by simp,rfl,hjk,by omega,by omega,by omega,E,hB3,HR4⟩
        case measure=>omega
     ·have hji:¬ (j:Int)<(k:Int):=by omega
      have E:Hid (R=some (e,d)):=by show _=_;rw [HE.out,show k - j=0 by omega,zEH]
      clear HE IH;go_wp2;go_ret3
      exact ⟨by rw [E.out];rfl,hB⟩
  ·exact past (f+1) p w hlt hp
theorem zDO (av:Option Addr) (cap:Nat) (L:List Wt.Nd) (w:World) (hL:L.length<=9223372036854775807) (hF:∀ x ∈ L,Wt.FitN x) (hr:RdN w av L) :
  CR 29 #[.slice av L.length cap] w (.int .i64 (Wt.check L)):=by
 unfold Wt.check;by_cases h:256<L.length
 ·rw [if_pos h];have hi:(256:Int)<(L.length:Int):=by omega
  go_enter func29,ntmps29;go_wp2;go_ret;exact ⟨rfl,Below.refl _ _⟩
 rw [if_neg h];have hi:¬ (256:Int)<(L.length:Int):=by omega
 have M:=zGH av cap L (by omega) hF (L.length+1) (by omega) 0 w (by omega) (by omega) hr;rw [List.drop_zero] at M;have h1:=zEO (L.length+1) L;cases hone:Wt.one (L.length+1) L with
 | none =>
  rw [hone] at M;clear h1;go_enter func29,ntmps29;go_wp2_with fail
  refine M.mono ?_;rintro e w1 ⟨rfl,hb⟩;simp only [MP];go_wp2;go_ret;exact ⟨rfl,hb⟩
 | some q =>
  obtain ⟨s,d⟩:=q;rw [hone] at M;have h2:=zBO _ _ _ _ hone;replace h1:=h1 s d hone
  simp only [MP,Nat.zero_add] at M;simp only;by_cases hs:s=L.length
  ·rw [if_neg (by omega)];have hsi:((s:Int) == (L.length:Int))=true:=by rw [beq_iff_eq];omega
   have hsi2:(s:Int)=(L.length:Int):=by omega
   by_cases hd:32<d
   ·rw [if_pos hd];have hdi:(32:Int)<(d:Int):=by omega
    go_enter func29,ntmps29;go_wp2_with fail
    refine M.mono ?_;rintro e w1 ⟨rfl,hb⟩;go_wp2;go_ret;exact ⟨rfl,hb⟩
   ·rw [if_neg hd];have hdi:¬ (32:Int)<(d:Int):=by omega
    go_enter func29,ntmps29;go_wp2_with fail
    refine M.mono ?_;rintro e w1 ⟨rfl,hb⟩;go_wp2;go_ret;exact ⟨rfl,hb⟩
  ·rw [if_pos hs];have hsi:((s:Int) == (L.length:Int))=false:=by rw [beq_eq_false_iff_ne];omega
   have hsi2:¬ (s:Int)=(L.length:Int):=by omega
   go_enter func29,ntmps29;go_wp2_with fail
   refine M.mono ?_;rintro e w1 ⟨rfl,hb⟩;go_wp2;go_ret;exact ⟨rfl,hb⟩
theorem zBy (av:Option Addr) (cap:Nat) (L:List Wt.Nd) (i:Nat) (w:World) (hF:∀ x ∈ L,Wt.FitN x) (hr:RdN w av L) (hi:i<L.length) (hc:Wt.check L=0) :
  Calls prog 52 #[.slice av L.length cap,.int .i64 i] w λe w'=>∃ v,e=.returned v/\x5_OwnI w' w.heap.size v (zBa L i)/\Below w.heap.size w w':=by
 obtain ⟨h256,d,hone,hd⟩:=zDK hc;have hdr:=List.drop_eq_getElem_cons hi;obtain ⟨s',d',hs,hle,hdl⟩:=zDQ _ _ _ _ hone i hi;rw [hdr] at hs;obtain ⟨hxr,a,b,hm,rfl,rfl⟩:=zJ0 hs;obtain ⟨hp0,hp30⟩:=Wt.parts_le hxr;unfold zBa;rw [hdr];simp only;obtain ⟨bb,off,rfl,hx⟩:=hr i hi;have D:=λw=>zEU (L[i]) w (hF _ (List.getElem_mem hi))
 have hnp:=zED hxr;generalize L[i]=x at *;obtain ⟨n,hn⟩:∃ n:Nat,(Wt.parts x).toNat=n:=⟨_,rfl⟩
 have hnn:Wt.parts x=(n:Int):=by omega
 rw [hn] at hm ⊢;rw [hnp,hnn,hxr] at D;have hn30:n<=30:=by omega
 have M:=λp w hp hr=>zGH (some ⟨bb,off,none⟩) cap L h256 hF (L.length+1) (by omega) p w (by omega) hp hr
 obtain ⟨KS,hKS⟩:∃ KS,KS=zBl (L.length+1) n (i+1) (L.drop (i+1)):=⟨_,rfl⟩
 rw [<-hKS];have HK:Hid (KS=[]++zBl (L.length+1) (n - 0) (i+1) (L.drop (i+1))):=hKS;have HR:Hid (RdN w (some ⟨bb,off,none⟩) L):=hr;have hi0:¬ (i:Int)<0:=by omega
 have hi1:¬ (L.length:Int)<=(i:Int):=by omega
 obtain ⟨i0,hii,hz0,hz1,hz2⟩:=info_parts zJK;clear hr hKS hdr hs hone hc hxr hp0 hp30 hn hnn hnp;go_enter func52,ntmps52;go_wp2_with ((with_reducible refine wpList_load_mid (cs:=zAG x) ?_ 35 (.tmp 13) ?_ bb (off+i * 20) ?_ _ ?_ underlying35 ?_ ?_ ?_);rfl;rfl;rfl;exact hx;rfl;kernel_rfl)
 refine (D _).mono ?_;rintro e w2 ⟨rfl,hB2⟩;clear D hx;go_wp2_with fail
 go_loopg [5,8,9] n (λgk x y z wr=>∃ (j p c d:Nat) (dn:List Nat),z=.int .i64 j/\y=.int .i64 p/\gk=n - j/\j<=n/\dn.length=j/\Hid (KS=dn++zBl (L.length+1) (n - j) p (L.drop p))/\Hid (x5_OwnI wr w.heap.size x dn)/\Hid (Wt.many (Wt.one (L.length+1)) (n - j) (L.drop p)=some (c,d))/\p+c<=L.length/\Below w.heap.size w wr)
 case atStart =>
  exact ⟨0,i+1,a,b,[],rfl,by simp,rfl,Nat.zero_le _,rfl,HK,World.ownsRow_nil _ _ _ _,hm,by omega,hB2⟩
 case round =>
  obtain ⟨j,p,c,d1,dn,rfl,rfl,hg,hj,hdn,H1,H2,H3,hpc,hB⟩:=hrel;clear HK hB2 hm;by_cases hlt:j<n
  ·have hli:(j:Int)<(n:Int):=by omega
   obtain ⟨m,hmn⟩:∃ m,n - j=m+1:=⟨n - j - 1,by omega⟩
   have hm':n - (j+1)=m:=by omega
   rw [hmn] at H1 H3;have H3':=H3.out;simp only [Wt.many] at H3';cases h1:Wt.one (L.length+1) (L.drop p) with
   | none=>rw [h1] at H3';cases H3'
   | some q =>
    obtain ⟨a1,b1⟩:=q;rw [h1] at H3';simp only at H3';cases h2:Wt.many (Wt.one (L.length+1)) m ((L.drop p).drop a1) with
    | none=>rw [h2] at H3';cases H3'
    | some q2 =>
     obtain ⟨a2,b2⟩:=q2;rw [h2] at H3';simp only [Option.some.injEq,Prod.mk.injEq] at H3';obtain ⟨rfl,rfl⟩:=H3';have H1':=H1.out;simp only [zBl,h1] at H1';have E:Hid (KS=(dn++[p])++zBl (L.length+1) (n - (j+1)) (p+a1) (L.drop (p+a1))):=by
      show KS=_
      rw [H1',hm',List.drop_drop];simp
     rw [List.drop_drop] at h2;have own:=H2.out;have hsz:=hB.size;have news:∀ jj u,[Value.int .i64 (p:Int)][jj]? = some u->(wr.alloc (.cells #[.int .i64 (p:Int)] 3)).cell? ((⟨wr.heap.size,0,none⟩:Addr).add jj)=some u:=by
      intro jj u hj;cases jj with
      | zero=>simp at hj;subst hj;simp [Addr.add,go_sem]
      | succ jj=>simp at hj
     have hic:(zMj dn).length=dn.length:=by simp [zMj]
     go_wp2_with (at_builtin;refine wpList_append_own _ rfl _ _ 54 rfl w.heap.size 3 i0 (.int .i64 0) 1 8 underlying54 hii hz0 hz1 hz2 rfl (by decide) _ _ _ rfl (World.ownsRow.alloc own _) ⟨wr.heap.size,0,none⟩ 1 1 [.int .i64 (p:Int)] rfl rfl news (by intro u hu;simp at hu;subst hu;rfl) (by unfold maxLen;omega) (by omega) (by simp;omega) ?_)
     intro v2 w2 own2 hgrow _;have hB2:Below w.heap.size w w2:=(zAM hB (.cells #[.int .i64 (p:Int)] 3)).grown hgrow (by simp only [World.size_alloc];omega) (λk hk=>(own.lt k hk).1);have own2':x5_OwnI w2 w.heap.size v2 (dn++[p]):=by
      unfold x5_OwnI;have e:zMj (dn++[p])=zMj dn++[.int .i64 (p:Int)]:=by simp [zMj]
      rw [e,List.length_append,hdn];exact own2
     have MM:=M p w2 (by omega) (HR.out.below hB2);rw [h1] at MM;simp only [MP] at MM;clear own2 own H1 H1' H2 H3 news;go_wp2_with fail
     refine MM.mono ?_;rintro e w3 ⟨rfl,hb3⟩;have own3:x5_OwnI w3 w.heap.size v2 (dn++[p]):=own2'.below hb3;have hB3:=zAB hB2 hb3;clear MM hb3 own2' hB2;go_wp2_with fail
     go_roundg (n - (j+1))
     case rel=>exact ⟨j+1,p+a1,a2,b2,dn++[p],by simp,rfl,rfl,hlt,by simp [hdn],E,own3,by show _=_;rw [hm'];exact h2,by omega,hB3⟩
     case measure=>omega
  ·have hli:¬ (j:Int)<(n:Int):=by omega
   have hjn:n - j=0:=by omega
   rw [hjn] at H1;have H1':=H1.out;simp only [zBl,List.append_nil] at H1';go_wp2;go_ret;exact ⟨_,rfl,by first | exact H2.out | (rw [H1'];exact H2.out),hB⟩
open Go.RowKit Wf
def RdJ (w:World) (av:Option Addr) (ks:List Nat):Prop:=∀ i (h:i<ks.length),∃ bb off,av=some ⟨bb,off,none⟩/\w.cell? ⟨bb,off+i,none⟩=some (.int .i64 (ks[i]:Int))
theorem RdJ.below {w':World} {av:Option Addr} (h:RdJ w av ks) (hb:Below w.heap.size w w'):RdJ w' av ks:=λi hi=>by
 obtain ⟨bb,off,e,hx⟩:=h i hi;exact ⟨bb,off,e,zAC hb hx⟩
theorem zCa {B:Nat} {v:Value} (h:x5_OwnI w B v ks):∃ av cap,v=.slice av ks.length cap/\RdJ w av ks:=by
 rcases h.2 with ⟨e,h0⟩ | ⟨g,cap,cur,e,-,hcur,-,-,hlen,htk⟩
 ·have hk:ks.length=0:=by omega
  exact ⟨none,0,by rw [hk];exact e,λi hi=>absurd hi (by omega)⟩
 ·refine ⟨some ⟨g,0,none⟩,cap,e,λi hi=>⟨g,0,rfl,?_⟩⟩;have hg:=World.ownsRow.cellAt (e ▸ h) i (by omega);rw [Nat.zero_add,hg];simp [zMj,hi]
theorem zLa (hc:Wt.check L=0) {i:Nat} (hi:i<L.length):∃ t:Tr (L.length+1),Sub L i (L.length+1) t/\zAz _ t:=by
 obtain ⟨h256,d,hone,hd⟩:=zDK hc;obtain ⟨s',d',hs,hle,hdl⟩:=zDQ _ _ _ _ hone i hi;obtain ⟨t,e,f⟩:=zDW _ _ _ _ hs;exact ⟨t,⟨(L.drop i).drop s',by rw [e,List.take_append_drop]⟩,f⟩
theorem zNG (hc:Wt.check L=0) {i:Nat} (hi:i<L.length):∀ q ∈ zBa L i,q<L.length:=by
 obtain ⟨t,hs,hf⟩:=zLa hc hi;rw [hs.kids hf (by omega)];intro q hq;obtain ⟨j,hj,rfl⟩:=List.getElem_of_mem hq;have hj2:j<(Br.ks t).length:=by rw [zDj] at hj;exact hj
 have:=(hs.kid hj2 hj).2.hd;exact (List.getElem?_eq_some_iff.1 this).1
theorem zF3 (hc:Wt.check L=0) {i:Nat} (hi:i<L.length):((zBa L i).length:Int)=Wt.parts L[i]/\(zBa L i).length<=30/\Wt.right L[i]=true:=by
 obtain ⟨t,hs,hf⟩:=zLa hc hi;have h1:=hs.hd;rw [List.getElem?_eq_getElem hi,Option.some.injEq] at h1;rw [hs.kids hf (by omega),zDj,h1];have h2:=hf.2.1;have h3:=Wt.parts_le hf.1;refine ⟨h2.symm,?_,hf.1⟩;omega
theorem zDS (L:List Wt.Nd) (i:Nat):(kidN L i).length=(zBa L i).length:=by simp [kidN]
theorem zIs (hc:Wt.check L=0) {i:Nat} (hi:i<L.length) {j:Nat} (hj:j<(zBa L i).length) (hj2:j<(kidN L i).length):∃ h:(zBa L i)[j] < L.length,L[(zBa L i)[j]]=(kidN L i)[j]:=by
 have h:=zNG hc hi _ (List.getElem_mem hj);refine ⟨h,?_⟩;simp only [kidN,List.getElem_map];rw [List.getD_eq_getElem?_getD,List.getElem?_eq_getElem h];rfl
def zC8 (at' n:Int) (j:Int):Bool:=decide (j<=at' \/ n<=j)
theorem zH4 (tp at':Int) (p q:Addr) (av:Option Addr) (n cap:Nat) (w:World) (hp:w.cell? p=some (.int .i64 at')) (hq:w.cell? q=some (.slice av n cap)) :
  CR 62 #[.int .i64 tp,.pointer (some p),.pointer (some q)] w (.bool (zC8 at' n tp)):=by
 by_cases h1:tp<=at'
 ·have hs:zC8 at' n tp=true:=decide_eq_true (Or.inl h1);rw [hs];go_enter func62,ntmps62;go_wp2;go_ret;exact ⟨by simp,Below.refl _ _⟩
 ·by_cases h2:(n:Int)<=tp
  ·have hs:zC8 at' n tp=true:=decide_eq_true (Or.inr h2);rw [hs];go_enter func62,ntmps62;go_wp2;go_ret;exact ⟨by simp,Below.refl _ _⟩
  ·have hs:zC8 at' n tp=false:=decide_eq_false (by omega);rw [hs];go_enter func62,ntmps62;go_wp2;go_ret;exact ⟨by simp,Below.refl _ _⟩
theorem zGq (l:List Int) (v:Value) (at':Int) (pb qb:Nat) (av:Option Addr) (n cap:Nat) (w:World) (h:RdZ w v l) (hl:l.length<=1000000) (hp:w.cell? ⟨pb,0,none⟩=some (.int .i64 at')) (hq:w.cell? ⟨qb,0,none⟩=some (.slice av n cap)) :
  Calls prog 98 #[v,.func (.func 62) #[] #[.pointer (some ⟨pb,0,none⟩),.pointer (some ⟨qb,0,none⟩)]] w λe w'=>(∃ z:Int,e=.returned (.int .i64 z)/\decide (0<=z)=l.any (zC8 at' n))/\Below w.heap.size w w':=by
 have eg:∀ args w,(callFunc 62 args).run prog w=.ok (.enter 62 args) w:=λ_ _=>by kernel_rfl
 obtain ⟨a1,c1,rfl,r1⟩:=h;have H1:Hid (∀ i (h:i<l.length),∃ bb off,a1=some ⟨bb,off,none⟩/\w.cell? ⟨bb,off+i,none⟩=some (.int .i64 (l[i]))):=r1;obtain ⟨k,hk⟩:∃ k,l.length=k:=⟨_,rfl⟩
 have HK:Hid (l.length=k):=hk;rw [hk] at hl ⊢;have HP:Hid (w.cell? ⟨pb,0,none⟩=some (.int .i64 at')):=hp;have HQ:Hid (w.cell? ⟨qb,0,none⟩=some (.slice av n cap)):=hq;clear r1 hk hp hq;go_enter func98,ntmps98;go_wp2_with fail
 go_loopg [5,8] k (λgk y x wr=>∃ i:Nat,x=.int .i64 i/\gk=k - i/\i<=k/\Hid (∀ m (hm:m<l.length),m<i->zC8 at' n l[m]=false)/\Below w.heap.size w wr)
 case atStart=>exact ⟨0,rfl,rfl,Nat.zero_le _,(λm hm h=>absurd h (Nat.not_lt_zero _):∀ m (hm:m<l.length),m<0->zC8 at' n l[m]=false),Below.refl _ _⟩
 case round =>
  obtain ⟨i,rfl,hg,hi,HT,hb⟩:=hrel;by_cases hlt:i<k
  ·have hli:(i:Int)<(k:Int):=by omega
   have hwi:IntKind.i64.wrap ((i:Int)+1)=(i:Int)+1:=by rw [IntKind.wrap_i64];omega
   have hil:i<l.length:=by rw [HK.out];exact hlt
   obtain ⟨b1,o1,rfl,q1⟩:=H1.out i hil;have d1:=zAC hb q1;have SA:=λw2 (hb2:Below wr.heap.size wr w2)=>zH4 l[i] at' ⟨pb,0,none⟩ ⟨qb,0,none⟩ av n cap w2 (zAC hb2 (zAC hb HP.out)) (zAC hb2 (zAC hb HQ.out))
   obtain ⟨x,hx⟩:∃ x,l[i]=x:=⟨_,rfl⟩
   obtain ⟨r,hr⟩:∃ r,zC8 at' n l[i]=r:=⟨_,rfl⟩
   have HR:Hid (zC8 at' n l[i]=r):=hr;rw [hx] at d1 SA;rw [hx] at hr;rw [hr] at SA;have SA0:=SA wr (Below.refl _ _);clear q1 hx hr SA;cases r with
   | true =>
    go_wp2_with (go_at_call 62;refine SA0.mono ?_;rintro e w1 ⟨rfl,hb1⟩)
    go_ret;refine ⟨⟨_,rfl,?_⟩,zAB hb hb1⟩;have:l.any (zC8 at' n)=true:=List.any_eq_true.2 ⟨l[i],List.getElem_mem _,HR.out⟩;rw [this];simp
   | false =>
    go_wp2_with (go_at_call 62;refine SA0.mono ?_;rintro e w1 ⟨rfl,hb1⟩)
    go_roundg (k - (i+1))
    case rel =>
     refine ⟨i+1,by simp,rfl,hlt,(λm hm hmi=>?_:∀ m (hm:m<l.length),m<i+1->zC8 at' n l[m]=false),zAB hb hb1⟩;by_cases e:m=i
     ·subst e;exact HR.out
     ·exact HT.out m hm (by omega)
    case measure=>omega
  ·have hli:¬ (i:Int)<(k:Int):=by omega
   go_wp2;go_ret;refine ⟨⟨_,rfl,?_⟩,hb⟩;have:l.any (zC8 at' n)=false:=by
    rw [List.any_eq_false];intro y hy;obtain ⟨m,hm,rfl⟩:=List.getElem_of_mem hy;rw [HT.out m hm (by have:=HK.out;omega)];simp
   rw [this];simp
theorem zBE (l:List Int) (v:Value) (at':Int) (pb qb:Nat) (av:Option Addr) (n cap:Nat) (w:World) (h:RdZ w v l) (hl:l.length<=1000000) (hp:w.cell? ⟨pb,0,none⟩=some (.int .i64 at')) (hq:w.cell? ⟨qb,0,none⟩=some (.slice av n cap)) :
  CR 64 #[v,.func (.func 62) #[] #[.pointer (some ⟨pb,0,none⟩),.pointer (some ⟨qb,0,none⟩)]] w (.bool (l.any (zC8 at' n))):=by
 have I:=zGq l v at' pb qb av n cap w h hl hp hq;clear h hl hp hq;go_enter func64,ntmps64;go_wp2_with fail
 refine I.mono ?_;rintro e w1 ⟨⟨z,rfl,hv⟩,hb1⟩;have H:Hid (decide (0<=z)=l.any (zC8 at' n)):=hv;clear hv I;go_wp2;go_ret;exact ⟨by rw [<-H.out];rfl,hb1⟩
theorem zAL (hgd:op.guard=none) (T:TypeId) (y:Operand) (ho:op.op=.build T #[(0,y)]) (v:Value) (hy:a.eval y=v) (L:List Value) (hr:(Instr.build T #[(0,v)]).run prog w=.ok (.agg L.toArray) w)
  (h:wpList prog ops Q rest (a.put op.dst (.agg L.toArray)) w):wpList prog ops Q (op::rest) a w:=by
 refine wpList_plain hgd λK hK=>?_
 unfold Oper.wp execOp;simp only [ho,List.map_toArray,List.map_cons,List.map_nil,hy,Sem.run_bind,Sem.run_pure,Result.andThen_ok,hr];exact hK _ _ h
theorem zAl (hgd:op.guard=none) (T:TypeId) (i j:Nat) (y z:Operand) (ho:op.op=.build T #[(i,y),(j,z)]) (v u:Value) (hy:a.eval y=v) (hz:a.eval z=u) (L:List Value) (hr:(Instr.build T #[(i,v),(j,u)]).run prog w=.ok (.agg L.toArray) w)
  (h:wpList prog ops Q rest (a.put op.dst (.agg L.toArray)) w):wpList prog ops Q (op::rest) a w:=by
 refine wpList_plain hgd λK hK=>?_
 unfold Oper.wp execOp;simp only [ho,List.map_toArray,List.map_cons,List.map_nil,hy,hz,Sem.run_bind,Sem.run_pure,Result.andThen_ok,hr];exact hK _ _ h
theorem zNy (id n k:Int) (w:World):Calls prog 178 #[.agg (zAE id n k).toArray] w λe w'=>(∃ t p,e=.returned (.iface t (.pointer p)))/\Below w.heap.size w w':=by
 have r0:=(AtL.new0 w 229 (zAE id n k)).range;have hB:=zAM (Below.refl _ w) (.cells (zAE id n k).toArray 229);go_enter func178,ntmps178;go_upto_region 1 with fail
 generalize (w.alloc (.cells (zAE id n k).toArray 229))=W at *;go_wp2_with (first | (refine zAA (by rfl) 229 (.tmp 1) rfl w.heap.size 0 rfl (zAE id n k) _ r0 underlying229 rfl (by kernel_rfl) ?_) | (refine zAL rfl _ _ rfl _ rfl (zAE id n k) (by kernel_rfl) ?_))
 go_ret;exact ⟨⟨_,_,rfl⟩,(clB hB)⟩
theorem zG1 (id n k:Int) (w:World):Calls prog 179 #[.agg (zAE id n k).toArray] w λe w'=>(∃ t p,e=.returned (.iface t (.pointer p)))/\Below w.heap.size w w':=by
 have r0:=(AtL.new0 w 229 (zAE id n k)).range;have hB:=zAM (Below.refl _ w) (.cells (zAE id n k).toArray 229);go_enter func179,ntmps179;go_upto_region 1 with fail
 generalize (w.alloc (.cells (zAE id n k).toArray 229))=W at *;go_wp2_with (first | (refine zAA (by rfl) 229 (.tmp 1) rfl w.heap.size 0 rfl (zAE id n k) _ r0 underlying229 rfl (by kernel_rfl) ?_) | (refine zAL rfl _ _ rfl _ rfl (zAE id n k) (by kernel_rfl) ?_))
 go_ret;exact ⟨⟨_,_,rfl⟩,(clB hB)⟩
theorem zKO (id n k:Int) (w:World):Calls prog 180 #[.agg (zAE id n k).toArray] w λe w'=>(∃ t p,e=.returned (.iface t (.pointer p)))/\Below w.heap.size w w':=by
 have r0:=(AtL.new0 w 229 (zAE id n k)).range;have hB:=zAM (Below.refl _ w) (.cells (zAE id n k).toArray 229);go_enter func180,ntmps180;go_upto_region 1 with fail
 generalize (w.alloc (.cells (zAE id n k).toArray 229))=W at *;go_wp2_with (first | (refine zAA (by rfl) 229 (.tmp 1) rfl w.heap.size 0 rfl (zAE id n k) _ r0 underlying229 rfl (by kernel_rfl) ?_) | (refine zAL rfl _ _ rfl _ rfl (zAE id n k) (by kernel_rfl) ?_))
 go_ret;exact ⟨⟨_,_,rfl⟩,(clB hB)⟩
theorem zHk (id n k:Int) (w:World):Calls prog 181 #[.agg (zAE id n k).toArray] w λe w'=>(∃ t p,e=.returned (.iface t (.pointer p)))/\Below w.heap.size w w':=by
 have r0:=(AtL.new0 w 229 (zAE id n k)).range;have hB:=zAM (Below.refl _ w) (.cells (zAE id n k).toArray 229);go_enter func181,ntmps181;go_upto_region 1 with fail
 generalize (w.alloc (.cells (zAE id n k).toArray 229))=W at *;go_wp2_with (first | (refine zAA (by rfl) 229 (.tmp 1) rfl w.heap.size 0 rfl (zAE id n k) _ r0 underlying229 rfl (by kernel_rfl) ?_) | (refine zAL rfl _ _ rfl _ rfl (zAE id n k) (by kernel_rfl) ?_))
 go_ret;exact ⟨⟨_,_,rfl⟩,(clB hB)⟩
theorem zLS (id n k:Int) (w:World):Calls prog 182 #[.agg (zAE id n k).toArray] w λe w'=>(∃ t p,e=.returned (.iface t (.pointer p)))/\Below w.heap.size w w':=by
 have r0:=(AtL.new0 w 229 (zAE id n k)).range;have hB:=zAM (Below.refl _ w) (.cells (zAE id n k).toArray 229);go_enter func182,ntmps182;go_upto_region 1 with fail
 generalize (w.alloc (.cells (zAE id n k).toArray 229))=W at *;go_wp2_with (first | (refine zAA (by rfl) 229 (.tmp 1) rfl w.heap.size 0 rfl (zAE id n k) _ r0 underlying229 rfl (by kernel_rfl) ?_) | (refine zAl rfl _ _ _ _ _ rfl _ _ rfl rfl (zAE id n k++[.int .i64 1]) (by kernel_rfl) ?_) | (refine zAL rfl _ _ rfl _ rfl (zAE id n k) (by kernel_rfl) ?_))
 go_ret;exact ⟨⟨_,_,rfl⟩,(clB hB)⟩
theorem zFI (id n k:Int) (w:World):Calls prog 183 #[.agg (zAE id n k).toArray] w λe w'=>(∃ t p,e=.returned (.iface t (.pointer p)))/\Below w.heap.size w w':=by
 have r0:=(AtL.new0 w 229 (zAE id n k)).range;have hB:=zAM (Below.refl _ w) (.cells (zAE id n k).toArray 229);go_enter func183,ntmps183;go_upto_region 1 with fail
 generalize (w.alloc (.cells (zAE id n k).toArray 229))=W at *;go_wp2_with (first | (refine zAA (by rfl) 229 (.tmp 1) rfl w.heap.size 0 rfl (zAE id n k) _ r0 underlying229 rfl (by kernel_rfl) ?_) | (refine zAl rfl _ _ _ _ _ rfl _ _ rfl rfl (zAE id n k++[.int .i64 (-1)]) (by kernel_rfl) ?_) | (refine zAL rfl _ _ rfl _ rfl (zAE id n k) (by kernel_rfl) ?_))
 go_ret;exact ⟨⟨_,_,rfl⟩,(clB hB)⟩
theorem zGp (id n k:Int) (w:World):Calls prog 184 #[.agg (zAE id n k).toArray] w λe w'=>(∃ t p,e=.returned (.iface t (.pointer p)))/\Below w.heap.size w w':=by
 have r0:=(AtL.new0 w 229 (zAE id n k)).range;have hB:=zAM (Below.refl _ w) (.cells (zAE id n k).toArray 229);go_enter func184,ntmps184;go_upto_region 1 with fail
 generalize (w.alloc (.cells (zAE id n k).toArray 229))=W at *;go_wp2_with (first | (refine zAA (by rfl) 229 (.tmp 1) rfl w.heap.size 0 rfl (zAE id n k) _ r0 underlying229 rfl (by kernel_rfl) ?_) | (refine zAL rfl _ _ rfl _ rfl (zAE id n k) (by kernel_rfl) ?_))
 go_ret;exact ⟨⟨_,_,rfl⟩,(clB hB)⟩
theorem zNq (id n k:Int) (w:World):Calls prog 185 #[.agg (zAE id n k).toArray] w λe w'=>(∃ t p,e=.returned (.iface t (.pointer p)))/\Below w.heap.size w w':=by
 have r0:=(AtL.new0 w 229 (zAE id n k)).range;have hB:=zAM (Below.refl _ w) (.cells (zAE id n k).toArray 229);go_enter func185,ntmps185;go_upto_region 1 with fail
 generalize (w.alloc (.cells (zAE id n k).toArray 229))=W at *;go_wp2_with (first | (refine zAA (by rfl) 229 (.tmp 1) rfl w.heap.size 0 rfl (zAE id n k) _ r0 underlying229 rfl (by kernel_rfl) ?_) | (refine zAl rfl _ _ _ _ _ rfl _ _ rfl rfl (zAE id n k++[.bool false]) (by kernel_rfl) ?_) | (refine zAL rfl _ _ rfl _ rfl (zAE id n k) (by kernel_rfl) ?_))
 go_ret;exact ⟨⟨_,_,rfl⟩,(clB hB)⟩
theorem zOm (id n k:Int) (w:World):Calls prog 186 #[.agg (zAE id n k).toArray] w λe w'=>(∃ t p,e=.returned (.iface t (.pointer p)))/\Below w.heap.size w w':=by
 have r0:=(AtL.new0 w 229 (zAE id n k)).range;have hB:=zAM (Below.refl _ w) (.cells (zAE id n k).toArray 229);go_enter func186,ntmps186;go_upto_region 1 with fail
 generalize (w.alloc (.cells (zAE id n k).toArray 229))=W at *;go_wp2_with (first | (refine zAA (by rfl) 229 (.tmp 1) rfl w.heap.size 0 rfl (zAE id n k) _ r0 underlying229 rfl (by kernel_rfl) ?_) | (refine zAl rfl _ _ _ _ _ rfl _ _ rfl rfl (zAE id n k++[.bool true]) (by kernel_rfl) ?_) | (refine zAL rfl _ _ rfl _ rfl (zAE id n k) (by kernel_rfl) ?_))
 go_ret;exact ⟨⟨_,_,rfl⟩,(clB hB)⟩
theorem zOK (id n k:Int) (w:World):Calls prog 187 #[.agg (zAE id n k).toArray] w λe w'=>(∃ t p,e=.returned (.iface t (.pointer p)))/\Below w.heap.size w w':=by
 have r0:=(AtL.new0 w 229 (zAE id n k)).range;have hB:=zAM (Below.refl _ w) (.cells (zAE id n k).toArray 229);go_enter func187,ntmps187;go_upto_region 1 with fail
 generalize (w.alloc (.cells (zAE id n k).toArray 229))=W at *;go_wp2_with (first | (refine zAA (by rfl) 229 (.tmp 1) rfl w.heap.size 0 rfl (zAE id n k) _ r0 underlying229 rfl (by kernel_rfl) ?_) | (refine zAL rfl _ _ rfl _ rfl (zAE id n k) (by kernel_rfl) ?_))
 go_ret;exact ⟨⟨_,_,rfl⟩,(clB hB)⟩
theorem zHF (id n k:Int) (w:World):Calls prog 188 #[.agg (zAE id n k).toArray] w λe w'=>(∃ t p,e=.returned (.iface t (.pointer p)))/\Below w.heap.size w w':=by
 have r0:=(AtL.new0 w 229 (zAE id n k)).range;have hB:=zAM (Below.refl _ w) (.cells (zAE id n k).toArray 229);go_enter func188,ntmps188;go_upto_region 1 with fail
 generalize (w.alloc (.cells (zAE id n k).toArray 229))=W at *;go_wp2_with (first | (refine zAA (by rfl) 229 (.tmp 1) rfl w.heap.size 0 rfl (zAE id n k) _ r0 underlying229 rfl (by kernel_rfl) ?_) | (refine zAL rfl _ _ rfl _ rfl (zAE id n k) (by kernel_rfl) ?_))
 go_ret;exact ⟨⟨_,_,rfl⟩,(clB hB)⟩
theorem zGj (id n k:Int) (w:World):Calls prog 189 #[.agg (zAE id n k).toArray] w λe w'=>(∃ t p,e=.returned (.iface t (.pointer p)))/\Below w.heap.size w w':=by
 have r0:=(AtL.new0 w 229 (zAE id n k)).range;have hB:=zAM (Below.refl _ w) (.cells (zAE id n k).toArray 229);go_enter func189,ntmps189;go_upto_region 1 with fail
 generalize (w.alloc (.cells (zAE id n k).toArray 229))=W at *;go_wp2_with (first | (refine zAA (by rfl) 229 (.tmp 1) rfl w.heap.size 0 rfl (zAE id n k) _ r0 underlying229 rfl (by kernel_rfl) ?_) | (refine zAL rfl _ _ rfl _ rfl (zAE id n k) (by kernel_rfl) ?_))
 go_ret;exact ⟨⟨_,_,rfl⟩,(clB hB)⟩
theorem zGm (id n k:Int) (w:World):Calls prog 190 #[.agg (zAE id n k).toArray] w λe w'=>(∃ t p,e=.returned (.iface t (.pointer p)))/\Below w.heap.size w w':=by
 have r0:=(AtL.new0 w 229 (zAE id n k)).range;have hB:=zAM (Below.refl _ w) (.cells (zAE id n k).toArray 229);go_enter func190,ntmps190;go_upto_region 1 with fail
 generalize (w.alloc (.cells (zAE id n k).toArray 229))=W at *;go_wp2_with (first | (refine zAA (by rfl) 229 (.tmp 1) rfl w.heap.size 0 rfl (zAE id n k) _ r0 underlying229 rfl (by kernel_rfl) ?_) | (refine zAL rfl _ _ rfl _ rfl (zAE id n k) (by kernel_rfl) ?_))
 go_ret;exact ⟨⟨_,_,rfl⟩,(clB hB)⟩
theorem zJ2 (id n k:Int) (w:World):Calls prog 191 #[.agg (zAE id n k).toArray] w λe w'=>(∃ t p,e=.returned (.iface t (.pointer p)))/\Below w.heap.size w w':=by
 have r0:=(AtL.new0 w 229 (zAE id n k)).range;have hB:=zAM (Below.refl _ w) (.cells (zAE id n k).toArray 229);go_enter func191,ntmps191;go_upto_region 1 with fail
 generalize (w.alloc (.cells (zAE id n k).toArray 229))=W at *;go_wp2_with (first | (refine zAA (by rfl) 229 (.tmp 1) rfl w.heap.size 0 rfl (zAE id n k) _ r0 underlying229 rfl (by kernel_rfl) ?_) | (refine zAL rfl _ _ rfl _ rfl (zAE id n k) (by kernel_rfl) ?_))
 go_ret;exact ⟨⟨_,_,rfl⟩,(clB hB)⟩
theorem zN1 (id n k:Int) (w:World):Calls prog 192 #[.agg (zAE id n k).toArray] w λe w'=>(∃ t p,e=.returned (.iface t (.pointer p)))/\Below w.heap.size w w':=by
 have r0:=(AtL.new0 w 229 (zAE id n k)).range;have hB:=zAM (Below.refl _ w) (.cells (zAE id n k).toArray 229);go_enter func192,ntmps192;go_upto_region 1 with fail
 generalize (w.alloc (.cells (zAE id n k).toArray 229))=W at *;go_wp2_with (first | (refine zAA (by rfl) 229 (.tmp 1) rfl w.heap.size 0 rfl (zAE id n k) _ r0 underlying229 rfl (by kernel_rfl) ?_) | (refine zAL rfl _ _ rfl _ rfl (zAE id n k) (by kernel_rfl) ?_))
 go_ret;exact ⟨⟨_,_,rfl⟩,(clB hB)⟩
theorem zJm (id n k:Int) (w:World):Calls prog 193 #[.agg (zAE id n k).toArray] w λe w'=>(∃ t p,e=.returned (.iface t (.pointer p)))/\Below w.heap.size w w':=by
 have r0:=(AtL.new0 w 229 (zAE id n k)).range;have hB:=zAM (Below.refl _ w) (.cells (zAE id n k).toArray 229);go_enter func193,ntmps193;go_upto_region 1 with fail
 generalize (w.alloc (.cells (zAE id n k).toArray 229))=W at *;go_wp2_with (first | (refine zAA (by rfl) 229 (.tmp 1) rfl w.heap.size 0 rfl (zAE id n k) _ r0 underlying229 rfl (by kernel_rfl) ?_) | (refine zAL rfl _ _ rfl _ rfl (zAE id n k) (by kernel_rfl) ?_))
 go_ret;exact ⟨⟨_,_,rfl⟩,(clB hB)⟩
theorem zGo (id n k:Int) (w:World):Calls prog 194 #[.agg (zAE id n k).toArray] w λe w'=>(∃ t p,e=.returned (.iface t (.pointer p)))/\Below w.heap.size w w':=by
 have r0:=(AtL.new0 w 229 (zAE id n k)).range;have hB:=zAM (Below.refl _ w) (.cells (zAE id n k).toArray 229);go_enter func194,ntmps194;go_upto_region 1 with fail
 generalize (w.alloc (.cells (zAE id n k).toArray 229))=W at *;go_wp2_with (first | (refine zAA (by rfl) 229 (.tmp 1) rfl w.heap.size 0 rfl (zAE id n k) _ r0 underlying229 rfl (by kernel_rfl) ?_) | (refine zAL rfl _ _ rfl _ rfl (zAE id n k) (by kernel_rfl) ?_))
 go_ret;exact ⟨⟨_,_,rfl⟩,(clB hB)⟩
theorem zLA (id n k:Int) (w:World):Calls prog 195 #[.agg (zAE id n k).toArray] w λe w'=>(∃ t p,e=.returned (.iface t (.pointer p)))/\Below w.heap.size w w':=by
 have r0:=(AtL.new0 w 229 (zAE id n k)).range;have hB:=zAM (Below.refl _ w) (.cells (zAE id n k).toArray 229);go_enter func195,ntmps195;go_upto_region 1 with fail
 generalize (w.alloc (.cells (zAE id n k).toArray 229))=W at *;go_wp2_with (first | (refine zAA (by rfl) 229 (.tmp 1) rfl w.heap.size 0 rfl (zAE id n k) _ r0 underlying229 rfl (by kernel_rfl) ?_) | (refine zAL rfl _ _ rfl _ rfl (zAE id n k) (by kernel_rfl) ?_))
 go_ret;exact ⟨⟨_,_,rfl⟩,(clB hB)⟩
theorem zIb (id n k:Int) (w:World):Calls prog 196 #[.agg (zAE id n k).toArray] w λe w'=>(∃ t p,e=.returned (.iface t (.pointer p)))/\Below w.heap.size w w':=by
 have r0:=(AtL.new0 w 229 (zAE id n k)).range;have hB:=zAM (Below.refl _ w) (.cells (zAE id n k).toArray 229);go_enter func196,ntmps196;go_upto_region 1 with fail
 generalize (w.alloc (.cells (zAE id n k).toArray 229))=W at *;go_wp2_with (first | (refine zAA (by rfl) 229 (.tmp 1) rfl w.heap.size 0 rfl (zAE id n k) _ r0 underlying229 rfl (by kernel_rfl) ?_) | (refine zAL rfl _ _ rfl _ rfl (zAE id n k) (by kernel_rfl) ?_))
 go_ret;exact ⟨⟨_,_,rfl⟩,(clB hB)⟩
theorem zDZ (id n k:Int) (w:World):Calls prog 197 #[.agg (zAE id n k).toArray] w λe w'=>(∃ t p,e=.returned (.iface t (.pointer p)))/\Below w.heap.size w w':=by
 have r0:=(AtL.new0 w 229 (zAE id n k)).range;have hB:=zAM (Below.refl _ w) (.cells (zAE id n k).toArray 229);go_enter func197,ntmps197;go_upto_region 1 with fail
 generalize (w.alloc (.cells (zAE id n k).toArray 229))=W at *;go_wp2_with (first | (refine zAA (by rfl) 229 (.tmp 1) rfl w.heap.size 0 rfl (zAE id n k) _ r0 underlying229 rfl (by kernel_rfl) ?_) | (refine zAL rfl _ _ rfl _ rfl (zAE id n k) (by kernel_rfl) ?_))
 go_ret;exact ⟨⟨_,_,rfl⟩,(clB hB)⟩
def zHb:List Value:=[.int .i64 0,.int .i64 0,.int .i64 0,.int .i64 0,.int .i64 0,.int .i64 0,.int .i64 0,.string ⟨#[]⟩,.bool false,.int .i64 0,.int .i64 0,.int .i64 0,.int .i64 0,.string ⟨#[]⟩,.bool false,.int .i64 0,.bool false,.bool false,.bool false,.int .i64 0,.int .i64 0]
abbrev oneA (w:World):World:=w.alloc (.cells #[.int .i64 0,.int .i64 0,.int .i64 0,.int .i64 0,.int .i64 0,.int .i64 0,.int .i64 0,.string ⟨#[]⟩,.bool false,.int .i64 0,.int .i64 0,.int .i64 0,.int .i64 0,.string ⟨#[]⟩,.bool false,.int .i64 0,.bool false,.bool false,.bool false,.int .i64 0,.int .i64 0] 198)
