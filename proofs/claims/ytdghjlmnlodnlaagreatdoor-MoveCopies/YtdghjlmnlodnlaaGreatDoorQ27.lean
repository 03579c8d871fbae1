/- TRefF, TAppN, MRefB. -/
import Derived.Test.YtdghjlmnlodnlaaGreatDoorQ26
set_option maxHeartbeats 8000000
set_option maxRecDepth 100000
namespace Go.Proofs.YtdghjlmnlodnlaaGreatDoor
open Go.RowKit Tryz
set_option linter.unusedVariables false
variable {w:World} {a:Act} {Q:Exit->Act->World->Prop} {L:List Wt.Nd} {ops:Array Oper} {rest:List Oper} {op:Oper}
theorem zH5 {o:Int} (h21:¬ o=21) (h22:¬ o=22) (h23:¬ o=23) (h24:¬ o=24) (h25:¬ o=25) (h26:¬ o=26) (h16:¬ o=16) (h11:¬ o=11) (h12:¬ o=12) (h13:¬ o=13) (h14:¬ o=14) (h15:¬ o=15) (h1:¬ o=1) (h2:¬ o=2) (h3:¬ o=3):opK o=0:=by
 have e:Wt.opOf o=none:=by
  unfold Wt.opOf;rw [List.find?_eq_none];intro x hx;simp only [Wt.opsT,List.mem_cons,List.not_mem_nil,or_false] at hx;rcases hx with rfl | rfl | rfl | rfl | rfl | rfl | rfl | rfl | rfl | rfl | rfl | rfl | rfl | rfl | rfl <;> simp only [beq_iff_eq] <;> omega
 unfold opK;rw [e]
theorem zMy (o:Int):(opK o == 4)=zEF o:=by
 by_cases h21:o=21
 ·subst h21;rfl
 by_cases h22:o=22
 ·subst h22;rfl
 by_cases h23:o=23
 ·subst h23;rfl
 by_cases h24:o=24
 ·subst h24;rfl
 by_cases h25:o=25
 ·subst h25;rfl
 by_cases h26:o=26
 ·subst h26;rfl
 by_cases h16:o=16
 ·subst h16;rfl
 by_cases h11:o=11
 ·subst h11;rfl
 by_cases h12:o=12
 ·subst h12;rfl
 by_cases h13:o=13
 ·subst h13;rfl
 by_cases h14:o=14
 ·subst h14;rfl
 by_cases h15:o=15
 ·subst h15;rfl
 by_cases h1:o=1
 ·subst h1;rfl
 by_cases h2:o=2
 ·subst h2;rfl
 by_cases h3:o=3
 ·subst h3;rfl
 rw [zH5 h21 h22 h23 h24 h25 h26 h16 h11 h12 h13 h14 h15 h1 h2 h3];simp [zEF,h1,h2,h3]
theorem zK0 (o:Int):(opK o == 5)=Wt.isBin o:=by
 by_cases h21:o=21
 ·subst h21;rfl
 by_cases h22:o=22
 ·subst h22;rfl
 by_cases h23:o=23
 ·subst h23;rfl
 by_cases h24:o=24
 ·subst h24;rfl
 by_cases h25:o=25
 ·subst h25;rfl
 by_cases h26:o=26
 ·subst h26;rfl
 by_cases h16:o=16
 ·subst h16;rfl
 by_cases h11:o=11
 ·subst h11;rfl
 by_cases h12:o=12
 ·subst h12;rfl
 by_cases h13:o=13
 ·subst h13;rfl
 by_cases h14:o=14
 ·subst h14;rfl
 by_cases h15:o=15
 ·subst h15;rfl
 by_cases h1:o=1
 ·subst h1;rfl
 by_cases h2:o=2
 ·subst h2;rfl
 by_cases h3:o=3
 ·subst h3;rfl
 rw [zH5 h21 h22 h23 h24 h25 h26 h16 h11 h12 h13 h14 h15 h1 h2 h3];unfold Wt.isBin;have e1:(decide (11<=o) && decide (o<=16))=false:=by
  rw [Bool.and_eq_false_iff,decide_eq_false_iff_not,decide_eq_false_iff_not];omega
 have e2:(decide (21<=o) && decide (o<=26))=false:=by
  rw [Bool.and_eq_false_iff,decide_eq_false_iff_not,decide_eq_false_iff_not];omega
 rw [e1,e2];rfl
theorem zOo (x:Wt.Nd) (w:World) (h1:(x.k == 1)=false) (h2:(x.k == 2)=false) (h3:(x.k == 3)=false) (h4:(x.k == 4)=false) (h5:(x.k == 5)=false) (h6:(x.k == 6)=false) :
  CR 48 #[ndV x] w (.tuple #[.int .i64 0,.bool false]):=by
 obtain ⟨k,hk⟩:∃ k,x.k=k:=⟨_,rfl⟩
 rw [hk] at h1 h2 h3 h4 h5 h6;have pA:AtL (w.alloc (.cells (zAE x).toArray 30)) w.heap.size (zAE x):=AtL.new0 w _ _;have hBa:Below w.heap.size w (w.alloc (.cells (zAE x).toArray 30)):=zAI (Below.refl _ w) _;show Calls _ _ #[.agg (zAE x).toArray] _ _
 go_enter func48,ntmps48;go_upto_region 1 with fail
 generalize (w.alloc (.cells (zAE x).toArray 30))=W0 at *;have a0:W0.cell? ⟨w.heap.size,0,none⟩=some (.int .i64 k):=by rw [<-hk];exact pA.2.1 0 _ rfl
 go_wp2;go_ret2
 exact ⟨rfl,hBa⟩
theorem zF0 (x:Wt.Nd) (w:World) (hf:Wt.FitN x):CR 48 #[ndV x] w (.tuple #[.int .i64 (nps x),.bool (Wt.right x)]):=by
 obtain ⟨f1,f6,f7,f8⟩:=hf;unfold Wt.right nps;by_cases h1:x.k=1
 ·rw [if_pos h1,if_neg (by omega),if_neg (by omega),if_neg (by omega)];exact zNw x w h1 f1
 rw [if_neg h1];by_cases h2:x.k=2
 ·rw [if_pos h2,if_neg (by omega),if_neg (by omega),if_neg (by omega)];exact zOu x w h2 f7
 rw [if_neg h2];by_cases h3:x.k=3
 ·rw [if_pos h3,if_neg (by omega),if_neg (by omega),if_neg (by omega)];exact zN6 x w h3 f7 f8
 rw [if_neg h3];by_cases h4:x.k=4
 ·rw [if_pos h4,if_pos h4,zMy];exact zOW x w h4
 rw [if_neg h4,if_neg h4];by_cases h5:x.k=5
 ·rw [if_pos h5,if_pos h5,zK0];exact zNg x w h5
 rw [if_neg h5,if_neg h5];by_cases h6:x.k=6
 ·rw [if_pos h6,if_pos h6];exact zPJ x w h6 f6
 rw [if_neg h6,if_neg h6];exact zOo x w (by simp [h1]) (by simp [h2]) (by simp [h3]) (by simp [h4]) (by simp [h5]) (by simp [h6])
theorem zH0 (av:Option Addr) (cap:Nat) (L:List Wt.Nd) (hL:L.length<=256) (hF:∀ x ∈ L,Wt.FitN x) (f:Nat):f<=1000->∀ (p:Nat) (w:World),L.length<f+p->p<=256->RdN w av L ->
  CR 30 #[.slice av L.length cap,.int .i64 p] w (MP (Wt.one f (L.drop p)) p):=by
 have past:∀ (f p:Nat) (w:World),¬ p<L.length->p<=256->CR 30 #[.slice av L.length cap,.int .i64 p] w (MP (Wt.one f (L.drop p)) p):=by
  intro f p w hlt hp;have hd:L.drop p=[]:=List.drop_eq_nil_of_le (by omega);have E:Hid (Wt.one f (L.drop p)=none):=by
   show _=_
   rw [hd];cases f <;> rfl
  rw [E.out];clear E hd;have hli:(L.length:Int)<=(p:Int):=by omega
  go_enter func30,ntmps30;go_wp2;go_ret3
  exact ⟨rfl,Below.refl _ _⟩
 induction f with
 | zero=>intro _ p w hf hp hr;exact past 0 p w (by omega) hp
 | succ f ih =>
  intro hf1 p w hf hp hr;by_cases hlt:p<L.length
  ·clear past;replace ih:=ih (by omega)
   obtain ⟨bb,off,rfl,hx⟩:=hr p hlt;have hd:=List.drop_eq_getElem_cons hlt;have hfit:=hF _ (List.getElem_mem hlt);have HR:Hid (RdN w (some ⟨bb,off,none⟩) L):=hr;clear hr;rw [hd];generalize L[p]=x at *;have C:=zF0 x w hfit;have hple:=@Wt.parts_le x;have hnp:=@zFl x;have hli:¬ (L.length:Int)<=(p:Int):=by omega
   cases hq:Wt.right x with
   | false =>
    rw [hq] at C;rw [zKV hq];generalize nps x=np at *;clear ih hnp hple;go_enter func30,ntmps30;go_wp2_with ((with_reducible refine zAF ?_ 30 (.tmp 21) ?_ bb (off+p * 20) ?_ (zAE x) _ ?_ underlying30 ?_ ?_ ?_);rfl;rfl;rfl;exact hx;rfl;kernel_rfl)
    refine C.mono ?_;rintro e w1 ⟨rfl,hb⟩;go_wp2;go_ret3
    exact ⟨rfl,hb⟩
   | true =>
    rw [hq] at C;obtain ⟨hk0,hk1⟩:=hple hq;rw [zIr hq];rw [hnp hq] at C;clear hple hq hnp;obtain ⟨k,hk⟩:∃ k:Nat,(Wt.parts x).toNat=k:=⟨_,rfl⟩
    have hkk:Wt.parts x=(k:Int):=by omega
    rw [hk];rw [hkk] at C;have hk2:k<=30:=by omega
    clear hk0 hk1 hk hkk;obtain ⟨R,hR⟩:∃ R,left f k L (p+1) 0=R:=⟨_,rfl⟩
    have E0:Hid (R=left f (k - 0) L (p+1) 0):=hR.symm;rw [hR];clear hR;have IH:Hid (∀ (p:Nat) (w:World),L.length<f+p->p<=256->RdN w (some ⟨bb,off,none⟩) L->CR 30 #[.slice (some ⟨bb,off,none⟩) L.length cap,.int .i64 p] w (MP (Wt.one f (L.drop p)) p)):=ih;clear ih;go_enter func30,ntmps30;go_wp2_with ((with_reducible refine zAF ?_ 30 (.tmp 21) ?_ bb (off+p * 20) ?_ (zAE x) _ ?_ underlying30 ?_ ?_ ?_);rfl;rfl;rfl;exact hx;rfl;kernel_rfl)
    refine C.mono ?_;rintro e w2 ⟨rfl,hB2⟩;have HR2:Hid (RdN w2 (some ⟨bb,off,none⟩) L):=HR.out.below hB2;clear C hx HR hfit;go_wp2_with fail
    go_loopg [1,9,10] k (λgk a b c wr=>∃ j e d:Nat,a=.int .i64 e/\b=.int .i64 d/\c=.int .i64 j/\gk=k - j/\j<=k/\p+1<=e/\e<=L.length/\d<=f/\Hid (R=left f (k - j) L e d)/\Below w.heap.size w wr/\Hid (RdN wr (some ⟨bb,off,none⟩) L))
    case atStart=>exact ⟨0,p+1,0,by simp,rfl,rfl,rfl,Nat.zero_le _,Nat.le_refl _,hlt,Nat.zero_le _,E0,hB2,HR2⟩
    case round =>
     obtain ⟨j,e,d,rfl,rfl,rfl,hg,hj,he1,he2,hdd,HE,hB,HR3⟩:=hrel;by_cases hjk:j<k
     ·have hji:(j:Int)<(k:Int):=by omega
      have M:=IH.out e wr (by omega) (by omega) HR3.out;have hkj:k - j=(k - (j+1))+1:=by omega
      rw [hkj] at HE;cases hone:Wt.one f (L.drop e) with
      | none =>
       have E:Hid (R=none):=by show _=_;rw [HE.out,zFo hone]
       rw [hone] at M;clear HE hone IH;go_wp2_with fail
       refine M.mono ?_;rintro e9 w3 ⟨rfl,hb⟩;have hB3:=zAA hB hb;simp only [MP];go_wp2;go_ret3
       exact ⟨by rw [E.out];rfl,hB3⟩
      | some q =>
       obtain ⟨s,d'⟩:=q;have h1:=zDs _ _ _ _ hone;have h2:=zBs _ _ _ _ hone;rw [List.length_drop] at h1;have E:Hid (R=left f (k - (j+1)) L (e+s) (max d d')):=by show _=_;rw [HE.out,zFT hone]
       rw [hone] at M;clear HE hone IH;go_wp2_with fail
       refine M.mono ?_;rintro e9 w3 ⟨rfl,hb⟩;have hB3:=zAA hB hb;have HR4:Hid (RdN w3 (some ⟨bb,off,none⟩) L):=HR3.out.below hb;simp only [MP];go_wp2_with fail
       all_goals
        go_roundg (k - (j+1))
        case rel=>exact ⟨j+1,e+s,max d d',by simp,by first | (simp;done) | (simp;omega),by simp,rfl,hjk,by omega,by omega,by omega,E,hB3,HR4⟩
        case measure=>omega
     ·have hji:¬ (j:Int)<(k:Int):=by omega
      have E:Hid (R=some (e,d)):=by show _=_;rw [HE.out,show k - j=0 by omega,zGB]
      clear HE IH;go_wp2;go_ret3
      exact ⟨by rw [E.out];rfl,hB⟩
  ·exact past (f+1) p w hlt hp
theorem zDE (av:Option Addr) (cap:Nat) (L:List Wt.Nd) (w:World) (hL:L.length<=9223372036854775807) (hF:∀ x ∈ L,Wt.FitN x) (hr:RdN w av L) :
  CR 16 #[.slice av L.length cap] w (.int .i64 (Wt.check L)):=by
 unfold Wt.check;by_cases h:256<L.length
 ·rw [if_pos h];have hi:(256:Int)<(L.length:Int):=by omega
  go_enter func16,ntmps16;go_wp2;go_ret;exact ⟨rfl,Below.refl _ _⟩
 rw [if_neg h];have hi:¬ (256:Int)<(L.length:Int):=by omega
 have M:=zH0 av cap L (by omega) hF (L.length+1) (by omega) 0 w (by omega) (by omega) hr;rw [List.drop_zero] at M;have h1:=zDs (L.length+1) L;cases hone:Wt.one (L.length+1) L with
 | none =>
  rw [hone] at M;clear h1;go_enter func16,ntmps16;go_wp2_with fail
  refine M.mono ?_;rintro e w1 ⟨rfl,hb⟩;simp only [MP];go_wp2;go_ret;exact ⟨rfl,hb⟩
 | some q =>
  obtain ⟨s,d⟩:=q;rw [hone] at M;have h2:=zBs _ _ _ _ hone;replace h1:=h1 s d hone
  simp only [MP,Nat.zero_add] at M;simp only;by_cases hs:s=L.length
  ·rw [if_neg (by omega)];have hsi:((s:Int) == (L.length:Int))=true:=by rw [beq_iff_eq];omega
   have hsi2:(s:Int)=(L.length:Int):=by omega
   by_cases hd:32<d
   ·rw [if_pos hd];have hdi:(32:Int)<(d:Int):=by omega
    go_enter func16,ntmps16;go_wp2_with fail
    refine M.mono ?_;rintro e w1 ⟨rfl,hb⟩;go_wp2;go_ret;exact ⟨rfl,hb⟩
   ·rw [if_neg hd];have hdi:¬ (32:Int)<(d:Int):=by omega
    go_enter func16,ntmps16;go_wp2_with fail
    refine M.mono ?_;rintro e w1 ⟨rfl,hb⟩;go_wp2;go_ret;exact ⟨rfl,hb⟩
  ·rw [if_pos hs];have hsi:((s:Int) == (L.length:Int))=false:=by rw [beq_eq_false_iff_ne];omega
   have hsi2:¬ (s:Int)=(L.length:Int):=by omega
   go_enter func16,ntmps16;go_wp2_with fail
   refine M.mono ?_;rintro e w1 ⟨rfl,hb⟩;go_wp2;go_ret;exact ⟨rfl,hb⟩
theorem RdN.at {bb off:Nat} (h:RdN w (some ⟨bb,off,none⟩) L) (i:Nat) (hi:i<L.length):w.rangeAt bb (off+i * 20) (zAE L[i]):=by
 obtain ⟨b2,o2,e,hx⟩:=h i hi;simp only [Option.some.injEq,Addr.mk.injEq] at e;obtain ⟨rfl,rfl,-⟩:=e;exact hx
theorem zC0 (hc:Wt.check L=0) (i:Nat) (hi:i<L.length):Wt.right L[i]=true:=by
 obtain ⟨h256,d,hone,hd⟩:=zAa hc;obtain ⟨s',d',hs,hle,hdl⟩:=zEl _ _ _ _ hone i hi;rw [List.drop_eq_getElem_cons hi] at hs;exact (zHC hs).1
open Go.RowKit Go.Shelf Tryz
theorem zGD (a b:List Wt.Nd):zA6 (a++b)=zA6 a++zA6 b:=by simp [zA6]
theorem zBB {rest:List Oper} {o:Oper} {Q:Exit->Act->World->Prop} (hw:Region.wanted o (yielded ops a.tmps)=true) (s x:Operand) (ho:o.op=.call {callee:=.builtin .append,args:=#[s,x],argTypes:=#[22,22]})
  (w0 w:World) (hB:Below w0.heap.size w0 w) (v:Value) (A:List Wt.Nd) (hs:a.eval s=v) (hown:OwnN w w0.heap.size v A) (av:Option Addr) (L:List Wt.Nd) (cap:Nat) (hx:a.eval x=.slice av L.length cap) (hr:RdN w av L) (hpos:0<L.length) (hl:True->A.length+L.length<=799644820179)
  (h:∀ v' w',OwnN w' w0.heap.size v' (A++L)->Below w0.heap.size w0 w'->wpList prog ops Q rest (a.put o.dst v') w'):wpList prog ops Q (o::rest) a w:=by
 obtain ⟨i0,hi0,hz0,hz1,hz2⟩:=info_parts zCe;have hl:=hl trivial;obtain ⟨bb,off,rfl,-⟩:=hr 0 hpos;refine BigFrame.wpList_want hw λ_ hK=>?_
 refine wp_append_own _ s x 22 ho w0.heap.size 30 i0 _ 20 176 underlying22 hi0 hz0 hz1 hz2 rfl (by decide) v A.length (zA6 A) hs hown ⟨bb,off,none⟩ L.length cap (zA6 L) hx (zA5 L) (hr.flat _ rfl) (zDm L) (by unfold maxLen;omega) (by omega) hB.size ?_;intro v' w' own hg _;refine hK _ _ (h v' w' ?_ ?_)
 ·unfold OwnN;rw [List.length_append,zGD];exact own
 ·refine hB.grown hg hB.size (λk e=>?_);rcases hown.2 with ⟨e2,_⟩ | ⟨g,cap',cur,e2,hg',_⟩
  ·rw [e2] at e;simp [Value.ownBlock] at e
  ·rw [e2] at e;simp [Value.ownBlock] at e;omega
theorem zAf (w:World) (x:Wt.Nd):OwnN (w.alloc (.cells (zAE x).toArray 30)) w.heap.size (.slice (some ⟨w.heap.size,0,none⟩) 1 1) [x]:=by
 refine ⟨rfl,.inr ⟨w.heap.size,1,(zAE x).toArray,rfl,Nat.le_refl _,heap_alloc_new w _,Nat.le_refl _,by unfold maxLen;omega,rfl,?_⟩⟩;simp [zA6];rfl
theorem zRr (w:World):(Instr.build 30 #[(0,.int .i64 1),(1,.agg #[.int .i64 4,.int .i64 0,.int .i64 0,.string ⟨#[]⟩,.bool false,.int .i64 3])]).run prog w=.ok (.agg (zAE zA0).toArray) w:=by kernel_rfl
theorem zMH {K:Act->World->Prop} (y z:Operand) (ho:op.op=.build 30 #[(0,y),(1,z)]) (hy:a.eval y=.int .i64 1) (hz:a.eval z=.agg #[.int .i64 4,.int .i64 0,.int .i64 0,.string ⟨#[]⟩,.bool false,.int .i64 3])
  (h:K (a.put op.dst (.agg (zAE zA0).toArray)) w):op.wp prog a w K Q:=by
 unfold Oper.wp execOp;simp only [ho,List.map_toArray,List.map_cons,List.map_nil,hy,hz,Sem.run_bind,Sem.run_pure,Result.andThen_ok,zRr];exact h
theorem zFt (hgd:op.guard=none) (y z:Operand) (ho:op.op=.build 30 #[(0,y),(1,z)]) (hy:a.eval y=.int .i64 1) (hz:a.eval z=.agg #[.int .i64 4,.int .i64 0,.int .i64 0,.string ⟨#[]⟩,.bool false,.int .i64 3])
  (h:wpList prog ops Q rest (a.put op.dst (.agg (zAE zA0).toArray)) w):wpList prog ops Q (op::rest) a w :=
 wpList_plain hgd λ_ hK=>zMH y z ho hy hz (hK _ _ h)
theorem zJW (av:Option Addr) (cap:Nat) (L:List Wt.Nd) (x y:Int) (w:World) (hF:∀ n ∈ L,Wt.FitN n) (hr:RdN w av L) (hc:Wt.check L=0) (hx:-9223372036854775808<=x/\x<=9223372036854775807) (hy:-9223372036854775808<=y/\y<=9223372036854775807) :
  Calls prog 7 #[.slice av L.length cap,.int .i64 x,.int .i64 y] w λe w'=>(∃ v,e=.returned (.tuple #[v,.int .i64 0])/\OwnN w' w.heap.size v (L.map (mvN x y)))/\Below w.heap.size w w':=by
 obtain ⟨h256,d,hone,-⟩:=zAa hc;have hpos:0<L.length:=by have:=zC2 _ _ _ _ hone;omega
 obtain ⟨bb,off,rfl,-⟩:=hr 0 hpos;have CK:=zDE (some ⟨bb,off,none⟩) cap L w (by omega) hF hr;rw [hc] at CK;have HR:Hid (RdN w (some ⟨bb,off,none⟩) L):=hr;have HRT:Hid (∀ i (hi:i<L.length),Wt.right L[i]=true):=zC0 hc;have H256:True->L.length<=256:=λ_=>h256
 have HX:Hid (∀ (a:Wt.Rf) (w:World),Wt.rfOk a=true->CR 17 #[.agg (rf5 a).toArray,.int .i64 x,.int .i64 y] w (.tuple #[.agg (rf5 (zGH x y a)).toArray,.bool (zPW x y a)])):=λa w h=>zLh x y a w h hx hy
 clear hone hc hF hr h256 hx hy;go_enter func7,ntmps7;go_wp2_with fail
 refine CK.mono ?_;rintro e w1 ⟨rfl,hb1⟩;have pZ:AtL (w1.alloc (.cells zC 30)) w1.heap.size (zAE zF8):=AtL.new0 w1 _ _;have tZ:(w1.alloc (.cells zC 30)).there w1.heap.size 0 (zAE zA0).toArray.size:=pZ.there;have pL:AtL ((w1.alloc (.cells zC 30)).setCells w1.heap.size 0 (zAE zA0)) w1.heap.size (zAE zA0):=pZ.setAll rfl;have hbl:Below w1.heap.size w1 ((w1.alloc (.cells zC 30)).setCells w1.heap.size 0 (zAE zA0)):=zAg (zAI (Below.refl _ w1) _) (Nat.le_refl _) _ 0;have hB2:=zAA hb1 hbl;clear pZ CK;go_upto_region 5 with (first
  | (with_reducible refine zFt (by rfl) (.const (.int .i64 1)) (.tmp 20) (by rfl) (by rfl) (by rfl) ?_)
  | ((with_reducible refine wpList_store_mid ?_ 30 (.tmp 9) (.tmp 21) ?_ (w1.heap.size) 0 (zAE zA0).toArray ?_ ?_ ?_ ?_ ?_ ?_);rfl;rfl;rfl;rfl;exact tZ;kernel_rfl;exact zA4 _))
 generalize (w1.alloc (.cells zC 30)).setCells w1.heap.size 0 (zAE zA0).toArray.toList=W2 at *;obtain ⟨kl,hkl⟩:∃ kl,w1.heap.size=kl:=⟨_,rfl⟩
 rw [hkl] at pL ⊢;clear tZ hbl hb1 hkl;have HL0:Hid (AtL W2 kl (zAE zA0)):=pL;have HR2:Hid (RdN W2 (some ⟨bb,off,none⟩) L):=HR.out.below hB2;clear pL HR;go_wp2_with fail
 go_loopg [10,11] (L.length) (λgk a b wr=>∃ i:Nat,b=.int .i64 i/\gk=L.length - i/\i<=L.length/\Hid (OwnN wr W2.heap.size a ((L.take i).map (mvN x y)))/\Below W2.heap.size W2 wr)
 case atStart=>exact ⟨0,rfl,rfl,Nat.zero_le _,World.ownsRow_nil _ _ _ _,Below.refl _ _⟩
 case round =>
  obtain ⟨i,rfl,hg,hi,HO,hB⟩:=hrel;by_cases hlt:i<L.length
  ·have hli:(i:Int)<(L.length:Int):=by omega
   have hx0:=(HR2.out.below hB).at i hlt;have hrt:=HRT.out i hlt;have HTK:Hid ((L.take (i+1)).map (mvN x y)=(L.take i).map (mvN x y)++[mvN x y L[i]]):=by show _=_;rw [List.take_succ_eq_append_getElem hlt,List.map_append];rfl
   generalize L[i]=q at *;have HAL:True->((L.take i).map (mvN x y)).length+1<=799644820179:=λ_=>by have:=H256 trivial;simp;omega
   generalize (L.take i).map (mvN x y)=A at *;have hi256:(i:Int)<=256:=by have:=H256 trivial;omega
   have pZ:AtL (wr.alloc (.cells zC 30)) wr.heap.size (zAE zF8):=AtL.new0 wr _ _;have tZ:(wr.alloc (.cells zC 30)).there wr.heap.size 0 (zAE q).toArray.size:=pZ.there;have pN:AtL ((wr.alloc (.cells zC 30)).setCells wr.heap.size 0 (zAE q)) wr.heap.size (zAE q):=pZ.setAll rfl;have hbr:Below wr.heap.size wr ((wr.alloc (.cells zC 30)).setCells wr.heap.size 0 (zAE q)):=zAg (zAI (Below.refl _ wr) _) (Nat.le_refl _) _ 0;clear pZ HR2 HRT;obtain ⟨n2,hn2⟩:∃ n2,mvN x y q=n2:=⟨_,rfl⟩
   rw [hn2] at HTK;have HN2:Hid (mvN x y q=n2):=hn2;clear hn2;by_cases hk2:q.k=2
   ·have hk:=hk2;have hA:=(zCv hrt hk2).1;have E1:=zE1 (x:=x) (y:=y) hA;cases hq:okR x y q.a with
    | true =>
     have HM:Hid ((⟨q.k,q.v,q.op,q.nm,q.ar,zGH x y q.a,q.b⟩:Wt.Nd)=n2):=by show _=_;rw [<-HN2.out,zGo hA hq];unfold mvN;rw [if_pos hk2,hq];rfl
     rw [hq] at E1;go_upto_region 12 with (first
      | ((with_reducible refine wpList_load_mid (cs:=zAE q) ?_ 30 (.tmp 30) ?_ (bb) (off+i * 20) ?_ _ ?_ underlying30 ?_ ?_ ?_);rfl;rfl;rfl;exact hx0;rfl;kernel_rfl)
      | ((with_reducible refine wpList_store_mid ?_ 30 (.tmp 12) (.tmp 31) ?_ (wr.heap.size) 0 (zAE q).toArray ?_ ?_ ?_ ?_ ?_ ?_);rfl;rfl;rfl;rfl;exact tZ;kernel_rfl;exact zA4 _))
     generalize (wr.alloc (.cells zC 30)).setCells wr.heap.size 0 (zAE q).toArray.toList=W3 at *;clear tZ hx0;have n0:W3.cell? ⟨wr.heap.size,0,none⟩=some (.int .i64 2):=by first | exact pN.2.1 0 _ rfl | (rw [<-hk];exact pN.2.1 0 _ rfl)
     go_upto_region 13 with fail
     have rA:=zHE pN;go_wp2_with ((with_reducible refine wpList_load_mid (cs:=rf5 q.a) ?_ 28 (.tmp 41) ?_ (wr.heap.size) 10 ?_ _ ?_ underlying28 ?_ ?_ ?_);rfl;rfl;rfl;exact rA;rfl;kernel_rfl)
     have CX:=λw=>HX.out q.a w hA
     rw [E1] at CX;refine (CX _).mono ?_;rintro e vW4 ⟨rfl,hb⟩;replace hbr:=zAA hbr hb
     replace pN:=AtL.below hb pN
     generalize zGH x y q.a=a2 at *;have sT:vW4.there wr.heap.size 10 (rf5 a2).toArray.size:=pN.thereSub 10 5 (by show 10+5<=20;omega);replace pN:=zBd pN a2
     replace hbr:=zAg hbr (Nat.le_refl _) (rf5 a2) 10
     clear hb rA CX E1;go_upto_region 14 with ((with_reducible refine wpList_store_mid ?_ 28 (.tmp 48) (.tmp 46) ?_ (wr.heap.size) 10 (rf5 a2).toArray ?_ ?_ ?_ ?_ ?_ ?_);rfl;rfl;rfl;rfl;exact sT;kernel_rfl;exact zCO _)
     generalize vW4.setCells wr.heap.size 10 (rf5 a2).toArray.toList=W4 at *;clear sT;rw [HM.out] at pN;have n2k:n2.k=2:=by rw [<-HM.out];exact hk2
     have n0':W4.cell? ⟨wr.heap.size,0,none⟩=some (.int .i64 2):=by rw [<-n2k];exact pN.2.1 0 _ rfl
     clear n0;go_upto_region 18 with fail
     clear n0';have rN:=AtL.range pN;have own:=HO.out.below hbr;have hBW:=zAA hB hbr;clear pN HO hbr hB;go_wp2_with (first
      | ((with_reducible refine wpList_load_mid (cs:=zAE n2) ?_ 30 (.tmp 12) ?_ (wr.heap.size) 0 ?_ _ ?_ underlying30 ?_ ?_ ?_);rfl;rfl;rfl;exact rN;rfl;kernel_rfl)
      | ((with_reducible refine zAR ?_ (.tmp 69) ?_ n2 ?_ ?_);rfl;rfl;rfl)
      | (at_builtin;refine zBB (by rfl) (.tmp 68) (.tmp 70) (by rfl) W2 (W4.alloc (.cells (zAE n2).toArray 30)) (zAI hBW _) _ A (by rfl) (own.below ((Below.refl _ _).alloc (Nat.le_refl _) _)) (some ⟨W4.heap.size,0,none⟩) [n2] 1 (by rfl) (zAf W4 n2).rd Nat.one_pos HAL ?_))
     intro v9 w9 own9 hb9;have HO9:Hid (OwnN w9 W2.heap.size v9 ((L.take (i+1)).map (mvN x y))):=by show OwnN _ _ _ _;rw [HTK.out];exact own9
     clear own9 own;go_wp2_with fail
     go_roundg (L.length - (i+1))
     case rel=>exact ⟨i+1,by simp,rfl,hlt,HO9,hb9⟩
     case measure=>omega
    | false =>
     have HM:Hid (zA0=n2):=by show _=_;rw [<-HN2.out];unfold mvN;rw [if_pos hk2,hq];rfl
     rw [hq] at E1;go_upto_region 12 with (first
      | ((with_reducible refine wpList_load_mid (cs:=zAE q) ?_ 30 (.tmp 30) ?_ (bb) (off+i * 20) ?_ _ ?_ underlying30 ?_ ?_ ?_);rfl;rfl;rfl;exact hx0;rfl;kernel_rfl)
      | ((with_reducible refine wpList_store_mid ?_ 30 (.tmp 12) (.tmp 31) ?_ (wr.heap.size) 0 (zAE q).toArray ?_ ?_ ?_ ?_ ?_ ?_);rfl;rfl;rfl;rfl;exact tZ;kernel_rfl;exact zA4 _))
     generalize (wr.alloc (.cells zC 30)).setCells wr.heap.size 0 (zAE q).toArray.toList=W3 at *;clear tZ hx0;have n0:W3.cell? ⟨wr.heap.size,0,none⟩=some (.int .i64 2):=by first | exact pN.2.1 0 _ rfl | (rw [<-hk];exact pN.2.1 0 _ rfl)
     go_upto_region 13 with fail
     have rA:=zHE pN;go_wp2_with ((with_reducible refine wpList_load_mid (cs:=rf5 q.a) ?_ 28 (.tmp 41) ?_ (wr.heap.size) 10 ?_ _ ?_ underlying28 ?_ ?_ ?_);rfl;rfl;rfl;exact rA;rfl;kernel_rfl)
     have CX:=λw=>HX.out q.a w hA
     rw [E1] at CX;refine (CX _).mono ?_;rintro e vW4 ⟨rfl,hb⟩;replace hbr:=zAA hbr hb
     replace pN:=AtL.below hb pN
     generalize zGH x y q.a=a2 at *;have sT:vW4.there wr.heap.size 10 (rf5 a2).toArray.size:=pN.thereSub 10 5 (by show 10+5<=20;omega);replace pN:=zBd pN a2
     replace hbr:=zAg hbr (Nat.le_refl _) (rf5 a2) 10
     clear hb rA CX E1;go_upto_region 14 with ((with_reducible refine wpList_store_mid ?_ 28 (.tmp 48) (.tmp 46) ?_ (wr.heap.size) 10 (rf5 a2).toArray ?_ ?_ ?_ ?_ ?_ ?_);rfl;rfl;rfl;rfl;exact sT;kernel_rfl;exact zCO _)
     generalize vW4.setCells wr.heap.size 10 (rf5 a2).toArray.toList=W4 at *;clear sT;have n0':W4.cell? ⟨wr.heap.size,0,none⟩=some (.int .i64 2):=by rw [<-hk2];exact pN.2.1 0 _ rfl
     clear n0;have pLL:=HL0.out.below (zAA hB hbr);have rL:=AtL.range pLL;have tN:W4.there wr.heap.size 0 (zAE zA0).toArray.size:=pN.there;replace pN:=pN.setAll (vs:=zAE zA0) rfl
     replace hbr:=zAg hbr (Nat.le_refl _) (zAE zA0) 0
     go_upto_region 18 with (first
      | ((with_reducible refine wpList_load_mid (cs:=zAE zA0) ?_ 30 (.tmp 9) ?_ (kl) 0 ?_ _ ?_ underlying30 ?_ ?_ ?_);rfl;rfl;rfl;exact rL;rfl;kernel_rfl)
      | ((with_reducible refine wpList_store_mid ?_ 30 (.tmp 12) (.tmp 67) ?_ (wr.heap.size) 0 (zAE zA0).toArray ?_ ?_ ?_ ?_ ?_ ?_);rfl;rfl;rfl;rfl;exact tN;kernel_rfl;exact zA4 _))
     generalize W4.setCells wr.heap.size 0 (zAE zA0).toArray.toList=W6 at *;clear tN rL pLL;rw [HM.out] at pN;clear n0';have rN:=AtL.range pN;have own:=HO.out.below hbr;have hBW:=zAA hB hbr;clear pN HO hbr hB;go_wp2_with (first
      | ((with_reducible refine wpList_load_mid (cs:=zAE n2) ?_ 30 (.tmp 12) ?_ (wr.heap.size) 0 ?_ _ ?_ underlying30 ?_ ?_ ?_);rfl;rfl;rfl;exact rN;rfl;kernel_rfl)
      | ((with_reducible refine zAR ?_ (.tmp 69) ?_ n2 ?_ ?_);rfl;rfl;rfl)
      | (at_builtin;refine zBB (by rfl) (.tmp 68) (.tmp 70) (by rfl) W2 (W6.alloc (.cells (zAE n2).toArray 30)) (zAI hBW _) _ A (by rfl) (own.below ((Below.refl _ _).alloc (Nat.le_refl _) _)) (some ⟨W6.heap.size,0,none⟩) [n2] 1 (by rfl) (zAf W6 n2).rd Nat.one_pos HAL ?_))
     intro v9 w9 own9 hb9;have HO9:Hid (OwnN w9 W2.heap.size v9 ((L.take (i+1)).map (mvN x y))):=by show OwnN _ _ _ _;rw [HTK.out];exact own9
     clear own9 own;go_wp2_with fail
     go_roundg (L.length - (i+1))
     case rel=>exact ⟨i+1,by simp,rfl,hlt,HO9,hb9⟩
     case measure=>omega
   by_cases hk3:q.k=3
   ·have hk:=hk3;obtain ⟨hA,hBk,-⟩:=zCu hrt hk3;have E1:=zE1 (x:=x) (y:=y) hA;have E2:=zE1 (x:=x) (y:=y) hBk;cases hqa:okR x y q.a with
    | true =>
     cases hqb:okR x y q.b with
     | true =>
      have HM:Hid ((⟨q.k,q.v,q.op,q.nm,q.ar,zGH x y q.a,zGH x y q.b⟩:Wt.Nd)=n2):=by show _=_;rw [<-HN2.out,zGo hA hqa,zGo hBk hqb];unfold mvN;rw [if_neg hk2,if_pos hk3,hqa,hqb];rfl
      rw [hqa] at E1;rw [hqb] at E2;go_upto_region 12 with (first
       | ((with_reducible refine wpList_load_mid (cs:=zAE q) ?_ 30 (.tmp 30) ?_ (bb) (off+i * 20) ?_ _ ?_ underlying30 ?_ ?_ ?_);rfl;rfl;rfl;exact hx0;rfl;kernel_rfl)
       | ((with_reducible refine wpList_store_mid ?_ 30 (.tmp 12) (.tmp 31) ?_ (wr.heap.size) 0 (zAE q).toArray ?_ ?_ ?_ ?_ ?_ ?_);rfl;rfl;rfl;rfl;exact tZ;kernel_rfl;exact zA4 _))
      generalize (wr.alloc (.cells zC 30)).setCells wr.heap.size 0 (zAE q).toArray.toList=W3 at *;clear tZ hx0;have n0:W3.cell? ⟨wr.heap.size,0,none⟩=some (.int .i64 3):=by first | exact pN.2.1 0 _ rfl | (rw [<-hk];exact pN.2.1 0 _ rfl)
      go_upto_region 13 with fail
      have rA:=zHE pN;go_wp2_with ((with_reducible refine wpList_load_mid (cs:=rf5 q.a) ?_ 28 (.tmp 41) ?_ (wr.heap.size) 10 ?_ _ ?_ underlying28 ?_ ?_ ?_);rfl;rfl;rfl;exact rA;rfl;kernel_rfl)
      have CX:=λw=>HX.out q.a w hA
      rw [E1] at CX;refine (CX _).mono ?_;rintro e vW4 ⟨rfl,hb⟩;replace hbr:=zAA hbr hb
      replace pN:=AtL.below hb pN
      generalize zGH x y q.a=a2 at *;have sT:vW4.there wr.heap.size 10 (rf5 a2).toArray.size:=pN.thereSub 10 5 (by show 10+5<=20;omega);replace pN:=zBd pN a2
      replace hbr:=zAg hbr (Nat.le_refl _) (rf5 a2) 10
      clear hb rA CX E1;go_upto_region 14 with ((with_reducible refine wpList_store_mid ?_ 28 (.tmp 48) (.tmp 46) ?_ (wr.heap.size) 10 (rf5 a2).toArray ?_ ?_ ?_ ?_ ?_ ?_);rfl;rfl;rfl;rfl;exact sT;kernel_rfl;exact zCO _)
      generalize vW4.setCells wr.heap.size 10 (rf5 a2).toArray.toList=W4 at *;clear sT;have n0':W4.cell? ⟨wr.heap.size,0,none⟩=some (.int .i64 3):=by rw [<-hk3];exact pN.2.1 0 _ rfl
      clear n0;go_upto_region 15 with fail
      have rA:=zMx pN;go_wp2_with ((with_reducible refine wpList_load_mid (cs:=rf5 q.b) ?_ 28 (.tmp 53) ?_ (wr.heap.size) 15 ?_ _ ?_ underlying28 ?_ ?_ ?_);rfl;rfl;rfl;exact rA;rfl;kernel_rfl)
      have CX:=λw=>HX.out q.b w hBk
      rw [E2] at CX;refine (CX _).mono ?_;rintro e vW5 ⟨rfl,hb⟩;replace hbr:=zAA hbr hb
      replace pN:=AtL.below hb pN
      generalize zGH x y q.b=b2 at *;have sT:vW5.there wr.heap.size 15 (rf5 b2).toArray.size:=pN.thereSub 15 5 (by show 15+5<=20;omega);replace pN:=zCD pN b2
      replace hbr:=zAg hbr (Nat.le_refl _) (rf5 b2) 15
      clear hb rA CX E2;go_upto_region 16 with ((with_reducible refine wpList_store_mid ?_ 28 (.tmp 60) (.tmp 58) ?_ (wr.heap.size) 15 (rf5 b2).toArray ?_ ?_ ?_ ?_ ?_ ?_);rfl;rfl;rfl;rfl;exact sT;kernel_rfl;exact zCO _)
      generalize vW5.setCells wr.heap.size 15 (rf5 b2).toArray.toList=W5 at *;clear sT;clear n0';go_upto_region 18 with fail
      rw [HM.out] at pN;have rN:=AtL.range pN;have own:=HO.out.below hbr;have hBW:=zAA hB hbr;clear pN HO hbr hB;go_wp2_with (first
       | ((with_reducible refine wpList_load_mid (cs:=zAE n2) ?_ 30 (.tmp 12) ?_ (wr.heap.size) 0 ?_ _ ?_ underlying30 ?_ ?_ ?_);rfl;rfl;rfl;exact rN;rfl;kernel_rfl)
       | ((with_reducible refine zAR ?_ (.tmp 69) ?_ n2 ?_ ?_);rfl;rfl;rfl)
       | (at_builtin;refine zBB (by rfl) (.tmp 68) (.tmp 70) (by rfl) W2 (W5.alloc (.cells (zAE n2).toArray 30)) (zAI hBW _) _ A (by rfl) (own.below ((Below.refl _ _).alloc (Nat.le_refl _) _)) (some ⟨W5.heap.size,0,none⟩) [n2] 1 (by rfl) (zAf W5 n2).rd Nat.one_pos HAL ?_))
      intro v9 w9 own9 hb9;have HO9:Hid (OwnN w9 W2.heap.size v9 ((L.take (i+1)).map (mvN x y))):=by show OwnN _ _ _ _;rw [HTK.out];exact own9
      clear own9 own;go_wp2_with fail
      go_roundg (L.length - (i+1))
      case rel=>exact ⟨i+1,by simp,rfl,hlt,HO9,hb9⟩
      case measure=>omega
     | false =>
      have HM:Hid (zA0=n2):=by show _=_;rw [<-HN2.out];unfold mvN;rw [if_neg hk2,if_pos hk3,hqa,hqb];rfl
      rw [hqa] at E1;rw [hqb] at E2;go_upto_region 12 with (first
       | ((with_reducible refine wpList_load_mid (cs:=zAE q) ?_ 30 (.tmp 30) ?_ (bb) (off+i * 20) ?_ _ ?_ underlying30 ?_ ?_ ?_);rfl;rfl;rfl;exact hx0;rfl;kernel_rfl)
       | ((with_reducible refine wpList_store_mid ?_ 30 (.tmp 12) (.tmp 31) ?_ (wr.heap.size) 0 (zAE q).toArray ?_ ?_ ?_ ?_ ?_ ?_);rfl;rfl;rfl;rfl;exact tZ;kernel_rfl;exact zA4 _))
      generalize (wr.alloc (.cells zC 30)).setCells wr.heap.size 0 (zAE q).toArray.toList=W3 at *;clear tZ hx0;have n0:W3.cell? ⟨wr.heap.size,0,none⟩=some (.int .i64 3):=by first | exact pN.2.1 0 _ rfl | (rw [<-hk];exact pN.2.1 0 _ rfl)
      go_upto_region 13 with fail
      have rA:=zHE pN;go_wp2_with ((with_reducible refine wpList_load_mid (cs:=rf5 q.a) ?_ 28 (.tmp 41) ?_ (wr.heap.size) 10 ?_ _ ?_ underlying28 ?_ ?_ ?_);rfl;rfl;rfl;exact rA;rfl;kernel_rfl)
      have CX:=λw=>HX.out q.a w hA
      rw [E1] at CX;refine (CX _).mono ?_;rintro e vW4 ⟨rfl,hb⟩;replace hbr:=zAA hbr hb
      replace pN:=AtL.below hb pN
      generalize zGH x y q.a=a2 at *;have sT:vW4.there wr.heap.size 10 (rf5 a2).toArray.size:=pN.thereSub 10 5 (by show 10+5<=20;omega);replace pN:=zBd pN a2
      replace hbr:=zAg hbr (Nat.le_refl _) (rf5 a2) 10
      clear hb rA CX E1;go_upto_region 14 with ((with_reducible refine wpList_store_mid ?_ 28 (.tmp 48) (.tmp 46) ?_ (wr.heap.size) 10 (rf5 a2).toArray ?_ ?_ ?_ ?_ ?_ ?_);rfl;rfl;rfl;rfl;exact sT;kernel_rfl;exact zCO _)
      generalize vW4.setCells wr.heap.size 10 (rf5 a2).toArray.toList=W4 at *;clear sT;have n0':W4.cell? ⟨wr.heap.size,0,none⟩=some (.int .i64 3):=by rw [<-hk3];exact pN.2.1 0 _ rfl
      clear n0;go_upto_region 15 with fail
      have rA:=zMx pN;go_wp2_with ((with_reducible refine wpList_load_mid (cs:=rf5 q.b) ?_ 28 (.tmp 53) ?_ (wr.heap.size) 15 ?_ _ ?_ underlying28 ?_ ?_ ?_);rfl;rfl;rfl;exact rA;rfl;kernel_rfl)
      have CX:=λw=>HX.out q.b w hBk
      rw [E2] at CX;refine (CX _).mono ?_;rintro e vW5 ⟨rfl,hb⟩;replace hbr:=zAA hbr hb
      replace pN:=AtL.below hb pN
      generalize zGH x y q.b=b2 at *;have sT:vW5.there wr.heap.size 15 (rf5 b2).toArray.size:=pN.thereSub 15 5 (by show 15+5<=20;omega);replace pN:=zCD pN b2
      replace hbr:=zAg hbr (Nat.le_refl _) (rf5 b2) 15
      clear hb rA CX E2;go_upto_region 16 with ((with_reducible refine wpList_store_mid ?_ 28 (.tmp 60) (.tmp 58) ?_ (wr.heap.size) 15 (rf5 b2).toArray ?_ ?_ ?_ ?_ ?_ ?_);rfl;rfl;rfl;rfl;exact sT;kernel_rfl;exact zCO _)
      generalize vW5.setCells wr.heap.size 15 (rf5 b2).toArray.toList=W5 at *;clear sT;clear n0';have pLL:=HL0.out.below (zAA hB hbr);have rL:=AtL.range pLL;have tN:W5.there wr.heap.size 0 (zAE zA0).toArray.size:=pN.there;replace pN:=pN.setAll (vs:=zAE zA0) rfl
      replace hbr:=zAg hbr (Nat.le_refl _) (zAE zA0) 0
      go_upto_region 18 with (first
       | ((with_reducible refine wpList_load_mid (cs:=zAE zA0) ?_ 30 (.tmp 9) ?_ (kl) 0 ?_ _ ?_ underlying30 ?_ ?_ ?_);rfl;rfl;rfl;exact rL;rfl;kernel_rfl)
       | ((with_reducible refine wpList_store_mid ?_ 30 (.tmp 12) (.tmp 67) ?_ (wr.heap.size) 0 (zAE zA0).toArray ?_ ?_ ?_ ?_ ?_ ?_);rfl;rfl;rfl;rfl;exact tN;kernel_rfl;exact zA4 _))
      generalize W5.setCells wr.heap.size 0 (zAE zA0).toArray.toList=W6 at *;clear tN rL pLL;rw [HM.out] at pN;have rN:=AtL.range pN;have own:=HO.out.below hbr;have hBW:=zAA hB hbr;clear pN HO hbr hB;go_wp2_with (first
       | ((with_reducible refine wpList_load_mid (cs:=zAE n2) ?_ 30 (.tmp 12) ?_ (wr.heap.size) 0 ?_ _ ?_ underlying30 ?_ ?_ ?_);rfl;rfl;rfl;exact rN;rfl;kernel_rfl)
       | ((with_reducible refine zAR ?_ (.tmp 69) ?_ n2 ?_ ?_);rfl;rfl;rfl)
       | (at_builtin;refine zBB (by rfl) (.tmp 68) (.tmp 70) (by rfl) W2 (W6.alloc (.cells (zAE n2).toArray 30)) (zAI hBW _) _ A (by rfl) (own.below ((Below.refl _ _).alloc (Nat.le_refl _) _)) (some ⟨W6.heap.size,0,none⟩) [n2] 1 (by rfl) (zAf W6 n2).rd Nat.one_pos HAL ?_))
      intro v9 w9 own9 hb9;have HO9:Hid (OwnN w9 W2.heap.size v9 ((L.take (i+1)).map (mvN x y))):=by show OwnN _ _ _ _;rw [HTK.out];exact own9
      clear own9 own;go_wp2_with fail
      go_roundg (L.length - (i+1))
      case rel=>exact ⟨i+1,by simp,rfl,hlt,HO9,hb9⟩
      case measure=>omega
    | false =>
     obtain ⟨qb,hqb⟩:∃ qb,okR x y q.b=qb:=⟨_,rfl⟩
     have HM:Hid (zA0=n2):=by show _=_;rw [<-HN2.out];unfold mvN;rw [if_neg hk2,if_pos hk3,hqa];rfl
     rw [hqa] at E1;rw [hqb] at E2;go_upto_region 12 with (first
      | ((with_reducible refine wpList_load_mid (cs:=zAE q) ?_ 30 (.tmp 30) ?_ (bb) (off+i * 20) ?_ _ ?_ underlying30 ?_ ?_ ?_);rfl;rfl;rfl;exact hx0;rfl;kernel_rfl)
      | ((with_reducible refine wpList_store_mid ?_ 30 (.tmp 12) (.tmp 31) ?_ (wr.heap.size) 0 (zAE q).toArray ?_ ?_ ?_ ?_ ?_ ?_);rfl;rfl;rfl;rfl;exact tZ;kernel_rfl;exact zA4 _))
     generalize (wr.alloc (.cells zC 30)).setCells wr.heap.size 0 (zAE q).toArray.toList=W3 at *;clear tZ hx0;have n0:W3.cell? ⟨wr.heap.size,0,none⟩=some (.int .i64 3):=by first | exact pN.2.1 0 _ rfl | (rw [<-hk];exact pN.2.1 0 _ rfl)
     go_upto_region 13 with fail
     have rA:=zHE pN;go_wp2_with ((with_reducible refine wpList_load_mid (cs:=rf5 q.a) ?_ 28 (.tmp 41) ?_ (wr.heap.size) 10 ?_ _ ?_ underlying28 ?_ ?_ ?_);rfl;rfl;rfl;exact rA;rfl;kernel_rfl)
     have CX:=λw=>HX.out q.a w hA
     rw [E1] at CX;refine (CX _).mono ?_;rintro e vW4 ⟨rfl,hb⟩;replace hbr:=zAA hbr hb
     replace pN:=AtL.below hb pN
     generalize zGH x y q.a=a2 at *;have sT:vW4.there wr.heap.size 10 (rf5 a2).toArray.size:=pN.thereSub 10 5 (by show 10+5<=20;omega);replace pN:=zBd pN a2
     replace hbr:=zAg hbr (Nat.le_refl _) (rf5 a2) 10
     clear hb rA CX E1;go_upto_region 14 with ((with_reducible refine wpList_store_mid ?_ 28 (.tmp 48) (.tmp 46) ?_ (wr.heap.size) 10 (rf5 a2).toArray ?_ ?_ ?_ ?_ ?_ ?_);rfl;rfl;rfl;rfl;exact sT;kernel_rfl;exact zCO _)
     generalize vW4.setCells wr.heap.size 10 (rf5 a2).toArray.toList=W4 at *;clear sT;have n0':W4.cell? ⟨wr.heap.size,0,none⟩=some (.int .i64 3):=by rw [<-hk3];exact pN.2.1 0 _ rfl
     clear n0;go_upto_region 15 with fail
     have rA:=zMx pN;go_wp2_with ((with_reducible refine wpList_load_mid (cs:=rf5 q.b) ?_ 28 (.tmp 53) ?_ (wr.heap.size) 15 ?_ _ ?_ underlying28 ?_ ?_ ?_);rfl;rfl;rfl;exact rA;rfl;kernel_rfl)
     have CX:=λw=>HX.out q.b w hBk
     rw [E2] at CX;refine (CX _).mono ?_;rintro e vW5 ⟨rfl,hb⟩;replace hbr:=zAA hbr hb
     replace pN:=AtL.below hb pN
     generalize zGH x y q.b=b2 at *;have sT:vW5.there wr.heap.size 15 (rf5 b2).toArray.size:=pN.thereSub 15 5 (by show 15+5<=20;omega);replace pN:=zCD pN b2
     replace hbr:=zAg hbr (Nat.le_refl _) (rf5 b2) 15
     clear hb rA CX E2;go_upto_region 16 with ((with_reducible refine wpList_store_mid ?_ 28 (.tmp 60) (.tmp 58) ?_ (wr.heap.size) 15 (rf5 b2).toArray ?_ ?_ ?_ ?_ ?_ ?_);rfl;rfl;rfl;rfl;exact sT;kernel_rfl;exact zCO _)
     generalize vW5.setCells wr.heap.size 15 (rf5 b2).toArray.toList=W5 at *;clear sT;clear n0';have pLL:=HL0.out.below (zAA hB hbr);have rL:=AtL.range pLL;have tN:W5.there wr.heap.size 0 (zAE zA0).toArray.size:=pN.there;replace pN:=pN.setAll (vs:=zAE zA0) rfl
     replace hbr:=zAg hbr (Nat.le_refl _) (zAE zA0) 0
     go_upto_region 18 with (first
      | ((with_reducible refine wpList_load_mid (cs:=zAE zA0) ?_ 30 (.tmp 9) ?_ (kl) 0 ?_ _ ?_ underlying30 ?_ ?_ ?_);rfl;rfl;rfl;exact rL;rfl;kernel_rfl)
      | ((with_reducible refine wpList_store_mid ?_ 30 (.tmp 12) (.tmp 67) ?_ (wr.heap.size) 0 (zAE zA0).toArray ?_ ?_ ?_ ?_ ?_ ?_);rfl;rfl;rfl;rfl;exact tN;kernel_rfl;exact zA4 _))
     generalize W5.setCells wr.heap.size 0 (zAE zA0).toArray.toList=W6 at *;clear tN rL pLL;rw [HM.out] at pN;have rN:=AtL.range pN;have own:=HO.out.below hbr;have hBW:=zAA hB hbr;clear pN HO hbr hB;go_wp2_with (first
      | ((with_reducible refine wpList_load_mid (cs:=zAE n2) ?_ 30 (.tmp 12) ?_ (wr.heap.size) 0 ?_ _ ?_ underlying30 ?_ ?_ ?_);rfl;rfl;rfl;exact rN;rfl;kernel_rfl)
      | ((with_reducible refine zAR ?_ (.tmp 69) ?_ n2 ?_ ?_);rfl;rfl;rfl)
      | (at_builtin;refine zBB (by rfl) (.tmp 68) (.tmp 70) (by rfl) W2 (W6.alloc (.cells (zAE n2).toArray 30)) (zAI hBW _) _ A (by rfl) (own.below ((Below.refl _ _).alloc (Nat.le_refl _) _)) (some ⟨W6.heap.size,0,none⟩) [n2] 1 (by rfl) (zAf W6 n2).rd Nat.one_pos HAL ?_))
     intro v9 w9 own9 hb9;have HO9:Hid (OwnN w9 W2.heap.size v9 ((L.take (i+1)).map (mvN x y))):=by show OwnN _ _ _ _;rw [HTK.out];exact own9
     clear own9 own;go_wp2_with fail
     go_roundg (L.length - (i+1))
     case rel=>exact ⟨i+1,by simp,rfl,hlt,HO9,hb9⟩
     case measure=>omega
   ·have hkb2:(q.k == 2)=false:=by simp [hk2]
    have hkb3:(q.k == 3)=false:=by simp [hk3]
    have HM:Hid (q=n2):=by show _=_;rw [<-HN2.out];unfold mvN;rw [if_neg hk2,if_neg hk3]
    go_upto_region 12 with (first
     | ((with_reducible refine wpList_load_mid (cs:=zAE q) ?_ 30 (.tmp 30) ?_ (bb) (off+i * 20) ?_ _ ?_ underlying30 ?_ ?_ ?_);rfl;rfl;rfl;exact hx0;rfl;kernel_rfl)
     | ((with_reducible refine wpList_store_mid ?_ 30 (.tmp 12) (.tmp 31) ?_ (wr.heap.size) 0 (zAE q).toArray ?_ ?_ ?_ ?_ ?_ ?_);rfl;rfl;rfl;rfl;exact tZ;kernel_rfl;exact zA4 _))
    generalize (wr.alloc (.cells zC 30)).setCells wr.heap.size 0 (zAE q).toArray.toList=W3 at *;clear tZ hx0;have n0:W3.cell? ⟨wr.heap.size,0,none⟩=some (.int .i64 q.k):=by first | exact pN.2.1 0 _ rfl | (rw [<-hk];exact pN.2.1 0 _ rfl)
    go_upto_region 18 with fail
    clear n0;rw [HM.out] at pN;have rN:=AtL.range pN;have own:=HO.out.below hbr;have hBW:=zAA hB hbr;clear pN HO hbr hB;go_wp2_with (first
     | ((with_reducible refine wpList_load_mid (cs:=zAE n2) ?_ 30 (.tmp 12) ?_ (wr.heap.size) 0 ?_ _ ?_ underlying30 ?_ ?_ ?_);rfl;rfl;rfl;exact rN;rfl;kernel_rfl)
     | ((with_reducible refine zAR ?_ (.tmp 69) ?_ n2 ?_ ?_);rfl;rfl;rfl)
     | (at_builtin;refine zBB (by rfl) (.tmp 68) (.tmp 70) (by rfl) W2 (W3.alloc (.cells (zAE n2).toArray 30)) (zAI hBW _) _ A (by rfl) (own.below ((Below.refl _ _).alloc (Nat.le_refl _) _)) (some ⟨W3.heap.size,0,none⟩) [n2] 1 (by rfl) (zAf W3 n2).rd Nat.one_pos HAL ?_))
    intro v9 w9 own9 hb9;have HO9:Hid (OwnN w9 W2.heap.size v9 ((L.take (i+1)).map (mvN x y))):=by show OwnN _ _ _ _;rw [HTK.out];exact own9
    clear own9 own;go_wp2_with fail
    go_roundg (L.length - (i+1))
    case rel=>exact ⟨i+1,by simp,rfl,hlt,HO9,hb9⟩
    case measure=>omega
  ·have hli:¬ (i:Int)<(L.length:Int):=by omega
   have hF:=HO.out;rw [List.take_of_length_le (by omega)] at hF;have hBB:=zAA hB2 hB;have hsz:=hB2.size;clear HO;go_wp2;go_ret2
   exact ⟨⟨_,rfl,⟨hF.1,hF.2.imp id λ⟨g,cap,cur,a,b,c⟩=>⟨g,cap,cur,a,Nat.le_trans hsz b,c⟩⟩⟩,hBB⟩
end Go.Proofs.YtdghjlmnlodnlaaGreatDoor
