/- LBytes, TRefJ, WalkRx, TQVal. -/
import Derived.Test.YtlggnpohhahdlaaGreatDoorQ39
import Derived.Laws.IdiomStrings
import Derived.Lib.AppendStr
import Derived.Laws.BytesArg
import Derived.OwnWalk
import Derived.Laws.OwnMore
import Derived.Deep.DeepCutAuto
set_option maxHeartbeats 3200000
set_option maxRecDepth 100000
namespace Go.Proofs.YtlggnpohhahdlaaGreatDoor
open Go.Shelf Go.RowKit
set_option linter.unusedVariables false
abbrev OwnB (w:World) (base:Nat) (v:Value) (l:List UInt8):Prop:=w.ownsRow base 5 1 v l.length (Lib.byteCells l)
theorem x4_byteInfo:(Tryz.prog.info? 5).map (fun i=>(i.zero,i.size,i.bytes))=some (some (.int .u8 0),1,1):=by kernel_rfl
theorem ownB_snoc {w:World} {B:Nat} {v:Value} {l:List UInt8} {c:UInt8} {n:Nat} (h:w.ownsRow B 5 1 v (l.length+1) (Lib.byteCells l++[.int .u8 ((c.toNat:Nat):Int)])):OwnB w B v (l++[c]):=by
 show w.ownsRow B 5 1 v (l++[c]).length (Lib.byteCells (l++[c]))
 rw [List.length_append,Lib.byteCells_append];exact h
theorem ownB_text {w:World} {B:Nat} {v:Value} {l:List UInt8} (h:OwnB w B v l):(convert 63 9 v).run Tryz.prog w=.ok (.string ⟨l.toArray⟩) w:=by
 rcases h.2 with ⟨rfl,hn⟩ | ⟨g,cap,cur,rfl,_⟩
 ·obtain rfl:=List.eq_nil_of_length_eq_zero hn;exact run_convert_bytes_nil (P:=Tryz.prog) w 63 5 Tryz.underlying63 Tryz.underlying5 0 0 9 Tryz.underlying9
 ·exact run_convert_bytes_back (P:=Tryz.prog) w 63 9 5 ⟨g,0,none⟩ cap l Tryz.underlying63 Tryz.underlying5 Tryz.underlying9 (fun j hj=>by
   have:=h.cells (g:=g) rfl j (.int .u8 ((l[j]).toNat:Nat)) (by simp [Lib.byteCells,hj]);exact this)
theorem cell_one_new (w:World) (a:Value) (t:TypeId):∀ j u,[a][j]? = some u→(w.alloc (.cells #[a] t)).cell? ((⟨w.heap.size,0,none⟩:Addr).add j)=some u:=by
 intro j u hj;match j,hj with
 | 0,hj=>simp at hj;subst hj;simp [Addr.add]
 | j+1,hj=>simp at hj
theorem grown_below {w W w':World} {B:Nat} {v:Value} {n:Nat} {xs:List Value} {o:Obj} (hb:Below B w W) (hB:B≤W.heap.size) (hown:W.ownsRow B 5 1 v n xs) (hg:(W.alloc o).grownBy w' v.ownBlock):Below B w w' :=
 (hb.alloc hB o).grown hg (by simp;omega) (fun k hk=>(hown.lt k hk).1)
open Go.RowKit Go.Shelf
theorem colS_len (c:Int):(Wpl.colS c).length≤2:=by
 unfold Wpl.colS;split
 ·unfold Wpl.colT;split <;> simp
 ·simp
theorem rnames_any (w:World):Calls Tryz.prog 77 #[] w fun e w'=>e=.returned (.slice (some ⟨w.heap.size,0,none⟩) 9 9)∧AtL w' w.heap.size fltR∧Below w.heap.size w w':=by
 go_enter Tryz.func77,Tryz.ntmps77;go_wp2;go_ret;exact ⟨rfl,AtL.new0 w _ _,ball (Below.refl _ w) _⟩
open Go.RowKit
theorem made_is (m:Bool) {n d:Int} (hn:0≤n) (hd:1≤d):some (Rat.divInt (if (m && decide (0<n))=true then -n else n) d)=Wnum.mk (Wnum.sgnd m n) d:=by
 rw [Wnum.mk_pos (by omega)];unfold Wnum.sgnd;cases m with
 | false=>rfl
 | true =>
  by_cases h:0<n
  ·rw [decide_eq_true h];rfl
  ·have:n=0:=by omega
   subst this;rfl
theorem rread_any (s:ByteArray) (w:World) (hs:s.size≤9223372036854775807) :
  Calls Tryz.prog 106 #[.string s] w fun e w'=>e=.returned (.tuple #[.agg #[.int .i64 (Wnum.oN (Wnum.rdO s)),.int .i64 (Wnum.oD (Wnum.rdO s))],.bool (Wnum.oB (Wnum.rdO s))])∧Below w.heap.size w w':=by
 obtain ⟨o,O⟩:∃ o,Hid (Wnum.rdO s=o):=⟨_,(rfl:Wnum.rdO s=_)⟩
 obtain ⟨m,HM⟩:∃ m,Hid (Wnum.minusB s=m):=⟨_,(rfl:Wnum.minusB s=_)⟩
 obtain ⟨p,HP⟩:∃ p,Hid (Wnum.aOf s=p):=⟨_,(rfl:Wnum.aOf s=_)⟩
 have hp:p≤s.size:=by rw [←HP.out];exact (Wnum.body_facts s).2.2
 rw [O.out];go_enter Tryz.func106,Tryz.ntmps106;go_upto_region 2 with fail
 go_cut [5] (fun s5 wx=>s5=.bool m∧wx=w.alloc (.cells #[.int .i64 0,.int .i64 0] 39))
 case first =>
  by_cases h0:0<s.size
  ·have eb:=Wnum.bt_get h0;have h0':(0:Int)<(s.size:Int):=by omega
   by_cases hc:Wnum.bt s 0=45
   ·have e:m=true:=by rw [←HM.out];exact decide_eq_true ⟨h0,hc⟩
    subst e;rw [hc] at eb;go_wp2;go_meet
    case rel=>exact ⟨rfl,rfl⟩
   ·have e:m=false:=by rw [←HM.out];exact decide_eq_false (fun x=>hc x.2)
    subst e;have hc':(Wnum.bt s 0 == 45)=false:=beq_eq_false_iff_ne.2 hc;go_wp2;go_meet
    case rel=>exact ⟨rfl,rfl⟩
  ·have e:m=false:=by rw [←HM.out];exact decide_eq_false (fun x=>h0 x.1)
   subst e;have h0':decide ((0:Int)<(s.size:Int))=false:=decide_eq_false (by omega);go_wp2;go_meet
   case rel=>exact ⟨rfl,rfl⟩
 case rest =>
  obtain ⟨h5,rfl⟩:=hcut;subst h5;go_upto_if 21 with fail
  go_cut [4] (fun s4 wx=>s4=.int .i64 (p:Int)∧wx=w.alloc (.cells #[.int .i64 0,.int .i64 0] 39))
  case first =>
   cases m with
   | true =>
    have e:p=1:=by rw [←HP.out];unfold Wnum.aOf;rw [HM.out];rfl
    subst e;go_wp2;go_meet
    case rel=>exact ⟨rfl,rfl⟩
   | false =>
    have e:p=0:=by rw [←HP.out];unfold Wnum.aOf;rw [HM.out];rfl
    subst e;go_wp2;go_meet
    case rel=>exact ⟨rfl,rfl⟩
  case rest =>
   obtain ⟨h4,rfl⟩:=hcut;subst h4;have P:=fun w=>piece_any s p w hs hp
   cases hb:Wnum.dB s p with
   | false =>
    have e:o=none:=by rw [←O.out];exact Wnum.r_none (by rw [HP.out];exact hb)
    subst e;rw [hb] at P;clear hb;generalize Wnum.pcN s p=x1 at *;generalize Wnum.pcI s p=x2 at *;go_wp2_with fail
    refine (P _).mono ?_;rintro e w1 ⟨rfl,rfl⟩;go_wp2;refine bodyPost_ret (v:=.tuple #[.agg #[.int .i64 0,.int .i64 0],.bool false]) (by simp [results,Tryz.results106,go_sem]) rfl ⟨rfl,?_⟩;exact (by with_reducible repeat (first | exact Below.refl _ _ | refine below_drewN ?_ _ | refine Below.setCell ?_ (by first | (simp;done) | (simp;omega) | omega) _ | refine Below.drew ?_ | refine below_end ?_ (by assumption) | refine ball ?_ _))
   | true =>
    obtain ⟨b1,b2,b3⟩:=Wnum.dB_bd hb;have hk:=Wnum.dk_le s p;have eN:Wnum.pcN s p=Wnum.dv s p:=if_pos b3;have eI:Wnum.pcI s p=((p+Wnum.dk s p:Nat):Int):=if_pos b3;rw [hb,eN,eI] at P;have hb':Wnum.dB s (Wnum.aOf s)=true:=by rw [HP.out];exact hb
    by_cases ce:p+Wnum.dk s p=s.size
    ·have HO:Hid (Wnum.mk (Wnum.sgnd m (Wnum.dv s p)) 1=o):=by
      show _=_
      rw [←O.out,Wnum.r_whole hb' (by rw [HP.out];exact ce),HM.out,HP.out]
     rw [ce] at P;generalize Wnum.dv s p=n at *;clear hb hb' ce eN eI hk b1;have sz:((s.size:Int) == (s.size:Int))=true:=beq_self_eq_true _;cases m with
     | false =>
      have M:=fun w=>made_any (false && decide (0<n)) n 1 w (by omega) (by omega) (by omega) (by omega)
      rw [made_is _ (by omega) (by omega),HO.out] at M;rw [Bool.false_and] at M;go_wp2_with fail
      refine (P _).mono ?_;rintro e w1 ⟨rfl,rfl⟩;go_wp2_with fail
      refine (M _).mono ?_;rintro e w3 ⟨rfl,hb3⟩;obtain ⟨k1,k2,k3,k4⟩:=At.below hb3 (At.new w 39 rfl (.int .i64 0) (.int .i64 0));have qE:=below_end ((Below.refl _ w).alloc (Nat.le_refl _) (.cells #[.int .i64 0,.int .i64 0] 39)) hb3;go_wp2;refine bodyPost_ret (v:=.tuple #[.agg #[.int .i64 (Wnum.oN o),.int .i64 (Wnum.oD o)],.bool (Wnum.oB o)]) (by simp [results,Tryz.results106,go_sem,k1,k2]) rfl ⟨rfl,?_⟩;exact put_below qE (by omega) _ _
     | true =>
      by_cases hn:0<n
      ·have M:=fun w=>made_any (true && decide (0<n)) n 1 w (by omega) (by omega) (by omega) (by omega)
       rw [made_is _ (by omega) (by omega),HO.out] at M;rw [Bool.true_and,decide_eq_true hn] at M;go_wp2_with fail
       refine (P _).mono ?_;rintro e w1 ⟨rfl,rfl⟩;go_wp2_with fail
       refine (M _).mono ?_;rintro e w3 ⟨rfl,hb3⟩;obtain ⟨k1,k2,k3,k4⟩:=At.below hb3 (At.new w 39 rfl (.int .i64 0) (.int .i64 0));have qE:=below_end ((Below.refl _ w).alloc (Nat.le_refl _) (.cells #[.int .i64 0,.int .i64 0] 39)) hb3;go_wp2;refine bodyPost_ret (v:=.tuple #[.agg #[.int .i64 (Wnum.oN o),.int .i64 (Wnum.oD o)],.bool (Wnum.oB o)]) (by simp [results,Tryz.results106,go_sem,k1,k2]) rfl ⟨rfl,?_⟩;exact put_below qE (by omega) _ _
      ·have M:=fun w=>made_any (true && decide (0<n)) n 1 w (by omega) (by omega) (by omega) (by omega)
       rw [made_is _ (by omega) (by omega),HO.out] at M;rw [Bool.true_and,decide_eq_false hn] at M;have hn':decide (0<n)=false:=decide_eq_false hn;go_wp2_with fail
       refine (P _).mono ?_;rintro e w1 ⟨rfl,rfl⟩;go_wp2_with fail
       refine (M _).mono ?_;rintro e w3 ⟨rfl,hb3⟩;obtain ⟨k1,k2,k3,k4⟩:=At.below hb3 (At.new w 39 rfl (.int .i64 0) (.int .i64 0));have qE:=below_end ((Below.refl _ w).alloc (Nat.le_refl _) (.cells #[.int .i64 0,.int .i64 0] 39)) hb3;go_wp2;refine bodyPost_ret (v:=.tuple #[.agg #[.int .i64 (Wnum.oN o),.int .i64 (Wnum.oD o)],.bool (Wnum.oB o)]) (by simp [results,Tryz.results106,go_sem,k1,k2]) rfl ⟨rfl,?_⟩;exact put_below qE (by omega) _ _
    ·have hlt:p+Wnum.dk s p<s.size:=by omega
     obtain ⟨r0,r1⟩:=Wnum.r_more hb' (by rw [HP.out];exact hlt);rw [HP.out] at r0;rw [HP.out,HM.out] at r1;have R0:Hid _:=r0;have R1:Hid _:=r1;clear r0 r1 hb hb' eN eI hk b1 ce;generalize Wnum.dv s p=n at *;generalize p+Wnum.dk s p=i at *;have Q:=fun w=>piece_any s (i+1) w hs (by omega)
     have ei:((i+1:Nat):Int)=(i:Int)+1:=by omega
     rw [ei] at Q;have ne:((i:Int) == (s.size:Int))=false:=beq_eq_false_iff_ne.2 (by omega);have k2:=Wnum.dk_le s (i+1);have eb:=Wnum.bt_get hlt;cases hg:Wnum.dB s (i+1) with
     | false =>
      have e:o=none:=by rw [←O.out];exact R0.out (fun x=>by rw [hg] at x;cases x.1)
      subst e;rw [hg] at Q;clear hg R0 R1 eb;generalize Wnum.pcN s (i+1)=x1 at *;generalize Wnum.pcI s (i+1)=x2 at *;go_wp2_with fail
      refine (P _).mono ?_;rintro e w1 ⟨rfl,rfl⟩;go_wp2_with fail
      refine (Q _).mono ?_;rintro e w1 ⟨rfl,rfl⟩;go_wp2;refine bodyPost_ret (v:=.tuple #[.agg #[.int .i64 0,.int .i64 0],.bool false]) (by simp [results,Tryz.results106,go_sem]) rfl ⟨rfl,?_⟩;exact (by with_reducible repeat (first | exact Below.refl _ _ | refine below_drewN ?_ _ | refine Below.setCell ?_ (by first | (simp;done) | (simp;omega) | omega) _ | refine Below.drew ?_ | refine below_end ?_ (by assumption) | refine ball ?_ _))
     | true =>
      obtain ⟨g1,g2,g3⟩:=Wnum.dB_bd hg;have eN2:Wnum.pcN s (i+1)=Wnum.dv s (i+1):=if_pos g3;have eI2:Wnum.pcI s (i+1)=((i+1+Wnum.dk s (i+1):Nat):Int):=if_pos g3;rw [hg,eN2,eI2] at Q;by_cases ce:i+1+Wnum.dk s (i+1)=s.size
      ·obtain ⟨q1,q2,q3,q4⟩:=R1.out hg ce;have Q1:Hid _:=q1;have Q2:Hid _:=q2;have Q3:Hid _:=q3;have Q4:Hid _:=q4;rw [ce] at Q;clear q1 q2 q3 q4 R0 R1 hg eN2 eI2;have K:Hid (Wnum.dk s (i+1)=s.size - (i+1)):=(by omega:Wnum.dk s (i+1)=s.size - (i+1))
       clear ce k2 g1;generalize Wnum.dv s (i+1)=v at *;generalize Wnum.bt s i=c at *;have ne2:((s.size:Int) != (s.size:Int))=false:=by simp
       by_cases c47:c=47
       ·subst c47;by_cases hv:v=0
        ·subst hv;have e:o=none:=by rw [←O.out,Q1.out rfl];exact Wnum.mk_zero _
         subst e;clear Q1 Q2 Q3 Q4;go_wp2_with fail
         refine (P _).mono ?_;rintro e w1 ⟨rfl,rfl⟩;go_wp2_with fail
         refine (Q _).mono ?_;rintro e w1 ⟨rfl,rfl⟩;go_wp2;refine bodyPost_ret (v:=.tuple #[.agg #[.int .i64 0,.int .i64 0],.bool false]) (by simp [results,Tryz.results106,go_sem]) rfl ⟨rfl,?_⟩;exact (by with_reducible repeat (first | exact Below.refl _ _ | refine below_drewN ?_ _ | refine Below.setCell ?_ (by first | (simp;done) | (simp;omega) | omega) _ | refine Below.drew ?_ | refine below_end ?_ (by assumption) | refine ball ?_ _))
        ·have HO:Hid (Wnum.mk (Wnum.sgnd m n) v=o):=by show _=_;rw [←O.out,Q1.out rfl]
         have hv':(v == 0)=false:=beq_eq_false_iff_ne.2 hv;clear Q1 Q2 Q3 Q4;cases m with
         | false =>
          have M:=fun w=>made_any (false && decide (0<n)) n v w (by omega) (by omega) (by omega) (by omega)
          rw [made_is _ (by omega) (by omega),HO.out] at M;rw [Bool.false_and] at M;go_wp2_with fail
          refine (P _).mono ?_;rintro e w1 ⟨rfl,rfl⟩;go_wp2_with fail
          refine (Q _).mono ?_;rintro e w1 ⟨rfl,rfl⟩;go_wp2_with fail
          refine (M _).mono ?_;rintro e w3 ⟨rfl,hb3⟩;obtain ⟨k1,k2,k3,k4⟩:=At.below hb3 (At.new w 39 rfl (.int .i64 0) (.int .i64 0));have qE:=below_end ((Below.refl _ w).alloc (Nat.le_refl _) (.cells #[.int .i64 0,.int .i64 0] 39)) hb3;go_wp2;refine bodyPost_ret (v:=.tuple #[.agg #[.int .i64 (Wnum.oN o),.int .i64 (Wnum.oD o)],.bool (Wnum.oB o)]) (by simp [results,Tryz.results106,go_sem,k1,k2]) rfl ⟨rfl,?_⟩;exact put_below qE (by omega) _ _
         | true =>
          by_cases hn:0<n
          ·have M:=fun w=>made_any (true && decide (0<n)) n v w (by omega) (by omega) (by omega) (by omega)
           rw [made_is _ (by omega) (by omega),HO.out] at M;rw [Bool.true_and,decide_eq_true hn] at M;go_wp2_with fail
           refine (P _).mono ?_;rintro e w1 ⟨rfl,rfl⟩;go_wp2_with fail
           refine (Q _).mono ?_;rintro e w1 ⟨rfl,rfl⟩;go_wp2_with fail
           refine (M _).mono ?_;rintro e w3 ⟨rfl,hb3⟩;obtain ⟨k1,k2,k3,k4⟩:=At.below hb3 (At.new w 39 rfl (.int .i64 0) (.int .i64 0));have qE:=below_end ((Below.refl _ w).alloc (Nat.le_refl _) (.cells #[.int .i64 0,.int .i64 0] 39)) hb3;go_wp2;refine bodyPost_ret (v:=.tuple #[.agg #[.int .i64 (Wnum.oN o),.int .i64 (Wnum.oD o)],.bool (Wnum.oB o)]) (by simp [results,Tryz.results106,go_sem,k1,k2]) rfl ⟨rfl,?_⟩;exact put_below qE (by omega) _ _
          ·have M:=fun w=>made_any (true && decide (0<n)) n v w (by omega) (by omega) (by omega) (by omega)
           rw [made_is _ (by omega) (by omega),HO.out] at M;rw [Bool.true_and,decide_eq_false hn] at M;have hn':decide (0<n)=false:=decide_eq_false hn;go_wp2_with fail
           refine (P _).mono ?_;rintro e w1 ⟨rfl,rfl⟩;go_wp2_with fail
           refine (Q _).mono ?_;rintro e w1 ⟨rfl,rfl⟩;go_wp2_with fail
           refine (M _).mono ?_;rintro e w3 ⟨rfl,hb3⟩;obtain ⟨k1,k2,k3,k4⟩:=At.below hb3 (At.new w 39 rfl (.int .i64 0) (.int .i64 0));have qE:=below_end ((Below.refl _ w).alloc (Nat.le_refl _) (.cells #[.int .i64 0,.int .i64 0] 39)) hb3;go_wp2;refine bodyPost_ret (v:=.tuple #[.agg #[.int .i64 (Wnum.oN o),.int .i64 (Wnum.oD o)],.bool (Wnum.oB o)]) (by simp [results,Tryz.results106,go_sem,k1,k2]) rfl ⟨rfl,?_⟩;exact put_below qE (by omega) _ _
       ·have c47':(c == 47)=false:=beq_eq_false_iff_ne.2 c47;by_cases c46:c=46
        ·subst c46;by_cases w6:6<s.size - (i+1)
         ·have e:o=none:=by rw [←O.out];exact Q3.out rfl (Or.inl (by rw [K.out];exact w6))
          subst e;have w6':(6:Int)<(s.size:Int) - (i:Int) - 1:=by omega
          clear Q1 Q2 Q3 Q4 w6;go_wp2_with fail
          refine (P _).mono ?_;rintro e w1 ⟨rfl,rfl⟩;go_wp2_with fail
          refine (Q _).mono ?_;rintro e w1 ⟨rfl,rfl⟩;go_wp2;refine bodyPost_ret (v:=.tuple #[.agg #[.int .i64 0,.int .i64 0],.bool false]) (by simp [results,Tryz.results106,go_sem]) rfl ⟨rfl,?_⟩;exact (by with_reducible repeat (first | exact Below.refl _ _ | refine below_drewN ?_ _ | refine Below.setCell ?_ (by first | (simp;done) | (simp;omega) | omega) _ | refine Below.drew ?_ | refine below_end ?_ (by assumption) | refine ball ?_ _))
         ·have w6':decide ((6:Int)<(s.size:Int) - (i:Int) - 1)=false:=decide_eq_false (by omega);by_cases wn:1000000000000<n
          ·have e:o=none:=by rw [←O.out];exact Q3.out rfl (Or.inr wn)
           subst e;clear Q1 Q2 Q3 Q4;go_wp2_with fail
           refine (P _).mono ?_;rintro e w1 ⟨rfl,rfl⟩;go_wp2_with fail
           refine (Q _).mono ?_;rintro e w1 ⟨rfl,rfl⟩;go_wp2;refine bodyPost_ret (v:=.tuple #[.agg #[.int .i64 0,.int .i64 0],.bool false]) (by simp [results,Tryz.results106,go_sem]) rfl ⟨rfl,?_⟩;exact (by with_reducible repeat (first | exact Below.refl _ _ | refine below_drewN ?_ _ | refine Below.setCell ?_ (by first | (simp;done) | (simp;omega) | omega) _ | refine Below.drew ?_ | refine below_end ?_ (by assumption) | refine ball ?_ _))
          ·have wn':decide (1000000000000<n)=false:=decide_eq_false wn;have q4:=Q4.out rfl (by rw [K.out];omega) (by omega);rw [K.out] at q4;have t1:=Wnum.tenP_le6 (k:=s.size - (i+1)) (by omega);have t2:=Wnum.tenP_pos (s.size - (i+1));have T:=fun w=>rten_any ((s.size:Int) - (i:Int) - 1) w (by omega) (by omega)
           rw [show ((s.size:Int) - (i:Int) - 1).toNat=s.size - (i+1) by omega] at T;generalize Wnum.tenP (s.size - (i+1))=ten at *;have HO:Hid (Wnum.mk (Wnum.sgnd m (n * ten+v)) ten=o):=by show _=_;rw [←O.out,q4]
           have m1:0≤n * ten:=Int.mul_nonneg b2 (by omega);have m2:n * ten≤1000000000000 * 1000000:=Int.mul_le_mul (by omega) t1 (by omega) (by omega);have z1:IntKind.u64.wrap (n * ten)=n * ten:=IntWalk.u64_in _ (by omega);have z2:IntKind.u64.wrap (n * ten+v)=n * ten+v:=IntWalk.u64_in _ (by omega);clear Q1 Q2 Q3 Q4 q4;cases m with
           | false =>
            have M:=fun w=>made_any (false && decide (0<(n * ten+v))) (n * ten+v) ten w (by omega) (by omega) (by omega) (by omega)
            rw [made_is _ (by omega) (by omega),HO.out] at M;rw [Bool.false_and] at M;go_wp2_with fail
            refine (P _).mono ?_;rintro e w1 ⟨rfl,rfl⟩;go_wp2_with fail
            refine (Q _).mono ?_;rintro e w1 ⟨rfl,rfl⟩;go_wp2_with fail
            refine (T _).mono ?_;rintro e w1 ⟨rfl,rfl⟩;go_wp2_with fail
            refine (M _).mono ?_;rintro e w3 ⟨rfl,hb3⟩;obtain ⟨k1,k2,k3,k4⟩:=At.below hb3 (At.new w 39 rfl (.int .i64 0) (.int .i64 0));have qE:=below_end ((Below.refl _ w).alloc (Nat.le_refl _) (.cells #[.int .i64 0,.int .i64 0] 39)) hb3;go_wp2;refine bodyPost_ret (v:=.tuple #[.agg #[.int .i64 (Wnum.oN o),.int .i64 (Wnum.oD o)],.bool (Wnum.oB o)]) (by simp [results,Tryz.results106,go_sem,k1,k2]) rfl ⟨rfl,?_⟩;exact put_below qE (by omega) _ _
           | true =>
            by_cases hn:0<(n * ten+v)
            ·have M:=fun w=>made_any (true && decide (0<(n * ten+v))) (n * ten+v) ten w (by omega) (by omega) (by omega) (by omega)
             rw [made_is _ (by omega) (by omega),HO.out] at M;rw [Bool.true_and,decide_eq_true hn] at M;go_wp2_with fail
             refine (P _).mono ?_;rintro e w1 ⟨rfl,rfl⟩;go_wp2_with fail
             refine (Q _).mono ?_;rintro e w1 ⟨rfl,rfl⟩;go_wp2_with fail
             refine (T _).mono ?_;rintro e w1 ⟨rfl,rfl⟩;go_wp2_with fail
             refine (M _).mono ?_;rintro e w3 ⟨rfl,hb3⟩;obtain ⟨k1,k2,k3,k4⟩:=At.below hb3 (At.new w 39 rfl (.int .i64 0) (.int .i64 0));have qE:=below_end ((Below.refl _ w).alloc (Nat.le_refl _) (.cells #[.int .i64 0,.int .i64 0] 39)) hb3;go_wp2;refine bodyPost_ret (v:=.tuple #[.agg #[.int .i64 (Wnum.oN o),.int .i64 (Wnum.oD o)],.bool (Wnum.oB o)]) (by simp [results,Tryz.results106,go_sem,k1,k2]) rfl ⟨rfl,?_⟩;exact put_below qE (by omega) _ _
            ·have M:=fun w=>made_any (true && decide (0<(n * ten+v))) (n * ten+v) ten w (by omega) (by omega) (by omega) (by omega)
             rw [made_is _ (by omega) (by omega),HO.out] at M;rw [Bool.true_and,decide_eq_false hn] at M;have hn':decide (0<(n * ten+v))=false:=decide_eq_false hn;go_wp2_with fail
             refine (P _).mono ?_;rintro e w1 ⟨rfl,rfl⟩;go_wp2_with fail
             refine (Q _).mono ?_;rintro e w1 ⟨rfl,rfl⟩;go_wp2_with fail
             refine (T _).mono ?_;rintro e w1 ⟨rfl,rfl⟩;go_wp2_with fail
             refine (M _).mono ?_;rintro e w3 ⟨rfl,hb3⟩;obtain ⟨k1,k2,k3,k4⟩:=At.below hb3 (At.new w 39 rfl (.int .i64 0) (.int .i64 0));have qE:=below_end ((Below.refl _ w).alloc (Nat.le_refl _) (.cells #[.int .i64 0,.int .i64 0] 39)) hb3;go_wp2;refine bodyPost_ret (v:=.tuple #[.agg #[.int .i64 (Wnum.oN o),.int .i64 (Wnum.oD o)],.bool (Wnum.oB o)]) (by simp [results,Tryz.results106,go_sem,k1,k2]) rfl ⟨rfl,?_⟩;exact put_below qE (by omega) _ _
        ·have c46':(c != 46)=true:=bne_iff_ne.2 c46;have e:o=none:=by rw [←O.out];exact Q2.out c47 c46
         subst e;clear Q1 Q2 Q3 Q4 c46 c47;go_wp2_with fail
         refine (P _).mono ?_;rintro e w1 ⟨rfl,rfl⟩;go_wp2_with fail
         refine (Q _).mono ?_;rintro e w1 ⟨rfl,rfl⟩;go_wp2;refine bodyPost_ret (v:=.tuple #[.agg #[.int .i64 0,.int .i64 0],.bool false]) (by simp [results,Tryz.results106,go_sem]) rfl ⟨rfl,?_⟩;exact (by with_reducible repeat (first | exact Below.refl _ _ | refine below_drewN ?_ _ | refine Below.setCell ?_ (by first | (simp;done) | (simp;omega) | omega) _ | refine Below.drew ?_ | refine below_end ?_ (by assumption) | refine ball ?_ _))
      ·have e:o=none:=by rw [←O.out];exact R0.out (fun x=>ce x.2)
       subst e;have ne2:(((i+1+Wnum.dk s (i+1):Nat):Int) != (s.size:Int))=true:=bne_iff_ne.2 (by omega);clear R0 R1 hg eN2 eI2 eb;generalize Wnum.dv s (i+1)=v at *;generalize ((i+1+Wnum.dk s (i+1):Nat):Int)=x2 at *;go_wp2_with fail
       refine (P _).mono ?_;rintro e w1 ⟨rfl,rfl⟩;go_wp2_with fail
       refine (Q _).mono ?_;rintro e w1 ⟨rfl,rfl⟩;go_wp2;refine bodyPost_ret (v:=.tuple #[.agg #[.int .i64 0,.int .i64 0],.bool false]) (by simp [results,Tryz.results106,go_sem]) rfl ⟨rfl,?_⟩;exact (by with_reducible repeat (first | exact Below.refl _ _ | refine below_drewN ?_ _ | refine Below.setCell ?_ (by first | (simp;done) | (simp;omega) | omega) _ | refine Below.drew ?_ | refine below_end ?_ (by assumption) | refine ball ?_ _))
theorem r2Fault_any (i:Int) (h1:1≤i) (h8:i≤8) (w:World):Calls Tryz.prog 109 #[.int .i64 i] w fun e w'=>e=.returned (.agg (vl6 ⟨4,0,0,⟨#[]⟩,false,i⟩).toArray)∧Below w.heap.size w w':=by
 have g1:¬ i<1:=by omega
 have g2:¬ 8<i:=by omega
 have g1d:decide (i<1)=false:=by simpa using g1
 have g2d:decide (8<i)=false:=by simpa using g2
 go_enter Tryz.func109,Tryz.ntmps109;go_wp2;refine bodyPost_ret (v:=.agg (vl6 ⟨4,0,0,⟨#[]⟩,false,i⟩).toArray) (by simp [results,Tryz.results109,go_sem,vl6]) rfl ⟨rfl,?_⟩;exact by with_reducible repeat (first | exact Below.refl _ _ | refine below_drewN ?_ _ | refine Below.setCell ?_ (by first | (simp;done) | (simp;omega) | omega) _ | refine Below.drew ?_ | refine below_end ?_ (by assumption) | refine ball ?_ _)
abbrev zV:List Value:=[.int .i64 0,.int .i64 0,.int .i64 0,.string ⟨#[]⟩,.bool false,.int .i64 0]
theorem r2Text_any (s:ByteArray) (w:World) (hs:s.size≤9223372036854775807):Calls Tryz.prog 105 #[.string s] w fun e w'=>e=.returned (.agg (vl6 (vText s)).toArray)∧Below w.heap.size w w':=by
 have P:=fun w=>r2plain_any s w hs
 have pZ:AtL (w.alloc (.cells #[.int .i64 0,.int .i64 0,.int .i64 0,.string ⟨#[]⟩,.bool false,.int .i64 0] 41)) w.heap.size zV:=AtL.new0 w _ _;have hB:=ball (Below.refl _ w) (.cells #[.int .i64 0,.int .i64 0,.int .i64 0,.string ⟨#[]⟩,.bool false,.int .i64 0] 41);have F7:=fun w=>r2Fault_any 7 (by omega) (by omega) w
 have F2:=fun w=>r2Fault_any 2 (by omega) (by omega) w
 unfold vText;cases hp:Wv.prts s.data.toList with
 | false =>
  rw [hp] at P;simp only [Bool.false_eq_true,if_false];go_enter Tryz.func105,Tryz.ntmps105;go_upto_region 1 with fail
  generalize w.alloc (.cells #[.int .i64 0,.int .i64 0,.int .i64 0,.string ⟨#[]⟩,.bool false,.int .i64 0] 41)=W at *;go_wp2_with fail
  refine (P _).mono ?_;rintro e w1 ⟨rfl,rfl⟩;go_wp2_with fail
  refine (F2 _).mono ?_;rintro e w2 ⟨rfl,hb⟩;have pZ2:=AtL.below hb pZ;have hB2:=below_end hB hb;have tR:w2.there w.heap.size 0 (vl6 ⟨4,0,0,⟨#[]⟩,false,2⟩).toArray.size:=pZ2.there;go_wp2_with ((with_reducible refine wpList_store_mid ?_ 41 (.tmp 2) (.tmp 8) ?_ (w.heap.size) 0 (vl6 ⟨4,0,0,⟨#[]⟩,false,2⟩).toArray ?_ ?_ ?_ ?_ ?_ ?_);rfl;rfl;rfl;rfl;exact tR;kernel_rfl;exact one6q _)
  have rR2:=AtL.setAll pZ2 (vs:=vl6 ⟨4,0,0,⟨#[]⟩,false,2⟩) rfl;refine bodyPost_ret (v:=.agg (vl6 ⟨4,0,0,⟨#[]⟩,false,2⟩).toArray) (results_cell (by rfl) _ _ w.heap.size (vl6 ⟨4,0,0,⟨#[]⟩,false,2⟩) _ (by rfl) rR2.range Tryz.underlying41 rfl (by kernel_rfl)) rfl ?_;exact ⟨rfl,bset hB2 (Nat.le_refl _) _ 0⟩
 | true =>
  rw [hp] at P;simp only [if_true];by_cases h256:256<s.size
  ·rw [if_pos h256];have hli:(256:Int)<(s.size:Int):=by omega
   go_enter Tryz.func105,Tryz.ntmps105;go_upto_region 1 with fail
   generalize w.alloc (.cells #[.int .i64 0,.int .i64 0,.int .i64 0,.string ⟨#[]⟩,.bool false,.int .i64 0] 41)=W at *;go_wp2_with fail
   refine (P _).mono ?_;rintro e w1 ⟨rfl,rfl⟩;go_wp2_with fail
   refine (F7 _).mono ?_;rintro e w2 ⟨rfl,hb⟩;have pZ2:=AtL.below hb pZ;have hB2:=below_end hB hb;have tR:w2.there w.heap.size 0 (vl6 ⟨4,0,0,⟨#[]⟩,false,7⟩).toArray.size:=pZ2.there;go_wp2_with ((with_reducible refine wpList_store_mid ?_ 41 (.tmp 2) (.tmp 12) ?_ (w.heap.size) 0 (vl6 ⟨4,0,0,⟨#[]⟩,false,7⟩).toArray ?_ ?_ ?_ ?_ ?_ ?_);rfl;rfl;rfl;rfl;exact tR;kernel_rfl;exact one6q _)
   have rR2:=AtL.setAll pZ2 (vs:=vl6 ⟨4,0,0,⟨#[]⟩,false,7⟩) rfl;refine bodyPost_ret (v:=.agg (vl6 ⟨4,0,0,⟨#[]⟩,false,7⟩).toArray) (results_cell (by rfl) _ _ w.heap.size (vl6 ⟨4,0,0,⟨#[]⟩,false,7⟩) _ (by rfl) rR2.range Tryz.underlying41 rfl (by kernel_rfl)) rfl ?_;exact ⟨rfl,bset hB2 (Nat.le_refl _) _ 0⟩
  ·rw [if_neg h256];have hli:¬ (256:Int)<(s.size:Int):=by omega
   go_enter Tryz.func105,Tryz.ntmps105;go_upto_region 1 with fail
   generalize w.alloc (.cells #[.int .i64 0,.int .i64 0,.int .i64 0,.string ⟨#[]⟩,.bool false,.int .i64 0] 41)=W at *;have tR:W.there w.heap.size 0 (vl6 ⟨2,0,0,s,false,0⟩).toArray.size:=pZ.there;go_wp2_with fail
   refine (P _).mono ?_;rintro e w1 ⟨rfl,rfl⟩;go_wp2_with ((with_reducible refine wpList_store_mid ?_ 41 (.tmp 2) (.tmp 14) ?_ (w.heap.size) 0 (vl6 ⟨2,0,0,s,false,0⟩).toArray ?_ ?_ ?_ ?_ ?_ ?_);rfl;rfl;rfl;rfl;exact tR;kernel_rfl;exact one6q _)
   have rR2:=AtL.setAll pZ (vs:=vl6 ⟨2,0,0,s,false,0⟩) rfl;refine bodyPost_ret (v:=.agg (vl6 ⟨2,0,0,s,false,0⟩).toArray) (results_cell (by rfl) _ _ w.heap.size (vl6 ⟨2,0,0,s,false,0⟩) _ (by rfl) rR2.range Tryz.underlying41 rfl (by kernel_rfl)) rfl ?_;exact ⟨rfl,bset hB (Nat.le_refl _) _ 0⟩
theorem r2Number_any (n d:Int) (w:World) (h1:-9223372036854775808≤n) (h2:n≤9223372036854775807) (h3:-9223372036854775808≤d) (h4:d≤9223372036854775807) :
  Calls Tryz.prog 107 #[.agg #[.int .i64 n,.int .i64 d]] w fun e w'=>e=.returned (.agg (vl6 (vNum n d)).toArray)∧Below w.heap.size w w':=by
 have C:=fun w=>of_any n d w h1 h2 h3 h4
 unfold vNum;generalize Wnum.cN n d=cn at *;generalize Wnum.cD n d=cd at *;have pA:=(AtL.new0 w 39 [.int .i64 n,.int .i64 d]).alloc (.cells #[.int .i64 0,.int .i64 0,.int .i64 0,.string ⟨#[]⟩,.bool false,.int .i64 0] 41);have pZ:AtL ((w.alloc (.cells #[.int .i64 n,.int .i64 d] 39)).alloc (.cells #[.int .i64 0,.int .i64 0,.int .i64 0,.string ⟨#[]⟩,.bool false,.int .i64 0] 41)) (w.heap.size+1) zV:=AtL.new _ _ (by simp) _;have hB:=ball (ball (Below.refl _ w) (.cells #[.int .i64 n,.int .i64 d] 39)) (.cells #[.int .i64 0,.int .i64 0,.int .i64 0,.string ⟨#[]⟩,.bool false,.int .i64 0] 41);go_enter Tryz.func107,Tryz.ntmps107;go_upto_region 1 with fail
 generalize (w.alloc (.cells #[.int .i64 n,.int .i64 d] 39)).alloc (.cells #[.int .i64 0,.int .i64 0,.int .i64 0,.string ⟨#[]⟩,.bool false,.int .i64 0] 41)=W at *;have c0:=pA.2.1 0 _ rfl;have c1:=pA.2.1 1 _ rfl;go_wp2_with fail
 refine (C _).mono ?_;rintro e w1 ⟨rfl,hb⟩;have pZ2:=AtL.below hb pZ;have hB2:=below_end hB hb;have tR:w1.there (w.heap.size+1) 0 (vl6 ⟨1,cn,cd,⟨#[]⟩,false,0⟩).toArray.size:=pZ2.there;clear c0 c1 pA pZ hB hb;go_wp2_with ((with_reducible refine wpList_store_mid ?_ 41 (.tmp 2) (.tmp 5) ?_ (w.heap.size+1) 0 (vl6 ⟨1,cn,cd,⟨#[]⟩,false,0⟩).toArray ?_ ?_ ?_ ?_ ?_ ?_);rfl;rfl;rfl;rfl;exact tR;kernel_rfl;exact one6q _)
 have rR2:=AtL.setAll pZ2 (vs:=vl6 ⟨1,cn,cd,⟨#[]⟩,false,0⟩) rfl;refine bodyPost_ret (v:=.agg (vl6 ⟨1,cn,cd,⟨#[]⟩,false,0⟩).toArray) (results_cell (by rfl) _ _ (w.heap.size+1) (vl6 ⟨1,cn,cd,⟨#[]⟩,false,0⟩) _ (by rfl) rR2.range Tryz.underlying41 rfl (by kernel_rfl)) rfl ?_;exact ⟨rfl,bset hB2 (by omega) _ 0⟩
theorem r2Read_f (l:List UInt8) (i:Nat) (h1:1≤i) (h8:i≤8) (w:World) (hl:l.length≤1000) (hr:Wnum.oB (Wnum.rdO ⟨(35::l).toArray⟩)=false) (e1:((35::l:List UInt8) == [84,82,85,69])=false) (e2:((35::l:List UInt8) == [70,65,76,83,69])=false)
  (hat:fltR[i]? = some (.string ⟨(35::l).toArray⟩)) (hlt:∀ j,1≤j→j<i→∃ q:List UInt8,fltR[j]? = some (.string ⟨q.toArray⟩)∧((35::l:List UInt8) == q)=false) :
  Calls Tryz.prog 78 #[.string ⟨(35::l).toArray⟩] w fun e w'=>e=.returned (.agg (vl6 ⟨4,0,0,⟨#[]⟩,false,(i:Int)⟩).toArray)∧Below w.heap.size w w':=by
 have R:=fun w=>rread_any ⟨(35::l).toArray⟩ w (by show (35::l).length≤_;simp only [List.length_cons];omega)
 rw [hr] at R;have NM:=fun w=>rnames_any w
 have FA:=fun w=>r2Fault_any (i:Int) (by omega) (by omega) w
 have pZ:AtL (w.alloc (.cells #[.int .i64 0,.int .i64 0,.int .i64 0,.string ⟨#[]⟩,.bool false,.int .i64 0] 41)) w.heap.size zV:=AtL.new0 w _ _;have hB:=ball (Below.refl _ w) (.cells #[.int .i64 0,.int .i64 0,.int .i64 0,.string ⟨#[]⟩,.bool false,.int .i64 0] 41);generalize Wnum.oN (Wnum.rdO ⟨(35::l).toArray⟩)=rn at *;generalize Wnum.oD (Wnum.rdO ⟨(35::l).toArray⟩)=rd at *;have HAT:Hid (fltR[i]? = some (.string ⟨(35::l).toArray⟩)):=hat;have HLT:Hid (∀ j,1≤j→j<i→∃ q:List UInt8,fltR[j]? = some (.string ⟨q.toArray⟩)∧((35::l:List UInt8) == q)=false):=hlt;clear hr hat hlt;go_enter Tryz.func78,Tryz.ntmps78;go_upto_region 1 with fail
 generalize w.alloc (.cells #[.int .i64 0,.int .i64 0,.int .i64 0,.string ⟨#[]⟩,.bool false,.int .i64 0] 41)=W at *;go_wp2_with fail
 refine (R _).mono ?_;rintro e w1 ⟨rfl,hb1⟩;have pZ2:=(AtL.below hb1 pZ).alloc (.cells #[.int .i64 rn,.int .i64 rd] 39);have hB1:=ball (below_end hB hb1) (.cells #[.int .i64 rn,.int .i64 rd] 39);clear pZ hB hb1;go_upto_region 6 with fail
 generalize w1.alloc (.cells #[.int .i64 rn,.int .i64 rd] 39)=W2 at *;go_wp2_with fail
 refine (NM _).mono ?_;rintro e w3 ⟨rfl,pF,hb3⟩;have pZ3:=AtL.below hb3 pZ2;have hB3:=below_end hB1 hb3;have HF:Hid (∀ j v,fltR[j]? = some v→w3.cell? ⟨W2.heap.size,j,none⟩=some v):=pF.2.1;clear pZ2 hB1 hb3 pF;go_wp2_with fail
 go_loopg [6] (i - 1) (fun gk x wr=>∃ j:Nat,x=.int .i64 j∧gk=i - j∧1≤j∧j≤i∧w3=wr)
 case atStart=>exact ⟨1,rfl,rfl,Nat.le_refl _,h1,rfl⟩
 case round =>
  obtain ⟨j,rfl,hg,hj1,hji,rfl⟩:=hrel;have hj9:(j:Int)<9:=by omega
  by_cases hlt:j<i
  ·obtain ⟨q,hq,hne⟩:=HLT.out j hj1 hlt;have cq:=HF.out j _ hq;go_wp2_with fail
   go_roundg (i - (j+1))
   case rel=>exact ⟨j+1,by simp,rfl,by omega,by omega,rfl⟩
   case measure=>omega
  ·obtain rfl:j=i:=by omega
   have cq:=HF.out j _ HAT.out;go_wp2_with fail
   refine (FA _).mono ?_;rintro e w4 ⟨rfl,hb4⟩;have pZ4:=AtL.below hb4 pZ3;have hB4:=below_end hB3 hb4;have tR:w4.there w.heap.size 0 (vl6 ⟨4,0,0,⟨#[]⟩,false,(j:Int)⟩).toArray.size:=pZ4.there;go_wp2_with ((with_reducible refine wpList_store_mid ?_ 41 (.tmp 2) (.tmp 47) ?_ (w.heap.size) 0 (vl6 ⟨4,0,0,⟨#[]⟩,false,(j:Int)⟩).toArray ?_ ?_ ?_ ?_ ?_ ?_);rfl;rfl;rfl;rfl;exact tR;kernel_rfl;exact one6q _)
   have rR2:=AtL.setAll pZ4 (vs:=vl6 ⟨4,0,0,⟨#[]⟩,false,(j:Int)⟩) rfl;refine bodyPost_ret (v:=.agg (vl6 ⟨4,0,0,⟨#[]⟩,false,(j:Int)⟩).toArray) (results_cell (by rfl) _ _ w.heap.size (vl6 ⟨4,0,0,⟨#[]⟩,false,(j:Int)⟩) _ (by rfl) rR2.range Tryz.underlying41 rfl (by kernel_rfl)) rfl ?_;exact ⟨rfl,bset hB4 (Nat.le_refl _) _ 0⟩
end Go.Proofs.YtlggnpohhahdlaaGreatDoor
