/- TLit, TLitB, PWalkB, NPlain, NWalkA, NWalkI, PPlainB, NWalkC, TWord, NPlainB, NWalkE. -/
import Derived.Test.YtlggnpohhahdlaaGreatDoorQ12
import Derived.Lib.ItoaNum
import Derived.Lib.ItoaLen
import Derived.Lib.Slices
import Derived.Laws.IdiomStrings
import Derived.Shelf.Strconv.Itoa3
import Derived.Lib.AppendIntMem
import Derived.Ground.NamesProg
set_option maxHeartbeats 4000000
set_option maxRecDepth 100000
namespace Go.Proofs.YtlggnpohhahdlaaGreatDoor
open Go.RowKit
set_option linter.unusedVariables false
def litV (t:Wlx.TV):Option Wt.Vl :=
 if t.k=1 then (if Wnum.oB (Wnum.rdO ⟨t.t.toArray⟩)=true then some (vNum (Wnum.oN (Wnum.rdO ⟨t.t.toArray⟩)) (Wnum.oD (Wnum.rdO ⟨t.t.toArray⟩))) else none)
 else if t.k=2 then (if t.t.length≤256 then some (vText ⟨t.t.toArray⟩) else none)
 else if t.k=4 then some ⟨4,0,0,⟨#[]⟩,false,(fi t.t 0 fNames:Nat)⟩
 else none
def TokOk (t:Wlx.TV):Prop:=t.t.length≤1024∧(t.k=4→∃ i,∃ h:i<9,1≤i∧t.t=fNames[i]'h)
def LitPost (t:Wlx.TV) (e:Ending):Prop:=∃ v ok,e=.returned (.tuple #[vlV v,.bool ok])∧litV t=if ok then some v else none
theorem vRead_l (b:UInt8) (l:List UInt8) (c:Nat) (w:World) (hF:FltAt w) (hs:l.length<1024) (hb:(b == 39)=false) (hr:Wnum.rdO ⟨(b::l).toArray⟩=none) (h1:¬ b::l=[84,82,85,69]) (h2:¬ b::l=[70,65,76,83,69]) (hc:fi (b::l) 0 fNames=c) (hc1:1≤c) (hc8:c≤8) :
  Calls Tryz.prog 155 #[.string ⟨(b::l).toArray⟩] w fun e w'=>e=.returned (vlV ⟨4,0,0,⟨#[]⟩,false,((fi (b::l) 0 fNames:Nat):Int)⟩)∧Below w.heap.size w w':=by
 have e:(⟨(b::l).toArray⟩:ByteArray).toList=b::l:=by rw [ByteArray.toList_eq]
 have e2:((⟨(b::l).toArray⟩:ByteArray).extract 0 1).toList=[b]:=by rw [ByteArray.toList_eq];simp
 rw [hc];exact vRead_of ⟨(b::l).toArray⟩ c w hF (by show 0<(b::l).length;simp) (by show (b::l).length≤1024;simp;omega) (by rw [e2];simpa using hb) hr (by rw [e];exact h1) (by rw [e];exact h2) (by rw [e];exact hc) hc1 hc8
theorem flt_reads:∀ (i:Nat) (h:i<9),1≤i→∀ (w:World),FltAt w→Calls Tryz.prog 155 #[.string ⟨(fNames[i]'h).toArray⟩] w fun e w'=>e=.returned (vlV ⟨4,0,0,⟨#[]⟩,false,((fi (fNames[i]'h) 0 fNames:Nat):Int)⟩)∧Below w.heap.size w w'
 | 0,_,h,_,_=>absurd h (by decide)
 | 1,_,_,w,hF=>vRead_l 35 [68,73,86,47,48,33] 1 w hF (by decide) (by decide) (by decide +kernel) (by decide) (by decide) (by decide) (by decide) (by decide)
 | 2,_,_,w,hF=>vRead_l 35 [86,65,76,85,69,33] 2 w hF (by decide) (by decide) (by decide +kernel) (by decide) (by decide) (by decide) (by decide) (by decide)
 | 3,_,_,w,hF=>vRead_l 35 [82,69,70,33] 3 w hF (by decide) (by decide) (by decide +kernel) (by decide) (by decide) (by decide) (by decide) (by decide)
 | 4,_,_,w,hF=>vRead_l 35 [78,85,77,33] 4 w hF (by decide) (by decide) (by decide +kernel) (by decide) (by decide) (by decide) (by decide) (by decide)
 | 5,_,_,w,hF=>vRead_l 35 [78,47,65] 5 w hF (by decide) (by decide) (by decide +kernel) (by decide) (by decide) (by decide) (by decide) (by decide)
 | 6,_,_,w,hF=>vRead_l 35 [67,73,82,67,76,69,33] 6 w hF (by decide) (by decide) (by decide +kernel) (by decide) (by decide) (by decide) (by decide) (by decide)
 | 7,_,_,w,hF=>vRead_l 35 [76,79,78,71,33] 7 w hF (by decide) (by decide) (by decide +kernel) (by decide) (by decide) (by decide) (by decide) (by decide)
 | 8,_,_,w,hF=>vRead_l 35 [65,82,71,33] 8 w hF (by decide) (by decide) (by decide +kernel) (by decide) (by decide) (by decide) (by decide) (by decide)
 | j+9,h,_,_,_=>absurd h (by omega)
theorem rdO_bd (s:ByteArray):(-9223372036854775808≤Wnum.oN (Wnum.rdO s)∧Wnum.oN (Wnum.rdO s)≤9223372036854775807)∧(-9223372036854775808≤Wnum.oD (Wnum.rdO s)∧Wnum.oD (Wnum.rdO s)≤9223372036854775807):=by
 cases Wnum.rdO s with
 | none=>exact ⟨⟨by decide,by decide⟩,by decide,by decide⟩
 | some r =>
  simp only [Wnum.oN,Wnum.oD];by_cases h:Wnum.okQ r=true
  ·rw [if_pos h,if_pos h];have:=of_decide_eq_true h;omega
  ·rw [if_neg h,if_neg h];omega
abbrev LvS (ka kb:Nat) (k:Int) (x:List UInt8) (p:Int) (W:World):Prop :=
 W.cell? ⟨ka,0,none⟩=some (.int .i64 k)∧W.cell? ⟨ka,1,none⟩=some (.string ⟨x.toArray⟩)∧W.cell? ⟨ka,2,none⟩=some (.int .i64 p)∧W.frozen? ⟨kb,0,none⟩=false∧W.frozen? ⟨kb,1,none⟩=false∧W.frozen? ⟨kb,2,none⟩=false∧W.frozen? ⟨kb,3,none⟩=false∧W.frozen? ⟨kb,4,none⟩=false∧W.frozen? ⟨kb,5,none⟩=false
theorem LvS_mk {ka kb:Nat} {k:Int} {x:List UInt8} {p:Int} {W:World} {us:List Value} (h0:AtL W ka [.int .i64 k,.string ⟨x.toArray⟩,.int .i64 p]) (h1:AtL W kb us) (hl:us.length=6):LvS ka kb k x p W :=
 ⟨h0.2.1 0 _ rfl,h0.2.1 1 _ rfl,h0.2.1 2 _ rfl,h1.2.2 0 (by omega),h1.2.2 1 (by omega),h1.2.2 2 (by omega),h1.2.2 3 (by omega),h1.2.2 4 (by omega),h1.2.2 5 (by omega)⟩
theorem LvS_set {ka kb:Nat} {k:Int} {x:List UInt8} {p:Int} {W:World} (h:LvS ka kb k x p W) (hne:kb ≠ ka) (j:Nat) (u:Value):LvS ka kb k x p (W.setCell ⟨kb,j,none⟩ u):=by
 obtain ⟨h0,h1,h2,g0,g1,g2,g3,g4,g5⟩:=h;refine ⟨?_,?_,?_,?_,?_,?_,?_,?_,?_⟩;any_goals rw [World.cell?_setCell_far _ _ _ _ (by simpa using hne)];assumption
 all_goals rw [World.frozen?_setCell];assumption
theorem litv_any (t:Wlx.TV) (w:World) (hF:FltAt w) (ht:TokOk t):Calls Tryz.prog 189 #[tkV t] w fun e w'=>LitPost t e∧Below w.heap.size w w':=by
 obtain ⟨k,x,p⟩:=t;obtain ⟨hx,h4⟩:=ht;simp only at hx h4;have hxs:(⟨x.toArray⟩:ByteArray).size=x.length:=rfl;show Calls _ _ #[.agg #[.int .i64 k,.string ⟨x.toArray⟩,.int .i64 p]] _ _
 have pA:=(AtL.new0 w 79 [.int .i64 k,.string ⟨x.toArray⟩,.int .i64 p]).alloc (.cells #[.int .i64 0,.int .i64 0,.int .i64 0,.string ⟨#[]⟩,.bool false,.int .i64 0] 41);have pR:=vlz (w.alloc (.cells #[.int .i64 k,.string ⟨x.toArray⟩,.int .i64 p] 79));simp only [World.size_alloc] at pR;have hB0:=ball (ball (Below.refl _ w) (.cells #[.int .i64 k,.string ⟨x.toArray⟩,.int .i64 p] 79)) (.cells #[.int .i64 0,.int .i64 0,.int .i64 0,.string ⟨#[]⟩,.bool false,.int .i64 0] 41);have hF0:=hF.below hB0;by_cases h1:k=1
 ·subst h1;have C1:=fun w=>read_any ⟨x.toArray⟩ w (by omega)
  have bd:∀ q:Option Rat,q=Wnum.rdO ⟨x.toArray⟩→(-9223372036854775808≤Wnum.oN q∧Wnum.oN q≤9223372036854775807)∧(-9223372036854775808≤Wnum.oD q∧Wnum.oD q≤9223372036854775807):=by
   intro q hq;subst hq;exact rdO_bd _
  obtain ⟨⟨b1,b2⟩,b3,b4⟩:=bd _ rfl;have C2:=fun w=>vNum_any (Wnum.oN (Wnum.rdO ⟨x.toArray⟩)) (Wnum.oD (Wnum.rdO ⟨x.toArray⟩)) w b1 b2 b3 b4
  have hp:LitPost ⟨1,x,p⟩ (.returned (.tuple #[vlV (vNum (Wnum.oN (Wnum.rdO ⟨x.toArray⟩)) (Wnum.oD (Wnum.rdO ⟨x.toArray⟩))),.bool (Wnum.oB (Wnum.rdO ⟨x.toArray⟩))])):=by
   refine ⟨_,_,rfl,?_⟩;unfold litV;rw [if_pos rfl]
  generalize vNum (Wnum.oN (Wnum.rdO ⟨x.toArray⟩)) (Wnum.oD (Wnum.rdO ⟨x.toArray⟩))=V at *;generalize Wnum.oN (Wnum.rdO ⟨x.toArray⟩)=qn at *;generalize Wnum.oD (Wnum.rdO ⟨x.toArray⟩)=qd at *;generalize Wnum.oB (Wnum.rdO ⟨x.toArray⟩)=qb at *;clear bd b1 b2 b3 b4;obtain ⟨v1,v2,v3,v4,v5,v6⟩:=V;simp only [vlV,vl6] at C2;go_enter Tryz.func189,Tryz.ntmps189;go_wp2_with fail
  refine (C1 _).mono ?_;rintro e w1 ⟨rfl,hb⟩;have pR1:=AtL.below hb pR;have hB1:=below_end hB0 hb;clear pA pR hB0 hb;go_wp2_with fail
  refine (C2 _).mono ?_;rintro e w2 ⟨rfl,hb⟩;have pR2:=AtL.below hb (AtL.alloc pR1 _);have hB2:=below_end (ball hB1 _) hb;clear pR1 hB1 hb;obtain ⟨c0,c1,c2,c3,c4,c5⟩:=pR2.f6;have g0:=pR2.2.2 0 (by decide);have g1:=pR2.2.2 1 (by decide);have g2:=pR2.2.2 2 (by decide);have g3:=pR2.2.2 3 (by decide);have g4:=pR2.2.2 4 (by decide);have g5:=pR2.2.2 5 (by decide);go_wp2;refine bodyPost_ret (v:=.tuple #[vlV ⟨v1,v2,v3,v4,v5,v6⟩,.bool qb]) (by simp [results,Tryz.results189,go_sem,vlV,vl6,c0,c1,c2,c3,c4,c5]) rfl ⟨hp,?_⟩;exact by with_reducible repeat (first | exact hB2 | refine ball ?_ _ | refine Below.setCell ?_ (by first | (simp;done) | (simp;omega) | omega) _ | refine Below.drew ?_ | refine below_drewN ?_ _)
 by_cases h2:k=2
 ·subst h2;have C1:=fun w=>vText_any ⟨x.toArray⟩ w (by omega)
  have hp:LitPost ⟨2,x,p⟩ (.returned (.tuple #[vlV (vText ⟨x.toArray⟩),.bool (decide ((x.length:Int)≤256))])):=by
   refine ⟨_,_,rfl,?_⟩;unfold litV;rw [if_neg h1,if_pos rfl];by_cases hl:x.length≤256
   ·simp only;rw [if_pos hl,decide_eq_true (by omega)];rfl
   ·simp only;rw [if_neg hl,decide_eq_false (by omega)];rfl
  generalize vText ⟨x.toArray⟩=V at *;obtain ⟨v1,v2,v3,v4,v5,v6⟩:=V;simp only [vlV,vl6] at C1;have hS:=LvS_mk pA pR rfl;go_enter Tryz.func189,Tryz.ntmps189;go_upto_region 6 with fail
  go_region_held3 (LvS w.heap.size (w.heap.size+1) 2 x p)
   (with_reducible first | exact hS | assumption | exact LvS_mk pA1 pR1 rfl | exact (LvS_set (LvS_set (LvS_set (LvS_set (LvS_set (LvS_set (by assumption) (by omega) _ _) (by omega) _ _) (by omega) _ _) (by omega) _ _) (by omega) _ _) (by omega) _ _) | exact LvS_mk (AtL.drew pA) (AtL.drew pR) rfl)
   (first | (go_at_call 175;refine (C1 _).mono ?_;rintro e w1 ⟨rfl,hb⟩;have pA1:=AtL.below hb (AtL.drew pA);have pR1:=AtL.below hb (AtL.drew pR);obtain ⟨c0,c1,c2,c3,c4,c5⟩:=pR1.f6;have hB1:=below_end hB0.drew hb))
  all_goals
   have pR2:AtL ((((((w1.setCell ⟨w.heap.size+1,0,none⟩ (.int .i64 v1)).setCell ⟨w.heap.size+1,1,none⟩ (.int .i64 v2)).setCell ⟨w.heap.size+1,2,none⟩ (.int .i64 v3)).setCell ⟨w.heap.size+1,3,none⟩ (.string v4)).setCell ⟨w.heap.size+1,4,none⟩ (.bool v5)).setCell ⟨w.heap.size+1,5,none⟩ (.int .i64 v6)) (w.heap.size+1) [.int .i64 v1,.int .i64 v2,.int .i64 v3,.string v4,.bool v5,.int .i64 v6]:=(((((pR1.set 0 _).set 1 _).set 2 _).set 3 _).set 4 _).set 5 _;have hB2:Below w.heap.size w ((((((w1.setCell ⟨w.heap.size+1,0,none⟩ (.int .i64 v1)).setCell ⟨w.heap.size+1,1,none⟩ (.int .i64 v2)).setCell ⟨w.heap.size+1,2,none⟩ (.int .i64 v3)).setCell ⟨w.heap.size+1,3,none⟩ (.string v4)).setCell ⟨w.heap.size+1,4,none⟩ (.bool v5)).setCell ⟨w.heap.size+1,5,none⟩ (.int .i64 v6)):=by with_reducible repeat (first | exact hB1 | refine ball ?_ _ | refine Below.setCell ?_ (by first | (simp;done) | (simp;omega) | omega) _ | refine Below.drew ?_ | refine below_drewN ?_ _)
   generalize ((((((w1.setCell ⟨w.heap.size+1,0,none⟩ (.int .i64 v1)).setCell ⟨w.heap.size+1,1,none⟩ (.int .i64 v2)).setCell ⟨w.heap.size+1,2,none⟩ (.int .i64 v3)).setCell ⟨w.heap.size+1,3,none⟩ (.string v4)).setCell ⟨w.heap.size+1,4,none⟩ (.bool v5)).setCell ⟨w.heap.size+1,5,none⟩ (.int .i64 v6))=W2 at *;clear c0 c1 c2 c3 c4 c5;obtain ⟨c0,c1,c2,c3,c4,c5⟩:=pR2.f6;go_wp2;refine bodyPost_ret (v:=.tuple #[vlV ⟨v1,v2,v3,v4,v5,v6⟩,.bool (decide ((x.length:Int)≤256))]) (by simp [results,Tryz.results189,go_sem,vlV,vl6,c0,c1,c2,c3,c4,c5]) rfl ⟨hp,hB2⟩
 by_cases h4k:k=4
 ·subst h4k;obtain ⟨i,hi,hi1,hxi⟩:=h4 rfl;have C1:=fun w h=>flt_reads i hi hi1 w h
  rw [←hxi] at C1;clear hxi h4;have hp:LitPost ⟨4,x,p⟩ (.returned (.tuple #[vlV ⟨4,0,0,⟨#[]⟩,false,((fi x 0 fNames:Nat):Int)⟩,.bool true])):=⟨_,_,rfl,rfl⟩
  generalize ((fi x 0 fNames:Nat):Int)=c at *;simp only [vlV,vl6] at C1;go_enter Tryz.func189,Tryz.ntmps189;go_wp2_with fail
  refine (C1 _ hF0).mono ?_;rintro e w1 ⟨rfl,hb⟩;have pR2:=AtL.below hb pR;have hB2:=below_end hB0 hb;obtain ⟨c0,c1,c2,c3,c4,c5⟩:=pR2.f6;have g0:=pR2.2.2 0 (by decide);have g1:=pR2.2.2 1 (by decide);have g2:=pR2.2.2 2 (by decide);have g3:=pR2.2.2 3 (by decide);have g4:=pR2.2.2 4 (by decide);have g5:=pR2.2.2 5 (by decide);go_wp2;refine bodyPost_ret (v:=.tuple #[vlV ⟨4,0,0,⟨#[]⟩,false,c⟩,.bool true]) (by simp [results,Tryz.results189,go_sem,vlV,vl6,c0,c1,c2,c3,c4,c5]) rfl ⟨hp,?_⟩;exact by with_reducible repeat (first | exact hB2 | refine ball ?_ _ | refine Below.setCell ?_ (by first | (simp;done) | (simp;omega) | omega) _ | refine Below.drew ?_ | refine below_drewN ?_ _)
 have hp:LitPost ⟨k,x,p⟩ (.returned (.tuple #[vlV ⟨0,0,0,⟨#[]⟩,false,0⟩,.bool false])):=by
  refine ⟨_,_,rfl,?_⟩;unfold litV;rw [if_neg h1,if_neg h2,if_neg h4k];rfl
 have e1:(k == 1)=false:=by simp [h1]
 have e2:(k == 2)=false:=by simp [h2]
 have e4:(k == 4)=false:=by simp [h4k]
 go_enter Tryz.func189,Tryz.ntmps189;go_wp2;refine bodyPost_ret (v:=.tuple #[vlV ⟨0,0,0,⟨#[]⟩,false,0⟩,.bool false]) (by simp [results,Tryz.results189,go_sem,vlV,vl6]) rfl ⟨hp,?_⟩;exact by with_reducible repeat (first | exact Below.refl _ _ | refine below_drewN ?_ _ | refine Below.setCell ?_ (by first | (simp;done) | (simp;omega) | omega) _ | refine Below.drew ?_ | refine below_end ?_ (by assumption) | refine ball ?_ _)
def Cells (w:World) (blk off n:Nat) (F:Nat→Wpl.Cl):Prop :=
 ∀ j,j<n→w.cell? ⟨blk,off+j * 3,none⟩=some (.int .i64 (F j).s)∧w.cell? ⟨blk,off+j * 3+1,none⟩=some (.int .i64 (F j).r)∧w.cell? ⟨blk,off+j * 3+2,none⟩=some (.int .i64 (F j).c)
theorem Cells.below {W W':World} {blk off n:Nat} {F:Nat→Wpl.Cl} (h:Cells W blk off n F) (hb:blk<W.heap.size) (hB:Below W.heap.size W W'):Cells W' blk off n F:=fun j hj =>
 ⟨(hB.cell (p:=⟨blk,off+j * 3,none⟩) hb).trans (h j hj).1,(hB.cell (p:=⟨blk,off+j * 3+1,none⟩) hb).trans (h j hj).2.1,(hB.cell (p:=⟨blk,off+j * 3+2,none⟩) hb).trans (h j hj).2.2⟩
end Go.Proofs.YtlggnpohhahdlaaGreatDoor
namespace Wpl
def colT (n:Nat):List UInt8:=if n<26 then [UInt8.ofNat (65+n)] else [UInt8.ofNat (65+(n / 26 - 1)),UInt8.ofNat (65+n % 26)]
def colS (n:Int):List UInt8:=if inB n 256 then colT n.toNat else []
theorem colT_len (n:Nat):(colT n).length≤2:=by unfold colT;split <;> simp
theorem colS_len (n:Int):(colS n).length≤2:=by unfold colS;split;exact colT_len _;simp
theorem dd_len (n:Nat) (h:n≤9223372036854775807):(Go.Lib.decDigits n).length≤21:=by
 have:=Go.Lib.itoa_length_le (n:Int) (by omega) (by omega);unfold Go.Lib.itoa at this;rw [if_neg (by omega),Int.toNat_natCast] at this;exact this
def txtC (r c:Int):List UInt8:=colS c++Go.Lib.decDigits (r+1).toNat
end Wpl
namespace Go.Proofs.YtlggnpohhahdlaaGreatDoor
open Go.RowKit
set_option linter.unusedVariables false
theorem letter_all:∀ k:Fin 26,Utf8.encode ((((⟨#[65,66,67,68,69,70,71,72,73,74,75,76,77,78,79,80,81,82,83,84,85,86,87,88,89,90]⟩:ByteArray)[k.val]'(by have:=k.isLt;exact this)).toNat:Nat):Int)=⟨#[UInt8.ofNat (65+k.val)]⟩:=by decide +kernel
theorem letter_enc {k:Nat} (h:k<26) (h':k<(⟨#[65,66,67,68,69,70,71,72,73,74,75,76,77,78,79,80,81,82,83,84,85,86,87,88,89,90]⟩:ByteArray).size):Utf8.encode ((((⟨#[65,66,67,68,69,70,71,72,73,74,75,76,77,78,79,80,81,82,83,84,85,86,87,88,89,90]⟩:ByteArray)[k]'h').toNat:Nat):Int)=⟨#[UInt8.ofNat (65+k)]⟩:=letter_all ⟨k,h⟩
theorem x3_app_mk (a b:List UInt8):((⟨a.toArray⟩:ByteArray)++(⟨b.toArray⟩:ByteArray))=⟨(a++b).toArray⟩:=by
 apply ByteArray.ext
 rw [ByteArray.data_append];simp
theorem app_one (c:UInt8) (b:List UInt8):((⟨#[c]⟩:ByteArray)++(⟨b.toArray⟩:ByteArray))=⟨(c::b).toArray⟩:=x3_app_mk [c] b
theorem col_any (n:Int) (w:World):Calls Tryz.prog 158 #[.int .i64 n] w fun e w'=>e=.returned (.string ⟨(Wpl.colS n).toArray⟩)∧Below w.heap.size w w':=by
 have B:=fun w=>below_any n 256 w
 cases h:Wpl.inB n 256 with
 | false =>
  have E:Hid (Wpl.colS n=[]):=by show _=_;unfold Wpl.colS;rw [h];rfl
  rw [h] at B;clear h;go_enter Tryz.func158,Tryz.ntmps158;go_wp2_with fail
  refine (B _).mono ?_;rintro e w1 ⟨rfl,rfl⟩;go_wp2;go_ret;exact ⟨by rw [E.out];rfl,by with_reducible repeat (first | exact Below.refl _ _ | refine x3_below_drewN ?_ _ | refine Below.setCell ?_ (by first | (simp;done) | (simp;omega) | omega) _ | refine Below.drew ?_ | refine x3_below_end ?_ (by assumption) | refine x3_ball ?_ _)⟩
 | true =>
  have hn:=Wpl.inB_iff.1 h;have E:Hid (Wpl.colS n=Wpl.colT n.toNat):=by show _=_;unfold Wpl.colS;rw [h];rfl
  rw [h] at B;clear h;obtain ⟨m,rfl⟩:=Int.eq_ofNat_of_zero_le hn.1;rw [Int.toNat_natCast] at E;have hm:m<256:=by omega
  go_enter Tryz.func158,Tryz.ntmps158;go_wp2_with fail
  refine (B _).mono ?_;rintro e w1 ⟨rfl,rfl⟩;go_wp2_with fail
  go_loopw [0,3] (fun x y wr=>∃ (k:Int) (l:List UInt8),x=.int .i64 k ∧ -1≤k∧k<256∧y=.string ⟨l.toArray⟩∧l.length≤2∧Hid (Wpl.colT m=(if k<0 then [] else Wpl.colT k.toNat)++l∧(0≤k→l.length=0 ∨ l.length=1∧k<26))∧wr=w) (fun x _ _=>(intOf x+1).toNat)
  case atStart=>exact ⟨m,[],rfl,by omega,by omega,rfl,by simp,(⟨by rw [if_neg (by omega),Int.toNat_natCast,List.append_nil],fun _=>Or.inl rfl⟩:Wpl.colT m=(if (m:Int)<0 then [] else Wpl.colT (m:Int).toNat)++[]∧_),rfl⟩
  case round =>
   obtain ⟨k,l,rfl,hk0,hk1,rfl,hl,HI,rfl⟩:=hrel;by_cases hk:0≤k
   ·obtain ⟨j,rfl⟩:=Int.eq_ofNat_of_zero_le hk;have h26':j % 26<26:=by omega
    obtain ⟨i1,i2⟩:=HI.out;rw [if_neg (by omega),Int.toNat_natCast] at i1;have i3:=i2 (by omega);have hl2:l.length≤1:=by omega
    have HI':Hid (Wpl.colT m=(if (j:Int) / 26 - 1<0 then [] else Wpl.colT ((j:Int) / 26 - 1).toNat)++(UInt8.ofNat (65+j % 26)::l)∧(0≤(j:Int) / 26 - 1→(UInt8.ofNat (65+j % 26)::l).length=0 ∨ (UInt8.ofNat (65+j % 26)::l).length=1∧(j:Int) / 26 - 1<26)):=by
     refine (⟨?_,?_⟩:_∧_)
     ·rw [i1];by_cases h26:j<26
      ·rw [if_pos (by omega)];unfold Wpl.colT;rw [if_pos h26,Nat.mod_eq_of_lt h26];rfl
      ·rw [if_neg (by omega)];have e:((j:Int) / 26 - 1).toNat=j / 26 - 1:=by omega
       rw [e];unfold Wpl.colT;rw [if_neg h26,if_pos (by omega)];rfl
     ·intro h;right
      refine ⟨?_,by omega⟩;rcases i3 with h0 | ⟨_,h1⟩
      ·rw [List.length_cons,h0]
      ·omega
    clear HI i1 i2 i3;have hj:(j:Int)<256:=hk1;go_wp2_with fail
    case isTrue =>
     rename_i hx
     exfalso
     rw [letter_enc h26'] at hx;have:(⟨#[UInt8.ofNat (65+j % 26)]⟩:ByteArray).size=1:=rfl;omega
    go_roundw
    case rel=>exact ⟨(j:Int) / 26 - 1,UInt8.ofNat (65+j % 26)::l,rfl,by omega,by omega,by rw [letter_enc h26'];exact congrArg Value.string (app_one _ l),by simp;omega,HI',trivial⟩
    case measure=>simp [intOf];omega
   ·have e:Wpl.colT m=l:=by have:=HI.out.1;rw [if_pos (by omega)] at this;exact this
    have EE:Hid (Wpl.colT m=l):=e;clear e HI;go_wp2;go_ret;exact ⟨by rw [E.out,EE.out];rfl,Below.refl _ _⟩
open Go.Shelf Go.RowKit
def x3_laysItoa_ren:Go.Shelf.Ren:=⟨fun | 171=>150 | 243=>170 | 246=>190 | 283=>197 | 284=>198 | 285=>199 | 286=>200 | 129=>206 | 317=>205 | 318=>207 | 319=>208 | 320=>209 | 337=>214 | 338=>215 | n=>n,fun | 3=>3 | 9=>9 | 2=>2 | 4=>4 | 171=>197 | 0=>0 | 53=>141 | 37=>63 | 5=>5 | 173=>200 | 212=>208 | 51=>186 | 20=>20 | 213=>209 | 46=>174 | 232=>215 | 233=>216 | n=>n,fun | 17=>5 | 18=>6 | 19=>7 | n=>n⟩
theorem x3_laysItoa:Go.Proofs.LaysM.n171 Tryz.prog x3_laysItoa_ren:={
 mixed:=by kernel_rfl
 f129:=Tryz.func206.trans (congrArg some (by kernel_rfl))
 f171:=Tryz.func150.trans (congrArg some (by kernel_rfl))
 f243:=Tryz.func170.trans (congrArg some (by kernel_rfl))
 f246:=Tryz.func190.trans (congrArg some (by kernel_rfl))
 f283:=Tryz.func197.trans (congrArg some (by kernel_rfl))
 f284:=Tryz.func198.trans (congrArg some (by kernel_rfl))
 f285:=Tryz.func199.trans (congrArg some (by kernel_rfl))
 f286:=Tryz.func200.trans (congrArg some (by kernel_rfl))
 f317:=Tryz.func205.trans (congrArg some (by kernel_rfl))
 f318:=Tryz.func207.trans (congrArg some (by kernel_rfl))
 f319:=Tryz.func208.trans (congrArg some (by kernel_rfl))
 f320:=Tryz.func209.trans (congrArg some (by kernel_rfl))
 f337:=Tryz.func214.trans (congrArg some (by kernel_rfl))
 f338:=Tryz.func215.trans (congrArg some (by kernel_rfl))
 t0:=Tryz.underlying0
 a0:=Tryz.isAgg0
 z0:=Tryz.sizeOf0
 v0:=Tryz.zeroValue0
 t2:=Tryz.underlying2
 a2:=Tryz.isAgg2
 z2:=Tryz.sizeOf2
 v2:=Tryz.zeroValue2
 t3:=Tryz.underlying3
 a3:=Tryz.isAgg3
 z3:=Tryz.sizeOf3
 v3:=Tryz.zeroValue3
 t4:=Tryz.underlying4
 a4:=Tryz.isAgg4
 z4:=Tryz.sizeOf4
 v4:=Tryz.zeroValue4
 t5:=Tryz.underlying5
 a5:=Tryz.isAgg5
 z5:=Tryz.sizeOf5
 v5:=Tryz.zeroValue5
 t9:=Tryz.underlying9
 a9:=Tryz.isAgg9
 z9:=Tryz.sizeOf9
 v9:=Tryz.zeroValue9
 t20:=Tryz.underlying20
 a20:=Tryz.isAgg20
 z20:=Tryz.sizeOf20
 v20:=Tryz.zeroValue20
 t37:=Tryz.underlying63
 a37:=Tryz.isAgg63
 z37:=Tryz.sizeOf63
 v37:=Tryz.zeroValue63
 t46:=Tryz.underlying174
 a46:=Tryz.isAgg174
 z46:=Tryz.sizeOf174
 v46:=Tryz.zeroValue174
 t51:=Tryz.underlying186
 a51:=Tryz.isAgg186
 z51:=Tryz.sizeOf186
 v51:=Tryz.zeroValue186
 t53:=Tryz.underlying141
 a53:=Tryz.isAgg141
 z53:=Tryz.sizeOf141
 v53:=Tryz.zeroValue141
 t171:=Tryz.underlying197
 a171:=Tryz.isAgg197
 z171:=Tryz.sizeOf197
 v171:=Tryz.zeroValue197
 t173:=Tryz.underlying200
 a173:=Tryz.isAgg200
 z173:=Tryz.sizeOf200
 v173:=Tryz.zeroValue200
 t212:=Tryz.underlying208
 a212:=Tryz.isAgg208
 z212:=Tryz.sizeOf208
 v212:=Tryz.zeroValue208
 t213:=Tryz.underlying209
 a213:=Tryz.isAgg209
 z213:=Tryz.sizeOf209
 t232:=Tryz.underlying215
 a232:=Tryz.isAgg215
 z232:=Tryz.sizeOf215
 v232:=Tryz.zeroValue215
 t233:=Tryz.underlying216
 a233:=Tryz.isAgg216
 z233:=Tryz.sizeOf216
 v233:=Tryz.zeroValue216
 g17:=by kernel_rfl
 g18:=by kernel_rfl
 g19:=by kernel_rfl
 i0:=by kernel_rfl
 i2:=by kernel_rfl
 i3:=by kernel_rfl
 i4:=by kernel_rfl
 i5:=by kernel_rfl
 i9:=by kernel_rfl
 i20:=by kernel_rfl
 i37:=by kernel_rfl
 i46:=by kernel_rfl
 i51:=by kernel_rfl
 i53:=by kernel_rfl
 i171:=by kernel_rfl
 i173:=by kernel_rfl
 i212:=by kernel_rfl
 i232:=by kernel_rfl
 i233:=by kernel_rfl
 m17:=by kernel_rfl
 m18:=by kernel_rfl
 m19:=by kernel_rfl}
theorem x3_itoa_any (n:Int) (w:World) (h0:-9223372036854775808≤n) (h1:n≤9223372036854775807) (htab:Lib.TabIs Tryz.prog w "internal/strconv.uint64pow10" .u64 Lib.pow10Tab) :
  Calls Tryz.prog 150 #[.int .i64 n] w fun e w'=>e=.returned (.string ⟨(Lib.itoa n).toArray⟩)∧Below w.heap.size w w' :=
 (Any.strconv_Itoa x3_laysItoa n h0 h1 w htab).mono fun e w' ⟨he,k,os,hw⟩=>⟨he,by rw [hw];exact Lib.below_grow _ w (Nat.le_refl _) k os⟩
end Go.Proofs.YtlggnpohhahdlaaGreatDoor
namespace Wpl
def num (s t l r k:Int):Cl:=⟨s,t+k / (r - l+1),l+k % (r - l+1)⟩
end Wpl
namespace Go.Proofs.YtlggnpohhahdlaaGreatDoor
open Go.RowKit
set_option linter.unusedVariables false
theorem x3_itoa_nat {n:Int} (h:0≤n):Lib.itoa n=Lib.decDigits n.toNat:=by unfold Lib.itoa;rw [if_neg (by omega)]
def fx (b:Bool):List UInt8:=if b then [36] else []
theorem fixed_any (b:Bool) (w:World):Calls Tryz.prog 157 #[.bool b] w fun e w'=>e=.returned (.string ⟨(fx b).toArray⟩)∧Below w.heap.size w w':=by
 cases b
 ·go_enter Tryz.func157,Tryz.ntmps157;go_wp2;go_ret;exact ⟨rfl,Below.refl _ _⟩
 ·go_enter Tryz.func157,Tryz.ntmps157;go_wp2;go_ret;exact ⟨rfl,Below.refl _ _⟩
def cw (a:Wt.Rf):List UInt8:=fx a.fc++Wpl.colS a.c++fx a.fr++Lib.decDigits (a.r+1).toNat
theorem fx_len (b:Bool):(fx b).length≤1:=by cases b <;> decide
theorem cellWord_any (a:Wt.Rf) (w:World) (h0:0≤a.r) (h1:a.r<65536) (htab:Lib.TabIs Tryz.prog w "internal/strconv.uint64pow10" .u64 Lib.pow10Tab) :
  Calls Tryz.prog 129 #[rfV a] w fun e w'=>e=.returned (.string ⟨(cw a).toArray⟩)∧Below w.heap.size w w':=by
 obtain ⟨s,r,c,fr,fc⟩:=a;simp only at h0 h1;unfold cw;simp only;show Calls _ _ #[.agg #[.string s,.int .i64 r,.int .i64 c,.bool fr,.bool fc]] _ _
 have TB:=Lib.tabBelow_of_tabIs htab;clear htab;have F1:=fun w=>fixed_any fc w
 have F2:=fun w=>fixed_any fr w
 have l0:=fx_len fc;have l3:=fx_len fr;have l1:=Wpl.colS_len c;have l2:=Wpl.dd_len (r+1).toNat (by omega);have CC:=fun w=>col_any c w
 have II:=fun w ht=>x3_itoa_any (r+1) w (by omega) (by omega) ht
 rw [x3_itoa_nat (show 0≤r+1 by omega)] at II;generalize fx fc=u at *;generalize fx fr=v at *;generalize Wpl.colS c=x at *;generalize Lib.decDigits (r+1).toNat=y at *;have hw:IntKind.i64.wrap (r+1)=r+1:=IntWalk.i64_in _ (by omega);have lx1:¬ 9223372036854775807<u.length+x.length:=by omega
 have lx2:¬ 9223372036854775807<u.length+x.length+v.length:=by omega
 have lx3:¬ 9223372036854775807<u.length+x.length+v.length+y.length:=by omega
 have hS0:=(AtL.new0 w 43 [.string s,.int .i64 r,.int .i64 c,.bool fr,.bool fc]).f5;have hB:=ball (Below.refl _ w) (.cells #[.string s,.int .i64 r,.int .i64 c,.bool fr,.bool fc] 43);go_enter Tryz.func129,Tryz.ntmps129;go_upto_region 1 with fail
 go_region_held3 (fun W=>W.cell? ⟨w.heap.size,0,none⟩=some (.string s)∧W.cell? ⟨w.heap.size,1,none⟩=some (.int .i64 r)∧W.cell? ⟨w.heap.size,2,none⟩=some (.int .i64 c)∧W.cell? ⟨w.heap.size,3,none⟩=some (.bool fr)∧W.cell? ⟨w.heap.size,4,none⟩=some (.bool fc))
  (with_reducible first | exact hS0 | assumption | exact five_drew hS0 | exact five_below hb (by assumption))
  (first
  | (go_at_call 157;refine (F1 _).mono ?_;rintro e w4 ⟨rfl,hb⟩;(with_reducible first | replace hB:=below_end hB.drew hb | replace hB:=below_end hB hb))
  | (go_at_call 157;refine (F2 _).mono ?_;rintro e w4 ⟨rfl,hb⟩;(with_reducible first | replace hB:=below_end hB.drew hb | replace hB:=below_end hB hb))
  | (go_at_call 158;refine (CC _).mono ?_;rintro e w4 ⟨rfl,hb⟩;(with_reducible first | replace hB:=below_end hB.drew hb | replace hB:=below_end hB hb))
  | (go_at_call 150;refine (II _ ((TB.on (by with_reducible first | exact hB | exact hB.drew)).here)).mono ?_;rintro e w4 ⟨rfl,hb⟩;(with_reducible first | replace hB:=below_end hB.drew hb | replace hB:=below_end hB hb)))
 all_goals
  go_wp2;go_ret;refine ⟨?_,hB⟩;refine congrArg (fun x=>Ending.returned (Value.string x)) ?_;rw [x3_app_mk,x3_app_mk,x3_app_mk]
end Go.Proofs.YtlggnpohhahdlaaGreatDoor
namespace Wpl
def isL (c:UInt8):Bool:=decide (65≤c.toNat∧c.toNat≤90)
def isG (c:UInt8):Bool:=decide (48≤c.toNat∧c.toNat≤57)
def rc:Nat→List UInt8→Nat × List UInt8
 | k,[]=>(k,[])
 | k,c::t=>if isL c=true∧k≤256 then rc (k * 26+(c.toNat - 65)+1) t else (k,c::t)
def rd:Nat→List UInt8→Nat × List UInt8
 | k,[]=>(k,[])
 | k,c::t=>if isG c=true∧k≤65536 then rd (k * 10+(c.toNat - 48)) t else (k,c::t)
def rr (l:List UInt8):Nat × List UInt8:=if l.head? = some 48 then (0,l) else rd 0 l
def rdOk (l:List UInt8):Bool:=decide ((rr (rc 0 l).2).2=[]∧1≤(rr (rc 0 l).2).1∧(rr (rc 0 l).2).1≤65536∧1≤(rc 0 l).1∧(rc 0 l).1≤256)
def rdR (l:List UInt8):Int:=if rdOk l then ((rr (rc 0 l).2).1:Int) - 1 else 0
def rdC (l:List UInt8):Int:=if rdOk l then ((rc 0 l).1:Int) - 1 else 0
theorem rc_len (k:Nat) (l:List UInt8):(rc k l).2.length≤l.length:=by
 induction l generalizing k with
 | nil=>simp [rc]
 | cons c t ih =>
  unfold rc;split
  ·have:=ih (k * 26+(c.toNat - 65)+1);simp;omega
  ·simp
theorem rc_bd (k:Nat) (l:List UInt8) (h:k≤6682):(rc k l).1≤6682:=by
 induction l generalizing k with
 | nil=>simpa [rc] using h
 | cons c t ih =>
  unfold rc;split
  ·rename_i hh
   have hc:=hh.1;simp only [isL,decide_eq_true_eq] at hc;exact ih _ (by omega)
  ·exact h
theorem rd_bd (k:Nat) (l:List UInt8) (h:k≤655369):(rd k l).1≤655369:=by
 induction l generalizing k with
 | nil=>simpa [rd] using h
 | cons c t ih =>
  unfold rd;split
  ·rename_i hh
   have hc:=hh.1;simp only [isG,decide_eq_true_eq] at hc;exact ih _ (by omega)
  ·exact h
theorem rr_bd (l:List UInt8):(rr l).1≤655369:=by
 unfold rr;split
 ·simp
 ·exact rd_bd 0 l (by omega)
end Wpl
namespace Go.Proofs.YtlggnpohhahdlaaGreatDoor
open Go.RowKit
set_option linter.unusedVariables false
theorem cut_one (c:UInt8) (t:List UInt8):ByteArray.extract ⟨(c::t).toArray⟩ 1 (t.length+1)=⟨t.toArray⟩:=by
 apply ByteArray.ext
 simp [ByteArray.data_extract]
theorem byte_bd (c:UInt8):(0:Int)≤(c.toNat:Int)∧(c.toNat:Int)≤255:=by have:=c.toNat_lt;omega
theorem readCol_any (s:List UInt8) (w:World) (hs:s.length≤9223372036854775807):Calls Tryz.prog 216 #[.string ⟨s.toArray⟩] w fun e w'=>e=.returned (.tuple #[.int .i64 ((Wpl.rc 0 s).1:Nat),.string ⟨(Wpl.rc 0 s).2.toArray⟩])∧w=w':=by
 go_enter Tryz.func216,Tryz.ntmps216;go_wp2;go_loopw [0,2] (fun x y wr=>∃ (l:List UInt8) (k:Nat),x=.string ⟨l.toArray⟩∧y=.int .i64 k∧k≤6682∧l.length≤9223372036854775807∧Hid (Wpl.rc 0 s=Wpl.rc k l)∧wr=w) (fun x _ _=>match x with | .string b=>b.size | _=>0)
 case atStart=>exact ⟨s,0,rfl,rfl,by omega,hs,(rfl:Wpl.rc 0 s=Wpl.rc 0 s),rfl⟩
 case round =>
  obtain ⟨l,k,rfl,rfl,hk,hl,HR,rfl⟩:=hrel;cases l with
  | nil =>
   have E:Hid (Wpl.rc 0 s=(k,[])):=HR.out;go_wp2;go_ret2
   exact ⟨by rw [E.out];rfl,rfl⟩
  | cons c t =>
   obtain ⟨b0,b1⟩:=byte_bd c;simp only [List.length_cons] at hl;by_cases h1:65≤(c.toNat:Int)
   ·by_cases h2:(c.toNat:Int)≤90
    ·by_cases h3:(k:Int)≤256
     ·have E:Hid (Wpl.rc 0 s=Wpl.rc (k * 26+(c.toNat - 65)+1) t):=by
       show _=_;rw [HR.out]
       conv=>lhs;unfold Wpl.rc
       rw [if_pos ⟨by simp [Wpl.isL];omega,by omega⟩]
      clear HR;go_wp2_with fail
      go_roundw
      case rel=>exact ⟨t,k * 26+(c.toNat - 65)+1,congrArg Value.string (cut_one c t),congrArg (Value.int IntKind.i64) (by show (k:Int) * 26+((c.toNat:Nat) - 65)+1=_;omega),by omega,by omega,E,trivial⟩
      case measure=>rw [cut_one];simp [ByteArray.size]
     ·have E:Hid (Wpl.rc 0 s=(k,c::t)):=by
       show _=_;rw [HR.out]
       conv=>lhs;unfold Wpl.rc
       rw [if_neg (by omega)]
      clear HR;go_wp2;go_ret2
      exact ⟨by rw [E.out];rfl,rfl⟩
    ·have E:Hid (Wpl.rc 0 s=(k,c::t)):=by
      show _=_;rw [HR.out]
      conv=>lhs;unfold Wpl.rc
      rw [if_neg (by simp [Wpl.isL];omega)]
     clear HR;go_wp2;go_ret2
     exact ⟨by rw [E.out];rfl,rfl⟩
   ·have E:Hid (Wpl.rc 0 s=(k,c::t)):=by
     show _=_;rw [HR.out]
     conv=>lhs;unfold Wpl.rc
     rw [if_neg (by simp [Wpl.isL];omega)]
    clear HR;go_wp2;go_ret2
    exact ⟨by rw [E.out];rfl,rfl⟩
theorem head_eq (c:UInt8) (t:List UInt8):((ByteArray.extract ⟨(c::t).toArray⟩ 0 1).toList == [48])=decide (c=48):=by
 have e:ByteArray.extract ⟨(c::t).toArray⟩ 0 1=⟨#[c]⟩:=by
  apply ByteArray.ext
  simp [ByteArray.data_extract]
 rw [e];have e2:(⟨#[c]⟩:ByteArray).toList=[c]:=by
  simp [ByteArray.toList,ByteArray.toList.loop,ByteArray.size,ByteArray.get!]
 rw [e2];by_cases h:c=48
 ·subst h;rfl
 ·rw [decide_eq_false h];simp [h]
theorem hasZero_cons (c:UInt8) (t:List UInt8) (w:World) (hs:t.length+1≤9223372036854775807):Calls Tryz.prog 60 #[.string ⟨(c::t).toArray⟩,.string ⟨#[48]⟩] w fun e w'=>e=.returned (.bool (decide (c=48)))∧w=w':=by
 have hp:=head_eq c t;have hl1:(1:Int)≤(t.length:Int)+1:=by omega
 have E:Hid (decide (c=48)=((ByteArray.extract ⟨(c::t).toArray⟩ 0 1).toList == [48])):=hp.symm;generalize decide (c=48)=b at *;go_enter Tryz.func60,Tryz.ntmps60;go_wp2;go_ret;exact ⟨rfl,rfl⟩
theorem hasZero_nil (w:World):Calls Tryz.prog 60 #[.string ⟨#[]⟩,.string ⟨#[48]⟩] w fun e w'=>e=.returned (.bool false)∧w=w':=by
 go_enter Tryz.func60,Tryz.ntmps60;go_wp2;go_ret;exact ⟨rfl,rfl⟩
theorem readRow_any (s:List UInt8) (w:World) (hs:s.length≤9223372036854775807):Calls Tryz.prog 217 #[.string ⟨s.toArray⟩] w fun e w'=>e=.returned (.tuple #[.int .i64 ((Wpl.rr s).1:Nat),.string ⟨(Wpl.rr s).2.toArray⟩])∧w=w':=by
 cases s with
 | nil =>
  have E:Hid (Wpl.rr []=(0,[])):=(rfl:Wpl.rr []=(0,[]))
  go_enter Tryz.func217,Tryz.ntmps217;go_wp2_with fail
  refine (hasZero_nil _).mono ?_;rintro e w1 ⟨rfl,rfl⟩;go_wp2;go_loopw [0,2] (fun x y wr=>x=.string ⟨#[]⟩∧y=.int .i64 0∧wr=w) (fun x _ _=>0)
  case atStart=>exact ⟨rfl,rfl,rfl⟩
  case round =>
   obtain ⟨rfl,rfl,rfl⟩:=hrel;go_wp2;go_ret2
   exact ⟨by rw [E.out];rfl,rfl⟩
 | cons c0 t0 =>
  have hl0:t0.length+1≤9223372036854775807:=by simpa using hs
  have HP:=fun w=>hasZero_cons c0 t0 w hl0
  by_cases h0:c0=48
  ·have E:Hid (Wpl.rr (c0::t0)=(0,c0::t0)):=by show _=_;unfold Wpl.rr;rw [if_pos (by rw [h0];rfl)]
   rw [decide_eq_true h0] at HP;clear h0;go_enter Tryz.func217,Tryz.ntmps217;go_wp2_with fail
   refine (HP _).mono ?_;rintro e w1 ⟨rfl,rfl⟩;go_wp2;go_ret2
   exact ⟨by rw [E.out];rfl,rfl⟩
  ·have E0:Hid (Wpl.rr (c0::t0)=Wpl.rd 0 (c0::t0)):=by show _=_;unfold Wpl.rr;rw [if_neg (by simpa using h0)]
   rw [decide_eq_false h0] at HP;clear h0;go_enter Tryz.func217,Tryz.ntmps217;go_wp2_with fail
   refine (HP _).mono ?_;rintro e w1 ⟨rfl,rfl⟩;go_wp2;go_loopw [0,2] (fun x y wr=>∃ (l:List UInt8) (k:Nat),x=.string ⟨l.toArray⟩∧y=.int .i64 k∧k≤655369∧l.length≤9223372036854775807∧Hid (Wpl.rr (c0::t0)=Wpl.rd k l)∧wr=w) (fun x _ _=>match x with | .string b=>b.size | _=>0)
   case atStart=>exact ⟨c0::t0,0,rfl,rfl,by omega,hs,E0,rfl⟩
   case round =>
    obtain ⟨l,k,rfl,rfl,hk,hl,HR,rfl⟩:=hrel;clear hs;cases l with
    | nil =>
     have E:Hid (Wpl.rr (c0::t0)=(k,[])):=HR.out;go_wp2;go_ret2
     exact ⟨by rw [E.out];rfl,rfl⟩
    | cons c t =>
     obtain ⟨b0,b1⟩:=byte_bd c;simp only [List.length_cons] at hl;by_cases h1:48≤(c.toNat:Int)
     ·by_cases h2:(c.toNat:Int)≤57
      ·by_cases h3:(k:Int)≤65536
       ·have E:Hid (Wpl.rr (c0::t0)=Wpl.rd (k * 10+(c.toNat - 48)) t):=by
         show _=_;rw [HR.out]
         conv=>lhs;unfold Wpl.rd
         rw [if_pos ⟨by simp [Wpl.isG];omega,by omega⟩]
        clear HR;go_wp2_with fail
        go_roundw
        case rel=>exact ⟨t,k * 10+(c.toNat - 48),congrArg Value.string (cut_one c t),congrArg (Value.int IntKind.i64) (by show (k:Int) * 10+((c.toNat:Nat) - 48)=_;omega),by omega,by omega,E,trivial⟩
        case measure=>rw [cut_one];simp [ByteArray.size]
       ·have E:Hid (Wpl.rr (c0::t0)=(k,c::t)):=by
         show _=_;rw [HR.out]
         conv=>lhs;unfold Wpl.rd
         rw [if_neg (by omega)]
        clear HR;go_wp2;go_ret2
        exact ⟨by rw [E.out];rfl,rfl⟩
      ·have E:Hid (Wpl.rr (c0::t0)=(k,c::t)):=by
        show _=_;rw [HR.out]
        conv=>lhs;unfold Wpl.rd
        rw [if_neg (by simp [Wpl.isG];omega)]
       clear HR;go_wp2;go_ret2
       exact ⟨by rw [E.out];rfl,rfl⟩
     ·have E:Hid (Wpl.rr (c0::t0)=(k,c::t)):=by
       show _=_;rw [HR.out]
       conv=>lhs;unfold Wpl.rd
       rw [if_neg (by simp [Wpl.isG];omega)]
      clear HR;go_wp2;go_ret2
      exact ⟨by rw [E.out];rfl,rfl⟩
theorem x3_read_any (s:List UInt8) (w:World) (hs:s.length≤9223372036854775807) :
  Calls Tryz.prog 211 #[.string ⟨s.toArray⟩] w fun e w'=>e=.returned (.tuple #[.int .i64 (Wpl.rdR s),.int .i64 (Wpl.rdC s),.bool (Wpl.rdOk s)])∧Below w.heap.size w w':=by
 have C1:=fun w=>readCol_any s w hs
 have l1:=Wpl.rc_len 0 s;have C2:=fun w=>readRow_any (Wpl.rc 0 s).2 w (by omega)
 have bc:=Wpl.rc_bd 0 s (by omega);have br:=Wpl.rr_bd (Wpl.rc 0 s).2;have EO:Hid (Wpl.rdOk s=decide ((Wpl.rr (Wpl.rc 0 s).2).2=[]∧1≤(Wpl.rr (Wpl.rc 0 s).2).1∧(Wpl.rr (Wpl.rc 0 s).2).1≤65536∧1≤(Wpl.rc 0 s).1∧(Wpl.rc 0 s).1≤256)):=(rfl:Wpl.rdOk s=_)
 have ER:Hid (Wpl.rdR s=if Wpl.rdOk s then ((Wpl.rr (Wpl.rc 0 s).2).1:Int) - 1 else 0):=(rfl:Wpl.rdR s=_)
 have EC:Hid (Wpl.rdC s=if Wpl.rdOk s then ((Wpl.rc 0 s).1:Int) - 1 else 0):=(rfl:Wpl.rdC s=_)
 generalize Wpl.rdOk s=ok at *;generalize Wpl.rdR s=R at *;generalize Wpl.rdC s=C at *;generalize Wpl.rr (Wpl.rc 0 s).2=q at *;generalize Wpl.rc 0 s=p at *;obtain ⟨k,d⟩:=p;obtain ⟨m,r⟩:=q;simp only at *;have RR:=fun w=>x3_right_any 0 ((m:Int) - 1) ((k:Int) - 1) w
 have hr:Hid (Wpl.rightC 0 ((m:Int) - 1) ((k:Int) - 1)=decide (1≤m∧m≤65536∧1≤k∧k≤256)):=by
  show _=_
  rw [Bool.eq_iff_iff,Wpl.rightC_iff];simp;omega
 rw [hr.out] at RR;clear hr l1;go_enter Tryz.func211,Tryz.ntmps211;go_wp2_with fail
 refine (C1 _).mono ?_;rintro e w1 ⟨rfl,rfl⟩;go_wp2_with fail
 refine (C2 _).mono ?_;rintro e w2 ⟨rfl,rfl⟩;cases r with
 | cons x t =>
  have E:Hid (ok=false):=by show _=_;rw [EO.out];simp
  go_wp2;go_ret3
  exact ⟨by rw [E.out,ER.out,EC.out,E.out];rfl,by with_reducible repeat (first | exact Below.refl _ _ | refine x3_below_drewN ?_ _ | refine Below.setCell ?_ (by first | (simp;done) | (simp;omega) | omega) _ | refine Below.drew ?_ | refine x3_below_end ?_ (by assumption) | refine x3_ball ?_ _)⟩
 | nil =>
  by_cases hk:1≤m∧m≤65536∧1≤k∧k≤256
  ·have E:Hid (ok=true):=by show _=_;rw [EO.out];simp;omega
   rw [decide_eq_true hk] at RR;go_wp2_with fail
   refine (RR _).mono ?_;rintro e w3 ⟨rfl,hb3⟩;have pC:AtL w3 w.heap.size [.int .i64 0,.int .i64 ((m:Int) - 1),.int .i64 ((k:Int) - 1)]:=AtL.below hb3 (AtL.new0 w 128 _);have hB3:Below w.heap.size w w3:=by with_reducible repeat (first | exact Below.refl _ _ | refine x3_below_drewN ?_ _ | refine Below.setCell ?_ (by first | (simp;done) | (simp;omega) | omega) _ | refine Below.drew ?_ | refine x3_below_end ?_ (by assumption) | refine x3_ball ?_ _)
   clear hb3;obtain ⟨c0,c1,c2⟩:=pC.f3;go_wp2_with fail
   go_region
   all_goals
    go_wp2;go_ret3
    exact ⟨by rw [E.out,ER.out,EC.out,E.out];rfl,by with_reducible repeat (first | exact Below.refl _ _ | refine x3_below_drewN ?_ _ | refine Below.setCell ?_ (by first | (simp;done) | (simp;omega) | omega) _ | refine Below.drew ?_ | refine x3_below_end ?_ (by assumption) | refine x3_ball ?_ _)⟩
  ·have E:Hid (ok=false):=by show _=_;rw [EO.out];simp;omega
   rw [decide_eq_false hk] at RR;go_wp2_with fail
   refine (RR _).mono ?_;rintro e w3 ⟨rfl,hb3⟩;go_wp2;go_ret3
   exact ⟨by rw [E.out,ER.out,EC.out,E.out];rfl,by with_reducible repeat (first | exact Below.refl _ _ | refine x3_below_drewN ?_ _ | refine Below.setCell ?_ (by first | (simp;done) | (simp;omega) | omega) _ | refine Below.drew ?_ | refine x3_below_end ?_ (by assumption) | refine x3_ball ?_ _)⟩
end Go.Proofs.YtlggnpohhahdlaaGreatDoor
