/- KWalkE, KWalkF, KWalkG, KWalkP. -/
import Derived.Test.YtedifblompcdkaaGreatDoorQ09
set_option maxHeartbeats 4000000
set_option maxRecDepth 100000
namespace Go.Proofs.YtedifblompcdkaaGreatDoor
open Tryz
open Go.RowKit
set_option linter.unusedVariables false
variable {w:World}
abbrev sg6 (id c:Int) (nm:ByteArray) (l m:Int) (ps:ByteArray):List Value:=[.int .i64 id,.int .i64 c,.string nm,.int .i64 l,.int .i64 m,.string ps]
theorem at6 {W:World} {k:Nat} {a b c d e f:Value} (h:AtL W k [a,b,c,d,e,f]) :
  W.cell? ⟨k,0,none⟩=some a/\W.cell? ⟨k,1,none⟩=some b/\W.cell? ⟨k,2,none⟩=some c/\W.cell? ⟨k,3,none⟩=some d/\W.cell? ⟨k,4,none⟩=some e/\W.cell? ⟨k,5,none⟩=some f/\W.frozen? ⟨k,0,none⟩=false/\W.frozen? ⟨k,1,none⟩=false/\W.frozen? ⟨k,2,none⟩=false/\W.frozen? ⟨k,3,none⟩=false/\W.frozen? ⟨k,4,none⟩=false/\W.frozen? ⟨k,5,none⟩=false :=
 ⟨h.2.1 0 a rfl,h.2.1 1 b rfl,h.2.1 2 c rfl,h.2.1 3 d rfl,h.2.1 4 e rfl,h.2.1 5 f rfl,h.2.2 0 (by simp),h.2.2 1 (by simp),h.2.2 2 (by simp),h.2.2 3 (by simp),h.2.2 4 (by simp),h.2.2 5 (by simp)⟩
theorem zAW (c l m:Int) (ps:ByteArray) (w:World):CR 187 #[.int .i64 c,.int .i64 l,.int .i64 m,.string ps] w (.agg (sg6 0 c ⟨#[]⟩ l m ps).toArray):=by
 have hB:=zAH (Below.refl _ w) (.cells (sg6 0 0 ⟨#[]⟩ 0 0 ⟨#[]⟩).toArray 230);go_enter func187,ntmps187;go_wp2;refine bodyPost_ret (v:=.agg (sg6 0 c ⟨#[]⟩ l m ps).toArray) (by simp [results,results187,go_sem]) rfl ⟨rfl,clA⟩
def zG4 (id:Int):List Value :=
 if id=30 then sg6 0 3 ⟨#[]⟩ 2 3 ⟨#[118]⟩ else if id=31 then sg6 0 3 ⟨#[]⟩ 2 2 ⟨#[118]⟩ else sg6 0 3 ⟨#[]⟩ 2 30 ⟨#[118]⟩
theorem zK3 (id:Int) (w:World):CR 189 #[.int .i64 id] w (.agg (zG4 id).toArray):=by
 have pZ:=AtL.new0 w 230 (sg6 0 0 ⟨#[]⟩ 0 0 ⟨#[]⟩);have hB:=zAH (Below.refl _ w) (.cells (sg6 0 0 ⟨#[]⟩ 0 0 ⟨#[]⟩).toArray 230);unfold zG4;by_cases h30:id=30
 ·subst h30;have AK:=λw=>zAW 3 2 3 ⟨#[118]⟩ w
  go_enter func189,ntmps189;go_wp2_with fail
  refine (AK _).mono ?_;rintro e w1 ⟨rfl,hb1⟩;obtain ⟨b0,b1,b2,b3,b4,b5,k0,k1,k2,k3,k4,k5⟩:=at6 (AtL.below hb1 pZ);have hB1:=zAA hB hb1;go_wp2;refine bodyPost_ret (v:=.agg (sg6 0 3 ⟨#[]⟩ 2 3 ⟨#[118]⟩).toArray) (by simp [results,results189,go_sem,b0,b1,b2,b3,b4,b5]) rfl ⟨rfl,(clB hB1)⟩
 by_cases h31:id=31
 ·subst h31;have AK:=λw=>zAW 3 2 2 ⟨#[118]⟩ w
  go_enter func189,ntmps189;go_wp2_with fail
  refine (AK _).mono ?_;rintro e w1 ⟨rfl,hb1⟩;obtain ⟨b0,b1,b2,b3,b4,b5,k0,k1,k2,k3,k4,k5⟩:=at6 (AtL.below hb1 pZ);have hB1:=zAA hB hb1;go_wp2;refine bodyPost_ret (v:=.agg (sg6 0 3 ⟨#[]⟩ 2 2 ⟨#[118]⟩).toArray) (by simp [results,results189,go_sem,b0,b1,b2,b3,b4,b5]) rfl ⟨rfl,(clB hB1)⟩
 have n30:(id == 30)=false:=by simp [h30]
 have n31:(id == 31)=false:=by simp [h31]
 rw [if_neg (by simp [h30]),if_neg (by simp [h31])];clear h30 h31;have AK:=λw=>zAW 3 2 30 ⟨#[118]⟩ w
 go_enter func189,ntmps189;go_wp2_with fail
 refine (AK _).mono ?_;rintro e w1 ⟨rfl,hb1⟩;obtain ⟨b0,b1,b2,b3,b4,b5,k0,k1,k2,k3,k4,k5⟩:=at6 (AtL.below hb1 pZ);have hB1:=zAA hB hb1;go_wp2;refine bodyPost_ret (v:=.agg (sg6 0 3 ⟨#[]⟩ 2 30 ⟨#[118]⟩).toArray) (by simp [results,results189,go_sem,b0,b1,b2,b3,b4,b5]) rfl ⟨rfl,(clB hB1)⟩
def zHX (id:Int):List Value :=
 if id=20 then sg6 0 2 ⟨#[]⟩ 2 2 ⟨#[118,97]⟩ else if id=21 then sg6 0 2 ⟨#[]⟩ 2 2 ⟨#[97,118]⟩ else if id=22 then sg6 0 2 ⟨#[]⟩ 2 3 ⟨#[97,118,97]⟩ else if id=23 then sg6 0 2 ⟨#[]⟩ 3 3 ⟨#[118,97,97]⟩ else if id=24 then sg6 0 2 ⟨#[]⟩ 2 2 ⟨#[97]⟩ else if id=25 then sg6 0 2 ⟨#[]⟩ 2 3 ⟨#[97,118]⟩ else sg6 0 2 ⟨#[]⟩ 1 1 ⟨#[97]⟩
theorem zI3 (id:Int) (w:World):CR 188 #[.int .i64 id] w (.agg (zHX id).toArray):=by
 have pZ:=AtL.new0 w 230 (sg6 0 0 ⟨#[]⟩ 0 0 ⟨#[]⟩);have hB:=zAH (Below.refl _ w) (.cells (sg6 0 0 ⟨#[]⟩ 0 0 ⟨#[]⟩).toArray 230);unfold zHX;by_cases h20:id=20
 ·subst h20;have AK:=λw=>zAW 2 2 2 ⟨#[118,97]⟩ w
  go_enter func188,ntmps188;go_wp2_with fail
  refine (AK _).mono ?_;rintro e w1 ⟨rfl,hb1⟩;obtain ⟨b0,b1,b2,b3,b4,b5,k0,k1,k2,k3,k4,k5⟩:=at6 (AtL.below hb1 pZ);have hB1:=zAA hB hb1;go_wp2;refine bodyPost_ret (v:=.agg (sg6 0 2 ⟨#[]⟩ 2 2 ⟨#[118,97]⟩).toArray) (by simp [results,results188,go_sem,b0,b1,b2,b3,b4,b5]) rfl ⟨rfl,(clB hB1)⟩
 by_cases h21:id=21
 ·subst h21;have AK:=λw=>zAW 2 2 2 ⟨#[97,118]⟩ w
  go_enter func188,ntmps188;go_wp2_with fail
  refine (AK _).mono ?_;rintro e w1 ⟨rfl,hb1⟩;obtain ⟨b0,b1,b2,b3,b4,b5,k0,k1,k2,k3,k4,k5⟩:=at6 (AtL.below hb1 pZ);have hB1:=zAA hB hb1;go_wp2;refine bodyPost_ret (v:=.agg (sg6 0 2 ⟨#[]⟩ 2 2 ⟨#[97,118]⟩).toArray) (by simp [results,results188,go_sem,b0,b1,b2,b3,b4,b5]) rfl ⟨rfl,(clB hB1)⟩
 by_cases h22:id=22
 ·subst h22;have AK:=λw=>zAW 2 2 3 ⟨#[97,118,97]⟩ w
  go_enter func188,ntmps188;go_wp2_with fail
  refine (AK _).mono ?_;rintro e w1 ⟨rfl,hb1⟩;obtain ⟨b0,b1,b2,b3,b4,b5,k0,k1,k2,k3,k4,k5⟩:=at6 (AtL.below hb1 pZ);have hB1:=zAA hB hb1;go_wp2;refine bodyPost_ret (v:=.agg (sg6 0 2 ⟨#[]⟩ 2 3 ⟨#[97,118,97]⟩).toArray) (by simp [results,results188,go_sem,b0,b1,b2,b3,b4,b5]) rfl ⟨rfl,(clB hB1)⟩
 by_cases h23:id=23
 ·subst h23;have AK:=λw=>zAW 2 3 3 ⟨#[118,97,97]⟩ w
  go_enter func188,ntmps188;go_wp2_with fail
  refine (AK _).mono ?_;rintro e w1 ⟨rfl,hb1⟩;obtain ⟨b0,b1,b2,b3,b4,b5,k0,k1,k2,k3,k4,k5⟩:=at6 (AtL.below hb1 pZ);have hB1:=zAA hB hb1;go_wp2;refine bodyPost_ret (v:=.agg (sg6 0 2 ⟨#[]⟩ 3 3 ⟨#[118,97,97]⟩).toArray) (by simp [results,results188,go_sem,b0,b1,b2,b3,b4,b5]) rfl ⟨rfl,(clB hB1)⟩
 by_cases h24:id=24
 ·subst h24;have AK:=λw=>zAW 2 2 2 ⟨#[97]⟩ w
  go_enter func188,ntmps188;go_wp2_with fail
  refine (AK _).mono ?_;rintro e w1 ⟨rfl,hb1⟩;obtain ⟨b0,b1,b2,b3,b4,b5,k0,k1,k2,k3,k4,k5⟩:=at6 (AtL.below hb1 pZ);have hB1:=zAA hB hb1;go_wp2;refine bodyPost_ret (v:=.agg (sg6 0 2 ⟨#[]⟩ 2 2 ⟨#[97]⟩).toArray) (by simp [results,results188,go_sem,b0,b1,b2,b3,b4,b5]) rfl ⟨rfl,(clB hB1)⟩
 by_cases h25:id=25
 ·subst h25;have AK:=λw=>zAW 2 2 3 ⟨#[97,118]⟩ w
  go_enter func188,ntmps188;go_wp2_with fail
  refine (AK _).mono ?_;rintro e w1 ⟨rfl,hb1⟩;obtain ⟨b0,b1,b2,b3,b4,b5,k0,k1,k2,k3,k4,k5⟩:=at6 (AtL.below hb1 pZ);have hB1:=zAA hB hb1;go_wp2;refine bodyPost_ret (v:=.agg (sg6 0 2 ⟨#[]⟩ 2 3 ⟨#[97,118]⟩).toArray) (by simp [results,results188,go_sem,b0,b1,b2,b3,b4,b5]) rfl ⟨rfl,(clB hB1)⟩
 have n20:(id == 20)=false:=by simp [h20]
 have n21:(id == 21)=false:=by simp [h21]
 have n22:(id == 22)=false:=by simp [h22]
 have n23:(id == 23)=false:=by simp [h23]
 have n24:(id == 24)=false:=by simp [h24]
 have n25:(id == 25)=false:=by simp [h25]
 rw [if_neg (by simp [h20]),if_neg (by simp [h21]),if_neg (by simp [h22]),if_neg (by simp [h23]),if_neg (by simp [h24]),if_neg (by simp [h25])];clear h20 h21 h22 h23 h24 h25;have AK:=λw=>zAW 2 1 1 ⟨#[97]⟩ w
 go_enter func188,ntmps188;go_wp2_with fail
 refine (AK _).mono ?_;rintro e w1 ⟨rfl,hb1⟩;obtain ⟨b0,b1,b2,b3,b4,b5,k0,k1,k2,k3,k4,k5⟩:=at6 (AtL.below hb1 pZ);have hB1:=zAA hB hb1;go_wp2;refine bodyPost_ret (v:=.agg (sg6 0 2 ⟨#[]⟩ 1 1 ⟨#[97]⟩).toArray) (by simp [results,results188,go_sem,b0,b1,b2,b3,b4,b5]) rfl ⟨rfl,(clB hB1)⟩
def zGt (id:Int):List Value :=
 if id=62 then sg6 0 4 ⟨#[]⟩ 0 0 ⟨#[118]⟩ else if id=43 \/ id=49 \/ id=50 then sg6 0 4 ⟨#[]⟩ 1 2 ⟨#[118]⟩ else if id=44 \/ id=45 \/ id=46 \/ id=52 \/ id=53 then sg6 0 4 ⟨#[]⟩ 2 2 ⟨#[118]⟩ else if id=51 then sg6 0 4 ⟨#[]⟩ 3 3 ⟨#[118]⟩ else sg6 0 4 ⟨#[]⟩ 1 1 ⟨#[118]⟩
theorem zKN (id:Int) (w:World):CR 190 #[.int .i64 id] w (.agg (zGt id).toArray):=by
 have pZ:=AtL.new0 w 230 (sg6 0 0 ⟨#[]⟩ 0 0 ⟨#[]⟩);have hB:=zAH (Below.refl _ w) (.cells (sg6 0 0 ⟨#[]⟩ 0 0 ⟨#[]⟩).toArray 230);unfold zGt;by_cases h62:id=62
 ·subst h62;have AK:=λw=>zAW 4 0 0 ⟨#[118]⟩ w
  go_enter func190,ntmps190;go_wp2_with fail
  refine (AK _).mono ?_;rintro e w1 ⟨rfl,hb1⟩;obtain ⟨b0,b1,b2,b3,b4,b5,k0,k1,k2,k3,k4,k5⟩:=at6 (AtL.below hb1 pZ);have hB1:=zAA hB hb1;go_wp2;refine bodyPost_ret (v:=.agg (sg6 0 4 ⟨#[]⟩ 0 0 ⟨#[118]⟩).toArray) (by simp [results,results190,go_sem,b0,b1,b2,b3,b4,b5]) rfl ⟨rfl,(clB hB1)⟩
 by_cases h43:id=43
 ·subst h43;have AK:=λw=>zAW 4 1 2 ⟨#[118]⟩ w
  go_enter func190,ntmps190;go_wp2_with fail
  refine (AK _).mono ?_;rintro e w1 ⟨rfl,hb1⟩;obtain ⟨b0,b1,b2,b3,b4,b5,k0,k1,k2,k3,k4,k5⟩:=at6 (AtL.below hb1 pZ);have hB1:=zAA hB hb1;go_wp2;refine bodyPost_ret (v:=.agg (sg6 0 4 ⟨#[]⟩ 1 2 ⟨#[118]⟩).toArray) (by simp [results,results190,go_sem,b0,b1,b2,b3,b4,b5]) rfl ⟨rfl,(clB hB1)⟩
 by_cases h49:id=49
 ·subst h49;have AK:=λw=>zAW 4 1 2 ⟨#[118]⟩ w
  go_enter func190,ntmps190;go_wp2_with fail
  refine (AK _).mono ?_;rintro e w1 ⟨rfl,hb1⟩;obtain ⟨b0,b1,b2,b3,b4,b5,k0,k1,k2,k3,k4,k5⟩:=at6 (AtL.below hb1 pZ);have hB1:=zAA hB hb1;go_wp2;refine bodyPost_ret (v:=.agg (sg6 0 4 ⟨#[]⟩ 1 2 ⟨#[118]⟩).toArray) (by simp [results,results190,go_sem,b0,b1,b2,b3,b4,b5]) rfl ⟨rfl,(clB hB1)⟩
 by_cases h50:id=50
 ·subst h50;have AK:=λw=>zAW 4 1 2 ⟨#[118]⟩ w
  go_enter func190,ntmps190;go_wp2_with fail
  refine (AK _).mono ?_;rintro e w1 ⟨rfl,hb1⟩;obtain ⟨b0,b1,b2,b3,b4,b5,k0,k1,k2,k3,k4,k5⟩:=at6 (AtL.below hb1 pZ);have hB1:=zAA hB hb1;go_wp2;refine bodyPost_ret (v:=.agg (sg6 0 4 ⟨#[]⟩ 1 2 ⟨#[118]⟩).toArray) (by simp [results,results190,go_sem,b0,b1,b2,b3,b4,b5]) rfl ⟨rfl,(clB hB1)⟩
 by_cases h44:id=44
 ·subst h44;have AK:=λw=>zAW 4 2 2 ⟨#[118]⟩ w
  go_enter func190,ntmps190;go_wp2_with fail
  refine (AK _).mono ?_;rintro e w1 ⟨rfl,hb1⟩;obtain ⟨b0,b1,b2,b3,b4,b5,k0,k1,k2,k3,k4,k5⟩:=at6 (AtL.below hb1 pZ);have hB1:=zAA hB hb1;go_wp2;refine bodyPost_ret (v:=.agg (sg6 0 4 ⟨#[]⟩ 2 2 ⟨#[118]⟩).toArray) (by simp [results,results190,go_sem,b0,b1,b2,b3,b4,b5]) rfl ⟨rfl,(clB hB1)⟩
 by_cases h45:id=45
 ·subst h45;have AK:=λw=>zAW 4 2 2 ⟨#[118]⟩ w
  go_enter func190,ntmps190;go_wp2_with fail
  refine (AK _).mono ?_;rintro e w1 ⟨rfl,hb1⟩;obtain ⟨b0,b1,b2,b3,b4,b5,k0,k1,k2,k3,k4,k5⟩:=at6 (AtL.below hb1 pZ);have hB1:=zAA hB hb1;go_wp2;refine bodyPost_ret (v:=.agg (sg6 0 4 ⟨#[]⟩ 2 2 ⟨#[118]⟩).toArray) (by simp [results,results190,go_sem,b0,b1,b2,b3,b4,b5]) rfl ⟨rfl,(clB hB1)⟩
 by_cases h46:id=46
 ·subst h46;have AK:=λw=>zAW 4 2 2 ⟨#[118]⟩ w
  go_enter func190,ntmps190;go_wp2_with fail
  refine (AK _).mono ?_;rintro e w1 ⟨rfl,hb1⟩;obtain ⟨b0,b1,b2,b3,b4,b5,k0,k1,k2,k3,k4,k5⟩:=at6 (AtL.below hb1 pZ);have hB1:=zAA hB hb1;go_wp2;refine bodyPost_ret (v:=.agg (sg6 0 4 ⟨#[]⟩ 2 2 ⟨#[118]⟩).toArray) (by simp [results,results190,go_sem,b0,b1,b2,b3,b4,b5]) rfl ⟨rfl,(clB hB1)⟩
 by_cases h52:id=52
 ·subst h52;have AK:=λw=>zAW 4 2 2 ⟨#[118]⟩ w
  go_enter func190,ntmps190;go_wp2_with fail
  refine (AK _).mono ?_;rintro e w1 ⟨rfl,hb1⟩;obtain ⟨b0,b1,b2,b3,b4,b5,k0,k1,k2,k3,k4,k5⟩:=at6 (AtL.below hb1 pZ);have hB1:=zAA hB hb1;go_wp2;refine bodyPost_ret (v:=.agg (sg6 0 4 ⟨#[]⟩ 2 2 ⟨#[118]⟩).toArray) (by simp [results,results190,go_sem,b0,b1,b2,b3,b4,b5]) rfl ⟨rfl,(clB hB1)⟩
 by_cases h53:id=53
 ·subst h53;have AK:=λw=>zAW 4 2 2 ⟨#[118]⟩ w
  go_enter func190,ntmps190;go_wp2_with fail
  refine (AK _).mono ?_;rintro e w1 ⟨rfl,hb1⟩;obtain ⟨b0,b1,b2,b3,b4,b5,k0,k1,k2,k3,k4,k5⟩:=at6 (AtL.below hb1 pZ);have hB1:=zAA hB hb1;go_wp2;refine bodyPost_ret (v:=.agg (sg6 0 4 ⟨#[]⟩ 2 2 ⟨#[118]⟩).toArray) (by simp [results,results190,go_sem,b0,b1,b2,b3,b4,b5]) rfl ⟨rfl,(clB hB1)⟩
 by_cases h51:id=51
 ·subst h51;have AK:=λw=>zAW 4 3 3 ⟨#[118]⟩ w
  go_enter func190,ntmps190;go_wp2_with fail
  refine (AK _).mono ?_;rintro e w1 ⟨rfl,hb1⟩;obtain ⟨b0,b1,b2,b3,b4,b5,k0,k1,k2,k3,k4,k5⟩:=at6 (AtL.below hb1 pZ);have hB1:=zAA hB hb1;go_wp2;refine bodyPost_ret (v:=.agg (sg6 0 4 ⟨#[]⟩ 3 3 ⟨#[118]⟩).toArray) (by simp [results,results190,go_sem,b0,b1,b2,b3,b4,b5]) rfl ⟨rfl,(clB hB1)⟩
 have n62:(id == 62)=false:=by simp [h62]
 have n43:(id == 43)=false:=by simp [h43]
 have n49:(id == 49)=false:=by simp [h49]
 have n50:(id == 50)=false:=by simp [h50]
 have n44:(id == 44)=false:=by simp [h44]
 have n45:(id == 45)=false:=by simp [h45]
 have n46:(id == 46)=false:=by simp [h46]
 have n52:(id == 52)=false:=by simp [h52]
 have n53:(id == 53)=false:=by simp [h53]
 have n51:(id == 51)=false:=by simp [h51]
 rw [if_neg (by simp [h62]),if_neg (by simp [h43,h49,h50]),if_neg (by simp [h44,h45,h46,h52,h53]),if_neg (by simp [h51])];clear h62 h43 h49 h50 h44 h45 h46 h52 h53 h51;have AK:=λw=>zAW 4 1 1 ⟨#[118]⟩ w
 go_enter func190,ntmps190;go_wp2_with fail
 refine (AK _).mono ?_;rintro e w1 ⟨rfl,hb1⟩;obtain ⟨b0,b1,b2,b3,b4,b5,k0,k1,k2,k3,k4,k5⟩:=at6 (AtL.below hb1 pZ);have hB1:=zAA hB hb1;go_wp2;refine bodyPost_ret (v:=.agg (sg6 0 4 ⟨#[]⟩ 1 1 ⟨#[118]⟩).toArray) (by simp [results,results190,go_sem,b0,b1,b2,b3,b4,b5]) rfl ⟨rfl,(clB hB1)⟩
structure Sh where
 c:Int
 l:Int
 m:Int
 p:ByteArray
def sh6 (s:Sh):List Value:=sg6 0 s.c ⟨#[]⟩ s.l s.m s.p
def zKo (id:Int):Sh:=if id=30 then ⟨3,2,3,⟨#[118]⟩⟩ else if id=31 then ⟨3,2,2,⟨#[118]⟩⟩ else ⟨3,2,30,⟨#[118]⟩⟩
def zKW (id:Int):Sh:=if id=20 then ⟨2,2,2,⟨#[118,97]⟩⟩ else if id=21 then ⟨2,2,2,⟨#[97,118]⟩⟩ else if id=22 then ⟨2,2,3,⟨#[97,118,97]⟩⟩ else if id=23 then ⟨2,3,3,⟨#[118,97,97]⟩⟩ else if id=24 then ⟨2,2,2,⟨#[97]⟩⟩ else if id=25 then ⟨2,2,3,⟨#[97,118]⟩⟩ else ⟨2,1,1,⟨#[97]⟩⟩
def zJq (id:Int):Sh:=if id=62 then ⟨4,0,0,⟨#[118]⟩⟩ else if id=43 \/ id=49 \/ id=50 then ⟨4,1,2,⟨#[118]⟩⟩ else if id=44 \/ id=45 \/ id=46 \/ id=52 \/ id=53 then ⟨4,2,2,⟨#[118]⟩⟩ else if id=51 then ⟨4,3,3,⟨#[118]⟩⟩ else ⟨4,1,1,⟨#[118]⟩⟩
def zAP (id:Int):Sh:=if id<=15 then ⟨1,1,30,⟨#[120]⟩⟩ else if id<=27 then zKW id else if id<=32 then zKo id else zJq id
theorem zL8 (id:Int):zG4 id=sh6 (zKo id):=by
 unfold zG4 zKo;split
 ·rfl
 ·split <;> rfl
theorem zMI (id:Int):zHX id=sh6 (zKW id):=by
 unfold zHX zKW;repeat (split;rfl)
 rfl
theorem zL5 (id:Int):zGt id=sh6 (zJq id):=by
 unfold zGt zJq;repeat (split;rfl)
 rfl
theorem zKg (id:Int) (w:World):CR 165 #[.int .i64 id] w (.agg (sh6 (zAP id)).toArray):=by
 have pZ:=AtL.new0 w 230 (sg6 0 0 ⟨#[]⟩ 0 0 ⟨#[]⟩);have hB:=zAH (Below.refl _ w) (.cells (sg6 0 0 ⟨#[]⟩ 0 0 ⟨#[]⟩).toArray 230);have AK:=λw=>zAW 1 1 30 ⟨#[120]⟩ w
 have SK:=λw=>zI3 id w
 have LK:=λw=>zK3 id w
 have CK:=λw=>zKN id w
 rw [zMI] at SK;rw [zL8] at LK;rw [zL5] at CK;unfold zAP;by_cases h1:id<=15
 ·rw [if_pos h1];clear SK LK CK;go_enter func165,ntmps165;go_wp2_with fail
  refine (AK _).mono ?_;rintro e w1 ⟨rfl,hb1⟩;obtain ⟨b0,b1,b2,b3,b4,b5,k0,k1,k2,k3,k4,k5⟩:=at6 (AtL.below hb1 pZ);have hB1:=zAA hB hb1;go_wp2;refine bodyPost_ret (v:=.agg (sg6 0 1 ⟨#[]⟩ 1 30 ⟨#[120]⟩).toArray) (by simp [results,results165,go_sem,b0,b1,b2,b3,b4,b5]) rfl ⟨rfl,(clB hB1)⟩
 rw [if_neg h1];by_cases h2:id<=27
 ·rw [if_pos h2];clear AK LK CK;generalize zKW id=s at *;unfold sh6 at *;go_enter func165,ntmps165;go_wp2_with fail
  refine (SK _).mono ?_;rintro e w1 ⟨rfl,hb1⟩;obtain ⟨b0,b1,b2,b3,b4,b5,k0,k1,k2,k3,k4,k5⟩:=at6 (AtL.below hb1 pZ);have hB1:=zAA hB hb1;go_wp2;refine bodyPost_ret (v:=.agg (sg6 0 s.c ⟨#[]⟩ s.l s.m s.p).toArray) (by simp [results,results165,go_sem,b0,b1,b2,b3,b4,b5]) rfl ⟨rfl,(clB hB1)⟩
 rw [if_neg h2];by_cases h3:id<=32
 ·rw [if_pos h3];clear AK SK CK;generalize zKo id=s at *;unfold sh6 at *;go_enter func165,ntmps165;go_wp2_with fail
  refine (LK _).mono ?_;rintro e w1 ⟨rfl,hb1⟩;obtain ⟨b0,b1,b2,b3,b4,b5,k0,k1,k2,k3,k4,k5⟩:=at6 (AtL.below hb1 pZ);have hB1:=zAA hB hb1;go_wp2;refine bodyPost_ret (v:=.agg (sg6 0 s.c ⟨#[]⟩ s.l s.m s.p).toArray) (by simp [results,results165,go_sem,b0,b1,b2,b3,b4,b5]) rfl ⟨rfl,(clB hB1)⟩
 rw [if_neg h3];clear AK SK LK;generalize zJq id=s at *;unfold sh6 at *;go_enter func165,ntmps165;go_wp2_with fail
 refine (CK _).mono ?_;rintro e w1 ⟨rfl,hb1⟩;obtain ⟨b0,b1,b2,b3,b4,b5,k0,k1,k2,k3,k4,k5⟩:=at6 (AtL.below hb1 pZ);have hB1:=zAA hB hb1;go_wp2;refine bodyPost_ret (v:=.agg (sg6 0 s.c ⟨#[]⟩ s.l s.m s.p).toArray) (by simp [results,results165,go_sem,b0,b1,b2,b3,b4,b5]) rfl ⟨rfl,(clB hB1)⟩
def fnN:List (List UInt8):=[[],[83,85,77],[80,82,79,68,85,67,84],[67,79,85,78,84],[67,79,85,78,84,65],[77,73,78],[77,65,88],[65,86,69,82,65,71,69],[65,78,68],[79,82],[88,79,82],[67,79,78,67,65,84],[83,85,77,83,81],[71,67,68],[70,73,82,83,84],[76,65,83,84],[],[],[],[],[77,65,84,67,72],[67,79,85,78,84,73,70],[83,85,77,73,70],[76,79,79,75,85,80],[83,85,77,80,82,79,68,85,67,84],[73,78,68,69,88],[82,79,87,83],[67,79,76,85,77,78,83],[],[],[73,70],[73,70,69,82,82,79,82],[67,72,79,79,83,69],[],[],[],[],[],[],[],[65,66,83],[83,73,71,78],[73,78,84],[82,79,85,78,68],[77,79,68],[81,85,79,84,73,69,78,84],[80,79,87,69,82],[78,79,84],[76,69,78],[76,69,70,84],[82,73,71,72,84],[77,73,68],[82,69,80,84],[70,73,78,68],[85,80,80,69,82],[76,79,87,69,82],[84,82,73,77],[86,65,76,85,69],[73,83,78,85,77,66,69,82],[73,83,84,69,88,84],[73,83,66,76,65,78,75],[73,83,69,82,82,79,82],[78,65]]
def nmR:List Value:=fnN.map λl=>.string ⟨l.toArray⟩
def NmAt (w:World):Prop:=w.rangeAt 2 0 nmR
theorem NmAt.below {w':World} (h:NmAt w) (hb:Below w.heap.size w w'):NmAt w':=λj v hv=>zAC hb (h j v hv)
def zFf (id:Int):List UInt8:=fnN.getD id.toNat []
def zBT (id:Int):Bool:=decide (0<=id) && (decide (id<63) && !(zFf id).isEmpty)
theorem zQm (h:NmAt w):2<w.heap.size:=by
 have hc:w.cell? ⟨2,0+0,none⟩=_:=h 0 _ rfl;rcases Nat.lt_or_ge 2 w.heap.size with g | g
 ·exact g
 ·unfold World.cell? at hc;simp only [Array.getElem?_eq_none g] at hc;cases hc
theorem NmAt.cell (h:NmAt w) {id:Int} (h0:0<=id) (h1:id<63):w.cell? ⟨2,id.toNat,none⟩=some (.string ⟨(zFf id).toArray⟩):=by
 have hl:id.toNat<fnN.length:=by show id.toNat<63;omega
 have:=h id.toNat (.string ⟨(zFf id).toArray⟩) (by unfold nmR zFf;rw [List.getElem?_map,List.getElem?_eq_getElem hl,List.getD_eq_getElem?_getD,List.getElem?_eq_getElem hl];rfl);rw [Nat.zero_add] at this;exact this
def zero6:List Value:=sg6 0 0 ⟨#[]⟩ 0 0 ⟨#[]⟩
def zD3 (id:Int):List Value:=if zBT id=true then sg6 id (zAP id).c ⟨(zFf id).toArray⟩ (zAP id).l (zAP id).m (zAP id).p else zero6
theorem zLv (id:Int) (w:World) (hN:NmAt w) (h:id<0):CR 136 #[.int .i64 id] w (.tuple #[.agg zero6.toArray,.bool false]):=by
 have pZ:=AtL.new0 w 230 (sg6 0 0 ⟨#[]⟩ 0 0 ⟨#[]⟩);have hB:=zAH (Below.refl _ w) (.cells (sg6 0 0 ⟨#[]⟩ 0 0 ⟨#[]⟩).toArray 230);obtain ⟨b0,b1,b2,b3,b4,b5,k0,k1,k2,k3,k4,k5⟩:=at6 pZ;clear pZ hN;go_enter func136,ntmps136;go_upto_region 1 with fail
 generalize (w.alloc (.cells (sg6 0 0 ⟨#[]⟩ 0 0 ⟨#[]⟩).toArray 230))=W at *;go_wp2;refine bodyPost_ret (v:=.tuple #[.agg (sg6 0 0 ⟨#[]⟩ 0 0 ⟨#[]⟩).toArray,.bool false]) (by simp [results,results136,go_sem,b0,b1,b2,b3,b4,b5]) rfl ⟨rfl,(clB hB)⟩
theorem zM8 (id:Int) (w:World) (hN:NmAt w) (h:63<=id):CR 136 #[.int .i64 id] w (.tuple #[.agg zero6.toArray,.bool false]):=by
 have pZ:=AtL.new0 w 230 (sg6 0 0 ⟨#[]⟩ 0 0 ⟨#[]⟩);have hB:=zAH (Below.refl _ w) (.cells (sg6 0 0 ⟨#[]⟩ 0 0 ⟨#[]⟩).toArray 230);have h0:¬ id<0:=by omega
 obtain ⟨b0,b1,b2,b3,b4,b5,k0,k1,k2,k3,k4,k5⟩:=at6 pZ;clear pZ hN;go_enter func136,ntmps136;go_upto_region 1 with fail
 generalize (w.alloc (.cells (sg6 0 0 ⟨#[]⟩ 0 0 ⟨#[]⟩).toArray 230))=W at *;go_wp2;refine bodyPost_ret (v:=.tuple #[.agg (sg6 0 0 ⟨#[]⟩ 0 0 ⟨#[]⟩).toArray,.bool false]) (by simp [results,results136,go_sem,b0,b1,b2,b3,b4,b5]) rfl ⟨rfl,(clB hB)⟩
theorem zMD (id:Int) (w:World) (hN:NmAt w) (h0:0<=id) (h1:id<63) (he:zFf id=[]):CR 136 #[.int .i64 id] w (.tuple #[.agg zero6.toArray,.bool false]):=by
 have pZ:=AtL.new0 w 230 (sg6 0 0 ⟨#[]⟩ 0 0 ⟨#[]⟩);have hB:=zAH (Below.refl _ w) (.cells (sg6 0 0 ⟨#[]⟩ 0 0 ⟨#[]⟩).toArray 230);have hc:=(hN.below hB).cell h0 h1;rw [he] at hc;have h0n:¬ id<0:=by omega
 have h1n:¬ 63<=id:=by omega
 clear he;obtain ⟨b0,b1,b2,b3,b4,b5,k0,k1,k2,k3,k4,k5⟩:=at6 pZ;clear pZ hN;go_enter func136,ntmps136;go_upto_region 1 with fail
 generalize (w.alloc (.cells (sg6 0 0 ⟨#[]⟩ 0 0 ⟨#[]⟩).toArray 230))=W at *;go_wp2;refine bodyPost_ret (v:=.tuple #[.agg (sg6 0 0 ⟨#[]⟩ 0 0 ⟨#[]⟩).toArray,.bool false]) (by simp [results,results136,go_sem,b0,b1,b2,b3,b4,b5]) rfl ⟨rfl,(clB hB)⟩
theorem zR1 (id c l m:Int) (nm ps:ByteArray):(sg6 id c nm l m ps).toArray.all (·.oneCell')=true:=by simp [Value.oneCell']
theorem zOU (id:Int) (w:World) (hN:NmAt w) (h0:0<=id) (h1:id<63) (he:zFf id ≠ []):CR 136 #[.int .i64 id] w (.tuple #[.agg (sg6 id (zAP id).c ⟨(zFf id).toArray⟩ (zAP id).l (zAP id).m (zAP id).p).toArray,.bool true]):=by
 have pZ:=AtL.new0 w 230 (sg6 0 0 ⟨#[]⟩ 0 0 ⟨#[]⟩);have hB:=zAH (Below.refl _ w) (.cells (sg6 0 0 ⟨#[]⟩ 0 0 ⟨#[]⟩).toArray 230);have hN0:=hN.below hB;have hc:=hN0.cell h0 h1;have SH:=λw=>zKg id w
 unfold sh6 at SH;have hq:((zFf id).toArray.toList == ([]:List UInt8))=false:=by
  cases hx:zFf id with
  | nil=>exact absurd hx he
  | cons a t=>rfl
 obtain ⟨nm,hnm⟩:∃ nm:ByteArray,(⟨(zFf id).toArray⟩:ByteArray)=nm:=⟨_,rfl⟩
 have hq2:(nm.toList == [])=false:=by
  rw [<-hnm,ByteArray.toList_eq];exact hq
 rw [hnm] at hc ⊢;have HC:Hid (∀ W,NmAt W->W.cell? ⟨2,id.toNat,none⟩=some (.string nm)):=λW h=>by rw [<-hnm];exact h.cell h0 h1
 have HN0:Hid (NmAt (w.alloc (.cells (sg6 0 0 ⟨#[]⟩ 0 0 ⟨#[]⟩).toArray 230))):=hN0;have HNw:Hid (NmAt w):=hN;have h0n:¬ id<0:=by omega
 have h1n:¬ 63<=id:=by omega
 generalize zAP id=s at *;clear hN he hq hnm hN0;go_enter func136,ntmps136;go_upto_region 1 with fail
 generalize (w.alloc (.cells (sg6 0 0 ⟨#[]⟩ 0 0 ⟨#[]⟩).toArray 230))=W at *;go_wp2_with fail
 refine (SH _).mono ?_;rintro e w1 ⟨rfl,hb1⟩;have pZ1:=AtL.below hb1 pZ;have hB1:=zAA hB hb1;have HN1:Hid (NmAt w1):=HN0.out.below hb1;have pS:=AtL.new0 w1 230 (sg6 0 0 ⟨#[]⟩ 0 0 ⟨#[]⟩);have pZ2:=pZ1.alloc (.cells (sg6 0 0 ⟨#[]⟩ 0 0 ⟨#[]⟩).toArray 230);have hB2:=zAH hB1 (.cells (sg6 0 0 ⟨#[]⟩ 0 0 ⟨#[]⟩).toArray 230);have HN2:Hid (NmAt (w1.alloc (.cells (sg6 0 0 ⟨#[]⟩ 0 0 ⟨#[]⟩).toArray 230))):=HN1.out.below (zAH (Below.refl _ _) _);have hth:World.there (w1.alloc (.cells (sg6 0 0 ⟨#[]⟩ 0 0 ⟨#[]⟩).toArray 230)) w1.heap.size 0 (sg6 0 s.c ⟨#[]⟩ s.l s.m s.p).toArray.size:=pS.there;have hlt:=pZ1.lt;clear SH hc pZ pZ1 hB hB1 HN0 HN1 hb1;go_upto_region 4 with ((with_reducible refine wpList_store_mid ?_ 230 (.tmp 4) (.tmp 19) ?_ (w1.heap.size) 0 (sg6 0 s.c ⟨#[]⟩ s.l s.m s.p).toArray ?_ ?_ ?_ ?_ ?_ ?_);rfl;rfl;rfl;rfl;exact hth;kernel_rfl;exact zR1 _ _ _ _ _ _)
 have pS4:AtL ((w1.alloc (.cells (sg6 0 0 ⟨#[]⟩ 0 0 ⟨#[]⟩).toArray 230)).setCells w1.heap.size 0 (sg6 0 s.c ⟨#[]⟩ s.l s.m s.p)) w1.heap.size (sg6 0 s.c ⟨#[]⟩ s.l s.m s.p):=pS.setAll rfl;have pZ4:=pZ2.farAll (b:=w1.heap.size) (by omega) 0 (sg6 0 s.c ⟨#[]⟩ s.l s.m s.p);have hB4:Below w.heap.size w ((w1.alloc (.cells (sg6 0 0 ⟨#[]⟩ 0 0 ⟨#[]⟩).toArray 230)).setCells w1.heap.size 0 (sg6 0 s.c ⟨#[]⟩ s.l s.m s.p)):=zBJ hB2 (by omega) _ 0;have pS5:=AtL.drew pS4;have pZ5:=AtL.drew pZ4;have hB5:=hB4.drew;clear pS pZ2 hB2 HN2 hth pS4 pZ4 hB4;have hc5:=HC.out _ (HNw.out.below hB5);have hne:w1.heap.size ≠ 2:=by have:=zQm HNw.out;omega
 refine wp_region_held_drew (S:=λW=>W.cell? ⟨2,id.toNat,none⟩=some (.string nm)) (by kernel_rfl) hc5 (λhHeld=>?_);generalize (World.setCells (w1.alloc (.cells (sg6 0 0 ⟨#[]⟩ 0 0 ⟨#[]⟩).toArray 230)) w1.heap.size 0 (sg6 0 s.c ⟨#[]⟩ s.l s.m s.p)).drew=WD at *;have s0:=pS5.2.1 0 _ rfl;have f0:=pS5.2.2 0 (by simp);refine tkQ 0 ?_
 refine tkQ 1 ?_
 refine tkQ 2 ?_
 refine tkQ 3 ?_
 refine tkQ 4 ?_
 refine rdQ 5 (λK hK=>?_);go_simp
 refine hkQ hK (by rw [World.cell?_setCell_far _ _ _ _ (by simpa using hne)];exact hc5) (λhHeld=>?_);clear hK K
 have pS6:=pS5.set 0 (.int .i64 id);have pZ6:=pZ5.far (j:=w1.heap.size) (by omega) 0 (.int .i64 id);have hB6:Below w.heap.size w (WD.setCell ⟨w1.heap.size,0,none⟩ (.int .i64 id)):=hB5.setCell (p:=⟨w1.heap.size,0,none⟩) (show w.heap.size<=w1.heap.size by omega) _;have s2:=pS6.2.1 2 _ rfl;have f2:=pS6.2.2 2 (by simp);refine tkQ 6 ?_
 refine rdQ 7 (λK hK=>?_);go_simp
 refine hkQ hK (by rw [World.cell?_setCell_far _ _ _ _ (by simpa using hne)];exact hHeld) (λhHeld=>?_);clear hK K
 refine wpAnyH_done (by kernel_rfl) ?_ _;have pS8:AtL ((WD.setCell ⟨w1.heap.size,0,none⟩ (.int .i64 id)).setCell ⟨w1.heap.size,2,none⟩ (.string nm)) w1.heap.size (sg6 id s.c nm s.l s.m s.p):=pS6.set 2 (.string nm);have pZ8:=pZ6.far (j:=w1.heap.size) (by omega) 2 (.string nm);have hB8:Below w.heap.size w ((WD.setCell ⟨w1.heap.size,0,none⟩ (.int .i64 id)).setCell ⟨w1.heap.size,2,none⟩ (.string nm)):=hB6.setCell (p:=⟨w1.heap.size,2,none⟩) (show w.heap.size<=w1.heap.size by omega) _;clear pS5 pZ5 hB5 hc5 hHeld pS6 pZ6 hB6 s0 f0 s2 f2;generalize (WD.setCell ⟨w1.heap.size,0,none⟩ (.int .i64 id)).setCell ⟨w1.heap.size,2,none⟩ (.string nm)=W8 at *;have rS:=pS8.range;have hth:W8.there w.heap.size 0 (sg6 id s.c nm s.l s.m s.p).toArray.size:=pZ8.there;go_wp2_with (first
  | ((with_reducible refine wpList_load_mid (cs:=sg6 id s.c nm s.l s.m s.p) ?_ 230 (.tmp 4) ?_ (w1.heap.size) 0 ?_ _ ?_ underlying230 ?_ ?_ ?_);rfl;rfl;rfl;exact rS;rfl;kernel_rfl)
  | ((with_reducible refine wpList_store_mid ?_ 230 (.tmp 2) (.tmp 26) ?_ (w.heap.size) 0 (sg6 id s.c nm s.l s.m s.p).toArray ?_ ?_ ?_ ?_ ?_ ?_);rfl;rfl;rfl;rfl;exact hth;kernel_rfl;exact zR1 _ _ _ _ _ _))
 have pZ9:AtL (W8.setCells w.heap.size 0 (sg6 id s.c nm s.l s.m s.p)) w.heap.size (sg6 id s.c nm s.l s.m s.p):=pZ8.setAll rfl;have hB9:Below w.heap.size w (W8.setCells w.heap.size 0 (sg6 id s.c nm s.l s.m s.p)):=zBJ hB8 (Nat.le_refl _) _ 0;obtain ⟨b0,b1,b2,b3,b4,b5,k0,k1,k2,k3,k4,k5⟩:=at6 pZ9;refine bodyPost_ret (v:=.tuple #[.agg (sg6 id s.c nm s.l s.m s.p).toArray,.bool true]) (by simp [results,results136,go_sem,b0,b1,b2,b3,b4,b5]) rfl ⟨rfl,hB9⟩
theorem zKY {l m:List Int} {i:Nat} (h:l.take i=m.take i) (hl:i<l.length) (hm:i<m.length) (e:l[i]=m[i]):l.take (i+1)=m.take (i+1):=by
 rw [List.take_succ_eq_append_getElem hl,List.take_succ_eq_append_getElem hm,h,e]
theorem zKC (l m:List Int) (v1 v2:Value) (w:World) (h1:RdZ w v1 l) (h2:RdZ w v2 m) (hl:l.length<=1000000) (hm:m.length<=1000000) :
  CR 142 #[v1,v2] w (.bool (decide (l=m))):=by
 obtain ⟨a1,c1,rfl,r1⟩:=h1;obtain ⟨a2,c2,rfl,r2⟩:=h2;by_cases hlen:l.length=m.length
 ·have H1:Hid (∀ i (h:i<l.length),∃ bb off,a1=some ⟨bb,off,none⟩/\w.cell? ⟨bb,off+i,none⟩=some (.int .i64 (l[i]))):=r1;have H2:Hid (∀ i (h:i<m.length),∃ bb off,a2=some ⟨bb,off,none⟩/\w.cell? ⟨bb,off+i,none⟩=some (.int .i64 (m[i]))):=r2;obtain ⟨n,hn⟩:∃ n,l.length=n:=⟨_,rfl⟩
  have hm2:m.length=n:=by omega
  obtain ⟨q,hq⟩:∃ q,decide (l=m)=q:=⟨_,rfl⟩
  rw [hq,hn,hm2];rw [hn] at hl;have HQ:Hid (decide (l=m)=q):=hq;have HN:Hid (l.length=n):=hn;have HM:Hid (m.length=n):=hm2;clear r1 r2 hq hlen hm hn hm2;go_enter func142,ntmps142;go_wp2_with fail
  go_loopg [5,13] n (λgk y x wr=>∃ i:Nat,x=.int .i64 i/\gk=n - i/\i<=n/\Hid (l.take i=m.take i)/\Below w.heap.size w wr)
  case atStart=>exact ⟨0,rfl,rfl,Nat.zero_le _,(rfl:l.take 0=m.take 0),Below.refl _ _⟩
  case round =>
   obtain ⟨i,rfl,hg,hi,HT,hb⟩:=hrel;by_cases hlt:i<n
   ·have hli:(i:Int)<(n:Int):=by omega
    have hwi:IntKind.i64.wrap ((i:Int)+1)=(i:Int)+1:=by rw [IntKind.wrap_i64];omega
    have hil:i<l.length:=by rw [HN.out];exact hlt
    have him:i<m.length:=by rw [HM.out];exact hlt
    obtain ⟨b1,o1,rfl,q1⟩:=H1.out i hil;obtain ⟨b2,o2,rfl,q2⟩:=H2.out i him;have d1:=zAC hb q1;have d2:=zAC hb q2;have X:Hid (∃ z,l[i]=z/\z=l[i]):=⟨_,rfl,rfl⟩
    obtain ⟨x,hx⟩:∃ x,l[i]=x:=⟨_,rfl⟩
    obtain ⟨y,hy⟩:∃ y,m[i]=y:=⟨_,rfl⟩
    rw [hx] at d1;rw [hy] at d2;have HX:Hid (l[i]=x):=hx;have HY:Hid (m[i]=y):=hy;clear q1 q2 hx hy X;by_cases hxy:x=y
    ·have HT2:Hid (l.take (i+1)=m.take (i+1)):=zKY HT.out hil him (by rw [HX.out,HY.out];exact hxy);subst hxy;go_upto_region 6 with fail
     go_quiet (fail)
     go_wp2_with fail
     go_roundg (n - (i+1))
     case rel=>exact ⟨i+1,by simp,rfl,hlt,HT2,(clB hb)⟩
     case measure=>omega
    ·have hne:Hid (q=false):=by
      show q=false
      rw [<-HQ.out];refine decide_eq_false λe=>hxy ?_
      rw [<-HX.out,<-HY.out];simp only [e]
     go_upto_region 6 with fail
     go_quiet (fail)
     go_wp2;go_ret;exact ⟨by rw [hne.out];rfl,(clB hb)⟩
   ·have hli:¬ (i:Int)<(n:Int):=by omega
    have hqt:Hid (q=true):=by
     show q=true
     rw [<-HQ.out];have h:=HT.out;rw [List.take_of_length_le (by rw [HN.out];omega),List.take_of_length_le (by rw [HM.out];omega)] at h;exact decide_eq_true h
    go_wp2;go_ret;exact ⟨by rw [hqt.out];rfl,hb⟩
 ·have hne:decide (l=m)=false:=decide_eq_false λe=>hlen (by rw [e])
  have hz:¬ ((l.length:Int)=(m.length:Int)):=by omega
  rw [hne];clear r1 r2 hl hm;go_enter func142,ntmps142;go_wp2;go_ret;exact ⟨rfl,Below.refl _ _⟩
