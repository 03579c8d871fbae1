/- KWalkE, KWalkF. -/
import Derived.Test.YtcddpgfdadpbgaaGreatDoorQ04
set_option maxHeartbeats 1600000
set_option maxRecDepth 100000
namespace Go.Proofs.YtcddpgfdadpbgaaGreatDoor
open Tryz
open Go.RowKit
set_option linter.unusedVariables false
abbrev sg6 (id c:Int) (nm:ByteArray) (l m:Int) (ps:ByteArray):List Value:=[.int .i64 id,.int .i64 c,.string nm,.int .i64 l,.int .i64 m,.string ps]
theorem at6 {W:World} {k:Nat} {a b c d e f:Value} (h:AtL W k [a,b,c,d,e,f]) :
  W.cell? ⟨k,0,none⟩=some a/\W.cell? ⟨k,1,none⟩=some b/\W.cell? ⟨k,2,none⟩=some c/\W.cell? ⟨k,3,none⟩=some d/\W.cell? ⟨k,4,none⟩=some e/\W.cell? ⟨k,5,none⟩=some f/\W.frozen? ⟨k,0,none⟩=false/\W.frozen? ⟨k,1,none⟩=false/\W.frozen? ⟨k,2,none⟩=false/\W.frozen? ⟨k,3,none⟩=false/\W.frozen? ⟨k,4,none⟩=false/\W.frozen? ⟨k,5,none⟩=false :=
 ⟨h.2.1 0 a rfl,h.2.1 1 b rfl,h.2.1 2 c rfl,h.2.1 3 d rfl,h.2.1 4 e rfl,h.2.1 5 f rfl,h.2.2 0 (by simp),h.2.2 1 (by simp),h.2.2 2 (by simp),h.2.2 3 (by simp),h.2.2 4 (by simp),h.2.2 5 (by simp)⟩
theorem zAS (c l m:Int) (ps:ByteArray) (w:World):CR 141 #[.int .i64 c,.int .i64 l,.int .i64 m,.string ps] w (.agg (sg6 0 c ⟨#[]⟩ l m ps).toArray):=by
 have hB:=zAJ (Below.refl _ w) (.cells (sg6 0 0 ⟨#[]⟩ 0 0 ⟨#[]⟩).toArray 130);go_enter func141,ntmps141;go_wp2;refine bodyPost_ret (v:=.agg (sg6 0 c ⟨#[]⟩ l m ps).toArray) (by simp [results,results141,go_sem]) rfl ⟨rfl,clA⟩
def zDy (id:Int):List Value :=
 if id=30 then sg6 0 3 ⟨#[]⟩ 2 3 ⟨#[118]⟩ else if id=31 then sg6 0 3 ⟨#[]⟩ 2 2 ⟨#[118]⟩ else sg6 0 3 ⟨#[]⟩ 2 30 ⟨#[118]⟩
theorem zGJ (id:Int) (w:World):CR 143 #[.int .i64 id] w (.agg (zDy id).toArray):=by
 have pZ:=AtL.new0 w 130 (sg6 0 0 ⟨#[]⟩ 0 0 ⟨#[]⟩);have hB:=zAJ (Below.refl _ w) (.cells (sg6 0 0 ⟨#[]⟩ 0 0 ⟨#[]⟩).toArray 130);unfold zDy;by_cases h30:id=30
 ·subst h30;have AK:=λw=>zAS 3 2 3 ⟨#[118]⟩ w
  go_enter func143,ntmps143;go_wp2_with fail
  refine (AK _).mono ?_;rintro e w1 ⟨rfl,hb1⟩;obtain ⟨b0,b1,b2,b3,b4,b5,k0,k1,k2,k3,k4,k5⟩:=at6 (AtL.below hb1 pZ);have hB1:=zAB hB hb1;go_wp2;refine bodyPost_ret (v:=.agg (sg6 0 3 ⟨#[]⟩ 2 3 ⟨#[118]⟩).toArray) (by simp [results,results143,go_sem,b0,b1,b2,b3,b4,b5]) rfl ⟨rfl,(clB hB1)⟩
 by_cases h31:id=31
 ·subst h31;have AK:=λw=>zAS 3 2 2 ⟨#[118]⟩ w
  go_enter func143,ntmps143;go_wp2_with fail
  refine (AK _).mono ?_;rintro e w1 ⟨rfl,hb1⟩;obtain ⟨b0,b1,b2,b3,b4,b5,k0,k1,k2,k3,k4,k5⟩:=at6 (AtL.below hb1 pZ);have hB1:=zAB hB hb1;go_wp2;refine bodyPost_ret (v:=.agg (sg6 0 3 ⟨#[]⟩ 2 2 ⟨#[118]⟩).toArray) (by simp [results,results143,go_sem,b0,b1,b2,b3,b4,b5]) rfl ⟨rfl,(clB hB1)⟩
 have n30:(id == 30)=false:=by simp [h30]
 have n31:(id == 31)=false:=by simp [h31]
 rw [if_neg (by simp [h30]),if_neg (by simp [h31])];clear h30 h31;have AK:=λw=>zAS 3 2 30 ⟨#[118]⟩ w
 go_enter func143,ntmps143;go_wp2_with fail
 refine (AK _).mono ?_;rintro e w1 ⟨rfl,hb1⟩;obtain ⟨b0,b1,b2,b3,b4,b5,k0,k1,k2,k3,k4,k5⟩:=at6 (AtL.below hb1 pZ);have hB1:=zAB hB hb1;go_wp2;refine bodyPost_ret (v:=.agg (sg6 0 3 ⟨#[]⟩ 2 30 ⟨#[118]⟩).toArray) (by simp [results,results143,go_sem,b0,b1,b2,b3,b4,b5]) rfl ⟨rfl,(clB hB1)⟩
def zDx (id:Int):List Value :=
 if id=20 then sg6 0 2 ⟨#[]⟩ 2 2 ⟨#[118,97]⟩ else if id=21 then sg6 0 2 ⟨#[]⟩ 2 2 ⟨#[97,118]⟩ else if id=22 then sg6 0 2 ⟨#[]⟩ 2 3 ⟨#[97,118,97]⟩ else if id=23 then sg6 0 2 ⟨#[]⟩ 3 3 ⟨#[118,97,97]⟩ else if id=24 then sg6 0 2 ⟨#[]⟩ 2 2 ⟨#[97]⟩ else if id=25 then sg6 0 2 ⟨#[]⟩ 2 3 ⟨#[97,118]⟩ else sg6 0 2 ⟨#[]⟩ 1 1 ⟨#[97]⟩
theorem zFR (id:Int) (w:World):CR 142 #[.int .i64 id] w (.agg (zDx id).toArray):=by
 have pZ:=AtL.new0 w 130 (sg6 0 0 ⟨#[]⟩ 0 0 ⟨#[]⟩);have hB:=zAJ (Below.refl _ w) (.cells (sg6 0 0 ⟨#[]⟩ 0 0 ⟨#[]⟩).toArray 130);unfold zDx;by_cases h20:id=20
 ·subst h20;have AK:=λw=>zAS 2 2 2 ⟨#[118,97]⟩ w
  go_enter func142,ntmps142;go_wp2_with fail
  refine (AK _).mono ?_;rintro e w1 ⟨rfl,hb1⟩;obtain ⟨b0,b1,b2,b3,b4,b5,k0,k1,k2,k3,k4,k5⟩:=at6 (AtL.below hb1 pZ);have hB1:=zAB hB hb1;go_wp2;refine bodyPost_ret (v:=.agg (sg6 0 2 ⟨#[]⟩ 2 2 ⟨#[118,97]⟩).toArray) (by simp [results,results142,go_sem,b0,b1,b2,b3,b4,b5]) rfl ⟨rfl,(clB hB1)⟩
 by_cases h21:id=21
 ·subst h21;have AK:=λw=>zAS 2 2 2 ⟨#[97,118]⟩ w
  go_enter func142,ntmps142;go_wp2_with fail
  refine (AK _).mono ?_;rintro e w1 ⟨rfl,hb1⟩;obtain ⟨b0,b1,b2,b3,b4,b5,k0,k1,k2,k3,k4,k5⟩:=at6 (AtL.below hb1 pZ);have hB1:=zAB hB hb1;go_wp2;refine bodyPost_ret (v:=.agg (sg6 0 2 ⟨#[]⟩ 2 2 ⟨#[97,118]⟩).toArray) (by simp [results,results142,go_sem,b0,b1,b2,b3,b4,b5]) rfl ⟨rfl,(clB hB1)⟩
 by_cases h22:id=22
 ·subst h22;have AK:=λw=>zAS 2 2 3 ⟨#[97,118,97]⟩ w
  go_enter func142,ntmps142;go_wp2_with fail
  refine (AK _).mono ?_;rintro e w1 ⟨rfl,hb1⟩;obtain ⟨b0,b1,b2,b3,b4,b5,k0,k1,k2,k3,k4,k5⟩:=at6 (AtL.below hb1 pZ);have hB1:=zAB hB hb1;go_wp2;refine bodyPost_ret (v:=.agg (sg6 0 2 ⟨#[]⟩ 2 3 ⟨#[97,118,97]⟩).toArray) (by simp [results,results142,go_sem,b0,b1,b2,b3,b4,b5]) rfl ⟨rfl,(clB hB1)⟩
 by_cases h23:id=23
 ·subst h23;have AK:=λw=>zAS 2 3 3 ⟨#[118,97,97]⟩ w
  go_enter func142,ntmps142;go_wp2_with fail
  refine (AK _).mono ?_;rintro e w1 ⟨rfl,hb1⟩;obtain ⟨b0,b1,b2,b3,b4,b5,k0,k1,k2,k3,k4,k5⟩:=at6 (AtL.below hb1 pZ);have hB1:=zAB hB hb1;go_wp2;refine bodyPost_ret (v:=.agg (sg6 0 2 ⟨#[]⟩ 3 3 ⟨#[118,97,97]⟩).toArray) (by simp [results,results142,go_sem,b0,b1,b2,b3,b4,b5]) rfl ⟨rfl,(clB hB1)⟩
 by_cases h24:id=24
 ·subst h24;have AK:=λw=>zAS 2 2 2 ⟨#[97]⟩ w
  go_enter func142,ntmps142;go_wp2_with fail
  refine (AK _).mono ?_;rintro e w1 ⟨rfl,hb1⟩;obtain ⟨b0,b1,b2,b3,b4,b5,k0,k1,k2,k3,k4,k5⟩:=at6 (AtL.below hb1 pZ);have hB1:=zAB hB hb1;go_wp2;refine bodyPost_ret (v:=.agg (sg6 0 2 ⟨#[]⟩ 2 2 ⟨#[97]⟩).toArray) (by simp [results,results142,go_sem,b0,b1,b2,b3,b4,b5]) rfl ⟨rfl,(clB hB1)⟩
 by_cases h25:id=25
 ·subst h25;have AK:=λw=>zAS 2 2 3 ⟨#[97,118]⟩ w
  go_enter func142,ntmps142;go_wp2_with fail
  refine (AK _).mono ?_;rintro e w1 ⟨rfl,hb1⟩;obtain ⟨b0,b1,b2,b3,b4,b5,k0,k1,k2,k3,k4,k5⟩:=at6 (AtL.below hb1 pZ);have hB1:=zAB hB hb1;go_wp2;refine bodyPost_ret (v:=.agg (sg6 0 2 ⟨#[]⟩ 2 3 ⟨#[97,118]⟩).toArray) (by simp [results,results142,go_sem,b0,b1,b2,b3,b4,b5]) rfl ⟨rfl,(clB hB1)⟩
 have n20:(id == 20)=false:=by simp [h20]
 have n21:(id == 21)=false:=by simp [h21]
 have n22:(id == 22)=false:=by simp [h22]
 have n23:(id == 23)=false:=by simp [h23]
 have n24:(id == 24)=false:=by simp [h24]
 have n25:(id == 25)=false:=by simp [h25]
 rw [if_neg (by simp [h20]),if_neg (by simp [h21]),if_neg (by simp [h22]),if_neg (by simp [h23]),if_neg (by simp [h24]),if_neg (by simp [h25])];clear h20 h21 h22 h23 h24 h25;have AK:=λw=>zAS 2 1 1 ⟨#[97]⟩ w
 go_enter func142,ntmps142;go_wp2_with fail
 refine (AK _).mono ?_;rintro e w1 ⟨rfl,hb1⟩;obtain ⟨b0,b1,b2,b3,b4,b5,k0,k1,k2,k3,k4,k5⟩:=at6 (AtL.below hb1 pZ);have hB1:=zAB hB hb1;go_wp2;refine bodyPost_ret (v:=.agg (sg6 0 2 ⟨#[]⟩ 1 1 ⟨#[97]⟩).toArray) (by simp [results,results142,go_sem,b0,b1,b2,b3,b4,b5]) rfl ⟨rfl,(clB hB1)⟩
def zEI (id:Int):List Value :=
 if id=62 then sg6 0 4 ⟨#[]⟩ 0 0 ⟨#[118]⟩ else if id=43 \/ id=49 \/ id=50 then sg6 0 4 ⟨#[]⟩ 1 2 ⟨#[118]⟩ else if id=44 \/ id=45 \/ id=46 \/ id=52 \/ id=53 then sg6 0 4 ⟨#[]⟩ 2 2 ⟨#[118]⟩ else if id=51 then sg6 0 4 ⟨#[]⟩ 3 3 ⟨#[118]⟩ else sg6 0 4 ⟨#[]⟩ 1 1 ⟨#[118]⟩
theorem zFE (id:Int) (w:World):CR 144 #[.int .i64 id] w (.agg (zEI id).toArray):=by
 have pZ:=AtL.new0 w 130 (sg6 0 0 ⟨#[]⟩ 0 0 ⟨#[]⟩);have hB:=zAJ (Below.refl _ w) (.cells (sg6 0 0 ⟨#[]⟩ 0 0 ⟨#[]⟩).toArray 130);unfold zEI;by_cases h62:id=62
 ·subst h62;have AK:=λw=>zAS 4 0 0 ⟨#[118]⟩ w
  go_enter func144,ntmps144;go_wp2_with fail
  refine (AK _).mono ?_;rintro e w1 ⟨rfl,hb1⟩;obtain ⟨b0,b1,b2,b3,b4,b5,k0,k1,k2,k3,k4,k5⟩:=at6 (AtL.below hb1 pZ);have hB1:=zAB hB hb1;go_wp2;refine bodyPost_ret (v:=.agg (sg6 0 4 ⟨#[]⟩ 0 0 ⟨#[118]⟩).toArray) (by simp [results,results144,go_sem,b0,b1,b2,b3,b4,b5]) rfl ⟨rfl,(clB hB1)⟩
 by_cases h43:id=43
 ·subst h43;have AK:=λw=>zAS 4 1 2 ⟨#[118]⟩ w
  go_enter func144,ntmps144;go_wp2_with fail
  refine (AK _).mono ?_;rintro e w1 ⟨rfl,hb1⟩;obtain ⟨b0,b1,b2,b3,b4,b5,k0,k1,k2,k3,k4,k5⟩:=at6 (AtL.below hb1 pZ);have hB1:=zAB hB hb1;go_wp2;refine bodyPost_ret (v:=.agg (sg6 0 4 ⟨#[]⟩ 1 2 ⟨#[118]⟩).toArray) (by simp [results,results144,go_sem,b0,b1,b2,b3,b4,b5]) rfl ⟨rfl,(clB hB1)⟩
 by_cases h49:id=49
 ·subst h49;have AK:=λw=>zAS 4 1 2 ⟨#[118]⟩ w
  go_enter func144,ntmps144;go_wp2_with fail
  refine (AK _).mono ?_;rintro e w1 ⟨rfl,hb1⟩;obtain ⟨b0,b1,b2,b3,b4,b5,k0,k1,k2,k3,k4,k5⟩:=at6 (AtL.below hb1 pZ);have hB1:=zAB hB hb1;go_wp2;refine bodyPost_ret (v:=.agg (sg6 0 4 ⟨#[]⟩ 1 2 ⟨#[118]⟩).toArray) (by simp [results,results144,go_sem,b0,b1,b2,b3,b4,b5]) rfl ⟨rfl,(clB hB1)⟩
 by_cases h50:id=50
 ·subst h50;have AK:=λw=>zAS 4 1 2 ⟨#[118]⟩ w
  go_enter func144,ntmps144;go_wp2_with fail
  refine (AK _).mono ?_;rintro e w1 ⟨rfl,hb1⟩;obtain ⟨b0,b1,b2,b3,b4,b5,k0,k1,k2,k3,k4,k5⟩:=at6 (AtL.below hb1 pZ);have hB1:=zAB hB hb1;go_wp2;refine bodyPost_ret (v:=.agg (sg6 0 4 ⟨#[]⟩ 1 2 ⟨#[118]⟩).toArray) (by simp [results,results144,go_sem,b0,b1,b2,b3,b4,b5]) rfl ⟨rfl,(clB hB1)⟩
 by_cases h44:id=44
 ·subst h44;have AK:=λw=>zAS 4 2 2 ⟨#[118]⟩ w
  go_enter func144,ntmps144;go_wp2_with fail
  refine (AK _).mono ?_;rintro e w1 ⟨rfl,hb1⟩;obtain ⟨b0,b1,b2,b3,b4,b5,k0,k1,k2,k3,k4,k5⟩:=at6 (AtL.below hb1 pZ);have hB1:=zAB hB hb1;go_wp2;refine bodyPost_ret (v:=.agg (sg6 0 4 ⟨#[]⟩ 2 2 ⟨#[118]⟩).toArray) (by simp [results,results144,go_sem,b0,b1,b2,b3,b4,b5]) rfl ⟨rfl,(clB hB1)⟩
 by_cases h45:id=45
 ·subst h45;have AK:=λw=>zAS 4 2 2 ⟨#[118]⟩ w
  go_enter func144,ntmps144;go_wp2_with fail
  refine (AK _).mono ?_;rintro e w1 ⟨rfl,hb1⟩;obtain ⟨b0,b1,b2,b3,b4,b5,k0,k1,k2,k3,k4,k5⟩:=at6 (AtL.below hb1 pZ);have hB1:=zAB hB hb1;go_wp2;refine bodyPost_ret (v:=.agg (sg6 0 4 ⟨#[]⟩ 2 2 ⟨#[118]⟩).toArray) (by simp [results,results144,go_sem,b0,b1,b2,b3,b4,b5]) rfl ⟨rfl,(clB hB1)⟩
 by_cases h46:id=46
 ·subst h46;have AK:=λw=>zAS 4 2 2 ⟨#[118]⟩ w
  go_enter func144,ntmps144;go_wp2_with fail
  refine (AK _).mono ?_;rintro e w1 ⟨rfl,hb1⟩;obtain ⟨b0,b1,b2,b3,b4,b5,k0,k1,k2,k3,k4,k5⟩:=at6 (AtL.below hb1 pZ);have hB1:=zAB hB hb1;go_wp2;refine bodyPost_ret (v:=.agg (sg6 0 4 ⟨#[]⟩ 2 2 ⟨#[118]⟩).toArray) (by simp [results,results144,go_sem,b0,b1,b2,b3,b4,b5]) rfl ⟨rfl,(clB hB1)⟩
 by_cases h52:id=52
 ·subst h52;have AK:=λw=>zAS 4 2 2 ⟨#[118]⟩ w
  go_enter func144,ntmps144;go_wp2_with fail
  refine (AK _).mono ?_;rintro e w1 ⟨rfl,hb1⟩;obtain ⟨b0,b1,b2,b3,b4,b5,k0,k1,k2,k3,k4,k5⟩:=at6 (AtL.below hb1 pZ);have hB1:=zAB hB hb1;go_wp2;refine bodyPost_ret (v:=.agg (sg6 0 4 ⟨#[]⟩ 2 2 ⟨#[118]⟩).toArray) (by simp [results,results144,go_sem,b0,b1,b2,b3,b4,b5]) rfl ⟨rfl,(clB hB1)⟩
 by_cases h53:id=53
 ·subst h53;have AK:=λw=>zAS 4 2 2 ⟨#[118]⟩ w
  go_enter func144,ntmps144;go_wp2_with fail
  refine (AK _).mono ?_;rintro e w1 ⟨rfl,hb1⟩;obtain ⟨b0,b1,b2,b3,b4,b5,k0,k1,k2,k3,k4,k5⟩:=at6 (AtL.below hb1 pZ);have hB1:=zAB hB hb1;go_wp2;refine bodyPost_ret (v:=.agg (sg6 0 4 ⟨#[]⟩ 2 2 ⟨#[118]⟩).toArray) (by simp [results,results144,go_sem,b0,b1,b2,b3,b4,b5]) rfl ⟨rfl,(clB hB1)⟩
 by_cases h51:id=51
 ·subst h51;have AK:=λw=>zAS 4 3 3 ⟨#[118]⟩ w
  go_enter func144,ntmps144;go_wp2_with fail
  refine (AK _).mono ?_;rintro e w1 ⟨rfl,hb1⟩;obtain ⟨b0,b1,b2,b3,b4,b5,k0,k1,k2,k3,k4,k5⟩:=at6 (AtL.below hb1 pZ);have hB1:=zAB hB hb1;go_wp2;refine bodyPost_ret (v:=.agg (sg6 0 4 ⟨#[]⟩ 3 3 ⟨#[118]⟩).toArray) (by simp [results,results144,go_sem,b0,b1,b2,b3,b4,b5]) rfl ⟨rfl,(clB hB1)⟩
 have n62:(id == 62)=false:=by simp [h62]
 have n43:(id == 43)=false:=by simp [h43]
 have n49:(id == 49)=false:=by simp [h49]
 have n50:(id == 50)=false:=by simp [h50]
 have n44:(id == 44)=false:=by simp [h44]
 have n45:(id == 45)=false:=by simp [h45]
 have n46:(id == 46)=false:=by simp [h46]
 have n52:(id == 52)=false:=by simp [h52]
 have n53:(id == 53)=false:=by simp [h53]
 have n51:(id == 51)=false:=by simp [h51]
 rw [if_neg (by simp [h62]),if_neg (by simp [h43,h49,h50]),if_neg (by simp [h44,h45,h46,h52,h53]),if_neg (by simp [h51])];clear h62 h43 h49 h50 h44 h45 h46 h52 h53 h51;have AK:=λw=>zAS 4 1 1 ⟨#[118]⟩ w
 go_enter func144,ntmps144;go_wp2_with fail
 refine (AK _).mono ?_;rintro e w1 ⟨rfl,hb1⟩;obtain ⟨b0,b1,b2,b3,b4,b5,k0,k1,k2,k3,k4,k5⟩:=at6 (AtL.below hb1 pZ);have hB1:=zAB hB hb1;go_wp2;refine bodyPost_ret (v:=.agg (sg6 0 4 ⟨#[]⟩ 1 1 ⟨#[118]⟩).toArray) (by simp [results,results144,go_sem,b0,b1,b2,b3,b4,b5]) rfl ⟨rfl,(clB hB1)⟩
structure Sh where
 c:Int
 l:Int
 m:Int
 p:ByteArray
def sh6 (s:Sh):List Value:=sg6 0 s.c ⟨#[]⟩ s.l s.m s.p
def zFX (id:Int):Sh:=if id=30 then ⟨3,2,3,⟨#[118]⟩⟩ else if id=31 then ⟨3,2,2,⟨#[118]⟩⟩ else ⟨3,2,30,⟨#[118]⟩⟩
def zGM (id:Int):Sh:=if id=20 then ⟨2,2,2,⟨#[118,97]⟩⟩ else if id=21 then ⟨2,2,2,⟨#[97,118]⟩⟩ else if id=22 then ⟨2,2,3,⟨#[97,118,97]⟩⟩ else if id=23 then ⟨2,3,3,⟨#[118,97,97]⟩⟩ else if id=24 then ⟨2,2,2,⟨#[97]⟩⟩ else if id=25 then ⟨2,2,3,⟨#[97,118]⟩⟩ else ⟨2,1,1,⟨#[97]⟩⟩
def zFp (id:Int):Sh:=if id=62 then ⟨4,0,0,⟨#[118]⟩⟩ else if id=43 \/ id=49 \/ id=50 then ⟨4,1,2,⟨#[118]⟩⟩ else if id=44 \/ id=45 \/ id=46 \/ id=52 \/ id=53 then ⟨4,2,2,⟨#[118]⟩⟩ else if id=51 then ⟨4,3,3,⟨#[118]⟩⟩ else ⟨4,1,1,⟨#[118]⟩⟩
def zA5 (id:Int):Sh:=if id<=15 then ⟨1,1,30,⟨#[120]⟩⟩ else if id<=27 then zGM id else if id<=32 then zFX id else zFp id
theorem zHy (id:Int):zDy id=sh6 (zFX id):=by
 unfold zDy zFX;split
 ·rfl
 ·split <;> rfl
theorem zIF (id:Int):zDx id=sh6 (zGM id):=by
 unfold zDx zGM;repeat (split;rfl)
 rfl
theorem zGr (id:Int):zEI id=sh6 (zFp id):=by
 unfold zEI zFp;repeat (split;rfl)
 rfl
theorem zGP (id:Int) (w:World):CR 123 #[.int .i64 id] w (.agg (sh6 (zA5 id)).toArray):=by
 have pZ:=AtL.new0 w 130 (sg6 0 0 ⟨#[]⟩ 0 0 ⟨#[]⟩);have hB:=zAJ (Below.refl _ w) (.cells (sg6 0 0 ⟨#[]⟩ 0 0 ⟨#[]⟩).toArray 130);have AK:=λw=>zAS 1 1 30 ⟨#[120]⟩ w
 have SK:=λw=>zFR id w
 have LK:=λw=>zGJ id w
 have CK:=λw=>zFE id w
 rw [zIF] at SK;rw [zHy] at LK;rw [zGr] at CK;unfold zA5;by_cases h1:id<=15
 ·rw [if_pos h1];clear SK LK CK;go_enter func123,ntmps123;go_wp2_with fail
  refine (AK _).mono ?_;rintro e w1 ⟨rfl,hb1⟩;obtain ⟨b0,b1,b2,b3,b4,b5,k0,k1,k2,k3,k4,k5⟩:=at6 (AtL.below hb1 pZ);have hB1:=zAB hB hb1;go_wp2;refine bodyPost_ret (v:=.agg (sg6 0 1 ⟨#[]⟩ 1 30 ⟨#[120]⟩).toArray) (by simp [results,results123,go_sem,b0,b1,b2,b3,b4,b5]) rfl ⟨rfl,(clB hB1)⟩
 rw [if_neg h1];by_cases h2:id<=27
 ·rw [if_pos h2];clear AK LK CK;generalize zGM id=s at *;unfold sh6 at *;go_enter func123,ntmps123;go_wp2_with fail
  refine (SK _).mono ?_;rintro e w1 ⟨rfl,hb1⟩;obtain ⟨b0,b1,b2,b3,b4,b5,k0,k1,k2,k3,k4,k5⟩:=at6 (AtL.below hb1 pZ);have hB1:=zAB hB hb1;go_wp2;refine bodyPost_ret (v:=.agg (sg6 0 s.c ⟨#[]⟩ s.l s.m s.p).toArray) (by simp [results,results123,go_sem,b0,b1,b2,b3,b4,b5]) rfl ⟨rfl,(clB hB1)⟩
 rw [if_neg h2];by_cases h3:id<=32
 ·rw [if_pos h3];clear AK SK CK;generalize zFX id=s at *;unfold sh6 at *;go_enter func123,ntmps123;go_wp2_with fail
  refine (LK _).mono ?_;rintro e w1 ⟨rfl,hb1⟩;obtain ⟨b0,b1,b2,b3,b4,b5,k0,k1,k2,k3,k4,k5⟩:=at6 (AtL.below hb1 pZ);have hB1:=zAB hB hb1;go_wp2;refine bodyPost_ret (v:=.agg (sg6 0 s.c ⟨#[]⟩ s.l s.m s.p).toArray) (by simp [results,results123,go_sem,b0,b1,b2,b3,b4,b5]) rfl ⟨rfl,(clB hB1)⟩
 rw [if_neg h3];clear AK SK LK;generalize zFp id=s at *;unfold sh6 at *;go_enter func123,ntmps123;go_wp2_with fail
 refine (CK _).mono ?_;rintro e w1 ⟨rfl,hb1⟩;obtain ⟨b0,b1,b2,b3,b4,b5,k0,k1,k2,k3,k4,k5⟩:=at6 (AtL.below hb1 pZ);have hB1:=zAB hB hb1;go_wp2;refine bodyPost_ret (v:=.agg (sg6 0 s.c ⟨#[]⟩ s.l s.m s.p).toArray) (by simp [results,results123,go_sem,b0,b1,b2,b3,b4,b5]) rfl ⟨rfl,(clB hB1)⟩
