/- MWalkA, MRefA, TPartB, TPartC, TCell. -/
import Derived.Test.YtdghjlmnlodnlaaGreatDoorQ12
set_option maxHeartbeats 8000000
set_option maxRecDepth 100000
namespace Go.Proofs.YtdghjlmnlodnlaaGreatDoor
open Tryz
open Go.RowKit Go.Shelf
set_option linter.unusedVariables false
variable {x y:Int} {a:Wt.Rf}
theorem zOP (x y:Int) (s:ByteArray) (r c:Int) (w:World) (V:Wpl.Cl) (q:Bool) (S:∀ w,CR 46 #[.agg #[.int .i64 0,.int .i64 r,.int .i64 c],.int .i64 x,.int .i64 y] w (.tuple #[.agg #[.int .i64 V.s,.int .i64 V.r,.int .i64 V.c],.bool q])) :
  CR 28 #[.agg #[.int .i64 x,.int .i64 y],.agg #[.string s,.int .i64 r,.int .i64 c,.bool false,.bool false]] w (.tuple #[.agg #[.string s,.int .i64 V.r,.int .i64 V.c,.bool false,.bool false],.bool q]):=by
 obtain ⟨vs,vr,vc⟩:=V;simp only at S ⊢;have pB:=((AtL.new0 w 50 [.int .i64 x,.int .i64 y]).alloc (.cells #[.string s,.int .i64 r,.int .i64 c,.bool false,.bool false] 28)).alloc (.cells zR0 28);have pA:=(AtL.new1 w (.cells #[.int .i64 x,.int .i64 y] 50) 28 [.string s,.int .i64 r,.int .i64 c,.bool false,.bool false]).alloc (.cells zR0 28);have pR:AtL (((w.alloc (.cells #[.int .i64 x,.int .i64 y] 50)).alloc (.cells #[.string s,.int .i64 r,.int .i64 c,.bool false,.bool false] 28)).alloc (.cells zR0 28)) (w.heap.size+2) [.string ⟨#[]⟩,.int .i64 0,.int .i64 0,.bool false,.bool false]:=AtL.new _ _ (by simp) _;have hB:=zAI (zAI (zAI (Below.refl _ w) (.cells #[.int .i64 x,.int .i64 y] 50)) (.cells #[.string s,.int .i64 r,.int .i64 c,.bool false,.bool false] 28)) (.cells zR0 28);go_enter func28,ntmps28;go_upto_region 1 with fail
 generalize (((w.alloc (.cells #[.int .i64 x,.int .i64 y] 50)).alloc (.cells #[.string s,.int .i64 r,.int .i64 c,.bool false,.bool false] 28)).alloc (.cells zR0 28))=W at *;obtain ⟨b0,b1,k0,k1⟩:=pB.two;obtain ⟨a0,a1,a2,a3,a4,f0,f1,f2,f3,f4⟩:=pA.five;go_wp2_with fail
 refine (S _).mono ?_;rintro e w1 ⟨rfl,hb⟩;have qA:=AtL.below (by first | exact hb | (simp only [World.size_setCell];exact hb)) (pA);have qR:=AtL.below (by first | exact hb | (simp only [World.size_setCell];exact hb)) (pR);have qB:=zAA (hB) (by first | exact hb | (simp only [World.size_setCell];exact hb));clear hb pA pB pR hB b0 b1 k0 k1 a0 a1 a2 a3 a4 f0 f1 f2 f3 f4 S;have sC:AtL (w1.alloc (.cells #[.int .i64 vs,.int .i64 vr,.int .i64 vc] 41)) w1.heap.size [.int .i64 vs,.int .i64 vr,.int .i64 vc]:=AtL.new w1 _ rfl _;have sA:=qA.alloc (.cells #[.int .i64 vs,.int .i64 vr,.int .i64 vc] 41);have sR:=qR.alloc (.cells #[.int .i64 vs,.int .i64 vr,.int .i64 vc] 41);have sB:=zAI qB (.cells #[.int .i64 vs,.int .i64 vr,.int .i64 vc] 41);have hlt:=qR.lt;clear qA qR qB;go_upto_region 6 with fail
 generalize w1.alloc (.cells #[.int .i64 vs,.int .i64 vr,.int .i64 vc] 41)=W1 at *;generalize w1.heap.size=kc at *;obtain ⟨z0,z1,z2,g0,g1,g2⟩:=sC.three;obtain ⟨a0,a1,a2,a3,a4,f0,f1,f2,f3,f4⟩:=sA.five;have hkc:¬ kc=w.heap.size+1:=by omega
 go_cut [] (λwx=>Below w.heap.size w wx/\AtL wx (w.heap.size+2) [.string ⟨#[]⟩,.int .i64 0,.int .i64 0,.bool false,.bool false]/\AtL wx (w.heap.size+1) [.string s,.int .i64 vr,.int .i64 vc,.bool false,.bool false])
 case first =>
  go_region
  go_wp2_with fail
  all_goals go_meet
  all_goals
   clear a0 a1 a2 a3 a4 f0 f1 f2 f3 f4 z0 z1 z2 g0 g1 g2;exact ⟨((sB.setCell (p:=⟨w.heap.size+1,1,none⟩) (by show w.heap.size<=w.heap.size+1;omega) _).setCell (p:=⟨w.heap.size+1,2,none⟩) (by show w.heap.size<=w.heap.size+1;omega) _).drew,((sR.far (j:=w.heap.size+1) (by omega) 1 _).far (j:=w.heap.size+1) (by omega) 2 _).drew,((sA.set 1 _).set 2 _).drew⟩
 case rest =>
 clear a0 a1 a2 a3 a4 f0 f1 f2 f3 f4 z0 z1 z2 g0 g1 g2 sA sR sB sC;obtain ⟨tB,tR,tA⟩:=hcut;obtain ⟨a0,a1,a2,a3,a4,f0,f1,f2,f3,f4⟩:=AtL.five tA;obtain ⟨r0,r1,r2,r3,r4,h0,h1,h2,h3,h4⟩:=AtL.five tR;go_wp2;refine bodyPost_ret (v:=.tuple #[.agg #[.string s,.int .i64 vr,.int .i64 vc,.bool false,.bool false],.bool q]) (by simp [results,results28,go_sem,r0,r1,r2,r3,r4]) rfl ⟨rfl,?_⟩;exact zBb tB (by omega) _ _ _ _ _
theorem zOI (x y:Int) (s:ByteArray) (r c:Int) (w:World) (V:Wpl.Cl) (q:Bool) (S:∀ w,CR 46 #[.agg #[.int .i64 0,.int .i64 r,.int .i64 c],.int .i64 x,.int .i64 0] w (.tuple #[.agg #[.int .i64 V.s,.int .i64 V.r,.int .i64 V.c],.bool q])) :
  CR 28 #[.agg #[.int .i64 x,.int .i64 y],.agg #[.string s,.int .i64 r,.int .i64 c,.bool false,.bool true]] w (.tuple #[.agg #[.string s,.int .i64 V.r,.int .i64 V.c,.bool false,.bool true],.bool q]):=by
 obtain ⟨vs,vr,vc⟩:=V;simp only at S ⊢;have pB:=((AtL.new0 w 50 [.int .i64 x,.int .i64 y]).alloc (.cells #[.string s,.int .i64 r,.int .i64 c,.bool false,.bool true] 28)).alloc (.cells zR0 28);have pA:=(AtL.new1 w (.cells #[.int .i64 x,.int .i64 y] 50) 28 [.string s,.int .i64 r,.int .i64 c,.bool false,.bool true]).alloc (.cells zR0 28);have pR:AtL (((w.alloc (.cells #[.int .i64 x,.int .i64 y] 50)).alloc (.cells #[.string s,.int .i64 r,.int .i64 c,.bool false,.bool true] 28)).alloc (.cells zR0 28)) (w.heap.size+2) [.string ⟨#[]⟩,.int .i64 0,.int .i64 0,.bool false,.bool false]:=AtL.new _ _ (by simp) _;have hB:=zAI (zAI (zAI (Below.refl _ w) (.cells #[.int .i64 x,.int .i64 y] 50)) (.cells #[.string s,.int .i64 r,.int .i64 c,.bool false,.bool true] 28)) (.cells zR0 28);go_enter func28,ntmps28;go_upto_region 1 with fail
 generalize (((w.alloc (.cells #[.int .i64 x,.int .i64 y] 50)).alloc (.cells #[.string s,.int .i64 r,.int .i64 c,.bool false,.bool true] 28)).alloc (.cells zR0 28))=W at *;obtain ⟨b0,b1,k0,k1⟩:=pB.two;obtain ⟨a0,a1,a2,a3,a4,f0,f1,f2,f3,f4⟩:=pA.five;go_wp2_with fail
 refine (S _).mono ?_;rintro e w1 ⟨rfl,hb⟩;have qA:=AtL.below (by first | exact hb | (simp only [World.size_setCell];exact hb)) ((pA).far (j:=w.heap.size) (by omega) 1 (.int .i64 0));have qR:=AtL.below (by first | exact hb | (simp only [World.size_setCell];exact hb)) ((pR).far (j:=w.heap.size) (by omega) 1 (.int .i64 0));have qB:=zAA ((hB).setCell (p:=⟨w.heap.size,1,none⟩) (Nat.le_refl _) (.int .i64 0)) (by first | exact hb | (simp only [World.size_setCell];exact hb));clear hb pA pB pR hB b0 b1 k0 k1 a0 a1 a2 a3 a4 f0 f1 f2 f3 f4 S;have sC:AtL (w1.alloc (.cells #[.int .i64 vs,.int .i64 vr,.int .i64 vc] 41)) w1.heap.size [.int .i64 vs,.int .i64 vr,.int .i64 vc]:=AtL.new w1 _ rfl _;have sA:=qA.alloc (.cells #[.int .i64 vs,.int .i64 vr,.int .i64 vc] 41);have sR:=qR.alloc (.cells #[.int .i64 vs,.int .i64 vr,.int .i64 vc] 41);have sB:=zAI qB (.cells #[.int .i64 vs,.int .i64 vr,.int .i64 vc] 41);have hlt:=qR.lt;clear qA qR qB;go_upto_region 6 with fail
 generalize w1.alloc (.cells #[.int .i64 vs,.int .i64 vr,.int .i64 vc] 41)=W1 at *;generalize w1.heap.size=kc at *;obtain ⟨z0,z1,z2,g0,g1,g2⟩:=sC.three;obtain ⟨a0,a1,a2,a3,a4,f0,f1,f2,f3,f4⟩:=sA.five;have hkc:¬ kc=w.heap.size+1:=by omega
 go_cut [] (λwx=>Below w.heap.size w wx/\AtL wx (w.heap.size+2) [.string ⟨#[]⟩,.int .i64 0,.int .i64 0,.bool false,.bool false]/\AtL wx (w.heap.size+1) [.string s,.int .i64 vr,.int .i64 vc,.bool false,.bool true])
 case first =>
  go_region
  go_wp2_with fail
  all_goals go_meet
  all_goals
   clear a0 a1 a2 a3 a4 f0 f1 f2 f3 f4 z0 z1 z2 g0 g1 g2;exact ⟨((sB.setCell (p:=⟨w.heap.size+1,1,none⟩) (by show w.heap.size<=w.heap.size+1;omega) _).setCell (p:=⟨w.heap.size+1,2,none⟩) (by show w.heap.size<=w.heap.size+1;omega) _).drew,((sR.far (j:=w.heap.size+1) (by omega) 1 _).far (j:=w.heap.size+1) (by omega) 2 _).drew,((sA.set 1 _).set 2 _).drew⟩
 case rest =>
 clear a0 a1 a2 a3 a4 f0 f1 f2 f3 f4 z0 z1 z2 g0 g1 g2 sA sR sB sC;obtain ⟨tB,tR,tA⟩:=hcut;obtain ⟨a0,a1,a2,a3,a4,f0,f1,f2,f3,f4⟩:=AtL.five tA;obtain ⟨r0,r1,r2,r3,r4,h0,h1,h2,h3,h4⟩:=AtL.five tR;go_wp2;refine bodyPost_ret (v:=.tuple #[.agg #[.string s,.int .i64 vr,.int .i64 vc,.bool false,.bool true],.bool q]) (by simp [results,results28,go_sem,r0,r1,r2,r3,r4]) rfl ⟨rfl,?_⟩;exact zBb tB (by omega) _ _ _ _ _
theorem zO2 (x y:Int) (s:ByteArray) (r c:Int) (w:World) (V:Wpl.Cl) (q:Bool) (S:∀ w,CR 46 #[.agg #[.int .i64 0,.int .i64 r,.int .i64 c],.int .i64 0,.int .i64 y] w (.tuple #[.agg #[.int .i64 V.s,.int .i64 V.r,.int .i64 V.c],.bool q])) :
  CR 28 #[.agg #[.int .i64 x,.int .i64 y],.agg #[.string s,.int .i64 r,.int .i64 c,.bool true,.bool false]] w (.tuple #[.agg #[.string s,.int .i64 V.r,.int .i64 V.c,.bool true,.bool false],.bool q]):=by
 obtain ⟨vs,vr,vc⟩:=V;simp only at S ⊢;have pB:=((AtL.new0 w 50 [.int .i64 x,.int .i64 y]).alloc (.cells #[.string s,.int .i64 r,.int .i64 c,.bool true,.bool false] 28)).alloc (.cells zR0 28);have pA:=(AtL.new1 w (.cells #[.int .i64 x,.int .i64 y] 50) 28 [.string s,.int .i64 r,.int .i64 c,.bool true,.bool false]).alloc (.cells zR0 28);have pR:AtL (((w.alloc (.cells #[.int .i64 x,.int .i64 y] 50)).alloc (.cells #[.string s,.int .i64 r,.int .i64 c,.bool true,.bool false] 28)).alloc (.cells zR0 28)) (w.heap.size+2) [.string ⟨#[]⟩,.int .i64 0,.int .i64 0,.bool false,.bool false]:=AtL.new _ _ (by simp) _;have hB:=zAI (zAI (zAI (Below.refl _ w) (.cells #[.int .i64 x,.int .i64 y] 50)) (.cells #[.string s,.int .i64 r,.int .i64 c,.bool true,.bool false] 28)) (.cells zR0 28);go_enter func28,ntmps28;go_upto_region 1 with fail
 generalize (((w.alloc (.cells #[.int .i64 x,.int .i64 y] 50)).alloc (.cells #[.string s,.int .i64 r,.int .i64 c,.bool true,.bool false] 28)).alloc (.cells zR0 28))=W at *;obtain ⟨b0,b1,k0,k1⟩:=pB.two;obtain ⟨a0,a1,a2,a3,a4,f0,f1,f2,f3,f4⟩:=pA.five;go_wp2_with fail
 refine (S _).mono ?_;rintro e w1 ⟨rfl,hb⟩;have qA:=AtL.below (by first | exact hb | (simp only [World.size_setCell];exact hb)) ((pA).far (j:=w.heap.size) (by omega) 0 (.int .i64 0));have qR:=AtL.below (by first | exact hb | (simp only [World.size_setCell];exact hb)) ((pR).far (j:=w.heap.size) (by omega) 0 (.int .i64 0));have qB:=zAA ((hB).setCell (p:=⟨w.heap.size,0,none⟩) (Nat.le_refl _) (.int .i64 0)) (by first | exact hb | (simp only [World.size_setCell];exact hb));clear hb pA pB pR hB b0 b1 k0 k1 a0 a1 a2 a3 a4 f0 f1 f2 f3 f4 S;have sC:AtL (w1.alloc (.cells #[.int .i64 vs,.int .i64 vr,.int .i64 vc] 41)) w1.heap.size [.int .i64 vs,.int .i64 vr,.int .i64 vc]:=AtL.new w1 _ rfl _;have sA:=qA.alloc (.cells #[.int .i64 vs,.int .i64 vr,.int .i64 vc] 41);have sR:=qR.alloc (.cells #[.int .i64 vs,.int .i64 vr,.int .i64 vc] 41);have sB:=zAI qB (.cells #[.int .i64 vs,.int .i64 vr,.int .i64 vc] 41);have hlt:=qR.lt;clear qA qR qB;go_upto_region 6 with fail
 generalize w1.alloc (.cells #[.int .i64 vs,.int .i64 vr,.int .i64 vc] 41)=W1 at *;generalize w1.heap.size=kc at *;obtain ⟨z0,z1,z2,g0,g1,g2⟩:=sC.three;obtain ⟨a0,a1,a2,a3,a4,f0,f1,f2,f3,f4⟩:=sA.five;have hkc:¬ kc=w.heap.size+1:=by omega
 go_cut [] (λwx=>Below w.heap.size w wx/\AtL wx (w.heap.size+2) [.string ⟨#[]⟩,.int .i64 0,.int .i64 0,.bool false,.bool false]/\AtL wx (w.heap.size+1) [.string s,.int .i64 vr,.int .i64 vc,.bool true,.bool false])
 case first =>
  go_region
  go_wp2_with fail
  all_goals go_meet
  all_goals
   clear a0 a1 a2 a3 a4 f0 f1 f2 f3 f4 z0 z1 z2 g0 g1 g2;exact ⟨((sB.setCell (p:=⟨w.heap.size+1,1,none⟩) (by show w.heap.size<=w.heap.size+1;omega) _).setCell (p:=⟨w.heap.size+1,2,none⟩) (by show w.heap.size<=w.heap.size+1;omega) _).drew,((sR.far (j:=w.heap.size+1) (by omega) 1 _).far (j:=w.heap.size+1) (by omega) 2 _).drew,((sA.set 1 _).set 2 _).drew⟩
 case rest =>
 clear a0 a1 a2 a3 a4 f0 f1 f2 f3 f4 z0 z1 z2 g0 g1 g2 sA sR sB sC;obtain ⟨tB,tR,tA⟩:=hcut;obtain ⟨a0,a1,a2,a3,a4,f0,f1,f2,f3,f4⟩:=AtL.five tA;obtain ⟨r0,r1,r2,r3,r4,h0,h1,h2,h3,h4⟩:=AtL.five tR;go_wp2;refine bodyPost_ret (v:=.tuple #[.agg #[.string s,.int .i64 vr,.int .i64 vc,.bool true,.bool false],.bool q]) (by simp [results,results28,go_sem,r0,r1,r2,r3,r4]) rfl ⟨rfl,?_⟩;exact zBb tB (by omega) _ _ _ _ _
theorem zO8 (x y:Int) (s:ByteArray) (r c:Int) (w:World) (V:Wpl.Cl) (q:Bool) (S:∀ w,CR 46 #[.agg #[.int .i64 0,.int .i64 r,.int .i64 c],.int .i64 0,.int .i64 0] w (.tuple #[.agg #[.int .i64 V.s,.int .i64 V.r,.int .i64 V.c],.bool q])) :
  CR 28 #[.agg #[.int .i64 x,.int .i64 y],.agg #[.string s,.int .i64 r,.int .i64 c,.bool true,.bool true]] w (.tuple #[.agg #[.string s,.int .i64 V.r,.int .i64 V.c,.bool true,.bool true],.bool q]):=by
 obtain ⟨vs,vr,vc⟩:=V;simp only at S ⊢;have pB:=((AtL.new0 w 50 [.int .i64 x,.int .i64 y]).alloc (.cells #[.string s,.int .i64 r,.int .i64 c,.bool true,.bool true] 28)).alloc (.cells zR0 28);have pA:=(AtL.new1 w (.cells #[.int .i64 x,.int .i64 y] 50) 28 [.string s,.int .i64 r,.int .i64 c,.bool true,.bool true]).alloc (.cells zR0 28);have pR:AtL (((w.alloc (.cells #[.int .i64 x,.int .i64 y] 50)).alloc (.cells #[.string s,.int .i64 r,.int .i64 c,.bool true,.bool true] 28)).alloc (.cells zR0 28)) (w.heap.size+2) [.string ⟨#[]⟩,.int .i64 0,.int .i64 0,.bool false,.bool false]:=AtL.new _ _ (by simp) _;have hB:=zAI (zAI (zAI (Below.refl _ w) (.cells #[.int .i64 x,.int .i64 y] 50)) (.cells #[.string s,.int .i64 r,.int .i64 c,.bool true,.bool true] 28)) (.cells zR0 28);go_enter func28,ntmps28;go_upto_region 1 with fail
 generalize (((w.alloc (.cells #[.int .i64 x,.int .i64 y] 50)).alloc (.cells #[.string s,.int .i64 r,.int .i64 c,.bool true,.bool true] 28)).alloc (.cells zR0 28))=W at *;obtain ⟨b0,b1,k0,k1⟩:=pB.two;obtain ⟨a0,a1,a2,a3,a4,f0,f1,f2,f3,f4⟩:=pA.five;go_wp2_with fail
 refine (S _).mono ?_;rintro e w1 ⟨rfl,hb⟩;have qA:=AtL.below (by first | exact hb | (simp only [World.size_setCell];exact hb)) (((pA).far (j:=w.heap.size) (by omega) 0 (.int .i64 0)).far (j:=w.heap.size) (by omega) 1 (.int .i64 0));have qR:=AtL.below (by first | exact hb | (simp only [World.size_setCell];exact hb)) (((pR).far (j:=w.heap.size) (by omega) 0 (.int .i64 0)).far (j:=w.heap.size) (by omega) 1 (.int .i64 0));have qB:=zAA (((hB).setCell (p:=⟨w.heap.size,0,none⟩) (Nat.le_refl _) (.int .i64 0)).setCell (p:=⟨w.heap.size,1,none⟩) (Nat.le_refl _) (.int .i64 0)) (by first | exact hb | (simp only [World.size_setCell];exact hb));clear hb pA pB pR hB b0 b1 k0 k1 a0 a1 a2 a3 a4 f0 f1 f2 f3 f4 S;have sC:AtL (w1.alloc (.cells #[.int .i64 vs,.int .i64 vr,.int .i64 vc] 41)) w1.heap.size [.int .i64 vs,.int .i64 vr,.int .i64 vc]:=AtL.new w1 _ rfl _;have sA:=qA.alloc (.cells #[.int .i64 vs,.int .i64 vr,.int .i64 vc] 41);have sR:=qR.alloc (.cells #[.int .i64 vs,.int .i64 vr,.int .i64 vc] 41);have sB:=zAI qB (.cells #[.int .i64 vs,.int .i64 vr,.int .i64 vc] 41);have hlt:=qR.lt;clear qA qR qB;go_upto_region 6 with fail
 generalize w1.alloc (.cells #[.int .i64 vs,.int .i64 vr,.int .i64 vc] 41)=W1 at *;generalize w1.heap.size=kc at *;obtain ⟨z0,z1,z2,g0,g1,g2⟩:=sC.three;obtain ⟨a0,a1,a2,a3,a4,f0,f1,f2,f3,f4⟩:=sA.five;have hkc:¬ kc=w.heap.size+1:=by omega
 go_cut [] (λwx=>Below w.heap.size w wx/\AtL wx (w.heap.size+2) [.string ⟨#[]⟩,.int .i64 0,.int .i64 0,.bool false,.bool false]/\AtL wx (w.heap.size+1) [.string s,.int .i64 vr,.int .i64 vc,.bool true,.bool true])
 case first =>
  go_region
  go_wp2_with fail
  all_goals go_meet
  all_goals
   clear a0 a1 a2 a3 a4 f0 f1 f2 f3 f4 z0 z1 z2 g0 g1 g2;exact ⟨((sB.setCell (p:=⟨w.heap.size+1,1,none⟩) (by show w.heap.size<=w.heap.size+1;omega) _).setCell (p:=⟨w.heap.size+1,2,none⟩) (by show w.heap.size<=w.heap.size+1;omega) _).drew,((sR.far (j:=w.heap.size+1) (by omega) 1 _).far (j:=w.heap.size+1) (by omega) 2 _).drew,((sA.set 1 _).set 2 _).drew⟩
 case rest =>
 clear a0 a1 a2 a3 a4 f0 f1 f2 f3 f4 z0 z1 z2 g0 g1 g2 sA sR sB sC;obtain ⟨tB,tR,tA⟩:=hcut;obtain ⟨a0,a1,a2,a3,a4,f0,f1,f2,f3,f4⟩:=AtL.five tA;obtain ⟨r0,r1,r2,r3,r4,h0,h1,h2,h3,h4⟩:=AtL.five tR;go_wp2;refine bodyPost_ret (v:=.tuple #[.agg #[.string s,.int .i64 vr,.int .i64 vc,.bool true,.bool true],.bool q]) (by simp [results,results28,go_sem,r0,r1,r2,r3,r4]) rfl ⟨rfl,?_⟩;exact zBb tB (by omega) _ _ _ _ _
theorem zDO (x y:Int) (a:Wt.Rf) (w:World):CR 28 #[.agg #[.int .i64 x,.int .i64 y],.agg (rf5 a).toArray] w (.tuple #[.agg (rf5 (mvR x y a)).toArray,.bool (okR x y a)]):=by
 obtain ⟨s,r,c,fr,fc⟩:=a;have S:=λw=>zK3 0 r c (mvX x fr) (mvX y fc) w
 cases fr <;> cases fc
 ·exact zOP x y s r c w _ _ S
 ·exact zOI x y s r c w _ _ S
 ·exact zO2 x y s r c w _ _ S
 ·exact zO8 x y s r c w _ _ S
def zIC (n x:Int) (fx:Bool) (m:Int):Bool:=decide (0<=n+mvX x fx) && decide (n+mvX x fx<m)
def zKt (n x:Int) (fx:Bool) (m:Int):Int:=if zIC n x fx m then n+mvX x fx else 0
theorem zHF (n x m:Int) (fx:Bool) (w:World) (h0:0<=n) (h1:n<m) (hm:m<=65536) (hx1:-9223372036854775808<=x) (hx2:x<=9223372036854775807) :
  Calls prog 31 #[.int .i64 n,.int .i64 x,.bool fx,.int .i64 m] w λe w'=>e=.returned (.tuple #[.int .i64 (zKt n x fx m),.bool (zIC n x fx m)])/\w=w':=by
 cases fx
 ·rw [show zKt n x false m=if zIC n x false m then n+x else 0 by simp [zKt,mvX],show zIC n x false m=(decide (0<=n+x) && decide (n+x<m)) by simp [zIC,mvX]];by_cases a:x < -n
  ·rw [decide_eq_false (p:=0<=n+x) (by omega)];go_enter func31,ntmps31;go_wp2;go_ret2
   exact ⟨rfl,rfl⟩
  ·by_cases b:m - n<=x
   ·rw [decide_eq_false (p:=n+x<m) (by omega),Bool.and_false];go_enter func31,ntmps31;go_wp2;go_ret2
    exact ⟨rfl,rfl⟩
   ·rw [decide_eq_true (p:=0<=n+x) (by omega),decide_eq_true (p:=n+x<m) (by omega)];go_enter func31,ntmps31;go_wp2;go_ret2
    exact ⟨rfl,rfl⟩
 ·rw [show zKt n x true m=if zIC n x true m then n else 0 by simp [zKt,mvX],show zIC n x true m=true by simp [zIC,mvX];omega];go_enter func31,ntmps31;go_wp2;go_ret2
  exact ⟨rfl,rfl⟩
def zFz (x y:Int) (a:Wt.Rf):Wt.Rf:=⟨a.s,zKt a.r x a.fr 65536,zKt a.c y a.fc 256,a.fr,a.fc⟩
def zOe (x y:Int) (a:Wt.Rf):Bool:=zIC a.r x a.fr 65536 && zIC a.c y a.fc 256
theorem zFB (h:Wt.rfOk a=true):zOe x y a=okR x y a:=by
 have hr:=zHb h;rw [Bool.eq_iff_iff,zJm];unfold zOe zIC;simp only [Bool.and_eq_true,decide_eq_true_eq];omega
theorem zGr (h:Wt.rfOk a=true) (hk:okR x y a=true):zFz x y a=mvR x y a:=by
 rw [zMr hk];rw [<-zFB h] at hk;unfold zOe at hk;rw [Bool.and_eq_true] at hk;unfold zFz zKt;rw [if_pos hk.1,if_pos hk.2]
theorem zLz (x y:Int) (a:Wt.Rf) (w:World) (h:Wt.rfOk a=true) (hx:-9223372036854775808<=x/\x<=9223372036854775807) (hy:-9223372036854775808<=y/\y<=9223372036854775807) :
  CR 17 #[.agg (rf5 a).toArray,.int .i64 x,.int .i64 y] w (.tuple #[.agg (rf5 (zFz x y a)).toArray,.bool (zOe x y a)]):=by
 obtain ⟨r0,r1,c0,c1⟩:=zHb h;clear h;obtain ⟨s,r,c,fr,fc⟩:=a;unfold zFz zOe;simp only at r0 r1 c0 c1 ⊢;have S1:=λw=>zHF r x 65536 fr w r0 r1 (by omega) hx.1 hx.2
 have S2:=λw=>zHF c y 256 fc w c0 c1 (by omega) hy.1 hy.2
 generalize zKt r x fr 65536=vr at *;generalize zIC r x fr 65536=q1 at *;generalize zKt c y fc 256=vc at *;generalize zIC c y fc 256=q2 at *;clear hx hy r0 r1 c0 c1;show Calls _ _ #[.agg #[.string s,.int .i64 r,.int .i64 c,.bool fr,.bool fc],.int .i64 x,.int .i64 y] _ λe w'=>e=.returned (.tuple #[.agg #[.string s,.int .i64 vr,.int .i64 vc,.bool fr,.bool fc],.bool (q1 && q2)])/\_
 have pA:=(AtL.new0 w 28 [.string s,.int .i64 r,.int .i64 c,.bool fr,.bool fc]).alloc (.cells zR0 28);have pR:=AtL.new1 w (.cells #[.string s,.int .i64 r,.int .i64 c,.bool fr,.bool fc] 28) 28 [.string ⟨#[]⟩,.int .i64 0,.int .i64 0,.bool false,.bool false];have hB:=zAI (zAI (Below.refl _ w) (.cells #[.string s,.int .i64 r,.int .i64 c,.bool fr,.bool fc] 28)) (.cells zR0 28);go_enter func17,ntmps17;go_upto_region 1 with fail
 generalize ((w.alloc (.cells #[.string s,.int .i64 r,.int .i64 c,.bool fr,.bool fc] 28)).alloc (.cells zR0 28))=W at *;obtain ⟨a0,a1,a2,a3,a4,f0,f1,f2,f3,f4⟩:=pA.five;go_wp2_with fail
 refine (S1 _).mono ?_;rintro e w1 ⟨rfl,rfl⟩;go_wp2_with fail
 refine (S2 _).mono ?_;rintro e w1 ⟨rfl,rfl⟩;clear S1 S2;have sA:AtL ((W.setCell ⟨w.heap.size,1,none⟩ (.int .i64 vr)).setCell ⟨w.heap.size,2,none⟩ (.int .i64 vc)) w.heap.size [.string s,.int .i64 vr,.int .i64 vc,.bool fr,.bool fc]:=(pA.set 1 _).set 2 _;have sR:AtL ((W.setCell ⟨w.heap.size,1,none⟩ (.int .i64 vr)).setCell ⟨w.heap.size,2,none⟩ (.int .i64 vc)) (w.heap.size+1) [.string ⟨#[]⟩,.int .i64 0,.int .i64 0,.bool false,.bool false]:=(pR.far (j:=w.heap.size) (by omega) 1 _).far (j:=w.heap.size) (by omega) 2 _;have sB:Below w.heap.size w ((W.setCell ⟨w.heap.size,1,none⟩ (.int .i64 vr)).setCell ⟨w.heap.size,2,none⟩ (.int .i64 vc)):=(hB.setCell (p:=⟨w.heap.size,1,none⟩) (Nat.le_refl _) _).setCell (p:=⟨w.heap.size,2,none⟩) (Nat.le_refl _) _;clear pA pR hB;go_upto_region 5 with fail
 clear a0 a1 a2 a3 a4 f0 f1 f2 f3 f4;generalize ((W.setCell ⟨w.heap.size,1,none⟩ (.int .i64 vr)).setCell ⟨w.heap.size,2,none⟩ (.int .i64 vc))=W2 at *;obtain ⟨a0,a1,a2,a3,a4,f0,f1,f2,f3,f4⟩:=AtL.five sA;obtain ⟨r0,r1,r2,r3,r4,h0,h1,h2,h3,h4⟩:=AtL.five sR;cases q1
 all_goals
  go_wp2;refine bodyPost_ret (v:=.tuple #[.agg #[.string s,.int .i64 vr,.int .i64 vc,.bool fr,.bool fc],.bool (_ && q2)]) (by simp [results,results17,go_sem,r0,r1,r2,r3,r4]) rfl ⟨rfl,?_⟩;exact zBb sB (by omega) _ _ _ _ _
theorem zAr (x:Wt.Nd) (sl:Value) (h:sl.oneCell'=true):(zAH x sl).toArray.all (·.oneCell')=true:=all_oneCell_toArray (λv hv=>by
 unfold zAH at hv;rcases List.mem_append.1 hv with h1 | h1
 ·exact zMp x v h1
 ·simp only [List.mem_cons,List.not_mem_nil,or_false] at h1;rw [h1];exact h)
def zAj (v:Wt.Vl):Wt.Nd:=⟨1,v,0,⟨#[]⟩,0,Wt.r0,Wt.r0⟩
theorem zDq (v:Wt.Vl) (w:World):CR 196 #[vlV v] w (ptV (zAj v) (.slice none 0 0)):=by
 obtain ⟨vk,vn,vd,vt,vb,vf⟩:=v;show Calls _ _ #[.agg #[.int .i64 vk,.int .i64 vn,.int .i64 vd,.string vt,.bool vb,.int .i64 vf]] _ _
 have pR:AtL ((w.alloc (.cells #[.int .i64 vk,.int .i64 vn,.int .i64 vd,.string vt,.bool vb,.int .i64 vf] 26)).alloc (.cells zP0 78)) (w.heap.size+1) (zAH (bare 0) (.slice none 0 0)):=AtL.new1 w _ _ _;have hth:World.there ((w.alloc (.cells #[.int .i64 vk,.int .i64 vn,.int .i64 vd,.string vt,.bool vb,.int .i64 vf] 26)).alloc (.cells zP0 78)) (w.heap.size+1) 0 (zAH ⟨1,⟨vk,vn,vd,vt,vb,vf⟩,0,⟨#[]⟩,0,Wt.r0,Wt.r0⟩ (.slice none 0 0)).toArray.size:=pR.there;have pR2:AtL (((w.alloc (.cells #[.int .i64 vk,.int .i64 vn,.int .i64 vd,.string vt,.bool vb,.int .i64 vf] 26)).alloc (.cells zP0 78)).setCells (w.heap.size+1) 0 (zAH ⟨1,⟨vk,vn,vd,vt,vb,vf⟩,0,⟨#[]⟩,0,Wt.r0,Wt.r0⟩ (.slice none 0 0))) (w.heap.size+1) (zAH ⟨1,⟨vk,vn,vd,vt,vb,vf⟩,0,⟨#[]⟩,0,Wt.r0,Wt.r0⟩ (.slice none 0 0)):=pR.setAll rfl;have hB:=zAu (zAI (zAI (Below.refl _ w) (.cells #[.int .i64 vk,.int .i64 vn,.int .i64 vd,.string vt,.bool vb,.int .i64 vf] 26)) (.cells zP0 78)) (Nat.le_succ w.heap.size) (zAH ⟨1,⟨vk,vn,vd,vt,vb,vf⟩,0,⟨#[]⟩,0,Wt.r0,Wt.r0⟩ (.slice none 0 0)) 0;go_enter func196,ntmps196;go_upto_region 1 with fail
 go_wp2_with ((with_reducible refine wpList_store_mid ?_ 78 (.tmp 2) (.tmp 5) ?_ (w.heap.size+1) 0 (zAH ⟨1,⟨vk,vn,vd,vt,vb,vf⟩,0,⟨#[]⟩,0,Wt.r0,Wt.r0⟩ (.slice none 0 0)).toArray ?_ ?_ ?_ ?_ ?_ ?_);rfl;rfl;rfl;rfl;exact hth;kernel_rfl;exact zAr _ _ rfl)
 refine bodyPost_ret (zAF rfl _ _ (w.heap.size+1) (zAH ⟨1,⟨vk,vn,vd,vt,vb,vf⟩,0,⟨#[]⟩,0,Wt.r0,Wt.r0⟩ (.slice none 0 0)) _ rfl pR2.range underlying78 rfl (by kernel_rfl)) rfl ⟨rfl,hB⟩
abbrev OpS (ka kb:Nat) (o:Int) (m:ByteArray) (t:Int) (W:World):Prop :=
 W.cell? ⟨ka,0,none⟩=some (.int .i64 o)/\W.cell? ⟨ka,1,none⟩=some (.string m)/\W.cell? ⟨ka,2,none⟩=some (.int .i64 t)
theorem zAp {ka kb:Nat} {o:Int} {m:ByteArray} {t:Int} {W:World} (h:AtL W ka [.int .i64 o,.string m,.int .i64 t]):OpS ka kb o m t W:=h.f3
def opN (k o:Int):Wt.Nd:=⟨k,Wt.v0,o,⟨#[]⟩,0,Wt.r0,Wt.r0⟩
def zAq (t:Int):Int:=if t<5 then 5 else 4
theorem zBL (o:Int) (m:ByteArray) (t:Int) (av:Option Addr) (len cap:Nat) (w:World):CR 114 #[.agg #[.int .i64 o,.string m,.int .i64 t],.slice av len cap] w (ptV (opN (zAq t) o) (.slice av len cap)):=by
 have C:=λw=>zDm o m t w
 have pA:=(AtL.new0 w 131 [.int .i64 o,.string m,.int .i64 t]).alloc (.cells zP0 78);have pR:AtL ((w.alloc (.cells #[.int .i64 o,.string m,.int .i64 t] 131)).alloc (.cells zP0 78)) (w.heap.size+1) (zAH (bare 0) (.slice none 0 0)):=AtL.new1 w _ _ _;have hB0:=zAI (zAI (Below.refl _ w) (.cells #[.int .i64 o,.string m,.int .i64 t] 131)) (.cells zP0 78);unfold zAq;generalize (if t<5 then (5:Int) else 4)=kd at *;go_enter func114,ntmps114;go_upto_region 1 with fail
 refine wp_region_held_drew (S:=OpS w.heap.size (w.heap.size+1) o m t) (by kernel_rfl) (zAp (AtL.drew pA)) (λhHeld=>?_);refine tkQ 0 ⟨some 5,.load 131 (.tmp 2),131,"parse.go:51",#[],none⟩ ?_
 refine tkQ 2 ⟨some 7,.fieldAddr 131 (.tmp 2) 0,0,"parse.go:51",#[],none⟩ ?_
 refine tkQ 3 ⟨some 8,.load 3 (.tmp 7),3,"parse.go:51",#[⟨2,.data⟩],none⟩ ?_
 refine tkQ 5 ⟨some 10,.move (.tmp 1),76,"parse.go:51",#[],none⟩ ?_
 refine rdQ 1 ⟨some 6,.call {callee:=Callee.value (Operand.func 73),args:=#[.tmp 5],argTypes:=#[131]},3,"parse.go:51",#[⟨0,.data⟩],none⟩ (λK hK=>?_);go_simp
 refine (C _).mono ?_;rintro e w1 ⟨rfl,hb⟩;have pA1:=AtL.below hb (AtL.drew pA);have pR1:=AtL.below hb (AtL.drew pR);have hB1:=zAA hB0.drew hb;clear hb;go_wp2_with fail
 refine hkQ hK (zAp pA1) (λhHeld=>?_);clear hK K
 refine tkQ 4 ⟨some 9,.build 30 #[(0,.tmp 6),(2,.tmp 8)],30,"parse.go:51",#[⟨1,.data⟩,⟨3,.data⟩],none⟩ ?_
 refine tkQ 6 ⟨some 11,.build 78 #[(0,.tmp 9),(1,.tmp 10)],78,"parse.go:51",#[⟨4,.data⟩,⟨5,.data⟩],none⟩ ?_
 refine rdQ 7 ⟨none,.store 78 (.tmp 4) (.tmp 11),0,"parse.go:51",#[⟨6,.data⟩,⟨1,.chain⟩,⟨0,.phase⟩,⟨1,.phase⟩,⟨2,.phase⟩,⟨3,.phase⟩,⟨4,.phase⟩,⟨5,.phase⟩,⟨6,.phase⟩],none⟩ (λK hK=>?_);refine wp_store_mid 78 (.tmp 4) (.tmp 11) rfl (w.heap.size+1) 0 (zAH (opN kd o) (.slice av len cap)).toArray rfl rfl pR1.there (by kernel_rfl) (zAr _ _ rfl) ?_;have pR2:AtL (w1.setCells (w.heap.size+1) 0 (zAH (opN kd o) (.slice av len cap))) (w.heap.size+1) (zAH (opN kd o) (.slice av len cap)):=pR1.setAll rfl;have hB2:Below w.heap.size w (w1.setCells (w.heap.size+1) 0 (zAH (opN kd o) (.slice av len cap))):=zAu hB1 (Nat.le_succ _) _ 0;refine hK.out _ _ (zAp (pA1.farAll (by omega) 0 _)) (λhHeld=>?_);clear hK K;try simp only [Act.put]
 refine wpAnyH_done (by kernel_rfl) ?_ _;go_wp2_with fail
 refine bodyPost_ret (zAF rfl _ _ (w.heap.size+1) (zAH (opN kd o) (.slice av len cap)) _ rfl pR2.range underlying78 rfl (by kernel_rfl)) rfl ⟨rfl,hB2⟩
def pc (ts:List Wlx.TV) (en:Int):(Wt.Rf × List Wlx.TV) ⊕ (Int × Int) :=
 if (hd ts en).k=3 then (if fol ts [40] then .inr (50,pos ts en) else if fol ts [33] then .inr (50,pos ts en) else (match rw1 (hd ts en).t with | some a=>.inl (a,ts.tail) | none=>.inr (50,pos ts en))) else .inr (50,pos ts en)
def zFw (kp:Nat) (en:Int) (r:(Wt.Rf × List Wlx.TV) ⊕ (Int × Int)) (w:World) (e:Ending) (w':World):Prop:=match r with
 | .inl (a,rest)=>e=.returned (rfV a)/\PSt w' kp rest en/\w.grownBy w' (some kp)
 | .inr (c,p)=>e=zBj c p/\w.grownBy w' (some kp)
theorem zHS (kp:Nat) (ts:List Wlx.TV) (en:Int) (w:World) (h:PSt w kp ts en) (hts:ts.length<=1024) (hok:∀ t ∈ ts,zAP t) (hE:Env w) (hk8:8<=kp):Calls prog 204 #[.pointer (some ⟨kp,0,none⟩)] w λe w'=>zFw kp en (pc ts en) w e w':=by
 have hB0:=zAI (Below.refl _ w) (.cells zR0 28);have pZ:=AtL.new0 w 28 [.string ⟨#[]⟩,.int .i64 0,.int .i64 0,.bool false,.bool false];have h0:=h.below hB0;have hE0:=hE.below hB0;have N:=λw h=>zBO kp ts en w h
 have F1:=λw h=>zBh kp ts en [40] w h hts
 have F2:=λw h=>zBh kp ts en [33] w h hts
 have hfl:=zHd;have hfl2:=zH5;unfold pc pos;have hne:(hd ts en).k=3->∃ r,ts=hd ts en::r:=by
  intro h3;cases ts with
  | nil=>exact absurd h3 (by show ¬ (0:Int)=3;decide)
  | cons a r=>exact ⟨r,rfl⟩
 have M0:=λw h=>zAn kp ts en w h
 unfold pos zBj at M0;have hto:(hd ts en).k=3->(hd ts en).t.length<=1024:=by
  intro h3;obtain ⟨r,hr⟩:=hne h3;exact (hok (hd ts en) (by rw [hr];simp [hd])).1
 obtain ⟨t,ht⟩:∃ t,hd ts en=t:=⟨_,rfl⟩
 rw [ht] at N M0 hne hto ⊢;clear ht;obtain ⟨k,x,p⟩:=t;unfold tkV at N;simp only at N M0 hto hne ⊢;have bad:∀ (w1:World) (e:Ending),e=.panicked [{v:=.iface 72 (.agg #[.int .i64 50,.int .i64 p]),recovered:=false}]->Below w.heap.size w w1->zFw kp en (.inr (50,p)) w e w1:=λw1 e he hb=>⟨he,zAC hb _⟩
 by_cases hk3:k=3
 ·subst hk3;rw [if_pos rfl];cases hf1:fol ts [40] with
  | true =>
   rw [hf1] at F1;rw [if_pos rfl];clear F2;go_enter func204,ntmps204;go_wp2_with fail
   refine (N _ h0).mono ?_;rintro e w1 ⟨rfl,hb⟩;have h1:=h0.below hb;have hB1:=zAA hB0 hb;clear hb h0 hB0;go_wp2_with fail
   refine (F1 _ h1).mono ?_;rintro e w2 ⟨rfl,hb⟩;have h2:=h1.below hb;have hB2:=zAA hB1 hb;clear hb h1 hB1;go_wp2_with fail
   refine (M0 _ h2).mono ?_;rintro e w3 ⟨rfl,hb⟩;have hB3:=zAA hB2 hb;go_wp2;exact ⟨rfl,bad _ _ rfl hB3⟩
  | false =>
   rw [hf1] at F1;rw [if_neg (by decide)];cases hf2:fol ts [33] with
   | true =>
    rw [hf2] at F2;rw [if_pos rfl];go_enter func204,ntmps204;go_wp2_with fail
    refine (N _ h0).mono ?_;rintro e w1 ⟨rfl,hb⟩;have h1:=h0.below hb;have hB1:=zAA hB0 hb;clear hb h0 hB0;go_wp2_with fail
    refine (F1 _ h1).mono ?_;rintro e w2 ⟨rfl,hb⟩;have h2:=h1.below hb;have hB2:=zAA hB1 hb;clear hb h1 hB1;go_wp2_with fail
    refine (F2 _ h2).mono ?_;rintro e w3 ⟨rfl,hb⟩;have h3:=h2.below hb;have hB3:=zAA hB2 hb;clear hb h2 hB2;go_wp2_with fail
    refine (M0 _ h3).mono ?_;rintro e w4 ⟨rfl,hb⟩;have hB4:=zAA hB3 hb;go_wp2;exact ⟨rfl,bad _ _ rfl hB4⟩
   | false =>
    rw [hf2] at F2;rw [if_neg (by decide)];have RW:=λw hm ht=>zFq x w hm ht (hto rfl)
    obtain ⟨r,hr⟩:=hne rfl;cases hrw:rw1 x with
    | none =>
     rw [hrw] at RW;simp only [RwV,rfV,rf5,Wt.r0] at RW;go_enter func204,ntmps204;go_wp2_with fail
     refine (N _ h0).mono ?_;rintro e w1 ⟨rfl,hb⟩;have h1:=h0.below hb;have hB1:=zAA hB0 hb;have pZ1:=AtL.below hb pZ;have hE1:=hE0.below hb;clear hb h0 hB0 pZ hE0;go_wp2_with fail
     refine (F1 _ h1).mono ?_;rintro e w2 ⟨rfl,hb⟩;have h2:=h1.below hb;have hB2:=zAA hB1 hb;have pZ2:=AtL.below hb pZ1;have hE2:=hE1.below hb;clear hb h1 hB1 pZ1 hE1;go_wp2_with fail
     refine (F2 _ h2).mono ?_;rintro e w3 ⟨rfl,hb⟩;have h3:=h2.below hb;have hB3:=zAA hB2 hb;have pZ3:=AtL.below hb pZ2;have hE3:=hE2.below hb;clear hb h2 hB2 pZ2 hE2;go_wp2_with fail
     refine (zA6 kp _).mono ?_;rintro e w4 ⟨rfl,rfl⟩;go_wp2_with fail
     refine (N _ h3).mono ?_;rintro e w4 ⟨rfl,hb⟩;have h4:=h3.below hb;have hB4:=zAA hB3 hb;have pZ4:=AtL.below hb pZ3;have hE4:=hE3.below hb;clear hb h3 hB3 pZ3 hE3;go_wp2_with fail
     refine (RW _ hE4.2.2.1 hE4.2.2.2).mono ?_;rintro e w5 ⟨rfl,hb⟩;have h5:=h4.below hb;have hB5:=zAA hB4 hb;have pZ5:=AtL.below hb pZ4;clear hb h4 hB4 pZ4 hE4 N F1 F2 RW;have h6:=h5.below (zAI (Below.refl _ w5) (.cells zR0 28));have hB6:=zAI hB5 (.cells zR0 28);go_wp2_with fail
     refine (M0 _ h6).mono ?_;rintro e w7 ⟨rfl,hb⟩;have hB7:=zAA hB6 hb;go_wp2;exact ⟨rfl,bad _ _ rfl hB7⟩
    | some a =>
     obtain ⟨as1,ar,ac,afr,afc⟩:=a;rw [hrw] at RW;simp only [RwV,rfV,rf5] at RW;subst hr;go_enter func204,ntmps204;go_wp2_with fail
     refine (N _ h0).mono ?_;rintro e w1 ⟨rfl,hb⟩;have h1:=h0.below hb;have hB1:=zAA hB0 hb;have pZ1:=AtL.below hb pZ;have hE1:=hE0.below hb;clear hb h0 hB0 pZ hE0;go_wp2_with fail
     refine (F1 _ h1).mono ?_;rintro e w2 ⟨rfl,hb⟩;have h2:=h1.below hb;have hB2:=zAA hB1 hb;have pZ2:=AtL.below hb pZ1;have hE2:=hE1.below hb;clear hb h1 hB1 pZ1 hE1;go_wp2_with fail
     refine (F2 _ h2).mono ?_;rintro e w3 ⟨rfl,hb⟩;have h3:=h2.below hb;have hB3:=zAA hB2 hb;have pZ3:=AtL.below hb pZ2;have hE3:=hE2.below hb;clear hb h2 hB2 pZ2 hE2;go_wp2_with fail
     refine (zA6 kp _).mono ?_;rintro e w4 ⟨rfl,rfl⟩;go_wp2_with fail
     refine (N _ h3).mono ?_;rintro e w4 ⟨rfl,hb⟩;have h4:=h3.below hb;have hB4:=zAA hB3 hb;have pZ4:=AtL.below hb pZ3;have hE4:=hE3.below hb;clear hb h3 hB3 pZ3 hE3;go_wp2_with fail
     refine (RW _ hE4.2.2.1 hE4.2.2.2).mono ?_;rintro e w5 ⟨rfl,hb⟩;have h5:=h4.below hb;have hB5:=zAA hB4 hb;have pZ5:=AtL.below hb pZ4;clear hb h4 hB4 pZ4 hE4 N F1 F2 RW;have h6:=h5.below (zAI (Below.refl _ w5) (.cells #[.string as1,.int .i64 ar,.int .i64 ac,.bool afr,.bool afc] 28));have hB6:=zAI hB5 (.cells #[.string as1,.int .i64 ar,.int .i64 ac,.bool afr,.bool afc] 28);have pZ6:=AtL.alloc pZ5 (.cells #[.string as1,.int .i64 ar,.int .i64 ac,.bool afr,.bool afc] 28);have pY6:=AtL.new0 w5 28 [.string as1,.int .i64 ar,.int .i64 ac,.bool afr,.bool afc];have hw5:=hB5.size;have hlt5:=pZ5.lt;have hkp:=h.lt;clear h5 hB5 pZ5;go_wp2_with fail
     refine (zA6 kp _).mono ?_;rintro e w6 ⟨rfl,rfl⟩;have P:=zBB 1 kp [⟨3,x,p⟩] r en _ h6 rfl (by decide) hts;go_wp2_with fail
     refine P.mono ?_;rintro e w7 ⟨rfl,hp,hg⟩;have pZ7:=pZ6.grown hg (by intro e;have:=Option.some.inj e;omega);have pY7:=pY6.grown hg (by intro e;have:=Option.some.inj e;omega);have hG:=zAB (zAC hB6 (some kp)) hg;clear P h6 hB6 pZ6 pY6 hg;obtain ⟨y0,y1,y2,y3,y4⟩:=pY7.f5;obtain ⟨z0,z1,z2,z3,z4,g0,g1,g2,g3,g4⟩:=pZ7.five;go_wp2;have pZ8:=((((pZ7.set 0 (.string as1)).set 1 (.int .i64 ar)).set 2 (.int .i64 ac)).set 3 (.bool afr)).set 4 (.bool afc);refine bodyPost_ret (zAF rfl _ _ w.heap.size [.string as1,.int .i64 ar,.int .i64 ac,.bool afr,.bool afc] _ rfl pZ8.range underlying28 rfl (by kernel_rfl)) rfl ?_;exact ⟨rfl,((((hp.far hkp _ _).far hkp _ _).far hkp _ _).far hkp _ _).far hkp _ _,zAS (zAS (zAS (zAS (zAS hG (Nat.le_refl _) _ _) (Nat.le_refl _) _ _) (Nat.le_refl _) _ _) (Nat.le_refl _) _ _) (Nat.le_refl _) _ _⟩
 ·rw [if_neg hk3];have hk':(k == 3)=false:=by simp [hk3]
  clear F1 F2;go_enter func204,ntmps204;go_wp2_with fail
  refine (N _ h0).mono ?_;rintro e w1 ⟨rfl,hb⟩;have h1:=h0.below hb;have hB1:=zAA hB0 hb;clear hb h0 hB0;go_wp2_with fail
  refine (M0 _ h1).mono ?_;rintro e w2 ⟨rfl,hb⟩;have hB2:=zAA hB1 hb;go_wp2;exact ⟨rfl,bad _ _ rfl hB2⟩
