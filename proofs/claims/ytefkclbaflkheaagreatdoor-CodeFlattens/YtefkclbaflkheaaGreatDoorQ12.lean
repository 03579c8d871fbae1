/- Lemmas. -/
import Derived.Test.YtefkclbaflkheaaGreatDoorQ11
set_option maxHeartbeats 1600000
set_option maxRecDepth 100000
namespace Go.Proofs.YtefkclbaflkheaaGreatDoor
open Tryz
open Go.RowKit
set_option linter.unusedVariables false
theorem vlz (w:World):AtL (w.alloc (.cells #[.int .i64 0,.int .i64 0,.int .i64 0,.string ⟨#[]⟩,.bool false,.int .i64 0] 31)) w.heap.size [.int .i64 0,.int .i64 0,.int .i64 0,.string ⟨#[]⟩,.bool false,.int .i64 0]:=AtL.new0 w _ _
def zFc (c:Int):Wt.Vl:=⟨4,0,0,⟨#[]⟩,false,if Wv.flt c then c else 2⟩
theorem zDL (c:Int) (w:World):CR 198 #[.int .i64 c] w (vlV (zFc c)):=by
 have C:=λw=>zDM c w
 unfold zFc;cases hq:Wv.flt c with
 | false =>
  rw [hq] at C;go_enter func198,ntmps198;go_wp2_with fail
  refine (C _).mono ?_;rintro e w1 ⟨rfl,rfl⟩;go_wp2;refine bodyPost_ret (v:=vlV ⟨4,0,0,⟨#[]⟩,false,2⟩) (by simp [results,results198,go_sem,vlV,vl6]) rfl ⟨rfl,?_⟩;exact clA
 | true =>
  rw [hq] at C;go_enter func198,ntmps198;go_wp2_with fail
  refine (C _).mono ?_;rintro e w1 ⟨rfl,rfl⟩;go_wp2;refine bodyPost_ret (v:=vlV ⟨4,0,0,⟨#[]⟩,false,c⟩) (by simp [results,results198,go_sem,vlV,vl6]) rfl ⟨rfl,?_⟩;exact clA
def zCw (b:Bool):Wt.Vl:=⟨3,0,0,⟨#[]⟩,b,0⟩
theorem zG9 (b:Bool) (w:World):CR 160 #[.bool b] w (vlV (zCw b)):=by
 go_enter func160,ntmps160;go_wp2;refine bodyPost_ret (v:=vlV (zCw b)) (by simp [results,results160,go_sem,vlV,vl6,zCw]) rfl ⟨rfl,?_⟩;exact clA
def zLh (n d:Int):Wt.Vl:=⟨1,Wnum.cN n d,Wnum.cD n d,⟨#[]⟩,false,0⟩
theorem zKe (n d:Int) (w:World) (h1:-9223372036854775808<=n) (h2:n<=9223372036854775807) (h3:-9223372036854775808<=d) (h4:d<=9223372036854775807) :
  CR 155 #[.agg #[.int .i64 n,.int .i64 d]] w (vlV (zLh n d)):=by
 have C:=λw=>zEB n d w h1 h2 h3 h4
 unfold zLh Wnum.cN Wnum.cD;have pA:=(AtL.new0 w 29 [.int .i64 n,.int .i64 d]).alloc (.cells zV0 31);have pR:=vlz (w.alloc (.cells #[.int .i64 n,.int .i64 d] 29));simp only [World.size_alloc] at pR;have hB0:=zAM (zAM (Below.refl _ w) (.cells #[.int .i64 n,.int .i64 d] 29)) (.cells zV0 31);cases hq:Wnum.rightB n d with
 | false =>
  rw [hq] at C;go_enter func155,ntmps155;go_wp2_with fail
  refine (C _).mono ?_;rintro e w1 ⟨rfl,hb⟩;have pA1:=AtL.below hb pA;have pR1:=AtL.below hb pR;obtain ⟨a0,a1,f0,f1⟩:=pA1.two;obtain ⟨c0,c1,c2,c3,c4,c5⟩:=pR1.f6;have g0:=pR1.2.2 0 (by decide);have g1:=pR1.2.2 1 (by decide);have g2:=pR1.2.2 2 (by decide);have g3:=pR1.2.2 3 (by decide);have g4:=pR1.2.2 4 (by decide);have g5:=pR1.2.2 5 (by decide);have hB1:=zAB hB0 hb;go_wp2;refine bodyPost_ret (v:=vlV ⟨1,0,1,⟨#[]⟩,false,0⟩) (by simp [results,results155,go_sem,vlV,vl6, *]) rfl ⟨rfl,?_⟩;exact (clB hB1)
 | true =>
  rw [hq] at C;go_enter func155,ntmps155;go_wp2_with fail
  refine (C _).mono ?_;rintro e w1 ⟨rfl,hb⟩;have pA1:=AtL.below hb pA;have pR1:=AtL.below hb pR;obtain ⟨a0,a1,f0,f1⟩:=pA1.two;obtain ⟨c0,c1,c2,c3,c4,c5⟩:=pR1.f6;have g0:=pR1.2.2 0 (by decide);have g1:=pR1.2.2 1 (by decide);have g2:=pR1.2.2 2 (by decide);have g3:=pR1.2.2 3 (by decide);have g4:=pR1.2.2 4 (by decide);have g5:=pR1.2.2 5 (by decide);have hB1:=zAB hB0 hb;go_wp2;refine bodyPost_ret (v:=vlV ⟨1,n,d,⟨#[]⟩,false,0⟩) (by simp [results,results155,go_sem,vlV,vl6, *]) rfl ⟨rfl,?_⟩;exact (clB hB1)
def zOE (s:ByteArray):Wt.Vl:=if Wv.prts s.data.toList then (if 256<s.size then ⟨4,0,0,⟨#[]⟩,false,7⟩ else ⟨2,0,0,s,false,0⟩) else ⟨4,0,0,⟨#[]⟩,false,2⟩
theorem zIH (s:ByteArray) (w:World) (hs:s.size<=9223372036854775807):CR 177 #[.string s] w (vlV (zOE s)):=by
 have C:=λw=>zFw s w hs
 have F2:=λw=>zDL 2 w
 have F7:=λw=>zDL 7 w
 have e2:zFc 2=⟨4,0,0,⟨#[]⟩,false,2⟩:=rfl;have e7:zFc 7=⟨4,0,0,⟨#[]⟩,false,7⟩:=rfl;rw [e2] at F2;rw [e7] at F7;simp only [vlV,vl6] at F2 F7;have pR:=vlz w;have hB0:=zAM (Below.refl _ w) (.cells zV0 31);unfold zOE;cases hq:Wv.prts s.data.toList with
 | false =>
  rw [hq] at C;rw [if_neg (by decide)];go_enter func177,ntmps177;go_wp2_with fail
  refine (C _).mono ?_;rintro e w1 ⟨rfl,rfl⟩;go_wp2_with fail
  refine (F2 _).mono ?_;rintro e w2 ⟨rfl,hb⟩;have pR1:=AtL.below hb pR;obtain ⟨c0,c1,c2,c3,c4,c5⟩:=pR1.f6;have g0:=pR1.2.2 0 (by decide);have g1:=pR1.2.2 1 (by decide);have g2:=pR1.2.2 2 (by decide);have g3:=pR1.2.2 3 (by decide);have g4:=pR1.2.2 4 (by decide);have g5:=pR1.2.2 5 (by decide);have hB1:=zAB hB0 hb;go_wp2;refine bodyPost_ret (v:=vlV ⟨4,0,0,⟨#[]⟩,false,2⟩) (by simp [results,results177,go_sem,vlV,vl6, *]) rfl ⟨rfl,?_⟩;exact (clB hB1)
 | true =>
  rw [hq] at C;rw [if_pos rfl];by_cases hl:256<s.size
  ·have hli:(256:Int)<(s.size:Int):=by omega
   rw [if_pos hl];go_enter func177,ntmps177;go_wp2_with fail
   refine (C _).mono ?_;rintro e w1 ⟨rfl,rfl⟩;go_wp2_with fail
   refine (F7 _).mono ?_;rintro e w2 ⟨rfl,hb⟩;have pR1:=AtL.below hb pR;obtain ⟨c0,c1,c2,c3,c4,c5⟩:=pR1.f6;have g0:=pR1.2.2 0 (by decide);have g1:=pR1.2.2 1 (by decide);have g2:=pR1.2.2 2 (by decide);have g3:=pR1.2.2 3 (by decide);have g4:=pR1.2.2 4 (by decide);have g5:=pR1.2.2 5 (by decide);have hB1:=zAB hB0 hb;go_wp2;refine bodyPost_ret (v:=vlV ⟨4,0,0,⟨#[]⟩,false,7⟩) (by simp [results,results177,go_sem,vlV,vl6, *]) rfl ⟨rfl,?_⟩;exact (clB hB1)
  ·have hli:¬ (256:Int)<(s.size:Int):=by omega
   rw [if_neg hl];go_enter func177,ntmps177;go_wp2_with fail
   refine (C _).mono ?_;rintro e w1 ⟨rfl,rfl⟩;go_wp2;refine bodyPost_ret (v:=vlV ⟨2,0,0,s,false,0⟩) (by simp [results,results177,go_sem,vlV,vl6, *]) rfl ⟨rfl,?_⟩;exact clA
theorem zDX {P:Program} {fn:Func} {t:Tmp} {T:TypeId} (h:fn.results=#[.cell t T]) (tmps:Array Value) (w:World) (b:Nat) (cs:List Value) (d:TypeDesc) (ht:tmps.getD t undef=.pointer (some ⟨b,0,none⟩)) (hc:w.rangeAt b 0 cs)
  (hu:P.underlying T=some d) (hd:d.isRow=true) (hi:(P.info? T).map (·.size)=some cs.length):(results fn tmps).run P w=.ok (.agg cs.toArray) w:=by
 have hl:=run_loadVar_mid (P:=P) w b 0 T cs d hc hu hd hi;have ht':tmps[t]?.getD undef=.pointer (some ⟨b,0,none⟩):=by rw [<-ht];simp
 simp only [results,h];simp [ht',hl,asAddr]
abbrev zDH (w:World):World:=(w.alloc (.cells #[.int .i64 0,.int .i64 0,.int .i64 0,.int .i64 0,.int .i64 0,.int .i64 0,.int .i64 0,.string ⟨#[]⟩,.bool false,.int .i64 0,.int .i64 0,.int .i64 0,.int .i64 0,.string ⟨#[]⟩,.bool false,.int .i64 0,.bool false,.bool false,.bool false,.int .i64 0,.int .i64 0] 198)).alloc (.cells #[.int .i64 0,.int .i64 0,.int .i64 0,.int .i64 0,.int .i64 0,.int .i64 0,.int .i64 0,.string ⟨#[]⟩,.bool false,.int .i64 0,.int .i64 0,.int .i64 0,.int .i64 0,.string ⟨#[]⟩,.bool false,.int .i64 0,.bool false,.bool false,.bool false,.int .i64 0,.int .i64 0] 198)
theorem zNN (w:World):CR 164 #[.int .i64 2] w (.agg (zAE 2 1 0).toArray):=by
 have pR0:AtL (zDH w) w.heap.size zHb:=(AtL.new0 w _ _).alloc _;have p0:AtL (zDH w) (w.heap.size+1) zHb:=AtL.new1 w _ _ _;have hne:w.heap.size+1 ≠ w.heap.size:=by omega
 have hth:World.there (zDH w) (w.heap.size+1) 0 (zAE 2 0 0).toArray.size:=p0.there;have pO:AtL ((zDH w).setCells (w.heap.size+1) 0 (zAE 2 0 0)) (w.heap.size+1) (zAE 2 0 0):=p0.setAll rfl;have pR:AtL ((zDH w).setCells (w.heap.size+1) 0 (zAE 2 0 0)) w.heap.size zHb:=pR0.farAll hne 0 (zAE 2 0 0);have hB:Below w.heap.size w ((zDH w).setCells (w.heap.size+1) 0 (zAE 2 0 0)):=zAv (zAM (zAM (Below.refl _ w) _) _) (Nat.le_succ _) _ 0;clear p0 pR0;go_enter func164,ntmps164;go_upto_region 1 with fail
 go_upto_region 2 with (first | (refine zAl rfl 198 _ _ _ _ rfl _ _ rfl rfl (zAE 2 0 0) (by kernel_rfl) ?_) | ((with_reducible refine wpList_store_mid ?_ 198 (.tmp 3) (.tmp 6) ?_ (w.heap.size+1) 0 (zAE 2 0 0).toArray ?_ ?_ ?_ ?_ ?_ ?_);rfl;rfl;rfl;rfl;exact hth;kernel_rfl;exact zB1 _ _ _))
 generalize (zDH w).setCells (w.heap.size+1) 0 (zAE 2 0 0)=W0 at *;clear hth;have o2:=pO.2.1 2 _ rfl;have f2:=pO.2.2 2 (by show 2<21;decide);go_upto_region 7 with fail
 have pO2:AtL (W0.setCell ⟨w.heap.size+1,2,none⟩ (.int .i64 1)) (w.heap.size+1) (zAE 2 1 0):=pO.set 2 (.int .i64 1);have pR2:AtL (W0.setCell ⟨w.heap.size+1,2,none⟩ (.int .i64 1)) w.heap.size zHb:=pR.far hne 2 (.int .i64 1);have hB2:Below w.heap.size w (W0.setCell ⟨w.heap.size+1,2,none⟩ (.int .i64 1)):=(clB hB)
 clear pO pR hB o2 f2;generalize W0.setCell ⟨w.heap.size+1,2,none⟩ (.int .i64 1)=W1 at *;have rO:=pO2.range;have ht2:World.there W1 w.heap.size 0 (zAE 2 1 0).toArray.size:=pR2.there;have pF:AtL (W1.setCells w.heap.size 0 (zAE 2 1 0)) w.heap.size (zAE 2 1 0):=pR2.setAll rfl;have hB3:Below w.heap.size w (W1.setCells w.heap.size 0 (zAE 2 1 0)):=zAv hB2 (Nat.le_refl _) _ 0;clear pO2 pR2;go_wp2_with (first | (refine zAA (by rfl) 198 (.tmp 3) rfl (w.heap.size+1) 0 rfl (zAE 2 1 0) _ rO underlying198 rfl (by kernel_rfl) ?_) | ((with_reducible refine wpList_store_mid ?_ 198 (.tmp 2) (.tmp 16) ?_ w.heap.size 0 (zAE 2 1 0).toArray ?_ ?_ ?_ ?_ ?_ ?_);rfl;rfl;rfl;rfl;exact ht2;kernel_rfl;exact zB1 _ _ _))
 exact bodyPost_ret (v:=.agg (zAE 2 1 0).toArray) (zDX (by rfl) _ _ w.heap.size (zAE 2 1 0) _ (by rfl) pF.range underlying198 rfl (by kernel_rfl)) rfl ⟨rfl,hB3⟩
theorem zLX (w:World):CR 164 #[.int .i64 11] w (.agg (zAE 11 0 2).toArray):=by
 have pR0:AtL (zDH w) w.heap.size zHb:=(AtL.new0 w _ _).alloc _;have p0:AtL (zDH w) (w.heap.size+1) zHb:=AtL.new1 w _ _ _;have hne:w.heap.size+1 ≠ w.heap.size:=by omega
 have hth:World.there (zDH w) (w.heap.size+1) 0 (zAE 11 0 0).toArray.size:=p0.there;have pO:AtL ((zDH w).setCells (w.heap.size+1) 0 (zAE 11 0 0)) (w.heap.size+1) (zAE 11 0 0):=p0.setAll rfl;have pR:AtL ((zDH w).setCells (w.heap.size+1) 0 (zAE 11 0 0)) w.heap.size zHb:=pR0.farAll hne 0 (zAE 11 0 0);have hB:Below w.heap.size w ((zDH w).setCells (w.heap.size+1) 0 (zAE 11 0 0)):=zAv (zAM (zAM (Below.refl _ w) _) _) (Nat.le_succ _) _ 0;clear p0 pR0;go_enter func164,ntmps164;go_upto_region 1 with fail
 go_upto_region 2 with (first | (refine zAl rfl 198 _ _ _ _ rfl _ _ rfl rfl (zAE 11 0 0) (by kernel_rfl) ?_) | ((with_reducible refine wpList_store_mid ?_ 198 (.tmp 3) (.tmp 6) ?_ (w.heap.size+1) 0 (zAE 11 0 0).toArray ?_ ?_ ?_ ?_ ?_ ?_);rfl;rfl;rfl;rfl;exact hth;kernel_rfl;exact zB1 _ _ _))
 generalize (zDH w).setCells (w.heap.size+1) 0 (zAE 11 0 0)=W0 at *;clear hth;have VT:∀ w:World,CR 177 #[.string ⟨#[]⟩] w (.agg #[.int .i64 2,.int .i64 0,.int .i64 0,.string ⟨#[]⟩,.bool false,.int .i64 0]):=λw=>zIH ⟨#[]⟩ w (by decide)
 go_wp2_with fail
 refine (VT _).mono ?_;rintro e w1 ⟨rfl,hb⟩;have pO1:=AtL.below hb pO;have pR1:=AtL.below hb pR;have hB1:=zAB hB hb;clear pO pR hB hb;have o4:=pO1.2.1 4 _ rfl;have f4:=pO1.2.2 4 (by show 4<21;decide);have o5:=pO1.2.1 5 _ rfl;have f5:=pO1.2.2 5 (by show 5<21;decide);have o6:=pO1.2.1 6 _ rfl;have f6:=pO1.2.2 6 (by show 6<21;decide);have o7:=pO1.2.1 7 _ rfl;have f7:=pO1.2.2 7 (by show 7<21;decide);have o8:=pO1.2.1 8 _ rfl;have f8:=pO1.2.2 8 (by show 8<21;decide);have o9:=pO1.2.1 9 _ rfl;have f9:=pO1.2.2 9 (by show 9<21;decide);go_upto_region 7 with fail
 have pO2:AtL ((((((w1.setCell ⟨w.heap.size+1,4,none⟩ (.int .i64 2)).setCell ⟨w.heap.size+1,5,none⟩ (.int .i64 0)).setCell ⟨w.heap.size+1,6,none⟩ (.int .i64 0)).setCell ⟨w.heap.size+1,7,none⟩ (.string ⟨#[]⟩)).setCell ⟨w.heap.size+1,8,none⟩ (.bool false)).setCell ⟨w.heap.size+1,9,none⟩ (.int .i64 0)) (w.heap.size+1) (zAE 11 0 2):=((((((pO1.set 4 (.int .i64 2)).set 5 (.int .i64 0)).set 6 (.int .i64 0)).set 7 (.string ⟨#[]⟩)).set 8 (.bool false)).set 9 (.int .i64 0))
 have pR2:AtL ((((((w1.setCell ⟨w.heap.size+1,4,none⟩ (.int .i64 2)).setCell ⟨w.heap.size+1,5,none⟩ (.int .i64 0)).setCell ⟨w.heap.size+1,6,none⟩ (.int .i64 0)).setCell ⟨w.heap.size+1,7,none⟩ (.string ⟨#[]⟩)).setCell ⟨w.heap.size+1,8,none⟩ (.bool false)).setCell ⟨w.heap.size+1,9,none⟩ (.int .i64 0)) w.heap.size zHb:=((((((pR1.far hne 4 (.int .i64 2)).far hne 5 (.int .i64 0)).far hne 6 (.int .i64 0)).far hne 7 (.string ⟨#[]⟩)).far hne 8 (.bool false)).far hne 9 (.int .i64 0))
 have hB2:Below w.heap.size w ((((((w1.setCell ⟨w.heap.size+1,4,none⟩ (.int .i64 2)).setCell ⟨w.heap.size+1,5,none⟩ (.int .i64 0)).setCell ⟨w.heap.size+1,6,none⟩ (.int .i64 0)).setCell ⟨w.heap.size+1,7,none⟩ (.string ⟨#[]⟩)).setCell ⟨w.heap.size+1,8,none⟩ (.bool false)).setCell ⟨w.heap.size+1,9,none⟩ (.int .i64 0)):=(clB hB1)
 clear pO1 pR1 hB1 o4 f4 o5 f5 o6 f6 o7 f7 o8 f8 o9 f9;generalize ((((((w1.setCell ⟨w.heap.size+1,4,none⟩ (.int .i64 2)).setCell ⟨w.heap.size+1,5,none⟩ (.int .i64 0)).setCell ⟨w.heap.size+1,6,none⟩ (.int .i64 0)).setCell ⟨w.heap.size+1,7,none⟩ (.string ⟨#[]⟩)).setCell ⟨w.heap.size+1,8,none⟩ (.bool false)).setCell ⟨w.heap.size+1,9,none⟩ (.int .i64 0))=W1 at *;have rO:=pO2.range;have ht2:World.there W1 w.heap.size 0 (zAE 11 0 2).toArray.size:=pR2.there;have pF:AtL (W1.setCells w.heap.size 0 (zAE 11 0 2)) w.heap.size (zAE 11 0 2):=pR2.setAll rfl;have hB3:Below w.heap.size w (W1.setCells w.heap.size 0 (zAE 11 0 2)):=zAv hB2 (Nat.le_refl _) _ 0;clear pO2 pR2;go_wp2_with (first | (refine zAA (by rfl) 198 (.tmp 3) rfl (w.heap.size+1) 0 rfl (zAE 11 0 2) _ rO underlying198 rfl (by kernel_rfl) ?_) | ((with_reducible refine wpList_store_mid ?_ 198 (.tmp 2) (.tmp 16) ?_ w.heap.size 0 (zAE 11 0 2).toArray ?_ ?_ ?_ ?_ ?_ ?_);rfl;rfl;rfl;rfl;exact ht2;kernel_rfl;exact zB1 _ _ _))
 exact bodyPost_ret (v:=.agg (zAE 11 0 2).toArray) (zDX (by rfl) _ _ w.heap.size (zAE 11 0 2) _ (by rfl) pF.range underlying198 rfl (by kernel_rfl)) rfl ⟨rfl,hB3⟩
theorem zMe (id:Int) (w:World) (h2:¬ id=2) (h11:¬ id=11):CR 164 #[.int .i64 id] w (.agg (zAE id 0 0).toArray):=by
 have pR0:AtL (zDH w) w.heap.size zHb:=(AtL.new0 w _ _).alloc _;have p0:AtL (zDH w) (w.heap.size+1) zHb:=AtL.new1 w _ _ _;have hne:w.heap.size+1 ≠ w.heap.size:=by omega
 have hth:World.there (zDH w) (w.heap.size+1) 0 (zAE id 0 0).toArray.size:=p0.there;have pO:AtL ((zDH w).setCells (w.heap.size+1) 0 (zAE id 0 0)) (w.heap.size+1) (zAE id 0 0):=p0.setAll rfl;have pR:AtL ((zDH w).setCells (w.heap.size+1) 0 (zAE id 0 0)) w.heap.size zHb:=pR0.farAll hne 0 (zAE id 0 0);have hB:Below w.heap.size w ((zDH w).setCells (w.heap.size+1) 0 (zAE id 0 0)):=zAv (zAM (zAM (Below.refl _ w) _) _) (Nat.le_succ _) _ 0;clear p0 pR0;go_enter func164,ntmps164;go_upto_region 1 with fail
 go_upto_region 2 with (first | (refine zAl rfl 198 _ _ _ _ rfl _ _ rfl rfl (zAE id 0 0) (by kernel_rfl) ?_) | ((with_reducible refine wpList_store_mid ?_ 198 (.tmp 3) (.tmp 6) ?_ (w.heap.size+1) 0 (zAE id 0 0).toArray ?_ ?_ ?_ ?_ ?_ ?_);rfl;rfl;rfl;rfl;exact hth;kernel_rfl;exact zB1 _ _ _))
 generalize (zDH w).setCells (w.heap.size+1) 0 (zAE id 0 0)=W0 at *;clear hth;go_upto_region 7 with fail
 have pO2:=pO;have pR2:=pR;have hB2:=hB;clear pO pR hB;have rO:=pO2.range;have ht2:World.there W0 w.heap.size 0 (zAE id 0 0).toArray.size:=pR2.there;have pF:AtL (W0.setCells w.heap.size 0 (zAE id 0 0)) w.heap.size (zAE id 0 0):=pR2.setAll rfl;have hB3:Below w.heap.size w (W0.setCells w.heap.size 0 (zAE id 0 0)):=zAv hB2 (Nat.le_refl _) _ 0;clear pO2 pR2;go_wp2_with (first | (refine zAA (by rfl) 198 (.tmp 3) rfl (w.heap.size+1) 0 rfl (zAE id 0 0) _ rO underlying198 rfl (by kernel_rfl) ?_) | ((with_reducible refine wpList_store_mid ?_ 198 (.tmp 2) (.tmp 16) ?_ w.heap.size 0 (zAE id 0 0).toArray ?_ ?_ ?_ ?_ ?_ ?_);rfl;rfl;rfl;rfl;exact ht2;kernel_rfl;exact zB1 _ _ _))
 exact bodyPost_ret (v:=.agg (zAE id 0 0).toArray) (zDX (by rfl) _ _ w.heap.size (zAE id 0 0) _ (by rfl) pF.range underlying198 rfl (by kernel_rfl)) rfl ⟨rfl,hB3⟩
