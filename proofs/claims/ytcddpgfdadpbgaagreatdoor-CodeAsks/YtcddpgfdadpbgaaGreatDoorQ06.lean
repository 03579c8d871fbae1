/- KWalkG, KWalkH, KWalkK, KWalkI, KWalkJ, KWalkY. -/
import Derived.Test.YtcddpgfdadpbgaaGreatDoorQ05
import Derived.Maps.OwnSet
set_option maxHeartbeats 4000000
set_option maxRecDepth 100000
set_option linter.unusedVariables false
namespace Go.Proofs.YtcddpgfdadpbgaaGreatDoor
open Tryz
open Go.RowKit
variable {w w':World} {b ck:Nat} {es:Array MapEntry} {P:Program}
def fnN:List (List UInt8):=[[],[83,85,77],[80,82,79,68,85,67,84],[67,79,85,78,84],[67,79,85,78,84,65],[77,73,78],[77,65,88],[65,86,69,82,65,71,69],[65,78,68],[79,82],[88,79,82],[67,79,78,67,65,84],[83,85,77,83,81],[71,67,68],[70,73,82,83,84],[76,65,83,84],[],[],[],[],[77,65,84,67,72],[67,79,85,78,84,73,70],[83,85,77,73,70],[76,79,79,75,85,80],[83,85,77,80,82,79,68,85,67,84],[73,78,68,69,88],[82,79,87,83],[67,79,76,85,77,78,83],[],[],[73,70],[73,70,69,82,82,79,82],[67,72,79,79,83,69],[],[],[],[],[],[],[],[65,66,83],[83,73,71,78],[73,78,84],[82,79,85,78,68],[77,79,68],[81,85,79,84,73,69,78,84],[80,79,87,69,82],[78,79,84],[76,69,78],[76,69,70,84],[82,73,71,72,84],[77,73,68],[82,69,80,84],[70,73,78,68],[85,80,80,69,82],[76,79,87,69,82],[84,82,73,77],[86,65,76,85,69],[73,83,78,85,77,66,69,82],[73,83,84,69,88,84],[73,83,66,76,65,78,75],[73,83,69,82,82,79,82],[78,65]]
def nmR:List Value:=fnN.map λl=>.string ⟨l.toArray⟩
def NmAt (w:World):Prop:=w.rangeAt 0 0 nmR
theorem NmAt.below (h:NmAt w) (hb:Below w.heap.size w w'):NmAt w':=λj v hv=>zAC hb (h j v hv)
def zDe (id:Int):List UInt8:=fnN.getD id.toNat []
def zAp (id:Int):Bool:=decide (0<=id) && (decide (id<63) && !(zDe id).isEmpty)
theorem NmAt.cell (h:NmAt w) {id:Int} (h0:0<=id) (h1:id<63):w.cell? ⟨0,id.toNat,none⟩=some (.string ⟨(zDe id).toArray⟩):=by
 have hl:id.toNat<fnN.length:=by show id.toNat<63;omega
 have:=h id.toNat (.string ⟨(zDe id).toArray⟩) (by unfold nmR zDe;rw [List.getElem?_map,List.getElem?_eq_getElem hl,List.getD_eq_getElem?_getD,List.getElem?_eq_getElem hl];rfl);rw [Nat.zero_add] at this;exact this
def zero6:List Value:=sg6 0 0 ⟨#[]⟩ 0 0 ⟨#[]⟩
def zIw (id:Int):List Value:=if zAp id=true then sg6 id (zA5 id).c ⟨(zDe id).toArray⟩ (zA5 id).l (zA5 id).m (zA5 id).p else zero6
theorem zHU (id:Int) (w:World) (hN:NmAt w) (h:id<0):CR 88 #[.int .i64 id] w (.tuple #[.agg zero6.toArray,.bool false]):=by
 have pZ:=AtL.new0 w 130 (sg6 0 0 ⟨#[]⟩ 0 0 ⟨#[]⟩);have hB:=zAJ (Below.refl _ w) (.cells (sg6 0 0 ⟨#[]⟩ 0 0 ⟨#[]⟩).toArray 130);obtain ⟨b0,b1,b2,b3,b4,b5,k0,k1,k2,k3,k4,k5⟩:=at6 pZ;clear pZ hN;go_enter func88,ntmps88;go_upto_region 1 with fail
 generalize (w.alloc (.cells (sg6 0 0 ⟨#[]⟩ 0 0 ⟨#[]⟩).toArray 130))=W at *;go_wp2;refine bodyPost_ret (v:=.tuple #[.agg (sg6 0 0 ⟨#[]⟩ 0 0 ⟨#[]⟩).toArray,.bool false]) (by simp [results,results88,go_sem,b0,b1,b2,b3,b4,b5]) rfl ⟨rfl,(clB hB)⟩
theorem zG3 (id:Int) (w:World) (hN:NmAt w) (h:63<=id):CR 88 #[.int .i64 id] w (.tuple #[.agg zero6.toArray,.bool false]):=by
 have pZ:=AtL.new0 w 130 (sg6 0 0 ⟨#[]⟩ 0 0 ⟨#[]⟩);have hB:=zAJ (Below.refl _ w) (.cells (sg6 0 0 ⟨#[]⟩ 0 0 ⟨#[]⟩).toArray 130);have h0:¬ id<0:=by omega
 obtain ⟨b0,b1,b2,b3,b4,b5,k0,k1,k2,k3,k4,k5⟩:=at6 pZ;clear pZ hN;go_enter func88,ntmps88;go_upto_region 1 with fail
 generalize (w.alloc (.cells (sg6 0 0 ⟨#[]⟩ 0 0 ⟨#[]⟩).toArray 130))=W at *;go_wp2;refine bodyPost_ret (v:=.tuple #[.agg (sg6 0 0 ⟨#[]⟩ 0 0 ⟨#[]⟩).toArray,.bool false]) (by simp [results,results88,go_sem,b0,b1,b2,b3,b4,b5]) rfl ⟨rfl,(clB hB)⟩
theorem zHb (id:Int) (w:World) (hN:NmAt w) (h0:0<=id) (h1:id<63) (he:zDe id=[]):CR 88 #[.int .i64 id] w (.tuple #[.agg zero6.toArray,.bool false]):=by
 have pZ:=AtL.new0 w 130 (sg6 0 0 ⟨#[]⟩ 0 0 ⟨#[]⟩);have hB:=zAJ (Below.refl _ w) (.cells (sg6 0 0 ⟨#[]⟩ 0 0 ⟨#[]⟩).toArray 130);have hc:=(hN.below hB).cell h0 h1;rw [he] at hc;have h0n:¬ id<0:=by omega
 have h1n:¬ 63<=id:=by omega
 clear he;obtain ⟨b0,b1,b2,b3,b4,b5,k0,k1,k2,k3,k4,k5⟩:=at6 pZ;clear pZ hN;go_enter func88,ntmps88;go_upto_region 1 with fail
 generalize (w.alloc (.cells (sg6 0 0 ⟨#[]⟩ 0 0 ⟨#[]⟩).toArray 130))=W at *;go_wp2;refine bodyPost_ret (v:=.tuple #[.agg (sg6 0 0 ⟨#[]⟩ 0 0 ⟨#[]⟩).toArray,.bool false]) (by simp [results,results88,go_sem,b0,b1,b2,b3,b4,b5]) rfl ⟨rfl,(clB hB)⟩
theorem zIL (id c l m:Int) (nm ps:ByteArray):(sg6 id c nm l m ps).toArray.all (·.oneCell')=true:=by simp [Value.oneCell']
theorem zJD (id:Int) (w:World) (hN:NmAt w) (h0:0<=id) (h1:id<63) (he:zDe id ≠ []):CR 88 #[.int .i64 id] w (.tuple #[.agg (sg6 id (zA5 id).c ⟨(zDe id).toArray⟩ (zA5 id).l (zA5 id).m (zA5 id).p).toArray,.bool true]):=by
 have pZ:=AtL.new0 w 130 (sg6 0 0 ⟨#[]⟩ 0 0 ⟨#[]⟩);have hB:=zAJ (Below.refl _ w) (.cells (sg6 0 0 ⟨#[]⟩ 0 0 ⟨#[]⟩).toArray 130);have hN0:=hN.below hB;have hc:=hN0.cell h0 h1;have SH:=λw=>zGP id w
 unfold sh6 at SH;have hq:((zDe id).toArray.toList == ([]:List UInt8))=false:=by
  cases hx:zDe id with
  | nil=>exact absurd hx he
  | cons a t=>rfl
 obtain ⟨nm,hnm⟩:∃ nm:ByteArray,(⟨(zDe id).toArray⟩:ByteArray)=nm:=⟨_,rfl⟩
 have hq2:(nm.toList == [])=false:=by
  rw [<-hnm,ByteArray.toList_eq];exact hq
 rw [hnm] at hc ⊢;have HC:Hid (∀ W,NmAt W->W.cell? ⟨0,id.toNat,none⟩=some (.string nm)):=λW h=>by rw [<-hnm];exact h.cell h0 h1
 have HN0:Hid (NmAt (w.alloc (.cells (sg6 0 0 ⟨#[]⟩ 0 0 ⟨#[]⟩).toArray 130))):=hN0;have HNw:Hid (NmAt w):=hN;have h0n:¬ id<0:=by omega
 have h1n:¬ 63<=id:=by omega
 generalize zA5 id=s at *;clear hN he hq hnm hN0;go_enter func88,ntmps88;go_upto_region 1 with fail
 generalize (w.alloc (.cells (sg6 0 0 ⟨#[]⟩ 0 0 ⟨#[]⟩).toArray 130))=W at *;go_wp2_with fail
 refine (SH _).mono ?_;rintro e w1 ⟨rfl,hb1⟩;have pZ1:=AtL.below hb1 pZ;have hB1:=zAB hB hb1;have HN1:Hid (NmAt w1):=HN0.out.below hb1;have pS:=AtL.new0 w1 130 (sg6 0 0 ⟨#[]⟩ 0 0 ⟨#[]⟩);have pZ2:=pZ1.alloc (.cells (sg6 0 0 ⟨#[]⟩ 0 0 ⟨#[]⟩).toArray 130);have hB2:=zAJ hB1 (.cells (sg6 0 0 ⟨#[]⟩ 0 0 ⟨#[]⟩).toArray 130);have HN2:Hid (NmAt (w1.alloc (.cells (sg6 0 0 ⟨#[]⟩ 0 0 ⟨#[]⟩).toArray 130))):=HN1.out.below (zAJ (Below.refl _ _) _);have hth:World.there (w1.alloc (.cells (sg6 0 0 ⟨#[]⟩ 0 0 ⟨#[]⟩).toArray 130)) w1.heap.size 0 (sg6 0 s.c ⟨#[]⟩ s.l s.m s.p).toArray.size:=pS.there;have hlt:=pZ1.lt;clear SH hc pZ pZ1 hB hB1 HN0 HN1 hb1;go_upto_region 4 with ((with_reducible refine wpList_store_mid ?_ 130 (.tmp 4) (.tmp 19) ?_ (w1.heap.size) 0 (sg6 0 s.c ⟨#[]⟩ s.l s.m s.p).toArray ?_ ?_ ?_ ?_ ?_ ?_);rfl;rfl;rfl;rfl;exact hth;kernel_rfl;exact zIL _ _ _ _ _ _)
 have pS4:AtL ((w1.alloc (.cells (sg6 0 0 ⟨#[]⟩ 0 0 ⟨#[]⟩).toArray 130)).setCells w1.heap.size 0 (sg6 0 s.c ⟨#[]⟩ s.l s.m s.p)) w1.heap.size (sg6 0 s.c ⟨#[]⟩ s.l s.m s.p):=pS.setAll rfl;have pZ4:=pZ2.farAll (b:=w1.heap.size) (by omega) 0 (sg6 0 s.c ⟨#[]⟩ s.l s.m s.p);have hB4:Below w.heap.size w ((w1.alloc (.cells (sg6 0 0 ⟨#[]⟩ 0 0 ⟨#[]⟩).toArray 130)).setCells w1.heap.size 0 (sg6 0 s.c ⟨#[]⟩ s.l s.m s.p)):=zA8 hB2 (by omega) _ 0;have pS5:=AtL.drew pS4;have pZ5:=AtL.drew pZ4;have hB5:=hB4.drew;clear pS pZ2 hB2 HN2 hth pS4 pZ4 hB4;have hc5:=HC.out _ (HNw.out.below hB5);have hne:w1.heap.size ≠ 0:=by omega
 refine wp_region_held_drew (S:=λW=>W.cell? ⟨0,id.toNat,none⟩=some (.string nm)) (by kernel_rfl) hc5 (λhHeld=>?_);generalize (World.setCells (w1.alloc (.cells (sg6 0 0 ⟨#[]⟩ 0 0 ⟨#[]⟩).toArray 130)) w1.heap.size 0 (sg6 0 s.c ⟨#[]⟩ s.l s.m s.p)).drew=WD at *;have s0:=pS5.2.1 0 _ rfl;have f0:=pS5.2.2 0 (by simp);refine tkQ 0 ⟨some 20,.move (.tmp 0),3,"funcs.go:41",#[],none⟩ ?_
 refine tkQ 1 ⟨some 21,.move (.tmp 0),3,"funcs.go:41",#[⟨5,.gcOnly .lateStores⟩],none⟩ ?_
 refine tkQ 2 ⟨some 22,.indexAddr 174 (Operand.global 0) (.tmp 21),0,"funcs.go:41",#[⟨1,.data⟩,⟨5,.gcOnly .lateStores⟩],none⟩ ?_
 refine tkQ 3 ⟨some 23,.load 9 (.tmp 22),9,"funcs.go:41",#[⟨2,.data⟩,⟨5,.gcOnly .lateStores⟩],none⟩ ?_
 refine tkQ 4 ⟨some 24,.fieldAddr 130 (.tmp 4) 0,0,"funcs.go:41",#[⟨0,.phase⟩,⟨1,.textOnly .lateStores⟩,⟨2,.textOnly .lateStores⟩,⟨3,.textOnly .lateStores⟩],none⟩ ?_
 refine rdQ 5 ⟨none,.store 3 (.tmp 24) (.tmp 20),0,"funcs.go:41",#[⟨4,.data⟩,⟨0,.data⟩,⟨0,.phase⟩,⟨1,.textOnly .lateStores⟩,⟨2,.textOnly .lateStores⟩,⟨3,.textOnly .lateStores⟩],none⟩ (λK hK=>?_);go_simp
 refine hkQ hK (by rw [World.cell?_setCell_far _ _ _ _ (by simpa using hne)];exact hc5) (λhHeld=>?_);clear hK K
 have pS6:=pS5.set 0 (.int .i64 id);have pZ6:=pZ5.far (j:=w1.heap.size) (by omega) 0 (.int .i64 id);have hB6:Below w.heap.size w (WD.setCell ⟨w1.heap.size,0,none⟩ (.int .i64 id)):=hB5.setCell (p:=⟨w1.heap.size,0,none⟩) (show w.heap.size<=w1.heap.size by omega) _;have s2:=pS6.2.1 2 _ rfl;have f2:=pS6.2.2 2 (by simp);refine tkQ 6 ⟨some 25,.fieldAddr 130 (.tmp 4) 2,0,"funcs.go:41",#[⟨0,.phase⟩,⟨1,.phase⟩,⟨2,.phase⟩,⟨3,.phase⟩,⟨4,.phase⟩,⟨5,.phase⟩],none⟩ ?_
 refine rdQ 7 ⟨none,.store 9 (.tmp 25) (.tmp 23),0,"funcs.go:41",#[⟨6,.data⟩,⟨3,.data⟩,⟨5,.chain⟩,⟨0,.phase⟩,⟨1,.phase⟩,⟨2,.phase⟩,⟨3,.phase⟩,⟨4,.phase⟩,⟨5,.phase⟩],none⟩ (λK hK=>?_);go_simp
 refine hkQ hK (by rw [World.cell?_setCell_far _ _ _ _ (by simpa using hne)];exact hHeld) (λhHeld=>?_);clear hK K
 refine wpAnyH_done (by kernel_rfl) ?_ _;have pS8:AtL ((WD.setCell ⟨w1.heap.size,0,none⟩ (.int .i64 id)).setCell ⟨w1.heap.size,2,none⟩ (.string nm)) w1.heap.size (sg6 id s.c nm s.l s.m s.p):=pS6.set 2 (.string nm);have pZ8:=pZ6.far (j:=w1.heap.size) (by omega) 2 (.string nm);have hB8:Below w.heap.size w ((WD.setCell ⟨w1.heap.size,0,none⟩ (.int .i64 id)).setCell ⟨w1.heap.size,2,none⟩ (.string nm)):=hB6.setCell (p:=⟨w1.heap.size,2,none⟩) (show w.heap.size<=w1.heap.size by omega) _;clear pS5 pZ5 hB5 hc5 hHeld pS6 pZ6 hB6 s0 f0 s2 f2;generalize (WD.setCell ⟨w1.heap.size,0,none⟩ (.int .i64 id)).setCell ⟨w1.heap.size,2,none⟩ (.string nm)=W8 at *;have rS:=pS8.range;have hth:W8.there w.heap.size 0 (sg6 id s.c nm s.l s.m s.p).toArray.size:=pZ8.there;go_wp2_with (first
  | ((with_reducible refine wpList_load_mid (cs:=sg6 id s.c nm s.l s.m s.p) ?_ 130 (.tmp 4) ?_ (w1.heap.size) 0 ?_ _ ?_ underlying130 ?_ ?_ ?_);rfl;rfl;rfl;exact rS;rfl;kernel_rfl)
  | ((with_reducible refine wpList_store_mid ?_ 130 (.tmp 2) (.tmp 26) ?_ (w.heap.size) 0 (sg6 id s.c nm s.l s.m s.p).toArray ?_ ?_ ?_ ?_ ?_ ?_);rfl;rfl;rfl;rfl;exact hth;kernel_rfl;exact zIL _ _ _ _ _ _))
 have pZ9:AtL (W8.setCells w.heap.size 0 (sg6 id s.c nm s.l s.m s.p)) w.heap.size (sg6 id s.c nm s.l s.m s.p):=pZ8.setAll rfl;have hB9:Below w.heap.size w (W8.setCells w.heap.size 0 (sg6 id s.c nm s.l s.m s.p)):=zA8 hB8 (Nat.le_refl _) _ 0;obtain ⟨b0,b1,b2,b3,b4,b5,k0,k1,k2,k3,k4,k5⟩:=at6 pZ9;refine bodyPost_ret (v:=.tuple #[.agg (sg6 id s.c nm s.l s.m s.p).toArray,.bool true]) (by simp [results,results88,go_sem,b0,b1,b2,b3,b4,b5]) rfl ⟨rfl,hB9⟩
theorem zHC (id:Int) (w:World) (hN:NmAt w):CR 88 #[.int .i64 id] w (.tuple #[.agg (zIw id).toArray,.bool (zAp id)]):=by
 unfold zIw;by_cases h0:id<0
 ·have e:zAp id=false:=by unfold zAp;rw [decide_eq_false (by omega)];rfl
  rw [e];exact zHU id w hN h0
 by_cases h1:63<=id
 ·have e:zAp id=false:=by unfold zAp;rw [decide_eq_false (p:=id<63) (by omega),Bool.false_and,Bool.and_false]
  rw [e];exact zG3 id w hN h1
 by_cases he:zDe id=[]
 ·have e:zAp id=false:=by unfold zAp;rw [he];simp
  rw [e];exact zHb id w hN (by omega) (by omega) he
 ·have e:zAp id=true:=by
   unfold zAp;rw [decide_eq_true (by omega),decide_eq_true (by omega)];cases hx:zDe id with
   | nil=>exact absurd hx he
   | cons a t=>rfl
  rw [e,if_pos rfl];exact zJD id w hN (by omega) (by omega) he
def apl (id n:Int):Bool:=zAp id && ((zA5 id).c == 4 && (decide ((zA5 id).l<=n) && decide (n<=(zA5 id).m)))
theorem zDP (id n:Int) (w:World) (hN:NmAt w):CR 58 #[.int .i64 id,.int .i64 n] w (.bool (apl id n)):=by
 have BY:=zHC id w hN;unfold zIw at BY;unfold apl;cases hk:zAp id with
 | false =>
  rw [hk,if_neg (by simp)] at BY;unfold zero6 at BY;clear hk hN;go_enter func58,ntmps58;go_wp2_with fail
  refine BY.mono ?_;rintro e w1 ⟨rfl,hb1⟩;have pZ:=AtL.new0 w1 130 (sg6 0 0 ⟨#[]⟩ 0 0 ⟨#[]⟩);have hB1:=zAJ hb1 (.cells (sg6 0 0 ⟨#[]⟩ 0 0 ⟨#[]⟩).toArray 130);obtain ⟨b0,b1,b2,b3,b4,b5,k0,k1,k2,k3,k4,k5⟩:=at6 pZ;clear BY;go_wp2;go_ret;exact ⟨by simp,(clB hb1)⟩
 | true =>
  rw [hk,if_pos rfl] at BY;clear hk hN;generalize zA5 id=s at *;generalize (⟨(zDe id).toArray⟩:ByteArray)=nm at *;cases h4:(s.c == 4) with
  | false =>
   go_enter func58,ntmps58;go_wp2_with fail
   refine BY.mono ?_;rintro e w1 ⟨rfl,hb1⟩;have pZ:=AtL.new0 w1 130 (sg6 0 0 ⟨#[]⟩ 0 0 ⟨#[]⟩);have hB1:=zAJ hb1 (.cells (sg6 0 0 ⟨#[]⟩ 0 0 ⟨#[]⟩).toArray 130);have hth:World.there (w1.alloc (.cells (sg6 0 0 ⟨#[]⟩ 0 0 ⟨#[]⟩).toArray 130)) w1.heap.size 0 (sg6 id s.c nm s.l s.m s.p).toArray.size:=pZ.there;clear BY;go_upto_region 2 with ((with_reducible refine wpList_store_mid ?_ 130 (.tmp 5) (.tmp 10) ?_ (w1.heap.size) 0 (sg6 id s.c nm s.l s.m s.p).toArray ?_ ?_ ?_ ?_ ?_ ?_);rfl;rfl;rfl;rfl;exact hth;kernel_rfl;exact zIL _ _ _ _ _ _)
   have pZ9:AtL ((w1.alloc (.cells (sg6 0 0 ⟨#[]⟩ 0 0 ⟨#[]⟩).toArray 130)).setCells w1.heap.size 0 (sg6 id s.c nm s.l s.m s.p)) w1.heap.size (sg6 id s.c nm s.l s.m s.p):=pZ.setAll rfl;have hB9:Below w.heap.size w ((w1.alloc (.cells (sg6 0 0 ⟨#[]⟩ 0 0 ⟨#[]⟩).toArray 130)).setCells w1.heap.size 0 (sg6 id s.c nm s.l s.m s.p)):=zA8 hB1 hb1.size _ 0;generalize World.setCells (w1.alloc (.cells (sg6 0 0 ⟨#[]⟩ 0 0 ⟨#[]⟩).toArray 130)) w1.heap.size 0 (sg6 id s.c nm s.l s.m s.p)=W9 at *;obtain ⟨b0,b1,b2,b3,b4,b5,k0,k1,k2,k3,k4,k5⟩:=at6 pZ9;go_wp2;go_ret;exact ⟨by simp,hB9⟩
  | true =>
   by_cases hl:s.l<=n
   ·by_cases hm:n<=s.m
    ·go_enter func58,ntmps58;go_wp2_with fail
     refine BY.mono ?_;rintro e w1 ⟨rfl,hb1⟩;have pZ:=AtL.new0 w1 130 (sg6 0 0 ⟨#[]⟩ 0 0 ⟨#[]⟩);have hB1:=zAJ hb1 (.cells (sg6 0 0 ⟨#[]⟩ 0 0 ⟨#[]⟩).toArray 130);have hth:World.there (w1.alloc (.cells (sg6 0 0 ⟨#[]⟩ 0 0 ⟨#[]⟩).toArray 130)) w1.heap.size 0 (sg6 id s.c nm s.l s.m s.p).toArray.size:=pZ.there;clear BY;go_upto_region 2 with ((with_reducible refine wpList_store_mid ?_ 130 (.tmp 5) (.tmp 10) ?_ (w1.heap.size) 0 (sg6 id s.c nm s.l s.m s.p).toArray ?_ ?_ ?_ ?_ ?_ ?_);rfl;rfl;rfl;rfl;exact hth;kernel_rfl;exact zIL _ _ _ _ _ _)
     have pZ9:AtL ((w1.alloc (.cells (sg6 0 0 ⟨#[]⟩ 0 0 ⟨#[]⟩).toArray 130)).setCells w1.heap.size 0 (sg6 id s.c nm s.l s.m s.p)) w1.heap.size (sg6 id s.c nm s.l s.m s.p):=pZ.setAll rfl;have hB9:Below w.heap.size w ((w1.alloc (.cells (sg6 0 0 ⟨#[]⟩ 0 0 ⟨#[]⟩).toArray 130)).setCells w1.heap.size 0 (sg6 id s.c nm s.l s.m s.p)):=zA8 hB1 hb1.size _ 0;generalize World.setCells (w1.alloc (.cells (sg6 0 0 ⟨#[]⟩ 0 0 ⟨#[]⟩).toArray 130)) w1.heap.size 0 (sg6 id s.c nm s.l s.m s.p)=W9 at *;obtain ⟨b0,b1,b2,b3,b4,b5,k0,k1,k2,k3,k4,k5⟩:=at6 pZ9;go_wp2;go_ret;exact ⟨by simp [hl,hm],hB9⟩
    ·go_enter func58,ntmps58;go_wp2_with fail
     refine BY.mono ?_;rintro e w1 ⟨rfl,hb1⟩;have pZ:=AtL.new0 w1 130 (sg6 0 0 ⟨#[]⟩ 0 0 ⟨#[]⟩);have hB1:=zAJ hb1 (.cells (sg6 0 0 ⟨#[]⟩ 0 0 ⟨#[]⟩).toArray 130);have hth:World.there (w1.alloc (.cells (sg6 0 0 ⟨#[]⟩ 0 0 ⟨#[]⟩).toArray 130)) w1.heap.size 0 (sg6 id s.c nm s.l s.m s.p).toArray.size:=pZ.there;clear BY;go_upto_region 2 with ((with_reducible refine wpList_store_mid ?_ 130 (.tmp 5) (.tmp 10) ?_ (w1.heap.size) 0 (sg6 id s.c nm s.l s.m s.p).toArray ?_ ?_ ?_ ?_ ?_ ?_);rfl;rfl;rfl;rfl;exact hth;kernel_rfl;exact zIL _ _ _ _ _ _)
     have pZ9:AtL ((w1.alloc (.cells (sg6 0 0 ⟨#[]⟩ 0 0 ⟨#[]⟩).toArray 130)).setCells w1.heap.size 0 (sg6 id s.c nm s.l s.m s.p)) w1.heap.size (sg6 id s.c nm s.l s.m s.p):=pZ.setAll rfl;have hB9:Below w.heap.size w ((w1.alloc (.cells (sg6 0 0 ⟨#[]⟩ 0 0 ⟨#[]⟩).toArray 130)).setCells w1.heap.size 0 (sg6 id s.c nm s.l s.m s.p)):=zA8 hB1 hb1.size _ 0;generalize World.setCells (w1.alloc (.cells (sg6 0 0 ⟨#[]⟩ 0 0 ⟨#[]⟩).toArray 130)) w1.heap.size 0 (sg6 id s.c nm s.l s.m s.p)=W9 at *;obtain ⟨b0,b1,b2,b3,b4,b5,k0,k1,k2,k3,k4,k5⟩:=at6 pZ9;go_wp2;go_ret;exact ⟨by simp [hl],hB9⟩
   ·go_enter func58,ntmps58;go_wp2_with fail
    refine BY.mono ?_;rintro e w1 ⟨rfl,hb1⟩;have pZ:=AtL.new0 w1 130 (sg6 0 0 ⟨#[]⟩ 0 0 ⟨#[]⟩);have hB1:=zAJ hb1 (.cells (sg6 0 0 ⟨#[]⟩ 0 0 ⟨#[]⟩).toArray 130);have hth:World.there (w1.alloc (.cells (sg6 0 0 ⟨#[]⟩ 0 0 ⟨#[]⟩).toArray 130)) w1.heap.size 0 (sg6 id s.c nm s.l s.m s.p).toArray.size:=pZ.there;clear BY;go_upto_region 2 with ((with_reducible refine wpList_store_mid ?_ 130 (.tmp 5) (.tmp 10) ?_ (w1.heap.size) 0 (sg6 id s.c nm s.l s.m s.p).toArray ?_ ?_ ?_ ?_ ?_ ?_);rfl;rfl;rfl;rfl;exact hth;kernel_rfl;exact zIL _ _ _ _ _ _)
    have pZ9:AtL ((w1.alloc (.cells (sg6 0 0 ⟨#[]⟩ 0 0 ⟨#[]⟩).toArray 130)).setCells w1.heap.size 0 (sg6 id s.c nm s.l s.m s.p)) w1.heap.size (sg6 id s.c nm s.l s.m s.p):=pZ.setAll rfl;have hB9:Below w.heap.size w ((w1.alloc (.cells (sg6 0 0 ⟨#[]⟩ 0 0 ⟨#[]⟩).toArray 130)).setCells w1.heap.size 0 (sg6 id s.c nm s.l s.m s.p)):=zA8 hB1 hb1.size _ 0;generalize World.setCells (w1.alloc (.cells (sg6 0 0 ⟨#[]⟩ 0 0 ⟨#[]⟩).toArray 130)) w1.heap.size 0 (sg6 id s.c nm s.l s.m s.p)=W9 at *;obtain ⟨b0,b1,b2,b3,b4,b5,k0,k1,k2,k3,k4,k5⟩:=at6 pZ9;go_wp2;go_ret;exact ⟨by simp;omega,hB9⟩
def FoldL (w:World) (b o:Nat) (F:List (Int × Int)):Prop:=∃ av cap,w.cell? ⟨b,o,none⟩=some (.slice av F.length cap)/\∀ i (h:i<F.length),∃ bb off,av=some ⟨bb,off,none⟩/\w.cell? ⟨bb,off+i * 2,none⟩=some (.int .i64 (F[i]).1)/\w.cell? ⟨bb,off+i * 2+1,none⟩=some (.int .i64 (F[i]).2)
theorem FoldL.below {o:Nat} {F:List (Int × Int)} (h:FoldL w b o F) (hb:Below w.heap.size w w'):FoldL w' b o F:=by
 obtain ⟨av,cap,h1,h2⟩:=h;refine ⟨av,cap,zAC hb h1,λi hi=>?_⟩;obtain ⟨bb,off,e,h3,h4⟩:=h2 i hi;exact ⟨bb,off,e,zAC hb h3,zAC hb h4⟩
theorem zEo (b o:Nat) (w:World):CR 95 #[.pointer (some ⟨b,o,none⟩),.int .i64 0] w (.tuple #[.agg #[.int .i64 0,.int .i64 0],.bool false]):=by
 have pZ:=AtL.new0 w 151 [.int .i64 0,.int .i64 0];have hB:=zAJ (Below.refl _ w) (.cells #[.int .i64 0,.int .i64 0] 151);obtain ⟨b0,b1,k0,k1⟩:=pZ.two;clear pZ;go_enter func95,ntmps95;go_upto_region 1 with fail
 generalize (w.alloc (.cells #[.int .i64 0,.int .i64 0] 151))=W at *;go_wp2;refine bodyPost_ret (v:=.tuple #[.agg #[.int .i64 0,.int .i64 0],.bool false]) (by simp [results,results95,go_sem,b0,b1]) rfl ⟨rfl,(clB hB)⟩
theorem zHc (b o:Nat) (F:List (Int × Int)) (i:Nat) (w:World) (hF:FoldL w b o F) (hi:i<F.length) (hl:F.length<=1000000):CR 95 #[.pointer (some ⟨b,o,none⟩),.int .i64 ((i:Int)+1)] w (.tuple #[.agg #[.int .i64 (F[i]).1,.int .i64 (F[i]).2],.bool true]):=by
 have pZ:=AtL.new0 w 151 [.int .i64 0,.int .i64 0];have hB:=zAJ (Below.refl _ w) (.cells #[.int .i64 0,.int .i64 0] 151);obtain ⟨av,cap,h1,h2⟩:=hF.below hB;obtain ⟨bb,off,rfl,h3,h4⟩:=h2 i hi;obtain ⟨b0,b1,k0,k1⟩:=pZ.two;have n0:((i:Int)+1 == 0)=false:=by simp;omega
 have w1:IntKind.i64.wrap ((i:Int)+1 - 1)=(i:Int):=by rw [IntKind.wrap_i64];omega
 have w2:IntKind.i64.wrap (i:Int)=(i:Int):=by rw [IntKind.wrap_i64];omega
 have l0:(0:Int)<=(i:Int):=by omega
 have l1:(i:Int)<(F.length:Int):=by omega
 generalize (F[i]).1=x at *;generalize (F[i]).2=y at *;clear pZ h2 hF hi hl;go_enter func95,ntmps95;go_upto_region 1 with fail
 generalize (w.alloc (.cells #[.int .i64 0,.int .i64 0] 151))=W at *;go_wp2;refine bodyPost_ret (v:=.tuple #[.agg #[.int .i64 x,.int .i64 y],.bool true]) (by simp [results,results95,go_sem,b0,b1]) rfl ⟨rfl,(clB hB)⟩
def fld (id:Int):Bool:=decide ((1<=id/\id<=15) \/ (20<=id/\id<=24))
theorem zBP (id:Int) (w:World):Calls prog 101 #[.int .i64 id] w λe w'=>e=.returned (.bool (fld id))/\w=w':=by
 have HF:∀ b,fld id=b->Hid (fld id=b):=λ_ h=>h
 by_cases h1:1<=id
 ·have d1:decide (1<=id)=true:=decide_eq_true h1;by_cases h2:id<=15
  ·have e:=HF true (by unfold fld;rw [decide_eq_true_iff];omega);rw [e.out];clear HF e;go_enter func101,ntmps101;go_wp2;go_ret;exact ⟨by simp,rfl⟩
  ·by_cases h3:20<=id
   ·by_cases h4:id<=24
    ·have e:=HF true (by unfold fld;rw [decide_eq_true_iff];omega);rw [e.out];clear HF e;go_enter func101,ntmps101;go_wp2;go_ret;exact ⟨by simp,rfl⟩
    ·have e:=HF false (by unfold fld;rw [decide_eq_false_iff_not];omega);rw [e.out];clear HF e;go_enter func101,ntmps101;go_wp2;go_ret;exact ⟨by simp,rfl⟩
   ·have e:=HF false (by unfold fld;rw [decide_eq_false_iff_not];omega);rw [e.out];clear HF e;go_enter func101,ntmps101;go_wp2;go_ret;exact ⟨by simp,rfl⟩
 ·have e:=HF false (by unfold fld;rw [decide_eq_false_iff_not];omega);have h3:¬ 20<=id:=by omega
  rw [e.out];clear HF e;go_enter func101,ntmps101;go_wp2;go_ret;exact ⟨by simp,rfl⟩
theorem zHR (id:Int) (w:World) (h:fld id=false):Calls prog 70 #[.int .i64 id] w λe w'=>(∃ v,e=.returned (.tuple #[v,.int .i64 1]))/\Below w.heap.size w w':=by
 have F:=zBP id w;rw [h] at F;clear h;go_enter func70,ntmps70;go_wp2_with fail
 refine F.mono ?_;rintro e w1 ⟨rfl,rfl⟩;go_wp2;go_ret2
 exact ⟨⟨_,rfl⟩,Below.refl _ _⟩
def zAF (id n k:Int):List Value:=[.int .i64 id,.int .i64 0,.int .i64 n,.int .i64 1,.int .i64 k,.int .i64 0,.int .i64 0,.string ⟨#[]⟩,.bool false,.int .i64 0,.int .i64 0,.int .i64 0,.int .i64 0,.string ⟨#[]⟩,.bool false,.int .i64 0,.bool false,.bool false,.bool false,.int .i64 0,.int .i64 0]
theorem zAe (id n k:Int):(zAF id n k).toArray.all (·.oneCell')=true:=by
 apply all_oneCell_toArray
 intro v hv;simp only [zAF,List.mem_cons,List.not_mem_nil,or_false] at hv;rcases hv with rfl | rfl | rfl | rfl | rfl | rfl | rfl | rfl | rfl | rfl | rfl | rfl | rfl | rfl | rfl | rfl | rfl | rfl | rfl | rfl | rfl <;> rfl
open Go.ChangeMaps (setBlock heap_setBlock_same heap_setBlock_other)
open Go.ChangeShapes Go.WideShapes Go.MapKept
theorem zBh (hb:w.heap[b]? = some (.map es ck)) (o:Obj):w.grownBy (setBlock w b o) (some b) :=
 ⟨rfl,rfl,rfl,by simp [setBlock],λi _ hi=>heap_setBlock_other hb _ (λe=>hi (by rw [e]))⟩
theorem zD5 {t k e:TypeId} (ht:P.underlying t=some (.map k e)) (hb:w.heap[b]? = some (.map es ck)) {key:Value} (val:Value)
  (hc:(Instr.checkKey false 10000 k key).run P w=.ok () w) (hf:(Instr.findKey k key es.toList).run P w=.ok none w) :
  (Instr.mapUpdate t (.map (some b)) key val).run P w=.ok () (setBlock w b (.map (es.push ⟨key,val,ck⟩) (ck+1))):=by
 simp [Instr.mapUpdate,run_underlying ht,MapKept.run_getObj_map hb,hc,hf,MapKept.run_setObj_map _ hb,Result.andThen,setBlock]
theorem zAU {t k e:TypeId} (ht:P.underlying t=some (.map k e)) (hb:w.heap[b]? = some (.map es ck)) {key v:Value} {j:Nat}
  (hc:(Instr.checkKey es.isEmpty 10000 k key).run P w=.ok () w) (hf:(Instr.findKey k key es.toList).run P w=.ok (some (j,v)) w) :
  (Instr.lookup t (.map (some b)) key true).run P w=.ok (.tuple #[v,.bool true]) w:=by
 simp [Instr.lookup,run_underlying ht,MapKept.run_getObj_map hb,hc,hf,Result.andThen]
theorem zBl {t k e:TypeId} (ht:P.underlying t=some (.map k e)) (hb:w.heap[b]? = some (.map es ck)) {key z:Value}
  (hc:(Instr.checkKey es.isEmpty 10000 k key).run P w=.ok () w) (hf:(Instr.findKey k key es.toList).run P w=.ok none w) (hz:(zeroValue e).run P w=.ok z w) :
  (Instr.lookup t (.map (some b)) key true).run P w=.ok (.tuple #[z,.bool false]) w:=by
 simp [Instr.lookup,run_underlying ht,MapKept.run_getObj_map hb,hc,hf,hz,Result.andThen]
def zIc:List (Int × Nat)->Array MapEntry
 | []=>#[]
 | (k,f)::r=>(zIc r).push ⟨.int .i64 k,.func (.func f) #[] #[],r.length⟩
def KM (w:World) (b:Nat) (l:List (Int × Nat)):Prop:=w.heap[b]? = some (.map (zIc l) l.length)
theorem zB7 (k:Int):∀ (l:List MapEntry) (i:Nat),(∀ e ∈ l,∃ j,e.key=.int .i64 j/\j ≠ k)->Instr.findNow (.int .i64) (.int .i64 k) l i=some none
 | [],_,_=>rfl
 | e::r,i,h=>by
  obtain ⟨j,hj,hne⟩:=h e (List.mem_cons_self ..);have hs:Instr.sameNow (.int .i64) (.int .i64 k) e.key=some false:=by
   rw [hj];simp [Instr.sameNow];omega
  simp only [Instr.findNow,hs];exact zB7 k r (i+1) λe he=>h e (List.mem_cons_of_mem _ he)
theorem zCf (k:Int):∀ l:List (Int × Nat),(∀ p ∈ l,p.1 ≠ k)->∀ e ∈ (zIc l).toList,∃ j,e.key=.int .i64 j/\j ≠ k
 | [],_,e,he=>by simp [zIc] at he
 | (q,f)::r,h,e,he=>by
  simp only [zIc,Array.toList_push,List.mem_append,List.mem_singleton] at he;rcases he with he | rfl
  ·exact zCf k r (λp hp=>h p (List.mem_cons_of_mem _ hp)) e he
  ·exact ⟨q,rfl,h (q,f) (List.mem_cons_self ..)⟩
theorem zBo (em:Bool) (k:Int) (w:World):(Instr.checkKey em 10000 3 (.int .i64 k)).run prog w=.ok () w:=by kernel_rfl
theorem zEm (l:List (Int × Nat)) (k:Int) (h:∀ p ∈ l,p.1 ≠ k) (w:World):(Instr.findKey 3 (.int .i64 k) (zIc l).toList).run prog w=.ok none w:=by
 have h1:=zB7 k (zIc l).toList 0 (zCf k l h);simp [Instr.findKey,go_sem,h1]
theorem zBp:prog.underlying 202=some (.map 3 200):=by kernel_rfl
theorem zDS {ops:Array Oper} {rest:List Oper} {op:Oper} {a:Act} {Q:Exit->Act->World->Prop} (hgd:op.guard=none) (m x v:Operand) (ho:op.op=.insert 202 m x v) (b:Nat) (hm:a.eval m=.map (some b)) (k:Int) (hx:a.eval x=.int .i64 k) (f:Nat) (hv:a.eval v=.func (.func f) #[] #[])
  (r:List (Int × Nat)) (h:KM w b r) (hn:∀ p ∈ r,p.1 ≠ k)
  (hK:∀ w',KM w' b ((k,f)::r)->w.grownBy w' (some b)->wpList prog ops Q rest (a.put op.dst undef) w'):wpList prog ops Q (op::rest) a w:=by
 refine wpList_plain hgd λK' hK'=>?_
 have hrun:=zD5 zBp h (.func (.func f) #[] #[]) (zBo false k w) (zEm r k hn w);unfold Oper.wp;simp [execOp,ho,hm,hx,hv,hrun,Result.andThen];exact hK' _ _ (hK _ (heap_setBlock_same h _) (zBh h _))
def kT:List (Int × Nat):=[(24,169),(23,168),(22,167),(21,166),(20,165),(15,164),(14,163),(13,162),(12,161),(11,160),(10,159),(9,158),(8,157),(7,156),(6,155),(5,154),(4,153),(3,152),(2,151),(1,150)]
theorem zAR (w:World):Calls prog 145 #[] w λe w'=>(∃ b,e=.returned (.map (some b))/\KM w' b kT)/\Below w.heap.size w w':=by
 have hM:KM (w.alloc (.map #[] 0)) w.heap.size []:=by
  show (w.alloc (.map #[] 0)).heap[w.heap.size]? = some (.map #[] 0)
  exact Array.getElem?_push_size
 have hB:=zAJ (Below.refl _ w) (.map #[] 0);have hmk:∀ w:World,(Instr.makeMap 202 none).run prog w=.ok (.map (some w.heap.size)) (w.alloc (.map #[] 0)):=λw=>by kernel_rfl
 go_enter func145,ntmps145;go_upto_region 1 with fail
 go_wp2_with (refine zDS rfl _ _ _ rfl w.heap.size rfl _ rfl _ rfl _ hM (by decide) ?_;clear hM;intro wn hM gn;replace hB:=hB.grown gn hB.size (λk e=>by cases e;exact Nat.le_refl _);clear gn)
 go_ret;exact ⟨⟨_,rfl,hM⟩,hB⟩
