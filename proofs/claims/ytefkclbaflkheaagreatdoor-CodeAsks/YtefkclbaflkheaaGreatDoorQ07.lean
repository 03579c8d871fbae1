/- KWalkF, KWalkG, KWalkP, KWalkQ. -/
import Derived.Test.YtefkclbaflkheaaGreatDoorQ06
set_option maxHeartbeats 4000000
set_option maxRecDepth 100000
namespace Go.Proofs.YtefkclbaflkheaaGreatDoor
open Tryz
open Go.RowKit
set_option linter.unusedVariables false
variable {w:World}
structure Sh where
 c:Int
 l:Int
 m:Int
 p:ByteArray
def sh6 (s:Sh):List Value:=sg6 0 s.c ⟨#[]⟩ s.l s.m s.p
def zHI (id:Int):Sh:=if id=30 then ⟨3,2,3,⟨#[118]⟩⟩ else if id=31 then ⟨3,2,2,⟨#[118]⟩⟩ else ⟨3,2,30,⟨#[118]⟩⟩
def zGz (id:Int):Sh:=if id=20 then ⟨2,2,2,⟨#[118,97]⟩⟩ else if id=21 then ⟨2,2,2,⟨#[97,118]⟩⟩ else if id=22 then ⟨2,2,3,⟨#[97,118,97]⟩⟩ else if id=23 then ⟨2,3,3,⟨#[118,97,97]⟩⟩ else if id=24 then ⟨2,2,2,⟨#[97]⟩⟩ else if id=25 then ⟨2,2,3,⟨#[97,118]⟩⟩ else ⟨2,1,1,⟨#[97]⟩⟩
def zF6 (id:Int):Sh:=if id=62 then ⟨4,0,0,⟨#[118]⟩⟩ else if id=43 \/ id=49 \/ id=50 then ⟨4,1,2,⟨#[118]⟩⟩ else if id=44 \/ id=45 \/ id=46 \/ id=52 \/ id=53 then ⟨4,2,2,⟨#[118]⟩⟩ else if id=51 then ⟨4,3,3,⟨#[118]⟩⟩ else ⟨4,1,1,⟨#[118]⟩⟩
def zA7 (id:Int):Sh:=if id<=15 then ⟨1,1,30,⟨#[120]⟩⟩ else if id<=27 then zGz id else if id<=32 then zHI id else zF6 id
theorem zIa (id:Int):zE7 id=sh6 (zHI id):=by
 unfold zE7 zHI;split
 ·rfl
 ·split <;> rfl
theorem zH3 (id:Int):zER id=sh6 (zGz id):=by
 unfold zER zGz;repeat (split;rfl)
 rfl
theorem zI3 (id:Int):zEN id=sh6 (zF6 id):=by
 unfold zEN zF6;repeat (split;rfl)
 rfl
theorem zGq (id:Int) (w:World):CR 154 #[.int .i64 id] w (.agg (sh6 (zA7 id)).toArray):=by
 have pZ:=AtL.new0 w 108 (sg6 0 0 ⟨#[]⟩ 0 0 ⟨#[]⟩);have hB:=zAK (Below.refl _ w) (.cells (sg6 0 0 ⟨#[]⟩ 0 0 ⟨#[]⟩).toArray 108);have AK:=λw=>zAY 1 1 30 ⟨#[120]⟩ w
 have SK:=λw=>zFq id w
 have LK:=λw=>zG7 id w
 have CK:=λw=>zFf id w
 rw [zH3] at SK;rw [zIa] at LK;rw [zI3] at CK;unfold zA7;by_cases h1:id<=15
 ·rw [if_pos h1];clear SK LK CK;go_enter func154,ntmps154;go_wp2_with fail
  refine (AK _).mono ?_;rintro e w1 ⟨rfl,hb1⟩;obtain ⟨b0,b1,b2,b3,b4,b5,k0,k1,k2,k3,k4,k5⟩:=at6 (AtL.below hb1 pZ);have hB1:=zAB hB hb1;go_wp2;refine bodyPost_ret (v:=.agg (sg6 0 1 ⟨#[]⟩ 1 30 ⟨#[120]⟩).toArray) (by simp [results,results154,go_sem,b0,b1,b2,b3,b4,b5]) rfl ⟨rfl,(clB hB1)⟩
 rw [if_neg h1];by_cases h2:id<=27
 ·rw [if_pos h2];clear AK LK CK;generalize zGz id=s at *;unfold sh6 at *;go_enter func154,ntmps154;go_wp2_with fail
  refine (SK _).mono ?_;rintro e w1 ⟨rfl,hb1⟩;obtain ⟨b0,b1,b2,b3,b4,b5,k0,k1,k2,k3,k4,k5⟩:=at6 (AtL.below hb1 pZ);have hB1:=zAB hB hb1;go_wp2;refine bodyPost_ret (v:=.agg (sg6 0 s.c ⟨#[]⟩ s.l s.m s.p).toArray) (by simp [results,results154,go_sem,b0,b1,b2,b3,b4,b5]) rfl ⟨rfl,(clB hB1)⟩
 rw [if_neg h2];by_cases h3:id<=32
 ·rw [if_pos h3];clear AK SK CK;generalize zHI id=s at *;unfold sh6 at *;go_enter func154,ntmps154;go_wp2_with fail
  refine (LK _).mono ?_;rintro e w1 ⟨rfl,hb1⟩;obtain ⟨b0,b1,b2,b3,b4,b5,k0,k1,k2,k3,k4,k5⟩:=at6 (AtL.below hb1 pZ);have hB1:=zAB hB hb1;go_wp2;refine bodyPost_ret (v:=.agg (sg6 0 s.c ⟨#[]⟩ s.l s.m s.p).toArray) (by simp [results,results154,go_sem,b0,b1,b2,b3,b4,b5]) rfl ⟨rfl,(clB hB1)⟩
 rw [if_neg h3];clear AK SK LK;generalize zF6 id=s at *;unfold sh6 at *;go_enter func154,ntmps154;go_wp2_with fail
 refine (CK _).mono ?_;rintro e w1 ⟨rfl,hb1⟩;obtain ⟨b0,b1,b2,b3,b4,b5,k0,k1,k2,k3,k4,k5⟩:=at6 (AtL.below hb1 pZ);have hB1:=zAB hB hb1;go_wp2;refine bodyPost_ret (v:=.agg (sg6 0 s.c ⟨#[]⟩ s.l s.m s.p).toArray) (by simp [results,results154,go_sem,b0,b1,b2,b3,b4,b5]) rfl ⟨rfl,(clB hB1)⟩
def fnN:List (List UInt8):=[[],[83,85,77],[80,82,79,68,85,67,84],[67,79,85,78,84],[67,79,85,78,84,65],[77,73,78],[77,65,88],[65,86,69,82,65,71,69],[65,78,68],[79,82],[88,79,82],[67,79,78,67,65,84],[83,85,77,83,81],[71,67,68],[70,73,82,83,84],[76,65,83,84],[],[],[],[],[77,65,84,67,72],[67,79,85,78,84,73,70],[83,85,77,73,70],[76,79,79,75,85,80],[83,85,77,80,82,79,68,85,67,84],[73,78,68,69,88],[82,79,87,83],[67,79,76,85,77,78,83],[],[],[73,70],[73,70,69,82,82,79,82],[67,72,79,79,83,69],[],[],[],[],[],[],[],[65,66,83],[83,73,71,78],[73,78,84],[82,79,85,78,68],[77,79,68],[81,85,79,84,73,69,78,84],[80,79,87,69,82],[78,79,84],[76,69,78],[76,69,70,84],[82,73,71,72,84],[77,73,68],[82,69,80,84],[70,73,78,68],[85,80,80,69,82],[76,79,87,69,82],[84,82,73,77],[86,65,76,85,69],[73,83,78,85,77,66,69,82],[73,83,84,69,88,84],[73,83,66,76,65,78,75],[73,83,69,82,82,79,82],[78,65]]
def nmR:List Value:=fnN.map λl=>.string ⟨l.toArray⟩
def NmAt (w:World):Prop:=w.rangeAt 0 0 nmR
theorem NmAt.below {w':World} (h:NmAt w) (hb:Below w.heap.size w w'):NmAt w':=λj v hv=>zAC hb (h j v hv)
def zEH (id:Int):List UInt8:=fnN.getD id.toNat []
def zAt (id:Int):Bool:=decide (0<=id) && (decide (id<63) && !(zEH id).isEmpty)
theorem zM7 (h:NmAt w):0<w.heap.size:=by
 have hc:w.cell? ⟨0,0+0,none⟩=_:=h 0 _ rfl;rcases Nat.lt_or_ge 0 w.heap.size with g | g
 ·exact g
 ·unfold World.cell? at hc;simp only [Array.getElem?_eq_none g] at hc;cases hc
theorem NmAt.cell (h:NmAt w) {id:Int} (h0:0<=id) (h1:id<63):w.cell? ⟨0,id.toNat,none⟩=some (.string ⟨(zEH id).toArray⟩):=by
 have hl:id.toNat<fnN.length:=by show id.toNat<63;omega
 have:=h id.toNat (.string ⟨(zEH id).toArray⟩) (by unfold nmR zEH;rw [List.getElem?_map,List.getElem?_eq_getElem hl,List.getD_eq_getElem?_getD,List.getElem?_eq_getElem hl];rfl);rw [Nat.zero_add] at this;exact this
def zero6:List Value:=sg6 0 0 ⟨#[]⟩ 0 0 ⟨#[]⟩
def zKy (id:Int):List Value:=if zAt id=true then sg6 id (zA7 id).c ⟨(zEH id).toArray⟩ (zA7 id).l (zA7 id).m (zA7 id).p else zero6
theorem zIR (id:Int) (w:World) (hN:NmAt w) (h:id<0):CR 118 #[.int .i64 id] w (.tuple #[.agg zero6.toArray,.bool false]):=by
 have pZ:=AtL.new0 w 108 (sg6 0 0 ⟨#[]⟩ 0 0 ⟨#[]⟩);have hB:=zAK (Below.refl _ w) (.cells (sg6 0 0 ⟨#[]⟩ 0 0 ⟨#[]⟩).toArray 108);obtain ⟨b0,b1,b2,b3,b4,b5,k0,k1,k2,k3,k4,k5⟩:=at6 pZ;clear pZ hN;go_enter func118,ntmps118;go_upto_region 1 with fail
 generalize (w.alloc (.cells (sg6 0 0 ⟨#[]⟩ 0 0 ⟨#[]⟩).toArray 108))=W at *;go_wp2;refine bodyPost_ret (v:=.tuple #[.agg (sg6 0 0 ⟨#[]⟩ 0 0 ⟨#[]⟩).toArray,.bool false]) (by simp [results,results118,go_sem,b0,b1,b2,b3,b4,b5]) rfl ⟨rfl,(clB hB)⟩
theorem zJJ (id:Int) (w:World) (hN:NmAt w) (h:63<=id):CR 118 #[.int .i64 id] w (.tuple #[.agg zero6.toArray,.bool false]):=by
 have pZ:=AtL.new0 w 108 (sg6 0 0 ⟨#[]⟩ 0 0 ⟨#[]⟩);have hB:=zAK (Below.refl _ w) (.cells (sg6 0 0 ⟨#[]⟩ 0 0 ⟨#[]⟩).toArray 108);have h0:¬ id<0:=by omega
 obtain ⟨b0,b1,b2,b3,b4,b5,k0,k1,k2,k3,k4,k5⟩:=at6 pZ;clear pZ hN;go_enter func118,ntmps118;go_upto_region 1 with fail
 generalize (w.alloc (.cells (sg6 0 0 ⟨#[]⟩ 0 0 ⟨#[]⟩).toArray 108))=W at *;go_wp2;refine bodyPost_ret (v:=.tuple #[.agg (sg6 0 0 ⟨#[]⟩ 0 0 ⟨#[]⟩).toArray,.bool false]) (by simp [results,results118,go_sem,b0,b1,b2,b3,b4,b5]) rfl ⟨rfl,(clB hB)⟩
theorem zI9 (id:Int) (w:World) (hN:NmAt w) (h0:0<=id) (h1:id<63) (he:zEH id=[]):CR 118 #[.int .i64 id] w (.tuple #[.agg zero6.toArray,.bool false]):=by
 have pZ:=AtL.new0 w 108 (sg6 0 0 ⟨#[]⟩ 0 0 ⟨#[]⟩);have hB:=zAK (Below.refl _ w) (.cells (sg6 0 0 ⟨#[]⟩ 0 0 ⟨#[]⟩).toArray 108);have hc:=(hN.below hB).cell h0 h1;rw [he] at hc;have h0n:¬ id<0:=by omega
 have h1n:¬ 63<=id:=by omega
 clear he;obtain ⟨b0,b1,b2,b3,b4,b5,k0,k1,k2,k3,k4,k5⟩:=at6 pZ;clear pZ hN;go_enter func118,ntmps118;go_upto_region 1 with fail
 generalize (w.alloc (.cells (sg6 0 0 ⟨#[]⟩ 0 0 ⟨#[]⟩).toArray 108))=W at *;go_wp2;refine bodyPost_ret (v:=.tuple #[.agg (sg6 0 0 ⟨#[]⟩ 0 0 ⟨#[]⟩).toArray,.bool false]) (by simp [results,results118,go_sem,b0,b1,b2,b3,b4,b5]) rfl ⟨rfl,(clB hB)⟩
theorem zJM (id c l m:Int) (nm ps:ByteArray):(sg6 id c nm l m ps).toArray.all (·.oneCell')=true:=by simp [Value.oneCell']
theorem zK9 (id:Int) (w:World) (hN:NmAt w) (h0:0<=id) (h1:id<63) (he:zEH id ≠ []):CR 118 #[.int .i64 id] w (.tuple #[.agg (sg6 id (zA7 id).c ⟨(zEH id).toArray⟩ (zA7 id).l (zA7 id).m (zA7 id).p).toArray,.bool true]):=by
 have pZ:=AtL.new0 w 108 (sg6 0 0 ⟨#[]⟩ 0 0 ⟨#[]⟩);have hB:=zAK (Below.refl _ w) (.cells (sg6 0 0 ⟨#[]⟩ 0 0 ⟨#[]⟩).toArray 108);have hN0:=hN.below hB;have hc:=hN0.cell h0 h1;have SH:=λw=>zGq id w
 unfold sh6 at SH;have hq:((zEH id).toArray.toList == ([]:List UInt8))=false:=by
  cases hx:zEH id with
  | nil=>exact absurd hx he
  | cons a t=>rfl
 obtain ⟨nm,hnm⟩:∃ nm:ByteArray,(⟨(zEH id).toArray⟩:ByteArray)=nm:=⟨_,rfl⟩
 have hq2:(nm.toList == [])=false:=by
  rw [<-hnm,ByteArray.toList_eq];exact hq
 rw [hnm] at hc ⊢;have HC:Hid (∀ W,NmAt W->W.cell? ⟨0,id.toNat,none⟩=some (.string nm)):=λW h=>by rw [<-hnm];exact h.cell h0 h1
 have HN0:Hid (NmAt (w.alloc (.cells (sg6 0 0 ⟨#[]⟩ 0 0 ⟨#[]⟩).toArray 108))):=hN0;have HNw:Hid (NmAt w):=hN;have h0n:¬ id<0:=by omega
 have h1n:¬ 63<=id:=by omega
 generalize zA7 id=s at *;clear hN he hq hnm hN0;go_enter func118,ntmps118;go_upto_region 1 with fail
 generalize (w.alloc (.cells (sg6 0 0 ⟨#[]⟩ 0 0 ⟨#[]⟩).toArray 108))=W at *;go_wp2_with fail
 refine (SH _).mono ?_;rintro e w1 ⟨rfl,hb1⟩;have pZ1:=AtL.below hb1 pZ;have hB1:=zAB hB hb1;have HN1:Hid (NmAt w1):=HN0.out.below hb1;have pS:=AtL.new0 w1 108 (sg6 0 0 ⟨#[]⟩ 0 0 ⟨#[]⟩);have pZ2:=pZ1.alloc (.cells (sg6 0 0 ⟨#[]⟩ 0 0 ⟨#[]⟩).toArray 108);have hB2:=zAK hB1 (.cells (sg6 0 0 ⟨#[]⟩ 0 0 ⟨#[]⟩).toArray 108);have HN2:Hid (NmAt (w1.alloc (.cells (sg6 0 0 ⟨#[]⟩ 0 0 ⟨#[]⟩).toArray 108))):=HN1.out.below (zAK (Below.refl _ _) _);have hth:World.there (w1.alloc (.cells (sg6 0 0 ⟨#[]⟩ 0 0 ⟨#[]⟩).toArray 108)) w1.heap.size 0 (sg6 0 s.c ⟨#[]⟩ s.l s.m s.p).toArray.size:=pS.there;have hlt:=pZ1.lt;clear SH hc pZ pZ1 hB hB1 HN0 HN1 hb1;go_upto_region 4 with ((with_reducible refine wpList_store_mid ?_ 108 (.tmp 4) (.tmp 19) ?_ (w1.heap.size) 0 (sg6 0 s.c ⟨#[]⟩ s.l s.m s.p).toArray ?_ ?_ ?_ ?_ ?_ ?_);rfl;rfl;rfl;rfl;exact hth;kernel_rfl;exact zJM _ _ _ _ _ _)
 have pS4:AtL ((w1.alloc (.cells (sg6 0 0 ⟨#[]⟩ 0 0 ⟨#[]⟩).toArray 108)).setCells w1.heap.size 0 (sg6 0 s.c ⟨#[]⟩ s.l s.m s.p)) w1.heap.size (sg6 0 s.c ⟨#[]⟩ s.l s.m s.p):=pS.setAll rfl;have pZ4:=pZ2.farAll (b:=w1.heap.size) (by omega) 0 (sg6 0 s.c ⟨#[]⟩ s.l s.m s.p);have hB4:Below w.heap.size w ((w1.alloc (.cells (sg6 0 0 ⟨#[]⟩ 0 0 ⟨#[]⟩).toArray 108)).setCells w1.heap.size 0 (sg6 0 s.c ⟨#[]⟩ s.l s.m s.p)):=zAa hB2 (by omega) _ 0;have pS5:=AtL.drew pS4;have pZ5:=AtL.drew pZ4;have hB5:=hB4.drew;clear pS pZ2 hB2 HN2 hth pS4 pZ4 hB4;have hc5:=HC.out _ (HNw.out.below hB5);have hne:w1.heap.size ≠ 0:=by have:=zM7 HNw.out;omega
 refine wp_region_held_drew (S:=λW=>W.cell? ⟨0,id.toNat,none⟩=some (.string nm)) (by kernel_rfl) hc5 (λhHeld=>?_);generalize (World.setCells (w1.alloc (.cells (sg6 0 0 ⟨#[]⟩ 0 0 ⟨#[]⟩).toArray 108)) w1.heap.size 0 (sg6 0 s.c ⟨#[]⟩ s.l s.m s.p)).drew=WD at *;have s0:=pS5.2.1 0 _ rfl;have f0:=pS5.2.2 0 (by simp);refine tkQ 0 ?_
 refine tkQ 1 ?_
 refine tkQ 2 ?_
 refine tkQ 3 ?_
 refine tkQ 4 ?_
 refine rdQ 5 (λK hK=>?_);go_simp
 refine hkQ hK (by rw [World.cell?_setCell_far _ _ _ _ (by simpa using hne)];exact hc5) (λhHeld=>?_);clear hK K
 have pS6:=pS5.set 0 (.int .i64 id);have pZ6:=pZ5.far (j:=w1.heap.size) (by omega) 0 (.int .i64 id);have hB6:Below w.heap.size w (WD.setCell ⟨w1.heap.size,0,none⟩ (.int .i64 id)):=hB5.setCell (p:=⟨w1.heap.size,0,none⟩) (show w.heap.size<=w1.heap.size by omega) _;have s2:=pS6.2.1 2 _ rfl;have f2:=pS6.2.2 2 (by simp);refine tkQ 6 ?_
 refine rdQ 7 (λK hK=>?_);go_simp
 refine hkQ hK (by rw [World.cell?_setCell_far _ _ _ _ (by simpa using hne)];exact hHeld) (λhHeld=>?_);clear hK K
 refine wpAnyH_done (by kernel_rfl) ?_ _;have pS8:AtL ((WD.setCell ⟨w1.heap.size,0,none⟩ (.int .i64 id)).setCell ⟨w1.heap.size,2,none⟩ (.string nm)) w1.heap.size (sg6 id s.c nm s.l s.m s.p):=pS6.set 2 (.string nm);have pZ8:=pZ6.far (j:=w1.heap.size) (by omega) 2 (.string nm);have hB8:Below w.heap.size w ((WD.setCell ⟨w1.heap.size,0,none⟩ (.int .i64 id)).setCell ⟨w1.heap.size,2,none⟩ (.string nm)):=hB6.setCell (p:=⟨w1.heap.size,2,none⟩) (show w.heap.size<=w1.heap.size by omega) _;clear pS5 pZ5 hB5 hc5 hHeld pS6 pZ6 hB6 s0 f0 s2 f2;generalize (WD.setCell ⟨w1.heap.size,0,none⟩ (.int .i64 id)).setCell ⟨w1.heap.size,2,none⟩ (.string nm)=W8 at *;have rS:=pS8.range;have hth:W8.there w.heap.size 0 (sg6 id s.c nm s.l s.m s.p).toArray.size:=pZ8.there;go_wp2_with (first
  | ((with_reducible refine wpList_load_mid (cs:=sg6 id s.c nm s.l s.m s.p) ?_ 108 (.tmp 4) ?_ (w1.heap.size) 0 ?_ _ ?_ underlying108 ?_ ?_ ?_);rfl;rfl;rfl;exact rS;rfl;kernel_rfl)
  | ((with_reducible refine wpList_store_mid ?_ 108 (.tmp 2) (.tmp 26) ?_ (w.heap.size) 0 (sg6 id s.c nm s.l s.m s.p).toArray ?_ ?_ ?_ ?_ ?_ ?_);rfl;rfl;rfl;rfl;exact hth;kernel_rfl;exact zJM _ _ _ _ _ _))
 have pZ9:AtL (W8.setCells w.heap.size 0 (sg6 id s.c nm s.l s.m s.p)) w.heap.size (sg6 id s.c nm s.l s.m s.p):=pZ8.setAll rfl;have hB9:Below w.heap.size w (W8.setCells w.heap.size 0 (sg6 id s.c nm s.l s.m s.p)):=zAa hB8 (Nat.le_refl _) _ 0;obtain ⟨b0,b1,b2,b3,b4,b5,k0,k1,k2,k3,k4,k5⟩:=at6 pZ9;refine bodyPost_ret (v:=.tuple #[.agg (sg6 id s.c nm s.l s.m s.p).toArray,.bool true]) (by simp [results,results118,go_sem,b0,b1,b2,b3,b4,b5]) rfl ⟨rfl,hB9⟩
theorem zDX {l m:List Int} {i:Nat} (h:l.take i=m.take i) (hl:i<l.length) (hm:i<m.length) (e:l[i]=m[i]):l.take (i+1)=m.take (i+1):=by
 rw [List.take_succ_eq_append_getElem hl,List.take_succ_eq_append_getElem hm,h,e]
theorem zGa (l m:List Int) (v1 v2:Value) (w:World) (h1:RdZ w v1 l) (h2:RdZ w v2 m) (hl:l.length<=1000000) (hm:m.length<=1000000) :
  CR 140 #[v1,v2] w (.bool (decide (l=m))):=by
 obtain ⟨a1,c1,rfl,r1⟩:=h1;obtain ⟨a2,c2,rfl,r2⟩:=h2;by_cases hlen:l.length=m.length
 ·have H1:Hid (∀ i (h:i<l.length),∃ bb off,a1=some ⟨bb,off,none⟩/\w.cell? ⟨bb,off+i,none⟩=some (.int .i64 (l[i]))):=r1;have H2:Hid (∀ i (h:i<m.length),∃ bb off,a2=some ⟨bb,off,none⟩/\w.cell? ⟨bb,off+i,none⟩=some (.int .i64 (m[i]))):=r2;obtain ⟨n,hn⟩:∃ n,l.length=n:=⟨_,rfl⟩
  have hm2:m.length=n:=by omega
  obtain ⟨q,hq⟩:∃ q,decide (l=m)=q:=⟨_,rfl⟩
  rw [hq,hn,hm2];rw [hn] at hl;have HQ:Hid (decide (l=m)=q):=hq;have HN:Hid (l.length=n):=hn;have HM:Hid (m.length=n):=hm2;clear r1 r2 hq hlen hm hn hm2;go_enter func140,ntmps140;go_wp2_with fail
  go_loopg [5,13] n (λgk y x wr=>∃ i:Nat,x=.int .i64 i/\gk=n - i/\i<=n/\Hid (l.take i=m.take i)/\Below w.heap.size w wr)
  case atStart=>exact ⟨0,rfl,rfl,Nat.zero_le _,(rfl:l.take 0=m.take 0),Below.refl _ _⟩
  case round =>
   obtain ⟨i,rfl,hg,hi,HT,hb⟩:=hrel;by_cases hlt:i<n
   ·have hli:(i:Int)<(n:Int):=by omega
    have hwi:IntKind.i64.wrap ((i:Int)+1)=(i:Int)+1:=by rw [IntKind.wrap_i64];omega
    have hil:i<l.length:=by rw [HN.out];exact hlt
    have him:i<m.length:=by rw [HM.out];exact hlt
    obtain ⟨b1,o1,rfl,q1⟩:=H1.out i hil;obtain ⟨b2,o2,rfl,q2⟩:=H2.out i him;have d1:=zAC hb q1;have d2:=zAC hb q2;have X:Hid (∃ z,l[i]=z/\z=l[i]):=⟨_,rfl,rfl⟩
    obtain ⟨x,hx⟩:∃ x,l[i]=x:=⟨_,rfl⟩
    obtain ⟨y,hy⟩:∃ y,m[i]=y:=⟨_,rfl⟩
    rw [hx] at d1;rw [hy] at d2;have HX:Hid (l[i]=x):=hx;have HY:Hid (m[i]=y):=hy;clear q1 q2 hx hy X;by_cases hxy:x=y
    ·have HT2:Hid (l.take (i+1)=m.take (i+1)):=zDX HT.out hil him (by rw [HX.out,HY.out];exact hxy);subst hxy;go_upto_region 6 with fail
     go_quiet (fail)
     go_wp2_with fail
     go_roundg (n - (i+1))
     case rel=>exact ⟨i+1,by simp,rfl,hlt,HT2,(clB hb)⟩
     case measure=>omega
    ·have hne:Hid (q=false):=by
      show q=false
      rw [<-HQ.out];refine decide_eq_false λe=>hxy ?_
      rw [<-HX.out,<-HY.out];simp only [e]
     go_upto_region 6 with fail
     go_quiet (fail)
     go_wp2;go_ret;exact ⟨by rw [hne.out];rfl,(clB hb)⟩
   ·have hli:¬ (i:Int)<(n:Int):=by omega
    have hqt:Hid (q=true):=by
     show q=true
     rw [<-HQ.out];have h:=HT.out;rw [List.take_of_length_le (by rw [HN.out];omega),List.take_of_length_le (by rw [HM.out];omega)] at h;exact decide_eq_true h
    go_wp2;go_ret;exact ⟨by rw [hqt.out];rfl,hb⟩
 ·have hne:decide (l=m)=false:=decide_eq_false λe=>hlen (by rw [e])
  have hz:¬ ((l.length:Int)=(m.length:Int)):=by omega
  rw [hne];clear r1 r2 hl hm;go_enter func140,ntmps140;go_wp2;go_ret;exact ⟨rfl,Below.refl _ _⟩
theorem zFO (l m:List Int) (v1 v2:Value) (w:World) (h1:RdZ w v1 l) (h2:RdZ w v2 m) (hl:l.length<=1000000) (hm:m.length<=1000000) :
  CR 70 #[v1,v2] w (.bool (decide (l=m))):=by
 obtain ⟨a1,c1,rfl,r1⟩:=h1;obtain ⟨a2,c2,rfl,r2⟩:=h2;by_cases hlen:l.length=m.length
 ·have H1:Hid (∀ i (h:i<l.length),∃ bb off,a1=some ⟨bb,off,none⟩/\w.cell? ⟨bb,off+i,none⟩=some (.int .i64 (l[i]))):=r1;have H2:Hid (∀ i (h:i<m.length),∃ bb off,a2=some ⟨bb,off,none⟩/\w.cell? ⟨bb,off+i,none⟩=some (.int .i64 (m[i]))):=r2;obtain ⟨n,hn⟩:∃ n,l.length=n:=⟨_,rfl⟩
  have hm2:m.length=n:=by omega
  obtain ⟨q,hq⟩:∃ q,decide (l=m)=q:=⟨_,rfl⟩
  rw [hq,hn,hm2];rw [hn] at hl;have HQ:Hid (decide (l=m)=q):=hq;have HN:Hid (l.length=n):=hn;have HM:Hid (m.length=n):=hm2;clear r1 r2 hq hlen hm hn hm2;go_enter func70,ntmps70;go_wp2_with fail
  go_loopg [5] n (λgk x wr=>∃ i:Nat,x=.int .i64 i/\gk=n - i/\i<=n/\Hid (l.take i=m.take i)/\Below w.heap.size w wr)
  case atStart=>exact ⟨0,rfl,rfl,Nat.zero_le _,(rfl:l.take 0=m.take 0),Below.refl _ _⟩
  case round =>
   obtain ⟨i,rfl,hg,hi,HT,hb⟩:=hrel;by_cases hlt:i<n
   ·have hli:(i:Int)<(n:Int):=by omega
    have hwi:IntKind.i64.wrap ((i:Int)+1)=(i:Int)+1:=by rw [IntKind.wrap_i64];omega
    have hil:i<l.length:=by rw [HN.out];exact hlt
    have him:i<m.length:=by rw [HM.out];exact hlt
    obtain ⟨b1,o1,rfl,q1⟩:=H1.out i hil;obtain ⟨b2,o2,rfl,q2⟩:=H2.out i him;have d1:=zAC hb q1;have d2:=zAC hb q2;have X:Hid (∃ z,l[i]=z/\z=l[i]):=⟨_,rfl,rfl⟩
    obtain ⟨x,hx⟩:∃ x,l[i]=x:=⟨_,rfl⟩
    obtain ⟨y,hy⟩:∃ y,m[i]=y:=⟨_,rfl⟩
    rw [hx] at d1;rw [hy] at d2;have HX:Hid (l[i]=x):=hx;have HY:Hid (m[i]=y):=hy;clear q1 q2 hx hy X;by_cases hxy:x=y
    ·have HT2:Hid (l.take (i+1)=m.take (i+1)):=zDX HT.out hil him (by rw [HX.out,HY.out];exact hxy);subst hxy;go_upto_region 6 with fail
     go_quiet (fail)
     go_wp2_with fail
     go_roundg (n - (i+1))
     case rel=>exact ⟨i+1,by simp,rfl,hlt,HT2,(clB hb)⟩
     case measure=>omega
    ·have hne:Hid (q=false):=by
      show q=false
      rw [<-HQ.out];refine decide_eq_false λe=>hxy ?_
      rw [<-HX.out,<-HY.out];simp only [e]
     go_upto_region 6 with fail
     go_quiet (fail)
     go_wp2;go_ret;exact ⟨by rw [hne.out];rfl,(clB hb)⟩
   ·have hli:¬ (i:Int)<(n:Int):=by omega
    have hqt:Hid (q=true):=by
     show q=true
     rw [<-HQ.out];have h:=HT.out;rw [List.take_of_length_le (by rw [HN.out];omega),List.take_of_length_le (by rw [HM.out];omega)] at h;exact decide_eq_true h
    go_wp2;go_ret;exact ⟨by rw [hqt.out];rfl,hb⟩
 ·have hne:decide (l=m)=false:=decide_eq_false λe=>hlen (by rw [e])
  have hz:¬ ((l.length:Int)=(m.length:Int)):=by omega
  rw [hne];clear r1 r2 hl hm;go_enter func70,ntmps70;go_wp2;go_ret;exact ⟨rfl,Below.refl _ _⟩
def zJa (x y:Wpl.Cl):Bool:=(x.s == y.s) && ((x.r == y.r) && (x.c == y.c))
def zBJ (x y:Wpl.Ar):Bool:=(x.s == y.s) && ((x.t == y.t) && ((x.l == y.l) && ((x.b == y.b) && (x.r == y.r))))
theorem zEG (x y:Wpl.Ar):zBJ x y=true ↔ x=y:=by
 obtain ⟨a,b,c,g,i⟩:=x;obtain ⟨d,e,f,h,j⟩:=y;simp [zBJ]
theorem zE6 (x y:Wpl.Cl) (w:World):(binOp .eql 24 (.agg #[.int .i64 x.s,.int .i64 x.r,.int .i64 x.c]) (.agg #[.int .i64 y.s,.int .i64 y.r,.int .i64 y.c])).run prog w=.ok (.bool (zJa x y)) w:=by
 rw [run_eql_struct];unfold zJa;by_cases h1:x.s=y.s
 ·by_cases h2:x.r=y.r
  ·by_cases h3:x.c=y.c
   ·simp [go_sem,h1,h2,h3]
   ·simp [go_sem,h1,h2,h3]
  ·simp [go_sem,h1,h2]
 ·simp [go_sem,h1]
theorem zB9 (x y:Wpl.Ar) (w:World):(binOp .eql 53 (.agg #[.int .i64 x.s,.int .i64 x.t,.int .i64 x.l,.int .i64 x.b,.int .i64 x.r]) (.agg #[.int .i64 y.s,.int .i64 y.t,.int .i64 y.l,.int .i64 y.b,.int .i64 y.r])).run prog w=.ok (.bool (zBJ x y)) w:=by
 rw [run_eql_struct];unfold zBJ;by_cases h1:x.s=y.s
 ·by_cases h2:x.t=y.t
  ·by_cases h3:x.l=y.l
   ·by_cases h4:x.b=y.b
    ·by_cases h5:x.r=y.r
     ·simp [go_sem,h1,h2,h3,h4,h5]
     ·simp [go_sem,h1,h2,h3,h4,h5]
    ·simp [go_sem,h1,h2,h3,h4]
   ·simp [go_sem,h1,h2,h3]
  ·simp [go_sem,h1,h2]
 ·simp [go_sem,h1]
def smI (x y:Wc.In):Bool:=(x.a == y.a) && ((x.b == y.b) && (zI6 x.v y.v && (zJa x.ce y.ce && (zBJ x.ar y.ar && zBJ x.pr y.pr))))
theorem zA0 (x y:Wc.In) (t1 t2:Value) (l1 l2:List Int) (w:World) (h1:RdZ w t1 l1) (h2:RdZ w t2 l2) (hl:l1.length<=1000000) (hm:l2.length<=1000000) :
  CR 97 #[inV x t1,inV y t2] w (.bool (smI x y && decide (l1=l2))):=by
 have pA:=(AtL.new0 w 56 (zAD x t1)).alloc (.cells (zAD y t2).toArray 56);have pB:=AtL.new1 w (.cells (zAD x t1).toArray 56) 56 (zAD y t2);have hB:=zAK (zAK (Below.refl _ w) (.cells (zAD x t1).toArray 56)) (.cells (zAD y t2).toArray 56);have Z:∀ w',Below ((w.alloc (.cells (zAD x t1).toArray 56)).alloc (.cells (zAD y t2).toArray 56)).heap.size ((w.alloc (.cells (zAD x t1).toArray 56)).alloc (.cells (zAD y t2).toArray 56)) w'->_:=λw' hb=>zGa l1 l2 t1 t2 w' ((h1.below hB).below hb) ((h2.below hB).below hb) hl hm
 clear h1 h2 hl hm;have EV:=λw=>zAu x.v.k x.v.n x.v.d x.v.t x.v.b x.v.f y.v.k y.v.n y.v.d y.v.t y.v.b y.v.f w
 have EC:=λw=>zE6 x.ce y.ce w
 have ER:=λw=>zB9 x.ar y.ar w
 have EP:=λw=>zB9 x.pr y.pr w
 have HV:Hid (∃ q,zI6 x.v y.v=q):=⟨_,rfl⟩
 have HC:Hid (∃ q,zJa x.ce y.ce=q):=⟨_,rfl⟩
 have HR:Hid (∃ q,zBJ x.ar y.ar=q):=⟨_,rfl⟩
 have HP:Hid (∃ q,zBJ x.pr y.pr=q):=⟨_,rfl⟩
 obtain ⟨qv,hv⟩:=HV.out;obtain ⟨qc,hc⟩:=HC.out;obtain ⟨qr,hr⟩:=HR.out;obtain ⟨qp,hp⟩:=HP.out;clear HV HC HR HP;rw [show eqV x.v.k x.v.n x.v.d x.v.t x.v.b x.v.f y.v.k y.v.n y.v.d y.v.t y.v.b y.v.f=qv from hv] at EV;rw [hc] at EC;rw [hr] at ER;rw [hp] at EP;have HV:Hid (zI6 x.v y.v=qv):=hv;have HC:Hid (zJa x.ce y.ce=qc):=hc;have HR:Hid (zBJ x.ar y.ar=qr):=hr;have HP:Hid (zBJ x.pr y.pr=qp):=hp;clear hv hc hr hp;go_enter func97,ntmps97;go_upto_region 1 with fail
 generalize ((w.alloc (.cells (zAD x t1).toArray 56)).alloc (.cells (zAD y t2).toArray 56))=W at *;have e0:W.cell? ⟨w.heap.size,0,none⟩=some (.int .i64 x.op):=pA.2.1 0 _ rfl;have d0:W.cell? ⟨w.heap.size+1,0,none⟩=some (.int .i64 y.op):=pB.2.1 0 _ rfl;have e1:W.cell? ⟨w.heap.size,1,none⟩=some (.int .i64 x.a):=pA.2.1 1 _ rfl;have d1:W.cell? ⟨w.heap.size+1,1,none⟩=some (.int .i64 y.a):=pB.2.1 1 _ rfl;have e2:W.cell? ⟨w.heap.size,2,none⟩=some (.int .i64 x.b):=pA.2.1 2 _ rfl;have d2:W.cell? ⟨w.heap.size+1,2,none⟩=some (.int .i64 y.b):=pB.2.1 2 _ rfl;have e3:W.cell? ⟨w.heap.size,3,none⟩=some (.int .i64 x.v.k):=pA.2.1 3 _ rfl;have d3:W.cell? ⟨w.heap.size+1,3,none⟩=some (.int .i64 y.v.k):=pB.2.1 3 _ rfl;have e4:W.cell? ⟨w.heap.size,4,none⟩=some (.int .i64 x.v.n):=pA.2.1 4 _ rfl;have d4:W.cell? ⟨w.heap.size+1,4,none⟩=some (.int .i64 y.v.n):=pB.2.1 4 _ rfl;have e5:W.cell? ⟨w.heap.size,5,none⟩=some (.int .i64 x.v.d):=pA.2.1 5 _ rfl;have d5:W.cell? ⟨w.heap.size+1,5,none⟩=some (.int .i64 y.v.d):=pB.2.1 5 _ rfl;have e6:W.cell? ⟨w.heap.size,6,none⟩=some (.string x.v.t):=pA.2.1 6 _ rfl;have d6:W.cell? ⟨w.heap.size+1,6,none⟩=some (.string y.v.t):=pB.2.1 6 _ rfl;have e7:W.cell? ⟨w.heap.size,7,none⟩=some (.bool x.v.b):=pA.2.1 7 _ rfl;have d7:W.cell? ⟨w.heap.size+1,7,none⟩=some (.bool y.v.b):=pB.2.1 7 _ rfl;have e8:W.cell? ⟨w.heap.size,8,none⟩=some (.int .i64 x.v.f):=pA.2.1 8 _ rfl
 have d8:W.cell? ⟨w.heap.size+1,8,none⟩=some (.int .i64 y.v.f):=pB.2.1 8 _ rfl;have e9:W.cell? ⟨w.heap.size,9,none⟩=some (.int .i64 x.ce.s):=pA.2.1 9 _ rfl;have d9:W.cell? ⟨w.heap.size+1,9,none⟩=some (.int .i64 y.ce.s):=pB.2.1 9 _ rfl;have e10:W.cell? ⟨w.heap.size,10,none⟩=some (.int .i64 x.ce.r):=pA.2.1 10 _ rfl;have d10:W.cell? ⟨w.heap.size+1,10,none⟩=some (.int .i64 y.ce.r):=pB.2.1 10 _ rfl;have e11:W.cell? ⟨w.heap.size,11,none⟩=some (.int .i64 x.ce.c):=pA.2.1 11 _ rfl;have d11:W.cell? ⟨w.heap.size+1,11,none⟩=some (.int .i64 y.ce.c):=pB.2.1 11 _ rfl;have e12:W.cell? ⟨w.heap.size,12,none⟩=some (.int .i64 x.ar.s):=pA.2.1 12 _ rfl;have d12:W.cell? ⟨w.heap.size+1,12,none⟩=some (.int .i64 y.ar.s):=pB.2.1 12 _ rfl;have e13:W.cell? ⟨w.heap.size,13,none⟩=some (.int .i64 x.ar.t):=pA.2.1 13 _ rfl;have d13:W.cell? ⟨w.heap.size+1,13,none⟩=some (.int .i64 y.ar.t):=pB.2.1 13 _ rfl;have e14:W.cell? ⟨w.heap.size,14,none⟩=some (.int .i64 x.ar.l):=pA.2.1 14 _ rfl;have d14:W.cell? ⟨w.heap.size+1,14,none⟩=some (.int .i64 y.ar.l):=pB.2.1 14 _ rfl;have e15:W.cell? ⟨w.heap.size,15,none⟩=some (.int .i64 x.ar.b):=pA.2.1 15 _ rfl;have d15:W.cell? ⟨w.heap.size+1,15,none⟩=some (.int .i64 y.ar.b):=pB.2.1 15 _ rfl;have e16:W.cell? ⟨w.heap.size,16,none⟩=some (.int .i64 x.ar.r):=pA.2.1 16 _ rfl;have d16:W.cell? ⟨w.heap.size+1,16,none⟩=some (.int .i64 y.ar.r):=pB.2.1 16 _ rfl
 have e17:W.cell? ⟨w.heap.size,17,none⟩=some (.int .i64 x.pr.s):=pA.2.1 17 _ rfl;have d17:W.cell? ⟨w.heap.size+1,17,none⟩=some (.int .i64 y.pr.s):=pB.2.1 17 _ rfl;have e18:W.cell? ⟨w.heap.size,18,none⟩=some (.int .i64 x.pr.t):=pA.2.1 18 _ rfl;have d18:W.cell? ⟨w.heap.size+1,18,none⟩=some (.int .i64 y.pr.t):=pB.2.1 18 _ rfl;have e19:W.cell? ⟨w.heap.size,19,none⟩=some (.int .i64 x.pr.l):=pA.2.1 19 _ rfl;have d19:W.cell? ⟨w.heap.size+1,19,none⟩=some (.int .i64 y.pr.l):=pB.2.1 19 _ rfl;have e20:W.cell? ⟨w.heap.size,20,none⟩=some (.int .i64 x.pr.b):=pA.2.1 20 _ rfl;have d20:W.cell? ⟨w.heap.size+1,20,none⟩=some (.int .i64 y.pr.b):=pB.2.1 20 _ rfl;have e21:W.cell? ⟨w.heap.size,21,none⟩=some (.int .i64 x.pr.r):=pA.2.1 21 _ rfl;have d21:W.cell? ⟨w.heap.size+1,21,none⟩=some (.int .i64 y.pr.r):=pB.2.1 21 _ rfl;have e22:W.cell? ⟨w.heap.size,22,none⟩=some t1:=pA.2.1 22 _ rfl;have d22:W.cell? ⟨w.heap.size+1,22,none⟩=some t2:=pB.2.1 22 _ rfl;clear pA pB;by_cases h_a:x.a=y.a
 ·by_cases h_b:x.b=y.b
  ·cases qv with
   | false =>
    go_wp2;go_ret;exact ⟨by simp [smI,HV.out,HC.out,HR.out,HP.out],(clB hB)⟩
   | true =>
    cases qc with
    | false =>
     go_wp2;go_ret;exact ⟨by simp [smI,HV.out,HC.out,HR.out,HP.out],(clB hB)⟩
    | true =>
     cases qr with
     | false =>
      go_wp2;go_ret;exact ⟨by simp [smI,HV.out,HC.out,HR.out,HP.out],(clB hB)⟩
     | true =>
      cases qp with
      | false =>
       go_wp2;go_ret;exact ⟨by simp [smI,HV.out,HC.out,HR.out,HP.out],(clB hB)⟩
      | true =>
       go_wp2_with fail
       refine (Z _ (Below.refl _ _)).mono ?_;rintro e w1 ⟨rfl,hb1⟩;have hB1:=zAB hB hb1;go_wp2;go_ret;exact ⟨by simp [smI,h_a,h_b,HV.out,HC.out,HR.out,HP.out],(clB hB1)⟩
  ·go_wp2;go_ret;exact ⟨by simp [smI,h_a,h_b],(clB hB)⟩
 ·go_wp2;go_ret;exact ⟨by simp [smI,h_a],(clB hB)⟩
theorem zA2 (x y:Wc.In) (t1 t2:Value) (w:World) :
  CR 101 #[inV x t1,inV y t2] w (.bool ((x.op == y.op) && smI x y)):=by
 have pA:=(AtL.new0 w 56 (zAD x t1)).alloc (.cells (zAD y t2).toArray 56);have pB:=AtL.new1 w (.cells (zAD x t1).toArray 56) 56 (zAD y t2);have hB:=zAK (zAK (Below.refl _ w) (.cells (zAD x t1).toArray 56)) (.cells (zAD y t2).toArray 56);have EV:=λw=>zAu x.v.k x.v.n x.v.d x.v.t x.v.b x.v.f y.v.k y.v.n y.v.d y.v.t y.v.b y.v.f w
 have EC:=λw=>zE6 x.ce y.ce w
 have ER:=λw=>zB9 x.ar y.ar w
 have EP:=λw=>zB9 x.pr y.pr w
 have HV:Hid (∃ q,zI6 x.v y.v=q):=⟨_,rfl⟩
 have HC:Hid (∃ q,zJa x.ce y.ce=q):=⟨_,rfl⟩
 have HR:Hid (∃ q,zBJ x.ar y.ar=q):=⟨_,rfl⟩
 have HP:Hid (∃ q,zBJ x.pr y.pr=q):=⟨_,rfl⟩
 obtain ⟨qv,hv⟩:=HV.out;obtain ⟨qc,hc⟩:=HC.out;obtain ⟨qr,hr⟩:=HR.out;obtain ⟨qp,hp⟩:=HP.out;clear HV HC HR HP;rw [show eqV x.v.k x.v.n x.v.d x.v.t x.v.b x.v.f y.v.k y.v.n y.v.d y.v.t y.v.b y.v.f=qv from hv] at EV;rw [hc] at EC;rw [hr] at ER;rw [hp] at EP;have HV:Hid (zI6 x.v y.v=qv):=hv;have HC:Hid (zJa x.ce y.ce=qc):=hc;have HR:Hid (zBJ x.ar y.ar=qr):=hr;have HP:Hid (zBJ x.pr y.pr=qp):=hp;clear hv hc hr hp;go_enter func101,ntmps101;go_upto_region 1 with fail
 generalize ((w.alloc (.cells (zAD x t1).toArray 56)).alloc (.cells (zAD y t2).toArray 56))=W at *;have e0:W.cell? ⟨w.heap.size,0,none⟩=some (.int .i64 x.op):=pA.2.1 0 _ rfl;have d0:W.cell? ⟨w.heap.size+1,0,none⟩=some (.int .i64 y.op):=pB.2.1 0 _ rfl;have e1:W.cell? ⟨w.heap.size,1,none⟩=some (.int .i64 x.a):=pA.2.1 1 _ rfl;have d1:W.cell? ⟨w.heap.size+1,1,none⟩=some (.int .i64 y.a):=pB.2.1 1 _ rfl;have e2:W.cell? ⟨w.heap.size,2,none⟩=some (.int .i64 x.b):=pA.2.1 2 _ rfl;have d2:W.cell? ⟨w.heap.size+1,2,none⟩=some (.int .i64 y.b):=pB.2.1 2 _ rfl;have e3:W.cell? ⟨w.heap.size,3,none⟩=some (.int .i64 x.v.k):=pA.2.1 3 _ rfl;have d3:W.cell? ⟨w.heap.size+1,3,none⟩=some (.int .i64 y.v.k):=pB.2.1 3 _ rfl;have e4:W.cell? ⟨w.heap.size,4,none⟩=some (.int .i64 x.v.n):=pA.2.1 4 _ rfl;have d4:W.cell? ⟨w.heap.size+1,4,none⟩=some (.int .i64 y.v.n):=pB.2.1 4 _ rfl;have e5:W.cell? ⟨w.heap.size,5,none⟩=some (.int .i64 x.v.d):=pA.2.1 5 _ rfl;have d5:W.cell? ⟨w.heap.size+1,5,none⟩=some (.int .i64 y.v.d):=pB.2.1 5 _ rfl;have e6:W.cell? ⟨w.heap.size,6,none⟩=some (.string x.v.t):=pA.2.1 6 _ rfl;have d6:W.cell? ⟨w.heap.size+1,6,none⟩=some (.string y.v.t):=pB.2.1 6 _ rfl;have e7:W.cell? ⟨w.heap.size,7,none⟩=some (.bool x.v.b):=pA.2.1 7 _ rfl;have d7:W.cell? ⟨w.heap.size+1,7,none⟩=some (.bool y.v.b):=pB.2.1 7 _ rfl;have e8:W.cell? ⟨w.heap.size,8,none⟩=some (.int .i64 x.v.f):=pA.2.1 8 _ rfl
 have d8:W.cell? ⟨w.heap.size+1,8,none⟩=some (.int .i64 y.v.f):=pB.2.1 8 _ rfl;have e9:W.cell? ⟨w.heap.size,9,none⟩=some (.int .i64 x.ce.s):=pA.2.1 9 _ rfl;have d9:W.cell? ⟨w.heap.size+1,9,none⟩=some (.int .i64 y.ce.s):=pB.2.1 9 _ rfl;have e10:W.cell? ⟨w.heap.size,10,none⟩=some (.int .i64 x.ce.r):=pA.2.1 10 _ rfl;have d10:W.cell? ⟨w.heap.size+1,10,none⟩=some (.int .i64 y.ce.r):=pB.2.1 10 _ rfl;have e11:W.cell? ⟨w.heap.size,11,none⟩=some (.int .i64 x.ce.c):=pA.2.1 11 _ rfl;have d11:W.cell? ⟨w.heap.size+1,11,none⟩=some (.int .i64 y.ce.c):=pB.2.1 11 _ rfl;have e12:W.cell? ⟨w.heap.size,12,none⟩=some (.int .i64 x.ar.s):=pA.2.1 12 _ rfl;have d12:W.cell? ⟨w.heap.size+1,12,none⟩=some (.int .i64 y.ar.s):=pB.2.1 12 _ rfl;have e13:W.cell? ⟨w.heap.size,13,none⟩=some (.int .i64 x.ar.t):=pA.2.1 13 _ rfl;have d13:W.cell? ⟨w.heap.size+1,13,none⟩=some (.int .i64 y.ar.t):=pB.2.1 13 _ rfl;have e14:W.cell? ⟨w.heap.size,14,none⟩=some (.int .i64 x.ar.l):=pA.2.1 14 _ rfl;have d14:W.cell? ⟨w.heap.size+1,14,none⟩=some (.int .i64 y.ar.l):=pB.2.1 14 _ rfl;have e15:W.cell? ⟨w.heap.size,15,none⟩=some (.int .i64 x.ar.b):=pA.2.1 15 _ rfl;have d15:W.cell? ⟨w.heap.size+1,15,none⟩=some (.int .i64 y.ar.b):=pB.2.1 15 _ rfl;have e16:W.cell? ⟨w.heap.size,16,none⟩=some (.int .i64 x.ar.r):=pA.2.1 16 _ rfl;have d16:W.cell? ⟨w.heap.size+1,16,none⟩=some (.int .i64 y.ar.r):=pB.2.1 16 _ rfl
 have e17:W.cell? ⟨w.heap.size,17,none⟩=some (.int .i64 x.pr.s):=pA.2.1 17 _ rfl;have d17:W.cell? ⟨w.heap.size+1,17,none⟩=some (.int .i64 y.pr.s):=pB.2.1 17 _ rfl;have e18:W.cell? ⟨w.heap.size,18,none⟩=some (.int .i64 x.pr.t):=pA.2.1 18 _ rfl;have d18:W.cell? ⟨w.heap.size+1,18,none⟩=some (.int .i64 y.pr.t):=pB.2.1 18 _ rfl;have e19:W.cell? ⟨w.heap.size,19,none⟩=some (.int .i64 x.pr.l):=pA.2.1 19 _ rfl;have d19:W.cell? ⟨w.heap.size+1,19,none⟩=some (.int .i64 y.pr.l):=pB.2.1 19 _ rfl;have e20:W.cell? ⟨w.heap.size,20,none⟩=some (.int .i64 x.pr.b):=pA.2.1 20 _ rfl;have d20:W.cell? ⟨w.heap.size+1,20,none⟩=some (.int .i64 y.pr.b):=pB.2.1 20 _ rfl;have e21:W.cell? ⟨w.heap.size,21,none⟩=some (.int .i64 x.pr.r):=pA.2.1 21 _ rfl;have d21:W.cell? ⟨w.heap.size+1,21,none⟩=some (.int .i64 y.pr.r):=pB.2.1 21 _ rfl;have e22:W.cell? ⟨w.heap.size,22,none⟩=some t1:=pA.2.1 22 _ rfl;have d22:W.cell? ⟨w.heap.size+1,22,none⟩=some t2:=pB.2.1 22 _ rfl;clear pA pB;by_cases h_op:x.op=y.op
 ·by_cases h_a:x.a=y.a
  ·by_cases h_b:x.b=y.b
   ·cases qv with
    | false =>
     go_wp2;go_ret;exact ⟨by simp [smI,HV.out,HC.out,HR.out,HP.out],(clB hB)⟩
    | true =>
     cases qc with
     | false =>
      go_wp2;go_ret;exact ⟨by simp [smI,HV.out,HC.out,HR.out,HP.out],(clB hB)⟩
     | true =>
      cases qr with
      | false =>
       go_wp2;go_ret;exact ⟨by simp [smI,HV.out,HC.out,HR.out,HP.out],(clB hB)⟩
      | true =>
       cases qp with
       | false =>
        go_wp2;go_ret;exact ⟨by simp [smI,HV.out,HC.out,HR.out,HP.out],(clB hB)⟩
       | true =>
        go_wp2;go_ret;exact ⟨by simp [smI,h_op,h_a,h_b,HV.out,HC.out,HR.out,HP.out],(clB hB)⟩
   ·go_wp2;go_ret;exact ⟨by simp [smI,h_op,h_a,h_b],(clB hB)⟩
  ·go_wp2;go_ret;exact ⟨by simp [smI,h_op,h_a],(clB hB)⟩
 ·go_wp2;go_ret;exact ⟨by simp [smI,h_op],(clB hB)⟩
