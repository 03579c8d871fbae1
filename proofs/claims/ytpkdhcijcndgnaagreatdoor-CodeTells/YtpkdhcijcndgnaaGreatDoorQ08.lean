/- KWalkG, KWalkP, KWalkQ, KWalkR, KCd. -/
import Derived.Test.YtpkdhcijcndgnaaGreatDoorQ07
set_option maxHeartbeats 4000000
set_option maxRecDepth 100000
namespace Go.Proofs.YtpkdhcijcndgnaaGreatDoor
open Tryz
open Go.RowKit
set_option linter.unusedVariables false
variable {w W:World} {ka kb:Nat} {x:Wc.In} {tv:Value}
def fnN:List (List UInt8):=[[],[83,85,77],[80,82,79,68,85,67,84],[67,79,85,78,84],[67,79,85,78,84,65],[77,73,78],[77,65,88],[65,86,69,82,65,71,69],[65,78,68],[79,82],[88,79,82],[67,79,78,67,65,84],[83,85,77,83,81],[71,67,68],[70,73,82,83,84],[76,65,83,84],[],[],[],[],[77,65,84,67,72],[67,79,85,78,84,73,70],[83,85,77,73,70],[76,79,79,75,85,80],[83,85,77,80,82,79,68,85,67,84],[73,78,68,69,88],[82,79,87,83],[67,79,76,85,77,78,83],[],[],[73,70],[73,70,69,82,82,79,82],[67,72,79,79,83,69],[],[],[],[],[],[],[],[65,66,83],[83,73,71,78],[73,78,84],[82,79,85,78,68],[77,79,68],[81,85,79,84,73,69,78,84],[80,79,87,69,82],[78,79,84],[76,69,78],[76,69,70,84],[82,73,71,72,84],[77,73,68],[82,69,80,84],[70,73,78,68],[85,80,80,69,82],[76,79,87,69,82],[84,82,73,77],[86,65,76,85,69],[73,83,78,85,77,66,69,82],[73,83,84,69,88,84],[73,83,66,76,65,78,75],[73,83,69,82,82,79,82],[78,65]]
def nmR:List Value:=fnN.map λl=>.string ⟨l.toArray⟩
def NmAt (w:World):Prop:=w.rangeAt 0 0 nmR
theorem NmAt.below {w':World} (h:NmAt w) (hb:Below w.heap.size w w'):NmAt w':=λj v hv=>zAC hb (h j v hv)
def zFN (id:Int):List UInt8:=fnN.getD id.toNat []
def zAz (id:Int):Bool:=decide (0<=id) && (decide (id<63) && !(zFN id).isEmpty)
theorem NmAt.cell (h:NmAt w) {id:Int} (h0:0<=id) (h1:id<63):w.cell? ⟨0,id.toNat,none⟩=some (.string ⟨(zFN id).toArray⟩):=by
 have hl:id.toNat<fnN.length:=by show id.toNat<63;omega
 have:=h id.toNat (.string ⟨(zFN id).toArray⟩) (by unfold nmR zFN;rw [List.getElem?_map,List.getElem?_eq_getElem hl,List.getD_eq_getElem?_getD,List.getElem?_eq_getElem hl];rfl);rw [Nat.zero_add] at this;exact this
def zero6:List Value:=sg6 0 0 ⟨#[]⟩ 0 0 ⟨#[]⟩
def zDC (id:Int):List Value:=if zAz id=true then sg6 id (zAN id).c ⟨(zFN id).toArray⟩ (zAN id).l (zAN id).m (zAN id).p else zero6
theorem zMw (id:Int) (w:World) (hN:NmAt w) (h:id<0):CR 37 #[.int .i64 id] w (.tuple #[.agg zero6.toArray,.bool false]):=by
 have pZ:=AtL.new0 w 66 (sg6 0 0 ⟨#[]⟩ 0 0 ⟨#[]⟩);have hB:=zAJ (Below.refl _ w) (.cells (sg6 0 0 ⟨#[]⟩ 0 0 ⟨#[]⟩).toArray 66);obtain ⟨b0,b1,b2,b3,b4,b5,k0,k1,k2,k3,k4,k5⟩:=at6 pZ;clear pZ hN;go_enter func37,ntmps37;go_upto_region 1 with fail
 generalize (w.alloc (.cells (sg6 0 0 ⟨#[]⟩ 0 0 ⟨#[]⟩).toArray 66))=W at *;go_wp2;refine bodyPost_ret (v:=.tuple #[.agg (sg6 0 0 ⟨#[]⟩ 0 0 ⟨#[]⟩).toArray,.bool false]) (by simp [results,results37,go_sem,b0,b1,b2,b3,b4,b5]) rfl ⟨rfl,(clB hB)⟩
theorem zKl (id:Int) (w:World) (hN:NmAt w) (h:63<=id):CR 37 #[.int .i64 id] w (.tuple #[.agg zero6.toArray,.bool false]):=by
 have pZ:=AtL.new0 w 66 (sg6 0 0 ⟨#[]⟩ 0 0 ⟨#[]⟩);have hB:=zAJ (Below.refl _ w) (.cells (sg6 0 0 ⟨#[]⟩ 0 0 ⟨#[]⟩).toArray 66);have h0:¬ id<0:=by omega
 obtain ⟨b0,b1,b2,b3,b4,b5,k0,k1,k2,k3,k4,k5⟩:=at6 pZ;clear pZ hN;go_enter func37,ntmps37;go_upto_region 1 with fail
 generalize (w.alloc (.cells (sg6 0 0 ⟨#[]⟩ 0 0 ⟨#[]⟩).toArray 66))=W at *;go_wp2;refine bodyPost_ret (v:=.tuple #[.agg (sg6 0 0 ⟨#[]⟩ 0 0 ⟨#[]⟩).toArray,.bool false]) (by simp [results,results37,go_sem,b0,b1,b2,b3,b4,b5]) rfl ⟨rfl,(clB hB)⟩
theorem zMS (id:Int) (w:World) (hN:NmAt w) (h0:0<=id) (h1:id<63) (he:zFN id=[]):CR 37 #[.int .i64 id] w (.tuple #[.agg zero6.toArray,.bool false]):=by
 have pZ:=AtL.new0 w 66 (sg6 0 0 ⟨#[]⟩ 0 0 ⟨#[]⟩);have hB:=zAJ (Below.refl _ w) (.cells (sg6 0 0 ⟨#[]⟩ 0 0 ⟨#[]⟩).toArray 66);have hc:=(hN.below hB).cell h0 h1;rw [he] at hc;have h0n:¬ id<0:=by omega
 have h1n:¬ 63<=id:=by omega
 clear he;obtain ⟨b0,b1,b2,b3,b4,b5,k0,k1,k2,k3,k4,k5⟩:=at6 pZ;clear pZ hN;go_enter func37,ntmps37;go_upto_region 1 with fail
 generalize (w.alloc (.cells (sg6 0 0 ⟨#[]⟩ 0 0 ⟨#[]⟩).toArray 66))=W at *;go_wp2;refine bodyPost_ret (v:=.tuple #[.agg (sg6 0 0 ⟨#[]⟩ 0 0 ⟨#[]⟩).toArray,.bool false]) (by simp [results,results37,go_sem,b0,b1,b2,b3,b4,b5]) rfl ⟨rfl,(clB hB)⟩
theorem zPn (id c l m:Int) (nm ps:ByteArray):(sg6 id c nm l m ps).toArray.all (·.oneCell')=true:=by simp [Value.oneCell']
theorem zNk (id:Int) (w:World) (hN:NmAt w) (h0:0<=id) (h1:id<63) (he:zFN id ≠ []):CR 37 #[.int .i64 id] w (.tuple #[.agg (sg6 id (zAN id).c ⟨(zFN id).toArray⟩ (zAN id).l (zAN id).m (zAN id).p).toArray,.bool true]):=by
 have pZ:=AtL.new0 w 66 (sg6 0 0 ⟨#[]⟩ 0 0 ⟨#[]⟩);have hB:=zAJ (Below.refl _ w) (.cells (sg6 0 0 ⟨#[]⟩ 0 0 ⟨#[]⟩).toArray 66);have hN0:=hN.below hB;have hc:=hN0.cell h0 h1;have SH:=λw=>zIY id w
 unfold sh6 at SH;have hq:((zFN id).toArray.toList == ([]:List UInt8))=false:=by
  cases hx:zFN id with
  | nil=>exact absurd hx he
  | cons a t=>rfl
 obtain ⟨nm,hnm⟩:∃ nm:ByteArray,(⟨(zFN id).toArray⟩:ByteArray)=nm:=⟨_,rfl⟩
 have hq2:(nm.toList == [])=false:=by
  rw [<-hnm,ByteArray.toList_eq];exact hq
 rw [hnm] at hc ⊢;have HC:Hid (∀ W,NmAt W->W.cell? ⟨0,id.toNat,none⟩=some (.string nm)):=λW h=>by rw [<-hnm];exact h.cell h0 h1
 have HN0:Hid (NmAt (w.alloc (.cells (sg6 0 0 ⟨#[]⟩ 0 0 ⟨#[]⟩).toArray 66))):=hN0;have HNw:Hid (NmAt w):=hN;have h0n:¬ id<0:=by omega
 have h1n:¬ 63<=id:=by omega
 generalize zAN id=s at *;clear hN he hq hnm hN0;go_enter func37,ntmps37;go_upto_region 1 with fail
 generalize (w.alloc (.cells (sg6 0 0 ⟨#[]⟩ 0 0 ⟨#[]⟩).toArray 66))=W at *;go_wp2_with fail
 refine (SH _).mono ?_;rintro e w1 ⟨rfl,hb1⟩;have pZ1:=AtL.below hb1 pZ;have hB1:=zAB hB hb1;have HN1:Hid (NmAt w1):=HN0.out.below hb1;have pS:=AtL.new0 w1 66 (sg6 0 0 ⟨#[]⟩ 0 0 ⟨#[]⟩);have pZ2:=pZ1.alloc (.cells (sg6 0 0 ⟨#[]⟩ 0 0 ⟨#[]⟩).toArray 66);have hB2:=zAJ hB1 (.cells (sg6 0 0 ⟨#[]⟩ 0 0 ⟨#[]⟩).toArray 66);have HN2:Hid (NmAt (w1.alloc (.cells (sg6 0 0 ⟨#[]⟩ 0 0 ⟨#[]⟩).toArray 66))):=HN1.out.below (zAJ (Below.refl _ _) _);have hth:World.there (w1.alloc (.cells (sg6 0 0 ⟨#[]⟩ 0 0 ⟨#[]⟩).toArray 66)) w1.heap.size 0 (sg6 0 s.c ⟨#[]⟩ s.l s.m s.p).toArray.size:=pS.there;have hlt:=pZ1.lt;clear SH hc pZ pZ1 hB hB1 HN0 HN1 hb1;go_upto_region 4 with ((with_reducible refine wpList_store_mid ?_ 66 (.tmp 4) (.tmp 19) ?_ (w1.heap.size) 0 (sg6 0 s.c ⟨#[]⟩ s.l s.m s.p).toArray ?_ ?_ ?_ ?_ ?_ ?_);rfl;rfl;rfl;rfl;exact hth;kernel_rfl;exact zPn _ _ _ _ _ _)
 have pS4:AtL ((w1.alloc (.cells (sg6 0 0 ⟨#[]⟩ 0 0 ⟨#[]⟩).toArray 66)).setCells w1.heap.size 0 (sg6 0 s.c ⟨#[]⟩ s.l s.m s.p)) w1.heap.size (sg6 0 s.c ⟨#[]⟩ s.l s.m s.p):=pS.setAll rfl;have pZ4:=pZ2.farAll (b:=w1.heap.size) (by omega) 0 (sg6 0 s.c ⟨#[]⟩ s.l s.m s.p);have hB4:Below w.heap.size w ((w1.alloc (.cells (sg6 0 0 ⟨#[]⟩ 0 0 ⟨#[]⟩).toArray 66)).setCells w1.heap.size 0 (sg6 0 s.c ⟨#[]⟩ s.l s.m s.p)):=zAt hB2 (by omega) _ 0;have pS5:=AtL.drew pS4;have pZ5:=AtL.drew pZ4;have hB5:=hB4.drew;clear pS pZ2 hB2 HN2 hth pS4 pZ4 hB4;have hc5:=HC.out _ (HNw.out.below hB5);have hne:w1.heap.size ≠ 0:=by omega
 refine wp_region_held_drew (S:=λW=>W.cell? ⟨0,id.toNat,none⟩=some (.string nm)) (by kernel_rfl) hc5 (λhHeld=>?_);generalize (World.setCells (w1.alloc (.cells (sg6 0 0 ⟨#[]⟩ 0 0 ⟨#[]⟩).toArray 66)) w1.heap.size 0 (sg6 0 s.c ⟨#[]⟩ s.l s.m s.p)).drew=WD at *;have s0:=pS5.2.1 0 _ rfl;have f0:=pS5.2.2 0 (by simp);refine tkQ 0 ⟨some 20,.move (.tmp 0),3,"funcs.go:41",#[],none⟩ ?_
 refine tkQ 1 ⟨some 21,.move (.tmp 0),3,"funcs.go:41",#[⟨5,.gcOnly .lateStores⟩],none⟩ ?_
 refine tkQ 2 ⟨some 22,.indexAddr 100 (Operand.global 0) (.tmp 21),0,"funcs.go:41",#[⟨1,.data⟩,⟨5,.gcOnly .lateStores⟩],none⟩ ?_
 refine tkQ 3 ⟨some 23,.load 9 (.tmp 22),9,"funcs.go:41",#[⟨2,.data⟩,⟨5,.gcOnly .lateStores⟩],none⟩ ?_
 refine tkQ 4 ⟨some 24,.fieldAddr 66 (.tmp 4) 0,0,"funcs.go:41",#[⟨0,.phase⟩,⟨1,.textOnly .lateStores⟩,⟨2,.textOnly .lateStores⟩,⟨3,.textOnly .lateStores⟩],none⟩ ?_
 refine rdQ 5 ⟨none,.store 3 (.tmp 24) (.tmp 20),0,"funcs.go:41",#[⟨4,.data⟩,⟨0,.data⟩,⟨0,.phase⟩,⟨1,.textOnly .lateStores⟩,⟨2,.textOnly .lateStores⟩,⟨3,.textOnly .lateStores⟩],none⟩ (λK hK=>?_);go_simp
 refine hkQ hK (by rw [World.cell?_setCell_far _ _ _ _ (by simpa using hne)];exact hc5) (λhHeld=>?_);clear hK K
 have pS6:=pS5.set 0 (.int .i64 id);have pZ6:=pZ5.far (j:=w1.heap.size) (by omega) 0 (.int .i64 id);have hB6:Below w.heap.size w (WD.setCell ⟨w1.heap.size,0,none⟩ (.int .i64 id)):=hB5.setCell (p:=⟨w1.heap.size,0,none⟩) (show w.heap.size<=w1.heap.size by omega) _;have s2:=pS6.2.1 2 _ rfl;have f2:=pS6.2.2 2 (by simp);refine tkQ 6 ⟨some 25,.fieldAddr 66 (.tmp 4) 2,0,"funcs.go:41",#[⟨0,.phase⟩,⟨1,.phase⟩,⟨2,.phase⟩,⟨3,.phase⟩,⟨4,.phase⟩,⟨5,.phase⟩],none⟩ ?_
 refine rdQ 7 ⟨none,.store 9 (.tmp 25) (.tmp 23),0,"funcs.go:41",#[⟨6,.data⟩,⟨3,.data⟩,⟨5,.chain⟩,⟨0,.phase⟩,⟨1,.phase⟩,⟨2,.phase⟩,⟨3,.phase⟩,⟨4,.phase⟩,⟨5,.phase⟩],none⟩ (λK hK=>?_);go_simp
 refine hkQ hK (by rw [World.cell?_setCell_far _ _ _ _ (by simpa using hne)];exact hHeld) (λhHeld=>?_);clear hK K
 refine wpAnyH_done (by kernel_rfl) ?_ _;have pS8:AtL ((WD.setCell ⟨w1.heap.size,0,none⟩ (.int .i64 id)).setCell ⟨w1.heap.size,2,none⟩ (.string nm)) w1.heap.size (sg6 id s.c nm s.l s.m s.p):=pS6.set 2 (.string nm);have pZ8:=pZ6.far (j:=w1.heap.size) (by omega) 2 (.string nm);have hB8:Below w.heap.size w ((WD.setCell ⟨w1.heap.size,0,none⟩ (.int .i64 id)).setCell ⟨w1.heap.size,2,none⟩ (.string nm)):=hB6.setCell (p:=⟨w1.heap.size,2,none⟩) (show w.heap.size<=w1.heap.size by omega) _;clear pS5 pZ5 hB5 hc5 hHeld pS6 pZ6 hB6 s0 f0 s2 f2;generalize (WD.setCell ⟨w1.heap.size,0,none⟩ (.int .i64 id)).setCell ⟨w1.heap.size,2,none⟩ (.string nm)=W8 at *;have rS:=pS8.range;have hth:W8.there w.heap.size 0 (sg6 id s.c nm s.l s.m s.p).toArray.size:=pZ8.there;go_wp2_with (first
  | ((with_reducible refine wpList_load_mid (cs:=sg6 id s.c nm s.l s.m s.p) ?_ 66 (.tmp 4) ?_ (w1.heap.size) 0 ?_ _ ?_ underlying66 ?_ ?_ ?_);rfl;rfl;rfl;exact rS;rfl;kernel_rfl)
  | ((with_reducible refine wpList_store_mid ?_ 66 (.tmp 2) (.tmp 26) ?_ (w.heap.size) 0 (sg6 id s.c nm s.l s.m s.p).toArray ?_ ?_ ?_ ?_ ?_ ?_);rfl;rfl;rfl;rfl;exact hth;kernel_rfl;exact zPn _ _ _ _ _ _))
 have pZ9:AtL (W8.setCells w.heap.size 0 (sg6 id s.c nm s.l s.m s.p)) w.heap.size (sg6 id s.c nm s.l s.m s.p):=pZ8.setAll rfl;have hB9:Below w.heap.size w (W8.setCells w.heap.size 0 (sg6 id s.c nm s.l s.m s.p)):=zAt hB8 (Nat.le_refl _) _ 0;obtain ⟨b0,b1,b2,b3,b4,b5,k0,k1,k2,k3,k4,k5⟩:=at6 pZ9;refine bodyPost_ret (v:=.tuple #[.agg (sg6 id s.c nm s.l s.m s.p).toArray,.bool true]) (by simp [results,results37,go_sem,b0,b1,b2,b3,b4,b5]) rfl ⟨rfl,hB9⟩
theorem zIn {l m:List Int} {i:Nat} (h:l.take i=m.take i) (hl:i<l.length) (hm:i<m.length) (e:l[i]=m[i]):l.take (i+1)=m.take (i+1):=by
 rw [List.take_succ_eq_append_getElem hl,List.take_succ_eq_append_getElem hm,h,e]
theorem zKP (l m:List Int) (v1 v2:Value) (w:World) (h1:RdZ w v1 l) (h2:RdZ w v2 m) (hl:l.length<=1000000) (hm:m.length<=1000000) :
  CR 108 #[v1,v2] w (.bool (decide (l=m))):=by
 obtain ⟨a1,c1,rfl,r1⟩:=h1;obtain ⟨a2,c2,rfl,r2⟩:=h2;by_cases hlen:l.length=m.length
 ·have H1:Hid (∀ i (h:i<l.length),∃ bb off,a1=some ⟨bb,off,none⟩/\w.cell? ⟨bb,off+i,none⟩=some (.int .i64 (l[i]))):=r1;have H2:Hid (∀ i (h:i<m.length),∃ bb off,a2=some ⟨bb,off,none⟩/\w.cell? ⟨bb,off+i,none⟩=some (.int .i64 (m[i]))):=r2;obtain ⟨n,hn⟩:∃ n,l.length=n:=⟨_,rfl⟩
  have hm2:m.length=n:=by omega
  obtain ⟨q,hq⟩:∃ q,decide (l=m)=q:=⟨_,rfl⟩
  rw [hq,hn,hm2];rw [hn] at hl;have HQ:Hid (decide (l=m)=q):=hq;have HN:Hid (l.length=n):=hn;have HM:Hid (m.length=n):=hm2;clear r1 r2 hq hlen hm hn hm2;go_enter func108,ntmps108;go_wp2_with fail
  go_loopg [5,13] n (λgk y x wr=>∃ i:Nat,x=.int .i64 i/\gk=n - i/\i<=n/\Hid (l.take i=m.take i)/\Below w.heap.size w wr)
  case atStart=>exact ⟨0,rfl,rfl,Nat.zero_le _,(rfl:l.take 0=m.take 0),Below.refl _ _⟩
  case round =>
   obtain ⟨i,rfl,hg,hi,HT,hb⟩:=hrel;by_cases hlt:i<n
   ·have hli:(i:Int)<(n:Int):=by omega
    have hwi:IntKind.i64.wrap ((i:Int)+1)=(i:Int)+1:=by rw [IntKind.wrap_i64];omega
    have hil:i<l.length:=by rw [HN.out];exact hlt
    have him:i<m.length:=by rw [HM.out];exact hlt
    obtain ⟨b1,o1,rfl,q1⟩:=H1.out i hil;obtain ⟨b2,o2,rfl,q2⟩:=H2.out i him;have d1:=zAC hb q1;have d2:=zAC hb q2;have X:Hid (∃ z,l[i]=z/\z=l[i]):=⟨_,rfl,rfl⟩
    obtain ⟨x,hx⟩:∃ x,l[i]=x:=⟨_,rfl⟩
    obtain ⟨y,hy⟩:∃ y,m[i]=y:=⟨_,rfl⟩
    rw [hx] at d1;rw [hy] at d2;have HX:Hid (l[i]=x):=hx;have HY:Hid (m[i]=y):=hy;clear q1 q2 hx hy X;by_cases hxy:x=y
    ·have HT2:Hid (l.take (i+1)=m.take (i+1)):=zIn HT.out hil him (by rw [HX.out,HY.out];exact hxy);subst hxy;go_upto_region 6 with fail
     go_quiet (fail)
     go_wp2_with fail
     go_roundg (n - (i+1))
     case rel=>exact ⟨i+1,by simp,rfl,hlt,HT2,(clB hb)⟩
     case measure=>omega
    ·have hne:Hid (q=false):=by
      show q=false
      rw [<-HQ.out];refine decide_eq_false λe=>hxy ?_
      rw [<-HX.out,<-HY.out];simp only [e]
     go_upto_region 6 with fail
     go_quiet (fail)
     go_wp2;go_ret;exact ⟨by rw [hne.out];rfl,(clB hb)⟩
   ·have hli:¬ (i:Int)<(n:Int):=by omega
    have hqt:Hid (q=true):=by
     show q=true
     rw [<-HQ.out];have h:=HT.out;rw [List.take_of_length_le (by rw [HN.out];omega),List.take_of_length_le (by rw [HM.out];omega)] at h;exact decide_eq_true h
    go_wp2;go_ret;exact ⟨by rw [hqt.out];rfl,hb⟩
 ·have hne:decide (l=m)=false:=decide_eq_false λe=>hlen (by rw [e])
  have hz:¬ ((l.length:Int)=(m.length:Int)):=by omega
  rw [hne];clear r1 r2 hl hm;go_enter func108,ntmps108;go_wp2;go_ret;exact ⟨rfl,Below.refl _ _⟩
def zNS (x y:Wpl.Cl):Bool:=(x.s == y.s) && ((x.r == y.r) && (x.c == y.c))
def zCJ (x y:Wpl.Ar):Bool:=(x.s == y.s) && ((x.t == y.t) && ((x.l == y.l) && ((x.b == y.b) && (x.r == y.r))))
theorem zKw (x y:Wpl.Cl):zNS x y=true ↔ x=y:=by
 obtain ⟨a,b,c⟩:=x;obtain ⟨d,e,f⟩:=y;simp [zNS]
theorem zCk (x y:Wpl.Ar):zCJ x y=true ↔ x=y:=by
 obtain ⟨a,b,c,g,i⟩:=x;obtain ⟨d,e,f,h,j⟩:=y;simp [zCJ]
theorem zKz (x y:Wpl.Cl) (w:World):(binOp .eql 24 (.agg #[.int .i64 x.s,.int .i64 x.r,.int .i64 x.c]) (.agg #[.int .i64 y.s,.int .i64 y.r,.int .i64 y.c])).run prog w=.ok (.bool (zNS x y)) w:=by
 rw [run_eql_struct];unfold zNS;by_cases h1:x.s=y.s
 ·by_cases h2:x.r=y.r
  ·by_cases h3:x.c=y.c
   ·simp [go_sem,h1,h2,h3]
   ·simp [go_sem,h1,h2,h3]
  ·simp [go_sem,h1,h2]
 ·simp [go_sem,h1]
theorem zGV (x y:Wpl.Ar) (w:World):(binOp .eql 45 (.agg #[.int .i64 x.s,.int .i64 x.t,.int .i64 x.l,.int .i64 x.b,.int .i64 x.r]) (.agg #[.int .i64 y.s,.int .i64 y.t,.int .i64 y.l,.int .i64 y.b,.int .i64 y.r])).run prog w=.ok (.bool (zCJ x y)) w:=by
 rw [run_eql_struct];unfold zCJ;by_cases h1:x.s=y.s
 ·by_cases h2:x.t=y.t
  ·by_cases h3:x.l=y.l
   ·by_cases h4:x.b=y.b
    ·by_cases h5:x.r=y.r
     ·simp [go_sem,h1,h2,h3,h4,h5]
     ·simp [go_sem,h1,h2,h3,h4,h5]
    ·simp [go_sem,h1,h2,h3,h4]
   ·simp [go_sem,h1,h2,h3]
  ·simp [go_sem,h1,h2]
 ·simp [go_sem,h1]
def smI (x y:Wc.In):Bool:=(x.a == y.a) && ((x.b == y.b) && (zNO x.v y.v && (zNS x.ce y.ce && (zCJ x.ar y.ar && zCJ x.pr y.pr))))
theorem zA4 (x y:Wc.In) (t1 t2:Value) (l1 l2:List Int) (w:World) (h1:RdZ w t1 l1) (h2:RdZ w t2 l2) (hl:l1.length<=1000000) (hm:l2.length<=1000000) :
  CR 74 #[inV x t1,inV y t2] w (.bool (smI x y && decide (l1=l2))):=by
 have pA:=(AtL.new0 w 48 (zAD x t1)).alloc (.cells (zAD y t2).toArray 48);have pB:=AtL.new1 w (.cells (zAD x t1).toArray 48) 48 (zAD y t2);have hB:=zAJ (zAJ (Below.refl _ w) (.cells (zAD x t1).toArray 48)) (.cells (zAD y t2).toArray 48);have Z:∀ w',Below ((w.alloc (.cells (zAD x t1).toArray 48)).alloc (.cells (zAD y t2).toArray 48)).heap.size ((w.alloc (.cells (zAD x t1).toArray 48)).alloc (.cells (zAD y t2).toArray 48)) w'->_:=λw' hb=>zKP l1 l2 t1 t2 w' ((h1.below hB).below hb) ((h2.below hB).below hb) hl hm
 clear h1 h2 hl hm;have EV:=λw=>zC2 x.v.k x.v.n x.v.d x.v.t x.v.b x.v.f y.v.k y.v.n y.v.d y.v.t y.v.b y.v.f w
 have EC:=λw=>zKz x.ce y.ce w
 have ER:=λw=>zGV x.ar y.ar w
 have EP:=λw=>zGV x.pr y.pr w
 have HV:Hid (∃ q,zNO x.v y.v=q):=⟨_,rfl⟩
 have HC:Hid (∃ q,zNS x.ce y.ce=q):=⟨_,rfl⟩
 have HR:Hid (∃ q,zCJ x.ar y.ar=q):=⟨_,rfl⟩
 have HP:Hid (∃ q,zCJ x.pr y.pr=q):=⟨_,rfl⟩
 obtain ⟨qv,hv⟩:=HV.out;obtain ⟨qc,hc⟩:=HC.out;obtain ⟨qr,hr⟩:=HR.out;obtain ⟨qp,hp⟩:=HP.out;clear HV HC HR HP;rw [show eqV x.v.k x.v.n x.v.d x.v.t x.v.b x.v.f y.v.k y.v.n y.v.d y.v.t y.v.b y.v.f=qv from hv] at EV;rw [hc] at EC;rw [hr] at ER;rw [hp] at EP;have HV:Hid (zNO x.v y.v=qv):=hv;have HC:Hid (zNS x.ce y.ce=qc):=hc;have HR:Hid (zCJ x.ar y.ar=qr):=hr;have HP:Hid (zCJ x.pr y.pr=qp):=hp;clear hv hc hr hp;go_enter func74,ntmps74;go_upto_region 1 with fail
 generalize ((w.alloc (.cells (zAD x t1).toArray 48)).alloc (.cells (zAD y t2).toArray 48))=W at *;have e0:W.cell? ⟨w.heap.size,0,none⟩=some (.int .i64 x.op):=pA.2.1 0 _ rfl;have d0:W.cell? ⟨w.heap.size+1,0,none⟩=some (.int .i64 y.op):=pB.2.1 0 _ rfl;have e1:W.cell? ⟨w.heap.size,1,none⟩=some (.int .i64 x.a):=pA.2.1 1 _ rfl;have d1:W.cell? ⟨w.heap.size+1,1,none⟩=some (.int .i64 y.a):=pB.2.1 1 _ rfl;have e2:W.cell? ⟨w.heap.size,2,none⟩=some (.int .i64 x.b):=pA.2.1 2 _ rfl;have d2:W.cell? ⟨w.heap.size+1,2,none⟩=some (.int .i64 y.b):=pB.2.1 2 _ rfl;have e3:W.cell? ⟨w.heap.size,3,none⟩=some (.int .i64 x.v.k):=pA.2.1 3 _ rfl;have d3:W.cell? ⟨w.heap.size+1,3,none⟩=some (.int .i64 y.v.k):=pB.2.1 3 _ rfl;have e4:W.cell? ⟨w.heap.size,4,none⟩=some (.int .i64 x.v.n):=pA.2.1 4 _ rfl;have d4:W.cell? ⟨w.heap.size+1,4,none⟩=some (.int .i64 y.v.n):=pB.2.1 4 _ rfl;have e5:W.cell? ⟨w.heap.size,5,none⟩=some (.int .i64 x.v.d):=pA.2.1 5 _ rfl;have d5:W.cell? ⟨w.heap.size+1,5,none⟩=some (.int .i64 y.v.d):=pB.2.1 5 _ rfl;have e6:W.cell? ⟨w.heap.size,6,none⟩=some (.string x.v.t):=pA.2.1 6 _ rfl;have d6:W.cell? ⟨w.heap.size+1,6,none⟩=some (.string y.v.t):=pB.2.1 6 _ rfl;have e7:W.cell? ⟨w.heap.size,7,none⟩=some (.bool x.v.b):=pA.2.1 7 _ rfl;have d7:W.cell? ⟨w.heap.size+1,7,none⟩=some (.bool y.v.b):=pB.2.1 7 _ rfl;have e8:W.cell? ⟨w.heap.size,8,none⟩=some (.int .i64 x.v.f):=pA.2.1 8 _ rfl
 have d8:W.cell? ⟨w.heap.size+1,8,none⟩=some (.int .i64 y.v.f):=pB.2.1 8 _ rfl;have e9:W.cell? ⟨w.heap.size,9,none⟩=some (.int .i64 x.ce.s):=pA.2.1 9 _ rfl;have d9:W.cell? ⟨w.heap.size+1,9,none⟩=some (.int .i64 y.ce.s):=pB.2.1 9 _ rfl;have e10:W.cell? ⟨w.heap.size,10,none⟩=some (.int .i64 x.ce.r):=pA.2.1 10 _ rfl;have d10:W.cell? ⟨w.heap.size+1,10,none⟩=some (.int .i64 y.ce.r):=pB.2.1 10 _ rfl;have e11:W.cell? ⟨w.heap.size,11,none⟩=some (.int .i64 x.ce.c):=pA.2.1 11 _ rfl;have d11:W.cell? ⟨w.heap.size+1,11,none⟩=some (.int .i64 y.ce.c):=pB.2.1 11 _ rfl;have e12:W.cell? ⟨w.heap.size,12,none⟩=some (.int .i64 x.ar.s):=pA.2.1 12 _ rfl;have d12:W.cell? ⟨w.heap.size+1,12,none⟩=some (.int .i64 y.ar.s):=pB.2.1 12 _ rfl;have e13:W.cell? ⟨w.heap.size,13,none⟩=some (.int .i64 x.ar.t):=pA.2.1 13 _ rfl;have d13:W.cell? ⟨w.heap.size+1,13,none⟩=some (.int .i64 y.ar.t):=pB.2.1 13 _ rfl;have e14:W.cell? ⟨w.heap.size,14,none⟩=some (.int .i64 x.ar.l):=pA.2.1 14 _ rfl;have d14:W.cell? ⟨w.heap.size+1,14,none⟩=some (.int .i64 y.ar.l):=pB.2.1 14 _ rfl;have e15:W.cell? ⟨w.heap.size,15,none⟩=some (.int .i64 x.ar.b):=pA.2.1 15 _ rfl;have d15:W.cell? ⟨w.heap.size+1,15,none⟩=some (.int .i64 y.ar.b):=pB.2.1 15 _ rfl;have e16:W.cell? ⟨w.heap.size,16,none⟩=some (.int .i64 x.ar.r):=pA.2.1 16 _ rfl;have d16:W.cell? ⟨w.heap.size+1,16,none⟩=some (.int .i64 y.ar.r):=pB.2.1 16 _ rfl
 have e17:W.cell? ⟨w.heap.size,17,none⟩=some (.int .i64 x.pr.s):=pA.2.1 17 _ rfl;have d17:W.cell? ⟨w.heap.size+1,17,none⟩=some (.int .i64 y.pr.s):=pB.2.1 17 _ rfl;have e18:W.cell? ⟨w.heap.size,18,none⟩=some (.int .i64 x.pr.t):=pA.2.1 18 _ rfl;have d18:W.cell? ⟨w.heap.size+1,18,none⟩=some (.int .i64 y.pr.t):=pB.2.1 18 _ rfl;have e19:W.cell? ⟨w.heap.size,19,none⟩=some (.int .i64 x.pr.l):=pA.2.1 19 _ rfl;have d19:W.cell? ⟨w.heap.size+1,19,none⟩=some (.int .i64 y.pr.l):=pB.2.1 19 _ rfl;have e20:W.cell? ⟨w.heap.size,20,none⟩=some (.int .i64 x.pr.b):=pA.2.1 20 _ rfl;have d20:W.cell? ⟨w.heap.size+1,20,none⟩=some (.int .i64 y.pr.b):=pB.2.1 20 _ rfl;have e21:W.cell? ⟨w.heap.size,21,none⟩=some (.int .i64 x.pr.r):=pA.2.1 21 _ rfl;have d21:W.cell? ⟨w.heap.size+1,21,none⟩=some (.int .i64 y.pr.r):=pB.2.1 21 _ rfl;have e22:W.cell? ⟨w.heap.size,22,none⟩=some t1:=pA.2.1 22 _ rfl;have d22:W.cell? ⟨w.heap.size+1,22,none⟩=some t2:=pB.2.1 22 _ rfl;clear pA pB;by_cases h_a:x.a=y.a
 ·by_cases h_b:x.b=y.b
  ·cases qv with
   | false =>
    go_wp2;go_ret;exact ⟨by simp [smI,HV.out,HC.out,HR.out,HP.out],(clB hB)⟩
   | true =>
    cases qc with
    | false =>
     go_wp2;go_ret;exact ⟨by simp [smI,HV.out,HC.out,HR.out,HP.out],(clB hB)⟩
    | true =>
     cases qr with
     | false =>
      go_wp2;go_ret;exact ⟨by simp [smI,HV.out,HC.out,HR.out,HP.out],(clB hB)⟩
     | true =>
      cases qp with
      | false =>
       go_wp2;go_ret;exact ⟨by simp [smI,HV.out,HC.out,HR.out,HP.out],(clB hB)⟩
      | true =>
       go_wp2_with fail
       refine (Z _ (Below.refl _ _)).mono ?_;rintro e w1 ⟨rfl,hb1⟩;have hB1:=zAB hB hb1;go_wp2;go_ret;exact ⟨by simp [smI,h_a,h_b,HV.out,HC.out,HR.out,HP.out],(clB hB1)⟩
  ·go_wp2;go_ret;exact ⟨by simp [smI,h_a,h_b],(clB hB)⟩
 ·go_wp2;go_ret;exact ⟨by simp [smI,h_a],(clB hB)⟩
def v0I:Wt.Vl:=⟨0,0,0,⟨#[]⟩,false,0⟩
def c0I:Wpl.Cl:=⟨0,0,0⟩
def a0I:Wpl.Ar:=⟨0,0,0,0,0⟩
def zAG (k:Int):Wc.In:=⟨k,0,0,v0I,c0I,a0I,a0I⟩
abbrev zAH:Value:=.slice none 0 0
abbrev zAU (w:World) (x:Wc.In) (tv:Value):World:=(w.alloc (.cells (zAD x tv).toArray 48)).alloc (.cells #[.int .i64 0,.int .i64 0,.int .i64 0,.int .i64 0,.int .i64 0,.int .i64 0,.string ⟨#[]⟩,.bool false,.int .i64 0,.int .i64 0,.int .i64 0,.int .i64 0,.int .i64 0,.int .i64 0,.int .i64 0,.int .i64 0,.int .i64 0,.int .i64 0,.int .i64 0,.int .i64 0,.int .i64 0,.int .i64 0,.slice none 0 0] 48)
theorem zNH (x:Wc.In) (av:Option Addr) (n c:Nat):∀ v ∈ zAD x (.slice av n c),v.oneCell'=true:=by
 intro v hv;simp only [zAD,List.mem_cons,List.not_mem_nil,or_false] at hv;rcases hv with rfl | rfl | rfl | rfl | rfl | rfl | rfl | rfl | rfl | rfl | rfl | rfl | rfl | rfl | rfl | rfl | rfl | rfl | rfl | rfl | rfl | rfl | rfl <;> rfl
theorem zAg (x:Wc.In) (av:Option Addr) (n c:Nat):(zAD x (.slice av n c)).toArray.all (·.oneCell')=true:=all_oneCell_toArray (zNH x av n c)
abbrev zQf (ka kb:Nat) (x:Wc.In) (tv:Value) (W:World):Prop :=
 W.cell? ⟨ka,3,none⟩=some (.int .i64 x.v.k)/\W.cell? ⟨ka,4,none⟩=some (.int .i64 x.v.n)/\W.cell? ⟨ka,5,none⟩=some (.int .i64 x.v.d)/\W.cell? ⟨ka,6,none⟩=some (.string x.v.t)/\W.cell? ⟨ka,7,none⟩=some (.bool x.v.b)/\W.cell? ⟨ka,8,none⟩=some (.int .i64 x.v.f)/\W.frozen? ⟨kb,3,none⟩=false/\W.frozen? ⟨kb,4,none⟩=false/\W.frozen? ⟨kb,5,none⟩=false/\W.frozen? ⟨kb,6,none⟩=false/\W.frozen? ⟨kb,7,none⟩=false/\W.frozen? ⟨kb,8,none⟩=false
theorem zFx {y:Wc.In} {tu:Value} (h0:AtL W ka (zAD x tv)) (h1:AtL W kb (zAD y tu)):zQf ka kb x tv W :=
 ⟨h0.2.1 3 _ rfl,h0.2.1 4 _ rfl,h0.2.1 5 _ rfl,h0.2.1 6 _ rfl,h0.2.1 7 _ rfl,h0.2.1 8 _ rfl,h1.2.2 3 (by show 3<23;decide),h1.2.2 4 (by show 4<23;decide),h1.2.2 5 (by show 5<23;decide),h1.2.2 6 (by show 6<23;decide),h1.2.2 7 (by show 7<23;decide),h1.2.2 8 (by show 8<23;decide)⟩
theorem zBv (h:zQf ka kb x tv W) (hne:kb ≠ ka) (j:Nat) (u:Value):zQf ka kb x tv (W.setCell ⟨kb,j,none⟩ u):=by
 obtain ⟨h3,h4,h5,h6,h7,h8,g3,g4,g5,g6,g7,g8⟩:=h;refine ⟨?_,?_,?_,?_,?_,?_,?_,?_,?_,?_,?_,?_⟩;any_goals rw [World.cell?_setCell_far _ _ _ _ (by simpa using hne)];assumption
 all_goals rw [World.frozen?_setCell];assumption
theorem zL3 (x:Wc.In) (av:Option Addr) (n c:Nat) (tl:List Int) (w:World) (hk:x.op=1) (hz:RdZ w (.slice av n c) tl) (hl:tl.length<=1000000) (h1:-9223372036854775808<=x.v.n) (h2:x.v.n<=9223372036854775807) (h3:-9223372036854775808<=x.v.d) (h4:x.v.d<=9223372036854775807) (hs:x.v.t.size<=9223372036854775807) :
  CR 50 #[inV x (.slice av n c)] w (.bool (Wv.right x.v.k x.v.n x.v.d x.v.t x.v.b x.v.f && (smI x ⟨1,0,0,x.v,c0I,a0I,a0I⟩ && decide (tl=[])))):=by
 have C:=(λw=>zD4 x.v w h1 h2 h3 h4 hs:∀ w:World,CR 69 #[.agg #[.int .i64 x.v.k,.int .i64 x.v.n,.int .i64 x.v.d,.string x.v.t,.bool x.v.b,.int .i64 x.v.f]] w (.bool (Wv.right x.v.k x.v.n x.v.d x.v.t x.v.b x.v.f)))
 have CS:∀ w',Below w.heap.size w w'->Calls prog 74 #[.agg (zAD x (.slice av n c)).toArray,.agg (zAD ⟨1,0,0,x.v,c0I,a0I,a0I⟩ zAH).toArray] w' λe w''=>e=.returned (.bool (smI x ⟨1,0,0,x.v,c0I,a0I,a0I⟩ && decide (tl=[])))/\Below w'.heap.size w' w'':=λw' hb=>zA4 x ⟨1,0,0,x.v,c0I,a0I,a0I⟩ _ _ tl [] w' (hz.below hb) (RdZ.nil _) hl (by first | exact hl | simp)
 obtain ⟨tv,htv⟩:∃ tv,Value.slice av n c=tv:=⟨_,rfl⟩
 rw [htv] at CS ⊢;generalize (smI x ⟨1,0,0,x.v,c0I,a0I,a0I⟩ && decide (tl=[]))=R at *;generalize Wv.right x.v.k x.v.n x.v.d x.v.t x.v.b x.v.f=q at *;have pA0:AtL (zAU w x tv) w.heap.size (zAD x tv):=(AtL.new0 w _ _).alloc _;have pO0:AtL (zAU w x tv) (w.heap.size+1) (zAD (zAG 0) zAH):=AtL.new1 w _ _ _;have hth:World.there (zAU w x tv) (w.heap.size+1) 0 (zAD (zAG 1) zAH).toArray.size:=pO0.there;have hne:w.heap.size+1 ≠ w.heap.size:=by omega
 have pA:=pA0.farAll hne 0 (zAD (zAG 1) zAH);have pO:AtL ((zAU w x tv).setCells (w.heap.size+1) 0 (zAD (zAG 1) zAH)) (w.heap.size+1) (zAD (zAG 1) zAH):=pO0.setAll rfl;have hBa:Below w.heap.size w ((zAU w x tv).setCells (w.heap.size+1) 0 (zAD (zAG 1) zAH)):=zAt (zAJ (zAJ (Below.refl _ w) _) _) (Nat.le_succ _) _ 0;clear pA0 pO0;have n0:(zAD x tv)[0]? = some (.int .i64 1):=by rw [<-hk];rfl
 have a0:World.cell? ((zAU w x tv).setCells (w.heap.size+1) 0 (zAD (zAG 1) zAH)) ⟨w.heap.size,0,none⟩=some (.int .i64 1):=pA.2.1 0 _ n0;show Calls _ _ #[.agg (zAD x tv).toArray] _ _
 have hS:zQf w.heap.size (w.heap.size+1) x tv ((zAU w x tv).setCells (w.heap.size+1) 0 (zAD (zAG 1) zAH)):=zFx pA pO;clear hz hl htv;cases q
 all_goals
  go_enter func50,ntmps50;go_upto_region 1 with fail
  go_upto_region 2 with ((with_reducible refine wpList_store_mid ?_ 48 (.tmp 3) (.tmp 7) ?_ (w.heap.size+1) 0 (zAD (zAG 1) zAH).toArray ?_ ?_ ?_ ?_ ?_ ?_);rfl;rfl;rfl;rfl;exact hth;kernel_rfl;exact zAg _ _ _ _)
  generalize (zAU w x tv).setCells (w.heap.size+1) 0 (zAD (zAG 1) zAH)=W0 at *;clear hth;go_upto_region 4 with fail
  go_region_held3 (zQf w.heap.size (w.heap.size+1) x tv)
   (with_reducible first | exact hS | assumption | exact zFx pA1 pO1 | exact (zBv (zBv (zBv (zBv (zBv (zBv (by assumption) (by omega) _ _) (by omega) _ _) (by omega) _ _) (by omega) _ _) (by omega) _ _) (by omega) _ _) | exact zFx (AtL.drew pA) (AtL.drew pO))
   (first | (go_at_call 69;refine (C _).mono ?_;rintro e w1 ⟨rfl,hb⟩;have pA1:=AtL.below hb (AtL.drew pA);have pO1:=AtL.below hb (AtL.drew pO);have o3:=pO1.2.1 3 _ rfl;have o4:=pO1.2.1 4 _ rfl;have o5:=pO1.2.1 5 _ rfl;have o6:=pO1.2.1 6 _ rfl;have o7:=pO1.2.1 7 _ rfl;have o8:=pO1.2.1 8 _ rfl;have hB1:=zAB hBa.drew hb))
  all_goals
   clear pA pO hS C hBa o3 o4 o5 o6 o7 o8 a0;have pA2:AtL ((((((w1.setCell ⟨w.heap.size+1,3,none⟩ (.int .i64 x.v.k)).setCell ⟨w.heap.size+1,4,none⟩ (.int .i64 x.v.n)).setCell ⟨w.heap.size+1,5,none⟩ (.int .i64 x.v.d)).setCell ⟨w.heap.size+1,6,none⟩ (.string x.v.t)).setCell ⟨w.heap.size+1,7,none⟩ (.bool x.v.b)).setCell ⟨w.heap.size+1,8,none⟩ (.int .i64 x.v.f)) w.heap.size (zAD x tv):=((((((pA1.far hne 3 (.int .i64 x.v.k)).far hne 4 (.int .i64 x.v.n)).far hne 5 (.int .i64 x.v.d)).far hne 6 (.string x.v.t)).far hne 7 (.bool x.v.b)).far hne 8 (.int .i64 x.v.f))
   have pO2:AtL ((((((w1.setCell ⟨w.heap.size+1,3,none⟩ (.int .i64 x.v.k)).setCell ⟨w.heap.size+1,4,none⟩ (.int .i64 x.v.n)).setCell ⟨w.heap.size+1,5,none⟩ (.int .i64 x.v.d)).setCell ⟨w.heap.size+1,6,none⟩ (.string x.v.t)).setCell ⟨w.heap.size+1,7,none⟩ (.bool x.v.b)).setCell ⟨w.heap.size+1,8,none⟩ (.int .i64 x.v.f)) (w.heap.size+1) (zAD ⟨1,0,0,x.v,c0I,a0I,a0I⟩ zAH):=((((((pO1.set 3 (.int .i64 x.v.k)).set 4 (.int .i64 x.v.n)).set 5 (.int .i64 x.v.d)).set 6 (.string x.v.t)).set 7 (.bool x.v.b)).set 8 (.int .i64 x.v.f))
   have hB2:Below w.heap.size w ((((((w1.setCell ⟨w.heap.size+1,3,none⟩ (.int .i64 x.v.k)).setCell ⟨w.heap.size+1,4,none⟩ (.int .i64 x.v.n)).setCell ⟨w.heap.size+1,5,none⟩ (.int .i64 x.v.d)).setCell ⟨w.heap.size+1,6,none⟩ (.string x.v.t)).setCell ⟨w.heap.size+1,7,none⟩ (.bool x.v.b)).setCell ⟨w.heap.size+1,8,none⟩ (.int .i64 x.v.f)):=(clB hB1)
   clear pA1 pO1 hB1;generalize ((((((w1.setCell ⟨w.heap.size+1,3,none⟩ (.int .i64 x.v.k)).setCell ⟨w.heap.size+1,4,none⟩ (.int .i64 x.v.n)).setCell ⟨w.heap.size+1,5,none⟩ (.int .i64 x.v.d)).setCell ⟨w.heap.size+1,6,none⟩ (.string x.v.t)).setCell ⟨w.heap.size+1,7,none⟩ (.bool x.v.b)).setCell ⟨w.heap.size+1,8,none⟩ (.int .i64 x.v.f))=W2 at *;have rA:=pA2.range;have rO:=pO2.range;clear pA2 pO2;go_wp2_with (first | ((with_reducible refine zAA ?_ 48 (.tmp 1) ?_ w.heap.size 0 ?_ (zAD x tv) _ ?_ underlying48 ?_ ?_ ?_);rfl;rfl;rfl;exact rA;rfl;kernel_rfl) | ((with_reducible refine zAA ?_ 48 (.tmp 3) ?_ (w.heap.size+1) 0 ?_ (zAD ⟨1,0,0,x.v,c0I,a0I,a0I⟩ zAH) _ ?_ underlying48 ?_ ?_ ?_);rfl;rfl;rfl;exact rO;rfl;kernel_rfl) | (go_at_call 74;refine (CS _ hB2).mono ?_;rintro e w3 ⟨rfl,hb3⟩;have hB3:=zAB hB2 hb3))
   go_wp2;go_ret;first
   | exact ⟨by simp,hB2⟩
   | exact ⟨by simp,hB3⟩
end Go.Proofs.YtpkdhcijcndgnaaGreatDoor
namespace Go.Proofs.YtpkdhcijcndgnaaGreatDoor.Wf
open Go.Proofs.YtpkdhcijcndgnaaGreatDoor
def idx (s:ByteArray):List ByteArray->Nat->Int
 | [],_=>-1
 | t::r,i=>if t=s then (i:Int) else idx s r (i+1)
def shN (own:Int) (nm:List ByteArray) (s:ByteArray):Int:=if s=⟨#[]⟩ then own else idx s nm 0
def zCN (x:Wt.Nd):Wpl.Ar:=⟨0,min x.a.r x.b.r,min x.a.c x.b.c,max x.a.r x.b.r,max x.a.c x.b.c⟩
def zA5 (own:Int) (nm:List ByteArray) (x:Wt.Nd):Wpl.Ar:={zCN x with s:=shN own nm x.a.s}
def zEK (own:Int) (nm:List ByteArray) (x:Wt.Nd):Wpl.Cl:=⟨shN own nm x.a.s,x.a.r,x.a.c⟩
def isA (x:Wt.Nd):Bool:=x.k == 3
def zAc (s:ByteArray):Nat:=fnN.findIdx (λl=>decide ((⟨l.toArray⟩:ByteArray)=s))
def zAi (p:List UInt8):List Wt.Nd->Nat->Bool
 | [],_=>true
 | x::r,i=>if (p.getD (min i (p.length - 1)) 0 == 97 && !isA x) || (p.getD (min i (p.length - 1)) 0 == 118 && isA x) then false else zAi p r (i+1)
def zAv (l:List Wt.Nd):List Wt.Nd:=l.filter isA
def zAu (id:Int) (l:List Wt.Nd):Bool :=
 if Wc.pairs id then
  let a:=zCN ((zAv l).headD ⟨0,v0I,0,⟨#[]⟩,0,Wt.r0,Wt.r0⟩)
  let b:=zCN ((zAv l).getLastD ⟨0,v0I,0,⟨#[]⟩,0,Wt.r0,Wt.r0⟩)
  (a.b - a.t == b.b - b.t) && (a.r - a.l == b.r - b.l)
 else true
def zHa (x:Wt.Nd) (ks:List Wt.Nd):Int :=
 let id:Int:=(zAc x.nm:Nat)
 if zAz id=false then 80
 else if x.ar<(zAN id).l \/ (zAN id).m<x.ar then 81
 else if zAi (zAN id).p.data.toList ks 0=false then 82
 else if zAu id ks=false then 83 else 0
def zCD (own:Int) (nm:List ByteArray) (x:Wt.Nd) (ks:List Wt.Nd):Int :=
 if x.k=2 \/ x.k=3 then (if shN own nm x.a.s<0 then 84 else 0)
 else if x.k=4 \/ x.k=5 then (if ks.any isA then 82 else 0)
 else if x.k=6 then zHa x ks else 0
def zO2:List Int->Int
 | []=>0
 | a::r=>if a=0 then zO2 r else a
def zB1 (own:Int) (nm:List ByteArray):(n:Nat)->Tr n->Int
 | 0,t=>Empty.elim t
 | n+1,t=>zO2 (zCD own nm (Br.x t) ((Br.ks t).map (hd n))::(Br.ks t).map (zB1 own nm n))
abbrev I:=Wc.In × List Int
def ins (o a b:Int):I:=(⟨o,a,b,v0I,c0I,a0I,a0I⟩,[])
def zB5 (v:Wt.Vl):I:=(⟨1,0,0,v,c0I,a0I,a0I⟩,[])
def zFL (c:Wpl.Cl):I:=(⟨2,0,0,v0I,c,a0I,a0I⟩,[])
def zAw (o b:Int) (a p:Wpl.Ar):I:=(⟨o,0,b,v0I,c0I,a,p⟩,[])
def zDX (k:Int):Wt.Vl:=⟨1,k,1,⟨#[]⟩,false,0⟩
def zK1:Wt.Vl:=⟨3,0,0,⟨#[]⟩,false,0⟩
def zA0 {α:Type} (f:α->Nat->List I):List α->Nat->List I
 | [],_=>[]
 | k::r,a=>f k a++zA0 f r (a+(f k a).length)
def zAd {α:Type} (f:α->Nat->List I) (k:α) (a:Nat):List I:=f k a++[ins 7 0 0]
section
variable (own:Int) (nm:List ByteArray)
def zCE {α:Type} (h:α->Wt.Nd) (f:α->Nat->List I) (k:α) (a:Nat):List I :=
 if isA (h k) then [zAw 8 0 (zA5 own nm (h k)) a0I] else zAd f k a
def zCB {α:Type} (h:α->Wt.Nd) (f:α->Nat->List I) (id:Int) (ks:List α) (a:Nat):List I :=
 let ars:=zAv (ks.map h)
 let vs:=ks.filter (λk=>!isA (h k))
 let x:=zA5 own nm (ars.headD ⟨0,v0I,0,⟨#[]⟩,0,Wt.r0,Wt.r0⟩)
 let y:=zA5 own nm (ars.getLastD ⟨0,v0I,0,⟨#[]⟩,0,Wt.r0,Wt.r0⟩)
 if id=26 then [zB5 (zDX (x.b - x.t+1))]
 else if id=27 then [zB5 (zDX (x.r - x.l+1))]
 else if id=25 then zA0 f vs a++[zAw 11 vs.length x a0I]
 else ins 6 id 0::(zA0 (zAd f) vs (a+1)++[if Wc.pairs id then zAw 9 0 x y else zAw 8 0 x a0I,ins 10 0 0])
def zCC {α:Type} (f:α->Nat->List I) (yes:α) (no:List α) (a:Nat):List I :=
 let y:=f yes (a+1)
 let m:=a+1+y.length+1
 let z:=if no.isEmpty then [zB5 zK1] else zA0 f no m
 ins 12 m (m+z.length:Nat)::(y++ins 13 (m+z.length:Nat) 0::z)
def chB {α:Type} (f:α->Nat->List I) (e:Int):List α->Nat->List I
 | [],_=>[]
 | k::r,a=>ins 13 e 0::(f k (a+1)++chB f e r (a+1+(f k (a+1)).length))
def chT {α:Type} (f:α->Nat->List I):List α->Nat->List Int
 | [],_=>[]
 | k::r,a=>((a+1:Nat):Int)::chT f r (a+1+(f k (a+1)).length)
def zBX {α:Type} (f:α->Nat->List I) (l:List α) (a:Nat):List I :=
 match l with
 | []=>[(⟨15,0,(a+1:Nat),v0I,c0I,a0I,a0I⟩,[])]
 | k::r =>
  let y:=f k (a+1)
  let m:=a+1+y.length
  let e:=m+(chB f 0 r m).length
  (⟨15,0,(e:Nat),v0I,c0I,a0I,a0I⟩,((a+1:Nat):Int)::chT f r m)::(y++chB f e r m)
def zBm {α:Type} (f:α->Nat->List I) (id:Int) (ks:List α) (a:Nat):List I :=
 match ks with
 | []=>[]
 | c::r =>
  let y:=f c a
  y++(match r with
   | []=>if id=32 then zBX f [] (a+y.length) else []
   | u::no=>if id=30 then zCC f u no (a+y.length)
    else if id=31 then ins 14 (a+y.length+1+(f u (a+y.length+1)).length:Nat) 0::f u (a+y.length+1)
    else zBX f (u::no) (a+y.length))
def zBs {α:Type} (h:α->Wt.Nd) (f:α->Nat->List I) (x:Wt.Nd) (ks:List α) (a:Nat):List I :=
 let id:Int:=(zAc x.nm:Nat)
 let c:=(zAN id).c
 if c=4 then zA0 f ks a++[ins 5 id x.ar]
 else if c=1 then ins 6 id 0::(zA0 (zCE own nm h f) ks (a+1)++[ins 10 0 0])
 else if c=2 then zCB own nm h f id ks a
 else zBm f id ks a
def zAo {α:Type} (h:α->Wt.Nd) (f:α->Nat->List I) (x:Wt.Nd) (ks:List α) (a:Nat):List I :=
 if x.k=1 then [zB5 x.v]
 else if x.k=2 then [zFL (zEK own nm x)]
 else if x.k=4 then zA0 f ks a++[ins 3 x.op 0]
 else if x.k=5 then zA0 f ks a++[ins 4 x.op 0]
 else if x.k=6 then zBs own nm h f x ks a else []
def cod:(n:Nat)->Tr n->Nat->List I
 | 0,t,_=>Empty.elim t
 | n+1,t,a=>zAo own nm (hd n) (cod n) (Br.x t) (Br.ks t) a
end
end Go.Proofs.YtpkdhcijcndgnaaGreatDoor.Wf
