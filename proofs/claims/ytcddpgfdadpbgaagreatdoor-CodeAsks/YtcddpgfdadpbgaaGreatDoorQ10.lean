/- KHtD, KHtE. -/
import Derived.Test.YtcddpgfdadpbgaaGreatDoorQ09
set_option maxHeartbeats 4000000
set_option maxRecDepth 100000
namespace Go.Proofs.YtcddpgfdadpbgaaGreatDoor
open Tryz
open Go.RowKit
set_option linter.unusedVariables false
variable {w w' w1:World} {F:List (Nat × Int)} {b mb:Nat} {lv:Value}
def BPost (b mb:Nat) (lv:Value) (w w':World) (F2:List (Nat × Int)):Prop:=(∃ lv',FS w' b mb lv' F2)/\Fr (b::mb::lv.ownBlock.toList) w w'/\(∀ u,w.cell? ⟨b,0,none⟩=some u->w'.cell? ⟨b,0,none⟩=some u)
theorem BPost.of_below (h:FS w b mb lv F) (hb:Below w.heap.size w w'):BPost b mb lv w w' F:=⟨⟨lv,h.below hb⟩,Fr.of_below _ hb,λu hu=>zAC hb hu⟩
theorem BPost.front {w2:World} (hb:Below w.heap.size w w1) (h:BPost b mb lv w1 w2 F):BPost b mb lv w w2 F:=⟨h.1,(Fr.of_below _ hb).trans h.2.1,λu hu=>h.2.2 u (zAC hb hu)⟩
theorem zH0 (b mb:Nat) (lv:Value) (F:List (Nat × Int)) (m:Nat) (a:Int) (w:World) (hfs:FS w b mb lv F) (hlF:F.length<=1000000) :
  Calls prog 96 #[.pointer (some ⟨b,1,none⟩),.int .i64 (m:Int),.int .i64 a] w λe w'=>∃ k F2,Wc.behF F 6 a m=some (k,F2)/\e=.returned (.int .i64 (k:Int))/\BPost b mb lv w w' F2:=by
 cases hk:F.findIdx? (· == (m,a)) with
 | some k =>
  refine (zHT b mb lv F m a k w hfs hk).mono ?_;rintro e w' ⟨rfl,hb⟩;exact ⟨k+1,F,by simp [Wc.behF,hk],by simp,BPost.of_below hfs hb⟩
 | none =>
  refine (zFy b mb lv F m a w hfs hlF hk).mono ?_;rintro e w' ⟨rfl,h1,h2,h3⟩;exact ⟨F.length+1,F++[(m,a)],by simp [Wc.behF,hk],by simp,h1,h2,h3⟩
def zCn (F:List (Nat × Int)) (m:Nat):Nat × Int:=if m=0 then (0,0) else F.getD (m - 1) (0,0)
theorem zBH (b mb:Nat) (lv:Value) (F:List (Nat × Int)) (m:Nat) (w:World) (hfs:FS w b mb lv F) (hm:m<=F.length) (hlF:F.length<=1000000) :
  CR 95 #[.pointer (some ⟨b,1,none⟩),.int .i64 (m:Int)] w (.tuple #[.agg #[.int .i64 ((zCn F m).1:Int),.int .i64 (zCn F m).2],.bool (decide (m ≠ 0))]):=by
 cases m with
 | zero=>exact zEo b 1 w
 | succ i =>
  have h:=zHc b 1 (F.map λx=>((x.1:Int),x.2)) i w hfs.list (by simp;omega) (by simpa using hlF);have e:zCn F (i+1)=F[i]'(by omega):=by
   unfold zCn;rw [if_neg (by omega),Nat.add_sub_cancel,List.getD_eq_getElem?_getD,List.getElem?_eq_getElem (by omega)];rfl
  rw [e];simp only [List.getElem_map] at h;exact h
theorem zGU (x:Wc.In) (tv:Value) (b mb:Nat) (lv:Value) (F:List (Nat × Int)) (m:Nat) (w:World) (hfs:FS w b mb lv F) (hm:m<=F.length) (hlF:F.length<=1000000) (hk:x.op=6) :
  Calls prog 65 #[.pointer (some ⟨b,1,none⟩),inV x tv,.int .i64 (m:Int)] w λe w'=>∃ k F2,Wc.behF F 6 x.a m=some (k,F2)/\e=.returned (.tuple #[.int .i64 (k:Int),.bool true])/\BPost b mb lv w w' F2:=by
 have pA:=AtL.new0 w 52 (zAD x tv);have hB:=zAJ (Below.refl _ w) (.cells (zAD x tv).toArray 52);have TP:=λw1 (hb:Below w.heap.size w w1)=>zBH b mb lv F m w1 (hfs.below hb) hm hlF
 obtain ⟨tp,htp⟩:∃ t,zCn F m=t:=⟨_,rfl⟩
 rw [htp] at TP;obtain ⟨tn,ti⟩:=tp;simp only at TP;obtain ⟨sm,hsm⟩:∃ s,decide (m ≠ 0)=s:=⟨_,rfl⟩
 rw [hsm] at TP;go_enter func65,ntmps65;go_upto_region 1 with fail
 generalize (w.alloc (.cells (zAD x tv).toArray 52))=W at *;have TP1:=TP W hB;clear TP;go_wp2_with fail
 refine TP1.mono ?_;rintro e w1 ⟨rfl,hb1⟩;replace pA:=AtL.below hb1 pA
 replace hB:=zAB hB hb1
 have hk0:(zAD x tv)[0]? = some (.int .i64 (6)):=by rw [<-hk];rfl
 have a0:=pA.2.1 0 _ hk0;have a1:=pA.2.1 1 _ rfl;have p8:=AtL.new0 w1 151 [.int .i64 (tn:Int),.int .i64 ti];have hB8:=zAJ (Below.refl _ w1) (.cells #[.int .i64 (tn:Int),.int .i64 ti] 151);replace hB:=zAB hB hB8
 replace a0:=zAC hB8 a0
 replace a1:=zAC hB8 a1
 have t0:=p8.2.1 0 _ rfl;have t1:=p8.2.1 1 _ rfl;clear hb1 pA TP1 p8 hB8;go_upto_region 2 with fail
 generalize (w1.alloc (.cells #[.int .i64 (tn:Int),.int .i64 ti] 151))=W2 at *;have MA:=zH0 b mb lv F m x.a W2 (hfs.below hB) hlF;go_wp2_with fail
 refine MA.mono ?_;rintro e w3 ⟨k,F2,hbe,rfl,hP⟩;go_wp2;go_ret2
 exact ⟨k,F2,hbe,rfl,BPost.front hB hP⟩
theorem zHB (x:Wc.In) (tv:Value) (b mb:Nat) (lv:Value) (F:List (Nat × Int)) (m:Nat) (w:World) (hfs:FS w b mb lv F) (hm:m<=F.length) (hlF:F.length<=1000000) (hk:x.op=7) :
  Calls prog 65 #[.pointer (some ⟨b,1,none⟩),inV x tv,.int .i64 (m:Int)] w λe w'=>(e=.returned (.tuple #[.int .i64 (m:Int),.bool (decide (m ≠ 0))]))/\Below w.heap.size w w':=by
 have pA:=AtL.new0 w 52 (zAD x tv);have hB:=zAJ (Below.refl _ w) (.cells (zAD x tv).toArray 52);have TP:=λw1 (hb:Below w.heap.size w w1)=>zBH b mb lv F m w1 (hfs.below hb) hm hlF
 obtain ⟨tp,htp⟩:∃ t,zCn F m=t:=⟨_,rfl⟩
 rw [htp] at TP;obtain ⟨tn,ti⟩:=tp;simp only at TP;obtain ⟨sm,hsm⟩:∃ s,decide (m ≠ 0)=s:=⟨_,rfl⟩
 rw [hsm] at TP;rw [hsm];go_enter func65,ntmps65;go_upto_region 1 with fail
 generalize (w.alloc (.cells (zAD x tv).toArray 52))=W at *;have TP1:=TP W hB;clear TP;go_wp2_with fail
 refine TP1.mono ?_;rintro e w1 ⟨rfl,hb1⟩;replace pA:=AtL.below hb1 pA
 replace hB:=zAB hB hb1
 have hk0:(zAD x tv)[0]? = some (.int .i64 (7)):=by rw [<-hk];rfl
 have a0:=pA.2.1 0 _ hk0;have a1:=pA.2.1 1 _ rfl;have p8:=AtL.new0 w1 151 [.int .i64 (tn:Int),.int .i64 ti];have hB8:=zAJ (Below.refl _ w1) (.cells #[.int .i64 (tn:Int),.int .i64 ti] 151);replace hB:=zAB hB hB8
 replace a0:=zAC hB8 a0
 replace a1:=zAC hB8 a1
 have t0:=p8.2.1 0 _ rfl;have t1:=p8.2.1 1 _ rfl;clear hb1 pA TP1 p8 hB8;go_upto_region 2 with fail
 generalize (w1.alloc (.cells #[.int .i64 (tn:Int),.int .i64 ti] 151))=W2 at *;cases sm
 ·go_wp2;go_ret2
  exact ⟨by simp,(clB hB)⟩
 ·go_wp2;go_ret2
  exact ⟨by simp,(clB hB)⟩
theorem zHM (x:Wc.In) (tv:Value) (b mb:Nat) (lv:Value) (F:List (Nat × Int)) (m:Nat) (w:World) (hfs:FS w b mb lv F) (hm:m<=F.length) (hlF:F.length<=1000000) (hk:x.op=8) :
  Calls prog 65 #[.pointer (some ⟨b,1,none⟩),inV x tv,.int .i64 (m:Int)] w λe w'=>(e=.returned (.tuple #[.int .i64 (m:Int),.bool (decide (m ≠ 0) && !Wc.pairs (zCn F m).2)]))/\Below w.heap.size w w':=by
 have pA:=AtL.new0 w 52 (zAD x tv);have hB:=zAJ (Below.refl _ w) (.cells (zAD x tv).toArray 52);have TP:=λw1 (hb:Below w.heap.size w w1)=>zBH b mb lv F m w1 (hfs.below hb) hm hlF
 obtain ⟨tp,htp⟩:∃ t,zCn F m=t:=⟨_,rfl⟩
 rw [htp] at TP;obtain ⟨tn,ti⟩:=tp;simp only at TP;obtain ⟨sm,hsm⟩:∃ s,decide (m ≠ 0)=s:=⟨_,rfl⟩
 rw [hsm] at TP;have PA:=λw=>zBs ti w
 obtain ⟨pq,hpq⟩:∃ q,Wc.pairs ti=q:=⟨_,rfl⟩
 rw [hpq] at PA;have hres:(decide (m ≠ 0) && !Wc.pairs (zCn F m).2)=(sm && !pq):=by rw [htp,hsm,<-hpq]
 rw [hres];go_enter func65,ntmps65;go_upto_region 1 with fail
 generalize (w.alloc (.cells (zAD x tv).toArray 52))=W at *;have TP1:=TP W hB;clear TP;go_wp2_with fail
 refine TP1.mono ?_;rintro e w1 ⟨rfl,hb1⟩;replace pA:=AtL.below hb1 pA
 replace hB:=zAB hB hb1
 have hk0:(zAD x tv)[0]? = some (.int .i64 (8)):=by rw [<-hk];rfl
 have a0:=pA.2.1 0 _ hk0;have a1:=pA.2.1 1 _ rfl;have p8:=AtL.new0 w1 151 [.int .i64 (tn:Int),.int .i64 ti];have hB8:=zAJ (Below.refl _ w1) (.cells #[.int .i64 (tn:Int),.int .i64 ti] 151);replace hB:=zAB hB hB8
 replace a0:=zAC hB8 a0
 replace a1:=zAC hB8 a1
 have t0:=p8.2.1 0 _ rfl;have t1:=p8.2.1 1 _ rfl;clear hb1 pA TP1 p8 hB8;go_upto_region 2 with fail
 generalize (w1.alloc (.cells #[.int .i64 (tn:Int),.int .i64 ti] 151))=W2 at *;cases sm
 ·clear PA;go_wp2;go_ret2
  exact ⟨by simp,(clB hB)⟩
 ·go_wp2_with fail
  refine (PA _).mono ?_;rintro e w3 ⟨rfl,rfl⟩;cases pq
  ·go_wp2;go_ret2
   exact ⟨by simp,(clB hB)⟩
  ·go_wp2;go_ret2
   exact ⟨by simp,(clB hB)⟩
theorem zHW (x:Wc.In) (tv:Value) (b mb:Nat) (lv:Value) (F:List (Nat × Int)) (m:Nat) (w:World) (hfs:FS w b mb lv F) (hm:m<=F.length) (hlF:F.length<=1000000) (hk:x.op=9) :
  Calls prog 65 #[.pointer (some ⟨b,1,none⟩),inV x tv,.int .i64 (m:Int)] w λe w'=>(e=.returned (.tuple #[.int .i64 (m:Int),.bool (decide (m ≠ 0) && Wc.pairs (zCn F m).2)]))/\Below w.heap.size w w':=by
 have pA:=AtL.new0 w 52 (zAD x tv);have hB:=zAJ (Below.refl _ w) (.cells (zAD x tv).toArray 52);have TP:=λw1 (hb:Below w.heap.size w w1)=>zBH b mb lv F m w1 (hfs.below hb) hm hlF
 obtain ⟨tp,htp⟩:∃ t,zCn F m=t:=⟨_,rfl⟩
 rw [htp] at TP;obtain ⟨tn,ti⟩:=tp;simp only at TP;obtain ⟨sm,hsm⟩:∃ s,decide (m ≠ 0)=s:=⟨_,rfl⟩
 rw [hsm] at TP;have PA:=λw=>zBs ti w
 obtain ⟨pq,hpq⟩:∃ q,Wc.pairs ti=q:=⟨_,rfl⟩
 rw [hpq] at PA;have hres:(decide (m ≠ 0) && Wc.pairs (zCn F m).2)=(sm && pq):=by rw [htp,hsm,<-hpq]
 rw [hres];go_enter func65,ntmps65;go_upto_region 1 with fail
 generalize (w.alloc (.cells (zAD x tv).toArray 52))=W at *;have TP1:=TP W hB;clear TP;go_wp2_with fail
 refine TP1.mono ?_;rintro e w1 ⟨rfl,hb1⟩;replace pA:=AtL.below hb1 pA
 replace hB:=zAB hB hb1
 have hk0:(zAD x tv)[0]? = some (.int .i64 (9)):=by rw [<-hk];rfl
 have a0:=pA.2.1 0 _ hk0;have a1:=pA.2.1 1 _ rfl;have p8:=AtL.new0 w1 151 [.int .i64 (tn:Int),.int .i64 ti];have hB8:=zAJ (Below.refl _ w1) (.cells #[.int .i64 (tn:Int),.int .i64 ti] 151);replace hB:=zAB hB hB8
 replace a0:=zAC hB8 a0
 replace a1:=zAC hB8 a1
 have t0:=p8.2.1 0 _ rfl;have t1:=p8.2.1 1 _ rfl;clear hb1 pA TP1 p8 hB8;go_upto_region 2 with fail
 generalize (w1.alloc (.cells #[.int .i64 (tn:Int),.int .i64 ti] 151))=W2 at *;cases sm
 ·clear PA;go_wp2;go_ret2
  exact ⟨by simp,(clB hB)⟩
 ·go_wp2_with fail
  refine (PA _).mono ?_;rintro e w3 ⟨rfl,rfl⟩;cases pq
  ·go_wp2;go_ret2
   exact ⟨by simp,(clB hB)⟩
  ·go_wp2;go_ret2
   exact ⟨by simp,(clB hB)⟩
theorem zF3 (x:Wc.In) (tv:Value) (b mb:Nat) (lv:Value) (F:List (Nat × Int)) (m:Nat) (w:World) (hfs:FS w b mb lv F) (hm:m<=F.length) (hlF:F.length<=1000000) (hk:x.op=10) :
  Calls prog 65 #[.pointer (some ⟨b,1,none⟩),inV x tv,.int .i64 (m:Int)] w λe w'=>(e=.returned (.tuple #[.int .i64 (((zCn F m).1:Int)),.bool (decide (m ≠ 0))]))/\Below w.heap.size w w':=by
 have pA:=AtL.new0 w 52 (zAD x tv);have hB:=zAJ (Below.refl _ w) (.cells (zAD x tv).toArray 52);have TP:=λw1 (hb:Below w.heap.size w w1)=>zBH b mb lv F m w1 (hfs.below hb) hm hlF
 obtain ⟨tp,htp⟩:∃ t,zCn F m=t:=⟨_,rfl⟩
 rw [htp] at TP;obtain ⟨tn,ti⟩:=tp;simp only at TP;obtain ⟨sm,hsm⟩:∃ s,decide (m ≠ 0)=s:=⟨_,rfl⟩
 rw [hsm] at TP;rw [hsm,htp];go_enter func65,ntmps65;go_upto_region 1 with fail
 generalize (w.alloc (.cells (zAD x tv).toArray 52))=W at *;have TP1:=TP W hB;clear TP;go_wp2_with fail
 refine TP1.mono ?_;rintro e w1 ⟨rfl,hb1⟩;replace pA:=AtL.below hb1 pA
 replace hB:=zAB hB hb1
 have hk0:(zAD x tv)[0]? = some (.int .i64 (10)):=by rw [<-hk];rfl
 have a0:=pA.2.1 0 _ hk0;have a1:=pA.2.1 1 _ rfl;have p8:=AtL.new0 w1 151 [.int .i64 (tn:Int),.int .i64 ti];have hB8:=zAJ (Below.refl _ w1) (.cells #[.int .i64 (tn:Int),.int .i64 ti] 151);replace hB:=zAB hB hB8
 replace a0:=zAC hB8 a0
 replace a1:=zAC hB8 a1
 have t0:=p8.2.1 0 _ rfl;have t1:=p8.2.1 1 _ rfl;clear hb1 pA TP1 p8 hB8;go_upto_region 2 with fail
 generalize (w1.alloc (.cells #[.int .i64 (tn:Int),.int .i64 ti] 151))=W2 at *;cases sm
 ·go_wp2;go_ret2
  exact ⟨by simp,(clB hB)⟩
 ·go_wp2;go_ret2
  exact ⟨by simp,(clB hB)⟩
theorem zFj (x:Wc.In) (tv:Value) (b mb:Nat) (lv:Value) (F:List (Nat × Int)) (m:Nat) (w:World) (hfs:FS w b mb lv F) (hm:m<=F.length) (hlF:F.length<=1000000) (hk:x.op=16) :
  Calls prog 65 #[.pointer (some ⟨b,1,none⟩),inV x tv,.int .i64 (m:Int)] w λe w'=>(e=.returned (.tuple #[.int .i64 (m:Int),.bool (decide (m=0))]))/\Below w.heap.size w w':=by
 have pA:=AtL.new0 w 52 (zAD x tv);have hB:=zAJ (Below.refl _ w) (.cells (zAD x tv).toArray 52);have TP:=λw1 (hb:Below w.heap.size w w1)=>zBH b mb lv F m w1 (hfs.below hb) hm hlF
 obtain ⟨tp,htp⟩:∃ t,zCn F m=t:=⟨_,rfl⟩
 rw [htp] at TP;obtain ⟨tn,ti⟩:=tp;simp only at TP;obtain ⟨sm,hsm⟩:∃ s,decide (m ≠ 0)=s:=⟨_,rfl⟩
 rw [hsm] at TP;have h16:decide (m=0) = !sm:=by rw [<-hsm];simp
 rw [h16];go_enter func65,ntmps65;go_upto_region 1 with fail
 generalize (w.alloc (.cells (zAD x tv).toArray 52))=W at *;have TP1:=TP W hB;clear TP;go_wp2_with fail
 refine TP1.mono ?_;rintro e w1 ⟨rfl,hb1⟩;replace pA:=AtL.below hb1 pA
 replace hB:=zAB hB hb1
 have hk0:(zAD x tv)[0]? = some (.int .i64 (16)):=by rw [<-hk];rfl
 have a0:=pA.2.1 0 _ hk0;have a1:=pA.2.1 1 _ rfl;have p8:=AtL.new0 w1 151 [.int .i64 (tn:Int),.int .i64 ti];have hB8:=zAJ (Below.refl _ w1) (.cells #[.int .i64 (tn:Int),.int .i64 ti] 151);replace hB:=zAB hB hB8
 replace a0:=zAC hB8 a0
 replace a1:=zAC hB8 a1
 have t0:=p8.2.1 0 _ rfl;have t1:=p8.2.1 1 _ rfl;clear hb1 pA TP1 p8 hB8;go_upto_region 2 with fail
 generalize (w1.alloc (.cells #[.int .i64 (tn:Int),.int .i64 ti] 151))=W2 at *;cases sm
 ·go_wp2;go_ret2
  exact ⟨by simp,(clB hB)⟩
 ·go_wp2;go_ret2
  exact ⟨by simp,(clB hB)⟩
theorem zHk (x:Wc.In) (tv:Value) (b mb:Nat) (lv:Value) (F:List (Nat × Int)) (m:Nat) (w:World) (hfs:FS w b mb lv F) (hm:m<=F.length) (hlF:F.length<=1000000) (ho:x.op ≠ 6/\x.op ≠ 7/\x.op ≠ 8/\x.op ≠ 9/\x.op ≠ 10/\x.op ≠ 16) :
  Calls prog 65 #[.pointer (some ⟨b,1,none⟩),inV x tv,.int .i64 (m:Int)] w λe w'=>(e=.returned (.tuple #[.int .i64 (m:Int),.bool true]))/\Below w.heap.size w w':=by
 have pA:=AtL.new0 w 52 (zAD x tv);have hB:=zAJ (Below.refl _ w) (.cells (zAD x tv).toArray 52);have TP:=λw1 (hb:Below w.heap.size w w1)=>zBH b mb lv F m w1 (hfs.below hb) hm hlF
 obtain ⟨tp,htp⟩:∃ t,zCn F m=t:=⟨_,rfl⟩
 rw [htp] at TP;obtain ⟨tn,ti⟩:=tp;simp only at TP;obtain ⟨sm,hsm⟩:∃ s,decide (m ≠ 0)=s:=⟨_,rfl⟩
 rw [hsm] at TP;have m6:¬ x.op=6:=by omega
 have m7:¬ x.op=7:=by omega
 have m8:¬ x.op=8:=by omega
 have m9:¬ x.op=9:=by omega
 have m10:¬ x.op=10:=by omega
 have m16:¬ x.op=16:=by omega
 go_enter func65,ntmps65;go_upto_region 1 with fail
 generalize (w.alloc (.cells (zAD x tv).toArray 52))=W at *;have TP1:=TP W hB;clear TP;go_wp2_with fail
 refine TP1.mono ?_;rintro e w1 ⟨rfl,hb1⟩;replace pA:=AtL.below hb1 pA
 replace hB:=zAB hB hb1
 have hk0:(zAD x tv)[0]? = some (.int .i64 x.op):=rfl;have a0:=pA.2.1 0 _ hk0;have a1:=pA.2.1 1 _ rfl;have p8:=AtL.new0 w1 151 [.int .i64 (tn:Int),.int .i64 ti];have hB8:=zAJ (Below.refl _ w1) (.cells #[.int .i64 (tn:Int),.int .i64 ti] 151);replace hB:=zAB hB hB8
 replace a0:=zAC hB8 a0
 replace a1:=zAC hB8 a1
 have t0:=p8.2.1 0 _ rfl;have t1:=p8.2.1 1 _ rfl;clear hb1 pA TP1 p8 hB8;go_upto_region 2 with fail
 generalize (w1.alloc (.cells #[.int .i64 (tn:Int),.int .i64 ti] 151))=W2 at *;go_wp2;go_ret2
 exact ⟨by simp,(clB hB)⟩
def zMM (r:Option (Nat × List (Nat × Int))) (b mb:Nat) (lv:Value) (w:World) (e:Ending) (w':World):Prop:=match r with
 | some (k,F2)=>e=.returned (.tuple #[.int .i64 (k:Int),.bool true])/\BPost b mb lv w w' F2
 | none=>∃ z:Int,e=.returned (.tuple #[.int .i64 z,.bool false])/\Fr (b::mb::lv.ownBlock.toList) w w'
theorem zCF {m:Nat} (h:m ≠ 0):zCn F m=F.getD (m - 1) (0,0):=if_neg h
theorem zEW (x:Wc.In) (tv:Value) (b mb:Nat) (lv:Value) (F:List (Nat × Int)) (m:Nat) (w:World) (hfs:FS w b mb lv F) (hm:m<=F.length) (hlF:F.length<=1000000) :
  Calls prog 65 #[.pointer (some ⟨b,1,none⟩),inV x tv,.int .i64 (m:Int)] w λe w'=>zMM (Wc.behF F x.op x.a m) b mb lv w e w':=by
 rcases Wc.ops17 x.op with h | h | h | h | h | h | h
 ·refine (zGU x tv b mb lv F m w hfs hm hlF h).mono ?_;rintro e w' ⟨k,F2,h1,h2,h3⟩;rw [h,h1];exact ⟨h2,h3⟩
 ·refine (zHB x tv b mb lv F m w hfs hm hlF h).mono ?_;rintro e w' ⟨rfl,hb⟩;by_cases h0:m=0
  ·rw [show Wc.behF F x.op x.a m=none from by simp [Wc.behF,h,h0]];exact ⟨_,by simp [h0];rfl,Fr.of_below _ hb⟩
  ·rw [show Wc.behF F x.op x.a m=some (m,F) from by simp [Wc.behF,h,h0]];exact ⟨by simp [h0],BPost.of_below hfs hb⟩
 ·refine (zHM x tv b mb lv F m w hfs hm hlF h).mono ?_;rintro e w' ⟨rfl,hb⟩;by_cases h0:m=0
  ·rw [show Wc.behF F x.op x.a m=none from by simp [Wc.behF,h,h0]];exact ⟨_,by simp [h0];rfl,Fr.of_below _ hb⟩
  ·rw [zCF h0];cases hp:Wc.pairs (F.getD (m - 1) (0,0)).2 with
   | true =>
    rw [show Wc.behF F x.op x.a m=none from by simp only [Wc.behF,h,hp];simp];exact ⟨_,by simp;rfl,Fr.of_below _ hb⟩
   | false =>
    rw [show Wc.behF F x.op x.a m=some (m,F) from by simp only [Wc.behF,h,hp];simp [h0]];exact ⟨by simp [h0],BPost.of_below hfs hb⟩
 ·refine (zHW x tv b mb lv F m w hfs hm hlF h).mono ?_;rintro e w' ⟨rfl,hb⟩;by_cases h0:m=0
  ·rw [show Wc.behF F x.op x.a m=none from by simp [Wc.behF,h,h0]];exact ⟨_,by simp [h0];rfl,Fr.of_below _ hb⟩
  ·rw [zCF h0];cases hp:Wc.pairs (F.getD (m - 1) (0,0)).2 with
   | false =>
    rw [show Wc.behF F x.op x.a m=none from by simp only [Wc.behF,h,hp];simp];exact ⟨_,by simp;rfl,Fr.of_below _ hb⟩
   | true =>
    rw [show Wc.behF F x.op x.a m=some (m,F) from by simp only [Wc.behF,h,hp];simp [h0]];exact ⟨by simp [h0],BPost.of_below hfs hb⟩
 ·refine (zF3 x tv b mb lv F m w hfs hm hlF h).mono ?_;rintro e w' ⟨rfl,hb⟩;by_cases h0:m=0
  ·rw [show Wc.behF F x.op x.a m=none from by simp [Wc.behF,h,h0]];exact ⟨_,by simp [h0];rfl,Fr.of_below _ hb⟩
  ·rw [zCF h0,show Wc.behF F x.op x.a m=some ((F.getD (m - 1) (0,0)).1,F) from by simp [Wc.behF,h,h0]];exact ⟨by simp [h0],BPost.of_below hfs hb⟩
 ·refine (zFj x tv b mb lv F m w hfs hm hlF h).mono ?_;rintro e w' ⟨rfl,hb⟩;by_cases h0:m=0
  ·rw [show Wc.behF F x.op x.a m=some (m,F) from by simp [Wc.behF,h,h0]];exact ⟨by simp [h0],BPost.of_below hfs hb⟩
  ·rw [show Wc.behF F x.op x.a m=none from by simp [Wc.behF,h,h0]];exact ⟨_,by simp [h0];rfl,Fr.of_below _ hb⟩
 ·refine (zHk x tv b mb lv F m w hfs hm hlF h).mono ?_;rintro e w' ⟨rfl,hb⟩;obtain ⟨n1,n2,n3,n4,n5,n6⟩:=h;rw [show Wc.behF F x.op x.a m=some (m,F) from by simp [Wc.behF,n1,n2,n3,n4,n5,n6]];exact ⟨rfl,BPost.of_below hfs hb⟩
def zDa (F:List (Nat × Int)) (x:Wc.In) (v:Int) (m:Nat):Option ((Int × Nat) × List (Nat × Int)):=match Wc.behF F x.op x.a m with
 | none=>none
 | some (m2,F2)=>if v<(Wc.swO x.op x.b).1 \/ (x.op=16/\(Wc.swO x.op x.b).1<v) then none else some ((v - (Wc.swO x.op x.b).1+(Wc.swO x.op x.b).2,m2),F2)
def zKJ (o:Int) (r:Option (Nat × List (Nat × Int))) (v o1 o2:Int):Option ((Int × Nat) × List (Nat × Int)):=match r with
 | none=>none
 | some (m2,F2)=>if v<o1 \/ (o=16/\o1<v) then none else some ((v - o1+o2,m2),F2)
def zJe (r:Option ((Int × Nat) × List (Nat × Int))) (b mb:Nat) (lv:Value) (w:World) (e:Ending) (w':World):Prop:=match r with
 | some ((v,k),F2)=>e=.returned (.tuple #[.agg #[.int .i64 v,.int .i64 (k:Int)],.bool true])/\BPost b mb lv w w' F2
 | none=>e=.returned (.tuple #[.agg #[.int .i64 0,.int .i64 0],.bool false])/\Fr (b::mb::lv.ownBlock.toList) w w'
theorem AtL.fr {S:List Nat} {k:Nat} {l:List Value} (h:AtL w k l) (hf:Fr S w w') (hn:k ∉ S):AtL w' k l :=
 ⟨Nat.lt_of_lt_of_le h.1 hf.size,λi v hv=>hf.cell (h.2.1 i v hv) hn,λi hi=>by rw [hf.frozen h.1 hn];exact h.2.2 i hi⟩
theorem BPost.set (h:BPost b mb lv w w1 F) {k:Nat} (hk:w.heap.size<=k) (hb:b<w.heap.size) (hty:∃ c f,w1.heap[k]? = some (.cells c 99 f)) (i:Nat) (v:Value):BPost b mb lv w (w1.setCell ⟨k,i,none⟩ v) F/\∃ c f,(w1.setCell ⟨k,i,none⟩ v).heap[k]? = some (.cells c 99 f):=by
 obtain ⟨c,f,hty⟩:=hty;obtain ⟨⟨lv',h1⟩,h2,h3⟩:=h;have fr:Fr [k] w1 (w1.setCell ⟨k,i,none⟩ v):=Fr.of_grown (zAL _ _ _ _) (λj e=>by cases e;simp);have hlt:=h1.lt;refine ⟨⟨⟨lv',h1.fr fr (by simp;omega) (by simp;omega) (λg e hg=>?_)⟩,h2.new fr (λj hj=>by simp at hj;subst hj;exact Or.inr hk),λu hu=>fr.cell (h3 u hu) (by simp;omega)⟩,?_⟩
 ·simp at hg;subst hg;rcases h1.own.2 with ⟨q,_⟩ | ⟨g',cap,cur,q,_,q2,_⟩
  ·rw [q] at e;cases e
  ·rw [q] at e;have e2:g'=g:=by simpa [Value.ownBlock] using e
   subst e2;rw [hty] at q2;cases q2
 ·refine ⟨c.setIfInBounds i v,f,?_⟩;simp [World.setCell,Array.getElem?_modify,hty]
theorem zAo (w:World) (o:Obj) (k:Nat) (h:k=w.heap.size):(w.alloc o).heap[k]? = some o:=by
 subst h;exact Array.getElem?_push_size
theorem zEP (x:Wc.In) (tv:Value) (b mb:Nat) (lv:Value) (F:List (Nat × Int)) (m:Nat) (v:Int) (w:World) (hfs:FS w b mb lv F) (hm:m<=F.length) (hlF:F.length<=1000000) (hv:0<=v/\v<=100000000) (hsw:-1000<=(Wc.swO x.op x.b).1/\(Wc.swO x.op x.b).1<=1000/\0<=(Wc.swO x.op x.b).2/\(Wc.swO x.op x.b).2<=1) :
  Calls prog 37 #[.pointer (some ⟨b,1,none⟩),inV x tv,.agg #[.int .i64 v,.int .i64 (m:Int)]] w λe w'=>zJe (zDa F x v m) b mb lv w e w':=by
 have pI:AtL (((w.alloc (.cells (zAD x tv).toArray 52)).alloc (.cells #[.int .i64 v,.int .i64 (m:Int)] 99)).alloc (.cells #[.int .i64 0,.int .i64 0] 99)) w.heap.size (zAD x tv):=((AtL.new0 w _ _).alloc _).alloc _;have pH:AtL (((w.alloc (.cells (zAD x tv).toArray 52)).alloc (.cells #[.int .i64 v,.int .i64 (m:Int)] 99)).alloc (.cells #[.int .i64 0,.int .i64 0] 99)) (w.heap.size+1) [.int .i64 v,.int .i64 (m:Int)]:=(AtL.new1 w _ _ _).alloc _;have pR:AtL (((w.alloc (.cells (zAD x tv).toArray 52)).alloc (.cells #[.int .i64 v,.int .i64 (m:Int)] 99)).alloc (.cells #[.int .i64 0,.int .i64 0] 99)) (w.heap.size+1+1) [.int .i64 0,.int .i64 0]:=AtL.new _ _ (by simp only [World.size_alloc]) _;have tR:((((w.alloc (.cells (zAD x tv).toArray 52)).alloc (.cells #[.int .i64 v,.int .i64 (m:Int)] 99)).alloc (.cells #[.int .i64 0,.int .i64 0] 99))).heap[w.heap.size+1+1]? = some (.cells #[.int .i64 0,.int .i64 0] 99 (0,0)):=zAo _ _ _ (by simp only [World.size_alloc]);have hB:Below w.heap.size w ((((w.alloc (.cells (zAD x tv).toArray 52)).alloc (.cells #[.int .i64 v,.int .i64 (m:Int)] 99)).alloc (.cells #[.int .i64 0,.int .i64 0] 99))):=zAJ (zAJ (zAJ (Below.refl _ w) _) _) _;have SW:=λw=>zE5 x tv w
 have BH:=λw1 (hb:Below w.heap.size w w1)=>zEW x tv b mb lv F m w1 (hfs.below hb) hm hlF
 have HG:Hid (∀ k,k ∈ b::mb::lv.ownBlock.toList->k<w.heap.size):=by
  intro k hk;have h1:=zA1 hfs.hd;have h2:=hfs.lt;simp only [List.mem_cons,Option.mem_toList] at hk;rcases hk with rfl | rfl | hk
  ·exact h1
  ·omega
  ·exact (zAW hfs.own hk).2
 have HB:Hid (b<w.heap.size):=zA1 hfs.hd;obtain ⟨o1,ho1⟩:∃ o,(Wc.swO x.op x.b).1=o:=⟨_,rfl⟩
 obtain ⟨o2,ho2⟩:∃ o,(Wc.swO x.op x.b).2=o:=⟨_,rfl⟩
 obtain ⟨r,hr⟩:∃ r,Wc.behF F x.op x.a m=r:=⟨_,rfl⟩
 have hce:zDa F x v m=zKJ x.op r v o1 o2:=by rw [<-ho1,<-ho2,<-hr];rfl
 rw [hce];rw [ho1,ho2] at hsw;rw [hr] at BH;have SW2:∀ w:World,CR 64 #[inV x tv] w (.tuple #[.int .i64 o1,.int .i64 o2]):=λw=>by rw [<-ho1,<-ho2];exact SW w
 have wa:IntKind.i64.wrap (v - o1)=v - o1:=by rw [IntKind.wrap_i64];omega
 have wb:IntKind.i64.wrap (v - o1+o2)=v - o1+o2:=by rw [IntKind.wrap_i64];omega
 clear hce ho1 ho2 hr SW hfs hm hlF hv hsw;go_enter func37,ntmps37;go_upto_region 1 with fail
 generalize (((w.alloc (.cells (zAD x tv).toArray 52)).alloc (.cells #[.int .i64 v,.int .i64 (m:Int)] 99)).alloc (.cells #[.int .i64 0,.int .i64 0] 99))=W at *;have rI:=pI.range;go_wp2_with (first | (refine zAA (by rfl) 52 (.tmp 4) rfl w.heap.size 0 rfl (zAD x tv) _ rI underlying52 rfl (by kernel_rfl) ?_))
 refine (SW2 _).mono ?_;rintro e w1 ⟨rfl,hb1⟩;replace pI:=AtL.below hb1 pI
 replace pH:=AtL.below hb1 pH
 replace tR:=(hb1.block _ pR.1).trans tR
 replace pR:=AtL.below hb1 pR
 replace hB:=zAB hB hb1
 have BH1:=BH w1 hB;clear rI hb1 SW2 BH;have rI:=pI.range;have h0:=pH.2.1 0 _ rfl;have h1:=pH.2.1 1 _ rfl;go_wp2_with (first | (refine zAA (by rfl) 52 (.tmp 4) rfl w.heap.size 0 rfl (zAD x tv) _ rI underlying52 rfl (by kernel_rfl) ?_))
 refine BH1.mono ?_;intro e w2 hP;clear rI BH1;have nI:w.heap.size ∉ b::mb::lv.ownBlock.toList:=λe=>by have:=HG.out _ e;omega
 have nH:w.heap.size+1 ∉ b::mb::lv.ownBlock.toList:=λe=>by have:=HG.out _ e;omega
 have nR:w.heap.size+1+1 ∉ b::mb::lv.ownBlock.toList:=λe=>by have:=HG.out _ e;omega
 have f2:Fr (b::mb::lv.ownBlock.toList) w1 w2:=by
  cases r with
  | none =>
   obtain ⟨_,_,h⟩:=hP;exact h
  | some q =>
   obtain ⟨_,_,h,_⟩:=hP;exact h
 replace pI:=pI.fr f2 nI
 replace pH:=pH.fr f2 nH
 have t2:w2.heap[w.heap.size+1+1]? = some (.cells #[.int .i64 0,.int .i64 0] 99 (0,0)):=by rw [f2.block _ pR.1 nR];exact tR
 replace pR:=pR.fr f2 nR
 have i0:=pI.2.1 0 _ rfl;clear h0 h1 tR;have h0:=pH.2.1 0 _ rfl;have h1:=pH.2.1 1 _ rfl;have r0:=pR.2.1 0 _ rfl;have r1:=pR.2.1 1 _ rfl;have z0:=pR.2.2 0 (by decide);have z1:=pR.2.2 1 (by decide);cases r with
 | none =>
  obtain ⟨z,rfl,hf⟩:=hP;have FB:=(Fr.of_below (b::mb::lv.ownBlock.toList) hB).trans hf;have F3:Fr (b::mb::lv.ownBlock.toList) w ((w2.setCell ⟨w.heap.size+1+1,0,none⟩ (.int .i64 0)).setCell ⟨w.heap.size+1+1,1,none⟩ (.int .i64 0)):=(FB.new (Fr.of_grown (zAL _ _ _ _) (λj e=>by cases e;exact List.mem_singleton.2 rfl)) (λj hj=>by simp at hj;omega)).new (Fr.of_grown (zAL _ _ _ _) (λj e=>by cases e;exact List.mem_singleton.2 rfl)) (λj hj=>by simp at hj;omega);clear hf f2 hB;go_upto_region 4 with fail
  go_wp2;have q0:((w2.setCell ⟨w.heap.size+1+1,0,none⟩ (.int .i64 0)).setCell ⟨w.heap.size+1+1,1,none⟩ (.int .i64 0)).cell? ⟨w.heap.size+1+1,0,none⟩=some (.int .i64 0):=by rw [zAP _ _ _ (by decide)];exact zAQ r0 _
  have q1:((w2.setCell ⟨w.heap.size+1+1,0,none⟩ (.int .i64 0)).setCell ⟨w.heap.size+1+1,1,none⟩ (.int .i64 0)).cell? ⟨w.heap.size+1+1,1,none⟩=some (.int .i64 0):=zAQ (by rw [zAP _ _ _ (by decide)];exact r1) _;refine bodyPost_ret (v:=.tuple #[.agg #[.int .i64 0,.int .i64 0],.bool false]) (by simp [results,results37,go_sem,q0,q1]) rfl ?_;exact ⟨rfl,F3⟩
 | some q =>
  obtain ⟨k,F2⟩:=q;obtain ⟨rfl,hP⟩:=hP;have PB:=BPost.front hB hP;have P1:=PB.set (k:=w.heap.size+1+1) (by omega) HB.out ⟨_,_,t2⟩ 0 (.int .i64 (v - o1+o2));have P2:=P1.1.set (by omega) HB.out P1.2 1 (.int .i64 (k:Int));have FB:=PB.2.1;have F3:Fr (b::mb::lv.ownBlock.toList) w ((w2.setCell ⟨w.heap.size+1+1,0,none⟩ (.int .i64 0)).setCell ⟨w.heap.size+1+1,1,none⟩ (.int .i64 0)):=(FB.new (Fr.of_grown (zAL _ _ _ _) (λj e=>by cases e;exact List.mem_singleton.2 rfl)) (λj hj=>by simp at hj;omega)).new (Fr.of_grown (zAL _ _ _ _) (λj e=>by cases e;exact List.mem_singleton.2 rfl)) (λj hj=>by simp at hj;omega);have HP2:Hid (BPost b mb lv w ((w2.setCell ⟨w.heap.size+1+1,0,none⟩ (.int .i64 (v - o1+o2))).setCell ⟨w.heap.size+1+1,1,none⟩ (.int .i64 (k:Int))) F2):=P2.1;clear hP f2 hB PB P1 P2 FB t2;have NO:∀ (hc:v<o1 \/ (x.op=16/\o1<v)),zKJ x.op (some (k,F2)) v o1 o2=none:=λhc=>if_pos hc
  have YES:∀ (hc:¬ (v<o1 \/ (x.op=16/\o1<v))),zKJ x.op (some (k,F2)) v o1 o2=some ((v - o1+o2,k),F2):=λhc=>if_neg hc
  have q0:((w2.setCell ⟨w.heap.size+1+1,0,none⟩ (.int .i64 0)).setCell ⟨w.heap.size+1+1,1,none⟩ (.int .i64 0)).cell? ⟨w.heap.size+1+1,0,none⟩=some (.int .i64 0):=by rw [zAP _ _ _ (by decide)];exact zAQ r0 _
  have q1:((w2.setCell ⟨w.heap.size+1+1,0,none⟩ (.int .i64 0)).setCell ⟨w.heap.size+1+1,1,none⟩ (.int .i64 0)).cell? ⟨w.heap.size+1+1,1,none⟩=some (.int .i64 0):=zAQ (by rw [zAP _ _ _ (by decide)];exact r1) _;have Q0:Hid _:=q0;have Q1:Hid _:=q1;clear q0 q1;by_cases c1:v<o1
  ·go_upto_region 4 with fail
   go_wp2;refine bodyPost_ret (v:=.tuple #[.agg #[.int .i64 0,.int .i64 0],.bool false]) (by have q0:=Q0.out;have q1:=Q1.out;simp [results,results37,go_sem,q0,q1]) rfl ?_;show zJe (zKJ x.op (some (k,F2)) v o1 o2) b mb lv w _ _
   rw [NO (Or.inl c1)];exact ⟨rfl,F3⟩
  ·by_cases c2:x.op=16
   ·by_cases c3:o1<v
    ·go_upto_region 4 with fail
     go_wp2;refine bodyPost_ret (v:=.tuple #[.agg #[.int .i64 0,.int .i64 0],.bool false]) (by have q0:=Q0.out;have q1:=Q1.out;simp [results,results37,go_sem,q0,q1]) rfl ?_;show zJe (zKJ x.op (some (k,F2)) v o1 o2) b mb lv w _ _
     rw [NO (Or.inr ⟨c2,c3⟩)];exact ⟨rfl,F3⟩
    ·go_wp2;have d0:((w2.setCell ⟨w.heap.size+1+1,0,none⟩ (.int .i64 (v - o1+o2))).setCell ⟨w.heap.size+1+1,1,none⟩ (.int .i64 (k:Int))).cell? ⟨w.heap.size+1+1,0,none⟩=some (.int .i64 (v - o1+o2)):=by rw [zAP _ _ _ (by decide)];exact zAQ r0 _
     have d1:((w2.setCell ⟨w.heap.size+1+1,0,none⟩ (.int .i64 (v - o1+o2))).setCell ⟨w.heap.size+1+1,1,none⟩ (.int .i64 (k:Int))).cell? ⟨w.heap.size+1+1,1,none⟩=some (.int .i64 (k:Int)):=zAQ (by rw [zAP _ _ _ (by decide)];exact r1) _;refine bodyPost_ret (v:=.tuple #[.agg #[.int .i64 (v - o1+o2),.int .i64 (k:Int)],.bool true]) (by simp [results,results37,go_sem,d0,d1]) rfl ?_;show zJe (zKJ x.op (some (k,F2)) v o1 o2) b mb lv w _ _
     rw [YES (by omega)];exact ⟨rfl,HP2.out⟩
   ·go_wp2;have d0:((w2.setCell ⟨w.heap.size+1+1,0,none⟩ (.int .i64 (v - o1+o2))).setCell ⟨w.heap.size+1+1,1,none⟩ (.int .i64 (k:Int))).cell? ⟨w.heap.size+1+1,0,none⟩=some (.int .i64 (v - o1+o2)):=by rw [zAP _ _ _ (by decide)];exact zAQ r0 _
    have d1:((w2.setCell ⟨w.heap.size+1+1,0,none⟩ (.int .i64 (v - o1+o2))).setCell ⟨w.heap.size+1+1,1,none⟩ (.int .i64 (k:Int))).cell? ⟨w.heap.size+1+1,1,none⟩=some (.int .i64 (k:Int)):=zAQ (by rw [zAP _ _ _ (by decide)];exact r1) _;refine bodyPost_ret (v:=.tuple #[.agg #[.int .i64 (v - o1+o2),.int .i64 (k:Int)],.bool true]) (by simp [results,results37,go_sem,d0,d1]) rfl ?_;show zJe (zKJ x.op (some (k,F2)) v o1 o2) b mb lv w _ _
    rw [YES (by omega)];exact ⟨rfl,HP2.out⟩
