/- WalkDc, TWr, TTree, TPrLen, TPrOk, VWalkF. -/
import Derived.Test.YtlggnpohhahdlaaGreatDoorQ24
import Derived.Lib.Builder
import Derived.Laws.Externs
import Derived.OwnWalk
import Derived.Laws.OwnMore
import Derived.BigCall
import Derived.Lib.AppendStr
import Derived.Lib.OthersKept
import Derived.Lib.UnsafeStr
import Derived.Lib.FrozenHead
set_option maxHeartbeats 2000000
set_option maxRecDepth 100000
namespace Go.Proofs.YtlggnpohhahdlaaGreatDoor
open Go.RowKit
set_option linter.unusedVariables false
theorem liesB:liesAt Tryz.prog Tryz.prog.depth 65 (2 / Tryz.prog.cellsOf 65) 0 65 1=true:=by kernel_rfl
theorem infoB:(Tryz.prog.info? 65).map (fun i=>i.size)=some 2:=by kernel_rfl
theorem ccheck1 {B b:Nat} {bs:List Value} {w:World} (h:Lib.BuilderAt 65 5 B b (.pointer none) bs w) :
  Calls Tryz.prog 73 #[.pointer (some ⟨b,0,none⟩)] w fun e w'=>e=.returned (.tuple #[])∧w'=w.setCell ⟨b,0,none⟩ (.pointer (some ⟨b,0,none⟩)):=by
 have c0:=h.cell0;have f0:=h.frozen0;have hsh:=h.shape;obtain ⟨j,hj,hjs⟩:=Option.map_eq_some_iff.1 infoB;have k1:=Lib.run_to_unsafe (P:=Tryz.prog) w ⟨b,0,none⟩ Tryz.underlying62 Tryz.underlying138 hj (by rw [hjs];decide) hsh (Nat.zero_lt_succ 1);have k2:=Lib.run_from_unsafe (P:=Tryz.prog) w ⟨b,0,none⟩ Tryz.underlying138 Tryz.underlying62 hj hsh liesB;have k3:(callFunc 100 #[.pointer (some ⟨b,0,none⟩)]).run Tryz.prog w=.ok (.value (.pointer (some ⟨b,0,none⟩))) w:=by
  rw [run_callFunc_extern Tryz.func100 (by kernel_rfl) (by kernel_rfl) (by kernel_rfl) (e:=Extern.AbiNoEscape.same) (by kernel_rfl),Lib.run_noEscape];rfl
 go_enter Tryz.func73,Tryz.ntmps73;go_wp2;go_end0
 exact ⟨rfl,rfl⟩
theorem ccheck2 {B b:Nat} {bs:List Value} {w:World} (h:Lib.BuilderAt 65 5 B b (.pointer (some ⟨b,0,none⟩)) bs w) :
  Calls Tryz.prog 73 #[.pointer (some ⟨b,0,none⟩)] w fun e w'=>e=.returned (.tuple #[])∧w'=w:=by
 have c0:=h.cell0;obtain ⟨j,hj,hjs⟩:=Option.map_eq_some_iff.1 infoB;have k1:=Lib.run_neq_ptr_same (P:=Tryz.prog) w ⟨b,0,none⟩ Tryz.underlying62 hj;go_enter Tryz.func73,Tryz.ntmps73;go_wp2;go_end0
 exact ⟨rfl,rfl⟩
theorem byteInfo:(Tryz.prog.info? 5).map (fun i=>(i.zero,i.size,i.bytes))=some (some (.int .u8 0),1,1):=by kernel_rfl
theorem wbyte {B b:Nat} {bs:List Value} (c:Int) (w:World) (h:Lib.IsBuilder 65 5 B b bs w) (hlen:bs.length≤1000) (hBw:B≤w.heap.size) :
  Calls Tryz.prog 171 #[.pointer (some ⟨b,0,none⟩),.int .u8 c] w fun e w'=>e=.returned .nilIface∧Lib.IsBuilder 65 5 B b (bs++[.int .u8 c]) w'∧Below B w w':=by
 have CC:Calls Tryz.prog 73 #[.pointer (some ⟨b,0,none⟩)] w fun e w'=>e=.returned (.tuple #[])∧Lib.BuilderAt 65 5 B b (.pointer (some ⟨b,0,none⟩)) bs w'∧Below B w w':=by
  rcases h with h | h
  ·exact (ccheck1 h).mono fun e w' ⟨he,hw⟩=>⟨he,by rw [hw];exact h.used _,by rw [hw];exact (Below.refl B w).setCell (p:=⟨b,0,none⟩) h.1 _⟩
  ·exact (ccheck2 h).mono fun e w' ⟨he,hw⟩=>⟨he,by rw [hw];exact h,by rw [hw];exact Below.refl B w⟩
 obtain ⟨i0,hi,hz0,hz1,hz2⟩:=info_parts byteInfo;go_enter Tryz.func171,Tryz.ntmps171;go_wp2_with (go_at_call 73;refine CC.mono ?_)
 rintro e w1 ⟨rfl,hat,hb1⟩;have hlt:=hat.lt;obtain ⟨hB,v,hbk,hown,hne⟩:=hat;have s1:=hb1.size;have x1:w1.cell? ⟨b,1,none⟩=some v:=by rw [Lib.cell_of_heap hbk];rfl
 have news:∀ j u,[Value.int .u8 c][j]? = some u→(w1.alloc (.cells #[.int .u8 c] 5)).cell? ((⟨w1.heap.size,0,none⟩:Addr).add j)=some u:=by
  intro j u hj;cases j with
  | zero=>simp at hj;subst hj;simp [Addr.add,go_sem]
  | succ j=>simp at hj
 go_wp2_with (at_builtin;refine wpList_append_own _ rfl _ _ 63 rfl B 5 i0 (.int .u8 0) 1 1 Tryz.underlying63 hi hz0 hz1 hz2 rfl (by decide) _ _ _ rfl (hown.alloc _) ⟨w1.heap.size,0,none⟩ 1 1 [.int .u8 c] rfl rfl news (by intro u hu;simp at hu;subst hu;rfl) (by unfold maxLen;omega) (by omega) (by simp;omega) ?_)
 intro v2 w2 hown2 hgrow _;have hk2:w2.heap[b]? = some (.cells #[.pointer (some ⟨b,0,none⟩),v] 65 (0,0)):=by
  rw [hgrow.block b (by simp;omega) (fun e=>hne e.symm),Lib.alloc_old w1 _ b hlt];exact hbk
 have y0:w2.cell? ⟨b,0,none⟩=some (.pointer (some ⟨b,0,none⟩)):=by rw [Lib.cell_of_heap hk2];rfl
 have y1:w2.cell? ⟨b,1,none⟩=some v:=by rw [Lib.cell_of_heap hk2];rfl
 have y2:w2.frozen? ⟨b,1,none⟩=false:=Lib.frozen_of_heap hk2 1;have hB2:=(hb1.alloc (by omega) (.cells #[.int .u8 c] 5)).grown hgrow (by simp;omega) (fun k hk=>(hown.lt k hk).1);obtain ⟨g,cap,rfl⟩:∃ g cap,v2=.slice (some ⟨g,0,none⟩) (bs.length+1) cap:=by
  rcases hown2.2 with ⟨_,h0⟩ | ⟨g,cap,cur,hv,_⟩
  ·omega
  ·exact ⟨g,cap,hv⟩
 go_wp2;go_ret;exact ⟨rfl,Or.inr (Lib.BuilderAt.put hB hk2 (bs':=bs++[.int .u8 c]) (by simpa using hown2) (by decide)),hB2.setCell (p:=⟨b,1,none⟩) hB _⟩
open Go.RowKit Go.Shelf
theorem liesW:liesAt Tryz.prog Tryz.prog.depth 67 (3 / Tryz.prog.cellsOf 67) 0 65 1=true:=by kernel_rfl
def WrAt (B b:Nat) (p:Value) (bs:List Value) (lf:Value) (w:World):Prop :=
 B≤b∧∃ v,w.heap[b]? = some (.cells #[p,v,lf] 67 (0,0))∧w.ownsRow B 5 1 v bs.length bs∧v.ownBlock ≠ some b
def IsWr (B b:Nat) (bs:List Value) (lf:Value) (w:World):Prop:=WrAt B b (.pointer none) bs lf w ∨ WrAt B b (.pointer (some ⟨b,0,none⟩)) bs lf w
theorem WrAt.lt {B b:Nat} {p:Value} {bs:List Value} {lf:Value} {w:World} (h:WrAt B b p bs lf w):b<w.heap.size:=by
 obtain ⟨_,v,hb,_⟩:=h;exact (Array.getElem?_eq_some_iff.1 hb).1
theorem WrAt.set0 {B b:Nat} {p:Value} {bs:List Value} {lf:Value} {w:World} (h:WrAt B b p bs lf w) (q:Value):WrAt B b q bs lf (w.setCell ⟨b,0,none⟩ q):=by
 obtain ⟨hB,v,hb,hown,hne⟩:=h;refine ⟨hB,v,by simp [World.setCell,Array.getElem?_modify,hb],?_,hne⟩;exact hown.kept (row:=some b) ⟨rfl,rfl,rfl,by simp [World.setCell],fun k _ hk=>Below.heap_setCell _ _ _ _ (fun e=>hk (by simp [e]))⟩ (Or.inr hne)
theorem WrAt.set2 {B b:Nat} {p:Value} {bs:List Value} {lf:Value} {w:World} (h:WrAt B b p bs lf w) (q:Value):WrAt B b p bs q (w.setCell ⟨b,2,none⟩ q):=by
 obtain ⟨hB,v,hb,hown,hne⟩:=h;refine ⟨hB,v,by simp [World.setCell,Array.getElem?_modify,hb],?_,hne⟩;exact hown.kept (row:=some b) ⟨rfl,rfl,rfl,by simp [World.setCell],fun k _ hk=>Below.heap_setCell _ _ _ _ (fun e=>hk (by simp [e]))⟩ (Or.inr hne)
theorem WrAt.put {B b:Nat} {p v v' lf:Value} {bs':List Value} {w:World} (hB:B≤b) (hb:w.heap[b]? = some (.cells #[p,v,lf] 67 (0,0))) (hown:w.ownsRow B 5 1 v' bs'.length bs') :
  WrAt B b p bs' lf (w.setCell ⟨b,1,none⟩ v'):=by
 have hne:=Lib.ownBlock_ne hown hb (by decide);refine ⟨hB,v',by simp [World.setCell,Array.getElem?_modify,hb],?_,hne⟩;exact hown.kept (row:=some b) ⟨rfl,rfl,rfl,by simp [World.setCell],fun k _ hk=>Below.heap_setCell _ _ _ _ (fun e=>hk (by simp [e]))⟩ (Or.inr hne)
theorem WrAt.below {B b:Nat} {p:Value} {bs:List Value} {lf:Value} {w w':World} (h:WrAt B b p bs lf w) (hb:Below w.heap.size w w'):WrAt B b p bs lf w':=by
 obtain ⟨hB,v,hk,hown,hne⟩:=h;exact ⟨hB,v,(hb.block b (Array.getElem?_eq_some_iff.1 hk).1).trans hk,hown.kept (row:=none) ⟨hb.os,hb.tape,hb.output,hb.size,fun k hk _=>hb.block k hk⟩ (by cases v.ownBlock <;> simp),hne⟩
theorem IsWr.below {B b:Nat} {bs:List Value} {lf:Value} {w w':World} (h:IsWr B b bs lf w) (hb:Below w.heap.size w w'):IsWr B b bs lf w':=h.elim (fun x=>.inl (x.below hb)) (fun x=>.inr (x.below hb))
theorem IsWr.set2 {B b:Nat} {bs:List Value} {lf:Value} {w:World} (h:IsWr B b bs lf w) (q:Value):IsWr B b bs q (w.setCell ⟨b,2,none⟩ q):=h.elim (fun x=>.inl (x.set2 q)) (fun x=>.inr (x.set2 q))
theorem IsWr.lt {B b:Nat} {bs:List Value} {lf:Value} {w:World} (h:IsWr B b bs lf w):b<w.heap.size:=h.elim (fun x=>x.lt) (fun x=>x.lt)
theorem IsWr.le {B b:Nat} {bs:List Value} {lf:Value} {w:World} (h:IsWr B b bs lf w):B≤b:=h.elim (fun x=>x.1) (fun x=>x.1)
theorem IsWr.left {B b:Nat} {bs:List Value} {lf:Value} {w:World} (h:IsWr B b bs lf w):w.cell? ⟨b,2,none⟩=some lf∧w.frozen? ⟨b,2,none⟩=false:=by
 rcases h with ⟨_,v,hk,_⟩ | ⟨_,v,hk,_⟩ <;> exact ⟨by rw [Lib.cell_of_heap hk];rfl,Lib.frozen_of_heap hk 2⟩
theorem kept_below {B:Nat} {b:Option Nat} {w w':World} (hb:Below w.heap.size w w'):Lib.OthersKept 5 b w w':=fun k o hk _ _=>(hb.block k (Array.getElem?_eq_some_iff.1 hk).1).trans hk
theorem own_kind {w:World} {B:Nat} {e:TypeId} {v:Value} {n:Nat} {xs:List Value} (h:w.ownsRow B e 1 v n xs):∀ g,v.ownBlock=some g→∃ c fz,w.heap[g]? = some (.cells c e fz):=by
 intro g hg;rcases h.2 with ⟨rfl,_⟩ | ⟨g',cap,cur,rfl,_,hgg,_⟩
 ·simp [Value.ownBlock] at hg
 ·simp [Value.ownBlock] at hg;subst hg;exact ⟨cur,_,hgg⟩
theorem ccw1 {B b:Nat} {bs:List Value} {lf:Value} {w:World} (h:WrAt B b (.pointer none) bs lf w) :
  Calls Tryz.prog 73 #[.pointer (some ⟨b,0,none⟩)] w fun e w'=>e=.returned (.tuple #[])∧w'=w.setCell ⟨b,0,none⟩ (.pointer (some ⟨b,0,none⟩)):=by
 obtain ⟨hB,v,hbk,hown,hne⟩:=h;have c0:w.cell? ⟨b,0,none⟩=some (.pointer none):=by rw [Lib.cell_of_heap hbk];rfl
 have f0:w.frozen? ⟨b,0,none⟩=false:=Lib.frozen_of_heap hbk 0;have hsh:w.shape? b=some (67,3):=by simp [World.shape?,hbk]
 obtain ⟨j,hj,hjs⟩:=Option.map_eq_some_iff.1 infoB;have k1:=Lib.run_to_unsafe (P:=Tryz.prog) w ⟨b,0,none⟩ Tryz.underlying62 Tryz.underlying138 hj (by rw [hjs];decide) hsh (Nat.zero_lt_succ 2);have k2:=Lib.run_from_unsafe (P:=Tryz.prog) w ⟨b,0,none⟩ Tryz.underlying138 Tryz.underlying62 hj hsh liesW;have k3:(callFunc 100 #[.pointer (some ⟨b,0,none⟩)]).run Tryz.prog w=.ok (.value (.pointer (some ⟨b,0,none⟩))) w:=by
  rw [run_callFunc_extern Tryz.func100 (by kernel_rfl) (by kernel_rfl) (by kernel_rfl) (e:=Extern.AbiNoEscape.same) (by kernel_rfl),Lib.run_noEscape];rfl
 go_enter Tryz.func73,Tryz.ntmps73;go_wp2;go_end0
 exact ⟨rfl,rfl⟩
theorem ccw2 {B b:Nat} {bs:List Value} {lf:Value} {w:World} (h:WrAt B b (.pointer (some ⟨b,0,none⟩)) bs lf w) :
  Calls Tryz.prog 73 #[.pointer (some ⟨b,0,none⟩)] w fun e w'=>e=.returned (.tuple #[])∧w'=w:=by
 obtain ⟨hB,v,hbk,hown,hne⟩:=h;have c0:w.cell? ⟨b,0,none⟩=some (.pointer (some ⟨b,0,none⟩)):=by rw [Lib.cell_of_heap hbk];rfl
 obtain ⟨j,hj,hjs⟩:=Option.map_eq_some_iff.1 infoB;have k1:=Lib.run_neq_ptr_same (P:=Tryz.prog) w ⟨b,0,none⟩ Tryz.underlying62 hj;go_enter Tryz.func73,Tryz.ntmps73;go_wp2;go_end0
 exact ⟨rfl,rfl⟩
theorem wrs_any (B b:Nat) (l:List UInt8) (lf:Value) (s:List UInt8) (w:World) (h:IsWr B b (Lib.byteCells l) lf w) (hlen:l.length+s.length≤10000000) :
  Calls Tryz.prog 46 #[.pointer (some ⟨b,0,none⟩),.string ⟨s.toArray⟩] w fun e w'=>e=.returned (.tuple #[.int .i64 s.length,.nilIface])∧IsWr B b (Lib.byteCells (l++s)) lf w'∧Below B w w'∧Lib.OthersKept 5 (some b) w w':=by
 have hBw:B≤w.heap.size:=Nat.le_of_lt (Nat.lt_of_le_of_lt h.le h.lt);have CC:Calls Tryz.prog 73 #[.pointer (some ⟨b,0,none⟩)] w fun e w'=>e=.returned (.tuple #[])∧WrAt B b (.pointer (some ⟨b,0,none⟩)) (Lib.byteCells l) lf w'∧Below B w w'∧Lib.OthersKept 5 (some b) w w':=by
  rcases h with h | h
  ·exact (ccw1 h).mono fun e w' ⟨he,hw⟩=>⟨he,by rw [hw];exact h.set0 _,by rw [hw];exact (Below.refl B w).setCell (p:=⟨b,0,none⟩) h.1 _,by rw [hw];exact (Lib.OthersKept.refl _ _ w).setCell ⟨b,0,none⟩ rfl _⟩
  ·exact (ccw2 h).mono fun e w' ⟨he,hw⟩=>⟨he,by rw [hw];exact h,by rw [hw];exact Below.refl B w,by rw [hw];exact Lib.OthersKept.refl _ _ w⟩
 obtain ⟨i0,hi,hz0,hz1,hz2⟩:=info_parts byteInfo;have hls:(⟨s.toArray⟩:ByteArray).size=s.length:=by simp [ByteArray.size]
 go_enter Tryz.func46,Tryz.ntmps46;go_wp2_with (go_at_call 73;refine CC.mono ?_)
 rintro e w1 ⟨rfl,hat,hb1,hk1⟩;have hlt:=hat.lt;obtain ⟨hB,v,hbk,hown,hne⟩:=hat;have s1:=hb1.size;have hll:(Lib.byteCells l).length=l.length:=Lib.byteCells_length l;have x1:w1.cell? ⟨b,1,none⟩=some v:=by rw [Lib.cell_of_heap hbk];rfl
 go_wp2_with (at_builtin;refine Lib.wpList_append_own_string _ rfl _ _ 63 9 rfl B 5 i0 Tryz.underlying63 Tryz.underlying9 hi hz0 hz1 hz2 _ _ _ rfl hown ⟨s.toArray⟩ rfl (by rw [hls,hll];unfold maxLen;omega) (by rw [hls,hll];omega) (by omega) ?_)
 intro v2 w2 hown2 hgrow _;have hk2:w2.heap[b]? = some (.cells #[.pointer (some ⟨b,0,none⟩),v,lf] 67 (0,0)):=by
  rw [hgrow.block b hlt (fun e=>hne e.symm)];exact hbk
 have y0:w2.cell? ⟨b,0,none⟩=some (.pointer (some ⟨b,0,none⟩)):=by rw [Lib.cell_of_heap hk2];rfl
 have y1:w2.cell? ⟨b,1,none⟩=some v:=by rw [Lib.cell_of_heap hk2];rfl
 have y2:w2.frozen? ⟨b,1,none⟩=false:=Lib.frozen_of_heap hk2 1;have hB2:=hb1.grown hgrow (by omega) (fun k hk=>(hown.lt k hk).1);have hK2:=(hk1.grown hgrow (own_kind hown)).setCell ⟨b,1,none⟩ rfl v2;have hown3:w2.ownsRow B 5 1 v2 (Lib.byteCells (l++s)).length (Lib.byteCells (l++s)):=by
  have e1:Lib.byteCells (l++s)=Lib.byteCells l++Lib.strCells ⟨s.toArray⟩:=by rw [Lib.strCells_eq,←Lib.byteCells_append]
  have e2:(Lib.byteCells (l++s)).length=l.length+s.length:=by rw [Lib.byteCells_length,List.length_append]
  rw [e2,e1];exact hown2
 obtain ⟨ao,n',cap,rfl⟩:∃ ao n' cap,v2=.slice ao n' cap:=by
  rcases hown2.2 with ⟨hv,_⟩ | ⟨g,cap,cur,hv,_⟩
  ·exact ⟨_,_,_,hv⟩
  ·exact ⟨_,_,_,hv⟩
 go_wp2;go_ret2
 exact ⟨by simp,Or.inr (WrAt.put hB hk2 hown3),hB2.setCell (p:=⟨b,1,none⟩) hB _,hK2⟩
theorem wstr_any (B b:Nat) (l:List UInt8) (lf:Value) (w:World) (h:IsWr B b (Lib.byteCells l) lf w) (h0:l ≠ []) :
  Calls Tryz.prog 28 #[.pointer (some ⟨b,0,none⟩)] w fun e w'=>e=.returned (.string ⟨l.toArray⟩)∧Below B w w':=by
 obtain ⟨p,hAt⟩:∃ p,WrAt B b p (Lib.byteCells l) lf w:=by
  rcases h with h | h
  ·exact ⟨_,h⟩
  ·exact ⟨_,h⟩
 obtain ⟨hB,v,hbk,hown,hne⟩:=hAt;have hl0:l.length ≠ 0:=by simpa using h0
 rw [Lib.byteCells_length] at hown;obtain ⟨g,cap,cur,rfl,hbg,hg,hnc,hcm,hcs,htake⟩:∃ g cap cur,v=.slice (some ⟨g,0,none⟩) l.length cap∧B≤g∧w.heap[g]? = some (.cells cur 5 (0,0))∧l.length≤cap∧cap≤maxLen∧cur.size=cap * 1∧cur.toList.take (l.length * 1)=Lib.byteCells l:=by
  rcases hown.2 with ⟨_,hz⟩ | ⟨g,cap,cur,hv,r⟩
  ·exact absurd hz hl0
  ·exact ⟨g,cap,cur,hv,r⟩
 have c1:w.drew.cell? ⟨b,1,none⟩=some (.slice (some ⟨g,0,none⟩) l.length cap):=by
  have:w.drew.heap[b]? = some (.cells #[p,.slice (some ⟨g,0,none⟩) l.length cap,lf] 67 (0,0)):=hbk;rw [Lib.cell_of_heap this];rfl
 have hSD:(Builtin.unsafeSliceData_ #[63] 92 #[.slice (some ⟨g,0,none⟩) l.length cap]).run Tryz.prog w.drew=.ok (.pointer (some ⟨g,0,none⟩)) w.drew :=
  Lib.run_unsafeSliceData_row _ _ _ _ _ _ (by omega)
 have hUS:(Builtin.unsafeString_ #[92,3] 9 #[.pointer (some ⟨g,0,none⟩),.int .i64 l.length]).run Tryz.prog w.drew=.ok (.string ⟨l.toArray⟩) (w.drew.freeze ⟨g,0,none⟩ l.length):=by
  refine Lib.run_unsafeString_row w.drew 92 3 9 5 Tryz.underlying92 (by kernel_rfl) g cur.size (by have hg':w.drew.heap[g]? = some (.cells cur 5 (0,0)):=hg;simp [World.shape?,hg']) l h0 (by omega) (by unfold maxLen at hcm;omega) ?_;intro j x hx;have:=hown.cells (g:=g) rfl j (.int .u8 x.toNat) (by simp [Lib.byteCells,hx]);exact this
 have hBl:Below B w (w.drew.freeze ⟨g,0,none⟩ l.length):=Lib.below_freeze (Below.drew (Below.refl B w)) (p:=⟨g,0,none⟩) hbg _;go_enter Tryz.func28,Tryz.ntmps28;have mixed:Tryz.prog.follows Departure.mixedOrders=true:=by kernel_rfl
 go_wp2;go_region_o
 all_goals (go_wp2;go_ret;exact ⟨rfl,hBl⟩)
theorem check_zero {L:List Wt.Nd} (h:Wt.check L=0):L.length≤256∧∃ d,Wt.one (L.length+1) L=some (L.length,d)∧d≤32:=by
 unfold Wt.check at h;split at h
 ·omega
 rename_i h1
 split at h
 ·omega
 rename_i s d h2
 split at h
 ·omega
 rename_i h3
 split at h
 ·omega
 rename_i h4
 have:s=L.length:=by omega
 subst this;exact ⟨by omega,d,h2,by omega⟩
theorem fName_len:∀ i,(fNames.getD i []).length≤8
 | 0=>by decide
 | 1=>by decide
 | 2=>by decide
 | 3=>by decide
 | 4=>by decide
 | 5=>by decide
 | 6=>by decide
 | 7=>by decide
 | 8=>by decide
 | i+9=>by
  have:fNames.getD (i+9) []=[]:=by
   unfold List.getD;rw [List.getElem?_eq_none (by show 9≤i+9;omega)];rfl
  rw [this];simp
theorem sgnT_len (N:Int):(Wnum.sgnT N).length≤1:=by unfold Wnum.sgnT;split <;> simp
theorem txt_len {N:Int} {D:Nat} (h:N.natAbs≤9223372036854775807) (hD:D≤9223372036854775807):(Wnum.txt N D).length≤50:=by
 have h1:=sgnT_len N;unfold Wnum.txt;rw [List.length_append];split
 ·have:=Wpl.dd_len N.natAbs h;have:=Wpl.dd_len D hD;simp only [List.length_append,List.length_cons];omega
 have hq:N.natAbs / D≤9223372036854775807:=Nat.le_trans (Nat.div_le_self _ _) h;have:=Wpl.dd_len (N.natAbs / D) hq;split
 ·omega
 ·have:=Wnum.decs_length D 6 (N.natAbs % D);simp only [List.length_append,List.length_cons];omega
theorem litT_len {v:Wt.Vl} (h:Wt.vlOk v=true):(litT v).length≤600:=by
 unfold litT;split
 ·obtain ⟨n1,n2⟩:=Wnum.cN_bd v.n v.d;obtain ⟨n3,n4⟩:=Wnum.cD_bd v.n v.d;have:=txt_len (N:=Wnum.cN v.n v.d) (D:=(Wnum.cD v.n v.d).toNat) (by omega) (by omega);omega
 split
 ·rename_i h1 h2
  unfold Wt.vlOk at h;rw [if_neg (by omega),if_neg h1] at h;unfold Wv.right at h;rw [if_neg (by omega),if_neg h1,if_pos h2] at h;simp only [Bool.and_eq_true,decide_eq_true_eq] at h;have hs:=h.1.1.1.1.1;have hd:=Wlx.dbl_length v.t.data.toList;have e:v.t.data.toList.length=v.t.size:=by rw [Array.length_toList];rfl
  simp only [List.length_cons,List.length_append,List.length_nil];omega
 split
 ·split <;> decide
 ·have:=fName_len v.f.toNat;omega
theorem cw_len (a:Wt.Rf) (h0:0≤a.r) (h1:a.r<65536):(cw a).length≤40:=by
 unfold cw;have:=fx_len a.fc;have:=fx_len a.fr;have:=Wpl.colS_len a.c;have:=Wpl.dd_len (a.r+1).toNat (by omega);simp only [List.length_append];omega
theorem rfOk_in {a:Wt.Rf} (h:Wt.rfOk a=true):(0≤a.r∧a.r<65536)∧(a.s=⟨#[]⟩ ∨ Wt.shNm a.s=true):=by
 unfold Wt.rfOk Wt.inR at h;simp only [Bool.and_eq_true,decide_eq_true_eq,Bool.or_eq_true] at h;exact ⟨⟨h.1.1.1,h.1.1.2⟩,h.2⟩
theorem isNm_len {p:UInt8→Bool} {l:List UInt8} (h:Wt.isNm p l=true):1≤l.length∧l.length≤16:=by
 unfold Wt.isNm at h;simp only [Bool.and_eq_true,decide_eq_true_eq] at h;exact ⟨h.1.1.1,h.1.1.2⟩
theorem celT_len {a:Wt.Rf} (h:Wt.rfOk a=true):(celT a).length≤60:=by
 obtain ⟨⟨h0,h1⟩,h2⟩:=rfOk_in h;have:=cw_len a h0 h1;unfold celT;split
 ·omega
 ·rename_i hn
  have:=(isNm_len (h2.resolve_left hn)).2;simp only [List.length_append,List.length_cons];omega
def PrOk (f:Nat):Prop:=∀ (l:List Wt.Nd) (s d:Nat),Wt.one f l=some (s,d)→∀ least,(pr f least l).2=l.drop s∧(pr f least l).1.length≤1000 * s
theorem prA_ok {f:Nat} (ih:PrOk f):∀ (k:Nat) (first:Bool) (l:List Wt.Nd) (s d:Nat),Wt.many (Wt.one f) k l=some (s,d)→(prA (pr f) k first l).2=l.drop s∧(prA (pr f) k first l).1.length≤1000 * s+k:=by
 intro k;induction k with
 | zero=>intro first l s d h;simp only [Wt.many,Option.some.injEq,Prod.mk.injEq] at h;obtain ⟨rfl,rfl⟩:=h;exact ⟨rfl,Nat.zero_le _⟩
 | succ k ihk =>
  intro first l s d h
  simp only [Wt.many] at h;cases h1:Wt.one f l with
  | none=>rw [h1] at h;cases h
  | some q =>
   obtain ⟨a,b⟩:=q;rw [h1] at h;simp only at h;cases h2:Wt.many (Wt.one f) k (l.drop a) with
   | none=>rw [h2] at h;cases h
   | some q2 =>
    obtain ⟨a2,b2⟩:=q2;rw [h2] at h;simp only [Option.some.injEq,Prod.mk.injEq] at h;obtain ⟨rfl,rfl⟩:=h;obtain ⟨i1,i2⟩:=ih l a b h1 0;obtain ⟨j1,j2⟩:=ihk false _ a2 b2 h2;simp only [prA];rw [i1];refine ⟨by rw [j1,List.drop_drop],?_⟩;have hf:(if first=true then ([]:List UInt8) else [44]).length≤1:=by split <;> simp
    simp only [List.length_append];omega
theorem mrk_len (x:Wt.Nd):(mrk x).length≤2:=by
 unfold mrk;cases h:Wt.opOf x.op with
 | none=>simp
 | some o =>
  have:=List.mem_of_find?_eq_some h;simp only [Wt.opsT,List.mem_cons,List.not_mem_nil,or_false] at this;rcases this with rfl | rfl | rfl | rfl | rfl | rfl | rfl | rfl | rfl | rfl | rfl | rfl | rfl | rfl | rfl <;> decide
theorem opOf_tgh {x:Wt.Nd} {o:Int × List UInt8 × Int} (h:Wt.opOf x.op=some o):tgh x=o.2.2∧0≤o.2.2∧o.2.2≤6:=by
 refine ⟨by unfold tgh;rw [h],?_⟩;have:=List.mem_of_find?_eq_some h;simp only [Wt.opsT,List.mem_cons,List.not_mem_nil,or_false] at this;rcases this with rfl | rfl | rfl | rfl | rfl | rfl | rfl | rfl | rfl | rfl | rfl | rfl | rfl | rfl | rfl <;> decide
def Knd (x:Wt.Nd):Prop :=
 (x.k=1∧Wt.vlOk x.v=true∧x=⟨1,x.v,0,⟨#[]⟩,0,Wt.r0,Wt.r0⟩) ∨ (x.k=2∧Wt.rfOk x.a=true∧x=⟨2,Wt.v0,0,⟨#[]⟩,0,x.a,Wt.r0⟩) ∨
 (x.k=3∧Wt.rfOk x.a=true∧Wt.rfOk x.b=true∧x.b.s.toList.isEmpty=true∧x=⟨3,Wt.v0,0,⟨#[]⟩,0,x.a,x.b⟩) ∨
 (x.k=4∧opK x.op=4∧x=⟨4,Wt.v0,x.op,⟨#[]⟩,0,Wt.r0,Wt.r0⟩) ∨ (x.k=5∧opK x.op=5∧x=⟨5,Wt.v0,x.op,⟨#[]⟩,0,Wt.r0,Wt.r0⟩) ∨
 (x.k=6∧Wt.fnNm x.nm=true∧0≤x.ar∧x.ar≤30∧x=⟨6,Wt.v0,0,x.nm,x.ar,Wt.r0,Wt.r0⟩)
theorem right_knd {x:Wt.Nd} (h:Wt.right x=true):Knd x:=by
 unfold Wt.right at h;unfold Knd;split at h
 ·rename_i e;rw [Bool.and_eq_true,eqN_iff] at h;exact Or.inl ⟨e,h.1,h.2⟩
 split at h
 ·rename_i e;rw [Bool.and_eq_true,eqN_iff] at h;exact Or.inr (Or.inl ⟨e,h.1,h.2⟩)
 split at h
 ·rename_i e;simp only [Bool.and_eq_true,eqN_iff] at h;exact Or.inr (Or.inr (Or.inl ⟨e,h.1.1.1,h.1.1.2,h.1.2,h.2⟩))
 split at h
 ·rename_i e;simp only [Bool.and_eq_true,eqN_iff,beq_iff_eq] at h;exact Or.inr (Or.inr (Or.inr (Or.inl ⟨e,h.1,h.2⟩)))
 split at h
 ·rename_i e;simp only [Bool.and_eq_true,eqN_iff,beq_iff_eq] at h;exact Or.inr (Or.inr (Or.inr (Or.inr (Or.inl ⟨e,h.1,h.2⟩))))
 split at h
 ·rename_i e;simp only [Bool.and_eq_true,eqN_iff,decide_eq_true_eq] at h;exact Or.inr (Or.inr (Or.inr (Or.inr (Or.inr ⟨e,h.1.1.1,h.1.1.2,h.1.2,h.2⟩))))
 ·cases h
theorem opOf_zero:Wt.opOf 0=none:=by decide
theorem tgh_zero {x:Wt.Nd} (h:x.op=0):tgh x=7:=by unfold tgh;rw [h,opOf_zero]
theorem knd_tgh {x:Wt.Nd} (h:Knd x):(tgh x=7∧x.op=0∧(x.k=1 ∨ x.k=2 ∨ x.k=3 ∨ x.k=6)) ∨ ((tgh x=5 ∨ tgh x=6)∧Wt.parts x=1∧∃ o,Wt.opOf x.op=some o) ∨ ((0≤tgh x∧tgh x<5)∧Wt.parts x=2∧∃ o,Wt.opOf x.op=some o):=by
 rcases h with ⟨h,-,e⟩ | ⟨h,-,e⟩ | ⟨h,-,-,-,e⟩ | ⟨h,h2,-⟩ | ⟨h,h2,-⟩ | ⟨h,-,-,-,e⟩
 ·have:=congrArg Wt.Nd.op e;exact Or.inl ⟨tgh_zero this,this,Or.inl h⟩
 ·have:=congrArg Wt.Nd.op e;exact Or.inl ⟨tgh_zero this,this,Or.inr (Or.inl h)⟩
 ·have:=congrArg Wt.Nd.op e;exact Or.inl ⟨tgh_zero this,this,Or.inr (Or.inr (Or.inl h))⟩
 ·unfold opK at h2;cases ho:Wt.opOf x.op with
  | none=>rw [ho] at h2;simp at h2
  | some o =>
   obtain ⟨oo,om,ot⟩:=o;rw [ho] at h2;simp only at h2;obtain ⟨t1,t2,t3⟩:=opOf_tgh ho;simp only at t1 t2 t3;refine Or.inr (Or.inl ⟨?_,by unfold Wt.parts;rw [if_pos h],_,rfl⟩);split at h2
   ·omega
   ·omega
 ·unfold opK at h2;cases ho:Wt.opOf x.op with
  | none=>rw [ho] at h2;simp at h2
  | some o =>
   obtain ⟨oo,om,ot⟩:=o;rw [ho] at h2;simp only at h2;obtain ⟨t1,t2,t3⟩:=opOf_tgh ho;simp only at t1 t2 t3;refine Or.inr (Or.inr ⟨?_,by unfold Wt.parts;rw [if_neg (by omega),if_pos h],_,rfl⟩);split at h2
   ·omega
   ·omega
 ·have:=congrArg Wt.Nd.op e;exact Or.inl ⟨tgh_zero this,this,Or.inr (Or.inr (Or.inr h))⟩
theorem knd_parts0 {x:Wt.Nd} (h:Knd x) (hk:x.k=1 ∨ x.k=2 ∨ x.k=3):Wt.parts x=0:=by
 unfold Wt.parts;rw [if_neg (by omega),if_neg (by omega)];rcases h with ⟨h,-,e⟩ | ⟨h,-,e⟩ | ⟨h,-,-,-,e⟩ | ⟨h,h2,-⟩ | ⟨h,h2,-⟩ | ⟨h,-,-,-,e⟩
 ·exact congrArg Wt.Nd.ar e
 ·exact congrArg Wt.Nd.ar e
 ·exact congrArg Wt.Nd.ar e
 all_goals omega
theorem knd_parts6 {x:Wt.Nd} (h:x.k=6):Wt.parts x=x.ar:=by
 unfold Wt.parts;rw [if_neg (by omega),if_neg (by omega)]
theorem many_one {f:Nat} {l:List Wt.Nd} {s d:Nat} (h:Wt.many (Wt.one f) 1 l=some (s,d)):Wt.one f l=some (s,d):=by
 simp only [Wt.many] at h;cases h1:Wt.one f l with
 | none=>rw [h1] at h;cases h
 | some q=>obtain ⟨a,b⟩:=q;rw [h1] at h;simpa using h
theorem many_two {f:Nat} {l:List Wt.Nd} {s d:Nat} (h:Wt.many (Wt.one f) 2 l=some (s,d)):∃ a b a2 b2,Wt.one f l=some (a,b)∧Wt.one f (l.drop a)=some (a2,b2)∧s=a+a2∧d=max b b2:=by
 simp only [Wt.many] at h;cases h1:Wt.one f l with
 | none=>rw [h1] at h;cases h
 | some q =>
  obtain ⟨a,b⟩:=q;rw [h1] at h;simp only at h;cases h2:Wt.one f (l.drop a) with
  | none=>rw [h2] at h;cases h
  | some q2 =>
   obtain ⟨a2,b2⟩:=q2;rw [h2] at h;simp only [Option.some.injEq,Prod.mk.injEq,Nat.add_zero,Nat.max_zero] at h;exact ⟨a,b,a2,b2,rfl,h2,h.1.symm,h.2.symm⟩
theorem one_unf {f:Nat} {x:Wt.Nd} {r:List Wt.Nd} {s d:Nat} (h:Wt.one (f+1) (x::r)=some (s,d)):Wt.right x=true∧∃ a b,Wt.many (Wt.one f) (Wt.parts x).toNat r=some (a,b)∧s=a+1∧d=b+1:=by
 unfold Wt.one at h;split at h
 ·rename_i hx
  cases h1:Wt.many (Wt.one f) (Wt.parts x).toNat r with
  | none=>rw [h1] at h;cases h
  | some q =>
   obtain ⟨a,b⟩:=q;rw [h1] at h;simp only [Option.some.injEq,Prod.mk.injEq] at h;exact ⟨hx,a,b,rfl,by omega,by omega⟩
 ·cases h
theorem prS_ok {f:Nat} (ih:PrOk f) {x:Wt.Nd} (hx:Knd x) (hk:x.k=1 ∨ x.k=2 ∨ x.k=3 ∨ x.k=6) {r:List Wt.Nd} {a b:Nat} (h:Wt.many (Wt.one f) (Wt.parts x).toNat r=some (a,b)) :
  (prS (pr f) x r).2=r.drop a∧(prS (pr f) x r).1.length≤1000 * a+900:=by
 unfold prS;by_cases h1:x.k=1
 ·rw [if_pos h1];rw [knd_parts0 hx (Or.inl h1)] at h;simp only [Int.toNat_zero,Wt.many,Option.some.injEq,Prod.mk.injEq] at h;have:Wt.vlOk x.v=true:=by
   rcases hx with ⟨_,h,e⟩ | ⟨h,-,e⟩ | ⟨h,-,-,-,e⟩ | ⟨h,h2,-⟩ | ⟨h,h2,-⟩ | ⟨h,-,-,-,e⟩
   ·exact h
   all_goals omega
  have:=litT_len this;exact ⟨by rw [←h.1];rfl,by simp only;omega⟩
 rw [if_neg h1];by_cases h2:x.k=2
 ·rw [if_pos h2];rw [knd_parts0 hx (Or.inr (Or.inl h2))] at h;simp only [Int.toNat_zero,Wt.many,Option.some.injEq,Prod.mk.injEq] at h;have:Wt.rfOk x.a=true:=by
   rcases hx with ⟨h,-,e⟩ | ⟨_,h,e⟩ | ⟨h,-,-,-,e⟩ | ⟨h,h2,-⟩ | ⟨h,h2,-⟩ | ⟨h,-,-,-,e⟩
   ·omega
   ·exact h
   all_goals omega
  have:=celT_len this;exact ⟨by rw [←h.1];rfl,by simp only;omega⟩
 rw [if_neg h2];by_cases h3:x.k=3
 ·rw [if_pos h3];rw [knd_parts0 hx (Or.inr (Or.inr h3))] at h;simp only [Int.toNat_zero,Wt.many,Option.some.injEq,Prod.mk.injEq] at h;have:Wt.rfOk x.a=true∧Wt.rfOk x.b=true:=by
   rcases hx with ⟨h,-,e⟩ | ⟨h,-,e⟩ | ⟨_,h,h',-,e⟩ | ⟨h,h2,-⟩ | ⟨h,h2,-⟩ | ⟨h,-,-,-,e⟩
   ·omega
   ·omega
   ·exact ⟨h,h'⟩
   all_goals omega
  have l1:=celT_len this.1;have l2:=celT_len this.2;exact ⟨by rw [←h.1];rfl,by simp only [List.length_append,List.length_cons];omega⟩
 rw [if_neg h3];have h6:x.k=6:=by omega
 rw [knd_parts6 h6] at h;have:Wt.fnNm x.nm=true∧0≤x.ar∧x.ar≤30:=by
  rcases hx with ⟨h,-,e⟩ | ⟨h,-,e⟩ | ⟨h,-,-,-,e⟩ | ⟨h,h2,-⟩ | ⟨h,h2,-⟩ | ⟨_,h,h',h'',e⟩
  ·omega
  ·omega
  ·omega
  ·omega
  ·omega
  ·exact ⟨h,h',h''⟩
 have l1:=(isNm_len this.1).2;obtain ⟨j1,j2⟩:=prA_ok ih _ true _ _ _ h;exact ⟨j1,by simp only [List.length_append,List.length_cons,List.length_nil];omega⟩
theorem prN_ok {f:Nat} (ih:PrOk f) {x:Wt.Nd} (hx:Knd x) {r:List Wt.Nd} {a b:Nat} (h:Wt.many (Wt.one f) (Wt.parts x).toNat r=some (a,b)) :
  (prN (pr f) x r).2=r.drop a∧(prN (pr f) x r).1.length≤1000 * a+900:=by
 have hm:=mrk_len x;unfold prN;rcases knd_tgh hx with ⟨h7,-,hk⟩ | ⟨h56,hp,-⟩ | ⟨h04,hp,-⟩
 ·rw [if_pos h7];exact prS_ok ih hx hk h
 ·rw [if_neg (by omega)];rw [hp] at h;have h':=many_one (show Wt.many (Wt.one f) 1 r=some (a,b) from h);rcases h56 with h5 | h6
  ·rw [if_pos h5];obtain ⟨i1,i2⟩:=ih _ _ _ h' 5;exact ⟨i1,by simp only [List.length_append];omega⟩
  ·rw [if_neg (by omega),if_pos h6];obtain ⟨i1,i2⟩:=ih _ _ _ h' 6;exact ⟨i1,by simp only [List.length_append];omega⟩
 ·rw [if_neg (by omega),if_neg (by omega),if_neg (by omega)];rw [hp] at h;obtain ⟨a1,b1,a2,b2,e1,e2,e3,e4⟩:=many_two (show Wt.many (Wt.one f) 2 r=some (a,b) from h);obtain ⟨i1,i2⟩:=ih _ _ _ e1 (tgh x);rw [i1];obtain ⟨j1,j2⟩:=ih _ _ _ e2 (tgh x+1);refine ⟨by rw [j1,List.drop_drop,e3],by simp only [List.length_append];omega⟩
theorem pr_ok:∀ (f:Nat),PrOk f
 | 0,l,s,d,h=>by simp [Wt.one] at h
 | f+1,[],s,d,h=>by simp [Wt.one] at h
 | f+1,x::r,s,d,h=>fun least=>by
  obtain ⟨hx,a,b,hm,rfl,rfl⟩:=one_unf h;obtain ⟨i1,i2⟩:=prN_ok (pr_ok f) (right_knd hx) hm;simp only [pr];split
  ·exact ⟨by rw [i1];rfl,by omega⟩
  ·exact ⟨by rw [i1];rfl,by simp only [List.length_append,List.length_cons,List.length_nil];omega⟩
theorem vcount_any (k n d:Int) (t:ByteArray) (b:Bool) (f:Int) (w:World) (hr:Wv.right k n d t b f=true) (C:∀ w,Calls Tryz.prog 112 #[vlV ⟨k,n,d,t,b,f⟩] w fun e w'=>e=.returned (.bool (Wv.right k n d t b f))∧Below w.heap.size w w') :
  Calls Tryz.prog 154 #[vlV ⟨k,n,d,t,b,f⟩] w fun e w'=>e=.returned (vlV ⟨k,n,d,t,b,f⟩)∧Below w.heap.size w w':=by
 simp only [hr] at C;simp only [vlV,vl6] at C ⊢;have pA:=(AtL.new0 w 41 [.int .i64 k,.int .i64 n,.int .i64 d,.string t,.bool b,.int .i64 f]).alloc (.cells #[.int .i64 0,.int .i64 0,.int .i64 0,.string ⟨#[]⟩,.bool false,.int .i64 0] 41);have pR:=vlz (w.alloc (.cells #[.int .i64 k,.int .i64 n,.int .i64 d,.string t,.bool b,.int .i64 f] 41));simp only [World.size_alloc] at pR;have hB0:=ball (ball (Below.refl _ w) (.cells #[.int .i64 k,.int .i64 n,.int .i64 d,.string t,.bool b,.int .i64 f] 41)) (.cells #[.int .i64 0,.int .i64 0,.int .i64 0,.string ⟨#[]⟩,.bool false,.int .i64 0] 41);go_enter Tryz.func154,Tryz.ntmps154;go_wp2_with fail
 refine (C _).mono ?_;rintro e w1 ⟨rfl,hb⟩;have pA1:=AtL.below hb pA;have pR1:=AtL.below hb pR;obtain ⟨a0,a1,a2,a3,a4,a5⟩:=pA1.f6;obtain ⟨c0,c1,c2,c3,c4,c5⟩:=pR1.f6;have g0:=pR1.2.2 0 (by decide);have g1:=pR1.2.2 1 (by decide);have g2:=pR1.2.2 2 (by decide);have g3:=pR1.2.2 3 (by decide);have g4:=pR1.2.2 4 (by decide);have g5:=pR1.2.2 5 (by decide);have hB1:=below_end hB0 hb;go_wp2;refine bodyPost_ret (v:=vlV ⟨k,n,d,t,b,f⟩) (by simp [results,Tryz.results154,go_sem,vlV,vl6, *]) rfl ⟨rfl,?_⟩;exact by with_reducible repeat (first | exact hB1 | refine ball ?_ _ | refine Below.setCell ?_ (by first | (simp;done) | (simp;omega) | omega) _ | refine Below.drew ?_ | refine below_drewN ?_ _)
theorem truthText_any (b:Bool) (w:World):Calls Tryz.prog 181 #[.bool b] w fun e w'=>e=.returned (.string ⟨(if b then [84,82,85,69] else [70,65,76,83,69]:List UInt8).toArray⟩)∧w=w':=by
 cases b with
 | true =>
  go_enter Tryz.func181,Tryz.ntmps181;go_wp2;go_ret;exact ⟨rfl,rfl⟩
 | false =>
  go_enter Tryz.func181,Tryz.ntmps181;go_wp2;go_ret;exact ⟨rfl,rfl⟩
theorem blank_any (w:World):Calls Tryz.prog 173 #[] w fun e w'=>e=.returned (vlV Wt.v0)∧Below w.heap.size w w':=by
 go_enter Tryz.func173,Tryz.ntmps173;go_wp2;refine bodyPost_ret (v:=vlV Wt.v0) (by simp [results,Tryz.results173,go_sem,vlV,vl6,Wt.v0]) rfl ⟨rfl,?_⟩;exact by with_reducible repeat (first | exact Below.refl _ _ | refine below_drewN ?_ _ | refine Below.setCell ?_ (by first | (simp;done) | (simp;omega) | omega) _ | refine Below.drew ?_ | refine below_end ?_ (by assumption) | refine ball ?_ _)
theorem asText_truth (b:Bool) (w:World):Calls Tryz.prog 156 #[vlV (vTruth b)] w fun e w'=>e=.returned (.tuple #[.string ⟨(if b then [84,82,85,69] else [70,65,76,83,69]:List UInt8).toArray⟩,vlV Wt.v0])∧Below w.heap.size w w':=by
 have C:=fun w=>vcount_any 3 0 0 ⟨#[]⟩ b 0 w (by cases b <;> decide) (fun w=>vright_3 0 0 ⟨#[]⟩ b 0 w)
 have T:=fun w=>truthText_any b w
 have Bl:=fun w=>blank_any w
 revert T
 generalize (⟨(if b then [84,82,85,69] else [70,65,76,83,69]:List UInt8).toArray⟩:ByteArray)=tx;intro T;simp only [vlV,vl6,vTruth,Wt.v0] at C Bl ⊢;have pA:=(AtL.new0 w 41 [.int .i64 3,.int .i64 0,.int .i64 0,.string ⟨#[]⟩,.bool b,.int .i64 0]).alloc (.cells #[.int .i64 0,.int .i64 0,.int .i64 0,.string ⟨#[]⟩,.bool false,.int .i64 0] 41);have pR:=vlz (w.alloc (.cells #[.int .i64 3,.int .i64 0,.int .i64 0,.string ⟨#[]⟩,.bool b,.int .i64 0] 41));simp only [World.size_alloc] at pR;have hB0:=ball (ball (Below.refl _ w) (.cells #[.int .i64 3,.int .i64 0,.int .i64 0,.string ⟨#[]⟩,.bool b,.int .i64 0] 41)) (.cells #[.int .i64 0,.int .i64 0,.int .i64 0,.string ⟨#[]⟩,.bool false,.int .i64 0] 41);go_enter Tryz.func156,Tryz.ntmps156;go_wp2_with fail
 refine (C _).mono ?_;rintro e w1 ⟨rfl,hb⟩;have pA1:=AtL.below hb pA;have pR1:=AtL.below hb pR;obtain ⟨a0,a1,a2,a3,a4,a5⟩:=pA1.f6;have f0:=pA1.2.2 0 (by simp);have f1:=pA1.2.2 1 (by simp);have f2:=pA1.2.2 2 (by simp);have f3:=pA1.2.2 3 (by simp);have f4:=pA1.2.2 4 (by simp);have f5:=pA1.2.2 5 (by simp);have hB1:=below_end hB0 hb;clear hb;have hne:w.heap.size ≠ w.heap.size+1:=by omega
 go_wp2_with fail
 refine (T _).mono ?_;rintro e w2 ⟨rfl,rfl⟩;go_wp2_with fail
 refine (Bl _).mono ?_;rintro e w3 ⟨rfl,hb3⟩;have pR2:=AtL.below hb3 (((((pR1.far hne 0 _).far hne 1 _).far hne 2 _).far hne 3 _).far hne 4 _ |>.far hne 5 _);obtain ⟨c0,c1,c2,c3,c4,c5⟩:=pR2.f6;have g0:=pR2.2.2 0 (by decide);have g1:=pR2.2.2 1 (by decide);have g2:=pR2.2.2 2 (by decide);have g3:=pR2.2.2 3 (by decide);have g4:=pR2.2.2 4 (by decide);have g5:=pR2.2.2 5 (by decide);have hB3:Below w.heap.size w w3:=by
  refine below_end ?_ hb3;exact by with_reducible repeat (first | exact hB1 | refine ball ?_ _ | refine Below.setCell ?_ (by first | (simp;done) | (simp;omega) | omega) _ | refine Below.drew ?_ | refine below_drewN ?_ _)
 go_wp2;refine bodyPost_ret (v:=.tuple #[.string tx,vlV Wt.v0]) (by simp [results,Tryz.results156,go_sem,vlV,vl6,Wt.v0, *]) rfl ⟨rfl,?_⟩;exact by with_reducible repeat (first | exact hB3 | refine ball ?_ _ | refine Below.setCell ?_ (by first | (simp;done) | (simp;omega) | omega) _ | refine Below.drew ?_ | refine below_drewN ?_ _)
theorem show_truth (b:Bool) (w:World):Calls Tryz.prog 128 #[vlV (vTruth b)] w fun e w'=>e=.returned (.string ⟨(if b then [84,82,85,69] else [70,65,76,83,69]:List UInt8).toArray⟩)∧Below w.heap.size w w':=by
 have C:=fun w=>vcount_any 3 0 0 ⟨#[]⟩ b 0 w (by cases b <;> decide) (fun w=>vright_3 0 0 ⟨#[]⟩ b 0 w)
 have T:=fun w=>asText_truth b w
 generalize (⟨(if b then [84,82,85,69] else [70,65,76,83,69]:List UInt8).toArray⟩:ByteArray)=tx at *;simp only [vlV,vl6,vTruth,Wt.v0] at C T ⊢;have pA:=AtL.new0 w 41 [.int .i64 3,.int .i64 0,.int .i64 0,.string ⟨#[]⟩,.bool b,.int .i64 0];have hB0:=ball (Below.refl _ w) (.cells #[.int .i64 3,.int .i64 0,.int .i64 0,.string ⟨#[]⟩,.bool b,.int .i64 0] 41);go_enter Tryz.func128,Tryz.ntmps128;go_wp2_with fail
 refine (C _).mono ?_;rintro e w1 ⟨rfl,hb⟩;have pA1:=AtL.below hb pA;obtain ⟨a0,a1,a2,a3,a4,a5⟩:=pA1.f6;have f0:=pA1.2.2 0 (by simp);have f1:=pA1.2.2 1 (by simp);have f2:=pA1.2.2 2 (by simp);have f3:=pA1.2.2 3 (by simp);have f4:=pA1.2.2 4 (by simp);have f5:=pA1.2.2 5 (by simp);have hB1:=below_end hB0 hb;clear hb;go_wp2_with fail
 refine (T _).mono ?_;rintro e w2 ⟨rfl,hb2⟩;have hB2:Below w.heap.size w w2:=by
  refine below_end ?_ hb2;exact by with_reducible repeat (first | exact hB1 | refine ball ?_ _ | refine Below.setCell ?_ (by first | (simp;done) | (simp;omega) | omega) _ | refine Below.drew ?_ | refine below_drewN ?_ _)
 clear hb2;go_wp2;go_ret;exact ⟨rfl,by with_reducible repeat (first | exact hB2 | refine ball ?_ _ | refine Below.setCell ?_ (by first | (simp;done) | (simp;omega) | omega) _ | refine Below.drew ?_ | refine below_drewN ?_ _)⟩
theorem show_fault (f:Nat) (h1:1≤f) (h8:f≤8) (w:World) (hF:FltAt w):Calls Tryz.prog 128 #[vlV ⟨4,0,0,⟨#[]⟩,false,f⟩] w fun e w'=>e=.returned (.string ⟨(fNames.getD f []).toArray⟩)∧Below w.heap.size w w':=by
 have hfl:Wv.flt (f:Int)=true:=by unfold Wv.flt;simp;omega
 have hlt:f<fNames.length:=by show f<9;omega
 have hfv:fltR[f]? = some (.string ⟨(fNames.getD f []).toArray⟩):=by unfold fltR;rw [List.getElem?_map,List.getElem?_eq_getElem hlt];simp [List.getD,List.getElem?_eq_getElem hlt]
 have h9:1<w.heap.size:=World.block_lt_of_cell? _ _ (hF 0 _ rfl);generalize fNames.getD f []=nm at *;have C:=fun w=>vcount_any 4 0 0 ⟨#[]⟩ false f w (by unfold Wv.right;simp [hfl]) (fun w=>vright_4 0 0 ⟨#[]⟩ false f w)
 simp only [vlV,vl6] at C ⊢;have pA:=AtL.new0 w 41 [.int .i64 4,.int .i64 0,.int .i64 0,.string ⟨#[]⟩,.bool false,.int .i64 f];have hB0:=ball (Below.refl _ w) (.cells #[.int .i64 4,.int .i64 0,.int .i64 0,.string ⟨#[]⟩,.bool false,.int .i64 f] 41);have hF0:=hF.below hB0;go_enter Tryz.func128,Tryz.ntmps128;go_wp2_with fail
 refine (C _).mono ?_;rintro e w1 ⟨rfl,hb⟩;have pA1:=AtL.below hb pA;have hF1:=hF0.below hb;obtain ⟨a0,a1,a2,a3,a4,a5⟩:=pA1.f6;have f0:=pA1.2.2 0 (by simp);have f1:=pA1.2.2 1 (by simp);have f2:=pA1.2.2 2 (by simp);have f3:=pA1.2.2 3 (by simp);have f4:=pA1.2.2 4 (by simp);have f5:=pA1.2.2 5 (by simp);have hB1:=below_end hB0 hb;clear hb;have g:w1.cell? ⟨1,f,none⟩=some (.string ⟨nm.toArray⟩):=by
  have:=hF1 f _ hfv;rw [Nat.zero_add] at this;exact this
 have hne:¬ w.heap.size=1:=by omega
 have hi1:¬ (f:Int)<0:=by omega
 have hi2:(f:Int)<9:=by omega
 go_wp2;go_ret;exact ⟨rfl,by with_reducible repeat (first | exact hB1 | refine ball ?_ _ | refine Below.setCell ?_ (by first | (simp;done) | (simp;omega) | omega) _ | refine Below.drew ?_ | refine below_drewN ?_ _)⟩
end Go.Proofs.YtlggnpohhahdlaaGreatDoor
