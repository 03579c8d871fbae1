/- TWr, TPrLen, TPrOk, VWalkF, WalkIt, WalkDs. -/
import Derived.Test.YtdghjlmnlodnlaaGreatDoorQ25
import Derived.Lib.AppendStr
import Derived.Lib.UnsafeStr
import Derived.Lib.FrozenHead
import Derived.Shelf.Strings.Builder1
set_option maxHeartbeats 2000000
set_option maxRecDepth 100000
namespace Go.Proofs.YtdghjlmnlodnlaaGreatDoor
open Tryz
open Go.RowKit Go.Shelf
set_option linter.unusedVariables false
variable {B b f s d:Nat} {w w':World} {lf p v:Value} {bs:List Value} {x:Wt.Nd} {a:Wt.Rf} {l:List Wt.Nd}
theorem zQt:liesAt prog prog.depth 86 (3 / prog.cellsOf 86) 0 84 1=true:=by kernel_rfl
def WrAt (B b:Nat) (p:Value) (bs:List Value) (lf:Value) (w:World):Prop :=
 B<=b/\∃ v,w.heap[b]? = some (.cells #[p,v,lf] 86 (0,0))/\w.ownsRow B 5 1 v bs.length bs/\v.ownBlock ≠ some b
def IsWr (B b:Nat) (bs:List Value) (lf:Value) (w:World):Prop:=WrAt B b (.pointer none) bs lf w \/ WrAt B b (.pointer (some ⟨b,0,none⟩)) bs lf w
theorem WrAt.lt (h:WrAt B b p bs lf w):b<w.heap.size:=by
 obtain ⟨_,v,hb,_⟩:=h;exact (Array.getElem?_eq_some_iff.1 hb).1
theorem WrAt.set0 (h:WrAt B b p bs lf w) (q:Value):WrAt B b q bs lf (w.setCell ⟨b,0,none⟩ q):=by
 obtain ⟨hB,v,hb,hown,hne⟩:=h;refine ⟨hB,v,by simp [World.setCell,Array.getElem?_modify,hb],?_,hne⟩;exact hown.kept (row:=some b) ⟨rfl,rfl,rfl,by simp [World.setCell],λk _ hk=>Below.heap_setCell _ _ _ _ (λe=>hk (by simp [e]))⟩ (Or.inr hne)
theorem WrAt.set2 (h:WrAt B b p bs lf w) (q:Value):WrAt B b p bs q (w.setCell ⟨b,2,none⟩ q):=by
 obtain ⟨hB,v,hb,hown,hne⟩:=h;refine ⟨hB,v,by simp [World.setCell,Array.getElem?_modify,hb],?_,hne⟩;exact hown.kept (row:=some b) ⟨rfl,rfl,rfl,by simp [World.setCell],λk _ hk=>Below.heap_setCell _ _ _ _ (λe=>hk (by simp [e]))⟩ (Or.inr hne)
theorem WrAt.put {v':Value} {bs':List Value} (hB:B<=b) (hb:w.heap[b]? = some (.cells #[p,v,lf] 86 (0,0))) (hown:w.ownsRow B 5 1 v' bs'.length bs') :
  WrAt B b p bs' lf (w.setCell ⟨b,1,none⟩ v'):=by
 have hne:=Lib.ownBlock_ne hown hb (by decide);refine ⟨hB,v',by simp [World.setCell,Array.getElem?_modify,hb],?_,hne⟩;exact hown.kept (row:=some b) ⟨rfl,rfl,rfl,by simp [World.setCell],λk _ hk=>Below.heap_setCell _ _ _ _ (λe=>hk (by simp [e]))⟩ (Or.inr hne)
theorem WrAt.below (h:WrAt B b p bs lf w) (hb:Below w.heap.size w w'):WrAt B b p bs lf w':=by
 obtain ⟨hB,v,hk,hown,hne⟩:=h;exact ⟨hB,v,(hb.block b (Array.getElem?_eq_some_iff.1 hk).1).trans hk,hown.kept (row:=none) ⟨hb.os,hb.tape,hb.output,hb.size,λk hk _=>hb.block k hk⟩ (by cases v.ownBlock <;> simp),hne⟩
theorem IsWr.below (h:IsWr B b bs lf w) (hb:Below w.heap.size w w'):IsWr B b bs lf w':=h.elim (λx=>.inl (x.below hb)) (λx=>.inr (x.below hb))
theorem IsWr.set2 (h:IsWr B b bs lf w) (q:Value):IsWr B b bs q (w.setCell ⟨b,2,none⟩ q):=h.elim (λx=>.inl (x.set2 q)) (λx=>.inr (x.set2 q))
theorem IsWr.lt (h:IsWr B b bs lf w):b<w.heap.size:=h.elim (λx=>x.lt) (λx=>x.lt)
theorem IsWr.le (h:IsWr B b bs lf w):B<=b:=h.elim (λx=>x.1) (λx=>x.1)
theorem IsWr.left (h:IsWr B b bs lf w):w.cell? ⟨b,2,none⟩=some lf/\w.frozen? ⟨b,2,none⟩=false:=by
 rcases h with ⟨_,v,hk,_⟩ | ⟨_,v,hk,_⟩ <;> exact ⟨by rw [Lib.cell_of_heap hk];rfl,Lib.frozen_of_heap hk 2⟩
theorem zEM {B:Nat} {b:Option Nat} (hb:Below w.heap.size w w'):Lib.OthersKept 5 b w w':=λk o hk _ _=>(hb.block k (Array.getElem?_eq_some_iff.1 hk).1).trans hk
theorem zMG {e:TypeId} {n:Nat} {xs:List Value} (h:w.ownsRow B e 1 v n xs):∀ g,v.ownBlock=some g->∃ c fz,w.heap[g]? = some (.cells c e fz):=by
 intro g hg;rcases h.2 with ⟨rfl,_⟩ | ⟨g',cap,cur,rfl,_,hgg,_⟩
 ·simp [Value.ownBlock] at hg
 ·simp [Value.ownBlock] at hg;subst hg;exact ⟨cur,_,hgg⟩
theorem zS5 (h:WrAt B b (.pointer none) bs lf w) :
  Calls prog 89 #[.pointer (some ⟨b,0,none⟩)] w λe w'=>e=.returned (.tuple #[])/\w'=w.setCell ⟨b,0,none⟩ (.pointer (some ⟨b,0,none⟩)):=by
 obtain ⟨hB,v,hbk,hown,hne⟩:=h;have c0:w.cell? ⟨b,0,none⟩=some (.pointer none):=by rw [Lib.cell_of_heap hbk];rfl
 have f0:w.frozen? ⟨b,0,none⟩=false:=Lib.frozen_of_heap hbk 0;have hsh:w.shape? b=some (86,3):=by simp [World.shape?,hbk]
 obtain ⟨j,hj,hjs⟩:=Option.map_eq_some_iff.1 zM8;have k1:=Lib.run_to_unsafe (P:=prog) w ⟨b,0,none⟩ underlying81 underlying163 hj (by rw [hjs];decide) hsh (Nat.zero_lt_succ 2);have k2:=Lib.run_from_unsafe (P:=prog) w ⟨b,0,none⟩ underlying163 underlying81 hj hsh zQt;have k3:(callFunc 119 #[.pointer (some ⟨b,0,none⟩)]).run prog w=.ok (.value (.pointer (some ⟨b,0,none⟩))) w:=by
  rw [run_callFunc_extern func119 (by kernel_rfl) (by kernel_rfl) (by kernel_rfl) (e:=Extern.AbiNoEscape.same) (by kernel_rfl),Lib.run_noEscape];rfl
 go_enter func89,ntmps89;go_wp2;go_end0
 exact ⟨rfl,rfl⟩
theorem zS6 (h:WrAt B b (.pointer (some ⟨b,0,none⟩)) bs lf w) :
  Calls prog 89 #[.pointer (some ⟨b,0,none⟩)] w λe w'=>e=.returned (.tuple #[])/\w'=w:=by
 obtain ⟨hB,v,hbk,hown,hne⟩:=h;have c0:w.cell? ⟨b,0,none⟩=some (.pointer (some ⟨b,0,none⟩)):=by rw [Lib.cell_of_heap hbk];rfl
 obtain ⟨j,hj,hjs⟩:=Option.map_eq_some_iff.1 zM8;have k1:=Lib.run_neq_ptr_same (P:=prog) w ⟨b,0,none⟩ underlying81 hj;go_enter func89,ntmps89;go_wp2;go_end0
 exact ⟨rfl,rfl⟩
theorem zOb (B b:Nat) (l:List UInt8) (lf:Value) (s:List UInt8) (w:World) (h:IsWr B b (Lib.byteCells l) lf w) (hlen:l.length+s.length<=10000000) :
  Calls prog 59 #[.pointer (some ⟨b,0,none⟩),.string ⟨s.toArray⟩] w λe w'=>e=.returned (.tuple #[.int .i64 s.length,.nilIface])/\IsWr B b (Lib.byteCells (l++s)) lf w'/\Below B w w'/\Lib.OthersKept 5 (some b) w w':=by
 have hBw:B<=w.heap.size:=Nat.le_of_lt (Nat.lt_of_le_of_lt h.le h.lt);have CC:Calls prog 89 #[.pointer (some ⟨b,0,none⟩)] w λe w'=>e=.returned (.tuple #[])/\WrAt B b (.pointer (some ⟨b,0,none⟩)) (Lib.byteCells l) lf w'/\Below B w w'/\Lib.OthersKept 5 (some b) w w':=by
  rcases h with h | h
  ·exact (zS5 h).mono λe w' ⟨he,hw⟩=>⟨he,by rw [hw];exact h.set0 _,by rw [hw];exact (Below.refl B w).setCell (p:=⟨b,0,none⟩) h.1 _,by rw [hw];exact (Lib.OthersKept.refl _ _ w).setCell ⟨b,0,none⟩ rfl _⟩
  ·exact (zS6 h).mono λe w' ⟨he,hw⟩=>⟨he,by rw [hw];exact h,by rw [hw];exact Below.refl B w,by rw [hw];exact Lib.OthersKept.refl _ _ w⟩
 obtain ⟨i0,hi,hz0,hz1,hz2⟩:=info_parts zH1;have hls:(⟨s.toArray⟩:ByteArray).size=s.length:=by simp [ByteArray.size]
 go_enter func59,ntmps59;go_wp2_with (go_at_call 89;refine CC.mono ?_)
 rintro e w1 ⟨rfl,hat,hb1,hk1⟩;have hlt:=hat.lt;obtain ⟨hB,v,hbk,hown,hne⟩:=hat;have s1:=hb1.size;have hll:(Lib.byteCells l).length=l.length:=Lib.byteCells_length l;have x1:w1.cell? ⟨b,1,none⟩=some v:=by rw [Lib.cell_of_heap hbk];rfl
 go_wp2_with (at_builtin;refine Lib.wpList_append_own_string _ rfl _ _ 82 9 rfl B 5 i0 underlying82 underlying9 hi hz0 hz1 hz2 _ _ _ rfl hown ⟨s.toArray⟩ rfl (by rw [hls,hll];unfold maxLen;omega) (by rw [hls,hll];omega) (by omega) ?_)
 intro v2 w2 hown2 hgrow _;have hk2:w2.heap[b]? = some (.cells #[.pointer (some ⟨b,0,none⟩),v,lf] 86 (0,0)):=by
  rw [hgrow.block b hlt (λe=>hne e.symm)];exact hbk
 have y0:w2.cell? ⟨b,0,none⟩=some (.pointer (some ⟨b,0,none⟩)):=by rw [Lib.cell_of_heap hk2];rfl
 have y1:w2.cell? ⟨b,1,none⟩=some v:=by rw [Lib.cell_of_heap hk2];rfl
 have y2:w2.frozen? ⟨b,1,none⟩=false:=Lib.frozen_of_heap hk2 1;have hB2:=hb1.grown hgrow (by omega) (λk hk=>(hown.lt k hk).1);have hK2:=(hk1.grown hgrow (zMG hown)).setCell ⟨b,1,none⟩ rfl v2;have hown3:w2.ownsRow B 5 1 v2 (Lib.byteCells (l++s)).length (Lib.byteCells (l++s)):=by
  have e1:Lib.byteCells (l++s)=Lib.byteCells l++Lib.strCells ⟨s.toArray⟩:=by rw [Lib.strCells_eq,<-Lib.byteCells_append]
  have e2:(Lib.byteCells (l++s)).length=l.length+s.length:=by rw [Lib.byteCells_length,List.length_append]
  rw [e2,e1];exact hown2
 obtain ⟨ao,n',cap,rfl⟩:∃ ao n' cap,v2=.slice ao n' cap:=by
  rcases hown2.2 with ⟨hv,_⟩ | ⟨g,cap,cur,hv,_⟩
  ·exact ⟨_,_,_,hv⟩
  ·exact ⟨_,_,_,hv⟩
 go_wp2;go_ret2
 exact ⟨by simp,Or.inr (WrAt.put hB hk2 hown3),hB2.setCell (p:=⟨b,1,none⟩) hB _,hK2⟩
theorem zLt (B b:Nat) (l:List UInt8) (lf:Value) (w:World) (h:IsWr B b (Lib.byteCells l) lf w) (h0:l ≠ []) :
  Calls prog 38 #[.pointer (some ⟨b,0,none⟩)] w λe w'=>e=.returned (.string ⟨l.toArray⟩)/\Below B w w':=by
 obtain ⟨p,hAt⟩:∃ p,WrAt B b p (Lib.byteCells l) lf w:=by
  rcases h with h | h
  ·exact ⟨_,h⟩
  ·exact ⟨_,h⟩
 obtain ⟨hB,v,hbk,hown,hne⟩:=hAt;have hl0:l.length ≠ 0:=by simpa using h0
 rw [Lib.byteCells_length] at hown;obtain ⟨g,cap,cur,rfl,hbg,hg,hnc,hcm,hcs,htake⟩:∃ g cap cur,v=.slice (some ⟨g,0,none⟩) l.length cap/\B<=g/\w.heap[g]? = some (.cells cur 5 (0,0))/\l.length<=cap/\cap<=maxLen/\cur.size=cap * 1/\cur.toList.take (l.length * 1)=Lib.byteCells l:=by
  rcases hown.2 with ⟨_,hz⟩ | ⟨g,cap,cur,hv,r⟩
  ·exact absurd hz hl0
  ·exact ⟨g,cap,cur,hv,r⟩
 have c1:w.drew.cell? ⟨b,1,none⟩=some (.slice (some ⟨g,0,none⟩) l.length cap):=by
  have:w.drew.heap[b]? = some (.cells #[p,.slice (some ⟨g,0,none⟩) l.length cap,lf] 86 (0,0)):=hbk;rw [Lib.cell_of_heap this];rfl
 have hSD:(Builtin.unsafeSliceData_ #[82] 117 #[.slice (some ⟨g,0,none⟩) l.length cap]).run prog w.drew=.ok (.pointer (some ⟨g,0,none⟩)) w.drew :=
  Lib.run_unsafeSliceData_row _ _ _ _ _ _ (by omega)
 have hUS:(Builtin.unsafeString_ #[117,3] 9 #[.pointer (some ⟨g,0,none⟩),.int .i64 l.length]).run prog w.drew=.ok (.string ⟨l.toArray⟩) (w.drew.freeze ⟨g,0,none⟩ l.length):=by
  refine Lib.run_unsafeString_row w.drew 117 3 9 5 underlying117 (by kernel_rfl) g cur.size (by have hg':w.drew.heap[g]? = some (.cells cur 5 (0,0)):=hg;simp [World.shape?,hg']) l h0 (by omega) (by unfold maxLen at hcm;omega) ?_;intro j x hx;have:=hown.cells (g:=g) rfl j (.int .u8 x.toNat) (by simp [Lib.byteCells,hx]);exact this
 have hBl:Below B w (w.drew.freeze ⟨g,0,none⟩ l.length):=Lib.below_freeze (Below.drew (Below.refl B w)) (p:=⟨g,0,none⟩) hbg _;go_enter func38,ntmps38;have mixed:prog.follows Departure.mixedOrders=true:=by kernel_rfl
 go_wp2;go_region_o
 all_goals (go_wp2;go_ret;exact ⟨rfl,hBl⟩)
theorem zKS:∀ i,(fNames.getD i []).length<=8
 | 0=>by decide
 | 1=>by decide
 | 2=>by decide
 | 3=>by decide
 | 4=>by decide
 | 5=>by decide
 | 6=>by decide
 | 7=>by decide
 | 8=>by decide
 | i+9=>by
  have:fNames.getD (i+9) []=[]:=by
   unfold List.getD;rw [List.getElem?_eq_none (by show 9<=i+9;omega)];rfl
  rw [this];simp
theorem zLk (N:Int):(Wnum.sgnT N).length<=1:=by unfold Wnum.sgnT;split <;> simp
theorem zNe {N:Int} {D:Nat} (h:N.natAbs<=9223372036854775807) (hD:D<=9223372036854775807):(Wnum.txt N D).length<=50:=by
 have h1:=zLk N;unfold Wnum.txt;rw [List.length_append];split
 ·have:=Wpl.dd_len N.natAbs h;have:=Wpl.dd_len D hD;simp only [List.length_append,List.length_cons];omega
 have hq:N.natAbs / D<=9223372036854775807:=Nat.le_trans (Nat.div_le_self _ _) h;have:=Wpl.dd_len (N.natAbs / D) hq;split
 ·omega
 ·have:=Wnum.decs_length D 6 (N.natAbs % D);simp only [List.length_append,List.length_cons];omega
theorem zHQ {v:Wt.Vl} (h:Wt.vlOk v=true):(zFx v).length<=600:=by
 unfold zFx;split
 ·obtain ⟨n1,n2⟩:=Wnum.cN_bd v.n v.d;obtain ⟨n3,n4⟩:=Wnum.cD_bd v.n v.d;have:=zNe (N:=Wnum.cN v.n v.d) (D:=(Wnum.cD v.n v.d).toNat) (by omega) (by omega);omega
 split
 ·rename_i h1 h2
  unfold Wt.vlOk at h;rw [if_neg (by omega),if_neg h1] at h;unfold Wv.right at h;rw [if_neg (by omega),if_neg h1,if_pos h2] at h;simp only [Bool.and_eq_true,decide_eq_true_eq] at h;have hs:=h.1.1.1.1.1;have hd:=Wlx.dbl_length v.t.data.toList;have e:v.t.data.toList.length=v.t.size:=by rw [Array.length_toList];rfl
  simp only [List.length_cons,List.length_append,List.length_nil];omega
 split
 ·split <;> decide
 ·have:=zKS v.f.toNat;omega
theorem zCd (a:Wt.Rf) (h0:0<=a.r) (h1:a.r<65536):(cw a).length<=40:=by
 unfold cw;have:=zHf a.fc;have:=zHf a.fr;have:=Wpl.colS_len a.c;have:=Wpl.dd_len (a.r+1).toNat (by omega);simp only [List.length_append];omega
theorem zAZ (h:Wt.rfOk a=true):(0<=a.r/\a.r<65536)/\(a.s=⟨#[]⟩ \/ Wt.shNm a.s=true):=by
 unfold Wt.rfOk Wt.inR at h;simp only [Bool.and_eq_true,decide_eq_true_eq,Bool.or_eq_true] at h;exact ⟨⟨h.1.1.1,h.1.1.2⟩,h.2⟩
theorem zBo {p:UInt8->Bool} {l:List UInt8} (h:Wt.isNm p l=true):1<=l.length/\l.length<=16:=by
 unfold Wt.isNm at h;simp only [Bool.and_eq_true,decide_eq_true_eq] at h;exact ⟨h.1.1.1,h.1.1.2⟩
theorem zBy (h:Wt.rfOk a=true):(zCG a).length<=60:=by
 obtain ⟨⟨h0,h1⟩,h2⟩:=zAZ h;have:=zCd a h0 h1;unfold zCG;split
 ·omega
 ·rename_i hn
  have:=(zBo (h2.resolve_left hn)).2;simp only [List.length_append,List.length_cons];omega
def zQL (f:Nat):Prop:=∀ (l:List Wt.Nd) (s d:Nat),Wt.one f l=some (s,d)->∀ least,(pr f least l).2=l.drop s/\(pr f least l).1.length<=1000 * s
theorem zPc (ih:zQL f):∀ (k:Nat) (first:Bool) (l:List Wt.Nd) (s d:Nat),Wt.many (Wt.one f) k l=some (s,d)->(prA (pr f) k first l).2=l.drop s/\(prA (pr f) k first l).1.length<=1000 * s+k:=by
 intro k;induction k with
 | zero=>intro first l s d h;simp only [Wt.many,Option.some.injEq,Prod.mk.injEq] at h;obtain ⟨rfl,rfl⟩:=h;exact ⟨rfl,Nat.zero_le _⟩
 | succ k ihk =>
  intro first l s d h
  simp only [Wt.many] at h;cases h1:Wt.one f l with
  | none=>rw [h1] at h;cases h
  | some q =>
   obtain ⟨a,b⟩:=q;rw [h1] at h;simp only at h;cases h2:Wt.many (Wt.one f) k (l.drop a) with
   | none=>rw [h2] at h;cases h
   | some q2 =>
    obtain ⟨a2,b2⟩:=q2;rw [h2] at h;simp only [Option.some.injEq,Prod.mk.injEq] at h;obtain ⟨rfl,rfl⟩:=h;obtain ⟨i1,i2⟩:=ih l a b h1 0;obtain ⟨j1,j2⟩:=ihk false _ a2 b2 h2;simp only [prA];rw [i1];refine ⟨by rw [j1,List.drop_drop],?_⟩;have hf:(if first=true then ([]:List UInt8) else [44]).length<=1:=by split <;> simp
    simp only [List.length_append];omega
theorem zGN (x:Wt.Nd):(mrk x).length<=2:=by
 unfold mrk;cases h:Wt.opOf x.op with
 | none=>simp
 | some o =>
  have:=List.mem_of_find?_eq_some h;simp only [Wt.opsT,List.mem_cons,List.not_mem_nil,or_false] at this;rcases this with rfl | rfl | rfl | rfl | rfl | rfl | rfl | rfl | rfl | rfl | rfl | rfl | rfl | rfl | rfl <;> decide
theorem zHA {o:Int × List UInt8 × Int} (h:Wt.opOf x.op=some o):tgh x=o.2.2/\0<=o.2.2/\o.2.2<=6:=by
 refine ⟨by unfold tgh;rw [h],?_⟩;have:=List.mem_of_find?_eq_some h;simp only [Wt.opsT,List.mem_cons,List.not_mem_nil,or_false] at this;rcases this with rfl | rfl | rfl | rfl | rfl | rfl | rfl | rfl | rfl | rfl | rfl | rfl | rfl | rfl | rfl <;> decide
def Knd (x:Wt.Nd):Prop :=
 (x.k=1/\Wt.vlOk x.v=true/\x=⟨1,x.v,0,⟨#[]⟩,0,Wt.r0,Wt.r0⟩) \/ (x.k=2/\Wt.rfOk x.a=true/\x=⟨2,Wt.v0,0,⟨#[]⟩,0,x.a,Wt.r0⟩) \/
 (x.k=3/\Wt.rfOk x.a=true/\Wt.rfOk x.b=true/\x.b.s.toList.isEmpty=true/\x=⟨3,Wt.v0,0,⟨#[]⟩,0,x.a,x.b⟩) \/
 (x.k=4/\opK x.op=4/\x=⟨4,Wt.v0,x.op,⟨#[]⟩,0,Wt.r0,Wt.r0⟩) \/ (x.k=5/\opK x.op=5/\x=⟨5,Wt.v0,x.op,⟨#[]⟩,0,Wt.r0,Wt.r0⟩) \/
 (x.k=6/\Wt.fnNm x.nm=true/\0<=x.ar/\x.ar<=30/\x=⟨6,Wt.v0,0,x.nm,x.ar,Wt.r0,Wt.r0⟩)
theorem zBv (h:Wt.right x=true):Knd x:=by
 unfold Wt.right at h;unfold Knd;split at h
 ·rename_i e;rw [Bool.and_eq_true,zAb] at h;exact Or.inl ⟨e,h.1,h.2⟩
 split at h
 ·rename_i e;rw [Bool.and_eq_true,zAb] at h;exact Or.inr (Or.inl ⟨e,h.1,h.2⟩)
 split at h
 ·rename_i e;simp only [Bool.and_eq_true,zAb] at h;exact Or.inr (Or.inr (Or.inl ⟨e,h.1.1.1,h.1.1.2,h.1.2,h.2⟩))
 split at h
 ·rename_i e;simp only [Bool.and_eq_true,zAb,beq_iff_eq] at h;exact Or.inr (Or.inr (Or.inr (Or.inl ⟨e,h.1,h.2⟩)))
 split at h
 ·rename_i e;simp only [Bool.and_eq_true,zAb,beq_iff_eq] at h;exact Or.inr (Or.inr (Or.inr (Or.inr (Or.inl ⟨e,h.1,h.2⟩))))
 split at h
 ·rename_i e;simp only [Bool.and_eq_true,zAb,decide_eq_true_eq] at h;exact Or.inr (Or.inr (Or.inr (Or.inr (Or.inr ⟨e,h.1.1.1,h.1.1.2,h.1.2,h.2⟩))))
 ·cases h
theorem zFc:Wt.opOf 0=none:=by decide
theorem zC8 (h:x.op=0):tgh x=7:=by unfold tgh;rw [h,zFc]
theorem zFA (h:Knd x):(tgh x=7/\x.op=0/\(x.k=1 \/ x.k=2 \/ x.k=3 \/ x.k=6)) \/ ((tgh x=5 \/ tgh x=6)/\Wt.parts x=1/\∃ o,Wt.opOf x.op=some o) \/ ((0<=tgh x/\tgh x<5)/\Wt.parts x=2/\∃ o,Wt.opOf x.op=some o):=by
 rcases h with ⟨h,-,e⟩ | ⟨h,-,e⟩ | ⟨h,-,-,-,e⟩ | ⟨h,h2,-⟩ | ⟨h,h2,-⟩ | ⟨h,-,-,-,e⟩
 ·have:=congrArg Wt.Nd.op e;exact Or.inl ⟨zC8 this,this,Or.inl h⟩
 ·have:=congrArg Wt.Nd.op e;exact Or.inl ⟨zC8 this,this,Or.inr (Or.inl h)⟩
 ·have:=congrArg Wt.Nd.op e;exact Or.inl ⟨zC8 this,this,Or.inr (Or.inr (Or.inl h))⟩
 ·unfold opK at h2;cases ho:Wt.opOf x.op with
  | none=>rw [ho] at h2;simp at h2
  | some o =>
   obtain ⟨oo,om,ot⟩:=o;rw [ho] at h2;simp only at h2;obtain ⟨t1,t2,t3⟩:=zHA ho;simp only at t1 t2 t3;refine Or.inr (Or.inl ⟨?_,by unfold Wt.parts;rw [if_pos h],_,rfl⟩);split at h2
   ·omega
   ·omega
 ·unfold opK at h2;cases ho:Wt.opOf x.op with
  | none=>rw [ho] at h2;simp at h2
  | some o =>
   obtain ⟨oo,om,ot⟩:=o;rw [ho] at h2;simp only at h2;obtain ⟨t1,t2,t3⟩:=zHA ho;simp only at t1 t2 t3;refine Or.inr (Or.inr ⟨?_,by unfold Wt.parts;rw [if_neg (by omega),if_pos h],_,rfl⟩);split at h2
   ·omega
   ·omega
 ·have:=congrArg Wt.Nd.op e;exact Or.inl ⟨zC8 this,this,Or.inr (Or.inr (Or.inr h))⟩
theorem zBS (h:Knd x) (hk:x.k=1 \/ x.k=2 \/ x.k=3):Wt.parts x=0:=by
 unfold Wt.parts;rw [if_neg (by omega),if_neg (by omega)];rcases h with ⟨h,-,e⟩ | ⟨h,-,e⟩ | ⟨h,-,-,-,e⟩ | ⟨h,h2,-⟩ | ⟨h,h2,-⟩ | ⟨h,-,-,-,e⟩
 ·exact congrArg Wt.Nd.ar e
 ·exact congrArg Wt.Nd.ar e
 ·exact congrArg Wt.Nd.ar e
 all_goals omega
theorem zCp (h:x.k=6):Wt.parts x=x.ar:=by
 unfold Wt.parts;rw [if_neg (by omega),if_neg (by omega)]
theorem zEn (h:Wt.many (Wt.one f) 1 l=some (s,d)):Wt.one f l=some (s,d):=by
 simp only [Wt.many] at h;cases h1:Wt.one f l with
 | none=>rw [h1] at h;cases h
 | some q=>obtain ⟨a,b⟩:=q;rw [h1] at h;simpa using h
theorem zFC (h:Wt.many (Wt.one f) 2 l=some (s,d)):∃ a b a2 b2,Wt.one f l=some (a,b)/\Wt.one f (l.drop a)=some (a2,b2)/\s=a+a2/\d=max b b2:=by
 simp only [Wt.many] at h;cases h1:Wt.one f l with
 | none=>rw [h1] at h;cases h
 | some q =>
  obtain ⟨a,b⟩:=q;rw [h1] at h;simp only at h;cases h2:Wt.one f (l.drop a) with
  | none=>rw [h2] at h;cases h
  | some q2 =>
   obtain ⟨a2,b2⟩:=q2;rw [h2] at h;simp only [Option.some.injEq,Prod.mk.injEq,Nat.add_zero,Nat.max_zero] at h;exact ⟨a,b,a2,b2,rfl,h2,h.1.symm,h.2.symm⟩
theorem zE6 {r:List Wt.Nd} (h:Wt.one (f+1) (x::r)=some (s,d)):Wt.right x=true/\∃ a b,Wt.many (Wt.one f) (Wt.parts x).toNat r=some (a,b)/\s=a+1/\d=b+1:=by
 unfold Wt.one at h;split at h
 ·rename_i hx
  cases h1:Wt.many (Wt.one f) (Wt.parts x).toNat r with
  | none=>rw [h1] at h;cases h
  | some q =>
   obtain ⟨a,b⟩:=q;rw [h1] at h;simp only [Option.some.injEq,Prod.mk.injEq] at h;exact ⟨hx,a,b,rfl,by omega,by omega⟩
 ·cases h
theorem zP6 (ih:zQL f) {x:Wt.Nd} (hx:Knd x) (hk:x.k=1 \/ x.k=2 \/ x.k=3 \/ x.k=6) {r:List Wt.Nd} {a b:Nat} (h:Wt.many (Wt.one f) (Wt.parts x).toNat r=some (a,b)) :
  (prS (pr f) x r).2=r.drop a/\(prS (pr f) x r).1.length<=1000 * a+900:=by
 unfold prS;by_cases h1:x.k=1
 ·rw [if_pos h1];rw [zBS hx (Or.inl h1)] at h;simp only [Int.toNat_zero,Wt.many,Option.some.injEq,Prod.mk.injEq] at h;have:Wt.vlOk x.v=true:=by
   rcases hx with ⟨_,h,e⟩ | ⟨h,-,e⟩ | ⟨h,-,-,-,e⟩ | ⟨h,h2,-⟩ | ⟨h,h2,-⟩ | ⟨h,-,-,-,e⟩
   ·exact h
   all_goals omega
  have:=zHQ this;exact ⟨by rw [<-h.1];rfl,by simp only;omega⟩
 rw [if_neg h1];by_cases h2:x.k=2
 ·rw [if_pos h2];rw [zBS hx (Or.inr (Or.inl h2))] at h;simp only [Int.toNat_zero,Wt.many,Option.some.injEq,Prod.mk.injEq] at h;have:Wt.rfOk x.a=true:=by
   rcases hx with ⟨h,-,e⟩ | ⟨_,h,e⟩ | ⟨h,-,-,-,e⟩ | ⟨h,h2,-⟩ | ⟨h,h2,-⟩ | ⟨h,-,-,-,e⟩
   ·omega
   ·exact h
   all_goals omega
  have:=zBy this;exact ⟨by rw [<-h.1];rfl,by simp only;omega⟩
 rw [if_neg h2];by_cases h3:x.k=3
 ·rw [if_pos h3];rw [zBS hx (Or.inr (Or.inr h3))] at h;simp only [Int.toNat_zero,Wt.many,Option.some.injEq,Prod.mk.injEq] at h;have:Wt.rfOk x.a=true/\Wt.rfOk x.b=true:=by
   rcases hx with ⟨h,-,e⟩ | ⟨h,-,e⟩ | ⟨_,h,h',-,e⟩ | ⟨h,h2,-⟩ | ⟨h,h2,-⟩ | ⟨h,-,-,-,e⟩
   ·omega
   ·omega
   ·exact ⟨h,h'⟩
   all_goals omega
  have l1:=zBy this.1;have l2:=zBy this.2;exact ⟨by rw [<-h.1];rfl,by simp only [List.length_append,List.length_cons];omega⟩
 rw [if_neg h3];have h6:x.k=6:=by omega
 rw [zCp h6] at h;have:Wt.fnNm x.nm=true/\0<=x.ar/\x.ar<=30:=by
  rcases hx with ⟨h,-,e⟩ | ⟨h,-,e⟩ | ⟨h,-,-,-,e⟩ | ⟨h,h2,-⟩ | ⟨h,h2,-⟩ | ⟨_,h,h',h'',e⟩
  ·omega
  ·omega
  ·omega
  ·omega
  ·omega
  ·exact ⟨h,h',h''⟩
 have l1:=(zBo this.1).2;obtain ⟨j1,j2⟩:=zPc ih _ true _ _ _ h;exact ⟨j1,by simp only [List.length_append,List.length_cons,List.length_nil];omega⟩
theorem zNG (ih:zQL f) {x:Wt.Nd} (hx:Knd x) {r:List Wt.Nd} {a b:Nat} (h:Wt.many (Wt.one f) (Wt.parts x).toNat r=some (a,b)) :
  (prN (pr f) x r).2=r.drop a/\(prN (pr f) x r).1.length<=1000 * a+900:=by
 have hm:=zGN x;unfold prN;rcases zFA hx with ⟨h7,-,hk⟩ | ⟨h56,hp,-⟩ | ⟨h04,hp,-⟩
 ·rw [if_pos h7];exact zP6 ih hx hk h
 ·rw [if_neg (by omega)];rw [hp] at h;have h':=zEn (show Wt.many (Wt.one f) 1 r=some (a,b) from h);rcases h56 with h5 | h6
  ·rw [if_pos h5];obtain ⟨i1,i2⟩:=ih _ _ _ h' 5;exact ⟨i1,by simp only [List.length_append];omega⟩
  ·rw [if_neg (by omega),if_pos h6];obtain ⟨i1,i2⟩:=ih _ _ _ h' 6;exact ⟨i1,by simp only [List.length_append];omega⟩
 ·rw [if_neg (by omega),if_neg (by omega),if_neg (by omega)];rw [hp] at h;obtain ⟨a1,b1,a2,b2,e1,e2,e3,e4⟩:=zFC (show Wt.many (Wt.one f) 2 r=some (a,b) from h);obtain ⟨i1,i2⟩:=ih _ _ _ e1 (tgh x);rw [i1];obtain ⟨j1,j2⟩:=ih _ _ _ e2 (tgh x+1);refine ⟨by rw [j1,List.drop_drop,e3],by simp only [List.length_append];omega⟩
theorem zDn:∀ (f:Nat),zQL f
 | 0,l,s,d,h=>by simp [Wt.one] at h
 | f+1,[],s,d,h=>by simp [Wt.one] at h
 | f+1,x::r,s,d,h=>λleast=>by
  obtain ⟨hx,a,b,hm,rfl,rfl⟩:=zE6 h;obtain ⟨i1,i2⟩:=zNG (zDn f) (zBv hx) hm;simp only [pr];split
  ·exact ⟨by rw [i1];rfl,by omega⟩
  ·exact ⟨by rw [i1];rfl,by simp only [List.length_append,List.length_cons,List.length_nil];omega⟩
open Go.RowKit
theorem zCy (k n d:Int) (t:ByteArray) (b:Bool) (f:Int) (w:World) (hr:Wv.right k n d t b f=true) (C:∀ w,CR 105 #[vlV ⟨k,n,d,t,b,f⟩] w (.bool (Wv.right k n d t b f))) :
  CR 165 #[vlV ⟨k,n,d,t,b,f⟩] w (vlV ⟨k,n,d,t,b,f⟩):=by
 simp only [hr] at C;simp only [vlV,vl6] at C ⊢;have pA:=(AtL.new0 w 26 [.int .i64 k,.int .i64 n,.int .i64 d,.string t,.bool b,.int .i64 f]).alloc (.cells zV0 26);have pR:=vlz (w.alloc (.cells #[.int .i64 k,.int .i64 n,.int .i64 d,.string t,.bool b,.int .i64 f] 26));simp only [World.size_alloc] at pR;have hB0:=zAI (zAI (Below.refl _ w) (.cells #[.int .i64 k,.int .i64 n,.int .i64 d,.string t,.bool b,.int .i64 f] 26)) (.cells zV0 26);go_enter func165,ntmps165;go_wp2_with fail
 refine (C _).mono ?_;rintro e w1 ⟨rfl,hb⟩;have pA1:=AtL.below hb pA;have pR1:=AtL.below hb pR;obtain ⟨a0,a1,a2,a3,a4,a5⟩:=pA1.f6;obtain ⟨c0,c1,c2,c3,c4,c5⟩:=pR1.f6;have g0:=pR1.2.2 0 (by decide);have g1:=pR1.2.2 1 (by decide);have g2:=pR1.2.2 2 (by decide);have g3:=pR1.2.2 3 (by decide);have g4:=pR1.2.2 4 (by decide);have g5:=pR1.2.2 5 (by decide);have hB1:=zAA hB0 hb;go_wp2;refine bodyPost_ret (v:=vlV ⟨k,n,d,t,b,f⟩) (by simp [results,results165,go_sem,vlV,vl6, *]) rfl ⟨rfl,?_⟩;exact (clB hB1)
theorem zEd (b:Bool) (w:World):Calls prog 189 #[.bool b] w λe w'=>e=.returned (.string ⟨(if b then [84,82,85,69] else [70,65,76,83,69]:List UInt8).toArray⟩)/\w=w':=by
 cases b with
 | true =>
  go_enter func189,ntmps189;go_wp2;go_ret;exact ⟨rfl,rfl⟩
 | false =>
  go_enter func189,ntmps189;go_wp2;go_ret;exact ⟨rfl,rfl⟩
theorem zIt (w:World):CR 182 #[] w (vlV Wt.v0):=by
 go_enter func182,ntmps182;go_wp2;refine bodyPost_ret (v:=vlV Wt.v0) (by simp [results,results182,go_sem,vlV,vl6,Wt.v0]) rfl ⟨rfl,?_⟩;exact clA
theorem zFK (b:Bool) (w:World):CR 167 #[vlV (zA1 b)] w (.tuple #[.string ⟨(if b then [84,82,85,69] else [70,65,76,83,69]:List UInt8).toArray⟩,vlV Wt.v0]):=by
 have C:=λw=>zCy 3 0 0 ⟨#[]⟩ b 0 w (by cases b <;> decide) (λw=>zEq 0 0 ⟨#[]⟩ b 0 w)
 have T:=λw=>zEd b w
 have Bl:=λw=>zIt w
 revert T
 generalize (⟨(if b then [84,82,85,69] else [70,65,76,83,69]:List UInt8).toArray⟩:ByteArray)=tx;intro T;simp only [vlV,vl6,zA1,Wt.v0] at C Bl ⊢;have pA:=(AtL.new0 w 26 [.int .i64 3,.int .i64 0,.int .i64 0,.string ⟨#[]⟩,.bool b,.int .i64 0]).alloc (.cells zV0 26);have pR:=vlz (w.alloc (.cells #[.int .i64 3,.int .i64 0,.int .i64 0,.string ⟨#[]⟩,.bool b,.int .i64 0] 26));simp only [World.size_alloc] at pR;have hB0:=zAI (zAI (Below.refl _ w) (.cells #[.int .i64 3,.int .i64 0,.int .i64 0,.string ⟨#[]⟩,.bool b,.int .i64 0] 26)) (.cells zV0 26);go_enter func167,ntmps167;go_wp2_with fail
 refine (C _).mono ?_;rintro e w1 ⟨rfl,hb⟩;have pA1:=AtL.below hb pA;have pR1:=AtL.below hb pR;obtain ⟨a0,a1,a2,a3,a4,a5⟩:=pA1.f6;have f0:=pA1.2.2 0 (by simp);have f1:=pA1.2.2 1 (by simp);have f2:=pA1.2.2 2 (by simp);have f3:=pA1.2.2 3 (by simp);have f4:=pA1.2.2 4 (by simp);have f5:=pA1.2.2 5 (by simp);have hB1:=zAA hB0 hb;clear hb;have hne:w.heap.size ≠ w.heap.size+1:=by omega
 go_wp2_with fail
 refine (T _).mono ?_;rintro e w2 ⟨rfl,rfl⟩;go_wp2_with fail
 refine (Bl _).mono ?_;rintro e w3 ⟨rfl,hb3⟩;have pR2:=AtL.below hb3 (((((pR1.far hne 0 _).far hne 1 _).far hne 2 _).far hne 3 _).far hne 4 _ |>.far hne 5 _);obtain ⟨c0,c1,c2,c3,c4,c5⟩:=pR2.f6;have g0:=pR2.2.2 0 (by decide);have g1:=pR2.2.2 1 (by decide);have g2:=pR2.2.2 2 (by decide);have g3:=pR2.2.2 3 (by decide);have g4:=pR2.2.2 4 (by decide);have g5:=pR2.2.2 5 (by decide);have hB3:Below w.heap.size w w3:=by
  refine zAA ?_ hb3;exact (clB hB1)
 go_wp2;refine bodyPost_ret (v:=.tuple #[.string tx,vlV Wt.v0]) (by simp [results,results167,go_sem,vlV,vl6,Wt.v0, *]) rfl ⟨rfl,?_⟩;exact (clB hB3)
theorem zHi (b:Bool) (w:World):CR 145 #[vlV (zA1 b)] w (.string ⟨(if b then [84,82,85,69] else [70,65,76,83,69]:List UInt8).toArray⟩):=by
 have C:=λw=>zCy 3 0 0 ⟨#[]⟩ b 0 w (by cases b <;> decide) (λw=>zEq 0 0 ⟨#[]⟩ b 0 w)
 have T:=λw=>zFK b w
 generalize (⟨(if b then [84,82,85,69] else [70,65,76,83,69]:List UInt8).toArray⟩:ByteArray)=tx at *;simp only [vlV,vl6,zA1,Wt.v0] at C T ⊢;have pA:=AtL.new0 w 26 [.int .i64 3,.int .i64 0,.int .i64 0,.string ⟨#[]⟩,.bool b,.int .i64 0];have hB0:=zAI (Below.refl _ w) (.cells #[.int .i64 3,.int .i64 0,.int .i64 0,.string ⟨#[]⟩,.bool b,.int .i64 0] 26);go_enter func145,ntmps145;go_wp2_with fail
 refine (C _).mono ?_;rintro e w1 ⟨rfl,hb⟩;have pA1:=AtL.below hb pA;obtain ⟨a0,a1,a2,a3,a4,a5⟩:=pA1.f6;have f0:=pA1.2.2 0 (by simp);have f1:=pA1.2.2 1 (by simp);have f2:=pA1.2.2 2 (by simp);have f3:=pA1.2.2 3 (by simp);have f4:=pA1.2.2 4 (by simp);have f5:=pA1.2.2 5 (by simp);have hB1:=zAA hB0 hb;clear hb;go_wp2_with fail
 refine (T _).mono ?_;rintro e w2 ⟨rfl,hb2⟩;have hB2:Below w.heap.size w w2:=by
  refine zAA ?_ hb2;exact (clB hB1)
 clear hb2;go_wp2;go_ret;exact ⟨rfl,(clB hB2)⟩
theorem zIJ (f:Nat) (h1:1<=f) (h8:f<=8) (w:World) (hF:FltAt w):CR 145 #[vlV ⟨4,0,0,⟨#[]⟩,false,f⟩] w (.string ⟨(fNames.getD f []).toArray⟩):=by
 have hfl:Wv.flt (f:Int)=true:=by unfold Wv.flt;simp;omega
 have hlt:f<fNames.length:=by show f<9;omega
 have hfv:fltR[f]? = some (.string ⟨(fNames.getD f []).toArray⟩):=by unfold fltR;rw [List.getElem?_map,List.getElem?_eq_getElem hlt];simp [List.getD,List.getElem?_eq_getElem hlt]
 have h9:1<w.heap.size:=World.block_lt_of_cell? _ _ (hF 0 _ rfl);generalize fNames.getD f []=nm at *;have C:=λw=>zCy 4 0 0 ⟨#[]⟩ false f w (by unfold Wv.right;simp [hfl]) (λw=>zHK 0 0 ⟨#[]⟩ false f w)
 simp only [vlV,vl6] at C ⊢;have pA:=AtL.new0 w 26 [.int .i64 4,.int .i64 0,.int .i64 0,.string ⟨#[]⟩,.bool false,.int .i64 f];have hB0:=zAI (Below.refl _ w) (.cells #[.int .i64 4,.int .i64 0,.int .i64 0,.string ⟨#[]⟩,.bool false,.int .i64 f] 26);have hF0:=hF.below hB0;go_enter func145,ntmps145;go_wp2_with fail
 refine (C _).mono ?_;rintro e w1 ⟨rfl,hb⟩;have pA1:=AtL.below hb pA;have hF1:=hF0.below hb;obtain ⟨a0,a1,a2,a3,a4,a5⟩:=pA1.f6;have f0:=pA1.2.2 0 (by simp);have f1:=pA1.2.2 1 (by simp);have f2:=pA1.2.2 2 (by simp);have f3:=pA1.2.2 3 (by simp);have f4:=pA1.2.2 4 (by simp);have f5:=pA1.2.2 5 (by simp);have hB1:=zAA hB0 hb;clear hb;have g:w1.cell? ⟨1,f,none⟩=some (.string ⟨nm.toArray⟩):=by
  have:=hF1 f _ hfv;rw [Nat.zero_add] at this;exact this
 have hne:¬ w.heap.size=1:=by omega
 have hi1:¬ (f:Int)<0:=by omega
 have hi2:(f:Int)<9:=by omega
 go_wp2;go_ret;exact ⟨rfl,(clB hB1)⟩
open Go.Shelf Go.RowKit
def zFb:Go.Shelf.Ren:=⟨fun | 171=>161 | 243=>180 | 246=>199 | 283=>205 | 284=>206 | 285=>207 | 286=>208 | 129=>214 | 317=>213 | 318=>215 | 319=>216 | 320=>217 | 337=>222 | 338=>223 | n=>n,fun | 3=>3 | 9=>9 | 2=>2 | 4=>4 | 171=>216 | 0=>0 | 53=>166 | 37=>82 | 5=>5 | 173=>219 | 212=>226 | 51=>205 | 20=>20 | 213=>227 | 46=>195 | 232=>233 | 233=>234 | n=>n,fun | 17=>5 | 18=>6 | 19=>7 | n=>n⟩
theorem zM3:Go.Proofs.LaysM.n171 prog zFb:={
 mixed:=by kernel_rfl
 f129:=func214.trans (congrArg some (by kernel_rfl))
 f171:=func161.trans (congrArg some (by kernel_rfl))
 f243:=func180.trans (congrArg some (by kernel_rfl))
 f246:=func199.trans (congrArg some (by kernel_rfl))
 f283:=func205.trans (congrArg some (by kernel_rfl))
 f284:=func206.trans (congrArg some (by kernel_rfl))
 f285:=func207.trans (congrArg some (by kernel_rfl))
 f286:=func208.trans (congrArg some (by kernel_rfl))
 f317:=func213.trans (congrArg some (by kernel_rfl))
 f318:=func215.trans (congrArg some (by kernel_rfl))
 f319:=func216.trans (congrArg some (by kernel_rfl))
 f320:=func217.trans (congrArg some (by kernel_rfl))
 f337:=func222.trans (congrArg some (by kernel_rfl))
 f338:=func223.trans (congrArg some (by kernel_rfl))
 t0:=underlying0
 a0:=Tryz.isAgg0
 z0:=Tryz.sizeOf0
 v0:=Tryz.zeroValue0
 t2:=underlying2
 a2:=Tryz.isAgg2
 z2:=Tryz.sizeOf2
 v2:=Tryz.zeroValue2
 t3:=underlying3
 a3:=Tryz.isAgg3
 z3:=Tryz.sizeOf3
 v3:=Tryz.zeroValue3
 t4:=underlying4
 a4:=Tryz.isAgg4
 z4:=Tryz.sizeOf4
 v4:=Tryz.zeroValue4
 t5:=underlying5
 a5:=Tryz.isAgg5
 z5:=Tryz.sizeOf5
 v5:=Tryz.zeroValue5
 t9:=underlying9
 a9:=Tryz.isAgg9
 z9:=Tryz.sizeOf9
 v9:=Tryz.zeroValue9
 t20:=underlying20
 a20:=Tryz.isAgg20
 z20:=Tryz.sizeOf20
 v20:=Tryz.zeroValue20
 t37:=underlying82
 a37:=Tryz.isAgg82
 z37:=Tryz.sizeOf82
 v37:=Tryz.zeroValue82
 t46:=underlying195
 a46:=Tryz.isAgg195
 z46:=Tryz.sizeOf195
 v46:=Tryz.zeroValue195
 t51:=underlying205
 a51:=Tryz.isAgg205
 z51:=Tryz.sizeOf205
 v51:=Tryz.zeroValue205
 t53:=underlying166
 a53:=Tryz.isAgg166
 z53:=Tryz.sizeOf166
 v53:=Tryz.zeroValue166
 t171:=underlying216
 a171:=Tryz.isAgg216
 z171:=Tryz.sizeOf216
 v171:=Tryz.zeroValue216
 t173:=underlying219
 a173:=Tryz.isAgg219
 z173:=Tryz.sizeOf219
 v173:=Tryz.zeroValue219
 t212:=underlying226
 a212:=Tryz.isAgg226
 z212:=Tryz.sizeOf226
 v212:=Tryz.zeroValue226
 t213:=underlying227
 a213:=Tryz.isAgg227
 z213:=Tryz.sizeOf227
 t232:=underlying233
 a232:=Tryz.isAgg233
 z232:=Tryz.sizeOf233
 v232:=Tryz.zeroValue233
 t233:=underlying234
 a233:=Tryz.isAgg234
 z233:=Tryz.sizeOf234
 v233:=Tryz.zeroValue234
 g17:=by kernel_rfl
 g18:=by kernel_rfl
 g19:=by kernel_rfl
 i0:=by kernel_rfl
 i2:=by kernel_rfl
 i3:=by kernel_rfl
 i4:=by kernel_rfl
 i5:=by kernel_rfl
 i9:=by kernel_rfl
 i20:=by kernel_rfl
 i37:=by kernel_rfl
 i46:=by kernel_rfl
 i51:=by kernel_rfl
 i53:=by kernel_rfl
 i171:=by kernel_rfl
 i173:=by kernel_rfl
 i212:=by kernel_rfl
 i232:=by kernel_rfl
 i233:=by kernel_rfl
 m17:=by kernel_rfl
 m18:=by kernel_rfl
 m19:=by kernel_rfl}
theorem zLC (n:Int) (h0:-9223372036854775808<=n) (h1:n<=9223372036854775807) (w:World) (htab:Lib.TabIs prog w "internal/strconv.uint64pow10" .u64 Lib.pow10Tab) :
  Calls prog 161 #[.int .i64 n] w λe w'=>e=.returned (.string ⟨(Lib.itoa n).toArray⟩)/\∃ k os,w'=Sort.grow (w.drewN k) os:=Any.strconv_Itoa zM3 n h0 h1 w htab
def zD2:Go.Shelf.Ren:=⟨fun | 169=>38 | n=>n,fun | 70=>81 | 9=>9 | 0=>0 | 72=>84 | 37=>82 | 127=>117 | 3=>3 | 5=>5 | n=>n,fun | n=>n⟩
theorem zNy:Go.Proofs.Lays.n169 prog zD2:={
 mixed:=by kernel_rfl
 f169:=func38.trans (congrArg some (by kernel_rfl))
 t0:=underlying0
 a0:=Tryz.isAgg0
 z0:=Tryz.sizeOf0
 v0:=Tryz.zeroValue0
 t3:=underlying3
 a3:=Tryz.isAgg3
 z3:=Tryz.sizeOf3
 v3:=Tryz.zeroValue3
 t9:=underlying9
 a9:=Tryz.isAgg9
 z9:=Tryz.sizeOf9
 v9:=Tryz.zeroValue9
 t37:=underlying82
 a37:=Tryz.isAgg82
 z37:=Tryz.sizeOf82
 v37:=Tryz.zeroValue82
 t70:=underlying81
 a70:=Tryz.isAgg81
 z70:=Tryz.sizeOf81
 v70:=Tryz.zeroValue81
 t72:=underlying84
 a72:=Tryz.isAgg84
 z72:=Tryz.sizeOf84
 v72:=Tryz.zeroValue84
 t127:=underlying117
 a127:=Tryz.isAgg117
 z127:=Tryz.sizeOf117
 v127:=Tryz.zeroValue117}
theorem zMH:Builder.Extra prog zD2:={
 sizeBuilder:=by kernel_rfl
 liesBuilder:=by kernel_rfl
 t5:=underlying5
 a5:=Tryz.isAgg5
 z5:=Tryz.sizeOf5
 v5:=Tryz.zeroValue5
 infoByte:=by kernel_rfl
 cellsByte:=by kernel_rfl
 sizeByte:=by kernel_rfl
 neB5:=by decide}
theorem zNl (B b:Nat) (l:List UInt8) (w:World) (h:Lib.IsBuilder 84 5 B b (Lib.byteCells l) w) (hBw:B<=w.heap.size) :
  Calls prog 38 #[.pointer (some ⟨b,0,none⟩)] w λe w'=>e=.returned (.string ⟨l.toArray⟩)/\Below B w w':=Any.Builder_String_any zNy zMH B b l w h hBw
theorem zPe {q:Nat} (h:q<=9):(((UInt8.ofNat (48+q)).toNat:Nat):Int)=48+(q:Int):=by
 have e:(UInt8.ofNat (48+q)).toNat=48+q:=by
  rw [UInt8.toNat_ofNat'];exact Nat.mod_eq_of_lt (by omega)
 rw [e];omega
theorem zFI (r d:Nat) (w:World) (hd:0<d) (hd2:d<=1000000) (hr:r<d) (hm:1000000 % d=0) :
  CR 163 #[.int .i64 (r:Int),.int .i64 (d:Int)] w (.string ⟨(Wnum.decs d 6 r).toArray⟩):=by
 have d0:¬ (d:Int)=0:=by omega
 have EM:Hid (r * 10 ^ 6 % d=0):=Wnum.ends_six hm;clear hm;go_enter func163,ntmps163;go_wp2_with fail
 go_loopw [0] (λx wr=>∃ (k r1:Nat) (l:List UInt8),x=.int .i64 (r1:Int)/\r1<d/\k<=6/\Hid (r1 * 10 ^ k % d=0)/\Hid (Wnum.decs d 6 r=l++Wnum.decs d k r1)/\l.length+k<=6/\Lib.IsBuilder 84 5 w.heap.size w.heap.size (Lib.byteCells l) wr/\Below w.heap.size w wr) (λx _=>Wnum.fu d 6 (intOf x).toNat)
 case atStart=>exact ⟨6,r,[],rfl,hr,Nat.le_refl _,EM,(rfl:Wnum.decs d 6 r=[]++Wnum.decs d 6 r),by simp,Lib.fresh_isBuilder 84 5 w,(Below.refl _ w).alloc (Nat.le_refl _) _⟩
 case round =>
  obtain ⟨k,r1,l,rfl,h1,hk,HE,HD,hl,hI,qB⟩:=hrel;have s1:=qB.size;by_cases h0:r1=0
  ·have E:Hid (Wnum.decs d 6 r=l):=by show _=_;rw [HD.out,h0,Wnum.decs_zero,List.append_nil]
   have r0:((r1:Int) != 0)=false:=by simp [h0]
   clear h0;go_wp2_with fail
   refine (zNl _ _ l _ hI s1).mono ?_;rintro e w2 ⟨rfl,hb2⟩;go_wp2;go_ret;exact ⟨by rw [E.out];rfl,qB.trans hb2⟩
  ·obtain ⟨k',rfl⟩:∃ k',k=k'+1:=by
    cases k with
    | zero=>exact absurd (Wnum.ends_zero h1 HE.out) h0
    | succ k'=>exact ⟨k',rfl⟩
   have hq:r1 * 10 / d<=9:=by
    have:r1 * 10 / d<10:=(Nat.div_lt_iff_lt_mul hd).2 (by omega);omega
   have e1:(r1:Int) * 10 / (d:Int)=((r1 * 10 / d:Nat):Int):=by rw [Int.natCast_ediv,Int.natCast_mul];rfl
   have e2:(r1:Int) * 10 % (d:Int)=((r1 * 10 % d:Nat):Int):=by rw [Int.natCast_emod,Int.natCast_mul];rfl
   have L:Hid (Wnum.fu d 6 (r1 * 10 % d)<Wnum.fu d 6 r1):=Wnum.fu_less hd h1 h0 hk HE.out;have HE2:Hid (r1 * 10 % d * 10 ^ k' % d=0):=Wnum.ends_step HE.out;have lt2:r1 * 10 % d<d:=Nat.mod_lt _ hd;have HD2:Hid (Wnum.decs d 6 r=(l++[UInt8.ofNat (48+r1 * 10 / d)])++Wnum.decs d k' (r1 * 10 % d)):=by
    show _=_
    rw [HD.out,Wnum.decs_more h0,List.append_assoc];rfl
   have hb:=zPe hq;have r0:((r1:Int) != 0)=true:=by rw [bne_iff_ne];omega
   generalize r1 * 10 / d=q at *;generalize hr2:r1 * 10 % d=r2 at *;clear hr2 HE HD;have ec:Lib.byteCells l++[Value.int .u8 (48+(q:Int))]=Lib.byteCells (l++[UInt8.ofNat (48+q)]):=by
    rw [Lib.byteCells_append];show _=Lib.byteCells l++[Value.int .u8 (((UInt8.ofNat (48+q)).toNat:Nat):Int)]
    rw [hb]
   have WB:=zRa (48+(q:Int)) wr hI (by rw [Lib.byteCells_length];omega) s1;rw [ec] at WB;clear hb ec;go_wp2_with fail
   refine WB.mono ?_;rintro e w2 ⟨rfl,hI2,hb2⟩;go_wp2_with fail
   go_roundw
   case rel=>exact ⟨k',r2,l++[UInt8.ofNat (48+q)],by rw [e2],lt2,by omega,HE2,HD2,by rw [List.length_append,List.length_singleton];omega,hI2,qB.trans hb2⟩
   case measure=>simpa [intOf,e2] using L.out
