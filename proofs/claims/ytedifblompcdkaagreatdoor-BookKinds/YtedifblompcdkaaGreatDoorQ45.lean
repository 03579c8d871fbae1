/- BAble, BIter, BCmp, BSort, BCells. -/
import Derived.Test.YtedifblompcdkaaGreatDoorQ44
import Derived.Maps.RangeRun
import Derived.Sort.Grow
import Derived.Lib.QuietBelow
import Derived.Shelf.SlSortCmp.WholeK
import Derived.Ground.SlsfProg
import Derived.Shelf.SlGeneric
import Derived.Shelf.SlSortCmp.NoneTotal
set_option maxHeartbeats 4000000
set_option maxRecDepth 100000
set_option linter.unusedVariables false
namespace Go.Proofs.YtedifblompcdkaaGreatDoor
open Tryz
open Go.RowKit Wf
variable {w:World} {F:List (Wpl.Cl × Ct)} {r mb k:Nat} {D:List Wpl.Cl} {E:List MapEntry}
def chA:List Ch:=[⟨⟨0,0,0⟩,t2B⟩,⟨⟨1,0,0⟩,tF⟩]
def rsA (a:Ch):List I ⊕ (Int × Int):=if a.x.s=0 then .inl [] else .inl [ins 2 0 0,ins 16 0 0]
def gA:List (Wpl.Cl × Ce):=[(⟨0,0,0⟩,⟨t2B,[]⟩),(⟨1,0,0⟩,⟨tF,[ins 2 0 0,ins 16 0 0]⟩)]
theorem raA:raP 2 rsA chA 0 []=.inr gA:=by kernel_rfl
theorem lbA:¬ 4096<lbE [] chA (([]:List (Wpl.Cl × Ce)).length:Int):=by decide +kernel
theorem zR4:zIp gA chA []=gA:=by kernel_rfl
theorem zOq:∀ a ∈ chA,zEW 2 a.x=true->zE0 [sS,sT] a.x a.t (rsA a):=by
 intro a ha _;simp only [chA,List.mem_cons,List.not_mem_nil,or_false] at ha;rcases ha with rfl | rfl
 ·exact zNf
 ·exact zQ1
theorem zPa:∀ y,(gtE y gA).t.size<=9223372036854775807:=by
 intro y;rcases zGv (G:=gA) (x:=y) with h | h
 ·rw [h];decide
 ·generalize gtE y gA=e at *;simp only [gA,List.mem_cons,List.not_mem_nil,or_false,Prod.mk.injEq] at h;rcases h with ⟨_,rfl⟩ | ⟨_,rfl⟩ <;> decide
def chB:Array Value:=#[.int .i64 0,.int .i64 0,.int .i64 0,.string t2B,.int .i64 1,.int .i64 0,.int .i64 0,.string tF]
theorem zNc (w:World):RdH (w.alloc (.cells #[.int .i64 0,.int .i64 0,.int .i64 0,.string t2B,.int .i64 1,.int .i64 0,.int .i64 0,.string tF] 50)) (some ⟨w.heap.size,0,none⟩) chA:=by
 have q:=(AtL.new0 w 50 [.int .i64 0,.int .i64 0,.int .i64 0,.string t2B,.int .i64 1,.int .i64 0,.int .i64 0,.string tF]).range;intro i a ha;refine ⟨w.heap.size,0,rfl,?_⟩;match i,ha with
 | 0,ha =>
  simp only [chA,List.getElem?_cons_zero,Option.some.injEq] at ha;subst ha;intro j v hv;have hj:j<4:=(List.getElem?_eq_some_iff.1 hv).1;match j,hj with
  | 0,_=>exact q 0 v hv
  | 1,_=>exact q 1 v hv
  | 2,_=>exact q 2 v hv
  | 3,_=>exact q 3 v hv
 | 1,ha =>
  simp only [chA,List.getElem?_cons_succ,List.getElem?_cons_zero,Option.some.injEq] at ha;subst ha;intro j v hv;have hj:j<4:=(List.getElem?_eq_some_iff.1 hv).1;match j,hj with
  | 0,_=>exact q 4 v hv
  | 1,_=>exact q 5 v hv
  | 2,_=>exact q 6 v hv
  | 3,_=>exact q 7 v hv
 | i+2,ha=>simp [chA] at ha
theorem zIX (w:World):(w.alloc (.cells #[.string sS,.string sT] 9)).ownsRow 0 9 1 (.slice (some ⟨w.heap.size,0,none⟩) 2 2) 2 [.string sS,.string sT] :=
 ⟨rfl,Or.inr ⟨w.heap.size,2,_,rfl,Nat.zero_le _,(Go.MapKept.heap_alloc w _).1,Nat.le_refl _,by unfold maxLen;omega,rfl,rfl⟩⟩
theorem zQF (w:World) (hE:BEnv w):CR 4 #[] w (.bool true):=by
 have hb0:=zAH (Below.refl _ w) (.cells #[.string sS,.string sT] 9);have NW:=zND w.heap.size (w.alloc (.cells #[.string sS,.string sT] 9)) (hE.1.1.below hb0) (zIX w);have HE:Hid (BEnv w):=hE;have HB0:Hid (Below w.heap.size w (w.alloc (.cells #[.string sS,.string sT] 9))):=hb0;clear hE hb0;go_enter func4,ntmps4;go_wp2_with fail
 refine NW.mono ?_;rintro e w1 ⟨bb,mb,na,nk,rfl,hk,hb1,hbb,hmb⟩;have HB1:Hid (Below w.heap.size w w1):=zAA HB0.out hb1;have HBM:Hid (w.heap.size<=bb/\w.heap.size<=mb):=by
  have:=HB0.out.size;exact ⟨by omega,by omega⟩
 have HK1:Hid (BK w1 bb mb w1.heap.size na nk [sS,sT] 0 []):=hk;clear NW hk hb1 hbb hmb HB0;go_upto_region 4 with fail
 have hb2:=zAH (Below.refl _ w1) (.cells #[.int .i64 0,.int .i64 0,.int .i64 0,.string t2B,.int .i64 1,.int .i64 0,.int .i64 0,.string tF] 50);have ED:=zKb bb mb w1.heap.size na nk [sS,sT] 0 [] (some ⟨w1.heap.size,0,none⟩) 2 2 chA rsA (w1.alloc (.cells #[.int .i64 0,.int .i64 0,.int .i64 0,.string t2B,.int .i64 1,.int .i64 0,.int .i64 0,.string tF] 50)) ((HE.out.below HB1.out).below hb2) (HK1.out.below hb2) (zNc w1) rfl (by decide) (by decide) zOq gA raA (by decide) (λy=>by show (0:Nat)<=_;omega) zPa lbA (by decide) (λg o e=>by have:=HK1.out.lt;cases e;omega);rw [zR4] at ED;have HB2:Hid (Below w.heap.size w (w1.alloc (.cells #[.int .i64 0,.int .i64 0,.int .i64 0,.string t2B,.int .i64 1,.int .i64 0,.int .i64 0,.string tF] 50))):=zAA HB1.out hb2;clear hb2 HK1 HB1;go_wp2_with fail
 refine ED.mono ?_;rintro e w3 ⟨rfl,hk3,fr3⟩;have hb4:=zAH (Below.refl _ w3) (.cells #[.int .i64 0,.int .i64 0,.int .i64 0] 47);have q4:=AtL.new0 w3 47 [.int .i64 0,.int .i64 0,.int .i64 0];have HK4:Hid (BK (w3.alloc (.cells #[.int .i64 0,.int .i64 0,.int .i64 0] 47)) bb mb w1.heap.size na nk [sS,sT] 1 gA):=hk3.below hb4;have HB4:Hid (Below w.heap.size w (w3.alloc (.cells #[.int .i64 0,.int .i64 0,.int .i64 0] 47))):=zAA ((Fr.new (Fr.of_below [] HB2.out) fr3 (λk hk=>Or.inr (by simp at hk;have:=HBM.out;omega))).to_below (by simp)) hb4;clear ED hk3 fr3 hb4 HB2;go_upto_region 5 with fail
 generalize w3.alloc (.cells #[.int .i64 0,.int .i64 0,.int .i64 0] 47)=W4 at *;generalize hfb:w3.heap.size=fb at *;clear hfb;obtain ⟨j0,_,_,_⟩:=q4.three;have VE:=zFS bb mb (.slice na 2 nk) 1 W4 HK4.out.hd;go_wp2_with fail
 refine VE.mono ?_;rintro e w5 ⟨rfl,hb5⟩;have HK5:Hid (BK w5 bb mb w1.heap.size na nk [sS,sT] 1 gA):=HK4.out.below hb5;have HB5:Hid (Below w.heap.size w w5):=zAA HB4.out hb5;clear VE hb5 HK4 HB4 q4 j0;obtain ⟨F5,m5,t5⟩:=HK5.out.mp;have LE:=zGq bb mb (.slice na 2 nk) 1 F5 w5 HK5.out.hd m5;rw [t5.len] at LE;clear m5 t5;go_wp2_with fail
 refine LE.mono ?_;rintro e w6 ⟨rfl,hb6⟩;have HK6:Hid (BK w6 bb mb w1.heap.size na nk [sS,sT] 1 gA):=HK5.out.below hb6;have HB6:Hid (Below w.heap.size w w6):=zAA HB5.out hb6;clear LE hb6 HK5 HB5;obtain ⟨F6,m6,t6⟩:=HK6.out.mp;have KI:=zBa bb mb (.slice na 2 nk) 1 F6 ⟨1,0,0⟩ w6 HK6.out.hd m6 (by rw [(t6.get _).1.1];exact zPa _);rw [(t6.get _).1.1,show knd (gtE ⟨1,0,0⟩ gA).t=2 from by kernel_rfl] at KI;clear m6 t6;go_wp2_with fail
 refine KI.mono ?_;rintro e w7 ⟨rfl,hb7⟩;have HK7:Hid (BK w7 bb mb w1.heap.size na nk [sS,sT] 1 gA):=HK6.out.below hb7;have HB7:Hid (Below w.heap.size w w7):=zAA HB6.out hb7;clear KI hb7 HK6 HB6;obtain ⟨F7,m7,t7⟩:=HK7.out.mp;have TX:=zCJ bb mb (.slice na 2 nk) 1 F7 ⟨0,0,0⟩ w7 HK7.out.hd m7;rw [(t7.get _).1.1,show (gtE ⟨0,0,0⟩ gA).t=t2B from by kernel_rfl] at TX;clear m7 t7;go_wp2_with fail
 refine TX.mono ?_;rintro e w8 ⟨rfl,hb8⟩;have HK8:Hid (BK w8 bb mb w1.heap.size na nk [sS,sT] 1 gA):=HK7.out.below hb8;have HB8:Hid (Below w.heap.size w w8):=zAA HB7.out hb8;clear TX hb8 HK7 HB7;obtain ⟨F8,m8,t8⟩:=HK8.out.mp;have hcd:=(t8.get ⟨1,0,0⟩).1.2;rw [show (gtE ⟨1,0,0⟩ gA).c=[ins 2 0 0,ins 16 0 0] from by kernel_rfl] at hcd;have US:=zNT bb mb w1.heap.size (.slice na 2 nk) 1 F8 ⟨1,0,0⟩ [ins 2 0 0,ins 16 0 0] w8 HK8.out.hd m8 hcd (HE.out.2.1.below HB8.out) (by decide) zOu zOD;rw [zQC] at US;clear m8 t8 hcd;go_wp2_with fail
 refine US.mono ?_;rintro e w9 ⟨⟨ua,uc,rfl⟩,hb9⟩;have HK9:Hid (BK w9 bb mb w1.heap.size na nk [sS,sT] 1 gA):=HK8.out.below hb9;have HB9:Hid (Below w.heap.size w w9):=zAA HB8.out hb9;clear US hb9 HK8 HB8;have SH:=zNx bb mb na nk [sS,sT] 1 sT w9 HK9.out.hd HK9.out.rs (λ_=>by decide);rw [show ixS sT [sS,sT] 0=1 from by kernel_rfl] at SH;go_wp2_with fail
 refine SH.mono ?_;rintro e w10 ⟨rfl,rfl⟩;clear SH;go_wp2;go_ret;exact ⟨rfl,HB9.out⟩
open Go.RowKit
open Go.ChangeMaps (setBlock)
theorem zJh (h:r<w.heap.size) (o:Obj):(setBlock w r o).heap[r]? = some o:=by simp [setBlock,h]
theorem zDi {j:Nat} (o:Obj) (h:j ≠ r):(setBlock w r o).heap[j]? = w.heap[j]?:=by
 show (w.heap.setIfInBounds r o)[j]? = _
 rw [Array.getElem?_setIfInBounds_ne (Ne.symm h)]
def ItB (w:World) (r mb:Nat) (F:List (Wpl.Cl × Ct)) (D:List Wpl.Cl) (k:Nat):Prop :=
 ∃ (es:Array MapEntry) (ck since c0:Nat) (seen:Array Nat),w.heap[r]? = some (.mapIter (some mb) since seen c0)/\w.heap[mb]? = some (.map es ck)/\enB es.toList F/\StB es.toList ck/\since=ck/\since<=c0/\(leftOf es seen).size=k/\∀ y ∈ D,∃ e ∈ es.toList,e.key=ceV y/\seen.contains e.born=true
theorem ItB.lt (h:ItB w r mb F D k):r<w.heap.size/\mb<w.heap.size:=by
 obtain ⟨es,ck,since,c0,seen,h1,h2,_⟩:=h;exact ⟨(Array.getElem?_eq_some_iff.1 h1).1,(Array.getElem?_eq_some_iff.1 h2).1⟩
theorem ItB.fr {S:List Nat} {w':World} (h:ItB w r mb F D k) (hf:Fr S w w') (h1:r ∉ S) (h2:mb ∉ S):ItB w' r mb F D k:=by
 have hl:=h.lt;obtain ⟨es,ck,since,c0,seen,g1,g2,g3⟩:=h;exact ⟨es,ck,since,c0,seen,by rw [hf.block r hl.1 h1];exact g1,by rw [hf.block mb hl.2 h2];exact g2,g3⟩
theorem enB.mem (h:enB E F) {e:MapEntry} (he:e ∈ E):∃ x f,(x,f) ∈ F/\e.key=ceV x/\e.val=ctV f:=by
 have:(e.key,e.val) ∈ E.map (λe=>(e.key,e.val)):=List.mem_map.2 ⟨e,he,rfl⟩;rw [h] at this;obtain ⟨p,hp,e1⟩:=List.mem_map.1 this;simp only [Prod.mk.injEq] at e1;exact ⟨p.1,p.2,hp,e1.1.symm,e1.2.symm⟩
theorem zPD {x y:Wpl.Cl} (h:ceV x=ceV y):x=y:=by
 obtain ⟨a,b,c⟩:=x;obtain ⟨a',b',c'⟩:=y;simpa using h
theorem enB.one (h:enB E F) (hK:KB F) {e e':MapEntry} (he:e ∈ E) (he':e' ∈ E) (hk:e.key=e'.key):e=e':=by
 have hn:(E.map (λe=>e.key)).Nodup:=by
  have e1:E.map (λe=>e.key)=(F.map (λp=>p.1)).map ceV:=by
   have:=congrArg (List.map Prod.fst) h;rw [List.map_map,List.map_map] at this;rw [List.map_map];exact this
  rw [e1];unfold KB at hK;exact List.Pairwise.map ceV (λa b hab e=>hab (zPD e)) hK
 obtain ⟨i,hi⟩:=List.mem_iff_getElem?.1 he;obtain ⟨j,hj⟩:=List.mem_iff_getElem?.1 he';have k1:(E.map (λe=>e.key))[i]? = some e.key:=by rw [List.getElem?_map,hi];rfl
 have k2:(E.map (λe=>e.key))[j]? = some e.key:=by rw [List.getElem?_map,hj,hk];rfl
 have e3:=(List.getElem?_inj (List.getElem?_eq_some_iff.1 k1).1 hn).1 (k1.trans k2.symm);subst e3;rw [hi] at hj;exact Option.some.inj hj
theorem zNy (h:MB w mb F):∃ w',(Instr.range 55 (.map (some mb))).run prog w=.ok (.pointer (some ⟨w.heap.size,0,none⟩)) w'/\(∃ k,k<=F.length/\ItB w' w.heap.size mb F [] k)/\Below w.heap.size w w':=by
 have hlt:=h.lt;obtain ⟨es,ck,h1,h2,h3⟩:=h;refine ⟨_,run_range_map w 55 24 61 mb es ck zLI h1,⟨_,?_,es,ck,ck,ck,#[],heap_alloc_new _ _,by rw [heap_alloc_old w _ hlt];exact h1,h2,h3,rfl,Nat.le_refl _,rfl,λy hy=>by cases hy⟩,zAH (Below.refl _ w) _⟩;have e:es.size=F.length:=by
  have:=congrArg List.length h2;simpa using this
 rw [<-e];exact Array.size_filter_le
theorem ItB.next (h:ItB w r mb F D k) (hK:KB F) (ty:TypeId) :
  (Instr.next (.pointer (some ⟨r,0,none⟩)) false ty).run prog w=.ok (.tuple #[.bool false]) w \/
  ∃ x f w',(x,f) ∈ F/\x ∉ D/\(Instr.next (.pointer (some ⟨r,0,none⟩)) false ty).run prog w=.ok (.tuple #[.bool true,ceV x,ctV f]) w'/\(Instr.entry (.pointer (some ⟨r,0,none⟩))).run prog w'=.ok (.tuple #[ceV x,ctV f]) w'/\Fr [r] w w'/\∃ k',k' < k/\ItB w' r mb F (x::D) k':=by
 have hl:=h.lt;obtain ⟨es,ck,since,c0,seen,g1,g2,g3,g4,g5,g6,g7,g8⟩:=h;rcases run_next_at (P:=prog) w ty r mb since c0 seen es ck g1 g2 (λx hx=>by rw [g5];exact g4.1 x hx) g6 with ⟨_,e⟩ | ⟨e,he,w1,hw1,hrun⟩
 ·exact Or.inl e
 ·right
  have hmem:=mem_left he;obtain ⟨x,f,hxf,ek,ev⟩:=g3.mem hmem.1;have hne:mb ≠ r:=λe=>by rw [e,g1] at g2;cases g2
  have hb1:w1.heap=w.heap:=by rcases hw1 with rfl | rfl <;> rfl
  have hr1:w1.heap[r]? = some (.mapIter (some mb) since seen c0):=by rw [hb1];exact g1
  have hr2:(setBlock w1 r (.mapIter (some mb) since (seen.push e.born) ck)).heap[r]? = some (.mapIter (some mb) since (seen.push e.born) ck):=zJh (by rw [hb1];exact hl.1) _;have hm2:(setBlock w1 r (.mapIter (some mb) since (seen.push e.born) ck)).heap[mb]? = some (.map es ck):=by rw [zDi _ hne,hb1];exact g2
  refine ⟨x,f,_,hxf,λhD=>?_,by rw [<-ek,<-ev];exact hrun,by rw [<-ek,<-ev];exact run_entry_at _ r mb since seen es ck e hr2 hm2 hmem.1 g4.2,?_,_,?_,⟨es,ck,since,ck,seen.push e.born,hr2,hm2,g3,g4,g5,Nat.le_of_eq g5,rfl,λy hy=>?_⟩⟩
  ·obtain ⟨e',he',ek',es'⟩:=g8 x hD;have:=g3.one hK hmem.1 he' (by rw [ek,ek']);rw [<-this,hmem.2] at es';cases es'
  ·refine ⟨?_,?_,?_,?_,λj hj hn=>?_⟩
   ·rcases hw1 with rfl | rfl <;> rfl
   ·rcases hw1 with rfl | rfl <;> rfl
   ·rcases hw1 with rfl | rfl <;> rfl
   ·simp [setBlock,hb1]
   ·rw [zDi _ (λe=>hn (by simp [e])),hb1]
  ·rw [<-g7];exact left_shrinks es seen e he
  ·rcases List.mem_cons.1 hy with rfl | hy
   ·exact ⟨e,hmem.1,ek,by rw [contains_push];simp⟩
   ·obtain ⟨e',he',ek',es'⟩:=g8 y hy;exact ⟨e',he',ek',by rw [contains_push,es'];rfl⟩
end Go.Proofs.YtedifblompcdkaaGreatDoor
namespace Wb
def ltC (a b:Wpl.Cl):Bool:=Wpl.before a.s a.r a.c b.s b.r b.c
theorem ltC_iff (a b:Wpl.Cl):ltC a b=true ↔ (a.s<b.s \/ a.s=b.s/\(a.r<b.r \/ a.r=b.r/\a.c<b.c)):=by
 unfold ltC Wpl.before;split
 ·rw [decide_eq_true_eq];omega
 ·split
  ·rw [decide_eq_true_eq];omega
  ·rw [decide_eq_true_eq];omega
theorem ltC_no (a b:Wpl.Cl):ltC a b=false ↔ ¬ (a.s<b.s \/ a.s=b.s/\(a.r<b.r \/ a.r=b.r/\a.c<b.c)):=by
 rw [<-ltC_iff];simp
theorem ltC_eq {a b:Wpl.Cl} (h1:ltC a b=false) (h2:ltC b a=false):a=b:=by
 rw [ltC_no] at h1 h2;obtain ⟨s,r,c⟩:=a;obtain ⟨s',r',c'⟩:=b;simp only at h1 h2;have e3:s=s':=by omega
 have e4:r=r':=by omega
 have e5:c=c':=by omega
 rw [e3,e4,e5]
def cmpC (a b:Wpl.Cl):Int:=if ltC a b then -1 else if ltC b a then 1 else 0
theorem cmpC_lt (a b:Wpl.Cl):decide (cmpC a b<0)=ltC a b:=by
 unfold cmpC;cases h:ltC a b with
 | true=>rfl
 | false=>cases h2:ltC b a <;> rfl
def leC (a b:Wpl.Cl):Bool:=!ltC b a
def srt (l:List Wpl.Cl):List Wpl.Cl:=l.mergeSort leC
theorem srt_perm (l:List Wpl.Cl):(srt l).Perm l:=List.mergeSort_perm l leC
theorem srt_pw (l:List Wpl.Cl):(srt l).Pairwise (λa b=>ltC b a=false):=by
 have:=List.pairwise_mergeSort (le:=leC) (λa b c h1 h2=>by
  unfold leC at *;rw [Bool.not_eq_true',ltC_no] at *;omega) (λa b=>by
  unfold leC;rw [Bool.or_eq_true,Bool.not_eq_true',Bool.not_eq_true',ltC_no,ltC_no];omega) l
 refine List.Pairwise.imp (λh=>?_) this;unfold leC at h;rwa [Bool.not_eq_true'] at h
theorem srt_len (l:List Wpl.Cl):(srt l).length=l.length:=(srt_perm l).length_eq
end Wb
namespace Go.Proofs.YtedifblompcdkaaGreatDoor
open Tryz
open Go.RowKit
variable {w W w':World}
def BlD (w w':World):Prop:=Below w.heap.size w w'/\w.drawn<=w'.drawn
theorem BlD.refl (w:World):BlD w w:=⟨Below.refl _ _,Nat.le_refl _⟩
theorem zPy (h:BlD w W) (o:Obj):BlD w (W.alloc o):=⟨zAH h.1 o,h.2⟩
theorem zQY {w1:World} (h0:BlD w W) (hb:BlD W w1):BlD w w1:=⟨zAA h0.1 hb.1,Nat.le_trans h0.2 hb.2⟩
theorem BlD.grow (h:BlD w w'):∃ q os,w'=Go.Sort.grow (w.drewN q) os:=by
 obtain ⟨p,hp⟩:=regrown_of_below h.1;refine ⟨w'.drawn - w.drawn,p.os,?_⟩;have e:w'.drawn=p.d:=by rw [hp];rfl
 have:=h.2;rw [hp];show Go.Sort.grow _ _=Go.Sort.grow _ _
 congr 1
 unfold redrawn World.drewN;congr 1
 show p.d=w.drawn+(_ - w.drawn)
 show p.d=w.drawn+((Go.Sort.grow (redrawn w p.d) p.os).drawn - w.drawn)
 rw [<-hp];omega
theorem zHW (s r c s' r' c':Int) (w:World) :
  Calls prog 35 #[.agg #[.int .i64 s,.int .i64 r,.int .i64 c],.agg #[.int .i64 s',.int .i64 r',.int .i64 c']] w λe w'=>e=.returned (.bool (Wpl.before s r c s' r' c'))/\BlD w w':=by
 unfold Wpl.before;by_cases h:s=s'
 ·rw [if_neg (not_not_intro h)];by_cases k:r=r'
  ·rw [if_neg (not_not_intro k)];subst h k;go_enter func35,ntmps35;go_wp2;go_ret;exact ⟨rfl,clA,by simp⟩
  ·rw [if_pos k];subst h;go_enter func35,ntmps35;go_wp2;go_ret;exact ⟨rfl,clA,by simp⟩
 ·rw [if_pos h];go_enter func35,ntmps35;go_wp2;go_ret;exact ⟨rfl,clA,by simp⟩
theorem zN1 (s r c s' r' c':Int) (w:World):Calls prog 19 #[.agg #[.int .i64 s,.int .i64 r,.int .i64 c],.agg #[.int .i64 s',.int .i64 r',.int .i64 c']] w λe w'=>e=.returned (.int .i64 (Wb.cmpC ⟨s,r,c⟩ ⟨s',r',c'⟩))/\BlD w w':=by
 have B1:=λw=>zHW s r c s' r' c' w
 have B2:=λw=>zHW s' r' c' s r c w
 obtain ⟨R,hR⟩:∃ R,Wb.cmpC ⟨s,r,c⟩ ⟨s',r',c'⟩=R:=⟨_,rfl⟩
 rw [hR];have HR:Hid (Wb.cmpC ⟨s,r,c⟩ ⟨s',r',c'⟩=R):=hR;have p1:=(AtL.new0 w 24 [.int .i64 s,.int .i64 r,.int .i64 c]).alloc (.cells #[.int .i64 s',.int .i64 r',.int .i64 c'] 24);have p2:=AtL.new1 w (.cells #[.int .i64 s,.int .i64 r,.int .i64 c] 24) 24 [.int .i64 s',.int .i64 r',.int .i64 c'];have hb0:=zPy (zPy (BlD.refl w) (.cells #[.int .i64 s,.int .i64 r,.int .i64 c] 24)) (.cells #[.int .i64 s',.int .i64 r',.int .i64 c'] 24);clear hR;cases h1:Wpl.before s r c s' r' c' with
 | true =>
  rw [h1] at B1;have HE:Hid (R = -1):=by show _=_;rw [<-HR.out];simp [Wb.cmpC,Wb.ltC,h1]
  clear h1 B2 HR;go_enter func19,ntmps19;go_upto_region 1 with fail
  generalize (w.alloc (.cells #[.int .i64 s,.int .i64 r,.int .i64 c] 24)).alloc (.cells #[.int .i64 s',.int .i64 r',.int .i64 c'] 24)=W0 at *;obtain ⟨a0,a1,a2,_⟩:=p1.three;obtain ⟨b0,b1,b2,_⟩:=p2.three;go_wp2_with fail
  refine (B1 _).mono ?_;rintro e w1 ⟨rfl,hb1⟩;go_wp2;go_ret;exact ⟨by rw [HE.out];rfl,zQY hb0 hb1⟩
 | false =>
  rw [h1] at B1;cases h2:Wpl.before s' r' c' s r c with
  | true =>
   rw [h2] at B2;have HE:Hid (R=1):=by show _=_;rw [<-HR.out];simp [Wb.cmpC,Wb.ltC,h1,h2]
   clear h1 h2 HR;go_enter func19,ntmps19;go_upto_region 1 with fail
   generalize (w.alloc (.cells #[.int .i64 s,.int .i64 r,.int .i64 c] 24)).alloc (.cells #[.int .i64 s',.int .i64 r',.int .i64 c'] 24)=W0 at *;obtain ⟨a0,a1,a2,_⟩:=p1.three;obtain ⟨b0,b1,b2,_⟩:=p2.three;go_wp2_with fail
   refine (B1 _).mono ?_;rintro e w1 ⟨rfl,hb1⟩;obtain ⟨a0,a1,a2,_⟩:=(AtL.below hb1.1 p1).three;obtain ⟨b0,b1,b2,_⟩:=(AtL.below hb1.1 p2).three;go_wp2_with fail
   refine (B2 _).mono ?_;rintro e w2 ⟨rfl,hb2⟩;go_wp2;go_ret;exact ⟨by rw [HE.out];rfl,zQY (zQY hb0 hb1) hb2⟩
  | false =>
   rw [h2] at B2;have HE:Hid (R=0):=by show _=_;rw [<-HR.out];simp [Wb.cmpC,Wb.ltC,h1,h2]
   clear h1 h2 HR;go_enter func19,ntmps19;go_upto_region 1 with fail
   generalize (w.alloc (.cells #[.int .i64 s,.int .i64 r,.int .i64 c] 24)).alloc (.cells #[.int .i64 s',.int .i64 r',.int .i64 c'] 24)=W0 at *;obtain ⟨a0,a1,a2,_⟩:=p1.three;obtain ⟨b0,b1,b2,_⟩:=p2.three;go_wp2_with fail
   refine (B1 _).mono ?_;rintro e w1 ⟨rfl,hb1⟩;obtain ⟨a0,a1,a2,_⟩:=(AtL.below hb1.1 p1).three;obtain ⟨b0,b1,b2,_⟩:=(AtL.below hb1.1 p2).three;go_wp2_with fail
   refine (B2 _).mono ?_;rintro e w2 ⟨rfl,hb2⟩;go_wp2;go_ret;exact ⟨by rw [HE.out];rfl,zQY (zQY hb0 hb1) hb2⟩
open Go.Shelf Go.RowKit Go.Sort
def zHA:Go.Shelf.Ren:=⟨fun | 6=>18 | 15=>34 | 14=>33 | 28=>58 | 29=>59 | 20=>50 | 21=>51 | 22=>52 | 23=>53 | 24=>54 | 25=>55 | 26=>56 | 27=>57 | 46=>75 | 47=>76 | 48=>77 | 49=>78 | 50=>79 | 57=>104 | n=>n,fun | 22=>29 | 24=>24 | 25=>59 | 3=>3 | 39=>82 | 0=>0 | 53=>118 | 55=>120 | 4=>4 | 46=>111 | 45=>110 | 50=>115 | 5=>5 | 9=>9 | 66=>138 | 70=>142 | 76=>195 | 77=>196 | n=>n,fun | n=>n⟩
theorem zRU:Go.Proofs.SlLaysF0.n6 prog zHA:={
 mixed:=by kernel_rfl
 f6:=⟨ "slices.SortFunc[[]whittle/api.Cell,whittle/api.Cell]",by decide,func18.trans (congrArg some (by kernel_rfl))⟩
 f14:=⟨ "slices.pdqsortCmpFunc[whittle/api.Cell]",by decide,func33.trans (congrArg some (by kernel_rfl))⟩
 f15:=func34.trans (congrArg some (by kernel_rfl))
 f20:=⟨ "slices.insertionSortCmpFunc[whittle/api.Cell]",by decide,func50.trans (congrArg some (by kernel_rfl))⟩
 f21:=⟨ "slices.heapSortCmpFunc[whittle/api.Cell]",by decide,func51.trans (congrArg some (by kernel_rfl))⟩
 f22:=⟨ "slices.breakPatternsCmpFunc[whittle/api.Cell]",by decide,func52.trans (congrArg some (by kernel_rfl))⟩
 f23:=⟨ "slices.choosePivotCmpFunc[whittle/api.Cell]",by decide,func53.trans (congrArg some (by kernel_rfl))⟩
 f24:=⟨ "slices.reverseRangeCmpFunc[whittle/api.Cell]",by decide,func54.trans (congrArg some (by kernel_rfl))⟩
 f25:=⟨ "slices.partialInsertionSortCmpFunc[whittle/api.Cell]",by decide,func55.trans (congrArg some (by kernel_rfl))⟩
 f26:=⟨ "slices.partitionEqualCmpFunc[whittle/api.Cell]",by decide,func56.trans (congrArg some (by kernel_rfl))⟩
 f27:=⟨ "slices.partitionCmpFunc[whittle/api.Cell]",by decide,func57.trans (congrArg some (by kernel_rfl))⟩
 f28:=func58.trans (congrArg some (by kernel_rfl))
 f29:=func59.trans (congrArg some (by kernel_rfl))
 f46:=⟨ "slices.siftDownCmpFunc[whittle/api.Cell]",by decide,func75.trans (congrArg some (by kernel_rfl))⟩
 f47:=func76.trans (congrArg some (by kernel_rfl))
 f48:=func77.trans (congrArg some (by kernel_rfl))
 f49:=⟨ "slices.medianAdjacentCmpFunc[whittle/api.Cell]",by decide,func78.trans (congrArg some (by kernel_rfl))⟩
 f50:=⟨ "slices.medianCmpFunc[whittle/api.Cell]",by decide,func79.trans (congrArg some (by kernel_rfl))⟩
 f57:=⟨ "slices.order2CmpFunc[whittle/api.Cell]",by decide,func104.trans (congrArg some (by kernel_rfl))⟩
 t0:=underlying0
 a0:=Tryz.isAgg0
 z0:=Tryz.sizeOf0
 v0:=Tryz.zeroValue0
 t3:=underlying3
 a3:=Tryz.isAgg3
 z3:=Tryz.sizeOf3
 v3:=Tryz.zeroValue3
 t4:=underlying4
 a4:=Tryz.isAgg4
 z4:=Tryz.sizeOf4
 v4:=Tryz.zeroValue4
 t5:=underlying5
 a5:=Tryz.isAgg5
 z5:=Tryz.sizeOf5
 v5:=Tryz.zeroValue5
 t9:=underlying9
 a9:=Tryz.isAgg9
 z9:=Tryz.sizeOf9
 v9:=Tryz.zeroValue9
 t22:=underlying29
 a22:=Tryz.isAgg29
 z22:=Tryz.sizeOf29
 v22:=Tryz.zeroValue29
 t25:=underlying59
 a25:=Tryz.isAgg59
 z25:=Tryz.sizeOf59
 v25:=Tryz.zeroValue59
 t39:=underlying82
 a39:=Tryz.isAgg82
 z39:=Tryz.sizeOf82
 v39:=Tryz.zeroValue82
 t45:=underlying110
 a45:=Tryz.isAgg110
 z45:=Tryz.sizeOf110
 v45:=Tryz.zeroValue110
 t46:=underlying111
 a46:=Tryz.isAgg111
 z46:=Tryz.sizeOf111
 v46:=Tryz.zeroValue111
 t50:=underlying115
 a50:=Tryz.isAgg115
 z50:=Tryz.sizeOf115
 v50:=Tryz.zeroValue115
 t53:=underlying118
 a53:=Tryz.isAgg118
 z53:=Tryz.sizeOf118
 v53:=Tryz.zeroValue118
 t55:=underlying120
 a55:=Tryz.isAgg120
 z55:=Tryz.sizeOf120
 v55:=Tryz.zeroValue120
 t66:=underlying138
 a66:=Tryz.isAgg138
 z66:=Tryz.sizeOf138
 v66:=Tryz.zeroValue138
 t70:=underlying142
 a70:=Tryz.isAgg142
 z70:=Tryz.sizeOf142
 v70:=Tryz.zeroValue142
 t76:=underlying195
 a76:=Tryz.isAgg195
 z76:=Tryz.sizeOf195
 v76:=Tryz.zeroValue195
 t77:=underlying196
 a77:=Tryz.isAgg196
 z77:=Tryz.sizeOf196
 v77:=Tryz.zeroValue196}
def clX (x:Wpl.Cl):List Value:=[.int .i64 x.s,.int .i64 x.r,.int .i64 x.c]
def zBI:List Wpl.Cl->List Value
 | []=>[]
 | x::r=>clX x++zBI r
theorem zCE:∀ A:List Wpl.Cl,(zBI A).length=A.length * 3
 | []=>rfl
 | x::r=>by simp [zBI,zCE r,clX];omega
theorem zEc:∀ (A C:List Wpl.Cl),zBI (A++C)=zBI A++zBI C
 | [],C=>rfl
 | x::r,C=>by simp [zBI,zEc r C]
theorem zDz:∀ (A:List Wpl.Cl) (i:Nat) (h:i<A.length) (c:Nat),c<3->(zBI A)[i * 3+c]? = (clX (A[i]))[c]?
 | [],i,h,c,hc=>absurd h (Nat.not_lt_zero _)
 | x::r,0,h,c,hc=>by
  show (clX x++zBI r)[0 * 3+c]? = _
  rw [Nat.zero_mul,Nat.zero_add,List.getElem?_append_left (by simpa [clX] using hc)];rfl
 | x::r,i+1,h,c,hc=>by
  show (clX x++zBI r)[(i+1) * 3+c]? = _
  rw [List.getElem?_append_right (by simp [clX];omega),show (i+1) * 3+c - (clX x).length=i * 3+c from by simp [clX];omega,zDz r i (by simpa using h) c hc];rfl
theorem zP4 (x:Wpl.Cl):∀ u ∈ clX x,u.oneCell'=true:=λu h=>by
 simp [clX] at h;rcases h with h | h | h <;> (subst h;rfl)
theorem zR3:∀ (l:List Wpl.Cl),∀ u ∈ zBI l,u.oneCell'=true
 | [],u,hu=>by cases hu
 | y::r,u,hu=>by
  rcases List.mem_append.1 hu with q | q
  ·exact zP4 y u q
  ·exact zR3 r u q
theorem zFE (a b:Wpl.Cl):ltOf Wb.cmpC a b=Wb.ltC a b:=Wb.cmpC_lt a b
theorem zRr:SWO (ltOf Wb.cmpC):=⟨λx=>by rw [zFE,Wb.ltC_no];omega,λx y z h1 h2=>by rw [zFE,Wb.ltC_iff] at *;omega,λx y z h1 h2=>by rw [zFE,Wb.ltC_no] at *;omega⟩
abbrev inX:Inhabited Wpl.Cl:=⟨⟨0,0,0⟩⟩
theorem zL6 (blk off size:Nat) (w:World):@CmpLays Wpl.Cl inX prog 19 #[] clX 3 Wb.cmpC blk off size w:=λm os dk _ x y=>by
 refine (zN1 x.s x.r x.c y.s y.r y.c _).mono ?_;rintro en w1 ⟨he,hb⟩;exact ⟨he,hb.grow⟩
theorem zPS (l:List Wpl.Cl):(@flatK Wpl.Cl inX clX 3 l.toArray).toList=zBI l:=by
 letI:Inhabited Wpl.Cl:=inX
 apply List.ext_getElem?
 intro t;by_cases h:t<l.length * 3
 ·have hi:t / 3<l.length:=by omega
  have q:=zDz l (t / 3) hi (t % 3) (by omega);rw [show t / 3 * 3+t % 3=t from by omega] at q;rw [q];have e:(l.toArray)[t / 3]! = l[t / 3]:=by simp [hi]
  have h5:t % 3<(clX (l[t / 3])).length:=by simp [clX];omega
  rw [Array.getElem?_toList];simp only [flatK,Array.getElem?_map,List.size_toArray,Array.getElem?_range,h,if_true,Option.map_some];rw [e,List.getElem?_eq_getElem h5];congr 1
  rw [List.getElem!_eq_getElem?_getD,List.getElem?_eq_getElem h5];rfl
 ·rw [List.getElem?_eq_none (by simp [size_flatK];omega),List.getElem?_eq_none (by rw [zCE];omega)]
theorem zDn (l:List Wpl.Cl) (j:Nat) (hj:j<l.length * 3):(zBI l)[j]? = some ((@flatK Wpl.Cl inX clX 3 l.toArray)[j]!):=by
 rw [<-zPS,Array.getElem?_toList];have:j<(@flatK Wpl.Cl inX clX 3 l.toArray).size:=by simp [size_flatK];omega
 rw [getElem!_pos (@flatK Wpl.Cl inX clX 3 l.toArray) j this,Array.getElem?_eq_getElem this]
def SfP (l:List Wpl.Cl) (g:Nat) (w:World) (en:Ending) (w':World):Prop:=en=.returned (.tuple #[])/\(∀ j u,(zBI (Wb.srt l))[j]? = some u->w'.cell? ⟨g,j,none⟩=some u)/\w.grownBy w' (some g)
theorem zJ9 (g n cap B:Nat) (l:List Wpl.Cl) (w:World) (h:w.ownsRow B 24 3 (.slice (some ⟨g,0,none⟩) n cap) n (zBI l)) (hn:l.length=n) (hN:True->n<=1000000000) :
  Calls prog 18 #[.slice (some ⟨g,0,none⟩) n cap,.func (.func 19) #[] #[]] w (SfP l g w):=by
 have hN:=hN trivial;subst hn;have hlt:=(zAL h rfl).2;have hH:@HoldsK Wpl.Cl inX clX 3 w g 0 l.toArray:=λj hj=>by
  have hj5:j<l.length * 3:=by simpa [size_flatK] using hj
  have e:=zDn l j hj5;have hc:=h.cells (g:=g) rfl j _ e;rw [show (⟨g,0,none⟩:Addr).add j=⟨g,0+j,none⟩ from by simp [Addr.add];intro h;omega] at hc;refine ⟨hc,?_⟩;rcases h.2 with ⟨e,_⟩ | ⟨g',cap',cur,e,_,hg,_⟩
  ·cases e
  ·simp only [Value.slice.injEq,Option.some.injEq,Addr.mk.injEq] at e;obtain ⟨⟨rfl,_⟩,_⟩:=e;simp [World.frozen?,hg]
 have eg:∀ args w,(callFunc 19 args).run prog w=.ok (.enter 19 args) w:=enters_of func19 (by kernel_rfl) rfl;have hcon:=@AnyQ.slices_SortFunc_total prog zHA Wpl.Cl inX zRU 3 Tryz.isAgg24 Tryz.sizeOf24 clX (λ_=>rfl) zP4 Wb.cmpC zRr 19 #[] g 0 cap l.toArray w eg (zL6 g 0 l.length w) hH hlt (by simp;omega) (λx y h1 h2=>by rw [zFE] at *;exact Wb.ltC_eq h1 h2);change Calls prog 18 _ _ _ at hcon
 refine hcon.mono ?_;rintro en w' ⟨he,m,os,hw⟩;have es:(l.toArray.toList.mergeSort λx y=>!(ltOf Wb.cmpC) y x)=Wb.srt l:=by
  unfold Wb.srt;congr 1
  funext x y
  rw [zFE];rfl
 rw [es] at hw;have hs:(Wb.srt l).toArray.size=l.toArray.size:=by simp [Wb.srt_len]
 have hH2:@HoldsK Wpl.Cl inX clX 3 w' g 0 (Wb.srt l).toArray:=by
  rw [hw];exact @holdsK_grow Wpl.Cl inX clX 3 _ os g 0 _ (by simpa [putRowK] using hlt) (@holdsK_putRowK Wpl.Cl inX clX 3 _ g 0 _ _ (@holdsK_ahead Wpl.Cl inX clX 3 w m g 0 _ hH) hs)
 refine ⟨he,λj u hu=>?_,?_⟩
 ·have hj5:j<(Wb.srt l).length * 3:=by rw [<-zCE];exact (List.getElem?_eq_some_iff.1 hu).1
  have e:=zDn (Wb.srt l) j hj5;rw [hu] at e;have:=(hH2 j (by simp only [size_flatK];simpa using hj5)).1;rw [Nat.zero_add] at this;rw [this];exact e.symm
 ·rw [hw];refine ⟨rfl,rfl,rfl,by simp [sortWorldK,putRowK,grow,Sort.ahead],λk hk hne=>?_⟩;have hgk:g ≠ k:=λe=>hne (by rw [e])
  letI:Inhabited Wpl.Cl:=inX
  show (grow (putRowK clX 3 (Sort.ahead w m) g 0 (Wb.srt l).toArray) os).heap[k]? = _
  rw [heap_grow_old _ _ (by simpa [putRowK] using hk)];simp [putRowK,putRow,mapBlock,Sort.ahead,Array.getElem?_modify,hgk]
open Go.RowKit Go.Shelf
theorem zOX:(prog.info? 24).map (λi=>(i.zero,i.size,i.bytes))=some (some (.agg #[.int .i64 0,.int .i64 0,.int .i64 0]),3,24):=by kernel_rfl
theorem zN5:prog.underlying 29=some (.slice 24):=by kernel_rfl
theorem zCz {P:Program} {t:TypeId} {z:Value} {s b:Nat} (h:(P.info? t).map (λi=>(i.zero,i.size,i.bytes))=some (some z,s,b)):∃ i,P.info? t=some i/\i.zero=some z/\i.size=s/\i.bytes=b:=by
 obtain ⟨i,h1,h2⟩:=Option.map_eq_some_iff.1 h;simp only [Prod.mk.injEq] at h2;exact ⟨i,h1,h2.1,h2.2.1,h2.2.2⟩
theorem zGV {ops:Array Oper} {rest:List Oper} {o:Oper} {a:Act} {Q:Exit->Act->World->Prop} (hgd:o.guard=none) (sl x:Operand) (ho:o.op=.call {callee:=.builtin .append,args:=#[sl,x],argTypes:=#[29,29]})
  (w:World) (B:Nat) (hB:B<=w.heap.size) (v:Value) (n:Nat) (xs:List Value) (hs:a.eval sl=v) (hown:w.ownsRow B 24 3 v n xs) (k off m c:Nat) (l:List Wpl.Cl) (hm:l.length=m) (hx:a.eval x=.slice (some ⟨k,off,none⟩) m c) (hat:∀ j u,(zBI l)[j]? = some u->w.cell? ⟨k,off+j,none⟩=some u) (hn:n+m<=2000000000)
  (h:∀ v' w',w'.ownsRow B 24 3 v' (n+m) (xs++zBI l)->w.grownBy w' v.ownBlock->(v'.ownBlock=v.ownBlock \/ v'.ownBlock=some w.heap.size)->wpList prog ops Q rest (a.put o.dst v') w'):wpList prog ops Q (o::rest) a w:=by
 refine wpList_plain hgd λK hK=>?_
 obtain ⟨i0,hi0,hz0,hz1,hz2⟩:=zCz zOX;obtain ⟨v',w',hr,h2,h3,_,h5⟩:=run_append_own_at (P:=prog) w B 29 o.type 24 i0 _ 3 24 zN5 hi0 hz0 hz1 hz2 rfl (by decide) v n xs hown ⟨k,off,none⟩ m c (zBI l) (by rw [zCE,hm]) (λj z hj=>by
   have:=hat j z hj;rw [show (⟨k,off,none⟩:Addr).add j=⟨k,off+j,none⟩ from by
    simp [Addr.add];try (intro h0;omega)]
   exact this) (zR3 l) (by unfold maxLen;omega) (by omega) hB
 unfold Oper.wp execOp;simp only [ho,resolve,invoke,builtin,Sem.run_bind,Sem.run_pure,Result.andThen_ok,List.map_toArray,List.map_cons,List.map_nil,hs,hx,hr];exact hK _ _ (h v' w' h2 h3 h5)
def RdX (w:World) (av:Option Addr) (l:List Wpl.Cl):Prop:=∀ (i:Nat) (x:Wpl.Cl),l[i]? = some x->∃ g,av=some ⟨g,0,none⟩/\w.rangeAt g (i * 3) (clX x)
theorem RdX.below {av:Option Addr} {l:List Wpl.Cl} (h:RdX w av l) (hb:Below w.heap.size w w'):RdX w' av l:=λi x hx=>by
 obtain ⟨g,e,hr⟩:=h i x hx;exact ⟨g,e,λj v hv=>zAC hb (hr j v hv)⟩
def zQd (F:List (Wpl.Cl × Ct)) (s:Int) (w:World) (en:Ending) (w':World):Prop :=
 (∃ (T:List Wpl.Cl) (av:Option Addr) (cap:Nat),T.Nodup/\(∀ y ∈ T,y.s=s/\∃ f,(y,f) ∈ F)/\T.length<=1000000/\en=.returned (.slice av T.length cap)/\RdX w' av (Wb.srt T))/\Below w.heap.size w w'
theorem zHi (bb mb:Nat) (nv:Value) (ver s:Int) (F:List (Wpl.Cl × Ct)) (w:World) (h:AtL w bb [nv,.int .i64 ver,.map (some mb)]) (hm:MB w mb F) (hK:KB F) (hF:True->F.length<=1000000) :
  Calls prog 7 #[.pointer (some ⟨bb,0,none⟩),.int .i64 s] w (zQd F s w):=by
 obtain ⟨_,_,c2,_⟩:=h.three;obtain ⟨w1,hrg,⟨k,hkF,hit⟩,hb1⟩:=zNy hm;have HI0:Hid (ItB w1 w.heap.size mb F [] k):=hit;have HB0:Hid (Below w.heap.size w w1):=hb1;have HK:Hid (KB F):=hK;have hmb:mb<w.heap.size:=hm.lt;clear h hm hit hb1 hK;go_enter func7,ntmps7;go_upto_region 3 with fail
 clear hrg c2;go_loopg [5] k (λgk u wr=>∃ (D T:List Wpl.Cl),Hid (ItB wr w.heap.size mb F D gk)/\Hid (T.Nodup/\(∀ y ∈ T,y ∈ D)/\(∀ y ∈ T,y.s=s/\∃ f,(y,f) ∈ F)/\T.length<=D.length/\D.length+gk<=k)/\Hid (wr.ownsRow (w.heap.size+1) 24 3 u T.length (zBI T))/\Hid (Below w.heap.size w wr/\w.heap.size+1<=wr.heap.size))
 case atStart=>exact ⟨[],[],HI0,⟨by simp,by simp,by simp,by simp,by simp⟩,⟨rfl,Or.inl ⟨rfl,rfl⟩⟩,⟨HB0.out,HI0.out.lt.1⟩⟩
 case round =>
  obtain ⟨D,T,HI,HT,HO,HB⟩:=hrel;generalize hw9:wr=W at *;clear hw9 HI0 HB0;rcases HI.out.next HK.out 0 with hnx | ⟨x,f,w2,hxf,hnd,hnx,hen,fr2,k',hk',hit2⟩
  ·have HBW:=HB;rcases HO.out.2 with ⟨e,h0⟩ | ⟨g,cap,cur,e,hbg,_⟩
   ·subst e;have hT:T=[]:=List.eq_nil_of_length_eq_zero h0;have HE:Hid (zQd F s w (.returned (.slice none 0 0)) W):=⟨⟨[],none,0,by simp,by simp,by simp,rfl,λi x hx=>by simp [Wb.srt] at hx⟩,HB.out.1⟩
    have SF:=λW=>AnyF.slices_SortFunc_none zRU none 0 (.func (.func 19) #[] #[]) W
    change ∀ W,Calls prog 18 _ _ _ at SF
    clear HI HO HT HB h0 hT;go_wp2_with fail
    refine (SF _).mono ?_;rintro en w2 ⟨rfl,rfl⟩;go_wp2;go_ret;exact HE.out
   ·subst e;have SF:=zJ9 g T.length cap (w.heap.size+1) T W HO.out rfl (λ_=>by have:=HT.out.2.2.2;have:=hF trivial;omega);have HG:Hid (w.heap.size+1<=g):=hbg;clear HI hbg;go_wp2_with fail
    refine SF.mono ?_;rintro en w2 ⟨rfl,hc,hgr⟩;have HE:Hid (zQd F s w (.returned (.slice (some ⟨g,0,none⟩) T.length cap)) w2):=by
     have fr2:Fr [g] W w2:=Fr.of_grown hgr (λk e=>by cases e;simp);refine ⟨⟨T,_,_,HT.out.1,HT.out.2.2.1,by have:=HT.out.2.2.2;have:=hF trivial;omega,rfl,λi x hx=>⟨g,rfl,λj v hv=>?_⟩⟩,(Fr.new (Fr.of_below [] HB.out.1) fr2 (λk hk=>Or.inr (by simp at hk;have:=HG.out;omega))).to_below (by simp)⟩;obtain ⟨hi,e⟩:=List.getElem?_eq_some_iff.1 hx;have hj:j<3:=by
      have:=(List.getElem?_eq_some_iff.1 hv).1;simpa [clX] using this
     refine hc _ _ ?_;rw [zDz _ i hi j hj,e];exact hv
    clear SF hc hgr;go_wp2;go_ret;exact HE.out
  ·have HI2:Hid (ItB w2 w.heap.size mb F (x::D) k'):=hit2;have HX:Hid (((x,f) ∈ F/\x ∉ D)/\k' < gk):=⟨⟨hxf,hnd⟩,hk'⟩
   have HO2:Hid (w2.ownsRow (w.heap.size+1) 24 3 u5 T.length (zBI T)):=zAZ fr2 HO.out (λg e hg=>by simp at hg;have:=(zAL HO.out e).1;omega);have HB2:Hid (Below w.heap.size w w2/\w.heap.size+1<=w2.heap.size):=⟨((Fr.of_below [w.heap.size] HB.out.1).trans fr2).to_below (by simp),Nat.le_trans HB.out.2 fr2.size⟩
   have hb3:=zAH (Below.refl _ w2) (.cells #[.int .i64 x.s,.int .i64 x.r,.int .i64 x.c] 24);have q3:=AtL.new0 w2 24 [.int .i64 x.s,.int .i64 x.r,.int .i64 x.c];have HI3:Hid (ItB (w2.alloc (.cells #[.int .i64 x.s,.int .i64 x.r,.int .i64 x.c] 24)) w.heap.size mb F (x::D) k'):=HI2.out.fr (Fr.of_below [] hb3) (by simp) (by simp);have HO3:Hid ((w2.alloc (.cells #[.int .i64 x.s,.int .i64 x.r,.int .i64 x.c] 24)).ownsRow (w.heap.size+1) 24 3 u5 T.length (zBI T)):=zAZ (Fr.of_below [] hb3) HO2.out (by simp);have HB3:Hid (Below w.heap.size w (w2.alloc (.cells #[.int .i64 x.s,.int .i64 x.r,.int .i64 x.c] 24))/\w.heap.size+1<=(w2.alloc (.cells #[.int .i64 x.s,.int .i64 x.r,.int .i64 x.c] 24)).heap.size):=⟨zAA HB2.out.1 hb3,Nat.le_trans HB2.out.2 hb3.size⟩
   clear hit2 hxf hnd hk' fr2 HI HO HB HI2 HO2 HB2 hb3;go_upto_region 5 with fail
   clear hnx hen;generalize w2.alloc (.cells #[.int .i64 x.s,.int .i64 x.r,.int .i64 x.c] 24)=W3 at *;generalize heb:w2.heap.size=eb at *;clear heb;obtain ⟨j0,j1,j2,_⟩:=q3.three;by_cases hxs:x.s=s
   ·subst hxs;have hb4:=zAH (Below.refl _ W3) (.cells #[.int .i64 x.s,.int .i64 x.r,.int .i64 x.c] 24);have q4:=AtL.new0 W3 24 [.int .i64 x.s,.int .i64 x.r,.int .i64 x.c];have o4:(W3.alloc (.cells #[.int .i64 x.s,.int .i64 x.r,.int .i64 x.c] 24)).ownsRow (w.heap.size+1) 24 3 u5 T.length (zBI T):=zAZ (Fr.of_below [] hb4) HO3.out (by simp);have HI4:Hid (ItB (W3.alloc (.cells #[.int .i64 x.s,.int .i64 x.r,.int .i64 x.c] 24)) w.heap.size mb F (x::D) k'):=HI3.out.fr (Fr.of_below [] hb4) (by simp) (by simp);have HB4:Hid (Below w.heap.size w (W3.alloc (.cells #[.int .i64 x.s,.int .i64 x.r,.int .i64 x.c] 24))/\w.heap.size+1<=(W3.alloc (.cells #[.int .i64 x.s,.int .i64 x.r,.int .i64 x.c] 24)).heap.size):=⟨zAA HB3.out.1 hb4,Nat.le_trans HB3.out.2 hb4.size⟩
    have hs4:=HB4.out.2;have HC4:Hid (∀ j v,(zBI [x])[j]? = some v->(W3.alloc (.cells #[.int .i64 x.s,.int .i64 x.r,.int .i64 x.c] 24)).cell? ⟨W3.heap.size,0+j,none⟩=some v):=λj v hv=>by rw [Nat.zero_add];exact q4.2.1 j v hv
    have hTn:T.length+1<=2000000000:=by have:=HT.out.2.2.2;have:=hF trivial;omega
    clear q3 hb4 q4 HI3 HO3 HB3;go_wp2_with (at_builtin;refine zGV rfl (.tmp 20) (.tmp 22) rfl (W3.alloc (.cells #[.int .i64 x.s,.int .i64 x.r,.int .i64 x.c] 24)) (w.heap.size+1) hs4 u5 T.length _ rfl o4 W3.heap.size 0 1 1 [x] rfl rfl HC4.out hTn ?_;intro v5 w5 o5 hg5 _)
    have fr5:Fr u5.ownBlock.toList (W3.alloc (.cells #[.int .i64 x.s,.int .i64 x.r,.int .i64 x.c] 24)) w5:=Fr.of_grown hg5 (λk e=>by rw [e];simp);have hob:∀ g,g ∈ u5.ownBlock.toList->w.heap.size+1<=g:=λg hg=>(zAL o4 (by simpa using hg)).1
    have HI5:Hid (ItB w5 w.heap.size mb F (x::D) k'):=HI4.out.fr fr5 (λhg=>by have:=hob _ hg;omega) (λhg=>by have:=hob _ hg;omega);have HB5:Hid (Below w.heap.size w w5/\w.heap.size+1<=w5.heap.size):=⟨(Fr.new (Fr.of_below [] HB4.out.1) fr5 (λk hk=>Or.inr (by have:=hob k hk;omega))).to_below (by simp),Nat.le_trans HB4.out.2 fr5.size⟩
    have HO5:Hid (w5.ownsRow (w.heap.size+1) 24 3 v5 (T++[x]).length (zBI (T++[x]))):=by
     show World.ownsRow _ _ _ _ _ _ _
     rw [zEc,List.length_append];exact o5
    have HT5:Hid ((T++[x]).Nodup/\(∀ y ∈ T++[x],y ∈ x::D)/\(∀ y ∈ T++[x],y.s=x.s/\∃ f,(y,f) ∈ F)/\(T++[x]).length<=(x::D).length/\(x::D).length+k'<=k):=by
     obtain ⟨t1,t2,t3,t4,t5⟩:=HT.out;obtain ⟨⟨x1,x2⟩,x3⟩:=HX.out;refine ⟨?_,λy hy=>?_,λy hy=>?_,by simp;omega,by simp;omega⟩
     ·rw [List.nodup_append];refine ⟨t1,by simp,λa ha b hb e=>?_⟩;simp at hb;rw [e,hb] at ha;exact x2 (t2 x ha)
     ·rcases List.mem_append.1 hy with hy | hy
      ·exact List.mem_cons_of_mem _ (t2 y hy)
      ·simp at hy;rw [hy];exact List.mem_cons_self
     ·rcases List.mem_append.1 hy with hy | hy
      ·exact t3 y hy
      ·simp at hy;rw [hy];exact ⟨rfl,f,x1⟩
    clear o4 o5 hg5 fr5 hob HI4 HB4 HC4 hs4 hTn;go_wp2_with fail
    go_roundg k'
    case rel=>exact ⟨x::D,T++[x],HI5,HT5,HO5,HB5⟩
    case measure=>exact HX.out.2
   ·have HT2:Hid (T.Nodup/\(∀ y ∈ T,y ∈ x::D)/\(∀ y ∈ T,y.s=s/\∃ f,(y,f) ∈ F)/\T.length<=(x::D).length/\(x::D).length+k'<=k):=by
     obtain ⟨t1,t2,t3,t4,t5⟩:=HT.out;have:=HX.out.2;exact ⟨t1,λy hy=>List.mem_cons_of_mem _ (t2 y hy),t3,by simp;omega,by simp;omega⟩
    go_wp2_with fail
    go_roundg k'
    case rel=>exact ⟨x::D,T,HI3,HT2,HO3,HB3⟩
    case measure=>exact HX.out.2
