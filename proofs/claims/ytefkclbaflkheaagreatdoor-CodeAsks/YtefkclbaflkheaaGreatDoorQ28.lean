/- KChk, KAllP, KAll. -/
import Derived.Test.YtefkclbaflkheaaGreatDoorQ27
set_option maxHeartbeats 4000000
set_option maxRecDepth 100000
namespace Go.Proofs.YtefkclbaflkheaaGreatDoor
open Tryz
open Go.RowKit
set_option linter.unusedVariables false
variable {w:World} {ops:Array Oper} {rest:List Oper} {a:Act} {Q:Exit->Act->World->Prop} {B:Nat} {v:Value}
theorem zCT (L:List (Wc.In × List Int)) (v:Value) (w:World) (h:RdC w v L) (hl:L.length<=1000000) (ht:∀ x ∈ L,x.2.length<=1000000/\Wt.FitV x.1.v) (hN:NmAt w) (hCR:∀ x ∈ L,zEx x) :
  CR 13 #[v] w (.int .i64 (if Wc.chkP rgt L=true then 0 else 85)):=by
 have PL:=zEi L v w h hl ht hN hCR;have OF:=λw1 (hb:Below w.heap.size w w1) (h0:0<L.length) (hp:Wc.plcs rgt L.length 0 L=true)=>zKT L v w1 (h.below hb) hl h0 (λx hx=>(ht x hx).1) hp (λx hx=>(hCR x hx).1)
 clear hCR;have hc:Wc.chkP rgt L=(Wc.plcs rgt L.length 0 L && (decide (0<L.length) && Wc.runP Wc.spI 0 L (Wc.sP L.length))):=rfl;obtain ⟨q1,h1⟩:∃ q,Wc.plcs rgt L.length 0 L=q:=⟨_,rfl⟩
 obtain ⟨q2,h2⟩:∃ q,decide (0<L.length)=q:=⟨_,rfl⟩
 obtain ⟨q3,h3⟩:∃ q,Wc.runP Wc.spI 0 L (Wc.sP L.length)=q:=⟨_,rfl⟩
 rw [h1,h2,h3] at hc;rw [h1,h2] at PL;rw [hc];rw [h1,h3] at OF;have H2:Hid (decide (0<L.length)=q2):=h2;clear hc h1 h2 h3 h ht hN hl;cases q1 with
 | false =>
  clear OF;go_enter func13,ntmps13;go_wp2_with fail
  refine PL.mono ?_;rintro e w1 ⟨rfl,hb1⟩;go_wp2;go_ret;exact ⟨by simp,hb1⟩
 | true =>
  cases q2 with
  | false =>
   clear OF;go_enter func13,ntmps13;go_wp2_with fail
   refine PL.mono ?_;rintro e w1 ⟨rfl,hb1⟩;go_wp2;go_ret;exact ⟨by simp,hb1⟩
  | true =>
   have OF1:=λw1 hb=>OF w1 hb (of_decide_eq_true H2.out) rfl
   have HOF:Hid (∀ w1:World,Below w.heap.size w w1->Calls prog 36 #[v] w1 λe w'=>(∃ p,e=.returned (.tuple #[p,.bool q3]))/\Below w1.heap.size w1 w'):=OF1;clear OF OF1;go_enter func13,ntmps13;go_wp2_with fail
   refine PL.mono ?_;rintro e w1 ⟨rfl,hb1⟩;have OF2:=HOF.out w1 hb1;go_wp2_with fail
   refine OF2.mono ?_;rintro e w2 ⟨⟨p,rfl⟩,hb2⟩;have hB:=zAB hb1 hb2;cases q3
   ·go_wp2;go_ret;exact ⟨by simp,hB⟩
   ·go_wp2;go_ret;exact ⟨by simp,hB⟩
theorem zCS (L:List (Wc.In × List Int)) (v:Value) (w:World) (h:RdC w v L) (hl:L.length<=1000000) (ht:∀ x ∈ L,x.2.length<=1000000/\Wt.FitV x.1.v) (hN:NmAt w) :
  CR 13 #[v] w (.int .i64 (if Wc.chkP rgt L=true then 0 else 85)):=zCT L v w h hl ht hN (λx _=>zGO x)
structure Sg where
 id:Int
 c:Int
 nm:ByteArray
 l:Int
 m:Int
 p:ByteArray
abbrev Sg.cs (s:Sg):List Value:=sg6 s.id s.c s.nm s.l s.m s.p
def zAk:List Sg->List Value
 | []=>[]
 | x::r=>x.cs++zAk r
theorem zCv:∀ A:List Sg,(zAk A).length=A.length * 6
 | []=>rfl
 | x::r=>by simp [zAk,zCv r];omega
theorem zDA:∀ (A C:List Sg),zAk (A++C)=zAk A++zAk C
 | [],C=>rfl
 | x::r,C=>by simp [zAk,zDA r C]
theorem zCj:∀ (A:List Sg),∀ v ∈ zAk A,v.oneCell'=true
 | [],v,h=>by cases h
 | x::r,v,h=>by
  simp only [zAk,Sg.cs,sg6,List.mem_append,List.mem_cons,List.not_mem_nil,or_false] at h;rcases h with (rfl | rfl | rfl | rfl | rfl | rfl) | h
  ·rfl
  ·rfl
  ·rfl
  ·rfl
  ·rfl
  ·rfl
  ·exact zCj r v h
def foN:List ByteArray:=[⟨#[83,85,77]⟩,⟨#[80,82,79,68,85,67,84]⟩,⟨#[67,79,85,78,84]⟩,⟨#[67,79,85,78,84,65]⟩,⟨#[77,73,78]⟩,⟨#[77,65,88]⟩,⟨#[65,86,69,82,65,71,69]⟩,⟨#[65,78,68]⟩,⟨#[79,82]⟩,⟨#[88,79,82]⟩,⟨#[67,79,78,67,65,84]⟩,⟨#[83,85,77,83,81]⟩,⟨#[71,67,68]⟩,⟨#[70,73,82,83,84]⟩,⟨#[76,65,83,84]⟩]
def nmN:List ByteArray:=[⟨#[65,66,83]⟩,⟨#[83,73,71,78]⟩,⟨#[73,78,84]⟩,⟨#[82,79,85,78,68]⟩,⟨#[77,79,68]⟩,⟨#[81,85,79,84,73,69,78,84]⟩,⟨#[80,79,87,69,82]⟩,⟨#[78,79,84]⟩,⟨#[76,69,78]⟩,⟨#[76,69,70,84]⟩,⟨#[82,73,71,72,84]⟩,⟨#[77,73,68]⟩,⟨#[82,69,80,84]⟩,⟨#[70,73,78,68]⟩,⟨#[85,80,80,69,82]⟩,⟨#[76,79,87,69,82]⟩,⟨#[84,82,73,77]⟩,⟨#[86,65,76,85,69]⟩,⟨#[73,83,78,85,77,66,69,82]⟩,⟨#[73,83,84,69,88,84]⟩,⟨#[73,83,66,76,65,78,75]⟩,⟨#[73,83,69,82,82,79,82]⟩,⟨#[78,65]⟩]
def leN:List Int:=[1,1,1,1,2,2,2,1,1,1,1,3,2,2,1,1,1,1,1,1,1,1,0]
def f1 (i:Nat):Sg:=⟨(i:Int)+1,1,foN.getD i ⟨#[]⟩,1,30,⟨#[120]⟩⟩
def rnd (s:ByteArray):Bool:=(s.toList == [82,79,85,78,68]) || ((s.toList == [76,69,70,84]) || (s.toList == [82,73,71,72,84]))
def f3 (i:Nat):Sg:=⟨40+(i:Int),4,nmN.getD i ⟨#[]⟩,leN.getD i 0,if rnd (nmN.getD i ⟨#[]⟩)=true then 2 else leN.getD i 0,⟨#[118]⟩⟩
def zAz:List Sg:=[⟨20,2,⟨#[77,65,84,67,72]⟩,2,2,⟨#[118,97]⟩⟩,⟨21,2,⟨#[67,79,85,78,84,73,70]⟩,2,2,⟨#[97,118]⟩⟩,⟨22,2,⟨#[83,85,77,73,70]⟩,2,3,⟨#[97,118,97]⟩⟩,⟨23,2,⟨#[76,79,79,75,85,80]⟩,3,3,⟨#[118,97,97]⟩⟩,⟨24,2,⟨#[83,85,77,80,82,79,68,85,67,84]⟩,2,2,⟨#[97]⟩⟩,⟨25,2,⟨#[73,78,68,69,88]⟩,2,3,⟨#[97,118]⟩⟩,⟨26,2,⟨#[82,79,87,83]⟩,1,1,⟨#[97]⟩⟩,⟨27,2,⟨#[67,79,76,85,77,78,83]⟩,1,1,⟨#[97]⟩⟩,⟨30,3,⟨#[73,70]⟩,2,3,⟨#[118]⟩⟩,⟨31,3,⟨#[73,70,69,82,82,79,82]⟩,2,2,⟨#[118]⟩⟩,⟨32,3,⟨#[67,72,79,79,83,69]⟩,2,30,⟨#[118]⟩⟩]
def allS:List Sg:=(List.range 15).map f1++zAz++(List.range 23).map f3
def OwnS (w:World) (B:Nat) (v:Value) (A:List Sg):Prop:=w.ownsRow B 108 6 v A.length (zAk A)
theorem OwnS.nil (w:World) (B:Nat):OwnS w B (.slice none 0 0) []:=⟨rfl,Or.inl ⟨rfl,rfl⟩⟩
theorem zKi:(prog.info? 108).map (λi=>(i.zero,i.size,i.bytes))=some (some (.agg #[.int .i64 0,.int .i64 0,.string ⟨#[]⟩,.int .i64 0,.int .i64 0,.string ⟨#[]⟩]),6,64):=by kernel_rfl
theorem zB0 {ops:Array Oper} {rest:List Oper} {o:Oper} {a:Act} {Q:Exit->Act->World->Prop} (hgd:o.guard=none) (s x:Operand) (ho:o.op=.call {callee:=.builtin .append,args:=#[s,x],argTypes:=#[151,151]})
  (w:World) (B:Nat) (hB:B<=w.heap.size) (v:Value) (A:List Sg) (hs:a.eval s=v) (hown:OwnS w B v A) (g:Nat) (L:List Sg) (hx:a.eval x=.slice (some ⟨g,0,none⟩) L.length L.length) (hat:AtL w g (zAk L)) (hl:A.length+L.length<=1000)
  (h:∀ v' w',OwnS w' B v' (A++L)->w.grownBy w' v.ownBlock->wpList prog ops Q rest (a.put o.dst v') w'):wpList prog ops Q (o::rest) a w:=by
 obtain ⟨i0,hi0,hz0,hz1,hz2⟩:=info_parts zKi;refine wpList_plain hgd λK hK=>?_
 refine wp_append_own _ s x 151 ho B 108 i0 _ 6 64 underlying151 hi0 hz0 hz1 hz2 rfl (by decide) v A.length (zAk A) hs hown ⟨g,0,none⟩ L.length L.length (zAk L) hx (zCv L) (λj u hj=>?_) (zCj L) (by unfold maxLen;omega) (by omega) hB ?_
 ·have:=hat.2.1 j u hj;rw [show (⟨g,0,none⟩:Addr).add j=⟨g,j,none⟩ from by
   simp [Addr.add];try (intro h0;omega)]
  exact this
 ·intro v' w' own hg _;refine hK _ _ (h v' w' ?_ hg);unfold OwnS;rw [List.length_append,zDA];exact own
theorem zMz (w:World):(Instr.buildSlice 151 11 #[(0,.agg (zAz[0]).cs.toArray),(1,.agg (zAz[1]).cs.toArray),(2,.agg (zAz[2]).cs.toArray),(3,.agg (zAz[3]).cs.toArray),(4,.agg (zAz[4]).cs.toArray),(5,.agg (zAz[5]).cs.toArray),(6,.agg (zAz[6]).cs.toArray),(7,.agg (zAz[7]).cs.toArray),(8,.agg (zAz[8]).cs.toArray),(9,.agg (zAz[9]).cs.toArray),(10,.agg (zAz[10]).cs.toArray)]).run prog w=.ok (.slice (some ⟨w.heap.size,0,none⟩) 11 11) (w.alloc (.cells (zAk zAz).toArray 108)):=by kernel_rfl
theorem zDe {op:Oper} (hgd:op.guard=none) (ho:op.op=.buildSlice 151 11 #[(0,.tmp 26),(1,.tmp 27),(2,.tmp 28),(3,.tmp 29),(4,.tmp 30),(5,.tmp 31),(6,.tmp 32),(7,.tmp 33),(8,.tmp 34),(9,.tmp 35),(10,.tmp 36)]) (h0:a.eval (.tmp 26)=.agg (zAz[0]).cs.toArray) (h1:a.eval (.tmp 27)=.agg (zAz[1]).cs.toArray) (h2:a.eval (.tmp 28)=.agg (zAz[2]).cs.toArray) (h3:a.eval (.tmp 29)=.agg (zAz[3]).cs.toArray) (h4:a.eval (.tmp 30)=.agg (zAz[4]).cs.toArray) (h5:a.eval (.tmp 31)=.agg (zAz[5]).cs.toArray) (h6:a.eval (.tmp 32)=.agg (zAz[6]).cs.toArray) (h7:a.eval (.tmp 33)=.agg (zAz[7]).cs.toArray) (h8:a.eval (.tmp 34)=.agg (zAz[8]).cs.toArray) (h9:a.eval (.tmp 35)=.agg (zAz[9]).cs.toArray) (h10:a.eval (.tmp 36)=.agg (zAz[10]).cs.toArray)
  (h:wpList prog ops Q rest (a.put op.dst (.slice (some ⟨w.heap.size,0,none⟩) 11 11)) (w.alloc (.cells (zAk zAz).toArray 108))):wpList prog ops Q (op::rest) a w:=by
 refine wpList_plain hgd λK hK=>?_
 unfold Oper.wp execOp;simp only [ho,List.map_toArray,List.map_cons,List.map_nil,h0,h1,h2,h3,h4,h5,h6,h7,h8,h9,h10,Sem.run_bind,Sem.run_pure,Result.andThen_ok,zMz];exact hK _ _ h
theorem OwnS.blk {A:List Sg} (h:OwnS w B v A) {g:Nat} (e:v.ownBlock=some g):B<=g/\g<w.heap.size:=zAT h e
theorem OwnS.below {w':World} {A:List Sg} (h:OwnS w B v A) (hb:Below w.heap.size w w'):OwnS w' B v A:=zAc (Fr.of_below [] hb) h (by simp)
theorem zCh:allS.length=49:=by kernel_rfl
theorem zHZ:allS.all (λs=>zAt s.id && ((zA7 s.id).c == s.c && ((zA7 s.id).l == s.l && (zA7 s.id).m == s.m)))=true:=by kernel_rfl
theorem zIo:(List.range 63).all (λk=>!zAt (k:Int) || allS.any (λs=>s.id == (k:Int)))=true:=by kernel_rfl
theorem zEZ {s:Sg} (h:s ∈ allS):zAt s.id=true/\(zA7 s.id).c=s.c/\(zA7 s.id).l=s.l/\(zA7 s.id).m=s.m:=by
 have:=List.all_eq_true.1 zHZ s h;simp only [Bool.and_eq_true,beq_iff_eq] at this;exact this
theorem zJu {id:Int} (h:zAt id=true):∃ s ∈ allS,s.id=id:=by
 have hk:=h;unfold zAt at hk;simp only [Bool.and_eq_true,decide_eq_true_eq] at hk;have h2:=List.all_eq_true.1 zIo id.toNat (List.mem_range.2 (by omega));have e:((id.toNat:Nat):Int)=id:=by omega
 rw [e,h] at h2;simp only [Bool.not_true,Bool.false_or] at h2;obtain ⟨s,hs,he⟩:=List.any_eq_true.1 h2;exact ⟨s,hs,by simpa using he⟩
theorem zJo (i:Nat) (hi:i<23):(match some (Obj.cells #[.string ⟨#[65,66,83]⟩,.string ⟨#[83,73,71,78]⟩,.string ⟨#[73,78,84]⟩,.string ⟨#[82,79,85,78,68]⟩,.string ⟨#[77,79,68]⟩,.string ⟨#[81,85,79,84,73,69,78,84]⟩,.string ⟨#[80,79,87,69,82]⟩,.string ⟨#[78,79,84]⟩,.string ⟨#[76,69,78]⟩,.string ⟨#[76,69,70,84]⟩,.string ⟨#[82,73,71,72,84]⟩,.string ⟨#[77,73,68]⟩,.string ⟨#[82,69,80,84]⟩,.string ⟨#[70,73,78,68]⟩,.string ⟨#[85,80,80,69,82]⟩,.string ⟨#[76,79,87,69,82]⟩,.string ⟨#[84,82,73,77]⟩,.string ⟨#[86,65,76,85,69]⟩,.string ⟨#[73,83,78,85,77,66,69,82]⟩,.string ⟨#[73,83,84,69,88,84]⟩,.string ⟨#[73,83,66,76,65,78,75]⟩,.string ⟨#[73,83,69,82,82,79,82]⟩,.string ⟨#[78,65]⟩] 9) with | some (.cells c _ _)=>if (none:Option Nat).isSome then none else c[i]? | _=>none)=some (.string (nmN.getD i ⟨#[]⟩)):=by
 match i,hi with
 | 0,_ | 1,_ | 2,_ | 3,_ | 4,_ | 5,_ | 6,_ | 7,_ | 8,_ | 9,_ | 10,_ | 11,_ | 12,_ | 13,_ | 14,_ | 15,_ | 16,_ | 17,_ | 18,_ | 19,_ | 20,_ | 21,_ | 22,_=>rfl
 | n+23,h=>exact absurd h (by omega)
theorem zKl (i:Nat) (hi:i<23):(match some (Obj.cells #[.int .i64 1,.int .i64 1,.int .i64 1,.int .i64 1,.int .i64 2,.int .i64 2,.int .i64 2,.int .i64 1,.int .i64 1,.int .i64 1,.int .i64 1,.int .i64 3,.int .i64 2,.int .i64 2,.int .i64 1,.int .i64 1,.int .i64 1,.int .i64 1,.int .i64 1,.int .i64 1,.int .i64 1,.int .i64 1,.int .i64 0] 3) with | some (.cells c _ _)=>if (none:Option Nat).isSome then none else c[i]? | _=>none)=some (.int .i64 (leN.getD i 0)):=by
 match i,hi with
 | 0,_ | 1,_ | 2,_ | 3,_ | 4,_ | 5,_ | 6,_ | 7,_ | 8,_ | 9,_ | 10,_ | 11,_ | 12,_ | 13,_ | 14,_ | 15,_ | 16,_ | 17,_ | 18,_ | 19,_ | 20,_ | 21,_ | 22,_=>rfl
 | n+23,h=>exact absurd h (by omega)
theorem zBB {k:Nat} {o:Obj} (h:w.heap[k]? = some o):k<w.heap.size:=by
 rcases Nat.lt_or_ge k w.heap.size with q | q
 ·exact q
 ·rw [Array.getElem?_eq_none q] at h;cases h
theorem zFI (w:World):Calls prog 86 #[] w λe w'=>(∃ r B,e=.returned r/\OwnS w' B r allS/\w.heap.size<=B)/\Below w.heap.size w w':=by
 have pF:=AtL.new0 w 9 [.string ⟨#[83,85,77]⟩,.string ⟨#[80,82,79,68,85,67,84]⟩,.string ⟨#[67,79,85,78,84]⟩,.string ⟨#[67,79,85,78,84,65]⟩,.string ⟨#[77,73,78]⟩,.string ⟨#[77,65,88]⟩,.string ⟨#[65,86,69,82,65,71,69]⟩,.string ⟨#[65,78,68]⟩,.string ⟨#[79,82]⟩,.string ⟨#[88,79,82]⟩,.string ⟨#[67,79,78,67,65,84]⟩,.string ⟨#[83,85,77,83,81]⟩,.string ⟨#[71,67,68]⟩,.string ⟨#[70,73,82,83,84]⟩,.string ⟨#[76,65,83,84]⟩];have hb0:=zAK (Below.refl _ w) (.cells #[.string ⟨#[83,85,77]⟩,.string ⟨#[80,82,79,68,85,67,84]⟩,.string ⟨#[67,79,85,78,84]⟩,.string ⟨#[67,79,85,78,84,65]⟩,.string ⟨#[77,73,78]⟩,.string ⟨#[77,65,88]⟩,.string ⟨#[65,86,69,82,65,71,69]⟩,.string ⟨#[65,78,68]⟩,.string ⟨#[79,82]⟩,.string ⟨#[88,79,82]⟩,.string ⟨#[67,79,78,67,65,84]⟩,.string ⟨#[83,85,77,83,81]⟩,.string ⟨#[71,67,68]⟩,.string ⟨#[70,73,82,83,84]⟩,.string ⟨#[76,65,83,84]⟩] 9);have HF:Hid (∀ (wr:World),Fr [] (w.alloc (.cells #[.string ⟨#[83,85,77]⟩,.string ⟨#[80,82,79,68,85,67,84]⟩,.string ⟨#[67,79,85,78,84]⟩,.string ⟨#[67,79,85,78,84,65]⟩,.string ⟨#[77,73,78]⟩,.string ⟨#[77,65,88]⟩,.string ⟨#[65,86,69,82,65,71,69]⟩,.string ⟨#[65,78,68]⟩,.string ⟨#[79,82]⟩,.string ⟨#[88,79,82]⟩,.string ⟨#[67,79,78,67,65,84]⟩,.string ⟨#[83,85,77,83,81]⟩,.string ⟨#[71,67,68]⟩,.string ⟨#[70,73,82,83,84]⟩,.string ⟨#[76,65,83,84]⟩] 9)) wr->∀ i:Nat,i<15->wr.cell? ⟨w.heap.size,i,none⟩=some (.string (foN.getD i ⟨#[]⟩))):=by
  intro wr hf i hi;refine hf.cell (pF.2.1 i _ ?_) (by simp);have:∀ i:Nat,i<15->([.string ⟨#[83,85,77]⟩,.string ⟨#[80,82,79,68,85,67,84]⟩,.string ⟨#[67,79,85,78,84]⟩,.string ⟨#[67,79,85,78,84,65]⟩,.string ⟨#[77,73,78]⟩,.string ⟨#[77,65,88]⟩,.string ⟨#[65,86,69,82,65,71,69]⟩,.string ⟨#[65,78,68]⟩,.string ⟨#[79,82]⟩,.string ⟨#[88,79,82]⟩,.string ⟨#[67,79,78,67,65,84]⟩,.string ⟨#[83,85,77,83,81]⟩,.string ⟨#[71,67,68]⟩,.string ⟨#[70,73,82,83,84]⟩,.string ⟨#[76,65,83,84]⟩]:List Value)[i]? = some (.string (foN.getD i ⟨#[]⟩)):=by
   intro i hi;match i,hi with
   | 0,_ | 1,_ | 2,_ | 3,_ | 4,_ | 5,_ | 6,_ | 7,_ | 8,_ | 9,_ | 10,_ | 11,_ | 12,_ | 13,_ | 14,_=>rfl
  exact this i hi
 have HF0:Hid (Fr [] (w.alloc (.cells #[.string ⟨#[83,85,77]⟩,.string ⟨#[80,82,79,68,85,67,84]⟩,.string ⟨#[67,79,85,78,84]⟩,.string ⟨#[67,79,85,78,84,65]⟩,.string ⟨#[77,73,78]⟩,.string ⟨#[77,65,88]⟩,.string ⟨#[65,86,69,82,65,71,69]⟩,.string ⟨#[65,78,68]⟩,.string ⟨#[79,82]⟩,.string ⟨#[88,79,82]⟩,.string ⟨#[67,79,78,67,65,84]⟩,.string ⟨#[83,85,77,83,81]⟩,.string ⟨#[71,67,68]⟩,.string ⟨#[70,73,82,83,84]⟩,.string ⟨#[76,65,83,84]⟩] 9)) (w.alloc (.cells #[.string ⟨#[83,85,77]⟩,.string ⟨#[80,82,79,68,85,67,84]⟩,.string ⟨#[67,79,85,78,84]⟩,.string ⟨#[67,79,85,78,84,65]⟩,.string ⟨#[77,73,78]⟩,.string ⟨#[77,65,88]⟩,.string ⟨#[65,86,69,82,65,71,69]⟩,.string ⟨#[65,78,68]⟩,.string ⟨#[79,82]⟩,.string ⟨#[88,79,82]⟩,.string ⟨#[67,79,78,67,65,84]⟩,.string ⟨#[83,85,77,83,81]⟩,.string ⟨#[71,67,68]⟩,.string ⟨#[70,73,82,83,84]⟩,.string ⟨#[76,65,83,84]⟩] 9))):=Fr.refl _ _;have HW0:Hid (w.heap.size<(w.alloc (.cells #[.string ⟨#[83,85,77]⟩,.string ⟨#[80,82,79,68,85,67,84]⟩,.string ⟨#[67,79,85,78,84]⟩,.string ⟨#[67,79,85,78,84,65]⟩,.string ⟨#[77,73,78]⟩,.string ⟨#[77,65,88]⟩,.string ⟨#[65,86,69,82,65,71,69]⟩,.string ⟨#[65,78,68]⟩,.string ⟨#[79,82]⟩,.string ⟨#[88,79,82]⟩,.string ⟨#[67,79,78,67,65,84]⟩,.string ⟨#[83,85,77,83,81]⟩,.string ⟨#[71,67,68]⟩,.string ⟨#[70,73,82,83,84]⟩,.string ⟨#[76,65,83,84]⟩] 9)).heap.size):=pF.1
 have HB0:Hid (Below w.heap.size w (w.alloc (.cells #[.string ⟨#[83,85,77]⟩,.string ⟨#[80,82,79,68,85,67,84]⟩,.string ⟨#[67,79,85,78,84]⟩,.string ⟨#[67,79,85,78,84,65]⟩,.string ⟨#[77,73,78]⟩,.string ⟨#[77,65,88]⟩,.string ⟨#[65,86,69,82,65,71,69]⟩,.string ⟨#[65,78,68]⟩,.string ⟨#[79,82]⟩,.string ⟨#[88,79,82]⟩,.string ⟨#[67,79,78,67,65,84]⟩,.string ⟨#[83,85,77,83,81]⟩,.string ⟨#[71,67,68]⟩,.string ⟨#[70,73,82,83,84]⟩,.string ⟨#[76,65,83,84]⟩] 9))):=hb0;clear pF hb0;go_enter func86,ntmps86;go_upto_region 4 with fail
 generalize (w.alloc (.cells #[.string ⟨#[83,85,77]⟩,.string ⟨#[80,82,79,68,85,67,84]⟩,.string ⟨#[67,79,85,78,84]⟩,.string ⟨#[67,79,85,78,84,65]⟩,.string ⟨#[77,73,78]⟩,.string ⟨#[77,65,88]⟩,.string ⟨#[65,86,69,82,65,71,69]⟩,.string ⟨#[65,78,68]⟩,.string ⟨#[79,82]⟩,.string ⟨#[88,79,82]⟩,.string ⟨#[67,79,78,67,65,84]⟩,.string ⟨#[83,85,77,83,81]⟩,.string ⟨#[71,67,68]⟩,.string ⟨#[70,73,82,83,84]⟩,.string ⟨#[76,65,83,84]⟩] 9))=w0 at *;have HSZ:Hid (w.heap.size<=w0.heap.size):=Nat.le_of_lt HW0.out;go_wp2_with fail
 go_loopg [1,3] 15 (λgk u1 x wr=>∃ (i:Nat) (va:Value),va=u1/\x=.int .i64 i/\gk=15 - i/\i<=15/\Hid (OwnS wr w0.heap.size va ((List.range i).map f1))/\Hid (Fr [] w0 wr))
 case atStart=>exact ⟨0,_,rfl,rfl,rfl,Nat.zero_le _,OwnS.nil _ _,HF0⟩
 case round =>
  clear HF0;obtain ⟨i,va,rfl,rfl,hg,hi,HO,HFr⟩:=hrel;by_cases hlt:i<15
  ·have hli:(i:Int)<15:=by omega
   have hiz:(0:Int)<=(i:Int):=by omega
   have hwi:IntKind.i64.wrap ((i:Int)+1)=(i:Int)+1:=by rw [IntKind.wrap_i64];omega
   have hw1:IntKind.i64.wrap (1+(i:Int))=(i:Int)+1:=by rw [IntKind.wrap_i64];omega
   have c0:=HF.out wr HFr.out i hlt;obtain ⟨nm,hnm⟩:∃ nm,foN.getD i ⟨#[]⟩=nm:=⟨_,rfl⟩
   have HN:Hid (f1 i=⟨(i:Int)+1,1,nm,1,30,⟨#[120]⟩⟩):=by show _=_;rw [<-hnm];rfl
   rw [hnm] at c0;have hbs:=zAK (Below.refl _ wr) (.cells #[.int .i64 ((i:Int)+1),.int .i64 1,.string nm,.int .i64 1,.int .i64 30,.string ⟨#[120]⟩] 108);have HA:Hid (AtL (wr.alloc (.cells #[.int .i64 ((i:Int)+1),.int .i64 1,.string nm,.int .i64 1,.int .i64 30,.string ⟨#[120]⟩] 108)) wr.heap.size (zAk [⟨(i:Int)+1,1,nm,1,30,⟨#[120]⟩⟩])):=AtL.new0 wr 108 (zAk [⟨(i:Int)+1,1,nm,1,30,⟨#[120]⟩⟩]);have HO2:Hid (OwnS (wr.alloc (.cells #[.int .i64 ((i:Int)+1),.int .i64 1,.string nm,.int .i64 1,.int .i64 30,.string ⟨#[120]⟩] 108)) w0.heap.size va ((List.range i).map f1)):=HO.out.below hbs;have HF2:Hid (Fr [] w0 (wr.alloc (.cells #[.int .i64 ((i:Int)+1),.int .i64 1,.string nm,.int .i64 1,.int .i64 30,.string ⟨#[120]⟩] 108))):=HFr.out.trans (Fr.of_below [] hbs);clear hbs hnm HO HFr;go_wp2_with (refine zB0 rfl (.tmp 15) (.tmp 23) rfl (wr.alloc (.cells #[.int .i64 ((i:Int)+1),.int .i64 1,.string nm,.int .i64 1,.int .i64 30,.string ⟨#[120]⟩] 108)) w0.heap.size HF2.out.size va ((List.range i).map f1) rfl HO2.out wr.heap.size [⟨(i:Int)+1,1,nm,1,30,⟨#[120]⟩⟩] rfl HA.out (by simp;omega) ?_;intro v2 w2 own2 hg2)
   have HO3:Hid (OwnS w2 w0.heap.size v2 ((List.range (i+1)).map f1)):=by show OwnS _ _ _ _;rw [List.range_succ,List.map_append,List.map_cons,List.map_nil,HN.out];exact own2
   have HF3:Hid (Fr [] w0 w2):=HF2.out.new (Fr.of_grown (S:=va.ownBlock.toList) hg2 (λk e=>by simp [e])) (λk hk=>Or.inr (HO2.out.blk (by simpa using hk)).1);clear own2 hg2 c0;go_roundg (15 - (i+1))
   case rel=>exact ⟨i+1,_,rfl,by simp,rfl,hlt,HO3,HF3⟩
   case measure=>omega
  ·have hli:¬ (i:Int)<15:=by omega
   have hi15:i=15:=by omega
   subst hi15;have hbs:=zAK (Below.refl _ wr) (.cells (zAk zAz).toArray 108);have HA:Hid (AtL (wr.alloc (.cells (zAk zAz).toArray 108)) wr.heap.size (zAk zAz)):=AtL.new0 wr 108 (zAk zAz);have HO2:Hid (OwnS (wr.alloc (.cells (zAk zAz).toArray 108)) w0.heap.size va ((List.range 15).map f1)):=HO.out.below hbs;have HF2:Hid (Fr [] w0 (wr.alloc (.cells (zAk zAz).toArray 108))):=HFr.out.trans (Fr.of_below [] hbs);clear hbs HO HFr HF;go_upto_region 8 with (first | (refine zDe rfl rfl rfl rfl rfl rfl rfl rfl rfl rfl rfl rfl rfl ?_) | (refine zB0 rfl (.tmp 25) (.tmp 37) rfl (wr.alloc (.cells (zAk zAz).toArray 108)) w0.heap.size HF2.out.size va ((List.range 15).map f1) rfl HO2.out wr.heap.size zAz rfl HA.out (by simp [zAz]) ?_;intro v2 w2 own2 hg2))
   have HO3:Hid (OwnS w2 w0.heap.size v2 ((List.range 15).map f1++zAz)):=own2;have HF3:Hid (Fr [] w0 w2):=HF2.out.new (Fr.of_grown (S:=va.ownBlock.toList) hg2 (λk e=>by simp [e])) (λk hk=>Or.inr (HO2.out.blk (by simpa using hk)).1);clear own2 hg2 HA HO2 HF2;have hbN:=zAK (Below.refl _ w2) (.cells #[.string ⟨#[65,66,83]⟩,.string ⟨#[83,73,71,78]⟩,.string ⟨#[73,78,84]⟩,.string ⟨#[82,79,85,78,68]⟩,.string ⟨#[77,79,68]⟩,.string ⟨#[81,85,79,84,73,69,78,84]⟩,.string ⟨#[80,79,87,69,82]⟩,.string ⟨#[78,79,84]⟩,.string ⟨#[76,69,78]⟩,.string ⟨#[76,69,70,84]⟩,.string ⟨#[82,73,71,72,84]⟩,.string ⟨#[77,73,68]⟩,.string ⟨#[82,69,80,84]⟩,.string ⟨#[70,73,78,68]⟩,.string ⟨#[85,80,80,69,82]⟩,.string ⟨#[76,79,87,69,82]⟩,.string ⟨#[84,82,73,77]⟩,.string ⟨#[86,65,76,85,69]⟩,.string ⟨#[73,83,78,85,77,66,69,82]⟩,.string ⟨#[73,83,84,69,88,84]⟩,.string ⟨#[73,83,66,76,65,78,75]⟩,.string ⟨#[73,83,69,82,82,79,82]⟩,.string ⟨#[78,65]⟩] 9);have HN0:Hid ((w2.alloc (.cells #[.string ⟨#[65,66,83]⟩,.string ⟨#[83,73,71,78]⟩,.string ⟨#[73,78,84]⟩,.string ⟨#[82,79,85,78,68]⟩,.string ⟨#[77,79,68]⟩,.string ⟨#[81,85,79,84,73,69,78,84]⟩,.string ⟨#[80,79,87,69,82]⟩,.string ⟨#[78,79,84]⟩,.string ⟨#[76,69,78]⟩,.string ⟨#[76,69,70,84]⟩,.string ⟨#[82,73,71,72,84]⟩,.string ⟨#[77,73,68]⟩,.string ⟨#[82,69,80,84]⟩,.string ⟨#[70,73,78,68]⟩,.string ⟨#[85,80,80,69,82]⟩,.string ⟨#[76,79,87,69,82]⟩,.string ⟨#[84,82,73,77]⟩,.string ⟨#[86,65,76,85,69]⟩,.string ⟨#[73,83,78,85,77,66,69,82]⟩,.string ⟨#[73,83,84,69,88,84]⟩,.string ⟨#[73,83,66,76,65,78,75]⟩,.string ⟨#[73,83,69,82,82,79,82]⟩,.string ⟨#[78,65]⟩] 9)).heap[w2.heap.size]? = some (.cells #[.string ⟨#[65,66,83]⟩,.string ⟨#[83,73,71,78]⟩,.string ⟨#[73,78,84]⟩,.string ⟨#[82,79,85,78,68]⟩,.string ⟨#[77,79,68]⟩,.string ⟨#[81,85,79,84,73,69,78,84]⟩,.string ⟨#[80,79,87,69,82]⟩,.string ⟨#[78,79,84]⟩,.string ⟨#[76,69,78]⟩,.string ⟨#[76,69,70,84]⟩,.string ⟨#[82,73,71,72,84]⟩,.string ⟨#[77,73,68]⟩,.string ⟨#[82,69,80,84]⟩,.string ⟨#[70,73,78,68]⟩,.string ⟨#[85,80,80,69,82]⟩,.string ⟨#[76,79,87,69,82]⟩,.string ⟨#[84,82,73,77]⟩,.string ⟨#[86,65,76,85,69]⟩,.string ⟨#[73,83,78,85,77,66,69,82]⟩,.string ⟨#[73,83,84,69,88,84]⟩,.string ⟨#[73,83,66,76,65,78,75]⟩,.string ⟨#[73,83,69,82,82,79,82]⟩,.string ⟨#[78,65]⟩] 9)):=zAq _ _ _ rfl
   have HO4:Hid (OwnS (w2.alloc (.cells #[.string ⟨#[65,66,83]⟩,.string ⟨#[83,73,71,78]⟩,.string ⟨#[73,78,84]⟩,.string ⟨#[82,79,85,78,68]⟩,.string ⟨#[77,79,68]⟩,.string ⟨#[81,85,79,84,73,69,78,84]⟩,.string ⟨#[80,79,87,69,82]⟩,.string ⟨#[78,79,84]⟩,.string ⟨#[76,69,78]⟩,.string ⟨#[76,69,70,84]⟩,.string ⟨#[82,73,71,72,84]⟩,.string ⟨#[77,73,68]⟩,.string ⟨#[82,69,80,84]⟩,.string ⟨#[70,73,78,68]⟩,.string ⟨#[85,80,80,69,82]⟩,.string ⟨#[76,79,87,69,82]⟩,.string ⟨#[84,82,73,77]⟩,.string ⟨#[86,65,76,85,69]⟩,.string ⟨#[73,83,78,85,77,66,69,82]⟩,.string ⟨#[73,83,84,69,88,84]⟩,.string ⟨#[73,83,66,76,65,78,75]⟩,.string ⟨#[73,83,69,82,82,79,82]⟩,.string ⟨#[78,65]⟩] 9)) w0.heap.size v2 ((List.range 15).map f1++zAz)):=HO3.out.below hbN;have HF4:Hid (Fr [] w0 (w2.alloc (.cells #[.string ⟨#[65,66,83]⟩,.string ⟨#[83,73,71,78]⟩,.string ⟨#[73,78,84]⟩,.string ⟨#[82,79,85,78,68]⟩,.string ⟨#[77,79,68]⟩,.string ⟨#[81,85,79,84,73,69,78,84]⟩,.string ⟨#[80,79,87,69,82]⟩,.string ⟨#[78,79,84]⟩,.string ⟨#[76,69,78]⟩,.string ⟨#[76,69,70,84]⟩,.string ⟨#[82,73,71,72,84]⟩,.string ⟨#[77,73,68]⟩,.string ⟨#[82,69,80,84]⟩,.string ⟨#[70,73,78,68]⟩,.string ⟨#[85,80,80,69,82]⟩,.string ⟨#[76,79,87,69,82]⟩,.string ⟨#[84,82,73,77]⟩,.string ⟨#[86,65,76,85,69]⟩,.string ⟨#[73,83,78,85,77,66,69,82]⟩,.string ⟨#[73,83,84,69,88,84]⟩,.string ⟨#[73,83,66,76,65,78,75]⟩,.string ⟨#[73,83,69,82,82,79,82]⟩,.string ⟨#[78,65]⟩] 9))):=HF3.out.trans (Fr.of_below [] hbN)
   have HZ4:Hid (w2.heap.size<(w2.alloc (.cells #[.string ⟨#[65,66,83]⟩,.string ⟨#[83,73,71,78]⟩,.string ⟨#[73,78,84]⟩,.string ⟨#[82,79,85,78,68]⟩,.string ⟨#[77,79,68]⟩,.string ⟨#[81,85,79,84,73,69,78,84]⟩,.string ⟨#[80,79,87,69,82]⟩,.string ⟨#[78,79,84]⟩,.string ⟨#[76,69,78]⟩,.string ⟨#[76,69,70,84]⟩,.string ⟨#[82,73,71,72,84]⟩,.string ⟨#[77,73,68]⟩,.string ⟨#[82,69,80,84]⟩,.string ⟨#[70,73,78,68]⟩,.string ⟨#[85,80,80,69,82]⟩,.string ⟨#[76,79,87,69,82]⟩,.string ⟨#[84,82,73,77]⟩,.string ⟨#[86,65,76,85,69]⟩,.string ⟨#[73,83,78,85,77,66,69,82]⟩,.string ⟨#[73,83,84,69,88,84]⟩,.string ⟨#[73,83,66,76,65,78,75]⟩,.string ⟨#[73,83,69,82,82,79,82]⟩,.string ⟨#[78,65]⟩] 9)).heap.size):=zEQ _ _;clear hbN HO3 HF3;go_upto_region 9 with fail
   generalize (w2.alloc (.cells #[.string ⟨#[65,66,83]⟩,.string ⟨#[83,73,71,78]⟩,.string ⟨#[73,78,84]⟩,.string ⟨#[82,79,85,78,68]⟩,.string ⟨#[77,79,68]⟩,.string ⟨#[81,85,79,84,73,69,78,84]⟩,.string ⟨#[80,79,87,69,82]⟩,.string ⟨#[78,79,84]⟩,.string ⟨#[76,69,78]⟩,.string ⟨#[76,69,70,84]⟩,.string ⟨#[82,73,71,72,84]⟩,.string ⟨#[77,73,68]⟩,.string ⟨#[82,69,80,84]⟩,.string ⟨#[70,73,78,68]⟩,.string ⟨#[85,80,80,69,82]⟩,.string ⟨#[76,79,87,69,82]⟩,.string ⟨#[84,82,73,77]⟩,.string ⟨#[86,65,76,85,69]⟩,.string ⟨#[73,83,78,85,77,66,69,82]⟩,.string ⟨#[73,83,84,69,88,84]⟩,.string ⟨#[73,83,66,76,65,78,75]⟩,.string ⟨#[73,83,69,82,82,79,82]⟩,.string ⟨#[78,65]⟩] 9))=w3 at *;obtain ⟨NO,hNO⟩:∃ x,Obj.cells #[.string ⟨#[65,66,83]⟩,.string ⟨#[83,73,71,78]⟩,.string ⟨#[73,78,84]⟩,.string ⟨#[82,79,85,78,68]⟩,.string ⟨#[77,79,68]⟩,.string ⟨#[81,85,79,84,73,69,78,84]⟩,.string ⟨#[80,79,87,69,82]⟩,.string ⟨#[78,79,84]⟩,.string ⟨#[76,69,78]⟩,.string ⟨#[76,69,70,84]⟩,.string ⟨#[82,73,71,72,84]⟩,.string ⟨#[77,73,68]⟩,.string ⟨#[82,69,80,84]⟩,.string ⟨#[70,73,78,68]⟩,.string ⟨#[85,80,80,69,82]⟩,.string ⟨#[76,79,87,69,82]⟩,.string ⟨#[84,82,73,77]⟩,.string ⟨#[86,65,76,85,69]⟩,.string ⟨#[73,83,78,85,77,66,69,82]⟩,.string ⟨#[73,83,84,69,88,84]⟩,.string ⟨#[73,83,66,76,65,78,75]⟩,.string ⟨#[73,83,69,82,82,79,82]⟩,.string ⟨#[78,65]⟩] 9=x:=⟨_,rfl⟩
   have HNO:Hid (Obj.cells #[.string ⟨#[65,66,83]⟩,.string ⟨#[83,73,71,78]⟩,.string ⟨#[73,78,84]⟩,.string ⟨#[82,79,85,78,68]⟩,.string ⟨#[77,79,68]⟩,.string ⟨#[81,85,79,84,73,69,78,84]⟩,.string ⟨#[80,79,87,69,82]⟩,.string ⟨#[78,79,84]⟩,.string ⟨#[76,69,78]⟩,.string ⟨#[76,69,70,84]⟩,.string ⟨#[82,73,71,72,84]⟩,.string ⟨#[77,73,68]⟩,.string ⟨#[82,69,80,84]⟩,.string ⟨#[70,73,78,68]⟩,.string ⟨#[85,80,80,69,82]⟩,.string ⟨#[76,79,87,69,82]⟩,.string ⟨#[84,82,73,77]⟩,.string ⟨#[86,65,76,85,69]⟩,.string ⟨#[73,83,78,85,77,66,69,82]⟩,.string ⟨#[73,83,84,69,88,84]⟩,.string ⟨#[73,83,66,76,65,78,75]⟩,.string ⟨#[73,83,69,82,82,79,82]⟩,.string ⟨#[78,65]⟩] 9=NO):=hNO;rw [hNO] at HN0;clear hNO;have hbL:=zAK (Below.refl _ w3) (.cells #[.int .i64 1,.int .i64 1,.int .i64 1,.int .i64 1,.int .i64 2,.int .i64 2,.int .i64 2,.int .i64 1,.int .i64 1,.int .i64 1,.int .i64 1,.int .i64 3,.int .i64 2,.int .i64 2,.int .i64 1,.int .i64 1,.int .i64 1,.int .i64 1,.int .i64 1,.int .i64 1,.int .i64 1,.int .i64 1,.int .i64 0] 3);have HL5:Hid ((w3.alloc (.cells #[.int .i64 1,.int .i64 1,.int .i64 1,.int .i64 1,.int .i64 2,.int .i64 2,.int .i64 2,.int .i64 1,.int .i64 1,.int .i64 1,.int .i64 1,.int .i64 3,.int .i64 2,.int .i64 2,.int .i64 1,.int .i64 1,.int .i64 1,.int .i64 1,.int .i64 1,.int .i64 1,.int .i64 1,.int .i64 1,.int .i64 0] 3)).heap[w3.heap.size]? = some (.cells #[.int .i64 1,.int .i64 1,.int .i64 1,.int .i64 1,.int .i64 2,.int .i64 2,.int .i64 2,.int .i64 1,.int .i64 1,.int .i64 1,.int .i64 1,.int .i64 3,.int .i64 2,.int .i64 2,.int .i64 1,.int .i64 1,.int .i64 1,.int .i64 1,.int .i64 1,.int .i64 1,.int .i64 1,.int .i64 1,.int .i64 0] 3)):=zAq _ _ _ rfl
   have HO5:Hid (OwnS (w3.alloc (.cells #[.int .i64 1,.int .i64 1,.int .i64 1,.int .i64 1,.int .i64 2,.int .i64 2,.int .i64 2,.int .i64 1,.int .i64 1,.int .i64 1,.int .i64 1,.int .i64 3,.int .i64 2,.int .i64 2,.int .i64 1,.int .i64 1,.int .i64 1,.int .i64 1,.int .i64 1,.int .i64 1,.int .i64 1,.int .i64 1,.int .i64 0] 3)) w0.heap.size v2 ((List.range 15).map f1++zAz)):=HO4.out.below hbL;have HF5:Hid (Fr [] w0 (w3.alloc (.cells #[.int .i64 1,.int .i64 1,.int .i64 1,.int .i64 1,.int .i64 2,.int .i64 2,.int .i64 2,.int .i64 1,.int .i64 1,.int .i64 1,.int .i64 1,.int .i64 3,.int .i64 2,.int .i64 2,.int .i64 1,.int .i64 1,.int .i64 1,.int .i64 1,.int .i64 1,.int .i64 1,.int .i64 1,.int .i64 1,.int .i64 0] 3))):=HF4.out.trans (Fr.of_below [] hbL);have HN5:Hid ((w3.alloc (.cells #[.int .i64 1,.int .i64 1,.int .i64 1,.int .i64 1,.int .i64 2,.int .i64 2,.int .i64 2,.int .i64 1,.int .i64 1,.int .i64 1,.int .i64 1,.int .i64 3,.int .i64 2,.int .i64 2,.int .i64 1,.int .i64 1,.int .i64 1,.int .i64 1,.int .i64 1,.int .i64 1,.int .i64 1,.int .i64 1,.int .i64 0] 3)).heap[w2.heap.size]? = some NO):=by show _=_;rw [hbL.block _ HZ4.out];exact HN0.out
   clear hbL HO4 HF4 HN0 HZ4;go_upto_region 10 with fail
   generalize (w3.alloc (.cells #[.int .i64 1,.int .i64 1,.int .i64 1,.int .i64 1,.int .i64 2,.int .i64 2,.int .i64 2,.int .i64 1,.int .i64 1,.int .i64 1,.int .i64 1,.int .i64 3,.int .i64 2,.int .i64 2,.int .i64 1,.int .i64 1,.int .i64 1,.int .i64 1,.int .i64 1,.int .i64 1,.int .i64 1,.int .i64 1,.int .i64 0] 3))=w4 at *;obtain ⟨LO,hLO⟩:∃ x,Obj.cells #[.int .i64 1,.int .i64 1,.int .i64 1,.int .i64 1,.int .i64 2,.int .i64 2,.int .i64 2,.int .i64 1,.int .i64 1,.int .i64 1,.int .i64 1,.int .i64 3,.int .i64 2,.int .i64 2,.int .i64 1,.int .i64 1,.int .i64 1,.int .i64 1,.int .i64 1,.int .i64 1,.int .i64 1,.int .i64 1,.int .i64 0] 3=x:=⟨_,rfl⟩
   have HLO:Hid (Obj.cells #[.int .i64 1,.int .i64 1,.int .i64 1,.int .i64 1,.int .i64 2,.int .i64 2,.int .i64 2,.int .i64 1,.int .i64 1,.int .i64 1,.int .i64 1,.int .i64 3,.int .i64 2,.int .i64 2,.int .i64 1,.int .i64 1,.int .i64 1,.int .i64 1,.int .i64 1,.int .i64 1,.int .i64 1,.int .i64 1,.int .i64 0] 3=LO):=hLO;rw [hLO] at HL5;clear hLO;obtain ⟨NB,hNB⟩:∃ k,w2.heap.size=k:=⟨_,rfl⟩
   obtain ⟨LB,hLB⟩:∃ k,w3.heap.size=k:=⟨_,rfl⟩
   rw [hNB] at HN5;rw [hLB] at HL5;simp only [hNB,hLB];have HNC:Hid (∀ W:World,W.heap[NB]? = some NO->∀ i:Nat,i<23->W.cell? ⟨NB,i,none⟩=some (.string (nmN.getD i ⟨#[]⟩))):=by
    intro W hW i hi;unfold World.cell?;rw [hW,<-HNO.out];exact zJo i hi
   have HLC:Hid (∀ W:World,W.heap[LB]? = some LO->∀ i:Nat,i<23->W.cell? ⟨LB,i,none⟩=some (.int .i64 (leN.getD i 0))):=by
    intro W hW i hi;unfold World.cell?;rw [hW,<-HLO.out];exact zKl i hi
   have HDN:Hid (∀ (W:World) (B g:Nat) (va:Value) (A:List Sg),OwnS W B va A->va.ownBlock=some g->(W.heap[NB]? = some NO->NB ≠ g)/\(W.heap[LB]? = some LO->LB ≠ g)):=by
    intro W B g va A ho eg;refine ⟨λh1 h2=>?_,λh1 h2=>?_⟩
    ·rcases ho.2 with ⟨e,_⟩ | ⟨g',cap,cur,e,_,hg,_⟩
     ·rw [e] at eg;cases eg
     ·rw [e] at eg;have e2:g'=g:=by simpa [Value.ownBlock] using eg
      rw [e2,<-h2,h1,<-HNO.out] at hg;cases hg
    ·rcases ho.2 with ⟨e,_⟩ | ⟨g',cap,cur,e,_,hg,_⟩
     ·rw [e] at eg;cases eg
     ·rw [e] at eg;have e2:g'=g:=by simpa [Value.ownBlock] using eg
      rw [e2,<-h2,h1,<-HLO.out] at hg;cases hg
   have HO6:Hid (OwnS w4 w0.heap.size v2 ((List.range 15).map f1++zAz++(List.range 0).map f3)):=by show OwnS _ _ _ _;rw [List.range_zero,List.map_nil,List.append_nil];exact HO5.out
   clear HNO HLO hNB hLB HO5;go_wp2_with fail
   go_loopg [1,6] 23 (λgk u1 x wr=>∃ (i:Nat) (va:Value),va=u1/\x=.int .i64 i/\gk=23 - i/\i<=23/\Hid (OwnS wr w0.heap.size va ((List.range 15).map f1++zAz++(List.range i).map f3))/\Hid (Fr [] w0 wr)/\Hid (wr.heap[NB]? = some NO)/\Hid (wr.heap[LB]? = some LO))
   case atStart=>exact ⟨0,_,rfl,rfl,rfl,Nat.zero_le _,HO6,HF5,HN5,HL5⟩
   case round =>
    clear HO6 HF5 HN5 HL5;obtain ⟨i,va,rfl,rfl,hg,hi,HO,HFr,HNh,HLh⟩:=hrel;by_cases hlt:i<23
    ·have hli:(i:Int)<23:=by omega
     have hiz:(0:Int)<=(i:Int):=by omega
     have hwi:IntKind.i64.wrap ((i:Int)+1)=(i:Int)+1:=by rw [IntKind.wrap_i64];omega
     have hw4:IntKind.i64.wrap (40+(i:Int))=40+(i:Int):=by rw [IntKind.wrap_i64];omega
     have cN:=HNC.out wr HNh.out i hlt;have cL:=HLC.out wr HLh.out i hlt;obtain ⟨nm,hnm⟩:∃ nm,nmN.getD i ⟨#[]⟩=nm:=⟨_,rfl⟩
     obtain ⟨le,hle⟩:∃ le,leN.getD i 0=le:=⟨_,rfl⟩
     have HN:Hid (f3 i=⟨40+(i:Int),4,nm,le,if rnd nm=true then 2 else le,⟨#[118]⟩⟩):=by show _=_;rw [<-hnm,<-hle];rfl
     rw [hnm] at cN;rw [hle] at cL;clear hnm hle;go_upto_region 13 with fail
     have rb:=(Below.refl wr.heap.size wr).drew;have s1:=zAC rb cN;have s2:=zAC rb cL;have HO1:Hid (OwnS wr.drew w0.heap.size va ((List.range 15).map f1++zAz++(List.range i).map f3)):=HO.out.below rb;have HF1:Hid (Fr [] w0 wr.drew):=HFr.out.trans (Fr.of_below [] rb);have HN1:Hid (wr.drew.heap[NB]? = some NO):=HNh.out;have HL1:Hid (wr.drew.heap[LB]? = some LO):=HLh.out;clear cN cL rb HO HFr HNh HLh;refine wp_region_held_drew (S:=λW=>W.cell? ⟨NB,i,none⟩=some (.string nm)/\W.cell? ⟨LB,i,none⟩=some (.int .i64 le)) (by kernel_rfl) ⟨s1,s2⟩ (λhHeld=>?_);generalize wr.drew=WD at *;refine tkQ 0 ?_
     refine tkQ 1 ?_
     refine tkQ 2 ?_
     refine tkQ 3 ?_
     refine tkQ 4 ?_
     refine tkQ 5 ?_
     refine tkQ 6 ?_
     refine tkQ 7 ?_
     refine tkQ 8 ?_
     refine tkQ 9 ?_
     refine tkQ 10 ?_
     refine tkQ 11 ?_
     refine tkQ 12 ?_
     refine tkQ 13 ?_
     refine tkQ 14 ?_
     have hbA:=zAK (Below.refl _ WD) (.cells (sg6 0 0 ⟨#[]⟩ 0 0 ⟨#[]⟩).toArray 108);refine rdQ 15 (λK hK=>?_);go_simp
     refine hkQ hK ⟨zAC hbA s1,zAC hbA s2⟩ (λhHeld=>?_);clear hK K
     have pK:AtL (WD.alloc (.cells (sg6 0 0 ⟨#[]⟩ 0 0 ⟨#[]⟩).toArray 108)) WD.heap.size (sg6 0 0 ⟨#[]⟩ 0 0 ⟨#[]⟩):=AtL.new0 WD _ _;obtain ⟨k0,k1,k2,k3,k4,k5,z0,z1,z2,z3,z4,z5⟩:=at6 pK;refine rdQ 16 (λK hK=>?_);go_simp
     have hb7:=zAK (Below.refl _ WD) (.cells (sg6 (40+(i:Int)) 4 nm le le ⟨#[118]⟩).toArray 108);refine hkQ hK ⟨zAC hb7 s1,zAC hb7 s2⟩ (λhHeld=>?_);clear hK K
     refine wpAnyH_done (by kernel_rfl) ?_ _;clear hHeld pK k0 k1 k2 k3 k4 k5 z0 z1 z2 z3 z4 z5 hbA;have pS:AtL (WD.alloc (.cells (sg6 (40+(i:Int)) 4 nm le le ⟨#[118]⟩).toArray 108)) WD.heap.size (sg6 (40+(i:Int)) 4 nm le le ⟨#[118]⟩):=AtL.new0 WD _ _;have d1:=zAC hb7 s1;have HOA:Hid (OwnS (WD.alloc (.cells (sg6 (40+(i:Int)) 4 nm le le ⟨#[118]⟩).toArray 108)) w0.heap.size va ((List.range 15).map f1++zAz++(List.range i).map f3)):=HO1.out.below hb7;have HFA:Hid (Fr [] w0 (WD.alloc (.cells (sg6 (40+(i:Int)) 4 nm le le ⟨#[118]⟩).toArray 108))):=HF1.out.trans (Fr.of_below [] hb7);have HNA:Hid ((WD.alloc (.cells (sg6 (40+(i:Int)) 4 nm le le ⟨#[118]⟩).toArray 108)).heap[NB]? = some NO):=by show _=_;rw [hb7.block _ (zBB HN1.out)];exact HN1.out
     have HLA:Hid ((WD.alloc (.cells (sg6 (40+(i:Int)) 4 nm le le ⟨#[118]⟩).toArray 108)).heap[LB]? = some LO):=by show _=_;rw [hb7.block _ (zBB HL1.out)];exact HL1.out
     have HXN:Hid (NB<WD.heap.size/\LB<WD.heap.size/\w0.heap.size<=WD.heap.size/\∀ g,va.ownBlock=some g->g<WD.heap.size):=⟨zBB HN1.out,zBB HL1.out,HF1.out.size,λg e=>(HO1.out.blk e).2⟩
     clear hb7 s1 s2 HO1 HF1 HN1 HL1;generalize (WD.alloc (.cells (sg6 (40+(i:Int)) 4 nm le le ⟨#[118]⟩).toArray 108))=W7 at *;obtain ⟨X,hX⟩:∃ X,WD.heap.size=X:=⟨_,rfl⟩
     rw [hX] at pS HXN;simp only [hX];clear hX;obtain ⟨qr,hqr⟩:∃ b,rnd nm=b:=⟨_,rfl⟩
     rw [hqr] at HN;obtain ⟨mo,hmo⟩:∃ m:Int,(if qr=true then 2 else le)=m:=⟨_,rfl⟩
     have HMO:Hid ((if qr=true then 2 else le)=mo):=hmo;rw [hmo] at HN;clear hmo;go_upto_region 14 with fail
     go_cut [80] (λs wx=>s=.bool qr/\W7=wx)
     case first =>
      have hrc:((nm.toList == [82,79,85,78,68])=true/\qr=true) \/ ((nm.toList == [82,79,85,78,68])=false/\(nm.toList == [76,69,70,84])=true/\qr=true) \/ ((nm.toList == [82,79,85,78,68])=false/\(nm.toList == [76,69,70,84])=false/\(nm.toList == [82,73,71,72,84])=qr):=by
       rw [<-hqr];unfold rnd;cases (nm.toList == [82,79,85,78,68]) <;> cases (nm.toList == [76,69,70,84]) <;> simp
      clear hqr;rcases hrc with ⟨t1,rfl⟩ | ⟨t1,t2,rfl⟩ | ⟨t1,t2,t3⟩
      all_goals
       go_wp2_with fail
       go_meet
       case rel=>exact ⟨by first | rfl | simp [t3],rfl⟩
     case rest =>
      obtain ⟨rfl,rfl⟩:=hcut;clear hqr d1;go_upto_if 80 with fail
      go_cut [] (λwx=>AtL wx X (sg6 (40+(i:Int)) 4 nm le mo ⟨#[118]⟩)/\Hid (OwnS wx w0.heap.size va ((List.range 15).map f1++zAz++(List.range i).map f3))/\Hid (Fr [] w0 wx)/\Hid (wx.heap[NB]? = some NO)/\Hid (wx.heap[LB]? = some LO))
      case first =>
       cases qr with
       | false =>
        have hm:le=mo:=HMO.out;subst hm;go_wp2_with fail
        go_meet
        case rel=>exact ⟨pS,HOA,HFA,HNA,HLA⟩
       | true =>
        have hm:2=mo:=HMO.out;subst hm;obtain ⟨g0,g1,g2,g3,g4,g5,y0,y1,y2,y3,y4,y5⟩:=at6 pS;have fr:Fr [X] W7 (W7.setCell ⟨X,4,none⟩ (.int .i64 2)):=Fr.of_grown (zAL _ _ _ _) (λk e=>by cases e;simp);have pS2:=pS.set 4 (.int .i64 2);have HOB:Hid (OwnS (W7.setCell ⟨X,4,none⟩ (.int .i64 2)) w0.heap.size va ((List.range 15).map f1++zAz++(List.range i).map f3)):=zAc fr HOA.out (λg e=>by have:=HXN.out.2.2.2 g e;simp;omega);have HFB:Hid (Fr [] w0 (W7.setCell ⟨X,4,none⟩ (.int .i64 2))):=HFA.out.new fr (λk hk=>Or.inr (by simp at hk;have:=HXN.out;omega));have HNB2:Hid ((W7.setCell ⟨X,4,none⟩ (.int .i64 2)).heap[NB]? = some NO):=by show _=_;rw [fr.block _ (zBB HNA.out) (by have:=HXN.out;simp;omega)];exact HNA.out
        have HLB2:Hid ((W7.setCell ⟨X,4,none⟩ (.int .i64 2)).heap[LB]? = some LO):=by show _=_;rw [fr.block _ (zBB HLA.out) (by have:=HXN.out;simp;omega)];exact HLA.out
        clear fr HOA HFA HNA HLA g0 g1 g2 g3 g5 y0 y1 y2 y3 y5;go_wp2_with fail
        go_meet
        case rel=>exact ⟨pS2,HOB,HFB,HNB2,HLB2⟩
      case rest =>
       obtain ⟨pS3,HOB,HFB,HNB2,HLB2⟩:=hcut;clear HOA HFA HNA HLA pS;generalize wc=W8 at *;obtain ⟨g0,g1,g2,g3,g4,g5,y0,y1,y2,y3,y4,y5⟩:=at6 pS3;clear y0 y1 y2 y3 y4 y5 pS3;have hbs:=zAK (Below.refl _ W8) (.cells (sg6 (40+(i:Int)) 4 nm le mo ⟨#[118]⟩).toArray 108);have HA9:Hid (AtL (W8.alloc (.cells (sg6 (40+(i:Int)) 4 nm le mo ⟨#[118]⟩).toArray 108)) W8.heap.size (zAk [⟨40+(i:Int),4,nm,le,mo,⟨#[118]⟩⟩])):=AtL.new0 W8 108 (zAk [⟨40+(i:Int),4,nm,le,mo,⟨#[118]⟩⟩]);have HO9:Hid (OwnS (W8.alloc (.cells (sg6 (40+(i:Int)) 4 nm le mo ⟨#[118]⟩).toArray 108)) w0.heap.size va ((List.range 15).map f1++zAz++(List.range i).map f3)):=HOB.out.below hbs;have HF9:Hid (Fr [] w0 (W8.alloc (.cells (sg6 (40+(i:Int)) 4 nm le mo ⟨#[118]⟩).toArray 108))):=HFB.out.trans (Fr.of_below [] hbs);have HN9:Hid ((W8.alloc (.cells (sg6 (40+(i:Int)) 4 nm le mo ⟨#[118]⟩).toArray 108)).heap[NB]? = some NO):=by show _=_;rw [hbs.block _ (zBB HNB2.out)];exact HNB2.out
       have HL9:Hid ((W8.alloc (.cells (sg6 (40+(i:Int)) 4 nm le mo ⟨#[118]⟩).toArray 108)).heap[LB]? = some LO):=by show _=_;rw [hbs.block _ (zBB HLB2.out)];exact HLB2.out
       clear hbs HOB HFB HNB2 HLB2;go_wp2_with (refine zB0 rfl (.tmp 82) (.tmp 84) rfl (W8.alloc (.cells (sg6 (40+(i:Int)) 4 nm le mo ⟨#[118]⟩).toArray 108)) w0.heap.size HF9.out.size va ((List.range 15).map f1++zAz++(List.range i).map f3) rfl HO9.out W8.heap.size [⟨40+(i:Int),4,nm,le,mo,⟨#[118]⟩⟩] rfl HA9.out (by simp [zAz];omega) ?_;intro v3 w5 own3 hg3)
       have HOZ:Hid (OwnS w5 w0.heap.size v3 ((List.range 15).map f1++zAz++(List.range (i+1)).map f3)):=by show OwnS _ _ _ _;rw [show List.range (i+1)=List.range i++[i] from List.range_succ,List.map_append,List.map_cons,List.map_nil,HN.out,<-List.append_assoc];exact own3
       have HFZ:Hid (Fr [] w0 w5):=HF9.out.new (Fr.of_grown (S:=va.ownBlock.toList) hg3 (λk e=>by simp [e])) (λk hk=>Or.inr (HO9.out.blk (by simpa using hk)).1);have HNZ:Hid (w5.heap[NB]? = some NO):=by show _=_;rw [hg3.block _ (zBB HN9.out) (λe=>(HDN.out _ _ NB _ _ HO9.out e.symm).1 HN9.out rfl)];exact HN9.out
       have HLZ:Hid (w5.heap[LB]? = some LO):=by show _=_;rw [hg3.block _ (zBB HL9.out) (λe=>(HDN.out _ _ LB _ _ HO9.out e.symm).2 HL9.out rfl)];exact HL9.out
       clear own3 hg3 g0 g1 g2 g3 g4 g5 HA9 HO9 HF9 HN9 HL9;go_roundg (23 - (i+1))
       case rel=>exact ⟨i+1,_,rfl,by simp,rfl,hlt,HOZ,HFZ,HNZ,HLZ⟩
       case measure=>omega
    ·have hli:¬ (i:Int)<23:=by omega
     have hi23:i=23:=by omega
     subst hi23;have HBF:Hid (Below w.heap.size w wr):=((Fr.of_below [] HB0.out).trans HFr.out).to_below (by simp);go_wp2;go_ret;exact ⟨⟨_,rfl,_,HO.out,HSZ.out⟩,HBF.out⟩
