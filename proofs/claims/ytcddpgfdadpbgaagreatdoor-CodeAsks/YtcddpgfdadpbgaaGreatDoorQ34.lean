/- KHgtQ, KNeeds. -/
import Derived.Test.YtcddpgfdadpbgaaGreatDoorQ33
set_option maxHeartbeats 1600000
set_option maxRecDepth 100000
namespace Go.Proofs.YtcddpgfdadpbgaaGreatDoor
open Tryz
open Go.RowKit
set_option linter.unusedVariables false
variable {n i j k:Nat} {r:List (Wc.In × List Int)} {S:Wc.RS} {f tl:List Int} {h:Int × List Int} {P:List (Int × (Int × List Int))} {y:Wc.In} {v o:Int} {w:World}
theorem zJl:(prog.info? 50).map (λi=>(i.zero,i.size,i.bytes))=some (some (.slice none 0 0),1,24):=by kernel_rfl
theorem zHE:(prog.info? 4).map (λi=>(i.zero,i.size,i.bytes))=some (some (.bool false),1,1):=by kernel_rfl
theorem zJS {w2:World} {B:Nat} {T:TypeId} {z:Value} {cs:Array Value} (hz:cs=#[z]) (own:w2.ownsRow B T 1 (.slice (some ⟨k,0,none⟩) n n) n (madeCells cs (n * 1)).toList):k<w2.heap.size \/ n=0->(∀ j:Nat,j<n->w2.cell? ⟨k,j,none⟩=some z)/\(∀ j:Nat,j<n->w2.frozen? ⟨k,j,none⟩=false):=by
 intro _;have hcl:=own.cells (g:=k) rfl;refine ⟨λj hj=>?_,λj hj=>?_⟩
 ·have:=hcl j z (by subst hz;simp [madeCells,Nat.mod_one];exact ⟨j,by rw [List.getElem?_range (by omega)]⟩);rwa [show (⟨k,0,none⟩:Addr).add j=⟨k,j,none⟩ from by simp [Addr.add];intro h;exact h.symm] at this
 ·rcases own.2 with ⟨e,_⟩ | ⟨g,cap',cur,e,_,hg,_,_,hs,_⟩
  ·cases e
  ·simp only [Value.slice.injEq,Option.some.injEq,Addr.mk.injEq] at e;obtain ⟨⟨e1,-,-⟩,-,-⟩:=e;rw [<-e1] at hg;simp [World.frozen?,hg]
theorem zMP {w4:World} {vb fb eb:Nat} (hn:0<n) (v1:∀ j:Nat,j<n->w4.cell? ⟨vb,j,none⟩=some (.int .i64 0)) (v2:∀ j:Nat,j<n->w4.frozen? ⟨vb,j,none⟩=false) (f1:∀ j:Nat,j<n->w4.cell? ⟨fb,j,none⟩=some (.slice none 0 0)) (f2:∀ j:Nat,j<n->w4.frozen? ⟨fb,j,none⟩=false)
  (e1:∀ j:Nat,j<n->w4.cell? ⟨eb,j,none⟩=some (.bool false)) (e2:∀ j:Nat,j<n->w4.frozen? ⟨eb,j,none⟩=false) (h1:vb<fb) (h2:fb<eb) (h3:eb<w4.heap.size):HgS (w4.setCell ⟨eb,0,none⟩ (.bool true)) w4.heap.size vb fb eb n (Wc.sR n):=by
 have gd:∀ j:Nat,(Wc.sR n).getD j none=if 0=j then some ((0:Int),([]:List Int)) else none:=λj=>by
  unfold Wc.sR;rw [Wc.getD_set _ 0 j _ (by simpa using hn)];have e:(if j<n then some (none:Option (Int × List Int)) else none).getD none=none:=by split <;> rfl
  rw [List.getD_eq_getElem?_getD,List.getElem?_replicate,e]
 refine ⟨by simp [Wc.sR],λj hj=>?_,λj hj=>⟨0,?_⟩,λj v f e=>?_,λj hj=>⟨.slice none 0 0,?_⟩,λj v f e=>?_,λj hj=>?_,λj hj=>?_,λj hj=>?_,by omega,by omega,h3,by rw [show (w4.setCell ⟨eb,0,none⟩ (.bool true)).heap.size=w4.heap.size from by simp [World.setCell]];exact Nat.le_refl _,by omega,by omega,by omega⟩
 ·rw [gd j];by_cases q:0=j
  ·subst q;rw [if_pos rfl];exact zAQ (e1 0 hj) _
  ·rw [if_neg q,zAP _ _ _ q];exact e1 j hj
 ·rw [World.cell?_setCell_far _ _ _ _ (by show eb ≠ vb;omega)];exact v1 j hj
 ·have hj:j<n:=by have:=zEp e;simpa [Wc.sR] using this
  rw [gd j] at e;split at e
  ·cases e;rw [World.cell?_setCell_far _ _ _ _ (by show eb ≠ vb;omega)];exact v1 j hj
  ·cases e
 ·rw [World.cell?_setCell_far _ _ _ _ (by show eb ≠ fb;omega)];exact f1 j hj
 ·have hj:j<n:=by have:=zEp e;simpa [Wc.sR] using this
  rw [gd j] at e;split at e
  ·cases e;exact ⟨.slice none 0 0,by rw [World.cell?_setCell_far _ _ _ _ (by show eb ≠ fb;omega)];exact f1 j hj,RdZ.nil _,(λl c e=>by cases e;rfl),λg e=>by cases e⟩
  ·cases e
 ·rw [World.frozen?_setCell];exact v2 j hj
 ·rw [World.frozen?_setCell];exact f2 j hj
 ·rw [World.frozen?_setCell];exact e2 j hj
theorem zJ2 {L:List (Wc.In × List Int)} (hn:L.length=n) (h0:0<n):Wc.chkR rgt L=((L[n - 1]'(by omega)).1.op == 16 && Wc.runR (Wc.srI rgt n) 0 L (Wc.sR n)):=by
 subst hn;have e:L.getLast? = some (L[L.length - 1]'(by omega)):=by
  rw [List.getLast?_eq_getElem?,List.getElem?_eq_getElem (by omega)]
 unfold Wc.chkR;rw [e]
def goR (n i:Nat) (r:List (Wc.In × List Int)) (P:List (Int × (Int × List Int))) (S:Wc.RS):Bool:=match Wc.handR n i P S with
 | none=>false
 | some S2=>Wc.runR (Wc.srI rgt n) (i+1) r S2
theorem zGO {j:Int} (hj:j<=(i:Int) \/ (n:Int)<=j):goR n i r ((j,h)::P) S=false:=by
 unfold goR;simp only [Wc.handR,if_pos hj]
theorem zIf (hj:¬ ((j:Int)<=(i:Int) \/ (n:Int)<=(j:Int))) (hg:S.getD j none=none):goR n i r (((j:Int),h)::P) S=goR n i r P (S.set j (some h)):=by
 unfold goR;simp only [Wc.handR,if_neg hj,Int.toNat_natCast,hg]
theorem zJA (hj:¬ ((j:Int)<=(i:Int) \/ (n:Int)<=(j:Int))) (hg:S.getD j none=some h):goR n i r (((j:Int),h)::P) S=goR n i r P (S.set j (some h)):=by
 unfold goR;simp only [Wc.handR,if_neg hj,Int.toNat_natCast,hg,if_true]
theorem zFL {g:Int × List Int} (hj:¬ ((j:Int)<=(i:Int) \/ (n:Int)<=(j:Int))) (hg:S.getD j none=some g) (hne:g ≠ h):goR n i r (((j:Int),h)::P) S=false:=by
 unfold goR;simp only [Wc.handR,if_neg hj,Int.toNat_natCast,hg,if_neg hne]
theorem zHg (hg:S.getD i none=none):Wc.runR (Wc.srI rgt n) i ((y,tl)::r) S=false:=by
 have e:Wc.srI rgt n i (y,tl) S=none:=by
  unfold Wc.srI Wc.stepR;rw [hg];split <;> rfl
 simp only [Wc.runR,e]
theorem zJ3 (hr:rgt y tl=false):Wc.runR (Wc.srI rgt n) i ((y,tl)::r) S=false:=by
 have e:Wc.srI rgt n i (y,tl) S=none:=by
  unfold Wc.srI;simp [hr]
 simp only [Wc.runR,e]
theorem zBL (hg:S.getD i none=some (v,f)) (hs:¬ Wc.stand n i y.op y.b v f=true):Wc.runR (Wc.srI rgt n) i ((y,tl)::r) S=false:=by
 have e:Wc.srI rgt n i (y,tl) S=none:=by
  unfold Wc.srI Wc.stepR;rw [hg];simp only [if_neg hs];split <;> rfl
 simp only [Wc.runR,e]
theorem zIW (hr:rgt y tl=true) (hg:S.getD i none=some (v,f)) (hs:Wc.stand n i y.op y.b v f=true):Wc.runR (Wc.srI rgt n) i ((y,tl)::r) S=goR n i r (ahF y tl i v f) S:=by
 have e:Wc.srI rgt n i (y,tl) S=Wc.handR n i (ahF y tl i v f) S:=by
  unfold Wc.srI;rw [if_pos hr];exact zE7 hg hs
 simp only [Wc.runR,e];rfl
theorem stand_iff {b:Int}:Wc.stand n i o b v f=true ↔ ¬(o=16/\i+1<n)/\(Wc.nds o b).1<=v/\(Wc.nds o b).2.1<=f.length/\(o=16->v=1/\f.length=0)/\(o=8 \/ o=9->Wc.pairs (f.getLastD 0)=decide (o=9)):=by
 unfold Wc.stand;rw [decide_eq_true_eq]
theorem zIV (y:Wc.In) (tl:List Int) (i:Int):(aP y tl i).length<=tl.length+3:=by
 unfold aP Wc.ahd;repeat' split
 all_goals simp
theorem zCj {g off c:Nat} (h:RdZ w (.slice (some ⟨g,off,none⟩) f.length c) f) (hf:0<f.length):w.cell? ⟨g,off+(f.length - 1),none⟩=some (.int .i64 (f.getLastD 0)):=by
 obtain ⟨a,c2,e,k⟩:=h;obtain ⟨b,o,e2,h3⟩:=k (f.length - 1) (by omega);simp only [Value.slice.injEq] at e;rw [<-e.1] at e2;cases e2
 rw [h3];congr 2
 rw [List.getLastD_eq_getLast?,List.getLast?_eq_getElem?,List.getElem?_eq_getElem (by omega)];rfl
theorem zCB {r:Value} (h:RdZ w r f):∃ av c,r=.slice av f.length c/\(0<f.length->∃ g off,av=some ⟨g,off,none⟩):=by
 obtain ⟨a,c,e,k⟩:=h;refine ⟨a,c,e,λh0=>?_⟩;obtain ⟨b,o,e2,_⟩:=k 0 h0;exact ⟨b,o,e2⟩
theorem zI7 {m:Nat} (hk:k<m):((o == 12)=true/\(o == 15)=false/\(o == 14)=false/\(((k:Int) == (m:Int) - 1)=true/\zBM o k m=true \/ ((k:Int) == (m:Int) - 1)=false/\zBM o k m=false)) \/
  ((o == 12)=false/\(o == 15)=true/\(o == 14)=false/\(((k:Int) == (m:Int) - 1)=true/\zBM o k m=true \/ ((k:Int) == (m:Int) - 1)=false/\zBM o k m=false)) \/
  ((o == 12)=false/\(o == 15)=false/\(o == 14)=true/\(((k:Int) == 0)=true/\zBM o k m=true \/ ((k:Int) == 0)=false/\zBM o k m=false)) \/
  ((o == 12)=false/\(o == 15)=false/\(o == 14)=false/\zBM o k m=false):=by
 have hm:((k:Int) == (m:Int) - 1)=(k+1 == m):=by rw [Bool.eq_iff_iff,beq_iff_eq,beq_iff_eq];omega
 have h0:((k:Int) == 0)=(k == 0):=by rw [Bool.eq_iff_iff,beq_iff_eq,beq_iff_eq];omega
 rw [hm,h0];unfold zBM;by_cases h12:o=12
 ·subst h12;left;cases (k+1 == m) <;> simp
 ·by_cases h15:o=15
  ·subst h15;right;left;cases (k+1 == m) <;> simp
  ·by_cases h14:o=14
   ·subst h14;right;right;left;cases (k == 0) <;> simp
   ·right;right;right;simp [h12,h15,h14]
theorem zFJ (x:Wc.In) (tv:Value) (w:World) (hb:x.op=5 \/ x.op=11->0<=x.b/\x.b<=1000):CR 40 #[inV x tv] w (.tuple #[.int .i64 (Wc.nds x.op x.b).1,.int .i64 (Wc.nds x.op x.b).2.1,.int .i64 (Wc.nds x.op x.b).2.2]):=by
 have pA:=AtL.new0 w 52 (zAD x tv);have hB:=zAJ (Below.refl _ w) (.cells (zAD x tv).toArray 52);have c0:(w.alloc (.cells (zAD x tv).toArray 52)).cell? ⟨w.heap.size,0,none⟩=some (.int .i64 x.op):=pA.2.1 0 _ rfl;have c2:(w.alloc (.cells (zAD x tv).toArray 52)).cell? ⟨w.heap.size,2,none⟩=some (.int .i64 x.b):=pA.2.1 2 _ rfl;obtain ⟨q,hq⟩:∃ q,Wc.nds x.op x.b=q:=⟨_,rfl⟩
 rw [hq];have HQ:Hid (Wc.nds x.op x.b=q):=hq;clear hq pA;have HW:Hid (x.op=5 \/ x.op=11->IntKind.i64.wrap (1 - x.b)=1 - x.b):=λh=>by have:=hb h;rw [IntKind.wrap_i64];omega
 clear hb;rcases zD0 x.op with h | h | h | h | h | h | h | h | h | h | h | h | h | h | h | h | h
 case inr.inr.inr.inr.inr.inr.inr.inr.inr.inr.inr.inr.inr.inr.inr.inr =>
  have e:q=(0,0,0):=by
   have:=HQ.out;unfold Wc.nds at this;rw [<-this];repeat rw [if_neg (by omega)]
  have n1:(x.op == 1)=false:=by simp;omega
  have n2:(x.op == 2)=false:=by simp;omega
  have n3:(x.op == 3)=false:=by simp;omega
  have n4:(x.op == 4)=false:=by simp;omega
  have n5:(x.op == 5)=false:=by simp;omega
  have n6:(x.op == 6)=false:=by simp;omega
  have n7:(x.op == 7)=false:=by simp;omega
  have n8:(x.op == 8)=false:=by simp;omega
  have n9:(x.op == 9)=false:=by simp;omega
  have n10:(x.op == 10)=false:=by simp;omega
  have n11:(x.op == 11)=false:=by simp;omega
  have n12:(x.op == 12)=false:=by simp;omega
  have n13:(x.op == 13)=false:=by simp;omega
  have n14:(x.op == 14)=false:=by simp;omega
  have n15:(x.op == 15)=false:=by simp;omega
  have n16:(x.op == 16)=false:=by simp;omega
  clear HQ h;subst e;go_enter func40,ntmps40;go_upto_region 1 with fail
  generalize (w.alloc (.cells (zAD x tv).toArray 52))=W at *;go_wp2;refine bodyPost_ret (v:=.tuple #[.int .i64 0,.int .i64 0,.int .i64 0]) ?_ rfl ⟨rfl,hB⟩;simp [results,results40,go_sem]
 all_goals
  have hw:=λq=>HW.out q
  try replace hw:=hw (Or.inl h)
  try replace hw:=hw (Or.inr h)
  have e:=HQ.out;rw [h] at c0 e;subst e;clear HQ HW h;go_enter func40,ntmps40;go_upto_region 1 with fail
  generalize (w.alloc (.cells (zAD x tv).toArray 52))=W at *;go_wp2_with fail
  try (go_quiet (fail);go_wp2_with fail)
  refine bodyPost_ret (v:=.tuple #[.int .i64 (Wc.nds _ x.b).1,.int .i64 (Wc.nds _ x.b).2.1,.int .i64 (Wc.nds _ x.b).2.2]) ?_ rfl ⟨rfl,(clB hB)⟩;simp [results,results40,go_sem,Wc.nds]
