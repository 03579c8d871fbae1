/- KRBndP. -/
import Derived.Test.YtefkclbaflkheaaGreatDoorQ39
set_option maxHeartbeats 400000
set_option maxRecDepth 100000
namespace Go.Proofs.YtefkclbaflkheaaGreatDoor
open Go.RowKit
set_option linter.unusedVariables false
variable {D:BD} {w w':World} {lb mb n i:Nat} {b1 b2:Int}
structure AtR (w:World) (lb mb n:Nat) (D:BD):Prop where
 len:D.length=n
 at':∀ j:Nat,j<n->w.cell? ⟨lb,j,none⟩=some (.int .i64 (bat D (j:Int)).1)/\w.cell? ⟨mb,j,none⟩=some (.int .i64 (bat D (j:Int)).2)
 fz:∀ j:Nat,j<n->w.frozen? ⟨lb,j,none⟩=false/\w.frozen? ⟨mb,j,none⟩=false
 ne:lb ≠ mb
theorem AtR.fr {S:List Nat} (h:AtR w lb mb n D) (hf:Fr S w w') (h1:lb ∉ S) (h2:mb ∉ S):AtR w' lb mb n D :=
 ⟨h.len,λj hj=>⟨hf.cell (h.at' j hj).1 h1,hf.cell (h.at' j hj).2 h2⟩,λj hj=>⟨by rw [hf.frozen (zAV (h.at' j hj).1) h1];exact (h.fz j hj).1,by rw [hf.frozen (zAV (h.at' j hj).2) h2];exact (h.fz j hj).2⟩,h.ne⟩
theorem AtR.below (h:AtR w lb mb n D) (hb:Below w.heap.size w w'):AtR w' lb mb n D:=h.fr (Fr.of_below [] hb) (by simp) (by simp)
theorem AtR.same {E:BD} (h:AtR w lb mb n D) (hl:E.length=n) (he:∀ j:Nat,j<n->bat E (j:Int)=bat D (j:Int)):AtR w lb mb n E:=⟨hl,λj hj=>by rw [he j hj];exact h.at' j hj,h.fz,h.ne⟩
theorem AtR.setL (h:AtR w lb mb n (D.set i (b1,b2))) (hi:i<n) (c:Int):AtR (w.setCell ⟨lb,i,none⟩ (.int .i64 c)) lb mb n (D.set i (c,b2)):=by
 have hl:D.length=n:=by have:=h.len;simpa using this
 refine ⟨by simpa using hl,λj hj=>?_,λj hj=>by rw [World.frozen?_setCell,World.frozen?_setCell];exact h.fz j hj,h.ne⟩;obtain ⟨c0,c1⟩:=h.at' j hj;rw [zBP (by rw [hl];exact hi)] at c0 c1 ⊢;refine ⟨?_,?_⟩
 ·by_cases e:i=j
  ·subst e;rw [if_pos rfl] at c0 ⊢;exact zAQ c0 _
  ·rw [if_neg e] at c0 ⊢;rw [zAM _ _ _ e];exact c0
 ·have:=fr_one (w:=w) (mk:=lb) (i1:=i) (v1:=.int .i64 c);have c2:=this.cell c1 (by simpa using h.ne.symm);by_cases e:i=j
  ·rw [if_pos e] at c2 ⊢;exact c2
  ·rw [if_neg e] at c2 ⊢;exact c2
theorem AtR.setM (h:AtR w lb mb n (D.set i (b1,b2))) (hi:i<n) (c:Int):AtR (w.setCell ⟨mb,i,none⟩ (.int .i64 c)) lb mb n (D.set i (b1,c)):=by
 have hl:D.length=n:=by have:=h.len;simpa using this
 refine ⟨by simpa using hl,λj hj=>?_,λj hj=>by rw [World.frozen?_setCell,World.frozen?_setCell];exact h.fz j hj,h.ne⟩;obtain ⟨c0,c1⟩:=h.at' j hj;rw [zBP (by rw [hl];exact hi)] at c0 c1 ⊢;refine ⟨?_,?_⟩
 ·have:=fr_one (w:=w) (mk:=mb) (i1:=i) (v1:=.int .i64 c);have c2:=this.cell c0 (by simpa using h.ne);by_cases e:i=j
  ·rw [if_pos e] at c2 ⊢;exact c2
  ·rw [if_neg e] at c2 ⊢;exact c2
 ·by_cases e:i=j
  ·subst e;rw [if_pos rfl] at c1 ⊢;exact zAQ c1 _
  ·rw [if_neg e] at c1 ⊢;rw [zAM _ _ _ e];exact c1
theorem zET (st:Nat->BD->Int × Int) (n:Nat):∀ (c i:Nat),i+c<n->bat (bkL st n c) (i:Int)=(0,0)
 | 0,i,_=>zD4 n _
 | c+1,i,h=>by
  show bat ((bkL st n c).set (n - 1 - c) (st (n - 1 - c) (bkL st n c))) (i:Int)=_
  rw [zBP (by rw [zDx];omega),if_neg (by omega)];exact zET st n c i (by omega)
theorem AtR.start (h:AtR w lb mb n D) (hi:i<n) (hz:bat D (i:Int)=(0,0)):AtR w lb mb n (D.set i (0,0)) :=
 h.same (by rw [List.length_set];exact h.len) λj hj=>by
  rw [zBP (by rw [h.len];exact hi)];split
  ·rename_i e;rw [<-e,hz]
  ·rfl
theorem zGD {c:Nat} (h:BInv c D) {b1 b2:Int} (k:Nat) (j:Int) (hb:0<=b1/\b1<=(c:Int)/\0<=b2/\b2<=(c:Int) * 33554432):0<=(if k=0 \/ (bat D j).1<b1 then (bat D j).1 else b1)/\(if k=0 \/ (bat D j).1<b1 then (bat D j).1 else b1)<=(c:Int)/\0<=max b2 (bat D j).2/\max b2 (bat D j).2<=(c:Int) * 33554432:=by
 have:=h j;refine ⟨?_,?_,by omega,by omega⟩ <;> split <;> omega
theorem zFY (L:List (Wc.In × List Int)) {n i:Nat} (hn:L.length=n) (hi:i<n):bkL (stA L) n (n - i)=(bkL (stA L) n (n - (i+1))).set i (zMF (L[i]'(by omega)).1 (aP (L[i]'(by omega)).1 (L[i]'(by omega)).2 i) (bkL (stA L) n (n - (i+1)))):=by
 rw [zEW L hn hi,zLM,zLV (λj=>(zC3 L hn (n - (i+1)) (by omega) j).2.2.1) (λe=>zLy e)]
