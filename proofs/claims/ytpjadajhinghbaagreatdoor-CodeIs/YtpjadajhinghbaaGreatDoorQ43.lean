/- KSArg. -/
import Derived.Test.YtpjadajhinghbaaGreatDoorQ42
set_option maxHeartbeats 400000
set_option maxRecDepth 100000
namespace Go.Proofs.YtpjadajhinghbaaGreatDoor
open Tryz
open Go.ChangeShapes Go.WideShapes Go.ChangeAt Go.RowKit Go.Joins Go.Deep
set_option linter.unusedVariables false
theorem zSG:prog.cellsOf 9=1:=by kernel_rfl
theorem zSC:prog.bytesOf 9=16:=by kernel_rfl
section
variable {H:Type} {enc:TypeId × Value->H}
theorem zMe {m:Nat} {p:Nat->ByteArray->Prop} (h:∀ i,i<m->∃ v,p i v):∃ G:Nat->ByteArray,∀ i,i<m->p i (G i):=by
 classical
 refine ⟨λi=>if hi:i<m then Classical.choose (h i hi) else ⟨#[]⟩,λi hi=>?_⟩;dsimp only;rw [dif_pos hi];exact Classical.choose_spec (h i hi)
theorem zJj {W:World} {r:Reach} {b0:Nat} {v:Value} {d:DataW H} {p:List MemPlace}
  (hv:Value.okWide prog W r b0 25 v) (h:DataW.Trod enc prog W 0 (λ_=>true) true 25 v d p) :
  ∃ (L:List ByteArray) (av:Option Addr) (cap:Nat),v=.slice av L.length cap/\RdS W av L/\(av=none->L.length=0/\cap=0)/\L.length<=cap /\
   ∀ (ts0:List TypeId) (ds:List (DataW H)) (j:Nat),(DataW.weightsEach prog ts0 ds).all (· <= reachBytes)=true->ts0[j]? = some 25->ds[j]? = some d->L.length * 16<=reachBytes:=by
 obtain ⟨a0,len,cap,rfl⟩:=okWide_slice underlying25 hv;obtain ⟨fuel,hg⟩:=h;rcases open_slice underlying25 hg with ⟨hcs,hx⟩ | ⟨a,len',cap',m,n,D,Pl,hcs,hb,hl,hm,hmm,hx,hall⟩
 ·simp [Value.cells] at hcs;obtain ⟨rfl,rfl,rfl⟩:=hcs;exact ⟨[],none,0,rfl,λi hi=>absurd hi (Nat.not_lt_zero _),λ_=>⟨rfl,rfl⟩,Nat.le_refl _,(λ_ _ _ _ _ _=>by simp)⟩
 ·simp [Value.cells] at hcs;obtain ⟨rfl,rfl,rfl⟩:=hcs;simp only [if_true] at hmm;subst hmm;have each:∀ i,i<m->∃ y:ByteArray,W.cell? (a.add i)=some (.string y):=by
   intro i hi;obtain ⟨cs',h1,h2⟩:=hall i hi;rw [zSG] at h1;obtain ⟨_,hlen,hcell⟩:=World.cells?_some h1;obtain ⟨s,e,_,_⟩:=DataW.trod_string underlying9 h2;subst e;have:=hcell 0 (by omega);rw [add_add,Nat.mul_one,Nat.add_zero] at this;exact ⟨s,this⟩
  obtain ⟨G,hG⟩:=zMe each;have hlen:((List.range len).map G).length=len:=by simp
  refine ⟨(List.range len).map G,some a,m,by rw [hlen],λi hi=>?_,(λh=>by cases h),by rw [hlen];exact hl,λts0 ds j hz h1 h2=>?_⟩
  ·rw [hlen] at hi;have h1:=hG i (by omega);have s1:(a.add 0).spot=none:=World.cell?_spot (hG 0 (by omega));obtain ⟨b,off,spot⟩:=a;obtain rfl:spot=none:=s1;refine ⟨b,off,rfl,?_⟩;have eG:((List.range len).map G)[i]'(by rw [hlen];exact hi)=G i:=by simp
   rw [eG];rw [add_plain] at h1;exact h1
  ·have q:=sized_slice hz h1 (by rw [h2];exact congrArg some (congrArg Prod.fst hx)) underlying25;rw [zSC] at q;simp only [List.length_map,List.length_range] at q;rw [hlen];exact Nat.le_trans (Nat.mul_le_mul_right _ (by omega)) q
end
