/- TQOp, TQLev. -/
import Derived.Test.YtdghjlmnlodnlaaGreatDoorQ30
set_option maxHeartbeats 3200000
set_option maxRecDepth 100000
namespace Go.Proofs.YtdghjlmnlodnlaaGreatDoor
open Tryz
open Go.RowKit Go.Shelf
set_option linter.unusedVariables false
variable {w w':World} {tn lo kp:Nat} {en E Bad:Int} {v:Value} {sub:List Wlx.TV->PR}
def oW:Nat->List Value
 | 0=>[.string ⟨#[61]⟩,.string ⟨#[60,62]⟩,.string ⟨#[60]⟩,.string ⟨#[60,61]⟩,.string ⟨#[62]⟩,.string ⟨#[62,61]⟩]
 | 1=>[.string ⟨#[38]⟩]
 | 2=>[.string ⟨#[43]⟩,.string ⟨#[45]⟩]
 | 3=>[.string ⟨#[42]⟩,.string ⟨#[47]⟩]
 | _=>[.string ⟨#[94]⟩]
def oO:Nat->List Value
 | 0=>[.int .i64 21,.int .i64 22,.int .i64 23,.int .i64 24,.int .i64 25,.int .i64 26]
 | 1=>[.int .i64 16]
 | 2=>[.int .i64 11,.int .i64 12]
 | 3=>[.int .i64 13,.int .i64 14]
 | _=>[.int .i64 15]
def oN:Nat->Nat
 | 0=>6
 | 1=>1
 | 2=>2
 | 3=>2
 | _=>1
def oas (m:List UInt8) (k:Int):Int:=match Wt.opAs m k with
 | some o=>o.1
 | none=>0
def zOh (k:Nat) (m:List UInt8) (j:Nat) (r:Int):Prop:=j<=oN k/\(∀ i,i<j->∃ q:List UInt8,(oW k)[i]? = some (.string ⟨q.toArray⟩)/\¬ q=m)/\((j=oN k/\r=0) \/ (j<oN k/\(oW k)[j]? = some (.string ⟨m.toArray⟩)/\(oO k)[j]? = some (.int .i64 r)))
theorem zPj (m:List UInt8):∃ j,zOh 0 m j (oas m 0):=by
 by_cases h0:m=[61]
 ·rw [h0];refine ⟨0,by decide,λi hi=>?_,Or.inr ⟨by decide,rfl,by rfl⟩⟩;exact absurd hi (Nat.not_lt_zero _)
 by_cases h1:m=[60,62]
 ·rw [h1];refine ⟨1,by decide,λi hi=>?_,Or.inr ⟨by decide,rfl,by rfl⟩⟩;match i,hi with
  | 0,_=>exact ⟨[61],rfl,by decide⟩
  | i+1,hi=>omega
 by_cases h2:m=[60]
 ·rw [h2];refine ⟨2,by decide,λi hi=>?_,Or.inr ⟨by decide,rfl,by rfl⟩⟩;match i,hi with
  | 0,_=>exact ⟨[61],rfl,by decide⟩
  | 1,_=>exact ⟨[60,62],rfl,by decide⟩
  | i+2,hi=>omega
 by_cases h3:m=[60,61]
 ·rw [h3];refine ⟨3,by decide,λi hi=>?_,Or.inr ⟨by decide,rfl,by rfl⟩⟩;match i,hi with
  | 0,_=>exact ⟨[61],rfl,by decide⟩
  | 1,_=>exact ⟨[60,62],rfl,by decide⟩
  | 2,_=>exact ⟨[60],rfl,by decide⟩
  | i+3,hi=>omega
 by_cases h4:m=[62]
 ·rw [h4];refine ⟨4,by decide,λi hi=>?_,Or.inr ⟨by decide,rfl,by rfl⟩⟩;match i,hi with
  | 0,_=>exact ⟨[61],rfl,by decide⟩
  | 1,_=>exact ⟨[60,62],rfl,by decide⟩
  | 2,_=>exact ⟨[60],rfl,by decide⟩
  | 3,_=>exact ⟨[60,61],rfl,by decide⟩
  | i+4,hi=>omega
 by_cases h5:m=[62,61]
 ·rw [h5];refine ⟨5,by decide,λi hi=>?_,Or.inr ⟨by decide,rfl,by rfl⟩⟩;match i,hi with
  | 0,_=>exact ⟨[61],rfl,by decide⟩
  | 1,_=>exact ⟨[60,62],rfl,by decide⟩
  | 2,_=>exact ⟨[60],rfl,by decide⟩
  | 3,_=>exact ⟨[60,61],rfl,by decide⟩
  | 4,_=>exact ⟨[62],rfl,by decide⟩
  | i+5,hi=>omega
 ·have e:oas m 0=0:=by
   have:Wt.opAs m 0=none:=by
    unfold Wt.opAs Wt.opsT;simp [ne_comm.1 h0,ne_comm.1 h1,ne_comm.1 h2,ne_comm.1 h3,ne_comm.1 h4,ne_comm.1 h5]
   unfold oas;rw [this]
  rw [e];refine ⟨6,by decide,λi hi=>?_,Or.inl ⟨rfl,rfl⟩⟩;match i,hi with
  | 0,_=>exact ⟨[61],rfl,λe=>h0 e.symm⟩
  | 1,_=>exact ⟨[60,62],rfl,λe=>h1 e.symm⟩
  | 2,_=>exact ⟨[60],rfl,λe=>h2 e.symm⟩
  | 3,_=>exact ⟨[60,61],rfl,λe=>h3 e.symm⟩
  | 4,_=>exact ⟨[62],rfl,λe=>h4 e.symm⟩
  | 5,_=>exact ⟨[62,61],rfl,λe=>h5 e.symm⟩
  | i+6,hi=>omega
theorem zPE (m:List UInt8):∃ j,zOh 1 m j (oas m 1):=by
 by_cases h0:m=[38]
 ·rw [h0];refine ⟨0,by decide,λi hi=>?_,Or.inr ⟨by decide,rfl,by rfl⟩⟩;exact absurd hi (Nat.not_lt_zero _)
 ·have e:oas m 1=0:=by
   have:Wt.opAs m 1=none:=by
    unfold Wt.opAs Wt.opsT;simp [ne_comm.1 h0]
   unfold oas;rw [this]
  rw [e];refine ⟨1,by decide,λi hi=>?_,Or.inl ⟨rfl,rfl⟩⟩;match i,hi with
  | 0,_=>exact ⟨[38],rfl,λe=>h0 e.symm⟩
  | i+1,hi=>omega
theorem zQC (m:List UInt8):∃ j,zOh 2 m j (oas m 2):=by
 by_cases h0:m=[43]
 ·rw [h0];refine ⟨0,by decide,λi hi=>?_,Or.inr ⟨by decide,rfl,by rfl⟩⟩;exact absurd hi (Nat.not_lt_zero _)
 by_cases h1:m=[45]
 ·rw [h1];refine ⟨1,by decide,λi hi=>?_,Or.inr ⟨by decide,rfl,by rfl⟩⟩;match i,hi with
  | 0,_=>exact ⟨[43],rfl,by decide⟩
  | i+1,hi=>omega
 ·have e:oas m 2=0:=by
   have:Wt.opAs m 2=none:=by
    unfold Wt.opAs Wt.opsT;simp [ne_comm.1 h0,ne_comm.1 h1]
   unfold oas;rw [this]
  rw [e];refine ⟨2,by decide,λi hi=>?_,Or.inl ⟨rfl,rfl⟩⟩;match i,hi with
  | 0,_=>exact ⟨[43],rfl,λe=>h0 e.symm⟩
  | 1,_=>exact ⟨[45],rfl,λe=>h1 e.symm⟩
  | i+2,hi=>omega
theorem zOy (m:List UInt8):∃ j,zOh 3 m j (oas m 3):=by
 by_cases h0:m=[42]
 ·rw [h0];refine ⟨0,by decide,λi hi=>?_,Or.inr ⟨by decide,rfl,by rfl⟩⟩;exact absurd hi (Nat.not_lt_zero _)
 by_cases h1:m=[47]
 ·rw [h1];refine ⟨1,by decide,λi hi=>?_,Or.inr ⟨by decide,rfl,by rfl⟩⟩;match i,hi with
  | 0,_=>exact ⟨[42],rfl,by decide⟩
  | i+1,hi=>omega
 ·have e:oas m 3=0:=by
   have:Wt.opAs m 3=none:=by
    unfold Wt.opAs Wt.opsT;simp [ne_comm.1 h0,ne_comm.1 h1]
   unfold oas;rw [this]
  rw [e];refine ⟨2,by decide,λi hi=>?_,Or.inl ⟨rfl,rfl⟩⟩;match i,hi with
  | 0,_=>exact ⟨[42],rfl,λe=>h0 e.symm⟩
  | 1,_=>exact ⟨[47],rfl,λe=>h1 e.symm⟩
  | i+2,hi=>omega
theorem zOp (m:List UInt8):∃ j,zOh 4 m j (oas m 4):=by
 by_cases h0:m=[94]
 ·rw [h0];refine ⟨0,by decide,λi hi=>?_,Or.inr ⟨by decide,rfl,by rfl⟩⟩;exact absurd hi (Nat.not_lt_zero _)
 ·have e:oas m 4=0:=by
   have:Wt.opAs m 4=none:=by
    unfold Wt.opAs Wt.opsT;simp [ne_comm.1 h0]
   unfold oas;rw [this]
  rw [e];refine ⟨1,by decide,λi hi=>?_,Or.inl ⟨rfl,rfl⟩⟩;match i,hi with
  | 0,_=>exact ⟨[94],rfl,λe=>h0 e.symm⟩
  | i+1,hi=>omega
theorem zLI (k:Nat) (hk:k<5) (m:List UInt8):∃ j,zOh k m j (oas m k):=by
 match k,hk with
 | 0,_=>exact zPj m
 | 1,_=>exact zPE m
 | 2,_=>exact zQC m
 | 3,_=>exact zOy m
 | 4,_=>exact zOp m
 | k+5,hk=>omega
theorem zME (w:World) (k:Nat) (hk:k<5):∃ rb ob,((((((((((((w.alloc (.cells #[.string ⟨#[61]⟩,.string ⟨#[60,62]⟩,.string ⟨#[60]⟩,.string ⟨#[60,61]⟩,.string ⟨#[62]⟩,.string ⟨#[62,61]⟩] 9)).alloc (.cells #[.string ⟨#[38]⟩] 9)).alloc (.cells #[.string ⟨#[43]⟩,.string ⟨#[45]⟩] 9)).alloc (.cells #[.string ⟨#[42]⟩,.string ⟨#[47]⟩] 9)).alloc (.cells #[.string ⟨#[94]⟩] 9)).alloc (.cells #[.slice (some ⟨w.heap.size,0,none⟩) 6 6,.slice (some ⟨w.heap.size+1,0,none⟩) 1 1,.slice (some ⟨w.heap.size+2,0,none⟩) 2 2,.slice (some ⟨w.heap.size+3,0,none⟩) 2 2,.slice (some ⟨w.heap.size+4,0,none⟩) 1 1] 43)).alloc (.cells #[.int .i64 21,.int .i64 22,.int .i64 23,.int .i64 24,.int .i64 25,.int .i64 26] 3)).alloc (.cells #[.int .i64 16] 3)).alloc (.cells #[.int .i64 11,.int .i64 12] 3)).alloc (.cells #[.int .i64 13,.int .i64 14] 3)).alloc (.cells #[.int .i64 15] 3)).alloc (.cells #[.slice (some ⟨w.heap.size+6,0,none⟩) 6 6,.slice (some ⟨w.heap.size+7,0,none⟩) 1 1,.slice (some ⟨w.heap.size+8,0,none⟩) 2 2,.slice (some ⟨w.heap.size+9,0,none⟩) 2 2,.slice (some ⟨w.heap.size+10,0,none⟩) 1 1] 121)).cell? ⟨w.heap.size+5,k,none⟩=some (.slice (some ⟨rb,0,none⟩) (oN k) (oN k))/\((((((((((((w.alloc (.cells #[.string ⟨#[61]⟩,.string ⟨#[60,62]⟩,.string ⟨#[60]⟩,.string ⟨#[60,61]⟩,.string ⟨#[62]⟩,.string ⟨#[62,61]⟩] 9)).alloc (.cells #[.string ⟨#[38]⟩] 9)).alloc (.cells #[.string ⟨#[43]⟩,.string ⟨#[45]⟩] 9)).alloc (.cells #[.string ⟨#[42]⟩,.string ⟨#[47]⟩] 9)).alloc (.cells #[.string ⟨#[94]⟩] 9)).alloc (.cells #[.slice (some ⟨w.heap.size,0,none⟩) 6 6,.slice (some ⟨w.heap.size+1,0,none⟩) 1 1,.slice (some ⟨w.heap.size+2,0,none⟩) 2 2,.slice (some ⟨w.heap.size+3,0,none⟩) 2 2,.slice (some ⟨w.heap.size+4,0,none⟩) 1 1] 43)).alloc (.cells #[.int .i64 21,.int .i64 22,.int .i64 23,.int .i64 24,.int .i64 25,.int .i64 26] 3)).alloc (.cells #[.int .i64 16] 3)).alloc (.cells #[.int .i64 11,.int .i64 12] 3)).alloc (.cells #[.int .i64 13,.int .i64 14] 3)).alloc (.cells #[.int .i64 15] 3)).alloc (.cells #[.slice (some ⟨w.heap.size+6,0,none⟩) 6 6,.slice (some ⟨w.heap.size+7,0,none⟩) 1 1,.slice (some ⟨w.heap.size+8,0,none⟩) 2 2,.slice (some ⟨w.heap.size+9,0,none⟩) 2 2,.slice (some ⟨w.heap.size+10,0,none⟩) 1 1] 121)).cell? ⟨w.heap.size+11,k,none⟩=some (.slice (some ⟨ob,0,none⟩) (oN k) (oN k))/\(∀ i v,(oW k)[i]? = some v->((((((((((((w.alloc (.cells #[.string ⟨#[61]⟩,.string ⟨#[60,62]⟩,.string ⟨#[60]⟩,.string ⟨#[60,61]⟩,.string ⟨#[62]⟩,.string ⟨#[62,61]⟩] 9)).alloc (.cells #[.string ⟨#[38]⟩] 9)).alloc (.cells #[.string ⟨#[43]⟩,.string ⟨#[45]⟩] 9)).alloc (.cells #[.string ⟨#[42]⟩,.string ⟨#[47]⟩] 9)).alloc (.cells #[.string ⟨#[94]⟩] 9)).alloc (.cells #[.slice (some ⟨w.heap.size,0,none⟩) 6 6,.slice (some ⟨w.heap.size+1,0,none⟩) 1 1,.slice (some ⟨w.heap.size+2,0,none⟩) 2 2,.slice (some ⟨w.heap.size+3,0,none⟩) 2 2,.slice (some ⟨w.heap.size+4,0,none⟩) 1 1] 43)).alloc (.cells #[.int .i64 21,.int .i64 22,.int .i64 23,.int .i64 24,.int .i64 25,.int .i64 26] 3)).alloc (.cells #[.int .i64 16] 3)).alloc (.cells #[.int .i64 11,.int .i64 12] 3)).alloc (.cells #[.int .i64 13,.int .i64 14] 3)).alloc (.cells #[.int .i64 15] 3)).alloc (.cells #[.slice (some ⟨w.heap.size+6,0,none⟩) 6 6,.slice (some ⟨w.heap.size+7,0,none⟩) 1 1,.slice (some ⟨w.heap.size+8,0,none⟩) 2 2,.slice (some ⟨w.heap.size+9,0,none⟩) 2 2,.slice (some ⟨w.heap.size+10,0,none⟩) 1 1] 121)).cell? ⟨rb,i,none⟩=some v)/\(∀ i v,(oO k)[i]? = some v->((((((((((((w.alloc (.cells #[.string ⟨#[61]⟩,.string ⟨#[60,62]⟩,.string ⟨#[60]⟩,.string ⟨#[60,61]⟩,.string ⟨#[62]⟩,.string ⟨#[62,61]⟩] 9)).alloc (.cells #[.string ⟨#[38]⟩] 9)).alloc (.cells #[.string ⟨#[43]⟩,.string ⟨#[45]⟩] 9)).alloc (.cells #[.string ⟨#[42]⟩,.string ⟨#[47]⟩] 9)).alloc (.cells #[.string ⟨#[94]⟩] 9)).alloc (.cells #[.slice (some ⟨w.heap.size,0,none⟩) 6 6,.slice (some ⟨w.heap.size+1,0,none⟩) 1 1,.slice (some ⟨w.heap.size+2,0,none⟩) 2 2,.slice (some ⟨w.heap.size+3,0,none⟩) 2 2,.slice (some ⟨w.heap.size+4,0,none⟩) 1 1] 43)).alloc (.cells #[.int .i64 21,.int .i64 22,.int .i64 23,.int .i64 24,.int .i64 25,.int .i64 26] 3)).alloc (.cells #[.int .i64 16] 3)).alloc (.cells #[.int .i64 11,.int .i64 12] 3)).alloc (.cells #[.int .i64 13,.int .i64 14] 3)).alloc (.cells #[.int .i64 15] 3)).alloc (.cells #[.slice (some ⟨w.heap.size+6,0,none⟩) 6 6,.slice (some ⟨w.heap.size+7,0,none⟩) 1 1,.slice (some ⟨w.heap.size+8,0,none⟩) 2 2,.slice (some ⟨w.heap.size+9,0,none⟩) 2 2,.slice (some ⟨w.heap.size+10,0,none⟩) 1 1] 121)).cell? ⟨ob,i,none⟩=some v):=by
 have pR:=(AtL.alloc (AtL.alloc (AtL.alloc (AtL.alloc (AtL.alloc (AtL.alloc (AtL.new (((((w.alloc (.cells #[.string ⟨#[61]⟩,.string ⟨#[60,62]⟩,.string ⟨#[60]⟩,.string ⟨#[60,61]⟩,.string ⟨#[62]⟩,.string ⟨#[62,61]⟩] 9)).alloc (.cells #[.string ⟨#[38]⟩] 9)).alloc (.cells #[.string ⟨#[43]⟩,.string ⟨#[45]⟩] 9)).alloc (.cells #[.string ⟨#[42]⟩,.string ⟨#[47]⟩] 9)).alloc (.cells #[.string ⟨#[94]⟩] 9)) 43 (k:=w.heap.size+5) (by simp) [.slice (some ⟨w.heap.size,0,none⟩) 6 6,.slice (some ⟨w.heap.size+1,0,none⟩) 1 1,.slice (some ⟨w.heap.size+2,0,none⟩) 2 2,.slice (some ⟨w.heap.size+3,0,none⟩) 2 2,.slice (some ⟨w.heap.size+4,0,none⟩) 1 1]) (.cells #[.int .i64 21,.int .i64 22,.int .i64 23,.int .i64 24,.int .i64 25,.int .i64 26] 3)) (.cells #[.int .i64 16] 3)) (.cells #[.int .i64 11,.int .i64 12] 3)) (.cells #[.int .i64 13,.int .i64 14] 3)) (.cells #[.int .i64 15] 3)) (.cells #[.slice (some ⟨w.heap.size+6,0,none⟩) 6 6,.slice (some ⟨w.heap.size+7,0,none⟩) 1 1,.slice (some ⟨w.heap.size+8,0,none⟩) 2 2,.slice (some ⟨w.heap.size+9,0,none⟩) 2 2,.slice (some ⟨w.heap.size+10,0,none⟩) 1 1] 121))
 have pO:=(AtL.new (((((((((((w.alloc (.cells #[.string ⟨#[61]⟩,.string ⟨#[60,62]⟩,.string ⟨#[60]⟩,.string ⟨#[60,61]⟩,.string ⟨#[62]⟩,.string ⟨#[62,61]⟩] 9)).alloc (.cells #[.string ⟨#[38]⟩] 9)).alloc (.cells #[.string ⟨#[43]⟩,.string ⟨#[45]⟩] 9)).alloc (.cells #[.string ⟨#[42]⟩,.string ⟨#[47]⟩] 9)).alloc (.cells #[.string ⟨#[94]⟩] 9)).alloc (.cells #[.slice (some ⟨w.heap.size,0,none⟩) 6 6,.slice (some ⟨w.heap.size+1,0,none⟩) 1 1,.slice (some ⟨w.heap.size+2,0,none⟩) 2 2,.slice (some ⟨w.heap.size+3,0,none⟩) 2 2,.slice (some ⟨w.heap.size+4,0,none⟩) 1 1] 43)).alloc (.cells #[.int .i64 21,.int .i64 22,.int .i64 23,.int .i64 24,.int .i64 25,.int .i64 26] 3)).alloc (.cells #[.int .i64 16] 3)).alloc (.cells #[.int .i64 11,.int .i64 12] 3)).alloc (.cells #[.int .i64 13,.int .i64 14] 3)).alloc (.cells #[.int .i64 15] 3)) 121 (k:=w.heap.size+11) (by simp) [.slice (some ⟨w.heap.size+6,0,none⟩) 6 6,.slice (some ⟨w.heap.size+7,0,none⟩) 1 1,.slice (some ⟨w.heap.size+8,0,none⟩) 2 2,.slice (some ⟨w.heap.size+9,0,none⟩) 2 2,.slice (some ⟨w.heap.size+10,0,none⟩) 1 1])
 match k,hk with
 | 0,_=>exact ⟨w.heap.size,w.heap.size+6,pR.2.1 0 _ rfl,pO.2.1 0 _ rfl,(AtL.alloc (AtL.alloc (AtL.alloc (AtL.alloc (AtL.alloc (AtL.alloc (AtL.alloc (AtL.alloc (AtL.alloc (AtL.alloc (AtL.alloc (AtL.new w 9 (k:=w.heap.size) (by rfl) [.string ⟨#[61]⟩,.string ⟨#[60,62]⟩,.string ⟨#[60]⟩,.string ⟨#[60,61]⟩,.string ⟨#[62]⟩,.string ⟨#[62,61]⟩]) (.cells #[.string ⟨#[38]⟩] 9)) (.cells #[.string ⟨#[43]⟩,.string ⟨#[45]⟩] 9)) (.cells #[.string ⟨#[42]⟩,.string ⟨#[47]⟩] 9)) (.cells #[.string ⟨#[94]⟩] 9)) (.cells #[.slice (some ⟨w.heap.size,0,none⟩) 6 6,.slice (some ⟨w.heap.size+1,0,none⟩) 1 1,.slice (some ⟨w.heap.size+2,0,none⟩) 2 2,.slice (some ⟨w.heap.size+3,0,none⟩) 2 2,.slice (some ⟨w.heap.size+4,0,none⟩) 1 1] 43)) (.cells #[.int .i64 21,.int .i64 22,.int .i64 23,.int .i64 24,.int .i64 25,.int .i64 26] 3)) (.cells #[.int .i64 16] 3)) (.cells #[.int .i64 11,.int .i64 12] 3)) (.cells #[.int .i64 13,.int .i64 14] 3)) (.cells #[.int .i64 15] 3)) (.cells #[.slice (some ⟨w.heap.size+6,0,none⟩) 6 6,.slice (some ⟨w.heap.size+7,0,none⟩) 1 1,.slice (some ⟨w.heap.size+8,0,none⟩) 2 2,.slice (some ⟨w.heap.size+9,0,none⟩) 2 2,.slice (some ⟨w.heap.size+10,0,none⟩) 1 1] 121)).2.1,(AtL.alloc (AtL.alloc (AtL.alloc (AtL.alloc (AtL.alloc (AtL.new ((((((w.alloc (.cells #[.string ⟨#[61]⟩,.string ⟨#[60,62]⟩,.string ⟨#[60]⟩,.string ⟨#[60,61]⟩,.string ⟨#[62]⟩,.string ⟨#[62,61]⟩] 9)).alloc (.cells #[.string ⟨#[38]⟩] 9)).alloc (.cells #[.string ⟨#[43]⟩,.string ⟨#[45]⟩] 9)).alloc (.cells #[.string ⟨#[42]⟩,.string ⟨#[47]⟩] 9)).alloc (.cells #[.string ⟨#[94]⟩] 9)).alloc (.cells #[.slice (some ⟨w.heap.size,0,none⟩) 6 6,.slice (some ⟨w.heap.size+1,0,none⟩) 1 1,.slice (some ⟨w.heap.size+2,0,none⟩) 2 2,.slice (some ⟨w.heap.size+3,0,none⟩) 2 2,.slice (some ⟨w.heap.size+4,0,none⟩) 1 1] 43)) 3 (k:=w.heap.size+6) (by simp) [.int .i64 21,.int .i64 22,.int .i64 23,.int .i64 24,.int .i64 25,.int .i64 26]) (.cells #[.int .i64 16] 3)) (.cells #[.int .i64 11,.int .i64 12] 3)) (.cells #[.int .i64 13,.int .i64 14] 3)) (.cells #[.int .i64 15] 3)) (.cells #[.slice (some ⟨w.heap.size+6,0,none⟩) 6 6,.slice (some ⟨w.heap.size+7,0,none⟩) 1 1,.slice (some ⟨w.heap.size+8,0,none⟩) 2 2,.slice (some ⟨w.heap.size+9,0,none⟩) 2 2,.slice (some ⟨w.heap.size+10,0,none⟩) 1 1] 121)).2.1⟩
 | 1,_=>exact ⟨w.heap.size+1,w.heap.size+7,pR.2.1 1 _ rfl,pO.2.1 1 _ rfl,(AtL.alloc (AtL.alloc (AtL.alloc (AtL.alloc (AtL.alloc (AtL.alloc (AtL.alloc (AtL.alloc (AtL.alloc (AtL.alloc (AtL.new (w.alloc (.cells #[.string ⟨#[61]⟩,.string ⟨#[60,62]⟩,.string ⟨#[60]⟩,.string ⟨#[60,61]⟩,.string ⟨#[62]⟩,.string ⟨#[62,61]⟩] 9)) 9 (k:=w.heap.size+1) (by simp) [.string ⟨#[38]⟩]) (.cells #[.string ⟨#[43]⟩,.string ⟨#[45]⟩] 9)) (.cells #[.string ⟨#[42]⟩,.string ⟨#[47]⟩] 9)) (.cells #[.string ⟨#[94]⟩] 9)) (.cells #[.slice (some ⟨w.heap.size,0,none⟩) 6 6,.slice (some ⟨w.heap.size+1,0,none⟩) 1 1,.slice (some ⟨w.heap.size+2,0,none⟩) 2 2,.slice (some ⟨w.heap.size+3,0,none⟩) 2 2,.slice (some ⟨w.heap.size+4,0,none⟩) 1 1] 43)) (.cells #[.int .i64 21,.int .i64 22,.int .i64 23,.int .i64 24,.int .i64 25,.int .i64 26] 3)) (.cells #[.int .i64 16] 3)) (.cells #[.int .i64 11,.int .i64 12] 3)) (.cells #[.int .i64 13,.int .i64 14] 3)) (.cells #[.int .i64 15] 3)) (.cells #[.slice (some ⟨w.heap.size+6,0,none⟩) 6 6,.slice (some ⟨w.heap.size+7,0,none⟩) 1 1,.slice (some ⟨w.heap.size+8,0,none⟩) 2 2,.slice (some ⟨w.heap.size+9,0,none⟩) 2 2,.slice (some ⟨w.heap.size+10,0,none⟩) 1 1] 121)).2.1,(AtL.alloc (AtL.alloc (AtL.alloc (AtL.alloc (AtL.new (((((((w.alloc (.cells #[.string ⟨#[61]⟩,.string ⟨#[60,62]⟩,.string ⟨#[60]⟩,.string ⟨#[60,61]⟩,.string ⟨#[62]⟩,.string ⟨#[62,61]⟩] 9)).alloc (.cells #[.string ⟨#[38]⟩] 9)).alloc (.cells #[.string ⟨#[43]⟩,.string ⟨#[45]⟩] 9)).alloc (.cells #[.string ⟨#[42]⟩,.string ⟨#[47]⟩] 9)).alloc (.cells #[.string ⟨#[94]⟩] 9)).alloc (.cells #[.slice (some ⟨w.heap.size,0,none⟩) 6 6,.slice (some ⟨w.heap.size+1,0,none⟩) 1 1,.slice (some ⟨w.heap.size+2,0,none⟩) 2 2,.slice (some ⟨w.heap.size+3,0,none⟩) 2 2,.slice (some ⟨w.heap.size+4,0,none⟩) 1 1] 43)).alloc (.cells #[.int .i64 21,.int .i64 22,.int .i64 23,.int .i64 24,.int .i64 25,.int .i64 26] 3)) 3 (k:=w.heap.size+7) (by simp) [.int .i64 16]) (.cells #[.int .i64 11,.int .i64 12] 3)) (.cells #[.int .i64 13,.int .i64 14] 3)) (.cells #[.int .i64 15] 3)) (.cells #[.slice (some ⟨w.heap.size+6,0,none⟩) 6 6,.slice (some ⟨w.heap.size+7,0,none⟩) 1 1,.slice (some ⟨w.heap.size+8,0,none⟩) 2 2,.slice (some ⟨w.heap.size+9,0,none⟩) 2 2,.slice (some ⟨w.heap.size+10,0,none⟩) 1 1] 121)).2.1⟩
 | 2,_=>exact ⟨w.heap.size+2,w.heap.size+8,pR.2.1 2 _ rfl,pO.2.1 2 _ rfl,(AtL.alloc (AtL.alloc (AtL.alloc (AtL.alloc (AtL.alloc (AtL.alloc (AtL.alloc (AtL.alloc (AtL.alloc (AtL.new ((w.alloc (.cells #[.string ⟨#[61]⟩,.string ⟨#[60,62]⟩,.string ⟨#[60]⟩,.string ⟨#[60,61]⟩,.string ⟨#[62]⟩,.string ⟨#[62,61]⟩] 9)).alloc (.cells #[.string ⟨#[38]⟩] 9)) 9 (k:=w.heap.size+2) (by simp) [.string ⟨#[43]⟩,.string ⟨#[45]⟩]) (.cells #[.string ⟨#[42]⟩,.string ⟨#[47]⟩] 9)) (.cells #[.string ⟨#[94]⟩] 9)) (.cells #[.slice (some ⟨w.heap.size,0,none⟩) 6 6,.slice (some ⟨w.heap.size+1,0,none⟩) 1 1,.slice (some ⟨w.heap.size+2,0,none⟩) 2 2,.slice (some ⟨w.heap.size+3,0,none⟩) 2 2,.slice (some ⟨w.heap.size+4,0,none⟩) 1 1] 43)) (.cells #[.int .i64 21,.int .i64 22,.int .i64 23,.int .i64 24,.int .i64 25,.int .i64 26] 3)) (.cells #[.int .i64 16] 3)) (.cells #[.int .i64 11,.int .i64 12] 3)) (.cells #[.int .i64 13,.int .i64 14] 3)) (.cells #[.int .i64 15] 3)) (.cells #[.slice (some ⟨w.heap.size+6,0,none⟩) 6 6,.slice (some ⟨w.heap.size+7,0,none⟩) 1 1,.slice (some ⟨w.heap.size+8,0,none⟩) 2 2,.slice (some ⟨w.heap.size+9,0,none⟩) 2 2,.slice (some ⟨w.heap.size+10,0,none⟩) 1 1] 121)).2.1,(AtL.alloc (AtL.alloc (AtL.alloc (AtL.new ((((((((w.alloc (.cells #[.string ⟨#[61]⟩,.string ⟨#[60,62]⟩,.string ⟨#[60]⟩,.string ⟨#[60,61]⟩,.string ⟨#[62]⟩,.string ⟨#[62,61]⟩] 9)).alloc (.cells #[.string ⟨#[38]⟩] 9)).alloc (.cells #[.string ⟨#[43]⟩,.string ⟨#[45]⟩] 9)).alloc (.cells #[.string ⟨#[42]⟩,.string ⟨#[47]⟩] 9)).alloc (.cells #[.string ⟨#[94]⟩] 9)).alloc (.cells #[.slice (some ⟨w.heap.size,0,none⟩) 6 6,.slice (some ⟨w.heap.size+1,0,none⟩) 1 1,.slice (some ⟨w.heap.size+2,0,none⟩) 2 2,.slice (some ⟨w.heap.size+3,0,none⟩) 2 2,.slice (some ⟨w.heap.size+4,0,none⟩) 1 1] 43)).alloc (.cells #[.int .i64 21,.int .i64 22,.int .i64 23,.int .i64 24,.int .i64 25,.int .i64 26] 3)).alloc (.cells #[.int .i64 16] 3)) 3 (k:=w.heap.size+8) (by simp) [.int .i64 11,.int .i64 12]) (.cells #[.int .i64 13,.int .i64 14] 3)) (.cells #[.int .i64 15] 3)) (.cells #[.slice (some ⟨w.heap.size+6,0,none⟩) 6 6,.slice (some ⟨w.heap.size+7,0,none⟩) 1 1,.slice (some ⟨w.heap.size+8,0,none⟩) 2 2,.slice (some ⟨w.heap.size+9,0,none⟩) 2 2,.slice (some ⟨w.heap.size+10,0,none⟩) 1 1] 121)).2.1⟩
 | 3,_=>exact ⟨w.heap.size+3,w.heap.size+9,pR.2.1 3 _ rfl,pO.2.1 3 _ rfl,(AtL.alloc (AtL.alloc (AtL.alloc (AtL.alloc (AtL.alloc (AtL.alloc (AtL.alloc (AtL.alloc (AtL.new (((w.alloc (.cells #[.string ⟨#[61]⟩,.string ⟨#[60,62]⟩,.string ⟨#[60]⟩,.string ⟨#[60,61]⟩,.string ⟨#[62]⟩,.string ⟨#[62,61]⟩] 9)).alloc (.cells #[.string ⟨#[38]⟩] 9)).alloc (.cells #[.string ⟨#[43]⟩,.string ⟨#[45]⟩] 9)) 9 (k:=w.heap.size+3) (by simp) [.string ⟨#[42]⟩,.string ⟨#[47]⟩]) (.cells #[.string ⟨#[94]⟩] 9)) (.cells #[.slice (some ⟨w.heap.size,0,none⟩) 6 6,.slice (some ⟨w.heap.size+1,0,none⟩) 1 1,.slice (some ⟨w.heap.size+2,0,none⟩) 2 2,.slice (some ⟨w.heap.size+3,0,none⟩) 2 2,.slice (some ⟨w.heap.size+4,0,none⟩) 1 1] 43)) (.cells #[.int .i64 21,.int .i64 22,.int .i64 23,.int .i64 24,.int .i64 25,.int .i64 26] 3)) (.cells #[.int .i64 16] 3)) (.cells #[.int .i64 11,.int .i64 12] 3)) (.cells #[.int .i64 13,.int .i64 14] 3)) (.cells #[.int .i64 15] 3)) (.cells #[.slice (some ⟨w.heap.size+6,0,none⟩) 6 6,.slice (some ⟨w.heap.size+7,0,none⟩) 1 1,.slice (some ⟨w.heap.size+8,0,none⟩) 2 2,.slice (some ⟨w.heap.size+9,0,none⟩) 2 2,.slice (some ⟨w.heap.size+10,0,none⟩) 1 1] 121)).2.1,(AtL.alloc (AtL.alloc (AtL.new (((((((((w.alloc (.cells #[.string ⟨#[61]⟩,.string ⟨#[60,62]⟩,.string ⟨#[60]⟩,.string ⟨#[60,61]⟩,.string ⟨#[62]⟩,.string ⟨#[62,61]⟩] 9)).alloc (.cells #[.string ⟨#[38]⟩] 9)).alloc (.cells #[.string ⟨#[43]⟩,.string ⟨#[45]⟩] 9)).alloc (.cells #[.string ⟨#[42]⟩,.string ⟨#[47]⟩] 9)).alloc (.cells #[.string ⟨#[94]⟩] 9)).alloc (.cells #[.slice (some ⟨w.heap.size,0,none⟩) 6 6,.slice (some ⟨w.heap.size+1,0,none⟩) 1 1,.slice (some ⟨w.heap.size+2,0,none⟩) 2 2,.slice (some ⟨w.heap.size+3,0,none⟩) 2 2,.slice (some ⟨w.heap.size+4,0,none⟩) 1 1] 43)).alloc (.cells #[.int .i64 21,.int .i64 22,.int .i64 23,.int .i64 24,.int .i64 25,.int .i64 26] 3)).alloc (.cells #[.int .i64 16] 3)).alloc (.cells #[.int .i64 11,.int .i64 12] 3)) 3 (k:=w.heap.size+9) (by simp) [.int .i64 13,.int .i64 14]) (.cells #[.int .i64 15] 3)) (.cells #[.slice (some ⟨w.heap.size+6,0,none⟩) 6 6,.slice (some ⟨w.heap.size+7,0,none⟩) 1 1,.slice (some ⟨w.heap.size+8,0,none⟩) 2 2,.slice (some ⟨w.heap.size+9,0,none⟩) 2 2,.slice (some ⟨w.heap.size+10,0,none⟩) 1 1] 121)).2.1⟩
 | 4,_=>exact ⟨w.heap.size+4,w.heap.size+10,pR.2.1 4 _ rfl,pO.2.1 4 _ rfl,(AtL.alloc (AtL.alloc (AtL.alloc (AtL.alloc (AtL.alloc (AtL.alloc (AtL.alloc (AtL.new ((((w.alloc (.cells #[.string ⟨#[61]⟩,.string ⟨#[60,62]⟩,.string ⟨#[60]⟩,.string ⟨#[60,61]⟩,.string ⟨#[62]⟩,.string ⟨#[62,61]⟩] 9)).alloc (.cells #[.string ⟨#[38]⟩] 9)).alloc (.cells #[.string ⟨#[43]⟩,.string ⟨#[45]⟩] 9)).alloc (.cells #[.string ⟨#[42]⟩,.string ⟨#[47]⟩] 9)) 9 (k:=w.heap.size+4) (by simp) [.string ⟨#[94]⟩]) (.cells #[.slice (some ⟨w.heap.size,0,none⟩) 6 6,.slice (some ⟨w.heap.size+1,0,none⟩) 1 1,.slice (some ⟨w.heap.size+2,0,none⟩) 2 2,.slice (some ⟨w.heap.size+3,0,none⟩) 2 2,.slice (some ⟨w.heap.size+4,0,none⟩) 1 1] 43)) (.cells #[.int .i64 21,.int .i64 22,.int .i64 23,.int .i64 24,.int .i64 25,.int .i64 26] 3)) (.cells #[.int .i64 16] 3)) (.cells #[.int .i64 11,.int .i64 12] 3)) (.cells #[.int .i64 13,.int .i64 14] 3)) (.cells #[.int .i64 15] 3)) (.cells #[.slice (some ⟨w.heap.size+6,0,none⟩) 6 6,.slice (some ⟨w.heap.size+7,0,none⟩) 1 1,.slice (some ⟨w.heap.size+8,0,none⟩) 2 2,.slice (some ⟨w.heap.size+9,0,none⟩) 2 2,.slice (some ⟨w.heap.size+10,0,none⟩) 1 1] 121)).2.1,(AtL.alloc (AtL.new ((((((((((w.alloc (.cells #[.string ⟨#[61]⟩,.string ⟨#[60,62]⟩,.string ⟨#[60]⟩,.string ⟨#[60,61]⟩,.string ⟨#[62]⟩,.string ⟨#[62,61]⟩] 9)).alloc (.cells #[.string ⟨#[38]⟩] 9)).alloc (.cells #[.string ⟨#[43]⟩,.string ⟨#[45]⟩] 9)).alloc (.cells #[.string ⟨#[42]⟩,.string ⟨#[47]⟩] 9)).alloc (.cells #[.string ⟨#[94]⟩] 9)).alloc (.cells #[.slice (some ⟨w.heap.size,0,none⟩) 6 6,.slice (some ⟨w.heap.size+1,0,none⟩) 1 1,.slice (some ⟨w.heap.size+2,0,none⟩) 2 2,.slice (some ⟨w.heap.size+3,0,none⟩) 2 2,.slice (some ⟨w.heap.size+4,0,none⟩) 1 1] 43)).alloc (.cells #[.int .i64 21,.int .i64 22,.int .i64 23,.int .i64 24,.int .i64 25,.int .i64 26] 3)).alloc (.cells #[.int .i64 16] 3)).alloc (.cells #[.int .i64 11,.int .i64 12] 3)).alloc (.cells #[.int .i64 13,.int .i64 14] 3)) 3 (k:=w.heap.size+10) (by simp) [.int .i64 15]) (.cells #[.slice (some ⟨w.heap.size+6,0,none⟩) 6 6,.slice (some ⟨w.heap.size+7,0,none⟩) 1 1,.slice (some ⟨w.heap.size+8,0,none⟩) 2 2,.slice (some ⟨w.heap.size+9,0,none⟩) 2 2,.slice (some ⟨w.heap.size+10,0,none⟩) 1 1] 121)).2.1⟩
 | k+5,hk=>omega
theorem zNt (k:Nat) (hk:k<5) (m:List UInt8) (w:World):CR 62 #[.int .i64 (k:Int),.string ⟨m.toArray⟩] w (.int .i64 (oas m k)):=by
 obtain ⟨j,hjn,hlt,hend⟩:=zLI k hk m;obtain ⟨rb,ob,cR,cO,hW,hO⟩:=zME w k hk;have hB:Below w.heap.size w ((((((((((((w.alloc (.cells #[.string ⟨#[61]⟩,.string ⟨#[60,62]⟩,.string ⟨#[60]⟩,.string ⟨#[60,61]⟩,.string ⟨#[62]⟩,.string ⟨#[62,61]⟩] 9)).alloc (.cells #[.string ⟨#[38]⟩] 9)).alloc (.cells #[.string ⟨#[43]⟩,.string ⟨#[45]⟩] 9)).alloc (.cells #[.string ⟨#[42]⟩,.string ⟨#[47]⟩] 9)).alloc (.cells #[.string ⟨#[94]⟩] 9)).alloc (.cells #[.slice (some ⟨w.heap.size,0,none⟩) 6 6,.slice (some ⟨w.heap.size+1,0,none⟩) 1 1,.slice (some ⟨w.heap.size+2,0,none⟩) 2 2,.slice (some ⟨w.heap.size+3,0,none⟩) 2 2,.slice (some ⟨w.heap.size+4,0,none⟩) 1 1] 43)).alloc (.cells #[.int .i64 21,.int .i64 22,.int .i64 23,.int .i64 24,.int .i64 25,.int .i64 26] 3)).alloc (.cells #[.int .i64 16] 3)).alloc (.cells #[.int .i64 11,.int .i64 12] 3)).alloc (.cells #[.int .i64 13,.int .i64 14] 3)).alloc (.cells #[.int .i64 15] 3)).alloc (.cells #[.slice (some ⟨w.heap.size+6,0,none⟩) 6 6,.slice (some ⟨w.heap.size+7,0,none⟩) 1 1,.slice (some ⟨w.heap.size+8,0,none⟩) 2 2,.slice (some ⟨w.heap.size+9,0,none⟩) 2 2,.slice (some ⟨w.heap.size+10,0,none⟩) 1 1] 121)):=zAI (zAI (zAI (zAI (zAI (zAI (zAI (zAI (zAI (zAI (zAI (zAI (Below.refl _ w) _) _) _) _) _) _) _) _) _) _) _) _;have hki:(k:Int)<5:=by omega
 generalize oas m k=res at *;have hn6:(oN k:Int)<=6:=by
  have:oN k<=6:=by
   match k,hk with
   | 0,_=>decide
   | 1,_=>decide
   | 2,_=>decide
   | 3,_=>decide
   | 4,_=>decide
   | k+5,hk=>omega
  omega
 have HE:Hid ((j=oN k/\res=0) \/ (j<oN k/\(oW k)[j]? = some (.string ⟨m.toArray⟩)/\(oO k)[j]? = some (.int .i64 res))):=hend;have HLT:Hid (∀ i,i<j->∃ q:List UInt8,(oW k)[i]? = some (.string ⟨q.toArray⟩)/\¬ q=m):=hlt;generalize oN k=n at *;clear hend hlt;go_enter func62,ntmps62;go_upto_region 3 with fail
 generalize ((((((((((((w.alloc (.cells #[.string ⟨#[61]⟩,.string ⟨#[60,62]⟩,.string ⟨#[60]⟩,.string ⟨#[60,61]⟩,.string ⟨#[62]⟩,.string ⟨#[62,61]⟩] 9)).alloc (.cells #[.string ⟨#[38]⟩] 9)).alloc (.cells #[.string ⟨#[43]⟩,.string ⟨#[45]⟩] 9)).alloc (.cells #[.string ⟨#[42]⟩,.string ⟨#[47]⟩] 9)).alloc (.cells #[.string ⟨#[94]⟩] 9)).alloc (.cells #[.slice (some ⟨w.heap.size,0,none⟩) 6 6,.slice (some ⟨w.heap.size+1,0,none⟩) 1 1,.slice (some ⟨w.heap.size+2,0,none⟩) 2 2,.slice (some ⟨w.heap.size+3,0,none⟩) 2 2,.slice (some ⟨w.heap.size+4,0,none⟩) 1 1] 43)).alloc (.cells #[.int .i64 21,.int .i64 22,.int .i64 23,.int .i64 24,.int .i64 25,.int .i64 26] 3)).alloc (.cells #[.int .i64 16] 3)).alloc (.cells #[.int .i64 11,.int .i64 12] 3)).alloc (.cells #[.int .i64 13,.int .i64 14] 3)).alloc (.cells #[.int .i64 15] 3)).alloc (.cells #[.slice (some ⟨w.heap.size+6,0,none⟩) 6 6,.slice (some ⟨w.heap.size+7,0,none⟩) 1 1,.slice (some ⟨w.heap.size+8,0,none⟩) 2 2,.slice (some ⟨w.heap.size+9,0,none⟩) 2 2,.slice (some ⟨w.heap.size+10,0,none⟩) 1 1] 121))=W0 at *;have HW:Hid (∀ i v,(oW k)[i]? = some v->W0.cell? ⟨rb,i,none⟩=some v):=hW;have HO:Hid (∀ i v,(oO k)[i]? = some v->W0.cell? ⟨ob,i,none⟩=some v):=hO;clear hW hO;go_wp2_with fail
 go_loopg [7] j (λgk x wr=>∃ i:Nat,x=.int .i64 i/\gk=j - i/\i<=j/\W0=wr)
 case atStart=>exact ⟨0,rfl,rfl,Nat.zero_le _,rfl⟩
 case round =>
  obtain ⟨i,rfl,hg,hi,rfl⟩:=hrel;by_cases hij:i<j
  ·obtain ⟨q,hq1,hq2⟩:=HLT.out i hij;have c0:=HW.out i _ hq1;have hin:(i:Int)<(n:Int):=by omega
   have hq3:(q == m)=false:=by simpa using hq2
   go_wp2_with fail
   go_roundg (j - (i+1))
   case rel=>exact ⟨i+1,by simp,rfl,hij,rfl⟩
   case measure=>omega
  ·obtain rfl:i=j:=by omega
   rcases HE.out with ⟨e1,e2⟩ | ⟨e1,e2,e3⟩
   ·subst e1 e2;have hin:¬ (i:Int)<(i:Int):=by omega
    go_wp2;go_ret;exact ⟨rfl,hB⟩
   ·have hin:(i:Int)<(n:Int):=by omega
    have c0:=HW.out i _ e2;have c1:=HO.out i _ e3;go_wp2;go_ret;exact ⟨rfl,hB⟩
theorem zAl {t:Wlx.TV} {r:List Wlx.TV} (h:RS tn lo kp en w (t::r) E Bad):∃ (g len cap a:Nat),w.cell? ⟨kp,0,none⟩=some (.slice (some ⟨g,0,none⟩) len cap)/\w.cell? ⟨kp,1,none⟩=some (.int .i64 (a:Int))/\w.cell? ⟨kp,3,none⟩=some (.int .i64 E)/\(a:Int)<(len:Int)/\(a:Int)<=1024/\w.cell? ⟨g,a * 3,none⟩=some (.int .i64 t.k)/\w.cell? ⟨g,a * 3+1,none⟩=some (.string ⟨t.t.toArray⟩)/\w.cell? ⟨g,a * 3+2,none⟩=some (.int .i64 t.p):=by
 obtain ⟨av,cap,T,a,e,h2,h3,h4,h5,h6,h7,h8⟩:=h;have hlt:a<T.length:=by
  by_cases hlt:a<T.length
  ·exact hlt
  ·rw [List.drop_eq_nil_of_le (by omega)] at e;cases e
 have et:T[a]=t:=by
  rw [List.drop_eq_getElem_cons hlt] at e;exact (List.cons.inj e).1
 obtain ⟨g,rfl,hg,t0,t1,t2⟩:=h7 a hlt;rw [et] at t0 t1 t2;exact ⟨g,T.length,cap,a,h6.2.1 0 _ rfl,h6.2.1 1 _ rfl,h6.2.1 3 _ rfl,by omega,by omega,t0,t1,t2⟩
theorem zJi (h:RS tn lo kp en w [] E Bad):∃ (av:Option Addr) (len cap a:Nat),w.cell? ⟨kp,0,none⟩=some (.slice av len cap)/\w.cell? ⟨kp,1,none⟩=some (.int .i64 (a:Int))/\w.cell? ⟨kp,3,none⟩=some (.int .i64 E)/\¬ (a:Int)<(len:Int):=by
 obtain ⟨av,cap,T,a,e,h2,h3,h4,h5,h6,h7,h8⟩:=h;have hlt:¬ a<T.length:=by
  intro hlt;rw [List.drop_eq_getElem_cons hlt] at e;cases e
 exact ⟨av,T.length,cap,a,h6.2.1 0 _ rfl,h6.2.1 1 _ rfl,h6.2.1 3 _ rfl,by omega⟩
theorem zMz {ts:List Wlx.TV} (h:RS tn lo kp en w ts E Bad):w.cell? ⟨kp,3,none⟩=some (.int .i64 E):=by
 obtain ⟨av,cap,T,a,e,h2,h3,h4,h5,h6,h7,h8⟩:=h;exact h6.2.1 3 _ rfl
theorem zB2 {k o k2 o2 k3 o3:Nat} {v2 v3:Value} (hb:Below w.heap.size w w') (h:w.cell? ⟨k,o,none⟩=some v/\w.cell? ⟨k2,o2,none⟩=some v2/\w.cell? ⟨k3,o3,none⟩=some v3):w'.cell? ⟨k,o,none⟩=some v/\w'.cell? ⟨k2,o2,none⟩=some v2/\w'.cell? ⟨k3,o3,none⟩=some v3:=⟨zAM hb h.1,zAM hb h.2.1,zAM hb h.2.2⟩
theorem zCm {k:Int} {row:List Wt.Nd} {us:List Wlx.TV} (h:zB0 k us=none):more sub k us.length row us=.inl (row,us):=by
 cases us with
 | nil=>rfl
 | cons t r=>simp only [List.length_cons,more,h]
theorem zHh (hsuf:∀ ts row r,sub ts=.inl (row,r)->r <:+ ts) {k:Int} {row:List Wt.Nd} {us r:List Wlx.TV} {oo:Int × List UInt8 × Int} (h:zB0 k us=some (oo,r)):more sub k us.length row us=match sub r with | .inr e=>.inr e | .inl (row2,r2)=>more sub k r2.length (opN (zAq oo.2.2) oo.1::(row++row2)) r2:=by
 have hl:=(zAo h).2;obtain ⟨n,hn⟩:∃ n,us.length=n+1:=⟨us.length - 1,by omega⟩
 rw [hn];simp only [more,h];cases hs:sub r with
 | inr e=>rfl
 | inl q =>
  obtain ⟨row2,r2⟩:=q;have:=(hsuf _ _ _ hs).length_le;exact zFu hsuf _ _ _ _ _ (by omega) (by omega)
theorem zB1 {B s:Nat} {L:List Wt.Nd} {row:Option Nat} (h:OwnN w B v L) (hlt:∀ g,v.ownBlock=some g->g<s) (hg:w.grownBy w' row) (hr:∀ b,row=some b->s<=b):OwnN w' B v L:=by
 refine World.ownsRow.kept h hg ?_;cases hv:v.ownBlock with
 | none=>exact Or.inl rfl
 | some g=>exact Or.inr λe=>by have:=hlt g hv;have:=hr g e.symm;omega
theorem zIz (k:Nat) (hk:k<5) (us:List Wlx.TV):(us=[]/\zB0 k us=none) \/ (∃ t r,us=t::r/\¬ t.k=5/\zB0 k us=none) \/ (∃ t r,us=t::r/\t.k=5/\oas t.t k=0/\zB0 k us=none) \/ (∃ t r o,us=t::r/\t.k=5/\oas t.t k=o.1/\¬ o.1=0/\zAq o.2.2=5/\zB0 k us=some (o,r)):=by
 cases us with
 | nil=>exact Or.inl ⟨rfl,rfl⟩
 | cons t r =>
  unfold zB0;simp only;by_cases h5:t.k=5
  ·rw [if_pos h5];cases ha:Wt.opAs t.t k with
   | none=>exact Or.inr (Or.inr (Or.inl ⟨t,r,rfl,h5,by unfold oas;rw [ha],rfl⟩))
   | some x =>
    have hm:=List.mem_of_find?_eq_some ha;have hp:=List.find?_some ha;simp only [Bool.and_eq_true,beq_iff_eq] at hp;have hne:∀ y ∈ Wt.opsT,¬ y.1=0:=by decide
    refine Or.inr (Or.inr (Or.inr ⟨t,r,x,rfl,h5,by unfold oas;rw [ha],hne x hm,?_,rfl⟩));unfold zAq;rw [hp.2,if_pos (by omega)]
  ·rw [if_neg h5];exact Or.inr (Or.inl ⟨t,r,rfl,h5,rfl⟩)
theorem zHl (tn lo kp:Nat) (en:Int) (k:Nat) (hk:k<5) (sub:List Wlx.TV->PR) (n:Nat) (HL:QLv tn lo kp en (k+1) sub n) (hsuf:∀ ts row r,sub ts=.inl (row,r)->r <:+ ts) (hfit:∀ ts row r2,(∀ t ∈ ts,zAP t)->sub ts=.inl (row,r2)->zE5 ts.length row r2):QLv tn lo kp en k (pbt sub k) n:=by
 intro ts w hn hok h;obtain ⟨hkl,hlo,h1024⟩:=h.lo;have hkw:kp<w.heap.size:=by omega
 have ek:((k+1:Nat):Int)=(k:Int)+1:=by omega
 have SL:=HL;unfold QLv at SL;simp only [ek] at SL;have hk5:((k:Int) == 5)=false:=by simp;omega
 have hki:(k:Int)<5:=by omega
 have S:=SL ts w hn hok h;have OPP:=λm w=>zNt k hk m w
 clear HL h ek;unfold pbt;cases hs:sub ts with
 | inr q =>
  obtain ⟨c,p⟩:=q;rw [hs] at S;clear hfit hs hsuf SL OPP;simp only;go_enter func40,ntmps40;go_wp2_with fail
  refine S.mono ?_;rintro e w1 ⟨hg,hc,v,row,ts2,rfl,own,hl,hR⟩;have c3:=zMz hR;have hcd:(c == 0)=false:=by simpa using hc
  clear S;go_wp2_with fail
  go_loopg [5] 0 (λgk x wr=>x=v/\gk=0/\w1=wr)
  case atStart=>exact ⟨rfl,rfl,rfl⟩
  case round =>
   obtain ⟨rfl,hgk,rfl⟩:=hrel;go_wp2_with fail
   go_quiet (fail)
   have hb9:Below w1.heap.size w1 (w1.drewN nq):=zAG (Below.refl _ _) nq;go_wp2;go_ret;exact ⟨zAB hg (zAC hb9 _),hc,_,row,ts2,rfl,own.below hb9,hl,hR.below hb9⟩
 | inl q =>
  obtain ⟨row0,rest⟩:=q;rw [hs] at S;obtain ⟨-,hf⟩:=hfit ts row0 rest hok hs;have hok0:∀ t ∈ rest,zAP t:=λt ht=>hok t ((hsuf ts row0 rest hs).subset ht)
  clear hs hok;simp only;obtain ⟨R0,hR0⟩:∃ q:PR,q=more sub k rest.length row0 rest:=⟨_,rfl⟩
  rw [<-hR0];have HQ0:Hid (R0=more sub k rest.length row0 rest):=hR0;clear hR0;go_enter func40,ntmps40;go_wp2_with fail
  refine S.mono ?_;rintro e w1 ⟨hg1,v1,rfl,own1,hR1⟩;clear S;go_wp2_with fail
  go_loopg [5] (rest.length+1) (λgk x wr=>Hid (w.grownBy wr (some kp))/\((∃ (row:List Wt.Nd) (us:List Wlx.TV),gk=us.length+1/\row.length+us.length<=ts.length/\Hid (∀ t ∈ us,zAP t)/\Hid (R0=more sub k us.length row us)/\Hid (OwnN wr w.heap.size x row)/\Hid (RS tn lo kp en wr us 0 0)) \/ (∃ (c p:Int) (row:List Wt.Nd) (us:List Wlx.TV),gk=0/\¬ c=0/\row.length<=ts.length+1/\Hid (R0=.inr (c,p))/\Hid (OwnN wr w.heap.size x row)/\Hid (RS tn lo kp en wr us c p))))
  case atStart=>exact ⟨hg1,Or.inl ⟨row0,rest,rfl,hf,hok0,HQ0,own1,hR1⟩⟩
  case round =>
   clear HQ0 own1 hR1 hg1 hf hok0;obtain ⟨HG,⟨row,us,hgk,hf,HK,HQ,HO,HR⟩ | ⟨c,p,row,us,hgk,hc,hl,HQ,HO,HR⟩⟩:=hrel
   ·have HW:Hid (w.heap.size<=wr.heap.size):=HG.out.size;rcases zIz k hk us with ⟨rfl,ht⟩ | ⟨t,r,rfl,h5,ht⟩ | ⟨t,r,rfl,h5,ho,ht⟩ | ⟨t,r,oo,rfl,h5,ho,ho0,hkd,ht⟩
    ·obtain ⟨av,len,cap,a,c0,c1,c3,hal⟩:=zJi HR.out;have hald:decide (a<len)=false:=by simp;omega
     have HQ2:Hid (R0=.inl (row,[])):=by show _=_;rw [HQ.out,zCm ht]
     clear HQ ht;go_wp2_with fail
     go_quiet (fail)
     have hb9:Below wr.heap.size wr (wr.drewN nq):=zAG (Below.refl _ _) nq;go_wp2;go_ret;rw [HQ2.out];exact ⟨zAB HG.out (zAC hb9 _),_,rfl,HO.out.below hb9,HR.out.below hb9⟩
    ·obtain ⟨g,len,cap,a,c0,c1,c3,hal,ha,t0,t1,t2⟩:=zAl HR.out;have h5d:(t.k == 5)=false:=by simpa using h5
     have HQ2:Hid (R0=.inl (row,t::r)):=by show _=_;rw [HQ.out,zCm ht]
     clear HQ ht;go_wp2_with fail
     go_quiet (fail)
     have hb9:Below wr.heap.size wr (wr.drewN nq):=zAG (Below.refl _ _) nq;go_wp2;go_ret;rw [HQ2.out];exact ⟨zAB HG.out (zAC hb9 _),_,rfl,HO.out.below hb9,HR.out.below hb9⟩
    ·obtain ⟨g,len,cap,a,c0,c1,c3,hal,ha,t0,t1,t2⟩:=zAl HR.out;rw [h5] at t0;have OP:=λw=>OPP t.t w
     rw [ho] at OP;have HQ2:Hid (R0=.inl (row,t::r)):=by show _=_;rw [HQ.out,zCm ht]
     clear HQ ht OPP;generalize (⟨t.t.toArray⟩:ByteArray)=tt at *;go_wp2_with fail
     go_quiet (fail)
     have hb9:Below wr.heap.size wr (wr.drewN nq):=zAG (Below.refl _ _) nq;have hS:(wr.drewN nq).cell? ⟨kp,0,none⟩=some (.slice (some ⟨g,0,none⟩) len cap)/\(wr.drewN nq).cell? ⟨kp,1,none⟩=some (.int .i64 (a:Int))/\(wr.drewN nq).cell? ⟨g,a * 3+1,none⟩=some (.string tt):=⟨zAM hb9 c0,zAM hb9 c1,zAM hb9 t1⟩
     have hB:=hb9;have hHO:=HO.out.below hb9;generalize wr.drewN nq=W9 at *;clear c0 c1 c3 t0 t1 t2;go_wp2_with fail
     go_region_held3 (λW=>W.cell? ⟨kp,0,none⟩=some (.slice (some ⟨g,0,none⟩) len cap)/\W.cell? ⟨kp,1,none⟩=some (.int .i64 (a:Int))/\W.cell? ⟨g,a * 3+1,none⟩=some (.string tt))
      (with_reducible first | exact hS | assumption | exact zB2 (Below.refl _ _).drew hS | exact zB2 hb (by assumption))
      (first | (go_at_call 62;refine (OP _).mono ?_;rintro e w4 ⟨rfl,hb⟩;(with_reducible first | replace hB:=zAA hB.drew hb | replace hB:=zAA hB hb)))
     all_goals
      go_wp2;go_ret;rw [HQ2.out];exact ⟨zAB HG.out (zAC hB _),_,rfl,HO.out.below hB,HR.out.below hB⟩
    ·obtain ⟨g,len,cap,a,c0,c1,c3,hal,ha,t0,t1,t2⟩:=zAl HR.out;rw [h5] at t0;have OP:=λw=>OPP t.t w
     rw [ho] at OP;have HC1:Hid (wr.cell? ⟨kp,1,none⟩=some (.int .i64 (a:Int))):=c1;have hob:(oo.1 == 0)=false:=by simpa using ho0
     have HM:Hid (more sub k (t::r).length row (t::r)=match sub r with | .inr e=>.inr e | .inl (row2,r2)=>more sub k r2.length (opN (zAq oo.2.2) oo.1::(row++row2)) r2):=zHh hsuf ht;have hrn:r.length<=n:=by simp only [List.length_cons] at hf;omega
     have hf2:row.length+r.length+1<=ts.length:=by simp only [List.length_cons] at hf;omega
     have hokr:∀ x ∈ r,zAP x:=λx hx=>HK.out x (List.mem_cons_of_mem _ hx)
     clear ht OPP HK;generalize (⟨t.t.toArray⟩:ByteArray)=tt at *;go_wp2_with fail
     go_quiet (fail)
     have hb9:Below wr.heap.size wr (wr.drewN nq):=zAG (Below.refl _ _) nq;have hS:(wr.drewN nq).cell? ⟨kp,0,none⟩=some (.slice (some ⟨g,0,none⟩) len cap)/\(wr.drewN nq).cell? ⟨kp,1,none⟩=some (.int .i64 (a:Int))/\(wr.drewN nq).cell? ⟨g,a * 3+1,none⟩=some (.string tt):=⟨zAM hb9 c0,zAM hb9 c1,zAM hb9 t1⟩
     have hB:=hb9;generalize wr.drewN nq=W9 at *;clear c0 c1 c3 t0 t1 t2 hb9;generalize oo.1=ov at *;rw [hkd] at HM;go_wp2_with fail
     go_region_held3 (λW=>W.cell? ⟨kp,0,none⟩=some (.slice (some ⟨g,0,none⟩) len cap)/\W.cell? ⟨kp,1,none⟩=some (.int .i64 (a:Int))/\W.cell? ⟨g,a * 3+1,none⟩=some (.string tt))
      (with_reducible first | exact hS | assumption | exact zB2 (Below.refl _ _).drew hS | exact zB2 hb (by assumption))
      (first | (go_at_call 62;refine (OP _).mono ?_;rintro e w4 ⟨rfl,hb⟩;(with_reducible first | replace hB:=zAA hB.drew hb | replace hB:=zAA hB hb)))
     all_goals
      have hRq:=HR.out.below hB;have hGq:w.grownBy w4 (some kp):=zAB HG.out (zAC hB _);have hOq:=HO.out.below hB;obtain ⟨a2,ha2,c1,z1,hR,hG⟩:=zAg hRq;have ea:a2=a:=by
       have e2:=zAM hB HC1.out;rw [c1] at e2;have e3:(a2:Int)=(a:Int):=by simpa using e2
       omega
      rw [ea] at c1 hR hG;clear ea ha2;have HRW:Hid (RS tn lo kp en (w4.setCell ⟨kp,1,none⟩ (.int .i64 ((a:Int)+1))) r 0 0):=hR;have HGW:Hid (w.grownBy (w4.setCell ⟨kp,1,none⟩ (.int .i64 ((a:Int)+1))) (some kp)):=zAB hGq hG;have HOW:Hid (OwnN (w4.setCell ⟨kp,1,none⟩ (.int .i64 ((a:Int)+1))) w.heap.size u5 row):=zA9 hOq hG hkw;clear hRq hGq hOq hR hG HR HG HO hB OP;go_upto_region 8 with fail
      obtain ⟨W,hW⟩:∃ W,w4.setCell ⟨kp,1,none⟩ (.int .i64 ((a:Int)+1))=W:=⟨_,rfl⟩
      rw [hW] at HRW HGW HOW ⊢;have hRW:=HRW.out;have hGW:=HGW.out;have hOW:=HOW.out;have hsW:=hGW.size;clear hW HRW HGW HOW c1 z1;have S2:=SL r W hrn hokr hRW;go_wp2_with fail
      cases hs2:sub r with
      | inl q =>
       obtain ⟨row2,r2⟩:=q;rw [hs2] at S2;refine S2.mono ?_;rintro e w2 ⟨hg2,vb,rfl,ownb,hRb⟩;have hG2:w.grownBy w2 (some kp):=zAB hGW hg2;have hO2:OwnN w2 w.heap.size u5 row:=zA9 hOW hg2 hkw;have l5:=hO2.lt;have lb:=ownb.lt;have hs2z:=hG2.size;have hft:=(hfit r row2 r2 hokr hs2).2;have hsf:=hsuf r row2 r2 hs2;clear S2 hg2 hGW hOW hRW;go_wp2_with (first
        | ((with_reducible refine zAx ?_ (.const (.int .i64 5)) (.tmp 75) ?_ 5 ov ?_ ?_ ?_);rfl;rfl;rfl;rfl)
        | ((with_reducible refine zAR ?_ (.tmp 76) ?_ (opN 5 ov) ?_ ?_);rfl;rfl;rfl)
        | (at_builtin;refine zAL (by rfl) (.tmp 74) (.tmp 77) (by rfl) _ w2.heap.size (by simp only [World.size_alloc];omega) _ [] (by rfl) (World.ownsRow_nil _ _ _ _) _ _ [opN 5 ov] (by rfl) (zAf w2 (opN 5 ov)) (λ_=>by simp) ?_))
       intro va wa rowa owna hga hra hva;have hGa:w.grownBy wa (some kp):=zAO (zAB hG2 (World.grownBy_alloc _ _ _)) hga (λb e=>Nat.le_trans hs2z (hra b e));have hRa:=(hRb.row (World.grownBy_alloc w2 _ none) (by simp)).row hga (λb e=>Nat.le_trans (Nat.le_trans hlo hs2z) (hra b e));have hsa:w2.heap.size<=wa.heap.size:=Nat.le_trans (by simp) hga.size;have hO5:OwnN wa w.heap.size u5 row:=zB1 (zBt hO2 (World.grownBy_alloc w2 _ none) (by simp)) (λg e=>(l5 g e).2) hga hra;have hOb:OwnN wa W.heap.size vb row2:=zB1 (zBt ownb (World.grownBy_alloc w2 _ none) (by simp)) (λg e=>(lb g e).2) hga hra;clear hga hra hva hO2 ownb hRb hG2;go_wp2_with (at_builtin;refine zAL (by rfl) (.tmp 79) (.tmp 80) (by rfl) wa w2.heap.size hsa va [opN 5 ov] (by rfl) owna u5 _ row (by rfl) hO5 (λ_=>by simp only [List.length_singleton];omega) ?_)
       intro vc wc rowc ownc hgc hrc _;have hGc:w.grownBy wc (some kp):=zAO hGa hgc (λb e=>Nat.le_trans hs2z (hrc b e));have hRc:=hRa.row hgc (λb e=>Nat.le_trans (Nat.le_trans hlo hs2z) (hrc b e));have hsc:w2.heap.size<=wc.heap.size:=Nat.le_trans hsa hgc.size;have hOc:OwnN wc W.heap.size vb row2:=zB1 hOb (λg e=>(lb g e).2) hgc hrc;clear hgc hrc owna hO5 hOb hGa hRa;go_wp2_with (at_builtin;refine zAL (by rfl) (.tmp 82) (.tmp 83) (by rfl) wc w2.heap.size hsc vc ([opN 5 ov]++row) (by rfl) ownc vb _ row2 (by rfl) hOc (λ_=>by simp only [List.length_append,List.length_singleton];omega) ?_)
       intro vd wd rowd ownd hgd hrd _;have HGd:Hid (w.grownBy wd (some kp)):=zAO hGc hgd (λb e=>Nat.le_trans hs2z (hrd b e));have hRd:=hRc.row hgd (λb e=>Nat.le_trans (Nat.le_trans hlo hs2z) (hrd b e));have HOd:Hid (OwnN wd w.heap.size vd (opN 5 ov::(row++row2))):=by
        have:=zBc ownd hs2z;first | exact this | (rw [List.append_assoc] at this;exact this)
       have HQ2:Hid (R0=more sub k r2.length (opN 5 ov::(row++row2)) r2):=by show _=_;rw [HQ.out,HM.out,hs2]
       have HRd:Hid (RS tn lo kp en wd r2 0 0):=hRd;have HKd:Hid (∀ x ∈ r2,zAP x):=λx hx=>hokr x (hsf.subset hx)
       clear hgd hrd ownc hOc hGc hRc hRd ownd HQ HM hs2;go_wp2_with fail
       go_roundg (r2.length+1)
       case rel=>exact ⟨HGd,Or.inl ⟨_,r2,rfl,by simp only [List.length_cons,List.length_append];omega,HKd,HQ2,HOd,HRd⟩⟩
       case measure=>simp only [List.length_cons] at hgk;omega
      | inr q =>
       obtain ⟨c,p⟩:=q;rw [hs2] at S2;refine S2.mono ?_;rintro e w2 ⟨hg2,hc,vb,row2,ts2,rfl,ownb,hrw,hRb⟩;have hG2:w.grownBy w2 (some kp):=zAB hGW hg2;have hO2:OwnN w2 w.heap.size u5 row:=zA9 hOW hg2 hkw;have l5:=hO2.lt;have lb:=ownb.lt;have hs2z:=hG2.size;clear S2 hg2 hGW hOW hRW;go_wp2_with (first
        | ((with_reducible refine zAx ?_ (.const (.int .i64 5)) (.tmp 75) ?_ 5 ov ?_ ?_ ?_);rfl;rfl;rfl;rfl)
        | ((with_reducible refine zAR ?_ (.tmp 76) ?_ (opN 5 ov) ?_ ?_);rfl;rfl;rfl)
        | (at_builtin;refine zAL (by rfl) (.tmp 74) (.tmp 77) (by rfl) _ w2.heap.size (by simp only [World.size_alloc];omega) _ [] (by rfl) (World.ownsRow_nil _ _ _ _) _ _ [opN 5 ov] (by rfl) (zAf w2 (opN 5 ov)) (λ_=>by simp) ?_))
       intro va wa rowa owna hga hra hva;have hGa:w.grownBy wa (some kp):=zAO (zAB hG2 (World.grownBy_alloc _ _ _)) hga (λb e=>Nat.le_trans hs2z (hra b e));have hRa:=(hRb.row (World.grownBy_alloc w2 _ none) (by simp)).row hga (λb e=>Nat.le_trans (Nat.le_trans hlo hs2z) (hra b e));have hsa:w2.heap.size<=wa.heap.size:=Nat.le_trans (by simp) hga.size;have hO5:OwnN wa w.heap.size u5 row:=zB1 (zBt hO2 (World.grownBy_alloc w2 _ none) (by simp)) (λg e=>(l5 g e).2) hga hra;have hOb:OwnN wa W.heap.size vb row2:=zB1 (zBt ownb (World.grownBy_alloc w2 _ none) (by simp)) (λg e=>(lb g e).2) hga hra;clear hga hra hva hO2 ownb hRb hG2;go_wp2_with (at_builtin;refine zAL (by rfl) (.tmp 79) (.tmp 80) (by rfl) wa w2.heap.size hsa va [opN 5 ov] (by rfl) owna u5 _ row (by rfl) hO5 (λ_=>by simp only [List.length_singleton];omega) ?_)
       intro vc wc rowc ownc hgc hrc _;have hGc:w.grownBy wc (some kp):=zAO hGa hgc (λb e=>Nat.le_trans hs2z (hrc b e));have hRc:=hRa.row hgc (λb e=>Nat.le_trans (Nat.le_trans hlo hs2z) (hrc b e));have hsc:w2.heap.size<=wc.heap.size:=Nat.le_trans hsa hgc.size;have hOc:OwnN wc W.heap.size vb row2:=zB1 hOb (λg e=>(lb g e).2) hgc hrc;clear hgc hrc owna hO5 hOb hGa hRa;go_wp2_with (at_builtin;refine zAL (by rfl) (.tmp 82) (.tmp 83) (by rfl) wc w2.heap.size hsc vc ([opN 5 ov]++row) (by rfl) ownc vb _ row2 (by rfl) hOc (λ_=>by simp only [List.length_append,List.length_singleton];omega) ?_)
       intro vd wd rowd ownd hgd hrd _;have HGd:Hid (w.grownBy wd (some kp)):=zAO hGc hgd (λb e=>Nat.le_trans hs2z (hrd b e));have hRd:=hRc.row hgd (λb e=>Nat.le_trans (Nat.le_trans hlo hs2z) (hrd b e));have HOd:Hid (OwnN wd w.heap.size vd (opN 5 ov::(row++row2))):=by
        have:=zBc ownd hs2z;first | exact this | (rw [List.append_assoc] at this;exact this)
       have HQ2:Hid (R0=.inr (c,p)):=by show _=_;rw [HQ.out,HM.out,hs2]
       have HRd:Hid (RS tn lo kp en wd ts2 c p):=hRd;clear hgd hrd ownc hOc hGc hRc hRd ownd HQ HM hs2;go_wp2_with fail
       go_roundg 0
       case rel=>exact ⟨HGd,Or.inr ⟨c,p,_,ts2,rfl,hc,by simp only [List.length_cons,List.length_append];omega,HQ2,HOd,HRd⟩⟩
       case measure=>simp only [List.length_cons] at hgk;omega
   ·have c3:=zMz HR.out;have hcd:(c == 0)=false:=by simpa using hc
    go_wp2_with fail
    go_quiet (fail)
    have hb9:Below wr.heap.size wr (wr.drewN nq):=zAG (Below.refl _ _) nq;go_wp2;go_ret;rw [HQ.out];exact ⟨zAB HG.out (zAC hb9 _),hc,_,row,us,rfl,HO.out.below hb9,hl,HR.out.below hb9⟩
