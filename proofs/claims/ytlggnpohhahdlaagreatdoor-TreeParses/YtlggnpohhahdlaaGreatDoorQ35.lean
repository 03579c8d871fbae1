/- TQOp. -/
import Derived.Test.YtlggnpohhahdlaaGreatDoorQ34
set_option maxHeartbeats 3200000
set_option maxRecDepth 100000
namespace Go.Proofs.YtlggnpohhahdlaaGreatDoor
open Go.RowKit Go.Shelf
set_option linter.unusedVariables false
def oW:Nat→List Value
 | 0=>[.string ⟨#[61]⟩,.string ⟨#[60,62]⟩,.string ⟨#[60]⟩,.string ⟨#[60,61]⟩,.string ⟨#[62]⟩,.string ⟨#[62,61]⟩]
 | 1=>[.string ⟨#[38]⟩]
 | 2=>[.string ⟨#[43]⟩,.string ⟨#[45]⟩]
 | 3=>[.string ⟨#[42]⟩,.string ⟨#[47]⟩]
 | _=>[.string ⟨#[94]⟩]
def oO:Nat→List Value
 | 0=>[.int .i64 21,.int .i64 22,.int .i64 23,.int .i64 24,.int .i64 25,.int .i64 26]
 | 1=>[.int .i64 16]
 | 2=>[.int .i64 11,.int .i64 12]
 | 3=>[.int .i64 13,.int .i64 14]
 | _=>[.int .i64 15]
def oN:Nat→Nat
 | 0=>6
 | 1=>1
 | 2=>2
 | 3=>2
 | _=>1
def oas (m:List UInt8) (k:Int):Int:=match Wt.opAs m k with
 | some o=>o.1
 | none=>0
def OpAt (k:Nat) (m:List UInt8) (j:Nat) (r:Int):Prop:=j≤oN k∧(∀ i,i<j→∃ q:List UInt8,(oW k)[i]? = some (.string ⟨q.toArray⟩)∧¬ q=m)∧((j=oN k∧r=0) ∨ (j<oN k∧(oW k)[j]? = some (.string ⟨m.toArray⟩)∧(oO k)[j]? = some (.int .i64 r)))
theorem opAt_0 (m:List UInt8):∃ j,OpAt 0 m j (oas m 0):=by
 by_cases h0:m=[61]
 ·rw [h0];refine ⟨0,by decide,fun i hi=>?_,Or.inr ⟨by decide,rfl,by rfl⟩⟩;exact absurd hi (Nat.not_lt_zero _)
 by_cases h1:m=[60,62]
 ·rw [h1];refine ⟨1,by decide,fun i hi=>?_,Or.inr ⟨by decide,rfl,by rfl⟩⟩;match i,hi with
  | 0,_=>exact ⟨[61],rfl,by decide⟩
  | i+1,hi=>omega
 by_cases h2:m=[60]
 ·rw [h2];refine ⟨2,by decide,fun i hi=>?_,Or.inr ⟨by decide,rfl,by rfl⟩⟩;match i,hi with
  | 0,_=>exact ⟨[61],rfl,by decide⟩
  | 1,_=>exact ⟨[60,62],rfl,by decide⟩
  | i+2,hi=>omega
 by_cases h3:m=[60,61]
 ·rw [h3];refine ⟨3,by decide,fun i hi=>?_,Or.inr ⟨by decide,rfl,by rfl⟩⟩;match i,hi with
  | 0,_=>exact ⟨[61],rfl,by decide⟩
  | 1,_=>exact ⟨[60,62],rfl,by decide⟩
  | 2,_=>exact ⟨[60],rfl,by decide⟩
  | i+3,hi=>omega
 by_cases h4:m=[62]
 ·rw [h4];refine ⟨4,by decide,fun i hi=>?_,Or.inr ⟨by decide,rfl,by rfl⟩⟩;match i,hi with
  | 0,_=>exact ⟨[61],rfl,by decide⟩
  | 1,_=>exact ⟨[60,62],rfl,by decide⟩
  | 2,_=>exact ⟨[60],rfl,by decide⟩
  | 3,_=>exact ⟨[60,61],rfl,by decide⟩
  | i+4,hi=>omega
 by_cases h5:m=[62,61]
 ·rw [h5];refine ⟨5,by decide,fun i hi=>?_,Or.inr ⟨by decide,rfl,by rfl⟩⟩;match i,hi with
  | 0,_=>exact ⟨[61],rfl,by decide⟩
  | 1,_=>exact ⟨[60,62],rfl,by decide⟩
  | 2,_=>exact ⟨[60],rfl,by decide⟩
  | 3,_=>exact ⟨[60,61],rfl,by decide⟩
  | 4,_=>exact ⟨[62],rfl,by decide⟩
  | i+5,hi=>omega
 ·have e:oas m 0=0:=by
   have:Wt.opAs m 0=none:=by
    unfold Wt.opAs Wt.opsT;simp [ne_comm.1 h0,ne_comm.1 h1,ne_comm.1 h2,ne_comm.1 h3,ne_comm.1 h4,ne_comm.1 h5]
   unfold oas;rw [this]
  rw [e];refine ⟨6,by decide,fun i hi=>?_,Or.inl ⟨rfl,rfl⟩⟩;match i,hi with
  | 0,_=>exact ⟨[61],rfl,fun e=>h0 e.symm⟩
  | 1,_=>exact ⟨[60,62],rfl,fun e=>h1 e.symm⟩
  | 2,_=>exact ⟨[60],rfl,fun e=>h2 e.symm⟩
  | 3,_=>exact ⟨[60,61],rfl,fun e=>h3 e.symm⟩
  | 4,_=>exact ⟨[62],rfl,fun e=>h4 e.symm⟩
  | 5,_=>exact ⟨[62,61],rfl,fun e=>h5 e.symm⟩
  | i+6,hi=>omega
theorem opAt_1 (m:List UInt8):∃ j,OpAt 1 m j (oas m 1):=by
 by_cases h0:m=[38]
 ·rw [h0];refine ⟨0,by decide,fun i hi=>?_,Or.inr ⟨by decide,rfl,by rfl⟩⟩;exact absurd hi (Nat.not_lt_zero _)
 ·have e:oas m 1=0:=by
   have:Wt.opAs m 1=none:=by
    unfold Wt.opAs Wt.opsT;simp [ne_comm.1 h0]
   unfold oas;rw [this]
  rw [e];refine ⟨1,by decide,fun i hi=>?_,Or.inl ⟨rfl,rfl⟩⟩;match i,hi with
  | 0,_=>exact ⟨[38],rfl,fun e=>h0 e.symm⟩
  | i+1,hi=>omega
theorem opAt_2 (m:List UInt8):∃ j,OpAt 2 m j (oas m 2):=by
 by_cases h0:m=[43]
 ·rw [h0];refine ⟨0,by decide,fun i hi=>?_,Or.inr ⟨by decide,rfl,by rfl⟩⟩;exact absurd hi (Nat.not_lt_zero _)
 by_cases h1:m=[45]
 ·rw [h1];refine ⟨1,by decide,fun i hi=>?_,Or.inr ⟨by decide,rfl,by rfl⟩⟩;match i,hi with
  | 0,_=>exact ⟨[43],rfl,by decide⟩
  | i+1,hi=>omega
 ·have e:oas m 2=0:=by
   have:Wt.opAs m 2=none:=by
    unfold Wt.opAs Wt.opsT;simp [ne_comm.1 h0,ne_comm.1 h1]
   unfold oas;rw [this]
  rw [e];refine ⟨2,by decide,fun i hi=>?_,Or.inl ⟨rfl,rfl⟩⟩;match i,hi with
  | 0,_=>exact ⟨[43],rfl,fun e=>h0 e.symm⟩
  | 1,_=>exact ⟨[45],rfl,fun e=>h1 e.symm⟩
  | i+2,hi=>omega
theorem opAt_3 (m:List UInt8):∃ j,OpAt 3 m j (oas m 3):=by
 by_cases h0:m=[42]
 ·rw [h0];refine ⟨0,by decide,fun i hi=>?_,Or.inr ⟨by decide,rfl,by rfl⟩⟩;exact absurd hi (Nat.not_lt_zero _)
 by_cases h1:m=[47]
 ·rw [h1];refine ⟨1,by decide,fun i hi=>?_,Or.inr ⟨by decide,rfl,by rfl⟩⟩;match i,hi with
  | 0,_=>exact ⟨[42],rfl,by decide⟩
  | i+1,hi=>omega
 ·have e:oas m 3=0:=by
   have:Wt.opAs m 3=none:=by
    unfold Wt.opAs Wt.opsT;simp [ne_comm.1 h0,ne_comm.1 h1]
   unfold oas;rw [this]
  rw [e];refine ⟨2,by decide,fun i hi=>?_,Or.inl ⟨rfl,rfl⟩⟩;match i,hi with
  | 0,_=>exact ⟨[42],rfl,fun e=>h0 e.symm⟩
  | 1,_=>exact ⟨[47],rfl,fun e=>h1 e.symm⟩
  | i+2,hi=>omega
theorem opAt_4 (m:List UInt8):∃ j,OpAt 4 m j (oas m 4):=by
 by_cases h0:m=[94]
 ·rw [h0];refine ⟨0,by decide,fun i hi=>?_,Or.inr ⟨by decide,rfl,by rfl⟩⟩;exact absurd hi (Nat.not_lt_zero _)
 ·have e:oas m 4=0:=by
   have:Wt.opAs m 4=none:=by
    unfold Wt.opAs Wt.opsT;simp [ne_comm.1 h0]
   unfold oas;rw [this]
  rw [e];refine ⟨1,by decide,fun i hi=>?_,Or.inl ⟨rfl,rfl⟩⟩;match i,hi with
  | 0,_=>exact ⟨[94],rfl,fun e=>h0 e.symm⟩
  | i+1,hi=>omega
theorem opAt_any (k:Nat) (hk:k<5) (m:List UInt8):∃ j,OpAt k m j (oas m k):=by
 match k,hk with
 | 0,_=>exact opAt_0 m
 | 1,_=>exact opAt_1 m
 | 2,_=>exact opAt_2 m
 | 3,_=>exact opAt_3 m
 | 4,_=>exact opAt_4 m
 | k+5,hk=>omega
theorem op_world (w:World) (k:Nat) (hk:k<5):∃ rb ob,((((((((((((w.alloc (.cells #[.string ⟨#[61]⟩,.string ⟨#[60,62]⟩,.string ⟨#[60]⟩,.string ⟨#[60,61]⟩,.string ⟨#[62]⟩,.string ⟨#[62,61]⟩] 9)).alloc (.cells #[.string ⟨#[38]⟩] 9)).alloc (.cells #[.string ⟨#[43]⟩,.string ⟨#[45]⟩] 9)).alloc (.cells #[.string ⟨#[42]⟩,.string ⟨#[47]⟩] 9)).alloc (.cells #[.string ⟨#[94]⟩] 9)).alloc (.cells #[.slice (some ⟨w.heap.size,0,none⟩) 6 6,.slice (some ⟨w.heap.size+1,0,none⟩) 1 1,.slice (some ⟨w.heap.size+2,0,none⟩) 2 2,.slice (some ⟨w.heap.size+3,0,none⟩) 2 2,.slice (some ⟨w.heap.size+4,0,none⟩) 1 1] 111)).alloc (.cells #[.int .i64 21,.int .i64 22,.int .i64 23,.int .i64 24,.int .i64 25,.int .i64 26] 3)).alloc (.cells #[.int .i64 16] 3)).alloc (.cells #[.int .i64 11,.int .i64 12] 3)).alloc (.cells #[.int .i64 13,.int .i64 14] 3)).alloc (.cells #[.int .i64 15] 3)).alloc (.cells #[.slice (some ⟨w.heap.size+6,0,none⟩) 6 6,.slice (some ⟨w.heap.size+7,0,none⟩) 1 1,.slice (some ⟨w.heap.size+8,0,none⟩) 2 2,.slice (some ⟨w.heap.size+9,0,none⟩) 2 2,.slice (some ⟨w.heap.size+10,0,none⟩) 1 1] 34)).cell? ⟨w.heap.size+5,k,none⟩=some (.slice (some ⟨rb,0,none⟩) (oN k) (oN k))∧((((((((((((w.alloc (.cells #[.string ⟨#[61]⟩,.string ⟨#[60,62]⟩,.string ⟨#[60]⟩,.string ⟨#[60,61]⟩,.string ⟨#[62]⟩,.string ⟨#[62,61]⟩] 9)).alloc (.cells #[.string ⟨#[38]⟩] 9)).alloc (.cells #[.string ⟨#[43]⟩,.string ⟨#[45]⟩] 9)).alloc (.cells #[.string ⟨#[42]⟩,.string ⟨#[47]⟩] 9)).alloc (.cells #[.string ⟨#[94]⟩] 9)).alloc (.cells #[.slice (some ⟨w.heap.size,0,none⟩) 6 6,.slice (some ⟨w.heap.size+1,0,none⟩) 1 1,.slice (some ⟨w.heap.size+2,0,none⟩) 2 2,.slice (some ⟨w.heap.size+3,0,none⟩) 2 2,.slice (some ⟨w.heap.size+4,0,none⟩) 1 1] 111)).alloc (.cells #[.int .i64 21,.int .i64 22,.int .i64 23,.int .i64 24,.int .i64 25,.int .i64 26] 3)).alloc (.cells #[.int .i64 16] 3)).alloc (.cells #[.int .i64 11,.int .i64 12] 3)).alloc (.cells #[.int .i64 13,.int .i64 14] 3)).alloc (.cells #[.int .i64 15] 3)).alloc (.cells #[.slice (some ⟨w.heap.size+6,0,none⟩) 6 6,.slice (some ⟨w.heap.size+7,0,none⟩) 1 1,.slice (some ⟨w.heap.size+8,0,none⟩) 2 2,.slice (some ⟨w.heap.size+9,0,none⟩) 2 2,.slice (some ⟨w.heap.size+10,0,none⟩) 1 1] 34)).cell? ⟨w.heap.size+11,k,none⟩=some (.slice (some ⟨ob,0,none⟩) (oN k) (oN k))∧(∀ i v,(oW k)[i]? = some v→((((((((((((w.alloc (.cells #[.string ⟨#[61]⟩,.string ⟨#[60,62]⟩,.string ⟨#[60]⟩,.string ⟨#[60,61]⟩,.string ⟨#[62]⟩,.string ⟨#[62,61]⟩] 9)).alloc (.cells #[.string ⟨#[38]⟩] 9)).alloc (.cells #[.string ⟨#[43]⟩,.string ⟨#[45]⟩] 9)).alloc (.cells #[.string ⟨#[42]⟩,.string ⟨#[47]⟩] 9)).alloc (.cells #[.string ⟨#[94]⟩] 9)).alloc (.cells #[.slice (some ⟨w.heap.size,0,none⟩) 6 6,.slice (some ⟨w.heap.size+1,0,none⟩) 1 1,.slice (some ⟨w.heap.size+2,0,none⟩) 2 2,.slice (some ⟨w.heap.size+3,0,none⟩) 2 2,.slice (some ⟨w.heap.size+4,0,none⟩) 1 1] 111)).alloc (.cells #[.int .i64 21,.int .i64 22,.int .i64 23,.int .i64 24,.int .i64 25,.int .i64 26] 3)).alloc (.cells #[.int .i64 16] 3)).alloc (.cells #[.int .i64 11,.int .i64 12] 3)).alloc (.cells #[.int .i64 13,.int .i64 14] 3)).alloc (.cells #[.int .i64 15] 3)).alloc (.cells #[.slice (some ⟨w.heap.size+6,0,none⟩) 6 6,.slice (some ⟨w.heap.size+7,0,none⟩) 1 1,.slice (some ⟨w.heap.size+8,0,none⟩) 2 2,.slice (some ⟨w.heap.size+9,0,none⟩) 2 2,.slice (some ⟨w.heap.size+10,0,none⟩) 1 1] 34)).cell? ⟨rb,i,none⟩=some v)∧(∀ i v,(oO k)[i]? = some v→((((((((((((w.alloc (.cells #[.string ⟨#[61]⟩,.string ⟨#[60,62]⟩,.string ⟨#[60]⟩,.string ⟨#[60,61]⟩,.string ⟨#[62]⟩,.string ⟨#[62,61]⟩] 9)).alloc (.cells #[.string ⟨#[38]⟩] 9)).alloc (.cells #[.string ⟨#[43]⟩,.string ⟨#[45]⟩] 9)).alloc (.cells #[.string ⟨#[42]⟩,.string ⟨#[47]⟩] 9)).alloc (.cells #[.string ⟨#[94]⟩] 9)).alloc (.cells #[.slice (some ⟨w.heap.size,0,none⟩) 6 6,.slice (some ⟨w.heap.size+1,0,none⟩) 1 1,.slice (some ⟨w.heap.size+2,0,none⟩) 2 2,.slice (some ⟨w.heap.size+3,0,none⟩) 2 2,.slice (some ⟨w.heap.size+4,0,none⟩) 1 1] 111)).alloc (.cells #[.int .i64 21,.int .i64 22,.int .i64 23,.int .i64 24,.int .i64 25,.int .i64 26] 3)).alloc (.cells #[.int .i64 16] 3)).alloc (.cells #[.int .i64 11,.int .i64 12] 3)).alloc (.cells #[.int .i64 13,.int .i64 14] 3)).alloc (.cells #[.int .i64 15] 3)).alloc (.cells #[.slice (some ⟨w.heap.size+6,0,none⟩) 6 6,.slice (some ⟨w.heap.size+7,0,none⟩) 1 1,.slice (some ⟨w.heap.size+8,0,none⟩) 2 2,.slice (some ⟨w.heap.size+9,0,none⟩) 2 2,.slice (some ⟨w.heap.size+10,0,none⟩) 1 1] 34)).cell? ⟨ob,i,none⟩=some v):=by
 have pR:=(AtL.alloc (AtL.alloc (AtL.alloc (AtL.alloc (AtL.alloc (AtL.alloc (AtL.new (((((w.alloc (.cells #[.string ⟨#[61]⟩,.string ⟨#[60,62]⟩,.string ⟨#[60]⟩,.string ⟨#[60,61]⟩,.string ⟨#[62]⟩,.string ⟨#[62,61]⟩] 9)).alloc (.cells #[.string ⟨#[38]⟩] 9)).alloc (.cells #[.string ⟨#[43]⟩,.string ⟨#[45]⟩] 9)).alloc (.cells #[.string ⟨#[42]⟩,.string ⟨#[47]⟩] 9)).alloc (.cells #[.string ⟨#[94]⟩] 9)) 111 (k:=w.heap.size+5) (by simp) [.slice (some ⟨w.heap.size,0,none⟩) 6 6,.slice (some ⟨w.heap.size+1,0,none⟩) 1 1,.slice (some ⟨w.heap.size+2,0,none⟩) 2 2,.slice (some ⟨w.heap.size+3,0,none⟩) 2 2,.slice (some ⟨w.heap.size+4,0,none⟩) 1 1]) (.cells #[.int .i64 21,.int .i64 22,.int .i64 23,.int .i64 24,.int .i64 25,.int .i64 26] 3)) (.cells #[.int .i64 16] 3)) (.cells #[.int .i64 11,.int .i64 12] 3)) (.cells #[.int .i64 13,.int .i64 14] 3)) (.cells #[.int .i64 15] 3)) (.cells #[.slice (some ⟨w.heap.size+6,0,none⟩) 6 6,.slice (some ⟨w.heap.size+7,0,none⟩) 1 1,.slice (some ⟨w.heap.size+8,0,none⟩) 2 2,.slice (some ⟨w.heap.size+9,0,none⟩) 2 2,.slice (some ⟨w.heap.size+10,0,none⟩) 1 1] 34))
 have pO:=(AtL.new (((((((((((w.alloc (.cells #[.string ⟨#[61]⟩,.string ⟨#[60,62]⟩,.string ⟨#[60]⟩,.string ⟨#[60,61]⟩,.string ⟨#[62]⟩,.string ⟨#[62,61]⟩] 9)).alloc (.cells #[.string ⟨#[38]⟩] 9)).alloc (.cells #[.string ⟨#[43]⟩,.string ⟨#[45]⟩] 9)).alloc (.cells #[.string ⟨#[42]⟩,.string ⟨#[47]⟩] 9)).alloc (.cells #[.string ⟨#[94]⟩] 9)).alloc (.cells #[.slice (some ⟨w.heap.size,0,none⟩) 6 6,.slice (some ⟨w.heap.size+1,0,none⟩) 1 1,.slice (some ⟨w.heap.size+2,0,none⟩) 2 2,.slice (some ⟨w.heap.size+3,0,none⟩) 2 2,.slice (some ⟨w.heap.size+4,0,none⟩) 1 1] 111)).alloc (.cells #[.int .i64 21,.int .i64 22,.int .i64 23,.int .i64 24,.int .i64 25,.int .i64 26] 3)).alloc (.cells #[.int .i64 16] 3)).alloc (.cells #[.int .i64 11,.int .i64 12] 3)).alloc (.cells #[.int .i64 13,.int .i64 14] 3)).alloc (.cells #[.int .i64 15] 3)) 34 (k:=w.heap.size+11) (by simp) [.slice (some ⟨w.heap.size+6,0,none⟩) 6 6,.slice (some ⟨w.heap.size+7,0,none⟩) 1 1,.slice (some ⟨w.heap.size+8,0,none⟩) 2 2,.slice (some ⟨w.heap.size+9,0,none⟩) 2 2,.slice (some ⟨w.heap.size+10,0,none⟩) 1 1])
 match k,hk with
 | 0,_=>exact ⟨w.heap.size,w.heap.size+6,pR.2.1 0 _ rfl,pO.2.1 0 _ rfl,(AtL.alloc (AtL.alloc (AtL.alloc (AtL.alloc (AtL.alloc (AtL.alloc (AtL.alloc (AtL.alloc (AtL.alloc (AtL.alloc (AtL.alloc (AtL.new w 9 (k:=w.heap.size) (by rfl) [.string ⟨#[61]⟩,.string ⟨#[60,62]⟩,.string ⟨#[60]⟩,.string ⟨#[60,61]⟩,.string ⟨#[62]⟩,.string ⟨#[62,61]⟩]) (.cells #[.string ⟨#[38]⟩] 9)) (.cells #[.string ⟨#[43]⟩,.string ⟨#[45]⟩] 9)) (.cells #[.string ⟨#[42]⟩,.string ⟨#[47]⟩] 9)) (.cells #[.string ⟨#[94]⟩] 9)) (.cells #[.slice (some ⟨w.heap.size,0,none⟩) 6 6,.slice (some ⟨w.heap.size+1,0,none⟩) 1 1,.slice (some ⟨w.heap.size+2,0,none⟩) 2 2,.slice (some ⟨w.heap.size+3,0,none⟩) 2 2,.slice (some ⟨w.heap.size+4,0,none⟩) 1 1] 111)) (.cells #[.int .i64 21,.int .i64 22,.int .i64 23,.int .i64 24,.int .i64 25,.int .i64 26] 3)) (.cells #[.int .i64 16] 3)) (.cells #[.int .i64 11,.int .i64 12] 3)) (.cells #[.int .i64 13,.int .i64 14] 3)) (.cells #[.int .i64 15] 3)) (.cells #[.slice (some ⟨w.heap.size+6,0,none⟩) 6 6,.slice (some ⟨w.heap.size+7,0,none⟩) 1 1,.slice (some ⟨w.heap.size+8,0,none⟩) 2 2,.slice (some ⟨w.heap.size+9,0,none⟩) 2 2,.slice (some ⟨w.heap.size+10,0,none⟩) 1 1] 34)).2.1,(AtL.alloc (AtL.alloc (AtL.alloc (AtL.alloc (AtL.alloc (AtL.new ((((((w.alloc (.cells #[.string ⟨#[61]⟩,.string ⟨#[60,62]⟩,.string ⟨#[60]⟩,.string ⟨#[60,61]⟩,.string ⟨#[62]⟩,.string ⟨#[62,61]⟩] 9)).alloc (.cells #[.string ⟨#[38]⟩] 9)).alloc (.cells #[.string ⟨#[43]⟩,.string ⟨#[45]⟩] 9)).alloc (.cells #[.string ⟨#[42]⟩,.string ⟨#[47]⟩] 9)).alloc (.cells #[.string ⟨#[94]⟩] 9)).alloc (.cells #[.slice (some ⟨w.heap.size,0,none⟩) 6 6,.slice (some ⟨w.heap.size+1,0,none⟩) 1 1,.slice (some ⟨w.heap.size+2,0,none⟩) 2 2,.slice (some ⟨w.heap.size+3,0,none⟩) 2 2,.slice (some ⟨w.heap.size+4,0,none⟩) 1 1] 111)) 3 (k:=w.heap.size+6) (by simp) [.int .i64 21,.int .i64 22,.int .i64 23,.int .i64 24,.int .i64 25,.int .i64 26]) (.cells #[.int .i64 16] 3)) (.cells #[.int .i64 11,.int .i64 12] 3)) (.cells #[.int .i64 13,.int .i64 14] 3)) (.cells #[.int .i64 15] 3)) (.cells #[.slice (some ⟨w.heap.size+6,0,none⟩) 6 6,.slice (some ⟨w.heap.size+7,0,none⟩) 1 1,.slice (some ⟨w.heap.size+8,0,none⟩) 2 2,.slice (some ⟨w.heap.size+9,0,none⟩) 2 2,.slice (some ⟨w.heap.size+10,0,none⟩) 1 1] 34)).2.1⟩
 | 1,_=>exact ⟨w.heap.size+1,w.heap.size+7,pR.2.1 1 _ rfl,pO.2.1 1 _ rfl,(AtL.alloc (AtL.alloc (AtL.alloc (AtL.alloc (AtL.alloc (AtL.alloc (AtL.alloc (AtL.alloc (AtL.alloc (AtL.alloc (AtL.new (w.alloc (.cells #[.string ⟨#[61]⟩,.string ⟨#[60,62]⟩,.string ⟨#[60]⟩,.string ⟨#[60,61]⟩,.string ⟨#[62]⟩,.string ⟨#[62,61]⟩] 9)) 9 (k:=w.heap.size+1) (by simp) [.string ⟨#[38]⟩]) (.cells #[.string ⟨#[43]⟩,.string ⟨#[45]⟩] 9)) (.cells #[.string ⟨#[42]⟩,.string ⟨#[47]⟩] 9)) (.cells #[.string ⟨#[94]⟩] 9)) (.cells #[.slice (some ⟨w.heap.size,0,none⟩) 6 6,.slice (some ⟨w.heap.size+1,0,none⟩) 1 1,.slice (some ⟨w.heap.size+2,0,none⟩) 2 2,.slice (some ⟨w.heap.size+3,0,none⟩) 2 2,.slice (some ⟨w.heap.size+4,0,none⟩) 1 1] 111)) (.cells #[.int .i64 21,.int .i64 22,.int .i64 23,.int .i64 24,.int .i64 25,.int .i64 26] 3)) (.cells #[.int .i64 16] 3)) (.cells #[.int .i64 11,.int .i64 12] 3)) (.cells #[.int .i64 13,.int .i64 14] 3)) (.cells #[.int .i64 15] 3)) (.cells #[.slice (some ⟨w.heap.size+6,0,none⟩) 6 6,.slice (some ⟨w.heap.size+7,0,none⟩) 1 1,.slice (some ⟨w.heap.size+8,0,none⟩) 2 2,.slice (some ⟨w.heap.size+9,0,none⟩) 2 2,.slice (some ⟨w.heap.size+10,0,none⟩) 1 1] 34)).2.1,(AtL.alloc (AtL.alloc (AtL.alloc (AtL.alloc (AtL.new (((((((w.alloc (.cells #[.string ⟨#[61]⟩,.string ⟨#[60,62]⟩,.string ⟨#[60]⟩,.string ⟨#[60,61]⟩,.string ⟨#[62]⟩,.string ⟨#[62,61]⟩] 9)).alloc (.cells #[.string ⟨#[38]⟩] 9)).alloc (.cells #[.string ⟨#[43]⟩,.string ⟨#[45]⟩] 9)).alloc (.cells #[.string ⟨#[42]⟩,.string ⟨#[47]⟩] 9)).alloc (.cells #[.string ⟨#[94]⟩] 9)).alloc (.cells #[.slice (some ⟨w.heap.size,0,none⟩) 6 6,.slice (some ⟨w.heap.size+1,0,none⟩) 1 1,.slice (some ⟨w.heap.size+2,0,none⟩) 2 2,.slice (some ⟨w.heap.size+3,0,none⟩) 2 2,.slice (some ⟨w.heap.size+4,0,none⟩) 1 1] 111)).alloc (.cells #[.int .i64 21,.int .i64 22,.int .i64 23,.int .i64 24,.int .i64 25,.int .i64 26] 3)) 3 (k:=w.heap.size+7) (by simp) [.int .i64 16]) (.cells #[.int .i64 11,.int .i64 12] 3)) (.cells #[.int .i64 13,.int .i64 14] 3)) (.cells #[.int .i64 15] 3)) (.cells #[.slice (some ⟨w.heap.size+6,0,none⟩) 6 6,.slice (some ⟨w.heap.size+7,0,none⟩) 1 1,.slice (some ⟨w.heap.size+8,0,none⟩) 2 2,.slice (some ⟨w.heap.size+9,0,none⟩) 2 2,.slice (some ⟨w.heap.size+10,0,none⟩) 1 1] 34)).2.1⟩
 | 2,_=>exact ⟨w.heap.size+2,w.heap.size+8,pR.2.1 2 _ rfl,pO.2.1 2 _ rfl,(AtL.alloc (AtL.alloc (AtL.alloc (AtL.alloc (AtL.alloc (AtL.alloc (AtL.alloc (AtL.alloc (AtL.alloc (AtL.new ((w.alloc (.cells #[.string ⟨#[61]⟩,.string ⟨#[60,62]⟩,.string ⟨#[60]⟩,.string ⟨#[60,61]⟩,.string ⟨#[62]⟩,.string ⟨#[62,61]⟩] 9)).alloc (.cells #[.string ⟨#[38]⟩] 9)) 9 (k:=w.heap.size+2) (by simp) [.string ⟨#[43]⟩,.string ⟨#[45]⟩]) (.cells #[.string ⟨#[42]⟩,.string ⟨#[47]⟩] 9)) (.cells #[.string ⟨#[94]⟩] 9)) (.cells #[.slice (some ⟨w.heap.size,0,none⟩) 6 6,.slice (some ⟨w.heap.size+1,0,none⟩) 1 1,.slice (some ⟨w.heap.size+2,0,none⟩) 2 2,.slice (some ⟨w.heap.size+3,0,none⟩) 2 2,.slice (some ⟨w.heap.size+4,0,none⟩) 1 1] 111)) (.cells #[.int .i64 21,.int .i64 22,.int .i64 23,.int .i64 24,.int .i64 25,.int .i64 26] 3)) (.cells #[.int .i64 16] 3)) (.cells #[.int .i64 11,.int .i64 12] 3)) (.cells #[.int .i64 13,.int .i64 14] 3)) (.cells #[.int .i64 15] 3)) (.cells #[.slice (some ⟨w.heap.size+6,0,none⟩) 6 6,.slice (some ⟨w.heap.size+7,0,none⟩) 1 1,.slice (some ⟨w.heap.size+8,0,none⟩) 2 2,.slice (some ⟨w.heap.size+9,0,none⟩) 2 2,.slice (some ⟨w.heap.size+10,0,none⟩) 1 1] 34)).2.1,(AtL.alloc (AtL.alloc (AtL.alloc (AtL.new ((((((((w.alloc (.cells #[.string ⟨#[61]⟩,.string ⟨#[60,62]⟩,.string ⟨#[60]⟩,.string ⟨#[60,61]⟩,.string ⟨#[62]⟩,.string ⟨#[62,61]⟩] 9)).alloc (.cells #[.string ⟨#[38]⟩] 9)).alloc (.cells #[.string ⟨#[43]⟩,.string ⟨#[45]⟩] 9)).alloc (.cells #[.string ⟨#[42]⟩,.string ⟨#[47]⟩] 9)).alloc (.cells #[.string ⟨#[94]⟩] 9)).alloc (.cells #[.slice (some ⟨w.heap.size,0,none⟩) 6 6,.slice (some ⟨w.heap.size+1,0,none⟩) 1 1,.slice (some ⟨w.heap.size+2,0,none⟩) 2 2,.slice (some ⟨w.heap.size+3,0,none⟩) 2 2,.slice (some ⟨w.heap.size+4,0,none⟩) 1 1] 111)).alloc (.cells #[.int .i64 21,.int .i64 22,.int .i64 23,.int .i64 24,.int .i64 25,.int .i64 26] 3)).alloc (.cells #[.int .i64 16] 3)) 3 (k:=w.heap.size+8) (by simp) [.int .i64 11,.int .i64 12]) (.cells #[.int .i64 13,.int .i64 14] 3)) (.cells #[.int .i64 15] 3)) (.cells #[.slice (some ⟨w.heap.size+6,0,none⟩) 6 6,.slice (some ⟨w.heap.size+7,0,none⟩) 1 1,.slice (some ⟨w.heap.size+8,0,none⟩) 2 2,.slice (some ⟨w.heap.size+9,0,none⟩) 2 2,.slice (some ⟨w.heap.size+10,0,none⟩) 1 1] 34)).2.1⟩
 | 3,_=>exact ⟨w.heap.size+3,w.heap.size+9,pR.2.1 3 _ rfl,pO.2.1 3 _ rfl,(AtL.alloc (AtL.alloc (AtL.alloc (AtL.alloc (AtL.alloc (AtL.alloc (AtL.alloc (AtL.alloc (AtL.new (((w.alloc (.cells #[.string ⟨#[61]⟩,.string ⟨#[60,62]⟩,.string ⟨#[60]⟩,.string ⟨#[60,61]⟩,.string ⟨#[62]⟩,.string ⟨#[62,61]⟩] 9)).alloc (.cells #[.string ⟨#[38]⟩] 9)).alloc (.cells #[.string ⟨#[43]⟩,.string ⟨#[45]⟩] 9)) 9 (k:=w.heap.size+3) (by simp) [.string ⟨#[42]⟩,.string ⟨#[47]⟩]) (.cells #[.string ⟨#[94]⟩] 9)) (.cells #[.slice (some ⟨w.heap.size,0,none⟩) 6 6,.slice (some ⟨w.heap.size+1,0,none⟩) 1 1,.slice (some ⟨w.heap.size+2,0,none⟩) 2 2,.slice (some ⟨w.heap.size+3,0,none⟩) 2 2,.slice (some ⟨w.heap.size+4,0,none⟩) 1 1] 111)) (.cells #[.int .i64 21,.int .i64 22,.int .i64 23,.int .i64 24,.int .i64 25,.int .i64 26] 3)) (.cells #[.int .i64 16] 3)) (.cells #[.int .i64 11,.int .i64 12] 3)) (.cells #[.int .i64 13,.int .i64 14] 3)) (.cells #[.int .i64 15] 3)) (.cells #[.slice (some ⟨w.heap.size+6,0,none⟩) 6 6,.slice (some ⟨w.heap.size+7,0,none⟩) 1 1,.slice (some ⟨w.heap.size+8,0,none⟩) 2 2,.slice (some ⟨w.heap.size+9,0,none⟩) 2 2,.slice (some ⟨w.heap.size+10,0,none⟩) 1 1] 34)).2.1,(AtL.alloc (AtL.alloc (AtL.new (((((((((w.alloc (.cells #[.string ⟨#[61]⟩,.string ⟨#[60,62]⟩,.string ⟨#[60]⟩,.string ⟨#[60,61]⟩,.string ⟨#[62]⟩,.string ⟨#[62,61]⟩] 9)).alloc (.cells #[.string ⟨#[38]⟩] 9)).alloc (.cells #[.string ⟨#[43]⟩,.string ⟨#[45]⟩] 9)).alloc (.cells #[.string ⟨#[42]⟩,.string ⟨#[47]⟩] 9)).alloc (.cells #[.string ⟨#[94]⟩] 9)).alloc (.cells #[.slice (some ⟨w.heap.size,0,none⟩) 6 6,.slice (some ⟨w.heap.size+1,0,none⟩) 1 1,.slice (some ⟨w.heap.size+2,0,none⟩) 2 2,.slice (some ⟨w.heap.size+3,0,none⟩) 2 2,.slice (some ⟨w.heap.size+4,0,none⟩) 1 1] 111)).alloc (.cells #[.int .i64 21,.int .i64 22,.int .i64 23,.int .i64 24,.int .i64 25,.int .i64 26] 3)).alloc (.cells #[.int .i64 16] 3)).alloc (.cells #[.int .i64 11,.int .i64 12] 3)) 3 (k:=w.heap.size+9) (by simp) [.int .i64 13,.int .i64 14]) (.cells #[.int .i64 15] 3)) (.cells #[.slice (some ⟨w.heap.size+6,0,none⟩) 6 6,.slice (some ⟨w.heap.size+7,0,none⟩) 1 1,.slice (some ⟨w.heap.size+8,0,none⟩) 2 2,.slice (some ⟨w.heap.size+9,0,none⟩) 2 2,.slice (some ⟨w.heap.size+10,0,none⟩) 1 1] 34)).2.1⟩
 | 4,_=>exact ⟨w.heap.size+4,w.heap.size+10,pR.2.1 4 _ rfl,pO.2.1 4 _ rfl,(AtL.alloc (AtL.alloc (AtL.alloc (AtL.alloc (AtL.alloc (AtL.alloc (AtL.alloc (AtL.new ((((w.alloc (.cells #[.string ⟨#[61]⟩,.string ⟨#[60,62]⟩,.string ⟨#[60]⟩,.string ⟨#[60,61]⟩,.string ⟨#[62]⟩,.string ⟨#[62,61]⟩] 9)).alloc (.cells #[.string ⟨#[38]⟩] 9)).alloc (.cells #[.string ⟨#[43]⟩,.string ⟨#[45]⟩] 9)).alloc (.cells #[.string ⟨#[42]⟩,.string ⟨#[47]⟩] 9)) 9 (k:=w.heap.size+4) (by simp) [.string ⟨#[94]⟩]) (.cells #[.slice (some ⟨w.heap.size,0,none⟩) 6 6,.slice (some ⟨w.heap.size+1,0,none⟩) 1 1,.slice (some ⟨w.heap.size+2,0,none⟩) 2 2,.slice (some ⟨w.heap.size+3,0,none⟩) 2 2,.slice (some ⟨w.heap.size+4,0,none⟩) 1 1] 111)) (.cells #[.int .i64 21,.int .i64 22,.int .i64 23,.int .i64 24,.int .i64 25,.int .i64 26] 3)) (.cells #[.int .i64 16] 3)) (.cells #[.int .i64 11,.int .i64 12] 3)) (.cells #[.int .i64 13,.int .i64 14] 3)) (.cells #[.int .i64 15] 3)) (.cells #[.slice (some ⟨w.heap.size+6,0,none⟩) 6 6,.slice (some ⟨w.heap.size+7,0,none⟩) 1 1,.slice (some ⟨w.heap.size+8,0,none⟩) 2 2,.slice (some ⟨w.heap.size+9,0,none⟩) 2 2,.slice (some ⟨w.heap.size+10,0,none⟩) 1 1] 34)).2.1,(AtL.alloc (AtL.new ((((((((((w.alloc (.cells #[.string ⟨#[61]⟩,.string ⟨#[60,62]⟩,.string ⟨#[60]⟩,.string ⟨#[60,61]⟩,.string ⟨#[62]⟩,.string ⟨#[62,61]⟩] 9)).alloc (.cells #[.string ⟨#[38]⟩] 9)).alloc (.cells #[.string ⟨#[43]⟩,.string ⟨#[45]⟩] 9)).alloc (.cells #[.string ⟨#[42]⟩,.string ⟨#[47]⟩] 9)).alloc (.cells #[.string ⟨#[94]⟩] 9)).alloc (.cells #[.slice (some ⟨w.heap.size,0,none⟩) 6 6,.slice (some ⟨w.heap.size+1,0,none⟩) 1 1,.slice (some ⟨w.heap.size+2,0,none⟩) 2 2,.slice (some ⟨w.heap.size+3,0,none⟩) 2 2,.slice (some ⟨w.heap.size+4,0,none⟩) 1 1] 111)).alloc (.cells #[.int .i64 21,.int .i64 22,.int .i64 23,.int .i64 24,.int .i64 25,.int .i64 26] 3)).alloc (.cells #[.int .i64 16] 3)).alloc (.cells #[.int .i64 11,.int .i64 12] 3)).alloc (.cells #[.int .i64 13,.int .i64 14] 3)) 3 (k:=w.heap.size+10) (by simp) [.int .i64 15]) (.cells #[.slice (some ⟨w.heap.size+6,0,none⟩) 6 6,.slice (some ⟨w.heap.size+7,0,none⟩) 1 1,.slice (some ⟨w.heap.size+8,0,none⟩) 2 2,.slice (some ⟨w.heap.size+9,0,none⟩) 2 2,.slice (some ⟨w.heap.size+10,0,none⟩) 1 1] 34)).2.1⟩
 | k+5,hk=>omega
theorem qop_any (k:Nat) (hk:k<5) (m:List UInt8) (w:World):Calls Tryz.prog 43 #[.int .i64 (k:Int),.string ⟨m.toArray⟩] w fun e w'=>e=.returned (.int .i64 (oas m k))∧Below w.heap.size w w':=by
 obtain ⟨j,hjn,hlt,hend⟩:=opAt_any k hk m;obtain ⟨rb,ob,cR,cO,hW,hO⟩:=op_world w k hk;have hB:Below w.heap.size w ((((((((((((w.alloc (.cells #[.string ⟨#[61]⟩,.string ⟨#[60,62]⟩,.string ⟨#[60]⟩,.string ⟨#[60,61]⟩,.string ⟨#[62]⟩,.string ⟨#[62,61]⟩] 9)).alloc (.cells #[.string ⟨#[38]⟩] 9)).alloc (.cells #[.string ⟨#[43]⟩,.string ⟨#[45]⟩] 9)).alloc (.cells #[.string ⟨#[42]⟩,.string ⟨#[47]⟩] 9)).alloc (.cells #[.string ⟨#[94]⟩] 9)).alloc (.cells #[.slice (some ⟨w.heap.size,0,none⟩) 6 6,.slice (some ⟨w.heap.size+1,0,none⟩) 1 1,.slice (some ⟨w.heap.size+2,0,none⟩) 2 2,.slice (some ⟨w.heap.size+3,0,none⟩) 2 2,.slice (some ⟨w.heap.size+4,0,none⟩) 1 1] 111)).alloc (.cells #[.int .i64 21,.int .i64 22,.int .i64 23,.int .i64 24,.int .i64 25,.int .i64 26] 3)).alloc (.cells #[.int .i64 16] 3)).alloc (.cells #[.int .i64 11,.int .i64 12] 3)).alloc (.cells #[.int .i64 13,.int .i64 14] 3)).alloc (.cells #[.int .i64 15] 3)).alloc (.cells #[.slice (some ⟨w.heap.size+6,0,none⟩) 6 6,.slice (some ⟨w.heap.size+7,0,none⟩) 1 1,.slice (some ⟨w.heap.size+8,0,none⟩) 2 2,.slice (some ⟨w.heap.size+9,0,none⟩) 2 2,.slice (some ⟨w.heap.size+10,0,none⟩) 1 1] 34)):=ball (ball (ball (ball (ball (ball (ball (ball (ball (ball (ball (ball (Below.refl _ w) _) _) _) _) _) _) _) _) _) _) _) _;have hki:(k:Int)<5:=by omega
 generalize oas m k=res at *;have hn6:(oN k:Int)≤6:=by
  have:oN k≤6:=by
   match k,hk with
   | 0,_=>decide
   | 1,_=>decide
   | 2,_=>decide
   | 3,_=>decide
   | 4,_=>decide
   | k+5,hk=>omega
  omega
 have HE:Hid ((j=oN k∧res=0) ∨ (j<oN k∧(oW k)[j]? = some (.string ⟨m.toArray⟩)∧(oO k)[j]? = some (.int .i64 res))):=hend;have HLT:Hid (∀ i,i<j→∃ q:List UInt8,(oW k)[i]? = some (.string ⟨q.toArray⟩)∧¬ q=m):=hlt;generalize oN k=n at *;clear hend hlt;go_enter Tryz.func43,Tryz.ntmps43;go_upto_region 3 with fail
 generalize ((((((((((((w.alloc (.cells #[.string ⟨#[61]⟩,.string ⟨#[60,62]⟩,.string ⟨#[60]⟩,.string ⟨#[60,61]⟩,.string ⟨#[62]⟩,.string ⟨#[62,61]⟩] 9)).alloc (.cells #[.string ⟨#[38]⟩] 9)).alloc (.cells #[.string ⟨#[43]⟩,.string ⟨#[45]⟩] 9)).alloc (.cells #[.string ⟨#[42]⟩,.string ⟨#[47]⟩] 9)).alloc (.cells #[.string ⟨#[94]⟩] 9)).alloc (.cells #[.slice (some ⟨w.heap.size,0,none⟩) 6 6,.slice (some ⟨w.heap.size+1,0,none⟩) 1 1,.slice (some ⟨w.heap.size+2,0,none⟩) 2 2,.slice (some ⟨w.heap.size+3,0,none⟩) 2 2,.slice (some ⟨w.heap.size+4,0,none⟩) 1 1] 111)).alloc (.cells #[.int .i64 21,.int .i64 22,.int .i64 23,.int .i64 24,.int .i64 25,.int .i64 26] 3)).alloc (.cells #[.int .i64 16] 3)).alloc (.cells #[.int .i64 11,.int .i64 12] 3)).alloc (.cells #[.int .i64 13,.int .i64 14] 3)).alloc (.cells #[.int .i64 15] 3)).alloc (.cells #[.slice (some ⟨w.heap.size+6,0,none⟩) 6 6,.slice (some ⟨w.heap.size+7,0,none⟩) 1 1,.slice (some ⟨w.heap.size+8,0,none⟩) 2 2,.slice (some ⟨w.heap.size+9,0,none⟩) 2 2,.slice (some ⟨w.heap.size+10,0,none⟩) 1 1] 34))=W0 at *;have HW:Hid (∀ i v,(oW k)[i]? = some v→W0.cell? ⟨rb,i,none⟩=some v):=hW;have HO:Hid (∀ i v,(oO k)[i]? = some v→W0.cell? ⟨ob,i,none⟩=some v):=hO;clear hW hO;go_wp2_with fail
 go_loopg [7] j (fun gk x wr=>∃ i:Nat,x=.int .i64 i∧gk=j - i∧i≤j∧W0=wr)
 case atStart=>exact ⟨0,rfl,rfl,Nat.zero_le _,rfl⟩
 case round =>
  obtain ⟨i,rfl,hg,hi,rfl⟩:=hrel;by_cases hij:i<j
  ·obtain ⟨q,hq1,hq2⟩:=HLT.out i hij;have c0:=HW.out i _ hq1;have hin:(i:Int)<(n:Int):=by omega
   have hq3:(q == m)=false:=by simpa using hq2
   go_wp2_with fail
   go_roundg (j - (i+1))
   case rel=>exact ⟨i+1,by simp,rfl,hij,rfl⟩
   case measure=>omega
  ·obtain rfl:i=j:=by omega
   rcases HE.out with ⟨e1,e2⟩ | ⟨e1,e2,e3⟩
   ·subst e1 e2;have hin:¬ (i:Int)<(i:Int):=by omega
    go_wp2;go_ret;exact ⟨rfl,hB⟩
   ·have hin:(i:Int)<(n:Int):=by omega
    have c0:=HW.out i _ e2;have c1:=HO.out i _ e3;go_wp2;go_ret;exact ⟨rfl,hB⟩
end Go.Proofs.YtlggnpohhahdlaaGreatDoor
