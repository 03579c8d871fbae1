/- KNeeds. -/
import Derived.Test.YtefkclbaflkheaaGreatDoorQ31
set_option maxHeartbeats 1600000
set_option maxRecDepth 100000
namespace Go.Proofs.YtefkclbaflkheaaGreatDoor
open Tryz
open Go.RowKit
set_option linter.unusedVariables false
theorem zGY (x:Wc.In) (tv:Value) (w:World) (hb:x.op=5 \/ x.op=11->0<=x.b/\x.b<=1000):CR 68 #[inV x tv] w (.tuple #[.int .i64 (Wc.nds x.op x.b).1,.int .i64 (Wc.nds x.op x.b).2.1,.int .i64 (Wc.nds x.op x.b).2.2]):=by
 have pA:=AtL.new0 w 56 (zAD x tv);have hB:=zAK (Below.refl _ w) (.cells (zAD x tv).toArray 56);have c0:(w.alloc (.cells (zAD x tv).toArray 56)).cell? ⟨w.heap.size,0,none⟩=some (.int .i64 x.op):=pA.2.1 0 _ rfl;have c2:(w.alloc (.cells (zAD x tv).toArray 56)).cell? ⟨w.heap.size,2,none⟩=some (.int .i64 x.b):=pA.2.1 2 _ rfl;obtain ⟨q,hq⟩:∃ q,Wc.nds x.op x.b=q:=⟨_,rfl⟩
 rw [hq];have HQ:Hid (Wc.nds x.op x.b=q):=hq;clear hq pA;have HW:Hid (x.op=5 \/ x.op=11->IntKind.i64.wrap (1 - x.b)=1 - x.b):=λh=>by have:=hb h;rw [IntKind.wrap_i64];omega
 clear hb;rcases zD1 x.op with h | h | h | h | h | h | h | h | h | h | h | h | h | h | h | h | h
 case inr.inr.inr.inr.inr.inr.inr.inr.inr.inr.inr.inr.inr.inr.inr.inr =>
  have e:q=(0,0,0):=by
   have:=HQ.out;unfold Wc.nds at this;rw [<-this];repeat rw [if_neg (by omega)]
  have n1:(x.op == 1)=false:=by simp;omega
  have n2:(x.op == 2)=false:=by simp;omega
  have n3:(x.op == 3)=false:=by simp;omega
  have n4:(x.op == 4)=false:=by simp;omega
  have n5:(x.op == 5)=false:=by simp;omega
  have n6:(x.op == 6)=false:=by simp;omega
  have n7:(x.op == 7)=false:=by simp;omega
  have n8:(x.op == 8)=false:=by simp;omega
  have n9:(x.op == 9)=false:=by simp;omega
  have n10:(x.op == 10)=false:=by simp;omega
  have n11:(x.op == 11)=false:=by simp;omega
  have n12:(x.op == 12)=false:=by simp;omega
  have n13:(x.op == 13)=false:=by simp;omega
  have n14:(x.op == 14)=false:=by simp;omega
  have n15:(x.op == 15)=false:=by simp;omega
  have n16:(x.op == 16)=false:=by simp;omega
  clear HQ h;subst e;go_enter func68,ntmps68;go_upto_region 1 with fail
  generalize (w.alloc (.cells (zAD x tv).toArray 56))=W at *;go_wp2;refine bodyPost_ret (v:=.tuple #[.int .i64 0,.int .i64 0,.int .i64 0]) ?_ rfl ⟨rfl,hB⟩;simp [results,results68,go_sem]
 all_goals
  have hw:=λq=>HW.out q
  try replace hw:=hw (Or.inl h)
  try replace hw:=hw (Or.inr h)
  have e:=HQ.out;rw [h] at c0 e;subst e;clear HQ HW h;go_enter func68,ntmps68;go_upto_region 1 with fail
  generalize (w.alloc (.cells (zAD x tv).toArray 56))=W at *;go_wp2_with fail
  try (go_quiet (fail);go_wp2_with fail)
  refine bodyPost_ret (v:=.tuple #[.int .i64 (Wc.nds _ x.b).1,.int .i64 (Wc.nds _ x.b).2.1,.int .i64 (Wc.nds _ x.b).2.2]) ?_ rfl ⟨rfl,(clB hB)⟩;simp [results,results68,go_sem,Wc.nds]
