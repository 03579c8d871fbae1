/- KWalkZ, KOpen, VWalkD, KStand. -/
import Derived.Test.YtnloiaoogofklaaGreatDoorQ15
set_option maxHeartbeats 1600000
set_option maxRecDepth 100000
namespace Go.Proofs.YtnloiaoogofklaaGreatDoor
open Tryz
open Go.RowKit
set_option linter.unusedVariables false
variable {ops:Array Oper} {rest:List Oper} {op:Oper} {a:Act} {w:World} {Q:Exit->Act->World->Prop}
theorem zAJ (hgd:op.guard=none) (T:TypeId) (y:Operand) (ho:op.op=.build T #[(0,y)]) (v:Value) (hy:a.eval y=v) (L:List Value) (hr:(Instr.build T #[(0,v)]).run prog w=.ok (.agg L.toArray) w)
  (h:wpList prog ops Q rest (a.put op.dst (.agg L.toArray)) w):wpList prog ops Q (op::rest) a w:=by
 refine wpList_plain hgd λK hK=>?_
 unfold Oper.wp execOp;simp only [ho,List.map_toArray,List.map_cons,List.map_nil,hy,Sem.run_bind,Sem.run_pure,Result.andThen_ok,hr];exact hK _ _ h
theorem zAi (hgd:op.guard=none) (T:TypeId) (i j:Nat) (y z:Operand) (ho:op.op=.build T #[(i,y),(j,z)]) (v u:Value) (hy:a.eval y=v) (hz:a.eval z=u) (L:List Value) (hr:(Instr.build T #[(i,v),(j,u)]).run prog w=.ok (.agg L.toArray) w)
  (h:wpList prog ops Q rest (a.put op.dst (.agg L.toArray)) w):wpList prog ops Q (op::rest) a w:=by
 refine wpList_plain hgd λK hK=>?_
 unfold Oper.wp execOp;simp only [ho,List.map_toArray,List.map_cons,List.map_nil,hy,hz,Sem.run_bind,Sem.run_pure,Result.andThen_ok,hr];exact hK _ _ h
theorem zPC (id n k:Int) (w:World):Calls prog 132 #[.agg (zAE id n k).toArray] w λe w'=>(∃ t p,e=.returned (.iface t (.pointer p)))/\Below w.heap.size w w':=by
 have r0:=(AtL.new0 w 204 (zAE id n k)).range;have hB:=zAL (Below.refl _ w) (.cells (zAE id n k).toArray 204);go_enter func132,ntmps132;go_upto_region 1 with fail
 generalize (w.alloc (.cells (zAE id n k).toArray 204))=W at *;go_wp2_with (first | (refine zAA (by rfl) 204 (.tmp 1) rfl w.heap.size 0 rfl (zAE id n k) _ r0 underlying204 rfl (by kernel_rfl) ?_) | (refine zAJ rfl _ _ rfl _ rfl (zAE id n k) (by kernel_rfl) ?_))
 go_ret;exact ⟨⟨_,_,rfl⟩,(clB hB)⟩
theorem zGi (id n k:Int) (w:World):Calls prog 133 #[.agg (zAE id n k).toArray] w λe w'=>(∃ t p,e=.returned (.iface t (.pointer p)))/\Below w.heap.size w w':=by
 have r0:=(AtL.new0 w 204 (zAE id n k)).range;have hB:=zAL (Below.refl _ w) (.cells (zAE id n k).toArray 204);go_enter func133,ntmps133;go_upto_region 1 with fail
 generalize (w.alloc (.cells (zAE id n k).toArray 204))=W at *;go_wp2_with (first | (refine zAA (by rfl) 204 (.tmp 1) rfl w.heap.size 0 rfl (zAE id n k) _ r0 underlying204 rfl (by kernel_rfl) ?_) | (refine zAJ rfl _ _ rfl _ rfl (zAE id n k) (by kernel_rfl) ?_))
 go_ret;exact ⟨⟨_,_,rfl⟩,(clB hB)⟩
theorem zLd (id n k:Int) (w:World):Calls prog 134 #[.agg (zAE id n k).toArray] w λe w'=>(∃ t p,e=.returned (.iface t (.pointer p)))/\Below w.heap.size w w':=by
 have r0:=(AtL.new0 w 204 (zAE id n k)).range;have hB:=zAL (Below.refl _ w) (.cells (zAE id n k).toArray 204);go_enter func134,ntmps134;go_upto_region 1 with fail
 generalize (w.alloc (.cells (zAE id n k).toArray 204))=W at *;go_wp2_with (first | (refine zAA (by rfl) 204 (.tmp 1) rfl w.heap.size 0 rfl (zAE id n k) _ r0 underlying204 rfl (by kernel_rfl) ?_) | (refine zAJ rfl _ _ rfl _ rfl (zAE id n k) (by kernel_rfl) ?_))
 go_ret;exact ⟨⟨_,_,rfl⟩,(clB hB)⟩
theorem zHS (id n k:Int) (w:World):Calls prog 135 #[.agg (zAE id n k).toArray] w λe w'=>(∃ t p,e=.returned (.iface t (.pointer p)))/\Below w.heap.size w w':=by
 have r0:=(AtL.new0 w 204 (zAE id n k)).range;have hB:=zAL (Below.refl _ w) (.cells (zAE id n k).toArray 204);go_enter func135,ntmps135;go_upto_region 1 with fail
 generalize (w.alloc (.cells (zAE id n k).toArray 204))=W at *;go_wp2_with (first | (refine zAA (by rfl) 204 (.tmp 1) rfl w.heap.size 0 rfl (zAE id n k) _ r0 underlying204 rfl (by kernel_rfl) ?_) | (refine zAJ rfl _ _ rfl _ rfl (zAE id n k) (by kernel_rfl) ?_))
 go_ret;exact ⟨⟨_,_,rfl⟩,(clB hB)⟩
theorem zJq (id n k:Int) (w:World):Calls prog 136 #[.agg (zAE id n k).toArray] w λe w'=>(∃ t p,e=.returned (.iface t (.pointer p)))/\Below w.heap.size w w':=by
 have r0:=(AtL.new0 w 204 (zAE id n k)).range;have hB:=zAL (Below.refl _ w) (.cells (zAE id n k).toArray 204);go_enter func136,ntmps136;go_upto_region 1 with fail
 generalize (w.alloc (.cells (zAE id n k).toArray 204))=W at *;go_wp2_with (first | (refine zAA (by rfl) 204 (.tmp 1) rfl w.heap.size 0 rfl (zAE id n k) _ r0 underlying204 rfl (by kernel_rfl) ?_) | (refine zAi rfl _ _ _ _ _ rfl _ _ rfl rfl (zAE id n k++[.int .i64 1]) (by kernel_rfl) ?_) | (refine zAJ rfl _ _ rfl _ rfl (zAE id n k) (by kernel_rfl) ?_))
 go_ret;exact ⟨⟨_,_,rfl⟩,(clB hB)⟩
theorem zFP (id n k:Int) (w:World):Calls prog 137 #[.agg (zAE id n k).toArray] w λe w'=>(∃ t p,e=.returned (.iface t (.pointer p)))/\Below w.heap.size w w':=by
 have r0:=(AtL.new0 w 204 (zAE id n k)).range;have hB:=zAL (Below.refl _ w) (.cells (zAE id n k).toArray 204);go_enter func137,ntmps137;go_upto_region 1 with fail
 generalize (w.alloc (.cells (zAE id n k).toArray 204))=W at *;go_wp2_with (first | (refine zAA (by rfl) 204 (.tmp 1) rfl w.heap.size 0 rfl (zAE id n k) _ r0 underlying204 rfl (by kernel_rfl) ?_) | (refine zAi rfl _ _ _ _ _ rfl _ _ rfl rfl (zAE id n k++[.int .i64 (-1)]) (by kernel_rfl) ?_) | (refine zAJ rfl _ _ rfl _ rfl (zAE id n k) (by kernel_rfl) ?_))
 go_ret;exact ⟨⟨_,_,rfl⟩,(clB hB)⟩
theorem zGx (id n k:Int) (w:World):Calls prog 138 #[.agg (zAE id n k).toArray] w λe w'=>(∃ t p,e=.returned (.iface t (.pointer p)))/\Below w.heap.size w w':=by
 have r0:=(AtL.new0 w 204 (zAE id n k)).range;have hB:=zAL (Below.refl _ w) (.cells (zAE id n k).toArray 204);go_enter func138,ntmps138;go_upto_region 1 with fail
 generalize (w.alloc (.cells (zAE id n k).toArray 204))=W at *;go_wp2_with (first | (refine zAA (by rfl) 204 (.tmp 1) rfl w.heap.size 0 rfl (zAE id n k) _ r0 underlying204 rfl (by kernel_rfl) ?_) | (refine zAJ rfl _ _ rfl _ rfl (zAE id n k) (by kernel_rfl) ?_))
 go_ret;exact ⟨⟨_,_,rfl⟩,(clB hB)⟩
theorem zPq (id n k:Int) (w:World):Calls prog 139 #[.agg (zAE id n k).toArray] w λe w'=>(∃ t p,e=.returned (.iface t (.pointer p)))/\Below w.heap.size w w':=by
 have r0:=(AtL.new0 w 204 (zAE id n k)).range;have hB:=zAL (Below.refl _ w) (.cells (zAE id n k).toArray 204);go_enter func139,ntmps139;go_upto_region 1 with fail
 generalize (w.alloc (.cells (zAE id n k).toArray 204))=W at *;go_wp2_with (first | (refine zAA (by rfl) 204 (.tmp 1) rfl w.heap.size 0 rfl (zAE id n k) _ r0 underlying204 rfl (by kernel_rfl) ?_) | (refine zAi rfl _ _ _ _ _ rfl _ _ rfl rfl (zAE id n k++[.bool false]) (by kernel_rfl) ?_) | (refine zAJ rfl _ _ rfl _ rfl (zAE id n k) (by kernel_rfl) ?_))
 go_ret;exact ⟨⟨_,_,rfl⟩,(clB hB)⟩
theorem zRL (id n k:Int) (w:World):Calls prog 140 #[.agg (zAE id n k).toArray] w λe w'=>(∃ t p,e=.returned (.iface t (.pointer p)))/\Below w.heap.size w w':=by
 have r0:=(AtL.new0 w 204 (zAE id n k)).range;have hB:=zAL (Below.refl _ w) (.cells (zAE id n k).toArray 204);go_enter func140,ntmps140;go_upto_region 1 with fail
 generalize (w.alloc (.cells (zAE id n k).toArray 204))=W at *;go_wp2_with (first | (refine zAA (by rfl) 204 (.tmp 1) rfl w.heap.size 0 rfl (zAE id n k) _ r0 underlying204 rfl (by kernel_rfl) ?_) | (refine zAi rfl _ _ _ _ _ rfl _ _ rfl rfl (zAE id n k++[.bool true]) (by kernel_rfl) ?_) | (refine zAJ rfl _ _ rfl _ rfl (zAE id n k) (by kernel_rfl) ?_))
 go_ret;exact ⟨⟨_,_,rfl⟩,(clB hB)⟩
theorem zOy (id n k:Int) (w:World):Calls prog 141 #[.agg (zAE id n k).toArray] w λe w'=>(∃ t p,e=.returned (.iface t (.pointer p)))/\Below w.heap.size w w':=by
 have r0:=(AtL.new0 w 204 (zAE id n k)).range;have hB:=zAL (Below.refl _ w) (.cells (zAE id n k).toArray 204);go_enter func141,ntmps141;go_upto_region 1 with fail
 generalize (w.alloc (.cells (zAE id n k).toArray 204))=W at *;go_wp2_with (first | (refine zAA (by rfl) 204 (.tmp 1) rfl w.heap.size 0 rfl (zAE id n k) _ r0 underlying204 rfl (by kernel_rfl) ?_) | (refine zAJ rfl _ _ rfl _ rfl (zAE id n k) (by kernel_rfl) ?_))
 go_ret;exact ⟨⟨_,_,rfl⟩,(clB hB)⟩
theorem zJ0 (id n k:Int) (w:World):Calls prog 142 #[.agg (zAE id n k).toArray] w λe w'=>(∃ t p,e=.returned (.iface t (.pointer p)))/\Below w.heap.size w w':=by
 have r0:=(AtL.new0 w 204 (zAE id n k)).range;have hB:=zAL (Below.refl _ w) (.cells (zAE id n k).toArray 204);go_enter func142,ntmps142;go_upto_region 1 with fail
 generalize (w.alloc (.cells (zAE id n k).toArray 204))=W at *;go_wp2_with (first | (refine zAA (by rfl) 204 (.tmp 1) rfl w.heap.size 0 rfl (zAE id n k) _ r0 underlying204 rfl (by kernel_rfl) ?_) | (refine zAJ rfl _ _ rfl _ rfl (zAE id n k) (by kernel_rfl) ?_))
 go_ret;exact ⟨⟨_,_,rfl⟩,(clB hB)⟩
theorem zGe (id n k:Int) (w:World):Calls prog 143 #[.agg (zAE id n k).toArray] w λe w'=>(∃ t p,e=.returned (.iface t (.pointer p)))/\Below w.heap.size w w':=by
 have r0:=(AtL.new0 w 204 (zAE id n k)).range;have hB:=zAL (Below.refl _ w) (.cells (zAE id n k).toArray 204);go_enter func143,ntmps143;go_upto_region 1 with fail
 generalize (w.alloc (.cells (zAE id n k).toArray 204))=W at *;go_wp2_with (first | (refine zAA (by rfl) 204 (.tmp 1) rfl w.heap.size 0 rfl (zAE id n k) _ r0 underlying204 rfl (by kernel_rfl) ?_) | (refine zAJ rfl _ _ rfl _ rfl (zAE id n k) (by kernel_rfl) ?_))
 go_ret;exact ⟨⟨_,_,rfl⟩,(clB hB)⟩
theorem zGp (id n k:Int) (w:World):Calls prog 144 #[.agg (zAE id n k).toArray] w λe w'=>(∃ t p,e=.returned (.iface t (.pointer p)))/\Below w.heap.size w w':=by
 have r0:=(AtL.new0 w 204 (zAE id n k)).range;have hB:=zAL (Below.refl _ w) (.cells (zAE id n k).toArray 204);go_enter func144,ntmps144;go_upto_region 1 with fail
 generalize (w.alloc (.cells (zAE id n k).toArray 204))=W at *;go_wp2_with (first | (refine zAA (by rfl) 204 (.tmp 1) rfl w.heap.size 0 rfl (zAE id n k) _ r0 underlying204 rfl (by kernel_rfl) ?_) | (refine zAJ rfl _ _ rfl _ rfl (zAE id n k) (by kernel_rfl) ?_))
 go_ret;exact ⟨⟨_,_,rfl⟩,(clB hB)⟩
theorem zKx (id n k:Int) (w:World):Calls prog 145 #[.agg (zAE id n k).toArray] w λe w'=>(∃ t p,e=.returned (.iface t (.pointer p)))/\Below w.heap.size w w':=by
 have r0:=(AtL.new0 w 204 (zAE id n k)).range;have hB:=zAL (Below.refl _ w) (.cells (zAE id n k).toArray 204);go_enter func145,ntmps145;go_upto_region 1 with fail
 generalize (w.alloc (.cells (zAE id n k).toArray 204))=W at *;go_wp2_with (first | (refine zAA (by rfl) 204 (.tmp 1) rfl w.heap.size 0 rfl (zAE id n k) _ r0 underlying204 rfl (by kernel_rfl) ?_) | (refine zAJ rfl _ _ rfl _ rfl (zAE id n k) (by kernel_rfl) ?_))
 go_ret;exact ⟨⟨_,_,rfl⟩,(clB hB)⟩
theorem zNz (id n k:Int) (w:World):Calls prog 146 #[.agg (zAE id n k).toArray] w λe w'=>(∃ t p,e=.returned (.iface t (.pointer p)))/\Below w.heap.size w w':=by
 have r0:=(AtL.new0 w 204 (zAE id n k)).range;have hB:=zAL (Below.refl _ w) (.cells (zAE id n k).toArray 204);go_enter func146,ntmps146;go_upto_region 1 with fail
 generalize (w.alloc (.cells (zAE id n k).toArray 204))=W at *;go_wp2_with (first | (refine zAA (by rfl) 204 (.tmp 1) rfl w.heap.size 0 rfl (zAE id n k) _ r0 underlying204 rfl (by kernel_rfl) ?_) | (refine zAJ rfl _ _ rfl _ rfl (zAE id n k) (by kernel_rfl) ?_))
 go_ret;exact ⟨⟨_,_,rfl⟩,(clB hB)⟩
theorem zK8 (id n k:Int) (w:World):Calls prog 147 #[.agg (zAE id n k).toArray] w λe w'=>(∃ t p,e=.returned (.iface t (.pointer p)))/\Below w.heap.size w w':=by
 have r0:=(AtL.new0 w 204 (zAE id n k)).range;have hB:=zAL (Below.refl _ w) (.cells (zAE id n k).toArray 204);go_enter func147,ntmps147;go_upto_region 1 with fail
 generalize (w.alloc (.cells (zAE id n k).toArray 204))=W at *;go_wp2_with (first | (refine zAA (by rfl) 204 (.tmp 1) rfl w.heap.size 0 rfl (zAE id n k) _ r0 underlying204 rfl (by kernel_rfl) ?_) | (refine zAJ rfl _ _ rfl _ rfl (zAE id n k) (by kernel_rfl) ?_))
 go_ret;exact ⟨⟨_,_,rfl⟩,(clB hB)⟩
theorem zGl (id n k:Int) (w:World):Calls prog 148 #[.agg (zAE id n k).toArray] w λe w'=>(∃ t p,e=.returned (.iface t (.pointer p)))/\Below w.heap.size w w':=by
 have r0:=(AtL.new0 w 204 (zAE id n k)).range;have hB:=zAL (Below.refl _ w) (.cells (zAE id n k).toArray 204);go_enter func148,ntmps148;go_upto_region 1 with fail
 generalize (w.alloc (.cells (zAE id n k).toArray 204))=W at *;go_wp2_with (first | (refine zAA (by rfl) 204 (.tmp 1) rfl w.heap.size 0 rfl (zAE id n k) _ r0 underlying204 rfl (by kernel_rfl) ?_) | (refine zAJ rfl _ _ rfl _ rfl (zAE id n k) (by kernel_rfl) ?_))
 go_ret;exact ⟨⟨_,_,rfl⟩,(clB hB)⟩
theorem zJd (id n k:Int) (w:World):Calls prog 149 #[.agg (zAE id n k).toArray] w λe w'=>(∃ t p,e=.returned (.iface t (.pointer p)))/\Below w.heap.size w w':=by
 have r0:=(AtL.new0 w 204 (zAE id n k)).range;have hB:=zAL (Below.refl _ w) (.cells (zAE id n k).toArray 204);go_enter func149,ntmps149;go_upto_region 1 with fail
 generalize (w.alloc (.cells (zAE id n k).toArray 204))=W at *;go_wp2_with (first | (refine zAA (by rfl) 204 (.tmp 1) rfl w.heap.size 0 rfl (zAE id n k) _ r0 underlying204 rfl (by kernel_rfl) ?_) | (refine zAJ rfl _ _ rfl _ rfl (zAE id n k) (by kernel_rfl) ?_))
 go_ret;exact ⟨⟨_,_,rfl⟩,(clB hB)⟩
theorem zIJ (id n k:Int) (w:World):Calls prog 150 #[.agg (zAE id n k).toArray] w λe w'=>(∃ t p,e=.returned (.iface t (.pointer p)))/\Below w.heap.size w w':=by
 have r0:=(AtL.new0 w 204 (zAE id n k)).range;have hB:=zAL (Below.refl _ w) (.cells (zAE id n k).toArray 204);go_enter func150,ntmps150;go_upto_region 1 with fail
 generalize (w.alloc (.cells (zAE id n k).toArray 204))=W at *;go_wp2_with (first | (refine zAA (by rfl) 204 (.tmp 1) rfl w.heap.size 0 rfl (zAE id n k) _ r0 underlying204 rfl (by kernel_rfl) ?_) | (refine zAJ rfl _ _ rfl _ rfl (zAE id n k) (by kernel_rfl) ?_))
 go_ret;exact ⟨⟨_,_,rfl⟩,(clB hB)⟩
theorem zDh (id n k:Int) (w:World):Calls prog 151 #[.agg (zAE id n k).toArray] w λe w'=>(∃ t p,e=.returned (.iface t (.pointer p)))/\Below w.heap.size w w':=by
 have r0:=(AtL.new0 w 204 (zAE id n k)).range;have hB:=zAL (Below.refl _ w) (.cells (zAE id n k).toArray 204);go_enter func151,ntmps151;go_upto_region 1 with fail
 generalize (w.alloc (.cells (zAE id n k).toArray 204))=W at *;go_wp2_with (first | (refine zAA (by rfl) 204 (.tmp 1) rfl w.heap.size 0 rfl (zAE id n k) _ r0 underlying204 rfl (by kernel_rfl) ?_) | (refine zAJ rfl _ _ rfl _ rfl (zAE id n k) (by kernel_rfl) ?_))
 go_ret;exact ⟨⟨_,_,rfl⟩,(clB hB)⟩
def zHu:List Value:=[.int .i64 0,.int .i64 0,.int .i64 0,.int .i64 0,.int .i64 0,.int .i64 0,.int .i64 0,.string ⟨#[]⟩,.bool false,.int .i64 0,.int .i64 0,.int .i64 0,.int .i64 0,.string ⟨#[]⟩,.bool false,.int .i64 0,.bool false,.bool false,.bool false,.int .i64 0,.int .i64 0]
abbrev oneA (w:World):World:=w.alloc (.cells #[.int .i64 0,.int .i64 0,.int .i64 0,.int .i64 0,.int .i64 0,.int .i64 0,.int .i64 0,.string ⟨#[]⟩,.bool false,.int .i64 0,.int .i64 0,.int .i64 0,.int .i64 0,.string ⟨#[]⟩,.bool false,.int .i64 0,.bool false,.bool false,.bool false,.int .i64 0,.int .i64 0] 193)
theorem vlz (w:World):AtL (w.alloc (.cells #[.int .i64 0,.int .i64 0,.int .i64 0,.string ⟨#[]⟩,.bool false,.int .i64 0] 43)) w.heap.size [.int .i64 0,.int .i64 0,.int .i64 0,.string ⟨#[]⟩,.bool false,.int .i64 0]:=AtL.new0 w _ _
def zGP (c:Int):Wt.Vl:=⟨4,0,0,⟨#[]⟩,false,if Wv.flt c then c else 2⟩
theorem zDS (c:Int) (w:World):CR 152 #[.int .i64 c] w (vlV (zGP c)):=by
 have C:=λw=>zDP c w
 unfold zGP;cases hq:Wv.flt c with
 | false =>
  rw [hq] at C;go_enter func152,ntmps152;go_wp2_with fail
  refine (C _).mono ?_;rintro e w1 ⟨rfl,rfl⟩;go_wp2;refine bodyPost_ret (v:=vlV ⟨4,0,0,⟨#[]⟩,false,2⟩) (by simp [results,results152,go_sem,vlV,vl6]) rfl ⟨rfl,?_⟩;exact clA
 | true =>
  rw [hq] at C;go_enter func152,ntmps152;go_wp2_with fail
  refine (C _).mono ?_;rintro e w1 ⟨rfl,rfl⟩;go_wp2;refine bodyPost_ret (v:=vlV ⟨4,0,0,⟨#[]⟩,false,c⟩) (by simp [results,results152,go_sem,vlV,vl6]) rfl ⟨rfl,?_⟩;exact clA
def zCj (b:Bool):Wt.Vl:=⟨3,0,0,⟨#[]⟩,b,0⟩
theorem zGg (b:Bool) (w:World):CR 121 #[.bool b] w (vlV (zCj b)):=by
 go_enter func121,ntmps121;go_wp2;refine bodyPost_ret (v:=vlV (zCj b)) (by simp [results,results121,go_sem,vlV,vl6,zCj]) rfl ⟨rfl,?_⟩;exact clA
def zQV (n d:Int):Wt.Vl:=⟨1,Wnum.cN n d,Wnum.cD n d,⟨#[]⟩,false,0⟩
theorem zJu (n d:Int) (w:World) (h1:-9223372036854775808<=n) (h2:n<=9223372036854775807) (h3:-9223372036854775808<=d) (h4:d<=9223372036854775807) :
  CR 116 #[.agg #[.int .i64 n,.int .i64 d]] w (vlV (zQV n d)):=by
 have C:=λw=>zE7 n d w h1 h2 h3 h4
 unfold zQV Wnum.cN Wnum.cD;have pA:=(AtL.new0 w 41 [.int .i64 n,.int .i64 d]).alloc (.cells zV0 43);have pR:=vlz (w.alloc (.cells #[.int .i64 n,.int .i64 d] 41));simp only [World.size_alloc] at pR;have hB0:=zAL (zAL (Below.refl _ w) (.cells #[.int .i64 n,.int .i64 d] 41)) (.cells zV0 43);cases hq:Wnum.rightB n d with
 | false =>
  rw [hq] at C;go_enter func116,ntmps116;go_wp2_with fail
  refine (C _).mono ?_;rintro e w1 ⟨rfl,hb⟩;have pA1:=AtL.below hb pA;have pR1:=AtL.below hb pR;obtain ⟨a0,a1,f0,f1⟩:=pA1.two;obtain ⟨c0,c1,c2,c3,c4,c5⟩:=pR1.f6;have g0:=pR1.2.2 0 (by decide);have g1:=pR1.2.2 1 (by decide);have g2:=pR1.2.2 2 (by decide);have g3:=pR1.2.2 3 (by decide);have g4:=pR1.2.2 4 (by decide);have g5:=pR1.2.2 5 (by decide);have hB1:=zAB hB0 hb;go_wp2;refine bodyPost_ret (v:=vlV ⟨1,0,1,⟨#[]⟩,false,0⟩) (by simp [results,results116,go_sem,vlV,vl6, *]) rfl ⟨rfl,?_⟩;exact (clB hB1)
 | true =>
  rw [hq] at C;go_enter func116,ntmps116;go_wp2_with fail
  refine (C _).mono ?_;rintro e w1 ⟨rfl,hb⟩;have pA1:=AtL.below hb pA;have pR1:=AtL.below hb pR;obtain ⟨a0,a1,f0,f1⟩:=pA1.two;obtain ⟨c0,c1,c2,c3,c4,c5⟩:=pR1.f6;have g0:=pR1.2.2 0 (by decide);have g1:=pR1.2.2 1 (by decide);have g2:=pR1.2.2 2 (by decide);have g3:=pR1.2.2 3 (by decide);have g4:=pR1.2.2 4 (by decide);have g5:=pR1.2.2 5 (by decide);have hB1:=zAB hB0 hb;go_wp2;refine bodyPost_ret (v:=vlV ⟨1,n,d,⟨#[]⟩,false,0⟩) (by simp [results,results116,go_sem,vlV,vl6, *]) rfl ⟨rfl,?_⟩;exact (clB hB1)
def zQG (s:ByteArray):Wt.Vl:=if Wv.prts s.data.toList then (if 256<s.size then ⟨4,0,0,⟨#[]⟩,false,7⟩ else ⟨2,0,0,s,false,0⟩) else ⟨4,0,0,⟨#[]⟩,false,2⟩
theorem zJC (s:ByteArray) (w:World) (hs:s.size<=9223372036854775807):CR 131 #[.string s] w (vlV (zQG s)):=by
 have C:=λw=>zGF s w hs
 have F2:=λw=>zDS 2 w
 have F7:=λw=>zDS 7 w
 have e2:zGP 2=⟨4,0,0,⟨#[]⟩,false,2⟩:=rfl;have e7:zGP 7=⟨4,0,0,⟨#[]⟩,false,7⟩:=rfl;rw [e2] at F2;rw [e7] at F7;simp only [vlV,vl6] at F2 F7;have pR:=vlz w;have hB0:=zAL (Below.refl _ w) (.cells zV0 43);unfold zQG;cases hq:Wv.prts s.data.toList with
 | false =>
  rw [hq] at C;rw [if_neg (by decide)];go_enter func131,ntmps131;go_wp2_with fail
  refine (C _).mono ?_;rintro e w1 ⟨rfl,rfl⟩;go_wp2_with fail
  refine (F2 _).mono ?_;rintro e w2 ⟨rfl,hb⟩;have pR1:=AtL.below hb pR;obtain ⟨c0,c1,c2,c3,c4,c5⟩:=pR1.f6;have g0:=pR1.2.2 0 (by decide);have g1:=pR1.2.2 1 (by decide);have g2:=pR1.2.2 2 (by decide);have g3:=pR1.2.2 3 (by decide);have g4:=pR1.2.2 4 (by decide);have g5:=pR1.2.2 5 (by decide);have hB1:=zAB hB0 hb;go_wp2;refine bodyPost_ret (v:=vlV ⟨4,0,0,⟨#[]⟩,false,2⟩) (by simp [results,results131,go_sem,vlV,vl6, *]) rfl ⟨rfl,?_⟩;exact (clB hB1)
 | true =>
  rw [hq] at C;rw [if_pos rfl];by_cases hl:256<s.size
  ·have hli:(256:Int)<(s.size:Int):=by omega
   rw [if_pos hl];go_enter func131,ntmps131;go_wp2_with fail
   refine (C _).mono ?_;rintro e w1 ⟨rfl,rfl⟩;go_wp2_with fail
   refine (F7 _).mono ?_;rintro e w2 ⟨rfl,hb⟩;have pR1:=AtL.below hb pR;obtain ⟨c0,c1,c2,c3,c4,c5⟩:=pR1.f6;have g0:=pR1.2.2 0 (by decide);have g1:=pR1.2.2 1 (by decide);have g2:=pR1.2.2 2 (by decide);have g3:=pR1.2.2 3 (by decide);have g4:=pR1.2.2 4 (by decide);have g5:=pR1.2.2 5 (by decide);have hB1:=zAB hB0 hb;go_wp2;refine bodyPost_ret (v:=vlV ⟨4,0,0,⟨#[]⟩,false,7⟩) (by simp [results,results131,go_sem,vlV,vl6, *]) rfl ⟨rfl,?_⟩;exact (clB hB1)
  ·have hli:¬ (256:Int)<(s.size:Int):=by omega
   rw [if_neg hl];go_enter func131,ntmps131;go_wp2_with fail
   refine (C _).mono ?_;rintro e w1 ⟨rfl,rfl⟩;go_wp2;refine bodyPost_ret (v:=vlV ⟨2,0,0,s,false,0⟩) (by simp [results,results131,go_sem,vlV,vl6, *]) rfl ⟨rfl,?_⟩;exact clA
theorem zD3 {P:Program} {fn:Func} {t:Tmp} {T:TypeId} (h:fn.results=#[.cell t T]) (tmps:Array Value) (w:World) (b:Nat) (cs:List Value) (d:TypeDesc) (ht:tmps.getD t undef=.pointer (some ⟨b,0,none⟩)) (hc:w.rangeAt b 0 cs)
  (hu:P.underlying T=some d) (hd:d.isRow=true) (hi:(P.info? T).map (·.size)=some cs.length):(results fn tmps).run P w=.ok (.agg cs.toArray) w:=by
 have hl:=run_loadVar_mid (P:=P) w b 0 T cs d hc hu hd hi;have ht':tmps[t]?.getD undef=.pointer (some ⟨b,0,none⟩):=by rw [<-ht];simp
 simp only [results,h];simp [ht',hl,asAddr]
abbrev zDO (w:World):World:=(w.alloc (.cells #[.int .i64 0,.int .i64 0,.int .i64 0,.int .i64 0,.int .i64 0,.int .i64 0,.int .i64 0,.string ⟨#[]⟩,.bool false,.int .i64 0,.int .i64 0,.int .i64 0,.int .i64 0,.string ⟨#[]⟩,.bool false,.int .i64 0,.bool false,.bool false,.bool false,.int .i64 0,.int .i64 0] 193)).alloc (.cells #[.int .i64 0,.int .i64 0,.int .i64 0,.int .i64 0,.int .i64 0,.int .i64 0,.int .i64 0,.string ⟨#[]⟩,.bool false,.int .i64 0,.int .i64 0,.int .i64 0,.int .i64 0,.string ⟨#[]⟩,.bool false,.int .i64 0,.bool false,.bool false,.bool false,.int .i64 0,.int .i64 0] 193)
theorem zOW (w:World):CR 125 #[.int .i64 2] w (.agg (zAE 2 1 0).toArray):=by
 have pR0:AtL (zDO w) w.heap.size zHu:=(AtL.new0 w _ _).alloc _;have p0:AtL (zDO w) (w.heap.size+1) zHu:=AtL.new1 w _ _ _;have hne:w.heap.size+1 ≠ w.heap.size:=by omega
 have hth:World.there (zDO w) (w.heap.size+1) 0 (zAE 2 0 0).toArray.size:=p0.there;have pO:AtL ((zDO w).setCells (w.heap.size+1) 0 (zAE 2 0 0)) (w.heap.size+1) (zAE 2 0 0):=p0.setAll rfl;have pR:AtL ((zDO w).setCells (w.heap.size+1) 0 (zAE 2 0 0)) w.heap.size zHu:=pR0.farAll hne 0 (zAE 2 0 0);have hB:Below w.heap.size w ((zDO w).setCells (w.heap.size+1) 0 (zAE 2 0 0)):=zAs (zAL (zAL (Below.refl _ w) _) _) (Nat.le_succ _) _ 0;clear p0 pR0;go_enter func125,ntmps125;go_upto_region 1 with fail
 go_upto_region 2 with (first | (refine zAi rfl 193 _ _ _ _ rfl _ _ rfl rfl (zAE 2 0 0) (by kernel_rfl) ?_) | ((with_reducible refine wpList_store_mid ?_ 193 (.tmp 3) (.tmp 6) ?_ (w.heap.size+1) 0 (zAE 2 0 0).toArray ?_ ?_ ?_ ?_ ?_ ?_);rfl;rfl;rfl;rfl;exact hth;kernel_rfl;exact zB0 _ _ _))
 generalize (zDO w).setCells (w.heap.size+1) 0 (zAE 2 0 0)=W0 at *;clear hth;have o2:=pO.2.1 2 _ rfl;have f2:=pO.2.2 2 (by show 2<21;decide);go_upto_region 7 with fail
 have pO2:AtL (W0.setCell ⟨w.heap.size+1,2,none⟩ (.int .i64 1)) (w.heap.size+1) (zAE 2 1 0):=pO.set 2 (.int .i64 1);have pR2:AtL (W0.setCell ⟨w.heap.size+1,2,none⟩ (.int .i64 1)) w.heap.size zHu:=pR.far hne 2 (.int .i64 1);have hB2:Below w.heap.size w (W0.setCell ⟨w.heap.size+1,2,none⟩ (.int .i64 1)):=(clB hB)
 clear pO pR hB o2 f2;generalize W0.setCell ⟨w.heap.size+1,2,none⟩ (.int .i64 1)=W1 at *;have rO:=pO2.range;have ht2:World.there W1 w.heap.size 0 (zAE 2 1 0).toArray.size:=pR2.there;have pF:AtL (W1.setCells w.heap.size 0 (zAE 2 1 0)) w.heap.size (zAE 2 1 0):=pR2.setAll rfl;have hB3:Below w.heap.size w (W1.setCells w.heap.size 0 (zAE 2 1 0)):=zAs hB2 (Nat.le_refl _) _ 0;clear pO2 pR2;go_wp2_with (first | (refine zAA (by rfl) 193 (.tmp 3) rfl (w.heap.size+1) 0 rfl (zAE 2 1 0) _ rO underlying193 rfl (by kernel_rfl) ?_) | ((with_reducible refine wpList_store_mid ?_ 193 (.tmp 2) (.tmp 16) ?_ w.heap.size 0 (zAE 2 1 0).toArray ?_ ?_ ?_ ?_ ?_ ?_);rfl;rfl;rfl;rfl;exact ht2;kernel_rfl;exact zB0 _ _ _))
 exact bodyPost_ret (v:=.agg (zAE 2 1 0).toArray) (zD3 (by rfl) _ _ w.heap.size (zAE 2 1 0) _ (by rfl) pF.range underlying193 rfl (by kernel_rfl)) rfl ⟨rfl,hB3⟩
theorem zKi (w:World):CR 125 #[.int .i64 11] w (.agg (zAE 11 0 2).toArray):=by
 have pR0:AtL (zDO w) w.heap.size zHu:=(AtL.new0 w _ _).alloc _;have p0:AtL (zDO w) (w.heap.size+1) zHu:=AtL.new1 w _ _ _;have hne:w.heap.size+1 ≠ w.heap.size:=by omega
 have hth:World.there (zDO w) (w.heap.size+1) 0 (zAE 11 0 0).toArray.size:=p0.there;have pO:AtL ((zDO w).setCells (w.heap.size+1) 0 (zAE 11 0 0)) (w.heap.size+1) (zAE 11 0 0):=p0.setAll rfl;have pR:AtL ((zDO w).setCells (w.heap.size+1) 0 (zAE 11 0 0)) w.heap.size zHu:=pR0.farAll hne 0 (zAE 11 0 0);have hB:Below w.heap.size w ((zDO w).setCells (w.heap.size+1) 0 (zAE 11 0 0)):=zAs (zAL (zAL (Below.refl _ w) _) _) (Nat.le_succ _) _ 0;clear p0 pR0;go_enter func125,ntmps125;go_upto_region 1 with fail
 go_upto_region 2 with (first | (refine zAi rfl 193 _ _ _ _ rfl _ _ rfl rfl (zAE 11 0 0) (by kernel_rfl) ?_) | ((with_reducible refine wpList_store_mid ?_ 193 (.tmp 3) (.tmp 6) ?_ (w.heap.size+1) 0 (zAE 11 0 0).toArray ?_ ?_ ?_ ?_ ?_ ?_);rfl;rfl;rfl;rfl;exact hth;kernel_rfl;exact zB0 _ _ _))
 generalize (zDO w).setCells (w.heap.size+1) 0 (zAE 11 0 0)=W0 at *;clear hth;have VT:∀ w:World,CR 131 #[.string ⟨#[]⟩] w (.agg #[.int .i64 2,.int .i64 0,.int .i64 0,.string ⟨#[]⟩,.bool false,.int .i64 0]):=λw=>zJC ⟨#[]⟩ w (by decide)
 go_wp2_with fail
 refine (VT _).mono ?_;rintro e w1 ⟨rfl,hb⟩;have pO1:=AtL.below hb pO;have pR1:=AtL.below hb pR;have hB1:=zAB hB hb;clear pO pR hB hb;have o4:=pO1.2.1 4 _ rfl;have f4:=pO1.2.2 4 (by show 4<21;decide);have o5:=pO1.2.1 5 _ rfl;have f5:=pO1.2.2 5 (by show 5<21;decide);have o6:=pO1.2.1 6 _ rfl;have f6:=pO1.2.2 6 (by show 6<21;decide);have o7:=pO1.2.1 7 _ rfl;have f7:=pO1.2.2 7 (by show 7<21;decide);have o8:=pO1.2.1 8 _ rfl;have f8:=pO1.2.2 8 (by show 8<21;decide);have o9:=pO1.2.1 9 _ rfl;have f9:=pO1.2.2 9 (by show 9<21;decide);go_upto_region 7 with fail
 have pO2:AtL ((((((w1.setCell ⟨w.heap.size+1,4,none⟩ (.int .i64 2)).setCell ⟨w.heap.size+1,5,none⟩ (.int .i64 0)).setCell ⟨w.heap.size+1,6,none⟩ (.int .i64 0)).setCell ⟨w.heap.size+1,7,none⟩ (.string ⟨#[]⟩)).setCell ⟨w.heap.size+1,8,none⟩ (.bool false)).setCell ⟨w.heap.size+1,9,none⟩ (.int .i64 0)) (w.heap.size+1) (zAE 11 0 2):=((((((pO1.set 4 (.int .i64 2)).set 5 (.int .i64 0)).set 6 (.int .i64 0)).set 7 (.string ⟨#[]⟩)).set 8 (.bool false)).set 9 (.int .i64 0))
 have pR2:AtL ((((((w1.setCell ⟨w.heap.size+1,4,none⟩ (.int .i64 2)).setCell ⟨w.heap.size+1,5,none⟩ (.int .i64 0)).setCell ⟨w.heap.size+1,6,none⟩ (.int .i64 0)).setCell ⟨w.heap.size+1,7,none⟩ (.string ⟨#[]⟩)).setCell ⟨w.heap.size+1,8,none⟩ (.bool false)).setCell ⟨w.heap.size+1,9,none⟩ (.int .i64 0)) w.heap.size zHu:=((((((pR1.far hne 4 (.int .i64 2)).far hne 5 (.int .i64 0)).far hne 6 (.int .i64 0)).far hne 7 (.string ⟨#[]⟩)).far hne 8 (.bool false)).far hne 9 (.int .i64 0))
 have hB2:Below w.heap.size w ((((((w1.setCell ⟨w.heap.size+1,4,none⟩ (.int .i64 2)).setCell ⟨w.heap.size+1,5,none⟩ (.int .i64 0)).setCell ⟨w.heap.size+1,6,none⟩ (.int .i64 0)).setCell ⟨w.heap.size+1,7,none⟩ (.string ⟨#[]⟩)).setCell ⟨w.heap.size+1,8,none⟩ (.bool false)).setCell ⟨w.heap.size+1,9,none⟩ (.int .i64 0)):=(clB hB1)
 clear pO1 pR1 hB1 o4 f4 o5 f5 o6 f6 o7 f7 o8 f8 o9 f9;generalize ((((((w1.setCell ⟨w.heap.size+1,4,none⟩ (.int .i64 2)).setCell ⟨w.heap.size+1,5,none⟩ (.int .i64 0)).setCell ⟨w.heap.size+1,6,none⟩ (.int .i64 0)).setCell ⟨w.heap.size+1,7,none⟩ (.string ⟨#[]⟩)).setCell ⟨w.heap.size+1,8,none⟩ (.bool false)).setCell ⟨w.heap.size+1,9,none⟩ (.int .i64 0))=W1 at *;have rO:=pO2.range;have ht2:World.there W1 w.heap.size 0 (zAE 11 0 2).toArray.size:=pR2.there;have pF:AtL (W1.setCells w.heap.size 0 (zAE 11 0 2)) w.heap.size (zAE 11 0 2):=pR2.setAll rfl;have hB3:Below w.heap.size w (W1.setCells w.heap.size 0 (zAE 11 0 2)):=zAs hB2 (Nat.le_refl _) _ 0;clear pO2 pR2;go_wp2_with (first | (refine zAA (by rfl) 193 (.tmp 3) rfl (w.heap.size+1) 0 rfl (zAE 11 0 2) _ rO underlying193 rfl (by kernel_rfl) ?_) | ((with_reducible refine wpList_store_mid ?_ 193 (.tmp 2) (.tmp 16) ?_ w.heap.size 0 (zAE 11 0 2).toArray ?_ ?_ ?_ ?_ ?_ ?_);rfl;rfl;rfl;rfl;exact ht2;kernel_rfl;exact zB0 _ _ _))
 exact bodyPost_ret (v:=.agg (zAE 11 0 2).toArray) (zD3 (by rfl) _ _ w.heap.size (zAE 11 0 2) _ (by rfl) pF.range underlying193 rfl (by kernel_rfl)) rfl ⟨rfl,hB3⟩
theorem zMb (id:Int) (w:World) (h2:¬ id=2) (h11:¬ id=11):CR 125 #[.int .i64 id] w (.agg (zAE id 0 0).toArray):=by
 have pR0:AtL (zDO w) w.heap.size zHu:=(AtL.new0 w _ _).alloc _;have p0:AtL (zDO w) (w.heap.size+1) zHu:=AtL.new1 w _ _ _;have hne:w.heap.size+1 ≠ w.heap.size:=by omega
 have hth:World.there (zDO w) (w.heap.size+1) 0 (zAE id 0 0).toArray.size:=p0.there;have pO:AtL ((zDO w).setCells (w.heap.size+1) 0 (zAE id 0 0)) (w.heap.size+1) (zAE id 0 0):=p0.setAll rfl;have pR:AtL ((zDO w).setCells (w.heap.size+1) 0 (zAE id 0 0)) w.heap.size zHu:=pR0.farAll hne 0 (zAE id 0 0);have hB:Below w.heap.size w ((zDO w).setCells (w.heap.size+1) 0 (zAE id 0 0)):=zAs (zAL (zAL (Below.refl _ w) _) _) (Nat.le_succ _) _ 0;clear p0 pR0;go_enter func125,ntmps125;go_upto_region 1 with fail
 go_upto_region 2 with (first | (refine zAi rfl 193 _ _ _ _ rfl _ _ rfl rfl (zAE id 0 0) (by kernel_rfl) ?_) | ((with_reducible refine wpList_store_mid ?_ 193 (.tmp 3) (.tmp 6) ?_ (w.heap.size+1) 0 (zAE id 0 0).toArray ?_ ?_ ?_ ?_ ?_ ?_);rfl;rfl;rfl;rfl;exact hth;kernel_rfl;exact zB0 _ _ _))
 generalize (zDO w).setCells (w.heap.size+1) 0 (zAE id 0 0)=W0 at *;clear hth;go_upto_region 7 with fail
 have pO2:=pO;have pR2:=pR;have hB2:=hB;clear pO pR hB;have rO:=pO2.range;have ht2:World.there W0 w.heap.size 0 (zAE id 0 0).toArray.size:=pR2.there;have pF:AtL (W0.setCells w.heap.size 0 (zAE id 0 0)) w.heap.size (zAE id 0 0):=pR2.setAll rfl;have hB3:Below w.heap.size w (W0.setCells w.heap.size 0 (zAE id 0 0)):=zAs hB2 (Nat.le_refl _) _ 0;clear pO2 pR2;go_wp2_with (first | (refine zAA (by rfl) 193 (.tmp 3) rfl (w.heap.size+1) 0 rfl (zAE id 0 0) _ rO underlying193 rfl (by kernel_rfl) ?_) | ((with_reducible refine wpList_store_mid ?_ 193 (.tmp 2) (.tmp 16) ?_ w.heap.size 0 (zAE id 0 0).toArray ?_ ?_ ?_ ?_ ?_ ?_);rfl;rfl;rfl;rfl;exact ht2;kernel_rfl;exact zB0 _ _ _))
 exact bodyPost_ret (v:=.agg (zAE id 0 0).toArray) (zD3 (by rfl) _ _ w.heap.size (zAE id 0 0) _ (by rfl) pF.range underlying193 rfl (by kernel_rfl)) rfl ⟨rfl,hB3⟩
