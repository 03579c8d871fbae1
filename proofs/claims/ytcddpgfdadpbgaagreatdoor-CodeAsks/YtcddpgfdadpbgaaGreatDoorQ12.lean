/- KWalkZ, KOpen, TRightD, TPlainB, VWalkD. -/
import Derived.Test.YtcddpgfdadpbgaaGreatDoorQ11
set_option maxHeartbeats 1600000
set_option maxRecDepth 100000
set_option linter.unusedVariables false
namespace Go.Proofs.YtcddpgfdadpbgaaGreatDoor
open Tryz
open Go.RowKit
variable {ops:Array Oper} {rest:List Oper} {op:Oper} {a:Act} {w:World} {Q:Exit->Act->World->Prop}
theorem zAH (hgd:op.guard=none) (T:TypeId) (y:Operand) (ho:op.op=.build T #[(0,y)]) (v:Value) (hy:a.eval y=v) (L:List Value) (hr:(Instr.build T #[(0,v)]).run prog w=.ok (.agg L.toArray) w)
  (h:wpList prog ops Q rest (a.put op.dst (.agg L.toArray)) w):wpList prog ops Q (op::rest) a w:=by
 refine wpList_plain hgd λK hK=>?_
 unfold Oper.wp execOp;simp only [ho,List.map_toArray,List.map_cons,List.map_nil,hy,Sem.run_bind,Sem.run_pure,Result.andThen_ok,hr];exact hK _ _ h
theorem zA2 (hgd:op.guard=none) (T:TypeId) (i j:Nat) (y z:Operand) (ho:op.op=.build T #[(i,y),(j,z)]) (v u:Value) (hy:a.eval y=v) (hz:a.eval z=u) (L:List Value) (hr:(Instr.build T #[(i,v),(j,u)]).run prog w=.ok (.agg L.toArray) w)
  (h:wpList prog ops Q rest (a.put op.dst (.agg L.toArray)) w):wpList prog ops Q (op::rest) a w:=by
 refine wpList_plain hgd λK hK=>?_
 unfold Oper.wp execOp;simp only [ho,List.map_toArray,List.map_cons,List.map_nil,hy,hz,Sem.run_bind,Sem.run_pure,Result.andThen_ok,hr];exact hK _ _ h
theorem zKd (id n k:Int) (w:World):Calls prog 150 #[.agg (zAF id n k).toArray] w λe w'=>(∃ t p,e=.returned (.iface t (.pointer p)))/\Below w.heap.size w w':=by
 have r0:=(AtL.new0 w 207 (zAF id n k)).range;have hB:=zAJ (Below.refl _ w) (.cells (zAF id n k).toArray 207);go_enter func150,ntmps150;go_upto_region 1 with fail
 generalize (w.alloc (.cells (zAF id n k).toArray 207))=W at *;go_wp2_with (first | (refine zAA (by rfl) 207 (.tmp 1) rfl w.heap.size 0 rfl (zAF id n k) _ r0 underlying207 rfl (by kernel_rfl) ?_) | (refine zAH rfl _ _ rfl _ rfl (zAF id n k) (by kernel_rfl) ?_))
 go_ret;exact ⟨⟨_,_,rfl⟩,(clB hB)⟩
theorem zEQ (id n k:Int) (w:World):Calls prog 151 #[.agg (zAF id n k).toArray] w λe w'=>(∃ t p,e=.returned (.iface t (.pointer p)))/\Below w.heap.size w w':=by
 have r0:=(AtL.new0 w 207 (zAF id n k)).range;have hB:=zAJ (Below.refl _ w) (.cells (zAF id n k).toArray 207);go_enter func151,ntmps151;go_upto_region 1 with fail
 generalize (w.alloc (.cells (zAF id n k).toArray 207))=W at *;go_wp2_with (first | (refine zAA (by rfl) 207 (.tmp 1) rfl w.heap.size 0 rfl (zAF id n k) _ r0 underlying207 rfl (by kernel_rfl) ?_) | (refine zAH rfl _ _ rfl _ rfl (zAF id n k) (by kernel_rfl) ?_))
 go_ret;exact ⟨⟨_,_,rfl⟩,(clB hB)⟩
theorem zH7 (id n k:Int) (w:World):Calls prog 152 #[.agg (zAF id n k).toArray] w λe w'=>(∃ t p,e=.returned (.iface t (.pointer p)))/\Below w.heap.size w w':=by
 have r0:=(AtL.new0 w 207 (zAF id n k)).range;have hB:=zAJ (Below.refl _ w) (.cells (zAF id n k).toArray 207);go_enter func152,ntmps152;go_upto_region 1 with fail
 generalize (w.alloc (.cells (zAF id n k).toArray 207))=W at *;go_wp2_with (first | (refine zAA (by rfl) 207 (.tmp 1) rfl w.heap.size 0 rfl (zAF id n k) _ r0 underlying207 rfl (by kernel_rfl) ?_) | (refine zAH rfl _ _ rfl _ rfl (zAF id n k) (by kernel_rfl) ?_))
 go_ret;exact ⟨⟨_,_,rfl⟩,(clB hB)⟩
theorem zGG (id n k:Int) (w:World):Calls prog 153 #[.agg (zAF id n k).toArray] w λe w'=>(∃ t p,e=.returned (.iface t (.pointer p)))/\Below w.heap.size w w':=by
 have r0:=(AtL.new0 w 207 (zAF id n k)).range;have hB:=zAJ (Below.refl _ w) (.cells (zAF id n k).toArray 207);go_enter func153,ntmps153;go_upto_region 1 with fail
 generalize (w.alloc (.cells (zAF id n k).toArray 207))=W at *;go_wp2_with (first | (refine zAA (by rfl) 207 (.tmp 1) rfl w.heap.size 0 rfl (zAF id n k) _ r0 underlying207 rfl (by kernel_rfl) ?_) | (refine zAH rfl _ _ rfl _ rfl (zAF id n k) (by kernel_rfl) ?_))
 go_ret;exact ⟨⟨_,_,rfl⟩,(clB hB)⟩
theorem zHd (id n k:Int) (w:World):Calls prog 154 #[.agg (zAF id n k).toArray] w λe w'=>(∃ t p,e=.returned (.iface t (.pointer p)))/\Below w.heap.size w w':=by
 have r0:=(AtL.new0 w 207 (zAF id n k)).range;have hB:=zAJ (Below.refl _ w) (.cells (zAF id n k).toArray 207);go_enter func154,ntmps154;go_upto_region 1 with fail
 generalize (w.alloc (.cells (zAF id n k).toArray 207))=W at *;go_wp2_with (first | (refine zAA (by rfl) 207 (.tmp 1) rfl w.heap.size 0 rfl (zAF id n k) _ r0 underlying207 rfl (by kernel_rfl) ?_) | (refine zA2 rfl _ _ _ _ _ rfl _ _ rfl rfl (zAF id n k++[.int .i64 1]) (by kernel_rfl) ?_) | (refine zAH rfl _ _ rfl _ rfl (zAF id n k) (by kernel_rfl) ?_))
 go_ret;exact ⟨⟨_,_,rfl⟩,(clB hB)⟩
theorem zD6 (id n k:Int) (w:World):Calls prog 155 #[.agg (zAF id n k).toArray] w λe w'=>(∃ t p,e=.returned (.iface t (.pointer p)))/\Below w.heap.size w w':=by
 have r0:=(AtL.new0 w 207 (zAF id n k)).range;have hB:=zAJ (Below.refl _ w) (.cells (zAF id n k).toArray 207);go_enter func155,ntmps155;go_upto_region 1 with fail
 generalize (w.alloc (.cells (zAF id n k).toArray 207))=W at *;go_wp2_with (first | (refine zAA (by rfl) 207 (.tmp 1) rfl w.heap.size 0 rfl (zAF id n k) _ r0 underlying207 rfl (by kernel_rfl) ?_) | (refine zA2 rfl _ _ _ _ _ rfl _ _ rfl rfl (zAF id n k++[.int .i64 (-1)]) (by kernel_rfl) ?_) | (refine zAH rfl _ _ rfl _ rfl (zAF id n k) (by kernel_rfl) ?_))
 go_ret;exact ⟨⟨_,_,rfl⟩,(clB hB)⟩
theorem zE9 (id n k:Int) (w:World):Calls prog 156 #[.agg (zAF id n k).toArray] w λe w'=>(∃ t p,e=.returned (.iface t (.pointer p)))/\Below w.heap.size w w':=by
 have r0:=(AtL.new0 w 207 (zAF id n k)).range;have hB:=zAJ (Below.refl _ w) (.cells (zAF id n k).toArray 207);go_enter func156,ntmps156;go_upto_region 1 with fail
 generalize (w.alloc (.cells (zAF id n k).toArray 207))=W at *;go_wp2_with (first | (refine zAA (by rfl) 207 (.tmp 1) rfl w.heap.size 0 rfl (zAF id n k) _ r0 underlying207 rfl (by kernel_rfl) ?_) | (refine zAH rfl _ _ rfl _ rfl (zAF id n k) (by kernel_rfl) ?_))
 go_ret;exact ⟨⟨_,_,rfl⟩,(clB hB)⟩
theorem zK6 (id n k:Int) (w:World):Calls prog 157 #[.agg (zAF id n k).toArray] w λe w'=>(∃ t p,e=.returned (.iface t (.pointer p)))/\Below w.heap.size w w':=by
 have r0:=(AtL.new0 w 207 (zAF id n k)).range;have hB:=zAJ (Below.refl _ w) (.cells (zAF id n k).toArray 207);go_enter func157,ntmps157;go_upto_region 1 with fail
 generalize (w.alloc (.cells (zAF id n k).toArray 207))=W at *;go_wp2_with (first | (refine zAA (by rfl) 207 (.tmp 1) rfl w.heap.size 0 rfl (zAF id n k) _ r0 underlying207 rfl (by kernel_rfl) ?_) | (refine zA2 rfl _ _ _ _ _ rfl _ _ rfl rfl (zAF id n k++[.bool false]) (by kernel_rfl) ?_) | (refine zAH rfl _ _ rfl _ rfl (zAF id n k) (by kernel_rfl) ?_))
 go_ret;exact ⟨⟨_,_,rfl⟩,(clB hB)⟩
theorem zLb (id n k:Int) (w:World):Calls prog 158 #[.agg (zAF id n k).toArray] w λe w'=>(∃ t p,e=.returned (.iface t (.pointer p)))/\Below w.heap.size w w':=by
 have r0:=(AtL.new0 w 207 (zAF id n k)).range;have hB:=zAJ (Below.refl _ w) (.cells (zAF id n k).toArray 207);go_enter func158,ntmps158;go_upto_region 1 with fail
 generalize (w.alloc (.cells (zAF id n k).toArray 207))=W at *;go_wp2_with (first | (refine zAA (by rfl) 207 (.tmp 1) rfl w.heap.size 0 rfl (zAF id n k) _ r0 underlying207 rfl (by kernel_rfl) ?_) | (refine zA2 rfl _ _ _ _ _ rfl _ _ rfl rfl (zAF id n k++[.bool true]) (by kernel_rfl) ?_) | (refine zAH rfl _ _ rfl _ rfl (zAF id n k) (by kernel_rfl) ?_))
 go_ret;exact ⟨⟨_,_,rfl⟩,(clB hB)⟩
theorem zLK (id n k:Int) (w:World):Calls prog 159 #[.agg (zAF id n k).toArray] w λe w'=>(∃ t p,e=.returned (.iface t (.pointer p)))/\Below w.heap.size w w':=by
 have r0:=(AtL.new0 w 207 (zAF id n k)).range;have hB:=zAJ (Below.refl _ w) (.cells (zAF id n k).toArray 207);go_enter func159,ntmps159;go_upto_region 1 with fail
 generalize (w.alloc (.cells (zAF id n k).toArray 207))=W at *;go_wp2_with (first | (refine zAA (by rfl) 207 (.tmp 1) rfl w.heap.size 0 rfl (zAF id n k) _ r0 underlying207 rfl (by kernel_rfl) ?_) | (refine zAH rfl _ _ rfl _ rfl (zAF id n k) (by kernel_rfl) ?_))
 go_ret;exact ⟨⟨_,_,rfl⟩,(clB hB)⟩
theorem zFP (id n k:Int) (w:World):Calls prog 160 #[.agg (zAF id n k).toArray] w λe w'=>(∃ t p,e=.returned (.iface t (.pointer p)))/\Below w.heap.size w w':=by
 have r0:=(AtL.new0 w 207 (zAF id n k)).range;have hB:=zAJ (Below.refl _ w) (.cells (zAF id n k).toArray 207);go_enter func160,ntmps160;go_upto_region 1 with fail
 generalize (w.alloc (.cells (zAF id n k).toArray 207))=W at *;go_wp2_with (first | (refine zAA (by rfl) 207 (.tmp 1) rfl w.heap.size 0 rfl (zAF id n k) _ r0 underlying207 rfl (by kernel_rfl) ?_) | (refine zAH rfl _ _ rfl _ rfl (zAF id n k) (by kernel_rfl) ?_))
 go_ret;exact ⟨⟨_,_,rfl⟩,(clB hB)⟩
theorem zE2 (id n k:Int) (w:World):Calls prog 161 #[.agg (zAF id n k).toArray] w λe w'=>(∃ t p,e=.returned (.iface t (.pointer p)))/\Below w.heap.size w w':=by
 have r0:=(AtL.new0 w 207 (zAF id n k)).range;have hB:=zAJ (Below.refl _ w) (.cells (zAF id n k).toArray 207);go_enter func161,ntmps161;go_upto_region 1 with fail
 generalize (w.alloc (.cells (zAF id n k).toArray 207))=W at *;go_wp2_with (first | (refine zAA (by rfl) 207 (.tmp 1) rfl w.heap.size 0 rfl (zAF id n k) _ r0 underlying207 rfl (by kernel_rfl) ?_) | (refine zAH rfl _ _ rfl _ rfl (zAF id n k) (by kernel_rfl) ?_))
 go_ret;exact ⟨⟨_,_,rfl⟩,(clB hB)⟩
theorem zEX (id n k:Int) (w:World):Calls prog 162 #[.agg (zAF id n k).toArray] w λe w'=>(∃ t p,e=.returned (.iface t (.pointer p)))/\Below w.heap.size w w':=by
 have r0:=(AtL.new0 w 207 (zAF id n k)).range;have hB:=zAJ (Below.refl _ w) (.cells (zAF id n k).toArray 207);go_enter func162,ntmps162;go_upto_region 1 with fail
 generalize (w.alloc (.cells (zAF id n k).toArray 207))=W at *;go_wp2_with (first | (refine zAA (by rfl) 207 (.tmp 1) rfl w.heap.size 0 rfl (zAF id n k) _ r0 underlying207 rfl (by kernel_rfl) ?_) | (refine zAH rfl _ _ rfl _ rfl (zAF id n k) (by kernel_rfl) ?_))
 go_ret;exact ⟨⟨_,_,rfl⟩,(clB hB)⟩
theorem zHr (id n k:Int) (w:World):Calls prog 163 #[.agg (zAF id n k).toArray] w λe w'=>(∃ t p,e=.returned (.iface t (.pointer p)))/\Below w.heap.size w w':=by
 have r0:=(AtL.new0 w 207 (zAF id n k)).range;have hB:=zAJ (Below.refl _ w) (.cells (zAF id n k).toArray 207);go_enter func163,ntmps163;go_upto_region 1 with fail
 generalize (w.alloc (.cells (zAF id n k).toArray 207))=W at *;go_wp2_with (first | (refine zAA (by rfl) 207 (.tmp 1) rfl w.heap.size 0 rfl (zAF id n k) _ r0 underlying207 rfl (by kernel_rfl) ?_) | (refine zAH rfl _ _ rfl _ rfl (zAF id n k) (by kernel_rfl) ?_))
 go_ret;exact ⟨⟨_,_,rfl⟩,(clB hB)⟩
theorem zI5 (id n k:Int) (w:World):Calls prog 164 #[.agg (zAF id n k).toArray] w λe w'=>(∃ t p,e=.returned (.iface t (.pointer p)))/\Below w.heap.size w w':=by
 have r0:=(AtL.new0 w 207 (zAF id n k)).range;have hB:=zAJ (Below.refl _ w) (.cells (zAF id n k).toArray 207);go_enter func164,ntmps164;go_upto_region 1 with fail
 generalize (w.alloc (.cells (zAF id n k).toArray 207))=W at *;go_wp2_with (first | (refine zAA (by rfl) 207 (.tmp 1) rfl w.heap.size 0 rfl (zAF id n k) _ r0 underlying207 rfl (by kernel_rfl) ?_) | (refine zAH rfl _ _ rfl _ rfl (zAF id n k) (by kernel_rfl) ?_))
 go_ret;exact ⟨⟨_,_,rfl⟩,(clB hB)⟩
theorem zGY (id n k:Int) (w:World):Calls prog 165 #[.agg (zAF id n k).toArray] w λe w'=>(∃ t p,e=.returned (.iface t (.pointer p)))/\Below w.heap.size w w':=by
 have r0:=(AtL.new0 w 207 (zAF id n k)).range;have hB:=zAJ (Below.refl _ w) (.cells (zAF id n k).toArray 207);go_enter func165,ntmps165;go_upto_region 1 with fail
 generalize (w.alloc (.cells (zAF id n k).toArray 207))=W at *;go_wp2_with (first | (refine zAA (by rfl) 207 (.tmp 1) rfl w.heap.size 0 rfl (zAF id n k) _ r0 underlying207 rfl (by kernel_rfl) ?_) | (refine zAH rfl _ _ rfl _ rfl (zAF id n k) (by kernel_rfl) ?_))
 go_ret;exact ⟨⟨_,_,rfl⟩,(clB hB)⟩
theorem zE6 (id n k:Int) (w:World):Calls prog 166 #[.agg (zAF id n k).toArray] w λe w'=>(∃ t p,e=.returned (.iface t (.pointer p)))/\Below w.heap.size w w':=by
 have r0:=(AtL.new0 w 207 (zAF id n k)).range;have hB:=zAJ (Below.refl _ w) (.cells (zAF id n k).toArray 207);go_enter func166,ntmps166;go_upto_region 1 with fail
 generalize (w.alloc (.cells (zAF id n k).toArray 207))=W at *;go_wp2_with (first | (refine zAA (by rfl) 207 (.tmp 1) rfl w.heap.size 0 rfl (zAF id n k) _ r0 underlying207 rfl (by kernel_rfl) ?_) | (refine zAH rfl _ _ rfl _ rfl (zAF id n k) (by kernel_rfl) ?_))
 go_ret;exact ⟨⟨_,_,rfl⟩,(clB hB)⟩
theorem zGW (id n k:Int) (w:World):Calls prog 167 #[.agg (zAF id n k).toArray] w λe w'=>(∃ t p,e=.returned (.iface t (.pointer p)))/\Below w.heap.size w w':=by
 have r0:=(AtL.new0 w 207 (zAF id n k)).range;have hB:=zAJ (Below.refl _ w) (.cells (zAF id n k).toArray 207);go_enter func167,ntmps167;go_upto_region 1 with fail
 generalize (w.alloc (.cells (zAF id n k).toArray 207))=W at *;go_wp2_with (first | (refine zAA (by rfl) 207 (.tmp 1) rfl w.heap.size 0 rfl (zAF id n k) _ r0 underlying207 rfl (by kernel_rfl) ?_) | (refine zAH rfl _ _ rfl _ rfl (zAF id n k) (by kernel_rfl) ?_))
 go_ret;exact ⟨⟨_,_,rfl⟩,(clB hB)⟩
theorem zGD (id n k:Int) (w:World):Calls prog 168 #[.agg (zAF id n k).toArray] w λe w'=>(∃ t p,e=.returned (.iface t (.pointer p)))/\Below w.heap.size w w':=by
 have r0:=(AtL.new0 w 207 (zAF id n k)).range;have hB:=zAJ (Below.refl _ w) (.cells (zAF id n k).toArray 207);go_enter func168,ntmps168;go_upto_region 1 with fail
 generalize (w.alloc (.cells (zAF id n k).toArray 207))=W at *;go_wp2_with (first | (refine zAA (by rfl) 207 (.tmp 1) rfl w.heap.size 0 rfl (zAF id n k) _ r0 underlying207 rfl (by kernel_rfl) ?_) | (refine zAH rfl _ _ rfl _ rfl (zAF id n k) (by kernel_rfl) ?_))
 go_ret;exact ⟨⟨_,_,rfl⟩,(clB hB)⟩
theorem zCA (id n k:Int) (w:World):Calls prog 169 #[.agg (zAF id n k).toArray] w λe w'=>(∃ t p,e=.returned (.iface t (.pointer p)))/\Below w.heap.size w w':=by
 have r0:=(AtL.new0 w 207 (zAF id n k)).range;have hB:=zAJ (Below.refl _ w) (.cells (zAF id n k).toArray 207);go_enter func169,ntmps169;go_upto_region 1 with fail
 generalize (w.alloc (.cells (zAF id n k).toArray 207))=W at *;go_wp2_with (first | (refine zAA (by rfl) 207 (.tmp 1) rfl w.heap.size 0 rfl (zAF id n k) _ r0 underlying207 rfl (by kernel_rfl) ?_) | (refine zAH rfl _ _ rfl _ rfl (zAF id n k) (by kernel_rfl) ?_))
 go_ret;exact ⟨⟨_,_,rfl⟩,(clB hB)⟩
def zD8:List Value:=[.int .i64 0,.int .i64 0,.int .i64 0,.int .i64 0,.int .i64 0,.int .i64 0,.int .i64 0,.string ⟨#[]⟩,.bool false,.int .i64 0,.int .i64 0,.int .i64 0,.int .i64 0,.string ⟨#[]⟩,.bool false,.int .i64 0,.bool false,.bool false,.bool false,.int .i64 0,.int .i64 0]
abbrev zCM (w:World):World:=w.alloc (.cells #[.int .i64 0,.int .i64 0,.int .i64 0,.int .i64 0,.int .i64 0,.int .i64 0,.int .i64 0,.string ⟨#[]⟩,.bool false,.int .i64 0,.int .i64 0,.int .i64 0,.int .i64 0,.string ⟨#[]⟩,.bool false,.int .i64 0,.bool false,.bool false,.bool false,.int .i64 0,.int .i64 0] 158)
theorem zJr (w:World):Calls prog 70 #[.int .i64 2] w λe w'=>(∃ v,e=.returned (.tuple #[v,.int .i64 0]))/\Below w.heap.size w w':=by
 have F:=zBP 2 w;rw [show fld 2=true from rfl] at F;have p0:AtL (zCM w) w.heap.size zD8:=AtL.new0 w _ _;have hth:World.there (zCM w) w.heap.size 0 (zAF 2 0 0).toArray.size:=p0.there;have pO:AtL ((zCM w).setCells w.heap.size 0 (zAF 2 0 0)) w.heap.size (zAF 2 0 0):=p0.setAll rfl;have hB:Below w.heap.size w ((zCM w).setCells w.heap.size 0 (zAF 2 0 0)):=zA8 (zAJ (Below.refl _ w) _) (Nat.le_refl _) _ 0;clear p0;go_enter func70,ntmps70;go_wp2_with fail
 refine F.mono ?_;rintro e w1 ⟨rfl,rfl⟩;go_upto_region 3 with fail
 go_upto_region 4 with (first | (refine zA2 rfl 158 _ _ _ _ rfl _ _ rfl rfl (zAF 2 0 0) (by kernel_rfl) ?_) | ((with_reducible refine wpList_store_mid ?_ 158 (.tmp 4) (.tmp 10) ?_ w.heap.size 0 (zAF 2 0 0).toArray ?_ ?_ ?_ ?_ ?_ ?_);rfl;rfl;rfl;rfl;exact hth;kernel_rfl;exact zAe _ _ _))
 generalize (zCM w).setCells w.heap.size 0 (zAF 2 0 0)=W0 at *;clear hth F;have o2:=pO.2.1 2 _ rfl;have f2:=pO.2.2 2 (by show 2<21;decide);go_upto_region 6 with fail
 have pO2:AtL (W0.setCell ⟨w.heap.size,2,none⟩ (.int .i64 1)) w.heap.size (zAF 2 1 0):=pO.set 2 (.int .i64 1);have hB2:Below w.heap.size w (W0.setCell ⟨w.heap.size,2,none⟩ (.int .i64 1)):=(clB hB)
 clear pO hB o2 f2;generalize W0.setCell ⟨w.heap.size,2,none⟩ (.int .i64 1)=W0 at *;have pO:=pO2;have hB:=hB2;clear pO2 hB2;have rO:=pO.range;clear pO;go_wp2_with (first | (refine zAA (by rfl) 158 (.tmp 4) rfl w.heap.size 0 rfl (zAF 2 1 0) _ rO underlying158 rfl (by kernel_rfl) ?_) | (refine zAH rfl 160 _ rfl _ rfl (zAF 2 1 0) (by kernel_rfl) ?_))
 go_ret2
 refine ⟨⟨_,rfl⟩,?_⟩;exact zAJ hB (.cells (zAF 2 1 0).toArray 160)
theorem zHO (w:World):Calls prog 70 #[.int .i64 11] w λe w'=>(∃ v,e=.returned (.tuple #[v,.int .i64 0]))/\Below w.heap.size w w':=by
 have F:=zBP 11 w;rw [show fld 11=true from rfl] at F;have p0:AtL (zCM w) w.heap.size zD8:=AtL.new0 w _ _;have hth:World.there (zCM w) w.heap.size 0 (zAF 11 0 0).toArray.size:=p0.there;have pO:AtL ((zCM w).setCells w.heap.size 0 (zAF 11 0 0)) w.heap.size (zAF 11 0 0):=p0.setAll rfl;have hB:Below w.heap.size w ((zCM w).setCells w.heap.size 0 (zAF 11 0 0)):=zA8 (zAJ (Below.refl _ w) _) (Nat.le_refl _) _ 0;clear p0;go_enter func70,ntmps70;go_wp2_with fail
 refine F.mono ?_;rintro e w1 ⟨rfl,rfl⟩;go_upto_region 3 with fail
 go_upto_region 4 with (first | (refine zA2 rfl 158 _ _ _ _ rfl _ _ rfl rfl (zAF 11 0 0) (by kernel_rfl) ?_) | ((with_reducible refine wpList_store_mid ?_ 158 (.tmp 4) (.tmp 10) ?_ w.heap.size 0 (zAF 11 0 0).toArray ?_ ?_ ?_ ?_ ?_ ?_);rfl;rfl;rfl;rfl;exact hth;kernel_rfl;exact zAe _ _ _))
 generalize (zCM w).setCells w.heap.size 0 (zAF 11 0 0)=W0 at *;clear hth F;have o4:=pO.2.1 4 _ rfl;have f4:=pO.2.2 4 (by show 4<21;decide);go_upto_region 8 with fail
 have pO2:AtL (W0.setCell ⟨w.heap.size,4,none⟩ (.int .i64 2)) w.heap.size (zAF 11 0 2):=pO.set 4 (.int .i64 2);have hB2:Below w.heap.size w (W0.setCell ⟨w.heap.size,4,none⟩ (.int .i64 2)):=(clB hB)
 clear pO hB o4 f4;generalize W0.setCell ⟨w.heap.size,4,none⟩ (.int .i64 2)=W0 at *;have pO:=pO2;have hB:=hB2;clear pO2 hB2;have rO:=pO.range;clear pO;go_wp2_with (first | (refine zAA (by rfl) 158 (.tmp 4) rfl w.heap.size 0 rfl (zAF 11 0 2) _ rO underlying158 rfl (by kernel_rfl) ?_) | (refine zAH rfl 160 _ rfl _ rfl (zAF 11 0 2) (by kernel_rfl) ?_))
 go_ret2
 refine ⟨⟨_,rfl⟩,?_⟩;exact zAJ hB (.cells (zAF 11 0 2).toArray 160)
theorem zJI (id:Int) (w:World) (hf:fld id=true) (h2:¬ id=2) (h11:¬ id=11):Calls prog 70 #[.int .i64 id] w λe w'=>(∃ v,e=.returned (.tuple #[v,.int .i64 0]))/\Below w.heap.size w w':=by
 have F:=zBP id w;rw [show fld id=true from hf] at F;have p0:AtL (zCM w) w.heap.size zD8:=AtL.new0 w _ _;have hth:World.there (zCM w) w.heap.size 0 (zAF id 0 0).toArray.size:=p0.there;have pO:AtL ((zCM w).setCells w.heap.size 0 (zAF id 0 0)) w.heap.size (zAF id 0 0):=p0.setAll rfl;have hB:Below w.heap.size w ((zCM w).setCells w.heap.size 0 (zAF id 0 0)):=zA8 (zAJ (Below.refl _ w) _) (Nat.le_refl _) _ 0;clear p0;go_enter func70,ntmps70;go_wp2_with fail
 refine F.mono ?_;rintro e w1 ⟨rfl,rfl⟩;go_upto_region 3 with fail
 go_upto_region 4 with (first | (refine zA2 rfl 158 _ _ _ _ rfl _ _ rfl rfl (zAF id 0 0) (by kernel_rfl) ?_) | ((with_reducible refine wpList_store_mid ?_ 158 (.tmp 4) (.tmp 10) ?_ w.heap.size 0 (zAF id 0 0).toArray ?_ ?_ ?_ ?_ ?_ ?_);rfl;rfl;rfl;rfl;exact hth;kernel_rfl;exact zAe _ _ _))
 generalize (zCM w).setCells w.heap.size 0 (zAF id 0 0)=W0 at *;clear hth F;have rO:=pO.range;clear pO;go_wp2_with (first | (refine zAA (by rfl) 158 (.tmp 4) rfl w.heap.size 0 rfl (zAF id 0 0) _ rO underlying158 rfl (by kernel_rfl) ?_) | (refine zAH rfl 160 _ rfl _ rfl (zAF id 0 0) (by kernel_rfl) ?_))
 go_ret2
 refine ⟨⟨_,rfl⟩,?_⟩;exact zAJ hB (.cells (zAF id 0 0).toArray 160)
theorem zC2 (id:Int) (w:World):Calls prog 70 #[.int .i64 id] w λe w'=>(∃ v,e=.returned (.tuple #[v,.int .i64 (if fld id=true then 0 else 1)]))/\Below w.heap.size w w':=by
 by_cases hf:fld id=true
 ·rw [if_pos hf];by_cases h2:id=2
  ·rw [h2];exact zJr w
  ·by_cases h11:id=11
   ·rw [h11];exact zHO w
   ·exact zJI id w hf h2 h11
 ·rw [if_neg hf];exact zHR id w (by simpa using hf)
def opK (o:Int):Int:=match Wt.opOf o with
 | none=>0
 | some (_,_,t)=>if t<5 then 5 else 4
end Go.Proofs.YtcddpgfdadpbgaaGreatDoor
namespace Go.Proofs.YtcddpgfdadpbgaaGreatDoor.Wt
open Go.Proofs.YtcddpgfdadpbgaaGreatDoor
def right (x:Nd):Bool :=
 if x.k=1 then vlOk x.v && eqN x ⟨1,x.v,0,⟨#[]⟩,0,Wt.r0,Wt.r0⟩
 else if x.k=2 then rfOk x.a && eqN x ⟨2,Wt.v0,0,⟨#[]⟩,0,x.a,Wt.r0⟩
 else if x.k=3 then (rfOk x.a && rfOk x.b && x.b.s.toList.isEmpty) && eqN x ⟨3,Wt.v0,0,⟨#[]⟩,0,x.a,x.b⟩
 else if x.k=4 then opK x.op == 4 && eqN x ⟨4,Wt.v0,x.op,⟨#[]⟩,0,Wt.r0,Wt.r0⟩
 else if x.k=5 then opK x.op == 5 && eqN x ⟨5,Wt.v0,x.op,⟨#[]⟩,0,Wt.r0,Wt.r0⟩
 else if x.k=6 then (zMK x.nm && decide (0<=x.ar) && decide (x.ar<=30)) && eqN x ⟨6,Wt.v0,0,x.nm,x.ar,Wt.r0,Wt.r0⟩
 else false
def FitV (v:Vl):Prop:=(-9223372036854775808<=v.n/\v.n<=9223372036854775807)/\(-9223372036854775808<=v.d/\v.d<=9223372036854775807)/\v.t.size<=9223372036854775807
def zLh (sub:List Nd->Option (Nat × Nat)):Nat->List Nd->Option (Nat × Nat)
 | 0,_=>some (0,0)
 | k+1,l=>match sub l with
  | none=>none
  | some (s,d)=>match zLh sub k (l.drop s) with
   | none=>none
   | some (s',d')=>some (s+s',max d d')
def one:Nat->List Nd->Option (Nat × Nat)
 | 0,_=>none
 | _+1,[]=>none
 | f+1,x::r=>if right x then (match zLh (one f) (parts x).toNat r with | none=>none | some (s,d)=>some (s+1,d+1)) else none
end Go.Proofs.YtcddpgfdadpbgaaGreatDoor.Wt
namespace Go.Proofs.YtcddpgfdadpbgaaGreatDoor
open Tryz
open Go.RowKit
theorem vlz (w:World):AtL (w.alloc (.cells #[.int .i64 0,.int .i64 0,.int .i64 0,.string ⟨#[]⟩,.bool false,.int .i64 0] 40)) w.heap.size [.int .i64 0,.int .i64 0,.int .i64 0,.string ⟨#[]⟩,.bool false,.int .i64 0]:=AtL.new0 w _ _
def zEB (c:Int):Wt.Vl:=⟨4,0,0,⟨#[]⟩,false,if Wv.flt c then c else 2⟩
theorem zBu (c:Int) (w:World):CR 170 #[.int .i64 c] w (vlV (zEB c)):=by
 have C:=λw=>zBr c w
 unfold zEB;cases hq:Wv.flt c with
 | false =>
  rw [hq] at C;go_enter func170,ntmps170;go_wp2_with fail
  refine (C _).mono ?_;rintro e w1 ⟨rfl,rfl⟩;go_wp2;refine bodyPost_ret (v:=vlV ⟨4,0,0,⟨#[]⟩,false,2⟩) (by simp [results,results170,go_sem,vlV,vl6]) rfl ⟨rfl,?_⟩;exact clA
 | true =>
  rw [hq] at C;go_enter func170,ntmps170;go_wp2_with fail
  refine (C _).mono ?_;rintro e w1 ⟨rfl,rfl⟩;go_wp2;refine bodyPost_ret (v:=vlV ⟨4,0,0,⟨#[]⟩,false,c⟩) (by simp [results,results170,go_sem,vlV,vl6]) rfl ⟨rfl,?_⟩;exact clA
def zKM (s:ByteArray):Wt.Vl:=if Wv.prts s.data.toList then (if 256<s.size then ⟨4,0,0,⟨#[]⟩,false,7⟩ else ⟨2,0,0,s,false,0⟩) else ⟨4,0,0,⟨#[]⟩,false,2⟩
theorem zEw (s:ByteArray) (w:World) (hs:s.size<=9223372036854775807):CR 146 #[.string s] w (vlV (zKM s)):=by
 have C:=λw=>zEG s w hs
 have F2:=λw=>zBu 2 w
 have F7:=λw=>zBu 7 w
 have e2:zEB 2=⟨4,0,0,⟨#[]⟩,false,2⟩:=rfl;have e7:zEB 7=⟨4,0,0,⟨#[]⟩,false,7⟩:=rfl;rw [e2] at F2;rw [e7] at F7;simp only [vlV,vl6] at F2 F7;have pR:=vlz w;have hB0:=zAJ (Below.refl _ w) (.cells zV0 40);unfold zKM;cases hq:Wv.prts s.data.toList with
 | false =>
  rw [hq] at C;rw [if_neg (by decide)];go_enter func146,ntmps146;go_wp2_with fail
  refine (C _).mono ?_;rintro e w1 ⟨rfl,rfl⟩;go_wp2_with fail
  refine (F2 _).mono ?_;rintro e w2 ⟨rfl,hb⟩;have pR1:=AtL.below hb pR;obtain ⟨c0,c1,c2,c3,c4,c5⟩:=pR1.f6;have g0:=pR1.2.2 0 (by decide);have g1:=pR1.2.2 1 (by decide);have g2:=pR1.2.2 2 (by decide);have g3:=pR1.2.2 3 (by decide);have g4:=pR1.2.2 4 (by decide);have g5:=pR1.2.2 5 (by decide);have hB1:=zAB hB0 hb;go_wp2;refine bodyPost_ret (v:=vlV ⟨4,0,0,⟨#[]⟩,false,2⟩) (by simp [results,results146,go_sem,vlV,vl6, *]) rfl ⟨rfl,?_⟩;exact (clB hB1)
 | true =>
  rw [hq] at C;rw [if_pos rfl];by_cases hl:256<s.size
  ·have hli:(256:Int)<(s.size:Int):=by omega
   rw [if_pos hl];go_enter func146,ntmps146;go_wp2_with fail
   refine (C _).mono ?_;rintro e w1 ⟨rfl,rfl⟩;go_wp2_with fail
   refine (F7 _).mono ?_;rintro e w2 ⟨rfl,hb⟩;have pR1:=AtL.below hb pR;obtain ⟨c0,c1,c2,c3,c4,c5⟩:=pR1.f6;have g0:=pR1.2.2 0 (by decide);have g1:=pR1.2.2 1 (by decide);have g2:=pR1.2.2 2 (by decide);have g3:=pR1.2.2 3 (by decide);have g4:=pR1.2.2 4 (by decide);have g5:=pR1.2.2 5 (by decide);have hB1:=zAB hB0 hb;go_wp2;refine bodyPost_ret (v:=vlV ⟨4,0,0,⟨#[]⟩,false,7⟩) (by simp [results,results146,go_sem,vlV,vl6, *]) rfl ⟨rfl,?_⟩;exact (clB hB1)
  ·have hli:¬ (256:Int)<(s.size:Int):=by omega
   rw [if_neg hl];go_enter func146,ntmps146;go_wp2_with fail
   refine (C _).mono ?_;rintro e w1 ⟨rfl,rfl⟩;go_wp2;refine bodyPost_ret (v:=vlV ⟨2,0,0,s,false,0⟩) (by simp [results,results146,go_sem,vlV,vl6, *]) rfl ⟨rfl,?_⟩;exact clA
