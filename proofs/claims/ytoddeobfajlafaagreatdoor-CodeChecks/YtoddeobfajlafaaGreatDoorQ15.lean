/- KWalkZ, KOpen, VWalkD, KStand. -/
import Derived.Test.YtoddeobfajlafaaGreatDoorQ14
set_option maxHeartbeats 1600000
set_option maxRecDepth 100000
namespace Go.Proofs.YtoddeobfajlafaaGreatDoor
open Tryz
open Go.RowKit
set_option linter.unusedVariables false
variable {ops:Array Oper} {rest:List Oper} {op:Oper} {a:Act} {w:World} {Q:Exit->Act->World->Prop}
theorem zAI (hgd:op.guard=none) (T:TypeId) (y:Operand) (ho:op.op=.build T #[(0,y)]) (v:Value) (hy:a.eval y=v) (L:List Value) (hr:(Instr.build T #[(0,v)]).run prog w=.ok (.agg L.toArray) w)
  (h:wpList prog ops Q rest (a.put op.dst (.agg L.toArray)) w):wpList prog ops Q (op::rest) a w:=by
 refine wpList_plain hgd λK hK=>?_
 unfold Oper.wp execOp;simp only [ho,List.map_toArray,List.map_cons,List.map_nil,hy,Sem.run_bind,Sem.run_pure,Result.andThen_ok,hr];exact hK _ _ h
theorem zA9 (hgd:op.guard=none) (T:TypeId) (i j:Nat) (y z:Operand) (ho:op.op=.build T #[(i,y),(j,z)]) (v u:Value) (hy:a.eval y=v) (hz:a.eval z=u) (L:List Value) (hr:(Instr.build T #[(i,v),(j,u)]).run prog w=.ok (.agg L.toArray) w)
  (h:wpList prog ops Q rest (a.put op.dst (.agg L.toArray)) w):wpList prog ops Q (op::rest) a w:=by
 refine wpList_plain hgd λK hK=>?_
 unfold Oper.wp execOp;simp only [ho,List.map_toArray,List.map_cons,List.map_nil,hy,hz,Sem.run_bind,Sem.run_pure,Result.andThen_ok,hr];exact hK _ _ h
theorem zPV (id n k:Int) (w:World):Calls prog 178 #[.agg (zAF id n k).toArray] w λe w'=>(∃ t p,e=.returned (.iface t (.pointer p)))/\Below w.heap.size w w':=by
 have r0:=(AtL.new0 w 229 (zAF id n k)).range;have hB:=zAJ (Below.refl _ w) (.cells (zAF id n k).toArray 229);go_enter func178,ntmps178;go_upto_region 1 with fail
 generalize (w.alloc (.cells (zAF id n k).toArray 229))=W at *;go_wp2_with (first | (refine zAA (by rfl) 229 (.tmp 1) rfl w.heap.size 0 rfl (zAF id n k) _ r0 underlying229 rfl (by kernel_rfl) ?_) | (refine zAI rfl _ _ rfl _ rfl (zAF id n k) (by kernel_rfl) ?_))
 go_ret;exact ⟨⟨_,_,rfl⟩,(clB hB)⟩
theorem zGL (id n k:Int) (w:World):Calls prog 179 #[.agg (zAF id n k).toArray] w λe w'=>(∃ t p,e=.returned (.iface t (.pointer p)))/\Below w.heap.size w w':=by
 have r0:=(AtL.new0 w 229 (zAF id n k)).range;have hB:=zAJ (Below.refl _ w) (.cells (zAF id n k).toArray 229);go_enter func179,ntmps179;go_upto_region 1 with fail
 generalize (w.alloc (.cells (zAF id n k).toArray 229))=W at *;go_wp2_with (first | (refine zAA (by rfl) 229 (.tmp 1) rfl w.heap.size 0 rfl (zAF id n k) _ r0 underlying229 rfl (by kernel_rfl) ?_) | (refine zAI rfl _ _ rfl _ rfl (zAF id n k) (by kernel_rfl) ?_))
 go_ret;exact ⟨⟨_,_,rfl⟩,(clB hB)⟩
theorem zLK (id n k:Int) (w:World):Calls prog 180 #[.agg (zAF id n k).toArray] w λe w'=>(∃ t p,e=.returned (.iface t (.pointer p)))/\Below w.heap.size w w':=by
 have r0:=(AtL.new0 w 229 (zAF id n k)).range;have hB:=zAJ (Below.refl _ w) (.cells (zAF id n k).toArray 229);go_enter func180,ntmps180;go_upto_region 1 with fail
 generalize (w.alloc (.cells (zAF id n k).toArray 229))=W at *;go_wp2_with (first | (refine zAA (by rfl) 229 (.tmp 1) rfl w.heap.size 0 rfl (zAF id n k) _ r0 underlying229 rfl (by kernel_rfl) ?_) | (refine zAI rfl _ _ rfl _ rfl (zAF id n k) (by kernel_rfl) ?_))
 go_ret;exact ⟨⟨_,_,rfl⟩,(clB hB)⟩
theorem zHf (id n k:Int) (w:World):Calls prog 181 #[.agg (zAF id n k).toArray] w λe w'=>(∃ t p,e=.returned (.iface t (.pointer p)))/\Below w.heap.size w w':=by
 have r0:=(AtL.new0 w 229 (zAF id n k)).range;have hB:=zAJ (Below.refl _ w) (.cells (zAF id n k).toArray 229);go_enter func181,ntmps181;go_upto_region 1 with fail
 generalize (w.alloc (.cells (zAF id n k).toArray 229))=W at *;go_wp2_with (first | (refine zAA (by rfl) 229 (.tmp 1) rfl w.heap.size 0 rfl (zAF id n k) _ r0 underlying229 rfl (by kernel_rfl) ?_) | (refine zAI rfl _ _ rfl _ rfl (zAF id n k) (by kernel_rfl) ?_))
 go_ret;exact ⟨⟨_,_,rfl⟩,(clB hB)⟩
theorem zJo (id n k:Int) (w:World):Calls prog 182 #[.agg (zAF id n k).toArray] w λe w'=>(∃ t p,e=.returned (.iface t (.pointer p)))/\Below w.heap.size w w':=by
 have r0:=(AtL.new0 w 229 (zAF id n k)).range;have hB:=zAJ (Below.refl _ w) (.cells (zAF id n k).toArray 229);go_enter func182,ntmps182;go_upto_region 1 with fail
 generalize (w.alloc (.cells (zAF id n k).toArray 229))=W at *;go_wp2_with (first | (refine zAA (by rfl) 229 (.tmp 1) rfl w.heap.size 0 rfl (zAF id n k) _ r0 underlying229 rfl (by kernel_rfl) ?_) | (refine zA9 rfl _ _ _ _ _ rfl _ _ rfl rfl (zAF id n k++[.int .i64 1]) (by kernel_rfl) ?_) | (refine zAI rfl _ _ rfl _ rfl (zAF id n k) (by kernel_rfl) ?_))
 go_ret;exact ⟨⟨_,_,rfl⟩,(clB hB)⟩
theorem zEk (id n k:Int) (w:World):Calls prog 183 #[.agg (zAF id n k).toArray] w λe w'=>(∃ t p,e=.returned (.iface t (.pointer p)))/\Below w.heap.size w w':=by
 have r0:=(AtL.new0 w 229 (zAF id n k)).range;have hB:=zAJ (Below.refl _ w) (.cells (zAF id n k).toArray 229);go_enter func183,ntmps183;go_upto_region 1 with fail
 generalize (w.alloc (.cells (zAF id n k).toArray 229))=W at *;go_wp2_with (first | (refine zAA (by rfl) 229 (.tmp 1) rfl w.heap.size 0 rfl (zAF id n k) _ r0 underlying229 rfl (by kernel_rfl) ?_) | (refine zA9 rfl _ _ _ _ _ rfl _ _ rfl rfl (zAF id n k++[.int .i64 (-1)]) (by kernel_rfl) ?_) | (refine zAI rfl _ _ rfl _ rfl (zAF id n k) (by kernel_rfl) ?_))
 go_ret;exact ⟨⟨_,_,rfl⟩,(clB hB)⟩
theorem zG3 (id n k:Int) (w:World):Calls prog 184 #[.agg (zAF id n k).toArray] w λe w'=>(∃ t p,e=.returned (.iface t (.pointer p)))/\Below w.heap.size w w':=by
 have r0:=(AtL.new0 w 229 (zAF id n k)).range;have hB:=zAJ (Below.refl _ w) (.cells (zAF id n k).toArray 229);go_enter func184,ntmps184;go_upto_region 1 with fail
 generalize (w.alloc (.cells (zAF id n k).toArray 229))=W at *;go_wp2_with (first | (refine zAA (by rfl) 229 (.tmp 1) rfl w.heap.size 0 rfl (zAF id n k) _ r0 underlying229 rfl (by kernel_rfl) ?_) | (refine zAI rfl _ _ rfl _ rfl (zAF id n k) (by kernel_rfl) ?_))
 go_ret;exact ⟨⟨_,_,rfl⟩,(clB hB)⟩
theorem zPO (id n k:Int) (w:World):Calls prog 185 #[.agg (zAF id n k).toArray] w λe w'=>(∃ t p,e=.returned (.iface t (.pointer p)))/\Below w.heap.size w w':=by
 have r0:=(AtL.new0 w 229 (zAF id n k)).range;have hB:=zAJ (Below.refl _ w) (.cells (zAF id n k).toArray 229);go_enter func185,ntmps185;go_upto_region 1 with fail
 generalize (w.alloc (.cells (zAF id n k).toArray 229))=W at *;go_wp2_with (first | (refine zAA (by rfl) 229 (.tmp 1) rfl w.heap.size 0 rfl (zAF id n k) _ r0 underlying229 rfl (by kernel_rfl) ?_) | (refine zA9 rfl _ _ _ _ _ rfl _ _ rfl rfl (zAF id n k++[.bool false]) (by kernel_rfl) ?_) | (refine zAI rfl _ _ rfl _ rfl (zAF id n k) (by kernel_rfl) ?_))
 go_ret;exact ⟨⟨_,_,rfl⟩,(clB hB)⟩
theorem zQC (id n k:Int) (w:World):Calls prog 186 #[.agg (zAF id n k).toArray] w λe w'=>(∃ t p,e=.returned (.iface t (.pointer p)))/\Below w.heap.size w w':=by
 have r0:=(AtL.new0 w 229 (zAF id n k)).range;have hB:=zAJ (Below.refl _ w) (.cells (zAF id n k).toArray 229);go_enter func186,ntmps186;go_upto_region 1 with fail
 generalize (w.alloc (.cells (zAF id n k).toArray 229))=W at *;go_wp2_with (first | (refine zAA (by rfl) 229 (.tmp 1) rfl w.heap.size 0 rfl (zAF id n k) _ r0 underlying229 rfl (by kernel_rfl) ?_) | (refine zA9 rfl _ _ _ _ _ rfl _ _ rfl rfl (zAF id n k++[.bool true]) (by kernel_rfl) ?_) | (refine zAI rfl _ _ rfl _ rfl (zAF id n k) (by kernel_rfl) ?_))
 go_ret;exact ⟨⟨_,_,rfl⟩,(clB hB)⟩
theorem zO7 (id n k:Int) (w:World):Calls prog 187 #[.agg (zAF id n k).toArray] w λe w'=>(∃ t p,e=.returned (.iface t (.pointer p)))/\Below w.heap.size w w':=by
 have r0:=(AtL.new0 w 229 (zAF id n k)).range;have hB:=zAJ (Below.refl _ w) (.cells (zAF id n k).toArray 229);go_enter func187,ntmps187;go_upto_region 1 with fail
 generalize (w.alloc (.cells (zAF id n k).toArray 229))=W at *;go_wp2_with (first | (refine zAA (by rfl) 229 (.tmp 1) rfl w.heap.size 0 rfl (zAF id n k) _ r0 underlying229 rfl (by kernel_rfl) ?_) | (refine zAI rfl _ _ rfl _ rfl (zAF id n k) (by kernel_rfl) ?_))
 go_ret;exact ⟨⟨_,_,rfl⟩,(clB hB)⟩
theorem zIN (id n k:Int) (w:World):Calls prog 188 #[.agg (zAF id n k).toArray] w λe w'=>(∃ t p,e=.returned (.iface t (.pointer p)))/\Below w.heap.size w w':=by
 have r0:=(AtL.new0 w 229 (zAF id n k)).range;have hB:=zAJ (Below.refl _ w) (.cells (zAF id n k).toArray 229);go_enter func188,ntmps188;go_upto_region 1 with fail
 generalize (w.alloc (.cells (zAF id n k).toArray 229))=W at *;go_wp2_with (first | (refine zAA (by rfl) 229 (.tmp 1) rfl w.heap.size 0 rfl (zAF id n k) _ r0 underlying229 rfl (by kernel_rfl) ?_) | (refine zAI rfl _ _ rfl _ rfl (zAF id n k) (by kernel_rfl) ?_))
 go_ret;exact ⟨⟨_,_,rfl⟩,(clB hB)⟩
theorem zG2 (id n k:Int) (w:World):Calls prog 189 #[.agg (zAF id n k).toArray] w λe w'=>(∃ t p,e=.returned (.iface t (.pointer p)))/\Below w.heap.size w w':=by
 have r0:=(AtL.new0 w 229 (zAF id n k)).range;have hB:=zAJ (Below.refl _ w) (.cells (zAF id n k).toArray 229);go_enter func189,ntmps189;go_upto_region 1 with fail
 generalize (w.alloc (.cells (zAF id n k).toArray 229))=W at *;go_wp2_with (first | (refine zAA (by rfl) 229 (.tmp 1) rfl w.heap.size 0 rfl (zAF id n k) _ r0 underlying229 rfl (by kernel_rfl) ?_) | (refine zAI rfl _ _ rfl _ rfl (zAF id n k) (by kernel_rfl) ?_))
 go_ret;exact ⟨⟨_,_,rfl⟩,(clB hB)⟩
theorem zGd (id n k:Int) (w:World):Calls prog 190 #[.agg (zAF id n k).toArray] w λe w'=>(∃ t p,e=.returned (.iface t (.pointer p)))/\Below w.heap.size w w':=by
 have r0:=(AtL.new0 w 229 (zAF id n k)).range;have hB:=zAJ (Below.refl _ w) (.cells (zAF id n k).toArray 229);go_enter func190,ntmps190;go_upto_region 1 with fail
 generalize (w.alloc (.cells (zAF id n k).toArray 229))=W at *;go_wp2_with (first | (refine zAA (by rfl) 229 (.tmp 1) rfl w.heap.size 0 rfl (zAF id n k) _ r0 underlying229 rfl (by kernel_rfl) ?_) | (refine zAI rfl _ _ rfl _ rfl (zAF id n k) (by kernel_rfl) ?_))
 go_ret;exact ⟨⟨_,_,rfl⟩,(clB hB)⟩
theorem zKB (id n k:Int) (w:World):Calls prog 191 #[.agg (zAF id n k).toArray] w λe w'=>(∃ t p,e=.returned (.iface t (.pointer p)))/\Below w.heap.size w w':=by
 have r0:=(AtL.new0 w 229 (zAF id n k)).range;have hB:=zAJ (Below.refl _ w) (.cells (zAF id n k).toArray 229);go_enter func191,ntmps191;go_upto_region 1 with fail
 generalize (w.alloc (.cells (zAF id n k).toArray 229))=W at *;go_wp2_with (first | (refine zAA (by rfl) 229 (.tmp 1) rfl w.heap.size 0 rfl (zAF id n k) _ r0 underlying229 rfl (by kernel_rfl) ?_) | (refine zAI rfl _ _ rfl _ rfl (zAF id n k) (by kernel_rfl) ?_))
 go_ret;exact ⟨⟨_,_,rfl⟩,(clB hB)⟩
theorem zNb (id n k:Int) (w:World):Calls prog 192 #[.agg (zAF id n k).toArray] w λe w'=>(∃ t p,e=.returned (.iface t (.pointer p)))/\Below w.heap.size w w':=by
 have r0:=(AtL.new0 w 229 (zAF id n k)).range;have hB:=zAJ (Below.refl _ w) (.cells (zAF id n k).toArray 229);go_enter func192,ntmps192;go_upto_region 1 with fail
 generalize (w.alloc (.cells (zAF id n k).toArray 229))=W at *;go_wp2_with (first | (refine zAA (by rfl) 229 (.tmp 1) rfl w.heap.size 0 rfl (zAF id n k) _ r0 underlying229 rfl (by kernel_rfl) ?_) | (refine zAI rfl _ _ rfl _ rfl (zAF id n k) (by kernel_rfl) ?_))
 go_ret;exact ⟨⟨_,_,rfl⟩,(clB hB)⟩
theorem zKh (id n k:Int) (w:World):Calls prog 193 #[.agg (zAF id n k).toArray] w λe w'=>(∃ t p,e=.returned (.iface t (.pointer p)))/\Below w.heap.size w w':=by
 have r0:=(AtL.new0 w 229 (zAF id n k)).range;have hB:=zAJ (Below.refl _ w) (.cells (zAF id n k).toArray 229);go_enter func193,ntmps193;go_upto_region 1 with fail
 generalize (w.alloc (.cells (zAF id n k).toArray 229))=W at *;go_wp2_with (first | (refine zAA (by rfl) 229 (.tmp 1) rfl w.heap.size 0 rfl (zAF id n k) _ r0 underlying229 rfl (by kernel_rfl) ?_) | (refine zAI rfl _ _ rfl _ rfl (zAF id n k) (by kernel_rfl) ?_))
 go_ret;exact ⟨⟨_,_,rfl⟩,(clB hB)⟩
theorem zG8 (id n k:Int) (w:World):Calls prog 194 #[.agg (zAF id n k).toArray] w λe w'=>(∃ t p,e=.returned (.iface t (.pointer p)))/\Below w.heap.size w w':=by
 have r0:=(AtL.new0 w 229 (zAF id n k)).range;have hB:=zAJ (Below.refl _ w) (.cells (zAF id n k).toArray 229);go_enter func194,ntmps194;go_upto_region 1 with fail
 generalize (w.alloc (.cells (zAF id n k).toArray 229))=W at *;go_wp2_with (first | (refine zAA (by rfl) 229 (.tmp 1) rfl w.heap.size 0 rfl (zAF id n k) _ r0 underlying229 rfl (by kernel_rfl) ?_) | (refine zAI rfl _ _ rfl _ rfl (zAF id n k) (by kernel_rfl) ?_))
 go_ret;exact ⟨⟨_,_,rfl⟩,(clB hB)⟩
theorem zJ8 (id n k:Int) (w:World):Calls prog 195 #[.agg (zAF id n k).toArray] w λe w'=>(∃ t p,e=.returned (.iface t (.pointer p)))/\Below w.heap.size w w':=by
 have r0:=(AtL.new0 w 229 (zAF id n k)).range;have hB:=zAJ (Below.refl _ w) (.cells (zAF id n k).toArray 229);go_enter func195,ntmps195;go_upto_region 1 with fail
 generalize (w.alloc (.cells (zAF id n k).toArray 229))=W at *;go_wp2_with (first | (refine zAA (by rfl) 229 (.tmp 1) rfl w.heap.size 0 rfl (zAF id n k) _ r0 underlying229 rfl (by kernel_rfl) ?_) | (refine zAI rfl _ _ rfl _ rfl (zAF id n k) (by kernel_rfl) ?_))
 go_ret;exact ⟨⟨_,_,rfl⟩,(clB hB)⟩
theorem zHK (id n k:Int) (w:World):Calls prog 196 #[.agg (zAF id n k).toArray] w λe w'=>(∃ t p,e=.returned (.iface t (.pointer p)))/\Below w.heap.size w w':=by
 have r0:=(AtL.new0 w 229 (zAF id n k)).range;have hB:=zAJ (Below.refl _ w) (.cells (zAF id n k).toArray 229);go_enter func196,ntmps196;go_upto_region 1 with fail
 generalize (w.alloc (.cells (zAF id n k).toArray 229))=W at *;go_wp2_with (first | (refine zAA (by rfl) 229 (.tmp 1) rfl w.heap.size 0 rfl (zAF id n k) _ r0 underlying229 rfl (by kernel_rfl) ?_) | (refine zAI rfl _ _ rfl _ rfl (zAF id n k) (by kernel_rfl) ?_))
 go_ret;exact ⟨⟨_,_,rfl⟩,(clB hB)⟩
theorem zDC (id n k:Int) (w:World):Calls prog 197 #[.agg (zAF id n k).toArray] w λe w'=>(∃ t p,e=.returned (.iface t (.pointer p)))/\Below w.heap.size w w':=by
 have r0:=(AtL.new0 w 229 (zAF id n k)).range;have hB:=zAJ (Below.refl _ w) (.cells (zAF id n k).toArray 229);go_enter func197,ntmps197;go_upto_region 1 with fail
 generalize (w.alloc (.cells (zAF id n k).toArray 229))=W at *;go_wp2_with (first | (refine zAA (by rfl) 229 (.tmp 1) rfl w.heap.size 0 rfl (zAF id n k) _ r0 underlying229 rfl (by kernel_rfl) ?_) | (refine zAI rfl _ _ rfl _ rfl (zAF id n k) (by kernel_rfl) ?_))
 go_ret;exact ⟨⟨_,_,rfl⟩,(clB hB)⟩
def zF8:List Value:=[.int .i64 0,.int .i64 0,.int .i64 0,.int .i64 0,.int .i64 0,.int .i64 0,.int .i64 0,.string ⟨#[]⟩,.bool false,.int .i64 0,.int .i64 0,.int .i64 0,.int .i64 0,.string ⟨#[]⟩,.bool false,.int .i64 0,.bool false,.bool false,.bool false,.int .i64 0,.int .i64 0]
abbrev oneA (w:World):World:=w.alloc (.cells #[.int .i64 0,.int .i64 0,.int .i64 0,.int .i64 0,.int .i64 0,.int .i64 0,.int .i64 0,.string ⟨#[]⟩,.bool false,.int .i64 0,.int .i64 0,.int .i64 0,.int .i64 0,.string ⟨#[]⟩,.bool false,.int .i64 0,.bool false,.bool false,.bool false,.int .i64 0,.int .i64 0] 198)
theorem zOP (w:World):Calls prog 105 #[.int .i64 2] w λe w'=>(∃ v,e=.returned (.tuple #[v,.int .i64 0]))/\Below w.heap.size w w':=by
 have F:=zBf 2 w;rw [show fld 2=true from rfl] at F;have p0:AtL (oneA w) w.heap.size zF8:=AtL.new0 w _ _;have hth:World.there (oneA w) w.heap.size 0 (zAF 2 0 0).toArray.size:=p0.there;have pO:AtL ((oneA w).setCells w.heap.size 0 (zAF 2 0 0)) w.heap.size (zAF 2 0 0):=p0.setAll rfl;have hB:Below w.heap.size w ((oneA w).setCells w.heap.size 0 (zAF 2 0 0)):=zAb (zAJ (Below.refl _ w) _) (Nat.le_refl _) _ 0;clear p0;go_enter func105,ntmps105;go_wp2_with fail
 refine F.mono ?_;rintro e w1 ⟨rfl,rfl⟩;go_upto_region 3 with fail
 go_upto_region 4 with (first | (refine zA9 rfl 198 _ _ _ _ rfl _ _ rfl rfl (zAF 2 0 0) (by kernel_rfl) ?_) | ((with_reducible refine wpList_store_mid ?_ 198 (.tmp 4) (.tmp 10) ?_ w.heap.size 0 (zAF 2 0 0).toArray ?_ ?_ ?_ ?_ ?_ ?_);rfl;rfl;rfl;rfl;exact hth;kernel_rfl;exact zAo _ _ _))
 generalize (oneA w).setCells w.heap.size 0 (zAF 2 0 0)=W0 at *;clear hth F;have o2:=pO.2.1 2 _ rfl;have f2:=pO.2.2 2 (by show 2<21;decide);go_upto_region 6 with fail
 have pO2:AtL (W0.setCell ⟨w.heap.size,2,none⟩ (.int .i64 1)) w.heap.size (zAF 2 1 0):=pO.set 2 (.int .i64 1);have hB2:Below w.heap.size w (W0.setCell ⟨w.heap.size,2,none⟩ (.int .i64 1)):=(clB hB)
 clear pO hB o2 f2;generalize W0.setCell ⟨w.heap.size,2,none⟩ (.int .i64 1)=W0 at *;have pO:=pO2;have hB:=hB2;clear pO2 hB2;have rO:=pO.range;clear pO;go_wp2_with (first | (refine zAA (by rfl) 198 (.tmp 4) rfl w.heap.size 0 rfl (zAF 2 1 0) _ rO underlying198 rfl (by kernel_rfl) ?_) | (refine zAI rfl 200 _ rfl _ rfl (zAF 2 1 0) (by kernel_rfl) ?_))
 go_ret2
 refine ⟨⟨_,rfl⟩,?_⟩;exact zAJ hB (.cells (zAF 2 1 0).toArray 200)
theorem zK2 (w:World):Calls prog 105 #[.int .i64 11] w λe w'=>(∃ v,e=.returned (.tuple #[v,.int .i64 0]))/\Below w.heap.size w w':=by
 have F:=zBf 11 w;rw [show fld 11=true from rfl] at F;have p0:AtL (oneA w) w.heap.size zF8:=AtL.new0 w _ _;have hth:World.there (oneA w) w.heap.size 0 (zAF 11 0 0).toArray.size:=p0.there;have pO:AtL ((oneA w).setCells w.heap.size 0 (zAF 11 0 0)) w.heap.size (zAF 11 0 0):=p0.setAll rfl;have hB:Below w.heap.size w ((oneA w).setCells w.heap.size 0 (zAF 11 0 0)):=zAb (zAJ (Below.refl _ w) _) (Nat.le_refl _) _ 0;clear p0;go_enter func105,ntmps105;go_wp2_with fail
 refine F.mono ?_;rintro e w1 ⟨rfl,rfl⟩;go_upto_region 3 with fail
 go_upto_region 4 with (first | (refine zA9 rfl 198 _ _ _ _ rfl _ _ rfl rfl (zAF 11 0 0) (by kernel_rfl) ?_) | ((with_reducible refine wpList_store_mid ?_ 198 (.tmp 4) (.tmp 10) ?_ w.heap.size 0 (zAF 11 0 0).toArray ?_ ?_ ?_ ?_ ?_ ?_);rfl;rfl;rfl;rfl;exact hth;kernel_rfl;exact zAo _ _ _))
 generalize (oneA w).setCells w.heap.size 0 (zAF 11 0 0)=W0 at *;clear hth F;have o4:=pO.2.1 4 _ rfl;have f4:=pO.2.2 4 (by show 4<21;decide);go_upto_region 8 with fail
 have pO2:AtL (W0.setCell ⟨w.heap.size,4,none⟩ (.int .i64 2)) w.heap.size (zAF 11 0 2):=pO.set 4 (.int .i64 2);have hB2:Below w.heap.size w (W0.setCell ⟨w.heap.size,4,none⟩ (.int .i64 2)):=(clB hB)
 clear pO hB o4 f4;generalize W0.setCell ⟨w.heap.size,4,none⟩ (.int .i64 2)=W0 at *;have pO:=pO2;have hB:=hB2;clear pO2 hB2;have rO:=pO.range;clear pO;go_wp2_with (first | (refine zAA (by rfl) 198 (.tmp 4) rfl w.heap.size 0 rfl (zAF 11 0 2) _ rO underlying198 rfl (by kernel_rfl) ?_) | (refine zAI rfl 200 _ rfl _ rfl (zAF 11 0 2) (by kernel_rfl) ?_))
 go_ret2
 refine ⟨⟨_,rfl⟩,?_⟩;exact zAJ hB (.cells (zAF 11 0 2).toArray 200)
theorem zMx (id:Int) (w:World) (hf:fld id=true) (h2:¬ id=2) (h11:¬ id=11):Calls prog 105 #[.int .i64 id] w λe w'=>(∃ v,e=.returned (.tuple #[v,.int .i64 0]))/\Below w.heap.size w w':=by
 have F:=zBf id w;rw [show fld id=true from hf] at F;have p0:AtL (oneA w) w.heap.size zF8:=AtL.new0 w _ _;have hth:World.there (oneA w) w.heap.size 0 (zAF id 0 0).toArray.size:=p0.there;have pO:AtL ((oneA w).setCells w.heap.size 0 (zAF id 0 0)) w.heap.size (zAF id 0 0):=p0.setAll rfl;have hB:Below w.heap.size w ((oneA w).setCells w.heap.size 0 (zAF id 0 0)):=zAb (zAJ (Below.refl _ w) _) (Nat.le_refl _) _ 0;clear p0;go_enter func105,ntmps105;go_wp2_with fail
 refine F.mono ?_;rintro e w1 ⟨rfl,rfl⟩;go_upto_region 3 with fail
 go_upto_region 4 with (first | (refine zA9 rfl 198 _ _ _ _ rfl _ _ rfl rfl (zAF id 0 0) (by kernel_rfl) ?_) | ((with_reducible refine wpList_store_mid ?_ 198 (.tmp 4) (.tmp 10) ?_ w.heap.size 0 (zAF id 0 0).toArray ?_ ?_ ?_ ?_ ?_ ?_);rfl;rfl;rfl;rfl;exact hth;kernel_rfl;exact zAo _ _ _))
 generalize (oneA w).setCells w.heap.size 0 (zAF id 0 0)=W0 at *;clear hth F;have rO:=pO.range;clear pO;go_wp2_with (first | (refine zAA (by rfl) 198 (.tmp 4) rfl w.heap.size 0 rfl (zAF id 0 0) _ rO underlying198 rfl (by kernel_rfl) ?_) | (refine zAI rfl 200 _ rfl _ rfl (zAF id 0 0) (by kernel_rfl) ?_))
 go_ret2
 refine ⟨⟨_,rfl⟩,?_⟩;exact zAJ hB (.cells (zAF id 0 0).toArray 200)
theorem zEB (id:Int) (w:World):Calls prog 105 #[.int .i64 id] w λe w'=>(∃ v,e=.returned (.tuple #[v,.int .i64 (if fld id=true then 0 else 1)]))/\Below w.heap.size w w':=by
 by_cases hf:fld id=true
 ·rw [if_pos hf];by_cases h2:id=2
  ·rw [h2];exact zOP w
  ·by_cases h11:id=11
   ·rw [h11];exact zK2 w
   ·exact zMx id w hf h2 h11
 ·rw [if_neg hf];exact zKe id w (by simpa using hf)
theorem vlz (w:World):AtL (w.alloc (.cells #[.int .i64 0,.int .i64 0,.int .i64 0,.string ⟨#[]⟩,.bool false,.int .i64 0] 31)) w.heap.size [.int .i64 0,.int .i64 0,.int .i64 0,.string ⟨#[]⟩,.bool false,.int .i64 0]:=AtL.new0 w _ _
def zGG (c:Int):Wt.Vl:=⟨4,0,0,⟨#[]⟩,false,if Wv.flt c then c else 2⟩
theorem zCn (c:Int) (w:World):CR 198 #[.int .i64 c] w (vlV (zGG c)):=by
 have C:=λw=>zCq c w
 unfold zGG;cases hq:Wv.flt c with
 | false =>
  rw [hq] at C;go_enter func198,ntmps198;go_wp2_with fail
  refine (C _).mono ?_;rintro e w1 ⟨rfl,rfl⟩;go_wp2;refine bodyPost_ret (v:=vlV ⟨4,0,0,⟨#[]⟩,false,2⟩) (by simp [results,results198,go_sem,vlV,vl6]) rfl ⟨rfl,?_⟩;exact clA
 | true =>
  rw [hq] at C;go_enter func198,ntmps198;go_wp2_with fail
  refine (C _).mono ?_;rintro e w1 ⟨rfl,rfl⟩;go_wp2;refine bodyPost_ret (v:=vlV ⟨4,0,0,⟨#[]⟩,false,c⟩) (by simp [results,results198,go_sem,vlV,vl6]) rfl ⟨rfl,?_⟩;exact clA
def zCb (b:Bool):Wt.Vl:=⟨3,0,0,⟨#[]⟩,b,0⟩
theorem zGe (b:Bool) (w:World):CR 160 #[.bool b] w (vlV (zCb b)):=by
 go_enter func160,ntmps160;go_wp2;refine bodyPost_ret (v:=vlV (zCb b)) (by simp [results,results160,go_sem,vlV,vl6,zCb]) rfl ⟨rfl,?_⟩;exact clA
def zPv (n d:Int):Wt.Vl:=⟨1,Wnum.cN n d,Wnum.cD n d,⟨#[]⟩,false,0⟩
theorem zKP (n d:Int) (w:World) (h1:-9223372036854775808<=n) (h2:n<=9223372036854775807) (h3:-9223372036854775808<=d) (h4:d<=9223372036854775807) :
  CR 155 #[.agg #[.int .i64 n,.int .i64 d]] w (vlV (zPv n d)):=by
 have C:=λw=>zDl n d w h1 h2 h3 h4
 unfold zPv Wnum.cN Wnum.cD;have pA:=(AtL.new0 w 29 [.int .i64 n,.int .i64 d]).alloc (.cells zV0 31);have pR:=vlz (w.alloc (.cells #[.int .i64 n,.int .i64 d] 29));simp only [World.size_alloc] at pR;have hB0:=zAJ (zAJ (Below.refl _ w) (.cells #[.int .i64 n,.int .i64 d] 29)) (.cells zV0 31);cases hq:Wnum.rightB n d with
 | false =>
  rw [hq] at C;go_enter func155,ntmps155;go_wp2_with fail
  refine (C _).mono ?_;rintro e w1 ⟨rfl,hb⟩;have pA1:=AtL.below hb pA;have pR1:=AtL.below hb pR;obtain ⟨a0,a1,f0,f1⟩:=pA1.two;obtain ⟨c0,c1,c2,c3,c4,c5⟩:=pR1.f6;have g0:=pR1.2.2 0 (by decide);have g1:=pR1.2.2 1 (by decide);have g2:=pR1.2.2 2 (by decide);have g3:=pR1.2.2 3 (by decide);have g4:=pR1.2.2 4 (by decide);have g5:=pR1.2.2 5 (by decide);have hB1:=zAB hB0 hb;go_wp2;refine bodyPost_ret (v:=vlV ⟨1,0,1,⟨#[]⟩,false,0⟩) (by simp [results,results155,go_sem,vlV,vl6, *]) rfl ⟨rfl,?_⟩;exact (clB hB1)
 | true =>
  rw [hq] at C;go_enter func155,ntmps155;go_wp2_with fail
  refine (C _).mono ?_;rintro e w1 ⟨rfl,hb⟩;have pA1:=AtL.below hb pA;have pR1:=AtL.below hb pR;obtain ⟨a0,a1,f0,f1⟩:=pA1.two;obtain ⟨c0,c1,c2,c3,c4,c5⟩:=pR1.f6;have g0:=pR1.2.2 0 (by decide);have g1:=pR1.2.2 1 (by decide);have g2:=pR1.2.2 2 (by decide);have g3:=pR1.2.2 3 (by decide);have g4:=pR1.2.2 4 (by decide);have g5:=pR1.2.2 5 (by decide);have hB1:=zAB hB0 hb;go_wp2;refine bodyPost_ret (v:=vlV ⟨1,n,d,⟨#[]⟩,false,0⟩) (by simp [results,results155,go_sem,vlV,vl6, *]) rfl ⟨rfl,?_⟩;exact (clB hB1)
def zPN (s:ByteArray):Wt.Vl:=if Wv.prts s.data.toList then (if 256<s.size then ⟨4,0,0,⟨#[]⟩,false,7⟩ else ⟨2,0,0,s,false,0⟩) else ⟨4,0,0,⟨#[]⟩,false,2⟩
theorem zHx (s:ByteArray) (w:World) (hs:s.size<=9223372036854775807):CR 177 #[.string s] w (vlV (zPN s)):=by
 have C:=λw=>zFd s w hs
 have F2:=λw=>zCn 2 w
 have F7:=λw=>zCn 7 w
 have e2:zGG 2=⟨4,0,0,⟨#[]⟩,false,2⟩:=rfl;have e7:zGG 7=⟨4,0,0,⟨#[]⟩,false,7⟩:=rfl;rw [e2] at F2;rw [e7] at F7;simp only [vlV,vl6] at F2 F7;have pR:=vlz w;have hB0:=zAJ (Below.refl _ w) (.cells zV0 31);unfold zPN;cases hq:Wv.prts s.data.toList with
 | false =>
  rw [hq] at C;rw [if_neg (by decide)];go_enter func177,ntmps177;go_wp2_with fail
  refine (C _).mono ?_;rintro e w1 ⟨rfl,rfl⟩;go_wp2_with fail
  refine (F2 _).mono ?_;rintro e w2 ⟨rfl,hb⟩;have pR1:=AtL.below hb pR;obtain ⟨c0,c1,c2,c3,c4,c5⟩:=pR1.f6;have g0:=pR1.2.2 0 (by decide);have g1:=pR1.2.2 1 (by decide);have g2:=pR1.2.2 2 (by decide);have g3:=pR1.2.2 3 (by decide);have g4:=pR1.2.2 4 (by decide);have g5:=pR1.2.2 5 (by decide);have hB1:=zAB hB0 hb;go_wp2;refine bodyPost_ret (v:=vlV ⟨4,0,0,⟨#[]⟩,false,2⟩) (by simp [results,results177,go_sem,vlV,vl6, *]) rfl ⟨rfl,?_⟩;exact (clB hB1)
 | true =>
  rw [hq] at C;rw [if_pos rfl];by_cases hl:256<s.size
  ·have hli:(256:Int)<(s.size:Int):=by omega
   rw [if_pos hl];go_enter func177,ntmps177;go_wp2_with fail
   refine (C _).mono ?_;rintro e w1 ⟨rfl,rfl⟩;go_wp2_with fail
   refine (F7 _).mono ?_;rintro e w2 ⟨rfl,hb⟩;have pR1:=AtL.below hb pR;obtain ⟨c0,c1,c2,c3,c4,c5⟩:=pR1.f6;have g0:=pR1.2.2 0 (by decide);have g1:=pR1.2.2 1 (by decide);have g2:=pR1.2.2 2 (by decide);have g3:=pR1.2.2 3 (by decide);have g4:=pR1.2.2 4 (by decide);have g5:=pR1.2.2 5 (by decide);have hB1:=zAB hB0 hb;go_wp2;refine bodyPost_ret (v:=vlV ⟨4,0,0,⟨#[]⟩,false,7⟩) (by simp [results,results177,go_sem,vlV,vl6, *]) rfl ⟨rfl,?_⟩;exact (clB hB1)
  ·have hli:¬ (256:Int)<(s.size:Int):=by omega
   rw [if_neg hl];go_enter func177,ntmps177;go_wp2_with fail
   refine (C _).mono ?_;rintro e w1 ⟨rfl,rfl⟩;go_wp2;refine bodyPost_ret (v:=vlV ⟨2,0,0,s,false,0⟩) (by simp [results,results177,go_sem,vlV,vl6, *]) rfl ⟨rfl,?_⟩;exact clA
theorem zDG {P:Program} {fn:Func} {t:Tmp} {T:TypeId} (h:fn.results=#[.cell t T]) (tmps:Array Value) (w:World) (b:Nat) (cs:List Value) (d:TypeDesc) (ht:tmps.getD t undef=.pointer (some ⟨b,0,none⟩)) (hc:w.rangeAt b 0 cs)
  (hu:P.underlying T=some d) (hd:d.isRow=true) (hi:(P.info? T).map (·.size)=some cs.length):(results fn tmps).run P w=.ok (.agg cs.toArray) w:=by
 have hl:=run_loadVar_mid (P:=P) w b 0 T cs d hc hu hd hi;have ht':tmps[t]?.getD undef=.pointer (some ⟨b,0,none⟩):=by rw [<-ht];simp
 simp only [results,h];simp [ht',hl,asAddr]
abbrev zCj (w:World):World:=(w.alloc (.cells #[.int .i64 0,.int .i64 0,.int .i64 0,.int .i64 0,.int .i64 0,.int .i64 0,.int .i64 0,.string ⟨#[]⟩,.bool false,.int .i64 0,.int .i64 0,.int .i64 0,.int .i64 0,.string ⟨#[]⟩,.bool false,.int .i64 0,.bool false,.bool false,.bool false,.int .i64 0,.int .i64 0] 198)).alloc (.cells #[.int .i64 0,.int .i64 0,.int .i64 0,.int .i64 0,.int .i64 0,.int .i64 0,.int .i64 0,.string ⟨#[]⟩,.bool false,.int .i64 0,.int .i64 0,.int .i64 0,.int .i64 0,.string ⟨#[]⟩,.bool false,.int .i64 0,.bool false,.bool false,.bool false,.int .i64 0,.int .i64 0] 198)
theorem zMl (w:World):CR 164 #[.int .i64 2] w (.agg (zAF 2 1 0).toArray):=by
 have pR0:AtL (zCj w) w.heap.size zF8:=(AtL.new0 w _ _).alloc _;have p0:AtL (zCj w) (w.heap.size+1) zF8:=AtL.new1 w _ _ _;have hne:w.heap.size+1 ≠ w.heap.size:=by omega
 have hth:World.there (zCj w) (w.heap.size+1) 0 (zAF 2 0 0).toArray.size:=p0.there;have pO:AtL ((zCj w).setCells (w.heap.size+1) 0 (zAF 2 0 0)) (w.heap.size+1) (zAF 2 0 0):=p0.setAll rfl;have pR:AtL ((zCj w).setCells (w.heap.size+1) 0 (zAF 2 0 0)) w.heap.size zF8:=pR0.farAll hne 0 (zAF 2 0 0);have hB:Below w.heap.size w ((zCj w).setCells (w.heap.size+1) 0 (zAF 2 0 0)):=zAb (zAJ (zAJ (Below.refl _ w) _) _) (Nat.le_succ _) _ 0;clear p0 pR0;go_enter func164,ntmps164;go_upto_region 1 with fail
 go_upto_region 2 with (first | (refine zA9 rfl 198 _ _ _ _ rfl _ _ rfl rfl (zAF 2 0 0) (by kernel_rfl) ?_) | ((with_reducible refine wpList_store_mid ?_ 198 (.tmp 3) (.tmp 6) ?_ (w.heap.size+1) 0 (zAF 2 0 0).toArray ?_ ?_ ?_ ?_ ?_ ?_);rfl;rfl;rfl;rfl;exact hth;kernel_rfl;exact zAo _ _ _))
 generalize (zCj w).setCells (w.heap.size+1) 0 (zAF 2 0 0)=W0 at *;clear hth;have o2:=pO.2.1 2 _ rfl;have f2:=pO.2.2 2 (by show 2<21;decide);go_upto_region 7 with fail
 have pO2:AtL (W0.setCell ⟨w.heap.size+1,2,none⟩ (.int .i64 1)) (w.heap.size+1) (zAF 2 1 0):=pO.set 2 (.int .i64 1);have pR2:AtL (W0.setCell ⟨w.heap.size+1,2,none⟩ (.int .i64 1)) w.heap.size zF8:=pR.far hne 2 (.int .i64 1);have hB2:Below w.heap.size w (W0.setCell ⟨w.heap.size+1,2,none⟩ (.int .i64 1)):=(clB hB)
 clear pO pR hB o2 f2;generalize W0.setCell ⟨w.heap.size+1,2,none⟩ (.int .i64 1)=W1 at *;have rO:=pO2.range;have ht2:World.there W1 w.heap.size 0 (zAF 2 1 0).toArray.size:=pR2.there;have pF:AtL (W1.setCells w.heap.size 0 (zAF 2 1 0)) w.heap.size (zAF 2 1 0):=pR2.setAll rfl;have hB3:Below w.heap.size w (W1.setCells w.heap.size 0 (zAF 2 1 0)):=zAb hB2 (Nat.le_refl _) _ 0;clear pO2 pR2;go_wp2_with (first | (refine zAA (by rfl) 198 (.tmp 3) rfl (w.heap.size+1) 0 rfl (zAF 2 1 0) _ rO underlying198 rfl (by kernel_rfl) ?_) | ((with_reducible refine wpList_store_mid ?_ 198 (.tmp 2) (.tmp 16) ?_ w.heap.size 0 (zAF 2 1 0).toArray ?_ ?_ ?_ ?_ ?_ ?_);rfl;rfl;rfl;rfl;exact ht2;kernel_rfl;exact zAo _ _ _))
 exact bodyPost_ret (v:=.agg (zAF 2 1 0).toArray) (zDG (by rfl) _ _ w.heap.size (zAF 2 1 0) _ (by rfl) pF.range underlying198 rfl (by kernel_rfl)) rfl ⟨rfl,hB3⟩
theorem zJh (w:World):CR 164 #[.int .i64 11] w (.agg (zAF 11 0 2).toArray):=by
 have pR0:AtL (zCj w) w.heap.size zF8:=(AtL.new0 w _ _).alloc _;have p0:AtL (zCj w) (w.heap.size+1) zF8:=AtL.new1 w _ _ _;have hne:w.heap.size+1 ≠ w.heap.size:=by omega
 have hth:World.there (zCj w) (w.heap.size+1) 0 (zAF 11 0 0).toArray.size:=p0.there;have pO:AtL ((zCj w).setCells (w.heap.size+1) 0 (zAF 11 0 0)) (w.heap.size+1) (zAF 11 0 0):=p0.setAll rfl;have pR:AtL ((zCj w).setCells (w.heap.size+1) 0 (zAF 11 0 0)) w.heap.size zF8:=pR0.farAll hne 0 (zAF 11 0 0);have hB:Below w.heap.size w ((zCj w).setCells (w.heap.size+1) 0 (zAF 11 0 0)):=zAb (zAJ (zAJ (Below.refl _ w) _) _) (Nat.le_succ _) _ 0;clear p0 pR0;go_enter func164,ntmps164;go_upto_region 1 with fail
 go_upto_region 2 with (first | (refine zA9 rfl 198 _ _ _ _ rfl _ _ rfl rfl (zAF 11 0 0) (by kernel_rfl) ?_) | ((with_reducible refine wpList_store_mid ?_ 198 (.tmp 3) (.tmp 6) ?_ (w.heap.size+1) 0 (zAF 11 0 0).toArray ?_ ?_ ?_ ?_ ?_ ?_);rfl;rfl;rfl;rfl;exact hth;kernel_rfl;exact zAo _ _ _))
 generalize (zCj w).setCells (w.heap.size+1) 0 (zAF 11 0 0)=W0 at *;clear hth;have VT:∀ w:World,CR 177 #[.string ⟨#[]⟩] w (.agg #[.int .i64 2,.int .i64 0,.int .i64 0,.string ⟨#[]⟩,.bool false,.int .i64 0]):=λw=>zHx ⟨#[]⟩ w (by decide)
 go_wp2_with fail
 refine (VT _).mono ?_;rintro e w1 ⟨rfl,hb⟩;have pO1:=AtL.below hb pO;have pR1:=AtL.below hb pR;have hB1:=zAB hB hb;clear pO pR hB hb;have o4:=pO1.2.1 4 _ rfl;have f4:=pO1.2.2 4 (by show 4<21;decide);have o5:=pO1.2.1 5 _ rfl;have f5:=pO1.2.2 5 (by show 5<21;decide);have o6:=pO1.2.1 6 _ rfl;have f6:=pO1.2.2 6 (by show 6<21;decide);have o7:=pO1.2.1 7 _ rfl;have f7:=pO1.2.2 7 (by show 7<21;decide);have o8:=pO1.2.1 8 _ rfl;have f8:=pO1.2.2 8 (by show 8<21;decide);have o9:=pO1.2.1 9 _ rfl;have f9:=pO1.2.2 9 (by show 9<21;decide);go_upto_region 7 with fail
 have pO2:AtL ((((((w1.setCell ⟨w.heap.size+1,4,none⟩ (.int .i64 2)).setCell ⟨w.heap.size+1,5,none⟩ (.int .i64 0)).setCell ⟨w.heap.size+1,6,none⟩ (.int .i64 0)).setCell ⟨w.heap.size+1,7,none⟩ (.string ⟨#[]⟩)).setCell ⟨w.heap.size+1,8,none⟩ (.bool false)).setCell ⟨w.heap.size+1,9,none⟩ (.int .i64 0)) (w.heap.size+1) (zAF 11 0 2):=((((((pO1.set 4 (.int .i64 2)).set 5 (.int .i64 0)).set 6 (.int .i64 0)).set 7 (.string ⟨#[]⟩)).set 8 (.bool false)).set 9 (.int .i64 0))
 have pR2:AtL ((((((w1.setCell ⟨w.heap.size+1,4,none⟩ (.int .i64 2)).setCell ⟨w.heap.size+1,5,none⟩ (.int .i64 0)).setCell ⟨w.heap.size+1,6,none⟩ (.int .i64 0)).setCell ⟨w.heap.size+1,7,none⟩ (.string ⟨#[]⟩)).setCell ⟨w.heap.size+1,8,none⟩ (.bool false)).setCell ⟨w.heap.size+1,9,none⟩ (.int .i64 0)) w.heap.size zF8:=((((((pR1.far hne 4 (.int .i64 2)).far hne 5 (.int .i64 0)).far hne 6 (.int .i64 0)).far hne 7 (.string ⟨#[]⟩)).far hne 8 (.bool false)).far hne 9 (.int .i64 0))
 have hB2:Below w.heap.size w ((((((w1.setCell ⟨w.heap.size+1,4,none⟩ (.int .i64 2)).setCell ⟨w.heap.size+1,5,none⟩ (.int .i64 0)).setCell ⟨w.heap.size+1,6,none⟩ (.int .i64 0)).setCell ⟨w.heap.size+1,7,none⟩ (.string ⟨#[]⟩)).setCell ⟨w.heap.size+1,8,none⟩ (.bool false)).setCell ⟨w.heap.size+1,9,none⟩ (.int .i64 0)):=(clB hB1)
 clear pO1 pR1 hB1 o4 f4 o5 f5 o6 f6 o7 f7 o8 f8 o9 f9;generalize ((((((w1.setCell ⟨w.heap.size+1,4,none⟩ (.int .i64 2)).setCell ⟨w.heap.size+1,5,none⟩ (.int .i64 0)).setCell ⟨w.heap.size+1,6,none⟩ (.int .i64 0)).setCell ⟨w.heap.size+1,7,none⟩ (.string ⟨#[]⟩)).setCell ⟨w.heap.size+1,8,none⟩ (.bool false)).setCell ⟨w.heap.size+1,9,none⟩ (.int .i64 0))=W1 at *;have rO:=pO2.range;have ht2:World.there W1 w.heap.size 0 (zAF 11 0 2).toArray.size:=pR2.there;have pF:AtL (W1.setCells w.heap.size 0 (zAF 11 0 2)) w.heap.size (zAF 11 0 2):=pR2.setAll rfl;have hB3:Below w.heap.size w (W1.setCells w.heap.size 0 (zAF 11 0 2)):=zAb hB2 (Nat.le_refl _) _ 0;clear pO2 pR2;go_wp2_with (first | (refine zAA (by rfl) 198 (.tmp 3) rfl (w.heap.size+1) 0 rfl (zAF 11 0 2) _ rO underlying198 rfl (by kernel_rfl) ?_) | ((with_reducible refine wpList_store_mid ?_ 198 (.tmp 2) (.tmp 16) ?_ w.heap.size 0 (zAF 11 0 2).toArray ?_ ?_ ?_ ?_ ?_ ?_);rfl;rfl;rfl;rfl;exact ht2;kernel_rfl;exact zAo _ _ _))
 exact bodyPost_ret (v:=.agg (zAF 11 0 2).toArray) (zDG (by rfl) _ _ w.heap.size (zAF 11 0 2) _ (by rfl) pF.range underlying198 rfl (by kernel_rfl)) rfl ⟨rfl,hB3⟩
theorem zLw (id:Int) (w:World) (h2:¬ id=2) (h11:¬ id=11):CR 164 #[.int .i64 id] w (.agg (zAF id 0 0).toArray):=by
 have pR0:AtL (zCj w) w.heap.size zF8:=(AtL.new0 w _ _).alloc _;have p0:AtL (zCj w) (w.heap.size+1) zF8:=AtL.new1 w _ _ _;have hne:w.heap.size+1 ≠ w.heap.size:=by omega
 have hth:World.there (zCj w) (w.heap.size+1) 0 (zAF id 0 0).toArray.size:=p0.there;have pO:AtL ((zCj w).setCells (w.heap.size+1) 0 (zAF id 0 0)) (w.heap.size+1) (zAF id 0 0):=p0.setAll rfl;have pR:AtL ((zCj w).setCells (w.heap.size+1) 0 (zAF id 0 0)) w.heap.size zF8:=pR0.farAll hne 0 (zAF id 0 0);have hB:Below w.heap.size w ((zCj w).setCells (w.heap.size+1) 0 (zAF id 0 0)):=zAb (zAJ (zAJ (Below.refl _ w) _) _) (Nat.le_succ _) _ 0;clear p0 pR0;go_enter func164,ntmps164;go_upto_region 1 with fail
 go_upto_region 2 with (first | (refine zA9 rfl 198 _ _ _ _ rfl _ _ rfl rfl (zAF id 0 0) (by kernel_rfl) ?_) | ((with_reducible refine wpList_store_mid ?_ 198 (.tmp 3) (.tmp 6) ?_ (w.heap.size+1) 0 (zAF id 0 0).toArray ?_ ?_ ?_ ?_ ?_ ?_);rfl;rfl;rfl;rfl;exact hth;kernel_rfl;exact zAo _ _ _))
 generalize (zCj w).setCells (w.heap.size+1) 0 (zAF id 0 0)=W0 at *;clear hth;go_upto_region 7 with fail
 have pO2:=pO;have pR2:=pR;have hB2:=hB;clear pO pR hB;have rO:=pO2.range;have ht2:World.there W0 w.heap.size 0 (zAF id 0 0).toArray.size:=pR2.there;have pF:AtL (W0.setCells w.heap.size 0 (zAF id 0 0)) w.heap.size (zAF id 0 0):=pR2.setAll rfl;have hB3:Below w.heap.size w (W0.setCells w.heap.size 0 (zAF id 0 0)):=zAb hB2 (Nat.le_refl _) _ 0;clear pO2 pR2;go_wp2_with (first | (refine zAA (by rfl) 198 (.tmp 3) rfl (w.heap.size+1) 0 rfl (zAF id 0 0) _ rO underlying198 rfl (by kernel_rfl) ?_) | ((with_reducible refine wpList_store_mid ?_ 198 (.tmp 2) (.tmp 16) ?_ w.heap.size 0 (zAF id 0 0).toArray ?_ ?_ ?_ ?_ ?_ ?_);rfl;rfl;rfl;rfl;exact ht2;kernel_rfl;exact zAo _ _ _))
 exact bodyPost_ret (v:=.agg (zAF id 0 0).toArray) (zDG (by rfl) _ _ w.heap.size (zAF id 0 0) _ (by rfl) pF.range underlying198 rfl (by kernel_rfl)) rfl ⟨rfl,hB3⟩
