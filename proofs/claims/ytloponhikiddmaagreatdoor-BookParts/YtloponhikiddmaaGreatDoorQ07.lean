/- Lemmas. -/
import Derived.Test.YtloponhikiddmaaGreatDoorQ06
set_option maxHeartbeats 4000000
set_option maxRecDepth 100000
open Go.RowKit.Below renaming refl->aZ
open Go.World renaming cell?_setCell_far->bZ,there->cZ,frozen?_setCell->dZ
open Nat renaming le_succ->eZ,le_refl->hZ
open Or renaming inl->fZ,inr->gZ
open Go renaming World->wW,Value->vW,Calls->cW
open Go.Value renaming int->O,slice->U,string->V,bool->Y,pointer->pX,agg->gX,tuple->uX
open Go.IntKind renaming i64->J
open Go.Obj renaming cells->Z
open Go.Ending renaming returned->rX
open Go.Operand renaming tmp->mX
namespace Go.Proofs.YtloponhikiddmaaGreatDoor
open Tryz
variable {ka kb:Nat} {x y:Wc.In} {tv tu:vW} {W w:wW} {ops:Array Oper} {rest:List Oper} {op:Oper} {a:Act} {Q:Exit->Act->wW->Prop}
open Go.RowKit
set_option linter.unusedVariables false
theorem QV (b:op.guard=none) (T:TypeId) (y:Operand) (d:op.op=.build T #[(0,y)]) (v:vW) (f:a.eval y=v) (L:List vW) (e:(Instr.build T #[(0,v)]).run prog w=.ok (gX L.toArray) w)
  (h:wpList prog ops Q rest (a.put op.dst (gX L.toArray)) w):wpList prog ops Q (op::rest) a w:=by
 refine wpList_plain b λK c=>?_
 unfold Oper.wp execOp;simp only [d,List.map_toArray,List.map_cons,List.map_nil,f,Sem.run_bind,Sem.run_pure,Result.andThen_ok,e];exact c _ _ h
theorem Qx (b:op.guard=none) (T:TypeId) (i j:Nat) (y z:Operand) (d:op.op=.build T #[(i,y),(j,z)]) (v u:vW) (f:a.eval y=v) (g:a.eval z=u) (L:List vW) (e:(Instr.build T #[(i,v),(j,u)]).run prog w=.ok (gX L.toArray) w)
  (h:wpList prog ops Q rest (a.put op.dst (gX L.toArray)) w):wpList prog ops Q (op::rest) a w:=by
 refine wpList_plain b λK c=>?_
 unfold Oper.wp execOp;simp only [d,List.map_toArray,List.map_cons,List.map_nil,f,g,Sem.run_bind,Sem.run_pure,Result.andThen_ok,e];exact c _ _ h
theorem zPz (id n k:Int) (w:wW):cW prog 223 #[gX (QI id n k).toArray] w λe w'=>(∃ t p,e=rX (.iface t (.pointer p)))/\bL w w':=by
 have r0:=(AtL.new0 w 306 (QI id n k)).range;have b:=QJ (aZ _ w) (Z (QI id n k).toArray 306);go_enter func223,ntmps223;go_upto_region 1 with fail
 generalize (w.alloc (Z (QI id n k).toArray 306))=W at *;go_wp2_with (first | (refine QB (by rfl) 306 (mX 1) rfl w.heap.size 0 rfl (QI id n k) _ r0 underlying306 rfl kR ?_) | (refine QV rfl _ _ rfl _ rfl (QI id n k) kR ?_))
 go_ret;exact ⟨⟨_,_,rfl⟩,(clB b)⟩
theorem zGM (id n k:Int) (w:wW):cW prog 224 #[gX (QI id n k).toArray] w λe w'=>(∃ t p,e=rX (.iface t (.pointer p)))/\bL w w':=by
 have r0:=(AtL.new0 w 306 (QI id n k)).range;have b:=QJ (aZ _ w) (Z (QI id n k).toArray 306);go_enter func224,ntmps224;go_upto_region 1 with fail
 generalize (w.alloc (Z (QI id n k).toArray 306))=W at *;go_wp2_with (first | (refine QB (by rfl) 306 (mX 1) rfl w.heap.size 0 rfl (QI id n k) _ r0 underlying306 rfl kR ?_) | (refine QV rfl _ _ rfl _ rfl (QI id n k) kR ?_))
 go_ret;exact ⟨⟨_,_,rfl⟩,(clB b)⟩
theorem zMF (id n k:Int) (w:wW):cW prog 225 #[gX (QI id n k).toArray] w λe w'=>(∃ t p,e=rX (.iface t (.pointer p)))/\bL w w':=by
 have r0:=(AtL.new0 w 306 (QI id n k)).range;have b:=QJ (aZ _ w) (Z (QI id n k).toArray 306);go_enter func225,ntmps225;go_upto_region 1 with fail
 generalize (w.alloc (Z (QI id n k).toArray 306))=W at *;go_wp2_with (first | (refine QB (by rfl) 306 (mX 1) rfl w.heap.size 0 rfl (QI id n k) _ r0 underlying306 rfl kR ?_) | (refine QV rfl _ _ rfl _ rfl (QI id n k) kR ?_))
 go_ret;exact ⟨⟨_,_,rfl⟩,(clB b)⟩
theorem zHt (id n k:Int) (w:wW):cW prog 226 #[gX (QI id n k).toArray] w λe w'=>(∃ t p,e=rX (.iface t (.pointer p)))/\bL w w':=by
 have r0:=(AtL.new0 w 306 (QI id n k)).range;have b:=QJ (aZ _ w) (Z (QI id n k).toArray 306);go_enter func226,ntmps226;go_upto_region 1 with fail
 generalize (w.alloc (Z (QI id n k).toArray 306))=W at *;go_wp2_with (first | (refine QB (by rfl) 306 (mX 1) rfl w.heap.size 0 rfl (QI id n k) _ r0 underlying306 rfl kR ?_) | (refine QV rfl _ _ rfl _ rfl (QI id n k) kR ?_))
 go_ret;exact ⟨⟨_,_,rfl⟩,(clB b)⟩
theorem zJz (id n k:Int) (w:wW):cW prog 227 #[gX (QI id n k).toArray] w λe w'=>(∃ t p,e=rX (.iface t (.pointer p)))/\bL w w':=by
 have r0:=(AtL.new0 w 306 (QI id n k)).range;have b:=QJ (aZ _ w) (Z (QI id n k).toArray 306);go_enter func227,ntmps227;go_upto_region 1 with fail
 generalize (w.alloc (Z (QI id n k).toArray 306))=W at *;go_wp2_with (first | (refine QB (by rfl) 306 (mX 1) rfl w.heap.size 0 rfl (QI id n k) _ r0 underlying306 rfl kR ?_) | (refine Qx rfl _ _ _ _ _ rfl _ _ rfl rfl (QI id n k++[O J 1]) kR ?_) | (refine QV rfl _ _ rfl _ rfl (QI id n k) kR ?_))
 go_ret;exact ⟨⟨_,_,rfl⟩,(clB b)⟩
theorem zE6 (id n k:Int) (w:wW):cW prog 228 #[gX (QI id n k).toArray] w λe w'=>(∃ t p,e=rX (.iface t (.pointer p)))/\bL w w':=by
 have r0:=(AtL.new0 w 306 (QI id n k)).range;have b:=QJ (aZ _ w) (Z (QI id n k).toArray 306);go_enter func228,ntmps228;go_upto_region 1 with fail
 generalize (w.alloc (Z (QI id n k).toArray 306))=W at *;go_wp2_with (first | (refine QB (by rfl) 306 (mX 1) rfl w.heap.size 0 rfl (QI id n k) _ r0 underlying306 rfl kR ?_) | (refine Qx rfl _ _ _ _ _ rfl _ _ rfl rfl (QI id n k++[O J (-1)]) kR ?_) | (refine QV rfl _ _ rfl _ rfl (QI id n k) kR ?_))
 go_ret;exact ⟨⟨_,_,rfl⟩,(clB b)⟩
theorem zG2 (id n k:Int) (w:wW):cW prog 229 #[gX (QI id n k).toArray] w λe w'=>(∃ t p,e=rX (.iface t (.pointer p)))/\bL w w':=by
 have r0:=(AtL.new0 w 306 (QI id n k)).range;have b:=QJ (aZ _ w) (Z (QI id n k).toArray 306);go_enter func229,ntmps229;go_upto_region 1 with fail
 generalize (w.alloc (Z (QI id n k).toArray 306))=W at *;go_wp2_with (first | (refine QB (by rfl) 306 (mX 1) rfl w.heap.size 0 rfl (QI id n k) _ r0 underlying306 rfl kR ?_) | (refine QV rfl _ _ rfl _ rfl (QI id n k) kR ?_))
 go_ret;exact ⟨⟨_,_,rfl⟩,(clB b)⟩
theorem zPV (id n k:Int) (w:wW):cW prog 230 #[gX (QI id n k).toArray] w λe w'=>(∃ t p,e=rX (.iface t (.pointer p)))/\bL w w':=by
 have r0:=(AtL.new0 w 306 (QI id n k)).range;have b:=QJ (aZ _ w) (Z (QI id n k).toArray 306);go_enter func230,ntmps230;go_upto_region 1 with fail
 generalize (w.alloc (Z (QI id n k).toArray 306))=W at *;go_wp2_with (first | (refine QB (by rfl) 306 (mX 1) rfl w.heap.size 0 rfl (QI id n k) _ r0 underlying306 rfl kR ?_) | (refine Qx rfl _ _ _ _ _ rfl _ _ rfl rfl (QI id n k++[Y false]) kR ?_) | (refine QV rfl _ _ rfl _ rfl (QI id n k) kR ?_))
 go_ret;exact ⟨⟨_,_,rfl⟩,(clB b)⟩
theorem zQ9 (id n k:Int) (w:wW):cW prog 231 #[gX (QI id n k).toArray] w λe w'=>(∃ t p,e=rX (.iface t (.pointer p)))/\bL w w':=by
 have r0:=(AtL.new0 w 306 (QI id n k)).range;have b:=QJ (aZ _ w) (Z (QI id n k).toArray 306);go_enter func231,ntmps231;go_upto_region 1 with fail
 generalize (w.alloc (Z (QI id n k).toArray 306))=W at *;go_wp2_with (first | (refine QB (by rfl) 306 (mX 1) rfl w.heap.size 0 rfl (QI id n k) _ r0 underlying306 rfl kR ?_) | (refine Qx rfl _ _ _ _ _ rfl _ _ rfl rfl (QI id n k++[Y true]) kR ?_) | (refine QV rfl _ _ rfl _ rfl (QI id n k) kR ?_))
 go_ret;exact ⟨⟨_,_,rfl⟩,(clB b)⟩
theorem zPM (id n k:Int) (w:wW):cW prog 232 #[gX (QI id n k).toArray] w λe w'=>(∃ t p,e=rX (.iface t (.pointer p)))/\bL w w':=by
 have r0:=(AtL.new0 w 306 (QI id n k)).range;have b:=QJ (aZ _ w) (Z (QI id n k).toArray 306);go_enter func232,ntmps232;go_upto_region 1 with fail
 generalize (w.alloc (Z (QI id n k).toArray 306))=W at *;go_wp2_with (first | (refine QB (by rfl) 306 (mX 1) rfl w.heap.size 0 rfl (QI id n k) _ r0 underlying306 rfl kR ?_) | (refine QV rfl _ _ rfl _ rfl (QI id n k) kR ?_))
 go_ret;exact ⟨⟨_,_,rfl⟩,(clB b)⟩
theorem zHP (id n k:Int) (w:wW):cW prog 233 #[gX (QI id n k).toArray] w λe w'=>(∃ t p,e=rX (.iface t (.pointer p)))/\bL w w':=by
 have r0:=(AtL.new0 w 306 (QI id n k)).range;have b:=QJ (aZ _ w) (Z (QI id n k).toArray 306);go_enter func233,ntmps233;go_upto_region 1 with fail
 generalize (w.alloc (Z (QI id n k).toArray 306))=W at *;go_wp2_with (first | (refine QB (by rfl) 306 (mX 1) rfl w.heap.size 0 rfl (QI id n k) _ r0 underlying306 rfl kR ?_) | (refine QV rfl _ _ rfl _ rfl (QI id n k) kR ?_))
 go_ret;exact ⟨⟨_,_,rfl⟩,(clB b)⟩
theorem zG1 (id n k:Int) (w:wW):cW prog 234 #[gX (QI id n k).toArray] w λe w'=>(∃ t p,e=rX (.iface t (.pointer p)))/\bL w w':=by
 have r0:=(AtL.new0 w 306 (QI id n k)).range;have b:=QJ (aZ _ w) (Z (QI id n k).toArray 306);go_enter func234,ntmps234;go_upto_region 1 with fail
 generalize (w.alloc (Z (QI id n k).toArray 306))=W at *;go_wp2_with (first | (refine QB (by rfl) 306 (mX 1) rfl w.heap.size 0 rfl (QI id n k) _ r0 underlying306 rfl kR ?_) | (refine QV rfl _ _ rfl _ rfl (QI id n k) kR ?_))
 go_ret;exact ⟨⟨_,_,rfl⟩,(clB b)⟩
theorem zG6 (id n k:Int) (w:wW):cW prog 235 #[gX (QI id n k).toArray] w λe w'=>(∃ t p,e=rX (.iface t (.pointer p)))/\bL w w':=by
 have r0:=(AtL.new0 w 306 (QI id n k)).range;have b:=QJ (aZ _ w) (Z (QI id n k).toArray 306);go_enter func235,ntmps235;go_upto_region 1 with fail
 generalize (w.alloc (Z (QI id n k).toArray 306))=W at *;go_wp2_with (first | (refine QB (by rfl) 306 (mX 1) rfl w.heap.size 0 rfl (QI id n k) _ r0 underlying306 rfl kR ?_) | (refine QV rfl _ _ rfl _ rfl (QI id n k) kR ?_))
 go_ret;exact ⟨⟨_,_,rfl⟩,(clB b)⟩
theorem zLP (id n k:Int) (w:wW):cW prog 236 #[gX (QI id n k).toArray] w λe w'=>(∃ t p,e=rX (.iface t (.pointer p)))/\bL w w':=by
 have r0:=(AtL.new0 w 306 (QI id n k)).range;have b:=QJ (aZ _ w) (Z (QI id n k).toArray 306);go_enter func236,ntmps236;go_upto_region 1 with fail
 generalize (w.alloc (Z (QI id n k).toArray 306))=W at *;go_wp2_with (first | (refine QB (by rfl) 306 (mX 1) rfl w.heap.size 0 rfl (QI id n k) _ r0 underlying306 rfl kR ?_) | (refine QV rfl _ _ rfl _ rfl (QI id n k) kR ?_))
 go_ret;exact ⟨⟨_,_,rfl⟩,(clB b)⟩
theorem zNo (id n k:Int) (w:wW):cW prog 237 #[gX (QI id n k).toArray] w λe w'=>(∃ t p,e=rX (.iface t (.pointer p)))/\bL w w':=by
 have r0:=(AtL.new0 w 306 (QI id n k)).range;have b:=QJ (aZ _ w) (Z (QI id n k).toArray 306);go_enter func237,ntmps237;go_upto_region 1 with fail
 generalize (w.alloc (Z (QI id n k).toArray 306))=W at *;go_wp2_with (first | (refine QB (by rfl) 306 (mX 1) rfl w.heap.size 0 rfl (QI id n k) _ r0 underlying306 rfl kR ?_) | (refine QV rfl _ _ rfl _ rfl (QI id n k) kR ?_))
 go_ret;exact ⟨⟨_,_,rfl⟩,(clB b)⟩
theorem zKs (id n k:Int) (w:wW):cW prog 238 #[gX (QI id n k).toArray] w λe w'=>(∃ t p,e=rX (.iface t (.pointer p)))/\bL w w':=by
 have r0:=(AtL.new0 w 306 (QI id n k)).range;have b:=QJ (aZ _ w) (Z (QI id n k).toArray 306);go_enter func238,ntmps238;go_upto_region 1 with fail
 generalize (w.alloc (Z (QI id n k).toArray 306))=W at *;go_wp2_with (first | (refine QB (by rfl) 306 (mX 1) rfl w.heap.size 0 rfl (QI id n k) _ r0 underlying306 rfl kR ?_) | (refine QV rfl _ _ rfl _ rfl (QI id n k) kR ?_))
 go_ret;exact ⟨⟨_,_,rfl⟩,(clB b)⟩
theorem zGp (id n k:Int) (w:wW):cW prog 239 #[gX (QI id n k).toArray] w λe w'=>(∃ t p,e=rX (.iface t (.pointer p)))/\bL w w':=by
 have r0:=(AtL.new0 w 306 (QI id n k)).range;have b:=QJ (aZ _ w) (Z (QI id n k).toArray 306);go_enter func239,ntmps239;go_upto_region 1 with fail
 generalize (w.alloc (Z (QI id n k).toArray 306))=W at *;go_wp2_with (first | (refine QB (by rfl) 306 (mX 1) rfl w.heap.size 0 rfl (QI id n k) _ r0 underlying306 rfl kR ?_) | (refine QV rfl _ _ rfl _ rfl (QI id n k) kR ?_))
 go_ret;exact ⟨⟨_,_,rfl⟩,(clB b)⟩
theorem zLT (id n k:Int) (w:wW):cW prog 240 #[gX (QI id n k).toArray] w λe w'=>(∃ t p,e=rX (.iface t (.pointer p)))/\bL w w':=by
 have r0:=(AtL.new0 w 306 (QI id n k)).range;have b:=QJ (aZ _ w) (Z (QI id n k).toArray 306);go_enter func240,ntmps240;go_upto_region 1 with fail
 generalize (w.alloc (Z (QI id n k).toArray 306))=W at *;go_wp2_with (first | (refine QB (by rfl) 306 (mX 1) rfl w.heap.size 0 rfl (QI id n k) _ r0 underlying306 rfl kR ?_) | (refine QV rfl _ _ rfl _ rfl (QI id n k) kR ?_))
 go_ret;exact ⟨⟨_,_,rfl⟩,(clB b)⟩
theorem zI9 (id n k:Int) (w:wW):cW prog 241 #[gX (QI id n k).toArray] w λe w'=>(∃ t p,e=rX (.iface t (.pointer p)))/\bL w w':=by
 have r0:=(AtL.new0 w 306 (QI id n k)).range;have b:=QJ (aZ _ w) (Z (QI id n k).toArray 306);go_enter func241,ntmps241;go_upto_region 1 with fail
 generalize (w.alloc (Z (QI id n k).toArray 306))=W at *;go_wp2_with (first | (refine QB (by rfl) 306 (mX 1) rfl w.heap.size 0 rfl (QI id n k) _ r0 underlying306 rfl kR ?_) | (refine QV rfl _ _ rfl _ rfl (QI id n k) kR ?_))
 go_ret;exact ⟨⟨_,_,rfl⟩,(clB b)⟩
theorem zCY (id n k:Int) (w:wW):cW prog 242 #[gX (QI id n k).toArray] w λe w'=>(∃ t p,e=rX (.iface t (.pointer p)))/\bL w w':=by
 have r0:=(AtL.new0 w 306 (QI id n k)).range;have b:=QJ (aZ _ w) (Z (QI id n k).toArray 306);go_enter func242,ntmps242;go_upto_region 1 with fail
 generalize (w.alloc (Z (QI id n k).toArray 306))=W at *;go_wp2_with (first | (refine QB (by rfl) 306 (mX 1) rfl w.heap.size 0 rfl (QI id n k) _ r0 underlying306 rfl kR ?_) | (refine QV rfl _ _ rfl _ rfl (QI id n k) kR ?_))
 go_ret;exact ⟨⟨_,_,rfl⟩,(clB b)⟩
def Vb:List vW:=[O J 0,O J 0,O J 0,O J 0,O J 0,O J 0,O J 0,V ⟨#[]⟩,Y false,O J 0,O J 0,O J 0,O J 0,V ⟨#[]⟩,Y false,O J 0,Y false,Y false,Y false,O J 0,O J 0]
abbrev oneA (w:wW):wW:=w.alloc (Z #[O J 0,O J 0,O J 0,O J 0,O J 0,O J 0,O J 0,V ⟨#[]⟩,Y false,O J 0,O J 0,O J 0,O J 0,V ⟨#[]⟩,Y false,O J 0,Y false,Y false,Y false,O J 0,O J 0] 279)
theorem vlz (w:wW):AtL (w.alloc (Z #[O J 0,O J 0,O J 0,V ⟨#[]⟩,Y false,O J 0] 65)) w.heap.size [O J 0,O J 0,O J 0,V ⟨#[]⟩,Y false,O J 0]:=AtL.new0 w _ _
def Jp (c:Int):Wt.Vl:=⟨4,0,0,⟨#[]⟩,false,if Wv.flt c then c else 2⟩
theorem zA1 (c:Int) (w:wW):CR 61 #[O J c] w (vlV (Jp c)):=by
 have C:=λw=>zCJ c w
 unfold Jp;cases b:Wv.flt c with
 | false =>
  rw [b] at C;go_enter func61,ntmps61;go_wp2_with fail
  refine (C _).mono ?_;rintro e d ⟨rfl,rfl⟩;go_wp2;refine bodyPost_ret (v:=vlV ⟨4,0,0,⟨#[]⟩,false,2⟩) (by simp [results,results61,go_sem,vlV,vl6]) rfl ⟨rfl,?_⟩;exact clA
 | true =>
  rw [b] at C;go_enter func61,ntmps61;go_wp2_with fail
  refine (C _).mono ?_;rintro e d ⟨rfl,rfl⟩;go_wp2;refine bodyPost_ret (v:=vlV ⟨4,0,0,⟨#[]⟩,false,c⟩) (by simp [results,results61,go_sem,vlV,vl6]) rfl ⟨rfl,?_⟩;exact clA
def Qc (b:Bool):Wt.Vl:=⟨3,0,0,⟨#[]⟩,b,0⟩
theorem zAY (b:Bool) (w:wW):CR 59 #[Y b] w (vlV (Qc b)):=by
 go_enter func59,ntmps59;go_wp2;refine bodyPost_ret (v:=vlV (Qc b)) (by simp [results,results59,go_sem,vlV,vl6,Qc]) rfl ⟨rfl,?_⟩;exact clA
def Vs (n d:Int):Wt.Vl:=⟨1,Wnum.cN n d,Wnum.cD n d,⟨#[]⟩,false,0⟩
theorem zCv (n d:Int) (w:wW) (H:-9223372036854775808<=n) (I:n<=9223372036854775807) (K:-9223372036854775808<=d) (L:d<=9223372036854775807) :
  CR 57 #[gX #[O J n,O J d]] w (vlV (Vs n d)):=by
 have C:=λw=>zD1 n d w H I K L
 unfold Vs Wnum.cN Wnum.cD;have pA:=(AtL.new0 w 63 [O J n,O J d]).alloc (Z zV0 65);have j:=vlz (w.alloc (Z #[O J n,O J d] 63));simp only [World.size_alloc] at j;have i:=QJ (QJ (aZ _ w) (Z #[O J n,O J d] 63)) (Z zV0 65);cases k:Wnum.rightB n d with
 | false =>
  rw [k] at C;go_enter func57,ntmps57;go_wp2_with fail
  refine (C _).mono ?_;rintro e M ⟨rfl,f⟩;have g:=AtL.below f pA;have b:=AtL.below f j;obtain ⟨l,m,u,z⟩:=g.two;obtain ⟨o,p,q,r,s,t⟩:=b.f6;have A:=b.2.2 0 dM;have B:=b.2.2 1 dM;have D:=b.2.2 2 dM;have E:=b.2.2 3 dM;have F:=b.2.2 4 dM;have G:=b.2.2 5 dM;have c:=QA i f;go_wp2;refine bodyPost_ret (v:=vlV ⟨1,0,1,⟨#[]⟩,false,0⟩) (by simp [results,results57,go_sem,vlV,vl6, *]) rfl ⟨rfl,?_⟩;exact (clB c)
 | true =>
  rw [k] at C;go_enter func57,ntmps57;go_wp2_with fail
  refine (C _).mono ?_;rintro e M ⟨rfl,f⟩;have g:=AtL.below f pA;have b:=AtL.below f j;obtain ⟨l,m,u,z⟩:=g.two;obtain ⟨o,p,q,r,s,t⟩:=b.f6;have A:=b.2.2 0 dM;have B:=b.2.2 1 dM;have D:=b.2.2 2 dM;have E:=b.2.2 3 dM;have F:=b.2.2 4 dM;have G:=b.2.2 5 dM;have c:=QA i f;go_wp2;refine bodyPost_ret (v:=vlV ⟨1,n,d,⟨#[]⟩,false,0⟩) (by simp [results,results57,go_sem,vlV,vl6, *]) rfl ⟨rfl,?_⟩;exact (clB c)
def VN (s:ByteArray):Wt.Vl:=if Wv.prts s.data.toList then (if 256<s.size then ⟨4,0,0,⟨#[]⟩,false,7⟩ else ⟨2,0,0,s,false,0⟩) else ⟨4,0,0,⟨#[]⟩,false,2⟩
theorem zAr (s:ByteArray) (w:wW) (I:s.size<=9223372036854775807):CR 55 #[V s] w (vlV (VN s)):=by
 have C:=λw=>zFu s w I
 have g:=λw=>zA1 2 w
 have i:=λw=>zA1 7 w
 have z:Jp 2=⟨4,0,0,⟨#[]⟩,false,2⟩:=rfl;have A:Jp 7=⟨4,0,0,⟨#[]⟩,false,7⟩:=rfl;rw [z] at g;rw [A] at i;simp only [vlV,vl6] at g i;have m:=vlz w;have d:=QJ (aZ _ w) (Z zV0 65);unfold VN;cases l:Wv.prts s.data.toList with
 | false =>
  rw [l] at C;rw [if_neg dM];go_enter func55,ntmps55;go_wp2_with fail
  refine (C _).mono ?_;rintro e n ⟨rfl,rfl⟩;go_wp2_with fail
  refine (g _).mono ?_;rintro e K ⟨rfl,f⟩;have b:=AtL.below f m;obtain ⟨o,p,q,r,t,u⟩:=b.f6;have B:=b.2.2 0 dM;have D:=b.2.2 1 dM;have E:=b.2.2 2 dM;have F:=b.2.2 3 dM;have G:=b.2.2 4 dM;have H:=b.2.2 5 dM;have c:=QA d f;go_wp2;refine bodyPost_ret (v:=vlV ⟨4,0,0,⟨#[]⟩,false,2⟩) (by simp [results,results55,go_sem,vlV,vl6, *]) rfl ⟨rfl,?_⟩;exact (clB c)
 | true =>
  rw [l] at C;rw [if_pos rfl];by_cases k:256<s.size
  ·have j:(256:Int)<(s.size:Int):=oM;rw [if_pos k];go_enter func55,ntmps55;go_wp2_with fail
   refine (C _).mono ?_;rintro e n ⟨rfl,rfl⟩;go_wp2_with fail
   refine (i _).mono ?_;rintro e K ⟨rfl,f⟩;have b:=AtL.below f m;obtain ⟨o,p,q,r,t,u⟩:=b.f6;have B:=b.2.2 0 dM;have D:=b.2.2 1 dM;have E:=b.2.2 2 dM;have F:=b.2.2 3 dM;have G:=b.2.2 4 dM;have H:=b.2.2 5 dM;have c:=QA d f;go_wp2;refine bodyPost_ret (v:=vlV ⟨4,0,0,⟨#[]⟩,false,7⟩) (by simp [results,results55,go_sem,vlV,vl6, *]) rfl ⟨rfl,?_⟩;exact (clB c)
  ·have j:¬ (256:Int)<(s.size:Int):=oM;rw [if_neg k];go_enter func55,ntmps55;go_wp2_with fail
   refine (C _).mono ?_;rintro e n ⟨rfl,rfl⟩;go_wp2;refine bodyPost_ret (v:=vlV ⟨2,0,0,s,false,0⟩) (by simp [results,results55,go_sem,vlV,vl6, *]) rfl ⟨rfl,?_⟩;exact clA
theorem zC0 {P:Program} {f:Func} {t:Tmp} {T:TypeId} (h:f.results=#[.cell t T]) (c:Array vW) (w:wW) (b:Nat) (cs:List vW) (d:TypeDesc) (k:c.getD t undef=pX (some ⟨b,0,none⟩)) (g:w.rangeAt b 0 cs)
  (l:P.underlying T=some d) (hd:d.isRow=true) (i:(P.info? T).map (·.size)=some cs.length):(results f c).run P w=.ok (gX cs.toArray) w:=by
 have j:=run_loadVar_mid (P:=P) w b 0 T cs d g l hd i;have e:c[t]?.getD undef=pX (some ⟨b,0,none⟩):=by rw [<-k];simp
 simp only [results,h];simp [e,j,asAddr]
abbrev VG (w:wW):wW:=(w.alloc (Z #[O J 0,O J 0,O J 0,O J 0,O J 0,O J 0,O J 0,V ⟨#[]⟩,Y false,O J 0,O J 0,O J 0,O J 0,V ⟨#[]⟩,Y false,O J 0,Y false,Y false,Y false,O J 0,O J 0] 279)).alloc (Z #[O J 0,O J 0,O J 0,O J 0,O J 0,O J 0,O J 0,V ⟨#[]⟩,Y false,O J 0,O J 0,O J 0,O J 0,V ⟨#[]⟩,Y false,O J 0,Y false,Y false,Y false,O J 0,O J 0] 279)
theorem zNH (w:wW):CR 194 #[O J 2] w (gX (QI 2 1 0).toArray):=by
 have f:AtL (VG w) w.heap.size Vb:=(AtL.new0 w _ _).alloc _;have n:AtL (VG w) (w.heap.size+1) Vb:=AtL.new1 w _ _ _;have c:w.heap.size+1 ≠ w.heap.size:=oM;have d:cZ (VG w) (w.heap.size+1) 0 (QI 2 0 0).toArray.size:=n.there;have g:AtL ((VG w).setCells (w.heap.size+1) 0 (QI 2 0 0)) (w.heap.size+1) (QI 2 0 0):=n.setAll rfl;have p:AtL ((VG w).setCells (w.heap.size+1) 0 (QI 2 0 0)) w.heap.size Vb:=f.farAll c 0 (QI 2 0 0);have o:bL w ((VG w).setCells (w.heap.size+1) 0 (QI 2 0 0)):=Qm (QJ (QJ (aZ _ w) _) _) (eZ _) _ 0;clear n f;go_enter func194,ntmps194;go_upto_region 1 with fail
 go_upto_region 2 with (first | (refine Qx rfl 279 _ _ _ _ rfl _ _ rfl rfl (QI 2 0 0) kR ?_) | ((with_reducible refine wpList_store_mid ?_ 279 (mX 3) (mX 6) ?_ (w.heap.size+1) 0 (QI 2 0 0).toArray ?_ ?_ ?_ ?_ ?_ ?_);rfl;rfl;rfl;rfl;exact d;kernel_rfl;exact zAO _ _ _))
 generalize (VG w).setCells (w.heap.size+1) 0 (QI 2 0 0)=i at *;clear d;have r:=g.2.1 2 _ rfl;have q:=g.2.2 2 (by show 2<21;decide);go_upto_region 7 with fail
 have e:=g.set 2 (O J 1);have b:AtL (i.setCell ⟨w.heap.size+1,2,none⟩ (O J 1)) w.heap.size Vb:=p.far c 2 (O J 1);have k:bL w (i.setCell ⟨w.heap.size+1,2,none⟩ (O J 1)):=(clB o)
 clear g p o r q;generalize i.setCell ⟨w.heap.size+1,2,none⟩ (O J 1)=j at *;have t:=e.range;have m:cZ j w.heap.size 0 (QI 2 1 0).toArray.size:=b.there;have s:AtL (j.setCells w.heap.size 0 (QI 2 1 0)) w.heap.size (QI 2 1 0):=b.setAll rfl;have l:bL w (j.setCells w.heap.size 0 (QI 2 1 0)):=Qm k (hZ _) _ 0;clear e b;go_wp2_with (first | (refine QB (by rfl) 279 (mX 3) rfl (w.heap.size+1) 0 rfl (QI 2 1 0) _ t underlying279 rfl kR ?_) | ((with_reducible refine wpList_store_mid ?_ 279 (mX 2) (mX 16) ?_ w.heap.size 0 (QI 2 1 0).toArray ?_ ?_ ?_ ?_ ?_ ?_);rfl;rfl;rfl;rfl;exact m;kernel_rfl;exact zAO _ _ _))
 exact bodyPost_ret (v:=gX (QI 2 1 0).toArray) (zC0 (by rfl) _ _ w.heap.size (QI 2 1 0) _ (by rfl) s.range underlying279 rfl kR) rfl ⟨rfl,l⟩
theorem zMH (w:wW):CR 194 #[O J 11] w (gX (QI 11 0 2).toArray):=by
 have j:AtL (VG w) w.heap.size Vb:=(AtL.new0 w _ _).alloc _;have q:AtL (VG w) (w.heap.size+1) Vb:=AtL.new1 w _ _ _;have c:w.heap.size+1 ≠ w.heap.size:=oM;have g:cZ (VG w) (w.heap.size+1) 0 (QI 11 0 0).toArray.size:=q.there;have t:AtL ((VG w).setCells (w.heap.size+1) 0 (QI 11 0 0)) (w.heap.size+1) (QI 11 0 0):=q.setAll rfl;have u:AtL ((VG w).setCells (w.heap.size+1) 0 (QI 11 0 0)) w.heap.size Vb:=j.farAll c 0 (QI 11 0 0);have s:bL w ((VG w).setCells (w.heap.size+1) 0 (QI 11 0 0)):=Qm (QJ (QJ (aZ _ w) _) _) (eZ _) _ 0;clear q j;go_enter func194,ntmps194;go_upto_region 1 with fail
 go_upto_region 2 with (first | (refine Qx rfl 279 _ _ _ _ rfl _ _ rfl rfl (QI 11 0 0) kR ?_) | ((with_reducible refine wpList_store_mid ?_ 279 (mX 3) (mX 6) ?_ (w.heap.size+1) 0 (QI 11 0 0).toArray ?_ ?_ ?_ ?_ ?_ ?_);rfl;rfl;rfl;rfl;exact g;kernel_rfl;exact zAO _ _ _))
 generalize (VG w).setCells (w.heap.size+1) 0 (QI 11 0 0)=N at *;clear g;have z:∀ w:wW,CR 55 #[V ⟨#[]⟩] w (gX #[O J 2,O J 0,O J 0,V ⟨#[]⟩,Y false,O J 0]):=λw=>zAr ⟨#[]⟩ w dM
 go_wp2_with fail
 refine (z _).mono ?_;rintro e r ⟨rfl,l⟩;have b:=AtL.below l t;have k:=AtL.below l u;have f:=QA s l;clear t u s l;have E:=b.2.1 4 _ rfl;have A:=b.2.2 4 (by show 4<21;decide);have F:=b.2.1 5 _ rfl;have f5:=b.2.2 5 (by show 5<21;decide);have G:=b.2.1 6 _ rfl;have f6:=b.2.2 6 (by show 6<21;decide);have H:=b.2.1 7 _ rfl;have B:=b.2.2 7 (by show 7<21;decide);have I:=b.2.1 8 _ rfl;have C:=b.2.2 8 (by show 8<21;decide);have K:=b.2.1 9 _ rfl;have D:=b.2.2 9 (by show 9<21;decide);go_upto_region 7 with fail
 have i:=((((((b.set 4 (O J 2)).set 5 (O J 0)).set 6 (O J 0)).set 7 (V ⟨#[]⟩)).set 8 (Y false)).set 9 (O J 0))
 have d:AtL ((((((r.setCell ⟨w.heap.size+1,4,none⟩ (O J 2)).setCell ⟨w.heap.size+1,5,none⟩ (O J 0)).setCell ⟨w.heap.size+1,6,none⟩ (O J 0)).setCell ⟨w.heap.size+1,7,none⟩ (V ⟨#[]⟩)).setCell ⟨w.heap.size+1,8,none⟩ (Y false)).setCell ⟨w.heap.size+1,9,none⟩ (O J 0)) w.heap.size Vb:=((((((k.far c 4 (O J 2)).far c 5 (O J 0)).far c 6 (O J 0)).far c 7 (V ⟨#[]⟩)).far c 8 (Y false)).far c 9 (O J 0))
 have n:bL w ((((((r.setCell ⟨w.heap.size+1,4,none⟩ (O J 2)).setCell ⟨w.heap.size+1,5,none⟩ (O J 0)).setCell ⟨w.heap.size+1,6,none⟩ (O J 0)).setCell ⟨w.heap.size+1,7,none⟩ (V ⟨#[]⟩)).setCell ⟨w.heap.size+1,8,none⟩ (Y false)).setCell ⟨w.heap.size+1,9,none⟩ (O J 0)):=(clB f)
 clear b k f E A F f5 G f6 H B I C K D;generalize ((((((r.setCell ⟨w.heap.size+1,4,none⟩ (O J 2)).setCell ⟨w.heap.size+1,5,none⟩ (O J 0)).setCell ⟨w.heap.size+1,6,none⟩ (O J 0)).setCell ⟨w.heap.size+1,7,none⟩ (V ⟨#[]⟩)).setCell ⟨w.heap.size+1,8,none⟩ (Y false)).setCell ⟨w.heap.size+1,9,none⟩ (O J 0))=m at *;have M:=i.range;have p:cZ m w.heap.size 0 (QI 11 0 2).toArray.size:=d.there;have L:AtL (m.setCells w.heap.size 0 (QI 11 0 2)) w.heap.size (QI 11 0 2):=d.setAll rfl;have o:bL w (m.setCells w.heap.size 0 (QI 11 0 2)):=Qm n (hZ _) _ 0;clear i d;go_wp2_with (first | (refine QB (by rfl) 279 (mX 3) rfl (w.heap.size+1) 0 rfl (QI 11 0 2) _ M underlying279 rfl kR ?_) | ((with_reducible refine wpList_store_mid ?_ 279 (mX 2) (mX 16) ?_ w.heap.size 0 (QI 11 0 2).toArray ?_ ?_ ?_ ?_ ?_ ?_);rfl;rfl;rfl;rfl;exact p;kernel_rfl;exact zAO _ _ _))
 exact bodyPost_ret (v:=gX (QI 11 0 2).toArray) (zC0 (by rfl) _ _ w.heap.size (QI 11 0 2) _ (by rfl) L.range underlying279 rfl kR) rfl ⟨rfl,o⟩
theorem zNE (id:Int) (w:wW) (s:¬ id=2) (p:¬ id=11):CR 194 #[O J id] w (gX (QI id 0 0).toArray):=by
 have e:AtL (VG w) w.heap.size Vb:=(AtL.new0 w _ _).alloc _;have l:AtL (VG w) (w.heap.size+1) Vb:=AtL.new1 w _ _ _;have j:w.heap.size+1 ≠ w.heap.size:=oM;have c:cZ (VG w) (w.heap.size+1) 0 (QI id 0 0).toArray.size:=l.there;have n:AtL ((VG w).setCells (w.heap.size+1) 0 (QI id 0 0)) (w.heap.size+1) (QI id 0 0):=l.setAll rfl;have o:AtL ((VG w).setCells (w.heap.size+1) 0 (QI id 0 0)) w.heap.size Vb:=e.farAll j 0 (QI id 0 0);have m:bL w ((VG w).setCells (w.heap.size+1) 0 (QI id 0 0)):=Qm (QJ (QJ (aZ _ w) _) _) (eZ _) _ 0;clear l e;go_enter func194,ntmps194;go_upto_region 1 with fail
 go_upto_region 2 with (first | (refine Qx rfl 279 _ _ _ _ rfl _ _ rfl rfl (QI id 0 0) kR ?_) | ((with_reducible refine wpList_store_mid ?_ 279 (mX 3) (mX 6) ?_ (w.heap.size+1) 0 (QI id 0 0).toArray ?_ ?_ ?_ ?_ ?_ ?_);rfl;rfl;rfl;rfl;exact c;kernel_rfl;exact zAO _ _ _))
 generalize (VG w).setCells (w.heap.size+1) 0 (QI id 0 0)=f at *;clear c;go_upto_region 7 with fail
 have d:=n;have b:=o;have g:=m;clear n o m;have r:=d.range;have k:cZ f w.heap.size 0 (QI id 0 0).toArray.size:=b.there;have q:AtL (f.setCells w.heap.size 0 (QI id 0 0)) w.heap.size (QI id 0 0):=b.setAll rfl;have i:bL w (f.setCells w.heap.size 0 (QI id 0 0)):=Qm g (hZ _) _ 0;clear d b;go_wp2_with (first | (refine QB (by rfl) 279 (mX 3) rfl (w.heap.size+1) 0 rfl (QI id 0 0) _ r underlying279 rfl kR ?_) | ((with_reducible refine wpList_store_mid ?_ 279 (mX 2) (mX 16) ?_ w.heap.size 0 (QI id 0 0).toArray ?_ ?_ ?_ ?_ ?_ ?_);rfl;rfl;rfl;rfl;exact k;kernel_rfl;exact zAO _ _ _))
 exact bodyPost_ret (v:=gX (QI id 0 0).toArray) (zC0 (by rfl) _ _ w.heap.size (QI id 0 0) _ (by rfl) q.range underlying279 rfl kR) rfl ⟨rfl,i⟩
theorem zO4 (K n k:Int) (f:Nat) (m:∀ (b:Nat) (j:wW),KM j b kT->(Instr.lookup 301 (.map (some b)) (O J K) true).run prog j=.ok (uX #[.func (.func f) #[] #[],Y true]) j)
  (z:∀ args w,(callFunc f args).run prog w=.ok (.enter f args) w) (q:∀ w:wW,cW prog f #[gX (QI K n k).toArray] w λe w'=>(∃ t p,e=rX (.iface t (.pointer p)))/\bL w w') (w:wW):cW prog 193 #[gX (QI K n k).toArray] w λe w'=>(∃ v,e=rX (uX #[v,Y true]))/\bL w w':=by
 have pA:=AtL.new0 w 279 (QI K n k);have g:=QJ (aZ _ w) (Z (QI K n k).toArray 279);go_enter func193,ntmps193;go_upto_region 1 with fail
 generalize (w.alloc (Z (QI K n k).toArray 279))=r at *;replace pA:=AtL.drew pA
 replace g:=g.drew
 refine wp_region_held_drew (S:=λW=>W.cell? ⟨w.heap.size,0,none⟩=some (O J K)) kR (pA.2.1 0 _ rfl) (λc=>?_);generalize r.drew=B at *;refine tkQ 1 ?_
 refine tkQ 2 ?_
 refine rdQ 0 (λK d=>?_);go_simp
 refine (zD8 _).mono ?_;rintro e j ⟨⟨b,rfl,o⟩,l⟩;replace pA:=AtL.below l pA
 replace g:=QA g l
 clear l;go_wp2_with fail
 refine hkQ d (pA.2.1 0 _ rfl) (λc=>?_);clear d K
 have s:=m _ _ o;refine rdQ 3 (λK d=>?_);go_simp
 refine hkQ d (pA.2.1 0 _ rfl) (λc=>?_);clear d K
 refine tkQ 4 ?_
 refine tkQ 5 ?_
 refine tkQ 6 ?_
 refine rdQ 7 (λK d=>?_);go_simp
 refine hkQ d (pA.2.1 0 _ rfl) (λc=>?_);clear d K
 refine rdQ 8 (λK d=>?_);go_simp
 refine hkQ d (pA.2.1 0 _ rfl) (λc=>?_);clear d K
 refine wpAnyH_done kR ?_ _;clear c s o;have u:=pA.range;clear pA;go_wp2_with (first | (refine QB (by rfl) 279 (mX 1) rfl w.heap.size 0 rfl (QI K n k) _ u underlying279 rfl kR ?_) | (refine QV rfl 306 _ rfl _ rfl (QI K n k) kR ?_) | (refine (q _).mono ?_;rintro e A ⟨⟨t,p,rfl⟩,i⟩;replace g:=QA g i;clear i))
 go_ret2
 exact ⟨⟨_,rfl⟩,(clB g)⟩
theorem Qe (K n k:Int) (f j:Nat) (c:∀ w:World,Calls prog f #[.agg (QI K n k).toArray] w λe w'=>(∃ t p,e=.returned (.iface t (.pointer p)))/\bL w w') (w:World)
  (i:(λw=>(Instr.findKey 3 (.int .i64 K) (Vq kT).toList).run prog w)=(λw=>.ok (some (j,.func (.func f) #[] #[])) w):=by kernel_rfl) (d:(λargs w=>(callFunc f args).run prog w)=(λargs w=>.ok (.enter f args) w):=by kernel_rfl) :
  Calls prog 193 #[.agg (QI K n k).toArray] w λe w'=>(∃ v,e=.returned (.tuple #[v,.bool true]))/\bL w w' :=
 zO4 K n k f (λb l g=>zCa (j:=j) zQe g (zRJ _ _ _) (congrFun i l)) (λx y=>congrFun (congrFun d x) y) c w
theorem zMI (id:Int) (n k:Int) (w:wW) (i:∀ p ∈ kT,p.1 ≠ id):cW prog 193 #[gX (QI id n k).toArray] w λe w'=>(∃ v,e=rX (uX #[v,Y false]))/\bL w w':=by
 have pA:=AtL.new0 w 279 (QI id n k);have f:=QJ (aZ _ w) (Z (QI id n k).toArray 279);go_enter func193,ntmps193;go_upto_region 1 with fail
 generalize (w.alloc (Z (QI id n k).toArray 279))=m at *;replace pA:=AtL.drew pA
 replace f:=f.drew
 refine wp_region_held_drew (S:=λW=>W.cell? ⟨w.heap.size,0,none⟩=some (O J id)) kR (pA.2.1 0 _ rfl) (λc=>?_);generalize m.drew=r at *;refine tkQ 1 ?_
 refine tkQ 2 ?_
 refine rdQ 0 (λK d=>?_);go_simp
 refine (zD8 _).mono ?_;rintro e j ⟨⟨b,rfl,l⟩,g⟩;replace pA:=AtL.below g pA
 replace f:=QA f g
 clear g;go_wp2_with fail
 refine hkQ d (pA.2.1 0 _ rfl) (λc=>?_);clear d K
 have o:(Instr.lookup 301 (.map (some b)) (O J id) true).run prog j=.ok (uX #[.nilFunc,Y false]) j:=zB8 zQe l (zRJ _ _ _) (zGv kT id i j) kR;refine rdQ 3 (λK d=>?_);go_simp
 refine hkQ d (pA.2.1 0 _ rfl) (λc=>?_);clear d K
 refine tkQ 4 ?_
 refine tkQ 5 ?_
 refine tkQ 6 ?_
 refine rdQ 7 (λK d=>?_);go_simp
 refine hkQ d (pA.2.1 0 _ rfl) (λc=>?_);clear d K
 refine rdQ 8 (λK d=>?_);go_simp
 refine hkQ d (pA.2.1 0 _ rfl) (λc=>?_);clear d K
 refine wpAnyH_done kR ?_ _;clear c o l;have q:=pA.range;clear pA;go_wp2;go_ret2
 exact ⟨⟨_,rfl⟩,f⟩
theorem zNM (id:Int) (i:List vW) (q:Bool) (w:wW) (d:∀ w,CR 194 #[O J id] w (gX i.toArray))
  (f:∀ w,cW prog 193 #[gX i.toArray] w λe w'=>(∃ v,e=rX (uX #[v,Y q]))/\bL w w') :
  cW prog 163 #[O J id] w λe w'=>(∃ v,e=rX (uX #[v,O J (if q=true then 0 else 1)]))/\bL w w':=by
 go_enter func163,ntmps163;go_wp2_with fail
 refine (d _).mono ?_;rintro e j ⟨rfl,b⟩;go_wp2_with fail
 refine (f _).mono ?_;rintro e k ⟨⟨v,rfl⟩,c⟩;have g:=QA b c;clear b c d f;cases q
 ·go_wp2;go_ret2
  exact ⟨⟨_,rfl⟩,g⟩
 ·go_wp2;go_ret2
  exact ⟨⟨_,rfl⟩,g⟩
theorem zQn {id:Int} (h:fld id=false):∀ p ∈ kT,p.1 ≠ id:=by
 intro p b e;unfold fld at h;rw [decide_eq_false_iff_not] at h;apply h
 simp only [kT,List.mem_cons,List.not_mem_nil,or_false] at b;rcases b with rfl | rfl | rfl | rfl | rfl | rfl | rfl | rfl | rfl | rfl | rfl | rfl | rfl | rfl | rfl | rfl | rfl | rfl | rfl | rfl <;> simp only at e <;> omega
theorem zHQ (id:Int):∃ n k,∀ w:wW,CR 194 #[O J id] w (gX (QI id n k).toArray):=by
 by_cases c:id=2
 ·rw [c];exact ⟨1,0,zNH⟩
 ·by_cases b:id=11
  ·rw [b];exact ⟨0,2,zMH⟩
  ·exact ⟨0,0,λw=>zNE id w c b⟩
theorem zHb (id n k:Int) (w:wW):cW prog 193 #[gX (QI id n k).toArray] w λe w'=>(∃ v,e=rX (uX #[v,Y (fld id)]))/\bL w w':=by
 cases h:fld id with
 | false=>exact zMI id n k w (zQn h)
 | true =>
  have b:id=1 \/ id=2 \/ id=3 \/ id=4 \/ id=5 \/ id=6 \/ id=7 \/ id=8 \/ id=9 \/ id=10 \/ id=11 \/ id=12 \/ id=13 \/ id=14 \/ id=15 \/ id=20 \/ id=21 \/ id=22 \/ id=23 \/ id=24:=by
   unfold fld at h;rw [decide_eq_true_eq] at h;omega
  rcases b with rfl | rfl | rfl | rfl | rfl | rfl | rfl | rfl | rfl | rfl | rfl | rfl | rfl | rfl | rfl | rfl | rfl | rfl | rfl | rfl
  ·exact Qe 1 n k 223 0 (zPz 1 n k) w
  ·exact Qe 2 n k 224 1 (zGM 2 n k) w
  ·exact Qe 3 n k 225 2 (zMF 3 n k) w
  ·exact Qe 4 n k 226 3 (zHt 4 n k) w
  ·exact Qe 5 n k 227 4 (zJz 5 n k) w
  ·exact Qe 6 n k 228 5 (zE6 6 n k) w
  ·exact Qe 7 n k 229 6 (zG2 7 n k) w
  ·exact Qe 8 n k 230 7 (zPV 8 n k) w
  ·exact Qe 9 n k 231 8 (zQ9 9 n k) w
  ·exact Qe 10 n k 232 9 (zPM 10 n k) w
  ·exact Qe 11 n k 233 10 (zHP 11 n k) w
  ·exact Qe 12 n k 234 11 (zG1 12 n k) w
  ·exact Qe 13 n k 235 12 (zG6 13 n k) w
  ·exact Qe 14 n k 236 13 (zLP 14 n k) w
  ·exact Qe 15 n k 237 14 (zNo 15 n k) w
  ·exact Qe 20 n k 238 15 (zKs 20 n k) w
  ·exact Qe 21 n k 239 16 (zGp 21 n k) w
  ·exact Qe 22 n k 240 17 (zLT 22 n k) w
  ·exact Qe 23 n k 241 18 (zI9 23 n k) w
  ·exact Qe 24 n k 242 19 (zCY 24 n k) w
theorem zJR (id:Int) (w:wW):CR 133 #[O J id] w (Y (fld id)):=by
 obtain ⟨n,k,c⟩:=zHQ id;have d:=zNM id (QI id n k) (fld id) w c (zHb id n k);generalize fld id=q at *;clear c;go_enter func133,ntmps133;go_wp2_with fail
 refine d.mono ?_;rintro e f ⟨⟨v,rfl⟩,b⟩;cases q
 ·go_wp2;go_ret;exact ⟨sM,b⟩
 ·go_wp2;go_ret;exact ⟨sM,b⟩
abbrev zQS (ka kb:Nat) (x:Wc.In) (tv:vW) (W:wW):Prop :=
 W.cell? ⟨ka,1,none⟩=some (O J x.a)/\W.frozen? ⟨kb,1,none⟩=false
theorem zEO (b:AtL W ka (QF x tv)) (c:AtL W kb (QF y tu)):zQS ka kb x tv W :=
 ⟨b.2.1 1 _ rfl,c.2.2 1 (by show 1<23;decide)⟩
theorem zKb (h:zQS ka kb x tv W) (b:kb ≠ ka) (j:Nat) (u:vW):zQS ka kb x tv (W.setCell ⟨kb,j,none⟩ u):=by
 obtain ⟨d,c⟩:=h;refine ⟨?_,?_⟩;any_goals rw [bZ _ _ _ _ (by simpa using b)];assumption
 all_goals rw [dZ];assumption
theorem zK7 (x:Wc.In) (u:Option Addr) (n c:Nat) (i:List Int) (w:wW) (I:x.op=6) (F:RdZ w (U u n c) i) (B:i.length<=1000000) :
  CR 101 #[inV x (U u n c)] w (Y (fld x.a && (smI x ⟨6,x.a,0,v0I,c0I,a0I,a0I⟩ && decide (i=[])))):=by
 have C:=(λw=>zJR x.a w:∀ w:wW,CR 133 #[O J x.a] w (Y (fld x.a)))
 have D:∀ w',bL w w'->CR 136 #[gX (QF x (U u n c)).toArray,gX (QF ⟨6,x.a,0,v0I,c0I,a0I,a0I⟩ QO).toArray] w' (Y (smI x ⟨6,x.a,0,v0I,c0I,a0I,a0I⟩ && decide (i=[]))):=λw' l=>Q5 x ⟨6,x.a,0,v0I,c0I,a0I,a0I⟩ _ _ i [] w' (F.below l) (RdZ.nil _) B (by first | exact B | simp)
 obtain ⟨tv,p⟩:=xV (U u n c)
 rw [p] at D ⊢;generalize (smI x ⟨6,x.a,0,v0I,c0I,a0I,a0I⟩ && decide (i=[]))=R at *;generalize fld x.a=q at *;have r:AtL (Q7 w x tv) w.heap.size (QF x tv):=(AtL.new0 w _ _).alloc _;have g:AtL (Q7 w x tv) (w.heap.size+1) (QF (QL 0) QO):=AtL.new1 w _ _ _;have o:cZ (Q7 w x tv) (w.heap.size+1) 0 (QF (QL 6) QO).toArray.size:=g.there;have m:w.heap.size+1 ≠ w.heap.size:=oM;have pA:=r.farAll m 0 (QF (QL 6) QO);have v:AtL ((Q7 w x tv).setCells (w.heap.size+1) 0 (QF (QL 6) QO)) (w.heap.size+1) (QF (QL 6) QO):=g.setAll rfl;have k:bL w ((Q7 w x tv).setCells (w.heap.size+1) 0 (QF (QL 6) QO)):=Qm (QJ (QJ (aZ _ w) _) _) (eZ _) _ 0;clear r g;have K:(QF x tv)[0]? = some (O J 6):=by rw [<-I];rfl
 have H:=pA.2.1 0 _ K;show cW _ _ #[gX (QF x tv).toArray] _ _
 have E:=zEO pA v;clear F B p;cases q
 all_goals
  go_enter func101,ntmps101;go_upto_region 1 with fail
  go_upto_region 2 with ((with_reducible refine wpList_store_mid ?_ 87 (mX 3) (mX 7) ?_ (w.heap.size+1) 0 (QF (QL 6) QO).toArray ?_ ?_ ?_ ?_ ?_ ?_);rfl;rfl;rfl;rfl;exact o;kernel_rfl;exact JO _ _ _ _)
  generalize (Q7 w x tv).setCells (w.heap.size+1) 0 (QF (QL 6) QO)=P at *;clear o;go_upto_region 14 with fail
  go_region_held3 (zQS w.heap.size (w.heap.size+1) x tv)
   (with_reducible first | exact E | assumption | exact zEO f b | exact (zKb (by assumption) oM _ _) | exact zEO (AtL.drew pA) (AtL.drew v))
   (first | (go_at_call 133;refine (C _).mono ?_;rintro e G ⟨rfl,l⟩;have f:=AtL.below l (AtL.drew pA);have b:=AtL.below l (AtL.drew v);have L:=b.2.1 1 _ rfl;have j:=QA k.drew l))
  all_goals
   clear pA v E C k L H;have s:=(f.far m 1 (O J x.a))
   have t:=(b.set 1 (O J x.a))
   have d:bL w (G.setCell ⟨w.heap.size+1,1,none⟩ (O J x.a)):=(clB j)
   clear f b j;generalize (G.setCell ⟨w.heap.size+1,1,none⟩ (O J x.a))=S at *;have M:=s.range;have N:=t.range;clear s t;go_wp2_with (first | ((with_reducible refine QB ?_ 87 (mX 1) ?_ w.heap.size 0 ?_ (QF x tv) _ ?_ underlying87 ?_ ?_ ?_);rfl;rfl;rfl;exact M;rfl;kernel_rfl) | ((with_reducible refine QB ?_ 87 (mX 3) ?_ (w.heap.size+1) 0 ?_ (QF ⟨6,x.a,0,v0I,c0I,a0I,a0I⟩ QO) _ ?_ underlying87 ?_ ?_ ?_);rfl;rfl;rfl;exact N;rfl;kernel_rfl) | (go_at_call 136;refine (D _ d).mono ?_;rintro e T ⟨rfl,A⟩;have z:=QA d A))
   go_wp2;go_ret;first
   | exact ⟨sM,d⟩
   | exact ⟨sM,z⟩
abbrev zQE (ka kb:Nat) (x:Wc.In) (tv:vW) (W:wW):Prop :=
 W.cell? ⟨ka,9,none⟩=some (O J x.ce.s)/\W.cell? ⟨ka,10,none⟩=some (O J x.ce.r)/\W.cell? ⟨ka,11,none⟩=some (O J x.ce.c)/\W.frozen? ⟨kb,9,none⟩=false/\W.frozen? ⟨kb,10,none⟩=false/\W.frozen? ⟨kb,11,none⟩=false
theorem zEF (b:AtL W ka (QF x tv)) (c:AtL W kb (QF y tu)):zQE ka kb x tv W :=
 ⟨b.2.1 9 _ rfl,b.2.1 10 _ rfl,b.2.1 11 _ rfl,c.2.2 9 (by show 9<23;decide),c.2.2 10 (by show 10<23;decide),c.2.2 11 (by show 11<23;decide)⟩
theorem zCl (h:zQE ka kb x tv W) (b:kb ≠ ka) (j:Nat) (u:vW):zQE ka kb x tv (W.setCell ⟨kb,j,none⟩ u):=by
 obtain ⟨i,e,f,g,c,d⟩:=h;refine ⟨?_,?_,?_,?_,?_,?_⟩;any_goals rw [bZ _ _ _ _ (by simpa using b)];assumption
 all_goals rw [dZ];assumption
theorem zKp (x:Wc.In) (z:Option Addr) (n c:Nat) (j:List Int) (w:wW) (N:x.op=2) (K:RdZ w (U z n c) j) (E:j.length<=1000000) :
  CR 101 #[inV x (U z n c)] w (Y (Wpl.rightC x.ce.s x.ce.r x.ce.c && (smI x ⟨2,0,0,v0I,x.ce,a0I,a0I⟩ && decide (j=[])))):=by
 have C:=(λw=>Qg x.ce.s x.ce.r x.ce.c w:∀ w:wW,CR 50 #[gX #[O J x.ce.s,O J x.ce.r,O J x.ce.c]] w (Y (Wpl.rightC x.ce.s x.ce.r x.ce.c)))
 have H:∀ w',bL w w'->CR 136 #[gX (QF x (U z n c)).toArray,gX (QF ⟨2,0,0,v0I,x.ce,a0I,a0I⟩ QO).toArray] w' (Y (smI x ⟨2,0,0,v0I,x.ce,a0I,a0I⟩ && decide (j=[]))):=λw' m=>Q5 x ⟨2,0,0,v0I,x.ce,a0I,a0I⟩ _ _ j [] w' (K.below m) (RdZ.nil _) E (by first | exact E | simp)
 obtain ⟨tv,p⟩:=xV (U z n c)
 rw [p] at H ⊢;generalize (smI x ⟨2,0,0,v0I,x.ce,a0I,a0I⟩ && decide (j=[]))=R at *;generalize Wpl.rightC x.ce.s x.ce.r x.ce.c=q at *;have t:AtL (Q7 w x tv) w.heap.size (QF x tv):=(AtL.new0 w _ _).alloc _;have i:AtL (Q7 w x tv) (w.heap.size+1) (QF (QL 0) QO):=AtL.new1 w _ _ _;have o:cZ (Q7 w x tv) (w.heap.size+1) 0 (QF (QL 2) QO).toArray.size:=i.there;have d:w.heap.size+1 ≠ w.heap.size:=oM;have pA:=t.farAll d 0 (QF (QL 2) QO);have A:AtL ((Q7 w x tv).setCells (w.heap.size+1) 0 (QF (QL 2) QO)) (w.heap.size+1) (QF (QL 2) QO):=i.setAll rfl;have l:bL w ((Q7 w x tv).setCells (w.heap.size+1) 0 (QF (QL 2) QO)):=Qm (QJ (QJ (aZ _ w) _) _) (eZ _) _ 0;clear t i;have P:(QF x tv)[0]? = some (O J 2):=by rw [<-N];rfl
 have M:=pA.2.1 0 _ P;show cW _ _ #[gX (QF x tv).toArray] _ _
 have I:=zEF pA A;clear K E p;cases q
 all_goals
  go_enter func101,ntmps101;go_upto_region 1 with fail
  go_upto_region 2 with ((with_reducible refine wpList_store_mid ?_ 87 (mX 3) (mX 7) ?_ (w.heap.size+1) 0 (QF (QL 2) QO).toArray ?_ ?_ ?_ ?_ ?_ ?_);rfl;rfl;rfl;rfl;exact o;kernel_rfl;exact JO _ _ _ _)
  generalize (Q7 w x tv).setCells (w.heap.size+1) 0 (QF (QL 2) QO)=W0 at *;clear o;go_upto_region 6 with fail
  go_region_held3 (zQE w.heap.size (w.heap.size+1) x tv)
   (with_reducible first | exact I | assumption | exact zEF g b | exact (zCl (zCl (zCl (by assumption) oM _ _) oM _ _) oM _ _) | exact zEF (AtL.drew pA) (AtL.drew A))
   (first | (go_at_call 50;refine (C _).mono ?_;rintro e L ⟨rfl,m⟩;have g:=AtL.below m (AtL.drew pA);have b:=AtL.below m (AtL.drew A);have S:=b.2.1 9 _ rfl;have F:=b.2.1 10 _ rfl;have G:=b.2.1 11 _ rfl;have k:=QA l.drew m))
  all_goals
   clear pA A I C l S F G M;have u:=(((g.far d 9 (O J x.ce.s)).far d 10 (O J x.ce.r)).far d 11 (O J x.ce.c))
   have v:=(((b.set 9 (O J x.ce.s)).set 10 (O J x.ce.r)).set 11 (O J x.ce.c))
   have f:bL w (((L.setCell ⟨w.heap.size+1,9,none⟩ (O J x.ce.s)).setCell ⟨w.heap.size+1,10,none⟩ (O J x.ce.r)).setCell ⟨w.heap.size+1,11,none⟩ (O J x.ce.c)):=(clB k)
   clear g b k;generalize (((L.setCell ⟨w.heap.size+1,9,none⟩ (O J x.ce.s)).setCell ⟨w.heap.size+1,10,none⟩ (O J x.ce.r)).setCell ⟨w.heap.size+1,11,none⟩ (O J x.ce.c))=W2 at *;have T:=u.range;have X:=v.range;clear u v;go_wp2_with (first | ((with_reducible refine QB ?_ 87 (mX 1) ?_ w.heap.size 0 ?_ (QF x tv) _ ?_ underlying87 ?_ ?_ ?_);rfl;rfl;rfl;exact T;rfl;kernel_rfl) | ((with_reducible refine QB ?_ 87 (mX 3) ?_ (w.heap.size+1) 0 ?_ (QF ⟨2,0,0,v0I,x.ce,a0I,a0I⟩ QO) _ ?_ underlying87 ?_ ?_ ?_);rfl;rfl;rfl;exact X;rfl;kernel_rfl) | (go_at_call 136;refine (H _ f).mono ?_;rintro e w3 ⟨rfl,D⟩;have B:=QA f D))
   go_wp2;go_ret;first
   | exact ⟨sM,f⟩
   | exact ⟨sM,B⟩
abbrev zQL (ka kb:Nat) (x:Wc.In) (tv:vW) (W:wW):Prop :=
 W.cell? ⟨ka,12,none⟩=some (O J x.ar.s)/\W.cell? ⟨ka,13,none⟩=some (O J x.ar.t)/\W.cell? ⟨ka,14,none⟩=some (O J x.ar.l)/\W.cell? ⟨ka,15,none⟩=some (O J x.ar.b)/\W.cell? ⟨ka,16,none⟩=some (O J x.ar.r)/\W.frozen? ⟨kb,12,none⟩=false/\W.frozen? ⟨kb,13,none⟩=false/\W.frozen? ⟨kb,14,none⟩=false/\W.frozen? ⟨kb,15,none⟩=false/\W.frozen? ⟨kb,16,none⟩=false
theorem zEh (b:AtL W ka (QF x tv)) (c:AtL W kb (QF y tu)):zQL ka kb x tv W :=
 ⟨b.2.1 12 _ rfl,b.2.1 13 _ rfl,b.2.1 14 _ rfl,b.2.1 15 _ rfl,b.2.1 16 _ rfl,c.2.2 12 (by show 12<23;decide),c.2.2 13 (by show 13<23;decide),c.2.2 14 (by show 14<23;decide),c.2.2 15 (by show 15<23;decide),c.2.2 16 (by show 16<23;decide)⟩
theorem zAf (h:zQL ka kb x tv W) (b:kb ≠ ka) (j:Nat) (u:vW):zQL ka kb x tv (W.setCell ⟨kb,j,none⟩ u):=by
 obtain ⟨i,k,l,m,n,c,d,e,f,g⟩:=h;refine ⟨?_,?_,?_,?_,?_,?_,?_,?_,?_,?_⟩;any_goals rw [bZ _ _ _ _ (by simpa using b)];assumption
 all_goals rw [dZ];assumption
theorem zLq (x:Wc.In) (D:Option Addr) (n c:Nat) (k:List Int) (w:wW) (hk:x.op=8) (T:RdZ w (U D n c) k) (H:k.length<=1000000) :
  CR 101 #[inV x (U D n c)] w (Y (Wpl.rightA x.ar.s x.ar.t x.ar.l x.ar.b x.ar.r && (smI x ⟨8,0,0,v0I,c0I,x.ar,a0I⟩ && decide (k=[])))):=by
 have C:=(λw=>zAH x.ar.s x.ar.t x.ar.l x.ar.b x.ar.r w:∀ w:wW,CR 134 #[gX #[O J x.ar.s,O J x.ar.t,O J x.ar.l,O J x.ar.b,O J x.ar.r]] w (Y (Wpl.rightA x.ar.s x.ar.t x.ar.l x.ar.b x.ar.r)))
 have P:∀ w',bL w w'->CR 136 #[gX (QF x (U D n c)).toArray,gX (QF ⟨8,0,0,v0I,c0I,x.ar,a0I⟩ QO).toArray] w' (Y (smI x ⟨8,0,0,v0I,c0I,x.ar,a0I⟩ && decide (k=[]))):=λw' p=>Q5 x ⟨8,0,0,v0I,c0I,x.ar,a0I⟩ _ _ k [] w' (T.below p) (RdZ.nil _) H (by first | exact H | simp)
 obtain ⟨tv,v⟩:=xV (U D n c)
 rw [v] at P ⊢;generalize (smI x ⟨8,0,0,v0I,c0I,x.ar,a0I⟩ && decide (k=[]))=R at *;generalize Wpl.rightA x.ar.s x.ar.t x.ar.l x.ar.b x.ar.r=q at *;have z:AtL (Q7 w x tv) w.heap.size (QF x tv):=(AtL.new0 w _ _).alloc _;have j:AtL (Q7 w x tv) (w.heap.size+1) (QF (QL 0) QO):=AtL.new1 w _ _ _;have u:cZ (Q7 w x tv) (w.heap.size+1) 0 (QF (QL 8) QO).toArray.size:=j.there;have f:w.heap.size+1 ≠ w.heap.size:=oM;have pA:=z.farAll f 0 (QF (QL 8) QO);have E:AtL ((Q7 w x tv).setCells (w.heap.size+1) 0 (QF (QL 8) QO)) (w.heap.size+1) (QF (QL 8) QO):=j.setAll rfl;have o:bL w ((Q7 w x tv).setCells (w.heap.size+1) 0 (QF (QL 8) QO)):=Qm (QJ (QJ (aZ _ w) _) _) (eZ _) _ 0;clear z j;have n0:(QF x tv)[0]? = some (O J 8):=by rw [<-hk];rfl
 have a0:=pA.2.1 0 _ n0;show cW _ _ #[gX (QF x tv).toArray] _ _
 have S:=zEh pA E;clear T H v;cases q
 all_goals
  go_enter func101,ntmps101;go_upto_region 1 with fail
  go_upto_region 2 with ((with_reducible refine wpList_store_mid ?_ 87 (mX 3) (mX 7) ?_ (w.heap.size+1) 0 (QF (QL 8) QO).toArray ?_ ?_ ?_ ?_ ?_ ?_);rfl;rfl;rfl;rfl;exact u;kernel_rfl;exact JO _ _ _ _)
  generalize (Q7 w x tv).setCells (w.heap.size+1) 0 (QF (QL 8) QO)=W0 at *;clear u;go_upto_region 20 with fail
  go_region_held3 (zQL w.heap.size (w.heap.size+1) x tv)
   (with_reducible first | exact S | assumption | exact zEh i d | exact (zAf (zAf (zAf (zAf (zAf (by assumption) oM _ _) oM _ _) oM _ _) oM _ _) oM _ _) | exact zEh (AtL.drew pA) (AtL.drew E))
   (first | (go_at_call 134;refine (C _).mono ?_;rintro e X ⟨rfl,p⟩;have i:=AtL.below p (AtL.drew pA);have d:=AtL.below p (AtL.drew E);have I:=d.2.1 12 _ rfl;have K:=d.2.1 13 _ rfl;have L:=d.2.1 14 _ rfl;have M:=d.2.1 15 _ rfl;have N:=d.2.1 16 _ rfl;have m:=QA o.drew p))
  all_goals
   clear pA E S C o I K L M N a0;have A:=(((((i.far f 12 (O J x.ar.s)).far f 13 (O J x.ar.t)).far f 14 (O J x.ar.l)).far f 15 (O J x.ar.b)).far f 16 (O J x.ar.r))
   have B:=(((((d.set 12 (O J x.ar.s)).set 13 (O J x.ar.t)).set 14 (O J x.ar.l)).set 15 (O J x.ar.b)).set 16 (O J x.ar.r))
   have g:bL w (((((X.setCell ⟨w.heap.size+1,12,none⟩ (O J x.ar.s)).setCell ⟨w.heap.size+1,13,none⟩ (O J x.ar.t)).setCell ⟨w.heap.size+1,14,none⟩ (O J x.ar.l)).setCell ⟨w.heap.size+1,15,none⟩ (O J x.ar.b)).setCell ⟨w.heap.size+1,16,none⟩ (O J x.ar.r)):=(clB m)
   clear i d m;generalize (((((X.setCell ⟨w.heap.size+1,12,none⟩ (O J x.ar.s)).setCell ⟨w.heap.size+1,13,none⟩ (O J x.ar.t)).setCell ⟨w.heap.size+1,14,none⟩ (O J x.ar.l)).setCell ⟨w.heap.size+1,15,none⟩ (O J x.ar.b)).setCell ⟨w.heap.size+1,16,none⟩ (O J x.ar.r))=W2 at *;have rA:=A.range;have rO:=B.range;clear A B;go_wp2_with (first | ((with_reducible refine QB ?_ 87 (mX 1) ?_ w.heap.size 0 ?_ (QF x tv) _ ?_ underlying87 ?_ ?_ ?_);rfl;rfl;rfl;exact rA;rfl;kernel_rfl) | ((with_reducible refine QB ?_ 87 (mX 3) ?_ (w.heap.size+1) 0 ?_ (QF ⟨8,0,0,v0I,c0I,x.ar,a0I⟩ QO) _ ?_ underlying87 ?_ ?_ ?_);rfl;rfl;rfl;exact rO;rfl;kernel_rfl) | (go_at_call 136;refine (P _ g).mono ?_;rintro e w3 ⟨rfl,G⟩;have F:=QA g G))
   go_wp2;go_ret;first
   | exact ⟨sM,g⟩
   | exact ⟨sM,F⟩
abbrev zQF (ka kb:Nat) (x:Wc.In) (tv:vW) (W:wW):Prop :=
 W.cell? ⟨ka,1,none⟩=some (O J x.a)/\W.cell? ⟨ka,2,none⟩=some (O J x.b)/\W.frozen? ⟨kb,1,none⟩=false/\W.frozen? ⟨kb,2,none⟩=false
theorem zEJ (b:AtL W ka (QF x tv)) (c:AtL W kb (QF y tu)):zQF ka kb x tv W :=
 ⟨b.2.1 1 _ rfl,b.2.1 2 _ rfl,c.2.2 1 (by show 1<23;decide),c.2.2 2 (by show 2<23;decide)⟩
theorem zCj (h:zQF ka kb x tv W) (b:kb ≠ ka) (j:Nat) (u:vW):zQF ka kb x tv (W.setCell ⟨kb,j,none⟩ u):=by
 obtain ⟨e,f,c,d⟩:=h;refine ⟨?_,?_,?_,?_⟩;any_goals rw [bZ _ _ _ _ (by simpa using b)];assumption
 all_goals rw [dZ];assumption
theorem zKT (x:Wc.In) (v:Option Addr) (n c:Nat) (m:List Int) (w:wW) (L:x.op=5) (H:RdZ w (U v n c) m) (D:m.length<=1000000) (F:NmAt w) :
  CR 101 #[inV x (U v n c)] w (Y (apl x.a x.b && (smI x ⟨5,x.a,x.b,v0I,c0I,a0I,a0I⟩ && decide (m=[])))):=by
 have C:=(λw' i=>zEz x.a x.b w' (F.below i):∀ w':wW,bL w w'->CR 132 #[O J x.a,O J x.b] w' (Y (apl x.a x.b)))
 have E:∀ w',bL w w'->CR 136 #[gX (QF x (U v n c)).toArray,gX (QF ⟨5,x.a,x.b,v0I,c0I,a0I,a0I⟩ QO).toArray] w' (Y (smI x ⟨5,x.a,x.b,v0I,c0I,a0I,a0I⟩ && decide (m=[]))):=λw' i=>Q5 x ⟨5,x.a,x.b,v0I,c0I,a0I,a0I⟩ _ _ m [] w' (H.below i) (RdZ.nil _) D (by first | exact D | simp)
 obtain ⟨tv,r⟩:=xV (U v n c)
 rw [r] at E ⊢;generalize (smI x ⟨5,x.a,x.b,v0I,c0I,a0I,a0I⟩ && decide (m=[]))=R at *;generalize apl x.a x.b=q at *;have s:AtL (Q7 w x tv) w.heap.size (QF x tv):=(AtL.new0 w _ _).alloc _;have l:AtL (Q7 w x tv) (w.heap.size+1) (QF (QL 0) QO):=AtL.new1 w _ _ _;have p:cZ (Q7 w x tv) (w.heap.size+1) 0 (QF (QL 5) QO).toArray.size:=l.there;have j:w.heap.size+1 ≠ w.heap.size:=oM;have pA:=s.farAll j 0 (QF (QL 5) QO);have z:AtL ((Q7 w x tv).setCells (w.heap.size+1) 0 (QF (QL 5) QO)) (w.heap.size+1) (QF (QL 5) QO):=l.setAll rfl;have g:bL w ((Q7 w x tv).setCells (w.heap.size+1) 0 (QF (QL 5) QO)):=Qm (QJ (QJ (aZ _ w) _) _) (eZ _) _ 0;clear s l;have M:(QF x tv)[0]? = some (O J 5):=by rw [<-L];rfl
 have K:=pA.2.1 0 _ M;show cW _ _ #[gX (QF x tv).toArray] _ _
 have G:=zEJ pA z;clear H D r F;cases q
 all_goals
  go_enter func101,ntmps101;go_upto_region 1 with fail
  go_upto_region 2 with ((with_reducible refine wpList_store_mid ?_ 87 (mX 3) (mX 7) ?_ (w.heap.size+1) 0 (QF (QL 5) QO).toArray ?_ ?_ ?_ ?_ ?_ ?_);rfl;rfl;rfl;rfl;exact p;kernel_rfl;exact JO _ _ _ _)
  generalize (Q7 w x tv).setCells (w.heap.size+1) 0 (QF (QL 5) QO)=X at *;clear p;go_upto_region 12 with fail
  go_region_held3 (zQF w.heap.size (w.heap.size+1) x tv)
   (with_reducible first | exact G | assumption | exact zEJ k d | exact (zCj (by assumption) oM _ _) | exact (zCj (zCj (by assumption) oM _ _) oM _ _) | exact zEJ (AtL.drew pA) (AtL.drew z))
   (first | (go_at_call 132;refine (C _ g.drew).mono ?_;rintro e I ⟨rfl,i⟩;have k:=AtL.below i (AtL.drew pA);have d:=AtL.below i (AtL.drew z);have N:=d.2.1 1 _ rfl;have P:=d.2.1 2 _ rfl;have o:=QA g.drew i))
  all_goals
   clear pA z G C g N P K;have t:=((k.far j 1 (O J x.a)).far j 2 (O J x.b))
   have u:=((d.set 1 (O J x.a)).set 2 (O J x.b))
   have f:bL w ((I.setCell ⟨w.heap.size+1,1,none⟩ (O J x.a)).setCell ⟨w.heap.size+1,2,none⟩ (O J x.b)):=(clB o)
   clear k d o;generalize ((I.setCell ⟨w.heap.size+1,1,none⟩ (O J x.a)).setCell ⟨w.heap.size+1,2,none⟩ (O J x.b))=W2 at *;have S:=t.range;have T:=u.range;clear t u;go_wp2_with (first | ((with_reducible refine QB ?_ 87 (mX 1) ?_ w.heap.size 0 ?_ (QF x tv) _ ?_ underlying87 ?_ ?_ ?_);rfl;rfl;rfl;exact S;rfl;kernel_rfl) | ((with_reducible refine QB ?_ 87 (mX 3) ?_ (w.heap.size+1) 0 ?_ (QF ⟨5,x.a,x.b,v0I,c0I,a0I,a0I⟩ QO) _ ?_ underlying87 ?_ ?_ ?_);rfl;rfl;rfl;exact T;rfl;kernel_rfl) | (go_at_call 136;refine (E _ f).mono ?_;rintro e w3 ⟨rfl,B⟩;have A:=QA f B))
   go_wp2;go_ret;first
   | exact ⟨sM,f⟩
   | exact ⟨sM,A⟩
abbrev zQI (ka kb:Nat) (x:Wc.In) (tv:vW) (W:wW):Prop :=
 W.cell? ⟨ka,1,none⟩=some (O J x.a)/\W.frozen? ⟨kb,1,none⟩=false
theorem zEN (b:AtL W ka (QF x tv)) (c:AtL W kb (QF y tu)):zQI ka kb x tv W :=
 ⟨b.2.1 1 _ rfl,c.2.2 1 (by show 1<23;decide)⟩
theorem zLo (h:zQI ka kb x tv W) (b:kb ≠ ka) (j:Nat) (u:vW):zQI ka kb x tv (W.setCell ⟨kb,j,none⟩ u):=by
 obtain ⟨d,c⟩:=h;refine ⟨?_,?_⟩;any_goals rw [bZ _ _ _ _ (by simpa using b)];assumption
 all_goals rw [dZ];assumption
theorem zLC (x:Wc.In) (B:Option Addr) (n c:Nat) (m:List Int) (w:wW) (hk:x.op=3) (N:RdZ w (U B n c) m) (H:m.length<=1000000) :
  CR 101 #[inV x (U B n c)] w (Y ((decide (1<=x.a) && decide (x.a<=3)) && (smI x ⟨3,x.a,0,v0I,c0I,a0I,a0I⟩ && decide (m=[])))):=by
 have L:∀ w',bL w w'->CR 136 #[gX (QF x (U B n c)).toArray,gX (QF ⟨3,x.a,0,v0I,c0I,a0I,a0I⟩ QO).toArray] w' (Y (smI x ⟨3,x.a,0,v0I,c0I,a0I,a0I⟩ && decide (m=[]))):=λw' hb=>Q5 x ⟨3,x.a,0,v0I,c0I,a0I,a0I⟩ _ _ m [] w' (N.below hb) (RdZ.nil _) H (by first | exact H | simp)
 generalize (smI x ⟨3,x.a,0,v0I,c0I,a0I,a0I⟩ && decide (m=[]))=R at *;obtain ⟨tv,t⟩:=xV (U B n c)
 rw [t] at L ⊢;have u:AtL (Q7 w x tv) w.heap.size (QF x tv):=(AtL.new0 w _ _).alloc _;have l:AtL (Q7 w x tv) (w.heap.size+1) (QF (QL 0) QO):=AtL.new1 w _ _ _;have s:cZ (Q7 w x tv) (w.heap.size+1) 0 (QF (QL 3) QO).toArray.size:=l.there;have r:w.heap.size+1 ≠ w.heap.size:=oM;have pA:=u.farAll r 0 (QF (QL 3) QO);have I:AtL ((Q7 w x tv).setCells (w.heap.size+1) 0 (QF (QL 3) QO)) (w.heap.size+1) (QF (QL 3) QO):=l.setAll rfl;have o:bL w ((Q7 w x tv).setCells (w.heap.size+1) 0 (QF (QL 3) QO)):=Qm (QJ (QJ (aZ _ w) _) _) (eZ _) _ 0;clear u l;have n0:(QF x tv)[0]? = some (O J 3):=by rw [<-hk];rfl
 have a0:=pA.2.1 0 _ n0;show cW _ _ #[gX (QF x tv).toArray] _ _
 have X:=zEN pA I;clear N H t;by_cases C:1<=x.a
 have D:¬ x.a<1:=oM;by_cases M:x.a<=3
 have E:¬ 3<x.a:=oM;have q:(decide (1<=x.a) && decide (x.a<=3))=true:=by simp [C,M]
 rw [q];rotate_left
 have E:3<x.a:=oM;have q:(decide (1<=x.a) && decide (x.a<=3))=false:=by simp [M]
 rw [q];rotate_left
 have D:x.a<1:=oM;have q:(decide (1<=x.a) && decide (x.a<=3))=false:=by simp [C]
 rw [q];rotate_left
 all_goals
  go_enter func101,ntmps101;go_upto_region 1 with fail
  go_upto_region 2 with ((with_reducible refine wpList_store_mid ?_ 87 (mX 3) (mX 7) ?_ (w.heap.size+1) 0 (QF (QL 3) QO).toArray ?_ ?_ ?_ ?_ ?_ ?_);rfl;rfl;rfl;rfl;exact s;kernel_rfl;exact JO _ _ _ _)
  generalize (Q7 w x tv).setCells (w.heap.size+1) 0 (QF (QL 3) QO)=T at *;clear s;go_upto_region 8 with fail
  have f:=AtL.drew pA;have d:=AtL.drew I;have j:=o.drew;clear pA I o X;refine wp_region_held_drew (S:=zQI w.heap.size (w.heap.size+1) x tv) kR (zEN f d) (λb=>?_);generalize T.drew=P at *;refine tkQ 0 ?_
  refine tkQ 1 ?_
  refine tkQ 2 ?_
  refine tkQ 3 ?_
  refine tkQ 4 ?_
  refine tkQ 5 ?_
  first
  | (
    refine wpAnyH_take (i:=6) (v:=?_) (atQ rfl) kR kR kR (λ_ _ _ h=>h) (fZ ⟨by rfl,?_⟩) (by assumption) ?_;rotate_left
    ·intro w k
     (try dsimp only at k)
     go_simp
     try with_reducible rfl)
  | (refine wpAnyH_take (i:=6) (v:=undef) (atQ rfl) kR kR kR (λ_ _ _ h=>h) (gZ ⟨by rfl,rfl⟩) (by assumption) ?_)
  try simp only [Act.put,lA,lZ,lS]
  first
  | (
    refine wpAnyH_take (i:=7) (v:=?_) (atQ rfl) kR kR kR (λ_ _ _ h=>h) (fZ ⟨by rfl,?_⟩) (by assumption) ?_;rotate_left
    ·intro w k
     (try dsimp only at k)
     go_simp
     try with_reducible rfl)
  | (refine wpAnyH_take (i:=7) (v:=undef) (atQ rfl) kR kR kR (λ_ _ _ h=>h) (gZ ⟨by rfl,rfl⟩) (by assumption) ?_)
  try simp only [Act.put,lA,lZ,lS]
  first
  | (
    refine wpAnyH_take (i:=8) (v:=?_) (atQ rfl) kR kR kR (λ_ _ _ h=>h) (fZ ⟨by rfl,?_⟩) (by assumption) ?_;rotate_left
    ·intro w k
     (try dsimp only at k)
     go_simp
     try with_reducible rfl)
  | (refine wpAnyH_take (i:=8) (v:=undef) (atQ rfl) kR kR kR (λ_ _ _ h=>h) (gZ ⟨by rfl,rfl⟩) (by assumption) ?_)
  try simp only [Act.put,lA,lZ,lS]
  refine tkQ 9 ?_
  refine tkQ 10 ?_
  refine rdQ 11 (λK p=>?_);have o1:=d.2.1 1 _ rfl;obtain ⟨_,C⟩:=b;go_simp
  refine hkQ p ((zLo (zEN f d) oM _ _)) (λb=>?_);clear p K o1 C
  have z:=(f.far r 1 (O J x.a))
  have A:=(d.set 1 (O J x.a))
  have g:bL w (P.setCell ⟨w.heap.size+1,1,none⟩ (O J x.a)):=(clB j)
  clear f d j;generalize (P.setCell ⟨w.heap.size+1,1,none⟩ (O J x.a))=aa at *;have f:=z;have d:=A;have j:=g;clear z A g;refine rdQ 12 (λK p=>?_);go_simp
  refine hkQ p (by assumption) (λb=>?_);clear p K
  refine wpAnyH_done kR ?_ _;clear b;have rA:=f.range;have rO:=d.range;have g:=j;clear f d j;go_wp2_with (first | ((with_reducible refine QB ?_ 87 (mX 1) ?_ w.heap.size 0 ?_ (QF x tv) _ ?_ underlying87 ?_ ?_ ?_);rfl;rfl;rfl;exact rA;rfl;kernel_rfl) | ((with_reducible refine QB ?_ 87 (mX 3) ?_ (w.heap.size+1) 0 ?_ (QF ⟨3,x.a,0,v0I,c0I,a0I,a0I⟩ QO) _ ?_ underlying87 ?_ ?_ ?_);rfl;rfl;rfl;exact rO;rfl;kernel_rfl) | (go_at_call 136;refine (L _ g).mono ?_;rintro e w3 ⟨rfl,G⟩;have F:=QA g G))
  go_wp2;go_ret;first
  | exact ⟨sM,g⟩
  | exact ⟨sM,F⟩
abbrev zQT (ka kb:Nat) (x:Wc.In) (tv:vW) (W:wW):Prop :=
 W.cell? ⟨ka,1,none⟩=some (O J x.a)/\W.frozen? ⟨kb,1,none⟩=false
theorem zEe (b:AtL W ka (QF x tv)) (c:AtL W kb (QF y tu)):zQT ka kb x tv W :=
 ⟨b.2.1 1 _ rfl,c.2.2 1 (by show 1<23;decide)⟩
theorem zLE (h:zQT ka kb x tv W) (b:kb ≠ ka) (j:Nat) (u:vW):zQT ka kb x tv (W.setCell ⟨kb,j,none⟩ u):=by
 obtain ⟨d,c⟩:=h;refine ⟨?_,?_⟩;any_goals rw [bZ _ _ _ _ (by simpa using b)];assumption
 all_goals rw [dZ];assumption
theorem zKC (x:Wc.In) (C:Option Addr) (n c:Nat) (o:List Int) (w:wW) (hk:x.op=4) (P:RdZ w (U C n c) o) (I:o.length<=1000000) :
  CR 101 #[inV x (U C n c)] w (Y (Wt.isBin x.a && (smI x ⟨4,x.a,0,v0I,c0I,a0I,a0I⟩ && decide (o=[])))):=by
 have M:∀ w',bL w w'->CR 136 #[gX (QF x (U C n c)).toArray,gX (QF ⟨4,x.a,0,v0I,c0I,a0I,a0I⟩ QO).toArray] w' (Y (smI x ⟨4,x.a,0,v0I,c0I,a0I,a0I⟩ && decide (o=[]))):=λw' hb=>Q5 x ⟨4,x.a,0,v0I,c0I,a0I,a0I⟩ _ _ o [] w' (P.below hb) (RdZ.nil _) I (by first | exact I | simp)
 generalize (smI x ⟨4,x.a,0,v0I,c0I,a0I,a0I⟩ && decide (o=[]))=R at *;obtain ⟨tv,u⟩:=xV (U C n c)
 rw [u] at M ⊢;have z:AtL (Q7 w x tv) w.heap.size (QF x tv):=(AtL.new0 w _ _).alloc _;have m:AtL (Q7 w x tv) (w.heap.size+1) (QF (QL 0) QO):=AtL.new1 w _ _ _;have t:cZ (Q7 w x tv) (w.heap.size+1) 0 (QF (QL 4) QO).toArray.size:=m.there;have s:w.heap.size+1 ≠ w.heap.size:=oM;have pA:=z.farAll s 0 (QF (QL 4) QO);have L:AtL ((Q7 w x tv).setCells (w.heap.size+1) 0 (QF (QL 4) QO)) (w.heap.size+1) (QF (QL 4) QO):=m.setAll rfl;have q:bL w ((Q7 w x tv).setCells (w.heap.size+1) 0 (QF (QL 4) QO)):=Qm (QJ (QJ (aZ _ w) _) _) (eZ _) _ 0;clear z m;have n0:(QF x tv)[0]? = some (O J 4):=by rw [<-hk];rfl
 have a0:=pA.2.1 0 _ n0;show cW _ _ #[gX (QF x tv).toArray] _ _
 have hS:=zEe pA L;clear P I u;by_cases N:11<=x.a
 have D:¬ x.a<11:=oM;by_cases g2:x.a<=16
 have E:¬ 16<x.a:=oM;have l:Wt.isBin x.a=true:=by simp only [Wt.isBin];simp;omega
 rw [l];rotate_left
 have E:16<x.a:=oM;by_cases g3:21<=x.a
 have p:¬ x.a<21:=oM;by_cases g4:x.a<=26
 have F:¬ 26<x.a:=oM;have l:Wt.isBin x.a=true:=by simp only [Wt.isBin];simp;omega
 rw [l];rotate_left
 have F:26<x.a:=oM;have l:Wt.isBin x.a=false:=by simp only [Wt.isBin];simp;omega
 rw [l];rotate_left
 have p:x.a<21:=oM;have l:Wt.isBin x.a=false:=by simp only [Wt.isBin];simp;omega
 rw [l];rotate_left
 have D:x.a<11:=oM;have g3:¬ 21<=x.a:=oM;have p:x.a<21:=oM;have l:Wt.isBin x.a=false:=by simp only [Wt.isBin];simp;omega
 rw [l];rotate_left
 all_goals
  go_enter func101,ntmps101;go_upto_region 1 with fail
  go_upto_region 2 with ((with_reducible refine wpList_store_mid ?_ 87 (mX 3) (mX 7) ?_ (w.heap.size+1) 0 (QF (QL 4) QO).toArray ?_ ?_ ?_ ?_ ?_ ?_);rfl;rfl;rfl;rfl;exact t;kernel_rfl;exact JO _ _ _ _)
  generalize (Q7 w x tv).setCells (w.heap.size+1) 0 (QF (QL 4) QO)=X at *;clear t;go_upto_region 10 with fail
  have g:=AtL.drew pA;have f:=AtL.drew L;have k:=q.drew;clear pA L q hS;refine wp_region_held_drew (S:=zQT w.heap.size (w.heap.size+1) x tv) kR (zEe g f) (λd=>?_);generalize X.drew=T at *;refine tkQ 0 ?_
  refine tkQ 1 ?_
  refine tkQ 2 ?_
  refine tkQ 3 ?_
  refine tkQ 4 ?_
  refine tkQ 5 ?_
  first
  | (
    refine wpAnyH_take (i:=6) (v:=?_) (atQ rfl) kR kR kR (λ_ _ _ h=>h) (fZ ⟨by rfl,?_⟩) (by assumption) ?_;rotate_left
    ·intro w b
     (try dsimp only at b)
     go_simp
     try with_reducible rfl)
  | (refine wpAnyH_take (i:=6) (v:=undef) (atQ rfl) kR kR kR (λ_ _ _ h=>h) (gZ ⟨by rfl,rfl⟩) (by assumption) ?_)
  try simp only [Act.put,lA,lZ,lS]
  first
  | (
    refine wpAnyH_take (i:=7) (v:=?_) (atQ rfl) kR kR kR (λ_ _ _ h=>h) (fZ ⟨by rfl,?_⟩) (by assumption) ?_;rotate_left
    ·intro w b
     (try dsimp only at b)
     go_simp
     try with_reducible rfl)
  | (refine wpAnyH_take (i:=7) (v:=undef) (atQ rfl) kR kR kR (λ_ _ _ h=>h) (gZ ⟨by rfl,rfl⟩) (by assumption) ?_)
  try simp only [Act.put,lA,lZ,lS]
  first
  | (
    refine wpAnyH_take (i:=8) (v:=?_) (atQ rfl) kR kR kR (λ_ _ _ h=>h) (fZ ⟨by rfl,?_⟩) (by assumption) ?_;rotate_left
    ·intro w b
     (try dsimp only at b)
     go_simp
     try with_reducible rfl)
  | (refine wpAnyH_take (i:=8) (v:=undef) (atQ rfl) kR kR kR (λ_ _ _ h=>h) (gZ ⟨by rfl,rfl⟩) (by assumption) ?_)
  try simp only [Act.put,lA,lZ,lS]
  refine tkQ 9 ?_
  refine tkQ 10 ?_
  first
  | (refine wpAnyH_take (i:=11) (v:=undef) (atQ rfl) kR kR kR (λ_ _ _ h=>h) (gZ ⟨by rfl,rfl⟩) (by assumption) ?_)
  | (
    refine wpAnyH_take (i:=11) (v:=?_) (atQ rfl) kR kR kR (λ_ _ _ h=>h) (fZ ⟨by rfl,?_⟩) (by assumption) ?_;rotate_left
    ·intro w b
     (try dsimp only at b)
     go_simp
     try with_reducible rfl)
  try simp only [Act.put,lA,lZ,lS]
  first
  | (refine wpAnyH_take (i:=12) (v:=undef) (atQ rfl) kR kR kR (λ_ _ _ h=>h) (gZ ⟨by rfl,rfl⟩) (by assumption) ?_)
  | (
    refine wpAnyH_take (i:=12) (v:=?_) (atQ rfl) kR kR kR (λ_ _ _ h=>h) (fZ ⟨by rfl,?_⟩) (by assumption) ?_;rotate_left
    ·intro w b
     (try dsimp only at b)
     go_simp
     try with_reducible rfl)
  try simp only [Act.put,lA,lZ,lS]
  first
  | (refine wpAnyH_take (i:=13) (v:=undef) (atQ rfl) kR kR kR (λ_ _ _ h=>h) (gZ ⟨by rfl,rfl⟩) (by assumption) ?_)
  | (
    refine wpAnyH_take (i:=13) (v:=?_) (atQ rfl) kR kR kR (λ_ _ _ h=>h) (fZ ⟨by rfl,?_⟩) (by assumption) ?_;rotate_left
    ·intro w b
     (try dsimp only at b)
     go_simp
     try with_reducible rfl)
  try simp only [Act.put,lA,lZ,lS]
  first
  | (refine wpAnyH_take (i:=14) (v:=undef) (atQ rfl) kR kR kR (λ_ _ _ h=>h) (gZ ⟨by rfl,rfl⟩) (by assumption) ?_)
  | (
    refine wpAnyH_take (i:=14) (v:=?_) (atQ rfl) kR kR kR (λ_ _ _ h=>h) (fZ ⟨by rfl,?_⟩) (by assumption) ?_;rotate_left
    ·intro w b
     (try dsimp only at b)
     go_simp
     try with_reducible rfl)
  try simp only [Act.put,lA,lZ,lS]
  first
  | (refine wpAnyH_take (i:=15) (v:=undef) (atQ rfl) kR kR kR (λ_ _ _ h=>h) (gZ ⟨by rfl,rfl⟩) (by assumption) ?_)
  | (
    refine wpAnyH_take (i:=15) (v:=?_) (atQ rfl) kR kR kR (λ_ _ _ h=>h) (fZ ⟨by rfl,?_⟩) (by assumption) ?_;rotate_left
    ·intro w b
     (try dsimp only at b)
     go_simp
     try with_reducible rfl)
  try simp only [Act.put,lA,lZ,lS]
  first
  | (refine wpAnyH_take (i:=16) (v:=undef) (atQ rfl) kR kR kR (λ_ _ _ h=>h) (gZ ⟨by rfl,rfl⟩) (by assumption) ?_)
  | (
    refine wpAnyH_take (i:=16) (v:=?_) (atQ rfl) kR kR kR (λ_ _ _ h=>h) (fZ ⟨by rfl,?_⟩) (by assumption) ?_;rotate_left
    ·intro w b
     (try dsimp only at b)
     go_simp
     try with_reducible rfl)
  try simp only [Act.put,lA,lZ,lS]
  first
  | (refine wpAnyH_take (i:=17) (v:=undef) (atQ rfl) kR kR kR (λ_ _ _ h=>h) (gZ ⟨by rfl,rfl⟩) (by assumption) ?_)
  | (
    refine wpAnyH_take (i:=17) (v:=?_) (atQ rfl) kR kR kR (λ_ _ _ h=>h) (fZ ⟨by rfl,?_⟩) (by assumption) ?_;rotate_left
    ·intro w b
     (try dsimp only at b)
     go_simp
     try with_reducible rfl)
  try simp only [Act.put,lA,lZ,lS]
  first
  | (refine wpAnyH_take (i:=18) (v:=undef) (atQ rfl) kR kR kR (λ_ _ _ h=>h) (gZ ⟨by rfl,rfl⟩) (by assumption) ?_)
  | (
    refine wpAnyH_take (i:=18) (v:=?_) (atQ rfl) kR kR kR (λ_ _ _ h=>h) (fZ ⟨by rfl,?_⟩) (by assumption) ?_;rotate_left
    ·intro w b
     (try dsimp only at b)
     go_simp
     try with_reducible rfl)
  try simp only [Act.put,lA,lZ,lS]
  refine tkQ 19 ?_
  refine tkQ 20 ?_
  refine rdQ 21 (λK r=>?_);have o1:=f.2.1 1 _ rfl;obtain ⟨_,N⟩:=d;go_simp
  refine hkQ r ((zLE (zEe g f) oM _ _)) (λd=>?_);clear r K o1 N
  have A:=(g.far s 1 (O J x.a))
  have B:=(f.set 1 (O J x.a))
  have j:bL w (T.setCell ⟨w.heap.size+1,1,none⟩ (O J x.a)):=(clB k)
  clear g f k;generalize (T.setCell ⟨w.heap.size+1,1,none⟩ (O J x.a))=aa at *;have g:=A;have f:=B;have k:=j;clear A B j;refine rdQ 22 (λK r=>?_);go_simp
  refine hkQ r (by assumption) (λd=>?_);clear r K
  refine wpAnyH_done kR ?_ _;clear d;have rA:=g.range;have rO:=f.range;have j:=k;clear g f k;go_wp2_with (first | ((with_reducible refine QB ?_ 87 (mX 1) ?_ w.heap.size 0 ?_ (QF x tv) _ ?_ underlying87 ?_ ?_ ?_);rfl;rfl;rfl;exact rA;rfl;kernel_rfl) | ((with_reducible refine QB ?_ 87 (mX 3) ?_ (w.heap.size+1) 0 ?_ (QF ⟨4,x.a,0,v0I,c0I,a0I,a0I⟩ QO) _ ?_ underlying87 ?_ ?_ ?_);rfl;rfl;rfl;exact rO;rfl;kernel_rfl) | (go_at_call 136;refine (M _ j).mono ?_;rintro e w3 ⟨rfl,H⟩;have G:=QA j H))
  go_wp2;go_ret;first
  | exact ⟨sM,j⟩
  | exact ⟨sM,G⟩
