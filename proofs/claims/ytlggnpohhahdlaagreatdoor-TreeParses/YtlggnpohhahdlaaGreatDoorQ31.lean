/- TRefD. -/
import Derived.Test.YtlggnpohhahdlaaGreatDoorQ30
import Derived.Deep.RegionHeld3
set_option maxHeartbeats 4000000
set_option maxRecDepth 100000
namespace Go.Proofs.YtlggnpohhahdlaaGreatDoor
open Go.RowKit
set_option linter.unusedVariables false
def isUnB (o:Int):Bool:=decide (o=1) || decide (o=2) || decide (o=3)
abbrev NdR4 (k:Nat) (x:Wt.Nd) (W:World):Prop :=
 W.rangeAt k 0 (nd20 x)∧W.cell? ⟨k,0,none⟩=some (.int .i64 4)∧W.cell? ⟨k,7,none⟩=some (.int .i64 x.op)
theorem NdR4_mk {k:Nat} {x:Wt.Nd} {W:World} (hk:x.k=4) (h:AtL W k (nd20 x)):NdR4 k x W :=
 ⟨h.range,by rw [←hk];exact h.2.1 0 _ rfl,h.2.1 7 _ rfl⟩
abbrev NdR6 (k:Nat) (x:Wt.Nd) (W:World):Prop :=
 W.rangeAt k 0 (nd20 x)∧W.cell? ⟨k,0,none⟩=some (.int .i64 6)∧W.cell? ⟨k,8,none⟩=some (.string x.nm)∧W.cell? ⟨k,9,none⟩=some (.int .i64 x.ar)
theorem NdR6_mk {k:Nat} {x:Wt.Nd} {W:World} (hk:x.k=6) (h:AtL W k (nd20 x)):NdR6 k x W :=
 ⟨h.range,by rw [←hk];exact h.2.1 0 _ rfl,h.2.1 8 _ rfl,h.2.1 9 _ rfl⟩
abbrev qd0:Oper:={dst:=some 63,op:=.load 45 (.tmp 1),type:=45,pos:= "tree.go:74",after:=#[],guard:=none}
abbrev qd1:Oper:={dst:=some 64,op:=.fieldAddr 45 (.tmp 1) 0,type:=0,pos:= "tree.go:74",after:=#[],guard:=none}
abbrev qd2:Oper:={dst:=some 65,op:=.load 3 (.tmp 64),type:=3,pos:= "tree.go:74",after:=#[⟨1,.data⟩],guard:=none}
abbrev qd3:Oper:={dst:=some 66,op:=.fieldAddr 45 (.tmp 1) 2,type:=0,pos:= "tree.go:74",after:=#[],guard:=none}
abbrev qd4:Oper:={dst:=some 67,op:=.load 3 (.tmp 66),type:=3,pos:= "tree.go:74",after:=#[⟨3,.data⟩],guard:=none}
abbrev qd5:Oper:={dst:=some 68,op:=.build 45 #[(0,.tmp 65),(2,.tmp 67)],type:=45,pos:= "tree.go:74",after:=#[⟨2,.data⟩,⟨4,.data⟩],guard:=none}
abbrev qd6:Oper:={dst:=some 69,op:=.binOp BinOp.eql 45 (.tmp 63) (.tmp 68) 45,type:=4,pos:= "tree.go:74",after:=#[⟨0,.data⟩,⟨5,.data⟩],guard:=none}
abbrev qd7:Oper:={dst:=some 70,op:=.move (.tmp 69),type:=4,pos:= "tree.go:74",after:=#[⟨6,.data⟩],guard:=none}
abbrev qd8:Oper:={dst:=some 71,op:=.fieldAddr 45 (.tmp 1) 2,type:=0,pos:= "tree.go:74",after:=#[⟨7,.guard⟩],guard:=some (7,Bool.true)}
abbrev qd9:Oper:={dst:=some 72,op:=.load 3 (.tmp 71),type:=3,pos:= "tree.go:74",after:=#[⟨8,.data⟩,⟨7,.guard⟩],guard:=some (7,Bool.true)}
abbrev qd10:Oper:={dst:=some 73,op:=.binOp BinOp.eql 3 (.tmp 72) (Operand.const (Value.int IntKind.i64 1)) 3,type:=4,pos:= "tree.go:74",after:=#[⟨9,.data⟩,⟨7,.guard⟩],guard:=some (7,Bool.true)}
abbrev qd11:Oper:={dst:=some 74,op:=.move (.tmp 73),type:=4,pos:= "tree.go:74",after:=#[⟨10,.data⟩,⟨7,.chain⟩,⟨7,.guard⟩],guard:=some (7,Bool.true)}
abbrev qd12:Oper:={dst:=some 75,op:=.fieldAddr 45 (.tmp 1) 2,type:=0,pos:= "tree.go:74",after:=#[⟨11,.guard⟩],guard:=some (11,Bool.false)}
abbrev qd13:Oper:={dst:=some 76,op:=.load 3 (.tmp 75),type:=3,pos:= "tree.go:74",after:=#[⟨12,.data⟩,⟨11,.guard⟩],guard:=some (11,Bool.false)}
abbrev qd14:Oper:={dst:=some 77,op:=.binOp BinOp.eql 3 (.tmp 76) (Operand.const (Value.int IntKind.i64 2)) 3,type:=4,pos:= "tree.go:74",after:=#[⟨13,.data⟩,⟨11,.guard⟩],guard:=some (11,Bool.false)}
abbrev qd15:Oper:={dst:=some 78,op:=.pick (.tmp 74) (Operand.const (Value.bool Bool.true)) (.tmp 77),type:=4,pos:= "tree.go:74",after:=#[⟨11,.data⟩,⟨14,.data⟩,⟨7,.guard⟩],guard:=some (7,Bool.true)}
abbrev qd16:Oper:={dst:=some 79,op:=.move (.tmp 78),type:=4,pos:= "tree.go:74",after:=#[⟨15,.data⟩,⟨11,.chain⟩,⟨7,.guard⟩],guard:=some (7,Bool.true)}
abbrev qd17:Oper:={dst:=some 80,op:=.fieldAddr 45 (.tmp 1) 2,type:=0,pos:= "tree.go:74",after:=#[⟨16,.guard⟩,⟨22,.gcOnly .lateStores⟩],guard:=some (16,Bool.false)}
abbrev qd18:Oper:={dst:=some 81,op:=.load 3 (.tmp 80),type:=3,pos:= "tree.go:74",after:=#[⟨17,.data⟩,⟨16,.guard⟩,⟨22,.gcOnly .lateStores⟩],guard:=some (16,Bool.false)}
abbrev qd19:Oper:={dst:=some 82,op:=.binOp BinOp.eql 3 (.tmp 81) (Operand.const (Value.int IntKind.i64 3)) 3,type:=4,pos:= "tree.go:74",after:=#[⟨18,.data⟩,⟨16,.guard⟩,⟨22,.gcOnly .lateStores⟩],guard:=some (16,Bool.false)}
abbrev qd20:Oper:={dst:=some 83,op:=.pick (.tmp 79) (Operand.const (Value.bool Bool.true)) (.tmp 82),type:=4,pos:= "tree.go:74",after:=#[⟨16,.data⟩,⟨19,.data⟩,⟨7,.guard⟩,⟨22,.gcOnly .lateStores⟩],guard:=some (7,Bool.true)}
abbrev qd21:Oper:={dst:=some 84,op:=.pick (.tmp 70) (.tmp 83) (Operand.const (Value.bool Bool.false)),type:=4,pos:= "tree.go:74",after:=#[⟨7,.data⟩,⟨20,.data⟩,⟨22,.gcOnly .lateStores⟩],guard:=none}
abbrev qd22:Oper:={dst:=some 2,op:=.assign (Operand.const (Value.int IntKind.i64 1)),type:=3,pos:= "tree.go:74",after:=#[⟨16,.chain⟩,⟨0,.textOnly .lateStores⟩,⟨1,.textOnly .lateStores⟩,⟨2,.textOnly .lateStores⟩,⟨3,.textOnly .lateStores⟩,⟨4,.textOnly .lateStores⟩,⟨5,.textOnly .lateStores⟩,⟨6,.textOnly .lateStores⟩,⟨7,.textOnly .lateStores⟩,⟨8,.textOnly .lateStores⟩,⟨9,.textOnly .lateStores⟩,⟨10,.textOnly .lateStores⟩,⟨11,.textOnly .lateStores⟩,⟨12,.textOnly .lateStores⟩,⟨13,.textOnly .lateStores⟩,⟨14,.textOnly .lateStores⟩,⟨15,.textOnly .lateStores⟩,⟨16,.textOnly .lateStores⟩,⟨17,.textOnly .lateStores⟩,⟨18,.textOnly .lateStores⟩,⟨19,.textOnly .lateStores⟩,⟨20,.textOnly .lateStores⟩,⟨21,.textOnly .lateStores⟩],guard:=none}
abbrev qd23:Oper:={dst:=some 3,op:=.assign (.tmp 84),type:=4,pos:= "tree.go:74",after:=#[⟨21,.data⟩,⟨22,.chain⟩,⟨0,.phase⟩,⟨1,.phase⟩,⟨2,.phase⟩,⟨3,.phase⟩,⟨4,.phase⟩,⟨5,.phase⟩,⟨6,.phase⟩,⟨7,.phase⟩,⟨8,.phase⟩,⟨9,.phase⟩,⟨10,.phase⟩,⟨11,.phase⟩,⟨12,.phase⟩,⟨13,.phase⟩,⟨14,.phase⟩,⟨15,.phase⟩,⟨16,.phase⟩,⟨17,.phase⟩,⟨18,.phase⟩,⟨19,.phase⟩,⟨20,.phase⟩,⟨21,.phase⟩,⟨22,.phase⟩],guard:=none}
abbrev qd24:Oper:={dst:=some 101,op:=.fieldAddr 45 (.tmp 1) 4,type:=0,pos:= "tree.go:78",after:=#[],guard:=none}
abbrev qd25:Oper:={dst:=some 102,op:=.load 3 (.tmp 101),type:=3,pos:= "tree.go:78",after:=#[⟨0,.data⟩],guard:=none}
abbrev qd26:Oper:={dst:=some 103,op:=.load 45 (.tmp 1),type:=45,pos:= "tree.go:78",after:=#[],guard:=none}
abbrev qd27:Oper:={dst:=some 104,op:=.fieldAddr 45 (.tmp 1) 0,type:=0,pos:= "tree.go:78",after:=#[],guard:=none}
abbrev qd28:Oper:={dst:=some 105,op:=.load 3 (.tmp 104),type:=3,pos:= "tree.go:78",after:=#[⟨3,.data⟩],guard:=none}
abbrev qd29:Oper:={dst:=some 106,op:=.fieldAddr 45 (.tmp 1) 3,type:=0,pos:= "tree.go:78",after:=#[],guard:=none}
abbrev qd30:Oper:={dst:=some 107,op:=.load 9 (.tmp 106),type:=9,pos:= "tree.go:78",after:=#[⟨5,.data⟩],guard:=none}
abbrev qd31:Oper:={dst:=some 108,op:=.fieldAddr 45 (.tmp 1) 4,type:=0,pos:= "tree.go:78",after:=#[],guard:=none}
abbrev qd32:Oper:={dst:=some 109,op:=.load 3 (.tmp 108),type:=3,pos:= "tree.go:78",after:=#[⟨7,.data⟩],guard:=none}
abbrev qd33:Oper:={dst:=some 110,op:=.build 45 #[(0,.tmp 105),(3,.tmp 107),(4,.tmp 109)],type:=45,pos:= "tree.go:78",after:=#[⟨4,.data⟩,⟨6,.data⟩,⟨8,.data⟩],guard:=none}
abbrev qd34:Oper:={dst:=some 111,op:=.binOp BinOp.eql 45 (.tmp 103) (.tmp 110) 45,type:=4,pos:= "tree.go:78",after:=#[⟨2,.data⟩,⟨9,.data⟩],guard:=none}
abbrev qd35:Oper:={dst:=some 112,op:=.move (.tmp 111),type:=4,pos:= "tree.go:78",after:=#[⟨10,.data⟩],guard:=none}
abbrev qd36:Oper:={dst:=some 113,op:=.fieldAddr 45 (.tmp 1) 3,type:=0,pos:= "tree.go:78",after:=#[⟨11,.guard⟩],guard:=some (11,Bool.true)}
abbrev qd37:Oper:={dst:=some 114,op:=.load 9 (.tmp 113),type:=9,pos:= "tree.go:78",after:=#[⟨12,.data⟩,⟨11,.guard⟩],guard:=some (11,Bool.true)}
abbrev qd38:Oper:={dst:=some 115,op:=.call {callee:=Callee.value (Operand.func 88),args:=#[.tmp 114,Operand.const (Value.bool Bool.false)],argTypes:=#[9,4]},type:=4,pos:= "tree.go:78",after:=#[⟨13,.data⟩,⟨11,.chain⟩,⟨11,.guard⟩],guard:=some (11,Bool.true)}
abbrev qd39:Oper:={dst:=some 116,op:=.pick (.tmp 112) (.tmp 115) (Operand.const (Value.bool Bool.false)),type:=4,pos:= "tree.go:78",after:=#[⟨11,.data⟩,⟨14,.data⟩],guard:=none}
abbrev qd40:Oper:={dst:=some 117,op:=.move (.tmp 116),type:=4,pos:= "tree.go:78",after:=#[⟨15,.data⟩,⟨14,.chain⟩],guard:=none}
abbrev qd41:Oper:={dst:=some 118,op:=.fieldAddr 45 (.tmp 1) 4,type:=0,pos:= "tree.go:78",after:=#[⟨16,.guard⟩],guard:=some (16,Bool.true)}
abbrev qd42:Oper:={dst:=some 119,op:=.load 3 (.tmp 118),type:=3,pos:= "tree.go:78",after:=#[⟨17,.data⟩,⟨16,.guard⟩],guard:=some (16,Bool.true)}
abbrev qd43:Oper:={dst:=some 120,op:=.binOp BinOp.geq 3 (.tmp 119) (Operand.const (Value.int IntKind.i64 0)) 3,type:=4,pos:= "tree.go:78",after:=#[⟨18,.data⟩,⟨16,.guard⟩],guard:=some (16,Bool.true)}
abbrev qd44:Oper:={dst:=some 121,op:=.pick (.tmp 117) (.tmp 120) (Operand.const (Value.bool Bool.false)),type:=4,pos:= "tree.go:78",after:=#[⟨16,.data⟩,⟨19,.data⟩],guard:=none}
abbrev qd45:Oper:={dst:=some 122,op:=.move (.tmp 121),type:=4,pos:= "tree.go:78",after:=#[⟨20,.data⟩,⟨16,.chain⟩],guard:=none}
abbrev qd46:Oper:={dst:=some 123,op:=.fieldAddr 45 (.tmp 1) 4,type:=0,pos:= "tree.go:78",after:=#[⟨21,.guard⟩,⟨26,.gcOnly .lateStores⟩],guard:=some (21,Bool.true)}
abbrev qd47:Oper:={dst:=some 124,op:=.load 3 (.tmp 123),type:=3,pos:= "tree.go:78",after:=#[⟨22,.data⟩,⟨21,.guard⟩,⟨26,.gcOnly .lateStores⟩],guard:=some (21,Bool.true)}
abbrev qd48:Oper:={dst:=some 125,op:=.binOp BinOp.leq 3 (.tmp 124) (Operand.const (Value.int IntKind.i64 30)) 3,type:=4,pos:= "tree.go:78",after:=#[⟨23,.data⟩,⟨21,.guard⟩,⟨26,.gcOnly .lateStores⟩],guard:=some (21,Bool.true)}
abbrev qd49:Oper:={dst:=some 126,op:=.pick (.tmp 122) (.tmp 125) (Operand.const (Value.bool Bool.false)),type:=4,pos:= "tree.go:78",after:=#[⟨21,.data⟩,⟨24,.data⟩,⟨26,.gcOnly .lateStores⟩],guard:=none}
abbrev qd50:Oper:={dst:=some 2,op:=.assign (.tmp 102),type:=3,pos:= "tree.go:78",after:=#[⟨1,.data⟩,⟨21,.chain⟩,⟨0,.phase⟩,⟨1,.phase⟩,⟨2,.textOnly .lateStores⟩,⟨3,.textOnly .lateStores⟩,⟨4,.textOnly .lateStores⟩,⟨5,.textOnly .lateStores⟩,⟨6,.textOnly .lateStores⟩,⟨7,.textOnly .lateStores⟩,⟨8,.textOnly .lateStores⟩,⟨9,.textOnly .lateStores⟩,⟨10,.textOnly .lateStores⟩,⟨11,.textOnly .lateStores⟩,⟨12,.textOnly .lateStores⟩,⟨13,.textOnly .lateStores⟩,⟨14,.textOnly .lateStoresUnsure⟩,⟨15,.textOnly .lateStores⟩,⟨16,.textOnly .lateStores⟩,⟨17,.textOnly .lateStores⟩,⟨18,.textOnly .lateStores⟩,⟨19,.textOnly .lateStores⟩,⟨20,.textOnly .lateStores⟩,⟨21,.textOnly .lateStores⟩,⟨22,.textOnly .lateStores⟩,⟨23,.textOnly .lateStores⟩,⟨24,.textOnly .lateStores⟩,⟨25,.textOnly .lateStores⟩],guard:=none}
abbrev qd51:Oper:={dst:=some 3,op:=.assign (.tmp 126),type:=4,pos:= "tree.go:78",after:=#[⟨25,.data⟩,⟨26,.chain⟩,⟨0,.phase⟩,⟨1,.phase⟩,⟨2,.phase⟩,⟨3,.phase⟩,⟨4,.phase⟩,⟨5,.phase⟩,⟨6,.phase⟩,⟨7,.phase⟩,⟨8,.phase⟩,⟨9,.phase⟩,⟨10,.phase⟩,⟨11,.phase⟩,⟨12,.phase⟩,⟨13,.phase⟩,⟨14,.phase⟩,⟨15,.phase⟩,⟨16,.phase⟩,⟨17,.phase⟩,⟨18,.phase⟩,⟨19,.phase⟩,⟨20,.phase⟩,⟨21,.phase⟩,⟨22,.phase⟩,⟨23,.phase⟩,⟨24,.phase⟩,⟨25,.phase⟩,⟨26,.phase⟩],guard:=none}
theorem rnode_4 (x:Wt.Nd) (w:World) (hk:x.k=4) :
  Calls Tryz.prog 54 #[ndV x] w fun e w'=>e=.returned (.tuple #[.int .i64 1,.bool (isUnB x.op && eqN x ⟨4,Wt.v0,x.op,⟨#[]⟩,0,Wt.r0,Wt.r0⟩)])∧Below w.heap.size w w':=by
 have hq:∀ w:World,(binOp .eql 45 (.agg (nd20 x).toArray) (.agg #[.int .i64 4,.int .i64 0,.int .i64 0,.int .i64 0,.string ⟨#[]⟩,.bool false,.int .i64 0,.int .i64 x.op,.string ⟨#[]⟩,.int .i64 0,.string ⟨#[]⟩,.int .i64 0,.int .i64 0,.bool false,.bool false,.string ⟨#[]⟩,.int .i64 0,.int .i64 0,.bool false,.bool false])).run Tryz.prog w=.ok (.bool (eqN x ⟨4,Wt.v0,x.op,⟨#[]⟩,0,Wt.r0,Wt.r0⟩)) w:=fun w=>eqN_run x ⟨4,Wt.v0,x.op,⟨#[]⟩,0,Wt.r0,Wt.r0⟩ w
 generalize eqN x ⟨4,Wt.v0,x.op,⟨#[]⟩,0,Wt.r0,Wt.r0⟩=R at *;have O:(∃ h1:(x.op == 1)=true,isUnB x.op=true) ∨ (∃ h1:(x.op == 1)=false,∃ h2:(x.op == 2)=true,isUnB x.op=true) ∨ (∃ h1:(x.op == 1)=false,∃ h2:(x.op == 2)=false,∃ h3:(x.op == 3)=true,isUnB x.op=true) ∨ (∃ h1:(x.op == 1)=false,∃ h2:(x.op == 2)=false,∃ h3:(x.op == 3)=false,isUnB x.op=false):=by
  unfold isUnB;by_cases h1:x.op=1
  ·exact Or.inl ⟨by simp [h1],by simp [h1]⟩
  by_cases h2:x.op=2
  ·exact Or.inr (Or.inl ⟨by simp [h1],by simp [h2],by simp [h2]⟩)
  by_cases h3:x.op=3
  ·exact Or.inr (Or.inr (Or.inl ⟨by simp [h1],by simp [h2],by simp [h3],by simp [h3]⟩))
  ·exact Or.inr (Or.inr (Or.inr ⟨by simp [h1],by simp [h2],by simp [h3],by simp [h1,h2,h3]⟩))
 generalize isUnB x.op=q at *;have pA:AtL (w.alloc (.cells (nd20 x).toArray 45)) w.heap.size (nd20 x):=AtL.new0 w _ _;have hBa:Below w.heap.size w (w.alloc (.cells (nd20 x).toArray 45)):=ball (Below.refl _ w) _;show Calls _ _ #[.agg (nd20 x).toArray] _ _
 cases R
 ·clear O;go_enter Tryz.func54,Tryz.ntmps54;go_upto_region 1 with fail
  generalize (w.alloc (.cells (nd20 x).toArray 45))=W0 at *;have a0:W0.cell? ⟨w.heap.size,0,none⟩=some (.int .i64 4):=by rw [←hk];exact pA.2.1 0 _ rfl
  go_upto_region 9 with fail
  clear a0;refine wp_region_held_drew (S:=NdR4 w.heap.size x) (by kernel_rfl) (NdR4_mk hk (AtL.drew pA)) (fun hHeld=>?_);refine wpAnyH_take (i:=0) (oi:=qd0) (v:=.agg (nd20 x).toArray) rfl (by kernel_rfl) (by kernel_rfl) (by kernel_rfl) (fun _ _ _ h=>h) (yieldsIf_load_mid (by rfl) 45 (.tmp 1) rfl w.heap.size 0 rfl (nd20 x) _ (fun w h=>h.1) Tryz.underlying45 rfl (by kernel_rfl)) (by assumption) ?_;try simp only [Act.put,lA,lZ,lS]
  refine tkQ 1 qd1 ?_;try simp only [Act.put,lA,lZ,lS]
  refine tkQ 2 qd2 ?_;try simp only [Act.put,lA,lZ,lS]
  refine tkQ 3 qd3 ?_;try simp only [Act.put,lA,lZ,lS]
  refine tkQ 4 qd4 ?_;try simp only [Act.put,lA,lZ,lS]
  refine tkQ 5 qd5 ?_;try simp only [Act.put,lA,lZ,lS]
  refine tkQ 6 qd6 ?_;try simp only [Act.put,lA,lZ,lS]
  refine tkQ 7 qd7 ?_;try simp only [Act.put,lA,lZ,lS]
  refine tnQ 8 qd8 ?_;try simp only [Act.put,lA,lZ,lS]
  refine tnQ 9 qd9 ?_;try simp only [Act.put,lA,lZ,lS]
  refine tnQ 10 qd10 ?_;try simp only [Act.put,lA,lZ,lS]
  refine tnQ 11 qd11 ?_;try simp only [Act.put,lA,lZ,lS]
  refine tnQ 12 qd12 ?_;try simp only [Act.put,lA,lZ,lS]
  refine tnQ 13 qd13 ?_;try simp only [Act.put,lA,lZ,lS]
  refine tnQ 14 qd14 ?_;try simp only [Act.put,lA,lZ,lS]
  refine tnQ 15 qd15 ?_;try simp only [Act.put,lA,lZ,lS]
  refine tnQ 16 qd16 ?_;try simp only [Act.put,lA,lZ,lS]
  refine tnQ 17 qd17 ?_;try simp only [Act.put,lA,lZ,lS]
  refine tnQ 18 qd18 ?_;try simp only [Act.put,lA,lZ,lS]
  refine tnQ 19 qd19 ?_;try simp only [Act.put,lA,lZ,lS]
  refine tnQ 20 qd20 ?_;try simp only [Act.put,lA,lZ,lS]
  refine tkQ 21 qd21 ?_;try simp only [Act.put,lA,lZ,lS]
  refine wpAnyH_ready (rs:=[22]) (by kernel_rfl) (by simp) ?_;refine AllReadyH.cons (o:=qd22) rfl (fun K hK=>?_) AllReadyH.nil;go_simp
  refine hK.out _ _ (by assumption) (fun hHeld=>?_);clear hK K;try simp only [Act.put,lA,lZ,lS]
  refine wpAnyH_ready (rs:=[23]) (by kernel_rfl) (by simp) ?_;refine AllReadyH.cons (o:=qd23) rfl (fun K hK=>?_) AllReadyH.nil;go_simp
  refine hK.out _ _ (by assumption) (fun hHeld=>?_);clear hK K;try simp only [Act.put,lA,lZ,lS]
  refine wpAnyH_done (by kernel_rfl) ?_ _;go_wp2;go_ret2
  exact ⟨by simp,hBa.drew⟩
 rcases O with ⟨h1,rfl⟩ | ⟨h1,h2,rfl⟩ | ⟨h1,h2,h3,rfl⟩ | ⟨h1,h2,h3,rfl⟩
 ·skip
  go_enter Tryz.func54,Tryz.ntmps54;go_upto_region 1 with fail
  generalize (w.alloc (.cells (nd20 x).toArray 45))=W0 at *;have a0:W0.cell? ⟨w.heap.size,0,none⟩=some (.int .i64 4):=by rw [←hk];exact pA.2.1 0 _ rfl
  go_upto_region 9 with fail
  clear a0;refine wp_region_held_drew (S:=NdR4 w.heap.size x) (by kernel_rfl) (NdR4_mk hk (AtL.drew pA)) (fun hHeld=>?_);refine wpAnyH_take (i:=0) (oi:=qd0) (v:=.agg (nd20 x).toArray) rfl (by kernel_rfl) (by kernel_rfl) (by kernel_rfl) (fun _ _ _ h=>h) (yieldsIf_load_mid (by rfl) 45 (.tmp 1) rfl w.heap.size 0 rfl (nd20 x) _ (fun w h=>h.1) Tryz.underlying45 rfl (by kernel_rfl)) (by assumption) ?_;try simp only [Act.put,lA,lZ,lS]
  refine tkQ 1 qd1 ?_;try simp only [Act.put,lA,lZ,lS]
  refine tkQ 2 qd2 ?_;try simp only [Act.put,lA,lZ,lS]
  refine tkQ 3 qd3 ?_;try simp only [Act.put,lA,lZ,lS]
  refine tkQ 4 qd4 ?_;try simp only [Act.put,lA,lZ,lS]
  refine tkQ 5 qd5 ?_;try simp only [Act.put,lA,lZ,lS]
  refine tkQ 6 qd6 ?_;try simp only [Act.put,lA,lZ,lS]
  refine tkQ 7 qd7 ?_;try simp only [Act.put,lA,lZ,lS]
  refine tkQ 8 qd8 ?_;try simp only [Act.put,lA,lZ,lS]
  refine tkQ 9 qd9 ?_;try simp only [Act.put,lA,lZ,lS]
  refine tkQ 10 qd10 ?_;try simp only [Act.put,lA,lZ,lS]
  refine tkQ 11 qd11 ?_;try simp only [Act.put,lA,lZ,lS]
  refine tnQ 12 qd12 ?_;try simp only [Act.put,lA,lZ,lS]
  refine tnQ 13 qd13 ?_;try simp only [Act.put,lA,lZ,lS]
  refine tnQ 14 qd14 ?_;try simp only [Act.put,lA,lZ,lS]
  refine tkQ 15 qd15 ?_;try simp only [Act.put,lA,lZ,lS]
  refine tkQ 16 qd16 ?_;try simp only [Act.put,lA,lZ,lS]
  refine tnQ 17 qd17 ?_;try simp only [Act.put,lA,lZ,lS]
  refine tnQ 18 qd18 ?_;try simp only [Act.put,lA,lZ,lS]
  refine tnQ 19 qd19 ?_;try simp only [Act.put,lA,lZ,lS]
  refine tkQ 20 qd20 ?_;try simp only [Act.put,lA,lZ,lS]
  refine tkQ 21 qd21 ?_;try simp only [Act.put,lA,lZ,lS]
  refine wpAnyH_ready (rs:=[22]) (by kernel_rfl) (by simp) ?_;refine AllReadyH.cons (o:=qd22) rfl (fun K hK=>?_) AllReadyH.nil;go_simp
  refine hK.out _ _ (by assumption) (fun hHeld=>?_);clear hK K;try simp only [Act.put,lA,lZ,lS]
  refine wpAnyH_ready (rs:=[23]) (by kernel_rfl) (by simp) ?_;refine AllReadyH.cons (o:=qd23) rfl (fun K hK=>?_) AllReadyH.nil;go_simp
  refine hK.out _ _ (by assumption) (fun hHeld=>?_);clear hK K;try simp only [Act.put,lA,lZ,lS]
  refine wpAnyH_done (by kernel_rfl) ?_ _;go_wp2;go_ret2
  exact ⟨by simp,hBa.drew⟩
 ·skip
  go_enter Tryz.func54,Tryz.ntmps54;go_upto_region 1 with fail
  generalize (w.alloc (.cells (nd20 x).toArray 45))=W0 at *;have a0:W0.cell? ⟨w.heap.size,0,none⟩=some (.int .i64 4):=by rw [←hk];exact pA.2.1 0 _ rfl
  go_upto_region 9 with fail
  clear a0;refine wp_region_held_drew (S:=NdR4 w.heap.size x) (by kernel_rfl) (NdR4_mk hk (AtL.drew pA)) (fun hHeld=>?_);refine wpAnyH_take (i:=0) (oi:=qd0) (v:=.agg (nd20 x).toArray) rfl (by kernel_rfl) (by kernel_rfl) (by kernel_rfl) (fun _ _ _ h=>h) (yieldsIf_load_mid (by rfl) 45 (.tmp 1) rfl w.heap.size 0 rfl (nd20 x) _ (fun w h=>h.1) Tryz.underlying45 rfl (by kernel_rfl)) (by assumption) ?_;try simp only [Act.put,lA,lZ,lS]
  refine tkQ 1 qd1 ?_;try simp only [Act.put,lA,lZ,lS]
  refine tkQ 2 qd2 ?_;try simp only [Act.put,lA,lZ,lS]
  refine tkQ 3 qd3 ?_;try simp only [Act.put,lA,lZ,lS]
  refine tkQ 4 qd4 ?_;try simp only [Act.put,lA,lZ,lS]
  refine tkQ 5 qd5 ?_;try simp only [Act.put,lA,lZ,lS]
  refine tkQ 6 qd6 ?_;try simp only [Act.put,lA,lZ,lS]
  refine tkQ 7 qd7 ?_;try simp only [Act.put,lA,lZ,lS]
  refine tkQ 8 qd8 ?_;try simp only [Act.put,lA,lZ,lS]
  refine tkQ 9 qd9 ?_;try simp only [Act.put,lA,lZ,lS]
  refine tkQ 10 qd10 ?_;try simp only [Act.put,lA,lZ,lS]
  refine tkQ 11 qd11 ?_;try simp only [Act.put,lA,lZ,lS]
  refine tkQ 12 qd12 ?_;try simp only [Act.put,lA,lZ,lS]
  refine tkQ 13 qd13 ?_;try simp only [Act.put,lA,lZ,lS]
  refine tkQ 14 qd14 ?_;try simp only [Act.put,lA,lZ,lS]
  refine tkQ 15 qd15 ?_;try simp only [Act.put,lA,lZ,lS]
  refine tkQ 16 qd16 ?_;try simp only [Act.put,lA,lZ,lS]
  refine tnQ 17 qd17 ?_;try simp only [Act.put,lA,lZ,lS]
  refine tnQ 18 qd18 ?_;try simp only [Act.put,lA,lZ,lS]
  refine tnQ 19 qd19 ?_;try simp only [Act.put,lA,lZ,lS]
  refine tkQ 20 qd20 ?_;try simp only [Act.put,lA,lZ,lS]
  refine tkQ 21 qd21 ?_;try simp only [Act.put,lA,lZ,lS]
  refine wpAnyH_ready (rs:=[22]) (by kernel_rfl) (by simp) ?_;refine AllReadyH.cons (o:=qd22) rfl (fun K hK=>?_) AllReadyH.nil;go_simp
  refine hK.out _ _ (by assumption) (fun hHeld=>?_);clear hK K;try simp only [Act.put,lA,lZ,lS]
  refine wpAnyH_ready (rs:=[23]) (by kernel_rfl) (by simp) ?_;refine AllReadyH.cons (o:=qd23) rfl (fun K hK=>?_) AllReadyH.nil;go_simp
  refine hK.out _ _ (by assumption) (fun hHeld=>?_);clear hK K;try simp only [Act.put,lA,lZ,lS]
  refine wpAnyH_done (by kernel_rfl) ?_ _;go_wp2;go_ret2
  exact ⟨by simp,hBa.drew⟩
 ·skip
  go_enter Tryz.func54,Tryz.ntmps54;go_upto_region 1 with fail
  generalize (w.alloc (.cells (nd20 x).toArray 45))=W0 at *;have a0:W0.cell? ⟨w.heap.size,0,none⟩=some (.int .i64 4):=by rw [←hk];exact pA.2.1 0 _ rfl
  go_upto_region 9 with fail
  clear a0;refine wp_region_held_drew (S:=NdR4 w.heap.size x) (by kernel_rfl) (NdR4_mk hk (AtL.drew pA)) (fun hHeld=>?_);refine wpAnyH_take (i:=0) (oi:=qd0) (v:=.agg (nd20 x).toArray) rfl (by kernel_rfl) (by kernel_rfl) (by kernel_rfl) (fun _ _ _ h=>h) (yieldsIf_load_mid (by rfl) 45 (.tmp 1) rfl w.heap.size 0 rfl (nd20 x) _ (fun w h=>h.1) Tryz.underlying45 rfl (by kernel_rfl)) (by assumption) ?_;try simp only [Act.put,lA,lZ,lS]
  refine tkQ 1 qd1 ?_;try simp only [Act.put,lA,lZ,lS]
  refine tkQ 2 qd2 ?_;try simp only [Act.put,lA,lZ,lS]
  refine tkQ 3 qd3 ?_;try simp only [Act.put,lA,lZ,lS]
  refine tkQ 4 qd4 ?_;try simp only [Act.put,lA,lZ,lS]
  refine tkQ 5 qd5 ?_;try simp only [Act.put,lA,lZ,lS]
  refine tkQ 6 qd6 ?_;try simp only [Act.put,lA,lZ,lS]
  refine tkQ 7 qd7 ?_;try simp only [Act.put,lA,lZ,lS]
  refine tkQ 8 qd8 ?_;try simp only [Act.put,lA,lZ,lS]
  refine tkQ 9 qd9 ?_;try simp only [Act.put,lA,lZ,lS]
  refine tkQ 10 qd10 ?_;try simp only [Act.put,lA,lZ,lS]
  refine tkQ 11 qd11 ?_;try simp only [Act.put,lA,lZ,lS]
  refine tkQ 12 qd12 ?_;try simp only [Act.put,lA,lZ,lS]
  refine tkQ 13 qd13 ?_;try simp only [Act.put,lA,lZ,lS]
  refine tkQ 14 qd14 ?_;try simp only [Act.put,lA,lZ,lS]
  refine tkQ 15 qd15 ?_;try simp only [Act.put,lA,lZ,lS]
  refine tkQ 16 qd16 ?_;try simp only [Act.put,lA,lZ,lS]
  refine tkQ 17 qd17 ?_;try simp only [Act.put,lA,lZ,lS]
  refine tkQ 18 qd18 ?_;try simp only [Act.put,lA,lZ,lS]
  refine tkQ 19 qd19 ?_;try simp only [Act.put,lA,lZ,lS]
  refine tkQ 20 qd20 ?_;try simp only [Act.put,lA,lZ,lS]
  refine tkQ 21 qd21 ?_;try simp only [Act.put,lA,lZ,lS]
  refine wpAnyH_ready (rs:=[22]) (by kernel_rfl) (by simp) ?_;refine AllReadyH.cons (o:=qd22) rfl (fun K hK=>?_) AllReadyH.nil;go_simp
  refine hK.out _ _ (by assumption) (fun hHeld=>?_);clear hK K;try simp only [Act.put,lA,lZ,lS]
  refine wpAnyH_ready (rs:=[23]) (by kernel_rfl) (by simp) ?_;refine AllReadyH.cons (o:=qd23) rfl (fun K hK=>?_) AllReadyH.nil;go_simp
  refine hK.out _ _ (by assumption) (fun hHeld=>?_);clear hK K;try simp only [Act.put,lA,lZ,lS]
  refine wpAnyH_done (by kernel_rfl) ?_ _;go_wp2;go_ret2
  exact ⟨by simp,hBa.drew⟩
 ·skip
  go_enter Tryz.func54,Tryz.ntmps54;go_upto_region 1 with fail
  generalize (w.alloc (.cells (nd20 x).toArray 45))=W0 at *;have a0:W0.cell? ⟨w.heap.size,0,none⟩=some (.int .i64 4):=by rw [←hk];exact pA.2.1 0 _ rfl
  go_upto_region 9 with fail
  clear a0;refine wp_region_held_drew (S:=NdR4 w.heap.size x) (by kernel_rfl) (NdR4_mk hk (AtL.drew pA)) (fun hHeld=>?_);refine wpAnyH_take (i:=0) (oi:=qd0) (v:=.agg (nd20 x).toArray) rfl (by kernel_rfl) (by kernel_rfl) (by kernel_rfl) (fun _ _ _ h=>h) (yieldsIf_load_mid (by rfl) 45 (.tmp 1) rfl w.heap.size 0 rfl (nd20 x) _ (fun w h=>h.1) Tryz.underlying45 rfl (by kernel_rfl)) (by assumption) ?_;try simp only [Act.put,lA,lZ,lS]
  refine tkQ 1 qd1 ?_;try simp only [Act.put,lA,lZ,lS]
  refine tkQ 2 qd2 ?_;try simp only [Act.put,lA,lZ,lS]
  refine tkQ 3 qd3 ?_;try simp only [Act.put,lA,lZ,lS]
  refine tkQ 4 qd4 ?_;try simp only [Act.put,lA,lZ,lS]
  refine tkQ 5 qd5 ?_;try simp only [Act.put,lA,lZ,lS]
  refine tkQ 6 qd6 ?_;try simp only [Act.put,lA,lZ,lS]
  refine tkQ 7 qd7 ?_;try simp only [Act.put,lA,lZ,lS]
  refine tkQ 8 qd8 ?_;try simp only [Act.put,lA,lZ,lS]
  refine tkQ 9 qd9 ?_;try simp only [Act.put,lA,lZ,lS]
  refine tkQ 10 qd10 ?_;try simp only [Act.put,lA,lZ,lS]
  refine tkQ 11 qd11 ?_;try simp only [Act.put,lA,lZ,lS]
  refine tkQ 12 qd12 ?_;try simp only [Act.put,lA,lZ,lS]
  refine tkQ 13 qd13 ?_;try simp only [Act.put,lA,lZ,lS]
  refine tkQ 14 qd14 ?_;try simp only [Act.put,lA,lZ,lS]
  refine tkQ 15 qd15 ?_;try simp only [Act.put,lA,lZ,lS]
  refine tkQ 16 qd16 ?_;try simp only [Act.put,lA,lZ,lS]
  refine tkQ 17 qd17 ?_;try simp only [Act.put,lA,lZ,lS]
  refine tkQ 18 qd18 ?_;try simp only [Act.put,lA,lZ,lS]
  refine tkQ 19 qd19 ?_;try simp only [Act.put,lA,lZ,lS]
  refine tkQ 20 qd20 ?_;try simp only [Act.put,lA,lZ,lS]
  refine tkQ 21 qd21 ?_;try simp only [Act.put,lA,lZ,lS]
  refine wpAnyH_ready (rs:=[22]) (by kernel_rfl) (by simp) ?_;refine AllReadyH.cons (o:=qd22) rfl (fun K hK=>?_) AllReadyH.nil;go_simp
  refine hK.out _ _ (by assumption) (fun hHeld=>?_);clear hK K;try simp only [Act.put,lA,lZ,lS]
  refine wpAnyH_ready (rs:=[23]) (by kernel_rfl) (by simp) ?_;refine AllReadyH.cons (o:=qd23) rfl (fun K hK=>?_) AllReadyH.nil;go_simp
  refine hK.out _ _ (by assumption) (fun hHeld=>?_);clear hK K;try simp only [Act.put,lA,lZ,lS]
  refine wpAnyH_done (by kernel_rfl) ?_ _;go_wp2;go_ret2
  exact ⟨by simp,hBa.drew⟩
theorem rnode_6 (x:Wt.Nd) (w:World) (hk:x.k=6) (hs:x.nm.size≤9223372036854775807) :
  Calls Tryz.prog 54 #[ndV x] w fun e w'=>e=.returned (.tuple #[.int .i64 x.ar,.bool ((Wt.fnNm x.nm && decide (0≤x.ar) && decide (x.ar≤30)) && eqN x ⟨6,Wt.v0,0,x.nm,x.ar,Wt.r0,Wt.r0⟩)])∧Below w.heap.size w w':=by
 have hq:∀ w:World,(binOp .eql 45 (.agg (nd20 x).toArray) (.agg #[.int .i64 6,.int .i64 0,.int .i64 0,.int .i64 0,.string ⟨#[]⟩,.bool false,.int .i64 0,.int .i64 0,.string x.nm,.int .i64 x.ar,.string ⟨#[]⟩,.int .i64 0,.int .i64 0,.bool false,.bool false,.string ⟨#[]⟩,.int .i64 0,.int .i64 0,.bool false,.bool false])).run Tryz.prog w=.ok (.bool (eqN x ⟨6,Wt.v0,0,x.nm,x.ar,Wt.r0,Wt.r0⟩)) w:=fun w=>eqN_run x ⟨6,Wt.v0,0,x.nm,x.ar,Wt.r0,Wt.r0⟩ w
 generalize eqN x ⟨6,Wt.v0,0,x.nm,x.ar,Wt.r0,Wt.r0⟩=R at *;have C:=fun w=>fnNm_any x.nm w hs
 generalize Wt.fnNm x.nm=q at *;have pA:AtL (w.alloc (.cells (nd20 x).toArray 45)) w.heap.size (nd20 x):=AtL.new0 w _ _;have hBa:Below w.heap.size w (w.alloc (.cells (nd20 x).toArray 45)):=ball (Below.refl _ w) _;show Calls _ _ #[.agg (nd20 x).toArray] _ _
 cases R
 ·clear C;go_enter Tryz.func54,Tryz.ntmps54;go_upto_region 1 with fail
  generalize (w.alloc (.cells (nd20 x).toArray 45))=W0 at *;have a0:W0.cell? ⟨w.heap.size,0,none⟩=some (.int .i64 6):=by rw [←hk];exact pA.2.1 0 _ rfl
  go_upto_region 13 with fail
  clear a0;refine wp_region_held_drew (S:=NdR6 w.heap.size x) (by kernel_rfl) (NdR6_mk hk (AtL.drew pA)) (fun hHeld=>?_);refine tkQ 0 qd24 ?_;try simp only [Act.put,lA,lZ,lS]
  refine tkQ 1 qd25 ?_;try simp only [Act.put,lA,lZ,lS]
  refine wpAnyH_take (i:=2) (oi:=qd26) (v:=.agg (nd20 x).toArray) rfl (by kernel_rfl) (by kernel_rfl) (by kernel_rfl) (fun _ _ _ h=>h) (yieldsIf_load_mid (by rfl) 45 (.tmp 1) rfl w.heap.size 0 rfl (nd20 x) _ (fun w h=>h.1) Tryz.underlying45 rfl (by kernel_rfl)) (by assumption) ?_;try simp only [Act.put,lA,lZ,lS]
  refine tkQ 3 qd27 ?_;try simp only [Act.put,lA,lZ,lS]
  refine tkQ 4 qd28 ?_;try simp only [Act.put,lA,lZ,lS]
  refine tkQ 5 qd29 ?_;try simp only [Act.put,lA,lZ,lS]
  refine tkQ 6 qd30 ?_;try simp only [Act.put,lA,lZ,lS]
  refine tkQ 7 qd31 ?_;try simp only [Act.put,lA,lZ,lS]
  refine tkQ 8 qd32 ?_;try simp only [Act.put,lA,lZ,lS]
  refine tkQ 9 qd33 ?_;try simp only [Act.put,lA,lZ,lS]
  refine tkQ 10 qd34 ?_;try simp only [Act.put,lA,lZ,lS]
  refine tkQ 11 qd35 ?_;try simp only [Act.put,lA,lZ,lS]
  refine tnQ 12 qd36 ?_;try simp only [Act.put,lA,lZ,lS]
  refine tnQ 13 qd37 ?_;try simp only [Act.put,lA,lZ,lS]
  refine tnQ 14 qd38 ?_;try simp only [Act.put,lA,lZ,lS]
  refine tkQ 15 qd39 ?_;try simp only [Act.put,lA,lZ,lS]
  refine tkQ 16 qd40 ?_;try simp only [Act.put,lA,lZ,lS]
  refine tnQ 17 qd41 ?_;try simp only [Act.put,lA,lZ,lS]
  refine tnQ 18 qd42 ?_;try simp only [Act.put,lA,lZ,lS]
  refine tnQ 19 qd43 ?_;try simp only [Act.put,lA,lZ,lS]
  refine tkQ 20 qd44 ?_;try simp only [Act.put,lA,lZ,lS]
  refine tkQ 21 qd45 ?_;try simp only [Act.put,lA,lZ,lS]
  refine tnQ 22 qd46 ?_;try simp only [Act.put,lA,lZ,lS]
  refine tnQ 23 qd47 ?_;try simp only [Act.put,lA,lZ,lS]
  refine tnQ 24 qd48 ?_;try simp only [Act.put,lA,lZ,lS]
  refine tkQ 25 qd49 ?_;try simp only [Act.put,lA,lZ,lS]
  refine wpAnyH_ready (rs:=[26]) (by kernel_rfl) (by simp) ?_;refine AllReadyH.cons (o:=qd50) rfl (fun K hK=>?_) AllReadyH.nil;go_simp
  refine hK.out _ _ (by assumption) (fun hHeld=>?_);clear hK K;try simp only [Act.put,lA,lZ,lS]
  refine wpAnyH_ready (rs:=[27]) (by kernel_rfl) (by simp) ?_;refine AllReadyH.cons (o:=qd51) rfl (fun K hK=>?_) AllReadyH.nil;go_simp
  refine hK.out _ _ (by assumption) (fun hHeld=>?_);clear hK K;try simp only [Act.put,lA,lZ,lS]
  refine wpAnyH_done (by kernel_rfl) ?_ _;go_wp2;go_ret2
  exact ⟨by simp,hBa.drew⟩
 cases q
 ·skip
  go_enter Tryz.func54,Tryz.ntmps54;go_upto_region 1 with fail
  generalize (w.alloc (.cells (nd20 x).toArray 45))=W0 at *;have a0:W0.cell? ⟨w.heap.size,0,none⟩=some (.int .i64 6):=by rw [←hk];exact pA.2.1 0 _ rfl
  go_upto_region 13 with fail
  clear a0;refine wp_region_held_drew (S:=NdR6 w.heap.size x) (by kernel_rfl) (NdR6_mk hk (AtL.drew pA)) (fun hHeld=>?_);refine tkQ 0 qd24 ?_;try simp only [Act.put,lA,lZ,lS]
  refine tkQ 1 qd25 ?_;try simp only [Act.put,lA,lZ,lS]
  refine wpAnyH_take (i:=2) (oi:=qd26) (v:=.agg (nd20 x).toArray) rfl (by kernel_rfl) (by kernel_rfl) (by kernel_rfl) (fun _ _ _ h=>h) (yieldsIf_load_mid (by rfl) 45 (.tmp 1) rfl w.heap.size 0 rfl (nd20 x) _ (fun w h=>h.1) Tryz.underlying45 rfl (by kernel_rfl)) (by assumption) ?_;try simp only [Act.put,lA,lZ,lS]
  refine tkQ 3 qd27 ?_;try simp only [Act.put,lA,lZ,lS]
  refine tkQ 4 qd28 ?_;try simp only [Act.put,lA,lZ,lS]
  refine tkQ 5 qd29 ?_;try simp only [Act.put,lA,lZ,lS]
  refine tkQ 6 qd30 ?_;try simp only [Act.put,lA,lZ,lS]
  refine tkQ 7 qd31 ?_;try simp only [Act.put,lA,lZ,lS]
  refine tkQ 8 qd32 ?_;try simp only [Act.put,lA,lZ,lS]
  refine tkQ 9 qd33 ?_;try simp only [Act.put,lA,lZ,lS]
  refine tkQ 10 qd34 ?_;try simp only [Act.put,lA,lZ,lS]
  refine tkQ 11 qd35 ?_;try simp only [Act.put,lA,lZ,lS]
  refine tkQ 12 qd36 ?_;try simp only [Act.put,lA,lZ,lS]
  refine tkQ 13 qd37 ?_;try simp only [Act.put,lA,lZ,lS]
  refine wpAnyH_ready (rs:=[14]) (by kernel_rfl) (by simp) ?_;refine AllReadyH.cons (o:=qd38) rfl (fun K hK=>?_) AllReadyH.nil;go_simp
  refine (C _).mono ?_;rintro e w1 ⟨rfl,rfl⟩;go_wp2_with fail
  refine hK.out _ _ (by assumption) (fun hHeld=>?_);clear hK K;try simp only [Act.put,lA,lZ,lS]
  refine tkQ 15 qd39 ?_;try simp only [Act.put,lA,lZ,lS]
  refine tkQ 16 qd40 ?_;try simp only [Act.put,lA,lZ,lS]
  refine tnQ 17 qd41 ?_;try simp only [Act.put,lA,lZ,lS]
  refine tnQ 18 qd42 ?_;try simp only [Act.put,lA,lZ,lS]
  refine tnQ 19 qd43 ?_;try simp only [Act.put,lA,lZ,lS]
  refine tkQ 20 qd44 ?_;try simp only [Act.put,lA,lZ,lS]
  refine tkQ 21 qd45 ?_;try simp only [Act.put,lA,lZ,lS]
  refine tnQ 22 qd46 ?_;try simp only [Act.put,lA,lZ,lS]
  refine tnQ 23 qd47 ?_;try simp only [Act.put,lA,lZ,lS]
  refine tnQ 24 qd48 ?_;try simp only [Act.put,lA,lZ,lS]
  refine tkQ 25 qd49 ?_;try simp only [Act.put,lA,lZ,lS]
  refine wpAnyH_ready (rs:=[26]) (by kernel_rfl) (by simp) ?_;refine AllReadyH.cons (o:=qd50) rfl (fun K hK=>?_) AllReadyH.nil;go_simp
  refine hK.out _ _ (by assumption) (fun hHeld=>?_);clear hK K;try simp only [Act.put,lA,lZ,lS]
  refine wpAnyH_ready (rs:=[27]) (by kernel_rfl) (by simp) ?_;refine AllReadyH.cons (o:=qd51) rfl (fun K hK=>?_) AllReadyH.nil;go_simp
  refine hK.out _ _ (by assumption) (fun hHeld=>?_);clear hK K;try simp only [Act.put,lA,lZ,lS]
  refine wpAnyH_done (by kernel_rfl) ?_ _;go_wp2;go_ret2
  exact ⟨by simp,hBa.drew⟩
 by_cases g0:0≤x.ar
 ·by_cases g1:x.ar≤30
  ·skip
   go_enter Tryz.func54,Tryz.ntmps54;go_upto_region 1 with fail
   generalize (w.alloc (.cells (nd20 x).toArray 45))=W0 at *;have a0:W0.cell? ⟨w.heap.size,0,none⟩=some (.int .i64 6):=by rw [←hk];exact pA.2.1 0 _ rfl
   go_upto_region 13 with fail
   clear a0;refine wp_region_held_drew (S:=NdR6 w.heap.size x) (by kernel_rfl) (NdR6_mk hk (AtL.drew pA)) (fun hHeld=>?_);refine tkQ 0 qd24 ?_;try simp only [Act.put,lA,lZ,lS]
   refine tkQ 1 qd25 ?_;try simp only [Act.put,lA,lZ,lS]
   refine wpAnyH_take (i:=2) (oi:=qd26) (v:=.agg (nd20 x).toArray) rfl (by kernel_rfl) (by kernel_rfl) (by kernel_rfl) (fun _ _ _ h=>h) (yieldsIf_load_mid (by rfl) 45 (.tmp 1) rfl w.heap.size 0 rfl (nd20 x) _ (fun w h=>h.1) Tryz.underlying45 rfl (by kernel_rfl)) (by assumption) ?_;try simp only [Act.put,lA,lZ,lS]
   refine tkQ 3 qd27 ?_;try simp only [Act.put,lA,lZ,lS]
   refine tkQ 4 qd28 ?_;try simp only [Act.put,lA,lZ,lS]
   refine tkQ 5 qd29 ?_;try simp only [Act.put,lA,lZ,lS]
   refine tkQ 6 qd30 ?_;try simp only [Act.put,lA,lZ,lS]
   refine tkQ 7 qd31 ?_;try simp only [Act.put,lA,lZ,lS]
   refine tkQ 8 qd32 ?_;try simp only [Act.put,lA,lZ,lS]
   refine tkQ 9 qd33 ?_;try simp only [Act.put,lA,lZ,lS]
   refine tkQ 10 qd34 ?_;try simp only [Act.put,lA,lZ,lS]
   refine tkQ 11 qd35 ?_;try simp only [Act.put,lA,lZ,lS]
   refine tkQ 12 qd36 ?_;try simp only [Act.put,lA,lZ,lS]
   refine tkQ 13 qd37 ?_;try simp only [Act.put,lA,lZ,lS]
   refine wpAnyH_ready (rs:=[14]) (by kernel_rfl) (by simp) ?_;refine AllReadyH.cons (o:=qd38) rfl (fun K hK=>?_) AllReadyH.nil;go_simp
   refine (C _).mono ?_;rintro e w1 ⟨rfl,rfl⟩;go_wp2_with fail
   refine hK.out _ _ (by assumption) (fun hHeld=>?_);clear hK K;try simp only [Act.put,lA,lZ,lS]
   refine tkQ 15 qd39 ?_;try simp only [Act.put,lA,lZ,lS]
   refine tkQ 16 qd40 ?_;try simp only [Act.put,lA,lZ,lS]
   refine tkQ 17 qd41 ?_;try simp only [Act.put,lA,lZ,lS]
   refine tkQ 18 qd42 ?_;try simp only [Act.put,lA,lZ,lS]
   refine tkQ 19 qd43 ?_;try simp only [Act.put,lA,lZ,lS]
   refine tkQ 20 qd44 ?_;try simp only [Act.put,lA,lZ,lS]
   refine tkQ 21 qd45 ?_;try simp only [Act.put,lA,lZ,lS]
   refine tkQ 22 qd46 ?_;try simp only [Act.put,lA,lZ,lS]
   refine tkQ 23 qd47 ?_;try simp only [Act.put,lA,lZ,lS]
   refine tkQ 24 qd48 ?_;try simp only [Act.put,lA,lZ,lS]
   refine tkQ 25 qd49 ?_;try simp only [Act.put,lA,lZ,lS]
   refine wpAnyH_ready (rs:=[26]) (by kernel_rfl) (by simp) ?_;refine AllReadyH.cons (o:=qd50) rfl (fun K hK=>?_) AllReadyH.nil;go_simp
   refine hK.out _ _ (by assumption) (fun hHeld=>?_);clear hK K;try simp only [Act.put,lA,lZ,lS]
   refine wpAnyH_ready (rs:=[27]) (by kernel_rfl) (by simp) ?_;refine AllReadyH.cons (o:=qd51) rfl (fun K hK=>?_) AllReadyH.nil;go_simp
   refine hK.out _ _ (by assumption) (fun hHeld=>?_);clear hK K;try simp only [Act.put,lA,lZ,lS]
   refine wpAnyH_done (by kernel_rfl) ?_ _;go_wp2;go_ret2
   exact ⟨by simp [g0,g1],hBa.drew⟩
  ·skip
   go_enter Tryz.func54,Tryz.ntmps54;go_upto_region 1 with fail
   generalize (w.alloc (.cells (nd20 x).toArray 45))=W0 at *;have a0:W0.cell? ⟨w.heap.size,0,none⟩=some (.int .i64 6):=by rw [←hk];exact pA.2.1 0 _ rfl
   go_upto_region 13 with fail
   clear a0;refine wp_region_held_drew (S:=NdR6 w.heap.size x) (by kernel_rfl) (NdR6_mk hk (AtL.drew pA)) (fun hHeld=>?_);refine tkQ 0 qd24 ?_;try simp only [Act.put,lA,lZ,lS]
   refine tkQ 1 qd25 ?_;try simp only [Act.put,lA,lZ,lS]
   refine wpAnyH_take (i:=2) (oi:=qd26) (v:=.agg (nd20 x).toArray) rfl (by kernel_rfl) (by kernel_rfl) (by kernel_rfl) (fun _ _ _ h=>h) (yieldsIf_load_mid (by rfl) 45 (.tmp 1) rfl w.heap.size 0 rfl (nd20 x) _ (fun w h=>h.1) Tryz.underlying45 rfl (by kernel_rfl)) (by assumption) ?_;try simp only [Act.put,lA,lZ,lS]
   refine tkQ 3 qd27 ?_;try simp only [Act.put,lA,lZ,lS]
   refine tkQ 4 qd28 ?_;try simp only [Act.put,lA,lZ,lS]
   refine tkQ 5 qd29 ?_;try simp only [Act.put,lA,lZ,lS]
   refine tkQ 6 qd30 ?_;try simp only [Act.put,lA,lZ,lS]
   refine tkQ 7 qd31 ?_;try simp only [Act.put,lA,lZ,lS]
   refine tkQ 8 qd32 ?_;try simp only [Act.put,lA,lZ,lS]
   refine tkQ 9 qd33 ?_;try simp only [Act.put,lA,lZ,lS]
   refine tkQ 10 qd34 ?_;try simp only [Act.put,lA,lZ,lS]
   refine tkQ 11 qd35 ?_;try simp only [Act.put,lA,lZ,lS]
   refine tkQ 12 qd36 ?_;try simp only [Act.put,lA,lZ,lS]
   refine tkQ 13 qd37 ?_;try simp only [Act.put,lA,lZ,lS]
   refine wpAnyH_ready (rs:=[14]) (by kernel_rfl) (by simp) ?_;refine AllReadyH.cons (o:=qd38) rfl (fun K hK=>?_) AllReadyH.nil;go_simp
   refine (C _).mono ?_;rintro e w1 ⟨rfl,rfl⟩;go_wp2_with fail
   refine hK.out _ _ (by assumption) (fun hHeld=>?_);clear hK K;try simp only [Act.put,lA,lZ,lS]
   refine tkQ 15 qd39 ?_;try simp only [Act.put,lA,lZ,lS]
   refine tkQ 16 qd40 ?_;try simp only [Act.put,lA,lZ,lS]
   refine tkQ 17 qd41 ?_;try simp only [Act.put,lA,lZ,lS]
   refine tkQ 18 qd42 ?_;try simp only [Act.put,lA,lZ,lS]
   refine tkQ 19 qd43 ?_;try simp only [Act.put,lA,lZ,lS]
   refine tkQ 20 qd44 ?_;try simp only [Act.put,lA,lZ,lS]
   refine tkQ 21 qd45 ?_;try simp only [Act.put,lA,lZ,lS]
   refine tkQ 22 qd46 ?_;try simp only [Act.put,lA,lZ,lS]
   refine tkQ 23 qd47 ?_;try simp only [Act.put,lA,lZ,lS]
   refine tkQ 24 qd48 ?_;try simp only [Act.put,lA,lZ,lS]
   refine tkQ 25 qd49 ?_;try simp only [Act.put,lA,lZ,lS]
   refine wpAnyH_ready (rs:=[26]) (by kernel_rfl) (by simp) ?_;refine AllReadyH.cons (o:=qd50) rfl (fun K hK=>?_) AllReadyH.nil;go_simp
   refine hK.out _ _ (by assumption) (fun hHeld=>?_);clear hK K;try simp only [Act.put,lA,lZ,lS]
   refine wpAnyH_ready (rs:=[27]) (by kernel_rfl) (by simp) ?_;refine AllReadyH.cons (o:=qd51) rfl (fun K hK=>?_) AllReadyH.nil;go_simp
   refine hK.out _ _ (by assumption) (fun hHeld=>?_);clear hK K;try simp only [Act.put,lA,lZ,lS]
   refine wpAnyH_done (by kernel_rfl) ?_ _;go_wp2;go_ret2
   exact ⟨by simp [g0],hBa.drew⟩
 ·have g0d:decide (0≤x.ar)=false:=decide_eq_false g0;go_enter Tryz.func54,Tryz.ntmps54;go_upto_region 1 with fail
  generalize (w.alloc (.cells (nd20 x).toArray 45))=W0 at *;have a0:W0.cell? ⟨w.heap.size,0,none⟩=some (.int .i64 6):=by rw [←hk];exact pA.2.1 0 _ rfl
  go_upto_region 13 with fail
  clear a0;refine wp_region_held_drew (S:=NdR6 w.heap.size x) (by kernel_rfl) (NdR6_mk hk (AtL.drew pA)) (fun hHeld=>?_);refine tkQ 0 qd24 ?_;try simp only [Act.put,lA,lZ,lS]
  refine tkQ 1 qd25 ?_;try simp only [Act.put,lA,lZ,lS]
  refine wpAnyH_take (i:=2) (oi:=qd26) (v:=.agg (nd20 x).toArray) rfl (by kernel_rfl) (by kernel_rfl) (by kernel_rfl) (fun _ _ _ h=>h) (yieldsIf_load_mid (by rfl) 45 (.tmp 1) rfl w.heap.size 0 rfl (nd20 x) _ (fun w h=>h.1) Tryz.underlying45 rfl (by kernel_rfl)) (by assumption) ?_;try simp only [Act.put,lA,lZ,lS]
  refine tkQ 3 qd27 ?_;try simp only [Act.put,lA,lZ,lS]
  refine tkQ 4 qd28 ?_;try simp only [Act.put,lA,lZ,lS]
  refine tkQ 5 qd29 ?_;try simp only [Act.put,lA,lZ,lS]
  refine tkQ 6 qd30 ?_;try simp only [Act.put,lA,lZ,lS]
  refine tkQ 7 qd31 ?_;try simp only [Act.put,lA,lZ,lS]
  refine tkQ 8 qd32 ?_;try simp only [Act.put,lA,lZ,lS]
  refine tkQ 9 qd33 ?_;try simp only [Act.put,lA,lZ,lS]
  refine tkQ 10 qd34 ?_;try simp only [Act.put,lA,lZ,lS]
  refine tkQ 11 qd35 ?_;try simp only [Act.put,lA,lZ,lS]
  refine tkQ 12 qd36 ?_;try simp only [Act.put,lA,lZ,lS]
  refine tkQ 13 qd37 ?_;try simp only [Act.put,lA,lZ,lS]
  refine wpAnyH_ready (rs:=[14]) (by kernel_rfl) (by simp) ?_;refine AllReadyH.cons (o:=qd38) rfl (fun K hK=>?_) AllReadyH.nil;go_simp
  refine (C _).mono ?_;rintro e w1 ⟨rfl,rfl⟩;go_wp2_with fail
  refine hK.out _ _ (by assumption) (fun hHeld=>?_);clear hK K;try simp only [Act.put,lA,lZ,lS]
  refine tkQ 15 qd39 ?_;try simp only [Act.put,lA,lZ,lS]
  refine tkQ 16 qd40 ?_;try simp only [Act.put,lA,lZ,lS]
  refine tkQ 17 qd41 ?_;try simp only [Act.put,lA,lZ,lS]
  refine tkQ 18 qd42 ?_;try simp only [Act.put,lA,lZ,lS]
  refine tkQ 19 qd43 ?_;try simp only [Act.put,lA,lZ,lS]
  refine tkQ 20 qd44 ?_;try simp only [Act.put,lA,lZ,lS]
  refine tkQ 21 qd45 ?_;try simp only [Act.put,lA,lZ,lS]
  refine tnQ 22 qd46 ?_;try simp only [Act.put,lA,lZ,lS]
  refine tnQ 23 qd47 ?_;try simp only [Act.put,lA,lZ,lS]
  refine tnQ 24 qd48 ?_;try simp only [Act.put,lA,lZ,lS]
  refine tkQ 25 qd49 ?_;try simp only [Act.put,lA,lZ,lS]
  refine wpAnyH_ready (rs:=[26]) (by kernel_rfl) (by simp) ?_;refine AllReadyH.cons (o:=qd50) rfl (fun K hK=>?_) AllReadyH.nil;go_simp
  refine hK.out _ _ (by assumption) (fun hHeld=>?_);clear hK K;try simp only [Act.put,lA,lZ,lS]
  refine wpAnyH_ready (rs:=[27]) (by kernel_rfl) (by simp) ?_;refine AllReadyH.cons (o:=qd51) rfl (fun K hK=>?_) AllReadyH.nil;go_simp
  refine hK.out _ _ (by assumption) (fun hHeld=>?_);clear hK K;try simp only [Act.put,lA,lZ,lS]
  refine wpAnyH_done (by kernel_rfl) ?_ _;go_wp2;go_ret2
  exact ⟨by simp;omega,hBa.drew⟩
end Go.Proofs.YtlggnpohhahdlaaGreatDoor
