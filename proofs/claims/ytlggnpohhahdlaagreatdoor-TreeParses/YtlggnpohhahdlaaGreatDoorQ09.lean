/- LRep, LPlainB, LSaid, LScan, LText, TState. -/
import Derived.Test.YtlggnpohhahdlaaGreatDoorQ08
import Derived.Shelf.Strings.Replace
import Derived.Shelf.LaysM
import Derived.Ground.NamesProg
import Derived.OwnWalk
import Derived.Laws.OwnMore
import Derived.WalkSmall
import Derived.Shelf.Strings.BuilderK
import Derived.Deep.LoopGhost
import Derived.Laws.AppendOwn
import Derived.Laws.Slices
set_option maxHeartbeats 400000
set_option maxRecDepth 100000
namespace Go.Proofs.YtlggnpohhahdlaaGreatDoor
open Go.Shelf Go.RowKit
set_option linter.unusedVariables false
def lays155_ren:Go.Shelf.Ren:=⟨fun | 155=>59 | 154=>90 | 138=>117 | 165=>118 | 143=>119 | 166=>46 | 197=>120 | 169=>28 | 195=>141 | 218=>142 | 240=>73 | 241=>143 | 219=>144 | 260=>145 | 276=>100 | 277=>161 | 217=>162 | 225=>163 | 224=>164 | 267=>165 | 266=>182 | 314=>183 | n=>n,fun | 9=>9 | 3=>3 | 4=>4 | 72=>65 | 0=>0 | 76=>90 | 105=>152 | 21=>21 | 5=>5 | 70=>62 | 20=>20 | 37=>63 | 75=>89 | 127=>92 | 164=>138 | 46=>174 | 119=>175 | 139=>178 | 138=>177 | 146=>187 | 51=>186 | 80=>69 | n=>n,fun | 1=>2 | 3=>3 | 4=>4 | n=>n⟩
theorem lays155:Go.Proofs.LaysM.n155 Tryz.prog lays155_ren:={
 mixed:=by kernel_rfl
 f138:=Tryz.func117.trans (congrArg some (by kernel_rfl))
 f143:=Tryz.func119.trans (congrArg some (by kernel_rfl))
 f154:=Tryz.func90.trans (congrArg some (by kernel_rfl))
 f155:=Tryz.func59.trans (congrArg some (by kernel_rfl))
 f165:=Tryz.func118.trans (congrArg some (by kernel_rfl))
 f166:=Tryz.func46.trans (congrArg some (by kernel_rfl))
 f169:=Tryz.func28.trans (congrArg some (by kernel_rfl))
 f195:=Tryz.func141.trans (congrArg some (by kernel_rfl))
 f197:=Tryz.func120.trans (congrArg some (by kernel_rfl))
 f217:=Tryz.func162.trans (congrArg some (by kernel_rfl))
 f218:=Tryz.func142.trans (congrArg some (by kernel_rfl))
 f219:=Tryz.func144.trans (congrArg some (by kernel_rfl))
 f224:=Tryz.func164.trans (congrArg some (by kernel_rfl))
 f225:=Tryz.func163.trans (congrArg some (by kernel_rfl))
 f240:=Tryz.func73.trans (congrArg some (by kernel_rfl))
 f241:=Tryz.func143.trans (congrArg some (by kernel_rfl))
 f260:=Tryz.func145.trans (congrArg some (by kernel_rfl))
 f266:=Tryz.func182.trans (congrArg some (by kernel_rfl))
 f267:=Tryz.func165.trans (congrArg some (by kernel_rfl))
 f276:=Tryz.func100.trans (congrArg some (by kernel_rfl))
 f277:=Tryz.func161.trans (congrArg some (by kernel_rfl))
 f314:=Tryz.func183.trans (congrArg some (by kernel_rfl))
 t0:=Tryz.underlying0
 a0:=Tryz.isAgg0
 z0:=Tryz.sizeOf0
 v0:=Tryz.zeroValue0
 t3:=Tryz.underlying3
 a3:=Tryz.isAgg3
 z3:=Tryz.sizeOf3
 v3:=Tryz.zeroValue3
 t4:=Tryz.underlying4
 a4:=Tryz.isAgg4
 z4:=Tryz.sizeOf4
 v4:=Tryz.zeroValue4
 t5:=Tryz.underlying5
 a5:=Tryz.isAgg5
 z5:=Tryz.sizeOf5
 v5:=Tryz.zeroValue5
 t9:=Tryz.underlying9
 a9:=Tryz.isAgg9
 z9:=Tryz.sizeOf9
 v9:=Tryz.zeroValue9
 t20:=Tryz.underlying20
 a20:=Tryz.isAgg20
 z20:=Tryz.sizeOf20
 v20:=Tryz.zeroValue20
 t21:=Tryz.underlying21
 a21:=Tryz.isAgg21
 z21:=Tryz.sizeOf21
 v21:=Tryz.zeroValue21
 t37:=Tryz.underlying63
 a37:=Tryz.isAgg63
 z37:=Tryz.sizeOf63
 v37:=Tryz.zeroValue63
 t46:=Tryz.underlying174
 a46:=Tryz.isAgg174
 z46:=Tryz.sizeOf174
 v46:=Tryz.zeroValue174
 t51:=Tryz.underlying186
 a51:=Tryz.isAgg186
 z51:=Tryz.sizeOf186
 v51:=Tryz.zeroValue186
 t70:=Tryz.underlying62
 a70:=Tryz.isAgg62
 z70:=Tryz.sizeOf62
 v70:=Tryz.zeroValue62
 t72:=Tryz.underlying65
 a72:=Tryz.isAgg65
 z72:=Tryz.sizeOf65
 v72:=Tryz.zeroValue65
 t75:=Tryz.underlying89
 a75:=Tryz.isAgg89
 z75:=Tryz.sizeOf89
 v75:=Tryz.zeroValue89
 t76:=Tryz.underlying90
 a76:=Tryz.isAgg90
 z76:=Tryz.sizeOf90
 v76:=Tryz.zeroValue90
 t105:=Tryz.underlying152
 a105:=Tryz.isAgg152
 z105:=Tryz.sizeOf152
 v105:=Tryz.zeroValue152
 t119:=Tryz.underlying175
 a119:=Tryz.isAgg175
 z119:=Tryz.sizeOf175
 t127:=Tryz.underlying92
 a127:=Tryz.isAgg92
 z127:=Tryz.sizeOf92
 v127:=Tryz.zeroValue92
 t138:=Tryz.underlying177
 a138:=Tryz.isAgg177
 z138:=Tryz.sizeOf177
 v138:=Tryz.zeroValue177
 t139:=Tryz.underlying178
 a139:=Tryz.isAgg178
 z139:=Tryz.sizeOf178
 v139:=Tryz.zeroValue178
 t146:=Tryz.underlying187
 a146:=Tryz.isAgg187
 z146:=Tryz.sizeOf187
 v146:=Tryz.zeroValue187
 t164:=Tryz.underlying138
 a164:=Tryz.isAgg138
 z164:=Tryz.sizeOf138
 v164:=Tryz.zeroValue138
 g1:=by kernel_rfl
 g3:=by kernel_rfl
 g4:=by kernel_rfl
 t80:=Tryz.underlying69
 a80:=Tryz.isAgg69
 z80:=Tryz.sizeOf69
 v80:=Tryz.zeroValue69
 i0:=by kernel_rfl
 i3:=by kernel_rfl
 i4:=by kernel_rfl
 i5:=by kernel_rfl
 i9:=by kernel_rfl
 i20:=by kernel_rfl
 i21:=by kernel_rfl
 i37:=by kernel_rfl
 i46:=by kernel_rfl
 i51:=by kernel_rfl
 i70:=by kernel_rfl
 i72:=by kernel_rfl
 i75:=by kernel_rfl
 i76:=by kernel_rfl
 i80:=by kernel_rfl
 i105:=by kernel_rfl
 i127:=by kernel_rfl
 i138:=by kernel_rfl
 i139:=by kernel_rfl
 i146:=by kernel_rfl
 i164:=by kernel_rfl
 m1:=by kernel_rfl
 s1_3:=fun w h=>Go.Proofs.cell_of_shapedOpen_int (zero:=#[.int .i64 0]) (t:=3) h (of_decide_eq_true (by kernel_rfl)) (by kernel_rfl) rfl (by kernel_rfl) (by kernel_rfl) Tryz.underlying3
 m3:=by kernel_rfl
 m4:=by kernel_rfl}
theorem extra155:Builder.Extra Tryz.prog lays155_ren:={
 sizeBuilder:=by kernel_rfl
 liesBuilder:=by kernel_rfl
 t5:=Tryz.underlying5
 a5:=Tryz.isAgg5
 z5:=Tryz.sizeOf5
 v5:=Tryz.zeroValue5
 infoByte:=by kernel_rfl
 cellsByte:=by kernel_rfl
 sizeByte:=by kernel_rfl
 neB5:=by decide}
def MaxAt (w:World):Prop:=∃ m:Int,w.cell? ⟨lays155_ren.g 1,0,none⟩=some (.int .i64 m)
theorem MaxAt.below {w w':World} (h:MaxAt w) (hb:Below w.heap.size w w'):MaxAt w':=by
 obtain ⟨m,hm⟩:=h;exact ⟨m,(hb.cell (p:=⟨lays155_ren.g 1,0,none⟩) (World.block_lt_of_cell? _ _ hm)).trans hm⟩
theorem MaxAt.shaped {w:World} (h:w.ShapedOpen Tryz.prog):MaxAt w:=lays155.s1_3 w h
def rep (old new l:List UInt8):List UInt8:=Lib.replaceK old new (Lib.count l old) l
theorem rep_hit {old new l:List UInt8} (h0:old ≠ []) (h:old.isPrefixOf l=true):rep old new l=new++rep old new (l.drop old.length):=by
 have hi:Lib.index l old=((0:Nat):Int):=by
  cases l with
  | nil=>cases old with | nil=>exact absurd rfl h0 | cons a b=>simp at h
  | cons b t=>unfold Lib.index;rw [if_pos h];rfl
 have hc:=Lib.count_hit h0 hi;unfold rep;rw [hc,Nat.add_comm,Lib.replaceK_hit _ _ _ _ 0 hi,Nat.zero_add];rfl
theorem rep_miss {old new t:List UInt8} {c:UInt8} (h0:old ≠ []) (h:old.isPrefixOf (c::t)=false):rep old new (c::t)=c::rep old new t:=by
 have hi:Lib.index (c::t) old=if Lib.index t old == -1 then -1 else Lib.index t old+1:=by
  conv=>lhs;unfold Lib.index
  rw [if_neg (by rw [h];decide)]
 unfold rep;by_cases hm:Lib.index t old = -1
 ·rw [hm,if_pos (by decide)] at hi;rw [Lib.count_miss hi,Lib.count_miss hm];rfl
 ·have hge:=Lib.index_ge t old;obtain ⟨i,hii⟩:∃ i:Nat,Lib.index t old=i:=⟨(Lib.index t old).toNat,by omega⟩
  rw [hii,if_neg (by first | (simp;done) | (simp;omega))] at hi;have hi2:Lib.index (c::t) old=((i+1:Nat):Int):=by rw [hi];omega
  have e1:=Lib.count_hit h0 hi2;have e2:=Lib.count_hit h0 hii;have e3:(c::t).drop (i+1+old.length)=t.drop (i+old.length):=by rw [show i+1+old.length=(i+old.length)+1 by omega];rfl
  rw [e3] at e1;rw [e1,e2,Nat.add_comm,Lib.replaceK_hit _ _ _ _ (i+1) hi2,Lib.replaceK_hit _ _ _ _ i hii,e3];rfl
theorem rep_nil {old new:List UInt8} (h0:old ≠ []):rep old new []=[]:=by
 unfold rep;rw [Lib.count_miss (by cases old with | nil=>exact absurd rfl h0 | cons a b=>rfl)];rfl
theorem all_rep {old new l:List UInt8} (h:(old == new)=false):Lib.replaceAll l old new=rep old new l:=by
 unfold Lib.replaceAll Lib.replace rep Lib.replaceNum;rw [if_neg (by rw [h];decide),if_pos (Or.inl (by decide))]
theorem rep_undbl:∀ (n:Nat) (l:List UInt8),l.length≤n→rep [34,34] [34] l=Wlx.undbl l:=by
 intro n;induction n with
 | zero=>intro l hl;obtain rfl:=List.eq_nil_of_length_eq_zero (Nat.le_zero.1 hl);exact rep_nil (by decide)
 | succ n ih =>
  intro l hl;match l,hl with
  | [],_=>exact rep_nil (by decide)
  | [c],_=>rw [rep_miss (by decide) (by simp [List.isPrefixOf]),rep_nil (by decide)];rfl
  | c::d::t,hl =>
   simp only [List.length_cons] at hl;have e:Wlx.undbl (c::d::t)=if c=34∧d=34 then 34::Wlx.undbl t else c::Wlx.undbl (d::t):=by conv=>lhs;unfold Wlx.undbl
   rw [e];by_cases h:c=34∧d=34
   ·obtain ⟨rfl,rfl⟩:=h;rw [rep_hit (by decide) (by simp [List.isPrefixOf]),if_pos ⟨rfl,rfl⟩];show 34::rep [34,34] [34] t=_
    rw [ih t (by omega)]
   ·rw [rep_miss (by decide) (by simp [List.isPrefixOf];intro h1 h2;exact h ⟨h1.symm,h2.symm⟩),if_neg h,ih (d::t) (by simp only [List.length_cons];omega)]
theorem rep_dbl (l:List UInt8):rep [34] [34,34] l=Wlx.dbl l:=by
 induction l with
 | nil=>exact rep_nil (by decide)
 | cons c t ih =>
  have e:Wlx.dbl (c::t)=if c=34 then 34::34::Wlx.dbl t else c::Wlx.dbl t:=rfl
  rw [e];by_cases h:c=34
  ·subst h;rw [rep_hit (by decide) (by simp [List.isPrefixOf]),if_pos rfl];show 34::34::rep [34] [34,34] t=_
   rw [ih]
  ·rw [rep_miss (by decide) (by simp [List.isPrefixOf];exact fun e=>h e.symm),if_neg h,ih]
theorem count_le_size (s old:ByteArray) (h:1≤old.size):Lib.countB s old≤s.size:=by
 have:=Lib.countB_mul_le old h s.size s (Nat.le_refl _);have h2:Lib.countB s old * 1≤Lib.countB s old * old.size:=Nat.mul_le_mul_left _ h;omega
theorem replace_two (b:ByteArray) (w:World) (hm:MaxAt w) (hs:b.size≤1048576):Calls Tryz.prog 59 #[.string b,.string ⟨#[34,34]⟩,.string ⟨#[34]⟩] w fun e w'=>e=.returned (.string ⟨(Wlx.undbl b.data.toList).toArray⟩)∧Below w.heap.size w w':=by
 obtain ⟨m,hm⟩:=hm;have c:=count_le_size b ⟨#[34,34]⟩ (by decide);have h:=Any.strings_ReplaceAll {lays155 with} extra155 b ⟨#[34,34]⟩ ⟨#[34]⟩ m w (by omega) hm (by decide) (by show b.size+_ * 1≤_;omega);rw [all_rep (by decide),rep_undbl _ _ (Nat.le_refl _)] at h;exact h
theorem replace_one (b:ByteArray) (w:World) (hm:MaxAt w) (hs:b.size≤1048576):Calls Tryz.prog 59 #[.string b,.string ⟨#[34]⟩,.string ⟨#[34,34]⟩] w fun e w'=>e=.returned (.string ⟨(Wlx.dbl b.data.toList).toArray⟩)∧Below w.heap.size w w':=by
 obtain ⟨m,hm⟩:=hm;have c:=count_le_size b ⟨#[34]⟩ (by decide);have h:=Any.strings_ReplaceAll {lays155 with} extra155 b ⟨#[34]⟩ ⟨#[34,34]⟩ m w (by omega) hm (by decide) (by show b.size+_ * 2≤_;omega);rw [all_rep (by decide),rep_dbl] at h;exact h
end Go.Proofs.YtlggnpohhahdlaaGreatDoor
namespace Wlx
theorem begins_length:∀ (p l:List UInt8),begins p l=true→p.length≤l.length
 | [],_,_=>Nat.zero_le _
 | _::_,[],h=>by simp [begins] at h
 | a::p,b::t,h=>by
  simp only [begins,Bool.and_eq_true] at h;have:=begins_length p t h.2;simp only [List.length_cons];omega
theorem nameSz_le (l:List UInt8) (ns:List (List UInt8)):nameSz l ns≤l.length:=by
 induction ns with
 | nil=>exact Nat.zero_le _
 | cons n r ih =>
  unfold nameSz;split
  ·rename_i h;exact begins_length n l h
  ·exact ih
theorem quo_le:∀ (l:List UInt8) (w:Bool) (i:Nat),quo w i l≤i+l.length
 | [],w,i=>by unfold quo;split <;> simp
 | c::t,w,i=>by
  unfold quo;split
  ·have:=quo_le t (!w) (i+1);simp only [List.length_cons];omega
  ·split
   ·have:=quo_le t w (i+1);simp only [List.length_cons];omega
   ·omega
theorem numTl_le (n:Nat) (l:List UInt8):numTl n l≤n+l.length:=by
 cases l with
 | nil=>exact Nat.le_refl _
 | cons c t =>
  rw [numTl_cons];have:=runP_le dig t;split <;> simp only [List.length_cons] <;> omega
theorem numSz_le (l:List UInt8):numSz l≤l.length:=by
 unfold numSz;split
 ·exact Nat.zero_le _
 ·have h1:=numTl_le (runP dig l) (l.drop (runP dig l));have h2:=runP_le dig l;rw [List.length_drop] at h1;omega
theorem txtSz_le (l:List UInt8):txtSz l≤l.length:=by
 cases l with
 | nil=>exact Nat.zero_le _
 | cons c t =>
  show (if c=34 then quo true 1 t else 0)≤_
  split
  ·have:=quo_le t true 1;simp only [List.length_cons];omega
  ·exact Nat.zero_le _
theorem sz_le (k:Nat) (l:List UInt8):sz k l≤l.length:=by
 unfold sz;split
 ·exact numSz_le l
 split
 ·exact txtSz_le l
 split
 ·exact runP_le _ l
 split
 ·exact nameSz_le l _
 split
 ·exact nameSz_le l _
 exact Nat.zero_le _
def hit (l:List UInt8):Nat :=
 if 0<sz 1 l then 1 else if 0<sz 2 l then 2 else if 0<sz 3 l then 3 else if 0<sz 4 l then 4 else if 0<sz 5 l then 5 else 6
theorem hit_pos {l:List UInt8} (h:¬ hit l=6):0<sz (hit l) l:=by
 unfold hit at *;repeat' split
 all_goals first | assumption | (exfalso;apply h;simp_all)
theorem hit_low (l:List UInt8):1≤hit l:=by unfold hit;(repeat' split) <;> omega
theorem hit_high (l:List UInt8):hit l≤6:=by unfold hit;(repeat' split) <;> omega
theorem hit_first {l:List UInt8} {k:Nat} (h0:1≤k) (h5:k≤5) (h:0<sz k l) (hb:∀ j,1≤j→j<k→sz j l=0):hit l=k:=by
 have:k=1 ∨ k=2 ∨ k=3 ∨ k=4 ∨ k=5:=by omega
 unfold hit;rcases this with rfl | rfl | rfl | rfl | rfl
 ·rw [if_pos h]
 ·rw [hb 1 (by omega) (by omega),if_neg (by omega),if_pos h]
 ·rw [hb 1 (by omega) (by omega),if_neg (by omega),hb 2 (by omega) (by omega),if_neg (by omega),if_pos h]
 ·rw [hb 1 (by omega) (by omega),if_neg (by omega),hb 2 (by omega) (by omega),if_neg (by omega),hb 3 (by omega) (by omega),if_neg (by omega),if_pos h]
 ·rw [hb 1 (by omega) (by omega),if_neg (by omega),hb 2 (by omega) (by omega),if_neg (by omega),hb 3 (by omega) (by omega),if_neg (by omega),hb 4 (by omega) (by omega),if_neg (by omega),if_pos h]
theorem hit_none {l:List UInt8} (hb:∀ j,1≤j→j≤5→sz j l=0):hit l=6:=by
 unfold hit;rw [hb 1 (by omega) (by omega),if_neg (by omega),hb 2 (by omega) (by omega),if_neg (by omega),hb 3 (by omega) (by omega),if_neg (by omega),hb 4 (by omega) (by omega),if_neg (by omega),hb 5 (by omega) (by omega),if_neg (by omega)]
structure Tok where
 k:Nat
 t:List UInt8
 p:Nat
abbrev Res:=Sum (List Tok) (Nat × Nat)
abbrev Res.ok (ts:List Tok):Res:=.inl ts
abbrev Res.err (e p:Nat):Res:=.inr (e,p)
def Res.cons (t:Tok):Res→Res
 | .inl ts=>.inl (t::ts)
 | .inr x=>.inr x
def Res.pre:List Tok→Res→Res
 | [],r=>r
 | t::a,r=>Res.cons t (Res.pre a r)
theorem Res.pre_snoc (a:List Tok) (t:Tok) (r:Res):Res.pre (a++[t]) r=Res.pre a (Res.cons t r):=by
 induction a with
 | nil=>rfl
 | cons x a ih=>exact congrArg (Res.cons x) ih
theorem Res.pre_ok (a b:List Tok):Res.pre a (Res.ok b)=Res.ok (a++b):=by
 induction a with
 | nil=>rfl
 | cons x a ih=>show Res.cons x _=_;rw [ih];rfl
theorem Res.pre_err (a:List Tok) (e p:Nat):Res.pre a (Res.err e p)=Res.err e p:=by
 induction a with
 | nil=>rfl
 | cons x a ih=>show Res.cons x _=_;rw [ih];rfl
def scanF:Nat→Nat→List UInt8→Res
 | 0,_,_=>Res.ok []
 | _+1,_,[]=>Res.ok []
 | f+1,p,c::t =>
  if c=32 then scanF f (p+1) t
  else if hit (c::t)=6 then Res.err (if c=34 then 41 else 40) p
  else if runP prt ((c::t).take (sz (hit (c::t)) (c::t)))<sz (hit (c::t)) (c::t) then Res.err 40 (p+runP prt ((c::t).take (sz (hit (c::t)) (c::t))))
  else Res.cons ⟨hit (c::t),said (hit (c::t)) ((c::t).take (sz (hit (c::t)) (c::t))),p⟩ (scanF f (p+sz (hit (c::t)) (c::t)) ((c::t).drop (sz (hit (c::t)) (c::t))))
theorem scanF_cons (f p:Nat) (c:UInt8) (t:List UInt8):scanF (f+1) p (c::t)=if c=32 then scanF f (p+1) t
  else if hit (c::t)=6 then Res.err (if c=34 then 41 else 40) p
  else if runP prt ((c::t).take (sz (hit (c::t)) (c::t)))<sz (hit (c::t)) (c::t) then Res.err 40 (p+runP prt ((c::t).take (sz (hit (c::t)) (c::t))))
  else Res.cons ⟨hit (c::t),said (hit (c::t)) ((c::t).take (sz (hit (c::t)) (c::t))),p⟩ (scanF f (p+sz (hit (c::t)) (c::t)) ((c::t).drop (sz (hit (c::t)) (c::t)))):=rfl
theorem scanF_nil (f p:Nat):scanF f p []=Res.ok []:=by cases f <;> rfl
theorem scanF_any:∀ (f g p:Nat) (l:List UInt8),l.length≤f→l.length≤g→scanF f p l=scanF g p l:=by
 intro f;induction f with
 | zero =>
  intro g p l h1 h2;obtain rfl:=List.eq_nil_of_length_eq_zero (Nat.le_zero.1 h1);rw [scanF_nil,scanF_nil]
 | succ f ih =>
  intro g p l h1 h2;cases l with
  | nil=>rw [scanF_nil,scanF_nil]
  | cons c t =>
   simp only [List.length_cons] at h1 h2;obtain ⟨g,rfl⟩:∃ g',g=g'+1:=⟨g - 1,by omega⟩
   rw [scanF_cons,scanF_cons,ih g (p+1) t (by omega) (by omega)];by_cases h6:hit (c::t)=6
   ·rw [if_pos h6,if_pos h6]
   ·have:=hit_pos h6;have hl:((c::t).drop (sz (hit (c::t)) (c::t))).length≤t.length:=by
     rw [List.length_drop];simp only [List.length_cons];omega
    rw [ih g (p+sz (hit (c::t)) (c::t)) ((c::t).drop (sz (hit (c::t)) (c::t))) (by omega) (by omega)]
def scan (p:Nat) (l:List UInt8):Res:=scanF l.length p l
theorem scan_cons (p:Nat) (c:UInt8) (t:List UInt8):scan p (c::t)=if c=32 then scan (p+1) t
  else if hit (c::t)=6 then Res.err (if c=34 then 41 else 40) p
  else if runP prt ((c::t).take (sz (hit (c::t)) (c::t)))<sz (hit (c::t)) (c::t) then Res.err 40 (p+runP prt ((c::t).take (sz (hit (c::t)) (c::t))))
  else Res.cons ⟨hit (c::t),said (hit (c::t)) ((c::t).take (sz (hit (c::t)) (c::t))),p⟩ (scan (p+sz (hit (c::t)) (c::t)) ((c::t).drop (sz (hit (c::t)) (c::t)))):=by
 unfold scan;rw [List.length_cons,scanF_cons];by_cases h6:hit (c::t)=6
 ·rw [if_pos h6,if_pos h6]
 ·have:=hit_pos h6;have hl:((c::t).drop (sz (hit (c::t)) (c::t))).length≤t.length:=by
   rw [List.length_drop];simp only [List.length_cons];omega
  rw [scanF_any t.length _ (p+sz (hit (c::t)) (c::t)) ((c::t).drop (sz (hit (c::t)) (c::t))) hl (Nat.le_refl _)]
theorem scan_nil (p:Nat):scan p []=Res.ok []:=rfl
theorem scan_blank (p:Nat) (t:List UInt8):scan p (32::t)=scan (p+1) t:=by
 rw [scan_cons,if_pos rfl]
theorem scan_none {p:Nat} {c:UInt8} {t:List UInt8} (h:¬ c=32) (h6:hit (c::t)=6):scan p (c::t)=Res.err (if c=34 then 41 else 40) p:=by
 rw [scan_cons,if_neg h,if_pos h6]
theorem scan_bad {p:Nat} {c:UInt8} {t:List UInt8} (h:¬ c=32) {k n:Nat} (hk:hit (c::t)=k) (h6:¬ k=6) (hn:sz k (c::t)=n) (hb:runP prt ((c::t).take n)<n):scan p (c::t)=Res.err 40 (p+runP prt ((c::t).take n)):=by
 subst hk hn;rw [scan_cons,if_neg h,if_neg h6,if_pos hb]
theorem scan_tok {p:Nat} {c:UInt8} {t:List UInt8} (h:¬ c=32) {k n:Nat} (hk:hit (c::t)=k) (h6:¬ k=6) (hn:sz k (c::t)=n) (hb:¬ runP prt ((c::t).take n)<n) :
  scan p (c::t)=Res.cons ⟨k,said k ((c::t).take n),p⟩ (scan (p+n) ((c::t).drop n)):=by
 subst hk hn;rw [scan_cons,if_neg h,if_neg h6,if_neg hb]
end Wlx
namespace Go.Proofs.YtlggnpohhahdlaaGreatDoor
open Go.Shelf Go.RowKit
set_option linter.unusedVariables false
theorem said_text (b:ByteArray) (w:World) (hm:MaxAt w) (h2:2≤b.size) (hs:b.size≤1048576):Calls Tryz.prog 37 #[.int .i64 2,.string b] w fun e w'=>e=.returned (.string ⟨(Wlx.said 2 b.data.toList).toArray⟩)∧Below w.heap.size w w':=by
 have c1:(1:Int)≤(b.size:Int) - 1:=by omega
 have c2:(b.size:Int) - 1≤(b.size:Int):=by omega
 have E:Hid (Wlx.undbl (b.extract 1 (b.size - 1)).data.toList=Wlx.said 2 b.data.toList):=by
  show _=_
  rw [Lib.extract_data];have:b.data.toList.length=b.size:=rfl;unfold Wlx.said;rw [if_pos rfl,this,show b.size - 1 - 1=b.size - 2 by omega]
 have R:=fun w hm=>replace_two (b.extract 1 (b.size - 1)) w hm (by rw [ByteArray.size_extract];omega)
 rw [E.out] at R;clear E;generalize Wlx.said 2 b.data.toList=q at *;have e1:((b.size:Int) - 1).toNat=b.size - 1:=by omega
 go_enter Tryz.func37,Tryz.ntmps37;go_wp2_with fail
 refine (R _ hm).mono ?_;rintro e w1 ⟨rfl,hb⟩;go_wp2;go_ret;exact ⟨rfl,hb⟩
theorem said_other (k:Nat) (b:ByteArray) (w:World) (h:¬ k=2):Calls Tryz.prog 37 #[.int .i64 k,.string b] w fun e w'=>e=.returned (.string ⟨(Wlx.said k b.data.toList).toArray⟩)∧Below w.heap.size w w':=by
 have hk:((k:Int) != 2)=true:=by simp;omega
 have E:Hid ((⟨(Wlx.said k b.data.toList).toArray⟩:ByteArray)=b):=by
  show _=_;unfold Wlx.said;rw [if_neg h]
 clear h;rw [E.out];go_enter Tryz.func37,Tryz.ntmps37;go_wp2;go_ret;exact ⟨rfl,Below.refl _ _⟩
theorem said_any (k:Nat) (b:ByteArray) (w:World) (hm:MaxAt w) (h2:k=2→2≤b.size) (hs:b.size≤1048576):Calls Tryz.prog 37 #[.int .i64 k,.string b] w fun e w'=>e=.returned (.string ⟨(Wlx.said k b.data.toList).toArray⟩)∧Below w.heap.size w w':=by
 by_cases h:k=2
 ·subst h;exact said_text b w hm (h2 rfl) hs
 ·exact said_other k b w h
theorem refusal_any (b:ByteArray) (w:World) (hs:b.size≤9223372036854775807):Calls Tryz.prog 38 #[.string b] w fun e w'=>e=.returned (.int .i64 (if Wlx.begins [34] b.data.toList then 41 else 40))∧w=w':=by
 have HP:=hasPrefix_any b ⟨#[34]⟩ w hs;have e0:(⟨#[34]⟩:ByteArray).data.toList=[34]:=rfl;rw [e0] at HP;cases hb:Wlx.begins [34] b.data.toList with
 | true =>
  rw [hb] at HP;clear hb;go_enter Tryz.func38,Tryz.ntmps38;go_wp2_with fail
  refine HP.mono ?_;rintro e w1 ⟨rfl,rfl⟩;go_wp2;go_ret;exact ⟨rfl,rfl⟩
 | false =>
  rw [hb] at HP;clear hb;go_enter Tryz.func38,Tryz.ntmps38;go_wp2_with fail
  refine HP.mono ?_;rintro e w1 ⟨rfl,rfl⟩;go_wp2;go_ret;exact ⟨rfl,rfl⟩
def tok3 (t:Wlx.Tok):List Value:=[.int .i64 t.k,.string ⟨t.t.toArray⟩,.int .i64 t.p]
def rowT (ts:List Wlx.Tok):List Value:=ts.flatMap tok3
theorem rowT_snoc (ts:List Wlx.Tok) (t:Wlx.Tok):rowT (ts++[t])=rowT ts++tok3 t:=by simp [rowT]
theorem tokInfo:(Tryz.prog.info? 79).map (fun i=>(i.zero,i.size,i.bytes))=some (some (.agg #[.int .i64 0,.string ⟨#[]⟩,.int .i64 0]),3,32):=by kernel_rfl
abbrev OwnT (w:World) (base:Nat) (v:Value) (ts:List Wlx.Tok):Prop:=w.ownsRow base 79 3 v ts.length (rowT ts)
theorem own_below {B:Nat} {v:Value} {ts:List Wlx.Tok} {w w':World} (h:OwnT w B v ts) (hb:Below w.heap.size w w'):OwnT w' B v ts :=
 h.kept (row:=none) ⟨hb.os,hb.tape,hb.output,hb.size,fun k hk _=>hb.block k hk⟩ (by cases v.ownBlock <;> simp)
def scanAll (l:List UInt8):Wlx.Res:=if 1024<l.length then Wlx.Res.err 2 0 else Wlx.scan 0 l
def ScanPost (B:Nat) (r:Wlx.Res) (e:Ending) (w:World):Prop :=
 match r with
 | .inl ts=>∃ v,e=.returned (.tuple #[v,.int .i64 0,.int .i64 0])∧OwnT w B v ts
 | .inr (c,p)=>e=.returned (.tuple #[.slice none 0 0,.int .i64 c,.int .i64 p])
theorem iter_grown {w w':World} {row:Option Nat} (hg:w.grownBy w' row) {k:Nat} {s:ByteArray} {pos:Nat} (hk:w.heap[k]? = some (.stringIter s pos)) (hne:some k ≠ row):w'.heap[k]? = some (.stringIter s pos):=by
 rw [hg.block k (Array.getElem?_eq_some_iff.1 hk).1 hne];exact hk
theorem iter_below {w w':World} (hb:Below w.heap.size w w') {k:Nat} {s:ByteArray} {pos:Nat} (hk:w.heap[k]? = some (.stringIter s pos)):w'.heap[k]? = some (.stringIter s pos):=by
 rw [hb.block k (Array.getElem?_eq_some_iff.1 hk).1];exact hk
theorem prt_low {c:UInt8} (h:Wlx.prt c=true):c.toNat<128:=by
 unfold Wlx.prt at h;simp at h;omega
theorem runP_all {p:UInt8→Bool}:∀ (l:List UInt8),¬ Wlx.runP p l<l.length→∀ x ∈ l,p x=true
 | [],_,x,hx=>by cases hx
 | c::t,h,x,hx=>by
  cases hc:p c with
  | false=>rw [Wlx.runP_neg hc] at h;simp at h
  | true =>
   rw [Wlx.runP_pos hc] at h;simp only [List.length_cons] at h;rcases List.mem_cons.1 hx with rfl | hx
   ·exact hc
   ·exact runP_all t (by omega) x hx
end Go.Proofs.YtlggnpohhahdlaaGreatDoor
namespace Wlx
structure TV where
 k:Int
 t:List UInt8
 p:Int
def tv (t:Tok):TV:=⟨t.k,t.t,t.p⟩
def wv (t:TV):List UInt8:=if t.k=2 then 34::(dbl t.t++[34]) else t.t
def joinF:Bool→List TV→List UInt8
 | _,[]=>[]
 | f,t::r=>(if f then [] else [32])++wv t++joinF false r
def textV (ts:List TV):List UInt8:=joinF true ts
def wgt (ts:List TV):Nat:=(ts.map fun t=>t.t.length+1).sum
end Wlx
namespace Go.Proofs.YtlggnpohhahdlaaGreatDoor
open Go.Shelf Go.RowKit
set_option linter.unusedVariables false
def ReadV (w:World) (v:Value) (ts:List Wlx.TV):Prop :=
 ∃ (av:Option Addr) (cap:Nat),v=.slice av ts.length cap∧∀ i (h:i<ts.length),∃ bb off,av=some ⟨bb,off,none⟩∧bb<w.heap.size ∧
  w.cell? ⟨bb,off+i * 3,none⟩=some (.int .i64 (ts[i]).k)∧w.cell? ⟨bb,off+i * 3+1,none⟩=some (.string ⟨(ts[i]).t.toArray⟩)∧w.cell? ⟨bb,off+i * 3+2,none⟩=some (.int .i64 (ts[i]).p)
theorem ReadV.below {w w':World} {v:Value} {ts:List Wlx.TV} (h:ReadV w v ts) {B:Nat} (hB:w.heap.size≤B) (hb:Below B w w'):ReadV w' v ts:=by
 obtain ⟨av,cap,e,h⟩:=h;refine ⟨av,cap,e,fun i hi=>?_⟩;obtain ⟨bb,off,e1,e2,c0,c1,c2⟩:=h i hi;have hs:=hb.size;exact ⟨bb,off,e1,by omega,(hb.cell (p:=⟨bb,_,none⟩) (by show bb<B;omega)).trans c0,(hb.cell (p:=⟨bb,_,none⟩) (by show bb<B;omega)).trans c1,(hb.cell (p:=⟨bb,_,none⟩) (by show bb<B;omega)).trans c2⟩
theorem rowT_get:∀ (ts:List Wlx.Tok) (i:Nat) (h:i<ts.length),(rowT ts)[i * 3]? = some (.int .i64 (ts[i]).k)∧(rowT ts)[i * 3+1]? = some (.string ⟨(ts[i]).t.toArray⟩)∧(rowT ts)[i * 3+2]? = some (.int .i64 (ts[i]).p)
 | [],i,h=>by simp at h
 | t::r,0,_=>⟨rfl,rfl,rfl⟩
 | t::r,i+1,h=>by
  obtain ⟨h0,h1,h2⟩:=rowT_get r i (by simpa using h);have e:∀ j,(rowT (t::r))[j+3]? = (rowT r)[j]?:=fun j=>rfl
  rw [show (i+1) * 3=i * 3+3 by omega,show i * 3+3+1=i * 3+1+3 by omega,show i * 3+3+2=i * 3+2+3 by omega,e,e,e];exact ⟨h0,h1,h2⟩
theorem ReadV.own {w:World} {B:Nat} {v:Value} {ts:List Wlx.Tok} (h:OwnT w B v ts):ReadV w v (ts.map Wlx.tv):=by
 rcases h.2 with ⟨e,hn⟩ | ⟨g,cap,cur,e,hg,hc,_⟩
 ·refine ⟨none,0,by rw [e,List.length_map,hn],fun i hi=>?_⟩;rw [List.length_map] at hi;omega
 ·refine ⟨some ⟨g,0,none⟩,cap,by rw [e,List.length_map],fun i hi=>?_⟩;rw [List.length_map] at hi;have hlt:g<w.heap.size:=(Array.getElem?_eq_some_iff.1 hc).1;obtain ⟨h0,h1,h2⟩:=rowT_get ts i hi;subst e;refine ⟨g,0,rfl,hlt,?_,?_,?_⟩
  ·rw [Nat.zero_add,World.ownsRow.cellAt h _ (by omega),h0];simp [Wlx.tv]
  ·rw [Nat.zero_add,World.ownsRow.cellAt h _ (by omega),h1];simp [Wlx.tv]
  ·rw [Nat.zero_add,World.ownsRow.cellAt h _ (by omega),h2];simp [Wlx.tv]
theorem isF_below {T e:TypeId} {B b:Nat} {bs:List Value} {w w':World} (h:Lib.IsBuilderF T e B b bs w) (hb:Below w.heap.size w w'):Lib.IsBuilderF T e B b bs w':=by
 have g:∀ p,Lib.BuilderAtF T e B b p bs w→Lib.BuilderAtF T e B b p bs w':=by
  rintro p ⟨h1,v,h2,⟨h3,h4⟩,h5⟩;refine ⟨h1,v,(hb.block b (Array.getElem?_eq_some_iff.1 h2).1).trans h2,⟨h3,?_⟩,h5⟩;rcases h4 with h4 | ⟨g,cap,cur,fz,a1,a2,a3,a4⟩
  ·exact Or.inl h4
  ·exact Or.inr ⟨g,cap,cur,fz,a1,a2,(hb.block g (Array.getElem?_eq_some_iff.1 a3).1).trans a3,a4⟩
 exact h.elim (fun x=>.inl (g _ x)) (fun x=>.inr (g _ x))
theorem wstrk (B b:Nat) (l:List UInt8) (s:ByteArray) (w:World) (h:Lib.IsBuilderF 65 5 B b (Lib.byteCells l) w) (hlen:l.length+s.size≤140737488355328) (hBw:B≤w.heap.size) :
  Calls Tryz.prog 46 #[.pointer (some ⟨b,0,none⟩),.string s] w fun e w'=>e=.returned (.tuple #[.int .i64 s.size,.nilIface])∧Lib.IsBuilderF 65 5 B b (Lib.byteCells (l++s.data.toList)) w'∧Below B w w'∧Lib.OthersKept 5 (some b) w w':=by
 refine (Any.Builder_WriteString_k {lays155 with} extra155 B b (Lib.byteCells l) s w h (by rw [Lib.byteCells_length];exact hlen) hBw).mono ?_;rintro e w' ⟨rfl,h1,h2⟩;rw [Lib.strCells_eq,←Lib.byteCells_append] at h1;exact ⟨rfl,Or.inr h1,h2⟩
theorem bstrk (B b:Nat) (l:List UInt8) (w:World) (h:Lib.IsBuilderF 65 5 B b (Lib.byteCells l) w) (hBw:B≤w.heap.size) :
  Calls Tryz.prog 28 #[.pointer (some ⟨b,0,none⟩)] w fun e w'=>e=.returned (.string ⟨l.toArray⟩)∧Below B w w' :=
 (Any.Builder_String_any_k {lays155 with} extra155 B b l w h hBw).mono fun e w' ⟨a,b,c,d⟩=>⟨a,c⟩
theorem cat3 (l:List UInt8):(⟨#[34]⟩:ByteArray)++⟨l.toArray⟩++⟨#[34]⟩=⟨(34::(l++[34])).toArray⟩:=by
 apply ByteArray.ext
 apply Array.ext'
 simp
theorem written_any (k p:Int) (s:List UInt8) (w:World) (hm:MaxAt w) (hs:s.length≤1048576):Calls Tryz.prog 153 #[.agg #[.int .i64 k,.string ⟨s.toArray⟩,.int .i64 p]] w fun e w'=>e=.returned (.string ⟨(Wlx.wv ⟨k,s,p⟩).toArray⟩)∧Below w.heap.size w w':=by
 by_cases hk:k=2
 ·subst hk;have R:=fun w hm=>replace_one ⟨s.toArray⟩ w hm (by simpa [ByteArray.size] using hs)
  have e0:(⟨s.toArray⟩:ByteArray).data.toList=s:=rfl;rw [e0] at R;have E:Hid (Wlx.wv ⟨2,s,p⟩=34::(Wlx.dbl s++[34])):=by show _=_;unfold Wlx.wv;exact if_pos rfl
  have hd:=Wlx.dbl_length s;obtain ⟨d,hdd⟩:∃ d,Wlx.dbl s=d:=⟨_,rfl⟩
  rw [hdd] at R E hd;clear hdd;have l1:¬ 9223372036854775807<d.length+1:=by omega
  have l2:¬ 9223372036854775807<d.length+1+1:=by omega
  go_enter Tryz.func153,Tryz.ntmps153;go_wp2_with fail
  refine (R _ (MaxAt.below hm ((Below.refl _ w).alloc (Nat.le_refl _) _))).mono ?_;rintro e w1 ⟨rfl,hb⟩;go_wp2;go_ret;exact ⟨by rw [E.out,←cat3];rfl,((Below.refl _ w).alloc (Nat.le_refl _) _).trans (hb.mono (by simp))⟩
 ·have hk2:(k != 2)=true:=by simpa using hk
  have E:Hid (Wlx.wv ⟨k,s,p⟩=s):=by show _=_;unfold Wlx.wv;exact if_neg hk
  clear hk;go_enter Tryz.func153,Tryz.ntmps153;go_wp2;go_ret;exact ⟨by rw [E.out];rfl,(Below.refl _ w).alloc (Nat.le_refl _) _⟩
open Go.RowKit
def PSt (w:World) (kp:Nat) (ts:List Wlx.TV) (en:Int):Prop :=
 ∃ (av:Option Addr) (cap:Nat),ts.length≤cap∧AtL w kp [.slice av ts.length cap,.int .i64 en] ∧
  ∀ i (h:i<ts.length),∃ bb off,av=some ⟨bb,off,none⟩∧bb<kp∧w.cell? ⟨bb,off+i * 3,none⟩=some (.int .i64 (ts[i]).k)∧w.cell? ⟨bb,off+i * 3+1,none⟩=some (.string ⟨(ts[i]).t.toArray⟩)∧w.cell? ⟨bb,off+i * 3+2,none⟩=some (.int .i64 (ts[i]).p)
theorem PSt.below {w w':World} {kp:Nat} {ts:List Wlx.TV} {en:Int} (h:PSt w kp ts en) (hb:Below w.heap.size w w'):PSt w' kp ts en:=by
 obtain ⟨av,cap,h1,h2,h3⟩:=h;refine ⟨av,cap,h1,h2.below hb,fun i hi=>?_⟩;obtain ⟨bb,off,e,hn,c0,c1,c2⟩:=h3 i hi;exact ⟨bb,off,e,hn,cell_below hb c0,cell_below hb c1,cell_below hb c2⟩
theorem below_grown {w w':World} (hb:Below w.heap.size w w') (row:Option Nat):w.grownBy w' row:=⟨hb.os,hb.tape,hb.output,hb.size,fun k hk _=>hb.block k hk⟩
theorem grown_trans {w w1 w2:World} {row:Option Nat} (h1:w.grownBy w1 row) (h2:w1.grownBy w2 row):w.grownBy w2 row :=
 ⟨h2.os.trans h1.os,h2.tape.trans h1.tape,h2.output.trans h1.output,Nat.le_trans h1.size h2.size,fun k hk hn=>(h2.block k (Nat.lt_of_lt_of_le hk h1.size) hn).trans (h1.block k hk hn)⟩
def hd (ts:List Wlx.TV) (en:Int):Wlx.TV:=match ts with
 | []=>⟨0,[],en⟩
 | t::_=>t
def tkV (t:Wlx.TV):Value:=.agg #[.int .i64 t.k,.string ⟨t.t.toArray⟩,.int .i64 t.p]
theorem next_any (kp:Nat) (ts:List Wlx.TV) (en:Int) (w:World) (h:PSt w kp ts en):Calls Tryz.prog 95 #[.pointer (some ⟨kp,0,none⟩)] w fun e w'=>e=.returned (tkV (hd ts en))∧Below w.heap.size w w':=by
 obtain ⟨av,cap,h1,h2,h3⟩:=h;have hlt:=h2.lt;obtain ⟨c0,c1,f0,f1⟩:=h2.two;have hne:¬ kp=w.heap.size:=by omega
 cases ts with
 | nil =>
  simp only [List.length_nil] at c0;go_enter Tryz.func95,Tryz.ntmps95;go_wp2;refine bodyPost_ret (v:=.agg #[.int .i64 0,.string ⟨#[]⟩,.int .i64 en]) (by simp [results,Tryz.results95,go_sem, *]) rfl ⟨rfl,?_⟩;exact by with_reducible repeat (first | exact Below.refl _ _ | refine below_drewN ?_ _ | refine Below.setCell ?_ (by first | (simp;done) | (simp;omega) | omega) _ | refine Below.drew ?_ | refine below_end ?_ (by assumption) | refine ball ?_ _)
 | cons t r =>
  obtain ⟨bb,off,e,hn,d0,d1,d2⟩:=h3 0 (by simp);subst e;have hlb:=World.block_lt_of_cell? _ _ d0;have hnb:¬ bb=w.heap.size:=by simp only at hlb;omega
  simp only [List.getElem_cons_zero,Nat.zero_mul,Nat.add_zero] at d0 d1 d2;obtain ⟨m,hm⟩:∃ m,r.length+1=m:=⟨_,rfl⟩
  simp only [List.length_cons,hm] at c0;have hm0:((m:Int) == 0)=false:=by rw [beq_eq_false_iff_ne];omega
  have hm1:(0:Int)<(m:Int):=by omega
  go_enter Tryz.func95,Tryz.ntmps95;go_wp2;refine bodyPost_ret (v:=tkV t) (by simp [results,Tryz.results95,go_sem,tkV, *]) rfl ⟨rfl,?_⟩;exact by with_reducible repeat (first | exact Below.refl _ _ | refine below_drewN ?_ _ | refine Below.setCell ?_ (by first | (simp;done) | (simp;omega) | omega) _ | refine Below.drew ?_ | refine below_end ?_ (by assumption) | refine ball ?_ _)
def isMk (t:Wlx.TV) (m:List UInt8):Bool:=(t.k == 5) && (t.t == m)
theorem isMark_any (t:Wlx.TV) (m:List UInt8) (w:World):Calls Tryz.prog 194 #[tkV t,.string ⟨m.toArray⟩] w fun e w'=>e=.returned (.bool (isMk t m))∧Below w.heap.size w w':=by
 obtain ⟨k,x,p⟩:=t;unfold isMk;show Calls _ _ #[.agg #[.int .i64 k,.string ⟨x.toArray⟩,.int .i64 p],.string ⟨m.toArray⟩] _ _
 simp only;by_cases hk:k=5
 ·subst hk;go_enter Tryz.func194,Tryz.ntmps194;go_wp2;go_ret;exact ⟨ret_bool (by simp),by with_reducible repeat (first | exact Below.refl _ _ | refine below_drewN ?_ _ | refine Below.setCell ?_ (by first | (simp;done) | (simp;omega) | omega) _ | refine Below.drew ?_ | refine below_end ?_ (by assumption) | refine ball ?_ _)⟩
 ·have hk':(k == 5)=false:=by simp [hk]
  rw [hk'];go_enter Tryz.func194,Tryz.ntmps194;go_wp2;go_ret;exact ⟨rfl,by with_reducible repeat (first | exact Below.refl _ _ | refine below_drewN ?_ _ | refine Below.setCell ?_ (by first | (simp;done) | (simp;omega) | omega) _ | refine Below.drew ?_ | refine below_end ?_ (by assumption) | refine ball ?_ _)⟩
def fol (ts:List Wlx.TV) (m:List UInt8):Bool:=match ts with
 | _::t::_=>isMk t m
 | _=>false
theorem follows_any (kp:Nat) (ts:List Wlx.TV) (en:Int) (m:List UInt8) (w:World) (h:PSt w kp ts en) (hts:ts.length≤1024):Calls Tryz.prog 184 #[.pointer (some ⟨kp,0,none⟩),.string ⟨m.toArray⟩] w fun e w'=>e=.returned (.bool (fol ts m))∧Below w.heap.size w w':=by
 obtain ⟨av,cap,h1,h2,h3⟩:=h;obtain ⟨c0,c1,f0,f1⟩:=h2.two;by_cases hl:1<ts.length
 ·obtain ⟨bb,off,e,hn,d0,d1,d2⟩:=h3 1 hl;subst e;have C:=isMark_any (ts[1]) m w;have hf:fol ts m=isMk (ts[1]) m:=by
   match ts,hl with
   | _::t::_,_=>rfl
  rw [hf];clear hf h3 h2;have hli:(1:Int)<(ts.length:Int):=by omega
  generalize isMk (ts[1]) m=q at *;unfold tkV at C;go_enter Tryz.func184,Tryz.ntmps184;go_wp2_with fail
  refine C.mono ?_;rintro e w1 ⟨rfl,hb⟩;go_wp2;go_ret;exact ⟨rfl,hb⟩
 ·have hf:fol ts m=false:=by
   match ts,hl with
   | [],_=>rfl
   | [_],_=>rfl
   | _::_::_,h=>exact absurd (by simp) h
  rw [hf];have hli:¬ (1:Int)<(ts.length:Int):=by omega
  go_enter Tryz.func184,Tryz.ntmps184;go_wp2;go_ret;exact ⟨rfl,Below.refl _ _⟩
end Go.Proofs.YtlggnpohhahdlaaGreatDoor
