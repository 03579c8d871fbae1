/- VWalkC, TKit, TWalkA, TWalkB, TEq. -/
import Derived.Test.YtedifblompcdkaaGreatDoorQ03
import Derived.Deep.MidRow
import Derived.OwnWalk
set_option maxHeartbeats 4000000
set_option maxRecDepth 100000
namespace Go.Proofs.YtedifblompcdkaaGreatDoor
open Tryz
open Go.RowKit
set_option linter.unusedVariables false
variable {W w:World} {us:List Value} {k ka kb:Nat} {n d f:Int} {t:ByteArray} {b:Bool}
abbrev VrS (ka kb:Nat) (k n d:Int) (t:ByteArray) (b:Bool) (f:Int) (W:World):Prop :=
 Six W ka (.int .i64 k) (.int .i64 n) (.int .i64 d) (.string t) (.bool b) (.int .i64 f)/\W.frozen? ⟨kb,0,none⟩=false/\W.frozen? ⟨kb,1,none⟩=false/\W.frozen? ⟨kb,2,none⟩=false/\W.frozen? ⟨kb,3,none⟩=false/\W.frozen? ⟨kb,4,none⟩=false/\W.frozen? ⟨kb,5,none⟩=false
theorem zBr {k:Int} (h0:AtL W ka [.int .i64 k,.int .i64 n,.int .i64 d,.string t,.bool b,.int .i64 f]) (h1:AtL W kb us) (hl:us.length=6):VrS ka kb k n d t b f W :=
 ⟨h0.f6,h1.2.2 0 (by omega),h1.2.2 1 (by omega),h1.2.2 2 (by omega),h1.2.2 3 (by omega),h1.2.2 4 (by omega),h1.2.2 5 (by omega)⟩
theorem zBl {k:Int} (h:VrS ka kb k n d t b f W) (hne:kb ≠ ka) (o:Nat) (u:Value):VrS ka kb k n d t b f (W.setCell ⟨kb,o,none⟩ u):=by
 obtain ⟨⟨h0,h1,h2,h3,h4,h5⟩,g0,g1,g2,g3,g4,g5⟩:=h;refine ⟨⟨?_,?_,?_,?_,?_,?_⟩,?_,?_,?_,?_,?_,?_⟩;any_goals rw [World.cell?_setCell_far _ _ _ _ (by simpa using hne)];assumption
 all_goals rw [World.frozen?_setCell];assumption
theorem zFd (f:Int) (w:World):CR 66 #[.int .i64 f] w (.bool (Wv.flt f)):=(zDj f w).mono λe w' h=>⟨h.1,h.2 ▸ Below.refl _ _⟩
theorem zI7 (b:ByteArray) (w:World) (hs:b.size<=9223372036854775807):CR 62 #[.string b] w (.bool (Wv.prts b.data.toList)):=(zGd b w hs).mono λe w' h=>⟨h.1,h.2 ▸ Below.refl _ _⟩
theorem zRT (n d:Int) (t:ByteArray) (b:Bool) (f:Int):(Wnum.rightB n d && eqV 1 n d t b f 1 n d ⟨#[]⟩ false 0)=Wv.right 1 n d t b f:=by
 unfold eqV Wv.right;rw [if_neg (by decide)];rw [if_pos rfl];rw [Bool.eq_iff_iff];simp [and_assoc,zC3]
theorem zLw (n d:Int) (t:ByteArray) (b:Bool) (f:Int) (w:World) (h1:-9223372036854775808<=n) (h2:n<=9223372036854775807) (h3:-9223372036854775808<=d) (h4:d<=9223372036854775807) :
  CR 107 #[.agg #[.int .i64 1,.int .i64 n,.int .i64 d,.string t,.bool b,.int .i64 f]] w (.bool (Wv.right 1 n d t b f)):=by
 rw [<-zRT];have C:=λw=>zFY n d w h1 h2 h3 h4
 have hq:=zCO 1 n d t b f 1 n d ⟨#[]⟩ false 0;generalize eqV 1 n d t b f 1 n d ⟨#[]⟩ false 0=R at *;generalize Wnum.rightB n d=q at *;have pA:AtL ((w.alloc (.cells #[.int .i64 1,.int .i64 n,.int .i64 d,.string t,.bool b,.int .i64 f] 38)).alloc (.cells #[.int .i64 1,.int .i64 0,.int .i64 0,.string ⟨#[]⟩,.bool false,.int .i64 0] 38)) w.heap.size [.int .i64 1,.int .i64 n,.int .i64 d,.string t,.bool b,.int .i64 f]:=(AtL.new0 w _ _).alloc _;have pO:AtL ((w.alloc (.cells #[.int .i64 1,.int .i64 n,.int .i64 d,.string t,.bool b,.int .i64 f] 38)).alloc (.cells #[.int .i64 1,.int .i64 0,.int .i64 0,.string ⟨#[]⟩,.bool false,.int .i64 0] 38)) (w.heap.size+1) [.int .i64 1,.int .i64 0,.int .i64 0,.string ⟨#[]⟩,.bool false,.int .i64 0]:=AtL.new1 w _ _ _;have hS:VrS w.heap.size (w.heap.size+1) 1 n d t b f ((w.alloc (.cells #[.int .i64 1,.int .i64 n,.int .i64 d,.string t,.bool b,.int .i64 f] 38)).alloc (.cells #[.int .i64 1,.int .i64 0,.int .i64 0,.string ⟨#[]⟩,.bool false,.int .i64 0] 38)):=zBr pA pO rfl;cases q
 all_goals
  go_enter func107,ntmps107;go_upto_region 6 with fail
  go_region_held3 (VrS w.heap.size (w.heap.size+1) 1 n d t b f)
   (with_reducible first | exact hS | assumption | exact zBr pA1 pO1 rfl | exact zBl (by assumption) (by omega) _ _ | exact zBl (zBl (by assumption) (by omega) _ _) (by omega) _ _ | exact zBr (AtL.drew pA) (AtL.drew pO) rfl)
   (first | (go_at_call 65;refine (C _).mono ?_;rintro e w1 ⟨rfl,hb⟩;have pA1:=AtL.below hb (AtL.drew pA);have pO1:=AtL.below hb (AtL.drew pO);obtain ⟨a0,a1,a2,a3,a4,a5⟩:=pA1.f6;obtain ⟨o0,o1,o2,o3,o4,o5⟩:=pO1.f6;have hB1:=zAA (zAH (zAH (Below.refl _ w) _) _).drew hb))
  all_goals
   go_wp2;go_ret;exact ⟨by simp,(clB hB1)⟩
theorem zRS (n d:Int) (t:ByteArray) (b:Bool) (f:Int):(Wv.flt f && eqV 4 n d t b f 4 0 0 ⟨#[]⟩ false f)=Wv.right 4 n d t b f:=by
 unfold eqV Wv.right;rw [if_neg (by decide)];rw [if_neg (by decide)];rw [if_neg (by decide)];rw [if_neg (by decide)];rw [if_pos rfl];rw [Bool.eq_iff_iff];simp [and_assoc,zC3]
theorem zML (n d:Int) (t:ByteArray) (b:Bool) (f:Int) (w:World) :
  CR 107 #[.agg #[.int .i64 4,.int .i64 n,.int .i64 d,.string t,.bool b,.int .i64 f]] w (.bool (Wv.right 4 n d t b f)):=by
 rw [<-zRS];have C:=λw=>zFd f w
 have hq:=zCO 4 n d t b f 4 0 0 ⟨#[]⟩ false f;generalize eqV 4 n d t b f 4 0 0 ⟨#[]⟩ false f=R at *;generalize Wv.flt f=q at *;have pA:AtL ((w.alloc (.cells #[.int .i64 4,.int .i64 n,.int .i64 d,.string t,.bool b,.int .i64 f] 38)).alloc (.cells #[.int .i64 4,.int .i64 0,.int .i64 0,.string ⟨#[]⟩,.bool false,.int .i64 0] 38)) w.heap.size [.int .i64 4,.int .i64 n,.int .i64 d,.string t,.bool b,.int .i64 f]:=(AtL.new0 w _ _).alloc _;have pO:AtL ((w.alloc (.cells #[.int .i64 4,.int .i64 n,.int .i64 d,.string t,.bool b,.int .i64 f] 38)).alloc (.cells #[.int .i64 4,.int .i64 0,.int .i64 0,.string ⟨#[]⟩,.bool false,.int .i64 0] 38)) (w.heap.size+1) [.int .i64 4,.int .i64 0,.int .i64 0,.string ⟨#[]⟩,.bool false,.int .i64 0]:=AtL.new1 w _ _ _;have hS:VrS w.heap.size (w.heap.size+1) 4 n d t b f ((w.alloc (.cells #[.int .i64 4,.int .i64 n,.int .i64 d,.string t,.bool b,.int .i64 f] 38)).alloc (.cells #[.int .i64 4,.int .i64 0,.int .i64 0,.string ⟨#[]⟩,.bool false,.int .i64 0] 38)):=zBr pA pO rfl;cases q
 all_goals
  go_enter func107,ntmps107;go_upto_region 12 with fail
  go_region_held3 (VrS w.heap.size (w.heap.size+1) 4 n d t b f)
   (with_reducible first | exact hS | assumption | exact zBr pA1 pO1 rfl | exact zBl (by assumption) (by omega) _ _ | exact zBl (zBl (by assumption) (by omega) _ _) (by omega) _ _ | exact zBr (AtL.drew pA) (AtL.drew pO) rfl)
   (first | (go_at_call 66;refine (C _).mono ?_;rintro e w1 ⟨rfl,hb⟩;have pA1:=AtL.below hb (AtL.drew pA);have pO1:=AtL.below hb (AtL.drew pO);obtain ⟨a0,a1,a2,a3,a4,a5⟩:=pA1.f6;obtain ⟨o0,o1,o2,o3,o4,o5⟩:=pO1.f6;have hB1:=zAA (zAH (zAH (Below.refl _ w) _) _).drew hb))
  all_goals
   go_wp2;go_ret;exact ⟨by simp,(clB hB1)⟩
theorem zRQ (n d:Int) (t:ByteArray) (b:Bool) (f:Int):((decide (t.size<=256) && Wv.prts t.data.toList) && eqV 2 n d t b f 2 0 0 t false 0)=Wv.right 2 n d t b f:=by
 unfold eqV Wv.right;rw [if_neg (by decide)];rw [if_neg (by decide)];rw [if_pos rfl];rw [Bool.eq_iff_iff];simp [and_assoc,zC3]
theorem zRF (n d:Int) (t:ByteArray) (b:Bool) (f:Int):eqV 3 n d t b f 3 0 0 ⟨#[]⟩ b 0=Wv.right 3 n d t b f:=by
 unfold eqV Wv.right;rw [if_neg (by decide)];rw [if_neg (by decide)];rw [if_neg (by decide)];rw [if_pos rfl];rw [Bool.eq_iff_iff];simp [and_assoc,zC3]
theorem zM6 (n d:Int) (t:ByteArray) (b:Bool) (f:Int) (w:World) :
  CR 107 #[.agg #[.int .i64 3,.int .i64 n,.int .i64 d,.string t,.bool b,.int .i64 f]] w (.bool (Wv.right 3 n d t b f)):=by
 rw [<-zRF];have hq:=zCO 3 n d t b f 3 0 0 ⟨#[]⟩ b 0;generalize eqV 3 n d t b f 3 0 0 ⟨#[]⟩ b 0=R at *;go_enter func107,ntmps107;go_wp2;go_ret;exact ⟨rfl,clA⟩
theorem zMF (k n d:Int) (t:ByteArray) (b:Bool) (f:Int) (w:World) (hk:k<0 \/ 4<k) :
  CR 107 #[.agg #[.int .i64 k,.int .i64 n,.int .i64 d,.string t,.bool b,.int .i64 f]] w (.bool (Wv.right k n d t b f)):=by
 have E:Hid (Wv.right k n d t b f=false):=by
  show _=_
  unfold Wv.right;rw [if_neg (by omega),if_neg (by omega),if_neg (by omega),if_neg (by omega),if_neg (by omega)]
 rw [E.out];clear E;go_enter func107,ntmps107;go_wp2;go_ret;exact ⟨rfl,clA⟩
theorem zLH (n d:Int) (t:ByteArray) (b:Bool) (f:Int) (w:World) (hs:t.size<=9223372036854775807) :
  CR 107 #[.agg #[.int .i64 2,.int .i64 n,.int .i64 d,.string t,.bool b,.int .i64 f]] w (.bool (Wv.right 2 n d t b f)):=by
 rw [<-zRQ];have C:=λw=>zI7 t w hs
 have hq:=zCO 2 n d t b f 2 0 0 t false 0;generalize eqV 2 n d t b f 2 0 0 t false 0=R at *;generalize Wv.prts t.data.toList=q at *;have pA:AtL ((w.alloc (.cells #[.int .i64 2,.int .i64 n,.int .i64 d,.string t,.bool b,.int .i64 f] 38)).alloc (.cells #[.int .i64 2,.int .i64 0,.int .i64 0,.string ⟨#[]⟩,.bool false,.int .i64 0] 38)) w.heap.size [.int .i64 2,.int .i64 n,.int .i64 d,.string t,.bool b,.int .i64 f]:=(AtL.new0 w _ _).alloc _;have pO:AtL ((w.alloc (.cells #[.int .i64 2,.int .i64 n,.int .i64 d,.string t,.bool b,.int .i64 f] 38)).alloc (.cells #[.int .i64 2,.int .i64 0,.int .i64 0,.string ⟨#[]⟩,.bool false,.int .i64 0] 38)) (w.heap.size+1) [.int .i64 2,.int .i64 0,.int .i64 0,.string ⟨#[]⟩,.bool false,.int .i64 0]:=AtL.new1 w _ _ _;have hS:VrS w.heap.size (w.heap.size+1) 2 n d t b f ((w.alloc (.cells #[.int .i64 2,.int .i64 n,.int .i64 d,.string t,.bool b,.int .i64 f] 38)).alloc (.cells #[.int .i64 2,.int .i64 0,.int .i64 0,.string ⟨#[]⟩,.bool false,.int .i64 0] 38)):=zBr pA pO rfl;by_cases hl:t.size<=256
 ·have hli:(t.size:Int)<=256:=by omega
  rw [decide_eq_true hl];cases q
  all_goals
   go_enter func107,ntmps107;go_upto_region 8 with fail
   go_region_held3 (VrS w.heap.size (w.heap.size+1) 2 n d t b f)
    (with_reducible first | exact hS | assumption | exact zBr pA1 pO1 rfl | exact zBl (by assumption) (by omega) _ _ | exact zBr (AtL.drew pA) (AtL.drew pO) rfl)
    (first | (go_at_call 62;refine (C _).mono ?_;rintro e w1 ⟨rfl,hb⟩;have pA1:=AtL.below hb (AtL.drew pA);have pO1:=AtL.below hb (AtL.drew pO);obtain ⟨a0,a1,a2,a3,a4,a5⟩:=pA1.f6;obtain ⟨o0,o1,o2,o3,o4,o5⟩:=pO1.f6;have hB1:=zAA (zAH (zAH (Below.refl _ w) _) _).drew hb))
   all_goals
    go_wp2;go_ret;exact ⟨by simp,(clB hB1)⟩
 ·have hli:¬ (t.size:Int)<=256:=by omega
  rw [decide_eq_false hl];go_enter func107,ntmps107;go_upto_region 8 with fail
  go_big_region
  all_goals
   go_wp2;go_ret;exact ⟨by simp,clA⟩
def vl6 (v:Wt.Vl):List Value:=[.int .i64 v.k,.int .i64 v.n,.int .i64 v.d,.string v.t,.bool v.b,.int .i64 v.f]
def rf5 (a:Wt.Rf):List Value:=[.string a.s,.int .i64 a.r,.int .i64 a.c,.bool a.fr,.bool a.fc]
def zAK (x:Wt.Nd):List Value:=[.int .i64 x.k,.int .i64 x.v.k,.int .i64 x.v.n,.int .i64 x.v.d,.string x.v.t,.bool x.v.b,.int .i64 x.v.f,.int .i64 x.op,.string x.nm,.int .i64 x.ar,.string x.a.s,.int .i64 x.a.r,.int .i64 x.a.c,.bool x.a.fr,.bool x.a.fc,.string x.b.s,.int .i64 x.b.r,.int .i64 x.b.c,.bool x.b.fr,.bool x.b.fc]
def vlV (v:Wt.Vl):Value:=.agg (vl6 v).toArray
def rfV (a:Wt.Rf):Value:=.agg (rf5 a).toArray
def ndV (x:Wt.Nd):Value:=.agg (zAK x).toArray
theorem zLa:(prog.info? 102).map (λi=>(i.zero,i.size,i.bytes))=some (some (.agg #[.int .i64 0,.int .i64 0,.int .i64 0,.int .i64 0,.string ⟨#[]⟩,.bool false,.int .i64 0,.int .i64 0,.string ⟨#[]⟩,.int .i64 0,.string ⟨#[]⟩,.int .i64 0,.int .i64 0,.bool false,.bool false,.string ⟨#[]⟩,.int .i64 0,.int .i64 0,.bool false,.bool false]),20,176):=by kernel_rfl
def opsR:List Value:=Wt.opsT.flatMap λx=>[.int .i64 x.1,.string ⟨x.2.1.toArray⟩,.int .i64 x.2.2]
def OpsAt (w:World):Prop:=w.rangeAt 1 0 opsR
theorem OpsAt.below {w':World} (h:OpsAt w) (hb:Below w.heap.size w w'):OpsAt w':=λj v hv=>zAC hb (h j v hv)
theorem OpsAt.alloc (h:OpsAt w) (o:Obj):OpsAt (w.alloc o):=h.below ((Below.refl _ _).alloc (Nat.le_refl _) _)
theorem AtL.there (h:AtL W k us):W.there k 0 us.length:=λj hj =>
 ⟨by rw [Nat.zero_add,h.2.1 j us[j] (List.getElem?_eq_getElem hj)];rfl,by rw [Nat.zero_add];exact h.2.2 j hj⟩
theorem AtL.range (h:AtL W k us):W.rangeAt k 0 us:=λj v hv=>by rw [Nat.zero_add];exact h.2.1 j v hv
theorem zBD (k:Nat):∀ (vs:List Value) (o:Nat) (W:World),(W.setCells k o vs).heap.size=W.heap.size
 | [],_,_=>rfl
 | v::r,o,W=>by rw [World.setCells,zBD k r];simp [go_sem]
theorem AtL.setAll {vs:List Value} (h:AtL W k us) (hl:vs.length=us.length):AtL (W.setCells k 0 vs) k vs:=by
 refine ⟨by rw [zBD];exact h.1,λi v hv=>?_,λi hi=>?_⟩
 ·have:=World.rangeAt_setCells_same W k 0 vs (by rw [hl];exact h.there) i v hv;rw [Nat.zero_add] at this;exact this
 ·rw [World.frozen?_setCells];exact h.2.2 i (by omega)
theorem AtL.farAll {b:Nat} (h:AtL W k us) (hb:b ≠ k) (o:Nat) (vs:List Value):AtL (W.setCells b o vs) k us:=by
 refine ⟨by rw [zBD];exact h.1,λi v hv=>?_,λi hi=>?_⟩
 ·rw [World.cell?_setCells_out b vs o W _ (λh1=>absurd h1.symm hb)];exact h.2.1 i v hv
 ·rw [World.frozen?_setCells];exact h.2.2 i hi
theorem zBJ (hb:Below w.heap.size w W) (hk:w.heap.size<=k):∀ (vs:List Value) (o:Nat),Below w.heap.size w (W.setCells k o vs):=by
 intro vs;induction vs generalizing W with
 | nil=>intro o;exact hb
 | cons v r ih=>intro o;rw [World.setCells];exact ih (hb.setCell (p:=⟨k,o,none⟩) hk v) (o+1)
theorem zHD (c:UInt8) (w:World):Calls prog 149 #[.int .u8 c.toNat] w λe w'=>e=.returned (.bool (Wlx.cap c))/\w=w':=by
 unfold Wlx.cap;go_enter func149,ntmps149;by_cases a:65<=(c.toNat:Int)
 ·go_wp2;go_ret;exact ⟨zAm (by simp [a]),rfl⟩
 ·go_wp2;go_ret;exact ⟨zAm (by rw [decide_eq_false (by omega)];rfl),rfl⟩
theorem zGx (c:UInt8) (w:World):Calls prog 169 #[.int .u8 c.toNat] w λe w'=>e=.returned (.bool (Wlx.dig c))/\w=w':=by
 unfold Wlx.dig;go_enter func169,ntmps169;by_cases a:48<=(c.toNat:Int)
 ·go_wp2;go_ret;exact ⟨zAm (by simp [a]),rfl⟩
 ·go_wp2;go_ret;exact ⟨zAm (by rw [decide_eq_false (by omega)];rfl),rfl⟩
theorem zLR (c:UInt8) (w:World):Calls prog 168 #[.int .u8 c.toNat] w λe w'=>e=.returned (.bool (Wt.ltr c))/\w=w':=by
 unfold Wt.ltr;have C:=zHD c w;unfold Wlx.low;generalize Wlx.cap c=q at *;go_enter func168,ntmps168;cases q
 ·by_cases a:97<=(c.toNat:Int)
  ·go_wp2_with fail
   refine C.mono ?_;rintro e w1 ⟨rfl,rfl⟩;go_wp2;go_ret;exact ⟨zAm (by simp [a]),rfl⟩
  ·go_wp2_with fail
   refine C.mono ?_;rintro e w1 ⟨rfl,rfl⟩;go_wp2;go_ret;exact ⟨zAm (by rw [decide_eq_false (p:=97<=(c.toNat:Int)) (by omega)];rfl),rfl⟩
 ·go_wp2_with fail
  refine C.mono ?_;rintro e w1 ⟨rfl,rfl⟩;go_wp2;go_ret;exact ⟨zAm (by simp),rfl⟩
theorem zIR (b:ByteArray) (h:0<b.size):b.data.toList.headD 0=b[0]:=by
 have:=zAh b 0 h;rw [List.drop_zero] at this;rw [this];rfl
theorem zEX (p:UInt8->Bool) (b:ByteArray) (j:Nat) (h:j<b.size):(b.data.toList.drop j).all p=(p (b[j]) && (b.data.toList.drop (j+1)).all p):=by
 rw [zAh b j h];rfl
theorem zKD (b:ByteArray) (w:World) (hs:b.size<=9223372036854775807) :
  Calls prog 148 #[.string b,.func (.func 149) #[] #[]] w λe w'=>e=.returned (.bool (Wt.isNm Wlx.cap b.data.toList))/\w=w':=by
 have C:∀ (c:UInt8) (w:World),Calls prog 149 #[.int .u8 c.toNat] w λe w'=>e=.returned (.bool (Wlx.cap c))/\w=w':=zHD
 have hl:b.data.toList.length=b.size:=rfl;by_cases h0:b=⟨#[]⟩
 ·subst h0;go_enter func148,ntmps148;go_wp2;go_ret;exact ⟨rfl,rfl⟩
 have h1:0<b.size:=by
  rcases Nat.eq_zero_or_pos b.size with h | h
  ·exact absurd (ByteArray.size_eq_zero_iff.1 h) h0
  ·exact h
 have hb0:b.toList.isEmpty=false:=by
  rw [ByteArray.toList_eq];cases hh:b.data.toList with
  | nil=>rw [hh] at hl;exact absurd hl (by show ¬ 0=_;omega)
  | cons _ _=>rfl
 by_cases h16:16<b.size
 ·have h16i:(16:Int)<(b.size:Int):=by omega
  have E:Hid (Wt.isNm Wlx.cap b.data.toList=false):=by
   show _=_
   unfold Wt.isNm;rw [hl,decide_eq_false (p:=b.size<=16) (by omega)];simp
  rw [E.out];clear E;go_enter func148,ntmps148;go_wp2;go_ret;exact ⟨rfl,rfl⟩
 have h16i:¬ (16:Int)<(b.size:Int):=by omega
 have E0:Wt.isNm Wlx.cap b.data.toList=(Wlx.cap (b[0]) && b.data.toList.all (λc=>Wlx.cap c || Wlx.dig c)):=by
  unfold Wt.isNm;rw [hl,decide_eq_true (by omega),decide_eq_true (by omega),zIR b h1];simp
 rw [E0];clear E0;have C0:=C (b[0]) w;cases hp:Wlx.cap (b[0]) with
 | false =>
  rw [hp] at C0;go_enter func148,ntmps148;go_wp2_with fail
  refine C0.mono ?_;rintro e w1 ⟨rfl,rfl⟩;go_wp2;go_ret;exact ⟨rfl,rfl⟩
 | true =>
  rw [hp] at C0;clear hp;obtain ⟨R,hR⟩:∃ R,b.data.toList.all (λc=>Wlx.cap c || Wlx.dig c)=R:=⟨_,rfl⟩
  have E0:Hid (R=(b.data.toList.drop 0).all (λc=>Wlx.cap c || Wlx.dig c)):=hR.symm;rw [hR];clear hR;go_enter func148,ntmps148;go_wp2_with fail
  refine C0.mono ?_;rintro e w1 ⟨rfl,rfl⟩;go_wp2_with fail
  go_loopg [22] (b.size) (λgk x wr=>∃ j:Nat,x=.int .i64 j/\gk=b.size - j/\j<=b.size/\Hid (R=(b.data.toList.drop j).all (λc=>Wlx.cap c || Wlx.dig c))/\wr=w)
  case atStart=>exact ⟨0,rfl,rfl,Nat.zero_le _,E0,rfl⟩
  case round =>
   obtain ⟨j,rfl,hg,hj,HR,rfl⟩:=hrel;by_cases hlt:j<b.size
   ·have hli:(j:Int)<(b.size:Int):=by omega
    have hd:=zEX (λc=>Wlx.cap c || Wlx.dig c) b j hlt;have C1:=C (b[j]) wr;have C2:=zGx (b[j]) wr;cases h1:Wlx.cap (b[j]) with
    | true =>
     have E:Hid (R=(b.data.toList.drop (j+1)).all (λc=>Wlx.cap c || Wlx.dig c)):=by show _=_;rw [HR.out,hd,h1];rfl
     rw [h1] at C1;clear HR hd h1 C2 C0;go_wp2_with fail
     refine C1.mono ?_;rintro e w1 ⟨rfl,rfl⟩;go_wp2_with fail
     go_roundg (b.size - (j+1))
     case rel=>exact ⟨j+1,by simp,rfl,hlt,E,by first | trivial | rfl⟩
     case measure=>omega
    | false =>
     cases h2:Wlx.dig (b[j]) with
     | true =>
      have E:Hid (R=(b.data.toList.drop (j+1)).all (λc=>Wlx.cap c || Wlx.dig c)):=by show _=_;rw [HR.out,hd,h1,h2];rfl
      rw [h1] at C1;rw [h2] at C2;clear HR hd h1 h2 C0;go_wp2_with fail
      refine C1.mono ?_;rintro e w1 ⟨rfl,rfl⟩;go_wp2_with fail
      refine C2.mono ?_;rintro e w1 ⟨rfl,rfl⟩;go_wp2_with fail
      go_roundg (b.size - (j+1))
      case rel=>exact ⟨j+1,by simp,rfl,hlt,E,by first | trivial | rfl⟩
      case measure=>omega
     | false =>
      have E:Hid (R=false):=by show _=_;rw [HR.out,hd,h1,h2];rfl
      rw [h1] at C1;rw [h2] at C2;clear HR hd h1 h2 C0;go_wp2_with fail
      refine C1.mono ?_;rintro e w1 ⟨rfl,rfl⟩;go_wp2_with fail
      refine C2.mono ?_;rintro e w1 ⟨rfl,rfl⟩;go_wp2;go_ret;exact ⟨by rw [E.out];rfl,rfl⟩
   ·have hli:¬ (j:Int)<(b.size:Int):=by omega
    have E:Hid (R=true):=by show _=_;rw [HR.out,zBQ b j hlt];rfl
    clear HR C0;go_wp2;go_ret;exact ⟨by rw [E.out];rfl,rfl⟩
theorem zKu (b:ByteArray) (w:World) (hs:b.size<=9223372036854775807) :
  Calls prog 148 #[.string b,.func (.func 168) #[] #[]] w λe w'=>e=.returned (.bool (Wt.isNm Wt.ltr b.data.toList))/\w=w':=by
 have C:∀ (c:UInt8) (w:World),Calls prog 168 #[.int .u8 c.toNat] w λe w'=>e=.returned (.bool (Wt.ltr c))/\w=w':=zLR
 have hl:b.data.toList.length=b.size:=rfl;by_cases h0:b=⟨#[]⟩
 ·subst h0;go_enter func148,ntmps148;go_wp2;go_ret;exact ⟨rfl,rfl⟩
 have h1:0<b.size:=by
  rcases Nat.eq_zero_or_pos b.size with h | h
  ·exact absurd (ByteArray.size_eq_zero_iff.1 h) h0
  ·exact h
 have hb0:b.toList.isEmpty=false:=by
  rw [ByteArray.toList_eq];cases hh:b.data.toList with
  | nil=>rw [hh] at hl;exact absurd hl (by show ¬ 0=_;omega)
  | cons _ _=>rfl
 by_cases h16:16<b.size
 ·have h16i:(16:Int)<(b.size:Int):=by omega
  have E:Hid (Wt.isNm Wt.ltr b.data.toList=false):=by
   show _=_
   unfold Wt.isNm;rw [hl,decide_eq_false (p:=b.size<=16) (by omega)];simp
  rw [E.out];clear E;go_enter func148,ntmps148;go_wp2;go_ret;exact ⟨rfl,rfl⟩
 have h16i:¬ (16:Int)<(b.size:Int):=by omega
 have E0:Wt.isNm Wt.ltr b.data.toList=(Wt.ltr (b[0]) && b.data.toList.all (λc=>Wt.ltr c || Wlx.dig c)):=by
  unfold Wt.isNm;rw [hl,decide_eq_true (by omega),decide_eq_true (by omega),zIR b h1];simp
 rw [E0];clear E0;have C0:=C (b[0]) w;cases hp:Wt.ltr (b[0]) with
 | false =>
  rw [hp] at C0;go_enter func148,ntmps148;go_wp2_with fail
  refine C0.mono ?_;rintro e w1 ⟨rfl,rfl⟩;go_wp2;go_ret;exact ⟨rfl,rfl⟩
 | true =>
  rw [hp] at C0;clear hp;obtain ⟨R,hR⟩:∃ R,b.data.toList.all (λc=>Wt.ltr c || Wlx.dig c)=R:=⟨_,rfl⟩
  have E0:Hid (R=(b.data.toList.drop 0).all (λc=>Wt.ltr c || Wlx.dig c)):=hR.symm;rw [hR];clear hR;go_enter func148,ntmps148;go_wp2_with fail
  refine C0.mono ?_;rintro e w1 ⟨rfl,rfl⟩;go_wp2_with fail
  go_loopg [22] (b.size) (λgk x wr=>∃ j:Nat,x=.int .i64 j/\gk=b.size - j/\j<=b.size/\Hid (R=(b.data.toList.drop j).all (λc=>Wt.ltr c || Wlx.dig c))/\wr=w)
  case atStart=>exact ⟨0,rfl,rfl,Nat.zero_le _,E0,rfl⟩
  case round =>
   obtain ⟨j,rfl,hg,hj,HR,rfl⟩:=hrel;by_cases hlt:j<b.size
   ·have hli:(j:Int)<(b.size:Int):=by omega
    have hd:=zEX (λc=>Wt.ltr c || Wlx.dig c) b j hlt;have C1:=C (b[j]) wr;have C2:=zGx (b[j]) wr;cases h1:Wt.ltr (b[j]) with
    | true =>
     have E:Hid (R=(b.data.toList.drop (j+1)).all (λc=>Wt.ltr c || Wlx.dig c)):=by show _=_;rw [HR.out,hd,h1];rfl
     rw [h1] at C1;clear HR hd h1 C2 C0;go_wp2_with fail
     refine C1.mono ?_;rintro e w1 ⟨rfl,rfl⟩;go_wp2_with fail
     go_roundg (b.size - (j+1))
     case rel=>exact ⟨j+1,by simp,rfl,hlt,E,by first | trivial | rfl⟩
     case measure=>omega
    | false =>
     cases h2:Wlx.dig (b[j]) with
     | true =>
      have E:Hid (R=(b.data.toList.drop (j+1)).all (λc=>Wt.ltr c || Wlx.dig c)):=by show _=_;rw [HR.out,hd,h1,h2];rfl
      rw [h1] at C1;rw [h2] at C2;clear HR hd h1 h2 C0;go_wp2_with fail
      refine C1.mono ?_;rintro e w1 ⟨rfl,rfl⟩;go_wp2_with fail
      refine C2.mono ?_;rintro e w1 ⟨rfl,rfl⟩;go_wp2_with fail
      go_roundg (b.size - (j+1))
      case rel=>exact ⟨j+1,by simp,rfl,hlt,E,by first | trivial | rfl⟩
      case measure=>omega
     | false =>
      have E:Hid (R=false):=by show _=_;rw [HR.out,hd,h1,h2];rfl
      rw [h1] at C1;rw [h2] at C2;clear HR hd h1 h2 C0;go_wp2_with fail
      refine C1.mono ?_;rintro e w1 ⟨rfl,rfl⟩;go_wp2_with fail
      refine C2.mono ?_;rintro e w1 ⟨rfl,rfl⟩;go_wp2;go_ret;exact ⟨by rw [E.out];rfl,rfl⟩
   ·have hli:¬ (j:Int)<(b.size:Int):=by omega
    have E:Hid (R=true):=by show _=_;rw [HR.out,zBQ b j hlt];rfl
    clear HR C0;go_wp2;go_ret;exact ⟨by rw [E.out];rfl,rfl⟩
theorem zIy (b:ByteArray) (w:World) (hs:b.size<=9223372036854775807):Calls prog 122 #[.string b] w λe w'=>e=.returned (.bool (Wt.fnNm b))/\w=w':=by
 have C:=zKD b w hs;unfold Wt.fnNm;generalize Wt.isNm Wlx.cap b.data.toList=R at *;go_enter func122,ntmps122;go_wp2_with fail
 refine C.mono ?_;rintro e w1 ⟨rfl,rfl⟩;go_wp2;go_ret;exact ⟨rfl,rfl⟩
theorem zIi (b:ByteArray) (w:World) (hs:b.size<=9223372036854775807):Calls prog 147 #[.string b] w λe w'=>e=.returned (.bool (Wt.shNm b))/\w=w':=by
 have C:=zKu b w hs;unfold Wt.shNm;generalize Wt.isNm Wt.ltr b.data.toList=R at *;go_enter func147,ntmps147;go_wp2_with fail
 refine C.mono ?_;rintro e w1 ⟨rfl,rfl⟩;go_wp2;go_ret;exact ⟨rfl,rfl⟩
theorem zQ5 (r c:Int):Wpl.rightC 0 r c=Wt.inR r c:=by
 unfold Wpl.rightC Wpl.inB Wt.inR;rw [Bool.eq_iff_iff];simp
theorem zHN {b:ByteArray} (h:¬ b=⟨#[]⟩):b.toList.isEmpty=false:=by
 rw [ByteArray.toList_eq];cases hh:b.data.toList with
 | nil=>exact absurd (by obtain ⟨⟨l⟩⟩:=b;simp at hh;subst hh;rfl) h
 | cons _ _=>rfl
theorem zF8 (a:Wt.Rf) (w:World) (hs:a.s.size<=9223372036854775807):CR 119 #[rfV a] w (.bool (Wt.rfOk a)):=by
 obtain ⟨s,r,c,fr,fc⟩:=a;unfold Wt.rfOk;simp only;show Calls _ _ #[.agg #[.string s,.int .i64 r,.int .i64 c,.bool fr,.bool fc]] _ _
 have C1:=λw=>zAr 0 r c w
 rw [zQ5] at C1;have C2:=λw=>zIi s w hs
 generalize Wt.inR r c=q at *;cases q
 ·go_enter func119,ntmps119;go_wp2_with fail
  refine (C1 _).mono ?_;rintro e w1 ⟨rfl,hb⟩;have hB:=zAA (zAH (Below.refl _ w) _) hb;go_wp2;go_ret;exact ⟨rfl,hB⟩
 by_cases h0:s=⟨#[]⟩
 ·subst h0;go_enter func119,ntmps119;go_wp2_with fail
  refine (C1 _).mono ?_;rintro e w1 ⟨rfl,hb⟩;have hB:=zAA (zAH (Below.refl _ w) _) hb;obtain ⟨c0,c1,c2,c3,c4⟩:=(AtL.below hb (AtL.new0 w _ [.string ⟨#[]⟩,.int .i64 r,.int .i64 c,.bool fr,.bool fc])).f5;go_wp2;go_ret;exact ⟨rfl,hB⟩
 ·have hE:=zHN h0;rw [decide_eq_false h0];generalize Wt.shNm s=q at *;go_enter func119,ntmps119;go_wp2_with fail
  refine (C1 _).mono ?_;rintro e w1 ⟨rfl,hb⟩;have hB:=zAA (zAH (Below.refl _ w) _) hb;obtain ⟨c0,c1,c2,c3,c4⟩:=(AtL.below hb (AtL.new0 w _ [.string s,.int .i64 r,.int .i64 c,.bool fr,.bool fc])).f5;go_wp2_with fail
  refine (C2 _).mono ?_;rintro e w2 ⟨rfl,rfl⟩;go_wp2;go_ret;exact ⟨by simp,hB⟩
theorem zID (v:Wt.Vl) (w:World) (h1:-9223372036854775808<=v.n) (h2:v.n<=9223372036854775807) (h3:-9223372036854775808<=v.d) (h4:v.d<=9223372036854775807) (hs:v.t.size<=9223372036854775807) :
  CR 107 #[vlV v] w (.bool (Wv.right v.k v.n v.d v.t v.b v.f)):=by
 obtain ⟨k,n,d,t,b,f⟩:=v;simp only at h1 h2 h3 h4 hs ⊢;show Calls _ _ #[.agg #[.int .i64 k,.int .i64 n,.int .i64 d,.string t,.bool b,.int .i64 f]] _ _
 by_cases e0:k=0
 ·subst e0;exact zMn n d t b f w
 by_cases e0:k=1
 ·subst e0;exact zLw n d t b f w h1 h2 h3 h4
 by_cases e0:k=2
 ·subst e0;exact zLH n d t b f w hs
 by_cases e0:k=3
 ·subst e0;exact zM6 n d t b f w
 by_cases e0:k=4
 ·subst e0;exact zML n d t b f w
 exact zMF k n d t b f w (by omega)
theorem zN6 (v:Wt.Vl) (w:World) (h1:-9223372036854775808<=v.n) (h2:v.n<=9223372036854775807) (h3:-9223372036854775808<=v.d) (h4:v.d<=9223372036854775807) (hs:v.t.size<=9223372036854775807) :
  CR 118 #[vlV v] w (.bool (Wt.vlOk v)):=by
 have C:=λw=>zID v w h1 h2 h3 h4 hs
 obtain ⟨k,n,d,t,b,f⟩:=v;unfold Wt.vlOk;simp only [vlV,vl6] at h1 h2 h3 h4 hs C ⊢;show Calls _ _ #[.agg #[.int .i64 k,.int .i64 n,.int .i64 d,.string t,.bool b,.int .i64 f]] _ _
 by_cases e0:k=0
 ·subst e0;go_enter func118,ntmps118;go_wp2;go_ret;exact ⟨rfl,clA⟩
 rw [if_neg e0];by_cases e1:k=1
 ·subst e1;rw [if_pos rfl];have hr:Wv.right 1 n d t b f=true->1<=d:=by
   unfold Wv.right;rw [if_neg (by decide),if_pos rfl];intro h;simp only [Bool.and_eq_true] at h;have:=h.1.1.1;unfold Wnum.rightB at this;have:=of_decide_eq_true this;omega
  generalize Wv.right 1 n d t b f=q at *;cases q
  ·go_enter func118,ntmps118;go_wp2_with fail
   refine (C _).mono ?_;rintro e w1 ⟨rfl,hb⟩;have hB:=zAA (zAH (Below.refl _ w) _) hb;go_wp2;go_ret;exact ⟨rfl,hB⟩
  have hd:=hr rfl;clear hr;by_cases hn:0<=n
  ·have hd0:¬ d=0:=by omega
   have hdm:¬ d = -1:=by omega
   rw [decide_eq_true hn];go_enter func118,ntmps118;go_wp2_with fail
   refine (C _).mono ?_;rintro e w1 ⟨rfl,hb⟩;have hB:=zAA (zAH (Below.refl _ w) _) hb;obtain ⟨c0,c1,c2,c3,c4,c5⟩:=(AtL.below hb (AtL.new0 w _ [.int .i64 1,.int .i64 n,.int .i64 d,.string t,.bool b,.int .i64 f])).f6;go_wp2;go_ret;refine ⟨zAm ?_,hB⟩;rw [Bool.eq_iff_iff];simp
  ·rw [decide_eq_false hn];go_enter func118,ntmps118;go_wp2_with fail
   refine (C _).mono ?_;rintro e w1 ⟨rfl,hb⟩;have hB:=zAA (zAH (Below.refl _ w) _) hb;obtain ⟨c0,c1,c2,c3,c4,c5⟩:=(AtL.below hb (AtL.new0 w _ [.int .i64 1,.int .i64 n,.int .i64 d,.string t,.bool b,.int .i64 f])).f6;go_wp2;go_ret;exact ⟨zAm (by simp),hB⟩
 rw [if_neg e1];generalize Wv.right k n d t b f=q at *;have e0':(k == 0)=false:=by simp [e0]
 have e1':(k == 1)=false:=by simp [e1]
 go_enter func118,ntmps118;go_wp2_with fail
 refine (C _).mono ?_;rintro e w1 ⟨rfl,hb⟩;have hB:=zAA (zAH (Below.refl _ w) _) hb;go_wp2;go_ret;exact ⟨rfl,hB⟩
theorem zE1 (o:Int) (m:ByteArray) (tt:Int) (w:World):CR 121 #[.agg #[.int .i64 o,.string m,.int .i64 tt]] w (.int .i64 (if tt<5 then 5 else 4)):=by
 by_cases h:tt<5
 ·rw [if_pos h];go_enter func121,ntmps121;go_wp2;go_ret;exact ⟨rfl,clA⟩
 ·rw [if_neg h];go_enter func121,ntmps121;go_wp2;go_ret;exact ⟨rfl,clA⟩
def opV (x:Option (Int × List UInt8 × Int)):Value:=match x with
 | some (o,m,t)=>.tuple #[.agg #[.int .i64 o,.string ⟨m.toArray⟩,.int .i64 t],.bool true]
 | none=>.tuple #[.agg #[.int .i64 0,.string ⟨#[]⟩,.int .i64 0],.bool false]
theorem zEx:∀ (j:Nat) (h:j<Wt.opsT.length) (w:World),(Instr.index 244 (.agg opsR.toArray) (.int .i64 (j:Int))).run prog w=.ok (.agg #[.int .i64 (Wt.opsT[j]).1,.string ⟨(Wt.opsT[j]).2.1.toArray⟩,.int .i64 (Wt.opsT[j]).2.2]) w
 | 0,_,w=>by kernel_rfl
 | 1,_,w=>by kernel_rfl
 | 2,_,w=>by kernel_rfl
 | 3,_,w=>by kernel_rfl
 | 4,_,w=>by kernel_rfl
 | 5,_,w=>by kernel_rfl
 | 6,_,w=>by kernel_rfl
 | 7,_,w=>by kernel_rfl
 | 8,_,w=>by kernel_rfl
 | 9,_,w=>by kernel_rfl
 | 10,_,w=>by kernel_rfl
 | 11,_,w=>by kernel_rfl
 | 12,_,w=>by kernel_rfl
 | 13,_,w=>by kernel_rfl
 | 14,_,w=>by kernel_rfl
 | j+15,h,w=>absurd h (by show ¬ j+15<15;omega)
theorem zKp (o:Int) (w:World) (hO:OpsAt w):CR 120 #[.int .i64 o] w (opV (Wt.opOf o)):=by
 have E0:Hid (Wt.opOf o=(Wt.opsT.drop 0).find? λx=>x.1 == o):=(rfl:Wt.opOf o=_)
 obtain ⟨R,hR⟩:∃ R,Wt.opOf o=R:=⟨_,rfl⟩
 rw [hR] at E0 ⊢;clear hR;have hO2:World.rangeAt (w.alloc (.cells #[.int .i64 0,.string ⟨#[]⟩,.int .i64 0] 211)) 1 0 opsR:=hO.alloc (.cells #[.int .i64 0,.string ⟨#[]⟩,.int .i64 0] 211);go_enter func120,ntmps120;go_upto_region 1 with fail
 go_wp2_with ((with_reducible refine wpList_load_mid (cs:=opsR) ?_ 244 (.global 1) ?_ 1 0 ?_ _ hO2 underlying244 ?_ ?_ ?_);rfl;rfl;rfl;rfl;kernel_rfl)
 go_loopg [7] 15 (λgk x wr=>∃ j:Nat,x=.int .i64 j/\gk=15 - j/\j<=15/\Hid (R=(Wt.opsT.drop j).find? λx=>x.1 == o)/\Below w.heap.size w wr/\Hid (AtL wr w.heap.size [.int .i64 0,.string ⟨#[]⟩,.int .i64 0]))
 case atStart=>exact ⟨0,rfl,rfl,Nat.zero_le _,E0,zAH (Below.refl _ _) _,AtL.new0 w _ [.int .i64 0,.string ⟨#[]⟩,.int .i64 0]⟩
 case round =>
  obtain ⟨j,rfl,hg,hj,HR,hb,HA⟩:=hrel;by_cases hlt:j<15
  ·have hli:(j:Int)<15:=by omega
   have hix:=zEx j hlt;have hd:=List.drop_eq_getElem_cons (l:=Wt.opsT) hlt;generalize Wt.opsT[j]=x at *;obtain ⟨oj,mj,tj⟩:=x;simp only at hix;rw [hd] at HR;clear hd;have P0:=AtL.alloc HA.out (.cells #[.int .i64 oj,.string ⟨mj.toArray⟩,.int .i64 tj] 211);have hb2:=zAH hb (.cells #[.int .i64 oj,.string ⟨mj.toArray⟩,.int .i64 tj] 211);obtain ⟨a0,a1,a2,f0,f1,f2⟩:=HA.out.three;have hsz:=HA.out.1;have hne:¬ w.heap.size=wr.heap.size:=by omega
   have hne2:¬ wr.heap.size=w.heap.size:=by omega
   by_cases ho:oj=o
   ·have E:Hid (R=some (oj,mj,tj)):=by show _=_;rw [HR.out,List.find?_cons_of_pos (by simp [ho])]
    clear HR;subst ho;go_wp2;refine bodyPost_ret (v:=.tuple #[.agg #[.int .i64 oj,.string ⟨mj.toArray⟩,.int .i64 tj],.bool true]) (by simp [results,results120,go_sem, *]) rfl ⟨by rw [E.out];rfl,?_⟩;exact (clB hb)
   ·have ho2:(oj == o)=false:=by simp [ho]
    have E:Hid (R=(Wt.opsT.drop (j+1)).find? λx=>x.1 == o):=by show _=_;rw [HR.out,List.find?_cons_of_neg (by simp [ho])]
    clear HR;go_wp2_with fail
    go_roundg (15 - (j+1))
    case rel=>exact ⟨j+1,by simp,rfl,hlt,E,hb2,P0⟩
    case measure=>omega
  ·have hli:¬ (j:Int)<15:=by omega
   have E:Hid (R=none):=by
    show _=_
    rw [HR.out,List.drop_eq_nil_of_le (by show 15<=j;omega)];rfl
   clear HR;obtain ⟨a0,a1,a2,f0,f1,f2⟩:=HA.out.three;go_wp2;refine bodyPost_ret (v:=.tuple #[.agg #[.int .i64 0,.string ⟨#[]⟩,.int .i64 0],.bool false]) (by simp [results,results120,go_sem, *]) rfl ⟨by rw [E.out];rfl,?_⟩;exact (clB hb)
theorem zIe (m:ByteArray) (tt:Int) (w:World) (hO:OpsAt w):CR 199 #[.string m,.int .i64 tt] w (opV (Wt.opAs m.data.toList tt)):=by
 have E0:Hid (Wt.opAs m.data.toList tt=(Wt.opsT.drop 0).find? λx=>(x.2.1 == m.data.toList) && (x.2.2 == tt)):=(rfl:Wt.opAs m.data.toList tt=_)
 obtain ⟨R,hR⟩:∃ R,Wt.opAs m.data.toList tt=R:=⟨_,rfl⟩
 rw [hR] at E0 ⊢;clear hR;have hO2:World.rangeAt (w.alloc (.cells #[.int .i64 0,.string ⟨#[]⟩,.int .i64 0] 211)) 1 0 opsR:=hO.alloc (.cells #[.int .i64 0,.string ⟨#[]⟩,.int .i64 0] 211);go_enter func199,ntmps199;go_upto_region 1 with fail
 go_wp2_with ((with_reducible refine wpList_load_mid (cs:=opsR) ?_ 244 (.global 1) ?_ 1 0 ?_ _ hO2 underlying244 ?_ ?_ ?_);rfl;rfl;rfl;rfl;kernel_rfl)
 go_loopg [9] 15 (λgk x wr=>∃ j:Nat,x=.int .i64 j/\gk=15 - j/\j<=15/\Hid (R=(Wt.opsT.drop j).find? λx=>(x.2.1 == m.data.toList) && (x.2.2 == tt))/\Below w.heap.size w wr/\Hid (AtL wr w.heap.size [.int .i64 0,.string ⟨#[]⟩,.int .i64 0]))
 case atStart=>exact ⟨0,rfl,rfl,Nat.zero_le _,E0,zAH (Below.refl _ _) _,AtL.new0 w _ [.int .i64 0,.string ⟨#[]⟩,.int .i64 0]⟩
 case round =>
  obtain ⟨j,rfl,hg,hj,HR,hb,HA⟩:=hrel;by_cases hlt:j<15
  ·have hli:(j:Int)<15:=by omega
   have hix:=zEx j hlt;have hd:=List.drop_eq_getElem_cons (l:=Wt.opsT) hlt;generalize Wt.opsT[j]=x at *;obtain ⟨oj,mj,tj⟩:=x;simp only at hix;rw [hd] at HR;clear hd;have P0:=AtL.alloc HA.out (.cells #[.int .i64 oj,.string ⟨mj.toArray⟩,.int .i64 tj] 211);have hb2:=zAH hb (.cells #[.int .i64 oj,.string ⟨mj.toArray⟩,.int .i64 tj] 211);obtain ⟨a0,a1,a2,f0,f1,f2⟩:=HA.out.three;have hsz:=HA.out.1;have hne:¬ w.heap.size=wr.heap.size:=by omega
   have hne2:¬ wr.heap.size=w.heap.size:=by omega
   by_cases hm3:mj=m.toList
   ·subst hm3;have hm:m.toList=m.data.toList:=ByteArray.toList_eq m;by_cases ho:tj=tt
    ·have E:Hid (R=some (oj,m.toList,tj)):=by show _=_;rw [HR.out,List.find?_cons_of_pos (by simp [ho,hm])]
     clear HR hm;subst ho;go_wp2;refine bodyPost_ret (v:=.tuple #[.agg #[.int .i64 oj,.string ⟨m.toList.toArray⟩,.int .i64 tj],.bool true]) (by simp [results,results199,go_sem, *]) rfl ⟨by rw [E.out];rfl,?_⟩;exact (clB hb)
    ·have ho2:(tj == tt)=false:=by simp [ho]
     have E:Hid (R=(Wt.opsT.drop (j+1)).find? λx=>(x.2.1 == m.data.toList) && (x.2.2 == tt)):=by show _=_;rw [HR.out,List.find?_cons_of_neg (by simp [ho])]
     clear HR hm;go_wp2_with fail
     go_roundg (15 - (j+1))
     case rel=>exact ⟨j+1,by simp,rfl,hlt,E,hb2,P0⟩
     case measure=>omega
   ·have hm:¬ mj=m.data.toList:=by rw [<-ByteArray.toList_eq];exact hm3
    have hm4:(mj == m.toList)=false:=by simp [hm3]
    have E:Hid (R=(Wt.opsT.drop (j+1)).find? λx=>(x.2.1 == m.data.toList) && (x.2.2 == tt)):=by show _=_;rw [HR.out,List.find?_cons_of_neg (by simp [hm])]
    clear HR hm;go_wp2_with fail
    go_roundg (15 - (j+1))
    case rel=>exact ⟨j+1,by simp,rfl,hlt,E,hb2,P0⟩
    case measure=>omega
  ·have hli:¬ (j:Int)<15:=by omega
   have E:Hid (R=none):=by
    show _=_
    rw [HR.out,List.drop_eq_nil_of_le (by show 15<=j;omega)];rfl
   clear HR;obtain ⟨a0,a1,a2,f0,f1,f2⟩:=HA.out.three;go_wp2;refine bodyPost_ret (v:=.tuple #[.agg #[.int .i64 0,.string ⟨#[]⟩,.int .i64 0],.bool false]) (by simp [results,results199,go_sem, *]) rfl ⟨by rw [E.out];rfl,?_⟩;exact (clB hb)
theorem zHl (x:Wt.Nd) (w:World):CR 92 #[ndV x] w (.int .i64 (Wt.parts x)):=by
 obtain ⟨k,⟨vk,vn,vd,vt,vb,vf⟩,op,nm,ar,⟨sa,ra,ca,fra,fca⟩,⟨sb,rb,cb,frb,fcb⟩⟩:=x;unfold Wt.parts;simp only [ndV,zAK];by_cases h4:k=4
 ·subst h4;go_enter func92,ntmps92;go_wp2;go_ret;exact ⟨rfl,clA⟩
 have h4':(k == 4)=false:=by simp [h4]
 rw [if_neg h4];by_cases h5:k=5
 ·subst h5;go_enter func92,ntmps92;go_wp2;go_ret;exact ⟨rfl,clA⟩
 have h5':(k == 5)=false:=by simp [h5]
 rw [if_neg h5];go_enter func92,ntmps92;go_wp2;go_ret;exact ⟨rfl,clA⟩
def zNj (x y:Wt.Vl):Bool:=eqV x.k x.n x.d x.t x.b x.f y.k y.n y.d y.t y.b y.f
def zQD (x y:Wt.Rf):Bool:=eqR x.s x.r x.c x.fr x.fc y.s y.r y.c y.fr y.fc
def eqN (x y:Wt.Nd):Bool:=(x.k == y.k) && (zNj x.v y.v && ((x.op == y.op) && ((x.nm == y.nm) && ((x.ar == y.ar) && (zQD x.a y.a && zQD x.b y.b)))))
theorem zMJ (x y:Wt.Vl):zNj x y=true ↔ x=y:=by
 obtain ⟨k,n,d,t,b,f⟩:=x;obtain ⟨k',n',d',t',b',f'⟩:=y;simp [zNj,eqV,zC3]
theorem zLp (x y:Wt.Rf):zQD x y=true ↔ x=y:=by
 obtain ⟨k,n,d,t,b⟩:=x;obtain ⟨k',n',d',t',b'⟩:=y;simp [zQD,eqR,zC3]
theorem zFi (x y:Wt.Nd):eqN x y=true ↔ x=y:=by
 obtain ⟨k,v,op,nm,ar,a,b⟩:=x;obtain ⟨k',v',op',nm',ar',a',b'⟩:=y;simp [eqN,zC3,zMJ,zLp]
theorem zDX (x y:Wt.Nd) (w:World):(binOp .eql 102 (ndV x) (ndV y)).run prog w=.ok (.bool (eqN x y)) w:=by
 obtain ⟨k,⟨vk,vn,vd,vt,vb,vf⟩,op,nm,ar,⟨sa,ra,ca,fra,fca⟩,⟨sb,rb,cb,frb,fcb⟩⟩:=x;obtain ⟨k',⟨vk',vn',vd',vt',vb',vf'⟩,op',nm',ar',⟨sa',ra',ca',fra',fca'⟩,⟨sb',rb',cb',frb',fcb'⟩⟩:=y;have e1:=λw=>zNF 9996 vk vn vd vt vb vf vk' vn' vd' vt' vb' vf' w
 have e2:=λw=>zMw 9997 sa ra ca fra fca sa' ra' ca' fra' fca' w
 have e3:=λw=>zMw 9997 sb rb cb frb fcb sb' rb' cb' frb' fcb' w
 simp only [Nat.reduceAdd] at e1 e2 e3;simp only [ndV,zAK,eqN,zNj,zQD];generalize eqV vk vn vd vt vb vf vk' vn' vd' vt' vb' vf'=q1 at *;generalize eqR sa ra ca fra fca sa' ra' ca' fra' fca'=q2 at *;generalize eqR sb rb cb frb fcb sb' rb' cb' frb' fcb'=q3 at *;rw [run_eql_struct,beq_toListBytes];by_cases h1:k=k'
 ·cases q1
  ·simp [go_sem,h1,e1]
  ·by_cases h2:op=op'
   ·by_cases h3:nm.toList=nm'.toList
    ·by_cases h4:ar=ar'
     ·cases q2
      ·simp [go_sem,h1,h2,h3,h4,e1,e2]
      ·cases q3 <;> simp [go_sem,h1,h2,h3,h4,e1,e2,e3]
     ·simp [go_sem,h1,h2,h3,h4,e1]
    ·simp [go_sem,h1,h2,h3,e1]
   ·simp [go_sem,h1,h2,e1]
 ·simp [go_sem,h1]
