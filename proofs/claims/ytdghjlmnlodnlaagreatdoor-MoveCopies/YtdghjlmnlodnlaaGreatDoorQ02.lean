/- VWalkA, VEq, PPlain, PWalkA, VWalkB, VWalkC, TKit, TWalkA. -/
import Derived.Test.YtdghjlmnlodnlaaGreatDoorQ01
import Derived.Deep.LoopGhost
import Derived.Deep.MidRow
set_option maxHeartbeats 800000
set_option maxRecDepth 100000
namespace Go.Proofs.YtdghjlmnlodnlaaGreatDoor
open Go.RowKit Tryz
set_option linter.unusedVariables false
theorem zEV (f:Int) (w:World):Calls prog 47 #[.int .i64 f] w λe w'=>e=.returned (.bool (Wv.flt f))/\w=w':=by
 unfold Wv.flt;go_enter func47,ntmps47;by_cases a:1<=f
 ·go_wp2;go_ret;exact ⟨zA3 (by simp [a]),rfl⟩
 ·go_wp2;go_ret;exact ⟨zA3 (by rw [decide_eq_false (by omega)];rfl),rfl⟩
theorem zKw (c:UInt8):Wlx.prt c=(decide (32<=(c.toNat:Int)) && decide ((c.toNat:Int)<=126)):=by
 unfold Wlx.prt;simp
theorem zH9 (b:ByteArray) (w:World) (hs:b.size<=9223372036854775807):Calls prog 131 #[.string b] w λe w'=>e=.returned (.bool (Wv.prts b.data.toList))/\w=w':=by
 obtain ⟨R,hR⟩:∃ R,Wv.prts b.data.toList=R:=⟨_,rfl⟩
 have E0:Hid (R=Wv.prts (b.data.toList.drop 0)):=hR.symm;rw [hR];clear hR;go_enter func131,ntmps131;go_wp2_with fail
 go_loopg [6] (b.size) (λgk x wr=>∃ j:Nat,x=.int .i64 j/\gk=b.size - j/\j<=b.size/\Hid (R=Wv.prts (b.data.toList.drop j))/\wr=w)
 case atStart=>exact ⟨0,rfl,rfl,Nat.zero_le _,E0,rfl⟩
 case round =>
  obtain ⟨j,rfl,hg,hj,HR,rfl⟩:=hrel;by_cases hlt:j<b.size
  ·have hli:(j:Int)<(b.size:Int):=by omega
   have hd:=zA9 b j hlt;have hp:=zKw (b[j]);by_cases c1:((b[j]).toNat:Int)<32
   ·have E:Hid (R=false):=by show _=_;rw [HR.out,hd,Wv.prts_cons,hp,decide_eq_false (by omega)];rfl
    clear HR hd hp;go_wp2;go_ret;exact ⟨by rw [E.out];rfl,rfl⟩
   ·by_cases c2:(126:Int)<((b[j]).toNat:Int)
    ·have E:Hid (R=false):=by show _=_;rw [HR.out,hd,Wv.prts_cons,hp,decide_eq_false (p:=((b[j]).toNat:Int)<=126) (by omega)];simp
     clear HR hd hp;go_wp2;go_ret;exact ⟨by rw [E.out];rfl,rfl⟩
    ·have E:Hid (R=Wv.prts (b.data.toList.drop (j+1))):=by show _=_;rw [HR.out,hd,Wv.prts_cons,hp,decide_eq_true (by omega),decide_eq_true (by omega)];rfl
     clear HR hd hp;go_wp2_with fail
     go_roundg (b.size - (j+1))
     case rel=>exact ⟨j+1,by simp,rfl,hlt,E,by first | trivial | rfl⟩
     case measure=>omega
  ·have hli:¬ (j:Int)<(b.size:Int):=by omega
   have E:Hid (R=true):=by show _=_;rw [HR.out,zAl b j hlt];rfl
   clear HR;go_wp2;go_ret;exact ⟨by rw [E.out];rfl,rfl⟩
theorem zQ8 (a b:Int) (w:World):(if a=b then (Result.ok true w:Result Bool) else Result.ok false w)=Result.ok (a == b) w:=by by_cases h:a=b <;> simp [h]
theorem zNW (a b:Bool) (w:World):(if a=b then (Result.ok true w:Result Bool) else Result.ok false w)=Result.ok (a == b) w:=by by_cases h:a=b <;> simp [h]
theorem zDI (a b:ByteArray):((a == b)=true)=(a=b):=by
 obtain ⟨⟨x⟩⟩:=a;obtain ⟨⟨y⟩⟩:=b;have h:((⟨⟨x⟩⟩:ByteArray) == ⟨⟨y⟩⟩)=(x == y):=by
  show ((⟨x⟩:Array UInt8) == ⟨y⟩)=(x == y)
  simp
 rw [h];simp
def eqV (k n d:Int) (t:ByteArray) (b:Bool) (f:Int) (k' n' d':Int) (t':ByteArray) (b':Bool) (f':Int):Bool :=
 (k == k') && ((n == n') && ((d == d') && ((t == t') && ((b == b') && (f == f')))))
theorem zNJ (x:Nat) (k n d:Int) (t:ByteArray) (b:Bool) (f:Int) (k' n' d':Int) (t':ByteArray) (b':Bool) (f':Int) (w:World) :
  (Op.equalIn (x+3) 26 (.agg #[.int .i64 k,.int .i64 n,.int .i64 d,.string t,.bool b,.int .i64 f]) (.agg #[.int .i64 k',.int .i64 n',.int .i64 d',.string t',.bool b',.int .i64 f'])).run prog w=.ok (eqV k n d t b f k' n' d' t' b' f') w:=by
 unfold eqV;rw [beq_toListBytes];by_cases h1:k=k'
 ·by_cases h2:n=n'
  ·by_cases h3:d=d'
   ·by_cases h4:t.toList=t'.toList
    ·by_cases h5:b=b'
     ·simp [go_sem,h1,h2,h3,h4,h5,zQ8]
     ·simp [go_sem,h1,h2,h3,h4,h5]
    ·simp [go_sem,h1,h2,h3,h4]
   ·simp [go_sem,h1,h2,h3]
  ·simp [go_sem,h1,h2]
 ·simp [go_sem,h1]
theorem zBe (k n d:Int) (t:ByteArray) (b:Bool) (f:Int) (k' n' d':Int) (t':ByteArray) (b':Bool) (f':Int) (w:World) :
  (binOp .eql 26 (.agg #[.int .i64 k,.int .i64 n,.int .i64 d,.string t,.bool b,.int .i64 f]) (.agg #[.int .i64 k',.int .i64 n',.int .i64 d',.string t',.bool b',.int .i64 f'])).run prog w=.ok (.bool (eqV k n d t b f k' n' d' t' b' f')) w:=by
 rw [run_eql_struct,show (10000:Nat)=9997+3 from rfl,zNJ];rfl
def eqR (s:ByteArray) (r c:Int) (fr fc:Bool) (s':ByteArray) (r' c':Int) (fr' fc':Bool):Bool :=
 (s == s') && ((r == r') && ((c == c') && ((fr == fr') && (fc == fc'))))
theorem zNU (x:Nat) (s:ByteArray) (r c:Int) (fr fc:Bool) (s':ByteArray) (r' c':Int) (fr' fc':Bool) (w:World) :
  (Op.equalIn (x+2) 28 (.agg #[.string s,.int .i64 r,.int .i64 c,.bool fr,.bool fc]) (.agg #[.string s',.int .i64 r',.int .i64 c',.bool fr',.bool fc'])).run prog w=.ok (eqR s r c fr fc s' r' c' fr' fc') w:=by
 unfold eqR;rw [beq_toListBytes];by_cases h1:s.toList=s'.toList
 ·by_cases h2:r=r'
  ·by_cases h3:c=c'
   ·by_cases h4:fr=fr'
    ·simp [go_sem,h1,h2,h3,h4,zNW]
    ·simp [go_sem,h1,h2,h3,h4]
   ·simp [go_sem,h1,h2,h3]
  ·simp [go_sem,h1,h2]
 ·simp [go_sem,h1]
end Go.Proofs.YtdghjlmnlodnlaaGreatDoor
namespace Wpl
structure Cl where
 s:Int
 r:Int
 c:Int
structure Ar where
 s:Int
 t:Int
 l:Int
 b:Int
 r:Int
def inB (n m:Int):Bool:=decide (0<=n) && decide (n<m)
theorem inB_iff {n m:Int}:inB n m=true ↔ 0<=n/\n<m:=by simp [inB]
theorem inB_not {n m:Int}:inB n m=false ↔ ¬ (0<=n/\n<m):=by rw [<-inB_iff];simp
def rightC (s r c:Int):Bool:=inB s 16 && inB r 65536 && inB c 256
theorem rightC_iff {s r c:Int}:rightC s r c=true ↔ 0<=s/\s<16/\0<=r/\r<65536/\0<=c/\c<256:=by simp [rightC,inB];omega
theorem rightC_not {s r c:Int}:rightC s r c=false ↔ ¬ (0<=s/\s<16/\0<=r/\r<65536/\0<=c/\c<256):=by rw [<-rightC_iff];simp
def zSn (q:Int) (c:Cl):Bool:=decide (c.s ≠ q) || !rightC c.s c.r c.c
def grow (a:Ar) (c:Cl):Ar:=⟨a.s,min a.t c.r,min a.l c.c,max a.b c.r,max a.r c.c⟩
def zFV (s r c s' r' c':Int):Bool:=if s ≠ s' then decide (s<s') else if r ≠ r' then decide (r<r') else decide (c<c')
def zRq:Cl:=⟨0,0,0⟩
def shiftOk (s r c x y:Int):Bool:=rightC s r c && (inB (r+x) 65536 && inB (c+y) 256)
def shiftV (s r c x y:Int):Cl:=if shiftOk s r c x y then ⟨s,r+x,c+y⟩ else zRq
end Wpl
namespace Go.Proofs.YtdghjlmnlodnlaaGreatDoor
open Go.RowKit Tryz
set_option linter.unusedVariables false
variable {W w:World} {k ka kb:Nat} {us:List Value} {n d f:Int} {t:ByteArray} {b:Bool}
theorem zLC {B:Nat} {a:World} (h:Below B a w) (n:Nat):Below B a (w.drewN n):=⟨h.os,h.tape,h.output,h.size,h.block⟩
theorem zBb {w1:World} (h0:Below w.heap.size w W) (hb:Below W.heap.size W w1):Below w.heap.size w w1:=h0.trans (hb.mono h0.size)
theorem zPA (h:Below w.heap.size w W) (o:Obj):Below w.heap.size w (W.alloc o):=h.alloc h.size o
theorem zC6 (n m:Int) (w:World) :
  Calls prog 43 #[.int .i64 n,.int .i64 m] w λe w'=>e=.returned (.bool (Wpl.inB n m))/\w=w':=by
 unfold Wpl.inB;by_cases h:0<=n
 ·rw [decide_eq_true h];go_enter func43,ntmps43;go_wp2;go_ret;exact ⟨by simp,rfl⟩
 ·rw [decide_eq_false h];go_enter func43,ntmps43;go_wp2;go_ret;exact ⟨by simp,rfl⟩
theorem zBw (s r c:Int) (w:World) :
  CR 24 #[.agg #[.int .i64 s,.int .i64 r,.int .i64 c]] w (.bool (Wpl.rightC s r c)):=by
 have B1:=λw=>zC6 s 16 w
 have B2:=λw=>zC6 r 65536 w
 have B3:=λw=>zC6 c 256 w
 unfold Wpl.rightC;generalize Wpl.inB s 16=b1 at *;generalize Wpl.inB r 65536=b2 at *;generalize Wpl.inB c 256=b3 at *;cases b1
 ·go_enter func24,ntmps24;go_wp2_with fail
  refine (B1 _).mono ?_;rintro e w1 ⟨rfl,rfl⟩;go_wp2;go_ret;exact ⟨rfl,clA⟩
 cases b2
 ·go_enter func24,ntmps24;go_wp2_with fail
  refine (B1 _).mono ?_;rintro e w1 ⟨rfl,rfl⟩;go_wp2_with fail
  refine (B2 _).mono ?_;rintro e w1 ⟨rfl,rfl⟩;go_wp2;go_ret;exact ⟨rfl,clA⟩
 ·go_enter func24,ntmps24;go_wp2_with fail
  refine (B1 _).mono ?_;rintro e w1 ⟨rfl,rfl⟩;go_wp2_with fail
  refine (B2 _).mono ?_;rintro e w1 ⟨rfl,rfl⟩;go_wp2_with fail
  refine (B3 _).mono ?_;rintro e w1 ⟨rfl,rfl⟩;go_wp2;go_ret;exact ⟨rfl,clA⟩
abbrev Six (W:World) (k:Nat) (a b c d e f:Value):Prop :=
 W.cell? ⟨k,0,none⟩=some a/\W.cell? ⟨k,1,none⟩=some b/\W.cell? ⟨k,2,none⟩=some c/\W.cell? ⟨k,3,none⟩=some d/\W.cell? ⟨k,4,none⟩=some e/\W.cell? ⟨k,5,none⟩=some f
theorem AtL.f6 {a b c d e f:Value} (h:AtL W k [a,b,c,d,e,f]):Six W k a b c d e f:=⟨h.2.1 0 a rfl,h.2.1 1 b rfl,h.2.1 2 c rfl,h.2.1 3 d rfl,h.2.1 4 e rfl,h.2.1 5 f rfl⟩
theorem zQV (n d:Int) (t:ByteArray) (b:Bool) (f:Int):eqV 0 n d t b f 0 0 0 ⟨#[]⟩ false 0=Wv.right 0 n d t b f:=by
 unfold eqV Wv.right;rw [if_pos rfl];rw [Bool.eq_iff_iff];simp [and_assoc,zDI]
theorem zL0 (n d:Int) (t:ByteArray) (b:Bool) (f:Int) (w:World) :
  CR 105 #[.agg #[.int .i64 0,.int .i64 n,.int .i64 d,.string t,.bool b,.int .i64 f]] w (.bool (Wv.right 0 n d t b f)):=by
 rw [<-zQV];have hq:=zBe 0 n d t b f 0 0 0 ⟨#[]⟩ false 0;generalize eqV 0 n d t b f 0 0 0 ⟨#[]⟩ false 0=R at *;go_enter func105,ntmps105;go_wp2;go_ret;exact ⟨rfl,clA⟩
abbrev VrS (ka kb:Nat) (k n d:Int) (t:ByteArray) (b:Bool) (f:Int) (W:World):Prop :=
 Six W ka (.int .i64 k) (.int .i64 n) (.int .i64 d) (.string t) (.bool b) (.int .i64 f)/\W.frozen? ⟨kb,0,none⟩=false/\W.frozen? ⟨kb,1,none⟩=false/\W.frozen? ⟨kb,2,none⟩=false/\W.frozen? ⟨kb,3,none⟩=false/\W.frozen? ⟨kb,4,none⟩=false/\W.frozen? ⟨kb,5,none⟩=false
theorem zCj {k:Int} (h0:AtL W ka [.int .i64 k,.int .i64 n,.int .i64 d,.string t,.bool b,.int .i64 f]) (h1:AtL W kb us) (hl:us.length=6):VrS ka kb k n d t b f W :=
 ⟨h0.f6,h1.2.2 0 (by omega),h1.2.2 1 (by omega),h1.2.2 2 (by omega),h1.2.2 3 (by omega),h1.2.2 4 (by omega),h1.2.2 5 (by omega)⟩
theorem zC1 {k:Int} (h:VrS ka kb k n d t b f W) (hne:kb ≠ ka) (o:Nat) (u:Value):VrS ka kb k n d t b f (W.setCell ⟨kb,o,none⟩ u):=by
 obtain ⟨⟨h0,h1,h2,h3,h4,h5⟩,g0,g1,g2,g3,g4,g5⟩:=h;refine ⟨⟨?_,?_,?_,?_,?_,?_⟩,?_,?_,?_,?_,?_,?_⟩;any_goals rw [World.cell?_setCell_far _ _ _ _ (by simpa using hne)];assumption
 all_goals rw [World.frozen?_setCell];assumption
theorem zGY (f:Int) (w:World):CR 47 #[.int .i64 f] w (.bool (Wv.flt f)):=(zEV f w).mono λe w' h=>⟨h.1,h.2 ▸ Below.refl _ _⟩
theorem zIy (b:ByteArray) (w:World) (hs:b.size<=9223372036854775807):CR 131 #[.string b] w (.bool (Wv.prts b.data.toList)):=(zH9 b w hs).mono λe w' h=>⟨h.1,h.2 ▸ Below.refl _ _⟩
theorem zQ3 (n d:Int) (t:ByteArray) (b:Bool) (f:Int):(Wnum.rightB n d && eqV 1 n d t b f 1 n d ⟨#[]⟩ false 0)=Wv.right 1 n d t b f:=by
 unfold eqV Wv.right;rw [if_neg (by decide)];rw [if_pos rfl];rw [Bool.eq_iff_iff];simp [and_assoc,zDI]
theorem zLK (n d:Int) (t:ByteArray) (b:Bool) (f:Int) (w:World) (h1:-9223372036854775808<=n) (h2:n<=9223372036854775807) (h3:-9223372036854775808<=d) (h4:d<=9223372036854775807) :
  CR 105 #[.agg #[.int .i64 1,.int .i64 n,.int .i64 d,.string t,.bool b,.int .i64 f]] w (.bool (Wv.right 1 n d t b f)):=by
 rw [<-zQ3];have C:=λw=>zCo n d w h1 h2 h3 h4
 have hq:=zBe 1 n d t b f 1 n d ⟨#[]⟩ false 0;generalize eqV 1 n d t b f 1 n d ⟨#[]⟩ false 0=R at *;generalize Wnum.rightB n d=q at *;have pA:AtL ((w.alloc (.cells #[.int .i64 1,.int .i64 n,.int .i64 d,.string t,.bool b,.int .i64 f] 26)).alloc (.cells #[.int .i64 1,.int .i64 0,.int .i64 0,.string ⟨#[]⟩,.bool false,.int .i64 0] 26)) w.heap.size [.int .i64 1,.int .i64 n,.int .i64 d,.string t,.bool b,.int .i64 f]:=(AtL.new0 w _ _).alloc _;have pO:AtL ((w.alloc (.cells #[.int .i64 1,.int .i64 n,.int .i64 d,.string t,.bool b,.int .i64 f] 26)).alloc (.cells #[.int .i64 1,.int .i64 0,.int .i64 0,.string ⟨#[]⟩,.bool false,.int .i64 0] 26)) (w.heap.size+1) [.int .i64 1,.int .i64 0,.int .i64 0,.string ⟨#[]⟩,.bool false,.int .i64 0]:=AtL.new1 w _ _ _;have hS:VrS w.heap.size (w.heap.size+1) 1 n d t b f ((w.alloc (.cells #[.int .i64 1,.int .i64 n,.int .i64 d,.string t,.bool b,.int .i64 f] 26)).alloc (.cells #[.int .i64 1,.int .i64 0,.int .i64 0,.string ⟨#[]⟩,.bool false,.int .i64 0] 26)):=zCj pA pO rfl;cases q
 all_goals
  go_enter func105,ntmps105;go_upto_region 6 with fail
  go_region_held3 (VrS w.heap.size (w.heap.size+1) 1 n d t b f)
   (with_reducible first | exact hS | assumption | exact zCj pA1 pO1 rfl | exact zC1 (by assumption) (by omega) _ _ | exact zC1 (zC1 (by assumption) (by omega) _ _) (by omega) _ _ | exact zCj (AtL.drew pA) (AtL.drew pO) rfl)
   (first | (go_at_call 130;refine (C _).mono ?_;rintro e w1 ⟨rfl,hb⟩;have pA1:=AtL.below hb (AtL.drew pA);have pO1:=AtL.below hb (AtL.drew pO);obtain ⟨a0,a1,a2,a3,a4,a5⟩:=pA1.f6;obtain ⟨o0,o1,o2,o3,o4,o5⟩:=pO1.f6;have hB1:=zAA (zAI (zAI (Below.refl _ w) _) _).drew hb))
  all_goals
   go_wp2;go_ret;exact ⟨by simp,(clB hB1)⟩
theorem zPa (n d:Int) (t:ByteArray) (b:Bool) (f:Int):(Wv.flt f && eqV 4 n d t b f 4 0 0 ⟨#[]⟩ false f)=Wv.right 4 n d t b f:=by
 unfold eqV Wv.right;rw [if_neg (by decide)];rw [if_neg (by decide)];rw [if_neg (by decide)];rw [if_neg (by decide)];rw [if_pos rfl];rw [Bool.eq_iff_iff];simp [and_assoc,zDI]
theorem zHD (n d:Int) (t:ByteArray) (b:Bool) (f:Int) (w:World) :
  CR 105 #[.agg #[.int .i64 4,.int .i64 n,.int .i64 d,.string t,.bool b,.int .i64 f]] w (.bool (Wv.right 4 n d t b f)):=by
 rw [<-zPa];have C:=λw=>zGY f w
 have hq:=zBe 4 n d t b f 4 0 0 ⟨#[]⟩ false f;generalize eqV 4 n d t b f 4 0 0 ⟨#[]⟩ false f=R at *;generalize Wv.flt f=q at *;have pA:AtL ((w.alloc (.cells #[.int .i64 4,.int .i64 n,.int .i64 d,.string t,.bool b,.int .i64 f] 26)).alloc (.cells #[.int .i64 4,.int .i64 0,.int .i64 0,.string ⟨#[]⟩,.bool false,.int .i64 0] 26)) w.heap.size [.int .i64 4,.int .i64 n,.int .i64 d,.string t,.bool b,.int .i64 f]:=(AtL.new0 w _ _).alloc _;have pO:AtL ((w.alloc (.cells #[.int .i64 4,.int .i64 n,.int .i64 d,.string t,.bool b,.int .i64 f] 26)).alloc (.cells #[.int .i64 4,.int .i64 0,.int .i64 0,.string ⟨#[]⟩,.bool false,.int .i64 0] 26)) (w.heap.size+1) [.int .i64 4,.int .i64 0,.int .i64 0,.string ⟨#[]⟩,.bool false,.int .i64 0]:=AtL.new1 w _ _ _;have hS:VrS w.heap.size (w.heap.size+1) 4 n d t b f ((w.alloc (.cells #[.int .i64 4,.int .i64 n,.int .i64 d,.string t,.bool b,.int .i64 f] 26)).alloc (.cells #[.int .i64 4,.int .i64 0,.int .i64 0,.string ⟨#[]⟩,.bool false,.int .i64 0] 26)):=zCj pA pO rfl;cases q
 all_goals
  go_enter func105,ntmps105;go_upto_region 12 with fail
  go_region_held3 (VrS w.heap.size (w.heap.size+1) 4 n d t b f)
   (with_reducible first | exact hS | assumption | exact zCj pA1 pO1 rfl | exact zC1 (by assumption) (by omega) _ _ | exact zC1 (zC1 (by assumption) (by omega) _ _) (by omega) _ _ | exact zCj (AtL.drew pA) (AtL.drew pO) rfl)
   (first | (go_at_call 47;refine (C _).mono ?_;rintro e w1 ⟨rfl,hb⟩;have pA1:=AtL.below hb (AtL.drew pA);have pO1:=AtL.below hb (AtL.drew pO);obtain ⟨a0,a1,a2,a3,a4,a5⟩:=pA1.f6;obtain ⟨o0,o1,o2,o3,o4,o5⟩:=pO1.f6;have hB1:=zAA (zAI (zAI (Below.refl _ w) _) _).drew hb))
  all_goals
   go_wp2;go_ret;exact ⟨by simp,(clB hB1)⟩
theorem zQK (n d:Int) (t:ByteArray) (b:Bool) (f:Int):((decide (t.size<=256) && Wv.prts t.data.toList) && eqV 2 n d t b f 2 0 0 t false 0)=Wv.right 2 n d t b f:=by
 unfold eqV Wv.right;rw [if_neg (by decide)];rw [if_neg (by decide)];rw [if_pos rfl];rw [Bool.eq_iff_iff];simp [and_assoc,zDI]
theorem zQh (n d:Int) (t:ByteArray) (b:Bool) (f:Int):eqV 3 n d t b f 3 0 0 ⟨#[]⟩ b 0=Wv.right 3 n d t b f:=by
 unfold eqV Wv.right;rw [if_neg (by decide)];rw [if_neg (by decide)];rw [if_neg (by decide)];rw [if_pos rfl];rw [Bool.eq_iff_iff];simp [and_assoc,zDI]
theorem zFA (n d:Int) (t:ByteArray) (b:Bool) (f:Int) (w:World) :
  CR 105 #[.agg #[.int .i64 3,.int .i64 n,.int .i64 d,.string t,.bool b,.int .i64 f]] w (.bool (Wv.right 3 n d t b f)):=by
 rw [<-zQh];have hq:=zBe 3 n d t b f 3 0 0 ⟨#[]⟩ b 0;generalize eqV 3 n d t b f 3 0 0 ⟨#[]⟩ b 0=R at *;go_enter func105,ntmps105;go_wp2;go_ret;exact ⟨rfl,clA⟩
theorem zM0 (k n d:Int) (t:ByteArray) (b:Bool) (f:Int) (w:World) (hk:k<0 \/ 4<k) :
  CR 105 #[.agg #[.int .i64 k,.int .i64 n,.int .i64 d,.string t,.bool b,.int .i64 f]] w (.bool (Wv.right k n d t b f)):=by
 have E:Hid (Wv.right k n d t b f=false):=by
  show _=_
  unfold Wv.right;rw [if_neg (by omega),if_neg (by omega),if_neg (by omega),if_neg (by omega),if_neg (by omega)]
 rw [E.out];clear E;go_enter func105,ntmps105;go_wp2;go_ret;exact ⟨rfl,clA⟩
theorem zMf (n d:Int) (t:ByteArray) (b:Bool) (f:Int) (w:World) (hs:t.size<=9223372036854775807) :
  CR 105 #[.agg #[.int .i64 2,.int .i64 n,.int .i64 d,.string t,.bool b,.int .i64 f]] w (.bool (Wv.right 2 n d t b f)):=by
 rw [<-zQK];have C:=λw=>zIy t w hs
 have hq:=zBe 2 n d t b f 2 0 0 t false 0;generalize eqV 2 n d t b f 2 0 0 t false 0=R at *;generalize Wv.prts t.data.toList=q at *;have pA:AtL ((w.alloc (.cells #[.int .i64 2,.int .i64 n,.int .i64 d,.string t,.bool b,.int .i64 f] 26)).alloc (.cells #[.int .i64 2,.int .i64 0,.int .i64 0,.string ⟨#[]⟩,.bool false,.int .i64 0] 26)) w.heap.size [.int .i64 2,.int .i64 n,.int .i64 d,.string t,.bool b,.int .i64 f]:=(AtL.new0 w _ _).alloc _;have pO:AtL ((w.alloc (.cells #[.int .i64 2,.int .i64 n,.int .i64 d,.string t,.bool b,.int .i64 f] 26)).alloc (.cells #[.int .i64 2,.int .i64 0,.int .i64 0,.string ⟨#[]⟩,.bool false,.int .i64 0] 26)) (w.heap.size+1) [.int .i64 2,.int .i64 0,.int .i64 0,.string ⟨#[]⟩,.bool false,.int .i64 0]:=AtL.new1 w _ _ _;have hS:VrS w.heap.size (w.heap.size+1) 2 n d t b f ((w.alloc (.cells #[.int .i64 2,.int .i64 n,.int .i64 d,.string t,.bool b,.int .i64 f] 26)).alloc (.cells #[.int .i64 2,.int .i64 0,.int .i64 0,.string ⟨#[]⟩,.bool false,.int .i64 0] 26)):=zCj pA pO rfl;by_cases hl:t.size<=256
 ·have hli:(t.size:Int)<=256:=by omega
  rw [decide_eq_true hl];cases q
  all_goals
   go_enter func105,ntmps105;go_upto_region 8 with fail
   go_region_held3 (VrS w.heap.size (w.heap.size+1) 2 n d t b f)
    (with_reducible first | exact hS | assumption | exact zCj pA1 pO1 rfl | exact zC1 (by assumption) (by omega) _ _ | exact zCj (AtL.drew pA) (AtL.drew pO) rfl)
    (first | (go_at_call 131;refine (C _).mono ?_;rintro e w1 ⟨rfl,hb⟩;have pA1:=AtL.below hb (AtL.drew pA);have pO1:=AtL.below hb (AtL.drew pO);obtain ⟨a0,a1,a2,a3,a4,a5⟩:=pA1.f6;obtain ⟨o0,o1,o2,o3,o4,o5⟩:=pO1.f6;have hB1:=zAA (zAI (zAI (Below.refl _ w) _) _).drew hb))
   all_goals
    go_wp2;go_ret;exact ⟨by simp,(clB hB1)⟩
 ·have hli:¬ (t.size:Int)<=256:=by omega
  rw [decide_eq_false hl];go_enter func105,ntmps105;go_upto_region 8 with fail
  go_big_region
  all_goals
   go_wp2;go_ret;exact ⟨by simp,clA⟩
def vl6 (v:Wt.Vl):List Value:=[.int .i64 v.k,.int .i64 v.n,.int .i64 v.d,.string v.t,.bool v.b,.int .i64 v.f]
def rf5 (a:Wt.Rf):List Value:=[.string a.s,.int .i64 a.r,.int .i64 a.c,.bool a.fr,.bool a.fc]
def zAE (x:Wt.Nd):List Value:=[.int .i64 x.k,.int .i64 x.v.k,.int .i64 x.v.n,.int .i64 x.v.d,.string x.v.t,.bool x.v.b,.int .i64 x.v.f,.int .i64 x.op,.string x.nm,.int .i64 x.ar,.string x.a.s,.int .i64 x.a.r,.int .i64 x.a.c,.bool x.a.fr,.bool x.a.fc,.string x.b.s,.int .i64 x.b.r,.int .i64 x.b.c,.bool x.b.fr,.bool x.b.fc]
def vlV (v:Wt.Vl):Value:=.agg (vl6 v).toArray
def rfV (a:Wt.Rf):Value:=.agg (rf5 a).toArray
def ndV (x:Wt.Nd):Value:=.agg (zAE x).toArray
theorem zCe:(prog.info? 30).map (λi=>(i.zero,i.size,i.bytes))=some (some (.agg #[.int .i64 0,.int .i64 0,.int .i64 0,.int .i64 0,.string ⟨#[]⟩,.bool false,.int .i64 0,.int .i64 0,.string ⟨#[]⟩,.int .i64 0,.string ⟨#[]⟩,.int .i64 0,.int .i64 0,.bool false,.bool false,.string ⟨#[]⟩,.int .i64 0,.int .i64 0,.bool false,.bool false]),20,176):=by kernel_rfl
def opsR:List Value:=Wt.opsT.flatMap λx=>[.int .i64 x.1,.string ⟨x.2.1.toArray⟩,.int .i64 x.2.2]
def OpsAt (w:World):Prop:=w.rangeAt 0 0 opsR
theorem OpsAt.below {w':World} (h:OpsAt w) (hb:Below w.heap.size w w'):OpsAt w':=λj v hv=>zAD hb (h j v hv)
theorem OpsAt.alloc (h:OpsAt w) (o:Obj):OpsAt (w.alloc o):=h.below ((Below.refl _ _).alloc (Nat.le_refl _) _)
theorem AtL.there (h:AtL W k us):W.there k 0 us.length:=λj hj =>
 ⟨by rw [Nat.zero_add,h.2.1 j us[j] (List.getElem?_eq_getElem hj)];rfl,by rw [Nat.zero_add];exact h.2.2 j hj⟩
theorem AtL.range (h:AtL W k us):W.rangeAt k 0 us:=λj v hv=>by rw [Nat.zero_add];exact h.2.1 j v hv
theorem zBL (k:Nat):∀ (vs:List Value) (o:Nat) (W:World),(W.setCells k o vs).heap.size=W.heap.size
 | [],_,_=>rfl
 | v::r,o,W=>by rw [World.setCells,zBL k r];simp [go_sem]
theorem AtL.setAll {vs:List Value} (h:AtL W k us) (hl:vs.length=us.length):AtL (W.setCells k 0 vs) k vs:=by
 refine ⟨by rw [zBL];exact h.1,λi v hv=>?_,λi hi=>?_⟩
 ·have:=World.rangeAt_setCells_same W k 0 vs (by rw [hl];exact h.there) i v hv;rw [Nat.zero_add] at this;exact this
 ·rw [World.frozen?_setCells];exact h.2.2 i (by omega)
theorem AtL.farAll {b:Nat} (h:AtL W k us) (hb:b ≠ k) (o:Nat) (vs:List Value):AtL (W.setCells b o vs) k us:=by
 refine ⟨by rw [zBL];exact h.1,λi v hv=>?_,λi hi=>?_⟩
 ·rw [World.cell?_setCells_out b vs o W _ (λh1=>absurd h1.symm hb)];exact h.2.1 i v hv
 ·rw [World.frozen?_setCells];exact h.2.2 i hi
theorem zAg (hb:Below w.heap.size w W) (hk:w.heap.size<=k):∀ (vs:List Value) (o:Nat),Below w.heap.size w (W.setCells k o vs):=by
 intro vs;induction vs generalizing W with
 | nil=>intro o;exact hb
 | cons v r ih=>intro o;rw [World.setCells];exact ih (hb.setCell (p:=⟨k,o,none⟩) hk v) (o+1)
theorem zHX (c:UInt8) (w:World):Calls prog 108 #[.int .u8 c.toNat] w λe w'=>e=.returned (.bool (Wlx.cap c))/\w=w':=by
 unfold Wlx.cap;go_enter func108,ntmps108;by_cases a:65<=(c.toNat:Int)
 ·go_wp2;go_ret;exact ⟨zA3 (by simp [a]),rfl⟩
 ·go_wp2;go_ret;exact ⟨zA3 (by rw [decide_eq_false (by omega)];rfl),rfl⟩
theorem zHP (c:UInt8) (w:World):Calls prog 133 #[.int .u8 c.toNat] w λe w'=>e=.returned (.bool (Wlx.dig c))/\w=w':=by
 unfold Wlx.dig;go_enter func133,ntmps133;by_cases a:48<=(c.toNat:Int)
 ·go_wp2;go_ret;exact ⟨zA3 (by simp [a]),rfl⟩
 ·go_wp2;go_ret;exact ⟨zA3 (by rw [decide_eq_false (by omega)];rfl),rfl⟩
theorem zLj (c:UInt8) (w:World):Calls prog 132 #[.int .u8 c.toNat] w λe w'=>e=.returned (.bool (Wt.ltr c))/\w=w':=by
 unfold Wt.ltr;have C:=zHX c w;unfold Wlx.low;generalize Wlx.cap c=q at *;go_enter func132,ntmps132;cases q
 ·by_cases a:97<=(c.toNat:Int)
  ·go_wp2_with fail
   refine C.mono ?_;rintro e w1 ⟨rfl,rfl⟩;go_wp2;go_ret;exact ⟨zA3 (by simp [a]),rfl⟩
  ·go_wp2_with fail
   refine C.mono ?_;rintro e w1 ⟨rfl,rfl⟩;go_wp2;go_ret;exact ⟨zA3 (by rw [decide_eq_false (p:=97<=(c.toNat:Int)) (by omega)];rfl),rfl⟩
 ·go_wp2_with fail
  refine C.mono ?_;rintro e w1 ⟨rfl,rfl⟩;go_wp2;go_ret;exact ⟨zA3 (by simp),rfl⟩
theorem zJF (b:ByteArray) (h:0<b.size):b.data.toList.headD 0=b[0]:=by
 have:=zA9 b 0 h;rw [List.drop_zero] at this;rw [this];rfl
theorem zFg (p:UInt8->Bool) (b:ByteArray) (j:Nat) (h:j<b.size):(b.data.toList.drop j).all p=(p (b[j]) && (b.data.toList.drop (j+1)).all p):=by
 rw [zA9 b j h];rfl
theorem zIl (b:ByteArray) (w:World) (hs:b.size<=9223372036854775807) :
  Calls prog 107 #[.string b,.func (.func 108) #[] #[]] w λe w'=>e=.returned (.bool (Wt.isNm Wlx.cap b.data.toList))/\w=w':=by
 have C:∀ (c:UInt8) (w:World),Calls prog 108 #[.int .u8 c.toNat] w λe w'=>e=.returned (.bool (Wlx.cap c))/\w=w':=zHX
 have hl:b.data.toList.length=b.size:=rfl;by_cases h0:b=⟨#[]⟩
 ·subst h0;go_enter func107,ntmps107;go_wp2;go_ret;exact ⟨rfl,rfl⟩
 have h1:0<b.size:=by
  rcases Nat.eq_zero_or_pos b.size with h | h
  ·exact absurd (ByteArray.size_eq_zero_iff.1 h) h0
  ·exact h
 have hb0:b.toList.isEmpty=false:=by
  rw [ByteArray.toList_eq];cases hh:b.data.toList with
  | nil=>rw [hh] at hl;exact absurd hl (by show ¬ 0=_;omega)
  | cons _ _=>rfl
 by_cases h16:16<b.size
 ·have h16i:(16:Int)<(b.size:Int):=by omega
  have E:Hid (Wt.isNm Wlx.cap b.data.toList=false):=by
   show _=_
   unfold Wt.isNm;rw [hl,decide_eq_false (p:=b.size<=16) (by omega)];simp
  rw [E.out];clear E;go_enter func107,ntmps107;go_wp2;go_ret;exact ⟨rfl,rfl⟩
 have h16i:¬ (16:Int)<(b.size:Int):=by omega
 have E0:Wt.isNm Wlx.cap b.data.toList=(Wlx.cap (b[0]) && b.data.toList.all (λc=>Wlx.cap c || Wlx.dig c)):=by
  unfold Wt.isNm;rw [hl,decide_eq_true (by omega),decide_eq_true (by omega),zJF b h1];simp
 rw [E0];clear E0;have C0:=C (b[0]) w;cases hp:Wlx.cap (b[0]) with
 | false =>
  rw [hp] at C0;go_enter func107,ntmps107;go_wp2_with fail
  refine C0.mono ?_;rintro e w1 ⟨rfl,rfl⟩;go_wp2;go_ret;exact ⟨rfl,rfl⟩
 | true =>
  rw [hp] at C0;clear hp;obtain ⟨R,hR⟩:∃ R,b.data.toList.all (λc=>Wlx.cap c || Wlx.dig c)=R:=⟨_,rfl⟩
  have E0:Hid (R=(b.data.toList.drop 0).all (λc=>Wlx.cap c || Wlx.dig c)):=hR.symm;rw [hR];clear hR;go_enter func107,ntmps107;go_wp2_with fail
  refine C0.mono ?_;rintro e w1 ⟨rfl,rfl⟩;go_wp2_with fail
  go_loopg [22] (b.size) (λgk x wr=>∃ j:Nat,x=.int .i64 j/\gk=b.size - j/\j<=b.size/\Hid (R=(b.data.toList.drop j).all (λc=>Wlx.cap c || Wlx.dig c))/\wr=w)
  case atStart=>exact ⟨0,rfl,rfl,Nat.zero_le _,E0,rfl⟩
  case round =>
   obtain ⟨j,rfl,hg,hj,HR,rfl⟩:=hrel;by_cases hlt:j<b.size
   ·have hli:(j:Int)<(b.size:Int):=by omega
    have hd:=zFg (λc=>Wlx.cap c || Wlx.dig c) b j hlt;have C1:=C (b[j]) wr;have C2:=zHP (b[j]) wr;cases h1:Wlx.cap (b[j]) with
    | true =>
     have E:Hid (R=(b.data.toList.drop (j+1)).all (λc=>Wlx.cap c || Wlx.dig c)):=by show _=_;rw [HR.out,hd,h1];rfl
     rw [h1] at C1;clear HR hd h1 C2 C0;go_wp2_with fail
     refine C1.mono ?_;rintro e w1 ⟨rfl,rfl⟩;go_wp2_with fail
     go_roundg (b.size - (j+1))
     case rel=>exact ⟨j+1,by simp,rfl,hlt,E,by first | trivial | rfl⟩
     case measure=>omega
    | false =>
     cases h2:Wlx.dig (b[j]) with
     | true =>
      have E:Hid (R=(b.data.toList.drop (j+1)).all (λc=>Wlx.cap c || Wlx.dig c)):=by show _=_;rw [HR.out,hd,h1,h2];rfl
      rw [h1] at C1;rw [h2] at C2;clear HR hd h1 h2 C0;go_wp2_with fail
      refine C1.mono ?_;rintro e w1 ⟨rfl,rfl⟩;go_wp2_with fail
      refine C2.mono ?_;rintro e w1 ⟨rfl,rfl⟩;go_wp2_with fail
      go_roundg (b.size - (j+1))
      case rel=>exact ⟨j+1,by simp,rfl,hlt,E,by first | trivial | rfl⟩
      case measure=>omega
     | false =>
      have E:Hid (R=false):=by show _=_;rw [HR.out,hd,h1,h2];rfl
      rw [h1] at C1;rw [h2] at C2;clear HR hd h1 h2 C0;go_wp2_with fail
      refine C1.mono ?_;rintro e w1 ⟨rfl,rfl⟩;go_wp2_with fail
      refine C2.mono ?_;rintro e w1 ⟨rfl,rfl⟩;go_wp2;go_ret;exact ⟨by rw [E.out];rfl,rfl⟩
   ·have hli:¬ (j:Int)<(b.size:Int):=by omega
    have E:Hid (R=true):=by show _=_;rw [HR.out,zAl b j hlt];rfl
    clear HR C0;go_wp2;go_ret;exact ⟨by rw [E.out];rfl,rfl⟩
theorem zJK (b:ByteArray) (w:World) (hs:b.size<=9223372036854775807) :
  Calls prog 107 #[.string b,.func (.func 132) #[] #[]] w λe w'=>e=.returned (.bool (Wt.isNm Wt.ltr b.data.toList))/\w=w':=by
 have C:∀ (c:UInt8) (w:World),Calls prog 132 #[.int .u8 c.toNat] w λe w'=>e=.returned (.bool (Wt.ltr c))/\w=w':=zLj
 have hl:b.data.toList.length=b.size:=rfl;by_cases h0:b=⟨#[]⟩
 ·subst h0;go_enter func107,ntmps107;go_wp2;go_ret;exact ⟨rfl,rfl⟩
 have h1:0<b.size:=by
  rcases Nat.eq_zero_or_pos b.size with h | h
  ·exact absurd (ByteArray.size_eq_zero_iff.1 h) h0
  ·exact h
 have hb0:b.toList.isEmpty=false:=by
  rw [ByteArray.toList_eq];cases hh:b.data.toList with
  | nil=>rw [hh] at hl;exact absurd hl (by show ¬ 0=_;omega)
  | cons _ _=>rfl
 by_cases h16:16<b.size
 ·have h16i:(16:Int)<(b.size:Int):=by omega
  have E:Hid (Wt.isNm Wt.ltr b.data.toList=false):=by
   show _=_
   unfold Wt.isNm;rw [hl,decide_eq_false (p:=b.size<=16) (by omega)];simp
  rw [E.out];clear E;go_enter func107,ntmps107;go_wp2;go_ret;exact ⟨rfl,rfl⟩
 have h16i:¬ (16:Int)<(b.size:Int):=by omega
 have E0:Wt.isNm Wt.ltr b.data.toList=(Wt.ltr (b[0]) && b.data.toList.all (λc=>Wt.ltr c || Wlx.dig c)):=by
  unfold Wt.isNm;rw [hl,decide_eq_true (by omega),decide_eq_true (by omega),zJF b h1];simp
 rw [E0];clear E0;have C0:=C (b[0]) w;cases hp:Wt.ltr (b[0]) with
 | false =>
  rw [hp] at C0;go_enter func107,ntmps107;go_wp2_with fail
  refine C0.mono ?_;rintro e w1 ⟨rfl,rfl⟩;go_wp2;go_ret;exact ⟨rfl,rfl⟩
 | true =>
  rw [hp] at C0;clear hp;obtain ⟨R,hR⟩:∃ R,b.data.toList.all (λc=>Wt.ltr c || Wlx.dig c)=R:=⟨_,rfl⟩
  have E0:Hid (R=(b.data.toList.drop 0).all (λc=>Wt.ltr c || Wlx.dig c)):=hR.symm;rw [hR];clear hR;go_enter func107,ntmps107;go_wp2_with fail
  refine C0.mono ?_;rintro e w1 ⟨rfl,rfl⟩;go_wp2_with fail
  go_loopg [22] (b.size) (λgk x wr=>∃ j:Nat,x=.int .i64 j/\gk=b.size - j/\j<=b.size/\Hid (R=(b.data.toList.drop j).all (λc=>Wt.ltr c || Wlx.dig c))/\wr=w)
  case atStart=>exact ⟨0,rfl,rfl,Nat.zero_le _,E0,rfl⟩
  case round =>
   obtain ⟨j,rfl,hg,hj,HR,rfl⟩:=hrel;by_cases hlt:j<b.size
   ·have hli:(j:Int)<(b.size:Int):=by omega
    have hd:=zFg (λc=>Wt.ltr c || Wlx.dig c) b j hlt;have C1:=C (b[j]) wr;have C2:=zHP (b[j]) wr;cases h1:Wt.ltr (b[j]) with
    | true =>
     have E:Hid (R=(b.data.toList.drop (j+1)).all (λc=>Wt.ltr c || Wlx.dig c)):=by show _=_;rw [HR.out,hd,h1];rfl
     rw [h1] at C1;clear HR hd h1 C2 C0;go_wp2_with fail
     refine C1.mono ?_;rintro e w1 ⟨rfl,rfl⟩;go_wp2_with fail
     go_roundg (b.size - (j+1))
     case rel=>exact ⟨j+1,by simp,rfl,hlt,E,by first | trivial | rfl⟩
     case measure=>omega
    | false =>
     cases h2:Wlx.dig (b[j]) with
     | true =>
      have E:Hid (R=(b.data.toList.drop (j+1)).all (λc=>Wt.ltr c || Wlx.dig c)):=by show _=_;rw [HR.out,hd,h1,h2];rfl
      rw [h1] at C1;rw [h2] at C2;clear HR hd h1 h2 C0;go_wp2_with fail
      refine C1.mono ?_;rintro e w1 ⟨rfl,rfl⟩;go_wp2_with fail
      refine C2.mono ?_;rintro e w1 ⟨rfl,rfl⟩;go_wp2_with fail
      go_roundg (b.size - (j+1))
      case rel=>exact ⟨j+1,by simp,rfl,hlt,E,by first | trivial | rfl⟩
      case measure=>omega
     | false =>
      have E:Hid (R=false):=by show _=_;rw [HR.out,hd,h1,h2];rfl
      rw [h1] at C1;rw [h2] at C2;clear HR hd h1 h2 C0;go_wp2_with fail
      refine C1.mono ?_;rintro e w1 ⟨rfl,rfl⟩;go_wp2_with fail
      refine C2.mono ?_;rintro e w1 ⟨rfl,rfl⟩;go_wp2;go_ret;exact ⟨by rw [E.out];rfl,rfl⟩
   ·have hli:¬ (j:Int)<(b.size:Int):=by omega
    have E:Hid (R=true):=by show _=_;rw [HR.out,zAl b j hlt];rfl
    clear HR C0;go_wp2;go_ret;exact ⟨by rw [E.out];rfl,rfl⟩
theorem zKS (b:ByteArray) (w:World) (hs:b.size<=9223372036854775807):Calls prog 74 #[.string b] w λe w'=>e=.returned (.bool (Wt.fnNm b))/\w=w':=by
 have C:=zIl b w hs;unfold Wt.fnNm;generalize Wt.isNm Wlx.cap b.data.toList=R at *;go_enter func74,ntmps74;go_wp2_with fail
 refine C.mono ?_;rintro e w1 ⟨rfl,rfl⟩;go_wp2;go_ret;exact ⟨rfl,rfl⟩
theorem zJt (b:ByteArray) (w:World) (hs:b.size<=9223372036854775807):Calls prog 106 #[.string b] w λe w'=>e=.returned (.bool (Wt.shNm b))/\w=w':=by
 have C:=zJK b w hs;unfold Wt.shNm;generalize Wt.isNm Wt.ltr b.data.toList=R at *;go_enter func106,ntmps106;go_wp2_with fail
 refine C.mono ?_;rintro e w1 ⟨rfl,rfl⟩;go_wp2;go_ret;exact ⟨rfl,rfl⟩
end Go.Proofs.YtdghjlmnlodnlaaGreatDoor
