/- Lemmas. -/
import Derived.Test.YtloponhikiddmaaGreatDoorQ01
import Derived.Deep.MidRow
import Derived.OwnWalk
set_option maxHeartbeats 8000000
set_option maxRecDepth 100000
open Go.RowKit.Below renaming refl->aZ
open Go.World renaming cell?_setCell_far->bZ,frozen?_setCell->dZ,frozen?_setCells->gZ,there->mZ,setCells->oZ,rangeAt->pZ
open List renaming find?_cons_of_neg->cZ,drop_eq_getElem_cons->eZ,find?_cons_of_pos->hZ,drop_eq_nil_of_le->iZ
open Nat renaming zero_add->fZ,zero_le->jZ,eq_zero_or_pos->kZ,le_succ->nZ
open Go renaming World->wW,Value->vW,Calls->cW
open Go.Value renaming int->O,string->V,bool->Y,pointer->pX,agg->gX,tuple->uX
open Go.IntKind renaming i64->J
open Go.Obj renaming cells->Z
open Go.Ending renaming returned->rX
open Go.Operand renaming tmp->mX
namespace Go.Proofs.YtloponhikiddmaaGreatDoor
open Tryz
variable {W w:wW} {ka kb k:Nat} {x y:Wt.Nd} {us:List vW}
open Go.RowKit
set_option linter.unusedVariables false
def vl6 (v:Wt.Vl):List vW:=[O J v.k,O J v.n,O J v.d,V v.t,Y v.b,O J v.f]
def rf5 (a:Wt.Rf):List vW:=[V a.s,O J a.r,O J a.c,Y a.fr,Y a.fc]
def QN (x:Wt.Nd):List vW:=[O J x.k,O J x.v.k,O J x.v.n,O J x.v.d,V x.v.t,Y x.v.b,O J x.v.f,O J x.op,V x.nm,O J x.ar,V x.a.s,O J x.a.r,O J x.a.c,Y x.a.fr,Y x.a.fc,V x.b.s,O J x.b.r,O J x.b.c,Y x.b.fr,Y x.b.fc]
def vlV (v:Wt.Vl):vW:=gX (vl6 v).toArray
def rfV (a:Wt.Rf):vW:=gX (rf5 a).toArray
def ndV (x:Wt.Nd):vW:=gX (QN x).toArray
theorem zL3:(prog.info? 98).map (λi=>(i.zero,i.size,i.bytes))=some (some (gX #[O J 0,O J 0,O J 0,O J 0,V ⟨#[]⟩,Y false,O J 0,O J 0,V ⟨#[]⟩,O J 0,V ⟨#[]⟩,O J 0,O J 0,Y false,Y false,V ⟨#[]⟩,O J 0,O J 0,Y false,Y false]),20,176):=kR
def opsR:List vW:=Wt.opsT.flatMap λx=>[O J x.1,V ⟨x.2.1.toArray⟩,O J x.2.2]
def OpsAt (w:wW):Prop:=w.rangeAt 1 0 opsR
theorem OpsAt.below {w':wW} (h:OpsAt w) (a:bL w w'):OpsAt w':=λj v b=>QC a (h j v b)
theorem OpsAt.alloc (h:OpsAt w) (o:Obj):OpsAt (w.alloc o):=h.below ((aZ _ _).alloc (Nat.le_refl _) _)
theorem AtL.there (h:AtL W k us):W.there k 0 us.length:=λj a =>
 ⟨by rw [fZ,h.2.1 j us[j] (List.getElem?_eq_getElem a)];rfl,by rw [fZ];exact h.2.2 j a⟩
theorem AtL.range (h:AtL W k us):W.rangeAt k 0 us:=λj v a=>by rw [fZ];exact h.2.1 j v a
theorem zAF (k:Nat):∀ (vs:List vW) (o:Nat) (W:wW),(W.setCells k o vs).heap.size=W.heap.size
 | [],_,_=>rfl
 | v::r,o,W=>by rw [oZ,zAF k r];simp [go_sem]
theorem AtL.setAll {vs:List vW} (h:AtL W k us) (a:vs.length=us.length):AtL (W.setCells k 0 vs) k vs:=by
 refine ⟨by rw [zAF];exact h.1,λi v b=>?_,λi hi=>?_⟩
 ·have:=World.rangeAt_setCells_same W k 0 vs (by rw [a];exact h.there) i v b;rw [fZ] at this;exact this
 ·rw [gZ];exact h.2.2 i oM
theorem AtL.farAll {b:Nat} (h:AtL W k us) (c:b ≠ k) (o:Nat) (vs:List vW):AtL (W.setCells b o vs) k us:=by
 refine ⟨by rw [zAF];exact h.1,λi v d=>?_,λi hi=>?_⟩
 ·rw [World.cell?_setCells_out b vs o W _ (λa=>absurd a.symm c)];exact h.2.1 i v d
 ·rw [gZ];exact h.2.2 i hi
theorem Qm (a:bL w W) (b:w.heap.size<=k):∀ (vs:List vW) (o:Nat),bL w (W.setCells k o vs):=by
 intro vs;induction vs generalizing W with
 | nil=>intro o;exact a
 | cons v r c=>intro o;rw [oZ];exact c (a.setCell (p:=⟨k,o,none⟩) b v) (o+1)
theorem zFW (c:UInt8) (w:wW):cW prog 161 #[O .u8 c.toNat] w λe w'=>e=rX (Y (Wlx.cap c))/\w=w':=by
 unfold Wlx.cap;go_enter func161,ntmps161;by_cases a:65<=(c.toNat:Int)
 ·go_wp2;go_ret;exact ⟨Qv (by simp [a]),rfl⟩
 ·go_wp2;go_ret;exact ⟨Qv (by rw [decide_eq_false oM];rfl),rfl⟩
theorem zFj (c:UInt8) (w:wW):cW prog 191 #[O .u8 c.toNat] w λe w'=>e=rX (Y (Wlx.dig c))/\w=w':=by
 unfold Wlx.dig;go_enter func191,ntmps191;by_cases a:48<=(c.toNat:Int)
 ·go_wp2;go_ret;exact ⟨Qv (by simp [a]),rfl⟩
 ·go_wp2;go_ret;exact ⟨Qv (by rw [decide_eq_false oM];rfl),rfl⟩
theorem zKG (c:UInt8) (w:wW):cW prog 190 #[O .u8 c.toNat] w λe w'=>e=rX (Y (Wt.ltr c))/\w=w':=by
 unfold Wt.ltr;have C:=zFW c w;unfold Wlx.low;generalize Wlx.cap c=q at *;go_enter func190,ntmps190;cases q
 ·by_cases a:97<=(c.toNat:Int)
  ·go_wp2_with fail
   refine C.mono ?_;rintro e b ⟨rfl,rfl⟩;go_wp2;go_ret;exact ⟨Qv (by simp [a]),rfl⟩
  ·go_wp2_with fail
   refine C.mono ?_;rintro e b ⟨rfl,rfl⟩;go_wp2;go_ret;exact ⟨Qv (by rw [decide_eq_false (p:=97<=(c.toNat:Int)) oM];rfl),rfl⟩
 ·go_wp2_with fail
  refine C.mono ?_;rintro e b ⟨rfl,rfl⟩;go_wp2;go_ret;exact ⟨Qv sM,rfl⟩
theorem zJF (b:ByteArray) (h:0<b.size):b.data.toList.headD 0=b[0]:=by
 have:=Qr b 0 h;rw [List.drop_zero] at this;rw [this];rfl
theorem zDU (p:UInt8->Bool) (b:ByteArray) (j:Nat) (h:j<b.size):(b.data.toList.drop j).all p=(p (b[j]) && (b.data.toList.drop (j+1)).all p):=by
 rw [Qr b j h];rfl
theorem zJs (b:ByteArray) (w:wW) (F:b.size<=9223372036854775807) :
  cW prog 160 #[V b,.func (.func 161) #[] #[]] w λe w'=>e=rX (Y (Wt.isNm Wlx.cap b.data.toList))/\w=w':=by
 have C:=zFW;have q:b.data.toList.length=b.size:=rfl;by_cases u:b=⟨#[]⟩
 ·subst u;go_enter func160,ntmps160;go_wp2;go_ret;exact ⟨rfl,rfl⟩
 have a:0<b.size:=by
  rcases kZ b.size with h | h
  ·exact absurd (ByteArray.size_eq_zero_iff.1 h) u
  ·exact h
 have z:b.toList.isEmpty=false:=by
  rw [ByteArray.toList_eq];cases A:b.data.toList with
  | nil=>rw [A] at q;exact absurd q (by show ¬ 0=_;omega)
  | cons _ _=>rfl
 by_cases v:16<b.size
 ·have n:(16:Int)<(b.size:Int):=oM;have E:Hid (Wt.isNm Wlx.cap b.data.toList=false):=by
   show _=_
   unfold Wt.isNm;rw [q,decide_eq_false (p:=b.size<=16) oM];simp
  rw [E.out];clear E;go_enter func160,ntmps160;go_wp2;go_ret;exact ⟨rfl,rfl⟩
 have n:¬ (16:Int)<(b.size:Int):=oM;have o:Wt.isNm Wlx.cap b.data.toList=(Wlx.cap (b[0]) && b.data.toList.all (λc=>Wlx.cap c || Wlx.dig c)):=by
  unfold Wt.isNm;rw [q,decide_eq_true oM,decide_eq_true oM,zJF b a];simp
 rw [o];clear o;have C0:=C (b[0]) w;cases t:Wlx.cap (b[0]) with
 | false =>
  rw [t] at C0;go_enter func160,ntmps160;go_wp2_with fail
  refine C0.mono ?_;rintro e l ⟨rfl,rfl⟩;go_wp2;go_ret;exact ⟨rfl,rfl⟩
 | true =>
  rw [t] at C0;clear t;obtain ⟨R,r⟩:=xV (b.data.toList.all (λc=>Wlx.cap c || Wlx.dig c))
  have o:Hid (R=(b.data.toList.drop 0).all (λc=>Wlx.cap c || Wlx.dig c)):=r.symm;rw [r];clear r;go_enter func160,ntmps160;go_wp2_with fail
  refine C0.mono ?_;rintro e l ⟨rfl,rfl⟩;go_wp2_with fail
  go_loopg [22] (b.size) (λgk x wr=>∃ j:Nat,x=O J j/\gk=b.size - j/\j<=b.size/\Hid (R=(b.data.toList.drop j).all (λc=>Wlx.cap c || Wlx.dig c))/\wr=w)
  case atStart=>exact ⟨0,rfl,rfl,jZ _,o,rfl⟩
  case round =>
   obtain ⟨j,rfl,B,D,f,rfl⟩:=hrel;by_cases d:j<b.size
   ·have s:(j:Int)<(b.size:Int):=oM;have hd:=zDU (λc=>Wlx.cap c || Wlx.dig c) b j d;have g:=C (b[j]) wr;have m:=zFj (b[j]) wr;cases a:Wlx.cap (b[j]) with
    | true =>
     have E:Hid (R=(b.data.toList.drop (j+1)).all (λc=>Wlx.cap c || Wlx.dig c)):=by show _=_;rw [f.out,hd,a];rfl
     rw [a] at g;clear f hd a m C0;go_wp2_with fail
     refine g.mono ?_;rintro e l ⟨rfl,rfl⟩;go_wp2_with fail
     go_roundg (b.size - (j+1))
     case rel=>exact ⟨j+1,sM,rfl,d,E,by first | trivial | rfl⟩
     case measure=>omega
    | false =>
     cases i:Wlx.dig (b[j]) with
     | true =>
      have E:Hid (R=(b.data.toList.drop (j+1)).all (λc=>Wlx.cap c || Wlx.dig c)):=by show _=_;rw [f.out,hd,a,i];rfl
      rw [a] at g;rw [i] at m;clear f hd a i C0;go_wp2_with fail
      refine g.mono ?_;rintro e l ⟨rfl,rfl⟩;go_wp2_with fail
      refine m.mono ?_;rintro e l ⟨rfl,rfl⟩;go_wp2_with fail
      go_roundg (b.size - (j+1))
      case rel=>exact ⟨j+1,sM,rfl,d,E,by first | trivial | rfl⟩
      case measure=>omega
     | false =>
      have E:Hid (R=false):=by show _=_;rw [f.out,hd,a,i];rfl
      rw [a] at g;rw [i] at m;clear f hd a i C0;go_wp2_with fail
      refine g.mono ?_;rintro e l ⟨rfl,rfl⟩;go_wp2_with fail
      refine m.mono ?_;rintro e l ⟨rfl,rfl⟩;go_wp2;go_ret;exact ⟨by rw [E.out];rfl,rfl⟩
   ·have s:¬ (j:Int)<(b.size:Int):=oM;have E:Hid (R=true):=by show _=_;rw [f.out,JS b j d];rfl
    clear f C0;go_wp2;go_ret;exact ⟨by rw [E.out];rfl,rfl⟩
theorem zHp (b:ByteArray) (w:wW) (F:b.size<=9223372036854775807) :
  cW prog 160 #[V b,.func (.func 190) #[] #[]] w λe w'=>e=rX (Y (Wt.isNm Wt.ltr b.data.toList))/\w=w':=by
 have C:=zKG;have q:b.data.toList.length=b.size:=rfl;by_cases u:b=⟨#[]⟩
 ·subst u;go_enter func160,ntmps160;go_wp2;go_ret;exact ⟨rfl,rfl⟩
 have a:0<b.size:=by
  rcases kZ b.size with h | h
  ·exact absurd (ByteArray.size_eq_zero_iff.1 h) u
  ·exact h
 have z:b.toList.isEmpty=false:=by
  rw [ByteArray.toList_eq];cases A:b.data.toList with
  | nil=>rw [A] at q;exact absurd q (by show ¬ 0=_;omega)
  | cons _ _=>rfl
 by_cases v:16<b.size
 ·have n:(16:Int)<(b.size:Int):=oM;have E:Hid (Wt.isNm Wt.ltr b.data.toList=false):=by
   show _=_
   unfold Wt.isNm;rw [q,decide_eq_false (p:=b.size<=16) oM];simp
  rw [E.out];clear E;go_enter func160,ntmps160;go_wp2;go_ret;exact ⟨rfl,rfl⟩
 have n:¬ (16:Int)<(b.size:Int):=oM;have o:Wt.isNm Wt.ltr b.data.toList=(Wt.ltr (b[0]) && b.data.toList.all (λc=>Wt.ltr c || Wlx.dig c)):=by
  unfold Wt.isNm;rw [q,decide_eq_true oM,decide_eq_true oM,zJF b a];simp
 rw [o];clear o;have C0:=C (b[0]) w;cases t:Wt.ltr (b[0]) with
 | false =>
  rw [t] at C0;go_enter func160,ntmps160;go_wp2_with fail
  refine C0.mono ?_;rintro e l ⟨rfl,rfl⟩;go_wp2;go_ret;exact ⟨rfl,rfl⟩
 | true =>
  rw [t] at C0;clear t;obtain ⟨R,r⟩:=xV (b.data.toList.all (λc=>Wt.ltr c || Wlx.dig c))
  have o:Hid (R=(b.data.toList.drop 0).all (λc=>Wt.ltr c || Wlx.dig c)):=r.symm;rw [r];clear r;go_enter func160,ntmps160;go_wp2_with fail
  refine C0.mono ?_;rintro e l ⟨rfl,rfl⟩;go_wp2_with fail
  go_loopg [22] (b.size) (λgk x wr=>∃ j:Nat,x=O J j/\gk=b.size - j/\j<=b.size/\Hid (R=(b.data.toList.drop j).all (λc=>Wt.ltr c || Wlx.dig c))/\wr=w)
  case atStart=>exact ⟨0,rfl,rfl,jZ _,o,rfl⟩
  case round =>
   obtain ⟨j,rfl,B,D,f,rfl⟩:=hrel;by_cases d:j<b.size
   ·have s:(j:Int)<(b.size:Int):=oM;have hd:=zDU (λc=>Wt.ltr c || Wlx.dig c) b j d;have g:=C (b[j]) wr;have m:=zFj (b[j]) wr;cases a:Wt.ltr (b[j]) with
    | true =>
     have E:Hid (R=(b.data.toList.drop (j+1)).all (λc=>Wt.ltr c || Wlx.dig c)):=by show _=_;rw [f.out,hd,a];rfl
     rw [a] at g;clear f hd a m C0;go_wp2_with fail
     refine g.mono ?_;rintro e l ⟨rfl,rfl⟩;go_wp2_with fail
     go_roundg (b.size - (j+1))
     case rel=>exact ⟨j+1,sM,rfl,d,E,by first | trivial | rfl⟩
     case measure=>omega
    | false =>
     cases i:Wlx.dig (b[j]) with
     | true =>
      have E:Hid (R=(b.data.toList.drop (j+1)).all (λc=>Wt.ltr c || Wlx.dig c)):=by show _=_;rw [f.out,hd,a,i];rfl
      rw [a] at g;rw [i] at m;clear f hd a i C0;go_wp2_with fail
      refine g.mono ?_;rintro e l ⟨rfl,rfl⟩;go_wp2_with fail
      refine m.mono ?_;rintro e l ⟨rfl,rfl⟩;go_wp2_with fail
      go_roundg (b.size - (j+1))
      case rel=>exact ⟨j+1,sM,rfl,d,E,by first | trivial | rfl⟩
      case measure=>omega
     | false =>
      have E:Hid (R=false):=by show _=_;rw [f.out,hd,a,i];rfl
      rw [a] at g;rw [i] at m;clear f hd a i C0;go_wp2_with fail
      refine g.mono ?_;rintro e l ⟨rfl,rfl⟩;go_wp2_with fail
      refine m.mono ?_;rintro e l ⟨rfl,rfl⟩;go_wp2;go_ret;exact ⟨by rw [E.out];rfl,rfl⟩
   ·have s:¬ (j:Int)<(b.size:Int):=oM;have E:Hid (R=true):=by show _=_;rw [f.out,JS b j d];rfl
    clear f C0;go_wp2;go_ret;exact ⟨by rw [E.out];rfl,rfl⟩
theorem zIX (b:ByteArray) (w:wW) (a:b.size<=9223372036854775807):cW prog 130 #[V b] w λe w'=>e=rX (Y (Wt.fnNm b))/\w=w':=by
 have C:=zJs b w a;unfold Wt.fnNm;generalize Wt.isNm Wlx.cap b.data.toList=R at *;go_enter func130,ntmps130;go_wp2_with fail
 refine C.mono ?_;rintro e c ⟨rfl,rfl⟩;go_wp2;go_ret;exact ⟨rfl,rfl⟩
theorem zIe (b:ByteArray) (w:wW) (a:b.size<=9223372036854775807):cW prog 159 #[V b] w λe w'=>e=rX (Y (Wt.shNm b))/\w=w':=by
 have C:=zHp b w a;unfold Wt.shNm;generalize Wt.isNm Wt.ltr b.data.toList=R at *;go_enter func159,ntmps159;go_wp2_with fail
 refine C.mono ?_;rintro e c ⟨rfl,rfl⟩;go_wp2;go_ret;exact ⟨rfl,rfl⟩
theorem zOq (r c:Int):Wpl.rightC 0 r c=Wt.inR r c:=by
 unfold Wpl.rightC Wpl.inB Wt.inR;rw [Bool.eq_iff_iff];simp
theorem zC1 {b:ByteArray} (h:¬ b=⟨#[]⟩):b.toList.isEmpty=false:=by
 rw [ByteArray.toList_eq];cases a:b.data.toList with
 | nil=>exact absurd (by obtain ⟨⟨l⟩⟩:=b;simp at a;subst a;rfl) h
 | cons _ _=>rfl
theorem zFB (a:Wt.Rf) (w:wW) (u:a.s.size<=9223372036854775807):CR 127 #[rfV a] w (Y (Wt.rfOk a)):=by
 obtain ⟨s,r,c,fr,g⟩:=a;unfold Wt.rfOk;simp only;show cW _ _ #[gX #[V s,O J r,O J c,Y fr,Y g]] _ _
 have f:=λw=>Qg 0 r c w
 rw [zOq] at f;have l:=λw=>zIe s w u
 generalize Wt.inR r c=q at *;cases q
 ·go_enter func127,ntmps127;go_wp2_with fail
  refine (f _).mono ?_;rintro e j ⟨rfl,b⟩;have d:=QA (QJ (aZ _ w) _) b;go_wp2;go_ret;exact ⟨rfl,d⟩
 by_cases i:s=⟨#[]⟩
 ·subst i;go_enter func127,ntmps127;go_wp2_with fail
  refine (f _).mono ?_;rintro e j ⟨rfl,b⟩;have d:=QA (QJ (aZ _ w) _) b;obtain ⟨m,n,o,p,t⟩:=(AtL.below b (AtL.new0 w _ [V ⟨#[]⟩,O J r,O J c,Y fr,Y g])).f5;go_wp2;go_ret;exact ⟨rfl,d⟩
 ·have v:=zC1 i;rw [decide_eq_false i];generalize Wt.shNm s=q at *;go_enter func127,ntmps127;go_wp2_with fail
  refine (f _).mono ?_;rintro e j ⟨rfl,b⟩;have d:=QA (QJ (aZ _ w) _) b;obtain ⟨m,n,o,p,t⟩:=(AtL.below b (AtL.new0 w _ [V s,O J r,O J c,Y fr,Y g])).f5;go_wp2_with fail
  refine (l _).mono ?_;rintro e z ⟨rfl,rfl⟩;go_wp2;go_ret;exact ⟨sM,d⟩
theorem zCN (v:Wt.Vl) (w:wW) (a:-9223372036854775808<=v.n) (c:v.n<=9223372036854775807) (e:-9223372036854775808<=v.d) (g:v.d<=9223372036854775807) (i:v.t.size<=9223372036854775807) :
  CR 131 #[vlV v] w (Y (Wv.right v.k v.n v.d v.t v.b v.f)):=by
 obtain ⟨k,n,d,t,b,f⟩:=v;simp only at a c e g i ⊢;show cW _ _ #[gX #[O J k,O J n,O J d,V t,Y b,O J f]] _ _
 by_cases e0:k=0
 ·subst e0;exact zKI n d t b f w
 by_cases e0:k=1
 ·subst e0;exact zLc n d t b f w a c e g
 by_cases e0:k=2
 ·subst e0;exact zLW n d t b f w i
 by_cases e0:k=3
 ·subst e0;exact zKr n d t b f w
 by_cases e0:k=4
 ·subst e0;exact zLV n d t b f w
 exact zKt k n d t b f w oM
theorem zN5 (v:Wt.Vl) (w:wW) (j:-9223372036854775808<=v.n) (l:v.n<=9223372036854775807) (m:-9223372036854775808<=v.d) (o:v.d<=9223372036854775807) (s:v.t.size<=9223372036854775807) :
  CR 126 #[vlV v] w (Y (Wt.vlOk v)):=by
 have C:=λw=>zCN v w j l m o s
 obtain ⟨k,n,d,t,b,f⟩:=v;unfold Wt.vlOk;simp only [vlV,vl6] at j l m o s C ⊢;show cW _ _ #[gX #[O J k,O J n,O J d,V t,Y b,O J f]] _ _
 by_cases e0:k=0
 ·subst e0;go_enter func126,ntmps126;go_wp2;go_ret;exact ⟨rfl,clA⟩
 rw [if_neg e0];by_cases g:k=1
 ·subst g;rw [if_pos rfl];have r:Wv.right 1 n d t b f=true->1<=d:=by
   unfold Wv.right;rw [if_neg dM,if_pos rfl];intro h;simp only [Bool.and_eq_true] at h;have:=h.1.1.1;unfold Wnum.rightB at this;have:=of_decide_eq_true this;omega
  generalize Wv.right 1 n d t b f=q at *;cases q
  ·go_enter func126,ntmps126;go_wp2_with fail
   refine (C _).mono ?_;rintro e i ⟨rfl,a⟩;have c:=QA (QJ (aZ _ w) _) a;go_wp2;go_ret;exact ⟨rfl,c⟩
  have hd:=r rfl;clear r;by_cases p:0<=n
  ·have H:¬ d=0:=oM;have I:¬ d = -1:=oM;rw [decide_eq_true p];go_enter func126,ntmps126;go_wp2_with fail
   refine (C _).mono ?_;rintro e i ⟨rfl,a⟩;have c:=QA (QJ (aZ _ w) _) a;obtain ⟨u,z,A,B,D,E⟩:=(AtL.below a (AtL.new0 w _ [O J 1,O J n,O J d,V t,Y b,O J f])).f6;go_wp2;go_ret;refine ⟨Qv ?_,c⟩;rw [Bool.eq_iff_iff];simp
  ·rw [decide_eq_false p];go_enter func126,ntmps126;go_wp2_with fail
   refine (C _).mono ?_;rintro e i ⟨rfl,a⟩;have c:=QA (QJ (aZ _ w) _) a;obtain ⟨u,z,A,B,D,E⟩:=(AtL.below a (AtL.new0 w _ [O J 1,O J n,O J d,V t,Y b,O J f])).f6;go_wp2;go_ret;exact ⟨Qv sM,c⟩
 rw [if_neg g];generalize Wv.right k n d t b f=q at *;have F:(k == 0)=false:=by simp [e0]
 have G:(k == 1)=false:=by simp [g]
 go_enter func126,ntmps126;go_wp2_with fail
 refine (C _).mono ?_;rintro e i ⟨rfl,a⟩;have c:=QA (QJ (aZ _ w) _) a;go_wp2;go_ret;exact ⟨rfl,c⟩
theorem zD2 (o:Int) (m:ByteArray) (a:Int) (w:wW):CR 129 #[gX #[O J o,V m,O J a]] w (O J (if a<5 then 5 else 4)):=by
 by_cases h:a<5
 ·rw [if_pos h];go_enter func129,ntmps129;go_wp2;go_ret;exact ⟨rfl,clA⟩
 ·rw [if_neg h];go_enter func129,ntmps129;go_wp2;go_ret;exact ⟨rfl,clA⟩
def opV (x:Option (Int × List UInt8 × Int)):vW:=match x with
 | some (o,m,t)=>uX #[gX #[O J o,V ⟨m.toArray⟩,O J t],Y true]
 | none=>uX #[gX #[O J 0,V ⟨#[]⟩,O J 0],Y false]
theorem zDt:∀ (j:Nat) (h:j<Wt.opsT.length) (w:wW),(Instr.index 248 (gX opsR.toArray) (O J (j:Int))).run prog w=.ok (gX #[O J (Wt.opsT[j]).1,V ⟨(Wt.opsT[j]).2.1.toArray⟩,O J (Wt.opsT[j]).2.2]) w
 | 0,_,w=>by kernel_rfl
 | 1,_,w=>by kernel_rfl
 | 2,_,w=>by kernel_rfl
 | 3,_,w=>by kernel_rfl
 | 4,_,w=>by kernel_rfl
 | 5,_,w=>by kernel_rfl
 | 6,_,w=>by kernel_rfl
 | 7,_,w=>by kernel_rfl
 | 8,_,w=>by kernel_rfl
 | 9,_,w=>by kernel_rfl
 | 10,_,w=>by kernel_rfl
 | 11,_,w=>by kernel_rfl
 | 12,_,w=>by kernel_rfl
 | 13,_,w=>by kernel_rfl
 | 14,_,w=>by kernel_rfl
 | j+15,h,w=>absurd h (by show ¬ j+15<15;omega)
theorem zH7 (o:Int) (w:wW) (G:OpsAt w):CR 128 #[O J o] w (opV (Wt.opOf o)):=by
 have r:Hid (Wt.opOf o=(Wt.opsT.drop 0).find? λx=>x.1 == o):=(rfl:Wt.opOf o=_)
 obtain ⟨R,s⟩:=xV (Wt.opOf o)
 rw [s] at r ⊢;clear s;have i:pZ (w.alloc (Z #[O J 0,V ⟨#[]⟩,O J 0] 223)) 1 0 opsR:=G.alloc (Z #[O J 0,V ⟨#[]⟩,O J 0] 223);go_enter func128,ntmps128;go_upto_region 1 with fail
 go_wp2_with ((with_reducible refine wpList_load_mid (cs:=opsR) ?_ 248 (.global 1) ?_ 1 0 ?_ _ i underlying248 ?_ ?_ ?_);rfl;rfl;rfl;rfl;kernel_rfl)
 go_loopg [7] 15 (λgk x wr=>∃ j:Nat,x=O J j/\gk=15 - j/\j<=15/\Hid (R=(Wt.opsT.drop j).find? λx=>x.1 == o)/\bL w wr/\Hid (AtL wr w.heap.size [O J 0,V ⟨#[]⟩,O J 0]))
 case atStart=>exact ⟨0,rfl,rfl,jZ _,r,QJ (aZ _ _) _,AtL.new0 w _ [O J 0,V ⟨#[]⟩,O J 0]⟩
 case round =>
  obtain ⟨j,rfl,L,M,a,m,d⟩:=hrel;by_cases b:j<15
  ·have q:(j:Int)<15:=oM;have p:=zDt j b;have hd:=eZ (l:=Wt.opsT) b;generalize Wt.opsT[j]=x at *;obtain ⟨c,f,g⟩:=x;simp only at p;rw [hd] at a;clear hd;have u:=AtL.alloc d.out (Z #[O J c,V ⟨f.toArray⟩,O J g] 223);have n:=QJ m (Z #[O J c,V ⟨f.toArray⟩,O J g] 223);obtain ⟨z,A,B,C,D,F⟩:=d.out.three;have K:=d.out.1;have H:¬ w.heap.size=wr.heap.size:=oM;have t:¬ wr.heap.size=w.heap.size:=oM;by_cases e:c=o
   ·have E:Hid (R=some (c,f,g)):=by show _=_;rw [a.out,hZ (by simp [e])]
    clear a;subst e;go_wp2;refine bodyPost_ret (v:=uX #[gX #[O J c,V ⟨f.toArray⟩,O J g],Y true]) (by simp [results,results128,go_sem, *]) rfl ⟨by rw [E.out];rfl,?_⟩;exact (clB m)
   ·have I:(c == o)=false:=by simp [e]
    have E:Hid (R=(Wt.opsT.drop (j+1)).find? λx=>x.1 == o):=by show _=_;rw [a.out,cZ (by simp [e])]
    clear a;go_wp2_with fail
    go_roundg (15 - (j+1))
    case rel=>exact ⟨j+1,sM,rfl,b,E,n,u⟩
    case measure=>omega
  ·have q:¬ (j:Int)<15:=oM;have E:Hid (R=none):=by
    show _=_
    rw [a.out,iZ (by show 15<=j;omega)];rfl
   clear a;obtain ⟨z,A,B,C,D,F⟩:=d.out.three;go_wp2;refine bodyPost_ret (v:=uX #[gX #[O J 0,V ⟨#[]⟩,O J 0],Y false]) (by simp [results,results128,go_sem, *]) rfl ⟨by rw [E.out];rfl,?_⟩;exact (clB m)
theorem zHG (m:ByteArray) (a:Int) (w:wW) (K:OpsAt w):CR 202 #[V m,O J a] w (opV (Wt.opAs m.data.toList a)):=by
 have u:Hid (Wt.opAs m.data.toList a=(Wt.opsT.drop 0).find? λx=>(x.2.1 == m.data.toList) && (x.2.2 == a)):=(rfl:Wt.opAs m.data.toList a=_)
 obtain ⟨R,A⟩:=xV (Wt.opAs m.data.toList a)
 rw [A] at u ⊢;clear A;have q:pZ (w.alloc (Z #[O J 0,V ⟨#[]⟩,O J 0] 223)) 1 0 opsR:=K.alloc (Z #[O J 0,V ⟨#[]⟩,O J 0] 223);go_enter func202,ntmps202;go_upto_region 1 with fail
 go_wp2_with ((with_reducible refine wpList_load_mid (cs:=opsR) ?_ 248 (.global 1) ?_ 1 0 ?_ _ q underlying248 ?_ ?_ ?_);rfl;rfl;rfl;rfl;kernel_rfl)
 go_loopg [9] 15 (λgk x wr=>∃ j:Nat,x=O J j/\gk=15 - j/\j<=15/\Hid (R=(Wt.opsT.drop j).find? λx=>(x.2.1 == m.data.toList) && (x.2.2 == a))/\bL w wr/\Hid (AtL wr w.heap.size [O J 0,V ⟨#[]⟩,O J 0]))
 case atStart=>exact ⟨0,rfl,rfl,jZ _,u,QJ (aZ _ _) _,AtL.new0 w _ [O J 0,V ⟨#[]⟩,O J 0]⟩
 case round =>
  obtain ⟨j,rfl,Q,S,b,r,n⟩:=hrel;by_cases c:j<15
  ·have t:(j:Int)<15:=oM;have s:=zDt j c;have hd:=eZ (l:=Wt.opsT) c;generalize Wt.opsT[j]=x at *;obtain ⟨p,i,f⟩:=x;simp only at s;rw [hd] at b;clear hd;have z:=AtL.alloc n.out (Z #[O J p,V ⟨i.toArray⟩,O J f] 223);have g:=QJ r (Z #[O J p,V ⟨i.toArray⟩,O J f] 223);obtain ⟨C,D,F,G,H,I⟩:=n.out.three;have P:=n.out.1;have M:¬ w.heap.size=wr.heap.size:=oM;have B:¬ wr.heap.size=w.heap.size:=oM;by_cases d:i=m.toList
   ·subst d;have e:=ByteArray.toList_eq m;by_cases o:f=a
    ·have E:Hid (R=some (p,m.toList,f)):=by show _=_;rw [b.out,hZ (by simp [o,e])]
     clear b e;subst o;go_wp2;refine bodyPost_ret (v:=uX #[gX #[O J p,V ⟨m.toList.toArray⟩,O J f],Y true]) (by simp [results,results202,go_sem, *]) rfl ⟨by rw [E.out];rfl,?_⟩;exact (clB r)
    ·have N:(f == a)=false:=by simp [o]
     have E:Hid (R=(Wt.opsT.drop (j+1)).find? λx=>(x.2.1 == m.data.toList) && (x.2.2 == a)):=by show _=_;rw [b.out,cZ (by simp [o])]
     clear b e;go_wp2_with fail
     go_roundg (15 - (j+1))
     case rel=>exact ⟨j+1,sM,rfl,c,E,g,z⟩
     case measure=>omega
   ·have e:¬ i=m.data.toList:=by rw [<-ByteArray.toList_eq];exact d
    have L:(i == m.toList)=false:=by simp [d]
    have E:Hid (R=(Wt.opsT.drop (j+1)).find? λx=>(x.2.1 == m.data.toList) && (x.2.2 == a)):=by show _=_;rw [b.out,cZ (by simp [e])]
    clear b e;go_wp2_with fail
    go_roundg (15 - (j+1))
    case rel=>exact ⟨j+1,sM,rfl,c,E,g,z⟩
    case measure=>omega
  ·have t:¬ (j:Int)<15:=oM;have E:Hid (R=none):=by
    show _=_
    rw [b.out,iZ (by show 15<=j;omega)];rfl
   clear b;obtain ⟨C,D,F,G,H,I⟩:=n.out.three;go_wp2;refine bodyPost_ret (v:=uX #[gX #[O J 0,V ⟨#[]⟩,O J 0],Y false]) (by simp [results,results202,go_sem, *]) rfl ⟨by rw [E.out];rfl,?_⟩;exact (clB r)
theorem zGQ (x:Wt.Nd) (w:wW):CR 100 #[ndV x] w (O J (Wt.parts x)):=by
 obtain ⟨k,⟨v,z,t,A,s,u⟩,n,nm,j,⟨q,o,l,e,c⟩,⟨r,p,m,f,d⟩⟩:=x;unfold Wt.parts;simp only [ndV,QN];by_cases a:k=4
 ·subst a;go_enter func100,ntmps100;go_wp2;go_ret;exact ⟨rfl,clA⟩
 have g:(k == 4)=false:=by simp [a]
 rw [if_neg a];by_cases b:k=5
 ·subst b;go_enter func100,ntmps100;go_wp2;go_ret;exact ⟨rfl,clA⟩
 have i:(k == 5)=false:=by simp [b]
 rw [if_neg b];go_enter func100,ntmps100;go_wp2;go_ret;exact ⟨rfl,clA⟩
def Vw (x y:Wt.Vl):Bool:=eqV x.k x.n x.d x.t x.b x.f y.k y.n y.d y.t y.b y.f
def zP2 (x y:Wt.Rf):Bool:=eqR x.s x.r x.c x.fr x.fc y.s y.r y.c y.fr y.fc
def eqN (x y:Wt.Nd):Bool:=(x.k == y.k) && (Vw x.v y.v && ((x.op == y.op) && ((x.nm == y.nm) && ((x.ar == y.ar) && (zP2 x.a y.a && zP2 x.b y.b)))))
theorem zLH (x y:Wt.Vl):Vw x y=true ↔ x=y:=by
 obtain ⟨k,n,d,t,b,f⟩:=x;obtain ⟨g,i,c,j,a,e⟩:=y;simp [Vw,eqV,Jm]
theorem zJw (x y:Wt.Rf):zP2 x y=true ↔ x=y:=by
 obtain ⟨k,n,d,t,b⟩:=x;obtain ⟨e,f,c,g,a⟩:=y;simp [zP2,eqR,Jm]
theorem zEc (x y:Wt.Nd):eqN x y=true ↔ x=y:=by
 obtain ⟨k,v,l,nm,g,a,b⟩:=x;obtain ⟨j,m,e,d,c,f,i⟩:=y;simp [eqN,Jm,zLH,zJw]
theorem zBd (x y:Wt.Nd) (w:wW):(binOp .eql 98 (ndV x) (ndV y)).run prog w=.ok (Y (eqN x y)) w:=by
 obtain ⟨k,⟨X,vn,S,vt,R,T⟩,op,nm,ar,⟨P,M,I,m,j⟩,⟨Q,N,K,n,l⟩⟩:=x;obtain ⟨k',⟨z,A,u,B,t,v⟩,H,G,D,⟨r,p,g,c,a⟩,⟨s,q,i,d,b⟩⟩:=y;have e:=λw=>zMl 9996 X vn S vt R T z A u B t v w
 have E:=λw=>zM4 9997 P M I m j r p g c a w
 have L:=λw=>zM4 9997 Q N K n l s q i d b w
 simp only [Nat.reduceAdd] at e E L;simp only [ndV,QN,eqN,Vw,zP2];generalize eqV X vn S vt R T z A u B t v=q1 at *;generalize eqR P M I m j r p g c a=q2 at *;generalize eqR Q N K n l s q i d b=q3 at *;rw [run_eql_struct,beq_toListBytes];by_cases f:k=k'
 ·cases q1
  ·simp [go_sem,f,e]
  ·by_cases o:op=H
   ·by_cases C:nm.toList=G.toList
    ·by_cases F:ar=D
     ·cases q2
      ·simp [go_sem,f,o,C,F,e,E]
      ·cases q3 <;> simp [go_sem,f,o,C,F,e,E,L]
     ·simp [go_sem,f,o,C,F,e]
    ·simp [go_sem,f,o,C,e]
   ·simp [go_sem,f,o,e]
 ·simp [go_sem,f]
theorem QB {P:Program} {e:Array Oper} {c:List Oper} {f:Oper} {a:Act} {Q:Exit->Act->wW->Prop} (p:Region.wanted f (yielded e a.tmps)=true) (g:TypeId) (x:Operand) (m:f.op=.load g x)
  (b o:Nat) (q:a.eval x=pX (some ⟨b,o,none⟩)) (cs:List vW) (d:TypeDesc) (j:w.rangeAt b o cs)
  (n:P.underlying g=some d) (hd:d.isRow=true) (l:(P.info? g).map (·.size)=some cs.length)
  (h:wpList P e Q c (a.put f.dst (gX cs.toArray)) w):wpList P e Q (f::c) a w :=
 BigFrame.wpList_want p λ_ i=>wp_load_mid g x m b o q cs d j n hd l (i _ _ h)
def bare (k:Int):Wt.Nd:=⟨k,Wt.v0,0,⟨#[]⟩,0,Wt.r0,Wt.r0⟩
abbrev two (w:wW) (x:Wt.Nd):wW:=(w.alloc (Z (QN x).toArray 98)).alloc (Z #[O J 0,O J 0,O J 0,O J 0,V ⟨#[]⟩,Y false,O J 0,O J 0,V ⟨#[]⟩,O J 0,V ⟨#[]⟩,O J 0,O J 0,Y false,Y false,V ⟨#[]⟩,O J 0,O J 0,Y false,Y false] 98)
theorem zJ7 (x:Wt.Nd):∀ v ∈ QN x,v.oneCell'=true:=by
 intro v a;simp only [QN,List.mem_cons,List.not_mem_nil,or_false] at a;rcases a with rfl | rfl | rfl | rfl | rfl | rfl | rfl | rfl | rfl | rfl | rfl | rfl | rfl | rfl | rfl | rfl | rfl | rfl | rfl | rfl <;> rfl
theorem Jl (x:Wt.Nd):(QN x).toArray.all (·.oneCell')=true:=all_oneCell_toArray (zJ7 x)
abbrev zQH (ka kb:Nat) (x:Wt.Nd) (W:wW):Prop :=
 W.cell? ⟨ka,1,none⟩=some (O J x.v.k)/\W.cell? ⟨ka,2,none⟩=some (O J x.v.n)/\W.cell? ⟨ka,3,none⟩=some (O J x.v.d)/\W.cell? ⟨ka,4,none⟩=some (V x.v.t)/\W.cell? ⟨ka,5,none⟩=some (Y x.v.b)/\W.cell? ⟨ka,6,none⟩=some (O J x.v.f)/\W.frozen? ⟨kb,1,none⟩=false/\W.frozen? ⟨kb,2,none⟩=false/\W.frozen? ⟨kb,3,none⟩=false/\W.frozen? ⟨kb,4,none⟩=false/\W.frozen? ⟨kb,5,none⟩=false/\W.frozen? ⟨kb,6,none⟩=false
theorem zEt (a:AtL W ka (QN x)) (b:AtL W kb (QN y)):zQH ka kb x W :=
 ⟨a.2.1 1 _ rfl,a.2.1 2 _ rfl,a.2.1 3 _ rfl,a.2.1 4 _ rfl,a.2.1 5 _ rfl,a.2.1 6 _ rfl,b.2.2 1 (by show 1<20;decide),b.2.2 2 (by show 2<20;decide),b.2.2 3 (by show 3<20;decide),b.2.2 4 (by show 4<20;decide),b.2.2 5 (by show 5<20;decide),b.2.2 6 (by show 6<20;decide)⟩
theorem zAZ (h:zQH ka kb x W) (a:kb ≠ ka) (j:Nat) (u:vW):zQH ka kb x (W.setCell ⟨kb,j,none⟩ u):=by
 obtain ⟨i,l,m,n,o,p,b,c,d,e,f,g⟩:=h;refine ⟨?_,?_,?_,?_,?_,?_,?_,?_,?_,?_,?_,?_⟩;any_goals rw [bZ _ _ _ _ (by simpa using a)];assumption
 all_goals rw [dZ];assumption
theorem zLn (x:Wt.Nd) (w:wW) (I:x.k=1) (E:-9223372036854775808<=x.v.n) (F:x.v.n<=9223372036854775807) (G:-9223372036854775808<=x.v.d) (H:x.v.d<=9223372036854775807) (K:x.v.t.size<=9223372036854775807) :
  CR 99 #[ndV x] w (Y (Wt.vlOk x.v && eqN x ⟨1,x.v,0,⟨#[]⟩,0,Wt.r0,Wt.r0⟩)):=by
 have C:=(λw=>zN5 x.v w E F G H K:∀ w:wW,CR 126 #[gX #[O J x.v.k,O J x.v.n,O J x.v.d,V x.v.t,Y x.v.b,O J x.v.f]] w (Y (Wt.vlOk x.v)))
 have hq:∀ w:wW,(binOp .eql 98 (gX (QN x).toArray) (gX (QN ⟨1,x.v,0,⟨#[]⟩,0,Wt.r0,Wt.r0⟩).toArray)).run prog w=.ok (Y (eqN x ⟨1,x.v,0,⟨#[]⟩,0,Wt.r0,Wt.r0⟩)) w:=λw=>zBd x ⟨1,x.v,0,⟨#[]⟩,0,Wt.r0,Wt.r0⟩ w
 generalize eqN x ⟨1,x.v,0,⟨#[]⟩,0,Wt.r0,Wt.r0⟩=R at *;generalize Wt.vlOk x.v=q at *;have o:AtL (two w x) w.heap.size (QN x):=(AtL.new0 w _ _).alloc _;have i:AtL (two w x) (w.heap.size+1) (QN (bare 0)):=AtL.new1 w _ _ _;have m:mZ (two w x) (w.heap.size+1) 0 (QN (bare 1)).toArray.size:=i.there;have c:w.heap.size+1 ≠ w.heap.size:=oM;have pA:=o.farAll c 0 (QN (bare 1));have s:AtL ((two w x).setCells (w.heap.size+1) 0 (QN (bare 1))) (w.heap.size+1) (QN (bare 1)):=i.setAll rfl;have l:bL w ((two w x).setCells (w.heap.size+1) 0 (QN (bare 1))):=Qm (QJ (QJ (aZ _ w) _) _) (nZ _) _ 0;clear o i;have L:(QN x)[0]? = some (O J 1):=by rw [<-I];rfl
 have D:=pA.2.1 0 _ L;show cW _ _ #[gX (QN x).toArray] _ _
 have A:=zEt pA s;cases q
 all_goals
  go_enter func99,ntmps99;go_upto_region 1 with fail
  go_upto_region 2 with ((with_reducible refine wpList_store_mid ?_ 98 (mX 3) (mX 9) ?_ (w.heap.size+1) 0 (QN (bare 1)).toArray ?_ ?_ ?_ ?_ ?_ ?_);rfl;rfl;rfl;rfl;exact m;kernel_rfl;exact Jl _)
  generalize (two w x).setCells (w.heap.size+1) 0 (QN (bare 1))=W0 at *;clear m;go_upto_region 4 with fail
  go_region_held3 (zQH w.heap.size (w.heap.size+1) x)
   (with_reducible first | exact A | assumption | exact zEt g a | exact (zAZ (zAZ (zAZ (zAZ (zAZ (zAZ (by assumption) oM _ _) oM _ _) oM _ _) oM _ _) oM _ _) oM _ _) | exact zEt (AtL.drew pA) (AtL.drew s))
   (first | (go_at_call 126;refine (C _).mono ?_;rintro e B ⟨rfl,z⟩;have g:=AtL.below z (AtL.drew pA);have a:=AtL.below z (AtL.drew s);have M:=a.2.1 1 _ rfl;have N:=a.2.1 2 _ rfl;have P:=a.2.1 3 _ rfl;have Q:=a.2.1 4 _ rfl;have S:=a.2.1 5 _ rfl;have T:=a.2.1 6 _ rfl;have j:=QA l.drew z))
  all_goals
   clear pA s A C l M N P Q S T D;have p:=((((((g.far c 1 (O J x.v.k)).far c 2 (O J x.v.n)).far c 3 (O J x.v.d)).far c 4 (V x.v.t)).far c 5 (Y x.v.b)).far c 6 (O J x.v.f))
   have r:=((((((a.set 1 (O J x.v.k)).set 2 (O J x.v.n)).set 3 (O J x.v.d)).set 4 (V x.v.t)).set 5 (Y x.v.b)).set 6 (O J x.v.f))
   have u:bL w ((((((B.setCell ⟨w.heap.size+1,1,none⟩ (O J x.v.k)).setCell ⟨w.heap.size+1,2,none⟩ (O J x.v.n)).setCell ⟨w.heap.size+1,3,none⟩ (O J x.v.d)).setCell ⟨w.heap.size+1,4,none⟩ (V x.v.t)).setCell ⟨w.heap.size+1,5,none⟩ (Y x.v.b)).setCell ⟨w.heap.size+1,6,none⟩ (O J x.v.f)):=(clB j)
   clear g a j;generalize ((((((B.setCell ⟨w.heap.size+1,1,none⟩ (O J x.v.k)).setCell ⟨w.heap.size+1,2,none⟩ (O J x.v.n)).setCell ⟨w.heap.size+1,3,none⟩ (O J x.v.d)).setCell ⟨w.heap.size+1,4,none⟩ (V x.v.t)).setCell ⟨w.heap.size+1,5,none⟩ (Y x.v.b)).setCell ⟨w.heap.size+1,6,none⟩ (O J x.v.f))=W2 at *;have X:=p.range;have rO:=r.range;clear p r;go_wp2_with (first | ((with_reducible refine QB ?_ 98 (mX 1) ?_ w.heap.size 0 ?_ (QN x) _ ?_ underlying98 ?_ ?_ ?_);rfl;rfl;rfl;exact X;rfl;kernel_rfl) | ((with_reducible refine QB ?_ 98 (mX 3) ?_ (w.heap.size+1) 0 ?_ (QN ⟨1,x.v,0,⟨#[]⟩,0,Wt.r0,Wt.r0⟩) _ ?_ underlying98 ?_ ?_ ?_);rfl;rfl;rfl;exact rO;rfl;kernel_rfl))
   go_wp2;go_ret;exact ⟨sM,u⟩
abbrev zQG (ka kb:Nat) (x:Wt.Nd) (W:wW):Prop :=
 W.cell? ⟨ka,10,none⟩=some (V x.a.s)/\W.cell? ⟨ka,11,none⟩=some (O J x.a.r)/\W.cell? ⟨ka,12,none⟩=some (O J x.a.c)/\W.cell? ⟨ka,13,none⟩=some (Y x.a.fr)/\W.cell? ⟨ka,14,none⟩=some (Y x.a.fc)/\W.frozen? ⟨kb,10,none⟩=false/\W.frozen? ⟨kb,11,none⟩=false/\W.frozen? ⟨kb,12,none⟩=false/\W.frozen? ⟨kb,13,none⟩=false/\W.frozen? ⟨kb,14,none⟩=false
theorem zEg (a:AtL W ka (QN x)) (b:AtL W kb (QN y)):zQG ka kb x W :=
 ⟨a.2.1 10 _ rfl,a.2.1 11 _ rfl,a.2.1 12 _ rfl,a.2.1 13 _ rfl,a.2.1 14 _ rfl,b.2.2 10 (by show 10<20;decide),b.2.2 11 (by show 11<20;decide),b.2.2 12 (by show 12<20;decide),b.2.2 13 (by show 13<20;decide),b.2.2 14 (by show 14<20;decide)⟩
theorem zAm (h:zQG ka kb x W) (a:kb ≠ ka) (j:Nat) (u:vW):zQG ka kb x (W.setCell ⟨kb,j,none⟩ u):=by
 obtain ⟨g,i,l,m,n,b,c,d,e,f⟩:=h;refine ⟨?_,?_,?_,?_,?_,?_,?_,?_,?_,?_⟩;any_goals rw [bZ _ _ _ _ (by simpa using a)];assumption
 all_goals rw [dZ];assumption
theorem zL0 (x:Wt.Nd) (w:wW) (H:x.k=2) (I:x.a.s.size<=9223372036854775807) :
  CR 99 #[ndV x] w (Y (Wt.rfOk x.a && eqN x ⟨2,Wt.v0,0,⟨#[]⟩,0,x.a,Wt.r0⟩)):=by
 have C:=(λw=>zFB x.a w I:∀ w:wW,CR 127 #[gX #[V x.a.s,O J x.a.r,O J x.a.c,Y x.a.fr,Y x.a.fc]] w (Y (Wt.rfOk x.a)))
 have Q:∀ w:wW,(binOp .eql 98 (gX (QN x).toArray) (gX (QN ⟨2,Wt.v0,0,⟨#[]⟩,0,x.a,Wt.r0⟩).toArray)).run prog w=.ok (Y (eqN x ⟨2,Wt.v0,0,⟨#[]⟩,0,x.a,Wt.r0⟩)) w:=λw=>zBd x ⟨2,Wt.v0,0,⟨#[]⟩,0,x.a,Wt.r0⟩ w
 generalize eqN x ⟨2,Wt.v0,0,⟨#[]⟩,0,x.a,Wt.r0⟩=R at *;generalize Wt.rfOk x.a=q at *;have m:AtL (two w x) w.heap.size (QN x):=(AtL.new0 w _ _).alloc _;have g:AtL (two w x) (w.heap.size+1) (QN (bare 0)):=AtL.new1 w _ _ _;have l:mZ (two w x) (w.heap.size+1) 0 (QN (bare 2)).toArray.size:=g.there;have d:w.heap.size+1 ≠ w.heap.size:=oM;have pA:=m.farAll d 0 (QN (bare 2));have p:AtL ((two w x).setCells (w.heap.size+1) 0 (QN (bare 2))) (w.heap.size+1) (QN (bare 2)):=g.setAll rfl;have j:bL w ((two w x).setCells (w.heap.size+1) 0 (QN (bare 2))):=Qm (QJ (QJ (aZ _ w) _) _) (nZ _) _ 0;clear m g;have K:(QN x)[0]? = some (O J 2):=by rw [<-H];rfl
 have G:=pA.2.1 0 _ K;show cW _ _ #[gX (QN x).toArray] _ _
 have E:=zEg pA p;cases q
 all_goals
  go_enter func99,ntmps99;go_upto_region 1 with fail
  go_upto_region 2 with ((with_reducible refine wpList_store_mid ?_ 98 (mX 3) (mX 9) ?_ (w.heap.size+1) 0 (QN (bare 2)).toArray ?_ ?_ ?_ ?_ ?_ ?_);rfl;rfl;rfl;rfl;exact l;kernel_rfl;exact Jl _)
  generalize (two w x).setCells (w.heap.size+1) 0 (QN (bare 2))=N at *;clear l;go_upto_region 6 with fail
  go_region_held3 (zQG w.heap.size (w.heap.size+1) x)
   (with_reducible first | exact E | assumption | exact zEg f b | exact (zAm (zAm (zAm (zAm (zAm (by assumption) oM _ _) oM _ _) oM _ _) oM _ _) oM _ _) | exact zEg (AtL.drew pA) (AtL.drew p))
   (first | (go_at_call 127;refine (C _).mono ?_;rintro e F ⟨rfl,u⟩;have f:=AtL.below u (AtL.drew pA);have b:=AtL.below u (AtL.drew p);have v:=b.2.1 10 _ rfl;have z:=b.2.1 11 _ rfl;have A:=b.2.1 12 _ rfl;have B:=b.2.1 13 _ rfl;have D:=b.2.1 14 _ rfl;have i:=QA j.drew u))
  all_goals
   clear pA p E C j v z A B D G;have n:=(((((f.far d 10 (V x.a.s)).far d 11 (O J x.a.r)).far d 12 (O J x.a.c)).far d 13 (Y x.a.fr)).far d 14 (Y x.a.fc))
   have o:=(((((b.set 10 (V x.a.s)).set 11 (O J x.a.r)).set 12 (O J x.a.c)).set 13 (Y x.a.fr)).set 14 (Y x.a.fc))
   have t:bL w (((((F.setCell ⟨w.heap.size+1,10,none⟩ (V x.a.s)).setCell ⟨w.heap.size+1,11,none⟩ (O J x.a.r)).setCell ⟨w.heap.size+1,12,none⟩ (O J x.a.c)).setCell ⟨w.heap.size+1,13,none⟩ (Y x.a.fr)).setCell ⟨w.heap.size+1,14,none⟩ (Y x.a.fc)):=(clB i)
   clear f b i;generalize (((((F.setCell ⟨w.heap.size+1,10,none⟩ (V x.a.s)).setCell ⟨w.heap.size+1,11,none⟩ (O J x.a.r)).setCell ⟨w.heap.size+1,12,none⟩ (O J x.a.c)).setCell ⟨w.heap.size+1,13,none⟩ (Y x.a.fr)).setCell ⟨w.heap.size+1,14,none⟩ (Y x.a.fc))=P at *;have L:=n.range;have M:=o.range;clear n o;go_wp2_with (first | ((with_reducible refine QB ?_ 98 (mX 1) ?_ w.heap.size 0 ?_ (QN x) _ ?_ underlying98 ?_ ?_ ?_);rfl;rfl;rfl;exact L;rfl;kernel_rfl) | ((with_reducible refine QB ?_ 98 (mX 3) ?_ (w.heap.size+1) 0 ?_ (QN ⟨2,Wt.v0,0,⟨#[]⟩,0,x.a,Wt.r0⟩) _ ?_ underlying98 ?_ ?_ ?_);rfl;rfl;rfl;exact M;rfl;kernel_rfl))
   go_wp2;go_ret;exact ⟨sM,t⟩
abbrev zQP (ka kb:Nat) (x:Wt.Nd) (W:wW):Prop :=
 W.cell? ⟨ka,10,none⟩=some (V x.a.s)/\W.cell? ⟨ka,11,none⟩=some (O J x.a.r)/\W.cell? ⟨ka,12,none⟩=some (O J x.a.c)/\W.cell? ⟨ka,13,none⟩=some (Y x.a.fr)/\W.cell? ⟨ka,14,none⟩=some (Y x.a.fc)/\W.cell? ⟨ka,15,none⟩=some (V x.b.s)/\W.cell? ⟨ka,16,none⟩=some (O J x.b.r)/\W.cell? ⟨ka,17,none⟩=some (O J x.b.c)/\W.cell? ⟨ka,18,none⟩=some (Y x.b.fr)/\W.cell? ⟨ka,19,none⟩=some (Y x.b.fc)/\W.frozen? ⟨kb,10,none⟩=false/\W.frozen? ⟨kb,11,none⟩=false/\W.frozen? ⟨kb,12,none⟩=false/\W.frozen? ⟨kb,13,none⟩=false/\W.frozen? ⟨kb,14,none⟩=false/\W.frozen? ⟨kb,15,none⟩=false/\W.frozen? ⟨kb,16,none⟩=false/\W.frozen? ⟨kb,17,none⟩=false/\W.frozen? ⟨kb,18,none⟩=false/\W.frozen? ⟨kb,19,none⟩=false
theorem JW (a:AtL W ka (QN x)) (b:AtL W kb (QN y)):zQP ka kb x W :=
 ⟨a.2.1 10 _ rfl,a.2.1 11 _ rfl,a.2.1 12 _ rfl,a.2.1 13 _ rfl,a.2.1 14 _ rfl,a.2.1 15 _ rfl,a.2.1 16 _ rfl,a.2.1 17 _ rfl,a.2.1 18 _ rfl,a.2.1 19 _ rfl,b.2.2 10 (by show 10<20;decide),b.2.2 11 (by show 11<20;decide),b.2.2 12 (by show 12<20;decide),b.2.2 13 (by show 13<20;decide),b.2.2 14 (by show 14<20;decide),b.2.2 15 (by show 15<20;decide),b.2.2 16 (by show 16<20;decide),b.2.2 17 (by show 17<20;decide),b.2.2 18 (by show 18<20;decide),b.2.2 19 (by show 19<20;decide)⟩
theorem QX (h:zQP ka kb x W) (a:kb ≠ ka) (j:Nat) (u:vW):zQP ka kb x (W.setCell ⟨kb,j,none⟩ u):=by
 obtain ⟨o,p,q,r,s,t,v,z,A,B,b,c,d,e,f,g,i,l,m,n⟩:=h;refine ⟨?_,?_,?_,?_,?_,?_,?_,?_,?_,?_,?_,?_,?_,?_,?_,?_,?_,?_,?_,?_⟩;any_goals rw [bZ _ _ _ _ (by simpa using a)];assumption
 all_goals rw [dZ];assumption
theorem zKx (x:Wt.Nd) (w:wW) (hk:x.k=3) (hs:x.a.s.size<=9223372036854775807) (ag:x.b.s.size<=9223372036854775807) :
  CR 99 #[ndV x] w (Y ((Wt.rfOk x.a && Wt.rfOk x.b && x.b.s.toList.isEmpty) && eqN x ⟨3,Wt.v0,0,⟨#[]⟩,0,x.a,x.b⟩)):=by
 have CA:=(λw=>zFB x.a w hs:∀ w:wW,CR 127 #[gX #[V x.a.s,O J x.a.r,O J x.a.c,Y x.a.fr,Y x.a.fc]] w (Y (Wt.rfOk x.a)))
 have CB:=(λw=>zFB x.b w ag:∀ w:wW,CR 127 #[gX #[V x.b.s,O J x.b.r,O J x.b.c,Y x.b.fr,Y x.b.fc]] w (Y (Wt.rfOk x.b)))
 have hq:∀ w:wW,(binOp .eql 98 (gX (QN x).toArray) (gX (QN ⟨3,Wt.v0,0,⟨#[]⟩,0,x.a,x.b⟩).toArray)).run prog w=.ok (Y (eqN x ⟨3,Wt.v0,0,⟨#[]⟩,0,x.a,x.b⟩)) w:=λw=>zBd x ⟨3,Wt.v0,0,⟨#[]⟩,0,x.a,x.b⟩ w
 generalize eqN x ⟨3,Wt.v0,0,⟨#[]⟩,0,x.a,x.b⟩=R at *;generalize Wt.rfOk x.a=qa at *;generalize Wt.rfOk x.b=qb at *;have ae:AtL (two w x) w.heap.size (QN x):=(AtL.new0 w _ _).alloc _;have ab:AtL (two w x) (w.heap.size+1) (QN (bare 0)):=AtL.new1 w _ _ _;have ad:mZ (two w x) (w.heap.size+1) 0 (QN (bare 3)).toArray.size:=ab.there;have i:w.heap.size+1 ≠ w.heap.size:=oM;have pA:=ae.farAll i 0 (QN (bare 3));have pO:AtL ((two w x).setCells (w.heap.size+1) 0 (QN (bare 3))) (w.heap.size+1) (QN (bare 3)):=ab.setAll rfl;have af:bL w ((two w x).setCells (w.heap.size+1) 0 (QN (bare 3))):=Qm (QJ (QJ (aZ _ w) _) _) (nZ _) _ 0;clear ae ab;have n0:(QN x)[0]? = some (O J 3):=by rw [<-hk];rfl
 have a0:=pA.2.1 0 _ n0;show cW _ _ #[gX (QN x).toArray] _ _
 go_enter func99,ntmps99;go_upto_region 1 with fail
 go_upto_region 2 with ((with_reducible refine wpList_store_mid ?_ 98 (mX 3) (mX 9) ?_ (w.heap.size+1) 0 (QN (bare 3)).toArray ?_ ?_ ?_ ?_ ?_ ?_);rfl;rfl;rfl;rfl;exact ad;kernel_rfl;exact Jl _)
 generalize (two w x).setCells (w.heap.size+1) 0 (QN (bare 3))=W0 at *;clear ad;go_upto_region 8 with fail
 refine wp_region_held_drew (S:=zQP w.heap.size (w.heap.size+1) x) kR (JW (AtL.drew pA) (AtL.drew pO)) (λg=>?_);refine tkQ 0 ?_
 refine tkQ 1 ?_
 refine tkQ 2 ?_
 refine tkQ 3 ?_
 refine tkQ 4 ?_
 refine tkQ 5 ?_
 refine tkQ 18 ?_
 refine rdQ 6 (λK j=>?_);go_simp
 refine (CA _).mono ?_;rintro e w1 ⟨rfl,hb⟩;have l:=AtL.below hb (AtL.drew pA);have d:=AtL.below hb (AtL.drew pO);have P:=QA af.drew hb;clear hb;go_wp2_with fail
 refine hkQ j (JW l d) (λg=>?_);clear j K
 refine tkQ 7 ?_
 cases qa
 ·clear CB;refine tnQ 8 ?_
  refine tnQ 9 ?_
  refine tnQ 10 ?_
  refine tkQ 11 ?_
  refine tkQ 12 ?_
  refine tnQ 13 ?_
  refine tnQ 14 ?_
  refine tnQ 15 ?_
  refine tnQ 16 ?_
  refine tkQ 17 ?_
  refine rdQ 19 (λK j=>?_);have B:=d.2.1 10 _ rfl;have C:=d.2.1 11 _ rfl;have D:=d.2.1 12 _ rfl;have E:=d.2.1 13 _ rfl;have F:=d.2.1 14 _ rfl;have G:=d.2.1 15 _ rfl;have H:=d.2.1 16 _ rfl;have I:=d.2.1 17 _ rfl;have L:=d.2.1 18 _ rfl;have M:=d.2.1 19 _ rfl;obtain ⟨_,_,_,_,_,_,_,_,_,_,m,n,o,p,q,t,u,v,z,A⟩:=g;go_simp
  refine hkQ j ((QX (QX (QX (QX (QX (JW l d) oM _ _) oM _ _) oM _ _) oM _ _) oM _ _)) (λg=>?_);clear j K
  refine tkQ 20 ?_
  refine rdQ 21 (λK j=>?_);have N:AtL (((((w1.setCell ⟨w.heap.size+1,10,none⟩ (V x.a.s)).setCell ⟨w.heap.size+1,11,none⟩ (O J x.a.r)).setCell ⟨w.heap.size+1,12,none⟩ (O J x.a.c)).setCell ⟨w.heap.size+1,13,none⟩ (Y x.a.fr)).setCell ⟨w.heap.size+1,14,none⟩ (Y x.a.fc)) w.heap.size (QN x):=(((((l.far i 10 (V x.a.s)).far i 11 (O J x.a.r)).far i 12 (O J x.a.c)).far i 13 (Y x.a.fr)).far i 14 (Y x.a.fc))
  have f:AtL (((((w1.setCell ⟨w.heap.size+1,10,none⟩ (V x.a.s)).setCell ⟨w.heap.size+1,11,none⟩ (O J x.a.r)).setCell ⟨w.heap.size+1,12,none⟩ (O J x.a.c)).setCell ⟨w.heap.size+1,13,none⟩ (Y x.a.fr)).setCell ⟨w.heap.size+1,14,none⟩ (Y x.a.fc)) (w.heap.size+1) (QN ⟨3,Wt.v0,0,⟨#[]⟩,0,x.a,Wt.r0⟩):=(((((d.set 10 (V x.a.s)).set 11 (O J x.a.r)).set 12 (O J x.a.c)).set 13 (Y x.a.fr)).set 14 (Y x.a.fc))
  have Q:bL w (((((w1.setCell ⟨w.heap.size+1,10,none⟩ (V x.a.s)).setCell ⟨w.heap.size+1,11,none⟩ (O J x.a.r)).setCell ⟨w.heap.size+1,12,none⟩ (O J x.a.c)).setCell ⟨w.heap.size+1,13,none⟩ (Y x.a.fr)).setCell ⟨w.heap.size+1,14,none⟩ (Y x.a.fc)):=(clB P)
  clear l d P B C D E F G H I L M m n o p q t u v z A;generalize (((((w1.setCell ⟨w.heap.size+1,10,none⟩ (V x.a.s)).setCell ⟨w.heap.size+1,11,none⟩ (O J x.a.r)).setCell ⟨w.heap.size+1,12,none⟩ (O J x.a.c)).setCell ⟨w.heap.size+1,13,none⟩ (Y x.a.fr)).setCell ⟨w.heap.size+1,14,none⟩ (Y x.a.fc))=w9 at *;have B:=f.2.1 10 _ rfl;have C:=f.2.1 11 _ rfl;have D:=f.2.1 12 _ rfl;have E:=f.2.1 13 _ rfl;have F:=f.2.1 14 _ rfl;have G:=f.2.1 15 _ rfl;have H:=f.2.1 16 _ rfl;have I:=f.2.1 17 _ rfl;have L:=f.2.1 18 _ rfl;have M:=f.2.1 19 _ rfl;obtain ⟨_,_,_,_,_,_,_,_,_,_,m,n,o,p,q,t,u,v,z,A⟩:=g;go_simp
  refine hkQ j ((QX (QX (QX (QX (QX (JW N f) oM _ _) oM _ _) oM _ _) oM _ _) oM _ _)) (λg=>?_);clear j K
  refine rdQ 22 (λK j=>?_);go_simp
  refine hkQ j (by assumption) (λg=>?_);clear j K
  refine wpAnyH_done kR ?_ _;have T:=(((((N.far i 15 (V x.b.s)).far i 16 (O J x.b.r)).far i 17 (O J x.b.c)).far i 18 (Y x.b.fr)).far i 19 (Y x.b.fc))
  have X:AtL (((((w9.setCell ⟨w.heap.size+1,15,none⟩ (V x.b.s)).setCell ⟨w.heap.size+1,16,none⟩ (O J x.b.r)).setCell ⟨w.heap.size+1,17,none⟩ (O J x.b.c)).setCell ⟨w.heap.size+1,18,none⟩ (Y x.b.fr)).setCell ⟨w.heap.size+1,19,none⟩ (Y x.b.fc)) (w.heap.size+1) (QN ⟨3,Wt.v0,0,⟨#[]⟩,0,x.a,x.b⟩):=(((((f.set 15 (V x.b.s)).set 16 (O J x.b.r)).set 17 (O J x.b.c)).set 18 (Y x.b.fr)).set 19 (Y x.b.fc))
  have aa:bL w (((((w9.setCell ⟨w.heap.size+1,15,none⟩ (V x.b.s)).setCell ⟨w.heap.size+1,16,none⟩ (O J x.b.r)).setCell ⟨w.heap.size+1,17,none⟩ (O J x.b.c)).setCell ⟨w.heap.size+1,18,none⟩ (Y x.b.fr)).setCell ⟨w.heap.size+1,19,none⟩ (Y x.b.fc)):=(clB Q)
  clear N f Q B C D E F G H I L M m n o p q t u v z A;generalize (((((w9.setCell ⟨w.heap.size+1,15,none⟩ (V x.b.s)).setCell ⟨w.heap.size+1,16,none⟩ (O J x.b.r)).setCell ⟨w.heap.size+1,17,none⟩ (O J x.b.c)).setCell ⟨w.heap.size+1,18,none⟩ (Y x.b.fr)).setCell ⟨w.heap.size+1,19,none⟩ (Y x.b.fc))=W2 at *;have rA:=T.range;have rO:=X.range;clear T X;go_wp2_with (first | ((with_reducible refine QB ?_ 98 (mX 1) ?_ w.heap.size 0 ?_ (QN x) _ ?_ underlying98 ?_ ?_ ?_);rfl;rfl;rfl;exact rA;rfl;kernel_rfl) | ((with_reducible refine QB ?_ 98 (mX 3) ?_ (w.heap.size+1) 0 ?_ (QN ⟨3,Wt.v0,0,⟨#[]⟩,0,x.a,x.b⟩) _ ?_ underlying98 ?_ ?_ ?_);rfl;rfl;rfl;exact rO;rfl;kernel_rfl))
  go_wp2;go_ret;exact ⟨sM,aa⟩
 refine tkQ 8 ?_
 refine tkQ 9 ?_
 refine rdQ 10 (λK j=>?_);go_simp
 refine (CB _).mono ?_;rintro e w2 ⟨rfl,hb⟩;replace l:=AtL.below hb l
 replace d:=AtL.below hb d
 replace P:=QA P hb
 clear hb;go_wp2_with fail
 refine hkQ j (JW l d) (λg=>?_);clear j K
 refine tkQ 11 ?_
 refine tkQ 12 ?_
 cases qb
 ·refine tnQ 13 ?_
  refine tnQ 14 ?_
  refine tnQ 15 ?_
  refine tnQ 16 ?_
  refine tkQ 17 ?_
  refine rdQ 19 (λK j=>?_);have B:=d.2.1 10 _ rfl;have C:=d.2.1 11 _ rfl;have D:=d.2.1 12 _ rfl;have E:=d.2.1 13 _ rfl;have F:=d.2.1 14 _ rfl;have G:=d.2.1 15 _ rfl;have H:=d.2.1 16 _ rfl;have I:=d.2.1 17 _ rfl;have L:=d.2.1 18 _ rfl;have M:=d.2.1 19 _ rfl;obtain ⟨_,_,_,_,_,_,_,_,_,_,m,n,o,p,q,t,u,v,z,A⟩:=g;go_simp
  refine hkQ j ((QX (QX (QX (QX (QX (JW l d) oM _ _) oM _ _) oM _ _) oM _ _) oM _ _)) (λg=>?_);clear j K
  refine tkQ 20 ?_
  refine rdQ 21 (λK j=>?_);have N:AtL (((((w2.setCell ⟨w.heap.size+1,10,none⟩ (V x.a.s)).setCell ⟨w.heap.size+1,11,none⟩ (O J x.a.r)).setCell ⟨w.heap.size+1,12,none⟩ (O J x.a.c)).setCell ⟨w.heap.size+1,13,none⟩ (Y x.a.fr)).setCell ⟨w.heap.size+1,14,none⟩ (Y x.a.fc)) w.heap.size (QN x):=(((((l.far i 10 (V x.a.s)).far i 11 (O J x.a.r)).far i 12 (O J x.a.c)).far i 13 (Y x.a.fr)).far i 14 (Y x.a.fc))
  have f:AtL (((((w2.setCell ⟨w.heap.size+1,10,none⟩ (V x.a.s)).setCell ⟨w.heap.size+1,11,none⟩ (O J x.a.r)).setCell ⟨w.heap.size+1,12,none⟩ (O J x.a.c)).setCell ⟨w.heap.size+1,13,none⟩ (Y x.a.fr)).setCell ⟨w.heap.size+1,14,none⟩ (Y x.a.fc)) (w.heap.size+1) (QN ⟨3,Wt.v0,0,⟨#[]⟩,0,x.a,Wt.r0⟩):=(((((d.set 10 (V x.a.s)).set 11 (O J x.a.r)).set 12 (O J x.a.c)).set 13 (Y x.a.fr)).set 14 (Y x.a.fc))
  have Q:bL w (((((w2.setCell ⟨w.heap.size+1,10,none⟩ (V x.a.s)).setCell ⟨w.heap.size+1,11,none⟩ (O J x.a.r)).setCell ⟨w.heap.size+1,12,none⟩ (O J x.a.c)).setCell ⟨w.heap.size+1,13,none⟩ (Y x.a.fr)).setCell ⟨w.heap.size+1,14,none⟩ (Y x.a.fc)):=(clB P)
  clear l d P B C D E F G H I L M m n o p q t u v z A;generalize (((((w2.setCell ⟨w.heap.size+1,10,none⟩ (V x.a.s)).setCell ⟨w.heap.size+1,11,none⟩ (O J x.a.r)).setCell ⟨w.heap.size+1,12,none⟩ (O J x.a.c)).setCell ⟨w.heap.size+1,13,none⟩ (Y x.a.fr)).setCell ⟨w.heap.size+1,14,none⟩ (Y x.a.fc))=w9 at *;have B:=f.2.1 10 _ rfl;have C:=f.2.1 11 _ rfl;have D:=f.2.1 12 _ rfl;have E:=f.2.1 13 _ rfl;have F:=f.2.1 14 _ rfl;have G:=f.2.1 15 _ rfl;have H:=f.2.1 16 _ rfl;have I:=f.2.1 17 _ rfl;have L:=f.2.1 18 _ rfl;have M:=f.2.1 19 _ rfl;obtain ⟨_,_,_,_,_,_,_,_,_,_,m,n,o,p,q,t,u,v,z,A⟩:=g;go_simp
  refine hkQ j ((QX (QX (QX (QX (QX (JW N f) oM _ _) oM _ _) oM _ _) oM _ _) oM _ _)) (λg=>?_);clear j K
  refine rdQ 22 (λK j=>?_);go_simp
  refine hkQ j (by assumption) (λg=>?_);clear j K
  refine wpAnyH_done kR ?_ _;have T:AtL (((((w9.setCell ⟨w.heap.size+1,15,none⟩ (V x.b.s)).setCell ⟨w.heap.size+1,16,none⟩ (O J x.b.r)).setCell ⟨w.heap.size+1,17,none⟩ (O J x.b.c)).setCell ⟨w.heap.size+1,18,none⟩ (Y x.b.fr)).setCell ⟨w.heap.size+1,19,none⟩ (Y x.b.fc)) w.heap.size (QN x):=(((((N.far i 15 (V x.b.s)).far i 16 (O J x.b.r)).far i 17 (O J x.b.c)).far i 18 (Y x.b.fr)).far i 19 (Y x.b.fc))
  have X:AtL (((((w9.setCell ⟨w.heap.size+1,15,none⟩ (V x.b.s)).setCell ⟨w.heap.size+1,16,none⟩ (O J x.b.r)).setCell ⟨w.heap.size+1,17,none⟩ (O J x.b.c)).setCell ⟨w.heap.size+1,18,none⟩ (Y x.b.fr)).setCell ⟨w.heap.size+1,19,none⟩ (Y x.b.fc)) (w.heap.size+1) (QN ⟨3,Wt.v0,0,⟨#[]⟩,0,x.a,x.b⟩):=(((((f.set 15 (V x.b.s)).set 16 (O J x.b.r)).set 17 (O J x.b.c)).set 18 (Y x.b.fr)).set 19 (Y x.b.fc))
  have aa:bL w (((((w9.setCell ⟨w.heap.size+1,15,none⟩ (V x.b.s)).setCell ⟨w.heap.size+1,16,none⟩ (O J x.b.r)).setCell ⟨w.heap.size+1,17,none⟩ (O J x.b.c)).setCell ⟨w.heap.size+1,18,none⟩ (Y x.b.fr)).setCell ⟨w.heap.size+1,19,none⟩ (Y x.b.fc)):=(clB Q)
  clear N f Q B C D E F G H I L M m n o p q t u v z A;generalize (((((w9.setCell ⟨w.heap.size+1,15,none⟩ (V x.b.s)).setCell ⟨w.heap.size+1,16,none⟩ (O J x.b.r)).setCell ⟨w.heap.size+1,17,none⟩ (O J x.b.c)).setCell ⟨w.heap.size+1,18,none⟩ (Y x.b.fr)).setCell ⟨w.heap.size+1,19,none⟩ (Y x.b.fc))=W2 at *;have rA:=T.range;have rO:=X.range;clear T X;go_wp2_with (first | ((with_reducible refine QB ?_ 98 (mX 1) ?_ w.heap.size 0 ?_ (QN x) _ ?_ underlying98 ?_ ?_ ?_);rfl;rfl;rfl;exact rA;rfl;kernel_rfl) | ((with_reducible refine QB ?_ 98 (mX 3) ?_ (w.heap.size+1) 0 ?_ (QN ⟨3,Wt.v0,0,⟨#[]⟩,0,x.a,x.b⟩) _ ?_ underlying98 ?_ ?_ ?_);rfl;rfl;rfl;exact rO;rfl;kernel_rfl))
  go_wp2;go_ret;exact ⟨sM,aa⟩
 cases he:x.b.s.toList.isEmpty
 all_goals
  refine tkQ 13 ?_
  refine tkQ 14 ?_
  refine tkQ 15 ?_
  refine tkQ 16 ?_
  refine tkQ 17 ?_
  refine rdQ 19 (λK j=>?_);have B:=d.2.1 10 _ rfl;have C:=d.2.1 11 _ rfl;have D:=d.2.1 12 _ rfl;have E:=d.2.1 13 _ rfl;have F:=d.2.1 14 _ rfl;have G:=d.2.1 15 _ rfl;have H:=d.2.1 16 _ rfl;have I:=d.2.1 17 _ rfl;have L:=d.2.1 18 _ rfl;have M:=d.2.1 19 _ rfl;obtain ⟨_,_,_,_,_,_,_,_,_,_,m,n,o,p,q,t,u,v,z,A⟩:=g;go_simp
  refine hkQ j ((QX (QX (QX (QX (QX (JW l d) oM _ _) oM _ _) oM _ _) oM _ _) oM _ _)) (λg=>?_);clear j K
  refine tkQ 20 ?_
  refine rdQ 21 (λK j=>?_);have N:AtL (((((w2.setCell ⟨w.heap.size+1,10,none⟩ (V x.a.s)).setCell ⟨w.heap.size+1,11,none⟩ (O J x.a.r)).setCell ⟨w.heap.size+1,12,none⟩ (O J x.a.c)).setCell ⟨w.heap.size+1,13,none⟩ (Y x.a.fr)).setCell ⟨w.heap.size+1,14,none⟩ (Y x.a.fc)) w.heap.size (QN x):=(((((l.far i 10 (V x.a.s)).far i 11 (O J x.a.r)).far i 12 (O J x.a.c)).far i 13 (Y x.a.fr)).far i 14 (Y x.a.fc))
  have f:AtL (((((w2.setCell ⟨w.heap.size+1,10,none⟩ (V x.a.s)).setCell ⟨w.heap.size+1,11,none⟩ (O J x.a.r)).setCell ⟨w.heap.size+1,12,none⟩ (O J x.a.c)).setCell ⟨w.heap.size+1,13,none⟩ (Y x.a.fr)).setCell ⟨w.heap.size+1,14,none⟩ (Y x.a.fc)) (w.heap.size+1) (QN ⟨3,Wt.v0,0,⟨#[]⟩,0,x.a,Wt.r0⟩):=(((((d.set 10 (V x.a.s)).set 11 (O J x.a.r)).set 12 (O J x.a.c)).set 13 (Y x.a.fr)).set 14 (Y x.a.fc))
  have Q:bL w (((((w2.setCell ⟨w.heap.size+1,10,none⟩ (V x.a.s)).setCell ⟨w.heap.size+1,11,none⟩ (O J x.a.r)).setCell ⟨w.heap.size+1,12,none⟩ (O J x.a.c)).setCell ⟨w.heap.size+1,13,none⟩ (Y x.a.fr)).setCell ⟨w.heap.size+1,14,none⟩ (Y x.a.fc)):=(clB P)
  clear l d P B C D E F G H I L M m n o p q t u v z A;generalize (((((w2.setCell ⟨w.heap.size+1,10,none⟩ (V x.a.s)).setCell ⟨w.heap.size+1,11,none⟩ (O J x.a.r)).setCell ⟨w.heap.size+1,12,none⟩ (O J x.a.c)).setCell ⟨w.heap.size+1,13,none⟩ (Y x.a.fr)).setCell ⟨w.heap.size+1,14,none⟩ (Y x.a.fc))=w9 at *;have B:=f.2.1 10 _ rfl;have C:=f.2.1 11 _ rfl;have D:=f.2.1 12 _ rfl;have E:=f.2.1 13 _ rfl;have F:=f.2.1 14 _ rfl;have G:=f.2.1 15 _ rfl;have H:=f.2.1 16 _ rfl;have I:=f.2.1 17 _ rfl;have L:=f.2.1 18 _ rfl;have M:=f.2.1 19 _ rfl;obtain ⟨_,_,_,_,_,_,_,_,_,_,m,n,o,p,q,t,u,v,z,A⟩:=g;go_simp
  refine hkQ j ((QX (QX (QX (QX (QX (JW N f) oM _ _) oM _ _) oM _ _) oM _ _) oM _ _)) (λg=>?_);clear j K
  refine rdQ 22 (λK j=>?_);go_simp
  refine hkQ j (by assumption) (λg=>?_);clear j K
  refine wpAnyH_done kR ?_ _;have T:=(((((N.far i 15 (V x.b.s)).far i 16 (O J x.b.r)).far i 17 (O J x.b.c)).far i 18 (Y x.b.fr)).far i 19 (Y x.b.fc))
  have X:=(((((f.set 15 (V x.b.s)).set 16 (O J x.b.r)).set 17 (O J x.b.c)).set 18 (Y x.b.fr)).set 19 (Y x.b.fc))
  have aa:bL w (((((w9.setCell ⟨w.heap.size+1,15,none⟩ (V x.b.s)).setCell ⟨w.heap.size+1,16,none⟩ (O J x.b.r)).setCell ⟨w.heap.size+1,17,none⟩ (O J x.b.c)).setCell ⟨w.heap.size+1,18,none⟩ (Y x.b.fr)).setCell ⟨w.heap.size+1,19,none⟩ (Y x.b.fc)):=(clB Q)
  clear N f Q B C D E F G H I L M m n o p q t u v z A;generalize (((((w9.setCell ⟨w.heap.size+1,15,none⟩ (V x.b.s)).setCell ⟨w.heap.size+1,16,none⟩ (O J x.b.r)).setCell ⟨w.heap.size+1,17,none⟩ (O J x.b.c)).setCell ⟨w.heap.size+1,18,none⟩ (Y x.b.fr)).setCell ⟨w.heap.size+1,19,none⟩ (Y x.b.fc))=W2 at *;have rA:=T.range;have rO:=X.range;clear T X;go_wp2_with (first | ((with_reducible refine QB ?_ 98 (mX 1) ?_ w.heap.size 0 ?_ (QN x) _ ?_ underlying98 ?_ ?_ ?_);rfl;rfl;rfl;exact rA;rfl;kernel_rfl) | ((with_reducible refine QB ?_ 98 (mX 3) ?_ (w.heap.size+1) 0 ?_ (QN ⟨3,Wt.v0,0,⟨#[]⟩,0,x.a,x.b⟩) _ ?_ underlying98 ?_ ?_ ?_);rfl;rfl;rfl;exact rO;rfl;kernel_rfl))
  go_wp2;go_ret;have ac:=he;simp only [List.isEmpty_iff,List.isEmpty_eq_false_iff] at ac;exact ⟨by simp [ac],aa⟩
