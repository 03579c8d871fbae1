/- KAreas, KNames. -/
import Derived.Test.YtnloiaoogofklaaGreatDoorQ39
set_option maxHeartbeats 1600000
set_option maxRecDepth 100000
namespace Go.Proofs.YtnloiaoogofklaaGreatDoor
open Tryz
open Go.RowKit
set_option linter.unusedVariables false
theorem zID (x:Wpl.Ar) (w:World):(binOp .neq 45 (.agg #[.int .i64 x.s,.int .i64 x.t,.int .i64 x.l,.int .i64 x.b,.int .i64 x.r]) (.agg #[.int .i64 x.s,.int .i64 x.t,.int .i64 x.l,.int .i64 x.b,.int .i64 x.r])).run prog w=.ok (.bool false) w:=by
 simp [go_sem]
theorem zJJ (A:List Wpl.Ar) (v1 v2:Value) (w:World) (h1:RdA w v1 A) (h2:RdA w v2 A) (hl:A.length<=2000000):CR 15 #[v1,v2] w (.bool true):=by
 obtain ⟨a1,c1,rfl,r1⟩:=h1;obtain ⟨a2,c2,rfl,r2⟩:=h2;have H1:Hid (∀ i (h:i<A.length),∃ bb off,a1=some ⟨bb,off,none⟩/\w.rangeAt bb (off+i * 5) (zA7 (A[i]))):=r1;have H2:Hid (∀ i (h:i<A.length),∃ bb off,a2=some ⟨bb,off,none⟩/\w.rangeAt bb (off+i * 5) (zA7 (A[i]))):=r2;obtain ⟨n,hn⟩:∃ n,A.length=n:=⟨_,rfl⟩
 have HA:Hid (A.length=n):=hn;have HL:Hid (n<=2000000):=by rw [<-hn];exact hl
 rw [hn];have hnn:((n:Int) != (n:Int))=false:=by simp
 clear r1 r2 hn hl;go_enter func15,ntmps15;go_wp2_with fail
 go_loopg [5] n (λgk u wr=>∃ i:Nat,u=.int .i64 i/\gk=n - i/\i<=n/\Hid (Below w.heap.size w wr))
 case atStart=>exact ⟨0,rfl,rfl,Nat.zero_le _,Below.refl _ _⟩
 case round =>
  obtain ⟨i,rfl,hg,hi,HB⟩:=hrel;by_cases hlt:i<n
  ·have hli:(i:Int)<(n:Int):=by omega
   have hiz:(0:Int)<=(i:Int):=by omega
   have hwi:IntKind.i64.wrap ((i:Int)+1)=(i:Int)+1:=by rw [IntKind.wrap_i64];have:=HL.out;omega
   obtain ⟨b1,o1,rfl,q1⟩:=H1.out i (by rw [HA.out];exact hlt);obtain ⟨b2,o2,rfl,q2⟩:=H2.out i (by rw [HA.out];exact hlt);obtain ⟨y,hy⟩:∃ y,A[i]'(by rw [HA.out];exact hlt)=y:=⟨_,rfl⟩
   rw [hy] at q1 q2;clear hy;go_upto_region 6 with fail
   have rb:=(Below.refl wr.heap.size wr).drew;have HB2:Hid (Below w.heap.size w wr.drew):=zAB HB.out rb;have sp:=zAF HB2.out q1;have sq:=zAF HB2.out q2;have hne:=λW=>zID y W
   have p0:wr.drew.cell? ⟨b1,o1+i * 5,none⟩=some (.int .i64 y.s):=by have:=sp 0 _ rfl;simpa using this
   have p1:=sp 1 _ rfl;have p2:=sp 2 _ rfl;have p3:=sp 3 _ rfl;have p4:=sp 4 _ rfl;have q0:wr.drew.cell? ⟨b2,o2+i * 5,none⟩=some (.int .i64 y.s):=by have:=sq 0 _ rfl;simpa using this
   have q1:=sq 1 _ rfl;have q2:=sq 2 _ rfl;have q3:=sq 3 _ rfl;have q4:=sq 4 _ rfl;clear rb sp sq HB;refine wp_region_held_drew (S:=λW=>(W.cell? ⟨b1,o1+i * 5,none⟩=some (.int .i64 y.s)/\W.cell? ⟨b1,o1+i * 5+1,none⟩=some (.int .i64 y.t)/\W.cell? ⟨b1,o1+i * 5+2,none⟩=some (.int .i64 y.l)/\W.cell? ⟨b1,o1+i * 5+3,none⟩=some (.int .i64 y.b)/\W.cell? ⟨b1,o1+i * 5+4,none⟩=some (.int .i64 y.r))/\W.cell? ⟨b2,o2+i * 5,none⟩=some (.int .i64 y.s)/\W.cell? ⟨b2,o2+i * 5+1,none⟩=some (.int .i64 y.t)/\W.cell? ⟨b2,o2+i * 5+2,none⟩=some (.int .i64 y.l)/\W.cell? ⟨b2,o2+i * 5+3,none⟩=some (.int .i64 y.b)/\W.cell? ⟨b2,o2+i * 5+4,none⟩=some (.int .i64 y.r)) (by kernel_rfl) ⟨⟨p0,p1,p2,p3,p4⟩,q0,q1,q2,q3,q4⟩ (λhHeld=>?_);generalize wr.drew=WD at *;refine tkQ 0 ⟨some 17,.move (.tmp 0),34,"law.go:52",#[],none⟩ ?_
   refine tkQ 1 ⟨some 18,.move (.tmp 5),3,"law.go:52",#[],none⟩ ?_
   refine tkQ 2 ⟨some 19,.indexAddr 34 (.tmp 17) (.tmp 18),0,"law.go:52",#[⟨0,.data⟩,⟨1,.data⟩],none⟩ ?_
   refine tkQ 3 ⟨some 20,.load 45 (.tmp 19),45,"law.go:52",#[⟨2,.data⟩],none⟩ ?_
   refine tkQ 4 ⟨some 21,.move (.tmp 1),34,"law.go:52",#[],none⟩ ?_
   refine tkQ 5 ⟨some 22,.move (.tmp 5),3,"law.go:52",#[],none⟩ ?_
   refine tkQ 6 ⟨some 23,.indexAddr 34 (.tmp 21) (.tmp 22),0,"law.go:52",#[⟨4,.data⟩,⟨5,.data⟩],none⟩ ?_
   refine tkQ 7 ⟨some 24,.load 45 (.tmp 23),45,"law.go:52",#[⟨6,.data⟩],none⟩ ?_
   refine tkQ 8 ⟨some 25,.binOp BinOp.neq 45 (.tmp 20) (.tmp 24) 45,4,"law.go:52",#[⟨3,.data⟩,⟨7,.data⟩],none⟩ ?_
   refine wpAnyH_done (by kernel_rfl) ?_ _;clear hHeld hne p0 p1 p2 p3 p4 q0 q1 q2 q3 q4;go_wp2_with fail
   go_roundg (n - (i+1))
   case rel=>exact ⟨i+1,by simp,rfl,by omega,HB2⟩
   case measure=>omega
  ·have hli:¬ ((i:Int)<(n:Int)):=by omega
   go_wp2;go_ret;exact ⟨rfl,HB.out⟩
open Go.RowKit Wf
def NaP (m:Nat) (w:World) (e:Ending) (w':World):Prop:=(∃ b,e=.returned (.bool b)/\(b=false->m<=20000))/\Below w.heap.size w w'
theorem zHM (nm:List ByteArray) (av:Option Addr) (m cap:Nat) (w:World) (hm:m=nm.length) (hl:nm.length<=9223372036854775807) (hR:RdS w av nm):Calls prog 10 #[.slice av m cap] w (NaP m w):=by
 have HM:Hid (m=nm.length/\nm.length<=9223372036854775807):=⟨hm,hl⟩
 have HR:Hid (RdS w av nm):=hR;clear hm hl hR;go_enter func10,ntmps10;go_wp2_with fail
 go_loopg [3,4] m (λgk u x wr=>∃ (i:Nat) (T:Int),u=.int .i64 T/\x=.int .i64 (i:Int)/\gk=m - i/\i<=m/\Hid (20000<m->T=(m:Int))/\w=wr)
 case atStart=>exact ⟨0,(m:Int),rfl,rfl,rfl,Nat.zero_le _,(λ_=>rfl:20000<m->(m:Int)=(m:Int)),rfl⟩
 case round =>
  obtain ⟨i,T,rfl,rfl,hg,hi,HQ,rfl⟩:=hrel;by_cases hlt:i<m
  ·have hli:(i:Int)<(m:Int):=by omega
   by_cases hT:T<=20000
   ·have hiz:(0:Int)<=(i:Int):=by omega
    have hwi:IntKind.i64.wrap ((i:Int)+1)=(i:Int)+1:=by have:=HM.out;rw [IntKind.wrap_i64];omega
    have hln:i<nm.length:=by have:=HM.out;omega
    obtain ⟨bb,off,rfl,hc⟩:=HR.out i hln;obtain ⟨x,hx⟩:∃ x,nm[i]=x:=⟨_,rfl⟩
    rw [hx] at hc;have HQ2:Hid (¬ 20000<m):=λh=>by have:=HQ.out h;omega
    clear hx hln HQ;go_wp2;go_roundg (m - (i+1))
    case rel=>exact ⟨i+1,_,rfl,by simp,rfl,hlt,(λh=>absurd h HQ2.out:20000<m->_),rfl⟩
    case measure=>omega
   ·have hT2:20000<T:=by omega
    clear HQ;go_wp2;go_ret;exact ⟨⟨true,rfl,λh=>by cases h⟩,Below.refl _ _⟩
  ·have hli:¬ (i:Int)<(m:Int):=by omega
   have HT:Hid (¬ 20000<T->m<=20000):=λh=>by
    rcases Nat.lt_or_ge 20000 m with q | q
    ·have:=HQ.out q;omega
    ·exact q
   clear HQ;by_cases hT:20000<T
   ·go_wp2;go_ret;exact ⟨⟨true,rfl,λh=>by cases h⟩,Below.refl _ _⟩
   ·go_wp2;go_ret;exact ⟨⟨false,rfl,λ_=>HT.out (by omega)⟩,Below.refl _ _⟩
