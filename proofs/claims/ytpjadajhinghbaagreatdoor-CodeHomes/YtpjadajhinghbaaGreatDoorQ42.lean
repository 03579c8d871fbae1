/- KHomP, KWalkL, KWalkM, KFl3. -/
import Derived.Test.YtpjadajhinghbaaGreatDoorQ41
set_option maxHeartbeats 4000000
set_option maxRecDepth 100000
set_option linter.unusedVariables false
namespace Go.Proofs.YtpjadajhinghbaaGreatDoor.Wf
open Go.Proofs.YtpjadajhinghbaaGreatDoor
section
variable (o1 o2:Int)
end
theorem HmL.get {o1 o2:Int}:∀ {l m:List I},HmL o1 o2 l m->∀ i (h1:i<l.length) (h2:i<m.length),HmI o1 o2 (l[i]) (m[i])
 | [],[],_,i,h1,_=>absurd h1 (Nat.not_lt_zero _)
 | x::l,y::m,h,0,_,_=>h.1
 | x::l,y::m,h,i+1,h1,h2=>HmL.get h.2 i (by simpa using h1) (by simpa using h2)
 | [],y::m,h,_,_,_=>h.elim
 | x::l,[],h,_,_,_=>h.elim
section
variable {α:Type} {o1 o2:Int} {nm:List ByteArray} {f g:α->Nat->List I}
end
end Go.Proofs.YtpjadajhinghbaaGreatDoor.Wf
namespace Go.Proofs.YtpjadajhinghbaaGreatDoor
open Tryz
open Go.RowKit
variable {ops:Array Oper} {rest:List Oper} {o:Oper} {a:Act} {Q:Exit->Act->World->Prop} {w w1 w2:World}
theorem zq10 (l:List Int) (v1 v2:Value) (w:World) (h1:RdZ w v1 l) (h2:RdZ w v2 l) (hl:l.length<=1000000) :
  CR 38 #[v1,v2] w (.bool true):=by
 obtain ⟨a1,c1,rfl,r1⟩:=h1;obtain ⟨a2,c2,rfl,r2⟩:=h2;have H1:Hid (∀ i (h:i<l.length),∃ bb off,a1=some ⟨bb,off,none⟩/\w.cell? ⟨bb,off+i,none⟩=some (.int .i64 (l[i]))):=r1;have H2:Hid (∀ i (h:i<l.length),∃ bb off,a2=some ⟨bb,off,none⟩/\w.cell? ⟨bb,off+i,none⟩=some (.int .i64 (l[i]))):=r2;obtain ⟨n,hn⟩:∃ n,l.length=n:=⟨_,rfl⟩
 rw [hn] at hl ⊢;clear r1 r2;go_enter func38,ntmps38;go_wp2_with fail
 go_loopg [5] n (λgk x wr=>∃ i:Nat,x=.int .i64 i/\gk=n - i/\i<=n/\Below w.heap.size w wr)
 case atStart=>exact ⟨0,rfl,rfl,Nat.zero_le _,Below.refl _ _⟩
 case round =>
  obtain ⟨i,rfl,hg,hi,hb⟩:=hrel;by_cases hlt:i<n
  ·have hli:(i:Int)<(n:Int):=by omega
   have hwi:IntKind.i64.wrap ((i:Int)+1)=(i:Int)+1:=by rw [IntKind.wrap_i64];omega
   obtain ⟨b1,o1,rfl,q1⟩:=H1.out i (by omega);obtain ⟨b2,o2,rfl,q2⟩:=H2.out i (by omega);have d1:=zAC hb q1;have d2:=zAC hb q2;generalize l[i]=x at d1 d2;clear q1 q2;go_upto_region 6 with fail
   go_quiet (fail)
   go_wp2_with fail
   go_roundg (n - (i+1))
   case rel=>exact ⟨i+1,by simp,rfl,hlt,(clB hb)⟩
   case measure=>omega
  ·have hli:¬ (i:Int)<(n:Int):=by omega
   go_wp2;go_ret;exact ⟨rfl,hb⟩
theorem zq15 (x:Wc.In) (tl:List Int) (a1 a2:Option Addr) (n1 n2 c1 c2:Nat) (w:World) (h1:RdZ w (.slice a1 n1 c1) tl) (h2:RdZ w (.slice a2 n2 c2) tl) (hl:tl.length<=1000000) :
  CR 22 #[inV x (.slice a1 n1 c1),inV x (.slice a2 n2 c2)] w (.bool true):=by
 have pA:=(AtL.new0 w 48 (zAD x (.slice a1 n1 c1))).alloc (.cells (zAD x (.slice a2 n2 c2)).toArray 48);have pB:=AtL.new1 w (.cells (zAD x (.slice a1 n1 c1)).toArray 48) 48 (zAD x (.slice a2 n2 c2));have hB:=zAK (zAK (Below.refl _ w) (.cells (zAD x (.slice a1 n1 c1)).toArray 48)) (.cells (zAD x (.slice a2 n2 c2)).toArray 48);have IZ:=λw h1 h2=>zq10 tl (.slice a1 n1 c1) (.slice a2 n2 c2) w h1 h2 hl
 have g1:=h1.below hB;have g2:=h2.below hB;have e0:((w.alloc (.cells (zAD x (.slice a1 n1 c1)).toArray 48)).alloc (.cells (zAD x (.slice a2 n2 c2)).toArray 48)).cell? ⟨w.heap.size,0,none⟩=some (.int .i64 x.op):=pA.2.1 0 _ rfl;have d0:((w.alloc (.cells (zAD x (.slice a1 n1 c1)).toArray 48)).alloc (.cells (zAD x (.slice a2 n2 c2)).toArray 48)).cell? ⟨w.heap.size+1,0,none⟩=some (.int .i64 x.op):=pB.2.1 0 _ rfl;have e1:((w.alloc (.cells (zAD x (.slice a1 n1 c1)).toArray 48)).alloc (.cells (zAD x (.slice a2 n2 c2)).toArray 48)).cell? ⟨w.heap.size,1,none⟩=some (.int .i64 x.a):=pA.2.1 1 _ rfl;have d1:((w.alloc (.cells (zAD x (.slice a1 n1 c1)).toArray 48)).alloc (.cells (zAD x (.slice a2 n2 c2)).toArray 48)).cell? ⟨w.heap.size+1,1,none⟩=some (.int .i64 x.a):=pB.2.1 1 _ rfl;have e2:((w.alloc (.cells (zAD x (.slice a1 n1 c1)).toArray 48)).alloc (.cells (zAD x (.slice a2 n2 c2)).toArray 48)).cell? ⟨w.heap.size,2,none⟩=some (.int .i64 x.b):=pA.2.1 2 _ rfl;have d2:((w.alloc (.cells (zAD x (.slice a1 n1 c1)).toArray 48)).alloc (.cells (zAD x (.slice a2 n2 c2)).toArray 48)).cell? ⟨w.heap.size+1,2,none⟩=some (.int .i64 x.b):=pB.2.1 2 _ rfl;have e3:((w.alloc (.cells (zAD x (.slice a1 n1 c1)).toArray 48)).alloc (.cells (zAD x (.slice a2 n2 c2)).toArray 48)).cell? ⟨w.heap.size,3,none⟩=some (.int .i64 x.v.k):=pA.2.1 3 _ rfl;have d3:((w.alloc (.cells (zAD x (.slice a1 n1 c1)).toArray 48)).alloc (.cells (zAD x (.slice a2 n2 c2)).toArray 48)).cell? ⟨w.heap.size+1,3,none⟩=some (.int .i64 x.v.k):=pB.2.1 3 _ rfl
 have e4:((w.alloc (.cells (zAD x (.slice a1 n1 c1)).toArray 48)).alloc (.cells (zAD x (.slice a2 n2 c2)).toArray 48)).cell? ⟨w.heap.size,4,none⟩=some (.int .i64 x.v.n):=pA.2.1 4 _ rfl;have d4:((w.alloc (.cells (zAD x (.slice a1 n1 c1)).toArray 48)).alloc (.cells (zAD x (.slice a2 n2 c2)).toArray 48)).cell? ⟨w.heap.size+1,4,none⟩=some (.int .i64 x.v.n):=pB.2.1 4 _ rfl;have e5:((w.alloc (.cells (zAD x (.slice a1 n1 c1)).toArray 48)).alloc (.cells (zAD x (.slice a2 n2 c2)).toArray 48)).cell? ⟨w.heap.size,5,none⟩=some (.int .i64 x.v.d):=pA.2.1 5 _ rfl;have d5:((w.alloc (.cells (zAD x (.slice a1 n1 c1)).toArray 48)).alloc (.cells (zAD x (.slice a2 n2 c2)).toArray 48)).cell? ⟨w.heap.size+1,5,none⟩=some (.int .i64 x.v.d):=pB.2.1 5 _ rfl;have e6:((w.alloc (.cells (zAD x (.slice a1 n1 c1)).toArray 48)).alloc (.cells (zAD x (.slice a2 n2 c2)).toArray 48)).cell? ⟨w.heap.size,6,none⟩=some (.string x.v.t):=pA.2.1 6 _ rfl;have d6:((w.alloc (.cells (zAD x (.slice a1 n1 c1)).toArray 48)).alloc (.cells (zAD x (.slice a2 n2 c2)).toArray 48)).cell? ⟨w.heap.size+1,6,none⟩=some (.string x.v.t):=pB.2.1 6 _ rfl;have e7:((w.alloc (.cells (zAD x (.slice a1 n1 c1)).toArray 48)).alloc (.cells (zAD x (.slice a2 n2 c2)).toArray 48)).cell? ⟨w.heap.size,7,none⟩=some (.bool x.v.b):=pA.2.1 7 _ rfl;have d7:((w.alloc (.cells (zAD x (.slice a1 n1 c1)).toArray 48)).alloc (.cells (zAD x (.slice a2 n2 c2)).toArray 48)).cell? ⟨w.heap.size+1,7,none⟩=some (.bool x.v.b):=pB.2.1 7 _ rfl
 have e8:((w.alloc (.cells (zAD x (.slice a1 n1 c1)).toArray 48)).alloc (.cells (zAD x (.slice a2 n2 c2)).toArray 48)).cell? ⟨w.heap.size,8,none⟩=some (.int .i64 x.v.f):=pA.2.1 8 _ rfl;have d8:((w.alloc (.cells (zAD x (.slice a1 n1 c1)).toArray 48)).alloc (.cells (zAD x (.slice a2 n2 c2)).toArray 48)).cell? ⟨w.heap.size+1,8,none⟩=some (.int .i64 x.v.f):=pB.2.1 8 _ rfl;have e9:((w.alloc (.cells (zAD x (.slice a1 n1 c1)).toArray 48)).alloc (.cells (zAD x (.slice a2 n2 c2)).toArray 48)).cell? ⟨w.heap.size,9,none⟩=some (.int .i64 x.ce.s):=pA.2.1 9 _ rfl;have d9:((w.alloc (.cells (zAD x (.slice a1 n1 c1)).toArray 48)).alloc (.cells (zAD x (.slice a2 n2 c2)).toArray 48)).cell? ⟨w.heap.size+1,9,none⟩=some (.int .i64 x.ce.s):=pB.2.1 9 _ rfl;have e10:((w.alloc (.cells (zAD x (.slice a1 n1 c1)).toArray 48)).alloc (.cells (zAD x (.slice a2 n2 c2)).toArray 48)).cell? ⟨w.heap.size,10,none⟩=some (.int .i64 x.ce.r):=pA.2.1 10 _ rfl;have d10:((w.alloc (.cells (zAD x (.slice a1 n1 c1)).toArray 48)).alloc (.cells (zAD x (.slice a2 n2 c2)).toArray 48)).cell? ⟨w.heap.size+1,10,none⟩=some (.int .i64 x.ce.r):=pB.2.1 10 _ rfl;have e11:((w.alloc (.cells (zAD x (.slice a1 n1 c1)).toArray 48)).alloc (.cells (zAD x (.slice a2 n2 c2)).toArray 48)).cell? ⟨w.heap.size,11,none⟩=some (.int .i64 x.ce.c):=pA.2.1 11 _ rfl;have d11:((w.alloc (.cells (zAD x (.slice a1 n1 c1)).toArray 48)).alloc (.cells (zAD x (.slice a2 n2 c2)).toArray 48)).cell? ⟨w.heap.size+1,11,none⟩=some (.int .i64 x.ce.c):=pB.2.1 11 _ rfl
 have e12:((w.alloc (.cells (zAD x (.slice a1 n1 c1)).toArray 48)).alloc (.cells (zAD x (.slice a2 n2 c2)).toArray 48)).cell? ⟨w.heap.size,12,none⟩=some (.int .i64 x.ar.s):=pA.2.1 12 _ rfl;have d12:((w.alloc (.cells (zAD x (.slice a1 n1 c1)).toArray 48)).alloc (.cells (zAD x (.slice a2 n2 c2)).toArray 48)).cell? ⟨w.heap.size+1,12,none⟩=some (.int .i64 x.ar.s):=pB.2.1 12 _ rfl;have e13:((w.alloc (.cells (zAD x (.slice a1 n1 c1)).toArray 48)).alloc (.cells (zAD x (.slice a2 n2 c2)).toArray 48)).cell? ⟨w.heap.size,13,none⟩=some (.int .i64 x.ar.t):=pA.2.1 13 _ rfl;have d13:((w.alloc (.cells (zAD x (.slice a1 n1 c1)).toArray 48)).alloc (.cells (zAD x (.slice a2 n2 c2)).toArray 48)).cell? ⟨w.heap.size+1,13,none⟩=some (.int .i64 x.ar.t):=pB.2.1 13 _ rfl;have e14:((w.alloc (.cells (zAD x (.slice a1 n1 c1)).toArray 48)).alloc (.cells (zAD x (.slice a2 n2 c2)).toArray 48)).cell? ⟨w.heap.size,14,none⟩=some (.int .i64 x.ar.l):=pA.2.1 14 _ rfl;have d14:((w.alloc (.cells (zAD x (.slice a1 n1 c1)).toArray 48)).alloc (.cells (zAD x (.slice a2 n2 c2)).toArray 48)).cell? ⟨w.heap.size+1,14,none⟩=some (.int .i64 x.ar.l):=pB.2.1 14 _ rfl;have e15:((w.alloc (.cells (zAD x (.slice a1 n1 c1)).toArray 48)).alloc (.cells (zAD x (.slice a2 n2 c2)).toArray 48)).cell? ⟨w.heap.size,15,none⟩=some (.int .i64 x.ar.b):=pA.2.1 15 _ rfl;have d15:((w.alloc (.cells (zAD x (.slice a1 n1 c1)).toArray 48)).alloc (.cells (zAD x (.slice a2 n2 c2)).toArray 48)).cell? ⟨w.heap.size+1,15,none⟩=some (.int .i64 x.ar.b):=pB.2.1 15 _ rfl
 have e16:((w.alloc (.cells (zAD x (.slice a1 n1 c1)).toArray 48)).alloc (.cells (zAD x (.slice a2 n2 c2)).toArray 48)).cell? ⟨w.heap.size,16,none⟩=some (.int .i64 x.ar.r):=pA.2.1 16 _ rfl;have d16:((w.alloc (.cells (zAD x (.slice a1 n1 c1)).toArray 48)).alloc (.cells (zAD x (.slice a2 n2 c2)).toArray 48)).cell? ⟨w.heap.size+1,16,none⟩=some (.int .i64 x.ar.r):=pB.2.1 16 _ rfl;have e17:((w.alloc (.cells (zAD x (.slice a1 n1 c1)).toArray 48)).alloc (.cells (zAD x (.slice a2 n2 c2)).toArray 48)).cell? ⟨w.heap.size,17,none⟩=some (.int .i64 x.pr.s):=pA.2.1 17 _ rfl;have d17:((w.alloc (.cells (zAD x (.slice a1 n1 c1)).toArray 48)).alloc (.cells (zAD x (.slice a2 n2 c2)).toArray 48)).cell? ⟨w.heap.size+1,17,none⟩=some (.int .i64 x.pr.s):=pB.2.1 17 _ rfl;have e18:((w.alloc (.cells (zAD x (.slice a1 n1 c1)).toArray 48)).alloc (.cells (zAD x (.slice a2 n2 c2)).toArray 48)).cell? ⟨w.heap.size,18,none⟩=some (.int .i64 x.pr.t):=pA.2.1 18 _ rfl;have d18:((w.alloc (.cells (zAD x (.slice a1 n1 c1)).toArray 48)).alloc (.cells (zAD x (.slice a2 n2 c2)).toArray 48)).cell? ⟨w.heap.size+1,18,none⟩=some (.int .i64 x.pr.t):=pB.2.1 18 _ rfl;have e19:((w.alloc (.cells (zAD x (.slice a1 n1 c1)).toArray 48)).alloc (.cells (zAD x (.slice a2 n2 c2)).toArray 48)).cell? ⟨w.heap.size,19,none⟩=some (.int .i64 x.pr.l):=pA.2.1 19 _ rfl;have d19:((w.alloc (.cells (zAD x (.slice a1 n1 c1)).toArray 48)).alloc (.cells (zAD x (.slice a2 n2 c2)).toArray 48)).cell? ⟨w.heap.size+1,19,none⟩=some (.int .i64 x.pr.l):=pB.2.1 19 _ rfl
 have e20:((w.alloc (.cells (zAD x (.slice a1 n1 c1)).toArray 48)).alloc (.cells (zAD x (.slice a2 n2 c2)).toArray 48)).cell? ⟨w.heap.size,20,none⟩=some (.int .i64 x.pr.b):=pA.2.1 20 _ rfl;have d20:((w.alloc (.cells (zAD x (.slice a1 n1 c1)).toArray 48)).alloc (.cells (zAD x (.slice a2 n2 c2)).toArray 48)).cell? ⟨w.heap.size+1,20,none⟩=some (.int .i64 x.pr.b):=pB.2.1 20 _ rfl;have e21:((w.alloc (.cells (zAD x (.slice a1 n1 c1)).toArray 48)).alloc (.cells (zAD x (.slice a2 n2 c2)).toArray 48)).cell? ⟨w.heap.size,21,none⟩=some (.int .i64 x.pr.r):=pA.2.1 21 _ rfl;have d21:((w.alloc (.cells (zAD x (.slice a1 n1 c1)).toArray 48)).alloc (.cells (zAD x (.slice a2 n2 c2)).toArray 48)).cell? ⟨w.heap.size+1,21,none⟩=some (.int .i64 x.pr.r):=pB.2.1 21 _ rfl;have e22:((w.alloc (.cells (zAD x (.slice a1 n1 c1)).toArray 48)).alloc (.cells (zAD x (.slice a2 n2 c2)).toArray 48)).cell? ⟨w.heap.size,22,none⟩=some (.slice a1 n1 c1):=pA.2.1 22 _ rfl;have d22:((w.alloc (.cells (zAD x (.slice a1 n1 c1)).toArray 48)).alloc (.cells (zAD x (.slice a2 n2 c2)).toArray 48)).cell? ⟨w.heap.size+1,22,none⟩=some (.slice a2 n2 c2):=pB.2.1 22 _ rfl;have Z:=IZ _ g1 g2;clear pA pB h1 h2 hl IZ g1 g2;go_enter func22,ntmps22;go_upto_region 1 with fail
 generalize ((w.alloc (.cells (zAD x (.slice a1 n1 c1)).toArray 48)).alloc (.cells (zAD x (.slice a2 n2 c2)).toArray 48))=W at *;go_wp2_with fail
 refine Z.mono ?_;rintro e w1 ⟨rfl,hb1⟩;have hB1:=zAB hB hb1;go_wp2;go_ret;exact ⟨by simp,hB1⟩
open Go.RowKit Wf
theorem zq3 {rest:List Oper} {Q:Exit->Act->World->Prop} (hw:Region.wanted o (yielded ops a.tmps)=true) (s x:Operand) (ho:o.op=.call {callee:=.builtin .append,args:=#[s,x],argTypes:=#[22,22]})
  (B:Nat) (w:World) (hB:B<=w.heap.size) (v:Value) (hs:a.eval s=v) (hown:w.ownsRow B 56 20 v 0 []) (av:Option Addr) (L:List Wt.Nd) (m cap:Nat) (hm:m=L.length) (hx:a.eval x=.slice av m cap) (hr:RdN w av L) (hno:av=none->m=0/\cap=0) (hl:True->L.length<=799644820177)
  (h:∀ v' w',OwnN w' B v' L->w.grownBy w' v.ownBlock->wpList prog ops Q rest (a.put o.dst v') w'):wpList prog ops Q (o::rest) a w :=
 BigFrame.wpList_want hw λ_ hK=>zJB s x ho B w hB v hs hown av L m cap hm hx hr hno hl λv' w' h1 h2=>hK _ _ (h v' w' h1 h2)
theorem zq2 {rest:List Oper} {Q:Exit->Act->World->Prop} (hw:Region.wanted o (yielded ops a.tmps)=true) (s x:Operand) (ho:o.op=.call {callee:=.builtin .append,args:=#[s,x],argTypes:=#[25,25]})
  (B:Nat) (w:World) (hB:B<=w.heap.size) (v:Value) (hs:a.eval s=v) (hown:w.ownsRow B 9 1 v 0 []) (av:Option Addr) (L:List ByteArray) (m cap:Nat) (hm:m=L.length) (hx:a.eval x=.slice av m cap) (hr:RdS w av L) (hno:av=none->m=0/\cap=0) (hl:True->L.length<=20000)
  (h:∀ v' w',zRs w' B v' L->w.grownBy w' v.ownBlock->wpList prog ops Q rest (a.put o.dst v') w'):wpList prog ops Q (o::rest) a w :=
 BigFrame.wpList_want hw λ_ hK=>zI5 s x ho B w hB v hs hown av L m cap hm hx hr hno hl λv' w' h1 h2=>hK _ _ (h v' w' h1 h2)
theorem zq0 {P:Program} (v:Value) (h0:(Region.wanted o (yielded ops a.tmps)=true/\(execOp a.eval o).run P w=.ok (.value v) w) \/ (Region.wanted o (yielded ops a.tmps)=false/\v=undef)) (h:wpList P ops Q rest (a.put o.dst v) w):wpList P ops Q (o::rest) a w:=by
 rcases h0 with ⟨hw,hr⟩ | ⟨hw,rfl⟩
 ·refine BigFrame.wpList_want hw λK hK=>?_
  unfold Oper.wp;rw [hr];exact hK _ _ h
 ·exact wpList_skip hw h
def cdE (E:Int) (C:List I):List I:=if E=0 then C else []
theorem zq5 {E:Int} {C:List I} {e:Ending} {w':World} (h:FlQ E C w e w'):∃ a c,e=.returned (.tuple #[.slice a (cdE E C).length c,.int .i64 E])/\RdC w' (.slice a (cdE E C).length c) (cdE E C)/\Below w.heap.size w w':=by
 obtain ⟨⟨a,m,c,rfl,h1,h2⟩,hb⟩:=h;by_cases hE:E=0
 ·obtain ⟨P,p1,p2,p3,_⟩:=h2 hE;have rc:=zDZ p1 p2 p3;have hm:m=C.length:=by
   obtain ⟨a1,k1,e1,_⟩:=rc;cases e1
   rfl
  subst hm;have ec:cdE E C=C:=by unfold cdE;rw [if_pos hE]
  rw [ec];exact ⟨a,c,rfl,rc,hb⟩
 ·have hm:=h1 hE;subst hm;have ec:cdE E C=[]:=by unfold cdE;rw [if_neg hE]
  rw [ec];exact ⟨a,c,rfl,⟨a,c,rfl,λi hi=>absurd hi (Nat.not_lt_zero _)⟩,hb⟩
theorem zq1 (hb:Below w.heap.size w w1) {T:TypeId} (hg:(w1.alloc (.cells #[] T)).grownBy w2 (some w1.heap.size)):Below w.heap.size w w2 :=
 zAp (zAK hb (.cells #[] T)) (Fr.of_grown (S:=[w1.heap.size]) hg (λk e=>by cases e;simp)) (λk hk=>by
  simp at hk;subst hk;exact hb.size)
theorem zq6 {B k n:Nat} {T U:TypeId} {v:Value} {xs:List Value} (h:w1.ownsRow B U k v n xs) (hg:(w1.alloc (.cells #[] T)).grownBy w2 (some w1.heap.size)):w2.ownsRow B U k v n xs:=by
 have h1:=zAX (Fr.of_below [] (zAK (Below.refl _ w1) (.cells #[] T))) h (by simp);refine zAX (Fr.of_grown (S:=[w1.heap.size]) hg (λk e=>by cases e;simp)) h1 (λg e hm=>?_);simp at hm;subst hm;exact absurd (zAL h e).2 (Nat.lt_irrefl _)
