/- PWalkI, KAb7, KChk. -/
import Derived.Test.YtcddpgfdadpbgaaGreatDoorQ28
set_option maxHeartbeats 1600000
set_option maxRecDepth 100000
set_option linter.unusedVariables false
namespace Go.Proofs.YtcddpgfdadpbgaaGreatDoor
open Tryz
open Go.RowKit
variable {w:World} {mb:Nat} {ops:Array Oper} {rest:List Oper} {a:Act} {Q:Exit->Act->World->Prop}
theorem zDh (s r c:Int):Wpl.hullOk (λ_=>⟨s,r,c⟩) 1=Wpl.rightC s r c:=by
 simp [Wpl.hullOk,Wpl.anyN,Wpl.lacks]
def zIN (s r c:Int):Wpl.Ar:=if Wpl.rightC s r c then ⟨s,r,c,r,c⟩ else Wpl.nullA
theorem zKI (s r c:Int):Wpl.hullV (λ_=>⟨s,r,c⟩) 1=zIN s r c:=by
 unfold Wpl.hullV zIN;rw [zDh];rfl
theorem zGK {W:World} {k:Nat} {s r c:Int} (h:AtL W k [.int .i64 s,.int .i64 r,.int .i64 c]):Cells W k 0 1 (λ_=>⟨s,r,c⟩):=λj hj=>by
 obtain rfl:j=0:=by omega
 exact ⟨h.2.1 0 _ rfl,h.2.1 1 _ rfl,h.2.1 2 _ rfl⟩
theorem zEZ (s r c:Int) (w:World) :
  CR 44 #[.agg #[.int .i64 s,.int .i64 r,.int .i64 c]] w (.tuple #[.agg #[.int .i64 (zIN s r c).s,.int .i64 (zIN s r c).t,.int .i64 (zIN s r c).l,.int .i64 (zIN s r c).b,.int .i64 (zIN s r c).r],.bool (Wpl.rightC s r c)]):=by
 have HL:=λ(k:Nat) (w:World) (hk:AtL w k [.int .i64 s,.int .i64 r,.int .i64 c])=>zDi k 0 1 1 (λ_=>⟨s,r,c⟩) w (by omega) (by omega) (by omega) (by omega) hk.lt (zGK hk)
 simp only [zDh,zKI] at HL;generalize zIN s r c=V at *;generalize Wpl.rightC s r c=ok at *;obtain ⟨v0,v1,v2,v3,v4⟩:=V;go_enter func44,ntmps44;go_wp2_with fail
 refine (HL _ _ (by with_reducible first | exact AtL.new0 _ _ _ | exact AtL.new1 _ _ _ _ | exact AtL.new ((w.alloc _).alloc _) _ (by simp only [World.size_alloc]) _)).mono ?_;rintro e w1 ⟨rfl,hb1⟩;have pR:AtL w1 (w.heap.size+1) [.int .i64 0,.int .i64 0,.int .i64 0,.int .i64 0,.int .i64 0]:=AtL.below hb1 ((AtL.new1 w _ _ _).alloc _);have hB:Below w.heap.size w w1:=clA
 clear hb1;obtain ⟨r0,r1,r2,r3,r4,f0,f1,f2,f3,f4⟩:=pR.five;go_wp2;refine bodyPost_ret (v:=.tuple #[.agg #[.int .i64 v0,.int .i64 v1,.int .i64 v2,.int .i64 v3,.int .i64 v4],.bool ok]) (by simp [results,results44,go_sem,r0,r1,r2,r3,r4]) rfl ⟨rfl,?_⟩;exact zBE hB (by omega) _ _ _ _ _
open Go.ChangeMaps (setBlock heap_setBlock_same heap_setBlock_other)
open Go.ChangeShapes Go.WideShapes Go.MapKept
abbrev z5:List Value:=[.int .i64 0,.int .i64 0,.int .i64 0,.int .i64 0,.int .i64 0]
theorem zLp:prog.underlying 59=some (.map 49 61):=by kernel_rfl
theorem zER (h:w.heap[mb]? = some (.map #[] 0)):(Instr.lookup 59 (.map (some mb)) (.agg z5.toArray) true).run prog w=.ok (.tuple #[.agg #[],.bool false]) w :=
 zBl zLp h (by kernel_rfl) (by kernel_rfl) (by kernel_rfl)
theorem zMH (h:w.heap[mb]? = some (.map #[] 0)):∃ w',(Instr.mapUpdate 59 (.map (some mb)) (.agg z5.toArray) (.agg #[])).run prog w=.ok () w'/\w.grownBy w' (some mb) :=
 ⟨_,zD5 zLp h _ (by kernel_rfl) (by kernel_rfl),zBh h _⟩
theorem zD3 {op:Oper} (hgd:op.guard=none) (m x v:Operand) (ho:op.op=.mapUpdate 59 m x v) (b:Nat) (hm:a.eval m=.map (some b)) (hx:a.eval x=.agg z5.toArray) (hv:a.eval v=.agg #[])
  (hb:w.heap[b]? = some (.map #[] 0)) (h:∀ w',w.grownBy w' (some b)->wpList prog ops Q rest (a.put op.dst (.tuple #[])) w'):wpList prog ops Q (op::rest) a w:=by
 obtain ⟨w',e,hg⟩:=zMH hb;refine wpList_plain hgd λK hK=>?_
 unfold Oper.wp execOp;simp only [ho,hm,hx,hv,Sem.run_bind,Sem.run_pure,Result.andThen_ok,e];exact hK _ _ (h w' hg)
theorem zID:(prog.info? 49).map (λi=>(i.zero,i.size,i.bytes))=some (some (.agg z5.toArray),5,40):=by kernel_rfl
theorem zD4 {ops:Array Oper} {rest:List Oper} {o:Oper} {a:Act} {Q:Exit->Act->World->Prop} (hgd:o.guard=none) (s x:Operand) (ho:o.op=.call {callee:=.builtin .append,args:=#[s,x],argTypes:=#[30,30]})
  (w:World) (hs:a.eval s=.slice none 0 0) (g:Nat) (hx:a.eval x=.slice (some ⟨g,0,none⟩) 1 1) (hat:AtL w g z5)
  (h:∀ av cap w',Below w.heap.size w w'->wpList prog ops Q rest (a.put o.dst (.slice av 1 cap)) w'):wpList prog ops Q (o::rest) a w:=by
 obtain ⟨i0,hi0,hz0,hz1,hz2⟩:=info_parts zID;refine wpList_plain hgd λK hK=>?_
 refine wp_append_own _ s x 30 ho w.heap.size 49 i0 _ 5 40 underlying30 hi0 hz0 hz1 hz2 rfl (by decide) (.slice none 0 0) 0 [] hs ⟨rfl,Or.inl ⟨rfl,rfl⟩⟩ ⟨g,0,none⟩ 1 1 z5 hx rfl (λj u hj=>?_) (λv hv=>?_) (by unfold maxLen;omega) (by omega) (Nat.le_refl _) ?_
 ·have:=hat.2.1 j u hj;rw [show (⟨g,0,none⟩:Addr).add j=⟨g,j,none⟩ from by
   simp [Addr.add];try (intro h0;omega)]
  exact this
 ·simp at hv;subst hv;rfl
 ·intro v' w' own hg _;have hb:Below w.heap.size w w':=⟨hg.os,hg.tape,hg.output,hg.size,λk hk=>hg.block k hk (by simp [Value.ownBlock])⟩
  rcases own.2 with ⟨_,h0⟩ | ⟨g',cap,cur,e,_⟩
  ·simp at h0
  ·rw [e];exact hK _ _ (h _ _ _ hb)
theorem zIl (tv:Value) (w:World):Calls prog 21 #[.agg (zAD (zAE 2) tv).toArray] w λe w'=>(∃ g,e=.returned (.slice (some ⟨g,0,none⟩) 1 1)/\AtL w' g z5/\w.heap.size<=g)/\Below w.heap.size w w':=by
 have ON:∀ w:World,CR 44 #[.agg #[.int .i64 0,.int .i64 0,.int .i64 0]] w (.tuple #[.agg #[.int .i64 0,.int .i64 0,.int .i64 0,.int .i64 0,.int .i64 0],.bool true]):=λw=>zEZ 0 0 0 w
 have hb:=zAJ (Below.refl _ w) (.cells (zAD (zAE 2) tv).toArray 52);have p:=AtL.new0 w 52 (zAD (zAE 2) tv);have c0:(w.alloc (.cells (zAD (zAE 2) tv).toArray 52)).cell? ⟨w.heap.size,0,none⟩=some (.int .i64 2):=p.2.1 0 _ rfl;have c9:(w.alloc (.cells (zAD (zAE 2) tv).toArray 52)).cell? ⟨w.heap.size,9,none⟩=some (.int .i64 0):=p.2.1 9 _ rfl;have c10:(w.alloc (.cells (zAD (zAE 2) tv).toArray 52)).cell? ⟨w.heap.size,10,none⟩=some (.int .i64 0):=p.2.1 10 _ rfl;have c11:(w.alloc (.cells (zAD (zAE 2) tv).toArray 52)).cell? ⟨w.heap.size,11,none⟩=some (.int .i64 0):=p.2.1 11 _ rfl;clear p;generalize zAE 2=x at *;go_enter func21,ntmps21;go_upto_region 1 with fail
 generalize (w.alloc (.cells (zAD x tv).toArray 52))=W at *;go_wp2_with fail
 refine (ON _).mono ?_;rintro e w1 ⟨rfl,hb1⟩;have hB1:=zAB hb hb1;have hb2:=zAJ (Below.refl _ w1) (.cells z5.toArray 49);have p2:=AtL.new0 w1 49 z5;have q0:=p2.2.1 0 _ rfl;have q1:=p2.2.1 1 _ rfl;have q2:=p2.2.1 2 _ rfl;have q3:=p2.2.1 3 _ rfl;have q4:=p2.2.1 4 _ rfl;have hB2:=zAB hB1 hb2;clear p2 hb2 ON hb hb1 c0 c9 c10 c11;go_upto_region 4 with fail
 generalize (w1.alloc (.cells z5.toArray 49))=W2 at *;have hb3:=zAJ (Below.refl _ W2) (.cells z5.toArray 49);have HP3:Hid (AtL (W2.alloc (.cells z5.toArray 49)) W2.heap.size z5):=AtL.new0 W2 _ _;have HB3:Hid (Below w.heap.size w (W2.alloc (.cells z5.toArray 49))):=zAB hB2 hb3;have HSZ:Hid (w.heap.size<=W2.heap.size):=hB2.size;clear hb3 hB2 hB1;go_wp2;go_ret;exact ⟨⟨_,rfl,HP3.out,HSZ.out⟩,HB3.out⟩
theorem zIj (tv:Value) (w:World):CR 21 #[.agg (zAD (zAE 16) tv).toArray] w (.slice none 0 0):=by
 have hb:=zAJ (Below.refl _ w) (.cells (zAD (zAE 16) tv).toArray 52);have p:=AtL.new0 w 52 (zAD (zAE 16) tv);have c0:(w.alloc (.cells (zAD (zAE 16) tv).toArray 52)).cell? ⟨w.heap.size,0,none⟩=some (.int .i64 16):=p.2.1 0 _ rfl;clear p;generalize zAE 16=x at *;go_enter func21,ntmps21;go_upto_region 1 with fail
 generalize (w.alloc (.cells (zAD x tv).toArray 52))=W at *;go_wp2;go_ret;exact ⟨rfl,hb⟩
theorem zB5 (L:List (Wc.In × List Int)) (v:Value) (w:World) (h:RdC w v L) (hl:L.length<=1000000) (ht:∀ x ∈ L,x.2.length<=1000000/\Wt.FitV x.1.v) (hN:NmAt w) :
  CR 8 #[v] w (.int .i64 (if Wc.chkP rgt L=true then 0 else 85)):=by
 have PL:=zE3 L v w h hl ht hN;have OF:=λw1 (hb:Below w.heap.size w w1) (h0:0<L.length) (hp:Wc.plcs rgt L.length 0 L=true)=>zLF L v w1 (h.below hb) hl h0 (λx hx=>(ht x hx).1) hp
 have hc:Wc.chkP rgt L=(Wc.plcs rgt L.length 0 L && (decide (0<L.length) && Wc.runP Wc.spI 0 L (Wc.sP L.length))):=rfl;obtain ⟨q1,h1⟩:∃ q,Wc.plcs rgt L.length 0 L=q:=⟨_,rfl⟩
 obtain ⟨q2,h2⟩:∃ q,decide (0<L.length)=q:=⟨_,rfl⟩
 obtain ⟨q3,h3⟩:∃ q,Wc.runP Wc.spI 0 L (Wc.sP L.length)=q:=⟨_,rfl⟩
 rw [h1,h2,h3] at hc;rw [h1,h2] at PL;rw [hc];rw [h1,h3] at OF;have H2:Hid (decide (0<L.length)=q2):=h2;clear hc h1 h2 h3 h ht hN hl;cases q1 with
 | false =>
  clear OF;go_enter func8,ntmps8;go_wp2_with fail
  refine PL.mono ?_;rintro e w1 ⟨rfl,hb1⟩;go_wp2;go_ret;exact ⟨by simp,hb1⟩
 | true =>
  cases q2 with
  | false =>
   clear OF;go_enter func8,ntmps8;go_wp2_with fail
   refine PL.mono ?_;rintro e w1 ⟨rfl,hb1⟩;go_wp2;go_ret;exact ⟨by simp,hb1⟩
  | true =>
   have OF1:=λw1 hb=>OF w1 hb (of_decide_eq_true H2.out) rfl
   have HOF:Hid (∀ w1:World,Below w.heap.size w w1->Calls prog 18 #[v] w1 λe w'=>(∃ p,e=.returned (.tuple #[p,.bool q3]))/\Below w1.heap.size w1 w'):=OF1;clear OF OF1;go_enter func8,ntmps8;go_wp2_with fail
   refine PL.mono ?_;rintro e w1 ⟨rfl,hb1⟩;have OF2:=HOF.out w1 hb1;go_wp2_with fail
   refine OF2.mono ?_;rintro e w2 ⟨⟨p,rfl⟩,hb2⟩;have hB:=zAB hb1 hb2;cases q3
   ·go_wp2;go_ret;exact ⟨by simp,hB⟩
   ·go_wp2;go_ret;exact ⟨by simp,hB⟩
