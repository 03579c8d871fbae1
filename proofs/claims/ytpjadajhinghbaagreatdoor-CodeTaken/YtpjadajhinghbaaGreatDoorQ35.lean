/- PWalkD, PPlainB, PWalkI, KUsP, KOfP. -/
import Derived.Test.YtpjadajhinghbaaGreatDoorQ34
set_option maxHeartbeats 1600000
set_option maxRecDepth 100000
set_option linter.unusedVariables false
namespace Go.Proofs.YtpjadajhinghbaaGreatDoor
open Tryz
open Go.RowKit
theorem zHd (s t l b r:Int) (w:World) (h0:0<=l) (h1:l<=r) (h2:r<256) :
  CR 101 #[.agg #[.int .i64 s,.int .i64 t,.int .i64 l,.int .i64 b,.int .i64 r]] w (.int .i64 (r - l+1)):=by
 go_enter func101,ntmps101;go_wp2;go_ret;exact ⟨rfl,clA⟩
theorem zFJ (s t l b r:Int) (w:World) :
  CR 68 #[.agg #[.int .i64 s,.int .i64 t,.int .i64 l,.int .i64 b,.int .i64 r]] w (.int .i64 (Wpl.sizeA s t l b r)):=by
 have R:=λw=>zAl s t l b r w
 cases h:Wpl.rightA s t l b r with
 | false =>
  have e1:Hid (Wpl.sizeA s t l b r=0):=by show _=_;unfold Wpl.sizeA;rw [h];rfl
  rw [h] at R;clear h;go_enter func68,ntmps68;go_wp2_with fail
  refine (R _).mono ?_;rintro e w1 ⟨rfl,hb1⟩;go_wp2;go_ret;exact ⟨by rw [e1.out];rfl,clA⟩
 | true =>
  have hh:=Wpl.rightA_iff.1 h;have e1:Hid (Wpl.sizeA s t l b r=(b - t+1) * (r - l+1)):=by show _=_;unfold Wpl.sizeA;rw [h];rfl
  have m0:0<=(b - t+1) * (r - l+1):=Int.mul_nonneg (by omega) (by omega);have m1:(b - t+1) * (r - l+1)<=65536 * 256:=Int.mul_le_mul (by omega) (by omega) (by omega) (by omega);have wa:IntKind.i64.wrap (b - t)=b - t:=IntWalk.i64_in _ (by omega);have wb:IntKind.i64.wrap (b - t+1)=b - t+1:=IntWalk.i64_in _ (by omega);have wc:IntKind.i64.wrap ((b - t+1) * (r - l+1))=(b - t+1) * (r - l+1):=IntWalk.i64_in _ (by omega);rw [h] at R;clear h;have Wd:=λw=>zHd s t l b r w (by omega) (by omega) (by omega)
  go_enter func68,ntmps68;go_wp2_with fail
  refine (R _).mono ?_;rintro e w1 ⟨rfl,hb1⟩;have pA:AtL w1 w.heap.size [.int .i64 s,.int .i64 t,.int .i64 l,.int .i64 b,.int .i64 r]:=AtL.below hb1 (AtL.new0 w 45 _);have hB:Below w.heap.size w w1:=clA
  clear hb1;obtain ⟨a0,a1,a2,a3,a4,_,_,_,_,_⟩:=pA.five;go_wp2_with fail
  go_region_held3 (λW=>W.cell? ⟨w.heap.size,0,none⟩=some (.int .i64 s)/\W.cell? ⟨w.heap.size,1,none⟩=some (.int .i64 t)/\W.cell? ⟨w.heap.size,2,none⟩=some (.int .i64 l)/\W.cell? ⟨w.heap.size,3,none⟩=some (.int .i64 b)/\W.cell? ⟨w.heap.size,4,none⟩=some (.int .i64 r))
   (with_reducible first | exact ⟨a0,a1,a2,a3,a4⟩ | assumption | exact zIE ⟨a0,a1,a2,a3,a4⟩ | exact zDG hb4 (by assumption))
   (first
   | (go_at_call 101;refine (Wd _).mono ?_;rintro e w4 ⟨rfl,hb4⟩))
  all_goals
   go_wp2;go_ret;refine ⟨by rw [e1.out,<-wc,<-wb,<-wa];first | rfl | (rw [wa,wb,wc];rfl),clA⟩
end Go.Proofs.YtpjadajhinghbaaGreatDoor
namespace Wpl
theorem zJQ {s t l b r:Int} (h:rightA s t l b r=true):sizeA s t l b r=(b - t+1) * (r - l+1):=by unfold sizeA;rw [h];rfl
theorem zHb {s t l b r:Int} (h:rightA s t l b r=false):sizeA s t l b r=0:=by unfold sizeA;rw [h];rfl
def zQO (s t l b r k:Int):Bool:=inB k (sizeA s t l b r)
def num (s t l r k:Int):Cl:=⟨s,t+k / (r - l+1),l+k % (r - l+1)⟩
theorem zCL {s t l b r k:Int} (h:zQO s t l b r k=true):rightA s t l b r=true:=by
 cases e:rightA s t l b r with
 | true=>rfl
 | false =>
  unfold zQO at h;rw [zHw,zHb e] at h;omega
theorem zPW {s t l b r k:Int} (h:zQO s t l b r k=true) :
  0<=k/\k<(b - t+1) * (r - l+1)/\0<=k / (r - l+1)/\k / (r - l+1)<b - t+1/\0<=k % (r - l+1)/\k % (r - l+1)<r - l+1:=by
 have hr:=rightA_iff.1 (zCL h);have h':=h;unfold zQO at h';rw [zHw,zJQ (zCL h)] at h';have hp:0<r - l+1:=by omega
 refine ⟨h'.1,h'.2,Int.ediv_nonneg h'.1 (by omega),?_,Int.emod_nonneg _ (by omega),Int.emod_lt_of_pos _ hp⟩;exact Int.ediv_lt_of_lt_mul hp h'.2
theorem zCg {s t l b r k:Int} (h:zQO s t l b r k=true):rightC (num s t l r k).s (num s t l r k).r (num s t l r k).c=true:=by
 have hk:=zPW h;have hr:=rightA_iff.1 (zCL h);rw [rightC_iff];show 0<=s/\s<16/\0<=t+k / (r - l+1)/\t+k / (r - l+1)<65536/\0<=l+k % (r - l+1)/\l+k % (r - l+1)<256;omega
end Wpl
namespace Go.Proofs.YtpjadajhinghbaaGreatDoor
open Tryz
open Go.RowKit
variable {w w':World} {F A:List Wpl.Ar} {b mb B:Nat} {v:Value} {ops:Array Oper} {rest:List Oper} {a:Act} {Q:Exit->Act->World->Prop}
theorem zFy (s r c:Int):Wpl.hullOk (λ_=>⟨s,r,c⟩) 1=Wpl.rightC s r c:=by
 simp [Wpl.hullOk,Wpl.anyN,Wpl.lacks]
def zE9 (s r c:Int):Wpl.Ar:=if Wpl.rightC s r c then ⟨s,r,c,r,c⟩ else Wpl.nullA
theorem zN4 (s r c:Int):Wpl.hullV (λ_=>⟨s,r,c⟩) 1=zE9 s r c:=by
 unfold Wpl.hullV zE9;rw [zFy];rfl
theorem zIV {W:World} {k:Nat} {s r c:Int} (h:AtL W k [.int .i64 s,.int .i64 r,.int .i64 c]):Cells W k 0 1 (λ_=>⟨s,r,c⟩):=λj hj=>by
 obtain rfl:j=0:=by omega
 exact ⟨h.2.1 0 _ rfl,h.2.1 1 _ rfl,h.2.1 2 _ rfl⟩
theorem zGj (s r c:Int) (w:World) :
  CR 46 #[.agg #[.int .i64 s,.int .i64 r,.int .i64 c]] w (.tuple #[.agg #[.int .i64 (zE9 s r c).s,.int .i64 (zE9 s r c).t,.int .i64 (zE9 s r c).l,.int .i64 (zE9 s r c).b,.int .i64 (zE9 s r c).r],.bool (Wpl.rightC s r c)]):=by
 have HL:=λ(k:Nat) (w:World) (hk:AtL w k [.int .i64 s,.int .i64 r,.int .i64 c])=>zGH k 0 1 1 (λ_=>⟨s,r,c⟩) w (by omega) (by omega) (by omega) (by omega) hk.lt (zIV hk)
 simp only [zFy,zN4] at HL;generalize zE9 s r c=V at *;generalize Wpl.rightC s r c=ok at *;obtain ⟨v0,v1,v2,v3,v4⟩:=V;go_enter func46,ntmps46;go_wp2_with fail
 refine (HL _ _ (by with_reducible first | exact AtL.new0 _ _ _ | exact AtL.new1 _ _ _ _ | exact AtL.new ((w.alloc _).alloc _) _ (by simp only [World.size_alloc]) _)).mono ?_;rintro e w1 ⟨rfl,hb1⟩;have pR:AtL w1 (w.heap.size+1) [.int .i64 0,.int .i64 0,.int .i64 0,.int .i64 0,.int .i64 0]:=AtL.below hb1 ((AtL.new1 w _ _ _).alloc _);have hB:Below w.heap.size w w1:=clA
 clear hb1;obtain ⟨r0,r1,r2,r3,r4,f0,f1,f2,f3,f4⟩:=pR.five;go_wp2;refine bodyPost_ret (v:=.tuple #[.agg #[.int .i64 v0,.int .i64 v1,.int .i64 v2,.int .i64 v3,.int .i64 v4],.bool ok]) (by simp [results,results46,go_sem,r0,r1,r2,r3,r4]) rfl ⟨rfl,?_⟩;exact zBh hB (by omega) _ _ _ _ _
open Go.ChangeMaps (setBlock heap_setBlock_same heap_setBlock_other)
open Go.ChangeShapes Go.WideShapes Go.MapKept
abbrev zBT (x:Wpl.Ar):List Value:=[.int .i64 x.s,.int .i64 x.t,.int .i64 x.l,.int .i64 x.b,.int .i64 x.r]
abbrev arV (x:Wpl.Ar):Value:=.agg #[.int .i64 x.s,.int .i64 x.t,.int .i64 x.l,.int .i64 x.b,.int .i64 x.r]
def rdA (x:Wc.In):List Wpl.Ar:=if x.op=2 then [zE9 x.ce.s x.ce.r x.ce.c] else if x.op=8 \/ x.op=11 then [x.ar] else if x.op=9 then [x.ar,x.pr] else []
def ddA (out:List Wpl.Ar):List Wpl.Ar->List Wpl.Ar
 | []=>out
 | a::r=>if out.any (λy=>zBr y a)=true then ddA out r else ddA (out++[a]) r
theorem zOd (A C:List Wpl.Ar):∀ (out:List Wpl.Ar),ddA out (A++C)=ddA (ddA out A) C:=by
 induction A with
 | nil=>intro out;rfl
 | cons a r ih =>
  intro out;simp only [List.cons_append,ddA];split
  ·exact ih _
  ·exact ih _
theorem zFP:∀ (A out:List Wpl.Ar),(ddA out A).length<=out.length+A.length
 | [],out=>Nat.le_refl _
 | a::r,out=>by
  simp only [ddA];split
  ·have:=zFP r out;simp;omega
  ·have:=zFP r (out++[a]);simp at this ⊢;omega
def zD7 (L:List (Wc.In × List Int)):List Wpl.Ar:=L.flatMap λx=>rdA x.1
theorem zHM (x:Wc.In):(rdA x).length<=2:=by
 unfold rdA;repeat' split
 all_goals simp
theorem zF2:∀ (L:List (Wc.In × List Int)),(zD7 L).length<=2 * L.length
 | []=>Nat.le_refl _
 | x::r=>by
  have h1:=zF2 r;have h2:=zHM x.1;unfold zD7 at h1 ⊢;simp only [List.flatMap_cons,List.length_append,List.length_cons];omega
theorem zIk {L:List (Wc.In × List Int)} {i:Nat} (h:i<L.length):zD7 (L.take (i+1))=zD7 (L.take i)++rdA (L[i]).1:=by
 unfold zD7;rw [List.take_succ_eq_append_getElem h,List.flatMap_append];simp
def zGt:Nat->List Wpl.Ar->List MapEntry
 | _,[]=>[]
 | i,x::r=>⟨arV x,.agg #[],i⟩::zGt (i+1) r
theorem zGO:∀ (F:List Wpl.Ar) (i:Nat) (x:Wpl.Ar),zGt i (F++[x])=zGt i F++[⟨arV x,.agg #[],i+F.length⟩]
 | [],i,x=>rfl
 | y::r,i,x=>by
  show _::zGt (i+1) (r++[x])=_::(zGt (i+1) r++_)
  rw [zGO r (i+1) x];have e:i+1+r.length=i+(r.length+1):=by omega
  rw [e];rfl
def AM (w:World) (b:Nat) (F:List Wpl.Ar):Prop:=∃ es:Array MapEntry,w.heap[b]? = some (.map es F.length)/\es.toList=zGt 0 F
theorem AM.lt (h:AM w b F):b<w.heap.size:=by
 obtain ⟨es,h,_⟩:=h;rcases Nat.lt_or_ge b w.heap.size with g | g
 ·exact g
 ·rw [Array.getElem?_eq_none g] at h;cases h
theorem AM.fr {S:List Nat} (h:AM w b F) (hf:Fr S w w') (hn:b ∉ S):AM w' b F:=by
 have hlt:=h.lt;obtain ⟨es,h1,h2⟩:=h;exact ⟨es,by rw [hf.block b hlt hn];exact h1,h2⟩
theorem AM.below (h:AM w b F) (hb:Below w.heap.size w w'):AM w' b F:=h.fr (Fr.of_below [] hb) (by simp)
theorem zQd (em:Bool) (x:Wpl.Ar) (w:World):(Instr.checkKey em 10000 45 (arV x)).run prog w=.ok () w:=by kernel_rfl
theorem zM4 (x y:Wpl.Ar) (w:World):(Op.equal 45 (arV x) (arV y)).run prog w=.ok (zBr x y) w:=by
 show (Op.equalIn (9998+2) 45 _ _).run _ _=_
 unfold zBr;by_cases h1:x.s=y.s
 ·by_cases h2:x.t=y.t
  ·by_cases h3:x.l=y.l
   ·by_cases h4:x.b=y.b
    ·by_cases h5:x.r=y.r
     ·simp [go_sem,h1,h2,h3,h4,h5]
     ·simp [go_sem,h1,h2,h3,h4,h5]
    ·simp [go_sem,h1,h2,h3,h4]
   ·simp [go_sem,h1,h2,h3]
  ·simp [go_sem,h1,h2]
 ·simp [go_sem,h1]
theorem zJJ (x y:Wpl.Ar):zBr x y=zBr y x:=by
 rw [Bool.eq_iff_iff,zCZ,zCZ];exact ⟨λh=>h.symm,λh=>h.symm⟩
theorem zOl (x:Wpl.Ar) (w:World):∀ (F:List Wpl.Ar) (i:Nat),(Instr.findAsking 45 (arV x) (zGt i F) i).run prog w=.ok ((F.findIdx? (λy=>zBr y x)).map λk=>(i+k,Value.agg #[])) w
 | [],i=>rfl
 | y::r,i=>by
  have h:=zOl x w r (i+1);have e:=zM4 x y w;rw [zJJ] at e;unfold zGt;rw [List.findIdx?_cons];cases hq:zBr y x with
  | true =>
   rw [hq] at e;simp [Instr.findAsking,e,Result.andThen]
  | false =>
   rw [hq] at e;simp [Instr.findAsking,e,Result.andThen,h];cases r.findIdx? (λy=>zBr y x) with
   | none=>rfl
   | some k =>
    simp;omega
theorem zRR (x:Wpl.Ar) (F:List Wpl.Ar) (w:World):(Instr.findKey 45 (arV x) (zGt 0 F)).run prog w=.ok ((F.findIdx? (λy=>zBr y x)).map λk=>(k,Value.agg #[])) w:=by
 have h:=zOl x w F 0;cases F with
 | nil=>simp [Instr.findKey,go_sem,zGt,Instr.findNow]
 | cons y r =>
  simp [Instr.findKey,go_sem,zGt,Instr.findNow,Instr.sameNow];simpa [zGt] using h
theorem zMv:prog.underlying 83=some (.map 45 85):=by kernel_rfl
theorem zDV (F:List Wpl.Ar) (x:Wpl.Ar):F.findIdx? (λy=>zBr y x)=none ↔ F.any (λy=>zBr y x)=false:=by
 rw [List.findIdx?_eq_none_iff,List.any_eq_false];exact ⟨λh y hy=>by simp [h y hy],λh y hy=>by simpa using h y hy⟩
theorem zRJ (h:AM w mb F) (x:Wpl.Ar):(Instr.lookup 83 (.map (some mb)) (arV x) true).run prog w=.ok (.tuple #[.agg #[],.bool (F.any (λy=>zBr y x))]) w:=by
 obtain ⟨es,h1,h2⟩:=h;cases hk:F.findIdx? (λy=>zBr y x) with
 | none =>
  rw [(zDV F x).1 hk];refine zCz zMv h1 (zQd _ _ _) ?_ (by kernel_rfl);rw [h2,zRR,hk];rfl
 | some k =>
  have:F.any (λy=>zBr y x)=true:=by
   cases q:F.any (λy=>zBr y x) with
   | true=>rfl
   | false=>rw [(zDV F x).2 q] at hk;cases hk
  rw [this];refine zA0 (j:=k) zMv h1 (zQd _ _ _) ?_;rw [h2,zRR,hk];rfl
theorem zRQ (h:AM w mb F) {x:Wpl.Ar} (hk:F.any (λy=>zBr y x)=false):∃ w',(Instr.mapUpdate 83 (.map (some mb)) (arV x) (.agg #[])).run prog w=.ok () w'/\AM w' mb (F++[x])/\w.grownBy w' (some mb):=by
 obtain ⟨es,h1,h2⟩:=h;refine ⟨_,zEh zMv h1 _ (zQd _ _ _) (by rw [h2,zRR,(zDV F x).2 hk];rfl),⟨es.push ⟨arV x,.agg #[],F.length⟩,?_,?_⟩,zCl h1 _⟩
 ·rw [heap_setBlock_same h1,List.length_append];rfl
 ·rw [Array.toList_push,h2,zGO];simp
theorem zDy {op:Oper} (hgd:op.guard=none) (m x v:Operand) (ho:op.op=.mapUpdate 83 m x v) (b:Nat) (hm:a.eval m=.map (some b)) (y:Wpl.Ar) (hx:a.eval x=arV y) (hv:a.eval v=.agg #[])
  (F:List Wpl.Ar) (hb:AM w b F) (hk:F.any (λz=>zBr z y)=false) (h:∀ w',AM w' b (F++[y])->w.grownBy w' (some b)->wpList prog ops Q rest (a.put op.dst (.tuple #[])) w'):wpList prog ops Q (op::rest) a w:=by
 obtain ⟨w',e,hA,hg⟩:=zRQ hb hk;refine wpList_plain hgd λK hK=>?_
 unfold Oper.wp execOp;simp only [ho,hm,hx,hv,Sem.run_bind,Sem.run_pure,Result.andThen_ok,e];exact hK _ _ (h w' hA hg)
def zBG:List Wpl.Ar->List Value
 | []=>[]
 | x::r=>zBT x++zBG r
theorem zEF:∀ A:List Wpl.Ar,(zBG A).length=A.length * 5
 | []=>rfl
 | x::r=>by simp [zBG,zEF r];omega
theorem zDr:∀ (A C:List Wpl.Ar),zBG (A++C)=zBG A++zBG C
 | [],C=>rfl
 | x::r,C=>by simp [zBG,zDr r C]
theorem zEV:∀ (A:List Wpl.Ar),∀ v ∈ zBG A,v.oneCell'=true
 | [],v,h=>by cases h
 | x::r,v,h=>by
  simp only [zBG,zBT,List.mem_append,List.mem_cons,List.not_mem_nil,or_false] at h;rcases h with (rfl | rfl | rfl | rfl | rfl) | h
  ·rfl
  ·rfl
  ·rfl
  ·rfl
  ·rfl
  ·exact zEV r v h
theorem zEG:∀ (A:List Wpl.Ar) (i j:Nat) (h:i<A.length),j<5->(zBG A)[i * 5+j]? = (zBT (A[i]))[j]?
 | x::r,0,j,_,hj=>by
  show (zBT x++zBG r)[0 * 5+j]? = _
  rw [List.getElem?_append_left (by simp;omega)];simp
 | x::r,i+1,j,h,hj=>by
  have ih:=zEG r i j (by simpa using h) hj;show (zBT x++zBG r)[(i+1) * 5+j]? = _
  rw [List.getElem?_append_right (by simp;omega)];have e:(i+1) * 5+j - (zBT x).length=i * 5+j:=by simp;omega
  rw [e,ih];rfl
def OwnA (w:World) (B:Nat) (v:Value) (A:List Wpl.Ar):Prop:=w.ownsRow B 45 5 v A.length (zBG A)
theorem OwnA.nil (w:World) (B:Nat):OwnA w B (.slice none 0 0) []:=⟨rfl,Or.inl ⟨rfl,rfl⟩⟩
theorem OwnA.blk (h:OwnA w B v A) {g:Nat} (e:v.ownBlock=some g):B<=g/\g<w.heap.size:=zAL h e
theorem OwnA.below (h:OwnA w B v A) (hb:Below w.heap.size w w'):OwnA w' B v A:=zAX (Fr.of_below [] hb) h (by simp)
def RdA (w:World) (v:Value) (A:List Wpl.Ar):Prop:=∃ av cap,v=.slice av A.length cap/\∀ i (h:i<A.length),∃ bb off,av=some ⟨bb,off,none⟩/\w.rangeAt bb (off+i * 5) (zBT (A[i]))
theorem RdA.below (h:RdA w v A) (hb:Below w.heap.size w w'):RdA w' v A:=by
 obtain ⟨av,cap,e,h⟩:=h;refine ⟨av,cap,e,λi hi=>?_⟩;obtain ⟨bb,off,e1,h1⟩:=h i hi;exact ⟨bb,off,e1,λj v hv=>zAC hb (h1 j v hv)⟩
theorem RdA.nil (w:World):RdA w (.slice none 0 0) []:=⟨none,0,rfl,λi hi=>absurd hi (Nat.not_lt_zero _)⟩
theorem RdA.at0 {cap:Nat} (h:∀ j u,(zBG A)[j]? = some u->w.cell? ⟨b,j,none⟩=some u):RdA w (.slice (some ⟨b,0,none⟩) A.length cap) A:=by
 refine ⟨_,_,rfl,λi hi=>⟨b,0,rfl,λj u hu=>?_⟩⟩;have hj:j<5:=by
  rcases Nat.lt_or_ge j 5 with q | q
  ·exact q
  ·rw [List.getElem?_eq_none (by simpa using q)] at hu;cases hu
 rw [Nat.zero_add];exact h _ _ (by rw [zEG A i j hi hj];exact hu)
theorem zHY:(prog.info? 45).map (λi=>(i.zero,i.size,i.bytes))=some (some (.agg #[.int .i64 0,.int .i64 0,.int .i64 0,.int .i64 0,.int .i64 0]),5,40):=by kernel_rfl
theorem zDx {ops:Array Oper} {rest:List Oper} {o:Oper} {a:Act} {Q:Exit->Act->World->Prop} (hgd:o.guard=none) (s x:Operand) (ho:o.op=.call {callee:=.builtin .append,args:=#[s,x],argTypes:=#[34,34]})
  (w:World) (B:Nat) (hB:B<=w.heap.size) (v:Value) (A:List Wpl.Ar) (hs:a.eval s=v) (hown:OwnA w B v A) (g n:Nat) (L:List Wpl.Ar) (hn:n=L.length) (hx:a.eval x=.slice (some ⟨g,0,none⟩) n n) (hat:AtL w g (zBG L)) (hl:A.length+L.length<=4000000)
  (h:∀ v' w',OwnA w' B v' (A++L)->w.grownBy w' v.ownBlock->wpList prog ops Q rest (a.put o.dst v') w'):wpList prog ops Q (o::rest) a w:=by
 subst hn;obtain ⟨i0,hi0,hz0,hz1,hz2⟩:=info_parts zHY;refine wpList_plain hgd λK hK=>?_
 refine wp_append_own _ s x 34 ho B 45 i0 _ 5 40 underlying34 hi0 hz0 hz1 hz2 rfl (by decide) v A.length (zBG A) hs hown ⟨g,0,none⟩ L.length L.length (zBG L) hx (zEF L) (λj u hj=>?_) (zEV L) (by unfold maxLen;omega) (by omega) hB ?_
 ·have:=hat.2.1 j u hj;rw [show (⟨g,0,none⟩:Addr).add j=⟨g,j,none⟩ from by
   simp [Addr.add];try (intro h0;omega)]
  exact this
 ·intro v' w' own hg _;refine hK _ _ (h v' w' ?_ hg);unfold OwnA;rw [List.length_append,zDr];exact own
theorem zAk (i:Nat) (x:Wc.In) (tl:List Int) (M:List (Option (Int × Nat))) (F:List (Nat × Int)):Wc.spI i (x,tl) (M,F)=match M.getD i none with
  | none=>none
  | some (v,m)=>match zGN F x v m with
   | none=>none
   | some (h2,F2)=>match Wc.handP h2 (onw x.op x.a x.b tl i).1 M with
    | none=>none
    | some M1=>match Wc.handP (v,m) (onw x.op x.a x.b tl i).2 M1 with
     | none=>none
     | some M2=>some (M2,F2):=by
 unfold Wc.spI Wc.stepP zGN;simp only;cases M.getD i none with
 | none=>rfl
 | some q =>
  obtain ⟨v,m⟩:=q;simp only;cases Wc.behF F x.op x.a m with
  | none=>rfl
  | some q =>
   obtain ⟨m2,F2⟩:=q;simp only;split
   ·rfl
   ·rfl
theorem zLA {F:List (Nat × Int)} {o a:Int} {m m2:Nat} {F2:List (Nat × Int)} (h:Wc.behF F o a m=some (m2,F2)):F2.length<=F.length+1:=by
 unfold Wc.behF at h;repeat' split at h
 all_goals first
  | cases h;done
  | (cases h;simp)
theorem zOr {F:List (Nat × Int)} (hr:Wc.Rows F) {o a:Int} {m m2:Nat} {F2:List (Nat × Int)} (hm:m<=F.length) (h:Wc.behF F o a m=some (m2,F2)):Wc.Beh F o a m m2 F2:=by
 cases hb:Wc.bst o (Wc.rw0 F m) with
 | false=>rw [Wc.beh_none hr hm hb] at h;cases h
 | true =>
  obtain ⟨m3,F3,h3,B⟩:=Wc.beh_some (a:=a) hr hm hb;rw [h] at h3;cases h3
  exact B
structure PInv (i:Nat) (M:List (Option (Int × Nat))) (F:List (Nat × Int)):Prop where
 len:F.length<=i
 rows:Wc.Rows F
 zero:M.getD 0 none=some (0,0)
 at':∀ (j:Nat) (v:Int) (m:Nat),M.getD j none=some (v,m)->0<=v/\v<=i/\m<=F.length
theorem zDc {α:Type} (l:List (Option α)) (i j:Nat) (x:Option α):(l.set i x).getD j none=if i=j/\i<l.length then x else l.getD j none:=by
 by_cases hi:i<l.length
 ·rw [Wc.getD_set l i j x hi];by_cases h:i=j
  ·simp [h,h ▸ hi]
  ·simp [h]
 ·rw [List.set_eq_of_length_le (by omega),if_neg (by omega)]
theorem zDl {h:Int × Nat}:∀ (pl:List Int) (M M2:List (Option (Int × Nat))),Wc.handP h pl M=some M2->(∀ j ∈ pl,0<j)->M2.getD 0 none=M.getD 0 none/\∀ (j:Nat) (g:Int × Nat),M2.getD j none=some g->g=h \/ M.getD j none=some g:=by
 intro pl;induction pl with
 | nil =>
  intro M M2 e _;cases e
  exact ⟨rfl,λj g q=>Or.inr q⟩
 | cons p r ih =>
  intro M M2 e hp;have hp0:=hp p (List.mem_cons_self ..);have hr:∀ j ∈ r,0<j:=λj hj=>hp j (List.mem_cons_of_mem _ hj)
  have key:Wc.handP h r (M.set p.toNat (some h))=some M2->M2.getD 0 none=M.getD 0 none/\∀ (j:Nat) (g:Int × Nat),M2.getD j none=some g->g=h \/ M.getD j none=some g:=by
   intro e2;obtain ⟨h1,h2⟩:=ih _ _ e2 hr;refine ⟨by rw [h1,zDc,if_neg (by omega)],λj g q=>?_⟩;rcases h2 j g q with q2 | q2
   ·exact Or.inl q2
   ·rw [zDc] at q2;split at q2
    ·exact Or.inl (by cases q2;rfl)
    ·exact Or.inr q2
  simp only [Wc.handP] at e;split at e
  ·exact key e
  ·split at e
   ·exact key e
   ·cases e
theorem zP5 {x:Wc.In} {tl:List Int} (h:rgt x tl=true):0<=(Wc.swO x.op x.b).1/\(Wc.swO x.op x.b).1<=1000/\0<=(Wc.swO x.op x.b).2/\(Wc.swO x.op x.b).2<=1:=by
 by_cases h5:x.op=5
 ·rw [zK5 h5,Bool.and_eq_true] at h;have ha:=h.1;unfold apl at ha;simp only [Bool.and_eq_true,decide_eq_true_eq] at ha;have hb:0<=(zAO x.a).l/\(zAO x.a).m<=30:=by
   unfold zAO;split
   ·exact ⟨by decide,by decide⟩
   ·split
    ·unfold zGy;repeat' split
     all_goals exact ⟨by decide,by decide⟩
    ·split
     ·unfold zIY;repeat' split
      all_goals exact ⟨by decide,by decide⟩
     ·unfold zHK;repeat' split
      all_goals exact ⟨by decide,by decide⟩
  have hs:Wc.swO x.op x.b=(x.b,1):=by simp [Wc.swO,h5]
  rw [hs];simp only;omega
 ·by_cases h11:x.op=11
  ·rw [zFl h11,Bool.and_eq_true,Bool.and_eq_true] at h;have hb:=h.1.2;simp only [Bool.or_eq_true,beq_iff_eq] at hb;have hs:Wc.swO x.op x.b=(x.b,1):=by simp [Wc.swO,h11]
   rw [hs];simp only;omega
  ·unfold Wc.swO;rw [if_neg (show ¬ (x.op=5 \/ x.op=11) by omega)];repeat' split
   all_goals exact ⟨by decide,by decide,by decide,by decide⟩
