/- PKit, PPlain, KWalkQ, PWalkN, PWalkD, KUsP, KAreas, KReads, KUses, PWalkO. -/
import Derived.Test.YtcddpgfdadpbgaaGreatDoorQ40
set_option maxHeartbeats 4000000
set_option maxRecDepth 100000
set_option linter.unusedVariables false
namespace Go.Proofs.YtcddpgfdadpbgaaGreatDoor
open Go.RowKit
abbrev Three (W:World) (k:Nat) (a b c:Value):Prop :=
 W.cell? ⟨k,0,none⟩=some a/\W.cell? ⟨k,1,none⟩=some b/\W.cell? ⟨k,2,none⟩=some c
theorem AtL.f3 {W:World} {k:Nat} {a b c:Value} (h:AtL W k [a,b,c]):Three W k a b c:=⟨h.2.1 0 a rfl,h.2.1 1 b rfl,h.2.1 2 c rfl⟩
end Go.Proofs.YtcddpgfdadpbgaaGreatDoor
namespace Wpl
def sizeA (s t l b r:Int):Int:=if rightA s t l b r then (b - t+1) * (r - l+1) else 0
end Wpl
namespace Go.Proofs.YtcddpgfdadpbgaaGreatDoor
open Tryz
open Go.RowKit
variable {w w':World} {F A:List Wpl.Ar} {b B mb:Nat} {v:Value} {ops:Array Oper} {rest:List Oper} {a:Act} {Q:Exit->Act->World->Prop}
theorem zq30 (x y:Wpl.Ar):zEe x y=true ↔ x=y:=by
 obtain ⟨a,b,c,g,i⟩:=x;obtain ⟨d,e,f,h,j⟩:=y;simp [zEe]
theorem zq53 (s t l b r:Int) (w:World) :
  CR 24 #[.agg #[.int .i64 s,.int .i64 t,.int .i64 l,.int .i64 b,.int .i64 r]] w (.int .i64 (Wpl.sizeA s t l b r)):=by
 have R:=λw=>zAi s t l b r w
 cases h:Wpl.rightA s t l b r with
 | false =>
  have e1:Hid (Wpl.sizeA s t l b r=0):=by show _=_;unfold Wpl.sizeA;rw [h];rfl
  rw [h] at R;clear h;go_enter func24,ntmps24;go_wp2_with fail
  refine (R _).mono ?_;rintro e w1 ⟨rfl,hb1⟩;go_wp2;go_ret;exact ⟨by rw [e1.out];rfl,clA⟩
 | true =>
  have hh:=Wpl.rightA_iff.1 h;have e1:Hid (Wpl.sizeA s t l b r=(b - t+1) * (r - l+1)):=by show _=_;unfold Wpl.sizeA;rw [h];rfl
  have m0:0<=(b - t+1) * (r - l+1):=Int.mul_nonneg (by omega) (by omega);have m1:(b - t+1) * (r - l+1)<=65536 * 256:=Int.mul_le_mul (by omega) (by omega) (by omega) (by omega);have wa:IntKind.i64.wrap (b - t)=b - t:=IntWalk.i64_in _ (by omega);have wb:IntKind.i64.wrap (b - t+1)=b - t+1:=IntWalk.i64_in _ (by omega);have wc:IntKind.i64.wrap ((b - t+1) * (r - l+1))=(b - t+1) * (r - l+1):=IntWalk.i64_in _ (by omega);have wd:IntKind.i64.wrap (r - l)=r - l:=IntWalk.i64_in _ (by omega);have we:IntKind.i64.wrap (r - l+1)=r - l+1:=IntWalk.i64_in _ (by omega);rw [h] at R;clear h;go_enter func24,ntmps24;go_wp2_with fail
  refine (R _).mono ?_;rintro e w1 ⟨rfl,hb1⟩;have pA:AtL w1 w.heap.size [.int .i64 s,.int .i64 t,.int .i64 l,.int .i64 b,.int .i64 r]:=AtL.below hb1 (AtL.new0 w 49 _);have hB:Below w.heap.size w w1:=clA
  clear hb1;obtain ⟨a0,a1,a2,a3,a4⟩:=pA.f5;go_wp2;go_ret;refine ⟨by rw [e1.out];first | rfl | (simp only [wa,wb,wc,wd,we]),clA⟩
theorem zq39 (s t l b r:Int) (w:World) (h0:0<=l) (h1:l<=r) (h2:r<256) :
  CR 104 #[.agg #[.int .i64 s,.int .i64 t,.int .i64 l,.int .i64 b,.int .i64 r]] w (.int .i64 (r - l+1)):=by
 go_enter func104,ntmps104;go_wp2;go_ret;exact ⟨rfl,clA⟩
theorem zq22 (s t l b r:Int) (w:World) :
  CR 75 #[.agg #[.int .i64 s,.int .i64 t,.int .i64 l,.int .i64 b,.int .i64 r]] w (.int .i64 (Wpl.sizeA s t l b r)):=by
 have R:=λw=>zAn s t l b r w
 cases h:Wpl.rightA s t l b r with
 | false =>
  have e1:Hid (Wpl.sizeA s t l b r=0):=by show _=_;unfold Wpl.sizeA;rw [h];rfl
  rw [h] at R;clear h;go_enter func75,ntmps75;go_wp2_with fail
  refine (R _).mono ?_;rintro e w1 ⟨rfl,hb1⟩;go_wp2;go_ret;exact ⟨by rw [e1.out];rfl,clA⟩
 | true =>
  have hh:=Wpl.rightA_iff.1 h;have e1:Hid (Wpl.sizeA s t l b r=(b - t+1) * (r - l+1)):=by show _=_;unfold Wpl.sizeA;rw [h];rfl
  have m0:0<=(b - t+1) * (r - l+1):=Int.mul_nonneg (by omega) (by omega);have m1:(b - t+1) * (r - l+1)<=65536 * 256:=Int.mul_le_mul (by omega) (by omega) (by omega) (by omega);have wa:IntKind.i64.wrap (b - t)=b - t:=IntWalk.i64_in _ (by omega);have wb:IntKind.i64.wrap (b - t+1)=b - t+1:=IntWalk.i64_in _ (by omega);have wc:IntKind.i64.wrap ((b - t+1) * (r - l+1))=(b - t+1) * (r - l+1):=IntWalk.i64_in _ (by omega);rw [h] at R;clear h;have Wd:=λw=>zq39 s t l b r w (by omega) (by omega) (by omega)
  go_enter func75,ntmps75;go_wp2_with fail
  refine (R _).mono ?_;rintro e w1 ⟨rfl,hb1⟩;have pA:AtL w1 w.heap.size [.int .i64 s,.int .i64 t,.int .i64 l,.int .i64 b,.int .i64 r]:=AtL.below hb1 (AtL.new0 w 49 _);have hB:Below w.heap.size w w1:=clA
  clear hb1;obtain ⟨a0,a1,a2,a3,a4,_,_,_,_,_⟩:=pA.five;go_wp2_with fail
  go_region_held3 (λW=>W.cell? ⟨w.heap.size,0,none⟩=some (.int .i64 s)/\W.cell? ⟨w.heap.size,1,none⟩=some (.int .i64 t)/\W.cell? ⟨w.heap.size,2,none⟩=some (.int .i64 l)/\W.cell? ⟨w.heap.size,3,none⟩=some (.int .i64 b)/\W.cell? ⟨w.heap.size,4,none⟩=some (.int .i64 r))
   (with_reducible first | exact ⟨a0,a1,a2,a3,a4⟩ | assumption | exact zC0 ⟨a0,a1,a2,a3,a4⟩ | exact zAq hb4 (by assumption))
   (first
   | (go_at_call 104;refine (Wd _).mono ?_;rintro e w4 ⟨rfl,hb4⟩))
  all_goals
   go_wp2;go_ret;refine ⟨by rw [e1.out,<-wc,<-wb,<-wa];first | rfl | (rw [wa,wb,wc];rfl),clA⟩
open Go.ChangeMaps (setBlock heap_setBlock_same heap_setBlock_other)
open Go.ChangeShapes Go.WideShapes Go.MapKept
abbrev zq1 (x:Wpl.Ar):List Value:=[.int .i64 x.s,.int .i64 x.t,.int .i64 x.l,.int .i64 x.b,.int .i64 x.r]
abbrev arV (x:Wpl.Ar):Value:=.agg #[.int .i64 x.s,.int .i64 x.t,.int .i64 x.l,.int .i64 x.b,.int .i64 x.r]
def rdA (x:Wc.In):List Wpl.Ar:=if x.op=2 then [zIN x.ce.s x.ce.r x.ce.c] else if x.op=8 \/ x.op=11 then [x.ar] else if x.op=9 then [x.ar,x.pr] else []
def ddA (out:List Wpl.Ar):List Wpl.Ar->List Wpl.Ar
 | []=>out
 | a::r=>if out.any (λy=>zEe y a)=true then ddA out r else ddA (out++[a]) r
theorem zq20 (A C:List Wpl.Ar):∀ (out:List Wpl.Ar),ddA out (A++C)=ddA (ddA out A) C:=by
 induction A with
 | nil=>intro out;rfl
 | cons a r ih =>
  intro out;simp only [List.cons_append,ddA];split
  ·exact ih _
  ·exact ih _
theorem zq10:∀ (A out:List Wpl.Ar),(ddA out A).length<=out.length+A.length
 | [],out=>Nat.le_refl _
 | a::r,out=>by
  simp only [ddA];split
  ·have:=zq10 r out;simp;omega
  ·have:=zq10 r (out++[a]);simp at this ⊢;omega
def zq3 (L:List (Wc.In × List Int)):List Wpl.Ar:=L.flatMap λx=>rdA x.1
theorem zq52 (x:Wc.In):(rdA x).length<=2:=by
 unfold rdA;repeat' split
 all_goals simp
theorem zq7:∀ (L:List (Wc.In × List Int)),(zq3 L).length<=2 * L.length
 | []=>Nat.le_refl _
 | x::r=>by
  have h1:=zq7 r;have h2:=zq52 x.1;unfold zq3 at h1 ⊢;simp only [List.flatMap_cons,List.length_append,List.length_cons];omega
theorem zq19 {L:List (Wc.In × List Int)} {i:Nat} (h:i<L.length):zq3 (L.take (i+1))=zq3 (L.take i)++rdA (L[i]).1:=by
 unfold zq3;rw [List.take_succ_eq_append_getElem h,List.flatMap_append];simp
def entA:Nat->List Wpl.Ar->List MapEntry
 | _,[]=>[]
 | i,x::r=>⟨arV x,.agg #[],i⟩::entA (i+1) r
theorem zq29:∀ (F:List Wpl.Ar) (i:Nat) (x:Wpl.Ar),entA i (F++[x])=entA i F++[⟨arV x,.agg #[],i+F.length⟩]
 | [],i,x=>rfl
 | y::r,i,x=>by
  show _::entA (i+1) (r++[x])=_::(entA (i+1) r++_)
  rw [zq29 r (i+1) x];have e:i+1+r.length=i+(r.length+1):=by omega
  rw [e];rfl
def AM (w:World) (b:Nat) (F:List Wpl.Ar):Prop:=∃ es:Array MapEntry,w.heap[b]? = some (.map es F.length)/\es.toList=entA 0 F
theorem AM.lt (h:AM w b F):b<w.heap.size:=by
 obtain ⟨es,h,_⟩:=h;rcases Nat.lt_or_ge b w.heap.size with g | g
 ·exact g
 ·rw [Array.getElem?_eq_none g] at h;cases h
theorem AM.fr {S:List Nat} (h:AM w b F) (hf:Fr S w w') (hn:b ∉ S):AM w' b F:=by
 have hlt:=h.lt;obtain ⟨es,h1,h2⟩:=h;exact ⟨es,by rw [hf.block b hlt hn];exact h1,h2⟩
theorem AM.below (h:AM w b F) (hb:Below w.heap.size w w'):AM w' b F:=h.fr (Fr.of_below [] hb) (by simp)
theorem chkA (em:Bool) (x:Wpl.Ar) (w:World):(Instr.checkKey em 10000 49 (arV x)).run prog w=.ok () w:=by kernel_rfl
theorem zq103 (x y:Wpl.Ar) (w:World):(Op.equal 49 (arV x) (arV y)).run prog w=.ok (zEe x y) w:=by
 show (Op.equalIn (9998+2) 49 _ _).run _ _=_
 unfold zEe;by_cases h1:x.s=y.s
 ·by_cases h2:x.t=y.t
  ·by_cases h3:x.l=y.l
   ·by_cases h4:x.b=y.b
    ·by_cases h5:x.r=y.r
     ·simp [go_sem,h1,h2,h3,h4,h5]
     ·simp [go_sem,h1,h2,h3,h4,h5]
    ·simp [go_sem,h1,h2,h3,h4]
   ·simp [go_sem,h1,h2,h3]
  ·simp [go_sem,h1,h2]
 ·simp [go_sem,h1]
theorem zq48 (x y:Wpl.Ar):zEe x y=zEe y x:=by
 rw [Bool.eq_iff_iff,zq30,zq30];exact ⟨λh=>h.symm,λh=>h.symm⟩
theorem findA (x:Wpl.Ar) (w:World):∀ (F:List Wpl.Ar) (i:Nat),(Instr.findAsking 49 (arV x) (entA i F) i).run prog w=.ok ((F.findIdx? (λy=>zEe y x)).map λk=>(i+k,Value.agg #[])) w
 | [],i=>rfl
 | y::r,i=>by
  have h:=findA x w r (i+1);have e:=zq103 x y w;rw [zq48] at e;unfold entA;rw [List.findIdx?_cons];cases hq:zEe y x with
  | true =>
   rw [hq] at e;simp [Instr.findAsking,e,Result.andThen]
  | false =>
   rw [hq] at e;simp [Instr.findAsking,e,Result.andThen,h];cases r.findIdx? (λy=>zEe y x) with
   | none=>rfl
   | some k =>
    simp;omega
theorem keyA (x:Wpl.Ar) (F:List Wpl.Ar) (w:World):(Instr.findKey 49 (arV x) (entA 0 F)).run prog w=.ok ((F.findIdx? (λy=>zEe y x)).map λk=>(k,Value.agg #[])) w:=by
 have h:=findA x w F 0;cases F with
 | nil=>simp [Instr.findKey,go_sem,entA,Instr.findNow]
 | cons y r =>
  simp [Instr.findKey,go_sem,entA,Instr.findNow,Instr.sameNow];simpa [entA] using h
theorem undA2:prog.underlying 59=some (.map 49 61):=by kernel_rfl
theorem zq12 (F:List Wpl.Ar) (x:Wpl.Ar):F.findIdx? (λy=>zEe y x)=none ↔ F.any (λy=>zEe y x)=false:=by
 rw [List.findIdx?_eq_none_iff,List.any_eq_false];exact ⟨λh y hy=>by simp [h y hy],λh y hy=>by simpa using h y hy⟩
theorem lookA (h:AM w mb F) (x:Wpl.Ar):(Instr.lookup 59 (.map (some mb)) (arV x) true).run prog w=.ok (.tuple #[.agg #[],.bool (F.any (λy=>zEe y x))]) w:=by
 obtain ⟨es,h1,h2⟩:=h;cases hk:F.findIdx? (λy=>zEe y x) with
 | none =>
  rw [(zq12 F x).1 hk];refine zBl undA2 h1 (chkA _ _ _) ?_ (by kernel_rfl);rw [h2,keyA,hk];rfl
 | some k =>
  have:F.any (λy=>zEe y x)=true:=by
   cases q:F.any (λy=>zEe y x) with
   | true=>rfl
   | false=>rw [(zq12 F x).2 q] at hk;cases hk
  rw [this];refine zAU (j:=k) undA2 h1 (chkA _ _ _) ?_;rw [h2,keyA,hk];rfl
theorem updAm (h:AM w mb F) {x:Wpl.Ar} (hk:F.any (λy=>zEe y x)=false):∃ w',(Instr.mapUpdate 59 (.map (some mb)) (arV x) (.agg #[])).run prog w=.ok () w'/\AM w' mb (F++[x])/\w.grownBy w' (some mb):=by
 obtain ⟨es,h1,h2⟩:=h;refine ⟨_,zD5 undA2 h1 _ (chkA _ _ _) (by rw [h2,keyA,(zq12 F x).2 hk];rfl),⟨es.push ⟨arV x,.agg #[],F.length⟩,?_,?_⟩,zBh h1 _⟩
 ·rw [heap_setBlock_same h1,List.length_append];rfl
 ·rw [Array.toList_push,h2,zq29];simp
theorem zq15 {op:Oper} (hgd:op.guard=none) (m x v:Operand) (ho:op.op=.mapUpdate 59 m x v) (b:Nat) (hm:a.eval m=.map (some b)) (y:Wpl.Ar) (hx:a.eval x=arV y) (hv:a.eval v=.agg #[])
  (F:List Wpl.Ar) (hb:AM w b F) (hk:F.any (λz=>zEe z y)=false) (h:∀ w',AM w' b (F++[y])->w.grownBy w' (some b)->wpList prog ops Q rest (a.put op.dst (.tuple #[])) w'):wpList prog ops Q (op::rest) a w:=by
 obtain ⟨w',e,hA,hg⟩:=updAm hb hk;refine wpList_plain hgd λK hK=>?_
 unfold Oper.wp execOp;simp only [ho,hm,hx,hv,Sem.run_bind,Sem.run_pure,Result.andThen_ok,e];exact hK _ _ (h w' hA hg)
def zq0:List Wpl.Ar->List Value
 | []=>[]
 | x::r=>zq1 x++zq0 r
theorem zq8:∀ A:List Wpl.Ar,(zq0 A).length=A.length * 5
 | []=>rfl
 | x::r=>by simp [zq0,zq8 r];omega
theorem zq11:∀ (A C:List Wpl.Ar),zq0 (A++C)=zq0 A++zq0 C
 | [],C=>rfl
 | x::r,C=>by simp [zq0,zq11 r C]
theorem zq9:∀ (A:List Wpl.Ar),∀ v ∈ zq0 A,v.oneCell'=true
 | [],v,h=>by cases h
 | x::r,v,h=>by
  simp only [zq0,zq1,List.mem_append,List.mem_cons,List.not_mem_nil,or_false] at h;rcases h with (rfl | rfl | rfl | rfl | rfl) | h
  ·rfl
  ·rfl
  ·rfl
  ·rfl
  ·rfl
  ·exact zq9 r v h
theorem zq14:∀ (A:List Wpl.Ar) (i j:Nat) (h:i<A.length),j<5->(zq0 A)[i * 5+j]? = (zq1 (A[i]))[j]?
 | x::r,0,j,_,hj=>by
  show (zq1 x++zq0 r)[0 * 5+j]? = _
  rw [List.getElem?_append_left (by simp;omega)];simp
 | x::r,i+1,j,h,hj=>by
  have ih:=zq14 r i j (by simpa using h) hj;show (zq1 x++zq0 r)[(i+1) * 5+j]? = _
  rw [List.getElem?_append_right (by simp;omega)];have e:(i+1) * 5+j - (zq1 x).length=i * 5+j:=by simp;omega
  rw [e,ih];rfl
def OwnA (w:World) (B:Nat) (v:Value) (A:List Wpl.Ar):Prop:=w.ownsRow B 49 5 v A.length (zq0 A)
theorem OwnA.nil (w:World) (B:Nat):OwnA w B (.slice none 0 0) []:=⟨rfl,Or.inl ⟨rfl,rfl⟩⟩
theorem OwnA.blk (h:OwnA w B v A) {g:Nat} (e:v.ownBlock=some g):B<=g/\g<w.heap.size:=zAW h e
theorem OwnA.below (h:OwnA w B v A) (hb:Below w.heap.size w w'):OwnA w' B v A:=zAl (Fr.of_below [] hb) h (by simp)
def RdA (w:World) (v:Value) (A:List Wpl.Ar):Prop:=∃ av cap,v=.slice av A.length cap/\∀ i (h:i<A.length),∃ bb off,av=some ⟨bb,off,none⟩/\w.rangeAt bb (off+i * 5) (zq1 (A[i]))
theorem RdA.below (h:RdA w v A) (hb:Below w.heap.size w w'):RdA w' v A:=by
 obtain ⟨av,cap,e,h⟩:=h;refine ⟨av,cap,e,λi hi=>?_⟩;obtain ⟨bb,off,e1,h1⟩:=h i hi;exact ⟨bb,off,e1,λj v hv=>zAC hb (h1 j v hv)⟩
theorem RdA.nil (w:World):RdA w (.slice none 0 0) []:=⟨none,0,rfl,λi hi=>absurd hi (Nat.not_lt_zero _)⟩
theorem RdA.at0 {cap:Nat} (h:∀ j u,(zq0 A)[j]? = some u->w.cell? ⟨b,j,none⟩=some u):RdA w (.slice (some ⟨b,0,none⟩) A.length cap) A:=by
 refine ⟨_,_,rfl,λi hi=>⟨b,0,rfl,λj u hu=>?_⟩⟩;have hj:j<5:=by
  rcases Nat.lt_or_ge j 5 with q | q
  ·exact q
  ·rw [List.getElem?_eq_none (by simpa using q)] at hu;cases hu
 rw [Nat.zero_add];exact h _ _ (by rw [zq14 A i j hi hj];exact hu)
theorem OwnA.rd (h:OwnA w B v A):RdA w v A:=by
 rcases h.2 with ⟨e,h0⟩ | ⟨g,cap,cur,e,hb,hg,h1,h2,h3,h4⟩
 ·have hA:A=[]:=List.eq_nil_of_length_eq_zero h0;subst hA;rw [e];exact RdA.nil w
 ·rw [e];refine RdA.at0 λj u hu=>?_
  have hl:=zq8 A;have hj:j<A.length * 5:=by
   rw [<-hl];rcases Nat.lt_or_ge j (zq0 A).length with q | q
   ·exact q
   ·rw [List.getElem?_eq_none q] at hu;cases hu
  rw [<-h4,List.getElem?_take_of_lt (by omega)] at hu;unfold World.cell?;simp only [hg];simpa using hu
theorem zq18:(prog.info? 49).map (λi=>(i.zero,i.size,i.bytes))=some (some (.agg #[.int .i64 0,.int .i64 0,.int .i64 0,.int .i64 0,.int .i64 0]),5,40):=by kernel_rfl
theorem zq2 {ops:Array Oper} {rest:List Oper} {o:Oper} {a:Act} {Q:Exit->Act->World->Prop} (hgd:o.guard=none) (s x:Operand) (ho:o.op=.call {callee:=.builtin .append,args:=#[s,x],argTypes:=#[30,30]})
  (w:World) (B:Nat) (hB:B<=w.heap.size) (v:Value) (A:List Wpl.Ar) (hs:a.eval s=v) (hown:OwnA w B v A) (g n:Nat) (L:List Wpl.Ar) (hn:n=L.length) (hx:a.eval x=.slice (some ⟨g,0,none⟩) n n) (hat:AtL w g (zq0 L)) (hl:A.length+L.length<=4000000)
  (h:∀ v' w',OwnA w' B v' (A++L)->w.grownBy w' v.ownBlock->wpList prog ops Q rest (a.put o.dst v') w'):wpList prog ops Q (o::rest) a w:=by
 subst hn;obtain ⟨i0,hi0,hz0,hz1,hz2⟩:=info_parts zq18;refine wpList_plain hgd λK hK=>?_
 refine wp_append_own _ s x 30 ho B 49 i0 _ 5 40 underlying30 hi0 hz0 hz1 hz2 rfl (by decide) v A.length (zq0 A) hs hown ⟨g,0,none⟩ L.length L.length (zq0 L) hx (zq8 L) (λj u hj=>?_) (zq9 L) (by unfold maxLen;omega) (by omega) hB ?_
 ·have:=hat.2.1 j u hj;rw [show (⟨g,0,none⟩:Addr).add j=⟨g,j,none⟩ from by
   simp [Addr.add];try (intro h0;omega)]
  exact this
 ·intro v' w' own hg _;refine hK _ _ (h v' w' ?_ hg);unfold OwnA;rw [List.length_append,zq11];exact own
theorem zq64 (x:Wpl.Ar) (w:World):(binOp .neq 49 (.agg #[.int .i64 x.s,.int .i64 x.t,.int .i64 x.l,.int .i64 x.b,.int .i64 x.r]) (.agg #[.int .i64 x.s,.int .i64 x.t,.int .i64 x.l,.int .i64 x.b,.int .i64 x.r])).run prog w=.ok (.bool false) w:=by
 simp [go_sem]
theorem zq37 (A:List Wpl.Ar) (v1 v2:Value) (w:World) (h1:RdA w v1 A) (h2:RdA w v2 A) (hl:A.length<=2000000):CR 14 #[v1,v2] w (.bool true):=by
 obtain ⟨a1,c1,rfl,r1⟩:=h1;obtain ⟨a2,c2,rfl,r2⟩:=h2;have H1:Hid (∀ i (h:i<A.length),∃ bb off,a1=some ⟨bb,off,none⟩/\w.rangeAt bb (off+i * 5) (zq1 (A[i]))):=r1;have H2:Hid (∀ i (h:i<A.length),∃ bb off,a2=some ⟨bb,off,none⟩/\w.rangeAt bb (off+i * 5) (zq1 (A[i]))):=r2;obtain ⟨n,hn⟩:∃ n,A.length=n:=⟨_,rfl⟩
 have HA:Hid (A.length=n):=hn;have HL:Hid (n<=2000000):=by rw [<-hn];exact hl
 rw [hn];have hnn:((n:Int) != (n:Int))=false:=by simp
 clear r1 r2 hn hl;go_enter func14,ntmps14;go_wp2_with fail
 go_loopg [5] n (λgk u wr=>∃ i:Nat,u=.int .i64 i/\gk=n - i/\i<=n/\Hid (Below w.heap.size w wr))
 case atStart=>exact ⟨0,rfl,rfl,Nat.zero_le _,Below.refl _ _⟩
 case round =>
  obtain ⟨i,rfl,hg,hi,HB⟩:=hrel;by_cases hlt:i<n
  ·have hli:(i:Int)<(n:Int):=by omega
   have hiz:(0:Int)<=(i:Int):=by omega
   have hwi:IntKind.i64.wrap ((i:Int)+1)=(i:Int)+1:=by rw [IntKind.wrap_i64];have:=HL.out;omega
   obtain ⟨b1,o1,rfl,q1⟩:=H1.out i (by rw [HA.out];exact hlt);obtain ⟨b2,o2,rfl,q2⟩:=H2.out i (by rw [HA.out];exact hlt);obtain ⟨y,hy⟩:∃ y,A[i]'(by rw [HA.out];exact hlt)=y:=⟨_,rfl⟩
   rw [hy] at q1 q2;clear hy;go_upto_region 6 with fail
   have rb:=(Below.refl wr.heap.size wr).drew;have HB2:Hid (Below w.heap.size w wr.drew):=zAB HB.out rb;have sp:=zAK HB2.out q1;have sq:=zAK HB2.out q2;have hne:=λW=>zq64 y W
   have p0:wr.drew.cell? ⟨b1,o1+i * 5,none⟩=some (.int .i64 y.s):=by have:=sp 0 _ rfl;simpa using this
   have p1:=sp 1 _ rfl;have p2:=sp 2 _ rfl;have p3:=sp 3 _ rfl;have p4:=sp 4 _ rfl;have q0:wr.drew.cell? ⟨b2,o2+i * 5,none⟩=some (.int .i64 y.s):=by have:=sq 0 _ rfl;simpa using this
   have q1:=sq 1 _ rfl;have q2:=sq 2 _ rfl;have q3:=sq 3 _ rfl;have q4:=sq 4 _ rfl;clear rb sp sq HB;refine wp_region_held_drew (S:=λW=>(W.cell? ⟨b1,o1+i * 5,none⟩=some (.int .i64 y.s)/\W.cell? ⟨b1,o1+i * 5+1,none⟩=some (.int .i64 y.t)/\W.cell? ⟨b1,o1+i * 5+2,none⟩=some (.int .i64 y.l)/\W.cell? ⟨b1,o1+i * 5+3,none⟩=some (.int .i64 y.b)/\W.cell? ⟨b1,o1+i * 5+4,none⟩=some (.int .i64 y.r))/\W.cell? ⟨b2,o2+i * 5,none⟩=some (.int .i64 y.s)/\W.cell? ⟨b2,o2+i * 5+1,none⟩=some (.int .i64 y.t)/\W.cell? ⟨b2,o2+i * 5+2,none⟩=some (.int .i64 y.l)/\W.cell? ⟨b2,o2+i * 5+3,none⟩=some (.int .i64 y.b)/\W.cell? ⟨b2,o2+i * 5+4,none⟩=some (.int .i64 y.r)) (by kernel_rfl) ⟨⟨p0,p1,p2,p3,p4⟩,q0,q1,q2,q3,q4⟩ (λhHeld=>?_);generalize wr.drew=WD at *;refine tkQ 0 ⟨some 17,.move (.tmp 0),30,"law.go:52",#[],none⟩ ?_
   refine tkQ 1 ⟨some 18,.move (.tmp 5),3,"law.go:52",#[],none⟩ ?_
   refine tkQ 2 ⟨some 19,.indexAddr 30 (.tmp 17) (.tmp 18),0,"law.go:52",#[⟨0,.data⟩,⟨1,.data⟩],none⟩ ?_
   refine tkQ 3 ⟨some 20,.load 49 (.tmp 19),49,"law.go:52",#[⟨2,.data⟩],none⟩ ?_
   refine tkQ 4 ⟨some 21,.move (.tmp 1),30,"law.go:52",#[],none⟩ ?_
   refine tkQ 5 ⟨some 22,.move (.tmp 5),3,"law.go:52",#[],none⟩ ?_
   refine tkQ 6 ⟨some 23,.indexAddr 30 (.tmp 21) (.tmp 22),0,"law.go:52",#[⟨4,.data⟩,⟨5,.data⟩],none⟩ ?_
   refine tkQ 7 ⟨some 24,.load 49 (.tmp 23),49,"law.go:52",#[⟨6,.data⟩],none⟩ ?_
   refine tkQ 8 ⟨some 25,.binOp BinOp.neq 49 (.tmp 20) (.tmp 24) 49,4,"law.go:52",#[⟨3,.data⟩,⟨7,.data⟩],none⟩ ?_
   refine wpAnyH_done (by kernel_rfl) ?_ _;clear hHeld hne p0 p1 p2 p3 p4 q0 q1 q2 q3 q4;go_wp2_with fail
   go_roundg (n - (i+1))
   case rel=>exact ⟨i+1,by simp,rfl,by omega,HB2⟩
   case measure=>omega
  ·have hli:¬ ((i:Int)<(n:Int)):=by omega
   go_wp2;go_ret;exact ⟨rfl,HB.out⟩
def RdP (A:List Wpl.Ar) (w:World) (e:Ending) (w':World):Prop:=∃ r,e=.returned r/\RdA w' r A/\(∀ g,r.ownBlock=some g->w.heap.size<=g)
theorem RdP.one {W:World} {x:Wpl.Ar} (hw:w.heap.size<=W.heap.size):RdP [x] w (.returned (.slice (some ⟨W.heap.size,0,none⟩) 1 1)) (W.alloc (.cells (zq1 x).toArray 49)) :=
 ⟨_,rfl,RdA.at0 (A:=[x]) (λj u hu=>(AtL.new0 W 49 (zq1 x)).2.1 j u (by simpa [zq0] using hu)),λg e=>by
  have e2:W.heap.size=g:=by simpa [Value.ownBlock] using e
  omega⟩
theorem zq47 (x:Wc.In) (tv:Value) (w:World):Calls prog 21 #[.agg (zAD x tv).toArray] w λe w'=>RdP (rdA x) w e w'/\Below w.heap.size w w':=by
 have ON:=zEZ x.ce.s x.ce.r x.ce.c;have HON:Hid (∀ w:World,CR 44 #[.agg #[.int .i64 x.ce.s,.int .i64 x.ce.r,.int .i64 x.ce.c]] w (.tuple #[.agg #[.int .i64 (zIN x.ce.s x.ce.r x.ce.c).s,.int .i64 (zIN x.ce.s x.ce.r x.ce.c).t,.int .i64 (zIN x.ce.s x.ce.r x.ce.c).l,.int .i64 (zIN x.ce.s x.ce.r x.ce.c).b,.int .i64 (zIN x.ce.s x.ce.r x.ce.c).r],.bool (Wpl.rightC x.ce.s x.ce.r x.ce.c)])):=ON;clear ON;have hb:=zAJ (Below.refl _ w) (.cells (zAD x tv).toArray 52);have p:=AtL.new0 w 52 (zAD x tv);have c0:=p.2.1 0 _ rfl;obtain ⟨q,hq⟩:∃ q,rdA x=q:=⟨_,rfl⟩
 have HQ:Hid (rdA x=q):=hq;rw [hq];clear hq;go_enter func21,ntmps21;go_upto_region 1 with fail
 generalize (w.alloc (.cells (zAD x tv).toArray 52))=W at *;have HSW:Hid (w.heap.size<=W.heap.size):=hb.size;by_cases h2:x.op=2
 ·have h2b:(x.op == 2)=true:=by simp [h2]
  have HR:Hid (q=[zIN x.ce.s x.ce.r x.ce.c]):=by show _=_;rw [<-HQ.out];simp [rdA,h2]
  have c9:=p.2.1 9 _ rfl;have c10:=p.2.1 10 _ rfl;have c11:=p.2.1 11 _ rfl;have ON:=HON.out W;generalize zIN x.ce.s x.ce.r x.ce.c=V at *;clear p h2 HON HQ;go_wp2_with fail
  refine ON.mono ?_;rintro e w1 ⟨rfl,hb1⟩;have hB1:=zAB hb hb1;have hb2:=zAJ (Below.refl _ w1) (.cells (zq1 V).toArray 49);have p2:=AtL.new0 w1 49 (zq1 V);have q0:=p2.2.1 0 _ rfl;have q1:=p2.2.1 1 _ rfl;have q2:=p2.2.1 2 _ rfl;have q3:=p2.2.1 3 _ rfl;have q4:=p2.2.1 4 _ rfl;have hB2:=zAB hB1 hb2;clear p2 hb2 ON hb hb1 c0 c9 c10 c11;go_upto_region 4 with fail
  generalize (w1.alloc (.cells (zq1 V).toArray 49))=W2 at *;have HB3:Hid (Below w.heap.size w (W2.alloc (.cells (zq1 V).toArray 49))):=zAJ hB2 _;have HP3:Hid (RdP [V] w (.returned (.slice (some ⟨W2.heap.size,0,none⟩) 1 1)) (W2.alloc (.cells (zq1 V).toArray 49))):=RdP.one hB2.size;clear hB2 hB1;go_wp2;go_ret;exact ⟨by rw [HR.out];exact HP3.out,HB3.out⟩
 ·have h2b:(x.op == 2)=false:=by simp [h2]
  by_cases h8:x.op=8 \/ x.op=11
  ·have HR:Hid (q=[x.ar]):=by show _=_;rw [<-HQ.out];simp [rdA,h2,h8]
   have q0:=p.2.1 12 _ rfl;have q1:=p.2.1 13 _ rfl;have q2:=p.2.1 14 _ rfl;have q3:=p.2.1 15 _ rfl;have q4:=p.2.1 16 _ rfl;have HB3:Hid (Below w.heap.size w (W.alloc (.cells (zq1 x.ar).toArray 49))):=zAJ hb _;have HP3:Hid (RdP [x.ar] w (.returned (.slice (some ⟨W.heap.size,0,none⟩) 1 1)) (W.alloc (.cells (zq1 x.ar).toArray 49))):=RdP.one HSW.out;have hc:((x.op == 8)=true) \/ ((x.op == 8)=false/\(x.op == 11)=true):=by
    rcases h8 with h | h
    ·left;simp [h]
    ·right;simp [h]
   clear p h8 h2 HON HQ;rcases hc with e8 | ⟨e8,e11⟩
   ·go_wp2;go_ret;exact ⟨by rw [HR.out];exact HP3.out,HB3.out⟩
   ·go_wp2;go_ret;exact ⟨by rw [HR.out];exact HP3.out,HB3.out⟩
  ·have e8:(x.op == 8)=false:=by simp;omega
   have e11:(x.op == 11)=false:=by simp;omega
   by_cases h9:x.op=9
   ·have HR:Hid (q=[x.ar,x.pr]):=by show _=_;rw [<-HQ.out];simp [rdA,h9]
    have e9:(x.op == 9)=true:=by simp [h9]
    have q0:=p.2.1 12 _ rfl;have q1:=p.2.1 13 _ rfl;have q2:=p.2.1 14 _ rfl;have q3:=p.2.1 15 _ rfl;have q4:=p.2.1 16 _ rfl;have r0:=p.2.1 17 _ rfl;have r1:=p.2.1 18 _ rfl;have r2:=p.2.1 19 _ rfl;have r3:=p.2.1 20 _ rfl;have r4:=p.2.1 21 _ rfl;have HB3:Hid (Below w.heap.size w (W.alloc (.cells (zq1 x.ar++zq1 x.pr).toArray 49))):=zAJ hb _;have HP3:Hid (RdP [x.ar,x.pr] w (.returned (.slice (some ⟨W.heap.size,0,none⟩) 2 2)) (W.alloc (.cells (zq1 x.ar++zq1 x.pr).toArray 49))) :=
     ⟨_,rfl,RdA.at0 (A:=[x.ar,x.pr]) (λj u hu=>(AtL.new0 W 49 (zq1 x.ar++zq1 x.pr)).2.1 j u (by simpa [zq0] using hu)),λg e=>by
      have e2:W.heap.size=g:=by simpa [Value.ownBlock] using e
      have:=HSW.out;omega⟩
    clear p h8 h2 h9 HON HQ;go_wp2;go_ret;exact ⟨by rw [HR.out];exact HP3.out,HB3.out⟩
   ·have HR:Hid (q=[]):=by show _=_;rw [<-HQ.out];simp [rdA,h2,h8,h9]
    have e9:(x.op == 9)=false:=by simp [h9]
    clear p h8 h2 h9 HON HQ;go_wp2;go_ret;exact ⟨by rw [HR.out];exact ⟨_,rfl,RdA.nil _,λg e=>by cases e⟩,hb⟩
def usA (L:List (Wc.In × List Int)):List Wpl.Ar:=if Wc.chkP rgt L=true then ddA [] (zq3 L) else []
theorem zq77 (L:List (Wc.In × List Int)) (v:Value) (w:World) (h:RdC w v L) (hl:L.length<=1000000) (ht:∀ x ∈ L,x.2.length<=1000000/\Wt.FitV x.1.v) (hN:NmAt w) :
  Calls prog 11 #[v] w λe w'=>(∃ r B,e=.returned r/\OwnA w' B r (usA L)/\w.heap.size<=B)/\Below w.heap.size w w':=by
 have CK:=zB5 L v w h hl ht hN;obtain ⟨a1,c1,rfl,r1⟩:=h;have HR:Hid (RdC w (.slice a1 L.length c1) L):=⟨a1,c1,rfl,r1⟩
 obtain ⟨n,hn⟩:∃ n,L.length=n:=⟨_,rfl⟩
 have HL:Hid (L.length=n):=hn;have HN:Hid (n<=1000000):=by show n<=_;omega
 rw [hn] at CK ⊢;have hmk:∀ w:World,(Instr.makeMap 59 none).run prog w=.ok (.map (some w.heap.size)) (w.alloc (.map #[] 0)):=λw=>by kernel_rfl
 obtain ⟨qc,hqc⟩:∃ b,Wc.chkP rgt L=b:=⟨_,rfl⟩
 have HU:Hid (usA L=if qc=true then ddA [] (zq3 L) else []):=by show _=_;rw [<-hqc];rfl
 rw [hqc] at CK;obtain ⟨us,hus⟩:∃ u,usA L=u:=⟨_,rfl⟩
 rw [hus] at HU ⊢;clear hqc hus r1 hl ht hN hn;cases qc with
 | false =>
  have HE:Hid (us=[]):=HU;go_enter func11,ntmps11;go_wp2_with fail
  refine CK.mono ?_;rintro e w1 ⟨rfl,hb1⟩;go_wp2;go_ret;exact ⟨by rw [HE.out];exact ⟨_,_,rfl,OwnA.nil _ w.heap.size,Nat.le_refl _⟩,hb1⟩
 | true =>
  have HE:Hid (us=ddA [] (zq3 L)):=HU;clear HU;go_enter func11,ntmps11;go_wp2_with fail
  refine CK.mono ?_;rintro e w1 ⟨rfl,hb1⟩;go_upto_region 5 with fail
  have hbm:=zAJ (Below.refl _ w1) (.map #[] 0);have HB2:Hid (Below w.heap.size w (w1.alloc (.map #[] 0))):=zAB hb1 hbm;have HM2:Hid (AM (w1.alloc (.map #[] 0)) w1.heap.size []):=⟨#[],zAo _ _ _ rfl,rfl⟩
  have HMW:Hid (w.heap.size<=w1.heap.size):=hb1.size;have HBS:Hid (w1.heap.size<(w1.alloc (.map #[] 0)).heap.size):=zG8 _ _;clear CK hbm hb1 hmk;generalize (w1.alloc (.map #[] 0))=w2 at *;obtain ⟨mb,hmb⟩:∃ k,w1.heap.size=k:=⟨_,rfl⟩
  rw [hmb] at HM2 HMW HBS;simp only [hmb];clear hmb;have HO2:Hid (OwnA w2 w2.heap.size (.slice none 0 0) (ddA [] (zq3 (L.take 0)))):=by show OwnA _ _ _ _;rw [List.take_zero];exact OwnA.nil _ _
  have HM20:Hid (AM w2 mb (ddA [] (zq3 (L.take 0)))):=by show AM _ _ _;rw [List.take_zero];exact HM2.out
  obtain ⟨B,hBB⟩:∃ b,w2.heap.size=b:=⟨_,rfl⟩
  rw [hBB] at HO2 HBS;have HBW:Hid (B<=w2.heap.size/\w.heap.size<=B/\mb<B):=⟨by omega,by have:=HB2.out.size;omega,HBS.out⟩
  clear HM2 hBB HBS;go_wp2_with fail
  go_loopg [3,17] n (λgk u3 u17 wr=>∃ (i:Nat) (lv:Value),lv=u3/\u17=.int .i64 i/\gk=n - i/\i<=n/\Hid (Below w.heap.size w wr)/\Hid (OwnA wr B lv (ddA [] (zq3 (L.take i))))/\Hid (AM wr mb (ddA [] (zq3 (L.take i))))/\Hid (B<=wr.heap.size))
  case atStart=>exact ⟨0,_,rfl,rfl,rfl,Nat.zero_le _,HB2,HO2,HM20,HBW.out.1⟩
  case round =>
   clear HB2 HO2 HM20;obtain ⟨i,lv,rfl,rfl,hg,hi,HB,HO,HM,HBH⟩:=hrel;by_cases hlt:i<n
   ·have hli:(i:Int)<(n:Int):=by omega
    have hiz:(0:Int)<=(i:Int):=by omega
    have hwi:IntKind.i64.wrap ((i:Int)+1)=(i:Int)+1:=by rw [IntKind.wrap_i64];have:=HN.out;omega
    have hil:i<L.length:=by rw [HL.out];exact hlt
    have H0:=HR.out.below HB.out;obtain ⟨q1,d1,e1,f1⟩:=H0;simp only [Value.slice.injEq] at e1;obtain ⟨ex1,ex2,ex3⟩:=e1;obtain ⟨bb,off,p,mm,kk,ee,t1,_,_⟩:=f1 i hil;rw [ee] at ex1;subst ex1;obtain ⟨y,tl,hyt⟩:∃ y tl,L[i]=(y,tl):=⟨_,_,rfl⟩
    rw [hyt] at t1;have HTK:Hid (zq3 (L.take (i+1))=zq3 (L.take i)++rdA y):=by show _=_;rw [zq19 hil,hyt]
    have HCL:Hid ((ddA [] (zq3 (L.take i))).length<=2000000):=by show _<=_;have h1:=zq10 (zq3 (L.take i)) [];have h2:=zq7 (L.take i);have:=HN.out;have:=HL.out;simp at h1 h2;omega
    obtain ⟨cur,hcur⟩:∃ c,(ddA [] (zq3 (L.take i)))=c:=⟨_,rfl⟩
    have HCU:Hid ((ddA [] (zq3 (L.take i)))=cur):=hcur;rw [hcur] at HO HM HCL;have hth:World.there (wr.alloc (.cells zeros23 52)) wr.heap.size 0 (zAD y (.slice p mm kk)).toArray.size:=(AtL.new0 wr _ _:AtL (wr.alloc (.cells zeros23 52)) wr.heap.size zeros23.toList).there;clear f1 hyt ee ex2 ex3 hcur;go_upto_region 8 with (first | (refine zAA (by rfl) 52 (.tmp 19) rfl bb (off+i * 23) rfl (zAD y (.slice p mm kk)) _ t1 underlying52 rfl (by kernel_rfl) ?_) | ((with_reducible refine wpList_store_mid ?_ 52 (.tmp 6) (.tmp 20) ?_ wr.heap.size 0 (zAD y (.slice p mm kk)).toArray ?_ ?_ ?_ ?_ ?_ ?_);rfl;rfl;rfl;rfl;exact hth;kernel_rfl;exact zAT _ _ _ _))
    have pI:AtL ((wr.alloc (.cells zeros23 52)).setCells wr.heap.size 0 (zAD y (.slice p mm kk))) wr.heap.size (zAD y (.slice p mm kk)):=(AtL.new0 wr _ _:AtL (wr.alloc (.cells zeros23 52)) wr.heap.size zeros23.toList).setAll rfl;have hbI:Below wr.heap.size wr ((wr.alloc (.cells zeros23 52)).setCells wr.heap.size 0 (zAD y (.slice p mm kk))):=zA8 (zAJ (Below.refl _ wr) _) (Nat.le_refl _) _ 0;have HB3:Hid (Below w.heap.size w ((wr.alloc (.cells zeros23 52)).setCells wr.heap.size 0 (zAD y (.slice p mm kk)))):=zAB HB.out hbI;have HM3:Hid (AM ((wr.alloc (.cells zeros23 52)).setCells wr.heap.size 0 (zAD y (.slice p mm kk))) mb cur):=HM.out.below hbI;have HO3:Hid (OwnA ((wr.alloc (.cells zeros23 52)).setCells wr.heap.size 0 (zAD y (.slice p mm kk))) B lv cur):=HO.out.below hbI;have HS3:Hid (B<=((wr.alloc (.cells zeros23 52)).setCells wr.heap.size 0 (zAD y (.slice p mm kk))).heap.size):=Nat.le_trans HBH.out hbI.size;clear hth t1 hbI HM HB HO HBH;generalize ((wr.alloc (.cells zeros23 52)).setCells wr.heap.size 0 (zAD y (.slice p mm kk)))=w3 at *;obtain ⟨X,hX⟩:∃ k,wr.heap.size=k:=⟨_,rfl⟩
    rw [hX] at pI;simp only [hX];clear hX;have rI:=pI.range;have RL:=zq47 y (.slice p mm kk) w3;go_wp2_with (first | (refine zAA (by rfl) 52 (.tmp 6) rfl X 0 rfl (zAD y (.slice p mm kk)) _ rI underlying52 rfl (by kernel_rfl) ?_))
    refine RL.mono ?_;rintro e w4 ⟨⟨r,rfl,hr,hgr⟩,hb4⟩;have HB4:Hid (Below w.heap.size w w4):=zAB HB3.out hb4;have HM4:Hid (AM w4 mb cur):=HM3.out.below hb4;have HO4:Hid (OwnA w4 B lv cur):=HO3.out.below hb4;have HS4:Hid (B<=w4.heap.size):=Nat.le_trans HS3.out hb4.size;have HSP:Hid (∀ g k,r.ownBlock=some g->lv.ownBlock=some k->k ≠ g):=λg k e1 e2=>by have:=hgr g e1;have:=(HO3.out.blk e2).2;omega
    have HMG:Hid (∀ g,r.ownBlock=some g->mb ≠ g):=λg e=>by have:=hgr g e;have:=HM3.out.lt;omega
    obtain ⟨A,hA⟩:∃ A,rdA y=A:=⟨_,rfl⟩
    have HA2:Hid (A.length<=2):=by show _<=_;rw [<-hA];exact zq52 y
    rw [hA] at hr HTK;obtain ⟨m,hm⟩:∃ m,A.length=m:=⟨_,rfl⟩
    have HAM:Hid (A.length=m):=hm;have HRA0:Hid (RdA w4 r A):=hr;obtain ⟨ar,cr,er,_⟩:=hr;rw [hm] at er;subst er;have HRA:Hid (RdA w4 (.slice ar m cr) A):=HRA0.out;have HDD:Hid (ddA cur (A.drop 0)=ddA cur A):=rfl;clear RL rI pI hb4 HB3 HM3 HO3 HS3 HRA0 hA hm hgr;go_wp2_with fail
    go_loopg [3,24] m (λgk u3 u24 wr=>∃ (j:Nat) (lw:Value) (cj:List Wpl.Ar),lw=u3/\u24=.int .i64 j/\gk=m - j/\j<=m/\Hid (Below w.heap.size w wr)/\Hid (OwnA wr B lw cj)/\Hid (AM wr mb cj)/\Hid (B<=wr.heap.size)/\Hid (ddA cj (A.drop j)=ddA cur A)/\Hid (cj.length<=2000000+j)/\Hid (j<m->RdA wr (.slice ar m cr) A/\(j=0->∀ g k,(Value.slice ar m cr).ownBlock=some g->lw.ownBlock=some k->k ≠ g)))
    case atStart=>exact ⟨0,_,cur,rfl,rfl,rfl,Nat.zero_le _,HB4,HO4,HM4,HS4,HDD,HCL,(λ_=>⟨HRA.out,λ_=>HSP.out⟩:0<m->RdA w4 (.slice ar m cr) A/\(0=0->∀ g k,(Value.slice ar m cr).ownBlock=some g->lv.ownBlock=some k->k ≠ g))⟩
    case round =>
     clear HB4 HO4 HM4 HS4 HDD HCL HRA HSP;obtain ⟨j,lw,cj,rfl,rfl,hgj,hj,HB5,HO5,HM5,HS5,HDJ,HCJ,HRJ⟩:=hrel;by_cases hjl:j<m
     ·have hjm:(j:Int)<(m:Int):=by omega
      have hjz:(0:Int)<=(j:Int):=by omega
      have hwj:IntKind.i64.wrap ((j:Int)+1)=(j:Int)+1:=by rw [IntKind.wrap_i64];have:=HA2.out;have:=HAM.out;omega
      have hjA:j<A.length:=by rw [HAM.out];exact hjl
      obtain ⟨hrd,hsep⟩:=HRJ.out hjl;obtain ⟨z,hz⟩:∃ z,A[j]=z:=⟨_,rfl⟩
      have cJ0:∃ bq oq,ar=some ⟨bq,oq,none⟩/\wr.rangeAt bq (oq+j * 5) (zq1 z):=by
       obtain ⟨x1,x2,x3,x4⟩:=hrd;obtain ⟨x5,x6,x7,x8⟩:=x4 j hjA;simp only [Value.slice.injEq] at x3;rw [hz] at x8;exact ⟨x5,x6,by rw [x3.1];exact x7,x8⟩
      have HRD:Hid (RdA wr (.slice ar m cr) A):=hrd;have HSE:Hid (j=0->∀ g k,(Value.slice ar m cr).ownBlock=some g->lw.ownBlock=some k->k ≠ g):=hsep;obtain ⟨bq,oq,rfl,cJ⟩:=cJ0;have HDC:Hid (A.drop j=z::A.drop (j+1)):=by show _=_;rw [List.drop_eq_getElem_cons hjA,hz]
      rw [HDC.out] at HDJ;clear hz hjA hrd hsep HRJ;have q0:wr.cell? ⟨bq,oq+j * 5,none⟩=some (.int .i64 z.s):=by have:=cJ 0 _ rfl;simpa using this
      have q1:=cJ 1 _ rfl;have q2:=cJ 2 _ rfl;have q3:=cJ 3 _ rfl;have q4:=cJ 4 _ rfl;have hb6:=zAJ (Below.refl _ wr) (.cells (zq1 z).toArray 49);have p6:=AtL.new0 wr 49 (zq1 z);have HB6:Hid (Below w.heap.size w (wr.alloc (.cells (zq1 z).toArray 49))):=zAB HB5.out hb6;have hm6:AM (wr.alloc (.cells (zq1 z).toArray 49)) mb cj:=HM5.out.below hb6;have HO6:Hid (OwnA (wr.alloc (.cells (zq1 z).toArray 49)) B lw cj):=HO5.out.below hb6;have HS6:Hid (B<=(wr.alloc (.cells (zq1 z).toArray 49)).heap.size):=Nat.le_trans HS5.out hb6.size;have HR6:Hid (RdA (wr.alloc (.cells (zq1 z).toArray 49)) (.slice (some ⟨bq,oq,none⟩) m cr) A):=HRD.out.below hb6;have HAB:Hid (mb<wr.heap.size/\∀ k,lw.ownBlock=some k->k<wr.heap.size):=⟨HM5.out.lt,λk e=>(HO5.out.blk e).2⟩
      clear hb6 cJ HB5 HM5 HO5 HS5 HRD;go_upto_region 11 with fail
      generalize (wr.alloc (.cells (zq1 z).toArray 49))=w6 at *;obtain ⟨AB,hAB⟩:∃ k,wr.heap.size=k:=⟨_,rfl⟩
      rw [hAB] at p6 HAB;simp only [hAB];clear hAB q0 q1 q2 q3 q4;have q0:=p6.2.1 0 _ rfl;have q1:=p6.2.1 1 _ rfl;have q2:=p6.2.1 2 _ rfl;have q3:=p6.2.1 3 _ rfl;have q4:=p6.2.1 4 _ rfl;have hlk:=lookA hm6 z;obtain ⟨qa,hqa⟩:∃ b,cj.any (λy=>zEe y z)=b:=⟨_,rfl⟩
      have HQA:Hid (cj.any (λy=>zEe y z)=qa):=hqa;rw [hqa] at hlk;clear hqa;go_upto_region 12 with fail
      have hb7:=zAJ (Below.refl _ w6) (.cells #[] 61);have p7:=AtL.below hb7 p6;have HB7:Hid (Below w.heap.size w (w6.alloc (.cells #[] 61))):=zAB HB6.out hb7;have HM7:Hid (AM (w6.alloc (.cells #[] 61)) mb cj):=hm6.below hb7;have HO7:Hid (OwnA (w6.alloc (.cells #[] 61)) B lw cj):=HO6.out.below hb7;have HS7:Hid (B<=(w6.alloc (.cells #[] 61)).heap.size):=Nat.le_trans HS6.out hb7.size;have HR7:Hid (RdA (w6.alloc (.cells #[] 61)) (.slice (some ⟨bq,oq,none⟩) m cr) A):=HR6.out.below hb7;clear hlk q0 q1 q2 q3 q4 hb7 p6 hm6 HB6 HO6 HS6 HR6;generalize (w6.alloc (.cells #[] 61))=w7 at *;cases qa with
      | true =>
       have HD9:Hid (ddA cj (A.drop (j+1))=ddA cur A):=by show _=_;rw [<-HDJ.out];simp only [ddA,HQA.out,if_true]
       have HC9:Hid (cj.length<=2000000+(j+1)):=by show _<=_;have:=HCJ.out;omega
       have HR9:Hid (j+1<m->RdA w7 (.slice (some ⟨bq,oq,none⟩) m cr) A/\(j+1=0->∀ g k,(Value.slice (some ⟨bq,oq,none⟩) m cr).ownBlock=some g->lw.ownBlock=some k->k ≠ g)):=λ_=>⟨HR7.out,λh=>by omega⟩
       clear HDJ HCJ HR7 p7;go_wp2_with fail
       go_roundg (m - (j+1))
       case rel=>exact ⟨j+1,lw,cj,rfl,by simp,rfl,hjl,HB7,HO7,HM7,HS7,HD9,HC9,HR9⟩
       case measure=>omega
      | false =>
       have q0:=p7.2.1 0 _ rfl;have q1:=p7.2.1 1 _ rfl;have q2:=p7.2.1 2 _ rfl;have q3:=p7.2.1 3 _ rfl;have q4:=p7.2.1 4 _ rfl;go_upto_region 13 with fail
       go_upto_region 14 with (first | (refine zq15 rfl (.tmp 35) (.tmp 36) (.tmp 37) rfl mb rfl z rfl rfl cj HM7.out HQA.out ?_;intro w8 am8 hg8))
       have fr8:Fr [mb] w7 w8:=Fr.of_grown hg8 (λk e=>by cases e;simp);have p8:=p7.fr fr8 (by have:=HAB.out;simp;omega);have HB8:Hid (Below w.heap.size w w8):=zAN HB7.out fr8 (λk hk=>by have:=HMW.out;simp at hk;omega);have HO8:Hid (OwnA w8 B lw cj):=zAl fr8 HO7.out (λg e=>by have:=(HO7.out.blk e).1;have:=HBW.out;simp;omega);have HS8:Hid (B<=w8.heap.size):=Nat.le_trans HS7.out fr8.size;have HM8:Hid (AM w8 mb (cj++[z])):=am8;have HR8:Hid (RdA w8 (.slice (some ⟨bq,oq,none⟩) m cr) A):=by
        obtain ⟨x1,x2,x3,x4⟩:=HR7.out;refine ⟨x1,x2,x3,λi hi=>?_⟩;obtain ⟨x5,x6,x7,x8⟩:=x4 i hi;refine ⟨x5,x6,x7,fr8.range x8 ?_⟩;simp only [Value.slice.injEq] at x3;have:=HMG.out x5 (by rw [x3.1,x7];rfl);simp;omega
       clear q0 q1 q2 q3 q4 p7 HM7 HB7 HO7 HS7 HR7 fr8 hg8 am8;have q0:=p8.2.1 0 _ rfl;have q1:=p8.2.1 1 _ rfl;have q2:=p8.2.1 2 _ rfl;have q3:=p8.2.1 3 _ rfl;have q4:=p8.2.1 4 _ rfl;have hb9:=zAJ (Below.refl _ w8) (.cells (zq1 z).toArray 49);have HPA:Hid (AtL (w8.alloc (.cells (zq1 z).toArray 49)) w8.heap.size (zq0 [z])):=AtL.new0 w8 49 (zq0 [z]);have HB9:Hid (Below w.heap.size w (w8.alloc (.cells (zq1 z).toArray 49))):=zAB HB8.out hb9;have HO9:Hid (OwnA (w8.alloc (.cells (zq1 z).toArray 49)) B lw cj):=HO8.out.below hb9;have HM9:Hid (AM (w8.alloc (.cells (zq1 z).toArray 49)) mb (cj++[z])):=HM8.out.below hb9;have HS9:Hid (B<=(w8.alloc (.cells (zq1 z).toArray 49)).heap.size):=Nat.le_trans HS8.out hb9.size;have HR9:Hid (RdA (w8.alloc (.cells (zq1 z).toArray 49)) (.slice (some ⟨bq,oq,none⟩) m cr) A):=HR8.out.below hb9;clear p8 HB8 HO8 HM8 HS8 HR8 hb9;go_wp2_with (first | (refine zq2 rfl (.tmp 38) (.tmp 40) rfl (w8.alloc (.cells (zq1 z).toArray 49)) B HS9.out lw cj rfl HO9.out w8.heap.size 1 [z] rfl rfl HPA.out (by have:=HCJ.out;have:=HA2.out;have:=HAM.out;simp;omega) ?_;intro v9 w9 own9 hg9))
       have fr9:Fr lw.ownBlock.toList (w8.alloc (.cells (zq1 z).toArray 49)) w9:=Fr.of_grown hg9 (λk e=>by simp [e]);have HBZ:Hid (Below w.heap.size w w9):=zAN HB9.out fr9 (λk hk=>by have:=(HO9.out.blk (g:=k) (by simpa using hk)).1;have:=HBW.out;omega);have HMZ:Hid (AM w9 mb (cj++[z])):=HM9.out.fr fr9 (λe=>by have:=(HO9.out.blk (g:=mb) (by simpa using e)).1;have:=HBW.out;omega);have HOZ:Hid (OwnA w9 B v9 (cj++[z])):=own9;have HSZ:Hid (B<=w9.heap.size):=Nat.le_trans HS9.out fr9.size;have HDZ:Hid (ddA (cj++[z]) (A.drop (j+1))=ddA cur A):=by show _=_;rw [<-HDJ.out];simp [ddA,HQA.out]
       have HCZ:Hid ((cj++[z]).length<=2000000+(j+1)):=by show _<=_;have:=HCJ.out;simp;omega
       have HRZ:Hid (j+1<m->RdA w9 (.slice (some ⟨bq,oq,none⟩) m cr) A/\(j+1=0->∀ g k,(Value.slice (some ⟨bq,oq,none⟩) m cr).ownBlock=some g->v9.ownBlock=some k->k ≠ g)):=by
        intro hj1;have hj0:j=0:=by have:=HA2.out;have:=HAM.out;omega
        refine ⟨?_,λh=>by omega⟩;obtain ⟨x1,x2,x3,x4⟩:=HR9.out;refine ⟨x1,x2,x3,λi hi=>?_⟩;obtain ⟨x5,x6,x7,x8⟩:=x4 i hi;refine ⟨x5,x6,x7,fr9.range x8 (λe=>?_)⟩;simp only [Value.slice.injEq] at x3;exact HSE.out hj0 x5 x5 (by rw [x3.1,x7];rfl) (by simpa using e) rfl
       clear own9 hg9 fr9 q0 q1 q2 q3 q4 HPA HB9 HO9 HM9 HS9 HR9 HDJ HCJ HQA;go_roundg (m - (j+1))
       case rel=>exact ⟨j+1,v9,cj++[z],rfl,by simp,rfl,hjl,HBZ,HOZ,HMZ,HSZ,HDZ,HCZ,HRZ⟩
       case measure=>omega
     ·have hjm:¬ (j:Int)<(m:Int):=by omega
      have hje:j=m:=by omega
      have HCE:Hid (cj=ddA [] (zq3 (L.take (i+1)))):=by
       show _=_
       have e:A.drop j=[]:=List.drop_eq_nil_of_le (by rw [HAM.out];omega);have:=HDJ.out;rw [e] at this;rw [HTK.out,zq20,HCU.out,<-this];rfl
      rw [HCE.out] at HO5 HM5;clear HRJ HDJ HCJ hje;go_wp2_with fail
      go_roundg (n - (i+1))
      case rel=>exact ⟨i+1,lw,rfl,by simp,rfl,hlt,HB5,HO5,HM5,HS5⟩
      case measure=>omega
   ·have hli:¬ (i:Int)<(n:Int):=by omega
    have HTT:Hid (L.take i=L):=List.take_of_length_le (by rw [HL.out];omega);rw [HTT.out,<-HE.out] at HO;go_wp2;go_ret;exact ⟨⟨_,rfl,_,HO.out,HBW.out.2.1⟩,HB.out⟩
theorem zq72 (s r c:Int) (w:World) :
  CR 25 #[.agg #[.int .i64 s,.int .i64 r,.int .i64 c]] w (.tuple #[.agg #[.int .i64 (zIN s r c).s,.int .i64 (zIN s r c).t,.int .i64 (zIN s r c).l,.int .i64 (zIN s r c).b,.int .i64 (zIN s r c).r],.bool (Wpl.rightC s r c)]):=by
 have R:=λw=>zBy s r c w
 have E:Hid (zIN s r c=if Wpl.rightC s r c then ⟨s,r,c,r,c⟩ else ⟨0,0,0,0,0⟩):=(rfl:zIN s r c=_)
 generalize zIN s r c=V at *;generalize Wpl.rightC s r c=ok at *;go_enter func25,ntmps25;go_wp2_with fail
 refine (R _).mono ?_;rintro e w1 ⟨rfl,hb1⟩;have pA:AtL w1 w.heap.size [.int .i64 s,.int .i64 r,.int .i64 c]:=AtL.below hb1 ((AtL.new0 w _ _).alloc _);have pR:AtL w1 (w.heap.size+1) [.int .i64 0,.int .i64 0,.int .i64 0,.int .i64 0,.int .i64 0]:=AtL.below hb1 (AtL.new1 w _ _ _);have hB:Below w.heap.size w w1:=clA
 clear hb1;obtain ⟨a0,a1,a2⟩:=pA.f3;obtain ⟨r0,r1,r2,r3,r4,f0,f1,f2,f3,f4⟩:=pR.five;cases ok with
 | false =>
  go_wp2;refine bodyPost_ret (v:=.tuple #[.agg #[.int .i64 0,.int .i64 0,.int .i64 0,.int .i64 0,.int .i64 0],.bool false]) (by simp [results,results25,go_sem,r0,r1,r2,r3,r4]) rfl ⟨by rw [E.out];rfl,?_⟩;exact zBE hB (by omega) _ _ _ _ _
 | true =>
  go_wp2;refine bodyPost_ret (v:=.tuple #[.agg #[.int .i64 s,.int .i64 r,.int .i64 c,.int .i64 r,.int .i64 c],.bool true]) (by simp [results,results25,go_sem,r0,r1,r2,r3,r4]) rfl ⟨by rw [E.out];rfl,?_⟩;exact zBE hB (by omega) _ _ _ _ _
