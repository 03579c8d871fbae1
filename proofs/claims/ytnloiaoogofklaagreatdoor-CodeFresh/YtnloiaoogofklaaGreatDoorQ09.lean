/- KHtA, KHtB. -/
import Derived.Test.YtnloiaoogofklaaGreatDoorQ08
set_option maxHeartbeats 400000
set_option maxRecDepth 100000
namespace Go.Proofs.YtnloiaoogofklaaGreatDoor
open Tryz
open Go.RowKit
open Go.ChangeMaps (setBlock heap_setBlock_same heap_setBlock_other)
open Go.ChangeShapes Go.WideShapes Go.MapKept
set_option linter.unusedVariables false
variable {w w' w'':World} {S T:List Nat} {b:Nat} {F:List (Nat × Int)} {v:Value}
abbrev fr2 (x:Nat × Int):Value:=.agg #[.int .i64 x.1,.int .i64 x.2]
def zHG:Nat->List (Nat × Int)->List MapEntry
 | _,[]=>[]
 | i,x::r=>⟨fr2 x,.int .i64 ((i:Int)+1),i⟩::zHG (i+1) r
theorem zG4:∀ (F:List (Nat × Int)) (i:Nat) (x:Nat × Int),zHG i (F++[x])=zHG i F++[⟨fr2 x,.int .i64 (((i+F.length:Nat):Int)+1),i+F.length⟩]
 | [],i,x=>rfl
 | y::r,i,x=>by
  show _::zHG (i+1) (r++[x])=_::(zHG (i+1) r++_)
  rw [zG4 r (i+1) x];have e:i+1+r.length=i+(r.length+1):=by omega
  rw [e];rfl
def FM (w:World) (b:Nat) (F:List (Nat × Int)):Prop:=∃ es:Array MapEntry,w.heap[b]? = some (.map es F.length)/\es.toList=zHG 0 F
theorem FM.lt (h:FM w b F):b<w.heap.size:=by
 obtain ⟨es,h,_⟩:=h;rcases Nat.lt_or_ge b w.heap.size with g | g
 ·exact g
 ·rw [Array.getElem?_eq_none g] at h;cases h
theorem FM.below (h:FM w b F) (hb:Below w.heap.size w w'):FM w' b F:=by
 have hlt:=h.lt;obtain ⟨es,h1,h2⟩:=h;exact ⟨es,by rw [hb.block b hlt];exact h1,h2⟩
theorem zQg (em:Bool) (x y:Int) (w:World):(Instr.checkKey em 10000 177 (.agg #[.int .i64 x,.int .i64 y])).run prog w=.ok () w:=by kernel_rfl
theorem zM9 (x y x' y':Int) (w:World):(Op.equal 177 (.agg #[.int .i64 x,.int .i64 y]) (.agg #[.int .i64 x',.int .i64 y'])).run prog w=.ok ((x == x') && (y == y')) w:=by
 show (Op.equalIn (9998+2) 177 _ _).run _ _=_
 by_cases h1:x=x'
 ·by_cases h2:y=y'
  ·simp [go_sem,h1,h2]
  ·simp [go_sem,h1,h2]
 ·simp [go_sem,h1]
theorem zNk (x y:Nat × Int) (w:World):(Op.equal 177 (fr2 x) (fr2 y)).run prog w=.ok (y == x) w:=by
 rw [zM9];congr 1
 obtain ⟨a,b⟩:=x;obtain ⟨c,d⟩:=y;rw [Bool.eq_iff_iff];simp only [Bool.and_eq_true,beq_iff_eq,Prod.mk.injEq];omega
theorem zOg (x:Nat × Int) (w:World):∀ (F:List (Nat × Int)) (i:Nat),(Instr.findAsking 177 (fr2 x) (zHG i F) i).run prog w=.ok ((F.findIdx? (· == x)).map λk=>(i+k,Value.int .i64 (((i+k:Nat):Int)+1))) w
 | [],i=>rfl
 | y::r,i=>by
  have h:=zOg x w r (i+1);have e:=zNk x y w;unfold zHG;rw [List.findIdx?_cons];cases hq:(y == x) with
  | true =>
   rw [hq] at e;simp [Instr.findAsking,e,Result.andThen]
  | false =>
   rw [hq] at e;simp [Instr.findAsking,e,Result.andThen,h];cases r.findIdx? (· == x) with
   | none=>rfl
   | some k =>
    simp;omega
theorem zQt (x:Nat × Int) (F:List (Nat × Int)) (w:World):(Instr.findKey 177 (fr2 x) (zHG 0 F)).run prog w=.ok ((F.findIdx? (· == x)).map λk=>(k,Value.int .i64 ((k:Int)+1))) w:=by
 have h:=zOg x w F 0;cases F with
 | nil=>simp [Instr.findKey,go_sem,zHG,Instr.findNow]
 | cons y r =>
  simp [Instr.findKey,go_sem,zHG,Instr.findNow,Instr.sameNow];simpa [zHG] using h
structure Fr (S:List Nat) (w w':World):Prop where
 os:w'.os=w.os
 tape:w'.tape=w.tape
 output:w'.output=w.output
 size:w.heap.size<=w'.heap.size
 block:∀ k:Nat,k<w.heap.size->k ∉ S->w'.heap[k]? = w.heap[k]?
theorem Fr.refl (S:List Nat) (w:World):Fr S w w:=⟨rfl,rfl,rfl,Nat.le_refl _,λ_ _ _=>rfl⟩
theorem Fr.of_below (S:List Nat) {w w':World} (h:Below w.heap.size w w'):Fr S w w':=⟨h.os,h.tape,h.output,h.size,λk hk _=>h.block k hk⟩
theorem Fr.of_grown {row:Option Nat} (h:w.grownBy w' row) (hr:∀ k,row=some k->k ∈ S):Fr S w w' :=
 ⟨h.os,h.tape,h.output,h.size,λk hk hn=>h.block k hk (λe=>hn (hr k e.symm))⟩
theorem Fr.trans (h:Fr S w w') (h':Fr S w' w''):Fr S w w'' :=
 ⟨h'.os.trans h.os,h'.tape.trans h.tape,h'.output.trans h.output,Nat.le_trans h.size h'.size,λk hk hn=>(h'.block k (Nat.lt_of_lt_of_le hk h.size) hn).trans (h.block k hk hn)⟩
theorem Fr.mono (h:Fr S w w') (hs:∀ k ∈ S,k ∈ T):Fr T w w':=⟨h.os,h.tape,h.output,h.size,λk hk hn=>h.block k hk (λe=>hn (hs k e))⟩
theorem Fr.new (h:Fr S w w') (h':Fr T w' w'') (hs:∀ k ∈ T,k ∈ S \/ w.heap.size<=k):Fr S w w'' :=
 ⟨h'.os.trans h.os,h'.tape.trans h.tape,h'.output.trans h.output,Nat.le_trans h.size h'.size,λk hk hn=>(h'.block k (Nat.lt_of_lt_of_le hk h.size) (λe=>(hs k e).elim hn (λg=>absurd hk (Nat.not_lt.2 g)))).trans (h.block k hk hn)⟩
theorem Fr.to_below (h:Fr S w w') (hs:∀ k ∈ S,w.heap.size<=k):Below w.heap.size w w' :=
 ⟨h.os,h.tape,h.output,h.size,λk hk=>h.block k hk (λe=>absurd hk (Nat.not_lt.2 (hs k e)))⟩
theorem zA3 {o:Nat} (h:w.cell? ⟨b,o,none⟩=some v):b<w.heap.size:=by
 rcases Nat.lt_or_ge b w.heap.size with g | g
 ·exact g
 ·unfold World.cell? at h;simp only [Array.getElem?_eq_none g] at h;cases h
theorem Fr.cell (h:Fr S w w') {b o:Nat} {v:Value} (hc:w.cell? ⟨b,o,none⟩=some v) (hn:b ∉ S):w'.cell? ⟨b,o,none⟩=some v:=by
 rw [<-hc];unfold World.cell?;rw [h.block b (zA3 hc) hn]
theorem Fr.frozen (h:Fr S w w') {b o:Nat} (hb:b<w.heap.size) (hn:b ∉ S):w'.frozen? ⟨b,o,none⟩=w.frozen? ⟨b,o,none⟩:=by
 unfold World.frozen?;rw [h.block b hb hn]
theorem Fr.range (h:Fr S w w') {b o:Nat} {l:List Value} (hr:w.rangeAt b o l) (hn:b ∉ S):w'.rangeAt b o l:=λj v hv=>h.cell (hr j v hv) hn
theorem Fr.fm (h:Fr S w w') {b:Nat} {F:List (Nat × Int)} (hm:FM w b F) (hn:b ∉ S):FM w' b F:=by
 have hlt:=hm.lt;obtain ⟨es,h1,h2⟩:=hm;exact ⟨es,by rw [h.block b hlt hn];exact h1,h2⟩
def zBa:List (Nat × Int)->List Value
 | []=>[]
 | x::r=>.int .i64 x.1 :: .int .i64 x.2::zBa r
theorem zEC:∀ F:List (Nat × Int),(zBa F).length=F.length * 2
 | []=>rfl
 | x::r=>by simp [zBa,zEC r];omega
theorem zCc:∀ (F G:List (Nat × Int)),zBa (F++G)=zBa F++zBa G
 | [],G=>rfl
 | x::r,G=>by simp [zBa,zCc r G]
theorem zES:∀ (F:List (Nat × Int)) (i:Nat) (h:i<F.length),(zBa F)[i * 2]? = some (.int .i64 (F[i]).1)/\(zBa F)[i * 2+1]? = some (.int .i64 (F[i]).2)
 | x::r,0,_=>⟨rfl,rfl⟩
 | x::r,i+1,h=>by
  have:=zES r i (by simpa using h);have e:(i+1) * 2=i * 2+2:=by omega
  rw [e];exact this
structure FS (w:World) (b mb:Nat) (lv:Value) (F:List (Nat × Int)):Prop where
 hd:w.cell? ⟨b,1,none⟩=some lv
 hf:w.frozen? ⟨b,1,none⟩=false
 own:w.ownsRow (b+1) 177 2 lv F.length (zBa F)
 mp:w.cell? ⟨b,2,none⟩=some (.map (some mb))
 fm:FM w mb F
 lt:mb<b
theorem zAI {B:Nat} {T:TypeId} {k:Nat} {n:Nat} {xs:List Value} (h:w.ownsRow B T k v n xs) {g:Nat} (e:v.ownBlock=some g):B<=g/\g<w.heap.size:=by
 rcases h.2 with ⟨rfl,_⟩ | ⟨g',cap,cur,rfl,hb,hg,_⟩
 ·cases e
 ·have e2:g'=g:=by simpa [Value.ownBlock] using e
  subst e2;refine ⟨hb,?_⟩;rcases Nat.lt_or_ge g' w.heap.size with q | q
  ·exact q
  ·rw [Array.getElem?_eq_none q] at hg;cases hg
theorem zAR (h:Fr S w w') {B:Nat} {T:TypeId} {k:Nat} {v:Value} {n:Nat} {xs:List Value} (ho:w.ownsRow B T k v n xs) (hn:∀ g,v.ownBlock=some g->g ∉ S):w'.ownsRow B T k v n xs:=by
 have hb:=λ{g} (e:v.ownBlock=some g)=>zAI ho e
 refine ⟨ho.1,?_⟩;rcases ho.2 with q | ⟨g,cap,cur,rfl,hb1,hg,r1,r2,r3,r4⟩
 ·exact Or.inl q
 ·exact Or.inr ⟨g,cap,cur,rfl,hb1,by rw [h.block g (hb rfl).2 (hn g rfl)];exact hg,r1,r2,r3,r4⟩
theorem FS.list {mb:Nat} {lv:Value} (h:FS w b mb lv F):FoldL w b 1 (F.map λx=>((x.1:Int),x.2)):=by
 rcases h.own.2 with ⟨e,h0⟩ | ⟨g,cap,cur,e,hb1,hg,r1,r2,r3,r4⟩
 ·have hF:F=[]:=List.eq_nil_of_length_eq_zero h0;subst hF;refine ⟨none,0,by rw [h.hd,e];rfl,λi hi=>absurd hi (Nat.not_lt_zero _)⟩
 ·refine ⟨some ⟨g,0,none⟩,cap,by rw [h.hd,e];simp,λi hi=>⟨g,0,rfl,?_⟩⟩;have hi2:i<F.length:=by simpa using hi
  have hl:=zEC F;have hg2:∀ j v,(zBa F)[j]? = some v->w.cell? ⟨g,j,none⟩=some v:=by
   intro j v hv;have hj:j<F.length * 2:=by
    rw [<-hl];rcases Nat.lt_or_ge j (zBa F).length with q | q
    ·exact q
    ·rw [List.getElem?_eq_none q] at hv;cases hv
   rw [<-r4,List.getElem?_take_of_lt hj] at hv;unfold World.cell?;simp only [hg];simpa using hv
  obtain ⟨q1,q2⟩:=zES F i hi2;have c1:=hg2 _ _ q1;have c2:=hg2 _ _ q2;simp only [List.getElem_map,Nat.zero_add];exact ⟨c1,c2⟩
