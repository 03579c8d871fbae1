/- KRows, KHtA, KHtB. -/
import Derived.Test.YtcddpgfdadpbgaaGreatDoorQ06
set_option maxHeartbeats 400000
set_option maxRecDepth 100000
namespace Go.Proofs.YtcddpgfdadpbgaaGreatDoor.Wc
def zEf (F:List (Nat × Int)):Nat->Nat->List Int
 | 0,_=>[]
 | _+1,0=>[]
 | f+1,k+1=>match F[k]? with
  | none=>[]
  | some x=>zEf F f x.1++[x.2]
structure Rows (F:List (Nat × Int)):Prop where
 ahead:∀ (k:Nat) (x:Nat × Int),F[k]? = some x->x.1<=k
 once:∀ (i j:Nat) (x:Nat × Int),F[i]? = some x->F[j]? = some x->i=j
theorem zBF (F:List (Nat × Int)) (f:Nat):zEf F f 0=[]:=by cases f <;> rfl
theorem zAd (F:List (Nat × Int)) (f k:Nat) (x:Nat × Int) (h:F[k]? = some x):zEf F (f+1) (k+1)=zEf F f x.1++[x.2]:=by
 simp only [zEf,h]
theorem zGu {F:List (Nat × Int)} (h:Rows F):∀ (f m n:Nat),m<=f->n<=f->m<=F.length->n<=F.length->zEf F f m=zEf F f n->m=n:=by
 intro f;induction f with
 | zero=>intro m n hm hn _ _ _;omega
 | succ f ih =>
  intro m n hm hn hmF hnF e;cases m with
  | zero =>
   cases n with
   | zero=>rfl
   | succ k =>
    obtain ⟨x,hx⟩:∃ x,F[k]? = some x:=⟨_,List.getElem?_eq_getElem (by omega)⟩
    rw [zBF,zAd F f k x hx] at e;simp at e
  | succ j =>
   obtain ⟨y,hy⟩:∃ y,F[j]? = some y:=⟨_,List.getElem?_eq_getElem (by omega)⟩
   cases n with
   | zero =>
    rw [zBF,zAd F f j y hy] at e;simp at e
   | succ k =>
    obtain ⟨x,hx⟩:∃ x,F[k]? = some x:=⟨_,List.getElem?_eq_getElem (by omega)⟩
    rw [zAd F f j y hy,zAd F f k x hx] at e;obtain ⟨e1,e2⟩:=List.append_inj' e rfl;have a1:=h.ahead j y hy;have a2:=h.ahead k x hx;have e3:=ih y.1 x.1 (by omega) (by omega) (by omega) (by omega) e1;have e4:y.2=x.2:=by simpa using e2
    have e5:y=x:=Prod.ext e3 e4;rw [e5] at hy;rw [h.once j k x hy hx]
theorem zHH {F:List (Nat × Int)} (h:Rows F) (x:Nat × Int):∀ (f n:Nat),n<=F.length->zEf (F++[x]) f n=zEf F f n:=by
 intro f;induction f with
 | zero=>intro n _;rfl
 | succ f ih =>
  intro n hn;cases n with
  | zero=>rfl
  | succ k =>
   obtain ⟨y,hy⟩:∃ y,F[k]? = some y:=⟨_,List.getElem?_eq_getElem (by omega)⟩
   have hy2:(F++[x])[k]? = some y:=by rw [List.getElem?_append_left (by omega)];exact hy
   have a:=h.ahead k y hy;rw [zAd F f k y hy,zAd _ f k y hy2,ih y.1 (by omega)]
theorem Rows.app {F:List (Nat × Int)} (h:Rows F) {x:Nat × Int} (hx:x.1<=F.length) (hn:∀ k:Nat,F[k]? ≠ some x):Rows (F++[x]):=by
 have old:∀ (k:Nat) (y:Nat × Int),(F++[x])[k]? = some y->F[k]? = some y \/ (k=F.length/\y=x):=by
  intro k y e;by_cases hk:k<F.length
  ·rw [List.getElem?_append_left hk] at e;exact Or.inl e
  ·rw [List.getElem?_append_right (by omega)] at e;by_cases h0:k - F.length=0
   ·rw [h0] at e;simp at e;exact Or.inr ⟨by omega,e.symm⟩
   ·rw [List.getElem?_eq_none (by simp;omega)] at e;cases e
 refine ⟨λk y e=>?_,λi j y e1 e2=>?_⟩
 ·rcases old k y e with e | ⟨rfl,rfl⟩
  ·exact h.ahead k y e
  ·exact hx
 ·rcases old i y e1 with q1 | ⟨i1,y1⟩
  ·rcases old j y e2 with q2 | ⟨j1,y1⟩
   ·exact h.once i j y q1 q2
   ·rw [y1] at q1;exact absurd q1 (hn i)
  ·rcases old j y e2 with q2 | ⟨j1,_⟩
   ·rw [y1] at q2;exact absurd q2 (hn j)
   ·rw [i1,j1]
theorem Rows.nil:Rows []:=⟨λk x e=>by simp at e,λi j x e=>by simp at e⟩
theorem zBf {F:List (Nat × Int)} (h:Rows F):∀ (f n g:Nat),n<=f->n<=g->n<=F.length->zEf F f n=zEf F g n:=by
 intro f;induction f with
 | zero =>
  intro n g hn _ _;have e:n=0:=by omega
  rw [e,zBF,zBF]
 | succ f ih =>
  intro n g hn hg hF;cases n with
  | zero=>rw [zBF,zBF]
  | succ k =>
   obtain ⟨y,hy⟩:∃ y,F[k]? = some y:=⟨_,List.getElem?_eq_getElem (by omega)⟩
   have a:=h.ahead k y hy;cases g with
   | zero=>omega
   | succ g=>rw [zAd F f k y hy,zAd F g k y hy,ih y.1 g (by omega) (by omega) (by omega)]
end Go.Proofs.YtcddpgfdadpbgaaGreatDoor.Wc
namespace Go.Proofs.YtcddpgfdadpbgaaGreatDoor
open Tryz
open Go.RowKit
open Go.ChangeMaps (setBlock heap_setBlock_same heap_setBlock_other)
open Go.ChangeShapes Go.WideShapes Go.MapKept
set_option linter.unusedVariables false
variable {w w' w'':World} {S T:List Nat} {b:Nat} {F:List (Nat × Int)} {v:Value}
abbrev fr2 (x:Nat × Int):Value:=.agg #[.int .i64 x.1,.int .i64 x.2]
def zEd:Nat->List (Nat × Int)->List MapEntry
 | _,[]=>[]
 | i,x::r=>⟨fr2 x,.int .i64 ((i:Int)+1),i⟩::zEd (i+1) r
theorem zDn:∀ (F:List (Nat × Int)) (i:Nat) (x:Nat × Int),zEd i (F++[x])=zEd i F++[⟨fr2 x,.int .i64 (((i+F.length:Nat):Int)+1),i+F.length⟩]
 | [],i,x=>rfl
 | y::r,i,x=>by
  show _::zEd (i+1) (r++[x])=_::(zEd (i+1) r++_)
  rw [zDn r (i+1) x];have e:i+1+r.length=i+(r.length+1):=by omega
  rw [e];rfl
def FM (w:World) (b:Nat) (F:List (Nat × Int)):Prop:=∃ es:Array MapEntry,w.heap[b]? = some (.map es F.length)/\es.toList=zEd 0 F
theorem FM.lt (h:FM w b F):b<w.heap.size:=by
 obtain ⟨es,h,_⟩:=h;rcases Nat.lt_or_ge b w.heap.size with g | g
 ·exact g
 ·rw [Array.getElem?_eq_none g] at h;cases h
theorem FM.below (h:FM w b F) (hb:Below w.heap.size w w'):FM w' b F:=by
 have hlt:=h.lt;obtain ⟨es,h1,h2⟩:=h;exact ⟨es,by rw [hb.block b hlt];exact h1,h2⟩
theorem zLa (em:Bool) (x y:Int) (w:World):(Instr.checkKey em 10000 151 (.agg #[.int .i64 x,.int .i64 y])).run prog w=.ok () w:=by kernel_rfl
theorem zIo (x y x' y':Int) (w:World):(Op.equal 151 (.agg #[.int .i64 x,.int .i64 y]) (.agg #[.int .i64 x',.int .i64 y'])).run prog w=.ok ((x == x') && (y == y')) w:=by
 show (Op.equalIn (9998+2) 151 _ _).run _ _=_
 by_cases h1:x=x'
 ·by_cases h2:y=y'
  ·simp [go_sem,h1,h2]
  ·simp [go_sem,h1,h2]
 ·simp [go_sem,h1]
theorem zIa (x y:Nat × Int) (w:World):(Op.equal 151 (fr2 x) (fr2 y)).run prog w=.ok (y == x) w:=by
 rw [zIo];congr 1
 obtain ⟨a,b⟩:=x;obtain ⟨c,d⟩:=y;rw [Bool.eq_iff_iff];simp only [Bool.and_eq_true,beq_iff_eq,Prod.mk.injEq];omega
theorem zKU (x:Nat × Int) (w:World):∀ (F:List (Nat × Int)) (i:Nat),(Instr.findAsking 151 (fr2 x) (zEd i F) i).run prog w=.ok ((F.findIdx? (· == x)).map λk=>(i+k,Value.int .i64 (((i+k:Nat):Int)+1))) w
 | [],i=>rfl
 | y::r,i=>by
  have h:=zKU x w r (i+1);have e:=zIa x y w;unfold zEd;rw [List.findIdx?_cons];cases hq:(y == x) with
  | true =>
   rw [hq] at e;simp [Instr.findAsking,e,Result.andThen]
  | false =>
   rw [hq] at e;simp [Instr.findAsking,e,Result.andThen,h];cases r.findIdx? (· == x) with
   | none=>rfl
   | some k =>
    simp;omega
theorem zLX (x:Nat × Int) (F:List (Nat × Int)) (w:World):(Instr.findKey 151 (fr2 x) (zEd 0 F)).run prog w=.ok ((F.findIdx? (· == x)).map λk=>(k,Value.int .i64 ((k:Int)+1))) w:=by
 have h:=zKU x w F 0;cases F with
 | nil=>simp [Instr.findKey,go_sem,zEd,Instr.findNow]
 | cons y r =>
  simp [Instr.findKey,go_sem,zEd,Instr.findNow,Instr.sameNow];simpa [zEd] using h
structure Fr (S:List Nat) (w w':World):Prop where
 os:w'.os=w.os
 tape:w'.tape=w.tape
 output:w'.output=w.output
 size:w.heap.size<=w'.heap.size
 block:∀ k:Nat,k<w.heap.size->k ∉ S->w'.heap[k]? = w.heap[k]?
theorem Fr.refl (S:List Nat) (w:World):Fr S w w:=⟨rfl,rfl,rfl,Nat.le_refl _,λ_ _ _=>rfl⟩
theorem Fr.of_below (S:List Nat) {w w':World} (h:Below w.heap.size w w'):Fr S w w':=⟨h.os,h.tape,h.output,h.size,λk hk _=>h.block k hk⟩
theorem Fr.of_grown {row:Option Nat} (h:w.grownBy w' row) (hr:∀ k,row=some k->k ∈ S):Fr S w w' :=
 ⟨h.os,h.tape,h.output,h.size,λk hk hn=>h.block k hk (λe=>hn (hr k e.symm))⟩
theorem Fr.trans (h:Fr S w w') (h':Fr S w' w''):Fr S w w'' :=
 ⟨h'.os.trans h.os,h'.tape.trans h.tape,h'.output.trans h.output,Nat.le_trans h.size h'.size,λk hk hn=>(h'.block k (Nat.lt_of_lt_of_le hk h.size) hn).trans (h.block k hk hn)⟩
theorem Fr.mono (h:Fr S w w') (hs:∀ k ∈ S,k ∈ T):Fr T w w':=⟨h.os,h.tape,h.output,h.size,λk hk hn=>h.block k hk (λe=>hn (hs k e))⟩
theorem Fr.new (h:Fr S w w') (h':Fr T w' w'') (hs:∀ k ∈ T,k ∈ S \/ w.heap.size<=k):Fr S w w'' :=
 ⟨h'.os.trans h.os,h'.tape.trans h.tape,h'.output.trans h.output,Nat.le_trans h.size h'.size,λk hk hn=>(h'.block k (Nat.lt_of_lt_of_le hk h.size) (λe=>(hs k e).elim hn (λg=>absurd hk (Nat.not_lt.2 g)))).trans (h.block k hk hn)⟩
theorem Fr.to_below (h:Fr S w w') (hs:∀ k ∈ S,w.heap.size<=k):Below w.heap.size w w' :=
 ⟨h.os,h.tape,h.output,h.size,λk hk=>h.block k hk (λe=>absurd hk (Nat.not_lt.2 (hs k e)))⟩
theorem zA1 {o:Nat} (h:w.cell? ⟨b,o,none⟩=some v):b<w.heap.size:=by
 rcases Nat.lt_or_ge b w.heap.size with g | g
 ·exact g
 ·unfold World.cell? at h;simp only [Array.getElem?_eq_none g] at h;cases h
theorem Fr.cell (h:Fr S w w') {b o:Nat} {v:Value} (hc:w.cell? ⟨b,o,none⟩=some v) (hn:b ∉ S):w'.cell? ⟨b,o,none⟩=some v:=by
 rw [<-hc];unfold World.cell?;rw [h.block b (zA1 hc) hn]
theorem Fr.frozen (h:Fr S w w') {b o:Nat} (hb:b<w.heap.size) (hn:b ∉ S):w'.frozen? ⟨b,o,none⟩=w.frozen? ⟨b,o,none⟩:=by
 unfold World.frozen?;rw [h.block b hb hn]
theorem Fr.range (h:Fr S w w') {b o:Nat} {l:List Value} (hr:w.rangeAt b o l) (hn:b ∉ S):w'.rangeAt b o l:=λj v hv=>h.cell (hr j v hv) hn
theorem Fr.fm (h:Fr S w w') {b:Nat} {F:List (Nat × Int)} (hm:FM w b F) (hn:b ∉ S):FM w' b F:=by
 have hlt:=hm.lt;obtain ⟨es,h1,h2⟩:=hm;exact ⟨es,by rw [h.block b hlt hn];exact h1,h2⟩
def zBN:List (Nat × Int)->List Value
 | []=>[]
 | x::r=>.int .i64 x.1 :: .int .i64 x.2::zBN r
theorem zC3:∀ F:List (Nat × Int),(zBN F).length=F.length * 2
 | []=>rfl
 | x::r=>by simp [zBN,zC3 r];omega
theorem zBj:∀ (F G:List (Nat × Int)),zBN (F++G)=zBN F++zBN G
 | [],G=>rfl
 | x::r,G=>by simp [zBN,zBj r G]
theorem zCy:∀ (F:List (Nat × Int)) (i:Nat) (h:i<F.length),(zBN F)[i * 2]? = some (.int .i64 (F[i]).1)/\(zBN F)[i * 2+1]? = some (.int .i64 (F[i]).2)
 | x::r,0,_=>⟨rfl,rfl⟩
 | x::r,i+1,h=>by
  have:=zCy r i (by simpa using h);have e:(i+1) * 2=i * 2+2:=by omega
  rw [e];exact this
structure FS (w:World) (b mb:Nat) (lv:Value) (F:List (Nat × Int)):Prop where
 hd:w.cell? ⟨b,1,none⟩=some lv
 hf:w.frozen? ⟨b,1,none⟩=false
 own:w.ownsRow (b+1) 151 2 lv F.length (zBN F)
 mp:w.cell? ⟨b,2,none⟩=some (.map (some mb))
 fm:FM w mb F
 lt:mb<b
theorem zAW {B:Nat} {T:TypeId} {k:Nat} {n:Nat} {xs:List Value} (h:w.ownsRow B T k v n xs) {g:Nat} (e:v.ownBlock=some g):B<=g/\g<w.heap.size:=by
 rcases h.2 with ⟨rfl,_⟩ | ⟨g',cap,cur,rfl,hb,hg,_⟩
 ·cases e
 ·have e2:g'=g:=by simpa [Value.ownBlock] using e
  subst e2;refine ⟨hb,?_⟩;rcases Nat.lt_or_ge g' w.heap.size with q | q
  ·exact q
  ·rw [Array.getElem?_eq_none q] at hg;cases hg
theorem zAl (h:Fr S w w') {B:Nat} {T:TypeId} {k:Nat} {v:Value} {n:Nat} {xs:List Value} (ho:w.ownsRow B T k v n xs) (hn:∀ g,v.ownBlock=some g->g ∉ S):w'.ownsRow B T k v n xs:=by
 have hb:=λ{g} (e:v.ownBlock=some g)=>zAW ho e
 refine ⟨ho.1,?_⟩;rcases ho.2 with q | ⟨g,cap,cur,rfl,hb1,hg,r1,r2,r3,r4⟩
 ·exact Or.inl q
 ·exact Or.inr ⟨g,cap,cur,rfl,hb1,by rw [h.block g (hb rfl).2 (hn g rfl)];exact hg,r1,r2,r3,r4⟩
theorem FS.list {mb:Nat} {lv:Value} (h:FS w b mb lv F):FoldL w b 1 (F.map λx=>((x.1:Int),x.2)):=by
 rcases h.own.2 with ⟨e,h0⟩ | ⟨g,cap,cur,e,hb1,hg,r1,r2,r3,r4⟩
 ·have hF:F=[]:=List.eq_nil_of_length_eq_zero h0;subst hF;refine ⟨none,0,by rw [h.hd,e];rfl,λi hi=>absurd hi (Nat.not_lt_zero _)⟩
 ·refine ⟨some ⟨g,0,none⟩,cap,by rw [h.hd,e];simp,λi hi=>⟨g,0,rfl,?_⟩⟩;have hi2:i<F.length:=by simpa using hi
  have hl:=zC3 F;have hg2:∀ j v,(zBN F)[j]? = some v->w.cell? ⟨g,j,none⟩=some v:=by
   intro j v hv;have hj:j<F.length * 2:=by
    rw [<-hl];rcases Nat.lt_or_ge j (zBN F).length with q | q
    ·exact q
    ·rw [List.getElem?_eq_none q] at hv;cases hv
   rw [<-r4,List.getElem?_take_of_lt hj] at hv;unfold World.cell?;simp only [hg];simpa using hv
  obtain ⟨q1,q2⟩:=zCy F i hi2;have c1:=hg2 _ _ q1;have c2:=hg2 _ _ q2;simp only [List.getElem_map,Nat.zero_add];exact ⟨c1,c2⟩
