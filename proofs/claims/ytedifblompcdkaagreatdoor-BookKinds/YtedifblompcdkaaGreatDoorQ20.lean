/- KPd, KChoP, KBran, KChoo, KChoB. -/
import Derived.Test.YtedifblompcdkaaGreatDoorQ19
set_option maxHeartbeats 3200000
set_option maxRecDepth 100000
namespace Go.Proofs.YtedifblompcdkaaGreatDoor
open Tryz
open Go.RowKit Wf
set_option linter.unusedVariables false
variable {w w':World} {k f at' bi bw ba B:Nat} {lv lv':Value} {es:List (Nat × Nat)} {cs:List (Nat × Nat × Nat)}
abbrev clV (bi bw ba:Nat):Value:=.func (.func 234) #[] #[.pointer (some ⟨bi,0,none⟩),.pointer (some ⟨bw,0,none⟩),.pointer (some ⟨ba,0,none⟩)]
structure Pd (k:Nat) (w:World) (lv:Value) (f at' bi bw ba:Nat):Prop where
 c1:w.cell? ⟨bi,0,none⟩=some (.func (.func f) #[] #[])
 c2:w.cell? ⟨bw,0,none⟩=some (.pointer (some ⟨k,0,none⟩))
 c3:w.cell? ⟨ba,0,none⟩=some (.int .i64 (at':Int))
 bd:∀ b ∈ [bi,bw,ba],k<b/\b<w.heap.size/\¬ lv.ownBlock=some b
theorem Pd.fr (h:Pd k w lv f at' bi bw ba) {S:List Nat} (hf:Fr S w w') (hs:∀ b ∈ [bi,bw,ba],b ∉ S) (hl:∀ b ∈ [bi,bw,ba],¬ lv'.ownBlock=some b):Pd k w' lv' f at' bi bw ba :=
 ⟨hf.cell h.c1 (hs _ (by simp)),hf.cell h.c2 (hs _ (by simp)),hf.cell h.c3 (hs _ (by simp)),λb hb=>⟨(h.bd b hb).1,Nat.lt_of_lt_of_le (h.bd b hb).2.1 hf.size,hl b hb⟩⟩
theorem Pd.below (h:Pd k w lv f at' bi bw ba) (hb:Below w.heap.size w w'):Pd k w' lv f at' bi bw ba:=h.fr (Fr.of_below [] hb) (λb _=>by simp) (λb hb=>(h.bd b hb).2.2)
theorem Pd.step (h:Pd k w lv f at' bi bw ba) (hf:Fr (k::lv.ownBlock.toList) w w') (hn:Nx w lv lv'):Pd k w' lv' f at' bi bw ba :=
 h.fr hf (λb hb hm=>by
  have h9:=h.bd b hb;rcases List.mem_cons.1 hm with q | q
  ·omega
  ·exact h9.2.2 (by simpa using q)) (λb hb e=>by
  have h9:=h.bd b hb;rcases hn b e with q | q
  ·exact h9.2.2 q
  ·omega)
theorem Pd.patch (h:Pd k w lv f at' bi bw ba) (hf:Fr lv.ownBlock.toList w w'):Pd k w' lv f at' bi bw ba :=
 h.fr hf (λb hb hm=>(h.bd b hb).2.2 (by simpa using hm)) (λb hb=>(h.bd b hb).2.2)
theorem zCi (k B f:Nat) (T:Nat->Nat) (s0 s1:Value) (L:List I) (lv:Value) (P:List (Wc.In × Value)) (w:World) (h:WS k B T w s0 s1 L lv P) (h0:0<L.length) (hl:L.length<=1000000) :
  Calls prog 202 #[.pointer (some ⟨k,0,none⟩),.func (.func f) #[] #[]] w λe w'=>(∃ bi bw ba,e=.returned (clV bi bw ba)/\Pd k w' lv f (L.length - 1) bi bw ba)/\Below w.heap.size w w':=by
 refine (zDO k B f T s0 s1 L lv P w h h0 hl).mono ?_;rintro e w' ⟨⟨cl,bs,rfl,⟨bi,bw,ba,rfl,rfl,c1,c2,c3⟩,hbs⟩,hb⟩;refine ⟨⟨bi,bw,ba,rfl,c1,c2,c3,λb hb'=>?_⟩,hb⟩;have h9:=hbs b hb';have:=h.at'.lt;exact ⟨by omega,h9.2,λe=>by have:=(zAL h.own e).2;omega⟩
def JPd (k B:Nat) (T:Nat->Nat) (s0 s1:Value) (L:List I) (lv:Value) (w:World) (e:Ending) (w':World):Prop :=
 (∃ bi bw ba lv' P',e=.returned (clV bi bw ba)/\Pd k w' lv' 203 L.length bi bw ba/\(∀ b ∈ [bi,bw,ba],w.heap.size<=b)/\WS k B T w' s0 s1 (L++[ins 13 0 0]) lv' P'/\Nx w lv lv')/\Fr (k::lv.ownBlock.toList) w w'
theorem zJY (k B:Nat) (T:Nat->Nat) (s0 s1:Value) (L:List I) (lv:Value) (P:List (Wc.In × Value)) (w:World) (h:WS k B T w s0 s1 L lv P) (hkB:k<B) (hB:B<=w.heap.size) (hl:L.length<=999999) :
  Calls prog 205 #[.pointer (some ⟨k,0,none⟩)] w (JPd k B T s0 s1 L lv w):=by
 refine (zPA k B T s0 s1 L lv P w h hkB hB hl).mono ?_;rintro e w' ⟨⟨cl,bs,lv',P',rfl,⟨bi,bw,ba,rfl,rfl,c1,c2,c3⟩,hbs,ws,nx⟩,hf⟩;refine ⟨⟨bi,bw,ba,lv',P',rfl,⟨c1,c2,c3,λb hb'=>?_⟩,λb hb'=>(hbs b hb').1,ws,nx⟩,hf⟩;have h9:=hbs b hb';exact ⟨by omega,h9.2.1,h9.2.2⟩
theorem pdA (k B:Nat) (T:Nat->Nat) (s0 s1:Value) (L L':List I) (lv:Value) (P:List (Wc.In × Value)) (w:World) (at':Nat) (bi bw ba:Nat) (h:WS k B T w s0 s1 L lv P) (hkB:k<B) (hl:L.length<=1000000) (hp:Pd k w lv 203 at' bi bw ba) (X Y:List I) (x:I) (hL:L=X++x::Y) (ha:at'=X.length) (v:Int) (hv:(L.length:Int)=v) (hL':L'=X++({x.1 with a:=v},x.2)::Y) :
  Calls prog 234 #[.pointer (some ⟨bi,0,none⟩),.pointer (some ⟨bw,0,none⟩),.pointer (some ⟨ba,0,none⟩)] w λe w'=>(∃ P',e=.returned (.tuple #[])/\WS k B T w' s0 s1 L' lv P')/\Fr lv.ownBlock.toList w w':=by
 subst ha;have hat:X.length<L.length:=by rw [hL];simp
 have:=zGF k B T s0 s1 L lv P w X.length bi bw ba h hkB hl hat hp.c1 hp.c2 hp.c3 (λb e=>⟨λq=>(hp.bd bi (by simp)).2.2 (by rw [q];exact e),λq=>(hp.bd bw (by simp)).2.2 (by rw [q];exact e),λq=>(hp.bd ba (by simp)).2.2 (by rw [q];exact e)⟩);rw [hv] at this;have hx:L[X.length]=x:=by subst hL;simp
 have hset:L.set X.length ({(L[X.length]).1 with a:=v},(L[X.length]).2)=L':=by rw [hx,hL',hL,zBL X _ _ Y X.length rfl]
 rw [hset] at this;exact this
theorem pdB (k B:Nat) (T:Nat->Nat) (s0 s1:Value) (L L':List I) (lv:Value) (P:List (Wc.In × Value)) (w:World) (at':Nat) (bi bw ba:Nat) (h:WS k B T w s0 s1 L lv P) (hkB:k<B) (hl:L.length<=1000000) (hp:Pd k w lv 204 at' bi bw ba) (X Y:List I) (x:I) (hL:L=X++x::Y) (ha:at'=X.length) (v:Int) (hv:(L.length:Int)=v) (hL':L'=X++({x.1 with b:=v},x.2)::Y) :
  Calls prog 234 #[.pointer (some ⟨bi,0,none⟩),.pointer (some ⟨bw,0,none⟩),.pointer (some ⟨ba,0,none⟩)] w λe w'=>(∃ P',e=.returned (.tuple #[])/\WS k B T w' s0 s1 L' lv P')/\Fr lv.ownBlock.toList w w':=by
 subst ha;have hat:X.length<L.length:=by rw [hL];simp
 have:=zIV k B T s0 s1 L lv P w X.length bi bw ba h hkB hl hat hp.c1 hp.c2 hp.c3 (λb e=>⟨λq=>(hp.bd bi (by simp)).2.2 (by rw [q];exact e),λq=>(hp.bd bw (by simp)).2.2 (by rw [q];exact e),λq=>(hp.bd ba (by simp)).2.2 (by rw [q];exact e)⟩);rw [hv] at this;have hx:L[X.length]=x:=by subst hL;simp
 have hset:L.set X.length ({(L[X.length]).1 with b:=v},(L[X.length]).2)=L':=by rw [hx,hL',hL,zBL X _ _ Y X.length rfl]
 rw [hset] at this;exact this
theorem zNA:∀ args w,(callFunc 234 args).run prog w=.ok (.enter 234 args) w:=λ_ _=>by kernel_rfl
structure St (own:Int) (nm:List ByteArray) (av2:Option Addr) (m2 cap2 k B:Nat) (T:Nat->Nat) (hi:Nat) (w0:World) (lv0:Value) (w:World) (L:List I) (lv:Value) (P:List (Wc.In × Value)):Prop where
 en:En own nm av2 m2 cap2 k B T hi w
 ws:WS k B T w (.int .i64 own) (.slice av2 m2 cap2) L lv P
 nx:Nx w0 lv0 lv
 fr:Fr (k::lv0.ownBlock.toList) w0 w
section
variable {own:Int} {nm:List ByteArray} {av2:Option Addr} {m2 cap2 k B hi:Nat} {T:Nat->Nat} {w0:World} {lv0:Value} {w:World} {L:List I} {lv:Value} {P:List (Wc.In × Value)}
theorem St.init (he:En own nm av2 m2 cap2 k B T hi w) (hw:WS k B T w (.int .i64 own) (.slice av2 m2 cap2) L lv P):St own nm av2 m2 cap2 k B T hi w lv w L lv P:=⟨he,hw,Nx.refl _ _,Fr.refl _ _⟩
theorem St.below {w':World} (h:St own nm av2 m2 cap2 k B T hi w0 lv0 w L lv P) (hb:Below w.heap.size w w'):St own nm av2 m2 cap2 k B T hi w0 lv0 w' L lv P:=⟨h.en.below hb,h.ws.below hb,h.nx,h.fr.trans (Fr.of_below _ hb)⟩
theorem St.step {w':World} {L':List I} {lv':Value} {P':List (Wc.In × Value)} (h:St own nm av2 m2 cap2 k B T hi w0 lv0 w L lv P) (hf:Fr (k::lv.ownBlock.toList) w w') (hn:Nx w lv lv') (hw:WS k B T w' (.int .i64 own) (.slice av2 m2 cap2) L' lv' P'):St own nm av2 m2 cap2 k B T hi w0 lv0 w' L' lv' P' :=
 ⟨h.en.fr hf (zOG h.ws h.en.kB),hw,h.nx.trans hn h.fr.size,zMa h.fr hf h.nx⟩
theorem St.patch {w':World} {L':List I} {P':List (Wc.In × Value)} (h:St own nm av2 m2 cap2 k B T hi w0 lv0 w L lv P) (hf:Fr lv.ownBlock.toList w w') (hw:WS k B T w' (.int .i64 own) (.slice av2 m2 cap2) L' lv P'):St own nm av2 m2 cap2 k B T hi w0 lv0 w' L' lv P' :=
 h.step (hf.mono (λj hj=>List.mem_cons_of_mem _ hj)) (Nx.refl _ _) hw
theorem St.wp (h:St own nm av2 m2 cap2 k B T hi w0 lv0 w L lv P):WP k B T (.int .i64 own) (.slice av2 m2 cap2) L lv0 w0 (.returned (.tuple #[])) w:=⟨⟨lv,P,rfl,h.ws,h.nx⟩,h.fr⟩
theorem St.kept (h:St own nm av2 m2 cap2 k B T hi w0 lv0 w L lv P) {lo:Nat} (h0:∀ j,lv0.ownBlock=some j->B<=j):Kept lo hi w0 w:=Kept.of_fr h.fr (λj hj=>by
 have:=h.en.hk;have:=h.en.kB;rcases List.mem_cons.1 hj with q | q
 ·omega
 ·have:=h0 j (by simpa using q);omega)
end
open Go.RowKit Wf
section
variable {α:Type} (f:α->Nat->List I)
def zAU (e:Int):List α->Nat->List I
 | [],_=>[]
 | k::r,a=>f k a++chB f e r (a+(f k a).length)
def toC:List α->Nat->List Int
 | [],_=>[]
 | k::r,a=>(a:Int)::chT f r (a+(f k a).length)
def jr:List α->Nat->List Nat
 | [],_=>[]
 | k::r,m=>m::jr r (m+1+(f k (m+1)).length)
def jx:List α->Nat->List Nat
 | [],_=>[]
 | k::r,a=>jr f r (a+(f k a).length)
theorem zGc (l:List α) (a:Nat):zCe f l a=(⟨15,0,(a+1+(zAU f 0 l (a+1)).length:Nat),v0I,c0I,a0I,a0I⟩,toC f l (a+1))::zAU f (a+1+(zAU f 0 l (a+1)).length:Nat) l (a+1):=by
 cases l with
 | nil=>rfl
 | cons k r =>
  simp only [zCe,zAU,toC,List.length_append];rw [show a+1+((f k (a+1)).length+(chB f 0 r (a+1+(f k (a+1)).length)).length)=a+1+(f k (a+1)).length+(chB f 0 r (a+1+(f k (a+1)).length)).length from by omega]
theorem zJr (e e':Int):∀ (r:List α) (m:Nat),(chB f e r m).length=(chB f e' r m).length
 | [],m=>rfl
 | k::r,m=>by simp [chB,zJr e e' r]
theorem zKj (e e':Int) (l:List α) (a:Nat):(zAU f e l a).length=(zAU f e' l a).length:=by
 cases l with
 | nil=>rfl
 | cons k r=>simp [zAU,zJr f e e']
theorem zG5 (e:Int) (x:α):∀ (r:List α) (m:Nat),chB f e (r++[x]) m=chB f e r m++(ins 13 e 0::f x (m+(chB f e r m).length+1))
 | [],m=>by simp [chB]
 | k::r,m=>by
  simp only [List.cons_append,chB,zG5 e x r,List.append_assoc,List.length_cons,List.length_append];rw [show m+1+(f k (m+1)).length+(chB f e r (m+1+(f k (m+1)).length)).length+1=m+((f k (m+1)).length+(chB f e r (m+1+(f k (m+1)).length)).length+1)+1 from by omega]
theorem zGe (x:α):∀ (r:List α) (m:Nat),chT f (r++[x]) m=chT f r m++[((m+(chB f 0 r m).length+1:Nat):Int)]
 | [],m=>by simp [chT,chB]
 | k::r,m=>by
  simp only [List.cons_append,chT,zGe x r,chB,List.length_cons,List.length_append];rw [show m+1+(f k (m+1)).length+(chB f 0 r (m+1+(f k (m+1)).length)).length+1=m+((f k (m+1)).length+(chB f 0 r (m+1+(f k (m+1)).length)).length+1)+1 from by omega]
theorem zJS (x:α):∀ (r:List α) (m:Nat),jr f (r++[x]) m=jr f r m++[m+(chB f 0 r m).length]
 | [],m=>by simp [jr,chB]
 | k::r,m=>by
  simp only [List.cons_append,jr,zJS x r,chB,List.length_cons,List.length_append];rw [show m+1+(f k (m+1)).length+(chB f 0 r (m+1+(f k (m+1)).length)).length=m+((f k (m+1)).length+(chB f 0 r (m+1+(f k (m+1)).length)).length+1) from by omega]
theorem zLg (e:Int) (x:α) (a:Nat):zAU f e [x] a=f x a:=by simp [zAU,chB]
theorem zFW (e:Int) (x:α) (l:List α) (hl:l ≠ []) (a:Nat):zAU f e (l++[x]) a=zAU f e l a++(ins 13 e 0::f x (a+(zAU f e l a).length+1)):=by
 cases l with
 | nil=>exact absurd rfl hl
 | cons k r =>
  simp only [List.cons_append,zAU,zG5,List.append_assoc,List.length_append];rw [show a+(f k a).length+(chB f e r (a+(f k a).length)).length+1=a+((f k a).length+(chB f e r (a+(f k a).length)).length)+1 from by omega]
theorem zNn (x:α) (l:List α) (hl:l ≠ []) (a:Nat):toC f (l++[x]) a=toC f l a++[((a+(zAU f 0 l a).length+1:Nat):Int)]:=by
 cases l with
 | nil=>exact absurd rfl hl
 | cons k r =>
  simp only [List.cons_append,toC,zGe,zAU,List.length_append];rw [show a+(f k a).length+(chB f 0 r (a+(f k a).length)).length+1=a+((f k a).length+(chB f 0 r (a+(f k a).length)).length)+1 from by omega]
theorem zOm (x:α) (l:List α) (hl:l ≠ []) (a:Nat):jx f (l++[x]) a=jx f l a++[a+(zAU f 0 l a).length]:=by
 cases l with
 | nil=>exact absurd rfl hl
 | cons k r =>
  simp only [List.cons_append,jx,zJS,zAU,List.length_append];rw [show a+(f k a).length+(chB f 0 r (a+(f k a).length)).length=a+((f k a).length+(chB f 0 r (a+(f k a).length)).length) from by omega]
theorem zPh:∀ (r:List α) (m:Nat),∀ p ∈ jr f r m,m<=p/\p<m+(chB f 0 r m).length
 | [],m,p,h=>by cases h
 | k::r,m,p,h=>by
  simp only [chB,List.length_cons,List.length_append];rcases List.mem_cons.1 h with rfl | h
  ·omega
  ·have:=zPh r _ p h;omega
end
def pA (v:Int) (L:List I) (p:Nat):List I:=match L[p]? with
 | some x=>L.set p ({x.1 with a:=v},x.2)
 | none=>L
def pB (v:Int) (L:List I) (p:Nat):List I:=match L[p]? with
 | some x=>L.set p ({x.1 with b:=v},x.2)
 | none=>L
theorem zPv (v:Int) (L:List I) (p:Nat):(pA v L p).length=L.length:=by unfold pA;split <;> simp
theorem zQ2 (v:Int) (L:List I) (p:Nat):(pB v L p).length=L.length:=by unfold pB;split <;> simp
theorem zPu (v:Int) (X Y:List I) (x:I) (p:Nat) (h:p=X.length):pA v (X++x::Y) p=X++({x.1 with a:=v},x.2)::Y:=by
 subst h;unfold pA;rw [List.getElem?_append_right (Nat.le_refl _),Nat.sub_self,List.getElem?_cons_zero];exact zBL X _ _ Y X.length rfl
theorem zQH (v:Int) (X Y:List I) (x:I) (p:Nat) (h:p=X.length):pB v (X++x::Y) p=X++({x.1 with b:=v},x.2)::Y:=by
 subst h;unfold pB;rw [List.getElem?_append_right (Nat.le_refl _),Nat.sub_self,List.getElem?_cons_zero];exact zBL X _ _ Y X.length rfl
theorem zQg (v:Int) (L:List I) (p:Nat) (h:p<L.length):pA v L p=L.set p ({(L[p]).1 with a:=v},(L[p]).2):=by unfold pA;rw [List.getElem?_eq_getElem h]
theorem zQh (v:Int) (L:List I) (p:Nat) (h:p<L.length):pB v L p=L.set p ({(L[p]).1 with b:=v},(L[p]).2):=by unfold pB;rw [List.getElem?_eq_getElem h]
theorem zDc {α:Type} (f:α->Nat->List I) (e:Int):∀ (r:List α) (X:List I) (m:Nat),m=X.length->(jr f r m).foldl (pA e) (X++chB f 0 r m)=X++chB f e r m
 | [],X,m,h=>rfl
 | k::r,X,m,h=>by
  simp only [jr,chB,List.foldl_cons];rw [zPu e X _ _ m h];have hx:(X++ins 13 e 0::f k (m+1))++chB f 0 r (m+1+(f k (m+1)).length)=X++({(ins 13 0 0).1 with a:=e},(ins 13 0 0).2)::(f k (m+1)++chB f 0 r (m+1+(f k (m+1)).length)):=by
   rw [List.append_assoc];rfl
  rw [<-hx,zDc f e r _ _ (by simp;omega),List.append_assoc];rfl
theorem zLs {α:Type} (f:α->Nat->List I) (e:Int) (l:List α) (L:List I) (c:I):(jx f l (L.length+1)).foldl (pA e) (pB e (L++c::zAU f 0 l (L.length+1)) L.length)=L++({c.1 with b:=e},c.2)::zAU f e l (L.length+1):=by
 rw [zQH e L _ c L.length rfl];cases l with
 | nil=>rfl
 | cons k r =>
  simp only [jx,zAU];have hx:(L++({c.1 with b:=e},c.2)::f k (L.length+1))++chB f 0 r (L.length+1+(f k (L.length+1)).length)=L++({c.1 with b:=e},c.2)::(f k (L.length+1)++chB f 0 r (L.length+1+(f k (L.length+1)).length)):=by simp
  rw [<-hx,zDc f e r _ _ (by simp;omega)];simp
def OwnC (w:World) (B:Nat) (v:Value) (cs:List (Nat × Nat × Nat)):Prop:=w.ownsRow B 1 1 v cs.length (cs.map λc=>clV c.1 c.2.1 c.2.2)
theorem zP3:(prog.info? 1).map (λi=>(i.zero,i.size,i.bytes))=some (some Value.nilFunc,1,8):=by kernel_rfl
theorem zGJ {ops:Array Oper} {rest:List Oper} {o:Oper} {a:Act} {Q:Exit->Act->World->Prop} (hgd:o.guard=none) (s x:Operand) (ho:o.op=.call {callee:=.builtin .append,args:=#[s,x],argTypes:=#[302,302]})
  (w:World) (B:Nat) (hB:B<=w.heap.size) (v:Value) (A:List (Nat × Nat × Nat)) (hs:a.eval s=v) (hown:OwnC w B v A) (g:Nat) (y:Nat × Nat × Nat) (hx:a.eval x=.slice (some ⟨g,0,none⟩) 1 1) (hat:w.cell? ⟨g,0,none⟩=some (clV y.1 y.2.1 y.2.2)) (hl:True->A.length<=1000)
  (h:∀ v' w',OwnC w' B v' (A++[y])->w.grownBy w' v.ownBlock->(v'.ownBlock=v.ownBlock \/ v'.ownBlock=some w.heap.size)->wpList prog ops Q rest (a.put o.dst v') w'):wpList prog ops Q (o::rest) a w:=by
 obtain ⟨i0,hi0,hz0,hz1,hz2⟩:=info_parts zP3;have hl:=hl trivial;refine wpList_plain hgd λK hK=>?_
 have hnews:∀ j u,([clV y.1 y.2.1 y.2.2])[j]? = some u->w.cell? ((⟨g,0,none⟩:Addr).add j)=some u:=λj u hj=>by
  cases j with
  | zero=>simp only [List.getElem?_cons_zero,Option.some.injEq] at hj;subst hj;exact hat
  | succ j=>simp at hj
 obtain ⟨v',w',hr,own,hg,_,hb⟩:=run_append_own_at (P:=prog) w B 302 o.type 1 i0 _ 1 8 underlying302 hi0 hz0 hz1 hz2 rfl (by decide) v A.length (A.map λc:Nat × Nat × Nat=>clV c.1 c.2.1 c.2.2) hown ⟨g,0,none⟩ 1 1 [clV y.1 y.2.1 y.2.2] rfl hnews (λu hu=>by simp at hu;subst hu;rfl) (by unfold maxLen;omega) (by omega) hB;unfold Oper.wp execOp;simp only [ho,resolve,invoke,builtin,Sem.run_bind,Sem.run_pure,Result.andThen_ok,List.map_toArray,List.map_cons,List.map_nil,hs,hx,hr];refine hK _ _ (h v' w' ?_ hg hb);unfold OwnC;rw [List.length_append,List.map_append];exact own
theorem zO2 (w:World) (y:Nat × Nat × Nat) (B:Nat) (hB:B<=w.heap.size):OwnC (w.alloc (.cells #[clV y.1 y.2.1 y.2.2] 1)) B (.slice (some ⟨w.heap.size,0,none⟩) 1 1) [y]:=by
 refine ⟨rfl,.inr ⟨w.heap.size,1,#[clV y.1 y.2.1 y.2.2],rfl,hB,heap_alloc_new w _,Nat.le_refl _,by unfold maxLen;omega,rfl,rfl⟩⟩
theorem OwnC.slice {v:Value} {A:List (Nat × Nat × Nat)} (h:OwnC w B v A):∃ a c,v=.slice a A.length c:=by
 rcases h.2 with ⟨e,h0⟩ | ⟨g,cap,cur,e,_⟩
 ·exact ⟨none,0,by rw [e,h0]⟩
 ·exact ⟨_,_,e⟩
open Go.RowKit Wf
section
variable (own:Int) (nm:List ByteArray) (av2:Option Addr) (m2 cap2:Nat)
def BrC (n:Nat):Prop:=∀ (t:Tr n) (sl:Value) (ps:List (Tr n × Value)) (av:Option Addr) (m cap lo hi k B:Nat) (T:Nat->Nat) (w:World) (L:List I) (lv:Value) (P:List (Wc.In × Value)),Wr own nm n t->PA n lo hi w t sl->m=ps.length->ps.length<=30->(∀ p ∈ ps,Wr own nm n p.1)->(∀ p ∈ ps,PA n lo hi w p.1 p.2)->RdQ w av (ps.map λp=>(hd n p.1,p.2))->(∀ bb off,av=some ⟨bb,off,none⟩->bb<hi)->En own nm av2 m2 cap2 k B T hi w->WS k B T w (.int .i64 own) (.slice av2 m2 cap2) L lv P->L.length+(zCu (cod own nm n) t (ps.map (·.1)) L.length).length<=900000 ->
 Calls prog 184 #[.pointer (some ⟨k,0,none⟩),.agg (zAI (hd n t) sl).toArray,.slice av m cap] w (WP k B T (.int .i64 own) (.slice av2 m2 cap2) (L++zCu (cod own nm n) t (ps.map (·.1)) L.length) lv w)
end
theorem RdQ.frq {S:List Nat} {av:Option Addr} {L:List (Wt.Nd × Value)} (h:RdQ w av L) (hf:Fr S w w') (hn:∀ bb off,av=some ⟨bb,off,none⟩->bb ∉ S):RdQ w' av L:=λi hi=>by
 obtain ⟨bb,off,e,hr⟩:=h i hi;exact ⟨bb,off,e,hf.range hr (hn bb off e)⟩
theorem zKc (own:Int) (nm:List ByteArray) (av2:Option Addr) (m2 cap2 n:Nat) (ih:PtC own nm av2 m2 cap2 n):BrC own nm av2 m2 cap2 n:=by
 intro t sl ps av m cap lo hi k B T w L lv P hw hpa hm hl hwp hpap hrd hav hen hws hbd;have al:=zGp own nm av2 m2 cap2 n ih;obtain ⟨sa,sb,sc,rfl⟩:=hpa.slice;obtain ⟨y,hy⟩:∃ y,cod own nm n t (L.length+1)=y:=⟨_,rfl⟩
 obtain ⟨z,hz⟩:∃ z,(if ps.isEmpty then [zCQ zNh] else zA1 (cod own nm n) (ps.map (·.1)) (L.length+1+y.length+1))=z:=⟨_,rfl⟩
 have hLF:L++zCu (cod own nm n) t (ps.map (·.1)) L.length=L++ins 12 (L.length+1+y.length+1:Nat) (L.length+1+y.length+1+z.length:Nat)::(y++ins 13 (L.length+1+y.length+1+z.length:Nat) 0::z):=by
  have he:(ps.map (·.1)).isEmpty=ps.isEmpty:=by cases ps <;> rfl
  simp only [zCu,hy,he,hz]
 have hbd2:L.length+1+y.length+1+z.length<=900000:=by
  have:=congrArg List.length hLF;simp only [List.length_append,List.length_cons] at this;omega
 rw [hLF];have hb0:=zAH (Below.refl _ w) (.cells (zAI (hd n t) (.slice sa sb sc)).toArray 188);have rP0:=(AtL.new0 w 188 (zAI (hd n t) (.slice sa sb sc))).range;have h0B:∀ j,lv.ownBlock=some j->B<=j:=λj e=>(zAL hws.own e).1
 have h0s:∀ j,lv.ownBlock=some j->j<w.heap.size:=λj e=>(zAL hws.own e).2
 have st0:=(St.init hen hws).below hb0;have HPT:Hid (∀ (W:World) (lv1:Value) (P1:List (Wc.In × Value)),St own nm av2 m2 cap2 k B T hi w lv W (L++[ins 12 0 0]) lv1 P1->Calls prog 102 #[.pointer (some ⟨k,0,none⟩),.agg (zAI (hd n t) (.slice sa sb sc)).toArray] W (WP k B T (.int .i64 own) (.slice av2 m2 cap2) (L++ins 12 0 0::y) lv1 W)):=λW lv1 P1 st=>by
  have hc:cod own nm n t (L++[ins 12 0 0]).length=y:=by rw [<-hy];simp
  have:=ih t (.slice sa sb sc) lo hi k B T W (L++[ins 12 0 0]) lv1 P1 hw (PA.kept (st.kept h0B) n _ _ hpa) st.en st.ws (by rw [hc];simp;omega);rw [hc,List.append_assoc] at this;exact this
 have HAL:Hid (∀ (W:World) (L3:List I) (lv1:Value) (P1:List (Wc.In × Value)),L3.length=L.length+1+y.length+1->St own nm av2 m2 cap2 k B T hi w lv W L3 lv1 P1->Calls prog 134 #[.pointer (some ⟨k,0,none⟩),.slice av m cap] W (WP k B T (.int .i64 own) (.slice av2 m2 cap2) (L3++zA1 (cod own nm n) (ps.map (·.1)) (L.length+1+y.length+1)) lv1 W)):=λW L3 lv1 P1 hL3 st=>by
  have hsz:(zA1 (cod own nm n) (ps.map (·.1)) (L.length+1+y.length+1)).length<=z.length:=by
   rw [<-hz];cases ps with
   | nil=>simp [zA1]
   | cons p r=>simp
  have:=al ps av m cap lo hi k B T W L3 lv1 P1 hm hl hwp (λp hp=>PA.kept (st.kept h0B) n _ _ (hpap p hp)) (hrd.frq st.fr (λbb off e hmm=>by
   have h9:=hav bb off e;have:=hen.hk;have:=hen.kB;rcases List.mem_cons.1 hmm with q | q
   ·omega
   ·have:=h0B bb (by simpa using q);omega)) (λ_ bb off e j ej=>by have:=hav bb off e;have:=hen.hk;have:=hen.kB;have:=(zAL st.ws.own ej).1;omega) (λ_ bb off e=>by have:=hav bb off e;have:=hen.hk;have:=hen.kB;have:=st.en.hB;omega) st.en st.ws (by rw [hL3];omega)
  rw [hL3] at this;exact this
 have HZ:Hid ((m=0->ps=[]/\z=[zCQ zNh]/\zA1 (cod own nm n) (ps.map (·.1)) (L.length+1+y.length+1)=[])/\(m ≠ 0->zA1 (cod own nm n) (ps.map (·.1)) (L.length+1+y.length+1)=z)):=by
  refine ⟨λh=>?_,λh=>?_⟩
  ·have hp:ps=[]:=List.eq_nil_of_length_eq_zero (by omega);subst hp;exact ⟨rfl,hz.symm,rfl⟩
  ·rw [<-hz];cases ps with
   | nil=>simp at hm;omega
   | cons p r=>simp
 have HBD:Hid (L.length+1+y.length+1+z.length<=900000):=hbd2;generalize zA1 (cod own nm n) (ps.map (·.1)) (L.length+1+y.length+1)=sq at *;generalize hd n t=x at *;have HST0:Hid (St own nm av2 m2 cap2 k B T hi w lv (w.alloc (.cells (zAI x (.slice sa sb sc)).toArray 188)) L lv P):=st0;have HRP0:Hid ((w.alloc (.cells (zAI x (.slice sa sb sc)).toArray 188)).rangeAt w.heap.size 0 (zAI x (.slice sa sb sc))):=rP0;have HKS:Hid (k<w.heap.size/\∀ j,lv.ownBlock=some j->j<w.heap.size):=⟨by have:=hen.kB;have:=hen.hB;omega,h0s⟩
 clear hy hz hLF hbd hbd2 hw hpa hm hl hwp hpap hrd hav hen hws ih al hb0 h0B h0s st0 rP0;go_enter func184,ntmps184;go_upto_region 1 with fail
 generalize (w.alloc (.cells (zAI x (.slice sa sb sc)).toArray 188))=W at *;have LA:=zAs k B T (ins 12 0 0).1 _ _ L lv P W HST0.out.ws HST0.out.en.kB HST0.out.en.hB (by have:=HBD.out;omega);go_wp2_with (first | (refine zAb rfl 12 rfl ?_))
 refine LA.mono ?_;rintro e w1 ⟨⟨lv1,P1,rfl,ws1,nx1⟩,fr1⟩;have HST1:Hid (St own nm av2 m2 cap2 k B T hi w lv w1 (L++[ins 12 0 0]) lv1 P1):=HST0.out.step fr1 nx1 ws1;have HRP1:Hid (w1.rangeAt w.heap.size 0 (zAI x (.slice sa sb sc))):=fr1.range HRP0.out (λhm=>by
  rcases List.mem_cons.1 hm with q | q
  ·have:=HKS.out.1;omega
  ·have:=HKS.out.2 w.heap.size (by simpa using q);omega)
 clear LA ws1 nx1 fr1 HST0 HRP0;have LT:=zCi k B 203 T _ _ _ lv1 P1 w1 HST1.out.ws (by simp) (by have:=HBD.out;simp;omega);rw [show (L++[ins 12 0 0]).length - 1=L.length from by simp] at LT;go_wp2_with fail
 refine LT.mono ?_;rintro e w2 ⟨⟨bi1,bw1,ba1,rfl,pd1⟩,hb2⟩;have HST2:Hid (St own nm av2 m2 cap2 k B T hi w lv w2 (L++[ins 12 0 0]) lv1 P1):=HST1.out.below hb2;have HRP2:Hid (w2.rangeAt w.heap.size 0 (zAI x (.slice sa sb sc))):=zAF hb2 HRP1.out;have HP1:Hid (Pd k w2 lv1 203 L.length bi1 bw1 ba1):=pd1;clear LT pd1 hb2 HST1 HRP1;have LT:=zCi k B 204 T _ _ _ lv1 P1 w2 HST2.out.ws (by simp) (by have:=HBD.out;simp;omega);rw [show (L++[ins 12 0 0]).length - 1=L.length from by simp] at LT;go_wp2_with fail
 refine LT.mono ?_;rintro e w3 ⟨⟨bi2,bw2,ba2,rfl,pd2⟩,hb3⟩;have HST3:Hid (St own nm av2 m2 cap2 k B T hi w lv w3 (L++[ins 12 0 0]) lv1 P1):=HST2.out.below hb3;have rP:=zAF hb3 HRP2.out;have HP1b:Hid (Pd k w3 lv1 203 L.length bi1 bw1 ba1):=HP1.out.below hb3;have HP2:Hid (Pd k w3 lv1 204 L.length bi2 bw2 ba2):=pd2;clear LT pd2 hb3 HST2 HRP2 HP1;have PT:=HPT.out w3 lv1 P1 HST3.out;go_wp2_with (first | (refine zAB (by rfl) 188 (.tmp 4) rfl w.heap.size 0 rfl (zAI x (.slice sa sb sc)) _ rP underlying188 rfl (by kernel_rfl) ?_))
 refine PT.mono ?_;rintro e w4 ⟨⟨lv4,P4,rfl,ws4,nx4⟩,fr4⟩;have HST4:Hid (St own nm av2 m2 cap2 k B T hi w lv w4 (L++ins 12 0 0::y) lv4 P4):=HST3.out.step fr4 nx4 ws4;have HP1:Hid (Pd k w4 lv4 203 L.length bi1 bw1 ba1):=HP1b.out.step fr4 nx4;have HP2b:Hid (Pd k w4 lv4 204 L.length bi2 bw2 ba2):=HP2.out.step fr4 nx4;clear PT rP ws4 nx4 fr4 HST3 HP1b HP2 HPT;have JU:=zJY k B T _ _ _ lv4 P4 w4 HST4.out.ws HST4.out.en.kB HST4.out.en.hB (by have:=HBD.out;simp;omega);go_wp2_with fail
 refine JU.mono ?_;rintro e w5 ⟨⟨bi3,bw3,ba3,lv5,P5,rfl,pd3,_,ws5,nx5⟩,fr5⟩;have HST5:Hid (St own nm av2 m2 cap2 k B T hi w lv w5 ((L++ins 12 0 0::y)++[ins 13 0 0]) lv5 P5):=HST4.out.step fr5 nx5 ws5;have HP1b:Hid (Pd k w5 lv5 203 L.length bi1 bw1 ba1):=HP1.out.step fr5 nx5;have HP2:Hid (Pd k w5 lv5 204 L.length bi2 bw2 ba2):=HP2b.out.step fr5 nx5;have HP3:Hid (Pd k w5 lv5 203 (L++ins 12 0 0::y).length bi3 bw3 ba3):=pd3;clear JU pd3 ws5 nx5 fr5 HST4 HP1 HP2b;have CA:=pdA k B T _ _ _ (L++ins 12 (L.length+1+y.length+1:Nat) 0::(y++[ins 13 0 0])) lv5 P5 w5 L.length bi1 bw1 ba1 HST5.out.ws HST5.out.en.kB (by have:=HBD.out;simp;omega) HP1b.out L (y++[ins 13 0 0]) (ins 12 0 0) (by simp) rfl ((L.length+1+y.length+1:Nat):Int) (by simp;omega) rfl;have eg:=zNA;go_wp2_with (first | (go_at_call 234;refine CA.mono ?_;rintro e w6 ⟨⟨P6,rfl,ws6⟩,fr6⟩;clear CA))
 have HST6:Hid (St own nm av2 m2 cap2 k B T hi w lv w6 (L++ins 12 (L.length+1+y.length+1:Nat) 0::(y++[ins 13 0 0])) lv5 P6):=HST5.out.patch fr6 ws6;have HP2b:Hid (Pd k w6 lv5 204 L.length bi2 bw2 ba2):=HP2.out.patch fr6;have HP3b:Hid (Pd k w6 lv5 203 (L++ins 12 0 0::y).length bi3 bw3 ba3):=HP3.out.patch fr6;clear ws6 fr6 HST5 HP1b HP2 HP3;have AL:=HAL.out w6 _ lv5 P6 (by simp;omega) HST6.out;refine AL.mono ?_;rintro e w7 ⟨⟨lv7,P7,rfl,ws7,nx7⟩,fr7⟩;have HST7:Hid (St own nm av2 m2 cap2 k B T hi w lv w7 ((L++ins 12 (L.length+1+y.length+1:Nat) 0::(y++[ins 13 0 0]))++sq) lv7 P7):=HST6.out.step fr7 nx7 ws7;have HP2:Hid (Pd k w7 lv7 204 L.length bi2 bw2 ba2):=HP2b.out.step fr7 nx7;have HP3:Hid (Pd k w7 lv7 203 (L++ins 12 0 0::y).length bi3 bw3 ba3):=HP3b.out.step fr7 nx7;clear AL ws7 nx7 fr7 HST6 HP2b HP3b HAL;have HEND:Hid (∀ (w8:World) (lv8:Value) (P8:List (Wc.In × Value)),St own nm av2 m2 cap2 k B T hi w lv w8 (L++ins 12 (L.length+1+y.length+1:Nat) 0::(y++ins 13 0 0::z)) lv8 P8->Pd k w8 lv8 203 (L++ins 12 0 0::y).length bi3 bw3 ba3->Calls prog 234 #[.pointer (some ⟨bi3,0,none⟩),.pointer (some ⟨bw3,0,none⟩),.pointer (some ⟨ba3,0,none⟩)] w8 λe w'=>(∃ P',e=.returned (.tuple #[])/\WS k B T w' (.int .i64 own) (.slice av2 m2 cap2) (L++ins 12 (L.length+1+y.length+1:Nat) 0::(y++ins 13 (L.length+1+y.length+1+z.length:Nat) 0::z)) lv8 P')/\Fr lv8.ownBlock.toList w8 w'):=λw8 lv8 P8 st pd =>
  pdA k B T _ _ _ _ lv8 P8 w8 _ bi3 bw3 ba3 st.ws st.en.kB (by have:=HBD.out;simp;omega) pd (L++ins 12 (L.length+1+y.length+1:Nat) 0::y) z (ins 13 0 0) (by simp) (by simp) ((L.length+1+y.length+1+z.length:Nat):Int) (by simp;omega) (by simp [ins])
 have HEN2:Hid (∀ (w8:World) (lv8:Value) (P8:List (Wc.In × Value)),St own nm av2 m2 cap2 k B T hi w lv w8 (L++ins 12 (L.length+1+y.length+1:Nat) 0::(y++ins 13 (L.length+1+y.length+1+z.length:Nat) 0::z)) lv8 P8->Pd k w8 lv8 204 L.length bi2 bw2 ba2->Calls prog 234 #[.pointer (some ⟨bi2,0,none⟩),.pointer (some ⟨bw2,0,none⟩),.pointer (some ⟨ba2,0,none⟩)] w8 λe w'=>(∃ P',e=.returned (.tuple #[])/\WS k B T w' (.int .i64 own) (.slice av2 m2 cap2) (L++ins 12 (L.length+1+y.length+1:Nat) (L.length+1+y.length+1+z.length:Nat)::(y++ins 13 (L.length+1+y.length+1+z.length:Nat) 0::z)) lv8 P')/\Fr lv8.ownBlock.toList w8 w'):=λw8 lv8 P8 st pd =>
  pdB k B T _ _ _ _ lv8 P8 w8 _ bi2 bw2 ba2 st.ws st.en.kB (by have:=HBD.out;simp;omega) pd L (y++ins 13 (L.length+1+y.length+1+z.length:Nat) 0::z) (ins 12 (L.length+1+y.length+1:Nat) 0) rfl rfl ((L.length+1+y.length+1+z.length:Nat):Int) (by simp;omega) rfl
 by_cases h0:m=0
 ·subst h0;obtain ⟨_,z1,z2⟩:=HZ.out.1 rfl;have HST7b:Hid (St own nm av2 m2 cap2 k B T hi w lv w7 (L++ins 12 (L.length+1+y.length+1:Nat) 0::(y++[ins 13 0 0])) lv7 P7):=by
   have:=HST7.out;rw [z2,List.append_nil] at this;exact this
  have HZ1:Hid (z=[zCQ zNh]):=z1;have TR:=zCN false w7;unfold vlV at TR;clear z1 z2 HST7 HZ;go_wp2_with fail
  refine TR.mono ?_;rintro e w8 ⟨rfl,hb8⟩;have HST8:Hid (St own nm av2 m2 cap2 k B T hi w lv w8 (L++ins 12 (L.length+1+y.length+1:Nat) 0::(y++[ins 13 0 0])) lv7 P7):=HST7b.out.below hb8;have HP2b:Hid (Pd k w8 lv7 204 L.length bi2 bw2 ba2):=HP2.out.below hb8;have HP3b:Hid (Pd k w8 lv7 203 (L++ins 12 0 0::y).length bi3 bw3 ba3):=HP3.out.below hb8;have PU:=zGT k B T (zA8 false) _ _ _ lv7 P7 w8 HST8.out.ws HST8.out.en.kB HST8.out.en.hB (by have:=HBD.out;simp;omega);clear TR hb8 HST7b HP2 HP3;generalize hvt:zA8 false=vt at *;have HVT:Hid (zA8 false=vt):=hvt;clear hvt;go_wp2_with fail
  refine PU.mono ?_;rintro e w9 ⟨⟨lv9,P9,rfl,ws9,nx9⟩,fr9⟩;have HST9:Hid (St own nm av2 m2 cap2 k B T hi w lv w9 (L++ins 12 (L.length+1+y.length+1:Nat) 0::(y++ins 13 0 0::z)) lv9 P9):=by
   have h9:=HST8.out.step fr9 nx9 ws9;rw [<-HVT.out,show zA8 false=zNh from rfl] at h9;rw [HZ1.out];have e9:(L++ins 12 (L.length+1+y.length+1:Nat) 0::(y++[ins 13 0 0]))++[zCQ zNh]=L++ins 12 (L.length+1+y.length+1:Nat) 0::(y++ins 13 0 0::[zCQ zNh]):=by simp
   rw [e9] at h9;exact h9
  have HP2:Hid (Pd k w9 lv9 204 L.length bi2 bw2 ba2):=HP2b.out.step fr9 nx9;have HP3:Hid (Pd k w9 lv9 203 (L++ins 12 0 0::y).length bi3 bw3 ba3):=HP3b.out.step fr9 nx9;clear PU ws9 nx9 fr9 HST8 HP2b HP3b HZ1 HVT;have CA:=HEND.out w9 lv9 P9 HST9.out HP3.out;go_upto_region 10 with (first | (go_at_call 234;refine CA.mono ?_;rintro e w10 ⟨⟨P10,rfl,ws10⟩,fr10⟩;clear CA))
  have HST10:Hid (St own nm av2 m2 cap2 k B T hi w lv w10 (L++ins 12 (L.length+1+y.length+1:Nat) 0::(y++ins 13 (L.length+1+y.length+1+z.length:Nat) 0::z)) lv9 P10):=HST9.out.patch fr10 ws10;have HP2b:Hid (Pd k w10 lv9 204 L.length bi2 bw2 ba2):=HP2.out.patch fr10;clear ws10 fr10 HST9 HP2 HP3;have CB:=HEN2.out w10 lv9 P10 HST10.out HP2b.out;go_wp2_with (first | (go_at_call 234;refine CB.mono ?_;rintro e w11 ⟨⟨P11,rfl,ws11⟩,fr11⟩;clear CB))
  have HR:Hid (WP k B T (.int .i64 own) (.slice av2 m2 cap2) _ lv w (.returned (.tuple #[])) w11):=(HST10.out.patch fr11 ws11).wp;clear ws11 fr11 HST10 HP2b;go_end0
  exact HR.out
 ·have HST9:Hid (St own nm av2 m2 cap2 k B T hi w lv w7 (L++ins 12 (L.length+1+y.length+1:Nat) 0::(y++ins 13 0 0::z)) lv7 P7):=by
   have h9:=HST7.out;rw [HZ.out.2 h0] at h9;have e9:(L++ins 12 (L.length+1+y.length+1:Nat) 0::(y++[ins 13 0 0]))++z=L++ins 12 (L.length+1+y.length+1:Nat) 0::(y++ins 13 0 0::z):=by simp
   rw [e9] at h9;exact h9
  have hm0:¬ (m:Int)=0:=by omega
  clear HST7 HZ;have CA:=HEND.out w7 lv7 P7 HST9.out HP3.out;go_upto_region 10 with (first | (go_at_call 234;refine CA.mono ?_;rintro e w10 ⟨⟨P10,rfl,ws10⟩,fr10⟩;clear CA))
  have HST10:Hid (St own nm av2 m2 cap2 k B T hi w lv w10 (L++ins 12 (L.length+1+y.length+1:Nat) 0::(y++ins 13 (L.length+1+y.length+1+z.length:Nat) 0::z)) lv7 P10):=HST9.out.patch fr10 ws10;have HP2b:Hid (Pd k w10 lv7 204 L.length bi2 bw2 ba2):=HP2.out.patch fr10;clear ws10 fr10 HST9 HP2 HP3;have CB:=HEN2.out w10 lv7 P10 HST10.out HP2b.out;go_wp2_with (first | (go_at_call 234;refine CB.mono ?_;rintro e w11 ⟨⟨P11,rfl,ws11⟩,fr11⟩;clear CB))
  have HR:Hid (WP k B T (.int .i64 own) (.slice av2 m2 cap2) _ lv w (.returned (.tuple #[])) w11):=(HST10.out.patch fr11 ws11).wp;clear ws11 fr11 HST10 HP2b;go_end0
  exact HR.out
open Go.RowKit Wf
def PdL (k:Nat) (w:World) (lv:Value) (es:List (Nat × Nat)) (cs:List (Nat × Nat × Nat)):Prop:=es.length=cs.length/\∀ j (h:j<es.length) (h':j<cs.length),Pd k w lv (es[j]).1 (es[j]).2 (cs[j]).1 (cs[j]).2.1 (cs[j]).2.2
def zHu (cs:List (Nat × Nat × Nat)):List Nat:=cs.flatMap λc=>[c.1,c.2.1,c.2.2]
theorem PdL.mapP (h:PdL k w lv es cs) (hm:∀ f a b1 b2 b3,(b1,b2,b3) ∈ cs->Pd k w lv f a b1 b2 b3->Pd k w' lv' f a b1 b2 b3):PdL k w' lv' es cs:=⟨h.1,λj h1 h2=>hm _ _ _ _ _ (List.getElem_mem h2) (h.2 j h1 h2)⟩
theorem PdL.snoc (h:PdL k w lv es cs) {q:Nat × Nat} {c:Nat × Nat × Nat} (hp:Pd k w lv q.1 q.2 c.1 c.2.1 c.2.2):PdL k w lv (es++[q]) (cs++[c]):=by
 refine ⟨by simp [h.1],λj h1 h2=>?_⟩;by_cases hj:j<es.length
 ·rw [List.getElem_append_left hj,List.getElem_append_left (by rw [<-h.1];exact hj)];exact h.2 j hj _
 ·have e:j=es.length:=by simp at h1;omega
  subst e;have e1:(es++[q])[es.length]=q:=by simp
  have e2:(cs++[c])[es.length]=c:=by simp [h.1]
  rw [e1,e2];exact hp
theorem zNg {tv:Value} {t0:Int} {tl:List Int} (h:OwnZ w B tv (t0::tl)) {b:Nat} {u:Value} (hc:w.cell? ⟨b,0,none⟩=some u) (hu:u ≠ .int .i64 t0):¬ tv.ownBlock=some b:=λe=>by
 have:=h.cells e 0 (.int .i64 t0) rfl;have e0:(⟨b,0,none⟩:Addr).add 0=⟨b,0,none⟩:=rfl;rw [e0,hc] at this;exact hu (by simpa using this)
theorem Pd.ne_to {a b1 b2 b3:Nat} (h:Pd k w lv f a b1 b2 b3) {B:Nat} {tv:Value} {t0:Int} {tl:List Int} (ho:OwnZ w B tv (t0::tl)) (ha:t0 ≠ (a:Int)):∀ b ∈ [b1,b2,b3],¬ tv.ownBlock=some b:=λb hb=>by
 simp at hb;rcases hb with rfl | rfl | rfl
 ·exact zNg ho h.c1 (by simp)
 ·exact zNg ho h.c2 (by simp)
 ·exact zNg ho h.c3 (by simpa using λe=>ha e.symm)
theorem zOv (k B:Nat) (T:Nat->Nat) (x:Wc.In) (s0 s1:Value) (L:List I) (lv:Value) (P:List (Wc.In × Value)) (w:World) (h:WS k B T w s0 s1 L lv P) (hkB:k<B) (hB:B<=w.heap.size) (hl:L.length<=1000000) :
  Calls prog 103 #[.pointer (some ⟨k,0,none⟩),.agg (zAM x zAV).toArray] w λe w'=>(∃ lv' P',e=.returned (.tuple #[])/\WS k B T w' s0 s1 (L++[(x,[])]) lv' P'/\Nx w lv lv'/\∀ h:L.length<P'.length,(P'[L.length]).2=zAV)/\Fr (k::lv.ownBlock.toList) w w':=by
 have h1:=zJx k B x s0 s1 lv P w h.at' h.own hkB hB (by rw [h.len];exact hl);have h2:=zAs k B T x s0 s1 L lv P w h hkB hB hl;refine h1.mono ?_;rintro e w' ⟨⟨lv',rfl,ha,ho,hn⟩,hf⟩;have hws:WS k B T w' s0 s1 (L++[(x,[])]) lv' (P++[(x,zAV)]):=by
  refine ⟨ha,ho,by simp [h.len],λi h1 h2=>?_,h.tb,λi j h1 h2 b e1 e2=>?_⟩
  ·by_cases hi:i<P.length
   ·have hi2:i<L.length:=by rw [<-h.len];exact hi
    rw [List.getElem_append_left hi,List.getElem_append_left hi2];refine ⟨(h.ins i hi hi2).1,zAZ hf (h.ins i hi hi2).2 (λb e hm=>?_)⟩;rcases List.mem_cons.1 hm with q | q
    ·have:=(zAL (h.ins i hi hi2).2 e).1;have:=h.tb i;omega
    ·exact zBR (h.ins i hi hi2).2 h.own (by decide) e (by simpa using q)
   ·have e1:i=P.length:=by simp at h1;omega
    subst e1;have e2:(P++[(x,zAV)])[P.length]=(x,zAV):=by simp
    have e3:(L++[(x,([]:List Int))])[P.length]=(x,[]):=by simp [h.len]
    rw [e2,e3];exact ⟨rfl,OwnZ.nil _ _⟩
  ·have hx:∀ i (h1:i<(P++[(x,zAV)]).length),((P++[(x,zAV)])[i]).2.ownBlock=some b->i<P.length:=λi h1 e=>by
    rcases Nat.lt_or_ge i P.length with q | q
    ·exact q
    ·have e0:i=P.length:=by simp at h1;omega
     subst e0;have e2:(P++[(x,zAV)])[P.length]=(x,zAV):=by simp
     rw [e2] at e;cases e
   have a1:=hx i h1 e1;have a2:=hx j h2 e2;rw [List.getElem_append_left a1] at e1;rw [List.getElem_append_left a2] at e2;exact h.dis i j a1 a2 b e1 e2
 exact ⟨⟨lv',P++[(x,zAV)],rfl,hws,hn,λ_=>by simp [<-h.len]⟩,hf⟩
theorem St.other {own:Int} {nm:List ByteArray} {av2:Option Addr} {m2 cap2 hi:Nat} {T:Nat->Nat} {w0:World} {lv0:Value} {L:List I} {P:List (Wc.In × Value)} (h:St own nm av2 m2 cap2 k B T hi w0 lv0 w L lv P) {S:List Nat} (f:Fr S w w') (hs:∀ j ∈ S,w0.heap.size<=j/\k<j) (hl:∀ j,lv.ownBlock=some j->j ∉ S) (ht:∀ i (h:i<P.length) b,(P[i]).2.ownBlock=some b->b ∉ S):St own nm av2 m2 cap2 k B T hi w0 lv0 w' L lv P :=
 ⟨h.en.fr f (λj hj=>Nat.le_of_lt (hs j hj).2),h.ws.fr f (λhm=>by have:=(hs k hm).2;omega) hl ht,h.nx,h.fr.new f (λj hj=>Or.inr (hs j hj).1)⟩
abbrev C0:Wc.In:=⟨15,0,0,v0I,c0I,a0I,a0I⟩
structure ChS (own:Int) (nm:List ByteArray) (av2:Option Addr) (m2 cap2 k B:Nat) (T:Nat->Nat) (hi n:Nat) (w:World) (lv:Value) (L:List I) (ks:List (Tr n)) (b1 b2 b3 i:Nat) (wr:World) (ev lvi:Value) (Pi:List (Wc.In × Value)) (cs:List (Nat × Nat × Nat)):Prop where
 st:St own nm av2 m2 cap2 k B T hi w lv wr (L++(C0,toC (cod own nm n) (ks.take i) (L.length+1))::zAU (cod own nm n) 0 (ks.take i) (L.length+1)) lvi Pi
 oc:OwnC wr B ev cs
 pb:Pd k wr lvi 206 L.length b1 b2 b3
 pl:PdL k wr lvi ((204,L.length)::(jx (cod own nm n) (ks.take i) (L.length+1)).map (λp=>(203,p))) cs
 ne:∀ b ∈ [b1,b2,b3]++zHu cs,¬ ev.ownBlock=some b
 eb:∀ j,ev.ownBlock=some j->w.heap.size<=j
 nl:i=0->∀ h:L.length<Pi.length,(Pi[L.length]).2=zAV
section
variable {own:Int} {nm:List ByteArray} {av2:Option Addr} {m2 cap2 k B hi n:Nat} {T:Nat->Nat} {w:World} {lv:Value} {L:List I} {ks:List (Tr n)} {b1 b2 b3 i:Nat} {wr:World} {ev lvi:Value} {Pi:List (Wc.In × Value)} {cs:List (Nat × Nat × Nat)}
theorem zLW {cs:List (Nat × Nat × Nat)} {c1 c2 c3 b:Nat} (h:(c1,c2,c3) ∈ cs) (hb:b ∈ [c1,c2,c3]):b ∈ zHu cs:=List.mem_flatMap.2 ⟨(c1,c2,c3),h,hb⟩
theorem ChS.below {w':World} (h:ChS own nm av2 m2 cap2 k B T hi n w lv L ks b1 b2 b3 i wr ev lvi Pi cs) (hb:Below wr.heap.size wr w'):ChS own nm av2 m2 cap2 k B T hi n w lv L ks b1 b2 b3 i w' ev lvi Pi cs :=
 ⟨h.st.below hb,zAZ (Fr.of_below [] hb) h.oc (by simp),h.pb.below hb,h.pl.mapP (λf a c1 c2 c3 _ p=>p.below hb),h.ne,h.eb,h.nl⟩
theorem zFs {w':World} (oc:OwnC wr B ev cs) (ws:WS k B T wr (.int .i64 own) (.slice av2 m2 cap2) L lvi Pi) (hkB:k<B) (f:Fr (k::lvi.ownBlock.toList) wr w'):OwnC w' B ev cs :=
 zAZ f oc (λj e hm=>by
  rcases List.mem_cons.1 hm with q | q
  ·have:=(zAL oc e).1;omega
  ·exact zBR oc ws.own (by decide) e (by simpa using q))
end
theorem zHI (own:Int) (nm:List ByteArray) (av2:Option Addr) (m2 cap2 k B:Nat) (T:Nat->Nat) (hi:Nat) (w:World) (lv:Value) (L Y:List I) (tl:List Int) (b1 b2 b3:Nat) (wr:World) (ev lvi:Value) (Pi:List (Wc.In × Value)) (es:List (Nat × Nat)) (cs:List (Nat × Nat × Nat))
  (st:St own nm av2 m2 cap2 k B T hi w lv wr (L++(C0,tl)::Y) lvi Pi) (oc:OwnC wr B ev cs) (pb:Pd k wr lvi 206 L.length b1 b2 b3) (pl:PdL k wr lvi es cs) (ne:∀ b ∈ [b1,b2,b3]++zHu cs,¬ ev.ownBlock=some b) (hl:(L++(C0,tl)::Y).length<=900000) (htl:tl.length<=1000)
  (hto:(tl=[]/\∀ h:L.length<Pi.length,(Pi[L.length]).2=zAV) \/ ∃ r,tl=((L.length+1:Nat):Int)::r) (hes:∀ q ∈ es,q.2 ≠ L.length+1) (hTw:w.heap.size<=T L.length) :
  Calls prog 234 #[.pointer (some ⟨b1,0,none⟩),.pointer (some ⟨b2,0,none⟩),.pointer (some ⟨b3,0,none⟩)] wr λe w'=>(∃ P',e=.returned (.tuple #[])/\St own nm av2 m2 cap2 k B T hi w lv w' (L++(C0,tl++[((L++(C0,tl)::Y).length:Int)])::Y) lvi P'/\OwnC w' B ev cs/\Pd k w' lvi 206 L.length b1 b2 b3/\PdL k w' lvi es cs)/\Fr (lvi.ownBlock.toList++(Pi[L.length]'(by rw [st.ws.len];simp)).2.ownBlock.toList) wr w':=by
 have hat:L.length<(L++(C0,tl)::Y).length:=by simp
 have hatP:L.length<Pi.length:=by rw [st.ws.len];exact hat
 have hx:(L++(C0,tl)::Y)[L.length]=(C0,tl):=by simp
 have hz:=(st.ws.ins L.length hatP hat).2;rw [hx] at hz;have hne:∀ (f a c1 c2 c3:Nat),Pd k wr lvi f a c1 c2 c3->a ≠ L.length+1->∀ b ∈ [c1,c2,c3],b ∉ lvi.ownBlock.toList++(Pi[L.length]).2.ownBlock.toList:=λf a c1 c2 c3 p ha b hb hm=>by
  rcases List.mem_append.1 hm with q | q
  ·exact (p.bd b hb).2.2 (by simpa using q)
  ·have q2:(Pi[L.length]).2.ownBlock=some b:=by simpa using q
   rcases hto with ⟨_,h0⟩ | ⟨r,h0⟩
   ·rw [h0 hatP] at q2;cases q2
   ·rw [h0] at hz;exact p.ne_to hz (by omega) b hb q2
 have hT:=zOL k B T _ _ _ lvi Pi wr L.length b1 b2 b3 st.ws st.en.kB (st.en.tl _) (by omega) hat hatP (by rw [hx];simp only;omega) pb.c1 pb.c2 pb.c3 (hne _ _ _ _ _ pb (by omega));refine hT.mono ?_;rintro e w' ⟨⟨tv',rfl,ws',nx'⟩,fr'⟩;rw [hx,zBL L _ _ Y L.length rfl] at ws';have hge:∀ j ∈ lvi.ownBlock.toList++(Pi[L.length]).2.ownBlock.toList,B<=j:=λj hj=>by
  rcases List.mem_append.1 hj with q | q
  ·exact (zAL st.ws.own (show lvi.ownBlock=some j by simpa using q)).1
  ·have:=(zAL hz (show (Pi[L.length]).2.ownBlock=some j by simpa using q)).1;have:=st.ws.tb L.length;omega
 have hpd:∀ (f a c1 c2 c3:Nat),Pd k wr lvi f a c1 c2 c3->a ≠ L.length+1->Pd k w' lvi f a c1 c2 c3:=λf a c1 c2 c3 p ha=>p.fr fr' (hne f a c1 c2 c3 p ha) (λb hb=>(p.bd b hb).2.2)
 refine ⟨⟨_,rfl,⟨st.en.fr fr' (λj hj=>by have:=hge j hj;have:=st.en.kB;omega),ws',st.nx,?_⟩,zAZ fr' oc (λj e hm=>?_),hpd _ _ _ _ _ pb (by omega),?_⟩,fr'⟩
 ·refine st.fr.new fr' (λj hj=>?_);rcases List.mem_append.1 hj with q | q
  ·rcases st.nx j (by simpa using q) with r | r
   ·exact Or.inl (List.mem_cons_of_mem _ (by simp [r]))
   ·exact Or.inr r
  ·exact Or.inr (Nat.le_trans hTw (zAL hz (show (Pi[L.length]).2.ownBlock=some j by simpa using q)).1)
 ·rcases List.mem_append.1 hm with q | q
  ·exact zBR oc st.ws.own (by decide) e (by simpa using q)
  ·exact zBR oc hz (by decide) e (by simpa using q)
 ·refine ⟨pl.1,λj h1 h2=>hpd _ _ _ _ _ (pl.2 j h1 h2) (hes _ (List.getElem_mem h1))⟩
