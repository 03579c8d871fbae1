/- KAb1, KAb2, KAb3, KApp, KAhd. -/
import Derived.Test.YtcddpgfdadpbgaaGreatDoorQ25
import Derived.Laws.OwnMore
set_option maxHeartbeats 4000000
set_option maxRecDepth 100000
namespace Go.Proofs.YtcddpgfdadpbgaaGreatDoor
open Tryz
open Go.RowKit
set_option linter.unusedVariables false
variable {w w':World} {B:Nat} {v:Value} {A:List Int} {a:Act} {Q:Exit->Act->World->Prop} {P:Program} {fn:Func} {t:Tmp} {ops:Array Oper} {rest:List Oper} {o:Oper}
def ndA:Wt.Nd:=⟨2,Wt.v0,0,⟨#[]⟩,0,Wt.r0,Wt.r0⟩
theorem zFC:(Wt.rfOk ndA.a && eqN ndA ⟨2,Wt.v0,0,⟨#[]⟩,0,ndA.a,Wt.r0⟩)=true:=by kernel_rfl
theorem zEr (g:Nat) (w:World) (h:w.rangeAt g 0 (zA3 ndA)):CR 49 #[.slice (some ⟨g,0,none⟩) 1 1,.int .i64 0] w (.tuple #[.int .i64 1,.int .i64 1,.bool true]):=by
 have RI:CR 76 #[.agg (zA3 ndA).toArray] w (.bool true):=by
  have:=zHm ndA w rfl (by decide);rw [zFC] at this;exact this
 have PA:=λw=>zEb ndA w
 have HPA:Hid (∀ w:World,CR 77 #[.agg (zA3 ndA).toArray] w (.int .i64 0)):=PA;clear PA;generalize ndA=x at *;go_enter func49,ntmps49;go_wp2_with (first | (refine zAA (by rfl) 44 (.tmp 17) rfl g 0 rfl (zA3 x) _ h underlying44 rfl (by kernel_rfl) ?_))
 refine RI.mono ?_;rintro e w1 ⟨rfl,hb1⟩;have h1:=zAK hb1 h;have PA:=HPA.out w1;clear h HPA RI;go_wp2_with (first | (refine zAA (by rfl) 44 (.tmp 26) rfl g 0 rfl (zA3 x) _ h1 underlying44 rfl (by kernel_rfl) ?_))
 refine PA.mono ?_;rintro e w2 ⟨rfl,hb2⟩;have HB:Hid (Below w.heap.size w w2):=zAB hb1 hb2;clear PA h1 hb1 hb2;go_wp2_with fail
 go_loopg [4,5,29] 0 (λgk a b c wr=>a=.int .i64 1/\b=.int .i64 0/\c=.int .i64 0/\gk=0/\w2=wr)
 case atStart=>exact ⟨rfl,rfl,rfl,rfl,rfl⟩
 case round =>
  obtain ⟨rfl,rfl,rfl,hg,rfl⟩:=hrel;go_wp2;go_ret3
  exact ⟨rfl,HB.out⟩
theorem zE8 (g:Nat) (w:World) (h:w.rangeAt g 0 (zA3 ndA)):CR 26 #[.slice (some ⟨g,0,none⟩) 1 1] w (.int .i64 0):=by
 have ME:=zEr g w h;clear h;go_enter func26,ntmps26;go_wp2_with fail
 refine ME.mono ?_;rintro e w1 ⟨rfl,hb1⟩;go_wp2;go_ret;exact ⟨rfl,hb1⟩
theorem zCL {s:Tmp} {T:TypeId} (h:fn.results=#[.cell t T,.tmp s]) (tmps:Array Value) (w:World) (b:Nat) (cs:List Value) (d:TypeDesc) (ht:tmps.getD t undef=.pointer (some ⟨b,0,none⟩)) (hc:w.rangeAt b 0 cs)
  (hu:P.underlying T=some d) (hd:d.isRow=true) (hi:(P.info? T).map (·.size)=some cs.length):(results fn tmps).run P w=.ok (.tuple #[.agg cs.toArray,tmps.getD s undef]) w:=by
 have hl:=run_loadVar_mid (P:=P) w b 0 T cs d hc hu hd hi;have ht':tmps[t]?.getD undef=.pointer (some ⟨b,0,none⟩):=by rw [<-ht];simp
 simp only [results,h];simp [ht',hl,asAddr]
theorem zCE {T:TypeId} (h:fn.results=#[.cell t T]) (tmps:Array Value) (w:World) (b:Nat) (cs:List Value) (d:TypeDesc) (ht:tmps.getD t undef=.pointer (some ⟨b,0,none⟩)) (hc:w.rangeAt b 0 cs)
  (hu:P.underlying T=some d) (hd:d.isRow=true) (hi:(P.info? T).map (·.size)=some cs.length):(results fn tmps).run P w=.ok (.agg cs.toArray) w:=by
 have hl:=run_loadVar_mid (P:=P) w b 0 T cs d hc hu hd hi;have ht':tmps[t]?.getD undef=.pointer (some ⟨b,0,none⟩):=by rw [<-ht];simp
 simp only [results,h];simp [ht',hl,asAddr]
def zA7 (x:Wt.Nd) (sl:Value):List Value:=zA3 x++[sl]
theorem zLE (x:Wt.Nd):∀ v ∈ zA7 x (.slice none 0 0),v.oneCell'=true:=by
 intro v hv;rcases List.mem_append.1 hv with h | h
 ·exact zIP x v h
 ·simp at h;subst h;rfl
theorem zJg (x:Wt.Nd):(zA7 x (.slice none 0 0)).toArray.all (·.oneCell')=true:=all_oneCell_toArray (zLE x)
theorem zLe (x:Wt.Nd) (w:World):(Instr.build 78 #[(0,.agg (zA3 x).toArray)]).run prog w=.ok (.agg (zA7 x (.slice none 0 0)).toArray) w:=by kernel_rfl
theorem zEM {op:Oper} (hgd:op.guard=none) (y:Operand) (ho:op.op=.build 78 #[(0,y)]) (x:Wt.Nd) (hy:a.eval y=.agg (zA3 x).toArray)
  (h:wpList prog ops Q rest (a.put op.dst (.agg (zA7 x (.slice none 0 0)).toArray)) w):wpList prog ops Q (op::rest) a w:=by
 refine wpList_plain hgd λK hK=>?_
 unfold Oper.wp execOp;simp only [ho,List.map_toArray,List.map_cons,List.map_nil,hy,Sem.run_bind,Sem.run_pure,Result.andThen_ok,zLe];exact hK _ _ h
theorem zKE {k:Nat} {x:Wt.Nd} {sl:Value} (h:w.rangeAt k 0 (zA7 x sl)):w.rangeAt k 0 (zA3 x):=λj v hv=>h j v (by
 unfold zA7;have hj:j<(zA3 x).length:=by
  rcases Nat.lt_or_ge j (zA3 x).length with q | q
  ·exact q
  ·rw [List.getElem?_eq_none q] at hv;cases hv
 rw [List.getElem?_append_left hj];exact hv)
theorem zGF (w:World):CR 51 #[.agg (zA3 ndA).toArray] w (.int .i64 0):=by
 have p:=AtL.new0 w 44 (zA3 ndA);have hb:=zAJ (Below.refl _ w) (.cells (zA3 ndA).toArray 44);have c0:(w.alloc (.cells (zA3 ndA).toArray 44)).cell? ⟨w.heap.size,0,none⟩=some (.int .i64 2):=p.2.1 0 _ rfl;have c9:(w.alloc (.cells (zA3 ndA).toArray 44)).cell? ⟨w.heap.size,9,none⟩=some (.int .i64 0):=p.2.1 9 _ rfl;clear p;generalize ndA=x at *;go_enter func51,ntmps51;go_upto_region 1 with fail
 generalize (w.alloc (.cells (zA3 x).toArray 44))=W at *;go_wp2;go_ret;exact ⟨rfl,hb⟩
abbrev zeros21:Array Value:=#[.int .i64 0,.int .i64 0,.int .i64 0,.int .i64 0,.string ⟨#[]⟩,.bool false,.int .i64 0,.int .i64 0,.string ⟨#[]⟩,.int .i64 0,.string ⟨#[]⟩,.int .i64 0,.int .i64 0,.bool false,.bool false,.string ⟨#[]⟩,.int .i64 0,.int .i64 0,.bool false,.bool false,.slice none 0 0]
theorem zH1 (g:Nat) (w:World) (h:w.rangeAt g 0 (zA3 ndA)):Calls prog 28 #[.slice (some ⟨g,0,none⟩) 1 1] w λe w'=>(∃ s,e=.returned (.tuple #[.agg (zA7 ndA (.slice none 0 0)).toArray,s]))/\Below w.heap.size w w':=by
 have HCO:Hid (∀ w:World,CR 51 #[.agg (zA3 ndA).toArray] w (.int .i64 0)):=zGF;have pR0:AtL (w.alloc (.cells zeros21 78)) w.heap.size zeros21.toList:=AtL.new0 w _ _;have h1:=zAK (zAJ (Below.refl _ w) (.cells zeros21 78)) h;have hb1:=zAJ (Below.refl _ w) (.cells zeros21 78);clear h;generalize ndA=x at *;go_enter func28,ntmps28;go_upto_region 1 with fail
 generalize (w.alloc (.cells zeros21 78))=W1 at *;have pP0:AtL (W1.alloc (.cells zeros21 78)) W1.heap.size zeros21.toList:=AtL.new0 W1 _ _;have hth:World.there (W1.alloc (.cells zeros21 78)) W1.heap.size 0 (zA7 x (.slice none 0 0)).toArray.size:=pP0.there;clear pP0;go_upto_region 2 with (first | (refine zAA (by rfl) 44 (.tmp 8) rfl g 0 rfl (zA3 x) _ h1 underlying44 rfl (by kernel_rfl) ?_) | (refine zEM rfl (.tmp 9) rfl x rfl ?_) | ((with_reducible refine wpList_store_mid ?_ 78 (.tmp 4) (.tmp 10) ?_ W1.heap.size 0 (zA7 x (.slice none 0 0)).toArray ?_ ?_ ?_ ?_ ?_ ?_);rfl;rfl;rfl;rfl;exact hth;kernel_rfl;exact zJg _))
 have pP:AtL ((W1.alloc (.cells zeros21 78)).setCells W1.heap.size 0 (zA7 x (.slice none 0 0))) W1.heap.size (zA7 x (.slice none 0 0)):=(AtL.new0 W1 _ _:AtL (W1.alloc (.cells zeros21 78)) W1.heap.size zeros21.toList).setAll rfl;have hb2:Below W1.heap.size W1 ((W1.alloc (.cells zeros21 78)).setCells W1.heap.size 0 (zA7 x (.slice none 0 0))):=zA8 (zAJ (Below.refl _ W1) _) (Nat.le_refl _) _ 0;have pR1:=AtL.below hb2 pR0;have hB2:=zAB hb1 hb2;clear hth pR0 h1 hb1 hb2;generalize ((W1.alloc (.cells zeros21 78)).setCells W1.heap.size 0 (zA7 x (.slice none 0 0)))=W2 at *;obtain ⟨k1,hk1⟩:∃ k,W1.heap.size=k:=⟨_,rfl⟩
 rw [hk1] at pP;simp only [hk1];have rN:=zKE pP.range;have CO:=HCO.out W2;go_wp2_with (first | (refine zAA (by rfl) 44 (.tmp 13) rfl k1 0 rfl (zA3 x) _ rN underlying44 rfl (by kernel_rfl) ?_))
 refine CO.mono ?_;rintro e w3 ⟨rfl,hb3⟩;have HP3:Hid (AtL w3 k1 (zA7 x (.slice none 0 0))):=AtL.below hb3 pP;have HR3:Hid (AtL w3 w.heap.size zeros21.toList):=AtL.below hb3 pR1;have HB3:Hid (Below w.heap.size w w3):=zAB hB2 hb3;clear CO rN pP pR1 hB2 hb3 HCO;go_wp2_with fail
 go_loopg [0,16] 0 (λgk a b wr=>a=.slice (some ⟨g,0,none⟩) 0 0/\b=.int .i64 0/\gk=0/\w3=wr)
 case atStart=>exact ⟨rfl,rfl,rfl,rfl⟩
 case round =>
  obtain ⟨rfl,rfl,hg,rfl⟩:=hrel;have rP:=HP3.out.range;have hth:World.there w3 w.heap.size 0 (zA7 x (.slice none 0 0)).toArray.size:=HR3.out.there;have pF:AtL (w3.setCells w.heap.size 0 (zA7 x (.slice none 0 0))) w.heap.size (zA7 x (.slice none 0 0)):=HR3.out.setAll rfl;have HPF:Hid ((w3.setCells w.heap.size 0 (zA7 x (.slice none 0 0))).rangeAt w.heap.size 0 (zA7 x (.slice none 0 0))):=pF.range;have HBF:Hid (Below w.heap.size w (w3.setCells w.heap.size 0 (zA7 x (.slice none 0 0)))):=zA8 HB3.out (Nat.le_refl _) _ 0;clear pF;go_wp2_with (first | (refine zAA (by rfl) 78 (.tmp 4) rfl k1 0 rfl (zA7 x (.slice none 0 0)) _ rP underlying78 rfl (by kernel_rfl) ?_) | ((with_reducible refine wpList_store_mid ?_ 78 (.tmp 2) (.tmp 31) ?_ w.heap.size 0 (zA7 x (.slice none 0 0)).toArray ?_ ?_ ?_ ?_ ?_ ?_);rfl;rfl;rfl;rfl;exact hth;kernel_rfl;exact zJg _))
  refine bodyPost_ret (zCL (by rfl) _ _ w.heap.size (zA7 x (.slice none 0 0)) _ (by rfl) HPF.out underlying78 rfl (by kernel_rfl)) rfl ⟨⟨_,rfl⟩,HBF.out⟩
abbrev siV (nv:Value):Value:=.agg #[.int .i64 0,nv]
theorem zCP (a:Option Addr) (n c:Nat) (w:World):CR 78 #[siV (.slice a n c),.string ⟨#[]⟩] w (.int .i64 0):=by
 have hb:=zAJ (Below.refl _ w) (.cells #[.int .i64 0,.slice a n c] 75);have p:=AtL.new0 w 75 [.int .i64 0,.slice a n c];have c0:=p.2.1 0 _ rfl;clear p;go_enter func78,ntmps78;go_upto_region 1 with fail
 generalize (w.alloc (.cells #[.int .i64 0,.slice a n c] 75))=W at *;go_wp2;go_ret;exact ⟨rfl,hb⟩
theorem zEV (w:World):CR 30 #[.agg (zA7 ndA (.slice none 0 0)).toArray] w (.bool false):=by
 have hb:=zAJ (Below.refl _ w) (.cells (zA7 ndA (.slice none 0 0)).toArray 78);have p:=AtL.new0 w 78 (zA7 ndA (.slice none 0 0));have c0:(w.alloc (.cells (zA7 ndA (.slice none 0 0)).toArray 78)).cell? ⟨w.heap.size,0,none⟩=some (.int .i64 2):=p.2.1 0 _ rfl;clear p;generalize ndA=x at *;go_enter func30,ntmps30;go_upto_region 1 with fail
 generalize (w.alloc (.cells (zA7 x (.slice none 0 0)).toArray 78))=W at *;go_wp2;go_ret;exact ⟨rfl,hb⟩
theorem zGy (a:Option Addr) (n c:Nat) (w:World):CR 52 #[siV (.slice a n c),.agg (zA7 ndA (.slice none 0 0)).toArray] w (.int .i64 0):=by
 have SH:=λw=>zCP a n c w
 have hb:=zAJ (zAJ (Below.refl _ w) (.cells #[.int .i64 0,.slice a n c] 75)) (.cells (zA7 ndA (.slice none 0 0)).toArray 78);have p:=AtL.new1 w (.cells #[.int .i64 0,.slice a n c] 75) 78 (zA7 ndA (.slice none 0 0));have p2:=(AtL.new0 w 75 [.int .i64 0,.slice a n c]).alloc (.cells (zA7 ndA (.slice none 0 0)).toArray 78);have c0:((w.alloc (.cells #[.int .i64 0,.slice a n c] 75)).alloc (.cells (zA7 ndA (.slice none 0 0)).toArray 78)).cell? ⟨w.heap.size+1,0,none⟩=some (.int .i64 2):=p.2.1 0 _ rfl;have c10:((w.alloc (.cells #[.int .i64 0,.slice a n c] 75)).alloc (.cells (zA7 ndA (.slice none 0 0)).toArray 78)).cell? ⟨w.heap.size+1,10,none⟩=some (.string ⟨#[]⟩):=p.2.1 10 _ rfl;have s0:=p2.2.1 0 _ rfl;have s1:=p2.2.1 1 _ rfl;clear p p2;generalize ndA=x at *;go_enter func52,ntmps52;go_upto_region 1 with fail
 generalize ((w.alloc (.cells [.int .i64 0,.slice a n c].toArray 75)).alloc (.cells (zA7 x (.slice none 0 0)).toArray 78))=W at *;go_wp2_with fail
 refine (SH _).mono ?_;rintro e w1 ⟨rfl,hb1⟩;have hB:=zAB hb hb1;go_wp2;go_ret;exact ⟨rfl,hB⟩
theorem zDF (a:Option Addr) (n c:Nat) (w:World):CR 29 #[siV (.slice a n c),.agg (zA7 ndA (.slice none 0 0)).toArray] w (.int .i64 0):=by
 have RN:=λw=>zGy a n c w
 have hb:=zAJ (zAJ (Below.refl _ w) (.cells #[.int .i64 0,.slice a n c] 75)) (.cells (zA7 ndA (.slice none 0 0)).toArray 78);have p:=AtL.new1 w (.cells #[.int .i64 0,.slice a n c] 75) 78 (zA7 ndA (.slice none 0 0));have p2:=(AtL.new0 w 75 [.int .i64 0,.slice a n c]).alloc (.cells (zA7 ndA (.slice none 0 0)).toArray 78);have c20:((w.alloc (.cells #[.int .i64 0,.slice a n c] 75)).alloc (.cells (zA7 ndA (.slice none 0 0)).toArray 78)).cell? ⟨w.heap.size+1,20,none⟩=some (.slice none 0 0):=p.2.1 20 _ rfl;have rP:=p.range;have s0:=p2.2.1 0 _ rfl;have s1:=p2.2.1 1 _ rfl;clear p p2;generalize ndA=x at *;go_enter func29,ntmps29;go_upto_region 1 with fail
 generalize ((w.alloc (.cells [.int .i64 0,.slice a n c].toArray 75)).alloc (.cells (zA7 x (.slice none 0 0)).toArray 78))=W at *;go_wp2_with (first | (refine zAA (by rfl) 78 (.tmp 3) rfl (w.heap.size+1) 0 rfl (zA7 x (.slice none 0 0)) _ rP underlying78 rfl (by kernel_rfl) ?_))
 refine (RN _).mono ?_;rintro e w1 ⟨rfl,hb1⟩;have HB:Hid (Below w.heap.size w w1):=zAB hb hb1;have d20:=zAC hb1 c20;clear RN hb hb1 c20 rP s0 s1;go_wp2_with fail
 go_loopg [5,6] 0 (λgk x y wr=>x=.int .i64 0/\y=.int .i64 0/\gk=0/\w1=wr)
 case atStart=>exact ⟨rfl,rfl,rfl,rfl⟩
 case round =>
  obtain ⟨rfl,rfl,hg,rfl⟩:=hrel;go_wp2;go_ret;exact ⟨rfl,HB.out⟩
def Np (v:Value):Prop:=∀ l c,v=.slice none l c->c=0
theorem zBI {a:Addr} {n c:Nat}:Np (.slice (some a) n c):=λl c e=>nomatch e
def OwnZ (w:World) (B:Nat) (v:Value) (A:List Int):Prop:=w.ownsRow B 3 1 v A.length (A.map (Value.int .i64))
theorem OwnZ.nil (w:World) (B:Nat):OwnZ w B (.slice none 0 0) []:=⟨rfl,Or.inl ⟨rfl,rfl⟩⟩
theorem OwnZ.rd (h:OwnZ w B v A):RdZ w v A:=by
 rcases h.2 with ⟨e,h0⟩ | ⟨g,cap,cur,e,hb,hg,h1,h2,h3,h4⟩
 ·have hA:A=[]:=List.eq_nil_of_length_eq_zero h0;subst hA;rw [e];exact RdZ.nil w
 ·refine ⟨some ⟨g,0,none⟩,cap,e,λi hi=>⟨g,0,rfl,?_⟩⟩;have hx:(A.map (Value.int .i64))[i]? = some (.int .i64 (A[i])):=by simp [hi]
  rw [<-h4,List.getElem?_take_of_lt (by omega)] at hx;unfold World.cell?;simp only [hg];simpa using hx
theorem OwnZ.np (h:OwnZ w B v A):Np v:=by
 intro l c e;rcases h.2 with ⟨e2,_⟩ | ⟨g,cap,cur,e2,_⟩
 ·rw [e2] at e;cases e;rfl
 ·rw [e2] at e;cases e
theorem OwnZ.blk (h:OwnZ w B v A) {g:Nat} (e:v.ownBlock=some g):B<=g/\g<w.heap.size:=by
 rcases h.2 with ⟨rfl,_⟩ | ⟨g',cap,cur,rfl,hb,hg,_⟩
 ·cases e
 ·have e2:g'=g:=by simpa [Value.ownBlock] using e
  subst e2;refine ⟨hb,?_⟩;rcases Nat.lt_or_ge g' w.heap.size with q | q
  ·exact q
  ·rw [Array.getElem?_eq_none q] at hg;cases hg
theorem OwnZ.below (h:OwnZ w B v A) (hb:Below w.heap.size w w'):OwnZ w' B v A:=by
 have hk:=λ{g} (e:v.ownBlock=some g)=>h.blk e
 refine ⟨h.1,?_⟩;rcases h.2 with q | ⟨g,cap,cur,rfl,h1,hg,r⟩
 ·exact Or.inl q
 ·exact Or.inr ⟨g,cap,cur,rfl,h1,by rw [hb.block g (hk rfl).2];exact hg,r⟩
theorem zFz:(prog.info? 3).map (λi=>(i.zero,i.size,i.bytes))=some (some (.int .i64 0),1,8):=by kernel_rfl
theorem zBW {a:Act} {K:Act->World->Prop} {Q:Exit->Act->World->Prop} (s x:Operand) (ho:o.op=.call {callee:=.builtin .append,args:=#[s,x],argTypes:=#[50,50]})
  (w:World) (B:Nat) (hB:B<=w.heap.size) (v:Value) (A:List Int) (hs:a.eval s=v) (hown:OwnZ w B v A) (vx:Value) (L:List Int) (hx:a.eval x=vx) (hrd:RdZ w vx L) (hnp:Np vx) (hl:A.length+L.length<=2000000)
  (h:∀ v' w',OwnZ w' B v' (A++L)->w.grownBy w' v.ownBlock->K (a.put o.dst v') w'):o.wp prog a w K Q:=by
 obtain ⟨i0,hi0,hz0,hz1,hz2⟩:=info_parts zFz;obtain ⟨av,cap,rfl,f⟩:=hrd;cases av with
 | none =>
  have hL:L=[]:=by
   cases L with
   | nil=>rfl
   | cons y r=>obtain ⟨bb,off,q,_⟩:=f 0 (by simp);cases q
  subst hL;have hc:=hnp _ _ rfl;subst hc;have hrun:=run_append_owned_none (P:=prog) (w:=w) B 50 o.type 3 i0 1 underlying50 hi0 v A.length (A.map (Value.int .i64)) hown;unfold Oper.wp;simp only [execOp,ho,resolve,invoke,builtin,Sem.run_bind,Sem.run_pure,Result.andThen_ok,List.map_toArray,List.map_cons,List.map_nil,hs,hx,List.length_nil,hrun];exact (h v w (by rw [List.append_nil];exact hown) (World.grownBy.refl _ _))
 | some ad =>
  refine wp_append_own _ s x 50 ho B 3 i0 _ 1 8 underlying50 hi0 hz0 hz1 hz2 rfl (by decide) v A.length (A.map (Value.int .i64)) hs hown ad L.length cap (L.map (Value.int .i64)) hx (by simp) (λj u hj=>?_) (λu hu=>?_) (by unfold maxLen;omega) (by omega) hB ?_
  ·rw [List.getElem?_map] at hj;cases hLj:L[j]? with
   | none=>rw [hLj] at hj;cases hj
   | some z =>
    rw [hLj] at hj;have hjl:j<L.length:=by
     rcases Nat.lt_or_ge j L.length with q | q
     ·exact q
     ·rw [List.getElem?_eq_none q] at hLj;cases hLj
    obtain ⟨bb,off,q1,q2⟩:=f j hjl;cases q1
    have hz:L[j]=z:=by rw [List.getElem?_eq_getElem hjl] at hLj;exact Option.some.inj hLj
    rw [hz] at q2;cases hj
    rw [show (⟨bb,off,none⟩:Addr).add j=⟨bb,off+j,none⟩ from by
     simp [Addr.add];try (intro h0;omega)]
    exact q2
  ·obtain ⟨z,_,rfl⟩:=List.mem_map.1 hu;rfl
  ·intro v' w' own hg _;refine h v' w' ?_ hg;unfold OwnZ;rw [List.length_append,List.map_append];exact own
theorem zA6 {ops:Array Oper} {rest:List Oper} {a:Act} {Q:Exit->Act->World->Prop} (hgd:o.guard=none) (s x:Operand) (ho:o.op=.call {callee:=.builtin .append,args:=#[s,x],argTypes:=#[50,50]})
  (w:World) (B:Nat) (hB:B<=w.heap.size) (v:Value) (A:List Int) (hs:a.eval s=v) (hown:OwnZ w B v A) (vx:Value) (L:List Int) (hx:a.eval x=vx) (hrd:RdZ w vx L) (hnp:Np vx) (hl:A.length+L.length<=2000000)
  (h:∀ v' w',OwnZ w' B v' (A++L)->w.grownBy w' v.ownBlock->wpList prog ops Q rest (a.put o.dst v') w'):wpList prog ops Q (o::rest) a w :=
 wpList_plain hgd λK hK=>zBW s x ho w B hB v A hs hown vx L hx hrd hnp hl λv' w' h1 h2=>hK _ _ (h v' w' h1 h2)
def HndP (f:List Int) (w:World) (e:Ending) (w':World):Prop:=∃ r,e=.returned r/\RdZ w' r f/\Np r/\(∀ g,r.ownBlock=some g->w.heap.size<=g)
theorem HndP.of {r:Value} {f:List Int} (h:OwnZ w' B r f) (hB:w.heap.size<=B):HndP f w (.returned r) w':=⟨r,rfl,h.rd,h.np,λg e=>Nat.le_trans hB (h.blk e).1⟩
theorem zAj {W:World} (hb:Below w.heap.size w W) (ho:OwnZ W B v A) (hB:w.heap.size<=B) (hg:W.grownBy w' v.ownBlock):Below w.heap.size w w' :=
 hb.grown hg hb.size (λk e=>Nat.le_trans hB (ho.blk e).1)
theorem zDR (x:Wc.In) (tv fv:Value) (f:List Int) (w:World) (hz:RdZ w fv f) (hnp:Np fv) (hl:f.length<=1000000) (h10:x.op=10->f ≠ []) :
  Calls prog 41 #[inV x tv,fv] w λe w'=>HndP (Wc.fldR x.op x.a f) w e w'/\Below w.heap.size w w':=by
 have pA:=AtL.new0 w 52 (zAD x tv);have hB:=zAJ (Below.refl _ w) (.cells (zAD x tv).toArray 52);have HZ:Hid (RdZ w fv f):=hz;have HL:Hid (f.length<=1000000):=hl;have HNP:Hid (Np fv):=hnp;have H10:Hid (x.op=10->f ≠ []):=h10;obtain ⟨q,hq⟩:∃ q,Wc.fldR x.op x.a f=q:=⟨_,rfl⟩
 have HQ:Hid (Wc.fldR x.op x.a f=q):=hq;rw [hq];clear hz hl hnp h10 hq;go_enter func41,ntmps41;go_upto_region 1 with fail
 generalize (w.alloc (.cells (zAD x tv).toArray 52))=W at *;have HBW:Hid (w.heap.size<=W.heap.size):=hB.size;go_upto_region 3 with (refine zA6 rfl (.tmp 6) (.tmp 7) rfl W W.heap.size (Nat.le_refl _) (.slice none 0 0) [] rfl (OwnZ.nil _ _) fv f rfl (HZ.out.below hB) HNP.out (by have:=HL.out;simp;omega) ?_;intro v1 w1 own1 hg1)
 rw [List.nil_append] at own1;have hB1:Below w.heap.size w w1:=zAj hB (OwnZ.nil _ W.heap.size) HBW.out hg1;have pA1:AtL w1 w.heap.size (zAD x tv):=⟨Nat.lt_of_lt_of_le pA.1 hg1.size,λi u hu=>by have:=pA.2.1 i u hu;rw [<-this];unfold World.cell?;rw [hg1.block _ pA.1 (by simp [Value.ownBlock])],λi hi=>by have:=pA.2.2 i hi;rw [<-this];unfold World.frozen?;rw [hg1.block _ pA.1 (by simp [Value.ownBlock])]⟩
 have a0:=pA1.2.1 0 _ rfl;have a1:=pA1.2.1 1 _ rfl;have HO1:Hid (OwnZ w1 W.heap.size v1 f):=own1;have HW1S:W.heap.size<=w1.heap.size:=hg1.size;clear hB pA hg1 own1;by_cases h6:x.op=6
 ·have hf:Hid (q=f++[x.a]):=by show _=_;rw [<-HQ.out];simp [Wc.fldR,h6]
  clear H10;have hbs:=zAJ (Below.refl _ w1) (.cells #[.int .i64 x.a] 3);have pN:=AtL.new0 w1 3 [.int .i64 x.a];have n0:=pN.2.1 0 _ rfl;have HR:Hid (RdZ (w1.alloc (.cells #[.int .i64 x.a] 3)) (.slice (some ⟨w1.heap.size,0,none⟩) 1 1) [x.a]):=RdZ.one n0;have HO2:Hid (OwnZ (w1.alloc (.cells #[.int .i64 x.a] 3)) W.heap.size v1 f):=HO1.out.below hbs;have HB2:Hid (Below w.heap.size w (w1.alloc (.cells #[.int .i64 x.a] 3))):=zAB hB1 hbs;have HBS:Hid (W.heap.size<=(w1.alloc (.cells #[.int .i64 x.a] 3)).heap.size):=Nat.le_trans HW1S hbs.size;clear hbs pN n0;go_wp2_with (refine zA6 rfl (.tmp 12) (.tmp 15) rfl (w1.alloc (.cells #[.int .i64 x.a] 3)) W.heap.size HBS.out v1 f rfl HO2.out _ [x.a] rfl HR.out (λl c e=>by cases e) (by have:=HL.out;simp;omega) ?_;intro v2 w2 own2 hg2)
  go_ret;exact ⟨by rw [hf.out];exact HndP.of own2 HBW.out,zAj HB2.out HO2.out HBW.out hg2⟩
 ·by_cases hx10:x.op=10
  ·have hf:Hid (q=f.dropLast):=by show _=_;rw [<-HQ.out];simp [Wc.fldR,hx10]
   have hne:=H10.out hx10;obtain ⟨g,cap,ev,hcap⟩:∃ g cap,v1=.slice (some ⟨g,0,none⟩) f.length cap/\f.length<=cap:=by
    rcases HO1.out.2 with ⟨_,h0⟩ | ⟨g,cap,cur,e,_,_,hc,_⟩
    ·exact absurd (List.eq_nil_of_length_eq_zero h0) hne
    ·exact ⟨g,cap,e,hc⟩
   subst ev;have hpos:0<f.length:=List.length_pos_iff.2 hne;have HP:Hid (0<f.length/\f.length<=cap):=⟨hpos,hcap⟩
   obtain ⟨nf,hnf⟩:∃ k,f.length=k+1:=⟨f.length - 1,by omega⟩
   have HNF:Hid (f.length=nf+1):=hnf;have hw1:IntKind.i64.wrap (((nf+1:Nat):Int) - 1)=(nf:Int):=by rw [IntKind.wrap_i64];have:=HL.out;omega
   have hw2:IntKind.i64.wrap ((nf:Int)+1 - 1)=(nf:Int):=by rw [IntKind.wrap_i64];have:=HL.out;omega
   have k1:(nf:Int)<=(cap:Int):=by omega
   have k2:(0:Int)<=(nf:Int):=by omega
   have k3:nf<=cap:=by omega
   have hw3:IntKind.i64.wrap (nf:Int)=(nf:Int):=by rw [IntKind.wrap_i64];have:=HL.out;omega
   have hw4:wrap64 (nf:Int)=(nf:Int):=by have:=HL.out;unfold wrap64;omega
   have HV:Hid (HndP f.dropLast w (.returned (.slice (some ⟨g,0,none⟩) nf cap)) w1):=by
    obtain ⟨av,cp,e1,f1⟩:=HO1.out.rd;simp only [Value.slice.injEq] at e1;refine ⟨.slice (some ⟨g,0,none⟩) nf cap,rfl,⟨some ⟨g,0,none⟩,cap,by simp [HNF.out],λi hi=>?_⟩,zBI,λg' e=>?_⟩
    ·have hi2:i<f.length:=by simp at hi;omega
     obtain ⟨bb,off,q1,q2⟩:=f1 i hi2;rw [<-e1.1] at q1;cases q1
     exact ⟨g,0,rfl,by rw [List.getElem_dropLast];exact q2⟩
    ·have:=(HO1.out.blk (g:=g') (by simpa [Value.ownBlock] using e)).1;exact Nat.le_trans HBW.out this
   rw [hnf];clear hne hpos hcap hnf H10;go_wp2;go_ret;refine ⟨?_,hB1⟩;rw [hf.out];first
   | exact HV.out
   | simpa [hw4] using HV.out
  ·have hf:Hid (q=f):=by show _=_;rw [<-HQ.out];simp [Wc.fldR,h6,hx10]
   go_wp2;go_ret;exact ⟨by rw [hf.out];exact HndP.of HO1.out HBW.out,hB1⟩
theorem RdZ.lits {b:Nat} {l:List Int} (h:AtL w b (l.map (Value.int .i64))):RdZ w (.slice (some ⟨b,0,none⟩) l.length l.length) l:=by
 refine ⟨some ⟨b,0,none⟩,l.length,rfl,λi hi=>⟨b,0,rfl,?_⟩⟩;rw [Nat.zero_add];exact h.2.1 i _ (by simp [hi])
def aP (x:Wc.In) (tl:List Int) (i:Int):List Int:=(Wc.ahd x.op x.a x.b tl i 0 0).map (·.1)
theorem zFb (L:List (Wc.In × List Int)) (v:Value) (w:World) (h:RdC w v L) (i:Nat) (hi:i<L.length) (hl:L.length<=1000000) (ht:∀ x ∈ L,x.2.length<=1000000) :
  Calls prog 23 #[v,.int .i64 (i:Int)] w λe w'=>HndP (aP (L[i]).1 (L[i]).2 i) w e w'/\Below w.heap.size w w':=by
 obtain ⟨a1,c1,rfl,r1⟩:=h;obtain ⟨bb,off,p,mm,kk,rfl,t1,y1,hk⟩:=r1 i hi;obtain ⟨y,tl,hyt⟩:∃ y tl,L[i]=(y,tl):=⟨_,_,rfl⟩
 have htl:=ht L[i] (List.getElem_mem _);rw [hyt] at htl t1 y1;rw [hyt];have HTL:Hid (tl.length<=1000000):=htl;have HNP:Hid (Np (.slice p mm kk)):=by
  intro l c e;simp only [Value.slice.injEq] at e;obtain ⟨e1,_,e2⟩:=e;rw [<-e2];exact hk e1
 obtain ⟨n,hn⟩:∃ n,L.length=n:=⟨_,rfl⟩
 rw [hn] at hi hl ⊢;have hiz:(0:Int)<=(i:Int):=by omega
 have hin:(i:Int)<(n:Int):=by omega
 have hwi:IntKind.i64.wrap ((i:Int)+1)=(i:Int)+1:=by rw [IntKind.wrap_i64];omega
 obtain ⟨q,hq⟩:∃ q,aP y tl i=q:=⟨_,rfl⟩
 have HQ:Hid (aP y tl i=q):=hq;show Calls _ _ _ _ λe w'=>HndP (aP y tl i) w e w'/\_
 rw [hq];have pI0:AtL (w.alloc (.cells zeros23 52)) w.heap.size zeros23.toList:=AtL.new0 w _ _;have hth:World.there (w.alloc (.cells zeros23 52)) w.heap.size 0 (zAD y (.slice p mm kk)).toArray.size:=pI0.there;have HY:Hid (RdZ w (.slice p mm kk) tl):=y1;clear r1 hk ht htl hyt hn hq pI0 y1 hl hi;go_enter func23,ntmps23;go_upto_region 3 with (first | (refine zAA (by rfl) 52 (.tmp 9) rfl bb (off+i * 23) rfl (zAD y (.slice p mm kk)) _ t1 underlying52 rfl (by kernel_rfl) ?_) | ((with_reducible refine wpList_store_mid ?_ 52 (.tmp 6) (.tmp 10) ?_ w.heap.size 0 (zAD y (.slice p mm kk)).toArray ?_ ?_ ?_ ?_ ?_ ?_);rfl;rfl;rfl;rfl;exact hth;kernel_rfl;exact zAT _ _ _ _))
 have pI0:AtL (w.alloc (.cells zeros23 52)) w.heap.size zeros23.toList:=AtL.new0 w _ _;have pI:AtL ((w.alloc (.cells zeros23 52)).setCells w.heap.size 0 (zAD y (.slice p mm kk))) w.heap.size (zAD y (.slice p mm kk)):=pI0.setAll rfl;have hB:Below w.heap.size w ((w.alloc (.cells zeros23 52)).setCells w.heap.size 0 (zAD y (.slice p mm kk))):=zA8 (zAJ (Below.refl _ w) _) (Nat.le_refl _) _ 0;clear pI0 hth t1;generalize (w.alloc (.cells zeros23 52)).setCells w.heap.size 0 (zAD y (.slice p mm kk))=W at *;have a0:=pI.2.1 0 _ rfl;have a1:=pI.2.1 1 _ rfl;have a2:=pI.2.1 2 _ rfl;have a22:=pI.2.1 22 _ rfl;have HBS:Hid (w.heap.size<=W.heap.size):=hB.size;by_cases h16:y.op=16
 ·have hf:Hid (q=[]):=by show _=_;rw [<-HQ.out];simp [aP,Wc.ahd,h16]
  go_wp2;go_ret;exact ⟨by rw [hf.out];exact HndP.of (OwnZ.nil _ w.heap.size) (Nat.le_refl _),hB⟩
 by_cases h12:y.op=12
 ·have hf:Hid (q=[(i:Int)+1,y.a,y.b]):=by show _=_;rw [<-HQ.out];simp [aP,Wc.ahd,h12]
  have hbs:=zAJ (Below.refl _ W) (.cells #[.int .i64 ((i:Int)+1),.int .i64 (y.a),.int .i64 (y.b)] 3);have HR:Hid (RdZ (W.alloc (.cells #[.int .i64 ((i:Int)+1),.int .i64 (y.a),.int .i64 (y.b)] 3)) (.slice (some ⟨W.heap.size,0,none⟩) 3 3) [(i:Int)+1,y.a,y.b]):=RdZ.lits (l:=[(i:Int)+1,y.a,y.b]) (AtL.new0 W 3 _);have HB2:Hid (Below w.heap.size w (W.alloc (.cells #[.int .i64 ((i:Int)+1),.int .i64 (y.a),.int .i64 (y.b)] 3))):=zAB hB hbs;have HB3:Hid (w.heap.size<=(W.alloc (.cells #[.int .i64 ((i:Int)+1),.int .i64 (y.a),.int .i64 (y.b)] 3)).heap.size):=HB2.out.size;clear hbs;go_wp2_with (refine zA6 rfl (.tmp 17) (.tmp 24) rfl (W.alloc (.cells #[.int .i64 ((i:Int)+1),.int .i64 (y.a),.int .i64 (y.b)] 3)) (W.alloc (.cells #[.int .i64 ((i:Int)+1),.int .i64 (y.a),.int .i64 (y.b)] 3)).heap.size (Nat.le_refl _) (.slice none 0 0) [] rfl (OwnZ.nil _ _) _ [(i:Int)+1,y.a,y.b] rfl HR.out zBI (by simp) ?_;intro v2 w2 own2 hg2)
  go_ret;exact ⟨by rw [hf.out];exact HndP.of own2 HB3.out,zAj HB2.out (OwnZ.nil _ _) HB3.out hg2⟩
 by_cases h13:y.op=13
 ·have hf:Hid (q=[y.a]):=by show _=_;rw [<-HQ.out];simp [aP,Wc.ahd,h13]
  have hbs:=zAJ (Below.refl _ W) (.cells #[.int .i64 (y.a)] 3);have HR:Hid (RdZ (W.alloc (.cells #[.int .i64 (y.a)] 3)) (.slice (some ⟨W.heap.size,0,none⟩) 1 1) [y.a]):=RdZ.lits (l:=[y.a]) (AtL.new0 W 3 _);have HB2:Hid (Below w.heap.size w (W.alloc (.cells #[.int .i64 (y.a)] 3))):=zAB hB hbs;have HB3:Hid (w.heap.size<=(W.alloc (.cells #[.int .i64 (y.a)] 3)).heap.size):=HB2.out.size;clear hbs;go_wp2_with (refine zA6 rfl (.tmp 28) (.tmp 31) rfl (W.alloc (.cells #[.int .i64 (y.a)] 3)) (W.alloc (.cells #[.int .i64 (y.a)] 3)).heap.size (Nat.le_refl _) (.slice none 0 0) [] rfl (OwnZ.nil _ _) _ [y.a] rfl HR.out zBI (by simp) ?_;intro v2 w2 own2 hg2)
  go_ret;exact ⟨by rw [hf.out];exact HndP.of own2 HB3.out,zAj HB2.out (OwnZ.nil _ _) HB3.out hg2⟩
 by_cases h14:y.op=14
 ·have hf:Hid (q=[y.a,(i:Int)+1]):=by show _=_;rw [<-HQ.out];simp [aP,Wc.ahd,h14]
  have hbs:=zAJ (Below.refl _ W) (.cells #[.int .i64 (y.a),.int .i64 ((i:Int)+1)] 3);have HR:Hid (RdZ (W.alloc (.cells #[.int .i64 (y.a),.int .i64 ((i:Int)+1)] 3)) (.slice (some ⟨W.heap.size,0,none⟩) 2 2) [y.a,(i:Int)+1]):=RdZ.lits (l:=[y.a,(i:Int)+1]) (AtL.new0 W 3 _);have HB2:Hid (Below w.heap.size w (W.alloc (.cells #[.int .i64 (y.a),.int .i64 ((i:Int)+1)] 3))):=zAB hB hbs;have HB3:Hid (w.heap.size<=(W.alloc (.cells #[.int .i64 (y.a),.int .i64 ((i:Int)+1)] 3)).heap.size):=HB2.out.size;clear hbs;go_wp2_with (refine zA6 rfl (.tmp 35) (.tmp 40) rfl (W.alloc (.cells #[.int .i64 (y.a),.int .i64 ((i:Int)+1)] 3)) (W.alloc (.cells #[.int .i64 (y.a),.int .i64 ((i:Int)+1)] 3)).heap.size (Nat.le_refl _) (.slice none 0 0) [] rfl (OwnZ.nil _ _) _ [y.a,(i:Int)+1] rfl HR.out zBI (by simp) ?_;intro v2 w2 own2 hg2)
  go_ret;exact ⟨by rw [hf.out];exact HndP.of own2 HB3.out,zAj HB2.out (OwnZ.nil _ _) HB3.out hg2⟩
 by_cases h15:y.op=15
 ·have hf:Hid (q=tl++[y.b]):=by show _=_;rw [<-HQ.out];simp [aP,Wc.ahd,Function.comp_def,h15]
  go_upto_region 14 with (refine zA6 rfl (.tmp 44) (.tmp 46) rfl W W.heap.size (Nat.le_refl _) (.slice none 0 0) [] rfl (OwnZ.nil _ _) (.slice p mm kk) tl rfl (HY.out.below hB) HNP.out (by have:=HTL.out;simp;omega) ?_;intro v1 w1 own1 hg1)
  rw [List.nil_append] at own1;have hB1:Below w.heap.size w w1:=zAj hB (OwnZ.nil _ W.heap.size) HBS.out hg1;have b2:w1.cell? ⟨w.heap.size,2,none⟩=some (.int .i64 y.b):=by rw [<-a2];unfold World.cell?;rw [hg1.block _ pI.1 (by simp [Value.ownBlock])]
  have HW1:Hid (W.heap.size<=w1.heap.size):=hg1.size;have hbs:=zAJ (Below.refl _ w1) (.cells #[.int .i64 y.b] 3);have HR:Hid (RdZ (w1.alloc (.cells #[.int .i64 y.b] 3)) (.slice (some ⟨w1.heap.size,0,none⟩) 1 1) [y.b]):=RdZ.lits (l:=[y.b]) (AtL.new0 w1 3 _);have HO2:Hid (OwnZ (w1.alloc (.cells #[.int .i64 y.b] 3)) W.heap.size v1 tl):=own1.below hbs;have HB2:Hid (Below w.heap.size w (w1.alloc (.cells #[.int .i64 y.b] 3))):=zAB hB1 hbs;have HB3:Hid (W.heap.size<=(w1.alloc (.cells #[.int .i64 y.b] 3)).heap.size):=Nat.le_trans HW1.out hbs.size;clear hbs a0 a1 a2 a22 own1 hg1 pI hB;go_wp2_with (refine zA6 rfl (.tmp 48) (.tmp 51) rfl (w1.alloc (.cells #[.int .i64 y.b] 3)) W.heap.size HB3.out v1 tl rfl HO2.out _ [y.b] rfl HR.out zBI (by have:=HTL.out;simp;omega) ?_;intro v2 w2 own2 hg2)
  go_ret;exact ⟨by rw [hf.out];exact HndP.of own2 HBS.out,zAj HB2.out HO2.out HBS.out hg2⟩
 have hf:Hid (q=[(i:Int)+1]):=by show _=_;rw [<-HQ.out];simp [aP,Wc.ahd,h16,h12,h13,h14,h15]
 have hbs:=zAJ (Below.refl _ W) (.cells #[.int .i64 ((i:Int)+1)] 3);have HR:Hid (RdZ (W.alloc (.cells #[.int .i64 ((i:Int)+1)] 3)) (.slice (some ⟨W.heap.size,0,none⟩) 1 1) [(i:Int)+1]):=RdZ.lits (l:=[(i:Int)+1]) (AtL.new0 W 3 _);have HB2:Hid (Below w.heap.size w (W.alloc (.cells #[.int .i64 ((i:Int)+1)] 3))):=zAB hB hbs;have HB3:Hid (w.heap.size<=(W.alloc (.cells #[.int .i64 ((i:Int)+1)] 3)).heap.size):=HB2.out.size;clear hbs;go_wp2_with (refine zA6 rfl (.tmp 53) (.tmp 56) rfl (W.alloc (.cells #[.int .i64 ((i:Int)+1)] 3)) (W.alloc (.cells #[.int .i64 ((i:Int)+1)] 3)).heap.size (Nat.le_refl _) (.slice none 0 0) [] rfl (OwnZ.nil _ _) _ [(i:Int)+1] rfl HR.out zBI (by simp) ?_;intro v2 w2 own2 hg2)
 go_ret;exact ⟨by rw [hf.out];exact HndP.of own2 HB3.out,zAj HB2.out (OwnZ.nil _ _) HB3.out hg2⟩
