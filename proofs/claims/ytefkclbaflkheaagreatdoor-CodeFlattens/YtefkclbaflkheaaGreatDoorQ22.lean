/- Lemmas. -/
import Derived.Test.YtefkclbaflkheaaGreatDoorQ21
set_option maxHeartbeats 1600000
set_option maxRecDepth 100000
namespace Go.Proofs.YtefkclbaflkheaaGreatDoor
open Tryz
variable {w:World} {k B:Nat} {T:Nat->Nat} {s0 s1 lv v:Value} {L:List Wf.I} {P:List (Wc.In × Value)}
open Go.RowKit Wf
set_option linter.unusedVariables false
section
variable {k n bb off cap q m2 cap2:Nat} {own:Int} {av2:Option Addr} {y:Wt.Nd} {w w':World}
abbrev YAs (k n bb off cap q m2 cap2:Nat) (own:Int) (av2:Option Addr) (y:Wt.Nd) (W:World):Prop:=W.cell? ⟨k,0,none⟩=some (.slice (some ⟨bb,off,none⟩) n cap)/\W.cell? ⟨k,1,none⟩=some (.int .i64 own)/\W.cell? ⟨k,2,none⟩=some (.slice av2 m2 cap2)/\W.rangeAt bb (off+q * 20) (zAG y)/\W.cell? ⟨bb,off+q * 20+10,none⟩=some (.string y.a.s)
theorem yAb (hb:Below w.heap.size w w') (h:YAs k n bb off cap q m2 cap2 own av2 y w):YAs k n bb off cap q m2 cap2 own av2 y w':=⟨zAC hb h.1,zAC hb h.2.1,zAC hb h.2.2.1,zAF hb h.2.2.2.1,zAC hb h.2.2.2.2⟩
theorem yAf {S:List Nat} (f:Fr S w w') (h:YAs k n bb off cap q m2 cap2 own av2 y w) (hk:k ∉ S) (hb:bb ∉ S):YAs k n bb off cap q m2 cap2 own av2 y w':=⟨f.cell h.1 hk,f.cell h.2.1 hk,f.cell h.2.2.1 hk,f.range h.2.2.2.1 hb,f.cell h.2.2.2.2 hb⟩
end
theorem zC1 (w:World) (g o:Nat) (v:Value):Fr [g] w (w.setCell ⟨g,o,none⟩ v):=Fr.of_grown (zAP _ _ _ _) (λj e=>by cases e;simp)
theorem zI7 (k n bb off cap q:Nat) (own:Int) (nm:List ByteArray) (av2:Option Addr) (m2 cap2:Nat) (y:Wt.Nd) (w:World) (h0:w.cell? ⟨k,0,none⟩=some (.slice (some ⟨bb,off,none⟩) n cap)) (h1:w.cell? ⟨k,1,none⟩=some (.int .i64 own)) (h2:w.cell? ⟨k,2,none⟩=some (.slice av2 m2 cap2)) (hy:w.rangeAt bb (off+q * 20) (zAG y)) (hq:q<n) (hS:RdS w av2 nm) (hm:m2=nm.length) (hl:nm.length<=1000000) (hkw:k<w.heap.size) (hbw:bb<w.heap.size) :
  CR 87 #[.pointer (some ⟨k,0,none⟩),.int .i64 (q:Int)] w (.agg (ar5 (areaN own (nm.take 16) y)).toArray):=by
 have HNU:Hid (∀ (W:World),RdS W av2 nm->Calls prog 53 #[.string y.a.s,.int .i64 own,.slice av2 m2 cap2] W λe w'=>e=.returned (.int .i64 (shN own (nm.take 16) y.a.s))/\W=w'):=λW h=>zB7 y.a.s own nm av2 m2 cap2 W hm hl h
 have RE:∀ W:World,Calls prog 58 #[.agg (zAG y).toArray,.int .i64 (shN own (nm.take 16) y.a.s)] W λe w'=>e=.returned (.agg (ar5 (areaN own (nm.take 16) y)).toArray)/\Below W.heap.size W w':=λW=>zCk y _ W
 generalize shN own (nm.take 16) y.a.s=sn at *;generalize areaN own (nm.take 16) y=rc at *;have hb1:=zAM (Below.refl _ w) (.cells #[.int .i64 0,.int .i64 0,.int .i64 0,.int .i64 0,.int .i64 0] 53);have pA1:=AtL.new0 w 53 [.int .i64 0,.int .i64 0,.int .i64 0,.int .i64 0,.int .i64 0];have hS1:YAs k n bb off cap q m2 cap2 own av2 y (w.alloc (.cells #[.int .i64 0,.int .i64 0,.int .i64 0,.int .i64 0,.int .i64 0] 53)):=yAb hb1 ⟨h0,h1,h2,hy,hy 10 _ rfl⟩;have HR1:Hid (RdS (w.alloc (.cells #[.int .i64 0,.int .i64 0,.int .i64 0,.int .i64 0,.int .i64 0] 53)) av2 nm):=hS.below hb1;have HNE:Hid (k ∉ [w.heap.size]/\bb ∉ [w.heap.size]):=⟨by simp;omega,by simp;omega⟩
 have hq0:(0:Int)<=(q:Int):=by omega
 have hq1:(q:Int)<(n:Int):=by omega
 clear hm hl hS h0 h1 h2 hy hkw hbw hq;go_enter func87,ntmps87;go_upto_region 1 with fail
 generalize (w.alloc (.cells [.int .i64 0,.int .i64 0,.int .i64 0,.int .i64 0,.int .i64 0].toArray 53))=W1 at *;have rb:=(Below.refl W1.heap.size W1).drew;have hSD:=yAb rb hS1;have pAD:=AtL.below rb pA1;have hBD:=zAB hb1 rb;have HRD:Hid (RdS W1.drew av2 nm):=HR1.out.below rb;clear rb hS1 pA1 hb1 HR1;refine wp_region_held_drew (S:=λW=>W.cell? ⟨k,0,none⟩=some (.slice (some ⟨bb,off,none⟩) n cap)/\W.cell? ⟨k,1,none⟩=some (.int .i64 own)/\W.cell? ⟨k,2,none⟩=some (.slice av2 m2 cap2)/\W.rangeAt bb (off+q * 20) (zAG y)/\W.cell? ⟨bb,off+q * 20+10,none⟩=some (.string y.a.s)) (by kernel_rfl) hSD (λhHeld=>?_);generalize W1.drew=WD at *;refine tkQ 0 ?_
 refine tkQ 1 ?_
 refine tkQ 2 ?_
 refine tkQ 3 ?_
 refine tkQ 4 ?_
 refine tkQ 5 ?_
 refine wpAnyH_take (i:=6) (v:=.agg (zAG y).toArray) (atQ rfl) (by kernel_rfl) (by kernel_rfl) (by kernel_rfl) (λ_ _ _ h=>h) (yieldsIf_load_mid (by rfl) 35 (.tmp 10) rfl bb (off+q * 20) rfl (zAG y) _ (λ_ h=>h.2.2.2.1) underlying35 rfl (by kernel_rfl)) (by assumption) ?_;try simp only [Act.put,lA,lZ,lS]
 refine tkQ 7 ?_
 refine tkQ 8 ?_
 refine tkQ 9 ?_
 refine tkQ 10 ?_
 refine tkQ 11 ?_
 refine tkQ 12 ?_
 refine tkQ 13 ?_
 refine tkQ 14 ?_
 refine tkQ 15 ?_
 refine tkQ 16 ?_
 refine tkQ 17 ?_
 refine tkQ 18 ?_
 refine tkQ 19 ?_
 refine tkQ 20 ?_
 refine tkQ 21 ?_
 refine tkQ 22 ?_
 refine tkQ 23 ?_
 refine rdQ 24 (λK hK=>?_);go_simp
 refine (HNU.out WD HRD.out).mono ?_;rintro e w4 ⟨rfl,rfl⟩;go_wp2_with fail
 refine hkQ hK hSD (λhHeld=>?_);clear hK K
 refine rdQ 25 (λK hK=>?_);go_simp
 refine (RE WD).mono ?_;rintro e w6 ⟨rfl,hb6⟩;go_wp2_with fail
 have hS6:=yAb hb6 hSD;refine hkQ hK hS6 (λhHeld=>?_);clear hK K
 have hB6:=zAB hBD hb6;have pA6:=AtL.below hb6 pAD;obtain ⟨b0,b1,b2,b3,b4,k0,k1,k2,k3,k4⟩:=pA6.five;refine rdQ 26 (λK hK=>?_);go_simp
 have fr:Fr [w.heap.size] w6 (((((w6.setCell ⟨w.heap.size,0,none⟩ (.int .i64 rc.s)).setCell ⟨w.heap.size,1,none⟩ (.int .i64 rc.t)).setCell ⟨w.heap.size,2,none⟩ (.int .i64 rc.l)).setCell ⟨w.heap.size,3,none⟩ (.int .i64 rc.b)).setCell ⟨w.heap.size,4,none⟩ (.int .i64 rc.r)):=(zC1 _ _ _ _).trans ((zC1 _ _ _ _).trans ((zC1 _ _ _ _).trans ((zC1 _ _ _ _).trans (zC1 _ _ _ _))));have pF:AtL (w6.setCells w.heap.size 0 (ar5 rc)) w.heap.size (ar5 rc):=pA6.setAll rfl;have HPF:Hid (World.rangeAt (((((w6.setCell ⟨w.heap.size,0,none⟩ (.int .i64 rc.s)).setCell ⟨w.heap.size,1,none⟩ (.int .i64 rc.t)).setCell ⟨w.heap.size,2,none⟩ (.int .i64 rc.l)).setCell ⟨w.heap.size,3,none⟩ (.int .i64 rc.b)).setCell ⟨w.heap.size,4,none⟩ (.int .i64 rc.r)) w.heap.size 0 (ar5 rc)):=pF.range;have HBF:Hid (Below w.heap.size w (((((w6.setCell ⟨w.heap.size,0,none⟩ (.int .i64 rc.s)).setCell ⟨w.heap.size,1,none⟩ (.int .i64 rc.t)).setCell ⟨w.heap.size,2,none⟩ (.int .i64 rc.l)).setCell ⟨w.heap.size,3,none⟩ (.int .i64 rc.b)).setCell ⟨w.heap.size,4,none⟩ (.int .i64 rc.r))):=zCT hB6 fr (λk hk=>by simp at hk;omega);refine hkQ hK (yAf fr hS6 HNE.out.1 HNE.out.2) (λhHeld=>?_);clear hK K
 refine wpAnyH_done (by kernel_rfl) ?_ _;clear hHeld fr pF b0 b1 b2 b3 b4 k0 k1 k2 k3 k4 pA6 hB6 hb6 hS6;generalize (((((w6.setCell ⟨w.heap.size,0,none⟩ (.int .i64 rc.s)).setCell ⟨w.heap.size,1,none⟩ (.int .i64 rc.t)).setCell ⟨w.heap.size,2,none⟩ (.int .i64 rc.l)).setCell ⟨w.heap.size,3,none⟩ (.int .i64 rc.b)).setCell ⟨w.heap.size,4,none⟩ (.int .i64 rc.r))=WF at *;go_wp2;refine bodyPost_ret (zAq (by rfl) _ _ w.heap.size (ar5 rc) _ (by rfl) HPF.out underlying53 rfl (by kernel_rfl)) rfl ⟨rfl,HBF.out⟩
open Go.RowKit Wf
def Cl (k:Nat) (w:World) (f at':Nat) (bs:List Nat) (cl:Value):Prop:=∃ bi bw ba,bs=[bi,bw,ba]/\cl=.func (.func 174) #[] #[.pointer (some ⟨bi,0,none⟩),.pointer (some ⟨bw,0,none⟩),.pointer (some ⟨ba,0,none⟩)] /\
 w.cell? ⟨bi,0,none⟩=some (.func (.func f) #[] #[])/\w.cell? ⟨bw,0,none⟩=some (.pointer (some ⟨k,0,none⟩))/\w.cell? ⟨ba,0,none⟩=some (.int .i64 (at':Int))
theorem Cl.fr {w':World} {f at':Nat} {bs:List Nat} {cl:Value} (h:Cl k w f at' bs cl) {S:List Nat} (hf:Fr S w w') (hs:∀ b ∈ bs,b ∉ S):Cl k w' f at' bs cl:=by
 obtain ⟨bi,bw,ba,rfl,e,h1,h2,h3⟩:=h;exact ⟨bi,bw,ba,rfl,e,hf.cell h1 (hs _ (by simp)),hf.cell h2 (hs _ (by simp)),hf.cell h3 (hs _ (by simp))⟩
theorem zCv (k B f:Nat) (T:Nat->Nat) (s0 s1:Value) (L:List I) (lv:Value) (P:List (Wc.In × Value)) (w:World) (h:WS k B T w s0 s1 L lv P) (h0:0<L.length) (hl:L.length<=1000000) :
  Calls prog 156 #[.pointer (some ⟨k,0,none⟩),.func (.func f) #[] #[]] w λe w'=>(∃ cl bs,e=.returned cl/\Cl k w' f (L.length - 1) bs cl/\∀ b ∈ bs,w.heap.size<=b/\b<w'.heap.size)/\Below w.heap.size w w':=by
 have hn:=h.len;rcases h.own.2 with ⟨e,h9⟩ | ⟨g,cap,cur,e,_⟩
 ·rw [hn] at h9;omega
 subst e;rw [hn] at h;obtain ⟨m,hm⟩:∃ m,L.length=m:=⟨_,rfl⟩
 rw [hm] at h h0 hl ⊢;have c2:=h.at'.2.1 2 _ rfl;have hlt:=h.at'.lt;clear hn hm h;have hb0:=zAM (zAM (Below.refl _ w) (.cells #[.pointer (some ⟨k,0,none⟩)] 101)) (.cells #[.func (.func f) #[] #[]] 209);have pW:=(AtL.new0 w 101 [.pointer (some ⟨k,0,none⟩)]).alloc (.cells #[.func (.func f) #[] #[]] 209);have pI:=AtL.new1 w (.cells #[.pointer (some ⟨k,0,none⟩)] 101) 209 [.func (.func f) #[] #[]];have d2:=zAC hb0 c2;have x0:=pW.2.1 0 _ rfl;have hms:IntKind.i64.wrap ((m:Int) - 1)=((m - 1:Nat):Int):=by rw [IntKind.wrap_i64];omega
 clear c2;go_enter func156,ntmps156;go_upto_region 1 with fail
 generalize ((w.alloc (.cells [.pointer (some ⟨k,0,none⟩)].toArray 101)).alloc (.cells [.func (.func f) #[] #[]].toArray 209))=W at *;have hb1:=zAM (Below.refl _ W) (.cells #[.int .i64 ((m - 1:Nat):Int)] 3);have pA:=AtL.new0 W 3 [.int .i64 ((m - 1:Nat):Int)];have pW1:=AtL.below hb1 pW;have pI1:=AtL.below hb1 pI;have hB:=zAB hb0 hb1;go_upto_region 2 with fail
 have hzW:=hb0.size;clear d2 x0 pW pI hb0 hb1;generalize (W.alloc (.cells [.int .i64 ((m - 1:Nat):Int)].toArray 3))=W2 at *;have HCL:Hid (W2.cell? ⟨w.heap.size+1,0,none⟩=some (.func (.func f) #[] #[])/\W2.cell? ⟨w.heap.size,0,none⟩=some (.pointer (some ⟨k,0,none⟩))/\W2.cell? ⟨W.heap.size,0,none⟩=some (.int .i64 ((m - 1:Nat):Int))):=⟨pI1.2.1 0 _ rfl,pW1.2.1 0 _ rfl,pA.2.1 0 _ rfl⟩
 have HSZ:Hid (w.heap.size+1<W2.heap.size/\W.heap.size<W2.heap.size/\w.heap.size<=W.heap.size):=⟨pI1.lt,pA.lt,hzW⟩
 clear pW1 pI1 pA hzW;go_wp2;go_ret;refine ⟨⟨_,_,rfl,⟨_,_,_,rfl,rfl,HCL.out.1,HCL.out.2.1,HCL.out.2.2⟩,λb hb=>?_⟩,hB⟩;have hz:=HSZ.out;simp at hb;omega
theorem zBG:∀ (A:List (Wc.In × Value)) (i:Nat) (h:i<A.length) (j:Nat) (v:Value),(zAD (A[i]).1 (A[i]).2)[j]? = some v->(zAc A)[i * 23+j]? = some v
 | [],i,h,_,_,_=>absurd h (Nat.not_lt_zero _)
 | x::r,0,h,j,v,hv=>by
  have hj:j<(zAD x.1 x.2).length:=by
   rcases Nat.lt_or_ge j (zAD x.1 x.2).length with q | q
   ·exact q
   ·simp only [List.getElem_cons_zero] at hv;rw [List.getElem?_eq_none q] at hv;cases hv
  simp only [zAc,Nat.zero_mul,Nat.zero_add];rw [List.getElem?_append_left hj];exact hv
 | x::r,i+1,h,j,v,hv=>by
  have hl:(zAD x.1 x.2).length=23:=rfl;simp only [zAc];rw [List.getElem?_append_right (by rw [hl];omega),hl,show (i+1) * 23+j - 23=i * 23+j from by omega];exact zBG r i (by simpa using h) j v (by simpa using hv)
theorem zBi (A:List (Wc.In × Value)) (i:Nat) (h:i<A.length) (y:Wc.In × Value) (j:Nat) (u:Value) (hy:(zAD (A[i]).1 (A[i]).2).set j u=zAD y.1 y.2) (hj:j<23):(zAc A).set (i * 23+j) u=zAc (A.set i y):=by
 induction A generalizing i with
 | nil=>cases h
 | cons x r ih =>
  have hl:(zAD x.1 x.2).length=23:=rfl;cases i with
  | zero =>
   simp only [zAc,List.set_cons_zero,Nat.zero_mul,Nat.zero_add];rw [List.set_append_left _ _ (by rw [hl];exact hj)];simp only [List.getElem_cons_zero] at hy;rw [hy]
  | succ i =>
   simp only [zAc,List.set_cons_succ];rw [List.set_append_right _ _ (by rw [hl];omega),hl,show (i+1) * 23+j - 23=i * 23+j from by omega];rw [ih i (by simpa using h) (by simpa using hy)]
theorem zIn {g o:Nat} (h:WS k B T (w.setCell ⟨g,o,none⟩ v) s0 s1 L lv P):WS k B T (w.drew.setCell ⟨g,o,none⟩ v) s0 s1 L lv P:=by
 have hb:Below (w.setCell ⟨g,o,none⟩ v).heap.size (w.setCell ⟨g,o,none⟩ v) (w.setCell ⟨g,o,none⟩ v).drew:=(Below.refl _ _).drew;exact h.below hb
theorem zLx (h:WS k B T w s0 s1 L lv P) (hkB:k<B) {g cap i:Nat} (hlv:lv=.slice (some ⟨g,0,none⟩) P.length cap) (hi:i<P.length) (hi2:i<L.length) (v:Int) :
  WS k B T (w.setCell ⟨g,i * 23+1,none⟩ (.int .i64 v)) s0 s1 (L.set i ({(L[i]).1 with a:=v},(L[i]).2)) lv (P.set i ({(P[i]).1 with a:=v},(P[i]).2)):=by
 subst hlv;have hst:=h.own.stored (i * 23+1) (.int .i64 v);have hg:=(zAK h.own (show Value.ownBlock (.slice (some ⟨g,0,none⟩) P.length cap)=some g from rfl)).1;have hf:Fr [g] w (w.setCell ⟨g,i * 23+1,none⟩ (.int .i64 v)):=Fr.of_grown hst.2 (λj e=>by cases e;simp);have h2nd:∀ j (h1:j<P.length),((P.set i ({(P[i]).1 with a:=v},(P[i]).2))[j]'(by rw [List.length_set];exact h1)).2=(P[j]).2:=λj h1=>by
  by_cases e:i=j
  ·subst e;rw [List.getElem_set_self]
  ·rw [List.getElem_set_ne e]
 refine ⟨h.at'.fr hf (by simp;omega),?_,by simp [h.len],λj h1 h2=>?_,h.tb,λa b h1 h2 c e1 e2=>?_⟩
 ·have:=hst.1;rw [zBi P i hi ({(P[i]).1 with a:=v},(P[i]).2) 1 _ rfl (by omega)] at this;unfold OwnI;rw [List.length_set];exact this
 ·rw [List.length_set] at h1 h2;have hz:OwnZ (w.setCell ⟨g,i * 23+1,none⟩ (.int .i64 v)) (T j) (P[j]).2 (L[j]).2:=zAW hf (h.ins j h1 h2).2 (λb e hm=>zAi (h.ins j h1 h2).2 h.own (by decide) e (by simp at hm;rw [hm];rfl));by_cases e:i=j
  ·subst e;rw [List.getElem_set_self,List.getElem_set_self];exact ⟨by rw [(h.ins i h1 h2).1],hz⟩
  ·rw [List.getElem_set_ne e,List.getElem_set_ne e];exact ⟨(h.ins j h1 h2).1,hz⟩
 ·rw [List.length_set] at h1 h2;rw [h2nd a h1] at e1;rw [h2nd b h2] at e2;exact h.dis a b h1 h2 c e1 e2
theorem zML (h:WS k B T w s0 s1 L lv P) (hkB:k<B) {g cap i:Nat} (hlv:lv=.slice (some ⟨g,0,none⟩) P.length cap) (hi:i<P.length) (hi2:i<L.length) (v:Int) :
  WS k B T (w.setCell ⟨g,i * 23+2,none⟩ (.int .i64 v)) s0 s1 (L.set i ({(L[i]).1 with b:=v},(L[i]).2)) lv (P.set i ({(P[i]).1 with b:=v},(P[i]).2)):=by
 subst hlv;have hst:=h.own.stored (i * 23+2) (.int .i64 v);have hg:=(zAK h.own (show Value.ownBlock (.slice (some ⟨g,0,none⟩) P.length cap)=some g from rfl)).1;have hf:Fr [g] w (w.setCell ⟨g,i * 23+2,none⟩ (.int .i64 v)):=Fr.of_grown hst.2 (λj e=>by cases e;simp);have h2nd:∀ j (h1:j<P.length),((P.set i ({(P[i]).1 with b:=v},(P[i]).2))[j]'(by rw [List.length_set];exact h1)).2=(P[j]).2:=λj h1=>by
  by_cases e:i=j
  ·subst e;rw [List.getElem_set_self]
  ·rw [List.getElem_set_ne e]
 refine ⟨h.at'.fr hf (by simp;omega),?_,by simp [h.len],λj h1 h2=>?_,h.tb,λa b h1 h2 c e1 e2=>?_⟩
 ·have:=hst.1;rw [zBi P i hi ({(P[i]).1 with b:=v},(P[i]).2) 2 _ rfl (by omega)] at this;unfold OwnI;rw [List.length_set];exact this
 ·rw [List.length_set] at h1 h2;have hz:OwnZ (w.setCell ⟨g,i * 23+2,none⟩ (.int .i64 v)) (T j) (P[j]).2 (L[j]).2:=zAW hf (h.ins j h1 h2).2 (λb e hm=>zAi (h.ins j h1 h2).2 h.own (by decide) e (by simp at hm;rw [hm];rfl));by_cases e:i=j
  ·subst e;rw [List.getElem_set_self,List.getElem_set_self];exact ⟨by rw [(h.ins i h1 h2).1],hz⟩
  ·rw [List.getElem_set_ne e,List.getElem_set_ne e];exact ⟨(h.ins j h1 h2).1,hz⟩
 ·rw [List.length_set] at h1 h2;rw [h2nd a h1] at e1;rw [h2nd b h2] at e2;exact h.dis a b h1 h2 c e1 e2
theorem zHn (g o:Nat) (v:Int) (u:Value) (w:World) (hc:w.cell? ⟨g,o+1,none⟩=some u) (hz:w.frozen? ⟨g,o+1,none⟩=false):Calls prog 157 #[.pointer (some ⟨g,o,none⟩),.int .i64 v] w λe w'=>e=.returned (.tuple #[])/\w'=w.setCell ⟨g,o+1,none⟩ (.int .i64 v):=by
 go_enter func157,ntmps157;go_wp2;go_end0
 exact ⟨rfl,rfl⟩
theorem zIe (g o:Nat) (v:Int) (u:Value) (w:World) (hc:w.cell? ⟨g,o+2,none⟩=some u) (hz:w.frozen? ⟨g,o+2,none⟩=false):Calls prog 158 #[.pointer (some ⟨g,o,none⟩),.int .i64 v] w λe w'=>e=.returned (.tuple #[])/\w'=w.setCell ⟨g,o+2,none⟩ (.int .i64 v):=by
 go_enter func158,ntmps158;go_wp2;go_end0
 exact ⟨rfl,rfl⟩
theorem zFH (k B:Nat) (T:Nat->Nat) (s0 s1:Value) (L:List I) (lv:Value) (P:List (Wc.In × Value)) (w:World) (at':Nat) (bi bw ba:Nat) (h:WS k B T w s0 s1 L lv P) (hkB:k<B) (hl:L.length<=1000000) (hat:at' < L.length)
  (h1:w.cell? ⟨bi,0,none⟩=some (.func (.func 157) #[] #[])) (h2:w.cell? ⟨bw,0,none⟩=some (.pointer (some ⟨k,0,none⟩))) (h3:w.cell? ⟨ba,0,none⟩=some (.int .i64 (at':Int))) (hn:∀ b,lv.ownBlock=some b->bi ≠ b/\bw ≠ b/\ba ≠ b) :
  Calls prog 174 #[.pointer (some ⟨bi,0,none⟩),.pointer (some ⟨bw,0,none⟩),.pointer (some ⟨ba,0,none⟩)] w λe w'=>(∃ P',e=.returned (.tuple #[])/\WS k B T w' s0 s1 (L.set at' ({(L[at']).1 with a:=(L.length:Int)},(L[at']).2)) lv P')/\Fr lv.ownBlock.toList w w':=by
 have hPl:=h.len;rcases h.own.2 with ⟨e,h9⟩ | ⟨g,cap,cur,e,hgB,_⟩
 ·rw [hPl] at h9;omega
 have hatP:at' < P.length:=by rw [hPl];exact hat
 have hset:=zLx h hkB e hatP hat (L.length:Int);subst e;have hown:=h.own;have hcc:=hown.cellAt (at' * 23+1) (by omega);have hzz:=hown.frozenAt (at' * 23+1);rw [zBG P at' hatP 1 (.int .i64 (P[at']).1.a) rfl] at hcc;rw [hPl] at h hset hn ⊢;obtain ⟨m,hm⟩:∃ m,L.length=m:=⟨_,rfl⟩
 have HAT:Hid (at' < m/\m<=1000000):=by rw [hm] at hat hl;exact ⟨hat,hl⟩
 have c2:=h.at'.2.1 2 _ rfl;have hng:=hn g rfl;have hgk:g ≠ k:=by omega
 have HNE0:Hid (bi ∉ [g]/\bw ∉ [g]/\ba ∉ [g]/\k ∉ [g]):=⟨by simpa using hng.1,by simpa using hng.2.1,by simpa using hng.2.2,by simpa using hgk.symm⟩
 obtain ⟨L2,hL2⟩:∃ L2,L.set at' ({(L[at']).1 with a:=(L.length:Int)},(L[at']).2)=L2:=⟨_,rfl⟩
 obtain ⟨P2,hP2⟩:∃ P2,P.set at' ({(P[at']).1 with a:=(L.length:Int)},(P[at']).2)=P2:=⟨_,rfl⟩
 rw [hL2,hP2] at hset;rw [hL2];rw [hm] at c2 hset ⊢;have hf0:Fr [g] w (w.setCell ⟨g,at' * 23+1,none⟩ (.int .i64 (m:Int))):=Fr.of_grown (zAP _ _ _ _) (λj e=>by cases e;simp);have hWD:=(Below.refl w.heap.size w).drew;have hset2:WS k B T (w.drew.setCell ⟨g,at' * 23+1,none⟩ (.int .i64 (m:Int))) s0 s1 L2 (.slice (some ⟨g,0,none⟩) m cap) P2:=zIn hset;have hfr:Fr [g] w.drew (w.drew.setCell ⟨g,at' * 23+1,none⟩ (.int .i64 (m:Int))):=Fr.of_grown (zAP _ _ _ _) (λj e=>by cases e;simp);have HFR:Hid (Fr (Value.ownBlock (.slice (some ⟨g,0,none⟩) m cap)).toList w (w.drew.setCell ⟨g,at' * 23+1,none⟩ (.int .i64 (m:Int)))):=(Fr.of_below [g] hWD).trans hfr;have HWS:Hid (WS k B T (w.drew.setCell ⟨g,at' * 23+1,none⟩ (.int .i64 (m:Int))) s0 s1 L2 (.slice (some ⟨g,0,none⟩) m cap) P2):=hset2;have HNE:Hid (bi ∉ [g]/\bw ∉ [g]/\ba ∉ [g]/\k ∉ [g]):=HNE0;replace hcc:w.drew.cell? ⟨g,at' * 23+1,none⟩=some (.int .i64 (P[at']).1.a):=hcc
 replace hzz:w.drew.frozen? ⟨g,at' * 23+1,none⟩=false:=hzz
 replace h1:w.drew.cell? ⟨bi,0,none⟩=some (.func (.func 157) #[] #[]):=h1
 replace h2:w.drew.cell? ⟨bw,0,none⟩=some (.pointer (some ⟨k,0,none⟩)):=h2
 replace h3:w.drew.cell? ⟨ba,0,none⟩=some (.int .i64 (at':Int)):=h3
 replace c2:w.drew.cell? ⟨k,2,none⟩=some (.slice (some ⟨g,0,none⟩) m cap):=c2
 have ha1:(at':Int)<(m:Int):=by have:=HAT.out;omega
 have ha0:(0:Int)<=(at':Int):=by omega
 have IN:=λ(W:World) (h1:W.cell? ⟨g,at' * 23+1,none⟩=some (.int .i64 (P[at']).1.a)) (h2:W.frozen? ⟨g,at' * 23+1,none⟩=false)=>zHn g (at' * 23) (m:Int) _ W h1 h2
 generalize (P[at']).1.a=u at *;clear hset hset2 hf0 hWD hown h hPl hatP hat hl hm hn hng hgk HNE0 hL2 hP2;go_enter func174,ntmps174;refine wp_region_held_drew (S:=λW=>W.cell? ⟨bi,0,none⟩=some (.func (.func 157) #[] #[])/\W.cell? ⟨bw,0,none⟩=some (.pointer (some ⟨k,0,none⟩))/\W.cell? ⟨ba,0,none⟩=some (.int .i64 (at':Int))/\W.cell? ⟨k,2,none⟩=some (.slice (some ⟨g,0,none⟩) m cap)) (by kernel_rfl) ⟨h1,h2,h3,c2⟩ (λhHeld=>?_);generalize w.drew=WD at *;refine tkQ 0 ?_
 refine tkQ 1 ?_
 refine tkQ 2 ?_
 refine tkQ 3 ?_
 refine tkQ 4 ?_
 refine tkQ 5 ?_
 refine tkQ 6 ?_
 refine tkQ 7 ?_
 refine tkQ 8 ?_
 refine tkQ 9 ?_
 refine tkQ 10 ?_
 refine tkQ 11 ?_
 refine rdQ 12 (λK hK=>?_);go_simp
 refine (IN _ hcc hzz).mono ?_;rintro e w2 ⟨rfl,rfl⟩;go_wp2_with fail
 refine hkQ hK ⟨hfr.cell h1 HNE.out.1,hfr.cell h2 HNE.out.2.1,hfr.cell h3 HNE.out.2.2.1,hfr.cell c2 HNE.out.2.2.2⟩ (λhHeld=>?_);clear hK K
 refine wpAnyH_done (by kernel_rfl) ?_ _;clear hHeld h1 h2 h3 c2 hcc hzz hfr IN;go_wp2;go_end0
 exact ⟨⟨_,rfl,HWS.out⟩,HFR.out⟩
theorem zHo (k B:Nat) (T:Nat->Nat) (s0 s1:Value) (L:List I) (lv:Value) (P:List (Wc.In × Value)) (w:World) (at':Nat) (bi bw ba:Nat) (h:WS k B T w s0 s1 L lv P) (hkB:k<B) (hl:L.length<=1000000) (hat:at' < L.length)
  (h1:w.cell? ⟨bi,0,none⟩=some (.func (.func 158) #[] #[])) (h2:w.cell? ⟨bw,0,none⟩=some (.pointer (some ⟨k,0,none⟩))) (h3:w.cell? ⟨ba,0,none⟩=some (.int .i64 (at':Int))) (hn:∀ b,lv.ownBlock=some b->bi ≠ b/\bw ≠ b/\ba ≠ b) :
  Calls prog 174 #[.pointer (some ⟨bi,0,none⟩),.pointer (some ⟨bw,0,none⟩),.pointer (some ⟨ba,0,none⟩)] w λe w'=>(∃ P',e=.returned (.tuple #[])/\WS k B T w' s0 s1 (L.set at' ({(L[at']).1 with b:=(L.length:Int)},(L[at']).2)) lv P')/\Fr lv.ownBlock.toList w w':=by
 have hPl:=h.len;rcases h.own.2 with ⟨e,h9⟩ | ⟨g,cap,cur,e,hgB,_⟩
 ·rw [hPl] at h9;omega
 have hatP:at' < P.length:=by rw [hPl];exact hat
 have hset:=zML h hkB e hatP hat (L.length:Int);subst e;have hown:=h.own;have hcc:=hown.cellAt (at' * 23+2) (by omega);have hzz:=hown.frozenAt (at' * 23+2);rw [zBG P at' hatP 2 (.int .i64 (P[at']).1.b) rfl] at hcc;rw [hPl] at h hset hn ⊢;obtain ⟨m,hm⟩:∃ m,L.length=m:=⟨_,rfl⟩
 have HAT:Hid (at' < m/\m<=1000000):=by rw [hm] at hat hl;exact ⟨hat,hl⟩
 have c2:=h.at'.2.1 2 _ rfl;have hng:=hn g rfl;have hgk:g ≠ k:=by omega
 have HNE0:Hid (bi ∉ [g]/\bw ∉ [g]/\ba ∉ [g]/\k ∉ [g]):=⟨by simpa using hng.1,by simpa using hng.2.1,by simpa using hng.2.2,by simpa using hgk.symm⟩
 obtain ⟨L2,hL2⟩:∃ L2,L.set at' ({(L[at']).1 with b:=(L.length:Int)},(L[at']).2)=L2:=⟨_,rfl⟩
 obtain ⟨P2,hP2⟩:∃ P2,P.set at' ({(P[at']).1 with b:=(L.length:Int)},(P[at']).2)=P2:=⟨_,rfl⟩
 rw [hL2,hP2] at hset;rw [hL2];rw [hm] at c2 hset ⊢;have hf0:Fr [g] w (w.setCell ⟨g,at' * 23+2,none⟩ (.int .i64 (m:Int))):=Fr.of_grown (zAP _ _ _ _) (λj e=>by cases e;simp);have hWD:=(Below.refl w.heap.size w).drew;have hset2:WS k B T (w.drew.setCell ⟨g,at' * 23+2,none⟩ (.int .i64 (m:Int))) s0 s1 L2 (.slice (some ⟨g,0,none⟩) m cap) P2:=zIn hset;have hfr:Fr [g] w.drew (w.drew.setCell ⟨g,at' * 23+2,none⟩ (.int .i64 (m:Int))):=Fr.of_grown (zAP _ _ _ _) (λj e=>by cases e;simp);have HFR:Hid (Fr (Value.ownBlock (.slice (some ⟨g,0,none⟩) m cap)).toList w (w.drew.setCell ⟨g,at' * 23+2,none⟩ (.int .i64 (m:Int)))):=(Fr.of_below [g] hWD).trans hfr;have HWS:Hid (WS k B T (w.drew.setCell ⟨g,at' * 23+2,none⟩ (.int .i64 (m:Int))) s0 s1 L2 (.slice (some ⟨g,0,none⟩) m cap) P2):=hset2;have HNE:Hid (bi ∉ [g]/\bw ∉ [g]/\ba ∉ [g]/\k ∉ [g]):=HNE0;replace hcc:w.drew.cell? ⟨g,at' * 23+2,none⟩=some (.int .i64 (P[at']).1.b):=hcc
 replace hzz:w.drew.frozen? ⟨g,at' * 23+2,none⟩=false:=hzz
 replace h1:w.drew.cell? ⟨bi,0,none⟩=some (.func (.func 158) #[] #[]):=h1
 replace h2:w.drew.cell? ⟨bw,0,none⟩=some (.pointer (some ⟨k,0,none⟩)):=h2
 replace h3:w.drew.cell? ⟨ba,0,none⟩=some (.int .i64 (at':Int)):=h3
 replace c2:w.drew.cell? ⟨k,2,none⟩=some (.slice (some ⟨g,0,none⟩) m cap):=c2
 have ha1:(at':Int)<(m:Int):=by have:=HAT.out;omega
 have ha0:(0:Int)<=(at':Int):=by omega
 have IN:=λ(W:World) (h1:W.cell? ⟨g,at' * 23+2,none⟩=some (.int .i64 (P[at']).1.b)) (h2:W.frozen? ⟨g,at' * 23+2,none⟩=false)=>zIe g (at' * 23) (m:Int) _ W h1 h2
 generalize (P[at']).1.b=u at *;clear hset hset2 hf0 hWD hown h hPl hatP hat hl hm hn hng hgk HNE0 hL2 hP2;go_enter func174,ntmps174;refine wp_region_held_drew (S:=λW=>W.cell? ⟨bi,0,none⟩=some (.func (.func 158) #[] #[])/\W.cell? ⟨bw,0,none⟩=some (.pointer (some ⟨k,0,none⟩))/\W.cell? ⟨ba,0,none⟩=some (.int .i64 (at':Int))/\W.cell? ⟨k,2,none⟩=some (.slice (some ⟨g,0,none⟩) m cap)) (by kernel_rfl) ⟨h1,h2,h3,c2⟩ (λhHeld=>?_);generalize w.drew=WD at *;refine tkQ 0 ?_
 refine tkQ 1 ?_
 refine tkQ 2 ?_
 refine tkQ 3 ?_
 refine tkQ 4 ?_
 refine tkQ 5 ?_
 refine tkQ 6 ?_
 refine tkQ 7 ?_
 refine tkQ 8 ?_
 refine tkQ 9 ?_
 refine tkQ 10 ?_
 refine tkQ 11 ?_
 refine rdQ 12 (λK hK=>?_);go_simp
 refine (IN _ hcc hzz).mono ?_;rintro e w2 ⟨rfl,rfl⟩;go_wp2_with fail
 refine hkQ hK ⟨hfr.cell h1 HNE.out.1,hfr.cell h2 HNE.out.2.1,hfr.cell h3 HNE.out.2.2.1,hfr.cell c2 HNE.out.2.2.2⟩ (λhHeld=>?_);clear hK K
 refine wpAnyH_done (by kernel_rfl) ?_ _;clear hHeld h1 h2 h3 c2 hcc hzz hfr IN;go_wp2;go_end0
 exact ⟨⟨_,rfl,HWS.out⟩,HFR.out⟩
theorem zBn {ops:Array Oper} {rest:List Oper} {o:Oper} {a:Act} {Q:Exit->Act->World->Prop} (hgd:o.guard=none) (s x:Operand) (ho:o.op=.call {callee:=.builtin .append,args:=#[s,x],argTypes:=#[54,54]})
  (w:World) (B:Nat) (hB:B<=w.heap.size) (v:Value) (A:List Int) (hs:a.eval s=v) (hown:OwnZ w B v A) (g:Nat) (y:Int) (hx:a.eval x=.slice (some ⟨g,0,none⟩) 1 1) (hat:w.cell? ⟨g,0,none⟩=some (.int .i64 y)) (hl:True->A.length<=1000000)
  (h:∀ v' w',OwnZ w' B v' (A++[y])->w.grownBy w' v.ownBlock->(v'.ownBlock=v.ownBlock \/ v'.ownBlock=some w.heap.size)->wpList prog ops Q rest (a.put o.dst v') w'):wpList prog ops Q (o::rest) a w:=by
 obtain ⟨i0,hi0,hz0,hz1,hz2⟩:=info_parts zJK;have hl:=hl trivial;refine wpList_plain hgd λK hK=>?_
 have hnews:∀ j u,([Value.int .i64 y])[j]? = some u->w.cell? ((⟨g,0,none⟩:Addr).add j)=some u:=λj u hj=>by
  cases j with
  | zero=>simp only [List.getElem?_cons_zero,Option.some.injEq] at hj;subst hj;exact hat
  | succ j=>simp at hj
 obtain ⟨v',w',hr,own,hg,_,hb⟩:=run_append_own_at (P:=prog) w B 54 o.type 3 i0 _ 1 8 underlying54 hi0 hz0 hz1 hz2 rfl (by decide) v A.length (A.map (Value.int .i64)) hown ⟨g,0,none⟩ 1 1 [.int .i64 y] rfl hnews (λu hu=>by simp at hu;subst hu;rfl) (by unfold maxLen;omega) (by omega) hB;unfold Oper.wp execOp;simp only [ho,resolve,invoke,builtin,Sem.run_bind,Sem.run_pure,Result.andThen_ok,List.map_toArray,List.map_cons,List.map_nil,hs,hx,hr];refine hK _ _ (h v' w' ?_ hg hb);unfold OwnZ;rw [List.length_append,List.map_append];exact own
theorem OwnZ.slice {A:List Int} (h:OwnZ w B v A):∃ a m c,v=.slice a m c:=by
 rcases h.2 with ⟨e,_⟩ | ⟨g,cap,cur,e,_⟩
 ·exact ⟨_,_,_,e⟩
 ·exact ⟨_,_,_,e⟩
theorem zG2 (g o B:Nat) (v:Int) (tv:Value) (tl:List Int) (w:World) (hc:w.cell? ⟨g,o+22,none⟩=some tv) (hz:w.frozen? ⟨g,o+22,none⟩=false) (ho:OwnZ w B tv tl) (hB:B<=w.heap.size) (hl:tl.length<=1000000) (hg:¬ tv.ownBlock=some g):Calls prog 161 #[.pointer (some ⟨g,o,none⟩),.int .i64 v] w λe w'=>e=.returned (.tuple #[])/\∃ tv' w1,OwnZ w1 B tv' (tl++[v])/\Fr tv.ownBlock.toList w w1/\(∀ j,tv'.ownBlock=some j->tv.ownBlock=some j \/ w.heap.size<=j)/\w'=w1.setCell ⟨g,o+22,none⟩ tv':=by
 have hb0:=zAM (Below.refl _ w) (.cells #[.int .i64 v] 3);have pN:=AtL.new0 w 3 [.int .i64 v];have HO:Hid (OwnZ (w.alloc (.cells #[.int .i64 v] 3)) B tv tl):=ho.below hb0;have HX:Hid ((w.alloc (.cells #[.int .i64 v] 3)).cell? ⟨w.heap.size,0,none⟩=some (.int .i64 v)):=pN.2.1 0 _ rfl;have HB:Hid (B<=(w.alloc (.cells #[.int .i64 v] 3)).heap.size/\w.heap.size<=(w.alloc (.cells #[.int .i64 v] 3)).heap.size):=⟨Nat.le_trans hB hb0.size,hb0.size⟩
 have HL:Hid (tl.length<=1000000):=hl;have HG:Hid (¬ tv.ownBlock=some g):=hg;have HC:Hid ((w.alloc (.cells #[.int .i64 v] 3)).cell? ⟨g,o+22,none⟩=some tv/\(w.alloc (.cells #[.int .i64 v] 3)).frozen? ⟨g,o+22,none⟩=false):=⟨zAC hb0 hc,by rw [(Fr.of_below [] hb0).frozen (zA5 hc) (by simp)];exact hz⟩
 have HF0:Hid (Fr tv.ownBlock.toList w (w.alloc (.cells #[.int .i64 v] 3))):=Fr.of_below _ hb0;clear pN hb0 ho hB hl hg;go_enter func161,ntmps161;go_wp2_with (first
  | (
    refine zBn rfl (.tmp 8) (.tmp 10) rfl (w.alloc (.cells #[.int .i64 v] 3)) B HB.out.1 tv tl rfl HO.out w.heap.size v rfl HX.out (λ_=>HL.out) ?_;intro tv1 w1 own1 hg1 hv1;have f1:Fr tv.ownBlock.toList (w.alloc (.cells #[.int .i64 v] 3)) w1:=Fr.of_grown hg1 (λj e=>by simp [e]);have c1:=f1.cell HC.out.1 (λe=>HG.out (by simpa using e));have z1:w1.frozen? ⟨g,o+22,none⟩=false:=by rw [f1.frozen (zA5 HC.out.1) (λe=>HG.out (by simpa using e))];exact HC.out.2
    have HF1:Hid (Fr tv.ownBlock.toList w w1):=HF0.out.trans f1;have HO1:Hid (OwnZ w1 B tv1 (tl++[v])):=own1;have HV1:Hid (∀ j,tv1.ownBlock=some j->tv.ownBlock=some j \/ w.heap.size<=j):=(λj e=>by
     rcases hv1 with q | q
     ·exact Or.inl (by rw [<-q];exact e)
     ·rw [q] at e;cases e;exact Or.inr HB.out.2:∀ j,tv1.ownBlock=some j->tv.ownBlock=some j \/ w.heap.size<=j)
    obtain ⟨a8,m8,c8,rfl⟩:=own1.slice;clear own1 hg1 hv1 f1 HO HX HC HF0))
 go_end0
 exact ⟨rfl,_,_,HO1.out,HF1.out,HV1.out,rfl⟩
theorem zNZ {w1:World} (h:WS k B T w s0 s1 L lv P) (hkB:k<B) {g cap i:Nat} (hlv:lv=.slice (some ⟨g,0,none⟩) P.length cap) (hi:i<P.length) (hi2:i<L.length) (v:Int) {tv':Value} (f1:Fr (P[i]).2.ownBlock.toList w w1) (ho:OwnZ w1 (T i) tv' ((L[i]).2++[v])) (hn:Nx w (P[i]).2 tv') :
  WS k B T (w1.setCell ⟨g,i * 23+22,none⟩ tv') s0 s1 (L.set i ((L[i]).1,(L[i]).2++[v])) lv (P.set i ((P[i]).1,tv'))/\Fr (lv.ownBlock.toList++(P[i]).2.ownBlock.toList) w (w1.setCell ⟨g,i * 23+22,none⟩ tv'):=by
 have hTi:=(h.ins i hi hi2).2;have hlT:∀ j,lv.ownBlock=some j->j ∉ (P[i]).2.ownBlock.toList:=λj e hm=>zAi h.own hTi (by decide) e (by simpa using hm)
 have hg0:=λ(e:lv.ownBlock=some g)=>(zAK h.own e).1
 subst hlv;have hg:=hg0 rfl;have own1:=zAW f1 h.own hlT;have hst:=own1.stored (i * 23+22) tv';have f2:Fr [g] w1 (w1.setCell ⟨g,i * 23+22,none⟩ tv'):=Fr.of_grown hst.2 (λj e=>by cases e;simp);refine ⟨⟨(h.at'.fr f1 (λhm=>by have:=(zAK hTi (show (P[i]).2.ownBlock=some k by simpa using hm)).1;have:=h.tb i;omega)).fr f2 (by simp;omega),?_,by simp [h.len],λj h1 h2=>?_,h.tb,λa b h1 h2 c e1 e2=>?_⟩,?_⟩
 ·have:=hst.1;rw [zBi P i hi ((P[i]).1,tv') 22 _ rfl (by omega)] at this;unfold OwnI;rw [List.length_set];exact this
 ·rw [List.length_set] at h1 h2;by_cases e:i=j
  ·subst e;rw [List.getElem_set_self,List.getElem_set_self];exact ⟨(h.ins i h1 h2).1,zAW f2 ho (λb e hm=>by
    simp at hm;subst hm;exact zAi ho own1 (by decide) e rfl)⟩
  ·rw [List.getElem_set_ne e,List.getElem_set_ne e];have hj:=(h.ins j h1 h2).2;have hj1:=zAW f1 hj (λb eb hm=>e (h.dis i j hi h1 b (by simpa using hm) eb));exact ⟨(h.ins j h1 h2).1,zAW f2 hj1 (λb eb hm=>by
    simp at hm;subst hm;exact zAi hj1 own1 (by decide) eb rfl)⟩
 ·rw [List.length_set] at h1 h2;have hne:∀ d (hd:d<P.length),¬ i=d->(P[d]).2.ownBlock=some c->tv'.ownBlock=some c->False:=λd hd hid ed et=>by
   rcases hn c et with q | q
   ·exact hid (h.dis i d hi hd c q ed)
   ·have:=(zAK (h.ins d hd (by rw [<-h.len];exact hd)).2 ed).2;omega
  by_cases ea:i=a
  ·by_cases eb:i=b
   ·omega
   ·subst ea;rw [List.getElem_set_self] at e1;rw [List.getElem_set_ne eb] at e2;exact (hne b h2 eb e2 e1).elim
  ·by_cases eb:i=b
   ·subst eb;rw [List.getElem_set_self] at e2;rw [List.getElem_set_ne ea] at e1;exact (hne a h1 ea e1 e2).elim
   ·rw [List.getElem_set_ne ea] at e1;rw [List.getElem_set_ne eb] at e2;exact h.dis a b h1 h2 c e1 e2
 ·exact (f1.mono (λj hj=>List.mem_append_right _ hj)).trans (f2.mono (λj hj=>by simp at hj;subst hj;exact List.mem_append_left _ (by simp [Value.ownBlock])))
theorem zMn (k B:Nat) (T:Nat->Nat) (s0 s1:Value) (L:List I) (lv:Value) (P:List (Wc.In × Value)) (w:World) (at':Nat) (bi bw ba:Nat) (h:WS k B T w s0 s1 L lv P) (hkB:k<B) (hB:T at'<=w.heap.size) (hl:L.length<=1000000) (hat:at' < L.length) (hatP:at' < P.length) (htl:(L[at']).2.length<=1000000)
  (h1:w.cell? ⟨bi,0,none⟩=some (.func (.func 161) #[] #[])) (h2:w.cell? ⟨bw,0,none⟩=some (.pointer (some ⟨k,0,none⟩))) (h3:w.cell? ⟨ba,0,none⟩=some (.int .i64 (at':Int))) (hn:∀ b ∈ [bi,bw,ba],b ∉ lv.ownBlock.toList++(P[at']).2.ownBlock.toList) :
  Calls prog 174 #[.pointer (some ⟨bi,0,none⟩),.pointer (some ⟨bw,0,none⟩),.pointer (some ⟨ba,0,none⟩)] w λe w'=>(∃ tv',e=.returned (.tuple #[])/\WS k B T w' s0 s1 (L.set at' ((L[at']).1,(L[at']).2++[(L.length:Int)])) lv (P.set at' ((P[at']).1,tv'))/\Nx w (P[at']).2 tv')/\Fr (lv.ownBlock.toList++(P[at']).2.ownBlock.toList) w w':=by
 have hPl:=h.len;rcases h.own.2 with ⟨e,h9⟩ | ⟨g,cap,cur,e,hgB,_⟩
 ·rw [hPl] at h9;omega
 have hWD:=(Below.refl w.heap.size w).drew;have hd:=h.below hWD;have HSET:Hid (∀ (tv':Value) (w1:World),Fr (P[at']).2.ownBlock.toList w.drew w1->OwnZ w1 (T at') tv' ((L[at']).2++[(L.length:Int)])->Nx w.drew (P[at']).2 tv'->WS k B T (w1.setCell ⟨g,at' * 23+22,none⟩ tv') s0 s1 (L.set at' ((L[at']).1,(L[at']).2++[(L.length:Int)])) lv (P.set at' ((P[at']).1,tv'))/\Fr (lv.ownBlock.toList++(P[at']).2.ownBlock.toList) w.drew (w1.setCell ⟨g,at' * 23+22,none⟩ tv')):=λtv' w1 f1 ho hnx=>zNZ hd hkB e hatP hat _ f1 ho hnx
 have HOZ:Hid (OwnZ w.drew (T at') (P[at']).2 (L[at']).2):=(hd.ins at' hatP hat).2;have HBZ:Hid (T at'<=w.drew.heap.size):=hB;have HLZ:Hid ((L[at']).2.length<=1000000):=htl;have HKN:Hid (k ∉ lv.ownBlock.toList++(P[at']).2.ownBlock.toList):=λhm=>by
  rcases List.mem_append.1 hm with q | q
  ·have:=(zAK h.own (show lv.ownBlock=some k by simpa using q)).1;omega
  ·have:=(zAK (h.ins at' hatP hat).2 (show (P[at']).2.ownBlock=some k by simpa using q)).1;have:=h.tb at';omega
 have HGZ:Hid (¬ (P[at']).2.ownBlock=some g):=λee=>zAi (h.ins at' hatP hat).2 h.own (by decide) ee (by rw [e];rfl)
 have HNE:Hid (∀ b ∈ [bi,bw,ba],b ∉ lv.ownBlock.toList++(P[at']).2.ownBlock.toList):=hn;have HWD:Hid (Fr (lv.ownBlock.toList++(P[at']).2.ownBlock.toList) w w.drew):=Fr.of_below _ hWD;have hown:OwnI w.drew B (.slice (some ⟨g,0,none⟩) P.length cap) P:=by rw [<-e];exact hd.own
 have hcc:=hown.cellAt (at' * 23+22) (by omega);have hzz:=hown.frozenAt (at' * 23+22);rw [zBG P at' hatP 22 (P[at']).2 rfl] at hcc;have c2:=hd.at'.2.1 2 _ rfl;rw [e,hPl] at c2;replace h1:w.drew.cell? ⟨bi,0,none⟩=some (.func (.func 161) #[] #[]):=h1
 replace h2:w.drew.cell? ⟨bw,0,none⟩=some (.pointer (some ⟨k,0,none⟩)):=h2
 replace h3:w.drew.cell? ⟨ba,0,none⟩=some (.int .i64 (at':Int)):=h3
 have IN:=λ(W:World) (q1:W.cell? ⟨g,at' * 23+22,none⟩=some (P[at']).2) (q2:W.frozen? ⟨g,at' * 23+22,none⟩=false) (q3:OwnZ W (T at') (P[at']).2 (L[at']).2) (q4:T at'<=W.heap.size) (q5:(L[at']).2.length<=1000000) (q6:¬ (P[at']).2.ownBlock=some g)=>zG2 g (at' * 23) (T at') (L.length:Int) (P[at']).2 (L[at']).2 W q1 q2 q3 q4 q5 q6
 obtain ⟨m,hm⟩:∃ m,L.length=m:=⟨_,rfl⟩
 have HAT:Hid (at' < m/\m<=1000000):=by rw [hm] at hat hl;exact ⟨hat,hl⟩
 rw [hm] at c2;have HM:Hid (L.length=m):=hm;simp only [hm] at IN HSET ⊢;have ha1:(at':Int)<(m:Int):=by have:=HAT.out;omega
 have ha0:(0:Int)<=(at':Int):=by omega
 obtain ⟨tv,htv⟩:∃ tv,(P[at']).2=tv:=⟨_,rfl⟩
 obtain ⟨tl,htl2⟩:∃ tl,(L[at']).2=tl:=⟨_,rfl⟩
 obtain ⟨xi,hxi⟩:∃ x,(P[at']).1=x:=⟨_,rfl⟩
 obtain ⟨xl,hxl⟩:∃ x,(L[at']).1=x:=⟨_,rfl⟩
 simp only [htv,htl2,hxi,hxl] at IN HSET HOZ HLZ HKN HGZ HNE HWD hcc ⊢;clear htv htl2 hxi hxl hown hd hWD h hPl hm hn e hat hl htl hatP hB;go_enter func174,ntmps174;refine wp_region_held_drew (S:=λW=>W.cell? ⟨bi,0,none⟩=some (.func (.func 161) #[] #[])/\W.cell? ⟨bw,0,none⟩=some (.pointer (some ⟨k,0,none⟩))/\W.cell? ⟨ba,0,none⟩=some (.int .i64 (at':Int))/\W.cell? ⟨k,2,none⟩=some (.slice (some ⟨g,0,none⟩) m cap)) (by kernel_rfl) ⟨h1,h2,h3,c2⟩ (λhHeld=>?_);generalize w.drew=WD at *;refine tkQ 0 ?_
 refine tkQ 1 ?_
 refine tkQ 2 ?_
 refine tkQ 3 ?_
 refine tkQ 4 ?_
 refine tkQ 5 ?_
 refine tkQ 6 ?_
 refine tkQ 7 ?_
 refine tkQ 8 ?_
 refine tkQ 9 ?_
 refine tkQ 10 ?_
 refine tkQ 11 ?_
 refine rdQ 12 (λK hK=>?_);go_simp
 refine (IN WD hcc hzz HOZ.out HBZ.out HLZ.out HGZ.out).mono ?_;rintro e w2 ⟨rfl,tv1,w1,own1,f1,hn1,rfl⟩;have HST:=HSET.out tv1 w1 f1 own1 hn1;have hfr:=HST.2;go_wp2_with fail
 refine hkQ hK ⟨hfr.cell h1 (HNE.out bi (by simp)),hfr.cell h2 (HNE.out bw (by simp)),hfr.cell h3 (HNE.out ba (by simp)),hfr.cell c2 HKN.out⟩ (λhHeld=>?_);clear hK K
 refine wpAnyH_done (by kernel_rfl) ?_ _;have HRS:Hid (WS k B T (w1.setCell ⟨g,at' * 23+22,none⟩ tv1) s0 s1 (L.set at' (xl,tl++[(m:Int)])) lv (P.set at' (xi,tv1))/\Nx w tv tv1):=⟨HST.1,λj e=>(hn1 j e).imp id (Nat.le_trans HWD.out.size)⟩
 have HFS:=HWD.out.trans HST.2;clear hHeld h1 h2 h3 c2 hcc hzz hfr IN HST own1 f1 hn1;go_wp2;go_end0
 exact ⟨⟨_,rfl,HRS.out.1,HRS.out.2⟩,HFS⟩
theorem zFL (own:Int) (nm:List ByteArray) (av:Option Addr) (m cap:Nat) (r:Wt.Rf) (w:World) (hm:m=nm.length) (hl:nm.length<=16) (hR:RdS w av nm):CR 48 #[zCS own av m cap,.agg (rf5 r).toArray] w (.agg #[.int .i64 (shN own nm r.s),.int .i64 r.r,.int .i64 r.c]):=by
 have SH:=λ(W:World) (h:RdS W av nm)=>zCf own nm r.s av m cap W hm hl h
 generalize shN own nm r.s=sn at *;have hB:=zAM (zAM (zAM (Below.refl _ w) (.cells #[.int .i64 own,.slice av m cap] 60)) (.cells #[.string r.s,.int .i64 r.r,.int .i64 r.c,.bool r.fr,.bool r.fc] 33)) (.cells #[.int .i64 0,.int .i64 0,.int .i64 0] 24);have pS:=((AtL.new0 w 60 [.int .i64 own,.slice av m cap]).alloc (.cells #[.string r.s,.int .i64 r.r,.int .i64 r.c,.bool r.fr,.bool r.fc] 33)).alloc (.cells #[.int .i64 0,.int .i64 0,.int .i64 0] 24);have pR:=(AtL.new1 w (.cells #[.int .i64 own,.slice av m cap] 60) 33 [.string r.s,.int .i64 r.r,.int .i64 r.c,.bool r.fr,.bool r.fc]).alloc (.cells #[.int .i64 0,.int .i64 0,.int .i64 0] 24);have pC:AtL (((w.alloc (.cells #[.int .i64 own,.slice av m cap] 60)).alloc (.cells #[.string r.s,.int .i64 r.r,.int .i64 r.c,.bool r.fr,.bool r.fc] 33)).alloc (.cells #[.int .i64 0,.int .i64 0,.int .i64 0] 24)) (w.heap.size+2) [.int .i64 0,.int .i64 0,.int .i64 0]:=AtL.new _ _ (by simp) _;have HR3:Hid (RdS (((w.alloc (.cells #[.int .i64 own,.slice av m cap] 60)).alloc (.cells #[.string r.s,.int .i64 r.r,.int .i64 r.c,.bool r.fr,.bool r.fc] 33)).alloc (.cells #[.int .i64 0,.int .i64 0,.int .i64 0] 24)) av nm):=hR.below hB;clear hm hl hR;unfold rf5;go_enter func48,ntmps48;go_upto_region 1 with fail
 generalize (((w.alloc (.cells #[.int .i64 own,.slice av m cap] 60)).alloc (.cells #[.string r.s,.int .i64 r.r,.int .i64 r.c,.bool r.fr,.bool r.fc] 33)).alloc (.cells #[.int .i64 0,.int .i64 0,.int .i64 0] 24))=W3 at *;have rb:=(Below.refl W3.heap.size W3).drew;have pS1:=AtL.below rb pS;have pR1:=AtL.below rb pR;have pC1:=AtL.below rb pC;have hB1:=zAB hB rb;have HRD:Hid (RdS W3.drew av nm):=HR3.out.below rb;have s0:=pS1.2.1 0 _ rfl;have s1:=pS1.2.1 1 _ rfl;have r0:=pR1.2.1 0 _ rfl;have r1:=pR1.2.1 1 _ rfl;have r2:=pR1.2.1 2 _ rfl;clear rb pS pR pC pS1 pR1 hB HR3;refine wp_region_held_drew (S:=λW=>W.cell? ⟨w.heap.size,0,none⟩=some (.int .i64 own)/\W.cell? ⟨w.heap.size,1,none⟩=some (.slice av m cap)/\W.cell? ⟨w.heap.size+1,0,none⟩=some (.string r.s)/\W.cell? ⟨w.heap.size+1,1,none⟩=some (.int .i64 r.r)/\W.cell? ⟨w.heap.size+1,2,none⟩=some (.int .i64 r.c)) (by kernel_rfl) ⟨s0,s1,r0,r1,r2⟩ (λhHeld=>?_);generalize W3.drew=WD at *;refine tkQ 0 ?_
 refine tkQ 1 ?_
 refine tkQ 2 ?_
 refine tkQ 4 ?_
 refine tkQ 5 ?_
 refine tkQ 6 ?_
 refine tkQ 7 ?_
 refine rdQ 3 (λK hK=>?_);go_simp
 refine (SH WD HRD.out).mono ?_;rintro e w6 ⟨rfl,hb6⟩;go_wp2_with fail
 refine hkQ hK ⟨zAC hb6 s0,zAC hb6 s1,zAC hb6 r0,zAC hb6 r1,zAC hb6 r2⟩ (λhHeld=>?_);clear hK K
 have hB6:=zAB hB1 hb6;have pC6:=AtL.below hb6 pC1;refine tkQ 8 ?_
 have k0:=pC6.2.1 0 _ rfl;have k1:=pC6.2.1 1 _ rfl;have k2:=pC6.2.1 2 _ rfl;have z0:=pC6.2.2 0 (by simp);have z1:=pC6.2.2 1 (by simp);have z2:=pC6.2.2 2 (by simp);refine rdQ 9 (λK hK=>?_);go_simp
 have fr:Fr [w.heap.size+2] w6 (((w6.setCell ⟨w.heap.size+2,0,none⟩ (.int .i64 sn)).setCell ⟨w.heap.size+2,1,none⟩ (.int .i64 r.r)).setCell ⟨w.heap.size+2,2,none⟩ (.int .i64 r.c)):=zDc;have pF:AtL (w6.setCells (w.heap.size+2) 0 [.int .i64 sn,.int .i64 r.r,.int .i64 r.c]) (w.heap.size+2) [.int .i64 sn,.int .i64 r.r,.int .i64 r.c]:=pC6.setAll rfl;have HPF:Hid ((((w6.setCell ⟨w.heap.size+2,0,none⟩ (.int .i64 sn)).setCell ⟨w.heap.size+2,1,none⟩ (.int .i64 r.r)).setCell ⟨w.heap.size+2,2,none⟩ (.int .i64 r.c)).rangeAt (w.heap.size+2) 0 [.int .i64 sn,.int .i64 r.r,.int .i64 r.c]):=pF.range;have HBF:Hid (Below w.heap.size w (((w6.setCell ⟨w.heap.size+2,0,none⟩ (.int .i64 sn)).setCell ⟨w.heap.size+2,1,none⟩ (.int .i64 r.r)).setCell ⟨w.heap.size+2,2,none⟩ (.int .i64 r.c))):=zCT hB6 fr (λk hk=>by simp at hk;omega);refine hkQ hK ⟨fr.cell (zAC hb6 s0) (by simp),fr.cell (zAC hb6 s1) (by simp),fr.cell (zAC hb6 r0) (by simp),fr.cell (zAC hb6 r1) (by simp),fr.cell (zAC hb6 r2) (by simp)⟩ (λhHeld=>?_);clear hK K
 refine wpAnyH_done (by kernel_rfl) ?_ _;clear hHeld fr pF k0 k1 k2 z0 z1 z2 pC6 pC1 hB6 hB1 hb6 s0 s1 r0 r1 r2;generalize (((w6.setCell ⟨w.heap.size+2,0,none⟩ (.int .i64 sn)).setCell ⟨w.heap.size+2,1,none⟩ (.int .i64 r.r)).setCell ⟨w.heap.size+2,2,none⟩ (.int .i64 r.c))=WF at *;go_wp2;refine bodyPost_ret (zAq (by rfl) _ _ (w.heap.size+2) [.int .i64 sn,.int .i64 r.r,.int .i64 r.c] _ (by rfl) HPF.out underlying24 rfl (by kernel_rfl)) rfl ⟨rfl,HBF.out⟩
theorem zDR (own:Int) (nm:List ByteArray) (av:Option Addr) (m cap:Nat) (x:Wt.Nd) (w:World) (hx:RtN x) (hm:m=nm.length) (hl:nm.length<=16) (hR:RdS w av nm):CR 119 #[zCS own av m cap,.agg (zAG x).toArray] w (.agg (ar5 (areaN own nm x)).toArray):=by
 have HSH:Hid (∀ (W:World),RdS W av nm->Calls prog 78 #[zCS own av m cap,.string x.a.s] W λe w'=>e=.returned (.int .i64 (shN own nm x.a.s))/\Below W.heap.size W w'):=λW h=>zCf own nm x.a.s av m cap W hm hl h
 have RE:=λW=>zD6 x W hx
 have har:areaN own nm x = {zBR x with s:=shN own nm x.a.s}:=rfl;rw [har];generalize shN own nm x.a.s=sn at *;generalize zBR x=rc at *;have hB:=zAM (zAM (zAM (Below.refl _ w) (.cells #[.int .i64 own,.slice av m cap] 60)) (.cells (zAG x).toArray 35)) (.cells #[.int .i64 0,.int .i64 0,.int .i64 0,.int .i64 0,.int .i64 0] 53);have pS:=((AtL.new0 w 60 [.int .i64 own,.slice av m cap]).alloc (.cells (zAG x).toArray 35)).alloc (.cells #[.int .i64 0,.int .i64 0,.int .i64 0,.int .i64 0,.int .i64 0] 53);have pN:=(AtL.new1 w (.cells #[.int .i64 own,.slice av m cap] 60) 35 (zAG x)).alloc (.cells #[.int .i64 0,.int .i64 0,.int .i64 0,.int .i64 0,.int .i64 0] 53);have pA:AtL (((w.alloc (.cells #[.int .i64 own,.slice av m cap] 60)).alloc (.cells (zAG x).toArray 35)).alloc (.cells #[.int .i64 0,.int .i64 0,.int .i64 0,.int .i64 0,.int .i64 0] 53)) (w.heap.size+2) [.int .i64 0,.int .i64 0,.int .i64 0,.int .i64 0,.int .i64 0]:=AtL.new _ _ (by simp) _;have HR3:Hid (RdS (((w.alloc (.cells #[.int .i64 own,.slice av m cap] 60)).alloc (.cells (zAG x).toArray 35)).alloc (.cells #[.int .i64 0,.int .i64 0,.int .i64 0,.int .i64 0,.int .i64 0] 53)) av nm):=hR.below hB;clear hm hl hR hx har;go_enter func119,ntmps119;go_upto_region 1 with fail
 generalize (((w.alloc (.cells #[.int .i64 own,.slice av m cap] 60)).alloc (.cells (zAG x).toArray 35)).alloc (.cells #[.int .i64 0,.int .i64 0,.int .i64 0,.int .i64 0,.int .i64 0] 53))=W3 at *;have rN:=pN.range;go_wp2_with (first | (refine zAA (by rfl) 35 (.tmp 3) rfl (w.heap.size+1) 0 rfl (zAG x) _ rN underlying35 rfl (by kernel_rfl) ?_))
 refine (RE _).mono ?_;rintro e w1 ⟨rfl,hb1⟩;replace hB:=zAB hB hb1
 replace pS:=AtL.below hb1 pS
 replace pN:=AtL.below hb1 pN
 replace pA:=AtL.below hb1 pA
 have HR4:Hid (RdS w1 av nm):=HR3.out.below hb1;have HW1:Hid (w.heap.size<=w1.heap.size/\w.heap.size+2<w1.heap.size):=⟨hB.size,pA.lt⟩
 clear RE rN hb1 HR3;have hb2:=zAM (Below.refl _ w1) (.cells (ar5 rc).toArray 53);have pR:=AtL.new0 w1 53 (ar5 rc);replace hB:=zAB hB hb2
 replace pS:=AtL.below hb2 pS
 replace pN:=AtL.below hb2 pN
 replace pA:=AtL.below hb2 pA
 have HR5:Hid (RdS (w1.alloc (.cells (ar5 rc).toArray 53)) av nm):=HR4.out.below hb2;clear hb2 HR4;go_upto_region 2 with fail
 generalize (w1.alloc (.cells (ar5 rc).toArray 53))=W4 at *;obtain ⟨rb,hrb⟩:∃ k,w1.heap.size=k:=⟨_,rfl⟩
 rw [hrb] at pR HW1;simp only [hrb];clear hrb;have s0:=pS.2.1 0 _ rfl;have s1:=pS.2.1 1 _ rfl;have n10:=pN.2.1 10 (.string x.a.s) rfl;have SH:=HSH.out W4 HR5.out;go_wp2_with fail
 refine SH.mono ?_;rintro e w5 ⟨rfl,hb5⟩;replace hB:=zAB hB hb5
 replace pA:=AtL.below hb5 pA
 replace pR:=AtL.below hb5 pR
 clear SH s0 s1 n10 pS pN hb5 HR5 HSH;obtain ⟨b0,b1,b2,b3,b4,k0,k1,k2,k3,k4⟩:=pA.five;obtain ⟨r0,r1,r2,r3,r4,q0,_,_,_,_⟩:=pR.five;have hne:¬ rb=w.heap.size+2:=by have:=HW1.out;omega
 have hne2:¬ w.heap.size+2=rb:=by have:=HW1.out;omega
 have hle:=HW1.out.1;go_wp2;refine bodyPost_ret (v:=.agg (ar5 {rc with s:=sn}).toArray) (by simp [results,results119,go_sem,b0,b1,b2,b3,b4]) rfl ⟨rfl,(clB hB)⟩
