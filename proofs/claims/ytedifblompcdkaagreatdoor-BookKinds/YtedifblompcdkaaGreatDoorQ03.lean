/- BAsk, BLen, BMuch, VPlain, TPlain, VWalkA, VEq, VWalkB. -/
import Derived.Test.YtedifblompcdkaaGreatDoorQ02
import Derived.Deep.LoopGhost
set_option maxHeartbeats 4000000
set_option maxRecDepth 100000
set_option linter.unusedVariables false
namespace Go.Proofs.YtedifblompcdkaaGreatDoor
open Tryz
open Go.RowKit
theorem atQ {ops:Array Oper} {i:Nat} {o:Oper} (h:ops.toList[i]?=some o):ops[i]?=some o:=by rwa [Array.getElem?_toList] at h
theorem tkQ {P:Program} {ops:Array Oper} {Q:Exit->Act->World->Prop} {md:Region.Mode} {S:World->Prop} {v:Value} {fuel:Nat} {listed l':Array Bool} {a a':Act} {w:World} (i:Nat) {oi:Oper} (h:wpAnyH P md ops Q S fuel l' a' w) (hi:ops.toList[i]?=some oi:=by rfl) (hs:Region.noSelect ops=true:=by kernel_rfl) (hf:Region.free md ops listed i=true:=by kernel_rfl) (hr:(Region.ready md ops listed).contains i=true:=by kernel_rfl) (hQ:∀ c a w,Q (.panic c) (a.put oi.dst v) w->Q (.panic c) a w:=by exact λ_ _ _ h=>h) (hw:Region.wanted oi (yielded ops a.tmps)=true:=by rfl) (hy:∀ w,S w->(execOp a.eval oi).run P w=.ok (.value v) w:=by (intro w hSw;(try dsimp only at hSw);go_simp;(try with_reducible rfl))) (hS:S w:=by assumption) (hp:a.put oi.dst v=a':=by ((try simp only [Act.put,lA,lZ,lS]);(try rfl))) (hl:listed.setIfInBounds i true=l':=by ((try simp only [Act.put,lA,lZ,lS]);(try rfl))):wpAnyH P md ops Q S (fuel+1) listed a w:=by subst hp;subst hl;exact wpAnyH_take (atQ hi) hs hf hr hQ (Or.inl ⟨hw,hy⟩) hS h
theorem tnQ {P:Program} {ops:Array Oper} {Q:Exit->Act->World->Prop} {md:Region.Mode} {S:World->Prop} {fuel:Nat} {listed l':Array Bool} {a a':Act} {w:World} (i:Nat) {oi:Oper} (h:wpAnyH P md ops Q S fuel l' a' w) (hi:ops.toList[i]?=some oi:=by rfl) (hs:Region.noSelect ops=true:=by kernel_rfl) (hf:Region.free md ops listed i=true:=by kernel_rfl) (hr:(Region.ready md ops listed).contains i=true:=by kernel_rfl) (hQ:∀ c a w,Q (.panic c) (a.put oi.dst undef) w->Q (.panic c) a w:=by exact λ_ _ _ h=>h) (hw:Region.wanted oi (yielded ops a.tmps)=false:=by rfl) (hS:S w:=by assumption) (hp:a.put oi.dst undef=a':=by ((try simp only [Act.put,lA,lZ,lS]);(try rfl))) (hl:listed.setIfInBounds i true=l':=by ((try simp only [Act.put,lA,lZ,lS]);(try rfl))):wpAnyH P md ops Q S (fuel+1) listed a w:=by subst hp;subst hl;exact wpAnyH_take (atQ hi) hs hf hr hQ (Or.inr ⟨hw,rfl⟩) hS h
theorem hkQ {S:World->Prop} {W:Act->World->Prop} {K:Act->World->Prop} {a a':Act} {w:World} (hK:Shut (∀ a w,S w->(S w->W a w)->K a w)) (hS:S w) (h:S w->W a' w) (hp:a=a':=by ((try simp only [Act.put,lA,lZ,lS]);(try rfl))):K a w:=by subst hp;exact hK.out _ _ hS h
theorem rdQ {P:Program} {ops:Array Oper} {Q:Exit->Act->World->Prop} {md:Region.Mode} {S:World->Prop} {fuel:Nat} {listed:Array Bool} {a:Act} {w:World} (i:Nat) {o:Oper} (h:∀ K:Act->World->Prop,Shut (∀ a w,S w->(S w->wpAnyH P md ops Q S fuel (listed.setIfInBounds i true) a w)->K a w)->if Region.wanted o (yielded ops a.tmps)=true then Oper.wp P o a w K Q else K (a.put o.dst undef) w) (ho:ops.toList[i]?=some o:=by rfl) (hr:Region.ready md ops listed=[i]:=by kernel_rfl):wpAnyH P md ops Q S (fuel+1) listed a w:=wpAnyH_ready hr (by simp) (AllReadyH.cons (atQ ho) h AllReadyH.nil)
open Go.RowKit
variable {w w':World} {b i:Nat} {F:List (Wpl.Cl × Ct)} {av:Option Addr}
theorem zRo (t:ByteArray) (a:Option Addr) (n k:Nat) (w:World):(Instr.field 61 (.agg #[.string t,.slice a n k]) 0).run prog w=.ok (.string t) w:=by kernel_rfl
theorem zRY (t:ByteArray) (a:Option Addr) (n k:Nat) (w:World):(Instr.field 61 (.agg #[.string t,.slice a n k]) 1).run prog w=.ok (.slice a n k) w:=by kernel_rfl
theorem MB.below (h:MB w b F) (hb:Below w.heap.size w w'):MB w' b F:=by
 have hlt:=h.lt;obtain ⟨es,ck,h1,h2⟩:=h;exact ⟨es,ck,by rw [hb.block b hlt];exact h1,h2⟩
theorem zCJ (bb mb:Nat) (nv:Value) (ver:Int) (F:List (Wpl.Cl × Ct)) (x:Wpl.Cl) (w:World) (h:AtL w bb [nv,.int .i64 ver,.map (some mb)]) (hm:MB w mb F) :
  CR 8 #[.pointer (some ⟨bb,0,none⟩),.agg #[.int .i64 x.s,.int .i64 x.r,.int .i64 x.c]] w (.string (gtC x F).t):=by
 have hb0:=zAH (Below.refl _ w) (.cells #[.int .i64 x.s,.int .i64 x.r,.int .i64 x.c] 24);have p:=AtL.f3 (AtL.new0 w 24 [.int .i64 x.s,.int .i64 x.r,.int .i64 x.c]);have h':=AtL.below hb0 h;obtain ⟨_,_,c2,_⟩:=h'.three;have HM0:Hid (MB (w.alloc (.cells #[.int .i64 x.s,.int .i64 x.r,.int .i64 x.c] 24)) mb F):=hm.below hb0;have HB0:Hid (Below w.heap.size w (w.alloc (.cells #[.int .i64 x.s,.int .i64 x.r,.int .i64 x.c] 24))):=hb0;clear h hm h' hb0;obtain ⟨g,hg⟩:∃ g,gtC x F=g:=⟨_,rfl⟩
 have HG:Hid (gtC x F=g):=hg;rw [hg];clear hg;obtain ⟨gt,ga,gn,gk⟩:=g;go_enter func8,ntmps8;go_upto_region 1 with fail
 generalize w.alloc (.cells #[.int .i64 x.s,.int .i64 x.r,.int .i64 x.c] 24)=W0 at *;have t3:zAt W0 w.heap.size (.int .i64 x.s) (.int .i64 x.r) (.int .i64 x.c):=p;clear p;have hb1:=(Below.refl W0.heap.size W0).drew;refine wp_region_held_drew (S:=λW=>W.cell? ⟨bb,2,none⟩=some (.map (some mb))/\zAt W w.heap.size (.int .i64 x.s) (.int .i64 x.r) (.int .i64 x.c)) (by kernel_rfl) ⟨zAC hb1 c2,zAG hb1 t3⟩ (λhHeld=>?_);have HM1:Hid (MB W0.drew mb F):=MB.below HM0.out hb1;have HB1:Hid (Below w.heap.size w W0.drew):=zAA HB0.out hb1;replace t3:=zAG hb1 t3
 replace c2:=zAC hb1 c2
 clear hb1 HM0 HB0;generalize W0.drew=W1 at *;refine tkQ 0 ?_
 refine tkQ 1 ?_
 refine tkQ 2 ?_
 refine tkQ 3 ?_
 refine tkQ 4 ?_
 refine rdQ 5 (λK hK=>?_);have hlk:(Instr.lookup 55 (.map (some mb)) (.agg #[.int .i64 x.s,.int .i64 x.r,.int .i64 x.c]) false).run prog W1=.ok (.agg #[.string gt,.slice ga gn gk]) W1:=by have:=zEi HM1.out x;rw [HG.out] at this;exact this
 go_simp
 refine hkQ hK ⟨c2,t3⟩ (λhHeld=>?_);clear hK K hlk
 have f0:=λw=>zRo gt ga gn gk w
 refine tkQ 6 ?_
 refine rdQ 7 (λK hK=>?_);go_simp
 refine hkQ hK ⟨c2,t3⟩ (λhHeld=>?_);clear hK K
 refine wpAnyH_done (by kernel_rfl) ?_ _;clear hHeld;go_wp2;go_ret;exact ⟨rfl,HB1.out⟩
theorem zBa (bb mb:Nat) (nv:Value) (ver:Int) (F:List (Wpl.Cl × Ct)) (x:Wpl.Cl) (w:World) (h:AtL w bb [nv,.int .i64 ver,.map (some mb)]) (hm:MB w mb F) (hs:(gtC x F).t.size<=9223372036854775807) :
  CR 9 #[.pointer (some ⟨bb,0,none⟩),.agg #[.int .i64 x.s,.int .i64 x.r,.int .i64 x.c]] w (.int .i64 (knd (gtC x F).t)):=by
 have hb0:=zAH (Below.refl _ w) (.cells #[.int .i64 x.s,.int .i64 x.r,.int .i64 x.c] 24);have p:=AtL.f3 (AtL.new0 w 24 [.int .i64 x.s,.int .i64 x.r,.int .i64 x.c]);have h':=AtL.below hb0 h;obtain ⟨_,_,c2,_⟩:=h'.three;have HM0:Hid (MB (w.alloc (.cells #[.int .i64 x.s,.int .i64 x.r,.int .i64 x.c] 24)) mb F):=hm.below hb0;have HB0:Hid (Below w.heap.size w (w.alloc (.cells #[.int .i64 x.s,.int .i64 x.r,.int .i64 x.c] 24))):=hb0;clear h hm h' hb0;obtain ⟨g,hg⟩:∃ g,gtC x F=g:=⟨_,rfl⟩
 have HG:Hid (gtC x F=g):=hg;rw [hg] at hs ⊢;have KA:=λW=>zHM g W hs
 clear hg hs;obtain ⟨gt,ga,gn,gk⟩:=g;go_enter func9,ntmps9;go_upto_region 1 with fail
 generalize w.alloc (.cells #[.int .i64 x.s,.int .i64 x.r,.int .i64 x.c] 24)=W0 at *;have t3:zAt W0 w.heap.size (.int .i64 x.s) (.int .i64 x.r) (.int .i64 x.c):=p;clear p;have hb1:=(Below.refl W0.heap.size W0).drew;refine wp_region_held_drew (S:=λW=>W.cell? ⟨bb,2,none⟩=some (.map (some mb))/\zAt W w.heap.size (.int .i64 x.s) (.int .i64 x.r) (.int .i64 x.c)) (by kernel_rfl) ⟨zAC hb1 c2,zAG hb1 t3⟩ (λhHeld=>?_);have HM1:Hid (MB W0.drew mb F):=MB.below HM0.out hb1;have HB1:Hid (Below w.heap.size w W0.drew):=zAA HB0.out hb1;replace t3:=zAG hb1 t3
 replace c2:=zAC hb1 c2
 clear hb1 HM0 HB0;generalize W0.drew=W1 at *;refine tkQ 0 ?_
 refine tkQ 1 ?_
 refine tkQ 2 ?_
 refine tkQ 3 ?_
 refine tkQ 4 ?_
 refine rdQ 5 (λK hK=>?_);have hlk:(Instr.lookup 55 (.map (some mb)) (.agg #[.int .i64 x.s,.int .i64 x.r,.int .i64 x.c]) false).run prog W1=.ok (.agg #[.string gt,.slice ga gn gk]) W1:=by have:=zEi HM1.out x;rw [HG.out] at this;exact this
 go_simp
 refine hkQ hK ⟨c2,t3⟩ (λhHeld=>?_);clear hK K hlk
 refine rdQ 6 (λK hK=>?_);go_simp
 refine (KA _).mono ?_;rintro e w2 ⟨rfl,hb2⟩;have HB2:Hid (Below w.heap.size w w2):=zAA HB1.out hb2;replace t3:=zAG hb2 t3
 replace c2:=zAC hb2 c2
 clear hb2 HB1 KA HM1;go_wp2_with fail
 refine hkQ hK ⟨c2,t3⟩ (λhHeld=>?_);clear hK K
 refine rdQ 7 (λK hK=>?_);go_simp
 refine hkQ hK ⟨c2,t3⟩ (λhHeld=>?_);clear hK K
 refine wpAnyH_done (by kernel_rfl) ?_ _;clear hHeld;go_wp2;go_ret;exact ⟨rfl,HB2.out⟩
theorem zFS (bb mb:Nat) (nv:Value) (ver:Int) (w:World) (h:AtL w bb [nv,.int .i64 ver,.map (some mb)]):CR 15 #[.pointer (some ⟨bb,0,none⟩)] w (.int .i64 ver):=by
 obtain ⟨_,c1,_,_⟩:=h.three;clear h;go_enter func15,ntmps15;go_wp2;go_ret;exact ⟨rfl,Below.refl _ _⟩
theorem zLi (h:MB w b F) (ty:TypeId):(Builtin.len_ #[55] ty #[.map (some b)]).run prog w=.ok (.int .i64 (F.length:Int)) w:=by
 obtain ⟨es,ck,h1,h2,_⟩:=h;have e:es.size=F.length:=by
  have:=congrArg List.length h2;simpa using this
 simp [Builtin.len_,run_underlying zLI,MapKept.run_getObj_map h1,Result.andThen,e,goInt]
theorem zGq (bb mb:Nat) (nv:Value) (ver:Int) (F:List (Wpl.Cl × Ct)) (w:World) (h:AtL w bb [nv,.int .i64 ver,.map (some mb)]) (hm:MB w mb F):CR 16 #[.pointer (some ⟨bb,0,none⟩)] w (.int .i64 (F.length:Int)):=by
 obtain ⟨_,_,c2,_⟩:=h.three;have hlen:=λty=>zLi hm ty
 clear h hm;go_enter func16,ntmps16;go_wp2;go_ret;exact ⟨rfl,Below.refl _ _⟩
structure Ch where
 x:Wpl.Cl
 t:ByteArray
def chL (a:Ch):List Value:=[.int .i64 a.x.s,.int .i64 a.x.r,.int .i64 a.x.c,.string a.t]
def RdH (w:World) (av:Option Addr) (L:List Ch):Prop:=∀ (i:Nat) (a:Ch),L[i]? = some a->∃ bb off,av=some ⟨bb,off,none⟩/\w.rangeAt bb (off+i * 4) (chL a)
theorem RdH.below {L:List Ch} (h:RdH w av L) (hb:Below w.heap.size w w'):RdH w' av L:=λi a ha=>by
 obtain ⟨bb,off,e,hr⟩:=h i a ha;exact ⟨bb,off,e,λj v hv=>zAC hb (hr j v hv)⟩
def lbP (F:List (Wpl.Cl × Ct)):List Ch->Int->Int
 | [],n=>n
 | a::r,n=>lbP F r ((if knd (gtC a.x F).t ≠ 0 then n - 1 else n)+(if a.t=⟨#[]⟩ then 0 else 1))
theorem zGn (bb mb:Nat) (nv:Value) (ver:Int) (F:List (Wpl.Cl × Ct)) (av:Option Addr) (n cap:Nat) (L:List Ch) (w:World) (h:AtL w bb [nv,.int .i64 ver,.map (some mb)]) (hm:MB w mb F) (hr:RdH w av L) (hn:L.length=n) (hN:True->n<=256) (hF:True->F.length<=1000000) (hs:∀ y,(gtC y F).t.size<=9223372036854775807) :
  CR 30 #[.pointer (some ⟨bb,0,none⟩),.slice av n cap] w (.int .i64 (lbP F L (F.length:Int))):=by
 have LN:=zGq bb mb nv ver F w h hm;have KN:=λy W (hb:Below w.heap.size w W)=>zBa bb mb nv ver F y W (AtL.below hb h) (hm.below hb) (hs y)
 obtain ⟨R,hR⟩:∃ R,lbP F L (F.length:Int)=R:=⟨_,rfl⟩
 obtain ⟨fl,hfl⟩:∃ fl,F.length=fl:=⟨_,rfl⟩
 rw [hR];rw [hfl] at LN hF hR;have HR0:Hid (lbP F (L.drop 0) (fl:Int)=R):=hR;have HH:Hid (RdH w av L/\L.length=n):=⟨hr,hn⟩
 clear h hm hs hR hr hn hfl;go_enter func30,ntmps30;go_wp2_with fail
 refine LN.mono ?_;rintro e w1 ⟨rfl,hb1⟩;have HB1:Hid (Below w.heap.size w w1):=hb1;clear LN hb1;go_upto_region 3 with fail
 go_loopg [5,12] n (λgk y x wr=>∃ (i:Nat) (m:Int),y=.int .i64 m/\x=.int .i64 (i:Int)/\gk=n - i/\Hid (i<=n)/\Hid (lbP F (L.drop i) m=R)/\Hid (-(i:Int)<=m/\m<=(fl:Int)+i)/\Hid (Below w.heap.size w wr))
 case atStart=>exact ⟨0,fl,rfl,rfl,rfl,Nat.zero_le _,HR0,⟨by omega,by omega⟩,HB1⟩
 case round =>
  obtain ⟨i,m,rfl,rfl,hg,HI,HR,HM,HB⟩:=hrel;generalize hw9:wr=W at *;clear hw9;by_cases hlt:i<n
  ·have hii:(i:Int)<(n:Int):=by omega
   have hiz:(0:Int)<=(i:Int):=by omega
   have hwi:IntKind.i64.wrap ((i:Int)+1)=(i:Int)+1:=by have:=hN trivial;rw [IntKind.wrap_i64];omega
   obtain ⟨a,ha⟩:∃ a,L[i]? = some a:=⟨L[i]'(by rw [HH.out.2];exact hlt),List.getElem?_eq_getElem _⟩
   obtain ⟨cb,off,e,hrow⟩:=HH.out.1.below HB.out i a ha;subst e;have k0:W.cell? ⟨cb,off+i * 4,none⟩=some (.int .i64 a.x.s):=hrow 0 _ rfl;have k1:W.cell? ⟨cb,off+i * 4+1,none⟩=some (.int .i64 a.x.r):=hrow 1 _ rfl;have k2:W.cell? ⟨cb,off+i * 4+2,none⟩=some (.int .i64 a.x.c):=hrow 2 _ rfl;have k3:W.cell? ⟨cb,off+i * 4+3,none⟩=some (.string a.t):=hrow 3 _ rfl;obtain ⟨kd,hkd⟩:∃ kd,knd (gtC a.x F).t=kd:=⟨_,rfl⟩
   have HD:Hid (lbP F (L.drop (i+1)) ((if kd ≠ 0 then m - 1 else m)+(if a.t=⟨#[]⟩ then 0 else 1))=R):=by
    show _=_
    have e1:L[i]'(by rw [HH.out.2];exact hlt)=a:=by
     have:=List.getElem?_eq_getElem (l:=L) (i:=i) (by rw [HH.out.2];exact hlt);rw [ha] at this;exact (Option.some.inj this).symm
    have:=HR.out;rw [List.drop_eq_getElem_cons (by rw [HH.out.2];exact hlt),e1] at this;rw [<-hkd];exact this
   have hb0:=zAH (Below.refl _ W) (.cells #[.int .i64 a.x.s,.int .i64 a.x.r,.int .i64 a.x.c,.string a.t] 50);have q0:=AtL.new0 W 50 [.int .i64 a.x.s,.int .i64 a.x.r,.int .i64 a.x.c,.string a.t];have HB0:Hid (Below w.heap.size w (W.alloc (.cells #[.int .i64 a.x.s,.int .i64 a.x.r,.int .i64 a.x.c,.string a.t] 50))):=zAA HB.out hb0;have KK:=KN a.x _ HB0.out;rw [hkd] at KK;clear ha hrow hb0 hkd HR;go_upto_region 5 with fail
   clear k0 k1 k2 k3 HB;generalize W.alloc (.cells #[.int .i64 a.x.s,.int .i64 a.x.r,.int .i64 a.x.c,.string a.t] 50)=W0 at *;generalize heb:W.heap.size=eb at *;clear heb;have j0:=q0.2.1 0 _ rfl;have j1:=q0.2.1 1 _ rfl;have j2:=q0.2.1 2 _ rfl;go_wp2_with fail
   refine KK.mono ?_;rintro e w2 ⟨rfl,hb2⟩;have HB2:Hid (Below w.heap.size w w2):=zAA HB0.out hb2;have j3:w2.cell? ⟨eb,3,none⟩=some (.string a.t):=(AtL.below hb2 q0).2.1 3 _ rfl;clear KK hb2 HB0 q0 j0 j1 j2;have hm1:=HM.out;have hw1:IntKind.i64.wrap (m - 1)=m - 1:=by have:=hN trivial;have:=hF trivial;rw [IntKind.wrap_i64];omega
   have hw2:wrap64 m=m:=by have:=hN trivial;have:=hF trivial;unfold wrap64;omega
   have hw3:IntKind.i64.wrap (m+1)=m+1:=by have:=hN trivial;have:=hF trivial;rw [IntKind.wrap_i64];omega
   clear hm1;obtain ⟨at_,hat⟩:∃ t,a.t=t:=⟨_,rfl⟩
   rw [hat] at j3 HD;clear hat;by_cases hk:kd=0
   ·by_cases ht:at_=⟨#[]⟩
    ·subst ht;have HE:Hid (lbP F (L.drop (i+1)) m=R /\ -((i+1:Nat):Int)<=m/\m<=(fl:Int)+((i+1:Nat):Int)):=by
      have h1:=HD.out;have h2:=HM.out;rw [hk] at h1;exact ⟨by simpa using h1,by omega,by omega⟩
     clear HD HM;go_wp2_with fail
     go_roundg (n - (i+1))
     case rel=>exact ⟨i+1,m,rfl,by simp,rfl,hlt,HE.out.1,HE.out.2,HB2⟩
     case measure=>omega
    ·have x1:=zIB ht;have HE:Hid (lbP F (L.drop (i+1)) (m+1)=R /\ -((i+1:Nat):Int)<=(m+1)/\(m+1)<=(fl:Int)+((i+1:Nat):Int)):=by
      have h1:=HD.out;have h2:=HM.out;rw [if_neg (not_not_intro hk),if_neg ht] at h1;exact ⟨h1,by omega,by omega⟩
     clear HD HM;go_wp2_with fail
     go_roundg (n - (i+1))
     case rel=>exact ⟨i+1,(m+1),rfl,by simp,rfl,hlt,HE.out.1,HE.out.2,HB2⟩
     case measure=>omega
   ·by_cases ht:at_=⟨#[]⟩
    ·subst ht;have HE:Hid (lbP F (L.drop (i+1)) (m - 1)=R /\ -((i+1:Nat):Int)<=(m - 1)/\(m - 1)<=(fl:Int)+((i+1:Nat):Int)):=by
      have h1:=HD.out;have h2:=HM.out;rw [if_pos hk] at h1;exact ⟨by simpa using h1,by omega,by omega⟩
     clear HD HM;go_wp2_with fail
     go_roundg (n - (i+1))
     case rel=>exact ⟨i+1,(m - 1),rfl,by simp,rfl,hlt,HE.out.1,HE.out.2,HB2⟩
     case measure=>omega
    ·have x1:=zIB ht;have HE:Hid (lbP F (L.drop (i+1)) m=R /\ -((i+1:Nat):Int)<=m/\m<=(fl:Int)+((i+1:Nat):Int)):=by
      have h1:=HD.out;have h2:=HM.out;rw [if_pos hk,if_neg ht] at h1;rw [show m - 1+1=m from by omega] at h1;exact ⟨h1,by omega,by omega⟩
     clear HD HM;go_wp2_with fail
     go_roundg (n - (i+1))
     case rel=>exact ⟨i+1,m,by rw [hw2],by simp,rfl,hlt,HE.out.1,HE.out.2,HB2⟩
     case measure=>omega
  ·have hii:¬ (i:Int)<(n:Int):=by omega
   have HE:Hid (R=m):=by
    show _=_
    have:=HH.out.2;rw [<-HR.out,List.drop_eq_nil_of_le (by omega)];rfl
   clear HR HH KN;go_wp2;go_ret;exact ⟨by rw [HE.out];rfl,HB.out⟩
def RdE (w:World) (av:Option Addr) (E:List (List Ch)):Prop:=∀ (i:Nat) (L:List Ch),E[i]? = some L->∃ bb off p m k,av=some ⟨bb,off,none⟩/\w.cell? ⟨bb,off+i,none⟩=some (.slice p m k)/\L.length=m/\RdH w p L/\(p=none->m=0/\k=0)
theorem RdE.below {E:List (List Ch)} (h:RdE w av E) (hb:Below w.heap.size w w'):RdE w' av E:=λi L hi=>by
 obtain ⟨bb,off,p,m,k,e,h1,h2,h3,h4⟩:=h i L hi;exact ⟨bb,off,p,m,k,e,zAC hb h1,h2,h3.below hb,h4⟩
def szH (L:List Ch):Nat:=(L.map (λa=>a.t.size)).sum
def wtE (E:List (List Ch)):Nat:=(E.map (λL=>L.length+szH L)).sum
theorem zLF {L:List Ch} {a:Ch} (h:L[i]? = some a):szH (L.take (i+1))=szH (L.take i)+a.t.size:=by
 unfold szH;rw [List.take_add_one,h];simp
theorem zGw {E:List (List Ch)} {L:List Ch} (h:E[i]? = some L):wtE (E.take (i+1))=wtE (E.take i)+(L.length+szH L):=by
 unfold wtE;rw [List.take_add_one,h];simp
def MuQ (E:List (List Ch)) (w:World) (e:Ending) (w':World):Prop:=(∃ b,e=.returned (.bool b)/\(b=false->E.length+wtE E<=6000))/\w=w'
theorem zPb (E:List (List Ch)) (av:Option Addr) (n cap:Nat) (w:World) (hr:RdE w av E) (hn:E.length=n) (hN:True->n<=1000000000000000) (hL:∀ L ∈ E,L.length<=1000000000000000/\∀ a ∈ L,a.t.size<=1000000000000000) :
  Calls prog 5 #[.slice none 0 0,.slice av n cap,.slice none 0 0] w (MuQ E w):=by
 have HH:Hid (RdE w av E/\E.length=n/\∀ L ∈ E,L.length<=1000000000000000/\∀ a ∈ L,a.t.size<=1000000000000000):=⟨hr,hn,hL⟩
 have hw0:IntKind.i64.wrap ((n:Int))=(n:Int):=by have:=hN trivial;rw [IntKind.wrap_i64];omega
 clear hr hn hL;go_enter func5,ntmps5;go_upto_region 3 with fail
 go_loopg [7,8] 1 (λgk y x wr=>y=.int .i64 (n:Int)/\x=.int .i64 0/\w=wr)
 case atStart=>exact ⟨by simp,rfl,rfl⟩
 case round =>
  obtain ⟨rfl,rfl,rfl⟩:=hrel;go_upto_region 7 with fail
  go_loopg [7,9] n (λgk y x wr=>∃ (i m:Nat),y=.int .i64 (m:Int)/\x=.int .i64 (i:Int)/\gk=n - i/\Hid (i<=n)/\Hid ((6000<m \/ m=n+wtE (E.take i))/\m<=4000000000000000)/\w=wr)
  case atStart=>exact ⟨0,n,rfl,rfl,rfl,Nat.zero_le _,⟨Or.inr (by simp [wtE]),by have:=hN trivial;omega⟩,rfl⟩
  case round =>
   obtain ⟨i,m,rfl,rfl,hg,HI,HM,rfl⟩:=hrel;by_cases hlt:i<n
   ·have hii:(i:Int)<(n:Int):=by omega
    have hiz:(0:Int)<=(i:Int):=by omega
    have hwi:IntKind.i64.wrap ((i:Int)+1)=(i:Int)+1:=by have:=hN trivial;rw [IntKind.wrap_i64];omega
    by_cases hm:m<=6000
    ·have hmm:(m:Int)<=6000:=by omega
     obtain ⟨L,hL⟩:∃ L,E[i]? = some L:=⟨E[i]'(by rw [HH.out.2.1];exact hlt),List.getElem?_eq_getElem _⟩
     obtain ⟨bb,off,p,l,kk,e,k0,hll,hrd,_⟩:=HH.out.1 i L hL;subst e;have hl6:l<=1000000000000000:=by rw [<-hll];exact (HH.out.2.2 L (List.mem_of_getElem? hL)).1
     have HD:Hid (RdH w p L/\L.length=l/\(∀ a ∈ L,a.t.size<=1000000000000000)/\m+l+szH L=n+wtE (E.take (i+1))):=by
      refine ⟨hrd,hll,(HH.out.2.2 L (List.mem_of_getElem? hL)).2,?_⟩;rw [zGw hL];have:=HM.out.1;omega
     have hw1:IntKind.i64.wrap ((m:Int)+(l:Int))=(m:Int)+(l:Int):=by rw [IntKind.wrap_i64];omega
     clear hL hrd hll;go_upto_region 11 with fail
     go_loopg [7,10] l (λgk y x wr=>∃ (k q:Nat),y=.int .i64 (q:Int)/\x=.int .i64 (k:Int)/\gk=l - k/\Hid (k<=l)/\Hid ((6000<q \/ q=m+l+szH (L.take k))/\q<=4000000000000000)/\w=wr)
     case atStart=>exact ⟨0,m+l,by simp,rfl,rfl,Nat.zero_le _,⟨Or.inr (by simp [szH]),by omega⟩,rfl⟩
     case round =>
      obtain ⟨k,q,rfl,rfl,hg2,HK,HQ,rfl⟩:=hrel;by_cases hkl:k<l
      ·have hkk:(k:Int)<(l:Int):=by omega
       have hkz:(0:Int)<=(k:Int):=by omega
       have hwk:IntKind.i64.wrap ((k:Int)+1)=(k:Int)+1:=by rw [IntKind.wrap_i64];omega
       by_cases hq:q<=6000
       ·have hqq:(q:Int)<=6000:=by omega
        obtain ⟨a,ha⟩:∃ a,L[k]? = some a:=⟨L[k]'(by rw [HD.out.2.1];exact hkl),List.getElem?_eq_getElem _⟩
        obtain ⟨cb,co,e,hrow⟩:=HD.out.1 k a ha;subst e;have k3:w.cell? ⟨cb,co+k * 4+3,none⟩=some (.string a.t):=hrow 3 _ rfl;have ha6:=HD.out.2.2.1 a (List.mem_of_getElem? ha);have hw2:IntKind.i64.wrap ((q:Int)+(a.t.size:Int))=(q:Int)+(a.t.size:Int):=by rw [IntKind.wrap_i64];omega
        have HQ2:Hid ((6000<q+a.t.size \/ q+a.t.size=m+l+szH (L.take (k+1)))/\q+a.t.size<=4000000000000000):=by
         refine ⟨?_,by omega⟩;rw [zLF ha];have:=HQ.out.1;omega
        clear ha hrow;go_wp2_with fail
        go_roundg (l - (k+1))
        case rel=>exact ⟨k+1,q+a.t.size,by simp,by simp,rfl,hkl,HQ2,rfl⟩
        case measure=>omega
       ·have hqq:¬ (q:Int)<=6000:=by omega
        have HM2:Hid ((6000<q \/ q=n+wtE (E.take (i+1)))/\q<=4000000000000000):=⟨Or.inl (by omega),HQ.out.2⟩
        go_wp2_with fail
        go_roundg (n - (i+1))
        case rel=>exact ⟨i+1,q,rfl,by simp,rfl,hlt,HM2,rfl⟩
        case measure=>omega
      ·have hkk:¬ (k:Int)<(l:Int):=by omega
       have HM2:Hid ((6000<q \/ q=n+wtE (E.take (i+1)))/\q<=4000000000000000):=by
        refine ⟨?_,HQ.out.2⟩;rcases HQ.out.1 with h | h
        ·exact Or.inl h
        ·rw [List.take_of_length_le (by rw [HD.out.2.1];omega)] at h;exact Or.inr (by rw [h];exact HD.out.2.2.2)
       go_wp2_with fail
       go_roundg (n - (i+1))
       case rel=>exact ⟨i+1,q,rfl,by simp,rfl,hlt,HM2,rfl⟩
       case measure=>omega
    ·have hmm:¬ (m:Int)<=6000:=by omega
     go_wp2;go_ret;exact ⟨⟨true,by simp;try omega,λh=>by cases h⟩,rfl⟩
   ·have hii:¬ (i:Int)<(n:Int):=by omega
    have HE:Hid (¬ 6000<m->E.length+wtE E<=6000):=λh=>by
     have:=HM.out.1;rw [List.take_of_length_le (by rw [HH.out.2.1];omega)] at this;have:=HH.out.2.1;omega
    go_wp2;go_ret;refine ⟨⟨decide (6000<(m:Int)),rfl,λh=>HE.out ?_⟩,rfl⟩;have:=of_decide_eq_false h;omega
end Go.Proofs.YtedifblompcdkaaGreatDoor
namespace Go.Proofs.YtedifblompcdkaaGreatDoor.Wv
def prts (l:List UInt8):Bool:=l.all Wlx.prt
theorem prts_cons (c:UInt8) (t:List UInt8):prts (c::t)=(Wlx.prt c && prts t):=rfl
def flt (f:Int):Bool:=decide (1<=f) && decide (f<=8)
def right (k n d:Int) (t:ByteArray) (b:Bool) (f:Int):Bool :=
 if k=0 then decide (n=0) && decide (d=0) && decide (t=⟨#[]⟩) && !b && decide (f=0)
 else if k=1 then Wnum.rightB n d && decide (t=⟨#[]⟩) && !b && decide (f=0)
 else if k=2 then (decide (t.size<=256) && prts t.data.toList) && decide (n=0) && decide (d=0) && !b && decide (f=0)
 else if k=3 then decide (n=0) && decide (d=0) && decide (t=⟨#[]⟩) && decide (f=0)
 else if k=4 then flt f && decide (n=0) && decide (d=0) && decide (t=⟨#[]⟩) && !b
 else false
end Go.Proofs.YtedifblompcdkaaGreatDoor.Wv
namespace Go.Proofs.YtedifblompcdkaaGreatDoor.Wt
structure Vl where
 k:Int
 n:Int
 d:Int
 t:ByteArray
 b:Bool
 f:Int
structure Rf where
 s:ByteArray
 r:Int
 c:Int
 fr:Bool
 fc:Bool
structure Nd where
 k:Int
 v:Vl
 op:Int
 nm:ByteArray
 ar:Int
 a:Rf
 b:Rf
def v0:Vl:=⟨0,0,0,⟨#[]⟩,false,0⟩
def r0:Rf:=⟨⟨#[]⟩,0,0,false,false⟩
def isNm (p:UInt8->Bool) (l:List UInt8):Bool:=decide (1<=l.length) && decide (l.length<=16) && p (l.headD 0) && l.all (λc=>p c || Wlx.dig c)
def ltr (c:UInt8):Bool:=Wlx.cap c || Wlx.low c
def fnNm (b:ByteArray):Bool:=isNm Wlx.cap b.data.toList
def shNm (b:ByteArray):Bool:=isNm ltr b.data.toList
def inR (r c:Int):Bool:=decide (0<=r) && decide (r<65536) && (decide (0<=c) && decide (c<256))
def rfOk (a:Rf):Bool:=inR a.r a.c && (decide (a.s=⟨#[]⟩) || shNm a.s)
def vlOk (v:Vl):Bool :=
 if v.k=0 then false
 else if v.k=1 then Wv.right v.k v.n v.d v.t v.b v.f && decide (0<=v.n) && decide (1000000 % v.d=0)
 else Wv.right v.k v.n v.d v.t v.b v.f
def opsT:List (Int × List UInt8 × Int) :=
 [(21,[61],0),(22,[60,62],0),(23,[60],0),(24,[60,61],0),(25,[62],0),(26,[62,61],0),(16,[38],1),(11,[43],2),(12,[45],2),(13,[42],3),(14,[47],3),(15,[94],4),(1,[45],5),(2,[43],5),(3,[37],6)]
def opOf (o:Int):Option (Int × List UInt8 × Int):=opsT.find? λx=>x.1 == o
def opAs (m:List UInt8) (t:Int):Option (Int × List UInt8 × Int):=opsT.find? λx=>(x.2.1 == m) && (x.2.2 == t)
def isBin (o:Int):Bool:=(decide (11<=o) && decide (o<=16)) || (decide (21<=o) && decide (o<=26))
def parts (x:Nd):Int:=if x.k=4 then 1 else if x.k=5 then 2 else x.ar
end Go.Proofs.YtedifblompcdkaaGreatDoor.Wt
namespace Go.Proofs.YtedifblompcdkaaGreatDoor
open Tryz
open Go.RowKit
theorem zDj (f:Int) (w:World):Calls prog 66 #[.int .i64 f] w λe w'=>e=.returned (.bool (Wv.flt f))/\w=w':=by
 unfold Wv.flt;go_enter func66,ntmps66;by_cases a:1<=f
 ·go_wp2;go_ret;exact ⟨zAm (by simp [a]),rfl⟩
 ·go_wp2;go_ret;exact ⟨zAm (by rw [decide_eq_false (by omega)];rfl),rfl⟩
theorem zN3 (c:UInt8):Wlx.prt c=(decide (32<=(c.toNat:Int)) && decide ((c.toNat:Int)<=126)):=by
 unfold Wlx.prt;simp
theorem zGd (b:ByteArray) (w:World) (hs:b.size<=9223372036854775807):Calls prog 62 #[.string b] w λe w'=>e=.returned (.bool (Wv.prts b.data.toList))/\w=w':=by
 obtain ⟨R,hR⟩:∃ R,Wv.prts b.data.toList=R:=⟨_,rfl⟩
 have E0:Hid (R=Wv.prts (b.data.toList.drop 0)):=hR.symm;rw [hR];clear hR;go_enter func62,ntmps62;go_wp2_with fail
 go_loopg [6] (b.size) (λgk x wr=>∃ j:Nat,x=.int .i64 j/\gk=b.size - j/\j<=b.size/\Hid (R=Wv.prts (b.data.toList.drop j))/\wr=w)
 case atStart=>exact ⟨0,rfl,rfl,Nat.zero_le _,E0,rfl⟩
 case round =>
  obtain ⟨j,rfl,hg,hj,HR,rfl⟩:=hrel;by_cases hlt:j<b.size
  ·have hli:(j:Int)<(b.size:Int):=by omega
   have hd:=zAh b j hlt;have hp:=zN3 (b[j]);by_cases c1:((b[j]).toNat:Int)<32
   ·have E:Hid (R=false):=by show _=_;rw [HR.out,hd,Wv.prts_cons,hp,decide_eq_false (by omega)];rfl
    clear HR hd hp;go_wp2;go_ret;exact ⟨by rw [E.out];rfl,rfl⟩
   ·by_cases c2:(126:Int)<((b[j]).toNat:Int)
    ·have E:Hid (R=false):=by show _=_;rw [HR.out,hd,Wv.prts_cons,hp,decide_eq_false (p:=((b[j]).toNat:Int)<=126) (by omega)];simp
     clear HR hd hp;go_wp2;go_ret;exact ⟨by rw [E.out];rfl,rfl⟩
    ·have E:Hid (R=Wv.prts (b.data.toList.drop (j+1))):=by show _=_;rw [HR.out,hd,Wv.prts_cons,hp,decide_eq_true (by omega),decide_eq_true (by omega)];rfl
     clear HR hd hp;go_wp2_with fail
     go_roundg (b.size - (j+1))
     case rel=>exact ⟨j+1,by simp,rfl,hlt,E,by first | trivial | rfl⟩
     case measure=>omega
  ·have hli:¬ (j:Int)<(b.size:Int):=by omega
   have E:Hid (R=true):=by show _=_;rw [HR.out,zBQ b j hlt];rfl
   clear HR;go_wp2;go_ret;exact ⟨by rw [E.out];rfl,rfl⟩
theorem zQM (a b:Int) (w:World):(if a=b then (Result.ok true w:Result Bool) else Result.ok false w)=Result.ok (a == b) w:=by by_cases h:a=b <;> simp [h]
theorem zOW (a b:Bool) (w:World):(if a=b then (Result.ok true w:Result Bool) else Result.ok false w)=Result.ok (a == b) w:=by by_cases h:a=b <;> simp [h]
theorem zC3 (a b:ByteArray):((a == b)=true)=(a=b):=by
 obtain ⟨⟨x⟩⟩:=a;obtain ⟨⟨y⟩⟩:=b;have h:((⟨⟨x⟩⟩:ByteArray) == ⟨⟨y⟩⟩)=(x == y):=by
  show ((⟨x⟩:Array UInt8) == ⟨y⟩)=(x == y)
  simp
 rw [h];simp
def eqV (k n d:Int) (t:ByteArray) (b:Bool) (f:Int) (k' n' d':Int) (t':ByteArray) (b':Bool) (f':Int):Bool :=
 (k == k') && ((n == n') && ((d == d') && ((t == t') && ((b == b') && (f == f')))))
theorem zNF (x:Nat) (k n d:Int) (t:ByteArray) (b:Bool) (f:Int) (k' n' d':Int) (t':ByteArray) (b':Bool) (f':Int) (w:World) :
  (Op.equalIn (x+3) 38 (.agg #[.int .i64 k,.int .i64 n,.int .i64 d,.string t,.bool b,.int .i64 f]) (.agg #[.int .i64 k',.int .i64 n',.int .i64 d',.string t',.bool b',.int .i64 f'])).run prog w=.ok (eqV k n d t b f k' n' d' t' b' f') w:=by
 unfold eqV;rw [beq_toListBytes];by_cases h1:k=k'
 ·by_cases h2:n=n'
  ·by_cases h3:d=d'
   ·by_cases h4:t.toList=t'.toList
    ·by_cases h5:b=b'
     ·simp [go_sem,h1,h2,h3,h4,h5,zQM]
     ·simp [go_sem,h1,h2,h3,h4,h5]
    ·simp [go_sem,h1,h2,h3,h4]
   ·simp [go_sem,h1,h2,h3]
  ·simp [go_sem,h1,h2]
 ·simp [go_sem,h1]
theorem zCO (k n d:Int) (t:ByteArray) (b:Bool) (f:Int) (k' n' d':Int) (t':ByteArray) (b':Bool) (f':Int) (w:World) :
  (binOp .eql 38 (.agg #[.int .i64 k,.int .i64 n,.int .i64 d,.string t,.bool b,.int .i64 f]) (.agg #[.int .i64 k',.int .i64 n',.int .i64 d',.string t',.bool b',.int .i64 f'])).run prog w=.ok (.bool (eqV k n d t b f k' n' d' t' b' f')) w:=by
 rw [run_eql_struct,show (10000:Nat)=9997+3 from rfl,zNF];rfl
def eqR (s:ByteArray) (r c:Int) (fr fc:Bool) (s':ByteArray) (r' c':Int) (fr' fc':Bool):Bool :=
 (s == s') && ((r == r') && ((c == c') && ((fr == fr') && (fc == fc'))))
theorem zMw (x:Nat) (s:ByteArray) (r c:Int) (fr fc:Bool) (s':ByteArray) (r' c':Int) (fr' fc':Bool) (w:World) :
  (Op.equalIn (x+2) 100 (.agg #[.string s,.int .i64 r,.int .i64 c,.bool fr,.bool fc]) (.agg #[.string s',.int .i64 r',.int .i64 c',.bool fr',.bool fc'])).run prog w=.ok (eqR s r c fr fc s' r' c' fr' fc') w:=by
 unfold eqR;rw [beq_toListBytes];by_cases h1:s.toList=s'.toList
 ·by_cases h2:r=r'
  ·by_cases h3:c=c'
   ·by_cases h4:fr=fr'
    ·simp [go_sem,h1,h2,h3,h4,zOW]
    ·simp [go_sem,h1,h2,h3,h4]
   ·simp [go_sem,h1,h2,h3]
  ·simp [go_sem,h1,h2]
 ·simp [go_sem,h1]
abbrev Six (W:World) (k:Nat) (a b c d e f:Value):Prop :=
 W.cell? ⟨k,0,none⟩=some a/\W.cell? ⟨k,1,none⟩=some b/\W.cell? ⟨k,2,none⟩=some c/\W.cell? ⟨k,3,none⟩=some d/\W.cell? ⟨k,4,none⟩=some e/\W.cell? ⟨k,5,none⟩=some f
theorem AtL.f6 {W:World} {k:Nat} {a b c d e f:Value} (h:AtL W k [a,b,c,d,e,f]):Six W k a b c d e f:=⟨h.2.1 0 a rfl,h.2.1 1 b rfl,h.2.1 2 c rfl,h.2.1 3 d rfl,h.2.1 4 e rfl,h.2.1 5 f rfl⟩
theorem zRH (n d:Int) (t:ByteArray) (b:Bool) (f:Int):eqV 0 n d t b f 0 0 0 ⟨#[]⟩ false 0=Wv.right 0 n d t b f:=by
 unfold eqV Wv.right;rw [if_pos rfl];rw [Bool.eq_iff_iff];simp [and_assoc,zC3]
theorem zMn (n d:Int) (t:ByteArray) (b:Bool) (f:Int) (w:World) :
  CR 107 #[.agg #[.int .i64 0,.int .i64 n,.int .i64 d,.string t,.bool b,.int .i64 f]] w (.bool (Wv.right 0 n d t b f)):=by
 rw [<-zRH];have hq:=zCO 0 n d t b f 0 0 0 ⟨#[]⟩ false 0;generalize eqV 0 n d t b f 0 0 0 ⟨#[]⟩ false 0=R at *;go_enter func107,ntmps107;go_wp2;go_ret;exact ⟨rfl,clA⟩
