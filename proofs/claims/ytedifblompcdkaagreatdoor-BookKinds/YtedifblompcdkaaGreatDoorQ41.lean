/- BEditC, BEdAny, BName, BIdx, BClone, BCloneS. -/
import Derived.Test.YtedifblompcdkaaGreatDoorQ40
import Derived.Laws.IdiomRangeMap
set_option maxHeartbeats 4000000
set_option maxRecDepth 100000
namespace Go.Proofs.YtedifblompcdkaaGreatDoor
open Tryz
open Go.RowKit Wf
set_option linter.unusedVariables false
variable {w w':World} {ops:Array Oper} {rest:List Oper} {a:Act} {Q:Exit->Act->World->Prop} {k n b lo:Nat} {o op:Oper} {S:List Nat} {v:Value} {G:List (Wpl.Cl × Ce)}
def TyB (w:World) (k:Nat) (T:TypeId):Prop:=∃ c fz,w.heap[k]? = some (.cells c T fz)
theorem TyB.lt {T:TypeId} (h:TyB w k T):k<w.heap.size:=by
 obtain ⟨c,fz,h⟩:=h;exact (Array.getElem?_eq_some_iff.1 h).1
theorem TyB.fr {T:TypeId} (h:TyB w k T) (hf:Fr S w w') (hn:k ∉ S):TyB w' k T:=by
 have hl:=h.lt;obtain ⟨c,fz,h⟩:=h;exact ⟨c,fz,by rw [hf.block k hl hn];exact h⟩
theorem TyB.new (w:World) (c:Array Value) (T:TypeId):TyB (w.alloc (.cells c T)) w.heap.size T:=⟨c,(0,0),heap_alloc_new _ _⟩
theorem zNS {B:Nat} {T T':TypeId} {xs:List Value} (h:w.ownsRow B T k v n xs) (ht:TyB w b T') (hT:T' ≠ T):∀ g,v.ownBlock=some g->g ∉ [b]:=by
 intro g e hg;simp at hg;subst hg;obtain ⟨c,fz,ht⟩:=ht;rcases h.2 with ⟨q,_⟩ | ⟨a,cap,cur,q,_,hg,_⟩
 ·rw [q] at e;cases e
 ·rw [q] at e;cases e
  rw [hg] at ht;simp only [Option.some.injEq,Obj.cells.injEq] at ht;exact hT ht.2.1.symm
theorem CdP.frT {T:TypeId} {C:List I} (h:CdP w lo v C) (hf:Fr [b] w w') (ht:TyB w b T) (h3:T ≠ 3) (hI:T ≠ 67):CdP w' lo v C:=by
 obtain ⟨P,h1,h2,h4⟩:=h;exact ⟨P,zAZ hf h1 (zNS h1 ht hI),h2,λi a b=>⟨(h4 i a b).1,zAZ hf (h4 i a b).2 (zNS (h4 i a b).2 ht h3)⟩⟩
theorem Mt.frT {w w':World} {b lo:Nat} {T:TypeId} (hf:Fr [b] w w') (ht:TyB w b T) (h3:T ≠ 3) (hI:T ≠ 67):∀ {F:List (Wpl.Cl × Ct)} {G:List (Wpl.Cl × Ce)},Mt w lo F G->Mt w' lo F G
 | [],[],_=>trivial
 | f::F,g::G,h=>⟨⟨h.1.1,h.1.2.1,h.1.2.2.frT hf ht h3 hI⟩,Mt.frT hf ht h3 hI h.2⟩
 | [],_::_,h=>h.elim
 | _::_,[],h=>h.elim
theorem RdH.fr {av:Option Addr} {L:List Ch} (h:RdH w av L) (hf:Fr S w w') (hn:∀ g o,av=some ⟨g,o,none⟩->g ∉ S):RdH w' av L:=λi a ha=>by
 obtain ⟨bb,off,e,hr⟩:=h i a ha;exact ⟨bb,off,e,hf.range hr (hn bb off e)⟩
theorem zKb (bb mb lo:Nat) (na:Option Addr) (nk:Nat) (nm:List ByteArray) (ver:Int) (G:List (Wpl.Cl × Ce)) (av:Option Addr) (n cap:Nat) (L:List Ch) (rs:Ch->List I ⊕ (Int × Int)) (w:World) (hE:BEnv w) (h:BK w bb mb lo na nk nm ver G) (hr:RdH w av L) (hl:L.length=n) (hn:n ≠ 0) (hN:n<=256) (hR:∀ a ∈ L,zEW nm.length a.x=true->zE0 nm a.x a.t (rs a)) (N:List (Wpl.Cl × Ce)) (hq:raP nm.length rs L 0 []=.inr N) (hG:G.length<=1000000) (hs:∀ y,(gtE y G).t.size<=9223372036854775807) (hsN:∀ y,(gtE y N).t.size<=9223372036854775807) (hf:¬ 4096<lbE G L (G.length:Int)) (hv:0<=ver/\ver<=1000000000) (hav:∀ g o,av=some ⟨g,o,none⟩->g ≠ mb) :
  Calls prog 14 #[.pointer (some ⟨bb,0,none⟩),.slice av n cap] w (EdQ bb mb lo na nk nm ((0,0,0),ver+1,zIp N L G) w):=by
 have HH:Hid (BK w bb mb lo na nk nm ver G):=h;have hb0:=zAH (Below.refl _ w) (.cells #[.int .i64 0,.int .i64 0,.int .i64 0] 47);have p:=AtL.new0 w 47 [.int .i64 0,.int .i64 0,.int .i64 0];have hty:=TyB.new w #[.int .i64 0,.int .i64 0,.int .i64 0] 47;have h1:¬ (n:Int)=0:=by omega
 have h2:¬ (256:Int)<(n:Int):=by omega
 have RA:=zDr bb mb na nk nm ver av n cap L rs (w.alloc (.cells #[.int .i64 0,.int .i64 0,.int .i64 0] 47)) (hE.below hb0) (AtL.below hb0 h.hd) (RdS.below h.rs hb0) h.kp (hr.below hb0) hl (λ_=>hN) hR;rw [hq] at RA;obtain ⟨F,m1,m2⟩:=h.mp;have HLB:Hid (∀ W,Below w.heap.size w W->Calls prog 30 #[.pointer (some ⟨bb,0,none⟩),.slice av n cap] W λe w'=>e=.returned (.int .i64 (lbE G L (G.length:Int)))/\Below W.heap.size W w'):=λW hb=>by
  have:=zGn bb mb (.slice na nm.length nk) ver F av n cap L W (AtL.below hb h.hd) (m1.below hb) (hr.below hb) hl (λ_=>hN) (λ_=>by rw [m2.len];exact hG) (λy=>by rw [(m2.get y).1.1];exact hs y);rw [zJK m2,m2.len] at this;exact this
 obtain ⟨lb,hlb⟩:∃ lb,lbE G L (G.length:Int)=lb:=⟨_,rfl⟩
 rw [hlb] at HLB hf;have HC:Hid (RdH w av L/\L.length=n/\n<=256/\∀ g o,av=some ⟨g,o,none⟩->g ∉ [mb]):=⟨hr,hl,hN,λg o e=>by simpa using hav g o e⟩
 have HNE:Hid (bb ≠ mb/\bb<w.heap.size):=⟨h.ne,h.hd.lt⟩
 have HLT:Hid (bb<lo/\mb<lo/\lo<=w.heap.size):=h.lt;have HSN:Hid (∀ y,(gtE y N).t.size<=9223372036854775807):=hsN;obtain ⟨GE,hGE⟩:∃ GE,zIp N L G=GE:=⟨_,rfl⟩
 rw [hGE];have HR0:Hid (zIp N (L.drop 0) G=GE):=hGE;have hwv:IntKind.i64.wrap (ver+1)=ver+1:=by rw [IntKind.wrap_i64];omega
 clear hE h hr hl hn hN hR hq hG hs hsN hlb m1 m2 hv hav hGE;go_enter func14,ntmps14;go_upto_region 1 with fail
 have hw0:(w.alloc (.cells #[.int .i64 0,.int .i64 0,.int .i64 0] 47)).heap.size=w.heap.size+1:=by simp
 generalize w.alloc (.cells #[.int .i64 0,.int .i64 0,.int .i64 0] 47)=W0 at *;go_wp2_with fail
 refine RA.mono ?_;rintro e w1 ⟨⟨rfl,FN,mn1,mn2⟩,hb1,_⟩;rw [hw0] at mn1 mn2;have hb01:=zAH (Below.refl _ w1) (.cells #[.int .i64 0,.int .i64 0,.int .i64 0] 47);have q1:=AtL.new0 w1 47 [.int .i64 0,.int .i64 0,.int .i64 0];have hb2:=zAH (zAA hb0 hb1) (.cells #[.int .i64 0,.int .i64 0,.int .i64 0] 47);have p2:AtL (w1.alloc (.cells #[.int .i64 0,.int .i64 0,.int .i64 0] 47)) w.heap.size [.int .i64 0,.int .i64 0,.int .i64 0]:=AtL.alloc (AtL.below hb1 p) _;have HN2:Hid (MB (w1.alloc (.cells #[.int .i64 0,.int .i64 0,.int .i64 0] 47)) (w.heap.size+2) FN/\Mt (w1.alloc (.cells #[.int .i64 0,.int .i64 0,.int .i64 0] 47)) lo FN N):=⟨mn1.below hb01,(mn2.mono (by have:=HLT.out;omega)).fr (Fr.of_below [] hb01) (by simp)⟩
 have hty2:TyB (w1.alloc (.cells #[.int .i64 0,.int .i64 0,.int .i64 0] 47)) w.heap.size 47:=hty.fr (Fr.of_below [] (zAH hb1 _)) (by simp);clear RA hb1 p hb0 mn1 mn2 hb01 hty;go_upto_region 6 with fail
 generalize w1.alloc (.cells #[.int .i64 0,.int .i64 0,.int .i64 0] 47)=W2 at *;obtain ⟨j0,j1,j2,_⟩:=q1.three;have LB:=HLB.out W2 hb2;go_wp2_with fail
 refine LB.mono ?_;rintro e w3 ⟨rfl,hb3⟩;have HP0:Hid (AtL w3 w.heap.size [.int .i64 0,.int .i64 0,.int .i64 0]):=AtL.below hb3 p2;have HN0:Hid (MB w3 (w.heap.size+2) FN/\Mt w3 lo FN N):=⟨HN2.out.1.below hb3,HN2.out.2.fr (Fr.of_below [] hb3) (by simp)⟩
 have HT0:Hid (TyB w3 w.heap.size 47):=hty2.fr (Fr.of_below [] hb3) (by simp);replace hb2:=zAA hb2 hb3
 have HF0:Hid (Fr [mb] w w3):=Fr.of_below _ hb2;have HA0:Hid (AtL w3 bb [.slice na nm.length nk,.int .i64 ver,.map (some mb)]):=AtL.below hb2 HH.out.hd;have HM0:Hid (∃ F,MB w3 mb F/\Mt w3 lo F G):=by
  obtain ⟨F,m1,m2⟩:=HH.out.mp;exact ⟨F,m1.below hb2,m2.fr (Fr.of_below [] hb2) (by simp)⟩
 clear LB HLB hb3 p2 q1 HN2 hb2 j0 j1 j2 hw0 hty2;go_upto_region 11 with fail
 go_loopg [34] n (λgk x wr=>∃ (i:Nat) (Gi:List (Wpl.Cl × Ce)),x=.int .i64 (i:Int)/\gk=n - i/\Hid (i<=n)/\Hid (zIp N (L.drop i) Gi=GE)/\Hid (∃ F,MB wr mb F/\Mt wr lo F Gi)/\Hid (MB wr (w.heap.size+2) FN/\Mt wr lo FN N)/\Hid (AtL wr bb [.slice na nm.length nk,.int .i64 ver,.map (some mb)])/\Hid (AtL wr w.heap.size [.int .i64 0,.int .i64 0,.int .i64 0])/\Hid (Fr [mb] w wr)/\Hid (TyB wr w.heap.size 47))
 case atStart=>exact ⟨0,G,rfl,rfl,Nat.zero_le _,HR0,HM0,HN0,HA0,HP0,HF0,HT0⟩
 case round =>
  obtain ⟨i,Gi,rfl,hg,HI,HR,HM,HN,HA,HP,HF,HT⟩:=hrel;generalize hw9:wr=W at *;clear hw9 HR0 HM0 HN0 HA0 HP0 HF0 HT0;by_cases hlt:i<n
  ·have hii:(i:Int)<(n:Int):=by omega
   have hiz:(0:Int)<=(i:Int):=by omega
   have hwi:IntKind.i64.wrap ((i:Int)+1)=(i:Int)+1:=by have:=HC.out.2.2.1;rw [IntKind.wrap_i64];omega
   obtain ⟨a,ha⟩:∃ a,L[i]? = some a:=⟨L[i]'(by rw [HC.out.2.1];exact hlt),List.getElem?_eq_getElem _⟩
   have HD:Hid (zIp N (L.drop (i+1)) (zLt a.x (gtE a.x N) Gi)=GE):=by
    show _=_
    have hl':i<L.length:=by rw [HC.out.2.1];exact hlt
    have e1:L[i]'hl'=a:=by
     have:=List.getElem?_eq_getElem (l:=L) (i:=i) hl';rw [ha] at this;exact (Option.some.inj this).symm
    have:=HR.out;rwa [List.drop_eq_getElem_cons hl',e1] at this
   obtain ⟨cb,off,e,hrow⟩:=RdH.fr HC.out.1 HF.out HC.out.2.2.2 i a ha;subst e;have k0:W.cell? ⟨cb,off+i * 4,none⟩=some (.int .i64 a.x.s):=hrow 0 _ rfl;have k1:W.cell? ⟨cb,off+i * 4+1,none⟩=some (.int .i64 a.x.r):=hrow 1 _ rfl;have k2:W.cell? ⟨cb,off+i * 4+2,none⟩=some (.int .i64 a.x.c):=hrow 2 _ rfl;have k3:W.cell? ⟨cb,off+i * 4+3,none⟩=some (.string a.t):=hrow 3 _ rfl;have hb1:=zAH (Below.refl _ W) (.cells #[.int .i64 a.x.s,.int .i64 a.x.r,.int .i64 a.x.c,.string a.t] 50);have q1:=AtL.new0 W 50 [.int .i64 a.x.s,.int .i64 a.x.r,.int .i64 a.x.c,.string a.t];have HM1:Hid (∃ F,MB (W.alloc (.cells #[.int .i64 a.x.s,.int .i64 a.x.r,.int .i64 a.x.c,.string a.t] 50)) mb F/\Mt (W.alloc (.cells #[.int .i64 a.x.s,.int .i64 a.x.r,.int .i64 a.x.c,.string a.t] 50)) lo F Gi):=by
    obtain ⟨F,m1,m2⟩:=HM.out;exact ⟨F,m1.below hb1,m2.fr (Fr.of_below [] hb1) (by simp)⟩
   have HN1:Hid (MB (W.alloc (.cells #[.int .i64 a.x.s,.int .i64 a.x.r,.int .i64 a.x.c,.string a.t] 50)) (w.heap.size+2) FN/\Mt (W.alloc (.cells #[.int .i64 a.x.s,.int .i64 a.x.r,.int .i64 a.x.c,.string a.t] 50)) lo FN N):=⟨HN.out.1.below hb1,HN.out.2.fr (Fr.of_below [] hb1) (by simp)⟩
   have HA1:Hid (AtL (W.alloc (.cells #[.int .i64 a.x.s,.int .i64 a.x.r,.int .i64 a.x.c,.string a.t] 50)) bb [.slice na nm.length nk,.int .i64 ver,.map (some mb)]):=AtL.below hb1 HA.out;have HP1:Hid (AtL (W.alloc (.cells #[.int .i64 a.x.s,.int .i64 a.x.r,.int .i64 a.x.c,.string a.t] 50)) w.heap.size [.int .i64 0,.int .i64 0,.int .i64 0]):=AtL.below hb1 HP.out;have HF1:Hid (Fr [mb] w (W.alloc (.cells #[.int .i64 a.x.s,.int .i64 a.x.r,.int .i64 a.x.c,.string a.t] 50))):=HF.out.trans (Fr.of_below _ hb1);have HT1:Hid (TyB (W.alloc (.cells #[.int .i64 a.x.s,.int .i64 a.x.r,.int .i64 a.x.c,.string a.t] 50)) w.heap.size 47):=HT.out.fr (Fr.of_below [] hb1) (by simp);have HEB:Hid (W.heap.size ∉ [mb]):=by show _ ∉ _;simp;have:=HF.out.size;have:=HLT.out;omega
   obtain ⟨f,hfg⟩:∃ f,gtC a.x FN=f:=⟨_,rfl⟩
   have HFG:Hid (gtC a.x FN=f):=hfg;have HSZ:Hid (f.t.size<=9223372036854775807):=by
    show _<=_
    rw [<-hfg,(HN.out.2.get a.x).1.1];exact HSN.out a.x
   clear ha hrow hb1 HR HM HN HA HP HF HT hfg;go_upto_region 13 with fail
   clear k0 k1 k2 k3;generalize W.alloc (.cells #[.int .i64 a.x.s,.int .i64 a.x.r,.int .i64 a.x.c,.string a.t] 50)=W1 at *;generalize heb:W.heap.size=eb at *;clear heb;have t3:zAt W1 eb (.int .i64 a.x.s) (.int .i64 a.x.r) (.int .i64 a.x.c):=⟨q1.2.1 0 _ rfl,q1.2.1 1 _ rfl,q1.2.1 2 _ rfl⟩
   clear q1;have hb4:=(Below.refl W1.heap.size W1).drew;refine wp_region_held_drew (S:=λW=>zAt W eb (.int .i64 a.x.s) (.int .i64 a.x.r) (.int .i64 a.x.c)) (by kernel_rfl) (zAG hb4 t3) (λhHeld=>?_);replace t3:=zAG hb4 t3
   obtain ⟨Fi,mi1,mi2⟩:=HM1.out;have HM4:Hid (MB W1.drew mb Fi/\Mt W1.drew lo Fi Gi):=⟨mi1.below hb4,mi2.fr (Fr.of_below [] hb4) (by simp)⟩
   have HN4:Hid (MB W1.drew (w.heap.size+2) FN/\Mt W1.drew lo FN N):=⟨HN1.out.1.below hb4,HN1.out.2.fr (Fr.of_below [] hb4) (by simp)⟩
   have HA4:Hid (AtL W1.drew bb [.slice na nm.length nk,.int .i64 ver,.map (some mb)]):=AtL.below hb4 HA1.out;have HP4:Hid (AtL W1.drew w.heap.size [.int .i64 0,.int .i64 0,.int .i64 0]):=AtL.below hb4 HP1.out;have HF4:Hid (Fr [mb] w W1.drew):=HF1.out.trans (Fr.of_below _ hb4);have HT4:Hid (TyB W1.drew w.heap.size 47):=HT1.out.fr (Fr.of_below [] hb4) (by simp);clear hb4 HM1 HN1 HA1 HP1 HF1 HT1 mi1 mi2;generalize W1.drew=W4 at *;refine tkQ 0 ?_
   refine tkQ 1 ?_
   refine tkQ 2 ?_
   refine tkQ 3 ?_
   refine tkQ 4 ?_
   refine tkQ 5 ?_
   refine rdQ 6 (λK hK=>?_);have hlk:(Instr.lookup 55 (.map (some (w.heap.size+2))) (.agg #[.int .i64 a.x.s,.int .i64 a.x.r,.int .i64 a.x.c]) false).run prog W4=.ok (.agg #[.string f.t,.slice f.a f.n f.k]) W4:=by
    have:=zEi HN4.out.1 a.x;rw [HFG.out] at this;exact this
   go_simp
   refine hkQ hK t3 (λhHeld=>?_);clear hK K hlk
   refine rdQ 7 (λK hK=>?_);have LY:=zLh bb mb (.slice na nm.length nk) ver Fi a.x f W4 HA4.out HM4.out.1 HNE.out.1 HSZ.out;go_simp
   refine LY.mono ?_;rintro e w5 ⟨rfl,hm5,fr5⟩;have HM5:Hid (∃ F,MB w5 mb F/\Mt w5 lo F (zLt a.x (gtE a.x N) Gi)):=⟨_,hm5,(HM4.out.2.lay a.x (by have:=(HN4.out.2.get a.x).1;rw [HFG.out] at this;exact this)).fr fr5 (λk hk=>by simp at hk;rw [hk];exact HLT.out.2.1)⟩
   have HN5:Hid (MB w5 (w.heap.size+2) FN/\Mt w5 lo FN N):=⟨HN4.out.1.fr fr5 (by simp;have:=HLT.out;omega),HN4.out.2.fr fr5 (λk hk=>by simp at hk;rw [hk];exact HLT.out.2.1)⟩
   have HA5:Hid (AtL w5 bb [.slice na nm.length nk,.int .i64 ver,.map (some mb)]):=zEO HA4.out fr5 (by simpa using HNE.out.1);have HP5:Hid (AtL w5 w.heap.size [.int .i64 0,.int .i64 0,.int .i64 0]):=zEO HP4.out fr5 (by simp;have:=HLT.out;omega);have HF5:Hid (Fr [mb] w w5):=HF4.out.trans fr5;have t5:zAt w5 eb (.int .i64 a.x.s) (.int .i64 a.x.r) (.int .i64 a.x.c):=⟨fr5.cell t3.1 HEB.out,fr5.cell t3.2.1 HEB.out,fr5.cell t3.2.2 HEB.out⟩
   have HT5:Hid (TyB w5 w.heap.size 47):=HT4.out.fr fr5 (by simp;have:=HLT.out;omega);clear LY hm5 fr5 HM4 HN4 HA4 HP4 HF4 HT4 t3;go_wp2_with fail
   refine hkQ hK t5 (λhHeld=>?_);clear hK K
   refine wpAnyH_done (by kernel_rfl) ?_ _;clear hHeld t5;go_wp2_with fail
   go_roundg (n - (i+1))
   case rel=>exact ⟨i+1,_,by simp,rfl,hlt,HD,HM5,HN5,HA5,HP5,HF5,HT5⟩
   case measure=>omega
  ·have hii:¬ (i:Int)<(n:Int):=by omega
   have HE:Hid (Gi=GE):=by
    show _=_
    rw [<-HR.out,List.drop_eq_nil_of_le (by rw [HC.out.2.1];omega)];rfl
   have HA6:Hid (AtL (W.setCell ⟨bb,1,none⟩ (.int .i64 (ver+1))) bb [.slice na nm.length nk,.int .i64 (ver+1),.map (some mb)]):=HA.out.set 1 _;have HP6:Hid (AtL (W.setCell ⟨bb,1,none⟩ (.int .i64 (ver+1))) w.heap.size [.int .i64 0,.int .i64 0,.int .i64 0]):=HP.out.far (by have:=HNE.out;omega) 1 _;have HF6:Hid (Fr [bb] W (W.setCell ⟨bb,1,none⟩ (.int .i64 (ver+1)))):=zAf bb [.int .i64 (ver+1)] 1 W;obtain ⟨_,a1,_,_,a4,_⟩:=HA.out.three;clear HR;go_upto_region 16 with fail
   have hHA:=HA6.out;generalize W.setCell ⟨bb,1,none⟩ (.int .i64 (ver+1))=W6 at *;have HPx:=HP6;obtain ⟨_,_,_,z0,z1,z2⟩:=HPx.out.three;obtain ⟨_,_,_,y0,y1,y2⟩:=(HPx.out.set 0 (.int .i64 0)).three;obtain ⟨_,_,_,x0,x1,x2⟩:=((HPx.out.set 0 (.int .i64 0)).set 1 (.int .i64 0)).three;have q2:=((HPx.out.set 0 (.int .i64 0)).set 1 (.int .i64 0)).set 2 (.int .i64 0);go_wp2;refine bodyPost_ret (zA2 (by rfl) _ _ w.heap.size [.int .i64 0,.int .i64 0,.int .i64 0] _ (by rfl) q2.range underlying47 rfl (by kernel_rfl)) rfl ?_;have fr7:=zAf w.heap.size [.int .i64 0,.int .i64 0,.int .i64 0] 0 W6;have fr8:Fr [bb,mb] w (W6.setCells w.heap.size 0 [.int .i64 0,.int .i64 0,.int .i64 0]):=((HF.out.mono (by simp)).trans (HF6.out.mono (by simp))).new fr7 (λk hk=>by simp at hk;omega);refine ⟨rfl,⟨zEO HA6.out fr7 (by simp;have:=HNE.out;omega),RdS.fr HH.out.rs fr8 (λg o e=>by have:=HH.out.nb g o e;simp;omega),HH.out.kp,HH.out.nb,?_,⟨HLT.out.1,HLT.out.2.1,Nat.le_trans HLT.out.2.2 fr8.size⟩,HH.out.ne⟩,fr8⟩;obtain ⟨F',m1,m2⟩:=HM.out;rw [HE.out] at m2;have m3:=m2.fr HF6.out (λk hk=>by simp at hk;rw [hk];exact HLT.out.1);have ht6:=HT.out.fr HF6.out (by simp;have:=HNE.out;omega);exact ⟨F',(m1.fr HF6.out (by simp;have:=HNE.out;omega)).fr fr7 (by simp;have:=HLT.out;omega),m3.frT fr7 ht6 (by decide) (by decide)⟩
def EOk (n:Nat) (p:Wpl.Cl × Ce):Prop:=¬ p.2.t=⟨#[]⟩/\(0<p.2.c.length ↔ Wlx.begins [61] p.2.t.data.toList=true)/\p.2.t.size<=1000000000000000/\p.2.c.length<=1000000/\∀ q ∈ p.2.c,q.2.length<=1000000
def NOk (p:Wpl.Cl × Ce):Prop:=(0<p.2.c.length ↔ Wlx.begins [61] p.2.t.data.toList=true)/\p.2.t.size<=1000000000000000/\p.2.c.length<=1000000/\∀ q ∈ p.2.c,q.2.length<=1000000
def GOk (n:Nat) (G:List (Wpl.Cl × Ce)):Prop:=KB G/\∀ p ∈ G,EOk n p
theorem zOj {α:Type} (x:Wpl.Cl) (v:α) (F:List (Wpl.Cl × α)):(zF3 x v F).length<=F.length+1:=by
 unfold zF3;split
 ·rw [List.length_set];omega
 ·rw [List.length_append];simp
theorem zNZ {α:Type} (x:Wpl.Cl) (F:List (Wpl.Cl × α)):(zHh x F).length<=F.length+1:=by
 unfold zHh;split
 ·have:=List.length_eraseIdx_le (l:=F) (i:=(by assumption:Nat × α).1);omega
 ·omega
theorem zNX (n:Nat) (rs:Ch->List I ⊕ (Int × Int)):∀ (L:List Ch) (i:Nat) (N N':List (Wpl.Cl × Ce)),(∀ a ∈ L,a.t.size<=1000000000000000/\∀ C,rs a=.inl C->zEW n a.x=true->(0<C.length ↔ Wlx.begins [61] a.t.data.toList=true)/\C.length<=20000/\∀ q ∈ C,q.2.length<=1000000)->KB N->(∀ p ∈ N,NOk p)->raP n rs L i N=.inr N'->KB N'/\∀ p ∈ N',NOk p
 | [],i,N,N',_,hK,hN,h=>by
  unfold raP at h;simp only [Sum.inr.injEq] at h;subst h;exact ⟨hK,hN⟩
 | a::r,i,N,N',hL,hK,hN,h=>by
  unfold raP at h;by_cases h1:zEW n a.x=false
  ·rw [if_pos h1] at h;cases h
  ·rw [if_neg h1] at h;by_cases h2:(fnB a.x N 0).isSome=true
   ·rw [if_pos h2] at h;cases h
   ·rw [if_neg h2] at h;cases hr:rs a with
    | inr q=>rw [hr] at h;cases h
    | inl C =>
     rw [hr] at h;obtain ⟨g1,g2⟩:=hL a (List.mem_cons_self ..);obtain ⟨g3,g4,g5⟩:=g2 C hr (by simpa using h1);obtain ⟨p1,p2⟩:=hK.put a.x (⟨a.t,C⟩:Ce);refine zNX n rs r (i+1) _ N' (λx hx=>hL x (List.mem_cons_of_mem _ hx)) p1 (λp hp=>?_) h;obtain ⟨y,e⟩:=p;rcases (p2 y e).1 hp with ⟨_,rfl⟩ | ⟨_,hp⟩
     ·exact ⟨g3,g1,by show C.length<=_;omega,g5⟩
     ·exact hN _ hp
theorem zKS {N:List (Wpl.Cl × Ce)} (h:∀ p ∈ N,NOk p) (x:Wpl.Cl):NOk (x,gtE x N):=by
 rcases zGv (G:=N) (x:=x) with e | e
 ·rw [e];exact ⟨by simp [Wlx.begins],Nat.zero_le _,Nat.zero_le _,λq hq=>by cases hq⟩
 ·exact h _ e
theorem zKG (n:Nat) (N:List (Wpl.Cl × Ce)) (hN:∀ p ∈ N,NOk p):∀ (L:List Ch) (G:List (Wpl.Cl × Ce)),GOk n G->GOk n (zIp N L G)/\(zIp N L G).length<=G.length+L.length
 | [],G,h=>⟨h,by simp [zIp]⟩
 | a::r,G,h=>by
  have hl:GOk n (zLt a.x (gtE a.x N) G)/\(zLt a.x (gtE a.x N) G).length<=G.length+1:=by
   unfold zLt;by_cases ht:(gtE a.x N).t=⟨#[]⟩
   ·rw [if_pos ht];obtain ⟨p1,p2⟩:=h.1.del a.x;exact ⟨⟨p1,λp hp=>h.2 p ((p2 p.1 p.2).1 hp).2⟩,zNZ _ _⟩
   ·rw [if_neg ht];obtain ⟨p1,p2⟩:=h.1.put a.x (gtE a.x N);refine ⟨⟨p1,λp hp=>?_⟩,zOj _ _ _⟩;obtain ⟨y,e⟩:=p;rcases (p2 y e).1 hp with ⟨_,rfl⟩ | ⟨_,hp⟩
    ·exact ⟨ht,zKS hN a.x⟩
    ·exact h.2 _ hp
  have:=zKG n N hN r _ hl.1;refine ⟨this.1,?_⟩;have h2:=this.2;have h3:=hl.2;show (zIp N r (zLt a.x (gtE a.x N) G)).length<=_
  simp only [List.length_cons];omega
theorem zOI (hn:n<=16) {x:Wpl.Cl} (h:zEW n x=true):0<=x.s/\x.s<16:=by
 unfold zEW at h;rw [Bool.and_eq_true] at h;have:=Wpl.rightC_iff.1 h.1;omega
def EdA (bb mb lo:Nat) (na:Option Addr) (nk:Nat) (nm:List ByteArray) (ver:Int) (G:List (Wpl.Cl × Ce)) (k:Nat) (w:World) (e:Ending) (w':World):Prop :=
 (∃ c i p,e=.returned (.agg #[.int .i64 c,.int .i64 i,.int .i64 p]))/\∃ ver' G',BK w' bb mb lo na nk nm ver' G'/\Fr [bb,mb] w w'/\GOk nm.length G'/\G'.length<=G.length+k/\0<=ver'/\ver'<=ver+1
theorem EdQ.any {bb mb:Nat} {na:Option Addr} {nk:Nat} {nm:List ByteArray} {ver:Int} {e:Ending} {r:(Int × Int × Int) × Int × List (Wpl.Cl × Ce)} (h:EdQ bb mb lo na nk nm r w e w') (hG:GOk nm.length r.2.2) (hl:r.2.2.length<=G.length+k) (hv:0<=r.2.1/\r.2.1<=ver+1):EdA bb mb lo na nk nm ver G k w e w' :=
 ⟨⟨_,_,_,h.1⟩,_,_,h.2.1,h.2.2,hG,hl,hv.1,hv.2⟩
theorem zKe (h:GOk n G) (y:Wpl.Cl):(gtE y G).t.size<=9223372036854775807:=by
 rcases zGv (G:=G) (x:=y) with e | e
 ·rw [e];exact Nat.zero_le _
 ·have:=(h.2 _ e).2.2.1;simp only at this;omega
theorem zLd (bb mb lo:Nat) (na:Option Addr) (nk:Nat) (nm:List ByteArray) (ver:Int) (G:List (Wpl.Cl × Ce)) (av:Option Addr) (n cap:Nat) (L:List Ch) (w:World) (hE:BEnv w) (h:BK w bb mb lo na nk nm ver G) (hr:RdH w av L) (hl:L.length=n) (hnm:nm.length<=16) (hO:GOk nm.length G) (hG:G.length<=1000000) (hv:0<=ver/\ver<=1000000000) (hav:∀ g o,av=some ⟨g,o,none⟩->g ≠ mb) (hL:∀ a ∈ L,a.t.size<=1000000000000000) :
  Calls prog 14 #[.pointer (some ⟨bb,0,none⟩),.slice av n cap] w (EdA bb mb lo na nk nm ver G n w):=by
 by_cases h0:n=0
 ·exact (zIb bb mb lo na nk nm ver G av n cap w h h0).mono λe w' q=>q.any hO (Nat.le_add_right _ _) ⟨hv.1,by show ver<=ver+1;omega⟩
 by_cases h1:256<n
 ·exact (zKQ bb mb lo na nk nm ver G av n cap w h h1).mono λe w' q=>q.any hO (Nat.le_add_right _ _) ⟨hv.1,by show ver<=ver+1;omega⟩
 have ex:∀ a:Ch,∃ R,zEW nm.length a.x=true->a.t.size<=1000000000000000->zE0 nm a.x a.t R/\∀ C,R=.inl C->(0<C.length ↔ Wlx.begins [61] a.t.data.toList=true)/\C.length<=20000/\∀ p ∈ C,p.2.length<=1000000:=λa=>by
  by_cases q:zEW nm.length a.x=true/\a.t.size<=1000000000000000
  ·have hrg:=zOI hnm q.1;obtain ⟨R,r1,r2⟩:=zRL nm a.x a.t (by omega) ⟨by omega,by omega⟩ (by omega);exact ⟨R,λ_ _=>⟨r1,r2⟩⟩
  ·exact ⟨.inl [],λq1 q2=>absurd ⟨q1,q2⟩ q⟩
 obtain ⟨rs,hrs⟩:=Classical.axiomOfChoice ex;have hR:∀ a ∈ L,zEW nm.length a.x=true->zE0 nm a.x a.t (rs a):=λa ha hh=>(hrs a hh (hL a ha)).1
 cases hq:raP nm.length rs L 0 [] with
 | inl q=>exact (zJ2 bb mb lo na nk nm ver G av n cap L rs w hE h hr hl h0 (by omega) hR q hq).mono λe w' q=>q.any hO (Nat.le_add_right _ _) ⟨hv.1,by show ver<=ver+1;omega⟩
 | inr N =>
  obtain ⟨_,hN⟩:=zNX nm.length rs L 0 [] N (λa ha=>⟨hL a ha,λC e hh=>(hrs a hh (hL a ha)).2 C e⟩) (by simp [KB]) (λp hp=>by cases hp) hq;by_cases hf:4096<lbE G L (G.length:Int)
  ·exact (zKR bb mb lo na nk nm ver G av n cap L rs w hE h hr hl h0 (by omega) hR N hq hG (zKe hO) hf).mono λe w' q=>q.any hO (Nat.le_add_right _ _) ⟨hv.1,by show ver<=ver+1;omega⟩
  ·obtain ⟨g1,g2⟩:=zKG nm.length N hN L G hO;rw [hl] at g2;exact (zKb bb mb lo na nk nm ver G av n cap L rs w hE h hr hl h0 (by omega) hR N hq hG (zKe hO) (λy=>by have:=(zKS hN y).2.1;simp only at this;omega) hf hv hav).mono λe w' q=>q.any g1 g2 ⟨by show 0<=ver+1;omega,by show ver+1<=ver+1;omega⟩
open Go.RowKit
def ndS (s:ByteArray):Wt.Nd:=⟨2,Wt.v0,0,⟨#[]⟩,0,⟨s,0,0,false,false⟩,Wt.r0⟩
abbrev zCB:Array Value:=#[.int .i64 0,.int .i64 0,.int .i64 0,.int .i64 0,.string ⟨#[]⟩,.bool false,.int .i64 0,.int .i64 0,.string ⟨#[]⟩,.int .i64 0,.string ⟨#[]⟩,.int .i64 0,.int .i64 0,.bool false,.bool false,.string ⟨#[]⟩,.int .i64 0,.int .i64 0,.bool false,.bool false]
def ndZ:Wt.Nd:=⟨0,Wt.v0,0,⟨#[]⟩,0,Wt.r0,Wt.r0⟩
theorem zNL:Wt.FitV Wt.v0:=⟨by decide,by decide,by decide⟩
theorem zRl (s:ByteArray) (w:World):(Instr.build 102 #[(0,.int .i64 2),(5,.agg #[.string s,.int .i64 0,.int .i64 0,.bool false,.bool false])]).run prog w=.ok (.agg (zAK (ndS s)).toArray) w:=by kernel_rfl
theorem evC (a:Act) (v:Value):a.eval (.const v)=v:=rfl
theorem zFw (hgd:op.guard=none) (y:Operand) (ho:op.op=.build 102 #[(0,.const (.int .i64 2)),(5,y)]) (s:ByteArray) (hy:a.eval y=.agg #[.string s,.int .i64 0,.int .i64 0,.bool false,.bool false])
  (h:wpList prog ops Q rest (a.put op.dst (.agg (zAK (ndS s)).toArray)) w):wpList prog ops Q (op::rest) a w:=by
 refine wpList_plain hgd λK hK=>?_
 unfold Oper.wp execOp;simp only [ho,List.map_toArray,List.map_cons,List.map_nil,evC,hy,Sem.run_bind,Sem.run_pure,Result.andThen_ok,zRl];exact hK _ _ h
theorem bsS (x:Wt.Nd) (w:World):(Instr.buildSlice 104 1 #[(0,.agg (zAK x).toArray)]).run prog w=.ok (.slice (some ⟨w.heap.size,0,none⟩) 1 1) (w.alloc (.cells (zAK x).toArray 102)):=by kernel_rfl
theorem zHo (hw:Region.wanted op (yielded ops a.tmps)=true) (y:Operand) (ho:op.op=.buildSlice 104 1 #[(0,y)]) (x:Wt.Nd) (hy:a.eval y=.agg (zAK x).toArray)
  (h:wpList prog ops Q rest (a.put op.dst (.slice (some ⟨w.heap.size,0,none⟩) 1 1)) (w.alloc (.cells (zAK x).toArray 102))):wpList prog ops Q (op::rest) a w:=by
 refine BigFrame.wpList_want hw λK hK=>?_
 unfold Oper.wp execOp;simp only [ho,List.map_toArray,List.map_cons,List.map_nil,hy,Sem.run_bind,Sem.run_pure,Result.andThen_ok,bsS];exact hK _ _ h
theorem zDa (s:ByteArray) (w:World) (hO:OpsAt w) (h0:¬ s=⟨#[]⟩) (hs:s.size<=1000) (hc:Wt.check [ndS s]=0) :
  CR 26 #[.string s] w (.bool true):=by
 have x1:=zIB h0;have p0:AtL (w.alloc (.cells zCB 102)) w.heap.size (zAK ndZ):=AtL.new0 w 102 (zAK ndZ);have hb0:=zAH (Below.refl _ w) (.cells zCB 102);have hth:World.there (w.alloc (.cells zCB 102)) w.heap.size 0 (zAK (ndS s)).toArray.size:=p0.there;have p1:AtL ((w.alloc (.cells zCB 102)).setCells w.heap.size 0 (zAK (ndS s))) w.heap.size (zAK (ndS s)):=p0.setAll rfl;have hb1:Below w.heap.size w ((w.alloc (.cells zCB 102)).setCells w.heap.size 0 (zAK (ndS s))):=zBJ hb0 (Nat.le_refl _) _ 0;have HO1:=hO.below hb1;clear hO hb0 p0 h0;go_enter func26,ntmps26;go_upto_region 1 with fail
 go_upto_region 2 with (first | (refine zFw rfl (.tmp 5) rfl s rfl ?_) | ((with_reducible refine wpList_store_mid ?_ 102 (.tmp 3) (.tmp 6) ?_ w.heap.size 0 (zAK (ndS s)).toArray ?_ ?_ ?_ ?_ ?_ ?_);rfl;rfl;rfl;rfl;exact hth;kernel_rfl;exact zCT _))
 simp only [Act.put];generalize (w.alloc (.cells zCB 102)).setCells w.heap.size 0 (zAK (ndS s))=W1 at *;have r1:=p1.range;have hb2:=zAH (Below.refl _ W1) (.cells (zAK (ndS s)).toArray 102);have q2:=(AtL.new0 W1 102 (zAK (ndS s))).range;have CK:=zCo (some ⟨W1.heap.size,0,none⟩) 1 [ndS s] (W1.alloc (.cells (zAK (ndS s)).toArray 102)) (by simp) (λx hx=>by simp at hx;subst hx;exact ⟨zNL,by show (0:Nat)<=_;omega,by show s.size<=_;omega,by show (0:Nat)<=_;omega⟩) (HO1.below hb2) (λi hi=>by
  have:i=0:=by simpa using hi
  subst this;exact ⟨W1.heap.size,0,rfl,by simpa using q2⟩)
 rw [hc] at CK;have HB2:Hid (Below w.heap.size w (W1.alloc (.cells (zAK (ndS s)).toArray 102))):=zAA hb1 hb2;clear hb1 hb2 q2 HO1 p1 hth;go_wp2_with (first | ((with_reducible refine zAB (cs:=zAK (ndS s)) ?_ 102 (.tmp 3) ?_ w.heap.size 0 ?_ _ ?_ underlying102 ?_ ?_ ?_);rfl;rfl;rfl;exact r1;rfl;kernel_rfl) | (refine zHo (by rfl) (.tmp 10) rfl (ndS s) rfl ?_))
 refine CK.mono ?_;rintro e w3 ⟨rfl,hb3⟩;have HB3:Hid (Below w.heap.size w w3):=zAA HB2.out hb3;clear CK hb3 HB2 r1;go_wp2;go_ret;exact ⟨rfl,HB3.out⟩
theorem zPp {s t:ByteArray} (h:¬ s=t):(s.toList == t.toList)=false:=by
 rw [beq_eq_false_iff_ne];intro e;rw [ByteArray.toList_eq,ByteArray.toList_eq] at e;exact h (ByteArray.ext (Array.ext' e))
def ixS (s:ByteArray):List ByteArray->Nat->Int
 | [],_=>-1
 | a::r,i=>if s=a then (i:Int) else ixS s r (i+1)
theorem zJD (L:List ByteArray) (s:ByteArray) (av:Option Addr) (n cap:Nat) (w:World) (hr:RdS w av L) (hn:L.length=n) (hN:True->n<=1000000) :
  Calls prog 32 #[.slice av n cap,.string s] w λe w'=>e=.returned (.int .i64 (ixS s L 0))/\w=w':=by
 obtain ⟨R,hR⟩:∃ R,ixS s L 0=R:=⟨_,rfl⟩
 rw [hR];have HR0:Hid (ixS s (L.drop 0) 0=R):=hR;have HH:Hid (RdS w av L/\L.length=n):=⟨hr,hn⟩
 clear hr hn hR;go_enter func32,ntmps32;go_upto_region 2 with fail
 go_loopg [8] n (λgk x wr=>∃ i:Nat,x=.int .i64 (i:Int)/\gk=n - i/\Hid (i<=n)/\Hid (ixS s (L.drop i) i=R)/\wr=w)
 case atStart=>exact ⟨0,rfl,rfl,Nat.zero_le _,HR0,rfl⟩
 case round =>
  obtain ⟨i,rfl,hg,HI,HR,rfl⟩:=hrel;by_cases hlt:i<n
  ·have hii:(i:Int)<(n:Int):=by omega
   have hiz:(0:Int)<=(i:Int):=by omega
   have hwi:IntKind.i64.wrap ((i:Int)+1)=(i:Int)+1:=by have:=hN trivial;rw [IntKind.wrap_i64];omega
   have hl:i<L.length:=by rw [HH.out.2];exact hlt
   obtain ⟨bb,off,e,k0⟩:=HH.out.1 i hl;subst e;obtain ⟨a,ha⟩:∃ a,L[i]=a:=⟨_,rfl⟩
   rw [ha] at k0;have HD:Hid (ixS s (L.drop i) i=if s=a then (i:Int) else ixS s (L.drop (i+1)) (i+1)):=by
    show _=_
    rw [List.drop_eq_getElem_cons hl,ha];rfl
   clear ha;by_cases hs:s=a
   ·subst hs;have HE:Hid (R=(i:Int)):=by show _=_;rw [<-HR.out,HD.out,if_pos rfl]
    clear HD HR HH;go_wp2;go_ret;exact ⟨by rw [HE.out];rfl,rfl⟩
   ·have x1:=zPp hs;have HR2:Hid (ixS s (L.drop (i+1)) (i+1)=R):=by show _=_;rw [<-HR.out,HD.out,if_neg hs]
    clear HD HR hs;go_wp2_with fail
    go_roundg (n - (i+1))
    case rel=>exact ⟨i+1,by simp,rfl,hlt,HR2,rfl⟩
    case measure=>omega
  ·have hii:¬ (i:Int)<(n:Int):=by omega
   have HE:Hid (R = -1):=by
    show _=_
    rw [<-HR.out,List.drop_eq_nil_of_le (by rw [HH.out.2];omega)];rfl
   clear HR HH;go_wp2;go_ret;exact ⟨by rw [HE.out];rfl,rfl⟩
theorem zDk (L:List ByteArray) (s:ByteArray) (av:Option Addr) (n cap:Nat) (w:World) (hr:RdS w av L) (hn:L.length=n) (hN:True->n<=1000000) :
  Calls prog 27 #[.slice av n cap,.string s] w λe w'=>e=.returned (.bool (decide (ixS s L 0 ≥ 0)))/\w=w':=by
 have IX:=zJD L s av n cap w hr hn hN;obtain ⟨k,hk⟩:∃ k,ixS s L 0=k:=⟨_,rfl⟩
 rw [hk] at IX ⊢;clear hr hn hN hk;go_enter func27,ntmps27;go_wp2_with fail
 refine IX.mono ?_;rintro e w1 ⟨rfl,rfl⟩;go_wp2;go_ret;exact ⟨rfl,rfl⟩
theorem zNx (bb mb:Nat) (na:Option Addr) (nk:Nat) (nm:List ByteArray) (ver:Int) (s:ByteArray) (w:World) (h:AtL w bb [.slice na nm.length nk,.int .i64 ver,.map (some mb)]) (hr:RdS w na nm) (hN:True->nm.length<=1000000) :
  Calls prog 17 #[.pointer (some ⟨bb,0,none⟩),.string s] w λe w'=>e=.returned (.int .i64 (ixS s nm 0))/\w=w':=by
 have IX:=zJD nm s na nm.length nk w hr rfl hN;obtain ⟨c0,_,_,_⟩:=h.three;clear h hr hN;go_enter func17,ntmps17;go_wp2_with fail
 refine IX.mono ?_;rintro e w1 ⟨rfl,rfl⟩;go_wp2;go_ret;exact ⟨rfl,rfl⟩
theorem zRz:prog.underlying 65=some (.slice 3):=by kernel_rfl
theorem zH6 {ops:Array Oper} {rest:List Oper} {a:Act} {Q:Exit->Act->World->Prop} (hgd:o.guard=none) (sl x:Operand) (ho:o.op=.call {callee:=.builtin .append,args:=#[sl,x],argTypes:=#[65,65]})
  (w:World) (B:Nat) (hB:B<=w.heap.size) (v:Value) (n:Nat) (xs:List Value) (hs:a.eval sl=v) (hown:w.ownsRow B 3 1 v n xs) (k m c:Nat) (ys:List Value) (hm:ys.length=m * 1) (hx:a.eval x=.slice (some ⟨k,0,none⟩) m c) (hat:∀ j u,ys[j]? = some u->w.cell? ⟨k,j,none⟩=some u) (h1:∀ u ∈ ys,u.oneCell'=true) (hn:n+m<=2000000000)
  (h:∀ v' w',w'.ownsRow B 3 1 v' (n+m) (xs++ys)->w.grownBy w' v.ownBlock->wpList prog ops Q rest (a.put o.dst v') w'):wpList prog ops Q (o::rest) a w:=by
 refine wpList_plain hgd λK hK=>?_
 obtain ⟨i0,hi0,hz0,hz1,hz2⟩:=info_parts zJZ;obtain ⟨v',w',hr,h2,h3,_,h5⟩:=run_append_own_at (P:=prog) w B 65 o.type 3 i0 _ 1 8 zRz hi0 hz0 hz1 hz2 rfl (by decide) v n xs hown ⟨k,0,none⟩ m c ys hm (λj z hj=>by
   have:=hat j z hj;rw [show (⟨k,0,none⟩:Addr).add j=⟨k,j,none⟩ from by
    simp [Addr.add];try (intro h0;omega)]
   exact this) h1 (by unfold maxLen;omega) (by omega) hB
 unfold Oper.wp execOp;simp only [ho,resolve,invoke,builtin,Sem.run_bind,Sem.run_pure,Result.andThen_ok,List.map_toArray,List.map_cons,List.map_nil,hs,hx,hr];exact hK _ _ (h v' w' h2 h3)
theorem zPE (g n c:Nat) (w:World):(binOp .eql 65 (.slice (some ⟨g,0,none⟩) n c) (.slice none 0 0)).run prog w=.ok (.bool false) w:=by kernel_rfl
theorem zOz (w:World):(binOp .eql 65 (.slice none 0 0) (.slice none 0 0)).run prog w=.ok (.bool true) w:=by kernel_rfl
def zOS (n:Nat) (xs:List Value) (w:World) (en:Ending) (w':World):Prop:=(∃ v,en=.returned v/\w'.ownsRow w.heap.size 3 1 v n xs)/\Below w.heap.size w w'
theorem zQG (rv:Value) (n:Nat) (xs:List Value) (B:Nat) (w:World) (h:w.ownsRow B 3 1 rv n xs) (hone:∀ u ∈ xs,u.oneCell'=true) (hN:True->n<=1000000000) :
  Calls prog 22 #[rv] w (zOS n xs w):=by
 have hlen:=h.1;rcases h.2 with ⟨e,h0⟩ | ⟨g,cap,cur,e,hbg,hg,h1,h2,h3,h4⟩
 ·subst e h0;have en:=λw=>zOz w
  have HE:Hid (zOS 0 xs w (.returned (.slice none 0 0)) w):=⟨⟨_,rfl,hlen,Or.inl ⟨rfl,rfl⟩⟩,Below.refl _ _⟩
  clear h hlen hone;go_enter func22,ntmps22;go_wp2;go_ret;exact HE.out
 ·subst e;have HC:Hid (∀ j u,xs[j]? = some u->w.cell? ⟨g,j,none⟩=some u):=λj u hu=>by
   have hc:=h.cells (g:=g) rfl j u hu;rwa [show (⟨g,0,none⟩:Addr).add j=⟨g,j,none⟩ from by simp [Addr.add];intro h;exact h.symm] at hc
  have HO:Hid (∀ u ∈ xs,u.oneCell'=true):=hone;have HL:Hid (xs.length=n * 1):=hlen;have ba:=zAH (Below.refl _ w) (.cells #[] 3);have oE:(w.alloc (.cells #[] 3)).ownsRow w.heap.size 3 1 (.slice (some ⟨w.heap.size,0,none⟩) 0 0) 0 []:=⟨rfl,Or.inr ⟨w.heap.size,0,#[],rfl,Nat.le_refl _,(Go.MapKept.heap_alloc w _).1,Nat.le_refl _,by unfold maxLen;omega,rfl,rfl⟩⟩
  have HB0:Hid (Below w.heap.size w (w.alloc (.cells #[] 3))):=ba;have hs0:w.heap.size<=(w.alloc (.cells #[] 3)).heap.size:=ba.size;clear h h1 h2 h3 h4 hg hbg ba hone hlen;have en:=λw=>zPE g n cap w
  go_enter func22,ntmps22;go_wp2_with (at_builtin;refine zH6 rfl (.tmp 5) (.tmp 6) rfl (w.alloc (.cells #[] 3)) w.heap.size hs0 (.slice (some ⟨w.heap.size,0,none⟩) 0 0) 0 [] rfl oE g n cap xs HL.out rfl (λj u hu=>zAC HB0.out (HC.out j u hu)) HO.out (by have:=hN trivial;omega) ?_;intro v2 w2 o2 hg2)
  have HE:Hid (zOS n xs w (.returned v2) w2):=by
   refine ⟨⟨v2,rfl,by simpa using o2⟩,HB0.out.grown hg2 HB0.out.size (λk e=>?_)⟩;have:some w.heap.size=some k:=e;simp at this;omega
  clear o2 hg2;go_wp2_with fail
  go_ret;exact HE.out
theorem zRc:prog.underlying 33=some (.slice 67):=by kernel_rfl
theorem zIF {ops:Array Oper} {rest:List Oper} {a:Act} {Q:Exit->Act->World->Prop} (hgd:o.guard=none) (sl x:Operand) (ho:o.op=.call {callee:=.builtin .append,args:=#[sl,x],argTypes:=#[33,33]})
  (w:World) (B:Nat) (hB:B<=w.heap.size) (v:Value) (n:Nat) (xs:List Value) (hs:a.eval sl=v) (hown:w.ownsRow B 67 23 v n xs) (k m c:Nat) (ys:List Value) (hm:ys.length=m * 23) (hx:a.eval x=.slice (some ⟨k,0,none⟩) m c) (hat:∀ j u,ys[j]? = some u->w.cell? ⟨k,j,none⟩=some u) (h1:∀ u ∈ ys,u.oneCell'=true) (hn:n+m<=2000000000)
  (h:∀ v' w',w'.ownsRow B 67 23 v' (n+m) (xs++ys)->w.grownBy w' v.ownBlock->wpList prog ops Q rest (a.put o.dst v') w'):wpList prog ops Q (o::rest) a w:=by
 refine wpList_plain hgd λK hK=>?_
 obtain ⟨i0,hi0,hz0,hz1,hz2⟩:=info_parts zLA;obtain ⟨v',w',hr,h2,h3,_,h5⟩:=run_append_own_at (P:=prog) w B 33 o.type 67 i0 _ 23 208 zRc hi0 hz0 hz1 hz2 rfl (by decide) v n xs hown ⟨k,0,none⟩ m c ys hm (λj z hj=>by
   have:=hat j z hj;rw [show (⟨k,0,none⟩:Addr).add j=⟨k,j,none⟩ from by
    simp [Addr.add];try (intro h0;omega)]
   exact this) h1 (by unfold maxLen;omega) (by omega) hB
 unfold Oper.wp execOp;simp only [ho,resolve,invoke,builtin,Sem.run_bind,Sem.run_pure,Result.andThen_ok,List.map_toArray,List.map_cons,List.map_nil,hs,hx,hr];exact hK _ _ (h v' w' h2 h3)
theorem zO6 (g n c:Nat) (w:World):(binOp .eql 33 (.slice (some ⟨g,0,none⟩) n c) (.slice none 0 0)).run prog w=.ok (.bool false) w:=by kernel_rfl
theorem zNt (w:World):(binOp .eql 33 (.slice none 0 0) (.slice none 0 0)).run prog w=.ok (.bool true) w:=by kernel_rfl
def zO1 (n:Nat) (xs:List Value) (w:World) (en:Ending) (w':World):Prop:=(∃ v,en=.returned v/\w'.ownsRow w.heap.size 67 23 v n xs)/\Below w.heap.size w w'
theorem zP2 (rv:Value) (n:Nat) (xs:List Value) (B:Nat) (w:World) (h:w.ownsRow B 67 23 rv n xs) (hone:∀ u ∈ xs,u.oneCell'=true) (hN:True->n<=1000000000) :
  Calls prog 21 #[rv] w (zO1 n xs w):=by
 have hlen:=h.1;rcases h.2 with ⟨e,h0⟩ | ⟨g,cap,cur,e,hbg,hg,h1,h2,h3,h4⟩
 ·subst e h0;have en:=λw=>zNt w
  have HE:Hid (zO1 0 xs w (.returned (.slice none 0 0)) w):=⟨⟨_,rfl,hlen,Or.inl ⟨rfl,rfl⟩⟩,Below.refl _ _⟩
  clear h hlen hone;go_enter func21,ntmps21;go_wp2;go_ret;exact HE.out
 ·subst e;have HC:Hid (∀ j u,xs[j]? = some u->w.cell? ⟨g,j,none⟩=some u):=λj u hu=>by
   have hc:=h.cells (g:=g) rfl j u hu;rwa [show (⟨g,0,none⟩:Addr).add j=⟨g,j,none⟩ from by simp [Addr.add];intro h;exact h.symm] at hc
  have HO:Hid (∀ u ∈ xs,u.oneCell'=true):=hone;have HL:Hid (xs.length=n * 23):=hlen;have ba:=zAH (Below.refl _ w) (.cells #[] 67);have oE:(w.alloc (.cells #[] 67)).ownsRow w.heap.size 67 23 (.slice (some ⟨w.heap.size,0,none⟩) 0 0) 0 []:=⟨rfl,Or.inr ⟨w.heap.size,0,#[],rfl,Nat.le_refl _,(Go.MapKept.heap_alloc w _).1,Nat.le_refl _,by unfold maxLen;omega,rfl,rfl⟩⟩
  have HB0:Hid (Below w.heap.size w (w.alloc (.cells #[] 67))):=ba;have hs0:w.heap.size<=(w.alloc (.cells #[] 67)).heap.size:=ba.size;clear h h1 h2 h3 h4 hg hbg ba hone hlen;have en:=λw=>zO6 g n cap w
  go_enter func21,ntmps21;go_wp2_with (at_builtin;refine zIF rfl (.tmp 5) (.tmp 6) rfl (w.alloc (.cells #[] 67)) w.heap.size hs0 (.slice (some ⟨w.heap.size,0,none⟩) 0 0) 0 [] rfl oE g n cap xs HL.out rfl (λj u hu=>zAC HB0.out (HC.out j u hu)) HO.out (by have:=hN trivial;omega) ?_;intro v2 w2 o2 hg2)
  have HE:Hid (zO1 n xs w (.returned v2) w2):=by
   refine ⟨⟨v2,rfl,by simpa using o2⟩,HB0.out.grown hg2 HB0.out.size (λk e=>?_)⟩;have:some w.heap.size=some k:=e;simp at this;omega
  clear o2 hg2;go_wp2_with fail
  go_ret;exact HE.out
theorem zM0:(prog.info? 9).map (λi=>(i.zero,i.size,i.bytes))=some (some (.string ⟨#[]⟩),1,16):=by kernel_rfl
theorem zRy:prog.underlying 53=some (.slice 9):=by kernel_rfl
theorem zHr {ops:Array Oper} {rest:List Oper} {a:Act} {Q:Exit->Act->World->Prop} (hgd:o.guard=none) (sl x:Operand) (ho:o.op=.call {callee:=.builtin .append,args:=#[sl,x],argTypes:=#[53,53]})
  (w:World) (B:Nat) (hB:B<=w.heap.size) (v:Value) (n:Nat) (xs:List Value) (hs:a.eval sl=v) (hown:w.ownsRow B 9 1 v n xs) (k m c:Nat) (ys:List Value) (hm:ys.length=m * 1) (hx:a.eval x=.slice (some ⟨k,0,none⟩) m c) (hat:∀ j u,ys[j]? = some u->w.cell? ⟨k,j,none⟩=some u) (h1:∀ u ∈ ys,u.oneCell'=true) (hn:n+m<=2000000000)
  (h:∀ v' w',w'.ownsRow B 9 1 v' (n+m) (xs++ys)->w.grownBy w' v.ownBlock->wpList prog ops Q rest (a.put o.dst v') w'):wpList prog ops Q (o::rest) a w:=by
 refine wpList_plain hgd λK hK=>?_
 obtain ⟨i0,hi0,hz0,hz1,hz2⟩:=info_parts zM0;obtain ⟨v',w',hr,h2,h3,_,h5⟩:=run_append_own_at (P:=prog) w B 53 o.type 9 i0 _ 1 16 zRy hi0 hz0 hz1 hz2 rfl (by decide) v n xs hown ⟨k,0,none⟩ m c ys hm (λj z hj=>by
   have:=hat j z hj;rw [show (⟨k,0,none⟩:Addr).add j=⟨k,j,none⟩ from by
    simp [Addr.add];try (intro h0;omega)]
   exact this) h1 (by unfold maxLen;omega) (by omega) hB
 unfold Oper.wp execOp;simp only [ho,resolve,invoke,builtin,Sem.run_bind,Sem.run_pure,Result.andThen_ok,List.map_toArray,List.map_cons,List.map_nil,hs,hx,hr];exact hK _ _ (h v' w' h2 h3)
theorem zO3 (g n c:Nat) (w:World):(binOp .eql 53 (.slice (some ⟨g,0,none⟩) n c) (.slice none 0 0)).run prog w=.ok (.bool false) w:=by kernel_rfl
theorem zNq (w:World):(binOp .eql 53 (.slice none 0 0) (.slice none 0 0)).run prog w=.ok (.bool true) w:=by kernel_rfl
def zNm (n:Nat) (xs:List Value) (w:World) (en:Ending) (w':World):Prop:=(∃ v,en=.returned v/\w'.ownsRow w.heap.size 9 1 v n xs)/\Below w.heap.size w w'
theorem zPf (rv:Value) (n:Nat) (xs:List Value) (B:Nat) (w:World) (h:w.ownsRow B 9 1 rv n xs) (hone:∀ u ∈ xs,u.oneCell'=true) (hN:True->n<=1000000000) :
  Calls prog 28 #[rv] w (zNm n xs w):=by
 have hlen:=h.1;rcases h.2 with ⟨e,h0⟩ | ⟨g,cap,cur,e,hbg,hg,h1,h2,h3,h4⟩
 ·subst e h0;have en:=λw=>zNq w
  have HE:Hid (zNm 0 xs w (.returned (.slice none 0 0)) w):=⟨⟨_,rfl,hlen,Or.inl ⟨rfl,rfl⟩⟩,Below.refl _ _⟩
  clear h hlen hone;go_enter func28,ntmps28;go_wp2;go_ret;exact HE.out
 ·subst e;have HC:Hid (∀ j u,xs[j]? = some u->w.cell? ⟨g,j,none⟩=some u):=λj u hu=>by
   have hc:=h.cells (g:=g) rfl j u hu;rwa [show (⟨g,0,none⟩:Addr).add j=⟨g,j,none⟩ from by simp [Addr.add];intro h;exact h.symm] at hc
  have HO:Hid (∀ u ∈ xs,u.oneCell'=true):=hone;have HL:Hid (xs.length=n * 1):=hlen;have ba:=zAH (Below.refl _ w) (.cells #[] 9);have oE:(w.alloc (.cells #[] 9)).ownsRow w.heap.size 9 1 (.slice (some ⟨w.heap.size,0,none⟩) 0 0) 0 []:=⟨rfl,Or.inr ⟨w.heap.size,0,#[],rfl,Nat.le_refl _,(Go.MapKept.heap_alloc w _).1,Nat.le_refl _,by unfold maxLen;omega,rfl,rfl⟩⟩
  have HB0:Hid (Below w.heap.size w (w.alloc (.cells #[] 9))):=ba;have hs0:w.heap.size<=(w.alloc (.cells #[] 9)).heap.size:=ba.size;clear h h1 h2 h3 h4 hg hbg ba hone hlen;have en:=λw=>zO3 g n cap w
  go_enter func28,ntmps28;go_wp2_with (at_builtin;refine zHr rfl (.tmp 5) (.tmp 6) rfl (w.alloc (.cells #[] 9)) w.heap.size hs0 (.slice (some ⟨w.heap.size,0,none⟩) 0 0) 0 [] rfl oE g n cap xs HL.out rfl (λj u hu=>zAC HB0.out (HC.out j u hu)) HO.out (by have:=hN trivial;omega) ?_;intro v2 w2 o2 hg2)
  have HE:Hid (zNm n xs w (.returned v2) w2):=by
   refine ⟨⟨v2,rfl,by simpa using o2⟩,HB0.out.grown hg2 HB0.out.size (λk e=>?_)⟩;have:some w.heap.size=some k:=e;simp at this;omega
  clear o2 hg2;go_wp2_with fail
  go_ret;exact HE.out
