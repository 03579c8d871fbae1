/- BMade, BCst, BLawK, BArg, BJoin. -/
import Derived.Test.YtedifblompcdkaaGreatDoorQ45
import Derived.Deep.Slices
import Derived.Lib.SmallJoins
import Derived.SizedLaws
import Derived.Carry
import Derived.ProofKit
import Derived.Test.YtedifblompcdkaaGreatDoorCards
import Derived.Test.YtedifblompcdkaaGreatDoorTie
import Derived.JoinedCond
set_option maxHeartbeats 400000000
set_option maxRecDepth 100000
namespace Go.Proofs.YtedifblompcdkaaGreatDoor
open _root_.Go.Proofs.Tryz
open Go.RowKit Wf
set_option linter.unusedVariables false
variable {t:ByteArray} {w:World} {L:List Ch}
def zC7:List Ch->List Value
 | []=>[]
 | a::r=>chL a++zC7 r
theorem zCp:∀ L:List Ch,(zC7 L).length=L.length * 4
 | []=>rfl
 | a::r=>by simp [zC7,zCp r,chL];omega
theorem zEJ:∀ (L:List Ch) (i:Nat) (h:i<L.length) (c:Nat),c<4->(zC7 L)[i * 4+c]? = (chL (L[i]))[c]?
 | [],i,h,c,hc=>absurd h (Nat.not_lt_zero _)
 | x::r,0,h,c,hc=>by
  show (chL x++zC7 r)[0 * 4+c]? = _
  rw [Nat.zero_mul,Nat.zero_add,List.getElem?_append_left (by simpa [chL] using hc)];rfl
 | x::r,i+1,h,c,hc=>by
  show (chL x++zC7 r)[(i+1) * 4+c]? = _
  rw [List.getElem?_append_right (by simp [chL];omega),show (i+1) * 4+c - (chL x).length=i * 4+c from by simp [chL];omega,zEJ r i (by simpa using h) c hc];rfl
theorem zRX:∀ (l:List Ch),∀ u ∈ zC7 l,u.oneCell'=true
 | [],u,hu=>by cases hu
 | y::r,u,hu=>by
  rcases List.mem_append.1 hu with q | q
  ·simp [chL] at q;rcases q with h | h | h | h <;> (subst h;rfl)
  ·exact zRX r u q
theorem zQQ:(prog.info? 50).map (λi=>(i.zero,i.size,i.bytes))=some (some (.agg #[.int .i64 0,.int .i64 0,.int .i64 0,.string ⟨#[]⟩]),4,40):=by kernel_rfl
theorem zJb:prog.underlying 54=some (.slice 50):=by kernel_rfl
theorem RdH.flat {b off:Nat} (h:RdH w (some ⟨b,off,none⟩) L):∀ j u,(zC7 L)[j]? = some u->w.cell? ⟨b,off+j,none⟩=some u:=λj u hu=>by
 have hj:j<L.length * 4:=by rw [<-zCp];exact (List.getElem?_eq_some_iff.1 hu).1
 have hi:j / 4<L.length:=by omega
 have e:j=j / 4 * 4+j % 4:=by omega
 rw [e,zEJ L (j / 4) hi (j % 4) (by omega)] at hu;obtain ⟨bb,o,e2,hr⟩:=h (j / 4) _ (List.getElem?_eq_getElem hi);simp only [Option.some.injEq,Addr.mk.injEq] at e2;obtain ⟨rfl,rfl,_⟩:=e2;have:=hr (j % 4) u hu;rwa [show off+j / 4 * 4+j % 4=off+j from by omega] at this
theorem zOb {B:Nat} {v:Value} (h:w.ownsRow B 50 4 v L.length (zC7 L)):∃ av cap,v=.slice av L.length cap/\RdH w av L/\∀ g o,av=some ⟨g,o,none⟩->B<=g:=by
 rcases h.2 with ⟨e,h0⟩ | ⟨g,cap,cur,e,hbg,hg,h1,h2,h3,h4⟩
 ·subst e;exact ⟨none,0,by rw [h0],(λi a ha=>by have:=(List.getElem?_eq_some_iff.1 ha).1;omega),λg o e=>by cases e⟩
 ·subst e;refine ⟨_,cap,rfl,λi a ha=>⟨g,0,rfl,λj u hu=>?_⟩,λg' o e=>?_⟩
  ·obtain ⟨hi,e⟩:=List.getElem?_eq_some_iff.1 ha;have hj:j<4:=by
    have:=(List.getElem?_eq_some_iff.1 hu).1;simpa [chL] using this
   have hc:=h.cells (g:=g) rfl (i * 4+j) u (by rw [zEJ L i hi j hj,e];exact hu);rwa [show (⟨g,0,none⟩:Addr).add (i * 4+j)=⟨g,0+i * 4+j,none⟩ from by simp [Addr.add];try (intro h;omega)] at hc
  ·simp only [Option.some.injEq,Addr.mk.injEq] at e;omega
theorem zHj {ops:Array Oper} {rest:List Oper} {o:Oper} {a:Act} {Q:Exit->Act->World->Prop} (hgd:o.guard=none) (sl x:Operand) (ho:o.op=.call {callee:=.builtin .append,args:=#[sl,x],argTypes:=#[54,54]})
  (w:World) (B:Nat) (hB:B<=w.heap.size) (v:Value) (hs:a.eval sl=v) (hown:w.ownsRow B 50 4 v 0 []) (p:Option Addr) (m k:Nat) (L:List Ch) (hm:L.length=m) (hx:a.eval x=.slice p m k) (hr:RdH w p L) (hno:p=none->m=0/\k=0) (hn:m<=1000000000)
  (h:∀ v' w',w'.ownsRow B 50 4 v' m (zC7 L)->w.grownBy w' v.ownBlock->wpList prog ops Q rest (a.put o.dst v') w'):wpList prog ops Q (o::rest) a w:=by
 refine wpList_plain hgd λK hK=>?_
 obtain ⟨i0,hi0,hz0,hz1,hz2⟩:=zCz zQQ;by_cases h0:L=[]
 ·subst h0;have hm0:m=0:=hm.symm;subst hm0;cases p with
  | none =>
   obtain ⟨_,rfl⟩:=hno rfl;have hrun:=run_append_owned_none (P:=prog) (w:=w) B 54 o.type 50 i0 4 zJb hi0 _ 0 [] hown;unfold Oper.wp execOp;simp only [ho,resolve,invoke,builtin,Sem.run_bind,Sem.run_pure,Result.andThen_ok,List.map_toArray,List.map_cons,List.map_nil,hs,hx,hrun];exact hK _ _ (h _ _ hown (World.grownBy.refl _ _))
  | some ad =>
   obtain ⟨v',w',hrun,h2,h3,_,h5⟩:=run_append_own_at (P:=prog) w B 54 o.type 50 i0 _ 4 40 zJb hi0 hz0 hz1 hz2 rfl (by decide) v 0 [] hown ad 0 k [] rfl (λj z hj=>by simp at hj) (λu hu=>by cases hu) (by decide) (by decide) hB;unfold Oper.wp execOp;simp only [ho,resolve,invoke,builtin,Sem.run_bind,Sem.run_pure,Result.andThen_ok,List.map_toArray,List.map_cons,List.map_nil,hs,hx,hrun];exact hK _ _ (h v' w' (by simpa [zC7] using h2) h3)
 ·have hpos:0<L.length:=List.length_pos_iff.2 h0;obtain ⟨b,off,e,_⟩:=hr 0 _ (List.getElem?_eq_getElem hpos);subst e;obtain ⟨v',w',hrun,h2,h3,_,h5⟩:=run_append_own_at (P:=prog) w B 54 o.type 50 i0 _ 4 40 zJb hi0 hz0 hz1 hz2 rfl (by decide) v 0 [] hown ⟨b,off,none⟩ m k (zC7 L) (by rw [zCp,hm]) (λj z hj=>by
   have:=hr.flat j z hj;rw [show (⟨b,off,none⟩:Addr).add j=⟨b,off+j,none⟩ from by
    simp [Addr.add];try (intro h0;omega)]
   exact this) (zRX L) (by unfold maxLen;omega) (by omega) hB
  unfold Oper.wp execOp;simp only [ho,resolve,invoke,builtin,Sem.run_bind,Sem.run_pure,Result.andThen_ok,List.map_toArray,List.map_cons,List.map_nil,hs,hx,hrun];exact hK _ _ (h v' w' (by simpa using h2) h3)
def MaQ (k:Nat) (w:World) (e:Ending) (w':World):Prop :=
 ∃ bb mb lo na nk ver G,e=.returned (.pointer (some ⟨bb,0,none⟩))/\BK w' bb mb lo na nk [sS,sT] ver G/\GOk 2 G/\G.length<=k/\Below w.heap.size w w'
theorem zK4:∀ {E:List (List Ch)} {L:List Ch},L ∈ E->L.length<=wtE E
 | [],L,h=>by cases h
 | x::r,L,h=>by
  simp only [wtE,List.map_cons,List.sum_cons];rcases List.mem_cons.1 h with rfl | h
  ·omega
  ·have:=zK4 h;simp only [wtE] at this;omega
theorem zNl:∀ {E:List (List Ch)} {i:Nat} {L:List Ch},E[i]? = some L->wtE (E.take i)+L.length<=wtE (E.take (i+1)):=λh=>by
 rw [zGw h];omega
theorem zMr (E:List (List Ch)) (i:Nat):wtE (E.take i)<=wtE E:=by
 have e:wtE E=wtE (E.take i)+wtE (E.drop i):=by
  conv=>lhs;rw [<-List.take_append_drop i E]
  unfold wtE;rw [List.map_append,List.sum_append]
 omega
theorem zPr (E:List (List Ch)) (av:Option Addr) (n cap:Nat) (w:World) (hE:BEnv w) (hr:RdE w av E) (hn:E.length=n) (hw:E.length+wtE E<=6000) (hL:∀ L ∈ E,∀ a ∈ L,a.t.size<=1000000000000000) :
  Calls prog 6 #[.slice av n cap] w (MaQ 6000 w):=by
 have hb0:=zAH (Below.refl _ w) (.cells #[.string sS,.string sT] 9);have NW:=zND w.heap.size (w.alloc (.cells #[.string sS,.string sT] 9)) (hE.1.1.below hb0) (zIX w);have HH:Hid (BEnv w/\RdE w av E/\E.length=n/\E.length+wtE E<=6000/\∀ L ∈ E,∀ a ∈ L,a.t.size<=1000000000000000):=⟨hE,hr,hn,hw,hL⟩
 have HB0:Hid (Below w.heap.size w (w.alloc (.cells #[.string sS,.string sT] 9))):=hb0;clear hE hb0 hr hn hw hL;go_enter func6,ntmps6;go_wp2_with fail
 refine NW.mono ?_;rintro e w1 ⟨bb,mb,na,nk,rfl,hk,hb1,hbb,hmb⟩;have HB1:Hid (Below w.heap.size w w1):=zAA HB0.out hb1;have HBM:Hid (w.heap.size<=bb/\w.heap.size<=mb/\w.heap.size<=w1.heap.size):=by
  have:=HB0.out.size;exact ⟨by omega,by omega,HB1.out.size⟩
 have HK1:Hid (BK w1 bb mb w1.heap.size na nk [sS,sT] 0 []):=hk;clear NW hk hb1 hbb hmb HB0;go_upto_region 3 with fail
 go_loopg [5] n (λgk x wr=>∃ (i:Nat) (ver:Int) (G:List (Wpl.Cl × Ce)),x=.int .i64 (i:Int)/\gk=n - i/\Hid (i<=n)/\Hid (BK wr bb mb w1.heap.size na nk [sS,sT] ver G)/\Hid (GOk 2 G/\G.length<=wtE (E.take i)/\0<=ver/\ver<=(i:Int))/\Hid (Below w.heap.size w wr))
 case atStart=>exact ⟨0,0,[],rfl,rfl,Nat.zero_le _,HK1,⟨⟨by simp [KB],λp hp=>by cases hp⟩,Nat.zero_le _,by omega,by omega⟩,HB1⟩
 case round =>
  obtain ⟨i,ver,G,rfl,hg,HI,HK,HG,HB⟩:=hrel;generalize hw9:wr=W at *;clear hw9 HK1 HB1;by_cases hlt:i<n
  ·have hii:(i:Int)<(n:Int):=by omega
   have hiz:(0:Int)<=(i:Int):=by omega
   have hn6:n<=6000:=by have:=HH.out.2.2;omega
   have hwi:IntKind.i64.wrap ((i:Int)+1)=(i:Int)+1:=by rw [IntKind.wrap_i64];omega
   obtain ⟨L,hL⟩:∃ L,E[i]? = some L:=⟨E[i]'(by rw [HH.out.2.2.1];exact hlt),List.getElem?_eq_getElem _⟩
   obtain ⟨cb,off,p,l,kk,e,k0,hll,hrd,hno⟩:=(HH.out.2.1.below HB.out) i L hL;subst e;have hl6:l<=6000:=by
    have h1:=zK4 (List.mem_of_getElem? hL);have:=HH.out.2.2.2.1;omega
   have HD:Hid (L.length=l/\(∀ a ∈ L,a.t.size<=1000000000000000)/\wtE (E.take i)+l<=wtE (E.take (i+1))):=⟨hll,HH.out.2.2.2.2 L (List.mem_of_getElem? hL),by rw [<-hll];exact zNl hL⟩
   have hb2:=zAH (Below.refl _ W) (.cells #[] 50);have oE:(W.alloc (.cells #[] 50)).ownsRow W.heap.size 50 4 (.slice (some ⟨W.heap.size,0,none⟩) 0 0) 0 []:=⟨rfl,Or.inr ⟨W.heap.size,0,#[],rfl,Nat.le_refl _,(Go.MapKept.heap_alloc W _).1,Nat.le_refl _,by unfold maxLen;omega,rfl,rfl⟩⟩
   have HB2:Hid (Below w.heap.size w (W.alloc (.cells #[] 50))):=zAA HB.out hb2;have HK2:Hid (BK (W.alloc (.cells #[] 50)) bb mb w1.heap.size na nk [sS,sT] ver G):=HK.out.below hb2;have hrd2:=hrd.below hb2;have k2:=zAC hb2 k0;have hs2:W.heap.size<=(W.alloc (.cells #[] 50)).heap.size:=hb2.size;have HWW:Hid (w1.heap.size<=W.heap.size):=HK.out.lt.2.2;clear hL hrd hb2 k0;go_wp2_with (at_builtin;refine zHj rfl (.tmp 18) (.tmp 22) rfl (W.alloc (.cells #[] 50)) W.heap.size hs2 (.slice (some ⟨W.heap.size,0,none⟩) 0 0) rfl oE p l kk L HD.out.1 rfl hrd2 hno (by omega) ?_;intro v3 w3 o3 hg3)
   have hbW:Below W.heap.size W w3:=(Fr.new (Fr.of_below [] (zAH (Below.refl _ W) (.cells #[] 50))) (Fr.of_grown (S:=[W.heap.size]) hg3 (λk e=>by cases e;simp)) (λk hk=>Or.inr (by simp at hk;omega))).to_below (by simp);rw [<-HD.out.1] at o3;obtain ⟨a3,c3,rfl,hr3,ha3⟩:=zOb o3;rw [HD.out.1];have ED:=zLd bb mb w1.heap.size na nk [sS,sT] ver G a3 l c3 L w3 (HH.out.1.below (zAA HB.out hbW)) (HK.out.below hbW) hr3 HD.out.1 (by decide) HG.out.1 (by have:=HG.out.2.1;have:=zMr E i;have:=HH.out.2.2.2.1;omega) ⟨HG.out.2.2.1,by have:=HG.out.2.2.2;omega⟩ (λg o e=>by have:=ha3 g o e;have:=HK.out.lt;have:=HWW.out;omega) HD.out.2.1;have HB3:Hid (Below w.heap.size w w3):=zAA HB.out hbW;clear o3 hg3 hr3 ha3 hbW oE HB2 HK2 hrd2 k2 hs2 HK HB;go_wp2_with fail
   refine ED.mono ?_;rintro e w4 ⟨⟨c,ii,pp,rfl⟩,ver',G',hk4,fr4,g1,g2,g3,g4⟩;have HK4:Hid (BK w4 bb mb w1.heap.size na nk [sS,sT] ver' G'):=hk4;have HB4:Hid (Below w.heap.size w w4):=(Fr.new (Fr.of_below [] HB3.out) fr4 (λk hk=>Or.inr (by simp at hk;have:=HBM.out;omega))).to_below (by simp);have HG4:Hid (GOk 2 G'/\G'.length<=wtE (E.take (i+1))/\0<=ver'/\ver'<=((i+1:Nat):Int)):=⟨g1,by have:=HG.out.2.1;have:=HD.out.2.2;omega,g3,by have:=HG.out.2.2.2;omega⟩
   clear ED hk4 fr4 g1 g2 g3 g4 HG HB3;go_wp2_with fail
   go_roundg (n - (i+1))
   case rel=>exact ⟨i+1,ver',G',by simp,rfl,hlt,HK4,HG4,HB4⟩
   case measure=>omega
  ·have hii:¬ (i:Int)<(n:Int):=by omega
   have HE:Hid (MaQ 6000 w (.returned (.pointer (some ⟨bb,0,none⟩))) W):=⟨bb,mb,_,na,nk,ver,G,rfl,HK.out,HG.out.1,by have:=HG.out.2.1;have:=zMr E i;have:=HH.out.2.2.2.1;omega,HB.out⟩
   clear HK HG HB;go_wp2;go_ret;exact HE.out
open Go.RowKit
theorem zQr:(#[.int .i64 0,.int .i64 0,.int .i64 0,.string ⟨#[]⟩,.bool false,.int .i64 0]:Array Value).all (·.oneCell')=true:=all_oneCell_toArray (λv hv=>by simp at hv;rcases hv with rfl | rfl | rfl | rfl <;> rfl)
theorem zOc (w:World):CR 23 #[] w (.agg #[.int .i64 0,.int .i64 0,.int .i64 0,.string ⟨#[]⟩,.bool false,.int .i64 0]):=by
 go_enter func23,ntmps23;go_wp2;refine bodyPost_ret (v:=vlV Wt.v0) (by simp [results,results23,go_sem,vlV,vl6,Wt.v0]) rfl ⟨rfl,?_⟩;exact clA
theorem zIo (bb mb:Nat) (nv:Value) (ver:Int) (F:List (Wpl.Cl × Ct)) (x:Wpl.Cl) (w:World) (h:AtL w bb [nv,.int .i64 ver,.map (some mb)]) (hm:MB w mb F) (hs:(gtC x F).t.size<=9223372036854775807) (hk:knd (gtC x F).t ≠ 1) :
  CR 11 #[.pointer (some ⟨bb,0,none⟩),.agg #[.int .i64 x.s,.int .i64 x.r,.int .i64 x.c]] w (vlV Wt.v0):=by
 have hb0:=zAH (zAH (Below.refl _ w) (.cells #[.int .i64 x.s,.int .i64 x.r,.int .i64 x.c] 24)) (.cells zV0 38);have p:=AtL.f3 ((AtL.new0 w 24 [.int .i64 x.s,.int .i64 x.r,.int .i64 x.c]).alloc (.cells zV0 38));have q:AtL ((w.alloc (.cells #[.int .i64 x.s,.int .i64 x.r,.int .i64 x.c] 24)).alloc (.cells zV0 38)) (w.heap.size+1) (vl6 Wt.v0):=AtL.new1 w (.cells #[.int .i64 x.s,.int .i64 x.r,.int .i64 x.c] 24) 38 (vl6 Wt.v0);have KA:=zBa bb mb nv ver F x ((w.alloc (.cells #[.int .i64 x.s,.int .i64 x.r,.int .i64 x.c] 24)).alloc (.cells zV0 38)) (AtL.below hb0 h) (hm.below hb0) hs;obtain ⟨kd,hkd⟩:∃ kd,knd (gtC x F).t=kd:=⟨_,rfl⟩
 rw [hkd] at KA hk;have hk':¬ kd=1:=hk;clear h hm hs hk hkd;go_enter func11,ntmps11;go_upto_region 1 with fail
 generalize (w.alloc (.cells #[.int .i64 x.s,.int .i64 x.r,.int .i64 x.c] 24)).alloc (.cells zV0 38)=W0 at *;obtain ⟨p0,p1,p2⟩:=p;have HQ:Hid (AtL W0 (w.heap.size+1) (vl6 Wt.v0)):=q;have HB0:Hid (Below w.heap.size w W0):=hb0;clear q hb0;go_wp2_with fail
 refine KA.mono ?_;rintro e w1 ⟨rfl,hb1⟩;have HQ1:Hid (AtL w1 (w.heap.size+1) (vl6 Wt.v0)):=AtL.below hb1 HQ.out;have HB1:Hid (Below w.heap.size w w1):=zAA HB0.out hb1;clear KA hb1 HQ HB0 p0 p1 p2;go_wp2_with fail
 refine (zOc _).mono ?_;rintro e w2 ⟨rfl,hb2⟩;have q2:AtL w2 (w.heap.size+1) (vl6 Wt.v0):=AtL.below hb2 HQ1.out;have HB2:Hid (Below w.heap.size w w2):=zAA HB1.out hb2;have hth:World.there w2 (w.heap.size+1) 0 (vl6 Wt.v0).toArray.size:=q2.there;clear hb2 HQ1 HB1;have q3:=AtL.setAll q2 (vs:=vl6 Wt.v0) rfl;go_wp2_with ((with_reducible refine wpList_store_mid ?_ 38 (.tmp 4) (.tmp 9) ?_ (w.heap.size+1) 0 #[.int .i64 0,.int .i64 0,.int .i64 0,.string ⟨#[]⟩,.bool false,.int .i64 0] ?_ ?_ ?_ ?_ ?_ ?_);rfl;rfl;rfl;rfl;exact hth;kernel_rfl;exact zQr)
 (try simp only [Exit.inBlock,Exit.then])
 refine bodyPost_ret (zA2 (by rfl) _ _ (w.heap.size+1) (vl6 Wt.v0) _ (by rfl) q3.range underlying38 rfl (by kernel_rfl)) rfl ⟨rfl,zBJ HB2.out (Nat.le_succ _) _ 0⟩
theorem zJW {n:Nat} {G:List (Wpl.Cl × Ce)} (h:GOk n G) {x:Wpl.Cl} {e:Ce} (he:(x,e) ∈ G):gtE x G=e/\EOk n (x,e):=⟨zP9 h.1 he,h.2 _ he⟩
theorem zPQ (h:¬ t=⟨#[]⟩):knd t=if Wlx.begins [61] t.data.toList then 2 else 1:=by
 unfold knd;rw [if_neg h]
theorem zQP {x y:Wpl.Cl} (h1:x.s=y.s) (h2:x.r=y.r) (h3:x.c=y.c):x=y:=by
 obtain ⟨a,b,c⟩:=x;obtain ⟨a',b',c'⟩:=y;simp only at h1 h2 h3;rw [h1,h2,h3]
theorem zQZ (h:¬ t=⟨#[]⟩):0<t.size:=by
 rcases Nat.eq_zero_or_pos t.size with q | q
 ·exact absurd (ByteArray.ext (Array.ext' (List.eq_nil_of_length_eq_zero q))) h
 ·exact q
theorem zOY (h:0<t.size):t[0]=61 ↔ Wlx.begins [61] t.data.toList=true:=by
 rw [zBm];have e:t.data.toList.head? = some (t[0]'h):=by
  have hl:0<t.data.toList.length:=h;rw [List.head?_eq_getElem?,List.getElem?_eq_getElem hl];rfl
 rw [e];simp
theorem zRb (w:World):(binOp .eql 38 (.agg #[.int .i64 0,.int .i64 0,.int .i64 0,.string ⟨#[]⟩,.bool false,.int .i64 0]) (.agg #[.int .i64 0,.int .i64 0,.int .i64 0,.string ⟨#[]⟩,.bool false,.int .i64 0])).run prog w=.ok (.bool true) w:=by kernel_rfl
theorem zSA (w:World):(binOp .neq 38 (.agg #[.int .i64 0,.int .i64 0,.int .i64 0,.string ⟨#[]⟩,.bool false,.int .i64 0]) (.agg #[.int .i64 0,.int .i64 0,.int .i64 0,.string ⟨#[]⟩,.bool false,.int .i64 0])).run prog w=.ok (.bool false) w:=by kernel_rfl
theorem zJO (E:List (List Ch)) (av:Option Addr) (n cap:Nat) (c:Wpl.Cl) (w:World) (hE:BEnv w) (hr:RdE w av E) (hn:E.length=n) (hN:True->n<=1000000000000000) (hL:∀ L ∈ E,L.length<=1000000000000000/\∀ a ∈ L,a.t.size<=1000000000000000) :
  CR 3 #[.slice av n cap,.agg #[.int .i64 c.s,.int .i64 c.r,.int .i64 c.c]] w (.bool true):=by
 have hb0:=zAH (Below.refl _ w) (.cells #[.int .i64 c.s,.int .i64 c.r,.int .i64 c.c] 24);have p:=AtL.f3 (AtL.new0 w 24 [.int .i64 c.s,.int .i64 c.r,.int .i64 c.c]);have AB:=zQF (w.alloc (.cells #[.int .i64 c.s,.int .i64 c.r,.int .i64 c.c] 24)) (hE.below hb0);have HH:Hid (BEnv w/\RdE w av E/\E.length=n/\∀ L ∈ E,L.length<=1000000000000000/\∀ a ∈ L,a.t.size<=1000000000000000):=⟨hE,hr,hn,hL⟩
 have HB0:Hid (Below w.heap.size w (w.alloc (.cells #[.int .i64 c.s,.int .i64 c.r,.int .i64 c.c] 24))):=hb0;clear hE hr hn hL hb0;go_enter func3,ntmps3;go_upto_region 1 with fail
 generalize w.alloc (.cells #[.int .i64 c.s,.int .i64 c.r,.int .i64 c.c] 24)=W0 at *;have t3:zAt W0 w.heap.size (.int .i64 c.s) (.int .i64 c.r) (.int .i64 c.c):=p;clear p;go_wp2_with fail
 refine AB.mono ?_;rintro e w1 ⟨rfl,hb1⟩;have HB1:Hid (Below w.heap.size w w1):=zAA HB0.out hb1;replace t3:=zAG hb1 t3
 clear AB hb1 HB0;have MU:=zPb E av n cap w1 (HH.out.2.1.below HB1.out) HH.out.2.2.1 hN HH.out.2.2.2;go_wp2_with fail
 refine MU.mono ?_;rintro e w2 ⟨⟨b,rfl,hb⟩,rfl⟩;clear MU;cases b with
 | true =>
  go_wp2;go_ret;exact ⟨rfl,HB1.out⟩
 | false =>
  have HW:Hid (E.length+wtE E<=6000):=hb rfl;clear hb;have MA:=zPr E av n cap w1 (HH.out.1.below HB1.out) (HH.out.2.1.below HB1.out) HH.out.2.2.1 HW.out (λL hL=>(HH.out.2.2.2 L hL).2);go_wp2_with fail
  refine MA.mono ?_;rintro e w3 ⟨bb,mb,lo,na,nk,ver,G,rfl,hk,hG,hGl,hb3⟩;have HK:Hid (BK w3 bb mb lo na nk [sS,sT] ver G):=hk;have HG:Hid (GOk 2 G/\G.length<=6000):=⟨hG,hGl⟩
  have HB3:Hid (Below w.heap.size w w3):=zAA HB1.out hb3;have HT3:Hid (zAt w3 w.heap.size (.int .i64 c.s) (.int .i64 c.r) (.int .i64 c.c)):=zAG hb3 t3;have HEN:Hid (NmAt w):=HH.out.1.2.1;clear MA hk hG hGl hb3 HB1 t3 HW HH;go_upto_region 7 with fail
  go_loopg [6] 2 (λgk x wr=>∃ s:Int,x=.int .i64 s/\(0<=s/\s<=2/\gk=(2 - s).toNat)/\Hid (Below w3.heap.size w3 wr))
  case atStart=>exact ⟨0,rfl,⟨by omega,by omega,rfl⟩,Below.refl _ _⟩
  case round =>
   obtain ⟨s,rfl,hs,HB⟩:=hrel;generalize hw9:wr=W at *;clear hw9;have HKW:Hid (BK W bb mb lo na nk [sS,sT] ver G):=HK.out.below HB.out;have HTW:Hid (zAt W w.heap.size (.int .i64 c.s) (.int .i64 c.r) (.int .i64 c.c)):=zAG HB.out HT3.out;have HBW:Hid (Below w.heap.size w W):=zAA HB3.out HB.out;by_cases hlt:s<2
   ·have hs2:IntKind.i64.wrap (s+1)=s+1:=by rw [IntKind.wrap_i64];omega
    obtain ⟨F,mF,fF⟩:=HKW.out.mp;have hKF:KB F:=by
     unfold KB;rw [fF.keys];exact HG.out.1.1
    have CE:=zHi bb mb (.slice na 2 nk) ver s F W HKW.out.hd mF hKF (λ_=>by rw [fF.len];have:=HG.out.2;omega);have HFG:Hid (∀ y f,(y,f) ∈ F->∃ e,(y,e) ∈ G):=λy f hf=>by
     have:y ∈ F.map (λp=>p.1):=List.mem_map.2 ⟨_,hf,rfl⟩;rw [fF.keys] at this;obtain ⟨q,hq,e⟩:=List.mem_map.1 this;exact ⟨q.2,by rw [<-e];exact hq⟩
    clear mF fF hKF;go_wp2_with fail
    refine CE.mono ?_;rintro e w4 ⟨⟨T,ta,tc,hT1,hT2,hT3,rfl,hT4⟩,hb4⟩;have HB4:Hid (Below w3.heap.size w3 w4):=zAA HB.out hb4;obtain ⟨m,hm⟩:∃ m,T.length=m:=⟨_,rfl⟩
    have HS:Hid (∀ (i:Nat) (x:Wpl.Cl),(Wb.srt T)[i]? = some x->x.s=s/\∃ e,(x,e) ∈ G):=λi x hx=>by
     have hx2:=(Wb.srt_perm T).mem_iff.1 (List.mem_of_getElem? hx);obtain ⟨h1,f,h2⟩:=hT2 x hx2;exact ⟨h1,HFG.out x f h2⟩
    have HA:Hid (∀ (i:Nat) (x y:Wpl.Cl),(Wb.srt T)[i]? = some x->(Wb.srt T)[i+1]? = some y->x.r<y.r \/ x.r=y.r/\x.c<y.c):=λi x y hx hy=>by
     have hnd:(Wb.srt T).Nodup:=(Wb.srt_perm T).nodup_iff.2 hT1;obtain ⟨hi,ex⟩:=List.getElem?_eq_some_iff.1 hx;obtain ⟨hj,ey⟩:=List.getElem?_eq_some_iff.1 hy;have hpw:=List.pairwise_iff_getElem.1 (Wb.srt_pw T) i (i+1) hi hj (Nat.lt_succ_self _);rw [ex,ey,Wb.ltC_no] at hpw;have hne:x ≠ y:=λe=>by
      rw [<-ex,<-ey] at e;have:=(List.getElem_inj hnd).1 e;omega
     have e1:=(HS.out i x hx).1;have e2:=(HS.out (i+1) y hy).1;have:¬ (x.r=y.r/\x.c=y.c):=λh=>hne (zQP (e1.trans e2.symm) h.1 h.2)
     omega
    have HM:Hid ((Wb.srt T).length=m/\m<=1000000):=⟨by rw [Wb.srt_len,hm],by omega⟩
    have HR4:Hid (RdX w4 ta (Wb.srt T)):=hT4;rw [hm];clear CE hb4 hT1 hT2 hT3 hT4 hm HFG HKW HTW HBW HB;generalize Wb.srt T=X at *;go_upto_region 11 with fail
    go_loopg [8] m (λgk x wr=>∃ i:Nat,x=.int .i64 (i:Int)/\gk=m - i/\Hid (i<=m)/\Hid (Below w4.heap.size w4 wr))
    case atStart=>exact ⟨0,rfl,rfl,Nat.zero_le _,Below.refl _ _⟩
    case round =>
     obtain ⟨i,rfl,hg,HI,HBi⟩:=hrel;generalize hw9:wr=W5 at *;clear hw9;by_cases hil:i<m
     ·have hii:(i:Int)<(m:Int):=by omega
      have hiz:(0:Int)<=(i:Int):=by omega
      have hwi:IntKind.i64.wrap ((i:Int)+1)=(i:Int)+1:=by have:=HM.out.2;rw [IntKind.wrap_i64];omega
      obtain ⟨x,hx⟩:∃ x,X[i]? = some x:=⟨X[i]'(by rw [HM.out.1];exact hil),List.getElem?_eq_getElem _⟩
      obtain ⟨hxs,ce,hce⟩:=HS.out i x hx;subst hxs;obtain ⟨hge,ok1,ok2,ok3,ok4,ok5⟩:=zJW HG.out.1 hce;have HK5:Hid (BK W5 bb mb lo na nk [sS,sT] ver G):=HK.out.below (zAA HB4.out HBi.out);obtain ⟨g,eg,hrow⟩:=HR4.out.below HBi.out i x hx;subst eg;obtain ⟨tt,htt⟩:∃ tt,ce.t=tt:=⟨_,rfl⟩
      simp only at ok1 ok2 ok3 ok4 ok5;rw [htt] at ok1 ok2 ok3;obtain ⟨bg,hbg⟩:∃ b,Wlx.begins [61] tt.data.toList=b:=⟨_,rfl⟩
      have HKD:Hid (knd tt=if bg then 2 else 1):=by show _=_;rw [zPQ ok1,hbg]
      have HOK:Hid (gtE x G=ce/\ce.t=tt/\(0<ce.c.length ↔ bg=true)/\tt.size<=1000000000000000/\ce.c.length<=1000000/\∀ q ∈ ce.c,q.2.length<=1000000):=⟨hge,htt,by rw [ok2,hbg],ok3,ok4,ok5⟩
      have x1:=zIB ok1;have h0z:0<tt.size:=zQZ ok1;have HX0:Hid ((tt[0]=61) ↔ bg=true):=by rw [<-hbg];exact zOY h0z
      obtain ⟨F5,m5,f5⟩:=HK5.out.mp;have TX:=zCJ bb mb (.slice na 2 nk) ver F5 x W5 HK5.out.hd m5;rw [(f5.get x).1.1,hge,htt] at TX;have k0:W5.cell? ⟨g,i * 3,none⟩=some (.int .i64 x.s):=hrow 0 _ rfl;have k1:W5.cell? ⟨g,i * 3+1,none⟩=some (.int .i64 x.r):=hrow 1 _ rfl;have k2:W5.cell? ⟨g,i * 3+2,none⟩=some (.int .i64 x.c):=hrow 2 _ rfl;clear m5 f5 hrow ok1 ok2 ok3 ok4 ok5 hce hge htt hbg;go_wp2_with fail
      refine TX.mono ?_;rintro e w6 ⟨rfl,hb6⟩;have HK6:Hid (BK w6 bb mb lo na nk [sS,sT] ver G):=HK5.out.below hb6;have HB6:Hid (Below w4.heap.size w4 w6):=zAA HBi.out hb6;replace k0:=zAC hb6 k0
      replace k1:=zAC hb6 k1
      replace k2:=zAC hb6 k2
      obtain ⟨F6,m6,f6⟩:=HK6.out.mp;have KI:=zBa bb mb (.slice na 2 nk) ver F6 x w6 HK6.out.hd m6 (by rw [(f6.get x).1.1,HOK.out.1,HOK.out.2.1];have:=HOK.out.2.2.2.1;omega);rw [(f6.get x).1.1,HOK.out.1,HOK.out.2.1,HKD.out] at KI;clear TX hb6 m6 f6 HK5 HBi;go_wp2_with fail
      refine KI.mono ?_;rintro e w7 ⟨rfl,hb7⟩;have HK7:Hid (BK w7 bb mb lo na nk [sS,sT] ver G):=HK6.out.below hb7;have HB7:Hid (Below w4.heap.size w4 w7):=zAA HB6.out hb7;replace k0:=zAC hb7 k0
      replace k1:=zAC hb7 k1
      replace k2:=zAC hb7 k2
      obtain ⟨F7,m7,f7⟩:=HK7.out.mp;have hcd:=(f7.get x).1.2;rw [HOK.out.1] at hcd;have CO:=zEg bb mb lo (.slice na 2 nk) ver F7 x ce.c w7 HK7.out.hd m7 hcd (λ_=>HOK.out.2.2.2.2.1) HOK.out.2.2.2.2.2;obtain ⟨cl,hcl⟩:∃ n,ce.c.length=n:=⟨_,rfl⟩
      rw [hcl] at CO;have HCL:Hid (0<cl ↔ bg=true):=by rw [<-hcl];exact HOK.out.2.2.1
      have HCN:Hid (∀ W,Below w7.heap.size w7 W->bg=true->Calls prog 11 #[.pointer (some ⟨bb,0,none⟩),.agg #[.int .i64 x.s,.int .i64 x.r,.int .i64 x.c]] W λe w'=>e=.returned (.agg zV0)/\Below W.heap.size W w'):=λW hb hg=>by
       obtain ⟨F8,m8,f8⟩:=(HK7.out.below hb).mp;exact zIo bb mb (.slice na 2 nk) ver F8 x W (HK7.out.below hb).hd m8 (by rw [(f8.get x).1.1,HOK.out.1,HOK.out.2.1];have:=HOK.out.2.2.2.1;omega) (by rw [(f8.get x).1.1,HOK.out.1,HOK.out.2.1,HKD.out,hg];decide)
      clear KI hb7 m7 f7 HK6 HB6 hcd hcl;cases bg with
      | true =>
       have hb61:tt[0]=61:=HX0.out.2 rfl;have hn61:((tt[0]).toNat:Int)=61:=by rw [hb61];rfl
       have hcl0:(0:Int)<(cl:Int):=by have:=HCL.out.2 rfl;omega
       clear HX0 HKD HCL hb61;go_upto_region 17 with fail
       go_wp2_with fail
       refine CO.mono ?_;rintro e w8 ⟨⟨ca,cc,rfl⟩,hb8⟩;have CS:=HCN.out w8 hb8 (by first | rfl | trivial);have ev:=λw=>zSA w
       have HB8:Hid (Below w4.heap.size w4 w8):=zAA HB7.out hb8;replace k0:=zAC hb8 k0
       replace k1:=zAC hb8 k1
       replace k2:=zAC hb8 k2
       clear CO hb8 HCN HB7 HK7;go_wp2_with fail
       refine CS.mono ?_;rintro e w9 ⟨rfl,hb9⟩;have HB9:Hid (Below w4.heap.size w4 w9):=zAA HB8.out hb9;replace k0:=zAC hb9 k0
       replace k1:=zAC hb9 k1
       replace k2:=zAC hb9 k2
       clear CS hb9 HB8;go_upto_region 19 with fail
       generalize w9=W9 at *;have hRD:=HR4.out.below HB9.out;by_cases hi0:0<i
       ·have hi1:(0:Int)<(i:Int):=by omega
        obtain ⟨y,hy⟩:∃ y,X[i - 1]? = some y:=⟨X[i - 1]'(by rw [HM.out.1];omega),List.getElem?_eq_getElem _⟩
        obtain ⟨g',eg',hrow'⟩:=hRD (i - 1) y hy;have ege:g'=g:=by simpa using eg'.symm
        subst ege;have hcmp:=HA.out (i - 1) y x hy (by rw [show i - 1+1=i from by omega];exact hx);have hwm:IntKind.i64.wrap ((i:Int) - 1)=(i:Int) - 1:=by have:=HM.out.2;rw [IntKind.wrap_i64];omega
        have hm0:(0:Int)<=(i:Int) - 1:=by omega
        have hm1:(i:Int) - 1<(m:Int):=by omega
        have htn:((i:Int) - 1).toNat=i - 1:=by omega
        have y1:W9.cell? ⟨g',(i - 1) * 3+1,none⟩=some (.int .i64 y.r):=hrow' 1 _ rfl;have y2:W9.cell? ⟨g',(i - 1) * 3+2,none⟩=some (.int .i64 y.c):=hrow' 2 _ rfl;clear hrow' hRD hy eg';by_cases hrr:y.r<x.r
        ·have q1:decide (x.r<y.r)=false:=by simp;omega
         have q2:(x.r == y.r)=false:=by simp;omega
         have q3:decide (x.r=y.r)=false:=by simp;omega
         clear hcmp hrr;go_quiet (fail)
         go_wp2_with fail
         go_roundg (m - (i+1))
         case rel=>exact ⟨i+1,by simp,rfl,hil,zAX HB9.out _⟩
         case measure=>omega
        ·have hre:x.r=y.r:=by omega
         have q1:decide (x.r<y.r)=false:=by simp;omega
         have q2:(x.r == y.r)=true:=by simp;omega
         have q3:decide (x.r=y.r)=true:=by simp;omega
         have q4:decide (x.c<=y.c)=false:=by simp;omega
         clear hcmp hrr hre;go_quiet (fail)
         go_wp2_with fail
         go_roundg (m - (i+1))
         case rel=>exact ⟨i+1,by simp,rfl,hil,zAX HB9.out _⟩
         case measure=>omega
       ·have hi1:¬ (0:Int)<(i:Int):=by omega
        have hi2:decide ((0:Int)<(i:Int))=false:=by simpa using hi1
        clear hRD;go_quiet (fail)
        go_wp2_with fail
        go_roundg (m - (i+1))
        case rel=>exact ⟨i+1,by simp,rfl,hil,zAX HB9.out _⟩
        case measure=>omega
      | false =>
       have hb61:¬ tt[0]=61:=λh=>by have:=HX0.out.1 h;cases this
       have hn61:¬ ((tt[0]).toNat:Int)=61:=λh=>hb61 (by
        have h2:(tt[0]).toNat=61:=by omega
        exact UInt8.toNat_inj.1 h2)
       have hcl0:¬ (0:Int)<(cl:Int):=λh=>by have:=HCL.out.1 (by omega);cases this
       clear HX0 HKD HCL hb61;go_upto_region 17 with fail
       go_wp2_with fail
       refine CO.mono ?_;rintro e w8 ⟨⟨ca,cc,rfl⟩,hb8⟩;have HB9:Hid (Below w4.heap.size w4 w8):=zAA HB7.out hb8;replace k0:=zAC hb8 k0
       replace k1:=zAC hb8 k1
       replace k2:=zAC hb8 k2
       clear CO hb8 HCN HB7 HK7;go_upto_region 19 with fail
       generalize w8=W9 at *;have hRD:=HR4.out.below HB9.out;by_cases hi0:0<i
       ·have hi1:(0:Int)<(i:Int):=by omega
        obtain ⟨y,hy⟩:∃ y,X[i - 1]? = some y:=⟨X[i - 1]'(by rw [HM.out.1];omega),List.getElem?_eq_getElem _⟩
        obtain ⟨g',eg',hrow'⟩:=hRD (i - 1) y hy;have ege:g'=g:=by simpa using eg'.symm
        subst ege;have hcmp:=HA.out (i - 1) y x hy (by rw [show i - 1+1=i from by omega];exact hx);have hwm:IntKind.i64.wrap ((i:Int) - 1)=(i:Int) - 1:=by have:=HM.out.2;rw [IntKind.wrap_i64];omega
        have hm0:(0:Int)<=(i:Int) - 1:=by omega
        have hm1:(i:Int) - 1<(m:Int):=by omega
        have htn:((i:Int) - 1).toNat=i - 1:=by omega
        have y1:W9.cell? ⟨g',(i - 1) * 3+1,none⟩=some (.int .i64 y.r):=hrow' 1 _ rfl;have y2:W9.cell? ⟨g',(i - 1) * 3+2,none⟩=some (.int .i64 y.c):=hrow' 2 _ rfl;clear hrow' hRD hy eg';by_cases hrr:y.r<x.r
        ·have q1:decide (x.r<y.r)=false:=by simp;omega
         have q2:(x.r == y.r)=false:=by simp;omega
         have q3:decide (x.r=y.r)=false:=by simp;omega
         clear hcmp hrr;go_quiet (fail)
         go_wp2_with fail
         go_roundg (m - (i+1))
         case rel=>exact ⟨i+1,by simp,rfl,hil,zAX HB9.out _⟩
         case measure=>omega
        ·have hre:x.r=y.r:=by omega
         have q1:decide (x.r<y.r)=false:=by simp;omega
         have q2:(x.r == y.r)=true:=by simp;omega
         have q3:decide (x.r=y.r)=true:=by simp;omega
         have q4:decide (x.c<=y.c)=false:=by simp;omega
         clear hcmp hrr hre;go_quiet (fail)
         go_wp2_with fail
         go_roundg (m - (i+1))
         case rel=>exact ⟨i+1,by simp,rfl,hil,zAX HB9.out _⟩
         case measure=>omega
       ·have hi1:¬ (0:Int)<(i:Int):=by omega
        have hi2:decide ((0:Int)<(i:Int))=false:=by simpa using hi1
        clear hRD;go_quiet (fail)
        go_wp2_with fail
        go_roundg (m - (i+1))
        case rel=>exact ⟨i+1,by simp,rfl,hil,zAX HB9.out _⟩
        case measure=>omega
     ·have hii:¬ (i:Int)<(m:Int):=by omega
      have HBs:Hid (Below w3.heap.size w3 W5):=zAA HB4.out HBi.out;clear HBi HB4;go_wp2_with fail
      go_roundg (2 - (s+1)).toNat
      case rel=>exact ⟨s+1,by simp,⟨by omega,by omega,rfl⟩,HBs⟩
      case measure=>omega
   ·clear hs HB;obtain ⟨F,mF,tF⟩:=HKW.out.mp;have hsz:=zKe HG.out.1 c;have KI:=zBa bb mb (.slice na 2 nk) ver F c W HKW.out.hd mF (by rw [(tF.get c).1.1];exact hsz);rw [(tF.get c).1.1] at KI;have HX:Hid (gtE c G=ce0 \/ (c,gtE c G) ∈ G):=zGv;obtain ⟨t0,t1,t2⟩:=HTW.out;clear mF tF hsz;rcases HX.out with he | he
    ·rw [he,show knd ce0.t=0 from rfl] at KI;go_wp2_with fail
     refine KI.mono ?_;rintro e w4 ⟨rfl,hb4⟩;have HK4:Hid (BK w4 bb mb lo na nk [sS,sT] ver G):=HKW.out.below hb4;have HB4:Hid (Below w.heap.size w w4):=zAA HBW.out hb4;obtain ⟨t0,t1,t2⟩:=zAG hb4 HTW.out;obtain ⟨F4,m4,f4⟩:=HK4.out.mp;have TX:=zCJ bb mb (.slice na 2 nk) ver F4 c w4 HK4.out.hd m4;rw [(f4.get c).1.1,he] at TX;have HT4:Hid (zAt w4 w.heap.size (.int .i64 c.s) (.int .i64 c.r) (.int .i64 c.c)):=⟨t0,t1,t2⟩
     clear KI hb4 m4 f4 HKW HBW HTW;go_wp2_with fail
     refine TX.mono ?_;rintro e w5 ⟨rfl,hb5⟩;have HK5:Hid (BK w5 bb mb lo na nk [sS,sT] ver G):=HK4.out.below hb5;have HB5:Hid (Below w.heap.size w w5):=zAA HB4.out hb5;have HT5:Hid (zAt w5 w.heap.size (.int .i64 c.s) (.int .i64 c.r) (.int .i64 c.c)):=zAG hb5 HT4.out;obtain ⟨t0,t1,t2⟩:=HT5.out;obtain ⟨F5,m5,f5⟩:=HK5.out.mp;have hcd:=(f5.get c).1.2;rw [he] at hcd;have CO:=zEg bb mb lo (.slice na 2 nk) ver F5 c [] w5 HK5.out.hd m5 hcd (λ_=>by decide) (λp hp=>by cases hp);clear TX hb5 m5 f5 HK4 HB4 HT4 hcd;go_wp2_with fail
     refine CO.mono ?_;rintro e w6 ⟨⟨ca,cc,rfl⟩,hb6⟩;have HK6:Hid (BK w6 bb mb lo na nk [sS,sT] ver G):=HK5.out.below hb6;have HB6:Hid (Below w.heap.size w w6):=zAA HB5.out hb6;have HT6:Hid (zAt w6 w.heap.size (.int .i64 c.s) (.int .i64 c.r) (.int .i64 c.c)):=zAG hb6 HT5.out;obtain ⟨t0,t1,t2⟩:=HT6.out;obtain ⟨F6,m6,f6⟩:=HK6.out.mp;have hcd:=(f6.get c).1.2;rw [he] at hcd;have US:=zNT bb mb lo (.slice na 2 nk) ver F6 c [] w6 HK6.out.hd m6 hcd (HEN.out.below HB6.out) (by decide) (λp hp=>by cases hp) (λp hp=>by cases hp);rw [show (usA []).length=0 from by kernel_rfl] at US;clear CO hb6 m6 f6 HK5 HB5 HT5 hcd;go_wp2_with fail
     refine US.mono ?_;rintro e w7 ⟨⟨ua,uc,rfl⟩,hb7⟩;have HK7:Hid (BK w7 bb mb lo na nk [sS,sT] ver G):=HK6.out.below hb7;have HB7:Hid (Below w.heap.size w w7):=zAA HB6.out hb7;have HT7:Hid (zAt w7 w.heap.size (.int .i64 c.s) (.int .i64 c.r) (.int .i64 c.c)):=zAG hb7 HT6.out;obtain ⟨t0,t1,t2⟩:=HT7.out;obtain ⟨F7,m7,f7⟩:=HK7.out.mp;have CS:Calls prog 11 #[.pointer (some ⟨bb,0,none⟩),.agg #[.int .i64 c.s,.int .i64 c.r,.int .i64 c.c]] w7 λe w'=>e=.returned (.agg zV0)/\Below w7.heap.size w7 w':=zIo bb mb (.slice na 2 nk) ver F7 c w7 HK7.out.hd m7 (by rw [(f7.get c).1.1,he];exact Nat.zero_le _) (by rw [(f7.get c).1.1,he];decide)
     have ev:=λw=>zRb w
     clear US hb7 m7 f7 HK6 HB6 HT6;go_wp2_with fail
     refine CS.mono ?_;rintro e w8 ⟨rfl,hb8⟩;have HB8:Hid (Below w.heap.size w w8):=zAA HB7.out hb8;clear CS hb8;go_wp2;go_ret;exact ⟨rfl,HB8.out⟩
    ·obtain ⟨q1,q2⟩:=zJW HG.out.1 he;obtain ⟨kd,hkd⟩:∃ kd,knd (gtE c G).t=kd:=⟨_,rfl⟩
     have hk0:¬ kd=0:=λe=>q2.1 (knd_mt.1 (by rw [<-e];exact hkd))
     have hk1:(kd == 0)=false:=by simpa using hk0
     rw [hkd] at KI;have x1:=zIB q2.1;obtain ⟨tt,htt⟩:∃ tt,(gtE c G).t=tt:=⟨_,rfl⟩
     have HTT:Hid ((gtE c G).t=tt):=htt;have x2:(tt.toList == [])=false:=by rw [<-htt];exact x1
     clear q1 q2 hkd he x1 htt;go_wp2_with fail
     refine KI.mono ?_;rintro e w4 ⟨rfl,hb4⟩;have HK4:Hid (BK w4 bb mb lo na nk [sS,sT] ver G):=HKW.out.below hb4;have HB4:Hid (Below w.heap.size w w4):=zAA HBW.out hb4;obtain ⟨t0,t1,t2⟩:=zAG hb4 HTW.out;obtain ⟨F4,m4,f4⟩:=HK4.out.mp;have TX:=zCJ bb mb (.slice na 2 nk) ver F4 c w4 HK4.out.hd m4;rw [(f4.get c).1.1,HTT.out] at TX;clear KI hb4 m4 f4 HKW HBW HTW HTT;go_wp2_with fail
     refine TX.mono ?_;rintro e w5 ⟨rfl,hb5⟩;have HB5:Hid (Below w.heap.size w w5):=zAA HB4.out hb5;clear TX hb5;go_wp2;go_ret;exact ⟨rfl,HB5.out⟩
open Go.ChangeShapes Go.WideShapes Go.ChangeAt Go.RowKit Go.Joins Go.Deep
theorem zPN:prog.cellsOf 24=3:=by kernel_rfl
theorem zRp:prog.cellsOf 50=4:=by kernel_rfl
theorem zRC:prog.cellsOf 54=1:=by kernel_rfl
theorem zNs:prog.cellsOf 3=1:=by kernel_rfl
theorem zQo:prog.cellsOf 9=1:=by kernel_rfl
theorem zQc:prog.bytesOf 50=40:=by kernel_rfl
theorem zP6:prog.bytesOf 54=24:=by kernel_rfl
section
variable {H:Type} {enc:TypeId × Value->H} {w:World} {base:Nat} {spare:Nat->Bool} {held:Bool}
theorem zMG {f0 f1 f2:Field} (he:prog.underlying 24=some (.struct #[f0,f1,f2])) (o0:f0.offset=0) (t0:f0.type=3) (o1:f1.offset=1) (t1:f1.type=3) (o2:f2.offset=2) (t2:f2.type=3) {fuel:Nat} {c0 c1 c2:Value} {x:DataW H × List MemPlace}
  (h:DataW.trod enc prog w base spare held fuel 24 [c0,c1,c2]=some x):∃ y:Wpl.Cl,[c0,c1,c2]=[Value.int .i64 y.s,.int .i64 y.r,.int .i64 y.c]:=by
 obtain ⟨xs,q,_,hD,_,hxl,hg⟩:=DataW.trod_struct he h;have hxl:xs.length=3:=hxl;have g0:=hg 0 f0 rfl;rw [o0,t0,zNs] at g0;have g1:=hg 1 f1 rfl;rw [o1,t1,zNs] at g1;have g2:=hg 2 f2 rfl;rw [o2,t2,zNs] at g2;match xs,hxl with
 | [x0,x1,x2],_ =>
  simp only [List.drop_zero,List.take_succ_cons,List.take_zero,List.drop_succ_cons,List.getElem?_cons_zero,List.getElem?_cons_succ] at g0 g1 g2;obtain ⟨n0,e0,_,_⟩:=DataW.trod_int underlying3 g0;obtain ⟨n1,e1,_,_⟩:=DataW.trod_int underlying3 g1;obtain ⟨n2,e2,_,_⟩:=DataW.trod_int underlying3 g2;simp only [List.cons.injEq,and_true] at e0 e1 e2;exact ⟨⟨n0,n1,n2⟩,by rw [e0,e1,e2]⟩
theorem zMe {f0 f1:Field} (he:prog.underlying 50=some (.struct #[f0,f1])) (o0:f0.offset=0) (t0:f0.type=24) (o1:f1.offset=3) (t1:f1.type=9) {fuel:Nat} {cs:List Value} (hl:cs.length=4) {x:DataW H × List MemPlace}
  (h:DataW.trod enc prog w base spare held fuel 50 cs=some x):∃ y:Ch,cs=chL y/\y.t.size ∈ x.1.weights prog 50:=by
 match cs,hl with
 | [a0,a1,a2,a3],_ =>
  obtain ⟨xs,q,_,hD,_,hxl,hg⟩:=DataW.trod_struct he h;have hxl:xs.length=2:=hxl;have g0:=hg 0 f0 rfl;rw [o0,t0,zPN] at g0;have g1:=hg 1 f1 rfl;rw [o1,t1,zQo] at g1;match xs,hxl with
  | [x0,x1],_ =>
   simp only [List.drop_zero,List.take_succ_cons,List.take_zero,List.drop_succ_cons,List.getElem?_cons_zero,List.getElem?_cons_succ] at g0 g1;obtain ⟨ce,e0⟩:=zMG underlying24 rfl rfl rfl rfl rfl rfl g0;obtain ⟨s,e1,ex,_⟩:=DataW.trod_string underlying9 g1;simp only [List.cons.injEq,and_true] at e0 e1;obtain ⟨p0,p1,p2⟩:=e0;refine ⟨⟨ce,s⟩,by rw [p0,p1,p2,e1];rfl,?_⟩;rw [hD];simp only [List.map_cons,List.map_nil,DataW.weights,he,DataW.weightsEach,List.mem_append,t1];have e9:x1.1=.lit (.string s.data.toList):=congrArg Prod.fst ex;rw [e9];simp only [DataW.weights,List.mem_cons];exact Or.inr (Or.inl (Or.inl rfl))
theorem zNO {α:Type} [Inhabited α] {m:Nat} {p:Nat->α->Prop} (h:∀ i,i<m->∃ v,p i v):∃ G:Nat->α,∀ i,i<m->p i (G i):=by
 classical
 refine ⟨λi=>if hi:i<m then Classical.choose (h i hi) else default,λi hi=>?_⟩;dsimp only;rw [dif_pos hi];exact Classical.choose_spec (h i hi)
theorem zC2 (e:TypeId):∀ (l:List (DataW H)) (x:DataW H),x ∈ l->∀ n ∈ x.weights prog e,n ∈ DataW.weightsAll prog e l:=by
 intro l;induction l with
 | nil=>intro x hx;cases hx
 | cons y r ih =>
  intro x hx n hn;simp only [DataW.weightsAll,List.mem_append];rcases List.mem_cons.1 hx with rfl | hx
  ·exact Or.inl hn
  ·exact Or.inr (ih x hx n hn)
abbrev zRu:Inhabited Ch:=⟨⟨⟨0,0,0⟩,⟨#[]⟩⟩⟩
theorem zJ4 {fuel:Nat} {c:Value} {x:DataW H × List MemPlace} (h:DataW.trod enc prog w 0 (λ_=>true) true fuel 54 [c]=some x) :
  ∃ (p:Option Addr) (m k:Nat) (L:List Ch),c=.slice p m k/\L.length=m/\RdH w p L/\(p=none->m=0/\k=0)/\(m=0 \/ ∃ n ∈ x.1.weights prog 54,m<=n)/\∀ a ∈ L,a.t.size ∈ x.1.weights prog 54:=by
 rcases open_slice underlying54 h with ⟨hcs,hx⟩ | ⟨a,len,cap,m,n,D,Pl,hcs,hb,hl,hm,hmm,hx,hall⟩
 ·simp only [List.cons.injEq,and_true] at hcs;exact ⟨none,0,0,[],hcs,rfl,(λi a ha=>by simp at ha),λ_=>⟨rfl,rfl⟩,Or.inl rfl,λa ha=>by cases ha⟩
 ·simp only [List.cons.injEq,and_true] at hcs;simp only [if_true] at hmm;subst hmm;have each:∀ i,i<m->∃ y:Ch,(∀ j u,(chL y)[j]? = some u->w.cell? (a.add (i * 4+j))=some u)/\y.t.size ∈ (D i).weights prog 50:=by
   intro i hi;obtain ⟨cs',h1,h2⟩:=hall i hi;rw [zRp] at h1;obtain ⟨_,hlen,hcell⟩:=World.cells?_some h1;obtain ⟨y,rfl,hwt⟩:=zMe underlying50 rfl rfl rfl rfl hlen h2;refine ⟨y,λj u hu=>?_,hwt⟩;have hj:j<4:=by
    have:=(List.getElem?_eq_some_iff.1 hu).1;rw [hlen] at this;exact this
   have:=hcell j hj;rw [add_add] at this;rw [this,hu]
  letI:=zRu
  obtain ⟨G,hG⟩:=zNO each;have hlen:((List.range len).map G).length=len:=by simp
  have hxw:∀ i,i<len->∀ n ∈ (D i).weights prog 50,n ∈ x.1.weights prog 54:=λi hi n hn=>by
   rw [hx];simp only [DataW.weights,underlying54,List.mem_cons,List.mem_append];exact Or.inr (Or.inl (zC2 _ _ (D i) (List.mem_map.2 ⟨i,by simpa using hi,rfl⟩) _ hn))
  refine ⟨some a,len,m,(List.range len).map G,hcs,hlen,λi y hy=>?_,(λe=>by cases e),Or.inr ⟨(len+(m - len)) * 40,?_,by omega⟩,λy hy=>?_⟩
  ·obtain ⟨hi,e⟩:=List.getElem?_eq_some_iff.1 hy;rw [hlen] at hi;have eG:G i=y:=by simpa using e
   have s1:(a.add 0).spot=none:=World.cell?_spot ((hG 0 (by omega)).1 0 _ rfl);obtain ⟨b,off,spot⟩:=a;obtain rfl:spot=none:=s1;refine ⟨b,off,rfl,λj u hu=>?_⟩;have:=(hG i (by omega)).1 j u (by rw [eG];exact hu);rw [add_plain] at this;rw [Nat.add_assoc];exact this
  ·rw [hx];simp [DataW.weights,underlying54,zQc]
  ·obtain ⟨i,hi,rfl⟩:=List.mem_map.1 hy;have hi:=List.mem_range.1 hi;exact hxw i hi _ (hG i (by omega)).2
abbrev zQp:Inhabited (List Ch):=⟨[]⟩
theorem zJl {W:World} {r:Reach} {b0:Nat} {v:Value} {d:DataW H} {p:List MemPlace}
  (hv:Value.okWide prog W r b0 22 v) (h:DataW.Trod enc prog W 0 (λ_=>true) true 22 v d p) :
  ∃ (E:List (List Ch)) (av:Option Addr) (n cap:Nat),v=.slice av n cap/\RdE W av E/\E.length=n /\
   ∀ (ts0:List TypeId) (ds:List (DataW H)) (j:Nat),(DataW.weightsEach prog ts0 ds).all (· <= reachBytes)=true->ts0[j]? = some 22->ds[j]? = some d->n<=reachBytes/\∀ L ∈ E,L.length<=reachBytes/\∀ a ∈ L,a.t.size<=reachBytes:=by
 obtain ⟨a0,len,cap,rfl⟩:=okWide_slice underlying22 hv;obtain ⟨fuel,hg⟩:=h;rcases open_slice underlying22 hg with ⟨hcs,hx⟩ | ⟨a,len',cap',m,n,D,Pl,hcs,hb,hl,hm,hmm,hx,hall⟩
 ·simp [Value.cells] at hcs;obtain ⟨rfl,rfl,rfl⟩:=hcs;exact ⟨[],none,0,0,rfl,(λi a ha=>by simp at ha),rfl,λ_ _ _ _ _ _=>⟨by simp,λx hx=>by cases hx⟩⟩
 ·simp [Value.cells] at hcs;obtain ⟨rfl,rfl,rfl⟩:=hcs;simp only [if_true] at hmm;subst hmm;have each:∀ i,i<m->∃ L:List Ch,(∃ p mm k,W.cell? (a.add i)=some (.slice p mm k)/\L.length=mm/\RdH W p L/\(p=none->mm=0/\k=0))/\(L.length=0 \/ ∃ n ∈ (D i).weights prog 54,L.length<=n)/\∀ y ∈ L,y.t.size ∈ (D i).weights prog 54:=by
   intro i hi;obtain ⟨cs',h1,h2⟩:=hall i hi;rw [zRC] at h1;obtain ⟨_,hlen,hcell⟩:=World.cells?_some h1;match cs',hlen with
   | [c],_ =>
    obtain ⟨p,mm,k,L,rfl,hL,hr,hz,hn,ht⟩:=zJ4 h2;refine ⟨L,⟨p,mm,k,?_,hL,hr,hz⟩,by rw [hL];exact hn,ht⟩;have:=hcell 0 (by omega);rw [add_add,Nat.mul_one,Nat.add_zero] at this;exact this
  letI:=zQp
  obtain ⟨G,hG⟩:=zNO each;have hlen:((List.range len).map G).length=len:=by simp
  have hsp:0<len->∃ b off,a=⟨b,off,none⟩:=by
   intro h0;obtain ⟨⟨p,mm,k,h1,_⟩,_⟩:=hG 0 (by omega);have s1:(a.add 0).spot=none:=World.cell?_spot h1;obtain ⟨b,off,spot⟩:=a;obtain rfl:spot=none:=s1;exact ⟨b,off,rfl⟩
  refine ⟨(List.range len).map G,some a,len,m,rfl,λi y hy=>?_,hlen,λts0 ds j hz h1 h2=>?_⟩
  ·obtain ⟨hi,e⟩:=List.getElem?_eq_some_iff.1 hy;rw [hlen] at hi;have eG:G i=y:=by simpa using e
   obtain ⟨b,off,rfl⟩:=hsp (by omega);obtain ⟨⟨p,mm,k,q1,q2,q3,q4⟩,_⟩:=hG i (by omega);rw [eG] at q2 q3;rw [add_plain] at q1;exact ⟨b,off,p,mm,k,rfl,q1,q2,q3,q4⟩
  ·have h3:ds[j]? = some (.slice ((List.range len).map D) ((List.range (m - len)).map λj=>D (len+j))):=by rw [h2];exact congrArg some (congrArg Prod.fst hx)
   have q:=sized_slice hz h1 h3 underlying22;rw [zP6] at q;simp only [List.length_map,List.length_range] at q;refine ⟨by omega,λx hx=>?_⟩;obtain ⟨i,hi,rfl⟩:=List.mem_map.1 hx;have hi:=List.mem_range.1 hi;obtain ⟨_,hn,ht⟩:=hG i (by omega);have key:∀ n ∈ (D i).weights prog 54,n<=reachBytes:=by
    intro n hn;have hm:n ∈ (DataW.slice ((List.range len).map D) ((List.range (m - len)).map λj=>D (len+j)):DataW H).weights prog 22:=by
     simp only [DataW.weights,underlying22,List.mem_cons,List.mem_append];exact Or.inr (Or.inl (zC2 _ _ (D i) (List.mem_map.2 ⟨i,by simpa using hi,rfl⟩) _ hn))
    have:=List.all_eq_true.1 hz _ (DataW.weights_mem_each h1 h3 _ hm);simpa using this
   refine ⟨?_,λy hy=>key _ (ht y hy)⟩;rcases hn with hn | ⟨n,hn,hle⟩
   ·rw [hn];exact Nat.zero_le _
   ·exact Nat.le_trans hle (key n hn)
end
end Go.Proofs.YtedifblompcdkaaGreatDoor
namespace Go.Proofs.YtedifblompcdkaaGreatDoor.bookKinds
theorem zBp {a b:Bool} (ha:a=true) (hb:b=true):(a && b)=true:=by rw [ha,hb];rfl
theorem zPe:Tryz.pinned.checked.prog.funcNamed Rows.bookKindsRow.func=some 3:=by kernel_rfl
theorem zL1:joinedFacts Tryz.pinned.checked.prog 3 Tryz.f3 (OpenSpec.ofChange Rows.bookKindsSpec).bare Rows.bookKindsRow=true:=by
 unfold joinedFacts;refine zBp (zBp (zBp (zBp (zBp (zBp (zBp (zBp (zBp (zBp (zBp (zBp (zBp (zBp (zBp (zBp (zBp (zBp (zBp (zBp (zBp (zBp (zBp (zBp (zBp (zBp (zBp (zBp (zBp (zBp (zBp ?_ ?_) ?_) ?_) ?_) ?_) ?_) ?_) ?_) ?_) ?_) ?_) ?_) ?_) ?_) ?_) ?_) ?_) ?_) ?_) ?_) ?_) ?_) ?_) ?_) ?_) ?_) ?_) ?_) ?_) ?_) ?_;all_goals as_aux_lemma=>kernel_rfl
theorem zQ3:Tryz.f3.isInstance Tryz.pinned.checked.prog Rows.bookKindsRow.origin Rows.bookKindsRow.targs:=of_decide_eq_true (by kernel_rfl)
theorem zPk:Tryz.f3.isWrapper Tryz.pinned.checked.prog Rows.bookKindsRow.wrapper Rows.bookKindsRow.mainSum:=by
 unfold Func.isWrapper;first | (rw [if_pos (by decide +kernel)];kernel_rfl) | (rw [if_neg (by decide +kernel)];exact ⟨rfl,rfl⟩)
theorem zNe:true=Tryz.pinned.checked.prog.looks []:=by kernel_rfl
end Go.Proofs.YtedifblompcdkaaGreatDoor.bookKinds
