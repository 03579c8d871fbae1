/- PSlice, PAppend, MWalkH, MWalkI, MRefD. -/
import Derived.Test.YtdghjlmnlodnlaaGreatDoorQ42
import Derived.Deep.Slices
import Derived.Lib.SmallJoins
import Derived.SizedLaws
import Derived.Carry
set_option maxHeartbeats 16000000
set_option maxRecDepth 100000
namespace Go.Proofs.YtdghjlmnlodnlaaGreatDoor
open Tryz
open Go.ChangeShapes Go.WideShapes Go.Deep
variable {n B:Nat} {F:Nat->Wpl.Cl} {w w':World} {l:List UInt8} {s0 r0 c0:Int} {av:Option Addr} {v:Value} {G:Nat->Value}
section
variable {H:Type} {enc:TypeId × Value->H} {P:Program} {w:World} {base:Nat} {spare:Nat->Bool} {held:Bool}
theorem zq21 {t e:TypeId} {fs:Array Field} {fuel:Nat} {cs:List Value} {x:DataW H × List MemPlace} (k:Nat) (ht:P.underlying t=some (.slice e)) (he:P.underlying e=some (.struct fs)) (ck:P.cellsOf e=k)
  (hf:∀ c,c<k->∃ f,fs[c]? = some f/\f.offset=c/\P.cellsOf f.type=1/\P.underlying f.type=some (.int .i64)) (h:DataW.trod enc P w base spare held fuel t cs=some x) :
  (cs=[.slice none 0 0]/\x=(.nil,[])) \/
  ∃ (a:Addr) (len cap m:Nat) (D:Nat->DataW H) (G:Nat->Nat->Int),cs=[.slice (some a) len cap]/\len<=cap/\cap<=maxLen/\m=(if spare a.block then cap else len) /\
   x.1=.slice ((List.range len).map D) ((List.range (m - len)).map λj=>D (len+j)) /\
   ∀ i c,i<m->c<k->w.cell? (a.add (i * k+c))=some (.int .i64 (G i c))/\(Lit.int .i64 (G i c)).wf=true:=by
 rcases open_slice ht h with h0 | ⟨a,len,cap,m,n,D,Pl,rfl,hb,hl,hm,hmm,rfl,hx⟩
 ·exact Or.inl h0
 right
 have each:∀ i,i<m->∃ g:Nat->Int,∀ c,c<k->w.cell? (a.add (i * k+c))=some (.int .i64 (g c))/\(Lit.int .i64 (g c)).wf=true:=by
  intro i hi;obtain ⟨cs',h1,h2⟩:=hx i hi;rw [ck] at h1;obtain ⟨_,hlen,hcell⟩:=World.cells?_some h1;obtain ⟨xs,q,_,_,_,hxl,hg⟩:=DataW.trod_struct he h2;refine choose_lt (p:=λc v=>w.cell? (a.add (i * k+c))=some (.int .i64 v)/\(Lit.int .i64 v).wf=true) λc hc=>?_
  obtain ⟨f,f1,f2,f3,f4⟩:=hf c hc;have g1:=hg c f f1;rw [f2,f3] at g1;have hc':c<cs'.length:=by omega
  rw [List.drop_eq_getElem_cons hc',List.take_succ_cons,List.take_zero] at g1;have hxc:c<xs.length:=by rw [hxl];exact (Array.getElem?_eq_some_iff.1 f1).1
  rw [List.getElem?_eq_getElem hxc] at g1;obtain ⟨v,e1,_,e3⟩:=DataW.trod_int f4 g1;simp only [List.cons.injEq,and_true] at e1;have e2:=hcell c (by omega);rw [add_add] at e2;refine ⟨v,?_,e3⟩;rw [e2,List.getElem?_eq_getElem hc',e1]
 obtain ⟨G,hG⟩:=choose_lt each;exact ⟨a,len,cap,m,D,G,rfl,hl,hm,hmm,rfl,λi c hi hc=>hG i hi c hc⟩
theorem zq24 {W:World} {r:Reach} {b0:Nat} {t e:TypeId} {fs:Array Field} {v:Value} {d:DataW H} {p:List MemPlace} (k:Nat) (hk:0<k) (ht:P.underlying t=some (.slice e)) (he:P.underlying e=some (.struct fs)) (ck:P.cellsOf e=k)
  (hf:∀ c,c<k->∃ f,fs[c]? = some f/\f.offset=c/\P.cellsOf f.type=1/\P.underlying f.type=some (.int .i64)) (hv:Value.okWide P W r b0 t v) (h:DataW.Trod enc P W 0 (λ_=>true) true t v d p) :
  ∃ (av:Option Addr) (len cap:Nat) (G:Nat->Nat->Int),v=.slice av len cap/\(d=.nil/\av=none/\len=0/\cap=0 \/ ∃ el sp a,d=.slice el sp/\el.length+sp.length=cap/\len<=cap/\av=some a) /\
   ∀ i,i<len->∃ bb off,av=some ⟨bb,off,none⟩/\bb<W.heap.size/\∀ c,c<k->W.cell? ⟨bb,off+i * k+c,none⟩=some (.int .i64 (G i c))/\(Lit.int .i64 (G i c)).wf=true:=by
 obtain ⟨a0,len,cap,rfl⟩:=okWide_slice ht hv;obtain ⟨fuel,hg⟩:=h;rcases zq21 k ht he ck hf hg with ⟨hcs,hx⟩ | ⟨a,len',cap',m,D,G,hcs,hl,hm,hmm,hx,hall⟩
 ·simp [Value.cells] at hcs;obtain ⟨rfl,rfl,rfl⟩:=hcs;simp only [Prod.mk.injEq] at hx;exact ⟨none,0,0,λ_ _=>0,rfl,Or.inl ⟨hx.1,rfl,rfl,rfl⟩,λi hi=>absurd hi (Nat.not_lt_zero _)⟩
 ·simp [Value.cells] at hcs;obtain ⟨rfl,rfl,rfl⟩:=hcs;simp only [if_true] at hmm;subst hmm;refine ⟨some a,len,m,G,rfl,Or.inr ⟨_,_,a,hx,by simp;omega,hl,rfl⟩,λi hi=>?_⟩;have c00:=(hall i 0 (by omega) hk).1;have sp:(a.add (i * k+0)).spot=none:=World.cell?_spot c00;have hlt:(a.add (i * k+0)).block<W.heap.size:=World.block_lt_of_cell? W _ c00;obtain ⟨b,off,spot⟩:=a;have hsp:spot=none/\b<W.heap.size:=by
   unfold Addr.add at sp hlt;by_cases h0:i * k+0=0
   ·rw [if_pos h0] at sp hlt;exact ⟨sp,hlt⟩
   ·have h1:=(hall 0 0 (by omega) hk).1;have s1:((⟨b,off,spot⟩:Addr).add (0 * k+0)).spot=none:=World.cell?_spot h1;have l1:((⟨b,off,spot⟩:Addr).add (0 * k+0)).block<W.heap.size:=World.block_lt_of_cell? W _ h1;rw [Nat.zero_mul] at s1 l1;exact ⟨s1,l1⟩
  obtain ⟨rfl,hbw⟩:=hsp;refine ⟨b,off,rfl,hbw,λc hc=>?_⟩;have q:=hall i c (by omega) hc;rw [add_plain] at q;rw [Nat.add_assoc];exact q
end
open Go.RowKit
theorem zq2 {P:Program} {w:World} {ops:Array Oper} {rest:List Oper} {o:Oper} {a:Act} {Q:Exit->Act->World->Prop} (hgd:o.guard=none) (s x:Operand) (t:TypeId)
  (ho:o.op=.call {callee:=.builtin .append,args:=#[s,x],argTypes:=#[t,t]})
  (base:Nat) (e:TypeId) (i:TypeInfo) (z:Value) (size bytes:Nat) (ht:P.underlying t=some (.slice e)) (hi:P.info? e=some i) (hz:i.zero=some z)
  (hsize:i.size=size) (hby:i.bytes=bytes) (hzs:z.cells.size=size) (hsz:0<size)
  (v:Value) (n:Nat) (xs:List Value) (hs:a.eval s=v) (hown:w.ownsRow base e size v n xs)
  (av:Option Addr) (m c:Nat) (news:List Value) (hx:a.eval x=.slice av m c) (hno:av=none->m=0/\c=0) (hl:news.length=m * size) (hnews:∀ ad,av=some ad->∀ j u,news[j]? = some u->w.cell? (ad.add j)=some u) (h1:∀ u ∈ news,u.oneCell'=true)
  (h63:n+m<=maxLen) (hbytes:(n+m) * bytes<=140737488355328) (hbase:base<=w.heap.size)
  (h:∀ v' w',w'.ownsRow base e size v' (n+m) (xs++news)->w.grownBy w' v.ownBlock->wpList P ops Q rest (a.put o.dst v') w'):wpList P ops Q (o::rest) a w:=by
 cases av with
 | some ad=>exact wpList_append_own w hgd s x t ho base e i z size bytes ht hi hz hsize hby hzs hsz v n xs hs hown ad m c news hx hl (hnews ad rfl) h1 h63 hbytes hbase λv' w' h2 h3 _=>h v' w' h2 h3
 | none =>
  obtain ⟨rfl,rfl⟩:=hno rfl;have hnil:news=[]:=List.eq_nil_of_length_eq_zero (by rw [hl];simp);subst hnil;refine wpList_append_own_none hgd s x t ho base e i size ht hi v n xs hs hown hx ?_;refine h v w ?_ (World.grownBy.refl _ _);rw [List.append_nil,Nat.add_zero];exact hown
def comp (c:Wpl.Cl) (k:Nat):Int:=if k=0 then c.s else if k=1 then c.r else c.c
def rowC (F:Nat->Wpl.Cl) (n:Nat):List Value:=(List.range (n * 3)).map λj=>.int .i64 (comp (F (j / 3)) (j % 3))
theorem zq1 (F:Nat->Wpl.Cl) (n:Nat):(rowC F n).length=n * 3:=by unfold rowC;simp
theorem zq12 {j:Nat} (hj:j<n * 3):(rowC F n)[j]? = some (.int .i64 (comp (F (j / 3)) (j % 3))):=by
 unfold rowC;rw [List.getElem?_map,List.getElem?_range hj];rfl
theorem zq27:∀ u ∈ rowC F n,u.oneCell'=true:=by
 intro u hu;unfold rowC at hu;obtain ⟨j,_,rfl⟩:=List.mem_map.1 hu;rfl
theorem zq14 {b off:Nat} (hc:zSW w b off n F):∀ j u,(rowC F n)[j]? = some u->w.cell? ((⟨b,off,none⟩:Addr).add j)=some u:=by
 intro j u h;have hj:j<n * 3:=by
  have:=(List.getElem?_eq_some_iff.1 h).1;rw [zq1] at this;exact this
 rw [zq12 hj] at h;obtain rfl:=Option.some.inj h;have e:(⟨b,off,none⟩:Addr).add j=⟨b,off+j,none⟩:=by
  unfold Addr.add;by_cases h0:j=0
  ·rw [if_pos h0,h0];rfl
  ·rw [if_neg h0]
 rw [e];obtain ⟨h0,h1,h2⟩:=hc (j / 3) (by omega);unfold comp;by_cases e0:j % 3=0
 ·rw [if_pos e0,show off+j=off+j / 3 * 3 by omega];exact h0
 ·rw [if_neg e0];by_cases e1:j % 3=1
  ·rw [if_pos e1,show off+j=off+j / 3 * 3+1 by omega];exact h1
  ·rw [if_neg e1,show off+j=off+j / 3 * 3+2 by omega];exact h2
theorem zq37 {k:Nat} {ts:List Value} (h:∀ j,j<n * 3->w.cell? ⟨k,j,none⟩=(rowC F n++ts)[j]?):zSW w k 0 n F:=by
 have L:=zq1 F n;intro i hi;have g:∀ c,c<3->w.cell? ⟨k,i * 3+c,none⟩=some (.int .i64 (comp (F i) c)):=λc hc=>by
  rw [h _ (by omega),List.getElem?_append_left (by omega),zq12 (by omega),show (i * 3+c) / 3=i by omega,show (i * 3+c) % 3=c by omega]
 rw [Nat.zero_add];exact ⟨g 0 (by omega),g 1 (by omega),g 2 (by omega)⟩
open Go.RowKit Go.Shelf
def CelV (w:World) (av:Option Addr) (n:Nat) (F:Nat->Wpl.Cl):Prop:=∀ j,j<n->∃ bb off,av=some ⟨bb,off,none⟩/\w.cell? ⟨bb,off+j * 3,none⟩=some (.int .i64 (F j).s)/\w.cell? ⟨bb,off+j * 3+1,none⟩=some (.int .i64 (F j).r)/\w.cell? ⟨bb,off+j * 3+2,none⟩=some (.int .i64 (F j).c)
theorem CelV.below (h:CelV w av n F) (hb:Below w.heap.size w w'):CelV w' av n F:=λj hj=>by
 obtain ⟨bb,off,e,h1,h2,h3⟩:=h j hj;exact ⟨bb,off,e,zAM hb h1,zAM hb h2,zAM hb h3⟩
def rgt (c:Wpl.Cl):Bool:=Wpl.rightC c.s c.r c.c
def zq4 (F:Nat->Wpl.Cl) (n:Nat):Bool:=(List.range n).all λi=>rgt (F i)
theorem allR_iff:zq4 F n=true ↔ ∀ j,j<n->rgt (F j)=true:=by simp [zq4]
theorem zq10 (av:Option Addr) (n cap:Nat) (F:Nat->Wpl.Cl) (w:World) (hv:CelV w av n F) (hn:True->n<=1000000) :
  CR 25 #[.slice av n cap] w (.bool (zq4 F n)):=by
 have HV:Hid (CelV w av n F):=hv;clear hv;go_enter func25,ntmps25;go_wp2_with fail
 go_loopg [7] n (λgk v wr=>∃ i:Nat,v=.int .i64 i/\gk=n - i/\i<=n/\Hid (∀ j,j<i->rgt (F j)=true)/\Hid (Below w.heap.size w wr))
 case atStart=>exact ⟨0,rfl,rfl,Nat.zero_le _,λ_ h=>absurd h (Nat.not_lt_zero _),Below.refl _ _⟩
 case round =>
  obtain ⟨i,rfl,hg,hi,HK,HB⟩:=hrel;by_cases hlt:i<n
  ·have hli:(i:Int)<(n:Int):=by omega
   have hi0:(0:Int)<=(i:Int):=by omega
   have hwi:IntKind.i64.wrap ((i:Int)+1)=(i:Int)+1:=by rw [IntKind.wrap_i64];have:=hn trivial;omega
   obtain ⟨bb,off,rfl,c0,c1,c2⟩:=HV.out.below HB.out i hlt;have R:=λw=>zBs (F i).s (F i).r (F i).c w
   obtain ⟨q,hq⟩:∃ q,Wpl.rightC (F i).s (F i).r (F i).c=q:=⟨_,rfl⟩
   rw [hq] at R;have HQ:Hid (rgt (F i)=q):=hq;generalize (F i).s=s at *;generalize (F i).r=r at *;generalize (F i).c=c at *;have hB1:=zAI HB.out (.cells #[.int .i64 s,.int .i64 r,.int .i64 c] 41);clear hq;go_wp2_with fail
   refine (R _).mono ?_;rintro e w1 ⟨rfl,hb1⟩;have hB2:Hid (Below w.heap.size w w1):=zAA hB1 hb1;clear R c0 c1 c2 hb1 hB1 HB;cases q with
   | false =>
    have e:zq4 F n=false:=by
     rw [Bool.eq_false_iff];intro h;have:=allR_iff.1 h i hlt;rw [HQ.out] at this;cases this
    go_wp2;go_ret;exact ⟨by rw [e];rfl,hB2.out⟩
   | true =>
    have HK2:Hid (∀ j,j<i+1->rgt (F j)=true):=by
     intro j hj;by_cases hji:j<i
     ·exact HK.out j hji
     ·have:j=i:=by omega
      subst this;exact HQ.out
    clear HK HQ;go_wp2_with fail
    go_roundg (n - (i+1))
    case rel=>exact ⟨i+1,by simp,rfl,by omega,HK2,hB2⟩
    case measure=>omega
  ·have hli:¬ (i:Int)<(n:Int):=by omega
   have e:Hid (zq4 F n=true):=allR_iff.2 (λj hj=>HK.out j (by omega));have hBB:=HB.out;clear HK HB;go_wp2;go_ret;exact ⟨by rw [e.out];rfl,hBB⟩
theorem zq16:(prog.info? 9).map (λi=>(i.zero,i.size,i.bytes))=some (some (.string ⟨#[]⟩),1,16):=by kernel_rfl
def cpi (l:List UInt8) (r0 c0:Int) (F:Nat->Wpl.Cl) (i:Nat):List UInt8 × Int:=cpR ((F i).r - r0) ((F i).c - c0) l
def OwnG (w:World) (B:Nat) (v:Value) (n:Nat) (G:Nat->Value):Prop:=w.ownsRow B 9 1 v n ((List.range n).map G)
def FillP (B:Nat) (l:List UInt8) (s0 r0 c0:Int) (n:Nat) (F:Nat->Wpl.Cl) (e:Ending) (w':World):Prop :=
 ((Wpl.rightC s0 r0 c0 && zq4 F n)=false/\e=.returned (.tuple #[.slice none 0 0,.int .i64 110])) \/
 ((Wpl.rightC s0 r0 c0 && zq4 F n)=true/\∃ i,i<n/\(cpi l r0 c0 F i).2 ≠ 0/\(∀ j,j<i->(cpi l r0 c0 F j).2=0)/\e=.returned (.tuple #[.slice none 0 0,.int .i64 (cpi l r0 c0 F i).2])) \/
 ((Wpl.rightC s0 r0 c0 && zq4 F n)=true/\(∀ i,i<n->(cpi l r0 c0 F i).2=0)/\∃ g,e=.returned (.tuple #[.slice (some ⟨g,0,none⟩) n n,.int .i64 0])/\∃ G,OwnG w' B (.slice (some ⟨g,0,none⟩) n n) n G/\∀ i,i<n->G i=.string ⟨(cpi l r0 c0 F i).1.toArray⟩)
theorem zq31 (b:ByteArray) (s0 r0 c0:Int) (av:Option Addr) (n cap:Nat) (F:Nat->Wpl.Cl) (w:World) (hv:CelV w av n F) (hn:True->n<=4000) (h:(Wpl.rightC s0 r0 c0 && zq4 F n)=false) :
  CR 12 #[.string b,.agg #[.int .i64 s0,.int .i64 r0,.int .i64 c0],.slice av n cap] w (.tuple #[.slice none 0 0,.int .i64 110]):=by
 have R:=λw=>zBs s0 r0 c0 w
 have AL:=λw hv=>zq10 av n cap F w hv (λ_=>by have:=hn trivial;omega)
 have HV:Hid (CelV w av n F):=hv;have pA:=AtL.new0 w 41 [.int .i64 s0,.int .i64 r0,.int .i64 c0];have hB0:=zAI (Below.refl _ w) (.cells #[.int .i64 s0,.int .i64 r0,.int .i64 c0] 41);obtain ⟨a0,a1,a2,f0,f1,f2⟩:=pA.three;clear hv;cases h1:Wpl.rightC s0 r0 c0 with
 | false =>
  rw [h1] at R;clear h h1;go_enter func12,ntmps12;go_wp2_with fail
  refine (R _).mono ?_;rintro e w1 ⟨rfl,hb1⟩;have hB1:=zAA hB0 hb1;go_wp2;go_ret2
  exact ⟨rfl,hB1⟩
 | true =>
  rw [h1] at R h;rw [Bool.true_and] at h;rw [h] at AL;clear h h1;go_enter func12,ntmps12;go_wp2_with fail
  refine (R _).mono ?_;rintro e w1 ⟨rfl,hb1⟩;have hB1:=zAA hB0 hb1;go_wp2_with fail
  refine (AL w1 (HV.out.below hB1)).mono ?_;rintro e w2 ⟨rfl,hb2⟩;have hB2:=zAA hB1 hb2;go_wp2;go_ret2
  exact ⟨rfl,hB2⟩
theorem zq34 (G:Nat->Value) (n i:Nat) (v:Value):((List.range n).map G).set i v=(List.range n).map (λj=>if j=i then v else G j):=by
 apply List.ext_getElem?
 intro j;rw [List.getElem?_set];by_cases hj:i=j
 ·subst hj;simp only [if_true,List.length_map,List.length_range,List.getElem?_map];by_cases hl:i<n
  ·rw [if_pos hl,List.getElem?_range hl];simp
  ·rw [if_neg hl,List.getElem?_eq_none (by simp;omega)];rfl
 ·rw [if_neg hj,List.getElem?_map,List.getElem?_map];by_cases hl:j<n
  ·rw [List.getElem?_range hl];simp only [Option.map_some];rw [if_neg (λe=>hj e.symm)]
  ·rw [List.getElem?_eq_none (by simp;omega)];rfl
theorem zq25 (z:Array Value) (n:Nat):(madeCells z n).toList=(List.range n).map (λi=>z[i % z.size]!):=by simp [madeCells]
theorem zq32 (b:ByteArray) (s0 r0 c0:Int) (av:Option Addr) (n cap:Nat) (F:Nat->Wpl.Cl) (w:World) (hE:Env w) (hk8:8<=w.heap.size) (hs:b.size<=9223372036854775807) (hv:CelV w av n F) (hn:True->n<=4000) (h1:Wpl.rightC s0 r0 c0=true) (h2:zq4 F n=true) :
  Calls prog 12 #[.string b,.agg #[.int .i64 s0,.int .i64 r0,.int .i64 c0],.slice av n cap] w λe w'=>FillP w.heap.size b.data.toList s0 r0 c0 n F e w'/\Below w.heap.size w w':=by
 have R:=λw=>zBs s0 r0 c0 w
 rw [h1] at R;have AL:=λw hv=>zq10 av n cap F w hv (λ_=>by have:=hn trivial;omega)
 rw [h2] at AL;have CP:=λx y w hE hk8=>zHR b x y w hE hk8 hs
 have HV:Hid (CelV w av n F):=hv;have hr0:=Wpl.rightC_iff.1 h1;have HF:Hid (∀ j,j<n->rgt (F j)=true):=allR_iff.1 h2;have HP:Hid ((Wpl.rightC s0 r0 c0 && zq4 F n)=true):=by show _=_;rw [h1,h2];rfl
 have pA:=AtL.new0 w 41 [.int .i64 s0,.int .i64 r0,.int .i64 c0];have hB0:=zAI (Below.refl _ w) (.cells #[.int .i64 s0,.int .i64 r0,.int .i64 c0] 41);obtain ⟨a0,a1,a2,f0,f1,f2⟩:=pA.three;obtain ⟨i0,hi0,hz0,hz1,hz2⟩:=info_parts zq16;clear hv h1 h2 hs;go_enter func12,ntmps12;go_wp2_with fail
 refine (R _).mono ?_;rintro e w1 ⟨rfl,hb1⟩;have hB1:=zAA hB0 hb1;have pA1:=AtL.below hb1 pA;clear a0 a1 a2 f0 f1 f2 pA hB0 hb1 R;go_wp2_with fail
 refine (AL w1 (HV.out.below hB1)).mono ?_;rintro e w2 ⟨rfl,hb2⟩;have hB2:=zAA hB1 hb2;have pA2:=AtL.below hb2 pA1;clear AL hB1 hb2 pA1;go_wp2_with (refine wpList_make_full w2 rfl (.tmp 22) (.tmp 22) 43 rfl w2.heap.size 9 i0 _ 1 underlying43 hi0 hz0 hz1 .i64 .i64 _ _ n rfl rfl rfl rfl (by rw [hz2];have:=hn trivial;omega) (by have:=hn trivial;unfold maxLen;omega) (Nat.le_refl _) ?_)
 intro w3 own3 hg3;have hb3:Below w2.heap.size w2 w3:=⟨hg3.os,hg3.tape,hg3.output,hg3.size,λk hk=>hg3.block k hk (by simp)⟩
 have hB3:=zAA hB2 hb3;have pA3:=AtL.below hb3 pA2;have hlt2:=pA2.lt;rw [zq25] at own3;have HO0:Hid (∃ G,OwnG w3 w2.heap.size (.slice (some ⟨w2.heap.size,0,none⟩) n n) n G/\∀ j,j<0->G j=.string ⟨(cpi b.data.toList r0 c0 F j).1.toArray⟩):=⟨_,own3,λj hj=>absurd hj (Nat.not_lt_zero _)⟩
 clear own3 hg3 hb3 hB2 pA2 hi0 hz0 hz1 hz2 i0;generalize w2.heap.size=g at *;go_upto_region 5 with fail
 go_loopg [26] n (λgk v wr=>∃ i:Nat,v=.int .i64 i/\gk=n - i/\i<=n/\Hid (∃ G,OwnG wr g (.slice (some ⟨g,0,none⟩) n n) n G/\∀ j,j<i->G j=.string ⟨(cpi b.data.toList r0 c0 F j).1.toArray⟩)/\Hid (∀ j,j<i->(cpi b.data.toList r0 c0 F j).2=0)/\AtL wr w.heap.size [.int .i64 s0,.int .i64 r0,.int .i64 c0]/\Hid (Below w.heap.size w wr))
 case atStart=>exact ⟨0,rfl,rfl,Nat.zero_le _,HO0,(λ_ h=>absurd h (Nat.not_lt_zero _)),pA3,hB3⟩
 case round =>
  clear HO0 pA3 hB3;obtain ⟨i,rfl,hg,hi,HO,HK,pA,HB⟩:=hrel;by_cases hlt:i<n
  ·have hli:(i:Int)<(n:Int):=by omega
   have hi0:(0:Int)<=(i:Int):=by omega
   have hwi:IntKind.i64.wrap ((i:Int)+1)=(i:Int)+1:=by rw [IntKind.wrap_i64];have:=hn trivial;omega
   obtain ⟨bb,off,rfl,c0',c1,c2⟩:=HV.out.below HB.out i hlt;have hri:=HF.out i hlt;unfold rgt at hri;rw [Wpl.rightC_iff] at hri;have hw1:IntKind.i64.wrap ((F i).r - r0)=(F i).r - r0:=by rw [IntKind.wrap_i64];omega
   have hw2:IntKind.i64.wrap ((F i).c - c0)=(F i).c - c0:=by rw [IntKind.wrap_i64];omega
   have hB1:=zAI HB.out (.cells #[.int .i64 (F i).s,.int .i64 (F i).r,.int .i64 (F i).c] 41);have pA1:=pA.alloc (.cells #[.int .i64 (F i).s,.int .i64 (F i).r,.int .i64 (F i).c] 41);have hEr:=hE.below hB1;have hk8r:=Nat.le_trans hk8 hB1.size;have C:=CP ((F i).r - r0) ((F i).c - c0) _ hEr hk8r;obtain ⟨a0,a1,a2,f0,f1,f2⟩:=pA1.three;have HO1:Hid (∃ G,OwnG (wr.alloc (.cells #[.int .i64 (F i).s,.int .i64 (F i).r,.int .i64 (F i).c] 41)) g (.slice (some ⟨g,0,none⟩) n n) n G/\∀ j,j<i->G j=.string ⟨(cpi b.data.toList r0 c0 F j).1.toArray⟩):=by
    obtain ⟨G,h1,h2⟩:=HO.out;exact ⟨G,World.ownsRow.alloc h1 _,h2⟩
   obtain ⟨Q,hQ⟩:∃ Q,cpR ((F i).r - r0) ((F i).c - c0) b.data.toList=Q:=⟨_,rfl⟩
   rw [hQ] at C;have HQ:Hid (cpi b.data.toList r0 c0 F i=Q):=hQ;clear hQ hri hEr hk8r HO HB;go_wp2_with fail
   refine C.mono ?_;rintro e w4 ⟨rfl,hb4⟩;have hB4:=zAA hB1 hb4;have pA4:=AtL.below hb4 pA1;obtain ⟨G,hG,hGj⟩:=HO1.out;have hG4:OwnG w4 g (.slice (some ⟨g,0,none⟩) n n) n G:=World.ownsRow.kept (row:=none) hG ⟨hb4.os,hb4.tape,hb4.output,hb4.size,λk hk _=>hb4.block k hk⟩ (Or.inr (by simp [Value.ownBlock]));clear C a0 a1 a2 f0 f1 f2 c0' c1 c2 hb4 pA1 hB1 HO1 hG hw1 hw2 pA;obtain ⟨q1,q2⟩:=Q;simp only;by_cases hq2:q2=0
   ·subst hq2;have hcell:w4.cell? ⟨g,i,none⟩=some (G i):=by
     rw [World.ownsRow.cellAt hG4 i (by omega),List.getElem?_map,List.getElem?_range hlt];rfl
    have hfro:w4.frozen? ⟨g,i,none⟩=false:=World.ownsRow.frozenAt hG4 i;have st:=(World.ownsRow.stored hG4 i (.string ⟨q1.toArray⟩)).1;rw [zq34] at st;have hgg:w.heap.size<=g:=by omega
    have HO5:Hid (∃ G,OwnG (w4.setCell ⟨g,i,none⟩ (.string ⟨q1.toArray⟩)) g (.slice (some ⟨g,0,none⟩) n n) n G/\∀ j,j<i+1->G j=.string ⟨(cpi b.data.toList r0 c0 F j).1.toArray⟩):=by
     refine ⟨_,st,λj hj=>?_⟩;by_cases hji:j=i
     ·subst hji;simp only [if_true];rw [HQ.out]
     ·simp only [if_neg hji];exact hGj j (by omega)
    have HK5:Hid (∀ j,j<i+1->(cpi b.data.toList r0 c0 F j).2=0):=by
     intro j hj;by_cases hji:j=i
     ·subst hji;rw [HQ.out]
     ·exact HK.out j (by omega)
    have pA5:=pA4.far (j:=g) (by omega) i (.string ⟨q1.toArray⟩);have hB5:Hid (Below w.heap.size w (w4.setCell ⟨g,i,none⟩ (.string ⟨q1.toArray⟩))):=hB4.setCell (p:=⟨g,i,none⟩) hgg _;generalize G i=gi at hcell;clear st hG4 hGj HK HQ hB4 pA4;go_wp2_with fail
    go_roundg (n - (i+1))
    case rel=>exact ⟨i+1,by simp,rfl,by omega,HO5,HK5,pA5,hB5⟩
    case measure=>omega
   ·have hqb:(q2 != 0)=true:=by simp [hq2]
    clear hG4 hGj pA4;go_wp2;go_ret2
    refine ⟨Or.inr (Or.inl ⟨HP.out,i,hlt,by rw [HQ.out];exact hq2,HK.out,?_⟩),hB4⟩;rw [HQ.out];rfl
  ·have hli:¬ (i:Int)<(n:Int):=by omega
   have HBB:=HB.out;have HK2:Hid (∀ j,j<n->(cpi b.data.toList r0 c0 F j).2=0):=λj hj=>HK.out j (by omega)
   have HO2:Hid (∃ G,OwnG wr w.heap.size (.slice (some ⟨g,0,none⟩) n n) n G/\∀ j,j<n->G j=.string ⟨(cpi b.data.toList r0 c0 F j).1.toArray⟩):=by
    obtain ⟨G,h1,h2⟩:=HO.out;exact ⟨G,⟨h1.1,h1.2.imp id λ⟨g',cap',cur,a,b,c⟩=>⟨g',cap',cur,a,by omega,c⟩⟩,λj hj=>h2 j (by omega)⟩
   clear HO HK HB pA;go_wp2;go_ret2
   exact ⟨Or.inr (Or.inr ⟨HP.out,HK2.out,g,rfl,HO2.out⟩),HBB⟩
def fcd (l:List UInt8) (r0 c0:Int) (F:Nat->Wpl.Cl):Nat->Int
 | 0=>0
 | n+1=>if fcd l r0 c0 F n=0 then (cpi l r0 c0 F n).2 else fcd l r0 c0 F n
theorem zq5 {l:List UInt8} {r0 c0:Int} {F:Nat->Wpl.Cl}:∀ {n:Nat},(∀ j,j<n->(cpi l r0 c0 F j).2=0)->fcd l r0 c0 F n=0
 | 0,_=>rfl
 | n+1,h=>by
  unfold fcd;rw [if_pos (zq5 λj hj=>h j (by omega))];exact h n (by omega)
theorem zq6 {l:List UInt8} {r0 c0:Int} {F:Nat->Wpl.Cl} {i:Nat} (h:∀ j,j<i->(cpi l r0 c0 F j).2=0) (hi:(cpi l r0 c0 F i).2 ≠ 0):∀ {n:Nat},i<n->fcd l r0 c0 F n=(cpi l r0 c0 F i).2
 | 0,hn=>absurd hn (Nat.not_lt_zero _)
 | n+1,hn=>by
  unfold fcd;by_cases e:i=n
  ·subst e;rw [if_pos (zq5 h)]
  ·have:=zq6 h hi (n:=n) (by omega);rw [this,if_neg hi]
def fcR (l:List UInt8) (s0 r0 c0:Int) (n:Nat) (F:Nat->Wpl.Cl):Int:=if (Wpl.rightC s0 r0 c0 && zq4 F n)=true then fcd l r0 c0 F n else 110
def StrV (w:World) (av:Option Addr) (n:Nat) (G:Nat->List UInt8):Prop:=∀ i,i<n->∃ bb,av=some ⟨bb,0,none⟩/\w.cell? ⟨bb,i,none⟩=some (.string ⟨(G i).toArray⟩)
theorem StrV.below {G:Nat->List UInt8} (h:StrV w av n G) (hb:Below w.heap.size w w'):StrV w' av n G:=λi hi=>by
 obtain ⟨bb,e,h1⟩:=h i hi;exact ⟨bb,e,zAM hb h1⟩
def FillR (l:List UInt8) (s0 r0 c0:Int) (n:Nat) (F:Nat->Wpl.Cl) (e:Ending) (w':World):Prop :=
 ∃ v,e=.returned (.tuple #[v,.int .i64 (fcR l s0 r0 c0 n F)])/\(fcR l s0 r0 c0 n F ≠ 0->v=.slice none 0 0)/\(fcR l s0 r0 c0 n F=0->∃ av cap,v=.slice av n cap/\StrV w' av n λi=>(cpi l r0 c0 F i).1)
theorem zq11 {g:Nat->List UInt8} (h:OwnG w B v n G) (hg:∀ i,i<n->G i=.string ⟨(g i).toArray⟩):∃ av cap,v=.slice av n cap/\StrV w av n g:=by
 have hd:=h;rcases h.2 with ⟨rfl,h0⟩ | ⟨b,cap,cur,rfl,_⟩
 ·subst h0;exact ⟨none,0,rfl,λj hj=>absurd hj (Nat.not_lt_zero _)⟩
 ·refine ⟨_,cap,rfl,λi hi=>⟨b,rfl,?_⟩⟩;have:=World.ownsRow.cellAt hd i (by omega);rw [List.getElem?_map,List.getElem?_range hi] at this;simp only [Option.map_some,hg i hi] at this;exact this
theorem zq28 (h:(Wpl.rightC s0 r0 c0 && zq4 F n)=false):fcR l s0 r0 c0 n F=110:=by
 unfold fcR;rw [h];rfl
theorem zq7 (h:(Wpl.rightC s0 r0 c0 && zq4 F n)=true):fcR l s0 r0 c0 n F=fcd l r0 c0 F n:=if_pos h
theorem FillP.r {e:Ending} (h:FillP B l s0 r0 c0 n F e w'):FillR l s0 r0 c0 n F e w':=by
 unfold FillR;rcases h with ⟨h1,rfl⟩ | ⟨h1,i,hi,hc,hk,rfl⟩ | ⟨h1,h2,g,rfl,G,hG,hs⟩
 ·rw [zq28 h1];exact ⟨_,rfl,λ_=>rfl,λh=>absurd h (by decide)⟩
 ·rw [zq7 h1,zq6 hk hc hi];exact ⟨_,rfl,λ_=>rfl,λh=>absurd h hc⟩
 ·rw [zq7 h1,zq5 h2];exact ⟨_,rfl,λh=>absurd rfl h,λ_=>zq11 hG hs⟩
theorem OwnG.below (h:OwnG w B v n G) (hb:Below w.heap.size w w'):OwnG w' B v n G :=
 World.ownsRow.kept (row:=none) h ⟨hb.os,hb.tape,hb.output,hb.size,λk hk _=>hb.block k hk⟩ (by cases v.ownBlock <;> simp)
theorem zq35 (w:World) (X:ByteArray):∀ ad,(some (⟨w.heap.size,0,none⟩:Addr))=some ad->∀ (j:Nat) (u:Value),([.string X]:List Value)[j]? = some u->(w.alloc (.cells #[.string X] 9)).cell? (ad.add j)=some u:=by
 rintro ad e j u hu;obtain rfl:=Option.some.inj e;cases j with
 | zero =>
  cases hu
  exact (AtL.new0 w 9 [.string X]).2.1 0 _ rfl
 | succ j=>simp at hu
theorem zq17 (F:Nat->Wpl.Cl) (i:Nat):zq4 F (i+1)=(zq4 F i && rgt (F i)):=by
 unfold zq4;rw [List.range_succ,List.all_append];simp
theorem zq19 (F:Nat->Wpl.Cl):zq4 F 0=true:=rfl
theorem zq20 (G:Nat->Value) (n:Nat) (v:Value):(List.range n).map G++[v]=(List.range (n+1)).map (λj=>if j=n then v else G j):=by
 rw [List.range_succ,List.map_append];congr 1
 ·apply List.map_congr_left
  intro j hj;rw [List.mem_range] at hj;rw [if_neg (by omega)]
 ·simp
theorem zq23 (b:ByteArray) (s0 r0 c0:Int) (av:Option Addr) (n cap:Nat) (F:Nat->Wpl.Cl) (w:World) (hs:b.size<=9223372036854775807) (hv:CelV w av n F) (hn:True->n<=4000) :
  Calls prog 13 #[.string b,.agg #[.int .i64 s0,.int .i64 r0,.int .i64 c0],.slice av n cap] w λe w'=>FillR b.data.toList s0 r0 c0 n F e w'/\Below w.heap.size w w':=by
 have R0:=λw=>zEe s0 r0 c0 w
 have CP:=λx y w hx hy=>zJa b x y w hs hx hy
 have HV:Hid (CelV w av n F):=hv;have pA:=AtL.new0 w 41 [.int .i64 s0,.int .i64 r0,.int .i64 c0];have hB0:=zAI (Below.refl _ w) (.cells #[.int .i64 s0,.int .i64 r0,.int .i64 c0] 41);obtain ⟨a0,a1,a2,f0,f1,f2⟩:=pA.three;obtain ⟨i0,hi0,hz0,hz1,hz2⟩:=info_parts zq16;obtain ⟨q0,hq0⟩:∃ q,Wpl.rightC s0 r0 c0=q:=⟨_,rfl⟩
 rw [hq0] at R0;have HQ0:Hid (Wpl.rightC s0 r0 c0=q0):=hq0;clear hv hs hq0;go_enter func13,ntmps13;go_wp2_with fail
 refine (R0 _).mono ?_;rintro e w1 ⟨rfl,hb1⟩;have HB1:Hid (Below w.heap.size w w1):=zAA hB0 hb1;have HA1:Hid (AtL w1 w.heap.size [.int .i64 s0,.int .i64 r0,.int .i64 c0]):=AtL.below hb1 pA;clear a0 a1 a2 f0 f1 f2 pA hB0 hb1 R0;go_upto_region 3 with fail
 go_loopg [8,9] n (λgk x v wr=>∃ i:Nat,v=.int .i64 i/\x=.bool (q0 && zq4 F i)/\gk=n - i/\i<=n/\Hid (Below w.heap.size w wr)/\Hid (AtL wr w.heap.size [.int .i64 s0,.int .i64 r0,.int .i64 c0]))
 case atStart=>exact ⟨0,rfl,by rw [zq19,Bool.and_true],rfl,Nat.zero_le _,HB1,HA1⟩
 case round =>
  clear HB1 HA1;obtain ⟨i,rfl,rfl,hg,hi,HB,HA⟩:=hrel;by_cases hlt:i<n
  ·have hli:(i:Int)<(n:Int):=by omega
   have hi0':(0:Int)<=(i:Int):=by omega
   have hwi:IntKind.i64.wrap ((i:Int)+1)=(i:Int)+1:=by rw [IntKind.wrap_i64];have:=hn trivial;omega
   obtain ⟨bb,off,rfl,k0,k1,k2⟩:=HV.out.below HB.out i hlt;have R:=λw=>zEe (F i).s (F i).r (F i).c w
   have hB1:=HB.out;have hA1:=HA.out;obtain ⟨q,hq⟩:∃ q,Wpl.rightC (F i).s (F i).r (F i).c=q:=⟨_,rfl⟩
   rw [hq] at R;obtain ⟨p,hp⟩:∃ p,(q0 && zq4 F i)=p:=⟨_,rfl⟩
   have HN:Hid ((q0 && zq4 F (i+1))=(p && q)):=by
    show _=_
    rw [zq17,<-Bool.and_assoc,hp];show (p && Wpl.rightC (F i).s (F i).r (F i).c)=_
    rw [hq]
   rw [hp];generalize (F i).s=s at *;generalize (F i).r=r at *;generalize (F i).c=c at *;clear hp hq HB HA;cases p with
   | true =>
    go_wp2_with fail
    refine (R _).mono ?_;rintro e w2 ⟨rfl,hb2⟩;have HB2:Hid (Below w.heap.size w w2):=zAA hB1 hb2;have HA2:Hid (AtL w2 w.heap.size [.int .i64 s0,.int .i64 r0,.int .i64 c0]):=AtL.below hb2 hA1;clear R k0 k1 k2 hb2 hB1 hA1;go_wp2_with fail
    go_roundg (n - (i+1))
    case rel=>exact ⟨i+1,by simp,by rw [HN.out];rfl,rfl,by omega,HB2,HA2⟩
    case measure=>omega
   | false =>
    go_wp2_with fail
    refine (R _).mono ?_;rintro e w2 ⟨rfl,hb2⟩;have HB2:Hid (Below w.heap.size w w2):=zAA hB1 hb2;have HA2:Hid (AtL w2 w.heap.size [.int .i64 s0,.int .i64 r0,.int .i64 c0]):=AtL.below hb2 hA1;clear R k0 k1 k2 hb2 hB1 hA1;go_wp2_with fail
    go_roundg (n - (i+1))
    case rel=>exact ⟨i+1,by simp,by rw [HN.out];rfl,rfl,by omega,HB2,HA2⟩
    case measure=>omega
  ·have hli:¬ (i:Int)<(n:Int):=by omega
   have hin:i=n:=by omega
   subst hin;clear hlt hg hi;obtain ⟨p,hp⟩:∃ p,(q0 && zq4 F i)=p:=⟨_,rfl⟩
   rw [hp];have HP:Hid ((Wpl.rightC s0 r0 c0 && zq4 F i)=p):=by show _=_;rw [HQ0.out];exact hp
   clear hp HQ0;cases p with
   | false =>
    have hBB:=HB.out;go_wp2;go_ret2
    refine ⟨?_,hBB⟩;unfold FillR;rw [zq28 HP.out];exact ⟨_,rfl,λ_=>rfl,λh=>absurd h (by decide)⟩
   | true =>
    have hPP:=HP.out;rw [Bool.and_eq_true] at hPP;have hr0:=Wpl.rightC_iff.1 hPP.1;have HF:Hid (∀ j,j<i->rgt (F j)=true):=allR_iff.1 hPP.2;have HO0:Hid (∃ G,OwnG wr (w.heap.size+1) (.slice none 0 0) 0 G/\∀ j,j<0->G j=.string ⟨(cpi b.data.toList r0 c0 F j).1.toArray⟩):=⟨λ_=>.int .i64 0,World.ownsRow_nil _ _ _ _,λj hj=>absurd hj (Nat.not_lt_zero _)⟩
    clear hPP;go_upto_region 11 with fail
    go_loopg [11,12] i (λgk x v wr=>∃ (k:Nat) (u:Value),v=.int .i64 k/\u=x/\gk=i - k/\k<=i/\Hid (∃ G,OwnG wr (w.heap.size+1) u k G/\∀ j,j<k->G j=.string ⟨(cpi b.data.toList r0 c0 F j).1.toArray⟩)/\Hid (∀ j,j<k->(cpi b.data.toList r0 c0 F j).2=0)/\Hid (AtL wr w.heap.size [.int .i64 s0,.int .i64 r0,.int .i64 c0])/\Hid (Below w.heap.size w wr))
    case atStart=>exact ⟨0,_,rfl,rfl,rfl,Nat.zero_le _,HO0,(λ_ h=>absurd h (Nat.not_lt_zero _)),HA,HB⟩
    case round =>
     clear HO0 HA HB;obtain ⟨k,u,rfl,rfl,hg,hk,HO,HK,HA,HB⟩:=hrel;by_cases hlt:k<i
     ·have hli2:(k:Int)<(i:Int):=by omega
      have hk0:(0:Int)<=(k:Int):=by omega
      have hwk:IntKind.i64.wrap ((k:Int)+1)=(k:Int)+1:=by rw [IntKind.wrap_i64];have:=hn trivial;omega
      have hbq:=(Below.refl wr.heap.size wr).drew;have hbd:=zAA HB.out hbq;obtain ⟨bb,off,e1,k0,kd1,kd2⟩:=HV.out.below hbd k hlt;have pW:=AtL.below hbq HA.out;have kd3:wr.drew.cell? ⟨w.heap.size,1,none⟩=some (.int .i64 r0):=pW.2.1 1 _ rfl;have kd4:wr.drew.cell? ⟨w.heap.size,2,none⟩=some (.int .i64 c0):=pW.2.1 2 _ rfl;have hri:=HF.out k hlt;unfold rgt at hri;rw [Wpl.rightC_iff] at hri;have hw1:IntKind.i64.wrap ((F k).r - r0)=(F k).r - r0:=by rw [IntKind.wrap_i64];omega
      have hw2:IntKind.i64.wrap ((F k).c - c0)=(F k).c - c0:=by rw [IntKind.wrap_i64];omega
      have C:=CP ((F k).r - r0) ((F k).c - c0) wr.drew ⟨by omega,by omega⟩ ⟨by omega,by omega⟩;obtain ⟨Q,hQ⟩:∃ Q,cpR ((F k).r - r0) ((F k).c - c0) b.data.toList=Q:=⟨_,rfl⟩
      rw [hQ] at C;have HQ:Hid (cpi b.data.toList r0 c0 F k=Q):=hQ;have HW:Hid (AtL wr.drew w.heap.size [.int .i64 s0,.int .i64 r0,.int .i64 c0]):=pW;have HD:Hid (Below w.heap.size w wr.drew):=hbd;have HO1:Hid (∃ G,OwnG wr.drew (w.heap.size+1) u k G/\∀ j,j<k->G j=.string ⟨(cpi b.data.toList r0 c0 F j).1.toArray⟩):=by
       obtain ⟨G,h1,h2⟩:=HO.out;exact ⟨G,OwnG.below h1 hbq,h2⟩
      subst e1;clear hQ k0 pW hri HB hbd hbq HA HO;go_upto_region 13 with fail
      refine wp_region_held_drew (S:=λW=>W.cell? ⟨bb,off+k * 3+1,none⟩=some (.int .i64 (F k).r)/\W.cell? ⟨bb,off+k * 3+2,none⟩=some (.int .i64 (F k).c)/\W.cell? ⟨w.heap.size,1,none⟩=some (.int .i64 r0)/\W.cell? ⟨w.heap.size,2,none⟩=some (.int .i64 c0)) (by kernel_rfl) ⟨kd1,kd2,kd3,kd4⟩ (λhHeld=>?_);generalize wr.drew=WD at *;refine tkQ 0 ⟨some 41,.move (.tmp 0),9,"move.go:92",#[],none⟩ ?_
      refine tkQ 1 ⟨some 42,.move (.tmp 2),42,"move.go:92",#[],none⟩ ?_
      refine tkQ 2 ⟨some 43,.move (.tmp 12),3,"move.go:92",#[],none⟩ ?_
      refine tkQ 3 ⟨some 44,.indexAddr 42 (.tmp 42) (.tmp 43),0,"move.go:92",#[⟨1,.data⟩,⟨2,.data⟩],none⟩ ?_
      refine tkQ 4 ⟨some 45,.fieldAddr 41 (.tmp 44) 1,0,"move.go:92",#[⟨3,.data⟩],none⟩ ?_
      refine tkQ 5 ⟨some 46,.load 3 (.tmp 45),3,"move.go:92",#[⟨4,.data⟩],none⟩ ?_
      refine tkQ 6 ⟨some 47,.fieldAddr 41 (.tmp 4) 1,0,"move.go:92",#[],none⟩ ?_
      refine tkQ 7 ⟨some 48,.load 3 (.tmp 47),3,"move.go:92",#[⟨6,.data⟩],none⟩ ?_
      refine tkQ 8 ⟨some 49,.binOp BinOp.sub 3 (.tmp 46) (.tmp 48) 3,3,"move.go:92",#[⟨5,.data⟩,⟨7,.data⟩],none⟩ ?_
      refine tkQ 9 ⟨some 50,.move (.tmp 2),42,"move.go:92",#[],none⟩ ?_
      refine tkQ 10 ⟨some 51,.move (.tmp 12),3,"move.go:92",#[],none⟩ ?_
      refine tkQ 11 ⟨some 52,.indexAddr 42 (.tmp 50) (.tmp 51),0,"move.go:92",#[⟨9,.data⟩,⟨10,.data⟩],none⟩ ?_
      refine tkQ 12 ⟨some 53,.fieldAddr 41 (.tmp 52) 2,0,"move.go:92",#[⟨11,.data⟩],none⟩ ?_
      refine tkQ 13 ⟨some 54,.load 3 (.tmp 53),3,"move.go:92",#[⟨12,.data⟩],none⟩ ?_
      refine tkQ 14 ⟨some 55,.fieldAddr 41 (.tmp 4) 2,0,"move.go:92",#[],none⟩ ?_
      refine tkQ 15 ⟨some 56,.load 3 (.tmp 55),3,"move.go:92",#[⟨14,.data⟩],none⟩ ?_
      refine tkQ 16 ⟨some 57,.binOp BinOp.sub 3 (.tmp 54) (.tmp 56) 3,3,"move.go:92",#[⟨13,.data⟩,⟨15,.data⟩],none⟩ ?_
      refine rdQ 17 ⟨some 58,.call {callee:=Callee.value (Operand.func 11),args:=#[.tmp 41,.tmp 49,.tmp 57],argTypes:=#[9,3,3]},37,"move.go:92",#[⟨0,.data⟩,⟨8,.data⟩,⟨16,.data⟩],none⟩ (λK hK=>?_);go_simp
      refine C.mono ?_;rintro e w7 ⟨rfl,hb7⟩;go_wp2_with fail
      refine hkQ hK ⟨zAM hb7 kd1,zAM hb7 kd2,zAM hb7 kd3,zAM hb7 kd4⟩ (λhHeld=>?_);clear hK K
      refine tkQ 18 ⟨some 40,.move (.tmp 58),37,"move.go:92",#[⟨17,.data⟩],none⟩ ?_
      refine tkQ 19 ⟨some 59,.extract (.tmp 40) 0,9,"move.go:92",#[⟨18,.data⟩],none⟩ ?_
      refine tkQ 20 ⟨some 60,.extract (.tmp 40) 1,31,"move.go:92",#[⟨18,.data⟩,⟨21,.gcOnly .lateStores⟩],none⟩ ?_
      refine rdQ 21 ⟨some 13,.assign (.tmp 59),9,"move.go:92",#[⟨19,.data⟩,⟨17,.chain⟩,⟨0,.phase⟩,⟨1,.phase⟩,⟨2,.phase⟩,⟨3,.phase⟩,⟨4,.phase⟩,⟨5,.phase⟩,⟨6,.phase⟩,⟨7,.phase⟩,⟨8,.phase⟩,⟨9,.phase⟩,⟨10,.phase⟩,⟨11,.phase⟩,⟨12,.phase⟩,⟨13,.phase⟩,⟨14,.phase⟩,⟨15,.phase⟩,⟨16,.phase⟩,⟨17,.phase⟩,⟨18,.phase⟩,⟨19,.phase⟩,⟨20,.textOnly .lateStores⟩],none⟩ (λK hK=>?_);go_simp
      refine hkQ hK ⟨zAM hb7 kd1,zAM hb7 kd2,zAM hb7 kd3,zAM hb7 kd4⟩ (λhHeld=>?_);clear hK K
      refine rdQ 22 ⟨some 14,.assign (.tmp 60),31,"move.go:92",#[⟨20,.data⟩,⟨21,.chain⟩,⟨0,.phase⟩,⟨1,.phase⟩,⟨2,.phase⟩,⟨3,.phase⟩,⟨4,.phase⟩,⟨5,.phase⟩,⟨6,.phase⟩,⟨7,.phase⟩,⟨8,.phase⟩,⟨9,.phase⟩,⟨10,.phase⟩,⟨11,.phase⟩,⟨12,.phase⟩,⟨13,.phase⟩,⟨14,.phase⟩,⟨15,.phase⟩,⟨16,.phase⟩,⟨17,.phase⟩,⟨18,.phase⟩,⟨19,.phase⟩,⟨20,.phase⟩,⟨21,.phase⟩],none⟩ (λK hK=>?_);go_simp
      refine hkQ hK ⟨zAM hb7 kd1,zAM hb7 kd2,zAM hb7 kd3,zAM hb7 kd4⟩ (λhHeld=>?_);clear hK K
      refine wpAnyH_done (by kernel_rfl) ?_ _;have HB7:Hid (Below w.heap.size w w7):=zAA HD.out hb7;have HA7:Hid (AtL w7 w.heap.size [.int .i64 s0,.int .i64 r0,.int .i64 c0]):=AtL.below hb7 HW.out;obtain ⟨G,hG,hGj⟩:=HO1.out;have hG7:OwnG w7 (w.heap.size+1) u k G:=OwnG.below hG hb7;clear hHeld kd1 kd2 kd3 kd4 hb7 C hw1 hw2 HO1 hG HW HD;obtain ⟨q1,q2⟩:=Q;simp only;by_cases hq2:q2=0
      ·subst hq2;have hlt7:=HA7.out.lt;have hub:∀ j,u.ownBlock=some j->w.heap.size+1<=j:=by
        intro j e;rcases hG7.2 with ⟨rfl,_⟩ | ⟨g,cap,cur,rfl,hB,_⟩
        ·cases e
        ·simp only [Value.ownBlock,Option.some.injEq] at e;omega
       go_wp2_with (at_builtin;refine zq2 (by rfl) (.tmp 64) (.tmp 66) 43 (by rfl) (w.heap.size+1) 9 i0 (.string ⟨#[]⟩) 1 16 underlying43 hi0 hz0 hz1 hz2 rfl (by decide) u k _ (by rfl) (World.ownsRow.alloc hG7 _) (some ⟨w7.heap.size,0,none⟩) 1 1 [.string ⟨q1.toArray⟩] (by rfl) (λh=>by cases h) rfl (zq35 w7 _) (by intro v hv;cases hv with | head=>rfl | tail _ h=>cases h) (by have:=hn trivial;unfold maxLen;omega) (by have:=hn trivial;omega) (by simp only [World.size_alloc];omega) ?_)
       intro v8 w8 own8 hg8;have HB8:Hid (Below w.heap.size w w8):=(zAI HB7.out _).grown hg8 (by simp only [World.size_alloc];omega) (λj e=>by have:=hub j e;omega);have HA8:Hid (AtL w8 w.heap.size [.int .i64 s0,.int .i64 r0,.int .i64 c0]):=(HA7.out.alloc _).grown hg8 (λe=>by have:=hub _ e.symm;omega);have HO8:Hid (∃ G,OwnG w8 (w.heap.size+1) v8 (k+1) G/\∀ j,j<k+1->G j=.string ⟨(cpi b.data.toList r0 c0 F j).1.toArray⟩):=by
        rw [zq20] at own8;refine ⟨_,own8,λj hj=>?_⟩;by_cases hjk:j=k
        ·subst hjk;simp only [if_true];rw [HQ.out]
        ·simp only [if_neg hjk];exact hGj j (by omega)
       have HK8:Hid (∀ j,j<k+1->(cpi b.data.toList r0 c0 F j).2=0):=by
        intro j hj;by_cases hjk:j=k
        ·subst hjk;rw [HQ.out]
        ·exact HK.out j (by omega)
       clear own8 hg8 hub hG7 hGj HK HQ HB7 HA7 hlt7;go_wp2_with fail
       go_roundg (i - (k+1))
       case rel=>exact ⟨k+1,v8,by simp,rfl,rfl,by omega,HO8,HK8,HA8,HB8⟩
       case measure=>omega
      ·have hqb:(q2 != 0)=true:=by simp [hq2]
       have hB7:=HB7.out;clear hG7 hGj HA7;go_wp2;go_ret2
       refine ⟨?_,hB7⟩;have hc:(cpi b.data.toList r0 c0 F k).2 ≠ 0:=by rw [HQ.out];exact hq2
       unfold FillR;rw [zq7 HP.out,zq6 HK.out hc hlt,HQ.out];exact ⟨_,rfl,λ_=>rfl,λh=>absurd h hq2⟩
     ·have hli2:¬ (k:Int)<(i:Int):=by omega
      have hki:k=i:=by omega
      subst hki;have hBB:=HB.out;have hzz:fcR b.data.toList s0 r0 c0 k F=0:=by rw [zq7 HP.out,zq5 HK.out]
      obtain ⟨G,hG,hGj⟩:=HO.out;have ST:=zq11 hG hGj;clear HO HK HA HB hG hGj;go_wp2;go_ret2
      refine ⟨?_,hBB⟩;unfold FillR;rw [hzz];exact ⟨_,rfl,λh=>absurd rfl h,λ_=>ST⟩
