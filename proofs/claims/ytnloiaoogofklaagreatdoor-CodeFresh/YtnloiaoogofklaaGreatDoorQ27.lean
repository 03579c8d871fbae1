/- KPush, KEn, KFeed, KPd, KChoP. -/
import Derived.Test.YtnloiaoogofklaaGreatDoorQ26
set_option maxHeartbeats 1600000
set_option maxRecDepth 100000
namespace Go.Proofs.YtnloiaoogofklaaGreatDoor
open Tryz
open Go.RowKit Wf
set_option linter.unusedVariables false
variable {w w' w1:World} {k B f at' bi bw ba m2 cap2 hi:Nat} {lv s0 s1 lv':Value} {T:Nat->Nat} {ops:Array Oper} {rest:List Oper} {a:Act} {Q:Exit->Act->World->Prop} {op:Oper} {L:List Wf.I} {own:Int} {nm:List ByteArray} {av2:Option Addr}
theorem zS0 (o:Int) (w:World):(Instr.build 48 #[(0,.int .i64 o)]).run prog w=.ok (.agg (zAD (ins o 0 0).1 zAH).toArray) w:=by kernel_rfl
theorem zSV (o a:Int) (w:World):(Instr.build 48 #[(0,.int .i64 o),(1,.int .i64 a)]).run prog w=.ok (.agg (zAD (ins o a 0).1 zAH).toArray) w:=by kernel_rfl
theorem zS5 (o a b:Int) (w:World):(Instr.build 48 #[(0,.int .i64 o),(1,.int .i64 a),(2,.int .i64 b)]).run prog w=.ok (.agg (zAD (ins o a b).1 zAH).toArray) w:=by kernel_rfl
theorem zSX (v:Wt.Vl) (w:World):(Instr.build 48 #[(0,.int .i64 1),(3,.agg (vl6 v).toArray)]).run prog w=.ok (.agg (zAD (zBd v).1 zAH).toArray) w:=by kernel_rfl
theorem zS2 (c:Wpl.Cl) (w:World):(Instr.build 48 #[(0,.int .i64 2),(4,.agg #[.int .i64 c.s,.int .i64 c.r,.int .i64 c.c])]).run prog w=.ok (.agg (zAD (zGw c).1 zAH).toArray) w:=by kernel_rfl
theorem zRb (a:Wpl.Ar) (w:World):(Instr.build 48 #[(0,.int .i64 8),(5,.agg (ar5 a).toArray)]).run prog w=.ok (.agg (zAD (zAv 8 0 a a0I).1 zAH).toArray) w:=by kernel_rfl
theorem zRz (a b:Wpl.Ar) (w:World):(Instr.build 48 #[(0,.int .i64 9),(5,.agg (ar5 a).toArray),(6,.agg (ar5 b).toArray)]).run prog w=.ok (.agg (zAD (zAv 9 0 a b).1 zAH).toArray) w:=by kernel_rfl
theorem zSS (a:Wpl.Ar) (b:Int) (w:World):(Instr.build 48 #[(0,.int .i64 11),(5,.agg (ar5 a).toArray),(2,.int .i64 b)]).run prog w=.ok (.agg (zAD (zAv 11 b a a0I).1 zAH).toArray) w:=by kernel_rfl
theorem zAg (hgd:op.guard=none) (o:Int) (ho:op.op=.build 48 #[(0,.const (.int .i64 o))])
  (h:wpList prog ops Q rest (a.put op.dst (.agg (zAD (ins o 0 0).1 zAH).toArray)) w):wpList prog ops Q (op::rest) a w:=by
 refine wpList_plain hgd λK hK=>?_
 unfold Oper.wp execOp;have hv:a.eval (.const (.int .i64 o))=.int .i64 o:=rfl;simp only [ho,List.map_toArray,List.map_cons,List.map_nil,hv,Sem.run_bind,Sem.run_pure,Result.andThen_ok,zS0];exact hK _ _ h
theorem zB7 (hgd:op.guard=none) (o:Int) (y:Operand) (ho:op.op=.build 48 #[(0,.const (.int .i64 o)),(1,y)]) (v:Int) (hy:a.eval y=.int .i64 v)
  (h:wpList prog ops Q rest (a.put op.dst (.agg (zAD (ins o v 0).1 zAH).toArray)) w):wpList prog ops Q (op::rest) a w:=by
 refine wpList_plain hgd λK hK=>?_
 unfold Oper.wp execOp;have hv:a.eval (.const (.int .i64 o))=.int .i64 o:=rfl;simp only [ho,List.map_toArray,List.map_cons,List.map_nil,hv,hy,Sem.run_bind,Sem.run_pure,Result.andThen_ok,zSV];exact hK _ _ h
theorem zF1 (hgd:op.guard=none) (o:Int) (y z:Operand) (ho:op.op=.build 48 #[(0,.const (.int .i64 o)),(1,y),(2,z)]) (v u:Int) (hy:a.eval y=.int .i64 v) (hz:a.eval z=.int .i64 u)
  (h:wpList prog ops Q rest (a.put op.dst (.agg (zAD (ins o v u).1 zAH).toArray)) w):wpList prog ops Q (op::rest) a w:=by
 refine wpList_plain hgd λK hK=>?_
 unfold Oper.wp execOp;have hv:a.eval (.const (.int .i64 o))=.int .i64 o:=rfl;simp only [ho,List.map_toArray,List.map_cons,List.map_nil,hv,hy,hz,Sem.run_bind,Sem.run_pure,Result.andThen_ok,zS5];exact hK _ _ h
theorem zF5 (hgd:op.guard=none) (y:Operand) (ho:op.op=.build 48 #[(0,.const (.int .i64 1)),(3,y)]) (v:Wt.Vl) (hy:a.eval y=.agg (vl6 v).toArray)
  (h:wpList prog ops Q rest (a.put op.dst (.agg (zAD (zBd v).1 zAH).toArray)) w):wpList prog ops Q (op::rest) a w:=by
 refine wpList_plain hgd λK hK=>?_
 unfold Oper.wp execOp;have hv:a.eval (.const (.int .i64 1))=.int .i64 1:=rfl;simp only [ho,List.map_toArray,List.map_cons,List.map_nil,hv,hy,Sem.run_bind,Sem.run_pure,Result.andThen_ok,zSX];exact hK _ _ h
theorem WP.from (hb:Below w.heap.size w w1) {e:Ending} {w':World} (h:WP k B T s0 s1 L lv w1 e w'):WP k B T s0 s1 L lv w e w':=by
 obtain ⟨⟨lv',P',rfl,h1,h2⟩,h3⟩:=h;exact ⟨⟨lv',P',rfl,h1,λj e=>(h2 j e).imp id (Nat.le_trans hb.size)⟩,(Fr.of_below _ hb).trans h3⟩
theorem zF7 (k B:Nat) (T:Nat->Nat) (v:Wt.Vl) (s0 s1:Value) (L:List I) (lv:Value) (P:List (Wc.In × Value)) (w:World) (h:WS k B T w s0 s1 L lv P) (hkB:k<B) (hB:B<=w.heap.size) (hl:L.length<=1000000) :
  Calls prog 42 #[.pointer (some ⟨k,0,none⟩),.agg (vl6 v).toArray] w (WP k B T s0 s1 (L++[zBd v]) lv w):=by
 have hb0:=zAL (Below.refl _ w) (.cells (vl6 v).toArray 43);have pV:=AtL.new0 w 43 (vl6 v);have LA:=zAk k B T (zBd v).1 s0 s1 L lv P _ (h.below hb0) hkB (Nat.le_trans hB hb0.size) hl;have HW:Hid (∀ e w',WP k B T s0 s1 (L++[zBd v]) lv (w.alloc (.cells (vl6 v).toArray 43)) e w'->WP k B T s0 s1 (L++[zBd v]) lv w e w'):=λe w' q=>q.from hb0
 have rV:=pV.range;clear h hkB hB hl hb0 pV;go_enter func42,ntmps42;go_upto_region 1 with fail
 generalize (w.alloc (.cells (vl6 v).toArray 43))=W at *;go_wp2_with (first | (refine zAA (by rfl) 43 (.tmp 3) rfl w.heap.size 0 rfl (vl6 v) _ rV underlying43 rfl (by kernel_rfl) ?_) | (refine zF5 rfl (.tmp 5) rfl v rfl ?_))
 refine LA.mono ?_;rintro e w1 h1;have HF:=HW.out e w1 h1;obtain ⟨⟨lv',P',rfl,h2,h3⟩,h4⟩:=HF;clear h1 LA rV;have HR:Hid (WP k B T s0 s1 (L++[zBd v]) lv w (.returned (.tuple #[])) w1):=⟨⟨lv',P',rfl,h2,h3⟩,h4⟩
 clear h2 h3 h4;go_wp2;go_end0
 exact HR.out
theorem zFh (k B:Nat) (T:Nat->Nat) (n:Int) (hn:0<=n/\n<=65536) (s0 s1:Value) (L:List I) (lv:Value) (P:List (Wc.In × Value)) (w:World) (h:WS k B T w s0 s1 L lv P) (hkB:k<B) (hB:B<=w.heap.size) (hl:L.length<=1000000) :
  Calls prog 94 #[.pointer (some ⟨k,0,none⟩),.int .i64 n] w (WP k B T s0 s1 (L++[zBd (zDJ n)]) lv w):=by
 have NU:=zJu n 1 w (by omega) (by omega) (by omega) (by omega);have hvn:zQV n 1=zDJ n:=by
  have hr:Wnum.rightB n 1=true:=by
   unfold Wnum.rightB;simp;omega
  simp [zQV,zDJ,Wnum.cN,Wnum.cD,hr]
 rw [hvn] at NU;have HPU:Hid (∀ w1:World,Below w.heap.size w w1->Calls prog 42 #[.pointer (some ⟨k,0,none⟩),.agg (vl6 (zDJ n)).toArray] w1 (WP k B T s0 s1 (L++[zBd (zDJ n)]) lv w1)):=λw1 hb=>zF7 k B T (zDJ n) s0 s1 L lv P w1 (h.below hb) hkB (Nat.le_trans hB hb.size) hl
 clear h hkB hB hl hvn hn;unfold vlV at NU;go_enter func94,ntmps94;go_wp2_with fail
 refine NU.mono ?_;rintro e w1 ⟨rfl,hb1⟩;have PU:=HPU.out w1 hb1;clear NU HPU;generalize zDJ n=nv at *;go_wp2_with fail
 refine PU.mono ?_;rintro e w2 h2;have HF:=h2.from hb1
 obtain ⟨⟨lv',P',rfl,h2,h3⟩,h4⟩:=HF;have HR:Hid (WP k B T s0 s1 (L++[zBd nv]) lv w (.returned (.tuple #[])) w2):=⟨⟨lv',P',rfl,h2,h3⟩,h4⟩
 clear h2 h3 h4 PU hb1;go_wp2;go_end0
 exact HR.out
def JP (k B:Nat) (T:Nat->Nat) (s0 s1:Value) (L:List I) (lv:Value) (w:World) (e:Ending) (w':World):Prop :=
 (∃ cl bs lv' P',e=.returned cl/\Cl k w' 118 L.length bs cl/\(∀ b ∈ bs,w.heap.size<=b/\b<w'.heap.size/\¬ lv'.ownBlock=some b)/\WS k B T w' s0 s1 (L++[ins 13 0 0]) lv' P'/\Nx w lv lv')/\Fr (k::lv.ownBlock.toList) w w'
theorem zOM (k B:Nat) (T:Nat->Nat) (s0 s1:Value) (L:List I) (lv:Value) (P:List (Wc.In × Value)) (w:World) (h:WS k B T w s0 s1 L lv P) (hkB:k<B) (hB:B<=w.heap.size) (hl:L.length<=999999) :
  Calls prog 120 #[.pointer (some ⟨k,0,none⟩)] w (JP k B T s0 s1 L lv w):=by
 have LA:=zAk k B T (ins 13 0 0).1 s0 s1 L lv P w h hkB hB (by omega);have HLL:Hid (L.length<=999999):=hl;unfold JP;clear h hkB hB hl;go_enter func120,ntmps120;go_wp2_with (first | (refine zAg rfl 13 rfl ?_))
 refine LA.mono ?_;rintro e w1 ⟨⟨lv1,P1,rfl,ws1,nx1⟩,fr1⟩;have LT:=zDA k B 118 T s0 s1 _ lv1 P1 w1 ws1 (by simp) (by have:=HLL.out;simp;omega);rw [show (L++[((ins 13 0 0).1,([]:List Int))]).length - 1=L.length from by simp] at LT;have HW:Hid (WS k B T w1 s0 s1 (L++[ins 13 0 0]) lv1 P1/\Nx w lv lv1/\Fr (k::lv.ownBlock.toList) w w1):=⟨ws1,nx1,fr1⟩
 clear LA ws1 nx1 fr1;go_wp2_with fail
 refine LT.mono ?_;rintro e w2 ⟨⟨cl,bs,rfl,hcl,hbs⟩,hb2⟩;have hsl:∃ bi bw ba,cl=.func (.func 128) #[] #[.pointer (some ⟨bi,0,none⟩),.pointer (some ⟨bw,0,none⟩),.pointer (some ⟨ba,0,none⟩)]:=by
  obtain ⟨bi,bw,ba,_,e,_⟩:=hcl;exact ⟨bi,bw,ba,e⟩
 have HR:Hid ((∃ bs lv' P',Cl k w2 118 L.length bs cl/\(∀ b ∈ bs,w.heap.size<=b/\b<w2.heap.size/\¬ lv'.ownBlock=some b)/\WS k B T w2 s0 s1 (L++[ins 13 0 0]) lv' P'/\Nx w lv lv')/\Fr (k::lv.ownBlock.toList) w w2):=by
  obtain ⟨q1,q2,q3⟩:=HW.out;refine ⟨⟨bs,lv1,P1,hcl,λb hb=>⟨Nat.le_trans q3.size (hbs b hb).1,(hbs b hb).2,λe=>?_⟩,q1.below hb2,q2⟩,q3.trans (Fr.of_below _ hb2)⟩;have:=(zAI q1.own e).2;have:=(hbs b hb).1;omega
 obtain ⟨bi,bw,ba,rfl⟩:=hsl;clear LT HW hcl hbs hb2;go_wp2;go_ret;obtain ⟨⟨bs,lv',P',r1,r2,r3,r4⟩,r5⟩:=HR.out;exact ⟨⟨_,bs,lv',P',rfl,r1,r2,r3,r4⟩,r5⟩
structure En (own:Int) (nm:List ByteArray) (av2:Option Addr) (m2 cap2 k B:Nat) (T:Nat->Nat) (hi:Nat) (w:World):Prop where
 na:NmAt w
 rs:RdS w av2 nm
 hm:m2=nm.length
 hl:nm.length<=16
 rk:∀ bb off,av2=some ⟨bb,off,none⟩->bb<k
 gk:0<k
 hk:hi<=k
 kB:k<B
 hB:B<=w.heap.size
 tl:∀ i,T i<=w.heap.size
theorem En.fr (h:En own nm av2 m2 cap2 k B T hi w) {S:List Nat} (f:Fr S w w') (hs:∀ j ∈ S,k<=j):En own nm av2 m2 cap2 k B T hi w' :=
 ⟨λj v hv=>f.cell (h.na j v hv) (λhm=>by have:=hs _ hm;have:=h.gk;omega),λi hi'=>by
  obtain ⟨bb,off,e,hc⟩:=h.rs i hi';exact ⟨bb,off,e,f.cell hc (λhm=>by have:=hs _ hm;have:=h.rk bb off e;omega)⟩,h.hm,h.hl,h.rk,h.gk,h.hk,h.kB,Nat.le_trans h.hB f.size,λi=>Nat.le_trans (h.tl i) f.size⟩
theorem En.below (h:En own nm av2 m2 cap2 k B T hi w) (hb:Below w.heap.size w w'):En own nm av2 m2 cap2 k B T hi w':=h.fr (Fr.of_below [] hb) (by simp)
theorem zNr {P:List (Wc.In × Value)} (h:WS k B T w s0 s1 L lv P) (hkB:k<B):∀ j ∈ k::lv.ownBlock.toList,k<=j:=λj hj=>by
 rcases List.mem_cons.1 hj with q | q
 ·omega
 ·have:=(zAI h.own (show lv.ownBlock=some j by simpa using q)).1;omega
theorem zDb {α:Type} (f:α->Nat->List I):∀ (l m:List α) (a:Nat),zA6 f (l++m) a=zA6 f l a++zA6 f m (a+(zA6 f l a).length)
 | [],m,a=>by simp [zA6]
 | x::l,m,a=>by
  simp only [List.cons_append,zA6,zDb f l m,List.append_assoc,List.length_append];rw [Nat.add_assoc]
theorem zCf {α:Type} (f:α->Nat->List I) (l:List α) (i:Nat) (h:i<l.length) (a:Nat):zA6 f (l.take (i+1)) a=zA6 f (l.take i) a++f l[i] (a+(zA6 f (l.take i) a).length):=by
 rw [List.take_succ_eq_append_getElem h,zDb];simp [zA6]
theorem zFN {α:Type} (f:α->Nat->List I) (l:List α) (i:Nat) (a:Nat):(zA6 f (l.take i) a).length<=(zA6 f l a).length:=by
 have h:zA6 f l a=zA6 f (l.take i++l.drop i) a:=by rw [List.take_append_drop]
 rw [h,zDb,List.length_append];omega
section
variable (own:Int) (nm:List ByteArray) (av2:Option Addr) (m2 cap2:Nat)
def Wr (n:Nat) (t:Tr n):Prop:=zC0 n t/\zCA own nm n t=0/\isA (hd n t)=false
def PtC (n:Nat):Prop:=∀ (t:Tr n) (sl:Value) (lo hi k B:Nat) (T:Nat->Nat) (w:World) (L:List I) (lv:Value) (P:List (Wc.In × Value)),Wr own nm n t->PA n lo hi w t sl->En own nm av2 m2 cap2 k B T hi w->WS k B T w (.int .i64 own) (.slice av2 m2 cap2) L lv P->L.length+(cod own nm n t L.length).length<=900000 ->
 Calls prog 28 #[.pointer (some ⟨k,0,none⟩),.agg (zAK (hd n t) sl).toArray] w (WP k B T (.int .i64 own) (.slice av2 m2 cap2) (L++cod own nm n t L.length) lv w)
def AlC (n:Nat):Prop:=∀ (ps:List (Tr n × Value)) (av:Option Addr) (m cap lo hi k B:Nat) (T:Nat->Nat) (w:World) (L:List I) (lv:Value) (P:List (Wc.In × Value)),m=ps.length->ps.length<=30->(∀ p ∈ ps,Wr own nm n p.1)->(∀ p ∈ ps,PA n lo hi w p.1 p.2)->RdQ w av (ps.map λp=>(hd n p.1,p.2))->(0<ps.length->∀ bb off,av=some ⟨bb,off,none⟩->∀ j,lv.ownBlock=some j->bb ≠ j)->(0<ps.length->∀ bb off,av=some ⟨bb,off,none⟩->bb ≠ k/\bb<w.heap.size)->En own nm av2 m2 cap2 k B T hi w->WS k B T w (.int .i64 own) (.slice av2 m2 cap2) L lv P->L.length+(zA6 (cod own nm n) (ps.map (·.1)) L.length).length<=900000 ->
 Calls prog 44 #[.pointer (some ⟨k,0,none⟩),.slice av m cap] w (WP k B T (.int .i64 own) (.slice av2 m2 cap2) (L++zA6 (cod own nm n) (ps.map (·.1)) L.length) lv w)
end
theorem zGJ (own:Int) (nm:List ByteArray) (av2:Option Addr) (m2 cap2 n:Nat) (ih:PtC own nm av2 m2 cap2 n):AlC own nm av2 m2 cap2 n:=by
 intro ps av m cap lo hi k B T w L lv P hm hl hw hpa hrd hav havk hen hws hbd;have HM:Hid (m=ps.length/\ps.length<=30):=⟨hm,hl⟩
 have HW:Hid (∀ p ∈ ps,Wr own nm n p.1):=hw;have HPA:Hid (∀ p ∈ ps,PA n lo hi w p.1 p.2):=hpa;have HRD:Hid (RdQ w av (ps.map λp=>(hd n p.1,p.2))):=hrd;have HAV:Hid ((0<ps.length->∀ bb off,av=some ⟨bb,off,none⟩->∀ j,lv.ownBlock=some j->bb ≠ j)/\(0<ps.length->∀ bb off,av=some ⟨bb,off,none⟩->bb ≠ k/\bb<w.heap.size)):=⟨hav,havk⟩
 have HEN:Hid (En own nm av2 m2 cap2 k B T hi w):=hen;have HBD:Hid (L.length+(zA6 (cod own nm n) (ps.map (·.1)) L.length).length<=900000):=hbd;have HIH:Hid (PtC own nm av2 m2 cap2 n):=ih;have HGE:Hid (∀ j ∈ k::lv.ownBlock.toList,k<=j):=zNr hws hen.kB;have HW0:Hid (WS k B T w (.int .i64 own) (.slice av2 m2 cap2) (L++zA6 (cod own nm n) ((ps.map (·.1)).take 0) L.length) lv P):=by show WS _ _ _ _ _ _ _ _ _;simpa [zA6] using hws
 obtain ⟨LF,hLF⟩:∃ LF,L++zA6 (cod own nm n) (ps.map (·.1)) L.length=LF:=⟨_,rfl⟩
 rw [hLF];have HLF:Hid (L++zA6 (cod own nm n) (ps.map (·.1)) L.length=LF):=hLF;clear hm hl hw hpa hrd hav havk hen hws hbd ih hLF;go_enter func44,ntmps44;go_wp2_with fail
 go_loopg [5,8] m (λgk u x wr=>∃ (i:Nat),x=.int .i64 (i:Int)/\gk=m - i/\i<=m/\Hid (∃ lvi Pi,WS k B T wr (.int .i64 own) (.slice av2 m2 cap2) (L++zA6 (cod own nm n) ((ps.map (·.1)).take i) L.length) lvi Pi/\Nx w lv lvi)/\Hid (Fr (k::lv.ownBlock.toList) w wr))
 case atStart=>exact ⟨0,rfl,rfl,Nat.zero_le _,⟨lv,P,HW0.out,Nx.refl _ _⟩,Fr.refl _ _⟩
 case round =>
  clear HW0;obtain ⟨i,rfl,hg,him,HS,HF⟩:=hrel;by_cases hlt:i<m
  ·have hli:(i:Int)<(m:Int):=by omega
   have hiz:(0:Int)<=(i:Int):=by omega
   have hwi:IntKind.i64.wrap ((i:Int)+1)=(i:Int)+1:=by have:=HM.out;rw [IntKind.wrap_i64];omega
   have hln:i<ps.length:=by have:=HM.out;omega
   obtain ⟨bb,off,rfl,hr0⟩:=HRD.out i (by simpa using hln);simp only [List.getElem_map] at hr0;have hbn:bb ∉ k::lv.ownBlock.toList:=λhm=>by
    rcases List.mem_cons.1 hm with q | q
    ·exact (HAV.out.2 (by omega) bb off rfl).1 q
    ·exact HAV.out.1 (by omega) bb off rfl bb (by simpa using q) rfl
   have hr:=HF.out.range hr0 hbn;have hpi:=List.getElem_mem hln;have hkp:Kept lo hi w wr:=Kept.of_fr HF.out (λj hj=>by have:=HGE.out j hj;have:=HEN.out.hk;omega);have hpa:=PA.kept hkp n _ _ (HPA.out _ hpi);obtain ⟨sa,sb,sc,hsl⟩:=hpa.slice;have hen:=HEN.out.fr HF.out HGE.out;obtain ⟨lvi,Pi,wsi,nxi⟩:=HS.out;have hstep:=zCf (cod own nm n) (ps.map (·.1)) i (by simpa using hln) L.length;have hle:=zFN (cod own nm n) (ps.map (·.1)) (i+1) L.length;rw [hstep,List.length_append,List.getElem_map] at hle;rw [List.getElem_map] at hstep;have PT0:=λ(W:World) (hb:Below wr.heap.size wr W)=>HIH.out (ps[i]).1 (ps[i]).2 lo hi k B T W _ lvi Pi (HW.out _ hpi) (PA.kept (Kept.of_below hb) n _ _ hpa) (hen.below hb) (wsi.below hb) (by rw [List.length_append];have:=HBD.out;omega)
   have hth:World.there (wr.alloc (.cells zeros21 76)) wr.heap.size 0 (zAK (hd n (ps[i]).1) (.slice sa sb sc)).toArray.size:=(AtL.new0 wr _ _:AtL (wr.alloc (.cells zeros21 76)) wr.heap.size zeros21.toList).there;rw [hsl] at PT0 hr;rw [List.length_append] at PT0;have HST:Hid (L++zA6 (cod own nm n) ((ps.map (·.1)).take (i+1)) L.length=(L++zA6 (cod own nm n) ((ps.map (·.1)).take i) L.length)++cod own nm n (ps[i]).1 (L.length+(zA6 (cod own nm n) ((ps.map (·.1)).take i) L.length).length)):=by show _=_;rw [hstep,List.append_assoc]
   obtain ⟨y,hy⟩:∃ y,hd n (ps[i]).1=y:=⟨_,rfl⟩
   rw [hy] at PT0 hr hth;obtain ⟨LN,hLN⟩:∃ LN,(L++zA6 (cod own nm n) ((ps.map (·.1)).take i) L.length)++cod own nm n (ps[i]).1 (L.length+(zA6 (cod own nm n) ((ps.map (·.1)).take i) L.length).length)=LN:=⟨_,rfl⟩
   rw [hLN] at PT0 HST;have HNI:Hid (Nx w lv lvi):=nxi;clear hstep hle hsl hy hLN hpa hkp hr0 hbn hpi hln nxi wsi hen HS;have HPI:Hid (AtL ((wr.alloc (.cells zeros21 76)).setCells wr.heap.size 0 (zAK y (.slice sa sb sc))) wr.heap.size (zAK y (.slice sa sb sc))):=(AtL.new0 wr _ _:AtL (wr.alloc (.cells zeros21 76)) wr.heap.size zeros21.toList).setAll rfl;have hHB:Below wr.heap.size wr ((wr.alloc (.cells zeros21 76)).setCells wr.heap.size 0 (zAK y (.slice sa sb sc))):=zAs (zAL (Below.refl _ wr) _) (Nat.le_refl _) _ 0;have PT:=PT0 _ hHB;have HHB:Hid (Below wr.heap.size wr ((wr.alloc (.cells zeros21 76)).setCells wr.heap.size 0 (zAK y (.slice sa sb sc)))):=hHB;clear PT0 hHB;go_upto_region 3 with (first | (refine zAA (by rfl) 76 (.tmp 10) rfl bb (off+i * 21) rfl (zAK y (.slice sa sb sc)) _ hr underlying76 rfl (by kernel_rfl) ?_) | ((with_reducible refine wpList_store_mid ?_ 76 (.tmp 5) (.tmp 11) ?_ wr.heap.size 0 (zAK y (.slice sa sb sc)).toArray ?_ ?_ ?_ ?_ ?_ ?_);rfl;rfl;rfl;rfl;exact hth;kernel_rfl;exact zC1 _ _ _ _))
   clear hth hr;generalize ((wr.alloc (.cells zeros21 76)).setCells wr.heap.size 0 (zAK y (.slice sa sb sc)))=W2 at *;have rI:=HPI.out.range;go_wp2_with (first | (refine zAA (by rfl) 76 (.tmp 5) rfl wr.heap.size 0 rfl (zAK y (.slice sa sb sc)) _ rI underlying76 rfl (by kernel_rfl) ?_))
   refine PT.mono ?_;rintro e w3 h3;obtain ⟨⟨lv3,P3,rfl,ws3,nx3⟩,fr3⟩:=h3.from HHB.out
   have HS3:Hid (∃ lvi Pi,WS k B T w3 (.int .i64 own) (.slice av2 m2 cap2) (L++zA6 (cod own nm n) ((ps.map (·.1)).take (i+1)) L.length) lvi Pi/\Nx w lv lvi):=by
    rw [HST.out];exact ⟨lv3,P3,ws3,HNI.out.trans nx3 HF.out.size⟩
   have HF3:Hid (Fr (k::lv.ownBlock.toList) w w3):=zKe HF.out fr3 HNI.out;clear PT rI HPI HHB h3 ws3 nx3 fr3 HNI HF HST;go_wp2_with fail
   go_roundg (m - (i+1))
   case rel=>exact ⟨i+1,by simp,rfl,hlt,HS3,HF3⟩
   case measure=>omega
  ·have hli:¬ (i:Int)<(m:Int):=by omega
   have HS2:Hid (∃ lvi Pi,WS k B T wr (.int .i64 own) (.slice av2 m2 cap2) LF lvi Pi/\Nx w lv lvi):=by
    have hie:(ps.map (·.1)).length<=i:=by have:=HM.out;simp;omega
    have:=HS.out;rw [List.take_of_length_le hie,HLF.out] at this;exact this
   have HR:Hid (WP k B T (.int .i64 own) (.slice av2 m2 cap2) LF lv w (.returned (.tuple #[])) wr):=by
    obtain ⟨lvi,Pi,r1,r2⟩:=HS2.out;exact ⟨⟨lvi,Pi,rfl,r1,r2⟩,HF.out⟩
   clear HS HS2;go_wp2;go_end0
   exact HR.out
open Go.RowKit Wf
theorem WP.then {L1 L2:List I} {lv1:Value} {w2:World} {P1:List (Wc.In × Value)} (fr1:Fr (k::lv.ownBlock.toList) w w1) (nx1:Nx w lv lv1) {e:Ending} (h:WP k B T s0 s1 L2 lv1 w1 e w2):WP k B T s0 s1 L2 lv w e w2:=by
 obtain ⟨⟨lv2,P2,e2,ws2,nx2⟩,fr2⟩:=h;exact ⟨⟨lv2,P2,e2,ws2,nx1.trans nx2 fr1.size⟩,zKe fr1 fr2 nx1⟩
theorem WP.ret {e:Ending} (h:WP k B T s0 s1 L lv w e w'):e=.returned (.tuple #[]):=by
 obtain ⟨⟨lv2,P2,e2,_⟩,_⟩:=h;exact e2
section
variable (own:Int) (nm:List ByteArray) (av2:Option Addr) (m2 cap2:Nat)
def FdC (n:Nat):Prop:=∀ (t:Tr n) (sl:Value) (lo hi k B:Nat) (T:Nat->Nat) (w:World) (L:List I) (lv:Value) (P:List (Wc.In × Value)),Wr own nm n t->PA n lo hi w t sl->En own nm av2 m2 cap2 k B T hi w->WS k B T w (.int .i64 own) (.slice av2 m2 cap2) L lv P->L.length+(zAm (cod own nm n) t L.length).length<=900000 ->
 Calls prog 92 #[.pointer (some ⟨k,0,none⟩),.agg (zAK (hd n t) sl).toArray] w (WP k B T (.int .i64 own) (.slice av2 m2 cap2) (L++zAm (cod own nm n) t L.length) lv w)
end
theorem zJP (own:Int) (nm:List ByteArray) (av2:Option Addr) (m2 cap2 n:Nat) (ih:PtC own nm av2 m2 cap2 n):FdC own nm av2 m2 cap2 n:=by
 intro t sl lo hi k B T w L lv P hw hpa hen hws hbd;have hfl:(zAm (cod own nm n) t L.length).length=(cod own nm n t L.length).length+1:=by simp [zAm]
 have hfe:L++zAm (cod own nm n) t L.length=(L++cod own nm n t L.length)++[((ins 7 0 0).1,[])]:=by rw [List.append_assoc];rfl
 rw [hfl] at hbd;rw [hfe];obtain ⟨sa,sb,sc,rfl⟩:=hpa.slice;have hb0:=zAL (Below.refl _ w) (.cells (zAK (hd n t) (.slice sa sb sc)).toArray 76);have rP:=(AtL.new0 w 76 (zAK (hd n t) (.slice sa sb sc))).range;have PT:=ih t (.slice sa sb sc) lo hi k B T _ L lv P hw (PA.kept (Kept.of_below hb0) n _ _ hpa) (hen.below hb0) (hws.below hb0) (by omega);have HEN:Hid (k<B/\B<=w.heap.size):=⟨hen.kB,hen.hB⟩
 have HBL:Hid ((L++cod own nm n t L.length).length<=1000000):=by show _<=_;rw [List.length_append];omega
 generalize L++cod own nm n t L.length=L1 at *;generalize hd n t=y at *;have HB0:Hid (Below w.heap.size w (w.alloc (.cells (zAK y (.slice sa sb sc)).toArray 76))):=hb0;clear hfl hfe hbd hw hpa hen hws ih hb0;go_enter func92,ntmps92;go_upto_region 1 with fail
 generalize (w.alloc (.cells (zAK y (.slice sa sb sc)).toArray 76))=W at *;go_wp2_with (first | (refine zAA (by rfl) 76 (.tmp 3) rfl w.heap.size 0 rfl (zAK y (.slice sa sb sc)) _ rP underlying76 rfl (by kernel_rfl) ?_))
 refine PT.mono ?_;rintro e w1 h1;obtain ⟨⟨lv1,P1,rfl,ws1,nx1⟩,fr1⟩:=h1.from HB0.out
 have LA:=zAk k B T (ins 7 0 0).1 _ _ L1 lv1 P1 w1 ws1 HEN.out.1 (Nat.le_trans HEN.out.2 fr1.size) HBL.out;have HFN:Hid (Fr (k::lv.ownBlock.toList) w w1/\Nx w lv lv1):=⟨fr1,nx1⟩
 clear PT rP h1 ws1 nx1 fr1 HB0;go_wp2_with (first | (refine zAg rfl 7 rfl ?_))
 refine LA.mono ?_;rintro e w2 h2;have h3:=WP.then (P1:=P1) (L1:=L1) HFN.out.1 HFN.out.2 h2;obtain rfl:=h3.ret;have HR:Hid (WP k B T (.int .i64 own) (.slice av2 m2 cap2) (L1++[((ins 7 0 0).1,[])]) lv w (.returned (.tuple #[])) w2):=h3;clear h2 h3 LA HFN;go_wp2;go_end0
 exact HR.out
theorem zCN {α:Type} (a:List α) (x y:α) (b:List α) (i:Nat) (h:i=a.length):(a++x::b).set i y=a++y::b:=by
 subst h;simp
theorem zNQ {α:Type} (a:List α) (x:α) (b:List α) (i:Nat) (h:i=a.length) (hi:i<(a++x::b).length):(a++x::b)[i]=x:=by
 subst h;simp
section
variable (own:Int) (nm:List ByteArray) (av2:Option Addr) (m2 cap2:Nat)
def zNd (n:Nat) (t:Tr n) (a:Nat):List I:=ins 14 (a+1+(cod own nm n t (a+1)).length:Nat) 0::cod own nm n t (a+1)
def GdC (n:Nat):Prop:=∀ (t:Tr n) (sl:Value) (lo hi k B:Nat) (T:Nat->Nat) (w:World) (L:List I) (lv:Value) (P:List (Wc.In × Value)),Wr own nm n t->PA n lo hi w t sl->En own nm av2 m2 cap2 k B T hi w->WS k B T w (.int .i64 own) (.slice av2 m2 cap2) L lv P->L.length+(zNd own nm n t L.length).length<=900000 ->
 Calls prog 99 #[.pointer (some ⟨k,0,none⟩),.agg (zAK (hd n t) sl).toArray] w (WP k B T (.int .i64 own) (.slice av2 m2 cap2) (L++zNd own nm n t L.length) lv w)
end
theorem zLP (own:Int) (nm:List ByteArray) (av2:Option Addr) (m2 cap2 n:Nat) (ih:PtC own nm av2 m2 cap2 n):GdC own nm av2 m2 cap2 n:=by
 intro t sl lo hi k B T w L lv P hw hpa hen hws hbd;have hgl:(zNd own nm n t L.length).length=(cod own nm n t (L.length+1)).length+1:=by simp [zNd]
 rw [hgl] at hbd;obtain ⟨sa,sb,sc,rfl⟩:=hpa.slice;have hb0:=zAL (Below.refl _ w) (.cells (zAK (hd n t) (.slice sa sb sc)).toArray 76);have HRP:Hid ((w.alloc (.cells (zAK (hd n t) (.slice sa sb sc)).toArray 76)).rangeAt w.heap.size 0 (zAK (hd n t) (.slice sa sb sc))):=(AtL.new0 w 76 (zAK (hd n t) (.slice sa sb sc))).range;have LA:=zAk k B T (ins 14 0 0).1 _ _ L lv P _ (hws.below hb0) hen.kB (Nat.le_trans hen.hB hb0.size) (by omega);have HGE:Hid (∀ j ∈ k::lv.ownBlock.toList,k<=j):=zNr hws hen.kB;have HLV:Hid (∀ j,lv.ownBlock=some j->B<=j/\j<w.heap.size):=λj e=>zAI hws.own e
 have HPT:Hid (∀ (W:World) (lv1:Value) (P1:List (Wc.In × Value)) (S:List Nat),Fr S w W->(∀ j ∈ S,k<=j)->WS k B T W (.int .i64 own) (.slice av2 m2 cap2) (L++[ins 14 0 0]) lv1 P1->Calls prog 28 #[.pointer (some ⟨k,0,none⟩),.agg (zAK (hd n t) (.slice sa sb sc)).toArray] W (WP k B T (.int .i64 own) (.slice av2 m2 cap2) (L++ins 14 0 0::cod own nm n t (L.length+1)) lv1 W)):=λW lv1 P1 S f hs ws1=>by
  have:=ih t (.slice sa sb sc) lo hi k B T W (L++[ins 14 0 0]) lv1 P1 hw (PA.kept (Kept.of_fr f (λj hj=>by have:=hs j hj;have:=hen.hk;omega)) n _ _ hpa) (hen.fr f hs) ws1 (by simp;omega);rw [show (L++[ins 14 0 0]).length=L.length+1 from by simp,List.append_assoc] at this;exact this
 have HEN:Hid (k<B/\B<=w.heap.size):=⟨hen.kB,hen.hB⟩
 have HBD:Hid (L.length+((cod own nm n t (L.length+1)).length+1)<=900000):=hbd;have HGR:Hid (L++zNd own nm n t L.length=L++({(ins 14 0 0).1 with a:=((L.length+1+(cod own nm n t (L.length+1)).length:Nat):Int)},[])::cod own nm n t (L.length+1)):=rfl;obtain ⟨LF,hLF⟩:∃ LF,L++zNd own nm n t L.length=LF:=⟨_,rfl⟩
 rw [hLF];rw [hLF] at HGR;generalize cod own nm n t (L.length+1)=cd at *;generalize hd n t=y at *;have HB0:Hid (Below w.heap.size w (w.alloc (.cells (zAK y (.slice sa sb sc)).toArray 76))):=hb0;clear hgl hbd hw hpa hen hws ih hb0 hLF;go_enter func99,ntmps99;go_upto_region 1 with fail
 generalize (w.alloc (.cells (zAK y (.slice sa sb sc)).toArray 76))=W at *;go_wp2_with (first | (refine zAg rfl 14 rfl ?_))
 refine LA.mono ?_;rintro e w1 h1;obtain ⟨⟨lv1,P1,rfl,ws1,nx1⟩,fr1⟩:=h1.from HB0.out
 have LT:=zDA k B 118 T _ _ _ lv1 P1 w1 ws1 (by simp) (by have:=HBD.out;simp;omega);rw [show (L++[((ins 14 0 0).1,([]:List Int))]).length - 1=L.length from by simp] at LT;have HW1:Hid (WS k B T w1 (.int .i64 own) (.slice av2 m2 cap2) (L++[ins 14 0 0]) lv1 P1/\Nx w lv lv1/\Fr (k::lv.ownBlock.toList) w w1):=⟨ws1,nx1,fr1⟩
 have HRP1:Hid (w1.rangeAt w.heap.size 0 (zAK y (.slice sa sb sc))):=by
  obtain ⟨⟨lv0,P0,_,_,_⟩,f0⟩:=h1;exact f0.range HRP.out (λhm=>by
   rcases List.mem_cons.1 hm with q | q
   ·have:=HEN.out;omega
   ·have:=(HLV.out w.heap.size (by simpa using q)).2;omega)
 clear LA h1 ws1 nx1 fr1 HB0 HRP;go_wp2_with fail
 refine LT.mono ?_;rintro e w2 ⟨⟨cl,bs,rfl,hcl,hbs⟩,hb2⟩;obtain ⟨q1,q2,q3⟩:=HW1.out;have rP:=zAF hb2 HRP1.out;have hf2:=q3.trans (Fr.of_below _ hb2);have PT:=HPT.out w2 lv1 P1 _ hf2 HGE.out (q1.below hb2);have HCL:Hid (Cl k w2 118 L.length bs cl/\(∀ b ∈ bs,w1.heap.size<=b/\b<w2.heap.size)/\(∀ j,lv1.ownBlock=some j->B<=j/\j<w1.heap.size)/\Fr (k::lv.ownBlock.toList) w w2/\Nx w lv lv1/\w.heap.size<=w1.heap.size):=⟨hcl,hbs,λj e=>zAI q1.own e,hf2,q2,q3.size⟩
 obtain ⟨bi,bw,ba,hbse,rfl,hc1,hc2,hc3⟩:=hcl;clear hc1 hc2 hc3 hbs hb2 q1 q2 q3 hf2 HW1 HRP1 LT HPT;go_wp2_with (first | (refine zAA (by rfl) 76 (.tmp 3) rfl w.heap.size 0 rfl (zAK y (.slice sa sb sc)) _ rP underlying76 rfl (by kernel_rfl) ?_))
 refine PT.mono ?_;rintro e w3 ⟨⟨lv3,P3,rfl,ws3,nx3⟩,fr3⟩;obtain ⟨c1,c2,c3,c4,c5,c6⟩:=HCL.out;have hcl3:=c1.fr fr3 (λb hb hm=>by
  have h9:=c2 b hb;rcases List.mem_cons.1 hm with q | q
  ·have:=HEN.out;omega
  ·have:=(c3 b (by simpa using q)).2;omega)
 have hnl:∀ b ∈ bs,∀ j,lv3.ownBlock=some j->b ≠ j:=λb hb j e=>by
  have h9:=c2 b hb;rcases nx3 j e with q | q
  ·have:=(c3 j q).2;omega
  ·omega
 obtain ⟨bi3,bw3,ba3,hbs3,hcv,d1,d2,d3⟩:=hcl3;simp only [Value.func.injEq,true_and,Array.mk.injEq,List.cons.injEq,Value.pointer.injEq,Option.some.injEq,Addr.mk.injEq,and_true] at hcv;obtain ⟨rfl,rfl,rfl⟩:=hcv;rw [hbs3] at hnl;have CA:=zFV k B T _ _ _ lv3 P3 w3 L.length bi bw ba ws3 HEN.out.1 (by have:=HBD.out;simp;omega) (by simp) d1 d2 d3 (λj e=>⟨hnl bi (by simp) j e,hnl bw (by simp) j e,hnl ba (by simp) j e⟩);rw [zCN L _ _ cd L.length rfl] at CA;simp only [zNQ L _ cd L.length rfl] at CA;have eg:∀ args w,(callFunc 128 args).run prog w=.ok (.enter 128 args) w:=λ_ _=>by kernel_rfl
 have HR0:Hid (∀ w4:World,(∃ P',WS k B T w4 (.int .i64 own) (.slice av2 m2 cap2) (L++({(ins 14 0 0).1 with a:=((L++ins 14 0 0::cd).length:Int)},(ins 14 0 0).2)::cd) lv3 P')->Fr lv3.ownBlock.toList w3 w4->WP k B T (.int .i64 own) (.slice av2 m2 cap2) LF lv w (.returned (.tuple #[])) w4):=by
  intro w4 hP hf;obtain ⟨P4,ws4⟩:=hP;have hlen:(((L++ins 14 0 0::cd).length:Nat):Int)=((L.length+1+cd.length:Nat):Int):=by simp;omega
  rw [hlen] at ws4;have hLF:=HGR.out;refine ⟨⟨lv3,P4,rfl,by rw [hLF];exact ws4,c5.trans nx3 c4.size⟩,?_⟩;have f3:Fr (k::lv.ownBlock.toList) w w3:=zKe c4 fr3 (λj e=>(c5 j e));exact f3.new hf (λj hj=>by
   rcases nx3 j (by simpa using hj) with q | q
   ·rcases c5 j q with r | r
    ·exact Or.inl (List.mem_cons_of_mem _ (by simp [r]))
    ·exact Or.inr r
   ·exact Or.inr (Nat.le_trans c4.size q))
 clear PT rP HCL c1 c2 c3 c4 c5 c6 hnl d1 d2 d3 ws3 nx3 fr3 hbs3 hbse HGR HGE HLV HBD;go_wp2_with (first | (go_at_call 128;refine CA.mono ?_;rintro e w4 ⟨⟨P4,rfl,ws4⟩,fr4⟩))
 have HR:Hid (WP k B T (.int .i64 own) (.slice av2 m2 cap2) LF lv w (.returned (.tuple #[])) w4):=HR0.out w4 ⟨P4,ws4⟩ fr4;clear CA HR0 ws4 fr4;go_end0
 exact HR.out
open Go.RowKit Wf
abbrev clV (bi bw ba:Nat):Value:=.func (.func 128) #[] #[.pointer (some ⟨bi,0,none⟩),.pointer (some ⟨bw,0,none⟩),.pointer (some ⟨ba,0,none⟩)]
structure Pd (k:Nat) (w:World) (lv:Value) (f at' bi bw ba:Nat):Prop where
 c1:w.cell? ⟨bi,0,none⟩=some (.func (.func f) #[] #[])
 c2:w.cell? ⟨bw,0,none⟩=some (.pointer (some ⟨k,0,none⟩))
 c3:w.cell? ⟨ba,0,none⟩=some (.int .i64 (at':Int))
 bd:∀ b ∈ [bi,bw,ba],k<b/\b<w.heap.size/\¬ lv.ownBlock=some b
theorem Pd.fr (h:Pd k w lv f at' bi bw ba) {S:List Nat} (hf:Fr S w w') (hs:∀ b ∈ [bi,bw,ba],b ∉ S) (hl:∀ b ∈ [bi,bw,ba],¬ lv'.ownBlock=some b):Pd k w' lv' f at' bi bw ba :=
 ⟨hf.cell h.c1 (hs _ (by simp)),hf.cell h.c2 (hs _ (by simp)),hf.cell h.c3 (hs _ (by simp)),λb hb=>⟨(h.bd b hb).1,Nat.lt_of_lt_of_le (h.bd b hb).2.1 hf.size,hl b hb⟩⟩
theorem Pd.below (h:Pd k w lv f at' bi bw ba) (hb:Below w.heap.size w w'):Pd k w' lv f at' bi bw ba:=h.fr (Fr.of_below [] hb) (λb _=>by simp) (λb hb=>(h.bd b hb).2.2)
theorem Pd.step (h:Pd k w lv f at' bi bw ba) (hf:Fr (k::lv.ownBlock.toList) w w') (hn:Nx w lv lv'):Pd k w' lv' f at' bi bw ba :=
 h.fr hf (λb hb hm=>by
  have h9:=h.bd b hb;rcases List.mem_cons.1 hm with q | q
  ·omega
  ·exact h9.2.2 (by simpa using q)) (λb hb e=>by
  have h9:=h.bd b hb;rcases hn b e with q | q
  ·exact h9.2.2 q
  ·omega)
theorem Pd.patch (h:Pd k w lv f at' bi bw ba) (hf:Fr lv.ownBlock.toList w w'):Pd k w' lv f at' bi bw ba :=
 h.fr hf (λb hb hm=>(h.bd b hb).2.2 (by simpa using hm)) (λb hb=>(h.bd b hb).2.2)
theorem zC6 (k B f:Nat) (T:Nat->Nat) (s0 s1:Value) (L:List I) (lv:Value) (P:List (Wc.In × Value)) (w:World) (h:WS k B T w s0 s1 L lv P) (h0:0<L.length) (hl:L.length<=1000000) :
  Calls prog 117 #[.pointer (some ⟨k,0,none⟩),.func (.func f) #[] #[]] w λe w'=>(∃ bi bw ba,e=.returned (clV bi bw ba)/\Pd k w' lv f (L.length - 1) bi bw ba)/\Below w.heap.size w w':=by
 refine (zDA k B f T s0 s1 L lv P w h h0 hl).mono ?_;rintro e w' ⟨⟨cl,bs,rfl,⟨bi,bw,ba,rfl,rfl,c1,c2,c3⟩,hbs⟩,hb⟩;refine ⟨⟨bi,bw,ba,rfl,c1,c2,c3,λb hb'=>?_⟩,hb⟩;have h9:=hbs b hb';have:=h.at'.lt;exact ⟨by omega,h9.2,λe=>by have:=(zAI h.own e).2;omega⟩
def JPd (k B:Nat) (T:Nat->Nat) (s0 s1:Value) (L:List I) (lv:Value) (w:World) (e:Ending) (w':World):Prop :=
 (∃ bi bw ba lv' P',e=.returned (clV bi bw ba)/\Pd k w' lv' 118 L.length bi bw ba/\(∀ b ∈ [bi,bw,ba],w.heap.size<=b)/\WS k B T w' s0 s1 (L++[ins 13 0 0]) lv' P'/\Nx w lv lv')/\Fr (k::lv.ownBlock.toList) w w'
theorem zJS (k B:Nat) (T:Nat->Nat) (s0 s1:Value) (L:List I) (lv:Value) (P:List (Wc.In × Value)) (w:World) (h:WS k B T w s0 s1 L lv P) (hkB:k<B) (hB:B<=w.heap.size) (hl:L.length<=999999) :
  Calls prog 120 #[.pointer (some ⟨k,0,none⟩)] w (JPd k B T s0 s1 L lv w):=by
 refine (zOM k B T s0 s1 L lv P w h hkB hB hl).mono ?_;rintro e w' ⟨⟨cl,bs,lv',P',rfl,⟨bi,bw,ba,rfl,rfl,c1,c2,c3⟩,hbs,ws,nx⟩,hf⟩;refine ⟨⟨bi,bw,ba,lv',P',rfl,⟨c1,c2,c3,λb hb'=>?_⟩,λb hb'=>(hbs b hb').1,ws,nx⟩,hf⟩;have h9:=hbs b hb';exact ⟨by omega,h9.2.1,h9.2.2⟩
theorem pdA (k B:Nat) (T:Nat->Nat) (s0 s1:Value) (L L':List I) (lv:Value) (P:List (Wc.In × Value)) (w:World) (at':Nat) (bi bw ba:Nat) (h:WS k B T w s0 s1 L lv P) (hkB:k<B) (hl:L.length<=1000000) (hp:Pd k w lv 118 at' bi bw ba) (X Y:List I) (x:I) (hL:L=X++x::Y) (ha:at'=X.length) (v:Int) (hv:(L.length:Int)=v) (hL':L'=X++({x.1 with a:=v},x.2)::Y) :
  Calls prog 128 #[.pointer (some ⟨bi,0,none⟩),.pointer (some ⟨bw,0,none⟩),.pointer (some ⟨ba,0,none⟩)] w λe w'=>(∃ P',e=.returned (.tuple #[])/\WS k B T w' s0 s1 L' lv P')/\Fr lv.ownBlock.toList w w':=by
 subst ha;have hat:X.length<L.length:=by rw [hL];simp
 have:=zFV k B T s0 s1 L lv P w X.length bi bw ba h hkB hl hat hp.c1 hp.c2 hp.c3 (λb e=>⟨λq=>(hp.bd bi (by simp)).2.2 (by rw [q];exact e),λq=>(hp.bd bw (by simp)).2.2 (by rw [q];exact e),λq=>(hp.bd ba (by simp)).2.2 (by rw [q];exact e)⟩);rw [hv] at this;have hx:L[X.length]=x:=by subst hL;simp
 have hset:L.set X.length ({(L[X.length]).1 with a:=v},(L[X.length]).2)=L':=by rw [hx,hL',hL,zCN X _ _ Y X.length rfl]
 rw [hset] at this;exact this
theorem pdB (k B:Nat) (T:Nat->Nat) (s0 s1:Value) (L L':List I) (lv:Value) (P:List (Wc.In × Value)) (w:World) (at':Nat) (bi bw ba:Nat) (h:WS k B T w s0 s1 L lv P) (hkB:k<B) (hl:L.length<=1000000) (hp:Pd k w lv 119 at' bi bw ba) (X Y:List I) (x:I) (hL:L=X++x::Y) (ha:at'=X.length) (v:Int) (hv:(L.length:Int)=v) (hL':L'=X++({x.1 with b:=v},x.2)::Y) :
  Calls prog 128 #[.pointer (some ⟨bi,0,none⟩),.pointer (some ⟨bw,0,none⟩),.pointer (some ⟨ba,0,none⟩)] w λe w'=>(∃ P',e=.returned (.tuple #[])/\WS k B T w' s0 s1 L' lv P')/\Fr lv.ownBlock.toList w w':=by
 subst ha;have hat:X.length<L.length:=by rw [hL];simp
 have:=zHI k B T s0 s1 L lv P w X.length bi bw ba h hkB hl hat hp.c1 hp.c2 hp.c3 (λb e=>⟨λq=>(hp.bd bi (by simp)).2.2 (by rw [q];exact e),λq=>(hp.bd bw (by simp)).2.2 (by rw [q];exact e),λq=>(hp.bd ba (by simp)).2.2 (by rw [q];exact e)⟩);rw [hv] at this;have hx:L[X.length]=x:=by subst hL;simp
 have hset:L.set X.length ({(L[X.length]).1 with b:=v},(L[X.length]).2)=L':=by rw [hx,hL',hL,zCN X _ _ Y X.length rfl]
 rw [hset] at this;exact this
theorem zLt:∀ args w,(callFunc 128 args).run prog w=.ok (.enter 128 args) w:=λ_ _=>by kernel_rfl
structure St (own:Int) (nm:List ByteArray) (av2:Option Addr) (m2 cap2 k B:Nat) (T:Nat->Nat) (hi:Nat) (w0:World) (lv0:Value) (w:World) (L:List I) (lv:Value) (P:List (Wc.In × Value)):Prop where
 en:En own nm av2 m2 cap2 k B T hi w
 ws:WS k B T w (.int .i64 own) (.slice av2 m2 cap2) L lv P
 nx:Nx w0 lv0 lv
 fr:Fr (k::lv0.ownBlock.toList) w0 w
section
variable {own:Int} {nm:List ByteArray} {av2:Option Addr} {m2 cap2 k B hi:Nat} {T:Nat->Nat} {w0:World} {lv0:Value} {w:World} {L:List I} {lv:Value} {P:List (Wc.In × Value)}
theorem St.init (he:En own nm av2 m2 cap2 k B T hi w) (hw:WS k B T w (.int .i64 own) (.slice av2 m2 cap2) L lv P):St own nm av2 m2 cap2 k B T hi w lv w L lv P:=⟨he,hw,Nx.refl _ _,Fr.refl _ _⟩
theorem St.below {w':World} (h:St own nm av2 m2 cap2 k B T hi w0 lv0 w L lv P) (hb:Below w.heap.size w w'):St own nm av2 m2 cap2 k B T hi w0 lv0 w' L lv P:=⟨h.en.below hb,h.ws.below hb,h.nx,h.fr.trans (Fr.of_below _ hb)⟩
theorem St.step {w':World} {L':List I} {lv':Value} {P':List (Wc.In × Value)} (h:St own nm av2 m2 cap2 k B T hi w0 lv0 w L lv P) (hf:Fr (k::lv.ownBlock.toList) w w') (hn:Nx w lv lv') (hw:WS k B T w' (.int .i64 own) (.slice av2 m2 cap2) L' lv' P'):St own nm av2 m2 cap2 k B T hi w0 lv0 w' L' lv' P' :=
 ⟨h.en.fr hf (zNr h.ws h.en.kB),hw,h.nx.trans hn h.fr.size,zKe h.fr hf h.nx⟩
theorem St.patch {w':World} {L':List I} {P':List (Wc.In × Value)} (h:St own nm av2 m2 cap2 k B T hi w0 lv0 w L lv P) (hf:Fr lv.ownBlock.toList w w') (hw:WS k B T w' (.int .i64 own) (.slice av2 m2 cap2) L' lv P'):St own nm av2 m2 cap2 k B T hi w0 lv0 w' L' lv P' :=
 h.step (hf.mono (λj hj=>List.mem_cons_of_mem _ hj)) (Nx.refl _ _) hw
theorem St.wp (h:St own nm av2 m2 cap2 k B T hi w0 lv0 w L lv P):WP k B T (.int .i64 own) (.slice av2 m2 cap2) L lv0 w0 (.returned (.tuple #[])) w:=⟨⟨lv,P,rfl,h.ws,h.nx⟩,h.fr⟩
theorem St.kept (h:St own nm av2 m2 cap2 k B T hi w0 lv0 w L lv P) {lo:Nat} (h0:∀ j,lv0.ownBlock=some j->B<=j):Kept lo hi w0 w:=Kept.of_fr h.fr (λj hj=>by
 have:=h.en.hk;have:=h.en.kB;rcases List.mem_cons.1 hj with q | q
 ·omega
 ·have:=h0 j (by simpa using q);omega)
end
open Go.RowKit Wf
section
variable {α:Type} (f:α->Nat->List I)
def zAV (e:Int):List α->Nat->List I
 | [],_=>[]
 | k::r,a=>f k a++chB f e r (a+(f k a).length)
def toC:List α->Nat->List Int
 | [],_=>[]
 | k::r,a=>(a:Int)::chT f r (a+(f k a).length)
def jr:List α->Nat->List Nat
 | [],_=>[]
 | k::r,m=>m::jr r (m+1+(f k (m+1)).length)
def jx:List α->Nat->List Nat
 | [],_=>[]
 | k::r,a=>jr f r (a+(f k a).length)
theorem zG1 (l:List α) (a:Nat):zCM f l a=(⟨15,0,(a+1+(zAV f 0 l (a+1)).length:Nat),v0I,c0I,a0I,a0I⟩,toC f l (a+1))::zAV f (a+1+(zAV f 0 l (a+1)).length:Nat) l (a+1):=by
 cases l with
 | nil=>rfl
 | cons k r =>
  simp only [zCM,zAV,toC,List.length_append];rw [show a+1+((f k (a+1)).length+(chB f 0 r (a+1+(f k (a+1)).length)).length)=a+1+(f k (a+1)).length+(chB f 0 r (a+1+(f k (a+1)).length)).length from by omega]
theorem zCy (e e':Int):∀ (r:List α) (m:Nat),(chB f e r m).length=(chB f e' r m).length
 | [],m=>rfl
 | k::r,m=>by simp [chB,zCy e e' r]
theorem zHt (e e':Int) (l:List α) (a:Nat):(zAV f e l a).length=(zAV f e' l a).length:=by
 cases l with
 | nil=>rfl
 | cons k r=>simp [zAV,zCy f e e']
theorem zGC (e:Int) (x:α):∀ (r:List α) (m:Nat),chB f e (r++[x]) m=chB f e r m++(ins 13 e 0::f x (m+(chB f e r m).length+1))
 | [],m=>by simp [chB]
 | k::r,m=>by
  simp only [List.cons_append,chB,zGC e x r,List.append_assoc,List.length_cons,List.length_append];rw [show m+1+(f k (m+1)).length+(chB f e r (m+1+(f k (m+1)).length)).length+1=m+((f k (m+1)).length+(chB f e r (m+1+(f k (m+1)).length)).length+1)+1 from by omega]
theorem zGG (x:α):∀ (r:List α) (m:Nat),chT f (r++[x]) m=chT f r m++[((m+(chB f 0 r m).length+1:Nat):Int)]
 | [],m=>by simp [chT,chB]
 | k::r,m=>by
  simp only [List.cons_append,chT,zGG x r,chB,List.length_cons,List.length_append];rw [show m+1+(f k (m+1)).length+(chB f 0 r (m+1+(f k (m+1)).length)).length+1=m+((f k (m+1)).length+(chB f 0 r (m+1+(f k (m+1)).length)).length+1)+1 from by omega]
theorem zIb (x:α):∀ (r:List α) (m:Nat),jr f (r++[x]) m=jr f r m++[m+(chB f 0 r m).length]
 | [],m=>by simp [jr,chB]
 | k::r,m=>by
  simp only [List.cons_append,jr,zIb x r,chB,List.length_cons,List.length_append];rw [show m+1+(f k (m+1)).length+(chB f 0 r (m+1+(f k (m+1)).length)).length=m+((f k (m+1)).length+(chB f 0 r (m+1+(f k (m+1)).length)).length+1) from by omega]
theorem zKp (e:Int) (x:α) (a:Nat):zAV f e [x] a=f x a:=by simp [zAV,chB]
theorem zDz (e:Int) (x:α) (l:List α) (hl:l ≠ []) (a:Nat):zAV f e (l++[x]) a=zAV f e l a++(ins 13 e 0::f x (a+(zAV f e l a).length+1)):=by
 cases l with
 | nil=>exact absurd rfl hl
 | cons k r =>
  simp only [List.cons_append,zAV,zGC,List.append_assoc,List.length_append];rw [show a+(f k a).length+(chB f e r (a+(f k a).length)).length+1=a+((f k a).length+(chB f e r (a+(f k a).length)).length)+1 from by omega]
theorem zN9 (x:α) (l:List α) (hl:l ≠ []) (a:Nat):toC f (l++[x]) a=toC f l a++[((a+(zAV f 0 l a).length+1:Nat):Int)]:=by
 cases l with
 | nil=>exact absurd rfl hl
 | cons k r =>
  simp only [List.cons_append,toC,zGG,zAV,List.length_append];rw [show a+(f k a).length+(chB f 0 r (a+(f k a).length)).length+1=a+((f k a).length+(chB f 0 r (a+(f k a).length)).length)+1 from by omega]
theorem zMO (x:α) (l:List α) (hl:l ≠ []) (a:Nat):jx f (l++[x]) a=jx f l a++[a+(zAV f 0 l a).length]:=by
 cases l with
 | nil=>exact absurd rfl hl
 | cons k r =>
  simp only [List.cons_append,jx,zIb,zAV,List.length_append];rw [show a+(f k a).length+(chB f 0 r (a+(f k a).length)).length=a+((f k a).length+(chB f 0 r (a+(f k a).length)).length) from by omega]
theorem zPr:∀ (r:List α) (m:Nat),∀ p ∈ jr f r m,m<=p/\p<m+(chB f 0 r m).length
 | [],m,p,h=>by cases h
 | k::r,m,p,h=>by
  simp only [chB,List.length_cons,List.length_append];rcases List.mem_cons.1 h with rfl | h
  ·omega
  ·have:=zPr r _ p h;omega
end
def pA (v:Int) (L:List I) (p:Nat):List I:=match L[p]? with
 | some x=>L.set p ({x.1 with a:=v},x.2)
 | none=>L
def pB (v:Int) (L:List I) (p:Nat):List I:=match L[p]? with
 | some x=>L.set p ({x.1 with b:=v},x.2)
 | none=>L
theorem zOm (v:Int) (L:List I) (p:Nat):(pA v L p).length=L.length:=by unfold pA;split <;> simp
theorem zPT (v:Int) (L:List I) (p:Nat):(pB v L p).length=L.length:=by unfold pB;split <;> simp
theorem zPY (v:Int) (X Y:List I) (x:I) (p:Nat) (h:p=X.length):pA v (X++x::Y) p=X++({x.1 with a:=v},x.2)::Y:=by
 subst h;unfold pA;rw [List.getElem?_append_right (Nat.le_refl _),Nat.sub_self,List.getElem?_cons_zero];exact zCN X _ _ Y X.length rfl
theorem zQD (v:Int) (X Y:List I) (x:I) (p:Nat) (h:p=X.length):pB v (X++x::Y) p=X++({x.1 with b:=v},x.2)::Y:=by
 subst h;unfold pB;rw [List.getElem?_append_right (Nat.le_refl _),Nat.sub_self,List.getElem?_cons_zero];exact zCN X _ _ Y X.length rfl
theorem zRO (v:Int) (L:List I) (p:Nat) (h:p<L.length):pA v L p=L.set p ({(L[p]).1 with a:=v},(L[p]).2):=by unfold pA;rw [List.getElem?_eq_getElem h]
theorem zQb (v:Int) (L:List I) (p:Nat) (h:p<L.length):pB v L p=L.set p ({(L[p]).1 with b:=v},(L[p]).2):=by unfold pB;rw [List.getElem?_eq_getElem h]
theorem zDR {α:Type} (f:α->Nat->List I) (e:Int):∀ (r:List α) (X:List I) (m:Nat),m=X.length->(jr f r m).foldl (pA e) (X++chB f 0 r m)=X++chB f e r m
 | [],X,m,h=>rfl
 | k::r,X,m,h=>by
  simp only [jr,chB,List.foldl_cons];rw [zPY e X _ _ m h];have hx:(X++ins 13 e 0::f k (m+1))++chB f 0 r (m+1+(f k (m+1)).length)=X++({(ins 13 0 0).1 with a:=e},(ins 13 0 0).2)::(f k (m+1)++chB f 0 r (m+1+(f k (m+1)).length)):=by
   rw [List.append_assoc];rfl
  rw [<-hx,zDR f e r _ _ (by simp;omega),List.append_assoc];rfl
theorem zJf {α:Type} (f:α->Nat->List I) (e:Int) (l:List α) (L:List I) (c:I):(jx f l (L.length+1)).foldl (pA e) (pB e (L++c::zAV f 0 l (L.length+1)) L.length)=L++({c.1 with b:=e},c.2)::zAV f e l (L.length+1):=by
 rw [zQD e L _ c L.length rfl];cases l with
 | nil=>rfl
 | cons k r =>
  simp only [jx,zAV];have hx:(L++({c.1 with b:=e},c.2)::f k (L.length+1))++chB f 0 r (L.length+1+(f k (L.length+1)).length)=L++({c.1 with b:=e},c.2)::(f k (L.length+1)++chB f 0 r (L.length+1+(f k (L.length+1)).length)):=by simp
  rw [<-hx,zDR f e r _ _ (by simp;omega)];simp
def OwnC (w:World) (B:Nat) (v:Value) (cs:List (Nat × Nat × Nat)):Prop:=w.ownsRow B 1 1 v cs.length (cs.map λc=>clV c.1 c.2.1 c.2.2)
theorem zOc:(prog.info? 1).map (λi=>(i.zero,i.size,i.bytes))=some (some Value.nilFunc,1,8):=by kernel_rfl
theorem zFb {ops:Array Oper} {rest:List Oper} {o:Oper} {a:Act} {Q:Exit->Act->World->Prop} (hgd:o.guard=none) (s x:Operand) (ho:o.op=.call {callee:=.builtin .append,args:=#[s,x],argTypes:=#[189,189]})
  (w:World) (B:Nat) (hB:B<=w.heap.size) (v:Value) (A:List (Nat × Nat × Nat)) (hs:a.eval s=v) (hown:OwnC w B v A) (g:Nat) (y:Nat × Nat × Nat) (hx:a.eval x=.slice (some ⟨g,0,none⟩) 1 1) (hat:w.cell? ⟨g,0,none⟩=some (clV y.1 y.2.1 y.2.2)) (hl:True->A.length<=1000)
  (h:∀ v' w',OwnC w' B v' (A++[y])->w.grownBy w' v.ownBlock->(v'.ownBlock=v.ownBlock \/ v'.ownBlock=some w.heap.size)->wpList prog ops Q rest (a.put o.dst v') w'):wpList prog ops Q (o::rest) a w:=by
 obtain ⟨i0,hi0,hz0,hz1,hz2⟩:=info_parts zOc;have hl:=hl trivial;refine wpList_plain hgd λK hK=>?_
 have hnews:∀ j u,([clV y.1 y.2.1 y.2.2])[j]? = some u->w.cell? ((⟨g,0,none⟩:Addr).add j)=some u:=λj u hj=>by
  cases j with
  | zero=>simp only [List.getElem?_cons_zero,Option.some.injEq] at hj;subst hj;exact hat
  | succ j=>simp at hj
 obtain ⟨v',w',hr,own,hg,_,hb⟩:=run_append_own_at (P:=prog) w B 189 o.type 1 i0 _ 1 8 underlying189 hi0 hz0 hz1 hz2 rfl (by decide) v A.length (A.map λc:Nat × Nat × Nat=>clV c.1 c.2.1 c.2.2) hown ⟨g,0,none⟩ 1 1 [clV y.1 y.2.1 y.2.2] rfl hnews (λu hu=>by simp at hu;subst hu;rfl) (by unfold maxLen;omega) (by omega) hB;unfold Oper.wp execOp;simp only [ho,resolve,invoke,builtin,Sem.run_bind,Sem.run_pure,Result.andThen_ok,List.map_toArray,List.map_cons,List.map_nil,hs,hx,hr];refine hK _ _ (h v' w' ?_ hg hb);unfold OwnC;rw [List.length_append,List.map_append];exact own
theorem zNn (w:World) (y:Nat × Nat × Nat) (B:Nat) (hB:B<=w.heap.size):OwnC (w.alloc (.cells #[clV y.1 y.2.1 y.2.2] 1)) B (.slice (some ⟨w.heap.size,0,none⟩) 1 1) [y]:=by
 refine ⟨rfl,.inr ⟨w.heap.size,1,#[clV y.1 y.2.1 y.2.2],rfl,hB,heap_alloc_new w _,Nat.le_refl _,by unfold maxLen;omega,rfl,rfl⟩⟩
theorem OwnC.slice {v:Value} {A:List (Nat × Nat × Nat)} (h:OwnC w B v A):∃ a c,v=.slice a A.length c:=by
 rcases h.2 with ⟨e,h0⟩ | ⟨g,cap,cur,e,_⟩
 ·exact ⟨none,0,by rw [e,h0]⟩
 ·exact ⟨_,_,e⟩
