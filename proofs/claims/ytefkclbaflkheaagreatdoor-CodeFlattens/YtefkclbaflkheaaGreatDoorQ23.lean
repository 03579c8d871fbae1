/- Lemmas. -/
import Derived.Test.YtefkclbaflkheaaGreatDoorQ22
set_option maxHeartbeats 3200000
set_option maxRecDepth 100000
namespace Go.Proofs.YtefkclbaflkheaaGreatDoor
open Tryz
open Go.RowKit Wf
set_option linter.unusedVariables false
variable {w w' w1:World} {k B f at' bi bw ba m2 cap2 hi:Nat} {lv s0 s1 lv':Value} {T:Nat->Nat} {op:Oper} {a:Act} {ops:Array Oper} {rest:List Oper} {Q:Exit->Act->World->Prop} {L:List Wf.I} {own:Int} {nm:List ByteArray} {av2:Option Addr} {P:List (Wc.In × Value)}
theorem zP2 (o:Int) (w:World):(Instr.build 56 #[(0,.int .i64 o)]).run prog w=.ok (.agg (zAD (ins o 0 0).1 zAH).toArray) w:=by kernel_rfl
theorem zPf (o a:Int) (w:World):(Instr.build 56 #[(0,.int .i64 o),(1,.int .i64 a)]).run prog w=.ok (.agg (zAD (ins o a 0).1 zAH).toArray) w:=by kernel_rfl
theorem zPl (o a b:Int) (w:World):(Instr.build 56 #[(0,.int .i64 o),(1,.int .i64 a),(2,.int .i64 b)]).run prog w=.ok (.agg (zAD (ins o a b).1 zAH).toArray) w:=by kernel_rfl
theorem zPh (v:Wt.Vl) (w:World):(Instr.build 56 #[(0,.int .i64 1),(3,.agg (vl6 v).toArray)]).run prog w=.ok (.agg (zAD (zBU v).1 zAH).toArray) w:=by kernel_rfl
theorem zPk (c:Wpl.Cl) (w:World):(Instr.build 56 #[(0,.int .i64 2),(4,.agg #[.int .i64 c.s,.int .i64 c.r,.int .i64 c.c])]).run prog w=.ok (.agg (zAD (zIC c).1 zAH).toArray) w:=by kernel_rfl
theorem zPV (a:Wpl.Ar) (w:World):(Instr.build 56 #[(0,.int .i64 8),(5,.agg (ar5 a).toArray)]).run prog w=.ok (.agg (zAD (zAa 8 0 a a0I).1 zAH).toArray) w:=by kernel_rfl
theorem zPP (a b:Wpl.Ar) (w:World):(Instr.build 56 #[(0,.int .i64 9),(5,.agg (ar5 a).toArray),(6,.agg (ar5 b).toArray)]).run prog w=.ok (.agg (zAD (zAa 9 0 a b).1 zAH).toArray) w:=by kernel_rfl
theorem zPc (a:Wpl.Ar) (b:Int) (w:World):(Instr.build 56 #[(0,.int .i64 11),(5,.agg (ar5 a).toArray),(2,.int .i64 b)]).run prog w=.ok (.agg (zAD (zAa 11 b a a0I).1 zAH).toArray) w:=by kernel_rfl
theorem zAQ (hgd:op.guard=none) (o:Int) (ho:op.op=.build 56 #[(0,.const (.int .i64 o))])
  (h:wpList prog ops Q rest (a.put op.dst (.agg (zAD (ins o 0 0).1 zAH).toArray)) w):wpList prog ops Q (op::rest) a w:=by
 refine wpList_plain hgd λK hK=>?_
 unfold Oper.wp execOp;have hv:a.eval (.const (.int .i64 o))=.int .i64 o:=rfl;simp only [ho,List.map_toArray,List.map_cons,List.map_nil,hv,Sem.run_bind,Sem.run_pure,Result.andThen_ok,zP2];exact hK _ _ h
theorem zA4 (hgd:op.guard=none) (o:Int) (y:Operand) (ho:op.op=.build 56 #[(0,.const (.int .i64 o)),(1,y)]) (v:Int) (hy:a.eval y=.int .i64 v)
  (h:wpList prog ops Q rest (a.put op.dst (.agg (zAD (ins o v 0).1 zAH).toArray)) w):wpList prog ops Q (op::rest) a w:=by
 refine wpList_plain hgd λK hK=>?_
 unfold Oper.wp execOp;have hv:a.eval (.const (.int .i64 o))=.int .i64 o:=rfl;simp only [ho,List.map_toArray,List.map_cons,List.map_nil,hv,hy,Sem.run_bind,Sem.run_pure,Result.andThen_ok,zPf];exact hK _ _ h
theorem zCo (hgd:op.guard=none) (o:Int) (y z:Operand) (ho:op.op=.build 56 #[(0,.const (.int .i64 o)),(1,y),(2,z)]) (v u:Int) (hy:a.eval y=.int .i64 v) (hz:a.eval z=.int .i64 u)
  (h:wpList prog ops Q rest (a.put op.dst (.agg (zAD (ins o v u).1 zAH).toArray)) w):wpList prog ops Q (op::rest) a w:=by
 refine wpList_plain hgd λK hK=>?_
 unfold Oper.wp execOp;have hv:a.eval (.const (.int .i64 o))=.int .i64 o:=rfl;simp only [ho,List.map_toArray,List.map_cons,List.map_nil,hv,hy,hz,Sem.run_bind,Sem.run_pure,Result.andThen_ok,zPl];exact hK _ _ h
theorem zBN (hgd:op.guard=none) (y:Operand) (ho:op.op=.build 56 #[(0,.const (.int .i64 1)),(3,y)]) (v:Wt.Vl) (hy:a.eval y=.agg (vl6 v).toArray)
  (h:wpList prog ops Q rest (a.put op.dst (.agg (zAD (zBU v).1 zAH).toArray)) w):wpList prog ops Q (op::rest) a w:=by
 refine wpList_plain hgd λK hK=>?_
 unfold Oper.wp execOp;have hv:a.eval (.const (.int .i64 1))=.int .i64 1:=rfl;simp only [ho,List.map_toArray,List.map_cons,List.map_nil,hv,hy,Sem.run_bind,Sem.run_pure,Result.andThen_ok,zPh];exact hK _ _ h
theorem WP.from (hb:Below w.heap.size w w1) {e:Ending} {w':World} (h:WP k B T s0 s1 L lv w1 e w'):WP k B T s0 s1 L lv w e w':=by
 obtain ⟨⟨lv',P',rfl,h1,h2⟩,h3⟩:=h;exact ⟨⟨lv',P',rfl,h1,λj e=>(h2 j e).imp id (Nat.le_trans hb.size)⟩,(Fr.of_below _ hb).trans h3⟩
theorem zEi (k B:Nat) (T:Nat->Nat) (v:Wt.Vl) (s0 s1:Value) (L:List I) (lv:Value) (P:List (Wc.In × Value)) (w:World) (h:WS k B T w s0 s1 L lv P) (hkB:k<B) (hB:B<=w.heap.size) (hl:L.length<=1000000) :
  Calls prog 47 #[.pointer (some ⟨k,0,none⟩),.agg (vl6 v).toArray] w (WP k B T s0 s1 (L++[zBU v]) lv w):=by
 have hb0:=zAM (Below.refl _ w) (.cells (vl6 v).toArray 31);have pV:=AtL.new0 w 31 (vl6 v);have LA:=zAp k B T (zBU v).1 s0 s1 L lv P _ (h.below hb0) hkB (Nat.le_trans hB hb0.size) hl;have HW:Hid (∀ e w',WP k B T s0 s1 (L++[zBU v]) lv (w.alloc (.cells (vl6 v).toArray 31)) e w'->WP k B T s0 s1 (L++[zBU v]) lv w e w'):=λe w' q=>q.from hb0
 have rV:=pV.range;clear h hkB hB hl hb0 pV;go_enter func47,ntmps47;go_upto_region 1 with fail
 generalize (w.alloc (.cells (vl6 v).toArray 31))=W at *;go_wp2_with (first | (refine zAA (by rfl) 31 (.tmp 3) rfl w.heap.size 0 rfl (vl6 v) _ rV underlying31 rfl (by kernel_rfl) ?_) | (refine zBN rfl (.tmp 5) rfl v rfl ?_))
 refine LA.mono ?_;rintro e w1 h1;have HF:=HW.out e w1 h1;obtain ⟨⟨lv',P',rfl,h2,h3⟩,h4⟩:=HF;clear h1 LA rV;have HR:Hid (WP k B T s0 s1 (L++[zBU v]) lv w (.returned (.tuple #[])) w1):=⟨⟨lv',P',rfl,h2,h3⟩,h4⟩
 clear h2 h3 h4;go_wp2;go_end0
 exact HR.out
theorem zF4 (k B:Nat) (T:Nat->Nat) (n:Int) (hn:0<=n/\n<=65536) (s0 s1:Value) (L:List I) (lv:Value) (P:List (Wc.In × Value)) (w:World) (h:WS k B T w s0 s1 L lv P) (hkB:k<B) (hB:B<=w.heap.size) (hl:L.length<=1000000) :
  Calls prog 122 #[.pointer (some ⟨k,0,none⟩),.int .i64 n] w (WP k B T s0 s1 (L++[zBU (zDF n)]) lv w):=by
 have NU:=zKe n 1 w (by omega) (by omega) (by omega) (by omega);have hvn:zLh n 1=zDF n:=by
  have hr:Wnum.rightB n 1=true:=by
   unfold Wnum.rightB;simp;omega
  simp [zLh,zDF,Wnum.cN,Wnum.cD,hr]
 rw [hvn] at NU;have HPU:Hid (∀ w1:World,Below w.heap.size w w1->Calls prog 47 #[.pointer (some ⟨k,0,none⟩),.agg (vl6 (zDF n)).toArray] w1 (WP k B T s0 s1 (L++[zBU (zDF n)]) lv w1)):=λw1 hb=>zEi k B T (zDF n) s0 s1 L lv P w1 (h.below hb) hkB (Nat.le_trans hB hb.size) hl
 clear h hkB hB hl hvn hn;unfold vlV at NU;go_enter func122,ntmps122;go_wp2_with fail
 refine NU.mono ?_;rintro e w1 ⟨rfl,hb1⟩;have PU:=HPU.out w1 hb1;clear NU HPU;generalize zDF n=nv at *;go_wp2_with fail
 refine PU.mono ?_;rintro e w2 h2;have HF:=h2.from hb1
 obtain ⟨⟨lv',P',rfl,h2,h3⟩,h4⟩:=HF;have HR:Hid (WP k B T s0 s1 (L++[zBU nv]) lv w (.returned (.tuple #[])) w2):=⟨⟨lv',P',rfl,h2,h3⟩,h4⟩
 clear h2 h3 h4 PU hb1;go_wp2;go_end0
 exact HR.out
def JP (k B:Nat) (T:Nat->Nat) (s0 s1:Value) (L:List I) (lv:Value) (w:World) (e:Ending) (w':World):Prop :=
 (∃ cl bs lv' P',e=.returned cl/\Cl k w' 157 L.length bs cl/\(∀ b ∈ bs,w.heap.size<=b/\b<w'.heap.size/\¬ lv'.ownBlock=some b)/\WS k B T w' s0 s1 (L++[ins 13 0 0]) lv' P'/\Nx w lv lv')/\Fr (k::lv.ownBlock.toList) w w'
theorem zMM (k B:Nat) (T:Nat->Nat) (s0 s1:Value) (L:List I) (lv:Value) (P:List (Wc.In × Value)) (w:World) (h:WS k B T w s0 s1 L lv P) (hkB:k<B) (hB:B<=w.heap.size) (hl:L.length<=999999) :
  Calls prog 159 #[.pointer (some ⟨k,0,none⟩)] w (JP k B T s0 s1 L lv w):=by
 have LA:=zAp k B T (ins 13 0 0).1 s0 s1 L lv P w h hkB hB (by omega);have HLL:Hid (L.length<=999999):=hl;unfold JP;clear h hkB hB hl;go_enter func159,ntmps159;go_wp2_with (first | (refine zAQ rfl 13 rfl ?_))
 refine LA.mono ?_;rintro e w1 ⟨⟨lv1,P1,rfl,ws1,nx1⟩,fr1⟩;have LT:=zCv k B 157 T s0 s1 _ lv1 P1 w1 ws1 (by simp) (by have:=HLL.out;simp;omega);rw [show (L++[((ins 13 0 0).1,([]:List Int))]).length - 1=L.length from by simp] at LT;have HW:Hid (WS k B T w1 s0 s1 (L++[ins 13 0 0]) lv1 P1/\Nx w lv lv1/\Fr (k::lv.ownBlock.toList) w w1):=⟨ws1,nx1,fr1⟩
 clear LA ws1 nx1 fr1;go_wp2_with fail
 refine LT.mono ?_;rintro e w2 ⟨⟨cl,bs,rfl,hcl,hbs⟩,hb2⟩;have hsl:∃ bi bw ba,cl=.func (.func 174) #[] #[.pointer (some ⟨bi,0,none⟩),.pointer (some ⟨bw,0,none⟩),.pointer (some ⟨ba,0,none⟩)]:=by
  obtain ⟨bi,bw,ba,_,e,_⟩:=hcl;exact ⟨bi,bw,ba,e⟩
 have HR:Hid ((∃ bs lv' P',Cl k w2 157 L.length bs cl/\(∀ b ∈ bs,w.heap.size<=b/\b<w2.heap.size/\¬ lv'.ownBlock=some b)/\WS k B T w2 s0 s1 (L++[ins 13 0 0]) lv' P'/\Nx w lv lv')/\Fr (k::lv.ownBlock.toList) w w2):=by
  obtain ⟨q1,q2,q3⟩:=HW.out;refine ⟨⟨bs,lv1,P1,hcl,λb hb=>⟨Nat.le_trans q3.size (hbs b hb).1,(hbs b hb).2,λe=>?_⟩,q1.below hb2,q2⟩,q3.trans (Fr.of_below _ hb2)⟩;have:=(zAK q1.own e).2;have:=(hbs b hb).1;omega
 obtain ⟨bi,bw,ba,rfl⟩:=hsl;clear LT HW hcl hbs hb2;go_wp2;go_ret;obtain ⟨⟨bs,lv',P',r1,r2,r3,r4⟩,r5⟩:=HR.out;exact ⟨⟨_,bs,lv',P',rfl,r1,r2,r3,r4⟩,r5⟩
structure En (own:Int) (nm:List ByteArray) (av2:Option Addr) (m2 cap2 k B:Nat) (T:Nat->Nat) (hi:Nat) (w:World):Prop where
 na:NmAt w
 rs:RdS w av2 nm
 hm:m2=nm.length
 hl:nm.length<=16
 rk:∀ bb off,av2=some ⟨bb,off,none⟩->bb<k
 gk:0<k
 hk:hi<=k
 kB:k<B
 hB:B<=w.heap.size
 tl:∀ i,T i<=w.heap.size
theorem En.fr (h:En own nm av2 m2 cap2 k B T hi w) {S:List Nat} (f:Fr S w w') (hs:∀ j ∈ S,k<=j):En own nm av2 m2 cap2 k B T hi w' :=
 ⟨λj v hv=>f.cell (h.na j v hv) (λhm=>by have:=hs _ hm;have:=h.gk;omega),λi hi'=>by
  obtain ⟨bb,off,e,hc⟩:=h.rs i hi';exact ⟨bb,off,e,f.cell hc (λhm=>by have:=hs _ hm;have:=h.rk bb off e;omega)⟩,h.hm,h.hl,h.rk,h.gk,h.hk,h.kB,Nat.le_trans h.hB f.size,λi=>Nat.le_trans (h.tl i) f.size⟩
theorem En.below (h:En own nm av2 m2 cap2 k B T hi w) (hb:Below w.heap.size w w'):En own nm av2 m2 cap2 k B T hi w':=h.fr (Fr.of_below [] hb) (by simp)
theorem zMu (h:WS k B T w s0 s1 L lv P) (hkB:k<B):∀ j ∈ k::lv.ownBlock.toList,k<=j:=λj hj=>by
 rcases List.mem_cons.1 hj with q | q
 ·omega
 ·have:=(zAK h.own (show lv.ownBlock=some j by simpa using q)).1;omega
theorem zD1 {α:Type} (f:α->Nat->List I):∀ (l m:List α) (a:Nat),zAR f (l++m) a=zAR f l a++zAR f m (a+(zAR f l a).length)
 | [],m,a=>by simp [zAR]
 | x::l,m,a=>by
  simp only [List.cons_append,zAR,zD1 f l m,List.append_assoc,List.length_append];rw [Nat.add_assoc]
theorem zBX {α:Type} (f:α->Nat->List I) (l:List α) (i:Nat) (h:i<l.length) (a:Nat):zAR f (l.take (i+1)) a=zAR f (l.take i) a++f l[i] (a+(zAR f (l.take i) a).length):=by
 rw [List.take_succ_eq_append_getElem h,zD1];simp [zAR]
theorem zCX {α:Type} (f:α->Nat->List I) (l:List α) (i:Nat) (a:Nat):(zAR f (l.take i) a).length<=(zAR f l a).length:=by
 have h:zAR f l a=zAR f (l.take i++l.drop i) a:=by rw [List.take_append_drop]
 rw [h,zD1,List.length_append];omega
section
variable (own:Int) (nm:List ByteArray) (av2:Option Addr) (m2 cap2:Nat)
def Wr (n:Nat) (t:Tr n):Prop:=zAz n t/\zBB own nm n t=0/\isA (hd n t)=false
def PtC (n:Nat):Prop:=∀ (t:Tr n) (sl:Value) (lo hi k B:Nat) (T:Nat->Nat) (w:World) (L:List I) (lv:Value) (P:List (Wc.In × Value)),Wr own nm n t->PA n lo hi w t sl->En own nm av2 m2 cap2 k B T hi w->WS k B T w (.int .i64 own) (.slice av2 m2 cap2) L lv P->L.length+(cod own nm n t L.length).length<=900000 ->
 Calls prog 27 #[.pointer (some ⟨k,0,none⟩),.agg (zAN (hd n t) sl).toArray] w (WP k B T (.int .i64 own) (.slice av2 m2 cap2) (L++cod own nm n t L.length) lv w)
def AlC (n:Nat):Prop:=∀ (ps:List (Tr n × Value)) (av:Option Addr) (m cap lo hi k B:Nat) (T:Nat->Nat) (w:World) (L:List I) (lv:Value) (P:List (Wc.In × Value)),m=ps.length->ps.length<=30->(∀ p ∈ ps,Wr own nm n p.1)->(∀ p ∈ ps,PA n lo hi w p.1 p.2)->RdQ w av (ps.map λp=>(hd n p.1,p.2))->(0<ps.length->∀ bb off,av=some ⟨bb,off,none⟩->∀ j,lv.ownBlock=some j->bb ≠ j)->(0<ps.length->∀ bb off,av=some ⟨bb,off,none⟩->bb ≠ k/\bb<w.heap.size)->En own nm av2 m2 cap2 k B T hi w->WS k B T w (.int .i64 own) (.slice av2 m2 cap2) L lv P->L.length+(zAR (cod own nm n) (ps.map (·.1)) L.length).length<=900000 ->
 Calls prog 49 #[.pointer (some ⟨k,0,none⟩),.slice av m cap] w (WP k B T (.int .i64 own) (.slice av2 m2 cap2) (L++zAR (cod own nm n) (ps.map (·.1)) L.length) lv w)
end
theorem zFs (own:Int) (nm:List ByteArray) (av2:Option Addr) (m2 cap2 n:Nat) (ih:PtC own nm av2 m2 cap2 n):AlC own nm av2 m2 cap2 n:=by
 intro ps av m cap lo hi k B T w L lv P hm hl hw hpa hrd hav havk hen hws hbd;have HM:Hid (m=ps.length/\ps.length<=30):=⟨hm,hl⟩
 have HW:Hid (∀ p ∈ ps,Wr own nm n p.1):=hw;have HPA:Hid (∀ p ∈ ps,PA n lo hi w p.1 p.2):=hpa;have HRD:Hid (RdQ w av (ps.map λp=>(hd n p.1,p.2))):=hrd;have HAV:Hid ((0<ps.length->∀ bb off,av=some ⟨bb,off,none⟩->∀ j,lv.ownBlock=some j->bb ≠ j)/\(0<ps.length->∀ bb off,av=some ⟨bb,off,none⟩->bb ≠ k/\bb<w.heap.size)):=⟨hav,havk⟩
 have HEN:Hid (En own nm av2 m2 cap2 k B T hi w):=hen;have HBD:Hid (L.length+(zAR (cod own nm n) (ps.map (·.1)) L.length).length<=900000):=hbd;have HIH:Hid (PtC own nm av2 m2 cap2 n):=ih;have HGE:Hid (∀ j ∈ k::lv.ownBlock.toList,k<=j):=zMu hws hen.kB;have HW0:Hid (WS k B T w (.int .i64 own) (.slice av2 m2 cap2) (L++zAR (cod own nm n) ((ps.map (·.1)).take 0) L.length) lv P):=by show WS _ _ _ _ _ _ _ _ _;simpa [zAR] using hws
 obtain ⟨LF,hLF⟩:∃ LF,L++zAR (cod own nm n) (ps.map (·.1)) L.length=LF:=⟨_,rfl⟩
 rw [hLF];have HLF:Hid (L++zAR (cod own nm n) (ps.map (·.1)) L.length=LF):=hLF;clear hm hl hw hpa hrd hav havk hen hws hbd ih hLF;go_enter func49,ntmps49;go_wp2_with fail
 go_loopg [5,8] m (λgk u x wr=>∃ (i:Nat),x=.int .i64 (i:Int)/\gk=m - i/\i<=m/\Hid (∃ lvi Pi,WS k B T wr (.int .i64 own) (.slice av2 m2 cap2) (L++zAR (cod own nm n) ((ps.map (·.1)).take i) L.length) lvi Pi/\Nx w lv lvi)/\Hid (Fr (k::lv.ownBlock.toList) w wr))
 case atStart=>exact ⟨0,rfl,rfl,Nat.zero_le _,⟨lv,P,HW0.out,Nx.refl _ _⟩,Fr.refl _ _⟩
 case round =>
  clear HW0;obtain ⟨i,rfl,hg,him,HS,HF⟩:=hrel;by_cases hlt:i<m
  ·have hli:(i:Int)<(m:Int):=by omega
   have hiz:(0:Int)<=(i:Int):=by omega
   have hwi:IntKind.i64.wrap ((i:Int)+1)=(i:Int)+1:=by have:=HM.out;rw [IntKind.wrap_i64];omega
   have hln:i<ps.length:=by have:=HM.out;omega
   obtain ⟨bb,off,rfl,hr0⟩:=HRD.out i (by simpa using hln);simp only [List.getElem_map] at hr0;have hbn:bb ∉ k::lv.ownBlock.toList:=λhm=>by
    rcases List.mem_cons.1 hm with q | q
    ·exact (HAV.out.2 (by omega) bb off rfl).1 q
    ·exact HAV.out.1 (by omega) bb off rfl bb (by simpa using q) rfl
   have hr:=HF.out.range hr0 hbn;have hpi:=List.getElem_mem hln;have hkp:Kept lo hi w wr:=Kept.of_fr HF.out (λj hj=>by have:=HGE.out j hj;have:=HEN.out.hk;omega);have hpa:=PA.kept hkp n _ _ (HPA.out _ hpi);obtain ⟨sa,sb,sc,hsl⟩:=hpa.slice;have hen:=HEN.out.fr HF.out HGE.out;obtain ⟨lvi,Pi,wsi,nxi⟩:=HS.out;have hstep:=zBX (cod own nm n) (ps.map (·.1)) i (by simpa using hln) L.length;have hle:=zCX (cod own nm n) (ps.map (·.1)) (i+1) L.length;rw [hstep,List.length_append,List.getElem_map] at hle;rw [List.getElem_map] at hstep;have PT0:=λ(W:World) (hb:Below wr.heap.size wr W)=>HIH.out (ps[i]).1 (ps[i]).2 lo hi k B T W _ lvi Pi (HW.out _ hpi) (PA.kept (Kept.of_below hb) n _ _ hpa) (hen.below hb) (wsi.below hb) (by rw [List.length_append];have:=HBD.out;omega)
   have hth:World.there (wr.alloc (.cells zeros21 64)) wr.heap.size 0 (zAN (hd n (ps[i]).1) (.slice sa sb sc)).toArray.size:=(AtL.new0 wr _ _:AtL (wr.alloc (.cells zeros21 64)) wr.heap.size zeros21.toList).there;rw [hsl] at PT0 hr;rw [List.length_append] at PT0;have HST:Hid (L++zAR (cod own nm n) ((ps.map (·.1)).take (i+1)) L.length=(L++zAR (cod own nm n) ((ps.map (·.1)).take i) L.length)++cod own nm n (ps[i]).1 (L.length+(zAR (cod own nm n) ((ps.map (·.1)).take i) L.length).length)):=by show _=_;rw [hstep,List.append_assoc]
   obtain ⟨y,hy⟩:∃ y,hd n (ps[i]).1=y:=⟨_,rfl⟩
   rw [hy] at PT0 hr hth;obtain ⟨LN,hLN⟩:∃ LN,(L++zAR (cod own nm n) ((ps.map (·.1)).take i) L.length)++cod own nm n (ps[i]).1 (L.length+(zAR (cod own nm n) ((ps.map (·.1)).take i) L.length).length)=LN:=⟨_,rfl⟩
   rw [hLN] at PT0 HST;have HNI:Hid (Nx w lv lvi):=nxi;clear hstep hle hsl hy hLN hpa hkp hr0 hbn hpi hln nxi wsi hen HS;have HPI:Hid (AtL ((wr.alloc (.cells zeros21 64)).setCells wr.heap.size 0 (zAN y (.slice sa sb sc))) wr.heap.size (zAN y (.slice sa sb sc))):=(AtL.new0 wr _ _:AtL (wr.alloc (.cells zeros21 64)) wr.heap.size zeros21.toList).setAll rfl;have hHB:Below wr.heap.size wr ((wr.alloc (.cells zeros21 64)).setCells wr.heap.size 0 (zAN y (.slice sa sb sc))):=zAv (zAM (Below.refl _ wr) _) (Nat.le_refl _) _ 0;have PT:=PT0 _ hHB;have HHB:Hid (Below wr.heap.size wr ((wr.alloc (.cells zeros21 64)).setCells wr.heap.size 0 (zAN y (.slice sa sb sc)))):=hHB;clear PT0 hHB;go_upto_region 3 with (first | (refine zAA (by rfl) 64 (.tmp 10) rfl bb (off+i * 21) rfl (zAN y (.slice sa sb sc)) _ hr underlying64 rfl (by kernel_rfl) ?_) | ((with_reducible refine wpList_store_mid ?_ 64 (.tmp 5) (.tmp 11) ?_ wr.heap.size 0 (zAN y (.slice sa sb sc)).toArray ?_ ?_ ?_ ?_ ?_ ?_);rfl;rfl;rfl;rfl;exact hth;kernel_rfl;exact zAk _ _ _ _))
   clear hth hr;generalize ((wr.alloc (.cells zeros21 64)).setCells wr.heap.size 0 (zAN y (.slice sa sb sc)))=W2 at *;have rI:=HPI.out.range;go_wp2_with (first | (refine zAA (by rfl) 64 (.tmp 5) rfl wr.heap.size 0 rfl (zAN y (.slice sa sb sc)) _ rI underlying64 rfl (by kernel_rfl) ?_))
   refine PT.mono ?_;rintro e w3 h3;obtain ⟨⟨lv3,P3,rfl,ws3,nx3⟩,fr3⟩:=h3.from HHB.out
   have HS3:Hid (∃ lvi Pi,WS k B T w3 (.int .i64 own) (.slice av2 m2 cap2) (L++zAR (cod own nm n) ((ps.map (·.1)).take (i+1)) L.length) lvi Pi/\Nx w lv lvi):=by
    rw [HST.out];exact ⟨lv3,P3,ws3,HNI.out.trans nx3 HF.out.size⟩
   have HF3:Hid (Fr (k::lv.ownBlock.toList) w w3):=zIW HF.out fr3 HNI.out;clear PT rI HPI HHB h3 ws3 nx3 fr3 HNI HF HST;go_wp2_with fail
   go_roundg (m - (i+1))
   case rel=>exact ⟨i+1,by simp,rfl,hlt,HS3,HF3⟩
   case measure=>omega
  ·have hli:¬ (i:Int)<(m:Int):=by omega
   have HS2:Hid (∃ lvi Pi,WS k B T wr (.int .i64 own) (.slice av2 m2 cap2) LF lvi Pi/\Nx w lv lvi):=by
    have hie:(ps.map (·.1)).length<=i:=by have:=HM.out;simp;omega
    have:=HS.out;rw [List.take_of_length_le hie,HLF.out] at this;exact this
   have HR:Hid (WP k B T (.int .i64 own) (.slice av2 m2 cap2) LF lv w (.returned (.tuple #[])) wr):=by
    obtain ⟨lvi,Pi,r1,r2⟩:=HS2.out;exact ⟨⟨lvi,Pi,rfl,r1,r2⟩,HF.out⟩
   clear HS HS2;go_wp2;go_end0
   exact HR.out
open Go.RowKit Wf
theorem zN4 {B' T:Nat} {v:Value} {n:Nat} {xs:List Value} (h:w.ownsRow B T k v n xs) (hB:B'<=B):w.ownsRow B' T k v n xs:=by
 refine ⟨h.1,?_⟩;rcases h.2 with q | ⟨g,cap,cur,e,hb,r⟩
 ·exact Or.inl q
 ·exact Or.inr ⟨g,cap,cur,e,Nat.le_trans hB hb,r⟩
theorem zI6 (x:Wc.In) {s0 s1 s2:Value} {Lc:List I} {lv:Value} {P:List (Wc.In × Value)} {w:World} (h:YS k w s0 s1 s2 Lc lv P) (hl:Lc.length<=1000000) :
  Calls prog 33 #[.pointer (some ⟨k,0,none⟩),.agg (zAD x zAH).toArray] w (YP k (.int .i64 (Lc.length:Int)) s0 s1 s2 (Lc++[(x,[])]) lv w):=by
 refine (zJz k (k+1) x s0 s1 s2 lv P w h.at' h.own (Nat.lt_succ_self _) h.at'.lt (by rw [h.len];exact hl)).mono ?_;rintro e w' ⟨⟨lv',rfl,ha,ho,hn⟩,hf⟩;exact ⟨⟨lv',_,by rw [h.len],h.push x hf ha ho,hn⟩,hf⟩
section
variable (L:List Wt.Nd) (bb off cap:Nat) (own:Int) (nm:List ByteArray) (av2:Option Addr) (cap2:Nat) (k:Nat)
abbrev yv0:Value:=.slice (some ⟨bb,off,none⟩) L.length cap
abbrev yv2:Value:=.slice av2 nm.length cap2
structure YSt (w0:World) (lv0:Value) (w:World) (Lc:List I) (lv:Value) (P:List (Wc.In × Value)) (kv:Value) (ks:List Nat):Prop where
 en:MEn L bb off nm av2 k w
 ys:YS k w (yv0 L bb off cap) (.int .i64 own) (yv2 nm av2 cap2) Lc lv P
 nx:Nx w0 lv0 lv
 fr:Fr (k::lv0.ownBlock.toList) w0 w
 kd:x5_OwnI w (k+1) kv ks
end
section
variable {L:List Wt.Nd} {bb off cap:Nat} {own:Int} {nm:List ByteArray} {av2:Option Addr} {cap2 k:Nat} {w0:World} {lv0:Value} {w w':World} {Lc Lc':List I} {lv lv':Value} {P P':List (Wc.In × Value)} {kv:Value} {ks:List Nat}
theorem YSt.step (h:YSt L bb off cap own nm av2 cap2 k w0 lv0 w Lc lv P kv ks) (hf:Fr (k::lv.ownBlock.toList) w w') (hn:Nx w lv lv') (hy:YS k w' (yv0 L bb off cap) (.int .i64 own) (yv2 nm av2 cap2) Lc' lv' P'):YSt L bb off cap own nm av2 cap2 k w0 lv0 w' Lc' lv' P' kv ks :=
 ⟨h.en.fr hf h.ys.ge,hy,h.nx.trans hn h.fr.size,zIW h.fr hf h.nx,zAW hf h.kd (λg e hm=>by
  rcases List.mem_cons.1 hm with q | q
  ·have:=(zAK h.kd e).1;omega
  ·exact zAi h.kd h.ys.own (by decide) e (by simpa using q))⟩
theorem YSt.below (h:YSt L bb off cap own nm av2 cap2 k w0 lv0 w Lc lv P kv ks) (hb:Below w.heap.size w w'):YSt L bb off cap own nm av2 cap2 k w0 lv0 w' Lc lv P kv ks :=
 ⟨h.en.below hb,h.ys.below hb,h.nx,h.fr.trans (Fr.of_below _ hb),x5_OwnI.below h.kd hb⟩
theorem YSt.yp (h:YSt L bb off cap own nm av2 cap2 k w0 lv0 w Lc lv P kv ks):YP k (.tuple #[]) (yv0 L bb off cap) (.int .i64 own) (yv2 nm av2 cap2) Lc lv0 w0 (.returned (.tuple #[])) w:=⟨⟨lv,P,rfl,h.ys,h.nx⟩,h.fr⟩
theorem YSt.kid (h:YSt L bb off cap own nm av2 cap2 k w0 lv0 w Lc lv P kv ks):∃ avk capk,kv=.slice avk ks.length capk/\RdJ w avk ks:=zCa h.kd
theorem YSt.lay (h:YSt L bb off cap own nm av2 cap2 k w0 lv0 w Lc lv P kv ks) (x:Wc.In) (hl:Lc.length<=1000000) :
  Calls prog 33 #[.pointer (some ⟨k,0,none⟩),.agg (zAD x zAH).toArray] w λe w'=>e=.returned (.int .i64 (Lc.length:Int))/\∃ lv' P',YSt L bb off cap own nm av2 cap2 k w0 lv0 w' (Lc++[(x,[])]) lv' P' kv ks:=by
 refine (zI6 x h.ys hl).mono ?_;rintro e w' ⟨⟨lv',P',rfl,hy,hn⟩,hf⟩;exact ⟨rfl,lv',P',h.step hf hn hy⟩
theorem YSt.area (h:YSt L bb off cap own nm av2 cap2 k w0 lv0 w Lc lv P kv ks) {q:Nat} (hq:q<L.length) :
  CR 87 #[.pointer (some ⟨k,0,none⟩),.int .i64 (q:Int)] w (.agg (ar5 (areaN own (nm.take 16) L[q])).toArray) :=
 zI7 k L.length bb off cap q own nm av2 nm.length cap2 L[q] w (h.ys.at'.2.1 0 _ rfl) (h.ys.at'.2.1 1 _ rfl) (h.ys.at'.2.1 2 _ rfl) (h.en.at hq) hq h.en.rs rfl h.en.hl h.ys.at'.lt (Nat.lt_trans h.en.nk h.ys.at'.lt)
end
section
variable (L:List Wt.Nd) (bb off cap:Nat) (own:Int) (nm:List ByteArray) (av2:Option Addr) (cap2:Nat)
def YNd (n:Nat):Prop:=∀ (t:Tr n) (i k:Nat) (w:World) (Lc:List I) (lv:Value) (P:List (Wc.In × Value)),Sub L i n t->Wr own (nm.take 16) n t->MEn L bb off nm av2 k w->YS k w (yv0 L bb off cap) (.int .i64 own) (yv2 nm av2 cap2) Lc lv P->Lc.length+(cod own (nm.take 16) n t Lc.length).length<=800000 ->
 Calls prog 32 #[.pointer (some ⟨k,0,none⟩),.int .i64 (i:Int)] w (YP k (.tuple #[]) (yv0 L bb off cap) (.int .i64 own) (yv2 nm av2 cap2) (Lc++cod own (nm.take 16) n t Lc.length) lv w)
end
section
variable {L:List Wt.Nd} {bb off cap:Nat} {own:Int} {nm:List ByteArray} {av2:Option Addr} {cap2 k:Nat} {w0:World} {lv0:Value} {w w':World} {Lc Lc':List I} {lv lv':Value} {P P':List (Wc.In × Value)} {kv:Value} {ks:List Nat}
theorem YSt.node (h:YSt L bb off cap own nm av2 cap2 k w0 lv0 w Lc lv P kv ks) {n:Nat} (ih:YNd L bb off cap own nm av2 cap2 n) {t:Tr n} {i:Nat} (hs:Sub L i n t) (hw:Wr own (nm.take 16) n t) (hl:Lc.length+(cod own (nm.take 16) n t Lc.length).length<=800000) :
  Calls prog 32 #[.pointer (some ⟨k,0,none⟩),.int .i64 (i:Int)] w λe w'=>e=.returned (.tuple #[])/\∃ lv' P',YSt L bb off cap own nm av2 cap2 k w0 lv0 w' (Lc++cod own (nm.take 16) n t Lc.length) lv' P' kv ks:=by
 refine (ih t i k w Lc lv P hs hw h.en h.ys hl).mono ?_;rintro e w' ⟨⟨lv',P',rfl,hy,hn⟩,hf⟩;exact ⟨rfl,lv',P',h.step hf hn hy⟩
theorem YSt.fed (h:YSt L bb off cap own nm av2 cap2 k w0 lv0 w Lc lv P kv ks) {n:Nat} (ih:YNd L bb off cap own nm av2 cap2 n) {t:Tr n} {i:Nat} (hs:Sub L i n t) (hw:Wr own (nm.take 16) n t) (hl:Lc.length+(cod own (nm.take 16) n t Lc.length).length<=800000) :
  Calls prog 88 #[.pointer (some ⟨k,0,none⟩),.int .i64 (i:Int)] w λe w'=>e=.returned (.tuple #[])/\∃ lv' P',YSt L bb off cap own nm av2 cap2 k w0 lv0 w' (Lc++zAY (cod own (nm.take 16) n) t Lc.length) lv' P' kv ks:=by
 have ND:=h.node ih hs hw hl;obtain ⟨C,hC⟩:∃ C,cod own (nm.take 16) n t Lc.length=C:=⟨_,rfl⟩
 have hfc:Lc++zAY (cod own (nm.take 16) n) t Lc.length=Lc++C++[ins 7 0 0]:=by unfold zAY;rw [hC,List.append_assoc]
 rw [hC] at ND hl;rw [hfc];have HL:Hid ((Lc++C).length<=1000000):=by show _<=_;rw [List.length_append];omega
 clear h hs hw hl hC hfc ih;go_enter func88,ntmps88;go_wp2_with fail
 refine ND.mono ?_;rintro e w1 ⟨rfl,lv1,P1,h1⟩;have LA:=h1.lay (ins 7 0 0).1 HL.out;clear ND h1;go_wp2_with (first | (refine zAQ rfl 7 rfl ?_))
 refine LA.mono ?_;rintro e w2 ⟨rfl,lv2,P2,h2⟩;have HR:Hid (YSt L bb off cap own nm av2 cap2 k w0 lv0 w2 (Lc++C++[ins 7 0 0]) lv2 P2 kv ks):=h2;clear LA h2;go_wp2;go_end0
 exact ⟨rfl,lv2,P2,HR.out⟩
end
open Go.RowKit Wf
theorem WP.then {L1 L2:List I} {lv1:Value} {w2:World} {P1:List (Wc.In × Value)} (fr1:Fr (k::lv.ownBlock.toList) w w1) (nx1:Nx w lv lv1) {e:Ending} (h:WP k B T s0 s1 L2 lv1 w1 e w2):WP k B T s0 s1 L2 lv w e w2:=by
 obtain ⟨⟨lv2,P2,e2,ws2,nx2⟩,fr2⟩:=h;exact ⟨⟨lv2,P2,e2,ws2,nx1.trans nx2 fr1.size⟩,zIW fr1 fr2 nx1⟩
theorem WP.ret {e:Ending} (h:WP k B T s0 s1 L lv w e w'):e=.returned (.tuple #[]):=by
 obtain ⟨⟨lv2,P2,e2,_⟩,_⟩:=h;exact e2
section
variable (own:Int) (nm:List ByteArray) (av2:Option Addr) (m2 cap2:Nat)
def FdC (n:Nat):Prop:=∀ (t:Tr n) (sl:Value) (lo hi k B:Nat) (T:Nat->Nat) (w:World) (L:List I) (lv:Value) (P:List (Wc.In × Value)),Wr own nm n t->PA n lo hi w t sl->En own nm av2 m2 cap2 k B T hi w->WS k B T w (.int .i64 own) (.slice av2 m2 cap2) L lv P->L.length+(zAY (cod own nm n) t L.length).length<=900000 ->
 Calls prog 120 #[.pointer (some ⟨k,0,none⟩),.agg (zAN (hd n t) sl).toArray] w (WP k B T (.int .i64 own) (.slice av2 m2 cap2) (L++zAY (cod own nm n) t L.length) lv w)
end
theorem zI0 (own:Int) (nm:List ByteArray) (av2:Option Addr) (m2 cap2 n:Nat) (ih:PtC own nm av2 m2 cap2 n):FdC own nm av2 m2 cap2 n:=by
 intro t sl lo hi k B T w L lv P hw hpa hen hws hbd;have hfl:(zAY (cod own nm n) t L.length).length=(cod own nm n t L.length).length+1:=by simp [zAY]
 have hfe:L++zAY (cod own nm n) t L.length=(L++cod own nm n t L.length)++[((ins 7 0 0).1,[])]:=by rw [List.append_assoc];rfl
 rw [hfl] at hbd;rw [hfe];obtain ⟨sa,sb,sc,rfl⟩:=hpa.slice;have hb0:=zAM (Below.refl _ w) (.cells (zAN (hd n t) (.slice sa sb sc)).toArray 64);have rP:=(AtL.new0 w 64 (zAN (hd n t) (.slice sa sb sc))).range;have PT:=ih t (.slice sa sb sc) lo hi k B T _ L lv P hw (PA.kept (Kept.of_below hb0) n _ _ hpa) (hen.below hb0) (hws.below hb0) (by omega);have HEN:Hid (k<B/\B<=w.heap.size):=⟨hen.kB,hen.hB⟩
 have HBL:Hid ((L++cod own nm n t L.length).length<=1000000):=by show _<=_;rw [List.length_append];omega
 generalize L++cod own nm n t L.length=L1 at *;generalize hd n t=y at *;have HB0:Hid (Below w.heap.size w (w.alloc (.cells (zAN y (.slice sa sb sc)).toArray 64))):=hb0;clear hfl hfe hbd hw hpa hen hws ih hb0;go_enter func120,ntmps120;go_upto_region 1 with fail
 generalize (w.alloc (.cells (zAN y (.slice sa sb sc)).toArray 64))=W at *;go_wp2_with (first | (refine zAA (by rfl) 64 (.tmp 3) rfl w.heap.size 0 rfl (zAN y (.slice sa sb sc)) _ rP underlying64 rfl (by kernel_rfl) ?_))
 refine PT.mono ?_;rintro e w1 h1;obtain ⟨⟨lv1,P1,rfl,ws1,nx1⟩,fr1⟩:=h1.from HB0.out
 have LA:=zAp k B T (ins 7 0 0).1 _ _ L1 lv1 P1 w1 ws1 HEN.out.1 (Nat.le_trans HEN.out.2 fr1.size) HBL.out;have HFN:Hid (Fr (k::lv.ownBlock.toList) w w1/\Nx w lv lv1):=⟨fr1,nx1⟩
 clear PT rP h1 ws1 nx1 fr1 HB0;go_wp2_with (first | (refine zAQ rfl 7 rfl ?_))
 refine LA.mono ?_;rintro e w2 h2;have h3:=WP.then (P1:=P1) (L1:=L1) HFN.out.1 HFN.out.2 h2;obtain rfl:=h3.ret;have HR:Hid (WP k B T (.int .i64 own) (.slice av2 m2 cap2) (L1++[((ins 7 0 0).1,[])]) lv w (.returned (.tuple #[])) w2):=h3;clear h2 h3 LA HFN;go_wp2;go_end0
 exact HR.out
theorem zAm {α:Type} (a:List α) (x y:α) (b:List α) (i:Nat) (h:i=a.length):(a++x::b).set i y=a++y::b:=by
 subst h;simp
theorem zM7 {α:Type} (a:List α) (x:α) (b:List α) (i:Nat) (h:i=a.length) (hi:i<(a++x::b).length):(a++x::b)[i]=x:=by
 subst h;simp
section
variable (own:Int) (nm:List ByteArray) (av2:Option Addr) (m2 cap2:Nat)
def zMo (n:Nat) (t:Tr n) (a:Nat):List I:=ins 14 (a+1+(cod own nm n t (a+1)).length:Nat) 0::cod own nm n t (a+1)
def GdC (n:Nat):Prop:=∀ (t:Tr n) (sl:Value) (lo hi k B:Nat) (T:Nat->Nat) (w:World) (L:List I) (lv:Value) (P:List (Wc.In × Value)),Wr own nm n t->PA n lo hi w t sl->En own nm av2 m2 cap2 k B T hi w->WS k B T w (.int .i64 own) (.slice av2 m2 cap2) L lv P->L.length+(zMo own nm n t L.length).length<=900000 ->
 Calls prog 127 #[.pointer (some ⟨k,0,none⟩),.agg (zAN (hd n t) sl).toArray] w (WP k B T (.int .i64 own) (.slice av2 m2 cap2) (L++zMo own nm n t L.length) lv w)
end
theorem zJk (own:Int) (nm:List ByteArray) (av2:Option Addr) (m2 cap2 n:Nat) (ih:PtC own nm av2 m2 cap2 n):GdC own nm av2 m2 cap2 n:=by
 intro t sl lo hi k B T w L lv P hw hpa hen hws hbd;have hgl:(zMo own nm n t L.length).length=(cod own nm n t (L.length+1)).length+1:=by simp [zMo]
 rw [hgl] at hbd;obtain ⟨sa,sb,sc,rfl⟩:=hpa.slice;have hb0:=zAM (Below.refl _ w) (.cells (zAN (hd n t) (.slice sa sb sc)).toArray 64);have HRP:Hid ((w.alloc (.cells (zAN (hd n t) (.slice sa sb sc)).toArray 64)).rangeAt w.heap.size 0 (zAN (hd n t) (.slice sa sb sc))):=(AtL.new0 w 64 (zAN (hd n t) (.slice sa sb sc))).range;have LA:=zAp k B T (ins 14 0 0).1 _ _ L lv P _ (hws.below hb0) hen.kB (Nat.le_trans hen.hB hb0.size) (by omega);have HGE:Hid (∀ j ∈ k::lv.ownBlock.toList,k<=j):=zMu hws hen.kB;have HLV:Hid (∀ j,lv.ownBlock=some j->B<=j/\j<w.heap.size):=λj e=>zAK hws.own e
 have HPT:Hid (∀ (W:World) (lv1:Value) (P1:List (Wc.In × Value)) (S:List Nat),Fr S w W->(∀ j ∈ S,k<=j)->WS k B T W (.int .i64 own) (.slice av2 m2 cap2) (L++[ins 14 0 0]) lv1 P1->Calls prog 27 #[.pointer (some ⟨k,0,none⟩),.agg (zAN (hd n t) (.slice sa sb sc)).toArray] W (WP k B T (.int .i64 own) (.slice av2 m2 cap2) (L++ins 14 0 0::cod own nm n t (L.length+1)) lv1 W)):=λW lv1 P1 S f hs ws1=>by
  have:=ih t (.slice sa sb sc) lo hi k B T W (L++[ins 14 0 0]) lv1 P1 hw (PA.kept (Kept.of_fr f (λj hj=>by have:=hs j hj;have:=hen.hk;omega)) n _ _ hpa) (hen.fr f hs) ws1 (by simp;omega);rw [show (L++[ins 14 0 0]).length=L.length+1 from by simp,List.append_assoc] at this;exact this
 have HEN:Hid (k<B/\B<=w.heap.size):=⟨hen.kB,hen.hB⟩
 have HBD:Hid (L.length+((cod own nm n t (L.length+1)).length+1)<=900000):=hbd;have HGR:Hid (L++zMo own nm n t L.length=L++({(ins 14 0 0).1 with a:=((L.length+1+(cod own nm n t (L.length+1)).length:Nat):Int)},[])::cod own nm n t (L.length+1)):=rfl;obtain ⟨LF,hLF⟩:∃ LF,L++zMo own nm n t L.length=LF:=⟨_,rfl⟩
 rw [hLF];rw [hLF] at HGR;generalize cod own nm n t (L.length+1)=cd at *;generalize hd n t=y at *;have HB0:Hid (Below w.heap.size w (w.alloc (.cells (zAN y (.slice sa sb sc)).toArray 64))):=hb0;clear hgl hbd hw hpa hen hws ih hb0 hLF;go_enter func127,ntmps127;go_upto_region 1 with fail
 generalize (w.alloc (.cells (zAN y (.slice sa sb sc)).toArray 64))=W at *;go_wp2_with (first | (refine zAQ rfl 14 rfl ?_))
 refine LA.mono ?_;rintro e w1 h1;obtain ⟨⟨lv1,P1,rfl,ws1,nx1⟩,fr1⟩:=h1.from HB0.out
 have LT:=zCv k B 157 T _ _ _ lv1 P1 w1 ws1 (by simp) (by have:=HBD.out;simp;omega);rw [show (L++[((ins 14 0 0).1,([]:List Int))]).length - 1=L.length from by simp] at LT;have HW1:Hid (WS k B T w1 (.int .i64 own) (.slice av2 m2 cap2) (L++[ins 14 0 0]) lv1 P1/\Nx w lv lv1/\Fr (k::lv.ownBlock.toList) w w1):=⟨ws1,nx1,fr1⟩
 have HRP1:Hid (w1.rangeAt w.heap.size 0 (zAN y (.slice sa sb sc))):=by
  obtain ⟨⟨lv0,P0,_,_,_⟩,f0⟩:=h1;exact f0.range HRP.out (λhm=>by
   rcases List.mem_cons.1 hm with q | q
   ·have:=HEN.out;omega
   ·have:=(HLV.out w.heap.size (by simpa using q)).2;omega)
 clear LA h1 ws1 nx1 fr1 HB0 HRP;go_wp2_with fail
 refine LT.mono ?_;rintro e w2 ⟨⟨cl,bs,rfl,hcl,hbs⟩,hb2⟩;obtain ⟨q1,q2,q3⟩:=HW1.out;have rP:=zAF hb2 HRP1.out;have hf2:=q3.trans (Fr.of_below _ hb2);have PT:=HPT.out w2 lv1 P1 _ hf2 HGE.out (q1.below hb2);have HCL:Hid (Cl k w2 157 L.length bs cl/\(∀ b ∈ bs,w1.heap.size<=b/\b<w2.heap.size)/\(∀ j,lv1.ownBlock=some j->B<=j/\j<w1.heap.size)/\Fr (k::lv.ownBlock.toList) w w2/\Nx w lv lv1/\w.heap.size<=w1.heap.size):=⟨hcl,hbs,λj e=>zAK q1.own e,hf2,q2,q3.size⟩
 obtain ⟨bi,bw,ba,hbse,rfl,hc1,hc2,hc3⟩:=hcl;clear hc1 hc2 hc3 hbs hb2 q1 q2 q3 hf2 HW1 HRP1 LT HPT;go_wp2_with (first | (refine zAA (by rfl) 64 (.tmp 3) rfl w.heap.size 0 rfl (zAN y (.slice sa sb sc)) _ rP underlying64 rfl (by kernel_rfl) ?_))
 refine PT.mono ?_;rintro e w3 ⟨⟨lv3,P3,rfl,ws3,nx3⟩,fr3⟩;obtain ⟨c1,c2,c3,c4,c5,c6⟩:=HCL.out;have hcl3:=c1.fr fr3 (λb hb hm=>by
  have h9:=c2 b hb;rcases List.mem_cons.1 hm with q | q
  ·have:=HEN.out;omega
  ·have:=(c3 b (by simpa using q)).2;omega)
 have hnl:∀ b ∈ bs,∀ j,lv3.ownBlock=some j->b ≠ j:=λb hb j e=>by
  have h9:=c2 b hb;rcases nx3 j e with q | q
  ·have:=(c3 j q).2;omega
  ·omega
 obtain ⟨bi3,bw3,ba3,hbs3,hcv,d1,d2,d3⟩:=hcl3;simp only [Value.func.injEq,true_and,Array.mk.injEq,List.cons.injEq,Value.pointer.injEq,Option.some.injEq,Addr.mk.injEq,and_true] at hcv;obtain ⟨rfl,rfl,rfl⟩:=hcv;rw [hbs3] at hnl;have CA:=zFH k B T _ _ _ lv3 P3 w3 L.length bi bw ba ws3 HEN.out.1 (by have:=HBD.out;simp;omega) (by simp) d1 d2 d3 (λj e=>⟨hnl bi (by simp) j e,hnl bw (by simp) j e,hnl ba (by simp) j e⟩);rw [zAm L _ _ cd L.length rfl] at CA;simp only [zM7 L _ cd L.length rfl] at CA;have eg:∀ args w,(callFunc 174 args).run prog w=.ok (.enter 174 args) w:=λ_ _=>by kernel_rfl
 have HR0:Hid (∀ w4:World,(∃ P',WS k B T w4 (.int .i64 own) (.slice av2 m2 cap2) (L++({(ins 14 0 0).1 with a:=((L++ins 14 0 0::cd).length:Int)},(ins 14 0 0).2)::cd) lv3 P')->Fr lv3.ownBlock.toList w3 w4->WP k B T (.int .i64 own) (.slice av2 m2 cap2) LF lv w (.returned (.tuple #[])) w4):=by
  intro w4 hP hf;obtain ⟨P4,ws4⟩:=hP;have hlen:(((L++ins 14 0 0::cd).length:Nat):Int)=((L.length+1+cd.length:Nat):Int):=by simp;omega
  rw [hlen] at ws4;have hLF:=HGR.out;refine ⟨⟨lv3,P4,rfl,by rw [hLF];exact ws4,c5.trans nx3 c4.size⟩,?_⟩;have f3:Fr (k::lv.ownBlock.toList) w w3:=zIW c4 fr3 (λj e=>(c5 j e));exact f3.new hf (λj hj=>by
   rcases nx3 j (by simpa using hj) with q | q
   ·rcases c5 j q with r | r
    ·exact Or.inl (List.mem_cons_of_mem _ (by simp [r]))
    ·exact Or.inr r
   ·exact Or.inr (Nat.le_trans c4.size q))
 clear PT rP HCL c1 c2 c3 c4 c5 c6 hnl d1 d2 d3 ws3 nx3 fr3 hbs3 hbse HGR HGE HLV HBD;go_wp2_with (first | (go_at_call 174;refine CA.mono ?_;rintro e w4 ⟨⟨P4,rfl,ws4⟩,fr4⟩))
 have HR:Hid (WP k B T (.int .i64 own) (.slice av2 m2 cap2) LF lv w (.returned (.tuple #[])) w4):=HR0.out w4 ⟨P4,ws4⟩ fr4;clear CA HR0 ws4 fr4;go_end0
 exact HR.out
open Go.RowKit Wf
abbrev clV (bi bw ba:Nat):Value:=.func (.func 174) #[] #[.pointer (some ⟨bi,0,none⟩),.pointer (some ⟨bw,0,none⟩),.pointer (some ⟨ba,0,none⟩)]
structure Pd (k:Nat) (w:World) (lv:Value) (f at' bi bw ba:Nat):Prop where
 c1:w.cell? ⟨bi,0,none⟩=some (.func (.func f) #[] #[])
 c2:w.cell? ⟨bw,0,none⟩=some (.pointer (some ⟨k,0,none⟩))
 c3:w.cell? ⟨ba,0,none⟩=some (.int .i64 (at':Int))
 bd:∀ b ∈ [bi,bw,ba],k<b/\b<w.heap.size/\¬ lv.ownBlock=some b
theorem Pd.fr (h:Pd k w lv f at' bi bw ba) {S:List Nat} (hf:Fr S w w') (hs:∀ b ∈ [bi,bw,ba],b ∉ S) (hl:∀ b ∈ [bi,bw,ba],¬ lv'.ownBlock=some b):Pd k w' lv' f at' bi bw ba :=
 ⟨hf.cell h.c1 (hs _ (by simp)),hf.cell h.c2 (hs _ (by simp)),hf.cell h.c3 (hs _ (by simp)),λb hb=>⟨(h.bd b hb).1,Nat.lt_of_lt_of_le (h.bd b hb).2.1 hf.size,hl b hb⟩⟩
theorem Pd.below (h:Pd k w lv f at' bi bw ba) (hb:Below w.heap.size w w'):Pd k w' lv f at' bi bw ba:=h.fr (Fr.of_below [] hb) (λb _=>by simp) (λb hb=>(h.bd b hb).2.2)
theorem Pd.step (h:Pd k w lv f at' bi bw ba) (hf:Fr (k::lv.ownBlock.toList) w w') (hn:Nx w lv lv'):Pd k w' lv' f at' bi bw ba :=
 h.fr hf (λb hb hm=>by
  have h9:=h.bd b hb;rcases List.mem_cons.1 hm with q | q
  ·omega
  ·exact h9.2.2 (by simpa using q)) (λb hb e=>by
  have h9:=h.bd b hb;rcases hn b e with q | q
  ·exact h9.2.2 q
  ·omega)
theorem Pd.patch (h:Pd k w lv f at' bi bw ba) (hf:Fr lv.ownBlock.toList w w'):Pd k w' lv f at' bi bw ba :=
 h.fr hf (λb hb hm=>(h.bd b hb).2.2 (by simpa using hm)) (λb hb=>(h.bd b hb).2.2)
theorem zC9 (k B f:Nat) (T:Nat->Nat) (s0 s1:Value) (L:List I) (lv:Value) (P:List (Wc.In × Value)) (w:World) (h:WS k B T w s0 s1 L lv P) (h0:0<L.length) (hl:L.length<=1000000) :
  Calls prog 156 #[.pointer (some ⟨k,0,none⟩),.func (.func f) #[] #[]] w λe w'=>(∃ bi bw ba,e=.returned (clV bi bw ba)/\Pd k w' lv f (L.length - 1) bi bw ba)/\Below w.heap.size w w':=by
 refine (zCv k B f T s0 s1 L lv P w h h0 hl).mono ?_;rintro e w' ⟨⟨cl,bs,rfl,⟨bi,bw,ba,rfl,rfl,c1,c2,c3⟩,hbs⟩,hb⟩;refine ⟨⟨bi,bw,ba,rfl,c1,c2,c3,λb hb'=>?_⟩,hb⟩;have h9:=hbs b hb';have:=h.at'.lt;exact ⟨by omega,h9.2,λe=>by have:=(zAK h.own e).2;omega⟩
def JPd (k B:Nat) (T:Nat->Nat) (s0 s1:Value) (L:List I) (lv:Value) (w:World) (e:Ending) (w':World):Prop :=
 (∃ bi bw ba lv' P',e=.returned (clV bi bw ba)/\Pd k w' lv' 157 L.length bi bw ba/\(∀ b ∈ [bi,bw,ba],w.heap.size<=b)/\WS k B T w' s0 s1 (L++[ins 13 0 0]) lv' P'/\Nx w lv lv')/\Fr (k::lv.ownBlock.toList) w w'
theorem zIu (k B:Nat) (T:Nat->Nat) (s0 s1:Value) (L:List I) (lv:Value) (P:List (Wc.In × Value)) (w:World) (h:WS k B T w s0 s1 L lv P) (hkB:k<B) (hB:B<=w.heap.size) (hl:L.length<=999999) :
  Calls prog 159 #[.pointer (some ⟨k,0,none⟩)] w (JPd k B T s0 s1 L lv w):=by
 refine (zMM k B T s0 s1 L lv P w h hkB hB hl).mono ?_;rintro e w' ⟨⟨cl,bs,lv',P',rfl,⟨bi,bw,ba,rfl,rfl,c1,c2,c3⟩,hbs,ws,nx⟩,hf⟩;refine ⟨⟨bi,bw,ba,lv',P',rfl,⟨c1,c2,c3,λb hb'=>?_⟩,λb hb'=>(hbs b hb').1,ws,nx⟩,hf⟩;have h9:=hbs b hb';exact ⟨by omega,h9.2.1,h9.2.2⟩
theorem pdA (k B:Nat) (T:Nat->Nat) (s0 s1:Value) (L L':List I) (lv:Value) (P:List (Wc.In × Value)) (w:World) (at':Nat) (bi bw ba:Nat) (h:WS k B T w s0 s1 L lv P) (hkB:k<B) (hl:L.length<=1000000) (hp:Pd k w lv 157 at' bi bw ba) (X Y:List I) (x:I) (hL:L=X++x::Y) (ha:at'=X.length) (v:Int) (hv:(L.length:Int)=v) (hL':L'=X++({x.1 with a:=v},x.2)::Y) :
  Calls prog 174 #[.pointer (some ⟨bi,0,none⟩),.pointer (some ⟨bw,0,none⟩),.pointer (some ⟨ba,0,none⟩)] w λe w'=>(∃ P',e=.returned (.tuple #[])/\WS k B T w' s0 s1 L' lv P')/\Fr lv.ownBlock.toList w w':=by
 subst ha;have hat:X.length<L.length:=by rw [hL];simp
 have:=zFH k B T s0 s1 L lv P w X.length bi bw ba h hkB hl hat hp.c1 hp.c2 hp.c3 (λb e=>⟨λq=>(hp.bd bi (by simp)).2.2 (by rw [q];exact e),λq=>(hp.bd bw (by simp)).2.2 (by rw [q];exact e),λq=>(hp.bd ba (by simp)).2.2 (by rw [q];exact e)⟩);rw [hv] at this;have hx:L[X.length]=x:=by subst hL;simp
 have hset:L.set X.length ({(L[X.length]).1 with a:=v},(L[X.length]).2)=L':=by rw [hx,hL',hL,zAm X _ _ Y X.length rfl]
 rw [hset] at this;exact this
theorem pdB (k B:Nat) (T:Nat->Nat) (s0 s1:Value) (L L':List I) (lv:Value) (P:List (Wc.In × Value)) (w:World) (at':Nat) (bi bw ba:Nat) (h:WS k B T w s0 s1 L lv P) (hkB:k<B) (hl:L.length<=1000000) (hp:Pd k w lv 158 at' bi bw ba) (X Y:List I) (x:I) (hL:L=X++x::Y) (ha:at'=X.length) (v:Int) (hv:(L.length:Int)=v) (hL':L'=X++({x.1 with b:=v},x.2)::Y) :
  Calls prog 174 #[.pointer (some ⟨bi,0,none⟩),.pointer (some ⟨bw,0,none⟩),.pointer (some ⟨ba,0,none⟩)] w λe w'=>(∃ P',e=.returned (.tuple #[])/\WS k B T w' s0 s1 L' lv P')/\Fr lv.ownBlock.toList w w':=by
 subst ha;have hat:X.length<L.length:=by rw [hL];simp
 have:=zHo k B T s0 s1 L lv P w X.length bi bw ba h hkB hl hat hp.c1 hp.c2 hp.c3 (λb e=>⟨λq=>(hp.bd bi (by simp)).2.2 (by rw [q];exact e),λq=>(hp.bd bw (by simp)).2.2 (by rw [q];exact e),λq=>(hp.bd ba (by simp)).2.2 (by rw [q];exact e)⟩);rw [hv] at this;have hx:L[X.length]=x:=by subst hL;simp
 have hset:L.set X.length ({(L[X.length]).1 with b:=v},(L[X.length]).2)=L':=by rw [hx,hL',hL,zAm X _ _ Y X.length rfl]
 rw [hset] at this;exact this
theorem zL9:∀ args w,(callFunc 174 args).run prog w=.ok (.enter 174 args) w:=λ_ _=>by kernel_rfl
structure St (own:Int) (nm:List ByteArray) (av2:Option Addr) (m2 cap2 k B:Nat) (T:Nat->Nat) (hi:Nat) (w0:World) (lv0:Value) (w:World) (L:List I) (lv:Value) (P:List (Wc.In × Value)):Prop where
 en:En own nm av2 m2 cap2 k B T hi w
 ws:WS k B T w (.int .i64 own) (.slice av2 m2 cap2) L lv P
 nx:Nx w0 lv0 lv
 fr:Fr (k::lv0.ownBlock.toList) w0 w
section
variable {own:Int} {nm:List ByteArray} {av2:Option Addr} {m2 cap2 k B hi:Nat} {T:Nat->Nat} {w0:World} {lv0:Value} {w:World} {L:List I} {lv:Value} {P:List (Wc.In × Value)}
theorem St.init (he:En own nm av2 m2 cap2 k B T hi w) (hw:WS k B T w (.int .i64 own) (.slice av2 m2 cap2) L lv P):St own nm av2 m2 cap2 k B T hi w lv w L lv P:=⟨he,hw,Nx.refl _ _,Fr.refl _ _⟩
theorem St.below {w':World} (h:St own nm av2 m2 cap2 k B T hi w0 lv0 w L lv P) (hb:Below w.heap.size w w'):St own nm av2 m2 cap2 k B T hi w0 lv0 w' L lv P:=⟨h.en.below hb,h.ws.below hb,h.nx,h.fr.trans (Fr.of_below _ hb)⟩
theorem St.step {w':World} {L':List I} {lv':Value} {P':List (Wc.In × Value)} (h:St own nm av2 m2 cap2 k B T hi w0 lv0 w L lv P) (hf:Fr (k::lv.ownBlock.toList) w w') (hn:Nx w lv lv') (hw:WS k B T w' (.int .i64 own) (.slice av2 m2 cap2) L' lv' P'):St own nm av2 m2 cap2 k B T hi w0 lv0 w' L' lv' P' :=
 ⟨h.en.fr hf (zMu h.ws h.en.kB),hw,h.nx.trans hn h.fr.size,zIW h.fr hf h.nx⟩
theorem St.patch {w':World} {L':List I} {P':List (Wc.In × Value)} (h:St own nm av2 m2 cap2 k B T hi w0 lv0 w L lv P) (hf:Fr lv.ownBlock.toList w w') (hw:WS k B T w' (.int .i64 own) (.slice av2 m2 cap2) L' lv P'):St own nm av2 m2 cap2 k B T hi w0 lv0 w' L' lv P' :=
 h.step (hf.mono (λj hj=>List.mem_cons_of_mem _ hj)) (Nx.refl _ _) hw
theorem St.wp (h:St own nm av2 m2 cap2 k B T hi w0 lv0 w L lv P):WP k B T (.int .i64 own) (.slice av2 m2 cap2) L lv0 w0 (.returned (.tuple #[])) w:=⟨⟨lv,P,rfl,h.ws,h.nx⟩,h.fr⟩
theorem St.kept (h:St own nm av2 m2 cap2 k B T hi w0 lv0 w L lv P) {lo:Nat} (h0:∀ j,lv0.ownBlock=some j->B<=j):Kept lo hi w0 w:=Kept.of_fr h.fr (λj hj=>by
 have:=h.en.hk;have:=h.en.kB;rcases List.mem_cons.1 hj with q | q
 ·omega
 ·have:=h0 j (by simpa using q);omega)
end
open Go.RowKit Wf
section
variable (own:Int) (nm:List ByteArray) (av2:Option Addr) (m2 cap2:Nat)
def BrC (n:Nat):Prop:=∀ (t:Tr n) (sl:Value) (ps:List (Tr n × Value)) (av:Option Addr) (m cap lo hi k B:Nat) (T:Nat->Nat) (w:World) (L:List I) (lv:Value) (P:List (Wc.In × Value)),Wr own nm n t->PA n lo hi w t sl->m=ps.length->ps.length<=30->(∀ p ∈ ps,Wr own nm n p.1)->(∀ p ∈ ps,PA n lo hi w p.1 p.2)->RdQ w av (ps.map λp=>(hd n p.1,p.2))->(∀ bb off,av=some ⟨bb,off,none⟩->bb<hi)->En own nm av2 m2 cap2 k B T hi w->WS k B T w (.int .i64 own) (.slice av2 m2 cap2) L lv P->L.length+(zC5 (cod own nm n) t (ps.map (·.1)) L.length).length<=900000 ->
 Calls prog 126 #[.pointer (some ⟨k,0,none⟩),.agg (zAN (hd n t) sl).toArray,.slice av m cap] w (WP k B T (.int .i64 own) (.slice av2 m2 cap2) (L++zC5 (cod own nm n) t (ps.map (·.1)) L.length) lv w)
end
theorem RdQ.frq {S:List Nat} {av:Option Addr} {L:List (Wt.Nd × Value)} (h:RdQ w av L) (hf:Fr S w w') (hn:∀ bb off,av=some ⟨bb,off,none⟩->bb ∉ S):RdQ w' av L:=λi hi=>by
 obtain ⟨bb,off,e,hr⟩:=h i hi;exact ⟨bb,off,e,hf.range hr (hn bb off e)⟩
theorem zIZ (own:Int) (nm:List ByteArray) (av2:Option Addr) (m2 cap2 n:Nat) (ih:PtC own nm av2 m2 cap2 n):BrC own nm av2 m2 cap2 n:=by
 intro t sl ps av m cap lo hi k B T w L lv P hw hpa hm hl hwp hpap hrd hav hen hws hbd;have al:=zFs own nm av2 m2 cap2 n ih;obtain ⟨sa,sb,sc,rfl⟩:=hpa.slice;obtain ⟨y,hy⟩:∃ y,cod own nm n t (L.length+1)=y:=⟨_,rfl⟩
 obtain ⟨z,hz⟩:∃ z,(if ps.isEmpty then [zBU zHq] else zAR (cod own nm n) (ps.map (·.1)) (L.length+1+y.length+1))=z:=⟨_,rfl⟩
 have hLF:L++zC5 (cod own nm n) t (ps.map (·.1)) L.length=L++ins 12 (L.length+1+y.length+1:Nat) (L.length+1+y.length+1+z.length:Nat)::(y++ins 13 (L.length+1+y.length+1+z.length:Nat) 0::z):=by
  have he:(ps.map (·.1)).isEmpty=ps.isEmpty:=by cases ps <;> rfl
  simp only [zC5,hy,he,hz]
 have hbd2:L.length+1+y.length+1+z.length<=900000:=by
  have:=congrArg List.length hLF;simp only [List.length_append,List.length_cons] at this;omega
 rw [hLF];have hb0:=zAM (Below.refl _ w) (.cells (zAN (hd n t) (.slice sa sb sc)).toArray 64);have rP0:=(AtL.new0 w 64 (zAN (hd n t) (.slice sa sb sc))).range;have h0B:∀ j,lv.ownBlock=some j->B<=j:=λj e=>(zAK hws.own e).1
 have h0s:∀ j,lv.ownBlock=some j->j<w.heap.size:=λj e=>(zAK hws.own e).2
 have st0:=(St.init hen hws).below hb0;have HPT:Hid (∀ (W:World) (lv1:Value) (P1:List (Wc.In × Value)),St own nm av2 m2 cap2 k B T hi w lv W (L++[ins 12 0 0]) lv1 P1->Calls prog 27 #[.pointer (some ⟨k,0,none⟩),.agg (zAN (hd n t) (.slice sa sb sc)).toArray] W (WP k B T (.int .i64 own) (.slice av2 m2 cap2) (L++ins 12 0 0::y) lv1 W)):=λW lv1 P1 st=>by
  have hc:cod own nm n t (L++[ins 12 0 0]).length=y:=by rw [<-hy];simp
  have:=ih t (.slice sa sb sc) lo hi k B T W (L++[ins 12 0 0]) lv1 P1 hw (PA.kept (st.kept h0B) n _ _ hpa) st.en st.ws (by rw [hc];simp;omega);rw [hc,List.append_assoc] at this;exact this
 have HAL:Hid (∀ (W:World) (L3:List I) (lv1:Value) (P1:List (Wc.In × Value)),L3.length=L.length+1+y.length+1->St own nm av2 m2 cap2 k B T hi w lv W L3 lv1 P1->Calls prog 49 #[.pointer (some ⟨k,0,none⟩),.slice av m cap] W (WP k B T (.int .i64 own) (.slice av2 m2 cap2) (L3++zAR (cod own nm n) (ps.map (·.1)) (L.length+1+y.length+1)) lv1 W)):=λW L3 lv1 P1 hL3 st=>by
  have hsz:(zAR (cod own nm n) (ps.map (·.1)) (L.length+1+y.length+1)).length<=z.length:=by
   rw [<-hz];cases ps with
   | nil=>simp [zAR]
   | cons p r=>simp
  have:=al ps av m cap lo hi k B T W L3 lv1 P1 hm hl hwp (λp hp=>PA.kept (st.kept h0B) n _ _ (hpap p hp)) (hrd.frq st.fr (λbb off e hmm=>by
   have h9:=hav bb off e;have:=hen.hk;have:=hen.kB;rcases List.mem_cons.1 hmm with q | q
   ·omega
   ·have:=h0B bb (by simpa using q);omega)) (λ_ bb off e j ej=>by have:=hav bb off e;have:=hen.hk;have:=hen.kB;have:=(zAK st.ws.own ej).1;omega) (λ_ bb off e=>by have:=hav bb off e;have:=hen.hk;have:=hen.kB;have:=st.en.hB;omega) st.en st.ws (by rw [hL3];omega)
  rw [hL3] at this;exact this
 have HZ:Hid ((m=0->ps=[]/\z=[zBU zHq]/\zAR (cod own nm n) (ps.map (·.1)) (L.length+1+y.length+1)=[])/\(m ≠ 0->zAR (cod own nm n) (ps.map (·.1)) (L.length+1+y.length+1)=z)):=by
  refine ⟨λh=>?_,λh=>?_⟩
  ·have hp:ps=[]:=List.eq_nil_of_length_eq_zero (by omega);subst hp;exact ⟨rfl,hz.symm,rfl⟩
  ·rw [<-hz];cases ps with
   | nil=>simp at hm;omega
   | cons p r=>simp
 have HBD:Hid (L.length+1+y.length+1+z.length<=900000):=hbd2;generalize zAR (cod own nm n) (ps.map (·.1)) (L.length+1+y.length+1)=sq at *;generalize hd n t=x at *;have HST0:Hid (St own nm av2 m2 cap2 k B T hi w lv (w.alloc (.cells (zAN x (.slice sa sb sc)).toArray 64)) L lv P):=st0;have HRP0:Hid ((w.alloc (.cells (zAN x (.slice sa sb sc)).toArray 64)).rangeAt w.heap.size 0 (zAN x (.slice sa sb sc))):=rP0;have HKS:Hid (k<w.heap.size/\∀ j,lv.ownBlock=some j->j<w.heap.size):=⟨by have:=hen.kB;have:=hen.hB;omega,h0s⟩
 clear hy hz hLF hbd hbd2 hw hpa hm hl hwp hpap hrd hav hen hws ih al hb0 h0B h0s st0 rP0;go_enter func126,ntmps126;go_upto_region 1 with fail
 generalize (w.alloc (.cells (zAN x (.slice sa sb sc)).toArray 64))=W at *;have LA:=zAp k B T (ins 12 0 0).1 _ _ L lv P W HST0.out.ws HST0.out.en.kB HST0.out.en.hB (by have:=HBD.out;omega);go_wp2_with (first | (refine zAQ rfl 12 rfl ?_))
 refine LA.mono ?_;rintro e w1 ⟨⟨lv1,P1,rfl,ws1,nx1⟩,fr1⟩;have HST1:Hid (St own nm av2 m2 cap2 k B T hi w lv w1 (L++[ins 12 0 0]) lv1 P1):=HST0.out.step fr1 nx1 ws1;have HRP1:Hid (w1.rangeAt w.heap.size 0 (zAN x (.slice sa sb sc))):=fr1.range HRP0.out (λhm=>by
  rcases List.mem_cons.1 hm with q | q
  ·have:=HKS.out.1;omega
  ·have:=HKS.out.2 w.heap.size (by simpa using q);omega)
 clear LA ws1 nx1 fr1 HST0 HRP0;have LT:=zC9 k B 157 T _ _ _ lv1 P1 w1 HST1.out.ws (by simp) (by have:=HBD.out;simp;omega);rw [show (L++[ins 12 0 0]).length - 1=L.length from by simp] at LT;go_wp2_with fail
 refine LT.mono ?_;rintro e w2 ⟨⟨bi1,bw1,ba1,rfl,pd1⟩,hb2⟩;have HST2:Hid (St own nm av2 m2 cap2 k B T hi w lv w2 (L++[ins 12 0 0]) lv1 P1):=HST1.out.below hb2;have HRP2:Hid (w2.rangeAt w.heap.size 0 (zAN x (.slice sa sb sc))):=zAF hb2 HRP1.out;have HP1:Hid (Pd k w2 lv1 157 L.length bi1 bw1 ba1):=pd1;clear LT pd1 hb2 HST1 HRP1;have LT:=zC9 k B 158 T _ _ _ lv1 P1 w2 HST2.out.ws (by simp) (by have:=HBD.out;simp;omega);rw [show (L++[ins 12 0 0]).length - 1=L.length from by simp] at LT;go_wp2_with fail
 refine LT.mono ?_;rintro e w3 ⟨⟨bi2,bw2,ba2,rfl,pd2⟩,hb3⟩;have HST3:Hid (St own nm av2 m2 cap2 k B T hi w lv w3 (L++[ins 12 0 0]) lv1 P1):=HST2.out.below hb3;have rP:=zAF hb3 HRP2.out;have HP1b:Hid (Pd k w3 lv1 157 L.length bi1 bw1 ba1):=HP1.out.below hb3;have HP2:Hid (Pd k w3 lv1 158 L.length bi2 bw2 ba2):=pd2;clear LT pd2 hb3 HST2 HRP2 HP1;have PT:=HPT.out w3 lv1 P1 HST3.out;go_wp2_with (first | (refine zAA (by rfl) 64 (.tmp 4) rfl w.heap.size 0 rfl (zAN x (.slice sa sb sc)) _ rP underlying64 rfl (by kernel_rfl) ?_))
 refine PT.mono ?_;rintro e w4 ⟨⟨lv4,P4,rfl,ws4,nx4⟩,fr4⟩;have HST4:Hid (St own nm av2 m2 cap2 k B T hi w lv w4 (L++ins 12 0 0::y) lv4 P4):=HST3.out.step fr4 nx4 ws4;have HP1:Hid (Pd k w4 lv4 157 L.length bi1 bw1 ba1):=HP1b.out.step fr4 nx4;have HP2b:Hid (Pd k w4 lv4 158 L.length bi2 bw2 ba2):=HP2.out.step fr4 nx4;clear PT rP ws4 nx4 fr4 HST3 HP1b HP2 HPT;have JU:=zIu k B T _ _ _ lv4 P4 w4 HST4.out.ws HST4.out.en.kB HST4.out.en.hB (by have:=HBD.out;simp;omega);go_wp2_with fail
 refine JU.mono ?_;rintro e w5 ⟨⟨bi3,bw3,ba3,lv5,P5,rfl,pd3,_,ws5,nx5⟩,fr5⟩;have HST5:Hid (St own nm av2 m2 cap2 k B T hi w lv w5 ((L++ins 12 0 0::y)++[ins 13 0 0]) lv5 P5):=HST4.out.step fr5 nx5 ws5;have HP1b:Hid (Pd k w5 lv5 157 L.length bi1 bw1 ba1):=HP1.out.step fr5 nx5;have HP2:Hid (Pd k w5 lv5 158 L.length bi2 bw2 ba2):=HP2b.out.step fr5 nx5;have HP3:Hid (Pd k w5 lv5 157 (L++ins 12 0 0::y).length bi3 bw3 ba3):=pd3;clear JU pd3 ws5 nx5 fr5 HST4 HP1 HP2b;have CA:=pdA k B T _ _ _ (L++ins 12 (L.length+1+y.length+1:Nat) 0::(y++[ins 13 0 0])) lv5 P5 w5 L.length bi1 bw1 ba1 HST5.out.ws HST5.out.en.kB (by have:=HBD.out;simp;omega) HP1b.out L (y++[ins 13 0 0]) (ins 12 0 0) (by simp) rfl ((L.length+1+y.length+1:Nat):Int) (by simp;omega) rfl;have eg:=zL9;go_wp2_with (first | (go_at_call 174;refine CA.mono ?_;rintro e w6 ⟨⟨P6,rfl,ws6⟩,fr6⟩;clear CA))
 have HST6:Hid (St own nm av2 m2 cap2 k B T hi w lv w6 (L++ins 12 (L.length+1+y.length+1:Nat) 0::(y++[ins 13 0 0])) lv5 P6):=HST5.out.patch fr6 ws6;have HP2b:Hid (Pd k w6 lv5 158 L.length bi2 bw2 ba2):=HP2.out.patch fr6;have HP3b:Hid (Pd k w6 lv5 157 (L++ins 12 0 0::y).length bi3 bw3 ba3):=HP3.out.patch fr6;clear ws6 fr6 HST5 HP1b HP2 HP3;have AL:=HAL.out w6 _ lv5 P6 (by simp;omega) HST6.out;refine AL.mono ?_;rintro e w7 ⟨⟨lv7,P7,rfl,ws7,nx7⟩,fr7⟩;have HST7:Hid (St own nm av2 m2 cap2 k B T hi w lv w7 ((L++ins 12 (L.length+1+y.length+1:Nat) 0::(y++[ins 13 0 0]))++sq) lv7 P7):=HST6.out.step fr7 nx7 ws7;have HP2:Hid (Pd k w7 lv7 158 L.length bi2 bw2 ba2):=HP2b.out.step fr7 nx7;have HP3:Hid (Pd k w7 lv7 157 (L++ins 12 0 0::y).length bi3 bw3 ba3):=HP3b.out.step fr7 nx7;clear AL ws7 nx7 fr7 HST6 HP2b HP3b HAL;have HEND:Hid (∀ (w8:World) (lv8:Value) (P8:List (Wc.In × Value)),St own nm av2 m2 cap2 k B T hi w lv w8 (L++ins 12 (L.length+1+y.length+1:Nat) 0::(y++ins 13 0 0::z)) lv8 P8->Pd k w8 lv8 157 (L++ins 12 0 0::y).length bi3 bw3 ba3->Calls prog 174 #[.pointer (some ⟨bi3,0,none⟩),.pointer (some ⟨bw3,0,none⟩),.pointer (some ⟨ba3,0,none⟩)] w8 λe w'=>(∃ P',e=.returned (.tuple #[])/\WS k B T w' (.int .i64 own) (.slice av2 m2 cap2) (L++ins 12 (L.length+1+y.length+1:Nat) 0::(y++ins 13 (L.length+1+y.length+1+z.length:Nat) 0::z)) lv8 P')/\Fr lv8.ownBlock.toList w8 w'):=λw8 lv8 P8 st pd =>
  pdA k B T _ _ _ _ lv8 P8 w8 _ bi3 bw3 ba3 st.ws st.en.kB (by have:=HBD.out;simp;omega) pd (L++ins 12 (L.length+1+y.length+1:Nat) 0::y) z (ins 13 0 0) (by simp) (by simp) ((L.length+1+y.length+1+z.length:Nat):Int) (by simp;omega) (by simp [ins])
 have HEN2:Hid (∀ (w8:World) (lv8:Value) (P8:List (Wc.In × Value)),St own nm av2 m2 cap2 k B T hi w lv w8 (L++ins 12 (L.length+1+y.length+1:Nat) 0::(y++ins 13 (L.length+1+y.length+1+z.length:Nat) 0::z)) lv8 P8->Pd k w8 lv8 158 L.length bi2 bw2 ba2->Calls prog 174 #[.pointer (some ⟨bi2,0,none⟩),.pointer (some ⟨bw2,0,none⟩),.pointer (some ⟨ba2,0,none⟩)] w8 λe w'=>(∃ P',e=.returned (.tuple #[])/\WS k B T w' (.int .i64 own) (.slice av2 m2 cap2) (L++ins 12 (L.length+1+y.length+1:Nat) (L.length+1+y.length+1+z.length:Nat)::(y++ins 13 (L.length+1+y.length+1+z.length:Nat) 0::z)) lv8 P')/\Fr lv8.ownBlock.toList w8 w'):=λw8 lv8 P8 st pd =>
  pdB k B T _ _ _ _ lv8 P8 w8 _ bi2 bw2 ba2 st.ws st.en.kB (by have:=HBD.out;simp;omega) pd L (y++ins 13 (L.length+1+y.length+1+z.length:Nat) 0::z) (ins 12 (L.length+1+y.length+1:Nat) 0) rfl rfl ((L.length+1+y.length+1+z.length:Nat):Int) (by simp;omega) rfl
 by_cases h0:m=0
 ·subst h0;obtain ⟨_,z1,z2⟩:=HZ.out.1 rfl;have HST7b:Hid (St own nm av2 m2 cap2 k B T hi w lv w7 (L++ins 12 (L.length+1+y.length+1:Nat) 0::(y++[ins 13 0 0])) lv7 P7):=by
   have:=HST7.out;rw [z2,List.append_nil] at this;exact this
  have HZ1:Hid (z=[zBU zHq]):=z1;have TR:=zG9 false w7;unfold vlV at TR;clear z1 z2 HST7 HZ;go_wp2_with fail
  refine TR.mono ?_;rintro e w8 ⟨rfl,hb8⟩;have HST8:Hid (St own nm av2 m2 cap2 k B T hi w lv w8 (L++ins 12 (L.length+1+y.length+1:Nat) 0::(y++[ins 13 0 0])) lv7 P7):=HST7b.out.below hb8;have HP2b:Hid (Pd k w8 lv7 158 L.length bi2 bw2 ba2):=HP2.out.below hb8;have HP3b:Hid (Pd k w8 lv7 157 (L++ins 12 0 0::y).length bi3 bw3 ba3):=HP3.out.below hb8;have PU:=zEi k B T (zCw false) _ _ _ lv7 P7 w8 HST8.out.ws HST8.out.en.kB HST8.out.en.hB (by have:=HBD.out;simp;omega);clear TR hb8 HST7b HP2 HP3;generalize hvt:zCw false=vt at *;have HVT:Hid (zCw false=vt):=hvt;clear hvt;go_wp2_with fail
  refine PU.mono ?_;rintro e w9 ⟨⟨lv9,P9,rfl,ws9,nx9⟩,fr9⟩;have HST9:Hid (St own nm av2 m2 cap2 k B T hi w lv w9 (L++ins 12 (L.length+1+y.length+1:Nat) 0::(y++ins 13 0 0::z)) lv9 P9):=by
   have h9:=HST8.out.step fr9 nx9 ws9;rw [<-HVT.out,show zCw false=zHq from rfl] at h9;rw [HZ1.out];have e9:(L++ins 12 (L.length+1+y.length+1:Nat) 0::(y++[ins 13 0 0]))++[zBU zHq]=L++ins 12 (L.length+1+y.length+1:Nat) 0::(y++ins 13 0 0::[zBU zHq]):=by simp
   rw [e9] at h9;exact h9
  have HP2:Hid (Pd k w9 lv9 158 L.length bi2 bw2 ba2):=HP2b.out.step fr9 nx9;have HP3:Hid (Pd k w9 lv9 157 (L++ins 12 0 0::y).length bi3 bw3 ba3):=HP3b.out.step fr9 nx9;clear PU ws9 nx9 fr9 HST8 HP2b HP3b HZ1 HVT;have CA:=HEND.out w9 lv9 P9 HST9.out HP3.out;go_upto_region 10 with (first | (go_at_call 174;refine CA.mono ?_;rintro e w10 ⟨⟨P10,rfl,ws10⟩,fr10⟩;clear CA))
  have HST10:Hid (St own nm av2 m2 cap2 k B T hi w lv w10 (L++ins 12 (L.length+1+y.length+1:Nat) 0::(y++ins 13 (L.length+1+y.length+1+z.length:Nat) 0::z)) lv9 P10):=HST9.out.patch fr10 ws10;have HP2b:Hid (Pd k w10 lv9 158 L.length bi2 bw2 ba2):=HP2.out.patch fr10;clear ws10 fr10 HST9 HP2 HP3;have CB:=HEN2.out w10 lv9 P10 HST10.out HP2b.out;go_wp2_with (first | (go_at_call 174;refine CB.mono ?_;rintro e w11 ⟨⟨P11,rfl,ws11⟩,fr11⟩;clear CB))
  have HR:Hid (WP k B T (.int .i64 own) (.slice av2 m2 cap2) _ lv w (.returned (.tuple #[])) w11):=(HST10.out.patch fr11 ws11).wp;clear ws11 fr11 HST10 HP2b;go_end0
  exact HR.out
 ·have HST9:Hid (St own nm av2 m2 cap2 k B T hi w lv w7 (L++ins 12 (L.length+1+y.length+1:Nat) 0::(y++ins 13 0 0::z)) lv7 P7):=by
   have h9:=HST7.out;rw [HZ.out.2 h0] at h9;have e9:(L++ins 12 (L.length+1+y.length+1:Nat) 0::(y++[ins 13 0 0]))++z=L++ins 12 (L.length+1+y.length+1:Nat) 0::(y++ins 13 0 0::z):=by simp
   rw [e9] at h9;exact h9
  have hm0:¬ (m:Int)=0:=by omega
  clear HST7 HZ;have CA:=HEND.out w7 lv7 P7 HST9.out HP3.out;go_upto_region 10 with (first | (go_at_call 174;refine CA.mono ?_;rintro e w10 ⟨⟨P10,rfl,ws10⟩,fr10⟩;clear CA))
  have HST10:Hid (St own nm av2 m2 cap2 k B T hi w lv w10 (L++ins 12 (L.length+1+y.length+1:Nat) 0::(y++ins 13 (L.length+1+y.length+1+z.length:Nat) 0::z)) lv7 P10):=HST9.out.patch fr10 ws10;have HP2b:Hid (Pd k w10 lv7 158 L.length bi2 bw2 ba2):=HP2.out.patch fr10;clear ws10 fr10 HST9 HP2 HP3;have CB:=HEN2.out w10 lv7 P10 HST10.out HP2b.out;go_wp2_with (first | (go_at_call 174;refine CB.mono ?_;rintro e w11 ⟨⟨P11,rfl,ws11⟩,fr11⟩;clear CB))
  have HR:Hid (WP k B T (.int .i64 own) (.slice av2 m2 cap2) _ lv w (.returned (.tuple #[])) w11):=(HST10.out.patch fr11 ws11).wp;clear ws11 fr11 HST10 HP2b;go_end0
  exact HR.out
open Go.RowKit Wf
theorem zCD (h:WS k B T w s0 s1 L lv P):w.rangeAt k 0 [s0,s1]:=λj v hv=>by
 have:=h.at'.2.1 j v (by
  match j,hv with
  | 0,hv=>exact hv
  | 1,hv=>exact hv
  | j+2,hv=>simp at hv)
 rw [Nat.zero_add];exact this
theorem zI1 (y:Operand) (ho:op.op=.build 56 #[(0,.const (.int .i64 8)),(5,y)]) (ar:Wpl.Ar) (hy:a.eval y=.agg (ar5 ar).toArray) (W:World):(execOp a.eval op).run prog W=.ok (.value (.agg (zAD (zAa 8 0 ar a0I).1 zAH).toArray)) W:=by
 unfold execOp;have hv:a.eval (.const (.int .i64 8))=.int .i64 8:=rfl;simp only [ho,List.map_toArray,List.map_cons,List.map_nil,hv,hy,Sem.run_bind,Sem.run_pure,Result.andThen_ok,zPV]
section
variable (own:Int) (nm:List ByteArray) (av2:Option Addr) (m2 cap2:Nat)
def Wq (n:Nat) (t:Tr n):Prop:=zAz n t/\zBB own nm n t=0
def zFF (n:Nat) (id:Int) (l:List (Tr n)) (a:Nat):List I:=ins 6 id 0::(zAR (zCA own nm (hd n) (cod own nm n)) l (a+1)++[ins 10 0 0])
def FoC (n:Nat):Prop:=∀ (id:Int) (ps:List (Tr n × Value)) (av:Option Addr) (m cap lo hi k B:Nat) (T:Nat->Nat) (w:World) (L:List I) (lv:Value) (P:List (Wc.In × Value)),m=ps.length->ps.length<=30->(∀ p ∈ ps,Wq own nm n p.1)->(∀ p ∈ ps,PA n lo hi w p.1 p.2)->RdQ w av (ps.map λp=>(hd n p.1,p.2))->(∀ bb off,av=some ⟨bb,off,none⟩->bb<hi)->En own nm av2 m2 cap2 k B T hi w->WS k B T w (.int .i64 own) (.slice av2 m2 cap2) L lv P->L.length+(zFF own nm n id (ps.map (·.1)) L.length).length<=900000 ->
 Calls prog 82 #[.pointer (some ⟨k,0,none⟩),.int .i64 id,.slice av m cap] w (WP k B T (.int .i64 own) (.slice av2 m2 cap2) (L++zFF own nm n id (ps.map (·.1)) L.length) lv w)
end
theorem zM2 (own:Int) (nm:List ByteArray) (av2:Option Addr) (m2 cap2 n:Nat) (ih:PtC own nm av2 m2 cap2 n):FoC own nm av2 m2 cap2 n:=by
 intro id ps av m cap lo hi k B T w L lv P hm hl hwp hpap hrd hav hen hws hbd;have fd:=zI0 own nm av2 m2 cap2 n ih;have h0B:∀ j,lv.ownBlock=some j->B<=j:=λj e=>(zAK hws.own e).1
 have hLF:L++zFF own nm n id (ps.map (·.1)) L.length=((L++[ins 6 id 0])++zAR (zCA own nm (hd n) (cod own nm n)) (ps.map (·.1)) (L.length+1))++[ins 10 0 0]:=by simp [zFF]
 have hbd2:L.length+1+(zAR (zCA own nm (hd n) (cod own nm n)) (ps.map (·.1)) (L.length+1)).length<=900000:=by
  simp only [zFF,List.length_cons,List.length_append] at hbd;omega
 rw [hLF];have LA:=zAp k B T (ins 6 id 0).1 _ _ L lv P w hws hen.kB hen.hB (by omega);have HST0:Hid (St own nm av2 m2 cap2 k B T hi w lv w L lv P):=St.init hen hws;have HM:Hid (m=ps.length/\ps.length<=30):=⟨hm,hl⟩
 have HWP:Hid (∀ p ∈ ps,Wq own nm n p.1):=hwp;have HPA:Hid (∀ p ∈ ps,PA n lo hi w p.1 p.2):=hpap;have HRD:Hid (RdQ w av (ps.map λp=>(hd n p.1,p.2))):=hrd;have HAV:Hid (∀ bb off,av=some ⟨bb,off,none⟩->bb<hi):=hav;have HK:Hid (hi<=k/\k<B/\∀ j,lv.ownBlock=some j->B<=j):=⟨hen.hk,hen.kB,h0B⟩
 have HFD:Hid (FdC own nm av2 m2 cap2 n):=fd;have HBD:Hid (L.length+1+(zAR (zCA own nm (hd n) (cod own nm n)) (ps.map (·.1)) (L.length+1)).length<=900000):=hbd2;have HMN:Hid (m2=nm.length/\nm.length<=16):=⟨hen.hm,hen.hl⟩
 clear hm hl hwp hpap hrd hav hen hws hbd ih fd h0B hLF hbd2;go_enter func82,ntmps82;go_wp2_with (first | (refine zA4 rfl 6 (.tmp 9) rfl id rfl ?_))
 refine LA.mono ?_;rintro e w1 ⟨⟨lv1,P1,rfl,ws1,nx1⟩,fr1⟩;have HST1:Hid (St own nm av2 m2 cap2 k B T hi w lv w1 (L++[ins 6 id 0]) lv1 P1):=HST0.out.step fr1 nx1 ws1;clear LA ws1 nx1 fr1 HST0;go_wp2_with fail
 go_loopg [7,14] m (λgk u x wr=>∃ (i:Nat),x=.int .i64 (i:Int)/\gk=m - i/\i<=m/\Hid (∃ lvi Pi,St own nm av2 m2 cap2 k B T hi w lv wr ((L++[ins 6 id 0])++zAR (zCA own nm (hd n) (cod own nm n)) ((ps.map (·.1)).take i) (L.length+1)) lvi Pi))
 case atStart=>exact ⟨0,rfl,rfl,Nat.zero_le _,⟨lv1,P1,by simpa [zAR] using HST1.out⟩⟩
 case round =>
  clear HST1;obtain ⟨i,rfl,hg,him,HS⟩:=hrel;by_cases hlt:i<m
  ·have hli:(i:Int)<(m:Int):=by omega
   have hiz:(0:Int)<=(i:Int):=by omega
   have hwi:IntKind.i64.wrap ((i:Int)+1)=(i:Int)+1:=by have:=HM.out;rw [IntKind.wrap_i64];omega
   have hln:i<ps.length:=by have:=HM.out;omega
   obtain ⟨lvi,Pi,st⟩:=HS.out;obtain ⟨bb,off,rfl,hr0⟩:=HRD.out i (by simpa using hln);simp only [List.getElem_map] at hr0;have hbn:bb ∉ k::lv.ownBlock.toList:=λhm=>by
    have:=HAV.out bb off rfl;have h9:=HK.out;rcases List.mem_cons.1 hm with q | q
    ·omega
    ·have:=h9.2.2 bb (by simpa using q);omega
   have hr:=st.fr.range hr0 hbn;have hpi:=List.getElem_mem hln;have hpa:=PA.kept (st.kept HK.out.2.2) n _ _ (HPA.out _ hpi);obtain ⟨sa,sb,sc,hsl⟩:=hpa.slice;have hstep:=zBX (zCA own nm (hd n) (cod own nm n)) (ps.map (·.1)) i (by simpa using hln) (L.length+1);have hle:=zCX (zCA own nm (hd n) (cod own nm n)) (ps.map (·.1)) (i+1) (L.length+1);rw [hstep,List.length_append,List.getElem_map] at hle;rw [List.getElem_map] at hstep;obtain ⟨Li,hLi⟩:∃ Li,(L++[ins 6 id 0])++zAR (zCA own nm (hd n) (cod own nm n)) ((ps.map (·.1)).take i) (L.length+1)=Li:=⟨_,rfl⟩
   have hLl:L.length+1+(zAR (zCA own nm (hd n) (cod own nm n)) ((ps.map (·.1)).take i) (L.length+1)).length=Li.length:=by rw [<-hLi];simp;omega
   have HST:Hid ((L++[ins 6 id 0])++zAR (zCA own nm (hd n) (cod own nm n)) ((ps.map (·.1)).take (i+1)) (L.length+1)=Li++zCA own nm (hd n) (cod own nm n) (ps[i]).1 Li.length):=by show _=_;rw [hstep,<-List.append_assoc,hLi,hLl]
   rw [hLl] at hle;rw [hLi] at st;have hwq:=HWP.out _ hpi;have HBL:Hid (Li.length<=1000000):=by have:=HBD.out;show _<=_;omega
   have HFE:Hid (isA (hd n (ps[i]).1)=false->∀ (W:World),Below wr.heap.size wr W->Calls prog 120 #[.pointer (some ⟨k,0,none⟩),.agg (zAN (hd n (ps[i]).1) (.slice sa sb sc)).toArray] W (WP k B T (.int .i64 own) (.slice av2 m2 cap2) (Li++zCA own nm (hd n) (cod own nm n) (ps[i]).1 Li.length) lvi W)):=λhia W hb=>by
    have he:zCA own nm (hd n) (cod own nm n) (ps[i]).1 Li.length=zAY (cod own nm n) (ps[i]).1 Li.length:=by unfold zCA;rw [hia];rfl
    rw [he] at hle ⊢;have:=HFD.out (ps[i]).1 (ps[i]).2 lo hi k B T W Li lvi Pi ⟨hwq.1,hwq.2,hia⟩ (PA.kept (Kept.of_below hb) n _ _ hpa) (st.en.below hb) (st.ws.below hb) (by have:=HBD.out;omega);rw [hsl] at this;exact this
   have HAA:Hid (isA (hd n (ps[i]).1)=true->zCA own nm (hd n) (cod own nm n) (ps[i]).1 Li.length=[zAa 8 0 (areaN own nm (hd n (ps[i]).1)) a0I]/\RtN (hd n (ps[i]).1)):=λhia=>by
    refine ⟨by unfold zCA;rw [hia];rfl,zBr (zFR hwq.1) (by simpa [isA] using hia)⟩
   rw [hsl] at hr;have IA:=λW=>zBY (hd n (ps[i]).1) (.slice sa sb sc) W
   generalize zCA own nm (hd n) (cod own nm n) (ps[i]).1 Li.length=ac at *;generalize hd n (ps[i]).1=y at *;have HSI:Hid (St own nm av2 m2 cap2 k B T hi w lv wr Li lvi Pi):=st;clear hstep hle hsl hpa hr0 hbn hpi hln st HS hLi hLl hwq;have hth:World.there (wr.alloc (.cells zeros21 64)) wr.heap.size 0 (zAN y (.slice sa sb sc)).toArray.size:=(AtL.new0 wr _ _:AtL (wr.alloc (.cells zeros21 64)) wr.heap.size zeros21.toList).there;have HPI:Hid (AtL ((wr.alloc (.cells zeros21 64)).setCells wr.heap.size 0 (zAN y (.slice sa sb sc))) wr.heap.size (zAN y (.slice sa sb sc))):=(AtL.new0 wr _ _:AtL (wr.alloc (.cells zeros21 64)) wr.heap.size zeros21.toList).setAll rfl;have HHB:Hid (Below wr.heap.size wr ((wr.alloc (.cells zeros21 64)).setCells wr.heap.size 0 (zAN y (.slice sa sb sc)))):=zAv (zAM (Below.refl _ wr) _) (Nat.le_refl _) _ 0;go_upto_region 4 with (first | (refine zAA (by rfl) 64 (.tmp 16) rfl bb (off+i * 21) rfl (zAN y (.slice sa sb sc)) _ hr underlying64 rfl (by kernel_rfl) ?_) | ((with_reducible refine wpList_store_mid ?_ 64 (.tmp 7) (.tmp 17) ?_ wr.heap.size 0 (zAN y (.slice sa sb sc)).toArray ?_ ?_ ?_ ?_ ?_ ?_);rfl;rfl;rfl;rfl;exact hth;kernel_rfl;exact zAk _ _ _ _))
   clear hth hr;generalize ((wr.alloc (.cells zeros21 64)).setCells wr.heap.size 0 (zAN y (.slice sa sb sc)))=W2 at *;have rI:=HPI.out.range;have HIB:Hid (k<wr.heap.size):=by have:=HSI.out.en.kB;have:=HSI.out.en.hB;show _<_;omega
   have HIL:Hid (¬ lvi.ownBlock=some wr.heap.size):=λe=>by have:=(zAK HSI.out.ws.own e).2;omega
   have IA2:=IA W2;clear IA;cases hia:isA y with
   | false =>
    rw [hia] at IA2;have FE:=HFE.out hia;go_wp2_with (first | (refine zAA (by rfl) 64 (.tmp 7) rfl wr.heap.size 0 rfl (zAN y (.slice sa sb sc)) _ rI underlying64 rfl (by kernel_rfl) ?_))
    refine IA2.mono ?_;rintro e w3 ⟨rfl,hb3⟩;have rI3:=zAF hb3 rI;have FE3:=FE w3 (zAB HHB.out hb3);have HB3:Hid (Below wr.heap.size wr w3):=zAB HHB.out hb3;clear FE IA2 rI hb3 HHB HPI HFE HAA;go_wp2_with (first | (refine zAA (by rfl) 64 (.tmp 7) rfl wr.heap.size 0 rfl (zAN y (.slice sa sb sc)) _ rI3 underlying64 rfl (by kernel_rfl) ?_))
    refine FE3.mono ?_;rintro e w4 ⟨⟨lv4,P4,rfl,ws4,nx4⟩,fr4⟩;have HS6:Hid (∃ lvi Pi,St own nm av2 m2 cap2 k B T hi w lv w4 ((L++[ins 6 id 0])++zAR (zCA own nm (hd n) (cod own nm n)) ((ps.map (·.1)).take (i+1)) (L.length+1)) lvi Pi):=⟨lv4,P4,by rw [HST.out];exact (HSI.out.below HB3.out).step fr4 nx4 ws4⟩
    clear FE3 rI3 ws4 nx4 fr4 HB3 HSI;go_wp2_with fail
    go_roundg (m - (i+1))
    case rel=>exact ⟨i+1,by simp,rfl,hlt,HS6⟩
    case measure=>omega
   | true =>
    rw [hia] at IA2;obtain ⟨ha1,ha2⟩:=HAA.out hia;rw [ha1] at HST;have AR:=λ(W:World) (h:RdS W av2 nm)=>zDR own nm av2 m2 cap2 y W ha2 HMN.out.1 HMN.out.2 h
    go_wp2_with (first | (refine zAA (by rfl) 64 (.tmp 7) rfl wr.heap.size 0 rfl (zAN y (.slice sa sb sc)) _ rI underlying64 rfl (by kernel_rfl) ?_))
    refine IA2.mono ?_;rintro e w3 ⟨rfl,hb3⟩;have hb3':=zAB HHB.out hb3;have HS3:Hid (St own nm av2 m2 cap2 k B T hi w lv w3 Li lvi Pi):=HSI.out.below hb3';have ry:w3.rangeAt wr.heap.size 0 (zAG y):=zCZ (zAF hb3 rI);clear IA2 rI hb3 hb3' HHB HPI HFE HAA ha1 ha2 HSI;go_upto_region 5 with fail
    have hdr:=(Below.refl w3.heap.size w3).drew;have HSD:Hid (St own nm av2 m2 cap2 k B T hi w lv w3.drew Li lvi Pi):=HS3.out.below hdr;have rk:=zCD HSD.out.ws;replace ry:w3.drew.rangeAt wr.heap.size 0 (zAG y):=ry
    clear hdr HS3;obtain ⟨ib,hib⟩:∃ b,wr.heap.size=b:=⟨_,rfl⟩
    rw [hib] at ry HIB HIL;simp only [hib];clear hib;refine wp_region_held_drew (S:=λW=>W.rangeAt k 0 [.int .i64 own,.slice av2 m2 cap2]/\W.rangeAt ib 0 (zAG y)) (by kernel_rfl) ⟨rk,ry⟩ (λhHeld=>?_);generalize w3.drew=WD at *;refine tkQ 0 ?_
    refine tkQ 1 ?_
    refine tkQ 2 ?_
    refine tkQ 3 ?_
    refine wpAnyH_take (i:=4) (v:=.agg ([.int .i64 own,.slice av2 m2 cap2]).toArray) (atQ rfl) (by kernel_rfl) (by kernel_rfl) (by kernel_rfl) (λ_ _ _ h=>h) (yieldsIf_load_mid (by rfl) 60 (.tmp 23) rfl (k) (0) rfl ([.int .i64 own,.slice av2 m2 cap2]) _ (λ_ h=>h.1) underlying60 rfl (by kernel_rfl)) (by assumption) ?_;try simp only [Act.put,lA,lZ,lS]
    refine tkQ 5 ?_
    refine wpAnyH_take (i:=6) (v:=.agg (zAG y).toArray) (atQ rfl) (by kernel_rfl) (by kernel_rfl) (by kernel_rfl) (λ_ _ _ h=>h) (yieldsIf_load_mid (by rfl) 35 (.tmp 25) rfl (ib) (0) rfl (zAG y) _ (λ_ h=>h.2) underlying35 rfl (by kernel_rfl)) (by assumption) ?_;try simp only [Act.put,lA,lZ,lS]
    refine rdQ 7 (λK hK=>?_);go_simp
    refine (AR WD HSD.out.en.rs).mono ?_;rintro e w4 ⟨rfl,hb4⟩;go_wp2_with fail
    have HS4:Hid (St own nm av2 m2 cap2 k B T hi w lv w4 Li lvi Pi):=HSD.out.below hb4;replace rk:=zAF hb4 rk
    replace ry:=zAF hb4 ry
    refine hkQ hK ⟨rk,ry⟩ (λhHeld=>?_);clear hK K
    generalize areaN own nm y=ay at *;refine wpAnyH_take (i:=8) (v:=.agg (zAD (zAa 8 0 ay a0I).1 zAH).toArray) (atQ rfl) (by kernel_rfl) (by kernel_rfl) (by kernel_rfl) (λ_ _ _ h=>h) (Or.inl ⟨by rfl,λW _=>zI1 (.tmp 27) rfl ay rfl W⟩) (by assumption) ?_;try simp only [Act.put,lA,lZ,lS]
    have LA:=zAp k B T (zAa 8 0 ay a0I).1 _ _ Li lvi Pi w4 HS4.out.ws HS4.out.en.kB HS4.out.en.hB HBL.out;refine rdQ 9 (λK hK=>?_);go_simp
    refine LA.mono ?_;rintro e w5 ⟨⟨lv5,P5,rfl,ws5,nx5⟩,fr5⟩;go_wp2_with fail
    have HS5:Hid (St own nm av2 m2 cap2 k B T hi w lv w5 (Li++[zAa 8 0 ay a0I]) lv5 P5):=HS4.out.step fr5 nx5 ws5;have rk5:=zCD ws5;have ry5:=fr5.range ry (λhm=>by
     rcases List.mem_cons.1 hm with q | q
     ·have:=HIB.out;omega
     ·exact HIL.out (by simpa using q))
    refine hkQ hK ⟨rk5,ry5⟩ (λhHeld=>?_);clear hK K
    refine wpAnyH_done (by kernel_rfl) ?_ _;have HS6:Hid (∃ lvi Pi,St own nm av2 m2 cap2 k B T hi w lv w5 ((L++[ins 6 id 0])++zAR (zCA own nm (hd n) (cod own nm n)) ((ps.map (·.1)).take (i+1)) (L.length+1)) lvi Pi):=⟨lv5,P5,by rw [HST.out];exact HS5.out⟩
    clear hHeld rk ry rk5 ry5 ws5 nx5 fr5 HS5 HS4 HSD LA AR;go_wp2_with fail
    go_roundg (m - (i+1))
    case rel=>exact ⟨i+1,by simp,rfl,hlt,HS6⟩
    case measure=>omega
  ·have hli:¬ (i:Int)<(m:Int):=by omega
   have HS2:Hid (∃ lvi Pi,St own nm av2 m2 cap2 k B T hi w lv wr ((L++[ins 6 id 0])++zAR (zCA own nm (hd n) (cod own nm n)) (ps.map (·.1)) (L.length+1)) lvi Pi):=by
    have hie:(ps.map (·.1)).length<=i:=by have:=HM.out;simp;omega
    have:=HS.out;rw [List.take_of_length_le hie] at this;exact this
   obtain ⟨lvi,Pi,st⟩:=HS2.out;have LA:=zAp k B T (ins 10 0 0).1 _ _ _ lvi Pi wr st.ws st.en.kB st.en.hB (by have:=HBD.out;simp only [List.length_append,List.length_cons,List.length_nil];omega);have HSI:Hid (St own nm av2 m2 cap2 k B T hi w lv wr ((L++[ins 6 id 0])++zAR (zCA own nm (hd n) (cod own nm n)) (ps.map (·.1)) (L.length+1)) lvi Pi):=st;clear HS HS2 st;go_wp2_with (first | (refine zAQ rfl 10 rfl ?_))
   refine LA.mono ?_;rintro e w5 ⟨⟨lv5,P5,rfl,ws5,nx5⟩,fr5⟩;have HR:Hid (WP k B T (.int .i64 own) (.slice av2 m2 cap2) _ lv w (.returned (.tuple #[])) w5):=(HSI.out.step fr5 nx5 ws5).wp;clear LA ws5 nx5 fr5 HSI;go_wp2;go_end0
   exact HR.out
