/- Lemmas. -/
import Derived.Test.YtefkclbaflkheaaGreatDoorQ23
set_option maxHeartbeats 3200000
set_option maxRecDepth 100000
namespace Go.Proofs.YtefkclbaflkheaaGreatDoor
open Tryz
open Go.RowKit Wf
set_option linter.unusedVariables false
variable {w:World} {a:Act} {ops:Array Oper} {rest:List Oper} {op:Oper} {Q:Exit->Act->World->Prop} {k:Nat} {lv:Value} {P:List (Wc.In × Value)}
theorem zBc (hgd:op.guard=none) (y:Operand) (ho:op.op=.build 56 #[(0,.const (.int .i64 8)),(5,y)]) (ar:Wpl.Ar) (hy:a.eval y=.agg (ar5 ar).toArray)
  (h:wpList prog ops Q rest (a.put op.dst (.agg (zAD (zAa 8 0 ar a0I).1 zAH).toArray)) w):wpList prog ops Q (op::rest) a w:=by
 refine wpList_plain hgd λK hK=>?_
 unfold Oper.wp execOp;have hv:a.eval (.const (.int .i64 8))=.int .i64 8:=rfl;simp only [ho,List.map_toArray,List.map_cons,List.map_nil,hv,hy,Sem.run_bind,Sem.run_pure,Result.andThen_ok,zPV];exact hK _ _ h
theorem zBv (hgd:op.guard=none) (y z:Operand) (ho:op.op=.build 56 #[(0,.const (.int .i64 9)),(5,y),(6,z)]) (ar br:Wpl.Ar) (hy:a.eval y=.agg (ar5 ar).toArray) (hz:a.eval z=.agg (ar5 br).toArray)
  (h:wpList prog ops Q rest (a.put op.dst (.agg (zAD (zAa 9 0 ar br).1 zAH).toArray)) w):wpList prog ops Q (op::rest) a w:=by
 refine wpList_plain hgd λK hK=>?_
 unfold Oper.wp execOp;have hv:a.eval (.const (.int .i64 9))=.int .i64 9:=rfl;simp only [ho,List.map_toArray,List.map_cons,List.map_nil,hv,hy,hz,Sem.run_bind,Sem.run_pure,Result.andThen_ok,zPP];exact hK _ _ h
theorem zCl (hgd:op.guard=none) (y z:Operand) (ho:op.op=.build 56 #[(0,.const (.int .i64 11)),(5,y),(2,z)]) (ar:Wpl.Ar) (b:Int) (hy:a.eval y=.agg (ar5 ar).toArray) (hz:a.eval z=.int .i64 b)
  (h:wpList prog ops Q rest (a.put op.dst (.agg (zAD (zAa 11 b ar a0I).1 zAH).toArray)) w):wpList prog ops Q (op::rest) a w:=by
 refine wpList_plain hgd λK hK=>?_
 unfold Oper.wp execOp;have hv:a.eval (.const (.int .i64 11))=.int .i64 11:=rfl;simp only [ho,List.map_toArray,List.map_cons,List.map_nil,hv,hy,hz,Sem.run_bind,Sem.run_pure,Result.andThen_ok,zPc];exact hK _ _ h
section
variable (own:Int) (nm:List ByteArray) (av2:Option Addr) (m2 cap2:Nat)
def zFJ (n:Nat) (id:Int) (fa la:Wpl.Ar) (l:List (Tr n)) (a:Nat):List I:=ins 6 id 0::(zAR (zAY (cod own nm n)) l (a+1)++[if Wc.pairs id then zAa 9 0 fa la else zAa 8 0 fa a0I,ins 10 0 0])
def SrC (n:Nat):Prop:=∀ (id:Int) (fa la:Wpl.Ar) (ps:List (Tr n × Value)) (av:Option Addr) (m cap lo hi k B:Nat) (T:Nat->Nat) (w:World) (L:List I) (lv:Value) (P:List (Wc.In × Value)),m=ps.length->ps.length<=30->(∀ p ∈ ps,Wr own nm n p.1)->(∀ p ∈ ps,PA n lo hi w p.1 p.2)->RdQ w av (ps.map λp=>(hd n p.1,p.2))->(∀ bb off,av=some ⟨bb,off,none⟩->∀ j,lv.ownBlock=some j->bb ≠ j)->(∀ bb off,av=some ⟨bb,off,none⟩->bb ≠ k/\bb<w.heap.size)->En own nm av2 m2 cap2 k B T hi w->WS k B T w (.int .i64 own) (.slice av2 m2 cap2) L lv P->L.length+(zFJ own nm n id fa la (ps.map (·.1)) L.length).length<=900000 ->
 Calls prog 125 #[.pointer (some ⟨k,0,none⟩),.int .i64 id,.agg (ar5 fa).toArray,.agg (ar5 la).toArray,.slice av m cap] w (WP k B T (.int .i64 own) (.slice av2 m2 cap2) (L++zFJ own nm n id fa la (ps.map (·.1)) L.length) lv w)
end
theorem zHd (own:Int) (nm:List ByteArray) (av2:Option Addr) (m2 cap2 n:Nat) (ih:PtC own nm av2 m2 cap2 n):SrC own nm av2 m2 cap2 n:=by
 intro id fa la ps av m cap lo hi k B T w L lv P hm hl hwp hpap hrd hav havk hen hws hbd;have fd:=zI0 own nm av2 m2 cap2 n ih;have h0B:∀ j,lv.ownBlock=some j->B<=j/\j<w.heap.size:=λj e=>zAK hws.own e
 obtain ⟨sc,hsc⟩:∃ sc,(if Wc.pairs id then zAa 9 0 fa la else zAa 8 0 fa a0I)=sc:=⟨_,rfl⟩
 have hLF:L++zFJ own nm n id fa la (ps.map (·.1)) L.length=(((L++[ins 6 id 0])++zAR (zAY (cod own nm n)) (ps.map (·.1)) (L.length+1))++[sc])++[ins 10 0 0]:=by simp [zFJ,hsc]
 have hbd2:L.length+3+(zAR (zAY (cod own nm n)) (ps.map (·.1)) (L.length+1)).length<=900000:=by
  simp only [zFJ,List.length_cons,List.length_append,List.length_nil] at hbd;omega
 rw [hLF];have hb0:=zAM (zAM (Below.refl _ w) (.cells (ar5 fa).toArray 53)) (.cells (ar5 la).toArray 53);have pF:=(AtL.new0 w 53 (ar5 fa)).alloc (.cells (ar5 la).toArray 53);have pL:=AtL.new1 w (.cells (ar5 fa).toArray 53) 53 (ar5 la);have st0:=St.init (hen.below hb0) (hws.below hb0);have HST0:Hid (St own nm av2 m2 cap2 k B T hi ((w.alloc (.cells (ar5 fa).toArray 53)).alloc (.cells (ar5 la).toArray 53)) lv ((w.alloc (.cells (ar5 fa).toArray 53)).alloc (.cells (ar5 la).toArray 53)) L lv P):=st0;have HFL:Hid (AtL ((w.alloc (.cells (ar5 fa).toArray 53)).alloc (.cells (ar5 la).toArray 53)) w.heap.size (ar5 fa)/\AtL ((w.alloc (.cells (ar5 fa).toArray 53)).alloc (.cells (ar5 la).toArray 53)) (w.heap.size+1) (ar5 la)):=⟨pF,pL⟩
 have HM:Hid (m=ps.length/\ps.length<=30):=⟨hm,hl⟩
 have HWP:Hid (∀ p ∈ ps,Wr own nm n p.1):=hwp;have HPA:Hid (∀ p ∈ ps,PA n lo hi ((w.alloc (.cells (ar5 fa).toArray 53)).alloc (.cells (ar5 la).toArray 53)) p.1 p.2):=λp hp=>PA.kept (Kept.of_below hb0) n _ _ (hpap p hp)
 have HRD:Hid (RdQ ((w.alloc (.cells (ar5 fa).toArray 53)).alloc (.cells (ar5 la).toArray 53)) av (ps.map λp=>(hd n p.1,p.2))):=hrd.below hb0;have HAV:Hid (∀ bb off,av=some ⟨bb,off,none⟩->bb ∉ k::lv.ownBlock.toList):=λbb off e hmm=>by
  rcases List.mem_cons.1 hmm with q | q
  ·exact (havk bb off e).1 q
  ·exact hav bb off e bb (by simpa using q) rfl
 have HK:Hid (hi<=k/\k<B/\(∀ j,lv.ownBlock=some j->B<=j)/\w.heap.size ∉ k::lv.ownBlock.toList/\w.heap.size+1 ∉ k::lv.ownBlock.toList):=⟨hen.hk,hen.kB,λj e=>(h0B j e).1,λhmm=>by
  have:=hen.kB;have:=hen.hB;rcases List.mem_cons.1 hmm with q | q
  ·omega
  ·have:=(h0B w.heap.size (by simpa using q)).2;omega,λhmm=>by
  have:=hen.kB;have:=hen.hB;rcases List.mem_cons.1 hmm with q | q
  ·omega
  ·have:=(h0B (w.heap.size+1) (by simpa using q)).2;omega⟩
 have HFD:Hid (FdC own nm av2 m2 cap2 n):=fd;have HBD:Hid (L.length+3+(zAR (zAY (cod own nm n)) (ps.map (·.1)) (L.length+1)).length<=900000):=hbd2;have HB0:Hid (Below w.heap.size w ((w.alloc (.cells (ar5 fa).toArray 53)).alloc (.cells (ar5 la).toArray 53))):=hb0;have PR:=λW=>zBp id W
 have HSC:Hid ((if Wc.pairs id then zAa 9 0 fa la else zAa 8 0 fa a0I)=sc):=hsc;clear hm hl hwp hpap hrd hav havk hen hws hbd ih fd h0B hLF hbd2 hb0 pF pL st0 hsc;go_enter func125,ntmps125;go_upto_region 1 with fail
 generalize ((w.alloc (.cells (ar5 fa).toArray 53)).alloc (.cells (ar5 la).toArray 53))=W at *;have LA:=zAp k B T (ins 6 id 0).1 _ _ L lv P W HST0.out.ws HST0.out.en.kB HST0.out.en.hB (by have:=HBD.out;omega);go_wp2_with (first | (refine zA4 rfl 6 (.tmp 13) rfl id rfl ?_))
 refine LA.mono ?_;rintro e w1 ⟨⟨lv1,P1,rfl,ws1,nx1⟩,fr1⟩;have HST1:Hid (St own nm av2 m2 cap2 k B T hi W lv w1 (L++[ins 6 id 0]) lv1 P1):=HST0.out.step fr1 nx1 ws1;clear LA ws1 nx1 fr1 HST0;go_wp2_with fail
 go_loopg [11,18] m (λgk u x wr=>∃ (i:Nat),x=.int .i64 (i:Int)/\gk=m - i/\i<=m/\Hid (∃ lvi Pi,St own nm av2 m2 cap2 k B T hi W lv wr ((L++[ins 6 id 0])++zAR (zAY (cod own nm n)) ((ps.map (·.1)).take i) (L.length+1)) lvi Pi))
 case atStart=>exact ⟨0,rfl,rfl,Nat.zero_le _,⟨lv1,P1,by simpa [zAR] using HST1.out⟩⟩
 case round =>
  clear HST1;obtain ⟨i,rfl,hg,him,HS⟩:=hrel;by_cases hlt:i<m
  ·have hli:(i:Int)<(m:Int):=by omega
   have hiz:(0:Int)<=(i:Int):=by omega
   have hwi:IntKind.i64.wrap ((i:Int)+1)=(i:Int)+1:=by have:=HM.out;rw [IntKind.wrap_i64];omega
   have hln:i<ps.length:=by have:=HM.out;omega
   obtain ⟨lvi,Pi,st⟩:=HS.out;obtain ⟨bb,off,rfl,hr0⟩:=HRD.out i (by simpa using hln);simp only [List.getElem_map] at hr0;have hr:=st.fr.range hr0 (HAV.out bb off rfl);have hpi:=List.getElem_mem hln;have hpa:=PA.kept (st.kept HK.out.2.2.1) n _ _ (HPA.out _ hpi);obtain ⟨sa,sb,sc2,hsl⟩:=hpa.slice;have hstep:=zBX (zAY (cod own nm n)) (ps.map (·.1)) i (by simpa using hln) (L.length+1);have hle:=zCX (zAY (cod own nm n)) (ps.map (·.1)) (i+1) (L.length+1);rw [hstep,List.length_append,List.getElem_map] at hle;rw [List.getElem_map] at hstep;obtain ⟨Li,hLi⟩:∃ Li,(L++[ins 6 id 0])++zAR (zAY (cod own nm n)) ((ps.map (·.1)).take i) (L.length+1)=Li:=⟨_,rfl⟩
   have hLl:L.length+1+(zAR (zAY (cod own nm n)) ((ps.map (·.1)).take i) (L.length+1)).length=Li.length:=by rw [<-hLi];simp;omega
   have HST:Hid ((L++[ins 6 id 0])++zAR (zAY (cod own nm n)) ((ps.map (·.1)).take (i+1)) (L.length+1)=Li++zAY (cod own nm n) (ps[i]).1 Li.length):=by show _=_;rw [hstep,<-List.append_assoc,hLi,hLl]
   rw [hLl] at hle;rw [hLi] at st;have FE0:=λ(W2:World) (hb:Below wr.heap.size wr W2)=>HFD.out (ps[i]).1 (ps[i]).2 lo hi k B T W2 Li lvi Pi (HWP.out _ hpi) (PA.kept (Kept.of_below hb) n _ _ hpa) (st.en.below hb) (st.ws.below hb) (by have:=HBD.out;omega)
   rw [hsl] at hr FE0;generalize zAY (cod own nm n) (ps[i]).1 Li.length=ac at *;generalize hd n (ps[i]).1=y at *;have HSI:Hid (St own nm av2 m2 cap2 k B T hi W lv wr Li lvi Pi):=st;clear hstep hle hsl hpa hr0 hpi hln st HS hLi hLl;have hth:World.there (wr.alloc (.cells zeros21 64)) wr.heap.size 0 (zAN y (.slice sa sb sc2)).toArray.size:=(AtL.new0 wr _ _:AtL (wr.alloc (.cells zeros21 64)) wr.heap.size zeros21.toList).there;have HPI:Hid (AtL ((wr.alloc (.cells zeros21 64)).setCells wr.heap.size 0 (zAN y (.slice sa sb sc2))) wr.heap.size (zAN y (.slice sa sb sc2))):=(AtL.new0 wr _ _:AtL (wr.alloc (.cells zeros21 64)) wr.heap.size zeros21.toList).setAll rfl;have hHB:Below wr.heap.size wr ((wr.alloc (.cells zeros21 64)).setCells wr.heap.size 0 (zAN y (.slice sa sb sc2))):=zAv (zAM (Below.refl _ wr) _) (Nat.le_refl _) _ 0;have FE:=FE0 _ hHB;have HHB:Hid (Below wr.heap.size wr ((wr.alloc (.cells zeros21 64)).setCells wr.heap.size 0 (zAN y (.slice sa sb sc2)))):=hHB;clear FE0 hHB;go_upto_region 5 with (first | (refine zAA (by rfl) 64 (.tmp 20) rfl bb (off+i * 21) rfl (zAN y (.slice sa sb sc2)) _ hr underlying64 rfl (by kernel_rfl) ?_) | ((with_reducible refine wpList_store_mid ?_ 64 (.tmp 11) (.tmp 21) ?_ wr.heap.size 0 (zAN y (.slice sa sb sc2)).toArray ?_ ?_ ?_ ?_ ?_ ?_);rfl;rfl;rfl;rfl;exact hth;kernel_rfl;exact zAk _ _ _ _))
   clear hth hr;generalize ((wr.alloc (.cells zeros21 64)).setCells wr.heap.size 0 (zAN y (.slice sa sb sc2)))=W2 at *;have rI:=HPI.out.range;go_wp2_with (first | (refine zAA (by rfl) 64 (.tmp 11) rfl wr.heap.size 0 rfl (zAN y (.slice sa sb sc2)) _ rI underlying64 rfl (by kernel_rfl) ?_))
   refine FE.mono ?_;rintro e w4 ⟨⟨lv4,P4,rfl,ws4,nx4⟩,fr4⟩;have HS6:Hid (∃ lvi Pi,St own nm av2 m2 cap2 k B T hi W lv w4 ((L++[ins 6 id 0])++zAR (zAY (cod own nm n)) ((ps.map (·.1)).take (i+1)) (L.length+1)) lvi Pi):=⟨lv4,P4,by rw [HST.out];exact (HSI.out.below HHB.out).step fr4 nx4 ws4⟩
   clear FE rI ws4 nx4 fr4 HHB HPI HSI HST;go_wp2_with fail
   go_roundg (m - (i+1))
   case rel=>exact ⟨i+1,by simp,rfl,hlt,HS6⟩
   case measure=>omega
  ·have hli:¬ (i:Int)<(m:Int):=by omega
   have HS2:Hid (∃ lvi Pi,St own nm av2 m2 cap2 k B T hi W lv wr ((L++[ins 6 id 0])++zAR (zAY (cod own nm n)) (ps.map (·.1)) (L.length+1)) lvi Pi):=by
    have hie:(ps.map (·.1)).length<=i:=by have:=HM.out;simp;omega
    have:=HS.out;rw [List.take_of_length_le hie] at this;exact this
   obtain ⟨lvi,Pi,st⟩:=HS2.out;have HLL:Hid (((L++[ins 6 id 0])++zAR (zAY (cod own nm n)) (ps.map (·.1)) (L.length+1)).length<=900000):=by have:=HBD.out;show _<=_;simp only [List.length_append,List.length_cons,List.length_nil];omega
   obtain ⟨Lw,hLw⟩:∃ Lw,(L++[ins 6 id 0])++zAR (zAY (cod own nm n)) (ps.map (·.1)) (L.length+1)=Lw:=⟨_,rfl⟩
   rw [hLw] at HLL st;have HLW:Hid ((L++[ins 6 id 0])++zAR (zAY (cod own nm n)) (ps.map (·.1)) (L.length+1)=Lw):=hLw;clear hLw;have HSI:Hid (St own nm av2 m2 cap2 k B T hi W lv wr Lw lvi Pi):=st;have a1:=(HFL.out.1.fr st.fr HK.out.2.2.2.1)
   have a2:=(HFL.out.2.fr st.fr HK.out.2.2.2.2)
   obtain ⟨f0,f1,f2,f3,f4,_,_,_,_,_⟩:=a1.five;obtain ⟨g0,g1,g2,g3,g4,_,_,_,_,_⟩:=a2.five;clear HS HS2 st a1 a2;have PW:=PR wr;cases hp:Wc.pairs id with
   | true =>
    rw [hp] at PW;have HSC2:Hid (zAa 9 0 fa la=sc):=by have:=HSC.out;rw [hp] at this;exact this
    have LB:=zAp k B T (zAa 9 0 fa la).1 _ _ Lw lvi Pi wr HSI.out.ws HSI.out.en.kB HSI.out.en.hB (by have:=HLL.out;omega);go_wp2_with fail
    refine PW.mono ?_;rintro e w2 ⟨rfl,rfl⟩;go_wp2_with (first | (refine zBv rfl (.tmp 29) (.tmp 30) rfl fa la rfl rfl ?_))
    refine LB.mono ?_;rintro e w5 ⟨⟨lv5,P5,rfl,ws5,nx5⟩,fr5⟩;have HS5:Hid (St own nm av2 m2 cap2 k B T hi W lv w5 (Lw++[sc]) lv5 P5):=by
     have:=HSI.out.step fr5 nx5 ws5;rw [<-HSC2.out];exact this
    have LA:=zAp k B T (ins 10 0 0).1 _ _ _ lv5 P5 w5 HS5.out.ws HS5.out.en.kB HS5.out.en.hB (by have:=HLL.out;simp only [List.length_append,List.length_cons,List.length_nil];omega);clear LB ws5 nx5 fr5 f0 f1 f2 f3 f4 g0 g1 g2 g3 g4 PW PR;go_wp2_with (first | (refine zAQ rfl 10 rfl ?_))
    refine LA.mono ?_;rintro e w6 ⟨⟨lv6,P6,rfl,ws6,nx6⟩,fr6⟩;have HR:Hid (WP k B T (.int .i64 own) (.slice av2 m2 cap2) ((Lw++[sc])++[ins 10 0 0]) lv w (.returned (.tuple #[])) w6):=((HS5.out.step fr6 nx6 ws6).wp).from HB0.out
    clear LA ws6 nx6 fr6 HS5 HSI;go_wp2;go_end0
    have hr:=HR.out;rw [<-HLW.out] at hr;exact hr
   | false =>
    rw [hp] at PW;have HSC2:Hid (zAa 8 0 fa a0I=sc):=by have:=HSC.out;rw [hp] at this;exact this
    have LB:=zAp k B T (zAa 8 0 fa a0I).1 _ _ Lw lvi Pi wr HSI.out.ws HSI.out.en.kB HSI.out.en.hB (by have:=HLL.out;omega);go_wp2_with fail
    refine PW.mono ?_;rintro e w2 ⟨rfl,rfl⟩;go_wp2_with (first | (refine zBc rfl (.tmp 34) rfl fa rfl ?_))
    refine LB.mono ?_;rintro e w5 ⟨⟨lv5,P5,rfl,ws5,nx5⟩,fr5⟩;have HS5:Hid (St own nm av2 m2 cap2 k B T hi W lv w5 (Lw++[sc]) lv5 P5):=by
     have:=HSI.out.step fr5 nx5 ws5;rw [<-HSC2.out];exact this
    have LA:=zAp k B T (ins 10 0 0).1 _ _ _ lv5 P5 w5 HS5.out.ws HS5.out.en.kB HS5.out.en.hB (by have:=HLL.out;simp only [List.length_append,List.length_cons,List.length_nil];omega);clear LB ws5 nx5 fr5 f0 f1 f2 f3 f4 g0 g1 g2 g3 g4 PW PR;go_wp2_with (first | (refine zAQ rfl 10 rfl ?_))
    refine LA.mono ?_;rintro e w6 ⟨⟨lv6,P6,rfl,ws6,nx6⟩,fr6⟩;have HR:Hid (WP k B T (.int .i64 own) (.slice av2 m2 cap2) ((Lw++[sc])++[ins 10 0 0]) lv w (.returned (.tuple #[])) w6):=((HS5.out.step fr6 nx6 ws6).wp).from HB0.out
    clear LA ws6 nx6 fr6 HS5 HSI;go_wp2;go_end0
    have hr:=HR.out;rw [<-HLW.out] at hr;exact hr
open Go.RowKit Wf
theorem zDw (y z:Operand) (ho:op.op=.build 56 #[(0,.const (.int .i64 9)),(5,y),(6,z)]) (ar br:Wpl.Ar) (hy:a.eval y=.agg (ar5 ar).toArray) (hz:a.eval z=.agg (ar5 br).toArray) (W:World):(execOp a.eval op).run prog W=.ok (.value (.agg (zAD (zAa 9 0 ar br).1 zAH).toArray)) W:=by
 have hv:a.eval (.const (.int .i64 9))=.int .i64 9:=rfl;unfold execOp;simp only [ho,List.map_toArray,List.map_cons,List.map_nil,hv,hy,hz,Sem.run_bind,Sem.run_pure,Result.andThen_ok,zPP]
section
variable {L:List Wt.Nd} {bb off cap:Nat} {own:Int} {nm:List ByteArray} {av2:Option Addr} {cap2 k:Nat} {w0:World} {lv0:Value} {w w':World} {Lc Lc':List I} {lv lv':Value} {P P':List (Wc.In × Value)} {kv:Value} {ks:List Nat}
theorem YSt.cellAt {bk ok m capk:Nat} (h:YSt L bb off cap own nm av2 cap2 k w0 lv0 w Lc lv P (.slice (some ⟨bk,ok,none⟩) m capk) ks) {j q:Nat} (hj:ks[j]? = some q):w.cell? ⟨bk,ok+j,none⟩=some (.int .i64 (q:Int)):=by
 obtain ⟨av,c,e,hr⟩:=h.kid;cases e
 obtain ⟨h1,h2⟩:=List.getElem?_eq_some_iff.1 hj;obtain ⟨b,o,e,hc⟩:=hr j h1;cases e
 rw [h2] at hc;exact hc
theorem YSt.areaN (h:YSt L bb off cap own nm av2 cap2 k w0 lv0 w Lc lv P kv ks) {n q:Nat} {t:Tr n} (hs:Sub L q n t) :
  CR 87 #[.pointer (some ⟨k,0,none⟩),.int .i64 (q:Int)] w (.agg (ar5 (Wf.areaN own (nm.take 16) (Wf.hd n t))).toArray):=by
 obtain ⟨h1,h2⟩:=List.getElem?_eq_some_iff.1 hs.hd;have:=h.area h1;rw [h2] at this;exact this
theorem zL3 {n:Nat} (ih:YNd L bb off cap own nm av2 cap2 n) {q0 q1:Nat} {t0 t1:Tr n} {bk ok capk:Nat} (h:YSt L bb off cap own nm av2 cap2 k w0 lv0 w Lc lv P (.slice (some ⟨bk,ok,none⟩) 2 capk) [q0,q1]) (s0:Sub L q0 n t0) (s1:Sub L q1 n t1) (f0:zAz n t0/\zBB own (nm.take 16) n t0=0) (a0:isA (Wf.hd n t0)=false) (hl:Lc.length+(zAY (cod own (nm.take 16) n) t0 (Lc.length+1)).length<=800000) :
  Calls prog 90 #[.pointer (some ⟨k,0,none⟩),.int .i64 20,.slice (some ⟨bk,ok,none⟩) 2 capk] w λe w'=>e=.returned (.tuple #[])/\∃ lv' P',YSt L bb off cap own nm av2 cap2 k w0 lv0 w' (Lc++ins 6 20 0::(zAY (cod own (nm.take 16) n) t0 (Lc.length+1)++[zAa 8 0 (areaN own (nm.take 16) (Wf.hd n t1)) a0I,ins 10 0 0])) lv' P' (.slice (some ⟨bk,ok,none⟩) 2 capk) [q0,q1]:=by
 obtain ⟨C,hC⟩:∃ C,zAY (cod own (nm.take 16) n) t0 (Lc.length+1)=C:=⟨_,rfl⟩
 have HFD:Hid (zAY (cod own (nm.take 16) n) t0 (Lc++[((ins 6 20 0).1,([]:List Int))]).length=C):=by show _=_;rw [<-hC];simp
 rw [hC] at hl ⊢;have HL1:Hid ((Lc++[((ins 6 20 0).1,([]:List Int))]).length+(cod own (nm.take 16) n t0 (Lc++[((ins 6 20 0).1,([]:List Int))]).length).length<=800000):=by
  show _<=_
  have h1:C.length=(cod own (nm.take 16) n t0 (Lc.length+1)).length+1:=by rw [<-hC];simp [zAY]
  have h2:(Lc++[((ins 6 20 0).1,([]:List Int))]).length=Lc.length+1:=by simp
  rw [h2];omega
 clear hC;have HL0:Hid (Lc.length<=1000000):=by show _<=_;omega
 have HL2:Hid (((Lc++[((ins 6 20 0).1,([]:List Int))])++C).length<=1000000):=by show _<=_;simp;omega
 have HL3:Hid ((((Lc++[((ins 6 20 0).1,([]:List Int))])++C)++[((zAa 8 0 (areaN own (nm.take 16) (Wf.hd n t1)) a0I).1,([]:List Int))]).length<=1000000):=by show _<=_;simp;omega
 have HX:Hid (Lc++ins 6 20 0::(C++[zAa 8 0 (areaN own (nm.take 16) (Wf.hd n t1)) a0I,ins 10 0 0])=(((Lc++[((ins 6 20 0).1,([]:List Int))])++C)++[((zAa 8 0 (areaN own (nm.take 16) (Wf.hd n t1)) a0I).1,([]:List Int))]++[((ins 10 0 0).1,([]:List Int))])):=by show _=_;simp [zAa,ins]
 clear hl;have LA:=h.lay (ins 6 20 0).1 HL0.out;clear h;go_enter func90,ntmps90;go_wp2_with (first | (refine zA4 rfl 6 (.tmp 8) rfl 20 rfl ?_))
 refine LA.mono ?_;rintro e w1 ⟨rfl,lv1,P1,h1⟩;clear LA;have c1:=h1.cellAt (j:=0) rfl;try simp only [Nat.add_zero] at c1
 have FE:=h1.fed ih s0 ⟨(f0).1,(f0).2,a0⟩ HL1.out;rw [HFD.out] at FE;clear h1;go_wp2_with fail
 refine FE.mono ?_;rintro e w2 ⟨rfl,lv2,P2,h2⟩;clear FE c1;have c3:=h2.cellAt (j:=1) rfl;try simp only [Nat.add_zero] at c3
 have AR3:=h2.areaN s1;go_wp2_with fail
 refine AR3.mono ?_;rintro e w3 ⟨rfl,hb3⟩;have h3:=h2.below hb3;clear AR3 h2 hb3 c3;have LB:=h3.lay (zAa 8 0 (areaN own (nm.take 16) (Wf.hd n t1)) a0I).1 HL2.out;clear h3;go_wp2_with (first | (refine zBc rfl (.tmp 37) rfl (areaN own (nm.take 16) (Wf.hd n t1)) rfl ?_))
 refine LB.mono ?_;rintro e w8 ⟨rfl,lv8,P8,h8⟩;clear LB;have LC:=h8.lay (ins 10 0 0).1 HL3.out;clear h8;go_wp2_with (first | (refine zAQ rfl 10 rfl ?_))
 refine LC.mono ?_;rintro e w9 ⟨rfl,lv9,P9,h9⟩;have HR:Hid (YSt L bb off cap own nm av2 cap2 k w0 lv0 w9 (((Lc++[((ins 6 20 0).1,([]:List Int))])++C)++[((zAa 8 0 (areaN own (nm.take 16) (Wf.hd n t1)) a0I).1,([]:List Int))]++[((ins 10 0 0).1,([]:List Int))]) lv9 P9 (.slice (some ⟨bk,ok,none⟩) 2 capk) [q0,q1]):=h9;clear LC h9;go_wp2;go_end0
 exact ⟨rfl,lv9,P9,by rw [HX.out];exact HR.out⟩
theorem zJ3 {n:Nat} (ih:YNd L bb off cap own nm av2 cap2 n) {q0 q1:Nat} {t0 t1:Tr n} {bk ok capk:Nat} (h:YSt L bb off cap own nm av2 cap2 k w0 lv0 w Lc lv P (.slice (some ⟨bk,ok,none⟩) 2 capk) [q0,q1]) (s0:Sub L q0 n t0) (s1:Sub L q1 n t1) (f1:zAz n t1/\zBB own (nm.take 16) n t1=0) (a1:isA (Wf.hd n t1)=false) (hl:Lc.length+(zAY (cod own (nm.take 16) n) t1 (Lc.length+1)).length<=800000) :
  Calls prog 90 #[.pointer (some ⟨k,0,none⟩),.int .i64 21,.slice (some ⟨bk,ok,none⟩) 2 capk] w λe w'=>e=.returned (.tuple #[])/\∃ lv' P',YSt L bb off cap own nm av2 cap2 k w0 lv0 w' (Lc++ins 6 21 0::(zAY (cod own (nm.take 16) n) t1 (Lc.length+1)++[zAa 8 0 (areaN own (nm.take 16) (Wf.hd n t0)) a0I,ins 10 0 0])) lv' P' (.slice (some ⟨bk,ok,none⟩) 2 capk) [q0,q1]:=by
 obtain ⟨C,hC⟩:∃ C,zAY (cod own (nm.take 16) n) t1 (Lc.length+1)=C:=⟨_,rfl⟩
 have HFD:Hid (zAY (cod own (nm.take 16) n) t1 (Lc++[((ins 6 21 0).1,([]:List Int))]).length=C):=by show _=_;rw [<-hC];simp
 rw [hC] at hl ⊢;have HL1:Hid ((Lc++[((ins 6 21 0).1,([]:List Int))]).length+(cod own (nm.take 16) n t1 (Lc++[((ins 6 21 0).1,([]:List Int))]).length).length<=800000):=by
  show _<=_
  have h1:C.length=(cod own (nm.take 16) n t1 (Lc.length+1)).length+1:=by rw [<-hC];simp [zAY]
  have h2:(Lc++[((ins 6 21 0).1,([]:List Int))]).length=Lc.length+1:=by simp
  rw [h2];omega
 clear hC;have HL0:Hid (Lc.length<=1000000):=by show _<=_;omega
 have HL2:Hid (((Lc++[((ins 6 21 0).1,([]:List Int))])++C).length<=1000000):=by show _<=_;simp;omega
 have HL3:Hid ((((Lc++[((ins 6 21 0).1,([]:List Int))])++C)++[((zAa 8 0 (areaN own (nm.take 16) (Wf.hd n t0)) a0I).1,([]:List Int))]).length<=1000000):=by show _<=_;simp;omega
 have HX:Hid (Lc++ins 6 21 0::(C++[zAa 8 0 (areaN own (nm.take 16) (Wf.hd n t0)) a0I,ins 10 0 0])=(((Lc++[((ins 6 21 0).1,([]:List Int))])++C)++[((zAa 8 0 (areaN own (nm.take 16) (Wf.hd n t0)) a0I).1,([]:List Int))]++[((ins 10 0 0).1,([]:List Int))])):=by show _=_;simp [zAa,ins]
 clear hl;have LA:=h.lay (ins 6 21 0).1 HL0.out;clear h;go_enter func90,ntmps90;go_wp2_with (first | (refine zA4 rfl 6 (.tmp 8) rfl 21 rfl ?_))
 refine LA.mono ?_;rintro e w1 ⟨rfl,lv1,P1,h1⟩;clear LA;have c1:=h1.cellAt (j:=1) rfl;try simp only [Nat.add_zero] at c1
 have FE:=h1.fed ih s1 ⟨(f1).1,(f1).2,a1⟩ HL1.out;rw [HFD.out] at FE;clear h1;go_wp2_with fail
 refine FE.mono ?_;rintro e w2 ⟨rfl,lv2,P2,h2⟩;clear FE c1;have c3:=h2.cellAt (j:=0) rfl;try simp only [Nat.add_zero] at c3
 have AR3:=h2.areaN s0;go_wp2_with fail
 refine AR3.mono ?_;rintro e w3 ⟨rfl,hb3⟩;have h3:=h2.below hb3;clear AR3 h2 hb3 c3;have LB:=h3.lay (zAa 8 0 (areaN own (nm.take 16) (Wf.hd n t0)) a0I).1 HL2.out;clear h3;go_wp2_with (first | (refine zBc rfl (.tmp 52) rfl (areaN own (nm.take 16) (Wf.hd n t0)) rfl ?_))
 refine LB.mono ?_;rintro e w8 ⟨rfl,lv8,P8,h8⟩;clear LB;have LC:=h8.lay (ins 10 0 0).1 HL3.out;clear h8;go_wp2_with (first | (refine zAQ rfl 10 rfl ?_))
 refine LC.mono ?_;rintro e w9 ⟨rfl,lv9,P9,h9⟩;have HR:Hid (YSt L bb off cap own nm av2 cap2 k w0 lv0 w9 (((Lc++[((ins 6 21 0).1,([]:List Int))])++C)++[((zAa 8 0 (areaN own (nm.take 16) (Wf.hd n t0)) a0I).1,([]:List Int))]++[((ins 10 0 0).1,([]:List Int))]) lv9 P9 (.slice (some ⟨bk,ok,none⟩) 2 capk) [q0,q1]):=h9;clear LC h9;go_wp2;go_end0
 exact ⟨rfl,lv9,P9,by rw [HX.out];exact HR.out⟩
theorem zGT {n:Nat} (ih:YNd L bb off cap own nm av2 cap2 n) {q0 q1:Nat} {t0 t1:Tr n} {bk ok capk:Nat} (h:YSt L bb off cap own nm av2 cap2 k w0 lv0 w Lc lv P (.slice (some ⟨bk,ok,none⟩) 2 capk) [q0,q1]) (s0:Sub L q0 n t0) (s1:Sub L q1 n t1) (f1:zAz n t1/\zBB own (nm.take 16) n t1=0) (a1:isA (Wf.hd n t1)=false) (hl:Lc.length+(zAY (cod own (nm.take 16) n) t1 (Lc.length+1)).length<=800000) :
  Calls prog 90 #[.pointer (some ⟨k,0,none⟩),.int .i64 22,.slice (some ⟨bk,ok,none⟩) 2 capk] w λe w'=>e=.returned (.tuple #[])/\∃ lv' P',YSt L bb off cap own nm av2 cap2 k w0 lv0 w' (Lc++ins 6 22 0::(zAY (cod own (nm.take 16) n) t1 (Lc.length+1)++[zAa 9 0 (areaN own (nm.take 16) (Wf.hd n t0)) (areaN own (nm.take 16) (Wf.hd n t0)),ins 10 0 0])) lv' P' (.slice (some ⟨bk,ok,none⟩) 2 capk) [q0,q1]:=by
 obtain ⟨C,hC⟩:∃ C,zAY (cod own (nm.take 16) n) t1 (Lc.length+1)=C:=⟨_,rfl⟩
 have HFD:Hid (zAY (cod own (nm.take 16) n) t1 (Lc++[((ins 6 22 0).1,([]:List Int))]).length=C):=by show _=_;rw [<-hC];simp
 rw [hC] at hl ⊢;have HL1:Hid ((Lc++[((ins 6 22 0).1,([]:List Int))]).length+(cod own (nm.take 16) n t1 (Lc++[((ins 6 22 0).1,([]:List Int))]).length).length<=800000):=by
  show _<=_
  have h1:C.length=(cod own (nm.take 16) n t1 (Lc.length+1)).length+1:=by rw [<-hC];simp [zAY]
  have h2:(Lc++[((ins 6 22 0).1,([]:List Int))]).length=Lc.length+1:=by simp
  rw [h2];omega
 clear hC;have HL0:Hid (Lc.length<=1000000):=by show _<=_;omega
 have HL2:Hid (((Lc++[((ins 6 22 0).1,([]:List Int))])++C).length<=1000000):=by show _<=_;simp;omega
 have HL3:Hid ((((Lc++[((ins 6 22 0).1,([]:List Int))])++C)++[((zAa 9 0 (areaN own (nm.take 16) (Wf.hd n t0)) (areaN own (nm.take 16) (Wf.hd n t0))).1,([]:List Int))]).length<=1000000):=by show _<=_;simp;omega
 have HX:Hid (Lc++ins 6 22 0::(C++[zAa 9 0 (areaN own (nm.take 16) (Wf.hd n t0)) (areaN own (nm.take 16) (Wf.hd n t0)),ins 10 0 0])=(((Lc++[((ins 6 22 0).1,([]:List Int))])++C)++[((zAa 9 0 (areaN own (nm.take 16) (Wf.hd n t0)) (areaN own (nm.take 16) (Wf.hd n t0))).1,([]:List Int))]++[((ins 10 0 0).1,([]:List Int))])):=by show _=_;simp [zAa,ins]
 clear hl;have LA:=h.lay (ins 6 22 0).1 HL0.out;clear h;go_enter func90,ntmps90;go_wp2_with (first | (refine zA4 rfl 6 (.tmp 8) rfl 22 rfl ?_))
 refine LA.mono ?_;rintro e w1 ⟨rfl,lv1,P1,h1⟩;clear LA;have c1:=h1.cellAt (j:=1) rfl;try simp only [Nat.add_zero] at c1
 have FE:=h1.fed ih s1 ⟨(f1).1,(f1).2,a1⟩ HL1.out;rw [HFD.out] at FE;clear h1;go_wp2_with fail
 refine FE.mono ?_;rintro e w2 ⟨rfl,lv2,P2,h2⟩;clear FE c1;have d0:=h2.cellAt (j:=0) rfl;simp only [Nat.add_zero] at d0;have c3:=h2.cellAt (j:=0) rfl;try simp only [Nat.add_zero] at c3
 have AR3:=h2.areaN s0;go_wp2_with fail
 refine AR3.mono ?_;rintro e w3 ⟨rfl,hb3⟩;have h3:=h2.below hb3;clear AR3 h2 hb3 c3;clear d0;have ARD:=h3.areaN s0;go_wp2_with fail
 refine ARD.mono ?_;rintro e w4 ⟨rfl,hb4⟩;have h4:=h3.below hb4;clear ARD h3 hb4;have LB:=h4.lay (zAa 9 0 (areaN own (nm.take 16) (Wf.hd n t0)) (areaN own (nm.take 16) (Wf.hd n t0))).1 HL2.out;clear h4;go_wp2_with (first | (refine zBv rfl (.tmp 76) (.tmp 79) rfl (areaN own (nm.take 16) (Wf.hd n t0)) (areaN own (nm.take 16) (Wf.hd n t0)) rfl rfl ?_))
 refine LB.mono ?_;rintro e w8 ⟨rfl,lv8,P8,h8⟩;clear LB;have LC:=h8.lay (ins 10 0 0).1 HL3.out;clear h8;go_wp2_with (first | (refine zAQ rfl 10 rfl ?_))
 refine LC.mono ?_;rintro e w9 ⟨rfl,lv9,P9,h9⟩;have HR:Hid (YSt L bb off cap own nm av2 cap2 k w0 lv0 w9 (((Lc++[((ins 6 22 0).1,([]:List Int))])++C)++[((zAa 9 0 (areaN own (nm.take 16) (Wf.hd n t0)) (areaN own (nm.take 16) (Wf.hd n t0))).1,([]:List Int))]++[((ins 10 0 0).1,([]:List Int))]) lv9 P9 (.slice (some ⟨bk,ok,none⟩) 2 capk) [q0,q1]):=h9;clear LC h9;go_wp2;go_end0
 exact ⟨rfl,lv9,P9,by rw [HX.out];exact HR.out⟩
theorem zG4 {n:Nat} (ih:YNd L bb off cap own nm av2 cap2 n) {q0 q1 q2:Nat} {t0 t1 t2:Tr n} {bk ok capk:Nat} (h:YSt L bb off cap own nm av2 cap2 k w0 lv0 w Lc lv P (.slice (some ⟨bk,ok,none⟩) 3 capk) [q0,q1,q2]) (s0:Sub L q0 n t0) (s1:Sub L q1 n t1) (s2:Sub L q2 n t2) (f1:zAz n t1/\zBB own (nm.take 16) n t1=0) (a1:isA (Wf.hd n t1)=false) (hl:Lc.length+(zAY (cod own (nm.take 16) n) t1 (Lc.length+1)).length<=800000) :
  Calls prog 90 #[.pointer (some ⟨k,0,none⟩),.int .i64 22,.slice (some ⟨bk,ok,none⟩) 3 capk] w λe w'=>e=.returned (.tuple #[])/\∃ lv' P',YSt L bb off cap own nm av2 cap2 k w0 lv0 w' (Lc++ins 6 22 0::(zAY (cod own (nm.take 16) n) t1 (Lc.length+1)++[zAa 9 0 (areaN own (nm.take 16) (Wf.hd n t0)) (areaN own (nm.take 16) (Wf.hd n t2)),ins 10 0 0])) lv' P' (.slice (some ⟨bk,ok,none⟩) 3 capk) [q0,q1,q2]:=by
 obtain ⟨C,hC⟩:∃ C,zAY (cod own (nm.take 16) n) t1 (Lc.length+1)=C:=⟨_,rfl⟩
 have HFD:Hid (zAY (cod own (nm.take 16) n) t1 (Lc++[((ins 6 22 0).1,([]:List Int))]).length=C):=by show _=_;rw [<-hC];simp
 rw [hC] at hl ⊢;have HL1:Hid ((Lc++[((ins 6 22 0).1,([]:List Int))]).length+(cod own (nm.take 16) n t1 (Lc++[((ins 6 22 0).1,([]:List Int))]).length).length<=800000):=by
  show _<=_
  have h1:C.length=(cod own (nm.take 16) n t1 (Lc.length+1)).length+1:=by rw [<-hC];simp [zAY]
  have h2:(Lc++[((ins 6 22 0).1,([]:List Int))]).length=Lc.length+1:=by simp
  rw [h2];omega
 clear hC;have HL0:Hid (Lc.length<=1000000):=by show _<=_;omega
 have HL2:Hid (((Lc++[((ins 6 22 0).1,([]:List Int))])++C).length<=1000000):=by show _<=_;simp;omega
 have HL3:Hid ((((Lc++[((ins 6 22 0).1,([]:List Int))])++C)++[((zAa 9 0 (areaN own (nm.take 16) (Wf.hd n t0)) (areaN own (nm.take 16) (Wf.hd n t2))).1,([]:List Int))]).length<=1000000):=by show _<=_;simp;omega
 have HX:Hid (Lc++ins 6 22 0::(C++[zAa 9 0 (areaN own (nm.take 16) (Wf.hd n t0)) (areaN own (nm.take 16) (Wf.hd n t2)),ins 10 0 0])=(((Lc++[((ins 6 22 0).1,([]:List Int))])++C)++[((zAa 9 0 (areaN own (nm.take 16) (Wf.hd n t0)) (areaN own (nm.take 16) (Wf.hd n t2))).1,([]:List Int))]++[((ins 10 0 0).1,([]:List Int))])):=by show _=_;simp [zAa,ins]
 clear hl;have LA:=h.lay (ins 6 22 0).1 HL0.out;clear h;go_enter func90,ntmps90;go_wp2_with (first | (refine zA4 rfl 6 (.tmp 8) rfl 22 rfl ?_))
 refine LA.mono ?_;rintro e w1 ⟨rfl,lv1,P1,h1⟩;clear LA;have c1:=h1.cellAt (j:=1) rfl;try simp only [Nat.add_zero] at c1
 have FE:=h1.fed ih s1 ⟨(f1).1,(f1).2,a1⟩ HL1.out;rw [HFD.out] at FE;clear h1;go_wp2_with fail
 refine FE.mono ?_;rintro e w2 ⟨rfl,lv2,P2,h2⟩;clear FE c1;have d0:=h2.cellAt (j:=0) rfl;simp only [Nat.add_zero] at d0;have d2:=h2.cellAt (j:=2) rfl;have c3:=h2.cellAt (j:=0) rfl;try simp only [Nat.add_zero] at c3
 have AR3:=h2.areaN s0;go_wp2_with fail
 refine AR3.mono ?_;rintro e w3 ⟨rfl,hb3⟩;have h3:=h2.below hb3;clear AR3 h2 hb3 c3;clear d0 d2;have ARD:=h3.areaN s2;go_wp2_with fail
 refine ARD.mono ?_;rintro e w4 ⟨rfl,hb4⟩;have h4:=h3.below hb4;clear ARD h3 hb4;have LB:=h4.lay (zAa 9 0 (areaN own (nm.take 16) (Wf.hd n t0)) (areaN own (nm.take 16) (Wf.hd n t2))).1 HL2.out;clear h4;go_wp2_with (first | (refine zBv rfl (.tmp 76) (.tmp 79) rfl (areaN own (nm.take 16) (Wf.hd n t0)) (areaN own (nm.take 16) (Wf.hd n t2)) rfl rfl ?_))
 refine LB.mono ?_;rintro e w8 ⟨rfl,lv8,P8,h8⟩;clear LB;have LC:=h8.lay (ins 10 0 0).1 HL3.out;clear h8;go_wp2_with (first | (refine zAQ rfl 10 rfl ?_))
 refine LC.mono ?_;rintro e w9 ⟨rfl,lv9,P9,h9⟩;have HR:Hid (YSt L bb off cap own nm av2 cap2 k w0 lv0 w9 (((Lc++[((ins 6 22 0).1,([]:List Int))])++C)++[((zAa 9 0 (areaN own (nm.take 16) (Wf.hd n t0)) (areaN own (nm.take 16) (Wf.hd n t2))).1,([]:List Int))]++[((ins 10 0 0).1,([]:List Int))]) lv9 P9 (.slice (some ⟨bk,ok,none⟩) 3 capk) [q0,q1,q2]):=h9;clear LC h9;go_wp2;go_end0
 exact ⟨rfl,lv9,P9,by rw [HX.out];exact HR.out⟩
theorem zKI {n:Nat} (ih:YNd L bb off cap own nm av2 cap2 n) {q0 q1 q2:Nat} {t0 t1 t2:Tr n} {bk ok capk:Nat} (h:YSt L bb off cap own nm av2 cap2 k w0 lv0 w Lc lv P (.slice (some ⟨bk,ok,none⟩) 3 capk) [q0,q1,q2]) (s0:Sub L q0 n t0) (s1:Sub L q1 n t1) (s2:Sub L q2 n t2) (f0:zAz n t0/\zBB own (nm.take 16) n t0=0) (a0:isA (Wf.hd n t0)=false) (hl:Lc.length+(zAY (cod own (nm.take 16) n) t0 (Lc.length+1)).length<=800000) :
  Calls prog 90 #[.pointer (some ⟨k,0,none⟩),.int .i64 23,.slice (some ⟨bk,ok,none⟩) 3 capk] w λe w'=>e=.returned (.tuple #[])/\∃ lv' P',YSt L bb off cap own nm av2 cap2 k w0 lv0 w' (Lc++ins 6 23 0::(zAY (cod own (nm.take 16) n) t0 (Lc.length+1)++[zAa 9 0 (areaN own (nm.take 16) (Wf.hd n t1)) (areaN own (nm.take 16) (Wf.hd n t2)),ins 10 0 0])) lv' P' (.slice (some ⟨bk,ok,none⟩) 3 capk) [q0,q1,q2]:=by
 obtain ⟨C,hC⟩:∃ C,zAY (cod own (nm.take 16) n) t0 (Lc.length+1)=C:=⟨_,rfl⟩
 have HFD:Hid (zAY (cod own (nm.take 16) n) t0 (Lc++[((ins 6 23 0).1,([]:List Int))]).length=C):=by show _=_;rw [<-hC];simp
 rw [hC] at hl ⊢;have HL1:Hid ((Lc++[((ins 6 23 0).1,([]:List Int))]).length+(cod own (nm.take 16) n t0 (Lc++[((ins 6 23 0).1,([]:List Int))]).length).length<=800000):=by
  show _<=_
  have h1:C.length=(cod own (nm.take 16) n t0 (Lc.length+1)).length+1:=by rw [<-hC];simp [zAY]
  have h2:(Lc++[((ins 6 23 0).1,([]:List Int))]).length=Lc.length+1:=by simp
  rw [h2];omega
 clear hC;have HL0:Hid (Lc.length<=1000000):=by show _<=_;omega
 have HL2:Hid (((Lc++[((ins 6 23 0).1,([]:List Int))])++C).length<=1000000):=by show _<=_;simp;omega
 have HL3:Hid ((((Lc++[((ins 6 23 0).1,([]:List Int))])++C)++[((zAa 9 0 (areaN own (nm.take 16) (Wf.hd n t1)) (areaN own (nm.take 16) (Wf.hd n t2))).1,([]:List Int))]).length<=1000000):=by show _<=_;simp;omega
 have HX:Hid (Lc++ins 6 23 0::(C++[zAa 9 0 (areaN own (nm.take 16) (Wf.hd n t1)) (areaN own (nm.take 16) (Wf.hd n t2)),ins 10 0 0])=(((Lc++[((ins 6 23 0).1,([]:List Int))])++C)++[((zAa 9 0 (areaN own (nm.take 16) (Wf.hd n t1)) (areaN own (nm.take 16) (Wf.hd n t2))).1,([]:List Int))]++[((ins 10 0 0).1,([]:List Int))])):=by show _=_;simp [zAa,ins]
 clear hl;have LA:=h.lay (ins 6 23 0).1 HL0.out;clear h;go_enter func90,ntmps90;go_wp2_with (first | (refine zA4 rfl 6 (.tmp 8) rfl 23 rfl ?_))
 refine LA.mono ?_;rintro e w1 ⟨rfl,lv1,P1,h1⟩;clear LA;have c1:=h1.cellAt (j:=0) rfl;try simp only [Nat.add_zero] at c1
 have FE:=h1.fed ih s0 ⟨(f0).1,(f0).2,a0⟩ HL1.out;rw [HFD.out] at FE;clear h1;go_wp2_with fail
 refine FE.mono ?_;rintro e w2 ⟨rfl,lv2,P2,h2⟩;clear FE c1;have hrb:=(Below.refl w2.heap.size w2).drew;have hA:=h2;clear h2;go_upto_region 17 with fail
 generalize w2=WA at *;refine wp_region_held_drew (S:=λW=>W.cell? ⟨bk,ok+1,none⟩=some (.int .i64 (q1:Int))/\W.cell? ⟨bk,ok+2,none⟩=some (.int .i64 (q2:Int))) (by kernel_rfl) ⟨zAC hrb (hA.cellAt (j:=1) rfl),zAC hrb (hA.cellAt (j:=2) rfl)⟩ (λhHeld=>?_);have hD:=hA.below hrb;clear hA hrb;generalize WA.drew=WD at *;refine tkQ 0 ?_
 refine tkQ 1 ?_
 refine tkQ 2 ?_
 refine tkQ 3 ?_
 refine tkQ 4 ?_
 refine tkQ 6 ?_
 refine tkQ 7 ?_
 refine tkQ 8 ?_
 refine tkQ 9 ?_
 refine rdQ 5 (λK hK=>?_);go_simp
 refine (hD.areaN s1).mono ?_;rintro e w6 ⟨rfl,hb6⟩;have h6:=hD.below hb6;clear hD hb6;go_wp2_with fail
 refine hkQ hK ⟨h6.cellAt (j:=1) rfl,h6.cellAt (j:=2) rfl⟩ (λhHeld=>?_);clear hK K
 refine rdQ 10 (λK hK=>?_);go_simp
 refine (h6.areaN s2).mono ?_;rintro e w7 ⟨rfl,hb7⟩;have h7:=h6.below hb7;clear h6 hb7;go_wp2_with fail
 refine hkQ hK ⟨h7.cellAt (j:=1) rfl,h7.cellAt (j:=2) rfl⟩ (λhHeld=>?_);clear hK K
 refine wpAnyH_take (i:=11) (v:=.agg (zAD (zAa 9 0 (areaN own (nm.take 16) (Wf.hd n t1)) (areaN own (nm.take 16) (Wf.hd n t2))).1 zAH).toArray) (atQ rfl) (by kernel_rfl) (by kernel_rfl) (by kernel_rfl) (λ_ _ _ h=>h) (Or.inl ⟨by rfl,λW _=>zDw (.tmp 94) (.tmp 99) rfl (areaN own (nm.take 16) (Wf.hd n t1)) (areaN own (nm.take 16) (Wf.hd n t2)) rfl rfl W⟩) (by assumption) ?_;try simp only [Act.put,lA,lZ,lS]
 refine rdQ 12 (λK hK=>?_);go_simp
 refine (h7.lay (zAa 9 0 (areaN own (nm.take 16) (Wf.hd n t1)) (areaN own (nm.take 16) (Wf.hd n t2))).1 HL2.out).mono ?_;rintro e w8 ⟨rfl,lv8,P8,h8⟩;clear h7;go_wp2_with fail
 refine hkQ hK ⟨h8.cellAt (j:=1) rfl,h8.cellAt (j:=2) rfl⟩ (λhHeld=>?_);clear hK K
 refine wpAnyH_done (by kernel_rfl) ?_ _;clear hHeld;have LC:=h8.lay (ins 10 0 0).1 HL3.out;clear h8;go_wp2_with (first | (refine zAQ rfl 10 rfl ?_))
 refine LC.mono ?_;rintro e w9 ⟨rfl,lv9,P9,h9⟩;have HR:Hid (YSt L bb off cap own nm av2 cap2 k w0 lv0 w9 (((Lc++[((ins 6 23 0).1,([]:List Int))])++C)++[((zAa 9 0 (areaN own (nm.take 16) (Wf.hd n t1)) (areaN own (nm.take 16) (Wf.hd n t2))).1,([]:List Int))]++[((ins 10 0 0).1,([]:List Int))]) lv9 P9 (.slice (some ⟨bk,ok,none⟩) 3 capk) [q0,q1,q2]):=h9;clear LC h9;go_wp2;go_end0
 exact ⟨rfl,lv9,P9,by rw [HX.out];exact HR.out⟩
theorem zKB {n:Nat} (ih:YNd L bb off cap own nm av2 cap2 n) {q0 q1:Nat} {t0 t1:Tr n} {bk ok capk:Nat} (h:YSt L bb off cap own nm av2 cap2 k w0 lv0 w Lc lv P (.slice (some ⟨bk,ok,none⟩) 2 capk) [q0,q1]) (s0:Sub L q0 n t0) (s1:Sub L q1 n t1) (hl:Lc.length<=800000) :
  Calls prog 90 #[.pointer (some ⟨k,0,none⟩),.int .i64 24,.slice (some ⟨bk,ok,none⟩) 2 capk] w λe w'=>e=.returned (.tuple #[])/\∃ lv' P',YSt L bb off cap own nm av2 cap2 k w0 lv0 w' (Lc++ins 6 24 0::([zAa 9 0 (areaN own (nm.take 16) (Wf.hd n t0)) (areaN own (nm.take 16) (Wf.hd n t1)),ins 10 0 0])) lv' P' (.slice (some ⟨bk,ok,none⟩) 2 capk) [q0,q1]:=by
 have HL0:Hid (Lc.length<=1000000):=by show _<=_;omega
 have HL2:Hid ((Lc++[((ins 6 24 0).1,([]:List Int))]).length<=1000000):=by show _<=_;simp;omega
 have HL3:Hid (((Lc++[((ins 6 24 0).1,([]:List Int))])++[((zAa 9 0 (areaN own (nm.take 16) (Wf.hd n t0)) (areaN own (nm.take 16) (Wf.hd n t1))).1,([]:List Int))]).length<=1000000):=by show _<=_;simp;omega
 have HX:Hid (Lc++ins 6 24 0::([zAa 9 0 (areaN own (nm.take 16) (Wf.hd n t0)) (areaN own (nm.take 16) (Wf.hd n t1)),ins 10 0 0])=((Lc++[((ins 6 24 0).1,([]:List Int))])++[((zAa 9 0 (areaN own (nm.take 16) (Wf.hd n t0)) (areaN own (nm.take 16) (Wf.hd n t1))).1,([]:List Int))]++[((ins 10 0 0).1,([]:List Int))])):=by show _=_;simp [zAa,ins]
 clear hl;have LA:=h.lay (ins 6 24 0).1 HL0.out;clear h;go_enter func90,ntmps90;go_wp2_with (first | (refine zA4 rfl 6 (.tmp 8) rfl 24 rfl ?_))
 refine LA.mono ?_;rintro e w1 ⟨rfl,lv1,P1,h1⟩;clear LA;have hrb:=(Below.refl w1.heap.size w1).drew;have hA:=h1;clear h1;go_upto_region 2 with fail
 generalize w1=WA at *;refine wp_region_held_drew (S:=λW=>W.cell? ⟨bk,ok,none⟩=some (.int .i64 (q0:Int))/\W.cell? ⟨bk,ok+1,none⟩=some (.int .i64 (q1:Int))) (by kernel_rfl) ⟨zAC hrb (hA.cellAt (j:=0) rfl),zAC hrb (hA.cellAt (j:=1) rfl)⟩ (λhHeld=>?_);have hD:=hA.below hrb;clear hA hrb;generalize WA.drew=WD at *;refine tkQ 0 ?_
 refine tkQ 1 ?_
 refine tkQ 2 ?_
 refine tkQ 3 ?_
 refine tkQ 4 ?_
 refine tkQ 6 ?_
 refine tkQ 7 ?_
 refine tkQ 8 ?_
 refine tkQ 9 ?_
 refine rdQ 5 (λK hK=>?_);go_simp
 refine (hD.areaN s0).mono ?_;rintro e w6 ⟨rfl,hb6⟩;have h6:=hD.below hb6;clear hD hb6;go_wp2_with fail
 refine hkQ hK ⟨h6.cellAt (j:=0) rfl,h6.cellAt (j:=1) rfl⟩ (λhHeld=>?_);clear hK K
 refine rdQ 10 (λK hK=>?_);go_simp
 refine (h6.areaN s1).mono ?_;rintro e w7 ⟨rfl,hb7⟩;have h7:=h6.below hb7;clear h6 hb7;go_wp2_with fail
 refine hkQ hK ⟨h7.cellAt (j:=0) rfl,h7.cellAt (j:=1) rfl⟩ (λhHeld=>?_);clear hK K
 refine wpAnyH_take (i:=11) (v:=.agg (zAD (zAa 9 0 (areaN own (nm.take 16) (Wf.hd n t0)) (areaN own (nm.take 16) (Wf.hd n t1))).1 zAH).toArray) (atQ rfl) (by kernel_rfl) (by kernel_rfl) (by kernel_rfl) (λ_ _ _ h=>h) (Or.inl ⟨by rfl,λW _=>zDw (.tmp 17) (.tmp 22) rfl (areaN own (nm.take 16) (Wf.hd n t0)) (areaN own (nm.take 16) (Wf.hd n t1)) rfl rfl W⟩) (by assumption) ?_;try simp only [Act.put,lA,lZ,lS]
 refine rdQ 12 (λK hK=>?_);go_simp
 refine (h7.lay (zAa 9 0 (areaN own (nm.take 16) (Wf.hd n t0)) (areaN own (nm.take 16) (Wf.hd n t1))).1 HL2.out).mono ?_;rintro e w8 ⟨rfl,lv8,P8,h8⟩;clear h7;go_wp2_with fail
 refine hkQ hK ⟨h8.cellAt (j:=0) rfl,h8.cellAt (j:=1) rfl⟩ (λhHeld=>?_);clear hK K
 refine wpAnyH_done (by kernel_rfl) ?_ _;clear hHeld;have LC:=h8.lay (ins 10 0 0).1 HL3.out;clear h8;go_wp2_with (first | (refine zAQ rfl 10 rfl ?_))
 refine LC.mono ?_;rintro e w9 ⟨rfl,lv9,P9,h9⟩;have HR:Hid (YSt L bb off cap own nm av2 cap2 k w0 lv0 w9 ((Lc++[((ins 6 24 0).1,([]:List Int))])++[((zAa 9 0 (areaN own (nm.take 16) (Wf.hd n t0)) (areaN own (nm.take 16) (Wf.hd n t1))).1,([]:List Int))]++[((ins 10 0 0).1,([]:List Int))]) lv9 P9 (.slice (some ⟨bk,ok,none⟩) 2 capk) [q0,q1]):=h9;clear LC h9;go_wp2;go_end0
 exact ⟨rfl,lv9,P9,by rw [HX.out];exact HR.out⟩
end
open Go.RowKit Wf
theorem p20:(zAJ 20).p.data.toList=[118,97]:=by kernel_rfl
theorem p21:(zAJ 21).p.data.toList=[97,118]:=by kernel_rfl
theorem l20:(zAJ 20).l=2/\(zAJ 20).m=2:=⟨by kernel_rfl,by kernel_rfl⟩
theorem l21:(zAJ 21).l=2/\(zAJ 21).m=2:=⟨by kernel_rfl,by kernel_rfl⟩
section
variable (L:List Wt.Nd) (own:Int) (nm:List ByteArray) (n:Nat)
structure Kds (ks:List Nat) (kts:List (Tr n)):Prop where
 len:ks.length=kts.length
 sub:∀ j (h1:j<ks.length) (h2:j<kts.length),Sub L ks[j] n kts[j]
 fin:∀ t ∈ kts,zAz n t/\zBB own (nm.take 16) n t=0
end
section
variable {L:List Wt.Nd} {bb off cap:Nat} {own:Int} {nm:List ByteArray} {av2:Option Addr} {cap2 k:Nat} {w0:World} {lv0:Value} {w w':World} {Lc Lc':List I} {lv lv':Value} {P P':List (Wc.In × Value)} {kv:Value} {ks:List Nat} {n:Nat}
theorem YSt.kidv (h:YSt L bb off cap own nm av2 cap2 k w0 lv0 w Lc lv P kv ks) (h0:0<ks.length):∃ bk ok capk,kv=.slice (.some ⟨bk,ok,none⟩) ks.length capk:=by
 obtain ⟨av,c,e,hr⟩:=h.kid;obtain ⟨b,o,e2,_⟩:=hr 0 h0;subst e2;exact ⟨b,o,c,e⟩
theorem zJS (ih:YNd L bb off cap own nm av2 cap2 n) (h:YSt L bb off cap own nm av2 cap2 k w0 lv0 w Lc lv P kv ks) {kts:List (Tr n)} (id:Int) (hid:id=20 \/ id=21 \/ id=22 \/ id=23 \/ id=24) (hK:Kds L own nm n ks kts) (hl:(zAJ id).l<=(kts.length:Int)/\(kts.length:Int)<=(zAJ id).m) (ht:zA0 (zAJ id).p.data.toList (kts.map (Wf.hd n)) 0=true) (hb:Lc.length+(zAw own (nm.take 16) (Wf.hd n) (cod own (nm.take 16) n) id kts Lc.length).length<=800000) :
  Calls prog 90 #[.pointer (.some ⟨k,0,none⟩),.int .i64 id,kv] w λe w'=>e=.returned (.tuple #[])/\∃ lv' P',YSt L bb off cap own nm av2 cap2 k w0 lv0 w' (Lc++zAw own (nm.take 16) (Wf.hd n) (cod own (nm.take 16) n) id kts Lc.length) lv' P' kv ks:=by
 obtain ⟨hlen,hsub,hfin⟩:=hK;have two:∀ (a b:Tr n),kts=[a,b]->∃ q0 q1,ks=[q0,q1]/\Sub L q0 n a/\Sub L q1 n b:=by
  intro a b e;subst e;match ks,hlen with
  | [q0,q1],_=>exact ⟨q0,q1,rfl,hsub 0 (by simp) (by simp),hsub 1 (by simp) (by simp)⟩
 have three:∀ (a b c:Tr n),kts=[a,b,c]->∃ q0 q1 q2,ks=[q0,q1,q2]/\Sub L q0 n a/\Sub L q1 n b/\Sub L q2 n c:=by
  intro a b c e;subst e;match ks,hlen with
  | [q0,q1,q2],_=>exact ⟨q0,q1,q2,rfl,hsub 0 (by simp) (by simp),hsub 1 (by simp) (by simp),hsub 2 (by simp) (by simp)⟩
 rcases hid with rfl | rfl | rfl | rfl | rfl
 ·rw [p20] at ht;rw [l20.1,l20.2] at hl;match kts,hl with
  | [a,b],_ =>
   obtain ⟨q0,q1,rfl,s0,s1⟩:=two a b rfl;obtain ⟨bk,ok,capk,rfl⟩:=h.kidv (by simp);have hi:isA (Wf.hd n a)=false/\isA (Wf.hd n b)=true:=by
    simp only [List.map_cons,List.map_nil,zA0] at ht;cases h1:isA (Wf.hd n a) <;> cases h2:isA (Wf.hd n b) <;> simp [h1,h2] at ht ⊢
   have e:zAw own (nm.take 16) (Wf.hd n) (cod own (nm.take 16) n) 20 [a,b] Lc.length=ins 6 20 0::(zAY (cod own (nm.take 16) n) a (Lc.length+1)++[zAa 8 0 (areaN own (nm.take 16) (Wf.hd n b)) a0I,ins 10 0 0]):=by
    simp [zAw,zAe,zAR,Wc.pairs,hi.1,hi.2]
   rw [e] at hb ⊢;exact zL3 ih h s0 s1 (hfin a (by simp)) hi.1 (by simp at hb ⊢;omega)
  | [],hl=>simp at hl
  | [a],hl=>simp at hl
  | a::b::c::r,hl=>simp at hl;omega
 ·rw [p21] at ht;rw [l21.1,l21.2] at hl;match kts,hl with
  | [a,b],_ =>
   obtain ⟨q0,q1,rfl,s0,s1⟩:=two a b rfl;obtain ⟨bk,ok,capk,rfl⟩:=h.kidv (by simp);have hi:isA (Wf.hd n a)=true/\isA (Wf.hd n b)=false:=by
    simp only [List.map_cons,List.map_nil,zA0] at ht;cases h1:isA (Wf.hd n a) <;> cases h2:isA (Wf.hd n b) <;> simp [h1,h2] at ht ⊢
   have e:zAw own (nm.take 16) (Wf.hd n) (cod own (nm.take 16) n) 21 [a,b] Lc.length=ins 6 21 0::(zAY (cod own (nm.take 16) n) b (Lc.length+1)++[zAa 8 0 (areaN own (nm.take 16) (Wf.hd n a)) a0I,ins 10 0 0]):=by
    simp [zAw,zAe,zAR,Wc.pairs,hi.1,hi.2]
   rw [e] at hb ⊢;exact zJ3 ih h s0 s1 (hfin b (by simp)) hi.2 (by simp at hb ⊢;omega)
  | [],hl=>simp at hl
  | [a],hl=>simp at hl
  | a::b::c::r,hl=>simp at hl;omega
 ·rw [p22] at ht;rw [l22.1,l22.2] at hl;match kts,hl with
  | [a,b],_ =>
   obtain ⟨q0,q1,rfl,s0,s1⟩:=two a b rfl;obtain ⟨bk,ok,capk,rfl⟩:=h.kidv (by simp);have hi:isA (Wf.hd n a)=true/\isA (Wf.hd n b)=false:=by
    simp only [List.map_cons,List.map_nil,zA0] at ht;cases h1:isA (Wf.hd n a) <;> cases h2:isA (Wf.hd n b) <;> simp [h1,h2] at ht ⊢
   have e:zAw own (nm.take 16) (Wf.hd n) (cod own (nm.take 16) n) 22 [a,b] Lc.length=ins 6 22 0::(zAY (cod own (nm.take 16) n) b (Lc.length+1)++[zAa 9 0 (areaN own (nm.take 16) (Wf.hd n a)) (areaN own (nm.take 16) (Wf.hd n a)),ins 10 0 0]):=by
    simp [zAw,zAe,zAR,Wc.pairs,hi.1,hi.2]
   rw [e] at hb ⊢;exact zGT ih h s0 s1 (hfin b (by simp)) hi.2 (by simp at hb ⊢;omega)
  | [a,b,c],_ =>
   obtain ⟨q0,q1,q2,rfl,s0,s1,s2⟩:=three a b c rfl;obtain ⟨bk,ok,capk,rfl⟩:=h.kidv (by simp);have hi:isA (Wf.hd n a)=true/\isA (Wf.hd n b)=false/\isA (Wf.hd n c)=true:=by
    simp only [List.map_cons,List.map_nil,zA0] at ht;cases h1:isA (Wf.hd n a) <;> cases h2:isA (Wf.hd n b) <;> cases h3:isA (Wf.hd n c) <;> simp [h1,h2,h3] at ht ⊢
   have e:zAw own (nm.take 16) (Wf.hd n) (cod own (nm.take 16) n) 22 [a,b,c] Lc.length=ins 6 22 0::(zAY (cod own (nm.take 16) n) b (Lc.length+1)++[zAa 9 0 (areaN own (nm.take 16) (Wf.hd n a)) (areaN own (nm.take 16) (Wf.hd n c)),ins 10 0 0]):=by
    simp [zAw,zAe,zAR,Wc.pairs,hi.1,hi.2.1,hi.2.2]
   rw [e] at hb ⊢;exact zG4 ih h s0 s1 s2 (hfin b (by simp)) hi.2.1 (by simp at hb ⊢;omega)
  | [],hl=>simp at hl
  | [a],hl=>simp at hl
  | a::b::c::d::r,hl=>simp at hl;omega
 ·rw [p23] at ht;rw [l23.1,l23.2] at hl;match kts,hl with
  | [a,b,c],_ =>
   obtain ⟨q0,q1,q2,rfl,s0,s1,s2⟩:=three a b c rfl;obtain ⟨bk,ok,capk,rfl⟩:=h.kidv (by simp);have hi:isA (Wf.hd n a)=false/\isA (Wf.hd n b)=true/\isA (Wf.hd n c)=true:=by
    simp only [List.map_cons,List.map_nil,zA0] at ht;cases h1:isA (Wf.hd n a) <;> cases h2:isA (Wf.hd n b) <;> cases h3:isA (Wf.hd n c) <;> simp [h1,h2,h3] at ht ⊢
   have e:zAw own (nm.take 16) (Wf.hd n) (cod own (nm.take 16) n) 23 [a,b,c] Lc.length=ins 6 23 0::(zAY (cod own (nm.take 16) n) a (Lc.length+1)++[zAa 9 0 (areaN own (nm.take 16) (Wf.hd n b)) (areaN own (nm.take 16) (Wf.hd n c)),ins 10 0 0]):=by
    simp [zAw,zAe,zAR,Wc.pairs,hi.1,hi.2.1,hi.2.2]
   rw [e] at hb ⊢;exact zKI ih h s0 s1 s2 (hfin a (by simp)) hi.1 (by simp at hb ⊢;omega)
  | [],hl=>simp at hl
  | [a],hl=>simp at hl
  | [a,b],hl=>simp at hl
  | a::b::c::d::r,hl=>simp at hl;omega
 ·rw [p24] at ht;rw [l24.1,l24.2] at hl;match kts,hl with
  | [a,b],_ =>
   obtain ⟨q0,q1,rfl,s0,s1⟩:=two a b rfl;obtain ⟨bk,ok,capk,rfl⟩:=h.kidv (by simp);have hi:isA (Wf.hd n a)=true/\isA (Wf.hd n b)=true:=by
    simp only [List.map_cons,List.map_nil,zA0] at ht;cases h1:isA (Wf.hd n a) <;> cases h2:isA (Wf.hd n b) <;> simp [h1,h2] at ht ⊢
   have e:zAw own (nm.take 16) (Wf.hd n) (cod own (nm.take 16) n) 24 [a,b] Lc.length=ins 6 24 0::[zAa 9 0 (areaN own (nm.take 16) (Wf.hd n a)) (areaN own (nm.take 16) (Wf.hd n b)),ins 10 0 0]:=by
    simp [zAw,zAe,zAR,Wc.pairs,hi.1,hi.2]
   rw [e] at hb ⊢;exact zKB ih h s0 s1 (by simp at hb ⊢;omega)
  | [],hl=>simp at hl
  | [a],hl=>simp at hl
  | a::b::c::r,hl=>simp at hl;omega
end
open Go.RowKit Wf
theorem zOC {L:List Wt.Nd} {bb off cap:Nat} {own:Int} {nm:List ByteArray} {av2:Option Addr} {cap2:Nat} {Lc:List I} {kv:Value} {ks:List Nat} (h0:YSt L bb off cap own nm av2 cap2 k w lv w Lc lv P kv ks) {w2:World} (hb:Below w.heap.size w w2) (s:Sg):YSt L bb off cap own nm av2 cap2 k w lv (w2.alloc (.cells (sg6 s.id s.c s.nm s.l s.m s.p).toArray 108)) Lc lv P kv ks/\AtL (w2.alloc (.cells (sg6 s.id s.c s.nm s.l s.m s.p).toArray 108)) w2.heap.size (sg6 s.id s.c s.nm s.l s.m s.p)/\Hid (w2.heap.size ∉ k::lv.ownBlock.toList):=by
 refine ⟨(h0.below hb).below (zAM (Below.refl _ w2) _),AtL.new0 w2 108 (sg6 s.id s.c s.nm s.l s.m s.p),λhm=>?_⟩;have hz:=hb.size;rcases List.mem_cons.1 hm with q | q
 ·have:=h0.ys.at'.lt;omega
 ·have:=(zAK h0.ys.own (show lv.ownBlock=some w2.heap.size by simpa using q)).2;omega
theorem zOH {s0 s1 s2:Value} {L:List I} (h:YS k w s0 s1 s2 L lv P) {g cap i j:Nat} (hlv:lv=.slice (some ⟨g,0,none⟩) P.length cap) (hi:i<P.length) (hi2:i<L.length) (hj:j<23) (v:Int) (y:Wc.In) (hy:∀ tv,(zAD (L[i]).1 tv).set j (.int .i64 v)=zAD y tv) :
  YS k (w.setCell ⟨g,i * 23+j,none⟩ (.int .i64 v)) s0 s1 s2 (L.set i (y,(L[i]).2)) lv (P.set i (y,(P[i]).2)):=by
 subst hlv;have hst:=h.own.stored (i * 23+j) (.int .i64 v);have hg:=(zAK h.own (show Value.ownBlock (.slice (some ⟨g,0,none⟩) P.length cap)=some g from rfl)).1;have hf:Fr [g] w (w.setCell ⟨g,i * 23+j,none⟩ (.int .i64 v)):=Fr.of_grown hst.2 (λj e=>by cases e;simp);have h2nd:∀ a (h1:a<P.length),((P.set i (y,(P[i]).2))[a]'(by rw [List.length_set];exact h1)).2=(P[a]).2:=λa h1=>by
  by_cases e:i=a
  ·subst e;rw [List.getElem_set_self]
  ·rw [List.getElem_set_ne e]
 refine ⟨h.at'.fr hf (by simp;omega),?_,by simp [h.len],λa h1 h2=>?_,λa b h1 h2 c e1 e2=>?_,λa h1 h2=>?_⟩
 ·have:=hst.1;rw [zBi P i hi (y,(P[i]).2) j _ (by rw [(h.ins i hi hi2).1];exact hy _) hj] at this;unfold OwnI;rw [List.length_set];exact this
 ·rw [List.length_set] at h1 h2;have hz:OwnZ (w.setCell ⟨g,i * 23+j,none⟩ (.int .i64 v)) (k+1) (P[a]).2 (L[a]).2:=zAW hf (h.ins a h1 h2).2 (λb e hm=>zAi (h.ins a h1 h2).2 h.own (by decide) e (by simp at hm;rw [hm];rfl));by_cases e:i=a
  ·subst e;rw [List.getElem_set_self,List.getElem_set_self];exact ⟨rfl,hz⟩
  ·rw [List.getElem_set_ne e,List.getElem_set_ne e];exact ⟨(h.ins a h1 h2).1,hz⟩
 ·rw [List.length_set] at h1 h2;rw [h2nd a h1] at e1;rw [h2nd b h2] at e2;exact h.dis a b h1 h2 c e1 e2
 ·rw [List.length_set] at h1 h2;have hL:((L.set i (y,(L[i]).2))[a]'(by rw [List.length_set];exact h2)).2=(L[a]).2:=by
   by_cases e:i=a
   ·subst e;rw [List.getElem_set_self]
   ·rw [List.getElem_set_ne e]
  rw [h2nd a h1,hL];exact h.tos a h1 h2
section
variable {L:List Wt.Nd} {bb off cap:Nat} {own:Int} {nm:List ByteArray} {av2:Option Addr} {cap2 k:Nat} {w0:World} {lv0:Value} {w:World} {Lc:List I} {lv:Value} {P:List (Wc.In × Value)} {kv:Value} {ks:List Nat}
theorem YSt.list (h:YSt L bb off cap own nm av2 cap2 k w0 lv0 w Lc lv P kv ks) (h0:0<Lc.length):∃ g c,lv=.slice (some ⟨g,0,none⟩) Lc.length c/\w.cell? ⟨k,3,none⟩=some (.slice (some ⟨g,0,none⟩) Lc.length c)/\g ≠ k:=by
 have hl:=h.ys.len;rcases h.ys.own.2 with ⟨e,h9⟩ | ⟨g,c,cur,e,hb,_⟩
 ·omega
 ·rw [hl] at e;have:=h.ys.at'.2.1 3 _ rfl;rw [e] at this;exact ⟨g,c,e,this,by omega⟩
theorem YSt.patch (h:YSt L bb off cap own nm av2 cap2 k w0 lv0 w Lc lv P kv ks) {g c i j:Nat} (hlv:lv=.slice (some ⟨g,0,none⟩) Lc.length c) (hi:i<Lc.length) (hj:j<23) (v:Int) (y:Wc.In) (hy:∀ tv,(zAD (Lc[i]).1 tv).set j (.int .i64 v)=zAD y tv) :
  YSt L bb off cap own nm av2 cap2 k w0 lv0 (w.setCell ⟨g,i * 23+j,none⟩ (.int .i64 v)) (Lc.set i (y,(Lc[i]).2)) lv (P.set i (y,(P[i]'(by rw [h.ys.len];exact hi)).2)) kv ks:=by
 have hy2:=zOH h.ys (by rw [h.ys.len];exact hlv) (by rw [h.ys.len];exact hi) hi hj v y hy;refine h.step ((zC1 w g (i * 23+j) (.int .i64 v)).mono (λa ha=>?_)) (Nx.refl _ _) hy2;simp at ha;subst ha;refine List.mem_cons_of_mem _ ?_;rw [hlv];simp [Value.ownBlock]
end
open Go.RowKit Wf
section
variable {α:Type} (f:α->Nat->List I)
def zAO (e:Int):List α->Nat->List I
 | [],_=>[]
 | k::r,a=>f k a++chB f e r (a+(f k a).length)
def toC:List α->Nat->List Int
 | [],_=>[]
 | k::r,a=>(a:Int)::chT f r (a+(f k a).length)
def jr:List α->Nat->List Nat
 | [],_=>[]
 | k::r,m=>m::jr r (m+1+(f k (m+1)).length)
def jx:List α->Nat->List Nat
 | [],_=>[]
 | k::r,a=>jr f r (a+(f k a).length)
theorem zCG (l:List α) (a:Nat):zCW f l a=(⟨15,0,(a+1+(zAO f 0 l (a+1)).length:Nat),v0I,c0I,a0I,a0I⟩,toC f l (a+1))::zAO f (a+1+(zAO f 0 l (a+1)).length:Nat) l (a+1):=by
 cases l with
 | nil=>rfl
 | cons k r =>
  simp only [zCW,zAO,toC,List.length_append];rw [show a+1+((f k (a+1)).length+(chB f 0 r (a+1+(f k (a+1)).length)).length)=a+1+(f k (a+1)).length+(chB f 0 r (a+1+(f k (a+1)).length)).length from by omega]
theorem zJF (e e':Int):∀ (r:List α) (m:Nat),(chB f e r m).length=(chB f e' r m).length
 | [],m=>rfl
 | k::r,m=>by simp [chB,zJF e e' r]
theorem zCz (e e':Int) (l:List α) (a:Nat):(zAO f e l a).length=(zAO f e' l a).length:=by
 cases l with
 | nil=>rfl
 | cons k r=>simp [zAO,zJF f e e']
theorem zFe (e:Int) (x:α):∀ (r:List α) (m:Nat),chB f e (r++[x]) m=chB f e r m++(ins 13 e 0::f x (m+(chB f e r m).length+1))
 | [],m=>by simp [chB]
 | k::r,m=>by
  simp only [List.cons_append,chB,zFe e x r,List.append_assoc,List.length_cons,List.length_append];rw [show m+1+(f k (m+1)).length+(chB f e r (m+1+(f k (m+1)).length)).length+1=m+((f k (m+1)).length+(chB f e r (m+1+(f k (m+1)).length)).length+1)+1 from by omega]
theorem zFl (x:α):∀ (r:List α) (m:Nat),chT f (r++[x]) m=chT f r m++[((m+(chB f 0 r m).length+1:Nat):Int)]
 | [],m=>by simp [chT,chB]
 | k::r,m=>by
  simp only [List.cons_append,chT,zFl x r,chB,List.length_cons,List.length_append];rw [show m+1+(f k (m+1)).length+(chB f 0 r (m+1+(f k (m+1)).length)).length+1=m+((f k (m+1)).length+(chB f 0 r (m+1+(f k (m+1)).length)).length+1)+1 from by omega]
theorem zHX (x:α):∀ (r:List α) (m:Nat),jr f (r++[x]) m=jr f r m++[m+(chB f 0 r m).length]
 | [],m=>by simp [jr,chB]
 | k::r,m=>by
  simp only [List.cons_append,jr,zHX x r,chB,List.length_cons,List.length_append];rw [show m+1+(f k (m+1)).length+(chB f 0 r (m+1+(f k (m+1)).length)).length=m+((f k (m+1)).length+(chB f 0 r (m+1+(f k (m+1)).length)).length+1) from by omega]
theorem zJ7 (e:Int) (x:α) (a:Nat):zAO f e [x] a=f x a:=by simp [zAO,chB]
theorem zCe (e:Int) (x:α) (l:List α) (hl:l ≠ []) (a:Nat):zAO f e (l++[x]) a=zAO f e l a++(ins 13 e 0::f x (a+(zAO f e l a).length+1)):=by
 cases l with
 | nil=>exact absurd rfl hl
 | cons k r =>
  simp only [List.cons_append,zAO,zFe,List.append_assoc,List.length_append];rw [show a+(f k a).length+(chB f e r (a+(f k a).length)).length+1=a+((f k a).length+(chB f e r (a+(f k a).length)).length)+1 from by omega]
theorem zHw (x:α) (l:List α) (hl:l ≠ []) (a:Nat):toC f (l++[x]) a=toC f l a++[((a+(zAO f 0 l a).length+1:Nat):Int)]:=by
 cases l with
 | nil=>exact absurd rfl hl
 | cons k r =>
  simp only [List.cons_append,toC,zFl,zAO,List.length_append];rw [show a+(f k a).length+(chB f 0 r (a+(f k a).length)).length+1=a+((f k a).length+(chB f 0 r (a+(f k a).length)).length)+1 from by omega]
theorem zJT (x:α) (l:List α) (hl:l ≠ []) (a:Nat):jx f (l++[x]) a=jx f l a++[a+(zAO f 0 l a).length]:=by
 cases l with
 | nil=>exact absurd rfl hl
 | cons k r =>
  simp only [List.cons_append,jx,zHX,zAO,List.length_append];rw [show a+(f k a).length+(chB f 0 r (a+(f k a).length)).length=a+((f k a).length+(chB f 0 r (a+(f k a).length)).length) from by omega]
theorem zM5:∀ (r:List α) (m:Nat),∀ p ∈ jr f r m,m<=p/\p<m+(chB f 0 r m).length
 | [],m,p,h=>by cases h
 | k::r,m,p,h=>by
  simp only [chB,List.length_cons,List.length_append];rcases List.mem_cons.1 h with rfl | h
  ·omega
  ·have:=zM5 r _ p h;omega
end
def pA (v:Int) (L:List I) (p:Nat):List I:=match L[p]? with
 | some x=>L.set p ({x.1 with a:=v},x.2)
 | none=>L
def pB (v:Int) (L:List I) (p:Nat):List I:=match L[p]? with
 | some x=>L.set p ({x.1 with b:=v},x.2)
 | none=>L
theorem zLq (v:Int) (L:List I) (p:Nat):(pA v L p).length=L.length:=by unfold pA;split <;> simp
theorem zNz (v:Int) (L:List I) (p:Nat):(pB v L p).length=L.length:=by unfold pB;split <;> simp
theorem zNo (v:Int) (X Y:List I) (x:I) (p:Nat) (h:p=X.length):pA v (X++x::Y) p=X++({x.1 with a:=v},x.2)::Y:=by
 subst h;unfold pA;rw [List.getElem?_append_right (Nat.le_refl _),Nat.sub_self,List.getElem?_cons_zero];exact zAm X _ _ Y X.length rfl
theorem zOR (v:Int) (X Y:List I) (x:I) (p:Nat) (h:p=X.length):pB v (X++x::Y) p=X++({x.1 with b:=v},x.2)::Y:=by
 subst h;unfold pB;rw [List.getElem?_append_right (Nat.le_refl _),Nat.sub_self,List.getElem?_cons_zero];exact zAm X _ _ Y X.length rfl
theorem zOA (v:Int) (L:List I) (p:Nat) (h:p<L.length):pA v L p=L.set p ({(L[p]).1 with a:=v},(L[p]).2):=by unfold pA;rw [List.getElem?_eq_getElem h]
theorem zOn (v:Int) (L:List I) (p:Nat) (h:p<L.length):pB v L p=L.set p ({(L[p]).1 with b:=v},(L[p]).2):=by unfold pB;rw [List.getElem?_eq_getElem h]
theorem zCV {α:Type} (f:α->Nat->List I) (e:Int):∀ (r:List α) (X:List I) (m:Nat),m=X.length->(jr f r m).foldl (pA e) (X++chB f 0 r m)=X++chB f e r m
 | [],X,m,h=>rfl
 | k::r,X,m,h=>by
  simp only [jr,chB,List.foldl_cons];rw [zNo e X _ _ m h];have hx:(X++ins 13 e 0::f k (m+1))++chB f 0 r (m+1+(f k (m+1)).length)=X++({(ins 13 0 0).1 with a:=e},(ins 13 0 0).2)::(f k (m+1)++chB f 0 r (m+1+(f k (m+1)).length)):=by
   rw [List.append_assoc];rfl
  rw [<-hx,zCV f e r _ _ (by simp;omega),List.append_assoc];rfl
theorem zKW {α:Type} (f:α->Nat->List I) (e:Int) (l:List α) (L:List I) (c:I):(jx f l (L.length+1)).foldl (pA e) (pB e (L++c::zAO f 0 l (L.length+1)) L.length)=L++({c.1 with b:=e},c.2)::zAO f e l (L.length+1):=by
 rw [zOR e L _ c L.length rfl];cases l with
 | nil=>rfl
 | cons k r =>
  simp only [jx,zAO];have hx:(L++({c.1 with b:=e},c.2)::f k (L.length+1))++chB f 0 r (L.length+1+(f k (L.length+1)).length)=L++({c.1 with b:=e},c.2)::(f k (L.length+1)++chB f 0 r (L.length+1+(f k (L.length+1)).length)):=by simp
  rw [<-hx,zCV f e r _ _ (by simp;omega)];simp
def OwnC (w:World) (B:Nat) (v:Value) (cs:List (Nat × Nat × Nat)):Prop:=w.ownsRow B 1 1 v cs.length (cs.map λc=>clV c.1 c.2.1 c.2.2)
theorem zOT:(prog.info? 1).map (λi=>(i.zero,i.size,i.bytes))=some (some Value.nilFunc,1,8):=by kernel_rfl
theorem zEm {ops:Array Oper} {rest:List Oper} {o:Oper} {a:Act} {Q:Exit->Act->World->Prop} (hgd:o.guard=none) (s x:Operand) (ho:o.op=.call {callee:=.builtin .append,args:=#[s,x],argTypes:=#[211,211]})
  (w:World) (B:Nat) (hB:B<=w.heap.size) (v:Value) (A:List (Nat × Nat × Nat)) (hs:a.eval s=v) (hown:OwnC w B v A) (g:Nat) (y:Nat × Nat × Nat) (hx:a.eval x=.slice (some ⟨g,0,none⟩) 1 1) (hat:w.cell? ⟨g,0,none⟩=some (clV y.1 y.2.1 y.2.2)) (hl:True->A.length<=1000)
  (h:∀ v' w',OwnC w' B v' (A++[y])->w.grownBy w' v.ownBlock->(v'.ownBlock=v.ownBlock \/ v'.ownBlock=some w.heap.size)->wpList prog ops Q rest (a.put o.dst v') w'):wpList prog ops Q (o::rest) a w:=by
 obtain ⟨i0,hi0,hz0,hz1,hz2⟩:=info_parts zOT;have hl:=hl trivial;refine wpList_plain hgd λK hK=>?_
 have hnews:∀ j u,([clV y.1 y.2.1 y.2.2])[j]? = some u->w.cell? ((⟨g,0,none⟩:Addr).add j)=some u:=λj u hj=>by
  cases j with
  | zero=>simp only [List.getElem?_cons_zero,Option.some.injEq] at hj;subst hj;exact hat
  | succ j=>simp at hj
 obtain ⟨v',w',hr,own,hg,_,hb⟩:=run_append_own_at (P:=prog) w B 211 o.type 1 i0 _ 1 8 underlying211 hi0 hz0 hz1 hz2 rfl (by decide) v A.length (A.map λc:Nat × Nat × Nat=>clV c.1 c.2.1 c.2.2) hown ⟨g,0,none⟩ 1 1 [clV y.1 y.2.1 y.2.2] rfl hnews (λu hu=>by simp at hu;subst hu;rfl) (by unfold maxLen;omega) (by omega) hB;unfold Oper.wp execOp;simp only [ho,resolve,invoke,builtin,Sem.run_bind,Sem.run_pure,Result.andThen_ok,List.map_toArray,List.map_cons,List.map_nil,hs,hx,hr];refine hK _ _ (h v' w' ?_ hg hb);unfold OwnC;rw [List.length_append,List.map_append];exact own
theorem zMh (w:World) (y:Nat × Nat × Nat) (B:Nat) (hB:B<=w.heap.size):OwnC (w.alloc (.cells #[clV y.1 y.2.1 y.2.2] 1)) B (.slice (some ⟨w.heap.size,0,none⟩) 1 1) [y]:=by
 refine ⟨rfl,.inr ⟨w.heap.size,1,#[clV y.1 y.2.1 y.2.2],rfl,hB,heap_alloc_new w _,Nat.le_refl _,by unfold maxLen;omega,rfl,rfl⟩⟩
theorem OwnC.slice {B:Nat} {v:Value} {A:List (Nat × Nat × Nat)} (h:OwnC w B v A):∃ a c,v=.slice a A.length c:=by
 rcases h.2 with ⟨e,h0⟩ | ⟨g,cap,cur,e,_⟩
 ·exact ⟨none,0,by rw [e,h0]⟩
 ·exact ⟨_,_,e⟩
open Go.RowKit Wf
section
variable {L:List Wt.Nd} {bb off cap:Nat} {own:Int} {nm:List ByteArray} {av2:Option Addr} {cap2 k:Nat} {w0:World} {lv0:Value} {w:World} {Lc:List I} {lv:Value} {P:List (Wc.In × Value)} {kv:Value} {ks:List Nat}
theorem YSt.spot (h:YSt L bb off cap own nm av2 cap2 k w0 lv0 w Lc lv P kv ks) {X R:List I} {x:I} (hX:Lc=X++x::R) {i j M:Nat} (hi:i=X.length) (hM:Lc.length=M) (hj:j=1 \/ j=2):∃ (g gc:Nat) (u:Int),w.cell? ⟨k,3,none⟩=some (.slice (some ⟨g,0,none⟩) M gc)/\g ≠ k/\w.frozen? ⟨g,i * 23+j,none⟩=false/\w.cell? ⟨g,i * 23+j,none⟩=some (.int .i64 u)/\0<=(i:Int)/\(i:Int)<(M:Int)/\∀ (v:Int) (y:Wc.In),(∀ tv,(zAD x.1 tv).set j (.int .i64 v)=zAD y tv)->∃ P',YSt L bb off cap own nm av2 cap2 k w0 lv0 (w.setCell ⟨g,i * 23+j,none⟩ (.int .i64 v)) (X++(y,x.2)::R) lv P' kv ks:=by
 subst hX hi hM;have hlt:X.length<(X++x::R).length:=by simp
 have hget:(X++x::R)[X.length]=x:=by simp
 obtain ⟨g,gc,hlv,cl,hgk⟩:=h.list (Nat.zero_lt_of_lt hlt);have cc:World.ownsRow w (k+1) 56 23 (.slice (some ⟨g,0,none⟩) P.length gc) P.length (zAc P):=by
  have h9:=h.ys.own;rw [hlv,<-h.ys.len] at h9;exact h9
 have hPi:X.length<P.length:=by rw [h.ys.len];exact hlt
 refine ⟨g,gc,if j=1 then (P[X.length]).1.a else (P[X.length]).1.b,cl,hgk,cc.frozenAt _,?_,Int.natCast_nonneg _,by omega,λv y hy=>?_⟩
 ·rcases hj with rfl | rfl
  ·have c9:=cc.cellAt (X.length * 23+1) (by omega);rw [zBG P X.length hPi 1 (.int .i64 (P[X.length]).1.a) rfl] at c9;exact c9
  ·have c9:=cc.cellAt (X.length * 23+2) (by omega);rw [zBG P X.length hPi 2 (.int .i64 (P[X.length]).1.b) rfl] at c9;exact c9
 ·have h5:=h.patch (j:=j) hlv hlt (by rcases hj with rfl | rfl <;> decide) v y (λtv=>by rw [hget];exact hy tv);rw [hget,zAm X _ _ R X.length rfl] at h5;exact ⟨_,h5⟩
end
open Go.RowKit
theorem zOd (v:Wt.Vl):(vl6 v).toArray.all (·.oneCell')=true:=by simp [vl6,Value.oneCell']
theorem zFG (n d:Int) (w:World) (h1:-9223372036854775808<=n) (h2:n<=9223372036854775807) (h3:-9223372036854775808<=d) (h4:d<=9223372036854775807) :
  CR 89 #[.agg #[.int .i64 n,.int .i64 d]] w (.agg (vl6 (zLh n d)).toArray):=by
 have C:=λw=>zOL n d w h1 h2 h3 h4
 unfold zLh;generalize Wnum.cN n d=cn at *;generalize Wnum.cD n d=cd at *;have pA:=(AtL.new0 w 29 [.int .i64 n,.int .i64 d]).alloc (.cells zV0 31);have pZ:AtL ((w.alloc (.cells #[.int .i64 n,.int .i64 d] 29)).alloc (.cells zV0 31)) (w.heap.size+1) [.int .i64 0,.int .i64 0,.int .i64 0,.string ⟨#[]⟩,.bool false,.int .i64 0]:=AtL.new _ _ (by simp) _;have hB:=zAM (zAM (Below.refl _ w) (.cells #[.int .i64 n,.int .i64 d] 29)) (.cells zV0 31);go_enter func89,ntmps89;go_upto_region 1 with fail
 generalize (w.alloc (.cells #[.int .i64 n,.int .i64 d] 29)).alloc (.cells zV0 31)=W at *;have c0:=pA.2.1 0 _ rfl;have c1:=pA.2.1 1 _ rfl;go_wp2_with fail
 refine (C _).mono ?_;rintro e w1 ⟨rfl,hb⟩;have pZ2:=AtL.below hb pZ;have hB2:=zAB hB hb;have tR:w1.there (w.heap.size+1) 0 (vl6 ⟨1,cn,cd,⟨#[]⟩,false,0⟩).toArray.size:=pZ2.there;clear c0 c1 pA pZ hB hb;go_wp2_with ((with_reducible refine wpList_store_mid ?_ 31 (.tmp 2) (.tmp 5) ?_ (w.heap.size+1) 0 (vl6 ⟨1,cn,cd,⟨#[]⟩,false,0⟩).toArray ?_ ?_ ?_ ?_ ?_ ?_);rfl;rfl;rfl;rfl;exact tR;kernel_rfl;exact zOd _)
 have rR2:=AtL.setAll pZ2 (vs:=vl6 ⟨1,cn,cd,⟨#[]⟩,false,0⟩) rfl;refine bodyPost_ret (zAq (by rfl) _ _ (w.heap.size+1) (vl6 ⟨1,cn,cd,⟨#[]⟩,false,0⟩) _ (by rfl) rR2.range underlying31 rfl (by kernel_rfl)) rfl ⟨rfl,zAv hB2 (by omega) _ 0⟩
theorem zGR (b:Bool) (w:World):CR 133 #[.bool b] w (.agg (vl6 (⟨3,0,0,⟨#[]⟩,b,0⟩)).toArray):=by
 go_enter func133,ntmps133;go_wp2;refine bodyPost_ret (v:=.agg (vl6 (⟨3,0,0,⟨#[]⟩,b,0⟩)).toArray) (by simp [results,results133,go_sem,vl6]) rfl ⟨rfl,?_⟩;exact clA
