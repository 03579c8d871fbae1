/- KSrch. -/
import Derived.Test.YtedifblompcdkaaGreatDoorQ22
set_option maxHeartbeats 3200000
set_option maxRecDepth 100000
namespace Go.Proofs.YtedifblompcdkaaGreatDoor
open Tryz
open Go.RowKit Wf
set_option linter.unusedVariables false
variable {ops:Array Oper} {rest:List Oper} {op:Oper} {a:Act} {w:World} {Q:Exit->Act->World->Prop}
theorem zGI (hgd:op.guard=none) (y:Operand) (ho:op.op=.build 67 #[(0,.const (.int .i64 8)),(5,y)]) (ar:Wpl.Ar) (hy:a.eval y=.agg (ar5 ar).toArray)
  (h:wpList prog ops Q rest (a.put op.dst (.agg (zAM (zCI 8 0 ar a0I).1 zAV).toArray)) w):wpList prog ops Q (op::rest) a w:=by
 refine wpList_plain hgd λK hK=>?_
 unfold Oper.wp execOp;have hv:a.eval (.const (.int .i64 8))=.int .i64 8:=rfl;simp only [ho,List.map_toArray,List.map_cons,List.map_nil,hv,hy,Sem.run_bind,Sem.run_pure,Result.andThen_ok,zRW];exact hK _ _ h
theorem zGZ (hgd:op.guard=none) (y z:Operand) (ho:op.op=.build 67 #[(0,.const (.int .i64 9)),(5,y),(6,z)]) (ar br:Wpl.Ar) (hy:a.eval y=.agg (ar5 ar).toArray) (hz:a.eval z=.agg (ar5 br).toArray)
  (h:wpList prog ops Q rest (a.put op.dst (.agg (zAM (zCI 9 0 ar br).1 zAV).toArray)) w):wpList prog ops Q (op::rest) a w:=by
 refine wpList_plain hgd λK hK=>?_
 unfold Oper.wp execOp;have hv:a.eval (.const (.int .i64 9))=.int .i64 9:=rfl;simp only [ho,List.map_toArray,List.map_cons,List.map_nil,hv,hy,hz,Sem.run_bind,Sem.run_pure,Result.andThen_ok,zRt];exact hK _ _ h
theorem zFu (hgd:op.guard=none) (y z:Operand) (ho:op.op=.build 67 #[(0,.const (.int .i64 11)),(5,y),(2,z)]) (ar:Wpl.Ar) (b:Int) (hy:a.eval y=.agg (ar5 ar).toArray) (hz:a.eval z=.int .i64 b)
  (h:wpList prog ops Q rest (a.put op.dst (.agg (zAM (zCI 11 b ar a0I).1 zAV).toArray)) w):wpList prog ops Q (op::rest) a w:=by
 refine wpList_plain hgd λK hK=>?_
 unfold Oper.wp execOp;have hv:a.eval (.const (.int .i64 11))=.int .i64 11:=rfl;simp only [ho,List.map_toArray,List.map_cons,List.map_nil,hv,hy,hz,Sem.run_bind,Sem.run_pure,Result.andThen_ok,zRn];exact hK _ _ h
section
variable (own:Int) (nm:List ByteArray) (av2:Option Addr) (m2 cap2:Nat)
def zFp (n:Nat) (id:Int) (fa la:Wpl.Ar) (l:List (Tr n)) (a:Nat):List I:=ins 6 id 0::(zA1 (zAx (cod own nm n)) l (a+1)++[if Wc.pairs id then zCI 9 0 fa la else zCI 8 0 fa a0I,ins 10 0 0])
def SrC (n:Nat):Prop:=∀ (id:Int) (fa la:Wpl.Ar) (ps:List (Tr n × Value)) (av:Option Addr) (m cap lo hi k B:Nat) (T:Nat->Nat) (w:World) (L:List I) (lv:Value) (P:List (Wc.In × Value)),m=ps.length->ps.length<=30->(∀ p ∈ ps,Wr own nm n p.1)->(∀ p ∈ ps,PA n lo hi w p.1 p.2)->RdQ w av (ps.map λp=>(hd n p.1,p.2))->(∀ bb off,av=some ⟨bb,off,none⟩->∀ j,lv.ownBlock=some j->bb ≠ j)->(∀ bb off,av=some ⟨bb,off,none⟩->bb ≠ k/\bb<w.heap.size)->En own nm av2 m2 cap2 k B T hi w->WS k B T w (.int .i64 own) (.slice av2 m2 cap2) L lv P->L.length+(zFp own nm n id fa la (ps.map (·.1)) L.length).length<=900000 ->
 Calls prog 183 #[.pointer (some ⟨k,0,none⟩),.int .i64 id,.agg (ar5 fa).toArray,.agg (ar5 la).toArray,.slice av m cap] w (WP k B T (.int .i64 own) (.slice av2 m2 cap2) (L++zFp own nm n id fa la (ps.map (·.1)) L.length) lv w)
end
theorem zIU (own:Int) (nm:List ByteArray) (av2:Option Addr) (m2 cap2 n:Nat) (ih:PtC own nm av2 m2 cap2 n):SrC own nm av2 m2 cap2 n:=by
 intro id fa la ps av m cap lo hi k B T w L lv P hm hl hwp hpap hrd hav havk hen hws hbd;have fd:=zIZ own nm av2 m2 cap2 n ih;have h0B:∀ j,lv.ownBlock=some j->B<=j/\j<w.heap.size:=λj e=>zAL hws.own e
 obtain ⟨sc,hsc⟩:∃ sc,(if Wc.pairs id then zCI 9 0 fa la else zCI 8 0 fa a0I)=sc:=⟨_,rfl⟩
 have hLF:L++zFp own nm n id fa la (ps.map (·.1)) L.length=(((L++[ins 6 id 0])++zA1 (zAx (cod own nm n)) (ps.map (·.1)) (L.length+1))++[sc])++[ins 10 0 0]:=by simp [zFp,hsc]
 have hbd2:L.length+3+(zA1 (zAx (cod own nm n)) (ps.map (·.1)) (L.length+1)).length<=900000:=by
  simp only [zFp,List.length_cons,List.length_append,List.length_nil] at hbd;omega
 rw [hLF];have hb0:=zAH (zAH (Below.refl _ w) (.cells (ar5 fa).toArray 64)) (.cells (ar5 la).toArray 64);have pF:=(AtL.new0 w 64 (ar5 fa)).alloc (.cells (ar5 la).toArray 64);have pL:=AtL.new1 w (.cells (ar5 fa).toArray 64) 64 (ar5 la);have st0:=St.init (hen.below hb0) (hws.below hb0);have HST0:Hid (St own nm av2 m2 cap2 k B T hi ((w.alloc (.cells (ar5 fa).toArray 64)).alloc (.cells (ar5 la).toArray 64)) lv ((w.alloc (.cells (ar5 fa).toArray 64)).alloc (.cells (ar5 la).toArray 64)) L lv P):=st0;have HFL:Hid (AtL ((w.alloc (.cells (ar5 fa).toArray 64)).alloc (.cells (ar5 la).toArray 64)) w.heap.size (ar5 fa)/\AtL ((w.alloc (.cells (ar5 fa).toArray 64)).alloc (.cells (ar5 la).toArray 64)) (w.heap.size+1) (ar5 la)):=⟨pF,pL⟩
 have HM:Hid (m=ps.length/\ps.length<=30):=⟨hm,hl⟩
 have HWP:Hid (∀ p ∈ ps,Wr own nm n p.1):=hwp;have HPA:Hid (∀ p ∈ ps,PA n lo hi ((w.alloc (.cells (ar5 fa).toArray 64)).alloc (.cells (ar5 la).toArray 64)) p.1 p.2):=λp hp=>PA.kept (Kept.of_below hb0) n _ _ (hpap p hp)
 have HRD:Hid (RdQ ((w.alloc (.cells (ar5 fa).toArray 64)).alloc (.cells (ar5 la).toArray 64)) av (ps.map λp=>(hd n p.1,p.2))):=hrd.below hb0;have HAV:Hid (∀ bb off,av=some ⟨bb,off,none⟩->bb ∉ k::lv.ownBlock.toList):=λbb off e hmm=>by
  rcases List.mem_cons.1 hmm with q | q
  ·exact (havk bb off e).1 q
  ·exact hav bb off e bb (by simpa using q) rfl
 have HK:Hid (hi<=k/\k<B/\(∀ j,lv.ownBlock=some j->B<=j)/\w.heap.size ∉ k::lv.ownBlock.toList/\w.heap.size+1 ∉ k::lv.ownBlock.toList):=⟨hen.hk,hen.kB,λj e=>(h0B j e).1,λhmm=>by
  have:=hen.kB;have:=hen.hB;rcases List.mem_cons.1 hmm with q | q
  ·omega
  ·have:=(h0B w.heap.size (by simpa using q)).2;omega,λhmm=>by
  have:=hen.kB;have:=hen.hB;rcases List.mem_cons.1 hmm with q | q
  ·omega
  ·have:=(h0B (w.heap.size+1) (by simpa using q)).2;omega⟩
 have HFD:Hid (FdC own nm av2 m2 cap2 n):=fd;have HBD:Hid (L.length+3+(zA1 (zAx (cod own nm n)) (ps.map (·.1)) (L.length+1)).length<=900000):=hbd2;have HB0:Hid (Below w.heap.size w ((w.alloc (.cells (ar5 fa).toArray 64)).alloc (.cells (ar5 la).toArray 64))):=hb0;have PR:=λW=>zDo id W
 have HSC:Hid ((if Wc.pairs id then zCI 9 0 fa la else zCI 8 0 fa a0I)=sc):=hsc;clear hm hl hwp hpap hrd hav havk hen hws hbd ih fd h0B hLF hbd2 hb0 pF pL st0 hsc;go_enter func183,ntmps183;go_upto_region 1 with fail
 generalize ((w.alloc (.cells (ar5 fa).toArray 64)).alloc (.cells (ar5 la).toArray 64))=W at *;have LA:=zAs k B T (ins 6 id 0).1 _ _ L lv P W HST0.out.ws HST0.out.en.kB HST0.out.en.hB (by have:=HBD.out;omega);go_wp2_with (first | (refine zB1 rfl 6 (.tmp 13) rfl id rfl ?_))
 refine LA.mono ?_;rintro e w1 ⟨⟨lv1,P1,rfl,ws1,nx1⟩,fr1⟩;have HST1:Hid (St own nm av2 m2 cap2 k B T hi W lv w1 (L++[ins 6 id 0]) lv1 P1):=HST0.out.step fr1 nx1 ws1;clear LA ws1 nx1 fr1 HST0;go_wp2_with fail
 go_loopg [11,18] m (λgk u x wr=>∃ (i:Nat),x=.int .i64 (i:Int)/\gk=m - i/\i<=m/\Hid (∃ lvi Pi,St own nm av2 m2 cap2 k B T hi W lv wr ((L++[ins 6 id 0])++zA1 (zAx (cod own nm n)) ((ps.map (·.1)).take i) (L.length+1)) lvi Pi))
 case atStart=>exact ⟨0,rfl,rfl,Nat.zero_le _,⟨lv1,P1,by simpa [zA1] using HST1.out⟩⟩
 case round =>
  clear HST1;obtain ⟨i,rfl,hg,him,HS⟩:=hrel;by_cases hlt:i<m
  ·have hli:(i:Int)<(m:Int):=by omega
   have hiz:(0:Int)<=(i:Int):=by omega
   have hwi:IntKind.i64.wrap ((i:Int)+1)=(i:Int)+1:=by have:=HM.out;rw [IntKind.wrap_i64];omega
   have hln:i<ps.length:=by have:=HM.out;omega
   obtain ⟨lvi,Pi,st⟩:=HS.out;obtain ⟨bb,off,rfl,hr0⟩:=HRD.out i (by simpa using hln);simp only [List.getElem_map] at hr0;have hr:=st.fr.range hr0 (HAV.out bb off rfl);have hpi:=List.getElem_mem hln;have hpa:=PA.kept (st.kept HK.out.2.2.1) n _ _ (HPA.out _ hpi);obtain ⟨sa,sb,sc2,hsl⟩:=hpa.slice;have hstep:=zDP (zAx (cod own nm n)) (ps.map (·.1)) i (by simpa using hln) (L.length+1);have hle:=zGP (zAx (cod own nm n)) (ps.map (·.1)) (i+1) (L.length+1);rw [hstep,List.length_append,List.getElem_map] at hle;rw [List.getElem_map] at hstep;obtain ⟨Li,hLi⟩:∃ Li,(L++[ins 6 id 0])++zA1 (zAx (cod own nm n)) ((ps.map (·.1)).take i) (L.length+1)=Li:=⟨_,rfl⟩
   have hLl:L.length+1+(zA1 (zAx (cod own nm n)) ((ps.map (·.1)).take i) (L.length+1)).length=Li.length:=by rw [<-hLi];simp;omega
   have HST:Hid ((L++[ins 6 id 0])++zA1 (zAx (cod own nm n)) ((ps.map (·.1)).take (i+1)) (L.length+1)=Li++zAx (cod own nm n) (ps[i]).1 Li.length):=by show _=_;rw [hstep,<-List.append_assoc,hLi,hLl]
   rw [hLl] at hle;rw [hLi] at st;have FE0:=λ(W2:World) (hb:Below wr.heap.size wr W2)=>HFD.out (ps[i]).1 (ps[i]).2 lo hi k B T W2 Li lvi Pi (HWP.out _ hpi) (PA.kept (Kept.of_below hb) n _ _ hpa) (st.en.below hb) (st.ws.below hb) (by have:=HBD.out;omega)
   rw [hsl] at hr FE0;generalize zAx (cod own nm n) (ps[i]).1 Li.length=ac at *;generalize hd n (ps[i]).1=y at *;have HSI:Hid (St own nm av2 m2 cap2 k B T hi W lv wr Li lvi Pi):=st;clear hstep hle hsl hpa hr0 hpi hln st HS hLi hLl;have hth:World.there (wr.alloc (.cells zeros21 188)) wr.heap.size 0 (zAI y (.slice sa sb sc2)).toArray.size:=(AtL.new0 wr _ _:AtL (wr.alloc (.cells zeros21 188)) wr.heap.size zeros21.toList).there;have HPI:Hid (AtL ((wr.alloc (.cells zeros21 188)).setCells wr.heap.size 0 (zAI y (.slice sa sb sc2))) wr.heap.size (zAI y (.slice sa sb sc2))):=(AtL.new0 wr _ _:AtL (wr.alloc (.cells zeros21 188)) wr.heap.size zeros21.toList).setAll rfl;have hHB:Below wr.heap.size wr ((wr.alloc (.cells zeros21 188)).setCells wr.heap.size 0 (zAI y (.slice sa sb sc2))):=zBJ (zAH (Below.refl _ wr) _) (Nat.le_refl _) _ 0;have FE:=FE0 _ hHB;have HHB:Hid (Below wr.heap.size wr ((wr.alloc (.cells zeros21 188)).setCells wr.heap.size 0 (zAI y (.slice sa sb sc2)))):=hHB;clear FE0 hHB;go_upto_region 5 with (first | (refine zAB (by rfl) 188 (.tmp 20) rfl bb (off+i * 21) rfl (zAI y (.slice sa sb sc2)) _ hr underlying188 rfl (by kernel_rfl) ?_) | ((with_reducible refine wpList_store_mid ?_ 188 (.tmp 11) (.tmp 21) ?_ wr.heap.size 0 (zAI y (.slice sa sb sc2)).toArray ?_ ?_ ?_ ?_ ?_ ?_);rfl;rfl;rfl;rfl;exact hth;kernel_rfl;exact zAn _ _ _ _))
   clear hth hr;generalize ((wr.alloc (.cells zeros21 188)).setCells wr.heap.size 0 (zAI y (.slice sa sb sc2)))=W2 at *;have rI:=HPI.out.range;go_wp2_with (first | (refine zAB (by rfl) 188 (.tmp 11) rfl wr.heap.size 0 rfl (zAI y (.slice sa sb sc2)) _ rI underlying188 rfl (by kernel_rfl) ?_))
   refine FE.mono ?_;rintro e w4 ⟨⟨lv4,P4,rfl,ws4,nx4⟩,fr4⟩;have HS6:Hid (∃ lvi Pi,St own nm av2 m2 cap2 k B T hi W lv w4 ((L++[ins 6 id 0])++zA1 (zAx (cod own nm n)) ((ps.map (·.1)).take (i+1)) (L.length+1)) lvi Pi):=⟨lv4,P4,by rw [HST.out];exact (HSI.out.below HHB.out).step fr4 nx4 ws4⟩
   clear FE rI ws4 nx4 fr4 HHB HPI HSI HST;go_wp2_with fail
   go_roundg (m - (i+1))
   case rel=>exact ⟨i+1,by simp,rfl,hlt,HS6⟩
   case measure=>omega
  ·have hli:¬ (i:Int)<(m:Int):=by omega
   have HS2:Hid (∃ lvi Pi,St own nm av2 m2 cap2 k B T hi W lv wr ((L++[ins 6 id 0])++zA1 (zAx (cod own nm n)) (ps.map (·.1)) (L.length+1)) lvi Pi):=by
    have hie:(ps.map (·.1)).length<=i:=by have:=HM.out;simp;omega
    have:=HS.out;rw [List.take_of_length_le hie] at this;exact this
   obtain ⟨lvi,Pi,st⟩:=HS2.out;have HLL:Hid (((L++[ins 6 id 0])++zA1 (zAx (cod own nm n)) (ps.map (·.1)) (L.length+1)).length<=900000):=by have:=HBD.out;show _<=_;simp only [List.length_append,List.length_cons,List.length_nil];omega
   obtain ⟨Lw,hLw⟩:∃ Lw,(L++[ins 6 id 0])++zA1 (zAx (cod own nm n)) (ps.map (·.1)) (L.length+1)=Lw:=⟨_,rfl⟩
   rw [hLw] at HLL st;have HLW:Hid ((L++[ins 6 id 0])++zA1 (zAx (cod own nm n)) (ps.map (·.1)) (L.length+1)=Lw):=hLw;clear hLw;have HSI:Hid (St own nm av2 m2 cap2 k B T hi W lv wr Lw lvi Pi):=st;have a1:=(HFL.out.1.fr st.fr HK.out.2.2.2.1)
   have a2:=(HFL.out.2.fr st.fr HK.out.2.2.2.2)
   obtain ⟨f0,f1,f2,f3,f4,_,_,_,_,_⟩:=a1.five;obtain ⟨g0,g1,g2,g3,g4,_,_,_,_,_⟩:=a2.five;clear HS HS2 st a1 a2;have PW:=PR wr;cases hp:Wc.pairs id with
   | true =>
    rw [hp] at PW;have HSC2:Hid (zCI 9 0 fa la=sc):=by have:=HSC.out;rw [hp] at this;exact this
    have LB:=zAs k B T (zCI 9 0 fa la).1 _ _ Lw lvi Pi wr HSI.out.ws HSI.out.en.kB HSI.out.en.hB (by have:=HLL.out;omega);go_wp2_with fail
    refine PW.mono ?_;rintro e w2 ⟨rfl,rfl⟩;go_wp2_with (first | (refine zGZ rfl (.tmp 29) (.tmp 30) rfl fa la rfl rfl ?_))
    refine LB.mono ?_;rintro e w5 ⟨⟨lv5,P5,rfl,ws5,nx5⟩,fr5⟩;have HS5:Hid (St own nm av2 m2 cap2 k B T hi W lv w5 (Lw++[sc]) lv5 P5):=by
     have:=HSI.out.step fr5 nx5 ws5;rw [<-HSC2.out];exact this
    have LA:=zAs k B T (ins 10 0 0).1 _ _ _ lv5 P5 w5 HS5.out.ws HS5.out.en.kB HS5.out.en.hB (by have:=HLL.out;simp only [List.length_append,List.length_cons,List.length_nil];omega);clear LB ws5 nx5 fr5 f0 f1 f2 f3 f4 g0 g1 g2 g3 g4 PW PR;go_wp2_with (first | (refine zAb rfl 10 rfl ?_))
    refine LA.mono ?_;rintro e w6 ⟨⟨lv6,P6,rfl,ws6,nx6⟩,fr6⟩;have HR:Hid (WP k B T (.int .i64 own) (.slice av2 m2 cap2) ((Lw++[sc])++[ins 10 0 0]) lv w (.returned (.tuple #[])) w6):=((HS5.out.step fr6 nx6 ws6).wp).from HB0.out
    clear LA ws6 nx6 fr6 HS5 HSI;go_wp2;go_end0
    have hr:=HR.out;rw [<-HLW.out] at hr;exact hr
   | false =>
    rw [hp] at PW;have HSC2:Hid (zCI 8 0 fa a0I=sc):=by have:=HSC.out;rw [hp] at this;exact this
    have LB:=zAs k B T (zCI 8 0 fa a0I).1 _ _ Lw lvi Pi wr HSI.out.ws HSI.out.en.kB HSI.out.en.hB (by have:=HLL.out;omega);go_wp2_with fail
    refine PW.mono ?_;rintro e w2 ⟨rfl,rfl⟩;go_wp2_with (first | (refine zGI rfl (.tmp 34) rfl fa rfl ?_))
    refine LB.mono ?_;rintro e w5 ⟨⟨lv5,P5,rfl,ws5,nx5⟩,fr5⟩;have HS5:Hid (St own nm av2 m2 cap2 k B T hi W lv w5 (Lw++[sc]) lv5 P5):=by
     have:=HSI.out.step fr5 nx5 ws5;rw [<-HSC2.out];exact this
    have LA:=zAs k B T (ins 10 0 0).1 _ _ _ lv5 P5 w5 HS5.out.ws HS5.out.en.kB HS5.out.en.hB (by have:=HLL.out;simp only [List.length_append,List.length_cons,List.length_nil];omega);clear LB ws5 nx5 fr5 f0 f1 f2 f3 f4 g0 g1 g2 g3 g4 PW PR;go_wp2_with (first | (refine zAb rfl 10 rfl ?_))
    refine LA.mono ?_;rintro e w6 ⟨⟨lv6,P6,rfl,ws6,nx6⟩,fr6⟩;have HR:Hid (WP k B T (.int .i64 own) (.slice av2 m2 cap2) ((Lw++[sc])++[ins 10 0 0]) lv w (.returned (.tuple #[])) w6):=((HS5.out.step fr6 nx6 ws6).wp).from HB0.out
    clear LA ws6 nx6 fr6 HS5 HSI;go_wp2;go_end0
    have hr:=HR.out;rw [<-HLW.out] at hr;exact hr
