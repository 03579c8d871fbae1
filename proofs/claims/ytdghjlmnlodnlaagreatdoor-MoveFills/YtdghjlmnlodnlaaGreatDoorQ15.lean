/- TBrack, TBuild, TSigned, TSingle, TPct. -/
import Derived.Test.YtdghjlmnlodnlaaGreatDoorQ14
set_option maxHeartbeats 8000000
set_option maxRecDepth 100000
namespace Go.Proofs.YtdghjlmnlodnlaaGreatDoor
open Tryz
open Go.RowKit Go.Shelf
set_option linter.unusedVariables false
variable {w:World} {op:Oper} {a:Act} {Q:Exit->Act->World->Prop} {b n:Nat} {K:Act->World->Prop} {G:Nat->Prop} {x z:Wt.Nd} {sl:Value} {row:List Wt.Nd}
def zEI (kp:Nat) (en:Int) (sub:List Wlx.TV->PR) (n:Nat):Prop :=
 ∀ (ts:List Wlx.TV) (w:World),PSt w kp ts en->ts.length<=n->ts.length<=1024->(∀ t ∈ ts,zAP t)->Env w->Calls prog 55 #[.pointer (some ⟨kp,0,none⟩)] w λe w'=>zAN kp en (sub ts) w e w'
theorem zF1 (kp:Nat) (en:Int) (sub:List Wlx.TV->PR) (n:Nat) (HF:zEI kp en sub n) (hsub:∀ ts row r,sub ts=.inl (row,r)->r <:+ ts) (ts:List Wlx.TV) (w:World) (h:PSt w kp ts en) (hn:ts.length<=n+1) (hts:ts.length<=1024) (hok:∀ t ∈ ts,zAP t) (hE:Env w) (hk8:8<=kp) :
  Calls prog 178 #[.pointer (some ⟨kp,0,none⟩)] w λe w'=>zAN kp en (zB3 sub en ts) w e w':=by
 have hB0:=zAI (Below.refl _ w) (.cells zP0 78);have pZ:AtL (w.alloc (.cells zP0 78)) w.heap.size (zAH (bare 0) (.slice none 0 0)):=AtL.new0 w _ _;have h0:=h.below hB0;have hE0:=hE.below hB0;have hkp:=h.lt;have T1:=zAv kp ts en [40] _ h0 hts;unfold zB3;cases ht:tk ts [40] with
 | none =>
  rw [ht] at T1;simp only [zAN] at T1 ⊢;have M0:=λw h=>zAn kp ts en w h
  unfold zBj at M0 ⊢;go_enter func178,ntmps178;go_wp2_with fail
  generalize w.alloc (.cells zP0 78)=wa at *;refine T1.mono ?_;rintro e w1 ⟨rfl,h1,hg1⟩;have pZ1:=pZ.grown hg1 (by intro e;have:=Option.some.inj e;omega);have hG1:=zAB (zAC hB0 (some kp)) hg1;have hE1:=hE0.grown hg1 hk8;clear pZ h0 hB0 hE0 T1 hg1;go_wp2_with fail
  refine (M0 _ h1).mono ?_;rintro e w2 ⟨rfl,hb⟩;go_wp2;exact ⟨rfl,rfl,zAB hG1 (zAC hb (some kp))⟩
 | some r =>
  rw [ht] at T1;obtain ⟨hsuf,hlt⟩:=zBG ht;have hokr:∀ t ∈ r,zAP t:=λt h=>hok t (hsuf.subset h)
  simp only at T1 ⊢;cases hs:sub r with
  | inr q =>
   obtain ⟨c,p⟩:=q;simp only [zAN];go_enter func178,ntmps178;go_wp2_with fail
   generalize w.alloc (.cells zP0 78)=wa at *;refine T1.mono ?_;rintro e w1 ⟨rfl,h1,hg1⟩;have pZ1:=pZ.grown hg1 (by intro e;have:=Option.some.inj e;omega);have hG1:=zAB (zAC hB0 (some kp)) hg1;have hE1:=hE0.grown hg1 hk8;clear pZ h0 hB0 hE0 T1 hg1;go_wp2_with fail
   refine (zA6 kp _).mono ?_;rintro e w2 ⟨rfl,rfl⟩;go_wp2_with fail
   refine (HF r w1 h1 (by omega) (by omega) hokr hE1).mono ?_;rintro e w2 hc;rw [hs] at hc;simp only [zAN] at hc;obtain ⟨rfl,hg⟩:=hc;unfold zBj;go_wp2;exact ⟨rfl,rfl,zAB hG1 hg⟩
  | inl q =>
   obtain ⟨row,r2⟩:=q;have hl2:=(hsub _ _ _ hs).length_le;simp only;cases ht2:tk r2 [41] with
   | none =>
    simp only [zAN];have M0:=λw h=>zAn kp r2 en w h
    unfold zBj at M0 ⊢;go_enter func178,ntmps178;go_wp2_with fail
    generalize w.alloc (.cells zP0 78)=wa at *;refine T1.mono ?_;rintro e w1 ⟨rfl,h1,hg1⟩;have pZ1:=pZ.grown hg1 (by intro e;have:=Option.some.inj e;omega);have hG1:=zAB (zAC hB0 (some kp)) hg1;have hE1:=hE0.grown hg1 hk8;clear pZ h0 hB0 hE0 T1 hg1;go_wp2_with fail
    refine (zA6 kp _).mono ?_;rintro e w2 ⟨rfl,rfl⟩;go_wp2_with fail
    refine (HF r w1 h1 (by omega) (by omega) hokr hE1).mono ?_;rintro e w2 hc;rw [hs] at hc;simp only [zAN] at hc;obtain ⟨v,rfl,hP,h2,hg2⟩:=hc;have hsz1:w.heap.size<w1.heap.size:=pZ1.lt;have pZ2:=pZ1.grown hg2 (by intro e;have:=Option.some.inj e;omega);have hG2:=zAB hG1 hg2;obtain ⟨nn,x,sl,rfl,hp⟩:=hP;obtain ⟨av,len,cap,rfl⟩:=hp.one;clear pZ1 hG1 hE1 h1;unfold ptV;have pX0:AtL (w2.alloc (.cells zP0 78)) w2.heap.size (zAH (bare 0) (.slice none 0 0)):=AtL.new0 w2 _ _;have hthX:World.there (w2.alloc (.cells zP0 78)) w2.heap.size 0 (zAH x (.slice av len cap)).toArray.size:=pX0.there;go_upto_region 3 with ((with_reducible refine wpList_store_mid ?_ 78 (.tmp 3) (.tmp 9) ?_ (w2.heap.size) 0 (zAH x (.slice av len cap)).toArray ?_ ?_ ?_ ?_ ?_ ?_);rfl;rfl;rfl;rfl;exact hthX;kernel_rfl;exact zAr _ _ rfl)
    have hbX:=zAu (zAI (Below.refl _ w2) (.cells zP0 78)) (Nat.le_refl w2.heap.size) (zAH x (.slice av len cap)) 0;have pX:AtL ((w2.alloc (.cells zP0 78)).setCells w2.heap.size 0 (zAH x (.slice av len cap))) w2.heap.size (zAH x (.slice av len cap)):=pX0.setAll rfl;have pZ3:=AtL.below hbX pZ2;have h3:=h2.below hbX;have hG3:=zAB hG2 (zAC hbX (some kp));have hP3:=Pt.below (v:=ptV x (.slice av len cap)) ⟨nn,x,_,rfl,hp⟩ hbX;have hkx:kp<w2.heap.size:=h2.lt;have hzx:=pZ2.lt;clear pX0 hthX hbX pZ2 h2 hG2 hp;generalize (w2.alloc (.cells zP0 78)).setCells w2.heap.size 0 (zAH x (.slice av len cap))=w3 at *;generalize w2.heap.size=kx at *;have T2:=zAv kp r2 en [41] w3 h3 (by omega);rw [ht2] at T2;simp only at T2;go_wp2_with fail
    refine T2.mono ?_;rintro e w4 ⟨rfl,h4,hg4⟩;have pX4:=pX.grown hg4 (by intro e;have:=Option.some.inj e;omega);have pZ4:=pZ3.grown hg4 (by intro e;have:=Option.some.inj e;omega);have hP4:=Pt.grown hP3 hg4 (by omega);have hG4:=zAB hG3 hg4;clear pX pZ3 h3 hP3 hG3 T2 hg4;go_wp2_with fail
    refine (M0 _ h4).mono ?_;rintro e w5 ⟨rfl,hb⟩;go_wp2;exact ⟨rfl,rfl,zAB hG4 (zAC hb (some kp))⟩
   | some r3 =>
    simp only [zAN];go_enter func178,ntmps178;go_wp2_with fail
    generalize w.alloc (.cells zP0 78)=wa at *;refine T1.mono ?_;rintro e w1 ⟨rfl,h1,hg1⟩;have pZ1:=pZ.grown hg1 (by intro e;have:=Option.some.inj e;omega);have hG1:=zAB (zAC hB0 (some kp)) hg1;have hE1:=hE0.grown hg1 hk8;clear pZ h0 hB0 hE0 T1 hg1;go_wp2_with fail
    refine (zA6 kp _).mono ?_;rintro e w2 ⟨rfl,rfl⟩;go_wp2_with fail
    refine (HF r w1 h1 (by omega) (by omega) hokr hE1).mono ?_;rintro e w2 hc;rw [hs] at hc;simp only [zAN] at hc;obtain ⟨v,rfl,hP,h2,hg2⟩:=hc;have hsz1:w.heap.size<w1.heap.size:=pZ1.lt;have pZ2:=pZ1.grown hg2 (by intro e;have:=Option.some.inj e;omega);have hG2:=zAB hG1 hg2;obtain ⟨nn,x,sl,rfl,hp⟩:=hP;obtain ⟨av,len,cap,rfl⟩:=hp.one;clear pZ1 hG1 hE1 h1;unfold ptV;have pX0:AtL (w2.alloc (.cells zP0 78)) w2.heap.size (zAH (bare 0) (.slice none 0 0)):=AtL.new0 w2 _ _;have hthX:World.there (w2.alloc (.cells zP0 78)) w2.heap.size 0 (zAH x (.slice av len cap)).toArray.size:=pX0.there;go_upto_region 3 with ((with_reducible refine wpList_store_mid ?_ 78 (.tmp 3) (.tmp 9) ?_ (w2.heap.size) 0 (zAH x (.slice av len cap)).toArray ?_ ?_ ?_ ?_ ?_ ?_);rfl;rfl;rfl;rfl;exact hthX;kernel_rfl;exact zAr _ _ rfl)
    have hbX:=zAu (zAI (Below.refl _ w2) (.cells zP0 78)) (Nat.le_refl w2.heap.size) (zAH x (.slice av len cap)) 0;have pX:AtL ((w2.alloc (.cells zP0 78)).setCells w2.heap.size 0 (zAH x (.slice av len cap))) w2.heap.size (zAH x (.slice av len cap)):=pX0.setAll rfl;have pZ3:=AtL.below hbX pZ2;have h3:=h2.below hbX;have hG3:=zAB hG2 (zAC hbX (some kp));have hP3:=Pt.below (v:=ptV x (.slice av len cap)) ⟨nn,x,_,rfl,hp⟩ hbX;have hkx:kp<w2.heap.size:=h2.lt;have hzx:=pZ2.lt;clear pX0 hthX hbX pZ2 h2 hG2 hp;generalize (w2.alloc (.cells zP0 78)).setCells w2.heap.size 0 (zAH x (.slice av len cap))=w3 at *;generalize w2.heap.size=kx at *;have T2:=zAv kp r2 en [41] w3 h3 (by omega);rw [ht2] at T2;simp only at T2;go_wp2_with fail
    refine T2.mono ?_;rintro e w4 ⟨rfl,h4,hg4⟩;have pX4:=pX.grown hg4 (by intro e;have:=Option.some.inj e;omega);have pZ4:=pZ3.grown hg4 (by intro e;have:=Option.some.inj e;omega);have hP4:=Pt.grown hP3 hg4 (by omega);have hG4:=zAB hG3 hg4;clear pX pZ3 h3 hP3 hG3 T2 hg4;go_wp2_with fail
    refine (zA6 kp _).mono ?_;rintro e w5 ⟨rfl,rfl⟩;have rX:=pX4.range;have hth:World.there w4 w.heap.size 0 (zAH x (.slice av len cap)).toArray.size:=pZ4.there;go_wp2_with (first | ((with_reducible refine wpList_load_mid (cs:=zAH x (.slice av len cap)) ?_ 78 (.tmp 3) ?_ kx 0 ?_ _ ?_ underlying78 ?_ ?_ ?_);rfl;rfl;rfl;exact rX;rfl;kernel_rfl) | ((with_reducible refine wpList_store_mid ?_ 78 (.tmp 2) (.tmp 14) ?_ (w.heap.size) 0 (zAH x (.slice av len cap)).toArray ?_ ?_ ?_ ?_ ?_ ?_);rfl;rfl;rfl;rfl;exact hth;kernel_rfl;exact zAr _ _ rfl))
    have pZ9:AtL (w4.setCells w.heap.size 0 (zAH x (.slice av len cap))) w.heap.size (zAH x (.slice av len cap)):=pZ4.setAll rfl;refine bodyPost_ret (zAF rfl _ _ w.heap.size (zAH x (.slice av len cap)) _ rfl pZ9.range underlying78 rfl (by kernel_rfl)) rfl ?_;exact ⟨_,rfl,(hP4.far (by omega) 0 _).mono (by omega),h4.farAll hkp _ 0,zAJ hG4 (Nat.le_refl _) _ 0⟩
theorem bs1 (x:Wt.Nd) (av:Option Addr) (len cap:Nat) (w:World):(Instr.buildSlice 76 1 #[(0,.agg (zAH x (.slice av len cap)).toArray)]).run prog w=.ok (.slice (some ⟨w.heap.size,0,none⟩) 1 1) (w.alloc (.cells (zAH x (.slice av len cap)).toArray 78)):=by kernel_rfl
theorem bs2 (x:Wt.Nd) (av:Option Addr) (len cap:Nat) (y:Wt.Nd) (bv:Option Addr) (ben bap:Nat) (w:World):(Instr.buildSlice 76 2 #[(0,.agg (zAH x (.slice av len cap)).toArray),(1,.agg (zAH y (.slice bv ben bap)).toArray)]).run prog w=.ok (.slice (some ⟨w.heap.size,0,none⟩) 2 2) (w.alloc (.cells (zAH x (.slice av len cap)++zAH y (.slice bv ben bap)).toArray 78)):=by kernel_rfl
theorem zNF (y:Operand) (ho:op.op=.buildSlice 76 1 #[(0,y)]) (x:Wt.Nd) (av:Option Addr) (len cap:Nat) (hy:a.eval y=.agg (zAH x (.slice av len cap)).toArray)
  (h:K (a.put op.dst (.slice (some ⟨w.heap.size,0,none⟩) 1 1)) (w.alloc (.cells (zAH x (.slice av len cap)).toArray 78))):op.wp prog a w K Q:=by
 unfold Oper.wp execOp;simp only [ho,List.map_toArray,List.map_cons,List.map_nil,hy,Sem.run_bind,Sem.run_pure,Result.andThen_ok,bs1];exact h
theorem zMn (y z:Operand) (ho:op.op=.buildSlice 76 2 #[(0,y),(1,z)]) (x:Wt.Nd) (av:Option Addr) (len cap:Nat) (u:Wt.Nd) (bv:Option Addr) (ben bap:Nat) (hy:a.eval y=.agg (zAH x (.slice av len cap)).toArray) (hz:a.eval z=.agg (zAH u (.slice bv ben bap)).toArray)
  (h:K (a.put op.dst (.slice (some ⟨w.heap.size,0,none⟩) 2 2)) (w.alloc (.cells (zAH x (.slice av len cap)++zAH u (.slice bv ben bap)).toArray 78))):op.wp prog a w K Q:=by
 unfold Oper.wp execOp;simp only [ho,List.map_toArray,List.map_cons,List.map_nil,hy,hz,Sem.run_bind,Sem.run_pure,Result.andThen_ok,bs2];exact h
theorem zCn {ops:Array Oper} {rest:List Oper} (hgd:op.guard=none) (y:Operand) (ho:op.op=.buildSlice 76 1 #[(0,y)]) (x:Wt.Nd) (av:Option Addr) (len cap:Nat) (hy:a.eval y=.agg (zAH x (.slice av len cap)).toArray)
  (h:wpList prog ops Q rest (a.put op.dst (.slice (some ⟨w.heap.size,0,none⟩) 1 1)) (w.alloc (.cells (zAH x (.slice av len cap)).toArray 78))):wpList prog ops Q (op::rest) a w :=
 wpList_plain hgd λ_ hK=>zNF y ho x av len cap hy (hK _ _ h)
theorem PtIs.inside {w:World} {G G':Nat->Prop} (hlo:∀ b,G b->b<w.heap.size->G' b):∀ (n:Nat) {x:Wt.Nd} {sl:Value} {row:List Wt.Nd},PtIs w G n x sl row->PtIs w G' n x sl row
 | 0,_,_,_,h=>h
 | n+1,x,sl,row,⟨av,cap,ps,rows,e,hl,hr,hp⟩=>⟨av,cap,ps,rows,e,hl,hr,λi h h'=>by
   obtain ⟨bb,e1,e2,e3,e4⟩:=hp i h h';exact ⟨bb,e1,hlo _ e2 (zDx e3),e3,PtIs.inside hlo n e4⟩⟩
theorem PtIs.un (h:PtIs w G n x sl row) (hb:G b) (hr:w.rangeAt b 0 (zAH x sl)):PtIs w G (n+1) z (.slice (some ⟨b,0,none⟩) 1 1) (z::row):=by
 refine ⟨some ⟨b,0,none⟩,1,[(x,sl)],[row],rfl,rfl,by simp,λi hi hi'=>?_⟩;obtain rfl:i=0:=by simp at hi;exact hi
 exact ⟨b,rfl,hb,hr,h⟩
theorem PtIs.bin {m:Nat} {y:Wt.Nd} {tl:Value} {rol:List Wt.Nd} (h:PtIs w G n x sl row) (h2:PtIs w G m y tl rol) (hb:G b) (hr:w.rangeAt b 0 (zAH x sl)) (hr2:w.rangeAt b 21 (zAH y tl)):PtIs w G (max n m+1) z (.slice (some ⟨b,0,none⟩) 2 2) (z::(row++rol)):=by
 refine ⟨some ⟨b,0,none⟩,2,[(x,sl),(y,tl)],[row,rol],rfl,rfl,by simp,λi hi hi'=>?_⟩;match i,hi with
 | 0,_=>exact ⟨b,rfl,hb,hr,h.upto (by omega)⟩
 | 1,_=>exact ⟨b,rfl,hb,hr2,h2.upto (by omega)⟩
theorem zDt (w:World) (T:TypeId) (a c:List Value):(w.alloc (.cells (a++c).toArray T)).rangeAt w.heap.size 0 a/\(w.alloc (.cells (a++c).toArray T)).rangeAt w.heap.size a.length c:=by
 have h:=AtL.new0 w T (a++c);refine ⟨λj v hv=>?_,λj v hv=>?_⟩
 ·rw [Nat.zero_add];exact h.2.1 j v (by rw [List.getElem?_append_left (List.getElem?_eq_some_iff.1 hv).1];exact hv)
 ·exact h.2.1 (a.length+j) v (by rw [List.getElem?_append_right (Nat.le_add_right _ _),Nat.add_sub_cancel_left];exact hv)
def zMs (kp:Nat) (en:Int) (F:Nat) (sub:List Wlx.TV->PR) (n:Nat):Prop :=
 ∀ (ts:List Wlx.TV) (w:World),PSt w kp ts en->ts.length<=n->ts.length<=1024->(∀ t ∈ ts,zAP t)->Env w->Calls prog F #[.pointer (some ⟨kp,0,none⟩)] w λe w'=>zAN kp en (sub ts) w e w'
def psg (sub5 sub6:List Wlx.TV->PR) (ts:List Wlx.TV):PR:=match zB0 5 ts with
 | some (o,r)=>(match sub5 r with
  | .inr e=>.inr e
  | .inl (row,r2)=>.inl (opN (zAq o.2.2) o.1::row,r2))
 | none=>sub6 ts
def psi (en:Int) (subW subB:List Wlx.TV->PR) (ts:List Wlx.TV):PR :=
 if (hd ts en).k=3 then subW ts else if (hd ts en).k=5 then subB ts else pl ts en
def zL9 (kp:Nat) (en:Int) (k:Nat) (sub:List Wlx.TV->PR) (n:Nat):Prop :=
 ∀ (ts:List Wlx.TV) (w:World),PSt w kp ts en->ts.length<=n->ts.length<=1024->(∀ t ∈ ts,zAP t)->Env w->Calls prog 86 #[.pointer (some ⟨kp,0,none⟩),.int .i64 k] w λe w'=>zAN kp en (sub ts) w e w'
theorem zGm (kp:Nat) (en:Int) (sub:List Wlx.TV->PR) (n:Nat) (HB:zL9 kp en 0 sub n):zEI kp en sub n:=by
 intro ts w h hn hts hok hE;have hB0:=zAI (Below.refl _ w) (.cells zP0 78);have pZ:AtL (w.alloc (.cells zP0 78)) w.heap.size (zAH (bare 0) (.slice none 0 0)):=AtL.new0 w _ _;have h0:=h.below hB0;have hE0:=hE.below hB0;have hkp:=h.lt;cases hs:sub ts with
 | inr q =>
  obtain ⟨c,p⟩:=q;simp only [zAN];go_enter func55,ntmps55;have pZ1:=pZ;have h1:=h0;have hE1:=hE0;have hG1:=zAC hB0 (some kp);clear pZ h0 hB0 hE0;go_wp2_with fail
  refine (HB ts _ h1 hn hts hok hE1).mono ?_;rintro e w3 hc;rw [hs] at hc;simp only [zAN] at hc;obtain ⟨rfl,hg⟩:=hc;unfold zBj;go_wp2;exact ⟨rfl,rfl,zAB hG1 hg⟩
 | inl q =>
  obtain ⟨row,r2⟩:=q;simp only [zAN];go_enter func55,ntmps55;have pZ1:=pZ;have h1:=h0;have hE1:=hE0;have hG1:=zAC hB0 (some kp);clear pZ h0 hB0 hE0;have hz1:=pZ1.lt;go_wp2_with fail
  refine (HB ts _ h1 hn hts hok hE1).mono ?_;rintro e w3 hc;rw [hs] at hc;simp only [zAN] at hc;obtain ⟨v,rfl,hP,h3,hg⟩:=hc;have pZ3:=pZ1.grown hg (by intro e;have:=Option.some.inj e;omega);have hG3:=zAB hG1 hg;obtain ⟨nn,x,sl,rfl,hp⟩:=hP;obtain ⟨av,len,cap,rfl⟩:=hp.one;have hth:World.there w3 w.heap.size 0 (zAH x (.slice av len cap)).toArray.size:=pZ3.there;clear pZ1 hG1 hE1 h1 hg;unfold ptV;go_wp2_with ((with_reducible refine wpList_store_mid ?_ 78 (.tmp 2) (.tmp 4) ?_ (w.heap.size) 0 (zAH x (.slice av len cap)).toArray ?_ ?_ ?_ ?_ ?_ ?_);rfl;rfl;rfl;rfl;exact hth;kernel_rfl;exact zAr _ _ rfl)
  have pZ9:AtL (w3.setCells w.heap.size 0 (zAH x (.slice av len cap))) w.heap.size (zAH x (.slice av len cap)):=pZ3.setAll rfl;refine bodyPost_ret (zAF rfl _ _ w.heap.size (zAH x (.slice av len cap)) _ rfl pZ9.range underlying78 rfl (by kernel_rfl)) rfl ?_;exact ⟨_,rfl,(Pt.far (show Pt w3 _ (ptV x (.slice av len cap)) row from ⟨nn,x,_,rfl,hp⟩) (by omega) 0 _).mono (by omega),h3.farAll hkp _ 0,zAJ hG3 (Nat.le_refl _) _ 0⟩
def ppc (sub7:List Wlx.TV->PR) (ts:List Wlx.TV):PR:=match sub7 ts with
 | .inr e=>.inr e
 | .inl (row,r)=>pct r.length row r
theorem zEt (row:List Wt.Nd) (us:List Wlx.TV):pct us.length row us=match zB0 6 us with
  | none=>.inl (row,us)
  | some (o,r)=>pct r.length (opN (zAq o.2.2) o.1::row) r:=by
 cases us with
 | nil=>rfl
 | cons t r =>
  show pct (r.length+1) row (t::r)=_
  simp only [pct];cases h:zB0 6 (t::r) with
  | none=>rfl
  | some q =>
   obtain ⟨o,r2⟩:=q;have:r2=r:=by
    unfold zB0 at h;simp only at h;split at h
    ·cases ha:Wt.opAs t.t 6 with
     | none=>rw [ha] at h;cases h
     | some x=>rw [ha] at h;simp only [Option.map_some,Option.some.injEq,Prod.mk.injEq] at h;exact h.2.symm
    ·cases h
   subst this;rfl
theorem zE1 {k:Nat} (hk:k ≠ b) (x y z:Value):(((w.setCell ⟨b,0,none⟩ x).setCell ⟨b,1,none⟩ y).setCell ⟨b,2,none⟩ z).heap[k]? = w.heap[k]?:=by
 rw [Below.heap_setCell _ _ _ _ hk,Below.heap_setCell _ _ _ _ hk,Below.heap_setCell _ _ _ _ hk]
theorem zCT (w:World) (b:Nat) (x y z:Value):w.grownBy (((w.setCell ⟨b,0,none⟩ x).setCell ⟨b,1,none⟩ y).setCell ⟨b,2,none⟩ z) (some b) :=
 zAB (zAB (zAQ _ _ _ _) (zAQ _ _ _ _)) (zAQ _ _ _ _)
theorem zAV (w:World) (b:Nat):∀ (vs:List Value) (o:Nat),w.grownBy (w.setCells b o vs) (some b):=λvs o=>by
 have h:∀ (vs:List Value) (o:Nat) (W:World),w.grownBy W (some b)->w.grownBy (W.setCells b o vs) (some b):=by
  intro vs;induction vs with
  | nil=>intro o W h;exact h
  | cons v r ih=>intro o W h;rw [World.setCells];exact ih (o+1) _ (zAB h (zAQ W b o v))
 exact h vs o w (World.grownBy.refl _ _)
theorem zHX {kp:Nat} {en:Int} {us0:List Wlx.TV} {w':World} {e:Ending} (row:List Wt.Nd) (h:zB8 kp en us0 (zB0 6 us0) w e w'):∃ (o:Int) (m:List UInt8) (t:Int) (q:Bool) (us:List Wlx.TV),e=.returned (.tuple #[.agg #[.int .i64 o,.string ⟨m.toArray⟩,.int .i64 t],.bool q])/\PSt w' kp us en/\w.grownBy w' (some kp)/\pct us0.length row us0=(if q then pct us.length (opN (zAq t) o::row) us else .inl (row,us))/\us.length+(if q then 1 else 0)<=us0.length:=by
 rw [zEt];cases h1:zB0 6 us0 with
 | none =>
  rw [h1] at h;simp only [zB8] at h;exact ⟨0,[],0,false,us0,h.1,h.2.1,h.2.2,rfl,by simp⟩
 | some z =>
  obtain ⟨⟨o,m,t⟩,r⟩:=z;rw [h1] at h;simp only [zB8] at h;have:=(zAo h1).2;exact ⟨o,m,t,true,r,h.1,h.2.1,h.2.2,rfl,by simp;omega⟩
theorem zFg (kp:Nat) (en:Int) (sub7:List Wlx.TV->PR) (n:Nat) (HS:zMs kp en 159 sub7 n) (hsub:∀ ts row r,sub7 ts=.inl (row,r)->r <:+ ts) (ts:List Wlx.TV) (w:World) (h:PSt w kp ts en) (hn:ts.length<=n) (hts:ts.length<=1024) (hok:∀ t ∈ ts,zAP t) (hE:Env w) (hk8:8<=kp) :
  Calls prog 140 #[.pointer (some ⟨kp,0,none⟩)] w λe w'=>zAN kp en (ppc sub7 ts) w e w':=by
 have hB0:=zAI (Below.refl _ w) (.cells zP0 78);have pZ:AtL (w.alloc (.cells zP0 78)) w.heap.size (zAH (bare 0) (.slice none 0 0)):=AtL.new0 w _ _;have h0:=h.below hB0;have hE0:=hE.below hB0;have hkp:=h.lt;unfold ppc;cases hs:sub7 ts with
 | inr q =>
  obtain ⟨c,p⟩:=q;simp only [zAN];go_enter func140,ntmps140;go_wp2_with fail
  generalize w.alloc (.cells zP0 78)=wa at *;refine (HS ts _ h0 hn hts hok hE0).mono ?_;rintro e w1 hc;rw [hs] at hc;simp only [zAN] at hc;obtain ⟨rfl,hg⟩:=hc;unfold zBj;go_wp2;exact ⟨rfl,rfl,zAB (zAC hB0 (some kp)) hg⟩
 | inl q =>
  obtain ⟨row,r1⟩:=q;have hl1:=(hsub _ _ _ hs).length_le;simp only;obtain ⟨R,hR⟩:∃ R,pct r1.length row r1=R:=⟨_,rfl⟩
  rw [hR];go_enter func140,ntmps140;go_wp2_with fail
  generalize w.alloc (.cells zP0 78)=wa at *;refine (HS ts _ h0 hn hts hok hE0).mono ?_;rintro e w1 hc;rw [hs] at hc;simp only [zAN] at hc;obtain ⟨v,rfl,hP,h1,hg⟩:=hc;have hza:=pZ.lt;have pZ1:=pZ.grown hg (by intro e;have:=Option.some.inj e;omega);have hG1:=zAB (zAC hB0 (some kp)) hg;have hE1:=hE0.grown hg hk8;obtain ⟨nn,x,sl,rfl,hp⟩:=hP;obtain ⟨av,len,cap,rfl⟩:=hp.one;clear pZ h0 hB0 hE0 hg;unfold ptV;have pX0:AtL (w1.alloc (.cells zP0 78)) w1.heap.size (zAH (bare 0) (.slice none 0 0)):=AtL.new0 w1 _ _;have hthX:World.there (w1.alloc (.cells zP0 78)) w1.heap.size 0 (zAH x (.slice av len cap)).toArray.size:=pX0.there;go_upto_region 2 with ((with_reducible refine wpList_store_mid ?_ 78 (.tmp 3) (.tmp 7) ?_ (w1.heap.size) 0 (zAH x (.slice av len cap)).toArray ?_ ?_ ?_ ?_ ?_ ?_);rfl;rfl;rfl;rfl;exact hthX;kernel_rfl;exact zAr _ _ rfl)
  have hbX:=zAu (zAI (Below.refl _ w1) (.cells zP0 78)) (Nat.le_refl w1.heap.size) (zAH x (.slice av len cap)) 0;have pX:AtL ((w1.alloc (.cells zP0 78)).setCells w1.heap.size 0 (zAH x (.slice av len cap))) w1.heap.size (zAH x (.slice av len cap)):=pX0.setAll rfl;have pZ2:=AtL.below hbX pZ1;have h2:=h1.below hbX;have hE2:=hE1.below hbX;have hG2:=zAB hG1 (zAC hbX (some kp));have hp1:PtIs w1 (λb=>w.heap.size+1<=b/\b ≠ w1.heap.size) nn x (.slice av len cap) row:=PtIs.inside (λb hb hl=>⟨by have hb':wa.heap.size<=b:=hb;omega,by omega⟩) nn hp;have hp2:=PtIs.keep (λk _ h2=>hbX.block k h2) nn hp1;have hkx:kp<w1.heap.size:=h1.lt;have hzx:=pZ1.lt;clear pX0 hthX hbX pZ1 h1 hE1 hG1 hp hp1;generalize (w1.alloc (.cells zP0 78)).setCells w1.heap.size 0 (zAH x (.slice av len cap))=w2 at *;generalize w1.heap.size=kx at *;have T1:=zBT kp r1 en 6 w2 h2 (by omega) hE2.1;go_wp2_with fail
  refine T1.mono ?_;rintro e w3 hc;obtain ⟨o,m,t,q,us,rfl,h3,hg3,hq,hle⟩:=zHX row hc;rw [hR] at hq;have E0:Hid (R=if q then pct us.length (opN (zAq t) o::row) us else .inl (row,us)):=hq;have hb4:=zAI (Below.refl _ w3) (.cells #[.int .i64 o,.string ⟨m.toArray⟩,.int .i64 t] 131);have hx2:=pX.lt;have hs3:=hg3.size;have A1:Hid (AtL (w3.alloc (.cells #[.int .i64 o,.string ⟨m.toArray⟩,.int .i64 t] 131)) w3.heap.size [.int .i64 o,.string ⟨m.toArray⟩,.int .i64 t]):=AtL.new0 w3 131 [.int .i64 o,.string ⟨m.toArray⟩,.int .i64 t];have A2:Hid (AtL (w3.alloc (.cells #[.int .i64 o,.string ⟨m.toArray⟩,.int .i64 t] 131)) kx (zAH x (.slice av len cap))):=AtL.below hb4 (pX.grown hg3 (by intro e;have:=Option.some.inj e;omega));have A3:Hid (AtL (w3.alloc (.cells #[.int .i64 o,.string ⟨m.toArray⟩,.int .i64 t] 131)) w.heap.size (zAH (bare 0) (.slice none 0 0))):=AtL.below hb4 (pZ2.grown hg3 (by intro e;have:=Option.some.inj e;omega));have A4:Hid (PtIs (w3.alloc (.cells #[.int .i64 o,.string ⟨m.toArray⟩,.int .i64 t] 131)) (λb=>w.heap.size+1<=b/\b ≠ kx) nn x (.slice av len cap) row):=PtIs.keep (λk _ h2=>hb4.block k h2) nn (PtIs.keep (λk hk h2=>hg3.block k h2 (by intro e;have:=Option.some.inj e;have:=hk.1;omega)) nn hp2);have A5:=h3.below hb4;have A6:Hid (w.grownBy (w3.alloc (.cells #[.int .i64 o,.string ⟨m.toArray⟩,.int .i64 t] 131)) (some kp)):=zAB (zAB hG2 hg3) (zAC hb4 (some kp))
  have A7:=(hE2.grown hg3 hk8).below hb4;have hko:kx<w3.heap.size:=by omega
  clear hc hq T1 hb4 pX pZ2 h2 hE2 hG2 hp2 h3 hg3 hR;go_wp2_with fail
  go_loopg [4,5] (us.length+(if q then 1 else 0)) (λgk a b wr=>∃ (ko:Nat) (o:Int) (m:List UInt8) (t:Int) (q:Bool) (nn:Nat) (x:Wt.Nd) (av:Option Addr) (len cap:Nat) (row:List Wt.Nd) (us:List Wlx.TV),a=.pointer (some ⟨ko,0,none⟩)/\b=.bool q/\gk=us.length+(if q then 1 else 0)/\us.length+(if q then 1 else 0)<=r1.length/\us.length<=1024/\kx<ko/\Hid (R=if q then pct us.length (opN (zAq t) o::row) us else .inl (row,us))/\Hid (AtL wr ko [.int .i64 o,.string ⟨m.toArray⟩,.int .i64 t])/\Hid (AtL wr kx (zAH x (.slice av len cap)))/\Hid (AtL wr w.heap.size (zAH (bare 0) (.slice none 0 0)))/\Hid (PtIs wr (λb=>w.heap.size+1<=b/\b ≠ kx) nn x (.slice av len cap) row)/\PSt wr kp us en/\Hid (w.grownBy wr (some kp))/\Env wr)
  case atStart=>exact ⟨w3.heap.size,o,m,t,q,nn,x,av,len,cap,row,us,rfl,rfl,rfl,hle,by omega,hko,E0,A1,A2,A3,A4,A5,A6,A7⟩
  case round =>
   clear A1 A2 A3 A4 A5 A6 A7 E0 hko;obtain ⟨ko,o,m,t,q,nn,x,av,len,cap,row,us,rfl,rfl,hgk,hle,hus,hko,E,A1,A2,A3,A4,h5,A6,hE5⟩:=hrel;cases q
   ·have hR:Hid (R=.inl (row,us)):=E.out;have rX:=A2.out.range;have hth:World.there wr w.heap.size 0 (zAH x (.slice av len cap)).toArray.size:=A3.out.there;clear E;go_wp2_with (first | ((with_reducible refine wpList_load_mid (cs:=zAH x (.slice av len cap)) ?_ 78 (.tmp 3) ?_ kx 0 ?_ _ ?_ underlying78 ?_ ?_ ?_);rfl;rfl;rfl;exact rX;rfl;kernel_rfl) | ((with_reducible refine wpList_store_mid ?_ 78 (.tmp 2) (.tmp 24) ?_ (w.heap.size) 0 (zAH x (.slice av len cap)).toArray ?_ ?_ ?_ ?_ ?_ ?_);rfl;rfl;rfl;rfl;exact hth;kernel_rfl;exact zAr _ _ rfl))
    have pZ9:AtL (wr.setCells w.heap.size 0 (zAH x (.slice av len cap))) w.heap.size (zAH x (.slice av len cap)):=A3.out.setAll rfl;refine bodyPost_ret (zAF rfl _ _ w.heap.size (zAH x (.slice av len cap)) _ rfl pZ9.range underlying78 rfl (by kernel_rfl)) rfl ?_;rw [hR.out];simp only [zAN];refine ⟨_,rfl,?_,h5.farAll hkp _ 0,zAJ A6.out (Nat.le_refl _) _ 0⟩;exact (Pt.far (show Pt wr (w.heap.size+1) (ptV x (.slice av len cap)) row from ⟨nn,x,_,rfl,PtIs.mono (λb hb=>hb.1) nn A4.out⟩) (Nat.lt_succ_self _) 0 _).mono (Nat.le_succ _)
   ·have hle1:us.length+1<=r1.length:=by simpa using hle
    have rX:=A2.out.range;obtain ⟨c0,c1,c2⟩:=A1.out.f3;have hx2:=A2.out.lt;have hz2:=A3.out.lt;have ho2:=A1.out.lt;go_wp2_with (first | ((with_reducible refine wpList_load_mid (cs:=zAH x (.slice av len cap)) ?_ 78 (.tmp 3) ?_ kx 0 ?_ _ ?_ underlying78 ?_ ?_ ?_);rfl;rfl;rfl;exact rX;rfl;kernel_rfl) | ((with_reducible refine zCn ?_ (.tmp 20) ?_ x av len cap ?_ ?_);rfl;rfl;rfl))
    have hbA:=zAI (Below.refl _ wr) (.cells (zAH x (.slice av len cap)).toArray 78);have pB:=AtL.new0 wr 78 (zAH x (.slice av len cap));refine (zBL o ⟨m.toArray⟩ t (some ⟨wr.heap.size,0,none⟩) 1 1 _).mono ?_;rintro e w6 ⟨rfl,hb⟩;have hb6:=zAA hbA hb;have hun:=PtIs.un (G:=λb=>w.heap.size+1<=b/\b ≠ kx) (z:=opN (zAq t) o) (PtIs.keep (λk _ h2=>hbA.block k h2) nn A4.out) (⟨by omega,by omega⟩:w.heap.size+1<=wr.heap.size/\wr.heap.size ≠ kx) pB.range;have hun6:=PtIs.keep (λk _ h2=>hb.block k h2) _ hun;have pO6:=AtL.below hb6 A1.out;have pX6:=AtL.below hb6 A2.out;have pZ6:=AtL.below hb6 A3.out;have h6:=h5.below hb6;have hE6:=hE5.below hb6;have hG6:=zAB A6.out (zAC hb6 (some kp));have hth:World.there w6 kx 0 (zAH (opN (zAq t) o) (.slice (some ⟨wr.heap.size,0,none⟩) 1 1)).toArray.size:=pX6.there;clear hbA pB hb hb6 hun A1 A2 A3 A4 h5 hE5 A6 rX c0 c1 c2;unfold ptV;go_upto_region 6 with ((with_reducible refine wpList_store_mid ?_ 78 (.tmp 3) (.tmp 22) ?_ (kx) 0 (zAH (opN (zAq t) o) (.slice (some ⟨wr.heap.size,0,none⟩) 1 1)).toArray ?_ ?_ ?_ ?_ ?_ ?_);rfl;rfl;rfl;rfl;exact hth;kernel_rfl;exact zAr _ _ rfl)
    have pX7:AtL (w6.setCells kx 0 (zAH (opN (zAq t) o) (.slice (some ⟨wr.heap.size,0,none⟩) 1 1))) kx (zAH (opN (zAq t) o) (.slice (some ⟨wr.heap.size,0,none⟩) 1 1)):=pX6.setAll rfl;have pO7:=pO6.farAll (b:=kx) (by omega) 0 (zAH (opN (zAq t) o) (.slice (some ⟨wr.heap.size,0,none⟩) 1 1));have pZ7:=pZ6.farAll (b:=kx) (by omega) 0 (zAH (opN (zAq t) o) (.slice (some ⟨wr.heap.size,0,none⟩) 1 1));have hun7:=PtIs.keep (w':=w6.setCells kx 0 (zAH (opN (zAq t) o) (.slice (some ⟨wr.heap.size,0,none⟩) 1 1))) (λk hk _=>zAh kx k hk.2 _ 0 w6) _ hun6;have h7:=h6.farAll hkx (zAH (opN (zAq t) o) (.slice (some ⟨wr.heap.size,0,none⟩) 1 1)) 0;have hG7:=zAJ hG6 (b:=kx) (by omega) (zAH (opN (zAq t) o) (.slice (some ⟨wr.heap.size,0,none⟩) 1 1)) 0;have hE7:=hE6.grown (zAV w6 kx (zAH (opN (zAq t) o) (.slice (some ⟨wr.heap.size,0,none⟩) 1 1)) 0) (by omega);have hs7:Hid (_=_):=zBQ kx (zAH (opN (zAq t) o) (.slice (some ⟨wr.heap.size,0,none⟩) 1 1)) 0 w6;clear pX6 pO6 pZ6 hun6 h6 hG6 hE6 hth;generalize w6.setCells kx 0 (zAH (opN (zAq t) o) (.slice (some ⟨wr.heap.size,0,none⟩) 1 1))=w7 at *;obtain ⟨c0,c1,c2⟩:=pO7.f3;have hb8:=zAI (Below.refl _ w7) (.cells #[.int .i64 o,.string ⟨m.toArray⟩,.int .i64 t] 131);have T8:=zBT kp us en 6 _ (h7.below hb8) hus (hE7.below hb8).1;go_wp2_with fail
    refine T8.mono ?_;rintro e w8 hc;obtain ⟨o',m',t',q',us',rfl,h9,hg9,hq,hle9⟩:=zHX (opN (zAq t) o::row) hc;have hx7:=pX7.lt;have hz7:=pZ7.lt;have hk7:=h7.lt;have E9:Hid (R=if q' then pct us'.length (opN (zAq t') o'::opN (zAq t) o::row) us' else .inl (opN (zAq t) o::row,us')):=by
     show _=_
     rw [<-hq];exact E.out
    have pN9:=(AtL.new0 w7 131 [.int .i64 o,.string ⟨m.toArray⟩,.int .i64 t]).grown hg9 (by intro e;have:=Option.some.inj e;omega);have pX9:=(AtL.below hb8 pX7).grown hg9 (by intro e;have:=Option.some.inj e;omega);have pZ9:=(AtL.below hb8 pZ7).grown hg9 (by intro e;have:=Option.some.inj e;omega);have hun7b:=PtIs.inside (G':=λb=>(w.heap.size+1<=b/\b ≠ kx)/\b ≠ w7.heap.size) (λb hb hl=>⟨hb,by omega⟩) _ hun7;have hun9:=PtIs.keep (λk hk h2=>hg9.block k h2 (by intro e;have:=Option.some.inj e;have:=hk.1.1;omega)) _ (PtIs.keep (λk _ h2=>hb8.block k h2) _ hun7b);have hG9:=zAB (zAB hG7 (zAC hb8 (some kp))) hg9;have hE9:=(hE7.below hb8).grown hg9 hk8;clear hc hq T8 hb8 pX7 pO7 pZ7 hun7 hun7b h7 hG7 hE7 hg9 c0 c1 c2 E;obtain ⟨c0,c1,c2,f0,f1,f2⟩:=pN9.three;have hw7:w.heap.size<=w7.heap.size:=by omega
    have hun10:=λa b c=>PtIs.mono (G':=λb=>w.heap.size+1<=b/\b ≠ kx) (λb hb=>hb.1) _ (PtIs.keep (w':=((w8.setCell ⟨w7.heap.size,0,none⟩ a).setCell ⟨w7.heap.size,1,none⟩ b).setCell ⟨w7.heap.size,2,none⟩ c) (λk hk h2=>zE1 hk.2 a b c) _ hun9)
    go_wp2_with fail
    go_roundg (us'.length+(if q' then 1 else 0))
    case rel =>
     have B1:=AtL.put3 pN9 (.int .i64 o') (.string ⟨m'.toArray⟩) (.int .i64 t');exact ⟨w7.heap.size,o',m',t',q',_,_,_,_,_,_,us',rfl,rfl,rfl,by omega,by omega,by omega,E9,B1,pX9.far3 (by omega) _ _ _,pZ9.far3 (by omega) _ _ _,hun10 _ _ _,((h9.far (by omega) _ _).far (by omega) _ _).far (by omega) _ _,zAS (zAS (zAS hG9 hw7 _ _) hw7 _ _) hw7 _ _,hE9.grown (zCT w8 w7.heap.size _ _ _) (by omega)⟩
    case measure =>
     have hgk1:gk=us.length+1:=hgk;omega
