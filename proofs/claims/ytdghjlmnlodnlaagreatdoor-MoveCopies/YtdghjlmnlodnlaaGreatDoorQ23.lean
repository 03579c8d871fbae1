/- TParB, TCopy, MOwn, MWalkD. -/
import Derived.Test.YtdghjlmnlodnlaaGreatDoorQ22
import Derived.BigFrame
import Derived.Laws.CopyRow
set_option maxHeartbeats 8000000
set_option maxRecDepth 100000
namespace Go.Proofs.YtdghjlmnlodnlaaGreatDoor
open Go.RowKit Go.Shelf Tryz
set_option linter.unusedVariables false
variable {w:World} {B cap g n:Nat} {row L A R:List Wt.Nd} {av:Option Addr} {v:Value}
def zIe (en:Int) (ts:List Wlx.TV):List Wt.Nd ⊕ (Int × Int):=match zIf (lv en (10 * ts.length+9) 0) en ts with
 | .inr e=>.inr e
 | .inl (row,_)=>if Wt.check row=0 then .inl row else .inr (Wt.check row,0)
def zH7 (l:List UInt8):List Wt.Nd ⊕ (Int × Int):=match zAX l with
 | .inr (c,p)=>.inr ((c:Int),(p:Int))
 | .inl ts=>zIe (l.length:Int) (ts.map Wlx.tv)
def OwnN (w:World) (B:Nat) (v:Value) (row:List Wt.Nd):Prop:=w.ownsRow B 30 20 v row.length (zA6 row)
def zCC (B:Nat) (r:List Wt.Nd ⊕ (Int × Int)) (e:Ending) (w:World):Prop:=match r with
 | .inl row=>∃ v,e=.returned (.tuple #[v,.int .i64 0,.int .i64 0])/\OwnN w B v row
 | .inr (c,p)=>e=.returned (.tuple #[.slice none 0 0,.int .i64 c,.int .i64 p])
theorem zB1 (x:Wt.Nd):(zAE x).length=20:=rfl
theorem zD2 (l:List Wt.Nd):∀ (i:Nat) (h:i<l.length) (j:Nat),j<20->(zA6 l)[i * 20+j]? = (zAE (l[i]))[j]?:=by
 induction l with
 | nil=>intro i h;exact absurd h (Nat.not_lt_zero _)
 | cons x r ih =>
  intro i h j hj;have e:zA6 (x::r)=zAE x++zA6 r:=by simp [zA6]
  rw [e];cases i with
  | zero=>rw [List.getElem?_append_left (by rw [zB1];omega)];simp
  | succ i =>
   rw [List.getElem?_append_right (by rw [zB1];omega),zB1,show (i+1) * 20+j - 20=i * 20+j by omega];rw [ih i (by simpa using h) j hj];simp
theorem zA5 (l:List Wt.Nd):(zA6 l).length=l.length * 20:=by
 induction l with
 | nil=>rfl
 | cons x r ih =>
  have e:zA6 (x::r)=zAE x++zA6 r:=by simp [zA6]
  rw [e,List.length_append,ih,zB1,List.length_cons];omega
theorem OwnN.form (h:OwnN w B v row):∃ av cap,v=.slice av row.length cap/\RdN w av row:=by
 rcases h.2 with ⟨rfl,h0⟩ | ⟨g,cap,cur,rfl,hr⟩
 ·exact ⟨none,0,by rw [h0],λi hi=>by omega⟩
 ·refine ⟨_,cap,rfl,λi hi=>⟨g,0,rfl,λj u hu=>?_⟩⟩;have hj:j<20:=by
   rcases Nat.lt_or_ge j 20 with h1 | h1
   ·exact h1
   ·rw [List.getElem?_eq_none (by rw [zB1];exact h1)] at hu;cases hu
  rw [Nat.zero_add,World.ownsRow.cellAt h _ (by omega),zD2 row i hi j hj];exact hu
theorem OwnN.rd (h:OwnN w B (.slice av n cap) row):RdN w av row:=by
 obtain ⟨av',cap',e,hr⟩:=h.form;simp only [Value.slice.injEq] at e;rw [e.1];exact hr
theorem OwnN.below {w':World} (h:OwnN w B v row) (hb:Below w.heap.size w w'):OwnN w' B v row :=
 h.kept (row:=none) ⟨hb.os,hb.tape,hb.output,hb.size,λk hk _=>hb.block k hk⟩ (by cases v.ownBlock <;> simp)
theorem zRc (W:World) (tm:Array Value) (bl bc ba:Nat) (v:Value) (c p:Int) (hv:v.oneCell'=true) (h2:tm.getD 2 undef=.pointer (some ⟨bl,0,none⟩)) (h3:tm.getD 3 undef=.pointer (some ⟨bc,0,none⟩)) (h4:tm.getD 4 undef=.pointer (some ⟨ba,0,none⟩))
  (hl:AtL W bl [v]) (hc:AtL W bc [.int .i64 c]) (ha:AtL W ba [.int .i64 p]):(results Tryz.f19 tm).run prog W=.ok (.tuple #[v,.int .i64 c,.int .i64 p]) W:=by
 have l0:=hl.2.1 0 _ rfl;have c0:=hc.2.1 0 _ rfl;have a0:=ha.2.1 0 _ rfl;have h2':tm[2]?.getD undef=.pointer (some ⟨bl,0,none⟩):=by rw [<-h2];simp
 have h3':tm[3]?.getD undef=.pointer (some ⟨bc,0,none⟩):=by rw [<-h3];simp
 have h4':tm[4]?.getD undef=.pointer (some ⟨ba,0,none⟩):=by rw [<-h4];simp
 simp [results,results19,go_sem,h2',h3',h4',l0,c0,a0]
theorem zJD (b:ByteArray) (w:World) (hE:Env w) (hs:b.size<=9223372036854775807) (c p:Nat) (hc:c ≠ 0) (hr:zAX b.data.toList=.inr (c,p)):CR 19 #[.string b] w (.tuple #[.slice none 0 0,.int .i64 c,.int .i64 p]):=by
 have S:=λw hm=>zHI b w hm hs
 rw [hr] at S;simp only [zDS] at S;have hE3:=((hE.below (zAI (Below.refl _ w) (.cells #[.slice none 0 0] 22))).below (zAI (Below.refl _ _) (.cells #[.int .i64 0] 31))).below (zAI (Below.refl _ _) (.cells #[.int .i64 0] 3));have hB0:=zAI (zAI (zAI (Below.refl _ w) (.cells #[.slice none 0 0] 22)) (.cells #[.int .i64 0] 31)) (.cells #[.int .i64 0] 3);have hmf:∀ (fn:Fn) (first cap:Array Value) (w:World),(Instr.makeFunc fn first cap).run prog w=.ok (.func fn first cap) w:=λ_ _ _ _=>rfl
 have pl0:=((AtL.new0 w 22 [.slice none 0 0]).alloc (.cells #[.int .i64 0] 31)).alloc (.cells #[.int .i64 0] 3);have pc0:=(AtL.new1 w (.cells #[.slice none 0 0] 22) 31 [.int .i64 0]).alloc (.cells #[.int .i64 0] 3);have pa0:AtL (((w.alloc (.cells #[.slice none 0 0] 22)).alloc (.cells #[.int .i64 0] 31)).alloc (.cells #[.int .i64 0] 3)) (w.heap.size+1+1) [.int .i64 0]:=AtL.new _ 3 (by simp only [World.size_alloc]) _;generalize hW0:((w.alloc (.cells #[.slice none 0 0] 22)).alloc (.cells #[.int .i64 0] 31)).alloc (.cells #[.int .i64 0] 3)=W0 at hE3 hB0 pl0 pc0 pa0;have hci:((c:Int) != 0)=true:=by simp;omega
 go_enter_defers func19,ntmps19
 go_wp2_with fail
 refine (S _ hE3.2.2.1).mono ?_;rintro e w1 ⟨rfl,hb⟩;have pl1:=pl0.below hb;have pc1:=pc0.below hb;have pa1:=pa0.below hb;have hB1:=zAA hB0 hb;clear hb hW0 pl0 pc0 pa0 hB0 hE3 S;have l1:=pl1.2.1 0 _ rfl;have c1:=pc1.2.1 0 _ rfl;have a1:=pa1.2.1 0 _ rfl;have fl1:=pl1.2.2 0 (by simp);have fc1:=pc1.2.2 0 (by simp);have fa1:=pa1.2.2 0 (by simp);go_wp2;go_region
 go_wp2;have pl2:=(AtL.far (AtL.far ((AtL.far (AtL.far (pl1) (j:=w.heap.size+1) (by omega) 0 (.int .i64 c)) (j:=w.heap.size+1+1) (by omega) 0 (.int .i64 p)).set 0 (.slice none 0 0)) (j:=w.heap.size+1) (by omega) 0 (.int .i64 c)) (j:=w.heap.size+1+1) (by omega) 0 (.int .i64 p)).drew;have pc2:=(AtL.far ((AtL.far (AtL.far ((pc1).set 0 (.int .i64 c)) (j:=w.heap.size+1+1) (by omega) 0 (.int .i64 p)) (j:=w.heap.size) (by omega) 0 (.slice none 0 0)).set 0 (.int .i64 c)) (j:=w.heap.size+1+1) (by omega) 0 (.int .i64 p)).drew;have pa2:=((AtL.far (AtL.far ((AtL.far (pa1) (j:=w.heap.size+1) (by omega) 0 (.int .i64 c)).set 0 (.int .i64 p)) (j:=w.heap.size) (by omega) 0 (.slice none 0 0)) (j:=w.heap.size+1) (by omega) 0 (.int .i64 c)).set 0 (.int .i64 p)).drew;have hB2:=((((((hB1).setCell (p:=⟨w.heap.size+1,0,none⟩) (show w.heap.size<=w.heap.size+1 by omega) (.int .i64 c)).setCell (p:=⟨w.heap.size+1+1,0,none⟩) (show w.heap.size<=w.heap.size+1+1 by omega) (.int .i64 p)).setCell (p:=⟨w.heap.size,0,none⟩) (show w.heap.size<=w.heap.size by omega) (.slice none 0 0)).setCell (p:=⟨w.heap.size+1,0,none⟩) (show w.heap.size<=w.heap.size+1 by omega) (.int .i64 c)).setCell (p:=⟨w.heap.size+1+1,0,none⟩) (show w.heap.size<=w.heap.size+1+1 by omega) (.int .i64 p)).drew;generalize ((((((w1).setCell ⟨w.heap.size+1,0,none⟩ (.int .i64 c)).setCell ⟨w.heap.size+1+1,0,none⟩ (.int .i64 p)).setCell ⟨w.heap.size,0,none⟩ (.slice none 0 0)).setCell ⟨w.heap.size+1,0,none⟩ (.int .i64 c)).setCell ⟨w.heap.size+1+1,0,none⟩ (.int .i64 p)).drew=W2 at *
 simp [bodyPostD,Leaves];exact ⟨_,zRc _ _ _ _ _ _ _ _ rfl rfl rfl rfl pl2 pc2 pa2,rfl,hB2⟩
theorem PSt.new {W:World} {kp:Nat} {ts:List Wlx.Tok} {en:Int} (hO:zEH W B (.slice av ts.length cap) ts) (hk:kp=W.heap.size):PSt (W.alloc (.cells #[.slice av ts.length cap,.int .i64 en] 75)) kp (ts.map Wlx.tv) en:=by
 subst hk;have hv:=OwnV.of hO;have hR:=RdV.own hv;have hcap:ts.length<=cap:=by
  rcases hO.2 with ⟨e,h0⟩ | ⟨g,cap',cur,e,hg,hc,h1,_⟩
  ·omega
  ·simp only [Value.slice.injEq] at e;omega
 refine ⟨av,cap,by rw [List.length_map];exact hcap,by rw [List.length_map];exact AtL.new0 W 75 [.slice av ts.length cap,.int .i64 en],λi hi=>?_⟩;obtain ⟨g,e,hlt,c0,c1,c2⟩:=hR i hi;have hb:=zAI (Below.refl _ W) (.cells #[.slice av ts.length cap,.int .i64 en] 75);exact ⟨g,0,e,hlt,by rw [Nat.zero_add];exact zAD hb c0,by rw [Nat.zero_add];exact zAD hb c1,by rw [Nat.zero_add];exact zAD hb c2⟩
theorem zIX (b:ByteArray) (w:World) (hE:Env w) (hs:b.size<=9223372036854775807) (ts:List Wlx.Tok) (hk8:8<=w.heap.size) (hr:zAX b.data.toList=.inl ts):Calls prog 19 #[.string b] w λe w'=>zCC w.heap.size (zIe (b.size:Int) (ts.map Wlx.tv)) e w'/\Below w.heap.size w w':=by
 have S:=λw hm=>zHI b w hm hs
 have hbl:b.data.toList.length=b.size:=by rw [Array.length_toList];rfl
 have hT:ts.length<=1024/\∀ t ∈ ts.map Wlx.tv,zAP t:=by
  unfold zAX at hr;split at hr
  ·cases hr
  ·rename_i h
   have:=zGU _ 0 b.data.toList (Nat.le_refl _) (by omega) ts hr;exact ⟨by omega,this.2⟩
 have hb1024:b.size<=1024:=by
  unfold zAX at hr;split at hr
  ·cases hr
  ·omega
 obtain ⟨hn,hok⟩:=hT;rw [hr] at S;simp only [zDS] at S;clear hr hbl;obtain ⟨R,hR⟩:∃ R,R=zIe (b.size:Int) (ts.map Wlx.tv):=⟨_,rfl⟩
 rw [<-hR];have HR:Hid (R=zIe (b.size:Int) (ts.map Wlx.tv)):=hR;clear hR;have hE3:=((hE.below (zAI (Below.refl _ w) (.cells #[.slice none 0 0] 22))).below (zAI (Below.refl _ _) (.cells #[.int .i64 0] 31))).below (zAI (Below.refl _ _) (.cells #[.int .i64 0] 3));have hB0:=zAI (zAI (zAI (Below.refl _ w) (.cells #[.slice none 0 0] 22)) (.cells #[.int .i64 0] 31)) (.cells #[.int .i64 0] 3);have hmf:∀ (fn:Fn) (first cap:Array Value) (w:World),(Instr.makeFunc fn first cap).run prog w=.ok (.func fn first cap) w:=λ_ _ _ _=>rfl
 have pl0:=((AtL.new0 w 22 [.slice none 0 0]).alloc (.cells #[.int .i64 0] 31)).alloc (.cells #[.int .i64 0] 3);have pc0:=(AtL.new1 w (.cells #[.slice none 0 0] 22) 31 [.int .i64 0]).alloc (.cells #[.int .i64 0] 3);have pa0:AtL (((w.alloc (.cells #[.slice none 0 0] 22)).alloc (.cells #[.int .i64 0] 31)).alloc (.cells #[.int .i64 0] 3)) (w.heap.size+1+1) [.int .i64 0]:=AtL.new _ 3 (by simp only [World.size_alloc]) _;generalize hW0:((w.alloc (.cells #[.slice none 0 0] 22)).alloc (.cells #[.int .i64 0] 31)).alloc (.cells #[.int .i64 0] 3)=W0 at hE3 hB0 pl0 pc0 pa0;have hs0:W0.heap.size=w.heap.size+1+1+1:=by rw [<-hW0];simp only [World.size_alloc]
 go_enter_defers func19,ntmps19
 go_wp2_with fail
 refine (S _ hE3.2.2.1).mono ?_;rintro e w1 ⟨⟨v,rfl,hO⟩,hb⟩;have pl1:=pl0.below hb;have pc1:=pc0.below hb;have pa1:=pa0.below hb;have hB1:=zAA hB0 hb;have hs1:=hb.size;clear hb hW0 pl0 pc0 pa0 hB0 hE3 S;have l1:=pl1.2.1 0 _ rfl;have c1:=pc1.2.1 0 _ rfl;have a1:=pa1.2.1 0 _ rfl;have fl1:=pl1.2.2 0 (by simp);have fc1:=pc1.2.2 0 (by simp);have fa1:=pa1.2.2 0 (by simp);obtain ⟨av,cap,hv,-⟩:=(OwnV.of hO).form;rw [List.length_map] at hv;subst hv;have hOl:=hO.lt;rw [hs0] at hOl hs1;have hO2:zEH ((w1.setCell ⟨w.heap.size+1,0,none⟩ (.int .i64 0)).setCell ⟨w.heap.size+1+1,0,none⟩ (.int .i64 0)) W0.heap.size (.slice av ts.length cap) ts :=
  World.ownsRow.kept (World.ownsRow.kept hO (zAQ w1 (w.heap.size+1) 0 _) (Or.inr (λe=>by have:=(hOl _ e).1;omega))) (zAQ _ (w.heap.size+1+1) 0 _) (Or.inr (λe=>by have:=(hOl _ e).1;omega))
 have hP3:=PSt.new (kp:=w1.heap.size) (en:=(b.size:Int)) hO2 (by simp only [World.size_setCell]);have pl3:=AtL.alloc (AtL.far (AtL.far (pl1) (j:=w.heap.size+1) (by omega) 0 (.int .i64 0)) (j:=w.heap.size+1+1) (by omega) 0 (.int .i64 0)) (.cells #[.slice av ts.length cap,.int .i64 (b.size:Int)] 75);have pc3:=AtL.alloc (AtL.far ((pc1).set 0 (.int .i64 0)) (j:=w.heap.size+1+1) (by omega) 0 (.int .i64 0)) (.cells #[.slice av ts.length cap,.int .i64 (b.size:Int)] 75);have pa3:=AtL.alloc ((AtL.far (pa1) (j:=w.heap.size+1) (by omega) 0 (.int .i64 0)).set 0 (.int .i64 0)) (.cells #[.slice av ts.length cap,.int .i64 (b.size:Int)] 75);have hB3:=zAI (((hB1).setCell (p:=⟨w.heap.size+1,0,none⟩) (show w.heap.size<=w.heap.size+1 by omega) (.int .i64 0)).setCell (p:=⟨w.heap.size+1+1,0,none⟩) (show w.heap.size<=w.heap.size+1+1 by omega) (.int .i64 0)) (.cells #[.slice av ts.length cap,.int .i64 (b.size:Int)] 75);have hs3:((((w1).setCell ⟨w.heap.size+1,0,none⟩ (.int .i64 0)).setCell ⟨w.heap.size+1+1,0,none⟩ (.int .i64 0)).alloc (.cells #[.slice av ts.length cap,.int .i64 (b.size:Int)] 75)).heap.size=w1.heap.size+1:=by simp only [World.size_alloc,World.size_setCell]
 generalize hW3:(((w1).setCell ⟨w.heap.size+1,0,none⟩ (.int .i64 0)).setCell ⟨w.heap.size+1+1,0,none⟩ (.int .i64 0)).alloc (.cells #[.slice av ts.length cap,.int .i64 (b.size:Int)] 75)=W3 at hP3 pl3 pc3 pa3 hB3 hs3;have hE3:=hE.below hB3;have hlen:(ts.map Wlx.tv).length=ts.length:=List.length_map ..;have AL:=zPM w1.heap.size (b.size:Int) (lv (b.size:Int) (10 * (ts.map Wlx.tv).length+9) 0) (ts.map Wlx.tv).length (zIQ w1.heap.size (b.size:Int) (by omega) _) (zCQ _ _ _) (ts.map Wlx.tv) W3 hP3 (Nat.le_refl _) (by omega) hok hE3;have hfit:=λrow r h=>zEC (b.size:Int) (10 * (ts.map Wlx.tv).length+9) 0 (ts.map Wlx.tv) row r hok h
 clear hO hO2 hOl hP3 hE3 hok;cases hpa:zIf (lv (b.size:Int) (10 * (ts.map Wlx.tv).length+9) 0) (b.size:Int) (ts.map Wlx.tv) with
 | inr q =>
  obtain ⟨c,p⟩:=q;rw [hpa] at AL;simp only [zAN] at AL;go_wp2_with fail
  refine AL.mono ?_;rintro e w4 ⟨rfl,hg⟩;have pl4:=pl3.grown hg (λe=>by have:=Option.some.inj e;omega);have pc4:=pc3.grown hg (λe=>by have:=Option.some.inj e;omega);have pa4:=pa3.grown hg (λe=>by have:=Option.some.inj e;omega);have hB4:Below w.heap.size w w4:=hB3.grown hg (by have:=hB3.size;omega) (λk e=>by have:=Option.some.inj e;omega);clear hg hW3 pl3 pc3 pa3 hB3 AL pl1 pc1 pa1 hfit;unfold zBp;have HR2:Hid (R=.inr (c,p)):=by
   show R=_
   rw [HR.out];unfold zIe;rw [hpa]
  clear HR hpa;go_wp2;refine leaves_cons (f:=34) (args:=#[.pointer (some ⟨w.heap.size,0,none⟩),.pointer (some ⟨w.heap.size+1,0,none⟩),.pointer (some ⟨w.heap.size+1+1,0,none⟩)]) (by simp) (by simp [go_sem]) ?_;refine (zFc _ _ _ c p _ _ _ [] _ pl4 pc4 pa4 (by omega) (by omega) (by omega)).mono ?_;rintro e u' w5 ⟨rfl,rfl,pl5,pc5,pa5,hb⟩;have hB5:Below w.heap.size w w5:=hB4.trans (hb _ (Nat.le_refl _) (by omega) (by omega));rw [HR2.out];simp only [zCC];simp [Leaves,settle];exact ⟨_,zRc _ _ _ _ _ _ _ _ rfl rfl rfl rfl pl5 pc5 pa5,rfl,hB5⟩
 | inl q =>
  obtain ⟨row,rr⟩:=q;have hrow:(∀ x ∈ row,Wt.FitN x)/\row.length<=1024:=by
   unfold zIf at hpa;split at hpa
   ·cases hpa
   ·rename_i row' hq
    simp only [Sum.inl.injEq,Prod.mk.injEq] at hpa;have:=hfit _ _ hq;rw [hpa.1] at this;exact ⟨this.1,by have:=this.2;omega⟩
   ·cases hpa
  rw [hpa] at AL;simp only [zAN] at AL;go_wp2_with fail
  refine AL.mono ?_;rintro e w4 ⟨v,rfl,⟨n,x,sl,rfl,hpt⟩,-,hg⟩;have pl4:=pl3.grown hg (λe=>by have:=Option.some.inj e;omega);have pc4:=pc3.grown hg (λe=>by have:=Option.some.inj e;omega);have pa4:=pa3.grown hg (λe=>by have:=Option.some.inj e;omega);have hB4:Below w.heap.size w w4:=hB3.grown hg (by have:=hB3.size;omega) (λk e=>by have:=Option.some.inj e;omega);have hs4:=hg.size;clear hg hW3 pl3 pc3 pa3 hB3 AL pl1 pc1 pa1 hfit;have RW:=zOT w.heap.size n x sl row (λb=>W3.heap.size<=b) (.slice none 0 0) [] w4 hpt (World.ownsRow_nil _ _ _ _) (λb _=>by simp [Value.ownBlock]) hB4.size (by simp only [List.length_nil];omega);clear hpt;rw [List.nil_append] at RW;go_wp2_with fail
  refine RW.mono ?_;rintro e w5 ⟨v5,rfl,ho5,hg5,hob⟩;have pl5:=pl4.grown hg5 (by simp [Value.ownBlock]);have pc5:=pc4.grown hg5 (by simp [Value.ownBlock]);have pa5:=pa4.grown hg5 (by simp [Value.ownBlock]);have hB5:Below w.heap.size w w5:=hB4.grown hg5 hB4.size (λk e=>by simp [Value.ownBlock] at e);have hs5:=hg5.size;have ho5':OwnN w5 w.heap.size v5 row:=ho5;clear ho5;obtain ⟨av5,cap5,rfl,-⟩:=ho5'.form;have hne:(Value.slice av5 row.length cap5).ownBlock ≠ some w.heap.size:=by
   rcases hob with h | ⟨b,h,h'⟩
   ·rw [h];simp [Value.ownBlock]
   ·rw [h];intro e;have:=Option.some.inj e;omega
  have hne1:(Value.slice av5 row.length cap5).ownBlock ≠ some (w.heap.size+1):=by
   rcases hob with h | ⟨b,h,h'⟩
   ·rw [h];simp [Value.ownBlock]
   ·rw [h];intro e;have:=Option.some.inj e;omega
  have hne2:(Value.slice av5 row.length cap5).ownBlock ≠ some (w.heap.size+1+1):=by
   rcases hob with h | ⟨b,h,h'⟩
   ·rw [h];simp [Value.ownBlock]
   ·rw [h];intro e;have:=Option.some.inj e;omega
  have ho6:OwnN (w5.setCell ⟨w.heap.size,0,none⟩ (.slice av5 row.length cap5)) w.heap.size (.slice av5 row.length cap5) row:=World.ownsRow.kept ho5' (zAQ w5 w.heap.size 0 _) (Or.inr hne);have hrd6:=ho6.rd;clear RW hg5 hob ho5';have l5:=pl5.2.1 0 _ rfl;have c5:=pc5.2.1 0 _ rfl;have a5:=pa5.2.1 0 _ rfl;have fl5:=pl5.2.2 0 (by simp);have fc5:=pc5.2.2 0 (by simp);have fa5:=pa5.2.2 0 (by simp);have pl6:=(pl5).set 0 (.slice av5 row.length cap5);have pc6:=AtL.far (pc5) (j:=w.heap.size) (by omega) 0 (.slice av5 row.length cap5);have pa6:=AtL.far (pa5) (j:=w.heap.size) (by omega) 0 (.slice av5 row.length cap5);have hB6:=(hB5).setCell (p:=⟨w.heap.size,0,none⟩) (show w.heap.size<=w.heap.size by omega) (.slice av5 row.length cap5);have CK:=zD9 av5 cap5 row _ (by omega) hrow.1 (hE.below hB6).1 hrd6;go_wp2_with fail
  refine CK.mono ?_;rintro e w7 ⟨rfl,hb⟩;have pl7:=pl6.below hb;have pc7:=pc6.below hb;have pa7:=pa6.below hb;have ho7:=ho6.below hb;have hB7:=zAA hB6 hb;have hs7:=hb.size;simp only [World.size_setCell] at hs7;clear hb CK pl6 pc6 pa6 ho6 hB6 hrd6 pl5 pc5 pa5 hB5 l5 c5 a5 fl5 fc5 fa5 pl4 pc4 pa4 hB4;have HR2:Hid (R=if Wt.check row=0 then .inl row else .inr (Wt.check row,0)):=by
   show R=_
   rw [HR.out];unfold zIe;rw [hpa]
  clear HR hpa;generalize Wt.check row=ck at *;have l7:=pl7.2.1 0 _ rfl;have c7:=pc7.2.1 0 _ rfl;have a7:=pa7.2.1 0 _ rfl;have fl7:=pl7.2.2 0 (by simp);have fc7:=pc7.2.2 0 (by simp);have fa7:=pa7.2.2 0 (by simp);by_cases hck:ck=0
  ·subst hck;rw [if_pos rfl] at HR2;go_wp2;have ho8:OwnN (((((w7).setCell ⟨w.heap.size+1,0,none⟩ (.int .i64 0)).setCell ⟨w.heap.size,0,none⟩ (.slice av5 row.length cap5)).setCell ⟨w.heap.size+1,0,none⟩ (.int .i64 0)).setCell ⟨w.heap.size+1+1,0,none⟩ (.int .i64 0)) w.heap.size (.slice av5 row.length cap5) row:=(World.ownsRow.kept ((World.ownsRow.kept ((World.ownsRow.kept ((World.ownsRow.kept (ho7) (zAQ _ (w.heap.size+1) 0 (.int .i64 0)) (Or.inr hne1))) (zAQ _ (w.heap.size) 0 (.slice av5 row.length cap5)) (Or.inr hne))) (zAQ _ (w.heap.size+1) 0 (.int .i64 0)) (Or.inr hne1))) (zAQ _ (w.heap.size+1+1) 0 (.int .i64 0)) (Or.inr hne2))
   have pl8:=AtL.far (AtL.far ((AtL.far (pl7) (j:=w.heap.size+1) (by omega) 0 (.int .i64 0)).set 0 (.slice av5 row.length cap5)) (j:=w.heap.size+1) (by omega) 0 (.int .i64 0)) (j:=w.heap.size+1+1) (by omega) 0 (.int .i64 0);have pc8:=AtL.far ((AtL.far ((pc7).set 0 (.int .i64 0)) (j:=w.heap.size) (by omega) 0 (.slice av5 row.length cap5)).set 0 (.int .i64 0)) (j:=w.heap.size+1+1) (by omega) 0 (.int .i64 0);have pa8:=(AtL.far (AtL.far (AtL.far (pa7) (j:=w.heap.size+1) (by omega) 0 (.int .i64 0)) (j:=w.heap.size) (by omega) 0 (.slice av5 row.length cap5)) (j:=w.heap.size+1) (by omega) 0 (.int .i64 0)).set 0 (.int .i64 0);have hB8:=((((hB7).setCell (p:=⟨w.heap.size+1,0,none⟩) (show w.heap.size<=w.heap.size+1 by omega) (.int .i64 0)).setCell (p:=⟨w.heap.size,0,none⟩) (show w.heap.size<=w.heap.size by omega) (.slice av5 row.length cap5)).setCell (p:=⟨w.heap.size+1,0,none⟩) (show w.heap.size<=w.heap.size+1 by omega) (.int .i64 0)).setCell (p:=⟨w.heap.size+1+1,0,none⟩) (show w.heap.size<=w.heap.size+1+1 by omega) (.int .i64 0);generalize (((((w7).setCell ⟨w.heap.size+1,0,none⟩ (.int .i64 0)).setCell ⟨w.heap.size,0,none⟩ (.slice av5 row.length cap5)).setCell ⟨w.heap.size+1,0,none⟩ (.int .i64 0)).setCell ⟨w.heap.size+1+1,0,none⟩ (.int .i64 0))=W8 at *;refine leaves_cons (f:=34) (args:=#[.pointer (some ⟨w.heap.size,0,none⟩),.pointer (some ⟨w.heap.size+1,0,none⟩),.pointer (some ⟨w.heap.size+1+1,0,none⟩)]) (by simp) (by simp [go_sem]) ?_
   refine (zDr _ _ _ _).mono ?_;rintro e u' w9 ⟨rfl,rfl,hb⟩;have pl9:=pl8.below hb;have pc9:=pc8.below hb;have pa9:=pa8.below hb;have hB9:=zAA hB8 hb;have ho9:=ho8.below hb;rw [HR2.out];simp only [zCC];simp [Leaves,settle];exact ⟨_,zRc _ _ _ _ _ _ _ _ rfl rfl rfl rfl pl9 pc9 pa9,⟨_,rfl,ho9⟩,hB9⟩
  ·have hci:(ck != 0)=true:=by simp [hck]
   rw [if_neg hck] at HR2;go_wp2;go_region
   go_wp2;have pl8:=(AtL.far (AtL.far ((AtL.far (pl7) (j:=w.heap.size+1) (by omega) 0 (.int .i64 ck)).set 0 (.slice none 0 0)) (j:=w.heap.size+1) (by omega) 0 (.int .i64 ck)) (j:=w.heap.size+1+1) (by omega) 0 (.int .i64 0)).drew;have pc8:=(AtL.far ((AtL.far ((pc7).set 0 (.int .i64 ck)) (j:=w.heap.size) (by omega) 0 (.slice none 0 0)).set 0 (.int .i64 ck)) (j:=w.heap.size+1+1) (by omega) 0 (.int .i64 0)).drew;have pa8:=((AtL.far (AtL.far (AtL.far (pa7) (j:=w.heap.size+1) (by omega) 0 (.int .i64 ck)) (j:=w.heap.size) (by omega) 0 (.slice none 0 0)) (j:=w.heap.size+1) (by omega) 0 (.int .i64 ck)).set 0 (.int .i64 0)).drew;have hB8:=(((((hB7).setCell (p:=⟨w.heap.size+1,0,none⟩) (show w.heap.size<=w.heap.size+1 by omega) (.int .i64 ck)).setCell (p:=⟨w.heap.size,0,none⟩) (show w.heap.size<=w.heap.size by omega) (.slice none 0 0)).setCell (p:=⟨w.heap.size+1,0,none⟩) (show w.heap.size<=w.heap.size+1 by omega) (.int .i64 ck)).setCell (p:=⟨w.heap.size+1+1,0,none⟩) (show w.heap.size<=w.heap.size+1+1 by omega) (.int .i64 0)).drew;generalize (((((w7).setCell ⟨w.heap.size+1,0,none⟩ (.int .i64 ck)).setCell ⟨w.heap.size,0,none⟩ (.slice none 0 0)).setCell ⟨w.heap.size+1,0,none⟩ (.int .i64 ck)).setCell ⟨w.heap.size+1+1,0,none⟩ (.int .i64 0)).drew=W8 at *;refine leaves_cons (f:=34) (args:=#[.pointer (some ⟨w.heap.size,0,none⟩),.pointer (some ⟨w.heap.size+1,0,none⟩),.pointer (some ⟨w.heap.size+1+1,0,none⟩)]) (by simp) (by simp [go_sem]) ?_
   refine (zDr _ _ _ _).mono ?_;rintro e u' w9 ⟨rfl,rfl,hb⟩;have pl9:=pl8.below hb;have pc9:=pc8.below hb;have pa9:=pa8.below hb;have hB9:=zAA hB8 hb;rw [HR2.out];simp only [zCC];simp [Leaves,settle];exact ⟨_,zRc _ _ _ _ _ _ _ _ rfl rfl rfl rfl pl9 pc9 pa9,rfl,hB9⟩
theorem zEn:∀ (n:Nat) (p:Nat) (l:List UInt8),l.length<=n->∀ c q,Wlx.scan p l=.inr (c,q)->c ≠ 0:=by
 intro n;induction n with
 | zero=>intro p l h c q hs;obtain rfl:=List.eq_nil_of_length_eq_zero (Nat.le_zero.1 h);rw [Wlx.scan_nil] at hs;cases hs
 | succ n ih =>
  intro p l h c q hs;cases l with
  | nil=>rw [Wlx.scan_nil] at hs;cases hs
  | cons b t =>
   rw [Wlx.scan_cons] at hs;simp only [List.length_cons] at h;split at hs
   ·exact ih _ t (by omega) _ _ hs
   split at hs
   ·simp only [Wlx.Res.err,Sum.inr.injEq,Prod.mk.injEq] at hs;have:=hs.1;split at this <;> omega
   rename_i h6
   split at hs
   ·simp only [Wlx.Res.err,Sum.inr.injEq,Prod.mk.injEq] at hs;omega
   have hp:=Wlx.hit_pos h6;generalize Wlx.sz (Wlx.hit (b::t)) (b::t)=m at *;generalize hR:Wlx.scan (p+m) ((b::t).drop m)=R at hs;cases R with
   | inl us=>cases hs
   | inr q' =>
    obtain ⟨c',p'⟩:=q';simp only [Wlx.Res.cons,Sum.inr.injEq,Prod.mk.injEq] at hs;have:=ih (p+m) ((b::t).drop m) (by rw [List.length_drop];simp only [List.length_cons];omega) _ _ hR;rw [<-hs.1];exact this
theorem zDe {l:List UInt8} {c p:Nat} (h:zAX l=.inr (c,p)):c ≠ 0:=by
 unfold zAX at h;split at h
 ·simp only [Wlx.Res.err,Sum.inr.injEq,Prod.mk.injEq] at h;omega
 ·exact zEn _ 0 l (Nat.le_refl _) _ _ h
theorem zJV (b:ByteArray) (w:World) (hE:Env w) (hs:b.size<=9223372036854775807) (hk8:8<=w.heap.size):Calls prog 19 #[.string b] w λe w'=>zCC w.heap.size (zH7 b.data.toList) e w'/\Below w.heap.size w w':=by
 unfold zH7;cases hr:zAX b.data.toList with
 | inr q =>
  obtain ⟨c,p⟩:=q;exact (zJD b w hE hs c p (zDe hr) hr).mono λe w' h=>⟨h.1,h.2⟩
 | inl ts =>
  have:=zIX b w hE hs ts hk8 hr;have e:b.data.toList.length=b.size:=by rw [Array.length_toList];rfl
  rw [e];exact this
theorem RdN.flat (h:RdN w av L):∀ ad,av=some ad->∀ j u,(zA6 L)[j]? = some u->w.cell? (ad.add j)=some u:=by
 intro ad had j u hu;have hj:j<L.length * 20:=by
  have:=(List.getElem?_eq_some_iff.1 hu).1;rw [zA5] at this;exact this
 have hd:j / 20<L.length:=by omega
 obtain ⟨bb,off,e,hc⟩:=h (j / 20) hd;rw [had] at e;obtain rfl:=Option.some.inj e;have h1:=zD2 L (j / 20) hd (j % 20) (Nat.mod_lt _ (by omega));rw [show j / 20 * 20+j % 20=j by omega,hu] at h1;have h2:=hc (j % 20) u h1.symm;rw [show off+j / 20 * 20+j % 20=off+j by omega] at h2;rw [Addr.add_mid];exact h2
theorem zDm (l:List Wt.Nd):∀ u ∈ zA6 l,u.oneCell'=true:=by
 intro u hu;unfold zA6 at hu;obtain ⟨x,_,hu⟩:=List.mem_flatMap.1 hu;exact zNG x u hu
theorem zDd {base n cap g size:Nat} {e:TypeId}:∀ (vs:List Value) (o:Nat) {w:World} {xs:List Value},w.ownsRow base e size (.slice (some ⟨g,0,none⟩) n cap) n xs->(w.setCells g o vs).ownsRow base e size (.slice (some ⟨g,0,none⟩) n cap) n (zOq xs o vs)
 | [],o,w,xs,h=>h
 | v::r,o,w,xs,h=>by
  rw [World.setCells,zOq];exact zDd r (o+1) (World.ownsRow.stored h o v).1
theorem zHH:∀ (vs us P S:List Value),us.length=vs.length->zOq (P++(us++S)) P.length vs=P++(vs++S)
 | [],us,P,S,h=>by
  have:us=[]:=List.eq_nil_of_length_eq_zero h;subst this;rfl
 | v::r,[],P,S,h=>by cases h
 | v::r,u::us,P,S,h=>by
  have e:(P++(u::us++S)).set P.length v=(P++[v])++(us++S):=by
   rw [List.set_append_right _ _ (Nat.le_refl _),Nat.sub_self];simp
  rw [zOq,e];have:=zHH r us (P++[v]) S (by simpa using h);rw [List.length_append,List.length_singleton] at this;rw [this];simp
theorem OwnN.put {x:Wt.Nd} (h:OwnN w B (.slice (some ⟨g,0,none⟩) n cap) (A++x::R)) (hn:n=(A++x::R).length) (k:Nat) (hk:k=A.length) (y:Wt.Nd) :
  OwnN (w.setCells g (k * 20) (zAE y)) B (.slice (some ⟨g,0,none⟩) n cap) (A++y::R):=by
 subst hk hn;unfold OwnN at h ⊢;have e:(A++x::R).length=(A++y::R).length:=by simp
 have h1:=zDd (zAE y) (A.length * 20) h;have e1:zA6 (A++x::R)=zA6 A++(zAE x++zA6 R):=by simp [zA6]
 have e2:zA6 (A++y::R)=zA6 A++(zAE y++zA6 R):=by simp [zA6]
 rw [e1,show A.length * 20=(zA6 A).length from (zA5 A).symm,zHH (zAE y) (zAE x) _ _ rfl] at h1;rw [e2,<-e];rw [zA5] at h1;exact h1
theorem OwnN.at (h:OwnN w B (.slice (some ⟨g,0,none⟩) n cap) L) (hn:n=L.length) (i:Nat) (hi:i<L.length):w.rangeAt g (i * 20) (zAE L[i])/\w.there g (i * 20) 20:=by
 subst hn;have hc:∀ j,j<20->w.cell? ⟨g,i * 20+j,none⟩=(zAE L[i])[j]?:=λj hj=>by
  rw [World.ownsRow.cellAt h _ (by omega)];exact zD2 L i hi j hj
 refine ⟨λj v hv=>?_,λj hj=>⟨?_,World.ownsRow.frozenAt h _⟩⟩
 ·have hj:j<20:=by
   have:=(List.getElem?_eq_some_iff.1 hv).1;exact this
  rw [hc j hj,hv]
 ·rw [hc j hj,List.getElem?_eq_getElem (show j<(zAE L[i]).length from hj)];rfl
theorem zJu (w:World) (ty:TypeId) (g n:Nat) (a:Addr) (sCap:Nat) (cur:Array Value) (t:TypeId) (cs:List Value)
  (hg:w.heap[g]? = some (.cells cur t (0,0))) (hn:cs.length=n * 20) (hsrc:∀ j v,cs[j]? = some v->w.cell? (a.add j)=some v) (hfit:cur.size=cs.length) (h1:∀ v ∈ cs,v.oneCell'=true) :
  (Builtin.copy_ #[22,22] ty #[.slice (some ⟨g,0,none⟩) n n,.slice (some a) n sCap]).run prog w=.ok (goInt n) (w.setRow g cs.toArray):=by
 have hl:=run_loadCells_list (P:=prog) w a cs hsrc;have hst:=run_storeCells_at prog g 0 t cs 0 cur w hg (by omega) h1;have e0:cur.toList.drop cs.length=[]:=List.drop_eq_nil_of_le (by simp;omega);simp only [Nat.zero_add,List.take_zero,List.nil_append,e0,List.append_nil] at hst;obtain ⟨i,hi,hz0,hz1,hz2⟩:=info_parts zCe;rw [hn] at hl;simp [Builtin.copy_,run_underlying underlying22,Builtin.lenOf,Builtin.firstCells,sizeOf,typeInfo,hi,hz1,hl,hst]
theorem zO7 {cur:Array Value} (hg:w.heap[g]? = some (.cells cur 30 (0,0))) (hBg:B<=g) (hmx:L.length<=maxLen):OwnN (w.setRow g (zA6 L).toArray) B (.slice (some ⟨g,0,none⟩) L.length L.length) L:=by
 refine ⟨zA5 L,.inr ⟨g,L.length,(zA6 L).toArray,rfl,hBg,setRow_heap w g _ _ _ _ hg,Nat.le_refl _,hmx,by simp [zA5],?_⟩⟩;simp;exact List.take_of_length_le (by rw [zA5];exact Nat.le_refl _)
theorem zJa {w0:World} (hb:Below B w0 w) (hBg:B<=g) (cs:Array Value):Below B w0 (w.setRow g cs):=hb.trans ⟨rfl,rfl,rfl,by simp [World.setRow],λk hk=>setRow_other w g k _ (by omega)⟩
theorem zNt {q:Wt.Nd} (i:Nat) (hi:i=A.length) (h:i<(A++q::R).length):(A++q::R)[i]=q:=by subst hi;simp
def mvI (x y:Int) (L:List Wt.Nd) (i:Nat):List Wt.Nd:=(L.take i).map (mvN x y)++L.drop i
theorem zOC (x y:Int) (L:List Wt.Nd) (i:Nat):(mvI x y L i).length=L.length:=by unfold mvI;simp;omega
theorem zJ8 (av:Option Addr) (cap:Nat) (L:List Wt.Nd) (x y:Int) (w:World) (hF:∀ n ∈ L,Wt.FitN n) (hO:OpsAt w) (hr:RdN w av L) (hc:Wt.check L=0) :
  Calls prog 6 #[.slice av L.length cap,.int .i64 x,.int .i64 y] w λe w'=>(∃ v,e=.returned (.tuple #[v,.int .i64 0])/\OwnN w' w.heap.size v (L.map (mvN x y)))/\Below w.heap.size w w':=by
 obtain ⟨h256,d,hone,-⟩:=zAa hc;have hpos:0<L.length:=by have:=zC2 _ _ _ _ hone;omega
 have CK:=zD9 av cap L w (by omega) hF hO hr;rw [hc] at CK;have HR:Hid (RdN w av L):=hr;have HF:Hid (∀ n ∈ L,Wt.FitN n):=hF;have H256:True->L.length<=256:=λ_=>h256
 obtain ⟨i0,hi0,hz0,hz1,hz2⟩:=info_parts zCe;clear hone hc hF hr h256;go_enter func6,ntmps6;go_wp2_with fail
 refine CK.mono ?_;rintro e w1 ⟨rfl,hb1⟩;have hr1:Hid (RdN w1 av L):=HR.out.below hb1;clear CK HR;go_wp2_with (refine wpList_make_full w1 rfl (.tmp 19) (.tmp 19) 22 rfl w1.heap.size 30 i0 _ 20 underlying22 hi0 hz0 hz1 .i64 .i64 _ _ L.length rfl rfl rfl rfl (by rw [hz2];have:=H256 trivial;omega) (by have:=H256 trivial;unfold maxLen;omega) (Nat.le_refl _) ?_)
 intro w2 own2 hg2;obtain ⟨cur,hcur,hcs⟩:∃ cur,w2.heap[w1.heap.size]? = some (.cells cur 30 (0,0))/\cur.size=L.length * 20:=by
  rcases own2.2 with ⟨e,_⟩ | ⟨g,cap',cur,e,_,hg,_,_,hs,_⟩
  ·cases e
  ·simp only [Value.slice.injEq,Option.some.injEq,Addr.mk.injEq] at e;obtain ⟨⟨rfl,-,-⟩,-,rfl⟩:=e;exact ⟨cur,hg,hs⟩
 have hb2:Below w1.heap.size w1 w2:=⟨hg2.os,hg2.tape,hg2.output,hg2.size,λk hk=>hg2.block k hk (by simp)⟩
 have hr2:RdN w2 av L:=hr1.out.below hb2;have hB2:=zAA hb1 hb2;have hs1:=hb1.size;clear own2 hg2 hr1 hb2 hi0 hz0 hz1 hz2 i0;obtain ⟨bb,off,rfl,-⟩:=hr2 0 hpos;have hrun:=zJu w2 3 w1.heap.size L.length ⟨bb,off,none⟩ cap cur 30 (zA6 L) hcur (zA5 L) (hr2.flat _ rfl) (by rw [zA5];exact hcs) (zDm L);have own3:OwnN (w2.setRow w1.heap.size (zA6 L).toArray) w.heap.size (.slice (some ⟨w1.heap.size,0,none⟩) L.length L.length) L:=zO7 hcur hs1 (by have:=H256 trivial;unfold maxLen;omega);have hB3:Below w.heap.size w (w2.setRow w1.heap.size (zA6 L).toArray):=zJa hB2 hs1 _;go_upto_region 6 with fail
 generalize w2.setRow w1.heap.size (zA6 L).toArray=w3 at *;have hlt3:w1.heap.size<w3.heap.size:=(World.ownsRow.lt own3 w1.heap.size rfl).2;clear hr2 hcur hcs hB2 hrun cur;generalize w1.heap.size=g at *;have hown:Hid (OwnN (w3.alloc (.cells #[.int .i64 x,.int .i64 y] 50)) w.heap.size (.slice (some ⟨g,0,none⟩) L.length L.length) (mvI x y L 0)):=OwnN.below own3 (zAI (Below.refl _ _) _);have hway:AtL (w3.alloc (.cells #[.int .i64 x,.int .i64 y] 50)) w3.heap.size [.int .i64 x,.int .i64 y]:=AtL.new0 _ _ _;have hBl:=zAI hB3 (.cells #[.int .i64 x,.int .i64 y] 50);have hk3:w.heap.size<=w3.heap.size:=hB3.size;clear own3 hB3;go_upto_region 8 with fail
 generalize w3.alloc (.cells #[.int .i64 x,.int .i64 y] 50)=W at *;generalize w3.heap.size=kw at *;go_loopg [29] (L.length) (λgk v wr=>∃ i:Nat,v=.int .i64 i/\gk=L.length - i/\i<=L.length/\Hid (OwnN wr w.heap.size (.slice (some ⟨g,0,none⟩) L.length L.length) (mvI x y L i))/\AtL wr kw [.int .i64 x,.int .i64 y]/\Below w.heap.size w wr)
 case atStart=>exact ⟨0,rfl,by omega,Nat.zero_le _,hown,hway,hBl⟩
 case round =>
  clear hown hway hBl;obtain ⟨i,rfl,hg,hi,HO,pW,hB⟩:=hrel;by_cases hlt:i<L.length
  ·have hli:(i:Int)<(L.length:Int):=by omega
   have hi0:(0:Int)<=(i:Int):=by omega
   have hwi:IntKind.i64.wrap ((i:Int)+1)=(i:Int)+1:=by rw [IntKind.wrap_i64];have:=H256 trivial;omega
   have hil:i<L.length:=by omega
   have own:=HO.out;obtain ⟨q,hq⟩:∃ q,L[i]=q:=⟨_,rfl⟩
   have hsp:mvI x y L i=(L.take i).map (mvN x y)++q::L.drop (i+1):=by unfold mvI;rw [List.drop_eq_getElem_cons hil,hq]
   have hnx:mvI x y L (i+1)=(L.take i).map (mvN x y)++mvN x y q::L.drop (i+1):=by
    unfold mvI;rw [List.take_add_one,List.getElem?_eq_getElem hil,hq];simp
   have HNX:Hid (mvI x y L (i+1)=(L.take i).map (mvN x y)++mvN x y q::L.drop (i+1)):=hnx;rw [hsp] at own;have hlen:L.length=((L.take i).map (mvN x y)++q::L.drop (i+1)).length:=by rw [<-hsp,zOC]
   have hla:i=((L.take i).map (mvN x y)).length:=by simp;omega
   obtain ⟨c1,t1⟩:=own.at hlen i (by omega);have hqq:=zNt (A:=(L.take i).map (mvN x y)) (R:=L.drop (i+1)) (q:=q) i hla (by omega);rw [hqq] at c1;have HOWN:Hid (OwnN wr w.heap.size (.slice (some ⟨g,0,none⟩) L.length L.length) ((L.take i).map (mvN x y)++q::L.drop (i+1))):=own;have HLEN:Hid (L.length=((L.take i).map (mvN x y)++q::L.drop (i+1)).length):=hlen;have HLA:Hid (i=((L.take i).map (mvN x y)).length):=hla;have hgw:g<wr.heap.size:=(World.ownsRow.lt own g rfl).2;have sT:(wr.alloc (.cells zN0 30)).there wr.heap.size 0 (zAE q).toArray.size:=(AtL.new0 wr 30 [.int .i64 0,.int .i64 0,.int .i64 0,.int .i64 0,.string ⟨#[]⟩,.bool false,.int .i64 0,.int .i64 0,.string ⟨#[]⟩,.int .i64 0,.string ⟨#[]⟩,.int .i64 0,.int .i64 0,.bool false,.bool false,.string ⟨#[]⟩,.int .i64 0,.int .i64 0,.bool false,.bool false]).there;clear HO hsp hnx hlen hla own hqq hq t1;go_upto_region 10 with (first | ((with_reducible refine wpList_load_mid (cs:=zAE q) ?_ 30 (.tmp 32) ?_ (g) (i * 20) ?_ _ ?_ underlying30 ?_ ?_ ?_);rfl;rfl;rfl;exact c1;rfl;kernel_rfl) | ((with_reducible refine wpList_store_mid ?_ 30 (.tmp 12) (.tmp 33) ?_ (wr.heap.size) 0 (zAE q).toArray ?_ ?_ ?_ ?_ ?_ ?_);rfl;rfl;rfl;rfl;exact sT;kernel_rfl;exact zA4 _))
   have pN:=(AtL.new0 wr 30 [.int .i64 0,.int .i64 0,.int .i64 0,.int .i64 0,.string ⟨#[]⟩,.bool false,.int .i64 0,.int .i64 0,.string ⟨#[]⟩,.int .i64 0,.string ⟨#[]⟩,.int .i64 0,.int .i64 0,.bool false,.bool false,.string ⟨#[]⟩,.int .i64 0,.int .i64 0,.bool false,.bool false]).setAll (vs:=zAE q) rfl;have pW1:=(pW.alloc (.cells zN0 30)).farAll (b:=wr.heap.size) (by have:=pW.lt;omega) 0 (zAE q);have hB1:=zAg (zAI hB (.cells zN0 30)) (k:=wr.heap.size) (by have:=hB.size;omega) (zAE q) 0;have HO1:Hid (OwnN ((wr.alloc (.cells zN0 30)).setCells wr.heap.size 0 (zAE q)) w.heap.size (.slice (some ⟨g,0,none⟩) L.length L.length) ((L.take i).map (mvN x y)++q::L.drop (i+1))):=HOWN.out.below (zAg (zAI (Below.refl _ wr) _) (Nat.le_refl _) _ _);generalize (wr.alloc (.cells zN0 30)).setCells wr.heap.size 0 (zAE q).toArray.toList=W1 at *;generalize wr.heap.size=kn at *;clear HOWN c1 sT pW hB;obtain ⟨b0,b1,k0,k1⟩:=AtL.two pW1;have rN:=AtL.range pN;have C:=zLA x y q W1;go_wp2_with ((with_reducible refine wpList_load_mid (cs:=zAE q) ?_ 30 (.tmp 12) ?_ (kn) 0 ?_ _ ?_ underlying30 ?_ ?_ ?_);rfl;rfl;rfl;exact rN;rfl;kernel_rfl)
   refine C.mono ?_;rintro e w4 ⟨rfl,hb4⟩;have HO4:=HO1.out.below hb4;have pW4:=AtL.below hb4 pW1;have hB4:=zAA hB1 hb4;obtain ⟨c4,t4⟩:=HO4.at HLEN.out i (by have:=HLEN.out;omega);have u4:w4.there g (i * 20) (zAE (mvN x y q)).toArray.size:=t4;have HO5:Hid (OwnN (w4.setCells g (i * 20) (zAE (mvN x y q))) w.heap.size (.slice (some ⟨g,0,none⟩) L.length L.length) (mvI x y L (i+1))):=by
    show OwnN _ _ _ _
    rw [HNX.out];exact HO4.put HLEN.out i HLA.out (mvN x y q)
   have hwg:kw ≠ g:=by omega
   have pW5:=pW4.farAll (b:=g) (Ne.symm hwg) (i * 20) (zAE (mvN x y q));have hB5:=zAg hB4 (k:=g) (by omega) (zAE (mvN x y q)) (i * 20);clear HO4 HO1 pW4 hB4 c4 t4 C hb4 b0 b1 k0 k1 rN pN pW1 hB1;go_wp2_with ((with_reducible refine wpList_store_mid ?_ 30 (.tmp 39) (.tmp 38) ?_ (g) (i * 20) (zAE (mvN x y q)).toArray ?_ ?_ ?_ ?_ ?_ ?_);rfl;rfl;rfl;rfl;exact u4;kernel_rfl;exact zA4 _)
   go_roundg (L.length - (i+1))
   case rel=>exact ⟨i+1,by simp,rfl,by omega,HO5,pW5,hB5⟩
   case measure=>omega
  ·have hli:¬ (i:Int)<(L.length:Int):=by omega
   have hin:Hid (i=L.length):=by show _=_;omega
   have own:=HO.out;have e:mvI x y L i=L.map (mvN x y):=by unfold mvI;have:=hin.out;rw [List.take_of_length_le (by omega),List.drop_eq_nil_of_le (by omega),List.append_nil]
   rw [e] at own;have HOWN:Hid (OwnN wr w.heap.size (.slice (some ⟨g,0,none⟩) L.length L.length) (L.map (mvN x y))):=own;clear own e HO;go_wp2;go_ret2
   exact ⟨⟨_,rfl,HOWN.out⟩,hB⟩
end Go.Proofs.YtdghjlmnlodnlaaGreatDoor
